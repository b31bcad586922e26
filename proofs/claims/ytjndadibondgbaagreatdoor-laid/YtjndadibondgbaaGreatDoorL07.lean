import Derived.Test.YtjndadibondgbaaGreatDoorL06
set_option linter.all false
set_option maxRecDepth 100000
set_option maxHeartbeats 16000000
namespace Go.Proofs.Zz
open Go.RowKit Go.Shelf
variable {c:Value->Array Value} {f k lc mb n qb r:Nat} {A A1 B S W0:World} {p:Int} {v v':Value} {lo:Option Addr} {l xs:List Int} {ts:List af} {e tq:TypeId} {ls:List az}
def yJ(c n:Int):Int:=Int.tmod (if c<0 then -(c+1) else c) n
theorem Be{c n:Int}(hn:0<n):0<=yJ c n/\yJ c n<n:=by
 unfold yJ;have h:0<=(if c<0 then -(c+1) else c):=by split <;> omega
 exact⟨Int.tmod_nonneg _ h,Int.tmod_lt_of_pos _ hn⟩
theorem gU{p:Addr}(h:A.cell? p=some v)(hk:Kept (fun _=>True) A B):B.cell? p=some v:=
 (Q4 (hk.block _ (Q3 h) trivial)).trans h
theorem Dc{A B:World}{p:Addr}{v:Value}{n:Nat}(h:A.cell? p=some v)(hk:Kept (fun b=>b≠n) A B)(hp:p.block≠n):B.cell? p=some v:=
 (Q4 (hk.block _ (Q3 h) hp)).trans h
structure aH(mb:Nat)(lo:Option Addr)(lc:Nat)(l:List Int)(W:World):Prop where
 num:∃ k:Nat,k<=l.length/\W.cell? (aD mb 1)=some (.int .i64 k)
 VL:W.cell? (aD mb 0)=some (.slice lo l.length lc)
 thaw:W.frozen? (aD mb 1)=false
 ints:aI W lo l
 off:∀ a,lo=some a->a.block≠mb
theorem aH.keep{mb:Nat}{lo:Option Addr}{lc:Nat}{l:List Int}{A B:World}(h:aH mb lo lc l A)(hk:Kept (fun _=>True) A B):aH mb lo lc l B:=by
 obtain⟨k,b,d⟩:=h.num;exact⟨⟨k,b,gU d hk⟩,gU h.VL hk,(Zt (a:=(aD mb 1)) (hk.block mb (Q3 (p:=(aD mb 0)) h.VL) trivial)).trans h.thaw,⟨h.ints.1,h.ints.2.keep fun a f e=>hk.block _ e trivial⟩,h.off⟩
theorem aH.more(h:aH mb lo lc l A)(hk:k<=l.length):aH mb lo lc l (A.setCell (aD mb 1) (.int .i64 k)):=by
 obtain⟨m,_,f⟩:=h.num;have d:Kept (fun b=>b≠mb) A (A.setCell (aD mb 1) (.int .i64 k)):=⟨rfl,rfl,rfl,by simp[World.setCell],fun b _ i=>Below.heap_setCell A _ _ b i⟩
 refine⟨⟨k,hk,World.cell?_setCell_same' _ _ _ (by rw[f]; rfl)⟩,?_,by rw[World.frozen?_setCell]; exact h.thaw,⟨h.ints.1,h.ints.2.keep fun a j g=>d.block _ g (h.off a j)⟩,h.off⟩;exact(World.cell?_setCell_other A (aD mb 1) (aD mb 0) (.int .i64 k) (fun e=>by cases e)).trans h.VL
theorem Hd(c n:Int)(w:World)(hn:0<n)(hc:-9223372036854775808<=c/\c<=9223372036854775807) :
  Ce 8 #[.int .i64 c,.int .i64 n] w (.int .i64 (yJ c n)):=by
 have d:¬ n=0:=by omega
 by_cases b:c<0
 ·have e:wrap64 (c+1)=c+1:=by unfold wrap64; omega
  have f:wrap64 (-(c+1)) = -(c+1):=by unfold wrap64; omega
  have a:yJ c n = -((c+1).tmod n):=by unfold yJ; rw[Qu b,Int.neg_tmod]
  rw[a];clear a;go_enter Tryz.func8,Tryz.ntmps8;go_wp2;go_ret;exact⟨rfl,rfl⟩
 ·have a:yJ c n=c % n:=by unfold yJ; rw[Qv b,Int.tmod_eq_emod_of_nonneg (by omega)]
  rw[a];clear a;go_enter Tryz.func8,Tryz.ntmps8;go_wp2;go_ret;exact⟨rfl,rfl⟩
theorem abB(mb:Nat)(lo:Option Addr)(lc:Nat)(l:List Int)(n:Int)(W:World)(hm:aH mb lo lc l W)(hn:0<n)(hl:∀ x∈l,-9223372036854775808<=x/\x<=9223372036854775807) :
  Calls Tryz.prog 11 #[.pointer (some (aD mb 0)),.int .i64 n] W fun e E=>∃ k:Int,e=.returned (.int .i64 k)/\0<=k/\k<n/\aH mb lo lc l E/\Kept (fun b=>b≠mb) W E:=by
 obtain⟨k,L,p⟩:=hm.num;have s:=hm.VL;have F:=hm.thaw;have B:=hm.ints.1;have j:=Zh hm;have G:=Zh hl;clear hm hl;by_cases g:k<l.length
 ·have t:¬ (k:Int) ≥ (l.length:Int):=by omega
  obtain⟨b,off,rfl,q⟩:=j.o.ints.get g;have i:=q k g;have u:=G.o l[k] (Qk g);have C:l.getD k 0=l[k]:=by simp[List.getD,g]
  rw[C]at i;generalize l[k]=x at *;have v:b≠mb:=j.o.off _ rfl;clear q C;go_enter Tryz.func11,Tryz.ntmps11;go_wp2;go_quiet (fail);go_wp2;have a:=aH.more (aH.keep j.o (ZE W nq)) (k:=k+1) (by omega);have d:Kept (fun b=>b≠mb) W ((W.drewN nq).setCell (aD mb 1) (.int .i64 ((k+1:Nat):Int))):=(ZE W nq).trans ⟨rfl,rfl,rfl,by simp[World.setCell],fun b _ J=>Below.heap_setCell _ _ _ b J⟩;have w:=Dc i d v;obtain⟨r,f⟩:∃ r,(W.drewN nq).setCell (aD mb 1) (.int .i64 ((k+1:Nat):Int))=r:=⟨_,rfl⟩
  have m:(W.drewN nq).setCell (aD mb 1) (.int .i64 ((k:Int)+1))=r:=f;rw[f]at a d w;rw[m];obtain⟨M,_,A⟩:=a.num;have H:r.cell? (aD mb 1)=some (.int .i64 ((k:Int)+1)):=by
   rw[<- f];exact World.cell?_setCell_same' _ _ _ (by rw[gU p (ZE W nq)]; rfl)
  have K:=a.VL;have y:=Zh a;have I:=Zh d;clear a d f m A p s i j;have z:=fun W=>Hd x n W hn u
  go_quiet ((go_at_call 8; exact Calls.quiet_of_same (z _)));go_wp2;go_ret;have D:=Be (c:=x) hn;exact⟨_,rfl,D.1,D.2,aH.keep y.o (ZE _ _),I.o.trans (ZE _ _)⟩
 ·have t:(k:Int) ≥ (l.length:Int):=by omega
  go_enter Tryz.func11,Tryz.ntmps11;go_wp2;go_quiet (fail);go_wp2;go_ret;exact⟨0,rfl,by omega,hn,aH.keep j.o (ZE _ _),ZE _ _⟩
def ZI:=@Dc
def ZJ:=@abB
def J9:Array Value:=#[.int .i64 0,.int .i64 1,.int .i64 7,.int .i64 20,.int .i64 100,.int .i64 5000,.int .i64 1000000]
def Bf:Array Value:=#[.int .i64 1,.int .i64 2,.int .i64 5,.int .i64 10,.int .i64 1000000]
theorem ae4(h:r<7):∃ x:Int,J9[r]? = some (.int .i64 x)/\0<=x/\x<=1000000:=by
 match r,h with
 | 0,_ => exact⟨0,rfl,by omega,by omega⟩
 | 1,_ => exact⟨1,rfl,by omega,by omega⟩
 | 2,_ => exact⟨7,rfl,by omega,by omega⟩
 | 3,_ => exact⟨20,rfl,by omega,by omega⟩
 | 4,_ => exact⟨100,rfl,by omega,by omega⟩
 | 5,_ => exact⟨5000,rfl,by omega,by omega⟩
 | 6,_ => exact⟨1000000,rfl,by omega,by omega⟩
theorem abC(h:r<5):∃ x:Int,Bf[r]? = some (.int .i64 x)/\1<=x/\x<=1000000:=by
 match r,h with
 | 0,_ => exact⟨1,rfl,by omega,by omega⟩
 | 1,_ => exact⟨2,rfl,by omega,by omega⟩
 | 2,_ => exact⟨5,rfl,by omega,by omega⟩
 | 3,_ => exact⟨10,rfl,by omega,by omega⟩
 | 4,_ => exact⟨1000000,rfl,by omega,by omega⟩
theorem aH.lt(h:aH mb lo lc l A):mb<A.heap.size:=Q3 (p:=(aD mb 0)) h.VL
theorem aH.alloc{mb:Nat}{lo:Option Addr}{lc:Nat}{l:List Int}{A:World}(h:aH mb lo lc l A)(o:Obj):aH mb lo lc l (A.alloc o):=h.keep (QX _ _)
theorem aH.set(h:aH mb lo lc l A){G i:Nat}(v:Value)(h1:G≠mb)(h2:∀ a,lo=some a->a.block≠G):aH mb lo lc l (A.setCell (aD G i) v):=by
 have d:Kept (fun b=>b≠G) A (A.setCell (aD G i) v):=Zn _ _ _ (fun h=>h rfl);obtain⟨k,e,f⟩:=h.num;exact⟨⟨k,e,ZI f d (Ne.symm h1)⟩,ZI h.VL d (Ne.symm h1),(Zt (a:=(aD mb 1)) (d.block mb h.lt (Ne.symm h1))).trans h.thaw,⟨h.ints.1,h.ints.2.keep fun a j g=>d.block _ g (h2 a j)⟩,h.off⟩
structure De(t:af)(k:Nat):Prop where
 c1:1<=t.cols
 c3:t.cols<=3
 r0:0<=t.rows
 r1:t.rows<=1000000
 kd:∀ m,m<k->1<=t.kd m/\t.kd m<=1000000
 kz:(k<=0->t.k0=0)/\(k<=1->t.k1=0)/\(k<=2->t.k2=0)/\t.k3=0
theorem VM(mb:Nat)(lo:Option Addr)(lc:Nat)(l:List Int)(W:World)(hm:aH mb lo lc l W)(hl:∀ x∈l,-9223372036854775808<=x/\x<=9223372036854775807)(hlo:∀ a,lo=some a->a.block<W.heap.size) :
  Calls Tryz.prog 12 #[.pointer (some (aD mb 0))] W fun e W'=>∃ t:af,e=.returned (.agg t.vals)/\De t t.cols.toNat/\aH mb lo lc l W'/\Kept (fun b=>b≠mb) W W':=by
 have bD:=hm.lt;have J:=hm.alloc (.cells tz.vals 50);have K:=ZG W tz.vals 50;have L:Kept (fun b=>b≠mb) W (W.alloc (.cells tz.vals 50)):=QX _ _;obtain⟨W1,F⟩:=eX (W.alloc (.cells tz.vals 50))
 rw[F]at J K L;have ah:W1.heap.size=W.heap.size+1:=by rw[<- F]; simp
 have ai:=ZJ mb lo lc l 3 W1 J (by omega) hl;have aj:W.alloc (.cells #[.int .i64 0,.int .i64 0,.int .i64 0,.int .i64 0,.int .i64 0,.int .i64 0] 50)=W1:=F;have HL:=Zh hl;have rA:=Zh hlo;clear hl hlo J hm F;have Mm:=Zh ah;clear ah;go_enter Tryz.func12,Tryz.ntmps12;go_wp2_with fail;refine ai.mono ?_;rintro e j ⟨r,rfl,bJ,bB,Y,H⟩;clear aj ai;have MO:=L.trans H;have n:W.heap.size≠mb:=by omega
 have ak:=K.keep H n;have bE:wrap64 (1+r)=1+r:=by unfold wrap64; omega
 have bF:=H.size;have sM:=(Y.alloc (.cells #[.int .i64 (1+r),.int .i64 0,.int .i64 0,.int .i64 0,.int .i64 0,.int .i64 0] 50)).alloc (.cells J9 3);have M:=ZJ mb lo lc l 7 _ sM (by omega) HL.o;have N:GB ((j.alloc (.cells #[.int .i64 (1+r),.int .i64 0,.int .i64 0,.int .i64 0,.int .i64 0,.int .i64 0] 50)).alloc (.cells J9 3)) j.heap.size 50 #[.int .i64 (1+r),.int .i64 0,.int .i64 0,.int .i64 0,.int .i64 0,.int .i64 0]:=
  (ZG _ _ _).keep (QX (s:=fun _=>True) _ _) trivial
 have O:GB ((j.alloc (.cells #[.int .i64 (1+r),.int .i64 0,.int .i64 0,.int .i64 0,.int .i64 0,.int .i64 0] 50)).alloc (.cells J9 3)) (j.heap.size+1) 3 J9:=by
  have:=ZG (j.alloc (.cells #[.int .i64 (1+r),.int .i64 0,.int .i64 0,.int .i64 0,.int .i64 0,.int .i64 0] 50)) J9 3
  rwa [QY]at this
 have C:∀ s,Kept s j ((j.alloc (.cells #[.int .i64 (1+r),.int .i64 0,.int .i64 0,.int .i64 0,.int .i64 0,.int .i64 0] 50)).alloc (.cells J9 3)):=fun s=>(QX _ _).trans (QX _ _)
 have P:=ak.keep (C (fun _=>True)) trivial;have bG:=Y.lt;obtain⟨W3,Z⟩:∃ W3,(j.alloc (.cells #[.int .i64 (1+r),.int .i64 0,.int .i64 0,.int .i64 0,.int .i64 0,.int .i64 0] 50)).alloc (.cells J9 3)=W3:=⟨_,rfl⟩
 rw[Z]at M N O P C;unfold J9 at Z;clear Y sM K ak L;go_wp2_with fail;refine M.mono ?_;rintro e W4 ⟨r2,rfl,bK,bC,aK,u⟩;clear Z M;obtain⟨rn,rfl⟩:∃ rn:Nat,r2=(rn:Int):=⟨r2.toNat,by omega⟩
 have aM:rn<7:=by omega
 have D:j.heap.size≠mb:=by omega
 have E:=N.keep u D;have au:=O.keep u (show j.heap.size+1≠mb by omega);have p:=P.keep u n;have av:=(MO.trans (C _)).trans u;obtain⟨x,hx,bu,bz⟩:=ae4 aM;have aN:=(au.cell rn).trans hx;have ax:=E.cell 1;have aO:=E.frozen 1;simp only[ZK,ZL,ZM]at ax;have ay:GB (W4.setCell (aD j.heap.size 1) (.int .i64 x)) j.heap.size 50 (⟨1+r,x,0,0,0,0⟩:af).vals:=E.set 1 _;have Aj:=aK.set (i:=1) (.int .i64 x) D (fun a ha=>by have:=rA.o a ha; have:=MO.size; omega);have az:Kept (fun b=>b≠mb) W (W4.setCell (aD j.heap.size 1) (.int .i64 x)):=av.bY MO.size _;have xG:GB (W4.setCell (aD j.heap.size 1) (.int .i64 x)) W.heap.size 50 tz.vals:=p.keep (s:=fun b=>b≠j.heap.size) (Zn _ _ _ (fun h=>h rfl)) (by have:=Mm.o; omega);have aP:Hid _:=ay;have RI:=Zh Aj;have aQ:=Zh az;have mP:Hid _:=xG;have RJ:=Zh MO;clear ay Aj az xG MO av au p P N O aK u C H;go_wp2;go_loopw [4] (fun i wr=>∃ (k:Nat) (t:af),i=.int .i64 k/\(k:Int)<=t.cols/\De t k/\GB wr j.heap.size 50 t.vals/\GB wr W.heap.size 50 tz.vals/\aH mb lo lc l wr/\Kept (fun b=>b≠mb) W wr) (fun i wr=>10-(intOf i).toNat)
 case atStart=>exact⟨0,⟨1+r,x,0,0,0,0⟩,rfl,by show (0:Int)<=1+r; omega,⟨by show 1<=1+r; omega,by show 1+r<=3; omega,bu,bz,fun m h=>by omega,fun _=>rfl,fun _=>rfl,fun _=>rfl,rfl⟩,aP.o,mP.o,RI.o,aQ.o⟩
 case round=>
  obtain⟨k,⟨cols,d,v,w,z,A⟩,rfl,bA,hT,g,p,B,I⟩:=hrel;have c0:=g.cell 0;have aA:(⟨cols,d,v,w,z,A⟩:af).vals[0]? = some (.int .i64 cols):=rfl;rw[aA]at c0;simp only at bA;have aR:=hT.c3;simp only at aR;clear aA E ax aO aN;by_cases bN:(k:Int)<cols
  ·have aS:k=0∨k=1∨k=2:=by omega
   have Df:=B.alloc (.cells Bf 3);have oN:=ZJ mb lo lc l 5 _ Df (by omega) HL.o;have Q:=g.keep (QX (s:=fun _=>True) wr (.cells Bf 3)) trivial;have R:=ZG wr Bf 3;have S:=p.keep (QX (s:=fun _=>True) wr (.cells Bf 3)) trivial;have jY:=I.trans (QX (s:=fun b=>b≠mb) wr (.cells Bf 3));have bH:=B.lt;obtain⟨W6,aa⟩:=eX (wr.alloc (.cells Bf 3))
   rw[aa]at oN Q R S jY;unfold Bf at aa;clear Df;go_wp2_with fail;refine oN.mono ?_;rintro e W7 ⟨r3,rfl,bL,bM,MQ,iU⟩;clear aa oN B;obtain⟨aL,rfl⟩:∃ rn:Nat,r3=(rn:Int):=⟨r3.toNat,by omega⟩
   have aT:aL<5:=by omega
   obtain⟨y,hy,ae,ag⟩:=abC aT;have q:=Q.keep iU D;have bI:=((R.keep iU (show wr.heap.size≠mb by omega)).cell aL).trans hy;have aB:=S.keep iU n;have aC:=jY.trans iU;have d0:=q.cell 2;have d1:=q.cell 3;have d2:=q.cell 4;have e0:=q.frozen 2;have e1:=q.frozen 3;have e2:=q.frozen 4;have VN:=fun i=>MQ.set (G:=j.heap.size) (i:=i) (.int .i64 y) D (fun a ha=>by have:=rA.o a ha; have:=RJ.o.size; omega)
   have mQ:=fun i=>aC.bY (G:=j.heap.size) (i:=i) RJ.o.size (.int .i64 y)
   have aF:=fun i=>aB.keep (s:=fun b=>b≠j.heap.size) (Zn W7 (aD j.heap.size i) (.int .i64 y) (fun h=>h rfl)) (by have:=Mm.o; omega)
   have aG:=fun i=>q.set i (.int .i64 y)
   have f0:(⟨cols,d,v,w,z,A⟩:af).vals[2]? = some (.int .i64 v):=rfl;have f1:(⟨cols,d,v,w,z,A⟩:af).vals[3]? = some (.int .i64 w):=rfl;have f2:(⟨cols,d,v,w,z,A⟩:af).vals[4]? = some (.int .i64 z):=rfl;rw[f0]at d0;rw[f1]at d1;rw[f2]at d2;have T:=Zh aG;have U:=Zh aF;have V:=Zh VN;have X:=Zh mQ;have f:=Zh hT;clear aG aF VN mQ hT f0 f1 f2 q aB aC MQ iU jY Q R S g p I c0;rcases aS with rfl | rfl | rfl
   ·go_wp2;go_roundw
    case rel=>exact⟨1,⟨cols,d,y,w,z,A⟩,rfl,by show (1:Int)<=cols; omega,⟨f.o.c1,f.o.c3,f.o.r0,f.o.r1,fun m hm=>by match m,hm with | 0,_=>exact⟨ae,ag⟩,fun h=>by omega,fun _=>f.o.kz.2.1 (by omega),fun _=>f.o.kz.2.2.1 (by omega),f.o.kz.2.2.2⟩,T.o 2,U.o 2,V.o 2,X.o 2⟩
    case measure=>simp[intOf]
   ·go_wp2;go_roundw
    case rel=>exact⟨2,⟨cols,d,v,y,z,A⟩,rfl,by show (2:Int)<=cols; omega,⟨f.o.c1,f.o.c3,f.o.r0,f.o.r1,fun m hm=>by
     match m,hm with
     | 0,_ => exact f.o.kd 0 (by omega)
     | 1,_ => exact⟨ae,ag⟩,fun h => by omega,fun h => by omega,fun _ => f.o.kz.2.2.1 (by omega),f.o.kz.2.2.2⟩,T.o 3,U.o 3,V.o 3,X.o 3⟩
    case measure=>simp[intOf]
   ·go_wp2;go_roundw
    case rel=>exact⟨3,⟨cols,d,v,w,y,A⟩,rfl,by show (3:Int)<=cols; omega,⟨f.o.c1,f.o.c3,f.o.r0,f.o.r1,fun m hm=>by
     match m,hm with
     | 0,_ => exact f.o.kd 0 (by omega)
     | 1,_ => exact f.o.kd 1 (by omega)
     | 2,_ => exact⟨ae,ag⟩,fun h => by omega,fun h => by omega,fun h => by omega,f.o.kz.2.2.2⟩,T.o 4,U.o 4,V.o 4,X.o 4⟩
    case measure=>simp[intOf]
  ·have aI:cols=(k:Int):=by omega
   have g0:=g.cell 0;have g1:=g.cell 1;have g2:=g.cell 2;have g3:=g.cell 3;have g4:=g.cell 4;have g5:=g.cell 5;have r0:=p.cell 0;have aU:=p.cell 1;have aV:=p.cell 2;have aW:=p.cell 3;have aX:=p.cell 4;have aY:=p.cell 5;have z0:=p.frozen 0;have z1:=p.frozen 1;have z2:=p.frozen 2;have z3:=p.frozen 3;have z4:=p.frozen 4;have z5:=p.frozen 5;simp only[af.vals,tz,ZK,ZL,ZM]at g0 g1 g2 g3 g4 g5 r0 aU aV aW aX aY;have f:=Zh hT;have aZ:=Zh B;have bf:=Zh I;have bg:=Zh aI;have bn:Hid _:=p;clear g p hT B I aI c0;have aJ:GB ((((((wr.setCell (aD W.heap.size 0) (.int .i64 cols)).setCell (aD W.heap.size 1) (.int .i64 d)).setCell (aD W.heap.size 2) (.int .i64 v)).setCell (aD W.heap.size 3) (.int .i64 w)).setCell (aD W.heap.size 4) (.int .i64 z)).setCell (aD W.heap.size 5) (.int .i64 A)) W.heap.size 50 (⟨cols,d,v,w,z,A⟩:af).vals:=
    (((((GB.set bn.o 0 _).set 1 _).set 2 _).set 3 _).set 4 _).set 5 _
   have bq:Hid _:=aJ;clear aJ;go_wp2;refine ZN (ZO rfl _ _ W.heap.size 50 (⟨cols,d,v,w,z,A⟩:af).vals (0,0) _ rfl bq.o Tryz.underlying50 rfl (by kernel_rfl)) rfl ?_;have VO:∀ a,lo=some a->a.block≠W.heap.size:=fun a ha=>by have:=rA.o a ha; omega
   refine⟨⟨cols,d,v,w,z,A⟩,rfl,?_,?_,?_⟩
   ·have:cols.toNat=k:=by have:=bg.o; omega
    show De _ cols.toNat
    rw[this];exact f.o
   ·exact(((((aH.set aZ.o _ n VO).set _ n VO).set _ n VO).set _ n VO).set _ n VO).set _ n VO
   ·exact(((((Kept.bY bf.o (Qs _) _).bY (Qs _) _).bY (Qs _) _).bY (Qs _) _).bY (Qs _) _).bY (Qs _) _
def ak.arr(c:ak):Array Value:=#[.bool c.not,.int .i64 c.op,.int .i64 c.left,.bool c.const,.int .i64 c.right]
structure ar1(W:World)(G:Nat)(c:ak):Prop where
 c0:W.cell? (aD G 0)=some (.bool c.not)
 c1:W.cell? (aD G 1)=some (.int .i64 c.op)
 c2:W.cell? (aD G 2)=some (.int .i64 c.left)
 c3:W.cell? (aD G 3)=some (.bool c.const)
 c4:W.cell? (aD G 4)=some (.int .i64 c.right)
 f0:W.frozen? (aD G 0)=false
 f1:W.frozen? (aD G 1)=false
 f2:W.frozen? (aD G 2)=false
 f3:W.frozen? (aD G 3)=false
 f4:W.frozen? (aD G 4)=false
theorem GB.five{W:World}{G:Nat}{t:TypeId}{c:ak}(h:GB W G t c.arr):ar1 W G c:=
 ⟨h.cell 0,h.cell 1,h.cell 2,h.cell 3,h.cell 4,h.frozen 0,h.frozen 1,h.frozen 2,h.frozen 3,h.frozen 4⟩
theorem VP(mb:Nat)(lo:Option Addr)(lc:Nat)(l:List Int)(W:World)(hm:aH mb lo lc l W)(hl:∀ x∈l,-9223372036854775808<=x/\x<=9223372036854775807) :
  Calls Tryz.prog 14 #[.pointer (some (aD mb 0))] W fun e m=>∃ v:Int,e=.returned (.int .i64 v)/\(v=1073741824∨(-1<=v/\v<=3))/\aH mb lo lc l m/\Kept (fun b=>b≠mb) W m:=by
 have d:=ZJ mb lo lc l 6 W hm (by omega) hl;go_enter Tryz.func14,Tryz.ntmps14;go_wp2_with fail;refine d.mono ?_;rintro e r ⟨a,rfl,p,k,f,g⟩;clear d;by_cases i:a=5
 ·have j:(a==5)=true:=by simpa using i
  clear i;go_wp2;go_ret;exact⟨_,rfl,.inl rfl,f,g⟩
 ·have j:(a==5)=false:=by simpa using i
  have q:wrap64 (a-1)=a-1:=by unfold wrap64; omega
  have n:Hid (-1<=a-1/\a-1<=3):=show _/\_ by omega
  clear i;go_wp2;go_ret;exact⟨_,rfl,.inr n.o,f,g⟩
theorem MR(mb:Nat)(lo:Option Addr)(lc:Nat)(l:List Int)(n:Int)(W:World)(hm:aH mb lo lc l W)(hl:∀ x∈l,-9223372036854775808<=x/\x<=9223372036854775807)(hlo:∀ a,lo=some a->a.block<W.heap.size)(hn:0<n) :
  Calls Tryz.prog 25 #[.pointer (some (aD mb 0)),.int .i64 n] W fun e W'=>∃ c:ak,e=.returned (.agg c.arr)/\df c n=true/\aH mb lo lc l W'/\Kept (fun b=>b≠mb) W W':=by
 have aN:=hm.lt;have aa:=hm.alloc (.cells cz.arr 77);have ae:=ZG W cz.arr 77;have af:Kept (fun b=>b≠mb) W (W.alloc (.cells cz.arr 77)):=QX _ _;obtain⟨W1,Q⟩:=eX (W.alloc (.cells cz.arr 77))
 rw[Q]at aa ae af;have Mm:Hid (W1.heap.size=W.heap.size+1):=show _=_ by rw[<- Q]; simp
 have av:=ZJ mb lo lc l 5 W1 aa (by omega) hl;have ax:W.alloc (.cells #[.bool false,.int .i64 0,.int .i64 0,.bool false,.int .i64 0] 77)=W1:=Q;have HL:=Zh hl;have rA:=Zh hlo;have p:W.heap.size≠mb:=by omega
 clear hl hlo aa hm Q;go_enter Tryz.func25,Tryz.ntmps25;go_wp2_with fail;refine av.mono ?_;rintro e W2 ⟨r1,rfl,aO,aM,aG,R⟩;clear ax av;have ay:=ZJ mb lo lc l n W2 aG hn HL.o;obtain⟨j,aP⟩:∃ j,(r1==1)=j:=⟨_,rfl⟩
 go_wp2_with fail;refine ay.mono ?_;rintro e d ⟨k,rfl,aQ,aR,sM,S⟩;clear ay;have aI:=R.size;have aJ:=S.size;have qw:=(af.trans R).trans S;have az:=(ae.keep R p).keep S p;have ag:=sM.alloc (.cells (⟨j,0,k,false,0⟩:ak).arr 77);have ah:=ZG d (⟨j,0,k,false,0⟩:ak).arr 77;have VQ:=az.keep (QX (s:=fun _=>True) d (.cells (⟨j,0,k,false,0⟩:ak).arr 77)) trivial;have ai:=qw.trans (QX (s:=fun b=>b≠mb) d (.cells (⟨j,0,k,false,0⟩:ak).arr 77));obtain⟨W4,au⟩:=eX (d.alloc (.cells (⟨j,0,k,false,0⟩:ak).arr 77))
 rw[au]at ag ah VQ ai;have oN:=ZJ mb lo lc l 6 W4 ag (by omega) HL.o;have aA:d.alloc (.cells #[.bool j,.int .i64 0,.int .i64 k,.bool false,.int .i64 0] 77)=W4:=au;have m:d.heap.size≠mb:=by have:=sM.lt; omega
 have y:Hid (W.heap.size<=d.heap.size/\W.heap.size≠d.heap.size):=show _/\_ by have:=Mm.o; omega
 clear ag sM aG az qw ae af R S au aI aJ;have aB:=Zh aA;clear aA;go_wp2_with fail;rw[aB.o];refine oN.mono ?_;rintro e T ⟨r3,rfl,aS,aT,F,U⟩;clear aB oN;have w:=ah.keep U m;have D:=VQ.keep U p;have E:=ai.trans U;have Y:∀ a,lo=some a->a.block≠d.heap.size:=fun a ha=>by have:=rA.o a ha; have:=y.o; omega
 have Z:∀ a,lo=some a->a.block≠W.heap.size:=fun a ha=>by have:=rA.o a ha; omega
 have MS:=Zh Y;have H:=Zh Z;clear ah VQ ai U Y Z;have q:Hid (∀ (Wx:World) (c:ak),GB Wx W.heap.size 77 cz.arr->aH mb lo lc l Wx->Kept (fun b=>b≠mb) W Wx->
   GB (((((Wx.setCell (aD W.heap.size 0) (.bool c.not)).setCell (aD W.heap.size 1) (.int .i64 c.op)).setCell (aD W.heap.size 2) (.int .i64 c.left)).setCell (aD W.heap.size 3) (.bool c.const)).setCell (aD W.heap.size 4) (.int .i64 c.right)) W.heap.size 77 c.arr/\
   aH mb lo lc l (((((Wx.setCell (aD W.heap.size 0) (.bool c.not)).setCell (aD W.heap.size 1) (.int .i64 c.op)).setCell (aD W.heap.size 2) (.int .i64 c.left)).setCell (aD W.heap.size 3) (.bool c.const)).setCell (aD W.heap.size 4) (.int .i64 c.right))/\
   Kept (fun b=>b≠mb) W (((((Wx.setCell (aD W.heap.size 0) (.bool c.not)).setCell (aD W.heap.size 1) (.int .i64 c.op)).setCell (aD W.heap.size 2) (.int .i64 c.left)).setCell (aD W.heap.size 3) (.bool c.const)).setCell (aD W.heap.size 4) (.int .i64 c.right))):=fun Wx c hG hM hK=>
  ⟨((((hG.set 0 _).set 1 _).set 2 _).set 3 _).set 4 _,((((hM.set _ p H.o).set _ p H.o).set _ p H.o).set _ p H.o).set _ p H.o,
   ((((hK.bY (Qs _) _).bY (Qs _) _).bY (Qs _) _).bY (Qs _) _).bY (Qs _) _⟩
 have aK:r3=0∨r3=1∨r3=2∨r3=3∨r3=4∨r3=5:=by omega
 rcases aK with rfl | rfl | rfl | rfl | rfl | rfl
 ·have B:=ZJ mb lo lc l n T F hn HL.o;go_wp2_with fail;refine B.mono ?_;rintro e W6 ⟨g,rfl,V,X,z,t⟩;clear B;have C:=w.keep t m;have N:=(GB.five C).c4;have p4:=(GB.five C).f4;have I:GB (W6.setCell (aD d.heap.size 4) (.int .i64 g)) d.heap.size 77 (⟨j,0,k,false,g⟩:ak).arr:=C.set 4 _;have Dg:GB (W6.setCell (aD d.heap.size 4) (.int .i64 g)) W.heap.size 77 cz.arr:=(D.keep t p).keep (s:=fun b=>b≠d.heap.size) (Zn _ _ _ (fun h=>h rfl)) y.o.2;have J:=z.set (G:=d.heap.size) (i:=4) (.int .i64 g) m MS.o;have A:=(E.trans t).bY (G:=d.heap.size) (i:=4) y.o.1 (.int .i64 g);have K:Hid (df ⟨j,0,k,false,g⟩ n=true):=show _=_ by simp[df]; try omega
  simp only at N;clear w D F E C z t;have f:=q.o _ (⟨j,0,k,false,g⟩:ak) Dg J A;have r:=Zh f;have v:=GB.five I;have v0:=v.c0;have L:=v.c1;have M:=v.c2;have v3:=v.c3;have v4:=v.c4;have u:=GB.five Dg;have u0:=u.c0;have u1:=u.c1;have u2:=u.c2;have u3:=u.c3;have u4:=u.c4;have z0:=u.f0;have z1:=u.f1;have z2:=u.f2;have z3:=u.f3;have z4:=u.f4;simp only[cz]at v0 L M v3 v4 u0 u1 u2 u3 u4;clear f v u q;go_wp2;refine ZN (ZO rfl _ _ W.heap.size 77 (⟨j,0,k,false,g⟩:ak).arr (0,0) _ rfl r.o.1 Tryz.underlying77 rfl (by kernel_rfl)) rfl ?_;exact⟨(⟨j,0,k,false,g⟩:ak),rfl,K.o,r.o.2.1,r.o.2.2⟩
 ·have B:=ZJ mb lo lc l n T F hn HL.o;go_wp2_with fail;refine B.mono ?_;rintro e W6 ⟨g,rfl,V,X,z,t⟩;clear B;have C:=w.keep t m;have N:=(GB.five C).c4;have p4:=(GB.five C).f4;have I:GB (W6.setCell (aD d.heap.size 4) (.int .i64 g)) d.heap.size 77 (⟨j,0,k,false,g⟩:ak).arr:=C.set 4 _;have Dg:GB (W6.setCell (aD d.heap.size 4) (.int .i64 g)) W.heap.size 77 cz.arr:=(D.keep t p).keep (s:=fun b=>b≠d.heap.size) (Zn _ _ _ (fun h=>h rfl)) y.o.2;have J:=z.set (G:=d.heap.size) (i:=4) (.int .i64 g) m MS.o;have A:=(E.trans t).bY (G:=d.heap.size) (i:=4) y.o.1 (.int .i64 g);have K:Hid (df ⟨j,0,k,false,g⟩ n=true):=show _=_ by simp[df]; try omega
  simp only at N;clear w D F E C z t;have f:=q.o _ (⟨j,0,k,false,g⟩:ak) Dg J A;have r:=Zh f;have v:=GB.five I;have v0:=v.c0;have L:=v.c1;have M:=v.c2;have v3:=v.c3;have v4:=v.c4;have u:=GB.five Dg;have u0:=u.c0;have u1:=u.c1;have u2:=u.c2;have u3:=u.c3;have u4:=u.c4;have z0:=u.f0;have z1:=u.f1;have z2:=u.f2;have z3:=u.f3;have z4:=u.f4;simp only[cz]at v0 L M v3 v4 u0 u1 u2 u3 u4;clear f v u q;go_wp2;refine ZN (ZO rfl _ _ W.heap.size 77 (⟨j,0,k,false,g⟩:ak).arr (0,0) _ rfl r.o.1 Tryz.underlying77 rfl (by kernel_rfl)) rfl ?_;exact⟨(⟨j,0,k,false,g⟩:ak),rfl,K.o,r.o.2.1,r.o.2.2⟩
 ·have B:=ZJ mb lo lc l n T F hn HL.o;go_wp2_with fail;refine B.mono ?_;rintro e W6 ⟨g,rfl,V,X,z,t⟩;clear B;have C:=w.keep t m;have N:=(GB.five C).c4;have p4:=(GB.five C).f4;have I:GB (W6.setCell (aD d.heap.size 4) (.int .i64 g)) d.heap.size 77 (⟨j,0,k,false,g⟩:ak).arr:=C.set 4 _;have Dg:GB (W6.setCell (aD d.heap.size 4) (.int .i64 g)) W.heap.size 77 cz.arr:=(D.keep t p).keep (s:=fun b=>b≠d.heap.size) (Zn _ _ _ (fun h=>h rfl)) y.o.2;have J:=z.set (G:=d.heap.size) (i:=4) (.int .i64 g) m MS.o;have A:=(E.trans t).bY (G:=d.heap.size) (i:=4) y.o.1 (.int .i64 g);have K:Hid (df ⟨j,0,k,false,g⟩ n=true):=show _=_ by simp[df]; try omega
  simp only at N;clear w D F E C z t;have f:=q.o _ (⟨j,0,k,false,g⟩:ak) Dg J A;have r:=Zh f;have v:=GB.five I;have v0:=v.c0;have L:=v.c1;have M:=v.c2;have v3:=v.c3;have v4:=v.c4;have u:=GB.five Dg;have u0:=u.c0;have u1:=u.c1;have u2:=u.c2;have u3:=u.c3;have u4:=u.c4;have z0:=u.f0;have z1:=u.f1;have z2:=u.f2;have z3:=u.f3;have z4:=u.f4;simp only[cz]at v0 L M v3 v4 u0 u1 u2 u3 u4;clear f v u q;go_wp2;refine ZN (ZO rfl _ _ W.heap.size 77 (⟨j,0,k,false,g⟩:ak).arr (0,0) _ rfl r.o.1 Tryz.underlying77 rfl (by kernel_rfl)) rfl ?_;exact⟨(⟨j,0,k,false,g⟩:ak),rfl,K.o,r.o.2.1,r.o.2.2⟩
 ·have aC:=(GB.five w).c3;have aL:=(GB.five w).f3;have RN:GB (T.setCell (aD d.heap.size 3) (.bool true)) d.heap.size 77 (⟨j,0,k,true,0⟩:ak).arr:=w.set 3 _;have Dh:GB (T.setCell (aD d.heap.size 3) (.bool true)) W.heap.size 77 cz.arr:=D.keep (s:=fun b=>b≠d.heap.size) (Zn _ _ _ (fun h=>h rfl)) y.o.2;have z:=F.set (G:=d.heap.size) (i:=3) (.bool true) m MS.o;have t:=E.bY (G:=d.heap.size) (i:=3) y.o.1 (.bool true);have B:=ZJ mb lo lc l 5 _ z (by omega) HL.o;simp only at aC;go_wp2_with fail;refine B.mono ?_;rintro e W7 ⟨g,rfl,V,X,J,A⟩;clear B z;have hw:wrap64 (g-1)=g-1:=by unfold wrap64; omega
  have O:=RN.keep A m;have N:=(GB.five O).c4;have p4:=(GB.five O).f4;have aj:GB (W7.setCell (aD d.heap.size 4) (.int .i64 (g-1))) d.heap.size 77 (⟨j,0,k,true,g-1⟩:ak).arr:=O.set 4 _;have Ka:GB (W7.setCell (aD d.heap.size 4) (.int .i64 (g-1))) W.heap.size 77 cz.arr:=(Dh.keep A p).keep (s:=fun b=>b≠d.heap.size) (Zn _ _ _ (fun h=>h rfl)) y.o.2;have VN:=J.set (G:=d.heap.size) (i:=4) (.int .i64 (g-1)) m MS.o;have mQ:=(t.trans A).bY (G:=d.heap.size) (i:=4) y.o.1 (.int .i64 (g-1));have K:Hid (df ⟨j,0,k,true,g-1⟩ n=true):=show _=_ by simp[df]; try omega
  simp only at N;clear w D F E O J A RN Dh t aC aL;have f:=q.o _ (⟨j,0,k,true,(g-1)⟩:ak) Ka VN mQ;have r:=Zh f;have v:=GB.five aj;have v0:=v.c0;have L:=v.c1;have M:=v.c2;have v3:=v.c3;have v4:=v.c4;have u:=GB.five Ka;have u0:=u.c0;have u1:=u.c1;have u2:=u.c2;have u3:=u.c3;have u4:=u.c4;have z0:=u.f0;have z1:=u.f1;have z2:=u.f2;have z3:=u.f3;have z4:=u.f4;simp only[cz]at v0 L M v3 v4 u0 u1 u2 u3 u4;clear f v u q;go_wp2;refine ZN (ZO rfl _ _ W.heap.size 77 (⟨j,0,k,true,(g-1)⟩:ak).arr (0,0) _ rfl r.o.1 Tryz.underlying77 rfl (by kernel_rfl)) rfl ?_;exact⟨(⟨j,0,k,true,(g-1)⟩:ak),rfl,K.o,r.o.2.1,r.o.2.2⟩
 ·have P:=(GB.five w).c1;have aF:=(GB.five w).f1;have RN:GB (T.setCell (aD d.heap.size 1) (.int .i64 1)) d.heap.size 77 (⟨j,1,k,false,0⟩:ak).arr:=w.set 1 _;have Dh:GB (T.setCell (aD d.heap.size 1) (.int .i64 1)) W.heap.size 77 cz.arr:=D.keep (s:=fun b=>b≠d.heap.size) (Zn _ _ _ (fun h=>h rfl)) y.o.2;have z:=F.set (G:=d.heap.size) (i:=1) (.int .i64 1) m MS.o;have t:=E.bY (G:=d.heap.size) (i:=1) y.o.1 (.int .i64 1);have B:=ZJ mb lo lc l n _ z hn HL.o;simp only at P;go_wp2_with fail;refine B.mono ?_;rintro e W7 ⟨g,rfl,V,X,J,A⟩;clear B z;have O:=RN.keep A m;have N:=(GB.five O).c4;have p4:=(GB.five O).f4;have aj:GB (W7.setCell (aD d.heap.size 4) (.int .i64 g)) d.heap.size 77 (⟨j,1,k,false,g⟩:ak).arr:=O.set 4 _;have Ka:GB (W7.setCell (aD d.heap.size 4) (.int .i64 g)) W.heap.size 77 cz.arr:=(Dh.keep A p).keep (s:=fun b=>b≠d.heap.size) (Zn _ _ _ (fun h=>h rfl)) y.o.2;have VN:=J.set (G:=d.heap.size) (i:=4) (.int .i64 g) m MS.o;have mQ:=(t.trans A).bY (G:=d.heap.size) (i:=4) y.o.1 (.int .i64 g);have K:Hid (df ⟨j,1,k,false,g⟩ n=true):=show _=_ by simp[df]; try omega
  simp only at N;clear w D F E O J A RN Dh t P aF;have f:=q.o _ (⟨j,1,k,false,g⟩:ak) Ka VN mQ;have r:=Zh f;have v:=GB.five aj;have v0:=v.c0;have L:=v.c1;have M:=v.c2;have v3:=v.c3;have v4:=v.c4;have u:=GB.five Ka;have u0:=u.c0;have u1:=u.c1;have u2:=u.c2;have u3:=u.c3;have u4:=u.c4;have z0:=u.f0;have z1:=u.f1;have z2:=u.f2;have z3:=u.f3;have z4:=u.f4;simp only[cz]at v0 L M v3 v4 u0 u1 u2 u3 u4;clear f v u q;go_wp2;refine ZN (ZO rfl _ _ W.heap.size 77 (⟨j,1,k,false,g⟩:ak).arr (0,0) _ rfl r.o.1 Tryz.underlying77 rfl (by kernel_rfl)) rfl ?_;exact⟨(⟨j,1,k,false,g⟩:ak),rfl,K.o,r.o.2.1,r.o.2.2⟩
 ·have P:=(GB.five w).c1;have aF:=(GB.five w).f1;have RN:GB (T.setCell (aD d.heap.size 1) (.int .i64 2)) d.heap.size 77 (⟨j,2,k,false,0⟩:ak).arr:=w.set 1 _;have Dh:GB (T.setCell (aD d.heap.size 1) (.int .i64 2)) W.heap.size 77 cz.arr:=D.keep (s:=fun b=>b≠d.heap.size) (Zn _ _ _ (fun h=>h rfl)) y.o.2;have z:=F.set (G:=d.heap.size) (i:=1) (.int .i64 2) m MS.o;have t:=E.bY (G:=d.heap.size) (i:=1) y.o.1 (.int .i64 2);have K:Hid (df ⟨j,2,k,false,0⟩ n=true):=show _=_ by simp[df]; try omega
  simp only at P;clear w D F E;have f:=q.o _ (⟨j,2,k,false,0⟩:ak) Dh z t;have r:=Zh f;have v:=GB.five RN;have v0:=v.c0;have L:=v.c1;have M:=v.c2;have v3:=v.c3;have v4:=v.c4;have u:=GB.five Dh;have u0:=u.c0;have u1:=u.c1;have u2:=u.c2;have u3:=u.c3;have u4:=u.c4;have z0:=u.f0;have z1:=u.f1;have z2:=u.f2;have z3:=u.f3;have z4:=u.f4;simp only[cz]at v0 L M v3 v4 u0 u1 u2 u3 u4;clear f v u q;go_wp2;refine ZN (ZO rfl _ _ W.heap.size 77 (⟨j,2,k,false,0⟩:ak).arr (0,0) _ rfl r.o.1 Tryz.underlying77 rfl (by kernel_rfl)) rfl ?_;exact⟨(⟨j,2,k,false,0⟩:ak),rfl,K.o,r.o.2.1,r.o.2.2⟩
def ZP:=@GB.five
theorem yM{n:Int}(h:aM xs n=true)(h0:0<=p)(h1:p<n):aM (xs++[p]) n=true:=by
 unfold aM at *;rw[List.all_append,h];simp[h0,h1]
theorem any_succ(hk:k<xs.length):((xs.take (k+1)).any fun x=>x==p)=(((xs.take k).any fun x=>x==p) || (xs.getD k 0==p)):=by
 rw[Qm hk,List.any_append];simp[List.getD,hk]
theorem RP(h:dJ xs=true)(hp:(xs.any fun x=>x==p)=false):dJ (xs++[p])=true:=by
 unfold dJ at *;rw[QE]at *;intro i l j g;rw[ZC,ZX]at l;have a:∀ m,m<xs.length->(xs++[p]).getD m 0=xs.getD m 0:=fun m f=>by simp[List.getD,List.getElem?_append,f]
 by_cases k:i<xs.length
 ·rw[a i k,a j (by omega)];exact h i k j g
 ·have b:i=xs.length:=by omega
  subst b;rw[a j g];have d:(xs++[p]).getD xs.length 0=p:=by simp[List.getD]
  rw[d];intro e;rw[List.any_eq_false]at hp;have f:xs.getD j 0∈xs:=by simp[List.getD,g]
  exact hp _ f (by rw[<- e]; simp)
theorem aH.grown{mb:Nat}{lo:Option Addr}{lc:Nat}{l:List Int}{A B:World}(h:aH mb lo lc l A){row:Option Nat}(hg:A.grownBy B row)(h1:row≠some mb)(h2:∀ a,lo=some a->row≠some a.block):aH mb lo lc l B:=by
 have d:Kept (fun b=>row≠some b) A B:=Zo hg (fun r e h=>h e);obtain⟨k,f,g⟩:=h.num;exact⟨⟨k,f,Zj g d h1⟩,Zj h.VL d h1,(Zt (a:=(aD mb 1)) (d.block mb h.lt h1)).trans h.thaw,⟨h.ints.1,h.ints.2.keep fun a j i=>d.block _ i (h2 a j)⟩,h.off⟩
theorem xI(mb:Nat)(lo:Option Addr)(lc:Nat)(l:List Int)(n:Int)(most:Nat)(W:World)(hm:aH mb lo lc l W)(hl:∀ x∈l,-9223372036854775808<=x/\x<=9223372036854775807)(hlo:∀ a,lo=some a->a.block<W.heap.size)(hn:0<n)(hmo:most<=100) :
  Calls Tryz.prog 26 #[.pointer (some (aD mb 0)),.int .i64 n,.int .i64 most] W fun e W'=>∃ (v:Value) (xs:List Int),e=.returned v/\W'.ownsRow W.heap.size 3 1 v xs.length (xs.map (Value.int .i64))/\aM xs n=true/\dJ xs=true/\xs.length<=most/\aH mb lo lc l W'/\Kept (fun b=>b≠mb) W W':=by
 obtain⟨i0,hi,V,X,Y⟩:=Zy Tryz.kT;have ah:=hm.lt;have C:=ZJ mb lo lc l ((most:Int)+1) W hm (by omega) hl;have M:wrap64 ((most:Int)+1)=(most:Int)+1:=by unfold wrap64; omega
 have HL:=Zh hl;have rA:=Zh hlo;clear hl hlo hm;go_enter Tryz.func26,Tryz.ntmps26;go_wp2_with fail;refine C.mono ?_;rintro e W2 ⟨r1,rfl,ak,ag,H,I⟩;obtain⟨k1,rfl⟩:∃ k:Nat,r1=(k:Int):=⟨r1.toNat,by omega⟩
 clear C M;go_wp2;go_loopw [7,8] (fun v i wr=>∃ (k:Nat) (xs:List Int),i=.int .i64 k/\xs.length+k<=most/\wr.ownsRow W.heap.size 3 1 v xs.length (xs.map (Value.int .i64))/\Hid (aM xs n=true/\dJ xs=true)/\aH mb lo lc l wr/\Kept (fun b=>b≠mb) W wr) (fun _ i _=>(intOf i).toNat)
 case atStart=>exact⟨k1,[],rfl,by simp; omega,ZA _ _ _ _,⟨rfl,rfl⟩,H,I⟩
 case round=>
  obtain⟨k,xs,rfl,au,q,w,Z,hK⟩:=hrel;clear H I;by_cases h0:0<k
  ·skip;have D:=ZJ mb lo lc l n wr Z hn HL.o;go_wp2_with fail;refine D.mono ?_;rintro e W3 ⟨p,rfl,ae,af,sM,J⟩;clear D;have d:=Zp q J (fun g hg=>by have:=(Zq q hg).1; omega);have N:=hK.trans J;obtain⟨iv,FP,vO,mq,-⟩:=ZV d (by omega);obtain⟨iT,dx,z⟩:=iv;simp only at vO;subst vO;unfold aa.val at FP;simp only at FP;subst FP;have s:=mq.1;have HI:Hid _:=s;clear q Z hK mq s;go_wp2;go_loopw [10,11] (fun tw i ws=>∃ (m:Nat),m<=z.length/\i=.int .i64 m/\tw=.bool ((z.take m).any fun x=>x==p)/\W3=ws) (fun _ i _=>z.length-(intOf i).toNat)
   case atStart=>exact⟨0,Zf _,rfl,rfl,rfl⟩
   case round=>
    obtain⟨m,hm,rfl,rfl,rfl⟩:=hrel;by_cases Kc:m<z.length
    ·obtain⟨b,off,rfl,K⟩:=HI.o.get Kc;have ai:=K m Kc;have HS:=Zh (any_succ (p:=p) Kc);generalize z.getD m 0=y at *;generalize ((z.take m).any fun x=>x==p)=tw at *;clear K
     cases tw with
     | true =>
      go_wp2;go_roundw
      case rel=>exact⟨m+1,by omega,by go_num,by rw[HS.o]; rfl,trivial⟩
      case measure=>simp[intOf]; omega
     | false =>
      go_wp2;go_roundw
      case rel=>exact⟨m+1,by omega,by go_num,by rw[HS.o]; simp,trivial⟩
      case measure=>simp[intOf]; omega
    ·have O:m=z.length:=by omega
     subst O;rw[Qw];have aj:=N.size;have E:=Zh sM
     cases htw:(z.any fun x=>x==p) with
     | true =>
      have P:wrap64 (((k:Int))-1)=((k-1:Nat):Int):=by unfold wrap64; omega
      have B:Hid _:=d;clear P d;go_wp2;go_roundw
      case rel=>exact⟨k-1,z,congrArg (Value.int .i64) (show _=((k-1:Nat):Int) by omega),by omega,B.o,w,E.o,N⟩
      case measure=>simp[intOf]; omega
     | false =>
      have B:Hid _:=d;go_wp2_with (first | (at_builtin; refine wpList_append_own _ rfl _ _ 22 rfl W.heap.size 3 i0 (.int .i64 0) 1 8 Tryz.underlying22 hi V X Y rfl (by decide) _ _ _ rfl (d.alloc _) (aD W3.heap.size 0) 1 1 [.int .i64 p] rfl rfl ?q1 ?q2 ?q3 ?q4 ?q5 ?_))
      case q1=>
       intro j u L
       match j,L with
       | 0,L => simp at L; subst L; simp[Addr.add]
      case q2=>intro u hu; simp at hu; subst hu; rfl
      case q3=>unfold maxLen; omega
      case q4=>omega
      case q5=>simp; omega
      intro v' w1 A f _;have Q:∀ g,(Value.slice iT z.length dx).ownBlock=some g->W.heap.size<=g:=fun g hg=>(Zq B.o hg).1
      have F:=(aH.alloc E.o (.cells #[.int .i64 p] 3)).grown f (fun e=>by have:=Q _ e; omega) (fun a ha e=>by have:=Q _ e; have:=rA.o a ha; omega);have G:Kept (fun b=>b≠mb) W w1:=by
       have h1:Kept (fun b=>b≠mb) W (W3.alloc (.cells #[.int .i64 p] 3)):=N.trans (QX _ _);exact((h1.mono (t:=fun b=>b≠mb/\b<W.heap.size) (fun b _ h=>h.1)).trans (Zo f (fun r e h=>by have:=Q r e; have:=h.2; omega))).mono (fun b hb h=>⟨h,hb⟩)
      have R:Hid _:=A;have S:=Zh F;have T:=Zh G;clear A f d F G;go_wp2;go_roundw
      case rel=>exact⟨k-1,z++[p],congrArg (Value.int .i64) (show _=((k-1:Nat):Int) by omega),by rw[ZC,ZX]; omega,by rw[ZC,Qn]; exact R.o,⟨yM w.o.1 ae af,RP w.o.2 htw⟩,S.o,T.o⟩
      case measure=>simp[intOf]; omega
  ·have U:k=0:=by omega
   subst U;go_wp2;go_ret;exact⟨_,xs,rfl,q,w.o.1,w.o.2,by omega,Z,hK⟩
theorem aH.Dk{s:Nat->Prop}(h:aH mb lo lc l A)(hk:Kept s A B)(h1:s mb)(h2:∀ a,lo=some a->s a.block):aH mb lo lc l B:=by
 obtain⟨k,b,d⟩:=h.num;exact⟨⟨k,b,Zj d hk h1⟩,Zj h.VL hk h1,(Zt (a:=(aD mb 1)) (hk.block mb h.lt h1)).trans h.thaw,⟨h.ints.1,h.ints.2.keep fun a f e=>hk.block _ e (h2 a f)⟩,h.off⟩
def caseA(cv:Value)(q:ae)(dv:Value):Array Value:=#[cv,q.src.val,.slice q.bE q.wh.length q.aF,.bool q.group,q.keys.val,q.sums.val,q.aK.val,q.ord.val,dv]
theorem yN(co:Option Addr)(cc:Nat)(ts:List af)(q:ae)(dv:Value)(hdv:∃ a m c,dv=.slice a m c)(w:World)(hx:bu w co ts)(hc:fo ts=true)(hq:q.src.At w)(h5:q.src.xs.length<=5)(ha:aM q.src.xs ts.length=true) :
  Cb 9 #[.agg (caseA (.slice co ts.length cc) q dv)] w (.int .i64 (ai ts q.src.xs)):=by
 obtain⟨v,y,dc,rfl⟩:=hdv;obtain⟨⟨s,t,xs⟩,z,A,wh,g,d,e,l,f⟩:=q;unfold aa.At at hq;simp only at h5 ha hq;unfold caseA aa.val;simp only;have H:=Zh hc;have I:=Zh ha;have u:=bV w (.cells #[.slice co ts.length cc,.slice s xs.length t,.slice z wh.length A,.bool g,.slice d.ad d.xs.length d.cap,.slice e.ad e.xs.length e.cap,.slice l.ad l.xs.length l.cap,.slice f.ad f.xs.length f.cap,.slice v y dc] 29);have B:=hx.below u;have C:=Qt u hq;have J:(w.alloc (.cells #[.slice co ts.length cc,.slice s xs.length t,.slice z wh.length A,.bool g,.slice d.ad d.xs.length d.cap,.slice e.ad e.xs.length e.cap,.slice l.ad l.xs.length l.cap,.slice f.ad f.xs.length f.cap,.slice v y dc] 29)).cell? (aD w.heap.size 0)=some (.slice co ts.length cc):=by simp
 have K:(w.alloc (.cells #[.slice co ts.length cc,.slice s xs.length t,.slice z wh.length A,.bool g,.slice d.ad d.xs.length d.cap,.slice e.ad e.xs.length e.cap,.slice l.ad l.xs.length l.cap,.slice f.ad f.xs.length f.cap,.slice v y dc] 29)).cell? (aD w.heap.size 1)=some (.slice s xs.length t):=by simp
 have D:=Zh u;clear hc ha hx hq u;go_enter Tryz.func9,Tryz.ntmps9;go_wp2;obtain⟨R,r⟩:=eX (w.alloc (.cells #[.slice co ts.length cc,.slice s xs.length t,.slice z wh.length A,.bool g,.slice d.ad d.xs.length d.cap,.slice e.ad e.xs.length e.cap,.slice l.ad l.xs.length l.cap,.slice f.ad f.xs.length f.cap,.slice v y dc] 29))
 rw[r]at D B C J K;rw[r];clear r;go_loopw [3,4] (fun n i wr=>∃ k:Nat,k<=xs.length/\i=.int .i64 k/\n=.int .i64 (ai ts (xs.take k))/\Bw R wr) (fun _ i _=>xs.length-(intOf i).toNat)
 case atStart=>exact⟨0,Zf _,rfl,rfl,Qr _ _⟩
 case round=>
  obtain⟨k,S,rfl,rfl,j⟩:=hrel;have O:=jC H.o I.o k S;have U:=cB j J;have V:=cB j K;by_cases p:k<xs.length
  ·obtain⟨Y,T,rfl,M⟩:=C.get p;have E:=cB j (M k p);have W:=Qq I.o p;have X:=kR H.o (i:=xs[k].toNat) (by omega);obtain⟨b,off,rfl,t0,-⟩:=B.2 xs[k].toNat (by omega);have F:=cB j t0;have P:=Zh (iJ ts xs k p);generalize (ts.getD xs[k].toNat tz).cols=cl at *;generalize ai ts (xs.take k)=W0 at *;have L:xs.getD k 0=xs[k]:=by simp[List.getD,p]
   rw[L]at E;clear M t0 B C L;generalize G:xs[k]=xk at *;clear G;obtain⟨N,rfl⟩:∃ N:Nat,xk=(N:Int):=⟨xk.toNat,by omega⟩
   simp only[ZY]at F;have Q:wrap64 (W0+cl)=W0+cl:=by unfold wrap64; omega
   go_wp2;go_quiet (fail);go_wp2;go_roundw
   case rel=>exact⟨k+1,by omega,by go_num,by rw[P.o],ZF j _⟩
   case measure=>simp[intOf]; omega
  ·go_wp2;go_ret;have:k=xs.length:=by omega
   subst this;exact⟨Qc (by rw[Qw]),D.o.trans (j.mono D.o.size)⟩
theorem ad1(h:fo ts=true):1<=ts.length/\ts.length<=8:=by
 unfold fo at h;simp only[Qo,QE]at h;exact h.1
theorem Fs(hc:fo ts=true)(ha:aM xs ts.length=true)(h1:1<=xs.length)(h5:xs.length<=5):1<=ai ts xs/\ai ts xs<=20:=by
 have d:∀ t∈xs,1<=(ts.getD t.toNat tz).cols/\(ts.getD t.toNat tz).cols<=4:=fun t b=>by
  unfold aM at ha;rw[Qp]at ha;have:=ha t b;simp only[Qo,QE]at this;exact kR hc (i:=t.toNat) (by omega)
 have e:∀ l:List Int,(∀ t∈l,1<=(ts.getD t.toNat tz).cols/\(ts.getD t.toNat tz).cols<=4)->(l.length:Int)<=ai ts l/\ai ts l<=4*l.length:=by
  intro l
  induction l with
  | nil => intro _; simp[ai]
  | cons a l ih =>
   intro h;have h1:=ih (fun t b=>h t (by simp[b]));have g:=h a (by simp);have f:ai ts (a::l)=(ts.getD a.toNat tz).cols+ai ts l:=by simp[ai]
   rw[f,Q7];omega
 have:=e xs d;omega
def jI:aa:=⟨none,0,[]⟩
def qz:ae:=⟨jI,none,0,[],false,jI,jI,jI,jI⟩
structure fD(mb qb:Nat)(lo:Option Addr)(lc:Nat)(l:List Int)(e tq:TypeId)(W0:World)(c:Value->Array Value)(W:World)(v:Value)(xs:List Int):Prop where
 gb:GB W qb tq (c v)
 own:W.ownsRow W0.heap.size e 1 v xs.length (xs.map (Value.int .i64))
 Mx:aH mb lo lc l W
 kept:Kept (fun b=>b≠mb/\b≠qb) W0 W
theorem fD.keep{mb qb:Nat}{lo:Option Addr}{lc:Nat}{l:List Int}{e tq:TypeId}{W0:World}{c:Value->Array Value}{A B:World}{v:Value}{xs:List Int}(h:fD mb qb lo lc l e tq W0 c A v xs)(hk:Kept (fun b=>b≠mb) A B)(hm:aH mb lo lc l B)
  (hq:qb≠mb) (hmb:mb<W0.heap.size):fD mb qb lo lc l e tq W0 c B v xs:=
 ⟨h.gb.keep hk hq,Zp h.own hk (fun g a=>by have:=(Zq h.own a).1; omega),hm,h.kept.trans (hk.mono fun b _ h=>h.1)⟩
theorem fD.more(h:fD mb qb lo lc l e tq W0 c A v xs)
  (ha:Kept (fun _=>True) A A1) (hown:B.ownsRow W0.heap.size e 1 v' (xs.length+1) (xs.map (Value.int .i64)++[.int .i64 p])) (hg:A1.grownBy B v.ownBlock) (hc:(c v).setIfInBounds f v' = c v')
  (hq:qb≠mb) (hmb:mb<W0.heap.size) (hqb:qb<W0.heap.size) (hlo:∀ a,lo=some a->a.block<W0.heap.size/\a.block≠qb) :
  fD mb qb lo lc l e tq W0 c (B.setCell (aD qb f) v') v' (xs++[p]):=by
 have d:∀ g,v.ownBlock=some g->W0.heap.size<=g:=fun g hg=>(Zq h.own hg).1
 have m:∀ g,v'.ownBlock=some g->W0.heap.size<=g:=fun g hg=>(Zq hown hg).1
 have i:Kept (fun b=>v.ownBlock≠some b) A B:=(ha.mono fun _ _ _=>trivial).trans (Zo hg (fun r e n=>n e));have j:Kept (fun b=>v.ownBlock≠some b/\b≠qb) A (B.setCell (aD qb f) v'):=(i.mono fun _ _ h=>h.1).trans (Zn _ _ _ (fun h=>h.2 rfl));refine⟨?_,?_,?_,?_⟩
 ·have k:=h.gb.keep i (fun e=>by have:=d _ e; omega);have:=k.set f v'
  rwa [hc]at this
 ·have:=Zp hown (s:=fun b=>b≠qb) (Zn B (aD qb f) v' (fun h=>h rfl)) (fun g hg=>by have:=m g hg; omega)
  simpa using this
 ·exact h.Mx.Dk j ⟨fun e=>by have:=d _ e; omega,Ne.symm hq⟩ (fun a ha=>⟨fun e=>by have:=d _ e; have:=(hlo a ha).1; omega,(hlo a ha).2⟩)
 ·exact((h.kept.mono (t:=fun b=>(b≠mb/\b≠qb)/\b<W0.heap.size) (fun b _ h=>h.1)).trans (j.mono fun b _ h=>⟨fun e=>by have:=d _ e; have:=h.2; omega,h.1.2⟩)).mono (fun b o h=>⟨h,o⟩)
theorem fD.far(h:fD mb qb lo lc l e tq W0 c A v xs)
  (ha:Kept (fun _=>True) A A1) (hg:A1.grownBy B v.ownBlock):Kept (fun b=>b<W0.heap.size) A B:=
 (ha.mono fun _ _ _=>trivial).trans (Zo hg (fun r e a=>by have:=(Zq h.own e).1; omega))
theorem bu.keep{A B:World}{ao:Option Addr}{ts:List af}(h:bu A ao ts)(hb:∀ a,ao=some a->a.block<A.heap.size->B.heap[a.block]? = A.heap[a.block]?):bu B ao ts:=by
 refine⟨h.1,fun i n=>?_⟩;obtain⟨b,off,rfl,e,g,j,k,l,m⟩:=h.2 i n;have f:b<A.heap.size:=Q3 (p:=(aD b (off+i*6))) e;have d:=hb (aD b off) rfl f;exact⟨b,off,rfl,(Q4 (a:=(aD b (off+i*6))) d).trans e,(Q4 (a:=(aD b (off+i*6+1))) d).trans g,(Q4 (a:=(aD b (off+i*6+2))) d).trans j,
  (Q4 (a:=(aD b (off+i*6+3))) d).trans k,(Q4 (a:=(aD b (off+i*6+4))) d).trans l,(Q4 (a:=(aD b (off+i*6+5))) d).trans m⟩
theorem bH.keep{A B:World}{ao:Option Addr}{cs:List ak}(h:bH A ao cs)(hb:∀ a,ao=some a->a.block<A.heap.size->B.heap[a.block]? = A.heap[a.block]?):bH B ao cs:=by
 refine⟨h.1,fun i m=>?_⟩;obtain⟨b,off,rfl,e,g,j,k,l⟩:=h.2 i m;have f:b<A.heap.size:=Q3 (p:=(aD b (off+i*5))) e;have d:=hb (aD b off) rfl f;exact⟨b,off,rfl,(Q4 (a:=(aD b (off+i*5))) d).trans e,(Q4 (a:=(aD b (off+i*5+1))) d).trans g,(Q4 (a:=(aD b (off+i*5+2))) d).trans j,
  (Q4 (a:=(aD b (off+i*5+3))) d).trans k,(Q4 (a:=(aD b (off+i*5+4))) d).trans l⟩
def jg(n:Nat)(x:aa)(S:World):Prop:=ag.At x S/\(∀ b,ag.blk x=some b->n<=b)/\x.xs.length<=x.cap
theorem jg.keep{n:Nat}{x:aa}{A B:World}{s:Nat->Prop}(h:jg n x A)(hk:Kept s A B)(hs:∀ b,n<=b->s b):jg n x B:=
 ⟨ag.keep h.1 hk.size (fun b a d=>hk.block b a (hs b (h.2.1 b d))),h.2.1,h.2.2⟩
theorem jg.nil(n:Nat)(S:World):jg n jI S:=
 ⟨⟨⟨by simp[jI],fun i d=>absurd d (by simp[jI])⟩,(fun a e=>by cases e),fun _=>rfl⟩,(fun b f=>by cases f),by simp[jI]⟩
theorem jd{w:World}{base:Nat}(h:w.ownsRow base e 1 v k (xs.map (Value.int .i64)))(hl:xs.length<=1000)(hb:n<=base):∃ iv:aa,v=iv.val/\iv.xs=xs/\jg n iv w:=by
 obtain⟨iv,i,j,a,d⟩:=ZV h (by omega);refine⟨iv,i,j,a,fun b f=>QS hb (d b f),?_⟩;have l:xs.length=k:=by have:=h.1; simpa using this
 rcases h.2 with⟨hv',h0⟩ | ⟨g,cap,cur,hv',_,_,hc,_⟩
 ·rw[j]; omega
 ·rw[i]at hv';unfold aa.val at hv';injection hv' with h1 h2 h3;omega
def Ac(n:Nat)(ad:Option Addr)(ls:List az)(S:World):Prop:=
 bX S ad ls/\(∀ a,ad=some a->n<=a.block)/\∀ i,i<ls.length->∀ a,(ls.getD i lz).ad=some a->n<=a.block
theorem Ac.keep{n:Nat}{ad:Option Addr}{ls:List az}{A B:World}{s:Nat->Prop}(h:Ac n ad ls A)(hk:Kept s A B)(hs:∀ b,n<=b->s b):Ac n ad ls B:=
 ⟨⟨h.1.1,h.1.2.1.keep fun a e d=>hk.block _ d (hs _ (h.2.1 a e)),fun i f=>(h.1.2.2 i f).keep fun a e d=>hk.block _ d (hs _ (h.2.2 i f a e))⟩,h.2.1,h.2.2⟩
structure eH(n:Nat)(q:ae)(S:World):Prop where
 src:jg n q.src S
 wh:Ac n q.bE q.wh S
 keys:jg n q.keys S
 sums:jg n q.sums S
 aK:jg n q.aK S
 ord:jg n q.ord S
 nil:q.bE=none->q.aF=0
theorem eH.keep{n:Nat}{q:ae}{A B:World}{s:Nat->Prop}(h:eH n q A)(hk:Kept s A B)(hs:∀ b,n<=b->s b):eH n q B:=
 ⟨h.src.keep hk hs,h.wh.keep hk hs,h.keys.keep hk hs,h.sums.keep hk hs,h.aK.keep hk hs,h.ord.keep hk hs,h.nil⟩
theorem jg.lower{m:Nat}{x:aa}(h:jg n x S)(hm:m<=n):jg m x S:=⟨h.1,fun b a=>QS hm (h.2.1 b a),h.2.2⟩
theorem eH.lower{n m:Nat}{q:ae}{S:World}(h:eH n q S)(hm:m<=n):eH m q S:=
 ⟨h.src.lower hm,⟨h.wh.1,fun a b=>QS hm (h.wh.2.1 a b),fun i d a b=>QS hm (h.wh.2.2 i d a b)⟩,h.keys.lower hm,h.sums.lower hm,h.aK.lower hm,h.ord.lower hm,h.nil⟩
theorem eH.at'{q:ae}(h:eH n q S):q.At S:=⟨h.src.1.1,h.wh.1,h.keys.1.1,h.sums.1.1,h.aK.1.1,h.ord.1.1⟩
def Jy:=@eH.keep
structure kG(mb qb:Nat)(lo:Option Addr)(lc:Nat)(l:List Int)(e tq:TypeId)(W0:World)(c:Value->Array Value)(W:World)(v:Value)(ls:List az):Prop where
 gb:GB W qb tq (c v)
 own:W.ownsRow W0.heap.size e 1 v ls.length (ls.map az.val)
 cnd:∀ x∈ls,bH W x.ad x.cs/\∀ a,x.ad=some a->W0.heap.size<=a.block/\a.block<W.heap.size/\v.ownBlock≠some a.block
 Mx:aH mb lo lc l W
 kept:Kept (fun b=>b≠mb/\b≠qb) W0 W
theorem kG.keep{mb qb:Nat}{lo:Option Addr}{lc:Nat}{l:List Int}{e tq:TypeId}{W0:World}{c:Value->Array Value}{A B:World}{v:Value}{ls:List az}(h:kG mb qb lo lc l e tq W0 c A v ls)(hk:Kept (fun b=>b≠mb) A B)(hm:aH mb lo lc l B)
  (hq:qb≠mb) (hmb:mb<W0.heap.size):kG mb qb lo lc l e tq W0 c B v ls:=
 ⟨h.gb.keep hk hq,Zp h.own hk (fun g j=>by have:=(Zq h.own j).1; omega),fun x d=>⟨(h.cnd x d).1.keep (fun a f i=>hk.block _ i (by have:=((h.cnd x d).2 a f).1; omega)),fun a f=>⟨((h.cnd x d).2 a f).1,by have:=((h.cnd x d).2 a f).2.1; have:=hk.size; omega,((h.cnd x d).2 a f).2.2⟩⟩,hm,h.kept.trans (hk.mono fun b _ h=>h.1)⟩
theorem kG.more(h:kG mb qb lo lc l e tq W0 c A v ls){x:az}
  (hx:bH A x.ad x.cs) (hxb:∀ a,x.ad=some a->W0.heap.size<=a.block/\a.block<A.heap.size/\v.ownBlock≠some a.block)
  (ha:Kept (fun _=>True) A A1) (hs1:A1.heap.size=A.heap.size+1) (hown:B.ownsRow W0.heap.size e 1 v' (ls.length+1) (ls.map az.val++[x.val])) (hg:A1.grownBy B v.ownBlock) (hat:v'.ownBlock=v.ownBlock∨v'.ownBlock=some A1.heap.size) (hc:(c v).setIfInBounds f v' = c v')
  (hq:qb≠mb) (hmb:mb<W0.heap.size) (hqb:qb<W0.heap.size) (hlo:∀ a,lo=some a->a.block<W0.heap.size/\a.block≠qb) :
  kG mb qb lo lc l e tq W0 c (B.setCell (aD qb f) v') v' (ls++[x]):=by
 have i:∀ g,v.ownBlock=some g->W0.heap.size<=g:=fun g hg=>(Zq h.own hg).1
 have w:∀ g,v'.ownBlock=some g->W0.heap.size<=g:=fun g hg=>(Zq hown hg).1
 have n:Kept (fun b=>v.ownBlock≠some b) A B:=(ha.mono fun _ _ _=>trivial).trans (Zo hg (fun r e z=>z e));have j:Kept (fun b=>v.ownBlock≠some b/\b≠qb) A (B.setCell (aD qb f) v'):=(n.mono fun _ _ h=>h.1).trans (Zn _ _ _ (fun h=>h.2 rfl));have o:∀ b,b<A.heap.size->v.ownBlock≠some b->v'.ownBlock≠some b:=fun b u C e=>by
  rcases hat with h | h
  ·exact C (h ▸ e)
  ·rw[h]at e; cases e; omega
 have m:∀ y:az,bH A y.ad y.cs->(∀ a,y.ad=some a->W0.heap.size<=a.block/\a.block<A.heap.size/\v.ownBlock≠some a.block)->bH (B.setCell (aD qb f) v') y.ad y.cs/\∀ a,y.ad=some a->W0.heap.size<=a.block/\a.block<(B.setCell (aD qb f) v').heap.size/\v'.ownBlock≠some a.block:=fun y k d=>
  ⟨k.keep (fun a ha q=>j.block _ q ⟨(d a ha).2.2,by have:=(d a ha).1; omega⟩),fun a ha=>⟨(d a ha).1,by have:=(d a ha).2.1; have:=j.size; omega,o _ (d a ha).2.1 (d a ha).2.2⟩⟩
 refine⟨?_,?_,?_,?_,?_⟩
 ·have p:=h.gb.keep n (fun e=>by have:=i _ e; omega);have:=p.set f v'
  rwa [hc]at this
 ·have:=Zp hown (s:=fun b=>b≠qb) (Zn B (aD qb f) v' (fun h=>h rfl)) (fun g hg=>by have:=w g hg; omega)
  simpa using this
 ·intro y k;rcases Zx.1 k with k | k
  ·exact m y (h.cnd y k).1 (h.cnd y k).2
  ·rw[Zw]at k;subst k;exact m y hx hxb
 ·exact h.Mx.Dk j ⟨fun e=>by have:=i _ e; omega,Ne.symm hq⟩ (fun a ha=>⟨fun e=>by have:=i _ e; have:=(hlo a ha).1; omega,(hlo a ha).2⟩)
 ·exact((h.kept.mono (t:=fun b=>(b≠mb/\b≠qb)/\b<W0.heap.size) (fun b _ h=>h.1)).trans (j.mono fun b _ h=>⟨fun e=>by have:=i _ e; have:=h.2; omega,h.1.2⟩)).mono (fun b u h=>⟨h,u⟩)
theorem kG.far(h:kG mb qb lo lc l e tq W0 c A v ls)
  (ha:Kept (fun _=>True) A A1) (hg:A1.grownBy B v.ownBlock):Kept (fun b=>b<W0.heap.size) A B:=
 (ha.mono fun _ _ _=>trivial).trans (Zo hg (fun r e a=>by have:=(Zq h.own e).1; omega))
theorem PT(w:World)(c:ak)(e:TypeId):(w.alloc (.cells c.arr e)).ownsRow w.heap.size e 5 (.slice (some (aD w.heap.size 0)) 1 1) 1 ([c].flatMap ak.vals):=
 ⟨rfl,.inr ⟨w.heap.size,1,_,rfl,Qs _,lZ w _,Qs _,by unfold maxLen; omega,rfl,rfl⟩⟩
def Ad(n:Int)(x:az):Prop:=1<=x.cs.length/\x.cs.length<=3/\∀ c∈x.cs,df c n=true
structure CY(ts:List af)(q:ae):Prop where
 src:aM q.src.xs ts.length=true/\1<=q.src.xs.length/\q.src.xs.length<=4
 wh:q.wh.length<=4/\∀ x∈q.wh,Ad (ai ts q.src.xs) x
 out:(q.group=true/\q.aK.xs=[]/\q.keys.xs.length<=3/\aM q.keys.xs (ai ts q.src.xs)=true/\dJ q.keys.xs=true/\q.sums.xs.length<=2/\aM q.sums.xs (ai ts q.src.xs)=true/\q.ord.xs.length<=2/\aM q.ord.xs ((q.keys.xs.length:Int)+1+q.sums.xs.length)=true/\dJ q.ord.xs=true)∨
  (q.group=false/\q.keys.xs=[]/\q.sums.xs=[]/\1<=q.aK.xs.length/\q.aK.xs.length<=4/\aM q.aK.xs (ai ts q.src.xs)=true/\q.ord.xs.length<=3/\aM q.ord.xs q.aK.xs.length=true/\dJ q.ord.xs=true)
theorem kG.avH{W:World}(h:kG mb qb lo lc l e tq W0 c W v ls)(hl:ls.length<=100)(hn:n<=W0.heap.size) :
  ∃ m d,v=.slice m ls.length d/\Ac n m ls W/\(m=none->d=0):=by
 have f:∀ i,i<ls.length->ls.getD i lz∈ls:=fun i b=>by simp[List.getD,b]
 rcases h.own.2 with⟨rfl,h0⟩ | ⟨g,d,cur,rfl,hb,hh,hc,_,hcs,ht⟩
 ·have:=QF h0;subst this;exact⟨none,0,rfl,⟨⟨by simp,fun i b=>absurd b (by simp),fun i b=>absurd b (by simp)⟩,(fun a j=>by cases j),fun i b=>absurd b (by simp)⟩,fun _=>rfl⟩
 ·refine⟨some (aD g 0),d,rfl,⟨⟨by omega,fun i b=>⟨g,0,rfl,?_⟩,fun i b=>(h.cnd _ (f i b)).1⟩,(fun a j=>by cases j; exact QS hn hb),fun i b a j=>QS hn ((h.cnd _ (f i b)).2 a j).1⟩,fun e=>by cases e⟩;have k:(cur.toList.take (ls.length*1))[i]? = some (ls.getD i lz).val:=by
   rw[ht];simp[List.getD,b]
  have o:cur[i]? = some (ls.getD i lz).val:=by
   rw[ZW]at k;split at k
   ·simpa using k
   ·cases k
  simp only[World.cell?,hh]
  simpa using o
