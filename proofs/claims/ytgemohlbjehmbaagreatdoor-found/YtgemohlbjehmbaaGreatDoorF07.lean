import Derived.Test.YtgemohlbjehmbaaGreatDoorF05
set_option linter.all false
set_option maxRecDepth 100000
set_option maxHeartbeats 16000000
namespace Go.Proofs.Zz
open Go.RowKit Go.Shelf
variable {c:Value->Array Value} {f k lc mb n qb r:Nat} {A A1 B S W0:World} {p:Int} {v v':Value} {lo:Option Addr} {l xs:List Int} {ts:List af} {e tq:TypeId} {ls:List aL}
def Da(c n:Int):Int:=Int.tmod (if c<0 then -(c+1) else c) n
theorem NR{c n:Int}(hn:0<n):0<=Da c n/\Da c n<n:=by
 unfold Da;have h:0<=(if c<0 then -(c+1) else c):=by split <;> omega
 exact⟨Int.tmod_nonneg _ h,Int.tmod_lt_of_pos _ hn⟩
theorem jh{p:Addr}(h:A.cell? p=some v)(hk:Kept (λ_=>True) A B):B.cell? p=some v:=
 (Zc (hk.block _ (Za h) trivial)).trans h
theorem Fh{A B:World}{p:Addr}{v:Value}{n:Nat}(h:A.cell? p=some v)(hk:Kept (λb=>b≠n) A B)(hp:p.block≠n):B.cell? p=some v:=
 (Zc (hk.block _ (Za h) hp)).trans h
structure aP(mb:Nat)(lo:Option Addr)(lc:Nat)(l:List Int)(W:World):Prop where
 num:∃ k:Nat,k<=l.length/\W.cell? (aD mb 1)=some (.int .i64 k)
 YH:W.cell? (aD mb 0)=some (.slice lo l.length lc)
 thaw:W.frozen? (aD mb 1)=false
 ints:aM W lo l
 off:∀ a,lo=some a->a.block≠mb
theorem aP.keep{mb:Nat}{lo:Option Addr}{lc:Nat}{l:List Int}{A B:World}(h:aP mb lo lc l A)(hk:Kept (λ_=>True) A B):aP mb lo lc l B:=by obtain⟨k,b,d⟩:=h.num;exact⟨⟨k,b,jh d hk⟩,jh h.YH hk,(XM (a:=(aD mb 1)) (hk.block mb (Za (p:=(aD mb 0)) h.YH) trivial)).trans h.thaw,⟨h.ints.1,h.ints.2.keep λa f e=>hk.block _ e trivial⟩,h.off⟩
theorem aP.more(h:aP mb lo lc l A)(hk:k<=l.length):aP mb lo lc l (A.setCell (aD mb 1) (.int .i64 k)):=by obtain⟨m,_,f⟩:=h.num;have d:Kept (λb=>b≠mb) A (A.setCell (aD mb 1) (.int .i64 k)):=⟨rfl,rfl,rfl,by simp[World.setCell],λb _ i=>Below.heap_setCell A _ _ b i⟩;refine⟨⟨k,hk,World.cell?_setCell_same' _ _ _ (by rw[f]; rfl)⟩,?_,by rw[World.frozen?_setCell]; exact h.thaw,⟨h.ints.1,h.ints.2.keep λa j g=>d.block _ g (h.off a j)⟩,h.off⟩;exact(World.cell?_setCell_other A (aD mb 1) (aD mb 0) (.int .i64 k) (λe=>by cases e)).trans h.YH
theorem YI(c n:Int)(w:World)(hn:0<n)(hc:-9223372036854775808<=c/\c<=9223372036854775807) :
  Ce 24 #[.int .i64 c,.int .i64 n] w (.int .i64 (Da c n)):=by
 have b:¬ n=0:=by omega
 by_cases f:c<0
 ·have d:wrap64 (c+1)=c+1:=by unfold wrap64; omega
  have e:wrap64 (-(c+1)) = -(c+1):=by unfold wrap64; omega
  have a:Da c n = -((c+1).tmod n):=by unfold Da; rw[Qo f,Int.neg_tmod]
  rw[a];clear a;go_enter Tryz.func24,Tryz.ntmps24;go_wp2;go_ret;exact⟨rfl,rfl⟩
 ·have a:Da c n=c % n:=by unfold Da; grind
  rw[a];clear a;go_enter Tryz.func24,Tryz.ntmps24;go_wp2;go_ret;exact⟨rfl,rfl⟩
theorem adp(mb:Nat)(lo:Option Addr)(lc:Nat)(l:List Int)(n:Int)(W:World)(hm:aP mb lo lc l W)(hn:0<n)(hl:∀ x∈l,-9223372036854775808<=x/\x<=9223372036854775807) :
  Calls Tryz.prog 12 #[.pointer (some (aD mb 0)),.int .i64 n] W λe W'=>∃ k:Int,e=.returned (.int .i64 k)/\0<=k/\k<n/\aP mb lo lc l W'/\Kept (λb=>b≠mb) W W':=by
 obtain⟨k,L,p⟩:=hm.num;have s:=hm.YH;have E:=hm.thaw;have B:=hm.ints.1;have j:=Zh hm;have F:=Zh hl;clear hm hl;by_cases g:k<l.length
 ·have t:¬ (k:Int) ≥ (l.length:Int):=by omega
  obtain⟨b,I,rfl,q⟩:=j.o.ints.get g;have i:=q k g;have u:=F.o l[k] (ZQ g);have C:l.getD k 0=l[k]:=by simp[List.getD,g]
  rw[C]at i;generalize l[k]=x at *;have v:b≠mb:=j.o.off _ rfl;clear q C;go_enter Tryz.func12,Tryz.ntmps12;go_wp2;go_quiet (fail);go_wp2;have a:=aP.more (aP.keep j.o (Zn W nq)) (k:=k+1) (by omega);have d:Kept (λb=>b≠mb) W ((W.drewN nq).setCell (aD mb 1) (.int .i64 ((k+1:Nat):Int))):=(Zn W nq).trans ⟨rfl,rfl,rfl,by simp[World.setCell],λb _ J=>Below.heap_setCell _ _ _ b J⟩;have w:=Fh i d v;obtain⟨r,f⟩:∃ r,(W.drewN nq).setCell (aD mb 1) (.int .i64 ((k+1:Nat):Int))=r:=⟨_,rfl⟩;have m:(W.drewN nq).setCell (aD mb 1) (.int .i64 ((k:Int)+1))=r:=f;rw[f]at a d w;rw[m];obtain⟨k2,_,A⟩:=a.num;have G:r.cell? (aD mb 1)=some (.int .i64 ((k:Int)+1)):=by rw[<- f];exact World.cell?_setCell_same' _ _ _ (by rw[jh p (Zn W nq)]; rfl)
  have K:=a.YH;have y:=Zh a;have H:=Zh d;clear a d f m A p s i j;have z:=λW=>YI x n W hn u;go_quiet ((go_at_call 24; exact Calls.quiet_of_same (z _)));go_wp2;go_ret;have D:=NR (c:=x) hn;exact⟨_,rfl,D.1,D.2,aP.keep y.o (Zn _ _),H.o.trans (Zn _ _)⟩
 ·have t:(k:Int) ≥ (l.length:Int):=by omega
  go_enter Tryz.func12,Tryz.ntmps12;go_wp2;go_quiet (fail);go_wp2;go_ret;exact⟨0,rfl,by omega,hn,aP.keep j.o (Zn _ _),Zn _ _⟩
def XL:=@Fh
def XN:=@adp
def KQ:Array Value:=#[.int .i64 0,.int .i64 1,.int .i64 7,.int .i64 20,.int .i64 100,.int .i64 5000,.int .i64 1000000]
def Db:Array Value:=#[.int .i64 1,.int .i64 2,.int .i64 5,.int .i64 10,.int .i64 1000000]
theorem agt(h:r<7):∃ x:Int,KQ[r]? = some (.int .i64 x)/\0<=x/\x<=1000000:=by
 match r,h with
 | 0,_ => exact⟨0,rfl,by omega,by omega⟩
 | 1,_ => exact⟨1,rfl,by omega,by omega⟩
 | 2,_ => exact⟨7,rfl,by omega,by omega⟩
 | 3,_ => exact⟨20,rfl,by omega,by omega⟩
 | 4,_ => exact⟨100,rfl,by omega,by omega⟩
 | 5,_ => exact⟨5000,rfl,by omega,by omega⟩
 | 6,_ => exact⟨1000000,rfl,by omega,by omega⟩
theorem adq(h:r<5):∃ x:Int,Db[r]? = some (.int .i64 x)/\1<=x/\x<=1000000:=by
 match r,h with
 | 0,_ => exact⟨1,rfl,by omega,by omega⟩
 | 1,_ => exact⟨2,rfl,by omega,by omega⟩
 | 2,_ => exact⟨5,rfl,by omega,by omega⟩
 | 3,_ => exact⟨10,rfl,by omega,by omega⟩
 | 4,_ => exact⟨1000000,rfl,by omega,by omega⟩
theorem aP.lt(h:aP mb lo lc l A):mb<A.heap.size:=Za (p:=(aD mb 0)) h.YH
theorem aP.alloc{mb:Nat}{lo:Option Addr}{lc:Nat}{l:List Int}{A:World}(h:aP mb lo lc l A)(o:Obj):aP mb lo lc l (A.alloc o):=h.keep (Q9 _ _)
theorem aP.set(h:aP mb lo lc l A){G i:Nat}(v:Value)(h1:G≠mb)(h2:∀ a,lo=some a->a.block≠G):aP mb lo lc l (A.setCell (aD G i) v):=by have d:Kept (λb=>b≠G) A (A.setCell (aD G i) v):=Zf _ _ _ (λh=>h rfl);obtain⟨k,e,f⟩:=h.num;exact⟨⟨k,e,XL f d (Ne.symm h1)⟩,XL h.YH d (Ne.symm h1),(XM (a:=(aD mb 1)) (d.block mb h.lt (Ne.symm h1))).trans h.thaw,⟨h.ints.1,h.ints.2.keep λa j g=>d.block _ g (h2 a j)⟩,h.off⟩
structure Fj(t:af)(k:Nat):Prop where
 c1:1<=t.aX
 c3:t.aX<=3
 r0:0<=t.rows
 r1:t.rows<=1000000
 kd:∀ m,m<k->1<=t.kd m/\t.kd m<=1000000
 kz:(k<=0->t.k0=0)/\(k<=1->t.k1=0)/\(k<=2->t.k2=0)/\t.k3=0
theorem YJ(mb:Nat)(lo:Option Addr)(lc:Nat)(l:List Int)(W:World)(hm:aP mb lo lc l W)(hl:∀ x∈l,-9223372036854775808<=x/\x<=9223372036854775807)(hlo:∀ a,lo=some a->a.block<W.heap.size) :
  Calls Tryz.prog 13 #[.pointer (some (aD mb 0))] W λe W'=>∃ t:af,e=.returned (.agg t.vals)/\Fj t t.aX.toNat/\aP mb lo lc l W'/\Kept (λb=>b≠mb) W W':=by
 have bC:=hm.lt;have H:=hm.alloc (.cells tz.vals 51);have I:=GB.alloc W tz.vals 51;have J:Kept (λb=>b≠mb) W (W.alloc (.cells tz.vals 51)):=Q9 _ _;obtain⟨W1,D⟩:=eX (W.alloc (.cells tz.vals 51));rw[D]at H I J;have ag:W1.heap.size=W.heap.size+1:=by rw[<- D]; simp
 have ah:=XN mb lo lc l 3 W1 H (by omega) hl;have ai:W.alloc (.cells #[.int .i64 0,.int .i64 0,.int .i64 0,.int .i64 0,.int .i64 0,.int .i64 0] 51)=W1:=D;have HL:=Zh hl;have wM:=Zh hlo;clear hl hlo H hm D;have rJ:=Zh ag;clear ag;go_enter Tryz.func13,Tryz.ntmps13;go_wp2_with fail;refine ah.mono ?_;rintro e j ⟨r,rfl,bI,bA,X,E⟩;clear ai ah;have NT:=J.trans E;have n:W.heap.size≠mb:=by omega
 have aj:=I.keep E n;have bD:wrap64 (1+r)=1+r:=by unfold wrap64; omega
 have bE:=E.size;have BX:=(X.alloc (.cells #[.int .i64 (1+r),.int .i64 0,.int .i64 0,.int .i64 0,.int .i64 0,.int .i64 0] 51)).alloc (.cells KQ 3);have K:=XN mb lo lc l 7 _ BX (by omega) HL.o;have L:GB ((j.alloc (.cells #[.int .i64 (1+r),.int .i64 0,.int .i64 0,.int .i64 0,.int .i64 0,.int .i64 0] 51)).alloc (.cells KQ 3)) j.heap.size 51 #[.int .i64 (1+r),.int .i64 0,.int .i64 0,.int .i64 0,.int .i64 0,.int .i64 0]:=
  (GB.alloc _ _ _).keep (Q9 (s:=λ_=>True) _ _) trivial
 have M:GB ((j.alloc (.cells #[.int .i64 (1+r),.int .i64 0,.int .i64 0,.int .i64 0,.int .i64 0,.int .i64 0] 51)).alloc (.cells KQ 3)) (j.heap.size+1) 3 KQ:=by
  have:=GB.alloc (j.alloc (.cells #[.int .i64 (1+r),.int .i64 0,.int .i64 0,.int .i64 0,.int .i64 0,.int .i64 0] 51)) KQ 3
  rwa [ZA]at this
 have A:∀ s,Kept s j ((j.alloc (.cells #[.int .i64 (1+r),.int .i64 0,.int .i64 0,.int .i64 0,.int .i64 0,.int .i64 0] 51)).alloc (.cells KQ 3)):=λs=>(Q9 _ _).trans (Q9 _ _);have N:=aj.keep (A (λ_=>True)) trivial;have bF:=X.lt;obtain⟨W3,Y⟩:∃ W3,(j.alloc (.cells #[.int .i64 (1+r),.int .i64 0,.int .i64 0,.int .i64 0,.int .i64 0,.int .i64 0] 51)).alloc (.cells KQ 3)=W3:=⟨_,rfl⟩;rw[Y]at K L M N A;unfold KQ at Y;clear X BX I aj J;go_wp2_with fail;refine K.mono ?_;rintro e W4 ⟨r2,rfl,bJ,bB,aI,u⟩;clear Y K;obtain⟨rn,rfl⟩:∃ rn:Nat,r2=(rn:Int):=⟨r2.toNat,by omega⟩;have aK:rn<7:=by omega
 have B:j.heap.size≠mb:=by omega
 have C:=L.keep u B;have ak:=M.keep u (show j.heap.size+1≠mb by omega);have p:=N.keep u n;have au:=(NT.trans (A _)).trans u;obtain⟨x,hx,bq,bu⟩:=agt aK;have aL:=(ak.cell rn).trans hx;have av:=C.cell 1;have aM:=C.frozen 1;simp only[XO,XP,XQ]at av;have ax:GB (W4.setCell (aD j.heap.size 1) (.int .i64 x)) j.heap.size 51 (⟨1+r,x,0,0,0,0⟩:af).vals:=C.set 1 _;have Ca:=aI.set (i:=1) (.int .i64 x) B (λa ha=>by have:=wM.o a ha; have:=NT.size; omega);have ay:Kept (λb=>b≠mb) W (W4.setCell (aD j.heap.size 1) (.int .i64 x)):=au.dH NT.size _;have yN:GB (W4.setCell (aD j.heap.size 1) (.int .i64 x)) W.heap.size 51 tz.vals:=p.keep (s:=λb=>b≠j.heap.size) (Zf _ _ _ (λh=>h rfl)) (by have:=rJ.o; omega);have Hy:Hid _:=ax;have YK:=Zh Ca;have aN:=Zh ay;have oq:Hid _:=yN;have Tt:=Zh NT;clear ax Ca ay yN NT au ak p N L M aI u A E;go_wp2;go_loopw [4] (λi wr=>∃ (k:Nat) (t:af),i=.int .i64 k/\(k:Int)<=t.aX/\Fj t k/\GB wr j.heap.size 51 t.vals/\GB wr W.heap.size 51 tz.vals/\aP mb lo lc l wr/\Kept (λb=>b≠mb) W wr) (λi wr=>10-(intOf i).toNat)
 case atStart=>exact⟨0,⟨1+r,x,0,0,0,0⟩,rfl,by show (0:Int)<=1+r; omega,⟨by show 1<=1+r; omega,by show 1+r<=3; omega,bq,bu,λm h=>by omega,λ_=>rfl,λ_=>rfl,λ_=>rfl,rfl⟩,Hy.o,oq.o,YK.o,aN.o⟩
 case round=>
  obtain⟨k,⟨aX,d,v,w,k2,k3⟩,rfl,bz,hT,g,p,z,F⟩:=hrel;have c0:=g.cell 0;have az:(⟨aX,d,v,w,k2,k3⟩:af).vals[0]? = some (.int .i64 aX):=rfl;rw[az]at c0;simp only at bz;have aO:=hT.c3;simp only at aO;clear az C av aM aL;by_cases bM:(k:Int)<aX
  ·have aQ:k=0∨k=1∨k=2:=by omega
   have Fp:=z.alloc (.cells Db 3);have O:=XN mb lo lc l 5 _ Fp (by omega) HL.o;have P:=g.keep (Q9 (s:=λ_=>True) wr (.cells Db 3)) trivial;have Q:=GB.alloc wr Db 3;have R:=p.keep (Q9 (s:=λ_=>True) wr (.cells Db 3)) trivial;have uq:=F.trans (Q9 (s:=λb=>b≠mb) wr (.cells Db 3));have bG:=z.lt;obtain⟨W6,Z⟩:=eX (wr.alloc (.cells Db 3));rw[Z]at O P Q R uq;unfold Db at Z;clear Fp;go_wp2_with fail;refine O.mono ?_;rintro e W7 ⟨r3,rfl,bK,bL,NU,gV⟩;clear Z O z;obtain⟨aJ,rfl⟩:∃ rn:Nat,r3=(rn:Int):=⟨r3.toNat,by omega⟩;have aR:aJ<5:=by omega
   obtain⟨y,hy,aa,ae⟩:=adq aR;have q:=P.keep gV B;have bH:=((Q.keep gV (show wr.heap.size≠mb by omega)).cell aJ).trans hy;have aA:=R.keep gV n;have aB:=uq.trans gV;have d0:=q.cell 2;have d1:=q.cell 3;have d2:=q.cell 4;have e0:=q.frozen 2;have e1:=q.frozen 3;have e2:=q.frozen 4;have YL:=λi=>NU.set (G:=j.heap.size) (i:=i) (.int .i64 y) B (λa ha=>by have:=wM.o a ha; have:=Tt.o.size; omega);have oW:=λi=>aB.dH (G:=j.heap.size) (i:=i) Tt.o.size (.int .i64 y);have aC:=λi=>aA.keep (s:=λb=>b≠j.heap.size) (Zf W7 (aD j.heap.size i) (.int .i64 y) (λh=>h rfl)) (by have:=rJ.o; omega);have aF:=λi=>q.set i (.int .i64 y);have f0:(⟨aX,d,v,w,k2,k3⟩:af).vals[2]? = some (.int .i64 v):=rfl;have f1:(⟨aX,d,v,w,k2,k3⟩:af).vals[3]? = some (.int .i64 w):=rfl;have f2:(⟨aX,d,v,w,k2,k3⟩:af).vals[4]? = some (.int .i64 k2):=rfl;rw[f0]at d0;rw[f1]at d1;rw[f2]at d2;have S:=Zh aF;have T:=Zh aC;have U:=Zh YL;have V:=Zh oW;have f:=Zh hT;clear aF aC YL oW hT f0 f1 f2 q aA aB NU gV uq P Q R g p F c0;rcases aQ with rfl | rfl | rfl
   ·go_wp2;go_roundw
    case rel=>exact⟨1,⟨aX,d,y,w,k2,k3⟩,rfl,by show (1:Int)<=aX; omega,⟨f.o.c1,f.o.c3,f.o.r0,f.o.r1,λm hm=>by match m,hm with | 0,_=>exact⟨aa,ae⟩,λh=>by omega,λ_=>f.o.kz.2.1 (by omega),λ_=>f.o.kz.2.2.1 (by omega),f.o.kz.2.2.2⟩,S.o 2,T.o 2,U.o 2,V.o 2⟩
    case measure=>simp[intOf]
   ·go_wp2;go_roundw
    case rel=>exact⟨2,⟨aX,d,v,y,k2,k3⟩,rfl,by show (2:Int)<=aX; omega,⟨f.o.c1,f.o.c3,f.o.r0,f.o.r1,λm hm=>by
     match m,hm with
     | 0,_ => exact f.o.kd 0 (by omega)
     | 1,_ => exact⟨aa,ae⟩,λh => by omega,λh => by omega,λ_ => f.o.kz.2.2.1 (by omega),f.o.kz.2.2.2⟩,S.o 3,T.o 3,U.o 3,V.o 3⟩
    case measure=>simp[intOf]
   ·go_wp2;go_roundw
    case rel=>exact⟨3,⟨aX,d,v,w,y,k3⟩,rfl,by show (3:Int)<=aX; omega,⟨f.o.c1,f.o.c3,f.o.r0,f.o.r1,λm hm=>by
     match m,hm with
     | 0,_ => exact f.o.kd 0 (by omega)
     | 1,_ => exact f.o.kd 1 (by omega)
     | 2,_ => exact⟨aa,ae⟩,λh => by omega,λh => by omega,λh => by omega,f.o.kz.2.2.2⟩,S.o 4,T.o 4,U.o 4,V.o 4⟩
    case measure=>simp[intOf]
  ·have aG:aX=(k:Int):=by omega
   have g0:=g.cell 0;have g1:=g.cell 1;have g2:=g.cell 2;have g3:=g.cell 3;have g4:=g.cell 4;have g5:=g.cell 5;have r0:=p.cell 0;have aS:=p.cell 1;have aT:=p.cell 2;have aU:=p.cell 3;have aV:=p.cell 4;have aW:=p.cell 5;have z0:=p.frozen 0;have z1:=p.frozen 1;have z2:=p.frozen 2;have z3:=p.frozen 3;have z4:=p.frozen 4;have z5:=p.frozen 5;simp only[af.vals,tz,XO,XP,XQ]at g0 g1 g2 g3 g4 g5 r0 aS aT aU aV aW;have f:=Zh hT;have aY:=Zh z;have aZ:=Zh F;have bf:=Zh aG;have bg:Hid _:=p;clear g p hT z F aG c0;have aH:GB ((((((wr.setCell (aD W.heap.size 0) (.int .i64 aX)).setCell (aD W.heap.size 1) (.int .i64 d)).setCell (aD W.heap.size 2) (.int .i64 v)).setCell (aD W.heap.size 3) (.int .i64 w)).setCell (aD W.heap.size 4) (.int .i64 k2)).setCell (aD W.heap.size 5) (.int .i64 k3)) W.heap.size 51 (⟨aX,d,v,w,k2,k3⟩:af).vals:=
    (((((GB.set bg.o 0 _).set 1 _).set 2 _).set 3 _).set 4 _).set 5 _
   have bn:Hid _:=aH;clear aH;go_wp2;refine Xh (XR rfl _ _ W.heap.size 51 (⟨aX,d,v,w,k2,k3⟩:af).vals (0,0) _ rfl bn.o Tryz.underlying51 rfl (by kernel_rfl)) rfl ?_;have YM:∀ a,lo=some a->a.block≠W.heap.size:=λa ha=>by have:=wM.o a ha; omega
   refine⟨⟨aX,d,v,w,k2,k3⟩,rfl,?_,?_,?_⟩
   ·have:aX.toNat=k:=by have:=bf.o; omega
    show Fj _ aX.toNat;rw[this];exact f.o
   ·exact(((((aP.set aY.o _ n YM).set _ n YM).set _ n YM).set _ n YM).set _ n YM).set _ n YM
   ·exact(((((Kept.dH aZ.o (Qn _) _).dH (Qn _) _).dH (Qn _) _).dH (Qn _) _).dH (Qn _) _).dH (Qn _) _
def aI.arr(c:aI):Array Value:=#[.bool c.not,.int .i64 c.op,.int .i64 c.left,.bool c.const,.int .i64 c.right]
structure awL(W:World)(G:Nat)(c:aI):Prop where
 c0:W.cell? (aD G 0)=some (.bool c.not)
 c1:W.cell? (aD G 1)=some (.int .i64 c.op)
 c2:W.cell? (aD G 2)=some (.int .i64 c.left)
 c3:W.cell? (aD G 3)=some (.bool c.const)
 c4:W.cell? (aD G 4)=some (.int .i64 c.right)
 f0:W.frozen? (aD G 0)=false
 f1:W.frozen? (aD G 1)=false
 f2:W.frozen? (aD G 2)=false
 f3:W.frozen? (aD G 3)=false
 f4:W.frozen? (aD G 4)=false
theorem GB.five{W:World}{G:Nat}{t:TypeId}{c:aI}(h:GB W G t c.arr):awL W G c:=
 ⟨h.cell 0,h.cell 1,h.cell 2,h.cell 3,h.cell 4,h.frozen 0,h.frozen 1,h.frozen 2,h.frozen 3,h.frozen 4⟩
theorem YN(mb:Nat)(lo:Option Addr)(lc:Nat)(l:List Int)(W:World)(hm:aP mb lo lc l W)(hl:∀ x∈l,-9223372036854775808<=x/\x<=9223372036854775807) :
  Calls Tryz.prog 15 #[.pointer (some (aD mb 0))] W λe W'=>∃ v:Int,e=.returned (.int .i64 v)/\(v=1073741824∨(-1<=v/\v<=3))/\aP mb lo lc l W'/\Kept (λb=>b≠mb) W W':=by
 have d:=XN mb lo lc l 6 W hm (by omega) hl;go_enter Tryz.func15,Tryz.ntmps15;go_wp2_with fail;refine d.mono ?_;rintro e q ⟨a,rfl,n,k,f,g⟩;clear d;by_cases i:a=5
 ·have j:(a==5)=true:=by simpa using i
  clear i;go_wp2;go_ret;exact⟨_,rfl,.inl rfl,f,g⟩
 ·have j:(a==5)=false:=by simpa using i
  have p:wrap64 (a-1)=a-1:=by unfold wrap64; omega
  have m:Hid (-1<=a-1/\a-1<=3):=show _/\_ by omega
  clear i;go_wp2;go_ret;exact⟨_,rfl,.inr m.o,f,g⟩
theorem NV(mb:Nat)(lo:Option Addr)(lc:Nat)(l:List Int)(n:Int)(W:World)(hm:aP mb lo lc l W)(hl:∀ x∈l,-9223372036854775808<=x/\x<=9223372036854775807)(hlo:∀ a,lo=some a->a.block<W.heap.size)(hn:0<n) :
  Calls Tryz.prog 26 #[.pointer (some (aD mb 0)),.int .i64 n] W λe W'=>∃ c:aI,e=.returned (.agg c.arr)/\gJ c n=true/\aP mb lo lc l W'/\Kept (λb=>b≠mb) W W':=by
 have aN:=hm.lt;have aa:=hm.alloc (.cells cz.arr 80);have ae:=GB.alloc W cz.arr 80;have af:Kept (λb=>b≠mb) W (W.alloc (.cells cz.arr 80)):=Q9 _ _;obtain⟨W1,Q⟩:=eX (W.alloc (.cells cz.arr 80));rw[Q]at aa ae af;have rJ:Hid (W1.heap.size=W.heap.size+1):=show _=_ by rw[<- Q]; simp
 have au:=XN mb lo lc l 5 W1 aa (by omega) hl;have av:W.alloc (.cells #[.bool false,.int .i64 0,.int .i64 0,.bool false,.int .i64 0] 80)=W1:=Q;have HL:=Zh hl;have wM:=Zh hlo;have p:W.heap.size≠mb:=by omega
 clear hl hlo aa hm Q;go_enter Tryz.func26,Tryz.ntmps26;go_wp2_with fail;refine au.mono ?_;rintro e W2 ⟨r1,rfl,aO,aM,aG,R⟩;clear av au;have ax:=XN mb lo lc l n W2 aG hn HL.o;obtain⟨j,aQ⟩:∃ j,(r1==1)=j:=⟨_,rfl⟩;go_wp2_with fail;refine ax.mono ?_;rintro e d ⟨k,rfl,aR,aS,BX,S⟩;clear ax;have aH:=R.size;have aJ:=S.size;have GI:=(af.trans R).trans S;have ay:=(ae.keep R p).keep S p;have ag:=BX.alloc (.cells (⟨j,0,k,false,0⟩:aI).arr 80);have ah:=GB.alloc d (⟨j,0,k,false,0⟩:aI).arr 80;have YO:=ay.keep (Q9 (s:=λ_=>True) d (.cells (⟨j,0,k,false,0⟩:aI).arr 80)) trivial;have ai:=GI.trans (Q9 (s:=λb=>b≠mb) d (.cells (⟨j,0,k,false,0⟩:aI).arr 80));obtain⟨W4,ak⟩:=eX (d.alloc (.cells (⟨j,0,k,false,0⟩:aI).arr 80));rw[ak]at ag ah YO ai;have az:=XN mb lo lc l 6 W4 ag (by omega) HL.o;have aA:d.alloc (.cells #[.bool j,.int .i64 0,.int .i64 k,.bool false,.int .i64 0] 80)=W4:=ak;have m:d.heap.size≠mb:=by have:=BX.lt; omega
 have y:Hid (W.heap.size<=d.heap.size/\W.heap.size≠d.heap.size):=show _/\_ by have:=rJ.o; omega
 clear ag BX aG ay GI ae af R S ak aH aJ;have aB:=Zh aA;clear aA;go_wp2_with fail;rw[aB.o];refine az.mono ?_;rintro e T ⟨r3,rfl,aT,aU,F,U⟩;clear aB az;have w:=ah.keep U m;have D:=YO.keep U p;have E:=ai.trans U;have Y:∀ a,lo=some a->a.block≠d.heap.size:=λa ha=>by have:=wM.o a ha; have:=y.o; omega
 have Z:∀ a,lo=some a->a.block≠W.heap.size:=λa ha=>by have:=wM.o a ha; omega
 have NW:=Zh Y;have H:=Zh Z;clear ah YO ai U Y Z;have q:Hid (∀ (Wx:World) (c:aI),GB Wx W.heap.size 80 cz.arr->aP mb lo lc l Wx->Kept (λb=>b≠mb) W Wx->
   GB (((((Wx.setCell (aD W.heap.size 0) (.bool c.not)).setCell (aD W.heap.size 1) (.int .i64 c.op)).setCell (aD W.heap.size 2) (.int .i64 c.left)).setCell (aD W.heap.size 3) (.bool c.const)).setCell (aD W.heap.size 4) (.int .i64 c.right)) W.heap.size 80 c.arr/\
   aP mb lo lc l (((((Wx.setCell (aD W.heap.size 0) (.bool c.not)).setCell (aD W.heap.size 1) (.int .i64 c.op)).setCell (aD W.heap.size 2) (.int .i64 c.left)).setCell (aD W.heap.size 3) (.bool c.const)).setCell (aD W.heap.size 4) (.int .i64 c.right))/\
   Kept (λb=>b≠mb) W (((((Wx.setCell (aD W.heap.size 0) (.bool c.not)).setCell (aD W.heap.size 1) (.int .i64 c.op)).setCell (aD W.heap.size 2) (.int .i64 c.left)).setCell (aD W.heap.size 3) (.bool c.const)).setCell (aD W.heap.size 4) (.int .i64 c.right))):=λWx c hG hM hK=>
  ⟨((((hG.set 0 _).set 1 _).set 2 _).set 3 _).set 4 _,((((hM.set _ p H.o).set _ p H.o).set _ p H.o).set _ p H.o).set _ p H.o,
   ((((hK.dH (Qn _) _).dH (Qn _) _).dH (Qn _) _).dH (Qn _) _).dH (Qn _) _⟩
 have aK:r3=0∨r3=1∨r3=2∨r3=3∨r3=4∨r3=5:=by omega
 rcases aK with rfl | rfl | rfl | rfl | rfl | rfl
 ·have B:=XN mb lo lc l n T F hn HL.o;go_wp2_with fail;refine B.mono ?_;rintro e W6 ⟨g,rfl,V,X,z,t⟩;clear B;have C:=w.keep t m;have N:=(GB.five C).c4;have p4:=(GB.five C).f4;have I:GB (W6.setCell (aD d.heap.size 4) (.int .i64 g)) d.heap.size 80 (⟨j,0,k,false,g⟩:aI).arr:=C.set 4 _;have Fq:GB (W6.setCell (aD d.heap.size 4) (.int .i64 g)) W.heap.size 80 cz.arr:=(D.keep t p).keep (s:=λb=>b≠d.heap.size) (Zf _ _ _ (λh=>h rfl)) y.o.2;have J:=z.set (G:=d.heap.size) (i:=4) (.int .i64 g) m NW.o;have A:=(E.trans t).dH (G:=d.heap.size) (i:=4) y.o.1 (.int .i64 g);have K:Hid (gJ ⟨j,0,k,false,g⟩ n=true):=show _=_ by simp[gJ]; try omega
  simp only at N;clear w D F E C z t;have f:=q.o _ (⟨j,0,k,false,g⟩:aI) Fq J A;have r:=Zh f;have v:=GB.five I;have v0:=v.c0;have L:=v.c1;have M:=v.c2;have v3:=v.c3;have v4:=v.c4;have u:=GB.five Fq;have u0:=u.c0;have u1:=u.c1;have u2:=u.c2;have u3:=u.c3;have u4:=u.c4;have z0:=u.f0;have z1:=u.f1;have z2:=u.f2;have z3:=u.f3;have z4:=u.f4;simp only[cz]at v0 L M v3 v4 u0 u1 u2 u3 u4;clear f v u q;go_wp2;refine Xh (XR rfl _ _ W.heap.size 80 (⟨j,0,k,false,g⟩:aI).arr (0,0) _ rfl r.o.1 Tryz.underlying80 rfl (by kernel_rfl)) rfl ?_;exact⟨(⟨j,0,k,false,g⟩:aI),rfl,K.o,r.o.2.1,r.o.2.2⟩
 ·have B:=XN mb lo lc l n T F hn HL.o;go_wp2_with fail;refine B.mono ?_;rintro e W6 ⟨g,rfl,V,X,z,t⟩;clear B;have C:=w.keep t m;have N:=(GB.five C).c4;have p4:=(GB.five C).f4;have I:GB (W6.setCell (aD d.heap.size 4) (.int .i64 g)) d.heap.size 80 (⟨j,0,k,false,g⟩:aI).arr:=C.set 4 _;have Fq:GB (W6.setCell (aD d.heap.size 4) (.int .i64 g)) W.heap.size 80 cz.arr:=(D.keep t p).keep (s:=λb=>b≠d.heap.size) (Zf _ _ _ (λh=>h rfl)) y.o.2;have J:=z.set (G:=d.heap.size) (i:=4) (.int .i64 g) m NW.o;have A:=(E.trans t).dH (G:=d.heap.size) (i:=4) y.o.1 (.int .i64 g);have K:Hid (gJ ⟨j,0,k,false,g⟩ n=true):=show _=_ by simp[gJ]; try omega
  simp only at N;clear w D F E C z t;have f:=q.o _ (⟨j,0,k,false,g⟩:aI) Fq J A;have r:=Zh f;have v:=GB.five I;have v0:=v.c0;have L:=v.c1;have M:=v.c2;have v3:=v.c3;have v4:=v.c4;have u:=GB.five Fq;have u0:=u.c0;have u1:=u.c1;have u2:=u.c2;have u3:=u.c3;have u4:=u.c4;have z0:=u.f0;have z1:=u.f1;have z2:=u.f2;have z3:=u.f3;have z4:=u.f4;simp only[cz]at v0 L M v3 v4 u0 u1 u2 u3 u4;clear f v u q;go_wp2;refine Xh (XR rfl _ _ W.heap.size 80 (⟨j,0,k,false,g⟩:aI).arr (0,0) _ rfl r.o.1 Tryz.underlying80 rfl (by kernel_rfl)) rfl ?_;exact⟨(⟨j,0,k,false,g⟩:aI),rfl,K.o,r.o.2.1,r.o.2.2⟩
 ·have B:=XN mb lo lc l n T F hn HL.o;go_wp2_with fail;refine B.mono ?_;rintro e W6 ⟨g,rfl,V,X,z,t⟩;clear B;have C:=w.keep t m;have N:=(GB.five C).c4;have p4:=(GB.five C).f4;have I:GB (W6.setCell (aD d.heap.size 4) (.int .i64 g)) d.heap.size 80 (⟨j,0,k,false,g⟩:aI).arr:=C.set 4 _;have Fq:GB (W6.setCell (aD d.heap.size 4) (.int .i64 g)) W.heap.size 80 cz.arr:=(D.keep t p).keep (s:=λb=>b≠d.heap.size) (Zf _ _ _ (λh=>h rfl)) y.o.2;have J:=z.set (G:=d.heap.size) (i:=4) (.int .i64 g) m NW.o;have A:=(E.trans t).dH (G:=d.heap.size) (i:=4) y.o.1 (.int .i64 g);have K:Hid (gJ ⟨j,0,k,false,g⟩ n=true):=show _=_ by simp[gJ]; try omega
  simp only at N;clear w D F E C z t;have f:=q.o _ (⟨j,0,k,false,g⟩:aI) Fq J A;have r:=Zh f;have v:=GB.five I;have v0:=v.c0;have L:=v.c1;have M:=v.c2;have v3:=v.c3;have v4:=v.c4;have u:=GB.five Fq;have u0:=u.c0;have u1:=u.c1;have u2:=u.c2;have u3:=u.c3;have u4:=u.c4;have z0:=u.f0;have z1:=u.f1;have z2:=u.f2;have z3:=u.f3;have z4:=u.f4;simp only[cz]at v0 L M v3 v4 u0 u1 u2 u3 u4;clear f v u q;go_wp2;refine Xh (XR rfl _ _ W.heap.size 80 (⟨j,0,k,false,g⟩:aI).arr (0,0) _ rfl r.o.1 Tryz.underlying80 rfl (by kernel_rfl)) rfl ?_;exact⟨(⟨j,0,k,false,g⟩:aI),rfl,K.o,r.o.2.1,r.o.2.2⟩
 ·have aC:=(GB.five w).c3;have aL:=(GB.five w).f3;have Tu:GB (T.setCell (aD d.heap.size 3) (.bool true)) d.heap.size 80 (⟨j,0,k,true,0⟩:aI).arr:=w.set 3 _;have Fs:GB (T.setCell (aD d.heap.size 3) (.bool true)) W.heap.size 80 cz.arr:=D.keep (s:=λb=>b≠d.heap.size) (Zf _ _ _ (λh=>h rfl)) y.o.2;have z:=F.set (G:=d.heap.size) (i:=3) (.bool true) m NW.o;have t:=E.dH (G:=d.heap.size) (i:=3) y.o.1 (.bool true);have B:=XN mb lo lc l 5 _ z (by omega) HL.o;simp only at aC;go_wp2_with fail;refine B.mono ?_;rintro e W7 ⟨g,rfl,V,X,J,A⟩;clear B z;have hw:wrap64 (g-1)=g-1:=by unfold wrap64; omega
  have O:=Tu.keep A m;have N:=(GB.five O).c4;have p4:=(GB.five O).f4;have aj:GB (W7.setCell (aD d.heap.size 4) (.int .i64 (g-1))) d.heap.size 80 (⟨j,0,k,true,g-1⟩:aI).arr:=O.set 4 _;have KR:GB (W7.setCell (aD d.heap.size 4) (.int .i64 (g-1))) W.heap.size 80 cz.arr:=(Fs.keep A p).keep (s:=λb=>b≠d.heap.size) (Zf _ _ _ (λh=>h rfl)) y.o.2;have YL:=J.set (G:=d.heap.size) (i:=4) (.int .i64 (g-1)) m NW.o;have oW:=(t.trans A).dH (G:=d.heap.size) (i:=4) y.o.1 (.int .i64 (g-1));have K:Hid (gJ ⟨j,0,k,true,g-1⟩ n=true):=show _=_ by simp[gJ]; try omega
  simp only at N;clear w D F E O J A Tu Fs t aC aL;have f:=q.o _ (⟨j,0,k,true,(g-1)⟩:aI) KR YL oW;have r:=Zh f;have v:=GB.five aj;have v0:=v.c0;have L:=v.c1;have M:=v.c2;have v3:=v.c3;have v4:=v.c4;have u:=GB.five KR;have u0:=u.c0;have u1:=u.c1;have u2:=u.c2;have u3:=u.c3;have u4:=u.c4;have z0:=u.f0;have z1:=u.f1;have z2:=u.f2;have z3:=u.f3;have z4:=u.f4;simp only[cz]at v0 L M v3 v4 u0 u1 u2 u3 u4;clear f v u q;go_wp2;refine Xh (XR rfl _ _ W.heap.size 80 (⟨j,0,k,true,(g-1)⟩:aI).arr (0,0) _ rfl r.o.1 Tryz.underlying80 rfl (by kernel_rfl)) rfl ?_;exact⟨(⟨j,0,k,true,(g-1)⟩:aI),rfl,K.o,r.o.2.1,r.o.2.2⟩
 ·have P:=(GB.five w).c1;have aF:=(GB.five w).f1;have Tu:GB (T.setCell (aD d.heap.size 1) (.int .i64 1)) d.heap.size 80 (⟨j,1,k,false,0⟩:aI).arr:=w.set 1 _;have Fs:GB (T.setCell (aD d.heap.size 1) (.int .i64 1)) W.heap.size 80 cz.arr:=D.keep (s:=λb=>b≠d.heap.size) (Zf _ _ _ (λh=>h rfl)) y.o.2;have z:=F.set (G:=d.heap.size) (i:=1) (.int .i64 1) m NW.o;have t:=E.dH (G:=d.heap.size) (i:=1) y.o.1 (.int .i64 1);have B:=XN mb lo lc l n _ z hn HL.o;simp only at P;go_wp2_with fail;refine B.mono ?_;rintro e W7 ⟨g,rfl,V,X,J,A⟩;clear B z;have O:=Tu.keep A m;have N:=(GB.five O).c4;have p4:=(GB.five O).f4;have aj:GB (W7.setCell (aD d.heap.size 4) (.int .i64 g)) d.heap.size 80 (⟨j,1,k,false,g⟩:aI).arr:=O.set 4 _;have KR:GB (W7.setCell (aD d.heap.size 4) (.int .i64 g)) W.heap.size 80 cz.arr:=(Fs.keep A p).keep (s:=λb=>b≠d.heap.size) (Zf _ _ _ (λh=>h rfl)) y.o.2;have YL:=J.set (G:=d.heap.size) (i:=4) (.int .i64 g) m NW.o;have oW:=(t.trans A).dH (G:=d.heap.size) (i:=4) y.o.1 (.int .i64 g);have K:Hid (gJ ⟨j,1,k,false,g⟩ n=true):=show _=_ by simp[gJ]; try omega
  simp only at N;clear w D F E O J A Tu Fs t P aF;have f:=q.o _ (⟨j,1,k,false,g⟩:aI) KR YL oW;have r:=Zh f;have v:=GB.five aj;have v0:=v.c0;have L:=v.c1;have M:=v.c2;have v3:=v.c3;have v4:=v.c4;have u:=GB.five KR;have u0:=u.c0;have u1:=u.c1;have u2:=u.c2;have u3:=u.c3;have u4:=u.c4;have z0:=u.f0;have z1:=u.f1;have z2:=u.f2;have z3:=u.f3;have z4:=u.f4;simp only[cz]at v0 L M v3 v4 u0 u1 u2 u3 u4;clear f v u q;go_wp2;refine Xh (XR rfl _ _ W.heap.size 80 (⟨j,1,k,false,g⟩:aI).arr (0,0) _ rfl r.o.1 Tryz.underlying80 rfl (by kernel_rfl)) rfl ?_;exact⟨(⟨j,1,k,false,g⟩:aI),rfl,K.o,r.o.2.1,r.o.2.2⟩
 ·have P:=(GB.five w).c1;have aF:=(GB.five w).f1;have Tu:GB (T.setCell (aD d.heap.size 1) (.int .i64 2)) d.heap.size 80 (⟨j,2,k,false,0⟩:aI).arr:=w.set 1 _;have Fs:GB (T.setCell (aD d.heap.size 1) (.int .i64 2)) W.heap.size 80 cz.arr:=D.keep (s:=λb=>b≠d.heap.size) (Zf _ _ _ (λh=>h rfl)) y.o.2;have z:=F.set (G:=d.heap.size) (i:=1) (.int .i64 2) m NW.o;have t:=E.dH (G:=d.heap.size) (i:=1) y.o.1 (.int .i64 2);have K:Hid (gJ ⟨j,2,k,false,0⟩ n=true):=show _=_ by simp[gJ]; try omega
  simp only at P;clear w D F E;have f:=q.o _ (⟨j,2,k,false,0⟩:aI) Fs z t;have r:=Zh f;have v:=GB.five Tu;have v0:=v.c0;have L:=v.c1;have M:=v.c2;have v3:=v.c3;have v4:=v.c4;have u:=GB.five Fs;have u0:=u.c0;have u1:=u.c1;have u2:=u.c2;have u3:=u.c3;have u4:=u.c4;have z0:=u.f0;have z1:=u.f1;have z2:=u.f2;have z3:=u.f3;have z4:=u.f4;simp only[cz]at v0 L M v3 v4 u0 u1 u2 u3 u4;clear f v u q;go_wp2;refine Xh (XR rfl _ _ W.heap.size 80 (⟨j,2,k,false,0⟩:aI).arr (0,0) _ rfl r.o.1 Tryz.underlying80 rfl (by kernel_rfl)) rfl ?_;exact⟨(⟨j,2,k,false,0⟩:aI),rfl,K.o,r.o.2.1,r.o.2.2⟩
def XT:=@GB.five
theorem Ao{n:Int}(h:di xs n=true)(h0:0<=p)(h1:p<n):di (xs++[p]) n=true:=by unfold di at *;rw[List.all_append,h];simp[h0,h1]
theorem any_succ(hk:k<xs.length):((xs.take (k+1)).any λx=>x==p)=(((xs.take k).any λx=>x==p) || (xs.getD k 0==p)):=by rw[Qh hk,List.any_append];simp[List.getD,hk]
theorem Tv(h:cK xs=true)(hp:(xs.any λx=>x==p)=false):cK (xs++[p])=true:=by
 unfold cK at *;rw[Qs]at *;intro i b j e;rw[QP,XU]at b;have d:∀ m,m<xs.length->(xs++[p]).getD m 0=xs.getD m 0:=λm f=>by grind
 by_cases g:i<xs.length
 ·grind
 ·have a:i=xs.length:=by omega
  subst a;grind
theorem aP.grown{mb:Nat}{lo:Option Addr}{lc:Nat}{l:List Int}{A B:World}(h:aP mb lo lc l A){row:Option Nat}(hg:A.grownBy B row)(h1:row≠some mb)(h2:∀ a,lo=some a->row≠some a.block):aP mb lo lc l B:=by have d:Kept (λb=>row≠some b) A B:=Zg hg (λr e h=>h e);obtain⟨k,f,g⟩:=h.num;exact⟨⟨k,f,Ze g d h1⟩,Ze h.YH d h1,(XM (a:=(aD mb 1)) (d.block mb h.lt h1)).trans h.thaw,⟨h.ints.1,h.ints.2.keep λa j i=>d.block _ i (h2 a j)⟩,h.off⟩
theorem yO(mb:Nat)(lo:Option Addr)(lc:Nat)(l:List Int)(n:Int)(most:Nat)(W:World)(hm:aP mb lo lc l W)(hl:∀ x∈l,-9223372036854775808<=x/\x<=9223372036854775807)(hlo:∀ a,lo=some a->a.block<W.heap.size)(hn:0<n)(hmo:most<=100) :
  Calls Tryz.prog 27 #[.pointer (some (aD mb 0)),.int .i64 n,.int .i64 most] W λe W'=>∃ (v:Value) (xs:List Int),e=.returned v/\W'.ownsRow W.heap.size 3 1 v xs.length (xs.map (Value.int .i64))/\di xs n=true/\cK xs=true/\xs.length<=most/\aP mb lo lc l W'/\Kept (λb=>b≠mb) W W':=by
 obtain⟨i0,hi,V,X,Y⟩:=Zv Tryz.nG;have ag:=hm.lt;have E:=XN mb lo lc l ((most:Int)+1) W hm (by omega) hl;have O:wrap64 ((most:Int)+1)=(most:Int)+1:=by unfold wrap64; omega
 have HL:=Zh hl;have wM:=Zh hlo;clear hl hlo hm;go_enter Tryz.func27,Tryz.ntmps27;go_wp2_with fail;refine E.mono ?_;rintro e W2 ⟨r1,rfl,ak,af,J,K⟩;obtain⟨k1,rfl⟩:∃ k:Nat,r1=(k:Int):=⟨r1.toNat,by omega⟩;clear E O;go_wp2;go_loopw [7,8] (λv i wr=>∃ (k:Nat) (xs:List Int),i=.int .i64 k/\xs.length+k<=most/\wr.ownsRow W.heap.size 3 1 v xs.length (xs.map (Value.int .i64))/\Hid (di xs n=true/\cK xs=true)/\aP mb lo lc l wr/\Kept (λb=>b≠mb) W wr) (λ_ i _=>(intOf i).toNat)
 case atStart=>exact⟨k1,[],rfl,by simp; omega,Zu _ _ _ _,⟨rfl,rfl⟩,J,K⟩
 case round=>
  obtain⟨k,xs,rfl,au,q,w,Z,hK⟩:=hrel;clear J K;by_cases h0:0<k
  ·skip;have F:=XN mb lo lc l n wr Z hn HL.o;go_wp2_with fail;refine F.mono ?_;rintro e W3 ⟨p,rfl,aa,ae,BX,L⟩;clear F;have d:=Zi q L (λg hg=>by have:=(Zj q hg).1; omega);have B:=hK.trans L;obtain⟨iv,qd,vE,nU,-⟩:=jR d (by omega);obtain⟨qi,iF,z⟩:=iv;simp only at vE;subst vE;unfold ai.val at qd;simp only at qd;subst qd;have s:=nU.1;have HI:Hid _:=s;clear q Z hK nU s;go_wp2;go_loopw [10,11] (λtw i ws=>∃ (m:Nat),m<=z.length/\i=.int .i64 m/\tw=.bool ((z.take m).any λx=>x==p)/\W3=ws) (λ_ i _=>z.length-(intOf i).toNat)
   case atStart=>exact⟨0,QK _,rfl,rfl,rfl⟩
   case round=>
    obtain⟨m,hm,rfl,rfl,rfl⟩:=hrel;by_cases D:m<z.length
    ·obtain⟨b,av,rfl,M⟩:=HI.o.get D;have ah:=M m D;have HS:=Zh (any_succ (p:=p) D);generalize z.getD m 0=y at *;generalize ((z.take m).any λx=>x==p)=tw at *;clear M
     cases tw with
     | true =>
      go_wp2;go_roundw
      case rel=>exact⟨m+1,by omega,by go_num,by rw[HS.o]; rfl,trivial⟩
      case measure=>simp[intOf]; omega
     | false =>
      go_wp2;go_roundw
      case rel=>exact⟨m+1,by omega,by go_num,by rw[HS.o]; simp,trivial⟩
      case measure=>simp[intOf]; omega
    ·have P:m=z.length:=by omega
     subst P;rw[QT];have aj:=B.size;have G:=Zh BX
     cases htw:(z.any λx=>x==p) with
     | true =>
      have Q:wrap64 (((k:Int))-1)=((k-1:Nat):Int):=by unfold wrap64; omega
      have C:Hid _:=d;clear Q d;go_wp2;go_roundw
      case rel=>exact⟨k-1,z,congrArg (Value.int .i64) (show _=((k-1:Nat):Int) by omega),by omega,C.o,w,G.o,B⟩
      case measure=>simp[intOf]; omega
     | false =>
      have C:Hid _:=d;go_wp2_with (first | (at_builtin; refine wpList_append_own _ rfl _ _ 22 rfl W.heap.size 3 i0 (.int .i64 0) 1 8 Tryz.underlying22 hi V X Y rfl (by decide) _ _ _ rfl (d.alloc _) (aD W3.heap.size 0) 1 1 [.int .i64 p] rfl rfl ?q1 ?q2 ?q3 ?q4 ?q5 ?_))
      case q1=>
       intro j u N
       match j,N with
       | 0,N => simp at N; subst N; simp[Addr.add]
      case q2=>intro u hu; simp at hu; subst hu; rfl
      case q3=>unfold maxLen; omega
      case q4=>omega
      case q5=>simp; omega
      intro v' w1 A f _;have R:∀ g,(Value.slice qi z.length iF).ownBlock=some g->W.heap.size<=g:=λg hg=>(Zj C.o hg).1;have H:=(aP.alloc G.o (.cells #[.int .i64 p] 3)).grown f (λe=>by have:=R _ e; omega) (λa ha e=>by have:=R _ e; have:=wM.o a ha; omega);have I:Kept (λb=>b≠mb) W w1:=by have h1:Kept (λb=>b≠mb) W (W3.alloc (.cells #[.int .i64 p] 3)):=B.trans (Q9 _ _);exact((h1.mono (t:=λb=>b≠mb/\b<W.heap.size) (λb _ h=>h.1)).trans (Zg f (λr e h=>by have:=R r e; have:=h.2; omega))).mono (λb hb h=>⟨h,hb⟩)
      have Ns:Hid _:=A;have S:=Zh H;have T:=Zh I;clear A f d H I;go_wp2;go_roundw
      case rel=>exact⟨k-1,z++[p],congrArg (Value.int .i64) (show _=((k-1:Nat):Int) by omega),by rw[QP,XU]; omega,by rw[QP,Qi]; exact Ns.o,⟨Ao w.o.1 aa ae,Tv w.o.2 htw⟩,S.o,T.o⟩
      case measure=>simp[intOf]; omega
  ·have U:k=0:=by omega
   subst U;go_wp2;go_ret;exact⟨_,xs,rfl,q,w.o.1,w.o.2,by omega,Z,hK⟩
theorem aP.cO{s:Nat->Prop}(h:aP mb lo lc l A)(hk:Kept s A B)(h1:s mb)(h2:∀ a,lo=some a->s a.block):aP mb lo lc l B:=by obtain⟨k,b,d⟩:=h.num;exact⟨⟨k,b,Ze d hk h1⟩,Ze h.YH hk h1,(XM (a:=(aD mb 1)) (hk.block mb h.lt h1)).trans h.thaw,⟨h.ints.1,h.ints.2.keep λa f e=>hk.block _ e (h2 a f)⟩,h.off⟩
def caseA(cv:Value)(q:ae)(dv:Value):Array Value:=#[cv,q.src.val,.slice q.dD q.wh.length q.aS,.bool q.group,q.keys.val,q.sums.val,q.bA.val,q.ord.val,dv]
theorem KS(co:Option Addr)(cc:Nat)(ts:List af)(q:ae)(dv:Value)(hdv:∃ a m c,dv=.slice a m c)(w:World)(hx:bF w co ts)(hc:gH ts=true)(hq:q.src.At w)(h5:q.src.xs.length<=5)(ha:di q.src.xs ts.length=true) :
  Cb 25 #[.agg (caseA (.slice co ts.length cc) q dv)] w (.int .i64 (az ts q.src.xs)):=by
 obtain⟨t,u,v,rfl⟩:=hdv;obtain⟨⟨p,r,xs⟩,y,z,wh,group,d,e,g,ord⟩:=q;unfold ai.At at hq;simp only at h5 ha hq;unfold caseA ai.val;simp only;have G:=Zh hc;have H:=Zh ha;have s:=fq w (.cells #[.slice co ts.length cc,.slice p xs.length r,.slice y wh.length z,.bool group,.slice d.ad d.xs.length d.cap,.slice e.ad e.xs.length e.cap,.slice g.ad g.xs.length g.cap,.slice ord.ad ord.xs.length ord.cap,.slice t u v] 29);have A:=hx.below s;have B:=Ql s hq;have I:(w.alloc (.cells #[.slice co ts.length cc,.slice p xs.length r,.slice y wh.length z,.bool group,.slice d.ad d.xs.length d.cap,.slice e.ad e.xs.length e.cap,.slice g.ad g.xs.length g.cap,.slice ord.ad ord.xs.length ord.cap,.slice t u v] 29)).cell? (aD w.heap.size 0)=some (.slice co ts.length cc):=by simp
 have J:(w.alloc (.cells #[.slice co ts.length cc,.slice p xs.length r,.slice y wh.length z,.bool group,.slice d.ad d.xs.length d.cap,.slice e.ad e.xs.length e.cap,.slice g.ad g.xs.length g.cap,.slice ord.ad ord.xs.length ord.cap,.slice t u v] 29)).cell? (aD w.heap.size 1)=some (.slice p xs.length r):=by simp
 have C:=Zh s;clear hc ha hx hq s;go_enter Tryz.func25,Tryz.ntmps25;go_wp2;obtain⟨Q,l⟩:=eX (w.alloc (.cells #[.slice co ts.length cc,.slice p xs.length r,.slice y wh.length z,.bool group,.slice d.ad d.xs.length d.cap,.slice e.ad e.xs.length e.cap,.slice g.ad g.xs.length g.cap,.slice ord.ad ord.xs.length ord.cap,.slice t u v] 29));rw[l]at C A B I J;rw[l];clear l;go_loopw [3,4] (λn i wr=>∃ k:Nat,k<=xs.length/\i=.int .i64 k/\n=.int .i64 (az ts (xs.take k))/\Bw Q wr) (λ_ i _=>xs.length-(intOf i).toNat)
 case atStart=>exact⟨0,QK _,rfl,rfl,Qm _ _⟩
 case round=>
  obtain⟨k,R,rfl,rfl,f⟩:=hrel;have N:=mO G.o H.o k R;have U:=cB f I;have V:=cB f J;by_cases j:k<xs.length
  ·obtain⟨Y,S,rfl,L⟩:=B.get j;have D:=cB f (L k j);have W:=qG H.o j;have X:=qF G.o (i:=xs[k].toNat) (by omega);obtain⟨b,T,rfl,t0,-⟩:=A.2 xs[k].toNat (by omega);have E:=cB f t0;have O:=Zh (jH ts xs k j);generalize (ts.getD xs[k].toNat tz).aX=cl at *;generalize az ts (xs.take k)=W0 at *;have K:xs.getD k 0=xs[k]:=by simp[List.getD,j]
   rw[K]at D;clear L t0 A B K;generalize F:xs[k]=xk at *;clear F;obtain⟨M,rfl⟩:∃ M:Nat,xk=(M:Int):=⟨xk.toNat,by omega⟩;simp only[ZY]at E;have P:wrap64 (W0+cl)=W0+cl:=by unfold wrap64; omega
   go_wp2;go_quiet (fail);go_wp2;go_roundw
   case rel=>exact⟨k+1,by omega,by go_num,by rw[O.o],Zo f _⟩
   case measure=>simp[intOf]; omega
  ·go_wp2;go_ret;have:k=xs.length:=by omega
   subst this;exact⟨Qe (by rw[QT]),C.o.trans (f.mono C.o.size)⟩
theorem adx(h:gH ts=true):1<=ts.length/\ts.length<=8:=by unfold gH at h;simp_all
theorem Fu(hc:gH ts=true)(ha:di xs ts.length=true)(h1:1<=xs.length)(h5:xs.length<=5):1<=az ts xs/\az ts xs<=20:=by
 have d:∀ t∈xs,1<=(ts.getD t.toNat tz).aX/\(ts.getD t.toNat tz).aX<=4:=λt b=>by unfold di at ha;rw[Qk]at ha;have:=ha t b;simp only[Qj,Qs]at this;exact qF hc (i:=t.toNat) (by omega)
 have e:∀ l:List Int,(∀ t∈l,1<=(ts.getD t.toNat tz).aX/\(ts.getD t.toNat tz).aX<=4)->(l.length:Int)<=az ts l/\az ts l<=4*l.length:=by
  intro l
  induction l with
  | nil => intro _; simp[az]
  | cons a l ih =>
   intro h;have h1:=ih (λt b=>h t (by simp[b]));have f:=h a (by simp);have g:az ts (a::l)=(ts.getD a.toNat tz).aX+az ts l:=by simp[az]
   grind
 grind
def ll:ai:=⟨none,0,[]⟩
def qz:ae:=⟨ll,none,0,[],false,ll,ll,ll,ll⟩
structure gP(mb qb:Nat)(lo:Option Addr)(lc:Nat)(l:List Int)(e tq:TypeId)(W0:World)(c:Value->Array Value)(W:World)(v:Value)(xs:List Int):Prop where
 gb:GB W qb tq (c v)
 own:W.ownsRow W0.heap.size e 1 v xs.length (xs.map (Value.int .i64))
 LM:aP mb lo lc l W
 kept:Kept (λb=>b≠mb/\b≠qb) W0 W
theorem gP.keep{mb qb:Nat}{lo:Option Addr}{lc:Nat}{l:List Int}{e tq:TypeId}{W0:World}{c:Value->Array Value}{A B:World}{v:Value}{xs:List Int}(h:gP mb qb lo lc l e tq W0 c A v xs)(hk:Kept (λb=>b≠mb) A B)(hm:aP mb lo lc l B)
  (hq:qb≠mb) (hmb:mb<W0.heap.size):gP mb qb lo lc l e tq W0 c B v xs:=
 ⟨h.gb.keep hk hq,Zi h.own hk (λg a=>by have:=(Zj h.own a).1; omega),hm,h.kept.trans (hk.mono λb _ h=>h.1)⟩
theorem gP.more(h:gP mb qb lo lc l e tq W0 c A v xs)
  (ha:Kept (λ_=>True) A A1) (hown:B.ownsRow W0.heap.size e 1 v' (xs.length+1) (xs.map (Value.int .i64)++[.int .i64 p])) (hg:A1.grownBy B v.ownBlock) (hc:(c v).setIfInBounds f v' = c v')
  (hq:qb≠mb) (hmb:mb<W0.heap.size) (hqb:qb<W0.heap.size) (hlo:∀ a,lo=some a->a.block<W0.heap.size/\a.block≠qb) :
  gP mb qb lo lc l e tq W0 c (B.setCell (aD qb f) v') v' (xs++[p]):=by
 have j:∀ g,v.ownBlock=some g->W0.heap.size<=g:=λg hg=>(Zj h.own hg).1;have k:∀ g,v'.ownBlock=some g->W0.heap.size<=g:=λg hg=>(Zj hown hg).1;have d:Kept (λb=>v.ownBlock≠some b) A B:=(ha.mono λ_ _ _=>trivial).trans (Zg hg (λr e n=>n e));have i:Kept (λb=>v.ownBlock≠some b/\b≠qb) A (B.setCell (aD qb f) v'):=(d.mono λ_ _ h=>h.1).trans (Zf _ _ _ (λh=>h.2 rfl));refine⟨?_,?_,?_,?_⟩
 ·have m:=h.gb.keep d (λe=>by grind)
  grind [GB.set]
 ·have:=Zi hown (s:=λb=>b≠qb) (Zf B (aD qb f) v' (λh=>h rfl)) (λg hg=>by grind)
  simp_all
 ·exact h.LM.cO i ⟨λe=>by grind,Ne.symm hq⟩ (λa ha=>⟨λe=>by grind,(hlo a ha).2⟩)
 ·exact((h.kept.mono (t:=λb=>(b≠mb/\b≠qb)/\b<W0.heap.size) (λb _ h=>h.1)).trans (i.mono λb _ h=>⟨λe=>by grind,h.1.2⟩)).mono (λb o h=>⟨h,o⟩)
theorem gP.far(h:gP mb qb lo lc l e tq W0 c A v xs)
  (ha:Kept (λ_=>True) A A1) (hg:A1.grownBy B v.ownBlock):Kept (λb=>b<W0.heap.size) A B:=
 (ha.mono λ_ _ _=>trivial).trans (Zg hg (λr e a=>by have:=(Zj h.own e).1; omega))
theorem bF.keep{A B:World}{ao:Option Addr}{ts:List af}(h:bF A ao ts)(hb:∀ a,ao=some a->a.block<A.heap.size->B.heap[a.block]? = A.heap[a.block]?):bF B ao ts:=by
 refine⟨h.1,λi o=>?_⟩;obtain⟨b,d,rfl,f,j,k,l,m,n⟩:=h.2 i o;have g:b<A.heap.size:=Za (p:=(aD b (d+i*6))) f;have e:=hb (aD b d) rfl g;exact⟨b,d,rfl,(Zc (a:=(aD b (d+i*6))) e).trans f,(Zc (a:=(aD b (d+i*6+1))) e).trans j,(Zc (a:=(aD b (d+i*6+2))) e).trans k,
  (Zc (a:=(aD b (d+i*6+3))) e).trans l,(Zc (a:=(aD b (d+i*6+4))) e).trans m,(Zc (a:=(aD b (d+i*6+5))) e).trans n⟩
theorem bZ.keep{A B:World}{ao:Option Addr}{cs:List aI}(h:bZ A ao cs)(hb:∀ a,ao=some a->a.block<A.heap.size->B.heap[a.block]? = A.heap[a.block]?):bZ B ao cs:=by
 refine⟨h.1,λi n=>?_⟩;obtain⟨b,d,rfl,f,j,k,l,m⟩:=h.2 i n;have g:b<A.heap.size:=Za (p:=(aD b (d+i*5))) f;have e:=hb (aD b d) rfl g;exact⟨b,d,rfl,(Zc (a:=(aD b (d+i*5))) e).trans f,(Zc (a:=(aD b (d+i*5+1))) e).trans j,(Zc (a:=(aD b (d+i*5+2))) e).trans k,
  (Zc (a:=(aD b (d+i*5+3))) e).trans l,(Zc (a:=(aD b (d+i*5+4))) e).trans m⟩
def kH(n:Nat)(x:ai)(S:World):Prop:=bU.At x S/\(∀ b,bU.blk x=some b->n<=b)/\x.xs.length<=x.cap
theorem kH.keep{n:Nat}{x:ai}{A B:World}{s:Nat->Prop}(h:kH n x A)(hk:Kept s A B)(hs:∀ b,n<=b->s b):kH n x B:=
 ⟨bU.keep h.1 hk.size (λb a d=>hk.block b a (hs b (h.2.1 b d))),h.2.1,h.2.2⟩
theorem kH.nil(n:Nat)(S:World):kH n ll S:=
 ⟨⟨⟨by simp[ll],λi d=>absurd d (by simp[ll])⟩,(λa e=>by cases e),λ_=>rfl⟩,(λb f=>by cases f),by simp[ll]⟩
theorem kD{w:World}{base:Nat}(h:w.ownsRow base e 1 v k (xs.map (Value.int .i64)))(hl:xs.length<=1000)(hb:n<=base):∃ iv:ai,v=iv.val/\iv.xs=xs/\kH n iv w:=by
 obtain⟨iv,hv,i,a,d⟩:=jR h (by omega);refine⟨iv,hv,i,a,λb f=>Q6 hb (d b f),?_⟩;have j:xs.length=k:=by have:=h.1; simp_all
 rcases h.2 with⟨hv',h0⟩ | ⟨g,cap,cur,hv',_,_,hc,_⟩
 ·simp_all
 ·rw[hv]at hv';unfold ai.val at hv'
  simp_all
def Ap(n:Nat)(ad:Option Addr)(ls:List aL)(S:World):Prop:=
 fT S ad ls/\(∀ a,ad=some a->n<=a.block)/\∀ i,i<ls.length->∀ a,(ls.getD i lz).ad=some a->n<=a.block
theorem Ap.keep{n:Nat}{ad:Option Addr}{ls:List aL}{A B:World}{s:Nat->Prop}(h:Ap n ad ls A)(hk:Kept s A B)(hs:∀ b,n<=b->s b):Ap n ad ls B:=
 ⟨⟨h.1.1,h.1.2.1.keep λa e d=>hk.block _ d (hs _ (h.2.1 a e)),λi f=>(h.1.2.2 i f).keep λa e d=>hk.block _ d (hs _ (h.2.2 i f a e))⟩,h.2.1,h.2.2⟩
structure fo(n:Nat)(q:ae)(S:World):Prop where
 src:kH n q.src S
 wh:Ap n q.dD q.wh S
 keys:kH n q.keys S
 sums:kH n q.sums S
 bA:kH n q.bA S
 ord:kH n q.ord S
 nil:q.dD=none->q.aS=0
theorem fo.keep{n:Nat}{q:ae}{A B:World}{s:Nat->Prop}(h:fo n q A)(hk:Kept s A B)(hs:∀ b,n<=b->s b):fo n q B:=
 ⟨h.src.keep hk hs,h.wh.keep hk hs,h.keys.keep hk hs,h.sums.keep hk hs,h.bA.keep hk hs,h.ord.keep hk hs,h.nil⟩
theorem kH.lower{m:Nat}{x:ai}(h:kH n x S)(hm:m<=n):kH m x S:=⟨h.1,λb a=>Q6 hm (h.2.1 b a),h.2.2⟩
theorem fo.lower{n m:Nat}{q:ae}{S:World}(h:fo n q S)(hm:m<=n):fo m q S:=
 ⟨h.src.lower hm,⟨h.wh.1,λa b=>Q6 hm (h.wh.2.1 a b),λi d a b=>Q6 hm (h.wh.2.2 i d a b)⟩,h.keys.lower hm,h.sums.lower hm,h.bA.lower hm,h.ord.lower hm,h.nil⟩
theorem fo.at'{q:ae}(h:fo n q S):q.At S:=⟨h.src.1.1,h.wh.1,h.keys.1.1,h.sums.1.1,h.bA.1.1,h.ord.1.1⟩
def XV:=@fo.keep
structure lS(mb qb:Nat)(lo:Option Addr)(lc:Nat)(l:List Int)(e tq:TypeId)(W0:World)(c:Value->Array Value)(W:World)(v:Value)(ls:List aL):Prop where
 gb:GB W qb tq (c v)
 own:W.ownsRow W0.heap.size e 1 v ls.length (ls.map aL.val)
 cnd:∀ x∈ls,bZ W x.ad x.cs/\∀ a,x.ad=some a->W0.heap.size<=a.block/\a.block<W.heap.size/\v.ownBlock≠some a.block
 LM:aP mb lo lc l W
 kept:Kept (λb=>b≠mb/\b≠qb) W0 W
theorem lS.keep{mb qb:Nat}{lo:Option Addr}{lc:Nat}{l:List Int}{e tq:TypeId}{W0:World}{c:Value->Array Value}{A B:World}{v:Value}{ls:List aL}(h:lS mb qb lo lc l e tq W0 c A v ls)(hk:Kept (λb=>b≠mb) A B)(hm:aP mb lo lc l B)
  (hq:qb≠mb) (hmb:mb<W0.heap.size):lS mb qb lo lc l e tq W0 c B v ls:=
 ⟨h.gb.keep hk hq,Zi h.own hk (λg j=>by have:=(Zj h.own j).1; omega),λx d=>⟨(h.cnd x d).1.keep (λa f i=>hk.block _ i (by have:=((h.cnd x d).2 a f).1; omega)),λa f=>⟨((h.cnd x d).2 a f).1,by have:=((h.cnd x d).2 a f).2.1; have:=hk.size; omega,((h.cnd x d).2 a f).2.2⟩⟩,hm,h.kept.trans (hk.mono λb _ h=>h.1)⟩
theorem lS.more(h:lS mb qb lo lc l e tq W0 c A v ls){x:aL}
  (hx:bZ A x.ad x.cs) (hxb:∀ a,x.ad=some a->W0.heap.size<=a.block/\a.block<A.heap.size/\v.ownBlock≠some a.block)
  (ha:Kept (λ_=>True) A A1) (hs1:A1.heap.size=A.heap.size+1) (hown:B.ownsRow W0.heap.size e 1 v' (ls.length+1) (ls.map aL.val++[x.val])) (hg:A1.grownBy B v.ownBlock) (hat:v'.ownBlock=v.ownBlock∨v'.ownBlock=some A1.heap.size) (hc:(c v).setIfInBounds f v' = c v')
  (hq:qb≠mb) (hmb:mb<W0.heap.size) (hqb:qb<W0.heap.size) (hlo:∀ a,lo=some a->a.block<W0.heap.size/\a.block≠qb) :
  lS mb qb lo lc l e tq W0 c (B.setCell (aD qb f) v') v' (ls++[x]):=by
 have p:∀ g,v.ownBlock=some g->W0.heap.size<=g:=λg hg=>(Zj h.own hg).1;have q:∀ g,v'.ownBlock=some g->W0.heap.size<=g:=λg hg=>(Zj hown hg).1;have j:Kept (λb=>v.ownBlock≠some b) A B:=(ha.mono λ_ _ _=>trivial).trans (Zg hg (λr e w=>w e));have i:Kept (λb=>v.ownBlock≠some b/\b≠qb) A (B.setCell (aD qb f) v'):=(j.mono λ_ _ h=>h.1).trans (Zf _ _ _ (λh=>h.2 rfl));have k:∀ b,b<A.heap.size->v.ownBlock≠some b->v'.ownBlock≠some b:=λb o z e=>by grind
 have m:∀ y:aL,bZ A y.ad y.cs->(∀ a,y.ad=some a->W0.heap.size<=a.block/\a.block<A.heap.size/\v.ownBlock≠some a.block)->bZ (B.setCell (aD qb f) v') y.ad y.cs/\∀ a,y.ad=some a->W0.heap.size<=a.block/\a.block<(B.setCell (aD qb f) v').heap.size/\v'.ownBlock≠some a.block:=λy hy d=>
  ⟨hy.keep (λa ha n=>i.block _ n ⟨(d a ha).2.2,by grind⟩),λa ha=>⟨(d a ha).1,by have:=(d a ha).2.1; have:=i.size; omega,k _ (d a ha).2.1 (d a ha).2.2⟩⟩
 refine⟨?_,?_,?_,?_,?_⟩
 ·have u:=h.gb.keep j (λe=>by grind)
  grind [GB.set]
 ·have:=Zi hown (s:=λb=>b≠qb) (Zf B (aD qb f) v' (λh=>h rfl)) (λg hg=>by grind)
  simp_all
 ·intro y hy;rcases ZK.1 hy with hy | hy
  ·exact m y (h.cnd y hy).1 (h.cnd y hy).2
  grind
 ·exact h.LM.cO i ⟨λe=>by grind,Ne.symm hq⟩ (λa ha=>⟨λe=>by grind,(hlo a ha).2⟩)
 ·exact((h.kept.mono (t:=λb=>(b≠mb/\b≠qb)/\b<W0.heap.size) (λb _ h=>h.1)).trans (i.mono λb _ h=>⟨λe=>by grind,h.1.2⟩)).mono (λb o h=>⟨h,o⟩)
theorem lS.far(h:lS mb qb lo lc l e tq W0 c A v ls)
  (ha:Kept (λ_=>True) A A1) (hg:A1.grownBy B v.ownBlock):Kept (λb=>b<W0.heap.size) A B:=
 (ha.mono λ_ _ _=>trivial).trans (Zg hg (λr e a=>by have:=(Zj h.own e).1; omega))
theorem NY(w:World)(c:aI)(e:TypeId):(w.alloc (.cells c.arr e)).ownsRow w.heap.size e 5 (.slice (some (aD w.heap.size 0)) 1 1) 1 ([c].flatMap aI.vals):=
 ⟨rfl,.inr ⟨w.heap.size,1,_,rfl,Qn _,qH w _,Qn _,by grind [maxLen],rfl,rfl⟩⟩
def Aq(n:Int)(x:aL):Prop:=1<=x.cs.length/\x.cs.length<=3/\∀ c∈x.cs,gJ c n=true
structure DY(ts:List af)(q:ae):Prop where
 src:di q.src.xs ts.length=true/\1<=q.src.xs.length/\q.src.xs.length<=4
 wh:q.wh.length<=4/\∀ x∈q.wh,Aq (az ts q.src.xs) x
 out:(q.group=true/\q.bA.xs=[]/\q.keys.xs.length<=3/\di q.keys.xs (az ts q.src.xs)=true/\cK q.keys.xs=true/\q.sums.xs.length<=2/\di q.sums.xs (az ts q.src.xs)=true/\q.ord.xs.length<=2/\di q.ord.xs ((q.keys.xs.length:Int)+1+q.sums.xs.length)=true/\cK q.ord.xs=true)∨
  (q.group=false/\q.keys.xs=[]/\q.sums.xs=[]/\1<=q.bA.xs.length/\q.bA.xs.length<=4/\di q.bA.xs (az ts q.src.xs)=true/\q.ord.xs.length<=3/\di q.ord.xs q.bA.xs.length=true/\cK q.ord.xs=true)
theorem lS.awN{W:World}(h:lS mb qb lo lc l e tq W0 c W v ls)(hl:ls.length<=100)(hn:n<=W0.heap.size) :
  ∃ j cap,v=.slice j ls.length cap/\Ap n j ls W/\(j=none->cap=0):=by
 have d:∀ i,i<ls.length->ls.getD i lz∈ls:=λi b=>by simp_all
 rcases h.own.2 with⟨rfl,h0⟩ | ⟨g,cap,cur,rfl,hb,hh,hc,_,hcs,ht⟩
 ·have:=Zl h0;subst this;exact⟨none,0,rfl,⟨⟨by simp,λi b=>absurd b (by simp),λi b=>absurd b (by simp)⟩,(λa f=>by cases f),λi b=>absurd b (by simp)⟩,λ_=>rfl⟩
 ·refine⟨some (aD g 0),cap,rfl,⟨⟨by omega,λi b=>⟨g,0,rfl,?_⟩,λi b=>(h.cnd _ (d i b)).1⟩,(λa f=>by grind),λi b a f=>Q6 hn ((h.cnd _ (d i b)).2 a f).1⟩,λe=>by cases e⟩;have k:(cur.toList.take (ls.length*1))[i]? = some (ls.getD i lz).val:=by simp_all
  have m:cur[i]? = some (ls.getD i lz).val:=by grind
  simp only[World.cell?,hh];simp_all
