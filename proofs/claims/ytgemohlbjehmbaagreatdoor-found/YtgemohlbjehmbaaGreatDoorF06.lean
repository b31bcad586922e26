import Derived.Test.YtgemohlbjehmbaaGreatDoorF03
set_option linter.all false
set_option maxRecDepth 100000
set_option maxHeartbeats 16000000
namespace Go.Proofs.Zz
open Go.RowKit Go.Shelf
variable {a b:Int} {ts:List af} {q:ae}
theorem ach(a:Addr)(x:World)(c:Int)(h0:0<=c)(h4:c<=4) :
  (Instr.sliceAt 49 (.pointer (some a)) none (some (.int .i64 c)) none).run Tryz.prog x=.ok (.slice (some a) c.toNat 4) x:=by
 have b:Tryz.prog.arrayLen 49=4:=by kernel_rfl
 have d:Tryz.prog.elem 49=3:=by kernel_rfl
 rw[run_sliceAt_array_h x 49 a (by rw[b,d]; exact Tryz.underlying49) .i64 c h0 (by rw[b]; omega),b,d];simp[slicedAt,Addr.add]
theorem MN(t:af)(w:World) :
  Cb 71 #[.agg t.vals] w (.bool (fB t)):=by
 have b:=@PR t;have d:=@LV t;have l:=@LW t;have e:=λm s=>af.afa w t 51 m s;generalize fB t=B at *;unfold af.vals;by_cases v:t.aX<1∨4<t.aX∨t.rows<0∨1000000<t.rows
 ·have f:=Zh ((b v).symm);clear b d l e;go_enter Tryz.func71,Tryz.ntmps71;go_wp2
  all_goals
   go_ret;exact⟨Qd f.o,fq _ _⟩
 ·have y:1<=t.aX:=by omega
  have z:t.aX<=4:=by omega
  have A:0<=t.rows:=by omega
  have C:t.rows<=1000000:=by omega
  have g:=Zh d;have n:=Zh l;have D:=Zh e;clear b d l v e;have E:=λ(a:Addr) (x:World)=>ach a x t.aX (by omega) (by omega);go_enter Tryz.func71,Tryz.ntmps71;go_wp2;go_loop [28] (λi=>∃ m:Nat,m<=t.aX.toNat/\i=.int .i64 m/\Hid (∀ j,j<m->1<=t.kd j/\t.kd j<=1000000)) (λi=>t.aX.toNat-(intOf i).toNat)
  case atStart=>exact⟨0,QK _,rfl,λj q=>absurd q (by omega)⟩
  case round=>
   obtain⟨m,s,rfl,u⟩:=hrel;by_cases k:m<t.aX.toNat
   ·have p:(m:Int)<t.aX:=by omega
    have F:=D.o m (by omega);by_cases G:t.kd m<1
    ·have f:=Zh ((g.o m k (by omega)).symm);go_wp2;go_ret;exact⟨Qd f.o,fq _ _⟩
    ·by_cases H:1000000<t.kd m
     ·have f:=Zh ((g.o m k (by omega)).symm);go_wp2;go_ret;exact⟨Qd f.o,fq _ _⟩
     ·go_wp2;go_round
      case rel=>
       refine⟨m+1,by omega,by go_num,λj q=>?_⟩;by_cases r:j=m
       ·subst r; omega
       ·exact u.o j (by omega)
      case measure=>simp[intOf]; omega
   ·have p:¬ (m:Int)<t.aX:=by omega
    have f:=Zh ((n.o y z A C (λj q=>u.o j (by omega))).symm);go_wp2;go_ret;exact⟨Qd f.o,fq _ _⟩
theorem RQ(t:af)(w:World) :
  Cb 70 #[.agg t.vals] w (.bool (!fB t)):=by have a:=λx=>MN t x;generalize fB t=B at *;unfold af.vals at *;go_enter Tryz.func70,Tryz.ntmps70;go_wp2_with (go_at_call 71; refine(a _).mono ?_; rintro e w' ⟨rfl,b⟩);go_ret;exact⟨Qd rfl,aF (fq _ _) b⟩
theorem RU(ao:Option Addr)(cap:Nat)(ts:List af)(w:World)(hx:bF w ao ts) :
  Calls Tryz.prog 113 #[.slice ao ts.length cap,.func (.func 70) #[] #[]] w λe w'=>∃ r,e=.returned (.int .i64 r)/\foundAt r (ts.any λt=>!fB t)/\Bw w w':=by
 have F:=hx.1;go_enter Tryz.func113,Tryz.ntmps113;go_wp2;go_loopw [8] (λi wr=>∃ k:Nat,k<=ts.length/\i=.int .i64 k/\Hid (∀ j,j<k->(!fB (ts.getD j tz))=false)/\Bw w wr) (λi _=>ts.length-(intOf i).toNat)
 case atStart=>exact⟨0,QK _,rfl,λj l=>absurd l (by omega),Qm _ _⟩
 case round=>
  obtain⟨k,M,rfl,q,a⟩:=hrel;by_cases f:k<ts.length
  ·obtain⟨b,v,rfl,y,A,B,C,D,E⟩:=hx.2 k f;have G:=cB a y;have H:=cB a A;have I:=cB a B;have J:=cB a C;have K:=cB a D;have L:=cB a E;have g:Hid ((!fB (ts.getD k tz))=true->(ts.any λt=>!fB t)=true):=λh=>JJ (z:=tz) f h
   have p:=RQ (ts.getD k tz) wr;unfold af.vals at p;generalize n:ts.getD k tz=t at *;have s:=Zh n;go_wp2_with fail;refine p.mono ?_;rintro e N ⟨rfl,d⟩;cases hB:fB t
   ·rw[hB]at g;go_wp2;go_ret;exact⟨_,Qe rfl,⟨by omega,by rw[g.o rfl]; simp⟩,aF a d⟩
   ·have u:=Zh hB;go_wp2;go_roundw
    case rel=>
     refine⟨k+1,by omega,by go_num,λj l=>?_,aF a d⟩;by_cases m:j=k
     ·subst m; rw[s.o,u.o]; rfl
     ·exact q.o j (by omega)
    case measure=>simp[intOf]; omega
  ·have g:Hid ((ts.any λt=>!fB t)=false):=any_none (z:=tz) (λj l=>q.o j (by omega));go_wp2;go_ret;exact⟨_,Qe rfl,⟨by omega,by rw[g.o]; rfl⟩,a⟩
theorem GQ(ao:Option Addr)(cap:Nat)(ts:List af)(w:World)(hx:bF w ao ts) :
  Cb 69 #[.slice ao ts.length cap,.func (.func 70) #[] #[]] w (.bool (ts.any λt=>!fB t)):=by have b:=RU ao cap ts w hx;go_enter Tryz.func69,Tryz.ntmps69;go_wp2_with fail;refine b.mono ?_;rintro e g ⟨r,rfl,f,a⟩;have d:=Zh f.2;go_wp2;go_ret;exact⟨Qd d.o,a⟩
theorem EG(ao:Option Addr)(cap:Nat)(ts:List af)(w:World)(hx:bF w ao ts) :
  Cb 42 #[.slice ao ts.length cap] w (.bool (gH ts)):=by
 have i:=hx.1;by_cases b:ts.length<1
 ·go_enter Tryz.func42,Tryz.ntmps42;go_wp2;go_ret;exact⟨Qd (PS b),Qm _ _⟩
 by_cases d:8<ts.length
 ·go_enter Tryz.func42,Tryz.ntmps42;go_wp2;go_ret;exact⟨Qd (Vn d),Qm _ _⟩
 have f:=GQ ao cap ts w hx;have g:=Zh (abt b d);generalize (ts.any λt=>!fB t)=Y at *;go_enter Tryz.func42,Tryz.ntmps42;go_wp2_with fail;refine f.mono ?_;rintro e j ⟨rfl,a⟩;go_wp2;go_ret;exact⟨Qd g.o,a⟩
theorem uZ(n b:Int)(w:World) :
  Ce 117 #[.int .i64 n,.int .i64 b] w (.bool (Bh n b)):=by
 by_cases a:0<=n
 ·go_enter Tryz.func117,Tryz.ntmps117;go_wp2;go_ret;exact⟨Qd (by simp[Bh]; omega),rfl⟩
 ·go_enter Tryz.func117,Tryz.ntmps117;go_wp2;go_ret;exact⟨Qd (by simp[Bh]; omega),rfl⟩
theorem Kj(n:Int)(w:World) :
  Ce 147 #[.int .i64 n] w (.bool (decide (-1000<=n)&&decide (n<=1000))):=by
 by_cases a:-1000<=n
 ·go_enter Tryz.func147,Tryz.ntmps147;go_wp2;go_ret;exact⟨Qd (by simp; omega),rfl⟩
 ·go_enter Tryz.func147,Tryz.ntmps147;go_wp2;go_ret;exact⟨Qd (by simp; omega),rfl⟩
theorem GU(n b:Int)(p o:Nat)(w:World)(hp:w.cell? (aD p o)=some (.int .i64 b)) :
  Ce 116 #[.int .i64 n,.pointer (some (aD p o))] w (.bool (!Bh n b)):=by have a:=uZ n b w;generalize Bh n b=Y at *;go_enter Tryz.func116,Tryz.ntmps116;go_wp2_with fail;refine a.mono ?_;clear a;rintro e d ⟨rfl,rfl⟩;go_wp2;go_ret;exact⟨Qd rfl,rfl⟩
theorem RX(ao:Option Addr)(cap:Nat)(xs:List Int)(bd:Int)(p o:Nat)(w:World)(hx:aM w ao xs)(hp:w.cell? (aD p o)=some (.int .i64 bd)) :
  Calls Tryz.prog 146 #[.slice ao xs.length cap,.func (.func 116) #[] #[.pointer (some (aD p o))]] w λe w'=>∃ r,e=.returned (.int .i64 r)/\foundAt r (xs.any λx=>!Bh x bd)/\w' = w:=by
 have y:=hx.1;go_enter Tryz.func146,Tryz.ntmps146;go_wp2;go_loop [8] (λi=>∃ k:Nat,k<=xs.length/\i=.int .i64 k/\Hid (∀ j,j<k->(!Bh (xs.getD j 0) bd)=false)) (λi=>xs.length-(intOf i).toNat)
 case atStart=>exact⟨0,QK _,rfl,λj g=>absurd g (by omega)⟩
 case round=>
  obtain⟨k,A,rfl,q⟩:=hrel;by_cases a:k<xs.length
  ·obtain⟨b,v,rfl,s⟩:=hx.get a;have t:=s k a;have f:Hid ((!Bh (xs.getD k 0) bd)=true->(xs.any λx=>!Bh x bd)=true):=λh=>JJ (z:=0) a h
   have m:=GU (xs.getD k 0) bd p o w hp;have n:Hid (xs.getD k 0=xs.getD k 0):=rfl;generalize d:xs.getD k 0=x at *;have n:=Zh d;clear d s hx hp;go_wp2_with fail;refine m.mono ?_;clear m;rintro e B ⟨rfl,rfl⟩;cases hB:Bh x bd
   ·rw[hB]at f;go_wp2;go_ret;exact⟨_,Qe rfl,⟨by omega,by rw[f.o rfl]; simp⟩,rfl⟩
   ·have u:=Zh hB;clear hB;go_wp2;go_round
    case rel=>
     refine⟨k+1,by omega,by go_num,λj g=>?_⟩;by_cases l:j=k
     ·subst l; rw[n.o,u.o]; rfl
     ·exact q.o j (by omega)
    case measure=>simp[intOf]; omega
  ·have f:Hid ((xs.any λx=>!Bh x bd)=false):=any_none (z:=0) (λj g=>q.o j (by omega));go_wp2;go_ret;exact⟨_,Qe rfl,⟨by omega,by rw[f.o]; rfl⟩,rfl⟩
theorem GV(ao:Option Addr)(cap:Nat)(xs:List Int)(bd:Int)(p o:Nat)(w:World)(hx:aM w ao xs)(hp:w.cell? (aD p o)=some (.int .i64 bd)) :
  Ce 115 #[.slice ao xs.length cap,.func (.func 116) #[] #[.pointer (some (aD p o))]] w (.bool (xs.any λx=>!Bh x bd)):=by have a:=RX ao cap xs bd p o w hx hp;go_enter Tryz.func115,Tryz.ntmps115;go_wp2_with fail;refine a.mono ?_;clear a;rintro e f ⟨r,rfl,b,rfl⟩;have d:=Zh b.2;clear b;go_wp2;go_ret;exact⟨Qd d.o,rfl⟩
theorem mh(ao:Option Addr)(cap:Nat)(xs:List Int)(bd:Int)(w:World)(hx:aM w ao xs) :
  Cb 74 #[.slice ao xs.length cap,.int .i64 bd] w (.bool (di xs bd)):=by have a:=GV ao cap xs bd w.heap.size 0 (w.alloc (.cells #[.int .i64 bd] 3)) (hx.below (fq _ _)) (by simp);have b:=Zh (abu xs bd);generalize (xs.any λx=>!Bh x bd)=Y at *;go_enter Tryz.func74,Tryz.ntmps74;go_wp2_with fail;refine a.mono ?_;clear a;rintro e d ⟨rfl,rfl⟩;go_wp2;go_ret;exact⟨Qd b.o,fq _ _⟩
theorem eqB(h:a=b):(a==b)=true:=by simpa using h
theorem neB(h:¬ a=b):(a==b)=false:=by simpa using h
theorem RY(ao:Option Addr)(cap:Nat)(xs:List Int)(v:Int)(w:World)(hx:aM w ao xs) :
  Calls Tryz.prog 148 #[.slice ao xs.length cap,.int .i64 v] w λe w'=>∃ r,e=.returned (.int .i64 r)/\foundAt r (xs.any λx=>decide (v=x))/\w' = w:=by
 have A:=hx.1;go_enter Tryz.func148,Tryz.ntmps148;go_wp2;go_loop [8] (λi=>∃ k:Nat,k<=xs.length/\i=.int .i64 k/\Hid (∀ j,j<k->decide (v=xs.getD j 0)=false)) (λi=>xs.length-(intOf i).toNat)
 case atStart=>exact⟨0,QK _,rfl,λj m=>absurd m (by omega)⟩
 case round=>
  obtain⟨k,B,rfl,p⟩:=hrel;by_cases a:k<xs.length
  ·obtain⟨b,y,rfl,q⟩:=hx.get a;have s:=q k a;have g:Hid (decide (v=xs.getD k 0)=true->(xs.any λx=>decide (v=x))=true):=λh=>JJ (z:=0) a h
   generalize f:xs.getD k 0=x at *;have t:=Zh f;clear f q hx;by_cases d:v=x
   ·have u:=eqB d;have l:=Zh d;clear d;go_wp2;go_ret;exact⟨_,Qe rfl,⟨by omega,by rw[g.o (Qv l.o)]; simp⟩,rfl⟩
   ·have u:=neB d;have l:=Zh d;clear d;go_wp2;go_round
    case rel=>
     refine⟨k+1,by omega,by go_num,λj m=>?_⟩;by_cases n:j=k
     ·subst n; rw[t.o]; exact ZW l.o
     ·exact p.o j (by omega)
    case measure=>simp[intOf]; omega
  ·have g:Hid ((xs.any λx=>decide (v=x))=false):=any_none (z:=0) (λj m=>p.o j (by omega));go_wp2;go_ret;exact⟨_,Qe rfl,⟨by omega,by rw[g.o]; rfl⟩,rfl⟩
theorem GY(ao:Option Addr)(cap:Nat)(xs:List Int)(v:Int)(w:World)(hx:aM w ao xs) :
  Ce 119 #[.slice ao xs.length cap,.int .i64 v] w (.bool (xs.any λx=>decide (v=x))):=by have a:=RY ao cap xs v w hx;go_enter Tryz.func119,Tryz.ntmps119;go_wp2_with fail;refine a.mono ?_;clear a;rintro e f ⟨r,rfl,b,rfl⟩;have d:=Zh b.2;clear b;go_wp2;go_ret;exact⟨Qd d.o,rfl⟩
theorem aM.front{w:World}{ao:Option Addr}{xs:List Int}(h:aM w ao xs){k:Nat}(hk:k<=xs.length):aM w ao (xs.take k):=by
 have d:(xs.take k).length=k:=by rw[ZZ]; omega
 refine⟨by have:=h.1; omega,λi g=>?_⟩;obtain⟨b,a,e,f⟩:=h.2 i (by omega);grind
theorem mW(ao:Option Addr)(cap:Nat)(xs:List Int)(w:World)(hx:aM w ao xs)(hcap:xs.length<=cap) :
  Ce 79 #[.slice ao xs.length cap] w (.bool (cK xs)):=by
 have G:=hx.1;go_enter Tryz.func79,Tryz.ntmps79;go_wp2;go_loop [7] (λi=>∃ k:Nat,k<=xs.length/\i=.int .i64 k/\Hid (∀ i,i<k->∀ j,j<i->xs.getD i 0≠xs.getD j 0)) (λi=>xs.length-(intOf i).toNat)
 case atStart=>exact⟨0,QK _,rfl,λi z=>absurd z (by omega)⟩
 case round=>
  obtain⟨k,E,rfl,v⟩:=hrel;by_cases d:k<xs.length
  ·have f:=aM.front hx E;obtain⟨b,r,rfl,y⟩:=hx.get d;have A:=y k d;have m:=GY (some (aD b r)) cap (xs.take k) (xs.getD k 0) w f;have a:(xs.take k).length=k:=by rw[ZZ]; omega
   rw[a]at m;have B:Hid (((xs.take k).any λx=>decide (xs.getD k 0=x))=true->∃ j,j<k/\xs.getD k 0=xs.getD j 0):=λh=>by
    rw[List.any_eq_true]at h;obtain⟨x,hx,hd⟩:=h;obtain⟨j,s,rfl⟩:=Qp hx;have n:j<k:=by omega
    have:=XA hd;refine⟨j,n,this.trans ?_⟩;grind
   have C:Hid (((xs.take k).any λx=>decide (xs.getD k 0=x))=false->∀ j,j<k->xs.getD k 0≠xs.getD j 0):=λh j s l=>by
    rw[List.any_eq_false]at h;have p:j<xs.length:=by omega
    refine h ((xs.take k)[j]'(by omega)) (ZQ _) (Qv ?_);rw[l];simp[List.getD,p]
   generalize F:((xs.take k).any λx=>decide (xs.getD k 0=x))=Y at *;clear F a f y hx;generalize g:xs.getD k 0=x at *;have u:=Zh g;clear g;go_wp2_with fail;refine m.mono ?_;clear m;rintro e H ⟨rfl,rfl⟩;cases Y
   ·go_wp2;go_round
    case rel=>
     refine⟨k+1,by omega,by go_num,λi z=>?_⟩;by_cases t:i=k
     ·subst t; rw[u.o]; exact C.o (by trivial)
     ·exact v.o i (by omega)
    case measure=>simp[intOf]; omega
   ·obtain⟨j,s,l⟩:=B.o rfl;have D:=Zh (PQ d s (by rw[u.o]; exact l));clear l;go_wp2;go_ret;exact⟨Qd D.o,rfl⟩
  ·go_wp2;go_ret;have q:k=xs.length:=by omega
   subst q;exact⟨Qd (LU v.o),rfl⟩
theorem Kk(c:aI)(n:Int)(w:World) :
  Cb 118 #[c.val,.int .i64 n] w (.bool (gJ c n)):=by
 have b:=@abw c n;have d:=@xU c n;have f:=@Bi c n;have g:=@LZ c n;have i:=@L6 c n;obtain⟨v,op,left,a,right⟩:=c;unfold aI.val;simp only at b d f g i;generalize gJ ⟨v,op,left,a,right⟩ n=B at *;have p:=λx=>uZ left n x;have l:=λx=>uZ right n x;have s:=λx=>Kj right x;generalize Bh right n=Y at *;generalize (decide (-1000<=right)&&decide (right<=1000))=Z at *;cases hL:Bh left n
 ·have j:=Zh (b hL);rw[hL]at p;clear b d f g i l s hL;go_enter Tryz.func118,Tryz.ntmps118;go_wp2_with fail;refine(p _).mono ?_;clear p;rintro e q ⟨rfl,rfl⟩;go_wp2;go_ret;exact⟨Qd j.o,fq _ _⟩
 ·rw[hL]at p;by_cases k:op=0∨op=1
  ·cases a
   ·have j:=Zh (f hL k rfl);clear b d f g i s hL;rcases k with k | k
    all_goals
     subst k;go_enter Tryz.func118,Tryz.ntmps118;go_wp2_with fail;refine(p _).mono ?_;rintro e q ⟨rfl,rfl⟩;go_wp2_with fail;refine(l _).mono ?_;rintro e y ⟨rfl,rfl⟩;go_wp2;go_ret;exact⟨Qd j.o,fq _ _⟩
   ·have j:=Zh (d hL k rfl);clear b d f g i l hL;rcases k with k | k
    all_goals
     subst k;go_enter Tryz.func118,Tryz.ntmps118;go_wp2_with fail;refine(p _).mono ?_;rintro e q ⟨rfl,rfl⟩;go_wp2_with fail;refine(s _).mono ?_;rintro e y ⟨rfl,rfl⟩;go_wp2;go_ret;exact⟨Qd j.o,fq _ _⟩
  ·by_cases t:op=2
   ·have j:Hid ((!a&&decide (right=0))=B):=g hL t;clear b d f g i l s hL k;subst t
    cases a
    ·by_cases r:right=0
     ·have m:=Zh (show true=B by have:=j.o; simpa [r] using this);have u:=eqB r;clear j r;go_enter Tryz.func118,Tryz.ntmps118;go_wp2_with fail;refine(p _).mono ?_;rintro e q ⟨rfl,rfl⟩;go_wp2;go_ret;exact⟨Qd m.o,fq _ _⟩
     ·have m:=Zh (show false=B by have:=j.o; simpa [r] using this);have u:=neB r;clear j r;go_enter Tryz.func118,Tryz.ntmps118;go_wp2_with fail;refine(p _).mono ?_;rintro e q ⟨rfl,rfl⟩;go_wp2;go_ret;exact⟨Qd m.o,fq _ _⟩
    ·have m:=Zh (show false=B by have:=j.o; simpa using this);go_enter Tryz.func118,Tryz.ntmps118;go_wp2_with fail;refine(p _).mono ?_;rintro e q ⟨rfl,rfl⟩;go_wp2;go_ret;exact⟨Qd m.o,fq _ _⟩
   ·have j:=Zh (i (by omega) (by omega) t);have z:(op==0)=false:=neB (by omega);have A:(op==1)=false:=neB (by omega);have C:=neB t;clear b d f g i l s hL k t;go_enter Tryz.func118,Tryz.ntmps118;go_wp2_with fail;refine(p _).mono ?_;rintro e q ⟨rfl,rfl⟩;go_wp2;go_ret;exact⟨Qd j.o,fq _ _⟩
structure Chk(ts:List af)(q:ae):Prop where
 cat:gH ts=true
 src:di q.src.xs ts.length=true
 five:q.src.xs.length<=5
 eight:q.wh.length<=8
 aX:Bl ts q
 some:∀ i,i<q.wh.length->0<(q.wh.getD i lz).cs.length
 three:∀ i,i<q.wh.length->(q.wh.getD i lz).cs.length<=3
theorem Chk.ok(h:Chk ts q):Ok ts q:=⟨h.cat,h.src,by have:=h.five; omega,by have:=h.eight; omega,h.aX,h.some⟩
theorem yE(h:q.check ts=0):Chk ts q/\0<q.src.xs.length/\(q.group=false->di q.ord.xs q.bA.xs.length=true)/\q.ord.xs.length<=4/\di q.bA.xs (az ts q.src.xs)=true:=by
 unfold ae.check checkN at h
 cases hc:gH ts with
 | false => simp_all
 | true =>
  rw[Qu (by rw[hc]; simp)]at h
  cases hf:oF q.src.xs q.oG q.keys.xs q.sums.xs q.bA.xs q.ord.xs with
  | true => simp_all
  | false =>
   rw[Qu (by rw[hf]; simp)]at h;by_cases t:di q.src.xs ts.length=true/\0<q.src.xs.length/\gW q.oG (az ts q.src.xs)=true/\xy (az ts q.src.xs) q.group q.keys.xs q.sums.xs q.bA.xs q.ord.xs=true
   ·obtain⟨n,o,f,g⟩:=t;unfold oF at hf;rw[Bool.or_eq_false_iff,Qt]at hf;obtain⟨u,v⟩:=hf;have m:q.oG.length=q.wh.length:=by unfold ae.oG; simp
    have b:∀ i,i<q.wh.length->(q.wh.getD i lz).cs∈q.oG:=λi a=>by unfold ae.oG;grind
    unfold gW at f;rw[Qk]at f;have d:∀ i,i<q.wh.length->0<(q.wh.getD i lz).cs.length/\∀ c∈(q.wh.getD i lz).cs,gJ c (az ts q.src.xs)=true:=λi a=>by have:=f _ (b i a);unfold jP at this;simp_all
    unfold xy at g;simp only[Qj]at g;obtain⟨⟨⟨⟨⟨⟨⟨p,_⟩,_⟩,l⟩,_⟩,_⟩,_⟩,_⟩:=g;refine⟨⟨hc,n,by omega,by omega,?_,λi a=>(d i a).1,λi a=>?_⟩,o,λs=>?_,by omega,p⟩
    ·intro i a c k;unfold aZ at k;rw[Q3]at k;obtain⟨x,r,j⟩:=k;have e:=(d i a).2 x r;unfold gJ at e;simp only[Qj,Qs]at e;obtain⟨⟨⟨⟨w,y⟩,z⟩,A⟩,B⟩:=e;unfold aJ at j
     grind
    ·simp_all
    ·rw[s]at l;exact l
   simp_all
theorem NL(ad:Option Addr)(n cap:Nat)(w:World) :
  Cb 73 #[.agg #[.slice ad n cap]] w (.bool (decide (3<n))):=by go_enter Tryz.func73,Tryz.ntmps73;go_wp2;go_ret;exact⟨Qd (decide_eq_decide.2 (by omega)),fq _ _⟩
theorem Tj(ao:Option Addr)(cap:Nat)(ls:List aL)(w:World)(hx:fT w ao ls) :
  Calls Tryz.prog 114 #[.slice ao ls.length cap,.func (.func 73) #[] #[]] w λe w'=>∃ r,e=.returned (.int .i64 r)/\foundAt r (ls.any λc=>decide (3<c.cs.length))/\Bw w w':=by
 have C:=hx.1;go_enter Tryz.func114,Tryz.ntmps114;go_wp2;go_loopw [8] (λi wr=>∃ k:Nat,k<=ls.length/\i=.int .i64 k/\Hid (∀ j,j<k->decide (3<(ls.getD j lz).cs.length)=false)/\Bw w wr) (λi _=>ls.length-(intOf i).toNat)
 case atStart=>exact⟨0,QK _,rfl,λj q=>absurd q (by omega),Qm _ _⟩
 case round=>
  obtain⟨k,D,rfl,u,l⟩:=hrel;by_cases d:k<ls.length
  ·obtain⟨b,A,rfl,v⟩:=hx.2.1.get d;have m:=cB l (v k d);unfold aL.val at m;have n:Hid (decide (3<(ls.getD k lz).cs.length)=true->(ls.any λc=>decide (3<c.cs.length))=true):=λh=>JJ (p:=λc:aL=>decide (3<c.cs.length)) (z:=lz) d h
   generalize (ls.getD k lz).ad=ad at *;generalize (ls.getD k lz).cap=cp at *;generalize g:(ls.getD k lz).cs.length=cl at *;have y:=Zh g;have f:=NL ad cl cp wr;clear g v hx;by_cases s:3<cl
   ·rw[Qv s]at f;go_wp2_with fail;refine f.mono ?_;clear f;rintro e B ⟨rfl,a⟩;go_wp2;go_ret;exact⟨_,Qe rfl,⟨by omega,by rw[n.o (Qv s)]; simp⟩,aF l a⟩
   ·rw[ZW s]at f;go_wp2_with fail;refine f.mono ?_;clear f;rintro e B ⟨rfl,a⟩;go_wp2;go_roundw
    case rel=>
     refine⟨k+1,by omega,by go_num,λj q=>?_,aF l a⟩;by_cases t:j=k
     ·subst t; rw[y.o]; exact ZW (by omega)
     ·exact u.o j (by omega)
    case measure=>simp[intOf]; omega
  ·have n:Hid ((ls.any λc=>decide (3<c.cs.length))=false):=any_none (z:=lz) (λj q=>u.o j (by omega));go_wp2;go_ret;exact⟨_,Qe rfl,⟨by omega,by rw[n.o]; rfl⟩,l⟩
theorem Hu(ao:Option Addr)(cap:Nat)(ls:List aL)(w:World)(hx:fT w ao ls) :
  Cb 72 #[.slice ao ls.length cap,.func (.func 73) #[] #[]] w (.bool (Cx ls ls.length)):=by have a:=Tj ao cap ls w hx;rw[abv]at a;go_enter Tryz.func72,Tryz.ntmps72;go_wp2_with fail;refine a.mono ?_;clear a;rintro e g ⟨r,rfl,d,b⟩;have f:=Zh d.2;clear d;go_wp2;go_ret;exact⟨Qd f.o,b⟩
theorem Tk(q:ae)(w:World)(hq:fT w q.dD q.wh) :
  Cb 43 #[.agg q.cells] w (.bool (oF q.src.xs q.oG q.keys.xs q.sums.xs q.bA.xs q.ord.xs)):=by
 have g:=Zh q.Ux;generalize oF q.src.xs q.oG q.keys.xs q.sums.xs q.bA.xs q.ord.xs=FB at *;have k:=λo=>Hu q.dD q.aS q.wh (w.alloc o) (hq.below (fq _ _));have n:=hq.1;clear hq;obtain⟨src,v,y,wh,group,a,b,j,ord⟩:=q;simp only at g k n;unfold ae.cells ai.val;simp only;by_cases m:5<src.xs.length∨8<wh.length∨8<j.xs.length∨4<a.xs.length∨4<b.xs.length∨4<ord.xs.length
 ·have p:=Zh (show true=FB by rw[g.o,Qv m,Bool.true_or]);clear k g;have d:(5<src.xs.length)∨(¬ 5<src.xs.length/\8<wh.length)∨(¬ 5<src.xs.length/\¬ 8<wh.length/\4<ord.xs.length)∨(¬ 5<src.xs.length/\¬ 8<wh.length/\¬ 4<ord.xs.length/\8<j.xs.length)∨
   (¬ 5<src.xs.length/\¬ 8<wh.length/\¬ 4<ord.xs.length/\¬ 8<j.xs.length/\4<a.xs.length)∨(¬ 5<src.xs.length/\¬ 8<wh.length/\¬ 4<ord.xs.length/\¬ 8<j.xs.length/\¬ 4<a.xs.length/\4<b.xs.length):=by omega
  clear m;rcases d with f | ⟨f,i⟩ | ⟨f,i,l⟩ | ⟨f,i,l,r⟩ | ⟨f,i,l,r,t⟩ | ⟨f,i,l,r,t,u⟩
  all_goals
   go_enter Tryz.func43,Tryz.ntmps43;go_wp2;go_ret;exact⟨Qd p.o,fq _ _⟩
 ·have p:=Zh (show Cx wh wh.length=FB by rw[g.o,ZW m,Bool.false_or]);have f:¬ 5<src.xs.length:=by omega
  have i:¬ 8<wh.length:=by omega
  have l:¬ 8<j.xs.length:=by omega
  have r:¬ 4<a.xs.length:=by omega
  have t:¬ 4<b.xs.length:=by omega
  have u:¬ 4<ord.xs.length:=by omega
  clear g m;generalize Cx wh wh.length=Y at *;go_enter Tryz.func43,Tryz.ntmps43;go_wp2_with fail;refine(k _).mono ?_;clear k;rintro e z ⟨rfl,s⟩;go_wp2;go_ret;exact⟨Qd p.o,aF (fq _ _) s⟩
theorem KI(q:ae)(w:World)(h1:q.keys.xs.length<=1000)(h2:q.sums.xs.length<=1000) :
  Cb 78 #[.agg q.cells] w (.int .i64 (Gv q.group q.keys.xs q.sums.xs q.bA.xs)):=by
 obtain⟨src,d,e,wh,group,a,b,f,ord⟩:=q;simp only at h1 h2;unfold ae.cells ai.val;cases group
 ·go_enter Tryz.func78,Tryz.ntmps78;go_wp2;go_ret;exact⟨Qe rfl,fq _ _⟩
 ·go_enter Tryz.func78,Tryz.ntmps78;go_wp2;go_ret;exact⟨Qe rfl,fq _ _⟩
theorem BU(ao:Option Addr)(cap:Nat)(ts:List af)(Al:Option Addr)(mY:Nat)(xs:List Int)(w:World)(hx:bF w ao ts)(hc:gH ts=true)(hq:aM w Al xs)(h5:xs.length<=5)(ha:di xs ts.length=true) :
  Ce 75 #[.slice ao ts.length cap,.slice Al xs.length mY] w (.int .i64 (az ts xs)):=by
 have d:=Zh hc;have e:=Zh ha;clear hc ha;go_enter Tryz.func75,Tryz.ntmps75;go_wp2;go_loop [5,10] (λn i=>∃ k:Nat,k<=xs.length/\i=.int .i64 k/\n=.int .i64 (az ts (xs.take k))) (λ_ i=>xs.length-(intOf i).toNat)
 case atStart=>exact⟨0,QK _,rfl,rfl⟩
 case round=>
  obtain⟨k,m,rfl,rfl⟩:=hrel;have g:=mO d.o e.o k m;by_cases a:k<xs.length
  ·obtain⟨t,p,rfl,f⟩:=hq.get a;have j:=f k a;have r:=qG e.o a;have s:=qF d.o (i:=xs[k].toNat) (by omega);obtain⟨b,q,rfl,u,-⟩:=hx.2 xs[k].toNat (by omega);have l:=Zh (jH ts xs k a);generalize (ts.getD xs[k].toNat tz).aX=cc at *;generalize az ts (xs.take k)=W0 at *;clear f hx hq;go_wp2;go_round
   case rel=>exact⟨k+1,by omega,by go_num,by rw[l.o]⟩
   case measure=>simp[intOf]; omega
  ·go_wp2;go_ret;have:k=xs.length:=by omega
   subst this;simp
theorem KJ{ls:List aL}{n:Int}{k:Nat}(hk:k<ls.length)(h:jP (ls.getD k lz).cs n=false):false=gW (ls.map aL.cs) n:=
 (@JG ⟨⟨none,0,[]⟩,none,0,ls,false,⟨none,0,[]⟩,⟨none,0,[]⟩,⟨none,0,[]⟩,⟨none,0,[]⟩⟩ n k hk h).symm
theorem Hw{ls:List aL}{n:Int}(h:∀ k,k<ls.length->jP (ls.getD k lz).cs n=true):true=gW (ls.map aL.cs) n:=
 (@Gw ⟨⟨none,0,[]⟩,none,0,ls,false,⟨none,0,[]⟩,⟨none,0,[]⟩,⟨none,0,[]⟩,⟨none,0,[]⟩⟩ n h).symm
theorem KM(ao:Option Addr)(cap:Nat)(ls:List aL)(n:Int)(w:World)(hx:fT w ao ls) :
  Cb 76 #[.slice ao ls.length cap,.int .i64 n] w (.bool (gW (ls.map aL.cs) n)):=by
 have Z:=hx.1;have E:Hid _:=@KJ ls n;have F:Hid _:=@Hw ls n;generalize gW (ls.map aL.cs) n=R at *;go_enter Tryz.func76,Tryz.ntmps76;go_wp2;go_loopw [11] (λi wr=>∃ k:Nat,k<=ls.length/\i=.int .i64 k/\Hid (∀ j,j<k->jP (ls.getD j lz).cs n=true)/\Bw w wr) (λi _=>ls.length-(intOf i).toNat)
 case atStart=>exact⟨0,QK _,rfl,λj q=>absurd q (by omega),Qm _ _⟩
 case round=>
  obtain⟨k,hk,rfl,L,A⟩:=hrel;by_cases d:k<ls.length
  ·obtain⟨b,W,rfl,M⟩:=hx.2.1.get d;have f:=cB A (M k d);have g:=hx.2.2 k d;have s:Hid (jP (ls.getD k lz).cs n=false->false=R):=λh=>E.o d h
   generalize C:ls.getD k lz=cl at *;have U:=Zh C;clear C M hx;obtain⟨ad,cp,cs⟩:=cl;unfold aL.val at f;simp only at f g;have Tm:=g.1;have t:=A.size;by_cases r:cs.length=0
   ·have u:=Zh (s.o (JH (by simp only; omega)));go_wp2;go_ret;exact⟨Qd u.o,A.alloc t _⟩
   ·have v:((cs.length:Int)==0)=false:=by simpa using r
    have G:=Zh r;clear r;go_wp2;go_loopw [22] (λi I=>∃ m:Nat,m<=cs.length/\i=.int .i64 m/\Hid (∀ j,j<m->gJ (cs.getD j cz) n=true)/\Bw w I) (λi _=>cs.length-(intOf i).toNat)
    case atStart=>exact⟨0,QK _,rfl,λj q=>absurd q (by omega),A.alloc t _⟩
    case round=>
     obtain⟨m,hm,rfl,N,a⟩:=hrel;have y:=a.size;clear f v;by_cases B:m<cs.length
     ·obtain⟨b2,X,rfl,O,P,Q,S,T⟩:=g.2 m B;have d0:=cB a O;have d1:=cB a P;have d2:=cB a Q;have d3:=cB a S;have d4:=cB a T;clear O P Q S T;have l:=λx=>Kk (cs.getD m cz) n x
      unfold aI.val at l;generalize D:cs.getD m cz=cc at *;have z:=Zh D;clear D;cases hcb:gJ cc n
      ·rw[hcb]at l;have u:=Zh (s.o (LX B (by rw[z.o]; exact hcb)));go_wp2_with fail;refine(l _).mono ?_;clear l;rintro e Y ⟨rfl,p⟩;go_wp2;go_ret;exact⟨Qd u.o,aF (a.alloc y _) p⟩
      ·rw[hcb]at l;have H:=Zh hcb;clear hcb;go_wp2_with fail;refine(l _).mono ?_;clear l;rintro e Y ⟨rfl,p⟩;go_wp2;go_roundw
       case rel=>
        refine⟨m+1,by omega,by go_num,λj q=>?_,aF (a.alloc y _) p⟩;by_cases J:j=m
        ·subst J; rw[z.o]; exact H.o
        ·exact N.o j (by omega)
       case measure=>simp[intOf]; omega
     ·have V:=Zh (JI (by have:=G.o; omega) (λj q=>N.o j (by omega)));go_wp2;go_roundw
      case rel=>
       refine⟨k+1,by omega,by go_num,λj q=>?_,a⟩;by_cases K:j=k
       ·subst K; rw[U.o]; exact V.o
       ·exact L.o j (by omega)
      case measure=>simp[intOf]; omega
  ·have u:=Zh (F.o (λj q=>L.o j (by omega)));go_wp2;go_ret;exact⟨Qd u.o,A⟩
def xO(n:Int)(group:Bool)(keys sums bA:List Int):Bool:=
 if group then decide (bA.length=0)&&di sums n&&di keys n&&cK keys else decide (0<bA.length)&&di bA n&&decide (keys.length=0)&&decide (sums.length=0)
theorem Fe(q:ae)(n:Int)(w:World)(hk:q.keys.At w)(hs:q.sums.At w)(he:q.bA.At w)(hkc:q.keys.xs.length<=q.keys.cap) :
  Cb 77 #[.agg q.cells,.int .i64 n] w (.bool (xO n q.group q.keys.xs q.sums.xs q.bA.xs)):=by
 obtain⟨src,I,J,wh,group,⟨A,B,b⟩,⟨F,G,g⟩,⟨v,y,l⟩,ord⟩:=q;unfold ai.At at hk hs he;simp only at hk hs he hkc;unfold ae.cells ai.val;simp only;have C:=he.1;have m:=λx (h:Bw w x)=>mh v y l n x (Ql h he);have i:=λx (h:Bw w x)=>mh F G g n x (Ql h hs);have t:=λx (h:Bw w x)=>mh A B b n x (Ql h hk);have p:=λx (h:Bw w x)=>mW A B b x (Ql h hk) hkc;clear hk hs he;have D:Hid (xO n group b g l=xO n group b g l):=rfl;generalize f:xO n group b g l=R at *;clear D;unfold xO at f;generalize di l n=A1 at *;generalize di g n=A2 at *;generalize di b n=A3 at *;generalize cK b=A4 at *;cases group
 ·simp only[Bool.false_eq_true,if_false]at f;clear i t p;by_cases z:0<l.length
  ·rw[Qv z,Qw]at f
   cases A1
   ·have j:=Zh (show false=R by rw[<- f]; rfl);clear f;go_enter Tryz.func77,Tryz.ntmps77;go_wp2_with fail;refine(m _ (fq _ _)).mono ?_;clear m;rintro e r ⟨rfl,a⟩;go_wp2;go_ret;exact⟨Qd j.o,aF (fq _ _) a⟩
   ·rw[Qw]at f;by_cases s:b.length=0
    ·have u:((b.length:Int)==0)=true:=by simpa using s
     have j:=Zh (show ((g.length:Int)==0)=R by rw[<- f,Qv s,Qw,afb]);clear f s;go_enter Tryz.func77,Tryz.ntmps77;go_wp2_with fail;refine(m _ (fq _ _)).mono ?_;clear m;rintro e r ⟨rfl,a⟩;have d:=zl a;simp at d;go_wp2;go_ret;exact⟨Qd j.o,aF (fq _ _) a⟩
    ·have u:((b.length:Int)==0)=false:=by simpa using s
     have j:=Zh (show false=R by rw[<- f,ZW s]; rfl);clear f s;go_enter Tryz.func77,Tryz.ntmps77;go_wp2_with fail;refine(m _ (fq _ _)).mono ?_;clear m;rintro e r ⟨rfl,a⟩;have d:=zl a;simp at d;go_wp2;go_ret;exact⟨Qd j.o,aF (fq _ _) a⟩
  ·have j:=Zh (show false=R by rw[<- f,ZW z]; rfl);clear f;go_enter Tryz.func77,Tryz.ntmps77;go_wp2;go_ret;exact⟨Qd j.o,fq _ _⟩
 ·simp only[if_true]at f;clear m;by_cases z:0<l.length
  ·have j:=Zh (show false=R by grind);clear f;go_enter Tryz.func77,Tryz.ntmps77;go_wp2;go_ret;exact⟨Qd j.o,fq _ _⟩
  ·rw[Qv (show l.length=0 by omega),Qw]at f
   cases A2
   ·have j:=Zh (show false=R by rw[<- f]; rfl);clear f;go_enter Tryz.func77,Tryz.ntmps77;go_wp2_with fail;refine(i _ (fq _ _)).mono ?_;clear i;rintro e r ⟨rfl,a⟩;go_wp2;go_ret;exact⟨Qd j.o,aF (fq _ _) a⟩
   ·rw[Qw]at f
    cases A3
    ·have j:=Zh (show false=R by rw[<- f]; rfl);clear f;go_enter Tryz.func77,Tryz.ntmps77;go_wp2_with fail;refine(i _ (fq _ _)).mono ?_;clear i;rintro e r ⟨rfl,a⟩;have d:=zl a;simp at d;go_wp2_with fail;refine(t _ (aF (fq _ _) a)).mono ?_;clear t;rintro e H ⟨rfl,k⟩;go_wp2;go_ret;exact⟨Qd j.o,aF (aF (fq _ _) a) k⟩
    ·have j:=Zh (show A4=R by rw[<- f,Qw]);clear f;go_enter Tryz.func77,Tryz.ntmps77;go_wp2_with fail;refine(i _ (fq _ _)).mono ?_;clear i;rintro e r ⟨rfl,a⟩;have d:=zl a;simp at d;go_wp2_with fail;refine(t _ (aF (fq _ _) a)).mono ?_;clear t;rintro e H ⟨rfl,k⟩;have hz:w.heap.size<r.heap.size:=by have:=a.size; simp at this; omega
     have E:=zl k;go_wp2_with fail;refine(p _ (aF (aF (fq _ _) a) k)).mono ?_;clear p;rintro e K ⟨rfl,rfl⟩;go_wp2;go_ret;exact⟨Qd j.o,aF (aF (fq _ _) a) k⟩
theorem Tq(n:Int)(group:Bool)(keys sums bA ord:List Int) :
  xy n group keys sums bA ord=(xO n group keys sums bA&&(di ord (Gv group keys sums bA)&&cK ord)):=by
 unfold xy xO;generalize di ord (Gv group keys sums bA)=O;generalize cK ord=P;cases group
 ·by_cases a:bA.length=0
  ·grind
  ·have f:=ZW a;have g:decide (0<bA.length)=true:=Qv (by omega);rw[f,g];by_cases j:keys.length=0
   ·by_cases k:sums.length=0
    ·have b:=Zl j;have d:=Zl k;subst b d;have i:cK []=true:=by decide
     rw[i];cases di bA n <;> cases O <;> cases P <;> rfl
    grind
   grind
 ·by_cases a:bA.length=0
  ·have e:=Zl a;subst e;have f:di [] n=true:=rfl
   grind
  ·rw[ZW a];simp
def BV(ts:List af)(src:List Int)(wh:List (List aI))(group:Bool)(keys sums bA ord:List Int):Bool:=
 decide (0<src.length)&&(di src ts.length&&(gW wh (az ts src)&&(xO (az ts src) group keys sums bA&&(di ord (Gv group keys sums bA)&&cK ord))))
theorem NM{src:List Int}{wh:List (List aI)}{group:Bool}{keys sums bA ord:List Int}(hc:gH ts=true)(hf:oF src wh keys sums bA ord=false) :
  checkN ts src wh group keys sums bA ord=if BV ts src wh group keys sums bA ord then 0 else 3:=by unfold checkN BV;rw[Qu (by simp[hc]),Qu (by simp[hf]),Tq];grind
theorem NN(ao:Option Addr)(cap:Nat)(ts:List af)(q:ae)(w:World)(hx:bF w ao ts)(hq:q.At w)(hc:gH ts=true)
  (hf:oF q.src.xs q.oG q.keys.xs q.sums.xs q.bA.xs q.ord.xs=false) (hkc:q.keys.xs.length<=q.keys.cap) (hoc:q.ord.xs.length<=q.ord.cap) :
  Cb 44 #[.slice ao ts.length cap,.agg q.cells] w (.bool (BV ts q.src.xs q.oG q.group q.keys.xs q.sums.xs q.bA.xs q.ord.xs)):=by
 have G:¬ (5<q.src.xs.length∨8<q.wh.length∨8<q.bA.xs.length∨4<q.keys.xs.length∨4<q.sums.xs.length∨4<q.ord.xs.length):=by intro h;rw[ae.Ux,Qv h,Bool.true_or]at hf;cases hf
 have t:=λx=>KI q x (by omega) (by omega);have k:=λn x (h:Bw w x)=>Fe q n x (Ql h hq.keys) (Ql h hq.sums) (Ql h hq.bA) hkc;unfold BV;obtain⟨src,B,C,wh,group,b,d,j,ord⟩:=q;have l:aM w src.ad src.xs:=hq.src;have D:aM w ord.ad ord.xs:=hq.ord;have H:fT w B wh:=hq.wh;have u:(ae.mk src B C wh group b d j ord).oG=wh.map aL.cs:=rfl;simp only[u]at *;clear u hq hf;unfold ae.cells ai.val at *;simp only at *;have U:src.xs.length<=5:=by omega
 have s:=λx (h:Bw w x)=>mh src.ad src.cap src.xs ts.length x (l.below h);have v:=λn x (h:Bw w x)=>KM B C wh n x (H.below h);have y:=λx (h:Bw w x)=>mh ord.ad ord.cap ord.xs (Gv group b.xs d.xs j.xs) x (D.below h);have z:=λx (h:Bw w x)=>mW ord.ad ord.cap ord.xs x (D.below h) hoc;generalize m:(decide (0<src.xs.length)&&(di src.xs ts.length&&(gW (wh.map aL.cs) (az ts src.xs)&&(xO (az ts src.xs) group b.xs d.xs j.xs&&(di ord.xs (Gv group b.xs d.xs j.xs)&&cK ord.xs)))))=R;by_cases T:0<src.xs.length
 ·rw[Qv T,Qw]at m;have E:((src.xs.length:Int)==0)=false:=by rw[Z4]; omega
  cases ha:di src.xs ts.length
  ·rw[ha]at s m;have p:Hid (false=R):=m;clear m;go_enter Tryz.func44,Tryz.ntmps44;go_wp2_with fail;refine(s _ (fq _ _)).mono ?_;rintro e S ⟨rfl,i⟩;go_wp2;go_ret;exact⟨Qd p.o,aF (fq _ _) i⟩
  ·have A:=λx (h:Bw w x)=>BU ao cap ts src.ad src.cap src.xs x (hx.below h) hc (l.below h) U ha
   rw[ha]at s m;clear ha hc;rw[Qw]at m;have p:=Zh m;clear m;generalize az ts src.xs=N at *;have v:=v N;have k:=k N;generalize gW (wh.map aL.cs) N=CB at *;generalize xO N group b.xs d.xs j.xs=FB at *;clear hx l D H hkc hoc;go_enter Tryz.func44,Tryz.ntmps44;go_wp2_with fail;refine(s _ (fq _ _)).mono ?_;clear s;rintro e S ⟨rfl,i⟩;have hz:w.heap.size<S.heap.size:=by have:=i.size; simp at this; omega
   have a:=zl i;simp at a;have k2:=aF (fq _ _) i;go_wp2_with fail;refine(A _ k2).mono ?_;clear A;rintro e w3 ⟨rfl,rfl⟩;go_wp2_with fail;refine(v _ k2).mono ?_;clear v;rintro e r ⟨rfl,f⟩;have k4:=aF k2 f;have I:r.cell? (aD w.heap.size 0)=some (.slice src.ad src.xs.length src.cap):=cB f (by rw[a _ _ (by omega)]; simp);have J:r.cell? (aD w.heap.size 1)=some (.slice B wh.length C):=cB f (by rw[a _ _ (by omega)]; simp);have K:r.cell? (aD w.heap.size 2)=some (.bool group):=cB f (by rw[a _ _ (by omega)]; simp);have L:r.cell? (aD w.heap.size 3)=some (.slice b.ad b.xs.length b.cap):=cB f (by rw[a _ _ (by omega)]; simp);have f4:r.cell? (aD w.heap.size 4)=some (.slice d.ad d.xs.length d.cap):=cB f (by rw[a _ _ (by omega)]; simp);have M:r.cell? (aD w.heap.size 5)=some (.slice j.ad j.xs.length j.cap):=cB f (by rw[a _ _ (by omega)]; simp);have P:r.cell? (aD w.heap.size 6)=some (.slice ord.ad ord.xs.length ord.cap):=cB f (by rw[a _ _ (by omega)]; simp);clear a f k2 i;cases CB
   ·go_wp2;go_ret;exact⟨Qd p.o,k4⟩
   ·go_wp2_with fail;refine(k _ k4).mono ?_;clear k;rintro e w5 ⟨rfl,g⟩;have k5:=aF k4 g;have V:=cB g I;have W:=cB g J;have X:=cB g K;have Y:=cB g L;have Z:=cB g f4;have g5:=cB g M;have F:=cB g P;clear I J K L f4 M P g k4
    cases FB
    ·go_wp2;go_ret;exact⟨Qd p.o,k5⟩
    ·go_wp2_with fail;generalize Gv group b.xs d.xs j.xs=O at *;generalize di ord.xs O=AO at *;generalize cK ord.xs=PO at *;refine Qq (by kernel_rfl) (by kernel_rfl) ?_;refine qS (.pointer (some (aD w.heap.size 6))) ?_;refine qC (.slice ord.ad ord.xs.length ord.cap) F ?_;go_big_quiet_want;refine⟨.agg #[.slice src.ad src.xs.length src.cap,.slice B wh.length C,.bool group,.slice b.ad b.xs.length b.cap,.slice d.ad d.xs.length d.cap,.slice j.ad j.xs.length j.cap,.slice ord.ad ord.xs.length ord.cap],λx hx=>?_,?_⟩
     ·have e0:=LA hx V W X Y Z g5 F;go_simp
     simp only[pU];go_big_quiet_on;go_big_quiet_want;refine⟨.int .i64 O,λx hx=>?_,?_⟩
     ·have Q:=Qr hx (t x);go_simp
     simp only[pU];go_big_quiet_on;go_big_quiet_want;refine⟨.bool AO,λx hx=>?_,?_⟩
     ·have Q:=Qr hx (y x (aF k5 hx));go_simp
     simp only[pU];go_big_quiet_on;refine qS (.bool AO) ?_;cases AO
     ·go_big_quiet_skip;go_big_quiet_skip;go_big_quiet_skip;refine qS (.bool false) ?_;refine qS (.bool false) ?_;refine Z8 ?_;intro x hx;go_wp2;go_ret;exact⟨Qd p.o,aF k5 hx⟩
     ·go_big_quiet_want;refine⟨.pointer (some (aD w.heap.size 6)),λx hx=>?_,?_⟩
      ·go_simp
      simp only[pU];go_big_quiet_on;refine qC (.slice ord.ad ord.xs.length ord.cap) F ?_;go_big_quiet_want;refine⟨.bool PO,λx hx=>?_,?_⟩
      ·have Q:=Calls.LY hx (z x (aF k5 hx));go_simp
      simp only[pU];go_big_quiet_on;refine qS (.bool PO) ?_;refine qS (.bool PO) ?_;refine Z8 ?_;intro x hx;go_wp2;go_ret;exact⟨Qd p.o,aF k5 hx⟩
 ·have E:((src.xs.length:Int)==0)=true:=by rw[beq_iff_eq]; omega
  rw[ZW T,Bool.false_and]at m;have p:=Zh m;clear m;clear t k s v y z;go_enter Tryz.func44,Tryz.ntmps44;go_wp2;go_ret;exact⟨Qd p.o,fq _ _⟩
theorem KO{q:ae}{ts:List af}(h:gH ts=false):(1:Int)=q.check ts:=ae.Vo h
theorem Ff{q:ae}{ts:List af}(hc:gH ts=true)(hf:oF q.src.xs q.oG q.keys.xs q.sums.xs q.bA.xs q.ord.xs=false) :
  q.check ts=if BV ts q.src.xs q.oG q.group q.keys.xs q.sums.xs q.bA.xs q.ord.xs then 0 else 3:=NM hc hf
theorem Fg(ao:Option Addr)(cap:Nat)(ts:List af)(q:ae)(w:World)(hx:bF w ao ts)(hq:q.At w)(hkc:q.keys.xs.length<=q.keys.cap)(hoc:q.ord.xs.length<=q.ord.cap) :
  Cb 28 #[.slice ao ts.length cap,.agg q.cells] w (.int .i64 (q.check ts)):=by
 have i:=λx (h:Bw w x)=>EG ao cap ts x (hx.below h);have d:=λx (h:Bw w x)=>Tk q x (hq.wh.below h);have l:=λ(z:gH ts=true) (A:oF q.src.xs q.oG q.keys.xs q.sums.xs q.bA.xs q.ord.xs=false) x (h:Bw w x)=>NN ao cap ts q x (hx.below h) (hq.below h) z A hkc hoc;have m:=@KO q ts;have n:=@ae.PU q ts;have p:=@Ff q ts;generalize q.check ts=R at *;generalize oF q.src.xs q.oG q.keys.xs q.sums.xs q.bA.xs q.ord.xs=FB at *;generalize BV ts q.src.xs q.oG q.group q.keys.xs q.sums.xs q.bA.xs q.ord.xs=QB at *;generalize gH ts=CB at *;obtain⟨src,B,C,wh,group,t,u,D,ord⟩:=q;clear hx hq hkc hoc;unfold ae.cells ai.val at *;simp only at *;cases CB
 ·have j:=Zh (m rfl);clear d l m n p;go_enter Tryz.func28,Tryz.ntmps28;go_wp2_with fail;refine(i _ (fq _ _)).mono ?_;clear i;rintro e r ⟨rfl,a⟩;go_wp2;go_ret;exact⟨Qe j.o,aF (fq _ _) a⟩
 ·cases FB
  ·have s:=Zh (l rfl rfl);clear l;have j:=Zh (p rfl rfl);clear m n p;go_enter Tryz.func28,Tryz.ntmps28;go_wp2_with fail;refine(i _ (fq _ _)).mono ?_;clear i;rintro e r ⟨rfl,a⟩;have hz:w.heap.size<r.heap.size:=by have:=a.size; simp at this; omega
   have b:=zl a;simp at b;have k2:=aF (fq _ _) a;go_wp2_with fail;refine(d _ k2).mono ?_;clear d;rintro e y ⟨rfl,f⟩;have v:=zl f;have k3:=aF k2 f;go_wp2_with fail;refine(s.o _ k3).mono ?_;clear s;rintro e E ⟨rfl,k⟩;cases QB
   ·have g:Hid ((3:Int)=R):=j.o.symm;go_wp2;go_ret;exact⟨Qe g.o,aF k3 k⟩
   ·have g:Hid ((0:Int)=R):=j.o.symm;go_wp2;go_ret;exact⟨Qe g.o,aF k3 k⟩
  ·have j:=Zh (n rfl rfl);clear l m n p;go_enter Tryz.func28,Tryz.ntmps28;go_wp2_with fail;refine(i _ (fq _ _)).mono ?_;clear i;rintro e r ⟨rfl,a⟩;have hz:w.heap.size<r.heap.size:=by have:=a.size; simp at this; omega
   have b:=zl a;simp at b;have k2:=aF (fq _ _) a;go_wp2_with fail;refine(d _ k2).mono ?_;clear d;rintro e y ⟨rfl,f⟩;go_wp2;go_ret;exact⟨Qe j.o,aF k2 f⟩
