import Derived.Test.YtgemohlbjehmbaaGreatDoorF07
import Derived.Test.YtgemohlbjehmbaaGreatDoorF29
set_option linter.all false
set_option maxRecDepth 100000
set_option maxHeartbeats 16000000
namespace Go.Proofs.Zz
open Go.RowKit Go.Shelf
variable {ts:List af} {S cl src:List Int} {cs:List aI} {R k:Nat} {W w:World} {base:Nat->Prop} {v:Value} {wh:List aL} {ns:List ah} {tn:TypeId}
def ayy:Value->Nat
 | .slice _ n _ => n
 | _ => 0
theorem getD_drop{α:Type}(l:List α)(d:α)(j i:Nat):(l.drop j).getD i d=l.getD (j+i) d:=by simp[List.getD]
theorem kV.drop{w:World}{b off:Nat}{rs:List ai}(h:kV w (some (aD b off)) rs)(j:Nat):kV w (some (aD b (off+j))) (rs.drop j):=by
 obtain⟨⟨l,f,g⟩,m,n⟩:=h;have k:(rs.drop j).length=rs.length-j:=XG;refine⟨⟨by omega,λi d=>?_,λi d=>?_⟩,λa r=>?_,λi d=>?_⟩
 ·obtain⟨o,p,e,q⟩:=f (j+i) (by omega)
  cases e;grind
 ·rw[getD_drop]; exact g _ (by omega)
 ·grind
 grind
theorem kV.take{w:World}{ao:Option Addr}{rs:List ai}(h:kV w ao rs)(j:Nat):kV w ao (rs.take j):=by
 obtain⟨⟨g,b,k⟩,d,l⟩:=h;have f:(rs.take j).length=min j rs.length:=ZZ;refine⟨⟨by omega,λi a=>?_,λi a=>?_⟩,d,λi a=>?_⟩
 ·obtain⟨m,n,e,o⟩:=b i (by omega)
  grind
 ·grind
 grind
theorem F5(ao:Option Addr)(cap:Nat)(xs:List Int)(v:Int)(w:World)(hx:aM w ao xs) :
  Ce 38 #[.slice ao xs.length cap,.int .i64 v] w (.bool (decide (v∈xs))):=by
 have r:=hx.1;obtain⟨B,g⟩:∃ b,b=decide (v∈xs):=⟨_,rfl⟩;rw[<- g];have d:=Zh g;clear g;go_enter Tryz.func38,Tryz.ntmps38;go_wp2;go_loopw [5] (λi wr=>∃ k:Nat,k<=xs.length/\i=.int .i64 k/\Hid (v ∉ xs.take k)/\wr=w) (λi _=>xs.length-(intOf i).toNat)
 case atStart=>exact⟨0,QK _,rfl,by show v ∉ _; simp,rfl⟩
 case round=>
  obtain⟨k,s,rfl,j,rfl⟩:=hrel;by_cases a:k<xs.length
  ·obtain⟨b,q,rfl,l⟩:=hx.get a;have m:=l k a;clear l hx;have e:xs.getD k 0=xs[k]:=by simp[List.getD,a]
   by_cases hv:xs.getD k 0=v
   ·have f:Hid (B=true):=by grind
    rw[hv]at m;clear hv e d;go_wp2;go_ret;exact⟨by rw[f.o]; rfl,rfl⟩
   ·have n:(xs.getD k 0==v)=false:=by simpa using hv
    have p:Hid (v ∉ xs.take (k+1)):=by
     show v ∉ _;rw[Qh a,ZK,Zy];rintro (h | h)
     ·exact j.o h
     ·exact hv (by rw[e,h])
    clear e hv;generalize xs.getD k 0=x at *;go_wp2;go_roundw
    case rel=>grind
    case measure=>simp[intOf]; omega
  ·obtain rfl:k=xs.length:=by omega
   have f:Hid (B=false):=by show B=false; rw[d.o]; exact ZW (by have:=j.o; rwa [QT]at this)
   clear d;go_wp2;go_ret;exact⟨by rw[f.o]; rfl,rfl⟩
theorem vP(co:Option Addr)(cc:Nat)(ts:List af)(q:ae)(dv:Value)(hdv:∃ a m c,dv=.slice a m c)(c:Int)(w:World)(hx:bF w co ts)(hc:gH ts=true)(hq:q.src.At w)(h5:q.src.xs.length<=5)(ha:di q.src.xs ts.length=true)(h0:0<=c)(hl:c<az ts q.src.xs) :
  Cb 40 #[.agg (caseA (.slice co ts.length cc) q dv),.int .i64 c] w (.int .i64 ((aA ts q.src.xs c:Nat):Int)):=by
 obtain⟨da,dm,dc,rfl⟩:=hdv;obtain⟨⟨L,mY,xs⟩,dD,aS,wh,group,f,g,M,ord⟩:=q;unfold ai.At at hq;simp only at h5 ha hq hl;unfold caseA ai.val;simp only;have HC:=Zh hc;have W:=Zh ha;obtain⟨y,N,E,O⟩:=bn w #[.slice co ts.length cc,.slice L xs.length mY,.slice dD wh.length aS,.bool group,.slice f.ad f.xs.length f.cap,.slice g.ad g.xs.length g.cap,.slice M.ad M.xs.length M.cap,.slice ord.ad ord.xs.length ord.cap,.slice da dm dc] 29;have X:=hx.below E;have Y:=Ql E hq;have c0:y.cell? (aD w.heap.size 0)=some (.slice co ts.length cc):=O.cell 0;have c1:y.cell? (aD w.heap.size 1)=some (.slice L xs.length mY):=O.cell 1;have HB:=Zh E;have F:=Zh λ(s:Nat) (Q:s<xs.length)=>Ub hc ha h0 hl Q;have j:=Zh (QS hc ha h0 hl);have t:=mO hc ha xs.length (Qn _);rw[QT]at t;generalize aA ts xs c=S at *;have HW:=Zh λ(k:Nat) (r:k<xs.length)=>jH ts xs k r;have step:∀ (wr:World) (k:Nat),Bw y wr->k<xs.length->∃ z A b i p:Nat,L=some (aD z A)/\wr.cell? (aD z (A+k))=some (.int .i64 (p:Int))/\co=some (aD b i)/\p<ts.length/\wr.cell? (aD b (i+p*6))=some (.int .i64 (az ts (xs.take (k+1))-az ts (xs.take k))):=λwr k d e=>by
  obtain⟨z,A,P,Q⟩:=Y.get e;have hr:=qG W.o e;obtain⟨b,i,R,t0,-⟩:=X.2 xs[k].toNat (by omega);have e3:xs.getD k 0=xs[k]:=by simp[List.getD,e]
  refine⟨z,A,b,i,xs[k].toNat,P,?_,R,by omega,?_⟩
  ·rw[cB d (Q k e),e3,show ((xs[k].toNat:Nat):Int)=xs[k] by omega]
  ·rw[HW.o k e,show az ts (xs.take k)+(ts.getD xs[k].toNat tz).aX-az ts (xs.take k)=(ts.getD xs[k].toNat tz).aX by omega];exact cB d t0
 have u:=Zh step;have l:=λk r=>mO hc ha k r;have v:=Zh l;have D:=Zh (show S<xs.length from j.o.1);clear hc ha hx hq E O step Y X l;have ag:c<100:=by omega
 obtain⟨z,A,b,i,p,rfl,T,rfl,kl,k2⟩:=u.o y 0 (Qm _ _) (by have:=D.o; omega);have hz:az ts (xs.take 0)=0:=rfl;rw[hz,Int.sub_zero]at k2;rw[ZG]at T;have ah:(p:Int)<(ts.length:Int):=by omega
 have aj:(0:Int)<(xs.length:Int):=by have:=D.o; omega
 have G:=Zh λ(k:Nat) (r:k<=S)=>show az ts (xs.take k)<=c from Int.le_trans (uJ HC.o W.o r (Nat.le_of_lt D.o)) j.o.2.1;have yC:=Zh (show c<az ts (xs.take (S+1)) from j.o.2.2.1);clear hz t hl;generalize B:az ts (xs.take (0+1))=W1 at k2;have H:=Zh B;clear B j;go_enter Tryz.func40,Tryz.ntmps40;go_wp2;go_quiet (fail);go_wp2;clear N T k2;go_loopw [5,6] (λs n wr=>∃ k:Nat,k<=S/\s=.int .i64 k/\n=.int .i64 (az ts (xs.take (k+1)))/\Bw y wr) (λs _ _=>S-(intOf s).toNat)
 case atStart=>exact⟨0,QK _,rfl,by rw[H.o],Zo (Qm _ _) _⟩
 case round=>
  obtain⟨k,r,rfl,rfl,d⟩:=hrel;have ak:=D.o;have l:=v.o (k+1) (by omega);by_cases U:az ts (xs.take (k+1))<=c
  ·have au:k<S:=by
    rcases Z0 k S with h | h
    ·exact h
    ·obtain rfl:k=S:=by omega
     have:=yC.o;omega
   obtain⟨ax,ay,b',aa,p,P,T,R,kl,k2⟩:=u.o wr (k+1) d (by omega);cases P;cases R;have I:=v.o (k+1+1) (by omega);have d0:=cB d c0;have d1:=cB d c1;have Z:(p:Int)<(ts.length:Int):=by omega
   have av:(k:Int)+1<(xs.length:Int):=by omega
   generalize V:az ts (xs.take (k+1))=A0 at *;generalize C:az ts (xs.take (k+1+1))=A1 at *;have J:=Zh C;have K:Hid (wrap64 (A0+(A1-A0))=A1):=by show wrap64 _=_; unfold wrap64; omega
   clear V C l I;go_wp2;go_quiet (fail);go_wp2;go_roundw
   case rel=>exact⟨k+1,by omega,by go_num,by rw[J.o,K.o],Zo d _⟩
   case measure=>simp[intOf]; omega
  ·have e:¬ az ts (xs.take (k+1))<=c:=U;have HE:Hid (S=k):=(F.o k (by omega)).2 ⟨G.o k r,by omega⟩;generalize az ts (xs.take (k+1))=A0 at *;have oU:=Zh (aF HB.o d);clear d;go_wp2;go_ret;exact⟨by rw[HE.o]; rfl,oU.o⟩
structure AU(co:Option Addr)(ts:List af)(q:ae)(w:World):Prop where
 tabs:bF w co ts
 Je:q.At w
 cat:gH ts=true
 five:q.src.xs.length<=5
 src:di q.src.xs ts.length=true
 aX:∀ i,i<q.wh.length->∀ x∈aZ (q.wh.getD i lz).cs,0<=x/\x<az ts q.src.xs
theorem AU.below{co:Option Addr}{ts:List af}{q:ae}{w w':World}(h:AU co ts q w)(hb:Bw w w'):AU co ts q w':=⟨h.tabs.below hb,h.Je.below hb,h.cat,h.five,h.src,h.aX⟩
theorem OP(hk:k<cs.length):bX ts src (cs.take (k+1)) S=(bX ts src (cs.take k) S&&(aJ (cs.getD k cz)).all λc=>decide ((aA ts src c:Int)∈S)):=by unfold bX aZ;rw[Qh hk,QO,List.all_append];congr 1;simp[List.getD,hk]
theorem Uc(h:bX ts src (cs.take k) S=false):bX ts src cs S=false:=by
 cases e:bX ts src cs S with
 | false => rfl
 | true =>
  unfold bX aZ at h e;grind
theorem F6(co:Option Addr)(cc:Nat)(ts:List af)(q:ae)(dv:Value)(hdv:∃ a m c,dv=.slice a m c)(i:Nat)(ss:ai)(w:World)(H:AU co ts q w)(hi:i<q.wh.length)(hs:ss.At w) :
  Cb 37 #[.agg (caseA (.slice co ts.length cc) q dv),.int .i64 (i:Int),ss.val] w (.bool (bX ts q.src.xs (q.wh.getD i lz).cs ss.xs)):=by
 obtain⟨w1,ah,hb,t⟩:=bn w (caseA (.slice co ts.length cc) q dv) 29;have O:=H.below hb;have P:=Ql hb hs;obtain⟨cb,V,Wi,W⟩:=Qf O.Je.wh.2.1 hi;have z:=O.Je.wh.2.2 i hi;have aj:=W i hi;have ak:=H.Je.wh.1;have uj:=Zh λ(x:World) (c:Int) (d:Bw w1 x) (h0:0<=c/\c<az ts q.src.xs)=>vP co cc ts q dv hdv c x (O.tabs.below d) H.cat (Ql d O.Je.src) H.five H.src h0.1 h0.2;have MO:=Zh λ(x:World) (v:Int) (d:Bw w1 x)=>F5 ss.ad ss.cap ss.xs v x (Ql d P);have nP:=Zh (H.aX i hi);have Y:=Zh hb;have sI:=Zh t;have au:(i:Int)<(q.wh.length:Int):=by omega
 obtain⟨da,dm,dc,rfl⟩:=hdv;obtain⟨RB,I⟩:∃ b,b=bX ts q.src.xs (q.wh.getD i lz).cs ss.xs:=⟨_,rfl⟩;rw[<- I];have B:=Zh I;clear I H O hs P hb W;generalize q.wh.getD i lz=cl at *;obtain⟨la,lc,cs⟩:=cl;obtain⟨sa,sc,p⟩:=ss;obtain⟨src,dD,aS,wh,group,l,n,L,ord⟩:=q;simp only[caseA,ai.val,aL.val]at *;subst Wi;obtain⟨g0,g1,g2,g3,g4,g5,g6,g7,g8⟩:=XI (t.cell 0) (XI (t.cell 1) (XI (t.cell 2) (XI (t.cell 3) (XI (t.cell 4) (XI (t.cell 5) (XI (t.cell 6) (XI (t.cell 7) (t.cell 8))))))));simp only[XO,XQ,XP]at g0 g1 g2 g3 g4 g5 g6 g7 g8;clear t;have av:=z.1;go_enter Tryz.func37,Tryz.ntmps37;go_wp2;clear ah;go_loopw [8] (λiv wr=>∃ k:Nat,k<=cs.length/\iv=.int .i64 k/\Hid (bX ts src.xs (cs.take k) p=true)/\Bw w1 wr) (λiv _=>cs.length-(intOf iv).toNat)
 case atStart=>exact⟨0,QK _,rfl,rfl,Qm _ _⟩
 case round=>
  obtain⟨k,hk,rfl,HN,f⟩:=hrel;by_cases J:k<cs.length
  ·skip;obtain⟨M,N,rfl,e0,Z,e2,e3,e4⟩:=z.2 k J;have x1:=cB f Z;have x2:=cB f e2;have x3:=cB f e3;have x4:=cB f e4;have d0:=cB f g0;have d1:=cB f g1;have d2:=cB f g2;have d3:=cB f g3;have d4:=cB f g4;have d5:=cB f g5;have d6:=cB f g6;have d7:=cB f g7;have d8:=cB f g8;have hm:cs.getD k cz∈cs:=by simp[List.getD,J]
   have HL:=Zh (λc (hc:c∈aJ (cs.getD k cz))=>nP.o c (Q3.2 ⟨_,hm,hc⟩));have r:=Zh (OP (ts:=ts) (src:=src.xs) (S:=p) J);rw[HN.o,Qw]at r;have Q:=Zh f;have HK:=Zh z;have ax:(k:Int)<(cs.length:Int):=by omega
   clear e0 Z e2 e3 e4 hm HN z f g0 g1 g2 g3 g4 g5 g6 g7 g8;have g:Hid (bX ts src.xs (cs.take (k+1)) p=false->RB=false):=λh=>by rw[B.o]; exact Uc h
   generalize cs.getD k cz=c at *;obtain⟨no,op,u,cn,y⟩:=c;simp only at *;have R:0<=u/\u<az ts src.xs:=HL.o u (by unfold aJ; split <;> simp);go_upto_region 5 with fail;refine Qq (by kernel_rfl) (by kernel_rfl) ?_;refine qS (.slice sa p.length sc) ?_;go_big_quiet_want;refine⟨.agg #[.slice co ts.length cc,.slice src.ad src.xs.length src.cap,.slice (some (aD cb V)) wh.length aS,.bool group,.slice l.ad l.xs.length l.cap,.slice n.ad n.xs.length n.cap,.slice L.ad L.xs.length L.cap,.slice ord.ad ord.xs.length ord.cap,.slice da dm dc],λx d=>?_,?_⟩
   ·have e0:=cB d d0;have Z:=cB d d1;have e2:=cB d d2;have e3:=cB d d3;have e4:=cB d d4;have e5:=cB d d5;have e6:=cB d d6;have e7:=cB d d7;have e8:=cB d d8;go_simp
   simp only[pU];go_big_quiet_on;refine qS (.slice (some (aD M N)) cs.length lc) ?_;refine qS (.int .i64 (k:Int)) ?_;refine qS (.pointer (some (aD M (N+k*5)))) ?_;refine qS (.pointer (some (aD M (N+k*5+2)))) ?_;refine qC (.int .i64 u) x2 ?_;go_big_quiet_want;refine⟨.int .i64 ((aA ts src.xs u:Nat):Int),λx d=>?_,?_⟩
   ·have hC:=Qr d (uj.o x u (aF Q.o d) R);go_simp
   simp only[pU];go_big_quiet_on;go_big_quiet_want;refine⟨.bool (decide (((aA ts src.xs u:Nat):Int)∈p)),λx d=>?_,?_⟩
   ·have hC:=Qr d ((MO.o x ((aA ts src.xs u:Nat):Int) (aF Q.o d)).mono (λe w' h=>show e=.returned (.bool (decide (((aA ts src.xs u:Nat):Int)∈p)))/\Bw x w' from ⟨h.1,h.2 ▸ Qm _ _⟩));go_simp
   simp only[pU];go_big_quiet_on;refine qS (.bool (decide (((aA ts src.xs u:Nat):Int)∈p))) ?_;refine Z8 ?_;intro w5 j;have y1:=cB j x1;have y3:=cB j x3;have y4:=cB j x4;have z0:=cB j d0;have z1:=cB j d1;have z2:=cB j d2;have z3:=cB j d3;have z4:=cB j d4;have z5:=cB j d5;have z6:=cB j d6;have z7:=cB j d7;have z8:=cB j d8;have F:=Zh (aF Q.o j);generalize hA:decide (((aA ts src.xs u:Nat):Int)∈p)=A at *;have s:=Zh hA;clear hA j x1 x2 x3 x4 d0 d1 d2 d3 d4 d5 d6 d7 d8;by_cases D:op=2
   ·subst D
    cases A with
    | true =>
     have T:Hid (bX ts src.xs (cs.take (k+1)) p=true):=by show bX _ _ _ _=true; rw[r.o]; simpa [aJ] using s.o.symm
     clear r s g B;go_wp2;go_roundw
     case rel=>exact⟨k+1,by omega,by go_num,T,F.o⟩
     case measure=>simp[intOf]; omega
    | false =>
     have E:=Zh (g.o (by rw[r.o]; simpa [aJ] using s.o.symm));clear r s g B;have K:=Zh (aF Y.o F.o);go_wp2;go_ret;exact⟨by rw[E.o]; rfl,K.o⟩
   ·have ay:(op==2)=false:=by simpa using D
    have U:=Zh D;clear D
    cases cn with
    | true =>
     cases A with
     | true =>
      have T:Hid (bX ts src.xs (cs.take (k+1)) p=true):=by show bX _ _ _ _=true; rw[r.o]; simpa [aJ] using s.o.symm
      clear r s g B;go_wp2;go_roundw
      case rel=>exact⟨k+1,by omega,by go_num,T,F.o⟩
      case measure=>simp[intOf]; omega
     | false =>
      have E:=Zh (g.o (by rw[r.o]; simpa [aJ] using s.o.symm));clear r s g B;have K:=Zh (aF Y.o F.o);go_wp2;go_ret;exact⟨by rw[E.o]; rfl,K.o⟩
    | false =>
     have aa:0<=y/\y<az ts src.xs:=HL.o y (by unfold aJ; rw[Qo ⟨U.o,rfl⟩]; simp);go_upto_region 8 with fail;refine Qq (by kernel_rfl) (by kernel_rfl) ?_;refine qS (.slice sa p.length sc) ?_;go_big_quiet_want;refine⟨.agg #[.slice co ts.length cc,.slice src.ad src.xs.length src.cap,.slice (some (aD cb V)) wh.length aS,.bool group,.slice l.ad l.xs.length l.cap,.slice n.ad n.xs.length n.cap,.slice L.ad L.xs.length L.cap,.slice ord.ad ord.xs.length ord.cap,.slice da dm dc],λx d=>?_,?_⟩
     ·have e0:=cB d z0;have Z:=cB d z1;have e2:=cB d z2;have e3:=cB d z3;have e4:=cB d z4;have e5:=cB d z5;have e6:=cB d z6;have e7:=cB d z7;have e8:=cB d z8;go_simp
     simp only[pU];go_big_quiet_on;refine qS (.slice (some (aD M N)) cs.length lc) ?_;refine qS (.int .i64 (k:Int)) ?_;refine qS (.pointer (some (aD M (N+k*5)))) ?_;refine qS (.pointer (some (aD M (N+k*5+4)))) ?_;refine qC (.int .i64 y) y4 ?_;go_big_quiet_want;refine⟨.int .i64 ((aA ts src.xs y:Nat):Int),λx d=>?_,?_⟩
     ·have hC:=Qr d (uj.o x y (aF F.o d) aa);go_simp
     simp only[pU];go_big_quiet_on;go_big_quiet_want;refine⟨.bool (decide (((aA ts src.xs y:Nat):Int)∈p)),λx d=>?_,?_⟩
     ·have hC:=Qr d ((MO.o x ((aA ts src.xs y:Nat):Int) (aF F.o d)).mono (λe w' h=>show e=.returned (.bool (decide (((aA ts src.xs y:Nat):Int)∈p)))/\Bw x w' from ⟨h.1,h.2 ▸ Qm _ _⟩));go_simp
     simp only[pU];go_big_quiet_on;refine qS (.bool (decide (((aA ts src.xs y:Nat):Int)∈p))) ?_;refine Z8 ?_;intro w6 X;have vo:=Zh (aF F.o X);generalize hB:decide (((aA ts src.xs y:Nat):Int)∈p)=Bv at *;have G:=Zh hB;clear hB X z0 z1 z2 z3 z4 z5 z6 z7 z8;have C:Hid (bX ts src.xs (cs.take (k+1)) p=(A&&Bv)):=by show bX _ _ _ _=_;rw[r.o,<- s.o,<- G.o];unfold aJ;rw[Qo ⟨U.o,rfl⟩];simp
     cases LD:(A&&Bv) with
     | true =>
      rw[Qj]at LD;obtain⟨rfl,rfl⟩:=LD;have T:Hid (bX ts src.xs (cs.take (k+1)) p=true):=C.o;clear r C s g B G;go_wp2;go_roundw
      case rel=>exact⟨k+1,by omega,by go_num,T,vo.o⟩
      case measure=>simp[intOf]; omega
     | false =>
      have E:=Zh (g.o (by rw[C.o]; exact LD));have K:=Zh (aF Y.o vo.o);clear r C s g B G
      cases A with
      | true =>
       have ag:Bv=false:=by simpa using LD
       subst ag;clear LD;go_wp2;go_ret;exact⟨by rw[E.o]; rfl,K.o⟩
      | false =>
       clear LD;go_wp2;go_ret;exact⟨by rw[E.o]; rfl,K.o⟩
  ·obtain rfl:k=cs.length:=by omega
   have E:Hid (RB=true):=by show RB=true; rw[B.o]; have:=HN.o; rwa [QT]at this
   have Q:=Zh (aF Y.o f);clear B f;go_wp2;go_ret;exact⟨by rw[E.o]; rfl,Q.o⟩
def oD(ts:List af)(q:ae)(S U:List Int)(k:Nat):List Int:=((List.range k).filter λi=>bX ts q.src.xs (q.wh.getD i lz).cs S && !decide ((i:Int)∈U)).map λ(i:Nat)=>(i:Int)
def gU(ts:List af)(q:ae)(S U:List Int):List Int:=oD ts q S U q.wh.length
theorem yV(ts:List af)(q:ae)(S U:List Int)(k:Nat):(oD ts q S U k).length<=k:=by unfold oD;grind
def F7(wh:List aL)(i:Int):Bool:=decide ((wh.getD i.toNat lz).cs.length=1)&&(decide (((wh.getD i.toNat lz).cs.getD 0 cz).op=0)&&(!((wh.getD i.toNat lz).cs.getD 0 cz).not && !((wh.getD i.toNat lz).cs.getD 0 cz).const))
def eD(wh:List aL)(cl:List Int):Int:=(cl.find? (F7 wh)).getD (-1)
def bz(over column:Int):ah:=⟨6,over,0,0,⟨none,0,[]⟩,0,⟨none,0,[column]⟩⟩
theorem Lh(p:Nat->Bool)(k:Nat):(List.range (k+1)).filter p=if p k=true then (List.range k).filter p++[k] else (List.range k).filter p:=by rw[QM,List.filter_append];grind
theorem OQ(ts:List af)(q:ae)(S U:List Int)(k:Nat):oD ts q S U (k+1)=if (bX ts q.src.xs (q.wh.getD k lz).cs S && !decide ((k:Int)∈U))=true then oD ts q S U k++[(k:Int)] else oD ts q S U k:=by unfold oD;rw[Lh];grind
theorem Vf{base:Nat}{e:TypeId}{n:Nat}{xs:List Value}(h:w.ownsRow base e 1 v n xs){iv:ai}(hv:v=iv.val):iv.xs.length<=iv.cap:=by
 rcases h.2 with⟨e,h0⟩ | ⟨g,cap,cur,e,_,_,hle,_⟩
 all_goals
  rw[hv]at e;injection e with _ e1 e2;omega
theorem Il(co:Option Addr)(cc:Nat)(ts:List af)(q:ae)(dv:Value)(hdv:∃ a m c,dv=.slice a m c)(ss us:ai)(w:World)(H:AU co ts q w)(hs:ss.At w)(hu:us.At w)(h8:q.wh.length<=8) :
  Calls Tryz.prog 22 #[.agg (caseA (.slice co ts.length cc) q dv),ss.val,us.val] w λe w'=>∃ iv:ai,e=.returned iv.val/\iv.xs=gU ts q ss.xs us.xs/\bU.At iv w'/\Bw w w'/\(∀ b,bU.blk iv=some b->w.heap.size<=b)/\iv.xs.length<=iv.cap:=by
 obtain⟨r,M,l,f⟩:=bn w (caseA (.slice co ts.length cc) q dv) 29;have G:=Zh λ(x:World) (k:Nat) (F:Bw r x) (hk:k<q.wh.length)=>F6 co cc ts q dv hdv k ss x (H.below (aF l F)) hk (Ql (aF l F) hs);have MO:=Zh λ(x:World) (v:Int) (F:Bw r x)=>F5 us.ad us.cap us.xs v x (Ql (aF l F) hu);have I:=Zh (OQ ts q ss.xs us.xs);have T:=Zh (yV ts q ss.xs us.xs);have uS:Hid (gU ts q ss.xs us.xs=oD ts q ss.xs us.xs q.wh.length):=rfl;have h0:oD ts q ss.xs us.xs 0=[]:=rfl;have U:=Zh l;obtain⟨da,dm,dc,rfl⟩:=hdv;clear H hs hu l;generalize oD ts q ss.xs us.xs=FK at *;generalize gU ts q ss.xs us.xs=FN0 at *;obtain⟨sa,sc,sx⟩:=ss;obtain⟨ua,uc,ux⟩:=us;obtain⟨src,dD,aS,wh,group,V,W,bA,ord⟩:=q;simp only[caseA,ai.val]at *;obtain⟨X,Y,Z,g3,g4,g5,g6,g7,g8⟩:=XI (f.cell 0) (XI (f.cell 1) (XI (f.cell 2) (XI (f.cell 3) (XI (f.cell 4) (XI (f.cell 5) (XI (f.cell 6) (XI (f.cell 7) (f.cell 8))))))));simp only[XO,XQ,XP]at X Y Z g3 g4 g5 g6 g7 g8;clear f;go_enter Tryz.func22,Tryz.ntmps22;go_wp2;clear M;go_loopw [7,8] (λv iv wr=>∃ k:Nat,k<=wh.length/\iv=.int .i64 k/\Hid (wr.ownsRow r.heap.size 3 1 v (FK k).length ((FK k).map (Value.int .i64)))/\Bw r wr) (λ_ iv _=>wh.length-(intOf iv).toNat)
 case atStart=>exact⟨0,QK _,rfl,by rw[h0]; exact Zu _ _ _ _,Qm _ _⟩
 case round=>
  obtain⟨k,hk,rfl,y,d⟩:=hrel;obtain⟨D,E,rc,rfl⟩:=Zk y.o;have d0:=cB d X;have d1:=cB d Y;have d2:=cB d Z;have d3:=cB d g3;have d4:=cB d g4;have d5:=cB d g5;have d6:=cB d g6;have d7:=cB d g7;have d8:=cB d g8;by_cases S:k<wh.length
  ·have t:=G.o wr k d S;have A:=Zh (I.o k);have J:=Zh d;clear d;generalize hW:bX ts src.xs (wh.getD k lz).cs sx=WB at *;clear hW;go_wp2_with fail;refine t.mono ?_;rintro e w2 ⟨rfl,j⟩;have n:=aF J.o j;have p:=MO.o w2 (k:Int) n;have i:=Zi y.o (Q7 (s:=λb=>b<wr.heap.size) j (λb _ h=>h)) (λg f=>(Zj y.o f).2);generalize hU:decide ((k:Int)∈ux)=UB at *;clear hU t d0 d1 d2 d3 d4 d5 d6 d7 d8;go_wp2_with fail;refine p.mono ?_;rintro e N ⟨rfl,rfl⟩;have K:=T.o k
   cases hT:(WB && !UB) with
   | true =>
    rw[hT,Qo rfl]at A;rw[Qj,Q4]at hT;obtain⟨rfl,rfl⟩:=hT;obtain⟨v',w5,qA,O,z,⟨va,vm,vc,rfl⟩,-⟩:=Ee N r.heap.size (.slice D E rc) (FK k) i (by omega) n.size (k:Int) 22;have u:Bw r w5:=n.trans (z.below n.size (λb l e=>by have:=(Zj i e).1; omega));rw[<- A.o]at O;have B:=Zh O;have C:=Zh u;clear O z u i n j p;go_wp2_with (first | (at_builtin; refine Zt rfl (.tmp 31) (.tmp 33) 22 rfl (.slice D E rc) (.slice (some (aD N.heap.size 0)) 1 1) (.slice va vm vc) w5 rfl rfl qA ?_));clear qA;go_wp2;go_roundw
    case rel=>exact⟨k+1,by omega,by go_num,B.o,C.o⟩
    case measure=>simp[intOf]; omega
   | false =>
    rw[hT,Qu (by simp)]at A;have B:Hid (N.ownsRow r.heap.size 3 1 (.slice D E rc) (FK (k+1)).length ((FK (k+1)).map (Value.int .i64))):=by show World.ownsRow _ _ _ _ _ _ _;rw[A.o];exact i
    have C:=Zh n;clear i n j p
    cases WB with
    | false =>
     clear hT;go_wp2;go_roundw
     case rel=>exact⟨k+1,by omega,by go_num,B.o,C.o⟩
     case measure=>simp[intOf]; omega
    | true =>
     have L:UB=true:=by simpa using hT
     subst L;clear hT;go_wp2;go_roundw
     case rel=>exact⟨k+1,by omega,by go_num,B.o,C.o⟩
     case measure=>simp[intOf]; omega
  ·obtain rfl:k=wh.length:=by omega
   have J:=Zh d;have K:=T.o wh.length;clear d;go_wp2;go_ret;obtain⟨iv,qd,P,Q,R⟩:=jR y.o (by omega);exact⟨iv,by show Ending.returned (.slice D E rc)=.returned iv.val; rw[qd],P.trans uS.o.symm,Q,aF U.o J.o,λb l=>Q6 U.o.size (R b l),Vf y.o qd⟩
theorem Ud(hk:k<cl.length)(hn:cl.take k |>.all λi=>!F7 wh i):(F7 wh (cl.getD k 0)=true->eD wh cl=cl.getD k 0)/\(F7 wh (cl.getD k 0)=false->(cl.take (k+1)).all (λi=>!F7 wh i)=true):=by
 have e:cl.getD k 0=cl[k]:=by simp[List.getD,hk]
 rw[e];rw[Qk]at hn;constructor
 ·intro h;unfold eD;have h1:cl=cl.take k++cl[k]::cl.drop (k+1):=by simp
  have h2:cl.find? (F7 wh)=some cl[k]:=by
   conv=>lhs; rw[h1]
   rw[List.find?_append,List.find?_eq_none.2 (λx hx=>by have:=hn x hx; simpa using this),List.find?_cons_of_pos h];rfl
  rw[h2];rfl
 ·intro h;rw[Qh hk,List.all_append,Qk.2 hn];simp[h]
theorem Ue(hn:(cl.all λi=>!F7 wh i)=true):eD wh cl = -1:=by unfold eD;rw[Qk]at hn;rw[List.find?_eq_none.2 λx a=>by have:=hn x a; simpa using this];rfl
theorem vQ(cv dv:Value)(q:ae)(cl:ai)(w:World)(hcv:∃ a m c,cv=.slice a m c)(hdv:∃ a m c,dv=.slice a m c)(hq:fT w q.dD q.wh)(hc:cl.At w)(hcl:∀ i∈cl.xs,0<=i/\i<q.wh.length) :
  Cb 39 #[.agg (caseA cv q dv),cl.val] w (.int .i64 (eD q.wh cl.xs)):=by
 obtain⟨O,L,F,P⟩:=bn w (caseA cv q dv) 29;have s:=hq.below F;have t:=Ql F hc;have M:=Zh F;have T:=t.1;obtain⟨ca,cm,cc,rfl⟩:=hcv;obtain⟨da,dm,dc,rfl⟩:=hdv;obtain⟨G,z⟩:∃ v,v=eD q.wh cl.xs:=⟨_,rfl⟩;rw[<- z];have p:=Zh z;have U:=Zh hcl;have N:=Zh s;have V:=s.1;clear hq hc F z hcl;obtain⟨ag,ah,g⟩:=cl;obtain⟨src,dD,aS,wh,group,Q,R,bA,ord⟩:=q;simp only[caseA,ai.val]at *;have W:O.cell? (aD w.heap.size 2)=some (.slice dD wh.length aS):=P.cell 2;clear P s;go_enter Tryz.func39,Tryz.ntmps39;go_wp2;clear L;go_loopw [5] (λiv wr=>∃ k:Nat,k<=g.length/\iv=.int .i64 k/\Hid ((g.take k).all (λi=>!F7 wh i)=true)/\Bw O wr) (λiv _=>g.length-(intOf iv).toNat)
 case atStart=>exact⟨0,QK _,rfl,rfl,Qm _ _⟩
 case round=>
  obtain⟨k,hk,rfl,S,b⟩:=hrel;by_cases j:k<g.length
  ·obtain⟨cb,aj,Wi,C⟩:=Qg t j;subst Wi;have X:=cB b (C k j);have r:g.getD k 0∈g:=by simp[List.getD,j]
   have Y:=U.o _ r;have e:=Zh (Ud (wh:=wh) j S.o);obtain⟨d,D⟩:∃ d:Nat,g.getD k 0=(d:Int):=⟨(g.getD k 0).toNat,by omega⟩;have u:d<wh.length:=by omega
   obtain⟨wb,wo,GD,E⟩:=Qf (N.o.below b).2.1 u;subst GD;have h2:=E d u;have f:=(N.o.below b).2.2 d u;rw[D]at X e;have d2:=cB b W;have Z:(d:Int)<(wh.length:Int):=by omega
   have A:F7 wh (d:Int)=(decide ((wh.getD d lz).cs.length=1)&&(decide (((wh.getD d lz).cs.getD 0 cz).op=0)&&(!((wh.getD d lz).cs.getD 0 cz).not && !((wh.getD d lz).cs.getD 0 cz).const))):=rfl;rw[A]at e;have B:=Zh b;clear A C r Y E D t b;generalize wh.getD d lz=c at *;obtain⟨la,lc,cs⟩:=c;simp only[aL.val]at *;have hcl:=f.1;by_cases l:cs.length=1
   ·obtain⟨lb,lo,rfl,I,e1,e2,e3,e4⟩:=f.2 0 (by omega);have H:((cs.length:Nat):Int)=1:=by omega
    rw[Z7,ZG]at I e1 e2 e3 e4;have I:=I;generalize cs.getD 0 cz=cd at *;obtain⟨no,op,lf,cn,rt⟩:=cd;simp only at *;rw[l]at *;clear f l H hcl;by_cases n:op=0
    ·subst n
     cases no with
     | false =>
      cases cn with
      | false =>
       have J:Hid (G=(d:Int)):=by show G=_; rw[p.o]; exact e.o.1 (by simp)
       have K:=Zh (aF M.o B.o);clear e p;go_wp2;go_quiet (fail);go_wp2;go_ret;exact⟨by rw[J.o]; rfl,Zo K.o _⟩
      | true =>
       have y:=Zh (e.o.2 (by simp));clear e p;go_wp2;go_quiet (fail);go_wp2;go_roundw
       case rel=>exact⟨k+1,by omega,by go_num,y.o,Zo B.o _⟩
       case measure=>simp[intOf]; omega
     | true =>
      have y:=Zh (e.o.2 (by simp));clear e p;go_wp2;go_quiet (fail);go_wp2;go_roundw
      case rel=>exact⟨k+1,by omega,by go_num,y.o,Zo B.o _⟩
      case measure=>simp[intOf]; omega
    ·have aa:(op==0)=false:=by simpa using n
     have y:=Zh (e.o.2 (by simp[n]));clear e p n;go_wp2;go_quiet (fail);go_wp2;go_roundw
     case rel=>exact⟨k+1,by omega,by go_num,y.o,Zo B.o _⟩
     case measure=>simp[intOf]; omega
   ·have af:(((cs.length:Nat):Int)==1)=false:=by grind
    have y:=Zh (e.o.2 (by simp[l]));clear e p l f;go_wp2;go_quiet (fail);go_wp2;go_roundw
    case rel=>exact⟨k+1,by omega,by go_num,y.o,Zo B.o _⟩
    case measure=>simp[intOf]; omega
  ·obtain rfl:k=g.length:=by omega
   have J:Hid (G = -1):=by show G = -1; rw[p.o]; exact Ue (by have:=S.o; rwa [QT]at this)
   have K:=Zh (aF M.o b);clear p b;go_wp2;go_ret;exact⟨by rw[J.o]; rfl,K.o⟩
structure jm(tn:TypeId)(base:Nat->Prop)(v:Value)(ns:List ah)(w:World):Prop where
 own:w.ownsRow 0 tn 7 v ns.length (ns.flatMap ah.list)
 lists:∀ n∈ns,∀ l,l=n.cl∨l=n.co->bU.At l w/\(∀ b,bU.blk l=some b->base b/\v.ownBlock≠some b)/\l.xs.length<=l.cap
theorem jm.nil(tn:TypeId)(base:Nat->Prop)(w:World):jm tn base (.slice none 0 0) [] w:=⟨Zu _ _ _ _,λn a=>by cases a⟩
theorem jm.keep{tn:TypeId}{base:Nat->Prop}{v:Value}{ns:List ah}{w w':World}(h:jm tn base v ns w){P:Nat->Prop}(hk:Kept P w w')(ho:∀ b,v.ownBlock=some b->P b)(hl:∀ b,b<w.heap.size->base b->P b):jm tn base v ns w':=
 ⟨Zi h.own hk ho,λn i l j=>by
  obtain⟨f,d,g⟩:=h.lists n i l j;exact⟨bU.keep f hk.size λb e a=>hk.block b e (hl b e (d b a).1),d,g⟩⟩
theorem jm.below{tn:TypeId}{base:Nat->Prop}{v:Value}{ns:List ah}{w w':World}(h:jm tn base v ns w)(hb:Bw w w'):jm tn base v ns w':=h.keep (P:=λb=>b<w.heap.size) (Q7 hb λ_ h _=>h) (λb e=>(Zj h.own e).2) λb h _=>h
theorem Tryz.OT:(Tryz.prog.info? 75).map (λi=>(i.zero,i.size,i.bytes))=some (some (.agg #[.int .i64 0,.int .i64 0,.int .i64 0,.int .i64 0,.slice none 0 0,.int .i64 0,.slice none 0 0]),7,88):=by kernel_rfl
theorem jm.push(h:jm 75 base v ns W)(hl:ns.length<=1000)(n:ah)(hn:∀ l,l=n.cl∨l=n.co->bU.At l W/\(∀ b,bU.blk l=some b->base b/\v.ownBlock≠some b)/\l.xs.length<=l.cap)(ty:TypeId) :
  ∃ g w',(Builtin.append_ #[43,43] ty #[v,.slice (some (aD W.heap.size 0)) 1 1]).run Tryz.prog (W.alloc (.cells n.cells 75))=.ok g w'/\
   jm 75 base g (ns++[n]) w'/\Kept (λb=>v.ownBlock≠some b) W w'/\(∃ a m c,g = .slice a m c)/\(g.ownBlock=v.ownBlock∨g.ownBlock=some (W.heap.size+1)):=by
 obtain⟨y,z,k,o,p⟩:=Zv Tryz.OT;obtain⟨g,w',A,E,q,B,d⟩:=jX (P:=Tryz.prog) W 0 43 ty 75 y _ 7 88 Tryz.underlying43 z k o p rfl (by decide) v ns.length _ h.own (QK _) n.list rfl (λu s=>by
  unfold ah.list ai.val at s;simp at s;rcases s with rfl | rfl | rfl | rfl | rfl | rfl | rfl <;> rfl) hl (by decide)
 refine⟨g,w',A,⟨by grind,λm j l t=>?_⟩,q,B,d⟩;have i:bU.At l W/\(∀ b,bU.blk l=some b->base b/\v.ownBlock≠some b)/\l.xs.length<=l.cap:=by
  rcases ZK.1 j with j | j
  ·exact h.lists m j l t
  grind
 obtain⟨w,r,C⟩:=i;refine⟨bU.keep w q.size λb D f=>q.block b D (r b f).2,λb f=>⟨(r b f).1,λe=>?_⟩,C⟩;rcases d with d | d
 ·exact(r b f).2 (d ▸ e)
 ·have:=bU.inn w f
  grind
structure qR(tn:TypeId)(base:Nat->Prop)(v:Value)(ns:List ah)(more:List ah)(w:World)(v':Value)(w':World):Prop where
 nodes:∃ ms,ms.map bL=more/\jm tn base v' (ns++ms) w'
 kept:Kept (λb=>v.ownBlock≠some b) w w'
 own:v'.ownBlock=v.ownBlock∨∃ b,v'.ownBlock=some b/\w.heap.size<=b
theorem jm.slice(h:jm tn base v ns w):∃ a cap,v=.slice a ns.length cap:=by
 rcases h.own.2 with⟨rfl,h0⟩ | ⟨g,cap,cur,rfl,_⟩
 ·exact⟨none,0,by rw[h0]⟩
 ·exact⟨_,_,rfl⟩
theorem F8(w:World)(P:Nat->Prop):bU.At ⟨none,0,[]⟩ w/\(∀ b,bU.blk ⟨none,0,[]⟩=some b->P b)/\([]:List Int).length<=0:=
 ⟨⟨⟨by simp,λi d=>absurd d (by simp)⟩,λa e=>by simp at e,λ_=>rfl⟩,λb f=>by simp[bU]at f,Qn _⟩
theorem jm.other{w':World}(h:jm tn base v ns w)(hk:Kept (λb=>b≠R) w w')(ho:v.ownBlock≠some R)(hl:∀ n∈ns,∀ l,l=n.cl∨l=n.co->bU.blk l≠some R):jm tn base v ns w':=
 ⟨Zi h.own hk (λg m e=>ho (e ▸ m)),λn f l a=>by
  obtain⟨i,j,k⟩:=h.lists n f l a;exact⟨bU.keep i hk.size λb o d=>hk.block b o λe=>hl n f l a (e ▸ d),j,k⟩⟩
theorem Li(base:Nat->Prop)(v:Value)(ns:List ah)(over bS:Int)(w:World)(h:jm 75 base v ns w)(hl:ns.length<=900)(hb:∀ b,w.heap.size<=b->base b) :
  Calls Tryz.prog 41 #[v,.int .i64 over,.int .i64 bS] w λe w'=>∃ (d:Option Addr) (f:Nat) (m:ah),e=.returned (.tuple #[.slice d (ns.length+1) f,.int .i64 (ns.length:Int)])/\bL m=bz over bS/\jm 75 base (.slice d (ns.length+1) f) (ns++[m]) w'/\Kept (λb=>v.ownBlock≠some b) w w'/\((Value.slice d (ns.length+1) f).ownBlock=v.ownBlock∨∃ b,(Value.slice d (ns.length+1) f).ownBlock=some b/\w.heap.size<=b)/\∀ l,l=m.cl∨l=m.co->∀ b,bU.blk l=some b->w.heap.size<=b:=by
 obtain⟨t,u,rfl⟩:=h.slice;obtain⟨q,r,j,n⟩:=bn w #[.int .i64 bS] 3;have B:q.heap.size=w.heap.size+1:=by rw[<- r]; simp
 have k:bU.At ⟨some (aD w.heap.size 0),1,[bS]⟩ q:=⟨⟨by simp,λi E=>⟨w.heap.size,0,rfl,by
  have C:i<1:=E;obtain rfl:i=0:=by omega
  exact n.cell 0⟩⟩,λa F=>by cases F; show w.heap.size<_; omega,λe=>by cases e⟩
 obtain⟨G,w',y,s,z,⟨d,H,f,rfl⟩,A⟩:=jm.push (h.below j) (by omega) ⟨6,over,0,0,⟨none,0,[]⟩,0,⟨some (aD w.heap.size 0),1,[bS]⟩⟩ (λl hl=>by
  rcases hl with rfl | rfl
  ·exact F8 _ _
  ·refine⟨k,λb g=>?_,Qn _⟩;have e:w.heap.size=b:=by simpa [bU] using g
   subst e;exact⟨hb _ (Qn _),λe=>by have:=(Zj h.own e).2; omega⟩) 43
 obtain⟨I,cap,e⟩:=s.slice;injection e with e1 e2 e3;rw[QP,XU]at e2;subst e2;have p:=Zh (XI s (XI ((Q7 j λ_ h _=>h).trans z) (show (Value.slice d (ns.length+1) f).ownBlock=(Value.slice t ns.length u).ownBlock∨∃ b,(Value.slice d (ns.length+1) f).ownBlock=some b/\w.heap.size<=b from A.imp id λe=>⟨_,e,by omega⟩)));have D:wrap64 ((ns.length:Int)+1-1)=(ns.length:Int):=by unfold wrap64; omega
 simp only[ah.cells,ai.val,Xa,XU]at y;clear s z A k n j h e1 e3 B;go_enter Tryz.func41,Tryz.ntmps41;go_wp2_with (first | (at_builtin; refine Zt rfl (.tmp 8) (.tmp 13) 43 rfl (.slice t ns.length u) (.slice (some (aD q.heap.size 0)) 1 1) (.slice d (ns.length+1) f) w' rfl rfl y ?_));go_wp2;go_ret2;refine⟨d,f,_,rfl,rfl,p.o.1,p.o.2.1,p.o.2.2,λl hl b g=>?_⟩;rcases hl with rfl | rfl
 ·simp[bU]at g
 ·have e:w.heap.size=b:=by simpa [bU] using g
  omega
def lT(base:Nat->Prop)(v:Value)(n:ah)(w:World):Prop:=∀ l,l=n.cl∨l=n.co->bU.At l w/\(∀ b,bU.blk l=some b->base b/\v.ownBlock≠some b)/\l.xs.length<=l.cap
theorem lT.keep{base:Nat->Prop}{v:Value}{n:ah}{w w':World}(h:lT base v n w)(hk:Kept (λb=>v.ownBlock≠some b) w w'):lT base v n w':=λl g=>by obtain⟨e,d,f⟩:=h l g;exact⟨bU.keep e hk.size λb i a=>hk.block b i (d b a).2,d,f⟩
theorem lT.below{base:Nat->Prop}{v:Value}{n:ah}{w w':World}(h:lT base v n w)(hb:Bw w w'):lT base v n w':=h.keep (Q7 hb λ_ h _=>h)
theorem qR.one(h:jm 75 base v ns W)(hl:ns.length<=1000)(n:ah)(hn:lT base v n W) :
  ∃ a c w',(Builtin.append_ #[43,43] 43 #[v,.slice (some (aD W.heap.size 0)) 1 1]).run Tryz.prog (W.alloc (.cells n.cells 75))=.ok (.slice a (ns.length+1) c) w'/\qR 75 base v ns [bL n] W (.slice a (ns.length+1) c) w':=by obtain⟨j,w',d,b,f,-,g⟩:=jm.push h hl n hn 43;obtain⟨i,cap,e⟩:=b.slice;rw[QP,XU]at e;subst e;exact⟨i,cap,w',d,⟨⟨[n],rfl,b⟩,f,g.imp id λe=>⟨_,e,by omega⟩⟩⟩
theorem Uf(cv dv:Value)(q:ae)(base:Nat->Prop)(v:Value)(ns:List ah)(n:ah)(kind s:Int)(first:Bool)(w:World)(hcv:∃ a m c,cv=.slice a m c)(hdv:∃ a m c,dv=.slice a m c)(hq:fT w q.dD q.wh)(hcl:∀ i∈n.cl.xs,0<=i/\i<q.wh.length)(h:jm 75 base v ns w)(hl:ns.length<=900)(hn:lT base v n w)(hk:eD q.wh n.cl.xs<0∨kind=0) :
  Calls Tryz.prog 23 #[.agg (caseA cv q dv),v,.agg n.cells,.int .i64 kind,.int .i64 s,.bool first] w λe w'=>∃ v',e=.returned v'/\qR 75 base v ns [bL n] w v' w':=by
 obtain⟨A,B,rfl⟩:=h.slice;obtain⟨w1,C,p,j⟩:=bn w (caseA cv q dv) 29;obtain⟨w2,D,k,r⟩:=bn w1 n.cells 75;have u:=aF p k;have f:=j.of (k.block _ j.lt);have z:=vQ cv dv q n.cl w2 hcv hdv (hq.below u) (Ql u (hn n.cl (.inl rfl)).1.1) hcl;have l:=Zh λ(x:World) (hx:Bw w x)=>qR.one (h.below hx) (by omega) n (hn.below hx);obtain⟨ca,cm,cc,rfl⟩:=hcv;obtain⟨da,dm,dc,rfl⟩:=hdv;have G:=Zh u;obtain⟨K,L⟩:=eY (eD q.wh n.cl.xs);rw[<- L]at z hk;clear L hq hcl h hl hn p k u;obtain⟨src,dD,aS,wh,group,M,N,bA,ord⟩:=q;obtain⟨nk,nl,nr,DL,⟨aa,af,ag⟩,key,⟨aj,ak,au⟩⟩:=n;simp only[caseA,ai.val,ah.cells]at *;obtain⟨O,P,Q,R,S,T,U,V,W⟩:=XI (f.cell 0) (XI (f.cell 1) (XI (f.cell 2) (XI (f.cell 3) (XI (f.cell 4) (XI (f.cell 5) (XI (f.cell 6) (XI (f.cell 7) (f.cell 8))))))));simp only[XO,XQ,XP]at O P Q R S T U V W;obtain⟨X,Y,k2,k3,k4,k5,k6⟩:=r.k7;clear j r f;go_enter Tryz.func23,Tryz.ntmps23;go_wp2_with fail;refine z.mono ?_;rintro e y ⟨rfl,d⟩;have j0:=cB d X;have j1:=cB d Y;have j2:=cB d k2;have j3:=cB d k3;have j4:=cB d k4;have j5:=cB d k5;have j6:=cB d k6;have g:=aF G.o d;obtain⟨Z,c',w4,hr,hL⟩:=l.o y g;have H:=Zh hL;have I:=Zh (show Kept (λb=>(Value.slice A ns.length B).ownBlock≠some b) w y from Q7 g λ_ h _=>h);have J:=Zh g.size;clear z O P Q R S T U V W X Y k2 k3 k4 k5 k6 C D hL d g l G;by_cases t:K<0
 ·go_wp2_with (first | (at_builtin; refine Zt rfl (.tmp 35) (.tmp 37) 43 rfl (.slice A ns.length B) (.slice (some (aD y.heap.size 0)) 1 1) (.slice Z (ns.length+1) c') w4 rfl rfl hr ?_));go_wp2;go_ret;obtain⟨E,hk,F⟩:=H.o;exact⟨_,rfl,E,I.o.trans hk,F.imp id λ⟨b,e,hb⟩=>⟨b,e,Q6 J.o hb⟩⟩
 ·have h0:kind=0:=hk.resolve_left t;subst h0;clear hk;go_wp2_with (first | (at_builtin; refine Zt rfl (.tmp 35) (.tmp 37) 43 rfl (.slice A ns.length B) (.slice (some (aD y.heap.size 0)) 1 1) (.slice Z (ns.length+1) c') w4 rfl rfl hr ?_));go_wp2;go_ret;obtain⟨E,hk,F⟩:=H.o;exact⟨_,rfl,E,I.o.trans hk,F.imp id λ⟨b,e,hb⟩=>⟨b,e,Q6 J.o hb⟩⟩
theorem OU(h:0<cs.length):(cs.getD 0 cz).left∈aZ cs:=by unfold aZ;refine Q3.2 ⟨cs.getD 0 cz,by simp[List.getD,h],?_⟩;unfold aJ;split <;> simp
theorem wW{va:Option Addr}{vc:Nat}{w6 w7 w8 w9:World}(h0:jm 75 base (.slice va ns.length vc) ns w)(hb6:Bw w w6)(hle:ns.length<=800)(hR1:w.heap.size<=R)(hR6:R<w6.heap.size)(hnw:(Value.slice va ns.length vc).ownBlock≠some R){a7 a8:Option Addr}{c7 c8:Nat}{m7 m8 s7 s8:ah}
  (h7:bL m7=s7/\jm 75 base (.slice a7 (ns.length+1) c7) (ns++[m7]) w7/\Kept (λb=>(Value.slice va ns.length vc).ownBlock≠some b) w6 w7/\((Value.slice a7 (ns.length+1) c7).ownBlock=(Value.slice va ns.length vc).ownBlock∨∃ b,(Value.slice a7 (ns.length+1) c7).ownBlock=some b/\w6.heap.size<=b)/\∀ l,l=m7.cl∨l=m7.co->∀ b,bU.blk l=some b->w6.heap.size<=b)
  (h8:bL m8=s8/\jm 75 base (.slice a8 (ns.length+1+1) c8) (ns++[m7]++[m8]) w8/\Kept (λb=>(Value.slice a7 (ns.length+1) c7).ownBlock≠some b) w7 w8/\((Value.slice a8 (ns.length+1+1) c8).ownBlock=(Value.slice a7 (ns.length+1) c7).ownBlock∨∃ b,(Value.slice a8 (ns.length+1+1) c8).ownBlock=some b/\w7.heap.size<=b)/\∀ l,l=m8.cl∨l=m8.co->∀ b,bU.blk l=some b->w7.heap.size<=b)
  (Vg:Kept (λb=>b≠R) w8 w9) (n:ah) (hli:lT base (.slice va ns.length vc) n w) :
  ∃ a9 k m,(Builtin.append_ #[43,43] 43 #[.slice a8 (ns.length+1+1) c8,.slice (some (aD w9.heap.size 0)) 1 1]).run Tryz.prog (w9.alloc (.cells n.cells 75))=.ok (.slice a9 (ns.length+1+1+1) k) m/\qR 75 base (.slice va ns.length vc) ns [s7,s8,bL n] w (.slice a9 (ns.length+1+1+1) k) m:=by
 obtain⟨L,M,y,N,O⟩:=h7;obtain⟨P,G,z,H,Q⟩:=h8;have D:=y.size;have E:=z.size;have K:=hb6.size;have o:∀ b,b<w6.heap.size->(Value.slice va ns.length vc).ownBlock≠some b->(Value.slice a7 (ns.length+1) c7).ownBlock≠some b:=λb a v e=>by grind
 have f:∀ b,b<w6.heap.size->(Value.slice va ns.length vc).ownBlock≠some b->(Value.slice a8 (ns.length+1+1) c8).ownBlock≠some b:=λb a v e=>by grind
 have j:Kept (λb=>b<w.heap.size/\(Value.slice va ns.length vc).ownBlock≠some b) w w9:=(((Q7 hb6 λb _ h=>h.1).trans' y λb a h=>h.2).trans' z λb a h=>o b (by omega) h.2).trans' Vg λb a h=>by show b≠_; have:=h.1; omega
 have p:=G.other Vg (f _ hR6 hnw) (λx g l i e=>by
  rcases ZK.1 g with g | g
  ·rcases ZK.1 g with g | g
   ·have:=bU.inn (h0.lists x g l i).1 e;omega
   grind
  grind)
 have q:lT base (.slice a8 (ns.length+1+1) c8) n w9:=λl i=>by obtain⟨A,r,I⟩:=hli l i;refine⟨bU.keep A j.size λb a d=>j.block b a ⟨a,(r b d).2⟩,λb d=>⟨(r b d).1,f b (by have:=bU.inn A d; omega) (r b d).2⟩,I⟩
 obtain⟨a9,k,m,B,C⟩:=qR.one p (by simp; omega) n q;have F:(ns++[m7]++[m8]).length=ns.length+1+1:=by simp
 rw[F]at B C;refine⟨a9,k,m,B,?_⟩;obtain⟨⟨ms,J,s⟩,t,u⟩:=C;refine⟨⟨m7::m8::ms,by grind,by simpa using s⟩,?_,?_⟩
 ·exact(Kept.mono (j.trans' t λb a h=>f b (by omega) h.2) λb a h=>⟨a,h⟩)
 ·rcases u with h | ⟨b,h,a⟩
  ·rw[h];rcases H with h | ⟨b,h,a⟩
   ·grind
   ·exact .inr ⟨b,h,by omega⟩
  ·exact .inr ⟨b,h,Q6 j.size a⟩
theorem Lj(co:Option Addr)(cc0:Nat)(ts:List af)(dv:Value)(q:ae)(base:Nat->Prop)(v:Value)(ns:List ah)(n:ah)(s:Int)(first:Bool)(w:World)(hdv:∃ a m c,dv=.slice a m c)(H:AU co ts q w)(hcl:∀ i∈n.cl.xs,0<=i/\i<q.wh.length)(h:jm 75 base v ns w)(hl:ns.length<=800)(hb:∀ b,w.heap.size<=b->base b)(hn:lT base v n w)(kn:Nat)(hkn:eD q.wh n.cl.xs=(kn:Int))(hkl:kn<q.wh.length)(hk1:0<(q.wh.getD kn lz).cs.length)(own other:Int)(Dw:(own,other)=if ((aA ts q.src.xs ((q.wh.getD kn lz).cs.getD 0 cz).left:Nat):Int)=s then (((q.wh.getD kn lz).cs.getD 0 cz).left,((q.wh.getD kn lz).cs.getD 0 cz).right) else (((q.wh.getD kn lz).cs.getD 0 cz).right,((q.wh.getD kn lz).cs.getD 0 cz).left)) :
  Calls Tryz.prog 23 #[.agg (caseA (.slice co ts.length cc0) q dv),v,.agg n.cells,.int .i64 2,.int .i64 s,.bool first] w λe w'=>∃ v',e=.returned v'/\qR 75 base v ns [bz n.l (if first then own else other),bz n.r (if first then other else own),{ bL n with kind:=5,key:=(kn:Int),l:=(ns.length:Int),r:=((ns.length:Int)+1) }] w v' w':=by
 obtain⟨va,vc,rfl⟩:=h.slice;obtain⟨t,aT,aG,ax⟩:=bn w (caseA (.slice co ts.length cc0) q dv) 29;obtain⟨w2,aU,aH,aI⟩:=bn t n.cells 75;have mI:=aF aG aH;have fH:=ax.of (aH.block _ ax.lt);have YA:=vQ (.slice co ts.length cc0) dv q n.cl w2 ⟨_,_,_,rfl⟩ hdv (H.below mI).Je.wh (Ql mI (hn n.cl (.inl rfl)).1.1) hcl;have Y:=Zh λ(x:World) (v:Value) (ns:List ah) (aQ bS:Int) (h:jm 75 base v ns x) (hl:ns.length<=900) (hb:∀ b,x.heap.size<=b->base b)=>Li base v ns aQ bS x h hl hb;have uj:=Zh λ(x:World) (hx:Bw w x)=>vP co cc0 ts q dv hdv ((q.wh.getD kn lz).cs.getD 0 cz).left x (H.tabs.below hx) H.cat (Ql hx H.Je.src) H.five H.src (H.aX kn hkl _ (OU hk1)).1 (H.aX kn hkl _ (OU hk1)).2;have Q:=Zh h;have Bq:=Zh hn;have Ot:=Zh hb;have Pk:=Zh hl;have ak:=Zh (H.Je.wh);have aK:=Zh aI;have u:=Zh (show w.heap.size<=t.heap.size/\w.heap.size≠t.heap.size from ⟨aG.size,by have:=ax.lt; omega⟩);obtain⟨da,dm,dc,rfl⟩:=hdv;have HB:=Zh mI;rw[hkn]at YA;have au:=Zh Dw;clear hkn H hcl h hl hb hn aG aH mI Dw;obtain⟨src,dD,aS,wh,group,aZ,bf,bA,ord⟩:=q;obtain⟨nk,nl,nr,DL,⟨R,S,T⟩,key,⟨U,V,W⟩⟩:=n;simp only[caseA,ai.val,ah.cells]at *;obtain⟨g0,g1,g2,g3,g4,g5,g6,d,f⟩:=XI (fH.cell 0) (XI (fH.cell 1) (XI (fH.cell 2) (XI (fH.cell 3) (XI (fH.cell 4) (XI (fH.cell 5) (XI (fH.cell 6) (XI (fH.cell 7) (fH.cell 8))))))));simp only[XO,XQ,XP]at g0 g1 g2 g3 g4 g5 g6 d f;obtain⟨k0,k1,k2,k3,k4,k5,k6⟩:=aI.k7;clear ax aI fH;go_enter Tryz.func23,Tryz.ntmps23;go_wp2_with fail;refine YA.mono ?_;rintro e w3 ⟨rfl,g⟩;have j0:=cB g k0;have j1:=cB g k1;have j2:=cB g k2;have j3:=cB g k3;have j4:=cB g k4;have j5:=cB g k5;have j6:=cB g k6;have aM:=aF HB.o g;have gn:=aK.o.of (g.block _ aK.o.lt);have y0:=gn.frozen 0;have y5:=gn.frozen 5;have vG:=Zh gn;have jo:=Zh aM;have aN:=Zh (XI (cB g g0) (XI (cB g g1) (XI (cB g g2) (XI (cB g g3) (XI (cB g g4) (XI (cB g g5) (XI (cB g g6) (XI (cB g d) (cB g f)))))))));clear YA g0 g1 g2 g3 g4 g5 g6 d f k0 k1 k2 k3 k4 k5 k6 aT aU g aM HB gn;go_upto_region 6 with fail;obtain⟨w4,ay⟩:∃ x,(w3.setCell (aD t.heap.size 0) (.int .i64 5)).setCell (aD t.heap.size 5) (.int .i64 (kn:Int))=x:=⟨_,rfl⟩;have g4:GB w4 t.heap.size 75 #[.int .i64 5,.int .i64 nl,.int .i64 nr,.int .i64 DL,.slice R T.length S,.int .i64 (kn:Int),.slice U W.length V]:=by rw[<- ay]; exact(vG.o.set 0 _).set 5 _
 have Vh:Kept (λb=>b≠t.heap.size) w3 w4:=by rw[<- ay]; exact(Zf _ _ _ (λh=>h rfl)).trans (Zf _ _ _ (λh=>h rfl))
 have Ll:Bw w w4:=jo.o.trans (Vh.below jo.o.size (λb hb=>by have:=u.o.1; show b≠_; omega));obtain⟨z0,z1,z2,z3,z4,z5,z6,z7,z8⟩:=aN.o;have u0:=Ze z0 Vh u.o.2;have u1:=Ze z1 Vh u.o.2;have u2:=Ze z2 Vh u.o.2;have u3:=Ze z3 Vh u.o.2;have u4:=Ze z4 Vh u.o.2;have u5:=Ze z5 Vh u.o.2;have u6:=Ze z6 Vh u.o.2;have u7:=Ze z7 Vh u.o.2;have u8:=Ze z8 Vh u.o.2;rw[ay];clear ay Vh j0 j1 j2 j3 j4 j5 j6 y0 y5 z0 z1 z2 z3 z4 z5 z6 z7 z8 aN;obtain⟨C,D,E,F,G,I,J⟩:=g4.k7;obtain⟨wb,wo,GD,aP⟩:=Qf (ak.o.below Ll).2.1 hkl;have aB:=(ak.o.below Ll).2.2 kn hkl;have q0:=aP kn hkl;have bg:=ak.o.1;subst GD;have bq:(kn:Int)<(wh.length:Int):=by omega
 generalize wh.getD kn lz=c at *;obtain⟨la,lc,cs⟩:=c;simp only[aL.val]at *;obtain⟨lb,lo,rfl,e0,e1,e2,e3,e4⟩:=aB.2 0 hk1;rw[Z7,ZG]at e0 e1 e2 e3 e4;have bu:=aB.1;have bB:(0:Int)<(cs.length:Int):=by omega
 generalize cs.getD 0 cz=cd at *;obtain⟨aV,aW,lf,aY,rt⟩:=cd;simp only at *;obtain⟨w5,vU,K,az⟩:=bn w4 #[.bool aV,.int .i64 aW,.int .i64 lf,.bool aY,.int .i64 rt] 80;have Uh:=aF Ll K;have p2:w5.cell? (aD w4.heap.size 2)=some (.int .i64 lf):=az.cell 2;have p4:w5.cell? (aD w4.heap.size 4)=some (.int .i64 rt):=az.cell 4;have s0:=cB K u0;have s1:=cB K u1;have s2:=cB K u2;have s3:=cB K u3;have s4:=cB K u4;have s5:=cB K u5;have s6:=cB K u6;have s7:=cB K u7;have s8:=cB K u8;have aO:=uj.o w5 Uh;have aR:=Zh Uh;have jl:=Zh K;have aC:=Zh g4;have Hy:=Zh az;clear aB Ll Uh K az g4 aP uj ak;go_wp2_with fail;refine aO.mono ?_;rintro e w6 ⟨rfl,aj⟩;have r2:=cB aj p2;have r4:=cB aj p4;have xw:=Zh (aF aR.o aj);have g6:=aC.o.of ((aF jl.o aj).block _ aC.o.lt);have Z:=Zh g6;clear aO s0 s1 s2 s3 s4 s5 s6 s7 s8 u0 u1 u2 u3 u4 u5 u6 u7 u8 C D E F G I J e0 e1 e2 e3 e4 q0 p2 p4 vU g6;generalize ((aA ts src.xs lf:Nat):Int)=SV at *;have U6:Hid ((Value.slice va ns.length vc).ownBlock≠some t.heap.size):=λe=>by have:=(Zj Q.o.own e).2; have:=u.o.1; omega
 have aa:=Zh (show t.heap.size<w6.heap.size from QH aC.o.lt (Q6 jl.o.size aj.size));have av:=Pk;clear aj;by_cases hs:SV=s
 ·have Dw:=au.o;rw[Qo hs]at Dw;obtain⟨rfl,rfl⟩:=Prod.mk.inj Dw;subst hs;clear Dw au
  cases first with
  | true =>
   have h7:=Y.o w6 _ ns nl own (Q.o.below xw.o) (Q6 Pk.o (by decide)) (λb h=>Ot.o b (Q6 xw.o.size h));obtain⟨C,D,E,F,G,I,J⟩:=Z.o.k7;go_wp2_with fail;refine h7.mono ?_;rintro e w7 ⟨a7,c7,m7,rfl,z,k,j,p,A⟩;have d:=Z.o.keep j U6.o;clear C D E F G I J h7;obtain⟨C,D,E,F,G,I,J⟩:=d.k7;have L:=j.size;have y:(Value.slice a7 (ns.length+1) c7).ownBlock≠some t.heap.size:=λe=>by
    rcases p with h | ⟨b,h,hb⟩
    ·exact U6.o (h ▸ e)
    ·rw[h]at e;have:b=t.heap.size:=by simpa using e
     have:=aa.o;omega
   have h8:=Y.o w7 (.slice a7 (ns.length+1) c7) (ns++[m7]) nr other k (by have:=av.o; simp; omega) (λb h=>Ot.o b (Q6 (Q6 xw.o.size L) h));have e8:(ns++[m7]).length=ns.length+1:=by simp
   rw[e8]at h8;have H7:=Zh (XI z (XI k (XI j (XI p (XI A (XI y d))))));clear z k j p A y d;go_wp2_with fail;refine h8.mono ?_;rintro e w8 ⟨a8,c8,m8,rfl,M,N,B,O,P⟩;obtain⟨z,k,j,p,A,y,d⟩:=H7.o;have f:=d.keep B y;clear C D E F G I J h8 e8;have ag:=B.size;have H8:=Zh (XI M (XI N (XI B (XI O (XI P f)))));have y1:=f.frozen 1;have y2:=f.frozen 2;obtain⟨C,D,E,F,G,I,J⟩:=f.k7;clear z k j p A y d M N B O P f;go_upto_region 24 with fail;obtain⟨w9,X⟩:∃ x,(w8.setCell (aD t.heap.size 1) (.int .i64 (ns.length:Int))).setCell (aD t.heap.size 2) (.int .i64 ((ns.length:Int)+1))=x:=⟨_,rfl⟩;obtain⟨z,k,j,p,A,y,d⟩:=H7.o;obtain⟨M,N,B,O,P,f⟩:=H8.o;have g9:GB w9 t.heap.size 75 #[.int .i64 5,.int .i64 (ns.length:Int),.int .i64 ((ns.length:Int)+1),.int .i64 DL,.slice R T.length S,.int .i64 (kn:Int),.slice U W.length V]:=by rw[<- X]; exact(f.set 1 _).set 2 _
   have Vg:Kept (λb=>b≠t.heap.size) w8 w9:=by rw[<- X]; exact(Zf _ _ _ (λh=>h rfl)).trans (Zf _ _ _ (λh=>h rfl))
   obtain⟨a9,c9,Ug,hr,hL⟩:=wW Q.o xw.o Pk.o u.o.1 aa.o U6.o ⟨z,k,j,p,A⟩ ⟨M,N,B,O,P⟩ Vg (⟨5,(ns.length:Int),((ns.length:Int)+1),DL,⟨R,S,T⟩,(kn:Int),⟨U,V,W⟩⟩:ah) (λl aJ=>Bq.o l (by omega));simp only[ah.cells,ai.val]at hr;have zW:=Zh hL;clear C D E F G I J;obtain⟨C,D,E,F,G,I,J⟩:=g9.k7;rw[X];clear X z k j p A y d M N B O P f g9 Vg hL y1 y2 L ag;go_wp2_with (first | (at_builtin; refine Zt rfl (.tmp 112) (.tmp 114) 43 rfl (.slice a8 (ns.length+1+1) c8) (.slice (some (aD w9.heap.size 0)) 1 1) (.slice a9 (ns.length+1+1+1) c9) Ug rfl rfl hr ?_));go_wp2;go_ret;exact⟨_,rfl,zW.o⟩
  | false =>
   have h7:=Y.o w6 _ ns nl other (Q.o.below xw.o) (Q6 Pk.o (by decide)) (λb h=>Ot.o b (Q6 xw.o.size h));obtain⟨C,D,E,F,G,I,J⟩:=Z.o.k7;go_wp2_with fail;refine h7.mono ?_;rintro e w7 ⟨a7,c7,m7,rfl,z,k,j,p,A⟩;have d:=Z.o.keep j U6.o;clear C D E F G I J h7;obtain⟨C,D,E,F,G,I,J⟩:=d.k7;have L:=j.size;have y:(Value.slice a7 (ns.length+1) c7).ownBlock≠some t.heap.size:=λe=>by
    rcases p with h | ⟨b,h,hb⟩
    ·exact U6.o (h ▸ e)
    ·rw[h]at e;have:b=t.heap.size:=by simpa using e
     have:=aa.o;omega
   have h8:=Y.o w7 (.slice a7 (ns.length+1) c7) (ns++[m7]) nr own k (by have:=av.o; simp; omega) (λb h=>Ot.o b (Q6 (Q6 xw.o.size L) h));have e8:(ns++[m7]).length=ns.length+1:=by simp
   rw[e8]at h8;have H7:=Zh (XI z (XI k (XI j (XI p (XI A (XI y d))))));clear z k j p A y d;go_wp2_with fail;refine h8.mono ?_;rintro e w8 ⟨a8,c8,m8,rfl,M,N,B,O,P⟩;obtain⟨z,k,j,p,A,y,d⟩:=H7.o;have f:=d.keep B y;clear C D E F G I J h8 e8;have ag:=B.size;have H8:=Zh (XI M (XI N (XI B (XI O (XI P f)))));have y1:=f.frozen 1;have y2:=f.frozen 2;obtain⟨C,D,E,F,G,I,J⟩:=f.k7;clear z k j p A y d M N B O P f;go_upto_region 24 with fail;obtain⟨w9,X⟩:∃ x,(w8.setCell (aD t.heap.size 1) (.int .i64 (ns.length:Int))).setCell (aD t.heap.size 2) (.int .i64 ((ns.length:Int)+1))=x:=⟨_,rfl⟩;obtain⟨z,k,j,p,A,y,d⟩:=H7.o;obtain⟨M,N,B,O,P,f⟩:=H8.o;have g9:GB w9 t.heap.size 75 #[.int .i64 5,.int .i64 (ns.length:Int),.int .i64 ((ns.length:Int)+1),.int .i64 DL,.slice R T.length S,.int .i64 (kn:Int),.slice U W.length V]:=by rw[<- X]; exact(f.set 1 _).set 2 _
   have Vg:Kept (λb=>b≠t.heap.size) w8 w9:=by rw[<- X]; exact(Zf _ _ _ (λh=>h rfl)).trans (Zf _ _ _ (λh=>h rfl))
   obtain⟨a9,c9,Ug,hr,hL⟩:=wW Q.o xw.o Pk.o u.o.1 aa.o U6.o ⟨z,k,j,p,A⟩ ⟨M,N,B,O,P⟩ Vg (⟨5,(ns.length:Int),((ns.length:Int)+1),DL,⟨R,S,T⟩,(kn:Int),⟨U,V,W⟩⟩:ah) (λl aJ=>Bq.o l (by omega));simp only[ah.cells,ai.val]at hr;have zW:=Zh hL;clear C D E F G I J;obtain⟨C,D,E,F,G,I,J⟩:=g9.k7;rw[X];clear X z k j p A y d M N B O P f g9 Vg hL y1 y2 L ag;go_wp2_with (first | (at_builtin; refine Zt rfl (.tmp 112) (.tmp 114) 43 rfl (.slice a8 (ns.length+1+1) c8) (.slice (some (aD w9.heap.size 0)) 1 1) (.slice a9 (ns.length+1+1+1) c9) Ug rfl rfl hr ?_));go_wp2;go_ret;exact⟨_,rfl,zW.o⟩
 ·have Dw:=au.o;rw[Qu hs]at Dw;obtain⟨rfl,rfl⟩:=Prod.mk.inj Dw;have bC:(SV==s)=false:=by simpa using hs
  clear Dw au hs
  cases first with
  | true =>
   have h7:=Y.o w6 _ ns nl own (Q.o.below xw.o) (Q6 Pk.o (by decide)) (λb h=>Ot.o b (Q6 xw.o.size h));obtain⟨C,D,E,F,G,I,J⟩:=Z.o.k7;go_wp2_with fail;refine h7.mono ?_;rintro e w7 ⟨a7,c7,m7,rfl,z,k,j,p,A⟩;have d:=Z.o.keep j U6.o;clear C D E F G I J h7;obtain⟨C,D,E,F,G,I,J⟩:=d.k7;have L:=j.size;have y:(Value.slice a7 (ns.length+1) c7).ownBlock≠some t.heap.size:=λe=>by
    rcases p with h | ⟨b,h,hb⟩
    ·exact U6.o (h ▸ e)
    ·rw[h]at e;have:b=t.heap.size:=by simpa using e
     have:=aa.o;omega
   have h8:=Y.o w7 (.slice a7 (ns.length+1) c7) (ns++[m7]) nr other k (by have:=av.o; simp; omega) (λb h=>Ot.o b (Q6 (Q6 xw.o.size L) h));have e8:(ns++[m7]).length=ns.length+1:=by simp
   rw[e8]at h8;have H7:=Zh (XI z (XI k (XI j (XI p (XI A (XI y d))))));clear z k j p A y d;go_wp2_with fail;refine h8.mono ?_;rintro e w8 ⟨a8,c8,m8,rfl,M,N,B,O,P⟩;obtain⟨z,k,j,p,A,y,d⟩:=H7.o;have f:=d.keep B y;clear C D E F G I J h8 e8;have ag:=B.size;have H8:=Zh (XI M (XI N (XI B (XI O (XI P f)))));have y1:=f.frozen 1;have y2:=f.frozen 2;obtain⟨C,D,E,F,G,I,J⟩:=f.k7;clear z k j p A y d M N B O P f;go_upto_region 24 with fail;obtain⟨w9,X⟩:∃ x,(w8.setCell (aD t.heap.size 1) (.int .i64 (ns.length:Int))).setCell (aD t.heap.size 2) (.int .i64 ((ns.length:Int)+1))=x:=⟨_,rfl⟩;obtain⟨z,k,j,p,A,y,d⟩:=H7.o;obtain⟨M,N,B,O,P,f⟩:=H8.o;have g9:GB w9 t.heap.size 75 #[.int .i64 5,.int .i64 (ns.length:Int),.int .i64 ((ns.length:Int)+1),.int .i64 DL,.slice R T.length S,.int .i64 (kn:Int),.slice U W.length V]:=by rw[<- X]; exact(f.set 1 _).set 2 _
   have Vg:Kept (λb=>b≠t.heap.size) w8 w9:=by rw[<- X]; exact(Zf _ _ _ (λh=>h rfl)).trans (Zf _ _ _ (λh=>h rfl))
   obtain⟨a9,c9,Ug,hr,hL⟩:=wW Q.o xw.o Pk.o u.o.1 aa.o U6.o ⟨z,k,j,p,A⟩ ⟨M,N,B,O,P⟩ Vg (⟨5,(ns.length:Int),((ns.length:Int)+1),DL,⟨R,S,T⟩,(kn:Int),⟨U,V,W⟩⟩:ah) (λl aJ=>Bq.o l (by omega));simp only[ah.cells,ai.val]at hr;have zW:=Zh hL;clear C D E F G I J;obtain⟨C,D,E,F,G,I,J⟩:=g9.k7;rw[X];clear X z k j p A y d M N B O P f g9 Vg hL y1 y2 L ag;go_wp2_with (first | (at_builtin; refine Zt rfl (.tmp 112) (.tmp 114) 43 rfl (.slice a8 (ns.length+1+1) c8) (.slice (some (aD w9.heap.size 0)) 1 1) (.slice a9 (ns.length+1+1+1) c9) Ug rfl rfl hr ?_));go_wp2;go_ret;exact⟨_,rfl,zW.o⟩
  | false =>
   have h7:=Y.o w6 _ ns nl other (Q.o.below xw.o) (Q6 Pk.o (by decide)) (λb h=>Ot.o b (Q6 xw.o.size h));obtain⟨C,D,E,F,G,I,J⟩:=Z.o.k7;go_wp2_with fail;refine h7.mono ?_;rintro e w7 ⟨a7,c7,m7,rfl,z,k,j,p,A⟩;have d:=Z.o.keep j U6.o;clear C D E F G I J h7;obtain⟨C,D,E,F,G,I,J⟩:=d.k7;have L:=j.size;have y:(Value.slice a7 (ns.length+1) c7).ownBlock≠some t.heap.size:=λe=>by
    rcases p with h | ⟨b,h,hb⟩
    ·exact U6.o (h ▸ e)
    ·rw[h]at e;have:b=t.heap.size:=by simpa using e
     have:=aa.o;omega
   have h8:=Y.o w7 (.slice a7 (ns.length+1) c7) (ns++[m7]) nr own k (by have:=av.o; simp; omega) (λb h=>Ot.o b (Q6 (Q6 xw.o.size L) h));have e8:(ns++[m7]).length=ns.length+1:=by simp
   rw[e8]at h8;have H7:=Zh (XI z (XI k (XI j (XI p (XI A (XI y d))))));clear z k j p A y d;go_wp2_with fail;refine h8.mono ?_;rintro e w8 ⟨a8,c8,m8,rfl,M,N,B,O,P⟩;obtain⟨z,k,j,p,A,y,d⟩:=H7.o;have f:=d.keep B y;clear C D E F G I J h8 e8;have ag:=B.size;have H8:=Zh (XI M (XI N (XI B (XI O (XI P f)))));have y1:=f.frozen 1;have y2:=f.frozen 2;obtain⟨C,D,E,F,G,I,J⟩:=f.k7;clear z k j p A y d M N B O P f;go_upto_region 24 with fail;obtain⟨w9,X⟩:∃ x,(w8.setCell (aD t.heap.size 1) (.int .i64 (ns.length:Int))).setCell (aD t.heap.size 2) (.int .i64 ((ns.length:Int)+1))=x:=⟨_,rfl⟩;obtain⟨z,k,j,p,A,y,d⟩:=H7.o;obtain⟨M,N,B,O,P,f⟩:=H8.o;have g9:GB w9 t.heap.size 75 #[.int .i64 5,.int .i64 (ns.length:Int),.int .i64 ((ns.length:Int)+1),.int .i64 DL,.slice R T.length S,.int .i64 (kn:Int),.slice U W.length V]:=by rw[<- X]; exact(f.set 1 _).set 2 _
   have Vg:Kept (λb=>b≠t.heap.size) w8 w9:=by rw[<- X]; exact(Zf _ _ _ (λh=>h rfl)).trans (Zf _ _ _ (λh=>h rfl))
   obtain⟨a9,c9,Ug,hr,hL⟩:=wW Q.o xw.o Pk.o u.o.1 aa.o U6.o ⟨z,k,j,p,A⟩ ⟨M,N,B,O,P⟩ Vg (⟨5,(ns.length:Int),((ns.length:Int)+1),DL,⟨R,S,T⟩,(kn:Int),⟨U,V,W⟩⟩:ah) (λl aJ=>Bq.o l (by omega));simp only[ah.cells,ai.val]at hr;have zW:=Zh hL;clear C D E F G I J;obtain⟨C,D,E,F,G,I,J⟩:=g9.k7;rw[X];clear X z k j p A y d M N B O P f g9 Vg hL y1 y2 L ag;go_wp2_with (first | (at_builtin; refine Zt rfl (.tmp 112) (.tmp 114) 43 rfl (.slice a8 (ns.length+1+1) c8) (.slice (some (aD w9.heap.size 0)) 1 1) (.slice a9 (ns.length+1+1+1) c9) Ug rfl rfl hr ?_));go_wp2;go_ret;exact⟨_,rfl,zW.o⟩
