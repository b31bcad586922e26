import Derived.Test.YtjndadibondgbaaGreatDoorL24
set_option linter.all false
set_option maxRecDepth 100000
set_option maxHeartbeats 16000000
namespace Go.Proofs.Zz
open Go.RowKit Go.Shelf
variable {ts:List af} {S cl src:List Int} {cs:List ak} {R k:Nat} {W w:World} {base:Nat->Prop} {v:Value} {wh:List az} {ns:List ah} {tn:TypeId}
theorem DW(ao:Option Addr)(cap:Nat)(xs:List Int)(v:Int)(w:World)(hx:aI w ao xs) :
  Ce 32 #[.slice ao xs.length cap,.int .i64 v] w (.bool (decide (v∈xs))):=by
 have r:=hx.1;obtain⟨B,l⟩:∃ b,b=decide (v∈xs):=⟨_,rfl⟩
 rw[<- l];have f:=Zh l;clear l;go_enter Tryz.func32,Tryz.ntmps32;go_wp2;go_loopw [5] (fun i wr=>∃ k:Nat,k<=xs.length/\i=.int .i64 k/\Hid (v ∉ xs.take k)/\wr=w) (fun i _=>xs.length-(intOf i).toNat)
 case atStart=>exact⟨0,Zf _,rfl,by show v ∉ _; simp,rfl⟩
 case round=>
  obtain⟨k,s,rfl,m,rfl⟩:=hrel;by_cases a:k<xs.length
  ·obtain⟨b,off,rfl,n⟩:=hx.get a;have p:=n k a;clear n hx;have e:xs.getD k 0=xs[k]:=by simp[List.getD,a]
   by_cases d:xs.getD k 0=v
   ·have g:Hid (B=true):=by show B=true; rw[f.o]; exact Qy (by rw[<- d,e]; exact Qk _)
    rw[d]at p;clear d e f;go_wp2;go_ret;exact⟨by rw[g.o]; rfl,rfl⟩
   ·have q:(xs.getD k 0==v)=false:=by simpa using d
    have j:Hid (v ∉ xs.take (k+1)):=by
     show v ∉ _
     rw[Qm a,Zx,Zw];rintro (h | h)
     ·exact m.o h
     ·exact d (by rw[e,h])
    clear e d;generalize xs.getD k 0=x at *;go_wp2;go_roundw
    case rel=>exact⟨k+1,by omega,by go_num,j,trivial⟩
    case measure=>simp[intOf]; omega
  ·obtain rfl:k=xs.length:=by omega
   have g:Hid (B=false):=by show B=false; rw[f.o]; exact Qg (by have:=m.o; rwa [Qw]at this)
   clear f;go_wp2;go_ret;exact⟨by rw[g.o]; rfl,rfl⟩
theorem uo(co:Option Addr)(cc:Nat)(ts:List af)(q:ae)(dv:Value)(hdv:∃ a m c,dv=.slice a m c)(c:Int)(w:World)(hx:bu w co ts)(hc:fo ts=true)(hq:q.src.At w)(h5:q.src.xs.length<=5)(ha:aM q.src.xs ts.length=true)(h0:0<=c)(hl:c<ai ts q.src.xs) :
  Cb 34 #[.agg (caseA (.slice co ts.length cc) q dv),.int .i64 c] w (.int .i64 ((aj ts q.src.xs c:Nat):Int)):=by
 obtain⟨da,dm,dc,rfl⟩:=hdv;obtain⟨⟨M,fA,xs⟩,bE,aF,wh,l,f,g,N,p⟩:=q;unfold aa.At at hq;simp only at h5 ha hq hl;unfold caseA aa.val;simp only;have HC:=Zh hc;have X:=Zh ha;obtain⟨y,O,E,P⟩:=aR w #[.slice co ts.length cc,.slice M xs.length fA,.slice bE wh.length aF,.bool l,.slice f.ad f.xs.length f.cap,.slice g.ad g.xs.length g.cap,.slice N.ad N.xs.length N.cap,.slice p.ad p.xs.length p.cap,.slice da dm dc] 29;have Y:=hx.below E;have Z:=Qt E hq;have c0:y.cell? (aD w.heap.size 0)=some (.slice co ts.length cc):=P.cell 0;have c1:y.cell? (aD w.heap.size 1)=some (.slice M xs.length fA):=P.cell 1;have HB:=Zh E;have F:=Zh fun (s:Nat) (R:s<xs.length)=>xQ hc ha h0 hl R
 have i:=Zh (Xe hc ha h0 hl);have u:=jC hc ha xs.length (Qs _);rw[Qw]at u;generalize aj ts xs c=S at *;have HW:=Zh fun (k:Nat) (t:k<xs.length)=>iJ ts xs k t
 have step:∀ (wr:World) (k:Nat),Bw y wr->k<xs.length->∃ z A b off r:Nat,M=some (aD z A)/\wr.cell? (aD z (A+k))=some (.int .i64 (r:Int))/\co=some (aD b off)/\r<ts.length/\wr.cell? (aD b (off+r*6))=some (.int .i64 (ai ts (xs.take (k+1))-ai ts (xs.take k))):=fun wr k d e=>by
  obtain⟨z,A,Q,R⟩:=Z.get e;have hr:=Qq X.o e;obtain⟨b,off,T,t0,-⟩:=Y.2 xs[k].toNat (by omega);have e3:xs.getD k 0=xs[k]:=by simp[List.getD,e]
  refine⟨z,A,b,off,xs[k].toNat,Q,?_,T,by omega,?_⟩
  ·rw[cB d (R k e),e3,show ((xs[k].toNat:Nat):Int)=xs[k] by omega]
  ·rw[HW.o k e,show ai ts (xs.take k)+(ts.getD xs[k].toNat tz).cols-ai ts (xs.take k)=(ts.getD xs[k].toNat tz).cols by omega];exact cB d t0
 have v:=Zh step;have j:=fun k t=>jC hc ha k t
 have Km:=Zh j;have D:=Zh (show S<xs.length from i.o.1);clear hc ha hx hq E P step Z Y j;have ah:c<100:=by omega
 obtain⟨z,A,b,off,r,rfl,U,rfl,kl,k2⟩:=v.o y 0 (Qr _ _) (by have:=D.o; omega);have hz:ai ts (xs.take 0)=0:=rfl;rw[hz,Int.sub_zero]at k2;rw[Xg]at U;have ak:(r:Int)<(ts.length:Int):=by omega
 have au:(0:Int)<(xs.length:Int):=by have:=D.o; omega
 have G:=Zh fun (k:Nat) (t:k<=S)=>show ai ts (xs.take k)<=c from Int.le_trans (kI HC.o X.o t (Nat.le_of_lt D.o)) i.o.2.1
 have H:=Zh (show c<ai ts (xs.take (S+1)) from i.o.2.2.1);clear hz u hl;generalize B:ai ts (xs.take (0+1))=W1 at k2;have I:=Zh B;clear B i;go_enter Tryz.func34,Tryz.ntmps34;go_wp2;go_quiet (fail);go_wp2;clear O U k2;go_loopw [5,6] (fun s n wr=>∃ k:Nat,k<=S/\s=.int .i64 k/\n=.int .i64 (ai ts (xs.take (k+1)))/\Bw y wr) (fun s _ _=>S-(intOf s).toNat)
 case atStart=>exact⟨0,Zf _,rfl,by rw[I.o],ZF (Qr _ _) _⟩
 case round=>
  obtain⟨k,t,rfl,rfl,d⟩:=hrel;have av:=D.o;have j:=Km.o (k+1) (by omega);by_cases V:ai ts (xs.take (k+1))<=c
  ·have ax:k<S:=by
    rcases Ql k S with h | h
    ·exact h
    ·obtain rfl:k=S:=by omega
     have:=H.o;omega
   obtain⟨az,aA,b',off',r,Q,U,T,kl,k2⟩:=v.o wr (k+1) d (by omega)
   cases Q
   cases T
   have J:=Km.o (k+1+1) (by omega);have d0:=cB d c0;have d1:=cB d c1;have ag:(r:Int)<(ts.length:Int):=by omega
   have ay:(k:Int)+1<(xs.length:Int):=by omega
   generalize W:ai ts (xs.take (k+1))=A0 at *;generalize C:ai ts (xs.take (k+1+1))=A1 at *;have K:=Zh C;have L:Hid (wrap64 (A0+(A1-A0))=A1):=by show wrap64 _=_; unfold wrap64; omega
   clear W C j J;go_wp2;go_quiet (fail);go_wp2;go_roundw
   case rel=>exact⟨k+1,by omega,by go_num,by rw[K.o,L.o],ZF d _⟩
   case measure=>simp[intOf]; omega
  ·have e:¬ ai ts (xs.take (k+1))<=c:=V;have HE:Hid (S=k):=(F.o k (by omega)).2 ⟨G.o k t,by omega⟩;generalize ai ts (xs.take (k+1))=A0 at *;have gX:=Zh (aC HB.o d);clear d;go_wp2;go_ret;exact⟨by rw[HE.o]; rfl,gX.o⟩
structure zg(co:Option Addr)(ts:List af)(q:ae)(w:World):Prop where
 tabs:bu w co ts
 Iu:q.At w
 cat:fo ts=true
 five:q.src.xs.length<=5
 src:aM q.src.xs ts.length=true
 cols:∀ i,i<q.wh.length->∀ x∈aG (q.wh.getD i lz).cs,0<=x/\x<ai ts q.src.xs
theorem zg.below{co:Option Addr}{ts:List af}{q:ae}{w w':World}(h:zg co ts q w)(hb:Bw w w'):zg co ts q w':=⟨h.tabs.below hb,h.Iu.below hb,h.cat,h.five,h.src,h.cols⟩
theorem Nv(hk:k<cs.length):bI ts src (cs.take (k+1)) S=(bI ts src (cs.take k) S&&(aA (cs.getD k cz)).all fun c=>decide ((aj ts src c:Int)∈S)):=by
 unfold bI aG;rw[Qm hk,Xb,List.all_append];congr 1;simp[List.getD,hk]
theorem Sm(h:bI ts src (cs.take k) S=false):bI ts src cs S=false:=by
 cases e:bI ts src cs S with
 | false => rfl
 | true =>
  unfold bI aG at h e;rw[Qp]at e;rw[<- h,eq_comm,Qp];intro x a;obtain⟨c,b,a⟩:=Xr.1 a;exact e x (Xr.2 ⟨c,XW b,a⟩)
theorem DX(co:Option Addr)(cc:Nat)(ts:List af)(q:ae)(dv:Value)(hdv:∃ a m c,dv=.slice a m c)(i:Nat)(ss:aa)(w:World)(H:zg co ts q w)(hi:i<q.wh.length)(hs:ss.At w) :
  Cb 31 #[.agg (caseA (.slice co ts.length cc) q dv),.int .i64 (i:Int),ss.val] w (.bool (bI ts q.src.xs (q.wh.getD i lz).cs ss.xs)):=by
 obtain⟨w1,ak,hb,u⟩:=aR w (caseA (.slice co ts.length cc) q dv) 29;have P:=H.below hb;have Q:=Qt hb hs;obtain⟨cb,Kn,Bq,W⟩:=Qd P.Iu.wh.2.1 hi;have C:=P.Iu.wh.2.2 i hi;have au:=W i hi;have av:=H.Iu.wh.1;have wN:=Zh fun (x:World) (c:Int) (d:Bw w1 x) (h0:0<=c/\c<ai ts q.src.xs)=>uo co cc ts q dv hdv c x (P.tabs.below d) H.cat (Qt d P.Iu.src) H.five H.src h0.1 h0.2
 have Cz:=Zh fun (x:World) (v:Int) (d:Bw w1 x)=>DW ss.ad ss.cap ss.xs v x (Qt d Q)
 have l9:=Zh (H.cols i hi);have Y:=Zh hb;have ax:=Zh u;have ay:(i:Int)<(q.wh.length:Int):=by omega
 obtain⟨da,dm,dc,rfl⟩:=hdv;obtain⟨RB,K⟩:∃ b,b=bI ts q.src.xs (q.wh.getD i lz).cs ss.xs:=⟨_,rfl⟩
 rw[<- K];have D:=Zh K;clear K H P hs Q hb W;generalize q.wh.getD i lz=cl at *;obtain⟨la,lc,cs⟩:=cl;obtain⟨sa,sc,p⟩:=ss;obtain⟨src,bE,aF,wh,y,l,n,N,r⟩:=q;simp only[caseA,aa.val,az.val]at *;subst Bq;obtain⟨g0,g1,g2,g3,g4,g5,g6,g7,g8⟩:=XX (u.cell 0) (XX (u.cell 1) (XX (u.cell 2) (XX (u.cell 3) (XX (u.cell 4) (XX (u.cell 5) (XX (u.cell 6) (XX (u.cell 7) (u.cell 8))))))));simp only[ZK,ZM,ZL]at g0 g1 g2 g3 g4 g5 g6 g7 g8;clear u;have aB:=C.1;go_enter Tryz.func31,Tryz.ntmps31;go_wp2;clear ak;go_loopw [8] (fun iv wr=>∃ k:Nat,k<=cs.length/\iv=.int .i64 k/\Hid (bI ts src.xs (cs.take k) p=true)/\Bw w1 wr) (fun iv _=>cs.length-(intOf iv).toNat)
 case atStart=>exact⟨0,Zf _,rfl,rfl,Qr _ _⟩
 case round=>
  obtain⟨k,hk,rfl,HN,f⟩:=hrel;by_cases L:k<cs.length
  ·skip;obtain⟨lb,O,rfl,e0,Z,e2,e3,e4⟩:=C.2 k L;have x1:=cB f Z;have x2:=cB f e2;have x3:=cB f e3;have x4:=cB f e4;have d0:=cB f g0;have d1:=cB f g1;have d2:=cB f g2;have d3:=cB f g3;have d4:=cB f g4;have d5:=cB f g5;have d6:=cB f g6;have d7:=cB f g7;have d8:=cB f g8;have hm:cs.getD k cz∈cs:=by simp[List.getD,L]
   have HL:=Zh (fun c (hc:c∈aA (cs.getD k cz))=>l9.o c (Xr.2 ⟨_,hm,hc⟩));have s:=Zh (Nv (ts:=ts) (src:=src.xs) (S:=p) L);rw[HN.o,Qz]at s;have R:=Zh f;have HK:=Zh C;have aG:(k:Int)<(cs.length:Int):=by omega
   clear e0 Z e2 e3 e4 hm HN C f g0 g1 g2 g3 g4 g5 g6 g7 g8;have g:Hid (bI ts src.xs (cs.take (k+1)) p=false->RB=false):=fun h=>by rw[D.o]; exact Sm h
   generalize cs.getD k cz=c at *;obtain⟨no,op,z,cn,B⟩:=c;simp only at *;have T:0<=z/\z<ai ts src.xs:=HL.o z (by unfold aA; split <;> simp);go_upto_region 5 with fail;refine QA (by kernel_rfl) (by kernel_rfl) ?_;refine qS (.slice sa p.length sc) ?_;go_big_quiet_want;refine⟨.agg #[.slice co ts.length cc,.slice src.ad src.xs.length src.cap,.slice (some (aD cb Kn)) wh.length aF,.bool y,.slice l.ad l.xs.length l.cap,.slice n.ad n.xs.length n.cap,.slice N.ad N.xs.length N.cap,.slice r.ad r.xs.length r.cap,.slice da dm dc],fun x d=>?_,?_⟩
   ·have e0:=cB d d0;have Z:=cB d d1;have e2:=cB d d2;have e3:=cB d d3;have e4:=cB d d4;have e5:=cB d d5;have e6:=cB d d6;have e7:=cB d d7;have e8:=cB d d8;go_simp
   simp only[pU];go_big_quiet_on;refine qS (.slice (some (aD lb O)) cs.length lc) ?_;refine qS (.int .i64 (k:Int)) ?_;refine qS (.pointer (some (aD lb (O+k*5)))) ?_;refine qS (.pointer (some (aD lb (O+k*5+2)))) ?_;refine qC (.int .i64 z) x2 ?_;go_big_quiet_want;refine⟨.int .i64 ((aj ts src.xs z:Nat):Int),fun x d=>?_,?_⟩
   ·have hC:=QC d (wN.o x z (aC R.o d) T);go_simp
   simp only[pU];go_big_quiet_on;go_big_quiet_want;refine⟨.bool (decide (((aj ts src.xs z:Nat):Int)∈p)),fun x d=>?_,?_⟩
   ·have hC:=QC d ((Cz.o x ((aj ts src.xs z:Nat):Int) (aC R.o d)).mono (fun e w' h=>show e=.returned (.bool (decide (((aj ts src.xs z:Nat):Int)∈p)))/\Bw x w' from ⟨h.1,h.2 ▸ Qr _ _⟩));go_simp
   simp only[pU];go_big_quiet_on;refine qS (.bool (decide (((aj ts src.xs z:Nat):Int)∈p))) ?_;refine XY ?_;intro w5 j;have y1:=cB j x1;have y3:=cB j x3;have y4:=cB j x4;have z0:=cB j d0;have z1:=cB j d1;have z2:=cB j d2;have z3:=cB j d3;have z4:=cB j d4;have z5:=cB j d5;have z6:=cB j d6;have z7:=cB j d7;have z8:=cB j d8;have I:=Zh (aC R.o j);generalize hA:decide (((aj ts src.xs z:Nat):Int)∈p)=A at *;have t:=Zh hA;clear hA j x1 x2 x3 x4 d0 d1 d2 d3 d4 d5 d6 d7 d8;by_cases F:op=2
   ·subst F
    cases A with
    | true =>
     have U:Hid (bI ts src.xs (cs.take (k+1)) p=true):=by show bI _ _ _ _=true; rw[s.o]; simpa [aA] using t.o.symm
     clear s t g D;go_wp2;go_roundw
     case rel=>exact⟨k+1,by omega,by go_num,U,I.o⟩
     case measure=>simp[intOf]; omega
    | false =>
     have G:=Zh (g.o (by rw[s.o]; simpa [aA] using t.o.symm));clear s t g D;have M:=Zh (aC Y.o I.o);go_wp2;go_ret;exact⟨by rw[G.o]; rfl,M.o⟩
   ·have aH:(op==2)=false:=by simpa using F
    have V:=Zh F;clear F
    cases cn with
    | true =>
     cases A with
     | true =>
      have U:Hid (bI ts src.xs (cs.take (k+1)) p=true):=by show bI _ _ _ _=true; rw[s.o]; simpa [aA] using t.o.symm
      clear s t g D;go_wp2;go_roundw
      case rel=>exact⟨k+1,by omega,by go_num,U,I.o⟩
      case measure=>simp[intOf]; omega
     | false =>
      have G:=Zh (g.o (by rw[s.o]; simpa [aA] using t.o.symm));clear s t g D;have M:=Zh (aC Y.o I.o);go_wp2;go_ret;exact⟨by rw[G.o]; rfl,M.o⟩
    | false =>
     have ag:0<=B/\B<ai ts src.xs:=HL.o B (by unfold aA; rw[Qu ⟨V.o,rfl⟩]; simp);go_upto_region 8 with fail;refine QA (by kernel_rfl) (by kernel_rfl) ?_;refine qS (.slice sa p.length sc) ?_;go_big_quiet_want;refine⟨.agg #[.slice co ts.length cc,.slice src.ad src.xs.length src.cap,.slice (some (aD cb Kn)) wh.length aF,.bool y,.slice l.ad l.xs.length l.cap,.slice n.ad n.xs.length n.cap,.slice N.ad N.xs.length N.cap,.slice r.ad r.xs.length r.cap,.slice da dm dc],fun x d=>?_,?_⟩
     ·have e0:=cB d z0;have Z:=cB d z1;have e2:=cB d z2;have e3:=cB d z3;have e4:=cB d z4;have e5:=cB d z5;have e6:=cB d z6;have e7:=cB d z7;have e8:=cB d z8;go_simp
     simp only[pU];go_big_quiet_on;refine qS (.slice (some (aD lb O)) cs.length lc) ?_;refine qS (.int .i64 (k:Int)) ?_;refine qS (.pointer (some (aD lb (O+k*5)))) ?_;refine qS (.pointer (some (aD lb (O+k*5+4)))) ?_;refine qC (.int .i64 B) y4 ?_;go_big_quiet_want;refine⟨.int .i64 ((aj ts src.xs B:Nat):Int),fun x d=>?_,?_⟩
     ·have hC:=QC d (wN.o x B (aC I.o d) ag);go_simp
     simp only[pU];go_big_quiet_on;go_big_quiet_want;refine⟨.bool (decide (((aj ts src.xs B:Nat):Int)∈p)),fun x d=>?_,?_⟩
     ·have hC:=QC d ((Cz.o x ((aj ts src.xs B:Nat):Int) (aC I.o d)).mono (fun e w' h=>show e=.returned (.bool (decide (((aj ts src.xs B:Nat):Int)∈p)))/\Bw x w' from ⟨h.1,h.2 ▸ Qr _ _⟩));go_simp
     simp only[pU];go_big_quiet_on;refine qS (.bool (decide (((aj ts src.xs B:Nat):Int)∈p))) ?_;refine XY ?_;intro w6 X;have tX:=Zh (aC I.o X);generalize hB:decide (((aj ts src.xs B:Nat):Int)∈p)=Bv at *;have J:=Zh hB;clear hB X z0 z1 z2 z3 z4 z5 z6 z7 z8;have E:Hid (bI ts src.xs (cs.take (k+1)) p=(A&&Bv)):=by
      show bI _ _ _ _=_
      rw[s.o,<- t.o,<- J.o];unfold aA;rw[Qu ⟨V.o,rfl⟩];simp
     cases Wu:(A&&Bv) with
     | true =>
      rw[Qo]at Wu;obtain⟨rfl,rfl⟩:=Wu;have U:Hid (bI ts src.xs (cs.take (k+1)) p=true):=E.o;clear s E t g D J;go_wp2;go_roundw
      case rel=>exact⟨k+1,by omega,by go_num,U,tX.o⟩
      case measure=>simp[intOf]; omega
     | false =>
      have G:=Zh (g.o (by rw[E.o]; exact Wu));have M:=Zh (aC Y.o tX.o);clear s E t g D J
      cases A with
      | true =>
       have ah:Bv=false:=by simpa using Wu
       subst ah;clear Wu;go_wp2;go_ret;exact⟨by rw[G.o]; rfl,M.o⟩
      | false =>
       clear Wu;go_wp2;go_ret;exact⟨by rw[G.o]; rfl,M.o⟩
  ·obtain rfl:k=cs.length:=by omega
   have G:Hid (RB=true):=by show RB=true; rw[D.o]; have:=HN.o; rwa [Qw]at this
   have R:=Zh (aC Y.o f);clear D f;go_wp2;go_ret;exact⟨by rw[G.o]; rfl,R.o⟩
def mR(ts:List af)(q:ae)(S U:List Int)(k:Nat):List Int:=((List.range k).filter fun i=>bI ts q.src.xs (q.wh.getD i lz).cs S && !decide ((i:Int)∈U)).map fun (i:Nat)=>(i:Int)
def iO(ts:List af)(q:ae)(S U:List Int):List Int:=mR ts q S U q.wh.length
theorem xR(ts:List af)(q:ae)(S U:List Int)(k:Nat):(mR ts q S U k).length<=k:=by
 unfold mR;rw[ZB];exact QS (XQ _ _) (by simp)
def DY(wh:List az)(i:Int):Bool:=decide ((wh.getD i.toNat lz).cs.length=1)&&(decide (((wh.getD i.toNat lz).cs.getD 0 cz).op=0)&&(!((wh.getD i.toNat lz).cs.getD 0 cz).not && !((wh.getD i.toNat lz).cs.getD 0 cz).const))
def dZ(wh:List az)(cl:List Int):Int:=(cl.find? (DY wh)).getD (-1)
def bz(over column:Int):ah:=⟨6,over,0,0,⟨none,0,[]⟩,0,⟨none,0,[column]⟩⟩
theorem Kv(p:Nat->Bool)(k:Nat):(List.range (k+1)).filter p=if p k=true then (List.range k).filter p++[k] else (List.range k).filter p:=by
 rw[Xa,Zi];split
 ·rename_i h
  rw[XO h];rfl
 ·rename_i h
  rw[Xo h];exact XB _
theorem NF(ts:List af)(q:ae)(S U:List Int)(k:Nat):mR ts q S U (k+1)=if (bI ts q.src.xs (q.wh.getD k lz).cs S && !decide ((k:Int)∈U))=true then mR ts q S U k++[(k:Int)] else mR ts q S U k:=by
 unfold mR;rw[Kv];split
 ·rw[Qn]; rfl
 ·rfl
theorem U9{base:Nat}{e:TypeId}{n:Nat}{xs:List Value}(h:w.ownsRow base e 1 v n xs){iv:aa}(hv:v=iv.val):iv.xs.length<=iv.cap:=by
 rcases h.2 with⟨e,h0⟩ | ⟨g,cap,cur,e,_,_,hle,_⟩
 all_goals
  rw[hv]at e;injection e with _ e1 e2;omega
theorem FW(co:Option Addr)(cc:Nat)(ts:List af)(q:ae)(dv:Value)(hdv:∃ a m c,dv=.slice a m c)(ss us:aa)(w:World)(H:zg co ts q w)(hs:ss.At w)(hu:us.At w)(h8:q.wh.length<=8) :
  Calls Tryz.prog 16 #[.agg (caseA (.slice co ts.length cc) q dv),ss.val,us.val] w fun e w'=>∃ iv:aa,e=.returned iv.val/\iv.xs=iO ts q ss.xs us.xs/\ag.At iv w'/\Bw w w'/\(∀ b,ag.blk iv=some b->w.heap.size<=b)/\iv.xs.length<=iv.cap:=by
 obtain⟨r,M,l,f⟩:=aR w (caseA (.slice co ts.length cc) q dv) 29;have G:=Zh fun (x:World) (k:Nat) (F:Bw r x) (hk:k<q.wh.length)=>DX co cc ts q dv hdv k ss x (H.below (aC l F)) hk (Qt (aC l F) hs)
 have Cz:=Zh fun (x:World) (v:Int) (F:Bw r x)=>DW us.ad us.cap us.xs v x (Qt (aC l F) hu)
 have I:=Zh (NF ts q ss.xs us.xs);have U:=Zh (xR ts q ss.xs us.xs);have Mo:Hid (iO ts q ss.xs us.xs=mR ts q ss.xs us.xs q.wh.length):=rfl;have h0:mR ts q ss.xs us.xs 0=[]:=rfl;have V:=Zh l;obtain⟨da,dm,dc,rfl⟩:=hdv;clear H hs hu l;generalize mR ts q ss.xs us.xs=FK at *;generalize iO ts q ss.xs us.xs=FN0 at *;obtain⟨sa,sc,sx⟩:=ss;obtain⟨ua,uc,ux⟩:=us;obtain⟨src,bE,aF,wh,N,W,X,aK,ah⟩:=q;simp only[caseA,aa.val]at *;obtain⟨Y,Z,g2,g3,g4,g5,g6,g7,g8⟩:=XX (f.cell 0) (XX (f.cell 1) (XX (f.cell 2) (XX (f.cell 3) (XX (f.cell 4) (XX (f.cell 5) (XX (f.cell 6) (XX (f.cell 7) (f.cell 8))))))));simp only[ZK,ZM,ZL]at Y Z g2 g3 g4 g5 g6 g7 g8;clear f;go_enter Tryz.func16,Tryz.ntmps16;go_wp2;clear M;go_loopw [7,8] (fun v iv wr=>∃ k:Nat,k<=wh.length/\iv=.int .i64 k/\Hid (wr.ownsRow r.heap.size 3 1 v (FK k).length ((FK k).map (Value.int .i64)))/\Bw r wr) (fun _ iv _=>wh.length-(intOf iv).toNat)
 case atStart=>exact⟨0,Zf _,rfl,by rw[h0]; exact ZA _ _ _ _,Qr _ _⟩
 case round=>
  obtain⟨k,hk,rfl,y,d⟩:=hrel;obtain⟨D,E,rc,rfl⟩:=Zr y.o;have d0:=cB d Y;have d1:=cB d Z;have d2:=cB d g2;have d3:=cB d g3;have d4:=cB d g4;have d5:=cB d g5;have d6:=cB d g6;have d7:=cB d g7;have d8:=cB d g8;by_cases T:k<wh.length
  ·have t:=G.o wr k d T;have A:=Zh (I.o k);have J:=Zh d;clear d;generalize hW:bI ts src.xs (wh.getD k lz).cs sx=WB at *;clear hW;go_wp2_with fail;refine t.mono ?_;rintro e w2 ⟨rfl,j⟩;have n:=aC J.o j;have p:=Cz.o w2 (k:Int) n;have i:=Zp y.o (QU (s:=fun b=>b<wr.heap.size) j (fun b _ h=>h)) (fun g f=>(Zq y.o f).2);generalize hU:decide ((k:Int)∈ux)=UB at *;clear hU t d0 d1 d2 d3 d4 d5 d6 d7 d8;go_wp2_with fail;refine p.mono ?_;rintro e O ⟨rfl,rfl⟩;have K:=U.o k
   cases hT:(WB && !UB) with
   | true =>
    rw[hT,Qu rfl]at A;rw[Qo,Xu]at hT;obtain⟨rfl,rfl⟩:=hT;obtain⟨v',w5,pW,P,z,⟨va,vm,vc,rfl⟩,-⟩:=uu O r.heap.size (.slice D E rc) (FK k) i (by omega) n.size (k:Int) 22;have u:Bw r w5:=n.trans (z.below n.size (fun b l e=>by have:=(Zq i e).1; omega));rw[<- A.o]at P;have B:=Zh P;have C:=Zh u;clear P z u i n j p;go_wp2_with (first | (at_builtin; refine X5 rfl (.tmp 31) (.tmp 33) 22 rfl (.slice D E rc) (.slice (some (aD O.heap.size 0)) 1 1) (.slice va vm vc) w5 rfl rfl pW ?_));clear pW;go_wp2;go_roundw
    case rel=>exact⟨k+1,by omega,by go_num,B.o,C.o⟩
    case measure=>simp[intOf]; omega
   | false =>
    rw[hT,Qv (by simp)]at A;have B:Hid (O.ownsRow r.heap.size 3 1 (.slice D E rc) (FK (k+1)).length ((FK (k+1)).map (Value.int .i64))):=by
     show World.ownsRow _ _ _ _ _ _ _
     rw[A.o];exact i
    have C:=Zh n;clear i n j p
    cases WB with
    | false =>
     clear hT;go_wp2;go_roundw
     case rel=>exact⟨k+1,by omega,by go_num,B.o,C.o⟩
     case measure=>simp[intOf]; omega
    | true =>
     have L:UB=true:=by simpa using hT
     subst L;clear hT;go_wp2;go_roundw
     case rel=>exact⟨k+1,by omega,by go_num,B.o,C.o⟩
     case measure=>simp[intOf]; omega
  ·obtain rfl:k=wh.length:=by omega
   have J:=Zh d;have K:=U.o wh.length;clear d;go_wp2;go_ret;obtain⟨iv,FP,Q,R,S⟩:=ZV y.o (by omega);exact⟨iv,by show Ending.returned (.slice D E rc)=.returned iv.val; rw[FP],Q.trans Mo.o.symm,R,aC V.o J.o,fun b l=>QS V.o.size (S b l),U9 y.o FP⟩
theorem Su(hk:k<cl.length)(hn:cl.take k |>.all fun i=>!DY wh i):(DY wh (cl.getD k 0)=true->dZ wh cl=cl.getD k 0)/\(DY wh (cl.getD k 0)=false->(cl.take (k+1)).all (fun i=>!DY wh i)=true):=by
 have e:cl.getD k 0=cl[k]:=by simp[List.getD,hk]
 rw[e];rw[Qp]at hn;constructor
 ·intro h;unfold dZ;have h1:cl=cl.take k++cl[k]::cl.drop (k+1):=by rw[List.getElem_cons_drop,ZQ]
  have h2:cl.find? (DY wh)=some cl[k]:=by
   conv=>lhs; rw[h1]
   rw[List.find?_append,List.find?_eq_none.2 (fun x hx=>by have:=hn x hx; simpa using this),List.find?_cons_of_pos h];rfl
  rw[h2];rfl
 ·intro h;rw[Qm hk,List.all_append,Qp.2 hn];simp[h]
theorem Sv(hn:(cl.all fun i=>!DY wh i)=true):dZ wh cl = -1:=by
 unfold dZ;rw[Qp]at hn;rw[List.find?_eq_none.2 fun x a=>by have:=hn x a; simpa using this];rfl
theorem uy(cv dv:Value)(q:ae)(cl:aa)(w:World)(hcv:∃ a m c,cv=.slice a m c)(hdv:∃ a m c,dv=.slice a m c)(hq:bX w q.bE q.wh)(hc:cl.At w)(hcl:∀ i∈cl.xs,0<=i/\i<q.wh.length) :
  Cb 33 #[.agg (caseA cv q dv),cl.val] w (.int .i64 (dZ q.wh cl.xs)):=by
 obtain⟨P,L,F,Q⟩:=aR w (caseA cv q dv) 29;have s:=hq.below F;have t:=Qt F hc;have N:=Zh F;have U:=t.1;obtain⟨ca,cm,cc,rfl⟩:=hcv;obtain⟨da,dm,dc,rfl⟩:=hdv;obtain⟨G,z⟩:∃ v,v=dZ q.wh cl.xs:=⟨_,rfl⟩
 rw[<- z];have p:=Zh z;have V:=Zh hcl;have O:=Zh s;have W:=s.1;clear hq hc F z hcl;obtain⟨Kw,Ky,g⟩:=cl;obtain⟨src,bE,aF,wh,M,R,S,aK,ai⟩:=q;simp only[caseA,aa.val]at *;have X:P.cell? (aD w.heap.size 2)=some (.slice bE wh.length aF):=Q.cell 2;clear Q s;go_enter Tryz.func33,Tryz.ntmps33;go_wp2;clear L;go_loopw [5] (fun iv wr=>∃ k:Nat,k<=g.length/\iv=.int .i64 k/\Hid ((g.take k).all (fun i=>!DY wh i)=true)/\Bw P wr) (fun iv _=>g.length-(intOf iv).toNat)
 case atStart=>exact⟨0,Zf _,rfl,rfl,Qr _ _⟩
 case round=>
  obtain⟨k,hk,rfl,T,b⟩:=hrel;by_cases j:k<g.length
  ·obtain⟨cb,Kn,Bq,C⟩:=Qe t j;subst Bq;have Y:=cB b (C k j);have r:g.getD k 0∈g:=by simp[List.getD,j]
   have Z:=V.o _ r;have e:=Zh (Su (wh:=wh) j T.o);obtain⟨d,D⟩:∃ d:Nat,g.getD k 0=(d:Int):=⟨(g.getD k 0).toNat,by omega⟩
   have u:d<wh.length:=by omega
   obtain⟨wb,wo,NG,E⟩:=Qd (O.o.below b).2.1 u;subst NG;have h2:=E d u;have f:=(O.o.below b).2.2 d u;rw[D]at Y e;have d2:=cB b X;have af:(d:Int)<(wh.length:Int):=by omega
   have A:DY wh (d:Int)=(decide ((wh.getD d lz).cs.length=1)&&(decide (((wh.getD d lz).cs.getD 0 cz).op=0)&&(!((wh.getD d lz).cs.getD 0 cz).not && !((wh.getD d lz).cs.getD 0 cz).const))):=rfl;rw[A]at e;have B:=Zh b;clear A C r Z E D t b;generalize wh.getD d lz=c at *;obtain⟨la,lc,cs⟩:=c;simp only[az.val]at *;have hcl:=f.1;by_cases l:cs.length=1
   ·obtain⟨lb,lo,rfl,I,e1,e2,e3,e4⟩:=f.2 0 (by omega);have H:((cs.length:Nat):Int)=1:=by omega
    rw[QI,Xg]at I e1 e2 e3 e4;have I:=I;generalize cs.getD 0 cz=cd at *;obtain⟨no,op,lf,cn,rt⟩:=cd;simp only at *;rw[l]at *;clear f l H hcl;by_cases n:op=0
    ·subst n
     cases no with
     | false =>
      cases cn with
      | false =>
       have J:Hid (G=(d:Int)):=by show G=_; rw[p.o]; exact e.o.1 (by simp)
       have K:=Zh (aC N.o B.o);clear e p;go_wp2;go_quiet (fail);go_wp2;go_ret;exact⟨by rw[J.o]; rfl,ZF K.o _⟩
      | true =>
       have y:=Zh (e.o.2 (by simp));clear e p;go_wp2;go_quiet (fail);go_wp2;go_roundw
       case rel=>exact⟨k+1,by omega,by go_num,y.o,ZF B.o _⟩
       case measure=>simp[intOf]; omega
     | true =>
      have y:=Zh (e.o.2 (by simp));clear e p;go_wp2;go_quiet (fail);go_wp2;go_roundw
      case rel=>exact⟨k+1,by omega,by go_num,y.o,ZF B.o _⟩
      case measure=>simp[intOf]; omega
    ·have ag:(op==0)=false:=by simpa using n
     have y:=Zh (e.o.2 (by simp[n]));clear e p n;go_wp2;go_quiet (fail);go_wp2;go_roundw
     case rel=>exact⟨k+1,by omega,by go_num,y.o,ZF B.o _⟩
     case measure=>simp[intOf]; omega
   ·have ah:(((cs.length:Nat):Int)==1)=false:=by
     have:¬ ((cs.length:Nat):Int)=1:=by omega
     simpa using this
    have y:=Zh (e.o.2 (by simp[l]));clear e p l f;go_wp2;go_quiet (fail);go_wp2;go_roundw
    case rel=>exact⟨k+1,by omega,by go_num,y.o,ZF B.o _⟩
    case measure=>simp[intOf]; omega
  ·obtain rfl:k=g.length:=by omega
   have J:Hid (G = -1):=by show G = -1; rw[p.o]; exact Sv (by have:=T.o; rwa [Qw]at this)
   have K:=Zh (aC N.o b);clear p b;go_wp2;go_ret;exact⟨by rw[J.o]; rfl,K.o⟩
structure fJ(tn:TypeId)(base:Nat->Prop)(v:Value)(ns:List ah)(w:World):Prop where
 own:w.ownsRow 0 tn 7 v ns.length (ns.flatMap ah.list)
 lists:∀ n∈ns,∀ l,l=n.cl∨l=n.co->ag.At l w/\(∀ b,ag.blk l=some b->base b/\v.ownBlock≠some b)/\l.xs.length<=l.cap
theorem fJ.nil(tn:TypeId)(base:Nat->Prop)(w:World):fJ tn base (.slice none 0 0) [] w:=⟨ZA _ _ _ _,fun n a=>by cases a⟩
theorem fJ.keep{tn:TypeId}{base:Nat->Prop}{v:Value}{ns:List ah}{w w':World}(h:fJ tn base v ns w){P:Nat->Prop}(hk:Kept P w w')(ho:∀ b,v.ownBlock=some b->P b)(hl:∀ b,b<w.heap.size->base b->P b):fJ tn base v ns w':=
 ⟨Zp h.own hk ho,fun n i l j=>by
  obtain⟨f,d,g⟩:=h.lists n i l j;exact⟨ag.keep f hk.size fun b e a=>hk.block b e (hl b e (d b a).1),d,g⟩⟩
theorem fJ.below{tn:TypeId}{base:Nat->Prop}{v:Value}{ns:List ah}{w w':World}(h:fJ tn base v ns w)(hb:Bw w w'):fJ tn base v ns w':=h.keep (P:=fun b=>b<w.heap.size) (QU hb fun _ h _=>h) (fun b e=>(Zq h.own e).2) fun b h _=>h
theorem Tryz.D6:(Tryz.prog.info? 36).map (fun i=>(i.zero,i.size,i.bytes))=some (some (.agg #[.int .i64 0,.int .i64 0,.int .i64 0,.int .i64 0,.slice none 0 0,.int .i64 0,.slice none 0 0]),7,88):=by kernel_rfl
theorem fJ.push(h:fJ 36 base v ns W)(hl:ns.length<=1000)(n:ah)(hn:∀ l,l=n.cl∨l=n.co->ag.At l W/\(∀ b,ag.blk l=some b->base b/\v.ownBlock≠some b)/\l.xs.length<=l.cap)(ty:TypeId) :
  ∃ g w',(Builtin.append_ #[32,32] ty #[v,.slice (some (aD W.heap.size 0)) 1 1]).run Tryz.prog (W.alloc (.cells n.cells 36))=.ok g w'/\
   fJ 36 base g (ns++[n]) w'/\Kept (fun b=>v.ownBlock≠some b) W w'/\(∃ a m c,g = .slice a m c)/\(g.ownBlock=v.ownBlock∨g.ownBlock=some (W.heap.size+1)):=by
 obtain⟨y,z,o,p,q⟩:=Zy Tryz.D6;obtain⟨g,w',A,B,r,C,d⟩:=qN (P:=Tryz.prog) W 0 32 ty 36 y _ 7 88 Tryz.underlying32 z o p q rfl (by decide) v ns.length _ h.own (Zf _) n.list rfl (fun u t=>by
  unfold ah.list aa.val at t;simp at t;rcases t with rfl | rfl | rfl | rfl | rfl | rfl | rfl <;> rfl) hl (by decide)
 refine⟨g,w',A,⟨by rw[ZC,Xb]; simpa using B,fun m i l k=>?_⟩,r,C,d⟩;have j:ag.At l W/\(∀ b,ag.blk l=some b->base b/\v.ownBlock≠some b)/\l.xs.length<=l.cap:=by
  rcases Zx.1 i with i | i
  ·exact h.lists m i l k
  ·rw[Zw]at i;subst i;exact hn l k
 obtain⟨w,s,D⟩:=j;refine⟨ag.keep w r.size fun b E f=>r.block b E (s b f).2,fun b f=>⟨(s b f).1,fun e=>?_⟩,D⟩;rcases d with d | d
 ·exact(s b f).2 (d ▸ e)
 ·have:=ag.sV w f;rw[d]at e;have:W.heap.size+1=b:=by simpa using e
  omega
structure mZ(tn:TypeId)(base:Nat->Prop)(v:Value)(ns:List ah)(more:List ah)(w:World)(v':Value)(w':World):Prop where
 nodes:∃ ms,ms.map bU=more/\fJ tn base v' (ns++ms) w'
 kept:Kept (fun b=>v.ownBlock≠some b) w w'
 own:v'.ownBlock=v.ownBlock∨∃ b,v'.ownBlock=some b/\w.heap.size<=b
theorem fJ.slice(h:fJ tn base v ns w):∃ b a,v=.slice b ns.length a:=by
 rcases h.own.2 with⟨rfl,h0⟩ | ⟨g,a,cur,rfl,_⟩
 ·exact⟨none,0,by rw[h0]⟩
 ·exact⟨_,_,rfl⟩
theorem Av(w:World)(P:Nat->Prop):ag.At ⟨none,0,[]⟩ w/\(∀ b,ag.blk ⟨none,0,[]⟩=some b->P b)/\([]:List Int).length<=0:=
 ⟨⟨⟨by simp,fun i d=>absurd d (by simp)⟩,fun a e=>by simp at e,fun _=>rfl⟩,fun b f=>by simp[ag]at f,Qs _⟩
theorem fJ.other{w':World}(h:fJ tn base v ns w)(hk:Kept (fun b=>b≠R) w w')(ho:v.ownBlock≠some R)(hl:∀ n∈ns,∀ l,l=n.cl∨l=n.co->ag.blk l≠some R):fJ tn base v ns w':=
 ⟨Zp h.own hk (fun g m e=>ho (e ▸ m)),fun n f l a=>by
  obtain⟨i,j,k⟩:=h.lists n f l a;exact⟨ag.keep i hk.size fun b o d=>hk.block b o fun e=>hl n f l a (e ▸ d),j,k⟩⟩
theorem Kz(base:Nat->Prop)(v:Value)(ns:List ah)(over dA:Int)(w:World)(h:fJ 36 base v ns w)(hl:ns.length<=900)(hb:∀ b,w.heap.size<=b->base b) :
  Calls Tryz.prog 35 #[v,.int .i64 over,.int .i64 dA] w fun e w'=>∃ (d:Option Addr) (f:Nat) (m:ah),e=.returned (.tuple #[.slice d (ns.length+1) f,.int .i64 (ns.length:Int)])/\bU m=bz over dA/\fJ 36 base (.slice d (ns.length+1) f) (ns++[m]) w'/\Kept (fun b=>v.ownBlock≠some b) w w'/\((Value.slice d (ns.length+1) f).ownBlock=v.ownBlock∨∃ b,(Value.slice d (ns.length+1) f).ownBlock=some b/\w.heap.size<=b)/\∀ l,l=m.cl∨l=m.co->∀ b,ag.blk l=some b->w.heap.size<=b:=by
 obtain⟨t,u,rfl⟩:=h.slice;obtain⟨q,r,j,n⟩:=aR w #[.int .i64 dA] 3;have B:q.heap.size=w.heap.size+1:=by rw[<- r]; simp
 have k:ag.At ⟨some (aD w.heap.size 0),1,[dA]⟩ q:=⟨⟨by simp,fun i F=>⟨w.heap.size,0,rfl,by
  have C:i<1:=F;obtain rfl:i=0:=by omega
  exact n.cell 0⟩⟩,fun a G=>by cases G; show w.heap.size<_; omega,fun e=>by cases e⟩
 obtain⟨H,w',y,s,z,⟨d,I,f,rfl⟩,A⟩:=fJ.push (h.below j) (by omega) ⟨6,over,0,0,⟨none,0,[]⟩,0,⟨some (aD w.heap.size 0),1,[dA]⟩⟩ (fun l hl=>by
  rcases hl with rfl | rfl
  ·exact Av _ _
  ·refine⟨k,fun b g=>?_,Qs _⟩;have e:w.heap.size=b:=by simpa [ag] using g
   subst e;exact⟨hb _ (Qs _),fun e=>by have:=(Zq h.own e).2; omega⟩) 32
 obtain⟨J,E,e⟩:=s.slice;injection e with e1 e2 e3;rw[ZC,ZX]at e2;subst e2;have p:=Zh (XX s (XX ((QU j fun _ h _=>h).trans z) (show (Value.slice d (ns.length+1) f).ownBlock=(Value.slice t ns.length u).ownBlock∨∃ b,(Value.slice d (ns.length+1) f).ownBlock=some b/\w.heap.size<=b from A.imp id fun e=>⟨_,e,by omega⟩)));have D:wrap64 ((ns.length:Int)+1-1)=(ns.length:Int):=by unfold wrap64; omega
 simp only[ah.cells,aa.val,Q8,ZX]at y;clear s z A k n j h e1 e3 B;go_enter Tryz.func35,Tryz.ntmps35;go_wp2_with (first | (at_builtin; refine X5 rfl (.tmp 8) (.tmp 13) 32 rfl (.slice t ns.length u) (.slice (some (aD q.heap.size 0)) 1 1) (.slice d (ns.length+1) f) w' rfl rfl y ?_));go_wp2;go_ret2;refine⟨d,f,_,rfl,rfl,p.o.1,p.o.2.1,p.o.2.2,fun l hl b g=>?_⟩;rcases hl with rfl | rfl
 ·simp[ag]at g
 ·have e:w.heap.size=b:=by simpa [ag] using g
  omega
def kD(base:Nat->Prop)(v:Value)(n:ah)(w:World):Prop:=∀ l,l=n.cl∨l=n.co->ag.At l w/\(∀ b,ag.blk l=some b->base b/\v.ownBlock≠some b)/\l.xs.length<=l.cap
theorem kD.keep{base:Nat->Prop}{v:Value}{n:ah}{w w':World}(h:kD base v n w)(hk:Kept (fun b=>v.ownBlock≠some b) w w'):kD base v n w':=fun l g=>by
 obtain⟨e,d,f⟩:=h l g;exact⟨ag.keep e hk.size fun b i a=>hk.block b i (d b a).2,d,f⟩
theorem kD.below{base:Nat->Prop}{v:Value}{n:ah}{w w':World}(h:kD base v n w)(hb:Bw w w'):kD base v n w':=h.keep (QU hb fun _ h _=>h)
theorem mZ.one(h:fJ 36 base v ns W)(hl:ns.length<=1000)(n:ah)(hn:kD base v n W) :
  ∃ a c w',(Builtin.append_ #[32,32] 32 #[v,.slice (some (aD W.heap.size 0)) 1 1]).run Tryz.prog (W.alloc (.cells n.cells 36))=.ok (.slice a (ns.length+1) c) w'/\mZ 36 base v ns [bU n] W (.slice a (ns.length+1) c) w':=by
 obtain⟨k,w',f,d,g,-,i⟩:=fJ.push h hl n hn 32;obtain⟨j,b,e⟩:=d.slice;rw[ZC,ZX]at e;subst e;exact⟨j,b,w',f,⟨⟨[n],rfl,d⟩,g,i.imp id fun e=>⟨_,e,by omega⟩⟩⟩
theorem Sz(cv dv:Value)(q:ae)(base:Nat->Prop)(v:Value)(ns:List ah)(n:ah)(kind s:Int)(first:Bool)(w:World)(hcv:∃ a m c,cv=.slice a m c)(hdv:∃ a m c,dv=.slice a m c)(hq:bX w q.bE q.wh)(hcl:∀ i∈n.cl.xs,0<=i/\i<q.wh.length)(h:fJ 36 base v ns w)(hl:ns.length<=900)(hn:kD base v n w)(hk:dZ q.wh n.cl.xs<0∨kind=0) :
  Calls Tryz.prog 17 #[.agg (caseA cv q dv),v,.agg n.cells,.int .i64 kind,.int .i64 s,.bool first] w fun e w'=>∃ v',e=.returned v'/\mZ 36 base v ns [bU n] w v' w':=by
 obtain⟨A,B,rfl⟩:=h.slice;obtain⟨w1,C,p,j⟩:=aR w (caseA cv q dv) 29;obtain⟨w2,D,k,r⟩:=aR w1 n.cells 36;have u:=aC p k;have f:=j.of (k.block _ j.lt);have z:=uy cv dv q n.cl w2 hcv hdv (hq.below u) (Qt u (hn n.cl (.inl rfl)).1.1) hcl;have l:=Zh fun (x:World) (hx:Bw w x)=>mZ.one (h.below hx) (by omega) n (hn.below hx)
 obtain⟨ca,cm,cc,rfl⟩:=hcv;obtain⟨da,dm,dc,rfl⟩:=hdv;have H:=Zh u;obtain⟨K,M⟩:=eY (dZ q.wh n.cl.xs)
 rw[<- M]at z hk;clear M hq hcl h hl hn p k u;obtain⟨src,bE,aF,wh,E,N,O,aK,af⟩:=q;obtain⟨nk,nl,nr,Re,⟨Kw,Ky,Fz⟩,key,⟨NI,NJ,Mq⟩⟩:=n;simp only[caseA,aa.val,ah.cells]at *;obtain⟨P,Q,R,S,T,U,V,W,X⟩:=XX (f.cell 0) (XX (f.cell 1) (XX (f.cell 2) (XX (f.cell 3) (XX (f.cell 4) (XX (f.cell 5) (XX (f.cell 6) (XX (f.cell 7) (f.cell 8))))))));simp only[ZK,ZM,ZL]at P Q R S T U V W X;obtain⟨Y,Z,k2,k3,k4,k5,k6⟩:=r.k7;clear j r f;go_enter Tryz.func17,Tryz.ntmps17;go_wp2_with fail;refine z.mono ?_;rintro e y ⟨rfl,d⟩;have j0:=cB d Y;have j1:=cB d Z;have j2:=cB d k2;have j3:=cB d k3;have j4:=cB d k4;have j5:=cB d k5;have j6:=cB d k6;have g:=aC H.o d;obtain⟨a',c',w4,hr,hL⟩:=l.o y g;have I:=Zh hL;have J:=Zh (show Kept (fun b=>(Value.slice A ns.length B).ownBlock≠some b) w y from QU g fun _ h _=>h);have L:=Zh g.size;clear z P Q R S T U V W X Y Z k2 k3 k4 k5 k6 C D hL d g l H;by_cases t:K<0
 ·go_wp2_with (first | (at_builtin; refine X5 rfl (.tmp 35) (.tmp 37) 32 rfl (.slice A ns.length B) (.slice (some (aD y.heap.size 0)) 1 1) (.slice a' (ns.length+1) c') w4 rfl rfl hr ?_));go_wp2;go_ret;obtain⟨F,hk,G⟩:=I.o;exact⟨_,rfl,F,J.o.trans hk,G.imp id fun ⟨b,e,hb⟩=>⟨b,e,QS L.o hb⟩⟩
 ·have h0:kind=0:=hk.resolve_left t;subst h0;clear hk;go_wp2_with (first | (at_builtin; refine X5 rfl (.tmp 35) (.tmp 37) 32 rfl (.slice A ns.length B) (.slice (some (aD y.heap.size 0)) 1 1) (.slice a' (ns.length+1) c') w4 rfl rfl hr ?_));go_wp2;go_ret;obtain⟨F,hk,G⟩:=I.o;exact⟨_,rfl,F,J.o.trans hk,G.imp id fun ⟨b,e,hb⟩=>⟨b,e,QS L.o hb⟩⟩
theorem NK(h:0<cs.length):(cs.getD 0 cz).left∈aG cs:=by
 unfold aG;refine Xr.2 ⟨cs.getD 0 cz,by simp[List.getD,h],?_⟩;unfold aA;split <;> simp
theorem vB{va:Option Addr}{vc:Nat}{w6 w7 w8 w9:World}(h0:fJ 36 base (.slice va ns.length vc) ns w)(hb6:Bw w w6)(hle:ns.length<=800)(hR1:w.heap.size<=R)(hR6:R<w6.heap.size)(hnw:(Value.slice va ns.length vc).ownBlock≠some R){a7 a8:Option Addr}{c7 c8:Nat}{m7 m8 s7 s8:ah}
  (h7:bU m7=s7/\fJ 36 base (.slice a7 (ns.length+1) c7) (ns++[m7]) w7/\Kept (fun b=>(Value.slice va ns.length vc).ownBlock≠some b) w6 w7/\((Value.slice a7 (ns.length+1) c7).ownBlock=(Value.slice va ns.length vc).ownBlock∨∃ b,(Value.slice a7 (ns.length+1) c7).ownBlock=some b/\w6.heap.size<=b)/\∀ l,l=m7.cl∨l=m7.co->∀ b,ag.blk l=some b->w6.heap.size<=b)
  (h8:bU m8=s8/\fJ 36 base (.slice a8 (ns.length+1+1) c8) (ns++[m7]++[m8]) w8/\Kept (fun b=>(Value.slice a7 (ns.length+1) c7).ownBlock≠some b) w7 w8/\((Value.slice a8 (ns.length+1+1) c8).ownBlock=(Value.slice a7 (ns.length+1) c7).ownBlock∨∃ b,(Value.slice a8 (ns.length+1+1) c8).ownBlock=some b/\w7.heap.size<=b)/\∀ l,l=m8.cl∨l=m8.co->∀ b,ag.blk l=some b->w7.heap.size<=b)
  (Vb:Kept (fun b=>b≠R) w8 w9) (n:ah) (FZ:kD base (.slice va ns.length vc) n w) :
  ∃ a9 o p,(Builtin.append_ #[32,32] 32 #[.slice a8 (ns.length+1+1) c8,.slice (some (aD w9.heap.size 0)) 1 1]).run Tryz.prog (w9.alloc (.cells n.cells 36))=.ok (.slice a9 (ns.length+1+1+1) o) p/\mZ 36 base (.slice va ns.length vc) ns [s7,s8,bU n] w (.slice a9 (ns.length+1+1+1) o) p:=by
 obtain⟨K,T,z,A,L⟩:=h7;obtain⟨M,N,B,C,O⟩:=h8;have G:=z.size;have H:=B.size;have S:=hb6.size;have k:∀ b,b<w6.heap.size->(Value.slice va ns.length vc).ownBlock≠some b->(Value.slice a7 (ns.length+1) c7).ownBlock≠some b:=fun b a j e=>by
  rcases A with h | ⟨c,h,J⟩
  ·exact j (h ▸ e)
  ·rw[h]at e;have:c=b:=by simpa using e
   omega
 have i:∀ b,b<w6.heap.size->(Value.slice va ns.length vc).ownBlock≠some b->(Value.slice a8 (ns.length+1+1) c8).ownBlock≠some b:=fun b a j e=>by
  rcases C with h | ⟨c,h,J⟩
  ·exact k b a j (h ▸ e)
  ·rw[h]at e;have:c=b:=by simpa using e
   omega
 have m:Kept (fun b=>b<w.heap.size/\(Value.slice va ns.length vc).ownBlock≠some b) w w9:=(((QU hb6 fun b _ h=>h.1).trans' z fun b a h=>h.2).trans' B fun b a h=>k b (by omega) h.2).trans' Vb fun b a h=>by show b≠_; have:=h.1; omega
 have q:=N.other Vb (i _ hR6 hnw) (fun x d l f e=>by
  rcases Zx.1 d with d | d
  ·rcases Zx.1 d with d | d
   ·have:=ag.sV (h0.lists x d l f).1 e;omega
   ·rw[Zw]at d;subst d;have:=L l f _ e;omega
  ·rw[Zw]at d;subst d;have:=O l f _ e;omega)
 have r:kD base (.slice a8 (ns.length+1+1) c8) n w9:=fun l f=>by
  obtain⟨D,s,P⟩:=FZ l f;refine⟨ag.keep D m.size fun b a g=>m.block b a ⟨a,(s b g).2⟩,fun b g=>⟨(s b g).1,i b (by have:=ag.sV D g; omega) (s b g).2⟩,P⟩
 obtain⟨a9,o,p,E,F⟩:=mZ.one q (by simp; omega) n r;have I:(ns++[m7]++[m8]).length=ns.length+1+1:=by simp
 rw[I]at E F;refine⟨a9,o,p,E,?_⟩;obtain⟨⟨Q,t,u⟩,v,y⟩:=F;refine⟨⟨m7::m8::Q,by rw[XH,XH,K,M,t],by simpa using u⟩,?_,?_⟩
 ·exact(Kept.mono (m.trans' v fun b a h=>i b (by omega) h.2) fun b a h=>⟨a,h⟩)
 ·rcases y with h | ⟨b,h,a⟩
  ·rw[h];rcases C with h | ⟨b,h,a⟩
   ·rw[h];rcases A with h | ⟨b,h,a⟩
    ·exact .inl h
    ·exact .inr ⟨b,h,by omega⟩
   ·exact .inr ⟨b,h,by omega⟩
  ·exact .inr ⟨b,h,QS m.size a⟩
theorem KA(co:Option Addr)(cc0:Nat)(ts:List af)(dv:Value)(q:ae)(base:Nat->Prop)(v:Value)(ns:List ah)(n:ah)(s:Int)(first:Bool)(w:World)(hdv:∃ a m c,dv=.slice a m c)(H:zg co ts q w)(hcl:∀ i∈n.cl.xs,0<=i/\i<q.wh.length)(h:fJ 36 base v ns w)(hl:ns.length<=800)(hb:∀ b,w.heap.size<=b->base b)(hn:kD base v n w)(kn:Nat)(hkn:dZ q.wh n.cl.xs=(kn:Int))(hkl:kn<q.wh.length)(hk1:0<(q.wh.getD kn lz).cs.length)(own other:Int)(hoo:(own,other)=if ((aj ts q.src.xs ((q.wh.getD kn lz).cs.getD 0 cz).left:Nat):Int)=s then (((q.wh.getD kn lz).cs.getD 0 cz).left,((q.wh.getD kn lz).cs.getD 0 cz).right) else (((q.wh.getD kn lz).cs.getD 0 cz).right,((q.wh.getD kn lz).cs.getD 0 cz).left)) :
  Calls Tryz.prog 17 #[.agg (caseA (.slice co ts.length cc0) q dv),v,.agg n.cells,.int .i64 2,.int .i64 s,.bool first] w fun e w'=>∃ v',e=.returned v'/\mZ 36 base v ns [bz n.l (if first then own else other),bz n.r (if first then other else own),{ bU n with kind:=5,key:=(kn:Int),l:=(ns.length:Int),r:=((ns.length:Int)+1) }] w v' w':=by
 obtain⟨va,vc,rfl⟩:=h.slice;obtain⟨t,aP,aB,au⟩:=aR w (caseA (.slice co ts.length cc0) q dv) 29;obtain⟨w2,aQ,aG,aH⟩:=aR t n.cells 36;have zn:=aC aB aG;have cK:=au.of (aG.block _ au.lt);have SC:=uy (.slice co ts.length cc0) dv q n.cl w2 ⟨_,_,_,rfl⟩ hdv (H.below zn).Iu.wh (Qt zn (hn n.cl (.inl rfl)).1.1) hcl;have R:=Zh fun (x:World) (v:Value) (ns:List ah) (aO dA:Int) (h:fJ 36 base v ns x) (hl:ns.length<=900) (hb:∀ b,x.heap.size<=b->base b)=>Kz base v ns aO dA x h hl hb
 have wN:=Zh fun (x:World) (hx:Bw w x)=>uo co cc0 ts q dv hdv ((q.wh.getD kn lz).cs.getD 0 cz).left x (H.tabs.below hx) H.cat (Qt hx H.Iu.src) H.five H.src (H.cols kn hkl _ (NK hk1)).1 (H.cols kn hkl _ (NK hk1)).2
 have WG:=Zh h;have Ve:=Zh hn;have Cg:=Zh hb;have uw:=Zh hl;have ag:=Zh (H.Iu.wh);have aI:=Zh aH;have u:=Zh (show w.heap.size<=t.heap.size/\w.heap.size≠t.heap.size from ⟨aB.size,by have:=au.lt; omega⟩);obtain⟨da,dm,dc,rfl⟩:=hdv;have HB:=Zh zn;rw[hkn]at SC;have ai:=Zh hoo;clear hkn H hcl h hl hb hn aB aG zn hoo;obtain⟨src,bE,aF,wh,aS,aW,aX,aK,bq⟩:=q;obtain⟨nk,nl,nr,Re,⟨Kw,Ky,Fz⟩,key,⟨NI,NJ,Mq⟩⟩:=n;simp only[caseA,aa.val,ah.cells]at *;obtain⟨g0,g1,g2,g3,g4,g5,g6,d,f⟩:=XX (cK.cell 0) (XX (cK.cell 1) (XX (cK.cell 2) (XX (cK.cell 3) (XX (cK.cell 4) (XX (cK.cell 5) (XX (cK.cell 6) (XX (cK.cell 7) (cK.cell 8))))))));simp only[ZK,ZM,ZL]at g0 g1 g2 g3 g4 g5 g6 d f;obtain⟨k0,k1,k2,k3,k4,k5,k6⟩:=aH.k7;clear au aH cK;go_enter Tryz.func17,Tryz.ntmps17;go_wp2_with fail;refine SC.mono ?_;rintro e w3 ⟨rfl,g⟩;have j0:=cB g k0;have j1:=cB g k1;have j2:=cB g k2;have j3:=cB g k3;have j4:=cB g k4;have j5:=cB g k5;have j6:=cB g k6;have aJ:=aC HB.o g;have gn:=aI.o.of (g.block _ aI.o.lt);have y0:=gn.frozen 0;have y5:=gn.frozen 5;have KC:=Zh gn;have xW:=Zh aJ;have aL:=Zh (XX (cB g g0) (XX (cB g g1) (XX (cB g g2) (XX (cB g g3) (XX (cB g g4) (XX (cB g g5) (XX (cB g g6) (XX (cB g d) (cB g f)))))))));clear SC g0 g1 g2 g3 g4 g5 g6 d f k0 k1 k2 k3 k4 k5 k6 aP aQ g aJ HB gn;go_upto_region 6 with fail;obtain⟨w4,av⟩:∃ x,(w3.setCell (aD t.heap.size 0) (.int .i64 5)).setCell (aD t.heap.size 5) (.int .i64 (kn:Int))=x:=⟨_,rfl⟩
 have g4:GB w4 t.heap.size 36 #[.int .i64 5,.int .i64 nl,.int .i64 nr,.int .i64 Re,.slice Kw Fz.length Ky,.int .i64 (kn:Int),.slice NI Mq.length NJ]:=by rw[<- av]; exact(KC.o.set 0 _).set 5 _
 have Vf:Kept (fun b=>b≠t.heap.size) w3 w4:=by rw[<- av]; exact(Zn _ _ _ (fun h=>h rfl)).trans (Zn _ _ _ (fun h=>h rfl))
 have zo:Bw w w4:=xW.o.trans (Vf.below xW.o.size (fun b hb=>by have:=u.o.1; show b≠_; omega));obtain⟨z0,z1,z2,z3,z4,z5,z6,z7,z8⟩:=aL.o;have u0:=Zj z0 Vf u.o.2;have u1:=Zj z1 Vf u.o.2;have u2:=Zj z2 Vf u.o.2;have u3:=Zj z3 Vf u.o.2;have u4:=Zj z4 Vf u.o.2;have u5:=Zj z5 Vf u.o.2;have u6:=Zj z6 Vf u.o.2;have u7:=Zj z7 Vf u.o.2;have u8:=Zj z8 Vf u.o.2;rw[av];clear av Vf j0 j1 j2 j3 j4 j5 j6 y0 y5 z0 z1 z2 z3 z4 z5 z6 z7 z8 aL;obtain⟨C,D,E,F,G,I,J⟩:=g4.k7;obtain⟨wb,wo,NG,aN⟩:=Qd (ag.o.below zo).2.1 hkl;have ay:=(ag.o.below zo).2.2 kn hkl;have q0:=aN kn hkl;have aY:=ag.o.1;subst NG;have aZ:(kn:Int)<(wh.length:Int):=by omega
 generalize wh.getD kn lz=c at *;obtain⟨la,lc,cs⟩:=c;simp only[az.val]at *;obtain⟨lb,lo,rfl,e0,e1,e2,e3,e4⟩:=ay.2 0 hk1;rw[QI,Xg]at e0 e1 e2 e3 e4;have bf:=ay.1;have bg:(0:Int)<(cs.length:Int):=by omega
 generalize cs.getD 0 cz=cd at *;obtain⟨aT,aU,lf,aV,rt⟩:=cd;simp only at *;obtain⟨w5,NL,K,ax⟩:=aR w4 #[.bool aT,.int .i64 aU,.int .i64 lf,.bool aV,.int .i64 rt] 77;have KE:=aC zo K;have p2:w5.cell? (aD w4.heap.size 2)=some (.int .i64 lf):=ax.cell 2;have p4:w5.cell? (aD w4.heap.size 4)=some (.int .i64 rt):=ax.cell 4;have s0:=cB K u0;have s1:=cB K u1;have s2:=cB K u2;have s3:=cB K u3;have s4:=cB K u4;have s5:=cB K u5;have s6:=cB K u6;have s7:=cB K u7;have s8:=cB K u8;have aM:=wN.o w5 KE;have Ch:=Zh KE;have lD:=Zh K;have aA:=Zh g4;have bn:=Zh ax;clear ay zo KE K ax g4 aN wN ag;go_wp2_with fail;refine aM.mono ?_;rintro e w6 ⟨rfl,Z⟩;have r2:=cB Z p2;have r4:=cB Z p4;have U:=Zh (aC Ch.o Z);have g6:=aA.o.of ((aC lD.o Z).block _ aA.o.lt);have S:=Zh g6;clear aM s0 s1 s2 s3 s4 s5 s6 s7 s8 u0 u1 u2 u3 u4 u5 u6 u7 u8 C D E F G I J e0 e1 e2 e3 e4 q0 p2 p4 NL g6;generalize ((aj ts src.xs lf:Nat):Int)=SV at *;have Mr:Hid ((Value.slice va ns.length vc).ownBlock≠some t.heap.size):=fun e=>by have:=(Zq WG.o.own e).2; have:=u.o.1; omega
 have T:=Zh (show t.heap.size<w6.heap.size from QT aA.o.lt (QS lD.o.size Z.size));have ak:=uw;clear Z;by_cases hs:SV=s
 ·have hoo:=ai.o;rw[Qu hs]at hoo;obtain⟨rfl,rfl⟩:=Prod.mk.inj hoo;subst hs;clear hoo ai
  cases first with
  | true =>
   have h7:=R.o w6 _ ns nl own (WG.o.below U.o) (QS uw.o (by decide)) (fun b h=>Cg.o b (QS U.o.size h));obtain⟨C,D,E,F,G,I,J⟩:=S.o.k7;go_wp2_with fail;refine h7.mono ?_;rintro e w7 ⟨a7,c7,m7,rfl,z,k,j,p,A⟩;have d:=S.o.keep j Mr.o;clear C D E F G I J h7;obtain⟨C,D,E,F,G,I,J⟩:=d.k7;have L:=j.size;have y:(Value.slice a7 (ns.length+1) c7).ownBlock≠some t.heap.size:=fun e=>by
    rcases p with h | ⟨b,h,hb⟩
    ·exact Mr.o (h ▸ e)
    ·rw[h]at e;have:b=t.heap.size:=by simpa using e
     have:=T.o;omega
   have V:=R.o w7 (.slice a7 (ns.length+1) c7) (ns++[m7]) nr other k (by have:=ak.o; simp; omega) (fun b h=>Cg.o b (QS (QS U.o.size L) h));have e8:(ns++[m7]).length=ns.length+1:=by simp
   rw[e8]at V;have H7:=Zh (XX z (XX k (XX j (XX p (XX A (XX y d))))));clear z k j p A y d;go_wp2_with fail;refine V.mono ?_;rintro e w8 ⟨a8,c8,m8,rfl,M,N,B,O,P⟩;obtain⟨z,k,j,p,A,y,d⟩:=H7.o;have f:=d.keep B y;clear C D E F G I J V e8;have W:=B.size;have H8:=Zh (XX M (XX N (XX B (XX O (XX P f)))));have y1:=f.frozen 1;have y2:=f.frozen 2;obtain⟨C,D,E,F,G,I,J⟩:=f.k7;clear z k j p A y d M N B O P f;go_upto_region 24 with fail;obtain⟨X,Q⟩:∃ x,(w8.setCell (aD t.heap.size 1) (.int .i64 (ns.length:Int))).setCell (aD t.heap.size 2) (.int .i64 ((ns.length:Int)+1))=x:=⟨_,rfl⟩
   obtain⟨z,k,j,p,A,y,d⟩:=H7.o;obtain⟨M,N,B,O,P,f⟩:=H8.o;have g9:GB X t.heap.size 36 #[.int .i64 5,.int .i64 (ns.length:Int),.int .i64 ((ns.length:Int)+1),.int .i64 Re,.slice Kw Fz.length Ky,.int .i64 (kn:Int),.slice NI Mq.length NJ]:=by rw[<- Q]; exact(f.set 1 _).set 2 _
   have Vb:Kept (fun b=>b≠t.heap.size) w8 X:=by rw[<- Q]; exact(Zn _ _ _ (fun h=>h rfl)).trans (Zn _ _ _ (fun h=>h rfl))
   obtain⟨a9,c9,Vd,hr,hL⟩:=vB WG.o U.o uw.o u.o.1 T.o Mr.o ⟨z,k,j,p,A⟩ ⟨M,N,B,O,P⟩ Vb (⟨5,(ns.length:Int),((ns.length:Int)+1),Re,⟨Kw,Ky,Fz⟩,(kn:Int),⟨NI,NJ,Mq⟩⟩:ah) (fun l Y=>Ve.o l (by rcases Y with rfl | rfl; exact .inl rfl; exact .inr rfl));simp only[ah.cells,aa.val]at hr;have Cj:=Zh hL;clear C D E F G I J;obtain⟨C,D,E,F,G,I,J⟩:=g9.k7;rw[Q];clear Q z k j p A y d M N B O P f g9 Vb hL y1 y2 L W;go_wp2_with (first | (at_builtin; refine X5 rfl (.tmp 112) (.tmp 114) 32 rfl (.slice a8 (ns.length+1+1) c8) (.slice (some (aD X.heap.size 0)) 1 1) (.slice a9 (ns.length+1+1+1) c9) Vd rfl rfl hr ?_));go_wp2;go_ret;exact⟨_,rfl,Cj.o⟩
  | false =>
   have h7:=R.o w6 _ ns nl other (WG.o.below U.o) (QS uw.o (by decide)) (fun b h=>Cg.o b (QS U.o.size h));obtain⟨C,D,E,F,G,I,J⟩:=S.o.k7;go_wp2_with fail;refine h7.mono ?_;rintro e w7 ⟨a7,c7,m7,rfl,z,k,j,p,A⟩;have d:=S.o.keep j Mr.o;clear C D E F G I J h7;obtain⟨C,D,E,F,G,I,J⟩:=d.k7;have L:=j.size;have y:(Value.slice a7 (ns.length+1) c7).ownBlock≠some t.heap.size:=fun e=>by
    rcases p with h | ⟨b,h,hb⟩
    ·exact Mr.o (h ▸ e)
    ·rw[h]at e;have:b=t.heap.size:=by simpa using e
     have:=T.o;omega
   have V:=R.o w7 (.slice a7 (ns.length+1) c7) (ns++[m7]) nr own k (by have:=ak.o; simp; omega) (fun b h=>Cg.o b (QS (QS U.o.size L) h));have e8:(ns++[m7]).length=ns.length+1:=by simp
   rw[e8]at V;have H7:=Zh (XX z (XX k (XX j (XX p (XX A (XX y d))))));clear z k j p A y d;go_wp2_with fail;refine V.mono ?_;rintro e w8 ⟨a8,c8,m8,rfl,M,N,B,O,P⟩;obtain⟨z,k,j,p,A,y,d⟩:=H7.o;have f:=d.keep B y;clear C D E F G I J V e8;have W:=B.size;have H8:=Zh (XX M (XX N (XX B (XX O (XX P f)))));have y1:=f.frozen 1;have y2:=f.frozen 2;obtain⟨C,D,E,F,G,I,J⟩:=f.k7;clear z k j p A y d M N B O P f;go_upto_region 24 with fail;obtain⟨X,Q⟩:∃ x,(w8.setCell (aD t.heap.size 1) (.int .i64 (ns.length:Int))).setCell (aD t.heap.size 2) (.int .i64 ((ns.length:Int)+1))=x:=⟨_,rfl⟩
   obtain⟨z,k,j,p,A,y,d⟩:=H7.o;obtain⟨M,N,B,O,P,f⟩:=H8.o;have g9:GB X t.heap.size 36 #[.int .i64 5,.int .i64 (ns.length:Int),.int .i64 ((ns.length:Int)+1),.int .i64 Re,.slice Kw Fz.length Ky,.int .i64 (kn:Int),.slice NI Mq.length NJ]:=by rw[<- Q]; exact(f.set 1 _).set 2 _
   have Vb:Kept (fun b=>b≠t.heap.size) w8 X:=by rw[<- Q]; exact(Zn _ _ _ (fun h=>h rfl)).trans (Zn _ _ _ (fun h=>h rfl))
   obtain⟨a9,c9,Vd,hr,hL⟩:=vB WG.o U.o uw.o u.o.1 T.o Mr.o ⟨z,k,j,p,A⟩ ⟨M,N,B,O,P⟩ Vb (⟨5,(ns.length:Int),((ns.length:Int)+1),Re,⟨Kw,Ky,Fz⟩,(kn:Int),⟨NI,NJ,Mq⟩⟩:ah) (fun l Y=>Ve.o l (by rcases Y with rfl | rfl; exact .inl rfl; exact .inr rfl));simp only[ah.cells,aa.val]at hr;have Cj:=Zh hL;clear C D E F G I J;obtain⟨C,D,E,F,G,I,J⟩:=g9.k7;rw[Q];clear Q z k j p A y d M N B O P f g9 Vb hL y1 y2 L W;go_wp2_with (first | (at_builtin; refine X5 rfl (.tmp 112) (.tmp 114) 32 rfl (.slice a8 (ns.length+1+1) c8) (.slice (some (aD X.heap.size 0)) 1 1) (.slice a9 (ns.length+1+1+1) c9) Vd rfl rfl hr ?_));go_wp2;go_ret;exact⟨_,rfl,Cj.o⟩
 ·have hoo:=ai.o;rw[Qv hs]at hoo;obtain⟨rfl,rfl⟩:=Prod.mk.inj hoo;have NM:(SV==s)=false:=by simpa using hs
  clear hoo ai hs
  cases first with
  | true =>
   have h7:=R.o w6 _ ns nl own (WG.o.below U.o) (QS uw.o (by decide)) (fun b h=>Cg.o b (QS U.o.size h));obtain⟨C,D,E,F,G,I,J⟩:=S.o.k7;go_wp2_with fail;refine h7.mono ?_;rintro e w7 ⟨a7,c7,m7,rfl,z,k,j,p,A⟩;have d:=S.o.keep j Mr.o;clear C D E F G I J h7;obtain⟨C,D,E,F,G,I,J⟩:=d.k7;have L:=j.size;have y:(Value.slice a7 (ns.length+1) c7).ownBlock≠some t.heap.size:=fun e=>by
    rcases p with h | ⟨b,h,hb⟩
    ·exact Mr.o (h ▸ e)
    ·rw[h]at e;have:b=t.heap.size:=by simpa using e
     have:=T.o;omega
   have V:=R.o w7 (.slice a7 (ns.length+1) c7) (ns++[m7]) nr other k (by have:=ak.o; simp; omega) (fun b h=>Cg.o b (QS (QS U.o.size L) h));have e8:(ns++[m7]).length=ns.length+1:=by simp
   rw[e8]at V;have H7:=Zh (XX z (XX k (XX j (XX p (XX A (XX y d))))));clear z k j p A y d;go_wp2_with fail;refine V.mono ?_;rintro e w8 ⟨a8,c8,m8,rfl,M,N,B,O,P⟩;obtain⟨z,k,j,p,A,y,d⟩:=H7.o;have f:=d.keep B y;clear C D E F G I J V e8;have W:=B.size;have H8:=Zh (XX M (XX N (XX B (XX O (XX P f)))));have y1:=f.frozen 1;have y2:=f.frozen 2;obtain⟨C,D,E,F,G,I,J⟩:=f.k7;clear z k j p A y d M N B O P f;go_upto_region 24 with fail;obtain⟨X,Q⟩:∃ x,(w8.setCell (aD t.heap.size 1) (.int .i64 (ns.length:Int))).setCell (aD t.heap.size 2) (.int .i64 ((ns.length:Int)+1))=x:=⟨_,rfl⟩
   obtain⟨z,k,j,p,A,y,d⟩:=H7.o;obtain⟨M,N,B,O,P,f⟩:=H8.o;have g9:GB X t.heap.size 36 #[.int .i64 5,.int .i64 (ns.length:Int),.int .i64 ((ns.length:Int)+1),.int .i64 Re,.slice Kw Fz.length Ky,.int .i64 (kn:Int),.slice NI Mq.length NJ]:=by rw[<- Q]; exact(f.set 1 _).set 2 _
   have Vb:Kept (fun b=>b≠t.heap.size) w8 X:=by rw[<- Q]; exact(Zn _ _ _ (fun h=>h rfl)).trans (Zn _ _ _ (fun h=>h rfl))
   obtain⟨a9,c9,Vd,hr,hL⟩:=vB WG.o U.o uw.o u.o.1 T.o Mr.o ⟨z,k,j,p,A⟩ ⟨M,N,B,O,P⟩ Vb (⟨5,(ns.length:Int),((ns.length:Int)+1),Re,⟨Kw,Ky,Fz⟩,(kn:Int),⟨NI,NJ,Mq⟩⟩:ah) (fun l Y=>Ve.o l (by rcases Y with rfl | rfl; exact .inl rfl; exact .inr rfl));simp only[ah.cells,aa.val]at hr;have Cj:=Zh hL;clear C D E F G I J;obtain⟨C,D,E,F,G,I,J⟩:=g9.k7;rw[Q];clear Q z k j p A y d M N B O P f g9 Vb hL y1 y2 L W;go_wp2_with (first | (at_builtin; refine X5 rfl (.tmp 112) (.tmp 114) 32 rfl (.slice a8 (ns.length+1+1) c8) (.slice (some (aD X.heap.size 0)) 1 1) (.slice a9 (ns.length+1+1+1) c9) Vd rfl rfl hr ?_));go_wp2;go_ret;exact⟨_,rfl,Cj.o⟩
  | false =>
   have h7:=R.o w6 _ ns nl other (WG.o.below U.o) (QS uw.o (by decide)) (fun b h=>Cg.o b (QS U.o.size h));obtain⟨C,D,E,F,G,I,J⟩:=S.o.k7;go_wp2_with fail;refine h7.mono ?_;rintro e w7 ⟨a7,c7,m7,rfl,z,k,j,p,A⟩;have d:=S.o.keep j Mr.o;clear C D E F G I J h7;obtain⟨C,D,E,F,G,I,J⟩:=d.k7;have L:=j.size;have y:(Value.slice a7 (ns.length+1) c7).ownBlock≠some t.heap.size:=fun e=>by
    rcases p with h | ⟨b,h,hb⟩
    ·exact Mr.o (h ▸ e)
    ·rw[h]at e;have:b=t.heap.size:=by simpa using e
     have:=T.o;omega
   have V:=R.o w7 (.slice a7 (ns.length+1) c7) (ns++[m7]) nr own k (by have:=ak.o; simp; omega) (fun b h=>Cg.o b (QS (QS U.o.size L) h));have e8:(ns++[m7]).length=ns.length+1:=by simp
   rw[e8]at V;have H7:=Zh (XX z (XX k (XX j (XX p (XX A (XX y d))))));clear z k j p A y d;go_wp2_with fail;refine V.mono ?_;rintro e w8 ⟨a8,c8,m8,rfl,M,N,B,O,P⟩;obtain⟨z,k,j,p,A,y,d⟩:=H7.o;have f:=d.keep B y;clear C D E F G I J V e8;have W:=B.size;have H8:=Zh (XX M (XX N (XX B (XX O (XX P f)))));have y1:=f.frozen 1;have y2:=f.frozen 2;obtain⟨C,D,E,F,G,I,J⟩:=f.k7;clear z k j p A y d M N B O P f;go_upto_region 24 with fail;obtain⟨X,Q⟩:∃ x,(w8.setCell (aD t.heap.size 1) (.int .i64 (ns.length:Int))).setCell (aD t.heap.size 2) (.int .i64 ((ns.length:Int)+1))=x:=⟨_,rfl⟩
   obtain⟨z,k,j,p,A,y,d⟩:=H7.o;obtain⟨M,N,B,O,P,f⟩:=H8.o;have g9:GB X t.heap.size 36 #[.int .i64 5,.int .i64 (ns.length:Int),.int .i64 ((ns.length:Int)+1),.int .i64 Re,.slice Kw Fz.length Ky,.int .i64 (kn:Int),.slice NI Mq.length NJ]:=by rw[<- Q]; exact(f.set 1 _).set 2 _
   have Vb:Kept (fun b=>b≠t.heap.size) w8 X:=by rw[<- Q]; exact(Zn _ _ _ (fun h=>h rfl)).trans (Zn _ _ _ (fun h=>h rfl))
   obtain⟨a9,c9,Vd,hr,hL⟩:=vB WG.o U.o uw.o u.o.1 T.o Mr.o ⟨z,k,j,p,A⟩ ⟨M,N,B,O,P⟩ Vb (⟨5,(ns.length:Int),((ns.length:Int)+1),Re,⟨Kw,Ky,Fz⟩,(kn:Int),⟨NI,NJ,Mq⟩⟩:ah) (fun l Y=>Ve.o l (by rcases Y with rfl | rfl; exact .inl rfl; exact .inr rfl));simp only[ah.cells,aa.val]at hr;have Cj:=Zh hL;clear C D E F G I J;obtain⟨C,D,E,F,G,I,J⟩:=g9.k7;rw[Q];clear Q z k j p A y d M N B O P f g9 Vb hL y1 y2 L W;go_wp2_with (first | (at_builtin; refine X5 rfl (.tmp 112) (.tmp 114) 32 rfl (.slice a8 (ns.length+1+1) c8) (.slice (some (aD X.heap.size 0)) 1 1) (.slice a9 (ns.length+1+1+1) c9) Vd rfl rfl hr ?_));go_wp2;go_ret;exact⟨_,rfl,Cj.o⟩
