import Derived.Test.YtjndadibondgbaaGreatDoorL21
set_option linter.all false
set_option maxRecDepth 100000
set_option maxHeartbeats 16000000
namespace Go.Proofs.Zz
open Go.RowKit Go.Shelf
variable {ts:List af} {db:List aN} {i:Nat} {ns:List ah} {n:ah}
theorem Pg(v:aN)(n:Int)(w:World)(hr:v.At w) :
  Ce 75 #[v.val,.int .i64 n] w (.bool (Dz v.rs n)):=by
 obtain⟨V,R,rs⟩:=v;unfold aN.val;simp only;have L:=hr.1;simp only at L;have H:Hid _:=hr;clear hr;go_enter Tryz.func75,Tryz.ntmps75;go_wp2;go_loopw [11] (fun i wr=>∃ k:Nat,k<=rs.length/\i=.int .i64 k/\Hid (Dz (rs.take k) n=true)/\w=wr) (fun i _=>rs.length-(intOf i).toNat)
 case atStart=>exact⟨0,Zf _,rfl,rfl,rfl⟩
 case round=>
  obtain⟨k,W,rfl,s,rfl⟩:=hrel;by_cases a:k<rs.length
  ·obtain⟨b,off,rfl,q⟩:=H.o.2.1.get a;have g:=q k a;have f:=H.o.2.2 k a;have z:Hid (yV (rs.getD k iz).xs n=false->false=Dz rs n):=fun h=>(Nn (p:=fun r:aa=>yV r.xs n) a h).symm
   have M:Hid (yV (rs.getD k iz).xs n=true->Dz (rs.take (k+1)) n=true):=fun h=>Ig (p:=fun r:aa=>yV r.xs n) a s.o h
   generalize rs.getD k iz=x at *;obtain⟨S,T,xs⟩:=x;simp only at *;have N:w.cell? (aD b (off+k))=some (.slice S xs.length T):=g;have A:=f.1;simp only at A;have O:Hid _:=f;clear g q f;by_cases t:(xs.length:Int)=n
   ·have B:((xs.length:Int) != n)=false:=by simpa using t
    go_wp2;go_loopw [21] (fun i wr=>∃ m:Nat,m<=xs.length/\i=.int .i64 m/\Hid ((xs.take m).all vP=true)/\w=wr) (fun i _=>xs.length-(intOf i).toNat)
    case atStart=>exact⟨0,Zf _,rfl,rfl,rfl⟩
    case round=>
     obtain⟨m,X,rfl,G,rfl⟩:=hrel;by_cases u:m<xs.length
     ·obtain⟨Y,U,rfl,I⟩:=O.o.get u;have P:=I m u;have j:Hid (vP (xs.getD m 0)=false->xs.all vP=false):=fun h=>Nn u h
      have l:Hid (vP (xs.getD m 0)=true->(xs.take (m+1)).all vP=true):=fun h=>Ig u G.o h
      generalize xs.getD m 0=y at *;clear I;by_cases e:y=1073741824
      ·have Q:(y != 1073741824)=false:=by simpa using e
       have d:Hid (vP y=true):=show _=_ by simp[vP,e]
       clear e;go_wp2;go_roundw
       case rel=>exact⟨m+1,by omega,by go_num,l.o d.o,trivial⟩
       case measure=>simp[intOf]; omega
      ·have Q:(y != 1073741824)=true:=by simpa using e
       by_cases J:-1000<=y
       ·by_cases K:y<=1000
        ·have d:Hid (vP y=true):=show _=_ by simp[vP,J,K]
         clear e;go_wp2;go_roundw
         case rel=>exact⟨m+1,by omega,by go_num,l.o d.o,trivial⟩
         case measure=>simp[intOf]; omega
        ·have d:=Zh (z.o (by unfold yV; rw[j.o (by simp[vP,e,K])]; simp));clear e;go_wp2;go_ret;exact⟨Qb d.o,rfl⟩
       ·have d:=Zh (z.o (by unfold yV; rw[j.o (by simp[vP,e,J])]; simp));clear e;go_wp2;go_ret;exact⟨Qb d.o,rfl⟩
     ·have C:m=xs.length:=by omega
      subst C;rw[Qw]at G;have D:=Zh (M.o (by unfold yV; rw[G.o]; simp[t]));go_wp2;go_roundw
      case rel=>exact⟨k+1,by omega,by go_num,D.o,trivial⟩
      case measure=>simp[intOf]; omega
   ·have B:((xs.length:Int) != n)=true:=by simpa using t
    have d:=Zh (z.o (by unfold yV; simp[t]));go_wp2;go_ret;exact⟨Qb d.o,rfl⟩
  ·have E:k=rs.length:=by omega
   subst E;rw[Qw]at s;have F:=Zh s.o.symm;clear s;go_wp2;go_ret;exact⟨Qb F.o,rfl⟩
theorem ET(co:Option Addr)(cc:Nat)(ts:List af)(d:Option Addr)(pE:Nat)(db:List aN)(w:World)(hts:bu w co ts)(lF:RG w d db) :
  Ce 44 #[.slice co ts.length cc,.slice d db.length pE] w (.bool (decide (db.length=ts.length)&&tJ ts db)):=by
 have C:=hts.1;have D:Hid _:=hts;have A:Hid _:=lF;clear hts lF;by_cases r:db.length=ts.length
 ·have t:((db.length:Int) != (ts.length:Int))=false:=by rw[r]; simp
  have l:(decide (db.length=ts.length)&&tJ ts db)=tJ ts db:=by simp[r]
  rw[l];have E:=Zh r;clear l r;go_enter Tryz.func44,Tryz.ntmps44;go_wp2;go_loopw [14] (fun i wr=>∃ k:Nat,k<=db.length/\i=.int .i64 k/\Hid ((List.range k).all (fun i=>xN (db.getD i rz) (ts.getD i tz))=true)/\w=wr) (fun i _=>db.length-(intOf i).toNat)
  case atStart=>exact⟨0,Zf _,rfl,rfl,rfl⟩
  case round=>
   obtain⟨k,L,rfl,z,rfl⟩:=hrel;by_cases f:k<db.length
   ·obtain⟨b,off,rfl,q⟩:=A.o.2.1.get f;have F:=q k f;have g:=A.o.2.2 k f;have m:k<ts.length:=by have:=E.o; omega
    obtain⟨M,H,rfl,t0,-,-,-,-,-⟩:=D.o.2 k m;have B:Hid (xN (db.getD k rz) (ts.getD k tz)=false->false=tJ ts db):=fun h=>(FT (p:=fun i=>xN (db.getD i rz) (ts.getD i tz)) f h).symm
    have G:Hid (xN (db.getD k rz) (ts.getD k tz)=true->(List.range (k+1)).all (fun i=>xN (db.getD i rz) (ts.getD i tz))=true):=fun h=>DC (p:=fun i=>xN (db.getD i rz) (ts.getD i tz)) z.o h
    generalize db.getD k rz=x at *;generalize (ts.getD k tz)=tt at *;have a:=Pg x tt.cols w g;obtain⟨N,O,xs⟩:=x;obtain⟨cols,I,P,Q,k2,k3⟩:=tt;unfold aN.val at *;simp only at *;have u:=g.1;simp only at u;clear q g;by_cases K:50<xs.length
    ·have n:=Zh (B.o (by unfold xN; simp; omega));go_wp2;go_ret;exact⟨Qb n.o,rfl⟩
    ·by_cases s:Dz xs cols=true
     ·have n:=Zh (G.o (by unfold xN; simp[s]; omega));rw[s]at a;clear s;go_wp2_with fail;refine a.mono ?_;rintro e J ⟨rfl,rfl⟩;go_wp2;go_roundw
      case rel=>exact⟨k+1,by omega,by go_num,n.o,trivial⟩
      case measure=>simp[intOf]; omega
     ·have j:Dz xs cols=false:=by simpa using s
      have n:=Zh (B.o (by unfold xN; simp[j]));rw[j]at a;clear s j;go_wp2_with fail;refine a.mono ?_;rintro e J ⟨rfl,rfl⟩;go_wp2;go_ret;exact⟨Qb n.o,rfl⟩
   ·have v:k=db.length:=by omega
    subst v;have y:Hid (true=tJ ts db):=z.o.symm;clear z;go_wp2;go_ret;exact⟨Qb y.o,rfl⟩
 ·have t:((db.length:Int) != (ts.length:Int))=true:=by simp; omega
  have l:(decide (db.length=ts.length)&&tJ ts db)=false:=by simp[r]
  rw[l];clear l;go_enter Tryz.func44,Tryz.ntmps44;go_wp2;go_ret;exact⟨rfl,rfl⟩
theorem aaa(s:aa)(d:Option Addr)(pE:Nat)(db:List aN)(ts:List af)(w:World)(hs:s.At w)(lF:RG w d db)(ha:aM s.xs db.length=true)(hl:s.xs.length<=5)(hB:tJ ts db=true) :
  Ce 45 #[s.val,.slice d db.length pE] w (.int .i64 (gm s.xs db)):=by
 obtain⟨H,I,src⟩:=s;unfold aa.val;simp only at *;have A:Hid _:=hs;have B:Hid _:=lF;have C:=Zh ha;have g:=Zh hB;clear hs lF ha hB;go_enter Tryz.func45,Tryz.ntmps45;go_wp2;go_loopw [5,10] (fun p i wr=>∃ k:Nat,k<=src.length/\i=.int .i64 k/\p=.int .i64 (gm (src.take k) db)/\w=wr) (fun _ i _=>src.length-(intOf i).toNat)
 case atStart=>exact⟨0,Zf _,rfl,rfl,rfl⟩
 case round=>
  obtain⟨k,J,rfl,rfl,rfl⟩:=hrel;by_cases a:k<src.length
  ·have G:=Qq C.o a;obtain⟨K,L,rfl,e⟩:=A.o.get a;have j:=e k a;have l:src[k].toNat<db.length:=by omega
   obtain⟨M,N,rfl,f⟩:=B.o.2.1.get l;have m:=f _ l;have D:=wL g.o hl k;have n:=wL g.o hl (k+1);have E:=Kj g.o src[k].toNat;rw[DD a]at n;have q:=Zh (DD (db:=db) a);have v:src.getD k 0=src[k]:=by simp[List.getD,a]
   rw[v]at j;generalize db.getD src[k].toNat rz=x at *;generalize gm (src.take k) db=p at *;generalize F:src[k]=ck at *;clear v e f F;obtain⟨z,rfl⟩:∃ z:Nat,ck=(z:Int):=⟨ck.toNat,by omega⟩
   simp only[ZY]at l m;obtain⟨O,P,xs⟩:=x;unfold aN.val at *;simp only at *;have b:((max 1 xs.length:Nat):Int)=if (1:Int)<(xs.length:Int) then (xs.length:Int) else 1:=by split <;> omega
   have y:wrap64 ((p:Int)*(if (1:Int)<(xs.length:Int) then (xs.length:Int) else 1))=((p*max 1 xs.length:Nat):Int):=by
    rw[<- b,<- Int.natCast_mul];unfold wrap64; omega
   have r:=Zh y;have t:Hid (wrap64 ((p:Int)*max 1 (xs.length:Int))=((p*max 1 xs.length:Nat):Int)):=by
    show _=_
    rw[show max 1 (xs.length:Int)=((max 1 xs.length:Nat):Int) by omega,<- Int.natCast_mul];unfold wrap64; omega
   clear y b;go_wp2;go_roundw
   case rel=>exact⟨k+1,by omega,by go_num,by rw[q.o]; first | exact congrArg (Value.int .i64) r.o | exact congrArg (Value.int .i64) t.o,trivial⟩
   case measure=>simp[intOf]; omega
  ·have u:k=src.length:=by omega
   subst u;rw[Qw];go_wp2;go_ret;exact⟨rfl,rfl⟩
theorem xw(co:Option Addr)(cc:Nat)(ts:List af)(q:ae)(d:Option Addr)(pE:Nat)(db:List aN)(w:World)(hts:bu w co ts)(hq:q.src.At w)(lF:RG w d db)(ha:aM q.src.xs ts.length=true)(hl:q.src.xs.length<=5) :
  Cb 28 #[.slice co ts.length cc,.agg q.cells,.slice d db.length pE] w (.int .i64 (if nW ts q.src.xs db then 0 else 4)):=by
 have a:=bV w (.cells q.cells 26);have i:=ET co cc ts d pE db _ (hts.below a) (lF.below a);have k:=a;have n:nW ts q.src.xs db=((decide (db.length=ts.length)&&tJ ts db)&&decide (gm q.src.xs db<=20000)):=rfl;by_cases s:(decide (db.length=ts.length)&&tJ ts db)=true
 ·have b:=s;simp only[Qo,QE]at b;have r:=aaa q.src d pE db ts _ (Qt a hq) (lF.below a) (by rw[b.1]; exact ha) hl b.2;rw[s]at i n;rw[n];have y:((gm q.src.xs db:Nat):Int) > 20000∨¬ ((gm q.src.xs db:Nat):Int) > 20000:=by omega
  have t:=Zh k;clear n s b a k hts lF ha hl hq;obtain⟨⟨z,A,src⟩,B,C,wh,j,f,g,u,l⟩:=q;unfold ae.cells aa.val at *;simp only at *;generalize gm src db=p at *;have D:(w.alloc (.cells #[.slice z src.length A,.slice B wh.length C,.bool j,.slice f.ad f.xs.length f.cap,.slice g.ad g.xs.length g.cap,.slice u.ad u.xs.length u.cap,.slice l.ad l.xs.length l.cap] 26)).cell? (aD w.heap.size 0)=some (.slice z src.length A):=by simp
  rcases y with y | y
  ·have m:(if (true&&decide (p<=20000))=true then (0:Int) else 4)=4:=by rw[Qv]; simp; omega
   rw[m];clear m;go_enter Tryz.func28,Tryz.ntmps28;go_wp2_with fail;refine i.mono ?_;rintro e v ⟨rfl,rfl⟩;go_wp2_with fail;refine r.mono ?_;rintro e v ⟨rfl,rfl⟩;go_wp2;go_ret;exact⟨rfl,t.o⟩
  ·have m:(if (true&&decide (p<=20000))=true then (0:Int) else 4)=0:=by rw[Qu]; simp; omega
   rw[m];clear m;go_enter Tryz.func28,Tryz.ntmps28;go_wp2_with fail;refine i.mono ?_;rintro e v ⟨rfl,rfl⟩;go_wp2_with fail;refine r.mono ?_;rintro e v ⟨rfl,rfl⟩;go_wp2;go_ret;exact⟨rfl,t.o⟩
 ·have b:(decide (db.length=ts.length)&&tJ ts db)=false:=by simpa using s
  rw[b]at i n;have m:(if nW ts q.src.xs db then (0:Int) else 4)=4:=by rw[n]; rfl
  rw[m];have t:=Zh k;clear n s b a k hts lF ha hl hq m;obtain⟨⟨z,A,src⟩,B,C,wh,j,f,g,u,l⟩:=q;unfold ae.cells aa.val at *;simp only at *;go_enter Tryz.func28,Tryz.ntmps28;go_wp2_with fail;refine i.mono ?_;rintro e v ⟨rfl,rfl⟩;go_wp2;go_ret;exact⟨rfl,t.o⟩
theorem agb(h:tJ ts db=true)(hi:i<db.length):(db.getD i rz).rs.length<=50/\∀ r∈(db.getD i rz).rs,(r.xs.length:Int)=(ts.getD i tz).cols:=by
 unfold tJ at h;rw[Qp]at h;have a:=h i (by simpa using hi);unfold xN Dz at a;simp only[Qo,QE]at a;refine⟨a.1,fun r d=>?_⟩;have b:=a.2;rw[Qp]at b;exact(ae9 (b r d)).1
theorem EU(h:tJ ts db=true)(t:Int):∀ r∈eQ db t,t.toNat<db.length/\(r.length:Int)=(ts.getD t.toNat tz).cols:=by
 intro r d;unfold eQ at d;obtain⟨x,a,rfl⟩:=ZU.1 d;by_cases b:t.toNat<db.length
 ·exact⟨b,(agb h b).2 x a⟩
 ·have:db.getD t.toNat rz=rz:=by simp[List.getD,b]
  rw[this]at a;simp[rz]at a
theorem Uk{src:List Int}(h:tJ ts db=true):∀ r∈aW src db,(r.length:Int)=ai ts src:=by
 have f:∀ (l:List Int) (T:List (List Int)) (m:Int),(∀ r∈T,(r.length:Int)=m)->∀ r∈(l.map (eQ db)).foldl dh T,(r.length:Int)=m+ai ts l:=by
  intro l
  induction l with
  | nil => intro T m e r b; have:=e r b; simp[ai]; exact this
  | cons a l ih =>
   intro T m e r b;have g:ai ts (a::l)=(ts.getD a.toNat tz).cols+ai ts l:=by simp[ai]
   have:=ih (dh T (eQ db a)) (m+(ts.getD a.toNat tz).cols) (fun x d=>by
    unfold dh at d;obtain⟨y,i,d⟩:=Xr.1 d;obtain⟨z,j,rfl⟩:=ZU.1 d;have k:=e y i;have n:=(EU h a z j).2;rw[ZC];omega) r b
   omega
 intro r b;unfold aW at b
 cases src with
 | nil => simp[nu]at b
 | cons a l =>
  have g:ai ts (a::l)=(ts.getD a.toNat tz).cols+ai ts l:=by simp[ai]
  have:=f l (eQ db a) (ts.getD a.toNat tz).cols (fun x d=>(EU h a x d).2) r b;omega
theorem Ph(L R:List (List Int)):(dh L R).length=L.length*R.length:=by
 unfold dh
 induction L with
 | nil => simp
 | cons a L ih => rw[QG,ZC,ih,ZB,Q7,Nat.succ_mul,Nat.add_comm]
theorem sF(src:List Int)(db:List aN):(aW src db).length<=gm src db:=by
 have b:∀ (l:List Int) (T:List (List Int)) (n:Nat),T.length<=n->((l.map (eQ db)).foldl dh T).length<=l.foldl (fun n t=>n*max 1 (db.getD t.toNat rz).rs.length) n:=by
  intro l
  induction l with
  | nil => intro T n h; exact h
  | cons a l ih =>
   intro T n h;refine ih (dh T (eQ db a)) _ ?_;rw[Ph,EF];exact Nat.mul_le_mul h (by omega)
 unfold aW gm
 cases src with
 | nil => simp[nu]
 | cons a l =>
  refine b l (eQ db a) _ ?_;rw[EF]
  show _<=1*max 1 _
  omega
theorem nM{α:Type}(a b:List α)(d:α)(i:Nat):(a++b).getD i d=if i<a.length then a.getD i d else b.getD (i-a.length) d:=by
 rw[Ja,List.getElem?_append];split <;> rw[Ja]
structure nC(n:ah)(i:Nat):Prop where
 lo:1<=n.kind
 hi:n.kind<=10
 more:jT n=true
 l:1<=arity n.kind->0<=n.l/\n.l<i
 r:2<=arity n.kind->0<=n.r/\n.r<i
theorem SY(n:ah)(i:Nat):dH n i=true↔nC n i:=by
 unfold dH;simp only[Qo,Z4,QE];constructor
 ·rintro⟨⟨⟨⟨a,e⟩,f⟩,b⟩,d⟩;exact⟨a,e,f,fun h=>by rcases b with b | b <;> omega,fun h=>by rcases d with d | d <;> omega⟩
 ·intro h;refine⟨⟨⟨⟨h.lo,h.hi⟩,h.more⟩,?_⟩,?_⟩
  ·by_cases a:1<=arity n.kind
   ·exact .inr (h.l a)
   ·exact .inl (by omega)
  ·by_cases a:2<=arity n.kind
   ·exact .inr (h.r a)
   ·exact .inl (by omega)
theorem Ec(k:Int):arity k<=2:=by unfold arity; split <;> (try split) <;> omega
def ins(n:ah):List Nat:=if arity n.kind=0 then [] else if arity n.kind=1 then [n.l.toNat] else [n.l.toNat,n.r.toNat]
def uC(ns:List ah)(k:Nat):Nat:=(ns.map fun n=>(ins n).count k).sum
theorem acb(h:nC (ns.getD i nz) i):inpN ns i=ins (ns.getD i nz):=by
 unfold inpN ins;simp only[];have d:=Ec (ns.getD i nz).kind;split
 ·rfl
 ·split
  ·rw[Qu (h.l (by omega))]
  ·have a:=h.l (by omega);have b:=h.r (by omega);rw[Qu ⟨a.1,a.2,b.1,b.2⟩]
theorem S9(ns:List ah)(f:ah->Nat):fE ns.length (fun i=>f (ns.getD i nz))=(ns.map f).sum:=by
 unfold fE;congr 1;apply XK
 ·simp
 ·intro i b a;rw[ZB]at a;simp[List.getD,a]
theorem acd(h:∀ i,i<ns.length->nC (ns.getD i nz) i)(k:Nat):fE ns.length (fun i=>(inpN ns i).count k)=uC ns k:=by
 unfold uC;rw[<- S9 ns (fun n=>(ins n).count k)];exact rE fun i a=>by rw[acb (h i a)]
theorem ace(a b:List ah)(k:Nat):uC (a++b) k=uC a k+uC b k:=by
 unfold uC;rw[Qn,List.sum_append]
theorem WT{k:Nat}(h:∀ n∈ns,k ∉ ins n):uC ns k=0:=by
 unfold uC
 induction ns with
 | nil => rfl
 | cons n ns ih =>
  rw[XH,Z8,ih (fun m a=>h m (List.mem_cons_of_mem _ a)),List.count_eq_zero_of_not_mem (h n List.mem_cons_self)]
theorem acf(h:nC n i):∀ k∈ins n,k<i:=by
 intro k a;unfold ins at a;split at a
 ·cases a
 ·split at a
  ·have:=h.l (by omega);simp only[Z5,List.not_mem_nil,or_false]at a;omega
  ·have b:=Ec n.kind;have d:=h.l (by omega);have e:=h.r (by omega);simp only[Z5,List.not_mem_nil,or_false]at a;omega
structure LQ(ts:List af)(q:ae)(ns:List ah)(ps:List bZ):Prop where
 len:ps.length=ns.length
 st:∀ i,i<ns.length->nC (ns.getD i nz) i
 fit:∀ i,i<ns.length->(kV (ns.getD i nz).kind (ed (ns.getD i nz) ps) (dV (ns.getD i nz) ps)&&bJ ts q (ns.getD i nz) (ed (ns.getD i nz) ps) (dV (ns.getD i nz) ps))=true
 part:∀ i,i<ns.length->ps.getD i pz=iB ts q (ns.getD i nz) (ed (ns.getD i nz) ps) (dV (ns.getD i nz) ps)
theorem LQ.nil(ts:List af)(q:ae):LQ ts q [] []:=⟨rfl,fun i a=>absurd a (by simp),fun i a=>absurd a (by simp),fun i a=>absurd a (by simp)⟩
theorem IP(h:nC n i){a b:List bZ}(e:∀ j,j<i->a.getD j pz=b.getD j pz):ed n a=ed n b/\dV n a=dV n b:=by
 unfold ed dV;constructor
 ·split
  ·rename_i h1
   have:=h.l h1;exact e _ (by omega)
  ·rfl
 ·split
  ·rename_i h1
   have:=h.r (by omega);exact e _ (by omega)
  ·rfl
theorem LQ.snoc{q:ae}{ps:List bZ}(h:LQ ts q ns ps)(hs:nC n ns.length)(hf:(kV n.kind (ed n ps) (dV n ps)&&bJ ts q n (ed n ps) (dV n ps))=true):LQ ts q (ns++[n]) (ps++[iB ts q n (ed n ps) (dV n ps)]):=by
 have far:∀ {m:ah} {i:Nat},nC m i->i<=ns.length->ed m (ps++[iB ts q n (ed n ps) (dV n ps)])=ed m ps/\dV m (ps++[iB ts q n (ed n ps) (dV n ps)])=dV m ps:=fun d a=>IP d fun j f=>by rw[nM,Qu (by rw[h.len]; omega)]
 have key:∀ i,i<(ns++[n]).length->(i<ns.length/\(ns++[n]).getD i nz=ns.getD i nz)∨(i=ns.length/\(ns++[n]).getD i nz=n):=fun i a=>by
  rw[ZC,ZX]at a;by_cases b:i<ns.length
  ·exact .inl ⟨b,by rw[nM,Qu b]⟩
  ·obtain rfl:i=ns.length:=by omega
   exact .inr ⟨rfl,by rw[nM,Qv b,XZ]; rfl⟩
 refine⟨by rw[ZC,ZC,h.len]; rfl,fun i a=>?_,fun i a=>?_,fun i a=>?_⟩
 ·rcases key i a with⟨h1,e⟩ | ⟨rfl,e⟩
  ·rw[e]; exact h.st i h1
  ·rw[e]; exact hs
 ·rcases key i a with⟨h1,e⟩ | ⟨rfl,e⟩
  ·rw[e,(far (h.st i h1) (by omega)).1,(far (h.st i h1) (by omega)).2]; exact h.fit i h1
  ·rw[e,(far hs (by omega)).1,(far hs (by omega)).2]; exact hf
 ·rcases key i a with⟨h1,e⟩ | ⟨rfl,e⟩
  ·rw[e,(far (h.st i h1) (by omega)).1,(far (h.st i h1) (by omega)).2,nM,Qu (by rw[h.len]; exact h1)]; exact h.part i h1
  ·rw[e,(far hs (by omega)).1,(far hs (by omega)).2,nM,Qv (by rw[h.len]; omega),h.len,XZ]; rfl
theorem LQ.parts{ts:List af}{q:ae}{ns:List ah}{ps:List bZ}(h:LQ ts q ns ps):∀ k,k<=ns.length->fB ts q ns k=some (ps.take k)
 | 0,_ => rfl
 | k+1,hk => by
  show (fB ts q ns k).bind (kX ts q (ns.getD k nz))=_
  rw[h.parts k (by omega)]
  show kX ts q (ns.getD k nz) (ps.take k)=_
  have hl:=h.len;obtain⟨e1,e2⟩:=IP (h.st k (by omega)) (a:=ps.take k) (b:=ps) (fun j hj=>by
   rw[Ja,ZW,Qu hj,Ja])
  unfold kX;rw[e1,e2,Qu (h.fit k (by omega)),<- h.part k (by omega),Qm (by omega)];rw[Ja,ZT (by omega)];rfl
def Jb:=@nM
theorem Ej(ts:List af)(q:ae)(l:List ah):∀ k,fB ts q (l.map bU) k=fB ts q l k
 | 0 => rfl
 | k+1 => by
  have hg:(l.map bU).getD k nz=bU (l.getD k nz):=by
   rw[Ja,ZR,Ja]
   cases l[k]? <;> rfl
  show (fB ts q (l.map bU) k).bind (kX ts q ((l.map bU).getD k nz))=(fB ts q l k).bind (kX ts q (l.getD k nz))
  rw[Ej ts q l k,hg];rfl
theorem IX(ts:List af)(q:ae)(l:List ah):fV ts q (l.map bU)=fV ts q l:=by
 have a:∀ i,(l.map bU).getD i nz=bU (l.getD i nz):=fun i=>by
  rw[Ja,ZR,Ja]
  cases l[i]? <;> rfl
 have b:∀ i,inpN (l.map bU) i=inpN l i:=fun i=>by
  unfold inpN;simp only[a];rfl
 have d:∀ n i,dH (bU n) i=dH n i:=fun _ _=>rfl
 have e:∀ n,(bU n).kind=n.kind:=fun _=>rfl
 have f:∀ n,(bU n).l=n.l:=fun _=>rfl
 have g:dI (l.map bU)=dI l:=by
  unfold dI yS;simp only[ZB,a,d,b]
 unfold fV;simp only[g,ZB,Ej,a,e,f]
