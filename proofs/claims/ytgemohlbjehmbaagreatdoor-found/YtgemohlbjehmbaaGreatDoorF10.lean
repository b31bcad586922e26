import Derived.Test.YtgemohlbjehmbaaGreatDoorF05
set_option linter.all false
set_option maxRecDepth 100000
set_option maxHeartbeats 16000000
namespace Go.Proofs.Zz
open Go.RowKit Go.Shelf
variable {base k n size:Nat} {w:World} {e:TypeId} {v:Value} {xs:List Int} {l:List Nat} {ts:List af} {q:ae}
def gF(w:World)(ao:Option Addr)(xs:List Nat):Prop:=
 xs.length<=1000/\bT w ao xs.length (λi=>.int .u64 ((xs.getD i 0:Nat):Int))
theorem gF.get{w:World}{ao:Option Addr}{xs:List Nat}(h:gF w ao xs){i:Nat}(hi:i<xs.length) :
  ∃ b a,ao=some (aD b a)/\∀ j,j<xs.length->w.cell? (aD b (a+j))=some (.int .u64 ((xs.getD j 0:Nat):Int)):=
 Qf h.2 hi
theorem gF.below{w w':World}(hb:Bw w w'){ao:Option Addr}{xs:List Nat}(h:gF w ao xs):gF w' ao xs:=⟨h.1,h.2.below hb⟩
def jf(w:World)(ao:Option Addr)(cs:List (Nat × Int)):Prop:=
 cs.length<=1000/\∀ i,i<cs.length->∃ b off,ao=some (aD b off)/\
  w.cell? (aD b (off+i*2))=some (.int .i64 ((cs.getD i (0,0)).1:Nat))/\w.cell? (aD b (off+i*2+1))=some (.int .u64 (cs.getD i (0,0)).2)
theorem jf.below{w w':World}(hb:Bw w w'){ao:Option Addr}{cs:List (Nat × Int)}(h:jf w ao cs):jf w' ao cs:=⟨h.1,λi d=>by
 obtain⟨b,a,e,f,g⟩:=h.2 i d;grind [cB]⟩
structure aC where
 ca:Option Addr
 cc:Nat
 ra:Option Addr
 rc:Nat
 na:Option Addr
 nl:Nat
 nc:Nat
 pa:Option Addr
 pl:Nat
 pc:Nat
def jK(ts:List af)(q:ae):List (Nat × Int):=dI ts q.src.xs q.src.xs.length
def CG(ts:List af)(q:ae):List Nat:=(List.range q.src.xs.length).map λ(k:Nat)=>qI ts q.src.xs (k:Int)
def aN(ts:List af)(q:ae):List Nat:=q.wh.map λc=>aB (dQ ts q.src.xs c.cs)
def xD(ts:List af)(q:ae):List Nat:=q.wh.map λc=>kE ts q.src.xs c.cs
def aC.cells(f:aC)(ts:List af)(q:ae):Array Value:=
 #[q.src.val,.slice q.dD q.wh.length q.aS,.bool q.group,q.keys.val,q.sums.val,q.bA.val,q.ord.val,.slice f.ca (jK ts q).length f.cc,.int .u64 ((2 ^ q.src.xs.length-1:Nat):Int),.int .u64 ((2 ^ q.wh.length-1:Nat):Int),
  .slice f.ra q.src.xs.length f.rc,.slice f.na f.nl f.nc,.slice f.pa f.pl f.pc]
structure aC.At(f:aC)(ts:List af)(q:ae)(w:World):Prop where
 query:q.At w
 aX:jf w f.ca (jK ts q)
 rows:gF w f.ra (CG ts q)
 conc:gF w f.na (aN ts q)
 parts:gF w f.pa (xD ts q)
 nl:f.nl=q.wh.length
 pl:f.pl=q.wh.length
theorem aC.At.below{w w':World}(hb:Bw w w'){f:aC}{ts:List af}{q:ae}(h:f.At ts q w):f.At ts q w':=
 ⟨h.query.below hb,h.aX.below hb,h.rows.below hb,h.conc.below hb,h.parts.below hb,h.nl,h.pl⟩
theorem VU(ts:List af)(q:ae):(CG ts q).length=q.src.xs.length:=by unfold CG; simp
theorem VV(ts:List af)(q:ae):(aN ts q).length=q.wh.length:=by unfold aN; simp
theorem Iy(ts:List af)(q:ae):(xD ts q).length=q.wh.length:=by unfold xD; simp
theorem Iz(ts:List af)(q:ae)(hk:k<q.src.xs.length):(CG ts q).getD k 0=qI ts q.src.xs (k:Int):=by unfold CG; simp_all
theorem Bn(ts:List af)(q:ae)(hk:k<q.wh.length):(aN ts q).getD k 0=aB (dQ ts q.src.xs (q.wh.getD k lz).cs):=by unfold aN; simp_all
theorem Bo(ts:List af)(q:ae)(hk:k<q.wh.length):(xD ts q).getD k 0=kE ts q.src.xs (q.wh.getD k lz).cs:=by unfold xD; simp_all
structure aH where
 kind:Int
 sources:Nat
 clauses:Nat
 order:ai
 size:Nat
 cost:Nat
def bE:aH:=⟨0,0,0,⟨none,0,[]⟩,0,0⟩
def aH.cells(p:aH):Array Value:=#[.int .i64 p.kind,.int .u64 (p.sources:Int),.int .u64 (p.clauses:Int),p.order.val,.int .u64 (p.size:Int),.int .u64 (p.cost:Int)]
def aH.list(p:aH):List Value:=[.int .i64 p.kind,.int .u64 (p.sources:Int),.int .u64 (p.clauses:Int),p.order.val,.int .u64 (p.size:Int),.int .u64 (p.cost:Int)]
def aH.d(p:aH):bK:=⟨p.kind,p.sources,p.clauses,p.order.xs,p.size,p.cost⟩
structure aH.Ok(p:aH)(w:World):Prop where
 order:p.order.At w
 cap:p.order.xs.length<=p.order.cap
 sources:p.sources<=dA
 clauses:p.clauses<=dA
 size:p.size<=dA
 cost:p.cost<=dA
theorem aH.Ok.below{w w':World}(hb:Bw w w'){p:aH}(h:p.Ok w):p.Ok w':=⟨Ql hb h.order,h.cap,h.sources,h.clauses,h.size,h.cost⟩
def PartsAt(w:World)(ao:Option Addr)(ps:List aH):Prop:=
 ps.length<=1000/\∀ i,i<ps.length->(∃ b off,ao=some (aD b off)/\
  w.cell? (aD b (off+i*6))=some (.int .i64 (ps.getD i bE).kind)/\w.cell? (aD b (off+i*6+1))=some (.int .u64 ((ps.getD i bE).sources:Int))/\
  w.cell? (aD b (off+i*6+2))=some (.int .u64 ((ps.getD i bE).clauses:Int))/\w.cell? (aD b (off+i*6+3))=some (ps.getD i bE).order.val/\
  w.cell? (aD b (off+i*6+4))=some (.int .u64 ((ps.getD i bE).size:Int))/\w.cell? (aD b (off+i*6+5))=some (.int .u64 ((ps.getD i bE).cost:Int)))/\(ps.getD i bE).Ok w
theorem PartsAt.below{w w':World}(hb:Bw w w'){ao:Option Addr}{ps:List aH}(h:PartsAt w ao ps):PartsAt w' ao ps:=⟨h.1,λi n=>by
 obtain⟨⟨b,a,e,d,f,g,j,k,l⟩,m⟩:=h.2 i n;exact⟨⟨b,a,e,cB hb d,cB hb f,cB hb g,cB hb j,cB hb k,cB hb l⟩,m.below hb⟩⟩
theorem flat_get{α:Type}(f:α->List Value)(k:Nat)(hk:∀ a,(f a).length=k)(d:α):∀ (l:List α) (i j:Nat),i<l.length->j<k->(l.flatMap f)[i*k+j]? = (f (l.getD i d))[j]?
 | [],i,j,h,_ => absurd h (by simp)
 | a::l,0,j,_,hj => by grind
 | a::l,i+1,j,h,hj => by
  have e:(i+1)*k+j=(f a).length+(i*k+j):=by grind
  rw[ZF,e,List.getElem?_append_right (Nat.le_add_right _ _),Nat.add_sub_cancel_left,flat_get f k hk d l i j (by simpa using h) hj];rfl
theorem lH{α:Type}(f:α->List Value)(k:Nat)(hk:∀ a,(f a).length=k):∀ l:List α,(l.flatMap f).length=l.length*k
 | [] => by simp
 | a::l => by rw[ZF,QP,hk,lH f k hk l,QV,Nat.succ_mul]; omega
theorem iR{xs:List Value}(h:w.ownsRow base e size v n xs) :
  (v=.slice none 0 0/\n=0)∨∃ g cap,v=.slice (some (aD g 0)) n cap/\base<=g/\g<w.heap.size/\∀ j u,xs[j]? = some u->w.cell? (aD g j)=some u:=by
 rcases h.2 with⟨rfl,h1⟩ | ⟨g,cap,cur,rfl,hb,hh,_,_,_,ht⟩
 ·simp_all
 ·refine .inr ⟨g,cap,rfl,hb,(Zb.1 hh).1,λj u a=>?_⟩;rw[<- ht,Zm]at a;split at a
  ·simp only[World.cell?,hh]
   simp_all
  ·cases a
theorem rQ{xs:List Nat}(h:w.ownsRow base e 1 v n (xs.map λ(x:Nat)=>.int .u64 (x:Int)))(hl:xs.length<=1000):∃ a cap,v=.slice a xs.length cap/\gF w a xs:=by
 have b:xs.length=n:=by have:=h.1; simp_all
 rcases iR h with⟨rfl,h0⟩ | ⟨g,cap,rfl,_,_,hc⟩
 ·grind [gF,bT]
 ·refine⟨some (aD g 0),cap,by rw[b],⟨hl,λi d=>⟨g,0,rfl,?_⟩⟩⟩
  simp_all
def kK(c:Nat × Int):List Value:=[.int .i64 (c.1:Int),.int .u64 c.2]
theorem Ef{cs:List (Nat × Int)}(h:w.ownsRow base e 2 v n (cs.flatMap kK))(hl:cs.length<=1000):∃ f cap,v=.slice f cs.length cap/\jf w f cs:=by
 have b:∀ a,(kK a).length=2:=λ_=>rfl;have j:cs.length=n:=by have:=h.1; rw[lH kK 2 b]at this; omega
 rcases iR h with⟨rfl,h0⟩ | ⟨g,cap,rfl,_,_,hc⟩
 ·grind [jf]
 ·refine⟨some (aD g 0),cap,by rw[j],⟨hl,λi d=>⟨g,0,rfl,?_,?_⟩⟩⟩
  ·rw[QL];exact hc (i*2) _ (by have:=flat_get kK 2 b (0,0) cs i 0 d (by omega); rw[ZG]at this; rw[this]; rfl)
  ·rw[QL];exact hc (i*2+1) _ (by rw[flat_get kK 2 b (0,0) cs i 1 d (by omega)]; rfl)
theorem Bp{ps:List aH}(h:w.ownsRow base e 6 v n (ps.flatMap aH.list))(hl:ps.length<=1000)(hp:∀ i,i<ps.length->(ps.getD i bE).Ok w):∃ f cap,v=.slice f ps.length cap/\PartsAt w f ps:=by
 have d:∀ a:aH,a.list.length=6:=λ_=>rfl;have j:ps.length=n:=by have:=h.1; rw[lH aH.list 6 d]at this; omega
 rcases iR h with⟨rfl,h0⟩ | ⟨g,cap,rfl,_,_,hc⟩
 ·have:ps=[]:=Zl (by omega);subst this;exact⟨none,0,rfl,⟨by simp,λi b=>absurd b (by simp)⟩⟩
 ·refine⟨some (aD g 0),cap,by rw[j],⟨hl,λi b=>⟨⟨g,0,rfl,?_,?_,?_,?_,?_,?_⟩,hp i b⟩⟩⟩ <;> rw[QL]
  ·exact hc (i*6) _ (by have:=flat_get aH.list 6 d bE ps i 0 b (by omega); rw[ZG]at this; rw[this]; rfl)
  ·exact hc (i*6+1) _ (by rw[flat_get aH.list 6 d bE ps i 1 b (by omega)]; rfl)
  ·exact hc (i*6+2) _ (by rw[flat_get aH.list 6 d bE ps i 2 b (by omega)]; rfl)
  ·exact hc (i*6+3) _ (by rw[flat_get aH.list 6 d bE ps i 3 b (by omega)]; rfl)
  ·exact hc (i*6+4) _ (by rw[flat_get aH.list 6 d bE ps i 4 b (by omega)]; rfl)
  ·exact hc (i*6+5) _ (by rw[flat_get aH.list 6 d bE ps i 5 b (by omega)]; rfl)
theorem jX{P:Program}(W:World)(base:Nat)(t ty e:TypeId)(i:TypeInfo)(z:Value)(size bytes:Nat)(ht:P.underlying t=some (.slice e))(hi:P.info? e=some i)(hz:i.zero=some z)(hsize:i.size=size)(hby:i.bytes=bytes)(hzs:z.cells.size=size)(hsz:0<size)
  (v:Value) (n:Nat) (xs:List Value) (hown:W.ownsRow base e size v n xs) (hb:base<=W.heap.size) (news:List Value) (hl:news.length=size) (h1:∀ u∈news,u.oneCell' = true) (hn:n<=1000) (hbb:bytes<=1000) :
  ∃ d w',(Builtin.append_ #[t,t] ty #[v,.slice (some (aD W.heap.size 0)) 1 1]).run P (W.alloc (.cells news.toArray e))=.ok d w'/\w'.ownsRow base e size d (n+1) (xs++news)/\Kept (λb=>v.ownBlock≠some b) W w'/\(∃ a m c,d = .slice a m c)/\(d.ownBlock=v.ownBlock∨d.ownBlock=some (W.heap.size+1)):=by
 obtain⟨d,w',f,g,k,_,l⟩:=Zw (P:=P) (W.alloc (.cells news.toArray e)) base t ty e i z size bytes ht hi hz hsize hby hzs hsz v n xs (hown.alloc _) (aD W.heap.size 0) 1 1 news (by omega)
  (λj u o=>by
   rw[Qx,QL];simp_all) h1 (by grind [maxLen]) (by have:(n+1)*bytes<=1001*1000:=Nat.mul_le_mul (by omega) hbb; omega) (by rw[ZA]; omega)
 exact⟨d,w',f,g,(Q9 _ _).trans (Zg k (λr e f=>f e)),Zk g,by simp_all⟩
def ZB:=@VV
def ZC:=@PartsAt.below
def ZE:=@flat_get
theorem abT(h:n<64):IntKind.u64.wrap ((2:Int) ^ n)=((2 ^ n:Nat):Int):=by
 have a:((2:Int) ^ n)=((2 ^ n:Nat):Int):=by simp
 have b:2 ^ n<2 ^ 64:=ZN (by omega) h;rw[a];generalize 2 ^ n=m at *;simp only[IntKind.wrap,IntKind.bits,IntKind.signed];simp;omega
theorem ai5{s:Nat}(hs:s<18446744073709551616)(h:n<64):bits BinOp.or IntKind.u64 (s:Int) (IntKind.u64.wrap ((2:Int) ^ n))=((s|||2 ^ n:Nat):Int):=by rw[abT h];exact u64_or_nat s (2 ^ n) hs (ZN (by omega) h)
theorem VX{l:List Int}(hk:k<l.length):aB (l.take (k+1))=aB (l.take k)|||2 ^ (l.getD k 0).toNat:=by
 have e:l.getD k 0=l[k]:=by simp[List.getD,hk]
 rw[Qh hk,VL,e]
theorem JU{l:List Int}(h:∀ x∈l,0<=x/\x<64)(k:Nat):aB (l.take k)<18446744073709551616:=nD (n:=64) (λx a=>h x (ZO a))
def orL(l:List Nat):Nat:=l.foldl (· ||| ·) 0
theorem Mg(hk:k<l.length):orL (l.take (k+1))=orL (l.take k)|||l.getD k 0:=by
 have e:l.getD k 0=l[k]:=by simp[List.getD,hk]
 rw[Qh hk,e];unfold orL;rw[ZP];rfl
theorem ai6(h:∀ x∈l,x<18446744073709551616):∀ k,orL (l.take k)<18446744073709551616:=λk=>by
 induction k with
 | zero => simp[orL]
 | succ k ih =>
  by_cases a:k<l.length
  ·rw[Mg a];have:l.getD k 0<18446744073709551616:=by
    have e:l.getD k 0=l[k]:=by simp[List.getD,a]
    rw[e]; exact h _ (ZQ a)
   exact ZR (n:=64) ih this
  ·rw[ZT (by omega)];rw[ZT (by omega)]at ih;exact ih
theorem mQ(a b:Nat)(ha:a<18446744073709551616)(hb:b<18446744073709551616)(w:World) :
  Ce 83 #[.int .u64 (a:Int),.int .u64 (b:Int)] w (.bool (aU a b)):=by have d:=u64_andNot_nat b a hb ha;go_enter Tryz.func83,Tryz.ntmps83;go_wp2;go_ret;refine⟨Qd ?_,rfl⟩;unfold aU;grind
theorem IC(a b:Nat)(ha:a<18446744073709551616)(hb:b<18446744073709551616)(w:World) :
  Ce 141 #[.int .u64 (a:Int),.int .u64 (b:Int)] w (.bool (decide (a &&& b≠0))):=by have d:=u64_and_nat a b ha hb;go_enter Tryz.func141,Tryz.ntmps141;go_wp2;go_ret;refine⟨Qd ?_,rfl⟩;grind
theorem P7(s n:Nat)(hs:s<18446744073709551616)(hn:n<64)(w:World) :
  Ce 87 #[.int .u64 (s:Int),.int .i64 n] w (.bool (s.testBit n)):=by
 go_enter Tryz.func87,Tryz.ntmps87;go_wp2;go_ret;refine⟨Qd ?_,rfl⟩;have b:((s:Int) / 2 ^ n)=((s / 2 ^ n:Nat):Int):=by simp
 have a:s / 2 ^ n<18446744073709551616:=Nat.lt_of_le_of_lt (Nat.div_le_self _ _) hs;have d:=u64_and_nat (s / 2 ^ n) 1 a (by omega);grind
theorem Mh(n:Nat)(hn:n<64)(w:World) :
  Ce 54 #[.int .i64 n] w (.int .u64 ((2 ^ n-1:Nat):Int)):=by
 go_enter Tryz.func54,Tryz.ntmps54;go_wp2;go_ret;refine⟨Qe ?_,rfl⟩;have a:((2:Int) ^ n)=((2 ^ n:Nat):Int):=by simp
 have b:2 ^ n<2 ^ 64:=ZN (by omega) hn;have d:0<2 ^ n:=ZU (by omega);rw[a];generalize 2 ^ n=m at *;simp only[IntKind.wrap,IntKind.bits,IntKind.signed];simp;omega
theorem IE(ao:Option Addr)(cap:Nat)(xs:List Int)(w:World)(hx:aM w ao xs)(hs:∀ x∈xs,0<=x/\x<64) :
  Ce 53 #[.slice ao xs.length cap] w (.int .u64 ((aB xs:Nat):Int)):=by
 have v:=hx.1;have i:Hid _:=hx;have f:=Zh hs;have j:Hid (aB (xs.take xs.length)=aB xs):=by show _=_; rw[QT]
 clear hx hs;go_enter Tryz.func53,Tryz.ntmps53;go_wp2;go_loopw [3,8] (λu iv wr=>∃ k:Nat,k<=xs.length/\iv=.int .i64 k/\(∃ s:Nat,u=.int .u64 (s:Int)/\Hid (s=aB (xs.take k)))/\wr=w) (λ_ iv _=>xs.length-(intOf iv).toNat)
 case atStart=>exact⟨0,QK _,rfl,⟨0,rfl,rfl⟩,rfl⟩
 case round=>
  obtain⟨k,y,rfl,⟨s,rfl,hs⟩,rfl⟩:=hrel;by_cases a:k<xs.length
  ·obtain⟨b,t,rfl,g⟩:=Qg i.o a;have l:=g k a;have m:=f.o _ (Zr a (d:=0));have p:=Zh (VX a);have e:s<18446744073709551616:=by rw[hs.o]; exact JU f.o k
   clear g;generalize xs.getD k 0=x at *;obtain⟨n,rfl⟩:=ZV m.1;have q:n<64:=by omega
   go_wp2;go_roundw
   case rel=>exact⟨k+1,by omega,by go_num,⟨s|||2 ^ n,by rw[ai5 e q],by show _=_; rw[p.o,hs.o]; rfl⟩,trivial⟩
   case measure=>simp[intOf]; omega
  ·obtain rfl:k=xs.length:=by omega
   have r:=Zh (hs.o.trans j.o);clear hs;go_wp2;go_ret;exact⟨Qe (by rw[r.o]),rfl⟩
theorem VY(ao:Option Addr)(cap:Nat)(xs:List Nat)(w:World)(hx:gF w ao xs)(hs:∀ x∈xs,x<18446744073709551616) :
  Ce 91 #[.slice ao xs.length cap] w (.int .u64 ((orL xs:Nat):Int)):=by
 have u:=hx.1;have i:Hid _:=hx;have f:=Zh hs;have j:Hid (orL (xs.take xs.length)=orL xs):=by show _=_; rw[QT]
 clear hx hs;go_enter Tryz.func91,Tryz.ntmps91;go_wp2;go_loopw [3,8] (λt iv wr=>∃ k:Nat,k<=xs.length/\iv=.int .i64 k/\(∃ s:Nat,t=.int .u64 (s:Int)/\Hid (s=orL (xs.take k)))/\wr=w) (λ_ iv _=>xs.length-(intOf iv).toNat)
 case atStart=>exact⟨0,QK _,rfl,⟨0,rfl,rfl⟩,rfl⟩
 case round=>
  obtain⟨k,v,rfl,⟨s,rfl,hs⟩,rfl⟩:=hrel;by_cases a:k<xs.length
  ·obtain⟨b,r,rfl,g⟩:=gF.get i.o a;have l:=g k a;have m:=f.o _ (Zr a (d:=0));have n:=Zh (Mg a);have e:s<18446744073709551616:=by rw[hs.o]; exact ai6 f.o k
   clear g;generalize xs.getD k 0=x at *;have p:=u64_or_nat s x e m;go_wp2;go_roundw
   case rel=>exact⟨k+1,by omega,by go_num,⟨s|||x,rfl,by show _=_; rw[n.o,hs.o]⟩,trivial⟩
   case measure=>simp[intOf]; omega
  ·obtain rfl:k=xs.length:=by omega
   have q:=Zh (hs.o.trans j.o);clear hs;go_wp2;go_ret;exact⟨Qe (by rw[q.o]),rfl⟩
theorem kW(b:Nat)(x y:Nat)(w:World)(h0:w.cell? (aD b 0)=some (.int .u64 (x:Int)))(h1:w.cell? (aD b 1)=some (.int .u64 (y:Int)))(hx:x<18446744073709551616)(hy:y<18446744073709551616) :
  Ce 91 #[.slice (some (aD b 0)) 2 2] w (.int .u64 ((x|||y:Nat):Int)):=by
 have h:=VY (some (aD b 0)) 2 [x,y] w ⟨by simp,λi a=>⟨b,0,rfl,by
  grind⟩⟩ (λz hz=>by
  grind)
 have e:orL [x,y]=x|||y:=by unfold orL; simp
 rw[e]at h;exact h
theorem vS(b:Nat)(n:Nat)(w:World)(h0:w.cell? (aD b 0)=some (.int .i64 (n:Int)))(hn:n<64) :
  Ce 53 #[.slice (some (aD b 0)) 1 1] w (.int .u64 ((2 ^ n:Nat):Int)):=by
 have h:=IE (some (aD b 0)) 1 [(n:Int)] w ⟨by simp,λi a=>⟨b,0,rfl,by
  grind⟩⟩ (λz hz=>by rw[Zy]at hz; omega)
 rw[rP]at h;exact h
theorem zC(k:Int)(w:World):Ce 67 #[.int .i64 k] w (.bool (dW k)):=by
 have b:dW k=(decide (k=7) || decide (k=8) || decide (k=9) || decide (k=10)):=by unfold dW;grind
 by_cases e:k=7
 ·subst e;go_enter Tryz.func67,Tryz.ntmps67;go_wp2;go_ret;exact⟨rfl,rfl⟩
 by_cases f:k=8
 ·subst f;go_enter Tryz.func67,Tryz.ntmps67;go_wp2;go_ret;exact⟨rfl,rfl⟩
 by_cases g:k=9
 ·subst g;go_enter Tryz.func67,Tryz.ntmps67;go_wp2;go_ret;exact⟨rfl,rfl⟩
 by_cases a:k=10
 ·subst a;go_enter Tryz.func67,Tryz.ntmps67;go_wp2;go_ret;exact⟨rfl,rfl⟩
 have d:Hid (dW k=false):=by show _=_; grind
 clear b;go_enter Tryz.func67,Tryz.ntmps67;go_wp2;go_ret;exact⟨Qd d.o.symm,rfl⟩
theorem VZ:∀ (f x:Nat),x<=f->x<2 ^ 64->l9 x=Lib.bitLen x:=by
 intro f
 induction f with
 | zero =>
  intro x a _;obtain rfl:x=0:=by omega
  rw[xV];rfl
 | succ f ih =>
  intro x a h;by_cases b:x=0
  ·grind
  ·rw[Ip (by omega),Lib.bitLen_half x b h,ih (x / 2) (by omega) (by omega),Nat.add_comm]
theorem P8(x:Nat)(h:x<2 ^ 64):l9 x<=64:=by
 have key:∀ (f x:Nat),x<2 ^ f->l9 x<=f:=by
  intro f
  induction f with
  | zero =>
   intro x a;obtain rfl:x=0:=by omega
   rw[xV]; omega
  | succ f ih =>
   intro x a;by_cases b:x=0
   ·subst b; rw[xV]; omega
   ·rw[Ip (by omega)]
    grind
 exact key 64 x h
theorem zD(l:List Nat):jk l<=dA:=by rw[vR]; exact Nat.min_le_right _ _
theorem abV(hk:k<l.length):(l.take (k+1)).sum=(l.take k).sum+l.getD k 0/\(l.take (k+1)).sum<=l.sum:=by
 have e:l.getD k 0=l[k]:=by simp[List.getD,hk]
 refine⟨by rw[Qh hk,e,List.sum_append]; simp,?_⟩;have h:l.sum=(l.take (k+1)).sum+(l.drop (k+1)).sum:=by rw[<- List.sum_append,ZX]
 omega
theorem V3{l:List Nat}{k:Nat}(hk:k<l.length)(h:dA-jk (l.take k)<l.getD k 0):jk l=dA:=by obtain⟨a,b⟩:=abV hk;rw[vR]at h ⊢;omega
theorem P9{l:List Nat}{k:Nat}(hk:k<l.length)(h:¬ dA-jk (l.take k)<l.getD k 0):jk (l.take (k+1))=jk (l.take k)+l.getD k 0:=by
 have e:l.getD k 0=l[k]:=by simp[List.getD,hk]
 have a:jk (l.take (k+1))=fZ (jk (l.take k)) (l.getD k 0):=by rw[Qh hk,e];unfold jk;rw[ZP];rfl
 have:=zD (l.take k);rw[a];unfold fZ;omega
theorem V4{a b:Nat}(h:0<a*b / 18446744073709551616):fU a b=18446744073709551615:=by unfold fU dA;omega
theorem V5{a b:Nat}(h:¬ 0<a*b / 18446744073709551616):fU a b=a*b % 18446744073709551616:=by unfold fU dA;omega
theorem Ra(w:World)(xs:List Nat)(t:TypeId)(hl:xs.length<=1000):gF (w.alloc (.cells (xs.map λ(x:Nat)=>Value.int .u64 (x:Int)).toArray t)) (some (aD w.heap.size 0)) xs:=by refine⟨hl,λi a=>⟨w.heap.size,0,rfl,?_⟩⟩;simp only[World.cell?,qH w _];simp[List.getD,a]
def Tryz.Mi:Go.Shelf.Ren:=⟨fun | 129=>165 | 264=>164 | n=>n,fun | 3=>3 | 4=>4 | 5=>5 | 9=>9 | 46=>63 | 53=>35 | n=>n,fun | n=>n⟩
theorem Tryz.anJ:Go.Proofs.Lays.n129 Tryz.prog Tryz.Mi:={
 mixed:=by kernel_rfl
 f129:=Tryz.func165.trans (congrArg some (by kernel_rfl))
 t3:=Tryz.underlying3
 a3:=Tryz.isAgg3
 z3:=Tryz.sizeOf3
 v3:=Tryz.zeroValue3
 t4:=Tryz.underlying4
 a4:=Tryz.isAgg4
 z4:=Tryz.sizeOf4
 v4:=Tryz.zeroValue4
 t5:=Tryz.underlying5
 a5:=Tryz.isAgg5
 z5:=Tryz.sizeOf5
 v5:=Tryz.zeroValue5
 t9:=Tryz.underlying9
 a9:=Tryz.isAgg9
 z9:=Tryz.sizeOf9
 v9:=Tryz.zeroValue9
 t46:=Tryz.underlying63
 a46:=Tryz.isAgg63
 z46:=Tryz.sizeOf63
 v46:=Tryz.zeroValue63
 t53:=Tryz.underlying35
 a53:=Tryz.isAgg35
 z53:=Tryz.sizeOf35
 v53:=Tryz.zeroValue35 }
theorem Tryz.anK:Go.Proofs.Lays.n264 Tryz.prog Tryz.Mi:={
 mixed:=by kernel_rfl
 f264:=Tryz.func164.trans (congrArg some (by kernel_rfl))
 t46:=Tryz.underlying63
 a46:=Tryz.isAgg63
 z46:=Tryz.sizeOf63
 v46:=Tryz.zeroValue63
 t53:=Tryz.underlying35
 a53:=Tryz.isAgg35
 z53:=Tryz.sizeOf35
 v53:=Tryz.zeroValue35 }
theorem V6(x:Nat)(w:World)(hx:x<=dA):Ce 165 #[.int .u64 (x:Int)] w (.int .i64 (l9 x:Nat)):=by
 have h:=Go.Proofs.Any.bits_Len64 Tryz.anJ (x:Int) w (by omega) (by unfold dA at hx; omega);have e:Lib.bitLen (x:Int).toNat=l9 x:=by rw[ZY]; exact(VZ x x (Qn _) (by unfold dA at hx; omega)).symm
 rw[e]at h;exact h
theorem V7(x y:Nat)(w:World)(hx:x<=dA)(hy:y<=dA):Ce 164 #[.int .u64 (x:Int),.int .u64 (y:Int)] w (.tuple #[.int .u64 ((x*y / 18446744073709551616:Nat):Int),.int .u64 ((x*y % 18446744073709551616:Nat):Int)]):=
 Go.Proofs.Any.bits_Mul64 Tryz.anK x y (by unfold dA at hx; omega) (by unfold dA at hy; omega) w
theorem xX(a b:Nat)(w:World)(ha:a<=dA)(hb:b<=dA):Ce 142 #[.int .u64 (a:Int),.int .u64 (b:Int)] w (.int .u64 (fU a b:Nat)):=by
 have d:=V7 a b w ha hb;have f:Hid _:=@V4 a b;have g:Hid _:=@V5 a b;generalize a*b / 18446744073709551616=hi at *;generalize a*b % 18446744073709551616=lo at *;generalize fU a b=t at *;clear ha hb;go_enter Tryz.func142,Tryz.ntmps142;go_wp2_with fail;refine d.mono ?_;clear d;rintro e i ⟨rfl,rfl⟩;by_cases h:0<hi
 ·go_wp2;go_ret;exact⟨Qe (by rw[f.o h]; rfl),rfl⟩
 ·go_wp2;go_ret;exact⟨Qe (by rw[g.o h]),rfl⟩
theorem aff(ao:Option Addr)(cap:Nat)(xs:List Nat)(w:World)(hx:gF w ao xs)(hs:∀ x∈xs,x<=dA) :
  Ce 143 #[.slice ao xs.length cap] w (.int .u64 (jk xs:Nat)):=by
 have y:=hx.1;have m:Hid _:=hx;have n:Hid _:=hs;have p:Hid (jk (xs.take xs.length)=jk xs):=by show _=_; rw[QT]
 clear hx hs;go_enter Tryz.func143,Tryz.ntmps143;go_wp2;go_loopw [3,8] (λv iv wr=>∃ k:Nat,k<=xs.length/\iv=.int .i64 k/\(∃ s:Nat,v=.int .u64 (s:Int)/\Hid (s=jk (xs.take k)))/\wr=w) (λ_ iv _=>xs.length-(intOf iv).toNat)
 case atStart=>exact⟨0,QK _,rfl,⟨0,rfl,rfl⟩,rfl⟩
 case round=>
  obtain⟨k,z,rfl,⟨s,rfl,hs⟩,rfl⟩:=hrel;by_cases a:k<xs.length
  ·obtain⟨b,u,rfl,l⟩:=gF.get m.o a;have q:=l k a;have j:=n.o _ (Zr a (d:=0));have f:Hid _:=@V3 xs k a;have g:Hid _:=@P9 xs k a;have r:s<=18446744073709551615:=by rw[hs.o]; exact zD _
   rw[<- hs.o]at f g;have t:xs.getD k 0<=18446744073709551615:=j;clear l j;generalize xs.getD k 0=x at *;by_cases e:18446744073709551615-s<x
   ·have i:Hid (jk xs=18446744073709551615):=f.o e;clear f g hs;go_wp2;go_ret;exact⟨Qe (by rw[i.o]; rfl),rfl⟩
   ·have i:Hid _:=g.o e;clear f g hs;go_wp2;go_roundw
    case rel=>grind
    case measure=>simp[intOf]; omega
  ·obtain rfl:k=xs.length:=by omega
   have i:Hid (s=jk xs):=hs.o.trans p.o;clear hs;go_wp2;go_ret;exact⟨Qe (by rw[i.o]),rfl⟩
theorem Eg(w:World)(xs:List Nat)(hl:xs.length<=1000)(hs:∀ x∈xs,x<=dA) :
  Calls Tryz.prog 143 #[.slice (some (aD w.heap.size 0)) xs.length xs.length] (w.alloc (.cells (xs.map λ(x:Nat)=>Value.int .u64 (x:Int)).toArray 35)) λe w'=>e=.returned (.int .u64 (jk xs:Nat))/\w' = w.alloc (.cells (xs.map λ(x:Nat)=>Value.int .u64 (x:Int)).toArray 35):=
 aff _ _ xs _ (Ra w xs _ hl) hs
theorem ai7(w:World)(a b:Nat)(ha:a<=dA)(hb:b<=dA) :
  Calls Tryz.prog 143 #[.slice (some (aD w.heap.size 0)) 2 2] (w.alloc (.cells #[.int .u64 (a:Int),.int .u64 (b:Int)] 35)) λe w'=>e=.returned (.int .u64 (jk [a,b]:Nat))/\Bw w w':=
 (Eg w [a,b] (by simp) (λx d=>by grind)).mono λ_ _ ⟨h1,h2⟩=>⟨h1,by rw[h2]; exact fq _ _⟩
theorem ai8(w:World)(a b c:Nat)(ha:a<=dA)(hb:b<=dA)(hc:c<=dA) :
  Calls Tryz.prog 143 #[.slice (some (aD w.heap.size 0)) 3 3] (w.alloc (.cells #[.int .u64 (a:Int),.int .u64 (b:Int),.int .u64 (c:Int)] 35)) λe w'=>e=.returned (.int .u64 (jk [a,b,c]:Nat))/\Bw w w':=
 (Eg w [a,b,c] (by simp) (λx d=>by grind)).mono λ_ _ ⟨h1,h2⟩=>⟨h1,by rw[h2]; exact fq _ _⟩
theorem atZ(w:World)(a b c d:Nat)(ha:a<=dA)(hb:b<=dA)(hc:c<=dA)(hd:d<=dA) :
  Calls Tryz.prog 143 #[.slice (some (aD w.heap.size 0)) 4 4] (w.alloc (.cells #[.int .u64 (a:Int),.int .u64 (b:Int),.int .u64 (c:Int),.int .u64 (d:Int)] 35)) λe w'=>e=.returned (.int .u64 (jk [a,b,c,d]:Nat))/\Bw w w':=
 (Eg w [a,b,c,d] (by simp) (λx f=>by grind)).mono λ_ _ ⟨h1,h2⟩=>⟨h1,by rw[h2]; exact fq _ _⟩
theorem JV(k:Int)(l r s:Nat)(w:World)(hl:l<=dA)(hr:r<=dA)(hs:s<=dA) :
  Cb 144 #[.int .i64 k,.int .u64 (l:Int),.int .u64 (r:Int),.int .u64 (s:Int)] w (.int .u64 (xA k l r s:Nat)):=by
 by_cases f:k=4
 ·subst f;have h:=atZ w l r r s hl hr hr hs;have a:xA 4 l r s=jk [l,r,r,s]:=rfl;rw[a];generalize jk [l,r,r,s]=x at *;clear hl hr hs a;go_enter Tryz.func144,Tryz.ntmps144;go_wp2_with fail;refine h.mono ?_;clear h;rintro e d ⟨rfl,b⟩;go_wp2;go_ret;exact⟨rfl,b⟩
 by_cases g:k=5
 ·subst g;have h:=ai8 w l r s hl hr hs;have a:xA 5 l r s=jk [l,r,s]:=rfl;rw[a];generalize jk [l,r,s]=x at *;clear hl hr hs a;go_enter Tryz.func144,Tryz.ntmps144;go_wp2_with fail;refine h.mono ?_;clear h;rintro e d ⟨rfl,b⟩;go_wp2;go_ret;exact⟨rfl,b⟩
 have h:=xX l r w hl hr;have a:xA k l r s=fU l r:=by unfold xA; rw[Qu f,Qu g]
 rw[a];generalize fU l r=x at *;clear hl hr hs a;go_enter Tryz.func144,Tryz.ntmps144;go_wp2_with fail;refine h.mono ?_;clear h;rintro e d ⟨rfl,rfl⟩;go_wp2;go_ret;exact⟨rfl,Qm _ _⟩
theorem JW(l:Nat)(w:World)(hl:l<=dA) :
  Ce 145 #[.int .u64 (l:Int)] w (.int .u64 (fU l (l9 l+1):Nat)):=by have a:=V6 l w hl;have d:l9 l<=64:=P8 l (by unfold dA at hl; omega);have b:=xX l (l9 l+1) w hl (by unfold dA; omega);generalize l9 l=n at *;generalize fU l (n+1)=x at *;clear hl;go_enter Tryz.func145,Tryz.ntmps145;go_wp2_with fail;refine a.mono ?_;clear a;rintro e f ⟨rfl,rfl⟩;go_wp2_with fail;refine b.mono ?_;clear b;rintro e g ⟨rfl,rfl⟩;go_wp2;go_ret;exact⟨rfl,rfl⟩
theorem aM.take{ao:Option Addr}(h:aM w ao xs)(k:Nat):aM w ao (xs.take k):=by refine⟨by have:=h.1; rw[ZZ]; omega,λi d=>?_⟩;rw[ZZ]at d;obtain⟨b,a,e,f⟩:=h.2 i (by omega);grind
theorem Mj{l:List Int}{k:Nat}(hk:k<l.length)(h:l.getD k 0≠k):qJ l=false:=by unfold qJ;grind
theorem Mk{l:List Int}(h:∀ i,i<l.length->l.getD i 0=i):qJ l=true:=by unfold qJ;grind
theorem V8(ao:Option Addr)(cap:Nat)(xs:List Int)(v:Int)(w:World)(hx:aM w ao xs) :
  Calls Tryz.prog 148 #[.slice ao xs.length cap,.int .i64 v] w λe w'=>∃ r:Int,e=.returned (.int .i64 r)/\Hid (0<=r↔v∈xs)/\w' = w:=by
 have s:=hx.1;go_enter Tryz.func148,Tryz.ntmps148;go_wp2;go_loop [8] (λi=>∃ k:Nat,k<=xs.length/\i=.int .i64 k/\v ∉ xs.take k) (λi=>xs.length-(intOf i).toNat)
 case atStart=>grind
 case round=>
  obtain⟨k,t,rfl,d⟩:=hrel;by_cases a:k<xs.length
  ·obtain⟨b,q,rfl,n⟩:=hx.get a;have p:=n k a;have l:=Zh (Gy (v:=v) a);have g:Hid _:=d;have m:Hid (xs.getD k 0∈xs):=by grind
   clear n hx d;obtain⟨x,f⟩:=eY (xs.getD k 0);rw[<- f]at p l m;clear f;by_cases hv:v=x
   ·have j:(v==x)=true:=by simp[hv]
    go_wp2;go_ret;exact⟨k,rfl,⟨λ_=>m.o,λ_=>by omega⟩,rfl⟩
   ·have j:(v==x)=false:=by simp[hv]
    go_wp2;go_round
    case rel=>exact⟨k+1,by omega,by go_num,λe=>by
     rcases l.o.1 e with e | e
     ·exact g.o e
     ·exact hv e.symm⟩
    case measure=>simp[intOf]; omega
  ·have e:k=xs.length:=by omega
   rw[e,QT]at d;have g:Hid _:=d;clear d;go_wp2;go_ret;exact⟨-1,rfl,⟨λh=>absurd h (by omega),λh=>absurd h g.o⟩,rfl⟩
theorem zF(ao:Option Addr)(cap:Nat)(xs:List Int)(v:Int)(w:World)(hx:aM w ao xs) :
  Ce 119 #[.slice ao xs.length cap,.int .i64 v] w (.bool (decide (v∈xs))):=by have h:=V8 ao cap xs v w hx;clear hx;go_enter Tryz.func119,Tryz.ntmps119;go_wp2_with fail;refine h.mono ?_;clear h;rintro e b ⟨r,rfl,a,rfl⟩;go_wp2;go_ret;exact⟨Qd (by rw[QX,Qs,Qs]; exact a.o),rfl⟩
theorem IG(ao bo:Option Addr)(cap cap':Nat)(xs ys:List Int)(w:World)(hx:aM w ao xs)(hy:aM w bo ys) :
  Cb 123 #[.slice ao xs.length cap,.slice bo ys.length cap'] w (.bool (decide (xs=ys))):=by
 have z:=hy.1;by_cases a:xs.length=ys.length
 ·have m:=Zh a;have p:((xs.length:Int) != (ys.length:Int))=false:=by rw[a]; simp
  have A:xs.length<=ys.length:=by omega
  clear a;go_enter Tryz.func123,Tryz.ntmps123;go_wp2;go_loopw [13] (λi wr=>∃ k:Nat,k<=xs.length/\i=.int .i64 k/\Hid (xs.take k=ys.take k)/\∃ n,wr=w.drewN n) (λi _=>xs.length-(intOf i).toNat)
  case atStart=>exact⟨0,QK _,rfl,rfl,0,rfl⟩
  case round=>
   obtain⟨k,F,rfl,t,n,rfl⟩:=hrel;by_cases j:k<xs.length
   ·have d:k<ys.length:=by omega
    obtain⟨b,E,rfl,u⟩:=hx.get j;obtain⟨G,v,rfl,l⟩:=hy.get d;have B:=u k j;have C:=l k d;clear u l hx hy;obtain⟨x,f⟩:=eY (xs.getD k 0);obtain⟨y,g⟩:=eY (ys.getD k 0);rw[<- f]at B;rw[<- g]at C;have r:=Zh f;have s:=Zh g;clear f g;by_cases hv:x=y
    ·have q:(x != y)=false:=by simp[hv]
     go_wp2;go_quiet (fail);go_wp2;go_roundw
     case rel=>exact⟨k+1,by omega,by go_num,JR j d t.o (by rw[<- r.o,<- s.o]; exact hv),_,rfl⟩
     case measure=>simp[intOf]; omega
    ·have q:(x != y)=true:=by simp[hv]
     go_wp2;go_quiet (fail);go_wp2;go_ret;exact⟨Qd (ZW (λe=>hv (by rw[r.o,s.o,e]))).symm,Zo (Zo (Qm _ _) _) _⟩
   ·have D:Hid (k=xs.length):=by show _=_; omega
    go_wp2;go_ret;exact⟨Qd (by refine(Qv ?_).symm; have:=t.o; rw[D.o,QT,m.o,QT]at this; exact this),Zo (Qm _ _) _⟩
 ·have p:((xs.length:Int) != (ys.length:Int))=true:=by rw[bne_iff_ne]; omega
  have m:Hid _:=a;clear a;go_enter Tryz.func123,Tryz.ntmps123;go_wp2;go_ret;exact⟨Qd (ZW (λe=>m.o (by rw[e]))).symm,Qm _ _⟩
theorem kR(ao bo:Option Addr)(cap cap':Nat)(xs ys:List Int)(w:World)(hx:aM w ao xs)(hy:aM w bo ys)(hcap:xs.length<=cap) :
  Cb 107 #[.slice ao xs.length cap,.slice bo ys.length cap'] w (.bool (au xs ys)):=by
 have f:=hy.1;by_cases a:ys.length<=xs.length
 ·have b:Hid (au xs ys=decide (xs.take ys.length=ys)):=by show _=_;unfold au;rw[Qv a,Qw]
  have d:=IG ao bo cap cap' (xs.take ys.length) ys w (hx.take _) hy;rw[ZZ,Nat.min_eq_left a]at d;generalize au xs ys=S at *;generalize decide (xs.take ys.length=ys)=B at *;clear hx hy;go_enter Tryz.func107,Tryz.ntmps107;go_wp2_with fail;refine d.mono ?_;clear d;rintro e i ⟨rfl,g⟩;go_wp2;go_ret;exact⟨Qd b.o.symm,g⟩
 ·have b:Hid (au xs ys=false):=by show _=_;unfold au;grind
  generalize au xs ys=S at *;clear hx hy;go_enter Tryz.func107,Tryz.ntmps107;go_wp2;go_ret;exact⟨Qd b.o.symm,Qm _ _⟩
theorem JY(ao:Option Addr)(cap:Nat)(xs:List Int)(w:World)(hx:aM w ao xs) :
  Ce 112 #[.slice ao xs.length cap] w (.bool (qJ xs)):=by
 have u:=hx.1;have p:Hid _:=@Mj xs;have q:Hid _:=@Mk xs;generalize qJ xs=C at *;go_enter Tryz.func112,Tryz.ntmps112;go_wp2;go_loop [7] (λi=>∃ k:Nat,k<=xs.length/\i=.int .i64 k/\Hid (∀ j,j<k->xs.getD j 0=j)) (λi=>xs.length-(intOf i).toNat)
 case atStart=>exact⟨0,QK _,rfl,λj n=>absurd n (by omega)⟩
 case round=>
  obtain⟨k,v,rfl,l⟩:=hrel;by_cases d:k<xs.length
  ·obtain⟨b,t,rfl,m⟩:=hx.get d;have r:=m k d;clear m hx;have g:=Zh (p.o d);obtain⟨x,a⟩:=eY (xs.getD k 0)
   rw[<- a]at r g;have s:=Zh a;clear a;by_cases hv:x=(k:Int)
   ·have f:(x != (k:Int))=false:=by simp[hv]
    have e:=Zh hv;clear hv;go_wp2;go_round
    case rel=>exact⟨k+1,by omega,by go_num,λj n=>by
     rcases Z0 j k with h | h
     ·exact l.o j h
     ·obtain rfl:j=k:=by omega
      rw[<- s.o]; exact e.o⟩
    case measure=>simp[intOf]; omega
   ·have f:(x != (k:Int))=true:=by simp[hv]
    have e:=Zh (g.o hv);go_wp2;go_ret;exact⟨Qd e.o.symm,rfl⟩
  ·have e:=Zh (q.o (λi y=>l.o i (by omega)));go_wp2;go_ret;exact⟨Qd e.o.symm,rfl⟩
theorem V9(q:ae){k:Nat}(hk:k<q.ord.xs.length):(q.ord.xs.take (k+1)).map (λp=>q.bA.xs.getD p.toNat 0)=(q.ord.xs.take k).map (λp=>q.bA.xs.getD p.toNat 0)++[q.bA.xs.getD (q.ord.xs.getD k 0).toNat 0]:=by
 have e:q.ord.xs.getD k 0=q.ord.xs[k]:=by simp[List.getD,hk]
 rw[Qh hk,Qi,e];rfl
theorem oL{base':Nat}{xs:List Value}(h:w.ownsRow base e size v n xs)(hb:base'<=base):w.ownsRow base' e size v n xs:=zu h hb (λ_ _ _=>rfl)
theorem zG{n:Int}(h:di xs n=true)(hk:k<xs.length):0<=xs.getD k 0/\xs.getD k 0<n:=by unfold di at h;rw[Qk]at h;have:=h _ (Zr hk (d:=0));simpa using this
theorem pO(q:ae)(w:World)(hq:q.At w)(hos:di q.ord.xs q.bA.xs.length=true)(hol:q.ord.xs.length<=1000) :
  Calls Tryz.prog 111 #[.agg q.cells] w λe w'=>∃ v,e=.returned v/\w'.ownsRow w.heap.size 3 1 v (jw q).length ((jw q).map (Value.int .i64))/\Bw w w':=by
 obtain⟨r,d⟩:∃ x,x=w.alloc (.cells q.cells 26):=⟨_,rfl⟩;have g:Bw w r:=by rw[d]; exact fq _ _
 have D:GB r w.heap.size 26 q.cells:=by rw[d]; exact qH _ _
 have Y:=D.at 5;have q6:=D.at 6;have E:=d.symm;have Z:Hid (aM w q.bA.ad q.bA.xs):=hq.bA;have F:Hid (aM w q.ord.ad q.ord.xs):=hq.ord;have G:=Zh hos;have j:Hid (∀ k,k<q.ord.xs.length->_):=λk C=>@V9 q k C;have l:Hid (jw q=(q.ord.xs.take q.ord.xs.length).map (λp=>q.bA.xs.getD p.toNat 0)):=by show _=_; rw[QT]; rfl
 have aa:=hq.bA.1;have Q:Hid (∀ k,((q.ord.xs.take k).map (λp=>q.bA.xs.getD p.toNat 0)).length<=1000):=λk=>by grind
 clear d D hq hos;obtain⟨src,dD,aS,wh,group,s,t,⟨ea,ec,u⟩,⟨oa,oc,ord⟩⟩:=q;unfold ae.cells ai.val at *;simp only at *;generalize jw ⟨src,dD,aS,wh,group,s,t,⟨ea,ec,u⟩,⟨oa,oc,ord⟩⟩=WN at *;obtain⟨W,y⟩:∃ W:Nat->List Int,W=λk=>(ord.take k).map (λp=>u.getD p.toNat 0):=⟨_,rfl⟩;have H:Hid (∀ k,k<ord.length->W (k+1)=W k++[u.getD (ord.getD k 0).toNat 0]):=λk C=>by rw[y]; exact j.o k C
 have I:Hid (WN=W ord.length):=by show _=_; rw[y]; exact l.o
 have J:Hid (∀ k,(W k).length<=1000):=λk=>by rw[y]; exact Q.o k
 have K:Hid (W 0=[]):=by show _=_; rw[y]; rfl
 clear y j l Q;go_enter Tryz.func111,Tryz.ntmps111;go_wp2;clear E;go_loopw [3,9] (λv iv wr=>∃ k:Nat,k<=ord.length/\iv=.int .i64 k/\Hid (wr.ownsRow r.heap.size 3 1 v (W k).length ((W k).map (Value.int .i64)))/\Bw r wr) (λ_ iv _=>ord.length-(intOf iv).toNat)
 case atStart=>exact⟨0,QK _,rfl,by rw[K.o]; exact Zu _ _ _ _,Qm _ _⟩
 case round=>
  obtain⟨k,C,rfl,i,a⟩:=hrel;have af:=cB a Y;by_cases f:k<ord.length
  ·have R:=aF g a;obtain⟨ob,oo,rfl,z⟩:=Qg F.o f;have ag:=cB R (z k f);have M:=zG G.o f;have N:=Zh (H.o k f);have S:=J.o k;clear z;generalize ord.getD k 0=p at *;obtain⟨n,rfl⟩:=ZV M.1;have T:n<u.length:=by omega
   obtain⟨eb,eo,rfl,A⟩:=Qg Z.o T;have ah:=cB R (A n T);clear A;rw[ZY]at N;generalize u.getD n 0=x at *;generalize P:W k=L at *;clear P;obtain⟨U,V,rc,rfl⟩:=Zk i.o;obtain⟨v',w5,X,O,B,⟨ua,um,uc,rfl⟩,-⟩:=Ee wr r.heap.size (.slice U V rc) L i.o (by omega) a.size x 22;have m:=a.trans (B.below a.size (λb hb e=>by have:=(Zj i.o e).1; omega));rw[<- N.o]at O;have xY:Hid _:=O;have jl:=Zh m;clear O m B i N;go_wp2_with (first | (at_builtin; refine Zt rfl (.tmp 13) (.tmp 19) 22 rfl (.slice U V rc) (.slice (some (aD wr.heap.size 0)) 1 1) (.slice ua um uc) w5 rfl rfl X ?_));clear X;go_wp2;go_roundw
   case rel=>exact⟨k+1,by omega,by go_num,xY.o,jl.o⟩
   case measure=>simp[intOf]; omega
  ·obtain rfl:k=ord.length:=by omega
   rw[<- I.o]at i;have HF:=Zh (oL i.o g.size);have HB:=Zh (aF g a);clear i a;go_wp2;go_ret;exact⟨_,rfl,HF.o,HB.o⟩
structure at6(q:ae)(kind:Int):Prop where
 places:kind=9->di q.ord.xs q.bA.xs.length=true
 few:q.ord.xs.length<=1000
theorem zI(q:ae)(kind:Int)(oa:Option Addr)(oc:Nat)(order:List Int)(w:World)(hq:q.At w)(hk:at6 q kind)(ho:aM w oa order)(hcap:order.length<=oc) :
  Cb 68 #[.agg q.cells,.int .i64 kind,.slice oa order.length oc] w (.bool (gL q kind order)):=by
 obtain⟨u,g⟩:∃ x,x=w.alloc (.cells q.cells 26):=⟨_,rfl⟩;have d:Bw w u:=by rw[g]; exact fq _ _
 have G:GB u w.heap.size 26 q.cells:=by rw[g]; exact qH _ _
 obtain⟨T,U,V,W,X,Y,Z⟩:=G.k7;have K:=g.symm;have L:=hq.ord.1;have M:=hq.keys.1;have k:Hid (kind=9->_):=λe=>pO q u (hq.below d) (hk.places e) hk.few;have l:Hid (∀ E bc F x,Bw u x->aM x E F->_):=λE bc F x R hy=>kR oa E oc bc order F x (Ql (aF d R) ho) hy hcap;have a:Hid _:=JY q.ord.ad q.ord.cap q.ord.xs u (Ql d hq.ord);obtain⟨s,i⟩:=eY (gL q kind order);rw[<- i];have N:Hid ((jw q).length<=1000):=by show _<=_; unfold jw; rw[QQ]; exact hk.few
 unfold gL at i;have b:=Zh i;clear i;generalize jw q=WN at *;generalize qJ q.ord.xs=CB at *;have r:=Zh d;clear g G hq hk ho d;obtain⟨⟨sa,sc,src⟩,dD,aS,wh,group,⟨ka,kc,y⟩,⟨ua,uc,I⟩,⟨ea,ec,bA⟩,⟨da,dc,ord⟩⟩:=q;unfold ae.cells ai.val at *;simp only at *;by_cases B:ord.length=0
 ·have f:Hid (s=true):=by show _=_; rw[b.o,Qo B]
  have O:((ord.length:Int)==0)=true:=by rw[B]; rfl
  clear b a k l B;go_enter Tryz.func68,Tryz.ntmps68;go_wp2;go_ret;exact⟨Qd f.o.symm,r.o⟩
 rw[Qu B]at b;have O:((ord.length:Int)==0)=false:=by rw[Z4]; omega
 clear B;by_cases p:kind=10
 ·have f:Hid (s=true):=by show _=_; rw[b.o,Qo p]
  subst p;clear b a k l;go_enter Tryz.func68,Tryz.ntmps68;go_wp2;go_ret;exact⟨Qd f.o.symm,r.o⟩
 rw[Qu p]at b;by_cases k9:kind=9
 ·have f:Hid (s=au order WN):=by show _=_; rw[b.o,Qo k9]
  have H:=k.o k9;subst k9;clear b a k;go_enter Tryz.func68,Tryz.ntmps68;go_wp2_with fail;refine H.mono ?_;clear H;rintro e J ⟨v,rfl,j,n⟩;obtain⟨P,Q,rfl,z⟩:=abR j (by have:=N.o; omega);have m:=l.o P Q WN J n z;rw[<- f.o]at m;have C:=Zh (aF r.o n);clear l j z n;go_wp2_with fail;refine m.mono ?_;clear m;rintro e w3 ⟨rfl,A⟩;have D:=Zh (aF C.o A);clear A;go_wp2;go_ret;exact⟨rfl,D.o⟩
 rw[Qu k9]at b;by_cases k8:kind=8
 ·rw[Qo k8]at b;subst k8;by_cases S:ord.length<=y.length
  ·have f:Hid (s=CB):=by grind
   have t:=a.o;clear b a k l;go_enter Tryz.func68,Tryz.ntmps68;go_wp2_with fail;refine Z5 t ?_;clear t;rintro e J ⟨rfl,rfl⟩;go_wp2;go_ret;exact⟨Qd f.o.symm,r.o⟩
  ·have f:Hid (s=false):=by grind
   clear b a k l;go_enter Tryz.func68,Tryz.ntmps68;go_wp2;go_ret;exact⟨Qd f.o.symm,r.o⟩
 ·have f:Hid (s=false):=by show _=_; rw[b.o,Qu k8]
  clear b a k l;go_enter Tryz.func68,Tryz.ntmps68;go_wp2;go_ret;exact⟨Qd f.o.symm,r.o⟩
def lL(kind:Int)(ps:List aH):Bool:=ps.all λp=>dW p.kind==decide (kind=10)
theorem Rb{kind:Int}{ps:List aH}{k:Nat}(hk:k<ps.length)(h:(dW (ps.getD k bE).kind==decide (kind=10))=false):lL kind ps=false:=by unfold lL;grind
theorem Rc{kind:Int}{ps:List aH}(h:∀ i,i<ps.length->(dW (ps.getD i bE).kind==decide (kind=10))=true):lL kind ps=true:=by unfold lL;rw[Qk];intro p a;obtain⟨i,b,rfl⟩:=Qp a;grind
def xZ(ts:List af)(q:ae)(l:List Int)(s i:Nat):Bool:=
 decide ((if i=0 then -1 else l.getD (i-1) 0)<l.getD i 0)&&decide (l.getD i 0<q.wh.length)&&aU s (aB (dQ ts q.src.xs (q.wh.getD (l.getD i 0).toNat lz).cs))
theorem JZ(kind:Int)(ao:Option Addr)(cap:Nat)(ps:List aH)(w:World)(hp:PartsAt w ao ps) :
  Cb 64 #[.int .i64 kind,.slice ao ps.length cap] w (.bool (lL kind ps)):=by
 have hl:=hp.1;have s:Hid _:=@Rb kind ps;have F:Hid _:=@Rc kind ps;have Q:Hid _:=hp;generalize lL kind ps=KL at *;clear hp;go_enter Tryz.func64,Tryz.ntmps64;go_wp2;go_loopw [9] (λiv wr=>∃ k:Nat,k<=ps.length/\iv=.int .i64 k/\Hid (∀ j,j<k->(dW (ps.getD j bE).kind==decide (kind=10))=true)/\Bw w wr) (λiv _=>ps.length-(intOf iv).toNat)
 case atStart=>exact⟨0,QK _,rfl,λj P=>absurd P (by omega),Qm _ _⟩
 case round=>
  obtain⟨k,hk,rfl,r,a⟩:=hrel;by_cases q:k<ps.length
  ·obtain⟨⟨b,Y,rfl,I,J,K,L,M,N⟩,_⟩:=Q.o.2 k q;have R:=cB a I;have S:=cB a J;have T:=cB a K;have U:=cB a L;have V:=cB a M;have W:=cB a N;have m:=Zh (s.o q);have t:Hid (∀ p,p=ps.getD k bE->(dW p.kind==decide (kind=10))=true->∀ j,j<k+1->(dW (ps.getD j bE).kind==decide (kind=10))=true):=λp hp h j P=>by
    rcases Z0 j k with H | H
    ·exact r.o j H
    grind
   clear I J K L M N s r;obtain⟨p,hp⟩:=eY (ps.getD k bE);rw[<- hp]at R S T U V W m;have u:=Zh hp;clear hp;obtain⟨pk,B,C,⟨Z,pc,px⟩,D,E⟩:=p;unfold ai.val at *;simp only at *;have v:=λx=>zC pk x;obtain⟨O,l⟩:=eY (dW pk);rw[<- l]at m v;have y:=Zh l;clear l;have n:Bw w (wr.alloc (.cells #[.int .i64 pk,.int .u64 (B:Int),.int .u64 (C:Int),.slice Z px.length pc,.int .u64 (D:Int),.int .u64 (E:Int)] 73)):=aF a (fq _ _);have G:=Zh n;clear n;have g:decide (kind=10)=(kind==10):=by rw[QX]; simp
   by_cases f:(O==decide (kind=10))=true
   ·have z:(!(O==(kind==10)))=false:=by rw[<- g,f]; rfl
    clear g;have X:=Zh (t.o _ u.o (by rw[<- y.o]; exact f));clear f t m;go_wp2_with fail;refine(v _).mono ?_;rintro e w2 ⟨rfl,rfl⟩;go_wp2;go_roundw
    case rel=>exact⟨k+1,by omega,by go_num,X.o,G.o⟩
    case measure=>simp[intOf]; omega
   ·have d:(O==decide (kind=10))=false:=by simpa using f
    have A:=Zh (m.o d);have z:(!(O==(kind==10)))=true:=by rw[<- g,d]; rfl
    clear g;clear f d t m;go_wp2_with fail;refine(v _).mono ?_;rintro e w2 ⟨rfl,rfl⟩;go_wp2;go_ret;exact⟨Qd A.o.symm,G.o⟩
  ·have A:=Zh (F.o (λi hi=>r.o i (by omega)));clear s F r;go_wp2;go_ret;exact⟨Qd A.o.symm,a⟩
theorem afh(ok:Ok ts q)(hk:k<q.wh.length):aB (dQ ts q.src.xs (q.wh.getD k lz).cs)<18446744073709551616:=
 (nE ok.cat ok.src (ok.aX k hk)).lt ok.small
theorem Wd{ts:List af}{q:ae}{l:List Int}{s k:Nat}(hk:k<l.length)(h:xZ ts q l s k=false):iP ts q l s=false:=by show (List.range l.length).all (xZ ts q l s)=false;grind
theorem We{ts:List af}{q:ae}{l:List Int}{s:Nat}(h:∀ i,i<l.length->xZ ts q l s i=true):iP ts q l s=true:=by show (List.range l.length).all (xZ ts q l s)=true;grind
theorem uM(f:aC)(ts:List af)(q:ae)(la:Option Addr)(lc:Nat)(l:List Int)(s:Nat)(w:World)(ok:Ok ts q)(hf:f.At ts q w)(hl:aM w la l)(hs:s<18446744073709551616) :
  Cb 101 #[.agg (f.cells ts q),.slice la l.length lc,.int .u64 (s:Int)] w (.bool (iP ts q l s)):=by
 obtain⟨D,d⟩:∃ x,x=w.alloc (.cells (f.cells ts q) 68):=⟨_,rfl⟩;have b:Bw w D:=by rw[d]; exact fq _ _
 have M:GB D w.heap.size 68 (f.cells ts q):=by rw[d]; exact qH _ _
 have q1:=M.at 1;have N:D.cell? (aD w.heap.size 11)=some (.slice f.na q.wh.length f.nc):=by rw[<- hf.nl]; exact M.cell 11
 have O:w.alloc (.cells (f.cells ts q) 68)=D:=d.symm;have J2:Hid _:=hf.conc.below b;have Bq:Hid _:=Ql b hl;have aa:=hl.1;have P:=hf.query.wh.1;have Q:Hid _:=@Wd ts q l s;have R:Hid _:=@We ts q l s;have z:Hid (∀ i,xZ ts q l s i=(decide ((if i=0 then -1 else l.getD (i-1) 0)<l.getD i 0)&&decide (l.getD i 0<q.wh.length)&&aU s (aB (dQ ts q.src.xs (q.wh.getD (l.getD i 0).toNat lz).cs)))):=λ_=>rfl;have A:Hid (∀ k,k<q.wh.length->(aN ts q).getD k 0=aB (dQ ts q.src.xs (q.wh.getD k lz).cs)/\aB (dQ ts q.src.xs (q.wh.getD k lz).cs)<18446744073709551616):=λk E=>⟨Bn ts q E,afh ok E⟩;have Gs:Hid _:=ZB ts q;have J:Hid _:=b;generalize iP ts q l s=RB at *;obtain⟨y,r⟩:∃ y:Nat->Nat,y=λk=>aB (dQ ts q.src.xs (q.wh.getD k lz).cs):=⟨_,rfl⟩;have Mm:Hid (∀ i,xZ ts q l s i=(decide ((if i=0 then -1 else l.getD (i-1) 0)<l.getD i 0)&&decide (l.getD i 0<q.wh.length)&&aU s (y (l.getD i 0).toNat))):=λi=>by rw[r]; exact z.o i
 have S:Hid (∀ k,k<q.wh.length->(aN ts q).getD k 0=y k/\y k<18446744073709551616):=λk E=>by rw[r]; exact A.o k E
 clear r z A;generalize xZ ts q l s=RA at *;generalize aN ts q=CL at *;generalize Z:q.wh.length=nw at *;clear Z;generalize f.cells ts q=FC at *;have ag:nw<=1152921504606846976:=P;clear d M hf hl ok b;go_enter Tryz.func101,Tryz.ntmps101;go_wp2;clear O;go_loopw [7,12] (λlv iv wr=>∃ k:Nat,k<=l.length/\iv=.int .i64 k/\(∃ last:Int,lv=.int .i64 last/\-1<=last/\Hid (last=if k=0 then -1 else l.getD (k-1) 0))/\Hid (∀ j,j<k->RA j=true)/\wr=D) (λ_ iv _=>l.length-(intOf iv).toNat)
 case atStart=>exact⟨0,QK _,rfl,⟨-1,rfl,by omega,rfl⟩,λj hj=>absurd hj (by omega),rfl⟩
 case round=>
  obtain⟨k,E,rfl,⟨last,rfl,X,J3⟩,K,rfl⟩:=hrel;by_cases u:k<l.length
  ·obtain⟨lb,lo,rfl,F⟩:=Qg Bq.o u;have T:=F k u;have a:Hid _:=Mm.o k;have g:Hid _:=Q.o u;rw[<- J3.o]at a;have pQ:Hid (∀ c,c=l.getD k 0->c=if k+1=0 then -1 else l.getD (k+1-1) 0):=λc hc=>by rw[Qu (by omega)]; exact hc
   have B:Hid (RA k=true->∀ j,j<k+1->RA j=true):=λh j hj=>by
    rcases Z0 j k with h' | h'
    ·exact K.o j h'
    grind
   clear F J3 K Q R Mm;obtain⟨c,t⟩:=eY (l.getD k 0);rw[<- t]at T a;have U:Hid _:=pQ.o c t;clear t pQ;by_cases h1:c<=last
   ·have p:Hid (RB=false):=g.o (by rw[a.o,ZW (by omega)]; rfl);clear a g B;go_wp2;go_ret;exact⟨Qd p.o.symm,J.o⟩
   by_cases h2:(nw:Int)<=c
   ·have p:Hid (RB=false):=g.o (by rw[a.o,ZW (show ¬ c<(nw:Int) by omega),Bool.and_false]; rfl);clear a g B;go_wp2;go_ret;exact⟨Qd p.o.symm,J.o⟩
   obtain⟨n,rfl⟩:=ZV (show 0<=c by omega);have V:n<nw:=by omega
   obtain⟨G,Y⟩:=S.o n V;obtain⟨cb,co,H,I⟩:=gF.get J2.o (show n<CL.length by rw[Gs.o]; exact V);have W:=I n (by rw[Gs.o]; exact V);rw[G]at W;rw[ZY]at a;clear I G;rw[H]at N;clear H;generalize y n=m at *;have v:=mQ s m hs Y wr;by_cases L:aU s m=true
   ·rw[L]at v a;have HT:Hid _:=B.o (by rw[a.o,Qv (by omega),Qv (by omega)]; rfl);clear a g B L;go_wp2_with fail;refine v.mono ?_;clear v;rintro e w2 ⟨rfl,rfl⟩;go_wp2;go_roundw
    case rel=>exact⟨k+1,by omega,by go_num,⟨n,rfl,by omega,U.o⟩,HT.o,trivial⟩
    case measure=>simp[intOf]; omega
   ·have C:aU s m=false:=by simpa using L
    rw[C]at v a;have p:Hid (RB=false):=g.o (by rw[a.o,Bool.and_false]);clear a g B L C;go_wp2_with fail;refine v.mono ?_;clear v;rintro e w2 ⟨rfl,rfl⟩;go_wp2;go_ret;exact⟨Qd p.o.symm,J.o⟩
  ·have p:Hid (RB=true):=R.o (λi hi=>K.o i (by omega));clear Q R K;go_wp2;go_ret;exact⟨Qd p.o.symm,J.o⟩
theorem Wh(ts:List af)(q:ae)(hk:k<xs.length):aB (fC ts q (xs.take (k+1)))=aB (fC ts q (xs.take k))|||2 ^ aA ts q.src.xs (xs.getD k 0):=by
 have e:xs.getD k 0=xs[k]:=by simp[List.getD,hk]
 unfold fC;rw[Qh hk,Qi,QW,e];show _|||aB [(aA ts q.src.xs xs[k]:Int)]=_;rw[rP]
def iM(ts:List af)(q:ae)(xs:List Int):Prop:=∀ c∈xs,0<=c/\c<az ts q.src.xs
theorem yf(ok:Ok ts q)(h:iM ts q xs):bu q.src.xs.length (fC ts q xs):=λx e=>by obtain⟨c,a,rfl⟩:=QZ.1 e;obtain⟨b,d⟩:=h c a;have:=(QS ok.cat ok.src b d).1;omega
theorem Uz(ok:Ok ts q)(h:iM ts q xs)(k:Nat):aB (fC ts q (xs.take k))<18446744073709551616:=
 (yf ok (λc a=>h c (ZO a))).lt ok.small
theorem Br(ok:Ok ts q):((jK ts q).length:Int)=az ts q.src.xs:=by have:=sK ok.cat ok.src q.src.xs.length (Qn _);rw[QT]at this;exact this
theorem Ei(ok:Ok ts q){c:Int}(h0:0<=c)(h1:c<az ts q.src.xs):aA ts q.src.xs c<q.src.xs.length:=(QS ok.cat ok.src h0 h1).1
theorem Ej(c:aI)(w:World) :
  Cb 130 #[c.val] w (.bool (!c.const&&decide (c.op≠2))):=by
 obtain⟨b,op,left,a,right⟩:=c;have d:=fq w (.cells #[.bool b,.int .i64 op,.int .i64 left,.bool a,.int .i64 right] 80);have e:=Zh d;clear d;have f:Hid (decide (op≠2)=(op != 2)):=by show _=_; rw[QX]; simp
 unfold aI.val
 cases a with
 | false =>
  go_enter Tryz.func130,Tryz.ntmps130;go_wp2;go_ret;exact⟨Qd (by grind),e.o⟩
 | true =>
  go_enter Tryz.func130,Tryz.ntmps130;go_wp2;go_ret;exact⟨rfl,e.o⟩
theorem yg(w:World)(xs:List Int)(t:TypeId)(hl:xs.length<=1000):aM (w.alloc (.cells (xs.map (Value.int .i64)).toArray t)) (some (aD w.heap.size 0)) xs:=by refine⟨by omega,λi a=>⟨w.heap.size,0,rfl,?_⟩⟩;simp only[World.cell?,qH w _];simp[List.getD,a]
theorem ui(c:aI)(w:World) :
  Calls Tryz.prog 92 #[c.val] w λe w'=>∃ b,e=.returned (.slice (some (aD b 0)) (aJ c).length (aJ c).length)/\aM w' (some (aD b 0)) (aJ c)/\Bw w w':=by
 have q:Hid _:=λx=>Ej c x;obtain⟨z,g,i,s⟩:=bn w #[.bool c.not,.int .i64 c.op,.int .i64 c.left,.bool c.const,.int .i64 c.right] 80;obtain⟨t,u,l,v,m⟩:=s.k5;have j:Hid (aJ c=if (!c.const&&decide (c.op≠2))=true then [c.left,c.right] else [c.left]):=by show _=_;unfold aJ;grind
 have k:=q.o z;generalize (!c.const&&decide (c.op≠2))=B at *;generalize aJ c=CC at *;clear q s;obtain⟨A,op,left,n,right⟩:=c;unfold aI.val at *;simp only at *;have r:=Zh i;clear i
 cases B with
 | true =>
  obtain rfl:CC=[left,right]:=j.o;have d:Hid (∀ x:World,aM (x.alloc (.cells #[.int .i64 left,.int .i64 right] 3)) (some (aD x.heap.size 0)) [left,right]):=λx=>yg x [left,right] _ (by simp);clear j;go_enter Tryz.func92,Tryz.ntmps92;go_wp2_with fail;refine k.mono ?_;clear k g;rintro e p ⟨rfl,a⟩;have y:=cB a l;have C:=cB a m;have f:=Zh (aF (aF r.o a) (fq p (.cells #[.int .i64 left,.int .i64 right] 3)));clear a t u l v m;go_wp2;go_ret;exact⟨_,rfl,d.o _,f.o⟩
 | false =>
  obtain rfl:CC=[left]:=j.o;have d:Hid (∀ x:World,aM (x.alloc (.cells #[.int .i64 left] 3)) (some (aD x.heap.size 0)) [left]):=λx=>yg x [left] _ (by simp);clear j;go_enter Tryz.func92,Tryz.ntmps92;go_wp2_with fail;refine k.mono ?_;clear k g;rintro e p ⟨rfl,a⟩;have y:=cB a l;have f:=Zh (aF (aF r.o a) (fq p (.cells #[.int .i64 left] 3)));clear a t u l v m;go_wp2;go_ret;exact⟨_,rfl,d.o _,f.o⟩
theorem qX(f:aC)(ts:List af)(q:ae)(xa:Option Addr)(xc:Nat)(xs:List Int)(w:World)(ok:Ok ts q)(hf:jf w f.ca (jK ts q))(hx:aM w xa xs)(hxs:iM ts q xs) :
  Cb 84 #[.agg (f.cells ts q),.slice xa xs.length xc] w (.int .u64 ((aB (fC ts q xs):Nat):Int)):=by
 obtain⟨C,i⟩:∃ x,x=w.alloc (.cells (f.cells ts q) 68):=⟨_,rfl⟩;have g:Bw w C:=by rw[i]; exact fq _ _
 have Q:GB C w.heap.size 68 (f.cells ts q):=by rw[i]; exact qH _ _
 have q7:=Q.at 7;have E:=i.symm;have nP:Hid _:=hf.below g;have F:Hid _:=Ql g hx;have aa:=hx.1;have ag:=hf.1;have t:Hid (∀ k,k<xs.length->aB (fC ts q (xs.take (k+1)))=aB (fC ts q (xs.take k))|||2 ^ aA ts q.src.xs (xs.getD k 0)):=λk D=>Wh ts q D;have S:Hid (∀ k,aB (fC ts q (xs.take k))<18446744073709551616):=λk=>Uz ok hxs k;have T:Hid (aB (fC ts q (xs.take xs.length))=aB (fC ts q xs)):=by show _=_; rw[QT]
 have u:Hid (aB (fC ts q (xs.take 0))=0):=rfl;have G:Hid (∀ k,k<xs.length->∃ n:Nat,xs.getD k 0=n/\n<(jK ts q).length/\((jK ts q).getD n (0,0)).1=aA ts q.src.xs (xs.getD k 0)/\aA ts q.src.xs (xs.getD k 0)<64):=λk D=>by obtain⟨h0,h1⟩:=hxs _ (Zr D (d:=0));have h2:=Br ok;have h3:=Ei ok h0 h1;have h4:=ok.small;refine⟨(xs.getD k 0).toNat,by omega,by omega,rfl,by omega⟩
 have uh:=Zh g;obtain⟨r,b⟩:∃ r:Nat->Nat,r=λk=>aB (fC ts q (xs.take k)):=⟨_,rfl⟩;have qY:Hid (∀ k,k<xs.length->r (k+1)=r k|||2 ^ aA ts q.src.xs (xs.getD k 0)):=by rw[b]; exact t.o
 have H:Hid (∀ k,r k<18446744073709551616):=by rw[b]; exact S.o
 have I:Hid (r xs.length=aB (fC ts q xs)):=by rw[b]; exact T.o
 have J:Hid (r 0=0):=by rw[b]; exact u.o
 generalize aB (fC ts q xs)=R at *;generalize aA ts q.src.xs=SN at *;generalize jK ts q=CS at *;generalize f.cells ts q=FC at *;clear b t S T u i Q g ok hxs hf hx;go_enter Tryz.func84,Tryz.ntmps84;go_wp2;clear E;go_loopw [5,10] (λsv iv wr=>∃ k:Nat,k<=xs.length/\iv=.int .i64 k/\(∃ s:Nat,sv=.int .u64 (s:Int)/\Hid (s=r k))/\Bw C wr) (λ_ iv _=>xs.length-(intOf iv).toNat)
 case atStart=>exact⟨0,QK _,rfl,⟨0,rfl,J.o.symm⟩,Qm _ _⟩
 case round=>
  obtain⟨k,D,rfl,⟨s,rfl,y⟩,a⟩:=hrel;by_cases l:k<xs.length
  ·obtain⟨xb,xo,rfl,z⟩:=Qg F.o l;have K:=cB a (z k l);obtain⟨n,W,N,A,B⟩:=G.o k l;have U:=Zh (qY.o k l);have L:s<18446744073709551616:=by rw[y.o]; exact H.o k
   obtain⟨cb,co,X,Y,_⟩:=nP.o.2 n N;have d0:=cB a Y;have M:=cB a q7;rw[X]at M;rw[W]at K;rw[A]at d0;rw[<- y.o]at U;clear z Y X A y;generalize SN (xs.getD k 0)=m at *;clear W;obtain⟨O,P⟩:∃ x,wr.alloc (.cells #[.int .i64 (m:Int)] 3)=x:=⟨_,rfl⟩;have V:=vS wr.heap.size m O (by rw[<- P]; simp) B;obtain⟨Z,j⟩:∃ x,O.alloc (.cells #[.int .u64 (s:Int),.int .u64 ((2 ^ m:Nat):Int)] 64)=x:=⟨_,rfl⟩;have hp:2 ^ m<18446744073709551616:=ZN (n:=64) (by omega) B;have v:=kW O.heap.size s (2 ^ m) Z (by rw[<- j]; simp) (by rw[<- j]; simp) L hp;have jo:Hid (Bw C Z):=by show Below _ _ _;rw[<- j,<- P];exact aF (aF a (fq _ _)) (fq _ _)
   generalize 2 ^ m=p at *;go_wp2_with fail;refine V.mono ?_;clear V;rintro e w2 ⟨rfl,rfl⟩;go_wp2_with fail;refine v.mono ?_;clear v;rintro e w3 ⟨rfl,rfl⟩;clear P j;go_wp2;go_roundw
   case rel=>exact⟨k+1,by omega,by go_num,⟨s|||p,rfl,U.o.symm⟩,jo.o⟩
   case measure=>simp[intOf]; omega
  ·obtain rfl:k=xs.length:=by omega
   have HV:=Zh (y.o.trans I.o);have HB:=Zh (aF uh.o a);clear y a;go_wp2;go_ret;exact⟨Qe (by rw[HV.o]),HB.o⟩
theorem Em(f:aC)(ts:List af)(q:ae):∃ v0 e g v3 v4 v5 i j k v9 a b d,f.cells ts q=#[v0,e,g,v3,v4,v5,i,j,k,v9,a,b,d]/\v0=q.src.val/\e=.slice q.dD q.wh.length q.aS/\g=.bool q.group/\v3=q.keys.val/\v4=q.sums.val/\v5=q.bA.val/\i=q.ord.val/\
  j=.slice f.ca (jK ts q).length f.cc/\k=.int .u64 ((2 ^ q.src.xs.length-1:Nat):Int)/\v9=.int .u64 ((2 ^ q.wh.length-1:Nat):Int)/\a=.slice f.ra q.src.xs.length f.rc/\b=.slice f.na f.nl f.nc/\d=.slice f.pa f.pl f.pc:=
 ⟨_,_,_,_,_,_,_,_,_,_,_,_,_,rfl,rfl,rfl,rfl,rfl,rfl,rfl,rfl,rfl,rfl,rfl,rfl,rfl,rfl⟩
theorem uN(f:aC)(ts:List af)(q:ae)(p:aH)(w:World) :
  Cb 106 #[.agg (f.cells ts q),.agg p.cells] w (.bool (kF q p.d)):=by
 obtain⟨y,z,k,g⟩:=bn w ((f.cells ts q)) 68;obtain⟨H,A,l,m⟩:=bn y p.cells 73;have e:=l;have i:=aF k e;have n:=g.of (e.block _ g.lt);have D:=n.at 8;have E:=n.at 9;have r:=m;have F:=r.at 1;have G:=r.at 2;have u:Hid (kF q p.d=(decide (p.sources=2 ^ q.src.xs.length-1)&&decide (p.clauses=2 ^ q.wh.length-1))):=rfl;have t:=Zh i;generalize kF q p.d=B at *;generalize f.cells ts q=FC at *;generalize p.cells=PC at *;generalize 2 ^ q.src.xs.length-1=s at *;generalize 2 ^ q.wh.length-1=c at *;generalize p.sources=a at *;generalize p.clauses=b at *;by_cases C:a=s
 ·subst C;have j:Hid (B=((b:Int)==(c:Int))):=by show _=_;rw[u.o,Qv rfl,Qw,QX,Qs,beq_iff_eq];omega
  go_enter Tryz.func106,Tryz.ntmps106;go_wp2;go_ret;exact⟨Qd j.o.symm,t.o⟩
 ·have j:Hid (B=false):=by grind
  have v:((a:Int)==(s:Int))=false:=by rw[Z4]; omega
  go_enter Tryz.func106,Tryz.ntmps106;go_wp2;go_ret;exact⟨Qd j.o.symm,t.o⟩
theorem sN(f:aC)(ts:List af)(q:ae)(n:ah)(l r:aH)(w:World)(ok:Ok ts q)(hf:f.At ts q w)(hn:n.cl.At w)(hl:l.sources<=dA)(hr:r.sources<=dA) :
  Cb 102 #[.agg (f.cells ts q),.agg n.cells,.agg l.cells,.agg r.cells] w (.bool (kP ts q n l.sources r.sources)):=by
 obtain⟨v0,v1,v2,v3,v4,v5,v6,v7,v8,v9,L,M,N,W,-⟩:=Em f ts q;obtain⟨X,O,P,z⟩:=bn w ((f.cells ts q)) 68;obtain⟨Y,aa,Q,A⟩:=bn X n.cells 75;obtain⟨Z,ag,R,B⟩:=bn Y l.cells 73;obtain⟨w4,aj,S,T⟩:=bn Z r.cells 73;have t:=S;have u:=aF R t;have v:=aF Q u;have i:=aF P v;have fH:=z.of (v.block _ z.lt);have lM:=A.of (u.block _ A.lt);have lI:=lM.at 4;have C:=B.of (t.block _ B.lt);have Re:=C.at 1;have D:=T;have Rf:=D.at 1;obtain⟨eT,fI,eQ,fD,fJ,fQ,fM,iK,iI,iJ,dR,eH,dS⟩:=fH.k13 (by rw[W]; rfl);have y:Hid (∀ x,Bw w4 x->∀ s:Nat,s<18446744073709551616->Cb 101 #[.agg (f.cells ts q),.slice n.cl.ad n.cl.xs.length n.cl.cap,.int .u64 (s:Int)] x (.bool (iP ts q n.cl.xs s))):=λx hb s hs=>
  uM f ts q n.cl.ad n.cl.cap n.cl.xs s x ok (hf.below (aF i hb)) (Ql (aF i hb) hn) hs
 have HV:Hid (kP ts q n l.sources r.sources=(decide (l.sources &&& r.sources=0)&&iP ts q n.cl.xs (l.sources|||r.sources))):=rfl;have j:l.sources<18446744073709551616:=by unfold dA at hl; omega
 have k:r.sources<18446744073709551616:=by unfold dA at hr; omega
 have g:=IC l.sources r.sources j k w4;have E:Hid (∀ (x:World) (b:Nat),_->_->_):=λx b h0 h1=>kW b l.sources r.sources x h0 h1 j k;have F:l.sources|||r.sources<18446744073709551616:=ZR (n:=64) j k;have G:=Zh F;have V:=Zh i;rw[W]at y O ⊢;obtain⟨nk,nl,nr,ns,⟨na,nc,nx⟩,ny,no⟩:=n;unfold ai.val at *;simp only at *;generalize kP ts q _ l.sources r.sources=J at *;generalize iP ts q nx=RB at *;generalize ah.cells _=NC at *;generalize l.cells=LC at *;generalize r.cells=RC at *;generalize l.sources=a at *;generalize r.sources=b at *;by_cases hm:a &&& b=0
 ·have m:decide (a &&& b≠0)=false:=ZW (λh=>h hm);have H:Hid (J=RB (a|||b)):=by grind
  rw[m]at g;go_enter Tryz.func102,Tryz.ntmps102;go_wp2_with fail;refine g.mono ?_;rintro e U ⟨rfl,rfl⟩;go_wp2;refine wH U λd=>?_;refine wT 0 (.agg #[v0,v1,v2,v3,v4,v5,v6,v7,v8,v9,L,M,N]) d (λx hx=>?_) ?_
  ·have e0:=l7 hx eT fI eQ fD fJ fQ fM iK iI iJ dR eH dS;go_simp
  refine wt 1 (.pointer (some (aD X.heap.size 4))) d ?_;refine l8 2 (.slice na nx.length nc) d lI ?_;refine wt 3 (.pointer (some (aD Y.heap.size 1))) d ?_;refine l8 4 (.int .u64 (a:Int)) d Re ?_;refine wt 5 (.pointer (some (aD Z.heap.size 1))) d ?_;refine l8 6 (.int .u64 (b:Int)) d Rf ?_;refine wR 7 λK p=>?_;go_simp;refine oA p d λd=>?_;refine wR 8 λK p=>?_;go_simp;refine Z5 (E.o _ U.heap.size (by simp) (by simp)) ?_;rintro e w6 ⟨rfl,rfl⟩;refine p.o _ _ d λd=>?_;refine wR 9 λK p=>?_;go_simp;refine Z5 (y.o _ d (a|||b) G.o) ?_;rintro e w7 ⟨rfl,jD⟩;refine oT p d jD λd=>?_;refine wR 10 λK p=>?_;go_simp;refine p.o _ _ d λd=>?_;refine wD ?_;try simp only[pU]
  have I:=Zh (aF V.o d);go_wp2;go_ret;exact⟨Qd H.o.symm,I.o⟩
 ·have m:decide (a &&& b≠0)=true:=Qv hm;have H:Hid (J=false):=by grind
  rw[m]at g;go_enter Tryz.func102,Tryz.ntmps102;go_wp2_with fail;refine g.mono ?_;rintro e U ⟨rfl,rfl⟩;go_wp2;go_ret;exact⟨Qd H.o.symm,V.o⟩
def Z6:=@Em
