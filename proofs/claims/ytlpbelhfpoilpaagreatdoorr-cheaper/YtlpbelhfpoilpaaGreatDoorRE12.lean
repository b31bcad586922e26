import Derived.Test.YtlpbelhfpoilpaaGreatDoorRE06
set_option linter.all false
set_option maxRecDepth 100000
set_option maxHeartbeats 16000000
namespace Go.Proofs.Zz
open Go.RowKit Go.Shelf
variable {base k n:Nat} {w:World} {e:TypeId} {v:Value} {xs:List Int} {l:List Nat}
def fF(w:World)(ao:Option Addr)(xs:List Nat):Prop:=
 xs.length<=1000/\bC w ao xs.length (fun i=>.int .u64 ((xs.getD i 0:Nat):Int))
theorem fF.get{w:World}{ao:Option Addr}{xs:List Nat}(h:fF w ao xs){i:Nat}(hi:i<xs.length) :
  ∃ b off,ao=some (aD b off)/\∀ j,j<xs.length->w.cell? (aD b (off+j))=some (.int .u64 ((xs.getD j 0:Nat):Int)):=
 Qi h.2 hi
theorem fF.below{w w':World}(hb:Bw w w'){ao:Option Addr}{xs:List Nat}(h:fF w ao xs):fF w' ao xs:=⟨h.1,h.2.below hb⟩
def iF(w:World)(ao:Option Addr)(cs:List (Nat × Int)):Prop:=
 cs.length<=1000/\∀ i,i<cs.length->∃ b off,ao=some (aD b off)/\
  w.cell? (aD b (off+i*2))=some (.int .i64 ((cs.getD i (0,0)).1:Nat))/\w.cell? (aD b (off+i*2+1))=some (.int .u64 (cs.getD i (0,0)).2)
theorem iF.below{w w':World}(hb:Bw w w'){ao:Option Addr}{cs:List (Nat × Int)}(h:iF w ao cs):iF w' ao cs:=⟨h.1,fun i hi=>by
 obtain⟨b,off,e,c0,c1⟩:=h.2 i hi;exact⟨b,off,e,cB hb c0,cB hb c1⟩⟩
structure au where
 ca:Option Addr
 cc:Nat
 ra:Option Addr
 rc:Nat
 na:Option Addr
 nl:Nat
 nc:Nat
 pa:Option Addr
 pl:Nat
 pc:Nat
def iP(ts:List af)(q:ae):List (Nat × Int):=bS ts q.src.xs q.src.xs.length
def zY(ts:List af)(q:ae):List Nat:=(List.range q.src.xs.length).map fun (k:Nat)=>rE ts q.src.xs (k:Int)
def aF(ts:List af)(q:ae):List Nat:=q.wh.map fun c=>bE (dD ts q.src.xs c.cs)
def uQ(ts:List af)(q:ae):List Nat:=q.wh.map fun c=>jE ts q.src.xs c.cs
def au.cells(f:au)(ts:List af)(q:ae):Array Value:=
 #[q.src.val,.slice q.bY q.wh.length q.aI,.bool q.group,q.keys.val,q.sums.val,q.aV.val,q.ord.val,.slice f.ca (iP ts q).length f.cc,.int .u64 ((2 ^ q.src.xs.length-1:Nat):Int),.int .u64 ((2 ^ q.wh.length-1:Nat):Int),
  .slice f.ra q.src.xs.length f.rc,.slice f.na f.nl f.nc,.slice f.pa f.pl f.pc]
structure au.At(f:au)(ts:List af)(q:ae)(w:World):Prop where
 query:q.At w
 aO:iF w f.ca (iP ts q)
 rows:fF w f.ra (zY ts q)
 conc:fF w f.na (aF ts q)
 parts:fF w f.pa (uQ ts q)
 nl:f.nl=q.wh.length
 pl:f.pl=q.wh.length
theorem au.At.below{w w':World}(hb:Bw w w'){f:au}{ts:List af}{q:ae}(h:f.At ts q w):f.At ts q w':=
 ⟨h.query.below hb,h.aO.below hb,h.rows.below hb,h.conc.below hb,h.parts.below hb,h.nl,h.pl⟩
theorem Tt(ts:List af)(q:ae):(zY ts q).length=q.src.xs.length:=by unfold zY; simp
theorem Tu(ts:List af)(q:ae):(aF ts q).length=q.wh.length:=by unfold aF; simp
theorem Fe(ts:List af)(q:ae):(uQ ts q).length=q.wh.length:=by unfold uQ; simp
theorem Ff(ts:List af)(q:ae)(hk:k<q.src.xs.length):(zY ts q).getD k 0=rE ts q.src.xs (k:Int):=by unfold zY; simp[List.getD,hk]
theorem yZ(ts:List af)(q:ae)(hk:k<q.wh.length):(aF ts q).getD k 0=bE (dD ts q.src.xs (q.wh.getD k lz).cs):=by unfold aF; simp[List.getD,hk]
theorem ze(ts:List af)(q:ae)(hk:k<q.wh.length):(uQ ts q).getD k 0=jE ts q.src.xs (q.wh.getD k lz).cs:=by unfold uQ; simp[List.getD,hk]
structure az where
 kind:Int
 sources:Nat
 clauses:Nat
 order:ah
 size:Nat
 cost:Nat
def aT:az:=⟨0,0,0,⟨none,0,[]⟩,0,0⟩
def az.cells(p:az):Array Value:=#[.int .i64 p.kind,.int .u64 (p.sources:Int),.int .u64 (p.clauses:Int),p.order.val,.int .u64 (p.size:Int),.int .u64 (p.cost:Int)]
def az.list(p:az):List Value:=[.int .i64 p.kind,.int .u64 (p.sources:Int),.int .u64 (p.clauses:Int),p.order.val,.int .u64 (p.size:Int),.int .u64 (p.cost:Int)]
def az.d(p:az):bZ:=⟨p.kind,p.sources,p.clauses,p.order.xs,p.size,p.cost⟩
structure az.Ok(p:az)(w:World):Prop where
 order:p.order.At w
 cap:p.order.xs.length<=p.order.cap
 sources:p.sources<=bV
 clauses:p.clauses<=bV
 size:p.size<=bV
 cost:p.cost<=bV
theorem az.Ok.below{w w':World}(hb:Bw w w'){p:az}(h:p.Ok w):p.Ok w':=⟨Qv hb h.order,h.cap,h.sources,h.clauses,h.size,h.cost⟩
def PartsAt(w:World)(ao:Option Addr)(ps:List az):Prop:=
 ps.length<=1000/\∀ i,i<ps.length->(∃ b off,ao=some (aD b off)/\
  w.cell? (aD b (off+i*6))=some (.int .i64 (ps.getD i aT).kind)/\w.cell? (aD b (off+i*6+1))=some (.int .u64 ((ps.getD i aT).sources:Int))/\
  w.cell? (aD b (off+i*6+2))=some (.int .u64 ((ps.getD i aT).clauses:Int))/\w.cell? (aD b (off+i*6+3))=some (ps.getD i aT).order.val/\
  w.cell? (aD b (off+i*6+4))=some (.int .u64 ((ps.getD i aT).size:Int))/\w.cell? (aD b (off+i*6+5))=some (.int .u64 ((ps.getD i aT).cost:Int)))/\(ps.getD i aT).Ok w
theorem PartsAt.below{w w':World}(hb:Bw w w'){ao:Option Addr}{ps:List az}(h:PartsAt w ao ps):PartsAt w' ao ps:=⟨h.1,fun i hi=>by
 obtain⟨⟨b,off,e,c0,c1,c2,c3,c4,c5⟩,ho⟩:=h.2 i hi;exact⟨⟨b,off,e,cB hb c0,cB hb c1,cB hb c2,cB hb c3,cB hb c4,cB hb c5⟩,ho.below hb⟩⟩
theorem flat_get{α:Type}(f:α->List Value)(k:Nat)(hk:∀ a,(f a).length=k)(d:α):∀ (l:List α) (i j:Nat),i<l.length->j<k->(l.flatMap f)[i*k+j]? = (f (l.getD i d))[j]?
 | [],i,j,h,_ => absurd h (by simp)
 | a::l,0,j,_,hj => by
  rw[QM,QP,QQ,QR (by rw[hk]; exact hj)];rfl
 | a::l,i+1,j,h,hj => by
  have e:(i+1)*k+j=(f a).length+(i*k+j):=by rw[hk,Nat.succ_mul]; omega
  rw[QM,e,QS (Nat.le_add_right _ _),Nat.add_sub_cancel_left,flat_get f k hk d l i j (by simpa using h) hj];rfl
theorem ko{α:Type}(f:α->List Value)(k:Nat)(hk:∀ a,(f a).length=k):∀ l:List α,(l.flatMap f).length=l.length*k
 | [] => by simp
 | a::l => by rw[QM,Zb,hk,ko f k hk l,Zg,Nat.succ_mul]; omega
theorem tZ{w:World}{base:Nat}{e:TypeId}{size:Nat}{v:Value}{n:Nat}{xs:List Value}(h:w.ownsRow base e size v n xs) :
  (v=.slice none 0 0/\n=0)∨∃ g cap,v=.slice (some (aD g 0)) n cap/\base<=g/\g<w.heap.size/\∀ j u,xs[j]? = some u->w.cell? (aD g j)=some u:=by
 rcases h.2 with⟨rfl,h1⟩ | ⟨g,cap,cur,rfl,hb,hh,_,_,_,ht⟩
 ·exact .inl ⟨rfl,h1⟩
 ·refine .inr ⟨g,cap,rfl,hb,(QV.1 hh).1,fun j u hj=>?_⟩;rw[<- ht,ZY]at hj;split at hj
  ·simp only[World.cell?,hh]
   simpa using hj
  ·cases hj
theorem pY{xs:List Nat}(h:w.ownsRow base e 1 v n (xs.map fun (x:Nat)=>.int .u64 (x:Int)))(hl:xs.length<=1000):∃ ao cap,v=.slice ao xs.length cap/\fF w ao xs:=by
 have hn:xs.length=n:=by have:=h.1; simpa using this
 rcases tZ h with⟨rfl,h0⟩ | ⟨g,cap,rfl,_,_,hc⟩
 ·have:xs=[]:=QL (by omega);subst this;exact⟨none,0,rfl,⟨by simp,fun i hi=>absurd hi (by simp)⟩⟩
 ·refine⟨some (aD g 0),cap,by rw[hn],⟨hl,fun i hi=>⟨g,0,rfl,?_⟩⟩⟩;rw[QQ];exact hc i _ (by rw[Ze]; simp[List.getD,hi])
def jw(c:Nat × Int):List Value:=[.int .i64 (c.1:Int),.int .u64 c.2]
theorem BI{cs:List (Nat × Int)}(h:w.ownsRow base e 2 v n (cs.flatMap jw))(hl:cs.length<=1000):∃ ao cap,v=.slice ao cs.length cap/\iF w ao cs:=by
 have hk:∀ a,(jw a).length=2:=fun _=>rfl
 have hn:cs.length=n:=by have:=h.1; rw[ko jw 2 hk]at this; omega
 rcases tZ h with⟨rfl,h0⟩ | ⟨g,cap,rfl,_,_,hc⟩
 ·have:cs=[]:=QL (by omega);subst this;exact⟨none,0,rfl,⟨by simp,fun i hi=>absurd hi (by simp)⟩⟩
 ·refine⟨some (aD g 0),cap,by rw[hn],⟨hl,fun i hi=>⟨g,0,rfl,?_,?_⟩⟩⟩
  ·rw[QQ];exact hc (i*2) _ (by have:=flat_get jw 2 hk (0,0) cs i 0 hi (by omega); rw[Zf]at this; rw[this]; rfl)
  ·rw[QQ];exact hc (i*2+1) _ (by rw[flat_get jw 2 hk (0,0) cs i 1 hi (by omega)]; rfl)
theorem zf{ps:List az}(h:w.ownsRow base e 6 v n (ps.flatMap az.list))(hl:ps.length<=1000)(hp:∀ i,i<ps.length->(ps.getD i aT).Ok w):∃ ao cap,v=.slice ao ps.length cap/\PartsAt w ao ps:=by
 have hk:∀ a:az,a.list.length=6:=fun _=>rfl
 have hn:ps.length=n:=by have:=h.1; rw[ko az.list 6 hk]at this; omega
 rcases tZ h with⟨rfl,h0⟩ | ⟨g,cap,rfl,_,_,hc⟩
 ·have:ps=[]:=QL (by omega);subst this;exact⟨none,0,rfl,⟨by simp,fun i hi=>absurd hi (by simp)⟩⟩
 ·refine⟨some (aD g 0),cap,by rw[hn],⟨hl,fun i hi=>⟨⟨g,0,rfl,?_,?_,?_,?_,?_,?_⟩,hp i hi⟩⟩⟩ <;> rw[QQ]
  ·exact hc (i*6) _ (by have:=flat_get az.list 6 hk aT ps i 0 hi (by omega); rw[Zf]at this; rw[this]; rfl)
  ·exact hc (i*6+1) _ (by rw[flat_get az.list 6 hk aT ps i 1 hi (by omega)]; rfl)
  ·exact hc (i*6+2) _ (by rw[flat_get az.list 6 hk aT ps i 2 hi (by omega)]; rfl)
  ·exact hc (i*6+3) _ (by rw[flat_get az.list 6 hk aT ps i 3 hi (by omega)]; rfl)
  ·exact hc (i*6+4) _ (by rw[flat_get az.list 6 hk aT ps i 4 hi (by omega)]; rfl)
  ·exact hc (i*6+5) _ (by rw[flat_get az.list 6 hk aT ps i 5 hi (by omega)]; rfl)
theorem iG{P:Program}(W:World)(base:Nat)(t ty e:TypeId)(i:TypeInfo)(z:Value)(size bytes:Nat)(ht:P.underlying t=some (.slice e))(hi:P.info? e=some i)(hz:i.zero=some z)(hsize:i.size=size)(hby:i.bytes=bytes)(hzs:z.cells.size=size)(hsz:0<size)
  (v:Value) (n:Nat) (xs:List Value) (hown:W.ownsRow base e size v n xs) (hb:base<=W.heap.size) (news:List Value) (hl:news.length=size) (h1:∀ u∈news,u.oneCell' = true) (hn:n<=1000) (hbb:bytes<=1000) :
  ∃ v' w',(Builtin.append_ #[t,t] ty #[v,.slice (some (aD W.heap.size 0)) 1 1]).run P (W.alloc (.cells news.toArray e))=.ok v' w'/\w'.ownsRow base e size v' (n+1) (xs++news)/\Kept (fun b=>v.ownBlock≠some b) W w'/\(∃ a m c,v' = .slice a m c)/\(v'.ownBlock=v.ownBlock∨v'.ownBlock=some (W.heap.size+1)):=by
 obtain⟨v',w',hr,ho,hg,_,hat⟩:=run_append_own_at (P:=P) (W.alloc (.cells news.toArray e)) base t ty e i z size bytes ht hi hz hsize hby hzs hsz v n xs (hown.alloc _) (aD W.heap.size 0) 1 1 news (by rw[hl,Nat.one_mul])
  (fun j u hj=>by
   rw[addr_add,QQ];simp only[World.cell?,l6 W _]
   simpa using hj) h1 (by unfold maxLen; omega) (by have:(n+1)*bytes<=1001*1000:=Nat.mul_le_mul (by omega) hbb; omega) (by rw[Zt]; omega)
 exact⟨v',w',hr,ho,(Zr _ _).trans (ZM hg (fun r e hr=>hr e)),ZP ho,by rw[Zt]at hat; exact hat⟩
theorem NH(l:List Int):∀ m:Nat,l.foldl (fun m n=>m|||2 ^ n.toNat) m=m|||bE l:=by
 unfold bE
 induction l with
 | nil => intro m; simp
 | cons a l ih => intro m; rw[Q0,Q0,ih,ih (0|||_),Nat.zero_or,Nat.or_assoc]
theorem zZ(a b:List Int):bE (a++b)=bE a|||bE b:=by
 show (a++b).foldl _ 0=_
 rw[QZ,NH];rfl
def Xa:=@Tu
def Xb:=@PartsAt.below
def Xc:=@flat_get
def Xd:=@tZ
theorem WY(h:n<64):IntKind.u64.wrap ((2:Int) ^ n)=((2 ^ n:Nat):Int):=by
 have h1:((2:Int) ^ n)=((2 ^ n:Nat):Int):=by simp
 have h2:2 ^ n<2 ^ 64:=Xi (by omega) h;rw[h1];generalize 2 ^ n=m at *;simp only[IntKind.wrap,IntKind.bits,IntKind.signed];simp;omega
theorem afZ{s:Nat}(hs:s<18446744073709551616)(h:n<64):bits BinOp.or IntKind.u64 (s:Int) (IntKind.u64.wrap ((2:Int) ^ n))=((s|||2 ^ n:Nat):Int):=by
 rw[WY h];exact u64_or_nat s (2 ^ n) hs (Xi (by omega) h)
theorem Tw{l:List Int}(hk:k<l.length):bE (l.take (k+1))=bE (l.take k)|||2 ^ (l.getD k 0).toNat:=by
 have e:l.getD k 0=l[k]:=by simp[List.getD,hk]
 rw[Qr hk,S9,e]
theorem Gq{l:List Int}(h:∀ x∈l,0<=x/\x<64)(k:Nat):bE (l.take k)<18446744073709551616:=qy (n:=64) (fun x hx=>h x (Xj hx))
def WZ(l:List Nat):Nat:=l.foldl (· ||| ·) 0
theorem JN(hk:k<l.length):WZ (l.take (k+1))=WZ (l.take k)|||l.getD k 0:=by
 have e:l.getD k 0=l[k]:=by simp[List.getD,hk]
 rw[Qr hk,e];unfold WZ;rw[QZ];rfl
theorem af0(h:∀ x∈l,x<18446744073709551616):∀ k,WZ (l.take k)<18446744073709551616:=fun k=>by
 induction k with
 | zero => simp[WZ]
 | succ k ih =>
  by_cases hk:k<l.length
  ·rw[JN hk];have:l.getD k 0<18446744073709551616:=by
    have e:l.getD k 0=l[k]:=by simp[List.getD,hk]
    rw[e]; exact h _ (Qp hk)
   exact Xk (n:=64) ih this
  ·rw[Xl (by omega)];rw[Xl (by omega)]at ih;exact ih
theorem lN(a b:Nat)(ha:a<18446744073709551616)(hb:b<18446744073709551616)(w:World) :
  Ce 231 #[.int .u64 (a:Int),.int .u64 (b:Int)] w (.bool (aS a b)):=by
 have h1:=u64_andNot_nat b a hb ha;go_enter Tryz.func231,Tryz.ntmps231;go_wp2;go_ret;refine⟨Qg ?_,rfl⟩;unfold aS;generalize b &&& 18446744073709551615-a=x;rw[QI,beq_iff_eq,QJ];omega
theorem Fj(a b:Nat)(ha:a<18446744073709551616)(hb:b<18446744073709551616)(w:World) :
  Ce 265 #[.int .u64 (a:Int),.int .u64 (b:Int)] w (.bool (decide (a &&& b≠0))):=by
 have h1:=u64_and_nat a b ha hb;go_enter Tryz.func265,Tryz.ntmps265;go_wp2;go_ret;refine⟨Qg ?_,rfl⟩;generalize a &&& b=x;rw[QI,bne_iff_ne,QJ];omega
theorem NI(s n:Nat)(hs:s<18446744073709551616)(hn:n<64)(w:World) :
  Ce 234 #[.int .u64 (s:Int),.int .i64 n] w (.bool (s.testBit n)):=by
 go_enter Tryz.func234,Tryz.ntmps234;go_wp2;go_ret;refine⟨Qg ?_,rfl⟩;have h1:((s:Int) / 2 ^ n)=((s / 2 ^ n:Nat):Int):=by simp
 have h2:s / 2 ^ n<18446744073709551616:=Nat.lt_of_le_of_lt (Nat.div_le_self _ _) hs;have h3:=u64_and_nat (s / 2 ^ n) 1 h2 (by omega);rw[h1];have h4:bits BinOp.and IntKind.u64 ((s / 2 ^ n:Nat):Int) 1=((s / 2 ^ n &&& 1:Nat):Int):=h3;rw[h4,Nat.testBit,Nat.shiftRight_eq_div_pow,Nat.and_comm,QI,beq_iff_eq,bne_iff_ne,Nat.one_and_eq_mod_two];omega
theorem JO(n:Nat)(hn:n<64)(w:World) :
  Ce 124 #[.int .i64 n] w (.int .u64 ((2 ^ n-1:Nat):Int)):=by
 go_enter Tryz.func124,Tryz.ntmps124;go_wp2;go_ret;refine⟨Qh ?_,rfl⟩;have h1:((2:Int) ^ n)=((2 ^ n:Nat):Int):=by simp
 have h2:2 ^ n<2 ^ 64:=Xi (by omega) hn;have h3:0<2 ^ n:=Xm (by omega);rw[h1];generalize 2 ^ n=m at *;simp only[IntKind.wrap,IntKind.bits,IntKind.signed];simp;omega
theorem Fp(ao:Option Addr)(cap:Nat)(xs:List Int)(w:World)(hx:aB w ao xs)(hs:∀ x∈xs,0<=x/\x<64) :
  Ce 164 #[.slice ao xs.length cap] w (.int .u64 ((bE xs:Nat):Int)):=by
 have hl:=hx.1;have HX:Hid _:=hx;have HS:=Zh hs;have HE:Hid (bE (xs.take xs.length)=bE xs):=by show _=_; rw[QA]
 clear hx hs;go_enter Tryz.func164,Tryz.ntmps164;go_wp2;go_loopw [3,8] (fun sv iv wr=>∃ k:Nat,k<=xs.length/\iv=.int .i64 k/\(∃ s:Nat,sv=.int .u64 (s:Int)/\Hid (s=bE (xs.take k)))/\wr=w) (fun _ iv _=>xs.length-(intOf iv).toNat)
 case atStart=>exact⟨0,Q8 _,rfl,⟨0,rfl,rfl⟩,rfl⟩
 case round=>
  obtain⟨k,hk,rfl,⟨s,rfl,hs⟩,rfl⟩:=hrel;by_cases hlt:k<xs.length
  ·obtain⟨b,off,rfl,hc⟩:=Qj HX.o hlt;have hck:=hc k hlt;have hm:=HS.o _ (Z7 hlt (d:=0));have HT:=Zh (Tw hlt);have hsl:s<18446744073709551616:=by rw[hs.o]; exact Gq HS.o k
   clear hc;generalize xs.getD k 0=x at *;obtain⟨n,rfl⟩:=Xo hm.1;have hn:n<64:=by omega
   go_wp2;go_roundw
   case rel=>exact⟨k+1,by omega,by go_num,⟨s|||2 ^ n,by rw[afZ hsl hn],by show _=_; rw[HT.o,hs.o]; rfl⟩,trivial⟩
   case measure=>simp[intOf]; omega
  ·obtain rfl:k=xs.length:=by omega
   have HV:=Zh (hs.o.trans HE.o);clear hs;go_wp2;go_ret;exact⟨Qh (by rw[HV.o]),rfl⟩
theorem Tx(ao:Option Addr)(cap:Nat)(xs:List Nat)(w:World)(hx:fF w ao xs)(hs:∀ x∈xs,x<18446744073709551616) :
  Ce 195 #[.slice ao xs.length cap] w (.int .u64 ((WZ xs:Nat):Int)):=by
 have hl:=hx.1;have HX:Hid _:=hx;have HS:=Zh hs;have HE:Hid (WZ (xs.take xs.length)=WZ xs):=by show _=_; rw[QA]
 clear hx hs;go_enter Tryz.func195,Tryz.ntmps195;go_wp2;go_loopw [3,8] (fun sv iv wr=>∃ k:Nat,k<=xs.length/\iv=.int .i64 k/\(∃ s:Nat,sv=.int .u64 (s:Int)/\Hid (s=WZ (xs.take k)))/\wr=w) (fun _ iv _=>xs.length-(intOf iv).toNat)
 case atStart=>exact⟨0,Q8 _,rfl,⟨0,rfl,rfl⟩,rfl⟩
 case round=>
  obtain⟨k,hk,rfl,⟨s,rfl,hs⟩,rfl⟩:=hrel;by_cases hlt:k<xs.length
  ·obtain⟨b,off,rfl,hc⟩:=fF.get HX.o hlt;have hck:=hc k hlt;have hm:=HS.o _ (Z7 hlt (d:=0));have HT:=Zh (JN hlt);have hsl:s<18446744073709551616:=by rw[hs.o]; exact af0 HS.o k
   clear hc;generalize xs.getD k 0=x at *;have hor:=u64_or_nat s x hsl hm;go_wp2;go_roundw
   case rel=>exact⟨k+1,by omega,by go_num,⟨s|||x,rfl,by show _=_; rw[HT.o,hs.o]⟩,trivial⟩
   case measure=>simp[intOf]; omega
  ·obtain rfl:k=xs.length:=by omega
   have HV:=Zh (hs.o.trans HE.o);clear hs;go_wp2;go_ret;exact⟨Qh (by rw[HV.o]),rfl⟩
theorem jM(b:Nat)(x y:Nat)(w:World)(h0:w.cell? (aD b 0)=some (.int .u64 (x:Int)))(h1:w.cell? (aD b 1)=some (.int .u64 (y:Int)))(hx:x<18446744073709551616)(hy:y<18446744073709551616) :
  Ce 195 #[.slice (some (aD b 0)) 2 2] w (.int .u64 ((x|||y:Nat):Int)):=by
 have h:=Tx (some (aD b 0)) 2 [x,y] w ⟨by simp,fun i hi=>⟨b,0,rfl,by
  rw[QQ];have hi':i<2:=hi
  match i,hi' with
  | 0,_ => exact h0
  | 1,_ => exact h1⟩⟩ (fun z hz => by
  rcases Q4.1 hz with e | e
  ·omega
  ·rw[ZR]at e; omega)
 have e:WZ [x,y]=x|||y:=by unfold WZ; simp
 rw[e]at h;exact h
theorem uf(b:Nat)(n:Nat)(w:World)(h0:w.cell? (aD b 0)=some (.int .i64 (n:Int)))(hn:n<64) :
  Ce 164 #[.slice (some (aD b 0)) 1 1] w (.int .u64 ((2 ^ n:Nat):Int)):=by
 have h:=Fp (some (aD b 0)) 1 [(n:Int)] w ⟨by simp,fun i hi=>⟨b,0,rfl,by
  have hi':i<1:=hi;obtain rfl:i=0:=by omega
  exact h0⟩⟩ (fun z hz=>by rw[ZR]at hz; omega)
 rw[Br]at h;exact h
theorem xy(k:Int)(w:World):Ce 132 #[.int .i64 k] w (.bool (eD k)):=by
 have hO:eD k=(decide (k=7) || decide (k=8) || decide (k=9) || decide (k=10)):=by
  unfold eD;rw[QI];simp only[Qt,Bool.or_eq_true,QJ];omega
 by_cases h7:k=7
 ·subst h7;go_enter Tryz.func132,Tryz.ntmps132;go_wp2;go_ret;exact⟨rfl,rfl⟩
 by_cases h8:k=8
 ·subst h8;go_enter Tryz.func132,Tryz.ntmps132;go_wp2;go_ret;exact⟨rfl,rfl⟩
 by_cases h9:k=9
 ·subst h9;go_enter Tryz.func132,Tryz.ntmps132;go_wp2;go_ret;exact⟨rfl,rfl⟩
 by_cases h10:k=10
 ·subst h10;go_enter Tryz.func132,Tryz.ntmps132;go_wp2;go_ret;exact⟨rfl,rfl⟩
 have HO:Hid (eD k=false):=by show _=_; rw[hO,Ql h7,Ql h8,Ql h9,Ql h10]; rfl
 clear hO;go_enter Tryz.func132,Tryz.ntmps132;go_wp2;go_ret;exact⟨Qg HO.o.symm,rfl⟩
theorem Ty:∀ (f x:Nat),x<=f->x<2 ^ 64->lL x=Lib.bitLen x:=by
 intro f
 induction f with
 | zero =>
  intro x hx _;obtain rfl:x=0:=by omega
  rw[qA];rfl
 | succ f ih =>
  intro x hx h;by_cases h0:x=0
  ·subst h0;rw[qA];rfl
  ·rw[EZ (by omega),Lib.bitLen_half x h0 h,ih (x / 2) (by omega) (by omega),Nat.add_comm]
theorem NJ(x:Nat)(h:x<2 ^ 64):lL x<=64:=by
 have key:∀ (f x:Nat),x<2 ^ f->lL x<=f:=by
  intro f
  induction f with
  | zero =>
   intro x hx;obtain rfl:x=0:=by omega
   rw[qA]; omega
  | succ f ih =>
   intro x hx;by_cases h0:x=0
   ·subst h0; rw[qA]; omega
   ·rw[EZ (by omega)];have:=ih (x / 2) (by rw[Nat.pow_succ]at hx; omega);omega
 exact key 64 x h
theorem xz(l:List Nat):jD l<=bV:=by rw[Bb]; exact Nat.min_le_right _ _
theorem Ya(hk:k<l.length):(l.take (k+1)).sum=(l.take k).sum+l.getD k 0/\(l.take (k+1)).sum<=l.sum:=by
 have e:l.getD k 0=l[k]:=by simp[List.getD,hk]
 refine⟨by rw[Qr hk,e,List.sum_append]; simp,?_⟩;have h:l.sum=(l.take (k+1)).sum+(l.drop (k+1)).sum:=by rw[<- List.sum_append,List.take_append_drop]
 omega
theorem Tz{l:List Nat}{k:Nat}(hk:k<l.length)(h:bV-jD (l.take k)<l.getD k 0):jD l=bV:=by
 obtain⟨h1,h2⟩:=Ya hk;rw[Bb]at h ⊢;omega
theorem NK{l:List Nat}{k:Nat}(hk:k<l.length)(h:¬ bV-jD (l.take k)<l.getD k 0):jD (l.take (k+1))=jD (l.take k)+l.getD k 0:=by
 have e:l.getD k 0=l[k]:=by simp[List.getD,hk]
 have h1:jD (l.take (k+1))=xe (jD (l.take k)) (l.getD k 0):=by
  rw[Qr hk,e];unfold jD;rw[QZ];rfl
 have:=xz (l.take k);rw[h1];unfold xe;omega
theorem TA{a b:Nat}(h:0<a*b / 18446744073709551616):gD a b=18446744073709551615:=by
 unfold gD bV;omega
theorem TC{a b:Nat}(h:¬ 0<a*b / 18446744073709551616):gD a b=a*b % 18446744073709551616:=by
 unfold gD bV;omega
theorem NL(w:World)(xs:List Nat)(t:TypeId)(hl:xs.length<=1000):fF (w.alloc (.cells (xs.map fun (x:Nat)=>Value.int .u64 (x:Int)).toArray t)) (some (aD w.heap.size 0)) xs:=by
 refine⟨hl,fun i hi=>⟨w.heap.size,0,rfl,?_⟩⟩;simp only[World.cell?,l6 w _];simp[List.getD,hi]
def Tryz.JQ:Go.Shelf.Ren:=⟨fun | 129=>329 | 264=>328 | n=>n,fun | 3=>3 | 4=>4 | 5=>5 | 9=>9 | 46=>85 | 53=>36 | n=>n,fun | n=>n⟩
theorem Tryz.akg:Go.Proofs.Lays.n129 Tryz.prog Tryz.JQ:={
 mixed:=by kernel_rfl
 f129:=Tryz.func329.trans (congrArg some (by kernel_rfl))
 t3:=Tryz.underlying3
 a3:=Tryz.isAgg3
 z3:=Tryz.sizeOf3
 v3:=Tryz.zeroValue3
 t4:=Tryz.underlying4
 a4:=Tryz.isAgg4
 z4:=Tryz.sizeOf4
 v4:=Tryz.zeroValue4
 t5:=Tryz.underlying5
 a5:=Tryz.isAgg5
 z5:=Tryz.sizeOf5
 v5:=Tryz.zeroValue5
 t9:=Tryz.underlying9
 a9:=Tryz.isAgg9
 z9:=Tryz.sizeOf9
 v9:=Tryz.zeroValue9
 t46:=Tryz.underlying85
 a46:=Tryz.isAgg85
 z46:=Tryz.sizeOf85
 v46:=Tryz.zeroValue85
 t53:=Tryz.underlying36
 a53:=Tryz.isAgg36
 z53:=Tryz.sizeOf36
 v53:=Tryz.zeroValue36 }
theorem Tryz.akh:Go.Proofs.Lays.n264 Tryz.prog Tryz.JQ:={
 mixed:=by kernel_rfl
 f264:=Tryz.func328.trans (congrArg some (by kernel_rfl))
 t46:=Tryz.underlying85
 a46:=Tryz.isAgg85
 z46:=Tryz.sizeOf85
 v46:=Tryz.zeroValue85
 t53:=Tryz.underlying36
 a53:=Tryz.isAgg36
 z53:=Tryz.sizeOf36
 v53:=Tryz.zeroValue36 }
theorem TD(x:Nat)(w:World)(hx:x<=bV):Ce 329 #[.int .u64 (x:Int)] w (.int .i64 (lL x:Nat)):=by
 have h:=Go.Proofs.Any.bits_Len64 Tryz.akg (x:Int) w (by omega) (by unfold bV at hx; omega);have e:Lib.bitLen (x:Int).toNat=lL x:=by rw[Zj]; exact(Ty x x (Qx _) (by unfold bV at hx; omega)).symm
 rw[e]at h;exact h
theorem TE(x y:Nat)(w:World)(hx:x<=bV)(hy:y<=bV):Ce 328 #[.int .u64 (x:Int),.int .u64 (y:Int)] w (.tuple #[.int .u64 ((x*y / 18446744073709551616:Nat):Int),.int .u64 ((x*y % 18446744073709551616:Nat):Int)]):=
 Go.Proofs.Any.bits_Mul64 Tryz.akh x y (by unfold bV at hx; omega) (by unfold bV at hy; omega) w
theorem vD(a b:Nat)(w:World)(ha:a<=bV)(hb:b<=bV):Ce 267 #[.int .u64 (a:Int),.int .u64 (b:Int)] w (.int .u64 (gD a b:Nat)):=by
 have hm:=TE a b w ha hb;have HH:Hid _:=@TA a b;have HL:Hid _:=@TC a b;generalize a*b / 18446744073709551616=hi at *;generalize a*b % 18446744073709551616=lo at *;generalize gD a b=t at *;clear ha hb;go_enter Tryz.func267,Tryz.ntmps267;go_wp2_with fail;refine hm.mono ?_;clear hm;rintro e w2 ⟨rfl,rfl⟩;by_cases h:0<hi
 ·go_wp2;go_ret;exact⟨Qh (by rw[HH.o h]; rfl),rfl⟩
 ·go_wp2;go_ret;exact⟨Qh (by rw[HL.o h]),rfl⟩
theorem acj(ao:Option Addr)(cap:Nat)(xs:List Nat)(w:World)(hx:fF w ao xs)(hs:∀ x∈xs,x<=bV) :
  Ce 268 #[.slice ao xs.length cap] w (.int .u64 (jD xs:Nat)):=by
 have hl:=hx.1;have HX:Hid _:=hx;have HS:Hid _:=hs;have HE:Hid (jD (xs.take xs.length)=jD xs):=by show _=_; rw[QA]
 clear hx hs;go_enter Tryz.func268,Tryz.ntmps268;go_wp2;go_loopw [3,8] (fun sv iv wr=>∃ k:Nat,k<=xs.length/\iv=.int .i64 k/\(∃ s:Nat,sv=.int .u64 (s:Int)/\Hid (s=jD (xs.take k)))/\wr=w) (fun _ iv _=>xs.length-(intOf iv).toNat)
 case atStart=>exact⟨0,Q8 _,rfl,⟨0,rfl,rfl⟩,rfl⟩
 case round=>
  obtain⟨k,hk,rfl,⟨s,rfl,hs⟩,rfl⟩:=hrel;by_cases hlt:k<xs.length
  ·obtain⟨b,off,rfl,hc⟩:=fF.get HX.o hlt;have hck:=hc k hlt;have hm:=HS.o _ (Z7 hlt (d:=0));have HO:Hid _:=@Tz xs k hlt;have HT:Hid _:=@NK xs k hlt;have hsl:s<=18446744073709551615:=by rw[hs.o]; exact xz _
   rw[<- hs.o]at HO HT;have hm':xs.getD k 0<=18446744073709551615:=hm;clear hc hm;generalize xs.getD k 0=x at *;by_cases hov:18446744073709551615-s<x
   ·have HV:Hid (jD xs=18446744073709551615):=HO.o hov;clear HO HT hs;go_wp2;go_ret;exact⟨Qh (by rw[HV.o]; rfl),rfl⟩
   ·have HV:Hid _:=HT.o hov;clear HO HT hs;go_wp2;go_roundw
    case rel=>exact⟨k+1,by omega,by go_num,⟨s+x,by go_num,HV.o.symm⟩,trivial⟩
    case measure=>simp[intOf]; omega
  ·obtain rfl:k=xs.length:=by omega
   have HV:Hid (s=jD xs):=hs.o.trans HE.o;clear hs;go_wp2;go_ret;exact⟨Qh (by rw[HV.o]),rfl⟩
theorem BJ(w:World)(xs:List Nat)(hl:xs.length<=1000)(hs:∀ x∈xs,x<=bV) :
  Calls Tryz.prog 268 #[.slice (some (aD w.heap.size 0)) xs.length xs.length] (w.alloc (.cells (xs.map fun (x:Nat)=>Value.int .u64 (x:Int)).toArray 36)) fun e w'=>e=.returned (.int .u64 (jD xs:Nat))/\w' = w.alloc (.cells (xs.map fun (x:Nat)=>Value.int .u64 (x:Int)).toArray 36):=
 acj _ _ xs _ (NL w xs _ hl) hs
theorem af1(w:World)(a b:Nat)(ha:a<=bV)(hb:b<=bV) :
  Calls Tryz.prog 268 #[.slice (some (aD w.heap.size 0)) 2 2] (w.alloc (.cells #[.int .u64 (a:Int),.int .u64 (b:Int)] 36)) fun e w'=>e=.returned (.int .u64 (jD [a,b]:Nat))/\Bw w w':=
 (BJ w [a,b] (by simp) (fun x hx=>by simp at hx; rcases hx with rfl | rfl <;> assumption)).mono fun _ _ ⟨h1,h2⟩=>⟨h1,by rw[h2]; exact dn _ _⟩
theorem af2(w:World)(a b c:Nat)(ha:a<=bV)(hb:b<=bV)(hc:c<=bV) :
  Calls Tryz.prog 268 #[.slice (some (aD w.heap.size 0)) 3 3] (w.alloc (.cells #[.int .u64 (a:Int),.int .u64 (b:Int),.int .u64 (c:Int)] 36)) fun e w'=>e=.returned (.int .u64 (jD [a,b,c]:Nat))/\Bw w w':=
 (BJ w [a,b,c] (by simp) (fun x hx=>by simp at hx; rcases hx with rfl | rfl | rfl <;> assumption)).mono fun _ _ ⟨h1,h2⟩=>⟨h1,by rw[h2]; exact dn _ _⟩
theorem apY(w:World)(a b c d:Nat)(ha:a<=bV)(hb:b<=bV)(hc:c<=bV)(hd:d<=bV) :
  Calls Tryz.prog 268 #[.slice (some (aD w.heap.size 0)) 4 4] (w.alloc (.cells #[.int .u64 (a:Int),.int .u64 (b:Int),.int .u64 (c:Int),.int .u64 (d:Int)] 36)) fun e w'=>e=.returned (.int .u64 (jD [a,b,c,d]:Nat))/\Bw w w':=
 (BJ w [a,b,c,d] (by simp) (fun x hx=>by simp at hx; rcases hx with rfl | rfl | rfl | rfl <;> assumption)).mono fun _ _ ⟨h1,h2⟩=>⟨h1,by rw[h2]; exact dn _ _⟩
theorem Gs(k:Int)(l r s:Nat)(w:World)(hl:l<=bV)(hr:r<=bV)(hs:s<=bV) :
  Cb 269 #[.int .i64 k,.int .u64 (l:Int),.int .u64 (r:Int),.int .u64 (s:Int)] w (.int .u64 (uO k l r s:Nat)):=by
 by_cases h4:k=4
 ·subst h4;have h:=apY w l r r s hl hr hr hs;have hw:uO 4 l r s=jD [l,r,r,s]:=rfl;rw[hw];generalize jD [l,r,r,s]=x at *;clear hl hr hs hw;go_enter Tryz.func269,Tryz.ntmps269;go_wp2_with fail;refine h.mono ?_;clear h;rintro e w2 ⟨rfl,hb⟩;go_wp2;go_ret;exact⟨rfl,hb⟩
 by_cases h5:k=5
 ·subst h5;have h:=af2 w l r s hl hr hs;have hw:uO 5 l r s=jD [l,r,s]:=rfl;rw[hw];generalize jD [l,r,s]=x at *;clear hl hr hs hw;go_enter Tryz.func269,Tryz.ntmps269;go_wp2_with fail;refine h.mono ?_;clear h;rintro e w2 ⟨rfl,hb⟩;go_wp2;go_ret;exact⟨rfl,hb⟩
 have h:=vD l r w hl hr;have hw:uO k l r s=gD l r:=by unfold uO; rw[Qz h4,Qz h5]
 rw[hw];generalize gD l r=x at *;clear hl hr hs hw;go_enter Tryz.func269,Tryz.ntmps269;go_wp2_with fail;refine h.mono ?_;clear h;rintro e w2 ⟨rfl,rfl⟩;go_wp2;go_ret;exact⟨rfl,Qw _ _⟩
theorem Gt(l:Nat)(w:World)(hl:l<=bV) :
  Ce 270 #[.int .u64 (l:Int)] w (.int .u64 (gD l (lL l+1):Nat)):=by
 have h1:=TD l w hl;have hb:lL l<=64:=NJ l (by unfold bV at hl; omega);have h2:=vD l (lL l+1) w hl (by unfold bV; omega);generalize lL l=n at *;generalize gD l (n+1)=x at *;clear hl;go_enter Tryz.func270,Tryz.ntmps270;go_wp2_with fail;refine h1.mono ?_;clear h1;rintro e w2 ⟨rfl,rfl⟩;go_wp2_with fail;refine h2.mono ?_;clear h2;rintro e w3 ⟨rfl,rfl⟩;go_wp2;go_ret;exact⟨rfl,rfl⟩
theorem aB.take{ao:Option Addr}(h:aB w ao xs)(k:Nat):aB w ao (xs.take k):=by
 refine⟨by have:=h.1; rw[Zm]; omega,fun i hi=>?_⟩;rw[Zm]at hi;obtain⟨b,off,e,hc⟩:=h.2 i (by omega);refine⟨b,off,e,?_⟩;rw[hc];simp[List.getD,show i<k by omega,show i<xs.length by omega]
theorem JR{l:List Int}{k:Nat}(hk:k<l.length)(h:l.getD k 0≠k):oD l=false:=by
 unfold oD;rw[Qo];exact⟨k,Xq.2 hk,by rw[Ql h]; simp⟩
theorem JS{l:List Int}(h:∀ i,i<l.length->l.getD i 0=i):oD l=true:=by
 unfold oD;rw[Qu];exact fun i hi=>QD (h i (Xq.1 hi))
theorem TG(ao:Option Addr)(cap:Nat)(xs:List Int)(v:Int)(w:World)(hx:aB w ao xs) :
  Calls Tryz.prog 327 #[.slice ao xs.length cap,.int .i64 v] w fun e w'=>∃ r:Int,e=.returned (.int .i64 r)/\Hid (0<=r↔v∈xs)/\w' = w:=by
 have hl:=hx.1;go_enter Tryz.func327,Tryz.ntmps327;go_wp2;go_loop [8] (fun i=>∃ k:Nat,k<=xs.length/\i=.int .i64 k/\v ∉ xs.take k) (fun i=>xs.length-(intOf i).toNat)
 case atStart=>exact⟨0,Q8 _,rfl,by simp⟩
 case round=>
  obtain⟨k,hk,rfl,hn⟩:=hrel;by_cases hlt:k<xs.length
  ·obtain⟨b,off,rfl,hc⟩:=hx.get hlt;have h1:=hc k hlt;have HM:=Zh (DV (v:=v) hlt);have HN:Hid _:=hn;have HG:Hid (xs.getD k 0∈xs):=by
    show _∈_
    exact Z7 hlt
   clear hc hx hn;obtain⟨x,hxe⟩:=eY (xs.getD k 0)
   rw[<- hxe]at h1 HM HG;clear hxe;by_cases hv:v=x
   ·have hbv:(v==x)=true:=by simp[hv]
    go_wp2;go_ret;exact⟨k,rfl,⟨fun _=>HG.o,fun _=>by omega⟩,rfl⟩
   ·have hbv:(v==x)=false:=by simp[hv]
    go_wp2;go_round
    case rel=>exact⟨k+1,by omega,by go_num,fun e=>by
     rcases HM.o.1 e with e | e
     ·exact HN.o e
     ·exact hv e.symm⟩
    case measure=>simp[intOf]; omega
  ·have e:k=xs.length:=by omega
   rw[e,QA]at hn;have HN:Hid _:=hn;clear hn;go_wp2;go_ret;exact⟨-1,rfl,⟨fun h=>absurd h (by omega),fun h=>absurd h HN.o⟩,rfl⟩
theorem xA(ao:Option Addr)(cap:Nat)(xs:List Int)(v:Int)(w:World)(hx:aB w ao xs) :
  Ce 263 #[.slice ao xs.length cap,.int .i64 v] w (.bool (decide (v∈xs))):=by
 have h:=TG ao cap xs v w hx;clear hx;go_enter Tryz.func263,Tryz.ntmps263;go_wp2_with fail;refine h.mono ?_;clear h;rintro e w2 ⟨r,rfl,HB,rfl⟩;go_wp2;go_ret;exact⟨Qg (by rw[QI,QJ,QJ]; exact HB.o),rfl⟩
theorem Fq(ao bo:Option Addr)(cap cap':Nat)(xs ys:List Int)(w:World)(hx:aB w ao xs)(hy:aB w bo ys) :
  Cb 266 #[.slice ao xs.length cap,.slice bo ys.length cap'] w (.bool (decide (xs=ys))):=by
 have hl':=hy.1;by_cases hle:xs.length=ys.length
 ·have HLE:=Zh hle;have hne:((xs.length:Int) != (ys.length:Int))=false:=by rw[hle]; simp
  have hk':xs.length<=ys.length:=by omega
  clear hle;go_enter Tryz.func266,Tryz.ntmps266;go_wp2;go_loopw [13] (fun i wr=>∃ k:Nat,k<=xs.length/\i=.int .i64 k/\Hid (xs.take k=ys.take k)/\∃ n,wr=w.drewN n) (fun i _=>xs.length-(intOf i).toNat)
  case atStart=>exact⟨0,Q8 _,rfl,rfl,0,rfl⟩
  case round=>
   obtain⟨k,hk,rfl,HE,n,rfl⟩:=hrel;by_cases hlt:k<xs.length
   ·have af3:k<ys.length:=by omega
    obtain⟨b,off,rfl,hc⟩:=hx.get hlt;obtain⟨b',off',rfl,hc'⟩:=hy.get af3;have h1:=hc k hlt;have h2:=hc' k af3;clear hc hc' hx hy;obtain⟨x,hxe⟩:=eY (xs.getD k 0)
    obtain⟨y,hye⟩:=eY (ys.getD k 0)
    rw[<- hxe]at h1;rw[<- hye]at h2;have HX:=Zh hxe;have HY:=Zh hye;clear hxe hye;by_cases hv:x=y
    ·have hbv:(x != y)=false:=by simp[hv]
     go_wp2;go_quiet (fail);go_wp2;go_roundw
     case rel=>exact⟨k+1,by omega,by go_num,Gn hlt af3 HE.o (by rw[<- HX.o,<- HY.o]; exact hv),_,rfl⟩
     case measure=>simp[intOf]; omega
    ·have hbv:(x != y)=true:=by simp[hv]
     go_wp2;go_quiet (fail);go_wp2;go_ret;exact⟨Qg (Ql (fun e=>hv (by rw[HX.o,HY.o,e]))).symm,below_drewN (below_drewN (Qw _ _) _) _⟩
   ·have HK:Hid (k=xs.length):=by show _=_; omega
    go_wp2;go_ret;exact⟨Qg (by refine(QD ?_).symm; have:=HE.o; rw[HK.o,QA,HLE.o,QA]at this; exact this),below_drewN (Qw _ _) _⟩
 ·have hne:((xs.length:Int) != (ys.length:Int))=true:=by rw[bne_iff_ne]; omega
  have HLE:Hid _:=hle;clear hle;go_enter Tryz.func266,Tryz.ntmps266;go_wp2;go_ret;exact⟨Qg (Ql (fun e=>HLE.o (by rw[e]))).symm,Qw _ _⟩
theorem jI(ao bo:Option Addr)(cap cap':Nat)(xs ys:List Int)(w:World)(hx:aB w ao xs)(hy:aB w bo ys)(hcap:xs.length<=cap) :
  Cb 205 #[.slice ao xs.length cap,.slice bo ys.length cap'] w (.bool (aP xs ys)):=by
 have hl':=hy.1;by_cases hle:ys.length<=xs.length
 ·have HS:Hid (aP xs ys=decide (xs.take ys.length=ys)):=by
   show _=_
   unfold aP;rw[QD hle,QE]
  have hE:=Fq ao bo cap cap' (xs.take ys.length) ys w (hx.take _) hy;rw[Zm,QK hle]at hE;generalize aP xs ys=S at *;generalize decide (xs.take ys.length=ys)=B at *;clear hx hy;go_enter Tryz.func205,Tryz.ntmps205;go_wp2_with fail;refine hE.mono ?_;clear hE;rintro e w2 ⟨rfl,hb⟩;go_wp2;go_ret;exact⟨Qg HS.o.symm,hb⟩
 ·have HS:Hid (aP xs ys=false):=by
   show _=_
   unfold aP;rw[Ql hle,Qm]
  generalize aP xs ys=S at *;clear hx hy;go_enter Tryz.func205,Tryz.ntmps205;go_wp2;go_ret;exact⟨Qg HS.o.symm,Qw _ _⟩
theorem Gu(ao:Option Addr)(cap:Nat)(xs:List Int)(w:World)(hx:aB w ao xs) :
  Ce 210 #[.slice ao xs.length cap] w (.bool (oD xs)):=by
 have hl:=hx.1;have HB:Hid _:=@JR xs;have HA:Hid _:=@JS xs;generalize oD xs=C at *;go_enter Tryz.func210,Tryz.ntmps210;go_wp2;go_loop [7] (fun i=>∃ k:Nat,k<=xs.length/\i=.int .i64 k/\Hid (∀ j,j<k->xs.getD j 0=j)) (fun i=>xs.length-(intOf i).toNat)
 case atStart=>exact⟨0,Q8 _,rfl,fun j hj=>absurd hj (by omega)⟩
 case round=>
  obtain⟨k,hk,rfl,hn⟩:=hrel;by_cases hlt:k<xs.length
  ·obtain⟨b,off,rfl,hc⟩:=hx.get hlt;have h1:=hc k hlt;clear hc hx;have yO:=Zh (HB.o hlt);obtain⟨x,hxe⟩:=eY (xs.getD k 0)
   rw[<- hxe]at h1 yO;have HX:=Zh hxe;clear hxe;by_cases hv:x=(k:Int)
   ·have hbv:(x != (k:Int))=false:=by simp[hv]
    have HV:=Zh hv;clear hv;go_wp2;go_round
    case rel=>exact⟨k+1,by omega,by go_num,fun j hj=>by
     rcases Qq j k with h | h
     ·exact hn.o j h
     ·obtain rfl:j=k:=by omega
      rw[<- HX.o]; exact HV.o⟩
    case measure=>simp[intOf]; omega
   ·have hbv:(x != (k:Int))=true:=by simp[hv]
    have HV:=Zh (yO.o hv);go_wp2;go_ret;exact⟨Qg HV.o.symm,rfl⟩
  ·have HV:=Zh (HA.o (fun i hi=>hn.o i (by omega)));go_wp2;go_ret;exact⟨Qg HV.o.symm,rfl⟩
theorem TH(q:ae){k:Nat}(hk:k<q.ord.xs.length):(q.ord.xs.take (k+1)).map (fun p=>q.aV.xs.getD p.toNat 0)=(q.ord.xs.take k).map (fun p=>q.aV.xs.getD p.toNat 0)++[q.aV.xs.getD (q.ord.xs.getD k 0).toNat 0]:=by
 have e:q.ord.xs.getD k 0=q.ord.xs[k]:=by simp[List.getD,hk]
 rw[Qr hk,Qs,e];rfl
theorem mX{base':Nat}{size:Nat}{xs:List Value}(h:w.ownsRow base e size v n xs)(hb:base'<=base):w.ownsRow base' e size v n xs:=xq h hb (fun _ _ _=>rfl)
theorem xB{n:Int}(h:bN xs n=true)(hk:k<xs.length):0<=xs.getD k 0/\xs.getD k 0<n:=by
 unfold bN at h;rw[Qu]at h;have:=h _ (Z7 hk (d:=0))
 simpa using this
theorem nP(q:ae)(w:World)(hq:q.At w)(hos:bN q.ord.xs q.aV.xs.length=true)(hol:q.ord.xs.length<=1000) :
  Calls Tryz.prog 209 #[.agg q.cells] w fun e w'=>∃ v,e=.returned v/\w'.ownsRow w.heap.size 3 1 v (jg q).length ((jg q).map (Value.int .i64))/\Bw w w':=by
 obtain⟨w1,hw1⟩:∃ x,x=w.alloc (.cells q.cells 26):=⟨_,rfl⟩
 have hk1:Bw w w1:=by rw[hw1]; exact dn _ _
 have uI:GB w1 w.heap.size 26 q.cells:=by rw[hw1]; exact l6 _ _
 have q5:=uI.at 5;have q6:=uI.at 6;have hWC:=hw1.symm;have xC:Hid (aB w q.aV.ad q.aV.xs):=hq.aV;have HOR:Hid (aB w q.ord.ad q.ord.xs):=hq.ord;have HOS:=Zh hos;have HWT:Hid (∀ k,k<q.ord.xs.length->_):=fun k hk=>@TH q k hk
 have HWN:Hid (jg q=(q.ord.xs.take q.ord.xs.length).map (fun p=>q.aV.xs.getD p.toNat 0)):=by show _=_; rw[QA]; rfl
 have hsl:=hq.aV.1;have HL:Hid (∀ k,((q.ord.xs.take k).map (fun p=>q.aV.xs.getD p.toNat 0)).length<=1000):=fun k=>by rw[Zc,Zm]; omega
 clear hw1 uI hq hos;obtain⟨src,bY,aI,wh,group,keys,sums,⟨ea,ec,aV⟩,⟨oa,oc,ord⟩⟩:=q;unfold ae.cells ah.val at *;simp only at *;generalize jg ⟨src,bY,aI,wh,group,keys,sums,⟨ea,ec,aV⟩,⟨oa,oc,ord⟩⟩=WN at *;obtain⟨W,hW⟩:∃ W:Nat->List Int,W=fun k=>(ord.take k).map (fun p=>aV.getD p.toNat 0):=⟨_,rfl⟩
 have ap1:Hid (∀ k,k<ord.length->W (k+1)=W k++[aV.getD (ord.getD k 0).toNat 0]):=fun k hk=>by rw[hW]; exact HWT.o k hk
 have ap2:Hid (WN=W ord.length):=by show _=_; rw[hW]; exact HWN.o
 have HL':Hid (∀ k,(W k).length<=1000):=fun k=>by rw[hW]; exact HL.o k
 have HW0:Hid (W 0=[]):=by show _=_; rw[hW]; rfl
 clear hW HWT HWN HL;go_enter Tryz.func209,Tryz.ntmps209;go_wp2;clear hWC;go_loopw [3,9] (fun v iv wr=>∃ k:Nat,k<=ord.length/\iv=.int .i64 k/\Hid (wr.ownsRow w1.heap.size 3 1 v (W k).length ((W k).map (Value.int .i64)))/\Bw w1 wr) (fun _ iv _=>ord.length-(intOf iv).toNat)
 case atStart=>exact⟨0,Q8 _,rfl,by rw[HW0.o]; exact ZV _ _ _ _,Qw _ _⟩
 case round=>
  obtain⟨k,hk,rfl,HO,hbr⟩:=hrel;have q5':=cB hbr q5;by_cases hlt:k<ord.length
  ·have k1:=aA hk1 hbr;obtain⟨ob,oo,rfl,hoc⟩:=Qj HOR.o hlt;have hok:=cB k1 (hoc k hlt);have hpl:=xB HOS.o hlt;have HT:=Zh (ap1.o k hlt);have hlen:=HL'.o k;clear hoc;generalize ord.getD k 0=p at *;obtain⟨n,rfl⟩:=Xo hpl.1;have hn:n<aV.length:=by omega
   obtain⟨eb,eo,rfl,hec⟩:=Qj xC.o hn;have hek:=cB k1 (hec n hn);clear hec;rw[Zj]at HT;generalize aV.getD n 0=x at *;generalize hLk:W k=L at *;clear hLk;obtain⟨ra,rm,rc,rfl⟩:=ZP HO.o;obtain⟨v',w5,vE,ug,hk5,⟨ua,um,uc,rfl⟩,-⟩:=WU wr w1.heap.size (.slice ra rm rc) L HO.o (by omega) hbr.size x 23;have hb5:=hbr.trans (hk5.below hbr.size (fun b hb e=>by have:=(ZO HO.o e).1; omega));rw[<- HT.o]at ug;have BM:Hid _:=ug;have kF:=Zh hb5;clear ug hb5 hk5 HO HT;go_wp2_with (first | (at_builtin; refine Z8 rfl (.tmp 13) (.tmp 19) 23 rfl (.slice ra rm rc) (.slice (some (aD wr.heap.size 0)) 1 1) (.slice ua um uc) w5 rfl rfl vE ?_));clear vE;go_wp2;go_roundw
   case rel=>exact⟨k+1,by omega,by go_num,BM.o,kF.o⟩
   case measure=>simp[intOf]; omega
  ·obtain rfl:k=ord.length:=by omega
   rw[<- ap2.o]at HO;have HF:=Zh (mX HO.o hk1.size);have HB:=Zh (aA hk1 hbr);clear HO hbr;go_wp2;go_ret;exact⟨_,rfl,HF.o,HB.o⟩
structure ap3(q:ae)(kind:Int):Prop where
 places:kind=9->bN q.ord.xs q.aV.xs.length=true
 few:q.ord.xs.length<=1000
theorem xD(q:ae)(kind:Int)(oa:Option Addr)(oc:Nat)(order:List Int)(w:World)(hq:q.At w)(hk:ap3 q kind)(ho:aB w oa order)(hcap:order.length<=oc) :
  Cb 133 #[.agg q.cells,.int .i64 kind,.slice oa order.length oc] w (.bool (jh q kind order)):=by
 obtain⟨w1,hw1⟩:∃ x,x=w.alloc (.cells q.cells 26):=⟨_,rfl⟩
 have hk1:Bw w w1:=by rw[hw1]; exact dn _ _
 have uI:GB w1 w.heap.size 26 q.cells:=by rw[hw1]; exact l6 _ _
 obtain⟨q0,q1,q2,q3,q4,q5,q6⟩:=uI.k7;have hWC:=hw1.symm;have hol:=hq.ord.1;have hkl:=hq.keys.1;have nG:Hid (kind=9->_):=fun e=>nP q w1 (hq.below hk1) (hk.places e) hk.few
 have jk:Hid (∀ ba bc ys x,Bw w1 x->aB x ba ys->_):=fun ba bc ys x hb hy=>jI oa ba oc bc order ys x (Qv (aA hk1 hb) ho) hy hcap
 have HCU:Hid _:=Gu q.ord.ad q.ord.cap q.ord.xs w1 (Qv hk1 hq.ord);obtain⟨EP,hEP⟩:=eY (jh q kind order)
 rw[<- hEP];have JU:Hid ((jg q).length<=1000):=by show _<=_; unfold jg; rw[Zc]; exact hk.few
 unfold jh at hEP;have AJ:=Zh hEP;clear hEP;generalize jg q=WN at *;generalize oD q.ord.xs=CB at *;have oG:=Zh hk1;clear hw1 uI hq hk ho hk1;obtain⟨⟨sa,sc,src⟩,bY,aI,wh,group,⟨ka,kc,keys⟩,⟨ua,uc,sums⟩,⟨ea,ec,aV⟩,⟨da,dc,ord⟩⟩:=q;unfold ae.cells ah.val at *;simp only at *;by_cases c0:ord.length=0
 ·have HV:Hid (EP=true):=by show _=_; rw[AJ.o,Qy c0]
  have si:((ord.length:Int)==0)=true:=by rw[c0]; rfl
  clear AJ HCU nG jk c0;go_enter Tryz.func133,Tryz.ntmps133;go_wp2;go_ret;exact⟨Qg HV.o.symm,oG.o⟩
 rw[Qz c0]at AJ;have si:((ord.length:Int)==0)=false:=by rw[Xr]; omega
 clear c0;by_cases k10:kind=10
 ·have HV:Hid (EP=true):=by show _=_; rw[AJ.o,Qy k10]
  subst k10;clear AJ HCU nG jk;go_enter Tryz.func133,Tryz.ntmps133;go_wp2;go_ret;exact⟨Qg HV.o.symm,oG.o⟩
 rw[Qz k10]at AJ;by_cases k9:kind=9
 ·have HV:Hid (EP=aP order WN):=by show _=_; rw[AJ.o,Qy k9]
  have DX:=nG.o k9;subst k9;clear AJ HCU nG;go_enter Tryz.func133,Tryz.ntmps133;go_wp2_with fail;refine DX.mono ?_;clear DX;rintro e w2 ⟨v,rfl,hown,hb2⟩;obtain⟨ya,yc,rfl,hya⟩:=WW hown (by have:=JU.o; omega);have hBE:=jk.o ya yc WN w2 hb2 hya;rw[<- HV.o]at hBE;have HB2:=Zh (aA oG.o hb2);clear jk hown hya hb2;go_wp2_with fail;refine hBE.mono ?_;clear hBE;rintro e w3 ⟨rfl,hb3⟩;have HB3:=Zh (aA HB2.o hb3);clear hb3;go_wp2;go_ret;exact⟨rfl,HB3.o⟩
 rw[Qz k9]at AJ;by_cases k8:kind=8
 ·rw[Qy k8]at AJ;subst k8;by_cases hle:ord.length<=keys.length
  ·have HV:Hid (EP=CB):=by show _=_; rw[AJ.o,QD hle,QE]
   have hCU:=HCU.o;clear AJ HCU nG jk;go_enter Tryz.func133,Tryz.ntmps133;go_wp2_with fail;refine Xt hCU ?_;clear hCU;rintro e w2 ⟨rfl,rfl⟩;go_wp2;go_ret;exact⟨Qg HV.o.symm,oG.o⟩
  ·have HV:Hid (EP=false):=by show _=_; rw[AJ.o,Ql hle,Qm]
   clear AJ HCU nG jk;go_enter Tryz.func133,Tryz.ntmps133;go_wp2;go_ret;exact⟨Qg HV.o.symm,oG.o⟩
 ·have HV:Hid (EP=false):=by show _=_; rw[AJ.o,Qz k8]
  clear AJ HCU nG jk;go_enter Tryz.func133,Tryz.ntmps133;go_wp2;go_ret;exact⟨Qg HV.o.symm,oG.o⟩
def kH(kind:Int)(ps:List az):Bool:=ps.all fun p=>eD p.kind==decide (kind=10)
theorem NM{kind:Int}{ps:List az}{k:Nat}(hk:k<ps.length)(h:(eD (ps.getD k aT).kind==decide (kind=10))=false):kH kind ps=false:=by
 unfold kH;rw[Qo];exact⟨_,Z7 hk,by rw[h]; simp⟩
theorem NN{kind:Int}{ps:List az}(h:∀ i,i<ps.length->(eD (ps.getD i aT).kind==decide (kind=10))=true):kH kind ps=true:=by
 unfold kH;rw[Qu];intro p hp;obtain⟨i,hi,rfl⟩:=QC hp;have:=h i hi
 simpa [List.getD,hi] using this
def vF(ts:List af)(q:ae)(l:List Int)(s i:Nat):Bool:=
 decide ((if i=0 then -1 else l.getD (i-1) 0)<l.getD i 0)&&decide (l.getD i 0<q.wh.length)&&aS s (bE (dD ts q.src.xs (q.wh.getD (l.getD i 0).toNat lz).cs))
theorem Gv(kind:Int)(ao:Option Addr)(cap:Nat)(ps:List az)(w:World)(hp:PartsAt w ao ps) :
  Cb 129 #[.int .i64 kind,.slice ao ps.length cap] w (.bool (kH kind ps)):=by
 have hl:=hp.1;have HB:Hid _:=@NM kind ps;have HA:Hid _:=@NN kind ps;have HP:Hid _:=hp;generalize kH kind ps=KL at *;clear hp;go_enter Tryz.func129,Tryz.ntmps129;go_wp2;go_loopw [9] (fun iv wr=>∃ k:Nat,k<=ps.length/\iv=.int .i64 k/\Hid (∀ j,j<k->(eD (ps.getD j aT).kind==decide (kind=10))=true)/\Bw w wr) (fun iv _=>ps.length-(intOf iv).toNat)
 case atStart=>exact⟨0,Q8 _,rfl,fun j hj=>absurd hj (by omega),Qw _ _⟩
 case round=>
  obtain⟨k,hk,rfl,HJ,hbr⟩:=hrel;by_cases hlt:k<ps.length
  ·obtain⟨⟨b,off,rfl,c0,c1,c2,c3,c4,c5⟩,_⟩:=HP.o.2 k hlt;have d0:=cB hbr c0;have d1:=cB hbr c1;have d2:=cB hbr c2;have d3:=cB hbr c3;have d4:=cB hbr c4;have d5:=cB hbr c5;have yO:=Zh (HB.o hlt);have HG:Hid (∀ p,p=ps.getD k aT->(eD p.kind==decide (kind=10))=true->∀ j,j<k+1->(eD (ps.getD j aT).kind==decide (kind=10))=true):=fun p hp h j hj=>by
    rcases Qq j k with h' | h'
    ·exact HJ.o j h'
    ·obtain rfl:j=k:=by omega
     rw[<- hp]; exact h
   clear c0 c1 c2 c3 c4 c5 HB HJ;obtain⟨p,hp⟩:=eY (ps.getD k aT)
   rw[<- hp]at d0 d1 d2 d3 d4 d5 yO;have HPP:=Zh hp;clear hp;obtain⟨pk,psr,pcl,⟨pa,pc,px⟩,psz,pct⟩:=p;unfold ah.val at *;simp only at *;have hO:=fun x=>xy pk x
   obtain⟨O,hOe⟩:=eY (eD pk)
   rw[<- hOe]at yO hO;have HOE:=Zh hOe;clear hOe;have hbx:Bw w (wr.alloc (.cells #[.int .i64 pk,.int .u64 (psr:Int),.int .u64 (pcl:Int),.slice pa px.length pc,.int .u64 (psz:Int),.int .u64 (pct:Int)] 95)):=aA hbr (dn _ _);have ou:=Zh hbx;clear hbx;have hkd:decide (kind=10)=(kind==10):=by rw[QI]; simp
   by_cases heq:(O==decide (kind=10))=true
   ·have hne:(!(O==(kind==10)))=false:=by rw[<- hkd,heq]; rfl
    clear hkd;have HN:=Zh (HG.o _ HPP.o (by rw[<- HOE.o]; exact heq));clear heq HG yO;go_wp2_with fail;refine(hO _).mono ?_;rintro e w2 ⟨rfl,rfl⟩;go_wp2;go_roundw
    case rel=>exact⟨k+1,by omega,by go_num,HN.o,ou.o⟩
    case measure=>simp[intOf]; omega
   ·have heq':(O==decide (kind=10))=false:=by simpa using heq
    have HV:=Zh (yO.o heq');have hne:(!(O==(kind==10)))=true:=by rw[<- hkd,heq']; rfl
    clear hkd;clear heq heq' HG yO;go_wp2_with fail;refine(hO _).mono ?_;rintro e w2 ⟨rfl,rfl⟩;go_wp2;go_ret;exact⟨Qg HV.o.symm,ou.o⟩
  ·have HV:=Zh (HA.o (fun i hi=>HJ.o i (by omega)));clear HB HA HJ;go_wp2;go_ret;exact⟨Qg HV.o.symm,hbr⟩
