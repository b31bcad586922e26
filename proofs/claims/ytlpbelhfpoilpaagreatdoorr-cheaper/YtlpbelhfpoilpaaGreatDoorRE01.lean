import Derived.Test.YtlpbelhfpoilpaaGreatDoorRE00
set_option linter.all false
set_option maxRecDepth 100000
set_option maxHeartbeats 16000000
namespace Go.Proofs.Zz
open Go.RowKit Go.Shelf
variable {l src:List Int} {a b m n:Nat} {ts:List af}
def bE(l:List Int):Nat:=l.foldl (fun m n=>m|||2 ^ n.toNat) 0
theorem S9(l:List Int)(x:Int):bE (l++[x])=bE l|||2 ^ x.toNat:=by
 unfold bE;rw[QZ];rfl
theorem Ta(l:List Int):∀ (m i:Nat),(∀ x∈l,0<=x)->(l.foldl (fun m n=>m|||2 ^ n.toNat) m).testBit i=(m.testBit i || decide ((i:Int)∈l)):=by
 induction l with
 | nil => intro m i _; simp
 | cons a l ih =>
  intro m i h;have ha:=h a (by simp);rw[Q0,ih _ _ (fun x hx=>h x (by simp[hx])),Q3,Nat.testBit_two_pow,Bool.or_assoc];congr 1;rw[QI];simp only[Bool.or_eq_true,QJ,Q4];constructor
  ·rintro (h1 | h1)
   ·left; omega
   ·right; exact h1
  ·rintro (h1 | h1)
   ·left; omega
   ·right; exact h1
theorem Bp(h:∀ x∈l,0<=x)(i:Nat):(bE l).testBit i=decide ((i:Int)∈l):=by
 unfold bE;rw[Ta l 0 i h,Nat.zero_testBit,Bool.false_or]
theorem qy:∀ {l:List Int},(∀ x∈l,0<=x/\x<n)->bE l<2 ^ n:=fun {l} h=>by
 apply Nat.lt_pow_two_of_testBit;intro i hi;rw[Bp (fun x hx=>(h x hx).1),Qk];intro hm;have:=(h _ hm).2;omega
theorem Bq(hb:b<18446744073709551616)(i:Nat)(hi:i<64):(a &&& (18446744073709551615-b)).testBit i=(a.testBit i && !b.testBit i):=by
 have e:18446744073709551615-b=2 ^ 64-(b+1):=by omega
 rw[Nat.testBit_and,e,Nat.testBit_two_pow_sub_succ (by omega)];simp[hi]
theorem Nt(ha:a<18446744073709551616)(hb:b<18446744073709551616):(b &&& (18446744073709551615-a)=0)↔∀ i,b.testBit i=true->a.testBit i=true:=by
 constructor
 ·intro h i hi;have hi':i<64:=by
   have h1:b<2 ^ 64:=by omega
   by_cases hl:i<64
   ·exact hl
   ·rw[Q5 (Q6 h1 (Q7 (by omega) (by omega)))]at hi
    cases hi
  have h2:=Bq (a:=b) ha i hi';rw[h,Nat.zero_testBit,hi,QE]at h2
  cases hc:a.testBit i with
  | true => rfl
  | false => rw[hc]at h2; cases h2
 ·intro h;apply Nat.eq_of_testBit_eq;intro i;rw[Nat.zero_testBit];by_cases hi:i<64
  ·rw[Bq ha i hi]
   cases hc:b.testBit i with
   | false => rfl
   | true => rw[h i hc]; rfl
  ·have h1:b<2 ^ 64:=by omega
   rw[Nat.testBit_and,Q5 (x:=b) (Q6 h1 (Q7 (by omega) (by omega)))];rfl
def bV:Nat:=18446744073709551615
def xe(a b:Nat):Nat:=min (a+b) bV
def gD(a b:Nat):Nat:=min (a*b) bV
theorem WJ(a b:Nat):xe a b<=bV:=Nat.min_le_right _ _
theorem yY(a b:Nat):gD a b<=bV:=Nat.min_le_right _ _
def jD(l:List Nat):Nat:=l.foldl xe 0
theorem JE:∀ (l:List Nat) (m:Nat),m<=bV->l.foldl xe m=min (m+l.sum) bV
 | [],m,h => by simp only[List.foldl_nil,List.sum_nil,Nat.min_def]; split <;> omega
 | a::l,m,_ => by
  rw[Q0,JE l _ (WJ _ _),List.sum_cons];unfold xe;simp only[Nat.min_def]
  repeat' split
  all_goals omega
theorem Bb(l:List Nat):jD l=min l.sum bV:=by
 unfold jD;rw[JE l 0 (Q8 _),QQ]
def lL(v:Nat):Nat:=if v=0 then 0 else lL (v / 2)+1
theorem qA:lL 0=0:=by rw[lL]; rfl
theorem EZ{v:Nat}(h:0<v):lL v=lL (v / 2)+1:=by rw[lL,Qz (by omega)]
def bS(ts:List af)(src:List Int)(n:Nat):List (Nat × Int):=
 (List.range n).flatMap fun s=>(List.range (ts.getD (src.getD s 0).toNat tz).aO.toNat).map fun m=>(s,(ts.getD (src.getD s 0).toNat tz).kd m)
theorem kN(ts:List af)(src:List Int)(n:Nat):bS ts src (n+1)=bS ts src n++(List.range (ts.getD (src.getD n 0).toNat tz).aO.toNat).map fun m=>(n,(ts.getD (src.getD n 0).toNat tz).kd m):=by
 unfold bS;rw[Q9,Za];simp
theorem qB{ts:List af}{src:List Int}(hc:gI ts=true)(ha:bN src ts.length=true):∀ n,n<=src.length->((bS ts src n).length:Int)=aJ ts (src.take n)
 | 0,_ => by simp[bS,aJ]
 | n+1,hn => by
  have ih:=qB hc ha n (by omega);have h1:=mV ha (k:=n) (by omega);have h2:=qx hc (i:=(src[n]'(by omega)).toNat) (by omega);have e:src.getD n 0=src[n]'(by omega):=by simp[List.getD,show n<src.length by omega]
  rw[kN,kM ts src n (by omega),Zb,Zc,Zd,e];omega
theorem E8{ts:List af}{src:List Int}(hc:gI ts=true)(ha:bN src ts.length=true):∀ n,n<=src.length->∀ c:Nat,c<(bS ts src n).length->
  ∃ s,s<n/\aJ ts (src.take s)<=c/\(c:Int)<aJ ts (src.take (s+1))/\(bS ts src n).getD c (0,0)=(s,(ts.getD (src.getD s 0).toNat tz).kd (c-(aJ ts (src.take s)).toNat))
 | 0,_,c,h => by simp[bS]at h
 | n+1,hn,c,h => by
  have hl:=qB hc ha n (by omega);by_cases hlt:c<(bS ts src n).length
  ·obtain⟨s,h1,h2,h3,h4⟩:=E8 hc ha n (by omega) c hlt;refine⟨s,by omega,h2,h3,?_⟩;rw[kN,<- h4];simp[List.getD,QR hlt]
  ·have h1:=mV ha (k:=n) (by omega);have h2:=qx hc (i:=(src[n]'(by omega)).toNat) (by omega);have e:src.getD n 0=src[n]'(by omega):=by simp[List.getD,show n<src.length by omega]
   rw[kN,Zb,Zc,Zd]at h;refine⟨n,by omega,by omega,?_,?_⟩
   ·rw[kM ts src n (by omega),<- e];rw[<- e]at h1 h2;omega
   ·rw[kN];have e2:(aJ ts (src.take n)).toNat=(bS ts src n).length:=by omega
    rw[e2];generalize ts.getD (src.getD n 0).toNat tz=T at h ⊢;simp only[List.getD];rw[QS (by omega),Ze,List.getElem?_range (by omega)];rfl
def aY(ts:List af)(src:List Int)(c:Int):Nat:=((bS ts src src.length).getD c.toNat (0,0)).1
def jT(ts:List af)(src:List Int)(c:Int):Int:=((bS ts src src.length).getD c.toNat (0,0)).2
theorem nJ(hc:gI ts=true)(ha:bN src ts.length=true){c:Int}(h0:0<=c)(hl:c<aJ ts src) :
  aY ts src c<src.length/\aJ ts (src.take (aY ts src c))<=c/\c<aJ ts (src.take (aY ts src c+1))/\
   jT ts src c=(ts.getD (src.getD (aY ts src c) 0).toNat tz).kd (c.toNat-(aJ ts (src.take (aY ts src c))).toNat):=by
 have hw:=qB hc ha src.length (Qx _);rw[QA]at hw;obtain⟨s,h1,h2,h3,h4⟩:=E8 hc ha src.length (Qx _) c.toNat (by omega);have e:aY ts src c=s:=by unfold aY; rw[h4]
 have e2:jT ts src c=(ts.getD (src.getD s 0).toNat tz).kd (c.toNat-(aJ ts (src.take s)).toNat):=by unfold jT; rw[h4]
 rw[e];exact⟨h1,by omega,by omega,e2⟩
section
variable {inp:Nat->List Nat}
def gF(n:Nat)(f:Nat->Nat):Nat:=((List.range n).map f).sum
theorem gJ(n:Nat)(f:Nat->Nat):gF (n+1) f=gF n f+f n:=by
 unfold gF;rw[Q9,Qs,List.sum_append];simp
theorem Nu(n:Nat)(f g:Nat->Nat):gF n (fun i=>f i+g i)=gF n f+gF n g:=by
 induction n with
 | zero => rfl
 | succ n ih => rw[gJ,gJ,gJ,ih]; omega
theorem zW(n:Nat):gF n (fun _=>0)=0:=by
 induction n with
 | zero => rfl
 | succ n ih => rw[gJ,ih]
theorem qD{f g:Nat->Nat}(h:∀ i,i<n->f i=g i):gF n f=gF n g:=by
 induction n with
 | zero => rfl
 | succ n ih => rw[gJ,gJ,ih (fun i hi => h i (by omega)),h n (by omega)]
theorem Nv(hm:m<n)(f:Nat->Nat):gF n (fun i=>(if i=m then 1 else 0)*f i)=f m:=by
 induction n with
 | zero => omega
 | succ n ih =>
  rw[gJ];by_cases h:m<n
  ·rw[ih h,Qz (by omega),QP,Zf]
  ·obtain rfl:m=n:=by omega
   have e:gF m (fun i=>(if i=m then 1 else 0)*f i)=0:=
    (qD (g:=fun _=>0) fun i hi=>by rw[Qz (by omega),QP]).trans (zW m)
   rw[e,Qy rfl,Nat.one_mul,QQ]
end
theorem xg{n:Nat}:∀ {l:List Nat},(∀ k∈l,k<n)->gF n (fun k=>l.count k)=l.length
 | [],_ => zW n
 | a::l,h => by
  have h1:=xg (n:=n) (l:=l) (fun k hk=>h k (by simp[hk]));have h2:=Nv (h a (by simp)) (fun _=>1);rw[Zg,<- h1];rw[show gF n (fun k=>l.count k)+1=gF n (fun k=>l.count k)+gF n (fun k=>(if k=a then 1 else 0)*1) by rw[h2],<- Nu];apply qD;intro k _;rw[List.count_cons];by_cases hk:k=a
  ·subst hk; simp
  ·have hk':¬ a=k:=fun e=>hk e.symm
   simp[hk,hk']
section
variable {inp:Nat->List Nat}
end
structure ai where
 kind:Int
 l:Int
 r:Int
 source:Int
 cl:ah
 key:Int
 co:ah
def nz:ai:=⟨0,0,0,0,⟨none,0,[]⟩,0,⟨none,0,[]⟩⟩
def kE(w:World)(ao:Option Addr)(ns:List ai):Prop:=
 ns.length<=164703072086692425/\∀ i,i<ns.length->∃ b off,ao=some (aD b off)/\
  w.cell? (aD b (off+i*7))=some (.int .i64 (ns.getD i nz).kind)/\w.cell? (aD b (off+i*7+1))=some (.int .i64 (ns.getD i nz).l)/\
  w.cell? (aD b (off+i*7+2))=some (.int .i64 (ns.getD i nz).r)/\w.cell? (aD b (off+i*7+3))=some (.int .i64 (ns.getD i nz).source)/\
  w.cell? (aD b (off+i*7+4))=some (ns.getD i nz).cl.val/\w.cell? (aD b (off+i*7+5))=some (.int .i64 (ns.getD i nz).key)/\
  w.cell? (aD b (off+i*7+6))=some (ns.getD i nz).co.val/\(ns.getD i nz).cl.At w/\(ns.getD i nz).co.At w
def ai.same(a b:ai):Prop:=a.kind=b.kind/\a.l=b.l/\a.r=b.r/\a.source=b.source/\a.cl.xs=b.cl.xs/\a.key=b.key/\a.co.xs=b.co.xs
def Rz(l m:List Int):List Int:=m.foldl (fun out x=>if x∈out then out else out++[x]) l
def aN(c:aC):List Int:=if c.op≠2/\c.const=false then [c.left,c.right] else [c.left]
def cO(cs:List aC):List Int:=cs.flatMap aN
def jE(ts:List af)(src:List Int)(cs:List aC):Nat:=
 if cs.length≠1∨(cs.getD 0 cz).not=true then 2
 else if (cs.getD 0 cz).op=1 then 3
 else if (cs.getD 0 cz).op=2 then 10
 else if (cs.getD 0 cz).const=true then (jT ts src (cs.getD 0 cz).left).toNat
 else max (jT ts src (cs.getD 0 cz).left).toNat (jT ts src (cs.getD 0 cz).right).toNat
def rE(ts:List af)(src:List Int)(s:Int):Nat:=(ts.getD (src.getD s.toNat 0).toNat tz).rows.toNat
def aP(l m:List Int):Bool:=decide (m.length<=l.length)&&decide (l.take m.length=m)
def arity(kind:Int):Nat:=if kind=1 then 0 else if 3<=kind/\kind<=5 then 2 else 1
def inpN(plan:List ai)(i:Nat):List Nat:=
 let n:=plan.getD i nz
 if arity n.kind=0 then []
 else if arity n.kind=1 then (if 0<=n.l/\n.l<i then [n.l.toNat] else [])
 else (if 0<=n.l/\n.l<i/\0<=n.r/\n.r<i then [n.l.toNat,n.r.toNat] else [])
theorem Nw(l:List Int)(a:Int)(m:List Int):Rz l (a::m)=Rz (if a∈l then l else l++[a]) m:=rfl
theorem E9{x:Int}:∀ {m l:List Int},x∈Rz l m↔x∈l∨x∈m
 | [],l => by show x∈l↔_; simp
 | a::m,l => by
  rw[Nw,E9];split
  ·rename_i h
   constructor
   ·rintro (e | e)
    ·exact .inl e
    ·exact .inr (by simp[e])
   ·rintro (e | e)
    ·exact .inl e
    ·rcases Q4.1 e with e | e
     ·left; rw[e]; exact h
     ·exact .inr e
  ·rw[ZT,ZR,Q4];constructor
   ·rintro ((e | e) | e)
    ·exact .inl e
    ·exact .inr (.inl e)
    ·exact .inr (.inr e)
   ·rintro (e | e | e)
    ·exact .inl (.inl e)
    ·exact .inl (.inr e)
    ·exact .inr e
def gG(n:Nat)(l:List Int):Prop:=∀ x∈l,0<=x/\x<(n:Int)
theorem gG.with{n:Nat}{l m:List Int}(hl:gG n l)(hm:gG n m):gG n (Rz l m):=fun x hx=>by
 rcases E9.1 hx with h | h
 ·exact hl x h
 ·exact hm x h
theorem gG.lt(hn:n<=64)(h:gG n l):bE l<18446744073709551616:=by
 have h1:=qy (n:=n) h;have h2:2 ^ n<=2 ^ 64:=Q7 (by omega) hn;omega
def aR(s:Nat):List Nat:=(List.range 64).filter fun i=>s.testBit i
theorem Gh(hnm:n<=m)(p:Nat->Bool)(h:∀ i,n<=i->p i=false):(List.range m).filter p=(List.range n).filter p:=by
 induction m with
 | zero =>
  obtain rfl:n=0:=by omega
  rfl
 | succ m ih =>
  by_cases e:n=m+1
  ·rw[e]
  ·rw[Q9,List.filter_append,ih (by omega),List.filter_cons_of_neg (by rw[h m (by omega)]; simp)];simp
structure bZ where
 kind:Int
 sources:Nat
 clauses:Nat
 order:List Int
 size:Nat
 cost:Nat
def aS(a b:Nat):Bool:=decide (b &&& (18446744073709551615-a)=0)
def dD(ts:List af)(src:List Int)(cs:List aC):List Int:=(cO cs).map fun c=>(aY ts src c:Int)
def iW(ts:List af)(q:ae)(l:List Int)(s:Nat):Bool:=
 (List.range l.length).all fun i=>decide ((if i=0 then -1 else l.getD (i-1) 0)<l.getD i 0)&&decide (l.getD i 0<q.wh.length)&&aS s (bE (dD ts q.src.xs (q.wh.getD (l.getD i 0).toNat lz).cs))
theorem oV(hc:gI ts=true)(ha:bN src ts.length=true){cs:List aC}(h:∀ c∈cO cs,0<=c/\c<aJ ts src):gG src.length (dD ts src cs):=fun x hx=>by
 obtain⟨c,hm,rfl⟩:=Zi.1 hx;obtain⟨h0,h1⟩:=h c hm;have:=(nJ hc ha h0 h1).1;omega
def Fa(ts:List af)(q:ae):Prop:=∀ i,i<q.wh.length->∀ c∈cO (q.wh.getD i lz).cs,0<=c/\c<aJ ts q.src.xs
theorem Br(k:Nat):bE [(k:Int)]=2 ^ k:=by
 unfold bE;rw[Q0,List.foldl_nil,Nat.zero_or,Zj]
def RF(ts:List af)(src:List Int)(cs:List aC)(a b:Nat):Int × Int × Bool:=
 if cs.length > 1∨(cs.getD 0 cz).op≠0∨(cs.getD 0 cz).not=true∨(cs.getD 0 cz).const=true then (0,0,false)
 else if (aS a (2 ^ aY ts src (cs.getD 0 cz).left)&&aS b (2 ^ aY ts src (cs.getD 0 cz).right))=true then ((cs.getD 0 cz).left,(cs.getD 0 cz).right,true)
 else if (aS a (2 ^ aY ts src (cs.getD 0 cz).right)&&aS b (2 ^ aY ts src (cs.getD 0 cz).left))=true then ((cs.getD 0 cz).right,(cs.getD 0 cz).left,true)
 else (0,0,false)
def lM(ts:List af)(src aO:List Int)(s:Nat):Bool:=
 decide (0<aO.length)&&decide ((aO.length:Int)<=aJ ts src) &&
  (List.range aO.length).all fun i=>decide (0<=aO.getD i 0)&&decide (aO.getD i 0<aJ ts src) && !decide (aO.getD i 0∈aO.take i)&&aS s (2 ^ aY ts src (aO.getD i 0))
theorem Gi{xs:List Int}{i:Nat}(hi:i<xs.length){x:Int}:x∈xs.take i↔∃ j,j<i/\xs.getD j 0=x:=by
 rw[List.mem_take_iff_getElem];constructor
 ·rintro⟨j,hj,e⟩;refine⟨j,by omega,?_⟩;rw[<- e];simp[List.getD,show j<xs.length by omega]
 ·rintro⟨j,hj,e⟩;refine⟨j,by omega,?_⟩;rw[<- e];simp[List.getD,show j<xs.length by omega]
def oC(ts:List af)(q:ae)(sources clauses:Nat):Nat:=
 if ((aR sources).map fun (k:Nat)=>rE ts q.src.xs (k:Int)).foldl gD 1=0 then 0
 else max ((aR clauses).foldl (fun x c=>x / jE ts q.src.xs (q.wh.getD c lz).cs) (((aR sources).map fun (k:Nat)=>rE ts q.src.xs (k:Int)).foldl gD 1)) 1
def uO(kind:Int)(l r s:Nat):Nat:=if kind=4 then jD [l,r,r,s] else if kind=5 then jD [l,r,s] else gD l r
def kU(kind:Int)(s lc ls rc rs:Nat):Nat:=
 if kind=1 then jD [s,1]
 else if kind=3∨kind=4∨kind=5 then jD [lc,rc,uO kind ls rs s]
 else if kind=6∨kind=10 then jD [lc,gD ls (lL ls+1)]
 else if kind=7 then jD [lc,ls,ls]
 else jD [lc,ls]
theorem aj8(a b:Nat):jD [a,b]=xe a b:=by rw[Bb]; unfold xe; simp
def eD(k:Int):Bool:=decide (7<=k)&&decide (k<=10)
def pz:bZ:=⟨0,0,0,[],0,0⟩
def iM(ts:List af)(q:ae)(n:ai)(a b:Nat):Int × Int × Bool:=
 if n.key∈n.cl.xs/\0<=n.key/\n.key<q.wh.length then RF ts q.src.xs (q.wh.getD n.key.toNat lz).cs a b else (0,0,false)
def kg(ts:List af)(q:ae)(n:ai)(a b:Nat):Bool:=decide (a &&& b=0)&&iW ts q n.cl.xs (a|||b)
def jU(q:ae)(l:bZ):Bool:=decide (l.sources=2 ^ q.src.xs.length-1)&&decide (l.clauses=2 ^ q.wh.length-1)
def mE(kind:Int)(l r:bZ):Bool:=(eD l.kind==decide (kind=10)) && !eD r.kind
def cZ(ts:List af)(q:ae)(n:ai)(l r:bZ):Bool:=
 if n.kind=1 then decide (0<=n.source)&&decide (n.source<q.src.xs.length)
 else if n.kind=2 then decide (0<n.cl.xs.length)&&iW ts q n.cl.xs l.sources
 else if n.kind=3 then kg ts q n l.sources r.sources
 else if n.kind=4 then (iM ts q n l.sources r.sources).2.2&&kg ts q n l.sources r.sources
 else if n.kind=5 then (iM ts q n l.sources r.sources).2.2&&kg ts q n l.sources r.sources&&aP l.order [(iM ts q n l.sources r.sources).1]&&aP r.order [(iM ts q n l.sources r.sources).2.1]
 else if n.kind=6 then lM ts q.src.xs n.co.xs l.sources
 else if n.kind=7 then q.group&&jU q l
 else if n.kind=8 then q.group&&jU q l&&aP l.order q.keys.xs
 else if n.kind=9 then !q.group&&jU q l
 else decide (0<q.ord.xs.length)
def mf(ts:List af)(q:ae)(n:ai)(l r:bZ):bZ:=
 let s:=(if n.kind=1 then 2 ^ n.source.toNat else 0)|||l.sources|||r.sources
 let c:=bE n.cl.xs|||l.clauses|||r.clauses
 let z:=if eD n.kind=true then l.size else oC ts q s c
 ⟨n.kind,s,c,if n.kind=6 then n.co.xs else if 2<=n.kind/\n.kind<=5 then l.order else [],z,kU n.kind z l.cost l.size r.cost r.size⟩
structure Ok(ts:List af)(q:ae):Prop where
 cat:gI ts=true
 src:bN q.src.xs ts.length=true
 small:q.src.xs.length<=64
 mP:q.wh.length<=64
 aO:Fa ts q
 some:∀ i,i<q.wh.length->0<(q.wh.getD i lz).cs.length
def rW(n:ai):Bool:=
 decide ((1<=arity n.kind∨n.l=0)/\(2<=arity n.kind∨n.r=0)/\(n.kind=1∨n.source=0)/\(n.kind=4∨n.kind=5∨n.key=0)/\
  (n.kind=2∨3<=n.kind/\n.kind<=5∨n.cl.xs.length=0)/\(n.kind=6∨n.co.xs.length=0))
def eP(n:ai)(i:Nat):Bool:=
 decide (1<=n.kind)&&decide (n.kind<=10)&&rW n&&(decide (arity n.kind<1) || (decide (0<=n.l)&&decide (n.l<i)))&&(decide (arity n.kind<2) || (decide (0<=n.r)&&decide (n.r<i)))
def fK(n:ai)(ps:List bZ):bZ:=if 1<=arity n.kind then ps.getD n.l.toNat pz else pz
def fM(n:ai)(ps:List bZ):bZ:=if arity n.kind=2 then ps.getD n.r.toNat pz else pz
def mQ(ts:List af)(q:ae)(n:ai)(ps:List bZ):Option (List bZ):=
 if (mE n.kind (fK n ps) (fM n ps)&&cZ ts q n (fK n ps) (fM n ps))=true then some (ps++[mf ts q n (fK n ps) (fM n ps)]) else none
def gU(ts:List af)(q:ae)(plan:List ai):Nat->Option (List bZ)
 | 0 => some []
 | k+1 => (gU ts q plan k).bind (mQ ts q (plan.getD k nz))
theorem Tc{α:Type}(ps:List α)(p z:α)(i:Nat):(ps++[p]).getD i z=if i<ps.length then ps.getD i z else if i=ps.length then p else z:=by
 by_cases h:i<ps.length
 ·rw[Qy h];simp[List.getD,QR h]
 ·rw[Qz h];by_cases h2:i=ps.length
  ·rw[Qy h2,h2]; simp[List.getD]
  ·rw[Qz h2];have:ps.length+1<=i:=by omega
   simp[List.getD,Zk (l:=ps++[p]) (i:=i) (by simp; omega)]
def oD(l:List Int):Bool:=(List.range l.length).all fun i=>decide (l.getD i 0=(i:Int))
def jg(q:ae):List Int:=q.ord.xs.map fun p=>q.aV.xs.getD p.toNat 0
def jh(q:ae)(kind:Int)(order:List Int):Bool:=
 if q.ord.xs.length=0 then true
 else if kind=10 then true
 else if kind=9 then aP order (jg q)
 else if kind=8 then decide (q.ord.xs.length<=q.keys.xs.length)&&oD q.ord.xs
 else false
def xh(plan:List ai):Bool:=(List.range (plan.length-1)).all fun k=>decide (gF plan.length (fun i=>(inpN plan i).count k)=1)
def dK(plan:List ai):Bool:=
 decide (1<=plan.length)&&decide (plan.length<=64)&&((List.range plan.length).all fun i=>eP (plan.getD i nz) i)&&xh plan
def jS(ts:List af)(q:ae)(plan:List ai):Option (List bZ):=
 if dK plan=false then none
 else (gU ts q plan plan.length).bind fun ps=>
  let n:=plan.getD (plan.length-1) nz
  if (eD n.kind&&jh q n.kind (ps.getD n.l.toNat pz).order)=true then some ps else none
