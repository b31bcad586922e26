import Derived.Test.YtjndadibondgbaaGreatDoorL00
set_option linter.all false
set_option maxRecDepth 100000
set_option maxHeartbeats 16000000
namespace Go.Proofs.Zz
open Go.RowKit Go.Shelf
variable {a b i m n:Nat} {ts:List af} {l s src xs:List Int} {k:Int} {cs:List ak} {q:ae}
def aL(l:List Int):Nat:=l.foldl (fun m n=>m|||2 ^ n.toNat) 0
theorem VU(l:List Int)(x:Int):aL (l++[x])=aL l|||2 ^ x.toNat:=by
 unfold aL;rw[ZZ];rfl
theorem VV(l:List Int):∀ (m i:Nat),(∀ x∈l,0<=x)->(l.foldl (fun m n=>m|||2 ^ n.toNat) m).testBit i=(m.testBit i || decide ((i:Int)∈l)):=by
 induction l with
 | nil => intro m i _; simp
 | cons a l ih =>
  intro m i h;have ha:=h a (by simp);rw[Z0,ih _ _ (fun x hx=>h x (by simp[hx])),Nat.testBit_or,Nat.testBit_two_pow,Bool.or_assoc];congr 1;rw[QD];simp only[Z4,QE,Z5];constructor
  ·rintro (h1 | h1)
   ·left; omega
   ·right; exact h1
  ·rintro (h1 | h1)
   ·left; omega
   ·right; exact h1
theorem MW{l:List Int}(h:∀ x∈l,0<=x)(i:Nat):(aL l).testBit i=decide ((i:Int)∈l):=by
 unfold aL;rw[VV l 0 i h,Nat.zero_testBit,Bool.false_or]
theorem Ke:∀ {l:List Int},(∀ x∈l,0<=x/\x<n)->aL l<2 ^ n:=fun {l} h=>by
 apply Nat.lt_pow_two_of_testBit;intro i d;rw[MW (fun x b=>(h x b).1),Qf];intro a;have:=(h _ a).2;omega
theorem MX(hb:b<18446744073709551616)(i:Nat)(hi:i<64):(a &&& (18446744073709551615-b)).testBit i=(a.testBit i && !b.testBit i):=by
 have e:18446744073709551615-b=2 ^ 64-(b+1):=by omega
 rw[Nat.testBit_and,e,Nat.testBit_two_pow_sub_succ (by omega)];simp[hi]
theorem RQ(ha:a<18446744073709551616)(hb:b<18446744073709551616):(b &&& (18446744073709551615-a)=0)↔∀ i,b.testBit i=true->a.testBit i=true:=by
 constructor
 ·intro h i d;have e:i<64:=by
   have f:b<2 ^ 64:=by omega
   by_cases j:i<64
   ·exact j
   ·rw[Nat.testBit_lt_two_pow (QT f (Z7 (by omega) (by omega)))]at d
    cases d
  have g:=MX (a:=b) ha i e;rw[h,Nat.zero_testBit,d,Qz]at g
  cases hc:a.testBit i with
  | true => rfl
  | false => rw[hc]at g; cases g
 ·intro h;apply Nat.eq_of_testBit_eq;intro i;rw[Nat.zero_testBit];by_cases d:i<64
  ·rw[MX ha i d]
   cases hc:b.testBit i with
   | false => rfl
   | true => rw[h i hc]; rfl
  ·have f:b<2 ^ 64:=by omega
   rw[Nat.testBit_and,Nat.testBit_lt_two_pow (x:=b) (QT f (Z7 (by omega) (by omega)))];rfl
theorem VW:(a &&& b≠0)↔∃ i,a.testBit i=true/\b.testBit i=true:=by
 constructor
 ·intro h;by_cases g:∃ i,a.testBit i=true/\b.testBit i=true
  ·exact g
  ·exfalso;apply h;apply Nat.eq_of_testBit_eq;intro i;rw[Nat.zero_testBit,Nat.testBit_and]
   cases d:a.testBit i with
   | false => rfl
   | true =>
    cases e:b.testBit i with
    | false => rfl
    | true => exact absurd ⟨i,d,e⟩ g
 ·rintro⟨i,d,e⟩ h;have f:(a &&& b).testBit i=true:=by rw[Nat.testBit_and,d,e]; rfl
  rw[h,Nat.zero_testBit]at f
  cases f
theorem uW(n i:Nat):(2 ^ n-1).testBit i=decide (i<n):=Nat.testBit_two_pow_sub_one n i
def Z6:=@MW
def bB:Nat:=18446744073709551615
def dU(a b:Nat):Nat:=min (a+b) bB
def bP(a b:Nat):Nat:=min (a*b) bB
theorem abL(a b:Nat):dU a b<=bB:=Nat.min_le_right _ _
theorem uX(a b:Nat):bP a b<=bB:=Nat.min_le_right _ _
theorem Dl(a b:Nat):dU a b=dU b a:=by unfold dU; rw[Nat.add_comm]
theorem kH(a b c:Nat):dU (dU a b) c=dU a (dU b c):=by
 unfold dU;simp only[Nat.min_def]
 repeat' split
 all_goals omega
def iN(l:List Nat):Nat:=l.foldl dU 0
theorem MZ:∀ (l:List Nat) (m:Nat),m<=bB->l.foldl dU m=min (m+l.sum) bB
 | [],m,h => by simp only[List.foldl_nil,List.sum_nil,Nat.min_def]; split <;> omega
 | a::l,m,_ => by
  rw[Z0,MZ l _ (abL _ _),Z8];unfold dU;simp only[Nat.min_def]
  repeat' split
  all_goals omega
theorem pK(l:List Nat):iN l=min l.sum bB:=by
 unfold iN;rw[MZ l 0 (Zf _),QJ]
theorem M0(b:Nat):bP 0 b=0:=by unfold bP; rw[QI]; rfl
theorem M4{x c:Nat}(hc:1<=c):min (min x bB*c) bB=min (x*c) bB:=by
 by_cases h:x<=bB
 ·rw[Nat.min_eq_left h]
 ·have a:bB<=x:=by omega
  rw[Nat.min_eq_right a];have b:bB*1<=bB*c:=Nat.mul_le_mul_left _ hc;have d:bB*c<=x*c:=Nat.mul_le_mul_right _ a;rw[Nat.min_def,Nat.min_def];split <;> split <;> omega
theorem Dm:∀ (l:List Nat) (m:Nat),m<=bB->(∀ x∈l,1<=x)->l.foldl bP m=min (m*l.foldl (· * ·) 1) bB
 | [],m,h,_ => by simp only[List.foldl_nil,Nat.mul_one,Nat.min_def]; split <;> omega
 | a::l,m,_,hl => by
  have key:∀ (l:List Nat) (k:Nat),l.foldl (· * ·) k=k*l.foldl (· * ·) 1:=by
   intro l
   induction l with
   | nil => intro k; simp
   | cons b l ih =>
    intro k;rw[Z0,Z0,ih,ih (1*b),Z9,Nat.mul_assoc]
  have pos:∀ (l:List Nat),(∀ x∈l,1<=x)->1<=l.foldl (· * ·) 1:=by
   intro l
   induction l with
   | nil => intro _; exact Qs _
   | cons b l ih =>
    intro h;rw[Z0,key,Z9];have h1:=h b (by simp);have h2:=ih (fun x hx=>h x (by simp[hx]));exact QS (by omega) (Nat.mul_le_mul h1 h2)
  have ht:=fun x hx=>hl x (List.mem_cons_of_mem a hx)
  rw[Z0,Dm l _ (uX _ _) ht,Z0,key l (1*a),Z9];unfold bP;rw[M4 (pos l ht),Nat.mul_assoc]
def kU(v:Nat):Nat:=if v=0 then 0 else kU (v / 2)+1
theorem rC:kU 0=0:=by rw[kU]; rfl
theorem He{v:Nat}(h:0<v):kU v=kU (v / 2)+1:=by rw[kU,Qv (by omega)]
def bF(ts:List af)(src:List Int)(n:Nat):List (Nat × Int):=
 (List.range n).flatMap fun s=>(List.range (ts.getD (src.getD s 0).toNat tz).cols.toNat).map fun m=>(s,(ts.getD (src.getD s 0).toNat tz).kd m)
theorem gL(ts:List af)(src:List Int)(n:Nat):bF ts src (n+1)=bF ts src n++(List.range (ts.getD (src.getD n 0).toNat tz).cols.toNat).map fun m=>(n,(ts.getD (src.getD n 0).toNat tz).kd m):=by
 unfold bF;rw[Xa,Xb];simp
theorem rD{ts:List af}{src:List Int}(hc:fo ts=true)(ha:aM src ts.length=true):∀ n,n<=src.length->((bF ts src n).length:Int)=ai ts (src.take n)
 | 0,_ => by simp[bF,ai]
 | n+1,hn => by
  have ih:=rD hc ha n (by omega);have h1:=Qq ha (k:=n) (by omega);have h2:=kR hc (i:=(src[n]'(by omega)).toNat) (by omega);have e:src.getD n 0=src[n]'(by omega):=by simp[List.getD,show n<src.length by omega]
  rw[gL,iJ ts src n (by omega),ZC,ZB,Xd,e];omega
theorem Hf{ts:List af}{src:List Int}(hc:fo ts=true)(ha:aM src ts.length=true):∀ n,n<=src.length->∀ c:Nat,c<(bF ts src n).length->
  ∃ s,s<n/\ai ts (src.take s)<=c/\(c:Int)<ai ts (src.take (s+1))/\(bF ts src n).getD c (0,0)=(s,(ts.getD (src.getD s 0).toNat tz).kd (c-(ai ts (src.take s)).toNat))
 | 0,_,c,h => by simp[bF]at h
 | n+1,hn,c,h => by
  have l:=rD hc ha n (by omega);by_cases a:c<(bF ts src n).length
  ·obtain⟨s,d,b,g,j⟩:=Hf hc ha n (by omega) c a;refine⟨s,by omega,b,g,?_⟩;rw[gL,<- j];simp[List.getD,QK a]
  ·have d:=Qq ha (k:=n) (by omega);have b:=kR hc (i:=(src[n]'(by omega)).toNat) (by omega);have e:src.getD n 0=src[n]'(by omega):=by simp[List.getD,show n<src.length by omega]
   rw[gL,ZC,ZB,Xd]at h;refine⟨n,by omega,by omega,?_,?_⟩
   ·rw[iJ ts src n (by omega),<- e];rw[<- e]at d b;omega
   ·rw[gL];have f:(ai ts (src.take n)).toNat=(bF ts src n).length:=by omega
    rw[f];generalize ts.getD (src.getD n 0).toNat tz=T at h ⊢;simp only[List.getD];rw[QL (by omega),ZR,List.getElem?_range (by omega)];rfl
def aj(ts:List af)(src:List Int)(c:Int):Nat:=((bF ts src src.length).getD c.toNat (0,0)).1
def jN(ts:List af)(src:List Int)(c:Int):Int:=((bF ts src src.length).getD c.toNat (0,0)).2
theorem RU{ts:List af}{src:List Int}(hc:fo ts=true)(ha:aM src ts.length=true){c:Int}(h0:0<=c)(hl:c<ai ts src) :
  aj ts src c<src.length/\ai ts (src.take (aj ts src c))<=c/\c<ai ts (src.take (aj ts src c+1))/\
   jN ts src c=(ts.getD (src.getD (aj ts src c) 0).toNat tz).kd (c.toNat-(ai ts (src.take (aj ts src c))).toNat):=by
 have b:=rD hc ha src.length (Qs _);rw[Qw]at b;obtain⟨s,f,g,i,a⟩:=Hf hc ha src.length (Qs _) c.toNat (by omega);have e:aj ts src c=s:=by unfold aj; rw[a]
 have d:jN ts src c=(ts.getD (src.getD s 0).toNat tz).kd (c.toNat-(ai ts (src.take s)).toNat):=by unfold jN; rw[a]
 rw[e];exact⟨f,by omega,by omega,d⟩
theorem kI(hc:fo ts=true)(ha:aM src ts.length=true)(hab:a<=b)(hb:b<=src.length):ai ts (src.take a)<=ai ts (src.take b):=by
 induction b with
 | zero =>
  obtain rfl:a=0:=by omega
  exact Int.le_refl _
 | succ b ih =>
  by_cases h:a<=b
  ·have d:=ih h (by omega);have e:=Qq ha (k:=b) (by omega);have f:=kR hc (i:=(src[b]'(by omega)).toNat) (by omega);rw[iJ ts src b (by omega)];omega
  ·obtain rfl:a=b+1:=by omega
   exact Int.le_refl _
def Xc:=@rD
def Xe:=@RU
section
variable {inp:Nat->List Nat}
def fE(n:Nat)(f:Nat->Nat):Nat:=((List.range n).map f).sum
theorem iK(n:Nat)(f:Nat->Nat):fE (n+1) f=fE n f+f n:=by
 unfold fE;rw[Xa,Qn,List.sum_append];simp
theorem RX(n:Nat)(f g:Nat->Nat):fE n (fun i=>f i+g i)=fE n f+fE n g:=by
 induction n with
 | zero => rfl
 | succ n ih => rw[iK,iK,iK,ih]; omega
theorem Bg(n:Nat):fE n (fun _=>0)=0:=by
 induction n with
 | zero => rfl
 | succ n ih => rw[iK,ih]
theorem rE{f g:Nat->Nat}(h:∀ i,i<n->f i=g i):fE n f=fE n g:=by
 induction n with
 | zero => rfl
 | succ n ih => rw[iK,iK,ih (fun i a => h i (by omega)),h n (by omega)]
theorem RY(hm:m<n)(f:Nat->Nat):fE n (fun i=>(if i=m then 1 else 0)*f i)=f m:=by
 induction n with
 | zero => omega
 | succ n ih =>
  rw[iK];by_cases h:m<n
  ·rw[ih h,Qv (by omega),QI,Xg]
  ·obtain rfl:m=n:=by omega
   have e:fE m (fun i=>(if i=m then 1 else 0)*f i)=0:=
    (rE (g:=fun _=>0) fun i a=>by rw[Qv (by omega),QI]).trans (Bg m)
   rw[e,Qu rfl,Z9,QJ]
end
def Xf:=@iK
theorem rF{n:Nat}:∀ {l:List Nat},(∀ k∈l,k<n)->fE n (fun k=>l.count k)=l.length
 | [],_ => Bg n
 | a::l,h => by
  have h1:=rF (n:=n) (l:=l) (fun k hk=>h k (by simp[hk]));have h2:=RY (h a (by simp)) (fun _=>1);rw[Q7,<- h1];rw[show fE n (fun k=>l.count k)+1=fE n (fun k=>l.count k)+fE n (fun k=>(if k=a then 1 else 0)*1) by rw[h2],<- RX];apply rE;intro k _;rw[List.count_cons];by_cases hk:k=a
  ·subst hk; simp
  ·have hk':¬ a=k:=fun e=>hk e.symm
   simp[hk,hk']
theorem Bh{f:Nat->Nat}:∀ {n:Nat},(∀ k,k<n->f k<=1)->fE n f=n->∀ k,k<n->f k=1
 | 0,_,_,k,hk => by omega
 | n+1,h,hs,k,hk => by
  rw[Xf]at hs;have hle:∀ m,m<=n->fE m f<=m:=by
   intro m
   induction m with
   | zero => intro _; exact Qs _
   | succ m ih =>
    intro hm;rw[Xf];have:=ih (by omega);have:=h m (by omega);omega
  have h1:=hle n (Qs _);have h2:=h n (by omega);by_cases e:k=n
  ·rw[e]; omega
  ·exact Bh (n:=n) (fun k hk=>h k (by omega)) (by omega) k (by omega)
section
variable {inp:Nat->List Nat}
end
structure ah where
 kind:Int
 l:Int
 r:Int
 source:Int
 cl:aa
 key:Int
 co:aa
def nz:ah:=⟨0,0,0,0,⟨none,0,[]⟩,0,⟨none,0,[]⟩⟩
def fq(w:World)(ao:Option Addr)(ns:List ah):Prop:=
 ns.length<=164703072086692425/\∀ i,i<ns.length->∃ b off,ao=some (aD b off)/\
  w.cell? (aD b (off+i*7))=some (.int .i64 (ns.getD i nz).kind)/\w.cell? (aD b (off+i*7+1))=some (.int .i64 (ns.getD i nz).l)/\
  w.cell? (aD b (off+i*7+2))=some (.int .i64 (ns.getD i nz).r)/\w.cell? (aD b (off+i*7+3))=some (.int .i64 (ns.getD i nz).source)/\
  w.cell? (aD b (off+i*7+4))=some (ns.getD i nz).cl.val/\w.cell? (aD b (off+i*7+5))=some (.int .i64 (ns.getD i nz).key)/\
  w.cell? (aD b (off+i*7+6))=some (ns.getD i nz).co.val/\(ns.getD i nz).cl.At w/\(ns.getD i nz).co.At w
def ah.same(a b:ah):Prop:=a.kind=b.kind/\a.l=b.l/\a.r=b.r/\a.source=b.source/\a.cl.xs=b.cl.xs/\a.key=b.key/\a.co.xs=b.co.xs
structure dY where
 sources:List Int
 clauses:List Int
 order:List Int
 out:Bool
 size:Nat
 cost:Nat
def vz:dY:=⟨[],[],[],false,0,0⟩
def bC(l m:List Int):List Int:=m.foldl (fun out x=>if x∈out then out else out++[x]) l
def aA(c:ak):List Int:=if c.op≠2/\c.const=false then [c.left,c.right] else [c.left]
def aG(cs:List ak):List Int:=cs.flatMap aA
def bI(ts:List af)(src:List Int)(cs:List ak)(sources:List Int):Bool:=(aG cs).all fun c=>decide ((aj ts src c:Int)∈sources)
def jf(ts:List af)(src:List Int)(cs:List ak):Nat:=
 if cs.length≠1∨(cs.getD 0 cz).not=true then 2
 else if (cs.getD 0 cz).op=1 then 3
 else if (cs.getD 0 cz).op=2 then 10
 else if (cs.getD 0 cz).const=true then (jN ts src (cs.getD 0 cz).left).toNat
 else max (jN ts src (cs.getD 0 cz).left).toNat (jN ts src (cs.getD 0 cz).right).toNat
def jm(ts:List af)(src:List Int)(s:Int):Nat:=(ts.getD (src.getD s.toNat 0).toNat tz).rows.toNat
def aht(ts:List af)(q:ae)(clauses:List Int)(n:Nat):Nat:=(List.range q.wh.length).foldl (fun (n c:Nat)=>if (c:Int)∈clauses then n / jf ts q.src.xs (q.wh.getD c lz).cs else n) n
def mX(ts:List af)(q:ae)(sources clauses:List Int):Nat:=
 if (sources.any fun s=>decide (jm ts q.src.xs s=0))=true then 0
 else max (aht ts q clauses ((sources.map (jm ts q.src.xs)).foldl bP 1)) 1
def Hg(kind:Int)(s:Nat)(l r:dY):Nat:=
 if kind=1 then dU s 1
 else if kind=3 then dU (dU l.cost r.cost) (bP l.size r.size)
 else if kind=4 then dU (dU l.cost r.cost) (dU (dU l.size s) (bP 2 r.size))
 else if kind=5 then dU (dU l.cost r.cost) (dU (dU l.size s) r.size)
 else if kind=6∨kind=10 then dU l.cost (bP l.size (kU l.size+1))
 else if kind=7 then dU l.cost (bP 2 l.size)
 else dU l.cost l.size
def bW(l m:List Int):Bool:=decide (m.length<=l.length)&&decide (l.take m.length=m)
def eP(ts:List af)(src:List Int)(cs:List ak)(a b:List Int):Int × Int × Bool:=
 if cs.length≠1∨(cs.getD 0 cz).not=true∨(cs.getD 0 cz).const=true∨(cs.getD 0 cz).op≠0 then (0,0,false)
 else if (aj ts src (cs.getD 0 cz).left:Int)∈a/\(aj ts src (cs.getD 0 cz).right:Int)∈b then ((cs.getD 0 cz).left,(cs.getD 0 cz).right,true)
 else ((cs.getD 0 cz).right,(cs.getD 0 cz).left,decide ((aj ts src (cs.getD 0 cz).right:Int)∈a)&&decide ((aj ts src (cs.getD 0 cz).left:Int)∈b))
def arity(kind:Int):Nat:=if kind=1 then 0 else if 3<=kind/\kind<=5 then 2 else 1
def fP(n:ah):Bool:=
 decide ((1<=arity n.kind∨n.l=0)/\(2<=arity n.kind∨n.r=0)/\(n.kind=1∨n.source=0)/\(n.kind=4∨n.kind=5∨n.key=0)/\
  (n.kind=2∨3<=n.kind/\n.kind<=5∨n.cl.xs.length=0)/\(n.kind=6↔n.co.xs.length≠0))
def dR(ts:List af)(q:ae)(l sources:List Int):Bool:=
 (List.range l.length).all fun i=>decide (0<=l.getD i 0)&&decide (l.getD i 0<q.wh.length)&&(decide (i=0) || decide (l.getD (i-1) 0<l.getD i 0))&&bI ts q.src.xs (q.wh.getD (l.getD i 0).toNat lz).cs sources
def nR(q:ae)(v:dY):Bool:=decide (v.sources.length=q.src.xs.length)&&decide (v.clauses.length=q.wh.length)
def mY(ts:List af)(q:ae)(n:ah)(l r:dY):Bool:=
 if n.kind=2 then decide (0<n.cl.xs.length)
 else if n.kind=4∨n.kind=5 then
  decide (n.key∈n.cl.xs)&&(eP ts q.src.xs (q.wh.getD n.key.toNat lz).cs l.sources r.sources).2.2 &&
   (decide (n.kind=4) || (bW l.order [(eP ts q.src.xs (q.wh.getD n.key.toNat lz).cs l.sources r.sources).1]&&bW r.order [(eP ts q.src.xs (q.wh.getD n.key.toNat lz).cs l.sources r.sources).2.1]))
 else if n.kind=6 then aM n.co.xs (ai ts q.src.xs)&&dJ n.co.xs&&n.co.xs.all fun c=>decide ((aj ts q.src.xs c:Int)∈l.sources)
 else if n.kind=7 then q.group&&nR q l
 else if n.kind=8 then q.group&&nR q l&&bW l.order q.keys.xs
 else if n.kind=9 then !q.group&&nR q l
 else if n.kind=10 then decide (0<q.ord.xs.length)
 else true
def qI(ts:List af)(q:ae)(n:ah)(l r:dY):Option dY:=
 if (r.out || (l.out != decide (n.kind=10)))=true then none
 else if (bC l.sources r.sources).length≠l.sources.length+r.sources.length then none
 else if dR ts q n.cl.xs (bC l.sources r.sources)=false then none
 else if mY ts q n l r=false then none
 else
  let c:=bC (bC l.clauses r.clauses) n.cl.xs
  let s:=mX ts q (bC l.sources r.sources) c
  some ⟨bC l.sources r.sources,c,if n.kind=6 then n.co.xs else l.order,decide (7<=n.kind),s,Hg n.kind s l r⟩
def nS(ts:List af)(q:ae)(plan:List ah):Nat->Nat->Option dY
 | 0,_ => none
 | f+1,i =>
  let n:=plan.getD i nz
  if fP n=false∨n.kind<1∨10<n.kind then none
  else if n.kind=1 then
   if n.source<0∨(q.src.xs.length:Int)<=n.source then none
   else some ⟨[n.source],[],[],false,mX ts q [n.source] [],Hg 1 (mX ts q [n.source] []) vz vz⟩
  else if n.l<0∨(i:Int)<=n.l then none
  else
   match nS ts q plan f n.l.toNat with
   | none => none
   | some l =>
    if arity n.kind=2 then
     if n.r<0∨(i:Int)<=n.r then none
     else
      match nS ts q plan f n.r.toNat with
      | none => none
      | some r => qI ts q n l r
    else qI ts q n l vz
def inpN(plan:List ah)(i:Nat):List Nat:=
 let n:=plan.getD i nz
 if arity n.kind=0 then []
 else if arity n.kind=1 then (if 0<=n.l/\n.l<i then [n.l.toNat] else [])
 else (if 0<=n.l/\n.l<i/\0<=n.r/\n.r<i then [n.l.toNat,n.r.toNat] else [])
theorem VX(h1:k≠1)(h2:arity k≠2):arity k=1:=by
 unfold arity at *;rw[Qv h1]at *;split
 ·rename_i h
  rw[Qu h]at h2;omega
 ·rfl
theorem Dn(h1:k=1):arity k=0:=by unfold arity; rw[Qu h1]
theorem nT(l:List Int)(a:Int)(m:List Int):bC l (a::m)=bC (if a∈l then l else l++[a]) m:=rfl
theorem uY{x:Int}:∀ {m l:List Int},x∈bC l m↔x∈l∨x∈m
 | [],l => by show x∈l↔_; simp
 | a::m,l => by
  rw[nT,uY];split
  ·rename_i h
   constructor
   ·rintro (e | e)
    ·exact .inl e
    ·exact .inr (by simp[e])
   ·rintro (e | e)
    ·exact .inl e
    ·rcases Z5.1 e with e | e
     ·left; rw[e]; exact h
     ·exact .inr e
  ·rw[Zx,Zw,Z5];constructor
   ·rintro ((e | e) | e)
    ·exact .inl e
    ·exact .inr (.inl e)
    ·exact .inr (.inr e)
   ·rintro (e | e | e)
    ·exact .inl (.inl e)
    ·exact .inl (.inr e)
    ·exact .inr e
theorem gM:∀ {m l:List Int},l.Nodup->(bC l m).Nodup
 | [],l,h => h
 | a::m,l,h => by
  rw[nT];apply gM;split
  ·exact h
  ·rename_i ha
   rw[List.nodup_append];refine⟨h,by simp,fun x hx y hy e=>?_⟩;rw[Zw]at hy;subst e hy;exact ha hx
theorem yO:∀ {m l:List Int},(bC l m).length<=l.length+m.length
 | [],l => by show l.length<=_; simp
 | a::m,l => by
  rw[nT];refine QS yO ?_;split
  ·rw[Q7]; omega
  ·rw[ZC,ZX,Q7]; omega
theorem uZ:∀ {m l:List Int},m.Nodup->((bC l m).length=l.length+m.length↔∀ x∈m,x ∉ l)
 | [],l,_ => by
  constructor
  ·intro _ x hx; cases hx
  ·intro _; show l.length=_; simp
 | a::m,l,h => by
  rw[List.nodup_cons]at h;rw[nT];by_cases ha:a∈l
  ·rw[Qu ha];have h1:=yO (m:=m) (l:=l);rw[Q7];constructor
   ·intro e; omega
   ·intro e; exact absurd ha (e a (by simp))
  ·rw[Qv ha];have h1:=uZ (m:=m) (l:=l++[a]) h.2;rw[ZC,ZX]at h1;rw[Q7,show l.length+(m.length+1)=l.length+1+m.length by omega,h1];constructor
   ·intro e x hx;rcases Z5.1 hx with hx | hx
    ·rw[hx]; exact ha
    ·exact fun hl=>e x hx (by simp[hl])
   ·intro e x hx hm;rcases Zx.1 hm with hm | hm
    ·exact e x (by simp[hx]) hm
    ·rw[Zw]at hm;rw[hm]at hx;exact h.1 hx
theorem VY(l:List Int):bC l []=l:=rfl
def aP(n:Nat)(l:List Int):Prop:=∀ x∈l,0<=x/\x<(n:Int)
theorem aP.with{n:Nat}{l m:List Int}(hl:aP n l)(hm:aP n m):aP n (bC l m):=fun x a=>by
 rcases uY.1 a with h | h
 ·exact hl x h
 ·exact hm x h
theorem aP.lt(hn:n<=64)(h:aP n l):aL l<18446744073709551616:=by
 have a:=Ke (n:=n) h;have b:2 ^ n<=2 ^ 64:=Z7 (by omega) hn;omega
theorem RZ(l:List Int):∀ m:Nat,l.foldl (fun m n=>m|||2 ^ n.toNat) m=m|||aL l:=by
 unfold aL
 induction l with
 | nil => intro m; simp
 | cons a l ih => intro m; rw[Z0,Z0,ih,ih (0|||_),Nat.zero_or,Nat.or_assoc]
theorem Na(a b:List Int):aL (a++b)=aL a|||aL b:=by
 show (a++b).foldl _ 0=_
 rw[ZZ,RZ];rfl
theorem ve{m:List Int}(hl:aP n l)(hm:aP n m):aL (bC l m)=aL l|||aL m:=by
 apply Nat.eq_of_testBit_eq;intro i;rw[Nat.testBit_or,Z6 (fun x hx=>(hl.with hm x hx).1),Z6 (fun x hx=>(hl x hx).1),Z6 (fun x hx=>(hm x hx).1),QD];simp only[Z4,QE];exact uY
theorem Bi(hn:n<=64)(hs:aP n s)(hl:aP n l):(aL l &&& (18446744073709551615-aL s)=0)↔∀ x∈l,x∈s:=by
 rw[RQ (hs.lt hn) (hl.lt hn)];constructor
 ·intro h x a;have b:=(hl x a).1;have d:=h x.toNat (by rw[Z6 (fun x a=>(hl x a).1),QE]; rw[Xj b]; exact a);rw[Z6 (fun x a=>(hs x a).1),QE,Xj b]at d;exact d
 ·intro h i e;rw[Z6 (fun x a=>(hl x a).1),QE]at e;rw[Z6 (fun x a=>(hs x a).1),QE];exact h _ e
theorem Dp(hs:aP n s)(hl:aP n l):(aL s &&& aL l≠0)↔∃ x,x∈s/\x∈l:=by
 rw[VW];constructor
 ·rintro⟨i,b,d⟩;rw[Z6 (fun x a=>(hs x a).1),QE]at b;rw[Z6 (fun x a=>(hl x a).1),QE]at d;exact⟨_,b,d⟩
 ·rintro⟨x,b,d⟩;have e:=(hs x b).1;refine⟨x.toNat,?_,?_⟩
  ·rw[Z6 (fun x a=>(hs x a).1),QE,Xj e]; exact b
  ·rw[Z6 (fun x a=>(hl x a).1),QE,Xj e]; exact d
theorem qJ(hs:aP n s)(hd:s.Nodup):aL s=2 ^ n-1↔s.length=n:=by
 have d:∀ k:Nat,k∈s.map Int.toNat↔(k:Int)∈s:=fun k=>by
  rw[ZU];constructor
  ·rintro⟨x,g,rfl⟩;rw[Xj (hs x g).1]; exact g
  ·intro h;exact⟨_,h,by simp⟩
 have j:(s.map Int.toNat).Nodup:=by
  show List.Pairwise _ _
  rw[List.pairwise_map];refine List.Pairwise.imp_of_mem ?_ hd;intro a b w y r e;have l:=(hs a w).1;have o:=(hs b y).1;exact r (by omega)
 have p:∀ k∈s.map Int.toNat,k<n:=fun k u=>by
  have:=(hs _ ((d k).1 u)).2;omega
 have f:=rF p;rw[ZB]at f;have v:=List.nodup_iff_count.1 j;constructor
 ·intro h;rw[<- f];have e:∀ k,k<n->(s.map Int.toNat).count k=1:=fun k u=>by
   have l:(k:Int)∈s:=by
    have o:=Z6 (fun x g=>(hs x g).1) k;rw[h,uW,Qy u]at o;exact Xk o.symm
   have z:=List.count_pos_iff.2 ((d k).2 l);have:=v k;omega
  have q:∀ m,m<=n->fE m (fun k=>(s.map Int.toNat).count k)=m:=by
   intro m
   induction m with
   | zero => intro _; rfl
   | succ m ih => intro A; rw[Xf,ih (by omega),e m (by omega)]
  exact q n (Qs _)
 ·intro h;have e:=Bh (n:=n) (fun k _=>v k) (by rw[f,h]);apply Nat.eq_of_testBit_eq;intro i;rw[Z6 (fun x g=>(hs x g).1),uW,QD,QE,QE];constructor
  ·intro t;have:=(hs _ t).2;omega
  ·intro t;have l:=e i t;exact(d i).1 (List.count_pos_iff.1 (by omega))
def Xh:=@uY
def Xi:=@Na
def cu(s:Nat):List Nat:=(List.range 64).filter fun i=>s.testBit i
theorem Nb(hn:n<=64)(h:aP n l)(i:Nat):i∈cu (aL l)↔(i:Int)∈l:=by
 unfold cu;rw[Xl,Xm,Z6 (fun x a=>(h x a).1),QE];constructor
 ·exact fun e=>e.2
 ·intro e;have:=(h _ e).2;exact⟨by omega,e⟩
theorem FQ(s:Nat):(cu s).Nodup:=List.Pairwise.filter _ List.nodup_range
theorem Hl(hs:aP n s)(hd:s.Nodup):(s.map Int.toNat).Nodup:=by
 show List.Pairwise _ _
 rw[List.pairwise_map];refine List.Pairwise.imp_of_mem ?_ hd;intro a b f g d e;have i:=(hs a f).1;have j:=(hs b g).1;exact d (by omega)
theorem UY(hs:aP n s)(k:Nat):k∈s.map Int.toNat↔(k:Int)∈s:=by
 rw[ZU];constructor
 ·rintro⟨x,a,rfl⟩;rw[Xj (hs x a).1]; exact a
 ·intro h;exact⟨_,h,by simp⟩
theorem Nc(hn:n<=64)(hs:aP n s)(hd:s.Nodup):(s.map Int.toNat).Perm (cu (aL s)):=
 (List.perm_ext_iff_of_nodup (Hl hs hd) (FQ _)).2 fun k=>by rw[UY hs,Nb hn hs]
theorem VZ{a b:List Nat}(h:a.Perm b):∀ m,a.foldl (· * ·) m=b.foldl (· * ·) m:=by
 induction h with
 | nil => intro m; rfl
 | cons x _ ih => intro m; rw[Z0,Z0,ih]
 | swap x y l => intro m; simp only[Z0]; rw[Nat.mul_right_comm]
 | trans _ _ h1 h2 => intro m; rw[h1,h2]
theorem qK:∀ (l:List Nat),l.foldl bP 0=0
 | [] => rfl
 | a::l => by rw[Z0,M0,qK l]
theorem jZ:∀ (l:List Nat) (m:Nat),0∈l->l.foldl bP m=0
 | [],_,h => by cases h
 | a::l,m,h => by
  rw[Z0];rcases Z5.1 h with h | h
  ·rw[<- h];have e:bP m 0=0:=by unfold bP; rw[Nat.mul_zero]; rfl
   rw[e,qK]
  ·exact jZ l _ h
theorem sO:∀ (l:List Nat) (m:Nat),1<=m->(∀ x∈l,1<=x)->1<=l.foldl bP m
 | [],m,h,_ => h
 | a::l,m,h,hl => by
  rw[Z0];refine sO l _ ?_ (fun x hx=>hl x (by simp[hx]));have h1:=Nat.mul_le_mul h (hl a (by simp));unfold bP bB;rw[Nat.min_def];split <;> omega
theorem Nf{a b:List Nat}(h:a.Perm b):a.foldl bP 1=b.foldl bP 1:=by
 by_cases f:0∈a
 ·rw[jZ a 1 f,jZ b 1 (h.mem_iff.1 f)]
 ·have g:∀ x∈a,1<=x:=fun x d=>by
   by_cases e:x=0
   ·rw[e]at d; exact absurd d f
   ·omega
  have i:∀ x∈b,1<=x:=fun x d=>g x (h.mem_iff.2 d)
  rw[Dm a 1 (by unfold bB; omega) g,Dm b 1 (by unfold bB; omega) i,VZ h]
theorem yP(hnm:n<=m)(p:Nat->Bool)(h:∀ i,n<=i->p i=false):(List.range m).filter p=(List.range n).filter p:=by
 induction m with
 | zero =>
  obtain rfl:n=0:=by omega
  rfl
 | succ m ih =>
  by_cases e:n=m+1
  ·rw[e]
  ·rw[Xa,Zi,ih (by omega),Xo (by rw[h m (by omega)]; simp)];simp
theorem R3(hn:n<=64)(h:aP n l)(g:Nat->Nat)(m:Nat) :
  (cu (aL l)).foldl (fun x c=>x / g c) m=(List.range n).foldl (fun (x c:Nat)=>if (c:Int)∈l then x / g c else x) m:=by
 unfold cu;rw[yP hn _ (fun i b=>by rw[Z6 (fun x a=>(h x a).1),Qf]; intro e; have:=(h _ e).2; omega),List.foldl_filter];congr 1
 funext x c
 rw[Z6 (fun x a=>(h x a).1)];by_cases e:(c:Int)∈l
 ·rw[Qu e,Qu (Qy e)]
 ·rw[Qv e,Qv (by rw[Qg e]; simp)]
structure bZ where
 kind:Int
 sources:Nat
 clauses:Nat
 order:List Int
 size:Nat
 cost:Nat
def dG(a b:Nat):Bool:=decide (b &&& (18446744073709551615-a)=0)
def fI(ts:List af)(src:List Int)(cs:List ak):List Int:=(aG cs).map fun c=>(aj ts src c:Int)
def jo(ts:List af)(q:ae)(l:List Int)(s:Nat):Bool:=
 (List.range l.length).all fun i=>decide ((if i=0 then -1 else l.getD (i-1) 0)<l.getD i 0)&&decide (l.getD i 0<q.wh.length)&&dG s (aL (fI ts q.src.xs (q.wh.getD (l.getD i 0).toNat lz).cs))
theorem vY(hc:fo ts=true)(ha:aM src ts.length=true)(h:∀ c∈aG cs,0<=c/\c<ai ts src):aP src.length (fI ts src cs):=fun x e=>by
 obtain⟨c,a,rfl⟩:=ZU.1 e;obtain⟨b,d⟩:=h c a;have:=(Xe hc ha b d).1;omega
theorem vZ(hc:fo ts=true)(ha:aM src ts.length=true)(hn:src.length<=64)(h:∀ c∈aG cs,0<=c/\c<ai ts src)(hs:aP src.length s) :
  dG (aL s) (aL (fI ts src cs))=bI ts src cs s:=by
 unfold dG bI;rw[QD,QE,Qp,Bi hn hs (vY hc ha h)];constructor
 ·intro e c a;exact Qy (e _ (ZU.2 ⟨c,a,rfl⟩))
 ·intro e x b;obtain⟨c,a,rfl⟩:=ZU.1 b;exact Xk (e c a)
def Al(ts:List af)(q:ae):Prop:=∀ i,i<q.wh.length->∀ c∈aG (q.wh.getD i lz).cs,0<=c/\c<ai ts q.src.xs
theorem rG(hc:fo ts=true)(ha:aM q.src.xs ts.length=true)(hn:q.src.xs.length<=64)(hk:Al ts q)(hs:aP q.src.xs.length s)(l:List Int) :
  jo ts q l (aL s)=dR ts q l s:=by
 unfold jo dR;rw[QD,Qp,Qp];constructor
 ·intro h;have g:∀ i,i<l.length->0<=l.getD i 0:=by
   intro i
   induction i with
   | zero =>
    intro d;have a:=h 0 (Xm.2 d);simp only[Qo,QE]at a;have f:=a.1.1;rw[Qu trivial]at f;omega
   | succ i ih =>
    intro d;have n:=ih (by omega);have a:=h (i+1) (Xm.2 d);simp only[Qo,QE]at a;have f:=a.1.1;rw[Qv (by omega),Xq]at f;omega
  intro i d;have k:=Xm.1 d;have a:=h i d;have f:=g i k;simp only[Qo,QE]at a;obtain⟨⟨b,m⟩,j⟩:=a;rw[vZ hc ha hn (hk _ (by omega)) hs]at j;simp only[Qo,Z4,QE];refine⟨⟨⟨f,m⟩,?_⟩,j⟩;by_cases e:i=0
  ·exact .inl e
  ·rw[Qv e]at b;exact .inr b
 ·intro h i d;have a:=h i d;simp only[Qo,Z4,QE]at a;obtain⟨⟨⟨f,m⟩,b⟩,j⟩:=a;simp only[Qo,QE];rw[vZ hc ha hn (hk _ (by omega)) hs];refine⟨⟨?_,m⟩,j⟩;by_cases e:i=0
  ·rw[Qu e]; omega
  ·rw[Qv e];rcases b with b | b
   ·exact absurd b e
   ·exact b
theorem uf(k:Nat):aL [(k:Int)]=2 ^ k:=by
 unfold aL;rw[Z0,List.foldl_nil,Nat.zero_or,ZY]
theorem lS(hn:n<=64)(hs:aP n s){k:Nat}(hk:k<n):dG (aL s) (2 ^ k)=decide ((k:Int)∈s):=by
 unfold dG;rw[<- uf,QD,QE,QE,Bi hn hs (fun x a=>by rw[Zw]at a; omega)];constructor
 ·intro h; exact h _ (by simp)
 ·intro h x a;rw[Zw]at a;rw[a]; exact h
def Dq(ts:List af)(src:List Int)(cs:List ak)(a b:Nat):Int × Int × Bool:=
 if cs.length > 1∨(cs.getD 0 cz).op≠0∨(cs.getD 0 cz).not=true∨(cs.getD 0 cz).const=true then (0,0,false)
 else if (dG a (2 ^ aj ts src (cs.getD 0 cz).left)&&dG b (2 ^ aj ts src (cs.getD 0 cz).right))=true then ((cs.getD 0 cz).left,(cs.getD 0 cz).right,true)
 else if (dG a (2 ^ aj ts src (cs.getD 0 cz).right)&&dG b (2 ^ aj ts src (cs.getD 0 cz).left))=true then ((cs.getD 0 cz).right,(cs.getD 0 cz).left,true)
 else (0,0,false)
theorem R4(hc:fo ts=true)(ha:aM src ts.length=true)(hn:src.length<=64)(h0:0<cs.length)(h:∀ c∈aG cs,0<=c/\c<ai ts src){a b:List Int}
  (hsa:aP src.length a) (hsb:aP src.length b) :
  (Dq ts src cs (aL a) (aL b)).2.2=(eP ts src cs a b).2.2/\((eP ts src cs a b).2.2=true->Dq ts src cs (aL a) (aL b)=eP ts src cs a b):=by
 unfold Dq eP;by_cases d:cs.length≠1∨(cs.getD 0 cz).not=true∨(cs.getD 0 cz).const=true∨(cs.getD 0 cz).op≠0
 ·have f:cs.length > 1∨(cs.getD 0 cz).op≠0∨(cs.getD 0 cz).not=true∨(cs.getD 0 cz).const=true:=by
   rcases d with e | e | e | e
   ·left; omega
   ·exact .inr (.inr (.inl e))
   ·exact .inr (.inr (.inr e))
   ·exact .inr (.inl e)
  rw[Qu d,Qu f];exact⟨rfl,fun _=>rfl⟩
 ·have f:¬ (cs.length > 1∨(cs.getD 0 cz).op≠0∨(cs.getD 0 cz).not=true∨(cs.getD 0 cz).const=true):=by
   rintro (e | e | e | e)
   ·exact d (.inl (by omega))
   ·exact d (.inr (.inr (.inr e)))
   ·exact d (.inr (.inl e))
   ·exact d (.inr (.inr (.inl e)))
  rw[Qv d,Qv f];have k:(cs.getD 0 cz).left∈aG cs/\(cs.getD 0 cz).right∈aG cs:=by
   have l:cs.getD 0 cz∈cs:=by
    have e:cs.getD 0 cz=cs[0]:=by simp[List.getD,h0]
    rw[e]; exact Qk _
   have m:(cs.getD 0 cz).op≠2/\(cs.getD 0 cz).const=false:=by
    refine⟨fun e=>d (.inr (.inr (.inr (by omega)))),?_⟩
    cases hk:(cs.getD 0 cz).const with
    | false => rfl
    | true => exact absurd (.inr (.inr (.inl hk))) d
   unfold aG;refine⟨Xr.2 ⟨_,l,?_⟩,Xr.2 ⟨_,l,?_⟩⟩
   ·unfold aA; rw[Qu m]; simp
   ·unfold aA; rw[Qu m]; simp
  have n:=h _ k.1;have o:=h _ k.2;have p:=(Xe hc ha n.1 n.2).1;have q:=(Xe hc ha o.1 o.2).1;generalize cs.getD 0 cz=c at *;rw[lS hn hsa p,lS hn hsb q,lS hn hsa q,lS hn hsb p];by_cases g:(aj ts src c.left:Int)∈a/\(aj ts src c.right:Int)∈b
  ·rw[Qu g,Qu (by rw[Qy g.1,Qy g.2]; rfl)];exact⟨rfl,fun _=>rfl⟩
  ·have j:¬ (decide ((aj ts src c.left:Int)∈a)&&decide ((aj ts src c.right:Int)∈b))=true:=by
    rw[Qo,QE,QE]; exact g
   rw[Qv g,Qv j];by_cases i:(decide ((aj ts src c.right:Int)∈a)&&decide ((aj ts src c.left:Int)∈b))=true
   ·rw[Qu i,i];exact⟨rfl,fun _=>rfl⟩
   ·rw[Qv i];have r:(decide ((aj ts src c.right:Int)∈a)&&decide ((aj ts src c.left:Int)∈b))=false:=by simpa using i
    rw[r];exact⟨rfl,fun x=>by cases x⟩
theorem Ho{f:Nat->Nat}(h:∀ k,f k<=1):∀ n,fE n f<=n
 | 0 => Qs _
 | n+1 => by
  rw[Xf];have:=Ho h n;have:=h n;omega
theorem vg(hs:aP n s)(hd:s.Nodup):s.length<=n:=by
 have b:∀ k∈s.map Int.toNat,k<n:=fun k e=>by
  have:=(hs _ ((UY hs k).1 e)).2;omega
 have a:=rF b;rw[ZB]at a;have d:=List.nodup_iff_count.1 (Hl hs hd);have:=Ho (f:=fun k=>(s.map Int.toNat).count k) d n;omega
theorem Bj(h:dJ xs=true):xs.Nodup:=by
 unfold dJ at h;rw[QE]at h
 show List.Pairwise _ _
 rw[Xt];intro i j k d a e;have b:=h j d i a;have f:xs.getD j 0=xs[j]:=by simp[List.getD,d]
 have g:xs.getD i 0=xs[i]:=by simp[List.getD,k]
 rw[f,g]at b;exact b e.symm
def ug(ts:List af)(src cols:List Int)(s:Nat):Bool:=
 decide (0<cols.length)&&decide ((cols.length:Int)<=ai ts src) &&
  (List.range cols.length).all fun i=>decide (0<=cols.getD i 0)&&decide (cols.getD i 0<ai ts src) && !decide (cols.getD i 0∈cols.take i)&&dG s (2 ^ aj ts src (cols.getD i 0))
theorem yQ(hi:i<xs.length){x:Int}:x∈xs.take i↔∃ j,j<i/\xs.getD j 0=x:=by
 rw[List.mem_take_iff_getElem];constructor
 ·rintro⟨j,a,e⟩;refine⟨j,by omega,?_⟩;rw[<- e];simp[List.getD,show j<xs.length by omega]
 ·rintro⟨j,a,e⟩;refine⟨j,by omega,?_⟩;rw[<- e];simp[List.getD,show j<xs.length by omega]
theorem Hq(hc:fo ts=true)(ha:aM src ts.length=true)(hn:src.length<=64)(hs:aP src.length s){cols:List Int}(h0:0<cols.length) :
  ug ts src cols (aL s)=(aM cols (ai ts src)&&dJ cols&&cols.all fun c=>decide ((aj ts src c:Int)∈s)):=by
 unfold ug;rw[QD,Qy h0,Qz,Qo,QE,Qp,Qo,Qo,Qp];have g:∀ c∈cols,∃ i,i<cols.length/\cols.getD i 0=c:=fun c b=>by
  obtain⟨i,a,e⟩:=Qx b;exact⟨i,a,by rw[<- e]; simp[List.getD,a]⟩
 have q:∀ i,i<cols.length->cols.getD i 0∈cols:=fun i a=>by
  have e:cols.getD i 0=cols[i]:=by simp[List.getD,a]
  rw[e]; exact Qk _
 constructor
 ·rintro⟨_,h⟩;have n:∀ i,i<cols.length->0<=cols.getD i 0/\cols.getD i 0<ai ts src/\cols.getD i 0 ∉ cols.take i/\(aj ts src (cols.getD i 0):Int)∈s:=fun i a=>by
   have k:=h i (Xm.2 a);simp only[Qo,Xu,QE,Qf]at k;obtain⟨⟨⟨f,p⟩,t⟩,w⟩:=k;rw[lS hn hs (Xe hc ha f p).1,QE]at w;exact⟨f,p,t,w⟩
  refine⟨⟨?_,?_⟩,?_⟩
  ·unfold aM;rw[Qp];intro c b;obtain⟨i,a,rfl⟩:=g c b;rw[Qo,QE,QE];exact⟨(n i a).1,(n i a).2.1⟩
  ·unfold dJ;rw[QE];intro i a j u e;exact(n i a).2.2.1 ((yQ a).2 ⟨j,u,e.symm⟩)
  ·intro c b;obtain⟨i,a,rfl⟩:=g c b;exact Qy (n i a).2.2.2
 ·rintro⟨⟨k,f⟩,p⟩;have r:=Bj f;have l:aP (ai ts src).toNat cols:=fun x o=>by
   unfold aM at k;have t:=Qp.1 k x o;rw[Qo,QE,QE]at t;omega
  have v:=vg l r;have y:=jC hc ha src.length (Qs _);rw[Qw]at y;refine⟨by omega,fun i a=>?_⟩;have d:=Xm.1 a;have b:=q i d;have o:=l _ b;have m:cols.getD i 0<ai ts src:=by omega
  simp only[Qo,Xu,QE,Qf];rw[lS hn hs (Xe hc ha o.1 m).1];refine⟨⟨⟨o.1,m⟩,?_⟩,p _ b⟩;intro e;obtain⟨j,u,z⟩:=(yQ d).1 e;unfold dJ at f;rw[QE]at f;exact f i d j u z.symm
def jS(ts:List af)(q:ae)(sources clauses:Nat):Nat:=
 if ((cu sources).map fun (k:Nat)=>jm ts q.src.xs (k:Int)).foldl bP 1=0 then 0
 else max ((cu clauses).foldl (fun x c=>x / jf ts q.src.xs (q.wh.getD c lz).cs) (((cu sources).map fun (k:Nat)=>jm ts q.src.xs (k:Int)).foldl bP 1)) 1
theorem Hr(ts:List af)(q:ae)(hw:q.wh.length<=64)(hn:n<=64){c:List Int}(hs:aP n s)(hd:s.Nodup)(hc:aP q.wh.length c):jS ts q (aL s) (aL c)=mX ts q s c:=by
 have f:(s.map (jm ts q.src.xs))=(s.map Int.toNat).map fun (k:Nat)=>jm ts q.src.xs (k:Int):=by
  rw[Xv];apply Xw;intro x a
  show jm ts q.src.xs x=jm ts q.src.xs ((x.toNat:Nat):Int)
  rw[Xj (hs x a).1]
 have g:((cu (aL s)).map fun (k:Nat)=>jm ts q.src.xs (k:Int)).foldl bP 1=(s.map (jm ts q.src.xs)).foldl bP 1:=by
  rw[f];exact(Nf ((Nc hn hs hd).map _)).symm
 unfold jS mX;rw[g];by_cases b:(s.any fun x=>decide (jm ts q.src.xs x=0))=true
 ·rw[Qu b];obtain⟨x,a,j⟩:=List.any_eq_true.1 b;rw[Qu (jZ _ 1 (ZU.2 ⟨x,a,Xk j⟩))]
 ·rw[Qv b];have i:∀ y∈s.map (jm ts q.src.xs),1<=y:=fun y l=>by
   obtain⟨x,a,rfl⟩:=ZU.1 l;by_cases e:jm ts q.src.xs x=0
   ·exact absurd (List.any_eq_true.2 ⟨x,a,Qy e⟩) b
   ·omega
  have d:=sO _ 1 (Qs _) i;rw[Qv (by omega)];unfold aht;rw[R3 hw hc]
def uh(kind:Int)(l r s:Nat):Nat:=if kind=4 then iN [l,r,r,s] else if kind=5 then iN [l,r,s] else bP l r
def fU(kind:Int)(s lc ls rc rs:Nat):Nat:=
 if kind=1 then iN [s,1]
 else if kind=3∨kind=4∨kind=5 then iN [lc,rc,uh kind ls rs s]
 else if kind=6∨kind=10 then iN [lc,bP ls (kU ls+1)]
 else if kind=7 then iN [lc,ls,ls]
 else iN [lc,ls]
theorem UZ(a b:Nat):iN [a,b]=dU a b:=by rw[pK]; unfold dU; simp
theorem Ng(a b c:Nat):iN [a,b,c]=dU (dU a b) c:=by
 rw[pK];unfold dU;simp only[Z8,List.sum_nil,Nat.min_def]
 repeat' split
 all_goals omega
theorem amA(a b c d:Nat):iN [a,b,c,d]=dU (dU a b) (dU c d):=by
 rw[pK];unfold dU;simp only[Z8,List.sum_nil,Nat.min_def]
 repeat' split
 all_goals omega
theorem Ht(a:Nat):bP 2 a=dU a a:=by unfold bP dU; rw[Nat.two_mul]
theorem Hu(kind:Int)(s:Nat)(l r:dY):fU kind s l.cost l.size r.cost r.size=Hg kind s l r:=by
 unfold fU Hg uh;by_cases a:kind=1
 ·rw[Qu a,Qu a,UZ]
 rw[Qv a,Qv a];by_cases f:kind=3
 ·rw[Qu (.inl f),Qu f,Qv (by omega),Qv (by omega),Ng]
 rw[Qv f];by_cases b:kind=4
 ·rw[Qu (.inr (.inl b)),Qu b,Qu b,Ng,amA,Ht];congr 1;rw[kH,kH,Dl s (dU r.size r.size),kH]
 simp only[Qv b];by_cases g:kind=5
 ·rw[Qu (.inr (.inr g))];simp only[Qu g];rw[Ng,Ng];congr 1;rw[kH,kH,Dl s r.size]
 simp only[Qv g];rw[Qv (show ¬ (kind=3∨kind=4∨kind=5) by omega)];by_cases d:kind=6∨kind=10
 ·rw[Qu d,Qu d,UZ]
 rw[Qv d,Qv d];by_cases e:kind=7
 ·rw[Qu e,Qu e,Ng,Ht,kH]
 rw[Qv e,Qv e,UZ]
def dO(k:Int):Bool:=decide (7<=k)&&decide (k<=10)
def pz:bZ:=⟨0,0,0,[],0,0⟩
def lH(ts:List af)(q:ae)(n:ah)(a b:Nat):Int × Int × Bool:=
 if n.key∈n.cl.xs/\0<=n.key/\n.key<q.wh.length then Dq ts q.src.xs (q.wh.getD n.key.toNat lz).cs a b else (0,0,false)
def jJ(ts:List af)(q:ae)(n:ah)(a b:Nat):Bool:=decide (a &&& b=0)&&jo ts q n.cl.xs (a|||b)
def jq(q:ae)(l:bZ):Bool:=decide (l.sources=2 ^ q.src.xs.length-1)&&decide (l.clauses=2 ^ q.wh.length-1)
def kV(kind:Int)(l r:bZ):Bool:=(dO l.kind==decide (kind=10)) && !dO r.kind
def bJ(ts:List af)(q:ae)(n:ah)(l r:bZ):Bool:=
 if n.kind=1 then decide (0<=n.source)&&decide (n.source<q.src.xs.length)
 else if n.kind=2 then decide (0<n.cl.xs.length)&&jo ts q n.cl.xs l.sources
 else if n.kind=3 then jJ ts q n l.sources r.sources
 else if n.kind=4 then (lH ts q n l.sources r.sources).2.2&&jJ ts q n l.sources r.sources
 else if n.kind=5 then (lH ts q n l.sources r.sources).2.2&&jJ ts q n l.sources r.sources&&bW l.order [(lH ts q n l.sources r.sources).1]&&bW r.order [(lH ts q n l.sources r.sources).2.1]
 else if n.kind=6 then ug ts q.src.xs n.co.xs l.sources
 else if n.kind=7 then q.group&&jq q l
 else if n.kind=8 then q.group&&jq q l&&bW l.order q.keys.xs
 else if n.kind=9 then !q.group&&jq q l
 else decide (0<q.ord.xs.length)
def iB(ts:List af)(q:ae)(n:ah)(l r:bZ):bZ:=
 let s:=(if n.kind=1 then 2 ^ n.source.toNat else 0)|||l.sources|||r.sources
 let c:=aL n.cl.xs|||l.clauses|||r.clauses
 let z:=if dO n.kind=true then l.size else jS ts q s c
 ⟨n.kind,s,c,if n.kind=6 then n.co.xs else if 2<=n.kind/\n.kind<=5 then l.order else [],z,fU n.kind z l.cost l.size r.cost r.size⟩
structure PV(q:ae)(p:bZ)(v:dY):Prop where
 out:dO p.kind=v.out
 sources:p.sources=aL v.sources
 fQ:aP q.src.xs.length v.sources
 kW:v.sources.Nodup
 clauses:p.clauses=aL v.clauses
 ui:aP q.wh.length v.clauses
 R5:v.clauses.Nodup
 order:v.out=false->p.order=v.order
 size:p.size=v.size
 cost:p.cost=v.cost
theorem U0(q:ae):PV q pz vz where
 out:=by decide
 sources:=rfl
 fQ:=fun x a=>by cases a
 kW:=Xx
 clauses:=rfl
 ui:=fun x a=>by cases a
 R5:=Xx
 order:=fun _=>rfl
 size:=rfl
 cost:=rfl
def nU(ts:List af)(q:ae)(n:ah)(l r:dY):Bool:=
 !(r.out || (l.out != decide (n.kind=10)))&&decide ((bC l.sources r.sources).length=l.sources.length+r.sources.length)&&dR ts q n.cl.xs (bC l.sources r.sources)&&mY ts q n l r
theorem nV(ts:List af)(q:ae)(n:ah)(l r:dY):qI ts q n l r=if nU ts q n l r=true then
  some ⟨bC l.sources r.sources,bC (bC l.clauses r.clauses) n.cl.xs,if n.kind=6 then n.co.xs else l.order,decide (7<=n.kind),mX ts q (bC l.sources r.sources) (bC (bC l.clauses r.clauses) n.cl.xs),
   Hg n.kind (mX ts q (bC l.sources r.sources) (bC (bC l.clauses r.clauses) n.cl.xs)) l r⟩ else none:=by
 unfold qI nU;by_cases a:(r.out || (l.out != decide (n.kind=10)))=true
 ·rw[Qu a,a]; rfl
 have d:(r.out || (l.out != decide (n.kind=10)))=false:=by simpa using a
 rw[Qv a,d];by_cases b:(bC l.sources r.sources).length=l.sources.length+r.sources.length
 ·rw[Qv (not_not_intro b),Qy b]
  cases c3:dR ts q n.cl.xs (bC l.sources r.sources) with
  | false => rfl
  | true =>
   cases c4:mY ts q n l r with
   | false => rfl
   | true => rfl
 ·rw[Qu b,Qg b]; rfl
structure Ok(ts:List af)(q:ae):Prop where
 cat:fo ts=true
 src:aM q.src.xs ts.length=true
 small:q.src.xs.length<=64
 oM:q.wh.length<=64
 cols:Al ts q
 some:∀ i,i<q.wh.length->0<(q.wh.getD i lz).cs.length
theorem R6{a b:List Int}(ha:aP n a)(hb:aP n b)(hd:b.Nodup):decide (aL a &&& aL b=0)=decide ((bC a b).length=a.length+b.length):=by
 rw[QD,QE,QE,uZ hd];have h:=Dp ha hb;constructor
 ·intro e x j d;exact h.2 ⟨x,d,j⟩ e
 ·intro e;by_cases f:aL a &&& aL b=0
  ·exact f
  ·obtain⟨x,g,i⟩:=h.1 f;exact absurd g (e x i)
theorem R7{p:bZ}{v:dY}(h:PV q p v):jq q p=nR q v:=by
 unfold jq nR;rw[h.sources,h.clauses];congr 1
 ·rw[QD,QE,QE]; exact qJ h.fQ h.kW
 ·rw[QD,QE,QE]; exact qJ h.ui h.R5
theorem rH(h:dR ts q l s=true):aP q.wh.length l:=fun x f=>by
 obtain⟨i,b,e⟩:=Qx f;unfold dR at h;rw[Qp]at h;have a:=h i (Xm.2 b);simp only[Qo,QE]at a;have d:l.getD i 0=x:=by rw[<- e]; simp[List.getD,b]
 rw[d]at a;exact⟨a.1.1.1,a.1.1.2⟩
theorem Nh(ok:Ok ts q){a b:List Int}(ha:aP q.src.xs.length a)(hb:aP q.src.xs.length b)(l:List Int):jo ts q l (aL a|||aL b)=dR ts q l (bC a b):=by
 rw[<- ve ha hb];exact rG ok.cat ok.src ok.small ok.cols (ha.with hb) l
theorem Dr(ok:Ok ts q)(n:ah){a b:List Int}(ha:aP q.src.xs.length a)(hb:aP q.src.xs.length b)(hl:dR ts q n.cl.xs (bC a b)=true) :
  (lH ts q n (aL a) (aL b)).2.2=(decide (n.key∈n.cl.xs)&&(eP ts q.src.xs (q.wh.getD n.key.toNat lz).cs a b).2.2)/\
  ((lH ts q n (aL a) (aL b)).2.2=true->lH ts q n (aL a) (aL b)=eP ts q.src.xs (q.wh.getD n.key.toNat lz).cs a b):=by
 unfold lH;by_cases c:n.key∈n.cl.xs
 ·have d:=rH hl _ c;rw[Qu ⟨c,d.1,d.2⟩,Qy c,Qz];obtain⟨f,g⟩:=R4 ok.cat ok.src ok.small (cs:=(q.wh.getD n.key.toNat lz).cs) (ok.some _ (by omega)) (ok.cols _ (by omega)) ha hb;refine⟨f,fun e=>g ?_⟩;rw[<- f]; exact e
 ·rw[Qv (fun e=>c e.1),Qg c];exact⟨rfl,fun e=>by cases e⟩
theorem Hw(ok:Ok ts q){n:ah}(hp:fP n=true)(h2:2<=n.kind)(h10:n.kind<=10){l r:bZ}{vl vr:dY}(hl:PV q l vl)(hr:PV q r vr)
  (h1:arity n.kind≠2->r=pz/\vr=vz):(kV n.kind l r&&bJ ts q n l r)=nU ts q n vl vr:=by
 unfold fP at hp;rw[QE]at hp;obtain⟨_,_,_,_,v,w⟩:=hp;have C:kV n.kind l r = !(vr.out || (vl.out != decide (n.kind=10))):=by
  unfold kV;rw[hl.out,hr.out]
  cases vr.out <;> cases vl.out <;> cases decide (n.kind=10) <;> rfl
 unfold nU;rw[C]
 cases hA:!(vr.out || (vl.out != decide (n.kind=10))) with
 | false => rfl
 | true =>
  rw[Qz,Qz];have d:vr.out=false/\vl.out=decide (n.kind=10):=by
   revert hA
   cases vr.out <;> cases vl.out <;> cases decide (n.kind=10) <;> simp
  have p:arity n.kind≠2->n.cl.xs=[]->decide ((bC vl.sources vr.sources).length=vl.sources.length+vr.sources.length)=true/\dR ts q n.cl.xs (bC vl.sources vr.sources)=true:=by
   intro f H;rw[(h1 f).2,H];exact⟨Qy rfl,rfl⟩
  have s:¬ (n.kind=2∨3<=n.kind/\n.kind<=5)->n.cl.xs=[]:=fun e=>by
   rcases v with h | h | h
   ·exact absurd (.inl h) e
   ·exact absurd (.inr h) e
   ·exact Xy.1 h
  have a:∀ X:Bool,(jJ ts q n l.sources r.sources&&X)=(decide ((bC vl.sources vr.sources).length=vl.sources.length+vr.sources.length)&&dR ts q n.cl.xs (bC vl.sources vr.sources)&&X):=fun X=>by
   unfold jJ;rw[hl.sources,hr.sources,R6 hl.fQ hr.fQ hr.kW,Nh ok hl.fQ hr.fQ]
  unfold bJ mY;rw[Qv (show ¬ n.kind=1 by omega)];by_cases g:n.kind=2
  ·have f:arity n.kind≠2:=by rw[g]; decide
   rw[Qu g,Qu g,(h1 f).2,hl.sources];have e:=rG ok.cat ok.src ok.small ok.cols hl.fQ n.cl.xs;rw[e,show bC vl.sources vz.sources=vl.sources from rfl,show vz.sources.length=0 from rfl,Xg,Qy rfl,Qz,Bool.and_comm]
  rw[Qv g,Qv g];by_cases A:n.kind=3
  ·rw[Qu A,Qv (by omega),Qv (by omega),Qv (by omega),Qv (by omega),Qv (by omega),Qv (by omega),<- a,Xz]
  rw[Qv A];by_cases i:n.kind=4∨n.kind=5
  ·rw[Qu i,<- a];by_cases B:dR ts q n.cl.xs (bC vl.sources vr.sources)=true
   ·obtain⟨y,z⟩:=Dr ok n hl.fQ hr.fQ B;rw[<- hl.sources,<- hr.sources]at y z;have t:vl.out=false:=by rw[d.2]; exact Qg (by omega)
    rw[hl.order t,hr.order d.1];rw[<- y]
    cases hK:(lH ts q n l.sources r.sources).2.2 with
    | false =>
     by_cases b:n.kind=4
     ·rw[Qu b]; simp
     ·rw[Qv b,Qu (by omega)]; simp
    | true =>
     rw[z hK];by_cases b:n.kind=4
     ·rw[Qu b]; simp[b]
     ·rw[Qv b,Qu (by omega)]; simp[b,Bool.and_assoc]
   ·have u:dR ts q n.cl.xs (bC vl.sources vr.sources)=false:=by simpa using B
    have D:jJ ts q n l.sources r.sources=false:=by
     have:=a true;rw[Xz,u]at this;rw[this]; simp
    rw[D];by_cases b:n.kind=4
    ·rw[Qu b]; simp
    ·rw[Qv b,Qu (by omega)]; simp
  rw[Qv i,Qv (show ¬ n.kind=4 by omega),Qv (show ¬ n.kind=5 by omega)];have f:arity n.kind≠2:=by
   unfold arity;rw[Qv (by omega),Qv (by omega)]; omega
  obtain⟨F,G⟩:=p f (s (by omega));rw[F,G,Qz,Qz];by_cases j:n.kind=6
  ·rw[Qu j,Qu j,hl.sources];have E:=Nat.pos_of_ne_zero (w.1 j);exact Hq ok.cat ok.src ok.small hl.fQ E
  rw[Qv j,Qv j];rw[R7 hl];by_cases k:n.kind=7
  ·rw[Qu k,Qu k]
  rw[Qv k,Qv k];by_cases m:n.kind=8
  ·rw[Qu m,Qu m];have t:vl.out=false:=by rw[d.2]; exact Qg (by omega)
   rw[hl.order t]
  rw[Qv m,Qv m];by_cases o:n.kind=9
  ·rw[Qu o,Qu o]
  rw[Qv o,Qv o,Qu (by omega)]
theorem Hy(ok:Ok ts q){n:ah}(hp:fP n=true)(h2:2<=n.kind)(h10:n.kind<=10){l r:bZ}{vl vr:dY}(hl:PV q l vl)(hr:PV q r vr)(hz:vl.size=mX ts q vl.sources vl.clauses)
  (h1:arity n.kind≠2->r=pz/\vr=vz) {v:dY} (hv:qI ts q n vl vr=some v):PV q (iB ts q n l r) v/\v.size=mX ts q v.sources v.clauses:=by
 rw[nV]at hv;by_cases a:nU ts q n vl vr=true
 ·rw[Qu a]at hv;injection hv with hv;subst hv;unfold nU at a;simp only[Qo,QE]at a;obtain⟨⟨⟨s,_⟩,t⟩,_⟩:=a;have b:=rH t;have g:vl.out=decide (n.kind=10):=by
   revert s
   cases vr.out <;> cases vl.out <;> cases decide (n.kind=10) <;> simp
  have i:dO n.kind=decide (7<=n.kind):=by unfold dO; rw[Qy h10,Xz]
  have j:(if n.kind=1 then 2 ^ n.source.toNat else 0)|||l.sources|||r.sources=aL (bC vl.sources vr.sources):=by
   rw[Qv (by omega),Nat.zero_or,hl.sources,hr.sources,ve hl.fQ hr.fQ]
  have k:aL n.cl.xs|||l.clauses|||r.clauses=aL (bC (bC vl.clauses vr.clauses) n.cl.xs):=by
   rw[ve (hl.ui.with hr.ui) b,ve hl.ui hr.ui,hl.clauses,hr.clauses,Nat.or_assoc,Nat.or_comm]
  have d:=(hl.ui.with hr.ui).with b;have o:(if dO n.kind=true then l.size else jS ts q (aL (bC vl.sources vr.sources)) (aL (bC (bC vl.clauses vr.clauses) n.cl.xs)))=mX ts q (bC vl.sources vr.sources) (bC (bC vl.clauses vr.clauses) n.cl.xs):=by
   by_cases m:7<=n.kind
   ·rw[i,Qy m,Qu rfl,hl.size,hz];have p:arity n.kind≠2:=by
     unfold arity;rw[Qv (by omega),Qv (by omega)]; omega
    have f:n.cl.xs=[]:=by
     unfold fP at hp;rw[QE]at hp;rcases hp.2.2.2.2.1 with h | h | h
     ·omega
     ·omega
     ·exact Xy.1 h
    rw[(h1 p).2,f];rfl
   ·rw[i,Qg m,Qv (by simp)];exact Hr ts q ok.oM ok.small (hl.fQ.with hr.fQ) (gM hl.kW) d
  refine⟨?_,rfl⟩;refine⟨i,j,hl.fQ.with hr.fQ,gM hl.kW,k,d,gM (gM hl.R5),?_,?_,?_⟩
  ·intro e;have m:=of_decide_eq_false e
   show (if n.kind=6 then n.co.xs else if 2<=n.kind/\n.kind<=5 then l.order else [])=if n.kind=6 then n.co.xs else vl.order
   split
   ·rfl
   ·rw[Qu (by omega)];exact hl.order (by rw[g]; exact Qg (by omega))
  ·show (if dO n.kind=true then l.size else jS ts q ((if n.kind=1 then 2 ^ n.source.toNat else 0)|||l.sources|||r.sources) (aL n.cl.xs|||l.clauses|||r.clauses))=_
   rw[j,k,o]
  ·show fU n.kind (if dO n.kind=true then l.size else jS ts q ((if n.kind=1 then 2 ^ n.source.toNat else 0)|||l.sources|||r.sources) (aL n.cl.xs|||l.clauses|||r.clauses)) l.cost l.size r.cost r.size=_
   rw[j,k,o,hl.cost,hl.size,hr.cost,hr.size];exact Hu _ _ _ _
 ·rw[Qv a]at hv; cases hv
def jT(n:ah):Bool:=
 decide ((1<=arity n.kind∨n.l=0)/\(2<=arity n.kind∨n.r=0)/\(n.kind=1∨n.source=0)/\(n.kind=4∨n.kind=5∨n.key=0)/\
  (n.kind=2∨3<=n.kind/\n.kind<=5∨n.cl.xs.length=0)/\(n.kind=6∨n.co.xs.length=0))
def dH(n:ah)(i:Nat):Bool:=
 decide (1<=n.kind)&&decide (n.kind<=10)&&jT n&&(decide (arity n.kind<1) || (decide (0<=n.l)&&decide (n.l<i)))&&(decide (arity n.kind<2) || (decide (0<=n.r)&&decide (n.r<i)))
def ed(n:ah)(ps:List bZ):bZ:=if 1<=arity n.kind then ps.getD n.l.toNat pz else pz
def dV(n:ah)(ps:List bZ):bZ:=if arity n.kind=2 then ps.getD n.r.toNat pz else pz
def kX(ts:List af)(q:ae)(n:ah)(ps:List bZ):Option (List bZ):=
 if (kV n.kind (ed n ps) (dV n ps)&&bJ ts q n (ed n ps) (dV n ps))=true then some (ps++[iB ts q n (ed n ps) (dV n ps)]) else none
def fB(ts:List af)(q:ae)(plan:List ah):Nat->Option (List bZ)
 | 0 => some []
 | k+1 => (fB ts q plan k).bind (kX ts q (plan.getD k nz))
theorem xJ(ts:List af)(q:ae)(plan:List ah):∀ (f g i:Nat),i<f->i<g->nS ts q plan f i=nS ts q plan g i
 | 0,_,_,h,_ => by omega
 | _,0,_,_,h => by omega
 | f+1,g+1,i,h1,h2 => by
  unfold nS;simp only;generalize plan.getD i nz=n;split
  ·rfl
  split
  ·rfl
  split
  ·rfl
  rename_i c
  rw[xJ ts q plan f g n.l.toNat (by omega) (by omega)];split
  ·rfl
  split
  ·split
   ·rfl
   ·rename_i d
    rw[xJ ts q plan f g n.r.toNat (by omega) (by omega)]
  ·rfl
theorem xK(n:ah):fP n=(jT n&&decide (n.kind=6->n.co.xs.length≠0)):=by
 unfold fP jT;rw[QD,Qo,QE,QE,QE];constructor
 ·rintro⟨a,b,c,d,e,f⟩;refine⟨⟨a,b,c,d,e,?_⟩,f.1⟩;by_cases h:n.kind=6
  ·exact .inl h
  ·right;by_cases g:n.co.xs.length=0
   ·exact g
   ·exact absurd (f.2 g) h
 ·rintro⟨⟨a,b,c,d,e,f⟩,g⟩;refine⟨a,b,c,d,e,g,fun h=>?_⟩;rcases f with f | f
  ·exact f
  ·exact absurd f h
def dn(ts:List af)(q:ae)(plan:List ah)(i:Nat):Option dY:=nS ts q plan (i+1) i
theorem yR(ts:List af)(q:ae)(plan:List ah){f:Nat}(h:i<f):nS ts q plan f i=dn ts q plan i:=xJ ts q plan f (i+1) i h (Nat.lt_succ_self i)
theorem xL(ts:List af)(q:ae)(plan:List ah)(i:Nat){n:ah}(hn:plan.getD i nz=n)(hp:fP n=true)(hk:n.kind=1) :
  dn ts q plan i=if n.source<0∨(q.src.xs.length:Int)<=n.source then none else some ⟨[n.source],[],[],false,mX ts q [n.source] [],Hg 1 (mX ts q [n.source] []) vz vz⟩:=by
 unfold dn nS;simp only[hn];rw[Qv (by rw[hp]; simp; omega),Qu hk]
theorem vo(ts:List af)(q:ae)(plan:List ah)(i:Nat){n:ah}(hn:plan.getD i nz=n)(hp:fP n=false):dn ts q plan i=none:=by
 unfold dn nS;simp only[hn];rw[Qu (.inl hp)]
theorem Hz(ts:List af)(q:ae)(plan:List ah)(i:Nat){n:ah}(hn:plan.getD i nz=n)(hp:fP n=true)(hk:2<=n.kind)(hk':n.kind<=10)(ha:arity n.kind≠2)(h0:0<=n.l)(h1:n.l<i) :
  dn ts q plan i=(dn ts q plan n.l.toNat).bind fun l=>qI ts q n l vz:=by
 unfold dn;rw[nS];simp only[hn];rw[Qv (by rw[hp]; simp; omega),Qv (by omega),Qv (by omega),yR ts q plan (f:=i) (by omega)];unfold dn
 cases nS ts q plan (n.l.toNat+1) n.l.toNat with
 | none => rfl
 | some v => simp only[Qv ha]; rfl
theorem H5(ts:List af)(q:ae)(plan:List ah)(i:Nat){n:ah}(hn:plan.getD i nz=n)(hp:fP n=true)(hk:2<=n.kind)(hk':n.kind<=10)(ha:arity n.kind=2)(h0:0<=n.l)(h1:n.l<i)(h2:0<=n.r)(h3:n.r<i) :
  dn ts q plan i=(dn ts q plan n.l.toNat).bind fun l=>(dn ts q plan n.r.toNat).bind fun r=>qI ts q n l r:=by
 unfold dn;rw[nS];simp only[hn];rw[Qv (by rw[hp]; simp; omega),Qv (by omega),Qv (by omega),yR ts q plan (f:=i) (by omega),yR ts q plan (i:=n.r.toNat) (f:=i) (by omega)];unfold dn
 cases nS ts q plan (n.l.toNat+1) n.l.toNat with
 | none => rfl
 | some v =>
  simp only[Qu ha];rw[Qv (by omega)]
  cases nS ts q plan (n.r.toNat+1) n.r.toNat with
  | none => rfl
  | some v => rfl
def Dt(ts:List af)(q:ae)(plan:List ah)(ps:List bZ):Prop:=
 ∀ i,i<ps.length->∃ v,dn ts q plan i=some v/\PV q (ps.getD i pz) v/\v.size=mX ts q v.sources v.clauses
theorem Ia{α:Type}(ps:List α)(p z:α)(i:Nat):(ps++[p]).getD i z=if i<ps.length then ps.getD i z else if i=ps.length then p else z:=by
 by_cases h:i<ps.length
 ·rw[Qu h];simp[List.getD,QK h]
 ·rw[Qv h];by_cases a:i=ps.length
  ·rw[Qu a,a]; simp[List.getD]
  ·rw[Qv a];have:ps.length+1<=i:=by omega
   simp[List.getD,XA (l:=ps++[p]) (i:=i) (by simp; omega)]
theorem Dt.snoc{plan:List ah}{ps:List bZ}(h:Dt ts q plan ps){p:bZ}{v:dY}(hv:dn ts q plan ps.length=some v)(hp:PV q p v)(hz:v.size=mX ts q v.sources v.clauses):Dt ts q plan (ps++[p]):=fun i b=>by
 rw[ZC,ZX]at b;rw[Ia];by_cases e:i<ps.length
 ·rw[Qu e]; exact h i e
 ·have a:i=ps.length:=by omega
  rw[Qv e,Qu a,a];exact⟨v,hv,hp,hz⟩
theorem V3(ok:Ok ts q)(plan:List ah){ps:List bZ}(hk:Dt ts q plan ps)(hs:dH (plan.getD ps.length nz) ps.length=true) :
  (dn ts q plan ps.length=none/\kX ts q (plan.getD ps.length nz) ps=none)∨∃ p v,kX ts q (plan.getD ps.length nz) ps=some (ps++[p])/\dn ts q plan ps.length=some v/\PV q p v/\v.size=mX ts q v.sources v.clauses:=by
 generalize z:plan.getD ps.length nz=n at hs ⊢;unfold dH at hs;simp only[Qo,Z4,QE]at hs;obtain⟨⟨⟨⟨R,a⟩,o⟩,O⟩,P⟩:=hs;unfold kX;by_cases f:n.kind=1
 ·have Q:=Dn f;have b:fP n=true:=by rw[xK,o,Qz,QE]; intro e; omega
  have u:ed n ps=pz:=by unfold ed; rw[Qv (by omega)]
  have k:dV n ps=pz:=by unfold dV; rw[Qv (by omega)]
  have A:n.cl.xs=[]:=by
   unfold jT at o;rw[QE]at o;rcases o.2.2.2.2.1 with h | h | h
   ·omega
   ·omega
   ·exact Xy.1 h
  rw[u,k,xL ts q plan _ z b f];have L:kV n.kind pz pz=true:=by rw[f]; decide
  have B:bJ ts q n pz pz=(decide (0<=n.source)&&decide (n.source<q.src.xs.length)):=by unfold bJ; rw[Qu f]
  rw[L,B,Qz];by_cases c:n.source<0∨(q.src.xs.length:Int)<=n.source
  ·left;rw[Qu c];refine⟨rfl,Qv ?_⟩;rw[Qo,QE,QE]; omega
  ·right;rw[Qv c,Qu (by rw[Qo,QE,QE]; omega)];refine⟨_,_,rfl,rfl,?_,rfl⟩;have M:2 ^ n.source.toNat=aL [n.source]:=by
    have:=uf n.source.toNat;rw[<- this,Xj (by omega)]
   have H:aP q.src.xs.length [n.source]:=fun x t=>by rw[Zw]at t; omega
   have C:(if n.kind=1 then 2 ^ n.source.toNat else 0)|||pz.sources|||pz.sources=aL [n.source]:=by
    rw[Qu f,M]
    show aL [n.source]|||0|||0=_
    rw[Nat.or_zero,Nat.or_zero]
   have D:aL n.cl.xs|||pz.clauses|||pz.clauses=aL []:=by rw[A]; rfl
   have I:(if dO n.kind=true then pz.size else jS ts q (aL [n.source]) (aL []))=mX ts q [n.source] []:=by
    rw[Qv (by rw[f]; decide)];exact Hr ts q ok.oM ok.small H (by simp) (fun x t=>by cases t)
   refine⟨by show dO n.kind=false; rw[f]; decide,C,H,by simp,D,(fun x t=>by cases t),Xx,?_,?_,?_⟩
   ·intro _
    show (if n.kind=6 then n.co.xs else if 2<=n.kind/\n.kind<=5 then pz.order else [])=[]
    rw[Qv (by omega),Qv (by omega)]
   ·show (if dO n.kind=true then pz.size else jS ts q ((if n.kind=1 then 2 ^ n.source.toNat else 0)|||pz.sources|||pz.sources) (aL n.cl.xs|||pz.clauses|||pz.clauses))=_
    rw[C,D,I]
   ·show fU n.kind (if dO n.kind=true then pz.size else jS ts q ((if n.kind=1 then 2 ^ n.source.toNat else 0)|||pz.sources|||pz.sources) (aL n.cl.xs|||pz.clauses|||pz.clauses)) pz.cost pz.size pz.cost pz.size=_
    rw[C,D,I,f];exact Hu 1 _ vz vz
 have g:2<=n.kind:=by omega
 have E:1<=arity n.kind:=by
  unfold arity;rw[Qv f];split <;> omega
 have d:0<=n.l/\n.l<ps.length:=by
  rcases O with h | h
  ·omega
  ·exact h
 cases b:fP n with
 | false =>
  left;refine⟨vo ts q plan _ z b,Qv ?_⟩;rw[xK,o,Qz,Qf]at b;have N:n.kind=6:=by
   by_cases e:n.kind=6
   ·exact e
   ·exact absurd (fun x=>absurd x e) b
  have B:bJ ts q n (ed n ps) (dV n ps)=false:=by
   unfold bJ;rw[Qv (by omega),Qv (by omega),Qv (by omega),Qv (by omega),Qv (by omega),Qu N];unfold ug;rw[Qg (show ¬ 0<n.co.xs.length by omega)];rfl
  rw[B,Qi];simp
 | true =>
  obtain⟨i,J,w,K⟩:=hk n.l.toNat (by omega);have u:ed n ps=ps.getD n.l.toNat pz:=by unfold ed; rw[Qu E]
  by_cases j:arity n.kind=2
  ·have m:0<=n.r/\n.r<ps.length:=by
    rcases P with h | h
    ·omega
    ·exact h
   obtain⟨F,G,s,_⟩:=hk n.r.toNat (by omega);have k:dV n ps=ps.getD n.r.toNat pz:=by unfold dV; rw[Qu j]
   rw[u,k,Hw ok b g a w s (fun e=>absurd j e),H5 ts q plan _ z b g a j d.1 d.2 m.1 m.2,J,G];simp only[Option.bind_some]
   cases hN:qI ts q n i F with
   | none =>
    left;refine⟨rfl,Qv fun e=>?_⟩;rw[nV,Qu e]at hN
    cases hN
   | some v =>
    right;have e:nU ts q n i F=true:=by
     by_cases e:nU ts q n i F=true
     ·exact e
     ·rw[nV,Qv e]at hN; cases hN
    rw[Qu e];obtain⟨x,y⟩:=Hy ok b g a w s K (fun e=>absurd j e) hN;exact⟨_,_,rfl,rfl,x,y⟩
  ·have k:dV n ps=pz:=by unfold dV; rw[Qv j]
   rw[u,k,Hw ok b g a w (U0 q) (fun _=>⟨rfl,rfl⟩),Hz ts q plan _ z b g a j d.1 d.2,J];simp only[Option.bind_some]
   cases hN:qI ts q n i vz with
   | none =>
    left;refine⟨rfl,Qv fun e=>?_⟩;rw[nV,Qu e]at hN
    cases hN
   | some v =>
    right;have e:nU ts q n i vz=true:=by
     by_cases e:nU ts q n i vz=true
     ·exact e
     ·rw[nV,Qv e]at hN; cases hN
    rw[Qu e];obtain⟨x,y⟩:=Hy ok b g a w (U0 q) K (fun _=>⟨rfl,rfl⟩) hN;exact⟨_,_,rfl,rfl,x,y⟩
theorem Du{ts:List af}{q:ae}(ok:Ok ts q)(plan:List ah):∀ k,(∀ i,i<k->dH (plan.getD i nz) i=true)->
  (fB ts q plan k=none/\∃ i,i<k/\dn ts q plan i=none)∨∃ ps,fB ts q plan k=some ps/\ps.length=k/\Dt ts q plan ps
 | 0,_ => .inr ⟨[],rfl,rfl,fun i e => by cases e⟩
 | k+1,h => by
  rcases Du ok plan k (fun i e=>h i (by omega)) with⟨h1,i,e,h2⟩ | ⟨ps,h1,rfl,h2⟩
  ·left;refine⟨?_,i,by omega,h2⟩;rw[fB,h1]; rfl
  ·rcases V3 ok plan h2 (h _ (by omega)) with⟨a,b⟩ | ⟨p,v,a,b,c,d⟩
   ·left;refine⟨?_,ps.length,by omega,a⟩;rw[fB,h1]; exact b
   ·right;refine⟨ps++[p],?_,by simp,h2.snoc b c d⟩;rw[fB,h1]; exact a
def pM(l:List Int):Bool:=(List.range l.length).all fun i=>decide (l.getD i 0=(i:Int))
def wm(q:ae):List Int:=q.ord.xs.map fun p=>q.aK.xs.getD p.toNat 0
def pO(q:ae)(kind:Int)(order:List Int):Bool:=
 if q.ord.xs.length=0 then true
 else if kind=10 then true
 else if kind=9 then bW order (wm q)
 else if kind=8 then decide (q.ord.xs.length<=q.keys.xs.length)&&pM q.ord.xs
 else false
def yS(plan:List ah):Bool:=(List.range (plan.length-1)).all fun k=>decide (fE plan.length (fun i=>(inpN plan i).count k)=1)
def dI(plan:List ah):Bool:=
 decide (1<=plan.length)&&decide (plan.length<=64)&&((List.range plan.length).all fun i=>dH (plan.getD i nz) i)&&yS plan
def fV(ts:List af)(q:ae)(plan:List ah):Option (List bZ):=
 if dI plan=false then none
 else (fB ts q plan plan.length).bind fun ps=>
  let n:=plan.getD (plan.length-1) nz
  if (dO n.kind&&pO q n.kind (ps.getD n.l.toNat pz).order)=true then some ps else none
theorem Bl{plan:List ah}{v:dY}(h:dn ts q plan i=some v) :
  dH (plan.getD i nz) i=true/\v.out=dO (plan.getD i nz).kind/\∀ j∈inpN plan i,∃ u,dn ts q plan j=some u:=by
 unfold dn nS at h;unfold inpN;simp only at h ⊢;generalize plan.getD i nz=n at h ⊢;by_cases k:fP n=false∨n.kind<1∨10<n.kind
 ·rw[Qu k]at h; cases h
 rw[Qv k]at h;have g:fP n=true:=by
  cases g:fP n with
  | true => rfl
  | false => exact absurd (.inl g) k
 have A:jT n=true:=by
  rw[xK,Qo]at g;exact g.1
 have m:1<=n.kind/\n.kind<=10:=by
  refine⟨?_,?_⟩ <;> · rw[<- Int.not_lt]; intro e; exact k (by first | exact .inr (.inl e) | exact .inr (.inr e))
 have d:∀ l r,qI ts q n l r=some v->v.out=dO n.kind:=fun l r e=>by
  rw[nV]at e;split at e
  ·injection e with e;rw[<- e]
   show decide (7<=n.kind)=_
   unfold dO;rw[Qy m.2,Xz]
  ·cases e
 unfold dH;rw[Qy m.1,Qy m.2,A];by_cases b:n.kind=1
 ·have B:=Dn b;rw[Qu b]at h;by_cases w:n.source<0∨(q.src.xs.length:Int)<=n.source
  ·rw[Qu w]at h; cases h
  rw[Qv w]at h;injection h with h;rw[B,Qu rfl];refine⟨rfl,?_,fun j a=>by cases a⟩;rw[<- h,b]
  show false=dO 1
  decide
 rw[Qv b]at h;have o:arity n.kind≠0:=by
  unfold arity;rw[Qv b];split <;> omega
 rw[Qv o];by_cases y:n.l<0∨(i:Int)<=n.l
 ·rw[Qu y]at h; cases h
 rw[Qv y,yR ts q plan (f:=i) (by omega)]at h;have s:decide (0<=n.l)=true/\decide (n.l<i)=true:=⟨Qy (by omega),Qy (by omega)⟩
 rw[s.1,s.2]
 cases hvl:dn ts q plan n.l.toNat with
 | none => rw[hvl]at h; cases h
 | some l =>
  rw[hvl]at h;simp only at h;by_cases p:arity n.kind=2
  ·rw[Qu p]at h;by_cases z:n.r<0∨(i:Int)<=n.r
   ·rw[Qu z]at h; cases h
   rw[Qv z,yR ts q plan (f:=i) (by omega)]at h;have t:decide (0<=n.r)=true/\decide (n.r<i)=true:=⟨Qy (by omega),Qy (by omega)⟩
   rw[t.1,t.2,Qv (show ¬ arity n.kind=1 by omega),Qu (by omega)]
   cases hvr:dn ts q plan n.r.toNat with
   | none => rw[hvr]at h; cases h
   | some r =>
    rw[hvr]at h;simp only at h;refine⟨by simp,d l r h,fun j a=>?_⟩;rcases Z5.1 a with e | e
    ·rw[e]; exact⟨l,hvl⟩
    ·rw[Zw]at e;rw[e]; exact⟨r,hvr⟩
  ·have C:=VX b p;rw[Qv p]at h;rw[C,Qu rfl,Qu (by omega)];refine⟨by simp,d l vz h,fun j a=>?_⟩;rw[Zw]at a;rw[a]; exact⟨l,hvl⟩
