import Derived.Test.YtgemohlbjehmbaaGreatDoorF00
set_option linter.all false
set_option maxRecDepth 100000
set_option maxHeartbeats 16000000
namespace Go.Proofs.Zz
open Go.RowKit Go.Shelf
variable {a b m n:Nat} {ts:List af} {cl l s src xs:List Int} {cs:List aI} {q:ae} {k:Int} {conc:List Nat}
def aB(l:List Int):Nat:=l.foldl (λm n=>m|||2 ^ n.toNat) 0
theorem VL(l:List Int)(x:Int):aB (l++[x])=aB l|||2 ^ x.toNat:=by grind [aB]
theorem VM(l:List Int):∀ (m i:Nat),(∀ x∈l,0<=x)->(l.foldl (λm n=>m|||2 ^ n.toNat) m).testBit i=(m.testBit i || decide ((i:Int)∈l)):=by
 induction l with
 | nil => simp_all
 | cons a l ih =>
  intro m i h;have ha:=h a (by simp);rw[QD,ih _ _ (λx hx=>h x (by simp[hx])),Nat.testBit_or,Nat.testBit_two_pow,Bool.or_assoc];grind
theorem L9{l:List Int}(h:∀ x∈l,0<=x)(i:Nat):(aB l).testBit i=decide ((i:Int)∈l):=by grind [aB,VM]
theorem nD:∀ {l:List Int},(∀ x∈l,0<=x/\x<n)->aB l<2 ^ n:=λ{l} h=>by apply Nat.lt_pow_two_of_testBit;grind [L9]
theorem zn(hb:b<18446744073709551616)(i:Nat)(hi:i<64):(a &&& (18446744073709551615-b)).testBit i=(a.testBit i && !b.testBit i):=by
 have e:18446744073709551615-b=2 ^ 64-(b+1):=by omega
 rw[Nat.testBit_and,e,Nat.testBit_two_pow_sub_succ (by omega)];simp[hi]
theorem Ea(ha:a<18446744073709551616)(hb:b<18446744073709551616):(b &&& (18446744073709551615-a)=0)↔∀ i,b.testBit i=true->a.testBit i=true:=by
 constructor
 ·intro h i f;have d:i<64:=by
   have e:b<2 ^ 64:=by omega
   by_cases g:i<64
   ·exact g
   ·rw[QG (QH e (QI (by omega) (by omega)))]at f
    cases f
  have j:=zn (a:=b) ha i d;simp_all
 ·intro h;apply QJ;intro i;rw[Nat.zero_testBit];by_cases f:i<64
  ·grind [zn]
  ·have e:b<2 ^ 64:=by omega
   rw[Nat.testBit_and,QG (x:=b) (QH e (QI (by omega) (by omega)))];rfl
theorem VN:(a &&& b≠0)↔∃ i,a.testBit i=true/\b.testBit i=true:=by
 constructor
 ·intro h;by_cases d:∃ i,a.testBit i=true/\b.testBit i=true
  ·exact d
  ·exfalso;apply h;apply QJ
   simp_all
 ·rintro⟨i,f,g⟩ h;have e:(a &&& b).testBit i=true:=by grind
  simp_all
theorem VO(n i:Nat):(2 ^ n-1).testBit i=decide (i<n):=Nat.testBit_two_pow_sub_one n i
def QE:=@L9
def dA:Nat:=18446744073709551615
def fZ(a b:Nat):Nat:=min (a+b) dA
def fU(a b:Nat):Nat:=min (a*b) dA
theorem abH(a b:Nat):fZ a b<=dA:=Nat.min_le_right _ _
theorem Bj(a b:Nat):fU a b<=dA:=Nat.min_le_right _ _
def jk(l:List Nat):Nat:=l.foldl fZ 0
theorem Mc:∀ (l:List Nat) (m:Nat),m<=dA->l.foldl fZ m=min (m+l.sum) dA
 | [],m,h => by simp_all
 | a::l,m,_ => by rw[QD,Mc l _ (abH _ _),List.sum_cons];grind [fZ]
theorem vR(l:List Nat):jk l=min l.sum dA:=by unfold jk;rw[Mc l 0 (QK _),QL]
def l9(v:Nat):Nat:=if v=0 then 0 else l9 (v / 2)+1
theorem xV:l9 0=0:=by rw[l9]; rfl
theorem Ip{v:Nat}(h:0<v):l9 v=l9 (v / 2)+1:=by grind [l9.eq_1]
def dI(ts:List af)(src:List Int)(n:Nat):List (Nat × Int):=
 (List.range n).flatMap λs=>(List.range (ts.getD (src.getD s 0).toNat tz).aX.toNat).map λm=>(s,(ts.getD (src.getD s 0).toNat tz).kd m)
theorem lW(ts:List af)(src:List Int)(n:Nat):dI ts src (n+1)=dI ts src n++(List.range (ts.getD (src.getD n 0).toNat tz).aX.toNat).map λm=>(n,(ts.getD (src.getD n 0).toNat tz).kd m):=by unfold dI;rw[QM,QO];simp
theorem sK{ts:List af}{src:List Int}(hc:gH ts=true)(ha:di src ts.length=true):∀ n,n<=src.length->((dI ts src n).length:Int)=az ts (src.take n)
 | 0,_ => by rfl
 | n+1,hn => by
  have ih:=sK hc ha n (by omega);have h1:=qG ha (k:=n) (by omega);have h2:=qF hc (i:=(src[n]'(by omega)).toNat) (by omega);have e:src.getD n 0=src[n]'(by omega):=by grind
  rw[lW,jH ts src n (by omega),QP,QQ,QR,e];omega
theorem Iq{ts:List af}{src:List Int}(hc:gH ts=true)(ha:di src ts.length=true):∀ n,n<=src.length->∀ c:Nat,c<(dI ts src n).length->
  ∃ s,s<n/\az ts (src.take s)<=c/\(c:Int)<az ts (src.take (s+1))/\(dI ts src n).getD c (0,0)=(s,(ts.getD (src.getD s 0).toNat tz).kd (c-(az ts (src.take s)).toNat))
 | 0,_,c,h => by simp[dI]at h
 | n+1,hn,c,h => by
  have j:=sK hc ha n (by omega);by_cases a:c<(dI ts src n).length
  ·obtain⟨s,d,b,f,g⟩:=Iq hc ha n (by omega) c a;refine⟨s,by omega,b,f,?_⟩;rw[lW,<- g]
   grind
  ·have d:=qG ha (k:=n) (by omega);have b:=qF hc (i:=(src[n]'(by omega)).toNat) (by omega);have e:src.getD n 0=src[n]'(by omega):=by grind
   rw[lW,QP,QQ,QR]at h;refine⟨n,by omega,by omega,?_,?_⟩
   ·rw[jH ts src n (by omega),<- e];omega
   ·rw[lW]
    grind
def aA(ts:List af)(src:List Int)(c:Int):Nat:=((dI ts src src.length).getD c.toNat (0,0)).1
def lK(ts:List af)(src:List Int)(c:Int):Int:=((dI ts src src.length).getD c.toNat (0,0)).2
theorem PV{ts:List af}{src:List Int}(hc:gH ts=true)(ha:di src ts.length=true){c:Int}(h0:0<=c)(hl:c<az ts src) :
  aA ts src c<src.length/\az ts (src.take (aA ts src c))<=c/\c<az ts (src.take (aA ts src c+1))/\
   lK ts src c=(ts.getD (src.getD (aA ts src c) 0).toNat tz).kd (c.toNat-(az ts (src.take (aA ts src c))).toNat):=by have a:=sK hc ha src.length (Qn _);rw[QT]at a;obtain⟨s,b,d,e,f⟩:=Iq hc ha src.length (Qn _) c.toNat (by omega);grind [aA,lK]
theorem uJ(hc:gH ts=true)(ha:di src ts.length=true)(hab:a<=b)(hb:b<=src.length):az ts (src.take a)<=az ts (src.take b):=by
 induction b with
 | zero =>
  simp_all
 | succ b ih =>
  by_cases h:a<=b
  ·have d:=ih h (by omega);have e:=qG ha (k:=b) (by omega);have f:=qF hc (i:=(src[b]'(by omega)).toNat) (by omega);rw[jH ts src b (by omega)];omega
  grind
def QS:=@PV
section
variable {inp:Nat->List Nat}
def gy(n:Nat)(f:Nat->Nat):Nat:=((List.range n).map f).sum
theorem jI(n:Nat)(f:Nat->Nat):gy (n+1) f=gy n f+f n:=by grind [gy,List.range_succ]
theorem PW(n:Nat)(f g:Nat->Nat):gy n (λi=>f i+g i)=gy n f+gy n g:=by
 induction n with
 | zero => rfl
 | succ n ih => grind [jI]
theorem Cy(n:Nat):gy n (λ_=>0)=0:=by
 induction n with
 | zero => rfl
 | succ n ih => rw[jI,ih]
theorem zo{f g:Nat->Nat}(h:∀ i,i<n->f i=g i):gy n f=gy n g:=by
 induction n with
 | zero => rfl
 | succ n ih => grind [jI]
theorem PX(hm:m<n)(f:Nat->Nat):gy n (λi=>(if i=m then 1 else 0)*f i)=f m:=by
 induction n with
 | zero => omega
 | succ n ih =>
  rw[jI];by_cases h:m<n
  ·grind
  ·obtain rfl:m=n:=by omega
   have e:gy m (λi=>(if i=m then 1 else 0)*f i)=0:=
    (zo (g:=λ_=>0) λi a=>by grind).trans (Cy m)
   simp_all
end
def QU:=@jI
theorem oJ{n:Nat}:∀ {l:List Nat},(∀ k∈l,k<n)->gy n (λk=>l.count k)=l.length
 | [],_ => Cy n
 | a::l,h => by have h1:=oJ (n:=n) (l:=l) (λk hk=>h k (by simp[hk]));have h2:=PX (h a (by simp)) (λ_=>1);rw[QV,<- h1];rw[show gy n (λk=>l.count k)+1=gy n (λk=>l.count k)+gy n (λk=>(if k=a then 1 else 0)*1) by rw[h2],<- PW];grind
theorem Cz{f:Nat->Nat}:∀ {n:Nat},(∀ k,k<n->f k<=1)->gy n f=n->∀ k,k<n->f k=1
 | 0,_,_,k,hk => by omega
 | n+1,h,hs,k,hk => by
  rw[QU]at hs;have hle:∀ m,m<=n->gy m f<=m:=by
   intro m
   induction m with
   | zero => intro _; exact Qn _
   | succ m ih =>
    grind [jI]
  have h1:=hle n (Qn _);have h2:=h n (by omega);by_cases e:k=n
  ·rw[e]; omega
  ·exact Cz (n:=n) (λk hk=>h k (by omega)) (by omega) k (by omega)
section
variable {inp:Nat->List Nat}
end
structure ah where
 kind:Int
 l:Int
 r:Int
 source:Int
 cl:ai
 key:Int
 co:ai
def nz:ah:=⟨0,0,0,0,⟨none,0,[]⟩,0,⟨none,0,[]⟩⟩
def kI(w:World)(ao:Option Addr)(ns:List ah):Prop:=
 ns.length<=164703072086692425/\∀ i,i<ns.length->∃ b off,ao=some (aD b off)/\
  w.cell? (aD b (off+i*7))=some (.int .i64 (ns.getD i nz).kind)/\w.cell? (aD b (off+i*7+1))=some (.int .i64 (ns.getD i nz).l)/\
  w.cell? (aD b (off+i*7+2))=some (.int .i64 (ns.getD i nz).r)/\w.cell? (aD b (off+i*7+3))=some (.int .i64 (ns.getD i nz).source)/\
  w.cell? (aD b (off+i*7+4))=some (ns.getD i nz).cl.val/\w.cell? (aD b (off+i*7+5))=some (.int .i64 (ns.getD i nz).key)/\
  w.cell? (aD b (off+i*7+6))=some (ns.getD i nz).co.val/\(ns.getD i nz).cl.At w/\(ns.getD i nz).co.At w
def ah.same(a b:ah):Prop:=a.kind=b.kind/\a.l=b.l/\a.r=b.r/\a.source=b.source/\a.cl.xs=b.cl.xs/\a.key=b.key/\a.co.xs=b.co.xs
structure CE where
 sources:List Int
 clauses:List Int
 order:List Int
 out:Bool
 size:Nat
 cost:Nat
def vz:CE:=⟨[],[],[],false,0,0⟩
def oH(l m:List Int):List Int:=m.foldl (λout x=>if x∈out then out else out++[x]) l
def aJ(c:aI):List Int:=if c.op≠2/\c.const=false then [c.left,c.right] else [c.left]
def aZ(cs:List aI):List Int:=cs.flatMap aJ
def bX(ts:List af)(src:List Int)(cs:List aI)(sources:List Int):Bool:=(aZ cs).all λc=>decide ((aA ts src c:Int)∈sources)
def kE(ts:List af)(src:List Int)(cs:List aI):Nat:=
 if cs.length≠1∨(cs.getD 0 cz).not=true then 2
 else if (cs.getD 0 cz).op=1 then 3
 else if (cs.getD 0 cz).op=2 then 10
 else if (cs.getD 0 cz).const=true then (lK ts src (cs.getD 0 cz).left).toNat
 else max (lK ts src (cs.getD 0 cz).left).toNat (lK ts src (cs.getD 0 cz).right).toNat
def qI(ts:List af)(src:List Int)(s:Int):Nat:=(ts.getD (src.getD s.toNat 0).toNat tz).rows.toNat
def anA(ts:List af)(q:ae)(clauses:List Int)(n:Nat):Nat:=(List.range q.wh.length).foldl (λ(n c:Nat)=>if (c:Int)∈clauses then n / kE ts q.src.xs (q.wh.getD c lz).cs else n) n
def abI(ts:List af)(q:ae)(sources clauses:List Int):Nat:=
 if (sources.any λs=>decide (qI ts q.src.xs s=0))=true then 0
 else max (anA ts q clauses ((sources.map (qI ts q.src.xs)).foldl fU 1)) 1
def ahQ(kind:Int)(s:Nat)(l r:CE):Nat:=
 if kind=1 then fZ s 1
 else if kind=3 then fZ (fZ l.cost r.cost) (fU l.size r.size)
 else if kind=4 then fZ (fZ l.cost r.cost) (fZ (fZ l.size s) (fU 2 r.size))
 else if kind=5 then fZ (fZ l.cost r.cost) (fZ (fZ l.size s) r.size)
 else if kind=6∨kind=10 then fZ l.cost (fU l.size (l9 l.size+1))
 else if kind=7 then fZ l.cost (fU 2 l.size)
 else fZ l.cost l.size
def au(l m:List Int):Bool:=decide (m.length<=l.length)&&decide (l.take m.length=m)
def iO(ts:List af)(src:List Int)(cs:List aI)(a b:List Int):Int × Int × Bool:=
 if cs.length≠1∨(cs.getD 0 cz).not=true∨(cs.getD 0 cz).const=true∨(cs.getD 0 cz).op≠0 then (0,0,false)
 else if (aA ts src (cs.getD 0 cz).left:Int)∈a/\(aA ts src (cs.getD 0 cz).right:Int)∈b then ((cs.getD 0 cz).left,(cs.getD 0 cz).right,true)
 else ((cs.getD 0 cz).right,(cs.getD 0 cz).left,decide ((aA ts src (cs.getD 0 cz).right:Int)∈a)&&decide ((aA ts src (cs.getD 0 cz).left:Int)∈b))
def arity(kind:Int):Nat:=if kind=1 then 0 else if 3<=kind/\kind<=5 then 2 else 1
def ai4(n:ah):Bool:=
 decide ((1<=arity n.kind∨n.l=0)/\(2<=arity n.kind∨n.r=0)/\(n.kind=1∨n.source=0)/\(n.kind=4∨n.kind=5∨n.key=0)/\
  (n.kind=2∨3<=n.kind/\n.kind<=5∨n.cl.xs.length=0)/\(n.kind=6↔n.co.xs.length≠0))
def kJ(ts:List af)(q:ae)(l sources:List Int):Bool:=
 (List.range l.length).all λi=>decide (0<=l.getD i 0)&&decide (l.getD i 0<q.wh.length)&&(decide (i=0) || decide (l.getD (i-1) 0<l.getD i 0))&&bX ts q.src.xs (q.wh.getD (l.getD i 0).toNat lz).cs sources
def PY(q:ae)(v:CE):Bool:=decide (v.sources.length=q.src.xs.length)&&decide (v.clauses.length=q.wh.length)
def anB(ts:List af)(q:ae)(n:ah)(l r:CE):Bool:=
 if n.kind=2 then decide (0<n.cl.xs.length)
 else if n.kind=4∨n.kind=5 then
  decide (n.key∈n.cl.xs)&&(iO ts q.src.xs (q.wh.getD n.key.toNat lz).cs l.sources r.sources).2.2 &&
   (decide (n.kind=4) || (au l.order [(iO ts q.src.xs (q.wh.getD n.key.toNat lz).cs l.sources r.sources).1]&&au r.order [(iO ts q.src.xs (q.wh.getD n.key.toNat lz).cs l.sources r.sources).2.1]))
 else if n.kind=6 then di n.co.xs (az ts q.src.xs)&&cK n.co.xs&&n.co.xs.all λc=>decide ((aA ts q.src.xs c:Int)∈l.sources)
 else if n.kind=7 then q.group&&PY q l
 else if n.kind=8 then q.group&&PY q l&&au l.order q.keys.xs
 else if n.kind=9 then !q.group&&PY q l
 else if n.kind=10 then decide (0<q.ord.xs.length)
 else true
def ahR(ts:List af)(q:ae)(n:ah)(l r:CE):Option CE:=
 if (r.out || (l.out != decide (n.kind=10)))=true then none
 else if (oH l.sources r.sources).length≠l.sources.length+r.sources.length then none
 else if kJ ts q n.cl.xs (oH l.sources r.sources)=false then none
 else if anB ts q n l r=false then none
 else
  let c:=oH (oH l.clauses r.clauses) n.cl.xs
  let s:=abI ts q (oH l.sources r.sources) c
  some ⟨oH l.sources r.sources,c,if n.kind=6 then n.co.xs else l.order,decide (7<=n.kind),s,ahQ n.kind s l r⟩
def abJ(ts:List af)(q:ae)(plan:List ah):Nat->Nat->Option CE
 | 0,_ => none
 | f+1,i =>
  let n:=plan.getD i nz
  if ai4 n=false∨n.kind<1∨10<n.kind then none
  else if n.kind=1 then
   if n.source<0∨(q.src.xs.length:Int)<=n.source then none
   else some ⟨[n.source],[],[],false,abI ts q [n.source] [],ahQ 1 (abI ts q [n.source] []) vz vz⟩
  else if n.l<0∨(i:Int)<=n.l then none
  else
   match abJ ts q plan f n.l.toNat with
   | none => none
   | some l =>
    if arity n.kind=2 then
     if n.r<0∨(i:Int)<=n.r then none
     else
      match abJ ts q plan f n.r.toNat with
      | none => none
      | some r => ahR ts q n l r
    else ahR ts q n l vz
def inpN(plan:List ah)(i:Nat):List Nat:=
 let n:=plan.getD i nz
 if arity n.kind=0 then []
 else if arity n.kind=1 then (if 0<=n.l/\n.l<i then [n.l.toNat] else [])
 else (if 0<=n.l/\n.l<i/\0<=n.r/\n.r<i then [n.l.toNat,n.r.toNat] else [])
theorem PZ(l:List Int)(a:Int)(m:List Int):oH l (a::m)=oH (if a∈l then l else l++[a]) m:=rfl
theorem rO{x:Int}:∀ {m l:List Int},x∈oH l m↔x∈l∨x∈m
 | [],l => by grind [oH]
 | a::m,l => by rw[PZ,rO];grind
def bu(n:Nat)(l:List Int):Prop:=∀ x∈l,0<=x/\x<(n:Int)
theorem bu.with{n:Nat}{l m:List Int}(hl:bu n l)(hm:bu n m):bu n (oH l m):=λx a=>by
 rcases rO.1 a with h | h
 ·exact hl x h
 ·exact hm x h
theorem bu.lt(hn:n<=64)(h:bu n l):aB l<18446744073709551616:=by have a:=nD (n:=n) h;have b:2 ^ n<=2 ^ 64:=QI (by omega) hn;omega
theorem P5(l:List Int):∀ m:Nat,l.foldl (λm n=>m|||2 ^ n.toNat) m=m|||aB l:=by
 unfold aB
 induction l with
 | nil => intro m; simp
 | cons a l ih => grind
theorem uK(a b:List Int):aB (a++b)=aB a|||aB b:=by grind [aB,P5]
theorem VP{m:List Int}(hl:bu n l)(hm:bu n m):aB (oH l m)=aB l|||aB m:=by apply QJ;intro i;rw[Nat.testBit_or,QE (λx hx=>(hl.with hm x hx).1),QE (λx hx=>(hl x hx).1),QE (λx hx=>(hm x hx).1),QX];grind [rO]
theorem CF(hn:n<=64)(hs:bu n s)(hl:bu n l):(aB l &&& (18446744073709551615-aB s)=0)↔∀ x∈l,x∈s:=by
 rw[Ea (hs.lt hn) (hl.lt hn)];constructor
 ·intro h x a;have e:=(hl x a).1;have b:=h x.toNat (by rw[QE (λx a=>(hl x a).1),Qs]; grind);rw[QE (λx a=>(hs x a).1),Qs,QY e]at b;exact b
 ·intro h i d;rw[QE (λx a=>(hl x a).1),Qs]at d;rw[QE (λx a=>(hs x a).1),Qs];exact h _ d
theorem Eb(hs:bu n s)(hl:bu n l):(aB s &&& aB l≠0)↔∃ x,x∈s/\x∈l:=by
 rw[VN];constructor
 ·rintro⟨i,b,d⟩;rw[QE (λx a=>(hs x a).1),Qs]at b;rw[QE (λx a=>(hl x a).1),Qs]at d
  grind
 ·rintro⟨x,b,d⟩;have e:=(hs x b).1;refine⟨x.toNat,?_,?_⟩
  ·rw[QE (λx a=>(hs x a).1),Qs,QY e]; exact b
  ·rw[QE (λx a=>(hl x a).1),Qs,QY e]; exact d
theorem Ir(hs:bu n s)(hd:s.Nodup):aB s=2 ^ n-1↔s.length=n:=by
 have g:∀ k:Nat,k∈s.map Int.toNat↔(k:Int)∈s:=λk=>by
  rw[QZ];constructor
  ·rintro⟨x,f,rfl⟩;rw[QY (hs x f).1]; exact f
  grind
 have j:(s.map Int.toNat).Nodup:=by show List.Pairwise _ _;rw[List.pairwise_map];refine List.Pairwise.imp_of_mem ?_ hd;intro a b t u v e;have p:=(hs a t).1;have q:=(hs b u).1;omega
 have l:∀ k∈s.map Int.toNat,k<n:=λk o=>by have:=(hs _ ((g k).1 o)).2;omega
 have d:=oJ l;rw[QQ]at d;have r:=List.nodup_iff_count.1 j;constructor
 ·intro h;rw[<- d];have e:∀ k,k<n->(s.map Int.toNat).count k=1:=λk o=>by
   have p:(k:Int)∈s:=by have q:=QE (λx f=>(hs x f).1) k;simp_all
   grind
  have one:∀ m,m<=n->gy m (λk=>(s.map Int.toNat).count k)=m:=by
   intro m
   induction m with
   | zero => intro _; rfl
   | succ m ih => grind [jI]
  simp_all
 ·intro h;have e:=Cz (n:=n) (λk _=>r k) (by rw[d,h]);apply QJ;intro i;rw[QE (λx f=>(hs x f).1),VO,QX,Qs,Qs];constructor
  ·simp_all
  grind
def QW:=@uK
def bB(s:Nat):List Nat:=(List.range 64).filter λi=>s.testBit i
theorem VQ(hs:bu n s)(hd:s.Nodup):(s.map Int.toNat).Nodup:=by show List.Pairwise _ _;rw[List.pairwise_map];refine List.Pairwise.imp_of_mem ?_ hd;intro a b d f g e;have i:=(hs a d).1;have j:=(hs b f).1;omega
theorem afd(hs:bu n s)(k:Nat):k∈s.map Int.toNat↔(k:Int)∈s:=by
 rw[QZ];constructor
 ·rintro⟨x,a,rfl⟩;rw[QY (hs x a).1]; exact a
 grind
theorem JM(hnm:n<=m)(p:Nat->Bool)(h:∀ i,n<=i->p i=false):(List.range m).filter p=(List.range n).filter p:=by
 induction m with
 | zero =>
  simp_all
 | succ m ih =>
  grind [List.range_succ]
structure bK where
 kind:Int
 sources:Nat
 clauses:Nat
 order:List Int
 size:Nat
 cost:Nat
def aU(a b:Nat):Bool:=decide (b &&& (18446744073709551615-a)=0)
def dQ(ts:List af)(src:List Int)(cs:List aI):List Int:=(aZ cs).map λc=>(aA ts src c:Int)
def iP(ts:List af)(q:ae)(l:List Int)(s:Nat):Bool:=
 (List.range l.length).all λi=>decide ((if i=0 then -1 else l.getD (i-1) 0)<l.getD i 0)&&decide (l.getD i 0<q.wh.length)&&aU s (aB (dQ ts q.src.xs (q.wh.getD (l.getD i 0).toNat lz).cs))
theorem nE(hc:gH ts=true)(ha:di src ts.length=true)(h:∀ c∈aZ cs,0<=c/\c<az ts src):bu src.length (dQ ts src cs):=λx e=>by obtain⟨c,a,rfl⟩:=QZ.1 e;obtain⟨b,d⟩:=h c a;have:=(QS hc ha b d).1;omega
theorem qW(hc:gH ts=true)(ha:di src ts.length=true)(hn:src.length<=64)(h:∀ c∈aZ cs,0<=c/\c<az ts src)(hs:bu src.length s) :
  aU (aB s) (aB (dQ ts src cs))=bX ts src cs s:=by unfold aU bX;rw[QX,Qs,Qk,CF hn hs (nE hc ha h)];grind [dQ]
def Bl(ts:List af)(q:ae):Prop:=∀ i,i<q.wh.length->∀ c∈aZ (q.wh.getD i lz).cs,0<=c/\c<az ts q.src.xs
theorem zq(hc:gH ts=true)(ha:di q.src.xs ts.length=true)(hn:q.src.xs.length<=64)(hk:Bl ts q)(hs:bu q.src.xs.length s)(l:List Int) :
  iP ts q l (aB s)=kJ ts q l s:=by
 unfold iP kJ;rw[QX,Qk,Qk];constructor
 ·intro h;have a:∀ i,i<l.length->0<=l.getD i 0:=by
   intro i
   induction i with
   | zero =>
    grind
   | succ i ih =>
    grind
  intro i d;have e:=Q0.1 d;have b:=h i d;have j:=a i e;simp only[Qj,Qs]at b;obtain⟨⟨k,g⟩,f⟩:=b;rw[qW hc ha hn (hk _ (by omega)) hs]at f;grind
 ·intro h i d;have b:=h i d;simp only[Qj,Bool.or_eq_true,Qs]at b;obtain⟨⟨⟨j,g⟩,k⟩,f⟩:=b;simp only[Qj,Qs];rw[qW hc ha hn (hk _ (by omega)) hs];refine⟨⟨?_,g⟩,f⟩;omega
theorem rP(k:Nat):aB [(k:Int)]=2 ^ k:=by grind [aB]
theorem mP(hn:n<=64)(hs:bu n s){k:Nat}(hk:k<n):aU (aB s) (2 ^ k)=decide ((k:Int)∈s):=by unfold aU;rw[<- rP,QX,Qs,Qs,CF hn hs (λx a=>by simp_all)];simp_all
def xz(ts:List af)(src:List Int)(cs:List aI)(a b:Nat):Int × Int × Bool:=
 if cs.length > 1∨(cs.getD 0 cz).op≠0∨(cs.getD 0 cz).not=true∨(cs.getD 0 cz).const=true then (0,0,false)
 else if (aU a (2 ^ aA ts src (cs.getD 0 cz).left)&&aU b (2 ^ aA ts src (cs.getD 0 cz).right))=true then ((cs.getD 0 cz).left,(cs.getD 0 cz).right,true)
 else if (aU a (2 ^ aA ts src (cs.getD 0 cz).right)&&aU b (2 ^ aA ts src (cs.getD 0 cz).left))=true then ((cs.getD 0 cz).right,(cs.getD 0 cz).left,true)
 else (0,0,false)
theorem Ec(hc:gH ts=true)(ha:di src ts.length=true)(hn:src.length<=64)(h0:0<cs.length)(h:∀ c∈aZ cs,0<=c/\c<az ts src){a b:List Int}
  (hsa:bu src.length a) (hsb:bu src.length b) :
  (xz ts src cs (aB a) (aB b)).2.2=(iO ts src cs a b).2.2/\((iO ts src cs a b).2.2=true->xz ts src cs (aB a) (aB b)=iO ts src cs a b):=by
 unfold xz iO;by_cases l:cs.length≠1∨(cs.getD 0 cz).not=true∨(cs.getD 0 cz).const=true∨(cs.getD 0 cz).op≠0
 ·grind
 ·have e:¬ (cs.length > 1∨(cs.getD 0 cz).op≠0∨(cs.getD 0 cz).not=true∨(cs.getD 0 cz).const=true):=by simp_all
  rw[Qu l,Qu e];have d:(cs.getD 0 cz).left∈aZ cs/\(cs.getD 0 cz).right∈aZ cs:=by
   have f:cs.getD 0 cz∈cs:=by simp_all
   have m:(cs.getD 0 cz).op≠2/\(cs.getD 0 cz).const=false:=by simp_all
   unfold aZ;refine⟨Q3.2 ⟨_,f,?_⟩,Q3.2 ⟨_,f,?_⟩⟩
   ·unfold aJ; simp_all
   ·unfold aJ; simp_all
  have g:=h _ d.1;have i:=h _ d.2;have j:=(QS hc ha g.1 g.2).1;have k:=(QS hc ha i.1 i.2).1;generalize cs.getD 0 cz=c at *;rw[mP hn hsa j,mP hn hsb k,mP hn hsa k,mP hn hsb j];grind
theorem Iu{f:Nat->Nat}(h:∀ k,f k<=1):∀ n,gy n f<=n
 | 0 => Qn _
 | n+1 => by rw[QU];have:=Iu h n;grind
theorem Iw(hs:bu n s)(hd:s.Nodup):s.length<=n:=by
 have a:∀ k∈s.map Int.toNat,k<n:=λk d=>by have:=(hs _ ((afd hs k).1 d)).2;omega
 have b:=oJ a;grind [VQ,Iu]
theorem Md(h:cK xs=true):xs.Nodup:=by unfold cK at h;grind [List.pairwise_iff_getElem]
def lu(ts:List af)(src aX:List Int)(s:Nat):Bool:=
 decide (0<aX.length)&&decide ((aX.length:Int)<=az ts src) &&
  (List.range aX.length).all λi=>decide (0<=aX.getD i 0)&&decide (aX.getD i 0<az ts src) && !decide (aX.getD i 0∈aX.take i)&&aU s (2 ^ aA ts src (aX.getD i 0))
theorem oK{i:Nat}(hi:i<xs.length){x:Int}:x∈xs.take i↔∃ j,j<i/\xs.getD j 0=x:=by
 rw[List.mem_take_iff_getElem];constructor
 ·rintro⟨j,a,e⟩;refine⟨j,by omega,?_⟩
  grind
 grind
theorem VR(hc:gH ts=true)(ha:di src ts.length=true)(hn:src.length<=64)(hs:bu src.length s){aX:List Int}(h0:0<aX.length) :
  lu ts src aX (aB s)=(di aX (az ts src)&&cK aX&&aX.all λc=>decide ((aA ts src c:Int)∈s)):=by
 unfold lu;rw[QX,Qv h0,Qw,Qj,Qs,Qk,Qj,Qj,Qk];have at':∀ c∈aX,∃ i,i<aX.length/\aX.getD i 0=c:=λc k=>by obtain⟨i,a,e⟩:=Qp k;exact⟨i,a,by simp_all⟩
 have m:∀ i,i<aX.length->aX.getD i 0∈aX:=λi a=>by simp_all
 constructor
 ·rintro⟨_,h⟩;have u:∀ i,i<aX.length->0<=aX.getD i 0/\aX.getD i 0<az ts src/\aX.getD i 0 ∉ aX.take i/\(aA ts src (aX.getD i 0):Int)∈s:=λi a=>by have g:=h i (Q0.2 a);simp only[Qj,Q4,Qs,Qt]at g;obtain⟨⟨⟨l,p⟩,v⟩,t⟩:=g;rw[mP hn hs (QS hc ha l p).1,Qs]at t;simp_all
  refine⟨⟨?_,?_⟩,?_⟩
  ·grind [di]
  ·grind [cK,oK]
  grind
 ·rintro⟨⟨g,l⟩,p⟩;have n:=Md l;have b:bu (az ts src).toNat aX:=λx o=>by unfold di at g;grind
  have q:=Iw b n;have r:=mO hc ha src.length (Qn _);rw[QT]at r;refine⟨by omega,λi a=>?_⟩;have d:=Q0.1 a;have k:=m i d;have o:=b _ k;have f:aX.getD i 0<az ts src:=by omega
  simp only[Qj,Q4,Qs,Qt];rw[mP hn hs (QS hc ha o.1 f).1];refine⟨⟨⟨o.1,f⟩,?_⟩,p _ k⟩;intro e;obtain⟨j,w,y⟩:=(oK d).1 e;unfold cK at l;grind
def iD(ts:List af)(q:ae)(sources clauses:Nat):Nat:=
 if ((bB sources).map λ(k:Nat)=>qI ts q.src.xs (k:Int)).foldl fU 1=0 then 0
 else max ((bB clauses).foldl (λx c=>x / kE ts q.src.xs (q.wh.getD c lz).cs) (((bB sources).map λ(k:Nat)=>qI ts q.src.xs (k:Int)).foldl fU 1)) 1
def xA(kind:Int)(l r s:Nat):Nat:=if kind=4 then jk [l,r,r,s] else if kind=5 then jk [l,r,s] else fU l r
def dL(kind:Int)(s lc ls rc rs:Nat):Nat:=
 if kind=1 then jk [s,1]
 else if kind=3∨kind=4∨kind=5 then jk [lc,rc,xA kind ls rs s]
 else if kind=6∨kind=10 then jk [lc,fU ls (l9 ls+1)]
 else if kind=7 then jk [lc,ls,ls]
 else jk [lc,ls]
theorem Me(a b:Nat):jk [a,b]=fZ a b:=by grind [fZ,vR]
theorem ahT(a b c:Nat):jk [a,b,c]=fZ (fZ a b) c:=by grind [fZ,vR]
def dW(k:Int):Bool:=decide (7<=k)&&decide (k<=10)
def pz:bK:=⟨0,0,0,[],0,0⟩
def fP(ts:List af)(q:ae)(n:ah)(a b:Nat):Int × Int × Bool:=
 if n.key∈n.cl.xs/\0<=n.key/\n.key<q.wh.length then xz ts q.src.xs (q.wh.getD n.key.toNat lz).cs a b else (0,0,false)
def kP(ts:List af)(q:ae)(n:ah)(a b:Nat):Bool:=decide (a &&& b=0)&&iP ts q n.cl.xs (a|||b)
def kF(q:ae)(l:bK):Bool:=decide (l.sources=2 ^ q.src.xs.length-1)&&decide (l.clauses=2 ^ q.wh.length-1)
def lF(kind:Int)(l r:bK):Bool:=(dW l.kind==decide (kind=10)) && !dW r.kind
def dh(ts:List af)(q:ae)(n:ah)(l r:bK):Bool:=
 if n.kind=1 then decide (0<=n.source)&&decide (n.source<q.src.xs.length)
 else if n.kind=2 then decide (0<n.cl.xs.length)&&iP ts q n.cl.xs l.sources
 else if n.kind=3 then kP ts q n l.sources r.sources
 else if n.kind=4 then (fP ts q n l.sources r.sources).2.2&&kP ts q n l.sources r.sources
 else if n.kind=5 then (fP ts q n l.sources r.sources).2.2&&kP ts q n l.sources r.sources&&au l.order [(fP ts q n l.sources r.sources).1]&&au r.order [(fP ts q n l.sources r.sources).2.1]
 else if n.kind=6 then lu ts q.src.xs n.co.xs l.sources
 else if n.kind=7 then q.group&&kF q l
 else if n.kind=8 then q.group&&kF q l&&au l.order q.keys.xs
 else if n.kind=9 then !q.group&&kF q l
 else decide (0<q.ord.xs.length)
def bV(ts:List af)(q:ae)(n:ah)(l r:bK):bK:=
 let s:=(if n.kind=1 then 2 ^ n.source.toNat else 0)|||l.sources|||r.sources
 let c:=aB n.cl.xs|||l.clauses|||r.clauses
 let z:=if dW n.kind=true then l.size else iD ts q s c
 ⟨n.kind,s,c,if n.kind=6 then n.co.xs else if 2<=n.kind/\n.kind<=5 then l.order else [],z,dL n.kind z l.cost l.size r.cost r.size⟩
structure Ok(ts:List af)(q:ae):Prop where
 cat:gH ts=true
 src:di q.src.xs ts.length=true
 small:q.src.xs.length<=64
 oG:q.wh.length<=64
 aX:Bl ts q
 some:∀ i,i<q.wh.length->0<(q.wh.getD i lz).cs.length
theorem JN(h:kJ ts q l s=true):bu q.wh.length l:=λx b=>by obtain⟨i,a,e⟩:=Qp b;unfold kJ at h;rw[Qk]at h;have d:=h i (Q0.2 a);simp_all
theorem abK(ok:Ok ts q){a b:List Int}(ha:bu q.src.xs.length a)(hb:bu q.src.xs.length b)(l:List Int):iP ts q l (aB a|||aB b)=kJ ts q l (oH a b):=by rw[<- VP ha hb];exact zq ok.cat ok.src ok.small ok.aX (ha.with hb) l
theorem abL(ok:Ok ts q)(n:ah){a b:List Int}(ha:bu q.src.xs.length a)(hb:bu q.src.xs.length b)(hl:kJ ts q n.cl.xs (oH a b)=true) :
  (fP ts q n (aB a) (aB b)).2.2=(decide (n.key∈n.cl.xs)&&(iO ts q.src.xs (q.wh.getD n.key.toNat lz).cs a b).2.2)/\
  ((fP ts q n (aB a) (aB b)).2.2=true->fP ts q n (aB a) (aB b)=iO ts q.src.xs (q.wh.getD n.key.toNat lz).cs a b):=by
 unfold fP;by_cases c:n.key∈n.cl.xs
 ·have d:=JN hl _ c;rw[Qo ⟨c,d.1,d.2⟩,Qv c,Qw];obtain⟨e,f⟩:=Ec ok.cat ok.src ok.small (cs:=(q.wh.getD n.key.toNat lz).cs) (ok.some _ (by omega)) (ok.aX _ (by omega)) ha hb
  simp_all
 simp_all
def nN(n:ah):Bool:=
 decide ((1<=arity n.kind∨n.l=0)/\(2<=arity n.kind∨n.r=0)/\(n.kind=1∨n.source=0)/\(n.kind=4∨n.kind=5∨n.key=0)/\
  (n.kind=2∨3<=n.kind/\n.kind<=5∨n.cl.xs.length=0)/\(n.kind=6∨n.co.xs.length=0))
def gK(n:ah)(i:Nat):Bool:=
 decide (1<=n.kind)&&decide (n.kind<=10)&&nN n&&(decide (arity n.kind<1) || (decide (0<=n.l)&&decide (n.l<i)))&&(decide (arity n.kind<2) || (decide (0<=n.r)&&decide (n.r<i)))
def dN(n:ah)(ps:List bK):bK:=if 1<=arity n.kind then ps.getD n.l.toNat pz else pz
def dO(n:ah)(ps:List bK):bK:=if arity n.kind=2 then ps.getD n.r.toNat pz else pz
def oI(ts:List af)(q:ae)(n:ah)(ps:List bK):Option (List bK):=
 if (lF n.kind (dN n ps) (dO n ps)&&dh ts q n (dN n ps) (dO n ps))=true then some (ps++[bV ts q n (dN n ps) (dO n ps)]) else none
def je(ts:List af)(q:ae)(plan:List ah):Nat->Option (List bK)
 | 0 => some []
 | k+1 => (je ts q plan k).bind (oI ts q (plan.getD k nz))
def ahU(ts:List af)(q:ae)(plan:List ah)(i:Nat):Option CE:=abJ ts q plan (i+1) i
def qJ(l:List Int):Bool:=(List.range l.length).all λi=>decide (l.getD i 0=(i:Int))
def jw(q:ae):List Int:=q.ord.xs.map λp=>q.bA.xs.getD p.toNat 0
def gL(q:ae)(kind:Int)(order:List Int):Bool:=
 if q.ord.xs.length=0 then true
 else if kind=10 then true
 else if kind=9 then au order (jw q)
 else if kind=8 then decide (q.ord.xs.length<=q.keys.xs.length)&&qJ q.ord.xs
 else false
def xB(plan:List ah):Bool:=(List.range (plan.length-1)).all λk=>decide (gy plan.length (λi=>(inpN plan i).count k)=1)
def eG(plan:List ah):Bool:=
 decide (1<=plan.length)&&decide (plan.length<=64)&&((List.range plan.length).all λi=>gK (plan.getD i nz) i)&&xB plan
def iU(ts:List af)(q:ae)(plan:List ah):Option (List bK):=
 if eG plan=false then none
 else (je ts q plan plan.length).bind λps=>
  let n:=plan.getD (plan.length-1) nz
  if (dW n.kind&&gL q n.kind (ps.getD n.l.toNat pz).order)=true then some ps else none
structure aQ where
 d:bK
 ns:List ah
def pK:aQ:=⟨pz,[]⟩
def bL(n:ah):ah:=⟨n.kind,n.l,n.r,n.source,⟨none,0,n.cl.xs⟩,n.key,⟨none,0,n.co.xs⟩⟩
def dB(k:Nat)(n:ah):ah:=⟨n.kind,if 1<=arity n.kind then wrap64 (n.l+k) else n.l,if 2<=arity n.kind then wrap64 (n.r+k) else n.r,n.source,n.cl,n.key,n.co⟩
def iH(ls:List (List ah)):List ah:=ls.foldl (λacc l=>acc++l.map (dB acc.length)) []
def uL(ls:List (List ah))(i:Nat):Int:=if i<ls.length then ((iH (ls.take (i+1))).length:Int)-1 else 0
def sM(n:ah)(ls:List (List ah)):List ah:=
 iH ls++[⟨n.kind,uL ls 0,uL ls 1,n.source,⟨none,0,n.cl.xs⟩,n.key,⟨none,0,n.co.xs⟩⟩]
def ay(ts:List af)(q:ae)(n:ah)(bs:List aQ):aQ:=
 ⟨bV ts q n (bs.getD 0 pK).d (bs.getD 1 pK).d,sM n (bs.map aQ.ns)⟩
def dU(kind:Int):ah:=⟨kind,0,0,0,⟨none,0,[]⟩,0,⟨none,0,[]⟩⟩
def iV(s:Int):ah:=⟨1,0,0,s,⟨none,0,[]⟩,0,⟨none,0,[]⟩⟩
def zt(cl:List Int):ah:=⟨2,0,0,0,⟨none,0,cl⟩,0,⟨none,0,[]⟩⟩
def Ed(co:List Int):ah:=⟨6,0,0,0,⟨none,0,[]⟩,0,⟨none,0,co⟩⟩
def bO(kind:Int)(cl:List Int)(key:Int):ah:=⟨kind,0,0,0,⟨none,0,cl⟩,key,⟨none,0,[]⟩⟩
def cZ(s:Nat):List Int:=(bB s).map λ(n:Nat)=>(n:Int)
def bY(ts:List af)(q:ae)(t:aQ)(c:Nat):aQ:=if c=0 then t else ay ts q (zt (cZ c)) [t]
def bD(ts:List af)(q:ae)(t:aQ)(o:List Int):aQ:=ay ts q (Ed o) [t]
def gX(conc:List Nat)(s:Nat):Nat->Nat
 | 0 => 0
 | k+1 => if aU s (conc.getD k 0)=true then gX conc s k|||2 ^ k else gX conc s k
def aY(conc:List Nat)(s:Nat):Nat:=gX conc s conc.length
def aR(conc:List Nat)(a b:Nat):Nat:=aY conc (a|||b) &&& (18446744073709551615-(aY conc a|||aY conc b))
def bQ(ts:List af)(q:ae)(conc:List Nat)(s:Int):aQ:=
 let t:=ay ts q (iV s) []
 bY ts q t (aY conc t.d.sources)
def dF(ts:List af)(q:ae):Nat->aQ
 | 0 => ay ts q (iV 0) []
 | k+1 => ay ts q (dU 3) [dF ts q k,ay ts q (iV ((k+1:Nat):Int)) []]
def iE(ts:List af)(q:ae):aQ:=
 let e:=ay ts q (dU (if q.group=true then 7 else 9)) [bY ts q (dF ts q (q.src.xs.length-1)) (2 ^ q.wh.length-1)]
 if 0<q.ord.xs.length then ay ts q (dU 10) [e] else e
def aG(q:ae):List Int:=if q.group=true then q.keys.xs else if cK (jw q)=true then jw q else []
def bg(q:ae)(o:List Int):Int:=if q.group=false then 9 else if au o q.keys.xs=true then 8 else 7
def fG(ts:List af)(q:ae)(t:aQ):aQ:=
 let e:=ay ts q (dU (bg q t.d.order)) [t]
 if gL q (bg q t.d.order) t.d.order=true then e else ay ts q (dU 10) [e]
def df(ts:List af)(q:ae)(t:aQ):List aQ:=
 if 0<(aG q).length then [fG ts q t,fG ts q (bD ts q t (aG q))] else [fG ts q t]
def jy(b t:aQ):aQ:=if t.d.cost<b.d.cost then t else b
def dV(b:aQ)(l:List aQ):aQ:=l.foldl jy b
abbrev aj:=List Int × Option (Nat × aQ)
def dJ:List aj->Nat
 | [] => 0
 | (_,none)::g => dJ g
 | (_,some x)::g => max (x.1+1) (dJ g)
def dZ(t:aQ)(p:aj):Bool:=au t.d.order p.1&&(match p.2 with | none=>true | some x=>decide (t.d.cost<x.2.d.cost))
def eP(n:Nat)(t:aQ)(p:aj):aj:=if dZ t p=true then (p.1,some (n,t)) else p
def gD(g:List aj)(t:aQ):List aj:=g.map (eP (dJ g) t)
def fV(x:Bool × List aj)(t:aQ):Bool × List aj:=(x.1 || x.2.any (dZ t),gD x.2 t)
def jQ(g:List aj)(l:List aQ):Bool × List aj:=l.foldl fV (false,g)
def bC(g:List aj):Option aQ:=match g with | (_,some x)::_=>some x.2 | _=>none
def dK(ts:List af)(q:ae)(g:List aj)(o:List Int):List aj:=gD g (bD ts q ((bC g).getD pK) o)
def aK(ts:List af)(q:ae)(g:List aj)(l:List aQ):Bool × List aj:=
 if (jQ g l).1=true then (true,((g.map Prod.fst).drop 1).foldl (dK ts q) (jQ g l).2) else (false,(jQ g l).2)
def kG(l:List (Nat × aQ))(p:aj):List (Nat × aQ):=
 match p.2 with
 | none => l
 | some x => if l.any (λy => y.1==x.1)=true then l else l++[x]
def dG(g:List aj):List (Nat × aQ):=g.foldl kG []
def kQ(bS:Int)(m:Option aQ)(x:Nat × aQ):Option aQ:=
 if (au x.2.d.order [bS]&&(match m with | none=>true | some y=>decide (x.2.d.cost<y.d.cost)))=true then some x.2 else m
def mJ(g:List aj)(bS:Int):Option aQ:=(dG g).foldl (kQ bS) none
def fF(ts:List af)(q:ae)(l r:aQ)(g:List aj)(cl:List Int)(acc:List aQ)(key:Int):List aQ:=
 let k:=fP ts q (bO 4 cl key) l.d.sources r.d.sources
 if k.2.2=true then
  match mJ g k.2.1 with
  | none => acc++[ay ts q (bO 4 cl key) [l,r]]
  | some m => if au l.d.order [k.1]=true then acc++[ay ts q (bO 4 cl key) [l,r]]++[ay ts q (bO 5 cl key) [l,m]] else acc++[ay ts q (bO 4 cl key) [l,r]]
 else acc
def dX(ts:List af)(q:ae)(conc:List Nat)(l:aQ)(g:List aj):List aQ:=
 let r:=(bC g).getD pK
 let cl:=cZ (aR conc l.d.sources r.d.sources)
 cl.foldl (fF ts q l r g cl) [ay ts q (bO 3 cl 0) [l,r]]
def fK(ts:List af)(q:ae)(conc:List Nat)(a b:List aj):List aQ:=(dG a).flatMap λx=>dX ts q conc x.2 b
def iQ(ls:List (List Int))(l:List Int):List (List Int):=if l∈ls then ls else ls++[l]
def ah.cells(n:ah):Array Value:=#[.int .i64 n.kind,.int .i64 n.l,.int .i64 n.r,.int .i64 n.source,n.cl.val,.int .i64 n.key,n.co.val]
def fC(ts:List af)(q:ae)(xs:List Int):List Int:=xs.map λc=>(aA ts q.src.xs c:Int)
def bG(cs:List aI):Int × Int × Bool:=
 if cs.length > 1∨(cs.getD 0 cz).op≠0∨(cs.getD 0 cz).not=true∨(cs.getD 0 cz).const=true then (0,0,false) else ((cs.getD 0 cz).left,(cs.getD 0 cz).right,true)
structure kN(q:ae)(t:aQ):Prop where
 src:t.d.sources<2 ^ q.src.xs.length
 cls:t.d.clauses<2 ^ q.wh.length
 cost:t.d.cost<=dA
 kinds:∀ m∈t.ns,1<=m.kind/\m.kind<=10
 pos:0<t.ns.length
theorem Wy(ls:List (List ah))(l:List ah):iH (ls++[l])=iH ls++l.map (dB (iH ls).length):=by grind [iH]
theorem Eu:∀ ls:List (List ah),ls.length<=2->(iH ls).length=(ls.getD 0 []).length+(ls.getD 1 []).length
 | [],_ => rfl
 | [a],_ => by simp[iH]
 | [a,b],_ => by simp[iH]
 | _::_::_::_,h => by simp at h
theorem Rx(ls:List (List ah))(h:∀ l∈ls,∀ m∈l,1<=m.kind/\m.kind<=10):∀ m∈iH ls,1<=m.kind/\m.kind<=10:=by
 have key:∀ (ls:List (List ah)) (acc:List ah),(∀ l∈ls,∀ m∈l,1<=m.kind/\m.kind<=10)->(∀ m∈acc,1<=m.kind/\m.kind<=10)->
   ∀ m∈ls.foldl (λacc l=>acc++l.map (dB acc.length)) acc,1<=m.kind/\m.kind<=10:=by
  intro ls
  induction ls with
  | nil => simp_all
  | cons l ls ih =>
   intro acc d e;refine ih _ (λx b=>d x (ZI _ b)) λm a=>?_;rcases ZK.1 a with a | a
   ·exact e m a
   ·obtain⟨x,b,rfl⟩:=QZ.1 a;exact d l ZJ x b
 exact key ls [] h λm a=>by cases a
theorem vW(ts:List af)(q:ae)(n:ah){bs:List aQ}(h:bs.length<=2):(ay ts q n bs).ns.length=(bs.getD 0 pK).ns.length+(bs.getD 1 pK).ns.length+1:=by
 unfold ay sM;rw[QP,Eu _ (by simpa using h)]
 match bs,h with
 | [],_ => rfl
 | [a],_ => rfl
 | [a,b],_ => rfl
 | _::_::_::_,h => simp at h
theorem ab6(l:List Nat):jk l<=dA:=by grind [vR]
theorem IU(kind:Int)(s lc ls rc rs:Nat):dL kind s lc ls rc rs<=dA:=by grind [dL,ab6]
theorem pW(ha:a<2 ^ n)(hb:b<2 ^ n):a|||b<2 ^ n:=ZR ha hb
theorem mf(ts:List af)(q:ae)(n:ah)(bs:List aQ)(hk:1<=n.kind/\n.kind<=10)(hs:n.kind=1->0<=n.source/\n.source<q.src.xs.length)(hc:bu q.wh.length n.cl.xs)(hb:∀ b∈bs,kN q b):kN q (ay ts q n bs):=by
 have f:∀ n:Nat,0<2 ^ n:=λn=>ZU (by omega);have e:∀ i,(bs.getD i pK).d.sources<2 ^ q.src.xs.length/\(bs.getD i pK).d.clauses<2 ^ q.wh.length:=by
  intro i;by_cases o:i<bs.length
  ·have a:bs.getD i pK∈bs:=by simp_all
   exact⟨(hb _ a).src,(hb _ a).cls⟩
  ·have:bs.getD i pK=pK:=by simp_all
   rw[this];exact⟨f _,f _⟩
 refine⟨?_,?_,?_,?_,?_⟩
 ·show (if n.kind=1 then 2 ^ n.source.toNat else 0)|||_|||_<_
  refine pW (pW ?_ (e 0).1) (e 1).1;split
  ·rename_i h1
   have:=hs h1;exact ZN (by omega) (by omega)
  ·exact f _
 ·show aB n.cl.xs|||_|||_<_
  exact pW (pW (nD hc) (e 0).2) (e 1).2
 ·exact IU _ _ _ _ _ _
 ·intro m a;rcases ZK.1 a with a | a
  ·refine Rx _ (λl j x k=>?_) m a;obtain⟨t,g,rfl⟩:=QZ.1 j;exact(hb t g).kinds x k
  simp_all
 ·show 0<(sM n _).length
  unfold sM;simp
theorem rq(ts:List af)(q:ae)(n:ah)(bs:List aQ)(hk:n.kind≠1):(ay ts q n bs).d.sources=(bs.getD 0 pK).d.sources|||(bs.getD 1 pK).d.sources:=by show (if n.kind=1 then 2 ^ n.source.toNat else 0)|||_|||_=_;simp_all
theorem sS(ts:List af)(q:ae)(s:Int):(ay ts q (iV s) []).d.sources=2 ^ s.toNat:=by show (if (1:Int)=1 then 2 ^ s.toNat else 0)|||0|||0=_;simp
theorem IW(z lc ls rc rs:Nat)(h:lc<=dA):lc<=dL 6 z lc ls rc rs:=by unfold dL;rw[Qu (by decide),Qu (by decide),Qo (by decide),Me];unfold fZ;omega
theorem Rz(ts:List af)(q:ae)(n:ah)(l r:bK):(bV ts q n l r).cost=dL n.kind (if dW n.kind=true then l.size else iD ts q ((if n.kind=1 then 2 ^ n.source.toNat else 0)|||l.sources|||r.sources) (aB n.cl.xs|||l.clauses|||r.clauses)) l.cost l.size r.cost r.size:=rfl
theorem oQ(ts:List af)(q:ae)(t:aQ)(o:List Int)(h:t.d.cost<=dA):t.d.cost<=(bD ts q t o).d.cost:=by show t.d.cost<=(bV ts q (Ed o) t.d pK.d).cost;rw[Rz];exact IW _ _ _ _ _ h
theorem yj(n:Nat):bu n []:=λx a=>by cases a
theorem sU{s:Nat}(h:s<2 ^ n):bu n (cZ s):=by intro x a;grind [bB,cZ,Nat.lt_of_lt_of_le,Nat.pow_le_pow_right,Nat.testBit_lt_two_pow]
theorem jL(conc:List Nat)(s:Nat):∀ k,gX conc s k<2 ^ k
 | 0 => by simp[gX]
 | k+1 => by
  have h:=jL conc s k;have h2:2 ^ k<2 ^ (k+1):=ZN (by omega) (by omega);unfold gX;split
  ·exact pW (Nat.lt_trans h h2) h2
  omega
theorem sV(conc:List Nat)(a b:Nat):aR conc a b<2 ^ conc.length:=by unfold aR;exact Nat.lt_of_le_of_lt Nat.and_le_left (jL _ _ _)
theorem sW{t:aQ}{c:Nat}(h:kN q t)(hc:c<2 ^ q.wh.length):kN q (bY ts q t c):=by
 unfold bY;split
 ·exact h
 ·exact mf ts q _ _ ⟨(by decide:(1:Int)<=2),(by decide:(2:Int)<=10)⟩ (λe=>absurd e (by decide:(2:Int)≠1)) (sU hc) (λb a=>by simp_all)
theorem zN(ts:List af)(q:ae)(t:aQ)(c:Nat):(bY ts q t c).d.sources=t.d.sources:=by
 unfold bY;split
 ·rfl
 ·rw[rq ts q _ _ (by decide:(2:Int)≠1)]
  show t.d.sources|||0=_;simp
theorem xH(ts:List af)(q:ae)(t:aQ)(c:Nat):(bY ts q t c).ns.length<=t.ns.length+1:=by
 unfold bY;split
 ·omega
 ·rw[vW ts q _ (by simp)]
  show t.ns.length+0+1<=_;omega
theorem yl{t:aQ}(o:List Int)(h:kN q t):kN q (bD ts q t o):=
 mf ts q _ _ ⟨(by decide:(1:Int)<=6),(by decide:(6:Int)<=10)⟩ (λe=>absurd e (by decide:(6:Int)≠1)) (yj _) (λb a=>by simp_all)
theorem og(ts:List af)(q:ae)(t:aQ)(o:List Int):(bD ts q t o).d.sources=t.d.sources:=by unfold bD;rw[rq ts q _ _ (by decide:(6:Int)≠1)];show t.d.sources|||0=_;simp
theorem qK(ts:List af)(q:ae)(t:aQ)(o:List Int):(bD ts q t o).ns.length=t.ns.length+1:=by unfold bD;rw[vW ts q _ (by simp)];rfl
theorem nR(ts:List af)(q:ae)(hc:conc.length=q.wh.length){s:Int}(h0:0<=s)(h1:s<q.src.xs.length) :
  kN q (bQ ts q conc s)/\(bQ ts q conc s).d.sources=2 ^ s.toNat/\(bQ ts q conc s).ns.length<=2:=by have a:kN q (ay ts q (iV s) []):=mf ts q _ _ ⟨(by decide:(1:Int)<=1),(by decide:(1:Int)<=10)⟩ (λ_=>⟨h0,h1⟩) (yj _) (λb e=>by cases e);refine⟨sW a (by rw[<- hc]; exact jL _ _ _),by unfold bQ; rw[zN]; grind [sS],?_⟩;refine Q6 (xH ts q _ _) ?_;rw[vW ts q _ (by simp)];show 0+0+1+1<=2;omega
def Xk:=@vW
def Xl:=@yj
theorem acb(ts:List af)(h1:3<=k)(h5:k<=5){key:Int}(hc:bu q.wh.length cl){t u:aQ}(h:kN q t)(hu:kN q u):kN q (ay ts q (bO k cl key) [t,u]):=
 mf ts q _ _ ⟨by show (1:Int)<=k; omega,by show k<=10; omega⟩ (λe=>by have:k=1:=e; omega) hc (λb a=>by
  grind)
theorem Ka(ts:List af){s:Int}(h0:0<=s)(h1:s<q.src.xs.length):kN q (ay ts q (iV s) []):=
 mf ts q _ _ ⟨(by decide:(1:Int)<=1),(by decide:(1:Int)<=10)⟩ (λ_=>⟨h0,h1⟩) (Xl _) (λb a=>by cases a)
theorem pX(ts:List af)(q:ae):∀ k,k<q.src.xs.length->kN q (dF ts q k)/\(dF ts q k).ns.length<=2*k+1
 | 0,h => ⟨Ka ts (Int.le_refl _) (by omega),by
  show (ay ts q (iV 0) []).ns.length<=1;rw[Xk ts q _ (by simp)];exact Qn _⟩
 | k+1,h => by obtain⟨h1,h2⟩:=pX ts q k (by omega);refine⟨acb ts (k:=3) (cl:=[]) (key:=0) (by decide) (by decide) (Xl _) h1 (Ka ts (by omega) (by omega)),?_⟩;show (ay ts q (dU 3) [dF ts q k,ay ts q (iV ((k+1:Nat):Int)) []]).ns.length<=_;rw[Xk ts q _ (by simp)];have e:(ay ts q (iV ((k+1:Nat):Int)) []).ns.length=1:=Xk ts q _ (by simp);grind
theorem BB(ts:List af)(h1:2<=k)(h10:k<=10){t:aQ}(h:kN q t):kN q (ay ts q (dU k) [t])/\(ay ts q (dU k) [t]).ns.length=t.ns.length+1:=
 ⟨mf ts q _ _ ⟨by show (1:Int)<=k; omega,h10⟩ (λe=>by have:k=1:=e; omega) (Xl _) (λb a=>by simp_all),Xk ts q _ (by simp)⟩
theorem WC(ts:List af)(q:ae)(h1:1<=q.src.xs.length):kN q (iE ts q)/\(iE ts q).ns.length<=2*q.src.xs.length+3:=by
 obtain⟨e,i⟩:=pX ts q (q.src.xs.length-1) (by omega);have b:2 ^ q.wh.length-1<2 ^ q.wh.length:=by grind
 have d:=sW (ts:=ts) e b;have g:=xH ts q (dF ts q (q.src.xs.length-1)) (2 ^ q.wh.length-1);have a:2<=(if q.group=true then (7:Int) else 9)/\(if q.group=true then (7:Int) else 9)<=10:=by omega
 obtain⟨f,j⟩:=BB ts a.1 a.2 d;unfold iE;simp only;split
 ·obtain⟨l,m⟩:=BB ts (k:=10) (by decide) (by decide) f
  grind
 grind
structure sJ(q:ae)(s:Nat)(g:List aj):Prop where
 all:∀ p∈g,∀ x,p.2=some x->kN q x.2/\x.2.d.sources=s/\x.2.ns.length+2<=5*s
 head:∃ h r,g=([],h)::r/\∀ x,h=some x->x.2.ns.length+3<=5*s
 short:g.length<=20
theorem yt(l:List Int):au l []=true:=by rfl
theorem uV(n:Nat)(t:aQ)(p:aj):(eP n t p).1=p.1:=by unfold eP; split <;> rfl
theorem yu(g:List aj)(t:aQ):(gD g t).length=g.length:=by unfold gD; simp
theorem yw(g:List aj)(t:aQ):(gD g t).map Prod.fst=g.map Prod.fst:=by unfold gD;rw[Xu];exact List.map_congr_left λp _=>uV _ _ p
theorem uW{t:aQ}{p:aj}{x:Nat × aQ}(h:(eP n t p).2=some x):x=(n,t)∨p.2=some x:=by unfold eP at h;grind
structure IY(q:ae)(s:Nat)(t:aQ):Prop where
 ok:kN q t
 src:t.d.sources=s
 len:t.ns.length+3<=5*s
theorem sJ.offer{s:Nat}{g:List aj}{t:aQ}(h:sJ q s g)(ht:IY q s t):sJ q s (gD g t)/\(bC (gD g t)).isSome=true:=by
 obtain⟨a,r,rfl,i⟩:=h.head;refine⟨⟨λp k x i=>?_,?_,by rw[yu]; exact h.short⟩,?_⟩
 ·obtain⟨j,b,rfl⟩:=QZ.1 k;rcases uW i with rfl | f
  ·exact⟨ht.ok,ht.src,Nat.le_of_succ_le ht.len⟩
  ·exact h.all j b x f
 ·refine⟨(eP (dJ (([],a)::r)) t ([],a)).2,r.map (eP (dJ (([],a)::r)) t),?_,λx e=>?_⟩
  ·show eP _ t ([],a)::_=_
   rw[show eP (dJ (([],a)::r)) t ([],a)=([],(eP (dJ (([],a)::r)) t ([],a)).2) from Prod.ext (uV _ _ _) rfl]
  ·rcases uW e with rfl | f
   ·exact ht.len
   grind
 ·show (bC (eP _ t ([],a)::_)).isSome=true
  unfold eP dZ;rw[yt,Qw]
  cases a with
  | none => rfl
  | some y =>
   by_cases l:t.d.cost<y.2.d.cost
   ·rw[Qo (by simp_all)]; rfl
   ·rw[Qu (by simp_all)]; rfl
theorem sJ.Kh{s:Nat}{g:List aj}(h:sJ q s g)(hs:(bC g).isSome=true)(o:List Int):sJ q s (dK ts q g o)/\(bC (dK ts q g o)).isSome=true:=by
 obtain⟨k,r,rfl,b⟩:=h.head
 cases k with
 | none => cases hs
 | some y =>
  have hy:=h.all ([],some y) ZJ y rfl;have f:bD ts q ((bC (([],some y)::r)).getD pK) o=bD ts q y.2 o:=rfl;have u:=oQ ts q y.2 o hy.1.cost;unfold dK;rw[f];have a:eP (dJ (([],some y)::r)) (bD ts q y.2 o) ([],some y)=([],some y):=by unfold eP dZ;grind
  refine⟨⟨λp t x b=>?_,?_,by rw[yu]; exact h.short⟩,?_⟩
  ·obtain⟨l,d,rfl⟩:=QZ.1 t;rcases uW b with rfl | j
   ·refine⟨yl o hy.1,by rw[og]; exact hy.2.1,?_⟩;obtain⟨m,v,e,n⟩:=h.head;injection e with e e2;have i:some y=m:=congrArg Prod.snd e;have:=n y i.symm
    show (bD ts q y.2 o).ns.length+2<=5*s;rw[qK];omega
   ·exact h.all l d x j
  ·refine⟨some y,r.map (eP (dJ (([],some y)::r)) (bD ts q y.2 o)),?_,b⟩
   show eP _ _ ([],some y)::_=_;rw[a]
  ·show (bC (eP _ _ ([],some y)::_)).isSome=true
   rw[a];rfl
theorem RO(ts:List af)(q:ae)(g:List aj)(o:List Int):(dK ts q g o).map Prod.fst=g.map Prod.fst:=yw _ _
theorem pY(g:List aj)(l:List aQ):(jQ g l).2.map Prod.fst=g.map Prod.fst:=by
 unfold jQ
 suffices h:∀ (l:List aQ) (x:Bool × List aj),(l.foldl fV x).2.map Prod.fst=x.2.map Prod.fst from h l (false,g)
 intro l
 induction l with
 | nil => intro x; rfl
 | cons t l ih => intro x; rw[QD,ih]; exact yw _ _
theorem pI{q:ae}{s:Nat}:∀ {l:List aQ} {x:Bool × List aj},sJ q s x.2->(∀ t∈l,IY q s t)->(x.1=true->(bC x.2).isSome=true)->sJ q s (l.foldl fV x).2/\((l.foldl fV x).1=true->(bC (l.foldl fV x).2).isSome=true)
 | [],_,h,_,hx => ⟨h,hx⟩
 | t::l,x,h,hl,hx => by have:=h.offer (hl t ZJ);exact pI (l:=l) (x:=fV x t) this.1 (λu hu=>hl u (ZI _ hu)) (λ_=>this.2)
theorem yA{ts:List af}{q:ae}{s:Nat}:∀ {os:List (List Int)} {g:List aj},sJ q s g->(bC g).isSome=true->sJ q s (os.foldl (dK ts q) g)/\(bC (os.foldl (dK ts q) g)).isSome=true
 | [],_,h,hs => ⟨h,hs⟩
 | o::os,g,h,hs => by have:=h.Kh (ts:=ts) hs o;exact yA (os:=os) this.1 this.2
theorem qL(ts:List af)(q:ae):∀ (os:List (List Int)) (g:List aj),(os.foldl (dK ts q) g).map Prod.fst=g.map Prod.fst
 | [],_ => rfl
 | o::os,g => by rw[QD,qL ts q os,RO]
theorem uX{s:Nat}{g:List aj}{l:List aQ}(h:sJ q s g)(hl:∀ t∈l,IY q s t) :
  sJ q s (aK ts q g l).2/\((aK ts q g l).1=true->(bC (aK ts q g l).2).isSome=true)/\(aK ts q g l).2.map Prod.fst=g.map Prod.fst:=by
 have a:=pI (l:=l) (x:=(false,g)) h hl (λe=>by cases e);unfold aK;split
 ·rename_i hc
  have b:=yA (ts:=ts) (os:=(g.map Prod.fst).drop 1) a.1 (a.2 hc);exact⟨b.1,λ_=>b.2,by rw[qL]; exact pY g l⟩
 ·exact⟨a.1,λ(e:false=true)=>(by cases e),pY g l⟩
theorem kg:∀ (g:List aj) (acc:List (Nat × aQ)) (x:Nat × aQ),x∈g.foldl kG acc->x∈acc∨∃ p∈g,p.2=some x
 | [],_,_,h => .inl h
 | p::g,acc,x,h => by
  rcases kg g (kG acc p) x h with h | ⟨p',hp,e⟩
  ·unfold kG at h
   grind
  grind
theorem yB:∀ (g:List aj) (acc:List (Nat × aQ)),(g.foldl kG acc).length<=acc.length+g.length
 | [],_ => Qn _
 | p::g,acc => by
  refine Q6 (yB g (kG acc p)) ?_;have:(kG acc p).length<=acc.length+1:=by unfold kG;grind
  grind
theorem acg(bS:Int)(m:Option aQ)(x:Nat × aQ):kQ bS m x=some x.2∨kQ bS m x=m:=by unfold kQ;grind
theorem wF(bS:Int):∀ (l:List (Nat × aQ)) (m:Option aQ) (t:aQ),l.foldl (kQ bS) m=some t->m=some t∨∃ n,(n,t)∈l
 | [],_,_,h => .inl h
 | x::l,m,t,h => by
  rcases wF bS l (kQ bS m x) t h with h | ⟨n,h⟩
  ·grind [acg]
  grind
theorem sJ.piece{s:Nat}{g:List aj}(h:sJ q s g){x:Nat × aQ}(hx:x∈dG g):kN q x.2/\x.2.d.sources=s/\x.2.ns.length+2<=5*s:=by
 rcases kg g [] x hx with a | ⟨p,b,e⟩
 ·cases a
 ·exact h.all p b x e
theorem sJ.first{q:ae}{s:Nat}{g:List aj}(h:sJ q s g){t:aQ}(ht:bC g=some t):kN q t/\t.d.sources=s/\t.ns.length+2<=5*s:=by
 obtain⟨a,r,rfl,b⟩:=h.head
 cases a with
 | none => cases ht
 | some y =>
  injection ht with ht;rw[<- ht];exact h.all _ ZJ y rfl
theorem sJ.ajA{s:Nat}{g:List aj}(h:sJ q s g){bS:Int}{t:aQ}(ht:mJ g bS=some t):kN q t/\t.d.sources=s/\t.ns.length+2<=5*s:=by
 rcases wF bS _ none t ht with a | ⟨n,b⟩
 ·cases a
 ·exact h.piece b
theorem ML(h:a &&& b=0):a|||b=a+b:=by
 have h1:a<2 ^ (a+b):=QH Nat.lt_two_pow_self (QI (by omega) (by omega));have h2:b<2 ^ (a+b):=QH Nat.lt_two_pow_self (QI (by omega) (by omega));have h3:a+b<2 ^ (a+b):=Nat.lt_two_pow_self;have hx:BitVec.ofNat (a+b) a &&& BitVec.ofNat (a+b) b=0#(a+b):=by apply BitVec.eq_of_toNat_eq;grind
 have:=congrArg BitVec.toNat (BitVec.add_eq_or_of_and_eq_zero _ _ hx);grind [Nat.mod_eq_of_lt]
theorem Ki(hab:a &&& b=0){l r:aQ}(hl:kN q l/\l.d.sources=a/\l.ns.length+2<=5*a)(hr:kN q r/\r.d.sources=b/\r.ns.length+2<=5*b){kind:Int}(h3:3<=kind)(h5:kind<=5)(hc:bu q.wh.length cl)(key:Int) :
  IY q (a|||b) (ay ts q (bO kind cl key) [l,r]):=by
 have f:(bO kind cl key).kind=kind:=rfl;refine⟨mf ts q _ _ ⟨by omega,by omega⟩ (λe=>by omega) hc (λx g=>?_),?_,?_⟩
 ·grind
 ·rw[rq ts q _ _ (by omega),<- hl.2.1,<- hr.2.1];rfl
 ·rw[Xk ts q _ (by simp),ML hab]
  grind
theorem MM{ts:List af}{q:ae}{a b:Nat}(hab:a &&& b=0){l r:aQ}{g:List aj}(hl:kN q l/\l.d.sources=a/\l.ns.length+2<=5*a)(hr:kN q r/\r.d.sources=b/\r.ns.length+2<=5*b)(hg:sJ q b g){cl:List Int}(hc:bu q.wh.length cl) :
  ∀ (ks:List Int) (acc:List aQ),(∀ t∈acc,IY q (a|||b) t)->(∀ t∈ks.foldl (fF ts q l r g cl) acc,IY q (a|||b) t)/\(ks.foldl (fF ts q l r g cl) acc).length<=acc.length+2*ks.length
 | [],_,h => ⟨h,by simp⟩
 | k::ks,acc,h => by
  have f:(∀ t∈fF ts q l r g cl acc k,IY q (a|||b) t)/\(fF ts q l r g cl acc k).length<=acc.length+2:=by
   have j:=Ki (ts:=ts) hab hl hr (kind:=4) (by omega) (by omega) hc k;have i:∀ t∈acc++[ay ts q (bO 4 cl k) [l,r]],IY q (a|||b) t:=λt e=>by grind
   unfold fF;simp only;split
   ·split
    ·simp_all
    ·rename_i m hm
     split
     ·refine⟨λt e=>?_,by simp⟩;rcases ZK.1 e with e | e
      ·exact i t e
      ·rw[Zy]at e;rw[e];exact Ki (ts:=ts) hab hl (hg.ajA hm) (kind:=5) (by omega) (by omega) hc k
     simp_all
   simp_all
  have:=MM (ts:=ts) hab hl hr hg hc ks (fF ts q l r g cl acc k) f.1;grind
theorem RP(hcn:conc.length=q.wh.length)(hab:a &&& b=0){l:aQ}{g:List aj}(hl:kN q l/\l.d.sources=a/\l.ns.length+2<=5*a)(hg:sJ q b g)(hs:(bC g).isSome=true) :
  (∀ t∈dX ts q conc l g,IY q (a|||b) t)/\(dX ts q conc l g).length<=1+2*(cZ (aR conc l.d.sources ((bC g).getD pK).d.sources)).length:=by
 obtain⟨r,j⟩:=Xz.1 hs;have f:=hg.first j;have e:(bC g).getD pK=r:=by rw[j]; rfl
 have i:bu q.wh.length (cZ (aR conc l.d.sources r.d.sources)):=sU (by rw[<- hcn]; exact sV _ _ _);unfold dX;simp only;rw[e];exact MM hab hl f hg i _ _ λt k=>by rw[Zy]at k;rw[k];exact Ki (ts:=ts) hab hl f (kind:=3) (by omega) (by omega) i 0
theorem rV(hcn:conc.length=q.wh.length)(hab:a &&& b=0){f g:List aj}(hf:sJ q a f)(hg:sJ q b g)(hs:(bC g).isSome=true) :
  ∀ t∈fK ts q conc f g,IY q (a|||b) t:=by intro t d;obtain⟨x,e,d⟩:=Q3.1 d;exact(RP hcn hab (hf.piece e) hg hs).1 t d
theorem EM(q:ae)(o:List Int):7<=bg q o/\bg q o<=9:=by unfold bg;omega
theorem X0(h:6<=k):arity k=1:=by grind [arity]
theorem ES(ts:List af)(h1:2<=k)(h10:k<=10){t:aQ}(h:kN q t):kN q (ay ts q (dU k) [t]):=
 mf ts q _ _ ⟨by show (1:Int)<=k; omega,h10⟩ (λe=>by have:k=1:=e; omega) (Xl _) (λb a=>by simp_all)
theorem I8{t:aQ}(h:kN q t):kN q (fG ts q t)/\(fG ts q t).ns.length<=t.ns.length+2:=by
 have b:=EM q t.d.order;have a:kN q (ay ts q (dU (bg q t.d.order)) [t]):=ES ts (by omega) (by omega) h;have e:(ay ts q (dU (bg q t.d.order)) [t]).ns.length=t.ns.length+1:=Xk ts q _ (by simp);unfold fG;simp only;split
 ·simp_all
 ·refine⟨ES ts (by decide) (by decide) a,?_⟩;have:(ay ts q (dU 10) [ay ts q (dU (bg q t.d.order)) [t]]).ns.length=(ay ts q (dU (bg q t.d.order)) [t]).ns.length+1:=Xk ts q _ (by simp);omega
def bW(ts:List af)(q:ae)(s:Nat)(acc:List (List Int))(bS:Int):List (List Int):=
 if aU s (aB (fC ts q [bS]))=true then iQ acc [bS] else acc
def iy(ts:List af)(q:ae)(s:Nat)(acc:List (List Int))(c:aL):List (List Int):=
 if ((bG c.cs).2.2 && !aU s (aB (fC ts q [(bG c.cs).1,(bG c.cs).2.1])))=true then bW ts q s (bW ts q s acc (bG c.cs).1) (bG c.cs).2.1 else acc
def bH(ts:List af)(q:ae)(s:Nat):List (List Int):=
 q.wh.foldl (iy ts q s) (if aU s (aB (fC ts q (aG q)))=true then iQ [[]] (aG q) else [[]])
abbrev aO:=Nat × Nat
def mo(rk:Nat->Int)(t:aO):Int:=if t.2=0 then 6 else rk (t.1|||t.2)
def oV(a b:Int):Int:=if a<b then -1 else if b<a then 1 else 0
def qh(rk:Nat->Int)(a b:aO):Int:=
 if oV (mo rk b) (mo rk a)≠0 then oV (mo rk b) (mo rk a) else if oV a.1 b.1≠0 then oV a.1 b.1 else oV a.2 b.2
def Ya(lt:Nat->Bool):Nat->Nat->Nat->Nat
 | 0,i,_ => i
 | f+1,i,j => if i<j then (if lt ((i+j) / 2)=true then Ya lt f ((i+j) / 2+1) j else Ya lt f i ((i+j) / 2)) else i
def mK(rk:Nat->Int)(a:List aO)(t:aO):Nat:=Ya (λh=>decide (qh rk (a.getD h (0,0)) t<0)) a.length 0 a.length
def oh(rk:Nat->Int)(a:List aO)(t:aO):Bool:=decide (mK rk a t<a.length)&&decide (qh rk (a.getD (mK rk a t) (0,0)) t=0)
def gI(rk:Nat->Int)(a:List aO)(t:aO):List aO:=if oh rk a t=true then a else a.take (mK rk a t)++t::a.drop (mK rk a t)
structure eF where
 groups:List (List aj)
 ak:List aO
 cut:Bool
 bq:aQ
 picks:List Int
 status:Int
def dY(rk:Nat->Int)(s:Nat)(gs:List (List aj))(a:List aO)(k:Nat):List aO:=
 if ((bC (gs.getD k [])).isSome&&decide (k &&& s=0))=true then gI rk (gI rk a (s,k)) (k,s) else a
def kM(rk:Nat->Int)(s:Nat)(gs:List (List aj))(a:List aO):List aO:=(List.range gs.length).foldl (dY rk s gs) a
def iN(ts:List af)(q:ae)(b t:aQ):aQ:=dV b (df ts q t)
def cO(rk:Nat->Int)(ts:List af)(q:ae)(s:Nat)(l:List aQ)(σ:eF):eF:=
 if s=2 ^ q.src.xs.length-1 then { σ with bq:=l.foldl (iN ts q) σ.bq }
 else
  let r:=aK ts q (σ.groups.getD s []) l
  { σ with groups:=σ.groups.set s r.2,ak:=if r.1=true then kM rk s (σ.groups.set s r.2) σ.ak else σ.ak }
def qM(rk:Nat->Int)(ts:List af)(q:ae)(conc:List Nat)(t:aO)(σ:eF):eF:=
 if t.2=0 then cO rk ts q t.1 [bQ ts q conc ((cZ t.1).getD 0 0)] σ
 else cO rk ts q (t.1|||t.2) (fK ts q conc (σ.groups.getD t.1 []) (σ.groups.getD t.2 [])) σ
def dP(n:Nat)(pick:Int):Int:=(pick.tmod n+n).tmod n
def iA(σ:eF):eF:=if 0<σ.ak.length then σ else { σ with status:=if σ.cut=true then 3 else 2 }
def fu(rk:Nat->Int)(ts:List af)(q:ae)(conc:List Nat)(pick:Int)(σ:eF):eF:=
 let p:=dP σ.ak.length pick
 iA (qM rk ts q conc (σ.ak.getD p.toNat (0,0)) { σ with picks:=σ.picks++[p],ak:=σ.ak.eraseIdx p.toNat })
def jU(l:List Int)(k:Nat):Int:=if l.length=0 then 0 else l.getD (k % l.length) 0
def runN(rk:Nat->Int)(ts:List af)(q:ae)(conc:List Nat)(picks:List Int):Nat->Nat->eF->eF
 | 0,_,σ => σ
 | n+1,k,σ => if σ.status=1 then runN rk ts q conc picks n (k+1) (fu rk ts q conc (jU picks k) σ) else σ
def dE(os:List (List Int)):List aj:=os.map λo=>(o,none)
def bP(rk:Nat->Int)(ts:List af)(q:ae)(room:Nat):eF:=
 ⟨(List.range (2 ^ q.src.xs.length-1)).map λs=>dE ((bH ts q s).take room),(List.range q.src.xs.length).foldl (λa (i:Nat)=>gI rk a (2 ^ i,0)) [],
  (List.range (2 ^ q.src.xs.length-1)).any λs=>decide (room<(bH ts q s).length),iE ts q,[],1⟩
