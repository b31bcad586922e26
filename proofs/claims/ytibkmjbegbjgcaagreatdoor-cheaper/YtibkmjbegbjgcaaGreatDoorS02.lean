import Derived.Test.YtibkmjbegbjgcaaGreatDoorS00
set_option linter.all false
set_option maxRecDepth 100000
set_option maxHeartbeats 0
namespace Go.Proofs.Zz
open Go.RowKit Go.Shelf
open List renaming length->N,getD->E
open Go.Value renaming int->I
open Option renaming some->O,none->Qs
open Go.IntKind renaming i64->J
open Bool renaming false->F,true->T
open Go.World renaming cell?->Qp
variable {a b m n s:Nat} {cl l src xs:Qx} {ts:Qy af} {q:ae} {conc:Qy Nat} {k:Int}
def vK{w w':World}{base base':Nat}{e:TypeId}{size:Nat}{v:Value}{xs:Qy Value}(h:w.ownsRow base e size v n xs)(hb:base'<=base)(ho:∀j,base<=j->j<w.heap.size->w'.heap[j]? = w.heap[j]?):w'.ownsRow base' e size v n xs:=by
 obtain⟨k,b⟩:=h;refine⟨k,?_⟩;rcases b with b|⟨g,cap,a,i,d,f,r⟩
 .simp_all
 .exact Or.inr ⟨g,cap,a,i,ZN hb d,(ho g d (ZV.1 f).1).trans f,r⟩
def nk:Qy Value:=[I J 77777,I J 0,I J 0,I J 0,.slice Qs 0 0,I J 0,.slice Qs 0 0]
def bD(l:Qx):Nat:=l.foldl (λm n=>m|||2 ^ n.toNat) 0
theorem PW(l:Qx)(x:Int):bD (l++[x])=bD l|||2 ^ x.toNat:=by grind [bD]
theorem PX(l:Qx):∀(m i:Nat),(∀x∈l,0<=x)->(l.foldl (λm n=>m|||2 ^ n.toNat) m).testBit i=(m.testBit i ||decide ((i:Int)∈l)):=by
 induction l with
 |nil=>simp_all
 |cons a l ih =>
  intro m i h;have ha:=h a Qa;rw[Zw,ih _ _ (λx hx=>h x (by simp[hx])),Nat.testBit_or,Nat.testBit_two_pow,Bool.or_assoc];grind
theorem zY(h:∀x∈l,0<=x)(i:Nat):(bD l).testBit i=decide ((i:Int)∈l):=by grind [bD,PX]
theorem pq:∀{l:Qx},(∀x∈l,0<=x/\x<n)->bD l<2 ^ n:=λ{l} h=>by apply Nat.lt_pow_two_of_testBit;grind [zY]
theorem zZ(hb:b<18446744073709551616)(i:Nat)(hi:i<64):(a &&& (18446744073709551615-b)).testBit i=(a.testBit i && !b.testBit i):=by have e:18446744073709551615-b=2 ^ 64-(b+1):=X;rw[Nat.testBit_and,e,Nat.testBit_two_pow_sub_succ X];simp[hi]
theorem Md(ha:a<18446744073709551616)(hb:b<18446744073709551616):(b &&& (18446744073709551615-a)=0)↔∀i,b.testBit i=T->a.testBit i=true:=by
 constructor
 .intro h i f;have d:i<64:=by
   have e:b<2 ^ 64:=X;by_cases g:i<64
   .exact g
   .rw[Zx (Zy e (ZA X X))]at f
    cases f
  have j:=zZ (a:=b) ha i d;simp_all
 .intro h;apply Nat.eq_of_testBit_eq;intro i;rw[Nat.zero_testBit];by_cases f:i<64
  .grind [zZ]
  .have e:b<2 ^ 64:=X
   rw[Nat.testBit_and,Zx (x:=b) (Zy e (ZA X X))];rfl
def bQ:Nat:=18446744073709551615
def vF(a b:Nat):Nat:=min (a+b) bQ
def fA(a b:Nat):Nat:=min (a*b) bQ
def Vt(a b:Nat):vF a b<=bQ:=Nat.min_le_right _ _
def xV(a b:Nat):fA a b<=bQ:=Nat.min_le_right _ _
def iU(l:Qy Nat):Nat:=l.foldl vF 0
theorem Ie:∀(l:Qy Nat) (m:Nat),m<=bQ->l.foldl vF m=min (m+l.sum) bQ
 |[],m,h=>Qf
 |a::l,m,_=>by rw[Zw,Ie l _ (Vt _ _),List.sum_cons];grind [vF]
theorem zP(l:Qy Nat):iU l=min l.sum bQ:=by unfold iU;rw[Ie l 0 (ZB _),ZC]
def kW(v:Nat):Nat:=if v=0 then 0 else kW (v / 2)+1
def uj:kW 0=0:=by rw[kW];rfl
theorem Dz{v:Nat}(h:0<v):kW v=kW (v / 2)+1:=by grind [kW.eq_1]
def bT(ts:Qy af)(src:Qx)(n:Nat):Qy (Nat × Int):=
 (List.range n).flatMap λs=>(List.range (E ts (E src s 0).toNat tz).aL.toNat).map λm=>(s,(E ts (E src s 0).toNat tz).kd m)
def jQ(ts:Qy af)(src:Qx)(n:Nat):bT ts src (n+1)=bT ts src n++(List.range (E ts (E src n 0).toNat tz).aL.toNat).map λm=>(n,(E ts (E src n 0).toNat tz).kd m):=by unfold bT;rw[ZE,ZF];simp
theorem pE{ts:Qy af}{src:Qx}(hc:fD ts=T)(ha:bP src (N ts)=T):∀n,n<=N src->(N (bT ts src n):Int)=aN ts (src.take n)
 |0,_=>Qi
 |n+1,hn=>by have ih:=pE hc ha n X;have h1:=mi ha (k:=n) X;have h2:=pg hc (i:=(src[n]'(X)).toNat) X;have e:E src n 0=src[n]'(X):=Qb;rw[jQ,jO ts src n X,ZG,ZH,ZI,e];omega
theorem DC{ts:Qy af}{src:Qx}(hc:fD ts=T)(ha:bP src (N ts)=T):∀n,n<=N src->∀c:Nat,c<N (bT ts src n)->
  ∃s,s<n/\aN ts (src.take s)<=c/\(c:Int)<aN ts (src.take (s+1))/\E (bT ts src n) c (0,0)=(s,(E ts (E src s 0).toNat tz).kd (c-(aN ts (src.take s)).toNat))
 |0,_,c,h=>by simp[bT]at h
 |n+1,hn,c,h=>by
  have j:=pE hc ha n X;by_cases a:c<N (bT ts src n)
  .obtain⟨s,d,b,f,g⟩:=DC hc ha n X c a;refine⟨s,X,b,f,?_⟩;rw[jQ,<-g]
   grind
  .have d:=mi ha (k:=n) X;have b:=pg hc (i:=(src[n]'(X)).toNat) X;have e:E src n 0=src[n]'(X):=Qb
   rw[jQ,ZG,ZH,ZI]at h;refine⟨n,X,X,?_,?_⟩
   .rw[jO ts src n X,<-e];omega
   .rw[jQ]
    grind
def aY(ts:Qy af)(src:Qx)(c:Int):Nat:=(E (bT ts src (N src)) c.toNat (0,0)).1
def jF(ts:Qy af)(src:Qx)(c:Int):Int:=(E (bT ts src (N src)) c.toNat (0,0)).2
theorem mO(hc:fD ts=T)(ha:bP src (N ts)=T){c:Int}(h0:0<=c)(hl:c<aN ts src) :
  aY ts src c<N src/\aN ts (src.take (aY ts src c))<=c/\c<aN ts (src.take (aY ts src c+1))/\
   jF ts src c=(E ts (E src (aY ts src c) 0).toNat tz).kd (c.toNat-(aN ts (src.take (aY ts src c))).toNat):=by have a:=pE hc ha (N src) (Za _);rw[ZJ]at a;obtain⟨s,b,d,e,f⟩:=DC hc ha (N src) (Za _) c.toNat X;grind [aY,jF]
section
variable {inp:Nat->Qy Nat}
def fB(n:Nat)(f:Nat->Nat):Nat:=((List.range n).map f).sum
theorem jR(n:Nat)(f:Nat->Nat):fB (n+1) f=fB n f+f n:=by grind [fB,List.range_succ]
theorem Me(n:Nat)(f g:Nat->Nat):fB n (λi=>f i+g i)=fB n f+fB n g:=by
 induction n with
 |zero=>rfl
 |succ n ih=>grind [jR]
def yQ(n:Nat):fB n (λ_=>0)=0:=by
 induction n with
 |zero=>rfl
 |succ n ih=>rw[jR,ih]
theorem vG{f g:Nat->Nat}(h:∀i,i<n->f i=g i):fB n f=fB n g:=by
 induction n with
 |zero=>rfl
 |succ n ih=>grind [jR]
theorem Mf(hm:m<n)(f:Nat->Nat):fB n (λi=>(if i=m then 1 else 0)*f i)=f m:=by
 induction n with
 |zero=>omega
 |succ n ih =>
  rw[jR];by_cases h:m<n
  .grind
  .obtain rfl:m=n:=X
   have e:fB m (λi=>(if i=m then 1 else 0)*f i)=0:=
    (vG (g:=λ_=>0) λi a=>Qb).trans (yQ m)
   simp_all
end
theorem vH{n:Nat}:∀{l:Qy Nat},(∀k∈l,k<n)->fB n (λk=>l.count k)=N l
 |[],_=>yQ n
 |a::l,h=>by have h1:=vH (n:=n) (l:=l) (λk hk=>h k (by simp[hk]));have h2:=Mf (h a Qa) (λ_=>1);rw[ZK,<-h1];rw[show fB n (λk=>l.count k)+1=fB n (λk=>l.count k)+fB n (λk=>(if k=a then 1 else 0)*1) by rw[h2],<-Me];grind
section
variable {inp:Nat->Qy Nat}
end
structure ai where
 kind:Int
 l:Int
 r:Int
 source:Int
 cl:ah
 key:Int
 co:ah
def nz:ai:=⟨0,0,0,0,⟨Qs,0,[]⟩,0,⟨Qs,0,[]⟩⟩
def jD(w:World)(ao:PN)(ns:Qy ai):Prop:=
 N ns<=164703072086692425/\∀i,i<N ns->∃b off,ao=O (aD b off)/\
  Qp w (aD b (off+i*7))=O (I J (E ns i nz).kind)/\Qp w (aD b (off+i*7+1))=O (I J (E ns i nz).l)/\
  Qp w (aD b (off+i*7+2))=O (I J (E ns i nz).r)/\Qp w (aD b (off+i*7+3))=O (I J (E ns i nz).source)/\
  Qp w (aD b (off+i*7+4))=O (E ns i nz).cl.val/\Qp w (aD b (off+i*7+5))=O (I J (E ns i nz).key)/\
  Qp w (aD b (off+i*7+6))=O (E ns i nz).co.val/\(E ns i nz).cl.At w/\(E ns i nz).co.At w
def aK(c:aA):Qx:=if c.op≠2/\c.const=F then [c.left,c.right] else [c.left]
def bX(cs:Qy aA):Qx:=cs.flatMap aK
def iV(ts:Qy af)(src:Qx)(cs:Qy aA):Nat:=
 if N cs≠1∨(E cs 0 cz).not=T then 2
 else if (E cs 0 cz).op=1 then 3
 else if (E cs 0 cz).op=2 then 10
 else if (E cs 0 cz).const=T then (jF ts src (E cs 0 cz).left).toNat
 else max (jF ts src (E cs 0 cz).left).toNat (jF ts src (E cs 0 cz).right).toNat
def qp(ts:Qy af)(src:Qx)(s:Int):Nat:=(E ts (E src s.toNat 0).toNat tz).rows.toNat
def aO(l m:Qx):Bool:=decide (N m<=N l)&&decide (l.take (N m)=m)
def arity(kind:Int):Nat:=if kind=1 then 0 else if 3<=kind/\kind<=5 then 2 else 1
def inpN(plan:Qy ai)(i:Nat):Qy Nat:=
 let n:=E plan i nz
 if arity n.kind=0 then []
 else if arity n.kind=1 then (if 0<=n.l/\n.l<i then [n.l.toNat] else [])
 else (if 0<=n.l/\n.l<i/\0<=n.r/\n.r<i then [n.l.toNat,n.r.toNat] else [])
def iC(n:Nat)(l:Qx):Prop:=∀x∈l,0<=x/\x<(n:Int)
def iC.lt(hn:n<=64)(h:iC n l):bD l<18446744073709551616:=by have a:=pq (n:=n) h;have b:2 ^ n<=2 ^ 64:=ZA X hn;omega
theorem Mg(l:Qx):∀m:Nat,l.foldl (λm n=>m|||2 ^ n.toNat) m=m|||bD l:=by
 unfold bD
 induction l with
 |nil=>intro m;simp
 |cons a l ih=>grind
theorem yR(a b:Qx):bD (a++b)=bD a|||bD b:=by grind [bD,Mg]
def aR(s:Nat):Qy Nat:=(List.range 64).filter λi=>s.testBit i
theorem EK(hnm:n<=m)(p:Nat->Bool)(h:∀i,n<=i->p i=F):(List.range m).filter p=(List.range n).filter p:=by
 induction m with
 |zero =>
  simp_all
 |succ m ih =>
  grind [List.range_succ]
structure bW where
 kind:Int
 sources:Nat
 clauses:Nat
 order:Qx
 size:Nat
 cost:Nat
def aT(a b:Nat):Bool:=decide (b &&& (18446744073709551615-a)=0)
def dn(ts:Qy af)(src:Qx)(cs:Qy aA):Qx:=(bX cs).map λc=>(aY ts src c:Int)
def iE(ts:Qy af)(q:ae)(l:Qx)(s:Nat):Bool:=
 (List.range (N l)).all λi=>decide ((if i=0 then -1 else E l (i-1) 0)<E l i 0)&&decide (E l i 0<N q.wh)&&aT s (bD (dn ts q.src.xs (E q.wh (E l i 0).toNat lz).cs))
def nV(hc:fD ts=T)(ha:bP src (N ts)=T){cs:Qy aA}(h:∀c∈bX cs,0<=c/\c<aN ts src):iC (N src) (dn ts src cs):=λx e=>by obtain⟨c,a,rfl⟩:=ZL.1 e;obtain⟨b,d⟩:=h c a;have:=(mO hc ha b d).1;omega
def DD(ts:Qy af)(q:ae):Prop:=∀i,i<N q.wh->∀c∈bX (E q.wh i lz).cs,0<=c/\c<aN ts q.src.xs
theorem z8(k:Nat):bD [(k:Int)]=2 ^ k:=by grind [bD]
def O3(ts:Qy af)(src:Qx)(cs:Qy aA)(a b:Nat):Int × Int × Bool:=
 if N cs > 1∨(E cs 0 cz).op≠0∨(E cs 0 cz).not=T∨(E cs 0 cz).const=T then (0,0,F)
 else if (aT a (2 ^ aY ts src (E cs 0 cz).left)&&aT b (2 ^ aY ts src (E cs 0 cz).right))=T then ((E cs 0 cz).left,(E cs 0 cz).right,T)
 else if (aT a (2 ^ aY ts src (E cs 0 cz).right)&&aT b (2 ^ aY ts src (E cs 0 cz).left))=T then ((E cs 0 cz).right,(E cs 0 cz).left,T)
 else (0,0,F)
def lF(ts:Qy af)(src aL:Qx)(s:Nat):Bool:=
 decide (0<N aL)&&decide ((N aL:Int)<=aN ts src) &&
  (List.range (N aL)).all λi=>decide (0<=E aL i 0)&&decide (E aL i 0<aN ts src) && !decide (E aL i 0∈aL.take i)&&aT s (2 ^ aY ts src (E aL i 0))
theorem EM{i:Nat}(hi:i<N xs){x:Int}:x∈xs.take i↔∃j,j<i/\E xs j 0=x:=by
 rw[List.mem_take_iff_getElem];constructor
 .rintro⟨j,a,e⟩;refine⟨j,X,?_⟩
  grind
 grind
def nI(ts:Qy af)(q:ae)(sources clauses:Nat):Nat:=
 if ((aR sources).map λ(k:Nat)=>qp ts q.src.xs (k:Int)).foldl fA 1=0 then 0
 else max ((aR clauses).foldl (λx c=>x / iV ts q.src.xs (E q.wh c lz).cs) (((aR sources).map λ(k:Nat)=>qp ts q.src.xs (k:Int)).foldl fA 1)) 1
def tL(kind:Int)(l r s:Nat):Nat:=if kind=4 then iU [l,r,r,s] else if kind=5 then iU [l,r,s] else fA l r
def kr(kind:Int)(s lc ls rc rs:Nat):Nat:=
 if kind=1 then iU [s,1]
 else if kind=3∨kind=4∨kind=5 then iU [lc,rc,tL kind ls rs s]
 else if kind=6∨kind=10 then iU [lc,fA ls (kW ls+1)]
 else if kind=7 then iU [lc,ls,ls]
 else iU [lc,ls]
theorem aiu(a b:Nat):iU [a,b]=vF a b:=by grind [vF,zP]
def eT(k:Int):Bool:=decide (7<=k)&&decide (k<=10)
def pz:bW:=⟨0,0,0,[],0,0⟩
def iF(ts:Qy af)(q:ae)(n:ai)(a b:Nat):Int × Int × Bool:=
 if n.key∈n.cl.xs/\0<=n.key/\n.key<N q.wh then O3 ts q.src.xs (E q.wh n.key.toNat lz).cs a b else (0,0,F)
def kC(ts:Qy af)(q:ae)(n:ai)(a b:Nat):Bool:=decide (a &&& b=0)&&iE ts q n.cl.xs (a|||b)
def jG(q:ae)(l:bW):Bool:=decide (l.sources=2 ^ (N q.src.xs)-1)&&decide (l.clauses=2 ^ (N q.wh)-1)
def lU(kind:Int)(l r:bW):Bool:=(eT l.kind==decide (kind=10)) && !eT r.kind
def iK(ts:Qy af)(q:ae)(n:ai)(l r:bW):Bool:=
 if n.kind=1 then decide (0<=n.source)&&decide (n.source<N q.src.xs)
 else if n.kind=2 then decide (0<N n.cl.xs)&&iE ts q n.cl.xs l.sources
 else if n.kind=3 then kC ts q n l.sources r.sources
 else if n.kind=4 then (iF ts q n l.sources r.sources).2.2&&kC ts q n l.sources r.sources
 else if n.kind=5 then (iF ts q n l.sources r.sources).2.2&&kC ts q n l.sources r.sources&&aO l.order [(iF ts q n l.sources r.sources).1]&&aO r.order [(iF ts q n l.sources r.sources).2.1]
 else if n.kind=6 then lF ts q.src.xs n.co.xs l.sources
 else if n.kind=7 then q.group&&jG q l
 else if n.kind=8 then q.group&&jG q l&&aO l.order q.keys.xs
 else if n.kind=9 then !q.group&&jG q l
 else decide (0<N q.ord.xs)
def lG(ts:Qy af)(q:ae)(n:ai)(l r:bW):bW:=
 let s:=(if n.kind=1 then 2 ^ n.source.toNat else 0)|||l.sources|||r.sources
 let c:=bD n.cl.xs|||l.clauses|||r.clauses
 let z:=if eT n.kind=T then l.size else nI ts q s c
 ⟨n.kind,s,c,if n.kind=6 then n.co.xs else if 2<=n.kind/\n.kind<=5 then l.order else [],z,kr n.kind z l.cost l.size r.cost r.size⟩
structure Ok(ts:Qy af)(q:ae):Prop where
 cat:fD ts=T
 src:bP q.src.xs (N ts)=T
 small:N q.src.xs<=64
 mf:N q.wh<=64
 aL:DD ts q
 some:∀i,i<N q.wh->0<(E q.wh i lz).cs.length
def qQ(n:ai):Bool:=
 decide ((1<=arity n.kind∨n.l=0)/\(2<=arity n.kind∨n.r=0)/\(n.kind=1∨n.source=0)/\(n.kind=4∨n.kind=5∨n.key=0)/\
  (n.kind=2∨3<=n.kind/\n.kind<=5∨N n.cl.xs=0)/\(n.kind=6∨N n.co.xs=0))
def eu(n:ai)(i:Nat):Bool:=
 decide (1<=n.kind)&&decide (n.kind<=10)&&qQ n&&(decide (arity n.kind<1) ||(decide (0<=n.l)&&decide (n.l<i)))&&(decide (arity n.kind<2) ||(decide (0<=n.r)&&decide (n.r<i)))
def fe(n:ai)(ps:Qy bW):bW:=if 1<=arity n.kind then E ps n.l.toNat pz else pz
def fo(n:ai)(ps:Qy bW):bW:=if arity n.kind=2 then E ps n.r.toNat pz else pz
def mg(ts:Qy af)(q:ae)(n:ai)(ps:Qy bW):Option (Qy bW):=
 if (lU n.kind (fe n ps) (fo n ps)&&iK ts q n (fe n ps) (fo n ps))=T then O (ps++[lG ts q n (fe n ps) (fo n ps)]) else Qs
def fH(ts:Qy af)(q:ae)(plan:Qy ai):Nat->Option (Qy bW)
 |0=>O []
 |k+1=>(fH ts q plan k).bind (mg ts q (E plan k nz))
def nJ(l:Qx):Bool:=(List.range (N l)).all λi=>decide (E l i 0=(i:Int))
def gW(q:ae):Qx:=q.ord.xs.map λp=>E q.aU.xs p.toNat 0
def gX(q:ae)(kind:Int)(order:Qx):Bool:=
 if N q.ord.xs=0 then T
 else if kind=10 then T
 else if kind=9 then aO order (gW q)
 else if kind=8 then decide (N q.ord.xs<=N q.keys.xs)&&nJ q.ord.xs
 else F
def vI(plan:Qy ai):Bool:=(List.range (N plan-1)).all λk=>decide (fB (N plan) (λi=>(inpN plan i).count k)=1)
def dD(plan:Qy ai):Bool:=
 decide (1<=N plan)&&decide (N plan<=64)&&((List.range (N plan)).all λi=>eu (E plan i nz) i)&&vI plan
def jm(ts:Qy af)(q:ae)(plan:Qy ai):Option (Qy bW):=
 if dD plan=F then Qs
 else (fH ts q plan (N plan)).bind λps=>
  let n:=E plan (N plan-1) nz
  if (eT n.kind&&gX q n.kind (E ps n.l.toNat pz).order)=T then O ps else Qs
structure aP where
 d:bW
 ns:Qy ai
def mP:aP:=⟨pz,[]⟩
def dM(n:ai):ai:=⟨n.kind,n.l,n.r,n.source,⟨Qs,0,n.cl.xs⟩,n.key,⟨Qs,0,n.co.xs⟩⟩
def bO(k:Nat)(n:ai):ai:=⟨n.kind,if 1<=arity n.kind then wrap64 (n.l+k) else n.l,if 2<=arity n.kind then wrap64 (n.r+k) else n.r,n.source,n.cl,n.key,n.co⟩
def fw(ls:Qy (Qy ai)):Qy ai:=ls.foldl (λacc l=>acc++l.map (bO (N acc))) []
def qR(ls:Qy (Qy ai))(i:Nat):Int:=if i<N ls then (N (fw (ls.take (i+1))):Int)-1 else 0
def pF(n:ai)(ls:Qy (Qy ai)):Qy ai:=
 fw ls++[⟨n.kind,qR ls 0,qR ls 1,n.source,⟨Qs,0,n.cl.xs⟩,n.key,⟨Qs,0,n.co.xs⟩⟩]
def au(ts:Qy af)(q:ae)(n:ai)(bs:Qy aP):aP:=
 ⟨lG ts q n (E bs 0 mP).d (E bs 1 mP).d,pF n (bs.map aP.ns)⟩
def dC(kind:Int):ai:=⟨kind,0,0,0,⟨Qs,0,[]⟩,0,⟨Qs,0,[]⟩⟩
def ig(s:Int):ai:=⟨1,0,0,s,⟨Qs,0,[]⟩,0,⟨Qs,0,[]⟩⟩
def Ac(cl:Qx):ai:=⟨2,0,0,0,⟨Qs,0,cl⟩,0,⟨Qs,0,[]⟩⟩
def DF(co:Qx):ai:=⟨6,0,0,0,⟨Qs,0,[]⟩,0,⟨Qs,0,co⟩⟩
def dF(kind:Int)(cl:Qx)(key:Int):ai:=⟨kind,0,0,0,⟨Qs,0,cl⟩,key,⟨Qs,0,[]⟩⟩
def dw(s:Nat):Qx:=(aR s).map λ(n:Nat)=>(n:Int)
def bJ(ts:Qy af)(q:ae)(t:aP)(c:Nat):aP:=if c=0 then t else au ts q (Ac (dw c)) [t]
def bK(ts:Qy af)(q:ae)(t:aP)(o:Qx):aP:=au ts q (DF o) [t]
def eO(conc:Qy Nat)(s:Nat):Nat->Nat
 |0=>0
 |k+1=>if aT s (E conc k 0)=T then eO conc s k|||2 ^ k else eO conc s k
def bu(conc:Qy Nat)(s:Nat):Nat:=eO conc s (N conc)
def bL(conc:Qy Nat)(a b:Nat):Nat:=bu conc (a|||b) &&& (18446744073709551615-(bu conc a|||bu conc b))
def dN(ts:Qy af)(q:ae)(conc:Qy Nat)(s:Int):aP:=
 let t:=au ts q (ig s) []
 bJ ts q t (bu conc t.d.sources)
def bR(ts:Qy af)(q:ae):Nat->aP
 |0=>au ts q (ig 0) []
 |k+1=>au ts q (dC 3) [bR ts q k,au ts q (ig ((k+1:Nat):Int)) []]
def fq(ts:Qy af)(q:ae):aP:=
 let e:=au ts q (dC (if q.group=T then 7 else 9)) [bJ ts q (bR ts q (N q.src.xs-1)) (2 ^ (N q.wh)-1)]
 if 0<N q.ord.xs then au ts q (dC 10) [e] else e
def aI(q:ae):Qx:=if q.group=T then q.keys.xs else if di (gW q)=T then gW q else []
def bY(q:ae)(o:Qx):Int:=if q.group=F then 9 else if aO o q.keys.xs=T then 8 else 7
def fI(ts:Qy af)(q:ae)(t:aP):aP:=
 let e:=au ts q (dC (bY q t.d.order)) [t]
 if gX q (bY q t.d.order) t.d.order=T then e else au ts q (dC 10) [e]
def dS(ts:Qy af)(q:ae)(t:aP):Qy aP:=
 if 0<N (aI q) then [fI ts q t,fI ts q (bK ts q t (aI q))] else [fI ts q t]
def lH(b t:aP):aP:=if t.d.cost<b.d.cost then t else b
def dV(b:aP)(l:Qy aP):aP:=l.foldl lH b
abbrev aj:=Qx × Option (Nat × aP)
def cO:Qy aj->Nat
 |[]=>0
 |(_,Qs)::g=>cO g
 |(_,O x)::g=>max (x.1+1) (cO g)
def dQ(t:aP)(p:aj):Bool:=aO t.d.order p.1&&(match p.2 with|none=>T|some x=>decide (t.d.cost<x.2.d.cost))
def fJ(n:Nat)(t:aP)(p:aj):aj:=if dQ t p=T then (p.1,O (n,t)) else p
def iW(g:Qy aj)(t:aP):Qy aj:=g.map (fJ (cO g) t)
def jH(x:Bool × Qy aj)(t:aP):Bool × Qy aj:=(x.1 ||x.2.any (dQ t),iW x.2 t)
def iX(g:Qy aj)(l:Qy aP):Bool × Qy aj:=l.foldl jH (F,g)
def bI(g:Qy aj):Option aP:=match g with|(_,O x)::_=>O x.2|_=>Qs
def dW(ts:Qy af)(q:ae)(g:Qy aj)(o:Qx):Qy aj:=iW g (bK ts q ((bI g).getD mP) o)
def bz(ts:Qy af)(q:ae)(g:Qy aj)(l:Qy aP):Bool × Qy aj:=
 if (iX g l).1=T then (T,((g.map Prod.fst).drop 1).foldl (dW ts q) (iX g l).2) else (F,(iX g l).2)
def lV(l:Qy (Nat × aP))(p:aj):Qy (Nat × aP):=
 match p.2 with
 |none=>l
 |some x=>if l.any (λy=>y.1==x.1)=T then l else l++[x]
def dA(g:Qy aj):Qy (Nat × aP):=g.foldl lV []
def nK(jg:Int)(m:Option aP)(x:Nat × aP):Option aP:=
 if (aO x.2.d.order [jg]&&(match m with|none=>T|some y=>decide (x.2.d.cost<y.d.cost)))=T then O x.2 else m
def qU(g:Qy aj)(jg:Int):Option aP:=(dA g).foldl (nK jg) Qs
def fP(ts:Qy af)(q:ae)(l r:aP)(g:Qy aj)(cl:Qx)(acc:Qy aP)(key:Int):Qy aP:=
 let k:=iF ts q (dF 4 cl key) l.d.sources r.d.sources
 if k.2.2=T then
  match qU g k.2.1 with
  |none=>acc++[au ts q (dF 4 cl key) [l,r]]
  |some m=>if aO l.d.order [k.1]=T then acc++[au ts q (dF 4 cl key) [l,r]]++[au ts q (dF 5 cl key) [l,m]] else acc++[au ts q (dF 4 cl key) [l,r]]
 else acc
def dJ(ts:Qy af)(q:ae)(conc:Qy Nat)(l:aP)(g:Qy aj):Qy aP:=
 let r:=(bI g).getD mP
 let cl:=dw (bL conc l.d.sources r.d.sources)
 cl.foldl (fP ts q l r g cl) [au ts q (dF 3 cl 0) [l,r]]
def jr(ts:Qy af)(q:ae)(conc:Qy Nat)(a b:Qy aj):Qy aP:=(dA a).flatMap λx=>dJ ts q conc x.2 b
def gI(ls:Qy (Qx))(l:Qx):Qy (Qx):=if l∈ls then ls else ls++[l]
def ai.cells(n:ai):Array Value:=#[I J n.kind,I J n.l,I J n.r,I J n.source,n.cl.val,I J n.key,n.co.val]
def dZ(ts:Qy af)(q:ae)(xs:Qx):Qx:=xs.map λc=>(aY ts q.src.xs c:Int)
def bF(cs:Qy aA):Int × Int × Bool:=
 if N cs > 1∨(E cs 0 cz).op≠0∨(E cs 0 cz).not=T∨(E cs 0 cz).const=T then (0,0,F) else ((E cs 0 cz).left,(E cs 0 cz).right,T)
structure iP(q:ae)(t:aP):Prop where
 src:t.d.sources<2 ^ (N q.src.xs)
 cls:t.d.clauses<2 ^ (N q.wh)
 cost:t.d.cost<=bQ
 kinds:∀m∈t.ns,1<=m.kind/\m.kind<=10
 pos:0<N t.ns
theorem RH(ls:Qy (Qy ai))(l:Qy ai):fw (ls++[l])=fw ls++l.map (bO (N (fw ls))):=by grind [fw]
def AU:∀ls:Qy (Qy ai),N ls<=2->N (fw ls)=N (E ls 0 [])+N (E ls 1 [])
 |[],_=>rfl
 |[a],_=>by simp[fw]
 |[a,b],_=>by simp[fw]
 |_::_::_::_,h=>by simp at h
def MX(ls:Qy (Qy ai))(h:∀l∈ls,∀m∈l,1<=m.kind/\m.kind<=10):∀m∈fw ls,1<=m.kind/\m.kind<=10:=by
 have key:∀(ls:Qy (Qy ai)) (a:Qy ai),(∀l∈ls,∀m∈l,1<=m.kind/\m.kind<=10)->(∀m∈a,1<=m.kind/\m.kind<=10)->
   ∀m∈ls.foldl (λa l=>a++l.map (bO (N a))) a,1<=m.kind/\m.kind<=10:=by
  intro ls
  induction ls with
  |nil=>simp_all
  |cons l ls ih =>
   intro a e f;refine ih _ (λx d=>e x (XJ _ d)) λm b=>?_;rcases Xk.1 b with b|b
   .exact f m b
   .obtain⟨x,d,rfl⟩:=ZL.1 b;exact e l XL x d
 exact key ls [] h λm b=>by cases b
def sj(ts:Qy af)(q:ae)(n:ai){bs:Qy aP}(h:N bs<=2):(au ts q n bs).ns.length=(E bs 0 mP).ns.length+(E bs 1 mP).ns.length+1:=by
 unfold au pF;rw[ZG,AU _ (by simpa using h)]
 match bs,h with
 |[],_=>rfl
 |[a],_=>rfl
 |[a,b],_=>rfl
 |_::_::_::_,h=>simp at h
theorem VU(l:Qy Nat):iU l<=bQ:=by grind [zP]
theorem RI(kind:Int)(s lc ls rc rs:Nat):kr kind s lc ls rc rs<=bQ:=by grind [kr,VU]
def rq(ha:a<2 ^ n)(hb:b<2 ^ n):a|||b<2 ^ n:=XP ha hb
def kH(ts:Qy af)(q:ae)(n:ai)(bs:Qy aP)(hk:1<=n.kind/\n.kind<=10)(hs:n.kind=1->0<=n.source/\n.source<N q.src.xs)(hc:iC (N q.wh) n.cl.xs)(hb:∀b∈bs,iP q b):iP q (au ts q n bs):=by
 have f:∀n:Nat,0<2 ^ n:=λn=>Nat.pow_pos X;have e:∀i,(E bs i mP).d.sources<2 ^ (N q.src.xs)/\(E bs i mP).d.clauses<2 ^ (N q.wh):=by
  intro i;by_cases p:i<N bs
  .have a:E bs i mP∈bs:=Qf
   exact⟨(hb _ a).src,(hb _ a).cls⟩
  .have:E bs i mP=mP:=Qf
   rw[this];exact⟨f _,f _⟩
 refine⟨?_,?_,?_,?_,?_⟩
 .show (if n.kind=1 then 2 ^ n.source.toNat else 0)|||_|||_<_
  refine rq (rq ?_ (e 0).1) (e 1).1;split
  .rename_i h1
   have:=hs h1;exact XN X X
  .exact f _
 .show bD n.cl.xs|||_|||_<_
  exact rq (rq (pq hc) (e 0).2) (e 1).2
 .exact RI _ _ _ _ _ _
 .intro m a;rcases Xk.1 a with a|a
  .refine MX _ (λl j x k=>?_) m a;obtain⟨t,g,rfl⟩:=ZL.1 j;exact(hb t g).kinds x k
  simp_all
 .show 0<N (pF n _)
  unfold pF;simp
def og(ts:Qy af)(q:ae)(n:ai)(bs:Qy aP)(hk:n.kind≠1):(au ts q n bs).d.sources=(E bs 0 mP).d.sources|||(E bs 1 mP).d.sources:=by show (if n.kind=1 then 2 ^ n.source.toNat else 0)|||_|||_=_;simp_all
theorem uD(ts:Qy af)(q:ae)(s:Int):(au ts q (ig s) []).d.sources=2 ^ s.toNat:=by show (if (1:Int)=1 then 2 ^ s.toNat else 0)|||0|||0=_;simp
def RJ(z lc ls rc rs:Nat)(h:lc<=bQ):lc<=kr 6 z lc ls rc rs:=by unfold kr;rw[Zg Qc,Zg Qc,Zb Qc,aiu];unfold vF;omega
def MZ(ts:Qy af)(q:ae)(n:ai)(l r:bW):(lG ts q n l r).cost=kr n.kind (if eT n.kind=T then l.size else nI ts q ((if n.kind=1 then 2 ^ n.source.toNat else 0)|||l.sources|||r.sources) (bD n.cl.xs|||l.clauses|||r.clauses)) l.cost l.size r.cost r.size:=rfl
def vY(ts:Qy af)(q:ae)(t:aP)(o:Qx)(h:t.d.cost<=bQ):t.d.cost<=(bK ts q t o).d.cost:=by show t.d.cost<=(lG ts q (DF o) t.d mP.d).cost;rw[MZ];exact RJ _ _ _ _ _ h
def uE(n:Nat):iC n []:=λx a=>by cases a
theorem pO(h:s<2 ^ n):iC n (dw s):=by intro x a;grind [aR,dw,Nat.lt_of_lt_of_le,Nat.pow_le_pow_right,Nat.testBit_lt_two_pow]
def gD(conc:Qy Nat)(s:Nat):∀k,eO conc s k<2 ^ k
 |0=>by simp[eO]
 |k+1=>by
  have h:=gD conc s k;have h2:2 ^ k<2 ^ (k+1):=XN X X;unfold eO;split
  .exact rq (Nat.lt_trans h h2) h2
  omega
def pQ(conc:Qy Nat)(a b:Nat):bL conc a b<2 ^ (N conc):=by unfold bL;exact Nat.lt_of_le_of_lt Nat.and_le_left (gD _ _ _)
def pR{t:aP}{c:Nat}(h:iP q t)(hc:c<2 ^ (N q.wh)):iP q (bJ ts q t c):=by
 unfold bJ;split
 .exact h
 .exact kH ts q _ _ ⟨(by decide:(1:Int)<=2),(by decide:(2:Int)<=10)⟩ (λe=>absurd e (by decide:(2:Int)≠1)) (pO hc) (λb a=>Qf)
def vZ(ts:Qy af)(q:ae)(t:aP)(c:Nat):(bJ ts q t c).d.sources=t.d.sources:=by
 unfold bJ;split
 .rfl
 .rw[og ts q _ _ (by decide:(2:Int)≠1)]
  show t.d.sources|||0=_;simp
def tX(ts:Qy af)(q:ae)(t:aP)(c:Nat):(bJ ts q t c).ns.length<=N t.ns+1:=by
 unfold bJ;split
 .omega
 .rw[sj ts q _ Qa]
  show N t.ns+0+1<=_;omega
def uF{t:aP}(o:Qx)(h:iP q t):iP q (bK ts q t o):=
 kH ts q _ _ ⟨(by decide:(1:Int)<=6),(by decide:(6:Int)<=10)⟩ (λe=>absurd e (by decide:(6:Int)≠1)) (uE _) (λb a=>Qf)
def lY(ts:Qy af)(q:ae)(t:aP)(o:Qx):(bK ts q t o).d.sources=t.d.sources:=by unfold bK;rw[og ts q _ _ (by decide:(6:Int)≠1)];show t.d.sources|||0=_;simp
def nL(ts:Qy af)(q:ae)(t:aP)(o:Qx):(bK ts q t o).ns.length=N t.ns+1:=by unfold bK;rw[sj ts q _ Qa];rfl
theorem ru(ts:Qy af)(q:ae)(hc:N conc=N q.wh){s:Int}(h0:0<=s)(h1:s<N q.src.xs) :
  iP q (dN ts q conc s)/\(dN ts q conc s).d.sources=2 ^ s.toNat/\(dN ts q conc s).ns.length<=2:=by have a:iP q (au ts q (ig s) []):=kH ts q _ _ ⟨(by decide:(1:Int)<=1),(by decide:(1:Int)<=10)⟩ (λ_=>⟨h0,h1⟩) (uE _) (λb e=>by cases e);refine⟨pR a (by rw[<-hc];exact gD _ _ _),by unfold dN;rw[vZ];grind [uD],?_⟩;refine ZN (tX ts q _ _) ?_;rw[sj ts q _ Qa];show 0+0+1+1<=2;omega
def Jb:=@sj
def Jc:=@uE
theorem VW(ts:Qy af)(h1:3<=k)(h5:k<=5){key:Int}(hc:iC (N q.wh) cl){t u:aP}(h:iP q t)(hu:iP q u):iP q (au ts q (dF k cl key) [t,u]):=
 kH ts q _ _ ⟨by show (1:Int)<=k;omega,by show k<=10;omega⟩ (λe=>by have:k=1:=e;omega) hc (λb a=>by
  grind)
def Fw(ts:Qy af){s:Int}(h0:0<=s)(h1:s<N q.src.xs):iP q (au ts q (ig s) []):=
 kH ts q _ _ ⟨(by decide:(1:Int)<=1),(by decide:(1:Int)<=10)⟩ (λ_=>⟨h0,h1⟩) (Jc _) (λb a=>by cases a)
theorem mX(ts:Qy af)(q:ae):∀k,k<N q.src.xs->iP q (bR ts q k)/\(bR ts q k).ns.length<=2*k+1
 |0,h=>⟨Fw ts (Int.le_refl _) X,by
  show (au ts q (ig 0) []).ns.length<=1;rw[Jb ts q _ Qa];exact Za _⟩
 |k+1,h=>by obtain⟨h1,h2⟩:=mX ts q k X;refine⟨VW ts (k:=3) (cl:=[]) (key:=0) Qc Qc (Jc _) h1 (Fw ts X X),?_⟩;show (au ts q (dC 3) [bR ts q k,au ts q (ig ((k+1:Nat):Int)) []]).ns.length<=_;rw[Jb ts q _ Qa];have e:(au ts q (ig ((k+1:Nat):Int)) []).ns.length=1:=Jb ts q _ Qa;grind
def yl(ts:Qy af)(h1:2<=k)(h10:k<=10){t:aP}(h:iP q t):iP q (au ts q (dC k) [t])/\(au ts q (dC k) [t]).ns.length=N t.ns+1:=
 ⟨kH ts q _ _ ⟨by show (1:Int)<=k;omega,h10⟩ (λe=>by have:k=1:=e;omega) (Jc _) (λb a=>Qf),Jb ts q _ Qa⟩
theorem RV(ts:Qy af)(q:ae)(h1:1<=N q.src.xs):iP q (fq ts q)/\(fq ts q).ns.length<=2*N q.src.xs+3:=by
 obtain⟨e,i⟩:=mX ts q (N q.src.xs-1) X;have b:2 ^ (N q.wh)-1<2 ^ (N q.wh):=Qb;have d:=pR (ts:=ts) e b;have g:=tX ts q (bR ts q (N q.src.xs-1)) (2 ^ (N q.wh)-1);have a:2<=(if q.group=T then (7:Int) else 9)/\(if q.group=T then (7:Int) else 9)<=10:=X;obtain⟨f,j⟩:=yl ts a.1 a.2 d;unfold fq;simp only;split
 .obtain⟨l,m⟩:=yl ts (k:=10) Qc Qc f
  grind
 grind
structure sF(q:ae)(s:Nat)(g:Qy aj):Prop where
 all:∀p∈g,∀x,p.2=O x->iP q x.2/\x.2.d.sources=s/\N x.2.ns+2<=5*s
 head:∃h r,g=([],h)::r/\∀x,h=O x->N x.2.ns+3<=5*s
 short:N g<=20
def Nc(l:Qx):aO l []=true:=Qi
def I6(n:Nat)(t:aP)(p:aj):(fJ n t p).1=p.1:=by unfold fJ;split <;> rfl
def uI(g:Qy aj)(t:aP):N (iW g t)=N g:=by unfold iW;simp
def uJ(g:Qy aj)(t:aP):(iW g t).map Prod.fst=g.map Prod.fst:=by unfold iW;rw[List.map_map];exact List.map_congr_left λp _=>I6 _ _ p
theorem rA{t:aP}{p:aj}{x:Nat × aP}(h:(fJ n t p).2=O x):x=(n,t)∨p.2=O x:=by unfold fJ at h;grind
structure Ll(q:ae)(s:Nat)(t:aP):Prop where
 ok:iP q t
 src:t.d.sources=s
 len:N t.ns+3<=5*s
theorem sF.offer{g:Qy aj}{t:aP}(h:sF q s g)(ht:Ll q s t):sF q s (iW g t)/\(bI (iW g t)).isSome=true:=by
 obtain⟨a,r,rfl,i⟩:=h.head;refine⟨⟨λp k x i=>?_,?_,by rw[uI];exact h.short⟩,?_⟩
 .obtain⟨j,b,rfl⟩:=ZL.1 k;rcases rA i with rfl|f
  .exact⟨ht.ok,ht.src,Nat.le_of_succ_le ht.len⟩
  .exact h.all j b x f
 .refine⟨(fJ (cO (([],a)::r)) t ([],a)).2,r.map (fJ (cO (([],a)::r)) t),?_,λx e=>?_⟩
  .show fJ _ t ([],a)::_=_
   rw[show fJ (cO (([],a)::r)) t ([],a)=([],(fJ (cO (([],a)::r)) t ([],a)).2) from Prod.ext (I6 _ _ _) rfl]
  .rcases rA e with rfl|f
   .exact ht.len
   grind
 .show (bI (fJ _ t ([],a)::_)).isSome=T
  unfold fJ dQ;rw[Nc,Zj]
  cases a with
  |none=>rfl
  |some y =>
   by_cases l:t.d.cost<y.2.d.cost
   .rw[Zb Qf];rfl
   .rw[Zg Qf];rfl
theorem sF.FE{g:Qy aj}(h:sF q s g)(hs:(bI g).isSome=T)(o:Qx):sF q s (dW ts q g o)/\(bI (dW ts q g o)).isSome=true:=by
 obtain⟨l,r,rfl,d⟩:=h.head
 cases l with
 |none=>cases hs
 |some y =>
  have b:=h.all ([],O y) XL y rfl;have i:bK ts q ((bI (([],O y)::r)).getD mP) o=bK ts q y.2 o:=rfl;have v:=vY ts q y.2 o b.1.cost;unfold dW;rw[i];have a:fJ (cO (([],O y)::r)) (bK ts q y.2 o) ([],O y)=([],O y):=by unfold fJ dQ;grind
  refine⟨⟨λp u x d=>?_,?_,by rw[uI];exact h.short⟩,?_⟩
  .obtain⟨m,e,rfl⟩:=ZL.1 u;rcases rA d with rfl|k
   .refine⟨uF o b.1,by rw[lY];exact b.2.1,?_⟩;obtain⟨n,z,f,t⟩:=h.head;injection f with f e2;have j:O y=n:=congrArg Prod.snd f;have:=t y j.symm
    show (bK ts q y.2 o).ns.length+2<=5*s;rw[nL];omega
   .exact h.all m e x k
  .refine⟨O y,r.map (fJ (cO (([],O y)::r)) (bK ts q y.2 o)),?_,d⟩
   show fJ _ _ ([],O y)::_=_;rw[a]
  .show (bI (fJ _ _ ([],O y)::_)).isSome=T
   rw[a];rfl
def Nf(ts:Qy af)(q:ae)(g:Qy aj)(o:Qx):(dW ts q g o).map Prod.fst=g.map Prod.fst:=uJ _ _
def uK(g:Qy aj)(l:Qy aP):(iX g l).2.map Prod.fst=g.map Prod.fst:=by
 unfold iX
 suffices h:∀(l:Qy aP) (x:Bool × Qy aj),(l.foldl jH x).2.map Prod.fst=x.2.map Prod.fst from h l (F,g)
 intro l
 induction l with
 |nil=>intro x;rfl
 |cons t l ih=>intro x;rw[Zw,ih];exact uJ _ _
def sG{q:ae}{s:Nat}:∀{l:Qy aP} {x:Bool × Qy aj},sF q s x.2->(∀t∈l,Ll q s t)->(x.1=T->(bI x.2).isSome=T)->sF q s (l.foldl jH x).2/\((l.foldl jH x).1=T->(bI (l.foldl jH x).2).isSome=T)
 |[],_,h,_,hx=>⟨h,hx⟩
 |t::l,x,h,hl,hx=>by have:=h.offer (hl t XL);exact sG (l:=l) (x:=jH x t) this.1 (λu hu=>hl u (XJ _ hu)) (λ_=>this.2)
def uL{ts:Qy af}{q:ae}{s:Nat}:∀{os:Qy (Qx)} {g:Qy aj},sF q s g->(bI g).isSome=T->sF q s (os.foldl (dW ts q) g)/\(bI (os.foldl (dW ts q) g)).isSome=T
 |[],_,h,hs=>⟨h,hs⟩
 |o::os,g,h,hs=>by have:=h.FE (ts:=ts) hs o;exact uL (os:=os) this.1 this.2
def rC(ts:Qy af)(q:ae):∀(os:Qy (Qx)) (g:Qy aj),(os.foldl (dW ts q) g).map Prod.fst=g.map Prod.fst
 |[],_=>rfl
 |o::os,g=>by rw[Zw,rC ts q os,Nf]
def yZ{g:Qy aj}{l:Qy aP}(h:sF q s g)(hl:∀t∈l,Ll q s t) :
  sF q s (bz ts q g l).2/\((bz ts q g l).1=T->(bI (bz ts q g l).2).isSome=T)/\(bz ts q g l).2.map Prod.fst=g.map Prod.fst:=by
 have a:=sG (l:=l) (x:=(F,g)) h hl (λe=>by cases e);unfold bz;split
 .rename_i hc
  have b:=uL (ts:=ts) (os:=(g.map Prod.fst).drop 1) a.1 (a.2 hc);exact⟨b.1,λ_=>b.2,by rw[rC];exact uK g l⟩
 .exact⟨a.1,λ(e:F=T)=>(by cases e),uK g l⟩
theorem ll:∀(g:Qy aj) (acc:Qy (Nat × aP)) (x:Nat × aP),x∈g.foldl lV acc->x∈acc∨∃p∈g,p.2=O x
 |[],_,_,h=>.inl h
 |p::g,acc,x,h=>by
  rcases ll g (lV acc p) x h with h|⟨p',hp,e⟩
  .unfold lV at h
   grind
  grind
theorem uM:∀(g:Qy aj) (acc:Qy (Nat × aP)),N (g.foldl lV acc)<=N acc+N g
 |[],_=>Za _
 |p::g,acc=>by
  refine ZN (uM g (lV acc p)) ?_;have:N (lV acc p)<=N acc+1:=by unfold lV;grind
  grind
theorem VZ(jg:Int)(m:Option aP)(x:Nat × aP):nK jg m x=O x.2∨nK jg m x=m:=by unfold nK;grind
theorem zS(jg:Int):∀(l:Qy (Nat × aP)) (m:Option aP) (t:aP),l.foldl (nK jg) m=O t->m=O t∨∃n,(n,t)∈l
 |[],_,_,h=>.inl h
 |x::l,m,t,h=>by
  rcases zS jg l (nK jg m x) t h with h|⟨n,h⟩
  .grind [VZ]
  grind
def sF.piece{g:Qy aj}(h:sF q s g){x:Nat × aP}(hx:x∈dA g):iP q x.2/\x.2.d.sources=s/\N x.2.ns+2<=5*s:=by
 rcases ll g [] x hx with a|⟨p,b,e⟩
 .cases a
 .exact h.all p b x e
def sF.first{g:Qy aj}(h:sF q s g){t:aP}(ht:bI g=O t):iP q t/\t.d.sources=s/\N t.ns+2<=5*s:=by
 obtain⟨a,r,rfl,b⟩:=h.head
 cases a with
 |none=>cases ht
 |some y =>
  injection ht with ht;rw[<-ht];exact h.all _ XL y rfl
def sF.aoZ{g:Qy aj}(h:sF q s g){jg:Int}{t:aP}(ht:qU g jg=O t):iP q t/\t.d.sources=s/\N t.ns+2<=5*s:=by
 rcases zS jg _ Qs t ht with a|⟨n,b⟩
 .cases a
 .exact h.piece b
theorem I7(h:a &&& b=0):a|||b=a+b:=by
 have h1:a<2 ^ (a+b):=Zy Nat.lt_two_pow_self (ZA X X);have h2:b<2 ^ (a+b):=Zy Nat.lt_two_pow_self (ZA X X);have h3:a+b<2 ^ (a+b):=Nat.lt_two_pow_self;have hx:BitVec.ofNat (a+b) a &&& BitVec.ofNat (a+b) b=0#(a+b):=by apply BitVec.eq_of_toNat_eq;grind
 have:=congrArg BitVec.toNat (BitVec.add_eq_or_of_and_eq_zero _ _ hx);grind [Nat.mod_eq_of_lt]
theorem FH(hab:a &&& b=0){l r:aP}(hl:iP q l/\l.d.sources=a/\N l.ns+2<=5*a)(hr:iP q r/\r.d.sources=b/\N r.ns+2<=5*b){kind:Int}(h3:3<=kind)(h5:kind<=5)(hc:iC (N q.wh) cl)(key:Int) :
  Ll q (a|||b) (au ts q (dF kind cl key) [l,r]):=by
 have f:(dF kind cl key).kind=kind:=rfl;refine⟨kH ts q _ _ ⟨X,X⟩ (λe=>X) hc (λx g=>?_),?_,?_⟩
 .grind
 .rw[og ts q _ _ X,<-hl.2.1,<-hr.2.1];rfl
 .rw[Jb ts q _ Qa,I7 hab]
  grind
theorem I8{ts:Qy af}{q:ae}{a b:Nat}(hab:a &&& b=0){l r:aP}{g:Qy aj}(hl:iP q l/\l.d.sources=a/\N l.ns+2<=5*a)(hr:iP q r/\r.d.sources=b/\N r.ns+2<=5*b)(hg:sF q b g){cl:Qx}(hc:iC (N q.wh) cl) :
  ∀(ks:Qx) (acc:Qy aP),(∀t∈acc,Ll q (a|||b) t)->(∀t∈ks.foldl (fP ts q l r g cl) acc,Ll q (a|||b) t)/\N (ks.foldl (fP ts q l r g cl) acc)<=N acc+2*N ks
 |[],_,h=>⟨h,Qa⟩
 |k::ks,acc,h=>by
  have f:(∀t∈fP ts q l r g cl acc k,Ll q (a|||b) t)/\N (fP ts q l r g cl acc k)<=N acc+2:=by
   have j:=FH (ts:=ts) hab hl hr (kind:=4) X X hc k;have i:∀t∈acc++[au ts q (dF 4 cl k) [l,r]],Ll q (a|||b) t:=λt e=>by grind
   unfold fP;simp only;split
   .split
    .simp_all
    .rename_i m hm
     split
     .refine⟨λt e=>?_,Qa⟩;rcases Xk.1 e with e|e
      .exact i t e
      .rw[Xj]at e;rw[e];exact FH (ts:=ts) hab hl (hg.aoZ hm) (kind:=5) X X hc k
     simp_all
   simp_all
  have:=I8 (ts:=ts) hab hl hr hg hc ks (fP ts q l r g cl acc k) f.1;grind
def Ng(hcn:N conc=N q.wh)(hab:a &&& b=0){l:aP}{g:Qy aj}(hl:iP q l/\l.d.sources=a/\N l.ns+2<=5*a)(hg:sF q b g)(hs:(bI g).isSome=T) :
  (∀t∈dJ ts q conc l g,Ll q (a|||b) t)/\N (dJ ts q conc l g)<=1+2*N (dw (bL conc l.d.sources ((bI g).getD mP).d.sources)):=by
 obtain⟨r,j⟩:=Zp.1 hs;have f:=hg.first j;have e:(bI g).getD mP=r:=by rw[j];rfl
 have i:iC (N q.wh) (dw (bL conc l.d.sources r.d.sources)):=pO (by rw[<-hcn];exact pQ _ _ _);unfold dJ;simp only;rw[e];exact I8 hab hl f hg i _ _ λt k=>by rw[Xj]at k;rw[k];exact FH (ts:=ts) hab hl f (kind:=3) X X i 0
def yt(hcn:N conc=N q.wh)(hab:a &&& b=0){f g:Qy aj}(hf:sF q a f)(hg:sF q b g)(hs:(bI g).isSome=T) :
  ∀t∈jr ts q conc f g,Ll q (a|||b) t:=by intro t d;obtain⟨x,e,d⟩:=X5.1 d;exact(Ng hcn hab (hf.piece e) hg hs).1 t d
def Bg(q:ae)(o:Qx):7<=bY q o/\bY q o<=9:=by unfold bY;omega
theorem Sl(h:6<=k):arity k=1:=by grind [arity]
def Bh(ts:Qy af)(h1:2<=k)(h10:k<=10){t:aP}(h:iP q t):iP q (au ts q (dC k) [t]):=
 kH ts q _ _ ⟨by show (1:Int)<=k;omega,h10⟩ (λe=>by have:k=1:=e;omega) (Jc _) (λb a=>Qf)
def Ec{t:aP}(h:iP q t):iP q (fI ts q t)/\(fI ts q t).ns.length<=N t.ns+2:=by
 have b:=Bg q t.d.order;have a:iP q (au ts q (dC (bY q t.d.order)) [t]):=Bh ts X X h;have e:(au ts q (dC (bY q t.d.order)) [t]).ns.length=N t.ns+1:=Jb ts q _ Qa;unfold fI;simp only;split
 .simp_all
 .refine⟨Bh ts Qc Qc a,?_⟩;have:(au ts q (dC 10) [au ts q (dC (bY q t.d.order)) [t]]).ns.length=(au ts q (dC (bY q t.d.order)) [t]).ns.length+1:=Jb ts q _ Qa;omega
def ai.list(n:ai):Qy Value:=[I J n.kind,I J n.l,I J n.r,I J n.source,n.cl.val,I J n.key,n.co.val]
def EU(h:n<=bQ):IntKind.u64.wrap (n:Int)=n:=by unfold bQ at h;rw[IntKind.wrap_u64];omega
theorem CQ{k:Nat}{v:Int}(hk:k<N xs):v∈xs.take (k+1)↔v∈xs.take k∨E xs k 0=v:=by rw[Q4 hk,Xk,Xj];grind
theorem EW{ys:Qx}{k:Nat}(hx:k<N xs)(hy:k<N ys)(h:xs.take k=ys.take k)(e:E xs k 0=E ys k 0):xs.take (k+1)=ys.take (k+1):=by rw[Q4 hx,Q4 hy,h];grind
