import Derived.Test.YtbcgekghfgcakaaGreatDoorF00
set_option linter.all false
set_option maxRecDepth 100000
set_option maxHeartbeats 16000000
namespace Go.Proofs.Zz
open Go.RowKit Go.Shelf
def bT (l:List Int):Nat:=l.foldl (fun m n=>m|||2 ^ n.toNat) 0
theorem Pe (l:List Int) (x:Int):bT (l++[x])=bT l|||2 ^ x.toNat:=by
 unfold bT;rw[QM];rfl
theorem Pf (l:List Int):∀ (m i:Nat),(∀ x∈l,0<=x)->(l.foldl (fun m n=>m|||2 ^ n.toNat) m).testBit i=(m.testBit i || decide ((i:Int)∈l)):=by
 induction l with
 | nil => intro m i _; simp
 | cons a l ih =>
  intro m i h;have ha:=h a (by simp);rw[QO,ih _ _ (fun x hx=>h x (by simp[hx])),Nat.testBit_or,Nat.testBit_two_pow,Bool.or_assoc];congr 1;rw[Qw];simp only[Bool.or_eq_true,Qx,QP];constructor
  ·rintro (h1 | h1)
   ·left; omega
   ·right; exact h1
  ·rintro (h1 | h1)
   ·left; omega
   ·right; exact h1
theorem Ul {l:List Int} (h:∀ x∈l,0<=x) (i:Nat):(bT l).testBit i=decide ((i:Int)∈l):=by
 unfold bT;rw[Pf l 0 i h,Nat.zero_testBit,Bool.false_or]
theorem uQ {n:Nat}:∀ {l:List Int},(∀ x∈l,0<=x/\x<n)->bT l<2 ^ n:=fun {l} h=>by
 apply Nat.lt_pow_two_of_testBit;intro i hi;rw[Ul (fun x hx=>(h x hx).1),Qg];intro hm;have:=(h _ hm).2;omega
def bR:Nat:=18446744073709551615
def uR (a b:Nat):Nat:=min (a+b) bR
def eU (a b:Nat):Nat:=min (a*b) bR
theorem Um (a b:Nat):uR a b<=bR:=Nat.min_le_right _ _
theorem wW (a b:Nat):eU a b<=bR:=Nat.min_le_right _ _
def iE (l:List Nat):Nat:=l.foldl uR 0
theorem Gt:∀ (l:List Nat) (m:Nat),m<=bR->l.foldl uR m=min (m+l.sum) bR
 | [],m,h => by simp only[List.foldl_nil,List.sum_nil,Nat.min_def]; split <;> omega
 | a::l,m,_ => by
  rw[QO,Gt l _ (Um _ _),List.sum_cons];unfold uR;simp only[Nat.min_def]
  repeat' split
  all_goals omega
theorem zg (l:List Nat):iE l=min l.sum bR:=by
 unfold iE;rw[Gt l 0 (QQ _),QE]
def jW (v:Nat):Nat:=if v=0 then 0 else jW (v / 2)+1
theorem oq:jW 0=0:=by rw[jW]; rfl
theorem CP {v:Nat} (h:0<v):jW v=jW (v / 2)+1:=by rw[jW,Qs (by omega)]
def bH (ts:List af) (src:List Int) (n:Nat):List (Nat × Int):=
 (List.range n).flatMap fun s=>(List.range (ts.getD (src.getD s 0).toNat tz).aH.toNat).map fun m=>(s,(ts.getD (src.getD s 0).toNat tz).kd m)
theorem jo (ts:List af) (src:List Int) (n:Nat):bH ts src (n+1)=bH ts src n++(List.range (ts.getD (src.getD n 0).toNat tz).aH.toNat).map fun m=>(n,(ts.getD (src.getD n 0).toNat tz).kd m):=by
 unfold bH;rw[QR,QS];simp
theorem ou {ts:List af} {src:List Int} (hc:fo ts=true) (ha:bG src ts.length=true):∀ n,n<=src.length->((bH ts src n).length:Int)=aO ts (src.take n)
 | 0,_ => by simp[bH,aO]
 | n+1,hn => by
  have ih:=ou hc ha n (by omega);have h1:=lu ha (k:=n) (by omega);have h2:=om hc (i:=(src[n]'(by omega)).toNat) (by omega);have e:src.getD n 0=src[n]'(by omega):=by simp[List.getD,show n<src.length by omega]
  rw[jo,jm ts src n (by omega),QT,QU,QV,e];omega
theorem CQ {ts:List af} {src:List Int} (hc:fo ts=true) (ha:bG src ts.length=true):∀ n,n<=src.length->∀ c:Nat,c<(bH ts src n).length->
  ∃ s,s<n/\aO ts (src.take s)<=c/\(c:Int)<aO ts (src.take (s+1))/\(bH ts src n).getD c (0,0)=(s,(ts.getD (src.getD s 0).toNat tz).kd (c-(aO ts (src.take s)).toNat))
 | 0,_,c,h => by simp[bH] at h
 | n+1,hn,c,h => by
  have hl:=ou hc ha n (by omega);by_cases hlt:c<(bH ts src n).length
  ·obtain⟨s,h1,h2,h3,h4⟩:=CQ hc ha n (by omega) c hlt;refine⟨s,by omega,h2,h3,?_⟩;rw[jo,<- h4];simp[List.getD,List.getElem?_append_left hlt]
  ·have h1:=lu ha (k:=n) (by omega);have h2:=om hc (i:=(src[n]'(by omega)).toNat) (by omega);have e:src.getD n 0=src[n]'(by omega):=by simp[List.getD,show n<src.length by omega]
   rw[jo,QT,QU,QV] at h;refine⟨n,by omega,by omega,?_,?_⟩
   ·rw[jm ts src n (by omega),<- e];rw[<- e] at h1 h2;omega
   ·rw[jo];have e2:(aO ts (src.take n)).toNat=(bH ts src n).length:=by omega
    rw[e2];generalize ts.getD (src.getD n 0).toNat tz=T at h ⊢;simp only[List.getD];rw[QF (by omega),QW,List.getElem?_range (by omega)];rfl
def bD (ts:List af) (src:List Int) (c:Int):Nat:=((bH ts src src.length).getD c.toNat (0,0)).1
def iQ (ts:List af) (src:List Int) (c:Int):Int:=((bH ts src src.length).getD c.toNat (0,0)).2
theorem oz {ts:List af} {src:List Int} (hc:fo ts=true) (ha:bG src ts.length=true) {c:Int} (h0:0<=c) (hl:c<aO ts src) :
  bD ts src c<src.length/\aO ts (src.take (bD ts src c))<=c/\c<aO ts (src.take (bD ts src c+1))/\
   iQ ts src c=(ts.getD (src.getD (bD ts src c) 0).toNat tz).kd (c.toNat-(aO ts (src.take (bD ts src c))).toNat):=by
 have hw:=ou hc ha src.length (Qq _);rw[Qt] at hw;obtain⟨s,h1,h2,h3,h4⟩:=CQ hc ha src.length (Qq _) c.toNat (by omega);have e:bD ts src c=s:=by unfold bD; rw[h4]
 have e2:iQ ts src c=(ts.getD (src.getD s 0).toNat tz).kd (c.toNat-(aO ts (src.take s)).toNat):=by unfold iQ; rw[h4]
 rw[e];exact⟨h1,by omega,by omega,e2⟩
structure az where
 kind:Int
 l:Int
 r:Int
 source:Int
 cl:ah
 key:Int
 co:ah
def nz:az:=⟨0,0,0,0,⟨none,0,[]⟩,0,⟨none,0,[]⟩⟩
def D5 (w:World) (ao:Option Addr) (ns:List az):Prop:=
 ns.length<=164703072086692425/\∀ i,i<ns.length->∃ b off,ao=some (aD b off)/\
  w.cell? (aD b (off+i*7))=some (.int .i64 (ns.getD i nz).kind)/\w.cell? (aD b (off+i*7+1))=some (.int .i64 (ns.getD i nz).l)/\
  w.cell? (aD b (off+i*7+2))=some (.int .i64 (ns.getD i nz).r)/\w.cell? (aD b (off+i*7+3))=some (.int .i64 (ns.getD i nz).source)/\
  w.cell? (aD b (off+i*7+4))=some (ns.getD i nz).cl.val/\w.cell? (aD b (off+i*7+5))=some (.int .i64 (ns.getD i nz).key)/\
  w.cell? (aD b (off+i*7+6))=some (ns.getD i nz).co.val/\(ns.getD i nz).cl.At w/\(ns.getD i nz).co.At w
def az.same (a b:az):Prop:=a.kind=b.kind/\a.l=b.l/\a.r=b.r/\a.source=b.source/\a.cl.xs=b.cl.xs/\a.key=b.key/\a.co.xs=b.co.xs
def NZ (l m:List Int):List Int:=m.foldl (fun out x=>if x∈out then out else out++[x]) l
def aK (c:aj):List Int:=if c.op≠2/\c.const=false then [c.left,c.right] else [c.left]
def bV (cs:List aj):List Int:=cs.flatMap aK
def iF (ts:List af) (src:List Int) (cs:List aj):Nat:=
 if cs.length≠1∨(cs.getD 0 cz).not=true then 2
 else if (cs.getD 0 cz).op=1 then 3
 else if (cs.getD 0 cz).op=2 then 10
 else if (cs.getD 0 cz).const=true then (iQ ts src (cs.getD 0 cz).left).toNat
 else max (iQ ts src (cs.getD 0 cz).left).toNat (iQ ts src (cs.getD 0 cz).right).toNat
def pJ (ts:List af) (src:List Int) (s:Int):Nat:=(ts.getD (src.getD s.toNat 0).toNat tz).rows.toNat
def bO (l m:List Int):Bool:=decide (m.length<=l.length)&&decide (l.take m.length=m)
def arity (kind:Int):Nat:=if kind=1 then 0 else if 3<=kind/\kind<=5 then 2 else 1
theorem KU (l:List Int) (a:Int) (m:List Int):NZ l (a::m)=NZ (if a∈l then l else l++[a]) m:=rfl
theorem CR {x:Int}:∀ {m l:List Int},x∈NZ l m↔x∈l∨x∈m
 | [],l => by show x∈l↔_; simp
 | a::m,l => by
  rw[KU,CR];split
  ·rename_i h
   constructor
   ·rintro (e | e)
    ·exact .inl e
    ·exact .inr (by simp[e])
   ·rintro (e | e)
    ·exact .inl e
    ·rcases QP.1 e with e | e
     ·left; rw[e]; exact h
     ·exact .inr e
  ·rw[QX,QY,QP];constructor
   ·rintro ((e | e) | e)
    ·exact .inl e
    ·exact .inr (.inl e)
    ·exact .inr (.inr e)
   ·rintro (e | e | e)
    ·exact .inl (.inl e)
    ·exact .inl (.inr e)
    ·exact .inr e
def fJ (n:Nat) (l:List Int):Prop:=∀ x∈l,0<=x/\x<(n:Int)
theorem fJ.with {n:Nat} {l m:List Int} (hl:fJ n l) (hm:fJ n m):fJ n (NZ l m):=fun x hx=>by
 rcases CR.1 hx with h | h
 ·exact hl x h
 ·exact hm x h
theorem fJ.lt {n:Nat} (hn:n<=64) {l:List Int} (h:fJ n l):bT l<18446744073709551616:=by
 have h1:=uQ (n:=n) h;have h2:2 ^ n<=2 ^ 64:=QZ (by omega) hn;omega
def bz (s:Nat):List Nat:=(List.range 64).filter fun i=>s.testBit i
theorem D6 {n m:Nat} (hnm:n<=m) (p:Nat->Bool) (h:∀ i,n<=i->p i=false):(List.range m).filter p=(List.range n).filter p:=by
 induction m with
 | zero =>
  obtain rfl:n=0:=by omega
  rfl
 | succ m ih =>
  by_cases e:n=m+1
  ·rw[e]
  ·rw[QR,List.filter_append,ih (by omega),List.filter_cons_of_neg (by rw[h m (by omega)]; simp)];simp
structure iG where
 kind:Int
 sources:Nat
 clauses:Nat
 order:List Int
 size:Nat
 cost:Nat
def bP (a b:Nat):Bool:=decide (b &&& (18446744073709551615-a)=0)
def jF (ts:List af) (src:List Int) (cs:List aj):List Int:=(bV cs).map fun c=>(bD ts src c:Int)
theorem BG {ts:List af} {src:List Int} (hc:fo ts=true) (ha:bG src ts.length=true) {cs:List aj} (h:∀ c∈bV cs,0<=c/\c<aO ts src):fJ src.length (jF ts src cs):=fun x hx=>by
 obtain⟨c,hm,rfl⟩:=Q0.1 hx;obtain⟨h0,h1⟩:=h c hm;have:=(oz hc ha h0 h1).1;omega
def CU (ts:List af) (q:ae):Prop:=∀ i,i<q.wh.length->∀ c∈bV (q.wh.getD i lz).cs,0<=c/\c<aO ts q.src.xs
theorem zw (k:Nat):bT [(k:Int)]=2 ^ k:=by
 unfold bT;rw[QO,List.foldl_nil,Nat.zero_or,Q3]
def N7 (ts:List af) (src:List Int) (cs:List aj) (a b:Nat):Int × Int × Bool:=
 if cs.length > 1∨(cs.getD 0 cz).op≠0∨(cs.getD 0 cz).not=true∨(cs.getD 0 cz).const=true then (0,0,false)
 else if (bP a (2 ^ bD ts src (cs.getD 0 cz).left)&&bP b (2 ^ bD ts src (cs.getD 0 cz).right))=true then ((cs.getD 0 cz).left,(cs.getD 0 cz).right,true)
 else if (bP a (2 ^ bD ts src (cs.getD 0 cz).right)&&bP b (2 ^ bD ts src (cs.getD 0 cz).left))=true then ((cs.getD 0 cz).right,(cs.getD 0 cz).left,true)
 else (0,0,false)
def mK (ts:List af) (q:ae) (sources clauses:Nat):Nat:=
 if ((bz sources).map fun (k:Nat)=>pJ ts q.src.xs (k:Int)).foldl eU 1=0 then 0
 else max ((bz clauses).foldl (fun x c=>x / iF ts q.src.xs (q.wh.getD c lz).cs) (((bz sources).map fun (k:Nat)=>pJ ts q.src.xs (k:Int)).foldl eU 1)) 1
def sI (kind:Int) (l r s:Nat):Nat:=if kind=4 then iE [l,r,r,s] else if kind=5 then iE [l,r,s] else eU l r
def jG (kind:Int) (s lc ls rc rs:Nat):Nat:=
 if kind=1 then iE [s,1]
 else if kind=3∨kind=4∨kind=5 then iE [lc,rc,sI kind ls rs s]
 else if kind=6∨kind=10 then iE [lc,eU ls (jW ls+1)]
 else if kind=7 then iE [lc,ls,ls]
 else iE [lc,ls]
theorem ahk (a b:Nat):iE [a,b]=uR a b:=by rw[zg]; unfold uR; simp
def r9 (k:Int):Bool:=decide (7<=k)&&decide (k<=10)
def pz:iG:=⟨0,0,0,[],0,0⟩
def si (ts:List af) (q:ae) (n:az) (a b:Nat):Int × Int × Bool:=
 if n.key∈n.cl.xs/\0<=n.key/\n.key<q.wh.length then N7 ts q.src.xs (q.wh.getD n.key.toNat lz).cs a b else (0,0,false)
def sJ (ts:List af) (q:ae) (n:az) (l r:iG):iG:=
 let s:=(if n.kind=1 then 2 ^ n.source.toNat else 0)|||l.sources|||r.sources
 let c:=bT n.cl.xs|||l.clauses|||r.clauses
 let z:=if r9 n.kind=true then l.size else mK ts q s c
 ⟨n.kind,s,c,if n.kind=6 then n.co.xs else if 2<=n.kind/\n.kind<=5 then l.order else [],z,jG n.kind z l.cost l.size r.cost r.size⟩
structure Ok (ts:List af) (q:ae):Prop where
 cat:fo ts=true
 src:bG q.src.xs ts.length=true
 small:q.src.xs.length<=64
 lh:q.wh.length<=64
 aH:CU ts q
 some:∀ i,i<q.wh.length->0<(q.wh.getD i lz).cs.length
def mM (l:List Int):Bool:=(List.range l.length).all fun i=>decide (l.getD i 0=(i:Int))
def iH (q:ae):List Int:=q.ord.xs.map fun p=>q.aQ.xs.getD p.toNat 0
def qp (q:ae) (kind:Int) (order:List Int):Bool:=
 if q.ord.xs.length=0 then true
 else if kind=10 then true
 else if kind=9 then bO order (iH q)
 else if kind=8 then decide (q.ord.xs.length<=q.keys.xs.length)&&mM q.ord.xs
 else false
def az.cells (n:az):Array Value:=#[.int .i64 n.kind,.int .i64 n.l,.int .i64 n.r,.int .i64 n.source,n.cl.val,.int .i64 n.key,n.co.val]
structure aW where
 d:iG
 ns:List az
def ll:aW:=⟨pz,[]⟩
def fK (n:az):az:=⟨n.kind,n.l,n.r,n.source,⟨none,0,n.cl.xs⟩,n.key,⟨none,0,n.co.xs⟩⟩
def gM (k:Nat) (n:az):az:=⟨n.kind,if 1<=arity n.kind then wrap64 (n.l+k) else n.l,if 2<=arity n.kind then wrap64 (n.r+k) else n.r,n.source,n.cl,n.key,n.co⟩
def jf (ls:List (List az)):List az:=ls.foldl (fun acc l=>acc++l.map (gM acc.length)) []
def qB (ls:List (List az)) (i:Nat):Int:=if i<ls.length then ((jf (ls.take (i+1))).length:Int)-1 else 0
def oI (n:az) (ls:List (List az)):List az:=
 jf ls++[⟨n.kind,qB ls 0,qB ls 1,n.source,⟨none,0,n.cl.xs⟩,n.key,⟨none,0,n.co.xs⟩⟩]
def aP (ts:List af) (q:ae) (n:az) (bs:List aW):aW:=
 ⟨sJ ts q n (bs.getD 0 ll).d (bs.getD 1 ll).d,oI n (bs.map aW.ns)⟩
def jw (kind:Int):az:=⟨kind,0,0,0,⟨none,0,[]⟩,0,⟨none,0,[]⟩⟩
def lX (s:Int):az:=⟨1,0,0,s,⟨none,0,[]⟩,0,⟨none,0,[]⟩⟩
def Oh (cl:List Int):az:=⟨2,0,0,0,⟨none,0,cl⟩,0,⟨none,0,[]⟩⟩
def acB (co:List Int):az:=⟨6,0,0,0,⟨none,0,[]⟩,0,⟨none,0,co⟩⟩
def eu (kind:Int) (cl:List Int) (key:Int):az:=⟨kind,0,0,0,⟨none,0,cl⟩,key,⟨none,0,[]⟩⟩
def ib (s:Nat):List Int:=(bz s).map fun (n:Nat)=>(n:Int)
def bN (ts:List af) (q:ae) (t:aW) (c:Nat):aW:=if c=0 then t else aP ts q (Oh (ib c)) [t]
def bW (ts:List af) (q:ae) (t:aW) (o:List Int):aW:=aP ts q (acB o) [t]
def fM (conc:List Nat) (s:Nat):Nat->Nat
 | 0 => 0
 | k+1 => if bP s (conc.getD k 0)=true then fM conc s k|||2 ^ k else fM conc s k
def dh (conc:List Nat) (s:Nat):Nat:=fM conc s conc.length
def gP (conc:List Nat) (a b:Nat):Nat:=dh conc (a|||b) &&& (18446744073709551615-(dh conc a|||dh conc b))
def dZ (ts:List af) (q:ae) (conc:List Nat) (s:Int):aW:=
 let t:=aP ts q (lX s) []
 bN ts q t (dh conc t.d.sources)
def dV (ts:List af) (q:ae):Nat->aW
 | 0 => aP ts q (lX 0) []
 | k+1 => aP ts q (jw 3) [dV ts q k,aP ts q (lX ((k+1:Nat):Int)) []]
def fF (ts:List af) (q:ae):aW:=
 let e:=aP ts q (jw (if q.group=true then 7 else 9)) [bN ts q (dV ts q (q.src.xs.length-1)) (2 ^ q.wh.length-1)]
 if 0<q.ord.xs.length then aP ts q (jw 10) [e] else e
def aN (q:ae):List Int:=if q.group=true then q.keys.xs else if dF (iH q)=true then iH q else []
def dI (q:ae) (o:List Int):Int:=if q.group=false then 9 else if bO o q.keys.xs=true then 8 else 7
def gH (ts:List af) (q:ae) (t:aW):aW:=
 let e:=aP ts q (jw (dI q t.d.order)) [t]
 if qp q (dI q t.d.order) t.d.order=true then e else aP ts q (jw 10) [e]
def eG (ts:List af) (q:ae) (t:aW):List aW:=
 if 0<(aN q).length then [gH ts q t,gH ts q (bW ts q t (aN q))] else [gH ts q t]
def qD (b t:aW):aW:=if t.d.cost<b.d.cost then t else b
def dW (b:aW) (l:List aW):aW:=l.foldl qD b
abbrev ai:=List Int × Option (Nat × aW)
def dE:List ai->Nat
 | [] => 0
 | (_,none)::g => dE g
 | (_,some x)::g => max (x.1+1) (dE g)
def dN (t:aW) (p:ai):Bool:=bO t.d.order p.1&&(match p.2 with | none=>true | some x=>decide (t.d.cost<x.2.d.cost))
def eQ (n:Nat) (t:aW) (p:ai):ai:=if dN t p=true then (p.1,some (n,t)) else p
def ko (g:List ai) (t:aW):List ai:=g.map (eQ (dE g) t)
def kr (x:Bool × List ai) (t:aW):Bool × List ai:=(x.1 || x.2.any (dN t),ko x.2 t)
def iR (g:List ai) (l:List aW):Bool × List ai:=l.foldl kr (false,g)
def bZ (g:List ai):Option aW:=match g with | (_,some x)::_=>some x.2 | _=>none
def eP (ts:List af) (q:ae) (g:List ai) (o:List Int):List ai:=ko g (bW ts q ((bZ g).getD ll) o)
def aZ (ts:List af) (q:ae) (g:List ai) (l:List aW):Bool × List ai:=
 if (iR g l).1=true then (true,((g.map Prod.fst).drop 1).foldl (eP ts q) (iR g l).2) else (false,(iR g l).2)
def kQ (l:List (Nat × aW)) (p:ai):List (Nat × aW):=
 match p.2 with
 | none => l
 | some x => if l.any (fun y => y.1==x.1)=true then l else l++[x]
def bX (g:List ai):List (Nat × aW):=g.foldl kQ []
def qE (fZ:Int) (m:Option aW) (x:Nat × aW):Option aW:=
 if (bO x.2.d.order [fZ]&&(match m with | none=>true | some y=>decide (x.2.d.cost<y.d.cost)))=true then some x.2 else m
def qF (g:List ai) (fZ:Int):Option aW:=(bX g).foldl (qE fZ) none
def gq (ts:List af) (q:ae) (l r:aW) (g:List ai) (cl:List Int) (acc:List aW) (key:Int):List aW:=
 let k:=si ts q (eu 4 cl key) l.d.sources r.d.sources
 if k.2.2=true then
  match qF g k.2.1 with
  | none => acc++[aP ts q (eu 4 cl key) [l,r]]
  | some m => if bO l.d.order [k.1]=true then acc++[aP ts q (eu 4 cl key) [l,r]]++[aP ts q (eu 5 cl key) [l,m]] else acc++[aP ts q (eu 4 cl key) [l,r]]
 else acc
def dL (ts:List af) (q:ae) (conc:List Nat) (l:aW) (g:List ai):List aW:=
 let r:=(bZ g).getD ll
 let cl:=ib (gP conc l.d.sources r.d.sources)
 cl.foldl (gq ts q l r g cl) [aP ts q (eu 3 cl 0) [l,r]]
def jg (ts:List af) (q:ae) (conc:List Nat) (a b:List ai):List aW:=(bX a).flatMap fun x=>dL ts q conc x.2 b
def iI (ls:List (List Int)) (l:List Int):List (List Int):=if l∈ls then ls else ls++[l]
structure iC (q:ae) (t:aW):Prop where
 src:t.d.sources<2 ^ q.src.xs.length
 cls:t.d.clauses<2 ^ q.wh.length
 cost:t.d.cost<=bR
 kinds:∀ m∈t.ns,1<=m.kind/\m.kind<=10
 pos:0<t.ns.length
theorem P8 (ls:List (List az)) (l:List az):jf (ls++[l])=jf ls++l.map (gM (jf ls).length):=by
 unfold jf;rw[QM];rfl
theorem zT:∀ ls:List (List az),ls.length<=2->(jf ls).length=(ls.getD 0 []).length+(ls.getD 1 []).length
 | [],_ => rfl
 | [a],_ => by simp[jf]
 | [a,b],_ => by simp[jf]
 | _::_::_::_,h => by simp at h
theorem Lt (ls:List (List az)) (h:∀ l∈ls,∀ m∈l,1<=m.kind/\m.kind<=10):∀ m∈jf ls,1<=m.kind/\m.kind<=10:=by
 have key:∀ (ls:List (List az)) (acc:List az),(∀ l∈ls,∀ m∈l,1<=m.kind/\m.kind<=10)->(∀ m∈acc,1<=m.kind/\m.kind<=10)->
   ∀ m∈ls.foldl (fun acc l=>acc++l.map (gM acc.length)) acc,1<=m.kind/\m.kind<=10:=by
  intro ls
  induction ls with
  | nil => intro acc _ h; exact h
  | cons l ls ih =>
   intro acc hl ha;refine ih _ (fun x hx=>hl x (Xm _ hx)) fun m hm=>?_
   rcases QX.1 hm with hm | hm
   ·exact ha m hm
   ·obtain⟨x,hx,rfl⟩:=Q0.1 hm;exact hl l Xo x hx
 exact key ls [] h fun m hm=>by cases hm
theorem gV (ts:List af) (q:ae) (n:az) {bs:List aW} (h:bs.length<=2):(aP ts q n bs).ns.length=(bs.getD 0 ll).ns.length+(bs.getD 1 ll).ns.length+1:=by
 unfold aP oI;rw[QT,zT _ (by simpa using h)]
 match bs,h with
 | [],_ => rfl
 | [a],_ => rfl
 | [a,b],_ => rfl
 | _::_::_::_,h => simp at h
theorem qG (l:List Nat):iE l<=bR:=by rw[zg]; exact Nat.min_le_right _ _
theorem P9 (kind:Int) (s lc ls rc rs:Nat):jG kind s lc ls rc rs<=bR:=by
 unfold jG;split
 ·exact qG _
 split
 ·exact qG _
 split
 ·exact qG _
 split
 ·exact qG _
 ·exact qG _
theorem sP {a b n:Nat} (ha:a<2 ^ n) (hb:b<2 ^ n):a|||b<2 ^ n:=Nat.or_lt_two_pow ha hb
theorem jN (ts:List af) (q:ae) (n:az) (bs:List aW) (hk:1<=n.kind/\n.kind<=10) (hs:n.kind=1->0<=n.source/\n.source<q.src.xs.length) (hc:fJ q.wh.length n.cl.xs) (hb:∀ b∈bs,iC q b):iC q (aP ts q n bs):=by
 have hp:∀ n:Nat,0<2 ^ n:=fun n=>Nat.pow_pos (by omega)
 have h0:∀ i,(bs.getD i ll).d.sources<2 ^ q.src.xs.length/\(bs.getD i ll).d.clauses<2 ^ q.wh.length:=by
  intro i;by_cases hi:i<bs.length
  ·have hm:bs.getD i ll∈bs:=by rw[Xq,ZG hi]; exact Qj hi
   exact⟨(hb _ hm).src,(hb _ hm).cls⟩
  ·have:bs.getD i ll=ll:=by rw[Xq,Xr (by omega)]; rfl
   rw[this];exact⟨hp _,hp _⟩
 refine⟨?_,?_,?_,?_,?_⟩
 ·show (if n.kind=1 then 2 ^ n.source.toNat else 0)|||_|||_<_
  refine sP (sP ?_ (h0 0).1) (h0 1).1;split
  ·rename_i h1
   have:=hs h1;exact ZW (by omega) (by omega)
  ·exact hp _
 ·show bT n.cl.xs|||_|||_<_
  exact sP (sP (uQ hc) (h0 0).2) (h0 1).2
 ·exact P9 _ _ _ _ _ _
 ·intro m hm;rcases QX.1 hm with hm | hm
  ·refine Lt _ (fun l hl x hx=>?_) m hm;obtain⟨t,ht,rfl⟩:=Q0.1 hl;exact (hb t ht).kinds x hx
  ·rw[QY] at hm;rw[hm];exact hk
 ·show 0<(oI n _).length
  unfold oI;simp
theorem nE (ts:List af) (q:ae) (n:az) (bs:List aW) (hk:n.kind≠1):(aP ts q n bs).d.sources=(bs.getD 0 ll).d.sources|||(bs.getD 1 ll).d.sources:=by
 show (if n.kind=1 then 2 ^ n.source.toNat else 0)|||_|||_=_
 rw[Qs hk,Nat.zero_or]
theorem Lu (ts:List af) (q:ae) (s:Int):(aP ts q (lX s) []).d.sources=2 ^ s.toNat:=by
 show (if (1:Int)=1 then 2 ^ s.toNat else 0)|||0|||0=_
 simp
theorem Ra (z lc ls rc rs:Nat) (h:lc<=bR):lc<=jG 6 z lc ls rc rs:=by
 unfold jG;rw[Qs (by decide),Qs (by decide),Qr (by decide),ahk];unfold uR;exact Nat.le_min.2 ⟨Nat.le_add_right _ _,h⟩
theorem Lv (ts:List af) (q:ae) (n:az) (l r:iG):(sJ ts q n l r).cost=jG n.kind (if r9 n.kind=true then l.size else mK ts q ((if n.kind=1 then 2 ^ n.source.toNat else 0)|||l.sources|||r.sources) (bT n.cl.xs|||l.clauses|||r.clauses)) l.cost l.size r.cost r.size:=rfl
theorem Ep (ts:List af) (q:ae) (t:aW) (o:List Int) (h:t.d.cost<=bR):t.d.cost<=(bW ts q t o).d.cost:=by
 show t.d.cost<=(sJ ts q (acB o) t.d ll.d).cost
 rw[Lv];exact Ra _ _ _ _ _ h
theorem tT (n:Nat):fJ n []:=fun x hx=>by cases hx
theorem oJ {n s:Nat} (h:s<2 ^ n):fJ n (ib s):=by
 intro x hx;obtain⟨k,hk,rfl⟩:=Q0.1 hx;have hb:=(List.mem_filter.1 hk).2;refine⟨by omega,?_⟩;have:k<n:=by
  by_cases hkn:k<n
  ·exact hkn
  ·have h2:s<2 ^ k:=Q8 h (QZ (by omega) (by omega));rw[Nat.testBit_lt_two_pow h2] at hb
   cases hb
 omega
theorem jy (conc:List Nat) (s:Nat):∀ k,fM conc s k<2 ^ k
 | 0 => by simp[fM]
 | k+1 => by
  have h:=jy conc s k;have h2:2 ^ k<2 ^ (k+1):=ZW (by omega) (by omega);unfold fM;split
  ·exact sP (Nat.lt_trans h h2) h2
  ·exact Nat.lt_trans h h2
theorem tV (conc:List Nat) (a b:Nat):gP conc a b<2 ^ conc.length:=by
 unfold gP;exact Nat.lt_of_le_of_lt Nat.and_le_left (jy _ _ _)
theorem oK {ts:List af} {q:ae} {t:aW} {c:Nat} (h:iC q t) (hc:c<2 ^ q.wh.length):iC q (bN ts q t c):=by
 unfold bN;split
 ·exact h
 ·exact jN ts q _ _ ⟨(by decide:(1:Int)<=2),(by decide:(2:Int)<=10)⟩ (fun e=>absurd e (by decide:(2:Int)≠1)) (oJ hc) (fun b hb=>by rw[QY] at hb; rw[hb]; exact h)
theorem vg (ts:List af) (q:ae) (t:aW) (c:Nat):(bN ts q t c).d.sources=t.d.sources:=by
 unfold bN;split
 ·rfl
 ·rw[nE ts q _ _ (by decide:(2:Int)≠1)]
  show t.d.sources|||0=_
  simp
theorem sQ (ts:List af) (q:ae) (t:aW) (c:Nat):(bN ts q t c).ns.length<=t.ns.length+1:=by
 unfold bN;split
 ·omega
 ·rw[gV ts q _ (by simp)]
  show t.ns.length+0+1<=_
  omega
theorem tX {ts:List af} {q:ae} {t:aW} (o:List Int) (h:iC q t):iC q (bW ts q t o):=
 jN ts q _ _ ⟨(by decide:(1:Int)<=6),(by decide:(6:Int)<=10)⟩ (fun e=>absurd e (by decide:(6:Int)≠1)) (tT _) (fun b hb=>by rw[QY] at hb; rw[hb]; exact h)
theorem yS (ts:List af) (q:ae) (t:aW) (o:List Int):(bW ts q t o).d.sources=t.d.sources:=by
 unfold bW;rw[nE ts q _ _ (by decide:(6:Int)≠1)]
 show t.d.sources|||0=_
 simp
theorem yn (ts:List af) (q:ae) (t:aW) (o:List Int):(bW ts q t o).ns.length=t.ns.length+1:=by
 unfold bW;rw[gV ts q _ (by simp)];rfl
theorem yt (ts:List af) (q:ae) {conc:List Nat} (hc:conc.length=q.wh.length) {s:Int} (h0:0<=s) (h1:s<q.src.xs.length) :
  iC q (dZ ts q conc s)/\(dZ ts q conc s).d.sources=2 ^ s.toNat/\(dZ ts q conc s).ns.length<=2:=by
 have ht:iC q (aP ts q (lX s) []):=jN ts q _ _ ⟨(by decide:(1:Int)<=1),(by decide:(1:Int)<=10)⟩ (fun _=>⟨h0,h1⟩) (tT _) (fun b hb=>by cases hb);refine⟨oK ht (by rw[<- hc]; exact jy _ _ _),by unfold dZ; rw[vg]; exact Lu ts q s,?_⟩;refine Q4 (sQ ts q _ _) ?_;rw[gV ts q _ (by simp)]
 show 0+0+1+1<=2
 omega
def Xt:=@tT
theorem U6 (ts:List af) {q:ae} {k:Int} (h1:3<=k) (h5:k<=5) {cl:List Int} {key:Int} (hc:fJ q.wh.length cl) {t u:aW} (h:iC q t) (hu:iC q u):iC q (aP ts q (eu k cl key) [t,u]):=
 jN ts q _ _ ⟨by show (1:Int)<=k; omega,by show k<=10; omega⟩ (fun e=>by have:k=1:=e; omega) hc (fun b hb=>by
  rcases QP.1 hb with hb | hb
  ·rw[hb]; exact h
  ·rw[QY] at hb; rw[hb]; exact hu)
theorem Ez (ts:List af) {q:ae} {s:Int} (h0:0<=s) (h1:s<q.src.xs.length):iC q (aP ts q (lX s) []):=
 jN ts q _ _ ⟨(by decide:(1:Int)<=1),(by decide:(1:Int)<=10)⟩ (fun _=>⟨h0,h1⟩) (Xt _) (fun b hb=>by cases hb)
theorem mf (ts:List af) (q:ae):∀ k,k<q.src.xs.length->iC q (dV ts q k)/\(dV ts q k).ns.length<=2*k+1
 | 0,h => ⟨Ez ts (Int.le_refl _) (by omega),by
  show (aP ts q (lX 0) []).ns.length<=1
  rw[gV ts q _ (by simp)];exact Qq _⟩
 | k+1,h => by
  obtain⟨h1,h2⟩:=mf ts q k (by omega);refine⟨U6 ts (k:=3) (cl:=[]) (key:=0) (by decide) (by decide) (Xt _) h1 (Ez ts (by omega) (by omega)),?_⟩
  show (aP ts q (jw 3) [dV ts q k,aP ts q (lX ((k+1:Nat):Int)) []]).ns.length<=_
  rw[gV ts q _ (by simp)];have e:(aP ts q (lX ((k+1:Nat):Int)) []).ns.length=1:=gV ts q _ (by simp)
  show (dV ts q k).ns.length+(aP ts q (lX ((k+1:Nat):Int)) []).ns.length+1<=_
  omega
theorem xC (ts:List af) {q:ae} {k:Int} (h1:2<=k) (h10:k<=10) {t:aW} (h:iC q t):iC q (aP ts q (jw k) [t])/\(aP ts q (jw k) [t]).ns.length=t.ns.length+1:=
 ⟨jN ts q _ _ ⟨by show (1:Int)<=k; omega,h10⟩ (fun e=>by have:k=1:=e; omega) (Xt _) (fun b hb=>by rw[QY] at hb; rw[hb]; exact h),gV ts q _ (by simp)⟩
theorem Rn (ts:List af) (q:ae) (h1:1<=q.src.xs.length):iC q (fF ts q)/\(fF ts q).ns.length<=2*q.src.xs.length+3:=by
 obtain⟨ha,hb⟩:=mf ts q (q.src.xs.length-1) (by omega);have hc:2 ^ q.wh.length-1<2 ^ q.wh.length:=by have:0<2 ^ q.wh.length:=Nat.pow_pos (by omega); omega
 have hf:=oK (ts:=ts) ha hc;have hl:=sQ ts q (dV ts q (q.src.xs.length-1)) (2 ^ q.wh.length-1);have hk:2<=(if q.group=true then (7:Int) else 9)/\(if q.group=true then (7:Int) else 9)<=10:=by split <;> omega
 obtain⟨h3,h4⟩:=xC ts hk.1 hk.2 hf;unfold fF;simp only;split
 ·obtain⟨h5,h6⟩:=xC ts (k:=10) (by decide) (by decide) h3;exact⟨h5,by omega⟩
 ·exact⟨h3,by omega⟩
structure uj (q:ae) (s:Nat) (g:List ai):Prop where
 all:∀ p∈g,∀ x,p.2=some x->iC q x.2/\x.2.d.sources=s/\x.2.ns.length+2<=5*s
 head:∃ h r,g=([],h)::r/\∀ x,h=some x->x.2.ns.length+3<=5*s
 short:g.length<=20
theorem L8 (l:List Int):bO l []=true:=by unfold bO; simp
theorem Ig (n:Nat) (t:aW) (p:ai):(eQ n t p).1=p.1:=by unfold eQ; split <;> rfl
theorem uk (g:List ai) (t:aW):(ko g t).length=g.length:=by unfold ko; simp
theorem Ao (g:List ai) (t:aW):(ko g t).map Prod.fst=g.map Prod.fst:=by
 unfold ko;rw[List.map_map];exact List.map_congr_left fun p _=>Ig _ _ p
theorem vC {n:Nat} {t:aW} {p:ai} {x:Nat × aW} (h:(eQ n t p).2=some x):x=(n,t)∨p.2=some x:=by
 unfold eQ at h;split at h
 ·injection h with h; exact .inl h.symm
 ·exact .inr h
structure Ot (q:ae) (s:Nat) (t:aW):Prop where
 ok:iC q t
 src:t.d.sources=s
 len:t.ns.length+3<=5*s
theorem uj.offer {q:ae} {s:Nat} {g:List ai} {t:aW} (h:uj q s g) (ht:Ot q s t):uj q s (ko g t)/\(bZ (ko g t)).isSome=true:=by
 obtain⟨hh,r,rfl,hx⟩:=h.head;refine⟨⟨fun p hp x hx=>?_,?_,by rw[uk]; exact h.short⟩,?_⟩
 ·obtain⟨p0,hp0,rfl⟩:=Q0.1 hp;rcases vC hx with rfl | h0
  ·exact⟨ht.ok,ht.src,Nat.le_of_succ_le ht.len⟩
  ·exact h.all p0 hp0 x h0
 ·refine⟨(eQ (dE (([],hh)::r)) t ([],hh)).2,r.map (eQ (dE (([],hh)::r)) t),?_,fun x hx'=>?_⟩
  ·show eQ _ t ([],hh)::_=_
   rw[show eQ (dE (([],hh)::r)) t ([],hh)=([],(eQ (dE (([],hh)::r)) t ([],hh)).2) from Prod.ext (Ig _ _ _) rfl]
  ·rcases vC hx' with rfl | h0
   ·exact ht.len
   ·exact hx x h0
 ·show (bZ (eQ _ t ([],hh)::_)).isSome=true
  unfold eQ dN;rw[L8,Qv]
  cases hh with
  | none => rfl
  | some y =>
   by_cases hc:t.d.cost<y.2.d.cost
   ·rw[Qr (by simpa using hc)]; rfl
   ·rw[Qs (by simpa using hc)]; rfl
theorem uj.L9 {ts:List af} {q:ae} {s:Nat} {g:List ai} (h:uj q s g) (hs:(bZ g).isSome=true) (o:List Int):uj q s (eP ts q g o)/\(bZ (eP ts q g o)).isSome=true:=by
 obtain⟨hh,r,rfl,hx⟩:=h.head
 cases hh with
 | none => cases hs
 | some y =>
  have hy:=h.all ([],some y) Xo y rfl;have hT:bW ts q ((bZ (([],some y)::r)).getD ll) o=bW ts q y.2 o:=rfl;have hc:=Ep ts q y.2 o hy.1.cost;unfold eP;rw[hT];have hput:eQ (dE (([],some y)::r)) (bW ts q y.2 o) ([],some y)=([],some y):=by
   unfold eQ dN;rw[Qs];simp only[Qm,Qx,not_and];intro _;omega
  refine⟨⟨fun p hp x hx=>?_,?_,by rw[uk]; exact h.short⟩,?_⟩
  ·obtain⟨p0,hp0,rfl⟩:=Q0.1 hp;rcases vC hx with rfl | h0
   ·refine⟨tX o hy.1,by rw[yS]; exact hy.2.1,?_⟩;obtain⟨h1,r1,e1,hl⟩:=h.head;injection e1 with e1 e2;have e3:some y=h1:=congrArg Prod.snd e1;have:=hl y e3.symm
    show (bW ts q y.2 o).ns.length+2<=5*s
    rw[yn];omega
   ·exact h.all p0 hp0 x h0
  ·refine⟨some y,r.map (eQ (dE (([],some y)::r)) (bW ts q y.2 o)),?_,hx⟩
   show eQ _ _ ([],some y)::_=_
   rw[hput]
  ·show (bZ (eQ _ _ ([],some y)::_)).isSome=true
   rw[hput];rfl
theorem Mc (ts:List af) (q:ae) (g:List ai) (o:List Int):(eP ts q g o).map Prod.fst=g.map Prod.fst:=Ao _ _
theorem uq (g:List ai) (l:List aW):(iR g l).2.map Prod.fst=g.map Prod.fst:=by
 unfold iR
 suffices h:∀ (l:List aW) (x:Bool × List ai),(l.foldl kr x).2.map Prod.fst=x.2.map Prod.fst from h l (false,g)
 intro l
 induction l with
 | nil => intro x; rfl
 | cons t l ih => intro x; rw[QO,ih]; exact Ao _ _
theorem xE {q:ae} {s:Nat}:∀ {l:List aW} {x:Bool × List ai},uj q s x.2->(∀ t∈l,Ot q s t)->(x.1=true->(bZ x.2).isSome=true)->uj q s (l.foldl kr x).2/\((l.foldl kr x).1=true->(bZ (l.foldl kr x).2).isSome=true)
 | [],_,h,_,hx => ⟨h,hx⟩
 | t::l,x,h,hl,hx => by
  have:=h.offer (hl t Xo);exact xE (l:=l) (x:=kr x t) this.1 (fun u hu=>hl u (Xm _ hu)) (fun _=>this.2)
theorem uu {ts:List af} {q:ae} {s:Nat}:∀ {os:List (List Int)} {g:List ai},uj q s g->(bZ g).isSome=true->uj q s (os.foldl (eP ts q) g)/\(bZ (os.foldl (eP ts q) g)).isSome=true
 | [],_,h,hs => ⟨h,hs⟩
 | o::os,g,h,hs => by
  have:=h.L9 (ts:=ts) hs o;exact uu (os:=os) this.1 this.2
theorem qQ (ts:List af) (q:ae):∀ (os:List (List Int)) (g:List ai),(os.foldl (eP ts q) g).map Prod.fst=g.map Prod.fst
 | [],_ => rfl
 | o::os,g => by rw[QO,qQ ts q os,Mc]
theorem yB {ts:List af} {q:ae} {s:Nat} {g:List ai} {l:List aW} (h:uj q s g) (hl:∀ t∈l,Ot q s t) :
  uj q s (aZ ts q g l).2/\((aZ ts q g l).1=true->(bZ (aZ ts q g l).2).isSome=true)/\(aZ ts q g l).2.map Prod.fst=g.map Prod.fst:=by
 have h1:=xE (l:=l) (x:=(false,g)) h hl (fun e=>by cases e);unfold aZ;split
 ·rename_i hc
  have h2:=uu (ts:=ts) (os:=(g.map Prod.fst).drop 1) h1.1 (h1.2 hc);exact⟨h2.1,fun _=>h2.2,by rw[qQ]; exact uq g l⟩
 ·exact⟨h1.1,fun (e:false=true)=>(by cases e),uq g l⟩
theorem lN:∀ (g:List ai) (acc:List (Nat × aW)) (x:Nat × aW),x∈g.foldl kQ acc->x∈acc∨∃ p∈g,p.2=some x
 | [],_,_,h => .inl h
 | p::g,acc,x,h => by
  rcases lN g (kQ acc p) x h with h | ⟨p',hp,e⟩
  ·unfold kQ at h;split at h
   ·exact .inl h
   ·rename_i y e
    split at h
    ·exact .inl h
    ·rcases QX.1 h with h | h
     ·exact .inl h
     ·rw[QY] at h;rw[h];exact .inr ⟨p,Xo,e⟩
  ·exact .inr ⟨p',Xm _ hp,e⟩
theorem uw:∀ (g:List ai) (acc:List (Nat × aW)),(g.foldl kQ acc).length<=acc.length+g.length
 | [],_ => Qq _
 | p::g,acc => by
  refine Q4 (uw g (kQ acc p)) ?_;have:(kQ acc p).length<=acc.length+1:=by
   unfold kQ;split
   ·omega
   ·split
    ·omega
    ·simp
  simp only[Q5];omega
theorem Va (fZ:Int) (m:Option aW) (x:Nat × aW):qE fZ m x=some x.2∨qE fZ m x=m:=by
 unfold qE;generalize (bO x.2.d.order [fZ]&&_)=c
 cases c
 ·exact .inr rfl
 ·exact .inl rfl
theorem EF (fZ:Int):∀ (l:List (Nat × aW)) (m:Option aW) (t:aW),l.foldl (qE fZ) m=some t->m=some t∨∃ n,(n,t)∈l
 | [],_,_,h => .inl h
 | x::l,m,t,h => by
  rcases EF fZ l (qE fZ m x) t h with h | ⟨n,h⟩
  ·rcases Va fZ m x with e | e
   ·rw[e] at h;injection h with h;exact .inr ⟨x.1,by rw[<- h]; exact Xo⟩
   ·rw[e] at h;exact .inl h
  ·exact .inr ⟨n,Xm _ h⟩
theorem uj.piece {q:ae} {s:Nat} {g:List ai} (h:uj q s g) {x:Nat × aW} (hx:x∈bX g):iC q x.2/\x.2.d.sources=s/\x.2.ns.length+2<=5*s:=by
 rcases lN g [] x hx with h0 | ⟨p,hp,e⟩
 ·cases h0
 ·exact h.all p hp x e
theorem uj.first {q:ae} {s:Nat} {g:List ai} (h:uj q s g) {t:aW} (ht:bZ g=some t):iC q t/\t.d.sources=s/\t.ns.length+2<=5*s:=by
 obtain⟨hh,r,rfl,hx⟩:=h.head
 cases hh with
 | none => cases ht
 | some y =>
  injection ht with ht;rw[<- ht];exact h.all _ Xo y rfl
theorem uj.ant {q:ae} {s:Nat} {g:List ai} (h:uj q s g) {fZ:Int} {t:aW} (ht:qF g fZ=some t):iC q t/\t.d.sources=s/\t.ns.length+2<=5*s:=by
 rcases EF fZ _ none t ht with h0 | ⟨n,hn⟩
 ·cases h0
 ·exact h.piece hn
theorem Ih {a b:Nat} (h:a &&& b=0):a|||b=a+b:=by
 have h1:a<2 ^ (a+b):=Q8 Nat.lt_two_pow_self (QZ (by omega) (by omega));have h2:b<2 ^ (a+b):=Q8 Nat.lt_two_pow_self (QZ (by omega) (by omega));have h3:a+b<2 ^ (a+b):=Nat.lt_two_pow_self;have hx:BitVec.ofNat (a+b) a &&& BitVec.ofNat (a+b) b=0#(a+b):=by
  apply BitVec.eq_of_toNat_eq;simp[Nat.mod_eq_of_lt h1,Nat.mod_eq_of_lt h2,h]
 have:=congrArg BitVec.toNat (BitVec.add_eq_or_of_and_eq_zero _ _ hx);simp[Nat.mod_eq_of_lt h1,Nat.mod_eq_of_lt h2,Nat.mod_eq_of_lt h3] at this;exact this.symm
theorem EG {ts:List af} {q:ae} {a b:Nat} (hab:a &&& b=0) {l r:aW} (hl:iC q l/\l.d.sources=a/\l.ns.length+2<=5*a) (hr:iC q r/\r.d.sources=b/\r.ns.length+2<=5*b) {kind:Int} (h3:3<=kind) (h5:kind<=5) {cl:List Int} (hc:fJ q.wh.length cl) (key:Int) :
  Ot q (a|||b) (aP ts q (eu kind cl key) [l,r]):=by
 have e1:(eu kind cl key).kind=kind:=rfl;refine⟨jN ts q _ _ ⟨by rw[e1]; omega,by rw[e1]; omega⟩ (fun e=>by rw[e1] at e; omega) hc (fun x hx=>?_),?_,?_⟩
 ·rcases QP.1 hx with rfl | hx
  ·exact hl.1
  ·rw[QY] at hx;rw[hx];exact hr.1
 ·rw[nE ts q _ _ (by rw[e1]; omega),<- hl.2.1,<- hr.2.1];rfl
 ·rw[gV ts q _ (by simp),Ih hab]
  show l.ns.length+r.ns.length+1+3<=_
  omega
theorem Ii {ts:List af} {q:ae} {a b:Nat} (hab:a &&& b=0) {l r:aW} {g:List ai} (hl:iC q l/\l.d.sources=a/\l.ns.length+2<=5*a) (hr:iC q r/\r.d.sources=b/\r.ns.length+2<=5*b) (hg:uj q b g) {cl:List Int} (hc:fJ q.wh.length cl) :
  ∀ (ks:List Int) (acc:List aW),(∀ t∈acc,Ot q (a|||b) t)->(∀ t∈ks.foldl (gq ts q l r g cl) acc,Ot q (a|||b) t)/\(ks.foldl (gq ts q l r g cl) acc).length<=acc.length+2*ks.length
 | [],_,h => ⟨h,by simp⟩
 | k::ks,acc,h => by
  have hs:(∀ t∈gq ts q l r g cl acc k,Ot q (a|||b) t)/\(gq ts q l r g cl acc k).length<=acc.length+2:=by
   have h4:=EG (ts:=ts) hab hl hr (kind:=4) (by omega) (by omega) hc k;have hA:∀ t∈acc++[aP ts q (eu 4 cl k) [l,r]],Ot q (a|||b) t:=fun t ht=>by
    rcases QX.1 ht with ht | ht
    ·exact h t ht
    ·rw[QY] at ht;rw[ht];exact h4
   unfold gq;simp only;split
   ·split
    ·exact⟨hA,by simp⟩
    ·rename_i m hm
     split
     ·refine⟨fun t ht=>?_,by simp⟩;rcases QX.1 ht with ht | ht
      ·exact hA t ht
      ·rw[QY] at ht;rw[ht];exact EG (ts:=ts) hab hl (hg.ant hm) (kind:=5) (by omega) (by omega) hc k
     ·exact⟨hA,by simp⟩
   ·exact⟨h,by omega⟩
  have:=Ii (ts:=ts) hab hl hr hg hc ks (gq ts q l r g cl acc k) hs.1;refine⟨this.1,Q4 this.2 ?_⟩;have:=hs.2;simp only[Q5];omega
theorem Md {ts:List af} {q:ae} {conc:List Nat} (hcn:conc.length=q.wh.length) {a b:Nat} (hab:a &&& b=0) {l:aW} {g:List ai} (hl:iC q l/\l.d.sources=a/\l.ns.length+2<=5*a) (hg:uj q b g) (hs:(bZ g).isSome=true) :
  (∀ t∈dL ts q conc l g,Ot q (a|||b) t)/\(dL ts q conc l g).length<=1+2*(ib (gP conc l.d.sources ((bZ g).getD ll).d.sources)).length:=by
 obtain⟨r,hr⟩:=Option.isSome_iff_exists.1 hs;have hr':=hg.first hr
 have e:(bZ g).getD ll=r:=by rw[hr]; rfl
 have hc:fJ q.wh.length (ib (gP conc l.d.sources r.d.sources)):=oJ (by rw[<- hcn]; exact tV _ _ _);unfold dL;simp only;rw[e];exact Ii hab hl hr' hg hc _ _ fun t ht=>by
  rw[QY] at ht;rw[ht];exact EG (ts:=ts) hab hl hr' (kind:=3) (by omega) (by omega) hc 0
theorem Dj {ts:List af} {q:ae} {conc:List Nat} (hcn:conc.length=q.wh.length) {a b:Nat} (hab:a &&& b=0) {f g:List ai} (hf:uj q a f) (hg:uj q b g) (hs:(bZ g).isSome=true) :
  ∀ t∈jg ts q conc f g,Ot q (a|||b) t:=by
 intro t ht;obtain⟨x,hx,ht⟩:=Xz.1 ht;exact (Md hcn hab (hf.piece hx) hg hs).1 t ht
theorem Az (q:ae) (o:List Int):7<=dI q o/\dI q o<=9:=by
 unfold dI;split
 ·omega
 ·split <;> omega
theorem RU {k:Int} (h:6<=k):arity k=1:=by
 unfold arity;rw[Qs (by omega),Qs (by omega)]
theorem AA (ts:List af) {q:ae} {k:Int} (h1:2<=k) (h10:k<=10) {t:aW} (h:iC q t):iC q (aP ts q (jw k) [t]):=
 jN ts q _ _ ⟨by show (1:Int)<=k; omega,h10⟩ (fun e=>by have:k=1:=e; omega) (Xt _) (fun b hb=>by rw[QY] at hb; rw[hb]; exact h)
theorem Dq {ts:List af} {q:ae} {t:aW} (h:iC q t):iC q (gH ts q t)/\(gH ts q t).ns.length<=t.ns.length+2:=by
 have hk:=Az q t.d.order;have h1:iC q (aP ts q (jw (dI q t.d.order)) [t]):=AA ts (by omega) (by omega) h;have l1:(aP ts q (jw (dI q t.d.order)) [t]).ns.length=t.ns.length+1:=gV ts q _ (by simp);unfold gH;simp only;split
 ·exact⟨h1,by omega⟩
 ·refine⟨AA ts (by decide) (by decide) h1,?_⟩;have:(aP ts q (jw 10) [aP ts q (jw (dI q t.d.order)) [t]]).ns.length=(aP ts q (jw (dI q t.d.order)) [t]).ns.length+1:=gV ts q _ (by simp);omega
