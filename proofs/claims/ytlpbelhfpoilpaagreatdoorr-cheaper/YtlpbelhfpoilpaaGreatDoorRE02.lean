import Derived.Test.YtlpbelhfpoilpaaGreatDoorRE01
set_option linter.all false
set_option maxRecDepth 100000
set_option maxHeartbeats 16000000
namespace Go.Proofs.Zz
open Go.RowKit Go.Shelf
variable {a b n s:Nat} {ts:List af} {q:ae} {conc:List Nat} {k:Int} {cl:List Int}
structure aQ where
 d:bZ
 ns:List ai
def mR:aQ:=⟨pz,[]⟩
def eQ(n:ai):ai:=⟨n.kind,n.l,n.r,n.source,⟨none,0,n.cl.xs⟩,n.key,⟨none,0,n.co.xs⟩⟩
def bJ(k:Nat)(n:ai):ai:=⟨n.kind,if 1<=arity n.kind then wrap64 (n.l+k) else n.l,if 2<=arity n.kind then wrap64 (n.r+k) else n.r,n.source,n.cl,n.key,n.co⟩
def fU(ls:List (List ai)):List ai:=ls.foldl (fun acc l=>acc++l.map (bJ acc.length)) []
def rX(ls:List (List ai))(i:Nat):Int:=if i<ls.length then ((fU (ls.take (i+1))).length:Int)-1 else 0
def qE(n:ai)(ls:List (List ai)):List ai:=
 fU ls++[⟨n.kind,rX ls 0,rX ls 1,n.source,⟨none,0,n.cl.xs⟩,n.key,⟨none,0,n.co.xs⟩⟩]
def ay(ts:List af)(q:ae)(n:ai)(bs:List aQ):aQ:=
 ⟨mf ts q n (bs.getD 0 mR).d (bs.getD 1 mR).d,qE n (bs.map aQ.ns)⟩
def dI(kind:Int):ai:=⟨kind,0,0,0,⟨none,0,[]⟩,0,⟨none,0,[]⟩⟩
def iD(s:Int):ai:=⟨1,0,0,s,⟨none,0,[]⟩,0,⟨none,0,[]⟩⟩
def Bt(cl:List Int):ai:=⟨2,0,0,0,⟨none,0,cl⟩,0,⟨none,0,[]⟩⟩
def Bu(co:List Int):ai:=⟨6,0,0,0,⟨none,0,[]⟩,0,⟨none,0,co⟩⟩
def dM(kind:Int)(cl:List Int)(key:Int):ai:=⟨kind,0,0,0,⟨none,0,cl⟩,key,⟨none,0,[]⟩⟩
def dG(s:Nat):List Int:=(aR s).map fun (n:Nat)=>(n:Int)
def bM(ts:List af)(q:ae)(t:aQ)(c:Nat):aQ:=if c=0 then t else ay ts q (Bt (dG c)) [t]
def bO(ts:List af)(q:ae)(t:aQ)(o:List Int):aQ:=ay ts q (Bu o) [t]
def dX(conc:List Nat)(s:Nat):Nat->Nat
 | 0 => 0
 | k+1 => if aS s (conc.getD k 0)=true then dX conc s k|||2 ^ k else dX conc s k
def aW(conc:List Nat)(s:Nat):Nat:=dX conc s conc.length
def bP(conc:List Nat)(a b:Nat):Nat:=aW conc (a|||b) &&& (18446744073709551615-(aW conc a|||aW conc b))
def dP(ts:List af)(q:ae)(conc:List Nat)(s:Int):aQ:=
 let t:=ay ts q (iD s) []
 bM ts q t (aW conc t.d.sources)
def bT(ts:List af)(q:ae):Nat->aQ
 | 0 => ay ts q (iD 0) []
 | k+1 => ay ts q (dI 3) [bT ts q k,ay ts q (iD ((k+1:Nat):Int)) []]
def fQ(ts:List af)(q:ae):aQ:=
 let e:=ay ts q (dI (if q.group=true then 7 else 9)) [bM ts q (bT ts q (q.src.xs.length-1)) (2 ^ q.wh.length-1)]
 if 0<q.ord.xs.length then ay ts q (dI 10) [e] else e
def aM(q:ae):List Int:=if q.group=true then q.keys.xs else if di (jg q)=true then jg q else []
def df(q:ae)(o:List Int):Int:=if q.group=false then 9 else if aP o q.keys.xs=true then 8 else 7
def gV(ts:List af)(q:ae)(t:aQ):aQ:=
 let e:=ay ts q (dI (df q t.d.order)) [t]
 if jh q (df q t.d.order) t.d.order=true then e else ay ts q (dI 10) [e]
def eT(ts:List af)(q:ae)(t:aQ):List aQ:=
 if 0<(aM q).length then [gV ts q t,gV ts q (bO ts q t (aM q))] else [gV ts q t]
def mg(b t:aQ):aQ:=if t.d.cost<b.d.cost then t else b
def fe(b:aQ)(l:List aQ):aQ:=l.foldl mg b
abbrev aj:=List Int × Option (Nat × aQ)
def dh:List aj->Nat
 | [] => 0
 | (_,none)::g => dh g
 | (_,some x)::g => max (x.1+1) (dh g)
def eF(t:aQ)(p:aj):Bool:=aP t.d.order p.1&&(match p.2 with | none=>true | some x=>decide (t.d.cost<x.2.d.cost))
def eG(n:Nat)(t:aQ)(p:aj):aj:=if eF t p=true then (p.1,some (n,t)) else p
def jF(g:List aj)(t:aQ):List aj:=g.map (eG (dh g) t)
def kG(x:Bool × List aj)(t:aQ):Bool × List aj:=(x.1 || x.2.any (eF t),jF x.2 t)
def jG(g:List aj)(l:List aQ):Bool × List aj:=l.foldl kG (false,g)
def bL(g:List aj):Option aQ:=match g with | (_,some x)::_=>some x.2 | _=>none
def fq(ts:List af)(q:ae)(g:List aj)(o:List Int):List aj:=jF g (bO ts q ((bL g).getD mR) o)
def bg(ts:List af)(q:ae)(g:List aj)(l:List aQ):Bool × List aj:=
 if (jG g l).1=true then (true,((g.map Prod.fst).drop 1).foldl (fq ts q) (jG g l).2) else (false,(jG g l).2)
def mF(l:List (Nat × aQ))(p:aj):List (Nat × aQ):=
 match p.2 with
 | none => l
 | some x => if l.any (fun y => y.1==x.1)=true then l else l++[x]
def dw(g:List aj):List (Nat × aQ):=g.foldl mF []
def oF(ig:Int)(m:Option aQ)(x:Nat × aQ):Option aQ:=
 if (aP x.2.d.order [ig]&&(match m with | none=>true | some y=>decide (x.2.d.cost<y.d.cost)))=true then some x.2 else m
def rY(g:List aj)(ig:Int):Option aQ:=(dw g).foldl (oF ig) none
def ik(ts:List af)(q:ae)(l r:aQ)(g:List aj)(cl:List Int)(acc:List aQ)(key:Int):List aQ:=
 let k:=iM ts q (dM 4 cl key) l.d.sources r.d.sources
 if k.2.2=true then
  match rY g k.2.1 with
  | none => acc++[ay ts q (dM 4 cl key) [l,r]]
  | some m => if aP l.d.order [k.1]=true then acc++[ay ts q (dM 4 cl key) [l,r]]++[ay ts q (dM 5 cl key) [l,m]] else acc++[ay ts q (dM 4 cl key) [l,r]]
 else acc
def dS(ts:List af)(q:ae)(conc:List Nat)(l:aQ)(g:List aj):List aQ:=
 let r:=(bL g).getD mR
 let cl:=dG (bP conc l.d.sources r.d.sources)
 cl.foldl (ik ts q l r g cl) [ay ts q (dM 3 cl 0) [l,r]]
def jH(ts:List af)(q:ae)(conc:List Nat)(a b:List aj):List aQ:=(dw a).flatMap fun x=>dS ts q conc x.2 b
def iE(ls:List (List Int))(l:List Int):List (List Int):=if l∈ls then ls else ls++[l]
def ai.cells(n:ai):Array Value:=#[.int .i64 n.kind,.int .i64 n.l,.int .i64 n.r,.int .i64 n.source,n.cl.val,.int .i64 n.key,n.co.val]
structure jB(q:ae)(t:aQ):Prop where
 src:t.d.sources<2 ^ q.src.xs.length
 cls:t.d.clauses<2 ^ q.wh.length
 cost:t.d.cost<=bV
 kinds:∀ m∈t.ns,1<=m.kind/\m.kind<=10
 pos:0<t.ns.length
theorem TY(ls:List (List ai))(l:List ai):fU (ls++[l])=fU ls++l.map (bJ (fU ls).length):=by
 unfold fU;rw[QZ];rfl
theorem Cc:∀ ls:List (List ai),ls.length<=2->(fU ls).length=(ls.getD 0 []).length+(ls.getD 1 []).length
 | [],_ => rfl
 | [a],_ => by simp[fU]
 | [a,b],_ => by simp[fU]
 | _::_::_::_,h => by simp at h
theorem Od(ls:List (List ai))(h:∀ l∈ls,∀ m∈l,1<=m.kind/\m.kind<=10):∀ m∈fU ls,1<=m.kind/\m.kind<=10:=by
 have key:∀ (ls:List (List ai)) (acc:List ai),(∀ l∈ls,∀ m∈l,1<=m.kind/\m.kind<=10)->(∀ m∈acc,1<=m.kind/\m.kind<=10)->
   ∀ m∈ls.foldl (fun acc l=>acc++l.map (bJ acc.length)) acc,1<=m.kind/\m.kind<=10:=by
  intro ls
  induction ls with
  | nil => intro acc _ h; exact h
  | cons l ls ih =>
   intro acc hl ha;refine ih _ (fun x hx=>hl x (Xf _ hx)) fun m hm=>?_
   rcases ZT.1 hm with hm | hm
   ·exact ha m hm
   ·obtain⟨x,hx,rfl⟩:=Zi.1 hm;exact hl l Xg x hx
 exact key ls [] h fun m hm=>by cases hm
theorem uj(ts:List af)(q:ae)(n:ai){bs:List aQ}(h:bs.length<=2):(ay ts q n bs).ns.length=(bs.getD 0 mR).ns.length+(bs.getD 1 mR).ns.length+1:=by
 unfold ay qE;rw[Zb,Cc _ (by simpa using h)]
 match bs,h with
 | [],_ => rfl
 | [a],_ => rfl
 | [a,b],_ => rfl
 | _::_::_::_,h => simp at h
theorem sI(l:List Nat):jD l<=bV:=by rw[Bb]; exact Nat.min_le_right _ _
theorem TZ(kind:Int)(s lc ls rc rs:Nat):kU kind s lc ls rc rs<=bV:=by
 unfold kU;split
 ·exact sI _
 split
 ·exact sI _
 split
 ·exact sI _
 split
 ·exact sI _
 ·exact sI _
theorem sJ(ha:a<2 ^ n)(hb:b<2 ^ n):a|||b<2 ^ n:=Xk ha hb
theorem lg(ts:List af)(q:ae)(n:ai)(bs:List aQ)(hk:1<=n.kind/\n.kind<=10)(hs:n.kind=1->0<=n.source/\n.source<q.src.xs.length)(hc:gG q.wh.length n.cl.xs)(hb:∀ b∈bs,jB q b):jB q (ay ts q n bs):=by
 have hp:∀ n:Nat,0<2 ^ n:=fun n=>Xm (by omega)
 have h0:∀ i,(bs.getD i mR).d.sources<2 ^ q.src.xs.length/\(bs.getD i mR).d.clauses<2 ^ q.wh.length:=by
  intro i;by_cases hi:i<bs.length
  ·have hm:bs.getD i mR∈bs:=by rw[XH,ZX hi]; exact Qp hi
   exact⟨(hb _ hm).src,(hb _ hm).cls⟩
  ·have:bs.getD i mR=mR:=by rw[XH,Zk (by omega)]; rfl
   rw[this];exact⟨hp _,hp _⟩
 refine⟨?_,?_,?_,?_,?_⟩
 ·show (if n.kind=1 then 2 ^ n.source.toNat else 0)|||_|||_<_
  refine sJ (sJ ?_ (h0 0).1) (h0 1).1;split
  ·rename_i h1
   have:=hs h1;exact Xi (by omega) (by omega)
  ·exact hp _
 ·show bE n.cl.xs|||_|||_<_
  exact sJ (sJ (qy hc) (h0 0).2) (h0 1).2
 ·exact TZ _ _ _ _ _ _
 ·intro m hm;rcases ZT.1 hm with hm | hm
  ·refine Od _ (fun l hl x hx=>?_) m hm;obtain⟨t,ht,rfl⟩:=Zi.1 hl;exact(hb t ht).kinds x hx
  ·rw[ZR]at hm;rw[hm];exact hk
 ·show 0<(qE n _).length
  unfold qE;simp
theorem pF(ts:List af)(q:ae)(n:ai)(bs:List aQ)(hk:n.kind≠1):(ay ts q n bs).d.sources=(bs.getD 0 mR).d.sources|||(bs.getD 1 mR).d.sources:=by
 show (if n.kind=1 then 2 ^ n.source.toNat else 0)|||_|||_=_
 rw[Qz hk,Nat.zero_or]
theorem qO(ts:List af)(q:ae)(s:Int):(ay ts q (iD s) []).d.sources=2 ^ s.toNat:=by
 show (if (1:Int)=1 then 2 ^ s.toNat else 0)|||0|||0=_
 simp
theorem T9(z lc ls rc rs:Nat)(h:lc<=bV):lc<=kU 6 z lc ls rc rs:=by
 unfold kU;rw[Qz (by decide),Qz (by decide),Qy (by decide),aj8];unfold xe;exact Nat.le_min.2 ⟨Nat.le_add_right _ _,h⟩
theorem Oe(ts:List af)(q:ae)(n:ai)(l r:bZ):(mf ts q n l r).cost=kU n.kind (if eD n.kind=true then l.size else oC ts q ((if n.kind=1 then 2 ^ n.source.toNat else 0)|||l.sources|||r.sources) (bE n.cl.xs|||l.clauses|||r.clauses)) l.cost l.size r.cost r.size:=rfl
theorem xJ(ts:List af)(q:ae)(t:aQ)(o:List Int)(h:t.d.cost<=bV):t.d.cost<=(bO ts q t o).d.cost:=by
 show t.d.cost<=(mf ts q (Bu o) t.d mR.d).cost
 rw[Oe];exact T9 _ _ _ _ _ h
theorem vK(n:Nat):gG n []:=fun x hx=>by cases hx
theorem qP(h:s<2 ^ n):gG n (dG s):=by
 intro x hx;obtain⟨k,hk,rfl⟩:=Zi.1 hx;have hb:=(List.mem_filter.1 hk).2;refine⟨by omega,?_⟩;have:k<n:=by
  by_cases hkn:k<n
  ·exact hkn
  ·have h2:s<2 ^ k:=Q6 h (Q7 (by omega) (by omega));rw[Q5 h2]at hb
   cases hb
 omega
theorem iQ(conc:List Nat)(s:Nat):∀ k,dX conc s k<2 ^ k
 | 0 => by simp[dX]
 | k+1 => by
  have h:=iQ conc s k;have h2:2 ^ k<2 ^ (k+1):=Xi (by omega) (by omega);unfold dX;split
  ·exact sJ (Nat.lt_trans h h2) h2
  ·exact Nat.lt_trans h h2
theorem qQ(conc:List Nat)(a b:Nat):bP conc a b<2 ^ conc.length:=by
 unfold bP;exact Nat.lt_of_le_of_lt Nat.and_le_left (iQ _ _ _)
theorem qR{t:aQ}{c:Nat}(h:jB q t)(hc:c<2 ^ q.wh.length):jB q (bM ts q t c):=by
 unfold bM;split
 ·exact h
 ·exact lg ts q _ _ ⟨(by decide:(1:Int)<=2),(by decide:(2:Int)<=10)⟩ (fun e=>absurd e (by decide:(2:Int)≠1)) (qP hc) (fun b hb=>by rw[ZR]at hb; rw[hb]; exact h)
theorem xK(ts:List af)(q:ae)(t:aQ)(c:Nat):(bM ts q t c).d.sources=t.d.sources:=by
 unfold bM;split
 ·rfl
 ·rw[pF ts q _ _ (by decide:(2:Int)≠1)]
  show t.d.sources|||0=_
  simp
theorem uU(ts:List af)(q:ae)(t:aQ)(c:Nat):(bM ts q t c).ns.length<=t.ns.length+1:=by
 unfold bM;split
 ·omega
 ·rw[uj ts q _ (by simp)]
  show t.ns.length+0+1<=_
  omega
theorem vL{t:aQ}(o:List Int)(h:jB q t):jB q (bO ts q t o):=
 lg ts q _ _ ⟨(by decide:(1:Int)<=6),(by decide:(6:Int)<=10)⟩ (fun e=>absurd e (by decide:(6:Int)≠1)) (vK _) (fun b hb=>by rw[ZR]at hb; rw[hb]; exact h)
theorem mI(ts:List af)(q:ae)(t:aQ)(o:List Int):(bO ts q t o).d.sources=t.d.sources:=by
 unfold bO;rw[pF ts q _ _ (by decide:(6:Int)≠1)]
 show t.d.sources|||0=_
 simp
theorem oH(ts:List af)(q:ae)(t:aQ)(o:List Int):(bO ts q t o).ns.length=t.ns.length+1:=by
 unfold bO;rw[uj ts q _ (by simp)];rfl
theorem sK(ts:List af)(q:ae)(hc:conc.length=q.wh.length){s:Int}(h0:0<=s)(h1:s<q.src.xs.length) :
  jB q (dP ts q conc s)/\(dP ts q conc s).d.sources=2 ^ s.toNat/\(dP ts q conc s).ns.length<=2:=by
 have ht:jB q (ay ts q (iD s) []):=lg ts q _ _ ⟨(by decide:(1:Int)<=1),(by decide:(1:Int)<=10)⟩ (fun _=>⟨h0,h1⟩) (vK _) (fun b hb=>by cases hb);refine⟨qR ht (by rw[<- hc]; exact iQ _ _ _),by unfold dP; rw[xK]; exact qO ts q s,?_⟩;refine Zl (uU ts q _ _) ?_;rw[uj ts q _ (by simp)]
 show 0+0+1+1<=2
 omega
def XG:=@uj
def XI:=@vK
theorem Yn(ts:List af)(h1:3<=k)(h5:k<=5){key:Int}(hc:gG q.wh.length cl){t u:aQ}(h:jB q t)(hu:jB q u):jB q (ay ts q (dM k cl key) [t,u]):=
 lg ts q _ _ ⟨by show (1:Int)<=k; omega,by show k<=10; omega⟩ (fun e=>by have:k=1:=e; omega) hc (fun b hb=>by
  rcases Q4.1 hb with hb | hb
  ·rw[hb]; exact h
  ·rw[ZR]at hb; rw[hb]; exact hu)
theorem GJ(ts:List af){s:Int}(h0:0<=s)(h1:s<q.src.xs.length):jB q (ay ts q (iD s) []):=
 lg ts q _ _ ⟨(by decide:(1:Int)<=1),(by decide:(1:Int)<=10)⟩ (fun _=>⟨h0,h1⟩) (XI _) (fun b hb=>by cases hb)
theorem nR(ts:List af)(q:ae):∀ k,k<q.src.xs.length->jB q (bT ts q k)/\(bT ts q k).ns.length<=2*k+1
 | 0,h => ⟨GJ ts (Int.le_refl _) (by omega),by
  show (ay ts q (iD 0) []).ns.length<=1
  rw[XG ts q _ (by simp)];exact Qx _⟩
 | k+1,h => by
  obtain⟨h1,h2⟩:=nR ts q k (by omega);refine⟨Yn ts (k:=3) (cl:=[]) (key:=0) (by decide) (by decide) (XI _) h1 (GJ ts (by omega) (by omega)),?_⟩
  show (ay ts q (dI 3) [bT ts q k,ay ts q (iD ((k+1:Nat):Int)) []]).ns.length<=_
  rw[XG ts q _ (by simp)];have e:(ay ts q (iD ((k+1:Nat):Int)) []).ns.length=1:=XG ts q _ (by simp)
  show (bT ts q k).ns.length+(ay ts q (iD ((k+1:Nat):Int)) []).ns.length+1<=_
  omega
theorem zn(ts:List af)(h1:2<=k)(h10:k<=10){t:aQ}(h:jB q t):jB q (ay ts q (dI k) [t])/\(ay ts q (dI k) [t]).ns.length=t.ns.length+1:=
 ⟨lg ts q _ _ ⟨by show (1:Int)<=k; omega,h10⟩ (fun e=>by have:k=1:=e; omega) (XI _) (fun b hb=>by rw[ZR]at hb; rw[hb]; exact h),XG ts q _ (by simp)⟩
theorem Ub(ts:List af)(q:ae)(h1:1<=q.src.xs.length):jB q (fQ ts q)/\(fQ ts q).ns.length<=2*q.src.xs.length+3:=by
 obtain⟨ha,hb⟩:=nR ts q (q.src.xs.length-1) (by omega);have hc:2 ^ q.wh.length-1<2 ^ q.wh.length:=by have:0<2 ^ q.wh.length:=Xm (by omega); omega
 have hf:=qR (ts:=ts) ha hc;have hl:=uU ts q (bT ts q (q.src.xs.length-1)) (2 ^ q.wh.length-1);have hk:2<=(if q.group=true then (7:Int) else 9)/\(if q.group=true then (7:Int) else 9)<=10:=by split <;> omega
 obtain⟨h3,h4⟩:=zn ts hk.1 hk.2 hf;unfold fQ;simp only;split
 ·obtain⟨h5,h6⟩:=zn ts (k:=10) (by decide) (by decide) h3;exact⟨h5,by omega⟩
 ·exact⟨h3,by omega⟩
structure uw(q:ae)(s:Nat)(g:List aj):Prop where
 all:∀ p∈g,∀ x,p.2=some x->jB q x.2/\x.2.d.sources=s/\x.2.ns.length+2<=5*s
 head:∃ h r,g=([],h)::r/\∀ x,h=some x->x.2.ns.length+3<=5*s
 short:g.length<=20
theorem Ov(l:List Int):aP l []=true:=by unfold aP; simp
theorem Km(n:Nat)(t:aQ)(p:aj):(eG n t p).1=p.1:=by unfold eG; split <;> rfl
theorem vN(g:List aj)(t:aQ):(jF g t).length=g.length:=by unfold jF; simp
theorem vO(g:List aj)(t:aQ):(jF g t).map Prod.fst=g.map Prod.fst:=by
 unfold jF;rw[XM];exact List.map_congr_left fun p _=>Km _ _ p
theorem qg{t:aQ}{p:aj}{x:Nat × aQ}(h:(eG n t p).2=some x):x=(n,t)∨p.2=some x:=by
 unfold eG at h;split at h
 ·injection h with h; exact .inl h.symm
 ·exact .inr h
structure MO(q:ae)(s:Nat)(t:aQ):Prop where
 ok:jB q t
 src:t.d.sources=s
 len:t.ns.length+3<=5*s
theorem uw.offer{g:List aj}{t:aQ}(h:uw q s g)(ht:MO q s t):uw q s (jF g t)/\(bL (jF g t)).isSome=true:=by
 obtain⟨hh,r,rfl,hx⟩:=h.head;refine⟨⟨fun p hp x hx=>?_,?_,by rw[vN]; exact h.short⟩,?_⟩
 ·obtain⟨p0,hp0,rfl⟩:=Zi.1 hp;rcases qg hx with rfl | h0
  ·exact⟨ht.ok,ht.src,Nat.le_of_succ_le ht.len⟩
  ·exact h.all p0 hp0 x h0
 ·refine⟨(eG (dh (([],hh)::r)) t ([],hh)).2,r.map (eG (dh (([],hh)::r)) t),?_,fun x hx'=>?_⟩
  ·show eG _ t ([],hh)::_=_
   rw[show eG (dh (([],hh)::r)) t ([],hh)=([],(eG (dh (([],hh)::r)) t ([],hh)).2) from Prod.ext (Km _ _ _) rfl]
  ·rcases qg hx' with rfl | h0
   ·exact ht.len
   ·exact hx x h0
 ·show (bL (eG _ t ([],hh)::_)).isSome=true
  unfold eG eF;rw[Ov,QE]
  cases hh with
  | none => rfl
  | some y =>
   by_cases hc:t.d.cost<y.2.d.cost
   ·rw[Qy (by simpa using hc)]; rfl
   ·rw[Qz (by simpa using hc)]; rfl
theorem uw.GN{g:List aj}(h:uw q s g)(hs:(bL g).isSome=true)(o:List Int):uw q s (fq ts q g o)/\(bL (fq ts q g o)).isSome=true:=by
 obtain⟨hh,r,rfl,hx⟩:=h.head
 cases hh with
 | none => cases hs
 | some y =>
  have hy:=h.all ([],some y) Xg y rfl;have hT:bO ts q ((bL (([],some y)::r)).getD mR) o=bO ts q y.2 o:=rfl;have hc:=xJ ts q y.2 o hy.1.cost;unfold fq;rw[hT];have hput:eG (dh (([],some y)::r)) (bO ts q y.2 o) ([],some y)=([],some y):=by
   unfold eG eF;rw[Qz];simp only[Qt,QJ,not_and];intro _;omega
  refine⟨⟨fun p hp x hx=>?_,?_,by rw[vN]; exact h.short⟩,?_⟩
  ·obtain⟨p0,hp0,rfl⟩:=Zi.1 hp;rcases qg hx with rfl | h0
   ·refine⟨vL o hy.1,by rw[mI]; exact hy.2.1,?_⟩;obtain⟨h1,r1,e1,hl⟩:=h.head;injection e1 with e1 e2;have e3:some y=h1:=congrArg Prod.snd e1;have:=hl y e3.symm
    show (bO ts q y.2 o).ns.length+2<=5*s
    rw[oH];omega
   ·exact h.all p0 hp0 x h0
  ·refine⟨some y,r.map (eG (dh (([],some y)::r)) (bO ts q y.2 o)),?_,hx⟩
   show eG _ _ ([],some y)::_=_
   rw[hput]
  ·show (bL (eG _ _ ([],some y)::_)).isSome=true
   rw[hput];rfl
theorem Ow(ts:List af)(q:ae)(g:List aj)(o:List Int):(fq ts q g o).map Prod.fst=g.map Prod.fst:=vO _ _
theorem vP(g:List aj)(l:List aQ):(jG g l).2.map Prod.fst=g.map Prod.fst:=by
 unfold jG
 suffices h:∀ (l:List aQ) (x:Bool × List aj),(l.foldl kG x).2.map Prod.fst=x.2.map Prod.fst from h l (false,g)
 intro l
 induction l with
 | nil => intro x; rfl
 | cons t l ih => intro x; rw[Q0,ih]; exact vO _ _
theorem uy{q:ae}{s:Nat}:∀ {l:List aQ} {x:Bool × List aj},uw q s x.2->(∀ t∈l,MO q s t)->(x.1=true->(bL x.2).isSome=true)->uw q s (l.foldl kG x).2/\((l.foldl kG x).1=true->(bL (l.foldl kG x).2).isSome=true)
 | [],_,h,_,hx => ⟨h,hx⟩
 | t::l,x,h,hl,hx => by
  have:=h.offer (hl t Xg);exact uy (l:=l) (x:=kG x t) this.1 (fun u hu=>hl u (Xf _ hu)) (fun _=>this.2)
theorem vQ{ts:List af}{q:ae}{s:Nat}:∀ {os:List (List Int)} {g:List aj},uw q s g->(bL g).isSome=true->uw q s (os.foldl (fq ts q) g)/\(bL (os.foldl (fq ts q) g)).isSome=true
 | [],_,h,hs => ⟨h,hs⟩
 | o::os,g,h,hs => by
  have:=h.GN (ts:=ts) hs o;exact vQ (os:=os) this.1 this.2
theorem sN(ts:List af)(q:ae):∀ (os:List (List Int)) (g:List aj),(os.foldl (fq ts q) g).map Prod.fst=g.map Prod.fst
 | [],_ => rfl
 | o::os,g => by rw[Q0,sN ts q os,Ow]
theorem Ae{g:List aj}{l:List aQ}(h:uw q s g)(hl:∀ t∈l,MO q s t) :
  uw q s (bg ts q g l).2/\((bg ts q g l).1=true->(bL (bg ts q g l).2).isSome=true)/\(bg ts q g l).2.map Prod.fst=g.map Prod.fst:=by
 have h1:=uy (l:=l) (x:=(false,g)) h hl (fun e=>by cases e);unfold bg;split
 ·rename_i hc
  have h2:=vQ (ts:=ts) (os:=(g.map Prod.fst).drop 1) h1.1 (h1.2 hc);exact⟨h2.1,fun _=>h2.2,by rw[sN]; exact vP g l⟩
 ·exact⟨h1.1,fun (e:false=true)=>(by cases e),vP g l⟩
theorem lU:∀ (g:List aj) (acc:List (Nat × aQ)) (x:Nat × aQ),x∈g.foldl mF acc->x∈acc∨∃ p∈g,p.2=some x
 | [],_,_,h => .inl h
 | p::g,acc,x,h => by
  rcases lU g (mF acc p) x h with h | ⟨p',hp,e⟩
  ·unfold mF at h;split at h
   ·exact .inl h
   ·rename_i y e
    split at h
    ·exact .inl h
    ·rcases ZT.1 h with h | h
     ·exact .inl h
     ·rw[ZR]at h;rw[h];exact .inr ⟨p,Xg,e⟩
  ·exact .inr ⟨p',Xf _ hp,e⟩
theorem vR:∀ (g:List aj) (acc:List (Nat × aQ)),(g.foldl mF acc).length<=acc.length+g.length
 | [],_ => Qx _
 | p::g,acc => by
  refine Zl (vR g (mF acc p)) ?_;have:(mF acc p).length<=acc.length+1:=by
   unfold mF;split
   ·omega
   ·split
    ·omega
    ·simp
  simp only[Zg];omega
theorem Yr(ig:Int)(m:Option aQ)(x:Nat × aQ):oF ig m x=some x.2∨oF ig m x=m:=by
 unfold oF;generalize (aP x.2.d.order [ig]&&_)=c
 cases c
 ·exact .inr rfl
 ·exact .inl rfl
theorem Bg(ig:Int):∀ (l:List (Nat × aQ)) (m:Option aQ) (t:aQ),l.foldl (oF ig) m=some t->m=some t∨∃ n,(n,t)∈l
 | [],_,_,h => .inl h
 | x::l,m,t,h => by
  rcases Bg ig l (oF ig m x) t h with h | ⟨n,h⟩
  ·rcases Yr ig m x with e | e
   ·rw[e]at h;injection h with h;exact .inr ⟨x.1,by rw[<- h]; exact Xg⟩
   ·rw[e]at h;exact .inl h
  ·exact .inr ⟨n,Xf _ h⟩
theorem uw.piece{g:List aj}(h:uw q s g){x:Nat × aQ}(hx:x∈dw g):jB q x.2/\x.2.d.sources=s/\x.2.ns.length+2<=5*s:=by
 rcases lU g [] x hx with h0 | ⟨p,hp,e⟩
 ·cases h0
 ·exact h.all p hp x e
theorem uw.first{g:List aj}(h:uw q s g){t:aQ}(ht:bL g=some t):jB q t/\t.d.sources=s/\t.ns.length+2<=5*s:=by
 obtain⟨hh,r,rfl,hx⟩:=h.head
 cases hh with
 | none => cases ht
 | some y =>
  injection ht with ht;rw[<- ht];exact h.all _ Xg y rfl
theorem uw.aqE{g:List aj}(h:uw q s g){ig:Int}{t:aQ}(ht:rY g ig=some t):jB q t/\t.d.sources=s/\t.ns.length+2<=5*s:=by
 rcases Bg ig _ none t ht with h0 | ⟨n,hn⟩
 ·cases h0
 ·exact h.piece hn
theorem Kn(h:a &&& b=0):a|||b=a+b:=by
 have h1:a<2 ^ (a+b):=Q6 Nat.lt_two_pow_self (Q7 (by omega) (by omega));have h2:b<2 ^ (a+b):=Q6 Nat.lt_two_pow_self (Q7 (by omega) (by omega));have h3:a+b<2 ^ (a+b):=Nat.lt_two_pow_self;have hx:BitVec.ofNat (a+b) a &&& BitVec.ofNat (a+b) b=0#(a+b):=by
  apply BitVec.eq_of_toNat_eq;simp[Nat.mod_eq_of_lt h1,Nat.mod_eq_of_lt h2,h]
 have:=congrArg BitVec.toNat (BitVec.add_eq_or_of_and_eq_zero _ _ hx);simp[Nat.mod_eq_of_lt h1,Nat.mod_eq_of_lt h2,Nat.mod_eq_of_lt h3]at this;exact this.symm
theorem GQ(hab:a &&& b=0){l r:aQ}(hl:jB q l/\l.d.sources=a/\l.ns.length+2<=5*a)(hr:jB q r/\r.d.sources=b/\r.ns.length+2<=5*b){kind:Int}(h3:3<=kind)(h5:kind<=5)(hc:gG q.wh.length cl)(key:Int) :
  MO q (a|||b) (ay ts q (dM kind cl key) [l,r]):=by
 have e1:(dM kind cl key).kind=kind:=rfl;refine⟨lg ts q _ _ ⟨by rw[e1]; omega,by rw[e1]; omega⟩ (fun e=>by rw[e1]at e; omega) hc (fun x hx=>?_),?_,?_⟩
 ·rcases Q4.1 hx with rfl | hx
  ·exact hl.1
  ·rw[ZR]at hx;rw[hx];exact hr.1
 ·rw[pF ts q _ _ (by rw[e1]; omega),<- hl.2.1,<- hr.2.1];rfl
 ·rw[XG ts q _ (by simp),Kn hab]
  show l.ns.length+r.ns.length+1+3<=_
  omega
theorem Ko{ts:List af}{q:ae}{a b:Nat}(hab:a &&& b=0){l r:aQ}{g:List aj}(hl:jB q l/\l.d.sources=a/\l.ns.length+2<=5*a)(hr:jB q r/\r.d.sources=b/\r.ns.length+2<=5*b)(hg:uw q b g){cl:List Int}(hc:gG q.wh.length cl) :
  ∀ (ks:List Int) (acc:List aQ),(∀ t∈acc,MO q (a|||b) t)->(∀ t∈ks.foldl (ik ts q l r g cl) acc,MO q (a|||b) t)/\(ks.foldl (ik ts q l r g cl) acc).length<=acc.length+2*ks.length
 | [],_,h => ⟨h,by simp⟩
 | k::ks,acc,h => by
  have hs:(∀ t∈ik ts q l r g cl acc k,MO q (a|||b) t)/\(ik ts q l r g cl acc k).length<=acc.length+2:=by
   have h4:=GQ (ts:=ts) hab hl hr (kind:=4) (by omega) (by omega) hc k;have hA:∀ t∈acc++[ay ts q (dM 4 cl k) [l,r]],MO q (a|||b) t:=fun t ht=>by
    rcases ZT.1 ht with ht | ht
    ·exact h t ht
    ·rw[ZR]at ht;rw[ht];exact h4
   unfold ik;simp only;split
   ·split
    ·exact⟨hA,by simp⟩
    ·rename_i m hm
     split
     ·refine⟨fun t ht=>?_,by simp⟩;rcases ZT.1 ht with ht | ht
      ·exact hA t ht
      ·rw[ZR]at ht;rw[ht];exact GQ (ts:=ts) hab hl (hg.aqE hm) (kind:=5) (by omega) (by omega) hc k
     ·exact⟨hA,by simp⟩
   ·exact⟨h,by omega⟩
  have:=Ko (ts:=ts) hab hl hr hg hc ks (ik ts q l r g cl acc k) hs.1;refine⟨this.1,Zl this.2 ?_⟩;have:=hs.2;simp only[Zg];omega
theorem Ox(hcn:conc.length=q.wh.length)(hab:a &&& b=0){l:aQ}{g:List aj}(hl:jB q l/\l.d.sources=a/\l.ns.length+2<=5*a)(hg:uw q b g)(hs:(bL g).isSome=true) :
  (∀ t∈dS ts q conc l g,MO q (a|||b) t)/\(dS ts q conc l g).length<=1+2*(dG (bP conc l.d.sources ((bL g).getD mR).d.sources)).length:=by
 obtain⟨r,hr⟩:=XU.1 hs;have hr':=hg.first hr
 have e:(bL g).getD mR=r:=by rw[hr]; rfl
 have hc:gG q.wh.length (dG (bP conc l.d.sources r.d.sources)):=qP (by rw[<- hcn]; exact qQ _ _ _);unfold dS;simp only;rw[e];exact Ko hab hl hr' hg hc _ _ fun t ht=>by
  rw[ZR]at ht;rw[ht];exact GQ (ts:=ts) hab hl hr' (kind:=3) (by omega) (by omega) hc 0
theorem zq(hcn:conc.length=q.wh.length)(hab:a &&& b=0){f g:List aj}(hf:uw q a f)(hg:uw q b g)(hs:(bL g).isSome=true) :
  ∀ t∈jH ts q conc f g,MO q (a|||b) t:=by
 intro t ht;obtain⟨x,hx,ht⟩:=XC.1 ht;exact(Ox hcn hab (hf.piece hx) hg hs).1 t ht
theorem Cu(q:ae)(o:List Int):7<=df q o/\df q o<=9:=by
 unfold df;split
 ·omega
 ·split <;> omega
theorem Uu(h:6<=k):arity k=1:=by
 unfold arity;rw[Qz (by omega),Qz (by omega)]
theorem Cv(ts:List af)(h1:2<=k)(h10:k<=10){t:aQ}(h:jB q t):jB q (ay ts q (dI k) [t]):=
 lg ts q _ _ ⟨by show (1:Int)<=k; omega,h10⟩ (fun e=>by have:k=1:=e; omega) (XI _) (fun b hb=>by rw[ZR]at hb; rw[hb]; exact h)
theorem FM{t:aQ}(h:jB q t):jB q (gV ts q t)/\(gV ts q t).ns.length<=t.ns.length+2:=by
 have hk:=Cu q t.d.order;have h1:jB q (ay ts q (dI (df q t.d.order)) [t]):=Cv ts (by omega) (by omega) h;have l1:(ay ts q (dI (df q t.d.order)) [t]).ns.length=t.ns.length+1:=XG ts q _ (by simp);unfold gV;simp only;split
 ·exact⟨h1,by omega⟩
 ·refine⟨Cv ts (by decide) (by decide) h1,?_⟩;have:(ay ts q (dI 10) [ay ts q (dI (df q t.d.order)) [t]]).ns.length=(ay ts q (dI (df q t.d.order)) [t]).ns.length+1:=XG ts q _ (by simp);omega
theorem kE.below{w w':World}(hb:Bw w w'){ao:Option Addr}{ns:List ai}(h:kE w ao ns):kE w' ao ns:=
 ⟨h.1,fun i hi=>by
  obtain⟨b,off,e,h0,h1,h2,h3,h4,h5,h6,h7,h8⟩:=h.2 i hi;exact⟨b,off,e,cB hb h0,cB hb h1,cB hb h2,cB hb h3,cB hb h4,cB hb h5,cB hb h6,Qv hb h7,Qv hb h8⟩⟩
