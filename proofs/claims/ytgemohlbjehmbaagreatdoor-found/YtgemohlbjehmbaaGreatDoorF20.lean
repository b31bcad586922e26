import Derived.Test.YtgemohlbjehmbaaGreatDoorF02
import Derived.Test.YtgemohlbjehmbaaGreatDoorF06
import Derived.Test.YtgemohlbjehmbaaGreatDoorF12
import Derived.Test.YtgemohlbjehmbaaGreatDoorF13
set_option linter.all false
set_option maxRecDepth 100000
set_option maxHeartbeats 16000000
namespace Go.Proofs.Zz
open Go.RowKit Go.Shelf
variable {rk:Nat->Int} {ts:List af} {q:ae} {conc:List Nat} {picks xs:List Int} {σ:eF} {a b base d gb i n:Nat} {tick:Int} {W0 w w':World} {ao:Option Addr} {f:aC} {T e:TypeId} {F:Nat->Prop} {t:aQ} {v:Value} {A:Nat->Nat} {os:List ai} {g:List aj}
theorem iT(rk:Nat->Int)(ts:List af)(q:ae)(conc:List Nat)(picks:List Int):∀ (n k:Nat) (σ:eF),runN rk ts q conc picks (n+1) k σ=if (runN rk ts q conc picks n k σ).status=1 then fu rk ts q conc (jU picks (k+n)) (runN rk ts q conc picks n k σ) else runN rk ts q conc picks n k σ
 | 0,k,σ => rfl
 | n+1,k,σ => by
  show (if σ.status=1 then runN rk ts q conc picks (n+1) (k+1) (fu rk ts q conc (jU picks k) σ) else σ)=_;have e:runN rk ts q conc picks (n+1) k σ=if σ.status=1 then runN rk ts q conc picks n (k+1) (fu rk ts q conc (jU picks k) σ) else σ:=rfl;by_cases h:σ.status=1
  ·rw[Qo h,iT rk ts q conc picks n (k+1),e,Qo h,show k+1+n=k+(n+1) by omega]
  simp_all
theorem mr{rk:Nat->Int}{ts:List af}{q:ae}{conc:List Nat}(hcn:conc.length=q.wh.length)(h5:q.src.xs.length<=5)(picks:List Int){σ:eF}(h:uu q σ):∀ n,uu q (runN rk ts q conc picks n 0 σ)/\(runN rk ts q conc picks n 0 σ).picks.length<=σ.picks.length+n
 | 0 => ⟨h,Qn _⟩
 | n+1 => by
  obtain⟨h1,h2⟩:=mr (rk:=rk) (ts:=ts) hcn h5 picks h n;rw[iT];split
  ·rename_i hs
   have:=acP (rk:=rk) (ts:=ts) hcn h1 h5 hs (jU picks (0+n));grind
  grind
def goT(rk:Nat->Int)(ts:List af)(q:ae)(conc:List Nat)(picks:List Int)(n:Nat)(tick:Int)(σ:eF):eF:=
 if 0<=tick/\tick<n then
  (if (runN rk ts q conc picks tick.toNat 0 σ).status=1 then { runN rk ts q conc picks tick.toNat 0 σ with status:=4 } else runN rk ts q conc picks tick.toNat 0 σ)
 else runN rk ts q conc picks n 0 σ
theorem wO{rk:Nat->Int}{ts:List af}{q:ae}{conc:List Nat}{picks:List Int}{σ:eF}{d:Nat}(h:(runN rk ts q conc picks d 0 σ).status≠1):∀ m,runN rk ts q conc picks (d+m) 0 σ=runN rk ts q conc picks d 0 σ
 | 0 => rfl
 | m+1 => by rw[show d+(m+1)=d+m+1 by omega,iT,wO h m,Qu h]
theorem adQ(h:(runN rk ts q conc picks d 0 σ).status≠1)(hd:d<=n)(ht:tick<0∨(d:Int)<=tick):goT rk ts q conc picks n tick σ=runN rk ts q conc picks d 0 σ:=by
 unfold goT;split
 ·rename_i hc
  obtain⟨m,a⟩:∃ m,tick.toNat=d+m:=⟨tick.toNat-d,by omega⟩;rw[a,wO h,Qu h]
 ·obtain⟨m,a⟩:∃ m,n=d+m:=⟨n-d,by omega⟩
  grind [wO]
theorem K4(ht:tick<0∨(n:Int)<=tick):goT rk ts q conc picks n tick σ=runN rk ts q conc picks n 0 σ:=by unfold goT;grind
theorem adR(hd:d<n)(h:(runN rk ts q conc picks d 0 σ).status=1):goT rk ts q conc picks n (d:Int) σ = { runN rk ts q conc picks d 0 σ with status:=4 }:=by unfold goT;simp_all
def qE(F:Nat->Prop)(ao:Option Addr)(n:Nat):Prop:=0<n->∀ a,ao=some a->F a.block
def ed(w:World)(ao:Option Addr)(xs:List Nat):Prop:=
 xs.length<=1000000/\bT w ao xs.length (λi=>.pointer (some (aD (xs.getD i 0) 0)))
theorem ed.get{w:World}{ao:Option Addr}{xs:List Nat}(h:ed w ao xs){i:Nat}(hi:i<xs.length) :
  ∃ b a,ao=some (aD b a)/\∀ j,j<xs.length->w.cell? (aD b (a+j))=some (.pointer (some (aD (xs.getD j 0) 0))):=
 Qf h.2 hi
theorem ed.below{w w':World}(hb:Bw w w'){ao:Option Addr}{xs:List Nat}(h:ed w ao xs):ed w' ao xs:=⟨h.1,h.2.below hb⟩
theorem bT.bI{A B:World}{F:Nat->Prop}{ao:Option Addr}{n:Nat}{f:Nat->Value}(h:bT A ao n f)(hk:Kept F A B)(hF:qE F ao n):bT B ao n f:=by
 cases n with
 | zero => intro i e; omega
 | succ m => exact h.keep (λa b d => hk.block _ d (hF (by omega) a b))
theorem aM.bI{A B:World}{F:Nat->Prop}{ao:Option Addr}{xs:List Int}(h:aM A ao xs)(hk:Kept F A B)(hF:qE F ao xs.length):aM B ao xs:=⟨h.1,h.2.bI hk hF⟩
theorem ed.bI{A B:World}{F:Nat->Prop}{ao:Option Addr}{xs:List Nat}(h:ed A ao xs)(hk:Kept F A B)(hF:qE F ao xs.length):ed B ao xs:=⟨h.1,h.2.bI hk hF⟩
theorem bT.lt{f:Nat->Value}(h:bT w ao n f)(hn:0<n):∀ a,ao=some a->a.block<w.heap.size:=by intro a i;obtain⟨b,d,e,g⟩:=h 0 hn;rw[i]at e;injection e with e;rw[e];exact Za g
theorem qE.mono{F G:Nat->Prop}{w:World}{ao:Option Addr}{n:Nat}{f:Nat->Value}(hc:bT w ao n f)(h:qE F ao n)(hs:∀ b,b<w.heap.size->F b->G b):qE G ao n:=
 λd a e=>hs _ (hc.lt d a e) (h d a e)
def IA(p:aH)(n:ah)(v:Value):Array Value:=
 #[.int .i64 p.kind,.int .u64 (p.sources:Int),.int .u64 (p.clauses:Int),p.order.val,.int .u64 (p.size:Int),.int .u64 (p.cost:Int),
  .int .i64 n.kind,.int .i64 n.l,.int .i64 n.r,.int .i64 n.source,n.cl.val,.int .i64 n.key,n.co.val,v]
structure rR(T:TypeId)(F:Nat->Prop)(w:World)(a:Nat)(t:aQ)(p:aH)(n:ah)(bo:Option Addr)(bc:Nat)(bs:List (Nat × aQ)):Prop where
 blk:F a
 gb:GB w a T (IA p n (.slice bo bs.length bc))
 part:p.d=t.d
 ok:p.Ok w
 ord:qE F p.order.ad p.order.xs.length
 cl:n.cl.At w
 clf:qE F n.cl.ad n.cl.xs.length
 cln:n.cl.ad=none->n.cl.cap=0
 co:n.co.At w
 cof:qE F n.co.ad n.co.xs.length
 con:n.co.ad=none->n.co.cap=0
 ptrs:ed w bo (bs.map Prod.fst)
 ptf:qE F bo bs.length
 abQ:bs.length<=bc
 nil:bo=none->bc=0
 lay:t.ns=sM n (bs.map λx=>x.2.ns)
 two:bs.length<=2
 kind:1<=n.kind/\n.kind<=10
 lens:n.cl.xs.length<=1000/\n.co.xs.length<=1000
def nO(T:TypeId)(F:Nat->Prop):Nat->World->Nat->aQ->Prop
 | 0,_,_,_ => False
 | k+1,w,a,t => ∃ p n bo bc bs,rR T F w a t p n bo bc bs/\∀ x∈bs,nO T F k w x.1 x.2
theorem rR.bI{T:TypeId}{F:Nat->Prop}{w w':World}{a:Nat}{t:aQ}{p:aH}{n:ah}{bo:Option Addr}{bc:Nat}{bs:List (Nat × aQ)}(h:rR T F w a t p n bo bc bs)(hk:Kept F w w'):rR T F w' a t p n bo bc bs where
 blk:=h.blk
 gb:=h.gb.keep hk h.blk
 part:=h.part
 ok:=⟨aM.bI h.ok.order hk h.ord,h.ok.cap,h.ok.sources,h.ok.clauses,h.ok.size,h.ok.cost⟩
 ord:=h.ord
 cl:=aM.bI h.cl hk h.clf
 clf:=h.clf
 cln:=h.cln
 co:=aM.bI h.co hk h.cof
 cof:=h.cof
 con:=h.con
 ptrs:=h.ptrs.bI hk (by grind [rR.ptf])
 ptf:=h.ptf
 abQ:=h.abQ
 nil:=h.nil
 lay:=h.lay
 two:=h.two
 kind:=h.kind
 lens:=h.lens
theorem rR.mono{T:TypeId}{F G:Nat->Prop}{w:World}{a:Nat}{t:aQ}{p:aH}{n:ah}{bo:Option Addr}{bc:Nat}{bs:List (Nat × aQ)}(h:rR T F w a t p n bo bc bs)(hs:∀ b,b<w.heap.size->F b->G b):rR T G w a t p n bo bc bs where
 blk:=hs _ h.gb.lt h.blk
 gb:=h.gb
 part:=h.part
 ok:=h.ok
 ord:=qE.mono h.ok.order.2 h.ord hs
 cl:=h.cl
 clf:=qE.mono h.cl.2 h.clf hs
 cln:=h.cln
 co:=h.co
 cof:=qE.mono h.co.2 h.cof hs
 con:=h.con
 ptrs:=h.ptrs
 ptf:=by have:=qE.mono h.ptrs.2 (by grind [rR.ptf]) hs;simp_all
 abQ:=h.abQ
 nil:=h.nil
 lay:=h.lay
 two:=h.two
 kind:=h.kind
 lens:=h.lens
theorem nO.bI{T:TypeId}{F:Nat->Prop}{w w':World}(hk:Kept F w w'):∀ {k a:Nat} {t:aQ},nO T F k w a t->nO T F k w' a t
 | 0,_,_,h => h
 | _+1,_,_,⟨p,n,bo,bc,bs,hb,hs⟩ => ⟨p,n,bo,bc,bs,hb.bI hk,λx hx => (hs x hx).bI hk⟩
theorem nO.mono{T:TypeId}{F G:Nat->Prop}{w:World}(hs:∀ b,b<w.heap.size->F b->G b):∀ {k a:Nat} {t:aQ},nO T F k w a t->nO T G k w a t
 | 0,_,_,h => h
 | _+1,_,_,⟨p,n,bo,bc,bs,hb,hx⟩ => ⟨p,n,bo,bc,bs,hb.mono hs,λx h => (hx x h).mono hs⟩
theorem nO.more{T:TypeId}{F:Nat->Prop}{w:World}:∀ {k m a:Nat} {t:aQ},nO T F k w a t->k<=m->nO T F m w a t
 | 0,_,_,_,h,_ => h.elim
 | _+1,0,_,_,_,h => by omega
 | _+1,_+1,_,_,⟨p,n,bo,bc,bs,hb,hx⟩,h => ⟨p,n,bo,bc,bs,hb,λx hm => (hx x hm).more (by omega)⟩
def aT(T:TypeId)(F:Nat->Prop)(w:World)(a:Nat)(t:aQ):Prop:=∃ k,nO T F k w a t
theorem aT.bI{T:TypeId}{F:Nat->Prop}{w w':World}{a:Nat}{t:aQ}(h:aT T F w a t)(hk:Kept F w w'):aT T F w' a t:=h.imp λ_ h=>h.bI hk
theorem aT.mono{T:TypeId}{F G:Nat->Prop}{w:World}{a:Nat}{t:aQ}(h:aT T F w a t)(hs:∀ b,b<w.heap.size->F b->G b):aT T G w a t:=h.imp λ_ h=>h.mono hs
theorem aT.below{T:TypeId}{F:Nat->Prop}{w w':World}{a:Nat}{t:aQ}(h:aT T F w a t)(hb:Bw w w'):aT T F w' a t:=h.bI (Q7 hb λ_ h _=>h)
theorem aT.get{T:TypeId}{F:Nat->Prop}{w:World}{a:Nat}{t:aQ}(h:aT T F w a t):∃ p n bo bc bs,rR T F w a t p n bo bc bs/\∀ x∈bs,aT T F w x.1 x.2:=by
 obtain⟨k,h⟩:=h
 cases k with
 | zero => exact h.elim
 | succ k =>
  grind [nO,aT]
theorem IB{T:TypeId}{F:Nat->Prop}{w:World}:∀ {bs:List (Nat × aQ)},(∀ x∈bs,aT T F w x.1 x.2)->∃ k,∀ x∈bs,nO T F k w x.1 x.2
 | [],_ => ⟨0,λx h => by cases h⟩
 | y::bs,h => by obtain⟨k,hk⟩:=IB λx hx=>h x (ZI _ hx);obtain⟨m,hm⟩:=h y ZJ;refine⟨max k m,λx hx=>?_⟩;grind [nO.more]
theorem aT.intro{T:TypeId}{F:Nat->Prop}{w:World}{a:Nat}{t:aQ}{p:aH}{n:ah}{bo:Option Addr}{bc:Nat}{bs:List (Nat × aQ)}(h:rR T F w a t p n bo bc bs)(hx:∀ x∈bs,aT T F w x.1 x.2):aT T F w a t:=by obtain⟨k,b⟩:=IB hx;exact⟨k+1,p,n,bo,bc,bs,h,b⟩
def ZH:=@aM.bI
theorem VW(size:Nat)(hb:base<=b)(h:w.heap[b]? = some (.cells #[] e (0,0))):w.ownsRow base e size (.slice (some (aD b 0)) 0 0) 0 []:=
 ⟨by simp,.inr ⟨b,0,#[],rfl,hb,h,Qn _,by omega,by simp,by simp⟩⟩
theorem pE{P:Program}(W:World)(t ty e:TypeId)(i:TypeInfo)(z:Value)(size bytes:Nat)(ht:P.underlying t=some (.slice e))(hi:P.info? e=some i)(hz:i.zero=some z)(hsize:i.size=size)(hby:i.bytes=bytes)(hzs:z.cells.size=size)(hsz:0<size)
  (a:Addr) (m c:Nat) (news:List Value) (hl:news.length=m*size) (hnews:∀ j u,news[j]? = some u->∃ b g,some a=some (aD b g)/\W.cell? (aD b (g+j))=some u) (h1:∀ u∈news,u.oneCell' = true) (hm:m<=1000000) (hbb:bytes<=1000) :
  ∃ f w',(Builtin.append_ #[t,t] ty #[.slice (some (aD W.heap.size 0)) 0 0,.slice (some a) m c]).run P (W.alloc (.cells #[] e))=.ok f w'/\w'.ownsRow W.heap.size e size f m news/\Bw W w'/\(∃ a k d,f = .slice a k d):=by
 have l:=fq W (.cells #[] e);obtain⟨f,w',o,n,p,_,_⟩:=Zw (P:=P) (W.alloc (.cells #[] e)) W.heap.size t ty e i z size bytes ht hi hz hsize hby hzs hsz (.slice (some (aD W.heap.size 0)) 0 0) 0 [] (VW size (Qn _) (qH W _)) a m c news hl
  (λj u q=>by grind [addr_add,cB]) h1 (by grind [maxLen]) (by rw[QL]; have:=Nat.mul_le_mul hm hbb; omega) (by simp_all)
 rw[QL,List.nil_append]at n;refine⟨f,w',o,n,l.trans ((Zg (s:=λx=>x<W.heap.size) p (λr e o=>?_)).below (by simp_all) (λ_ h=>h)),Zk n⟩;simp only[Value.ownBlock]at e;simp_all
theorem Es(a:Addr)(cap:Nat)(xs:List Int)(w:World)(hx:aM w (some a) xs)(hl:xs.length<=1000000) :
  Calls Tryz.prog 47 #[.slice (some a) xs.length cap] w λe w'=>∃ v,e=.returned v/\w'.ownsRow w.heap.size 3 1 v xs.length (xs.map (Value.int .i64))/\Bw w w':=by
 obtain⟨n,p,b,d,f⟩:=Zv Tryz.nG;obtain⟨C,w',q,r,s,⟨t,y,z,rfl⟩⟩:=pE (P:=Tryz.prog) w 22 22 3 n (.int .i64 0) 1 8 Tryz.underlying22 p b d f rfl (by decide) a xs.length cap (xs.map (Value.int .i64)) (by simp)
  (λj u A=>by
   rw[ZL]at A;by_cases g:j<xs.length
   ·obtain⟨D,k,e,E⟩:=hx.2 j g
    grind
   grind) (λu B=>by obtain⟨x,_,rfl⟩:=QZ.1 B; rfl) hl (by decide)
 have l:Hid _:=r;have m:=Zh s;have i:∀ W,(binOp .eql 22 (.slice (some a) xs.length cap) (.slice none 0 0)).run Tryz.prog W=.ok (.bool false) W:=λW=>Xj W 22 _ (some a) _ _ _ _ Tryz.underlying22;go_enter Tryz.func47,Tryz.ntmps47;go_wp2_with (first | (at_builtin; refine Zt rfl (.tmp 5) (.tmp 6) 22 rfl (.slice (some (aD w.heap.size 0)) 0 0) (.slice (some a) xs.length cap) (.slice t y z) w' rfl rfl q ?_));go_wp2;go_ret;exact⟨_,rfl,l.o,m.o⟩
theorem Et(w:World):Ce 47 #[.slice none 0 0] w (.slice none 0 0):=by have a:∀ W,(binOp .eql 22 (.slice none 0 0) (.slice none 0 0)).run Tryz.prog W=.ok (.bool true) W:=λW=>Xj W 22 _ none _ _ _ _ Tryz.underlying22;go_enter Tryz.func47,Tryz.ntmps47;go_wp2;go_ret;exact⟨rfl,rfl⟩
theorem qZ(x:ai)(w:World)(hx:x.At w)(hn:x.ad=none->x.cap=0)(hl:x.xs.length<=1000000) :
  Calls Tryz.prog 47 #[x.val] w λe w'=>∃ v,e=.returned v/\w'.ownsRow w.heap.size 3 1 v x.xs.length (x.xs.map (Value.int .i64))/\Bw w w':=by
 obtain⟨f,cap,xs⟩:=x
 cases f with
 | none =>
  obtain rfl:cap=0:=hn rfl;have d:xs=[]:=by
   cases xs with
   | nil => rfl
   | cons x xs => obtain⟨b,g,e,_⟩:=hx.2 0 (by simp); cases e
  subst d;refine(Et w).mono ?_;rintro e w' ⟨rfl,rfl⟩;exact⟨_,rfl,Zu _ _ _ _,Qm _ _⟩
 | some a => exact Es a cap xs w hx hl
structure Env(f:aC)(ts:List af)(q:ae)(W0:World):Prop where
 ok:Ok ts q
 facts:f.At ts q W0
 shapes:dn W0 0
 one:1<=q.src.xs.length
 five:q.src.xs.length<=5
 eight:q.wh.length<=8
 ord:q.group=false->di q.ord.xs q.bA.xs.length=true
 few:q.ord.xs.length<=4
 keys:iM ts q q.keys.xs
 want:q.group=false->iM ts q (jw q)
 an8:q.keys.xs.length<=4
 iX:q.keys.xs.length<=q.keys.cap
 an9:q.keys.ad=none->q.keys.cap=0
def Live(W0:World)(b:Nat):Prop:=∃ o v,W0.cell? (aD b o)=some v
theorem Live.lt(h:Live W0 b):b<W0.heap.size:=by obtain⟨o,v,h⟩:=h;exact Za h
structure Under(W0 w:World):Prop where
 size:W0.heap.size<=w.heap.size
 cell:∀ b o v,W0.cell? (aD b o)=some v->w.cell? (aD b o)=some v
theorem Under.kept(h:Under W0 w){s:Nat->Prop}(hk:Kept s w w')(hs:∀ b,Live W0 b->s b):Under W0 w':=
 ⟨Q6 h.size hk.size,λb o v e=>by
  have a:=h.cell b o v e;rw[Zc (hk.block b (Za a) (hs b ⟨o,v,e⟩))];exact a⟩
theorem Under.cells(h:Under W0 w){f:Nat->Value}(hc:bT W0 ao n f):bT w ao n f:=λi d=>by obtain⟨b,a,e,hc⟩:=hc i d;exact⟨b,a,e,h.cell _ _ _ hc⟩
theorem Under.ints(h:Under W0 w)(hi:aM W0 ao xs):aM w ao xs:=⟨hi.1,h.cells hi.2⟩
theorem Under.aju(h:Under W0 w){xs:List Nat}(hi:gF W0 ao xs):gF w ao xs:=⟨hi.1,h.cells hi.2⟩
theorem Under.aX(h:Under W0 w){cs:List (Nat × Int)}(hi:jf W0 ao cs):jf w ao cs:=⟨hi.1,λi g=>by
 obtain⟨b,a,e,d,f⟩:=hi.2 i g;exact⟨b,a,e,h.cell _ _ _ d,h.cell _ _ _ f⟩⟩
theorem Under.conds(h:Under W0 w){cs:List aI}(hi:bZ W0 ao cs):bZ w ao cs:=⟨hi.1,λi l=>by
 obtain⟨b,a,e,d,f,g,j,k⟩:=hi.2 i l;exact⟨b,a,e,h.cell _ _ _ d,h.cell _ _ _ f,h.cell _ _ _ g,h.cell _ _ _ j,h.cell _ _ _ k⟩⟩
theorem Under.query(h:Under W0 w)(hq:q.At W0):q.At w:=
 ⟨h.ints hq.src,⟨hq.wh.1,h.cells hq.wh.2.1,λi a=>h.conds (hq.wh.2.2 i a)⟩,h.ints hq.keys,h.ints hq.sums,h.ints hq.bA,h.ints hq.ord⟩
theorem Under.facts(h:Under W0 w)(hf:f.At ts q W0):f.At ts q w:=
 ⟨h.query hf.query,h.aX hf.aX,h.aju hf.rows,h.aju hf.conc,h.aju hf.parts,hf.nl,hf.pl⟩
structure Fz(F:Nat->Prop)(W0 w:World):Prop where
 below:Under W0 w
 low:∀ b,Live W0 b->F b
 high:∀ b,w.heap.size<=b->F b
theorem Fz.next(h:Fz F W0 w)(hb:Bw w w'):Fz F W0 w':=
 ⟨h.below.kept (Q7 (s:=λb=>b<w.heap.size) hb (λ_ h _=>h)) (λ_ hb=>QH hb.lt h.below.size),h.low,λb a=>h.high b (Q6 hb.size a)⟩
theorem Env.at'(E:Env f ts q W0)(h:Fz F W0 w):f.At ts q w:=h.below.facts E.facts
structure RF(F:Nat->Prop)(w:World)(n:ah):Prop where
 cl:n.cl.At w
 clf:qE F n.cl.ad n.cl.xs.length
 cln:n.cl.ad=none->n.cl.cap=0
 co:n.co.At w
 cof:qE F n.co.ad n.co.xs.length
 con:n.co.ad=none->n.co.cap=0
 cap:n.co.xs.length<=n.co.cap
 clb:n.cl.xs.length<=1000
 cob:n.co.xs.length<=1000
structure yn(F:Nat->Prop)(w:World)(a:Nat)(p:aH):Prop where
 c0:w.cell? (aD a 0)=some (.int .i64 p.kind)
 c1:w.cell? (aD a 1)=some (.int .u64 (p.sources:Int))
 c2:w.cell? (aD a 2)=some (.int .u64 (p.clauses:Int))
 c3:w.cell? (aD a 3)=some p.order.val
 c4:w.cell? (aD a 4)=some (.int .u64 (p.size:Int))
 c5:w.cell? (aD a 5)=some (.int .u64 (p.cost:Int))
 ok:p.Ok w
 ord:qE F p.order.ad p.order.xs.length
theorem rR.mg{p:aH}{n:ah}{bo:Option Addr}{bc:Nat}{bs:List (Nat × aQ)}(h:rR T F w a t p n bo bc bs):yn F w a p:=
 ⟨h.gb.cell 0,h.gb.cell 1,h.gb.cell 2,h.gb.cell 3,h.gb.cell 4,h.gb.cell 5,h.ok,h.ord⟩
theorem yn.below{F:Nat->Prop}{w w':World}{a:Nat}{p:aH}(h:yn F w a p)(hb:Bw w w'):yn F w' a p:=
 ⟨cB hb h.c0,cB hb h.c1,cB hb h.c2,cB hb h.c3,cB hb h.c4,cB hb h.c5,h.ok.below hb,h.ord⟩
theorem aT.mg{T:TypeId}{F:Nat->Prop}{w:World}{a:Nat}{t:aQ}(h:aT T F w a t):∃ p,yn F w a p/\p.d=t.d:=by obtain⟨p,n,bo,bc,bs,b,_⟩:=h.get;exact⟨p,b.mg,b.part⟩
theorem Mx{T:TypeId}{F:Nat->Prop}{w:World}:∀ {bs:List (Nat × aQ)},(∀ x∈bs,aT T F w x.1 x.2)->∃ ps:List aH,ps.length=bs.length/\∀ i,i<bs.length->yn F w ((bs.map Prod.fst).getD i 0) (ps.getD i bE)/\(ps.getD i bE).d=((bs.map Prod.snd).getD i pK).d
 | [],_ => ⟨[],rfl,λi hi => by simp at hi⟩
 | x::bs,h => by
  obtain⟨ps,hl,hp⟩:=Mx λy hy=>h y (ZI _ hy);obtain⟨p,hp0,hd⟩:=(h x ZJ).mg;refine⟨p::ps,by simp[hl],λi hi=>?_⟩
  cases i with
  | zero => exact⟨hp0,hd⟩
  | succ i => exact hp i (by simpa using hi)
theorem ajv{bs:List aQ}{ps:List aH}(hl:ps.length=bs.length)(h:∀ i,i<bs.length->(ps.getD i bE).d=(bs.getD i pK).d)(i:Nat):(ps.getD i bE).d=(bs.getD i pK).d:=by
 by_cases a:i<bs.length
 ·exact h i a
 ·rw[Xo,Xi (by omega),Xo,Xi (by omega)];rfl
theorem Ev{α:Type}(l:List α)(d:α){i:Nat}(hi:i<l.length):l.take (i+1)=l.take i++[l.getD i d]:=by rw[List.take_add_one,Xr hi,Xo,Xr hi];rfl
theorem nS{xs:List Nat}(h:w.ownsRow base e 1 v n (xs.map λx=>Value.pointer (some (aD x 0))))(hl:xs.length<=1000000) :
  ∃ d cap,v=.slice d xs.length cap/\ed w d xs/\xs.length<=cap/\(d=none->cap=0)/\∀ a,d=some a->base<=a.block:=by
 have j:n=xs.length:=by have:=h.1; rw[QQ]at this; omega
 subst j;rcases h.2 with⟨rfl,h1⟩ | ⟨g,cap,cur,rfl,hb,hh,hc,_,_,ht⟩
 ·have:=Xt.1 h1;subst this;exact⟨none,0,rfl,⟨by simp,λi f=>by simp at f⟩,by simp,λ_=>rfl,λa e=>by cases e⟩
 ·refine⟨some (aD g 0),cap,rfl,⟨hl,λi f=>⟨g,0,rfl,?_⟩⟩,hc,(λe=>by cases e),(λa e=>by cases e; exact hb)⟩;have b:(xs.map λx=>Value.pointer (some (aD x 0)))[i]? = some (.pointer (some (aD (xs.getD i 0) 0))):=by grind
  rw[<- ht,Zm]at b;split at b
  ·rw[QL];simp only[World.cell?,hh]
   simpa using b
  ·cases b
theorem Tryz.rU:(Tryz.prog.info? 95).map (λi=>(i.zero,i.size,i.bytes))=some (some (.pointer none),1,8):=by kernel_rfl
theorem zQ(W:World)(base:Nat)(v:Value)(xs:List Nat)(hown:W.ownsRow base 95 1 v xs.length (xs.map λx=>Value.pointer (some (aD x 0))))(hl:xs.length<=1000)(hb:base<=W.heap.size)(a:Nat)(ty:TypeId) :
  ∃ d w',(Builtin.append_ #[133,133] ty #[v,.slice (some (aD W.heap.size 0)) 1 1]).run Tryz.prog (W.alloc (.cells #[.pointer (some (aD a 0))] 95))=.ok d w'/\
   w'.ownsRow base 95 1 d (xs++[a]).length ((xs++[a]).map λx=>Value.pointer (some (aD x 0)))/\Kept (λb=>v.ownBlock≠some b) W w'/\(∃ a m c,d = .slice a m c)/\(d.ownBlock=v.ownBlock∨d.ownBlock=some (W.heap.size+1)):=by
 obtain⟨j,k,e,f,g⟩:=Zv Tryz.rU;obtain⟨d,w',n,o,p,q,l⟩:=jX (P:=Tryz.prog) W base 133 ty 95 j _ 1 8 Tryz.underlying133 k e f g rfl (by decide) v xs.length _ hown hb [.pointer (some (aD a 0))] rfl (λu i=>by
  rw[Zy]at i;rw[i];rfl) hl (by decide)
 grind
theorem Ew(a:Addr)(cap:Nat)(xs:List Nat)(w:World)(hx:ed w (some a) xs) :
  Calls Tryz.prog 120 #[.slice (some a) xs.length cap] w λe w'=>∃ v,e=.returned v/\w'.ownsRow w.heap.size 95 1 v xs.length (xs.map λx=>Value.pointer (some (aD x 0)))/\Bw w w':=by
 obtain⟨n,p,b,d,f⟩:=Zv Tryz.rU;obtain⟨C,w',q,r,s,⟨t,y,z,rfl⟩⟩:=pE (P:=Tryz.prog) w 133 133 95 n (.pointer none) 1 8 Tryz.underlying133 p b d f rfl (by decide) a xs.length cap (xs.map λx=>Value.pointer (some (aD x 0))) (by simp)
  (λj u A=>by
   rw[ZL]at A;by_cases g:j<xs.length
   ·obtain⟨D,k,e,E⟩:=hx.2 j g
    grind
   grind) (λu B=>by obtain⟨x,_,rfl⟩:=QZ.1 B; rfl) hx.1 (by decide)
 have l:Hid _:=r;have m:=Zh s;have i:∀ W,(binOp .eql 133 (.slice (some a) xs.length cap) (.slice none 0 0)).run Tryz.prog W=.ok (.bool false) W:=λW=>Xj W 133 _ (some a) _ _ _ _ Tryz.underlying133;go_enter Tryz.func120,Tryz.ntmps120;go_wp2_with (first | (at_builtin; refine Zt rfl (.tmp 5) (.tmp 6) 133 rfl (.slice (some (aD w.heap.size 0)) 0 0) (.slice (some a) xs.length cap) (.slice t y z) w' rfl rfl q ?_));go_wp2;go_ret;exact⟨_,rfl,l.o,m.o⟩
theorem Ex(w:World):Ce 120 #[.slice none 0 0] w (.slice none 0 0):=by have a:∀ W,(binOp .eql 133 (.slice none 0 0) (.slice none 0 0)).run Tryz.prog W=.ok (.bool true) W:=λW=>Xj W 133 _ none _ _ _ _ Tryz.underlying133;go_enter Tryz.func120,Tryz.ntmps120;go_wp2;go_ret;exact⟨rfl,rfl⟩
theorem GK(bo:Option Addr)(bc:Nat)(xs:List Nat)(w:World)(hx:ed w bo xs)(hn:bo=none->bc=0) :
  Calls Tryz.prog 120 #[.slice bo xs.length bc] w λe w'=>∃ v,e=.returned v/\w'.ownsRow w.heap.size 95 1 v xs.length (xs.map λx=>Value.pointer (some (aD x 0)))/\Bw w w':=by
 cases bo with
 | none =>
  obtain rfl:bc=0:=hn rfl;have d:xs=[]:=by
   cases xs with
   | nil => rfl
   | cons x xs => obtain⟨b,f,e,_⟩:=hx.2 0 (by simp); cases e
  subst d;refine(Ex w).mono ?_;rintro e w' ⟨rfl,rfl⟩;exact⟨_,rfl,Zu _ _ _ _,Qm _ _⟩
 | some a =>
  exact Ew a bc xs w hx
def Xq:=@Ev
theorem Ey(E:Env f ts q W0)(hz:Fz F W0 w)(n:ah)(hn:RF F w n)(bo:Option Addr)(bc:Nat)(bs:List (Nat × aQ))(hp:ed w bo (bs.map Prod.fst))(hnil:bo=none->bc=0)
  (hbs:∀ x∈bs,aT 135 F w x.1 x.2/\kN q x.2) (hl:bs.length=arity n.kind) (hk1:1<=n.kind) (hk10:n.kind<=10) (hsm:bu q.wh.length n.cl.xs) (hsr:n.kind=1->0<=n.source/\n.source<q.src.xs.length) :
  Calls Tryz.prog 80 #[.agg (f.cells ts q),.agg n.cells,.slice bo bs.length bc] w λe w'=>∃ a,e=.returned (.pointer (some (aD a 0)))/\aT 135 F w' a (ay ts q n (bs.map Prod.snd))/\w.heap.size<=a/\a<w'.heap.size/\Bw w w':=by
 obtain⟨ps,D,G⟩:=Mx (λx r=>(hbs x r).1);have N:bs.length<=2:=by rw[hl]; unfold arity; split <;> (try split) <;> omega
 have l:(bs.map Prod.fst).length=bs.length:=QQ _;have hd:=ajv (bs:=bs.map Prod.snd) (ps:=ps) (by rw[D,QQ]) (λi M=>(G i (by rw[QQ]at M; exact M)).2);have aa:∀ i,i<ps.length->(ps.getD i bE).sources<2 ^ q.src.xs.length/\(ps.getD i bE).clauses<2 ^ q.wh.length:=λi M=>by have e:=hd i;have hm:(bs.map Prod.snd).getD i pK∈bs.map Prod.snd:=Zr (by rw[QQ]; omega);obtain⟨x,r,aP⟩:=QZ.1 hm;have ht:=(hbs x r).2;rw[aP]at ht;have e1:(ps.getD i bE).sources=((bs.map Prod.snd).getD i pK).d.sources:=congrArg bK.sources e;have e2:(ps.getD i bE).clauses=((bs.map Prod.snd).getD i pK).d.clauses:=congrArg bK.clauses e;rw[e1,e2];exact⟨ht.src,ht.cls⟩
 -- what is called
 have MC:Hid (∀ (x:World) (a:Option Addr) (c:Nat),Bw w x->PartsAt x a ps->Calls Tryz.prog 66 #[.agg (f.cells ts q),.agg n.cells,.slice a ps.length c] x λe w'=>∃ p:aH,e=.returned (.agg p.cells)/\p.d=(ay ts q n (bs.map Prod.snd)).d/\p.Ok w'/\qE F p.order.ad p.order.xs.length/\Bw x w'):=λx a c r I=>by
  refine(Ep f ts q n a c ps x E.ok ((E.at' hz).below r) (Ql r hn.cl) (Ql r hn.co) hn.cap I hk1 hk10 (by rw[D,hl]) hsm hsr aa).mono ?_;rintro e w' ⟨p,he,X,s,_,_,xe,Y⟩;refine⟨p,he,by rw[X,hd 0,hd 1]; rfl,s,?_,Y⟩;rcases xe with h | h | h
  ·rw[h]; exact hn.cof
  ·rw[h];by_cases h0:0<bs.length
   ·exact(G 0 h0).1.ord
   ·have:ps.getD 0 bE=bE:=by grind
    rw[this];intro h; exact absurd h (by decide)
  ·rw[h];intro h; exact absurd h (by decide)
 have Gs:Hid (∀ x:World,Bw w x->Calls Tryz.prog 120 #[.slice bo bs.length bc] x λe w'=>∃ v,e=.returned v/\w'.ownsRow x.heap.size 95 1 v bs.length ((bs.map Prod.fst).map λx=>Value.pointer (some (aD x 0)))/\Bw x w'):=λx r=>by have:=GK bo bc (bs.map Prod.fst) x (hp.below r) hnil;rw[l]at this;exact this
 have mR:Hid (∀ (x:World) (a:Nat) (p:aH) (v:Value) (y:World),x.heap.size=a->w.heap.size<=y.heap.size->Bw w y->Bw y x->p.d=(ay ts q n (bs.map Prod.snd)).d->p.Ok x->qE F p.order.ad p.order.xs.length->x.ownsRow y.heap.size 95 1 v bs.length ((bs.map Prod.fst).map λx=>Value.pointer (some (aD x 0)))->
   aT 135 F (x.alloc (.cells (IA p n v) 135)) a (ay ts q n (bs.map Prod.snd))/\Bw w (x.alloc (.cells (IA p n v) 135))):=by intro x a p v y aK aL aZ bg X s J hv;subst aK;obtain⟨ao,cap,rfl,aR,au,aS,av⟩:=nS hv (by rw[l]; omega);rw[l]at au ⊢;have O:Bw w x:=aZ.trans (bg.mono aL);have P:=fq x (.cells (IA p n (.slice ao bs.length cap)) 135);have g:Bw w (x.alloc (.cells (IA p n (.slice ao bs.length cap)) 135)):=O.trans (P.mono O.size);refine⟨aT.intro (p:=p) (n:=n) (bo:=ao) (bc:=cap) (bs:=bs) ?_ (λz bq=>(hbs z bq).1.below g),g⟩;exact { blk:=hz.high _ O.size,gb:=qH _ _,part:=X,ok:=s.below P,ord:=J,cl:=Ql g hn.cl,clf:=hn.clf,cln:=hn.cln,co:=Ql g hn.co,cof:=hn.cof,con:=hn.con,ptrs:=aR.below P,ptf:=λ_ a e=>hz.high _ (Q6 aL (av a e)),abQ:=au,nil:=aS,lay:=(by show sM n ((bs.map Prod.snd).map aQ.ns)=_; rw[Xu]; rfl),two:=N,kind:=⟨hk1,hk10⟩,lens:=⟨hn.clb,hn.cob⟩ }
 have UH:Hid (ed w bo (bs.map Prod.fst)):=hp;have Q:Hid (∀ i,i<bs.length->yn F w ((bs.map Prod.fst).getD i 0) (ps.getD i bE)):=λi M=>(G i M).1;have ag:Hid (∀ i,i<bs.length->ps.take (i+1)=ps.take i++[ps.getD i bE]):=λi M=>Xq ps bE (by omega);have CO:Hid (ps.length=bs.length):=D;have bz:Hid (bs.length<=2):=N;have zk:Hid ((bs.map Prod.fst).length=bs.length):=l;have bA:bs.length<=1000:=by omega
 clear aa hd G D hp hnil hbs hl hk1 hk10 hsm hsr hn hz E N l;generalize ay ts q n (bs.map Prod.snd)=GT at *;obtain⟨kind,Z,nr,src,⟨ca,cc,cl⟩,key,⟨da,dc,co⟩⟩:=n;obtain⟨v0,v1,v2,v3,v4,v5,v6,v7,v8,v9,t,u,A,bR,-⟩:=Z6 f ts q;rw[bR]at MC ⊢;clear bR;simp only[ah.cells,ai.val,IA]at *;generalize bs.map Prod.fst=bf at *;generalize bs.length=bl at *;clear bs;obtain⟨w1,aU,ax,T⟩:=bn w #[v0,v1,v2,v3,v4,v5,v6,v7,v8,v9,t,u,A] 68;obtain⟨H,aV,U,az⟩:=bn w1 #[.int .i64 kind,.int .i64 Z,.int .i64 nr,.int .i64 src,.slice ca cl.length cc,.int .i64 key,.slice da co.length dc] 75;have fH:GB H w.heap.size 68 #[v0,v1,v2,v3,v4,v5,v6,v7,v8,v9,t,u,A]:=T.of (U.block _ T.lt);have uk:Hid (GB H w.heap.size 68 #[v0,v1,v2,v3,v4,v5,v6,v7,v8,v9,t,u,A]):=fH;have R:Hid (GB H w1.heap.size 75 #[.int .i64 kind,.int .i64 Z,.int .i64 nr,.int .i64 src,.slice ca cl.length cc,.int .i64 key,.slice da co.length dc]):=az;have aM:Hid (Bw w H):=aF ax U;clear ax U T az fH;go_enter Tryz.func80,Tryz.ntmps80;go_wp2;clear aU aV;go_loopw [7,12] (λpv iv wr=>∃ k:Nat,k<=bl/\iv=.int .i64 (k:Int)/\Hid (wr.ownsRow H.heap.size 73 6 pv (ps.take k).length ((ps.take k).flatMap aH.list))/\Hid (Bw H wr)) (λ_ iv _=>bl-(intOf iv).toNat)
 case atStart=>exact⟨0,QK _,rfl,Zu _ _ _ _,Qm _ _⟩
 case round=>
  obtain⟨k,hk,rfl,V,W⟩:=hrel;have g:Bw w wr:=aF aM.o W.o;by_cases C:k<bl
  ·obtain⟨bb,RG,rfl,aA⟩:=ed.get (UH.o.below g) (i:=k) (by rw[zk.o]; exact C);have aj:=aA k (by rw[zk.o]; exact C);have hP:=(Q.o k C).below g;have UI:Hid _:=ag.o k C;obtain⟨p,hp⟩:=eY (ps.getD k bE)
   rw[<- hp]at hP UI;obtain⟨pa,I⟩:∃ a,a=bf.getD k 0:=⟨_,rfl⟩;rw[<- I]at hP aj;obtain⟨c0,c1,c2,c3,c4,c5,-,-⟩:=hP;obtain⟨qa,qm,qc,rfl⟩:=Zk V.o;have ak:H.heap.size<=wr.heap.size:=W.o.size;obtain⟨v',w5,qA,pF,aB,⟨xa,xm,xc,rfl⟩,aW⟩:=Bz wr H.heap.size (.slice qa qm qc) (ps.take k) V.o (by rw[ZZ]; omega) ak p 69;rw[<- UI.o]at pF;have xY:Hid _:=pF;have jl:Hid (Bw H w5):=W.o.trans (aB.below ak (λb Y e=>by have:=(Zj V.o e).1; omega));obtain⟨pk,ss,cs,⟨oa,nJ,ox⟩,pz,pt⟩:=p;simp only[aH.cells,ai.val]at *;clear hp pF aB aW aA I UI V W g;go_wp2_with (first | (at_builtin; refine Zt rfl (.tmp 16) (.tmp 21) 69 rfl (.slice qa qm qc) (.slice (some (aD wr.heap.size 0)) 1 1) (.slice xa xm xc) w5 rfl rfl qA ?_));clear qA c0 c1 c2 c3 c4 c5 aj;go_wp2;go_roundw
   case rel=>exact⟨k+1,by omega,by go_num,xY.o,jl.o⟩
   case measure=>simp[intOf]; omega
  ·have aN:bl=k:=by omega
   subst aN;rw[ZT (by rw[CO.o]; exact Qn _)]at V;obtain⟨w3,aX⟩:∃ x,x=wr:=⟨_,rfl⟩;subst aX;obtain⟨qa,qc,rfl,aG⟩:=Bp V.o (by rw[CO.o]; omega) (λi M=>((Q.o i (by rw[CO.o]at M; exact M)).below g).ok);have aO:Hid (PartsAt w3 qa ps):=aG;have m:Hid _:=g;have gA:GB w3 w.heap.size 68 #[v0,v1,v2,v3,v4,v5,v6,v7,v8,v9,t,u,A]:=uk.o.of (W.o.block _ uk.o.lt);have gN:GB w3 w1.heap.size 75 #[.int .i64 kind,.int .i64 Z,.int .i64 nr,.int .i64 src,.slice ca cl.length cc,.int .i64 key,.slice da co.length dc]:=R.o.of (W.o.block _ R.o.lt);obtain⟨a0,a1,a2,a3,a4,a5,a6,a7,a8,a9,ji,jE,aY⟩:=gA.k13;obtain⟨n0,n1,n2,n3,n4,n5,n6⟩:=gN.k7;rw[CO.o]at MC ⊢;clear aG g V W uk R gA gN Q ag UH C hk;go_wp2_with fail;refine wH w3 λj=>?_;refine wT 0 (.agg #[v0,v1,v2,v3,v4,v5,v6,v7,v8,v9,t,u,A]) j (λx r=>?_) ?_
   ·have e0:=l7 r a0 a1 a2 a3 a4 a5 a6 a7 a8 a9 ji jE aY;go_simp
   refine wT 1 (.agg #[.int .i64 kind,.int .i64 Z,.int .i64 nr,.int .i64 src,.slice ca cl.length cc,.int .i64 key,.slice da co.length dc]) j (λx r=>?_) ?_
   ·have e0:=LA r n0 n1 n2 n3 n4 n5 n6;go_simp
   refine wt 2 (.slice qa bl qc) j ?_;refine wT 4 (.agg #[.int .i64 kind,.int .i64 Z,.int .i64 nr,.int .i64 src,.slice ca cl.length cc,.int .i64 key,.slice da co.length dc]) j (λx r=>?_) ?_
   ·have e0:=LA r n0 n1 n2 n3 n4 n5 n6;go_simp
   refine wt 5 (.slice bo bl bc) j ?_;refine wR 3 λK B=>?_;go_simp;refine Z5 (MC.o _ qa qc (m.o.trans (j.mono m.o.size)) (ZC j aO.o)) ?_;rintro e w4 ⟨p,rfl,X,s,J,Y⟩;have S:=j.trans (Y.mono j.size);obtain⟨pk,aI,pc,⟨oa,nJ,ox⟩,pz,pt⟩:=p;simp only[aH.cells,ai.val]at *;refine oT B j Y λj=>?_;clear B K;refine wR 6 λK B=>?_;go_simp;refine Z5 (Gs.o _ (m.o.trans (j.mono m.o.size))) ?_;rintro e w5 ⟨v,rfl,hv,L⟩;have jG:=j.trans (L.mono j.size);obtain⟨va,vn,vc,rfl⟩:=Zk hv;refine B.o _ _ jG λj=>?_;clear B K;refine wt 7 (.agg #[.int .i64 pk,.int .u64 (aI:Int),.int .u64 (pc:Int),.slice oa ox.length nJ,.int .u64 (pz:Int),.int .u64 (pt:Int),.int .i64 kind,.int .i64 Z,.int .i64 nr,.int .i64 src,.slice ca cl.length cc,.int .i64 key,.slice da co.length dc,.slice va vn vc]) j ?_;refine wR 8 λK B=>?_;go_simp;refine oA B j λj=>?_;clear B K;refine wR 9 λK B=>?_;go_simp;refine B.o _ _ j λj=>?_;clear B K;refine wD ?_;try simp only[pU]
   obtain⟨hT,aJ⟩:=mR.o w5 w5.heap.size ⟨pk,aI,pc,⟨oa,nJ,ox⟩,pz,pt⟩ (.slice va vn vc) w4 rfl (Q6 m.o.size S.size) (m.o.trans (S.mono m.o.size)) L X (s.below L) J hv;have HT:Hid _:=hT;have jF:Hid _:=aJ;have UJ:Hid (w.heap.size<=w5.heap.size):=Q6 m.o.size jG.size;clear hT aJ X s J Y S hv L jG j;go_wp2;go_ret;exact⟨_,rfl,HT.o,UJ.o,by simp,jF.o⟩
theorem ab8(ok:Ok ts q)(k:Nat):(aN ts q).getD k 0<18446744073709551616:=by
 by_cases a:k<q.wh.length
 ·rw[Bn ts q a];exact QH (nD (n:=q.src.xs.length) (nE ok.cat ok.src (ok.aX k a))) (QI (n:=2) (by omega) ok.small)
 ·rw[Xo,Xi (by rw[ZB]; omega)];simp
theorem CQ(f:aC)(ts:List af)(q:ae)(s:Nat)(w:World)(ok:Ok ts q)(hf:f.At ts q w)(hs:s<18446744073709551616) :
  Cb 135 #[.agg (f.cells ts q),.int .u64 (s:Int)] w (.int .u64 ((aY (aN ts q) s:Nat):Int)):=by
 obtain⟨J,Z,l,hg⟩:=bn w ((f.cells ts q)) 68;have u:=hg.at 11;have v:f.nl=(aN ts q).length:=by rw[ZB]; exact hf.nl
 rw[v]at u;have g:=hf.conc.below l;have O:=g.1;have P:Hid _:=g;have Q:(aN ts q).length<=64:=by rw[ZB]; exact ok.oG
 have y:Hid (∀ k x,Ce 83 #[.int .u64 (s:Int),.int .u64 (((aN ts q).getD k 0:Nat):Int)] x (.bool (aU s ((aN ts q).getD k 0)))):=λk x=>mQ s _ hs (ab8 ok k) x;have S:Hid (∀ k,k<=64->gX (aN ts q) s k<18446744073709551616):=λk K=>QH (jL _ _ k) (QI (n:=2) (by omega) K);have z:Hid (∀ k,gX (aN ts q) s (k+1)=if aU s ((aN ts q).getD k 0)=true then gX (aN ts q) s k|||2 ^ k else gX (aN ts q) s k):=λk=>rfl;have A:Hid (gX (aN ts q) s 0=0):=rfl;have C:Hid (gX (aN ts q) s (aN ts q).length=aY (aN ts q) s):=rfl;have T:=Zh l;generalize aY (aN ts q) s=R at *;generalize gX (aN ts q) s=WT at *;generalize f.cells ts q=FC at *;generalize aN ts q=CN at *;obtain⟨aa,ag,ah,ai,aj,ak,au,av,ax,ay⟩:=f;simp only at *;go_enter Tryz.func135,Tryz.ntmps135;go_wp2;go_loopw [5,11] (λsv iv wr=>∃ k:Nat,k<=CN.length/\iv=.int .i64 k/\(∃ m:Nat,sv=.int .u64 (m:Int)/\Hid (m=WT k))/\Bw J wr) (λ_ iv _=>CN.length-(intOf iv).toNat)
 case atStart=>exact⟨0,QK _,rfl,⟨0,rfl,A.o.symm⟩,Qm _ _⟩
 case round=>
  obtain⟨k,K,rfl,⟨m,rfl,F⟩,a⟩:=hrel;by_cases r:k<CN.length
  ·obtain⟨xb,xo,rfl,G⟩:=gF.get P.o r;have U:=cB a (G k r);have b:=y.o k wr;have t:=Zh (z.o k);have D:m<18446744073709551616:=by rw[F.o]; exact S.o k (by omega)
   rw[<- F.o]at t;generalize CN.getD k 0=c at *;obtain⟨B,hB⟩:=eX (aU s c);rw[hB]at b t;have i:k<64:=by omega
   cases B with
   | true =>
    have j:Hid (WT (k+1)=m|||2 ^ k):=t.o;obtain⟨H,L⟩:∃ x,wr.alloc (.cells #[.int .i64 (k:Int)] 3)=x:=⟨_,rfl⟩;have V:=vS wr.heap.size k H (by rw[<- L]; simp) i;obtain⟨M,d⟩:∃ x,H.alloc (.cells #[.int .u64 (m:Int),.int .u64 ((2 ^ k:Nat):Int)] 64)=x:=⟨_,rfl⟩;have W:2 ^ k<18446744073709551616:=ZN (n:=64) (by omega) i;have E:=kW H.heap.size m (2 ^ k) M (by rw[<- d]; simp) (by rw[<- d]; simp) D W;have I:Hid (Bw J M):=by show Below _ _ _;rw[<- d,<- L];exact aF (aF a (fq _ _)) (fq _ _)
    generalize 2 ^ k=p at *;go_wp2_with fail;refine b.mono ?_;rintro e N ⟨rfl,rfl⟩;go_wp2_with fail;refine V.mono ?_;rintro e N ⟨rfl,rfl⟩;go_wp2_with fail;refine E.mono ?_;rintro e w3 ⟨rfl,rfl⟩;go_wp2;go_roundw
    case rel=>exact⟨k+1,by omega,by go_num,⟨m|||p,rfl,j.o.symm⟩,I.o⟩
    case measure=>simp[intOf]; omega
   | false =>
    have j:Hid (WT (k+1)=m):=t.o;have I:=Zh a;go_wp2_with fail;refine b.mono ?_;rintro e N ⟨rfl,rfl⟩;go_wp2;go_roundw
    case rel=>grind
    case measure=>simp[intOf]; omega
  ·obtain rfl:k=CN.length:=by omega
   have X:=Zh (F.o.trans C.o);have Y:=Zh a;go_wp2;go_ret;exact⟨Qe (by rw[X.o]),aF T.o Y.o⟩
section
structure afw(w2:World)(t e:TypeId)(pre:List Nat)(o1:Nat->Prop)(W:World):Prop where
 ex:∃ v,GB W w2.heap.size t #[v]/\W.ownsRow (w2.heap.size+1) e 1 v pre.length (pre.map λn:Nat=>Value.int .i64 (n:Int))/\(∀ b,o1 b↔b=w2.heap.size∨v.ownBlock=some b)
 below:Bw w2 W
theorem afw.keep{w2:World}{t e:TypeId}{pre:List Nat}{o1:Nat->Prop}{A B:World}{n:Nat}(h:afw w2 t e pre o1 A)(hn:w2.heap.size<=n)(hk:Kept (λb=>o1 b∨b<n) A B):afw w2 t e pre o1 B:=by obtain⟨v,a,f,d⟩:=h.ex;exact⟨⟨v,a.keep hk (.inl ((d _).2 (.inl rfl))),Zi f hk (λg a=>.inl ((d g).2 (.inr a))),d⟩,h.below.trans (hk.below h.below.size (λb i=>.inr (by omega)))⟩
attribute [local go_sem] Oper.semAt_some
theorem GL(s:Nat)(hs:s<18446744073709551616)(w:World) :
  Calls Tryz.prog 158 #[.slice none 0 0,.func (.func 51) #[.int .u64 (s:Int)] #[]] w λe w'=>∃ v,e=.returned v/\w'.ownsRow w.heap.size 3 1 v (cZ s).length ((cZ s).map (Value.int .i64))/\Bw w w':=by
 obtain⟨i0,hi,V,X,Y⟩:=Zv Tryz.nG;have P:=Zh (sO s hs);have zk:Hid ((bB s).length<=64):=by show _<=_;unfold bB;grind
 have HE:Hid ((cZ s).map (Value.int .i64)=(bB s).map λn:Nat=>Value.int .i64 (n:Int)):=by show _=_;unfold cZ;rw[Xu];rfl
 have Q:Hid ((cZ s).length=(bB s).length):=by show _=_;unfold cZ;rw[QQ]
 generalize bB s=RS at *;obtain⟨N,Z,aa,ae⟩:=bn w #[.slice none 0 0] 22;have q:Hid (N.heap.size=w.heap.size+1):=by rw[<- Z]; show _=_; simp
 have uh:=Zh aa;have uk:Hid _:=ae;refine(Z9 (n:=0)).1 (callsIn_of_wp_marks Tryz.func158 rfl trivial ?_ rfl);simp only[Tryz.ntmps158,List.size_toArray,QV,Xa,Nat.reduceAdd,Nat.reduceSub,Array.replicate_succ,Array.replicate_zero,List.push_toArray,List.append_toArray,List.nil_append,List.cons_append];gi_wp2;refine vT lX (gf:=51) (s:=.int .u64 (s:Int)) rfl (enters_of Tryz.func51 (by kernel_rfl) rfl) (P.o w) uh.o rfl
  (λpre o1 W=>afw w 22 3 pre o1 W) (λb=>b=w.heap.size) ?_ ?_ ⟨⟨.slice none 0 0,uk.o,Zu _ _ _ _,λb=>by simp[Value.ownBlock]⟩,uh.o⟩
  (λx=>{ tmps:=#[.slice none 0 0,.func (.func 51) #[.int .u64 (s:Int)] #[],.pointer (some (aD w.heap.size 0)),undef,.slice none 0 0,.int .i64 (x:Int),.func (.func 51) #[.int .u64 (s:Int)] #[],.int .i64 (x:Int),undef,undef,undef,undef,undef],defers:=[] }) ?assign ?body ?done
 ·rintro b rfl;exact⟨Qn _,by have:=q.o; omega⟩
 ·intro pre o1 A B h hk;exact h.keep (by have:=q.o; omega) hk
 case assign=>
  intro l x W K hK;have he:lX.enc x=.int .i64 (x:Int):=rfl;gi_wp2;exact hK
 case body=>
  intro l pre x o1 W L M _ _ az;have ah:pre.length+1<=64:=by have:=M.length_le;rw[QQ,QP]at this;exact Q6 this zk.o
  obtain⟨⟨v,y,a,GM⟩,J⟩:=L;obtain⟨va,vn,vc,rfl⟩:=Zk a;have hc:=y.at 0;have ai:=J.size;have sI:=Zh y;have d:Hid _:=a;have F:=Zh GM;have jo:=Zh J;have R:=q.o;gi_wp2_with (gi_at_builtin; refine wpListIn_append_own_at _ rfl _ _ 22 rfl (w.heap.size+1) 3 i0 (.int .i64 0) 1 8 Tryz.underlying22 hi V X Y rfl (by decide) _ _ _ rfl (a.alloc _) (aD W.heap.size 0) 1 1 [.int .i64 (x:Int)] rfl rfl ?q1 ?q2 ?q3 ?q4 ?q5 ?_)
  case q1=>
   intro j u O
   match j,O with
   | 0,O => simp at O; subst O; simp[Addr.add]
  case q2=>intro u hu; simp at hu; subst hu; rfl
  case q3=>unfold maxLen; omega
  case q4=>omega
  case q5=>simp; omega
  intro v' E p z _ ag;obtain⟨f,i,k,rfl⟩:=Zk p;have G:Kept (λb=>(Value.slice va vn vc).ownBlock≠some b) W E:=(Q9 _ _).trans (Zg z (λr e hr=>hr e));have S:(Value.slice va vn vc).ownBlock≠some w.heap.size:=λe=>by have:=(Zj d.o e).1;omega
  have C:=sI.o.keep G S;have aj:=C.at 0;have ak:=C.frozen 0;have Du:=Zh C;have xE:=Zh G;have H:Hid _:=p;have au:=Zh ag;gi_wp2;have D:Kept (λb=>b≠w.heap.size) E (E.setCell (aD w.heap.size 0) (.slice f i k)):=Zf _ _ _ (λh=>h rfl);have T:∀ b,(Value.slice f i k).ownBlock=some b->w.heap.size+1<=b/\b<E.heap.size:=λb e=>Zj H.o e;refine⟨λb=>b=w.heap.size∨(Value.slice f i k).ownBlock=some b,⟨⟨.slice f i k,Du.o.set 0 _,?_,λb=>Iff.rfl⟩,?_⟩,?_,?_⟩
  ·have:=Zi H.o D (λg hg=>by have:=(T g hg).1; omega);rw[QP,Qi];exact this
  ·refine jo.o.trans ((xE.o.mono (t:=λb=>b<w.heap.size) λb _ m e=>?_).trans (D.mono λb _ m=>?_) |>.below jo.o.size (λb m=>m))
   ·have:=(Zj d.o e).1;omega
   ·exact Nat.ne_of_lt m
  ·refine(xE.o.mono λb _ m e=>m ((F.o b).2 (.inr e))).trans (D.mono λb _ m e=>m ((F.o b).2 (.inl e)))
  ·rintro b (rfl | m)
   ·exact .inl ((F.o _).2 (.inl rfl))
   ·have h3:(E.setCell (aD w.heap.size 0) (.slice f i k)).heap.size=E.heap.size:=by simp
    grind
 case done=>
  rintro ys o' W af L ax ay hD;have U:ys=RS:=by simpa [lX] using af
  subst U;have R:=q.o;obtain⟨v,y,a,GM⟩:=L.ex;have hc:=y.at 0;have F:=Zh GM;have d:Hid _:=a;obtain⟨va,vn,vc,rfl⟩:=Zk d.o;gi_wp2;have av:¬ o' N.heap.size:=λh=>by grind
  refine⟨by simp,.inl ⟨_,_,rfl,run_takeDeferred hD,?_⟩⟩;have I:=Q8 (s:=λb=>o' b∨b<N.heap.size) W (r:=N.heap.size) (.deferred none) (by
   grind)
  refine⟨_,results_tmp rfl _ _ _,_,rfl,?_,?_⟩
  ·rw[HE.o,Q.o];have h5:=Zi d.o I (λg hg=>.inl ((F.o g).2 (.inr hg)));exact⟨h5.1,h5.2.imp id λ⟨g,cap,cur,e,m,h⟩=>⟨g,cap,cur,e,by omega,h⟩⟩
  ·exact L.below.trans (I.below L.below.size (λb m=>.inr (by omega)))
theorem Ez(s:Nat)(hs:s<18446744073709551616)(w:World) :
  Calls Tryz.prog 96 #[.int .u64 (s:Int)] w λe w'=>∃ v,e=.returned v/\w'.ownsRow w.heap.size 3 1 v (cZ s).length ((cZ s).map (Value.int .i64))/\Bw w w':=by
 have i:∀ x,Calls Tryz.prog 136 #[.func (.func 51) #[.int .u64 (s:Int)] #[]] x λe w'=>∃ v,e=.returned v/\w'.ownsRow x.heap.size 3 1 v (cZ s).length ((cZ s).map (Value.int .i64))/\Bw x w':=by intro x;have b:=GL s hs x;go_enter Tryz.func136,Tryz.ntmps136;go_wp2_with fail;refine b.mono ?_;rintro e j ⟨v,rfl,a,g⟩;obtain⟨k,l,m,rfl⟩:=Zk a;have d:Hid _:=a;have f:=Zh g;go_wp2;go_ret;exact⟨_,rfl,d.o,f.o⟩
 have b:=i w;go_enter Tryz.func96,Tryz.ntmps96;go_wp2_with fail;refine b.mono ?_;rintro e j ⟨v,rfl,a,g⟩;obtain⟨k,l,m,rfl⟩:=Zk a;have d:Hid _:=a;have f:=Zh g;go_wp2;go_ret;exact⟨_,rfl,d.o,f.o⟩
end
def dw(T:TypeId)(F:Nat->Prop)(w:World)(t:aQ)(e:Ending)(w':World):Prop:=
 ∃ a,e=.returned (.pointer (some (aD a 0)))/\aT T F w' a t/\w.heap.size<=a/\a<w'.heap.size/\Bw w w'
def gQ:ai:=⟨none,0,[]⟩
theorem jS(w:World):gQ.At w:=⟨by decide,λi a=>absurd a (Nat.not_lt_zero _)⟩
theorem RH{t:TypeId}(h:w.heap[b]? = some (.cells #[v] t (0,0))):w.cell? (aD b 0)=some v:=by simp only[World.cell?,h];rfl
theorem pG(h:w.ownsRow base e 1 v n (xs.map (Value.int .i64)))(hl:xs.length<=1000000) :
  ∃ iv:ai,v=iv.val/\iv.xs=xs/\iv.At w/\(∀ a,iv.ad=some a->base<=a.block)/\(iv.ad=none->iv.cap=0)/\iv.xs.length<=iv.cap:=by
 have d:n=xs.length:=by have:=h.1; rw[QQ]at this; omega
 subst d;rcases h.2 with⟨rfl,h1⟩ | ⟨g,cap,cur,rfl,hb,hh,hc,_,_,ht⟩
 ·have:=Xt.1 h1;subst this;exact⟨gQ,rfl,rfl,jS w,(λa e=>by cases e),(λ_=>rfl),Qn _⟩
 ·refine⟨⟨some (aD g 0),cap,xs⟩,rfl,rfl,⟨by simp only; omega,λi j=>⟨g,0,rfl,?_⟩⟩,(λa e=>by cases e; exact hb),(λe=>by cases e),hc⟩;have f:i<xs.length:=j;have b:(xs.map (Value.int .i64))[i]? = some (.int .i64 (xs.getD i 0)):=by grind
  rw[<- ht,Zm]at b;split at b
  ·rw[QL];simp only[World.cell?,hh]
   simpa using b
  ·cases b
theorem qE.nil(F:Nat->Prop)(ao:Option Addr):qE F ao 0:=λh=>absurd h (Nat.lt_irrefl _)
theorem IX(E:Env f ts q W0)(hz:Fz F W0 w)(s:Int)(h0:0<=s)(h1:s<q.src.xs.length) :
  Calls Tryz.prog 80 #[.agg (f.cells ts q),.agg #[.int .i64 1,.int .i64 0,.int .i64 0,.int .i64 s,.slice none 0 0,.int .i64 0,.slice none 0 0],.slice none 0 0] w (dw 135 F w (ay ts q (iV s) [])):=
 Ey E hz ⟨1,0,0,s,gQ,0,gQ⟩ ⟨jS w,qE.nil _ _,λ_=>rfl,jS w,qE.nil _ _,λ_=>rfl,Qn _,QK _,QK _⟩ none 0 [] ⟨by decide,λi a=>absurd a (Nat.not_lt_zero _)⟩ (λ_=>rfl) (λx b=>by cases b) rfl (by decide:(1:Int)<=1) (by decide:(1:Int)<=10) (Xl _) (λ_=>⟨h0,h1⟩)
theorem uU(E:Env f ts q W0)(hz:Fz F W0 w)(n:ah)(hn:RF F w n)(a b:Nat)(t:aQ)(ht:aT 135 F w a t)(hto:kN q t)(hc:w.cell? (aD b 0)=some (.pointer (some (aD a 0))))
  (har:arity n.kind=1) (hk1:2<=n.kind) (hk10:n.kind<=10) (hsm:bu q.wh.length n.cl.xs) :
  Calls Tryz.prog 80 #[.agg (f.cells ts q),.agg n.cells,.slice (some (aD b 0)) 1 1] w (dw 135 F w (ay ts q n [t])):=
 Ey E hz n hn (some (aD b 0)) 1 [(a,t)] ⟨by simp,λi d=>⟨b,0,rfl,by
  grind⟩⟩ (λe=>by cases e) (λx g=>by grind) (by rw[har]; rfl) (by omega) hk10 hsm (λe=>by omega)
theorem ME(E:Env f ts q W0)(hz:Fz F W0 w)(n:ah)(hn:RF F w n)(a a' b:Nat)(t t':aQ)(ht:aT 135 F w a t)(hto:kN q t)(ht':aT 135 F w a' t')(aCf:kN q t')(hc:w.cell? (aD b 0)=some (.pointer (some (aD a 0))))(hc':w.cell? (aD b 1)=some (.pointer (some (aD a' 0))))
  (h3:3<=n.kind) (h5:n.kind<=5) (hsm:bu q.wh.length n.cl.xs) :
  Calls Tryz.prog 80 #[.agg (f.cells ts q),.agg n.cells,.slice (some (aD b 0)) 2 2] w (dw 135 F w (ay ts q n [t,t'])):=
 Ey E hz n hn (some (aD b 0)) 2 [(a,t),(a',t')] ⟨by simp,λi g=>⟨b,0,rfl,by
  have d:i<2:=g;rw[QL]
  match i,d with
  | 0,_ => exact hc
  | 1,_ => exact hc'⟩⟩ (λe => by cases e) (λx j => by
   grind) (by unfold arity; grind) (by omega) (by omega) hsm (λe=>by omega)
structure IntsIn(F:Nat->Prop)(w:World)(iv:ai):Prop where
 at':iv.At w
 inf:qE F iv.ad iv.xs.length
 nil:iv.ad=none->iv.cap=0
 cap:iv.xs.length<=iv.cap
theorem IntsIn.bI{F:Nat->Prop}{w w':World}{iv:ai}(h:IntsIn F w iv)(hk:Kept F w w'):IntsIn F w' iv:=⟨ZH h.at' hk h.inf,h.inf,h.nil,h.cap⟩
theorem IntsIn.below{F:Nat->Prop}{w w':World}{iv:ai}(h:IntsIn F w iv)(hb:Bw w w'):IntsIn F w' iv:=⟨Ql hb h.at',h.inf,h.nil,h.cap⟩
theorem IntsIn.gQ(F:Nat->Prop)(w:World):IntsIn F w gQ:=⟨jS w,qE.nil _ _,λ_=>rfl,Qn _⟩
theorem IntsIn.mono{F G:Nat->Prop}{w:World}{iv:ai}(h:IntsIn F w iv)(hs:∀ b,b<w.heap.size->F b->G b):IntsIn G w iv:=⟨h.at',qE.mono h.at'.2 h.inf hs,h.nil,h.cap⟩
theorem sZ(h:w.ownsRow base e 1 v n (xs.map (Value.int .i64)))(hl:xs.length<=1000000)(hF:∀ b,base<=b->F b) :
  ∃ iv:ai,v=iv.val/\iv.xs=xs/\IntsIn F w iv:=by obtain⟨iv,d,f,g,i,j,k⟩:=pG h hl;exact⟨iv,d,f,g,λ_ a e=>hF _ (i a e),j,k⟩
def EH(F:Nat->Prop)(w:World)(xs:List Int)(e:Ending)(w':World):Prop:=∃ iv:ai,e=.returned iv.val/\iv.xs=xs/\IntsIn F w' iv/\Bw w w'
theorem Env.aci(E:Env f ts q W0):(aG q).length<=4:=by
 unfold aG;split
 ·exact E.an8
 ·split
  ·unfold jw;rw[QQ];exact E.few
  ·simp
theorem Env.acj(E:Env f ts q W0)(h:Fz F W0 w):IntsIn F w q.keys:=
 ⟨h.below.ints E.facts.query.keys,λj a e=>h.low _ (by
  obtain⟨b,g,d,i⟩:=E.facts.query.keys.2 0 j;rw[e]at d;injection d with d;rw[d];exact⟨_,_,i⟩),E.an9,E.iX⟩
theorem zS(E:Env f ts q W0)(hz:Fz F W0 w):Calls Tryz.prog 82 #[.agg q.cells] w (EH F w (aG q)):=by
 have T:=(E.at' hz).query
 cases hg:q.group with
 | true =>
  have t:Hid (aG q=q.keys.xs):=by show _=_; unfold aG; rw[Qo hg]
  have U:=Zh (E.acj hz);generalize aG q=R at *;obtain⟨⟨u,y,z⟩,A,B,wh,group,⟨p,r,s⟩,⟨C,D,G⟩,⟨H,I,J⟩,⟨K,L,M⟩⟩:=q;simp only[ae.cells,ai.val]at *;subst hg;obtain⟨P,N,g,k⟩:=bn w #[.slice u z.length y,.slice A wh.length B,.bool true,.slice p s.length r,.slice C G.length D,.slice H J.length I,.slice K M.length L] 26;obtain⟨a0,a1,a2,a3,a4,a5,a6⟩:=k.k7;have d:=Zh g;go_enter Tryz.func82,Tryz.ntmps82;go_wp2;go_ret;exact⟨⟨p,r,s⟩,rfl,t.o.symm,U.o.below d.o,d.o⟩
 | false =>
  have V:Hid (∀ x,Bw w x->Calls Tryz.prog 111 #[.agg q.cells] x λe w'=>∃ v,e=.returned v/\w'.ownsRow x.heap.size 3 1 v (jw q).length ((jw q).map (Value.int .i64))/\Bw x w'):=λx i=>pO q x (T.below i) (E.ord hg) (by have:=E.few; omega);have t:Hid (aG q=if cK (jw q)=true then jw q else []):=by show _=_; unfold aG; rw[Qu (by rw[hg]; decide)]
  have W:Hid ((jw q).length<=4):=by show _<=_; unfold jw; rw[QQ]; exact E.few
  have X:=Zh hz.high;generalize aG q=R at *;generalize jw q=WN at *;obtain⟨⟨u,y,z⟩,A,B,wh,group,⟨p,r,s⟩,⟨C,D,G⟩,⟨H,I,J⟩,⟨K,L,M⟩⟩:=q;simp only[ae.cells,ai.val]at *;subst hg;obtain⟨P,N,g,k⟩:=bn w #[.slice u z.length y,.slice A wh.length B,.bool false,.slice p s.length r,.slice C G.length D,.slice H J.length I,.slice K M.length L] 26;obtain⟨a0,a1,a2,a3,a4,a5,a6⟩:=k.k7;have d:=Zh g;have Y:=V.o P g;go_enter Tryz.func82,Tryz.ntmps82;go_wp2_with fail;refine Y.mono ?_;rintro e w2 ⟨v,rfl,hv,O⟩;obtain⟨iv,rfl,i,l⟩:=sZ (F:=F) hv (by have:=W.o; omega) (λb hb=>X.o b (Q6 d.o.size hb));have m:=Zh (aF d.o O);have n:=mW iv.ad iv.cap iv.xs w2 l.at' l.cap;have Z:=Zh l;rw[i]at n;have HX:=Zh i
  cases hap:cK WN with
  | true =>
   have j:Hid (R=WN):=by show _=_; rw[t.o,Qo hap]
   rw[hap]at n;obtain⟨Q,ic,S⟩:=iv;simp only at i;subst i;simp only[ai.val]at *;go_wp2_with fail;refine n.mono ?_;rintro e w3 ⟨rfl,a⟩;have a:=a.symm;subst a;go_wp2;go_ret;exact⟨⟨Q,ic,S⟩,rfl,j.o.symm,Z.o,m.o⟩
  | false =>
   have j:Hid (R=[]):=by grind
   rw[hap]at n;obtain⟨Q,ic,S⟩:=iv;simp only at i;subst i;simp only[ai.val]at *;go_wp2_with fail;refine n.mono ?_;rintro e w3 ⟨rfl,a⟩;have a:=a.symm;subst a;go_wp2;go_ret;exact⟨gQ,rfl,j.o.symm,IntsIn.gQ _ _,m.o⟩
theorem MQ(q:ae)(o:ai)(w:World)(hk:q.keys.At w)(ho:o.At w)(hoc:o.xs.length<=o.cap) :
  Cb 168 #[.agg q.cells,o.val] w (.int .i64 (bg q o.xs)):=by
 cases hg:q.group with
 | false =>
  have i:bg q o.xs=9:=by unfold bg; rw[Qo hg]
  rw[i];generalize o.val=ov;obtain⟨⟨k,l,m⟩,n,p,wh,group,⟨r,s,g⟩,⟨t,u,v⟩,⟨y,z,A⟩,⟨C,D,E⟩⟩:=q;simp only[ae.cells,ai.val]at *;subst hg;obtain⟨H,F,a,d⟩:=bn w #[.slice k m.length l,.slice n wh.length p,.bool false,.slice r g.length s,.slice t v.length u,.slice y A.length z,.slice C E.length D] 26;obtain⟨a0,K,L,a3,a4,a5,M⟩:=d.k7;have b:=Zh a;go_enter Tryz.func168,Tryz.ntmps168;go_wp2;go_ret;exact⟨rfl,b.o⟩
 | true =>
  have i:bg q o.xs=if au o.xs q.keys.xs=true then 8 else 7:=by unfold bg; rw[Qu (by rw[hg]; decide)]
  rw[i];have J:Hid (∀ x,Bw w x->Cb 107 #[.slice o.ad o.xs.length o.cap,.slice q.keys.ad q.keys.xs.length q.keys.cap] x (.bool (au o.xs q.keys.xs))):=λx I=>kR o.ad q.keys.ad o.cap q.keys.cap o.xs q.keys.xs x (Ql I ho) (Ql I hk) hoc;obtain⟨O,ic,N⟩:=o;obtain⟨⟨k,l,m⟩,n,p,wh,group,⟨r,s,g⟩,⟨t,u,v⟩,⟨y,z,A⟩,⟨C,D,E⟩⟩:=q;simp only[ae.cells,ai.val]at *;subst hg;obtain⟨H,F,a,d⟩:=bn w #[.slice k m.length l,.slice n wh.length p,.bool true,.slice r g.length s,.slice t v.length u,.slice y A.length z,.slice C E.length D] 26;obtain⟨a0,K,L,a3,a4,a5,M⟩:=d.k7;have b:=Zh a;have j:=J.o H a;generalize au N g=B at *;go_enter Tryz.func168,Tryz.ntmps168;go_wp2_with fail;refine j.mono ?_;rintro e P ⟨rfl,G⟩;have f:=Zh (aF b.o G)
  cases B with
  | true =>
   go_wp2;go_ret;exact⟨rfl,f.o⟩
  | false =>
   go_wp2;go_ret;exact⟨rfl,f.o⟩
def Kl(A:Nat->Nat):Option (Nat × aQ)->Value
 | none => .pointer none
 | some x => .pointer (some (aD (A x.1) 0))
def qB:aj:=([],none)
structure bM(T Tp:TypeId)(F:Nat->Prop)(w:World)(gb:Nat)(A:Nat->Nat)(os:List ai)(g:List aj):Prop where
 blk:∃ c,GB w gb Tp c/\∀ i,i<g.length->c[i*2]? = some (os.getD i gQ).val/\c[i*2+1]? = some (Kl A (g.getD i qB).2)
 ord:∀ i,i<g.length->(os.getD i gQ).xs=(g.getD i qB).1/\IntsIn F w (os.getD i gQ)/\(os.getD i gQ).xs.length<=1000
 tree:∀ p∈g,∀ x,p.2=some x->aT T F w (A x.1) x.2
 inj:∀ p∈g,∀ p'∈g,∀ x x',p.2=some x->p'.2=some x'->A x.1=A x'.1->x.1=x'.1
theorem bM.bI{T Tp:TypeId}{F:Nat->Prop}{w w':World}{gb:Nat}{A:Nat->Nat}{os:List ai}{g:List aj}(h:bM T Tp F w gb A os g)(hk:Kept (λb=>F b∨b=gb) w w'):bM T Tp F w' gb A os g:=by obtain⟨c,e,d⟩:=h.blk;have a:=hk.mono λb _ h=>.inl h;exact⟨⟨c,e.keep hk (.inr rfl),d⟩,λi d=>⟨(h.ord i d).1,(h.ord i d).2.1.bI a,(h.ord i d).2.2⟩,λp f x j=>(h.tree p f x j).bI a,h.inj⟩
theorem bM.below{T Tp:TypeId}{F:Nat->Prop}{w w':World}{gb:Nat}{A:Nat->Nat}{os:List ai}{g:List aj}(h:bM T Tp F w gb A os g)(hb:Bw w w'):bM T Tp F w' gb A os g:=h.bI (Q7 hb λ_ h _=>h)
theorem bM.mono{T Tp:TypeId}{F G:Nat->Prop}{w:World}{gb:Nat}{A:Nat->Nat}{os:List ai}{g:List aj}(h:bM T Tp F w gb A os g)(hs:∀ b,b<w.heap.size->F b->G b):bM T Tp G w gb A os g:=
 ⟨h.blk,λi a=>⟨(h.ord i a).1,(h.ord i a).2.1.mono hs,(h.ord i a).2.2⟩,λp d x e=>(h.tree p d x e).mono hs,h.inj⟩
theorem bM.cells{Tp:TypeId}(h:bM T Tp F w gb A os g)(hi:i<g.length) :
  w.cell? (aD gb (i*2))=some (os.getD i gQ).val/\w.cell? (aD gb (i*2+1))=some (Kl A (g.getD i qB).2):=by obtain⟨c,b,a⟩:=h.blk;exact⟨(b.cell _).trans (a i hi).1,(b.cell _).trans (a i hi).2⟩
theorem rW(hi:i<g.length):g.getD i qB∈g:=by simp_all
theorem aT.blk(h:aT T F w a t):∃ c,w.heap[a]? = some (.cells c T (0,0)):=by obtain⟨p,n,bo,bc,bs,b,_⟩:=h.get;exact⟨_,b.gb⟩
theorem jM{α β:Type}(f:β->α->β)(b:β)(l:List α)(d:α){k:Nat}(hk:k<l.length):(l.take (k+1)).foldl f b=f ((l.take k).foldl f b) (l.getD k d):=by grind [Ev]
theorem Tryz.WM:(Tryz.prog.info? 135).map (λi=>i.size)=some 14:=by kernel_rfl
theorem Tryz.infoTree:∃ j,Tryz.prog.info? 135=some j/\j.size≠0:=by
 have h:=Tryz.WM
 cases hi:Tryz.prog.info? 135 with
 | none => rw[hi]at h; cases h
 | some j =>
  grind
theorem Km(ao:Option Addr)(cap:Nat)(xs:List Nat)(v:Nat)(w:World)(hx:ed w ao xs)(hv:∃ c t,w.heap[v]? = some (.cells c t (0,0)))(hxs:∀ x∈xs,∃ c t,w.heap[x]? = some (.cells c t (0,0))) :
  Calls Tryz.prog 169 #[.slice ao xs.length cap,.pointer (some (aD v 0))] w λe w'=>∃ r:Int,e=.returned (.int .i64 r)/\Hid (0<=r↔v∈xs)/\w' = w:=by
 have G:=hx.1;have A:Hid (∀ x∈xs,(binOp .eql 95 (.pointer (some (aD v 0))) (.pointer (some (aD x 0)))).run Tryz.prog w=.ok (.bool (decide (v=x))) w):=λx f=>by
  obtain⟨j,y,n⟩:=Tryz.infoTree;by_cases e:v=x
  ·subst e;rw[run_eql_ptr_same w (aD v 0) Tryz.underlying95 y];simp
  ·obtain⟨H,I,p⟩:=hv;obtain⟨J,K,q⟩:=hxs x f;rw[run_eql_ptr_other w Tryz.underlying95 y n (by intro h; injection h with h; exact e h) p q];simp[e]
 have B:=Zh hx;clear hx hv hxs;go_enter Tryz.func169,Tryz.ntmps169;go_wp2;go_loop [8] (λi=>∃ k:Nat,k<=xs.length/\i=.int .i64 k/\Hid (v ∉ xs.take k)) (λi=>xs.length-(intOf i).toNat)
 case atStart=>exact⟨0,QK _,rfl,by show _ ∉ _; simp⟩
 case round=>
  obtain⟨k,L,rfl,E⟩:=hrel;by_cases a:k<xs.length
  ·obtain⟨b,F,rfl,z⟩:=ed.get B.o a;have C:=z k a;have f:xs.getD k 0∈xs:=Zr a;have l:=A.o _ f;have s:=Zh (Xq xs 0 a);have u:=Zh f;obtain⟨x,g⟩:=eY (xs.getD k 0)
   rw[<- g]at C l s u;clear z f g;by_cases d:v=x
   ·have m:=Zh d;rw[Qv d]at l;clear d;go_wp2;go_ret;exact⟨k,rfl,⟨λ_=>by rw[m.o]; exact u.o,λ_=>by omega⟩,rfl⟩
   ·have m:Hid _:=d;rw[ZW d]at l;clear d;go_wp2;go_round
    case rel=>exact⟨k+1,by omega,by go_num,by
     show _ ∉ _;rw[s.o,ZK,Zy];rintro (h | h)
     ·exact E.o h
     ·exact m.o h⟩
    case measure=>simp[intOf]; omega
  ·have e:xs.length=k:=by omega
   have D:Hid (v ∉ xs):=by grind
   go_wp2;go_ret;exact⟨-1,rfl,⟨λh=>absurd h (by omega),λh=>absurd h D.o⟩,rfl⟩
theorem Dz(ao:Option Addr)(cap:Nat)(xs:List Nat)(v:Nat)(w:World)(hx:ed w ao xs)(hv:∃ c t,w.heap[v]? = some (.cells c t (0,0)))(hxs:∀ x∈xs,∃ c t,w.heap[x]? = some (.cells c t (0,0))) :
  Ce 159 #[.slice ao xs.length cap,.pointer (some (aD v 0))] w (.bool (decide (v∈xs))):=by have h:=Km ao cap xs v w hx hv hxs;clear hx hv hxs;go_enter Tryz.func159,Tryz.ntmps159;go_wp2_with fail;refine h.mono ?_;clear h;rintro e b ⟨r,rfl,a,rfl⟩;go_wp2;go_ret;exact⟨Qd (by rw[QX,Qs,Qs]; exact a.o),rfl⟩
theorem tC(h:bM 135 160 F w gb A os g)(h0:0<g.length)(gc:Nat) :
  Ce 157 #[.slice (some (aD gb 0)) g.length gc] w (Kl A (g.getD 0 qB).2):=by obtain⟨-,a⟩:=h.cells h0;clear h;rw[Z7,QL]at a;generalize Kl A (g.getD 0 qB).2=pv at *;go_enter Tryz.func157,Tryz.ntmps157;go_wp2;go_ret;exact⟨rfl,rfl⟩
