import Derived.Test.YtbcgekghfgcakaaGreatDoorF06
import Derived.Test.YtbcgekghfgcakaaGreatDoorF13
import Derived.Test.YtbcgekghfgcakaaGreatDoorF18
set_option linter.all false
set_option maxRecDepth 100000
set_option maxHeartbeats 16000000
namespace Go.Proofs.Zz
open Go.RowKit Go.Shelf
theorem jD (rk:Nat->Int) (ts:List af) (q:ae) (conc:List Nat) (picks:List Int):∀ (n k:Nat) (σ:fe),runN rk ts q conc picks (n+1) k σ=if (runN rk ts q conc picks n k σ).status=1 then fP rk ts q conc (fG picks (k+n)) (runN rk ts q conc picks n k σ) else runN rk ts q conc picks n k σ
 | 0,k,σ => rfl
 | n+1,k,σ => by
  show (if σ.status=1 then runN rk ts q conc picks (n+1) (k+1) (fP rk ts q conc (fG picks k) σ) else σ)=_
  have e:runN rk ts q conc picks (n+1) k σ=if σ.status=1 then runN rk ts q conc picks n (k+1) (fP rk ts q conc (fG picks k) σ) else σ:=rfl
  by_cases h:σ.status=1
  ·rw[Qr h,jD rk ts q conc picks n (k+1),e,Qr h,show k+1+n=k+(n+1) by omega]
  ·rw[Qs h,e,Qs h,Qs h]
theorem mW {rk:Nat->Int} {ts:List af} {q:ae} {conc:List Nat} (hcn:conc.length=q.wh.length) (h5:q.src.xs.length<=5) (picks:List Int) {σ:fe} (h:E5 q σ):∀ n,E5 q (runN rk ts q conc picks n 0 σ)/\(runN rk ts q conc picks n 0 σ).picks.length<=σ.picks.length+n
 | 0 => ⟨h,Qq _⟩
 | n+1 => by
  obtain⟨h1,h2⟩:=mW (rk:=rk) (ts:=ts) hcn h5 picks h n;rw[jD];split
  ·rename_i hs
   have:=Vx (rk:=rk) (ts:=ts) hcn h1 h5 hs (fG picks (0+n));exact⟨this.1,by omega⟩
  ·exact⟨h1,by omega⟩
def goT (rk:Nat->Int) (ts:List af) (q:ae) (conc:List Nat) (picks:List Int) (n:Nat) (tick:Int) (σ:fe):fe:=
 if 0<=tick/\tick<n then
  (if (runN rk ts q conc picks tick.toNat 0 σ).status=1 then { runN rk ts q conc picks tick.toNat 0 σ with status:=4 } else runN rk ts q conc picks tick.toNat 0 σ)
 else runN rk ts q conc picks n 0 σ
theorem xK {rk:Nat->Int} {ts:List af} {q:ae} {conc:List Nat} {picks:List Int} {σ:fe} {d:Nat} (h:(runN rk ts q conc picks d 0 σ).status≠1):∀ m,runN rk ts q conc picks (d+m) 0 σ=runN rk ts q conc picks d 0 σ
 | 0 => rfl
 | m+1 => by
  rw[show d+(m+1)=d+m+1 by omega,jD,xK h m,Qs h]
theorem VC {rk:Nat->Int} {ts:List af} {q:ae} {conc:List Nat} {picks:List Int} {σ:fe} {d n:Nat} {tick:Int} (h:(runN rk ts q conc picks d 0 σ).status≠1) (hd:d<=n) (ht:tick<0∨(d:Int)<=tick):goT rk ts q conc picks n tick σ=runN rk ts q conc picks d 0 σ:=by
 unfold goT;split
 ·rename_i hc
  obtain⟨m,hm⟩:∃ m,tick.toNat=d+m:=⟨tick.toNat-d,by omega⟩
  rw[hm,xK h,Qs h]
 ·obtain⟨m,hm⟩:∃ m,n=d+m:=⟨n-d,by omega⟩
  rw[hm,xK h]
theorem Fb {rk:Nat->Int} {ts:List af} {q:ae} {conc:List Nat} {picks:List Int} {σ:fe} {n:Nat} {tick:Int} (ht:tick<0∨(n:Int)<=tick):goT rk ts q conc picks n tick σ=runN rk ts q conc picks n 0 σ:=by
 unfold goT;rw[Qs (by omega)]
theorem VD {rk:Nat->Int} {ts:List af} {q:ae} {conc:List Nat} {picks:List Int} {σ:fe} {n d:Nat} (hd:d<n) (h:(runN rk ts q conc picks d 0 σ).status=1):goT rk ts q conc picks n (d:Int) σ = { runN rk ts q conc picks d 0 σ with status:=4 }:=by
 unfold goT;rw[Qr ⟨by omega,by omega⟩];rw[show (d:Int).toNat=d by omega,Qr h]
def mI (F:Nat->Prop) (ao:Option Addr) (n:Nat):Prop:=0<n->∀ a,ao=some a->F a.block
def cK (w:World) (ao:Option Addr) (xs:List Nat):Prop:=
 xs.length<=1000000/\aY w ao xs.length (fun i=>.pointer (some (aD (xs.getD i 0) 0)))
theorem cK.get {w:World} {ao:Option Addr} {xs:List Nat} (h:cK w ao xs) {i:Nat} (hi:i<xs.length) :
  ∃ b off,ao=some (aD b off)/\∀ j,j<xs.length->w.cell? (aD b (off+j))=some (.pointer (some (aD (xs.getD j 0) 0))):=
 Qf h.2 hi
theorem cK.below {w w':World} (hb:Below w.heap.size w w') {ao:Option Addr} {xs:List Nat} (h:cK w ao xs):cK w' ao xs:=⟨h.1,h.2.below hb⟩
theorem aY.aT {A B:World} {F:Nat->Prop} {ao:Option Addr} {n:Nat} {f:Nat->Value} (h:aY A ao n f) (hk:Kept F A B) (hF:mI F ao n):aY B ao n f:=by
 cases n with
 | zero => intro i hi; omega
 | succ m => exact h.keep (fun a ha hl => hk.block _ hl (hF (by omega) a ha))
theorem au.aT {A B:World} {F:Nat->Prop} {ao:Option Addr} {xs:List Int} (h:au A ao xs) (hk:Kept F A B) (hF:mI F ao xs.length):au B ao xs:=⟨h.1,h.2.aT hk hF⟩
theorem cK.aT {A B:World} {F:Nat->Prop} {ao:Option Addr} {xs:List Nat} (h:cK A ao xs) (hk:Kept F A B) (hF:mI F ao xs.length):cK B ao xs:=⟨h.1,h.2.aT hk hF⟩
theorem aY.lt {w:World} {ao:Option Addr} {n:Nat} {f:Nat->Value} (h:aY w ao n f) (hn:0<n):∀ a,ao=some a->a.block<w.heap.size:=by
 intro a ha;obtain⟨b,off,e,hc⟩:=h 0 hn;rw[ha] at e;injection e with e;rw[e];exact Zf hc
theorem mI.mono {F G:Nat->Prop} {w:World} {ao:Option Addr} {n:Nat} {f:Nat->Value} (hc:aY w ao n f) (h:mI F ao n) (hs:∀ b,b<w.heap.size->F b->G b):mI G ao n:=
 fun hn a ha=>hs _ (hc.lt hn a ha) (h hn a ha)
def De (p:bK) (n:az) (v:Value):Array Value:=
 #[.int .i64 p.kind,.int .u64 (p.sources:Int),.int .u64 (p.clauses:Int),p.order.val,.int .u64 (p.size:Int),.int .u64 (p.cost:Int),
  .int .i64 n.kind,.int .i64 n.l,.int .i64 n.r,.int .i64 n.source,n.cl.val,.int .i64 n.key,n.co.val,v]
structure qH (T:TypeId) (F:Nat->Prop) (w:World) (a:Nat) (t:aW) (p:bK) (n:az) (bo:Option Addr) (bc:Nat) (bs:List (Nat × aW)):Prop where
 blk:F a
 gb:GB w a T (De p n (.slice bo bs.length bc))
 part:p.d=t.d
 ok:p.Ok w
 ord:mI F p.order.ad p.order.xs.length
 cl:n.cl.At w
 clf:mI F n.cl.ad n.cl.xs.length
 cln:n.cl.ad=none->n.cl.cap=0
 co:n.co.At w
 cof:mI F n.co.ad n.co.xs.length
 con:n.co.ad=none->n.co.cap=0
 ptrs:cK w bo (bs.map Prod.fst)
 ptf:mI F bo bs.length
 UN:bs.length<=bc
 nil:bo=none->bc=0
 lay:t.ns=oI n (bs.map fun x=>x.2.ns)
 two:bs.length<=2
 kind:1<=n.kind/\n.kind<=10
 lens:n.cl.xs.length<=1000/\n.co.xs.length<=1000
def lY (T:TypeId) (F:Nat->Prop):Nat->World->Nat->aW->Prop
 | 0,_,_,_ => False
 | k+1,w,a,t => ∃ p n bo bc bs,qH T F w a t p n bo bc bs/\∀ x∈bs,lY T F k w x.1 x.2
theorem qH.aT {T:TypeId} {F:Nat->Prop} {w w':World} {a:Nat} {t:aW} {p:bK} {n:az} {bo:Option Addr} {bc:Nat} {bs:List (Nat × aW)} (h:qH T F w a t p n bo bc bs) (hk:Kept F w w'):qH T F w' a t p n bo bc bs where
 blk:=h.blk
 gb:=h.gb.keep hk h.blk
 part:=h.part
 ok:=⟨au.aT h.ok.order hk h.ord,h.ok.cap,h.ok.sources,h.ok.clauses,h.ok.size,h.ok.cost⟩
 ord:=h.ord
 cl:=au.aT h.cl hk h.clf
 clf:=h.clf
 cln:=h.cln
 co:=au.aT h.co hk h.cof
 cof:=h.cof
 con:=h.con
 ptrs:=h.ptrs.aT hk (by rw[QU]; exact h.ptf)
 ptf:=h.ptf
 UN:=h.UN
 nil:=h.nil
 lay:=h.lay
 two:=h.two
 kind:=h.kind
 lens:=h.lens
theorem qH.mono {T:TypeId} {F G:Nat->Prop} {w:World} {a:Nat} {t:aW} {p:bK} {n:az} {bo:Option Addr} {bc:Nat} {bs:List (Nat × aW)} (h:qH T F w a t p n bo bc bs) (hs:∀ b,b<w.heap.size->F b->G b):qH T G w a t p n bo bc bs where
 blk:=hs _ h.gb.lt h.blk
 gb:=h.gb
 part:=h.part
 ok:=h.ok
 ord:=mI.mono h.ok.order.2 h.ord hs
 cl:=h.cl
 clf:=mI.mono h.cl.2 h.clf hs
 cln:=h.cln
 co:=h.co
 cof:=mI.mono h.co.2 h.cof hs
 con:=h.con
 ptrs:=h.ptrs
 ptf:=by
  have:=mI.mono h.ptrs.2 (by rw[QU]; exact h.ptf) hs
  rwa [QU] at this
 UN:=h.UN
 nil:=h.nil
 lay:=h.lay
 two:=h.two
 kind:=h.kind
 lens:=h.lens
theorem lY.aT {T:TypeId} {F:Nat->Prop} {w w':World} (hk:Kept F w w'):∀ {k a:Nat} {t:aW},lY T F k w a t->lY T F k w' a t
 | 0,_,_,h => h
 | _+1,_,_,⟨p,n,bo,bc,bs,hb,hs⟩ => ⟨p,n,bo,bc,bs,hb.aT hk,fun x hx => (hs x hx).aT hk⟩
theorem lY.mono {T:TypeId} {F G:Nat->Prop} {w:World} (hs:∀ b,b<w.heap.size->F b->G b):∀ {k a:Nat} {t:aW},lY T F k w a t->lY T G k w a t
 | 0,_,_,h => h
 | _+1,_,_,⟨p,n,bo,bc,bs,hb,hx⟩ => ⟨p,n,bo,bc,bs,hb.mono hs,fun x h => (hx x h).mono hs⟩
theorem lY.more {T:TypeId} {F:Nat->Prop} {w:World}:∀ {k m a:Nat} {t:aW},lY T F k w a t->k<=m->lY T F m w a t
 | 0,_,_,_,h,_ => h.elim
 | _+1,0,_,_,_,h => by omega
 | _+1,_+1,_,_,⟨p,n,bo,bc,bs,hb,hx⟩,h => ⟨p,n,bo,bc,bs,hb,fun x hm => (hx x hm).more (by omega)⟩
def aC (T:TypeId) (F:Nat->Prop) (w:World) (a:Nat) (t:aW):Prop:=∃ k,lY T F k w a t
theorem aC.aT {T:TypeId} {F:Nat->Prop} {w w':World} {a:Nat} {t:aW} (h:aC T F w a t) (hk:Kept F w w'):aC T F w' a t:=h.imp fun _ h=>h.aT hk
theorem aC.mono {T:TypeId} {F G:Nat->Prop} {w:World} {a:Nat} {t:aW} (h:aC T F w a t) (hs:∀ b,b<w.heap.size->F b->G b):aC T G w a t:=h.imp fun _ h=>h.mono hs
theorem aC.below {T:TypeId} {F:Nat->Prop} {w w':World} {a:Nat} {t:aW} (h:aC T F w a t) (hb:Below w.heap.size w w'):aC T F w' a t:=h.aT (Q9 hb fun _ h _=>h)
theorem aC.get {T:TypeId} {F:Nat->Prop} {w:World} {a:Nat} {t:aW} (h:aC T F w a t):∃ p n bo bc bs,qH T F w a t p n bo bc bs/\∀ x∈bs,aC T F w x.1 x.2:=by
 obtain⟨k,h⟩:=h
 cases k with
 | zero => exact h.elim
 | succ k =>
  obtain⟨p,n,bo,bc,bs,hb,hx⟩:=h;exact⟨p,n,bo,bc,bs,hb,fun x hm=>⟨k,hx x hm⟩⟩
theorem Df {T:TypeId} {F:Nat->Prop} {w:World}:∀ {bs:List (Nat × aW)},(∀ x∈bs,aC T F w x.1 x.2)->∃ k,∀ x∈bs,lY T F k w x.1 x.2
 | [],_ => ⟨0,fun x h => by cases h⟩
 | y::bs,h => by
  obtain⟨k,hk⟩:=Df fun x hx=>h x (Xm _ hx)
  obtain⟨m,hm⟩:=h y Xo;refine⟨max k m,fun x hx=>?_⟩;rcases QP.1 hx with rfl | hx
  ·exact hm.more (Nat.le_max_right _ _)
  ·exact (hk x hx).more (Nat.le_max_left _ _)
theorem aC.intro {T:TypeId} {F:Nat->Prop} {w:World} {a:Nat} {t:aW} {p:bK} {n:az} {bo:Option Addr} {bc:Nat} {bs:List (Nat × aW)} (h:qH T F w a t p n bo bc bs) (hx:∀ x∈bs,aC T F w x.1 x.2):aC T F w a t:=by
 obtain⟨k,hk⟩:=Df hx;exact⟨k+1,p,n,bo,bc,bs,h,hk⟩
def Xu:=@au.aT
theorem Rb {w:World} {base b:Nat} {e:TypeId} (size:Nat) (hb:base<=b) (h:w.heap[b]? = some (.cells #[] e (0,0))):w.ownsRow base e size (.slice (some (aD b 0)) 0 0) 0 []:=
 ⟨by simp,.inr ⟨b,0,#[],rfl,hb,h,Qq _,by unfold maxLen; omega,by simp,by simp⟩⟩
theorem lL {P:Program} (W:World) (t ty e:TypeId) (i:TypeInfo) (z:Value) (size bytes:Nat) (ht:P.underlying t=some (.slice e)) (hi:P.info? e=some i) (hz:i.zero=some z) (hsize:i.size=size) (hby:i.bytes=bytes) (hzs:z.cells.size=size) (hsz:0<size)
  (a:Addr) (m c:Nat) (news:List Value) (hl:news.length=m*size) (hnews:∀ j u,news[j]? = some u->∃ b off,some a=some (aD b off)/\W.cell? (aD b (off+j))=some u) (h1:∀ u∈news,u.oneCell' = true) (hm:m<=1000000) (hbb:bytes<=1000) :
  ∃ v' w',(Builtin.append_ #[t,t] ty #[.slice (some (aD W.heap.size 0)) 0 0,.slice (some a) m c]).run P (W.alloc (.cells #[] e))=.ok v' w'/\w'.ownsRow W.heap.size e size v' m news/\Below W.heap.size W w'/\(∃ a k d,v' = .slice a k d):=by
 have hb1:=bU W (.cells #[] e);obtain⟨v',w',hr,ho,hg,_,_⟩:=ZO (P:=P) (W.alloc (.cells #[] e)) W.heap.size t ty e i z size bytes ht hi hz hsize hby hzs hsz (.slice (some (aD W.heap.size 0)) 0 0) 0 [] (Rb size (Qq _) (kG W _)) a m c news hl
  (fun j u hj=>by obtain⟨b,off,e,hc⟩:=hnews j u hj; injection e with e; rw[e,addr_add]; exact cB hb1 hc) h1 (by unfold maxLen; omega) (by rw[QE]; have:=Nat.mul_le_mul hm hbb; omega) (by rw[Zd]; omega)
 rw[QE,Zp] at ho;refine⟨v',w',hr,ho,hb1.trans ((Zw (s:=fun x=>x<W.heap.size) hg (fun r e hr=>?_)).below (by rw[Zd]; omega) (fun _ h=>h)),ZA ho⟩;simp only[Value.ownBlock] at e;injection e with e;omega
structure Env (f:aB) (ts:List af) (q:ae) (W0:World):Prop where
 ok:Ok ts q
 facts:f.At ts q W0
 shapes:cZ W0 0
 one:1<=q.src.xs.length
 five:q.src.xs.length<=5
 eight:q.wh.length<=8
 ord:q.group=false->bG q.ord.xs q.aQ.xs.length=true
 few:q.ord.xs.length<=4
 keys:eT ts q q.keys.xs
 want:q.group=false->eT ts q (iH q)
 ahZ:q.keys.xs.length<=4
 dJ:q.keys.xs.length<=q.keys.cap
 ah0:q.keys.ad=none->q.keys.cap=0
def Live (W0:World) (b:Nat):Prop:=∃ o v,W0.cell? (aD b o)=some v
theorem Live.lt {W0:World} {b:Nat} (h:Live W0 b):b<W0.heap.size:=by
 obtain⟨o,v,h⟩:=h;exact Zf h
structure Under (W0 w:World):Prop where
 size:W0.heap.size<=w.heap.size
 cell:∀ b o v,W0.cell? (aD b o)=some v->w.cell? (aD b o)=some v
theorem Under.kept {W0 w w':World} (h:Under W0 w) {s:Nat->Prop} (hk:Kept s w w') (hs:∀ b,Live W0 b->s b):Under W0 w':=
 ⟨Q4 h.size hk.size,fun b o v e=>by
  have h1:=h.cell b o v e;rw[Zg (hk.block b (Zf h1) (hs b ⟨o,v,e⟩))];exact h1⟩
theorem Under.cells {W0 w:World} (h:Under W0 w) {ao:Option Addr} {n:Nat} {f:Nat->Value} (hc:aY W0 ao n f):aY w ao n f:=fun i hi=>by
 obtain⟨b,off,e,hc⟩:=hc i hi;exact⟨b,off,e,h.cell _ _ _ hc⟩
theorem Under.ints {W0 w:World} (h:Under W0 w) {ao:Option Addr} {xs:List Int} (hi:au W0 ao xs):au w ao xs:=⟨hi.1,h.cells hi.2⟩
theorem Under.ad6 {W0 w:World} (h:Under W0 w) {ao:Option Addr} {xs:List Nat} (hi:fD W0 ao xs):fD w ao xs:=⟨hi.1,h.cells hi.2⟩
theorem Under.aH {W0 w:World} (h:Under W0 w) {ao:Option Addr} {cs:List (Nat × Int)} (hi:jd W0 ao cs):jd w ao cs:=⟨hi.1,fun i hj=>by
 obtain⟨b,off,e,c0,c1⟩:=hi.2 i hj;exact⟨b,off,e,h.cell _ _ _ c0,h.cell _ _ _ c1⟩⟩
theorem Under.conds {W0 w:World} (h:Under W0 w) {ao:Option Addr} {cs:List aj} (hi:aR W0 ao cs):aR w ao cs:=⟨hi.1,fun i hj=>by
 obtain⟨b,off,e,c0,c1,c2,c3,c4⟩:=hi.2 i hj;exact⟨b,off,e,h.cell _ _ _ c0,h.cell _ _ _ c1,h.cell _ _ _ c2,h.cell _ _ _ c3,h.cell _ _ _ c4⟩⟩
theorem Under.query {W0 w:World} (h:Under W0 w) {q:ae} (hq:q.At W0):q.At w:=
 ⟨h.ints hq.src,⟨hq.wh.1,h.cells hq.wh.2.1,fun i hi=>h.conds (hq.wh.2.2 i hi)⟩,h.ints hq.keys,h.ints hq.sums,h.ints hq.aQ,h.ints hq.ord⟩
theorem Under.facts {W0 w:World} (h:Under W0 w) {f:aB} {ts:List af} {q:ae} (hf:f.At ts q W0):f.At ts q w:=
 ⟨h.query hf.query,h.aH hf.aH,h.ad6 hf.rows,h.ad6 hf.conc,h.ad6 hf.parts,hf.nl,hf.pl⟩
structure Fz (F:Nat->Prop) (W0 w:World):Prop where
 below:Under W0 w
 low:∀ b,Live W0 b->F b
 high:∀ b,w.heap.size<=b->F b
theorem Fz.next {F:Nat->Prop} {W0 w w':World} (h:Fz F W0 w) (hb:Below w.heap.size w w'):Fz F W0 w':=
 ⟨h.below.kept (Q9 (s:=fun b=>b<w.heap.size) hb (fun _ h _=>h)) (fun _ hb=>Q8 hb.lt h.below.size),h.low,fun b hh=>h.high b (Q4 hb.size hh)⟩
theorem Fz.kept {F:Nat->Prop} {W0 w w':World} (_:Fz F W0 w) (hb:Below w.heap.size w w'):Kept F w w':=Q9 hb fun _ h _=>h
theorem Env.at' {f:aB} {ts:List af} {q:ae} {W0:World} (E:Env f ts q W0) {F:Nat->Prop} {w:World} (h:Fz F W0 w):f.At ts q w:=h.below.facts E.facts
structure LU (F:Nat->Prop) (w:World) (n:az):Prop where
 cl:n.cl.At w
 clf:mI F n.cl.ad n.cl.xs.length
 cln:n.cl.ad=none->n.cl.cap=0
 co:n.co.At w
 cof:mI F n.co.ad n.co.xs.length
 con:n.co.ad=none->n.co.cap=0
 cap:n.co.xs.length<=n.co.cap
 clb:n.cl.xs.length<=1000
 cob:n.co.xs.length<=1000
structure uh (F:Nat->Prop) (w:World) (a:Nat) (p:bK):Prop where
 c0:w.cell? (aD a 0)=some (.int .i64 p.kind)
 c1:w.cell? (aD a 1)=some (.int .u64 (p.sources:Int))
 c2:w.cell? (aD a 2)=some (.int .u64 (p.clauses:Int))
 c3:w.cell? (aD a 3)=some p.order.val
 c4:w.cell? (aD a 4)=some (.int .u64 (p.size:Int))
 c5:w.cell? (aD a 5)=some (.int .u64 (p.cost:Int))
 ok:p.Ok w
 ord:mI F p.order.ad p.order.xs.length
theorem qH.jP {T:TypeId} {F:Nat->Prop} {w:World} {a:Nat} {t:aW} {p:bK} {n:az} {bo:Option Addr} {bc:Nat} {bs:List (Nat × aW)} (h:qH T F w a t p n bo bc bs):uh F w a p:=
 ⟨h.gb.cell 0,h.gb.cell 1,h.gb.cell 2,h.gb.cell 3,h.gb.cell 4,h.gb.cell 5,h.ok,h.ord⟩
theorem uh.below {F:Nat->Prop} {w w':World} {a:Nat} {p:bK} (h:uh F w a p) (hb:Below w.heap.size w w'):uh F w' a p:=
 ⟨cB hb h.c0,cB hb h.c1,cB hb h.c2,cB hb h.c3,cB hb h.c4,cB hb h.c5,h.ok.below hb,h.ord⟩
theorem aC.jP {T:TypeId} {F:Nat->Prop} {w:World} {a:Nat} {t:aW} (h:aC T F w a t):∃ p,uh F w a p/\p.d=t.d:=by
 obtain⟨p,n,bo,bc,bs,hb,_⟩:=h.get;exact⟨p,hb.jP,hb.part⟩
theorem Hu {T:TypeId} {F:Nat->Prop} {w:World}:∀ {bs:List (Nat × aW)},(∀ x∈bs,aC T F w x.1 x.2)->∃ ps:List bK,ps.length=bs.length/\∀ i,i<bs.length->uh F w ((bs.map Prod.fst).getD i 0) (ps.getD i dM)/\(ps.getD i dM).d=((bs.map Prod.snd).getD i ll).d
 | [],_ => ⟨[],rfl,fun i hi => by simp at hi⟩
 | x::bs,h => by
  obtain⟨ps,hl,hp⟩:=Hu fun y hy=>h y (Xm _ hy)
  obtain⟨p,hp0,hd⟩:=(h x Xo).jP;refine⟨p::ps,by simp[hl],fun i hi=>?_⟩
  cases i with
  | zero => exact⟨hp0,hd⟩
  | succ i => exact hp i (by simpa using hi)
theorem ad7 {bs:List aW} {ps:List bK} (hl:ps.length=bs.length) (h:∀ i,i<bs.length->(ps.getD i dM).d=(bs.getD i ll).d) (i:Nat):(ps.getD i dM).d=(bs.getD i ll).d:=by
 by_cases hi:i<bs.length
 ·exact h i hi
 ·rw[Xq,Xr (by omega),Xq,Xr (by omega)];rfl
theorem LV {α:Type} (l:List α) (d:α) {i:Nat} (hi:i<l.length):l.take (i+1)=l.take i++[l.getD i d]:=by
 rw[List.take_add_one,ZG hi,Xq,ZG hi];rfl
theorem kK {w:World} {base:Nat} {e:TypeId} {v:Value} {n:Nat} {xs:List Nat} (h:w.ownsRow base e 1 v n (xs.map fun x=>Value.pointer (some (aD x 0)))) (hl:xs.length<=1000000) :
  ∃ ao cap,v=.slice ao xs.length cap/\cK w ao xs/\xs.length<=cap/\(ao=none->cap=0)/\∀ a,ao=some a->base<=a.block:=by
 have hn:n=xs.length:=by have:=h.1; rw[QU] at this; omega
 subst hn;rcases h.2 with⟨rfl,h1⟩ | ⟨g,cap,cur,rfl,hb,hh,hc,_,_,ht⟩
 ·have:=List.length_eq_zero_iff.1 h1;subst this;exact⟨none,0,rfl,⟨by simp,fun i hi=>by simp at hi⟩,by simp,fun _=>rfl,fun a e=>by cases e⟩
 ·refine⟨some (aD g 0),cap,rfl,⟨hl,fun i hi=>⟨g,0,rfl,?_⟩⟩,hc,(fun e=>by cases e),(fun a e=>by cases e; exact hb)⟩;have h2:(xs.map fun x=>Value.pointer (some (aD x 0)))[i]? = some (.pointer (some (aD (xs.getD i 0) 0))):=by
   rw[QW,ZG hi,Xq,ZG hi];rfl
  rw[<- ht,ZH] at h2;split at h2
  ·rw[QE];simp only[World.cell?,hh]
   simpa using h2
  ·cases h2
theorem Tryz.nT:(Tryz.prog.info? 100).map (fun i=>(i.zero,i.size,i.bytes))=some (some (.pointer none),1,8):=by kernel_rfl
theorem vB (W:World) (base:Nat) (v:Value) (xs:List Nat) (hown:W.ownsRow base 100 1 v xs.length (xs.map fun x=>Value.pointer (some (aD x 0)))) (hl:xs.length<=1000) (hb:base<=W.heap.size) (a:Nat) (ty:TypeId) :
  ∃ v' w',(Builtin.append_ #[118,118] ty #[v,.slice (some (aD W.heap.size 0)) 1 1]).run Tryz.prog (W.alloc (.cells #[.pointer (some (aD a 0))] 100))=.ok v' w'/\
   w'.ownsRow base 100 1 v' (xs++[a]).length ((xs++[a]).map fun x=>Value.pointer (some (aD x 0)))/\Kept (fun b=>v.ownBlock≠some b) W w'/\(∃ a m c,v' = .slice a m c)/\(v'.ownBlock=v.ownBlock∨v'.ownBlock=some (W.heap.size+1)):=by
 obtain⟨i0,hi,hz0,hz1,hz2⟩:=ZC Tryz.nT;obtain⟨v',w',hr,ho,hk,hs,hat⟩:=ZV (P:=Tryz.prog) W base 118 ty 100 i0 _ 1 8 Tryz.underlying118 hi hz0 hz1 hz2 rfl (by decide) v xs.length _ hown hb [.pointer (some (aD a 0))] rfl (fun u hu=>by
  rw[QY] at hu;rw[hu];rfl) hl (by decide)
 exact⟨v',w',hr,by rw[QT,Ql]; exact ho,hk,hs,hat⟩
theorem Ac (a:Addr) (cap:Nat) (xs:List Nat) (w:World) (hx:cK w (some a) xs) :
  Calls Tryz.prog 167 #[.slice (some a) xs.length cap] w fun e w'=>∃ v,e=.returned v/\w'.ownsRow w.heap.size 100 1 v xs.length (xs.map fun x=>Value.pointer (some (aD x 0)))/\Below w.heap.size w w':=by
 obtain⟨i0,hi,hz0,hz1,hz2⟩:=ZC Tryz.nT;obtain⟨v',w',hr,ho,hb,⟨va,vm,vc,rfl⟩⟩:=lL (P:=Tryz.prog) w 118 118 100 i0 (.pointer none) 1 8 Tryz.underlying118 hi hz0 hz1 hz2 rfl (by decide) a xs.length cap (xs.map fun x=>Value.pointer (some (aD x 0))) (by simp)
  (fun j u hj=>by
   rw[QW] at hj;by_cases hjl:j<xs.length
   ·obtain⟨b',off',e,hc⟩:=hx.2 j hjl;refine⟨b',off',e,?_⟩;rw[hc];simp[List.getD,hjl] at hj ⊢;exact hj
   ·rw[Xr (by omega)] at hj; cases hj) (fun u hu=>by obtain⟨x,_,rfl⟩:=Q0.1 hu; rfl) hx.1 (by decide)
 have HO:Hid _:=ho;have HB:=Zh hb;have hnil:∀ W,(binOp .eql 118 (.slice (some a) xs.length cap) (.slice none 0 0)).run Tryz.prog W=.ok (.bool false) W:=fun W=>XC W 118 _ (some a) _ _ _ _ Tryz.underlying118
 go_enter Tryz.func167,Tryz.ntmps167;go_wp2_with (first | (at_builtin; refine ZN rfl (.tmp 5) (.tmp 6) 118 rfl (.slice (some (aD w.heap.size 0)) 0 0) (.slice (some a) xs.length cap) (.slice va vm vc) w' rfl rfl hr ?_));go_wp2;go_ret;exact⟨_,rfl,HO.out,HB.out⟩
theorem Ad (w:World):Calls Tryz.prog 167 #[.slice none 0 0] w fun e w'=>e=.returned (.slice none 0 0)/\w' = w:=by
 have hnil:∀ W,(binOp .eql 118 (.slice none 0 0) (.slice none 0 0)).run Tryz.prog W=.ok (.bool true) W:=fun W=>XC W 118 _ none _ _ _ _ Tryz.underlying118
 go_enter Tryz.func167,Tryz.ntmps167;go_wp2;go_ret;exact⟨rfl,rfl⟩
theorem BS (bo:Option Addr) (bc:Nat) (xs:List Nat) (w:World) (hx:cK w bo xs) (hn:bo=none->bc=0) :
  Calls Tryz.prog 167 #[.slice bo xs.length bc] w fun e w'=>∃ v,e=.returned v/\w'.ownsRow w.heap.size 100 1 v xs.length (xs.map fun x=>Value.pointer (some (aD x 0)))/\Below w.heap.size w w':=by
 cases bo with
 | none =>
  obtain rfl:bc=0:=hn rfl;have h0:xs=[]:=by
   cases xs with
   | nil => rfl
   | cons x xs => obtain⟨b,off,e,_⟩:=hx.2 0 (by simp); cases e
  subst h0;refine (Ad w).mono ?_;rintro e w' ⟨rfl,rfl⟩;exact⟨_,rfl,ZE _ _ _ _,Qp _ _⟩
 | some a =>
  exact Ac a bc xs w hx
def XB:=@LV
theorem Ae {F:Nat->Prop} {W0 w:World} {f:aB} {ts:List af} {q:ae} (E:Env f ts q W0) (hz:Fz F W0 w) (n:az) (hn:LU F w n) (bo:Option Addr) (bc:Nat) (bs:List (Nat × aW)) (hp:cK w bo (bs.map Prod.fst)) (hnil:bo=none->bc=0)
  (hbs:∀ x∈bs,aC 120 F w x.1 x.2/\iC q x.2) (hl:bs.length=arity n.kind) (hk1:1<=n.kind) (hk10:n.kind<=10) (hsm:fJ q.wh.length n.cl.xs) (hsr:n.kind=1->0<=n.source/\n.source<q.src.xs.length) :
  Calls Tryz.prog 113 #[.agg (f.cells ts q),.agg n.cells,.slice bo bs.length bc] w fun e w'=>∃ a,e=.returned (.pointer (some (aD a 0)))/\aC 120 F w' a (aP ts q n (bs.map Prod.snd))/\w.heap.size<=a/\a<w'.heap.size/\Below w.heap.size w w':=by
 obtain⟨ps,hpl,hps⟩:=Hu (fun x hx=>(hbs x hx).1);have har:bs.length<=2:=by rw[hl]; unfold arity; split <;> (try split) <;> omega
 have hlen:(bs.map Prod.fst).length=bs.length:=QU _;have hd:=ad7 (bs:=bs.map Prod.snd) (ps:=ps) (by rw[hpl,QU]) (fun i hi=>(hps i (by rw[QU] at hi; exact hi)).2);have hok:∀ i,i<ps.length->(ps.getD i dM).sources<2 ^ q.src.xs.length/\(ps.getD i dM).clauses<2 ^ q.wh.length:=fun i hi=>by
  have e:=hd i;have hm:(bs.map Prod.snd).getD i ll∈bs.map Prod.snd:=ZM (by rw[QU]; omega);obtain⟨x,hx,hxe⟩:=Q0.1 hm;have ht:=(hbs x hx).2;rw[hxe] at ht;have e1:(ps.getD i dM).sources=((bs.map Prod.snd).getD i ll).d.sources:=congrArg iG.sources e;have e2:(ps.getD i dM).clauses=((bs.map Prod.snd).getD i ll).d.clauses:=congrArg iG.clauses e;rw[e1,e2];exact⟨ht.src,ht.cls⟩
 -- what is called
 have HPO:Hid (∀ (x:World) (a:Option Addr) (c:Nat),Below w.heap.size w x->PartsAt x a ps->Calls Tryz.prog 166 #[.agg (f.cells ts q),.agg n.cells,.slice a ps.length c] x fun e w'=>∃ p:bK,e=.returned (.agg p.cells)/\p.d=(aP ts q n (bs.map Prod.snd)).d/\p.Ok w'/\mI F p.order.ad p.order.xs.length/\Below x.heap.size x w'):=fun x a c hx Oc=>by
  refine (LQ f ts q n a c ps x E.ok ((E.at' hz).below hx) (Qo hx hn.cl) (Qo hx hn.co) hn.cap Oc hk1 hk10 (by rw[hpl,hl]) hsm hsr hok).mono ?_;rintro e w' ⟨p,he,yU,hpo,_,_,tK,hb⟩;refine⟨p,he,by rw[yU,hd 0,hd 1]; rfl,hpo,?_,hb⟩;rcases tK with h | h | h
  ·rw[h]; exact hn.cof
  ·rw[h];by_cases h0:0<bs.length
   ·exact (hps 0 h0).1.ord
   ·have:ps.getD 0 dM=dM:=by rw[Xq,Xr (by omega)]; rfl
    rw[this];intro h; exact absurd h (by decide)
  ·rw[h];intro h; exact absurd h (by decide)
 have Eo:Hid (∀ x:World,Below w.heap.size w x->Calls Tryz.prog 167 #[.slice bo bs.length bc] x fun e w'=>∃ v,e=.returned v/\w'.ownsRow x.heap.size 100 1 v bs.length ((bs.map Prod.fst).map fun x=>Value.pointer (some (aD x 0)))/\Below x.heap.size x w'):=fun x hx=>by
  have:=BS bo bc (bs.map Prod.fst) x (hp.below hx) hnil;rw[hlen] at this;exact this
 have jO:Hid (∀ (x:World) (a:Nat) (p:bK) (v:Value) (y:World),x.heap.size=a->w.heap.size<=y.heap.size->Below w.heap.size w y->Below y.heap.size y x->p.d=(aP ts q n (bs.map Prod.snd)).d->p.Ok x->mI F p.order.ad p.order.xs.length->x.ownsRow y.heap.size 100 1 v bs.length ((bs.map Prod.fst).map fun x=>Value.pointer (some (aD x 0)))->
   aC 120 F (x.alloc (.cells (De p n v) 120)) a (aP ts q n (bs.map Prod.snd))/\Below w.heap.size w (x.alloc (.cells (De p n v) 120))):=by
  intro x a p v y rfl' hwy hby hbx yU hpo hpf hv;subst rfl';obtain⟨ao,cap,rfl,hpt,hcp,hnl,hnew⟩:=kK hv (by rw[hlen]; omega);rw[hlen] at hcp ⊢;have hwx:Below w.heap.size w x:=hby.trans (hbx.mono hwy);have hba:=bU x (.cells (De p n (.slice ao bs.length cap)) 120);have hbw:Below w.heap.size w (x.alloc (.cells (De p n (.slice ao bs.length cap)) 120)):=hwx.trans (hba.mono hwx.size);refine⟨aC.intro (p:=p) (n:=n) (bo:=ao) (bc:=cap) (bs:=bs) ?_ (fun z hz'=>(hbs z hz').1.below hbw),hbw⟩;exact { blk:=hz.high _ hwx.size,gb:=kG _ _,part:=yU,ok:=hpo.below hba,ord:=hpf,cl:=Qo hbw hn.cl,clf:=hn.clf,cln:=hn.cln,co:=Qo hbw hn.co,cof:=hn.cof,con:=hn.con,ptrs:=hpt.below hba,ptf:=fun _ a e=>hz.high _ (Q4 hwy (hnew a e)),UN:=hcp,nil:=hnl,lay:=(by show oI n ((bs.map Prod.snd).map aW.ns)=_; rw[List.map_map]; rfl),two:=har,kind:=⟨hk1,hk10⟩,lens:=⟨hn.clb,hn.cob⟩ }
 have Oo:Hid (cK w bo (bs.map Prod.fst)):=hp;have YJ:Hid (∀ i,i<bs.length->uh F w ((bs.map Prod.fst).getD i 0) (ps.getD i dM)):=fun i hi=>(hps i hi).1
 have yl:Hid (∀ i,i<bs.length->ps.take (i+1)=ps.take i++[ps.getD i dM]):=fun i hi=>XB ps dM (by omega)
 have su:Hid (ps.length=bs.length):=hpl;have HAR:Hid (bs.length<=2):=har;have mH:Hid ((bs.map Prod.fst).length=bs.length):=hlen;have ano:bs.length<=1000:=by omega
 clear hok hd hps hpl hp hnil hbs hl hk1 hk10 hsm hsr hn hz E har hlen;generalize aP ts q n (bs.map Prod.snd)=GT at *;obtain⟨kind,nl,nr,src,⟨ca,cc,cl⟩,key,⟨da,dc,co⟩⟩:=n;obtain⟨v0,v1,v2,v3,v4,v5,v6,v7,v8,v9,v10,v11,v12,dw,-⟩:=Z8 f ts q;rw[dw] at HPO ⊢;clear dw;simp only[az.cells,ah.val,De] at *;generalize bs.map Prod.fst=bf at *;generalize bs.length=bl at *;clear bs;obtain⟨w1,hw1,hb1,hg1⟩:=bu w #[v0,v1,v2,v3,v4,v5,v6,v7,v8,v9,v10,v11,v12] 94;obtain⟨w2,hw2,hb2,hg2⟩:=bu w1 #[.int .i64 kind,.int .i64 nl,.int .i64 nr,.int .i64 src,.slice ca cl.length cc,.int .i64 key,.slice da co.length dc] 71;have wI:GB w2 w.heap.size 94 #[v0,v1,v2,v3,v4,v5,v6,v7,v8,v9,v10,v11,v12]:=hg1.of (hb2.block _ hg1.lt);have pR:Hid (GB w2 w.heap.size 94 #[v0,v1,v2,v3,v4,v5,v6,v7,v8,v9,v10,v11,v12]):=wI;have HG2:Hid (GB w2 w1.heap.size 71 #[.int .i64 kind,.int .i64 nl,.int .i64 nr,.int .i64 src,.slice ca cl.length cc,.int .i64 key,.slice da co.length dc]):=hg2;have HB2:Hid (Below w.heap.size w w2):=aG hb1 hb2;clear hb1 hb2 hg1 hg2 wI;go_enter Tryz.func113,Tryz.ntmps113;go_wp2;clear hw1 hw2;go_loopw [7,12] (fun pv iv wr=>∃ k:Nat,k<=bl/\iv=.int .i64 (k:Int)/\Hid (wr.ownsRow w2.heap.size 117 6 pv (ps.take k).length ((ps.take k).flatMap bK.list))/\Hid (Below w2.heap.size w2 wr)) (fun _ iv _=>bl-(intOf iv).toNat)
 case atStart=>exact⟨0,QQ _,rfl,ZE _ _ _ _,Qp _ _⟩
 case round=>
  obtain⟨k,hk,rfl,HQ,og⟩:=hrel;have hbw:Below w.heap.size w wr:=aG HB2.out og.out;by_cases hlt:k<bl
  ·obtain⟨bb,LW,rfl,hbc⟩:=cK.get (Oo.out.below hbw) (i:=k) (by rw[mH.out]; exact hlt);have hck:=hbc k (by rw[mH.out]; exact hlt);have hP:=(YJ.out k hlt).below hbw;have YK:Hid _:=yl.out k hlt;obtain⟨p,hp⟩:∃ p,p=ps.getD k dM:=⟨_,rfl⟩
   rw[<- hp] at hP YK;obtain⟨pa,Oc⟩:∃ a,a=bf.getD k 0:=⟨_,rfl⟩
   rw[<- Oc] at hP hck;obtain⟨c0,c1,c2,c3,c4,c5,-,-⟩:=hP;obtain⟨qa,qm,qc,rfl⟩:=ZA HQ.out;have ah1:w2.heap.size<=wr.heap.size:=og.out.size;obtain⟨v',w5,pO,lD,hk5,⟨xa,xm,xc,rfl⟩,hat⟩:=Rl wr w2.heap.size (.slice qa qm qc) (ps.take k) HQ.out (by rw[Q6]; omega) ah1 p 233;rw[<- YK.out] at lD;have qw:Hid _:=lD;have jZ:Hid (Below w2.heap.size w2 w5):=og.out.trans (hk5.below ah1 (fun b hb e=>by have:=(Zy HQ.out e).1; omega));obtain⟨pk,ss,cs,⟨oa,lM,ox⟩,pz,pt⟩:=p;simp only[bK.cells,ah.val] at *;clear hp lD hk5 hat hbc Oc YK HQ og hbw;go_wp2_with (first | (at_builtin; refine ZN rfl (.tmp 16) (.tmp 21) 233 rfl (.slice qa qm qc) (.slice (some (aD wr.heap.size 0)) 1 1) (.slice xa xm xc) w5 rfl rfl pO ?_));clear pO c0 c1 c2 c3 c4 c5 hck;go_wp2;go_roundw
   case rel=>exact⟨k+1,by omega,by go_num,qw.out,jZ.out⟩
   case measure=>simp[intOf]; omega
  ·have hkb:bl=k:=by omega
   subst hkb;rw[ZY (by rw[su.out]; exact Qq _)] at HQ;obtain⟨w3,hw3⟩:∃ x,x=wr:=⟨_,rfl⟩
   subst hw3;obtain⟨qa,qc,rfl,hQA⟩:=Pt HQ.out (by rw[su.out]; omega) (fun i hi=>((YJ.out i (by rw[su.out] at hi; exact hi)).below hbw).ok);have HQA:Hid (PartsAt w3 qa ps):=hQA;have HB3:Hid _:=hbw;have gA:GB w3 w.heap.size 94 #[v0,v1,v2,v3,v4,v5,v6,v7,v8,v9,v10,v11,v12]:=pR.out.of (og.out.block _ pR.out.lt);have gN:GB w3 w1.heap.size 71 #[.int .i64 kind,.int .i64 nl,.int .i64 nr,.int .i64 src,.slice ca cl.length cc,.int .i64 key,.slice da co.length dc]:=HG2.out.of (og.out.block _ HG2.out.lt);obtain⟨a0,a1,a2,a3,a4,a5,a6,a7,a8,a9,fI,fU,a12⟩:=gA.k13;obtain⟨n0,n1,n2,n3,n4,n5,n6⟩:=gN.k7;rw[su.out] at HPO ⊢;clear hQA hbw HQ og pR HG2 gA gN YJ yl Oo hlt hk;go_wp2_with fail;refine wH w3 fun hS=>?_
   refine wT 0 (.agg #[v0,v1,v2,v3,v4,v5,v6,v7,v8,v9,v10,v11,v12]) hS (fun x hx=>?_) ?_
   ·have e0:=qd hx a0 a1 a2 a3 a4 a5 a6 a7 a8 a9 fI fU a12;go_simp
   refine wT 1 (.agg #[.int .i64 kind,.int .i64 nl,.int .i64 nr,.int .i64 src,.slice ca cl.length cc,.int .i64 key,.slice da co.length dc]) hS (fun x hx=>?_) ?_
   ·have e0:=TP hx n0 n1 n2 n3 n4 n5 n6;go_simp
   refine wt 2 (.slice qa bl qc) hS ?_;refine wT 4 (.agg #[.int .i64 kind,.int .i64 nl,.int .i64 nr,.int .i64 src,.slice ca cl.length cc,.int .i64 key,.slice da co.length dc]) hS (fun x hx=>?_) ?_
   ·have e0:=TP hx n0 n1 n2 n3 n4 n5 n6;go_simp
   refine wt 5 (.slice bo bl bc) hS ?_;refine wR 3 fun K hK=>?_
   go_simp;refine Z7 (HPO.out _ qa qc (HB3.out.trans (hS.mono HB3.out.size)) (PartsAt.below hS HQA.out)) ?_;rintro e w4 ⟨p,rfl,yU,hpo,hpf,hb⟩;have hb4:=hS.trans (hb.mono hS.size);obtain⟨pk,ps',pc,⟨oa,lM,ox⟩,pz,pt⟩:=p;simp only[bK.cells,ah.val] at *;refine oT hK hS hb fun hS=>?_
   clear hK K;refine wR 6 fun K hK=>?_
   go_simp;refine Z7 (Eo.out _ (HB3.out.trans (hS.mono HB3.out.size))) ?_;rintro e w5 ⟨v,rfl,hv,hb5⟩;have fV:=hS.trans (hb5.mono hS.size);obtain⟨va,vn,vc,rfl⟩:=ZA hv;refine hK.out _ _ fV fun hS=>?_
   clear hK K;refine wt 7 (.agg #[.int .i64 pk,.int .u64 (ps':Int),.int .u64 (pc:Int),.slice oa ox.length lM,.int .u64 (pz:Int),.int .u64 (pt:Int),.int .i64 kind,.int .i64 nl,.int .i64 nr,.int .i64 src,.slice ca cl.length cc,.int .i64 key,.slice da co.length dc,.slice va vn vc]) hS ?_;refine wR 8 fun K hK=>?_
   go_simp;refine oA hK hS fun hS=>?_
   clear hK K;refine wR 9 fun K hK=>?_
   go_simp;refine hK.out _ _ hS fun hS=>?_
   clear hK K;refine wD ?_
   try simp only[pU]
   obtain⟨hT,hbe⟩:=jO.out w5 w5.heap.size ⟨pk,ps',pc,⟨oa,lM,ox⟩,pz,pt⟩ (.slice va vn vc) w4 rfl (Q4 HB3.out.size hb4.size) (HB3.out.trans (hb4.mono HB3.out.size)) hb5 yU (hpo.below hb5) hpf hv;have HT:Hid _:=hT;have nQ:Hid _:=hbe;have Gd:Hid (w.heap.size<=w5.heap.size):=Q4 HB3.out.size fV.size;clear hT hbe yU hpo hpf hb hb4 hv hb5 fV hS;go_wp2;go_ret;exact⟨_,rfl,HT.out,Gd.out,by simp,nQ.out⟩
theorem U4 {ts:List af} {q:ae} (ok:Ok ts q) (k:Nat):(aA ts q).getD k 0<18446744073709551616:=by
 by_cases hk:k<q.wh.length
 ·rw[CY ts q hk];exact Q8 (uQ (n:=q.src.xs.length) (BG ok.cat ok.src (ok.aH k hk))) (QZ (n:=2) (by omega) ok.small)
 ·rw[Xq,Xr (by rw[ZQ]; omega)];simp
theorem yA (f:aB) (ts:List af) (q:ae) (s:Nat) (w:World) (ok:Ok ts q) (hf:f.At ts q w) (hs:s<18446744073709551616) :
  Calls Tryz.prog 183 #[.agg (f.cells ts q),.int .u64 (s:Int)] w fun e w'=>e=.returned (.int .u64 ((dh (aA ts q) s:Nat):Int))/\Below w.heap.size w w':=by
 obtain⟨w1,hw1,hk1,hg⟩:=bu w ((f.cells ts q)) 94;have q11:=hg.at 11;have hnl:f.nl=(aA ts q).length:=by rw[ZQ]; exact hf.nl
 rw[hnl] at q11;have hco:=hf.conc.below hk1;have hcl:=hco.1;have mO:Hid _:=hco;have auD:(aA ts q).length<=64:=by rw[ZQ]; exact ok.lh
 have HCV:Hid (∀ k x,Calls Tryz.prog 116 #[.int .u64 (s:Int),.int .u64 (((aA ts q).getD k 0:Nat):Int)] x fun e w'=>e=.returned (.bool (bP s ((aA ts q).getD k 0)))/\w' = x):=fun k x=>oF s _ hs (U4 ok k) x
 have GM:Hid (∀ k,k<=64->fM (aA ts q) s k<18446744073709551616):=fun k hk=>Q8 (jy _ _ k) (QZ (n:=2) (by omega) hk)
 have HWS:Hid (∀ k,fM (aA ts q) s (k+1)=if bP s ((aA ts q).getD k 0)=true then fM (aA ts q) s k|||2 ^ k else fM (aA ts q) s k):=fun k=>rfl
 have HW0:Hid (fM (aA ts q) s 0=0):=rfl;have HWE:Hid (fM (aA ts q) s (aA ts q).length=dh (aA ts q) s):=rfl;have lK:=Zh hk1;generalize dh (aA ts q) s=R at *;generalize fM (aA ts q) s=WT at *;generalize f.cells ts q=FC at *;generalize aA ts q=CN at *;obtain⟨fca,fcc,fra,frc,fna,fnl,fnc,fpa,fpl,fpc⟩:=f;simp only at *;go_enter Tryz.func183,Tryz.ntmps183;go_wp2;go_loopw [5,11] (fun sv iv wr=>∃ k:Nat,k<=CN.length/\iv=.int .i64 k/\(∃ m:Nat,sv=.int .u64 (m:Int)/\Hid (m=WT k))/\Below w1.heap.size w1 wr) (fun _ iv _=>CN.length-(intOf iv).toNat)
 case atStart=>exact⟨0,QQ _,rfl,⟨0,rfl,HW0.out.symm⟩,Qp _ _⟩
 case round=>
  obtain⟨k,hk,rfl,⟨m,rfl,hm⟩,hbr⟩:=hrel;by_cases hlt:k<CN.length
  ·obtain⟨xb,xo,rfl,J5⟩:=fD.get mO.out hlt;have hck:=cB hbr (J5 k hlt);have hCV:=HCV.out k wr;have HT:=Zh (HWS.out k);have Hw:m<18446744073709551616:=by rw[hm.out]; exact GM.out k (by omega)
   rw[<- hm.out] at HT;generalize CN.getD k 0=c at *;obtain⟨B,hB⟩:∃ B,bP s c=B:=⟨_,rfl⟩
   rw[hB] at hCV HT;have aai:k<64:=by omega
   cases B with
   | true =>
    have HT2:Hid (WT (k+1)=m|||2 ^ k):=HT.out;obtain⟨wa,hwa⟩:∃ x,wr.alloc (.cells #[.int .i64 (k:Int)] 3)=x:=⟨_,rfl⟩
    have Le:=rQ wr.heap.size k wa (by rw[<- hwa]; simp) aai;obtain⟨wb,hwb⟩:∃ x,wa.alloc (.cells #[.int .u64 (m:Int),.int .u64 ((2 ^ k:Nat):Int)] 90)=x:=⟨_,rfl⟩
    have hp:2 ^ k<18446744073709551616:=ZW (n:=64) (by omega) aai;have hUN:=jq wa.heap.size m (2 ^ k) wb (by rw[<- hwb]; simp) (by rw[<- hwb]; simp) Hw hp;have jV:Hid (Below w1.heap.size w1 wb):=by
     show Below _ _ _
     rw[<- hwb,<- hwa];exact aG (aG hbr (bU _ _)) (bU _ _)
    generalize 2 ^ k=p at *;go_wp2_with fail;refine hCV.mono ?_;rintro e w2 ⟨rfl,rfl⟩;go_wp2_with fail;refine Le.mono ?_;rintro e w2 ⟨rfl,rfl⟩;go_wp2_with fail;refine hUN.mono ?_;rintro e w3 ⟨rfl,rfl⟩;go_wp2;go_roundw
    case rel=>exact⟨k+1,by omega,by go_num,⟨m|||p,rfl,HT2.out.symm⟩,jV.out⟩
    case measure=>simp[intOf]; omega
   | false =>
    have HT2:Hid (WT (k+1)=m):=HT.out;have jV:=Zh hbr;go_wp2_with fail;refine hCV.mono ?_;rintro e w2 ⟨rfl,rfl⟩;go_wp2;go_roundw
    case rel=>exact⟨k+1,by omega,by go_num,⟨m,rfl,HT2.out.symm⟩,jV.out⟩
    case measure=>simp[intOf]; omega
  ·obtain rfl:k=CN.length:=by omega
   have HV:=Zh (hm.out.trans HWE.out);have HB:=Zh hbr;go_wp2;go_ret;exact⟨Qe (by rw[HV.out]),aG lK.out HB.out⟩
section
structure aat (w2:World) (t e:TypeId) (pre:List Nat) (o1:Nat->Prop) (W:World):Prop where
 ex:∃ v,GB W w2.heap.size t #[v]/\W.ownsRow (w2.heap.size+1) e 1 v pre.length (pre.map fun n:Nat=>Value.int .i64 (n:Int))/\(∀ b,o1 b↔b=w2.heap.size∨v.ownBlock=some b)
 below:Below w2.heap.size w2 W
theorem aat.keep {w2:World} {t e:TypeId} {pre:List Nat} {o1:Nat->Prop} {A B:World} {n:Nat} (h:aat w2 t e pre o1 A) (hn:w2.heap.size<=n) (hk:Kept (fun b=>o1 b∨b<n) A B):aat w2 t e pre o1 B:=by
 obtain⟨v,hg,ho,hi⟩:=h.ex;exact⟨⟨v,hg.keep hk (.inl ((hi _).2 (.inl rfl))),Zx ho hk (fun g hg=>.inl ((hi g).2 (.inr hg))),hi⟩,h.below.trans (hk.below h.below.size (fun b hb=>.inr (by omega)))⟩
attribute [local go_sem] Oper.semAt_some
theorem BU (s:Nat) (hs:s<18446744073709551616) (w:World) :
  Calls Tryz.prog 224 #[.slice none 0 0,.func (.func 69) #[.int .u64 (s:Int)] #[]] w fun e w'=>∃ v,e=.returned v/\w'.ownsRow w.heap.size 3 1 v (ib s).length ((ib s).map (Value.int .i64))/\Below w.heap.size w w':=by
 obtain⟨i0,hi,hz0,hz1,hz2⟩:=ZC Tryz.iZ;have HSQ:=Zh (oL s hs);have mH:Hid ((bz s).length<=64):=by
  show _<=_
  unfold bz;exact Q4 (List.length_filter_le _ _) (by simp)
 have HE:Hid ((ib s).map (Value.int .i64)=(bz s).map fun n:Nat=>Value.int .i64 (n:Int)):=by
  show _=_
  unfold ib;rw[List.map_map];rfl
 have HEL:Hid ((ib s).length=(bz s).length):=by
  show _=_
  unfold ib;rw[QU]
 generalize bz s=RS at *;obtain⟨w1,hw1,hk1,hg1⟩:=bu w #[.slice none 0 0] 22;have hs1:Hid (w1.heap.size=w.heap.size+1):=by rw[<- hw1]; show _=_; simp
 have lK:=Zh hk1;have pR:Hid _:=hg1;refine (Ze (n:=0)).1 (Zt Tryz.func224 rfl trivial ?_ rfl);simp only[Tryz.ntmps224,Zj,Q5,Zk,Nat.reduceAdd,Nat.reduceSub,Zl,Zm,Zn,Zo,Zp,Zq]
 gi_wp2
 refine rT jA (gf:=69) (s:=.int .u64 (s:Int)) rfl (enters_of Tryz.func69 (by kernel_rfl) rfl) (HSQ.out w) lK.out rfl
  (fun pre o1 W=>aat w 22 3 pre o1 W) (fun b=>b=w.heap.size) ?_ ?_ ⟨⟨.slice none 0 0,pR.out,ZE _ _ _ _,fun b=>by simp[Value.ownBlock]⟩,lK.out⟩
  (fun x=>{ tmps:=#[.slice none 0 0,.func (.func 69) #[.int .u64 (s:Int)] #[],.pointer (some (aD w.heap.size 0)),undef,.slice none 0 0,.int .i64 (x:Int),.func (.func 69) #[.int .u64 (s:Int)] #[],.int .i64 (x:Int),undef,undef,undef,undef,undef],defers:=[] }) ?assign ?body ?done
 ·rintro b rfl;exact⟨Qq _,by have:=hs1.out; omega⟩
 ·intro pre o1 A B h hk;exact h.keep (by have:=hs1.out; omega) hk
 case assign=>
  intro l x W K hK;have he:jA.enc x=.int .i64 (x:Int):=rfl
  gi_wp2
  exact hK
 case body=>
  intro l pre x o1 W hG hpre _ _ hsz;have hpl:pre.length+1<=64:=by
   have:=hpre.length_le;rw[QU,QT] at this;exact Q4 this mH.out
  obtain⟨⟨v,hgb,hown,sU⟩,hbw⟩:=hG;obtain⟨va,vn,vc,rfl⟩:=ZA hown;have hc:=hgb.at 0;have hbs:=hbw.size;have oO:=Zh hgb;have HOW:Hid _:=hown;have YL:=Zh sU;have jV:=Zh hbw;have anp:=hs1.out
  gi_wp2_with (gi_at_builtin; refine wpListIn_append_own_at _ rfl _ _ 22 rfl (w.heap.size+1) 3 i0 (.int .i64 0) 1 8 Tryz.underlying22 hi hz0 hz1 hz2 rfl (by decide) _ _ _ rfl (hown.alloc _) (aD W.heap.size 0) 1 1 [.int .i64 (x:Int)] rfl rfl ?q1 ?q2 ?q3 ?q4 ?q5 ?_)
  case q1=>
   intro j u hj
   match j,hj with
   | 0,hj => simp at hj; subst hj; simp[Addr.add]
  case q2=>intro u hu; simp at hu; subst hu; rfl
  case q3=>unfold maxLen; omega
  case q4=>omega
  case q5=>simp; omega
  intro v' w3 hown3 hgrow3 _ Pj;obtain⟨Pk,TQ,Pm,rfl⟩:=ZA hown3;have hk3:Kept (fun b=>(Value.slice va vn vc).ownBlock≠some b) W w3:=(Zc _ _).trans (Zw hgrow3 (fun r e hr=>hr e));have hne:(Value.slice va vn vc).ownBlock≠some w.heap.size:=fun e=>by
   have:=(Zy HOW.out e).1;omega
  have hg3:=oO.out.keep hk3 hne;have hc3:=hg3.at 0;have hf3:=hg3.frozen 0;have wK:=Zh hg3;have pK:=Zh hk3;have Rm:Hid _:=hown3;have HAT:=Zh Pj
  gi_wp2
  have hkS:Kept (fun b=>b≠w.heap.size) w3 (w3.setCell (aD w.heap.size 0) (.slice Pk TQ Pm)):=Zv _ _ _ (fun h=>h rfl);have hnb:∀ b,(Value.slice Pk TQ Pm).ownBlock=some b->w.heap.size+1<=b/\b<w3.heap.size:=fun b e=>Zy Rm.out e
  refine⟨fun b=>b=w.heap.size∨(Value.slice Pk TQ Pm).ownBlock=some b,⟨⟨.slice Pk TQ Pm,wK.out.set 0 _,?_,fun b=>Iff.rfl⟩,?_⟩,?_,?_⟩
  ·have:=Zx Rm.out hkS (fun g hg=>by have:=(hnb g hg).1; omega);rw[QT,Ql];exact this
  ·refine jV.out.trans ((pK.out.mono (t:=fun b=>b<w.heap.size) fun b _ hb e=>?_).trans (hkS.mono fun b _ hb=>?_) |>.below jV.out.size (fun b hb=>hb))
   ·have:=(Zy HOW.out e).1;omega
   ·exact Nat.ne_of_lt hb
  ·refine (pK.out.mono fun b _ hb e=>hb ((YL.out b).2 (.inr e))).trans (hkS.mono fun b _ hb e=>hb ((YL.out b).2 (.inl e)))
  ·rintro b (rfl | hb)
   ·exact .inl ((YL.out _).2 (.inl rfl))
   ·have h3:(w3.setCell (aD w.heap.size 0) (.slice Pk TQ Pm)).heap.size=w3.heap.size:=by simp
    rcases HAT.out with e | e
    ·rw[e] at hb;exact .inl ((YL.out b).2 (.inr hb))
    ·rw[e] at hb;injection hb with hb;refine .inr (.inl ⟨?_,?_⟩)
     ·omega
     ·have:=(hnb b (by rw[e,hb])).2;omega
 case done=>
  rintro ys o' W hys hG hk2 hg2 hD;have hyy:ys=RS:=by simpa [jA] using hys
  subst hyy;have anp:=hs1.out;obtain⟨v,hgb,hown,sU⟩:=hG.ex;have hc:=hgb.at 0;have YL:=Zh sU;have HOW:Hid _:=hown;obtain⟨va,vn,vc,rfl⟩:=ZA HOW.out
  gi_wp2
  have hnD:¬ o' w1.heap.size:=fun h=>by
   rcases hg2 _ h with h | h
   ·omega
   ·omega
  refine⟨by simp,.inl ⟨_,_,rfl,Zu hD,?_⟩⟩;have hkp:=Za (s:=fun b=>o' b∨b<w1.heap.size) W (r:=w1.heap.size) (.deferred none) (by
   rintro (h | h)
   ·exact hnD h
   ·omega)
  refine⟨_,results_tmp rfl _ _ _,_,rfl,?_,?_⟩
  ·rw[HE.out,HEL.out];have h5:=Zx HOW.out hkp (fun g hg=>.inl ((YL.out g).2 (.inr hg)));exact⟨h5.1,h5.2.imp id fun ⟨g,cap,cur,e,hb,h⟩=>⟨g,cap,cur,e,by omega,h⟩⟩
  ·exact hG.below.trans (hkp.below hG.below.size (fun b hb=>.inr (by omega)))
theorem Af (s:Nat) (hs:s<18446744073709551616) (w:World) :
  Calls Tryz.prog 129 #[.int .u64 (s:Int)] w fun e w'=>∃ v,e=.returned v/\w'.ownsRow w.heap.size 3 1 v (ib s).length ((ib s).map (Value.int .i64))/\Below w.heap.size w w':=by
 have hC:∀ x,Calls Tryz.prog 184 #[.func (.func 69) #[.int .u64 (s:Int)] #[]] x fun e w'=>∃ v,e=.returned v/\w'.ownsRow x.heap.size 3 1 v (ib s).length ((ib s).map (Value.int .i64))/\Below x.heap.size x w':=by
  intro x;have hA:=BU s hs x;go_enter Tryz.func184,Tryz.ntmps184;go_wp2_with fail;refine hA.mono ?_;rintro e w2 ⟨v,rfl,ho,hb⟩;obtain⟨va,vn,vc,rfl⟩:=ZA ho;have HO:Hid _:=ho;have HB:=Zh hb;go_wp2;go_ret;exact⟨_,rfl,HO.out,HB.out⟩
 have hA:=hC w;go_enter Tryz.func129,Tryz.ntmps129;go_wp2_with fail;refine hA.mono ?_;rintro e w2 ⟨v,rfl,ho,hb⟩;obtain⟨va,vn,vc,rfl⟩:=ZA ho;have HO:Hid _:=ho;have HB:=Zh hb;go_wp2;go_ret;exact⟨_,rfl,HO.out,HB.out⟩
end
def bF (T:TypeId) (F:Nat->Prop) (w:World) (t:aW) (e:Ending) (w':World):Prop:=
 ∃ a,e=.returned (.pointer (some (aD a 0)))/\aC T F w' a t/\w.heap.size<=a/\a<w'.heap.size/\Below w.heap.size w w'
def dU:ah:=⟨none,0,[]⟩
theorem gI (w:World):dU.At w:=⟨by decide,fun i hi=>absurd hi (Nat.not_lt_zero _)⟩
theorem LX {w:World} {b:Nat} {v:Value} {t:TypeId} (h:w.heap[b]? = some (.cells #[v] t (0,0))):w.cell? (aD b 0)=some v:=by
 simp only[World.cell?,h];rfl
theorem fO {w:World} {base:Nat} {e:TypeId} {v:Value} {n:Nat} {xs:List Int} (h:w.ownsRow base e 1 v n (xs.map (Value.int .i64))) (hl:xs.length<=1000000) :
  ∃ iv:ah,v=iv.val/\iv.xs=xs/\iv.At w/\(∀ a,iv.ad=some a->base<=a.block)/\(iv.ad=none->iv.cap=0)/\iv.xs.length<=iv.cap:=by
 have hn:n=xs.length:=by have:=h.1; rw[QU] at this; omega
 subst hn;rcases h.2 with⟨rfl,h1⟩ | ⟨g,cap,cur,rfl,hb,hh,hc,_,_,ht⟩
 ·have:=List.length_eq_zero_iff.1 h1;subst this;exact⟨dU,rfl,rfl,gI w,(fun a e=>by cases e),(fun _=>rfl),Qq _⟩
 ·refine⟨⟨some (aD g 0),cap,xs⟩,rfl,rfl,⟨by simp only; omega,fun i hi=>⟨g,0,rfl,?_⟩⟩,(fun a e=>by cases e; exact hb),(fun e=>by cases e),hc⟩;have hi':i<xs.length:=hi;have h2:(xs.map (Value.int .i64))[i]? = some (.int .i64 (xs.getD i 0)):=by
   rw[QW,ZG hi',Xq,ZG hi'];rfl
  rw[<- ht,ZH] at h2;split at h2
  ·rw[QE];simp only[World.cell?,hh]
   simpa using h2
  ·cases h2
theorem mI.nil (F:Nat->Prop) (ao:Option Addr):mI F ao 0:=fun h=>absurd h (Nat.lt_irrefl _)
theorem Di {F:Nat->Prop} {W0 w:World} {f:aB} {ts:List af} {q:ae} (E:Env f ts q W0) (hz:Fz F W0 w) (s:Int) (h0:0<=s) (h1:s<q.src.xs.length) :
  Calls Tryz.prog 113 #[.agg (f.cells ts q),.agg #[.int .i64 1,.int .i64 0,.int .i64 0,.int .i64 s,.slice none 0 0,.int .i64 0,.slice none 0 0],.slice none 0 0] w (bF 120 F w (aP ts q (lX s) [])):=
 Ae E hz ⟨1,0,0,s,dU,0,dU⟩ ⟨gI w,mI.nil _ _,fun _=>rfl,gI w,mI.nil _ _,fun _=>rfl,Qq _,QQ _,QQ _⟩ none 0 [] ⟨by decide,fun i hi=>absurd hi (Nat.not_lt_zero _)⟩ (fun _=>rfl) (fun x hx=>by cases hx) rfl (by decide:(1:Int)<=1) (by decide:(1:Int)<=10) (Xt _) (fun _=>⟨h0,h1⟩)
theorem qN {F:Nat->Prop} {W0 w:World} {f:aB} {ts:List af} {q:ae} (E:Env f ts q W0) (hz:Fz F W0 w) (n:az) (hn:LU F w n) (a b:Nat) (t:aW) (ht:aC 120 F w a t) (hto:iC q t) (hc:w.cell? (aD b 0)=some (.pointer (some (aD a 0))))
  (har:arity n.kind=1) (hk1:2<=n.kind) (hk10:n.kind<=10) (hsm:fJ q.wh.length n.cl.xs) :
  Calls Tryz.prog 113 #[.agg (f.cells ts q),.agg n.cells,.slice (some (aD b 0)) 1 1] w (bF 120 F w (aP ts q n [t])):=
 Ae E hz n hn (some (aD b 0)) 1 [(a,t)] ⟨by simp,fun i hi=>⟨b,0,rfl,by
  have:i=0:=by simpa using hi
  subst this;exact hc⟩⟩ (fun e=>by cases e) (fun x hx=>by rw[QY] at hx; rw[hx]; exact⟨ht,hto⟩) (by rw[har]; rfl) (by omega) hk10 hsm (fun e=>by omega)
theorem Hy {F:Nat->Prop} {W0 w:World} {f:aB} {ts:List af} {q:ae} (E:Env f ts q W0) (hz:Fz F W0 w) (n:az) (hn:LU F w n) (a a' b:Nat) (t t':aW) (ht:aC 120 F w a t) (hto:iC q t) (ht':aC 120 F w a' t') (anq:iC q t') (hc:w.cell? (aD b 0)=some (.pointer (some (aD a 0)))) (hc':w.cell? (aD b 1)=some (.pointer (some (aD a' 0))))
  (h3:3<=n.kind) (h5:n.kind<=5) (hsm:fJ q.wh.length n.cl.xs) :
  Calls Tryz.prog 113 #[.agg (f.cells ts q),.agg n.cells,.slice (some (aD b 0)) 2 2] w (bF 120 F w (aP ts q n [t,t'])):=
 Ae E hz n hn (some (aD b 0)) 2 [(a,t),(a',t')] ⟨by simp,fun i hi=>⟨b,0,rfl,by
  have hi':i<2:=hi;rw[QE]
  match i,hi' with
  | 0,_ => exact hc
  | 1,_ => exact hc'⟩⟩ (fun e => by cases e) (fun x hx => by
   rcases QP.1 hx with hx | hx
   ·rw[hx]; exact⟨ht,hto⟩
   ·rw[QY] at hx; rw[hx]; exact⟨ht',anq⟩) (by unfold arity; rw[Qs (by omega),Qr (by omega)]; rfl) (by omega) (by omega) hsm (fun e=>by omega)
theorem Ag (a:Addr) (cap:Nat) (xs:List Int) (w:World) (hx:au w (some a) xs) (hl:xs.length<=1000000) :
  Calls Tryz.prog 48 #[.slice (some a) xs.length cap] w fun e w'=>∃ v,e=.returned v/\w'.ownsRow w.heap.size 3 1 v xs.length (xs.map (Value.int .i64))/\Below w.heap.size w w':=by
 obtain⟨i0,hi,hz0,hz1,hz2⟩:=ZC Tryz.iZ;obtain⟨v',w',hr,ho,hb,⟨va,vm,vc,rfl⟩⟩:=lL (P:=Tryz.prog) w 22 22 3 i0 (.int .i64 0) 1 8 Tryz.underlying22 hi hz0 hz1 hz2 rfl (by decide) a xs.length cap (xs.map (Value.int .i64)) (by simp)
  (fun j u hj=>by
   rw[QW] at hj;by_cases hjl:j<xs.length
   ·obtain⟨b',off',e,hc⟩:=hx.2 j hjl;refine⟨b',off',e,?_⟩;rw[hc];simp[List.getD,hjl] at hj ⊢;exact hj
   ·rw[Xr (by omega)] at hj; cases hj) (fun u hu=>by obtain⟨x,_,rfl⟩:=Q0.1 hu; rfl) hl (by decide)
 have HO:Hid _:=ho;have HB:=Zh hb;have hnil:∀ W,(binOp .eql 22 (.slice (some a) xs.length cap) (.slice none 0 0)).run Tryz.prog W=.ok (.bool false) W:=fun W=>XC W 22 _ (some a) _ _ _ _ Tryz.underlying22
 go_enter Tryz.func48,Tryz.ntmps48;go_wp2_with (first | (at_builtin; refine ZN rfl (.tmp 5) (.tmp 6) 22 rfl (.slice (some (aD w.heap.size 0)) 0 0) (.slice (some a) xs.length cap) (.slice va vm vc) w' rfl rfl hr ?_));go_wp2;go_ret;exact⟨_,rfl,HO.out,HB.out⟩
theorem Ah (w:World):Calls Tryz.prog 48 #[.slice none 0 0] w fun e w'=>e=.returned (.slice none 0 0)/\w' = w:=by
 have hnil:∀ W,(binOp .eql 22 (.slice none 0 0) (.slice none 0 0)).run Tryz.prog W=.ok (.bool true) W:=fun W=>XC W 22 _ none _ _ _ _ Tryz.underlying22
 go_enter Tryz.func48,Tryz.ntmps48;go_wp2;go_ret;exact⟨rfl,rfl⟩
theorem kI (x:ah) (w:World) (hx:x.At w) (hn:x.ad=none->x.cap=0) (hl:x.xs.length<=1000000) :
  Calls Tryz.prog 48 #[x.val] w fun e w'=>∃ v,e=.returned v/\w'.ownsRow w.heap.size 3 1 v x.xs.length (x.xs.map (Value.int .i64))/\Below w.heap.size w w':=by
 obtain⟨ad,cap,xs⟩:=x
 cases ad with
 | none =>
  obtain rfl:cap=0:=hn rfl;have h0:xs=[]:=by
   cases xs with
   | nil => rfl
   | cons x xs => obtain⟨b,off,e,_⟩:=hx.2 0 (by simp); cases e
  subst h0;refine (Ah w).mono ?_;rintro e w' ⟨rfl,rfl⟩;exact⟨_,rfl,ZE _ _ _ _,Qp _ _⟩
 | some a => exact Ag a cap xs w hx hl
structure IntsIn (F:Nat->Prop) (w:World) (iv:ah):Prop where
 at':iv.At w
 inf:mI F iv.ad iv.xs.length
 nil:iv.ad=none->iv.cap=0
 cap:iv.xs.length<=iv.cap
theorem IntsIn.aT {F:Nat->Prop} {w w':World} {iv:ah} (h:IntsIn F w iv) (hk:Kept F w w'):IntsIn F w' iv:=⟨Xu h.at' hk h.inf,h.inf,h.nil,h.cap⟩
theorem IntsIn.below {F:Nat->Prop} {w w':World} {iv:ah} (h:IntsIn F w iv) (hb:Below w.heap.size w w'):IntsIn F w' iv:=⟨Qo hb h.at',h.inf,h.nil,h.cap⟩
theorem IntsIn.dU (F:Nat->Prop) (w:World):IntsIn F w dU:=⟨gI w,mI.nil _ _,fun _=>rfl,Qq _⟩
theorem IntsIn.mono {F G:Nat->Prop} {w:World} {iv:ah} (h:IntsIn F w iv) (hs:∀ b,b<w.heap.size->F b->G b):IntsIn G w iv:=⟨h.at',mI.mono h.at'.2 h.inf hs,h.nil,h.cap⟩
theorem oU {F:Nat->Prop} {w:World} {base:Nat} {e:TypeId} {v:Value} {n:Nat} {xs:List Int} (h:w.ownsRow base e 1 v n (xs.map (Value.int .i64))) (hl:xs.length<=1000000) (hF:∀ b,base<=b->F b) :
  ∃ iv:ah,v=iv.val/\iv.xs=xs/\IntsIn F w iv:=by
 obtain⟨iv,h1,h2,h3,h4,h5,h6⟩:=fO h hl;exact⟨iv,h1,h2,h3,fun _ a e=>hF _ (h4 a e),h5,h6⟩
def Aq (F:Nat->Prop) (w:World) (xs:List Int) (e:Ending) (w':World):Prop:=∃ iv:ah,e=.returned iv.val/\iv.xs=xs/\IntsIn F w' iv/\Below w.heap.size w w'
theorem Env.Vb {f:aB} {ts:List af} {q:ae} {W0:World} (E:Env f ts q W0):(aN q).length<=4:=by
 unfold aN;split
 ·exact E.ahZ
 ·split
  ·unfold iH;rw[QU];exact E.few
  ·simp
theorem Env.Vd {f:aB} {ts:List af} {q:ae} {W0:World} (E:Env f ts q W0) {F:Nat->Prop} {w:World} (h:Fz F W0 w):IntsIn F w q.keys:=
 ⟨h.below.ints E.facts.query.keys,fun hn a e=>h.low _ (by
  obtain⟨b,off,e2,hc⟩:=E.facts.query.keys.2 0 hn;rw[e] at e2;injection e2 with e2;rw[e2];exact⟨_,_,hc⟩),E.ah0,E.dJ⟩
theorem vD {F:Nat->Prop} {W0 w:World} {f:aB} {ts:List af} {q:ae} (E:Env f ts q W0) (hz:Fz F W0 w):Calls Tryz.prog 115 #[.agg q.cells] w (Aq F w (aN q)):=by
 have hq:=(E.at' hz).query
 cases hg:q.group with
 | true =>
  have HR:Hid (aN q=q.keys.xs):=by show _=_; unfold aN; rw[Qr hg]
  have HK:=Zh (E.Vd hz);generalize aN q=R at *;obtain⟨⟨sa,sc,sx⟩,bY,aI,wh,group,⟨ka,kc,kx⟩,⟨ma,mc,mx⟩,⟨la,lc,lx⟩,⟨oa,oc,ox⟩⟩:=q;simp only[ae.cells,ah.val] at *;subst hg;obtain⟨w1,hw1,hb1,hg1⟩:=bu w #[.slice sa sx.length sc,.slice bY wh.length aI,.bool true,.slice ka kx.length kc,.slice ma mx.length mc,.slice la lx.length lc,.slice oa ox.length oc] 26;obtain⟨a0,a1,a2,a3,a4,a5,a6⟩:=hg1.k7;have HB1:=Zh hb1;go_enter Tryz.func115,Tryz.ntmps115;go_wp2;go_ret;exact⟨⟨ka,kc,kx⟩,rfl,HR.out.symm,HK.out.below HB1.out,HB1.out⟩
 | false =>
  have mO:Hid (∀ x,Below w.heap.size w x->Calls Tryz.prog 168 #[.agg q.cells] x fun e w'=>∃ v,e=.returned v/\w'.ownsRow x.heap.size 3 1 v (iH q).length ((iH q).map (Value.int .i64))/\Below x.heap.size x w'):=fun x hx=>lW q x (hq.below hx) (E.ord hg) (by have:=E.few; omega)
  have HR:Hid (aN q=if dF (iH q)=true then iH q else []):=by show _=_; unfold aN; rw[Qs (by rw[hg]; decide)]
  have GM:Hid ((iH q).length<=4):=by show _<=_; unfold iH; rw[QU]; exact E.few
  have vE:=Zh hz.high;generalize aN q=R at *;generalize iH q=WN at *;obtain⟨⟨sa,sc,sx⟩,bY,aI,wh,group,⟨ka,kc,kx⟩,⟨ma,mc,mx⟩,⟨la,lc,lx⟩,⟨oa,oc,ox⟩⟩:=q;simp only[ae.cells,ah.val] at *;subst hg;obtain⟨w1,hw1,hb1,hg1⟩:=bu w #[.slice sa sx.length sc,.slice bY wh.length aI,.bool false,.slice ka kx.length kc,.slice ma mx.length mc,.slice la lx.length lc,.slice oa ox.length oc] 26;obtain⟨a0,a1,a2,a3,a4,a5,a6⟩:=hg1.k7;have HB1:=Zh hb1;have Od:=mO.out w1 hb1;go_enter Tryz.func115,Tryz.ntmps115;go_wp2_with fail;refine Od.mono ?_;rintro e w2 ⟨v,rfl,hv,hb2⟩;obtain⟨iv,rfl,hx,hin⟩:=oU (F:=F) hv (by have:=GM.out; omega) (fun b hb=>vE.out b (Q4 HB1.out.size hb));have HB2:=Zh (aG HB1.out hb2);have Dk:=kD iv.ad iv.cap iv.xs w2 hin.at' hin.cap;have Ve:=Zh hin;rw[hx] at Dk;have HX:=Zh hx
  cases hap:dF WN with
  | true =>
   have HR2:Hid (R=WN):=by show _=_; rw[HR.out,Qr hap]
   rw[hap] at Dk;obtain⟨ia,ic,ix⟩:=iv;simp only at hx;subst hx;simp only[ah.val] at *;go_wp2_with fail;refine Dk.mono ?_;rintro e w3 ⟨rfl,hw3⟩;have hw3:=hw3.symm;subst hw3;go_wp2;go_ret;exact⟨⟨ia,ic,ix⟩,rfl,HR2.out.symm,Ve.out,HB2.out⟩
  | false =>
   have HR2:Hid (R=[]):=by show _=_; rw[HR.out,Qs (by rw[hap]; decide)]
   rw[hap] at Dk;obtain⟨ia,ic,ix⟩:=iv;simp only at hx;subst hx;simp only[ah.val] at *;go_wp2_with fail;refine Dk.mono ?_;rintro e w3 ⟨rfl,hw3⟩;have hw3:=hw3.symm;subst hw3;go_wp2;go_ret;exact⟨dU,rfl,HR2.out.symm,IntsIn.dU _ _,HB2.out⟩
theorem Ij (q:ae) (o:ah) (w:World) (hk:q.keys.At w) (ho:o.At w) (hoc:o.xs.length<=o.cap) :
  Calls Tryz.prog 255 #[.agg q.cells,o.val] w fun e w'=>e=.returned (.int .i64 (dI q o.xs))/\Below w.heap.size w w':=by
 cases hg:q.group with
 | false =>
  have hR:dI q o.xs=9:=by unfold dI; rw[Qr hg]
  rw[hR];generalize o.val=ov;obtain⟨⟨sa,sc,sx⟩,bY,aI,wh,group,⟨ka,kc,kx⟩,⟨ma,mc,mx⟩,⟨la,lc,lx⟩,⟨oa,oc,ox⟩⟩:=q;simp only[ae.cells,ah.val] at *;subst hg;obtain⟨w1,hw1,hb1,hg1⟩:=bu w #[.slice sa sx.length sc,.slice bY wh.length aI,.bool false,.slice ka kx.length kc,.slice ma mx.length mc,.slice la lx.length lc,.slice oa ox.length oc] 26;obtain⟨a0,a1,a2,a3,a4,a5,a6⟩:=hg1.k7;have HB1:=Zh hb1;go_enter Tryz.func255,Tryz.ntmps255;go_wp2;go_ret;exact⟨rfl,HB1.out⟩
 | true =>
  have hR:dI q o.xs=if bO o.xs q.keys.xs=true then 8 else 7:=by unfold dI; rw[Qs (by rw[hg]; decide)]
  rw[hR];have nQ:Hid (∀ x,Below w.heap.size w x->Calls Tryz.prog 229 #[.slice o.ad o.xs.length o.cap,.slice q.keys.ad q.keys.xs.length q.keys.cap] x fun e w'=>e=.returned (.bool (bO o.xs q.keys.xs))/\Below x.heap.size x w'):=fun x hx=>lV o.ad q.keys.ad o.cap q.keys.cap o.xs q.keys.xs x (Qo hx ho) (Qo hx hk) hoc
  obtain⟨ia,ic,ix⟩:=o;obtain⟨⟨sa,sc,sx⟩,bY,aI,wh,group,⟨ka,kc,kx⟩,⟨ma,mc,mx⟩,⟨la,lc,lx⟩,⟨oa,oc,ox⟩⟩:=q;simp only[ae.cells,ah.val] at *;subst hg;obtain⟨w1,hw1,hb1,hg1⟩:=bu w #[.slice sa sx.length sc,.slice bY wh.length aI,.bool true,.slice ka kx.length kc,.slice ma mx.length mc,.slice la lx.length lc,.slice oa ox.length oc] 26;obtain⟨a0,a1,a2,a3,a4,a5,a6⟩:=hg1.k7;have HB1:=Zh hb1;have hBE:=nQ.out w1 hb1;generalize bO ix kx=B at *;go_enter Tryz.func255,Tryz.ntmps255;go_wp2_with fail;refine hBE.mono ?_;rintro e w2 ⟨rfl,hb2⟩;have HB2:=Zh (aG HB1.out hb2)
  cases B with
  | true =>
   go_wp2;go_ret;exact⟨rfl,HB2.out⟩
  | false =>
   go_wp2;go_ret;exact⟨rfl,HB2.out⟩
