import Derived.Test.YtlpbelhfpoilpaaGreatDoorRE15
import Derived.Test.YtlpbelhfpoilpaaGreatDoorRE16
import Derived.Test.YtlpbelhfpoilpaaGreatDoorRE20
set_option linter.all false
set_option maxRecDepth 100000
set_option maxHeartbeats 16000000
namespace Go.Proofs.Zz
open Go.RowKit Go.Shelf
variable {rk:Nat->Int} {ts:List af} {q:ae} {conc:List Nat} {picks xs:List Int} {σ:iO} {b base d n:Nat} {tick:Int} {W0 w w':World} {ao:Option Addr} {f:au} {e:TypeId} {F:Nat->Prop} {v:Value}
theorem nI(rk:Nat->Int)(ts:List af)(q:ae)(conc:List Nat)(picks:List Int):∀ (n k:Nat) (σ:iO),runN rk ts q conc picks (n+1) k σ=if (runN rk ts q conc picks n k σ).status=1 then jA rk ts q conc (jL picks (k+n)) (runN rk ts q conc picks n k σ) else runN rk ts q conc picks n k σ
 | 0,k,σ => rfl
 | n+1,k,σ => by
  show (if σ.status=1 then runN rk ts q conc picks (n+1) (k+1) (jA rk ts q conc (jL picks k) σ) else σ)=_
  have e:runN rk ts q conc picks (n+1) k σ=if σ.status=1 then runN rk ts q conc picks n (k+1) (jA rk ts q conc (jL picks k) σ) else σ:=rfl
  by_cases h:σ.status=1
  ·rw[Qy h,nI rk ts q conc picks n (k+1),e,Qy h,show k+1+n=k+(n+1) by omega]
  ·rw[Qz h,e,Qz h,Qz h]
theorem uD{rk:Nat->Int}{ts:List af}{q:ae}{conc:List Nat}(hcn:conc.length=q.wh.length)(h5:q.src.xs.length<=5)(picks:List Int){σ:iO}(h:Es q σ):∀ n,Es q (runN rk ts q conc picks n 0 σ)/\(runN rk ts q conc picks n 0 σ).picks.length<=σ.picks.length+n
 | 0 => ⟨h,Qx _⟩
 | n+1 => by
  obtain⟨h1,h2⟩:=uD (rk:=rk) (ts:=ts) hcn h5 picks h n;rw[nI];split
  ·rename_i hs
   have:=YV (rk:=rk) (ts:=ts) hcn h1 h5 hs (jL picks (0+n));exact⟨this.1,by omega⟩
  ·exact⟨h1,by omega⟩
def goT(rk:Nat->Int)(ts:List af)(q:ae)(conc:List Nat)(picks:List Int)(n:Nat)(tick:Int)(σ:iO):iO:=
 if 0<=tick/\tick<n then
  (if (runN rk ts q conc picks tick.toNat 0 σ).status=1 then { runN rk ts q conc picks tick.toNat 0 σ with status:=4 } else runN rk ts q conc picks tick.toNat 0 σ)
 else runN rk ts q conc picks n 0 σ
theorem zO{rk:Nat->Int}{ts:List af}{q:ae}{conc:List Nat}{picks:List Int}{σ:iO}{d:Nat}(h:(runN rk ts q conc picks d 0 σ).status≠1):∀ m,runN rk ts q conc picks (d+m) 0 σ=runN rk ts q conc picks d 0 σ
 | 0 => rfl
 | m+1 => by
  rw[show d+(m+1)=d+m+1 by omega,nI,zO h m,Qz h]
theorem aaT(h:(runN rk ts q conc picks d 0 σ).status≠1)(hd:d<=n)(ht:tick<0∨(d:Int)<=tick):goT rk ts q conc picks n tick σ=runN rk ts q conc picks d 0 σ:=by
 unfold goT;split
 ·rename_i hc
  obtain⟨m,hm⟩:∃ m,tick.toNat=d+m:=⟨tick.toNat-d,by omega⟩
  rw[hm,zO h,Qz h]
 ·obtain⟨m,hm⟩:∃ m,n=d+m:=⟨n-d,by omega⟩
  rw[hm,zO h]
theorem Ij(ht:tick<0∨(n:Int)<=tick):goT rk ts q conc picks n tick σ=runN rk ts q conc picks n 0 σ:=by
 unfold goT;rw[Qz (by omega)]
theorem aaU(hd:d<n)(h:(runN rk ts q conc picks d 0 σ).status=1):goT rk ts q conc picks n (d:Int) σ = { runN rk ts q conc picks d 0 σ with status:=4 }:=by
 unfold goT;rw[Qy ⟨by omega,by omega⟩];rw[show (d:Int).toNat=d by omega,Qy h]
def oq(F:Nat->Prop)(ao:Option Addr)(n:Nat):Prop:=0<n->∀ a,ao=some a->F a.block
def dB(w:World)(ao:Option Addr)(xs:List Nat):Prop:=
 xs.length<=1000000/\bC w ao xs.length (fun i=>.pointer (some (aD (xs.getD i 0) 0)))
theorem dB.get{w:World}{ao:Option Addr}{xs:List Nat}(h:dB w ao xs){i:Nat}(hi:i<xs.length) :
  ∃ b off,ao=some (aD b off)/\∀ j,j<xs.length->w.cell? (aD b (off+j))=some (.pointer (some (aD (xs.getD j 0) 0))):=
 Qi h.2 hi
theorem dB.below{w w':World}(hb:Bw w w'){ao:Option Addr}{xs:List Nat}(h:dB w ao xs):dB w' ao xs:=⟨h.1,h.2.below hb⟩
theorem bC.aX{A B:World}{F:Nat->Prop}{ao:Option Addr}{n:Nat}{f:Nat->Value}(h:bC A ao n f)(hk:Kept F A B)(hF:oq F ao n):bC B ao n f:=by
 cases n with
 | zero => intro i hi; omega
 | succ m => exact h.keep (fun a ha hl => hk.block _ hl (hF (by omega) a ha))
theorem aB.aX{A B:World}{F:Nat->Prop}{ao:Option Addr}{xs:List Int}(h:aB A ao xs)(hk:Kept F A B)(hF:oq F ao xs.length):aB B ao xs:=⟨h.1,h.2.aX hk hF⟩
theorem dB.aX{A B:World}{F:Nat->Prop}{ao:Option Addr}{xs:List Nat}(h:dB A ao xs)(hk:Kept F A B)(hF:oq F ao xs.length):dB B ao xs:=⟨h.1,h.2.aX hk hF⟩
theorem bC.lt{f:Nat->Value}(h:bC w ao n f)(hn:0<n):∀ a,ao=some a->a.block<w.heap.size:=by
 intro a ha;obtain⟨b,off,e,hc⟩:=h 0 hn;rw[ha]at e;injection e with e;rw[e];exact Zv hc
theorem oq.mono{F G:Nat->Prop}{w:World}{ao:Option Addr}{n:Nat}{f:Nat->Value}(hc:bC w ao n f)(h:oq F ao n)(hs:∀ b,b<w.heap.size->F b->G b):oq G ao n:=
 fun hn a ha=>hs _ (hc.lt hn a ha) (h hn a ha)
def Fg(p:az)(n:ai)(v:Value):Array Value:=
 #[.int .i64 p.kind,.int .u64 (p.sources:Int),.int .u64 (p.clauses:Int),p.order.val,.int .u64 (p.size:Int),.int .u64 (p.cost:Int),
  .int .i64 n.kind,.int .i64 n.l,.int .i64 n.r,.int .i64 n.source,n.cl.val,.int .i64 n.key,n.co.val,v]
structure rZ(T:TypeId)(F:Nat->Prop)(w:World)(a:Nat)(t:aQ)(p:az)(n:ai)(bo:Option Addr)(bc:Nat)(bs:List (Nat × aQ)):Prop where
 blk:F a
 gb:GB w a T (Fg p n (.slice bo bs.length bc))
 part:p.d=t.d
 ok:p.Ok w
 ord:oq F p.order.ad p.order.xs.length
 cl:n.cl.At w
 clf:oq F n.cl.ad n.cl.xs.length
 cln:n.cl.ad=none->n.cl.cap=0
 co:n.co.At w
 cof:oq F n.co.ad n.co.xs.length
 con:n.co.ad=none->n.co.cap=0
 ptrs:dB w bo (bs.map Prod.fst)
 ptf:oq F bo bs.length
 WV:bs.length<=bc
 nil:bo=none->bc=0
 lay:t.ns=qE n (bs.map fun x=>x.2.ns)
 two:bs.length<=2
 kind:1<=n.kind/\n.kind<=10
 lens:n.cl.xs.length<=1000/\n.co.xs.length<=1000
def nN(T:TypeId)(F:Nat->Prop):Nat->World->Nat->aQ->Prop
 | 0,_,_,_ => False
 | k+1,w,a,t => ∃ p n bo bc bs,rZ T F w a t p n bo bc bs/\∀ x∈bs,nN T F k w x.1 x.2
theorem rZ.aX{T:TypeId}{F:Nat->Prop}{w w':World}{a:Nat}{t:aQ}{p:az}{n:ai}{bo:Option Addr}{bc:Nat}{bs:List (Nat × aQ)}(h:rZ T F w a t p n bo bc bs)(hk:Kept F w w'):rZ T F w' a t p n bo bc bs where
 blk:=h.blk
 gb:=h.gb.keep hk h.blk
 part:=h.part
 ok:=⟨aB.aX h.ok.order hk h.ord,h.ok.cap,h.ok.sources,h.ok.clauses,h.ok.size,h.ok.cost⟩
 ord:=h.ord
 cl:=aB.aX h.cl hk h.clf
 clf:=h.clf
 cln:=h.cln
 co:=aB.aX h.co hk h.cof
 cof:=h.cof
 con:=h.con
 ptrs:=h.ptrs.aX hk (by rw[Zc]; exact h.ptf)
 ptf:=h.ptf
 WV:=h.WV
 nil:=h.nil
 lay:=h.lay
 two:=h.two
 kind:=h.kind
 lens:=h.lens
theorem rZ.mono{T:TypeId}{F G:Nat->Prop}{w:World}{a:Nat}{t:aQ}{p:az}{n:ai}{bo:Option Addr}{bc:Nat}{bs:List (Nat × aQ)}(h:rZ T F w a t p n bo bc bs)(hs:∀ b,b<w.heap.size->F b->G b):rZ T G w a t p n bo bc bs where
 blk:=hs _ h.gb.lt h.blk
 gb:=h.gb
 part:=h.part
 ok:=h.ok
 ord:=oq.mono h.ok.order.2 h.ord hs
 cl:=h.cl
 clf:=oq.mono h.cl.2 h.clf hs
 cln:=h.cln
 co:=h.co
 cof:=oq.mono h.co.2 h.cof hs
 con:=h.con
 ptrs:=h.ptrs
 ptf:=by
  have:=oq.mono h.ptrs.2 (by rw[Zc]; exact h.ptf) hs
  rwa [Zc]at this
 WV:=h.WV
 nil:=h.nil
 lay:=h.lay
 two:=h.two
 kind:=h.kind
 lens:=h.lens
theorem nN.aX{T:TypeId}{F:Nat->Prop}{w w':World}(hk:Kept F w w'):∀ {k a:Nat} {t:aQ},nN T F k w a t->nN T F k w' a t
 | 0,_,_,h => h
 | _+1,_,_,⟨p,n,bo,bc,bs,hb,hs⟩ => ⟨p,n,bo,bc,bs,hb.aX hk,fun x hx => (hs x hx).aX hk⟩
theorem nN.mono{T:TypeId}{F G:Nat->Prop}{w:World}(hs:∀ b,b<w.heap.size->F b->G b):∀ {k a:Nat} {t:aQ},nN T F k w a t->nN T G k w a t
 | 0,_,_,h => h
 | _+1,_,_,⟨p,n,bo,bc,bs,hb,hx⟩ => ⟨p,n,bo,bc,bs,hb.mono hs,fun x h => (hx x h).mono hs⟩
theorem nN.more{T:TypeId}{F:Nat->Prop}{w:World}:∀ {k m a:Nat} {t:aQ},nN T F k w a t->k<=m->nN T F m w a t
 | 0,_,_,_,h,_ => h.elim
 | _+1,0,_,_,_,h => by omega
 | _+1,_+1,_,_,⟨p,n,bo,bc,bs,hb,hx⟩,h => ⟨p,n,bo,bc,bs,hb,fun x hm => (hx x hm).more (by omega)⟩
def aG(T:TypeId)(F:Nat->Prop)(w:World)(a:Nat)(t:aQ):Prop:=∃ k,nN T F k w a t
theorem aG.aX{T:TypeId}{F:Nat->Prop}{w w':World}{a:Nat}{t:aQ}(h:aG T F w a t)(hk:Kept F w w'):aG T F w' a t:=h.imp fun _ h=>h.aX hk
theorem aG.mono{T:TypeId}{F G:Nat->Prop}{w:World}{a:Nat}{t:aQ}(h:aG T F w a t)(hs:∀ b,b<w.heap.size->F b->G b):aG T G w a t:=h.imp fun _ h=>h.mono hs
theorem aG.below{T:TypeId}{F:Nat->Prop}{w w':World}{a:Nat}{t:aQ}(h:aG T F w a t)(hb:Bw w w'):aG T F w' a t:=h.aX (Zo hb fun _ h _=>h)
theorem aG.get{T:TypeId}{F:Nat->Prop}{w:World}{a:Nat}{t:aQ}(h:aG T F w a t):∃ p n bo bc bs,rZ T F w a t p n bo bc bs/\∀ x∈bs,aG T F w x.1 x.2:=by
 obtain⟨k,h⟩:=h
 cases k with
 | zero => exact h.elim
 | succ k =>
  obtain⟨p,n,bo,bc,bs,hb,hx⟩:=h;exact⟨p,n,bo,bc,bs,hb,fun x hm=>⟨k,hx x hm⟩⟩
theorem Fh{T:TypeId}{F:Nat->Prop}{w:World}:∀ {bs:List (Nat × aQ)},(∀ x∈bs,aG T F w x.1 x.2)->∃ k,∀ x∈bs,nN T F k w x.1 x.2
 | [],_ => ⟨0,fun x h => by cases h⟩
 | y::bs,h => by
  obtain⟨k,hk⟩:=Fh fun x hx=>h x (Xf _ hx)
  obtain⟨m,hm⟩:=h y Xg;refine⟨max k m,fun x hx=>?_⟩;rcases Q4.1 hx with rfl | hx
  ·exact hm.more (Nat.le_max_right _ _)
  ·exact(hk x hx).more (Nat.le_max_left _ _)
theorem aG.intro{T:TypeId}{F:Nat->Prop}{w:World}{a:Nat}{t:aQ}{p:az}{n:ai}{bo:Option Addr}{bc:Nat}{bs:List (Nat × aQ)}(h:rZ T F w a t p n bo bc bs)(hx:∀ x∈bs,aG T F w x.1 x.2):aG T F w a t:=by
 obtain⟨k,hk⟩:=Fh hx;exact⟨k+1,p,n,bo,bc,bs,h,hk⟩
def Xe:=@aB.aX
theorem Tv(size:Nat)(hb:base<=b)(h:w.heap[b]? = some (.cells #[] e (0,0))):w.ownsRow base e size (.slice (some (aD b 0)) 0 0) 0 []:=
 ⟨by simp,.inr ⟨b,0,#[],rfl,hb,h,Qx _,by unfold maxLen; omega,by simp,by simp⟩⟩
theorem nE{P:Program}(W:World)(t ty e:TypeId)(i:TypeInfo)(z:Value)(size bytes:Nat)(ht:P.underlying t=some (.slice e))(hi:P.info? e=some i)(hz:i.zero=some z)(hsize:i.size=size)(hby:i.bytes=bytes)(hzs:z.cells.size=size)(hsz:0<size)
  (a:Addr) (m c:Nat) (news:List Value) (hl:news.length=m*size) (hnews:∀ j u,news[j]? = some u->∃ b off,some a=some (aD b off)/\W.cell? (aD b (off+j))=some u) (h1:∀ u∈news,u.oneCell' = true) (hm:m<=1000000) (hbb:bytes<=1000) :
  ∃ v' w',(Builtin.append_ #[t,t] ty #[.slice (some (aD W.heap.size 0)) 0 0,.slice (some a) m c]).run P (W.alloc (.cells #[] e))=.ok v' w'/\w'.ownsRow W.heap.size e size v' m news/\Bw W w'/\(∃ a k d,v' = .slice a k d):=by
 have hb1:=dn W (.cells #[] e);obtain⟨v',w',hr,ho,hg,_,_⟩:=run_append_own_at (P:=P) (W.alloc (.cells #[] e)) W.heap.size t ty e i z size bytes ht hi hz hsize hby hzs hsz (.slice (some (aD W.heap.size 0)) 0 0) 0 [] (Tv size (Qx _) (l6 W _)) a m c news hl
  (fun j u hj=>by obtain⟨b,off,e,hc⟩:=hnews j u hj; injection e with e; rw[e,addr_add]; exact cB hb1 hc) h1 (by unfold maxLen; omega) (by rw[QQ]; have:=Nat.mul_le_mul hm hbb; omega) (by rw[Zt]; omega)
 rw[QQ,ZG]at ho;refine⟨v',w',hr,ho,hb1.trans ((ZM (s:=fun x=>x<W.heap.size) hg (fun r e hr=>?_)).below (by rw[Zt]; omega) (fun _ h=>h)),ZP ho⟩;simp only[Value.ownBlock]at e;injection e with e;omega
theorem BZ(a:Addr)(cap:Nat)(xs:List Int)(w:World)(hx:aB w (some a) xs)(hl:xs.length<=1000000) :
  Calls Tryz.prog 117 #[.slice (some a) xs.length cap] w fun e w'=>∃ v,e=.returned v/\w'.ownsRow w.heap.size 3 1 v xs.length (xs.map (Value.int .i64))/\Bw w w':=by
 obtain⟨i0,hi,hz0,hz1,hz2⟩:=ZU Tryz.kV;obtain⟨v',w',hr,ho,hb,⟨va,vm,vc,rfl⟩⟩:=nE (P:=Tryz.prog) w 23 23 3 i0 (.int .i64 0) 1 8 Tryz.underlying23 hi hz0 hz1 hz2 rfl (by decide) a xs.length cap (xs.map (Value.int .i64)) (by simp)
  (fun j u hj=>by
   rw[Ze]at hj;by_cases hjl:j<xs.length
   ·obtain⟨b',off',e,hc⟩:=hx.2 j hjl;refine⟨b',off',e,?_⟩;rw[hc];simp[List.getD,hjl]at hj ⊢;exact hj
   ·rw[Zk (by omega)]at hj; cases hj) (fun u hu=>by obtain⟨x,_,rfl⟩:=Zi.1 hu; rfl) hl (by decide)
 have HO:Hid _:=ho;have HB:=Zh hb;have hnil:∀ W,(binOp .eql 23 (.slice (some a) xs.length cap) (.slice none 0 0)).run Tryz.prog W=.ok (.bool false) W:=fun W=>XF W 23 _ (some a) _ _ _ _ Tryz.underlying23
 go_enter Tryz.func117,Tryz.ntmps117;go_wp2_with (first | (at_builtin; refine Z8 rfl (.tmp 5) (.tmp 6) 23 rfl (.slice (some (aD w.heap.size 0)) 0 0) (.slice (some a) xs.length cap) (.slice va vm vc) w' rfl rfl hr ?_));go_wp2;go_ret;exact⟨_,rfl,HO.o,HB.o⟩
theorem Ca(w:World):Ce 117 #[.slice none 0 0] w (.slice none 0 0):=by
 have hnil:∀ W,(binOp .eql 23 (.slice none 0 0) (.slice none 0 0)).run Tryz.prog W=.ok (.bool true) W:=fun W=>XF W 23 _ none _ _ _ _ Tryz.underlying23
 go_enter Tryz.func117,Tryz.ntmps117;go_wp2;go_ret;exact⟨rfl,rfl⟩
theorem pE(x:ah)(w:World)(hx:x.At w)(hn:x.ad=none->x.cap=0)(hl:x.xs.length<=1000000) :
  Calls Tryz.prog 117 #[x.val] w fun e w'=>∃ v,e=.returned v/\w'.ownsRow w.heap.size 3 1 v x.xs.length (x.xs.map (Value.int .i64))/\Bw w w':=by
 obtain⟨ad,cap,xs⟩:=x
 cases ad with
 | none =>
  obtain rfl:cap=0:=hn rfl;have h0:xs=[]:=by
   cases xs with
   | nil => rfl
   | cons x xs => obtain⟨b,off,e,_⟩:=hx.2 0 (by simp); cases e
  subst h0;refine(Ca w).mono ?_;rintro e w' ⟨rfl,rfl⟩;exact⟨_,rfl,ZV _ _ _ _,Qw _ _⟩
 | some a => exact BZ a cap xs w hx hl
structure Env(f:au)(ts:List af)(q:ae)(W0:World):Prop where
 ok:Ok ts q
 facts:f.At ts q W0
 shapes:bQ W0 0
 one:1<=q.src.xs.length
 five:q.src.xs.length<=5
 eight:q.wh.length<=8
 ord:q.group=false->bN q.ord.xs q.aV.xs.length=true
 few:q.ord.xs.length<=4
 keys:gB ts q q.keys.xs
 want:q.group=false->gB ts q (jg q)
 akF:q.keys.xs.length<=4
 eO:q.keys.xs.length<=q.keys.cap
 akG:q.keys.ad=none->q.keys.cap=0
def Live(W0:World)(b:Nat):Prop:=∃ o v,W0.cell? (aD b o)=some v
theorem Live.lt(h:Live W0 b):b<W0.heap.size:=by
 obtain⟨o,v,h⟩:=h;exact Zv h
structure Under(W0 w:World):Prop where
 size:W0.heap.size<=w.heap.size
 cell:∀ b o v,W0.cell? (aD b o)=some v->w.cell? (aD b o)=some v
theorem Under.kept(h:Under W0 w){s:Nat->Prop}(hk:Kept s w w')(hs:∀ b,Live W0 b->s b):Under W0 w':=
 ⟨Zl h.size hk.size,fun b o v e=>by
  have h1:=h.cell b o v e;rw[Zw (hk.block b (Zv h1) (hs b ⟨o,v,e⟩))];exact h1⟩
theorem Under.cells(h:Under W0 w){f:Nat->Value}(hc:bC W0 ao n f):bC w ao n f:=fun i hi=>by
 obtain⟨b,off,e,hc⟩:=hc i hi;exact⟨b,off,e,h.cell _ _ _ hc⟩
theorem Under.ints(h:Under W0 w)(hi:aB W0 ao xs):aB w ao xs:=⟨hi.1,h.cells hi.2⟩
theorem Under.agq(h:Under W0 w){xs:List Nat}(hi:fF W0 ao xs):fF w ao xs:=⟨hi.1,h.cells hi.2⟩
theorem Under.aO(h:Under W0 w){cs:List (Nat × Int)}(hi:iF W0 ao cs):iF w ao cs:=⟨hi.1,fun i hj=>by
 obtain⟨b,off,e,c0,c1⟩:=hi.2 i hj;exact⟨b,off,e,h.cell _ _ _ c0,h.cell _ _ _ c1⟩⟩
theorem Under.conds(h:Under W0 w){cs:List aC}(hi:bH W0 ao cs):bH w ao cs:=⟨hi.1,fun i hj=>by
 obtain⟨b,off,e,c0,c1,c2,c3,c4⟩:=hi.2 i hj;exact⟨b,off,e,h.cell _ _ _ c0,h.cell _ _ _ c1,h.cell _ _ _ c2,h.cell _ _ _ c3,h.cell _ _ _ c4⟩⟩
theorem Under.query(h:Under W0 w)(hq:q.At W0):q.At w:=
 ⟨h.ints hq.src,⟨hq.wh.1,h.cells hq.wh.2.1,fun i hi=>h.conds (hq.wh.2.2 i hi)⟩,h.ints hq.keys,h.ints hq.sums,h.ints hq.aV,h.ints hq.ord⟩
theorem Under.facts(h:Under W0 w)(hf:f.At ts q W0):f.At ts q w:=
 ⟨h.query hf.query,h.aO hf.aO,h.agq hf.rows,h.agq hf.conc,h.agq hf.parts,hf.nl,hf.pl⟩
structure Fz(F:Nat->Prop)(W0 w:World):Prop where
 below:Under W0 w
 low:∀ b,Live W0 b->F b
 high:∀ b,w.heap.size<=b->F b
theorem Fz.next(h:Fz F W0 w)(hb:Bw w w'):Fz F W0 w':=
 ⟨h.below.kept (Zo (s:=fun b=>b<w.heap.size) hb (fun _ h _=>h)) (fun _ hb=>Q6 hb.lt h.below.size),h.low,fun b hh=>h.high b (Zl hb.size hh)⟩
theorem Env.at'(E:Env f ts q W0)(h:Fz F W0 w):f.At ts q w:=h.below.facts E.facts
structure Oi(F:Nat->Prop)(w:World)(n:ai):Prop where
 cl:n.cl.At w
 clf:oq F n.cl.ad n.cl.xs.length
 cln:n.cl.ad=none->n.cl.cap=0
 co:n.co.At w
 cof:oq F n.co.ad n.co.xs.length
 con:n.co.ad=none->n.co.cap=0
 cap:n.co.xs.length<=n.co.cap
 clb:n.cl.xs.length<=1000
 cob:n.co.xs.length<=1000
structure vM(F:Nat->Prop)(w:World)(a:Nat)(p:az):Prop where
 c0:w.cell? (aD a 0)=some (.int .i64 p.kind)
 c1:w.cell? (aD a 1)=some (.int .u64 (p.sources:Int))
 c2:w.cell? (aD a 2)=some (.int .u64 (p.clauses:Int))
 c3:w.cell? (aD a 3)=some p.order.val
 c4:w.cell? (aD a 4)=some (.int .u64 (p.size:Int))
 c5:w.cell? (aD a 5)=some (.int .u64 (p.cost:Int))
 ok:p.Ok w
 ord:oq F p.order.ad p.order.xs.length
theorem rZ.lh{T:TypeId}{a:Nat}{t:aQ}{p:az}{n:ai}{bo:Option Addr}{bc:Nat}{bs:List (Nat × aQ)}(h:rZ T F w a t p n bo bc bs):vM F w a p:=
 ⟨h.gb.cell 0,h.gb.cell 1,h.gb.cell 2,h.gb.cell 3,h.gb.cell 4,h.gb.cell 5,h.ok,h.ord⟩
theorem vM.below{F:Nat->Prop}{w w':World}{a:Nat}{p:az}(h:vM F w a p)(hb:Bw w w'):vM F w' a p:=
 ⟨cB hb h.c0,cB hb h.c1,cB hb h.c2,cB hb h.c3,cB hb h.c4,cB hb h.c5,h.ok.below hb,h.ord⟩
theorem aG.lh{T:TypeId}{F:Nat->Prop}{w:World}{a:Nat}{t:aQ}(h:aG T F w a t):∃ p,vM F w a p/\p.d=t.d:=by
 obtain⟨p,n,bo,bc,bs,hb,_⟩:=h.get;exact⟨p,hb.lh,hb.part⟩
theorem J8{T:TypeId}{F:Nat->Prop}{w:World}:∀ {bs:List (Nat × aQ)},(∀ x∈bs,aG T F w x.1 x.2)->∃ ps:List az,ps.length=bs.length/\∀ i,i<bs.length->vM F w ((bs.map Prod.fst).getD i 0) (ps.getD i aT)/\(ps.getD i aT).d=((bs.map Prod.snd).getD i mR).d
 | [],_ => ⟨[],rfl,fun i hi => by simp at hi⟩
 | x::bs,h => by
  obtain⟨ps,hl,hp⟩:=J8 fun y hy=>h y (Xf _ hy)
  obtain⟨p,hp0,hd⟩:=(h x Xg).lh;refine⟨p::ps,by simp[hl],fun i hi=>?_⟩
  cases i with
  | zero => exact⟨hp0,hd⟩
  | succ i => exact hp i (by simpa using hi)
theorem agr{bs:List aQ}{ps:List az}(hl:ps.length=bs.length)(h:∀ i,i<bs.length->(ps.getD i aT).d=(bs.getD i mR).d)(i:Nat):(ps.getD i aT).d=(bs.getD i mR).d:=by
 by_cases hi:i<bs.length
 ·exact h i hi
 ·rw[XH,Zk (by omega),XH,Zk (by omega)];rfl
theorem Oj{α:Type}(l:List α)(d:α){i:Nat}(hi:i<l.length):l.take (i+1)=l.take i++[l.getD i d]:=by
 rw[List.take_add_one,ZX hi,XH,ZX hi];rfl
theorem mi{xs:List Nat}(h:w.ownsRow base e 1 v n (xs.map fun x=>Value.pointer (some (aD x 0))))(hl:xs.length<=1000000) :
  ∃ ao cap,v=.slice ao xs.length cap/\dB w ao xs/\xs.length<=cap/\(ao=none->cap=0)/\∀ a,ao=some a->base<=a.block:=by
 have hn:n=xs.length:=by have:=h.1; rw[Zc]at this; omega
 subst hn;rcases h.2 with⟨rfl,h1⟩ | ⟨g,cap,cur,rfl,hb,hh,hc,_,_,ht⟩
 ·have:=Xw.1 h1;subst this;exact⟨none,0,rfl,⟨by simp,fun i hi=>by simp at hi⟩,by simp,fun _=>rfl,fun a e=>by cases e⟩
 ·refine⟨some (aD g 0),cap,rfl,⟨hl,fun i hi=>⟨g,0,rfl,?_⟩⟩,hc,(fun e=>by cases e),(fun a e=>by cases e; exact hb)⟩;have h2:(xs.map fun x=>Value.pointer (some (aD x 0)))[i]? = some (.pointer (some (aD (xs.getD i 0) 0))):=by
   rw[Ze,ZX hi,XH,ZX hi];rfl
  rw[<- ht,ZY]at h2;split at h2
  ·rw[QQ];simp only[World.cell?,hh]
   simpa using h2
  ·cases h2
theorem Tryz.qf:(Tryz.prog.info? 172).map (fun i=>(i.zero,i.size,i.bytes))=some (some (.pointer none),1,8):=by kernel_rfl
theorem xN(W:World)(base:Nat)(v:Value)(xs:List Nat)(hown:W.ownsRow base 172 1 v xs.length (xs.map fun x=>Value.pointer (some (aD x 0))))(hl:xs.length<=1000)(hb:base<=W.heap.size)(a:Nat)(ty:TypeId) :
  ∃ v' w',(Builtin.append_ #[176,176] ty #[v,.slice (some (aD W.heap.size 0)) 1 1]).run Tryz.prog (W.alloc (.cells #[.pointer (some (aD a 0))] 172))=.ok v' w'/\
   w'.ownsRow base 172 1 v' (xs++[a]).length ((xs++[a]).map fun x=>Value.pointer (some (aD x 0)))/\Kept (fun b=>v.ownBlock≠some b) W w'/\(∃ a m c,v' = .slice a m c)/\(v'.ownBlock=v.ownBlock∨v'.ownBlock=some (W.heap.size+1)):=by
 obtain⟨i0,hi,hz0,hz1,hz2⟩:=ZU Tryz.qf;obtain⟨v',w',hr,ho,hk,hs,hat⟩:=iG (P:=Tryz.prog) W base 176 ty 172 i0 _ 1 8 Tryz.underlying176 hi hz0 hz1 hz2 rfl (by decide) v xs.length _ hown hb [.pointer (some (aD a 0))] rfl (fun u hu=>by
  rw[ZR]at hu;rw[hu];rfl) hl (by decide)
 exact⟨v',w',hr,by rw[Zb,Qs]; exact ho,hk,hs,hat⟩
theorem Cf(a:Addr)(cap:Nat)(xs:List Nat)(w:World)(hx:dB w (some a) xs) :
  Calls Tryz.prog 293 #[.slice (some a) xs.length cap] w fun e w'=>∃ v,e=.returned v/\w'.ownsRow w.heap.size 172 1 v xs.length (xs.map fun x=>Value.pointer (some (aD x 0)))/\Bw w w':=by
 obtain⟨i0,hi,hz0,hz1,hz2⟩:=ZU Tryz.qf;obtain⟨v',w',hr,ho,hb,⟨va,vm,vc,rfl⟩⟩:=nE (P:=Tryz.prog) w 176 176 172 i0 (.pointer none) 1 8 Tryz.underlying176 hi hz0 hz1 hz2 rfl (by decide) a xs.length cap (xs.map fun x=>Value.pointer (some (aD x 0))) (by simp)
  (fun j u hj=>by
   rw[Ze]at hj;by_cases hjl:j<xs.length
   ·obtain⟨b',off',e,hc⟩:=hx.2 j hjl;refine⟨b',off',e,?_⟩;rw[hc];simp[List.getD,hjl]at hj ⊢;exact hj
   ·rw[Zk (by omega)]at hj; cases hj) (fun u hu=>by obtain⟨x,_,rfl⟩:=Zi.1 hu; rfl) hx.1 (by decide)
 have HO:Hid _:=ho;have HB:=Zh hb;have hnil:∀ W,(binOp .eql 176 (.slice (some a) xs.length cap) (.slice none 0 0)).run Tryz.prog W=.ok (.bool false) W:=fun W=>XF W 176 _ (some a) _ _ _ _ Tryz.underlying176
 go_enter Tryz.func293,Tryz.ntmps293;go_wp2_with (first | (at_builtin; refine Z8 rfl (.tmp 5) (.tmp 6) 176 rfl (.slice (some (aD w.heap.size 0)) 0 0) (.slice (some a) xs.length cap) (.slice va vm vc) w' rfl rfl hr ?_));go_wp2;go_ret;exact⟨_,rfl,HO.o,HB.o⟩
theorem Cg(w:World):Ce 293 #[.slice none 0 0] w (.slice none 0 0):=by
 have hnil:∀ W,(binOp .eql 176 (.slice none 0 0) (.slice none 0 0)).run Tryz.prog W=.ok (.bool true) W:=fun W=>XF W 176 _ none _ _ _ _ Tryz.underlying176
 go_enter Tryz.func293,Tryz.ntmps293;go_wp2;go_ret;exact⟨rfl,rfl⟩
theorem D6(bo:Option Addr)(bc:Nat)(xs:List Nat)(w:World)(hx:dB w bo xs)(hn:bo=none->bc=0) :
  Calls Tryz.prog 293 #[.slice bo xs.length bc] w fun e w'=>∃ v,e=.returned v/\w'.ownsRow w.heap.size 172 1 v xs.length (xs.map fun x=>Value.pointer (some (aD x 0)))/\Bw w w':=by
 cases bo with
 | none =>
  obtain rfl:bc=0:=hn rfl;have h0:xs=[]:=by
   cases xs with
   | nil => rfl
   | cons x xs => obtain⟨b,off,e,_⟩:=hx.2 0 (by simp); cases e
  subst h0;refine(Cg w).mono ?_;rintro e w' ⟨rfl,rfl⟩;exact⟨_,rfl,ZV _ _ _ _,Qw _ _⟩
 | some a =>
  exact Cf a bc xs w hx
def XL:=@Oj
theorem Ch(E:Env f ts q W0)(hz:Fz F W0 w)(n:ai)(hn:Oi F w n)(bo:Option Addr)(bc:Nat)(bs:List (Nat × aQ))(hp:dB w bo (bs.map Prod.fst))(hnil:bo=none->bc=0)
  (hbs:∀ x∈bs,aG 178 F w x.1 x.2/\jB q x.2) (hl:bs.length=arity n.kind) (hk1:1<=n.kind) (hk10:n.kind<=10) (hsm:gG q.wh.length n.cl.xs) (hsr:n.kind=1->0<=n.source/\n.source<q.src.xs.length) :
  Calls Tryz.prog 228 #[.agg (f.cells ts q),.agg n.cells,.slice bo bs.length bc] w fun e w'=>∃ a,e=.returned (.pointer (some (aD a 0)))/\aG 178 F w' a (ay ts q n (bs.map Prod.snd))/\w.heap.size<=a/\a<w'.heap.size/\Bw w w':=by
 obtain⟨ps,hpl,hps⟩:=J8 (fun x hx=>(hbs x hx).1);have har:bs.length<=2:=by rw[hl]; unfold arity; split <;> (try split) <;> omega
 have hlen:(bs.map Prod.fst).length=bs.length:=Zc _;have hd:=agr (bs:=bs.map Prod.snd) (ps:=ps) (by rw[hpl,Zc]) (fun i hi=>(hps i (by rw[Zc]at hi; exact hi)).2);have hok:∀ i,i<ps.length->(ps.getD i aT).sources<2 ^ q.src.xs.length/\(ps.getD i aT).clauses<2 ^ q.wh.length:=fun i hi=>by
  have e:=hd i;have hm:(bs.map Prod.snd).getD i mR∈bs.map Prod.snd:=Z7 (by rw[Zc]; omega);obtain⟨x,hx,hxe⟩:=Zi.1 hm;have ht:=(hbs x hx).2;rw[hxe]at ht;have e1:(ps.getD i aT).sources=((bs.map Prod.snd).getD i mR).d.sources:=congrArg bZ.sources e;have e2:(ps.getD i aT).clauses=((bs.map Prod.snd).getD i mR).d.clauses:=congrArg bZ.clauses e;rw[e1,e2];exact⟨ht.src,ht.cls⟩
 -- what is called
 have J9:Hid (∀ (x:World) (a:Option Addr) (c:Nat),Bw w x->PartsAt x a ps->Calls Tryz.prog 131 #[.agg (f.cells ts q),.agg n.cells,.slice a ps.length c] x fun e w'=>∃ p:az,e=.returned (.agg p.cells)/\p.d=(ay ts q n (bs.map Prod.snd)).d/\p.Ok w'/\oq F p.order.ad p.order.xs.length/\Bw x w'):=fun x a c hx Tm=>by
  refine(BV f ts q n a c ps x E.ok ((E.at' hz).below hx) (Qv hx hn.cl) (Qv hx hn.co) hn.cap Tm hk1 hk10 (by rw[hpl,hl]) hsm hsr hok).mono ?_;rintro e w' ⟨p,he,yQ,hpo,_,_,si,hb⟩;refine⟨p,he,by rw[yQ,hd 0,hd 1]; rfl,hpo,?_,hb⟩;rcases si with h | h | h
  ·rw[h]; exact hn.cof
  ·rw[h];by_cases h0:0<bs.length
   ·exact(hps 0 h0).1.ord
   ·have:ps.getD 0 aT=aT:=by rw[XH,Zk (by omega)]; rfl
    rw[this];intro h; exact absurd h (by decide)
  ·rw[h];intro h; exact absurd h (by decide)
 have qI:Hid (∀ x:World,Bw w x->Calls Tryz.prog 293 #[.slice bo bs.length bc] x fun e w'=>∃ v,e=.returned v/\w'.ownsRow x.heap.size 172 1 v bs.length ((bs.map Prod.fst).map fun x=>Value.pointer (some (aD x 0)))/\Bw x w'):=fun x hx=>by
  have:=D6 bo bc (bs.map Prod.fst) x (hp.below hx) hnil;rw[hlen]at this;exact this
 have kX:Hid (∀ (x:World) (a:Nat) (p:az) (v:Value) (y:World),x.heap.size=a->w.heap.size<=y.heap.size->Bw w y->Bw y x->p.d=(ay ts q n (bs.map Prod.snd)).d->p.Ok x->oq F p.order.ad p.order.xs.length->x.ownsRow y.heap.size 172 1 v bs.length ((bs.map Prod.fst).map fun x=>Value.pointer (some (aD x 0)))->
   aG 178 F (x.alloc (.cells (Fg p n v) 178)) a (ay ts q n (bs.map Prod.snd))/\Bw w (x.alloc (.cells (Fg p n v) 178))):=by
  intro x a p v y rfl' hwy hby hbx yQ hpo hpf hv;subst rfl';obtain⟨ao,cap,rfl,hpt,hcp,hnl,hnew⟩:=mi hv (by rw[hlen]; omega);rw[hlen]at hcp ⊢;have hwx:Bw w x:=hby.trans (hbx.mono hwy);have hba:=dn x (.cells (Fg p n (.slice ao bs.length cap)) 178);have hbw:Bw w (x.alloc (.cells (Fg p n (.slice ao bs.length cap)) 178)):=hwx.trans (hba.mono hwx.size);refine⟨aG.intro (p:=p) (n:=n) (bo:=ao) (bc:=cap) (bs:=bs) ?_ (fun z hz'=>(hbs z hz').1.below hbw),hbw⟩;exact { blk:=hz.high _ hwx.size,gb:=l6 _ _,part:=yQ,ok:=hpo.below hba,ord:=hpf,cl:=Qv hbw hn.cl,clf:=hn.clf,cln:=hn.cln,co:=Qv hbw hn.co,cof:=hn.cof,con:=hn.con,ptrs:=hpt.below hba,ptf:=fun _ a e=>hz.high _ (Zl hwy (hnew a e)),WV:=hcp,nil:=hnl,lay:=(by show qE n ((bs.map Prod.snd).map aQ.ns)=_; rw[XM]; rfl),two:=har,kind:=⟨hk1,hk10⟩,lens:=⟨hn.clb,hn.cob⟩ }
 have RX:Hid (dB w bo (bs.map Prod.fst)):=hp;have HPS:Hid (∀ i,i<bs.length->vM F w ((bs.map Prod.fst).getD i 0) (ps.getD i aT)):=fun i hi=>(hps i hi).1
 have HTK:Hid (∀ i,i<bs.length->ps.take (i+1)=ps.take i++[ps.getD i aT]):=fun i hi=>XL ps aT (by omega)
 have Be:Hid (ps.length=bs.length):=hpl;have HAR:Hid (bs.length<=2):=har;have wX:Hid ((bs.map Prod.fst).length=bs.length):=hlen;have aqB:bs.length<=1000:=by omega
 clear hok hd hps hpl hp hnil hbs hl hk1 hk10 hsm hsr hn hz E har hlen;generalize ay ts q n (bs.map Prod.snd)=GT at *;obtain⟨kind,nl,nr,src,⟨ca,cc,cl⟩,key,⟨da,dc,co⟩⟩:=n;obtain⟨v0,v1,v2,v3,v4,v5,v6,v7,v8,v9,v10,v11,v12,bB,-⟩:=Xu f ts q;rw[bB]at J9 ⊢;clear bB;simp only[ai.cells,ah.val,Fg]at *;generalize bs.map Prod.fst=bf at *;generalize bs.length=bl at *;clear bs;obtain⟨w1,hw1,hb1,hg1⟩:=aU w #[v0,v1,v2,v3,v4,v5,v6,v7,v8,v9,v10,v11,v12] 90;obtain⟨w2,hw2,hb2,hg2⟩:=aU w1 #[.int .i64 kind,.int .i64 nl,.int .i64 nr,.int .i64 src,.slice ca cl.length cc,.int .i64 key,.slice da co.length dc] 58;have iq:GB w2 w.heap.size 90 #[v0,v1,v2,v3,v4,v5,v6,v7,v8,v9,v10,v11,v12]:=hg1.of (hb2.block _ hg1.lt);have qU:Hid (GB w2 w.heap.size 90 #[v0,v1,v2,v3,v4,v5,v6,v7,v8,v9,v10,v11,v12]):=iq;have HG2:Hid (GB w2 w1.heap.size 58 #[.int .i64 kind,.int .i64 nl,.int .i64 nr,.int .i64 src,.slice ca cl.length cc,.int .i64 key,.slice da co.length dc]):=hg2;have HB2:Hid (Bw w w2):=aA hb1 hb2;clear hb1 hb2 hg1 hg2 iq;go_enter Tryz.func228,Tryz.ntmps228;go_wp2;clear hw1 hw2;go_loopw [7,12] (fun pv iv wr=>∃ k:Nat,k<=bl/\iv=.int .i64 (k:Int)/\Hid (wr.ownsRow w2.heap.size 95 6 pv (ps.take k).length ((ps.take k).flatMap az.list))/\Hid (Bw w2 wr)) (fun _ iv _=>bl-(intOf iv).toNat)
 case atStart=>exact⟨0,Q8 _,rfl,ZV _ _ _ _,Qw _ _⟩
 case round=>
  obtain⟨k,hk,rfl,HQ,ou⟩:=hrel;have hbw:Bw w wr:=aA HB2.o ou.o;by_cases hlt:k<bl
  ·obtain⟨bb,Ol,rfl,hbc⟩:=dB.get (RX.o.below hbw) (i:=k) (by rw[wX.o]; exact hlt);have hck:=hbc k (by rw[wX.o]; exact hlt);have hP:=(HPS.o k hlt).below hbw;have RY:Hid _:=HTK.o k hlt;obtain⟨p,hp⟩:=eY (ps.getD k aT)
   rw[<- hp]at hP RY;obtain⟨pa,Tm⟩:∃ a,a=bf.getD k 0:=⟨_,rfl⟩
   rw[<- Tm]at hP hck;obtain⟨c0,c1,c2,c3,c4,c5,-,-⟩:=hP;obtain⟨qa,qm,qc,rfl⟩:=ZP HQ.o;have akH:w2.heap.size<=wr.heap.size:=ou.o.size;obtain⟨v',w5,vE,ug,hk5,⟨xa,xm,xc,rfl⟩,hat⟩:=zk wr w2.heap.size (.slice qa qm qc) (ps.take k) HQ.o (by rw[Zm]; omega) akH p 91;rw[<- RY.o]at ug;have BM:Hid _:=ug;have kF:Hid (Bw w2 w5):=ou.o.trans (hk5.below akH (fun b hb e=>by have:=(ZO HQ.o e).1; omega));obtain⟨pk,ss,cs,⟨oa,l7,ox⟩,pz,pt⟩:=p;simp only[az.cells,ah.val]at *;clear hp ug hk5 hat hbc Tm RY HQ ou hbw;go_wp2_with (first | (at_builtin; refine Z8 rfl (.tmp 16) (.tmp 21) 91 rfl (.slice qa qm qc) (.slice (some (aD wr.heap.size 0)) 1 1) (.slice xa xm xc) w5 rfl rfl vE ?_));clear vE c0 c1 c2 c3 c4 c5 hck;go_wp2;go_roundw
   case rel=>exact⟨k+1,by omega,by go_num,BM.o,kF.o⟩
   case measure=>simp[intOf]; omega
  ·have hkb:bl=k:=by omega
   subst hkb;rw[Xl (by rw[Be.o]; exact Qx _)]at HQ;obtain⟨w3,hw3⟩:∃ x,x=wr:=⟨_,rfl⟩
   subst hw3;obtain⟨qa,qc,rfl,hQA⟩:=zf HQ.o (by rw[Be.o]; omega) (fun i hi=>((HPS.o i (by rw[Be.o]at hi; exact hi)).below hbw).ok);have HQA:Hid (PartsAt w3 qa ps):=hQA;have HB3:Hid _:=hbw;have gA:GB w3 w.heap.size 90 #[v0,v1,v2,v3,v4,v5,v6,v7,v8,v9,v10,v11,v12]:=qU.o.of (ou.o.block _ qU.o.lt);have gN:GB w3 w1.heap.size 58 #[.int .i64 kind,.int .i64 nl,.int .i64 nr,.int .i64 src,.slice ca cl.length cc,.int .i64 key,.slice da co.length dc]:=HG2.o.of (ou.o.block _ HG2.o.lt);obtain⟨a0,a1,a2,a3,a4,a5,a6,a7,a8,a9,iy,iL,a12⟩:=gA.k13;obtain⟨n0,n1,n2,n3,n4,n5,n6⟩:=gN.k7;rw[Be.o]at J9 ⊢;clear hQA hbw HQ ou qU HG2 gA gN HPS HTK RX hlt hk;go_wp2_with fail;refine wH w3 fun hS=>?_
   refine wT 0 (.agg #[v0,v1,v2,v3,v4,v5,v6,v7,v8,v9,v10,v11,v12]) hS (fun x hx=>?_) ?_
   ·have e0:=lI hx a0 a1 a2 a3 a4 a5 a6 a7 a8 a9 iy iL a12;go_simp
   refine wT 1 (.agg #[.int .i64 kind,.int .i64 nl,.int .i64 nr,.int .i64 src,.slice ca cl.length cc,.int .i64 key,.slice da co.length dc]) hS (fun x hx=>?_) ?_
   ·have e0:=IJ hx n0 n1 n2 n3 n4 n5 n6;go_simp
   refine wt 2 (.slice qa bl qc) hS ?_;refine wT 4 (.agg #[.int .i64 kind,.int .i64 nl,.int .i64 nr,.int .i64 src,.slice ca cl.length cc,.int .i64 key,.slice da co.length dc]) hS (fun x hx=>?_) ?_
   ·have e0:=IJ hx n0 n1 n2 n3 n4 n5 n6;go_simp
   refine wt 5 (.slice bo bl bc) hS ?_;refine wR 3 fun K hK=>?_
   go_simp;refine Xt (J9.o _ qa qc (HB3.o.trans (hS.mono HB3.o.size)) (Xb hS HQA.o)) ?_;rintro e w4 ⟨p,rfl,yQ,hpo,hpf,hb⟩;have hb4:=hS.trans (hb.mono hS.size);obtain⟨pk,ps',pc,⟨oa,l7,ox⟩,pz,pt⟩:=p;simp only[az.cells,ah.val]at *;refine oT hK hS hb fun hS=>?_
   clear hK K;refine wR 6 fun K hK=>?_
   go_simp;refine Xt (qI.o _ (HB3.o.trans (hS.mono HB3.o.size))) ?_;rintro e w5 ⟨v,rfl,hv,hb5⟩;have iN:=hS.trans (hb5.mono hS.size);obtain⟨va,vn,vc,rfl⟩:=ZP hv;refine hK.o _ _ iN fun hS=>?_
   clear hK K;refine wt 7 (.agg #[.int .i64 pk,.int .u64 (ps':Int),.int .u64 (pc:Int),.slice oa ox.length l7,.int .u64 (pz:Int),.int .u64 (pt:Int),.int .i64 kind,.int .i64 nl,.int .i64 nr,.int .i64 src,.slice ca cl.length cc,.int .i64 key,.slice da co.length dc,.slice va vn vc]) hS ?_;refine wR 8 fun K hK=>?_
   go_simp;refine oA hK hS fun hS=>?_
   clear hK K;refine wR 9 fun K hK=>?_
   go_simp;refine hK.o _ _ hS fun hS=>?_
   clear hK K;refine wD ?_
   try simp only[pU]
   obtain⟨hT,hbe⟩:=kX.o w5 w5.heap.size ⟨pk,ps',pc,⟨oa,l7,ox⟩,pz,pt⟩ (.slice va vn vc) w4 rfl (Zl HB3.o.size hb4.size) (HB3.o.trans (hb4.mono HB3.o.size)) hb5 yQ (hpo.below hb5) hpf hv;have HT:Hid _:=hT;have jk:Hid _:=hbe;have MN:Hid (w.heap.size<=w5.heap.size):=Zl HB3.o.size iN.size;clear hT hbe yQ hpo hpf hb hb4 hv hb5 iN hS;go_wp2;go_ret;exact⟨_,rfl,HT.o,MN.o,by simp,jk.o⟩
theorem Yl(ok:Ok ts q)(k:Nat):(aF ts q).getD k 0<18446744073709551616:=by
 by_cases hk:k<q.wh.length
 ·rw[yZ ts q hk];exact Q6 (qy (n:=q.src.xs.length) (oV ok.cat ok.src (ok.aO k hk))) (Q7 (n:=2) (by omega) ok.small)
 ·rw[XH,Zk (by rw[Xa]; omega)];simp
theorem Ad(f:au)(ts:List af)(q:ae)(s:Nat)(w:World)(ok:Ok ts q)(hf:f.At ts q w)(hs:s<18446744073709551616) :
  Cb 307 #[.agg (f.cells ts q),.int .u64 (s:Int)] w (.int .u64 ((aW (aF ts q) s:Nat):Int)):=by
 obtain⟨w1,hw1,hk1,hg⟩:=aU w ((f.cells ts q)) 90;have q11:=hg.at 11;have hnl:f.nl=(aF ts q).length:=by rw[Xa]; exact hf.nl
 rw[hnl]at q11;have hco:=hf.conc.below hk1;have hcl:=hco.1;have nG:Hid _:=hco;have ayi:(aF ts q).length<=64:=by rw[Xa]; exact ok.mP
 have Ym:Hid (∀ k x,Ce 231 #[.int .u64 (s:Int),.int .u64 (((aF ts q).getD k 0:Nat):Int)] x (.bool (aS s ((aF ts q).getD k 0)))):=fun k x=>lN s _ hs (Yl ok k) x
 have JU:Hid (∀ k,k<=64->dX (aF ts q) s k<18446744073709551616):=fun k hk=>Q6 (iQ _ _ k) (Q7 (n:=2) (by omega) hk)
 have HWS:Hid (∀ k,dX (aF ts q) s (k+1)=if aS s ((aF ts q).getD k 0)=true then dX (aF ts q) s k|||2 ^ k else dX (aF ts q) s k):=fun k=>rfl
 have HW0:Hid (dX (aF ts q) s 0=0):=rfl;have HWE:Hid (dX (aF ts q) s (aF ts q).length=aW (aF ts q) s):=rfl;have oG:=Zh hk1;generalize aW (aF ts q) s=R at *;generalize dX (aF ts q) s=WT at *;generalize f.cells ts q=FC at *;generalize aF ts q=CN at *;obtain⟨V5,V6,V7,V8,V9,Wd,We,Wh,Wi,Wj⟩:=f;simp only at *;go_enter Tryz.func307,Tryz.ntmps307;go_wp2;go_loopw [5,11] (fun sv iv wr=>∃ k:Nat,k<=CN.length/\iv=.int .i64 k/\(∃ m:Nat,sv=.int .u64 (m:Int)/\Hid (m=WT k))/\Bw w1 wr) (fun _ iv _=>CN.length-(intOf iv).toNat)
 case atStart=>exact⟨0,Q8 _,rfl,⟨0,rfl,HW0.o.symm⟩,Qw _ _⟩
 case round=>
  obtain⟨k,hk,rfl,⟨m,rfl,hm⟩,hbr⟩:=hrel;by_cases hlt:k<CN.length
  ·obtain⟨xb,xo,rfl,MK⟩:=fF.get nG.o hlt;have hck:=cB hbr (MK k hlt);have hCV:=Ym.o k wr;have HT:=Zh (HWS.o k);have Ka:m<18446744073709551616:=by rw[hm.o]; exact JU.o k (by omega)
   rw[<- hm.o]at HT;generalize CN.getD k 0=c at *;obtain⟨B,hB⟩:=eX (aS s c)
   rw[hB]at hCV HT;have acp:k<64:=by omega
   cases B with
   | true =>
    have HT2:Hid (WT (k+1)=m|||2 ^ k):=HT.o;obtain⟨wa,JY⟩:∃ x,wr.alloc (.cells #[.int .i64 (k:Int)] 3)=x:=⟨_,rfl⟩
    have Fw:=uf wr.heap.size k wa (by rw[<- JY]; simp) acp;obtain⟨wb,hwb⟩:∃ x,wa.alloc (.cells #[.int .u64 (m:Int),.int .u64 ((2 ^ k:Nat):Int)] 86)=x:=⟨_,rfl⟩
    have hp:2 ^ k<18446744073709551616:=Xi (n:=64) (by omega) acp;have hUN:=jM wa.heap.size m (2 ^ k) wb (by rw[<- hwb]; simp) (by rw[<- hwb]; simp) Ka hp;have jV:Hid (Bw w1 wb):=by
     show Below _ _ _
     rw[<- hwb,<- JY];exact aA (aA hbr (dn _ _)) (dn _ _)
    generalize 2 ^ k=p at *;go_wp2_with fail;refine hCV.mono ?_;rintro e w2 ⟨rfl,rfl⟩;go_wp2_with fail;refine Fw.mono ?_;rintro e w2 ⟨rfl,rfl⟩;go_wp2_with fail;refine hUN.mono ?_;rintro e w3 ⟨rfl,rfl⟩;go_wp2;go_roundw
    case rel=>exact⟨k+1,by omega,by go_num,⟨m|||p,rfl,HT2.o.symm⟩,jV.o⟩
    case measure=>simp[intOf]; omega
   | false =>
    have HT2:Hid (WT (k+1)=m):=HT.o;have jV:=Zh hbr;go_wp2_with fail;refine hCV.mono ?_;rintro e w2 ⟨rfl,rfl⟩;go_wp2;go_roundw
    case rel=>exact⟨k+1,by omega,by go_num,⟨m,rfl,HT2.o.symm⟩,jV.o⟩
    case measure=>simp[intOf]; omega
  ·obtain rfl:k=CN.length:=by omega
   have HV:=Zh (hm.o.trans HWE.o);have HB:=Zh hbr;go_wp2;go_ret;exact⟨Qh (by rw[HV.o]),aA oG.o HB.o⟩
section
structure acB(w2:World)(t e:TypeId)(pre:List Nat)(o1:Nat->Prop)(W:World):Prop where
 ex:∃ v,GB W w2.heap.size t #[v]/\W.ownsRow (w2.heap.size+1) e 1 v pre.length (pre.map fun n:Nat=>Value.int .i64 (n:Int))/\(∀ b,o1 b↔b=w2.heap.size∨v.ownBlock=some b)
 below:Bw w2 W
theorem acB.keep{w2:World}{t e:TypeId}{pre:List Nat}{o1:Nat->Prop}{A B:World}{n:Nat}(h:acB w2 t e pre o1 A)(hn:w2.heap.size<=n)(hk:Kept (fun b=>o1 b∨b<n) A B):acB w2 t e pre o1 B:=by
 obtain⟨v,hg,ho,hi⟩:=h.ex;exact⟨⟨v,hg.keep hk (.inl ((hi _).2 (.inl rfl))),ZN ho hk (fun g hg=>.inl ((hi g).2 (.inr hg))),hi⟩,h.below.trans (hk.below h.below.size (fun b hb=>.inr (by omega)))⟩
attribute [local go_sem] Oper.semAt_some
theorem D7(s:Nat)(hs:s<18446744073709551616)(w:World) :
  Calls Tryz.prog 349 #[.slice none 0 0,.func (.func 162) #[.int .u64 (s:Int)] #[]] w fun e w'=>∃ v,e=.returned v/\w'.ownsRow w.heap.size 3 1 v (dG s).length ((dG s).map (Value.int .i64))/\Bw w w':=by
 obtain⟨i0,hi,hz0,hz1,hz2⟩:=ZU Tryz.kV;have HSQ:=Zh (qK s hs);have wX:Hid ((aR s).length<=64):=by
  show _<=_
  unfold aR;exact Zl (List.length_filter_le _ _) (by simp)
 have HE:Hid ((dG s).map (Value.int .i64)=(aR s).map fun n:Nat=>Value.int .i64 (n:Int)):=by
  show _=_
  unfold dG;rw[XM];rfl
 have HEL:Hid ((dG s).length=(aR s).length):=by
  show _=_
  unfold dG;rw[Zc]
 generalize aR s=RS at *;obtain⟨w1,hw1,hk1,hg1⟩:=aU w #[.slice none 0 0] 23;have hs1:Hid (w1.heap.size=w.heap.size+1):=by rw[<- hw1]; show _=_; simp
 have oG:=Zh hk1;have qU:Hid _:=hg1;refine(Zu (n:=0)).1 (ZJ Tryz.func349 rfl trivial ?_ rfl);simp only[Tryz.ntmps349,Zy,Zg,ZA,Nat.reduceAdd,Nat.reduceSub,ZB,ZC,ZE,ZF,ZG,ZH]
 gi_wp2
 refine uh kz (gf:=162) (s:=.int .u64 (s:Int)) rfl (enters_of Tryz.func162 (by kernel_rfl) rfl) (HSQ.o w) oG.o rfl
  (fun pre o1 W=>acB w 23 3 pre o1 W) (fun b=>b=w.heap.size) ?_ ?_ ⟨⟨.slice none 0 0,qU.o,ZV _ _ _ _,fun b=>by simp[Value.ownBlock]⟩,oG.o⟩
  (fun x=>{ tmps:=#[.slice none 0 0,.func (.func 162) #[.int .u64 (s:Int)] #[],.pointer (some (aD w.heap.size 0)),undef,.slice none 0 0,.int .i64 (x:Int),.func (.func 162) #[.int .u64 (s:Int)] #[],.int .i64 (x:Int),undef,undef,undef,undef,undef],defers:=[] }) ?assign ?body ?done
 ·rintro b rfl;exact⟨Qx _,by have:=hs1.o; omega⟩
 ·intro pre o1 A B h hk;exact h.keep (by have:=hs1.o; omega) hk
 case assign=>
  intro l x W K hK;have he:kz.enc x=.int .i64 (x:Int):=rfl
  gi_wp2
  exact hK
 case body=>
  intro l pre x o1 W hG hpre _ _ hsz;have hpl:pre.length+1<=64:=by
   have:=hpre.length_le;rw[Zc,Zb]at this;exact Zl this wX.o
  obtain⟨⟨v,hgb,hown,uV⟩,hbw⟩:=hG;obtain⟨va,vn,vc,rfl⟩:=ZP hown;have hc:=hgb.at 0;have hbs:=hbw.size;have qN:=Zh hgb;have HOW:Hid _:=hown;have Om:=Zh uV;have jV:=Zh hbw;have aqC:=hs1.o
  gi_wp2_with (gi_at_builtin; refine wpListIn_append_own_at _ rfl _ _ 23 rfl (w.heap.size+1) 3 i0 (.int .i64 0) 1 8 Tryz.underlying23 hi hz0 hz1 hz2 rfl (by decide) _ _ _ rfl (hown.alloc _) (aD W.heap.size 0) 1 1 [.int .i64 (x:Int)] rfl rfl ?q1 ?q2 ?q3 ?q4 ?q5 ?_)
  case q1=>
   intro j u hj
   match j,hj with
   | 0,hj => simp at hj; subst hj; simp[Addr.add]
  case q2=>intro u hu; simp at hu; subst hu; rfl
  case q3=>unfold maxLen; omega
  case q4=>omega
  case q5=>simp; omega
  intro v' w3 hown3 hgrow3 _ Tf;obtain⟨Tg,VZ,Ti,rfl⟩:=ZP hown3;have hk3:Kept (fun b=>(Value.slice va vn vc).ownBlock≠some b) W w3:=(Zr _ _).trans (ZM hgrow3 (fun r e hr=>hr e));have hne:(Value.slice va vn vc).ownBlock≠some w.heap.size:=fun e=>by
   have:=(ZO HOW.o e).1;omega
  have hg3:=qN.o.keep hk3 hne;have hc3:=hg3.at 0;have hf3:=hg3.frozen 0;have AP:=Zh hg3;have rU:=Zh hk3;have Ua:Hid _:=hown3;have HAT:=Zh Tf
  gi_wp2
  have hkS:Kept (fun b=>b≠w.heap.size) w3 (w3.setCell (aD w.heap.size 0) (.slice Tg VZ Ti)):=ZL _ _ _ (fun h=>h rfl);have hnb:∀ b,(Value.slice Tg VZ Ti).ownBlock=some b->w.heap.size+1<=b/\b<w3.heap.size:=fun b e=>ZO Ua.o e
  refine⟨fun b=>b=w.heap.size∨(Value.slice Tg VZ Ti).ownBlock=some b,⟨⟨.slice Tg VZ Ti,AP.o.set 0 _,?_,fun b=>Iff.rfl⟩,?_⟩,?_,?_⟩
  ·have:=ZN Ua.o hkS (fun g hg=>by have:=(hnb g hg).1; omega);rw[Zb,Qs];exact this
  ·refine jV.o.trans ((rU.o.mono (t:=fun b=>b<w.heap.size) fun b _ hb e=>?_).trans (hkS.mono fun b _ hb=>?_) |>.below jV.o.size (fun b hb=>hb))
   ·have:=(ZO HOW.o e).1;omega
   ·exact Nat.ne_of_lt hb
  ·refine(rU.o.mono fun b _ hb e=>hb ((Om.o b).2 (.inr e))).trans (hkS.mono fun b _ hb e=>hb ((Om.o b).2 (.inl e)))
  ·rintro b (rfl | hb)
   ·exact .inl ((Om.o _).2 (.inl rfl))
   ·have h3:(w3.setCell (aD w.heap.size 0) (.slice Tg VZ Ti)).heap.size=w3.heap.size:=by simp
    rcases HAT.o with e | e
    ·rw[e]at hb;exact .inl ((Om.o b).2 (.inr hb))
    ·rw[e]at hb;injection hb with hb;refine .inr (.inl ⟨?_,?_⟩)
     ·omega
     ·have:=(hnb b (by rw[e,hb])).2;omega
 case done=>
  rintro ys o' W hys hG hk2 hg2 hD;have hyy:ys=RS:=by simpa [kz] using hys
  subst hyy;have aqC:=hs1.o;obtain⟨v,hgb,hown,uV⟩:=hG.ex;have hc:=hgb.at 0;have Om:=Zh uV;have HOW:Hid _:=hown;obtain⟨va,vn,vc,rfl⟩:=ZP HOW.o
  gi_wp2
  have hnD:¬ o' w1.heap.size:=fun h=>by
   rcases hg2 _ h with h | h
   ·omega
   ·omega
  refine⟨by simp,.inl ⟨_,_,rfl,ZK hD,?_⟩⟩;have hkp:=Zp (s:=fun b=>o' b∨b<w1.heap.size) W (r:=w1.heap.size) (.deferred none) (by
   rintro (h | h)
   ·exact hnD h
   ·omega)
  refine⟨_,results_tmp rfl _ _ _,_,rfl,?_,?_⟩
  ·rw[HE.o,HEL.o];have h5:=ZN HOW.o hkp (fun g hg=>.inl ((Om.o g).2 (.inr hg)));exact⟨h5.1,h5.2.imp id fun ⟨g,cap,cur,e,hb,h⟩=>⟨g,cap,cur,e,by omega,h⟩⟩
  ·exact hG.below.trans (hkp.below hG.below.size (fun b hb=>.inr (by omega)))
theorem Ci(s:Nat)(hs:s<18446744073709551616)(w:World) :
  Calls Tryz.prog 242 #[.int .u64 (s:Int)] w fun e w'=>∃ v,e=.returned v/\w'.ownsRow w.heap.size 3 1 v (dG s).length ((dG s).map (Value.int .i64))/\Bw w w':=by
 have hC:∀ x,Calls Tryz.prog 308 #[.func (.func 162) #[.int .u64 (s:Int)] #[]] x fun e w'=>∃ v,e=.returned v/\w'.ownsRow x.heap.size 3 1 v (dG s).length ((dG s).map (Value.int .i64))/\Bw x w':=by
  intro x;have hA:=D7 s hs x;go_enter Tryz.func308,Tryz.ntmps308;go_wp2_with fail;refine hA.mono ?_;rintro e w2 ⟨v,rfl,ho,hb⟩;obtain⟨va,vn,vc,rfl⟩:=ZP ho;have HO:Hid _:=ho;have HB:=Zh hb;go_wp2;go_ret;exact⟨_,rfl,HO.o,HB.o⟩
 have hA:=hC w;go_enter Tryz.func242,Tryz.ntmps242;go_wp2_with fail;refine hA.mono ?_;rintro e w2 ⟨v,rfl,ho,hb⟩;obtain⟨va,vn,vc,rfl⟩:=ZP ho;have HO:Hid _:=ho;have HB:=Zh hb;go_wp2;go_ret;exact⟨_,rfl,HO.o,HB.o⟩
end
def bR(T:TypeId)(F:Nat->Prop)(w:World)(t:aQ)(e:Ending)(w':World):Prop:=
 ∃ a,e=.returned (.pointer (some (aD a 0)))/\aG T F w' a t/\w.heap.size<=a/\a<w'.heap.size/\Bw w w'
def fC:ah:=⟨none,0,[]⟩
theorem jd(w:World):fC.At w:=⟨by decide,fun i hi=>absurd hi (Nat.not_lt_zero _)⟩
theorem Oo{t:TypeId}(h:w.heap[b]? = some (.cells #[v] t (0,0))):w.cell? (aD b 0)=some v:=by
 simp only[World.cell?,h];rfl
theorem nH(h:w.ownsRow base e 1 v n (xs.map (Value.int .i64)))(hl:xs.length<=1000000) :
  ∃ iv:ah,v=iv.val/\iv.xs=xs/\iv.At w/\(∀ a,iv.ad=some a->base<=a.block)/\(iv.ad=none->iv.cap=0)/\iv.xs.length<=iv.cap:=by
 have hn:n=xs.length:=by have:=h.1; rw[Zc]at this; omega
 subst hn;rcases h.2 with⟨rfl,h1⟩ | ⟨g,cap,cur,rfl,hb,hh,hc,_,_,ht⟩
 ·have:=Xw.1 h1;subst this;exact⟨fC,rfl,rfl,jd w,(fun a e=>by cases e),(fun _=>rfl),Qx _⟩
 ·refine⟨⟨some (aD g 0),cap,xs⟩,rfl,rfl,⟨by simp only; omega,fun i hi=>⟨g,0,rfl,?_⟩⟩,(fun a e=>by cases e; exact hb),(fun e=>by cases e),hc⟩;have hi':i<xs.length:=hi;have h2:(xs.map (Value.int .i64))[i]? = some (.int .i64 (xs.getD i 0)):=by
   rw[Ze,ZX hi',XH,ZX hi'];rfl
  rw[<- ht,ZY]at h2;split at h2
  ·rw[QQ];simp only[World.cell?,hh]
   simpa using h2
  ·cases h2
theorem oq.nil(F:Nat->Prop)(ao:Option Addr):oq F ao 0:=fun h=>absurd h (Nat.lt_irrefl _)
theorem FE(E:Env f ts q W0)(hz:Fz F W0 w)(s:Int)(h0:0<=s)(h1:s<q.src.xs.length) :
  Calls Tryz.prog 228 #[.agg (f.cells ts q),.agg #[.int .i64 1,.int .i64 0,.int .i64 0,.int .i64 s,.slice none 0 0,.int .i64 0,.slice none 0 0],.slice none 0 0] w (bR 178 F w (ay ts q (iD s) [])):=
 Ch E hz ⟨1,0,0,s,fC,0,fC⟩ ⟨jd w,oq.nil _ _,fun _=>rfl,jd w,oq.nil _ _,fun _=>rfl,Qx _,Q8 _,Q8 _⟩ none 0 [] ⟨by decide,fun i hi=>absurd hi (Nat.not_lt_zero _)⟩ (fun _=>rfl) (fun x hx=>by cases hx) rfl (by decide:(1:Int)<=1) (by decide:(1:Int)<=10) (XI _) (fun _=>⟨h0,h1⟩)
theorem sM(E:Env f ts q W0)(hz:Fz F W0 w)(n:ai)(hn:Oi F w n)(a b:Nat)(t:aQ)(ht:aG 178 F w a t)(hto:jB q t)(hc:w.cell? (aD b 0)=some (.pointer (some (aD a 0))))
  (har:arity n.kind=1) (hk1:2<=n.kind) (hk10:n.kind<=10) (hsm:gG q.wh.length n.cl.xs) :
  Calls Tryz.prog 228 #[.agg (f.cells ts q),.agg n.cells,.slice (some (aD b 0)) 1 1] w (bR 178 F w (ay ts q n [t])):=
 Ch E hz n hn (some (aD b 0)) 1 [(a,t)] ⟨by simp,fun i hi=>⟨b,0,rfl,by
  have:i=0:=by simpa using hi
  subst this;exact hc⟩⟩ (fun e=>by cases e) (fun x hx=>by rw[ZR]at hx; rw[hx]; exact⟨ht,hto⟩) (by rw[har]; rfl) (by omega) hk10 hsm (fun e=>by omega)
theorem Kb(E:Env f ts q W0)(hz:Fz F W0 w)(n:ai)(hn:Oi F w n)(a a' b:Nat)(t t':aQ)(ht:aG 178 F w a t)(hto:jB q t)(ht':aG 178 F w a' t')(aqD:jB q t')(hc:w.cell? (aD b 0)=some (.pointer (some (aD a 0))))(hc':w.cell? (aD b 1)=some (.pointer (some (aD a' 0))))
  (h3:3<=n.kind) (h5:n.kind<=5) (hsm:gG q.wh.length n.cl.xs) :
  Calls Tryz.prog 228 #[.agg (f.cells ts q),.agg n.cells,.slice (some (aD b 0)) 2 2] w (bR 178 F w (ay ts q n [t,t'])):=
 Ch E hz n hn (some (aD b 0)) 2 [(a,t),(a',t')] ⟨by simp,fun i hi=>⟨b,0,rfl,by
  have hi':i<2:=hi;rw[QQ]
  match i,hi' with
  | 0,_ => exact hc
  | 1,_ => exact hc'⟩⟩ (fun e => by cases e) (fun x hx => by
   rcases Q4.1 hx with hx | hx
   ·rw[hx]; exact⟨ht,hto⟩
   ·rw[ZR]at hx; rw[hx]; exact⟨ht',aqD⟩) (by unfold arity; rw[Qz (by omega),Qy (by omega)]; rfl) (by omega) (by omega) hsm (fun e=>by omega)
