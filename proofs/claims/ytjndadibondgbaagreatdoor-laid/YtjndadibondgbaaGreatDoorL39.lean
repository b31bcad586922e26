import Derived.Test.YtjndadibondgbaaGreatDoorL38
set_option linter.all false
set_option maxRecDepth 100000
set_option maxHeartbeats 16000000
namespace Go.Proofs.Zz
open Go.RowKit Go.Shelf
variable {K:Nat->Prop} {A:World->Prop} {w:World} {R b k:Nat} {v:Value}
section
def Fr(dA:Nat->Nat)(K:Nat->Prop)(A:World->Prop)(w:World):Prop:=∀ w',Kept (fun b=>K (dA b)) w w'->A w'
theorem Fr.step{dA amP:Nat->Nat}{w':World}(h:Fr dA K A w)(hk:Kept (fun b=>dA b≠k) w w')(hK:¬ K k)(hc:∀ b,b<w.heap.size->amP b=dA b):Fr amP K A w':=fun _ d=>
 h _ ((hk.mono fun _ _ a e=>hK (e ▸ a)).trans' d fun b a f=>by rw[hc b a]; exact f)
def iW(dA:Nat->Nat)(k:Nat)(v:Option Nat)(b:Nat):Nat:=if v=some b then k else dA b
def wP(tI:TypeId)(v:Value)(xs:List Int)(w:World):Prop:=w.ownsRow 0 tI 1 v xs.length (xs.map (Value.int .i64))
theorem aH.ab1{mb:Nat}{lo:Option Addr}{lc:Nat}{l:List Int}{A B:World}{P:Nat->Prop}(h:aH mb lo lc l A)(hk:Kept P A B)(h1:P mb)(h2:∀ a,lo=some a->P a.block):aH mb lo lc l B:=by
 obtain⟨k,b,d⟩:=h.num;have e:=hk.block mb (Q3 (p:=(aD mb 0)) h.VL) h1;exact⟨⟨k,b,(Q4 (a:=(aD mb 1)) e).trans d⟩,(Q4 (a:=(aD mb 0)) e).trans h.VL,(Zt (a:=(aD mb 1)) e).trans h.thaw,⟨h.ints.1,h.ints.2.keep fun a g f=>hk.block _ f (h2 a g)⟩,h.off⟩
theorem fJ.into{tn:TypeId}{L M:Nat->Prop}{ns:List ah}(h:fJ tn L v ns w)(hm:∀ n∈ns,∀ l,l=n.cl∨l=n.co->∀ b,ag.blk l=some b->L b->v.ownBlock≠some b->M b):fJ tn M v ns w:=
 ⟨h.own,fun n e l f=>by
  obtain⟨g,d,i⟩:=h.lists n e l f;exact⟨g,fun b a=>⟨hm n e l f b a (d b a).1 (d b a).2,(d b a).2⟩,i⟩⟩
structure pY(tI tN:TypeId)(B mb:Nat)(lo:Option Addr)(lc:Nat)(l:List Int)(dA:Nat->Nat)(fz:List aa)(o h u:Value)(ns:List ah)(hv us:List Int)(w:World):Prop where
 size:B<=w.heap.size
 fresh:∀ b,w.heap.size<=b->dA b=0
 low:∀ b,b<B->dA b=0
 mb1:dA mb=1
 lob:∀ a,lo=some a->a.block<B
 mak:Fr dA (fun k=>k=0∨k=1) (aH mb lo lc l) w
 rest:∀ iv∈fz,Fr dA (fun k=>k=0) (ag.At iv) w
 rc:∀ iv∈fz,∀ b,ag.blk iv=some b->dA b=0
 hav:Fr dA (fun k=>k=2) (wP tI h hv) w
 use:Fr dA (fun k=>k=3) (wP tI u us) w
 out:Fr dA (fun k=>k=0∨k=4) (fJ tN (fun b=>dA b=0) o ns) w
 hc:∀ b,h.ownBlock=some b->dA b=2
 uc:∀ b,u.ownBlock=some b->dA b=3
 oc:∀ b,o.ownBlock=some b->dA b=4
variable {tI tN:TypeId} {B mb:Nat} {lo:Option Addr} {lc:Nat} {l:List Int} {dA:Nat->Nat} {fz:List aa} {o h u:Value} {ns:List ah} {hv us:List Int} {w w':World}
theorem Fr.now(h:Fr dA K A w):A w:=h w (QR _ _)
theorem pY.op(H:pY tI tN B mb lo lc l dA fz o h u ns hv us w)(hk:Kept (fun b=>dA b≠k) w w')(v:Option Nat)(hv':∀ b,v=some b->dA b=k∨w.heap.size<=b/\b<w'.heap.size)(h0:k≠0) :
  (∀ b,b<w.heap.size->iW dA k v b=dA b)/\B<=w'.heap.size/\(∀ b,w'.heap.size<=b->iW dA k v b=0)/\(∀ b,b<B->iW dA k v b=0)/\((∀ iv∈fz,Fr (iW dA k v) (fun j=>j=0) (ag.At iv) w')/\∀ iv∈fz,∀ b,ag.blk iv=some b->iW dA k v b=0)/\
  (k≠1->iW dA k v mb=1/\Fr (iW dA k v) (fun j=>j=0∨j=1) (aH mb lo lc l) w')/\
  (k≠2->Fr (iW dA k v) (fun j=>j=2) (wP tI h hv) w'/\∀ b,h.ownBlock=some b->iW dA k v b=2)/\
  (k≠3->Fr (iW dA k v) (fun j=>j=3) (wP tI u us) w'/\∀ b,u.ownBlock=some b->iW dA k v b=3)/\
  (k≠4->Fr (iW dA k v) (fun j=>j=0∨j=4) (fJ tN (fun b=>iW dA k v b=0) o ns) w'/\∀ b,o.ownBlock=some b->iW dA k v b=4):=by
 have e:∀ b,b<w.heap.size->iW dA k v b=dA b:=fun b a=>by
  unfold iW;split
  ·rename_i e
   rcases hv' b e with e | e
   ·exact e.symm
   ·omega
  ·rfl
 have g:mb<w.heap.size:=Q3 (p:=(aD mb 0)) H.mak.now.VL;have i:=H.size;refine⟨e,QS i hk.size,fun b a=>?_,fun b a=>by rw[e b (by omega)]; exact H.low b a,⟨fun iv f=>(H.rest iv f).step hk (fun e=>h0 e) e,fun iv f b a=>by rw[e b (ag.sV (H.rest iv f).now a)]; exact H.rc iv f b a⟩,fun _=>⟨by rw[e mb g]; exact H.mb1,H.mak.step hk (fun e=>by rcases e with e | e <;> contradiction) e⟩,fun _=>⟨H.hav.step hk (fun e=>by contradiction) e,fun b a=>?_⟩,fun _=>⟨H.use.step hk (fun e=>by contradiction) e,fun b a=>?_⟩,fun _=>⟨fun m q=>?_,fun b a=>?_⟩⟩
 ·have d:=QS hk.size a;unfold iW;split
  ·rename_i e
   rcases hv' b e with e | e
   ·rw[H.fresh b d]at e; exact e.symm
   ·omega
  ·exact H.fresh b d
 ·rw[e b (Zq H.hav.now a).2]; exact H.hc b a
 ·rw[e b (Zq H.use.now a).2]; exact H.uc b a
 ·refine(H.out.step hk (fun e=>by rcases e with e | e <;> contradiction) e m q).into fun n r l s b a t _=>?_
  rw[e b (ag.sV (H.out.now.lists n r l s).1 a)]; exact t
 ·rw[e b (Zq H.out.now.own a).2]; exact H.oc b a
theorem xX(dA:Nat->Nat)(k:Nat):iW dA k none=dA:=by funext b; simp[iW]
theorem pY.below(H:pY tI tN B mb lo lc l dA fz o h u ns hv us w)(hb:Bw w w'):pY tI tN B mb lo lc l dA fz o h u ns hv us w':=by
 have g:=H.op (k:=9) (w':=w') (QU hb fun _ h _=>h) none (fun b e=>by cases e) (by decide);rw[xX]at g;obtain⟨_,m,n,p,a,d,f,i,j⟩:=g;exact⟨m,n,p,(d (by decide)).1,H.lob,(d (by decide)).2,a.1,a.2,(f (by decide)).1,(i (by decide)).1,(j (by decide)).1,(f (by decide)).2,(i (by decide)).2,(j (by decide)).2⟩
theorem pY.next(H:pY tI tN B mb lo lc l dA fz o h u ns hv us w)(hm:aH mb lo lc l w')(hk:Kept (fun b=>b≠mb) w w'):pY tI tN B mb lo lc l dA fz o h u ns hv us w':=by
 have g:=H.op (k:=1) (w':=w') (hk.mono fun b _ q e=>q (e ▸ H.mb1)) none (fun b e=>by cases e) (by decide);rw[xX]at g;obtain⟨_,m,n,p,d,_,f,i,j⟩:=g;exact⟨m,n,p,H.mb1,H.lob,fun t r=>hm.ab1 r (.inr H.mb1) (fun a s=>.inl (H.low _ (H.lob a s))),d.1,d.2,(f (by decide)).1,(i (by decide)).1,(j (by decide)).1,(f (by decide)).2,(i (by decide)).2,(j (by decide)).2⟩
theorem pY.box(H:pY tI tN B mb lo lc l dA fz o h u ns hv us w)(hb:Bw w w')(hl:w.heap.size<w'.heap.size):pY tI tN B mb lo lc l (iW dA 5 (some w.heap.size)) fz o h u ns hv us w':=by
 obtain⟨_,j,m,n,a,d,f,g,i⟩:=H.op (k:=5) (w':=w') (QU hb fun _ h _=>h) (some w.heap.size) (fun b e=>.inr (by cases e; omega)) (by decide);exact⟨j,m,n,(d (by decide)).1,H.lob,(d (by decide)).2,a.1,a.2,(f (by decide)).1,(g (by decide)).1,(i (by decide)).1,(f (by decide)).2,(g (by decide)).2,(i (by decide)).2⟩
theorem pY.put(H:pY tI tN B mb lo lc l dA fz o h u ns hv us w)(h5:dA R=5)(hk:Kept (fun b=>b≠R) w w'):pY tI tN B mb lo lc l dA fz o h u ns hv us w':=by
 have g:=H.op (k:=5) (w':=w') (hk.mono fun b _ q e=>q (e ▸ h5)) none (fun b e=>by cases e) (by decide);rw[xX]at g;obtain⟨_,m,n,p,a,d,f,i,j⟩:=g;exact⟨m,n,p,(d (by decide)).1,H.lob,(d (by decide)).2,a.1,a.2,(f (by decide)).1,(i (by decide)).1,(j (by decide)).1,(f (by decide)).2,(i (by decide)).2,(j (by decide)).2⟩
theorem SE{v':Value}{base:Nat}{e:TypeId}{sz n:Nat}{xs:List Value}(hc:∀ b,v.ownBlock=some b->dA b=k)(ho:v'.ownBlock=v.ownBlock∨∃ b,v'.ownBlock=some b/\w.heap.size<=b)(hw:w'.ownsRow base e sz v' n xs):∀ b,v'.ownBlock=some b->dA b=k∨w.heap.size<=b/\b<w'.heap.size:=fun b a=>by
 rcases ho with e | ⟨c,e,h⟩
 ·exact .inl (hc b (e ▸ a))
 ·rw[e]at a
  cases a
  exact .inr ⟨h,(Zq hw e).2⟩
theorem lV{v:Option Nat}(h:v=some b):iW dA k v b=k:=Qu h
theorem pY.used(H:pY tI tN B mb lo lc l dA fz o h u ns hv us w){u':Value}{us':List Int}(hw:wP tI u' us' w')(hk:Kept (fun b=>u.ownBlock≠some b) w w')(ho:u'.ownBlock=u.ownBlock∨∃ b,u'.ownBlock=some b/\w.heap.size<=b):pY tI tN B mb lo lc l (iW dA 3 u'.ownBlock) fz o h u' ns hv us' w':=by
 obtain⟨_,j,m,n,d,f,g,_,i⟩:=H.op (k:=3) (hk.mono fun b _ a e=>a (H.uc b e)) u'.ownBlock (SE H.uc ho hw) (by decide);exact⟨j,m,n,(f (by decide)).1,H.lob,(f (by decide)).2,d.1,d.2,(g (by decide)).1,fun q p=>Zp hw p fun b a=>lV a,(i (by decide)).1,(g (by decide)).2,fun b a=>lV a,(i (by decide)).2⟩
theorem pY.haves(H:pY tI tN B mb lo lc l dA fz o h u ns hv us w){h':Value}{hv':List Int}(hw:wP tI h' hv' w')(hk:Kept (fun b=>h.ownBlock≠some b) w w')(ho:h'.ownBlock=h.ownBlock∨∃ b,h'.ownBlock=some b/\w.heap.size<=b):pY tI tN B mb lo lc l (iW dA 2 h'.ownBlock) fz o h' u ns hv' us w':=by
 obtain⟨_,j,m,n,d,f,_,g,i⟩:=H.op (k:=2) (hk.mono fun b _ a e=>a (H.hc b e)) h'.ownBlock (SE H.hc ho hw) (by decide);exact⟨j,m,n,(f (by decide)).1,H.lob,(f (by decide)).2,d.1,d.2,fun q p=>Zp hw p fun b a=>lV a,(g (by decide)).1,(i (by decide)).1,fun b a=>lV a,(g (by decide)).2,(i (by decide)).2⟩
theorem pY.outs(H:pY tI tN B mb lo lc l dA fz o h u ns hv us w){o':Value}{ns':List ah}(hw:fJ tN (fun b=>dA b=0) o' ns' w')(hk:Kept (fun b=>o.ownBlock≠some b) w w')(ho:o'.ownBlock=o.ownBlock∨∃ b,o'.ownBlock=some b/\w.heap.size<=b):pY tI tN B mb lo lc l (iW dA 4 o'.ownBlock) fz o' h u ns' hv us w':=by
 obtain⟨_,m,p,q,f,g,i,j,_⟩:=H.op (k:=4) (hk.mono fun b _ a e=>a (H.oc b e)) o'.ownBlock (SE H.oc ho hw.own) (by decide);refine⟨m,p,q,(g (by decide)).1,H.lob,(g (by decide)).2,f.1,f.2,(i (by decide)).1,(j (by decide)).1,fun t r=>?_,(i (by decide)).2,(j (by decide)).2,fun b a=>lV a⟩;have e:fJ tN (fun b=>iW dA 4 o'.ownBlock b=0) o' ns' w':=hw.into fun n v l y b a s d=>by
  show (if _ then _ else _)=_
  rw[Qv d]; exact s
 exact e.keep r (fun b a=>.inr (lV a)) fun b _ a=>.inl a
theorem pY.ex(H:pY tI tN B mb lo lc l dA fz o h u ns hv us w):∃ c,Hid (pY tI tN B mb lo lc l c fz o h u ns hv us w):=⟨_,H⟩
theorem pY.ex5(H:pY tI tN B mb lo lc l dA fz o h u ns hv us w)(h5:dA R=5):∃ c,Hid (c R=5)/\Hid (pY tI tN B mb lo lc l c fz o h u ns hv us w):=⟨_,h5,H⟩
theorem pY.aso(H:pY tI tN B mb lo lc l dA fz o h u ns hv us w)(hb:b<B):h.ownBlock≠some b:=fun e=>by have:=H.hc b e; rw[H.low b hb]at this; cases this
theorem pY.amS(H:pY tI tN B mb lo lc l dA fz o h u ns hv us w)(hb:b<B):u.ownBlock≠some b:=fun e=>by have:=H.uc b e; rw[H.low b hb]at this; cases this
theorem pY.ab2(H:pY tI tN B mb lo lc l dA fz o h u ns hv us w)(hb:b<B):o.ownBlock≠some b:=fun e=>by have:=H.oc b e; rw[H.low b hb]at this; cases this
theorem pY.lists(H:pY tI tN B mb lo lc l dA fz o h u ns hv us w){iv:aa}(hi:iv∈fz)(hl:iv.xs.length<=iv.cap)(k a b s key:Int):kD (fun b=>dA b=0) o ⟨k,a,b,s,iv,key,⟨none,0,[]⟩⟩ w:=fun l f=>by
 rcases f with rfl | rfl
 ·exact⟨(H.rest _ hi).now,fun b d=>⟨H.rc _ hi b d,fun e=>by have:=H.oc b e; rw[H.rc _ hi b d]at this; cases this⟩,hl⟩
 ·exact Av _ _
theorem ab3{x:Int}(h:GB w b tI #[.int .i64 x]):ag.At ⟨some (aD b 0),1,[x]⟩ w:=⟨⟨by simp,fun i f=>⟨b,0,rfl,by
 have d:i<1:=f;obtain rfl:i=0:=by omega
 exact h.cell 0⟩⟩,fun a g=>by cases g; exact h.lt,fun e=>by cases e⟩
theorem aiH{a:Option Addr}{c:Nat}{xs:List Int}(h:wP tI (.slice a xs.length c) xs w)(hl:xs.length<=1000):ag.At ⟨a,c,xs⟩ w:=by
 obtain⟨⟨g,i,e⟩,f,d,b,_⟩:=ZV h (by omega)
 dsimp only at d
 subst d;injection f with e1 _ e3;subst e1 e3;exact b
theorem pY.left(H:pY tI tN B mb lo lc l dA fz o h u ns hv us w){gz:List aa}(ha:∀ iv∈gz,iv∈fz∨ag.At iv w/\∀ b,ag.blk iv=some b->dA b=0):pY tI tN B mb lo lc l dA gz o h u ns hv us w:=
 { H with
  rest:=fun iv a=>(ha iv a).elim (H.rest iv) fun h _ d=>ag.keep h.1 d.size fun b f e=>d.block b f (h.2 b e)
  rc:=fun iv a=>(ha iv a).elim (H.rc iv) fun h=>h.2 }
theorem ab4(W:World)(v:Value)(ys:List Int)(hown:wP 3 v ys W)(ao:Option Addr)(cap:Nat)(xs:List Int)(hx:aI W ao xs)(hn:ao=none->cap=0)(hl:ys.length+xs.length<=1000000) :
  ∃ d w',(Builtin.append_ #[22,22] 22 #[v,.slice ao xs.length cap]).run Tryz.prog W=.ok d w'/\wP 3 d (ys++xs) w'/\Kept (fun b=>v.ownBlock≠some b) W w'/\(∃ a m c,d = .slice a m c)/\(d.ownBlock=v.ownBlock∨∃ b,d.ownBlock=some b/\W.heap.size<=b):=by
 obtain⟨p,q,i,k,l⟩:=Zy Tryz.kT
 cases ao with
 | none =>
  obtain rfl:cap=0:=hn rfl;obtain rfl:xs=[]:=by
   cases xs with
   | nil => rfl
   | cons x xs => obtain⟨b,off,e,_⟩:=hx.2 0 (by simp); cases e
  exact⟨v,W,run_append_owned_none (P:=Tryz.prog) (w:=W) 0 22 22 3 p 1 Tryz.underlying22 q v ys.length _ hown,by rw[XB]; exact hown,QR _ _,Zr hown,.inl rfl⟩
 | some a =>
  obtain⟨d,w',n,s,t,_,o⟩:=X6 (P:=Tryz.prog) W 0 22 22 3 p (.int .i64 0) 1 8 Tryz.underlying22 q i k l rfl (by decide) v ys.length (ys.map (Value.int .i64)) hown a xs.length cap (xs.map (Value.int .i64)) (by simp) (fun j u f=>by
   rw[ZR]at f;by_cases g:j<xs.length
   ·obtain⟨b,off,e,y⟩:=hx.2 j g
    cases e
    rw[addr_add,y];simp[List.getD,g]at f ⊢;exact f
   ·rw[XA (by omega)]at f; cases f) (fun u z=>by obtain⟨x,_,rfl⟩:=ZU.1 z; rfl) (by unfold maxLen; omega) (by omega) (Zf _)
  exact⟨d,w',n,by unfold wP; rw[ZC,Qn]; exact s,Zo t (fun r e n=>n e),Zr s,o.imp id fun e=>⟨_,e,Qs _⟩⟩
end
theorem NN(cv dv:Value)(q:ae)(base:Nat->Prop)(v:Value)(ns:List ah)(n:ah)(s:Int)(first:Bool)(w:World)(hcv:∃ a m c,cv=.slice a m c)(hdv:∃ a m c,dv=.slice a m c)(hq:bX w q.bE q.wh)(hcl:∀ i∈n.cl.xs,0<=i/\i<q.wh.length)(h:fJ 36 base v ns w)(hl:ns.length<=900)(hn:kD base v n w)(hk:0<=dZ q.wh n.cl.xs) :
  Calls Tryz.prog 17 #[.agg (caseA cv q dv),v,.agg n.cells,.int .i64 1,.int .i64 s,.bool first] w fun e w'=>∃ v',e=.returned v'/\mZ 36 base v ns [{ bU n with kind:=4,key:=dZ q.wh n.cl.xs }] w v' w':=by
 obtain⟨O,P,rfl⟩:=h.slice;obtain⟨t,G,k,l⟩:=aR w (caseA cv q dv) 29;obtain⟨w2,H,p,r⟩:=aR t n.cells 36;have B:=aC k p;have f:=l.of (p.block _ l.lt);have E:=uy cv dv q n.cl w2 hcv hdv (hq.below B) (Qt B (hn n.cl (.inl rfl)).1.1) hcl;have j:=Zh fun (x:World) (hx:Bw w x)=>mZ.one (h.below hx) (by omega) { n with kind:=4,key:=dZ q.wh n.cl.xs } (hn.below hx)
 have y:=Zh r;have F:=Zh (show w.heap.size<=t.heap.size from k.size);obtain⟨ca,cm,cc,rfl⟩:=hcv;obtain⟨da,dm,dc,rfl⟩:=hdv;have J:=Zh B;obtain⟨K,Q⟩:=eY (dZ q.wh n.cl.xs)
 rw[<- Q]at E hk j ⊢;clear Q hq hcl h hl hn k p B;obtain⟨src,bE,aF,wh,I,R,S,aK,af⟩:=q;obtain⟨nk,nl,nr,Re,⟨Kw,Ky,Fz⟩,key,⟨NI,NJ,Mq⟩⟩:=n;simp only[caseA,aa.val,ah.cells]at *;obtain⟨T,U,V,W,A,X,Y,Z,g8⟩:=XX (f.cell 0) (XX (f.cell 1) (XX (f.cell 2) (XX (f.cell 3) (XX (f.cell 4) (XX (f.cell 5) (XX (f.cell 6) (XX (f.cell 7) (f.cell 8))))))));simp only[ZK,ZM,ZL]at T U V W A X Y Z g8;obtain⟨k0,k1,k2,k3,k4,k5,k6⟩:=r.k7;clear l r f;go_enter Tryz.func17,Tryz.ntmps17;go_wp2_with fail;refine E.mono ?_;rintro e w3 ⟨rfl,d⟩;have j0:=cB d k0;have j1:=cB d k1;have j2:=cB d k2;have j3:=cB d k3;have j4:=cB d k4;have j5:=cB d k5;have j6:=cB d k6;have z:=aC J.o d;have C:=y.o.of (d.block _ y.o.lt);have y0:=C.frozen 0;have y5:=C.frozen 5;have KC:=Zh C;have L:¬ K<0:=by omega
 have M:=Zh z;clear E T U V W A X Y Z g8 k0 k1 k2 k3 k4 k5 k6 G H d z J C hk;go_upto_region 6 with fail;obtain⟨u,g⟩:∃ x,(w3.setCell (aD t.heap.size 0) (.int .i64 4)).setCell (aD t.heap.size 5) (.int .i64 K)=x:=⟨_,rfl⟩
 have A:GB u t.heap.size 36 #[.int .i64 4,.int .i64 nl,.int .i64 nr,.int .i64 Re,.slice Kw Fz.length Ky,.int .i64 K,.slice NI Mq.length NJ]:=by rw[<- g]; exact(KC.o.set 0 _).set 5 _
 have N:Kept (fun b=>b≠t.heap.size) w3 u:=by rw[<- g]; exact(Zn _ _ _ (fun h=>h rfl)).trans (Zn _ _ _ (fun h=>h rfl))
 have D:Bw w u:=M.o.trans (N.below M.o.size (fun b hb=>by have:=F.o; show b≠_; omega));rw[g];clear g N j0 j1 j2 j3 j4 j5 j6 y0 y5;obtain⟨x0,x1,x2,x3,x4,x5,x6⟩:=A.k7;obtain⟨a',c',w5,hr,hL⟩:=j.o u D;have HL:=Zh hL;have xD:=Zh (show Kept (fun b=>(Value.slice O ns.length P).ownBlock≠some b) w u from QU D fun _ h _=>h);have FY:=Zh D.size;clear hL D j A;go_wp2_with (first | (at_builtin; refine X5 rfl (.tmp 112) (.tmp 114) 32 rfl (.slice O ns.length P) (.slice (some (aD u.heap.size 0)) 1 1) (.slice a' (ns.length+1) c') w5 rfl rfl hr ?_));go_wp2;go_ret;obtain⟨hN,hk,ho⟩:=HL.o;exact⟨_,rfl,hN,xD.o.trans hk,ho.imp id fun ⟨b,e,hb⟩=>⟨b,e,QS FY.o hb⟩⟩
