import Derived.Test.YtgemohlbjehmbaaGreatDoorF39
set_option linter.all false
set_option maxRecDepth 100000
set_option maxHeartbeats 16000000
namespace Go.Proofs.Zz
open Go.RowKit Go.Shelf
variable {K:Nat->Prop} {A:World->Prop} {w:World} {R b k:Nat} {v:Value}
section
def Fr(bS:Nat->Nat)(K:Nat->Prop)(A:World->Prop)(w:World):Prop:=∀ w',Kept (λb=>K (bS b)) w w'->A w'
theorem Fr.step{bS arL:Nat->Nat}{w':World}(h:Fr bS K A w)(hk:Kept (λb=>bS b≠k) w w')(hK:¬ K k)(hc:∀ b,b<w.heap.size->arL b=bS b):Fr arL K A w':=λ_ d=>
 h _ ((hk.mono λ_ _ a e=>hK (e ▸ a)).trans' d λb a f=>by rw[hc b a]; exact f)
def jY(bS:Nat->Nat)(k:Nat)(v:Option Nat)(b:Nat):Nat:=if v=some b then k else bS b
def xS(tI:TypeId)(v:Value)(xs:List Int)(w:World):Prop:=w.ownsRow 0 tI 1 v xs.length (xs.map (Value.int .i64))
theorem aP.aeq{mb:Nat}{lo:Option Addr}{lc:Nat}{l:List Int}{A B:World}{P:Nat->Prop}(h:aP mb lo lc l A)(hk:Kept P A B)(h1:P mb)(h2:∀ a,lo=some a->P a.block):aP mb lo lc l B:=by obtain⟨k,b,d⟩:=h.num;have e:=hk.block mb (Za (p:=(aD mb 0)) h.YH) h1;exact⟨⟨k,b,(Zc (a:=(aD mb 1)) e).trans d⟩,(Zc (a:=(aD mb 0)) e).trans h.YH,(XM (a:=(aD mb 1)) e).trans h.thaw,⟨h.ints.1,h.ints.2.keep λa g f=>hk.block _ f (h2 a g)⟩,h.off⟩
theorem jm.into{tn:TypeId}{L M:Nat->Prop}{ns:List ah}(h:jm tn L v ns w)(hm:∀ n∈ns,∀ l,l=n.cl∨l=n.co->∀ b,bU.blk l=some b->L b->v.ownBlock≠some b->M b):jm tn M v ns w:=
 ⟨h.own,λn a l d=>by
  obtain⟨e,f,g⟩:=h.lists n a l d;grind⟩
structure qU(tI tN:TypeId)(B mb:Nat)(lo:Option Addr)(lc:Nat)(l:List Int)(bS:Nat->Nat)(fz:List ai)(o h u:Value)(ns:List ah)(hv us:List Int)(w:World):Prop where
 size:B<=w.heap.size
 fresh:∀ b,w.heap.size<=b->bS b=0
 low:∀ b,b<B->bS b=0
 mb1:bS mb=1
 lob:∀ a,lo=some a->a.block<B
 mak:Fr bS (λk=>k=0∨k=1) (aP mb lo lc l) w
 rest:∀ iv∈fz,Fr bS (λk=>k=0) (bU.At iv) w
 rc:∀ iv∈fz,∀ b,bU.blk iv=some b->bS b=0
 Pw:Fr bS (λk=>k=2) (xS tI h hv) w
 use:Fr bS (λk=>k=3) (xS tI u us) w
 out:Fr bS (λk=>k=0∨k=4) (jm tN (λb=>bS b=0) o ns) w
 hc:∀ b,h.ownBlock=some b->bS b=2
 uc:∀ b,u.ownBlock=some b->bS b=3
 oc:∀ b,o.ownBlock=some b->bS b=4
variable {tI tN:TypeId} {B mb:Nat} {lo:Option Addr} {lc:Nat} {l:List Int} {bS:Nat->Nat} {fz:List ai} {o h u:Value} {ns:List ah} {hv us:List Int} {w w':World}
theorem Fr.now(h:Fr bS K A w):A w:=h w (Q5 _ _)
theorem qU.op(H:qU tI tN B mb lo lc l bS fz o h u ns hv us w)(hk:Kept (λb=>bS b≠k) w w')(v:Option Nat)(hv':∀ b,v=some b->bS b=k∨w.heap.size<=b/\b<w'.heap.size)(h0:k≠0) :
  (∀ b,b<w.heap.size->jY bS k v b=bS b)/\B<=w'.heap.size/\(∀ b,w'.heap.size<=b->jY bS k v b=0)/\(∀ b,b<B->jY bS k v b=0)/\((∀ iv∈fz,Fr (jY bS k v) (λj=>j=0) (bU.At iv) w')/\∀ iv∈fz,∀ b,bU.blk iv=some b->jY bS k v b=0)/\
  (k≠1->jY bS k v mb=1/\Fr (jY bS k v) (λj=>j=0∨j=1) (aP mb lo lc l) w')/\
  (k≠2->Fr (jY bS k v) (λj=>j=2) (xS tI h hv) w'/\∀ b,h.ownBlock=some b->jY bS k v b=2)/\
  (k≠3->Fr (jY bS k v) (λj=>j=3) (xS tI u us) w'/\∀ b,u.ownBlock=some b->jY bS k v b=3)/\
  (k≠4->Fr (jY bS k v) (λj=>j=0∨j=4) (jm tN (λb=>jY bS k v b=0) o ns) w'/\∀ b,o.ownBlock=some b->jY bS k v b=4):=by
 have e:∀ b,b<w.heap.size->jY bS k v b=bS b:=λb a=>by unfold jY;grind
 have g:mb<w.heap.size:=Za (p:=(aD mb 0)) H.mak.now.YH;have i:=H.size;refine⟨e,Q6 i hk.size,λb a=>?_,λb a=>by rw[e b (by omega)]; exact H.low b a,⟨λiv f=>(H.rest iv f).step hk (λe=>h0 e) e,λiv f b a=>by rw[e b (bU.inn (H.rest iv f).now a)]; exact H.rc iv f b a⟩,λ_=>⟨by rw[e mb g]; exact H.mb1,H.mak.step hk (λe=>by rcases e with e | e <;> contradiction) e⟩,λ_=>⟨H.Pw.step hk (λe=>by contradiction) e,λb a=>?_⟩,λ_=>⟨H.use.step hk (λe=>by contradiction) e,λb a=>?_⟩,λ_=>⟨λm q=>?_,λb a=>?_⟩⟩
 ·have d:=Q6 hk.size a;unfold jY;split
  ·rename_i e
   rcases hv' b e with e | e
   ·rw[H.fresh b d]at e; exact e.symm
   ·omega
  ·exact H.fresh b d
 ·rw[e b (Zj H.Pw.now a).2]; exact H.hc b a
 ·rw[e b (Zj H.use.now a).2]; exact H.uc b a
 ·refine(H.out.step hk (λe=>by rcases e with e | e <;> contradiction) e m q).into λn r l s b a t _=>?_
  rw[e b (bU.inn (H.out.now.lists n r l s).1 a)]; exact t
 ·rw[e b (Zj H.out.now.own a).2]; exact H.oc b a
theorem yX(bS:Nat->Nat)(k:Nat):jY bS k none=bS:=by funext b; simp[jY]
theorem qU.below(H:qU tI tN B mb lo lc l bS fz o h u ns hv us w)(hb:Bw w w'):qU tI tN B mb lo lc l bS fz o h u ns hv us w':=by have g:=H.op (k:=9) (w':=w') (Q7 hb λ_ h _=>h) none (λb e=>by cases e) (by decide);rw[yX]at g;obtain⟨_,m,n,p,a,d,f,i,j⟩:=g;exact⟨m,n,p,(d (by decide)).1,H.lob,(d (by decide)).2,a.1,a.2,(f (by decide)).1,(i (by decide)).1,(j (by decide)).1,(f (by decide)).2,(i (by decide)).2,(j (by decide)).2⟩
theorem qU.next(H:qU tI tN B mb lo lc l bS fz o h u ns hv us w)(hm:aP mb lo lc l w')(hk:Kept (λb=>b≠mb) w w'):qU tI tN B mb lo lc l bS fz o h u ns hv us w':=by have g:=H.op (k:=1) (w':=w') (hk.mono λb _ q e=>q (e ▸ H.mb1)) none (λb e=>by cases e) (by decide);rw[yX]at g;obtain⟨_,m,n,p,d,_,f,i,j⟩:=g;exact⟨m,n,p,H.mb1,H.lob,λt r=>hm.aeq r (.inr H.mb1) (λa s=>.inl (H.low _ (H.lob a s))),d.1,d.2,(f (by decide)).1,(i (by decide)).1,(j (by decide)).1,(f (by decide)).2,(i (by decide)).2,(j (by decide)).2⟩
theorem qU.box(H:qU tI tN B mb lo lc l bS fz o h u ns hv us w)(hb:Bw w w')(hl:w.heap.size<w'.heap.size):qU tI tN B mb lo lc l (jY bS 5 (some w.heap.size)) fz o h u ns hv us w':=by obtain⟨_,j,m,n,a,d,f,g,i⟩:=H.op (k:=5) (w':=w') (Q7 hb λ_ h _=>h) (some w.heap.size) (λb e=>.inr (by cases e; omega)) (by decide);exact⟨j,m,n,(d (by decide)).1,H.lob,(d (by decide)).2,a.1,a.2,(f (by decide)).1,(g (by decide)).1,(i (by decide)).1,(f (by decide)).2,(g (by decide)).2,(i (by decide)).2⟩
theorem qU.put(H:qU tI tN B mb lo lc l bS fz o h u ns hv us w)(h5:bS R=5)(hk:Kept (λb=>b≠R) w w'):qU tI tN B mb lo lc l bS fz o h u ns hv us w':=by have g:=H.op (k:=5) (w':=w') (hk.mono λb _ q e=>q (e ▸ h5)) none (λb e=>by cases e) (by decide);rw[yX]at g;obtain⟨_,m,n,p,a,d,f,i,j⟩:=g;exact⟨m,n,p,(d (by decide)).1,H.lob,(d (by decide)).2,a.1,a.2,(f (by decide)).1,(i (by decide)).1,(j (by decide)).1,(f (by decide)).2,(i (by decide)).2,(j (by decide)).2⟩
theorem Ui{v':Value}{base:Nat}{e:TypeId}{sz n:Nat}{xs:List Value}(hc:∀ b,v.ownBlock=some b->bS b=k)(ho:v'.ownBlock=v.ownBlock∨∃ b,v'.ownBlock=some b/\w.heap.size<=b)(hw:w'.ownsRow base e sz v' n xs):∀ b,v'.ownBlock=some b->bS b=k∨w.heap.size<=b/\b<w'.heap.size:=λb a=>by
 rcases ho with e | ⟨c,e,h⟩
 ·exact .inl (hc b (e ▸ a))
 ·rw[e]at a
  cases a;exact .inr ⟨h,(Zj hw e).2⟩
theorem nu{v:Option Nat}(h:v=some b):jY bS k v b=k:=Qo h
theorem qU.used(H:qU tI tN B mb lo lc l bS fz o h u ns hv us w){u':Value}{us':List Int}(hw:xS tI u' us' w')(hk:Kept (λb=>u.ownBlock≠some b) w w')(ho:u'.ownBlock=u.ownBlock∨∃ b,u'.ownBlock=some b/\w.heap.size<=b):qU tI tN B mb lo lc l (jY bS 3 u'.ownBlock) fz o h u' ns hv us' w':=by obtain⟨_,j,m,n,d,f,g,_,i⟩:=H.op (k:=3) (hk.mono λb _ a e=>a (H.uc b e)) u'.ownBlock (Ui H.uc ho hw) (by decide);exact⟨j,m,n,(f (by decide)).1,H.lob,(f (by decide)).2,d.1,d.2,(g (by decide)).1,λq p=>Zi hw p λb a=>nu a,(i (by decide)).1,(g (by decide)).2,λb a=>nu a,(i (by decide)).2⟩
theorem qU.haves(H:qU tI tN B mb lo lc l bS fz o h u ns hv us w){h':Value}{hv':List Int}(hw:xS tI h' hv' w')(hk:Kept (λb=>h.ownBlock≠some b) w w')(ho:h'.ownBlock=h.ownBlock∨∃ b,h'.ownBlock=some b/\w.heap.size<=b):qU tI tN B mb lo lc l (jY bS 2 h'.ownBlock) fz o h' u ns hv' us w':=by obtain⟨_,j,m,n,d,f,_,g,i⟩:=H.op (k:=2) (hk.mono λb _ a e=>a (H.hc b e)) h'.ownBlock (Ui H.hc ho hw) (by decide);exact⟨j,m,n,(f (by decide)).1,H.lob,(f (by decide)).2,d.1,d.2,λq p=>Zi hw p λb a=>nu a,(g (by decide)).1,(i (by decide)).1,λb a=>nu a,(g (by decide)).2,(i (by decide)).2⟩
theorem qU.outs(H:qU tI tN B mb lo lc l bS fz o h u ns hv us w){o':Value}{ns':List ah}(hw:jm tN (λb=>bS b=0) o' ns' w')(hk:Kept (λb=>o.ownBlock≠some b) w w')(ho:o'.ownBlock=o.ownBlock∨∃ b,o'.ownBlock=some b/\w.heap.size<=b):qU tI tN B mb lo lc l (jY bS 4 o'.ownBlock) fz o' h u ns' hv us w':=by
 obtain⟨_,m,p,q,f,g,i,j,_⟩:=H.op (k:=4) (hk.mono λb _ a e=>a (H.oc b e)) o'.ownBlock (Ui H.oc ho hw.own) (by decide);refine⟨m,p,q,(g (by decide)).1,H.lob,(g (by decide)).2,f.1,f.2,(i (by decide)).1,(j (by decide)).1,λt r=>?_,(i (by decide)).2,(j (by decide)).2,λb a=>nu a⟩;have e:jm tN (λb=>jY bS 4 o'.ownBlock b=0) o' ns' w':=hw.into λn v l y b a s d=>by show (if _ then _ else _)=_;rw[Qu d]; exact s
 exact e.keep r (λb a=>.inr (nu a)) λb _ a=>.inl a
theorem qU.ex(H:qU tI tN B mb lo lc l bS fz o h u ns hv us w):∃ c,Hid (qU tI tN B mb lo lc l c fz o h u ns hv us w):=⟨_,H⟩
theorem qU.ex5(H:qU tI tN B mb lo lc l bS fz o h u ns hv us w)(h5:bS R=5):∃ c,Hid (c R=5)/\Hid (qU tI tN B mb lo lc l c fz o h u ns hv us w):=⟨_,h5,H⟩
theorem qU.ayu(H:qU tI tN B mb lo lc l bS fz o h u ns hv us w)(hb:b<B):h.ownBlock≠some b:=λe=>by have:=H.hc b e; rw[H.low b hb]at this; cases this
theorem qU.arN(H:qU tI tN B mb lo lc l bS fz o h u ns hv us w)(hb:b<B):u.ownBlock≠some b:=λe=>by have:=H.uc b e; rw[H.low b hb]at this; cases this
theorem qU.aer(H:qU tI tN B mb lo lc l bS fz o h u ns hv us w)(hb:b<B):o.ownBlock≠some b:=λe=>by have:=H.oc b e; rw[H.low b hb]at this; cases this
theorem qU.lists(H:qU tI tN B mb lo lc l bS fz o h u ns hv us w){iv:ai}(hi:iv∈fz)(hl:iv.xs.length<=iv.cap)(k a b s key:Int):lT (λb=>bS b=0) o ⟨k,a,b,s,iv,key,⟨none,0,[]⟩⟩ w:=λl f=>by
 rcases f with rfl | rfl
 ·exact⟨(H.rest _ hi).now,λb d=>⟨H.rc _ hi b d,λe=>by have:=H.oc b e; rw[H.rc _ hi b d]at this; cases this⟩,hl⟩
 ·exact F8 _ _
theorem ai2{x:Int}(h:GB w b tI #[.int .i64 x]):bU.At ⟨some (aD b 0),1,[x]⟩ w:=⟨⟨by simp,λi f=>⟨b,0,rfl,by
 have d:i<1:=f;obtain rfl:i=0:=by omega
 exact h.cell 0⟩⟩,λa g=>by cases g; exact h.lt,λe=>by cases e⟩
theorem amo{a:Option Addr}{c:Nat}{xs:List Int}(h:xS tI (.slice a xs.length c) xs w)(hl:xs.length<=1000):bU.At ⟨a,c,xs⟩ w:=by obtain⟨⟨f,g,e⟩,hv,d,b,_⟩:=jR h (by omega);dsimp only at d;subst d;injection hv with e1 _ e3;subst e1 e3;exact b
theorem qU.left(H:qU tI tN B mb lo lc l bS fz o h u ns hv us w){gz:List ai}(ha:∀ iv∈gz,iv∈fz∨bU.At iv w/\∀ b,bU.blk iv=some b->bS b=0):qU tI tN B mb lo lc l bS gz o h u ns hv us w:=
 { H with
  rest:=λiv a=>(ha iv a).elim (H.rest iv) λh _ d=>bU.keep h.1 d.size λb f e=>d.block b f (h.2 b e)
  rc:=λiv a=>(ha iv a).elim (H.rc iv) λh=>h.2 }
theorem aes(W:World)(v:Value)(ys:List Int)(hown:xS 3 v ys W)(ao:Option Addr)(cap:Nat)(xs:List Int)(hx:aM W ao xs)(hn:ao=none->cap=0)(hl:ys.length+xs.length<=1000000) :
  ∃ d w',(Builtin.append_ #[22,22] 22 #[v,.slice ao xs.length cap]).run Tryz.prog W=.ok d w'/\xS 3 d (ys++xs) w'/\Kept (λb=>v.ownBlock≠some b) W w'/\(∃ a m c,d = .slice a m c)/\(d.ownBlock=v.ownBlock∨∃ b,d.ownBlock=some b/\W.heap.size<=b):=by
 obtain⟨p,q,f,g,i⟩:=Zv Tryz.nG
 cases ao with
 | none =>
  obtain rfl:cap=0:=hn rfl;obtain rfl:xs=[]:=by
   cases xs with
   | nil => rfl
   | cons x xs => obtain⟨b,k,e,_⟩:=hx.2 0 (by simp); cases e
  exact⟨v,W,run_append_owned_none (P:=Tryz.prog) (w:=W) 0 22 22 3 p 1 Tryz.underlying22 q v ys.length _ hown,by rw[Xb]; exact hown,Q5 _ _,Zk hown,.inl rfl⟩
 | some a =>
  obtain⟨d,w',l,s,t,_,n⟩:=Zw (P:=Tryz.prog) W 0 22 22 3 p (.int .i64 0) 1 8 Tryz.underlying22 q f g i rfl (by decide) v ys.length (ys.map (Value.int .i64)) hown a xs.length cap (xs.map (Value.int .i64)) (by simp) (λj u z=>by
   rw[ZL]at z;by_cases o:j<xs.length
   ·obtain⟨b,k,e,y⟩:=hx.2 j o
    cases e;rw[Qx,y];grind
   grind) (λu A=>by obtain⟨x,_,rfl⟩:=QZ.1 A; rfl) (by unfold maxLen; omega) (by omega) (QK _)
  exact⟨d,w',l,by unfold xS; grind,Zg t (λr e l=>l e),Zk s,n.imp id λe=>⟨_,e,Qn _⟩⟩
end
theorem OV(cv dv:Value)(q:ae)(base:Nat->Prop)(v:Value)(ns:List ah)(n:ah)(s:Int)(first:Bool)(w:World)(hcv:∃ a m c,cv=.slice a m c)(hdv:∃ a m c,dv=.slice a m c)(hq:fT w q.dD q.wh)(hcl:∀ i∈n.cl.xs,0<=i/\i<q.wh.length)(h:jm 75 base v ns w)(hl:ns.length<=900)(hn:lT base v n w)(hk:0<=eD q.wh n.cl.xs) :
  Calls Tryz.prog 23 #[.agg (caseA cv q dv),v,.agg n.cells,.int .i64 1,.int .i64 s,.bool first] w λe w'=>∃ v',e=.returned v'/\qR 75 base v ns [{ bL n with kind:=4,key:=eD q.wh n.cl.xs }] w v' w':=by
 obtain⟨T,U,rfl⟩:=h.slice;obtain⟨t,G,k,l⟩:=bn w (caseA cv q dv) 29;obtain⟨w2,H,p,r⟩:=bn t n.cells 75;have B:=aF k p;have f:=l.of (p.block _ l.lt);have E:=vQ cv dv q n.cl w2 hcv hdv (hq.below B) (Ql B (hn n.cl (.inl rfl)).1.1) hcl;have j:=Zh λ(x:World) (hx:Bw w x)=>qR.one (h.below hx) (by omega) { n with kind:=4,key:=eD q.wh n.cl.xs } (hn.below hx);have y:=Zh r;have F:=Zh (show w.heap.size<=t.heap.size from k.size);obtain⟨ca,cm,cc,rfl⟩:=hcv;obtain⟨da,dm,dc,rfl⟩:=hdv;have P:=Zh B;obtain⟨K,V⟩:=eY (eD q.wh n.cl.xs);rw[<- V]at E hk j ⊢;clear V hq hcl h hl hn k p B;obtain⟨src,dD,aS,wh,group,W,X,bA,ord⟩:=q;obtain⟨nk,nl,nr,DL,⟨I,J,L⟩,key,⟨M,N,O⟩⟩:=n;simp only[caseA,ai.val,ah.cells]at *;obtain⟨Y,Z,g2,g3,A,g5,g6,g7,g8⟩:=XI (f.cell 0) (XI (f.cell 1) (XI (f.cell 2) (XI (f.cell 3) (XI (f.cell 4) (XI (f.cell 5) (XI (f.cell 6) (XI (f.cell 7) (f.cell 8))))))));simp only[XO,XQ,XP]at Y Z g2 g3 A g5 g6 g7 g8;obtain⟨k0,k1,k2,k3,k4,k5,k6⟩:=r.k7;clear l r f;go_enter Tryz.func23,Tryz.ntmps23;go_wp2_with fail;refine E.mono ?_;rintro e w3 ⟨rfl,d⟩;have j0:=cB d k0;have j1:=cB d k1;have j2:=cB d k2;have j3:=cB d k3;have j4:=cB d k4;have j5:=cB d k5;have j6:=cB d k6;have z:=aF P.o d;have C:=y.o.of (d.block _ y.o.lt);have y0:=C.frozen 0;have y5:=C.frozen 5;have vG:=Zh C;have Q:¬ K<0:=by omega
 have R:=Zh z;clear E Y Z g2 g3 A g5 g6 g7 g8 k0 k1 k2 k3 k4 k5 k6 G H d z P C hk;go_upto_region 6 with fail;obtain⟨u,g⟩:∃ x,(w3.setCell (aD t.heap.size 0) (.int .i64 4)).setCell (aD t.heap.size 5) (.int .i64 K)=x:=⟨_,rfl⟩;have A:GB u t.heap.size 75 #[.int .i64 4,.int .i64 nl,.int .i64 nr,.int .i64 DL,.slice I L.length J,.int .i64 K,.slice M O.length N]:=by rw[<- g]; exact(vG.o.set 0 _).set 5 _
 have S:Kept (λb=>b≠t.heap.size) w3 u:=by rw[<- g]; exact(Zf _ _ _ (λh=>h rfl)).trans (Zf _ _ _ (λh=>h rfl))
 have D:Bw w u:=R.o.trans (S.below R.o.size (λb hb=>by have:=F.o; show b≠_; omega));rw[g];clear g S j0 j1 j2 j3 j4 j5 j6 y0 y5;obtain⟨x0,x1,x2,x3,x4,x5,x6⟩:=A.k7;obtain⟨a',c',w5,hr,hL⟩:=j.o u D;have HL:=Zh hL;have xE:=Zh (show Kept (λb=>(Value.slice T ns.length U).ownBlock≠some b) w u from Q7 D λ_ h _=>h);have uG:=Zh D.size;clear hL D j A;go_wp2_with (first | (at_builtin; refine Zt rfl (.tmp 112) (.tmp 114) 43 rfl (.slice T ns.length U) (.slice (some (aD u.heap.size 0)) 1 1) (.slice a' (ns.length+1) c') w5 rfl rfl hr ?_));go_wp2;go_ret;obtain⟨hN,hk,ho⟩:=HL.o;exact⟨_,rfl,hN,xE.o.trans hk,ho.imp id λ⟨b,e,hb⟩=>⟨b,e,Q6 uG.o hb⟩⟩
