import Derived.Test.YtjndadibondgbaaGreatDoorL00
set_option linter.all false
set_option maxRecDepth 100000
set_option maxHeartbeats 16000000
namespace Go.Proofs.Zz
open Go.RowKit Go.Shelf
variable {o1 s:Nat->Prop} {P:Program} {W w w0:World} {lb:Array Value} {x:aa} {base k n0:Nat} {pre rs:List aa} {rows:List (List Int)} {e:TypeId} {v:Value}
section
structure Kept(s:Nat->Prop)(A B:World):Prop where
 os:B.os=A.os
 tape:B.tape=A.tape
 output:B.output=A.output
 size:A.heap.size<=B.heap.size
 block:∀ k,k<A.heap.size->s k->B.heap[k]? = A.heap[k]?
theorem Kept.refl(s:Nat->Prop)(A:World):Kept s A A:=⟨rfl,rfl,rfl,Qs _,fun _ _ _=>rfl⟩
theorem Kept.trans{s:Nat->Prop}{A B C:World}(h:Kept s A B)(k:Kept s B C):Kept s A C:=
 ⟨k.os.trans h.os,k.tape.trans h.tape,k.output.trans h.output,QS h.size k.size,fun i a b=>(k.block i (QT a h.size) b).trans (h.block i a b)⟩
theorem Kept.mono{s t:Nat->Prop}{A B:World}(h:Kept s A B)(hs:∀ b,b<A.heap.size->t b->s b):Kept t A B:=
 ⟨h.os,h.tape,h.output,h.size,fun i a d=>h.block i a (hs i a d)⟩
theorem Kept.trans'{t:Nat->Prop}{A B C:World}(h:Kept s A B)(k:Kept t B C)(hs:∀ b,b<A.heap.size->s b->t b):Kept s A C:=
 ⟨k.os.trans h.os,k.tape.trans h.tape,k.output.trans h.output,QS h.size k.size,fun i d a=>(k.block i (QT d h.size) (hs i d a)).trans (h.block i d a)⟩
theorem Kept.of_below{s:Nat->Prop}{B:Nat}{w w':World}(h:Below B w w')(hs:∀ b,b<w.heap.size->s b->b<B):Kept s w w':=
 ⟨h.os,h.tape,h.output,h.size,fun k d a=>h.block k (hs k d a)⟩
theorem Kept.below{s:Nat->Prop}{B:Nat}{w w':World}(h:Kept s w w')(hB:B<=w.heap.size)(hs:∀ b,b<B->s b):Below B w w':=
 ⟨h.os,h.tape,h.output,h.size,fun k a=>h.block k (QT a hB) (hs k a)⟩
theorem Kept.putObj{s:Nat->Prop}(W:World){r:Nat}(o:Obj)(hr:¬ s r):Kept s W (W.putObj r o):=
 ⟨rfl,rfl,rfl,by simp,fun k _ a=>QW (fun e=>hr (e ▸ a))⟩
theorem Kept.alloc{s:Nat->Prop}(W:World)(o:Obj):Kept s W (W.alloc o):=
 ⟨rfl,rfl,rfl,by simp,fun k a _=>Below.heap_alloc W o k a⟩
structure El(α κ:Type) where
 enc:α->Value
 At:α->World->Prop
 blk:α->Option Nat
 key:α->κ
 keep:∀ {x A B},At x A->A.heap.size<=B.heap.size->(∀ b,b<A.heap.size->blk x=some b->B.heap[b]? = A.heap[b]?)->At x B
 sV:∀ {x A b},At x A->blk x=some b->b<A.heap.size
variable {α κ:Type} (E:El α κ)
def Seq(P:Program)(g:Nat)(lb:Array Value)(rows:List κ)(w0:World):Prop:=
 ∀ (l:Nat) (J:List α->(Nat->Prop)->World->Prop) (W:World) (o:Nat->Prop),
  Bw w0 W->(∀ b,o b->w0.heap.size<=b/\b<W.heap.size)->
  (∀ pre o1 A B,J pre o1 A->Kept (fun b=>o1 b∨b<W.heap.size) A B->J pre o1 B)->
  (∀ pre x o1 W1,J pre o1 W1->(pre++[x]).map E.key <+: rows->E.At x W1->(∀ b,E.blk x=some b->¬ o1 b/\(b<w0.heap.size∨W.heap.size<=b))->W.heap.size<=W1.heap.size->
   YieldAt Fence.wide 0 P l #[E.enc x] W1 fun e W'=>e=.returned (.bool true)/\∃ o2,J (pre++[x]) o2 W'/\Kept (fun b=>¬ o1 b) W1 W'/\
    ∀ b,o2 b->o1 b∨(W1.heap.size<=b/\b<W'.heap.size)∨(E.blk x=some b/\W.heap.size<=b))->
  J [] o W->
  Calls P g (#[.func (.yield l) #[] #[]]++lb) W fun e W'=>(∃ v,e=.returned v)/\∃ ys o',ys.map E.key=rows/\J ys o' W'/\Kept (fun b=>¬ o b) W W'/\
   ∀ b,o' b->o b∨(W.heap.size<=b/\b<W'.heap.size)
def jl(I:List α->(Nat->Prop)->World->Prop)(pre:List α)(x:α)(n:Nat)(o1:Nat->Prop)(W:World):Exit->Act->World->Prop
 | .normal,_,W' => ∃ o2,I (pre++[x]) o2 W'/\Kept (fun b => ¬ o1 b) W W'/\∀ b,o2 b->o1 b∨(W.heap.size<=b/\b<W'.heap.size)∨(E.blk x=some b/\n<=b)
 | _,_,_ => False
theorem mo{g:Operand}{ps:Array Tmp}{assign body:Code}{Q:Exit->Act->World->Prop}{a:Act}
  {gf:Nat} (hg:a.eval g=.func (.func gf) #[] lb) (eg:∀ args w,(callFunc gf args).run P w=.ok (.enter gf args) w)
  {rows:List κ} (hseq:Seq E P gf lb rows w0) (hb0:Bw w0 w) (hps:ps.size=1)
  (I:List α->(Nat->Prop)->World->Prop) (o:Nat->Prop) (ho:∀ b,o b->w0.heap.size<=b/\b<w.heap.size)
  (hI:∀ i k A B,I i k A->Kept (fun b=>k b∨b<w.heap.size) A B->I i k B) (h0:I [] o w) (a₁:α->Act)
  (hassign:∀ (l:Nat) (x:α) (W:World) (K:Act->World->Prop),K (a₁ x) W->
   assign.wpIn (Fence.wide.inRound l) 0 P (Exit.then K (fun _ _ _=>False)) { tmps:=(ps.zip #[E.enc x]).foldl (fun t (p,v)=>t.setIfInBounds p v) a.tmps,defers:=[] } W)
  (hbody:∀ (l:Nat) (i:List α) (x:α) (k:Nat->Prop) (W:World),I i k W->(i++[x]).map E.key <+: rows->E.At x W->
   (∀ b,E.blk x=some b->¬ k b/\(b<w0.heap.size∨w.heap.size<=b))->w.heap.size+2<=W.heap.size->
   body.wpIn (Fence.wide.inRound l) 0 P (jl E I i x w.heap.size k W) (a₁ x) W)
  (hdone:∀ (ys:List α) (H:Nat->Prop) (W:World),ys.map E.key=rows->I ys H W->Kept (fun b=>¬ o b) w W->(∀ b,H b->(o b∨(w.heap.size+2<=b/\b<W.heap.size)))->
   W.heap[w.heap.size]? = some (.deferred (some []))->Q .normal { a with defers:={ target:=.collected w.heap.size,args:=#[] } :: a.defers } W) :
  (Code.rangeFunc g ps assign body).wpIn Fence.wide 0 P Q a w:=by
 refine wpIn_rangeFunc ?_;intro fn az;obtain⟨m,j⟩:∃ m:LoopState->Option Code->Loop,m=fun st pe=>{ state:=st,pending:=pe,fn,tmps:=a.tmps,params:=ps,assign,body,defers:=w.heap.size }:=⟨_,rfl⟩
 obtain⟨z,y⟩:∃ z,(w.alloc (.deferred (some []))).alloc (.loop (m .ready none))=z:=⟨_,rfl⟩
 have aB:z.heap.size=w.heap.size+2:=by rw[<- y]; simp
 have ae:z.heap[w.heap.size+1]? = some (.loop (m .ready none)):=by
  rw[<- y]; have:=World.alloc_heap_new (w.alloc (.deferred (some []))) (.loop (m .ready none)); rwa [QY]at this
 have af:z.heap[w.heap.size]? = some (.deferred (some [])):=by
  rw[<- y]; exact(Below.heap_alloc _ _ _ (by simp)).trans (World.alloc_heap_new w _)
 have G:∀ s,Kept s w z:=fun s=>by rw[<- y]; exact(Kept.alloc _ _).trans (Kept.alloc _ _)
 have ag:=hb0.trans ((G (fun _=>True)).below hb0.size (fun _ _=>trivial));refine⟨w.heap.size+1,[{ target:=.collected w.heap.size,args:=#[] }],z,{ target:=.fn (.func gf) lb,args:=#[.func (.yield (w.heap.size+1)) #[] #[]] },z,gf,
  #[.func (.yield (w.heap.size+1)) #[] #[]]++lb,z,?_,?_,?_,?_,fun h=>by simp[Fence.wide]at h,?_⟩
 ·rw[<- y,j]; exact run_enterLoop_outer _ _ _ _ _
 ·simp only[resolve,hg];simp[go_sem]
 ·intro f' _; trivial
 ·simp[invoke,go_sem,eg]
 ·refine QZ.2 ((hseq (w.heap.size+1)
   (fun i H W=>∃ k,I i k W/\(∀ b,H b↔k b∨b=w.heap.size∨b=w.heap.size+1)/\¬ k w.heap.size/\¬ k (w.heap.size+1)/\
    W.heap[w.heap.size+1]? = some (.loop (m .ready none))/\W.heap[w.heap.size]? = some (.deferred (some [])))
   z (fun b=>o b∨b=w.heap.size∨b=w.heap.size+1) ag ?_ ?_ ?_ ?_).mono ?_)
  ·rintro b (f | rfl | rfl)
   ·exact⟨(ho b f).1,by have:=(ho b f).2; omega⟩
   ·exact⟨hb0.size,by omega⟩
   ·exact⟨by have:=hb0.size; omega,by omega⟩
  ·rintro i H A B ⟨k,X,d,L,n,C,M⟩ Y;have ah:=(QO.1 C).1;have ai:=(QO.1 M).1;refine⟨k,hI i k A B X (Y.mono fun b _ f=>?_),d,L,n,(Y.block _ ah (.inl ((d _).2 (.inr (.inr rfl))))).trans C,(Y.block _ ai (.inl ((d _).2 (.inr (.inl rfl))))).trans M⟩;rcases f with f | f
   ·exact .inl ((d b).2 (.inl f))
   ·exact .inr (by omega)
  ·rintro i x H W ⟨k,X,d,L,n,C,M⟩ Z hx q aD;have R:=(QO.1 C).1;have S:w.heap.size<W.heap.size:=by omega
   have hy:=run_yield (P:=P) (args:=#[E.enc x]) C (by rw[j]; exact hps.symm);rw[j]at hy;refine⟨fn,_,assign,body,hy,roundIn_of_wpIn az (hassign _ x W _ ⟨_,run_beginRound C (by rw[j]),?_⟩)⟩;obtain⟨N,D⟩:=eX (W.putObj (w.heap.size+1) (.loop { m .ready none with state:=.busy }))
   have u:Kept (fun b=>b≠w.heap.size+1) W N:=by rw[<- D]; exact Kept.putObj _ _ (fun h=>h rfl)
   have T:N.heap[w.heap.size+1]? = some (.loop { m .ready none with state:=.busy }):=by rw[<- D]; exact World.putObj_heap_same R
   have aj:=(u.block _ S (by omega)).trans M;have aC:N.heap.size=W.heap.size:=by rw[<- D]; simp
   have ak:=hI i k W N X (u.mono fun b _ f=>by
    rcases f with f | f
    ·intro e; exact n (e ▸ f)
    ·omega)
   have au:=E.keep hx u.size (fun b f aA=>u.block b f (fun e=>(q b aA).1 ((d b).2 (.inr (.inr e)))));rw[D];rw[j]at T;refine wpIn_mono (hbody _ i x k N ak Z au (fun b f=>⟨fun h=>(q b f).1 ((d b).2 (.inl h)),(q b f).2.imp id (by omega)⟩) (by omega)) ?_;rintro e a3 W3 O
   cases e with
   | normal =>
    obtain⟨o2,ax,J,aa⟩:=O;have U:W3.heap[w.heap.size+1]? = some (.loop { state:=.busy,pending:=none,fn,tmps:=a.tmps,params:=ps,assign,body,defers:=w.heap.size }):=(J.block _ (by omega) n).trans T;have V:=(QO.1 U).1;have av:=(J.block _ (by omega) L).trans aj;have r:∀ b,b=w.heap.size∨b=w.heap.size+1->¬ o2 b:=fun b f h=>by
     rcases aa b h with h | h | ⟨h,_⟩
     ·rcases f with rfl | rfl
      ·exact L h
      ·exact n h
     ·omega
     ·exact(q b h).1 ((d b).2 (.inr f))
    refine⟨_,_,run_endRound none U,rfl,fun b=>o2 b∨b=w.heap.size∨b=w.heap.size+1,⟨o2,hI _ o2 W3 _ ax (Kept.putObj _ _ ?_),fun b=>Iff.rfl,r _ (.inl rfl),r _ (.inr rfl),?_,?_⟩,?_,?_⟩
    ·rintro (h | h)
     ·exact r _ (.inr rfl) h
     ·omega
    ·rw[World.putObj_heap_same V,j]; rfl
    ·exact(QW (by omega)).trans av
    ·refine((u.mono ?_).trans' (J.mono ?_) (fun _ _ h=>h)).trans (Kept.putObj _ _ ?_)
     ·intro b _ h e; exact h ((d b).2 (.inr (.inr e)))
     ·intro b _ h F; exact h ((d b).2 (.inl F))
     ·intro h; exact h ((d _).2 (.inr (.inr rfl)))
    ·rintro b (h | h)
     ·rcases aa b h with h | h | h
      ·exact .inl ((d b).2 (.inl h))
      ·exact .inr (.inl ⟨by omega,by rw[Q0]; omega⟩)
      ·exact .inr (.inr ⟨h.1,by
        rcases (q b h.1).2 with F | F
        ·have:=h.2; have:=hb0.size; omega
        ·exact F⟩)
     ·exact .inl ((d b).2 (.inr h))
   | ret => exact O.elim
   | exit id => exact O.elim
   | goto t => exact O.elim
   | panic ch => exact O.elim
   | outgrown => exact O.elim
  ·have r:∀ b,b=w.heap.size∨b=w.heap.size+1->¬ o b:=fun b f h=>by have:=(ho b h).2; omega
   exact⟨o,hI _ _ _ _ h0 (G _),fun _=>Iff.rfl,r _ (.inl rfl),r _ (.inr rfl),ae,af⟩
  ·rintro e N ⟨⟨v,rfl⟩,ys,H,ay,⟨k,X,d,L,n,C,M⟩,Y,hg⟩;have R:=(QO.1 C).1;refine⟨none,_,by have:=run_endLoop (P:=P) C (by rw[j]; simp); rw[j]at this; exact this,hdone ys k _ ay (hI _ _ _ _ X (Kept.putObj _ _ ?_)) ?_ ?_ ((QW (by omega)).trans M)⟩
   ·rintro (h | h)
    ·exact n h
    ·omega
   ·refine(Kept.trans' (G _) (Y.mono fun b _ h=>h) ?_).trans (Kept.putObj _ _ ?_) |>.mono (s:=fun b=>¬ o b/\b<w.heap.size) ?_
    ·rintro b _ ⟨h,f⟩ (F | F | F)
     ·exact h F
     ·omega
     ·omega
    ·rintro⟨_,h⟩; omega
    ·exact fun b f h=>⟨h,f⟩
   ·intro b f;rcases hg b ((d b).2 (.inl f)) with (h | h | h) | h
    ·exact .inl h
    ·exact absurd (h ▸ f) L
    ·exact absurd (h ▸ f) n
    ·exact .inr ⟨by omega,by rw[Q0]; exact h.2⟩
theorem Seq.later{g:Nat}{rows:List κ}{w1:World}(h:Seq E P g lb rows w0)(hb:Bw w0 w1):Seq E P g lb rows w1:=by
 intro l J W o i f j k m;refine h l J W o (hb.trans (i.mono hb.size)) (fun b h=>⟨QS hb.size (f b h).1,(f b h).2⟩) j (fun e x n p q r s a t=>k e x n p q r s (fun b d=>⟨(a b d).1,(a b d).2.imp (fun h=>QT h hb.size) id⟩) t) m
end
def QR:=@Kept.refl
def QU:=@Kept.of_below
def QV:=@Kept.putObj
def QX:=@Kept.alloc
def iz:aa:=⟨none,0,[]⟩
def iA(w:World)(ao:Option Addr)(rs:List aa):Prop:=
 rs.length<=1152921504606846976/\fO w ao rs.length (fun i=>(rs.getD i iz).val)/\∀ i,i<rs.length->(rs.getD i iz).At w
theorem iA.below{w w':World}(hb:Bw w w'){ao:Option Addr}{rs:List aa}(h:iA w ao rs):iA w' ao rs:=
 ⟨h.1,h.2.1.below hb,fun i a=>Qt hb (h.2.2 i a)⟩
structure aN where
 ad:Option Addr
 cap:Nat
 rs:List aa
def rz:aN:=⟨none,0,[]⟩
def aN.val(v:aN):Value:=.slice v.ad v.rs.length v.cap
def aN.At(v:aN)(w:World):Prop:=iA w v.ad v.rs
def RG(w:World)(ao:Option Addr)(db:List aN):Prop:=
 db.length<=1152921504606846976/\fO w ao db.length (fun i=>(db.getD i rz).val)/\∀ i,i<db.length->(db.getD i rz).At w
theorem RG.below{w w':World}(hb:Bw w w'){ao:Option Addr}{db:List aN}(h:RG w ao db):RG w' ao db:=
 ⟨h.1,h.2.1.below hb,fun i a=>iA.below hb (h.2.2 i a)⟩
@[reducible] def Cb (f:Nat) (a:Array Value) (w:World) (v:Value):Prop:=Calls Tryz.prog f a w fun e w'=>e=.returned v/\Bw w w'
@[reducible] def Ce (f:Nat) (a:Array Value) (w:World) (v:Value):Prop:=Calls Tryz.prog f a w fun e w'=>e=.returned v/\w' = w
section
theorem UU{w:World}{p:Addr}{v:Value}(h:w.cell? p=some v):p.block<w.heap.size:=by
 unfold World.cell? at h
 cases hb:w.heap[p.block]? with
 | none => simp[hb]at h
 | some o => exact(QO.1 hb).1
theorem fO.keep{A B:World}{ao:Option Addr}{n:Nat}{f:Nat->Value}(h:fO A ao n f)(hb:∀ a,ao=some a->a.block<A.heap.size->B.heap[a.block]? = A.heap[a.block]?):fO B ao n f:=by
 intro i g;obtain⟨b,off,rfl,d⟩:=h i g;have e:b<A.heap.size:=UU (p:=(aD b (off+i))) d;exact⟨b,off,rfl,(Q4 (a:=(aD b (off+i))) (hb (aD b off) rfl e)).trans d⟩
def ag:El aa (List Int) where
 enc:=aa.val
 At x W:=x.At W/\(∀ a,x.ad=some a->a.block<W.heap.size)/\(x.ad=none->x.cap=0)
 blk x:=x.ad.map (·.block)
 key:=aa.xs
 keep:=by
  rintro x A B ⟨h,hl,hn⟩ hs hb;refine⟨⟨h.1,h.2.keep fun a ha hlt=>hb _ hlt (by rw[ha]; rfl)⟩,fun a ha=>QT (hl a ha) hs,hn⟩
 sV:=by
  rintro x A b ⟨_,hl,_⟩ hb
  cases ha:x.ad with
  | none => rw[ha]at hb; cases hb
  | some a => rw[ha]at hb; cases hb; exact hl a ha
theorem Ha{b:Nat}(h:ag.blk x=some b):∃ a,x.ad=some a/\a.block=b:=by
 have d:x.ad.map (·.block)=some b:=h
 cases ha:x.ad with
 | none => rw[ha]at d; cases d
 | some a => rw[ha]at d; cases d; exact⟨a,rfl,rfl⟩
def aX(w:World)(ao:Option Addr)(rs:List aa):Prop:=iA w ao rs/\(∀ a,ao=some a->a.block<w.heap.size)/\∀ i,i<rs.length->ag.At (rs.getD i iz) w
theorem aX.below{w w':World}(hb:Bw w w'){ao:Option Addr}{rs:List aa}(h:aX w ao rs):aX w' ao rs:=
 ⟨h.1.below hb,fun a e=>QT (h.2.1 a e) hb.size,fun i f=>ag.keep (h.2.2 i f) hb.size (fun b d _=>hb.block b d)⟩
theorem lN{α:Type}(rs:List α)(d:α)(hk:k<rs.length):rs.take k++[rs.getD k d]=rs.take (k+1):=by
 rw[Qm hk]; simp[List.getD,hk]
attribute [local go_sem] Oper.semAt_some
theorem ML(bt:Nat)(ao:Option Addr)(cap:Nat)(rs:List aa)(w0:World)(hbt:bt<w0.heap.size)(hc:w0.cell? (aD bt 0)=some (.slice ao rs.length cap))(hr:aX w0 ao rs) :
  Seq ag Tryz.prog 111 #[.pointer (some (aD bt 0))] (rs.map (·.xs)) w0:=by
 intro l J W o D R hJ S h0;have U:=(D.cell (p:=(aD bt 0)) hbt).trans hc;have u:=hr.below D;have L:=hr.1.1;have V:=Zh S;have M:=Zh R;have HR:Hid _:=u;have B:=Zh D;have C:Hid _:=hr;clear S R u D hr hJ;refine(QZ (n:=0)).1 (callsIn_of_wp Tryz.func111 rfl trivial ?_ rfl);simp only[Tryz.ntmps111,Q6,Q7,Q8,Nat.reduceAdd,Nat.reduceSub,Q9,Za,Zb,Zc,Zd,Ze]
 gi_wp2
 gi_loopw [7] (fun i wr=>∃ k:Nat,k<=rs.length/\i=.int .i64 k/\∃ t,J (rs.take k) t wr/\Kept (fun b=>¬ o b) W wr/\Hid (∀ b,t b->o b∨(W.heap.size<=b/\b<wr.heap.size)))
  (fun i _=>rs.length-(intOf i).toNat)
 case atStart=>exact⟨0,Zf _,rfl,o,h0,QR _ _,fun b h=>.inl h⟩
 case round=>
  obtain⟨k,hk,rfl,t,r,y,f⟩:=hrel;by_cases d:k<rs.length
  ·obtain⟨b,off,rfl,G⟩:=C.o.1.2.1.get d;have E:b<w0.heap.size:=C.o.2.1 _ rfl;have m:=B.o.trans (y.below B.o.size (fun i hi h=>by have:=(M.o i h).1; omega));have v:=(m.cell (p:=(aD b (off+k))) E).trans (G k d);have w:=ag.keep (C.o.2.2 k d) m.size (fun b K _=>m.block b K);have F:∀ b,t b->w0.heap.size<=b:=fun b h=>by
    rcases f.o b h with h | h
    ·exact(M.o b h).1
    ·have:=B.o.size; omega
   have q:∀ b,ag.blk (rs.getD k iz)=some b->b<w0.heap.size:=fun b h=>by
    obtain⟨a,ha,rfl⟩:=Ha h;exact(C.o.2.2 k d).2.1 a ha
   have X:=Zh (lN rs iz d);have j:(rs.take k++[rs.getD k iz]).map ag.key <+: rs.map (·.xs):=by
    rw[lN rs iz d];exact List.IsPrefix.map _ (List.take_prefix _ _)
   obtain⟨fn,tmps,g,z,N,hR⟩:=V.o _ (rs.getD k iz) t wr r j w (fun b h=>⟨fun s=>by have:=F b s; have:=q b h; omega,.inl (q b h)⟩) y.size;generalize rs.getD k iz=x at *;obtain⟨O,P,Q⟩:=x;have Y:(Instr.yield l #[.slice O Q.length P]).run Tryz.prog wr=.ok (.round l fn tmps g z) wr:=N;have Z:wr.cell? (aD b (off+k))=some (.slice O Q.length P):=v;clear N v w j
   gi_wp2
   refine⟨rfl,hR.mono ?_⟩;rintro e W3 ⟨rfl,o2,H,A,I⟩
   gi_wp2
   go_roundw
   case rel=>
    refine⟨k+1,by omega,by simp,o2,by rw[<- X.o]; exact H,y.trans' A ?_,?_⟩
    ·intro b T h s;rcases f.o b s with s | s
     ·exact h s
     ·omega
    ·intro b T;rcases I b T with h | h | h
     ·rcases f.o b h with h | h
      ·exact .inl h
      ·exact .inr ⟨h.1,by have:=A.size; omega⟩
     ·exact .inr ⟨by have:=y.size; omega,h.2⟩
     ·have:=q b h.1; have:=B.o.size; omega
   case measure=>simp[intOf]; omega
  ·obtain rfl:k=rs.length:=by omega
   gi_wp2
   go_end0;exact⟨⟨_,rfl⟩,rs,t,rfl,by rw[Qw]at r; exact r,y,f.o⟩
end
def Q3:=@UU
section
theorem kC(h:(pre++[x]).map ag.key <+: rows):x.xs∈rows:=by
 have a:x.xs∈(pre++[x]).map ag.key:=by simp[ag]
 exact h.subset a
theorem RH(p:List Int->Bool)(h:(pre++[x]).map ag.key <+: rows)(hp:p x.xs=true) :
  (pre.filter (fun r=>p r.xs)++[x]).map ag.key <+: rows.filter p:=by
 have a:=List.IsPrefix.filter p h;have b:(pre.filter (fun r=>p r.xs)++[x]).map ag.key=((pre++[x]).map ag.key).filter p:=by
  rw[Zg];congr 1;rw[Zi];simp[ag,Function.comp_def,hp]
 rw[b];exact a
theorem qG{A B:World}{p:Addr}{v:Value}{s:Nat->Prop}(h:A.cell? p=some v)(hk:Kept s A B)(hs:s p.block):B.cell? p=some v:=
 (Q4 (hk.block _ (Q3 h) hs)).trans h
attribute [local go_sem] Oper.semAt_some
theorem C8(bi bk gi gk:Nat)(jB VK:Array Value)(rows:List (List Int))(p:List Int->Bool)(w0:World)(hbi:bi<w0.heap.size)(hbk:bk<w0.heap.size)
  (hci:w0.cell? (aD bi 0)=some (.func (.func gi) #[] jB)) (hck:w0.cell? (aD bk 0)=some (.func (.func gk) #[] VK))
  (hseq:Seq ag Tryz.prog gi jB rows w0) (FO:∀ args w,(callFunc gi args).run Tryz.prog w=.ok (.enter gi args) w) (egk:∀ args w,(callFunc gk args).run Tryz.prog w=.ok (.enter gk args) w)
  (hkeep:∀ W x,Bw w0 W->aa.At x W->x.xs∈rows->Calls Tryz.prog gk (#[x.val]++VK) W fun e M=>e=.returned (.bool (p x.xs))/\Bw W M) :
  Seq ag Tryz.prog 76 #[.pointer (some (aD bi 0)),.pointer (some (aD bk 0))] (rows.filter p) w0:=by
 intro l J W o hW ho hJ hY h0;have ae:=(hW.cell (p:=(aD bi 0)) hbi).trans hci;have HY:=Zh hY;have E:=Zh ho;have u:=Zh hW;have O:=Zh hJ;have HK:=Zh hkeep;have J8:=Zh hck;have af:=Zh hbk;have v:Bw W (W.alloc (.cells #[.func (.yield l) #[] #[]] 108)):=bV _ _;have ah:=(v.cell (p:=(aD bi 0)) (QT hbi u.o.size)).trans ae;have BU:(W.alloc (.cells #[.func (.yield l) #[] #[]] 108)).cell? (aD W.heap.size 0)=some (.func (.yield l) #[] #[]):=by simp
 have P:(W.alloc (.cells #[.func (.yield l) #[] #[]] 108)).heap.size=W.heap.size+1:=by simp
 refine(QZ (n:=0)).1 (Zk Tryz.func76 rfl trivial ?_ rfl);simp only[Tryz.ntmps76,Q6,Q7,Q8,Nat.reduceAdd,Nat.reduceSub,Q9,Za,Zb,Zc,Zd,Ze]
 gi_wp2
 obtain⟨w1,V⟩:=eX (W.alloc (.cells #[.func (.yield l) #[] #[]] 108))
 rw[V]at v ah BU P;rw[V];have Q:=Zh P;have H2:=Zh v;refine mo ag (gf:=gi) (lb:=jB) rfl FO hseq (u.o.trans (H2.o.mono u.o.size)) rfl
  (fun g y M=>J (g.filter (fun r=>p r.xs)) y M/\Kept (fun b=>¬ o b) W M/\(∀ b,y b->o b∨(W.heap.size<=b/\b<M.heap.size))/\M.cell? (aD W.heap.size 0)=some (.func (.yield l) #[] #[])/\¬ y W.heap.size)
  o ?_ ?_ ?_ (fun x=>{ tmps:=#[.func (.yield l) #[] #[],.pointer (some (aD bi 0)),.pointer (some (aD bk 0)),.pointer (some (aD W.heap.size 0)),x.val,.func (.func gi) #[] jB,x.val,undef,undef,undef,undef,undef,undef,undef,undef,undef],defers:=[] }) ?j ?m ?done
 ·intro b a;exact⟨(E.o b a).1,by have:=(E.o b a).2; have:=Q.o; omega⟩
 ·rintro g y A B ⟨F,t,G,hc,H⟩ d;have h1:=Q.o;refine⟨O.o _ _ _ _ F (d.mono fun b _ h=>h.imp id (by omega)),t.trans' d (fun b a _=>.inr (by omega)),fun b h=>(G b h).imp id (fun h=>⟨h.1,by have:=d.size; omega⟩),qG hc d (.inr (by show W.heap.size<_; omega)),H⟩
 ·have h1:=Q.o;refine⟨O.o _ _ _ _ h0 (QU H2.o fun b a h=>by rcases h with h | h; exact(E.o b h).2; exact h),QU H2.o (fun b a _=>a),fun b h=>.inl h,BU,fun h=>by have:=(E.o _ h).2; omega⟩
 case j=>
  intro l x W K hK
  gi_wp2
  exact hK
 case m=>
  rintro l2 g x y I ⟨F,t,G,z,H⟩ k hx X aB;have h1:=Q.o;have R:=u.o.trans (t.below u.o.size (fun i hi h=>by have:=(E.o i h).1; omega));have ax:=(R.cell (p:=(aD bk 0)) af.o).trans J8.o;have d:=HK.o I x R hx.1 (kC k);have HX:=Zh hx;have Y:=Zh X;have HP:Hid _:=k;have S:(g++[x]).filter (fun r=>p r.xs)=g.filter (fun r=>p r.xs)++if p x.xs then [x] else []:=by
   rw[Zi]
   cases N:p x.xs <;> simp[N]
  by_cases N:p x.xs=true
  ·rw[N]at d;have HS:Hid ((g++[x]).filter (fun r=>p r.xs)=g.filter (fun r=>p r.xs)++[x]):=by rw[S,N]; rfl
   have ai:Hid _:=RH p k N
   gi_wp2
   refine⟨trivial,rfl,Zl l2 (QZ.2 (d.mono ?_))⟩;rintro e L ⟨rfl,s⟩;have f:Kept (fun _=>True) I L:=QU s (fun b a _=>a);have MM:=O.o _ _ _ _ F (f.mono (fun _ _ _=>trivial));have C9:=qG z f trivial;obtain⟨fn,tmps,j,m,hy,hR⟩:=HY.o _ x y L MM ai.o (ag.keep HX.o f.size (fun b a _=>f.block b a trivial)) (fun b h=>⟨(Y.o b h).1,(Y.o b h).2.imp id (by omega)⟩) (by have:=t.size; have:=f.size; omega);have ay:(Instr.yield l #[x.val]).run Tryz.prog L=.ok (.round l fn tmps j m) L:=hy;have Z:=Zh G;have nO:=Zh t;have T:=Zh s
   gi_wp2
   refine⟨rfl,hR.mono ?_⟩;rintro e W4 ⟨rfl,o2,MN,C,D⟩;have az:=T.o.size;have ru:=(QU T.o (fun b a _=>a)).trans C
   gi_wp2
   refine⟨o2,⟨by rw[HS.o]; exact MN,nO.o.trans' ru ?_,?_,?_,?_⟩,ru,?_⟩
   ·intro b a h q;rcases Z.o b q with q | q
    ·exact h q
    ·omega
   ·intro b a;have aA:=C.size;rcases D b a with h | h | h
    ·exact(Z.o b h).imp id (fun h=>⟨h.1,by omega⟩)
    ·exact .inr ⟨by omega,h.2⟩
    ·exact .inr ⟨h.2,by have:=ag.sV HX.o h.1; omega⟩
   ·exact qG C9 C H
   ·intro h;rcases D _ h with h | h | h
    ·exact H h
    ·omega
    ·rcases (Y.o _ h.1).2 with q | q
     ·have:=u.o.size; omega
     ·omega
   ·intro b a;rcases D b a with h | h | h
    ·exact .inl h
    ·exact .inr (.inl ⟨by omega,h.2⟩)
    ·refine .inr (.inr ⟨h.1,?_⟩);rcases (Y.o _ h.1).2 with q | q
     ·have:=u.o.size; omega
     ·exact q
  ·have U:p x.xs=false:=by simpa using N
   rw[U]at d;have aj:(g++[x]).filter (fun r=>p r.xs)=g.filter (fun r=>p r.xs):=by rw[S,U]; simp
   have HS:=Zh aj
   gi_wp2
   refine⟨trivial,rfl,Zl l2 (QZ.2 (d.mono ?_))⟩;rintro e L ⟨rfl,s⟩;have f:Kept (fun _=>True) I L:=QU s (fun b a _=>a);have MM:=O.o _ _ _ _ F (f.mono (fun _ _ _=>trivial));have C9:=qG z f trivial;have Z:=Zh G;have nO:=Zh t;have xD:=Zh f
   gi_wp2
   refine⟨fun _ h=>(by cases h),?_⟩
   gi_wp2
   exact⟨y,⟨by rw[HS.o]; exact MM,nO.o.trans (xD.o.mono fun _ _ _=>trivial),fun b h=>(Z.o b h).imp id (fun h=>⟨h.1,by have:=xD.o.size; omega⟩),C9,H⟩,xD.o.mono (fun _ _ _=>trivial),fun b h=>.inl h⟩
 case done=>
  rintro ys o' I au ⟨F,t,G,z,H⟩ aC av hD;have h1:=Q.o
  gi_wp2
  have ak:¬ o' w1.heap.size:=fun h=>by
   rcases av _ h with h | h
   ·have:=(E.o _ h).2; omega
   ·omega
  have UW:Kept (fun b=>b≠w1.heap.size) I (I.putObj w1.heap.size (.deferred none)):=QV _ _ (fun h=>h rfl);refine⟨by simp,.inl ⟨_,_,rfl,Zm hD,?_⟩⟩;refine⟨_,results_none rfl _ _ _,⟨_,rfl⟩,ys.filter (fun r=>p r.xs),o',?_,O.o _ _ _ _ F (UW.mono fun b _ h=>?_),t.trans' UW (fun b a _=>by omega),fun b h=>(G b h).imp id (fun h=>⟨h.1,by rw[Q0]; omega⟩)⟩
  ·rw[<- au,Zg];rfl
  ·rcases h with h | h
   ·intro e; exact ak (e ▸ h)
   ·omega
end
def Zj:=@qG
section
theorem Kept.setCell{s:Nat->Prop}(W:World)(a:Addr)(v:Value)(hr:¬ s a.block):Kept s W (W.setCell a v):=
 ⟨rfl,rfl,rfl,by simp[World.setCell],fun k _ b=>Below.heap_setCell W a v k (fun e=>hr (e ▸ b))⟩
theorem Kept.grown{s:Nat->Prop}{A B:World}{row:Option Nat}(hg:A.grownBy B row)(hr:∀ r,row=some r->¬ s r):Kept s A B:=
 ⟨hg.os,hg.tape,hg.output,hg.size,fun k a b=>hg.block k a (fun e=>hr k e.symm b)⟩
theorem ry{A B:World}{base:Nat}{e:TypeId}{sz:Nat}{v:Value}{n:Nat}{xs:List Value}(h:A.ownsRow base e sz v n xs){s:Nat->Prop}(hk:Kept s A B)(hs:∀ g,v.ownBlock=some g->s g):B.ownsRow base e sz v n xs:=by
 refine⟨h.1,?_⟩;rcases h.2 with h | ⟨g,a,b,rfl,f,d,i,j,k,l⟩
 ·exact .inl h
 ·exact .inr ⟨g,a,b,rfl,f,(hk.block g (QO.1 d).1 (hs g rfl)).trans d,i,j,k,l⟩
theorem nP{A:World}{base:Nat}{e:TypeId}{sz:Nat}{v:Value}{n:Nat}{xs:List Value}(h:A.ownsRow base e sz v n xs){g:Nat}(hg:v.ownBlock=some g):base<=g/\g<A.heap.size:=by
 rcases h.2 with⟨rfl,_⟩ | ⟨g',cap,cur,rfl,hb,hg',_⟩
 ·cases hg
 ·cases hg
  exact⟨hb,(QO.1 hg').1⟩
theorem qp{A:World}{base:Nat}{e:TypeId}{sz:Nat}{v:Value}{n:Nat}{xs:List Value}(h:A.ownsRow base e sz v n xs):∃ b m a,v=.slice b m a:=by
 rcases h.2 with⟨rfl,_⟩ | ⟨g',a,cur,rfl,_⟩
 ·exact⟨_,_,_,rfl⟩
 ·exact⟨_,_,_,rfl⟩
def qH(E:El aa (List Int))(n:Nat)(v:Value)(pre:List aa)(b:Nat):Prop:=b=n∨v.ownBlock=some b∨(n<=b/\∃ y∈pre,E.blk y=some b)
def Apart(E:El aa (List Int))(n:Nat)(ys:List aa):Prop:=ys.Pairwise fun y z=>∀ b,E.blk y=some b->E.blk z=some b->b<n
structure eO(E:El aa (List Int))(n0:Nat)(w:World)(e:TypeId)(pre:List aa)(o1:Nat->Prop)(W:World)(v:Value):Prop where
 box:W.cell? (aD w.heap.size 0)=some v
 thaw:W.frozen? (aD w.heap.size 0)=false
 own:W.ownsRow (w.heap.size+1) e 1 v pre.length (pre.map aa.val)
 at':∀ y∈pre,E.At y W
 off:∀ y∈pre,∀ b,E.blk y=some b->b≠w.heap.size/\v.ownBlock≠some b
 apart:Apart E w.heap.size pre
 born:∀ y∈pre,∀ b,E.blk y=some b->b<n0∨w.heap.size<=b
 below:Bw w W
 iff:∀ b,o1 b↔qH E w.heap.size v pre b
theorem eO.keep{E:El aa (List Int)}{n0:Nat}{w:World}{e:TypeId}{pre:List aa}{o1:Nat->Prop}{A B:World}{v:Value}(h:eO E n0 w e pre o1 A v){n:Nat}(hn:w.heap.size<=n)(hk:Kept (fun b=>o1 b∨b<n) A B):eO E n0 w e pre o1 B v:=by
 have d:=(h.iff _).2 (.inl rfl);refine⟨Zj h.box hk (.inl d),(Zt (hk.block _ (Q3 h.box) (.inl d))).trans h.thaw,ry h.own hk (fun g j=>.inl ((h.iff _).2 (.inr (.inl j)))),fun y f=>?_,h.off,h.apart,h.born,h.below.trans (hk.below h.below.size (fun b i=>.inr (by omega))),h.iff⟩;refine E.keep (h.at' y f) hk.size (fun b i a=>hk.block b i ?_);by_cases k:b<w.heap.size
 ·exact .inr (by omega)
 ·exact .inl ((h.iff _).2 (.inr (.inr ⟨by omega,y,f,a⟩)))
theorem eO.off'{E:El aa (List Int)}(h:eO E n0 w e pre o1 W v)(hx:∀ b,E.blk x=some b->¬ o1 b) :
  (∀ b,E.blk x=some b->b≠w.heap.size/\v.ownBlock≠some b)/\Apart E w.heap.size (pre++[x]):=by
 refine⟨fun b a=>⟨fun e=>hx b a ((h.iff _).2 (.inl e)),fun e=>hx b a ((h.iff _).2 (.inr (.inl e)))⟩,?_⟩;unfold Apart;rw[Zu];refine⟨h.apart,Zv _ _,?_⟩;intro y i z g b a d;rw[Zw]at g;subst g;by_cases f:b<w.heap.size
 ·exact f
 ·exact absurd ((h.iff _).2 (.inr (.inr ⟨by omega,y,i,a⟩))) (hx b d)
theorem eO.more{E:El aa (List Int)}{W1 W2:World}{v':Value}(h:eO E n0 w e pre o1 W v)(hx:E.At x W)(hoff:∀ b,E.blk x=some b->¬ o1 b)(hbn:∀ b,E.blk x=some b->b<n0∨w.heap.size<=b)
  (ha:Kept (fun _=>True) W W1) (hs1:W1.heap.size=W.heap.size+1) (hown:W2.ownsRow (w.heap.size+1) e 1 v' (pre.length+1) (pre.map aa.val++[x.val])) (hg:W1.grownBy W2 v.ownBlock) (hat:v'.ownBlock=v.ownBlock∨v'.ownBlock=some W1.heap.size) (h1:v'.oneCell' = true) :
  eO E n0 w e (pre++[x]) (qH E w.heap.size v' (pre++[x])) (W2.setCell (aD w.heap.size 0) v') v'/\Kept (fun b=>¬ o1 b) W (W2.setCell (aD w.heap.size 0) v')/\
  ∀ b,qH E w.heap.size v' (pre++[x]) b->o1 b∨(W.heap.size<=b/\b<(W2.setCell (aD w.heap.size 0) v').heap.size)∨(E.blk x=some b/\w.heap.size<=b):=by
 have p:(W2.setCell (aD w.heap.size 0) v').heap.size=W2.heap.size:=by simp[World.setCell]
 have k:∀ g,v.ownBlock=some g->w.heap.size+1<=g/\g<W.heap.size:=fun g hg=>nP h.own hg
 have z:∀ g,v'.ownBlock=some g->w.heap.size+1<=g/\g<W2.heap.size:=fun g hg=>nP hown hg
 have l:Kept (fun b=>v.ownBlock≠some b) W W2:=(ha.mono fun _ _ _=>trivial).trans (Kept.grown hg (fun r e A=>A e));have i:Kept (fun b=>v.ownBlock≠some b/\b≠w.heap.size) W (W2.setCell (aD w.heap.size 0) v'):=(l.mono fun _ _ h=>h.1).trans (Kept.setCell _ _ _ (fun h=>h.2 rfl));obtain⟨n,t⟩:=h.off' hoff;have j:∀ b,b<W.heap.size->v'.ownBlock=some b->v.ownBlock=some b:=fun b d e=>by
  rcases hat with h | h
  ·rw[<- h]; exact e
  ·rw[h]at e; cases e; omega
 have q:=Zj h.box l (fun e=>by have:=k _ e; exact absurd this.1 (by show ¬ (w.heap.size+1<=w.heap.size); omega));refine⟨⟨?_,?_,?_,?_,?_,t,fun y a=>?_,?_,fun b=>Iff.rfl⟩,i.mono ?_,?_⟩
 ·exact World.cell?_setCell_same' _ _ _ (by rw[q]; rfl)
 ·rw[World.frozen?_setCell];exact(Zt (l.block _ (Q3 h.box) (fun e=>by have:=k _ e; exact absurd this.1 (by show ¬ (w.heap.size+1<=w.heap.size); omega)))).trans h.thaw
 ·have:=ry hown (s:=fun b=>b≠w.heap.size) (Kept.setCell W2 (aD w.heap.size 0) v' (fun h=>h rfl)) (fun g hg=>by have:=z g hg; omega)
  simpa using this
 ·intro y a;rcases Zx.1 a with a | a
  ·exact E.keep (h.at' y a) i.size (fun b d f=>i.block b d ⟨(h.off y a b f).2,(h.off y a b f).1⟩)
  ·rw[Zw]at a;subst a;exact E.keep hx i.size (fun b d f=>i.block b d ⟨(n b f).2,(n b f).1⟩)
 ·intro y a b d;have m:b<W.heap.size/\b≠w.heap.size/\v.ownBlock≠some b:=by
   rcases Zx.1 a with a | a
   ·exact⟨E.sV (h.at' y a) d,h.off y a b d⟩
   ·rw[Zw]at a;subst a;exact⟨E.sV hx d,n b d⟩
  exact⟨m.2.1,fun e=>m.2.2 (j b m.1 e)⟩
 ·rcases Zx.1 a with a | a
  ·exact h.born y a
  ·rw[Zw]at a;subst a;exact hbn
 ·exact h.below.trans (i.below (by have:=h.below.size; omega) (fun b d=>⟨fun e=>by have:=k b e; omega,by omega⟩))
 ·intro b d o;exact⟨fun e=>o ((h.iff _).2 (.inr (.inl e))),fun e=>o ((h.iff _).2 (.inl e))⟩
 ·rintro b (d | d | ⟨d,y,a,f⟩)
  ·exact .inl ((h.iff _).2 (.inl d))
  ·by_cases u:b<W.heap.size
   ·exact .inl ((h.iff _).2 (.inr (.inl (j b u d))))
   ·exact .inr (.inl ⟨by omega,by rw[p]; exact(z b d).2⟩)
  ·rcases Zx.1 a with a | a
   ·exact .inl ((h.iff _).2 (.inr (.inr ⟨d,y,a,f⟩)))
   ·rw[Zw]at a;subst a;exact .inr (.inr ⟨f,d⟩)
attribute [local go_sem] Oper.semAt_some
theorem Tryz.Db:(Tryz.prog.info? 22).map (fun i=>(i.zero,i.size,i.bytes))=some (some (.slice none 0 0),1,24):=by kernel_rfl
theorem nQ(E:El aa (List Int))(henc:∀ x,E.enc x=x.val)(g:Nat)(lb:Array Value)(rows:List (List Int))(w0 w:World)(hb0:Bw w0 w)(hlen:rows.length<=1000000)(hseq:Seq E Tryz.prog g lb rows w0)(eg:∀ args w,(callFunc g args).run Tryz.prog w=.ok (.enter g args) w) :
  Calls Tryz.prog 29 #[.func (.func g) #[] lb] w fun e w'=>∃ v ys o,e=.returned v/\ys.map E.key=rows/\eO E w0.heap.size w 22 ys o w' v:=by
 obtain⟨i0,hi,O,P,Q⟩:=Zy Tryz.Db;have HL:=Zh hlen;have i:=Zh hb0;have p:Hid ((w.alloc (.cells #[.slice none 0 0] 53)).heap.size=w.heap.size+1):=by show _=_; simp
 have G:Hid (Bw w (w.alloc (.cells #[.slice none 0 0] 53))):=bV _ _;refine(QZ (n:=0)).1 (Zk Tryz.func29 rfl trivial ?_ rfl);simp only[Tryz.ntmps29,Q6,Q7,Q8,Nat.reduceAdd,Nat.reduceSub,Q9,Za,Zb,Zc,Zd,Ze]
 gi_wp2
 have d:eO E w0.heap.size w 22 [] (qH E w.heap.size (.slice none 0 0) []) (w.alloc (.cells #[.slice none 0 0] 53)) (.slice none 0 0):=
  ⟨by simp,by simp,ZA _ _ _ _,fun _ h=>by simp at h,fun _ h=>by simp at h,List.Pairwise.nil,fun _ h=>by simp at h,G.o,fun _=>Iff.rfl⟩
 obtain⟨X,z⟩:=eX (w.alloc (.cells #[.slice none 0 0] 53))
 rw[z]at d p G;rw[z];refine mo E (gf:=g) (lb:=lb) rfl eg hseq (i.o.trans (G.o.mono i.o.size)) rfl
  (fun k R W=>∃ v,eO E w0.heap.size w 22 k R W v) (qH E w.heap.size (.slice none 0 0) []) ?_ ?_ ⟨_,d⟩
  (fun x=>{ tmps:=#[.func (.func g) #[] lb,undef,.slice none 0 0,.pointer (some (aD w.heap.size 0)),x.val,.func (.func g) #[] lb,x.val,undef,undef,undef,undef,undef],defers:=[] }) ?assign ?body ?done
 ·rintro b (h | h | ⟨_,y,N,_⟩)
  ·have:=p.o; have:=i.o.size; omega
  ·cases h
  ·simp at N
 ·rintro k R A B ⟨v,h⟩ hk;exact⟨v,h.keep (by have:=p.o; omega) hk⟩
 case assign=>
  intro l x W K hK
  gi_wp2
  exact hK
 case body=>
  rintro l k x R W ⟨v,d⟩ m hx C ai;have ae:k.length+1<=1000000:=by
   have:=m.length_le;rw[ZB,ZC]at this;exact QS this HL.o
  obtain⟨Y,Z,vc,rfl⟩:=qp d.own;have V:=d.box;have q:=d.own;have H:=Zh d;have HX:=Zh hx;have I:=Zh C;have HP:Hid _:=m;have af:=d.below.size;have J:=d.thaw;obtain⟨jD,cO,gK⟩:=x;unfold aa.val;simp only
  gi_wp2_with (gi_at_builtin; refine wpListIn_append_own_at _ rfl _ _ 53 rfl (w.heap.size+1) 22 i0 (.slice none 0 0) 1 24 Tryz.underlying53 hi O P Q rfl (by decide) _ _ _ rfl (q.alloc _) (aD W.heap.size 0) 1 1 [.slice jD gK.length cO] rfl rfl ?q1 ?q2 ?q3 ?q4 ?q5 ?_)
  case q1=>
   intro j u F
   match j,F with
   | 0,F => simp at F; subst F; simp[Addr.add]
  case q2=>intro u hu; simp at hu; subst hu; rfl
  case q3=>unfold maxLen; omega
  case q4=>omega
  case q5=>simp; omega
  intro v' w3 f a _ U;obtain⟨aj,ak,au,rfl⟩:=qp f;have M:=H.o.more HX.o (fun b D=>(I.o b D).1) (fun b D=>(I.o b D).2.imp id (by have:=p.o; omega)) (QX _ _) (by simp) f a (by rw[QY]; exact U) rfl;have h1:=p.o;have ag:w3.cell? (aD w.heap.size 0)=some (.slice Y Z vc):=by
   refine Zj (Zj V (QX (s:=fun _=>True) W _) trivial) (Kept.grown (s:=fun b=>(Value.slice Y Z vc).ownBlock≠some b) a (fun r e hr=>hr e)) ?_;intro e;have:=(nP H.o.own e).1;exact absurd this (by show ¬ (w.heap.size+1<=w.heap.size); omega)
  have ah:w3.frozen? (aD w.heap.size 0)=false:=by
   refine(Zt (Eq.trans (a.block _ (by simp; omega) ?_) (Below.heap_alloc W _ _ (by show w.heap.size<_; omega)))).trans J;intro e;have:=(nP H.o.own e.symm).1;exact absurd this (by show ¬ (w.heap.size+1<=w.heap.size); omega)
  have HM:=Zh M
  gi_wp2
  obtain⟨m1,m2,m3⟩:=HM.o;refine⟨_,⟨_,m1⟩,m2,fun b D=>?_⟩;rcases m3 b D with h | h | ⟨h,h'⟩
  ·exact .inl h
  ·exact .inr (.inl h)
  ·refine .inr (.inr ⟨h,?_⟩);rcases (I.o b h).2 with t | t
   ·have:=i.o.size; omega
   ·exact t
 case done=>
  rintro ys o' W2 S ⟨v,d⟩ av T hD;have V:=d.box;have h1:=p.o
  gi_wp2
  have L:¬ o' X.heap.size:=fun h=>by
   rcases T _ h with (h | h | ⟨_,y,N,_⟩) | h
   ·omega
   ·cases h
   ·simp at N
   ·omega
  refine⟨by simp,.inl ⟨_,_,rfl,Zm hD,?_⟩⟩;refine⟨_,results_tmp rfl _ _ _,v,ys,o',rfl,S,d.keep (n:=X.heap.size) (by omega) (QV _ _ ?_)⟩;rintro (h | h)
  ·exact L h
  ·omega
end
def Zn:=@Kept.setCell
def Zo:=@Kept.grown
def Zp:=@ry
def Zq:=@nP
def Zr:=@qp
def fw(rs:List aa):List Int:=(rs.map (·.xs)).flatten
theorem Di(hk:k<rs.length):fw (rs.take (k+1))=fw (rs.take k)++(rs.getD k iz).xs:=by
 unfold fw;rw[<- lN rs iz hk,Qn,List.flatten_append];simp
theorem MU:(fw (rs.take k)).length<=(fw rs).length:=by
 have h:fw rs=fw (rs.take k)++fw (rs.drop k):=by
  unfold fw;rw[<- List.flatten_append,<- Qn,ZQ]
 rw[h,ZC];omega
theorem aI.keep{A B:World}{ao:Option Addr}{xs:List Int}(h:aI A ao xs)(hb:∀ a,ao=some a->a.block<A.heap.size->B.heap[a.block]? = A.heap[a.block]?):aI B ao xs:=⟨h.1,h.2.keep hb⟩
def Tryz.VR:Go.Shelf.Ren:=⟨fun | 4=>150 | n=>n,fun | 22=>22 | 25=>3 | 3=>3 | 4=>4 | 9=>9 | 20=>20 | 0=>0 | n=>n,fun | n=>n⟩
theorem Tryz.ahs:Go.Proofs.Lays8.n4 Tryz.prog Tryz.VR:={
 mixed:=by kernel_rfl
 f4:=⟨Tryz.f150.name,by decide,Tryz.func150.trans (congrArg some (by kernel_rfl))⟩
 t0:=Tryz.underlying0
 a0:=Tryz.isAgg0
 z0:=Tryz.sizeOf0
 v0:=Tryz.zeroValue0
 t3:=Tryz.underlying3
 a3:=Tryz.isAgg3
 z3:=Tryz.sizeOf3
 v3:=Tryz.zeroValue3
 t4:=Tryz.underlying4
 a4:=Tryz.isAgg4
 z4:=Tryz.sizeOf4
 v4:=Tryz.zeroValue4
 t9:=Tryz.underlying9
 a9:=Tryz.isAgg9
 z9:=Tryz.sizeOf9
 v9:=Tryz.zeroValue9
 t20:=Tryz.underlying20
 a20:=Tryz.isAgg20
 z20:=Tryz.sizeOf20
 v20:=Tryz.zeroValue20
 t22:=Tryz.underlying22
 a22:=Tryz.isAgg22
 z22:=Tryz.sizeOf22
 v22:=Tryz.zeroValue22 }
theorem Tryz.kT:(Tryz.prog.info? 3).map (fun i=>(i.zero,i.size,i.bytes))=some (some (.int .i64 0),1,8):=by kernel_rfl
theorem abJ(n:Nat)(w:World)(hn:n<=1000000) :
  Calls Tryz.prog 150 #[.slice none 0 0,.int .i64 n] w fun e w'=>∃ v,e=.returned v/\w'.ownsRow w.heap.size 3 1 v 0 []/\Bw w w':=by
 obtain⟨j,k,b,d,f⟩:=Zy Tryz.kT;by_cases l:n=0
 ·subst l;have h:=Any8.slices_Grow_room Tryz.ahs none 0 0 0 w (Qs _) (by omega) (by omega) (by omega);change Calls Tryz.prog 150 _ _ _ at h;refine h.mono ?_;rintro e w' ⟨rfl,rfl⟩;exact⟨_,rfl,ZA _ _ _ _,Qr _ _⟩
 ·have h:=Any8.slices_Grow_grow Tryz.ahs j (.int .i64 0) k b (by rw[d]; decide) none 0 0 n [] w (Qs _) (by omega) (by rw[f]; omega) (by omega) (by simp) (fun _=>rfl) (fun a e=>by cases e);change Calls Tryz.prog 150 _ _ _ at h;refine h.mono ?_;rintro e w' ⟨rfl,rfl⟩;refine⟨_,rfl,⟨by simp,.inr ⟨w.heap.size,_,_,rfl,Qs _,lZ w.drew _,Zf _,?_,?_,by simp⟩⟩,?_⟩
  ·exact grownCap_le_maxLen _ _ _ _ (by unfold maxLen; omega)
  ·have g:=grownCap_ge w (0+n) 0 3;have i:(Value.int .i64 0).cells.size=1:=rfl;simp only[Array.size_append,size_zeroCells,i,Q6,Q8]
   show 0+(0+n-0)*1+(grownCap w (0+n) 0 3-(0+n))*1=grownCap w (0+n) 0 3*1
   omega
  ·exact(Qr _ w).drew.alloc (Qs _) _
theorem xH(ao:Option Addr)(cap:Nat)(rs:List aa)(w:World)(hr:iA w ao rs)(hn:rs.length<=1000)(hnil:∀ i,i<rs.length->(rs.getD i iz).ad=none->(rs.getD i iz).cap=0)(ht:(fw rs).length<=100000) :
  Calls Tryz.prog 126 #[.slice ao rs.length cap] w fun e w'=>∃ v,e=.returned v/\w'.ownsRow w.heap.size 3 1 v (fw rs).length ((fw rs).map (Value.int .i64))/\Bw w w':=by
 obtain⟨i0,hi,V,W,X⟩:=Zy Tryz.kT;have N:Hid _:=hr;have HN:=Zh hnil;have HT:=Zh ht;clear hr hnil ht;go_enter Tryz.func126,Tryz.ntmps126;go_wp2;go_loopw [3,11] (fun s i wr=>∃ k:Nat,k<=rs.length/\i=.int .i64 k/\s=.int .i64 (fw (rs.take k)).length/\w=wr) (fun _ i _=>rs.length-(intOf i).toNat)
 case atStart=>exact⟨0,Zf _,rfl,rfl,rfl⟩
 case round=>
  obtain⟨k,hk,rfl,rfl,rfl⟩:=hrel;by_cases f:k<rs.length
  ·obtain⟨b,off,rfl,q⟩:=N.o.2.1.get f;have p:=q k f;have t:(fw (rs.take (k+1))).length<=100000:=QS MU HT.o;have y:(fw (rs.take (k+1))).length=(fw (rs.take k)).length+(rs.getD k iz).xs.length:=by rw[Di f,ZC]
   have HS:=Zh y;generalize rs.getD k iz=x at *;obtain⟨L,M,g⟩:=x;have O:w.cell? (aD b (off+k))=some (.slice L g.length M):=p;have hw:wrap64 (((fw (rs.take k)).length:Int)+(g.length:Int))=(((fw (rs.take k)).length+g.length:Nat):Int):=by
    simp only at y;unfold wrap64; omega
   have ae:¬ ((((fw (rs.take k)).length+g.length:Nat):Int)<0):=by omega
   have P:=Zh hw;clear p q t y;generalize (fw (rs.take k)).length=a at *;go_wp2;go_roundw
   case rel=>exact⟨k+1,by omega,by go_num,by rw[HS.o]; exact congrArg (Value.int .i64) P.o,trivial⟩
   case measure=>simp[intOf]; omega
  ·have z:k=rs.length:=by omega
   subst z;rw[Qw];have ht:=HT.o;generalize K:fw rs=fl at *;have Q:=Zh K;clear K;go_wp2_with fail;refine(abJ fl.length w (by omega)).mono ?_;rintro e w2 ⟨v0,rfl,C,Y⟩;go_wp2;go_loopw [6,27] (fun v i wr=>∃ k:Nat,k<=rs.length/\i=.int .i64 k/\wr.ownsRow w.heap.size 3 1 v (fw (rs.take k)).length ((fw (rs.take k)).map (Value.int .i64))/\Bw w wr) (fun _ i _=>rs.length-(intOf i).toNat)
   case atStart=>exact⟨0,Zf _,rfl,C,Y⟩
   case round=>
    obtain⟨k,hk,rfl,d,n⟩:=hrel;by_cases f:k<rs.length
    ·obtain⟨b,off,rfl,q⟩:=N.o.2.1.get f;have p:=(cB n (q k f))
     have D:(rs.getD k iz).At wr:=Qt n (N.o.2.2 k f);have E:=HN.o k f;have t:(fw (rs.take (k+1))).length<=100000:=by
      have h1:(fw (rs.take (k+1))).length<=(fw rs).length:=MU;rw[Q.o]at h1;omega
     have A:=Di f;have F:=Zh A;rw[A,ZC]at t;generalize rs.getD k iz=x at *;obtain⟨L,M,g⟩:=x;simp only at E t;have O:wr.cell? (aD b (off+k))=some (.slice L g.length M):=p;have HA:Hid _:=D;clear p q A D;generalize fw (rs.take k)=fk at *;have G:=n.size
     cases L with
     | none =>
      have R:g=[]:=by
       cases g with
       | nil => rfl
       | cons a l => obtain⟨b,off,e,_⟩:=HA.o.2 0 (by simp); cases e
      subst R;obtain rfl:=E rfl;go_wp2_with (first | (at_builtin; refine wpList_append_own_none rfl _ _ 22 rfl w.heap.size 3 i0 1 Tryz.underlying22 hi _ _ _ rfl d rfl ?_));go_wp2;go_roundw
      case rel=>exact⟨k+1,by omega,by go_num,by rw[F.o]; simpa using d,n⟩
      case measure=>simp[intOf]; omega
     | some xa =>
      have S:Hid ((g.map (Value.int .i64)).length=g.length*1):=by show _=_; simp
      have HQ:Hid (∀ j u,(g.map (Value.int .i64))[j]? = some u->wr.cell? (xa.add j)=some u):=by
       intro j u J;have B:j<g.length:=by
        have:=(List.getElem?_eq_some_iff.1 J).1
        simpa using this
       obtain⟨b2,I,e2,Z⟩:=HA.o.2 j B
       cases e2
       rw[ZR,ZT B]at J
       cases J
       have H:=Z;simp only[List.getD,ZT B,Option.getD_some]at H;have ha:((aD b2 I):Addr).add j=(aD b2 (I+j)):=by
        unfold Addr.add;split
        ·simp_all
        ·rfl
       rw[ha];exact H
      have T:Hid (∀ u∈g.map (Value.int .i64),u.oneCell' = true):=by intro u hu; obtain⟨a,_,rfl⟩:=ZU.1 hu; rfl
      go_wp2_with (first | (at_builtin; refine wpList_append_own _ rfl _ _ 22 rfl w.heap.size 3 i0 (.int .i64 0) 1 8 Tryz.underlying22 hi V W X rfl (by decide) _ _ _ rfl d xa g.length M (g.map (Value.int .i64)) rfl S.o HQ.o T.o (by unfold maxLen; omega) (by omega) G ?_));intro v' w1 r m _;have U:=n.grown m G (fun j J=>(d.lt j J).1);have HO:Hid _:=r;clear r m d;go_wp2;go_roundw
      case rel=>exact⟨k+1,by omega,by go_num,by rw[F.o,ZC,Qn]; exact HO.o,U⟩
      case measure=>simp[intOf]; omega
    ·have z:k=rs.length:=by omega
     subst z;rw[Qw,Q.o]at d;go_wp2;go_ret;refine⟨_,rfl,?_,n⟩;rw[Q.o];exact d
section
theorem yK{w:World}{base:Nat}{e:TypeId}{v:Value}{n:Nat}{xs:List Int}(h:w.ownsRow base e 1 v n (xs.map (Value.int .i64)))(hl:xs.length<=1152921504606846976) :
  ∃ iv:aa,v=iv.val/\iv.xs=xs/\ag.At iv w/\∀ b,ag.blk iv=some b->base<=b:=by
 have o:xs.length=n:=by have:=h.1; simpa using this
 rcases h.2 with⟨rfl,h0⟩ | ⟨g,cap,cur,rfl,l,hh,_,_,hcs,ht⟩
 ·have:xs=[]:=QF (by omega);subst this;exact⟨⟨none,0,[]⟩,rfl,rfl,⟨⟨by simp,fun i j=>absurd j (by simp)⟩,(fun a k=>by cases k),fun _=>rfl⟩,fun b l=>by cases l⟩
 ·refine⟨⟨some (aD g 0),cap,xs⟩,by rw[<- o]; rfl,rfl,⟨⟨hl,fun i j=>⟨g,0,rfl,?_⟩⟩,fun a k=>?_,fun e=>by cases e⟩,fun b m=>?_⟩
  ·have d:(cur.toList.take (n*1))[i]? = some (Value.int .i64 (xs.getD i 0)):=by
    rw[ht];have f:i<xs.length:=j;simp[List.getD,f]
   have p:cur[i]? = some (Value.int .i64 (xs.getD i 0)):=by
    rw[ZW]at d;split at d
    ·simpa using d
    ·cases d
   simp only[World.cell?,hh]
   simpa using p
  ·cases k; exact(QO.1 hh).1
  ·cases m; exact l
theorem abK{y:aa}(hx:ag.At x w)(hy:ag.At y w)(e:TypeId):iA (w.alloc (.cells #[x.val,y.val] e)) (some (aD w.heap.size 0)) [x,y]:=by
 have b:=bV w (.cells #[x.val,y.val] e);refine⟨by simp,fun i a=>⟨w.heap.size,0,rfl,?_⟩,fun i a=>?_⟩
 ·match i,a with
  | 0,_ => simp
  | 1,_ => simp
 ·match i,a with
  | 0,_ => exact Qt b hx.1
  | 1,_ => exact Qt b hy.1
theorem kept_alloc{o:Obj}{W3:World}(hb:Below (W.alloc o).heap.size (W.alloc o) W3):Kept s W W3:=
 (QX W o).trans (QU hb (fun b hb _=>hb))
attribute [local go_sem] Oper.semAt_some
theorem Dj(l N:Nat)(J:List aa->(Nat->Prop)->World->Prop)(all:List (List Int))(w0n:Nat)(x:aa)(io:Option Addr)(dx:Nat)(rs:List aa)(pre:List aa)(o1:Nat->Prop)(W:World)
  (hJ:∀ pre o1 A B,J pre o1 A->Kept (fun b=>o1 b∨b<N) A B->J pre o1 B)
  (hY:∀ pre x o1 W1,J pre o1 W1->(pre++[x]).map ag.key <+: all->ag.At x W1->(∀ b,ag.blk x=some b->¬ o1 b/\(b<w0n∨N<=b))->N<=W1.heap.size->
   YieldAt Fence.wide 0 Tryz.prog l #[ag.enc x] W1 fun e E=>e=.returned (.bool true)/\∃ g,J (pre++[x]) g E/\Kept (fun b=>¬ o1 b) W1 E/\
    ∀ b,g b->o1 b∨(W1.heap.size<=b/\b<E.heap.size)∨(ag.blk x=some b/\N<=b))
  (hN:N<=W.heap.size) (hj:J pre o1 W) (hpre:pre.map ag.key++rs.map (fun r=>x.xs++r.xs) <+: all)
  (hx:ag.At x W) (hxo:∀ b,ag.blk x=some b->¬ o1 b) (hxl:x.xs.length<=1000)
  (hr:aX W io rs) (hio:∀ a,io=some a->¬ o1 a.block) (hro:∀ i,i<rs.length->∀ a,(rs.getD i iz).ad=some a->¬ o1 a.block) (hrl:∀ i,i<rs.length->(rs.getD i iz).xs.length<=1000)
  (ho1:∀ b,o1 b->b<W.heap.size) :
  Calls Tryz.prog 113 #[x.val,.slice io rs.length dx,.func (.yield l) #[] #[]] W fun e E=>e=.returned (.bool true)/\∃ ys g,ys.map ag.key=rs.map (fun r=>x.xs++r.xs)/\J (pre++ys) g E/\Kept (fun b=>¬ o1 b) W E/\
   ∀ b,g b->o1 b∨(W.heap.size<=b/\b<E.heap.size):=by
 have av:=hr.1.1;have H:=hx.2.2;have HJ:=Zh hJ;have HY:=Zh hY;have HP:Hid _:=hpre;have HX:=Zh hx;have ae:=Zh hxo;have Z:Hid _:=hr;have af:=Zh hio;have yL:=Zh hro;have VS:=Zh hrl;have ah:=Zh ho1;clear hJ hY hpre hx hxo hr hio hro hrl ho1;obtain⟨jD,cO,m⟩:=x;unfold aa.val;simp only at H hxl;simp only;refine(QZ (n:=0)).1 (callsIn_of_wp Tryz.func113 rfl trivial ?_ rfl);simp only[Tryz.ntmps113,Q6,Q7,Q8,Nat.reduceAdd,Nat.reduceSub,Q9,Za,Zb,Zc,Zd,Ze]
 gi_wp2
 gi_loopw [11] (fun i wr=>∃ k:Nat,k<=rs.length/\i=.int .i64 k/\∃ ys g,Hid (ys.map ag.key=(rs.take k).map (fun r=>m++r.xs))/\J (pre++ys) g wr/\Kept (fun b=>¬ o1 b) W wr/\Hid (∀ b,g b->o1 b∨(W.heap.size<=b/\b<wr.heap.size)))
  (fun i _=>rs.length-(intOf i).toNat)
 case atStart=>exact⟨0,Zf _,rfl,[],o1,rfl,by simpa using hj,QR _ _,fun b h=>.inl h⟩
 case round=>
  obtain⟨k,hk,rfl,ys,g,t,T,D,j⟩:=hrel;by_cases f:k<rs.length
  ·have UX:∀ b,b<W.heap.size->¬ o1 b->wr.heap[b]? = W.heap[b]?/\¬ g b:=fun b d h=>⟨D.block b d h,fun q=>by
    rcases j.o b q with q | q
    ·exact h q
    ·omega⟩
   obtain⟨b,off,rfl,U⟩:=Z.o.1.2.1.get f;have ai:b<W.heap.size:=Z.o.2.1 _ rfl;have I:=(Q4 (a:=(aD b (off+k))) (UX b ai (af.o _ rfl)).1).trans (U k f);have K:=ag.keep (A:=W) (Z.o.2.2 k f) D.size (fun b d F=>by obtain⟨a,ha,rfl⟩:=Ha F; exact(UX _ d (yL.o k f a ha)).1);have L:=ag.keep HX.o D.size (fun b d F=>(UX _ d (ae.o b F)).1);have M:=(Z.o.2.2 k f).2.2;have hrl:=VS.o k f;have O:(rs.take k).map (fun r=>m++r.xs)++[m++(rs.getD k iz).xs]=(rs.take (k+1)).map (fun r=>m++r.xs):=by rw[<- lN rs iz f,Qn]; rfl
   have MV:=Zh O;generalize rs.getD k iz=y at *;obtain⟨sZ,je,G⟩:=y;have ax:wr.cell? (aD b (off+k))=some (.slice sZ G.length je):=I;have P:=Zh K;have Q:=Zh L;simp only at M hrl;clear I K L UX U O;have tH:=xH (some (aD wr.heap.size 0)) 2 [⟨jD,cO,m⟩,⟨sZ,je,G⟩] (wr.alloc (.cells #[.slice jD m.length cO,.slice sZ G.length je] 22)) (abK Q.o P.o _) (by simp) (fun i hi=>by
    match i,hi with
    | 0,_ => exact H
    | 1,_ => exact M) (by simp[fw]; omega)
   have R:fw [⟨jD,cO,m⟩,⟨sZ,je,G⟩]=m++G:=by simp[fw]
   rw[R]at tH;clear R
   gi_wp2
   refine⟨trivial,rfl,QZ.2 (tH.mono ?_)⟩;rintro e w3 ⟨v,rfl,z,V⟩;obtain⟨iv,rfl,vO,mq,Ak⟩:=yK z (by simp; omega);have p:∀ s,Kept s wr w3:=fun s=>kept_alloc V
   have ay:=(p (fun _=>True)).size;have MM:=HJ.o _ _ _ _ T (p _);have C:∀ b,ag.blk iv=some b->wr.heap.size<=b:=fun b d=>by have:=Ak b d; rw[QY]at this; omega
   have aj:∀ b,g b->b<wr.heap.size:=fun b d=>by
    rcases j.o b d with h | h
    ·have:=ah.o b h; have:=D.size; omega
    ·exact h.2
   have S:((pre++ys)++[iv]).map ag.key <+: all:=by
    refine List.IsPrefix.trans ?_ HP.o;have e1:((pre++ys)++[iv]).map ag.key=pre.map ag.key++(rs.take (k+1)).map (fun r=>m++r.xs):=by
     rw[Qn,Qn,t.o,<- MV.o,<- QH]
     show _++[iv.xs]=_
     rw[vO]
    rw[e1];exact(List.prefix_append_right_inj _).2 (List.IsPrefix.map _ (List.take_prefix _ _))
   have az:=D.size;obtain⟨fn,tmps,u,X,hy,hR⟩:=HY.o (pre++ys) iv g w3 MM S mq (fun b d=>⟨fun h=>by have:=aj b h; have:=C b d; omega,.inr (by have:=C b d; omega)⟩) (by omega);have ak:=Zh vO;have xD:=Zh p;have Kb:=Zh mq;clear z V p MM S mq vO tH Q P;obtain⟨Fy,oU,w⟩:=iv;have aA:(Instr.yield l #[.slice Fy w.length oU]).run Tryz.prog w3=.ok (.round l fn tmps u X) w3:=hy;clear hy;unfold aa.val;simp only
   gi_wp2
   refine⟨rfl,hR.mono ?_⟩;rintro e w4 ⟨rfl,o3,MN,Y,au⟩
   gi_wp2
   go_roundw
   case rel=>
    refine⟨k+1,by omega,by go_num,ys++[⟨Fy,oU,w⟩],o3,?_,by rw[<- QH]; exact MN,?_,?_⟩
    ·show _=_
     rw[Qn,t.o,<- MV.o]
     show _++[w]=_
     rw[show w=m++G from ak.o]
    ·refine(D.trans (xD.o _)).trans' Y ?_;intro b d h q;rcases j.o b q with q | q
     ·exact h q
     ·omega
    ·intro b d;have aB:=Y.size;rcases au b d with h | h | h
     ·rcases j.o b h with h | h
      ·exact .inl h
      ·exact .inr ⟨h.1,by omega⟩
     ·exact .inr ⟨by omega,h.2⟩
     ·exact .inr ⟨by have:=C b h.1; omega,by have:=ag.sV Kb.o h.1; omega⟩
   case measure=>simp[intOf]; omega
  ·obtain rfl:k=rs.length:=by omega
   rw[Qw]at t
   gi_wp2
   go_ret;exact⟨rfl,ys,g,t.o,T,D,j.o⟩
end
def ZV:=@yK
theorem La(c:ak):c.vals.length=5:=rfl
theorem zH{cs:List ak}(h:w.ownsRow base e 5 v cs.length (cs.flatMap ak.vals))(hl:cs.length<=100) :
  ∃ l d,v=.slice l cs.length d/\bH w l cs/\∀ a,l=some a->base<=a.block/\a.block<w.heap.size/\v.ownBlock=some a.block:=by
 rcases h.2 with⟨rfl,h0⟩ | ⟨g,d,cur,rfl,hb,hh,hc,_,hcs,ht⟩
 ·have:=QF h0;subst this;exact⟨none,0,rfl,⟨by simp,fun i f=>absurd f (by simp)⟩,fun a k=>by cases k⟩
 ·refine⟨some (aD g 0),d,rfl,⟨by omega,fun i f=>⟨g,0,rfl,?_⟩⟩,fun a k=>by cases k; exact⟨hb,(QO.1 hh).1,rfl⟩⟩;have b:∀ j,j<5->w.cell? (aD g (0+i*5+j))=((cs.getD i cz).vals)[j]?:=fun j n=>by
   have m:=J6 ak.vals 5 La cz cs [] i j f n;rw[XB]at m;rw[<- m,<- ht,ZW,Qu (by have:=f; omega)];simp[World.cell?,hh]
  exact⟨b 0 (by omega),b 1 (by omega),b 2 (by omega),b 3 (by omega),b 4 (by omega)⟩
theorem Er{ls:List az}(h:W.ownsRow base e 1 v ls.length (ls.map az.val))(hc:∀ x∈ls,bH W x.ad x.cs)(hl:ls.length<=100) :
  ∃ j b,v=.slice j ls.length b/\bX W j ls:=by
 have d:∀ i,i<ls.length->ls.getD i lz∈ls:=fun i a=>by simp[List.getD,a]
 rcases h.2 with⟨rfl,h0⟩ | ⟨g,b,cur,rfl,hb,hh,hc2,_,hcs,ht⟩
 ·have:=QF h0;subst this;exact⟨none,0,rfl,by simp,fun i a=>absurd a (by simp),fun i a=>absurd a (by simp)⟩
 ·refine⟨some (aD g 0),b,rfl,by omega,fun i a=>⟨g,0,rfl,?_⟩,fun i a=>hc _ (d i a)⟩;have f:(cur.toList.take (ls.length*1))[i]? = some (ls.getD i lz).val:=by
   rw[ht];simp[List.getD,a]
  have k:cur[i]? = some (ls.getD i lz).val:=by
   rw[ZW]at f;split at f
   ·simpa using f
   ·cases f
  simp only[World.cell?,hh]
  simpa using k
theorem Tryz.Es:(Tryz.prog.info? 77).map (fun i=>(i.zero,i.size,i.bytes))=some (some (.agg #[.bool false,.int .i64 0,.int .i64 0,.bool false,.int .i64 0]),5,40):=by kernel_rfl
theorem Tryz.Et:(Tryz.prog.info? 81).map (fun i=>(i.zero,i.size,i.bytes))=some (some (.agg #[.slice none 0 0]),1,24):=by kernel_rfl
theorem F9{fn:Func}{p:Tmp}{ty:TypeId}(h:fn.results=#[.cell p ty])(tmps:Array Value)(P:Program)(w:World) :
  (results fn tmps).run P w=((asAddr (tmps.getD p undef)).run P w).andThen fun a b=>(loadVar ty a).run P b:=by
 simp only[results,h];simp[Sem.run_bind,Result.andThen]
theorem YF{fn:Func}{p:Tmp}{ty:TypeId}(h:fn.results=#[.cell p ty]){tmps:Array Value}{P:Program}{w:World}{B:Nat}{v:Value}(hp:tmps.getD p undef=.pointer (some (aD B 0)))(hl:(loadVar ty (aD B 0)).run P w=.ok v w) :
  (results fn tmps).run P w=.ok v w:=by
 rw[F9 h,hp];simp[go_sem]at hl ⊢;simp[hl]
def Jk:=@YF
def qi(w:World)(d:Option Addr)(db:List aN):Prop:=RG w d db/\∀ i,i<db.length->aX w (db.getD i rz).ad (db.getD i rz).rs
theorem qi.below{w w':World}(hb:Bw w w'){d:Option Addr}{db:List aN}(h:qi w d db):qi w' d db:=⟨h.1.below hb,fun i a=>(h.2 i a).below hb⟩
theorem Tryz.info3:(Tryz.prog.info? 3).map (fun i=>(i.zero,i.size,i.bytes))=some (some (.int .i64 0),1,8):=by kernel_rfl
