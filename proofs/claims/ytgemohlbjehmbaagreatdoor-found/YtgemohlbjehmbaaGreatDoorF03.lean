import Derived.Test.YtgemohlbjehmbaaGreatDoorF01
set_option linter.all false
set_option maxRecDepth 100000
set_option maxHeartbeats 16000000
namespace Go.Proofs.Zz
open Go.RowKit Go.Shelf
variable {P:Program} {w w0:World} {base:Nat} {e ty:TypeId} {v:Value} {fn:Func} {p:Tmp}
def iz:ai:=⟨none,0,[]⟩
def abM(w:World)(ao:Option Addr)(rs:List ai):Prop:=
 rs.length<=1152921504606846976/\bT w ao rs.length (λi=>(rs.getD i iz).val)/\∀ i,i<rs.length->(rs.getD i iz).At w
structure jJ where
 ad:Option Addr
 cap:Nat
 rs:List ai
def rz:jJ:=⟨none,0,[]⟩
def jJ.val(v:jJ):Value:=.slice v.ad v.rs.length v.cap
def jJ.At(v:jJ)(w:World):Prop:=abM w v.ad v.rs
def atV(w:World)(ao:Option Addr)(db:List jJ):Prop:=
 db.length<=1152921504606846976/\bT w ao db.length (λi=>(db.getD i rz).val)/\∀ i,i<db.length->(db.getD i rz).At w
section
structure Kept(s:Nat->Prop)(A B:World):Prop where
 os:B.os=A.os
 tape:B.tape=A.tape
 output:B.output=A.output
 size:A.heap.size<=B.heap.size
 block:∀ k,k<A.heap.size->s k->B.heap[k]? = A.heap[k]?
theorem Kept.refl(s:Nat->Prop)(A:World):Kept s A A:=⟨rfl,rfl,rfl,Qn _,λ_ _ _=>rfl⟩
theorem Kept.trans{s:Nat->Prop}{A B C:World}(h:Kept s A B)(k:Kept s B C):Kept s A C:=
 ⟨k.os.trans h.os,k.tape.trans h.tape,k.output.trans h.output,Q6 h.size k.size,λi a b=>(k.block i (QH a h.size) b).trans (h.block i a b)⟩
theorem Kept.mono{s t:Nat->Prop}{A B:World}(h:Kept s A B)(hs:∀ b,b<A.heap.size->t b->s b):Kept t A B:=
 ⟨h.os,h.tape,h.output,h.size,λi a d=>h.block i a (hs i a d)⟩
theorem Kept.trans'{s t:Nat->Prop}{A B C:World}(h:Kept s A B)(k:Kept t B C)(hs:∀ b,b<A.heap.size->s b->t b):Kept s A C:=
 ⟨k.os.trans h.os,k.tape.trans h.tape,k.output.trans h.output,Q6 h.size k.size,λi d a=>(k.block i (QH d h.size) (hs i d a)).trans (h.block i d a)⟩
theorem Kept.of_below{s:Nat->Prop}{B:Nat}{w w':World}(h:Below B w w')(hs:∀ b,b<w.heap.size->s b->b<B):Kept s w w':=
 ⟨h.os,h.tape,h.output,h.size,λk d a=>h.block k (hs k d a)⟩
theorem Kept.below{s:Nat->Prop}{B:Nat}{w w':World}(h:Kept s w w')(hB:B<=w.heap.size)(hs:∀ b,b<B->s b):Below B w w':=
 ⟨h.os,h.tape,h.output,h.size,λk a=>h.block k (QH a hB) (hs k a)⟩
theorem Kept.putObj{s:Nat->Prop}(W:World){r:Nat}(o:Obj)(hr:¬ s r):Kept s W (W.putObj r o):=
 ⟨rfl,rfl,rfl,by simp,λk _ a=>World.putObj_heap_other (λe=>hr (e ▸ a))⟩
theorem Kept.alloc{s:Nat->Prop}(W:World)(o:Obj):Kept s W (W.alloc o):=
 ⟨rfl,rfl,rfl,by simp,λk a _=>Below.heap_alloc W o k a⟩
structure El(α κ:Type) where
 enc:α->Value
 At:α->World->Prop
 blk:α->Option Nat
 key:α->κ
 keep:∀ {x A B},At x A->A.heap.size<=B.heap.size->(∀ b,b<A.heap.size->blk x=some b->B.heap[b]? = A.heap[b]?)->At x B
 inn:∀ {x A b},At x A->blk x=some b->b<A.heap.size
variable {α κ:Type} (E:El α κ)
def Seq(P:Program)(g:Nat)(lb:Array Value)(rows:List κ)(w0:World):Prop:=
 ∀ (l:Nat) (J:List α->(Nat->Prop)->World->Prop) (W:World) (o:Nat->Prop),
  Bw w0 W->(∀ b,o b->w0.heap.size<=b/\b<W.heap.size)->
  (∀ pre o1 A B,J pre o1 A->Kept (λb=>o1 b∨b<W.heap.size) A B->J pre o1 B)->
  (∀ pre x o1 W1,J pre o1 W1->(pre++[x]).map E.key <+: rows->E.At x W1->(∀ b,E.blk x=some b->¬ o1 b/\(b<w0.heap.size∨W.heap.size<=b))->W.heap.size<=W1.heap.size->
   YieldAt Fence.wide 0 P l #[E.enc x] W1 λe W'=>e=.returned (.bool true)/\∃ o2,J (pre++[x]) o2 W'/\Kept (λb=>¬ o1 b) W1 W'/\
    ∀ b,o2 b->o1 b∨(W1.heap.size<=b/\b<W'.heap.size)∨(E.blk x=some b/\W.heap.size<=b))->
  J [] o W->
  Calls P g (#[.func (.yield l) #[] #[]]++lb) W λe W'=>(∃ v,e=.returned v)/\∃ ys o',ys.map E.key=rows/\J ys o' W'/\Kept (λb=>¬ o b) W W'/\
   ∀ b,o' b->o b∨(W.heap.size<=b/\b<W'.heap.size)
def xW(I:List α->(Nat->Prop)->World->Prop)(pre:List α)(x:α)(n:Nat)(o1:Nat->Prop)(W:World):Exit->Act->World->Prop
 | .normal,_,W' => ∃ o2,I (pre++[x]) o2 W'/\Kept (λb => ¬ o1 b) W W'/\∀ b,o2 b->o1 b∨(W.heap.size<=b/\b<W'.heap.size)∨(E.blk x=some b/\n<=b)
 | _,_,_ => False
theorem Seq.later{g:Nat}{lb:Array Value}{rows:List κ}{w1:World}(h:Seq E P g lb rows w0)(hb:Bw w0 w1):Seq E P g lb rows w1:=by intro l J W o f e i j k;refine h l J W o (hb.trans (f.mono hb.size)) (λb h=>⟨Q6 hb.size (e b h).1,(e b h).2⟩) i (λpre x m n p q r a s=>j pre x m n p q r (λb d=>⟨(a b d).1,(a b d).2.imp (λh=>QH h hb.size) id⟩) s) k
end
def Q5:=@Kept.refl
def Q7:=@Kept.of_below
def Q8:=@Kept.putObj
def Q9:=@Kept.alloc
section
theorem Uy{w:World}{p:Addr}{v:Value}(h:w.cell? p=some v):p.block<w.heap.size:=by unfold World.cell? at h;grind
theorem bT.keep{A B:World}{ao:Option Addr}{n:Nat}{f:Nat->Value}(h:bT A ao n f)(hb:∀ a,ao=some a->a.block<A.heap.size->B.heap[a.block]? = A.heap[a.block]?):bT B ao n f:=by intro i j;obtain⟨b,d,rfl,e⟩:=h i j;have g:b<A.heap.size:=Uy (p:=(aD b (d+i))) e;exact⟨b,d,rfl,(Zc (a:=(aD b (d+i))) (hb (aD b d) rfl g)).trans e⟩
def bU:El ai (List Int) where
 enc:=ai.val
 At x W:=x.At W/\(∀ a,x.ad=some a->a.block<W.heap.size)/\(x.ad=none->x.cap=0)
 blk x:=x.ad.map (·.block)
 key:=ai.xs
 keep:=by rintro x A B ⟨h,hl,hn⟩ hs hb;refine⟨⟨h.1,h.2.keep λa ha hlt=>hb _ hlt (by rw[ha]; rfl)⟩,λa ha=>QH (hl a ha) hs,hn⟩
 inn:=by
  rintro x A b ⟨_,hl,_⟩ hb
  cases ha:x.ad with
  | none => rw[ha]at hb; cases hb
  | some a => rw[ha]at hb; cases hb; exact hl a ha
def kV(w:World)(ao:Option Addr)(rs:List ai):Prop:=abM w ao rs/\(∀ a,ao=some a->a.block<w.heap.size)/\∀ i,i<rs.length->bU.At (rs.getD i iz) w
attribute [local go_sem] Oper.semAt_some
end
def Za:=@Uy
section
theorem VS{A B:World}{p:Addr}{v:Value}{s:Nat->Prop}(h:A.cell? p=some v)(hk:Kept s A B)(hs:s p.block):B.cell? p=some v:=
 (Zc (hk.block _ (Za h) hs)).trans h
attribute [local go_sem] Oper.semAt_some
end
def Ze:=@VS
@[reducible] def Cb (f:Nat) (a:Array Value) (w:World) (v:Value):Prop:=Calls Tryz.prog f a w λe w'=>e=.returned v/\Bw w w'
@[reducible] def Ce (f:Nat) (a:Array Value) (w:World) (v:Value):Prop:=Calls Tryz.prog f a w λe w'=>e=.returned v/\w' = w
section
theorem Kept.setCell{s:Nat->Prop}(W:World)(a:Addr)(v:Value)(hr:¬ s a.block):Kept s W (W.setCell a v):=
 ⟨rfl,rfl,rfl,by simp[World.setCell],λk _ b=>Below.heap_setCell W a v k (λe=>hr (e ▸ b))⟩
theorem Kept.grown{s:Nat->Prop}{A B:World}{row:Option Nat}(hg:A.grownBy B row)(hr:∀ r,row=some r->¬ s r):Kept s A B:=
 ⟨hg.os,hg.tape,hg.output,hg.size,λk a b=>hg.block k a (λe=>hr k e.symm b)⟩
theorem JO{A B:World}{base:Nat}{e:TypeId}{sz:Nat}{v:Value}{n:Nat}{xs:List Value}(h:A.ownsRow base e sz v n xs){s:Nat->Prop}(hk:Kept s A B)(hs:∀ g,v.ownBlock=some g->s g):B.ownsRow base e sz v n xs:=by
 refine⟨h.1,?_⟩;rcases h.2 with h | ⟨g,cap,a,rfl,d,b,f,i,j,k⟩
 ·exact .inl h
 ·exact .inr ⟨g,cap,a,rfl,d,(hk.block g (Zb.1 b).1 (hs g rfl)).trans b,f,i,j,k⟩
theorem P6{A:World}{base:Nat}{e:TypeId}{sz:Nat}{v:Value}{n:Nat}{xs:List Value}(h:A.ownsRow base e sz v n xs){g:Nat}(hg:v.ownBlock=some g):base<=g/\g<A.heap.size:=by
 rcases h.2 with⟨rfl,_⟩ | ⟨g',cap,cur,rfl,hb,hg',_⟩
 ·cases hg
 ·cases hg
  grind
theorem Gx{A:World}{base:Nat}{e:TypeId}{sz:Nat}{v:Value}{n:Nat}{xs:List Value}(h:A.ownsRow base e sz v n xs):∃ a m cap,v=.slice a m cap:=by
 rcases h.2 with⟨rfl,_⟩ | ⟨g',cap,cur,rfl,_⟩
 ·exact⟨_,_,_,rfl⟩
 ·exact⟨_,_,_,rfl⟩
attribute [local go_sem] Oper.semAt_some
theorem Tryz.Mf:(Tryz.prog.info? 22).map (λi=>(i.zero,i.size,i.bytes))=some (some (.slice none 0 0),1,24):=by kernel_rfl
end
def Zf:=@Kept.setCell
def Zg:=@Kept.grown
def Zi:=@JO
def Zj:=@P6
def Zk:=@Gx
theorem aM.keep{A B:World}{ao:Option Addr}{xs:List Int}(h:aM A ao xs)(hb:∀ a,ao=some a->a.block<A.heap.size->B.heap[a.block]? = A.heap[a.block]?):aM B ao xs:=⟨h.1,h.2.keep hb⟩
theorem Tryz.nG:(Tryz.prog.info? 3).map (λi=>(i.zero,i.size,i.bytes))=some (some (.int .i64 0),1,8):=by kernel_rfl
section
theorem jR{n:Nat}{xs:List Int}(h:w.ownsRow base e 1 v n (xs.map (Value.int .i64)))(hl:xs.length<=1152921504606846976) :
  ∃ iv:ai,v=iv.val/\iv.xs=xs/\bU.At iv w/\∀ b,bU.blk iv=some b->base<=b:=by
 have l:xs.length=n:=by have:=h.1; simpa using this
 rcases h.2 with⟨rfl,h0⟩ | ⟨g,cap,cur,rfl,d,hh,_,_,hcs,ht⟩
 ·have:xs=[]:=Zl (by omega);subst this;exact⟨⟨none,0,[]⟩,rfl,rfl,⟨⟨by simp,λi j=>absurd j (by simp)⟩,(λa k=>by cases k),λ_=>rfl⟩,λb d=>by cases d⟩
 ·refine⟨⟨some (aD g 0),cap,xs⟩,by rw[<- l]; rfl,rfl,⟨⟨hl,λi j=>⟨g,0,rfl,?_⟩⟩,λa k=>?_,λe=>by cases e⟩,λb f=>?_⟩
  ·have o:(cur.toList.take (n*1))[i]? = some (Value.int .i64 (xs.getD i 0)):=by grind
   have m:cur[i]? = some (Value.int .i64 (xs.getD i 0)):=by grind
   simp only[World.cell?,hh];simpa using m
  ·grind
  ·cases f; exact d
attribute [local go_sem] Oper.semAt_some
end
section
variable {α κ:Type} (E:El α κ)
def anS(P:Program)(g:Nat)(s:Value)(rows:List κ)(w0:World):Prop:=
 ∀ (l:Nat) (J:List α->(Nat->Prop)->World->Prop) (W:World) (o:Nat->Prop),
  Bw w0 W->(∀ b,o b->w0.heap.size<=b/\b<W.heap.size)->
  (∀ pre o1 A B,J pre o1 A->Kept (λb=>o1 b∨b<W.heap.size) A B->J pre o1 B)->
  (∀ pre x o1 W1,J pre o1 W1->(pre++[x]).map E.key <+: rows->E.At x W1->(∀ b,E.blk x=some b->¬ o1 b/\(b<w0.heap.size∨W.heap.size<=b))->W.heap.size<=W1.heap.size->
   YieldAt Fence.wide 0 P l #[E.enc x] W1 λe W'=>e=.returned (.bool true)/\∃ o2,J (pre++[x]) o2 W'/\Kept (λb=>¬ o1 b) W1 W'/\
    ∀ b,o2 b->o1 b∨(W1.heap.size<=b/\b<W'.heap.size)∨(E.blk x=some b/\W.heap.size<=b))->
  J [] o W->
  Calls P g #[s,.func (.yield l) #[] #[]] W λe W'=>(∃ v,e=.returned v)/\∃ ys o',ys.map E.key=rows/\J ys o' W'/\Kept (λb=>¬ o b) W W'/\
   ∀ b,o' b->o b∨(W.heap.size<=b/\b<W'.heap.size)
theorem vT{g:Operand}{ps:Array Tmp}{assign body:Code}{Q:Exit->Act->World->Prop}{a:Act}
  {gf:Nat} {s:Value} (hg:a.eval g=.func (.func gf) #[s] #[]) (eg:∀ args w,(callFunc gf args).run P w=.ok (.enter gf args) w)
  {rows:List κ} (hseq:anS E P gf s rows w0) (hb0:Bw w0 w) (hps:ps.size=1)
  (I:List α->(Nat->Prop)->World->Prop) (o:Nat->Prop) (ho:∀ b,o b->w0.heap.size<=b/\b<w.heap.size)
  (hI:∀ pre f A B,I pre f A->Kept (λb=>f b∨b<w.heap.size) A B->I pre f B) (h0:I [] o w) (a₁:α->Act)
  (hassign:∀ (l:Nat) (x:α) (W:World) (K:Act->World->Prop),K (a₁ x) W->
   assign.wpIn (Fence.wide.inRound l) 0 P (Exit.then K (λ_ _ _=>False)) { tmps:=(ps.zip #[E.enc x]).foldl (λt (p,v)=>t.setIfInBounds p v) a.tmps,defers:=[] } W)
  (hbody:∀ (l:Nat) (pre:List α) (x:α) (f:Nat->Prop) (W:World),I pre f W->(pre++[x]).map E.key <+: rows->E.At x W->
   (∀ b,E.blk x=some b->¬ f b/\(b<w0.heap.size∨w.heap.size<=b))->w.heap.size+2<=W.heap.size->
   body.wpIn (Fence.wide.inRound l) 0 P (xW E I pre x w.heap.size f W) (a₁ x) W)
  (hdone:∀ (Y:List α) (F:Nat->Prop) (W:World),Y.map E.key=rows->I Y F W->Kept (λb=>¬ o b) w W->(∀ b,F b->(o b∨(w.heap.size+2<=b/\b<W.heap.size)))->
   W.heap[w.heap.size]? = some (.deferred (some []))->Q .normal { a with defers:={ target:=.collected w.heap.size,args:=#[] } :: a.defers } W) :
  (Code.rangeFunc g ps assign body).wpIn Fence.wide 0 P Q a w:=by
 refine wpIn_rangeFunc ?_;intro fn ay;obtain⟨i,d⟩:∃ i:LoopState->Option Code->Loop,i=λst pe=>{ state:=st,pending:=pe,fn,tmps:=a.tmps,params:=ps,assign,body,defers:=w.heap.size }:=⟨_,rfl⟩;obtain⟨u,n⟩:∃ u,(w.alloc (.deferred (some []))).alloc (.loop (i .ready none))=u:=⟨_,rfl⟩;have aA:u.heap.size=w.heap.size+2:=by rw[<- n]; simp
 have Z:u.heap[w.heap.size+1]? = some (.loop (i .ready none)):=by rw[<- n]; have:=World.alloc_heap_new (w.alloc (.deferred (some []))) (.loop (i .ready none)); simp_all
 have aa:u.heap[w.heap.size]? = some (.deferred (some [])):=by rw[<- n]; exact(Below.heap_alloc _ _ _ (by simp)).trans (World.alloc_heap_new w _)
 have D:∀ s,Kept s w u:=λs=>by rw[<- n]; exact(Q9 _ _).trans (Q9 _ _)
 have ae:=hb0.trans ((D (λ_=>True)).below hb0.size (λ_ _=>trivial));refine⟨w.heap.size+1,[{ target:=.collected w.heap.size,args:=#[] }],u,{ target:=.fn (.func gf) #[],args:=#[s,.func (.yield (w.heap.size+1)) #[] #[]] },u,gf,
  #[s,.func (.yield (w.heap.size+1)) #[] #[]],u,?_,?_,?_,?_,λh=>by simp[Fence.wide]at h,?_⟩
 ·rw[<- n,d]; exact run_enterLoop_outer _ _ _ _ _
 ·simp only[resolve,hg];simp[go_sem]
 ·intro f' _; trivial
 ·simp[invoke,go_sem,eg]
 ·refine Z9.2 ((hseq (w.heap.size+1)
   (λpre F W=>∃ f,I pre f W/\(∀ b,F b↔f b∨b=w.heap.size∨b=w.heap.size+1)/\¬ f w.heap.size/\¬ f (w.heap.size+1)/\
    W.heap[w.heap.size+1]? = some (.loop (i .ready none))/\W.heap[w.heap.size]? = some (.deferred (some [])))
   u (λb=>o b∨b=w.heap.size∨b=w.heap.size+1) ae ?_ ?_ ?_ ?_).mono ?_)
  ·rintro b (q | rfl | rfl)
   ·grind
   ·exact⟨hb0.size,by omega⟩
   ·exact⟨by have:=hb0.size; omega,by omega⟩
  ·rintro pre F A B ⟨f,S,j,V,y,z,hd⟩ T;have af:=(Zb.1 z).1;have ag:=(Zb.1 hd).1;refine⟨f,hI pre f A B S (T.mono λb _ q=>?_),j,V,y,(T.block _ af (.inl ((j _).2 (.inr (.inr rfl))))).trans z,(T.block _ ag (.inl ((j _).2 (.inr (.inl rfl))))).trans hd⟩
   grind
  ·rintro pre x F W ⟨f,S,j,V,y,z,hd⟩ U hx r aC;have L:=(Zb.1 z).1;have M:w.heap.size<W.heap.size:=by omega
   have hy:=run_yield (P:=P) (args:=#[E.enc x]) z (by simp_all);rw[d]at hy;refine⟨fn,_,assign,body,hy,roundIn_of_wpIn ay (hassign _ x W _ ⟨_,run_beginRound z (by rw[d]),?_⟩)⟩;obtain⟨H,C⟩:=eX (W.putObj (w.heap.size+1) (.loop { i .ready none with state:=.busy }));have k:Kept (λb=>b≠w.heap.size+1) W H:=by rw[<- C]; exact Q8 _ _ (λh=>h rfl)
   have N:H.heap[w.heap.size+1]? = some (.loop { i .ready none with state:=.busy }):=by rw[<- C]; exact World.putObj_heap_same L
   have ah:=(k.block _ M (by omega)).trans hd;have aB:H.heap.size=W.heap.size:=by rw[<- C]; simp
   have ai:=hI pre f W H S (k.mono λb _ q=>by
    grind)
   have aj:=E.keep hx k.size (λb q az=>k.block b q (λe=>(r b az).1 ((j b).2 (.inr (.inr e)))));rw[C];rw[d]at N;refine wpIn_mono (hbody _ pre x f H ai U aj (λb q=>⟨λh=>(r b q).1 ((j b).2 (.inl h)),(r b q).2.imp id (by omega)⟩) (by omega)) ?_;rintro e a3 W3 J
   cases e with
   | normal =>
    obtain⟨X,au,G,av⟩:=J;have O:W3.heap[w.heap.size+1]? = some (.loop { state:=.busy,pending:=none,fn,tmps:=a.tmps,params:=ps,assign,body,defers:=w.heap.size }):=(G.block _ (by omega) y).trans N;have R:=(Zb.1 O).1;have ak:=(G.block _ (by omega) V).trans ah;have m:∀ b,b=w.heap.size∨b=w.heap.size+1->¬ X b:=λb q h=>by grind
    refine⟨_,_,run_endRound none O,rfl,λb=>X b∨b=w.heap.size∨b=w.heap.size+1,⟨X,hI _ X W3 _ au (Q8 _ _ ?_),λb=>Iff.rfl,m _ (.inl rfl),m _ (.inr rfl),?_,?_⟩,?_,?_⟩
    ·simp_all
    ·rw[World.putObj_heap_same R,d]; rfl
    ·exact(World.putObj_heap_other (by omega)).trans ak
    ·refine((k.mono ?_).trans' (G.mono ?_) (λ_ _ h=>h)).trans (Q8 _ _ ?_)
     ·simp_all
     ·simp_all
     simp_all
    ·rintro b (h | h)
     ·rcases av b h with h | h | h
      ·simp_all
      ·simp_all
      grind
     simp_all
   | ret => exact J.elim
   | exit id => exact J.elim
   | goto t => exact J.elim
   | panic ch => exact J.elim
   | outgrown => exact J.elim
  ·have m:∀ b,b=w.heap.size∨b=w.heap.size+1->¬ o b:=λb q h=>by grind
   exact⟨o,hI _ _ _ _ h0 (D _),λ_=>Iff.rfl,m _ (.inl rfl),m _ (.inr rfl),Z,aa⟩
  ·rintro e H ⟨⟨v,rfl⟩,Y,F,ax,⟨f,S,j,V,y,z,hd⟩,T,hg⟩;have L:=(Zb.1 z).1;refine⟨none,_,by have:=run_endLoop (P:=P) z (by simp_all); rw[d]at this; exact this,hdone Y f _ ax (hI _ _ _ _ S (Q8 _ _ ?_)) ?_ ?_ ((World.putObj_heap_other (by omega)).trans hd)⟩
   ·simp_all
   ·refine(Kept.trans' (D _) (T.mono λb _ h=>h) ?_).trans (Q8 _ _ ?_) |>.mono (s:=λb=>¬ o b/\b<w.heap.size) ?_
    ·grind
    ·omega
    simp_all
   ·intro b q;rcases hg b ((j b).2 (.inl q)) with (h | h | h) | h
    ·exact .inl h
    ·simp_all
    ·simp_all
    simp_all
def lX:El Nat Nat where
 enc k:=.int .i64 (k:Int)
 At _ _:=True
 blk _:=none
 key k:=k
 keep:=λ_ _ _=>trivial
 inn:=λ_ h=>by cases h
end
theorem GJ(h:fn.results=#[.cell p ty])(tmps:Array Value)(P:Program)(w:World) :
  (results fn tmps).run P w=((asAddr (tmps.getD p undef)).run P w).andThen λa b=>(loadVar ty a).run P b:=by simp only[results,h];simp_all
theorem kX(h:fn.results=#[.cell p ty]){tmps:Array Value}{B:Nat}(hp:tmps.getD p undef=.pointer (some (aD B 0)))(hl:(loadVar ty (aD B 0)).run P w=.ok v w) :
  (results fn tmps).run P w=.ok v w:=by rw[GJ h,hp];simp[go_sem]at hl ⊢;simp[hl]
theorem J9(c:aI):c.vals.length=5:=rfl
theorem zR{cs:List aI}(h:w.ownsRow base e 5 v cs.length (cs.flatMap aI.vals))(hl:cs.length<=100) :
  ∃ k cap,v=.slice k cs.length cap/\bZ w k cs/\∀ a,k=some a->base<=a.block/\a.block<w.heap.size/\v.ownBlock=some a.block:=by
 rcases h.2 with⟨rfl,h0⟩ | ⟨g,cap,cur,rfl,hb,hh,hc,_,hcs,ht⟩
 ·have:=Zl h0;subst this;exact⟨none,0,rfl,⟨by simp,λi d=>absurd d (by simp)⟩,λa f=>by cases f⟩
 ·refine⟨some (aD g 0),cap,rfl,⟨by omega,λi d=>⟨g,0,rfl,?_⟩⟩,λa f=>by cases f; exact⟨hb,(Zb.1 hh).1,rfl⟩⟩;have b:∀ j,j<5->w.cell? (aD g (0+i*5+j))=((cs.getD i cz).vals)[j]?:=λj m=>by have l:=JL aI.vals 5 J9 cz cs [] i j d m;rw[Xb]at l;rw[<- l,<- ht,Zm,Qo (by have:=d; omega)];simp[World.cell?,hh]
  exact⟨b 0 (by omega),b 1 (by omega),b 2 (by omega),b 3 (by omega),b 4 (by omega)⟩
theorem EA{W:World}{ls:List aL}(h:W.ownsRow base e 1 v ls.length (ls.map aL.val))(hc:∀ x∈ls,bZ W x.ad x.cs)(hl:ls.length<=100) :
  ∃ d cap,v=.slice d ls.length cap/\fT W d ls:=by
 have b:∀ i,i<ls.length->ls.getD i lz∈ls:=λi a=>by simp[List.getD,a]
 rcases h.2 with⟨rfl,h0⟩ | ⟨g,cap,cur,rfl,hb,hh,hc2,_,hcs,ht⟩
 ·have:=Zl h0;subst this;exact⟨none,0,rfl,by simp,λi a=>absurd a (by simp),λi a=>absurd a (by simp)⟩
 ·refine⟨some (aD g 0),cap,rfl,by omega,λi a=>⟨g,0,rfl,?_⟩,λi a=>hc _ (b i a)⟩;have j:(cur.toList.take (ls.length*1))[i]? = some (ls.getD i lz).val:=by rw[ht];simp[List.getD,a]
  have f:cur[i]? = some (ls.getD i lz).val:=by grind
  simp only[World.cell?,hh];simpa using f
theorem Tryz.MF:(Tryz.prog.info? 80).map (λi=>(i.zero,i.size,i.bytes))=some (some (.agg #[.bool false,.int .i64 0,.int .i64 0,.bool false,.int .i64 0]),5,40):=by kernel_rfl
theorem Tryz.ED:(Tryz.prog.info? 84).map (λi=>(i.zero,i.size,i.bytes))=some (some (.agg #[.slice none 0 0]),1,24):=by kernel_rfl
def ah.list(n:ah):List Value:=[.int .i64 n.kind,.int .i64 n.l,.int .i64 n.r,.int .i64 n.source,n.cl.val,.int .i64 n.key,n.co.val]
def ace(w:World)(d:Option Addr)(db:List jJ):Prop:=atV w d db/\∀ i,i<db.length->kV w (db.getD i rz).ad (db.getD i rz).rs
theorem Tryz.info3:(Tryz.prog.info? 3).map (λi=>(i.zero,i.size,i.bytes))=some (some (.int .i64 0),1,8):=by kernel_rfl
