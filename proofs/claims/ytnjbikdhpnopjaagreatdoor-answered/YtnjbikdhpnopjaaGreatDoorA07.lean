import Derived.Test.YtnjbikdhpnopjaaGreatDoorA03
set_option linter.all false
set_option maxRecDepth 100000
set_option maxHeartbeats 0
namespace Go.Proofs.Zz
open Go.RowKit Go.Shelf
open List renaming length->N,getD->E
open Go.Value renaming slice->Z,int->I
open Go.Proofs.Tryz renaming prog->V
open Option renaming some->O,none->xn
open Go.IntKind renaming i64->J
open Bool renaming true->T
open Go renaming World->U
open Go.World renaming heap->H
open _root_.Array renaming size->M
open Go.Obj renaming cells->EP
open Go.Ending renaming returned->FN
variable {P:Program} {Q:Exit->Act->U->Prop} {a:Act} {w:U} {ops:Array Oper} {l:Nat}
section
variable {α κ:Type} (Ez:El α κ)
def ash(P:Program)(g:Nat)(s:Value)(rows:List κ)(w0:U):Prop:=
 ∀(l:Nat) (Jq:List α->(Nat->Prop)->U->Prop) (W:U) (o:Nat->Prop),
  Bw w0 W->(∀b,o b->M (H w0)<=b/\b<M (H W))->
  (∀pre o1 A B,Jq pre o1 A->Kept (λb=>o1 b∨b<M (H W)) A B->Jq pre o1 B)->
  (∀pre x o1 W1,Jq pre o1 W1->(pre++[x]).map Ez.key <+: rows->Ez.At x W1->(∀b,Ez.blk x=O b->¬o1 b/\(b<M (H w0)∨M (H W)<=b))->M (H W)<=M (H W1)->
   YieldAt Fence.wide 0 P l #[Ez.enc x] W1 λe W'=>e=FN (.bool T)/\∃o2,Jq (pre++[x]) o2 W'/\Kept (λb=>¬o1 b) W1 W'/\
    ∀b,o2 b->o1 b∨(M (H W1)<=b/\b<M (H W'))∨(Ez.blk x=O b/\M (H W)<=b))->
  Jq [] o W->
  Calls P g #[s,.func (.yield l) #[] #[]] W λe W'=>(∃v,e=FN v)/\∃ys o',ys.map Ez.key=rows/\Jq ys o' W'/\Kept (λb=>¬o b) W W'/\
   ∀b,o' b->o b∨(M (H W)<=b/\b<M (H W'))
theorem yO{g:Operand}{ps:Array Tmp}{assign body:Code}
  {gf:Nat} {s:Value} (hg:a.eval g=.func (.func gf) #[s] #[]) (eg:∀args w,(callFunc gf args).run P w=.ok (.enter gf args) w)
  {rows:List κ} {w0:U} (hseq:ash Ez P gf s rows w0) (hb0:Bw w0 w) (hps:ps.size=1)
  (Iq:List α->(Nat->Prop)->U->Prop) (o:Nat->Prop) (ho:∀b,o b->M (H w0)<=b/\b<M (H w))
  (hI:∀pre f A B,Iq pre f A->Kept (λb=>f b∨b<M (H w)) A B->Iq pre f B) (h0:Iq [] o w) (a₁:α->Act)
  (hassign:∀(l:Nat) (x:α) (W:U) (K:Act->U->Prop),K (a₁ x) W->
   assign.wpIn (Fence.wide.inRound l) 0 P (Exit.then K (λ_ _ _=>False)) { tmps:=(ps.zip #[Ez.enc x]).foldl (λt (p,v)=>t.setIfInBounds p v) a.tmps,defers:=[] } W)
  (hbody:∀(l:Nat) (pre:List α) (x:α) (f:Nat->Prop) (W:U),Iq pre f W->(pre++[x]).map Ez.key <+: rows->Ez.At x W->
   (∀b,Ez.blk x=O b->¬f b/\(b<M (H w0)∨M (H w)<=b))->M (H w)+2<=M (H W)->
   body.wpIn (Fence.wide.inRound l) 0 P (gK Ez Iq pre x (M (H w)) f W) (a₁ x) W)
  (hdone:∀(ys:List α) (G:Nat->Prop) (W:U),ys.map Ez.key=rows->Iq ys G W->Kept (λb=>¬o b) w W->(∀b,G b->(o b∨(M (H w)+2<=b/\b<M (H W))))->
   W.heap[M (H w)]? = O (.deferred (O []))->Q .normal { a with defers:={ target:=.collected (M (H w)),args:=#[] } :: a.defers } W) :
  (Code.rangeFunc g ps assign body).wpIn Fence.wide 0 P Q a w:=by
 refine wpIn_rangeFunc ?_;intro fn aF;obtain⟨i,d⟩:∃i:LoopState->Option Code->Loop,i=λst pe=>{ state:=st,pending:=pe,fn,tmps:=a.tmps,params:=ps,assign,body,defers:=M (H w) }:=⟨_,rfl⟩;obtain⟨u,n⟩:∃u,(w.alloc (.deferred (O []))).alloc (.loop (i .ready xn))=u:=⟨_,rfl⟩;have aH:M (H u)=M (H w)+2:=by rw[<-n];simp
 have ai:u.heap[M (H w)+1]? = O (.loop (i .ready xn)):=by rw[<-n];have:=QG (w.alloc (.deferred (O []))) (.loop (i .ready xn));simp_all
 have aj:u.heap[M (H w)]? = O (.deferred (O [])):=by rw[<-n];exact(Below.heap_alloc _ _ _ (by simp)).trans (QG w _)
 have D:∀s,Kept s w u:=λs=>by rw[<-n];exact(QE _ _).trans (QE _ _)
 have ak:=hb0.trans ((D (λ_=>True)).below hb0.size (λ_ _=>trivial));refine⟨M (H w)+1,[{ target:=.collected (M (H w)),args:=#[] }],u,{ target:=.fn (.func gf) #[],args:=#[s,.func (.yield (M (H w)+1)) #[] #[]] },u,gf,
  #[s,.func (.yield (M (H w)+1)) #[] #[]],u,?_,?_,?_,?_,λh=>by simp[Fence.wide]at h,?_⟩
 .rw[<-n,d];exact run_enterLoop_outer _ _ _ _ _
 .simp only[resolve,hg];simp[go_sem]
 .intro f' _;trivial
 .simp[invoke,go_sem,eg]
 .refine QH.2 ((hseq (M (H w)+1)
   (λpre G W=>∃f,Iq pre f W/\(∀b,G b↔f b∨b=M (H w)∨b=M (H w)+1)/\¬f (M (H w))/\¬f (M (H w)+1)/\
    W.heap[M (H w)+1]? = O (.loop (i .ready xn))/\W.heap[M (H w)]? = O (.deferred (O [])))
   u (λb=>o b∨b=M (H w)∨b=M (H w)+1) ak ?_ ?_ ?_ ?_).mono ?_)
  .rintro b (q|rfl|rfl)
   .grind
   .exact⟨hb0.size,by omega⟩
   .exact⟨by have:=hb0.size;omega,by omega⟩
  .rintro pre G A B ⟨f,hi,j,hn,y,z,hd⟩ hk;have au:=(QI.1 z).1;have av:=(QI.1 hd).1;refine⟨f,hI pre f A B hi (hk.mono λb _ q=>?_),j,hn,y,(hk.block _ au (.inl ((j _).2 (.inr (.inr rfl))))).trans z,(hk.block _ av (.inl ((j _).2 (.inr (.inl rfl))))).trans hd⟩
   grind
  .rintro pre x G W ⟨f,hi,j,hn,y,z,hd⟩ ah hx r aJ;have X:=(QI.1 z).1;have aa:M (H w)<M (H W):=by omega
   have hy:=run_yield (P:=P) (args:=#[Ez.enc x]) z (by simp_all);rw[d]at hy;refine⟨fn,_,assign,body,hy,roundIn_of_wpIn aF (hassign _ x W _ ⟨_,run_beginRound z (by rw[d]),?_⟩)⟩;obtain⟨R,C⟩:=eX (W.putObj (M (H w)+1) (.loop { i .ready xn with state:=.busy }));have k:Kept (λb=>b≠M (H w)+1) W R:=by rw[<-C];exact QC _ _ (λh=>h rfl)
   have ae:R.heap[M (H w)+1]? = O (.loop { i .ready xn with state:=.busy }):=by rw[<-C];exact World.putObj_heap_same X
   have ax:=(k.block _ aa (by omega)).trans hd;have aI:M (H R)=M (H W):=by rw[<-C];simp
   have ay:=hI pre f W R hi (k.mono λb _ q=>by
    grind)
   have az:=Ez.keep hx k.size (λb q aG=>k.block b q (λe=>(r b aG).1 ((j b).2 (.inr (.inr e)))));rw[C];rw[d]at ae;refine wpIn_mono (hbody _ pre x f R ay ah az (λb q=>⟨λh=>(r b q).1 ((j b).2 (.inl h)),(r b q).2.imp id (by omega)⟩) (by omega)) ?_;rintro e a3 W3 S
   cases e with
   |normal =>
    obtain⟨o2,aB,L,aC⟩:=S;have af:W3.heap[M (H w)+1]? = O (.loop { state:=.busy,pending:=xn,fn,tmps:=a.tmps,params:=ps,assign,body,defers:=M (H w) }):=(L.block _ (by omega) y).trans ae;have ag:=(QI.1 af).1;have aA:=(L.block _ (by omega) hn).trans ax;have m:∀b,b=M (H w)∨b=M (H w)+1->¬o2 b:=λb q h=>by grind
    refine⟨_,_,run_endRound xn af,rfl,λb=>o2 b∨b=M (H w)∨b=M (H w)+1,⟨o2,hI _ o2 W3 _ aB (QC _ _ ?_),λb=>QJ,m _ (.inl rfl),m _ (.inr rfl),?_,?_⟩,?_,?_⟩
    .simp_all
    .rw[World.putObj_heap_same ag,d];rfl
    .exact(QD (by omega)).trans aA
    .refine((k.mono ?_).trans' (L.mono ?_) (λ_ _ h=>h)).trans (QC _ _ ?_)
     .simp_all
     .simp_all
     simp_all
    .rintro b (h|h)
     .rcases aC b h with h|h|h
      .simp_all
      .simp_all
      grind
     simp_all
   |ret=>exact S.elim
   |exit id=>exact S.elim
   |goto t=>exact S.elim
   |panic ch=>exact S.elim
   |outgrown=>exact S.elim
  .have m:∀b,b=M (H w)∨b=M (H w)+1->¬o b:=λb q h=>by grind
   exact⟨o,hI _ _ _ _ h0 (D _),λ_=>QJ,m _ (.inl rfl),m _ (.inr rfl),ai,aj⟩
  .rintro e R ⟨⟨v,rfl⟩,ys,G,aD,⟨f,hi,j,hn,y,z,hd⟩,hk,hg⟩;have X:=(QI.1 z).1;refine⟨xn,_,by have:=run_endLoop (P:=P) z (by simp_all);rw[d]at this;exact this,hdone ys f _ aD (hI _ _ _ _ hi (QC _ _ ?_)) ?_ ?_ ((QD (by omega)).trans hd)⟩
   .simp_all
   .refine(Kept.trans' (D _) (hk.mono λb _ h=>h) ?_).trans (QC _ _ ?_) |>.mono (s:=λb=>¬o b/\b<M (H w)) ?_
    .grind
    .omega
    simp_all
   .intro b q;rcases hg b ((j b).2 (.inl q)) with (h|h|h)|h
    .exact .inl h
    .simp_all
    .simp_all
    simp_all
def ng:El Nat Nat where
 enc k:=I J (k:Int)
 At _ _:=True
 blk _:=xn
 key k:=k
 keep:=λ_ _ _=>trivial
 zw:=λ_ h=>by cases h
end
theorem Wi(hd:∀o∈ops,∀c,o.op ≠ .defer c)(hQ:¬LetsOut Q){i:Nat}{K K':Act->U->Prop}(hK:∀a w,K a w->K' a w)(h:wpOp P ops Q i K a w):wpOpIn (Fence.wide.inRound l) 0 P ops Q i K' a w:=by
 unfold wpOp at h;unfold wpOpIn
 cases ho:ops[i]? with
 |none=>simp_all
 |some o =>
  rw[ho]at h;simp only at*;have f:=Array.mem_of_getElem? ho;by_cases d:Region.wanted o (yielded ops a.tmps)=T
  .rw[Zt d]at*;rcases h with h|⟨_,h⟩
   .unfold Oper.wp at h;unfold Oper.wpIn;refine⟨λ_ _=>trivial,?_⟩;rw[Oper.semAt_plain (Fence.wide.inRound l) _ _ (hd o f)];generalize Sem.run P (execOp a.eval o) w=r at*;unfold Oper.upon at h;unfold Oper.uponIn;split at h
    .simp_all
    .simp_all
    .simp_all
    .refine⟨λh=>absurd h (by simp[Fence.wide,Fence.inRound]),Q4 l (QH.2 (h.mono λe b g=>?_))⟩
     grind
    .exact⟨λh=>absurd h (by simp[Fence.wide,Fence.inRound]),λc cs _=>let ⟨v,b,r,s⟩:=h c cs;⟨v,b,hK _ _ r,stepsIn_wide.2 s⟩⟩
    .exact h
    simp_all
   simp_all
  .rw[ZU d]at*;exact⟨λ_ _=>trivial,hK _ _ h⟩
def EU{P:Program}{md:Region.Mode}{ops:Array Oper}{Q:Exit->Act->U->Prop}{l:Nat}(hd:∀o∈ops,∀c,o.op ≠ .defer c)(hQ:¬LetsOut Q):∀(fuel:Nat) (listed:Array Bool) (a:Act) (w:U),
  wpAny P md ops Q fuel listed a w->wpAnyIn (Fence.wide.inRound l) 0 P md ops Q fuel listed a w
 |0,_,_,_,h=>h
 |fuel+1,listed,a,w,h=>⟨h.1,λi b=>Wi hd hQ (λa' d e=>EU hd hQ fuel _ a' d e) (h.2 i b)⟩
def qR{S:U->Prop}{id:Nat}(hm:P.follows .mixedOrders=T)(hd:NL ops=T)(hQ:¬LetsOut Q)
  (h:wpAnyH P .any ops Q S ops.size (Array.replicate ops.size false) a w.drew):(Code.region id ops T).wpIn (Fence.wide.inRound l) 0 P Q a w:=
 wpIn_region_any hm (EU (lV hd) hQ _ _ _ _ (wpAny_of_held _ _ _ _ h))
def H8(c:aI)(ao:Option Addr)(cap:Nat)(xs:List Int)(w:U)(hx:IntsAt w ao xs)(hop:c.op=0∨c.op=1∨c.op=2)(hl:0<=c.left/\c.left<N xs)(hr:c.op=2∨c.const=T∨(0<=c.right/\c.right<N xs)) :
  Cb 188 #[c.val,Z ao (N xs) cap] w (I J (jl c.op (E xs c.left.toNat 0) (if c.op=2∨c.const=T then c.right else E xs c.right.toNat 0)+1)):=by
 have y:=hx.1;obtain⟨b,off,rfl,l⟩:=hx.get (i:=c.left.toNat) (by omega);have q:=zW (l c.left.toNat (by omega));obtain⟨B,C,left,d,right⟩:=c;unfold aI.val;simp only at hop hl hr q;simp only;generalize m:E xs left.toNat 0=L at*;rcases hop with rfl|rfl|rfl
 .cases d
  .have r:0<=right/\right<N xs:=by
    rcases hr with h|h|h
    .omega
    .cases h
    .exact h
   have t:=zW (l right.toNat (by omega));rw[show (if (0:Int)=2∨false=T then right else E xs right.toNat 0)=E xs right.toNat 0 from ZU (by simp)];clear hr l hx m;generalize E xs right.toNat 0=Q at*;generalize f:jl 0 L Q+1=R;refine wX L 1073741824 ?_ ?_ <;> intro e n p <;> refine wX Q 1073741824 ?_ ?_ <;> intro g u v <;> refine wX L Q ?_ ?_ <;> intro k z A
   all_goals
    have j:=Zh (XK f (XK e (XK g k)));clear f e g k;go_enter Tryz.func188,Tryz.ntmps188;go_wp2;go_ret;exact⟨Qe (by obtain⟨h,a,b,c⟩:=j.o;rw[<-h];simp[jl,a,b,c] <;> split <;> omega),dN _ _⟩
  .rw[show (if (0:Int)=2∨T=T then right else E xs right.toNat 0)=right from Zt (by simp)];clear hr l hx m;generalize right=Q at*;generalize f:jl 0 L Q+1=R;refine wX L 1073741824 ?_ ?_ <;> intro e n p <;> refine wX Q 1073741824 ?_ ?_ <;> intro g u v <;> refine wX L Q ?_ ?_ <;> intro k z A
   all_goals
    have j:=Zh (XK f (XK e (XK g k)));clear f e g k;go_enter Tryz.func188,Tryz.ntmps188;go_wp2;go_ret;exact⟨Qe (by obtain⟨h,a,b,c⟩:=j.o;rw[<-h];simp[jl,a,b,c] <;> split <;> omega),dN _ _⟩
 .cases d
  .have r:0<=right/\right<N xs:=by
    rcases hr with h|h|h
    .omega
    .cases h
    .exact h
   have t:=zW (l right.toNat (by omega));rw[show (if (1:Int)=2∨false=T then right else E xs right.toNat 0)=E xs right.toNat 0 from ZU (by simp)];clear hr l hx m;generalize E xs right.toNat 0=Q at*;generalize f:jl 1 L Q+1=R;refine wX L 1073741824 ?_ ?_ <;> intro e n p <;> refine wX Q 1073741824 ?_ ?_ <;> intro g u v <;> by_cases k:L<Q
   all_goals
    have j:=Zh (XK f (XK e (XK g k)));clear f e g;go_enter Tryz.func188,Tryz.ntmps188;go_wp2;go_ret;exact⟨Qe (by obtain⟨h,a,b,c⟩:=j.o;rw[<-h];simp[jl,a,b,c] <;> split <;> omega),dN _ _⟩
  .rw[show (if (1:Int)=2∨T=T then right else E xs right.toNat 0)=right from Zt (by simp)];clear hr l hx m;generalize right=Q at*;generalize f:jl 1 L Q+1=R;refine wX L 1073741824 ?_ ?_ <;> intro e n p <;> refine wX Q 1073741824 ?_ ?_ <;> intro g u v <;> by_cases k:L<Q
   all_goals
    have j:=Zh (XK f (XK e (XK g k)));clear f e g;go_enter Tryz.func188,Tryz.ntmps188;go_wp2;go_ret;exact⟨Qe (by obtain⟨h,a,b,c⟩:=j.o;rw[<-h];simp[jl,a,b,c] <;> split <;> omega),dN _ _⟩
 .rw[show (if (2:Int)=2∨d=T then right else E xs right.toNat 0)=right from Zt (by simp)];clear hr l hx m;generalize f:jl 2 L right+1=R;refine wX L 1073741824 ?_ ?_ <;> intro e n p
  all_goals
   have j:=Zh (XK f e);clear f e;go_enter Tryz.func188,Tryz.ntmps188;go_wp2;go_ret;exact⟨Qe (by obtain⟨h,a⟩:=j.o;rw[<-h];simp[jl,a]),dN _ _⟩
theorem vB(gb sb:Nat)(k:ae)(cnt:Nat)(ss:List Int)(w:U)
  (hg:w.heap[gb]? = O (EP #[k.val,I J cnt,Z (O (aD sb 0)) (N ss) (N ss)] 239)) (hs:w.heap[sb]? = O (EP (ss.map (Value.int J)).toArray 3)) (hk:k.At w) (hkn:k.ad=xn->k.cap=0) (hkl:N k.xs<=4) (hsl:N ss<=4) (hcnt:cnt<=1000000) :
  Calls V 141 #[.pointer (O (aD gb 0))] w λe n=>∃v,e=FN v/\n.ownsRow (M (H w)) 3 1 v (N (k.xs++[(cnt:Int)]++ss)) ((k.xs++[(cnt:Int)]++ss).map (Value.int J))/\Bw w n:=by
 have X:w.cell? (aD gb 0)=O k.val:=XG hg rfl;have c1:w.cell? (aD gb 1)=O (I J cnt):=XG hg rfl;have c2:w.cell? (aD gb 2)=O (Z (O (aD sb 0)) (N ss) (N ss)):=XG hg rfl;have C:=(QI.1 hg).1;obtain⟨b,d,a⟩:=k;unfold ae.val at*;simp only at*;have p:IntsAt w (O (aD sb 0)) ss:=⟨by omega,λi u=>⟨sb,0,rfl,by rw[ZK];exact XG hs (by simp[List.getD,u])⟩⟩;have D:Hid _:=hk;have G:Hid _:=p;have K:=Zh hkn;clear hg hs hk p;have L:Hid (Calls V 171 #[Z (O (aD (M (H w)+1) 0)) 3 3] ((w.alloc (EP #[I J cnt] 3)).alloc (EP #[Z b (N a) d,Z (O (aD (M (H w)) 0)) 1 1,Z (O (aD sb 0)) (N ss) (N ss)] 22)).drew
   λe n=>∃v,e=FN v/\n.ownsRow (M (H w)) 3 1 v (N (a++[(cnt:Int)]++ss)) ((a++[(cnt:Int)]++ss).map (Value.int J))/\Bw w n):=by
  have q:=dN w (EP #[I J cnt] 3);have y:=dN (w.alloc (EP #[I J cnt] 3)) (EP #[Z b (N a) d,Z (O (aD (M (H w)) 0)) 1 1,Z (O (aD sb 0)) (N ss) (N ss)] 22);have l:=(q.trans (y.mono q.size)).drew;have z:(((w.alloc (EP #[I J cnt] 3)).alloc (EP #[Z b (N a) d,Z (O (aD (M (H w)) 0)) 1 1,Z (O (aD sb 0)) (N ss) (N ss)] 22)).drew).heap[M (H w)]? = O (EP #[I J cnt] 3):=(Below.heap_alloc (w.alloc (EP #[I J cnt] 3)) _ _ (by simp)).trans (pR _ _);have m:(((w.alloc (EP #[I J cnt] 3)).alloc (EP #[Z b (N a) d,Z (O (aD (M (H w)) 0)) 1 1,Z (O (aD sb 0)) (N ss) (N ss)] 22)).drew).heap[M (H w)+1]? = O (EP #[Z b (N a) d,Z (O (aD (M (H w)) 0)) 1 1,Z (O (aD sb 0)) (N ss) (N ss)] 22):=by have h:=pR (w.alloc (EP #[I J cnt] 3)) (EP #[Z b (N a) d,Z (O (aD (M (H w)) 0)) 1 1,Z (O (aD sb 0)) (N ss) (N ss)] 22);rw[Zo]at h;exact h
  have P:M (H (((w.alloc (EP #[I J cnt] 3)).alloc (EP #[Z b (N a) d,Z (O (aD (M (H w)) 0)) 1 1,Z (O (aD sb 0)) (N ss) (N ss)] 22)).drew))=M (H w)+2:=by show M (H ((w.alloc (EP #[I J cnt] 3)).alloc (EP #[Z b (N a) d,Z (O (aD (M (H w)) 0)) 1 1,Z (O (aD sb 0)) (N ss) (N ss)] 22)))=_;simp
  generalize ((w.alloc (EP #[I J cnt] 3)).alloc (EP #[Z b (N a) d,Z (O (aD (M (H w)) 0)) 1 1,Z (O (aD sb 0)) (N ss) (N ss)] 22)).drew=Vq at*;have r:fE [⟨b,d,a⟩,⟨O (aD (M (H w)) 0),1,[(cnt:Int)]⟩,⟨O (aD sb 0),N ss,ss⟩]=a++[(cnt:Int)]++ss:=by simp[fE]
  have h:=zY (O (aD (M (H w)+1) 0)) 3 [⟨b,d,a⟩,⟨O (aD (M (H w)) 0),1,[(cnt:Int)]⟩,⟨O (aD sb 0),N ss,ss⟩] Vq ?_ (by simp) ?_ ?_
  .rw[r]at h;refine h.mono ?_;rintro e n ⟨v,rfl,f,S⟩;exact⟨v,rfl,⟨f.1,by
    rcases f.2 with h|⟨g,cap,A,Q,h2,R⟩
    .exact .inl h
    .exact .inr ⟨g,cap,A,Q,by omega,R⟩⟩,l.trans (S.mono (by omega))⟩
  .refine⟨by simp,⟨λi u=>⟨M (H w)+1,0,rfl,?_⟩,λi u=>?_⟩⟩
   .match i,u with
    |0,_=>exact XG m rfl
    |1,_=>exact XG m rfl
    |2,_=>exact XG m rfl
   .match i,u with
    |0,_=>exact Qo l D.o
    |1,_=>exact⟨by simp,λj W=>⟨M (H w),0,rfl,by
      match j,W with
      |0,_=>exact XG z rfl⟩⟩
    |2,_=>exact Qo l G.o
  .grind
  .rw[r];simp;omega
 clear hkn;go_enter Tryz.func141,Tryz.ntmps141;go_wp2;go_region_with (refine L.o.mono ?_;rintro e w4 ⟨v4,rfl,t,B⟩;obtain⟨va,vn,vc,rfl⟩:=Zc t)
 all_goals
  go_wp2;go_ret;exact⟨_,rfl,t,B⟩
