import Derived.Test.YtibkmjbegbjgcaaGreatDoorS00
set_option linter.all false
set_option maxRecDepth 100000
set_option maxHeartbeats 0
namespace Go.Proofs.Zz
open Go.RowKit Go.Shelf Go.Proofs.Tryz
open List renaming length->N,getD->E
open Go.Value renaming slice->Z,int->I,pointer->Y
open Go.Proofs.Tryz renaming prog->V
open Option renaming some->O,none->Qs
open Go.IntKind renaming i64->J
open Bool renaming true->T
open Go renaming World->U,Value->Qm
open Go.World renaming heap->H,setCell->Qo,cell?->Qp
open _root_.Array renaming size->M
open Go.RowKit renaming Hid->Qn
open Go.Obj renaming cells->Qt
open Go.Ending renaming returned->Qv
variable {P:Program} {W w w0:U} {lb:Array Qm} {x:ah} {α:Type} {k n n0:Nat} {pre rs:Qy ah} {rows:Qy (Qx)} {e:TypeId} {o1:Qz} {v:Qm} {p:Nat->Bool} {src:Qx} {ts:Qy af}
def iz:ah:=⟨Qs,0,[]⟩
def uk(w:U)(ao:PN)(rs:Qy ah):Prop:=
 N rs<=1152921504606846976/\bg w ao (N rs) (λi=>(E rs i iz).val)/\∀i,i<N rs->(E rs i iz).At w
def uk.below{w w':U}(hb:Bw w w'){ao:PN}{rs:Qy ah}(h:uk w ao rs):uk w' ao rs:=
 ⟨h.1,h.2.1.below hb,λi a=>Q8 hb (h.2.2 i a)⟩
structure dB where
 ad:PN
 cap:Nat
 rs:Qy ah
def rz:dB:=⟨Qs,0,[]⟩
def dB.val(v:dB):Value:=Z v.ad (N v.rs) v.cap
def dB.At(v:dB)(w:U):Prop:=uk w v.ad v.rs
def Mh(w:U)(ao:PN)(db:Qy dB):Prop:=
 N db<=1152921504606846976/\bg w ao (N db) (λi=>(E db i rz).val)/\∀i,i<N db->(E db i rz).At w
def Mh.below{w w':U}(hb:Bw w w'){ao:PN}{db:Qy dB}(h:Mh w ao db):Mh w' ao db:=
 ⟨h.1,h.2.1.below hb,λi a=>uk.below hb (h.2.2 i a)⟩
section
structure Kept(s:Qz)(A B:U):Prop where
 os:B.os=A.os
 tape:B.tape=A.tape
 output:B.output=A.output
 size:M (H A)<=M (H B)
 block:∀k,k<M (H A)->s k->B.heap[k]? = A.heap[k]?
def Kept.refl(s:Qz)(A:U):Kept s A A:=⟨rfl,rfl,rfl,Za _,λ_ _ _=>rfl⟩
def Kept.trans{s:Qz}{A B C:U}(h:Kept s A B)(k:Kept s B C):Kept s A C:=
 ⟨k.os.trans h.os,k.tape.trans h.tape,k.output.trans h.output,ZN h.size k.size,λi a b=>(k.block i (Zy a h.size) b).trans (h.block i a b)⟩
def Kept.mono{s t:Qz}{A B:U}(h:Kept s A B)(hs:∀b,b<M (H A)->t b->s b):Kept t A B:=
 ⟨h.os,h.tape,h.output,h.size,λi a d=>h.block i a (hs i a d)⟩
def Kept.trans'{s t:Qz}{A B C:U}(h:Kept s A B)(k:Kept t B C)(hs:∀b,b<M (H A)->s b->t b):Kept s A C:=
 ⟨k.os.trans h.os,k.tape.trans h.tape,k.output.trans h.output,ZN h.size k.size,λi d a=>(k.block i (Zy d h.size) (hs i d a)).trans (h.block i d a)⟩
def Kept.of_below{s:Qz}{B:Nat}{w w':U}(h:Below B w w')(hs:∀b,b<M (H w)->s b->b<B):Kept s w w':=
 ⟨h.os,h.tape,h.output,h.size,λk d a=>h.block k (hs k d a)⟩
def Kept.below{s:Qz}{B:Nat}{w w':U}(h:Kept s w w')(hB:B<=M (H w))(hs:∀b,b<B->s b):Below B w w':=
 ⟨h.os,h.tape,h.output,h.size,λk a=>h.block k (Zy a hB) (hs k a)⟩
def Kept.putObj{s:Qz}(W:U){r:Nat}(o:Obj)(hr:¬s r):Kept s W (W.putObj r o):=
 ⟨rfl,rfl,rfl,Qa,λk _ a=>ZR (λe=>hr (e ▸ a))⟩
def Kept.alloc{s:Qz}(W:U)(o:Obj):Kept s W (W.alloc o):=
 ⟨rfl,rfl,rfl,Qa,λk a _=>Below.heap_alloc W o k a⟩
structure El(α κ:Type) where
 enc:α->Qm
 At:α->U->Prop
 blk:α->Option Nat
 key:α->κ
 keep:∀{x A B},At x A->M (H A)<=M (H B)->(∀b,b<M (H A)->blk x=O b->B.heap[b]? = A.heap[b]?)->At x B
 inn:∀{x A b},At x A->blk x=O b->b<M (H A)
variable {α κ:Type} (Ez:El α κ)
def Seq(P:Program)(g:Nat)(lb:Array Qm)(rows:List κ)(w0:U):Prop:=
 ∀(l:Nat) (Jq:List α->(Qz)->U->Prop) (W:U) (o:Qz),
  Bw w0 W->(∀b,o b->M (H w0)<=b/\b<M (H W))->
  (∀pre o1 A B,Jq pre o1 A->Kept (λb=>o1 b∨b<M (H W)) A B->Jq pre o1 B)->
  (∀pre x o1 W1,Jq pre o1 W1->(pre++[x]).map Ez.key <+: rows->Ez.At x W1->(∀b,Ez.blk x=O b->¬o1 b/\(b<M (H w0)∨M (H W)<=b))->M (H W)<=M (H W1)->
   YieldAt Fence.wide 0 P l #[Ez.enc x] W1 λe W'=>e=Qv (.bool T)/\∃o2,Jq (pre++[x]) o2 W'/\Kept (λb=>¬o1 b) W1 W'/\
    ∀b,o2 b->o1 b∨(M (H W1)<=b/\b<M (H W'))∨(Ez.blk x=O b/\M (H W)<=b))->
  Jq [] o W->
  Calls P g (#[.func (.yield l) #[] #[]]++lb) W λe W'=>(∃v,e=Qv v)/\∃ys o',ys.map Ez.key=rows/\Jq ys o' W'/\Kept (λb=>¬o b) W W'/\
   ∀b,o' b->o b∨(M (H W)<=b/\b<M (H W'))
def pG(Iq:List α->(Qz)->U->Prop)(pre:List α)(x:α)(n:Nat)(o1:Qz)(W:U):Exit->Act->U->Prop
 |.normal,_,W'=>∃o2,Iq (pre++[x]) o2 W'/\Kept (λb=>¬o1 b) W W'/\∀b,o2 b->o1 b∨(M (H W)<=b/\b<M (H W'))∨(Ez.blk x=O b/\n<=b)
 |_,_,_=>False
theorem Ag{g:Operand}{ps:Array Tmp}{assign body:Code}{Q:Exit->Act->U->Prop}{a:Act}
  {gf:Nat} (hg:a.eval g=.func (.func gf) #[] lb) (eg:∀args w,(callFunc gf args).run P w=.ok (.enter gf args) w)
  {rows:List κ} (hseq:Seq Ez P gf lb rows w0) (hb0:Bw w0 w) (hps:ps.size=1)
  (Iq:List α->(Qz)->U->Prop) (o:Qz) (ho:∀b,o b->M (H w0)<=b/\b<M (H w))
  (hI:∀d i A B,Iq d i A->Kept (λb=>i b∨b<M (H w)) A B->Iq d i B) (h0:Iq [] o w) (a₁:α->Act)
  (hassign:∀(l:Nat) (x:α) (W:U) (K:Act->U->Prop),K (a₁ x) W->
   assign.wpIn (Fence.wide.inRound l) 0 P (Exit.then K (λ_ _ _=>False)) { tmps:=(ps.zip #[Ez.enc x]).foldl (λt (p,v)=>t.setIfInBounds p v) a.tmps,defers:=[] } W)
  (hbody:∀(l:Nat) (d:List α) (x:α) (i:Qz) (W:U),Iq d i W->(d++[x]).map Ez.key <+: rows->Ez.At x W->
   (∀b,Ez.blk x=O b->¬i b/\(b<M (H w0)∨M (H w)<=b))->M (H w)+2<=M (H W)->
   body.wpIn (Fence.wide.inRound l) 0 P (pG Ez Iq d x (M (H w)) i W) (a₁ x) W)
  (hdone:∀(ys:List α) (L:Qz) (W:U),ys.map Ez.key=rows->Iq ys L W->Kept (λb=>¬o b) w W->(∀b,L b->(o b∨(M (H w)+2<=b/\b<M (H W))))->
   W.heap[M (H w)]? = O (.deferred (O []))->Q .normal { a with defers:={ target:=.collected (M (H w)),args:=#[] } :: a.defers } W) :
  (Code.rangeFunc g ps assign body).wpIn Fence.wide 0 P Q a w:=by
 refine wpIn_rangeFunc ?_;intro fn aG;obtain⟨k,f⟩:=eY (λst pe=>{ state:=st,pending:=pe,fn,tmps:=a.tmps,params:=ps,assign,body,defers:=M (H w) }:LoopState->Option Code->Loop);obtain⟨D,q⟩:=eX ((w.alloc (.deferred (O []))).alloc (.loop (k .ready Qs)));have aI:M (H D)=M (H w)+2:=by rw[<-q];simp
 have aj:D.heap[M (H w)+1]? = O (.loop (k .ready Qs)):=by rw[<-q];have:=World.alloc_heap_new (w.alloc (.deferred (O []))) (.loop (k .ready Qs));simp_all
 have ak:D.heap[M (H w)]? = O (.deferred (O [])):=by rw[<-q];exact(Below.heap_alloc _ _ _ Qa).trans (World.alloc_heap_new w _)
 have G:∀s,Kept s w D:=λs=>by rw[<-q];exact(Kept.alloc _ _).trans (Kept.alloc _ _)
 have au:=hb0.trans ((G (λ_=>True)).below hb0.size (λ_ _=>trivial));refine⟨M (H w)+1,[{ target:=.collected (M (H w)),args:=#[] }],D,{ target:=.fn (.func gf) lb,args:=#[.func (.yield (M (H w)+1)) #[] #[]] },D,gf,
  #[.func (.yield (M (H w)+1)) #[] #[]]++lb,D,?_,?_,?_,?_,λh=>by simp[Fence.wide]at h,?_⟩
 .rw[<-q,f];exact run_enterLoop_outer _ _ _ _ _
 .simp only[resolve,hg];simp[go_sem]
 .intro f' _;trivial
 .simp[invoke,go_sem,eg]
 .refine ZU.2 ((hseq (M (H w)+1)
   (λd L W=>∃i,Iq d i W/\(∀b,L b↔i b∨b=M (H w)∨b=M (H w)+1)/\¬i (M (H w))/\¬i (M (H w)+1)/\
    W.heap[M (H w)+1]? = O (.loop (k .ready Qs))/\W.heap[M (H w)]? = O (.deferred (O [])))
   D (λb=>o b∨b=M (H w)∨b=M (H w)+1) au ?_ ?_ ?_ ?_).mono ?_)
  .rintro b (r|rfl|rfl)
   .grind
   .exact⟨hb0.size,X⟩
   .exact⟨Qk hb0.size,X⟩
  .rintro d L A B ⟨i,hi,j,hn,y,z,hd⟩ hk;have av:=(ZV.1 z).1;have ax:=(ZV.1 hd).1;refine⟨i,hI d i A B hi (hk.mono λb _ r=>?_),j,hn,y,(hk.block _ av (.inl ((j _).2 (.inr (.inr rfl))))).trans z,(hk.block _ ax (.inl ((j _).2 (.inr (.inl rfl))))).trans hd⟩
   grind
  .rintro d x L W ⟨i,hi,j,hn,y,z,hd⟩ ai hx u aK;have aa:=(ZV.1 z).1;have ae:M (H w)<M (H W):=X
   have hy:=run_yield (P:=P) (args:=#[Ez.enc x]) z Qf;rw[f]at hy;refine⟨fn,_,assign,body,hy,roundIn_of_wpIn aG (hassign _ x W _ ⟨_,run_beginRound z (by rw[f]),?_⟩)⟩;obtain⟨S,C⟩:=eX (W.putObj (M (H w)+1) (.loop { k .ready Qs with state:=.busy }));have m:Kept (λb=>b≠M (H w)+1) W S:=by rw[<-C];exact Kept.putObj _ _ (λh=>h rfl)
   have af:S.heap[M (H w)+1]? = O (.loop { k .ready Qs with state:=.busy }):=by rw[<-C];exact World.putObj_heap_same aa
   have ay:=(m.block _ ae X).trans hd;have aJ:M (H S)=M (H W):=by rw[<-C];simp
   have az:=hI d i W S hi (m.mono λb _ r=>by
    grind)
   have aA:=Ez.keep hx m.size (λb r aH=>m.block b r (λe=>(u b aH).1 ((j b).2 (.inr (.inr e)))));rw[C];rw[f]at af;refine wpIn_mono (hbody _ d x i S az ai aA (λb r=>⟨λh=>(u b r).1 ((j b).2 (.inl h)),(u b r).2.imp id X⟩) X) ?_;rintro e a3 W3 hp
   cases e with
   |normal =>
    obtain⟨o2,aC,R,aD⟩:=hp;have ag:W3.heap[M (H w)+1]? = O (.loop { state:=.busy,pending:=Qs,fn,tmps:=a.tmps,params:=ps,assign,body,defers:=M (H w) }):=(R.block _ X y).trans af;have ah:=(ZV.1 ag).1;have aB:=(R.block _ X hn).trans ay;have n:∀b,b=M (H w)∨b=M (H w)+1->¬o2 b:=λb r h=>by grind
    refine⟨_,_,run_endRound Qs ag,rfl,λb=>o2 b∨b=M (H w)∨b=M (H w)+1,⟨o2,hI _ o2 W3 _ aC (Kept.putObj _ _ ?_),λb=>Iff.rfl,n _ (.inl rfl),n _ (.inr rfl),?_,?_⟩,?_,?_⟩
    .simp_all
    .rw[World.putObj_heap_same ah,f];rfl
    .exact(ZR X).trans aB
    .refine((m.mono ?_).trans' (R.mono ?_) (λ_ _ h=>h)).trans (Kept.putObj _ _ ?_)
     .simp_all
     .simp_all
     simp_all
    .rintro b (h|h)
     .rcases aD b h with h|h|h
      .simp_all
      .simp_all
      grind
     simp_all
   |ret=>exact hp.elim
   |exit id=>exact hp.elim
   |goto t=>exact hp.elim
   |panic ch=>exact hp.elim
   |outgrown=>exact hp.elim
  .have n:∀b,b=M (H w)∨b=M (H w)+1->¬o b:=λb r h=>Qb
   exact⟨o,hI _ _ _ _ h0 (G _),λ_=>Iff.rfl,n _ (.inl rfl),n _ (.inr rfl),aj,ak⟩
  .rintro e S ⟨⟨v,rfl⟩,ys,L,aF,⟨i,hi,j,hn,y,z,hd⟩,hk,hg⟩;have aa:=(ZV.1 z).1;refine⟨Qs,_,by have:=run_endLoop (P:=P) z Qf;rw[f]at this;exact this,hdone ys i _ aF (hI _ _ _ _ hi (Kept.putObj _ _ ?_)) ?_ ?_ ((ZR X).trans hd)⟩
   .simp_all
   .refine(Kept.trans' (G _) (hk.mono λb _ h=>h) ?_).trans (Kept.putObj _ _ ?_) |>.mono (s:=λb=>¬o b/\b<M (H w)) ?_
    .grind
    .omega
    simp_all
   .intro b r;rcases hg b ((j b).2 (.inl r)) with (h|h|h)|h
    .exact .inl h
    .simp_all
    .simp_all
    simp_all
def Seq.later{g:Nat}{rows:List κ}{w1:U}(h:Seq Ez P g lb rows w0)(hb:Bw w0 w1):Seq Ez P g lb rows w1:=by intro l Jq W o i f j k m;refine h l Jq W o (hb.trans (i.mono hb.size)) (λb h=>⟨ZN hb.size (f b h).1,(f b h).2⟩) j (λe x n p q r t a u=>k e x n p q r t (λb d=>⟨(a b d).1,(a b d).2.imp (λh=>Zy h hb.size) id⟩) u) m
end
def ZO:=@Kept.refl
def ZP:=@Kept.of_below
def ZQ:=@Kept.putObj
def ZT:=@Kept.alloc
@[reducible] def Cb (f:Nat) (a:Array Qm) (w:U) (v:Qm):Prop:=Calls V f a w λe w'=>e=Qv v/\Bw w w'
@[reducible] def Ce (f:Nat) (a:Array Qm) (w:U) (v:Qm):Prop:=Calls V f a w λe w'=>e=Qv v/\w' = w
section
theorem O6{w:U}{p:Addr}{v:Qm}(h:w.cell? p=O v):p.block<M (H w):=by unfold World.cell? at h;grind
def bg.keep{A B:U}{ao:PN}{n:Nat}{f:Nat->Qm}(h:bg A ao n f)(hb:∀a,ao=O a->a.block<M (H A)->B.heap[a.block]? = A.heap[a.block]?):bg B ao n f:=by intro i j;obtain⟨b,d,rfl,e⟩:=h i j;have g:b<M (H A):=O6 (p:=(aD b (d+i))) e;exact⟨b,d,rfl,(ZX (a:=(aD b (d+i))) (hb (aD b d) rfl g)).trans e⟩
def bH:El ah (Qx) where
 enc:=ah.val
 At x W:=x.At W/\(∀a,x.ad=O a->a.block<M (H W))/\(x.ad=Qs->x.cap=0)
 blk x:=x.ad.map (·.block)
 key:=ah.xs
 keep:=by rintro x A B ⟨h,hl,hn⟩ hs hb;refine⟨⟨h.1,h.2.keep λa ha hlt=>hb _ hlt (by rw[ha];rfl)⟩,λa ha=>Zy (hl a ha) hs,hn⟩
 inn:=by
  rintro x A b ⟨_,hl,_⟩ hb
  cases ha:x.ad with
  |none=>rw[ha]at hb;cases hb
  |some a=>rw[ha]at hb;cases hb;exact hl a ha
def PZ{b:Nat}(h:bH.blk x=O b):∃a,x.ad=O a/\a.block=b:=by
 have d:x.ad.map (·.block)=O b:=h
 cases ha:x.ad with
 |none=>rw[ha]at d;cases d
 |some a=>rw[ha]at d;cases d;exact⟨a,rfl,rfl⟩
def gJ(w:U)(ao:PN)(rs:Qy ah):Prop:=uk w ao rs/\(∀a,ao=O a->a.block<M (H w))/\∀i,i<N rs->bH.At (E rs i iz) w
def gJ.below{w w':U}(hb:Bw w w'){ao:PN}{rs:Qy ah}(h:gJ w ao rs):gJ w' ao rs:=
 ⟨h.1.below hb,λa e=>Zy (h.2.1 a e) hb.size,λi f=>bH.keep (h.2.2 i f) hb.size (λb d _=>hb.block b d)⟩
def rV(rs:List α)(d:α)(hk:k<N rs):rs.take k++[E rs k d]=rs.take (k+1):=by rw[Q4 hk];simp[List.getD,hk]
attribute [local go_sem] Oper.semAt_some
def Vv(bt:Nat)(ao:PN)(cap:Nat)(rs:Qy ah)(w0:U)(hbt:bt<M (H w0))(hc:Qp w0 (aD bt 0)=O (Z ao (N rs) cap))(hr:gJ w0 ao rs) :
  Seq bH V 131 #[Y (O (aD bt 0))] (rs.map (·.xs)) w0:=by
 intro l Jq W o L ho hJ hY h0;have ag:=(L.cell (p:=(aD bt 0)) hbt).trans hc;have v:=hr.below L;have af:=hr.1.1;obtain⟨HY,HO⟩:=aS hY ho;have HR:Qn _:=v;have G:=Zh L;have K:Qn _:=hr;clear hY ho v L hr hJ;refine(ZU (n:=0)).1 (callsIn_of_wp func131 rfl trivial ?_ rfl);simp only[ntmps131,ZZ,ZK,Z0,Nat.reduceAdd,Nat.reduceSub,Z4,Z5,Z6,Z7,Z8,Z9];gi_wp2;gi_loopw [7] (λi wr=>∃k:Nat,k<=N rs/\i=I J k/\∃u,Jq (rs.take k) u wr/\Kept (λb=>¬o b) W wr/\Qn (∀b,u b->o b∨(M (H W)<=b/\b<M (H wr))))
  (λi _=>N rs-(intOf i).toNat)
 case atStart=>exact⟨0,ZB _,rfl,o,h0,ZO _ _,λb h=>.inl h⟩
 case round=>
  obtain⟨k,hk,rfl,u,r,A,f⟩:=hrel;by_cases d:k<N rs
  .obtain⟨b,B,rfl,R⟩:=K.o.1.2.1.get d;have P:b<M (H w0):=K.o.2.1 _ rfl;have m:=G.o.trans (A.below G.o.size (λi hi h=>Qk ((HO.o i h).1)));have y:=(m.cell (p:=(aD b (B+k))) P).trans (R k d);have z:=bH.keep (K.o.2.2 k d) m.size (λb ae _=>m.block b ae);have Q:∀b,u b->M (H w0)<=b:=λb h=>by
    rcases f.o b h with h|h
    .exact(HO.o b h).1
    .have:=G.o.size;omega
   have q:∀b,bH.blk (E rs k iz)=O b->b<M (H w0):=λb h=>by obtain⟨a,ha,rfl⟩:=PZ h;exact(K.o.2.2 k d).2.1 a ha
   have HN:=Zh (rV rs iz d);have j:(rs.take k++[E rs k iz]).map bH.key <+: rs.map (·.xs):=by rw[rV rs iz d];exact List.IsPrefix.map _ (List.take_prefix _ _)
   obtain⟨fn,tmps,g,C,hy,hR⟩:=HY.o _ (E rs k iz) u wr r j z (λb h=>⟨λt=>Ql (Q b t) (q b h),.inl (q b h)⟩) A.size;generalize E rs k iz=x at*;obtain⟨zQ,mo,uu⟩:=x;have ai:(Instr.yield l #[Z zQ (N uu) mo]).run V wr=.ok (.round l fn tmps g C) wr:=hy;have aj:Qp wr (aD b (B+k))=O (Z zQ (N uu) mo):=y;clear hy y z j;gi_wp2;refine⟨rfl,hR.mono ?_⟩;rintro e W3 ⟨rfl,o2,S,D,aa⟩;gi_wp2;go_roundw
   case rel=>
    refine⟨k+1,X,Qa,o2,by rw[<-HN.o];exact S,A.trans' D ?_,?_⟩
    .intro b hb h t;rcases f.o b t with t|t
     .exact h t
     .omega
    .intro b hb;rcases aa b hb with h|h|h
     .rcases f.o b h with h|h
      .exact .inl h
      .exact .inr ⟨h.1,Qk D.size⟩
     .exact .inr ⟨Qk A.size,h.2⟩
     .have:=q b h.1;have:=G.o.size;omega
   case measure=>exact XK
  .obtain rfl:k=N rs:=X
   gi_wp2;go_end0;exact⟨⟨_,rfl⟩,rs,u,rfl,by rw[ZJ]at r;exact r,A,f.o⟩
end
def ZW:=@O6
section
def Ah(h:(pre++[x]).map bH.key <+: rows):x.xs∈rows:=by
 have a:x.xs∈(pre++[x]).map bH.key:=by simp[bH]
 exact h.subset a
def Mj(p:Qx->Bool)(h:(pre++[x]).map bH.key <+: rows)(hp:p x.xs=T) :
  (pre.filter (λr=>p r.xs)++[x]).map bH.key <+: rows.filter p:=by
 have a:=List.IsPrefix.filter p h;have b:(pre.filter (λr=>p r.xs)++[x]).map bH.key=((pre++[x]).map bH.key).filter p:=by rw[List.filter_map];congr 1;rw[List.filter_append];simp[bH,Function.comp_def,hp]
 rw[b];exact a
def oD{A B:U}{p:Addr}{v:Qm}{s:Qz}(h:A.cell? p=O v)(hk:Kept s A B)(hs:s p.block):B.cell? p=O v:=
 (ZX (hk.block _ (ZW h) hs)).trans h
attribute [local go_sem] Oper.semAt_some
def Mk(bi bk gi gk:Nat)(zF lbk:Array Qm)(rows:Qy (Qx))(p:Qx->Bool)(w0:U)(hbi:bi<M (H w0))(hbk:bk<M (H w0))
  (hci:Qp w0 (aD bi 0)=O (.func (.func gi) #[] zF)) (hck:Qp w0 (aD bk 0)=O (.func (.func gk) #[] lbk))
  (hseq:Seq bH V gi zF rows w0) (egi:∀args w,(callFunc gi args).run V w=.ok (.enter gi args) w) (egk:∀args w,(callFunc gk args).run V w=.ok (.enter gk args) w)
  (hkeep:∀W x,Bw w0 W->ah.At x W->x.xs∈rows->Calls V gk (#[x.val]++lbk) W λe W'=>e=Qv (.bool (p x.xs))/\Bw W W') :
  Seq bH V 90 #[Y (O (aD bi 0)),Y (O (aD bk 0))] (rows.filter p) w0:=by
 intro l Jq W o hW ho hJ hY h0;have ax:=(hW.cell (p:=(aD bi 0)) hbi).trans hci;obtain⟨HY,L,y,HJ,HK,aC,aF⟩:=aeh hY ho hW hJ hkeep hck hbk;have t:Bw W (W.alloc (Qt #[.func (.yield l) #[] #[]] 129)):=cZ _ _;have ay:=(t.cell (p:=(aD bi 0)) (Zy hbi y.o.size)).trans ax;have aa:Qp (W.alloc (Qt #[.func (.yield l) #[] #[]] 129)) (aD (M (H W)) 0)=O (.func (.yield l) #[] #[]):=Qa;have ae:M (H (W.alloc (Qt #[.func (.yield l) #[] #[]] 129)))=M (H W)+1:=Qa;refine(ZU (n:=0)).1 (Xb func90 rfl trivial ?_ rfl);simp only[ntmps90,ZZ,ZK,Z0,Nat.reduceAdd,Nat.reduceSub,Z4,Z5,Z6,Z7,Z8,Z9];gi_wp2;obtain⟨w1,ak⟩:=eX (W.alloc (Qt #[.func (.yield l) #[] #[]] 129));rw[ak]at t ay aa ae;rw[ak];obtain⟨H1,H2⟩:=aS ae t;refine Ag bH (gf:=gi) (lb:=zF) rfl egi hseq (y.o.trans (H2.o.mono y.o.size)) rfl
  (λg z W'=>Jq (g.filter (λr=>p r.xs)) z W'/\Kept (λb=>¬o b) W W'/\(∀b,z b->o b∨(M (H W)<=b/\b<M (H W')))/\Qp W' (aD (M (H W)) 0)=O (.func (.yield l) #[] #[])/\¬z (M (H W)))
  o ?_ ?_ ?_ (λx=>{ tmps:=#[.func (.yield l) #[] #[],Y (O (aD bi 0)),Y (O (aD bk 0)),Y (O (aD (M (H W)) 0)),x.val,.func (.func gi) #[] zF,x.val,undef,undef,undef,undef,undef,undef,undef,undef,undef],defers:=[] }) ?assign ?body ?done
 .intro b a;exact⟨(L.o b a).1,Ql ((L.o b a).2) H1.o⟩
 .rintro g z A B ⟨P,q,Q,hc,R⟩ d;have h1:=H1.o;refine⟨HJ.o _ _ _ _ P (d.mono λb _ h=>h.imp id X),q.trans' d (λb a _=>.inr X),λb h=>(Q b h).imp id (λh=>⟨h.1,Qk d.size⟩),oD hc d (.inr (by show M (H W)<_;omega)),R⟩
 .have h1:=H1.o;refine⟨HJ.o _ _ _ _ h0 (ZP H2.o λb a h=>by rcases h with h|h;exact(L.o b h).2;exact h),ZP H2.o (λb a _=>a),λb h=>.inl h,aa,λh=>Qk ((L.o _ h).2)⟩
 case assign=>
  intro l x W K hK;gi_wp2;exact hK
 case body=>
  rintro l2 g x z S ⟨P,q,Q,C,R⟩ j hx au aN;have h1:=H1.o;have af:=y.o.trans (q.below y.o.size (λi hi h=>Qk ((L.o i h).1)));have aJ:=(af.cell (p:=(aD bk 0)) aF.o).trans aC.o;have d:=HK.o S x af hx.1 (Ah j);obtain⟨HX,HF⟩:=aS hx au;have HP:Qn _:=j;have ag:(g++[x]).filter (λr=>p r.xs)=g.filter (λr=>p r.xs)++if p x.xs then [x] else []:=by rw[List.filter_append];cases hp:p x.xs <;> simp[hp]
  by_cases hp:p x.xs=T
  .rw[hp]at d;have HS:Qn ((g++[x]).filter (λr=>p r.xs)=g.filter (λr=>p r.xs)++[x]):=by rw[ag,hp];rfl
   have az:Qn _:=Mj p j hp;gi_wp2;refine⟨trivial,rfl,CallsIn.inRound l2 (ZU.2 (d.mono ?_))⟩;rintro e W3 ⟨rfl,m⟩;have f:Kept (λ_=>True) S W3:=ZP m (λb a _=>a);have u:=HJ.o _ _ _ _ P (f.mono (λ_ _ _=>trivial));have v:=oD C f trivial;obtain⟨fn,tmps,assign,body,hy,hR⟩:=HY.o _ x z W3 u az.o (bH.keep HX.o f.size (λb a _=>f.block b a trivial)) (λb h=>⟨(HF.o b h).1,(HF.o b h).2.imp id X⟩) (Ql q.size f.size);have aK:(Instr.yield l #[x.val]).run V W3=.ok (.round l fn tmps assign body) W3:=hy;obtain⟨HG,vJ,av⟩:=jX Q q m;gi_wp2;refine⟨rfl,hR.mono ?_⟩;rintro e W4 ⟨rfl,o2,aG,D,G⟩;have aL:=av.o.size;have nW:=(ZP av.o (λb a _=>a)).trans D;gi_wp2;refine⟨o2,⟨by rw[HS.o];exact aG,vJ.o.trans' nW ?_,?_,?_,?_⟩,nW,?_⟩
   .intro b a h k;rcases HG.o b k with k|k
    .exact h k
    .omega
   .intro b a;have aM:=D.size;rcases G b a with h|h|h
    .exact(HG.o b h).imp id (λh=>⟨h.1,X⟩)
    .exact .inr ⟨X,h.2⟩
    .exact .inr ⟨h.2,Qk (bH.inn HX.o h.1)⟩
   .exact oD v D R
   .intro h;rcases G _ h with h|h|h
    .exact R h
    .omega
    .rcases (HF.o _ h.1).2 with k|k
     .have:=y.o.size;omega
     .omega
   .intro b a;rcases G b a with h|h|h
    .exact .inl h
    .exact .inr (.inl ⟨X,h.2⟩)
    .refine .inr (.inr ⟨h.1,?_⟩);rcases (HF.o _ h.1).2 with k|k
     .have:=y.o.size;omega
     .exact k
  .have ai:p x.xs=false:=by simpa using hp
   rw[ai]at d;have aA:(g++[x]).filter (λr=>p r.xs)=g.filter (λr=>p r.xs):=by rw[ag,ai];simp
   have HS:=Zh aA;gi_wp2;refine⟨trivial,rfl,CallsIn.inRound l2 (ZU.2 (d.mono ?_))⟩;rintro e W3 ⟨rfl,m⟩;have f:Kept (λ_=>True) S W3:=ZP m (λb a _=>a);have u:=HJ.o _ _ _ _ P (f.mono (λ_ _ _=>trivial));have v:=oD C f trivial;obtain⟨HG,vJ,qN⟩:=jX Q q f;gi_wp2;refine⟨λ_ h=>(by cases h),?_⟩;gi_wp2;exact⟨z,⟨by rw[HS.o];exact u,vJ.o.trans (qN.o.mono λ_ _ _=>trivial),λb h=>(HG.o b h).imp id (λh=>⟨h.1,Qk qN.o.size⟩),v,R⟩,qN.o.mono (λ_ _ _=>trivial),λb h=>.inl h⟩
 case done=>
  rintro ys o' S aH ⟨P,q,Q,C,R⟩ aO aI hD;have h1:=H1.o;gi_wp2;have aB:¬o' (M (H w1)):=λh=>by
   rcases aI _ h with h|h
   .have:=(L.o _ h).2;omega
   .omega
  have aj:Kept (λb=>b≠M (H w1)) S (S.putObj (M (H w1)) (.deferred Qs)):=ZQ _ _ (λh=>h rfl);refine⟨Qa,.inl ⟨_,_,rfl,Xc hD,?_⟩⟩;refine⟨_,results_none rfl _ _ _,⟨_,rfl⟩,ys.filter (λr=>p r.xs),o',?_,HJ.o _ _ _ _ P (aj.mono λb _ h=>?_),q.trans' aj (λb a _=>X),λb h=>(Q b h).imp id (λh=>⟨h.1,by rw[World.putObj_size];omega⟩)⟩
  .rw[<-aH,List.filter_map];rfl
  .rcases h with h|h
   .intro e;exact aB (e ▸ h)
   .omega
end
def Xa:=@oD
section
theorem Kept.setCell{s:Qz}(W:U)(a:Addr)(v:Qm)(hr:¬s a.block):Kept s W (W.setCell a v):=
 ⟨rfl,rfl,rfl,by simp[World.setCell],λk _ b=>Below.heap_setCell W a v k (λe=>hr (e ▸ b))⟩
def Kept.grown{s:Qz}{A B:U}{row:Option Nat}(hg:A.grownBy B row)(hr:∀r,row=O r->¬s r):Kept s A B:=
 ⟨hg.os,hg.tape,hg.output,hg.size,λk a b=>hg.block k a (λe=>hr k e.symm b)⟩
def pI{A B:U}{base:Nat}{e:TypeId}{sz:Nat}{v:Qm}{n:Nat}{xs:Qy Qm}(h:A.ownsRow base e sz v n xs){s:Qz}(hk:Kept s A B)(hs:∀g,v.ownBlock=O g->s g):B.ownsRow base e sz v n xs:=by
 refine⟨h.1,?_⟩;rcases h.2 with h|⟨g,cap,a,rfl,d,b,f,i,j,k⟩
 .exact .inl h
 .exact .inr ⟨g,cap,a,rfl,d,(hk.block g (ZV.1 b).1 (hs g rfl)).trans b,f,i,j,k⟩
theorem mR{A:U}{base:Nat}{e:TypeId}{sz:Nat}{v:Qm}{n:Nat}{xs:Qy Qm}(h:A.ownsRow base e sz v n xs){g:Nat}(hg:v.ownBlock=O g):base<=g/\g<M (H A):=by
 rcases h.2 with⟨rfl,_⟩|⟨g',cap,cur,rfl,hb,hg',_⟩
 .cases hg
 .cases hg
  grind
def nX{A:U}{base:Nat}{e:TypeId}{sz:Nat}{v:Qm}{n:Nat}{xs:Qy Qm}(h:A.ownsRow base e sz v n xs):∃a m cap,v=Z a m cap:=by
 rcases h.2 with⟨rfl,_⟩|⟨g',cap,cur,rfl,_⟩
 .exact⟨_,_,_,rfl⟩
 .exact⟨_,_,_,rfl⟩
def oF(Ez:El ah (Qx))(n:Nat)(v:Qm)(pre:Qy ah)(b:Nat):Prop:=b=n∨v.ownBlock=O b∨(n<=b/\∃y∈pre,Ez.blk y=O b)
def Apart(Ez:El ah (Qx))(n:Nat)(ys:Qy ah):Prop:=ys.Pairwise λy z=>∀b,Ez.blk y=O b->Ez.blk z=O b->b<n
structure ik(Ez:El ah (Qx))(n0:Nat)(w:U)(e:TypeId)(pre:Qy ah)(o1:Qz)(W:U)(v:Qm):Prop where
 box:Qp W (aD (M (H w)) 0)=O v
 thaw:W.frozen? (aD (M (H w)) 0)=false
 own:W.ownsRow (M (H w)+1) e 1 v (N pre) (pre.map ah.val)
 at':∀y∈pre,Ez.At y W
 off:∀y∈pre,∀b,Ez.blk y=O b->b≠M (H w)/\v.ownBlock≠O b
 apart:Apart Ez (M (H w)) pre
 born:∀y∈pre,∀b,Ez.blk y=O b->b<n0∨M (H w)<=b
 below:Bw w W
 iff:∀b,o1 b↔oF Ez (M (H w)) v pre b
def ik.keep{Ez:El ah (Qx)}{n0:Nat}{w:U}{e:TypeId}{pre:Qy ah}{o1:Qz}{A B:U}{v:Qm}(h:ik Ez n0 w e pre o1 A v){n:Nat}(hn:M (H w)<=n)(hk:Kept (λb=>o1 b∨b<n) A B):ik Ez n0 w e pre o1 B v:=by
 have d:=(h.iff _).2 (.inl rfl);refine⟨Xa h.box hk (.inl d),(Xi (hk.block _ (ZW h.box) (.inl d))).trans h.thaw,pI h.own hk (λg j=>.inl ((h.iff _).2 (.inr (.inl j)))),λy f=>?_,h.off,h.apart,h.born,h.below.trans (hk.below h.below.size (λb i=>.inr X)),h.iff⟩;refine Ez.keep (h.at' y f) hk.size (λb i a=>hk.block b i ?_);by_cases k:b<M (H w)
 .exact .inr X
 .exact .inl ((h.iff _).2 (.inr (.inr ⟨X,y,f,a⟩)))
def ik.off'{Ez:El ah (Qx)}(h:ik Ez n0 w e pre o1 W v)(hx:∀b,Ez.blk x=O b->¬o1 b) :
  (∀b,Ez.blk x=O b->b≠M (H w)/\v.ownBlock≠O b)/\Apart Ez (M (H w)) (pre++[x]):=by
 refine⟨λb a=>⟨λe=>hx b a ((h.iff _).2 (.inl e)),λe=>hx b a ((h.iff _).2 (.inr (.inl e)))⟩,?_⟩;unfold Apart;rw[List.pairwise_append];refine⟨h.apart,List.pairwise_singleton _ _,?_⟩;intro y g z hz b a d;rw[Xj]at hz;subst hz;by_cases f:b<M (H w)
 .exact f
 .exact absurd ((h.iff _).2 (.inr (.inr ⟨X,y,g,a⟩))) (hx b d)
theorem ik.more{Ez:El ah (Qx)}{W1 W2:U}{v':Qm}(h:ik Ez n0 w e pre o1 W v)(hx:Ez.At x W)(hoff:∀b,Ez.blk x=O b->¬o1 b)(hbn:∀b,Ez.blk x=O b->b<n0∨M (H w)<=b)
  (ha:Kept (λ_=>True) W W1) (hs1:M (H W1)=M (H W)+1) (hown:W2.ownsRow (M (H w)+1) e 1 v' (N pre+1) (pre.map ah.val++[x.val])) (hg:W1.grownBy W2 v.ownBlock) (hat:v'.ownBlock=v.ownBlock∨v'.ownBlock=O (M (H W1))) (h1:v'.oneCell' = T) :
  ik Ez n0 w e (pre++[x]) (oF Ez (M (H w)) v' (pre++[x])) (Qo W2 (aD (M (H w)) 0) v') v'/\Kept (λb=>¬o1 b) W (Qo W2 (aD (M (H w)) 0) v')/\
  ∀b,oF Ez (M (H w)) v' (pre++[x]) b->o1 b∨(M (H W)<=b/\b<M (H (Qo W2 (aD (M (H w)) 0) v')))∨(Ez.blk x=O b/\M (H w)<=b):=by
 have z:M (H (Qo W2 (aD (M (H w)) 0) v'))=M (H W2):=by simp[World.setCell]
 have m:∀g,v.ownBlock=O g->M (H w)+1<=g/\g<M (H W):=λg hg=>mR h.own hg;have n:∀g,v'.ownBlock=O g->M (H w)+1<=g/\g<M (H W2):=λg hg=>mR hown hg;have j:Kept (λb=>v.ownBlock≠O b) W W2:=(ha.mono λ_ _ _=>trivial).trans (Kept.grown hg (λr e B=>B e));have i:Kept (λb=>v.ownBlock≠O b/\b≠M (H w)) W (Qo W2 (aD (M (H w)) 0) v'):=(j.mono λ_ _ h=>h.1).trans (Kept.setCell _ _ _ (λh=>h.2 rfl));obtain⟨q,t⟩:=h.off' hoff;have k:∀b,b<M (H W)->v'.ownBlock=O b->v.ownBlock=O b:=λb d e=>by grind
 have p:=Xa h.box j (λe=>Qb);refine⟨⟨?_,?_,?_,?_,?_,t,λy a=>?_,?_,λb=>Iff.rfl⟩,i.mono ?_,?_⟩
 .exact World.cell?_setCell_same' _ _ _ (by rw[p];rfl)
 .rw[World.frozen?_setCell];exact(Xi (j.block _ (ZW h.box) (λe=>Qb))).trans h.thaw
 .have:=pI hown (s:=λb=>b≠M (H w)) (Kept.setCell W2 (aD (M (H w)) 0) v' (λh=>h rfl)) (λg hg=>Qk (n g hg))
  simpa using this
 .intro y a;rcases Xk.1 a with a|a
  .exact Ez.keep (h.at' y a) i.size (λb d f=>i.block b d ⟨(h.off y a b f).2,(h.off y a b f).1⟩)
  .rw[Xj]at a;subst a;exact Ez.keep hx i.size (λb d f=>i.block b d ⟨(q b f).2,(q b f).1⟩)
 .intro y a b d;have A:b<M (H W)/\b≠M (H w)/\v.ownBlock≠O b:=by
   rcases Xk.1 a with a|a
   .exact⟨Ez.inn (h.at' y a) d,h.off y a b d⟩
   .rw[Xj]at a;subst a;exact⟨Ez.inn hx d,q b d⟩
  grind
 .rcases Xk.1 a with a|a
  .exact h.born y a
  grind
 .exact h.below.trans (i.below (Qk h.below.size) (λb d=>⟨λe=>Qk (m b e),X⟩))
 .intro b d l;exact⟨λe=>l ((h.iff _).2 (.inr (.inl e))),λe=>l ((h.iff _).2 (.inl e))⟩
 .rintro b (d|d|⟨d,y,a,f⟩)
  .exact .inl ((h.iff _).2 (.inl d))
  .by_cases u:b<M (H W)
   .exact .inl ((h.iff _).2 (.inr (.inl (k b u d))))
   grind
  .rcases Xk.1 a with a|a
   .exact .inl ((h.iff _).2 (.inr (.inr ⟨d,y,a,f⟩)))
   grind
attribute [local go_sem] Oper.semAt_some
def Tryz.Ai:(V.info? 22).map (λi=>(i.zero,i.size,i.bytes))=O (O (Z Qs 0 0),1,24):=Qd
def Ml(Ez:El ah (Qx))(henc:∀x,Ez.enc x=x.val)(g:Nat)(lb:Array Qm)(rows:Qy (Qx))(w0 w:U)(hb0:Bw w0 w)(hlen:N rows<=1000000)(hseq:Seq Ez V g lb rows w0)(eg:∀args w,(callFunc g args).run V w=.ok (.enter g args) w) :
  Calls V 30 #[.func (.func g) #[] lb] w λe w'=>∃v G o,e=Qv v/\G.map Ez.key=rows/\ik Ez (M (H w0)) w 22 G o w' v:=by
 obtain⟨i0,hi,aa,ae,af⟩:=Xl Tryz.Ai;obtain⟨HL,i⟩:=aS hlen hb0;have p:Qn (M (H (w.alloc (Qt #[Z Qs 0 0] 51)))=M (H w)+1):=by show _=_;simp
 have P:Qn (Bw w (w.alloc (Qt #[Z Qs 0 0] 51))):=cZ _ _;refine(ZU (n:=0)).1 (Xb func30 rfl trivial ?_ rfl);simp only[ntmps30,ZZ,ZK,Z0,Nat.reduceAdd,Nat.reduceSub,Z4,Z5,Z6,Z7,Z8,Z9];gi_wp2;have d:ik Ez (M (H w0)) w 22 [] (oF Ez (M (H w)) (Z Qs 0 0) []) (w.alloc (Qt #[Z Qs 0 0] 51)) (Z Qs 0 0):=
  ⟨Qa,Qa,Xm _ _ _ _,λ_ h=>by simp at h,λ_ h=>by simp at h,List.Pairwise.nil,λ_ h=>by simp at h,P.o,λ_=>Iff.rfl⟩
 obtain⟨w1,z⟩:=eX (w.alloc (Qt #[Z Qs 0 0] 51));rw[z]at d p P;rw[z];refine Ag Ez (gf:=g) (lb:=lb) rfl eg hseq (i.o.trans (P.o.mono i.o.size)) rfl
  (λk o1 W=>∃v,ik Ez (M (H w0)) w 22 k o1 W v) (oF Ez (M (H w)) (Z Qs 0 0) []) ?_ ?_ ⟨_,d⟩
  (λx=>{ tmps:=#[.func (.func g) #[] lb,undef,Z Qs 0 0,Y (O (aD (M (H w)) 0)),x.val,.func (.func g) #[] lb,x.val,undef,undef,undef,undef,undef],defers:=[] }) ?assign ?body ?done
 .rintro b (h|h|⟨_,y,S,_⟩)
  .have:=p.o;have:=i.o.size;omega
  .cases h
  .simp at S
 .rintro k o1 A B ⟨v,h⟩ hk;exact⟨v,h.keep (Qk p.o) hk⟩
 case assign=>
  intro l x W K hK;gi_wp2;exact hK
 case body=>
  rintro l k x o1 W ⟨v,d⟩ m hx C ay;have ak:N k+1<=1000000:=by have:=m.length_le;rw[ZH,ZG]at this;exact ZN this HL.o
  obtain⟨va,vn,vc,rfl⟩:=nX d.own;have hc:=d.box;have q:=d.own;obtain⟨HG,HX,HF⟩:=jX d hx C;have HP:Qn _:=m;have au:=d.below.size;have Q:=d.thaw;obtain⟨zQ,mo,uu⟩:=x;unfold ah.val;simp only;gi_wp2_with (gi_at_builtin;refine wpListIn_append_own_at _ rfl _ _ 51 rfl (M (H w)+1) 22 i0 (.slice Qs 0 0) 1 24 underlying51 hi aa ae af rfl Qc _ _ _ rfl (q.alloc _) (aD (M (H W)) 0) 1 1 [.slice zQ (N uu) mo] rfl rfl ?q1 ?q2 ?q3 ?q4 ?q5 ?_)
  case q1=>
   intro j u L
   match j,L with
   |0,L=>simp at L;subst L;simp[Addr.add]
  case q2=>intro u hu;simp at hu;subst hu;rfl
  case q3=>unfold maxLen;omega
  case q4=>omega
  case q5=>simp;omega
  intro v' w3 f a _ aj;obtain⟨P5,UJ,P6,rfl⟩:=nX f;have Mq:=HG.o.more HX.o (λb D=>(HF.o b D).1) (λb D=>(HF.o b D).2.imp id (Qk p.o)) (ZT _ _) Qa f a (by rw[Xo];exact aj) rfl;have h1:=p.o;have av:Qp w3 (aD (M (H w)) 0)=O (Z va vn vc):=by refine Xa (Xa hc (ZT (s:=λ_=>True) W _) trivial) (Kept.grown (s:=λb=>(Value.slice va vn vc).ownBlock≠O b) a (λr e hr=>hr e)) ?_;intro e;have:=(mR HG.o.own e).1;exact absurd this (by show ¬(M (H w)+1<=M (H w));omega)
  have ax:w3.frozen? (aD (M (H w)) 0)=false:=by refine(Xi (Eq.trans (a.block _ Qj ?_) (Below.heap_alloc W _ _ (by show M (H w)<_;omega)))).trans Q;intro e;have:=(mR HG.o.own e.symm).1;exact absurd this (by show ¬(M (H w)+1<=M (H w));omega)
  have HM:=Zh Mq;gi_wp2;obtain⟨m1,m2,m3⟩:=HM.o;refine⟨_,⟨_,m1⟩,m2,λb D=>?_⟩;rcases m3 b D with h|h|⟨h,h'⟩
  .exact .inl h
  .exact .inr (.inl h)
  .refine .inr (.inr ⟨h,?_⟩);rcases (HF.o b h).2 with t|t
   .have:=i.o.size;omega
   .exact t
 case done=>
  rintro G o' W2 ag ⟨v,d⟩ az ai hD;have hc:=d.box;have h1:=p.o;gi_wp2;have R:¬o' (M (H w1)):=λh=>by
   rcases ai _ h with (h|h|⟨_,y,S,_⟩)|h
   .omega
   .cases h
   .simp at S
   .omega
  refine⟨Qa,.inl ⟨_,_,rfl,Xc hD,?_⟩⟩;refine⟨_,results_tmp rfl _ _ _,v,G,o',rfl,ag,d.keep (n:=M (H w1)) X (ZQ _ _ ?_)⟩;rintro (h|h)
  .exact R h
  .omega
end
def Xd:=@Kept.setCell
def Xe:=@Kept.grown
def Xf:=@pI
def Xg:=@mR
def Xh:=@nX
def fE(rs:Qy ah):Qx:=(rs.map (·.xs)).flatten
def Aj(hk:k<N rs):fE (rs.take (k+1))=fE (rs.take k)++(E rs k iz).xs:=by unfold fE;rw[<-rV rs iz hk,Q5,List.flatten_append];simp
def Ij:N (fE (rs.take k))<=N (fE rs):=by
 have h:fE rs=fE (rs.take k)++fE (rs.drop k):=by unfold fE;rw[<-List.flatten_append,<-Q5,List.take_append_drop]
 rw[h,ZG];omega
def IntsAt.keep{A B:U}{ao:PN}{xs:Qx}(h:IntsAt A ao xs)(hb:∀a,ao=O a->a.block<M (H A)->B.heap[a.block]? = A.heap[a.block]?):IntsAt B ao xs:=⟨h.1,h.2.keep hb⟩
def Tryz.P7:Go.Shelf.Ren:=⟨fun|4=>197|n=>n,fun|22=>22|25=>3|3=>3|4=>4|9=>9|20=>20|0=>0|n=>n,fun|n=>n⟩
def Tryz.adj:Go.Proofs.Lays8.n4 V Tryz.P7:={
 mixed:=Qd
 f4:=⟨Tryz.f197.name,Qc,func197.trans (congrArg O Qd)⟩
 t0:=underlying0
 a0:=isAgg0
 z0:=sizeOf0
 v0:=zeroValue0
 t3:=underlying3
 a3:=isAgg3
 z3:=sizeOf3
 v3:=zeroValue3
 t4:=underlying4
 a4:=isAgg4
 z4:=sizeOf4
 v4:=zeroValue4
 t9:=underlying9
 a9:=isAgg9
 z9:=sizeOf9
 v9:=zeroValue9
 t20:=underlying20
 a20:=isAgg20
 z20:=sizeOf20
 v20:=zeroValue20
 t22:=underlying22
 a22:=isAgg22
 z22:=sizeOf22
 v22:=zeroValue22 }
def Tryz.kE:(V.info? 3).map (λi=>(i.zero,i.size,i.bytes))=O (O (I J 0),1,8):=Qd
def Vx(n:Nat)(w:U)(hn:n<=1000000) :
  Calls V 197 #[Z Qs 0 0,I J n] w λe w'=>∃v,e=Qv v/\w'.ownsRow (M (H w)) 3 1 v 0 []/\Bw w w':=by
 obtain⟨i,j,b,d,f⟩:=Xl Tryz.kE;by_cases k:n=0
 .subst k;have h:=Any8.slices_Grow_room Tryz.adj Qs 0 0 0 w (Za _) X X X;change Calls V 197 _ _ _ at h;refine h.mono ?_;rintro e w' ⟨rfl,rfl⟩;exact⟨_,rfl,Xm _ _ _ _,Q9 _ _⟩
 .have h:=Any8.slices_Grow_grow Tryz.adj i (I J 0) j b (by rw[d];decide) Qs 0 0 n [] w (Za _) X (by rw[f];omega) X Qa (λ_=>rfl) (λa e=>by cases e);change Calls V 197 _ _ _ at h;refine h.mono ?_;rintro e w' ⟨rfl,rfl⟩;refine⟨_,rfl,⟨Qa,.inr ⟨M (H w),_,_,rfl,Za _,lT w.drew _,ZB _,?_,?_,Qa⟩⟩,?_⟩
  .exact grownCap_le_maxLen _ _ _ _ Qh
  .have g:=grownCap_ge w (0+n) 0 3;have hz:(Value.int J 0).cells.size=1:=rfl;simp only[Array.size_append,size_zeroCells,hz,ZZ,Z0]
   show 0+(0+n-0)*1+(grownCap w (0+n) 0 3-(0+n))*1=grownCap w (0+n) 0 3*1;omega
  .exact(Q9 _ w).drew.alloc (Za _) _
def Mm(ao:PN)(cap:Nat)(rs:Qy ah)(w:U)(hr:uk w ao rs)(hn:N rs<=1000)(hnil:∀i,i<N rs->(E rs i iz).ad=Qs->(E rs i iz).cap=0)(ht:N (fE rs)<=100000) :
  Calls V 173 #[Z ao (N rs) cap] w λe w'=>∃v,e=Qv v/\w'.ownsRow (M (H w)) 3 1 v (N (fE rs)) ((fE rs).map (Value.int J))/\Bw w w':=by
 obtain⟨i0,hi,aj,ak,au⟩:=Xl Tryz.kE;have HR:Qn _:=hr;obtain⟨HN,HT⟩:=aS hnil ht;clear hr hnil ht;go_enter func173,ntmps173;go_wp2;go_loopw [3,11] (λs i wr=>∃k:Nat,k<=N rs/\i=I J k/\s=I J (N (fE (rs.take k)))/\w=wr) (λ_ i _=>N rs-(intOf i).toNat)
 case atStart=>exact⟨0,ZB _,rfl,rfl,rfl⟩
 case round=>
  obtain⟨k,hk,rfl,rfl,rfl⟩:=hrel;by_cases f:k<N rs
  .obtain⟨b,y,rfl,q⟩:=HR.o.2.1.get f;have p:=q k f;have t:N (fE (rs.take (k+1)))<=100000:=ZN Ij HT.o;have z:N (fE (rs.take (k+1)))=N (fE (rs.take k))+(E rs k iz).xs.length:=by rw[Aj f,ZG]
   have HS:=Zh z;generalize E rs k iz=x at*;obtain⟨zQ,mo,g⟩:=x;have P8:Qp w (aD b (y+k))=O (Z zQ (N g) mo):=p;have hw:wrap64 ((N (fE (rs.take k)):Int)+(N g:Int))=((N (fE (rs.take k))+N g:Nat):Int):=by simp only at z;unfold wrap64;omega
   have ay:¬(((N (fE (rs.take k))+N g:Nat):Int)<0):=X;have aa:=Zh hw;clear p q t z;generalize N (fE (rs.take k))=a at*;go_wp2;go_roundw
   case rel=>exact⟨k+1,X,Qe,by rw[HS.o];exact congrArg (Value.int J) aa.o,trivial⟩
   case measure=>exact XK
  .have A:k=N rs:=X
   subst A;rw[ZJ];have ht:=HT.o;generalize W:fE rs=fl at*;have HF:=Zh W;clear W;go_wp2_with fail;refine(Vx (N fl) w X).mono ?_;rintro e w2 ⟨v0,rfl,D,av⟩;go_wp2;go_loopw [6,27] (λv i wr=>∃k:Nat,k<=N rs/\i=I J k/\wr.ownsRow (M (H w)) 3 1 v (N (fE (rs.take k))) ((fE (rs.take k)).map (Value.int J))/\Bw w wr) (λ_ i _=>N rs-(intOf i).toNat)
   case atStart=>exact⟨0,ZB _,rfl,D,av⟩
   case round=>
    obtain⟨k,hk,rfl,d,n⟩:=hrel;by_cases f:k<N rs
    .obtain⟨b,y,rfl,q⟩:=HR.o.2.1.get f;have p:=(cB n (q k f))
     have G:(E rs k iz).At wr:=Q8 n (HR.o.2.2 k f);have K:=HN.o k f;have t:N (fE (rs.take (k+1)))<=100000:=by have h1:N (fE (rs.take (k+1)))<=N (fE rs):=Ij;rw[HF.o]at h1;omega
     have B:=Aj f;have L:=Zh B;rw[B,ZG]at t;generalize E rs k iz=x at*;obtain⟨zQ,mo,g⟩:=x;simp only at K t;have P8:Qp wr (aD b (y+k))=O (Z zQ (N g) mo):=p;have HA:Qn _:=G;clear p q B G;generalize fE (rs.take k)=fk at*;have P:=n.size
     cases zQ with
     |none =>
      have ae:g=[]:=by
       cases g with
       |nil=>rfl
       |cons a l=>obtain⟨b,y,e,_⟩:=HA.o.2 0 Qa;cases e
      subst ae;obtain rfl:=K rfl;go_wp2_with (first|(at_builtin;refine wpList_append_own_none rfl _ _ 22 rfl (M (H w)) 3 i0 1 underlying22 hi _ _ _ rfl d rfl ?_));go_wp2;go_roundw
      case rel=>exact⟨k+1,X,Qe,by rw[L.o];simpa using d,n⟩
      case measure=>exact XK
     |some xa =>
      have af:=Zh (by  simp:N (g.map (Value.int J))=N g*1)
      have HQ:Qn (∀j u,(g.map (Value.int J))[j]? = O u->wr.cell? (xa.add j)=O u):=by
       intro j u S;have C:j<N g:=by have:=(Xr.1 S).1;simpa using this
       obtain⟨b2,R,e2,ax⟩:=HA.o.2 j C;cases e2;rw[Xt,Xu C]at S;cases S;have Q:=ax;simp only[List.getD,Xu C,Option.getD_some]at Q;have ha:((aD b2 R):Addr).add j=(aD b2 (R+j)):=by
        unfold Addr.add;split
        .simp_all
        .rfl
       rw[ha];exact Q
      have ag:Qn (∀u∈g.map (Value.int J),u.oneCell' = T):=by intro u hu;obtain⟨a,_,rfl⟩:=ZL.1 hu;rfl
      go_wp2_with (first|(at_builtin;refine wpList_append_own _ rfl _ _ 22 rfl (M (H w)) 3 i0 (.int J 0) 1 8 underlying22 hi aj ak au rfl Qc _ _ _ rfl d xa (N g) mo (g.map (Value.int J)) rfl af.o HQ.o ag.o Qh X P ?_));intro v' w1 r m _;have ai:=n.grown m P (λj S=>(d.lt j S).1);have HO:Qn _:=r;clear r m d;go_wp2;go_roundw
      case rel=>exact⟨k+1,X,Qe,by rw[L.o,ZG,Q5];exact HO.o,ai⟩
      case measure=>exact XK
    .have A:k=N rs:=X
     subst A;rw[ZJ,HF.o]at d;go_wp2;go_ret;refine⟨_,rfl,?_,n⟩;rw[HF.o];exact d
section
theorem kF{base:Nat}{xs:Qx}(h:w.ownsRow base e 1 v n (xs.map (Value.int J)))(hl:N xs<=1152921504606846976) :
  ∃iv:ah,v=iv.val/\iv.xs=xs/\bH.At iv w/\∀b,bH.blk iv=O b->base<=b:=by
 have l:N xs=n:=by have:=h.1;simpa using this
 rcases h.2 with⟨rfl,h0⟩|⟨g,cap,cur,rfl,d,hh,_,_,hcs,ht⟩
 .have:xs=[]:=Zk X;subst this;exact⟨⟨Qs,0,[]⟩,rfl,rfl,⟨⟨Qa,λi j=>absurd j Qa⟩,(λa k=>by cases k),λ_=>rfl⟩,λb d=>by cases d⟩
 .refine⟨⟨O (aD g 0),cap,xs⟩,by rw[<-l];rfl,rfl,⟨⟨hl,λi j=>⟨g,0,rfl,?_⟩⟩,λa k=>?_,λe=>by cases e⟩,λb f=>?_⟩
  .have p:(cur.toList.take (n*1))[i]? = O (Value.int J (E xs i 0)):=by grind
   have m:cur[i]? = O (Value.int J (E xs i 0)):=by grind
   simp only[World.cell?,hh];simpa using m
  .grind
  .cases f;exact d
attribute [local go_sem] Oper.semAt_some
end
def I4(w:U)(d:PN)(db:Qy dB):Prop:=Mh w d db/\∀i,i<N db->gJ w (E db i rz).ad (E db i rz).rs
def zD(v:Int):Bool:=decide (v=1073741824) ||(decide (-1000<=v)&&decide (v<=1000))
def ES(xs:Qx)(n:Int):Bool:=decide ((N xs:Int)=n)&&xs.all zD
def Mi(rs:Qy ah)(n:Int):Bool:=rs.all λr=>ES r.xs n
def Ad(d:dB)(t:af):Bool:=decide (N d.rs<=50)&&Mi d.rs t.aL
def Lf(ts:Qy af)(db:Qy dB):Bool:=(List.range (N db)).all λi=>Ad (E db i rz) (E ts i tz)
def mQ(src:Qx)(db:Qy dB):Nat:=src.foldl (λn t=>n*max 1 (E db t.toNat rz).rs.length) 1
def O4(ts:Qy af)(src:Qx)(db:Qy dB):Bool:=decide (N db=N ts)&&Lf ts db&&decide (mQ src db<=20000)
theorem Ig{p:α->Bool}{l:List α}{d:α}(hk:k<N l)(h:p (E l k d)=false):l.all p=false:=by grind
theorem DI{p:α->Bool}{l:List α}{d:α}(hk:k<N l)(hp:(l.take k).all p=T)(h:p (E l k d)=T):(l.take (k+1)).all p=true:=by grind [List.take_succ_eq_append_getElem]
theorem CP(hk:k<n)(h:p k=false):(List.range n).all p=false:=by grind
theorem Ae(hp:(List.range k).all p=T)(h:p k=T):(List.range (k+1)).all p=true:=by grind
def Af{db:Qy dB}(hk:k<N src):mQ (src.take (k+1)) db=mQ (src.take k) db*max 1 (E db src[k].toNat rz).rs.length:=by unfold mQ;rw[Q4 hk,ZM];rfl
def O5{db:Qy dB}(h:Lf ts db=T)(i:Nat):(E db i rz).rs.length<=50:=by
 by_cases a:i<N db
 .unfold Lf at h;rw[Q7]at h;have:=h i Qf;unfold Ad at this
  simp_all
 .have:E db i rz=rz:=Qf
  rw[this];decide
theorem Vu{db:Qy dB}(h:Lf ts db=T):mQ src db<=50 ^ (N src):=by
 unfold mQ;have d:∀(l:Qx) (n:Nat),l.foldl (λn t=>n*max 1 (E db t.toNat rz).rs.length) n<=n*50 ^ (N l):=by
  intro l
  induction l with
  |nil=>intro n;simp
  |cons a l ih =>
   intro n;refine ZN (ih _) ?_;have e:=O5 h a.toNat;have b:max 1 (E db a.toNat rz).rs.length<=50:=X;rw[ZK,Nat.pow_succ,Nat.mul_comm (50 ^ (N l)) 50,<-Nat.mul_assoc];exact Nat.mul_le_mul_right _ (Nat.mul_le_mul_left _ b)
 grind
def Ih{db:Qy dB}(h:Lf ts db=T)(hs:N src<=5):mQ src db<=312500000:=by have a:=Vu (src:=src) h;have b:(50:Nat) ^ (N src)<=50 ^ 5:=ZA Qc hs;omega
theorem tN{db:Qy dB}(h:Lf ts db=T)(hs:N src<=5)(k:Nat):mQ (src.take k) db<=312500000:=
 Ih h Qb
section
variable {α β:Type} {lt:α->α->Bool} {lt':β->β->Bool} {f:α->β}
end
def yS(xs aL:Qx):Qx:=aL.map λc=>E xs c.toNat 0
def PY(s v:Int):Int:=if v=1073741824 then s else if s=1073741824 then v else s+v
def oC(ss row aL:Qx):Qx:=List.zipWith (λs c=>PY s (E row c.toNat 0)) ss aL
def mI{ss row aL:Qx}(h:N ss=N aL):N (oC ss row aL)=N aL:=by simp[oC,h]
structure Gr where
 key:Qx
 cnt:Nat
 ss:Qx
def aiv(row sc:Qx)(g:Gr):Gr:=⟨g.key,g.cnt+1,oC g.ss row sc⟩
def an5(key:Qx)(n:Nat):Gr:=⟨key,0,List.replicate n 1073741824⟩
def aiw(ks:Qy (Qx))(key:Qx):Option Nat:=ks.findIdx? (λk=>decide (k=key))
def stepG(kc sc:Qx)(gs:Qy Gr)(row:Qx):Qy Gr:=
 match aiw (gs.map Gr.key) (yS row kc) with
 |some i=>gs.modify i (aiv row sc)
 |none=>gs++[aiv row sc (an5 (yS row kc) (N sc))]
section
def gJ.keep{A B:U}{ao:PN}{rs:Qy ah}(h:gJ A ao rs)(hs:M (H A)<=M (H B))(h1:∀a,ao=O a->B.heap[a.block]? = A.heap[a.block]?)(h2:∀i,i<N rs->∀b,bH.blk (E rs i iz)=O b->B.heap[b]? = A.heap[b]?):gJ B ao rs:=by have d:∀i,i<N rs->bH.At (E rs i iz) B:=λi e=>bH.keep (h.2.2 i e) hs (λb _ g=>h2 i e b g);exact⟨⟨h.1.1,h.1.2.1.keep (λa f _=>h1 a f),λi e=>(d i e).1⟩,λa f=>Zy (h.2.1 a f) hs,d⟩
attribute [local go_sem] Oper.semAt_some
end
def qV(e:TypeId):El ah (Qx) where
 enc:=ah.val
 At x W:=bH.At x W/\W.ownsRow 0 e 1 x.val (N x.xs) (x.xs.map (Value.int J))
 blk:=bH.blk
 key:=ah.xs
 keep:=by
  rintro x A B ⟨h,ho⟩ hs hb;refine⟨bH.keep h hs hb,ho.1,?_⟩;rcases ho.2 with h|⟨g,cap,cur,hv,hb',hg,h1,h2,h3,h4⟩
  .exact .inl h
  .refine .inr ⟨g,cap,cur,hv,hb',(hb g (ZV.1 hg).1 ?_).trans hg,h1,h2,h3,h4⟩;have:x.ad=O (aD g 0):=by have h:=hv;unfold ah.val at h;injection h
   show Option.map _ x.ad=_;rw[this];rfl
 inn:=λh hb=>bH.inn h.1 hb
def gK(vals:Qx)(k:Nat):Array Value:=((vals.take k).map (Value.int J)++List.replicate (N vals-k) (Value.int J 0)).toArray
def Ik(vals:Qx)(hk:k<N vals):(gK vals k).setIfInBounds k (I J (E vals k 0))=gK vals (k+1):=by unfold gK;rw[Zn];congr 1;have a:N ((vals.take k).map (Value.int J))=k:=Qj;have b:N vals-k=(N vals-(k+1))+1:=X;rw[List.set_append_right _ _ X,a,Nat.sub_self,b,List.replicate_succ,QX,<-rV vals 0 hk];simp
def Il(vals:Qx):gK vals (N vals)=(vals.map (Value.int J)).toArray:=by simp[gK]
def ET(vals:Qx):madeCells #[I J 0] (N vals)=gK vals 0:=by rw[tK];simp[gK]
def Vy(x c:ah)(w:U)(hx:x.At w)(hc:c.At w)(ha:bP c.xs (N x.xs)=T)(hl:N c.xs<=1000) :
  Calls V 143 #[x.val,c.val] w λe w'=>e=Qv (Z (O (aD (M (H w)) 0)) (N c.xs) (N c.xs))/\w' = w.alloc (Qt ((yS x.xs c.xs).map (Value.int J)).toArray 3):=by
 obtain⟨zQ,mo,xs⟩:=x;obtain⟨R,Mo,cs⟩:=c;unfold ah.val;simp only at ha hl;have p:=run_make_row' (P:=V) 22 3 (.int J 0) 8 underlying22 Tryz.kE rfl J J (N cs) X X;have b:N (yS xs cs)=N cs:=by simp[yS]
 have d:=ET (yS xs cs);rw[b]at d;rw[d]at p;have D:Qn _:=hx;have G:Qn _:=hc;obtain⟨S,W⟩:=aS ha b;have q:=hx.1;simp only at q;clear hx hc ha d;generalize n:yS xs cs=vals at*;have r:=Zh n;clear n;have t:=W.o;clear b;simp only;go_enter func143,ntmps143;go_wp2;go_loopw [13] (λi wr=>∃k:Nat,k<=N cs/\i=I J k/\w.alloc (Qt (gK vals k) 3)=wr) (λi _=>N cs-(intOf i).toNat)
 case atStart=>exact⟨0,ZB _,rfl,rfl⟩
 case round=>
  obtain⟨k,hk,rfl,rfl⟩:=hrel;by_cases a:k<N cs
  .obtain⟨cb,aa,rfl,m⟩:=G.o.get a;have u:=cB (cZ w (Qt (gK vals k) 3)) (m k a);have K:=mi S.o a;have g:E cs k 0=cs[k]:=by simp[List.getD,a]
   rw[g]at u;have j:E vals k 0=E xs cs[k].toNat 0:=by rw[<-r.o];simp[yS,List.getD,a]
   have f:cs[k].toNat<N xs:=X;obtain⟨xb,ae,rfl,B⟩:=D.o.get f;have l:=cB (cZ w (Qt (gK vals k) 3)) (B _ f);rw[<-j]at l;have v:=CG w (gK vals k) 3 k (I J (E vals k 0));rw[Ik vals X]at v;have y:((cs[k].toNat:Nat):Int)=cs[k]:=X;have z:Qp (w.alloc (Qt (gK vals k) 3)) (aD (M (H w)) k)=O (I J 0):=by
    have:(gK vals k)[k]? = O (I J 0):=by have L:N ((vals.take k).map (Value.int J))=k:=Qj;unfold gK;rw[List.getElem?_toArray,List.getElem?_append_right X,L,Nat.sub_self,List.getElem?_replicate,Zb X]
    simp[this]
   generalize E vals k 0=vk at*;generalize Vz:cs[k]=ck at*;clear g j B m Vz;obtain⟨C,rfl⟩:∃C:Nat,ck=(C:Int):=⟨ck.toNat,X⟩;simp only[Xv]at f l;clear y;go_wp2;go_roundw
   case rel=>exact⟨k+1,X,Qe,by first|rfl|trivial|assumption⟩
   case measure=>exact XK
  .have A:k=N cs:=X
   subst A;have Q:gK vals (N cs)=(vals.map (Value.int J)).toArray:=by rw[<-t];exact Il vals
   rw[Q];go_wp2;go_ret;exact⟨rfl,rfl⟩
