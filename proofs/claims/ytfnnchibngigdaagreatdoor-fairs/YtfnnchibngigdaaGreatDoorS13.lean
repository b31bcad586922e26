import Derived.Test.YtfnnchibngigdaaGreatDoorS07
set_option linter.all false
set_option maxRecDepth 100000
set_option maxHeartbeats 0
namespace Go.Proofs.Zz
open Go.RowKit Go.Shelf Go.Proofs.Tryz
open List renaming length->N,getD->E
open Go.Value renaming int->I,bool->Qo
open Option renaming some->O,none->Qp
open Go.IntKind renaming i64->J
open Bool renaming false->F,true->T
open Go renaming World->U
open Go.World renaming heap->H
open _root_.Array renaming size->M
open Go.RowKit renaming Hid->Qk
variable {pl:Qu ag} {i m:Nat} {n:ag}
section
variable {α κ:Type} (Eq:El α κ)
def UC(P:Program)(g:Nat)(s:Value)(rows:List κ)(w0:U):Prop:=
 ∀(l:Nat) (Jq:List α->(Qv)->U->Prop) (W:U) (o:Qv),
  Bw w0 W->(∀b,o b->M (H w0)<=b/\b<M (H W))->
  (∀pre o1 A B,Jq pre o1 A->Kept (λb=>o1 b∨b<M (H W)) A B->Jq pre o1 B)->
  (∀pre x o1 W1,Jq pre o1 W1->(pre++[x]).map Eq.key <+: rows->Eq.At x W1->(∀b,Eq.blk x=O b->¬o1 b/\(b<M (H w0)∨M (H W)<=b))->M (H W)<=M (H W1)->
   YieldAt Fence.wide 0 P l #[Eq.enc x] W1 λe W'=>e=.returned (Qo T)/\∃o2,Jq (pre++[x]) o2 W'/\Kept (λb=>¬o1 b) W1 W'/\
    ∀b,o2 b->o1 b∨(M (H W1)<=b/\b<M (H W'))∨(Eq.blk x=O b/\M (H W)<=b))->
  Jq [] o W->
  Calls P g #[s,.func (.yield l) #[] #[]] W λe W'=>(∃v,e=.returned v)/\∃ys o',ys.map Eq.key=rows/\Jq ys o' W'/\Kept (λb=>¬o b) W W'/\
   ∀b,o' b->o b∨(M (H W)<=b/\b<M (H W'))
theorem yE{P:Program}{g:Operand}{ps:Array Tmp}{assign body:Code}{Q:Exit->Act->U->Prop}{a:Act}{w:U}
  {gf:Nat} {s:Value} (hg:a.eval g=.func (.func gf) #[s] #[]) (eg:∀args w,(callFunc gf args).run P w=.ok (.enter gf args) w)
  {rows:List κ} {w0:U} (hseq:UC Eq P gf s rows w0) (hb0:Bw w0 w) (hps:ps.size=1)
  (Iq:List α->(Qv)->U->Prop) (o:Qv) (ho:∀b,o b->M (H w0)<=b/\b<M (H w))
  (hI:∀d i A B,Iq d i A->Kept (λb=>i b∨b<M (H w)) A B->Iq d i B) (h0:Iq [] o w) (a₁:α->Act)
  (hassign:∀(l:Nat) (x:α) (W:U) (K:Act->U->Prop),K (a₁ x) W->
   assign.wpIn (Fence.wide.inRound l) 0 P (Exit.then K (λ_ _ _=>False)) { tmps:=(ps.zip #[Eq.enc x]).foldl (λt (p,v)=>t.setIfInBounds p v) a.tmps,defers:=[] } W)
  (hbody:∀(l:Nat) (d:List α) (x:α) (i:Qv) (W:U),Iq d i W->(d++[x]).map Eq.key <+: rows->Eq.At x W->
   (∀b,Eq.blk x=O b->¬i b/\(b<M (H w0)∨M (H w)<=b))->M (H w)+2<=M (H W)->
   body.wpIn (Fence.wide.inRound l) 0 P (oN Eq Iq d x (M (H w)) i W) (a₁ x) W)
  (hdone:∀(ys:List α) (L:Qv) (W:U),ys.map Eq.key=rows->Iq ys L W->Kept (λb=>¬o b) w W->(∀b,L b->(o b∨(M (H w)+2<=b/\b<M (H W))))->
   W.heap[M (H w)]? = O (.deferred (O []))->Q .normal { a with defers:={ target:=.collected (M (H w)),args:=#[] } :: a.defers } W) :
  (Code.rangeFunc g ps assign body).wpIn Fence.wide 0 P Q a w:=by
 refine wpIn_rangeFunc ?_;intro fn aG;obtain⟨k,f⟩:=eY (λst pe=>{ state:=st,pending:=pe,fn,tmps:=a.tmps,params:=ps,assign,body,defers:=M (H w) }:LoopState->Option Code->Loop);obtain⟨D,q⟩:=eX ((w.alloc (.deferred (O []))).alloc (.loop (k .ready Qp)));have aI:M (H D)=M (H w)+2:=by rw[<-q];simp
 have aj:D.heap[M (H w)+1]? = O (.loop (k .ready Qp)):=by rw[<-q];have:=World.alloc_heap_new (w.alloc (.deferred (O []))) (.loop (k .ready Qp));simp_all
 have ak:D.heap[M (H w)]? = O (.deferred (O [])):=by rw[<-q];exact(Below.heap_alloc _ _ _ Qb).trans (World.alloc_heap_new w _)
 have G:∀s,Kept s w D:=λs=>by rw[<-q];exact(Kept.alloc _ _).trans (Kept.alloc _ _)
 have au:=hb0.trans ((G (λ_=>True)).below hb0.size (λ_ _=>trivial));refine⟨M (H w)+1,[{ target:=.collected (M (H w)),args:=#[] }],D,{ target:=.fn (.func gf) #[],args:=#[s,.func (.yield (M (H w)+1)) #[] #[]] },D,gf,
  #[s,.func (.yield (M (H w)+1)) #[] #[]],D,?_,?_,?_,?_,λh=>by simp[Fence.wide]at h,?_⟩
 .rw[<-q,f];exact run_enterLoop_outer _ _ _ _ _
 .simp only[resolve,hg];simp[go_sem]
 .intro f' _;trivial
 .simp[invoke,go_sem,eg]
 .refine callsIn_wide.2 ((hseq (M (H w)+1)
   (λd L W=>∃i,Iq d i W/\(∀b,L b↔i b∨b=M (H w)∨b=M (H w)+1)/\¬i (M (H w))/\¬i (M (H w)+1)/\
    W.heap[M (H w)+1]? = O (.loop (k .ready Qp))/\W.heap[M (H w)]? = O (.deferred (O [])))
   D (λb=>o b∨b=M (H w)∨b=M (H w)+1) au ?_ ?_ ?_ ?_).mono ?_)
  .rintro b (r|rfl|rfl)
   .grind
   .exact⟨hb0.size,X⟩
   .exact⟨Qj hb0.size,X⟩
  .rintro d L A B ⟨i,hi,j,hn,y,z,hd⟩ hk;have av:=(ZI.1 z).1;have ax:=(ZI.1 hd).1;refine⟨i,hI d i A B hi (hk.mono λb _ r=>?_),j,hn,y,(hk.block _ av (.inl ((j _).2 (.inr (.inr rfl))))).trans z,(hk.block _ ax (.inl ((j _).2 (.inr (.inl rfl))))).trans hd⟩
   grind
  .rintro d x L W ⟨i,hi,j,hn,y,z,hd⟩ ai hx u aK;have aa:=(ZI.1 z).1;have ae:M (H w)<M (H W):=X
   have hy:=run_yield (P:=P) (args:=#[Eq.enc x]) z Qg;rw[f]at hy;refine⟨fn,_,assign,body,hy,roundIn_of_wpIn aG (hassign _ x W _ ⟨_,run_beginRound z (by rw[f]),?_⟩)⟩;obtain⟨S,C⟩:=eX (W.putObj (M (H w)+1) (.loop { k .ready Qp with state:=.busy }));have m:Kept (λb=>b≠M (H w)+1) W S:=by rw[<-C];exact Kept.putObj _ _ (λh=>h rfl)
   have af:S.heap[M (H w)+1]? = O (.loop { k .ready Qp with state:=.busy }):=by rw[<-C];exact World.putObj_heap_same aa
   have ay:=(m.block _ ae X).trans hd;have aJ:M (H S)=M (H W):=by rw[<-C];simp
   have az:=hI d i W S hi (m.mono λb _ r=>by
    grind)
   have aA:=Eq.keep hx m.size (λb r aH=>m.block b r (λe=>(u b aH).1 ((j b).2 (.inr (.inr e)))));rw[C];rw[f]at af;refine wpIn_mono (hbody _ d x i S az ai aA (λb r=>⟨λh=>(u b r).1 ((j b).2 (.inl h)),(u b r).2.imp id X⟩) X) ?_;rintro e a3 W3 hp
   cases e with
   |normal =>
    obtain⟨o2,aC,R,aD⟩:=hp;have ag:W3.heap[M (H w)+1]? = O (.loop { state:=.busy,pending:=Qp,fn,tmps:=a.tmps,params:=ps,assign,body,defers:=M (H w) }):=(R.block _ X y).trans af;have ah:=(ZI.1 ag).1;have aB:=(R.block _ X hn).trans ay;have n:∀b,b=M (H w)∨b=M (H w)+1->¬o2 b:=λb r h=>by grind
    refine⟨_,_,run_endRound Qp ag,rfl,λb=>o2 b∨b=M (H w)∨b=M (H w)+1,⟨o2,hI _ o2 W3 _ aC (Kept.putObj _ _ ?_),λb=>Iff.rfl,n _ (.inl rfl),n _ (.inr rfl),?_,?_⟩,?_,?_⟩
    .simp_all
    .rw[World.putObj_heap_same ah,f];rfl
    .exact(World.putObj_heap_other X).trans aB
    .refine((m.mono ?_).trans' (R.mono ?_) (λ_ _ h=>h)).trans (Kept.putObj _ _ ?_)
     .simp_all
     .simp_all
     simp_all
    .rintro b (h|h)
     .rcases aD b h with h|h|h
      .simp_all
      .simp_all
      grind
     simp_all
   |ret=>exact hp.elim
   |exit id=>exact hp.elim
   |goto t=>exact hp.elim
   |panic ch=>exact hp.elim
   |outgrown=>exact hp.elim
  .have n:∀b,b=M (H w)∨b=M (H w)+1->¬o b:=λb r h=>Qc
   exact⟨o,hI _ _ _ _ h0 (G _),λ_=>Iff.rfl,n _ (.inl rfl),n _ (.inr rfl),aj,ak⟩
  .rintro e S ⟨⟨v,rfl⟩,ys,L,aF,⟨i,hi,j,hn,y,z,hd⟩,hk,hg⟩;have aa:=(ZI.1 z).1;refine⟨Qp,_,by have:=run_endLoop (P:=P) z Qg;rw[f]at this;exact this,hdone ys i _ aF (hI _ _ _ _ hi (Kept.putObj _ _ ?_)) ?_ ?_ ((World.putObj_heap_other X).trans hd)⟩
   .simp_all
   .refine(Kept.trans' (G _) (hk.mono λb _ h=>h) ?_).trans (Kept.putObj _ _ ?_) |>.mono (s:=λb=>¬o b/\b<M (H w)) ?_
    .grind
    .omega
    simp_all
   .intro b r;rcases hg b ((j b).2 (.inl r)) with (h|h|h)|h
    .exact .inl h
    .simp_all
    .simp_all
    simp_all
def kT:El Nat Nat where
 enc k:=I J (k:Int)
 At _ _:=True
 blk _:=Qp
 key k:=k
 keep:=λ_ _ _=>trivial
 inn:=λ_ h=>by cases h
end
def pG(pl:Qu ag)(i j:Nat):Nat:=aX i λm=>(inpN pl m).count j
def yz(pl:Qu ag)(i j:Nat):pG pl (i+1) j=pG pl i j+(inpN pl i).count j:=ZW _ _
theorem MM(pl:Qu ag)(i:Nat):N (inpN pl i)<=2:=by unfold inpN;grind
def Ej(pl:Qu ag)(j:Nat):∀i,pG pl i j<=2*i
 |0=>by simp[pG,aX]
 |i+1=>by rw[yz];have h1:=Ej pl j i;have h2:(inpN pl i).count j<=N (inpN pl i):=List.count_le_length;have h3:=MM pl i;omega
def jH(k:Int):arity k<=2:=by unfold arity;split <;> (try split) <;> omega
def jm(n:ag)(i:Nat):Bool:=(aB n).all λx=>decide (0<=x)&&decide (x<(i:Int))
def GZ(n:ag)(i:Nat):bR n i=(decide (1<=n.kind)&&decide (n.kind<=10)&&l8 n&&jm n i):=by
 unfold bR jm aB;have b:=jH n.kind;generalize arity n.kind=a at*;rw[Bool.and_assoc];congr 1
 match a,b with
 |0,_=>simp
 |1,_=>simp
 |2,_=>simp
def PD(h:jm (E pl i nz) i=T):inpN pl i=(aB (E pl i nz)).map Int.toNat:=by
 unfold jm aB at h;unfold inpN aB;simp only;have b:=jH (E pl i nz).kind;generalize arity (E pl i nz).kind=a at*
 match a,b with
 |0,_=>simp
 |1,_ =>
  simp at h;simp[h]
 |2,_ =>
  simp at h;simp[h]
def qP(pl:Qu ag)(i m j:Nat):Nat:=pG pl i j+(((aB (E pl i nz)).take m).map Int.toNat).count j
theorem G5(pl:Qu ag)(i:Nat)(hm:m<N (aB (E pl i nz)))(j:Nat):qP pl i (m+1) j=qP pl i m j+if j=(E (aB (E pl i nz)) m 0).toNat then 1 else 0:=by
 unfold qP;generalize aB (E pl i nz)=L at*;have e:E L m 0=L[m]:=by simp[List.getD,hm]
 rw[QZ hm,Q0,List.count_append,e];grind
def G7(pl:Qu ag)(i j:Nat):qP pl i 0 j=pG pl i j:=by unfold qP;simp
def Ke(h:jm (E pl i nz) i=T)(j:Nat):qP pl i (N (aB (E pl i nz))) j=pG pl (i+1) j:=by unfold qP;rw[ZV,yz,PD h]
def jX(n:ag):N (aB n)<=2:=by unfold aB;rw[Xu];simp;omega
theorem G9(hm:m<N (aB n))(h:E (aB n) m 0<0∨(i:Int)<=E (aB n) m 0):jm n i=false:=by unfold jm;rw[List.all_eq_false];refine⟨_,dB hm (d:=0),?_⟩;grind
theorem Ha{n:ag}{i:Nat}(h:∀m,m<N (aB n)->0<=E (aB n) m 0/\E (aB n) m 0<(i:Int)):jm n i=true:=by unfold jm;rw[Q4];intro x a;obtain⟨m,b,rfl⟩:=Q9 a;grind
theorem Kg{pl:Qu ag}{k:Nat}(hk:k<N pl)(h:bR (E pl k nz) k=F):bg pl=false:=by unfold bg;grind
theorem Hd(h1:1<=N pl)(h64:N pl<=64)(h:∀i,i<N pl->bR (E pl i nz) i=T):bg pl=mP pl:=by unfold bg;grind
def Kh{pl:Qu ag}{k:Nat}(hk:k<N pl-1)(h:pG pl (N pl) k≠1):mP pl=false:=by unfold mP;rw[List.all_eq_false];exact⟨k,ZY.2 hk,by show ¬decide (pG pl (N pl) k=1)=T;rw[ZL h];simp⟩
def He{pl:Qu ag}(h:∀k,k<N pl-1->pG pl (N pl) k=1):mP pl=true:=by unfold mP;rw[Q4];exact λk a=>Zg (h k (ZY.1 a))
def Ki(n:ag)(w:U)(h1:1<=n.kind)(hcl:N n.cl.xs<=1152921504606846976)(hco:N n.co.xs<=1152921504606846976) :
  Cb 77 #[.agg n.cells,.agg (dI n.kind)] w (Qo (l8 n)):=by have h:=xg n (arity n.kind) (decide (n.kind=1)) (decide (2<=n.kind/\n.kind<=5)) (decide (n.kind=4∨n.kind=5)) (decide (n.kind=6)) w hcl hco;rw[GY]at h;unfold dI;rw[oG h1];exact h
theorem C8(po:JW)(pc:Nat)(pl:Qu ag)(w:U)(hp:bL w po pl)(hs:bW w 0) :
  Cb 47 #[.slice po (N pl) pc] w (Qo (bg pl)):=by
 have bB:=hp.1;by_cases z0:N pl<1
 .have d:=Zh (by  unfold bg;rw[ZL X];rfl:bg pl=F)
  have av:(N pl:Int)<1:=X;generalize bg pl=R at*;clear hp hs;go_enter func47,ntmps47;go_wp2;go_ret;exact⟨QV d.o.symm,Q5 _ _⟩
 by_cases z1:64<N pl
 .have d:=Zh (by  unfold bg;grind:bg pl=F)
  have aP:(64:Int)<(N pl:Int):=X;have av:¬(N pl:Int)<1:=X;generalize bg pl=R at*;clear hp hs;go_enter func47,ntmps47;go_wp2;go_ret;exact⟨QV d.o.symm,Q5 _ _⟩
 have aQ:=run_make_row' (P:=Tryz.prog) 23 3 (.int J 0) 8 underlying23 Tryz.info3 rfl J J (N pl) X X;obtain⟨w1,D⟩:=eX (w.alloc (.cells (madeCells #[.int J 0] (N pl)) 3));have ax:w1.rowIs (M (H w)) 3 (N pl) (λ_=>.int J 0):=by rw[<-D];exact World.rowIs_made _ _ _ _
 have ay:Bw w w1:=by rw[<-D];exact bz _ _
 have aR:M (H w)<M (H w1):=by rw[<-D];simp
 have Mr:Qk (∀x,Kept (λb=>b≠M (H w)) w1 x->Bw w x/\bL x po pl/\bW x 0):=λx hk=>by have C:=Below.trans ay (hk.below (Nat.le_of_lt aR) (λb C=>Nat.ne_of_lt C));exact⟨C,hp.below C,hs.below C⟩
 have av:¬(N pl:Int)<1:=X;have aP:¬(64:Int)<(N pl:Int):=X;have q:Qk _:=@Kg pl;have az:=Zh (Hd (pl:=pl) X X);have Ur:Qk _:=@Kh pl;have aA:Qk _:=@He pl;have PE:=hd ax;have nT:Qk (∀i j,pG pl i j<=2*i):=λi j=>Ej pl j i;generalize bg pl=R,mP pl=OB at*;clear hp hs ax ay z0 z1;go_enter func47,ntmps47;go_wp2;clear D aQ;go_loopw [23] (λz wr=>∃k:Nat,k<=N pl/\z=I J k/\Qk (∀i,i<k->bR (E pl i nz) i=T)/\Qk (wr.rowIs (M (H w)) 3 (N pl) (λj=>I J ((pG pl k j:Nat):Int)))/\Qk (Kept (λb=>b≠M (H w)) w1 wr)) (λz _=>N pl-(intOf z).toNat)
 case atStart=>exact⟨0,ZP _,rfl,λj g=>absurd g X,PE.o,Kept.refl _ _⟩
 case round=>
  obtain⟨k,hk,rfl,HJ,G,wO⟩:=hrel;obtain⟨Q,af,aj⟩:=Mr.o wr wO.o;by_cases aO:k<N pl
  .obtain⟨pb,bH,rfl,c0,c1,c2,c3,c4,c5,c6,i1,i2⟩:=af.2 k aO;have r:Qk (bR (E pl k nz) k=F->R=F):=λe=>q.o aO e
   have yu:Qk (bR (E pl k nz) k=T->∀i,i<k+1->bR (E pl i nz) i=T):=λh i hi=>by
    rcases Xv i k with h'|h'
    .exact HJ.o i h'
    grind
   have f:=Zh (GZ (E pl k nz) k);have SE:Qk (∀m,m<N (aB (E pl k nz))->(E (aB (E pl k nz)) m 0<0∨(k:Int)<=E (aB (E pl k nz)) m 0)->jm (E pl k nz) k=F):=λm hm h=>G9 hm h;have PG:Qk _:=@Ha (E pl k nz) k;have GQ:Qk (∀m,m<N (aB (E pl k nz))->∀j,qP pl k (m+1) j=qP pl k m j+if j=(E (aB (E pl k nz)) m 0).toNat then 1 else 0):=λm hm j=>G5 pl k hm j;have xh:Qk (jm (E pl k nz) k=T->∀j,qP pl k (N (aB (E pl k nz))) j=pG pl (k+1) j):=λh j=>Ke h j;have yA:Qk (∀m j,qP pl k m j<=2*k+2):=λm j=>by unfold qP;have h1:=nT.o k j;have h2:(((aB (E pl k nz)).take m).map Int.toNat).count j<=N (((aB (E pl k nz)).take m).map Int.toNat):=List.count_le_length;rw[ZR,Xu]at h2;have h3:=jX (E pl k nz);omega
   have aa:Qk (wr.rowIs (M (H w)) 3 (N pl) (λj=>I J ((qP pl k 0 j:Nat):Int))):=G.o.congr (λj _=>by rw[G7]);have XV:Qk (∀x,1<=(E pl k nz).kind->_):=λx h1=>Ki (E pl k nz) x h1 i1.1 i2.1;have XW:Qk (∀x,bW x 0->1<=(E pl k nz).kind->(E pl k nz).kind<=10->_):=λx hs h1 bu=>qN (E pl k nz) x hs h1 bu;have Lv:=Zh (jX (E pl k nz));generalize aB (E pl k nz)=L,jm (E pl k nz) k=AB,bR (E pl k nz) k=SB,l8 (E pl k nz)=MB,qP pl k=CI at*;generalize E pl k nz=n at*;obtain⟨nk,nl,nr,ns,⟨na,nc,nx⟩,ny,⟨oa,oc,ox⟩⟩:=n;unfold ag.cells ai.val at*;simp only at*;clear i1 i2 HJ G q af;obtain⟨wb,aX,S,aJ⟩:=aY wr #[I J nk,I J nl,I J nr,I J ns,.slice na (N nx) nc,I J ny,.slice oa (N ox) oc] 52;obtain⟨A,m1,m2,m3,m4,m5,m6⟩:=aJ.k7;obtain⟨CV,fo,BV⟩:=kH (ah Q S) S (aj.below S);clear aJ S Q aj;by_cases b1:nk<1
   .have d:=Zh (r.o (by rw[f.o,ZL X];rfl));clear f r yu SE PG GQ xh yA XV XW;go_wp2;refine Za ?_;refine IJ ?_;go_big_quiet_skip
    try simp only[pU]
    iterate 2 (go_big_quiet_skip;try simp only[pU])
    refine uK ?_;go_big_quiet_skip;try simp only[pU]
    iterate 6 (go_big_quiet_skip;try simp only[pU])
    refine eT ?_;refine Xo ?_;intro w2 a;have t:=Zh (ah CV.o a);clear a;go_wp2;go_ret;exact⟨QV d.o.symm,t.o⟩
   by_cases b2:10<nk
   .have d:=Zh (r.o (by rw[f.o,ZL (show ¬nk<=10 by omega),Bool.and_false];rfl));clear f r yu SE PG GQ xh yA XV XW;go_wp2;refine Za ?_;refine eT ?_;refine qC (I J nk) A ?_;refine qS (Qo F) ?_;refine qS (Qo F) ?_;refine eT ?_;refine qC (I J nk) A ?_;refine qS (Qo T) ?_;refine qS (Qo T) ?_;go_big_quiet_want;refine⟨Qo T,λx hx=>?_,?_⟩
    .go_simp
    simp only[pU];go_big_quiet_on;go_big_quiet_skip;try simp only[pU]
    iterate 6 (go_big_quiet_skip;try simp only[pU])
    refine eT ?_;refine Xo ?_;intro w2 a;have t:=Zh (ah CV.o a);clear a;go_wp2;go_ret;exact⟨QV d.o.symm,t.o⟩
   have XX:=λx=>XV.o x X;have PH:=λx hs=>XW.o x hs X X;obtain⟨K,rfl⟩:=Xj (show 0<=nk by omega);have aS:K<=10:=X;obtain⟨t0,t1,t2,t3,t4⟩:=bW.get BV.o aS;obtain⟨s0,s1,s2,s3,s4,aK,e0,e1,e2,e3,e4⟩:∃s0 s1 s2 s3 s4,dI (K:Int)=#[s0,s1,s2,s3,s4]/\s0=I J (qM K)/\s1=Qo (decide ((K:Int)=1))/\s2=Qo (decide (2<=(K:Int)/\(K:Int)<=5))/\s3=Qo (decide ((K:Int)=4∨(K:Int)=5))/\s4=Qo (decide ((K:Int)=6)):=⟨_,_,_,_,_,rfl,rfl,rfl,rfl,rfl,rfl⟩;rw[<-e0]at t0;rw[<-e1]at t1;rw[<-e2]at t2;rw[<-e3]at t3;rw[<-e4]at t4;rw[ZQ]at t0 t1 t2 t3 t4;rw[aK]at XX;have aC:decide (1<=(K:Int))=true:=Zg X;have aF:decide ((K:Int)<=10)=true:=Zg X;rw[aC,aF]at f;clear e0 e1 e2 e3 e4 aK XV XW aC aF;have bC:¬(11:Int)<=(K:Int):=X
   cases MB with
   |false =>
    have d:=Zh (r.o (by rw[f.o];rfl));clear f r yu SE PG GQ xh yA PH;go_wp2;refine Za ?_;refine eT ?_;refine qC (I J (K:Int)) A ?_;refine qS (Qo F) ?_;refine qS (Qo F) ?_;refine eT ?_;refine qC (I J (K:Int)) A ?_;refine qS (Qo F) ?_;refine qS (Qo F) ?_;refine qS (Qo F) ?_;refine uK ?_;refine qC (I J (K:Int)) A ?_;refine uK ?_;go_big_quiet_want;refine⟨Qo F,λx hx=>?_,?_⟩
    .have hC:=Zb hx (XX x);go_simp
    simp only[pU];go_big_quiet_on;refine uK ?_;refine Xo ?_;intro w2 a;have t:=Zh (ah CV.o a);clear a;go_wp2;go_ret;exact⟨QV d.o.symm,t.o⟩
   |true =>
    have Us:=Zh (by  rw[f.o];rfl:SB=AB)
    clear f;have f:=Zh Us.o;clear Us;go_wp2;refine Za ?_;refine eT ?_;refine qC (I J (K:Int)) A ?_;refine qS (Qo F) ?_;refine qS (Qo F) ?_;refine eT ?_;refine qC (I J (K:Int)) A ?_;refine qS (Qo F) ?_;refine qS (Qo F) ?_;refine qS (Qo F) ?_;refine uK ?_;refine qC (I J (K:Int)) A ?_;refine uK ?_;go_big_quiet_want;refine⟨Qo T,λx hx=>?_,?_⟩
    .have hC:=Zb hx (XX x);go_simp
    simp only[pU];go_big_quiet_on;refine uK ?_;refine Xo ?_;intro w2 a;obtain⟨q0,q1,q2,q3,q4⟩:=gM a A m1 m2 m3 m4;obtain⟨q5,q6⟩:=iA a m5 m6;have Ut:=PH w2 (Xz a BV.o);obtain⟨yB,W⟩:=bV (wO.o.trans (ZE (ah fo.o a) (λb C _=>C))) (aa.o.of_block ((ah fo.o a).block _ aa.o.lt));clear a XX PH A m1 m2 m3 m4 m5 m6 t0 t1 t2 t3 t4 aa BV fo aX c0 c1 c2 c3 c4 c5 c6;go_wp2_with fail;refine Xx Ut ?_;clear Ut q0 q1 q2 q3 q4 q5 q6;rintro e w3 ⟨ib,rfl,aL,aZ,ak⟩;obtain⟨Ob,bf⟩:=bV (yB.o.trans (ZE ak (λb C _=>C))) (W.o.of_block (ak.block _ W.o.lt));have aT:ib≠M (H w):=Qj W.o.lt;have Mj:Qk _:=aL;have bD:=Lv.o;clear aL aZ ak yB W;go_wp2;go_loopw [48] (λz wx=>∃m:Nat,m<=N L/\z=I J m/\Qk (∀j,j<m->0<=E L j 0/\E L j 0<(k:Int))/\Qk (wx.rowIs (M (H w)) 3 (N pl) (λj=>I J ((CI m j:Nat):Int)))/\Qk (Kept (λb=>b≠M (H w)) w3 wx)) (λz _=>N L-(intOf z).toNat)
    case atStart=>exact⟨0,ZP _,rfl,λj g=>absurd g X,bf.o,Kept.refl _ _⟩
    case round=>
     obtain⟨m,hm,rfl,l,IW,LG⟩:=hrel;by_cases p:m<N L
     .obtain⟨bI,io,ei,aM⟩:=QY Mj.o p
      cases ei;have aG:=ZF (aM m p) LG.o aT;rw[ZQ]at aG;obtain⟨Hf,Hg⟩:=bV (SE.o m p) (GQ.o m p);have MN:Qk _:=λj=>yA.o m j;have Oc:Qk (∀x,x=E L m 0->0<=x->x<(k:Int)->∀j,j<m+1->0<=E L j 0/\E L j 0<(k:Int)):=λx hx h0 h1 j g=>by
       rcases Xv j m with h'|h'
       .exact l.o j h'
       .obtain rfl:j=m:=X
        rw[<-hx];exact⟨h0,h1⟩
      have JX:=Zh ((Mr.o wr (Ob.o.trans LG.o)).1);clear aM l SE GQ yA;obtain⟨x,au⟩:=eY (E L m 0);rw[<-au]at aG Hf Hg;have XY:=Zh (Oc.o x au);clear au Oc;by_cases x0:x<0
      .have d:=Zh (r.o (by rw[f.o,Hf.o (.inl x0)]));clear f r yu PG xh Hf Hg MN XY;go_wp2;go_ret;exact⟨QV d.o.symm,JX.o⟩
      by_cases x1:(k:Int)<=x
      .have d:=Zh (r.o (by rw[f.o,Hf.o (.inr x1)]));clear f r yu PG xh Hf Hg MN XY;go_wp2;go_ret;exact⟨QV d.o.symm,JX.o⟩
      obtain⟨B,rfl⟩:=Xj (show 0<=x by omega);have hX:B<N pl:=X;have aH:=IW.o.cell hX;have bE:=IW.o.frozen B;have aI:=MN.o B;rw[Xk]at Hg;have IM:Qk (∀v:Nat,v=CI m B+1->(wr.setCell (aD (M (H w)) B) (I J (v:Int))).rowIs (M (H w)) 3 (N pl) (λj=>I J ((CI (m+1) j:Nat):Int))):=λv hv=>
       (IW.o.set B (I J (v:Int))).congr (λj _=>by
        show (if j=B then _ else _)=_;rw[Hg.o j];by_cases g:j=B
        .rw[Q8 g,Q8 g,g,hv]
        .rw[Zf g,Zf g,Z4])
      have aU:=Zh (XY.o X X);obtain⟨u,hu⟩:=eY (CI m B);rw[<-hu]at aH aI IM;have bF:u<=200:=X;have Sy:Qk (Kept (λb=>b≠M (H w)) w3 (wr.setCell (aD (M (H w)) B) (I J ((u+1:Nat):Int)))):=LG.o.trans (ZG _ _ _ (λh=>h rfl));have Mh:Qk _:=IM.o (u+1) rfl;clear hu IW Hg MN IM Hf XY aI;have y:((u+1:Nat):Int)=(u:Int)+1:=X;rw[y]at Sy Mh;clear y;go_wp2;go_roundw
      case rel=>exact⟨m+1,X,Qf,aU.o,Mh.o,Sy.o⟩
      case measure=>exact Qw
     .obtain rfl:m=N L:=X
      have ae:=PG.o l.o;obtain⟨bn,Kj,bq⟩:=kH (yu.o (by rw[f.o,ae])) (IW.o.congr (λj _=>by rw[xh.o ae j])) (Ob.o.trans LG.o);clear ae PG yu f xh IW LG l r SE GQ yA;go_wp2;go_roundw
      case rel=>exact⟨k+1,X,Qf,bn.o,Kj.o,bq.o⟩
      case measure=>exact Qw
  .obtain rfl:k=N pl:=X
   obtain⟨d,aN⟩:=bV (az.o HJ.o) Q;have aV:Qk (∀j,j<N pl->wr.cell? (aD (M (H w)) j)=O (I J ((pG pl (N pl) j:Nat):Int))):=λj g=>G.o.cell g;clear q az HJ G wO Q af aj Mr PE;generalize pG pl (N pl)=CN at*;obtain⟨Nq,hN⟩:=eX (N pl-1);have bA:(N pl:Int)-1=(Nq:Int):=X;have bG:Nq<=N pl:=X;rw[hN]at Ur aA;have uk:=Zh hN;clear hN;go_wp2;go_loop [73] (λz=>∃m:Nat,m<=Nq/\z=I J m/\Qk (∀j,j<m->CN j=1)) (λz=>Nq-(intOf z).toNat)
   case atStart=>exact⟨0,ZP _,rfl,λj g=>absurd g X⟩
   case round=>
    obtain⟨m,hm,rfl,l⟩:=hrel;by_cases p:m<Nq
    .have aH:=aV.o m (Qj uk.o);have PI:=Zh (Ur.o p);have Oc:Qk (CN m=1->∀j,j<m+1->CN j=1):=λh j g=>by
      rcases Xv j m with h'|h'
      .exact l.o j h'
      .obtain rfl:j=m:=X
       exact h
     generalize CN m=c at*;by_cases hc:c=1
     .have HT:=Zh (Oc.o hc);have aW:((c:Int) != 1)=false:=by rw[hc];rfl
      clear Oc hc PI;go_wp2;go_round
      case rel=>exact⟨m+1,X,Qf,HT.o⟩
      case measure=>exact Qw
     .have ui:=Zh (by  rw[d.o];exact PI.o hc:R=F)
      have aW:((c:Int) != 1)=true:=by rw[bne_iff_ne];omega
      clear Oc hc PI;go_wp2;go_ret;exact⟨QV ui.o.symm,aN.o⟩
    .have ui:=Zh (by  rw[d.o];exact aA.o (λj g=>l.o j X):R=T)
     go_wp2;go_ret;exact⟨QV ui.o.symm,aN.o⟩
def vC{ts:Qu af}{q:ae}{pl:Qu ag}{k:Nat}(h:bU ts q pl k=Qp):∀m,k<=m->bU ts q pl m=Qp
 |0,hm=>by simp_all
 |m+1,hm=>by
  by_cases e:k=m+1
  .simp_all
  .show (bU ts q pl m).bind _=Qp
   rw[vC h m X];rfl
def bP(n:ag)(ps:Qu aC):Qu aC:=(aB n).map λx=>E ps x.toNat aR
theorem mZ(n:ag)(ps:Qu aC):N (bP n ps)=N (aB n):=by grind [bP]
def iV(n:ag):N (aB n)=arity n.kind:=by unfold aB;rw[Xu];have:=jH n.kind;simp;omega
def je{α β:Type}(f:α->β)(l:List α)(i:Nat)(z:α):E (l.map f) i (f z)=f (E l i z):=by simp_all
def Od(n:ag)(ps:Qu aC):(E (bP n ps) 0 aR).d=mO n (ps.map aC.d):=by
 unfold bP aB mO;have a:=jH n.kind;rcases (by omega:arity n.kind=0∨arity n.kind=1∨arity n.kind=2) with h|h|h <;> rw[h]
 .rfl
 .show (E ps n.l.toNat aR).d=_
  rw[Q8 X];exact(je aC.d ps n.l.toNat aR).symm
 .show (E ps n.l.toNat aR).d=_
  rw[Q8 X];exact(je aC.d ps n.l.toNat aR).symm
def Oe(n:ag)(ps:Qu aC):(E (bP n ps) 1 aR).d=kN n (ps.map aC.d):=by
 unfold bP aB kN;have a:=jH n.kind;rcases (by omega:arity n.kind=0∨arity n.kind=1∨arity n.kind=2) with h|h|h <;> rw[h]
 .rfl
 .rfl
 .show (E ps n.r.toNat aR).d=_
  rw[Q8 rfl];exact(je aC.d ps n.r.toNat aR).symm
theorem C9(n:ag)(ps:Qu aC):fZ n.kind (bP n ps)=oU n.kind (mO n (ps.map aC.d)) (kN n (ps.map aC.d)):=by
 rw[<-Od,<-Oe];have b:=jH n.kind;have e:∀{k:Int},arity k=2->decide (k=10)=false:=λ{k} h=>by unfold arity at h;grind
 have a:∀{k:Int},arity k=0->decide (k=10)=false:=λ{k} h=>by unfold arity at h;grind
 unfold bP aB oU fZ;rcases (by omega:arity n.kind=0∨arity n.kind=1∨arity n.kind=2) with h|h|h
 .rw[h,a h];rfl
 .rw[h];rfl
 .rw[h]
  show (([E ps n.l.toNat aR,E ps n.r.toNat aR]:Qu aC).all _)=_;simp only[List.all_cons,List.all_nil,Bool.and_true];show _=((di (E ps n.l.toNat aR).kind==decide (n.kind=10)) && !di (E ps n.r.toNat aR).kind);simp_all
def step_eq(ts:Qu af)(q:ae)(n:ag)(ps:Qu aC):iY ts q n (ps.map aC.d)=if (fZ n.kind (bP n ps)&&eB ts q n (E (bP n ps) 0 aR).d (E (bP n ps) 1 aR).d)=T then O (ps.map aC.d++[mK ts q n (E (bP n ps) 0 aR).d (E (bP n ps) 1 aR).d]) else none:=by unfold iY;rw[C9,Od,Oe]
def Kk(h:bg pl=T):1<=N pl/\N pl<=64/\∀i,i<N pl->bR (E pl i nz) i=true:=by unfold bg at h;simp_all
theorem vD(h:bR n i=T):1<=n.kind/\n.kind<=10/\∀m,m<N (aB n)->0<=E (aB n) m 0/\E (aB n) m 0<(i:Int):=by
 unfold bR at h;simp only[Q3,Bool.or_eq_true,Zd]at h;obtain⟨⟨⟨⟨b,a⟩,_⟩,j⟩,k⟩:=h;refine⟨b,a,λm d=>?_⟩;rw[iV]at d;have e:=jH n.kind;have f:0<arity n.kind->E (aB n) 0 0=n.l:=λh=>by unfold aB;simp_all
 have g:1<arity n.kind->E (aB n) 1 0=n.r:=λh=>by unfold aB;simp_all
 grind
theorem Da{n:ag}{i:Nat}(h:bR n i=T)(ho:di n.kind=T):0<=n.l/\n.l<(i:Int):=by
 obtain⟨g,b,d⟩:=vD h;have e:7<=n.kind:=by unfold di at ho;simp_all
 have a:arity n.kind=1:=by unfold arity;grind
 have:=d 0 (by rw[iV,a];omega);have f:E (aB n) 0 0=n.l:=by unfold aB;rw[a];rfl
 omega
theorem Kl{ps:Qu aC}(hm:m<N (aB n)):(bP n ps).take (m+1)=(bP n ps).take m++[E ps (E (aB n) m 0).toNat aR]:=by grind [bP,List.take_succ_eq_append_getElem]
