import Derived.Test.YtpcfbajdeipgbaaGreatDoorX02
set_option linter.all false
set_option maxRecDepth 100000
set_option maxHeartbeats 0
namespace Go.Proofs.Zz
open Go.RowKit Go.Shelf
open List renaming length->N,getD->E
open Go.Value renaming slice->Z,int->I,pointer->Y,bool->EP
open Go.Proofs.Tryz renaming prog->V
open Option renaming some->O,none->E5
open Go.IntKind renaming i64->J,u64->Dc
open Bool renaming false->F,true->T
open Go renaming World->U,Value->KX
open Go.World renaming heap->H,setCell->qw,cell?->Am
open _root_.Array renaming size->M
open Go.Obj renaming cells->FL
open Go.Ending renaming returned->FR
variable {P:Program} {A W W' w w0:U} {b base bg bm c i k n nk:Nat} {cs:Array KX} {e t te tg ti tk tp:TypeId} {cols kc row sc ss xs:List Int} {v:KX} {x:ae} {ks rows:List (List Int)} {pre:List ae}
section
variable {α κ:Type} (Ez:El α κ)
def asH(P:Program)(g:Nat)(s:KX)(rows:List κ)(w0:U):Prop:=
 ∀(l:Nat) (Jq:List α->(Nat->Prop)->U->Prop) (W:U) (o:Nat->Prop),
  Bw w0 W->(∀b,o b->M (H w0)<=b/\b<M (H W))->
  (∀pre o1 A B,Jq pre o1 A->Kept (λb=>o1 b∨b<M (H W)) A B->Jq pre o1 B)->
  (∀pre x o1 W1,Jq pre o1 W1->(pre++[x]).map Ez.key <+: rows->Ez.At x W1->(∀b,Ez.aT x=O b->¬o1 b/\(b<M (H w0)∨M (H W)<=b))->M (H W)<=M (H W1)->
   YieldAt Fence.wide 0 P l #[Ez.enc x] W1 λe W'=>e=FR (EP T)/\∃o2,Jq (pre++[x]) o2 W'/\Kept (λb=>¬o1 b) W1 W'/\
    ∀b,o2 b->o1 b∨(M (H W1)<=b/\b<M (H W'))∨(Ez.aT x=O b/\M (H W)<=b))->
  Jq [] o W->
  Calls P g #[s,.func (.yield l) #[] #[]] W λe W'=>(∃v,e=FR v)/\∃ys o',ys.map Ez.key=rows/\Jq ys o' W'/\Kept (λb=>¬o b) W W'/\
   ∀b,o' b->o b∨(M (H W)<=b/\b<M (H W'))
theorem MG{g:Operand}{ps:Array Tmp}{assign body:Code}{Q:Exit->Act->U->Prop}{a:Act}
  {gf:Nat} {s:KX} (hg:a.eval g=.func (.func gf) #[s] #[]) (eg:∀args w,(callFunc gf args).run P w=.ok (.enter gf args) w)
  {rows:List κ} (hseq:asH Ez P gf s rows w0) (hb0:Bw w0 w) (hps:ps.size=1)
  (Iq:List α->(Nat->Prop)->U->Prop) (o:Nat->Prop) (ho:∀b,o b->M (H w0)<=b/\b<M (H w))
  (hI:∀d i A B,Iq d i A->Kept (λb=>i b∨b<M (H w)) A B->Iq d i B) (h0:Iq [] o w) (a₁:α->Act)
  (hassign:∀(l:Nat) (x:α) (W:U) (K:Act->U->Prop),K (a₁ x) W->
   assign.wpIn (Fence.wide.inRound l) 0 P (Exit.then K (λ_ _ _=>False)) { tmps:=(ps.zip #[Ez.enc x]).foldl (λt (p,v)=>t.setIfInBounds p v) a.tmps,defers:=[] } W)
  (hbody:∀(l:Nat) (d:List α) (x:α) (i:Nat->Prop) (W:U),Iq d i W->(d++[x]).map Ez.key <+: rows->Ez.At x W->
   (∀b,Ez.aT x=O b->¬i b/\(b<M (H w0)∨M (H w)<=b))->M (H w)+2<=M (H W)->
   body.wpIn (Fence.wide.inRound l) 0 P (iy Ez Iq d x (M (H w)) i W) (a₁ x) W)
  (hdone:∀(ys:List α) (L:Nat->Prop) (W:U),ys.map Ez.key=rows->Iq ys L W->Kept (λb=>¬o b) w W->(∀b,L b->(o b∨(M (H w)+2<=b/\b<M (H W))))->
   W.heap[M (H w)]? = O (.deferred (O []))->Q .normal { a with defers:={ target:=.collected (M (H w)),args:=#[] } :: a.defers } W) :
  (Code.rangeFunc g ps assign body).wpIn Fence.wide 0 P Q a w:=by
 refine wpIn_rangeFunc ?_;intro fn aG;obtain⟨j,f⟩:∃j:LoopState->Option Code->Loop,j=λst pe=>{ state:=st,pending:=pe,fn,tmps:=a.tmps,params:=ps,assign,body,defers:=M (H w) }:=⟨_,rfl⟩;obtain⟨y,q⟩:∃y,(w.alloc (.deferred (O []))).alloc (.loop (j .ready E5))=y:=⟨_,rfl⟩;have aI:M (H y)=M (H w)+2:=by rw[<-q];simp
 have aj:y.heap[M (H w)+1]? = O (.loop (j .ready E5)):=by rw[<-q];have:=ZF (w.alloc (.deferred (O []))) (.loop (j .ready E5));simp_all
 have ak:y.heap[M (H w)]? = O (.deferred (O [])):=by rw[<-q];exact(Below.heap_alloc _ _ _ (by simp)).trans (ZF w _)
 have G:∀s,Kept s w y:=λs=>by rw[<-q];exact(ZE _ _).trans (ZE _ _)
 have au:=hb0.trans ((G (λ_=>True)).below hb0.size (λ_ _=>trivial));refine⟨M (H w)+1,[{ target:=.collected (M (H w)),args:=#[] }],y,{ target:=.fn (.func gf) #[],args:=#[s,.func (.yield (M (H w)+1)) #[] #[]] },y,gf,
  #[s,.func (.yield (M (H w)+1)) #[] #[]],y,?_,?_,?_,?_,λh=>by simp[Fence.wide]at h,?_⟩
 .rw[<-q,f];exact run_enterLoop_outer _ _ _ _ _
 .simp only[resolve,hg];simp[go_sem]
 .intro f' _;trivial
 .simp[invoke,go_sem,eg]
 .refine ZG.2 ((hseq (M (H w)+1)
   (λd L W=>∃i,Iq d i W/\(∀b,L b↔i b∨b=M (H w)∨b=M (H w)+1)/\¬i (M (H w))/\¬i (M (H w)+1)/\
    W.heap[M (H w)+1]? = O (.loop (j .ready E5))/\W.heap[M (H w)]? = O (.deferred (O [])))
   y (λb=>o b∨b=M (H w)∨b=M (H w)+1) au ?_ ?_ ?_ ?_).mono ?_)
  .rintro b (r|rfl|rfl)
   .grind
   .exact⟨hb0.size,by omega⟩
   .exact⟨by have:=hb0.size;omega,by omega⟩
  .rintro d L A B ⟨i,hi,k,hn,z,C,hd⟩ hk;have av:=(ZH.1 C).1;have ax:=(ZH.1 hd).1;refine⟨i,hI d i A B hi (hk.mono λb _ r=>?_),k,hn,z,(hk.block _ av (.inl ((k _).2 (.inr (.inr rfl))))).trans C,(hk.block _ ax (.inl ((k _).2 (.inr (.inl rfl))))).trans hd⟩
   grind
  .rintro d x L W ⟨i,hi,k,hn,z,C,hd⟩ ai hx u aK;have aa:=(ZH.1 C).1;have ae:M (H w)<M (H W):=by omega
   have hy:=run_yield (P:=P) (args:=#[Ez.enc x]) C (by simp_all);rw[f]at hy;refine⟨fn,_,assign,body,hy,roundIn_of_wpIn aG (hassign _ x W _ ⟨_,run_beginRound C (by rw[f]),?_⟩)⟩;obtain⟨S,D⟩:=eX (W.putObj (M (H w)+1) (.loop { j .ready E5 with state:=.busy }));have m:Kept (λb=>b≠M (H w)+1) W S:=by rw[<-D];exact ZB _ _ (λh=>h rfl)
   have af:S.heap[M (H w)+1]? = O (.loop { j .ready E5 with state:=.busy }):=by rw[<-D];exact World.putObj_heap_same aa
   have ay:=(m.block _ ae (by omega)).trans hd;have aJ:M (H S)=M (H W):=by rw[<-D];simp
   have az:=hI d i W S hi (m.mono λb _ r=>by
    grind)
   have aA:=Ez.keep hx m.size (λb r aH=>m.block b r (λe=>(u b aH).1 ((k b).2 (.inr (.inr e)))));rw[D];rw[f]at af;refine wpIn_mono (hbody _ d x i S az ai aA (λb r=>⟨λh=>(u b r).1 ((k b).2 (.inl h)),(u b r).2.imp id (by omega)⟩) (by omega)) ?_;rintro e a3 W3 X
   cases e with
   |normal =>
    obtain⟨o2,aC,R,aD⟩:=X;have ag:W3.heap[M (H w)+1]? = O (.loop { state:=.busy,pending:=E5,fn,tmps:=a.tmps,params:=ps,assign,body,defers:=M (H w) }):=(R.block _ (by omega) z).trans af;have ah:=(ZH.1 ag).1;have aB:=(R.block _ (by omega) hn).trans ay;have n:∀b,b=M (H w)∨b=M (H w)+1->¬o2 b:=λb r h=>by grind
    refine⟨_,_,run_endRound E5 ag,rfl,λb=>o2 b∨b=M (H w)∨b=M (H w)+1,⟨o2,hI _ o2 W3 _ aC (ZB _ _ ?_),λb=>ZI,n _ (.inl rfl),n _ (.inr rfl),?_,?_⟩,?_,?_⟩
    .simp_all
    .rw[World.putObj_heap_same ah,f];rfl
    .exact(ZC (by omega)).trans aB
    .refine((m.mono ?_).trans' (R.mono ?_) (λ_ _ h=>h)).trans (ZB _ _ ?_)
     .simp_all
     .simp_all
     simp_all
    .rintro b (h|h)
     .rcases aD b h with h|h|h
      .simp_all
      .simp_all
      grind
     simp_all
   |ret=>exact X.elim
   |exit id=>exact X.elim
   |goto t=>exact X.elim
   |panic ch=>exact X.elim
   |outgrown=>exact X.elim
  .have n:∀b,b=M (H w)∨b=M (H w)+1->¬o b:=λb r h=>by grind
   exact⟨o,hI _ _ _ _ h0 (G _),λ_=>ZI,n _ (.inl rfl),n _ (.inr rfl),aj,ak⟩
  .rintro e S ⟨⟨v,rfl⟩,ys,L,aF,⟨i,hi,k,hn,z,C,hd⟩,hk,hg⟩;have aa:=(ZH.1 C).1;refine⟨E5,_,by have:=run_endLoop (P:=P) C (by simp_all);rw[f]at this;exact this,hdone ys i _ aF (hI _ _ _ _ hi (ZB _ _ ?_)) ?_ ?_ ((ZC (by omega)).trans hd)⟩
   .simp_all
   .refine(Zy (G _) (hk.mono λb _ h=>h) ?_).trans (ZB _ _ ?_) |>.mono (s:=λb=>¬o b/\b<M (H w)) ?_
    .grind
    .omega
    simp_all
   .intro b r;rcases hg b ((k b).2 (.inl r)) with (h|h|h)|h
    .exact .inl h
    .simp_all
    .simp_all
    simp_all
def vw:El Nat Nat where
 enc k:=I J (k:Int)
 At _ _:=True
 aT _:=E5
 key k:=k
 keep:=λ_ _ _=>trivial
 AV:=λ_ h=>by cases h
end
def agE(a:Addr)(x:U)(c:Int)(h0:0<=c)(h4:c<=4) :
  (Instr.sliceAt 51 (Y (O a)) E5 (O (I J c)) E5).run V x=.ok (Z (O a) c.toNat 4) x:=by
 have b:V.arrayLen 51=4:=by kernel_rfl
 have d:V.elem 51=3:=by kernel_rfl
 rw[run_sliceAt_array_h x 51 a (by rw[b,d];exact Tryz.underlying51) J c h0 (by rw[b];omega),b,d];simp[slicedAt,Addr.add]
def Te(t:ag)(w:U) :
  Cb 86 #[.agg t.aI] w (EP (dJ t)):=by
 have b:=@Gl t;have g:=@xK t;have k:=@Ev t;have d:=λm r=>ag.YE w t 53 m r;generalize dJ t=B at*;unfold ag.aI;by_cases v:t.cols<1∨4<t.cols∨t.rows<0∨1000000<t.rows
 .have e:=Zh ((b v).symm);clear b g k d;go_enter Tryz.func86,Tryz.ntmps86;go_wp2
  all_goals
   go_ret;exact⟨Qd e.o,bJ _ _⟩
 .have z:1<=t.cols:=by omega
  have A:t.cols<=4:=by omega
  have C:0<=t.rows:=by omega
  have D:t.rows<=1000000:=by omega
  obtain⟨f,n,L⟩:=fe g k d;clear b g k v d;have G:=λ(a:Addr) (x:U)=>agE a x t.cols (by omega) (by omega);go_enter Tryz.func86,Tryz.ntmps86;go_wp2;go_loop [28] (λi=>∃m:Nat,m<=t.cols.toNat/\i=I J m/\Hid (∀j,j<m->1<=t.kd j/\t.kd j<=1000000)) (λi=>t.cols.toNat-(intOf i).toNat)
  case atStart=>exact⟨0,Q4 _,rfl,λj p=>absurd p (by omega)⟩
  case round=>
   obtain⟨m,r,rfl,u⟩:=hrel;by_cases y:m<t.cols.toNat
   .have l:(m:Int)<t.cols:=by omega
    have K:=L.o m (by omega);by_cases P:t.kd m<1
    .have e:=Zh ((f.o m y (by omega)).symm);go_wp2;go_ret;exact⟨Qd e.o,bJ _ _⟩
    .by_cases Q:1000000<t.kd m
     .have e:=Zh ((f.o m y (by omega)).symm);go_wp2;go_ret;exact⟨Qd e.o,bJ _ _⟩
     .go_wp2;go_round
      case rel=>
       refine⟨m+1,by omega,by go_num,λj p=>?_⟩;by_cases q:j=m
       .subst q;omega
       .exact u.o j (by omega)
      case measure=>simp[intOf];omega
   .have l:¬(m:Int)<t.cols:=by omega
    have e:=Zh ((n.o z A C D (λj p=>u.o j (by omega))).symm);go_wp2;go_ret;exact⟨Qd e.o,bJ _ _⟩
def Wm(t:ag)(w:U) :
  Cb 85 #[.agg t.aI] w (EP (!dJ t)):=by have a:=λx=>Te t x;generalize dJ t=B at*;unfold ag.aI at*;go_enter Tryz.func85,Tryz.ntmps85;go_wp2_with (go_at_call 86;refine(a _).mono ?_;rintro e d ⟨rfl,b⟩);go_ret;exact⟨Qd rfl,aj (bJ _ _) b⟩
def Wn(ao:Option Addr)(cap:Nat)(ts:List ag)(w:U)(hx:aN w ao ts) :
  Calls V 140 #[Z ao (N ts) cap,.func (.func 85) #[] #[]] w λe K=>∃r,e=FR (I J r)/\foundAt r (ts.any λt=>!dJ t)/\Bw w K:=by
 have L:=hx.1;go_enter Tryz.func140,Tryz.ntmps140;go_wp2;go_loopw [8] (λi wr=>∃k:Nat,k<=N ts/\i=I J k/\Hid (∀j,j<k->(!dJ (E ts j tz))=F)/\Bw w wr) (λi _=>N ts-(intOf i).toNat)
 case atStart=>exact⟨0,Q4 _,rfl,λj l=>absurd l (by omega),Qr _ _⟩
 case round=>
  obtain⟨k,P,rfl,q,g⟩:=hrel;by_cases d:k<N ts
  .obtain⟨b,off,rfl,y,A,B,C,D,G⟩:=hx.2 k d;obtain⟨Q,R,S,W,X,e5⟩:=Dh g y A B C D G;have f:Hid ((!dJ (E ts k tz))=T->(ts.any λt=>!dJ t)=T):=λh=>M4 (z:=tz) d h
   have p:=Wm (E ts k tz) wr;unfold ag.aI at p;generalize n:E ts k tz=t at*;have u:=Zh n;go_wp2_with fail;refine p.mono ?_;rintro e w2 ⟨rfl,a⟩;cases hB:dJ t
   .rw[hB]at f;go_wp2;go_ret;exact⟨_,Qe rfl,⟨by omega,by rw[f.o rfl];simp⟩,aj g a⟩
   .have v:=Zh hB;go_wp2;go_roundw
    case rel=>
     refine⟨k+1,by omega,by go_num,λj l=>?_,aj g a⟩;by_cases m:j=k
     .subst m;rw[u.o,v.o];rfl
     .exact q.o j (by omega)
    case measure=>simp[intOf];omega
  .have f:Hid ((ts.any λt=>!dJ t)=F):=any_none (z:=tz) (λj l=>q.o j (by omega));go_wp2;go_ret;exact⟨_,Qe rfl,⟨by omega,by rw[f.o];rfl⟩,g⟩
def Kt(ao:Option Addr)(cap:Nat)(ts:List ag)(w:U)(hx:aN w ao ts) :
  Cb 84 #[Z ao (N ts) cap,.func (.func 85) #[] #[]] w (EP (ts.any λt=>!dJ t)):=by have b:=Wn ao cap ts w hx;go_enter Tryz.func84,Tryz.ntmps84;go_wp2_with fail;refine b.mono ?_;rintro e g ⟨r,rfl,f,a⟩;have d:=Zh f.2;go_wp2;go_ret;exact⟨Qd d.o,a⟩
def IC(ao:Option Addr)(cap:Nat)(ts:List ag)(w:U)(hx:aN w ao ts) :
  Cb 45 #[Z ao (N ts) cap] w (EP (dL ts)):=by
 have i:=hx.1;by_cases b:N ts<1
 .go_enter Tryz.func45,Tryz.ntmps45;go_wp2;go_ret;exact⟨Qd (Gm b),Qr _ _⟩
 by_cases d:8<N ts
 .go_enter Tryz.func45,Tryz.ntmps45;go_wp2;go_ret;exact⟨Qd (KZ d),Qr _ _⟩
 have f:=Kt ao cap ts w hx;have g:=Zh (aes b d);generalize (ts.any λt=>!dJ t)=Yq at*;go_enter Tryz.func45,Tryz.ntmps45;go_wp2_with fail;refine f.mono ?_;rintro e j ⟨rfl,a⟩;go_wp2;go_ret;exact⟨Qd g.o,a⟩
def R6(c:Nat)(w:U)(hc:c<=4) :
  Ce 174 #[I Dc 1,I Dc c] w (.tuple #[I Dc 0,I Dc c]):=by
 obtain rfl|rfl|rfl|rfl|rfl:c=0∨c=1∨c=2∨c=3∨c=4:=by omega
 all_goals
  go_enter Tryz.func174,Tryz.ntmps174;go_wp2;go_ret2;exact⟨rfl,rfl⟩
def ab8(c:Nat)(w:U)(hc:c<=4) :
  Ce 186 #[I Dc 1,I Dc c] w (.tuple #[I Dc 0,I Dc c]):=by have h:=R6 c w hc;go_enter Tryz.func186,Tryz.ntmps186;go_wp2_with fail;refine h.mono ?_;rintro e a ⟨rfl,rfl⟩;go_wp2;go_ret2;exact⟨rfl,rfl⟩
def fw(v:Int)(c k:Nat):List Value:=List.replicate k (Value.int J v)++List.replicate (c-k) (Value.int J 0)
def VI(v:Int)(h:k<=c):N (fw v c k)=c:=by simp[fw];omega
def VJ(v:Int)(c:Nat):fw v c c=List.replicate c (Value.int J v):=by simp[fw]
def R7(v:Int)(c:Nat):madeCells #[I J 0] c=(fw v c 0).toArray:=by rw[mO];simp[fw]
def Ag(v:Int){m:Nat}(h:k+m<=c):splice (fw v c k) k (List.replicate m (Value.int J v))=fw v c (k+m):=by unfold splice fw;rw[List.take_left' (by simp),Ja,List.drop_append,Ja,List.drop_eq_nil_of_le (by simp),ZU,List.drop_replicate,<-Zu,List.replicate_append_replicate];congr 2;omega
def R8(v:Int){j:Nat}(hj:j<k):(fw v c k)[j]? = O (Value.int J v):=by unfold fw;rw[Jb (by simpa using hj),List.getElem?_replicate,Qu hj]
def Tryz.Cm:(V.info? 3).map (·.size)=O 1:=by kernel_rfl
def ab9(w:U)(xb:Nat)(v:Int)(c:Nat)(hc:0<c)(hx:Am w (aD xb 0)=O (I J v))(ty:TypeId) :
  (Builtin.copy_ #[23,23] ty #[Z (O (aD (M (H w)) 0)) c c,Z (O (aD xb 0)) 1 1]).run V (w.alloc (FL (fw v c 0).toArray 3))=.ok (goInt 1) (w.alloc (FL (fw v c 1).toArray 3)):=by
 rw[pR (w.alloc (FL (fw v c 0).toArray 3)) 23 23 ty 3 1 (M (H w)) c c (O (aD xb 0)) 1 1 (fw v c 0).toArray 3 [.int J v] Tryz.underlying23 Tryz.Cm (iX w _) hc rfl
  (λ_=>⟨_,rfl,λj u a=>by
   match j,a with
   |0,a=>cases a;exact cB (bJ w _) hx⟩) (by simp[fw];omega) (λu b=>by simp at b;subst b;rfl),nX]
 have h:splice (fw v c 0) 0 (List.replicate 1 (Value.int J v))=fw v c (0+1):=Ag v (by omega);unfold splice at h;simp only[List.take_zero,ZU,Q5,Ja,List.replicate_one]at h;exact congrArg (λl=>Result.ok (goInt 1) (w.alloc (FL (List.toArray l) 3))) h
def aca(W:U)(g:Nat)(v:Int)(c k m:Nat)(hg:W.heap[g]? = O (FL (fw v c k).toArray 3))(hm:Nat.min k (c-k)=m)(hk:0<k)(hc:k<c)(ty:TypeId) :
  (Builtin.copy_ #[23,23] ty #[Z (O (aD g k)) (c-k) (c-k),Z (O (aD g 0)) k c]).run V W=.ok (I J m) (W.setRow g (fw v c (k+m)).toArray):=by
 have f:min k (c-k)=m:=hm;have a:m<=k/\k+m<=c:=by omega
 rw[run_copy_row (P:=V) W 23 23 ty 3 g k (c-k) (c-k) (aD g 0) k c (fw v c k).toArray 3 (List.replicate m (.int J v)) Tryz.underlying23 Tryz.Cm hg (by rw[Ja,hm])
  (λj u e=>by
   have b:j<m:=by have:=(List.getElem?_eq_some_iff.1 e).1;simpa using this
   rw[List.getElem?_replicate,Qu b]at e;cases e;have d:=R8 v (c:=c) (k:=k) (j:=j) (by omega);rw[iw];simp[World.cell?,hg,d]) (by rw[Ja,ZN,VI v (by omega)];omega) (λu i=>by obtain⟨_,rfl⟩:=List.mem_replicate.1 i;rfl)]
 have h:=Ag v a.2;unfold splice at h;rw[Ja]at h ⊢;rw[<-Zu]at h;exact congrArg (λl=>Result.ok (goInt m) (W.setRow g (List.toArray l))) h
def VK(xb:Nat)(v:Int)(c:Nat)(w:U)(hc:c<=4)(hx:Am w (aD xb 0)=O (I J v)) :
  Calls V 168 #[Z (O (aD xb 0)) 1 1,I J c] w λe W=>e=FR (Z (O (aD (M (H w)) 0)) c c)/\W.heap[M (H w)]? = O (FL (List.replicate c (Value.int J v)).toArray 3)/\Below (M (H w)) w W/\M (H W)=M (H w)+1:=by
 have i:=run_make_row' (P:=V) 23 3 (.int J 0) 8 Tryz.underlying23 Tryz.tH rfl J J c (by omega) (by omega);rw[R7 v c]at i;have d:=ab8 c w hc;obtain⟨b,f⟩:=eX (Nat.min 1 c);have j:b<=c/\b<=1/\(b=0->c=0):=by have h:min 1 c=b:=f;omega
 have l:∀A,(Builtin.copy_ #[23,23] A #[Z (O (aD (M (H w)) 0)) c c,Z (O (aD xb 0)) 1 1]).run V (w.alloc (FL (fw v c 0).toArray 3))=.ok (goInt b) (w.alloc (FL (fw v c b).toArray 3)):=by
  intro A;have h:min 1 c=b:=f;by_cases h0:c=0
  .subst h0;obtain rfl:b=0:=by omega
   exact run_copy_none (P:=V) _ 23 23 A 3 _ _ 0 0 1 1 Tryz.underlying23 Tryz.Cm rfl
  .obtain rfl:b=1:=by omega
   exact ab9 w xb v c (by omega) hx A
 have rH:=Zh j;clear f j hx;have B:∀n:Nat,goInt (n:Int)=I J n:=λ_=>rfl;rw[B]at l;go_enter Tryz.func168,Tryz.ntmps168;go_wp2_with fail;refine d.mono ?_;rintro e a ⟨rfl,rfl⟩;clear d;go_wp2;go_loopw [8] (λs wr=>∃k:Nat,k<=c/\s=I J k/\(k=0->c=0)/\wr.heap[M (H a)]? = O (FL (fw v c k).toArray 3)/\Below (M (H a)) a wr/\M (H wr)=M (H a)+1) (λs _=>c-(intOf s).toNat)
 case atStart=>exact⟨b,rH.o.1,rfl,rH.o.2.2,iX _ _,bJ _ _,by simp⟩
 case round=>
  obtain⟨k,hk,rfl,G,y,K,g⟩:=hrel;by_cases X:k<c
  .obtain⟨m,L⟩:=eX (Nat.min k (c-k))
   have aa:=aca wr.drew (M (H a)) v c k m y L (by omega) X;have C:min k (c-k)=m:=L;have p:0<m/\k+m<=c:=by omega
   obtain⟨z,HS,HB,HG⟩:=xA p g K y;clear L C p l i G g K y;go_wp2;go_region
   all_goals
    have q:Below (M (H a)) a (wr.drew.setRow (M (H a)) (fw v c (k+m)).toArray):=below_setRow HB.o.drew (Qs _) _;have r:wrap64 ((k:Int)+(m:Int))=((k+m:Nat):Int):=by have:=z.o;unfold wrap64;omega
    have t:(wr.drew.setRow (M (H a)) (fw v c (k+m)).toArray).heap[M (H a)]? = O (FL (fw v c (k+m)).toArray 3):=setRow_heap wr.drew (M (H a)) _ _ _ _ HG.o;have u:M (H (wr.drew.setRow (M (H a)) (fw v c (k+m)).toArray))=M (H a)+1:=(setRow_size _ _ _).trans HS.o;rw[r];obtain⟨Q,R,S⟩:=fe q t u;clear q r t u;generalize wr.drew.setRow (M (H a)) (fw v c (k+m)).toArray=wf at*;go_wp2;go_roundw
    case rel=>exact⟨k+m,z.o.2,rfl,λh=>by have:=z.o;omega,R.o,Q.o,S.o⟩
    case measure=>have:=z.o;simp[intOf];omega
  .have D:k=c:=by omega
   subst D;rw[VJ]at y;go_wp2;go_ret;exact⟨rfl,y,K,g⟩
def N7(s v:Int)(w:U)(hs:-2305843009213693952<=s/\s<=2305843009213693952)(hv:-2305843009213693952<=v/\v<=2305843009213693952) :
  Ce 169 #[I J s,I J v] w (I J (J8 s v)):=by
 have d:wrap64 (s+v)=s+v:=by unfold wrap64;omega
 unfold J8;by_cases a:v=1073741824
 .rw[Qu a];subst a;go_enter Tryz.func169,Tryz.ntmps169;go_wp2;go_ret;exact⟨rfl,rfl⟩
 .rw[QC a];by_cases b:s=1073741824
  .rw[Qu b];subst b;go_enter Tryz.func169,Tryz.ntmps169;go_wp2;go_ret;exact⟨rfl,rfl⟩
  .rw[QC b];go_enter Tryz.func169,Tryz.ntmps169;go_wp2;go_ret;exact⟨rfl,rfl⟩
def oJ(k:ae)(n:Nat)(w:U)(hn:n<=4) :
  Calls V 127 #[k.val,I J n] w λe m=>e=FR (Y (O (aD (M (H w)+2) 0)))/\
   m.heap[M (H w)+2]? = O (FL #[k.val,I J 0,Z (O (aD (M (H w)+1) 0)) n n] 182)/\
   m.heap[M (H w)+1]? = O (FL (List.replicate n (Value.int J 1073741824)).toArray 3)/\Below (M (H w)) w m/\M (H m)=M (H w)+3:=by
 obtain⟨A,B,C⟩:=k;unfold ae.val;simp only;have d:=bJ w (FL #[I J 1073741824] 3);have l:=VK (M (H w)) 1073741824 n (w.alloc (FL #[I J 1073741824] 3)) hn (by simp);have a:M (H (w.alloc (FL #[I J 1073741824] 3)))=M (H w)+1:=by simp
 rw[a]at l;obtain⟨D,b⟩:=eX (w.alloc (FL #[I J 1073741824] 3));obtain⟨f,z,q⟩:=fe b a d;clear a d;rw[b]at l;clear b;go_enter Tryz.func127,Tryz.ntmps127;go_wp2_with fail;rw[f.o];refine l.mono ?_;rintro e r ⟨rfl,g,i,j⟩;obtain⟨t,u,v⟩:=fe g i j;clear l g i j;go_wp2;go_ret;have y:M (H r)=M (H w)+2:=v.o;have p:Below (M (H w)) w r:=by have:=q.o;rw[f.o]at this;exact this.trans (u.o.mono (by omega))
 rw[<-y];refine⟨rfl,iX _ _,?_,p.alloc (by omega) _,by simp;omega⟩;exact(Below.heap_alloc r _ _ (by omega)).trans t.o
def VL{W:U}{b:Nat}{cs:Array KX}{t:TypeId}(h:W.heap[b]? = O (FL cs t)){i:Nat}{v:KX}(hv:cs[i]? = O v):Am W (aD b i)=O v:=by simp[World.cell?,h,hv]
def jM(h:W.heap[b]? = O (FL cs t))(i:Nat):W.frozen? (aD b i)=false:=by simp[World.frozen?,h]
def l9(h:W.heap[b]? = O (FL cs t))(i:Nat)(v:KX):(qw W (aD b i) v).heap[b]? = O (FL (cs.setIfInBounds i v) t):=by rw[setCell_eq_setRow W b i cs t (0,0) v h];exact setRow_heap W b _ _ _ _ h
def yC(hne:c≠b)(i:Nat)(v:KX):(qw W (aD b i) v).heap[c]? = W.heap[c]?:=Below.heap_setCell W (aD b i) v c hne
def Jc:=@VL
def N8{α:Type}{l:List α}{d:α}(hk:k<N l):E l k d∈l:=by
 have e:E l k d=l[k]:=by simp[List.getD,hk]
 rw[e];exact Qi hk
def Kl(x:Int):Prop:=-2305843009213693952<=x/\x<=2305843009213693952
def yD(ss row cols:List Int)(k:Nat):List Int:=(ik ss row cols).take k++ss.drop k
def VM:yD ss row cols 0=ss:=by simp[yD]
def acb(h:N ss=N cols):yD ss row cols (N cols)=ik ss row cols:=by unfold yD;rw[Xt (by rw[jU h];exact Qs _),List.drop_of_length_le (by omega),QN]
def acd(h:N ss=N cols)(hk:k<N cols):(yD ss row cols k)[k]? = O (E ss k 0):=by unfold yD;rw[QL (by rw[XK,jU h];omega),XK,jU h,Nat.min_eq_left (by omega),Xr,List.getElem?_drop];simp[List.getD,show k<N ss by omega]
def ace(h:N ss=N cols)(hk:k<N cols):(yD ss row cols k).set k (J8 (E ss k 0) (E row (E cols k 0).toNat 0))=yD ss row cols (k+1):=by
 unfold yD;have a:N ((ik ss row cols).take k)=k:=by rw[XK,jU h];omega
 rw[List.set_append_right _ _ (by omega),a,Xr,Zw (by omega),Qc,Qh (by rw[jU h];omega),Zu];congr 2;simp[ik,List.getD,hk,show k<N ss by omega]
def rA(gb sb:Nat)(kv:KX)(cnt:Nat)(ss:List Int)(x c:ae)(w:U)(hgs:gb≠sb)
  (hg:w.heap[gb]? = O (FL #[kv,I J cnt,Z (O (aD sb 0)) (N c.xs) (N c.xs)] 182)) (hs:w.heap[sb]? = O (FL (ss.map (Value.int J)).toArray 3)) (hl:N ss=N c.xs) (hcl:N c.xs<=4)
  (hx:x.At w) (hc:c.At w) (hxb:∀a,x.ad=O a->a.block≠gb/\a.block≠sb) (hcb:0<N c.xs->∀a,c.ad=O a->a.block≠gb/\a.block≠sb) (ha:aM c.xs (N x.xs)=T)
  (hcnt:cnt<=1000000) (hbs:∀s∈ss,Kl s) (hbx:∀v∈x.xs,Kl v) :
  Calls V 130 #[Y (O (aD gb 0)),x.val,c.val] w λe L=>(∃v,e=FR v)/\
   L.heap[gb]? = O (FL #[kv,I J (cnt+1:Nat),Z (O (aD sb 0)) (N c.xs) (N c.xs)] 182)/\L.heap[sb]? = O (FL ((ik ss x.xs c.xs).map (Value.int J)).toArray 3)/\
   Kept (λb=>b≠gb/\b≠sb) w L/\M (H L)=M (H w):=by
 obtain⟨fO,bF,xs⟩:=x;obtain⟨ng,dK,cs⟩:=c;unfold ae.val;simp only at*;have c1:Am w (aD gb 1)=O (I J cnt):=Jc hg rfl;have f1:=jM hg 1;have p:wrap64 ((cnt:Int)+1)=((cnt+1:Nat):Int):=by unfold wrap64;omega
 obtain⟨HG,HS⟩:=aV hg hs;have HX:Hid _:=hx;have HC:Hid _:=hc;obtain⟨z,Ij,HA,A⟩:=xA hxb hcb ha hl;have q:Hid _:=hgs;obtain⟨R9,Ga⟩:=aV hbs hbx;clear hg hs hx hc hxb hcb ha hl hgs hbs hbx;go_enter Tryz.func130,Tryz.ntmps130;go_wp2;go_loopw [17] (λi wr=>∃k:Nat,k<=N cs/\i=I J k/\wr.heap[gb]? = O (FL #[kv,I J (cnt+1:Nat),Z (O (aD sb 0)) (N cs) (N cs)] 182)/\wr.heap[sb]? = O (FL ((yD ss xs cs k).map (Value.int J)).toArray 3)/\
  Kept (λb=>b≠gb/\b≠sb) w wr/\M (H wr)=M (H w)) (λi _=>N cs-(intOf i).toNat)
 case atStart=>
  refine⟨0,Q4 _,rfl,?_,?_,Xc _ _ _ (λh=>h.1 rfl),by simp[World.setCell]⟩
  .have:=l9 HG.o 1 (I J (wrap64 ((cnt:Int)+1)));rw[p]at this
   first|exact this|(rw[p];exact this)
  .rw[yC (λe=>q.o e.symm),VM];exact HS.o
 case round=>
  obtain⟨k,hk,rfl,B,d,f,n⟩:=hrel;by_cases g:k<N cs
  .obtain⟨cb,aj,rfl,C⟩:=HC.o.get g;have P:=ZY (C k g) f (Ij.o (by omega) (aD cb aj) rfl);have az:=Qo HA.o g;have y:E cs k 0=cs[k]:=by simp[List.getD,g]
   have m:cs[k].toNat<N xs:=by omega
   obtain⟨xb,ak,rfl,qK⟩:=HX.o.get m;have Q:=ZY (qK _ m) f (z.o (aD xb ak) rfl);have c2:Am wr (aD gb 2)=O (Z (O (aD sb 0)) (N cs) (N cs)):=Jc B rfl;have c3:=Jc d (by rw[QM,QK,acd A.o g];rfl);have f3:=jM d k;have j:=ace (row:=xs) A.o g;rw[y]at j P;have R:Kl (E ss k 0):=R9.o _ (N8 (by have:=A.o;omega));have S:Kl (E xs cs[k].toNat 0):=Ga.o _ (N8 m);have W:((cs[k].toNat:Nat):Int)=cs[k]:=by omega
   obtain⟨t,D,G,K,Km⟩:=J5 B d f n j;clear B d f n j C qK y;generalize E ss k 0=sv at*;generalize E xs cs[k].toNat 0=xv at*;generalize G9:cs[k]=ck at*;clear G9;obtain⟨cn,rfl⟩:∃cn:Nat,ck=(cn:Int):=⟨ck.toNat,by omega⟩;simp only[Xu]at m Q;clear W c1 f1;obtain⟨u,l⟩:∃u,(qw wr (aD sb k) (I J (J8 sv xv))).drew=u:=⟨_,rfl⟩;have r:Kept (λb=>b≠sb) wr u:=by rw[<-l];exact(Xc wr (aD sb k) _ (λh=>h rfl)).trans ⟨rfl,rfl,rfl,Qs _,λ_ _ _=>rfl⟩
   have X:=Zh ((r.block gb (ZH.1 t.o).1 q.o).trans t.o);have aa:Hid (u.heap[sb]? = O (FL ((yD ss xs cs (k+1)).map (Value.int J)).toArray 3)):=by have h:=l9 D.o k (I J (J8 sv xv));rw[QG,<-List.map_set,Km.o]at h;rw[<-l];exact h
   have af:=Zh (G.o.trans (r.mono λ_ _ h=>h.2));have ag:Hid (M (H u)=M (H w)):=by
    have h:M (H u)=M (H wr):=by rw[<-l];show M (H (wr.setCell _ _))=_;simp[World.setCell]
    exact h.trans K.o
   have ah:=Zh l;clear r l t D G K Km HG HS HA A q R9 Ga HX HC z Ij p hcnt;go_wp2;go_region_with (refine(N7 sv xv _ R S).mono ?_;rintro e w4 ⟨rfl,rfl⟩)
   all_goals
    rw[ah.o];go_wp2;go_roundw
    case rel=>exact⟨k+1,by omega,by go_num,X.o,aa.o,af.o,ag.o⟩
    case measure=>simp[intOf];omega
  .have ai:k=N cs:=by omega
   subst ai;rw[acb A.o]at d;obtain⟨au,av,ax,ay⟩:=xA B d f n;clear B d f n;go_wp2
   (try simp only[Exit.inBlock,Exit.then])
   refine bodyPost_end (Xa rfl _ _ _) rfl ?_;exact⟨⟨_,rfl⟩,au.o,av.o,ax.o,ay.o⟩
section
open Go.Maps Go.WideMaps
structure fZ where
 gb:Nat
 sb:Nat
 k:ae
 cnt:Nat
 ss:List Int
def fZ.gr(g:fZ):Gr:=⟨g.k.xs,g.cnt,g.ss⟩
def fZ.own(g:fZ)(b:Nat):Prop:=b=g.gb∨b=g.sb∨ah.aT g.k=O b
def fZ.ptr(g:fZ):Value:=Y (O (aD g.gb 0))
def fZ.bump(row sc:List Int)(g:fZ):fZ:=⟨g.gb,g.sb,g.k,g.cnt+1,ik g.ss row sc⟩
structure fZ.At(tg ti:TypeId)(n:Nat)(g:fZ)(W:U):Prop where
 cells:W.heap[g.gb]? = O (FL #[g.k.val,I J g.cnt,Z (O (aD g.sb 0)) n n] tg)
 sums:W.heap[g.sb]? = O (FL (g.ss.map (Value.int J)).toArray ti)
 key:ah.At g.k W
 len:N g.ss=n
 ne:g.gb≠g.sb
 nk:ah.aT g.k≠O g.gb/\ah.aT g.k≠O g.sb
def fZ.At.keep{tg ti:TypeId}{n:Nat}{g:fZ}{A B:U}(h:g.At tg ti n A){s:Nat->Prop}(hk:Kept s A B)(hs:∀b,g.own b->s b):g.At tg ti n B:=
 ⟨(hk.block _ (ZH.1 h.cells).1 (hs _ (.inl rfl))).trans h.cells,(hk.block _ (ZH.1 h.sums).1 (hs _ (.inr (.inl rfl)))).trans h.sums,
  ah.keep h.key hk.size (λb d a=>hk.block b d (hs b (.inr (.inr a)))),h.len,h.ne,h.nk⟩
theorem fZ.At.lt{g:fZ}(h:g.At tg ti n A)(hb:g.own b):b<M (H A):=by
 rcases hb with rfl|rfl|hb
 .exact(ZH.1 h.cells).1
 .exact(ZH.1 h.sums).1
 .exact ah.AV h.key hb
structure oP(tg ti tp:TypeId)(n base bg:Nat)(gs:List fZ)(W:U)(v:KX):Prop where
 box:Am W (aD bg 0)=O v
 DC:W.frozen? (aD bg 0)=F
 own:W.ownsRow base tp 1 v (N gs) (gs.map fZ.ptr)
 at':∀g∈gs,g.At tg ti n W
 off:∀g∈gs,∀b,g.own b->base<=b/\v.ownBlock≠O b
 apart:gs.Pairwise λg h=>∀b,g.own b->¬h.own b
 low:bg<base
def bQ(bg:Nat)(v:KX)(gs:List fZ)(b:Nat):Prop:=b=bg∨v.ownBlock=O b∨∃g∈gs,g.own b
def oP.keep{tg ti tp:TypeId}{n base bg:Nat}{gs:List fZ}{A B:U}{v:KX}(h:oP tg ti tp n base bg gs A v){s:Nat->Prop}(hk:Kept s A B)(hs:∀b,bQ bg v gs b->s b):oP tg ti tp n base bg gs B v:=
 ⟨ZY h.box hk (hs _ (.inl rfl)),(Xh (hk.block _ (ZJ h.box) (hs _ (.inl rfl)))).trans h.DC,Xe h.own hk (λg a=>hs _ (.inr (.inl a))),
  λg a=>(h.at' g a).keep hk (λb d=>hs _ (.inr (.inr ⟨g,a,d⟩))),h.off,h.apart,h.low⟩
theorem oP.lt{tg ti tp:TypeId}{n base bg:Nat}{gs:List fZ}{A:U}{v:KX}(h:oP tg ti tp n base bg gs A v){b:Nat}(hb:bQ bg v gs b):b<M (H A):=by
 rcases hb with rfl|hb|⟨g,a,hb⟩
 .exact ZJ h.box
 .exact(Xf h.own hb).2
 .exact(h.at' g a).lt hb
theorem oP.more{gs:List fZ}{W3 W4 W5:U}{v':KX}(h:oP tg ti tp n base bg gs W v){g:fZ}
  (hb3:Bw W W3) (hg3:g.At tg ti n W3) (hbase:∀b,g.own b->base<=b) (hnew:∀b,g.own b->¬bQ bg v gs b)
  (hk4:Kept (λ_=>True) W3 W4) (hown5:W5.ownsRow base tp 1 v' (N gs+1) (gs.map fZ.ptr++[g.ptr])) (hg5:W4.grownBy W5 v.ownBlock) (hat:v'.ownBlock=v.ownBlock∨v'.ownBlock=O (M (H W4))) :
  oP tg ti tp n base bg (gs++[g]) (qw W5 (aD bg 0) v') v'/\Kept (λb=>b≠bg/\v.ownBlock≠O b) W (qw W5 (aD bg 0) v')/\
  ∀b,bQ bg v' (gs++[g]) b->bQ bg v gs b∨g.own b∨(M (H W)<=b/\b<M (H (qw W5 (aD bg 0) v'))):=by
 have k:Kept (λb=>b<M (H W)) W W3:=ZA hb3 (λb _ h=>h);have f:Kept (λb=>v.ownBlock≠O b) W4 W5:=Xd hg5 (λr e G=>G e);have l:Kept (λb=>b≠bg) W5 (qw W5 (aD bg 0) v'):=Xc _ _ _ (λh=>h rfl);have m:Kept (λb=>v.ownBlock≠O b) W W5:=((k.mono (t:=λb=>v.ownBlock≠O b) (λb a _=>a)).trans (hk4.mono λ_ _ _=>trivial)).trans f;have z:Kept (λb=>b≠bg/\v.ownBlock≠O b) W (qw W5 (aD bg 0) v'):=(m.mono λ_ _ h=>h.2).trans (l.mono λ_ _ h=>h.1);have p:Kept (λb=>b≠bg/\v.ownBlock≠O b) W3 (qw W5 (aD bg 0) v'):=((hk4.mono λ_ _ _=>trivial).trans (f.mono λ_ _ h=>h.2)).trans (l.mono λ_ _ h=>h.1);have q:∀b,v.ownBlock=O b->base<=b/\b<M (H W):=λb a=>Xf h.own a;have u:∀b,v'.ownBlock=O b->base<=b/\b<M (H W5):=λb a=>Xf hown5 a;have i:v.ownBlock≠O bg:=λe=>by have:=(q _ e).1;have:=h.low;omega
 have A:v'.ownBlock≠O bg:=λe=>by have:=(u _ e).1;have:=h.low;omega
 have B:M (H W)<=M (H W4):=Q6 hb3.size hk4.size;have C:M (H (qw W5 (aD bg 0) v'))=M (H W5):=by simp_all
 have D:Am W5 (aD bg 0)=O v:=ZY h.box m i;refine⟨⟨?_,?_,?_,?_,?_,?_,h.low⟩,z,?_⟩
 .grind [World.cell?_setCell_same']
 .rw[World.frozen?_setCell];exact(Xh (m.block _ (ZJ h.box) i)).trans h.DC
 .have:=Xe hown5 l (λg K=>by simp_all)
  simp_all
 .intro x d;rcases Ze.1 d with d|d
  .refine(h.at' x d).keep z (λb a=>⟨λe=>?_,(h.off x d b a).2⟩);have:=(h.off x d b a).1;have:=h.low;omega
  .rw[Xj]at d;subst d;exact hg3.keep p (λb a=>⟨λe=>hnew b a (.inl e),λe=>hnew b a (.inr (.inl e))⟩)
 .intro x d b a;have y:base<=b/\v.ownBlock≠O b/\b<M (H W3):=by
   rcases Ze.1 d with d|d
   .exact⟨(h.off x d b a).1,(h.off x d b a).2,Q0 ((h.at' x d).lt a) hb3.size⟩
   .rw[Xj]at d;subst d;exact⟨hbase b a,λe=>hnew b a (.inr (.inl e)),hg3.lt a⟩
  refine⟨y.1,λe=>?_⟩;rcases hat with j|j
  .simp_all
  .rw[j]at e
   cases e;have:=hk4.size;omega
 .rw[Xi]
  grind [oP.apart,bQ]
 .rintro b (a|a|⟨x,d,a⟩)
  .exact .inl (.inl a)
  .rcases hat with j|j
   .exact .inl (.inr (.inl (j ▸ a)))
   simp_all
  .rcases Ze.1 d with d|d
   .exact .inl (.inr (.inr ⟨x,d,a⟩))
   simp_all
theorem oP.bump{tg ti tp:TypeId}{n base bg:Nat}{gs:List fZ}{W W':U}{v:KX}(h:oP tg ti tp n base bg gs W v){i:Nat}(hi:i<N gs)(row sc:List Int)(hl:N (ik gs[i].ss row sc)=n)
  (hg:W'.heap[gs[i].gb]? = O (FL #[gs[i].k.val,I J (gs[i].cnt+1:Nat),Z (O (aD (gs[i].sb) 0)) n n] tg)) (hs:W'.heap[gs[i].sb]? = O (FL ((ik gs[i].ss row sc).map (Value.int J)).toArray ti))
  (hk:Kept (λb=>b≠gs[i].gb/\b≠gs[i].sb) W W'):oP tg ti tp n base bg (gs.modify i (fZ.bump row sc)) W' v:=by
 have f:gs[i]∈gs:=Qi hi;have l:=h.at' _ f;have g:=h.off _ f;have m:∀x∈gs.modify i (fZ.bump row sc),∃y∈gs,x.own=y.own:=by grind [fZ.bump,fZ.own,List.getElem_of_mem]
 refine⟨?_,?_,?_,?_,?_,?_,h.low⟩
 .exact ZY h.box hk ⟨λe=>by have p:=(g _ (.inl rfl)).1;have:=h.low;grind,λe=>by have p:=(g _ (.inr (.inl rfl))).1;have:=h.low;grind⟩
 .refine(Xh (hk.block _ (ZJ h.box) ⟨λe=>?_,λe=>?_⟩)).trans h.DC
  .have p:=(g _ (.inl rfl)).1;have:=h.low;grind
  .have p:=(g _ (.inr (.inl rfl))).1;have:=h.low;grind
 .have D:(gs.modify i (fZ.bump row sc)).map fZ.ptr=gs.map fZ.ptr:=by grind [List.ext_getElem,fZ.ptr,fZ.bump,List.length_map]
  rw[Jd,D];refine Xe h.own hk (λb d=>⟨λe=>(g _ (.inl rfl)).2 (e ▸ d),λe=>(g _ (.inr (.inl rfl))).2 (e ▸ d)⟩)
 .intro x z;obtain⟨j,r,rfl⟩:=Qv z;rw[Jd]at r;rw[XV];by_cases e:i=j
  .subst e;rw[Qu rfl];refine⟨hg,hs,ah.keep l.key hk.size (λb d q=>hk.block b d ⟨λe=>l.nk.1 (e ▸ q),λe=>l.nk.2 (e ▸ q)⟩),hl,l.ne,l.nk⟩
  .rw[QC e];have hd:∀b,gs[i].own b->¬gs[j].own b:=by
    rcases Nat.lt_or_gt_of_ne e with t|u
    .exact Zl.1 h.apart i j hi r t
    .exact λb p G=>Zl.1 h.apart j i r hi u b G p
   exact(h.at' _ (Qi r)).keep hk (λb d=>⟨λe=>hd b (.inl e) d,λe=>hd b (.inr (.inl e)) d⟩)
 .intro x z b d;obtain⟨y,hy,e⟩:=m x z;rw[e]at d
  grind [oP.off]
 .rw[Zl];intro a c B C A;rw[Jd]at B C;have:=Zl.1 h.apart a c B C A
  grind [fZ.own,fZ.bump]
end
section
open Go.Maps Go.WideMaps
def dW(x:Int):Prop:=-2147483648<=x/\x<=2147483648
def uW{x:Int}(h:dW x):(Lit.int J x).wf=true:=WalkArith.wf_i64 (by unfold dW at h;omega)
def amU(a b c d:Int):Value:=.agg #[I J a,I J b,I J c,I J d]
def rY(xs:List Int):Value:=amU (E xs 0 0) (E xs 1 0) (E xs 2 0) (E xs 3 0)
theorem VO{ys:List Int}(hl:N xs=N ys)(h4:N ys<=4)(h:rY xs=rY ys):xs=ys:=by unfold rY amU at h;simp only[Value.agg.injEq,Array.mk.injEq,List.cons.injEq,Value.int.injEq,true_and,and_true]at h;obtain⟨a,b,d,e⟩:=h;apply XT hl;grind
def VP{k:TypeId}{q:IntKind}(A:ArrKey P k e 4)(he:P.underlying e=O (.int q))(hsz:∃m,P.types.size=m+1){a b c d:Int}(wa:(Lit.int q a).wf=T)(wb:(Lit.int q b).wf=T)(wc:(Lit.int q c).wf=T)(wd:(Lit.int q d).wf=T) :
  keyOf P k (.agg #[.int q a,.int q b,.int q c,.int q d])=O (.string (keyBytes [.int q a,.int q b,.int q c,.int q d])):=by have f:=A.keyType hsz;obtain⟨m,g⟩:=hsz;unfold keyOf;simp only[A.hu];rw[Qu (by simp[f,Value.formed,A.hu,A.size]),g];unfold Program.keyLits;simp only[A.hu,Value.cells];rw[Qu (by rw[A.size];rfl),show List.range 4=[0,1,2,3] from rfl,List.mapM_cons,List.mapM_cons,List.mapM_cons,List.mapM_cons,List.mapM_nil];simp[A.one,Program.keyLits,he,wa,wb,wc,wd]
def ll(h:∀x∈xs,dW x)(i:Nat):dW (E xs i 0):=by
 by_cases a:i<N xs
 .exact h _ (N8 a)
 .have:E xs i 0=0:=by simp[List.getD,List.getElem?_eq_none (Nat.le_of_not_lt a)]
  rw[this];unfold dW;omega
def Ik{k:TypeId}(A:ArrKey P k e 4)(he:P.underlying e=O (.int J))(hsz:∃m,P.types.size=m+1)(h:∀x∈xs,dW x):∃l,keyOf P k (rY xs)=O l:=
 ⟨_,VP A he hsz (uW (ll h 0)) (uW (ll h 1)) (uW (ll h 2)) (uW (ll h 3))⟩
structure afD(ks:List (List Int))(D:DataW Unit)(xs:List Int)(l:Lit):Prop where
 hit:∀i,jE ks xs=O i->Maps.has D l=T/\D.atKey l (.lit (.int J 0))=.lit (.int J i)
 miss:jE ks xs=E5->Maps.has D l=F
def kC(P:Program)(tk te:TypeId)(nk bm n:Nat)(ks:List (List Int))(W:U):Prop:=
 ∃D:DataW Unit,W.ownsMap P tk (plainElem P te) bm n D/\∀xs l,N xs=nk->keyOf P tk (rY xs)=O l->afD ks D xs l
def kC.keep{B:U}(h:kC P tk te nk bm n ks A)(hb:B.heap[bm]? = A.heap[bm]?):kC P tk te nk bm n ks B:=by obtain⟨D,⟨b,a,d,e⟩,f⟩:=h;exact⟨D,⟨b,a,hb.trans d,e⟩,f⟩
theorem kC.lt{P:Program}{tk te:TypeId}{nk bm n:Nat}{ks:List (List Int)}{A:U}(h:kC P tk te nk bm n ks A):bm<M (H A):=by obtain⟨D,a,_⟩:=h;exact a.lt
def kC.fresh(P:Program)(tk te:TypeId)(nk:Nat)(w:U):kC P tk te nk (M (H w)) 0 [] (w.alloc (.map #[] 0)):=
 ⟨_,World.ownsMap_made w P tk _,λxs l _ _=>⟨λi h=>by simp[jE]at h,λ_=>rfl⟩⟩
theorem uX{k:List Int}(h:k≠xs):jE (ks++[k]) xs=jE ks xs:=by unfold jE;grind
def xu{k:List Int}(h:jE ks k=E5):jE (ks++[k]) k=O (N ks):=by unfold jE at*;rw[List.findIdx?_append,h];simp
theorem kC.put(K:Keyed P tk){D:DataW Unit}(hk:∀xs l,N xs=nk->keyOf P tk (rY xs)=O l->afD ks D xs l)(hD:IsMap D)(h4:nk<=4)
  {k:List Int} {kl:Lit} (hkn:N k=nk) (hkl:keyOf P tk (rY k)=O kl) (hmiss:jE ks k=E5) (hown:W'.ownsMap P tk (plainElem P te) bm n (D.put kl (.lit (.int J (N ks))))) :
  kC P tk te nk bm n (ks++[k]) W':=by
 refine⟨_,hown,λxs l j d=>?_⟩;by_cases e:k=xs
 .subst e;have f:l=kl:=by rw[hkl]at d;cases d;rfl
  subst f;refine⟨λi a=>?_,λa=>?_⟩
  .rw[xu hmiss]at a
   cases a;exact⟨has_put_same hD (K.key hkl) _,atKey_put_same hD (K.key hkl) _ _⟩
  .rw[xu hmiss]at a
   cases a
 .have b:l≠kl:=λf=>by subst f;exact e (VO (hkn.trans j.symm) (by omega) (K.inj hkl d))
  have g:=hk xs l j d;refine⟨λi a=>?_,λa=>?_⟩
  .rw[uX e]at a;rw[has_put_other b,atKey_put_other b];exact g.hit i a
  .rw[uX e]at a;rw[has_put_other b];exact g.miss a
def yE(g:fZ):Prop:=∀s∈g.ss,-2147483648*((g.cnt:Int)+1)<=s/\s<=2147483648*((g.cnt:Int)+1)
def zy{g:fZ}(h:yE g)(hc:g.cnt<=1000000):∀s∈g.ss,Kl s:=λs a=>by have:=h s a;unfold Kl;omega
def acf{s:Int}(h:s∈ik ss row cols):∃a∈ss,∃c∈cols,s=J8 a (E row c.toNat 0):=by unfold ik at h;obtain⟨i,b,rfl⟩:=Qv h;rw[List.length_zipWith]at b;rw[List.getElem_zipWith];exact⟨_,Qi (by omega),_,Qi (by omega),rfl⟩
def Bg{g:fZ}(h:yE g)(hr:∀v∈row,dW v):yE (g.bump row sc):=by
 intro s e;obtain⟨a,d,c,_,rfl⟩:=acf e;have f:=h a d;have b:=ll hr c.toNat;unfold dW at b;unfold J8;show -2147483648*(((g.cnt+1:Nat):Int)+1)<=_/\_<=2147483648*(((g.cnt+1:Nat):Int)+1);generalize E row c.toNat 0=v at*;have i:(0:Int)<=(g.cnt:Int):=Int.natCast_nonneg _;split
 .constructor <;> omega
 .split
  .constructor <;> omega
  .constructor <;> omega
def rM(gb sb:Nat)(k:ae)(n:Nat):yE ⟨gb,sb,k,0,List.replicate n 1073741824⟩:=by intro s a;obtain⟨_,rfl⟩:=List.mem_replicate.1 a;simp
def Tryz.VR:ArrKey V 209 3 4:=⟨Tryz.underlying209,by kernel_rfl,by kernel_rfl,by kernel_rfl⟩
def Tryz.Mi:∃m,V.types.size=m+1:=⟨V.types.size-1,by kernel_rfl⟩
def Tryz.yF:Go.Maps.Keyed V 209:=Go.Maps.Keyed.of_law Tryz.VR.law
def Tryz.ai0(w:U):(zeroValue 3).run V w=.ok (I J 0) w:=by kernel_rfl
end
section
open Go.Maps Go.WideMaps
structure GI(P:Program)(tg ti tp tk:TypeId)(kc sc:ae)(w:U)(pre:List ae)(gs:List fZ)(o1:Nat->Prop)(W:U)(v:KX):Prop where
 fold:gs.map fZ.gr=pre.foldl (λa x=>stepG kc.xs sc.xs a x.xs) (cK kc.xs sc.xs)
 xE:oP tg ti tp (N sc.xs) (M (H w)+5) (M (H w)+2) gs W v
 map:kC P tk ti (N kc.xs) (M (H w)+3) (N pre+1) (gs.map (·.k.xs)) W
 sums:∀g∈gs,yE g/\g.cnt<=N pre
 bk:Am W (aD (M (H w)) 0)=O kc.val
 bs:Am W (aD (M (H w)+1) 0)=O sc.val
 bn:Am W (aD (M (H w)+4) 0)=O (.map (O (M (H w)+3)))
 below:Bw w W
 iff:∀b,o1 b↔bQ (M (H w)+2) v gs b∨b=M (H w)+3
def tQ{gs:List fZ}(h:oP tg ti tp n base bg gs A v)(hb:bQ bg v gs b):b=bg∨base<=b:=by
 rcases hb with rfl|hb|⟨g,a,hb⟩
 .exact .inl rfl
 .exact .inr (Xf h.own hb).1
 .exact .inr (h.off g a b hb).1
def GI.keep{P:Program}{tg ti tp tk:TypeId}{kc sc:ae}{w:U}{pre:List ae}{gs:List fZ}{o1:Nat->Prop}{A B:U}{v:KX}(h:GI P tg ti tp tk kc sc w pre gs o1 A v){s:Nat->Prop}(hk:Kept s A B)(hs:∀b,o1 b∨b<M (H w)+5->s b):GI P tg ti tp tk kc sc w pre gs o1 B v:=by
 refine⟨h.fold,h.xE.keep hk (λb a=>hs b (.inl ((h.iff b).2 (.inl a)))),h.map.keep (hk.block _ h.map.lt (hs _ (.inl ((h.iff _).2 (.inr rfl))))),h.sums,ZY h.bk hk (hs _ (.inr ?_)),ZY h.bs hk (hs _ (.inr ?_)),ZY h.bn hk (hs _ (.inr ?_)),h.below.trans (hk.below h.below.size (λb a=>hs b (.inr (by omega)))),h.iff⟩
 .show (M (H w))<_;omega
 .show (M (H w))+1<_;omega
 .show (M (H w))+4<_;omega
def awW{aI:List Int}(h:N aI<=4):aI.map (Value.int J)++List.drop (N aI) [Value.int J 0,I J 0,I J 0,I J 0]=[I J (E aI 0 0),I J (E aI 1 0),I J (E aI 2 0),I J (E aI 3 0)]:=by
 match aI,h with
 |[],_=>rfl
 |[_],_=>rfl
 |[_,_],_=>rfl
 |[_,_,_],_=>rfl
 |[_,_,_,_],_=>rfl
attribute [local go_sem] Oper.semAt_some
def afE(W:U)(aI:List Int)(hl:N aI<=4)(ty:TypeId) :
  (Builtin.copy_ #[23,23] ty #[Z (O (aD (M (H W)+1) 0)) 4 4,Z (O (aD (M (H W)) 0)) (N aI) (N aI)]).run V ((W.alloc (FL (aI.map (Value.int J)).toArray 3)).alloc (FL #[I J 0,I J 0,I J 0,I J 0] 209)) =
   .ok (I J (N aI)) ((W.alloc (FL (aI.map (Value.int J)).toArray 3)).alloc (FL #[I J (E aI 0 0),I J (E aI 1 0),I J (E aI 2 0),I J (E aI 3 0)] 209)):=by
 have b:M (H (W.alloc (FL (aI.map (Value.int J)).toArray 3)))=M (H W)+1:=by simp
 have g:W.heap[M (H W)]? = none:=by simp
 have h:=pR (P:=V) ((W.alloc (FL (aI.map (Value.int J)).toArray 3)).alloc (FL #[I J 0,I J 0,I J 0,I J 0] 209)) 23 23 ty 3 1 (M (H (W.alloc (FL (aI.map (Value.int J)).toArray 3)))) 4 4 (O (aD (M (H W)) 0)) (N aI) (N aI)
  #[.int J 0,.int J 0,.int J 0,.int J 0] 209 (aI.map (Value.int J)) Tryz.underlying23 Tryz.Cm (iX _ _) hl (by simp)
  (λ_=>⟨_,rfl,λj u e=>by
   rw[iw,Q5];refine Jc ((Below.heap_alloc (W.alloc (FL (aI.map (Value.int J)).toArray 3)) _ _ (by simp)).trans (iX W _)) ?_;rw[QM];exact e⟩) (by simp;omega) (λu f=>by obtain⟨a,_,rfl⟩:=Zi.1 f;rfl)
 rw[nX,b]at h;rw[h];have d:=awW hl;simp only[Q8];exact congrArg (λl=>Result.ok (Value.int J (N aI)) ((W.alloc (FL (aI.map (Value.int J)).toArray 3)).alloc (FL (List.toArray l) 209))) d
def Tryz.ai1:(V.info? 177).map (λi=>(i.zero,i.size,i.bytes))=O (O (Y E5),1,8):=by kernel_rfl
def Il(W w4:U)(n base bg:Nat)(gs:List fZ)(v:KX)(hG:oP 182 3 177 n base bg gs W v)(hlow:base<=M (H W))(hgl:N gs<=2000000)(k:ae)(hk:ah.At k W)(hkb:∀b,ah.aT k=O b->base<=b/\¬bQ bg v gs b)
  (h2:w4.heap[M (H W)+2]? = O (FL #[k.val,I J 0,Z (O (aD (M (H W)+1) 0)) n n] 182)) (h1:w4.heap[M (H W)+1]? = O (FL (List.replicate n (Value.int J 1073741824)).toArray 3)) (hb:Bw W w4) (hs:M (H w4)=M (H W)+3) :
  ∃i l,(Builtin.append_ #[175,175] 175 #[v,Z (O (aD (M (H w4)) 0)) 1 1]).run V (w4.alloc (FL #[Y (O (aD (M (H W)+2) 0))] 177))=.ok i l/\
   Am l (aD bg 0)=O v/\l.frozen? (aD bg 0)=F/\(∃a m c,i = Z a m c)/\
   oP 182 3 177 n base bg (gs++[⟨M (H W)+2,M (H W)+1,k,0,List.replicate n 1073741824⟩]) (qw l (aD bg 0) i) i/\Kept (λb=>b≠bg/\v.ownBlock≠O b) W (qw l (aD bg 0) i)/\
   ∀b,bQ bg i (gs++[⟨M (H W)+2,M (H W)+1,k,0,List.replicate n 1073741824⟩]) b->bQ bg v gs b∨ah.aT k=O b∨(M (H W)<=b/\b<M (H (qw l (aD bg 0) i))):=by
 obtain⟨i0,hi,C,D,G⟩:=Xk Tryz.ai1;have Y6:(w4.alloc (FL #[Y (O (aD (M (H W)+2) 0))] 177)).ownsRow base 177 1 v (N gs) (gs.map fZ.ptr):=by refine Xe hG.own (s:=λb=>b<M (H W)) ((ZA hb (λb _ h=>h)).trans (ZE _ _)) (λg hg=>(Xf hG.own hg).2)
 obtain⟨i,l,K,p,f,_,L⟩:=Xz (P:=V) (w4.alloc (FL #[Y (O (aD (M (H W)+2) 0))] 177)) base 175 175 177 i0 (Y E5) 1 8 Tryz.underlying175 hi C D G rfl (by decide) v (N gs) (gs.map fZ.ptr) Y6
  (aD (M (H w4)) 0) 1 1 [Y (O (aD (M (H W)+2) 0))] rfl (λj u R=>by
   match j,R with
   |0,R=>cases R;exact Jc (iX w4 _) rfl) (λu X=>by simp at X;subst X;rfl) (by unfold maxLen;omega) (by omega) (by simp;omega)
 have t:∀b,ah.aT k=O b->b<M (H W):=λb d=>ah.AV hk d;have B:(⟨M (H W)+2,M (H W)+1,k,0,List.replicate n 1073741824⟩:fZ).At 182 3 n w4:=by
  refine⟨h2,by rw[List.map_replicate];exact h1,ah.keep hk hb.size (λb d _=>hb.block b d),by simp,by show M (H W)+2≠M (H W)+1;omega,λe=>?_,λe=>?_⟩
  .have:=t _ e;have h':M (H W)+2<M (H W):=this;omega
  .have:=t _ e;have h':M (H W)+1<M (H W):=this;omega
 have y:∀b,(⟨M (H W)+2,M (H W)+1,k,0,List.replicate n 1073741824⟩:fZ).own b->¬bQ bg v gs b:=by
  rintro b (d|d|d) Q
  .have:=hG.lt Q;have e:b=M (H W)+2:=d;omega
  .have:=hG.lt Q;have e:b=M (H W)+1:=d;omega
  .exact(hkb b d).2 Q
 have q:∀b,(⟨M (H W)+2,M (H W)+1,k,0,List.replicate n 1073741824⟩:fZ).own b->base<=b:=by
  rintro b (d|d|d)
  .have e:b=M (H W)+2:=d;omega
  .have e:b=M (H W)+1:=d;omega
  .exact(hkb b d).1
 have z:i.ownBlock=v.ownBlock∨i.ownBlock=O (M (H (w4.alloc (FL #[Y (O (aD (M (H W)+2) 0))] 177)))):=L;obtain⟨m1,m2,m3⟩:=hG.more hb B q y (ZE w4 _) p f z;have A:v.ownBlock≠O bg:=λe=>by have:=(Xf hG.own e).1;have:=hG.low;omega
 have S:Kept (λb=>v.ownBlock≠O b) W l:=(((ZA hb (λb d _=>d)).trans (ZE (s:=λb=>v.ownBlock≠O b) _ _))).trans (Xd f (λr e K=>K e));refine⟨i,l,K,ZY hG.box S A,(Xh (S.block _ (ZJ hG.box) A)).trans hG.DC,Xg p,m1,m2,?_⟩;intro b d;have aa:M (H W)+3<=M (H (qw l (aD bg 0) i)):=by
  have h3:M (H w4)<=M (H (qw l (aD bg 0) i)):=by
   have h4:=f.size;rw[Xm]at h4;have h5:M (H (qw l (aD bg 0) i))=M (H l):=by simp[World.setCell]
   omega
  omega
 rcases m3 b d with h|(h|h|h)|h
 .exact .inl h
 .have e:b=M (H W)+2:=h;exact .inr (.inr ⟨by omega,by omega⟩)
 .have e:b=M (H W)+1:=h;exact .inr (.inr ⟨by omega,by omega⟩)
 .exact .inr (.inl h)
 .exact .inr (.inr h)
def Ah(w:U)(kv sv:KX):World:=
 ((((w.alloc (FL #[kv] 23)).alloc (FL #[sv] 23)).alloc (FL #[Z E5 0 0] 175)).alloc (.map #[] 0)).alloc (FL #[.map (O (M (H w)+1+1+1))] 208)
def VS(w:U)(kv sv:KX)(n nk:Nat) :
  oP 182 3 177 n (M (H w)+5) (M (H w)+2) [] (Ah w kv sv) (Z E5 0 0)/\kC V 209 3 nk (M (H w)+3) 0 [] (Ah w kv sv)/\
  Am (Ah w kv sv) (aD (M (H w)) 0)=O kv/\Am (Ah w kv sv) (aD (M (H w)+1) 0)=O sv/\Am (Ah w kv sv) (aD (M (H w)+4) 0)=O (.map (O (M (H w)+3)))/\
  Bw w (Ah w kv sv)/\M (H (Ah w kv sv))=M (H w)+5:=by
 unfold Ah;obtain⟨i,a⟩:=eX (w.alloc (FL #[kv] 23));have L:i.heap[M (H w)]? = O (FL #[kv] 23):=by rw[<-a];exact iX _ _
 have v:M (H i)=M (H w)+1:=by rw[<-a];simp
 have y:Bw w i:=by rw[<-a];exact bJ _ _
 rw[a];obtain⟨j,b⟩:=eX (i.alloc (FL #[sv] 23));have P:j.heap[M (H w)+1]? = O (FL #[sv] 23):=by rw[<-b,<-v];exact iX _ _
 have z:M (H j)=M (H w)+2:=by rw[<-b];simp[v]
 have A:Bw i j:=by rw[<-b];exact bJ _ _
 rw[b];obtain⟨g,d⟩:=eX (j.alloc (FL #[Z E5 0 0] 175));have a3:g.heap[M (H w)+2]? = O (FL #[Z E5 0 0] 175):=by rw[<-d,<-z];exact iX _ _
 have B:M (H g)=M (H w)+3:=by rw[<-d];simp[z]
 have C:Bw j g:=by rw[<-d];exact bJ _ _
 rw[d];have t:=kC.fresh V 209 3 nk g;rw[B]at t;obtain⟨q,e⟩:=eX (g.alloc (.map #[] 0));have D:M (H q)=M (H w)+4:=by rw[<-e];simp[B]
 have G:Bw g q:=by rw[<-e];exact bJ _ _
 rw[e]at t;rw[e];obtain⟨f,r⟩:=eX (q.alloc (FL #[.map (O (M (H w)+1+1+1))] 208));have a5:f.heap[M (H w)+4]? = O (FL #[.map (O (M (H w)+3))] 208):=by rw[<-r,<-D];exact iX _ _
 have Q:M (H f)=M (H w)+5:=by rw[<-r];simp[D]
 have R:Bw q f:=by rw[<-r];exact bJ _ _
 rw[r];have k:=R;have l:Bw g f:=G.trans (k.mono G.size);have m:Bw j f:=C.trans (l.mono C.size);have p:Bw i f:=A.trans (m.mono A.size);have u:Bw w f:=y.trans (p.mono y.size);have K:f.heap[M (H w)+2]? = O (FL #[Z E5 0 0] 175):=(l.block _ (by omega)).trans a3;refine⟨⟨Jc K rfl,jM K 0,Xl _ _ _ _,λ_ h=>by simp at h,λ_ h=>by simp at h,List.Pairwise.nil,by omega⟩,t.keep (k.block _ (by omega)),Jc ((p.block _ (by omega)).trans L) rfl,Jc ((m.block _ (by omega)).trans P) rfl,Jc a5 rfl,u,Q⟩
end
section
open Go.Maps Go.WideMaps
def EY{xs:List KX}(h:A.ownsRow base e 1 v n xs):∃a cap,v=Z a n cap:=by
 rcases h.2 with⟨rfl,h0⟩|⟨g',cap,cur,rfl,_⟩
 .subst h0;exact⟨_,_,rfl⟩
 .exact⟨_,_,rfl⟩
def wK{xs:List KX}(h:A.ownsRow base e 1 v n xs)(hi:i<n):∃g cap,v=Z (O (aD g 0)) n cap/\Am A (aD g i)=xs[i]?:=by
 have b:N xs=n*1:=h.1;rcases h.2 with⟨rfl,h0⟩|⟨g',cap,cur,rfl,_,hg,h1,h2,h3,h4⟩
 .omega
 .refine⟨g',cap,rfl,?_⟩;have a:xs[i]? = (cur.toList.take (n*1))[i]?:=by rw[h4]
  rw[a,List.getElem?_take_of_lt (by omega)];simp[World.cell?,hg]
def afF{k:List Int}(h:jE ks k=O i):∃a:i<N ks,ks[i]=k:=by unfold jE at h;rw[List.findIdx?_eq_some_iff_getElem]at h;obtain⟨a,b,_⟩:=h;exact⟨a,Zn b⟩
def Sa(h:∀v∈row,dW v):∀v∈aB row cols,dW v:=by intro v a;unfold aB at a;obtain⟨c,_,rfl⟩:=Zi.1 a;exact ll h _
def afG{gs:List fZ}(hf:gs.map fZ.gr=pre.foldl (λa x=>stepG kc sc a x.xs) (cK kc sc))(hi:jE (gs.map (·.k.xs)) (aB x.xs kc)=O i) :
  (gs.modify i (fZ.bump x.xs sc)).map fZ.gr=(pre++[x]).foldl (λa x=>stepG kc sc a x.xs) (cK kc sc):=by
 rw[Zv,<-hf];show _=stepG kc sc (gs.map fZ.gr) x.xs;unfold stepG;have e:(gs.map fZ.gr).map Gr.key=gs.map (·.k.xs):=by rw[Zm];rfl
 rw[e,hi];simp only;apply XT (by simp);intro j b d;rw[XU,XV,XV,XU];split <;> rfl
def acg{gs:List fZ}(hf:gs.map fZ.gr=pre.foldl (λa x=>stepG kc sc a x.xs) (cK kc sc))(hi:jE (gs.map (·.k.xs)) (aB x.xs kc)=E5){g:fZ}(hg:g.gr=mR (aB x.xs kc) (N sc)) :
  ((gs++[g]).modify (N gs) (fZ.bump x.xs sc)).map fZ.gr=(pre++[x]).foldl (λa x=>stepG kc sc a x.xs) (cK kc sc):=by
 rw[Zv,<-hf];show _=stepG kc sc (gs.map fZ.gr) x.xs;unfold stepG;have e:(gs.map fZ.gr).map Gr.key=gs.map (·.k.xs):=by rw[Zm];rfl
 rw[e,hi];simp only;have f:(gs++[g]).modify (N gs) (fZ.bump x.xs sc)=gs++[g.bump x.xs sc]:=by
  apply XT (by simp);intro j l i;rw[XV];by_cases d:j<N gs
  .rw[QC (by omega),List.getElem_append_left d,List.getElem_append_left d]
  .have b:j=N gs:=by simp at i;omega
   subst b;simp
 rw[f,Ql,List.map_singleton];congr 2;show (⟨g.k.xs,g.cnt+1,ik g.ss x.xs sc⟩:Gr)=mQ x.xs sc _;rw[<-hg];rfl
def VT(W:U)(nk bm n:Nat)(ks:List (List Int))(hM:kC V 209 3 nk bm n ks W)(aI:List Int)(hvl:N aI=nk)(h4:nk<=4)(hn:n<2000000)(hkl:N ks<=2000000)(hsm:∀v∈aI,dW v) :
  (∀i,jE ks aI=O i->(Instr.lookup 208 (.map (O bm)) (rY aI) T).run V W=.ok (.tuple #[I J i,EP T]) W)/\
  (jE ks aI=E5->(Instr.lookup 208 (.map (O bm)) (rY aI) T).run V W=.ok (.tuple #[I J 0,EP F]) W/\
   ∃W',(Instr.mapUpdate 208 (.map (O bm)) (rY aI) (I J (N ks))).run V W=.ok () W'/\kC V 209 3 nk bm (n+1) (ks++[aI]) W'/\W.grownBy W' (O bm)):=by
 obtain⟨D,f,p⟩:=hM;obtain⟨q,b⟩:=Ik (xs:=aI) Tryz.VR Tryz.underlying3 Tryz.Mi hsm;have m:=p aI q hvl b;obtain⟨v,ps,g,r⟩:=f.look_ok Tryz.yF Tryz.underlying208 (Tryz.ai0 W) (plainElem_int (H:=Unit) Tryz.underlying3 (a:=0) rfl) b;obtain⟨c,rfl,t,_⟩:=plainElem_int_inv Tryz.underlying3 r;have d:D.atKey q (.lit (.int J 0))=.lit (.int J c):=congrArg Prod.fst t;refine⟨λi l=>?_,λl=>⟨?_,?_⟩⟩
 .obtain⟨k,u⟩:=m.hit i l;rw[u]at d;simp only[DataW.lit.injEq,Lit.int.injEq,true_and]at d;have e:(i:Int)=c:=d;rw[g,k,e]
 .have k:=m.miss l;rw[atKey_of_not_has k]at d;simp only[DataW.lit.injEq,Lit.int.injEq,true_and]at d;have e:(0:Int)=c:=d;rw[g,k,<-e]
 .obtain⟨W',y,j,z⟩:=f.update Tryz.yF Tryz.underlying208 (by unfold maxLen;omega) b (plainElem_int (H:=Unit) Tryz.underlying3 (a:=(N ks:Int)) (WalkArith.wf_i64 (by omega)));exact⟨W',y,kC.put Tryz.yF p f.isMap h4 hvl b l j,z⟩
end
section
open Go.Maps Go.WideMaps
def kC.mono{P:Program}{tk te:TypeId}{nk bm n m:Nat}{ks:List (List Int)}{A:U}(h:kC P tk te nk bm n ks A)(hn:n<=m):kC P tk te nk bm m ks A:=by obtain⟨D,a,b⟩:=h;exact⟨D,a.mono hn,b⟩
def VU{gs:List fZ}(b:Nat):bQ bg v (gs.modify i (fZ.bump row sc)) b↔bQ bg v gs b:=by
 unfold bQ;refine or_congr ZI (or_congr ZI ⟨?_,?_⟩)
 .rintro⟨x,e,a⟩;obtain⟨j,d,rfl⟩:=Qv e;rw[Jd]at d;refine⟨gs[j],Qi d,?_⟩;rw[XV]at a;split at a
  .exact a
  .exact a
 .rintro⟨x,e,a⟩;obtain⟨j,d,rfl⟩:=Qv e;refine⟨(gs.modify i (fZ.bump row sc))[j]'(by rw[Jd];exact d),Qi _,?_⟩;rw[XV];split
  .exact a
  .exact a
def GI.afH{kc sc:ae}{gs:List fZ}{Yq:U}
  (hgr:oP tg ti tp (N sc.xs) (M (H w)+5) (M (H w)+2) gs Yq v) (hmap:kC P tk ti (N kc.xs) (M (H w)+3) (N pre+2) (gs.map (·.k.xs)) Yq) (hsum:∀g∈gs,yE g/\g.cnt<=N pre)
  (hbk:Am Yq (aD (M (H w)) 0)=O kc.val) (hbs:Am Yq (aD (M (H w)+1) 0)=O sc.val) (hbn:Am Yq (aD (M (H w)+4) 0)=O (.map (O (M (H w)+3)))) (hbel:Bw w Yq)
  (hi:i<N gs) (Y7:(gs.modify i (fZ.bump x.xs sc.xs)).map fZ.gr=(pre++[x]).foldl (λa x=>stepG kc.xs sc.xs a x.xs) (cK kc.xs sc.xs)) (hsm:∀v∈x.xs,dW v)
  (hg:W'.heap[gs[i].gb]? = O (FL #[gs[i].k.val,I J (gs[i].cnt+1:Nat),Z (O (aD (gs[i].sb) 0)) (N sc.xs) (N sc.xs)] tg)) (hs:W'.heap[gs[i].sb]? = O (FL ((ik gs[i].ss x.xs sc.xs).map (Value.int J)).toArray ti))
  (hk:Kept (λb=>b≠gs[i].gb/\b≠gs[i].sb) Yq W') :
  GI P tg ti tp tk kc sc w (pre++[x]) (gs.modify i (fZ.bump x.xs sc.xs)) (λb=>bQ (M (H w)+2) v gs b∨b=M (H w)+3) W' v:=by
 have f:=Qi hi;have d:∀b,b<M (H w)+5->b≠gs[i].gb/\b≠gs[i].sb:=λb r=>by have l:=(hgr.off _ f gs[i].gb (.inl rfl)).1;have p:=(hgr.off _ f gs[i].sb (.inr (.inl rfl))).1;omega
 have q:N (ik gs[i].ss x.xs sc.xs)=N sc.xs:=jU (hgr.at' _ f).len;refine⟨Y7,hgr.bump hi x.xs sc.xs q hg hs hk,?_,?_,ZY hbk hk (d _ (by show M (H w)<_;omega)),ZY hbs hk (d _ (by show M (H w)+1<_;omega)),ZY hbn hk (d _ (by show M (H w)+4<_;omega)),hbel.trans (hk.below hbel.size (λb r=>d b (by omega))),λb=>?_⟩
 .have e:(gs.modify i (fZ.bump x.xs sc.xs)).map (·.k.xs)=gs.map (·.k.xs):=by apply XT (by simp);intro j l p;rw[XU,XU,XV];split <;> rfl
  rw[e,QI,List.length_singleton];exact hmap.keep (hk.block _ hmap.lt (d _ (by omega)))
 .intro g m;obtain⟨j,n,rfl⟩:=Qv m;rw[Jd]at n;rw[XV,QI,List.length_singleton];have l:=hsum _ (Qi n);split
  .exact⟨Bg l.1 hsm,by show gs[j].cnt+1<=_;omega⟩
  .exact⟨l.1,by omega⟩
 .show _↔_
  rw[VU]
theorem Cn(kc sc:List Int):∀(pre:List ae) (a:List Gr),N (pre.foldl (λa x=>stepG kc sc a x.xs) a)<=N a+N pre
 |[],a=>by simp
 |x::l,a=>by
  rw[QY];have h:=Cn kc sc l (stepG kc sc a x.xs);have h1:N (stepG kc sc a x.xs)<=N a+1:=by unfold stepG;grind
  rw[QJ];omega
theorem GI.len{kc sc:ae}{gs:List fZ}{o1:Nat->Prop}(h:GI P tg ti tp tk kc sc w pre gs o1 A v):N gs<=N pre+1:=by
 have a:=congrArg N h.fold;rw[Q8]at a;have b:=Cn kc.xs sc.xs pre (cK kc.xs sc.xs);have d:N (cK kc.xs sc.xs)<=1:=by unfold cK;split <;> simp
 omega
def aqL{gs:List fZ}(h:oP tg ti tp n base bg gs A v)(hx:∀b,ah.aT x=O b->¬bQ bg v gs b)(hi:i<N gs):∀a,x.ad=O a->a.block≠gs[i].gb/\a.block≠gs[i].sb:=by
 intro a f;have d:ah.aT x=O a.block:=by show x.ad.map _=_;rw[f];rfl
 exact⟨λe=>hx _ d (.inr (.inr ⟨gs[i],Qi hi,.inl e⟩)),λe=>hx _ d (.inr (.inr ⟨gs[i],Qi hi,.inr (.inl e)⟩))⟩
theorem Mj(w Yq:U)(gs:List fZ)(v:KX)(sc x:ae)(hgr:oP 182 3 177 (N sc.xs) (M (H w)+5) (M (H w)+2) gs Yq v)(hbel:Bw w Yq)(hsc:sc.At w)(hsl:N sc.xs<=4)(hx:ah.At x Yq)(hxo:∀b,ah.aT x=O b->¬bQ (M (H w)+2) v gs b)
  (hsum:∀g∈gs,yE g/\g.cnt<=1000000) (hsm:∀v∈x.xs,dW v) (hin:aM sc.xs (N x.xs)=T) (hi:i<N gs) :
  Calls V 130 #[Y (O (aD (gs[i].gb) 0)),x.val,sc.val] Yq.drew λe f=>(∃u,e=FR u)/\
   f.heap[gs[i].gb]? = O (FL #[gs[i].k.val,I J (gs[i].cnt+1:Nat),Z (O (aD (gs[i].sb) 0)) (N sc.xs) (N sc.xs)] 182)/\f.heap[gs[i].sb]? = O (FL ((ik gs[i].ss x.xs sc.xs).map (Value.int J)).toArray 3)/\
   Kept (λb=>b≠gs[i].gb/\b≠gs[i].sb) Yq f/\M (H f)=M (H Yq):=by
 have d:=Qi hi;have j:=hgr.at' _ d;have l:sc.At Yq:=Qt hbel hsc;have m:∀s,Kept s Yq Yq.drew:=λs=>⟨rfl,rfl,rfl,Qs _,λ_ _ _=>rfl⟩;have h:=rA gs[i].gb gs[i].sb gs[i].k.val gs[i].cnt gs[i].ss x sc Yq.drew j.ne j.cells j.sums j.len hsl hx.1 l (aqL hgr hxo hi) (λq a r=>by
  obtain⟨b,off,e,y⟩:=hsc.get q;rw[e]at r;cases r;have t:=ZJ (y 0 q);have n:=(hgr.off _ d gs[i].gb (.inl rfl)).1;have p:=(hgr.off _ d gs[i].sb (.inr (.inl rfl))).1;grind) hin (hsum _ d).2 (zy (hsum _ d).1 (hsum _ d).2) (λu C=>by have:=hsm u C;unfold dW at this;unfold Kl;omega)
 refine h.mono ?_;rintro e f ⟨n,p,z,A,B⟩;exact⟨n,p,z,(m _).trans A,B⟩
end
def lF(e:TypeId)(lo:Nat):El ae (List Int) where
 enc:=ae.val
 At x W:=(gJ e).At x W/\∀b,ah.aT x=O b->lo<=b
 aT:=ah.aT
 key:=ae.xs
 keep:=λh hs hb=>⟨(gJ e).keep h.1 hs hb,h.2⟩
 AV:=λh hb=>ah.AV h.1.1 hb
def yJ(P:Program)(e:TypeId)(v:KX)(rows:List (List Int))(w:U):Prop:=
 ∃g lb,v=.func (.func g) #[] lb/\(∀args w,(callFunc g args).run P w=.ok (.enter g args) w)/\Seq (lF e (M (H w))) P g lb rows w
def Seq.renew{g:Nat}{lb:Array KX}{w1:U}(h:Seq (lF e (M (H w0))) P g lb rows w0)(hb:Bw w0 w1):Seq (lF e (M (H w1))) P g lb rows w1:=by
 intro l p W o k m q r t;refine h l p W o (hb.trans (k.mono hb.size)) (λb a=>⟨Q6 hb.size (m b a).1,(m b a).2⟩) q (λi x u v y z n d A=>?_) t;have f:∀b,ah.aT x=O b->M (H W)<=b:=λb a=>by
  rcases (d b a).2 with j|j
  .have:=n.2 b a;omega
  .exact j
 exact r i x u v y z ⟨n.1,λb a=>Q6 k.size (f b a)⟩ (λb a=>⟨(d b a).1,.inr (f b a)⟩) A
def yJ.later{w':U}(h:yJ P e v rows w)(hb:Bw w w'):yJ P e v rows w':=by obtain⟨g,lb,a,b,d⟩:=h;exact⟨g,lb,a,b,d.renew hb⟩
