import Derived.Test.YtnjbikdhpnopjaaGreatDoorA11
import Derived.Test.YtnjbikdhpnopjaaGreatDoorA15
import Derived.Test.YtnjbikdhpnopjaaGreatDoorA18
set_option linter.all false
set_option maxRecDepth 100000
set_option maxHeartbeats 0
namespace Go.Proofs.Zz
open Go.RowKit Go.Shelf
open List renaming length->N,getD->E
open Go.Value renaming slice->Z,int->I,pointer->Y,bool->Wl,agg->FL
open Go.Proofs.Tryz renaming prog->V
open Option renaming some->O,none->xn
open Go.IntKind renaming i64->J,u64->Vo
open Bool renaming true->T
open Go renaming World->U,Value->X3
open Go.World renaming heap->H,setCell->UC,cell?->UK
open _root_.Array renaming size->M
open Go.RowKit renaming Hid->Y3
open Go.Obj renaming cells->EP
open Go.Ending renaming returned->FN
variable {ts:List ah} {q:af} {G a b gb n s s1 s2 sb:Nat} {t:dH} {W0 w w' w1 w2 w3 x:U} {TS TT e:TypeId} {av lv v v' v0 v1 v10 v11 v12 v2 v3 v4 v5 v6 v7 v8 v9:X3} {ag:List dP} {xs:List X3} {c:Array X3} {Fq Mz X:Nat->Prop} {f:aF} {σ:SeD} {P:dH->Prop} {ls:List mI}
section
def Pc.sorted(h:Pc ts q s t)(hq:QF ts q)(hs:Sh s t){o:List Int}(ho:qI ts q.src.xs o s=T):Pc ts q s (fT ts q t o)/\t.d.cost<=(fT ts q t o).d.cost:=by have a:=h.1.small hq;unfold Sh at hs;exact⟨⟨⟨MJ h.1.ts' (by omega) (by rw[h.1.src];exact ho),by rw[vZ];exact h.1.src,by rw[xQ];omega⟩,AQ o h.2⟩,OI ts q t o h.2.cost⟩
variable {ts:List ah} {q:af} {s:Nat} {Fq:Nat->Prop} {W0 w:U} {f:aF} {gb:Nat} {os:List ae} {hd:Option Nat}
def UZ.pre{r:Bool}(h:UZ ts q s Fq w gb os hd x r 0){z:U}(hk:Kept (λb=>b≠gb) z w):UZ ts q s Fq z gb os hd x r 0:=h.imp λ_ h=>⟨h.1,h.2.1,h.2.2.1,hk.trans h.2.2.2⟩
theorem adu(Ez:Env f ts q W0)(hq:QF ts q)(hz:Fz Fq W0 w)(h:jW ts q s Fq w gb os hd)(hF:¬Fq gb)(gc:Nat)(hgc:N os<=gc)(hcm:gc<=9223372036854775807)(bo:Option Addr)(bc:Nat)(xs:List Nat)(hp:dA w bo xs)(hpo:∀a,bo=O a->a.block≠gb)(hbs:∀x∈xs,∃t,dI Fq w x t/\Pc ts q s t/\Sh s t) :
  Calls V 179 #[Z (O (aD gb 0)) (N os) gc,FL (f.cells ts q),Z bo (N xs) bc] w λe w'=>∃r,e=FN (Wl r)/\UZ ts q s Fq w gb os hd w' r 0:=by
 obtain⟨v0,v1,v2,v3,v4,v5,v6,v7,v8,v9,C,D,G,cK,-⟩:=X9 f ts q;have aT:=h.few;have aU:=h.one;obtain⟨w1,aY,l,aB⟩:=aL w #[v0,v1,v2,v3,v4,v5,v6,v7,v8,v9,C,D,G] 90;have S:=aaS (h.below l) hF gc bo bc xs (hp.below l) hpo (λx g=>(hbs x g).imp λ_ h=>⟨h.1.below l,h.2.1,.inl h.2.2⟩);obtain⟨FU,wI,aC,HF⟩:=om h.lt aB (hz.next l) hF;have W:Y3 (∀x r,UZ ts q s Fq w1 gb os hd x r 0->UZ ts q s Fq w gb os hd x r 0):=λx r h=>h.pre (QB l λ_ h _=>h);have xz:Y3 (∀(x:U) (a:Nat) (t:dH) (o:ae),Fz Fq W0 x->dI Fq x a t->Pc ts q s t->di Fq x o->N o.xs<=1000->Calls V 210 #[FL #[v0,v1,v2,v3,v4,v5,v6,v7,v8,v9,C,D,G],Y (O (aD a 0)),Z o.ad (N o.xs) o.cap] x (cZ 105 Fq x (fT ts q t o.xs))):=λx a t o g ht aP ho aQ=>by rw[<-cK];exact I6 Ez g a t ht aP.2 o ho.at' ho.inf ho.nil ho.cap aQ
 have ak:=Zh (hz.ajS hF);rw[cK];obtain⟨m,hm⟩:∃m,N os=m+1:=⟨N os-1,by omega⟩;have HM:=Zh hm;rw[hm]at S hgc ⊢;obtain⟨A0,aZ,aF⟩:∃A0:Addr,(if gc=1 then O ((aD gb 0):Addr) else O (aD gb 2))=O A0/\Y3 (0<m->A0=(aD gb 2)):=by
  by_cases X:gc=1
  .exact⟨(aD gb 0),by rw[Zt X],λh=>by omega⟩
  .exact⟨(aD gb 2),by rw[ZU X],λ_=>rfl⟩
 go_enter Tryz.func179,Tryz.ntmps179;go_wp2_with fail;refine S.mono ?_;rintro e w2 ⟨r,rfl,h2⟩;have H2:=Zh h2;cases r
 .go_wp2;go_ret;exact⟨_,rfl,W.o _ _ H2.o⟩
 go_wp2;go_loopw [16] (λiv wr=>∃k:Nat,k<=m/\iv=I J (k:Int)/\Y3 (UZ ts q s Fq w1 gb os hd wr T 0)) (λiv _=>m-(intOf iv).toNat)
 case atStart=>exact⟨0,QW _,rfl,H2.o⟩
 case round=>
  obtain⟨k,hk,rfl,HI⟩:=hrel;by_cases bz:k<m
  .have au:=aF.o (by omega);subst au;obtain⟨bf,HG,aG,aH,L⟩:=HI.o;obtain⟨c0,-,v,c1,hv⟩:=HG.cells (i:=k+1) (by rw[HM.o];omega);obtain⟨v',ch,aI⟩:=HG.head;obtain⟨a,t,rfl,ht,aa,P⟩:=aI.resolve_left λh=>aH (.inl rfl) (h.2 rfl)
   obtain⟨P,af⟩:=P rfl;obtain⟨po,rfl⟩:∃po,v=Y po:=by rcases hv with⟨rfl,-⟩|⟨b,u,rfl,-⟩ <;> exact⟨_,rfl⟩
   have B:=HG.ord _ (ag7 (i:=k+1) (by rw[HM.o];omega));obtain⟨ag,ah⟩:=aa.sorted hq P (HG.srt (k+1) (by omega) (by rw[HM.o];omega));rw[show (k+1)*2=2+k*2 by omega]at c0 c1;obtain⟨n,aJ⟩:=eY (E os (k+1) eU);rw[<-aJ]at c0 B ag ah;unfold ae.val at c0;have av:=aC.o.asR L ak.o;have ax:Y3 (∀x,Bw wr x->Ce 212 #[Z (O (aD gb 0)) (m+1) gc] x (Y (O (aD a 0)))):=λx g=>Bb (by omega) gc (cB g ch);have ay:Y3 (∀x,Bw wr x->Calls V 210 #[FL #[v0,v1,v2,v3,v4,v5,v6,v7,v8,v9,C,D,G],Y (O (aD a 0)),Z n.ad (N n.xs) n.cap] x (cZ 105 Fq x (fT ts q t n.xs))):=λx g=>xz.o x a t n (av.next g) (ht.below g) aa (B.1.below g) B.2;have aA:Y3 (∀x r c,Bw wr x->c≠gb->UK x (aD c 0)=O (Y (O (aD r 0)))->dI Fq x r (fT ts q t n.xs)->Calls V 211 #[Z (O (aD gb 0)) (m+1) gc,Z (O (aD c 0)) 1 1] x λe w'=>(∃b,e=FN (Wl b))/\Kept (λb=>b≠gb) x w'/\UZ ts q s Fq w1 gb os hd w' T 0):=λx r c g hc aR aS=>by
    have X:=aaS (HG.below g) HF.o gc (O (aD c 0)) 1 [r] ⟨by simp,λi hi=>⟨c,0,rfl,by grind⟩⟩ (λa e=>by grind) (λz hz=>by rw[Zg]at hz;rw[hz];exact⟨_,aS,ag,.inr ⟨_,af,ah⟩⟩);rw[HM.o]at X;refine X.mono ?_;rintro e w' ⟨b,rfl,aK,aM,A,-,ai⟩;refine⟨⟨_,rfl⟩,ai,aK,aM,λc e=>?_,λ_ e=>?_,L.trans ((QB g λ_ h _=>h).trans ai)⟩
    .obtain⟨d,h3,h4⟩:=aG c e;obtain⟨d',h5,h6⟩:=A d h3;exact⟨d',h5,by omega⟩
    .obtain⟨d',h5,h6⟩:=A _ af;rw[e]at h5
     cases h5
   have j:=wI.o.keep L (by have:=FU.o;omega);generalize N n.xs=ovl at*;generalize n.ad=ova at*;generalize n.cap=ovc at*;generalize fT ts q t n.xs=TT at*;obtain⟨w3,bg,aj,aN⟩:=aL wr #[Z ova ovl ovc,Y po] 177;obtain⟨p0,-⟩:=aN.k2;have aV:=j.lt;have j:=j.keep (QB (s:=λb=>b<M (H wr)) aj (λ_ h _=>h)) j.lt;obtain⟨a0,a1,a2,a3,a4,a5,a6,a7,a8,a9,nA,oC,bn⟩:=j.oh;have aW:M (H w)≠gb:=by have:=FU.o;omega
   have aX:M (H wr)≠gb:=by have:=FU.o;omega
   have y:=Zh aj;go_wp2_with fail;refine wHk w3 (λb=>b≠gb) λp=>?_;refine wK3 0 p ?_;refine wK2 4 p ?_;refine wR 3 λK R=>?_;go_simp;refine XX (ax.o _ y.o.drew) ?_;rintro e w4 ⟨rfl,aO⟩;subst aO;refine R.o _ _ p λp=>?_;refine wR 6 λK R=>?_;go_simp;refine XX (ay.o _ y.o.drew) ?_;rintro e w5 ⟨r,rfl,hT,bq,bu,Q⟩;refine oKs R p Q λp=>?_;refine wR 7 λK R=>?_;go_simp;refine oKs R p (dN _ _) λp=>?_;refine wR 8 λK R=>?_;go_simp;refine XX (aA.o _ r _ (az y.o (az ((Qm _ _).drew.trans Q) (dN _ _))) (by have:=FU.o;have:=y.o.size;have:=Q.size;simp at this;omega) (by simp) (hT.below (dN _ _))) ?_;rintro e w6 ⟨⟨bb,rfl⟩,wN,hO⟩;refine R.o _ _ (p.trans wN) (λp=>?_);refine wD ?_;try simp only[pV]
   have HN:=Zh hO;go_wp2;go_roundw
   case rel=>exact⟨k+1,by omega,by go_num,HN.o⟩
   case measure=>simp[intOf];omega
  .go_wp2;go_ret;exact⟨_,rfl,W.o _ _ HI.o⟩
end
def YI(w:U)(e:Ending)(w':U):Prop:=∃x:Int,e=FN (I J x)/\Bw w w'
def UD(s:Int)(w:U):Calls V 234 #[I Vo s] w (YI w):=by go_enter Tryz.func234,Tryz.ntmps234;go_wp2;go_ret;exact⟨_,rfl,Qm _ _⟩
def akh(s:Int)(w:U):Calls V 194 #[I Vo s] w (YI w):=by
 have d:=UD s w;have f:Calls V 221 #[I Vo s] w (YI w):=by go_enter Tryz.func221,Tryz.ntmps221;go_wp2_with fail;refine d.mono ?_;rintro e g ⟨x,rfl,b⟩;have a:=Zh b;go_wp2;go_ret;exact⟨_,rfl,a.o⟩
 go_enter Tryz.func194,Tryz.ntmps194;go_wp2_with fail;refine f.mono ?_;rintro e g ⟨x,rfl,b⟩;have a:=Zh b;go_wp2;go_ret;exact⟨_,rfl,a.o⟩
def atv(b:Nat)(x y z:Int)(w:U)(h0:UK w (aD b 0)=O (I J x))(h1:UK w (aD b 1)=O (I J y))(h2:UK w (aD b 2)=O (I J z)) :
  Calls V 149 #[Z (O (aD b 0)) 3 3] w (YI w):=by
 have e:Y3 (∀k,k<3->∃v,UK w (aD b k)=O (I J v)):=λk d=>by
  match k,d with
  |0,_=>exact⟨_,h0⟩
  |1,_=>exact⟨_,h1⟩
  |2,_=>exact⟨_,h2⟩
 go_enter Tryz.func149,Tryz.ntmps149;go_wp2;go_loop [8] (λi=>∃k:Nat,k<=3/\i=I J (k:Int)) (λi=>3-(intOf i).toNat)
 case atStart=>exact⟨0,by omega,rfl⟩
 case round=>
  obtain⟨k,d,rfl⟩:=hrel;by_cases a:k<3
  .obtain⟨v,f⟩:=e.o k a
   cases hb:v != 0
   .go_wp2;go_round
    case rel=>exact⟨k+1,by omega,by go_num⟩
    case measure=>simp[intOf];omega
   .go_wp2;go_ret;exact⟨_,rfl,Qm _ _⟩
  .go_wp2;go_ret;exact⟨_,rfl,Qm _ _⟩
def ahb(l r:Nat)(hl:l<32)(hr:r<32)(w:U) :
  Calls V 151 #[FL #[I Vo (l:Int),I Vo (r:Int)]] w (YI w):=by
 obtain⟨A,B,p,q⟩:=aL w #[I Vo (l:Int),I Vo (r:Int)] 138;obtain⟨C,D⟩:=q.k2;have d:=A7 l r A;have j:=Zh p;generalize decide (r=0)=b at d;go_enter Tryz.func151,Tryz.ntmps151;go_wp2_with fail;refine d.mono ?_;rintro e v ⟨rfl,g⟩;have f:=Zh (az j.o g);obtain⟨L,P⟩:=nH g C D;cases b
 .obtain⟨y,G,t,i⟩:=aL v #[I Vo (l:Int),I Vo (r:Int)] 86;have k:=lX (M (H v)) l r y i.k2.1 i.k2.2 (by omega) (by omega);have m:=Zh (az f.o t);have n:=akh ((l|||r:Nat):Int) y;generalize l|||r=lr at*
  go_wp2_with fail;refine k.mono ?_;rintro e K ⟨rfl,a⟩;have a:=a.symm;subst a;go_wp2_with fail;refine n.mono ?_;rintro e K ⟨x,rfl,u⟩;have z:=Zh (az m.o u);go_wp2;go_ret;exact⟨_,rfl,z.o⟩
 .go_wp2;go_ret;exact⟨_,rfl,f.o⟩
def aki(al ar bl br:Nat)(ha:al<32/\ar<32)(hb:bl<32/\br<32)(w:U) :
  Calls V 102 #[FL #[I Vo (al:Int),I Vo (ar:Int)],FL #[I Vo (bl:Int),I Vo (br:Int)]] w (YI w):=by
 obtain⟨j,k⟩:=aJ (ahb al ar ha.1 ha.2) (ahb bl br hb.1 hb.2);obtain⟨q,r,l,f⟩:=aL w #[I Vo (al:Int),I Vo (ar:Int)] 138;obtain⟨t,u,g,m⟩:=aL q #[I Vo (bl:Int),I Vo (br:Int)] 138;obtain⟨a0,B⟩:=(f.of (g.block _ f.lt)).k2;obtain⟨C,D⟩:=m.k2;have i:=Zh (az l g);go_enter Tryz.func102,Tryz.ntmps102;go_wp2_with fail;refine wH t λa=>?_;refine sN 0 a ?_;refine sN 2 a ?_;refine wA4 5 a ?_;refine wA4 10 a ?_;refine wR 1 λK b=>?_;go_simp;refine XX (k.o _) ?_;rintro e G ⟨v,rfl,hb⟩;refine oT b a hb λa=>?_;refine wR 3 λK b=>?_;go_simp;refine XX (j.o _) ?_;rintro e L ⟨y,rfl,hb⟩;refine oT b a hb λa=>?_;refine wR 4 λK b=>?_;go_simp;refine XX (OW _ _ _) ?_;generalize AX v y=C1;rintro e P ⟨rfl,z⟩;have d:=z.symm;subst d;refine b.o _ _ a λa=>?_;refine wR 9 λK b=>?_;go_simp;refine XX (Dc _ _ _) ?_;generalize AX (al:Int) (bl:Int)=C2;rintro e Q ⟨rfl,A⟩;have d:=A.symm;subst d;refine b.o _ _ a λa=>?_;refine wR 14 λK b=>?_;go_simp;refine XX (Dc _ _ _) ?_;generalize AX (ar:Int) (br:Int)=C3;rintro e R ⟨rfl,n⟩;have d:=n.symm;subst d;refine b.o _ _ a λa=>?_;refine wR 15 λK b=>?_;go_simp;refine oA b a λa=>?_;refine wR 16 λK b=>?_;go_simp;refine XX (atv _ C1 C2 C3 _ (by simp) (by simp) (by simp)) ?_;rintro e S ⟨x,rfl,hb⟩;refine oT b a hb λa=>?_;refine wR 17 λK b=>?_;go_simp;refine b.o _ _ a λa=>?_;refine wD ?_;try simp only[pV]
 have p:=Zh (az i.o a);go_wp2;go_ret;exact⟨_,rfl,p.o⟩
def yT{base:Nat}(h:w.ownsRow base e 2 v (N ag) (ag.flatMap eT))(hl:N ag<=1000000):∃b cap,v=Z b (N ag) cap/\nX w b ag:=by
 rcases jo h with⟨rfl,h0⟩|⟨g,cap,rfl,_,_,hc⟩
 .have:=Qs h0;subst this;exact⟨xn,0,rfl,by simp,λi a=>absurd a (by simp)⟩
 .refine⟨_,cap,rfl,by omega,λi a=>⟨g,0,rfl,?_,?_⟩⟩
  .rw[ZK];exact hc (i*2) _ (by have:=Xq eT 2 (λ_=>rfl) (0,0) ag i 0 a (by omega);rw[Xb]at this;rw[this];rfl)
  .rw[ZK];exact hc (i*2+1) _ (by rw[Xq eT 2 (λ_=>rfl) (0,0) ag i 1 a (by omega)];rfl)
def nX.bC{A B:U}{Fq:Nat->Prop}{ao:Option Addr}{ag:List dP}(h:nX A ao ag)(hk:Kept Fq A B)(hF:∀a,ao=O a->Fq a.block):nX B ao ag:=
 ⟨h.1,λi g=>by
  obtain⟨b,off,rfl,e,f⟩:=h.2 i g;have d:=hk.block b (QK e) (hF _ rfl);exact⟨b,off,rfl,by rw[QL d];exact e,by rw[QL d];exact f⟩⟩
theorem jh{base:Nat}{t:TypeId}{sz:Nat}(h:w.ownsRow base e sz v n xs)(hg:GB w G t c)(hne:e≠t):v.ownBlock≠O G:=λd=>by obtain⟨b,f⟩:=pq h d;have a:w.heap[G]? = O (EP c t (0,0)):=hg;grind
theorem aj2{wr w4:U}{base:Nat}{arr:Array X3}(hsz:14<arr.size)(hg:GB w4 sb TS (arr.setIfInBounds 14 v))(ho:w4.ownsRow base TT 2 v' n xs)(hk:Kept (λb=>b≠sb/\av.ownBlock≠O b) w wr)(h1:Bw wr w1)(h2:Bw w1 w2)(h3:Bw w2 w3)(h4:Kept (λb=>v.ownBlock≠O b) w3 w4)(hv:v.ownBlock=av.ownBlock∨∃g,v.ownBlock=O g/\M (H w)<=g)(hv':v'.ownBlock=v.ownBlock∨∃g,v'.ownBlock=O g/\M (H w3)<=g)(hne:TT≠TS) :
  GB (UC w4 (aD sb 14) v') sb TS (arr.setIfInBounds 14 v')/\(UC w4 (aD sb 14) v').ownsRow base TT 2 v' n xs/\Kept (λb=>b≠sb/\av.ownBlock≠O b) w (UC w4 (aD sb 14) v')/\(v'.ownBlock=av.ownBlock∨∃g,v'.ownBlock=O g/\M (H w)<=g):=by
 have i:=Qz hk.size (Qz h1.size (Qz h2.size h3.size));have d:Kept (λb=>b<M (H wr)) wr w3:=(QB h1 (λ_ h _=>h)).trans' ((QB h2 (λ_ h _=>h)).trans' (QB h3 (λ_ h _=>h)) (λb a _=>a)) (λb a _=>(QA a h1.size:b<M (H w1)));have f:=(hk.trans' d (λb a _=>QA a hk.size)).trans' h4 (λb a h e=>by
  grind)
 refine⟨?_,?_,f.trans (Q8 _ _ _ (λh=>h.1 rfl)),?_⟩
 .have:=hg.set 14 v'
  rwa [Array.setIfInBounds_setIfInBounds]at this
 .exact Za ho (s:=λb=>b≠sb) (Q8 _ _ _ (λh=>h rfl)) (λg e h=>jh ho hg hne (h ▸ e))
 grind
def agN{base:Nat}{arr:Array X3}(hg:GB w3 sb TS (arr.setIfInBounds 14 av))(ho:w3.ownsRow base TT 2 v' n xs)(h2:Bw w w2)(h4:Kept (λb=>av.ownBlock≠O b) w2 w3)(hne:TT≠TS) :
  GB (UC w3 (aD sb 14) v') sb TS (arr.setIfInBounds 14 v')/\(UC w3 (aD sb 14) v').ownsRow base TT 2 v' n xs/\Kept (λb=>b≠sb/\av.ownBlock≠O b) w (UC w3 (aD sb 14) v'):=by
 refine⟨?_,?_,?_⟩
 .have:=hg.set 14 v'
  rwa [Array.setIfInBounds_setIfInBounds]at this
 .exact Za ho (s:=λb=>b≠sb) (Q8 _ _ _ (λh=>h rfl)) (λg e h=>jh ho hg hne (h ▸ e))
 .exact((QB h2 (λ_ h _=>h)).trans (h4.mono (λb _ h=>h.2))).trans (Q8 _ _ _ (λh=>h.1 rfl))
def agO{W:U}{B:Nat}{u:X3}(h:GB W B 138 #[v,u]):(loadVar 138 (aD B 0)).run V W=.ok (FL #[v,u]) W:=by obtain⟨a,b⟩:=h.k2;simp[go_sem,a,b]
theorem adk(sb base i:Nat)(arr:Array X3)(av:X3)(ag:List dP)(w:U)(hg:GB w sb 97 arr)(h14:arr[14]? = O av)(hown:w.ownsRow base 138 2 av (N ag) (ag.flatMap eT))(hl:N ag<=1000000)(hi:i<N ag) :
  Calls V 72 #[Y (O (aD sb 14)),I J (i:Int)] w λe w'=>e=FN (FL #[I Vo ((E ag i (0,0)).1:Int),I Vo ((E ag i (0,0)).2:Int)])/\∃D,GB w' sb 97 (arr.setIfInBounds 14 D)/\w'.ownsRow base 138 2 D (N (ag.eraseIdx i)) ((ag.eraseIdx i).flatMap eT)/\Kept (λb=>b≠sb/\av.ownBlock≠O b) w w'/\D.ownBlock=av.ownBlock:=by
 obtain⟨ae,aB⟩:=QI.1 h14;have t:arr.setIfInBounds 14 av=arr:=by grind
 have K:GB w sb 97 (arr.setIfInBounds 14 av):=by rw[t];exact hg
 obtain⟨aa,G,rfl,af⟩:=yT hown hl;obtain⟨tb,aK,B,ah,ai⟩:=af.2 i hi;rcases hown.2 with⟨_,h0⟩|⟨g,cap,cur,hs,hbg,-⟩
 .omega
 injection hs with hs1 _ hs2;subst hs1 hs2;injection B with B;injection B with aAi aAj;subst aAi aAj;obtain⟨m,hm⟩:∃m,N ag=i+1+m:=⟨N ag-(i+1),by omega⟩;have L:N (ag.eraseIdx i)=i+m:=by grind
 have ay:=Zh (jh hown hg (by decide));have P:=(hg.cell 14).trans h14;have Q:=(Zb hown rfl).2;obtain⟨w1,aC,f,q⟩:=aL w #[I Vo 0,I Vo 0] 138;have v:=cB f P;rw[hm]at v;obtain⟨e0,e1⟩:=nH f ah ai;rw[ZK]at e0 e1;obtain⟨tl,aj⟩:∃x,x=(E ag i (0,0)).1:=⟨_,rfl⟩;obtain⟨tr,ak⟩:∃x,x=(E ag i (0,0)).2:=⟨_,rfl⟩;rw[<-aj]at e0 ⊢;rw[<-ak]at e1 ⊢;obtain⟨w2,aF,r,au⟩:=aL w1 #[I Vo (tl:Int),I Vo (tr:Int)] 138;have uH:=f.trans (r.mono f.size);have az:=cB r v;have a:=XU hown uH;have y:=Uf base g G i m (ag.flatMap eT) w2 (by rw[hm]at a;exact a) (Jm ag) (by omega);rw[agI]at y;have u:=q.lt;have R:=hg.lt;obtain⟨aG,aH,aI,Uj,Ig⟩:=J2 (K.keep (QB (s:=λb=>b<M (H w)) uH (λ_ h _=>h)) hg.lt) au (q.keep (QB (s:=λb=>b<M (H w1)) r (λ_ h _=>h)) q.lt) uH ae;have z:Y3 (g<M (H w)):=Q;have k:Y3 (sb<M (H w)/\M (H w)<M (H w1)):=⟨R,u⟩;rw[L];have h1:(i:Int)<(i:Int)+1+(m:Int):=by omega
 have aJ:wrap64 ((i:Int)+1)=(i:Int)+1:=by unfold wrap64;omega
 clear f r uH q au hown a af ah ai hm L hg K t aB h14 P ae hi hl Q u R aj ak hbg;generalize (ag.eraseIdx i).flatMap eT=FX at*;go_enter Tryz.func72,Tryz.ntmps72;go_wp2_with fail;refine y.mono ?_;rintro e w3 ⟨rfl,ax,j⟩;have l:=aG.o.keep j (λe=>ay.o (by rw[e];rfl));have c3:UK w3 (aD sb 14)=O (Z (O (aD g 0)) (N ag) G):=by rw[l.cell 14,Jj,Zt rfl,Zt Ig.o]
 have f3:=l.frozen 14;clear y aC aF v e0 e1 az;go_upto_region 3 with fail;obtain⟨w4,C⟩:∃x,x=UC w3 (aD sb 14) (Z (O (aD g 0)) (i+m) G):=⟨_,rfl⟩;have A:Kept (λb=>b≠sb) w3 w4:=by rw[C];exact Q8 _ _ _ (λh=>h rfl)
 have S:=(aH.o.keep j (by have:=z.o;have:=k.o;omega)).keep A (by have:=k.o;omega);have d:=(aI.o.keep j (by have:=z.o;omega)).keep A (by have:=k.o;omega);have W:=agN l ax Uj.o (j.mono (λb _ h e=>h (by rw[e];rfl))) (by decide:138≠97);rw[<-C]at W ⊢;obtain⟨x0,x1⟩:=S.k2;obtain⟨y0,y1⟩:=d.k2;have z0:=d.frozen 0;have z1:=d.frozen 1;obtain⟨w5,vT⟩:∃x,x=UC (UC w4 (aD (M (H w)) 0) (I Vo (tl:Int))) (aD (M (H w)) 1) (I Vo (tr:Int)):=⟨_,rfl⟩;have n:Kept (λb=>b≠M (H w)) w4 w5:=by rw[vT];exact(Q8 _ _ _ (λh=>h rfl)).trans (Q8 _ _ _ (λh=>h rfl))
 have X:GB w5 (M (H w)) 138 #[I Vo (tl:Int),I Vo (tr:Int)]:=by rw[vT];exact(d.set 0 _).set 1 _
 have JR:=Zh (agO X);have HF:Y3 (GB w5 sb 97 (arr.setIfInBounds 14 (Z (O (aD g 0)) (i+m) G))/\w5.ownsRow base 138 2 (Z (O (aD g 0)) (i+m) G) (i+m) FX/\Kept (λb=>b≠sb/\(Value.slice (O (aD g 0)) (N ag) G).ownBlock≠O b) w w5):=⟨W.1.keep n (by have:=k.o;omega),Za W.2.1 n (λg' e=>by have e2:g=g':=XY e;have:=z.o;omega),W.2.2.trans' n (λb hb _=>Nat.ne_of_lt hb)⟩;have aA:=Zh vT;clear C vT S d W A n X j ax l c3 f3;go_wp2;rw[<-aA.o];exact Zw (kL (p:=4) rfl rfl JR.o) rfl ⟨rfl,_,HF.o.1,HF.o.2.1,HF.o.2.2,rfl⟩
theorem agK(s:Nat):N (ed s)<=64:=by unfold ed aT;grind
def ade(h:s<2 ^ n)(hn:n<=64):N (ed s)<=n:=by
 unfold ed aT;rw[Zm];have b:∀m,N ((List.range m).filter λi=>s.testBit i)<=min m n:=by
  intro m
  induction m with
  |zero=>simp
  |succ m ih =>
   rw[ZM,QZ,Zn];by_cases a:s.testBit m=T
   .have e:m<n:=by
     by_cases d:m<n
     .exact d
     .rw[ZH (QA h (ZI (by omega) (by omega)))]at a
      cases a
    simp[a];omega
   .simp[a];omega
 exact Qz (b 64) (by omega)
def pQ.base{Tq Tp:TypeId}{base base':Nat}{bs:List (Nat × dH)}(h:pQ Tq Tp Fq base w v bs)(hb:base'<=base):pQ Tq Tp Fq base' w v bs:=
 ⟨nM h.own hb,λx a=>⟨(h.tree x a).1,Qz hb (h.tree x a).2.1,(h.tree x a).2.2⟩,h.acx⟩
def pQ.mono{Tq Tp:TypeId}{Fq G:Nat->Prop}{base:Nat}{w:U}{v:X3}{bs:List (Nat × dH)}(h:pQ Tq Tp Fq base w v bs)(hs:∀b,b<M (H w)->Fq b->G b):pQ Tq Tp G base w v bs:=
 ⟨h.own,λx a=>⟨(h.tree x a).1.mono (λb e d=>⟨hs b e d.1,d.2⟩),(h.tree x a).2⟩,h.acx⟩
structure agM(Tq Tl:TypeId)(Fq:Nat->Prop)(base:Nat)(w:U)(lv:X3)(ls:List mI)(bs:List (Nat × dH)):Prop where
 own:w.ownsRow base Tl 1 lv (N ls) (ls.map mI.val)
 flat:fq ls=bs.map Prod.fst
 each:∀x∈ls,dA w (O x.ad) x.xs/\x.ad.block<M (H w)/\lv.ownBlock≠O x.ad.block
 tree:∀x∈bs,bG Tq (Fv Fq lv) w x.1 x.2/\base<=x.1/\x.1<M (H w)
 acx:(bs.map Prod.fst).Pairwise (· < ·)
def agM.nil(Tq Tl:TypeId)(Fq:Nat->Prop)(base:Nat)(w:U):agM Tq Tl Fq base w (Z xn 0 0) [] []:=
 ⟨Zk _ _ _ _,rfl,(λx a=>by cases a),(λx a=>by cases a),Zl⟩
def Jr(ls:List mI)(x:mI):fq (ls++[x])=fq ls++x.xs:=by unfold fq;simp
def Tryz.adi:(V.info? 103).map (λi=>(i.zero,i.size,i.bytes))=O (O (Z xn 0 0),1,24):=by kernel_rfl
theorem adj(W:U)(base:Nat)(v:X3)(ls:List mI)(hown:W.ownsRow base 103 1 v (N ls) (ls.map mI.val))(hl:N ls<=1000)(hb:base<=M (H W))(x:mI)(ty:TypeId) :
  ∃d e,(Builtin.append_ #[247,247] ty #[v,Z (O (aD (M (H W)) 0)) 1 1]).run V (W.alloc (EP #[x.val] 103))=.ok d e/\
   e.ownsRow base 103 1 d (N (ls++[x])) ((ls++[x]).map mI.val)/\Kept (λb=>v.ownBlock≠O b) W e/\(∃a m c,d = Z a m c)/\(d.ownBlock=v.ownBlock∨d.ownBlock=O (M (H W)+1)):=by
 obtain⟨k,l,f,g,i⟩:=Zj Tryz.adi;obtain⟨d,e,p,q,r,t,n⟩:=iI (P:=V) W base 247 ty 103 k _ 1 24 Tryz.underlying247 l f g i rfl (by decide) v (N ls) _ hown hb [x.val] rfl (λu j=>by
  rw[Zg]at j;rw[j];rfl) hl (by decide)
 grind
structure SeL where
 gs:Nat
 sI:Nat
 gb:Nat->Nat
 UY:Nat->Nat
 A:Nat->Nat->Nat
 os:Nat->List ae
 av:X3
 fO:Nat
 pv:X3
theorem GB.tp{t t':TypeId}{c':Array X3}(h:GB w G t c)(h':GB w G t' c'):t=t':=by have a:w.heap[G]? = O (EP c t (0,0)):=h;have b:w.heap[G]? = O (EP c' t' (0,0)):=h';grind
def as0(L:SeL)(σ:SeD):Array Value:=#[Z (O (aD L.gs 0)) (N σ.groups) L.sI,L.av,Wl σ.cut,Y (O (aD L.fO 0)),L.pv,I J σ.status]
structure agP(W0:U)(f:aF)(ts:List ah)(q:af)(X Mz:Nat->Prop)(w:U)(sb:Nat)(L:SeL)(σ:SeD):Prop where
 hz:Fz (λb=>¬X b) W0 w
 sub:∀b,Mz b->X b
 msb:Mz sb
 blk:GB w sb 97 (f.cells ts q++as0 L σ)
 gsx:¬X L.gs
 gsl:L.gs<M (H w)
 xY:∀k,k<N σ.groups->UK w (aD L.gs k)=O (Z (O (aD (L.gb k) 0)) (N (E σ.groups k [])) (L.UY k))
 Bi:∀k,k<N σ.groups->qJ 105 177 (λb=>¬X b) w (L.gb k) (L.A k) (L.os k) (E σ.groups k [])/\Mz (L.gb k)/\N (E σ.groups k [])<=L.UY k/\L.UY k<=9223372036854775807
 apart:∀j k,j<N σ.groups->k<N σ.groups->L.gb j=L.gb k->j=k
 ag:w.ownsRow (M (H W0)) 138 2 L.av (N σ.Jl) (σ.Jl.flatMap eT)
 agm:∀b,L.av.ownBlock=O b->Mz b
 fO:bG 105 (λb=>¬X b) w L.fO σ.fO
 pk:w.ownsRow (M (H W0)) 3 1 L.pv (N σ.picks) (σ.picks.map (Value.int J))
 pkm:∀b,L.pv.ownBlock=O b->Mz b
def yU(W0:U)(f:aF)(ts:List ah)(q:af)(X Mz:Nat->Prop)(w:U)(sb:Nat)(L':SeL)(σ':SeD)(w':U):Prop:=
 ∃X' M',agP W0 f ts q X' M' w' sb L' σ'/\Kept (λb=>¬Mz b) w w'/\(∀b,Mz b->M' b)/\(∀b,M' b->Mz b∨M (H w)<=b)/\(∀b,X' b↔X b∨M' b)
def Yp(W0:U)(f:aF)(ts:List ah)(q:af)(X Mz:Nat->Prop)(w:U)(sb:Nat)(σ':SeD)(w':U):Prop:=∃L',yU W0 f ts q X Mz w sb L' σ' w'
theorem yU.trans{L2:SeL}{σ2:SeD}{X1 M1:Nat->Prop}(hk:Kept (λb=>¬Mz b) w w1)(h1:∀b,Mz b->M1 b)(h2:∀b,M1 b->Mz b∨M (H w)<=b)(h3:∀b,X1 b↔X b∨M1 b)(h:yU W0 f ts q X1 M1 w1 sb L2 σ2 w2):yU W0 f ts q X Mz w sb L2 σ2 w2:=by
 obtain⟨g,i,j,e,k,l,m⟩:=h;refine⟨g,i,j,hk.trans' e (λb n d a=>?_),λb d=>k b (h1 b d),λb d=>?_,λb=>?_⟩
 .grind
 .rcases l b d with a|a
  .exact h2 b a
  .exact .inr (Qz hk.size a)
 grind
def agP.post{L:SeL}(h:agP W0 f ts q X Mz w' sb L σ)(hk:Kept (λb=>¬Mz b) w w'):yU W0 f ts q X Mz w sb L σ w':=
 ⟨X,Mz,h,hk,λ_ h=>h,λ_ h=>.inl h,λb=>⟨λa=>.inl a,λa=>by
  rcases a with a|a
  .exact a
  .exact h.sub b a⟩⟩
def Yp.trans{W0:U}{f:aF}{ts:List ah}{q:af}{X Mz:Nat->Prop}{w w1 w2:U}{sb:Nat}{σ2:SeD}{X1 M1:Nat->Prop}(hk:Kept (λb=>¬Mz b) w w1)(h1:∀b,Mz b->M1 b)(h2:∀b,M1 b->Mz b∨M (H w)<=b)(h3:∀b,X1 b↔X b∨M1 b)(h:Yp W0 f ts q X1 M1 w1 sb σ2 w2):Yp W0 f ts q X Mz w sb σ2 w2:=h.imp λ_ h=>yU.trans hk h1 h2 h3 h
theorem agP.cells{L:SeL}(h:agP W0 f ts q X Mz w sb L σ)(cK:f.cells ts q=#[v0,v1,v2,v3,v4,v5,v6,v7,v8,v9,v10,v11,v12]):GB w sb 97 #[v0,v1,v2,v3,v4,v5,v6,v7,v8,v9,v10,v11,v12,Z (O (aD L.gs 0)) (N σ.groups) L.sI,L.av,Wl σ.cut,Y (O (aD L.fO 0)),L.pv,I J σ.status]:=by have:=h.blk;rw[cK]at this;exact this
section
def Pc.pair(hq:QF ts q)(hab:a &&& b=0){l r:dH}(hl:Pc ts q a l)(hr:Pc ts q b r){CL:List Int}(hC:CL=ed (dF (bT ts q) a b))(hsm:aY (N q.wh) CL){k key:Int}(hk:(k=3/\key=0)∨(k=4/\(ll ts q (qj 4 CL key) a b).2.2=T)∨(k=5/\(ll ts q (qj 4 CL key) a b).2.2=T/\aQ l.d.order [(ll ts q (qj 4 CL key) a b).1]=T/\aQ r.d.order [(ll ts q (qj 4 CL key) a b).2.1]=T)) :
  Pc ts q (a|||b) (aM ts q (qj k CL key) [l,r])/\Sh (a|||b) (aM ts q (qj k CL key) [l,r]):=by
 subst hC;obtain⟨f,g⟩:=akb hq hab hl.1 hr.1 (k:=k) (key:=key) hk;refine⟨⟨f,nU ts q _ _ ?_ ?_ hsm λb e=>?_⟩,g⟩
 .show 1<=k/\k<=10
  omega
 .show k=1->_
  omega
 .rcases Z0.1 e with rfl|e
  .exact hl.2
  .rw[Zg]at e;rw[e];exact hr.2
variable {ts:List ah} {q:af} {Fq:Nat->Prop} {W0 w:U} {f:aF} {gb:Nat} {os:List ae} {hd:Option Nat}
def FV.mono{G:Nat->Prop}{base:Nat}{P:dH->Prop}{v:X3}{xs:List Nat}(h:FV Fq base w P v xs)(hs:∀b,b<M (H w)->Fq b->G b):FV G base w P v xs:=⟨h.own,λx d=>(h.tr x d).imp λ_ h=>⟨h.1.mono λb e a=>⟨hs b e a.1,a.2⟩,h.2⟩⟩
def Fn(Fq:Nat->Prop)(n m:Nat):Nat->Prop:=λb=>(Fq b/\b<n)∨m<=b
def Fz.cut(hz:Fz Fq W0 w)(hb:Bw w x):Fz (Fn Fq (M (H w)) (M (H x))) W0 x:=
 ⟨(hz.next hb).below,λb a=>.inl ⟨hz.low b a,QA a.lt hz.below.size⟩,λb h=>.inr h⟩
def FV.kept{s:Nat->Prop}{base:Nat}{xs:List Nat}(h:FV Fq base w P v xs)(hk:Kept s w w')(hF:∀b,Fq b->s b)(hv:∀g,v.ownBlock=O g->s g):FV Fq base w' P v xs:=⟨Za h.own hk hv,λx a=>(h.tr x a).imp λ_ h=>⟨h.1.bC (hk.mono λb _ d=>hF b d.1),h.2⟩⟩
def ag8{m nb:Nat}(hv:∀g,v.ownBlock=O g->n<=g/\g<m)(hn:n<=nb/\nb<m)(hF:∀b,m<=b->Fq b){z:Nat}(b:Nat)(_:b<z)(h:Fn Fq n m b):Fv (λb=>Fq b/\b≠nb) v b:=by
 rcases h with⟨h1,h2⟩|h1
 .exact⟨⟨h1,by omega⟩,λe=>by have:=hv b e;omega⟩
 .exact⟨⟨hF b h1,by omega⟩,λe=>by have:=hv b e;omega⟩
theorem ag9(Ez:Env f ts q W0)(hq:QF ts q)(hz:Fz Fq W0 w)(a:Nat)(l:dH)(ht:dI Fq w a l)(hl:Pc ts q s1 l)(hg:jW ts q s2 Fq w gb os hd)(hap:s1 &&& s2=0)(gc:Nat)(hne:hd≠xn) :
  Calls V 184 #[FL (f.cells ts q),Y (O (aD a 0)),Z (O (aD gb 0)) (N os) gc] w (vL Fq w (Pd ts q (s1|||s2)) 1 17):=by
 obtain⟨v0,v1,v2,v3,v4,v5,v6,v7,v8,v9,aC,aF,aG,cK,-⟩:=X9 f ts q;obtain⟨v,ch,hv⟩:=hg.head;obtain⟨ra,r,rfl,aT,hr,-⟩:=hv.resolve_left λh=>hne (h.2 rfl);obtain⟨C,ag,aU⟩:=ht.nW;obtain⟨pr,aV,bL⟩:=aT.nW;have aN:C.sources=s1:=(congrArg bN.sources aU).trans hl.1.src;have aO:pr.sources=s2:=(congrArg bN.sources bL).trans hr.1.src;have bB:C.order.xs=l.d.order:=congrArg bN.order aU;obtain⟨CL,ah⟩:=eY (ed (dF (bT ts q) s1 s2));have W:=IU (bT ts q) s1 s2;rw[kI]at W;have fw:N CL<=8:=by rw[ah];exact Qz (ade W (by have:=Ez.eight;omega)) Ez.eight
 have aP:aY (N q.wh) CL:=by rw[ah];exact AP W
 have df:Y3 (∀x,Bw w x->Cb 215 #[FL #[v0,v1,v2,v3,v4,v5,v6,v7,v8,v9,aC,aF,aG],I Vo (C.sources:Int),I Vo (pr.sources:Int)] x (I Vo ((dF (bT ts q) s1 s2:Nat):Int))):=λx R=>by rw[<-cK,aN,aO,<-hl.1.src,<-hr.1.src];exact Ub Ez (hz.next R) _ _ hl.2.src hr.2.src
 have dh:Y3 (∀x,Calls V 120 #[I Vo ((dF (bT ts q) s1 s2:Nat):Int)] x λe w'=>∃v,e=FN v/\w'.ownsRow (M (H x)) 3 1 v (N CL) (CL.map (Value.int J))/\Bw x w'):=λx=>by rw[ah];exact IZ _ (QA W (Qz (ZI (n:=2) (by omega) Ez.eight) (by decide))) x
 obtain⟨KP,aW⟩:∃KP:Int->Int × Int × Bool,KP=λkey=>ll ts q (qj 4 CL key) s1 s2:=⟨_,rfl⟩;have nO:Y3 (∀(y:U) (iv:ae),Bw w y->iv.xs=CL->di Fq y iv->∀(x:U) (b mb:Nat) (mt:dH) (kind key:Int),Bw y x->(kind=3/\key=0∨kind=4/\(KP key).2.2=T∨kind=5/\(KP key).2.2=T/\aQ l.d.order [(KP key).1]=T/\aQ mt.d.order [(KP key).2.1]=T)->dI Fq w mb mt->Pc ts q s2 mt->UK x (aD b 0)=O (Y (O (aD a 0)))->UK x (aD b 1)=O (Y (O (aD mb 0)))->Calls V 93 #[FL #[v0,v1,v2,v3,v4,v5,v6,v7,v8,v9,aC,aF,aG],FL #[I J kind,I J 0,I J 0,I J 0,Z iv.ad (N CL) iv.cap,I J key,Z xn 0 0],Z (O (aD b 0)) 2 2] x λe w'=>∃r t,e=FN (Y (O (aD r 0)))/\dI (Fn Fq (M (H y)) (M (H x))) w' r t/\Pd ts q (s1|||s2) t/\Bw x w'):=λy iv hy hi aZ x b mb mt kind key R hk fo hm hc fq=>by have up:∀{c u},dI Fq w c u->dI (Fn Fq (M (H y)) (M (H x))) x c u:=λh=>(h.mono λb S hF=>.inl ⟨hF,QA S hy.size⟩).below (az hy R);have X:=(aZ.mono (G:=Fn Fq (M (H y)) (M (H x))) λb S hF=>.inl ⟨hF,S⟩).below R;subst hi;rw[<-cK];refine(TL Ez (Fz.cut (hz.next hy) R) ⟨kind,0,0,0,iv,key,eU⟩ ⟨X.at',X.inf,X.nil,jU x,sM.nil _ _,λ_=>rfl,Qn _,by show N iv.xs<=1000;omega,QW _⟩ a mb b l mt (up ht) hl.2 (up fo) hm.2 hc fq (by show 3<=kind;omega) (by show kind<=5;omega) aP).mono ?_;rintro e w' ⟨r,rfl,h1,-,-,h4⟩;rw[aW]at hk;exact⟨r,_,rfl,h1,Pc.pair hq hap hl hm ah aP hk,h4⟩
 have dm:Y3 (∀(x:U) (ia:Option Addr) (ic:Nat) (key:Int),Bw w x->IntsAt x ia CL->Cb 160 #[FL #[v0,v1,v2,v3,v4,v5,v6,v7,v8,v9,aC,aF,aG],FL #[I J 4,I J 0,I J 0,I J 0,Z ia (N CL) ic,I J key,Z xn 0 0],FL #[I J C.kind,I Vo (C.sources:Int),I Vo (C.clauses:Int),Z C.order.ad (N C.order.xs) C.order.cap,I Vo (C.size:Int),I Vo (C.cost:Int)],FL #[I J pr.kind,I Vo (pr.sources:Int),I Vo (pr.clauses:Int),Z pr.order.ad (N pr.order.xs) pr.order.cap,I Vo (pr.size:Int),I Vo (pr.cost:Int)]] x (.tuple #[I J (KP key).1,I J (KP key).2.1,Wl (KP key).2.2])):=λx ia ic key R hi=>by have:=nR f ts q ⟨4,0,0,0,⟨ia,ic,CL⟩,key,eU⟩ C pr x Ez.ok ((Ez.at' hz).below R) hi ag.ok.sources aV.ok.sources;rw[<-cK,aW];simp only;rw[<-aN,<-aO];exact this
 have dn:Y3 (∀(x:U) (gU:Int),Bw w x->Calls V 216 #[Z (O (aD gb 0)) (N os) gc,I J gU] x λe w'=>∃po,e=FN (Y po)/\PtW Fq w (λt=>Pc ts q s2 t/\aQ t.d.order [gU]=T) po/\Bw x w'):=λx gU R=>YF hg R gc gU;have dw:Y3 (∀(x:U) (c:Nat) (gU:Int),Bw w x->UK x (aD c 0)=O (I J gU)->Cb 164 #[Z C.order.ad (N C.order.xs) C.order.cap,Z (O (aD c 0)) 1 1] x (Wl (aQ l.d.order [gU]))):=λx c gU R hc=>by rw[<-bB];exact lI _ (O (aD c 0)) _ 1 _ [gU] x (Qo R ag.ok.order) ⟨by simp,λi hi=>⟨c,0,rfl,by grind⟩⟩ ag.ok.cap
 obtain⟨vU,bM,HR,bO⟩:=om ag aV aT hr;have Ul:Y3 (∀b,M (H w)<=b->Fq b):=hz.high;have dx:=hg.one;rw[cK];clear cK Ez hz ht hl hg hne aT hr aU bL aN aO bB ah W aP aW hv ag aV;obtain⟨w1,dV,ai,D⟩:=aL w #[v0,v1,v2,v3,v4,v5,v6,v7,v8,v9,aC,aF,aG] 90;obtain⟨a0,a1,a2,a3,a4,a5,a6,a7,a8,a9,nA,oC,aj⟩:=D.oh;obtain⟨-,p1,-⟩:=vU.o.below ai;obtain⟨-,q1,-⟩:=bM.o.below ai;have bC:=Bb dx gc (cB ai ch);obtain⟨aX,wI⟩:=aJ ai D;clear ai D ch;go_enter Tryz.func184,Tryz.ntmps184;go_wp2_with fail;refine bC.mono ?_;rintro e wz ⟨rfl,dW⟩;have uh:=dW.symm;subst uh;clear bC dV;go_wp2_with fail;refine wH w1 λA=>?_;refine U1 0 A ?_;refine sN 10 A ?_;refine wR 11 λK hK=>?_;go_simp;refine XX (df.o _ (az aX.o A)) ?_;rintro e wy ⟨rfl,S⟩;refine oT hK A S λA=>?_;have dz:=A.size;refine wR 12 λK hK=>?_;go_simp;refine XX (dh.o _) ?_;rintro e L ⟨v,rfl,hv,S⟩;obtain⟨⟨ia,ic,ix⟩,rfl,rfl,dX,dY,aZ,dZ⟩:=rD hv (by omega);simp only[ae.val]at*;refine oT hK A S λA=>?_;refine wR 13 λK hK=>?_;go_simp;refine hK.o _ _ A λA=>?_;refine wD ?_;try simp only[pV]
 have Dr:Y3 (di Fq L ⟨ia,ic,ix⟩):=⟨dX,λ_ z e=>Ul.o _ (Qz aX.o.size (Qz dz (dY z e))),aZ,dZ⟩;obtain⟨Q,j⟩:=aJ (wI.o.keep (QB (s:=λb=>b<M (H w1)) A (λ_ h _=>h)) wI.o.lt) (az aX.o A);obtain⟨w3,fE,bP,ak⟩:=aL L #[Y (O (aD a 0)),Y (O (aD ra 0))] 95;have dA:=nO.o L ⟨ia,ic,ix⟩ j.o rfl Dr.o w3 (M (H L)) ra r 3 0 bP (.inl ⟨rfl,rfl⟩) HR.o bO.o ak.k2.1 ak.k2.2;obtain⟨a0,a1,a2,a3,a4,a5,a6,a7,a8,a9,nA,oC,aj⟩:=Q.o.oh;have aR:=Zh bP;go_wp2_with fail;refine dA.mono ?_;rintro e w4 ⟨r1,t1,rfl,hT,hP,aH⟩;obtain⟨w5,vT,bQ,ek⟩:=aL w4 #[Y (O (aD r1 0))] 95;have uu:=Qz j.o.size aR.o.size;obtain⟨eu,jG⟩:=aJ (FV.one (P:=Pd ts q (s1|||s2)) (Qz aR.o.size aH.size) ek (hT.mono (G:=Fq) λb _ h=>h.elim And.left λh=>Ul.o b (Qz uu h)) bQ (Qn _) hP) (az aR.o (az aH bQ));go_wp2;clear vT;go_loopw [9,42] (λpv iv wr=>∃(k:Nat) (xs:List Nat),k<=N ix/\iv=I J (k:Int)/\1<=N xs/\N xs<=1+2*k/\Y3 (FV Fq (M (H L)) wr (Pd ts q (s1|||s2)) pv xs)/\Y3 (Bw L wr)) (λ_ iv _=>N ix-(intOf iv).toNat)
 case atStart=>exact⟨0,[r1],QW _,rfl,by simp,by simp,eu.o,jG.o⟩
 case round=>
  obtain⟨k,xs,hk,rfl,aI,fF,HL,HW⟩:=hrel;obtain⟨pa,pm,pc,rfl⟩:=Zc HL.o.own;by_cases cZ:k<N ix
  .obtain⟨kb,Un,rfl,bR⟩:=Qg (Qo HW.o Dr.o.at') cZ;have dB:=bR k cZ;simp only at dB;generalize E ix k 0=key at*;obtain⟨⟨k1,k2,k3⟩,bf⟩:∃p,KP key=p:=⟨_,rfl⟩
   obtain⟨y1,bS,au,bg⟩:=aL wr #[I J 4,I J 0,I J 0,I J 0,Z (O (aD kb Un)) (N ix) ic,I J key,Z xn 0 0] 102;have aA:=az j.o (az HW.o au);have bD:=Q.o.keep (QB (s:=λb=>b<M (H L)) (az HW.o au) (λ_ h _=>h)) Q.o.lt;obtain⟨a0,a1,a2,a3,a4,a5,a6,a7,a8,a9,nA,oC,aj⟩:=bD.oh;obtain⟨n0,n1,n2,n3,n4,n5,n6⟩:=bg.k7;obtain⟨p0,p1,p2,p3,p4,p5,-,-⟩:=vU.o.below aA;obtain⟨q0,q1,q2,q3,q4,q5,-,-⟩:=bM.o.below aA;simp only[ae.val]at p3 q3;have JS:Y3 _:=λx (R:Bw y1 x)=>dm.o x (O (aD kb Un)) ic key (az aA R) (Qo (az au R) (Qo HW.o Dr.o.at'));rw[bf]at JS;obtain⟨aK,eB,bU,bV⟩:=om bf au bg bS;clear bR bf au bg aA bD bS;go_wp2_with fail;rw[bV.o];clear bV;refine wH y1 λA=>?_;refine U1 0 A ?_;refine wR 10 λK hK=>?_;go_simp;refine XX (JS.o _ A) ?_;rintro e y2 ⟨rfl,S⟩;refine oT hK A S λA=>?_;clear hK K S JS;refine wA6 11 A ?_;refine wR 17 λK hK=>?_;go_simp;refine hK.o _ _ A λA=>?_;refine wD ?_;try simp only[pV]
   have B:=Zh (az eB.o A);have aS:=bU.o.keep (QB (s:=λb=>b<M (H y1)) A (λ_ h _=>h)) bU.o.lt;cases k3
   .obtain⟨HF,eD⟩:=aJ (HL.o.below B.o) (az HW.o B.o);go_wp2;go_roundw
    case rel=>exact⟨k+1,xs,by omega,by go_num,aI,by omega,HF.o,eD.o⟩
    case measure=>simp[intOf];omega
   have fA:=HW.o.size;have fB:=B.o.size;have fC:M (H wr)<M (H y2):=aS.lt;have dC:∀g,(Value.slice pa pm pc).ownBlock=O g->M (H L)<=g/\g<M (H wr):=λg e=>Zb HL.o.own e;have dD:=Zh ((HL.o.mono (G:=λb=>Fq b/\b≠M (H wr)) λb S h=>⟨h,by omega⟩).below B.o);have dE:=Q.o.keep (QB (s:=λb=>b<M (H L)) (az HW.o B.o) (λ_ h _=>h)) Q.o.lt;obtain⟨y3,fG,bW,ak⟩:=aL y2 #[Y (O (aD a 0)),Y (O (aD ra 0))] 95;have dG:=az (az HW.o B.o) bW;have dJ:=nO.o L ⟨O (aD kb Un),ic,ix⟩ j.o rfl Dr.o y3 (M (H y2)) ra r 4 key dG (.inr (.inl ⟨rfl,by rw[aK.o]⟩)) HR.o bO.o ak.k2.1 ak.k2.2;obtain⟨a0,a1,a2,a3,a4,a5,a6,a7,a8,a9,nA,oC,aj⟩:=dE.oh;obtain⟨n0,n1,n2,n3,n4,n5,n6⟩:=aS.k7;obtain⟨Tf,bX,bY⟩:=dQ bW aS dC;go_wp2_with fail;refine dJ.mono ?_;rintro e y4 ⟨r4,t4,rfl,hT,hP,aH⟩;have fD:=Tf.o.size;have aa:=az Tf.o aH;obtain⟨v5,y5,oU,eF,Gh,eG,fH,za,zm,zc,rfl⟩:=dD.o.push aa (by omega) (by omega) (hT.mono (ag8 (λg e=>by have:=bY.o g e;omega) ⟨by omega,by omega⟩ λb h=>Ul.o b (by have:=j.o.size;omega))) hP;have dK:=(bX.o.keep (QB (s:=λb=>b<M (H y2)) aa (λ_ h _=>h)) bX.o.lt).keep eG (λe=>by have:=bY.o _ e;omega);have bE:Bw L y5:=(az (az HW.o B.o) aa).trans Gh;have dL:=dn.o y5 k2 (az j.o bE);obtain⟨av,bn,ax⟩:=dQ eF dK bE;go_wp2_with (first|(at_builtin;refine Xm rfl (.tmp 66) (.tmp 73) 103 rfl (Z pa pm pc) (Z (O (aD (M (H y4)) 0)) 1 1) (Z za zm zc) y5 rfl rfl oU ?_));go_wp2_with fail;refine dL.mono ?_;rintro e y6 ⟨po,rfl,eH,ay⟩;rcases eH with rfl|⟨mb,m,rfl,hm,dS,dU⟩
   .obtain⟨HF,UO⟩:=aJ ((av.o.below ay).mono (G:=Fq) λb _ h=>h.1) (az ax.o ay);go_wp2;go_roundw
    case rel=>exact⟨k+1,_,by omega,by go_num,by simp,by simp;omega,HF.o,UO.o⟩
    case measure=>simp[intOf];omega
   obtain⟨-,-,-,p3,-⟩:=vU.o.below (az j.o (az ax.o ay));simp only[ae.val]at p3;obtain⟨y7,fI,bZ,eO⟩:=aL y6 #[I J k1] 3;have bF:=dw.o y7 (M (H y6)) k1 (az j.o (az ax.o (az ay bZ))) (eO.at 0);obtain⟨eP,HM,eQ,eT,fJ⟩:=J2 (az ay bZ) hm dS dU (rfl:aQ l.d.order [k1]=aQ l.d.order [k1]);generalize fu:aQ l.d.order [k1]=SB at bF;have dM:=Zh fu;go_wp2_with fail;refine bF.mono ?_;rintro e y8 ⟨rfl,H5⟩;have Sr:=Zh (az eP.o H5);cases SB
   .obtain⟨HF,UO⟩:=aJ ((av.o.below Sr.o).mono (G:=Fq) λb _ h=>h.1) (az ax.o Sr.o);go_wp2;go_roundw
    case rel=>exact⟨k+1,_,by omega,by go_num,by simp,by simp;omega,HF.o,UO.o⟩
    case measure=>simp[intOf];omega
   have af:=bn.o.keep (QB (s:=λb=>b<M (H y5)) Sr.o (λ_ h _=>h)) bn.o.lt;have n0:=af.at 0;have z0:=af.frozen 0;go_upto_region 14 with fail;obtain⟨y9,aM⟩:∃x,x=UC y8 (aD (M (H wr)) 0) (I J 5):=⟨_,rfl⟩;rw[<-aM];have bG:GB y9 (M (H wr)) 102 #[I J 5,I J 0,I J 0,I J 0,Z (O (aD kb Un)) (N ix) ic,I J key,Z xn 0 0]:=by rw[aM];exact af.set 0 _
   have SH:Kept (λb=>b≠M (H wr)) y8 y9:=by rw[aM];exact Q8 _ _ _ (λh=>h rfl)
   have dN:=af.lt;have aB:=(az ax.o Sr.o).trans (SH.below (by omega) (λb S=>by omega));have bH:∀g,(Value.slice za zm zc).ownBlock=O g->M (H L)<=g/\g<M (H y5):=λg e=>Zb av.o.own e;have bI:=(av.o.below Sr.o).kept SH (λb h=>h.2) (λg e=>λe'=>jh av.o.own bn.o (by decide) (e' ▸ e));have bJ:=Q.o.keep (QB (s:=λb=>b<M (H L)) aB (λ_ h _=>h)) Q.o.lt;clear aM n0 z0 af;obtain⟨a0,a1,a2,a3,a4,a5,a6,a7,a8,a9,nA,oC,aj⟩:=bJ.oh;obtain⟨n0,n1,n2,n3,n4,n5,n6⟩:=bG.k7;obtain⟨x1,aI,bq,D⟩:=aL y9 #[Y (O (aD a 0)),Y (O (aD mb 0))] 95;have bK:=nO.o L ⟨O (aD kb Un),ic,ix⟩ j.o rfl Dr.o x1 (M (H y9)) mb m 5 key (az aB bq) (.inr (.inr ⟨rfl,by rw[aK.o],by rw[aK.o];exact dM.o,by rw[aK.o];exact eT.o⟩)) HM.o eQ.o D.k2.1 D.k2.2;obtain⟨eX,bu,bz,eZ⟩:=om bI aB bq bH;have dO:M (H y8)<=M (H y9):=SH.size;have dP:=Sr.o.size;clear bG SH aB bI bJ bq D bH;go_wp2_with fail;refine bK.mono ?_;rintro e x2 ⟨r5,t5,rfl,hT,hP,bA⟩;have dR:=bz.o.size;obtain⟨v6,x3,cu,cz,cO,wN,fe,ua,um,uc,rfl⟩:=eX.o.push (az bz.o bA) (by have:=bu.o.size;omega) (by simp;omega) (hT.mono (ag8 (λg e=>by have:=eZ.o g e;omega) ⟨by omega,by omega⟩ λb h=>Ul.o b (by have:=j.o.size;have:=bu.o.size;omega))) hP;have HF:=Zh (cz.mono (G:=Fq) λb _ h=>h.1);have UO:Y3 (Bw L x3):=(az bu.o (az bz.o bA)).trans cO;clear bK hT hP bA dR cz cO wN fe aI dO dP dN;go_wp2_with (first|(at_builtin;refine Xm rfl (.tmp 91) (.tmp 98) 103 rfl (Z za zm zc) (Z (O (aD (M (H x2)) 0)) 1 1) (Z ua um uc) x3 rfl rfl cu ?_));clear cu a0 a1 a2 a3 a4 a5 a6 a7 a8 a9 nA oC aj n0 n1 n2 n3 n4 n5 n6;go_wp2;go_roundw
   case rel=>exact⟨k+1,_,by omega,by go_num,by simp,by simp;omega,HF.o,UO.o⟩
   case measure=>simp[intOf];omega
  .go_wp2;go_ret;exact⟨_,xs,rfl,aI,by omega,⟨nM HL.o.own j.o.size,HL.o.tr⟩,az j.o HW.o⟩
end
section
variable {ts:List ah} {q:af} {Fq:Nat->Prop} {W0 w:U} {f:aF}
structure LtW(Fq:Nat->Prop)(base:Nat)(w:U)(P:dH->Prop)(lv:X3)(ls:List mI):Prop where
 own:w.ownsRow base 103 1 lv (N ls) (ls.map mI.val)
 each:∀x∈ls,dA w (O x.ad) x.xs/\x.ad.block<M (H w)/\lv.ownBlock≠O x.ad.block
 tr:∀y∈fq ls,∃t,dI (Fv Fq lv) w y t/\P t
theorem LtW.push{base:Nat}(h:LtW Fq base w P lv ls){y:U}(hb:Bw w y)(hw:base<=M (H w))(hl:N ls<=1000){ua:Addr}{us:List Nat}(uc:Nat)(hup:dA y (O ua) us)(hun:M (H w)<=ua.block/\ua.block<M (H y))(ht:∀x∈us,∃t,dI (Fv Fq lv) y x t/\P t) :
  ∃j z,(Builtin.append_ #[247,247] 247 #[lv,Z (O (aD (M (H y)) 0)) 1 1]).run V (y.alloc (EP #[Z (O ua) (N us) uc] 103))=.ok j z/\
   LtW Fq base z P j (ls++[⟨ua,uc,us⟩])/\Below base y z/\∃a m c,j = Z a m c:=by
 have q:=Qz hw hb.size;have l:∀b,lv.ownBlock=O b->base<=b/\b<M (H w):=λb e=>Zb h.own e;obtain⟨j,z,u,v,k,A,p⟩:=adj y base lv ls (XU h.own hb) hl q ⟨ua,uc,us⟩ 247;have f:j.ownBlock=lv.ownBlock∨∃g,j.ownBlock=O g/\M (H y)<=g:=p.imp id (λe=>⟨_,e,by omega⟩);have i:∀b,b<M (H y)->lv.ownBlock≠O b->j.ownBlock≠O b:=λb hl G e=>by grind
 refine⟨j,z,u,⟨v,λx d=>?_,λx d=>?_⟩,k.below q (λb hb e=>by have:=(l b e).1;omega),A⟩
 .rcases Zi.1 d with d|d
  .obtain⟨B,C,D⟩:=h.each x d;have r:=QA C hb.size;exact⟨(B.below hb).bC k (λ_ a e=>by grind),QA r k.size,i _ r D⟩
  .rw[Zg]at d;rw[d];have n:lv.ownBlock≠O ua.block:=λe=>by have:=l _ e;omega
   exact⟨hup.bC k (λ_ a e=>by grind),QA hun.2 k.size,i _ hun.2 n⟩
 .rw[Jr,Zi]at d;rcases d with d|d
  .exact(h.tr x d).imp λ_ h=>⟨(h.1.below hb).ug k f,h.2⟩
  .exact(ht x d).imp λ_ h=>⟨h.1.ug k f,h.2⟩
theorem LtW.lists{base:Nat}(h:LtW Fq base w P lv ls):∃d cap,lv=Z d (N ls) cap/\agL w d ls:=by
 have b:∀i,i<N ls->E ls i OX∈ls:=λi a=>by grind
 rcases jo h.own with⟨rfl,h0⟩|⟨g,cap,rfl,_,_,hc⟩
 .have:=Qs h0;subst this;exact⟨xn,0,rfl,λi a=>absurd a (by simp),λi a=>absurd a (by simp)⟩
 .refine⟨_,cap,rfl,λi a=>⟨g,0,rfl,?_⟩,λi a=>(h.each _ (b i a)).1⟩
  grind
def ake(Ez:Env f ts q W0)(hq:QF ts q)(hz:Fz Fq W0 w){ga:Nat}{oa ob:List ae}{ha hb:Option Nat}(hA:jW ts q s1 Fq w ga oa ha)(gca:Nat)(hB:jW ts q s2 Fq w gb ob hb)(gcb:Nat)(hap:s1 &&& s2=0)(hne:hb≠xn) :
  Calls V 121 #[FL (f.cells ts q),Z (O (aD ga 0)) (N oa) gca,Z (O (aD gb 0)) (N ob) gcb] w (vL Fq w (Pd ts q (s1|||s2)) 0 340):=by
 obtain⟨v0,v1,v2,v3,v4,v5,v6,v7,v8,v9,A,B,C,cK,-⟩:=X9 f ts q;obtain⟨w1,aK,D,au⟩:=aL w #[v0,v1,v2,v3,v4,v5,v6,v7,v8,v9,A,B,C] 90;have X:=UB hA D gca;have aa:Y3 (∀(y x:U) (ap:Nat),Bw w y->Bw y x->(∃t,dI Fq w ap t/\Pc ts q s1 t)->Calls V 184 #[FL #[v0,v1,v2,v3,v4,v5,v6,v7,v8,v9,A,B,C],Y (O (aD ap 0)),Z (O (aD gb 0)) (N ob) gcb] x (vL (Fn Fq (M (H y)) (M (H x))) x (Pd ts q (s1|||s2)) 1 17)):=λy x ap hy j ⟨t,ht,hp⟩=>by rw[<-cK];have up:∀b,b<M (H w)->Fq b->Fn Fq (M (H y)) (M (H x)) b:=λb hb hF=>.inl ⟨hF,QA hb hy.size⟩;exact ag9 Ez hq (Fz.cut (hz.next hy) j) ap t ((ht.mono up).below (az hy j)) hp ((hB.mono up).below (az hy j)) hap gcb hne
 obtain⟨av,wI⟩:=aJ D au;have Ul:Y3 (∀b,M (H w)<=b->Fq b):=hz.high;rw[cK];go_enter Tryz.func121,Tryz.ntmps121;go_wp2_with fail;refine X.mono ?_;rintro e p ⟨vp,xs,rfl,aM,ax,ay,G⟩;obtain⟨xa,xc,rfl,aA,-⟩:=xR ax (by omega);obtain⟨aB,HX,K,l⟩:=om aA ay (wI.o.keep (QB (s:=λb=>b<M (H w1)) G (λ_ h _=>h)) wI.o.lt) (az av.o G);go_wp2;go_loopw [7,13] (λlv xv wr=>∃(k:Nat) (ls:List mI),k<=N xs/\xv=I J (k:Int)/\Y3 (N ls=k/\N (fq ls)<=17*k)/\Y3 (LtW Fq (M (H p)) wr (Pd ts q (s1|||s2)) lv ls)/\Y3 (Bw p wr)) (λ_ xv _=>N xs-(intOf xv).toNat)
 case atStart=>exact⟨0,[],QW _,rfl,⟨rfl,by simp[fq]⟩,⟨Zk _ _ _ _,(λx j=>by cases j),(λx j=>by cases j)⟩,Qm _ _⟩
 case round=>
  obtain⟨k,ls,hk,rfl,r,W,m⟩:=hrel;obtain⟨la,lc,rfl,a⟩:=W.o.lists;have af:=Zh a;by_cases n:k<N xs
  .obtain⟨kb,Un,rfl,L⟩:=dA.get (aB.o.below m.o) n;have aI:=L k n;have ag:=aa.o p wr (E xs k 0) l.o m.o (HX.o _ (Xl (d:=0) n));generalize E xs k 0=ap at*;have hf:=K.o.keep (QB (s:=λb=>b<M (H p)) m.o (λ_ h _=>h)) K.o.lt;obtain⟨a0,a1,a2,a3,a4,a5,a6,a7,a8,a9,nA,oC,aN⟩:=hf.oh;clear L hf a;go_wp2_with fail;refine ag.mono ?_;rintro e w3 ⟨u,us,rfl,aO,aP,P,Q⟩;obtain⟨uo,uc,rfl,R,aC⟩:=P.at (by omega);obtain⟨ub,aF,rfl,aG⟩:=dA.get R (i:=0) (by omega);have v:∀g,(Value.slice la (N ls) lc).ownBlock=O g->M (H p)<=g/\g<M (H wr):=λg e=>Zb W.o.own e
   obtain⟨v5,y5,oU,aH,Gh,za,zm,zc,rfl⟩:=W.o.push Q m.o.size (by have:=r.o;omega) uc R ⟨aC _ rfl,QK (aG 0 (by omega))⟩ λx j=>(P.tree j).imp λ_ h=>⟨h.1.mono λb hb hF=>by
    rcases hF with⟨h1,h2⟩|h1
    .exact⟨h1,λe=>by have:=v b e;omega⟩
    .exact⟨Ul.o b (by have:=l.o.size;have:=m.o.size;omega),λe=>by have:=v b e;omega⟩,h.2⟩
   have ah:=Zh aH;have ai:Y3 (Bw p y5):=(az m.o Q).trans Gh;have aj:Y3 (N (fq (ls++[⟨(aD ub aF),uc,us⟩]))<=17*(k+1)):=by show _<=_;rw[Jr,Zn];simp only;have:=r.o;omega
   go_wp2_with (first|(at_builtin;refine Xm rfl (.tmp 17) (.tmp 22) 247 rfl (Z la (N ls) lc) (Z (O (aD (M (H w3)) 0)) 1 1) (Z za zm zc) y5 rfl rfl oU ?_));go_wp2;go_roundw
   case rel=>exact⟨k+1,_,by omega,by go_num,⟨by have:=r.o;simp;omega,aj.o⟩,ah.o,ai.o⟩
   case measure=>simp[intOf];omega
  .have ak:=Ui la lc ls wr af.o (by have:=r.o;omega) (by have:=r.o;omega);go_wp2_with fail;refine ak.mono ?_;rintro e w4 ⟨vr,rfl,KS,S⟩;have z:=az l.o m.o;have HF:Y3 (vL Fq w (Pd ts q (s1|||s2)) 0 340 (FN vr) w4):=⟨vr,_,rfl,QW _,by have:=r.o;omega,⟨nM KS z.size,λx j=>(W.o.tr x j).imp λ_ h=>⟨h.1.ale.own S (λg e=>(Zb KS e).1),h.2⟩⟩,az z S⟩
   obtain⟨aQ,rm,rc,rfl⟩:=Zc KS;go_wp2;go_ret;exact HF.o
end
section
def Bp(ts:List ah)(q:af)(t:dH):Prop:=BF ts q t/\uM q t
def Pc.ends(hq:QF ts q)(h:Pc ts q (2 ^ (N q.src.xs)-1) t):Bp ts q (mQ ts q t)/\(0<N (aR q)->Bp ts q (mQ ts q (fT ts q t (aR q)))):=by
 have e:=h.1.small hq;have a:=YD hq h.1.ts' (by omega) h.1.src;have b:=Ug (ts:=ts) h.2;unfold uK at a b;exact⟨⟨Di hq h.1.ts' (by omega) h.1.src,(Eo h.2).1⟩,λd=>by
  rw[Zt d]at a b;exact⟨a _ (by simp),(b _ (by simp)).1⟩⟩
variable {ts:List ah} {q:af} {Fq:Nat->Prop} {W0 w:U} {f:aF}
def YG(a:Nat)(ha:∃t,dI Fq w a t/\P t)(bo:Option Addr)(bc:Nat)(xs:List Nat)(hp:dA w bo xs)(hx:∀x∈xs,∃t,dI Fq w x t/\P t) :
  Calls V 177 #[Y (O (aD a 0)),Z bo (N xs) bc] w λe Q=>∃r,e=FN (Y (O (aD r 0)))/\(∃t,dI Fq w r t/\P t)/\Bw w Q:=by
 obtain⟨B,C,D⟩:=dQ ha hp hx;have R:=hp.1;clear ha hp hx;go_enter Tryz.func177,Tryz.ntmps177;go_wp2;go_loopw [5,11] (λpv q wr=>∃k r:Nat,k<=N xs/\q=I J (k:Int)/\pv=Y (O (aD r 0))/\Y3 (∃t,dI Fq w r t/\P t)/\Y3 (Bw w wr)) (λ_ q _=>N xs-(intOf q).toNat)
 case atStart=>exact⟨0,a,QW _,rfl,rfl,B.o,Qm _ _⟩
 case round=>
  obtain⟨k,r,S,rfl,rfl,m,i⟩:=hrel;by_cases b:k<N xs
  .obtain⟨W,X,rfl,f⟩:=dA.get (C.o.below i.o) b;have z:=f k b;have u:=Zh (D.o _ (Xl (d:=0) b));generalize E xs k 0=x at*;obtain⟨p,v,-⟩:=m.o.choose_spec.1.nW;obtain⟨y,g,-⟩:=u.o.choose_spec.1.nW;obtain⟨G,K⟩:=nH i.o v.c5 g.c5;generalize p.cost=cr at*;generalize y.cost=cx at*;clear f v g p y;obtain⟨L,n⟩:∃x,x=wr:=⟨_,rfl⟩
   subst n;go_wp2_with fail;refine wH L λj=>?_;refine U1 0 j ?_;rcases XV cx cr with A|A
   all_goals
    refine sN 10 j ?_;refine wD ?_;have l:=Zh (az i.o j);clear j G K;go_wp2;go_roundw
    case rel=>exact⟨k+1,_,by omega,by go_num,rfl,by first|exact u.o|exact m.o,l.o⟩
    case measure=>simp[intOf];omega
  .go_wp2;go_ret;exact⟨r,rfl,m.o,i.o⟩
def adw(Ez:Env f ts q W0)(hq:QF ts q)(hz:Fz Fq W0 w)(a:Nat)(t:dH)(ht:dI Fq w a t)(hp:Pc ts q (2 ^ (N q.src.xs)-1) t) :
  Calls V 178 #[FL (f.cells ts q),Y (O (aD a 0))] w (vL Fq w (Bp ts q) 0 2):=by
 obtain⟨v0,v1,v2,v3,v4,v5,v6,v7,v8,v9,A,B,C,cK,ai,aj,ak,au,av,ax,ay,-⟩:=X9 f ts q;have KO:q.cells=#[v0,v1,v2,v3,v4,v5,v6]:=by rw[ai,aj,ak,au,av,ax,ay];rfl
 clear ai aj ak au av ax ay;obtain⟨e1,e2⟩:=hp.ends hq;have q9:Y3 (∀(G:Nat->Prop) x r u,Fz G W0 x->dI G x r u->uM q u->Calls V 209 #[FL #[v0,v1,v2,v3,v4,v5,v6,v7,v8,v9,A,B,C],Y (O (aD r 0))] x (cZ 105 G x (mQ ts q u))):=λG x r u hx hr hu=>by rw[<-cK];exact ac8 Ez hx r u hr hu
 have aH:Y3 (∀(G:Nat->Prop) x,Fz G W0 x->Calls V 95 #[FL #[v0,v1,v2,v3,v4,v5,v6]] x (I5 G x (aR q))):=λG x hx=>by rw[<-KO];exact C9 Ez hx
 have xz:Y3 (∀(G:Nat->Prop) x (o:ae),Fz G W0 x->dI G x a t->o.xs=aR q->di G x o->Calls V 210 #[FL #[v0,v1,v2,v3,v4,v5,v6,v7,v8,v9,A,B,C],Y (O (aD a 0)),o.val] x (cZ 105 G x (fT ts q t (aR q)))):=λG x o hx ht W hi=>by rw[<-cK,<-W];exact I6 Ez hx a t ht hp.2 o hi.at' hi.inf hi.nil hi.cap (by rw[W];have:=Ez.agy;omega)
 obtain⟨w1,aK,n,D⟩:=aL w #[v0,v1,v2,v3,v4,v5,v6,v7,v8,v9,A,B,C] 90;obtain⟨a0,a1,a2,a3,a4,a5,a6,a7,a8,a9,nA,oC,p⟩:=D.oh;have aa:=q9.o Fq w1 a t (hz.next n) (ht.below n) hp.2;obtain⟨aM,aN,aO,aP,HZ,aQ,wI⟩:=ze e1 e2 (AQ (ts:=ts) (aR q) hp.2) ht hz n D;rw[cK];clear cK KO ht hp Ez hz n D e1 e2;go_enter Tryz.func178,Tryz.ntmps178;go_wp2_with fail;refine aa.mono ?_;rintro e k ⟨r,rfl,hT,aS,aT,v⟩;obtain⟨w3,aU,j,L⟩:=aL k #[Y (O (aD r 0))] 95;have i:=az aQ.o v;have l:=az i j;have af:=Zh (FV.one (P:=Bp ts q) i.size L hT j (Qn _) aM.o);have hg:=wI.o.keep (QB (s:=λb=>b<M (H w1)) (az v j) (λ_ h _=>h)) wI.o.lt;obtain⟨Q,aV⟩:=aJ (Fz.cut (HZ.o.next i) j) ((aP.o.mono (G:=Fn Fq (M (H k)) (M (H w3))) λb hb hF=>.inl ⟨hF,QA hb i.size⟩).below l);have aI:Y3 (∀b,Fn Fq (M (H k)) (M (H w3)) b->Fv Fq (Z (O (aD (M (H k)) 0)) 1 1) b):=λb h=>by
  have:=L.lt;rcases h with⟨h1,h2⟩|h1
  .exact⟨h1,λe=>by have e:M (H k)=b:=XY e;omega⟩
  .exact⟨HZ.o.high b (by have:=l.size;omega),λe=>by have e:M (H k)=b:=XY e;omega⟩
 have z:=Zh l;have aW:M (H w)≠M (H k):=by have:=wI.o.lt;have:=v.size;omega
 have ag:=aH.o _ w3 Q.o;clear aa hT aS aT v j L i l aK a0 a1 a2 a3 a4 a5 a6 a7 a8 a9 nA oC p;obtain⟨a0,a1,a2,a3,a4,a5,a6,a7,a8,a9,nA,oC,p⟩:=hg.oh;go_wp2_with fail;refine ag.mono ?_;rintro e w4 ⟨o,rfl,W,aA,R⟩;obtain⟨b0,b1,b2,b3,b4,b5,b6,b7,b8,b9,aX,aY,aZ⟩:=vM R a0 a1 a2 a3 a4 a5 a6 a7 a8 a9 nA oC p;obtain⟨X,HO,Dr⟩:=dQ R W aA;have ah:0<(N o.xs)↔0<N (aR q):=by rw[W]
 have JU:=Zh ah;obtain⟨oa,oc,ox⟩:=o;simp only[ae.val]at*;clear ag aU R W aA ah hg a0 a1 a2 a3 a4 a5 a6 a7 a8 a9 nA oC p;by_cases hn:0<N ox
 .go_wp2_with fail;refine wHk w4 (λb=>b≠M (H k)) λg=>?_
  refine wK4 0 g ?_;refine wK1 4 g ?_;refine wR 5 λK d=>?_;go_simp;refine XX (xz.o _ _ ⟨oa,oc,ox⟩ (Q.o.next X.o.drew) (aV.o.below X.o.drew) HO.o (Dr.o.below ((Qm _ _).drew))) ?_;rintro e w5 ⟨r2,rfl,aB,-,-,S⟩;have m:Bw w4 w5:=(Qm _ _).drew.trans S;refine oKs d g S λg=>?_;clear d K;refine wR 6 λK d=>?_;go_simp;refine XX (q9.o _ _ r2 _ (Q.o.next (az X.o m)) aB aO.o) ?_;rintro e w6 ⟨r3,rfl,aC,-,-,y⟩;refine oKs d g y λg=>?_;clear d K;refine wR 7 λK d=>?_;go_simp;refine oKs d g (dN _ _) λg=>?_;clear d K;refine wR 8 λK d=>?_;have YH:=az X.o (az m y);obtain⟨v',w7,Ky,aF,aG,wM,-,xa,xm,xc,rfl⟩:=af.o.push YH z.o.size (by simp) (aC.mono λb _ h=>aI.o b h) (aN.o (JU.o.1 hn));have HF:Y3 (vL Fq w (Bp ts q) 0 2 (FN (Z xa xm xc)) w7):=⟨_,_,rfl,QW _,by simp,aF,(az z.o YH).trans aG⟩;refine XJ (by rfl) _ _ _ (by rfl) (Z (O (aD (M (H k)) 0)) 1 1) (Z (O (aD (M (H w6)) 0)) 1 1) (Z xa xm xc) w7 (by rfl) (by rfl) Ky ?_;refine d.o _ _ ((QB (az m y) (λ_ h _=>h)).trans (wM.mono λb _ hb e=>hb (by injection e with e;exact e.symm))) λg=>?_;clear d K;refine wR 9 λK d=>?_;go_simp;refine d.o _ _ g λg=>?_;clear d K;refine wD ?_;try simp only[pV]
  clear Ky aF aG wM g YH aB aC S m y;go_wp2;go_ret;exact HF.o
 .have HF:Y3 (vL Fq w (Bp ts q) 0 2 (FN (Z (O (aD (M (H k)) 0)) 1 1)) w4):=⟨_,_,rfl,QW _,by simp,af.o.below X.o,az z.o X.o⟩
  have h0:N ox=0:=by omega
  rw[h0];clear h0 hn;go_wp2;go_ret;exact HF.o
end
def T32(t:dP):Prop:=t.1<32/\t.2<32
def UE(ao:Option Addr)(cap:Nat)(ag:List dP)(tl tr:Nat)(w:U)(hx:nX w ao ag)(ha:∀a∈ag,T32 a)(ht:T32 (tl,tr)) :
  Calls V 101 #[Z ao (N ag) cap,FL #[I Vo (tl:Int),I Vo (tr:Int)],.func (.func 102) #[] #[]] w λe w'=>∃(i:Nat) (b:Bool),e=FN (.tuple #[I J (i:Int),Wl b])/\i<=N ag/\(b=T->0<N ag)/\Bw w w':=by
 have m:Y3 (∀k x,k<N ag->Calls V 102 #[FL #[I Vo ((E ag k (0,0)).1:Int),I Vo ((E ag k (0,0)).2:Int)],FL #[I Vo (tl:Int),I Vo (tr:Int)]] x (YI x)):=λk x hk=>aki _ _ _ _ (ha _ (Xl hk)) ht x;have hl:=hx.1;have S:=Zh hx;obtain⟨w1,A,C,D⟩:=aL w #[I Vo (tl:Int),I Vo (tr:Int)] 138;obtain⟨t0,t1⟩:=D.k2;have n:=Zh C;go_enter Tryz.func101,Tryz.ntmps101;go_wp2;go_loopw [9,10] (λQ R wr=>∃i j:Nat,i<=j/\j<=N ag/\Q=I J (i:Int)/\R=I J (j:Int)/\Y3 (Bw w1 wr)) (λQ R _=>(intOf R).toNat-(intOf Q).toNat)
 case atStart=>exact⟨0,N ag,QW _,Qn _,rfl,rfl,Qm _ _⟩
 case round=>
  obtain⟨i,j,aa,G,rfl,rfl,u⟩:=hrel;obtain⟨y,L⟩:∃x,x=wr:=⟨_,rfl⟩;subst L;obtain⟨s0,s1⟩:UK y (aD (M (H w)) 0)=_/\UK y (aD (M (H w)) 1)=_:=⟨cB u.o t0,cB u.o t1⟩;by_cases ae:i<j
  .obtain⟨h,hh⟩:∃h,(i+j) / 2=h:=⟨_,rfl⟩
   have X:i<=h/\h<j:=by omega
   have A:wrap64 ((i:Int)+(j:Int))=((i+j:Nat):Int):=by unfold wrap64;omega
   have p:((i:Int)+(j:Int)) / 2=(h:Int):=by omega
   have q:h<N ag:=by omega
   obtain⟨b,off,rfl,c0,c1⟩:=(nX.below (az n.o u.o) S.o).2 h q;have r:(h:Int)<(N ag:Int):=by omega
   have g:Y3 _:=λx=>m.o h x q;generalize (E ag h (0,0)).1=xl at*;generalize (E ag h (0,0)).2=xr at*;go_wp2_with fail;try rw[p]
   refine wH y λd=>?_;refine wA6 0 d ?_;refine wR 6 λK f=>?_;go_simp;refine XX (g.o _) ?_;rintro e w2 ⟨v,rfl,P⟩;refine oT f d P λd=>?_;refine wR 7 λK f=>?_;go_simp;refine f.o _ _ d λd=>?_;refine wD ?_;try simp only[pV]
   have t:=Zh (az u.o d);cases hvb:decide (v<0)
   all_goals
    go_wp2;go_roundw
    case rel=>first|exact⟨i,h,by omega,by omega,rfl,rfl,t.o⟩|exact⟨h+1,j,by omega,G,by go_num,rfl,t.o⟩
    case measure=>simp[intOf];omega
  .have l:=Zh (az n.o u.o);by_cases z:i<N ag
   .obtain⟨b,off,rfl,c0,c1⟩:=(nX.below l.o S.o).2 i z;have g:Y3 _:=λx=>m.o i x z
    generalize (E ag i (0,0)).1=xl at*;generalize (E ag i (0,0)).2=xr at*;have r:(i:Int)<(N ag:Int):=by omega
    go_wp2_with fail;refine wH y λd=>?_;refine wA5 0 d ?_;refine wB6 5 d ?_;refine wR 11 λK f=>?_;go_simp;refine XX (g.o _) ?_;rintro e w2 ⟨v,rfl,P⟩;refine oT f d P λd=>?_;refine wg 12 (Wl (v==0)) d ?_;refine wg 13 (Wl (v==0)) d ?_;refine wR 14 λK f=>?_;go_simp;refine f.o _ _ d λd=>?_;refine wR 15 λK f=>?_;go_simp;refine f.o _ _ d λd=>?_;refine wD ?_;try simp only[pV]
    have B:=Zh (az l.o d);go_wp2;go_ret2;exact⟨i,_,rfl,by omega,λ_=>by omega,B.o⟩
   .have W:¬(i:Int)<(N ag:Int):=by omega
    go_wp2_with fail;refine wH y λd=>?_;refine wA5 0 d ?_;refine wS6 5 d ?_;refine wS2 11 d ?_;refine sN 13 d ?_;refine wR 14 λK f=>?_;go_simp;refine f.o _ _ d λd=>?_;refine wR 15 λK f=>?_;go_simp;refine f.o _ _ d λd=>?_;refine wD ?_;try simp only[pV]
    have B:=Zh (az l.o d);go_wp2;go_ret2;exact⟨i,false,rfl,by omega,(λe=>by cases e),B.o⟩
def AgK(w:U)(sb base:Nat)(arr:Array X3)(av:X3)(ag tl:List dP)(k:Nat)(x:U):Prop:=
 ∃(v:X3) (l:List dP),GB x sb 97 (arr.setIfInBounds 14 v)/\x.ownsRow base 138 2 v (N l) (l.flatMap eT)/\(∀t∈l,t∈ag∨t∈tl)/\N l<=N ag+k/\(0<N ag+k->0<N l)/\Kept (λb=>b≠sb/\av.ownBlock≠O b) w x/\(v.ownBlock=av.ownBlock∨∃g,v.ownBlock=O g/\M (H w)<=g)
theorem aln(sb base:Nat)(arr:Array X3)(av:X3)(ag tl:List dP)(ta:Option Addr)(tc:Nat)(w:U)(hg:GB w sb 97 arr)(h14:arr[14]? = O av)(hown:w.ownsRow base 138 2 av (N ag) (ag.flatMap eT))(hb:base<=M (H w))(hts:nX w ta tl)(aA1:∀a,ta=O a->a.block≠sb/\av.ownBlock≠O a.block)(hl:N ag+N tl<=1000000)(ha32:∀a∈ag,T32 a)(aA2:∀a∈tl,T32 a) :
  Calls V 61 #[Y (O (aD sb 14)),Z ta (N tl) tc] w λe w'=>(∃v,e=FN v)/\AgK w sb base arr av ag tl (N tl) w':=by
 obtain⟨aA,aB⟩:=aJ hts aA1;have D:Y3 (∀a,a∈ag∨a∈tl->T32 a):=λa h=>h.elim (ha32 a) (aA2 a);have ah:Y3 (AgK w sb base arr av ag tl 0 w):=⟨av,ag,by rw[show arr.setIfInBounds 14 av=arr by grind];exact hg,hown,λt h=>.inl h,by omega,λh=>h,Qy _ _,.inl rfl⟩;obtain⟨Ig,O9⟩:=aJ ((QI.1 h14).1) hb;go_enter Tryz.func61,Tryz.ntmps61;go_wp2;go_loopw [10] (λiv wr=>∃k:Nat,k<=N tl/\iv=I J (k:Int)/\Y3 (AgK w sb base arr av ag tl k wr)) (λiv _=>N tl-(intOf iv).toNat)
 case atStart=>exact⟨0,QW _,rfl,ah.o⟩
 case round=>
  obtain⟨k,hk,rfl,HI⟩:=hrel;by_cases af:k<N tl
  .obtain⟨aU,l,hG,hO,hm,aV,aC,R,hV⟩:=HI.o;obtain⟨tb,aW,rfl,aF,aG⟩:=(aA.o.bC R (λa ha=>aB.o a ha)).2 k af;obtain⟨n,p,rfl,aH⟩:=yT hO (by omega);have G:E tl k (0,0)∈tl:=Xl af;generalize E tl k (0,0)=t at*;obtain⟨j,B⟩:=t;simp only at aF aG;obtain⟨w1,aX,u,S⟩:=aL wr #[I Vo (j:Int),I Vo (B:Int)] 138;obtain⟨b0,b1⟩:=S.k2;have ai:UK w1 (aD sb 14)=O (Z n (N l) p):=by refine cB u ?_;rw[hG.cell 14,Jj,Zt rfl,Zt Ig.o]
   have aj:Y3 (∀x,Bw w1 x->_):=λx hx=>UE n p l j B x (aH.below (az u hx)) (λa h=>D.o a (hm a h)) (D.o _ (.inr G));obtain⟨aI,HM,aK,HK,HV,HO,W⟩:=ze (jh hO hG (by decide)) hm G R hV hO hG;obtain⟨aM,X,aY⟩:=dQ u S aC;obtain⟨wq,aN⟩:∃x,x=wr:=⟨_,rfl⟩;subst aN;go_wp2_with fail;refine wH w1 λd=>?_;refine wA4 0 d ?_;refine wR 4 λK f=>?_;go_simp;refine XX (aj.o _ d) ?_;rintro e y ⟨FA,TB,rfl,aO,aP,hb⟩;refine oT f d hb λd=>?_;refine wA4 5 d ?_;refine wR 9 λK f=>?_;go_simp;refine f.o _ _ d λd=>?_;refine wD ?_;try simp only[pV]
   obtain⟨ae,C⟩:=aJ d (az aM.o d);cases TB
   rotate_left
   .have L:Y3 (AgK w sb base arr av ag tl (k+1) y):=⟨_,l,W.o.keep (QB (s:=λb=>b<M (H wq)) C.o (λ_ h _=>h)) W.o.lt,XU HO.o C.o,HM.o,by omega,λ_=>aP rfl,HK.o.trans (QB C.o (λ_ h _=>h)),HV.o⟩
    go_wp2;go_roundw
    case rel=>exact⟨k+1,by omega,by go_num,L.o⟩
    case measure=>simp[intOf];omega
   have P:=cB ae.o ai;have ak:=Zh (X.o.keep (QB (s:=λb=>b<M (H w1)) ae.o (λ_ h _=>h)) X.o.lt);have aR:M (H wq)≠sb/\(Value.slice n (N l) p).ownBlock≠O (M (H wq)):=⟨λe=>by have:=W.o.lt;omega,λe=>by have:=(Zb HO.o e).2;omega⟩;have aS:UK y.drew (aD sb 14)=O (Z n (N l) p):=P;obtain⟨w3,aZ,i,aQ⟩:=aL y.drew #[I Vo (j:Int),I Vo (B:Int)] 138;have i:Bw y w3:=(Qm _ _).drew.trans i;have aT:=cB i P;have q:=az C.o i;have au:=Ue base FA (M (H y)) (Z n (N l) p) l (j,B) w3 (XU HO.o q) (Qz O9.o (Qz HK.o.size q.size)) (by omega) aO aQ (λe=>by have:=(Zb HO.o e).2;have:=C.o.size;omega);have ax:Y3 (∀x z,x.ownsRow base 138 2 z (N (l.take FA++(j,B)::l.drop FA)) ((l.take FA++(j,B)::l.drop FA).flatMap eT)->Kept (λb=>(Value.slice n (N l) p).ownBlock≠O b) w3 x->(z.ownBlock=(Value.slice n (N l) p).ownBlock∨∃g,z.ownBlock=O g/\M (H w3)<=g)->x.frozen? (aD sb 14)=false/\UK x (aD sb 14)=O (Z n (N l) p)/\AgK w sb base arr av ag tl (k+1) (UC x (aD sb 14) z)):=λx z KS m A=>by
    have r:=(W.o.keep (QB (s:=λb=>b<M (H wq)) q (λ_ h _=>h)) W.o.lt).keep m aI.o;have he:=aj2 Ig.o r KS HK.o C.o (Qm _ _) i m HV.o A (by decide);refine⟨r.frozen 14,by rw[r.cell 14,Jj,Zt rfl,Zt Ig.o],z,_,he.1,he.2.1,λt ht=>?_,by simp;omega,λ_=>by simp;omega,he.2.2⟩;rcases Zi.1 ht with h|h
    .exact HM.o t (XP h)
    .rcases Z0.1 h with rfl|h
     .exact .inr aK.o
     .exact HM.o t (X8 h)
   have zN:Y3 (Kept (λb=>b≠sb/\(Value.slice n (N l) p).ownBlock≠O b) y w3):=QB i λ_ h _=>h;obtain⟨x0,x1⟩:=ak.o.k2;go_wp2_with fail;refine wHk y (λb=>b≠sb/\(Value.slice n (N l) p).ownBlock≠O b) λd=>?_;refine wK3 0 d ?_;refine wK2 4 d ?_;refine wJ 3 6 (λK f=>?_) λK f=>?_;go_simp;refine f.o _ _ d λd=>?_;refine wR 6 λK f=>?_;go_simp;refine f.o _ _ zN.o (λd=>?_)
   rotate_left
   go_simp;refine f.o _ _ zN.o (λd=>?_);refine wR 3 λK f=>?_;go_simp;refine f.o _ _ d λd=>?_
   all_goals
    refine wR 7 λK f=>?_;go_simp;refine XX au ?_;rintro e w4 ⟨z,rfl,KS,m,A⟩;obtain⟨za,zm,zc,rfl⟩:=Zc KS;obtain⟨bf,bg,hF⟩:=ax.o w4 _ KS m A;have Q:=zN.o.trans (m.mono λb _ h=>h.2);refine f.o _ _ Q λd=>?_;refine wK1 8 d ?_;refine wR 9 λK f=>?_;go_simp;refine f.o _ _ (Q.trans (Q8 _ _ _ (λh=>h.1 rfl))) (λd=>?_);refine wD ?_;try simp only[pV]
    have L:=Zh hF;go_wp2;go_roundw
    case rel=>exact⟨k+1,by omega,by go_num,L.o⟩
    case measure=>simp[intOf];omega
  .have ay:N tl=k:=by omega
   have L:Y3 (AgK w sb base arr av ag tl (N tl) wr):=by rw[ay];exact HI.o
   go_wp2;go_end0;exact⟨⟨_,rfl⟩,L.o⟩
section
structure JA where
 gs:Nat
 sI:Nat
 gb:Nat->Nat
 UY:Nat->Nat
 os:Nat->List ae
 hd:Nat->Option Nat
 av:X3
 ag:List dP
 cut:Bool
 fO:Nat
 pv:X3
 pk:List Int
 st:Int
 ch:Option Nat
def nG(q:af):Nat:=2 ^ (N q.src.xs)-1
def Mu(q:af)(sb:Nat)(L:JA)(b:Nat):Prop:=b=sb∨(∃k,k<nG q/\b=L.gb k)∨L.av.ownBlock=O b∨L.pv.ownBlock=O b
def Fx(q:af)(sb:Nat)(L:JA)(b:Nat):Prop:=¬Mu q sb L b/\L.ch≠O b
def TkW(q:af)(hd:Nat->Option Nat)(t:dP):Prop:=
 (t.2=0/\∃i,i<N q.src.xs/\t.1=2 ^ i)∨(t.2≠0/\t.1<nG q/\t.2<nG q/\t.1 &&& t.2=0/\hd t.1≠xn/\hd t.2≠xn)
def swC(q:af)(L:JA):Array Value:=#[Z (O (aD L.gs 0)) (nG q) L.sI,L.av,Wl L.cut,Y (O (aD L.fO 0)),L.pv,I J L.st]
structure qw(W0:U)(f:aF)(ts:List ah)(q:af)(sb:Nat)(L:JA)(w:U):Prop where
 hz:Fz (Fx q sb L) W0 w
 blk:GB w sb 97 (f.cells ts q++swC q L)
 gsx:Fx q sb L L.gs
 gsl:L.gs<M (H w)
 xY:∀k,k<nG q->UK w (aD L.gs k)=O (Z (O (aD (L.gb k) 0)) (N (L.os k)) (L.UY k))
 Bi:∀k,k<nG q->jW ts q k (Fx q sb L) w (L.gb k) (L.os k) (L.hd k)/\N (L.os k)<=L.UY k/\L.UY k<=9223372036854775807
 apart:∀j k,j<nG q->k<nG q->L.gb j=L.gb k->j=k
 hd0:L.hd 0=xn
 ag:w.ownsRow (M (H W0)) 138 2 L.av (N L.ag) (L.ag.flatMap eT)
 task:∀t∈L.ag,TkW q L.hd t
 fO:∃t,dI (Fx q sb L) w L.fO t/\Bp ts q t
 pk:w.ownsRow (M (H W0)) 3 1 L.pv (N L.pk) (L.pk.map (Value.int J))
variable {W0 w w':U} {f:aF} {ts:List ah} {q:af} {sb:Nat} {L:JA}
def bG.move{G:Nat->Prop}(h:dI Fq w a t)(hk:Kept Fq w w')(hs:∀b,b<M (H w)->Fq b->G b):dI G w' a t:=
 ((h.mono (G:=λb=>Fq b/\G b) λb e d=>⟨d,hs b e d⟩).bC (hk.mono λ_ _ h=>h.1)).mono λ_ _ h=>h.2
def jW.move{G:Nat->Prop}{os:List ae}{hd:Option Nat}(h:jW ts q s Fq w gb os hd)(hk:Kept (λb=>Fq b∨b=gb) w w')(hs:∀b,b<M (H w)->Fq b->G b):jW ts q s G w' gb os hd:=
 ((h.mono (G:=λb=>Fq b/\G b) λb d a=>⟨a,hs b d a⟩).bC (hk.mono λ_ _ h=>h.imp And.left id)).mono λ_ _ h=>h.2
def qw.mu(h:qw W0 f ts q sb L w)(hb:Mu q sb L b):¬Live W0 b/\b<M (H w):=⟨λa=>(h.hz.low b a).1 hb,Nat.lt_of_not_le λa=>(h.hz.high b a).1 hb⟩
def qw.ne(h:qw W0 f ts q sb L w):L.av.ownBlock≠O sb/\L.pv.ownBlock≠O sb/\(∀b,L.av.ownBlock=O b->L.pv.ownBlock≠O b)/\∀k,k<nG q->L.gb k≠sb/\L.av.ownBlock≠O (L.gb k)/\L.pv.ownBlock≠O (L.gb k):=by
 refine⟨jh h.ag h.blk (by decide),jh h.pk h.blk (by decide),λb e=>?_,λk g=>?_⟩
 .obtain⟨d,a⟩:=pq h.ag e;exact jh h.pk (show GB w b _ d from a) (by decide)
 .obtain⟨c,a,-⟩:=(h.Bi k g).1.blk;exact⟨λe=>by have:=GB.tp a (e ▸ h.blk);exact absurd this (by decide),jh h.ag a (by decide),jh h.pk a (by decide)⟩
def qw.below(h:qw W0 f ts q sb L w)(hb:Bw w w'):qw W0 f ts q sb L w':=
 ⟨h.hz.next hb,h.blk.keep (QB (s:=λb=>b<M (H w)) hb (λ_ h _=>h)) h.blk.lt,h.gsx,QA h.gsl hb.size,λk a=>cB hb (h.xY k a),λk a=>⟨(h.Bi k a).1.below hb,(h.Bi k a).2⟩,h.apart,h.hd0,XU h.ag hb,h.task,h.fO.imp λ_ h=>⟨h.1.below hb,h.2⟩,XU h.pk hb⟩
def gG(W0:U)(f:aF)(ts:List ah)(q:af)(sb:Nat)(L:JA)(w:U)(L':JA)(w':U):Prop:=
 qw W0 f ts q sb L' w'/\Kept (λb=>¬Mu q sb L b) w w'/\∀b,Mu q sb L' b->Mu q sb L b∨M (H w)<=b
def gG.trans{L1 L2:JA}(h:gG W0 f ts q sb L w L1 w1)(h':gG W0 f ts q sb L1 w1 L2 w2):gG W0 f ts q sb L w L2 w2:=by
 obtain⟨l,d,e⟩:=h;obtain⟨g,i,j⟩:=h';refine⟨g,d.trans' i λb m a k=>?_,λb a=>?_⟩
 .rcases e b k with h|h
  .exact a h
  .omega
 .rcases j b a with h|h
  .exact e b h
  .exact .inr (Qz d.size h)
def qw.post(h:qw W0 f ts q sb L w')(hk:Kept (λb=>¬Mu q sb L b) w w'):gG W0 f ts q sb L w L w':=⟨h,hk,λ_ h=>.inl h⟩
def qw.next(h:qw W0 f ts q sb L w)(hk:Kept (λb=>b≠sb/\L.av.ownBlock≠O b/\L.pv.ownBlock≠O b) w w'){pv:X3}{pk:List Int}{st:Int}
  (hblk:GB w' sb 97 (f.cells ts q++swC q { L with av:=av,pv:=pv,st:=st }))
  (hag:w'.ownsRow (M (H W0)) 138 2 av (N ag) (ag.flatMap eT)) (hav:av.ownBlock=L.av.ownBlock∨∃g,av.ownBlock=O g/\M (H w)<=g) (htk:∀t∈ag,TkW q L.hd t)
  (hpk:w'.ownsRow (M (H W0)) 3 1 pv (N pk) (pk.map (Value.int J))) (hpv:pv.ownBlock=L.pv.ownBlock∨∃g,pv.ownBlock=O g/\M (H w)<=g) :
  gG W0 f ts q sb L w { L with av:=av,ag:=ag,pv:=pv,pk:=pk,st:=st } w':=by
 have j:∀b,Mu q sb { L with av:=av,ag:=ag,pv:=pv,pk:=pk,st:=st } b->Mu q sb L b∨M (H w)<=b/\b<M (H w'):=λb a=>by
  rcases a with a|a|a|a
  .exact .inl (.inl a)
  .exact .inl (.inr (.inl a))
  .rcases hav with d|⟨g,d,r⟩
   .exact .inl (.inr (.inr (.inl (d ▸ a))))
   .exact .inr ⟨XY (d.symm.trans a) ▸ r,(Zb hag a).2⟩
  .rcases hpv with d|⟨g,d,r⟩
   .exact .inl (.inr (.inr (.inr (d ▸ a))))
   .exact .inr ⟨XY (d.symm.trans a) ▸ r,(Zb hpk a).2⟩
 have n:∀b,b<M (H w)->Fx q sb L b->Fx q sb { L with av:=av,ag:=ag,pv:=pv,pk:=pk,st:=st } b:=λb a d=>⟨λy=>(j b y).elim d.1 (by omega),d.2⟩;have m:Kept (λb=>¬Mu q sb L b) w w':=hk.mono λb _ a=>⟨λe=>a (.inl e),λe=>a (.inr (.inr (.inl e))),λe=>a (.inr (.inr (.inr e)))⟩;have l:Kept (Fx q sb L) w w':=m.mono λ_ _ h=>h.1;have p:=h.ne;refine⟨⟨⟨h.hz.below.kept l h.hz.low,λb u=>⟨λv=>(j b v).elim (h.hz.low b u).1 λd=>by have:=u.lt;have:=h.hz.below.size;omega,(h.hz.low b u).2⟩,λb a=>⟨λv=>(j b v).elim (h.hz.high b (Qz hk.size a)).1 (by omega),(h.hz.high b (Qz hk.size a)).2⟩⟩,hblk,n _ h.gsl h.gsx,QA h.gsl hk.size,λk i=>Jk l (h.xY k i) h.gsx,λk i=>⟨(h.Bi k i).1.move (hk.mono λb _ a=>?_) n,(h.Bi k i).2⟩,h.apart,h.hd0,hag,htk,h.fO.imp λ_ h=>⟨bG.move h.1 l n,h.2⟩,hpk⟩,m,λb a=>(j b a).imp id And.left⟩;rcases a with a|rfl
 .exact⟨λe=>a.1 (.inl e),λe=>a.1 (.inr (.inr (.inl e))),λe=>a.1 (.inr (.inr (.inr e)))⟩
 .exact p.2.2.2 k i
theorem qw.group(h:qw W0 f ts q sb L w)(hs:s<nG q)(h0:s≠0){hk':Option Nat}(hg:jW ts q s (Fx q sb L) w' (L.gb s) (L.os s) hk')(hl:LeO (L.hd s) hk')(hk:Kept (λb=>b≠L.gb s) w w'):gG W0 f ts q sb L w { L with hd:=λk=>if k=s then hk' else L.hd k } w':=by
 have n:Kept (λb=>¬Mu q sb L b) w w':=hk.mono λb _ j e=>j (.inr (.inl ⟨s,hs,e⟩));have l:Kept (Fx q sb L) w w':=n.mono λ_ _ h=>h.1;have m:=h.ne;have p:∀k,L.hd k≠xn->(if k=s then hk' else L.hd k)≠none:=λk r=>by
  split
  .rename_i e
   subst e
   cases hh:L.hd k with
   |none=>exact absurd hh r
   |some c =>
    obtain⟨d,e,_⟩:=hl c hh;rw[e];simp
  .exact r
 refine⟨⟨⟨h.hz.below.kept l h.hz.low,h.hz.low,λb j=>h.hz.high b (Qz hk.size j)⟩,h.blk.keep hk (λe=>(m.2.2.2 s hs).1 e.symm),h.gsx,QA h.gsl hk.size,λk i=>Jk l (h.xY k i) h.gsx,λk i=>⟨?_,(h.Bi k i).2⟩,h.apart,?_,Za h.ag hk (λg e hg=>(m.2.2.2 s hs).2.1 (hg ▸ e)),λt v=>(h.task t v).imp id λ⟨a,b,c,d,e,g⟩=>⟨a,b,c,d,p _ e,p _ g⟩,h.fO.imp λ_ h=>⟨h.1.bC l,h.2⟩,Za h.pk hk (λg e hg=>(m.2.2.2 s hs).2.2 (hg ▸ e))⟩,n,λ_ h=>.inl h⟩
 .show jW ts q k _ w' (L.gb k) (L.os k) (if k=s then hk' else L.hd k)
  by_cases e:k=s
  .subst e;rw[Zt rfl];exact hg
  .rw[ZU e];refine(h.Bi k i).1.bC (hk.mono λb _ j u=>?_);rcases j with j|j
   .exact j.1 (.inr (.inl ⟨s,hs,u⟩))
   .exact e (h.apart k s i hs (j.symm.trans u))
 .show (if 0=s then hk' else L.hd 0)=xn
  rw[ZU (λe=>h0 e.symm)];exact h.hd0
def qw.better(h:qw W0 f ts q sb L w)(hk:Kept (λb=>b≠sb) w w'){b':Nat}(hblk:GB w' sb 97 (f.cells ts q++swC q { L with fO:=b' }))(ht:∃t,dI (Fx q sb L) w' b' t/\Bp ts q t):gG W0 f ts q sb L w { L with fO:=b' } w':=by have i:Kept (λb=>¬Mu q sb L b) w w':=hk.mono λb _ l e=>l (.inl e);have j:Kept (Fx q sb L) w w':=i.mono λ_ _ h=>h.1;have d:=h.ne;exact⟨⟨⟨h.hz.below.kept j h.hz.low,h.hz.low,λb l=>h.hz.high b (Qz hk.size l)⟩,hblk,h.gsx,QA h.gsl hk.size,λk a=>Jk j (h.xY k a) h.gsx,λk a=>⟨(h.Bi k a).1.bC (hk.mono λb _ l e=>l.elim (λh=>h.1 (.inl e)) λh=>(d.2.2.2 k a).1 (h.symm.trans e)),(h.Bi k a).2⟩,h.apart,h.hd0,Za h.ag hk (λg e m=>d.1 (m ▸ e)),h.task,ht,Za h.pk hk (λg e m=>d.2.1 (m ▸ e))⟩,i,λ_ h=>.inl h⟩
def qw.chan(h:qw W0 f ts q sb L w)(hb:Bw w w')(hl:M (H w)<M (H w')):qw W0 f ts q sb { L with ch:=O (M (H w)) } w':=by have a:=h.below hb;have j:∀b,Fx q sb { L with ch:=O (M (H w)) } b↔¬Mu q sb L b/\M (H w)≠b:=λb=>⟨λh=>⟨h.1,λe=>h.2 (congrArg O e)⟩,λh=>⟨h.1,λe=>h.2 (XY e)⟩⟩;have g:∀b,b<M (H w)->Fx q sb L b->Fx q sb { L with ch:=O (M (H w)) } b:=λb hb m=>(j b).2 ⟨m.1,by omega⟩;have l:Kept (Fx q sb L) w w':=QB hb λ_ h _=>h;exact⟨⟨a.hz.below,λb hl=>g b (QA hl.lt h.hz.below.size) (h.hz.low b hl),λb i=>(j b).2 ⟨(a.hz.high b i).1,by omega⟩⟩,a.blk,g _ h.gsl h.gsx,a.gsl,a.xY,λk d=>⟨(h.Bi k d).1.move (QB hb λ_ h _=>h) g,(h.Bi k d).2⟩,h.apart,h.hd0,a.ag,h.task,h.fO.imp λ_ h=>⟨bG.move h.1 l g,h.2⟩,a.pk⟩
def qw.other(h:qw W0 f ts q sb L w){c:Nat}(hc:L.ch=O c)(hn:¬Mu q sb L c)(hk:Kept (λb=>b≠c) w w'):qw W0 f ts q sb L w':=by have d:Kept (Fx q sb L) w w':=hk.mono λb _ i e=>i.2 (e ▸ hc);exact⟨⟨h.hz.below.kept d h.hz.low,h.hz.low,λb i=>h.hz.high b (Qz hk.size i)⟩,h.blk.keep hk (λe=>hn (.inl e.symm)),h.gsx,QA h.gsl hk.size,λk a=>Jk d (h.xY k a) h.gsx,λk a=>⟨(h.Bi k a).1.bC (hk.mono λb _ i e=>i.elim (λh=>h.2 (e ▸ hc)) λh=>hn (.inr (.inl ⟨k,a,e.symm.trans h⟩))),(h.Bi k a).2⟩,h.apart,h.hd0,Za h.ag hk (λg e j=>hn (.inr (.inr (.inl (j ▸ e))))),h.task,h.fO.imp λ_ h=>⟨h.1.bC d,h.2⟩,Za h.pk hk (λg e j=>hn (.inr (.inr (.inr (j ▸ e)))))⟩
end
section
variable {W0 w w':U} {f:aF} {ts:List ah} {q:af} {sb:Nat} {L:JA}
def adx(f:aF)(ts:List ah)(q:af)(L:JA)(av:X3):(f.cells ts q++swC q L)[14]? = O L.av/\(f.cells ts q++swC q L).setIfInBounds 14 av=f.cells ts q++swC q { L with av:=av }:=by obtain⟨v0,g,i,v3,v4,v5,j,k,l,v9,a,b,d,e,-⟩:=X9 f ts q;rw[e];exact⟨rfl,rfl⟩
def TkW.t32{hd:Nat->Option Nat}{t:dP}(h:TkW q hd t)(hn:N q.src.xs<=5):T32 t:=by
 have:2 ^ (N q.src.xs)<=2 ^ 5:=ZI (by omega) hn;unfold T32;rcases h with⟨h0,i,hi,e⟩|⟨_,h1,h2,_⟩
 .have:2 ^ i<2 ^ (N q.src.xs):=XO (by omega) hi;omega
 .unfold nG at h1 h2;omega
def AgP(W0:U)(f:aF)(ts:List ah)(q:af)(sb:Nat)(L:JA)(w:U)(n:Nat)(w':U):Prop:=
 ∃av ag hd fO,gG W0 f ts q sb L w { L with av:=av,ag:=ag,hd:=hd,fO:=fO } w'/\N ag<=N L.ag+n
def qw.added(h:qw W0 f ts q sb L w)(hb:Bw w x){tl:List dP}{k:Nat}(ha:AgK x sb (M (H W0)) (f.cells ts q++swC q L) L.av L.ag tl k w')(ht:∀t∈tl,TkW q L.hd t):∃av ag,gG W0 f ts q sb L w { L with av:=av,ag:=ag } w'/\N ag<=N L.ag+k/\(0<N L.ag+k->0<N ag):=by obtain⟨v,l,i,m,n,p,r,j,u⟩:=ha;have a:=h.ne;rw[(adx f ts q L v).2]at i;refine⟨v,l,h.next ((QB hb λ_ h _=>h).trans (j.mono λb _ h=>⟨h.1,h.2.1⟩)) i m (u.imp id λ⟨g,e,hg⟩=>⟨g,e,Qz hb.size hg⟩) (λt y=>(n t y).elim (h.task t) (ht t)) (Za (XU h.pk hb) j λg e=>⟨λd=>a.2.1 (d ▸ e),λd=>a.2.2.1 g d e⟩) (.inl rfl),p,r⟩
def ahe(h:qw W0 f ts q sb L w)(h5:N q.src.xs<=5)(s:Nat)(hs:s<nG q)(h0:s≠0)(hds:L.hd s≠xn)(hal:N L.ag<=900000) :
  Calls V 180 #[Y (O (aD sb 0)),I Vo (s:Int)] w λe X=>(∃v,e=FN v)/\AgP W0 f ts q sb L w 62 X:=by
 obtain⟨v0,v1,v2,v3,v4,v5,v6,v7,v8,v9,ay,az,aA,cK,-⟩:=X9 f ts q;have hn:nG q<=31:=by have:2 ^ (N q.src.xs)<=2 ^ 5:=ZI (by omega) h5;unfold nG;omega
 have au:UK w (aD sb 13)=O (Z (O (aD L.gs 0)) (nG q) L.sI):=by have:=h.blk.cell 13;rw[cK]at this;exact this
 have aa:Y3 (∃av ag,gG W0 f ts q sb L w { L with av:=av,ag:=ag } w/\N ag<=N L.ag+2*0):=⟨L.av,L.ag,h.post (Qy _ _),by omega⟩;obtain⟨D,L8⟩:=aJ hds h0;clear h cK hds h0;generalize R:nG q=gn at*;have Mv:=Zh R;clear R;go_enter Tryz.func180,Tryz.ntmps180;go_wp2;go_loopw [12] (λiv wr=>∃k:Nat,k<=gn/\iv=I J (k:Int)/\Y3 (∃av ag,gG W0 f ts q sb L w { L with av:=av,ag:=ag } wr/\N ag<=N L.ag+2*k)) (λiv _=>gn-(intOf iv).toNat)
 case atStart=>exact⟨0,QW _,rfl,aa.o⟩
 case round=>
  obtain⟨k,hk,rfl,HI⟩:=hrel;by_cases ak:k<gn
  .obtain⟨av,ag,A,G⟩:=HI.o;have l:=A.1;have j:k<nG q:=by rw[Mv.o];exact ak
   have ax:UK wr (aD L.gs k)=O (Z (O (aD (L.gb k) 0)) (N (L.os k)) (L.UY k)):=l.xY k j;have p:jW ts q k _ wr (L.gb k) (L.os k) (L.hd k):=(l.Bi k j).1;obtain⟨v,ch,hv⟩:=p.head;have r:=Bb p.one (L.UY k) ch;have m:=LY k s (by omega) (by omega) wr;have B:Y3 (∃av ag,gG W0 f ts q sb L w { L with av:=av,ag:=ag } wr/\N ag<=N L.ag+2*(k+1)):=⟨av,ag,A,by omega⟩;have ae:Y3 (L.hd k≠xn->k &&& s=0->∀x b,Bw wr x->GB x b 138 #[I Vo (s:Int),I Vo (k:Int),I Vo (k:Int),I Vo (s:Int)]->M (H wr)<=b->Calls V 61 #[Y (O (aD sb 14)),Z (O (aD b 0)) 2 2] x λe X=>(∃v,e=FN v)/\∃av ag,gG W0 f ts q sb L w { L with av:=av,ag:=ag } X/\N ag<=N L.ag+2*(k+1)):=λz g x b hx hg hb=>by
    have af:k≠0:=λe=>z (by rw[e];exact l.hd0);have C:∀t∈[((s,k):dP),(k,s)],TkW q L.hd t:=λt W=>by
     rcases Z0.1 W with rfl|W
     .exact .inr ⟨af,by rw[Mv.o];exact hs,j,by rw[Nat.and_comm];exact g,D.o,z⟩
     .rw[Zg]at W;rw[W];exact .inr ⟨L8.o,j,by rw[Mv.o];exact hs,g,z,D.o⟩
    have y:=l.below hx;refine(aln sb (M (H W0)) _ av ag [(s,k),(k,s)] (O (aD b 0)) 2 x y.blk (adx f ts q { L with av:=av,ag:=ag } av).1 y.ag y.hz.below.size ⟨by simp,λi hi=>⟨b,0,rfl,?_⟩⟩ (λa e=>?_) (by simp;omega) (λa ha=>(l.task a ha).t32 h5) (λa ha=>(C a ha).t32 h5)).mono ?_
    .have ah:i<2:=hi
     match i,ah with
     |0,_=>exact⟨hg.cell 0,hg.cell 1⟩
     |1,_=>exact⟨hg.cell 2,hg.cell 3⟩
    .cases e
     exact⟨λe=>by have e:b=sb:=e;have:=l.blk.lt;omega,λe=>by have S:b<M (H wr):=(Zb l.ag e).2;omega⟩
    .rintro e X ⟨hv,hA⟩;obtain⟨aj,K,h1,S,-⟩:=l.added hx hA C;exact⟨hv,aj,K,A.trans h1,by have S:N K<=N ag+[((s,k):dP),(k,s)].length:=S;simp at S;omega⟩
   generalize L.gb k=gb at*;generalize N (L.os k)=ol at*;generalize L.UY k=gc at*;clear A l p ch G HI j;rcases hv with⟨rfl,-⟩|⟨b,u,rfl,-,-,hh⟩
   .go_wp2_with fail;refine r.mono ?_;rintro e wz ⟨rfl,d⟩;have n:=d.symm;subst n;go_wp2;go_roundw
    case rel=>exact⟨k+1,by omega,by go_num,B.o⟩
    case measure=>simp[intOf];omega
   have ai:Y3 (L.hd k≠xn):=by show _≠_;rw[(hh rfl).2];simp
   clear hh;by_cases g:k &&& s=0
   .rw[Qw (by simpa using g)]at m;obtain⟨x1,aB,P,Q⟩:=aL wr #[I Vo (s:Int),I Vo (k:Int),I Vo (k:Int),I Vo (s:Int)] 138;have UX:=ae.o ai.o g x1 (M (H wr)) P Q (Qn _);clear g P Q;go_wp2_with fail;refine r.mono ?_;rintro e wz ⟨rfl,d⟩;have n:=d.symm;subst n;go_wp2_with fail;refine m.mono ?_;rintro e wz ⟨rfl,d⟩;have n:=d.symm;subst n;go_wp2_with fail;refine UX.mono ?_;rintro e w2 ⟨⟨rv,rfl⟩,hF⟩;have HF:=Zh hF;clear hF;go_wp2;go_roundw
    case rel=>exact⟨k+1,by omega,by go_num,HF.o⟩
    case measure=>simp[intOf];omega
   .rw[Qx (by simpa using g)]at m;clear g;go_wp2_with fail;refine r.mono ?_;rintro e wz ⟨rfl,d⟩;have n:=d.symm;subst n;go_wp2_with fail;refine m.mono ?_;rintro e wz ⟨rfl,d⟩;have n:=d.symm;subst n;go_wp2;go_roundw
    case rel=>exact⟨k+1,by omega,by go_num,B.o⟩
    case measure=>simp[intOf];omega
  .have HF:Y3 (AgP W0 f ts q sb L w 62 wr):=by obtain⟨av,ag,A,G⟩:=HI.o;exact⟨av,ag,L.hd,L.fO,A,by omega⟩
   go_wp2;go_end0;exact⟨⟨_,rfl⟩,HF.o⟩
end
section
variable {W0 w w':U} {f:aF} {ts:List ah} {q:af} {sb:Nat} {L:JA}
theorem qw.arr(h:qw W0 f ts q sb L w)(hF:f.cells ts q=#[v0,v1,v2,v3,v4,v5,v6,v7,v8,v9,v10,v11,v12]):GB w sb 97 #[v0,v1,v2,v3,v4,v5,v6,v7,v8,v9,v10,v11,v12,Z (O (aD L.gs 0)) (nG q) L.sI,L.av,Wl L.cut,Y (O (aD L.fO 0)),L.pv,I J L.st]:=by have:=h.blk;rw[hF]at this;exact this
def adK(Ez:Env f ts q W0)(hq:QF ts q)(h:qw W0 f ts q sb L w)(bo:Option Addr)(bc:Nat)(xs:List Nat)(hp:dA w bo xs)(hpo:∀a,bo=O a->a.block≠sb)(hx:∀x∈xs,∃t,dI (Fx q sb L) w x t/\Pc ts q (nG q) t) :
  Calls V 118 #[Y (O (aD sb 0)),I Vo (nG q:Int),Z bo (N xs) bc] w λe w'=>(∃v,e=FN v)/\∃fO,gG W0 f ts q sb L w { L with fO:=fO } w'/\Kept (λb=>b≠sb) w w':=by
 obtain⟨v0,v1,v2,v3,v4,v5,v6,v7,v8,v9,m,n,p,cK,-,-,-,-,-,-,-,-,ag,-⟩:=X9 f ts q;have W:UK w (aD sb 8)=O (I Vo (nG q:Int)):=by have:=(h.arr cK).at 8;rw[ag]at this;exact this
 have q9:Y3 (∀x a,Fz (Fx q sb L) W0 x->(∃t,dI (Fx q sb L) x a t/\Pc ts q (nG q) t)->Calls V 178 #[FL #[v0,v1,v2,v3,v4,v5,v6,v7,v8,v9,m,n,p],Y (O (aD a 0))] x (vL (Fx q sb L) x (Bp ts q) 0 2)):=λx a hz ⟨t,ht,hpc⟩=>by rw[<-cK];exact adw Ez hq hz a t ht hpc
 have au:Y3 (∃fO,gG W0 f ts q sb L w { L with fO:=fO } w/\Kept (λb=>b≠sb) w w):=⟨L.fO,h.post (Qy _ _),Qy _ _⟩;obtain⟨HP,aF,HX,UW⟩:=om hp hpo hx cK;have hl:=hp.1;clear h hp hpo hx cK ag Ez;generalize ak:nG q=gn at W ⊢;have Mv:=Zh ak;clear ak;go_enter Tryz.func118,Tryz.ntmps118;go_wp2;clear W;go_loopw [18] (λiv wr=>∃k:Nat,k<=N xs/\iv=I J (k:Int)/\Y3 (∃fO,gG W0 f ts q sb L w { L with fO:=fO } wr/\Kept (λb=>b≠sb) w wr)) (λiv _=>N xs-(intOf iv).toNat)
 case atStart=>exact⟨0,QW _,rfl,au.o⟩
 case round=>
  obtain⟨k,hk,rfl,HI⟩:=hrel;by_cases Q:k<N xs
  .obtain⟨bp,hP,y⟩:=HI.o;have R:=hP.1;obtain⟨bb,TK,rfl,ah⟩:=dA.get (HP.o.bC y (λ_ a ha=>aF.o a ha)) Q;have ax:=ah k Q;have X:=HX.o _ (Xl (d:=0) Q);generalize E xs k 0=a at*;obtain⟨j,aG⟩:∃x,x=wr:=⟨_,rfl⟩
   subst aG;have aa:Kept (Fx q sb L) w j:=y.mono λb _ hb e=>hb.1 (.inl e);have ae:=q9.o j.drew a (R.hz.next ((Qm _ _).drew)) (X.imp λ_ h=>⟨(h.1.bC aa).below ((Qm _ _).drew),h.2⟩);obtain⟨z,HW,aH⟩:=dQ (R.arr UW.o) R R.fO;have A:Y3 (∀x r,Bw j x->GB (UC x (aD sb 16) (Y (O (aD r 0)))) sb 97 #[v0,v1,v2,v3,v4,v5,v6,v7,v8,v9,m,n,p,Z (O (aD L.gs 0)) (nG q) L.sI,L.av,Wl L.cut,Y (O (aD r 0)),L.pv,I J L.st]->(∃t,dI (Fx q sb L) x r t/\Bp ts q t)->∃fO,gG W0 f ts q sb L w { L with fO:=fO } (UC x (aD sb 16) (Y (O (aD r 0))))/\Kept (λb=>b≠sb) w (UC x (aD sb 16) (Y (O (aD r 0))))):=λx r hx hg ht=>by have af:Kept (λb=>b≠sb) j (UC x (aD sb 16) (Y (O (aD r 0)))):=(QB hx (λ_ h _=>h)).trans (Q8 _ _ _ (λh=>h rfl));exact⟨r,hP.trans (R.better af (b':=r) (by rw[UW.o];exact hg) (ht.imp λ_ h=>⟨h.1.bC (Q8 _ _ _ (λh=>h.1 (.inl rfl))),h.2⟩)),y.trans af⟩
   have ay:UK j.drew (aD sb 16)=O (Y (O (aD bp 0))):=z.o.at 16;clear hP R y ah X aa HI;generalize (Z (O (aD L.gs 0)) (nG q) L.sI:X3)=GS at*;generalize L.av=AV at z A;generalize L.pv=PV at z A;go_wp2_with fail;refine Qv (S:=λx=>Kept (λb=>b≠sb) j x/\∃u,GB x sb 97 #[v0,v1,v2,v3,v4,v5,v6,v7,v8,v9,m,n,p,GS,AV,Wl L.cut,u,PV,I J L.st]) (by kernel_rfl) ⟨QB ((Qm (M (H j)) j).drew) (λ_ hl _=>hl),_,z.o⟩ (λi=>?_);refine wX4 0 i ?_;refine wX3 5 i ?_;refine wT 8 (FL #[v0,v1,v2,v3,v4,v5,v6,v7,v8,v9,m,n,p]) i (λx hx=>?_) ?_
   .obtain⟨u,hu⟩:=hx.2;obtain⟨e0,e1,e2,e3,e4,e5,e6,e7,e8,e9,aJ,aK,aL⟩:=hu.oh;go_simp
   refine wX1 9 i ?_;refine wJ 4 10 (λK g=>?_) λK g=>?_;go_simp;refine g.o _ _ i λi=>?_;clear g K;refine wR 10 λK g=>?_
   all_goals
    go_simp;refine XX ae ?_;rintro e w2 ⟨v,us,rfl,-,aI,D,ai⟩;have OQ:=(Qm (M (H j)) j).drew.trans ai;have B:=z.o.keep (QB (s:=λb=>b<M (H j)) OQ (λ_ h _=>h)) z.o.lt;have aA:=B.at 16;obtain⟨ua,uc,rfl,aj,-⟩:=D.at (by omega);refine g.o _ _ ⟨QB OQ (λ_ h _=>h),_,B⟩ (λi=>?_);clear g K
   rotate_left
   refine wR 4 λK g=>?_;go_simp;refine g.o _ _ i λi=>?_;clear g K
   all_goals
    refine wR 11 λK g=>?_;go_simp;refine XX (YG (P:=Bp ts q) (Fq:=Fx q sb L) bp (aH.o.imp λ_ h=>⟨h.1.below OQ,h.2⟩) ua uc us aj λx hx=>D.tree hx) ?_;rintro e w3 ⟨r,rfl,hT,G⟩;have wZ:=az OQ G;have l:=z.o.keep (QB (s:=λb=>b<M (H j)) wZ (λ_ h _=>h)) z.o.lt;refine g.o _ _ ⟨QB wZ (λ_ h _=>h),_,l⟩ (λi=>?_);clear g K;refine wX2 12 i ?_;have aB:=l.at 16;have aC:=l.frozen 16;have C:=l.set 16 (Y (O (aD r 0)));refine wR 14 λK g=>?_;go_simp;refine g.o _ _ ⟨(QB wZ (λ_ h _=>h)).trans (Q8 _ _ _ (λh=>h rfl)),_,C⟩ (λi=>?_);clear g K;refine wD ?_;try simp only[pV]
    have HF:=Zh (A.o w3 r wZ C (hT.imp λ_ h=>⟨h.1.below G,h.2⟩));clear i aB aC C hT G wZ l D aj aI B ay aA ax ae ai OQ;go_wp2;go_roundw
    case rel=>exact⟨k+1,by omega,by go_num,HF.o⟩
    case measure=>simp[intOf];omega
  .go_wp2;go_end0;exact⟨⟨_,rfl⟩,HI.o⟩
def adL(Ez:Env f ts q W0)(hq:QF ts q)(h:qw W0 f ts q sb L w)(hal:N L.ag<=900000)(s:Nat)(hs:s<nG q)(h0:s≠0)(bo:Option Addr)(bc:Nat)(xs:List Nat)(hp:dA w bo xs)(hpo:∀a,bo=O a->a.block≠L.gb s)(hx:∀x∈xs,∃t,dI (Fx q sb L) w x t/\Pd ts q s t) :
  Calls V 118 #[Y (O (aD sb 0)),I Vo (s:Int),Z bo (N xs) bc] w λe l=>(∃v,e=FN v)/\AgP W0 f ts q sb L w 62 l:=by
 obtain⟨v0,v1,v2,v3,v4,v5,v6,v7,v8,v9,W,X,aa,cK,-,-,-,-,-,-,-,-,p,-⟩:=X9 f ts q;have g:=h.arr cK;have P:UK w (aD sb 8)=O (I Vo (nG q:Int)):=by have:=g.at 8;rw[p]at this;exact this
 obtain⟨u,z,A⟩:=h.Bi s hs;have k:Mu q sb L (L.gb s):=.inr (.inl ⟨s,hs,rfl⟩);have m:Y3 (∀x,Bw w x->Calls V 179 #[Z (O (aD (L.gb s) 0)) (N (L.os s)) (L.UY s),FL #[v0,v1,v2,v3,v4,v5,v6,v7,v8,v9,W,X,aa],Z bo (N xs) bc] x λe l=>∃r,e=FN (Wl r)/\UZ ts q s (Fx q sb L) x (L.gb s) (L.os s) (L.hd s) l r 0):=λx i=>by rw[<-cK];exact adu Ez hq (h.hz.next i) (u.below i) (λhn=>hn.1 k) _ z A bo bc xs (hp.below i) hpo λy hy=>(hx y hy).imp λ_ h=>⟨h.1.below i,h.2⟩
 have KA:Y3 (∀x r,UZ ts q s (Fx q sb L) w.drew (L.gb s) (L.os s) (L.hd s) x r 0->AgP W0 f ts q sb L w 62 x/\(r=T->Calls V 180 #[Y (O (aD sb 0)),I Vo (s:Int)] x λe l=>(∃v,e=FN v)/\AgP W0 f ts q sb L w 62 l)):=λx r ⟨hk',g1,g2,g3,g4⟩=>by have Q:=h.group hs h0 g1 g2 ((QB ((Qm _ _).drew) λ_ h _=>h).trans g4);refine⟨⟨_,_,_,_,Q,by omega⟩,λe=>(ahe Q.1 Ez.five s hs h0 (by show (if s=s then hk' else L.hd s)≠xn;rw[Zt rfl];exact g3 (.inl e)) hal).mono ?_⟩;rintro e l ⟨hv,a,b,c,d,G,B⟩;exact⟨hv,a,b,c,d,Q.trans G,B⟩
 have R:=h.xY s hs;have af:sb≠L.gb s:=λe=>(h.ne.2.2.2 s hs).1 e.symm;have ah:L.gs≠L.gb s:=λe=>h.gsx.1 (e ▸ k);have ai:¬((s:Int)=(nG q:Int)):=by omega
 have aj:(s:Int)<(nG q:Int):=by omega
 have S:=g.at 13;have JX:=Zh g.oh;generalize L.gb s=ggb at*;generalize N (L.os s)=ggl at*;generalize L.UY s=ggc at*;generalize L.gs=ggs at*;generalize L.sI=aBw at*;generalize nG q=gn at*;clear h hal hp hpo hx u z A g cK p Ez hs k;go_enter Tryz.func118,Tryz.ntmps118;go_wp2_with fail;clear P;obtain⟨a0,a1,a2,a3,a4,a5,a6,a7,a8,a9,nA,oC,ae⟩:=JX.o;refine wHk w (λb=>b≠ggb) λj=>?_;refine wK4 0 j ?_;refine wK6 4 j ?_;refine wK2 10 j ?_;refine wR 12 λK D=>?_;go_simp;refine XX (m.o _ ((Qm (M (H w)) w).drew)) ?_;rintro e w2 ⟨r,rfl,hO⟩;refine D.o _ _ (j.trans hO.choose_spec.2.2.2) (λj=>?_);clear D K;refine wR 13 λK D=>?_;go_simp;refine D.o _ _ j λj=>?_;clear D K;refine wD ?_;try simp only[pV]
 obtain⟨G,B⟩:=KA.o w2 r hO;have H1:=Zh G;clear j hO G a0 a1 a2 a3 a4 a5 a6 a7 a8 a9 nA oC ae R S m KA;cases r
 .clear B;go_wp2;go_end0;exact⟨⟨_,rfl⟩,H1.o⟩
 .have n:=B rfl;clear B;go_wp2_with fail;refine n.mono ?_;rintro e w3 ⟨⟨rv,rfl⟩,C⟩;have HF:=Zh C;clear n C;go_wp2;go_end0;exact⟨⟨_,rfl⟩,HF.o⟩
def ahv(Ez:Env f ts q W0)(hq:QF ts q)(h:qw W0 f ts q sb L w)(hal:N L.ag<=900000)(s:Nat)(hs:s<=nG q)(h0:s≠0)(bo:Option Addr)(bc:Nat)(xs:List Nat)(hp:dA w bo xs)(hpo:∀a,bo=O a->¬Mu q sb L a.block)(hx:∀x∈xs,∃t,dI (Fx q sb L) w x t/\Pd ts q s t) :
  Calls V 118 #[Y (O (aD sb 0)),I Vo (s:Int),Z bo (N xs) bc] w λe g=>(∃v,e=FN v)/\AgP W0 f ts q sb L w 62 g:=by
 rcases Nat.lt_or_eq_of_le hs with hs|rfl
 .exact adL Ez hq h hal s hs h0 bo bc xs hp (λa e d=>hpo a e (.inr (.inl ⟨s,hs,d⟩))) hx
 .refine(adK Ez hq h bo bc xs hp (λa e d=>hpo a e (.inl d)) λx k=>(hx x k).imp λ_ h=>⟨h.1,h.2.1⟩).mono ?_;rintro e g ⟨i,b,j,-⟩;exact⟨i,_,_,_,b,j,by omega⟩
end
section
def Pd.scan(hq:QF ts q){i:Nat}(hi:i<N q.src.xs):Pd ts q (2 ^ i) (jr ts q (bT ts q) (i:Int)):=by
 obtain⟨a,b,f⟩:=YC hq (s:=(i:Int)) (by omega) (by omega);have d:=hq.five;have e:pcN (2 ^ i)=1:=by
  have:i=0∨i=1∨i=2∨i=3∨i=4:=by omega
  rcases this with rfl|rfl|rfl|rfl|rfl <;> decide
 exact⟨⟨⟨a,b,by show (jr ts q (iO ts q) (i:Int)).ns.length+2<=_;omega⟩,(TH ts q (kI ts q) (by omega) (by omega)).1⟩,by show (jr ts q (iO ts q) (i:Int)).ns.length+3<=_;omega⟩
variable {W0 w w':U} {f:aF} {ts:List ah} {q:af} {sb:Nat} {L:JA}
def AgP.pre(h:AgP W0 f ts q sb L x n w')(hb:Bw w x):AgP W0 f ts q sb L w n w':=by obtain⟨a,b,c,d,⟨g,i,j⟩,k⟩:=h;exact⟨a,b,c,d,⟨g,(QB hb λ_ h _=>h).trans i,λb e=>(j b e).imp id (Qz hb.size)⟩,k⟩
theorem ahw(Ez:Env f ts q W0)(hq:QF ts q)(h:qw W0 f ts q sb L w)(hal:N L.ag<=900000)(i:Nat)(hi:i<N q.src.xs) :
  Calls V 71 #[Y (O (aD sb 0)),FL #[I Vo ((2 ^ i:Nat):Int),I Vo 0]] w λe g=>(∃v,e=FN v)/\AgP W0 f ts q sb L w 62 g:=by
 obtain⟨v0,W,X,v3,v4,v5,v6,v7,v8,v9,p,u,z,cK,-⟩:=X9 f ts q;have h5:=Ez.five;have aI:2 ^ i<2 ^ (N q.src.xs):=XO (by omega) hi;have aK:2 ^ (N q.src.xs)<=32:=ZI (n:=2) (by omega) h5;have aH:0<2 ^ i:=Nat.pow_pos (by omega);have C:0<N (ed (2 ^ i))/\N (ed (2 ^ i))<=64:=by
  refine⟨?_,agK _⟩;have:i=0∨i=1∨i=2∨i=3∨i=4:=by omega
  rcases this with rfl|rfl|rfl|rfl|rfl <;> decide
 have aa:Y3 (∀x,Calls V 120 #[I Vo ((2 ^ i:Nat):Int)] x λe g=>∃v,e=FN v/\g.ownsRow (M (H x)) 3 1 v (N (ed (2 ^ i))) ((ed (2 ^ i)).map (Value.int J))/\Bw x g):=λx=>IZ (2 ^ i) (by omega) x;have Px:=Zh (agJ i (by omega));have UR:Y3 (∀x,Bw w x->Calls V 119 #[FL #[v0,W,X,v3,v4,v5,v6,v7,v8,v9,p,u,z],I J (i:Int)] x λe g=>∃r,e=FN (Y (O (aD r 0)))/\(∃t,dI (Fx q sb L) g r t/\Pd ts q (2 ^ i) t)/\Bw x g):=λx hx=>by rw[<-cK];refine(Ua Ez (h.hz.next hx) (i:Int) (by omega) (by omega)).mono ?_;rintro e g ⟨r,rfl,h1,-,-,h4⟩;exact⟨r,rfl,⟨_,h1,Pd.scan hq hi⟩,h4⟩
 have Oh:Y3 (∀(x:U) (c r:Nat),Bw w x->M (H w)<=c->UK x (aD c 0)=O (Y (O (aD r 0)))->(∃t,dI (Fx q sb L) x r t/\Pd ts q (2 ^ i) t)->Calls V 118 #[Y (O (aD sb 0)),I Vo ((2 ^ i:Nat):Int),Z (O (aD c 0)) 1 1] x λe g=>(∃v,e=FN v)/\AgP W0 f ts q sb L w 62 g/\Kept (λb=>¬Mu q sb L b) x g/\F13 sb v0 W X v3 v4 v5 v6 v7 v8 v9 p u z g):=λx c r hx aO aG ht=>by refine(ahv Ez hq (h.below hx) hal (2 ^ i) (by unfold nG;omega) (by omega) (O (aD c 0)) 1 [r] ⟨by simp,λj hj=>⟨c,0,rfl,by grind⟩⟩ (λa e hm=>by cases e;have h2:c<M (H w):=(h.mu hm).2;omega) (λy hy=>by rw[Zg]at hy;rw[hy];exact ht)).mono ?_;rintro e g ⟨hv,hA⟩;exact⟨hv,hA.pre hx,by obtain⟨a,b,c,d,⟨h1,h2,h3⟩,h4⟩:=hA;exact⟨h2,(h1.arr cK).oh⟩⟩
 have D:∀b,M (H w)<=b->¬Mu q sb L b:=λb hb hm=>by have:=(h.mu hm).2;omega
 have af:F13 sb v0 W X v3 v4 v5 v6 v7 v8 v9 p u z w:=(h.arr cK).oh;have ah:∀x,Cb 117 #[FL #[I Vo ((2 ^ i:Nat):Int),I Vo 0]] x (Wl T):=λx=>A7 (2 ^ i) 0 x;generalize ed (2 ^ i)=RL at*;generalize 2 ^ i=tl at*;obtain⟨w1,aM,P,aj⟩:=aL w #[I Vo (tl:Int),I Vo 0] 138;obtain⟨t0,t1⟩:=aj.k2;obtain⟨ak,au,av⟩:=dQ P (af.below P) D;have ai:=ah w1;go_enter Tryz.func71,Tryz.ntmps71;go_wp2_with fail;refine ai.mono ?_;rintro e w2 ⟨rfl,A⟩;have G:=cB A t0;obtain⟨B,UO⟩:=aJ (az ak.o A) (au.o.below A);go_wp2_with fail;refine wHy w2 (λx=>F13 sb v0 W X v3 v4 v5 v6 v7 v8 v9 p u z x/\UK x (aD (M (H w)) 0)=O (I Vo (tl:Int))) ⟨UO.o,G⟩ λl=>?_;refine wY6 0 l ?_;refine wY3 6 l ?_;refine wR 9 λK k=>?_;go_simp;refine XX (aa.o _) ?_;rintro e w3 ⟨v,rfl,hv,ax⟩;have m:=(Qm (M (H w2)) w2).drew.trans ax;obtain⟨⟨ja,jc,jx⟩,rfl,rfl,oD,-⟩:=rD hv (by omega);obtain⟨jb,aN,rfl,ay⟩:=Qf oD.2 C.1;have j0:=ay 0 C.1;rw[Xb,Px.o]at j0;simp only[ae.val]at*;refine k.o _ _ ⟨UO.o.below m,cB m G⟩ (λl=>?_);refine wR 10 λK k=>?_;go_simp;refine k.o _ _ l λl=>?_;refine wR 11 λK k=>?_;go_simp;refine k.o _ _ l λl=>?_;refine wR 12 λK k=>?_;go_simp;refine XX (UR.o _ (az B.o m)) ?_;rintro e w4 ⟨r,rfl,aA,aB⟩;have R:=az m aB;refine k.o _ _ ⟨UO.o.below R,cB R G⟩ (λl=>?_);refine wR 13 λK k=>?_;go_simp;obtain⟨w6,vY,Q,aC⟩:=aL w4 #[Y (O (aD r 0))] 95;have S:=az R Q;rw[vY];refine k.o _ _ ⟨UO.o.below S,cB S G⟩ (λl=>?_);refine wR 14 λK k=>?_;go_simp;refine XX (Oh.o w6 (M (H w4)) r (az B.o S) (Qz B.o.size R.size) (aC.at 0) (aA.imp λ_ h=>⟨h.1.below Q,h.2⟩)) ?_;rintro e w7 ⟨⟨rv,rfl⟩,hA,wM,aF⟩;refine k.o _ _ ⟨aF,Jk wM (cB S G) (av.o _ (Qn _))⟩ (λl=>?_);refine wD ?_;try simp only[pV]
 have HF:=Zh hA;go_wp2;exact Zw (Q6 rfl _ _ _) rfl ⟨⟨_,rfl⟩,HF.o⟩
def ahx(Ez:Env f ts q W0)(hq:QF ts q)(h:qw W0 f ts q sb L w)(hal:N L.ag<=900000)(tl tr:Nat)(h0:tr≠0)(h1:tl<nG q)(h2:tr<nG q)(hap:tl &&& tr=0)(hne:L.hd tr≠xn) :
  Calls V 71 #[Y (O (aD sb 0)),FL #[I Vo (tl:Int),I Vo (tr:Int)]] w λe t=>(∃v,e=FN v)/\AgP W0 f ts q sb L w 62 t:=by
 obtain⟨v0,B,C,v3,v4,v5,D,G,P,v9,i,j,k,X,-⟩:=X9 f ts q;have h5:=Ez.five;have aJ:2 ^ (N q.src.xs)<=32:=ZI (n:=2) (by omega) h5;have aK:tl|||tr<2 ^ (N q.src.xs):=XQ (by unfold nG at h1;omega) (by unfold nG at h2;omega);have aa:tl|||tr≠0:=λe=>h0 (Nat.or_eq_zero_iff.1 e).2;have aM:nG q<=31:=by unfold nG;omega
 have ae:Y3 (∀x,Bw w x->Calls V 121 #[FL #[v0,B,C,v3,v4,v5,D,G,P,v9,i,j,k],Z (O (aD (L.gb tl) 0)) (N (L.os tl)) (L.UY tl),Z (O (aD (L.gb tr) 0)) (N (L.os tr)) (L.UY tr)] x (vL (Fx q sb L) x (Pd ts q (tl|||tr)) 0 340)):=λx m=>by rw[<-X];exact ake Ez hq (h.hz.next m) ((h.Bi tl h1).1.below m) _ ((h.Bi tr h2).1.below m) _ hap hne
 have Oh:Y3 (∀(x:U) (v:X3) (xs:List Nat) (n:Nat),Bw w x->M (H w)<=n->N xs<=340->FV (Fx q sb L) n x (Pd ts q (tl|||tr)) v xs->∃bo bc,v=Z bo (N xs) bc/\Calls V 118 #[Y (O (aD sb 0)),I Vo ((tl|||tr:Nat):Int),Z bo (N xs) bc] x λe t=>(∃v,e=FN v)/\AgP W0 f ts q sb L w 62 t/\Kept (λb=>¬Mu q sb L b) x t/\F13 sb v0 B C v3 v4 v5 D G P v9 i j k t):=λx v xs n m hn hl hL=>by obtain⟨bo,bc,rfl,hp,hb⟩:=hL.at (by omega);refine⟨bo,bc,rfl,(ahv Ez hq (h.below m) hal (tl|||tr) (by unfold nG;omega) aa bo bc xs hp (λa e hm=>by have:=(h.mu hm).2;have:=hb a e;omega) (λy hy=>hL.tree hy)).mono ?_⟩;rintro e t ⟨hv,hA⟩;exact⟨hv,hA.pre m,by obtain⟨a,b,c,d,⟨h1,h2,h3⟩,h4⟩:=hA;exact⟨h2,(h1.arr X).oh⟩⟩
 have u:∀b,M (H w)<=b->¬Mu q sb L b:=λb hb hm=>by have:=(h.mu hm).2;omega
 have af:F13 sb v0 B C v3 v4 v5 D G P v9 i j k w:=(h.arr X).oh;have ah:∀x,Cb 117 #[FL #[I Vo (tl:Int),I Vo (tr:Int)]] x (Wl false):=λx=>by
  have:=A7 tl tr x
  rwa [Qw h0]at this
 have ai:Y3 (∀(b:Nat) (x:U),UK x (aD b 0)=O (I Vo (tl:Int))->UK x (aD b 1)=O (I Vo (tr:Int))->_):=λb x c0 c1=>lX b tl tr x c0 c1 (by omega) (by omega);have aj:=(h.arr X).at 13;have gl:=h.xY tl h1;have gr:=h.xY tr h2;generalize L.gb tl=gbl at*;generalize L.gb tr=gbr at*;generalize L.UY tl=gcl at*;generalize L.UY tr=gcr at*;generalize N (L.os tl)=oll at*;generalize N (L.os tr)=olr at*;generalize L.gs=ggs at*;generalize L.sI=aBw at*;generalize tl|||tr=TOR at*;generalize nG q=gn at*;obtain⟨w1,aN,av,ax⟩:=aL w #[I Vo (tl:Int),I Vo (tr:Int)] 138;obtain⟨t0,t1⟩:=ax.k2;obtain⟨ay,aA,Q⟩:=dQ av af u;have ak:=ah w1;go_enter Tryz.func71,Tryz.ntmps71;go_wp2_with fail;refine ak.mono ?_;rintro e w2 ⟨rfl,R⟩;have z:=az ay.o R;obtain⟨s0,s1⟩:=nH R t0 t1;obtain⟨aO,dl,dr⟩:=aaX z aj gl gr;have au:=Zh z;go_wp2_with fail;refine wH w2 λg=>?_;refine U1 0 g ?_;refine wA6 10 g ?_;refine sN 16 g ?_;refine wR 17 λK r=>?_;go_simp;refine r.o _ _ g λg=>?_;refine wD ?_;try simp only[pV]
 have p:=Zh au.o.drew;have r0:UK w2.drew (aD (M (H w)) 0)=O (I Vo (tl:Int)):=s0;have r1:UK w2.drew (aD (M (H w)) 1)=O (I Vo (tr:Int)):=s1;generalize w2.drew=w3 at*;have A:=Zh (aA.o.below p.o);go_wp2_with fail;refine wHy w3 (λx=>F13 sb v0 B C v3 v4 v5 D G P v9 i j k x/\UK x (aD (M (H w)) 0)=O (I Vo (tl:Int))/\UK x (aD (M (H w)) 1)=O (I Vo (tr:Int))) ⟨A.o,r0,r1⟩ λg=>?_;have HS:Y3 (∀x,Bw w3 x->F13 sb v0 B C v3 v4 v5 D G P v9 i j k x/\UK x (aD (M (H w)) 0)=O (I Vo (tl:Int))/\UK x (aD (M (H w)) 1)=O (I Vo (tr:Int))):=λx m=>⟨A.o.below m,cB m r0,cB m r1⟩;refine wY4 0 g ?_;refine wY1 4 g ?_;refine wY6 7 g ?_;refine wR 5 λK r=>?_;go_simp;obtain⟨S,l⟩:∃x,x=(w3.alloc (EP #[I Vo (tl:Int),I Vo (tr:Int)] 86)).drew:=⟨_,rfl⟩;have W:Bw w3 S:=by rw[l];exact(dN _ _).drew
 have u0:UK S (aD (M (H w3)) 0)=O (I Vo (tl:Int)):=by rw[l];exact(GB.alloc w3 _ _).cell 0
 have u1:UK S (aD (M (H w3)) 1)=O (I Vo (tr:Int)):=by rw[l];exact(GB.alloc w3 _ _).cell 1
 rw[<-l];clear l;refine r.o _ _ (HS.o _ W) (λg=>?_);refine wR 6 λK r=>?_;go_simp;refine XX (ai.o (M (H w3)) S u0 u1) ?_;rintro e wz ⟨rfl,aB⟩;have uh:=aB.symm;subst uh;refine r.o _ _ g λg=>?_;refine wR 13 λK r=>?_;go_simp;refine XX (ae.o S (az p.o W)) ?_;rintro e w6 ⟨v,xs,rfl,-,aC,aF,aG⟩;have YH:=az W aG;obtain⟨bo,bc,rfl,aH⟩:=Oh.o w6 v xs _ (az p.o YH) (Qz p.o.size W.size) aC aF;refine r.o _ _ (HS.o _ YH) (λg=>?_);refine wR 14 λK r=>?_;go_simp;refine XX aH ?_;rintro e w7 ⟨⟨rv,rfl⟩,hA,wM,aI⟩;obtain⟨-,c6,c7⟩:=HS.o _ YH;refine r.o _ _ ⟨aI,Jk wM c6 (Q.o _ (Qn _)),Jk wM c7 (Q.o _ (Qn _))⟩ (λg=>?_);refine wD ?_;try simp only[pV]
 have HF:=Zh hA;go_wp2;go_end0;exact⟨⟨_,rfl⟩,HF.o⟩
def aBB(Ez:Env f ts q W0)(hq:QF ts q)(h:qw W0 f ts q sb L w)(hal:N L.ag<=900000)(t:dP)(ht:TkW q L.hd t) :
  Calls V 71 #[Y (O (aD sb 0)),FL #[I Vo (t.1:Int),I Vo (t.2:Int)]] w λe g=>(∃v,e=FN v)/\AgP W0 f ts q sb L w 62 g:=by
 obtain⟨b,d⟩:=t;rcases ht with⟨a,i,hi,e⟩|⟨a,h1,h2,h3,h4,h6⟩
 .have a:d=0:=a;have e:b=2 ^ i:=e;subst a e;exact ahw Ez hq h hal i hi
 .exact ahx Ez hq h hal b d a h1 h2 h3 h6
end
