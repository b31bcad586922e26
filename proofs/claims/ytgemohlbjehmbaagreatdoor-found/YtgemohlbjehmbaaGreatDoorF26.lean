import Derived.Test.YtgemohlbjehmbaaGreatDoorF23
set_option linter.all false
set_option maxRecDepth 100000
set_option maxHeartbeats 16000000
namespace Go.Proofs.Zz
open Go.RowKit Go.Shelf
variable {gb i k n:Nat} {G g:List aj} {t:aQ} {p:aj} {T Tp:TypeId} {F:Nat->Prop} {W0 w:World} {A:Nat->Nat} {os:List ai} {bf:List Nat}
theorem ve:∀ {g:List aj} {p:aj} {x:Nat × aQ},p∈g->p.2=some x->x.1<dJ g
 | (o,none)::g,p,x,hp,hx => by
  rcases Zq.1 hp with rfl | hp
  ·cases hx
  ·exact ve (g:=g) hp hx
 | (o,some y)::g,p,x,hp,hx => by
  rcases Zq.1 hp with rfl | hp
  ·injection hx with hx;rw[<- hx]
   show y.1<max (y.1+1) (dJ g);omega
  ·have:=ve (g:=g) hp hx
   show x.1<max (y.1+1) (dJ g);omega
def uy(A:Nat->Nat)(n a:Nat):Nat->Nat:=λm=>if m=n then a else A m
def lQ(n:Nat)(t:aQ)(i:Nat)(g:List aj):List aj:=(g.take i).map (eP n t)++g.drop i
theorem vg(n:Nat)(t:aQ)(i:Nat)(g:List aj):(lQ n t i g).length=g.length:=by unfold lQ;grind
theorem zU(n:Nat)(t:aQ)(hi:i<g.length):(lQ n t i g).getD i qB=g.getD i qB:=by unfold lQ;grind
theorem WJ(n:Nat)(t:aQ)(g:List aj):lQ n t 0 g=g:=by rfl
theorem ack(t:aQ)(g:List aj):lQ (dJ g) t g.length g=gD g t:=by unfold lQ gD; simp
theorem I4(n:Nat)(t:aQ)(hi:i<g.length):lQ n t (i+1) g=(lQ n t i g).set i (eP n t (g.getD i qB)):=by
 unfold lQ;rw[Xq g qB hi,Qi,List.set_append_right _ _ (by grind),QQ,ZZ,Nat.min_eq_left (by omega),Xy];have a:g.drop i=g.getD i qB::g.drop (i+1):=by simp_all
 grind
theorem WK(l:List aj)(hk:k<l.length):l.set k (l.getD k qB)=l:=by simp_all
theorem afA(n:Nat)(t:aQ)(hi:i<g.length)(h:dZ t (g.getD i qB)=false):lQ n t (i+1) g=lQ n t i g:=by
 rw[I4 n t hi];have:eP n t (g.getD i qB)=(lQ n t i g).getD i qB:=by rw[zU n t hi]; unfold eP; rw[h]; rfl
 rw[this];exact WK _ (by rw[vg]; exact hi)
theorem acm(n:Nat)(t:aQ)(hi:i<g.length)(h:dZ t (g.getD i qB)=true):lQ n t (i+1) g=(lQ n t i g).set i ((g.getD i qB).1,some (n,t)):=by rw[I4 n t hi];unfold eP;rw[Qo h]
theorem MR{x:Nat × aQ}(hp:p∈lQ n t i g)(hx:p.2=some x):x=(n,t)∨∃ p'∈g,p'.2=some x:=by
 unfold lQ at hp;rcases ZK.1 hp with hp | hp
 ·obtain⟨b,a,rfl⟩:=QZ.1 hp;rcases uW hx with h | h
  ·exact .inl h
  grind
 grind
theorem WL(t:aQ)(hi:i<g.length):(g.take (i+1)).any (dZ t)=((g.take i).any (dZ t) || dZ t (g.getD i qB)):=by rw[Xq g qB hi,List.any_append];simp
theorem bM.retag(h:bM T Tp F w gb A os g)(a:Nat):bM T Tp F w gb (uy A (dJ g) a) os g:=by
 have n:∀ p∈g,∀ x,p.2=some x->uy A (dJ g) a x.1=A x.1:=λp f x d=>by unfold uy;rw[Qu (by have:=ve f d; omega)]
 obtain⟨c,k,j⟩:=h.blk;refine⟨⟨c,k,λi b=>⟨(j i b).1,?_⟩⟩,h.ord,λp f x d=>by grind [bM.tree],λp f o l x q d m e=>?_⟩
 ·rw[(j i b).2]
  cases d:(g.getD i qB).2 with
  | none => rfl
  | some x =>
   show some (Value.pointer (some (aD (A x.1) 0)))=some (.pointer (some (aD (uy A (dJ g) a x.1) 0)));grind
 grind [bM.inj]
theorem bM.put(h:bM T Tp F w gb A os g)(hF:¬ F gb)(hi:i<g.length)(ht:aT T F w (A n) t)(hn:∀ p∈g,∀ x,p.2=some x->A x.1=A n->x.1=n) :
  bM T Tp F (w.setCell (aD gb (i*2+1)) (.pointer (some (aD (A n) 0)))) gb A os (g.set i ((g.getD i qB).1,some (n,t))):=by
 obtain⟨c,B,u⟩:=h.blk;have o:Kept F w (w.setCell (aD gb (i*2+1)) (.pointer (some (aD (A n) 0)))):=Zf _ _ _ hF;have r:∀ j,(g.set i ((g.getD i qB).1,some (n,t))).getD j qB=if i=j then ((g.getD i qB).1,some (n,t)) else g.getD j qB:=λj=>by grind
 have a:∀ p∈g.set i ((g.getD i qB).1,some (n,t)),∀ x,p.2=some x->x=(n,t)∨∃ f∈g,f.2=some x:=λp l x m=>by grind
 have s:i*2+1<c.size:=by grind
 refine⟨⟨c.setIfInBounds (i*2+1) (.pointer (some (aD (A n) 0))),B.set _ _,λj k=>?_⟩,λj k=>?_,λp l x m=>?_,λp l f b x C m d e=>?_⟩
 ·rw[Xw]at k;rw[XB,XB,Qu (by omega),r j];refine⟨(u j k).1,?_⟩;by_cases e:i=j
  ·subst e;rw[Qo rfl,Qo s,Qo rfl];rfl
  grind
 ·rw[Xw]at k;have:=h.ord j k;refine⟨?_,this.2.1.bI o,this.2.2⟩
  grind
 ·rcases a p l x m with rfl | ⟨f,b,d⟩
  ·exact ht.bI o
  ·exact(h.tree f b x d).bI o
 ·rcases a p l x m with rfl | ⟨q,D,v⟩
  ·grind
  ·rcases a f b C d with rfl | ⟨E,y,z⟩
   ·grind
   grind [bM.inj]
theorem bM.frozen{T Tp:TypeId}{F:Nat->Prop}{w:World}{gb:Nat}{A:Nat->Nat}{os:List ai}{g:List aj}(h:bM T Tp F w gb A os g)(j:Nat):w.frozen? (aD gb j)=false:=by obtain⟨c,a,_⟩:=h.blk;exact a.frozen j
theorem bM.lt{T Tp:TypeId}{F:Nat->Prop}{w:World}{gb:Nat}{A:Nat->Nat}{os:List ai}{g:List aj}(h:bM T Tp F w gb A os g):gb<w.heap.size:=by obtain⟨c,a,_⟩:=h.blk;exact a.lt
theorem aT.lt{a:Nat}(h:aT T F w a t):a<w.heap.size:=by obtain⟨c,b⟩:=h.blk;grind
theorem EI:∀ (l:List aQ) (x:Bool × List aj),(l.foldl fV x).2.length=x.2.length
 | [],_ => rfl
 | t::l,x => by rw[QD,EI l]; exact yu _ _
theorem MS(h:p.2=none):dZ t p=au t.d.order p.1:=by unfold dZ;rw[h];simp
theorem MU{y:Nat × aQ}(h:p.2=some y):dZ t p=(au t.d.order p.1&&decide (t.d.cost<y.2.d.cost)):=by unfold dZ;rw[h]
theorem RZ(h:au t.d.order p.1=false):dZ t p=false:=by unfold dZ;rw[h];rfl
theorem R3(hk:k<bf.length)(hnd:bf.Nodup)(h:∀ p∈G,∀ x,p.2=some x->A x.1 ∉ bf.drop k)(t:aQ):∀ p∈lQ (dJ G) t G.length G,∀ x,p.2=some x->uy A (dJ G) (bf.getD k 0) x.1 ∉ bf.drop (k+1):=by
 intro p d x e;have hd:bf.drop k=bf.getD k 0::bf.drop (k+1):=by rw[List.drop_eq_getElem_cons hk,Xo,Xr hk]; rfl
 rcases MR d e with rfl | ⟨g,a,b⟩
 ·have:uy A (dJ G) (bf.getD k 0) (dJ G)=bf.getD k 0:=by unfold uy; rw[Qo rfl]
  show uy A (dJ G) (bf.getD k 0) (dJ G) ∉ _;rw[this];have f:(bf.drop k).Nodup:=hnd.sublist (List.drop_sublist _ _);grind
 ·have:uy A (dJ G) (bf.getD k 0) x.1=A x.1:=by unfold uy; rw[Qu (by have:=ve a b; omega)]
  grind
theorem WO(hk:k<bf.length)(h:∀ p∈G,∀ x,p.2=some x->A x.1 ∉ bf.drop k)(t:aQ):∀ p∈lQ (dJ G) t i G,∀ x,p.2=some x->uy A (dJ G) (bf.getD k 0) x.1=uy A (dJ G) (bf.getD k 0) (dJ G)->x.1=dJ G:=by
 intro p j x l e;rcases MR j l with rfl | ⟨g,a,b⟩
 ·rfl
 ·have d:uy A (dJ G) (bf.getD k 0) x.1=A x.1:=by unfold uy; rw[Qu (by have:=ve a b; omega)]
  have f:uy A (dJ G) (bf.getD k 0) (dJ G)=bf.getD k 0:=by unfold uy; rw[Qo rfl]
  rw[d,f]at e;exact absurd (by rw[List.drop_eq_getElem_cons hk,e,Xo,Xr hk]; exact ZJ) (h g a x b)
theorem I5(h:bM 135 160 F w gb A os g)(hF:¬ F gb)(hgl:g.length<=20)(gc:Nat)(bo:Option Addr)(bc:Nat)(bs:List (Nat × aQ))(hp:ed w bo (bs.map Prod.fst))(hpo:∀ a,bo=some a->a.block≠gb)(hbs:∀ x∈bs,aT 135 F w x.1 x.2)(hnd:(bs.map Prod.fst).Nodup)(hfr:∀ p∈g,∀ x,p.2=some x->A x.1 ∉ bs.map Prod.fst)(hl:bs.length<=1000) :
  Calls Tryz.prog 156 #[.slice (some (aD gb 0)) g.length gc,.slice bo bs.length bc] w λe w'=>e=.returned (.bool (jQ g (bs.map Prod.snd)).1)/\(∃ D,bM 135 160 F w' gb D os (jQ g (bs.map Prod.snd)).2)/\Kept (λb=>b≠gb) w w':=by
 have UH:=Zh hp;have MC:=Zh hpo;have zk:Hid ((bs.map Prod.fst).length=bs.length):=QQ _;have aV:=Zh hnd;have aW:=Zh h;have aX:Hid (∀ p∈g,∀ x,p.2=some x->A x.1 ∉ (bs.map Prod.fst).drop 0):=hfr;have aC:Hid (∀ b,F b->b≠gb):=λb Q e=>hF (e ▸ Q);have aY:=Zh hF;obtain⟨z,aa⟩:∃ X:Nat->Bool × List aj,X=λk=>((bs.map Prod.snd).take k).foldl fV (false,g):=⟨_,rfl⟩;obtain⟨BD,WQ⟩:∃ C:Nat->aQ,C=λk=>(bs.map Prod.snd).getD k pK:=⟨_,rfl⟩;have aZ:Hid (∀ k,k<bs.length->(z (k+1)).1=((z k).1 || (z k).2.any (dZ (BD k)))/\(z (k+1)).2=gD (z k).2 (BD k)):=λk hk=>by
  have e:z (k+1)=fV (z k) (BD k):=by rw[aa,WQ];exact jM fV (false,g) (bs.map Prod.snd) pK (by rw[QQ]; exact hk)
  rw[e];exact⟨rfl,rfl⟩
 have Pp:Hid (∀ k,(z k).2.length=g.length):=λk=>by rw[aa]; exact EI _ _
 have HE:Hid (z bs.length=jQ g (bs.map Prod.snd)):=by show _=_;rw[aa];show ((bs.map Prod.snd).take bs.length).foldl fV (false,g)=_;rw[ZT (by simp)];rfl
 have av:Hid (z 0=(false,g)):=by show _=_; rw[aa]; rfl
 have UM:Hid (∀ k,k<bs.length->aT 135 F w ((bs.map Prod.fst).getD k 0) (BD k)):=λk hk=>by grind
 clear hp hpo hbs hnd hfr h aa WQ hF;generalize bs.map Prod.fst=bf at *;generalize jQ g (bs.map Prod.snd)=R at *;generalize bs.length=bl at *;clear bs;obtain⟨R1,R2⟩:=R;simp only at *;obtain⟨gl,Kn⟩:=eY (g.length);rw[<- Kn]at Pp hgl ⊢;clear Kn;go_enter Tryz.func156,Tryz.ntmps156;go_wp2;go_loopw [5,12] (λpv iv wr=>∃ (k:Nat) (Ak:Nat->Nat),k<=bl/\iv=.int .i64 (k:Int)/\pv=.bool (z k).1/\Hid (bM 135 160 F wr gb Ak os (z k).2)/\Hid (∀ p∈(z k).2,∀ x,p.2=some x->Ak x.1 ∉ bf.drop k)/\Hid (Kept (λb=>b≠gb) w wr)) (λ_ iv _=>bl-(intOf iv).toNat)
 case atStart=>exact⟨0,A,QK _,rfl,by rw[av.o],by show bM 135 160 F _ _ _ _ _; rw[av.o]; exact aW.o,by show ∀ p∈_,_; rw[av.o]; exact aX.o,Q5 _ _⟩
 case round=>
  obtain⟨k,Ak,hk,rfl,rfl,WR,ah,aB⟩:=hrel;by_cases S:k<bl
  ·obtain⟨bb,RG,bA,aM⟩:=ed.get (UH.o.bI aB.o (λ_ a ha=>MC.o a ha)) (i:=k) (by rw[zk.o]; exact S);subst bA;have V:=aM k (by rw[zk.o]; exact S);obtain⟨G,hG⟩:∃ G,G=(z k).2:=⟨_,rfl⟩
   obtain⟨b0,aN⟩:∃ b,b=(z k).1:=⟨_,rfl⟩;have Ko:=aZ.o k S;have I:=Pp.o k;rw[<- hG]at WR ah Ko I;rw[<- aN]at Ko ⊢;obtain⟨t,ht⟩:=eY (BD k);have af:=UM.o k S;rw[<- ht]at Ko af;obtain⟨D,ae⟩:=eY (uy Ak (dJ G) (bf.getD k 0));obtain⟨a,ha⟩:=eY (bf.getD k 0);have ax:Hid (D (dJ G)=a):=by show _=_; rw[ae,ha]; unfold uy; rw[Qo rfl]
   have uk:Hid (bM 135 160 F wr gb D os (lQ (dJ G) t 0 G)):=by show bM _ _ _ _ _ _ _ _; rw[WJ,ae]; exact WR.o.retag _
   have aF:Hid (∀ i,∀ p∈lQ (dJ G) t i G,∀ x,p.2=some x->D x.1=D (dJ G)->x.1=dJ G):=λi=>by rw[ae]; exact WO (by rw[zk.o]; exact S) ah.o t
   have aG:Hid (∀ p∈lQ (dJ G) t G.length G,∀ x,p.2=some x->D x.1 ∉ bf.drop (k+1)):=by rw[ae]; exact R3 (by rw[zk.o]; exact S) aV.o ah.o t
   have ay:Hid (lQ (dJ G) t gl G=(z (k+1)).2):=by show _=_; rw[Ko.2,<- I]; exact ack t G
   have j:Hid ((b0 || (G.take gl).any (dZ t))=(z (k+1)).1):=by show _=_; rw[Ko.1,<- I,QT]
   rw[<- ha]at V af;have aH:=Zh af;obtain⟨U,ak⟩:∃ M:Nat->Bool,M=λi=>b0 || (G.take i).any (dZ t):=⟨_,rfl⟩;have bg:Hid (U 0=b0):=by show _=_; rw[ak]; simp
   have bn:Hid (∀ i,i<gl->U (i+1)=(U i || dZ t (G.getD i qB))):=λi hi=>by rw[ak];show (b0 || (G.take (i+1)).any (dZ t))=(b0 || (G.take i).any (dZ t) || dZ t (G.getD i qB));rw[WL t (by rw[I]; exact hi),Bool.or_assoc]
   have bq:Hid (U gl=(z (k+1)).1):=by show _=_; rw[ak]; exact j.o
   have bu:=Zh I;have bz:Hid (∀ p∈(z (k+1)).2,∀ x,p.2=some x->D x.1 ∉ bf.drop (k+1)):=by have:=aG.o;rw[I,ay.o]at this;exact this
   obtain⟨n,hn⟩:=eY (dJ G);rw[<- hn]at ax uk aF ay;clear aM hG aN Ko I af ht ae ha aG j ak WR ah hn;go_wp2;go_loopw [5,18] (λpv iv wr=>∃ i:Nat,i<=gl/\iv=.int .i64 (i:Int)/\pv=.bool (U i)/\Hid (bM 135 160 F wr gb D os (lQ n t i G))/\Hid (Kept (λb=>b≠gb) w wr)) (λ_ iv _=>gl-(intOf iv).toNat)
   case atStart=>exact⟨0,QK _,rfl,by rw[bg.o],uk.o,aB.o⟩
   case round=>
    obtain⟨i,hi,rfl,rfl,v,O⟩:=hrel;by_cases aU:i<gl
    ·have B:i<G.length:=by rw[bu.o]; exact aU
     have N:=v.o.cells (i:=i) (by rw[vg]; exact B);have Dw:=v.o.ord i (by rw[vg]; exact B);rw[zU n t B]at N Dw;have az:=bn.o i aU;obtain⟨p,hP,Bd⟩:=(aH.o.bI (O.o.mono λb _ Q=>aC.o b Q)).mg;obtain⟨P,aO⟩:=eY (os.getD i gQ);rw[<- aO]at N Dw;obtain⟨q,hq⟩:=eY (G.getD i qB);rw[<- hq]at N Dw az;have aI:Hid (dZ t q=false->lQ n t (i+1) G=lQ n t i G):=λe=>afA n t B (by rw[<- hq]; exact e);have aJ:Hid (dZ t q=true->bM 135 160 F wr gb D os (lQ n t i G)->∀ x,Kept (λb=>b≠gb) w x->bM 135 160 F x gb D os (lQ n t i G)->bM 135 160 F (x.setCell (aD gb (i*2+1)) (.pointer (some (aD a 0)))) gb D os (lQ n t (i+1) G)):=λe _ x hx hg=>by have h1:=hg.put aY.o (i:=i) (n:=n) (t:=t) (by rw[vg]; exact B) (by rw[ax.o]; exact aH.o.bI (hx.mono λb _ Q=>aC.o b Q)) (aF.o i);rw[ax.o,zU n t B,<- hq]at h1;rw[acm n t B (by rw[<- hq]; exact e),<- hq];exact h1
     have eo:p.order.xs=t.d.order:=congrArg bK.order Bd;have ec:p.cost=t.d.cost:=congrArg bK.cost Bd;have jF:Hid (∀ y,Bw wr y->Cb 107 #[.slice p.order.ad p.order.xs.length p.order.cap,.slice P.ad P.xs.length P.cap] y (.bool (au t.d.order q.1))):=λy hy=>by rw[<- eo,<- Dw.1];exact kR p.order.ad P.ad p.order.cap P.cap p.order.xs P.xs y (Ql hy hP.ok.order) (Ql hy Dw.2.1.at') hP.ok.cap
     have c3:wr.cell? (aD a 3)=some (.slice p.order.ad p.order.xs.length p.order.cap):=hP.c3;have c5:=hP.c5;have g0:wr.cell? (aD gb (i*2))=some (.slice P.ad P.xs.length P.cap):=N.1;have W:=N.2;have MW:Hid (∀ x,Bw wr x->x.frozen? (aD gb (i*2+1))=false):=λx hx=>(v.o.below hx).frozen _;generalize p.order.xs.length=UN at *;generalize p.order.ad=UO at *;generalize p.order.cap=UQ at *;generalize P.xs.length=Pq at *;generalize P.ad=Ps at *;generalize P.cap=Pv at *;rw[ec]at c5;have H:=Zh az;have ag:Hid (∀ y,q.2=some y->aT 135 F wr (D y.1) y.2):=λy hy=>v.o.tree (G.getD i qB) (by rw[<- zU n t B]; exact rW (by rw[vg]; exact B)) y (by rw[<- hq]; exact hy);clear N Dw hP Bd eo ec aO hq az B p P;obtain⟨u,bB⟩:∃ x,x=wr:=⟨_,rfl⟩;subst bB;obtain⟨SB,L⟩:=eY (au t.d.order q.1);rw[<- L]at jF
     cases SB with
     | false =>
      have Y:=Zh (RZ L.symm);have UR:Hid (U (i+1)=U i):=by show _=_; rw[H.o,Y.o,Bool.or_false]
      have J:Hid (∀ x,Bw u x->bM 135 160 F x gb D os (lQ n t (i+1) G)):=λx hx=>by rw[aI.o Y.o]; exact v.o.below hx
      obtain⟨po,hpo⟩:∃ po,Kl D q.2=.pointer po:=by
       cases q.2 with
       | none => exact⟨_,rfl⟩
       | some y => exact⟨_,rfl⟩
      rw[hpo]at W;clear L hpo H ag;obtain⟨E,m⟩:∃ x,u.alloc (.cells #[.slice Ps Pq Pv,.pointer po] 160)=x:=⟨_,rfl⟩;have l:Bw u E:=by rw[<- m]; exact fq _ _
      have a0:E.cell? (aD u.heap.size 0)=some (.slice Ps Pq Pv):=by rw[<- m]; simp
      have T:E.cell? (aD u.heap.size 1)=some (.pointer po):=by rw[<- m]; simp
      have Z:=cB l c3;have d5:=cB l c5;have j:=Zh l;clear l;go_wp2_with fail;clear m;refine wH E λf=>?_;refine wt 0 (.pointer (some (aD a 0))) f ?_;refine wt 1 (.pointer (some (aD a 0))) f ?_;refine wt 2 (.pointer (some (aD a 0))) f ?_;refine wt 3 (.pointer (some (aD a 3))) f ?_;refine l8 4 (.slice UO UN UQ) f Z ?_;refine wt 5 (.pointer (some (aD u.heap.size 0))) f ?_;refine l8 6 (.slice Ps Pq Pv) f a0 ?_;refine wR 7 λK hK=>?_;go_simp;refine Z5 (jF.o _ (j.o.trans (f.mono j.o.size))) ?_;rintro e w2 ⟨rfl,Q⟩;refine oT hK f Q λf=>?_;clear hK K;refine wt 8 (.bool false) f ?_;simp only[Act.put,XC,XD,XE,QA,Qb,Qc];refine wU 9 f ?_;refine wU 10 f ?_;refine wU 11 f ?_;refine wU 12 f ?_;refine wU 13 f ?_;refine wU 14 f ?_;refine wU 15 f ?_;refine wU 16 f ?_;refine wU 17 f ?_;refine wU 18 f ?_;refine wU 19 f ?_;refine wU 20 f ?_;refine wU 21 f ?_;refine wU 22 f ?_;refine wU 23 f ?_;refine wU 24 f ?_;refine wU 25 f ?_;refine wg 26 (.bool false) f ?_;refine wD ?_;try simp only[Act.put,XC,XD,XE,QA,Qb,Qc]
      try simp only[Act.put,XC,XD,XE,QA,Qb,Qc]
      have s:=Zh (j.o.trans (f.mono j.o.size));have Du:=Zh (J.o w2 s.o);have xE:=Zh (O.o.trans (Q7 s.o (λ_ h _=>h)));clear f c3 c5 Z d5 a0 T g0 W jF V;go_wp2;go_roundw
      case rel=>exact⟨i+1,by omega,by go_num,by rw[UR.o],Du.o,xE.o⟩
      case measure=>simp[intOf]; omega
     | true =>
      cases hq2:q.2 with
      | none =>
       have Y:=Zh ((MS hq2).trans L.symm);have UR:Hid (U (i+1)=true):=by show _=_; rw[H.o,Y.o,Bool.or_true]
       have J:=Zh (aJ.o Y.o v.o);rw[hq2]at W;change u.cell? (aD gb (i*2+1))=some (.pointer none) at W;clear L H ag hq2;obtain⟨E,m⟩:∃ x,u.alloc (.cells #[.slice Ps Pq Pv,.pointer none] 160)=x:=⟨_,rfl⟩;have l:Bw u E:=by rw[<- m]; exact fq _ _
       have a0:E.cell? (aD u.heap.size 0)=some (.slice Ps Pq Pv):=by rw[<- m]; simp
       have T:E.cell? (aD u.heap.size 1)=some (.pointer none):=by rw[<- m]; simp
       have Z:=cB l c3;have d5:=cB l c5;have j:=Zh l;clear l;have aK:=Zh m;clear m;go_wp2_with fail;rw[aK.o];clear aK;refine wH E λf=>?_;refine wt 0 (.pointer (some (aD a 0))) f ?_;refine wt 1 (.pointer (some (aD a 0))) f ?_;refine wt 2 (.pointer (some (aD a 0))) f ?_;refine wt 3 (.pointer (some (aD a 3))) f ?_;refine l8 4 (.slice UO UN UQ) f Z ?_;refine wt 5 (.pointer (some (aD u.heap.size 0))) f ?_;refine l8 6 (.slice Ps Pq Pv) f a0 ?_;refine wR 7 λK hK=>?_;go_simp;refine Z5 (jF.o _ (j.o.trans (f.mono j.o.size))) ?_;rintro e w2 ⟨rfl,Q⟩;refine oT hK f Q λf=>?_;clear hK K;refine wt 8 (.bool true) f ?_;simp only[Act.put,XC,XD,XE,QA,Qb,Qc];refine wg 9 (.pointer (some (aD u.heap.size 1))) f ?_;refine wgc 10 (.pointer none) f T ?_;refine wg 11 (.bool true) f ?_;refine wg 12 (.bool true) f ?_;simp only[Act.put,XC,XD,XE,QA,Qb,Qc];refine wU 13 f ?_;refine wU 14 f ?_;refine wU 15 f ?_;refine wU 16 f ?_;refine wU 17 f ?_;refine wU 18 f ?_;refine wU 19 f ?_;refine wU 20 f ?_;refine wU 21 f ?_;refine wU 22 f ?_;refine wU 23 f ?_;refine wU 24 f ?_;refine wg 25 (.bool true) f ?_;refine wg 26 (.bool true) f ?_;refine wD ?_;try simp only[Act.put,XC,XD,XE,QA,Qb,Qc]
       try simp only[Act.put,XC,XD,XE,QA,Qb,Qc]
       have s:=Zh (j.o.trans (f.mono j.o.size));have xg:=Zh (O.o.trans (Q7 s.o (λ_ h _=>h)));have Du:=Zh (J.o w2 xg.o (v.o.below s.o));have xE:Hid (Kept (λb=>b≠gb) w (w2.setCell (aD gb (i*2+1)) (.pointer (some (aD a 0))))):=xg.o.trans (Zf _ _ _ (λh=>h rfl));have s1:=cB s.o W;have f1:=MW.o w2 s.o;clear f c3 c5 Z d5 a0 T g0 W jF V;go_wp2;go_roundw
       case rel=>exact⟨i+1,by omega,by go_num,by rw[UR.o],Du.o,xE.o⟩
       case measure=>simp[intOf]; omega
      | some y =>
       obtain⟨py,aP,aR⟩:=(ag.o y hq2).mg;have ey:py.cost=y.2.d.cost:=congrArg bK.cost aR;have MX:Hid (dZ t q=decide (t.d.cost<y.2.d.cost)):=by show _=_;rw[MU hq2,<- L,Qw]
       have r5:u.cell? (aD (D y.1) 5)=some (.int .u64 (y.2.d.cost:Int)):=by rw[<- ey]; exact aP.c5
       rw[hq2]at W;change u.cell? (aD gb (i*2+1))=some (.pointer (some (aD (D y.1) 0))) at W;generalize D y.1=r at *;generalize y.2.d.cost=cr at *;obtain⟨cx,aS⟩:=eY (t.d.cost);rw[<- aS]at c5 MX;clear aP aR ey L hq2 aS ag py;by_cases hc:cx<cr
       ·have HC:=Zh hc;have Y:Hid (dZ t q=true):=by show _=_; rw[MX.o]; exact Qv hc
        have UR:Hid (U (i+1)=true):=by show _=_; rw[H.o,Y.o,Bool.or_true]
        have J:=Zh (aJ.o Y.o v.o);clear hc H;obtain⟨E,m⟩:∃ x,u.alloc (.cells #[.slice Ps Pq Pv,.pointer (some (aD r 0))] 160)=x:=⟨_,rfl⟩;have l:Bw u E:=by rw[<- m]; exact fq _ _
        have a0:E.cell? (aD u.heap.size 0)=some (.slice Ps Pq Pv):=by rw[<- m]; simp
        have T:E.cell? (aD u.heap.size 1)=some (.pointer (some (aD r 0))):=by rw[<- m]; simp
        have Z:=cB l c3;have d5:=cB l c5;have j:=Zh l;have d6:=cB l r5;clear l;go_wp2_with fail;clear m;refine wH E λf=>?_;refine wt 0 (.pointer (some (aD a 0))) f ?_;refine wt 1 (.pointer (some (aD a 0))) f ?_;refine wt 2 (.pointer (some (aD a 0))) f ?_;refine wt 3 (.pointer (some (aD a 3))) f ?_;refine l8 4 (.slice UO UN UQ) f Z ?_;refine wt 5 (.pointer (some (aD u.heap.size 0))) f ?_;refine l8 6 (.slice Ps Pq Pv) f a0 ?_;refine wR 7 λK hK=>?_;go_simp;refine Z5 (jF.o _ (j.o.trans (f.mono j.o.size))) ?_;rintro e w2 ⟨rfl,Q⟩;refine oT hK f Q λf=>?_;clear hK K;refine wt 8 (.bool true) f ?_;simp only[Act.put,XC,XD,XE,QA,Qb,Qc];refine wg 9 (.pointer (some (aD u.heap.size 1))) f ?_;refine wgc 10 (.pointer (some (aD r 0))) f T ?_;refine wg 11 (.bool false) f ?_;refine wg 12 (.bool false) f ?_;simp only[Act.put,XC,XD,XE,QA,Qb,Qc];refine wg 13 (.pointer (some (aD a 0))) f ?_;refine wg 14 (.pointer (some (aD a 0))) f ?_;refine wg 15 (.pointer (some (aD a 0))) f ?_;refine wg 16 (.pointer (some (aD a 5))) f ?_;refine wgc 17 (.int .u64 (cx:Int)) f d5 ?_;refine wg 18 (.pointer (some (aD u.heap.size 1))) f ?_;refine wgc 19 (.pointer (some (aD r 0))) f T ?_;refine wg 20 (.pointer (some (aD r 0))) f ?_;refine wg 21 (.pointer (some (aD r 0))) f ?_;refine wg 22 (.pointer (some (aD r 5))) f ?_;refine wgc 23 (.int .u64 (cr:Int)) f d6 ?_;refine wG 24 (.bool true) f (λx hx=>?_) ?_
        ·have hc:=HC.o;go_simp
        refine wg 25 (.bool true) f ?_;refine wg 26 (.bool true) f ?_;refine wD ?_;try simp only[Act.put,XC,XD,XE,QA,Qb,Qc]
        try simp only[Act.put,XC,XD,XE,QA,Qb,Qc]
        have s:=Zh (j.o.trans (f.mono j.o.size));have xg:=Zh (O.o.trans (Q7 s.o (λ_ h _=>h)));have Du:=Zh (J.o w2 xg.o (v.o.below s.o));have xE:Hid (Kept (λb=>b≠gb) w (w2.setCell (aD gb (i*2+1)) (.pointer (some (aD a 0))))):=xg.o.trans (Zf _ _ _ (λh=>h rfl));have s1:=cB s.o W;have f1:=MW.o w2 s.o;clear f c3 c5 Z d5 a0 T g0 W jF V;clear r5 d6;go_wp2;go_roundw
        case rel=>exact⟨i+1,by omega,by go_num,by rw[UR.o],Du.o,xE.o⟩
        case measure=>simp[intOf]; omega
       ·have HC:=Zh (Nat.le_of_not_lt hc);have Y:Hid (dZ t q=false):=by show _=_; rw[MX.o]; exact ZW hc
        have UR:Hid (U (i+1)=U i):=by show _=_; rw[H.o,Y.o,Bool.or_false]
        have J:Hid (∀ x,Bw u x->bM 135 160 F x gb D os (lQ n t (i+1) G)):=λx hx=>by rw[aI.o Y.o]; exact v.o.below hx
        clear hc H;obtain⟨E,m⟩:∃ x,u.alloc (.cells #[.slice Ps Pq Pv,.pointer (some (aD r 0))] 160)=x:=⟨_,rfl⟩;have l:Bw u E:=by rw[<- m]; exact fq _ _
        have a0:E.cell? (aD u.heap.size 0)=some (.slice Ps Pq Pv):=by rw[<- m]; simp
        have T:E.cell? (aD u.heap.size 1)=some (.pointer (some (aD r 0))):=by rw[<- m]; simp
        have Z:=cB l c3;have d5:=cB l c5;have j:=Zh l;have d6:=cB l r5;clear l;go_wp2_with fail;clear m;refine wH E λf=>?_;refine wt 0 (.pointer (some (aD a 0))) f ?_;refine wt 1 (.pointer (some (aD a 0))) f ?_;refine wt 2 (.pointer (some (aD a 0))) f ?_;refine wt 3 (.pointer (some (aD a 3))) f ?_;refine l8 4 (.slice UO UN UQ) f Z ?_;refine wt 5 (.pointer (some (aD u.heap.size 0))) f ?_;refine l8 6 (.slice Ps Pq Pv) f a0 ?_;refine wR 7 λK hK=>?_;go_simp;refine Z5 (jF.o _ (j.o.trans (f.mono j.o.size))) ?_;rintro e w2 ⟨rfl,Q⟩;refine oT hK f Q λf=>?_;clear hK K;refine wt 8 (.bool true) f ?_;simp only[Act.put,XC,XD,XE,QA,Qb,Qc];refine wg 9 (.pointer (some (aD u.heap.size 1))) f ?_;refine wgc 10 (.pointer (some (aD r 0))) f T ?_;refine wg 11 (.bool false) f ?_;refine wg 12 (.bool false) f ?_;simp only[Act.put,XC,XD,XE,QA,Qb,Qc];refine wg 13 (.pointer (some (aD a 0))) f ?_;refine wg 14 (.pointer (some (aD a 0))) f ?_;refine wg 15 (.pointer (some (aD a 0))) f ?_;refine wg 16 (.pointer (some (aD a 5))) f ?_;refine wgc 17 (.int .u64 (cx:Int)) f d5 ?_;refine wg 18 (.pointer (some (aD u.heap.size 1))) f ?_;refine wgc 19 (.pointer (some (aD r 0))) f T ?_;refine wg 20 (.pointer (some (aD r 0))) f ?_;refine wg 21 (.pointer (some (aD r 0))) f ?_;refine wg 22 (.pointer (some (aD r 5))) f ?_;refine wgc 23 (.int .u64 (cr:Int)) f d6 ?_;refine wG 24 (.bool false) f (λx hx=>?_) ?_
        ·have hc:=HC.o;go_simp
        refine wg 25 (.bool false) f ?_;refine wg 26 (.bool false) f ?_;refine wD ?_;try simp only[Act.put,XC,XD,XE,QA,Qb,Qc]
        try simp only[Act.put,XC,XD,XE,QA,Qb,Qc]
        have s:=Zh (j.o.trans (f.mono j.o.size));have Du:=Zh (J.o w2 s.o);have xE:=Zh (O.o.trans (Q7 s.o (λ_ h _=>h)));clear f c3 c5 Z d5 a0 T g0 W jF V;clear r5 d6;go_wp2;go_roundw
        case rel=>exact⟨i+1,by omega,by go_num,by rw[UR.o],Du.o,xE.o⟩
        case measure=>simp[intOf]; omega
    ·have aA:gl=i:=by omega
     have Du:Hid (bM 135 160 F wr gb D os (z (k+1)).2):=by have:=v.o;rw[<- aA,ay.o]at this;exact this
     have UR:Hid (U i=(z (k+1)).1):=by show _=_; rw[<- aA]; exact bq.o
     clear aA;go_wp2;go_roundw
     case rel=>exact⟨k+1,D,by omega,by go_num,by rw[UR.o],Du.o,bz.o,O.o⟩
     case measure=>simp[intOf]; omega
  ·have aL:bl=k:=by omega
   have HR:Hid (z k=(R1,R2)):=by show _=_; rw[<- aL]; exact HE.o
   rw[HR.o]at WR ⊢;clear aL HR;go_wp2;go_ret;exact⟨rfl,⟨Ak,WR.o⟩,aB.o⟩
theorem Fz.kept'{w':World}(h:Fz F W0 w){s:Nat->Prop}(hk:Kept s w w')(hs:∀ b,Live W0 b->s b):Fz F W0 w':=
 ⟨h.below.kept hk hs,h.low,λb a=>h.high b (Q6 hk.size a)⟩
theorem Fz.afC(h:Fz F W0 w){g:Nat}(hg:¬ F g):∀ b,Live W0 b->b≠g:=λb a e=>hg (e ▸ h.low b a)
theorem I6(h:bC g=some t):∃ x,(g.getD 0 qB).2=some x/\x.2=t:=by
 match g,h with
 | [],h => cases h
 | (_,none)::_,h => cases h
 | (o,some y)::r,h => injection h with h; exact⟨y,rfl,h⟩
theorem fA{w w':World}{s:Nat->Prop}(hk:Kept s w w'){b o:Nat}{v:Value}(h:w.cell? (aD b o)=some v)(hs:s b):w'.cell? (aD b o)=some v:=by rw[Zc (hk.block b (Za h) hs)];exact h
theorem MZ{f:aC}{ts:List af}{q:ae}(E:Env f ts q W0)(hz:Fz F W0 w)(h:bM 135 160 F w gb A os g)(hF:¬ F gb){s:Nat}(hgo:sJ q s g)(gc:Nat)(hgc:g.length<=gc)(hcm:gc<=9223372036854775807)(bo:Option Addr)(bc:Nat)(bs:List (Nat × aQ))(hp:ed w bo (bs.map Prod.fst))(hpo:∀ a,bo=some a->a.block≠gb)(hbs:∀ x∈bs,aT 135 F w x.1 x.2)(hnd:(bs.map Prod.fst).Nodup)(hfr:∀ p∈g,∀ x,p.2=some x->A x.1 ∉ bs.map Prod.fst)(hl:bs.length<=1000)(M0:∀ x∈bs,IY q s x.2) :
  Calls Tryz.prog 133 #[.slice (some (aD gb 0)) g.length gc,.agg (f.cells ts q),.slice bo bs.length bc] w λe w'=>e=.returned (.bool (aK ts q g (bs.map Prod.snd)).1)/\(∃ P,bM 135 160 F w' gb P os (aK ts q g (bs.map Prod.snd)).2)/\Kept (λb=>b≠gb) w w':=by
 obtain⟨v0,v1,v2,v3,v4,v5,v6,v7,v8,v9,T,U,V,bR,-⟩:=Z6 f ts q;have Z:=hgo.short;have aX:0<g.length:=by obtain⟨hh,r,rfl,-⟩:=hgo.head; simp
 obtain⟨w1,aP,B,ax⟩:=bn w #[v0,v1,v2,v3,v4,v5,v6,v7,v8,v9,T,U,V] 68;have I:=I5 (h.below B) hF Z gc bo bc bs (hp.below B) hpo (λx d=>(hbs x d).below B) hnd hfr hl;have n:=pI (l:=bs.map Prod.snd) (x:=(false,g)) hgo (λt ht=>by grind) (λe=>by cases e);have aA:=pY g (bs.map Prod.snd);have HR:Hid (aK ts q g (bs.map Prod.snd)=if (jQ g (bs.map Prod.snd)).1=true then (true,((g.map Prod.fst).drop 1).foldl (dK ts q) (jQ g (bs.map Prod.snd)).2) else (false,(jQ g (bs.map Prod.snd)).2)):=rfl;change sJ q s (jQ g (bs.map Prod.snd)).2/\((jQ g (bs.map Prod.snd)).1=true->(bC (jQ g (bs.map Prod.snd)).2).isSome=true) at n;generalize aK ts q g (bs.map Prod.snd)=R at *;generalize jQ g (bs.map Prod.snd)=O at *;obtain⟨O1,O2⟩:=O;obtain⟨R1,R2⟩:=R;simp only at *;have aY:O2.length=g.length:=by have:=congrArg List.length aA; simpa using this
 have yC:=Zh h.lt;have uk:=Zh ax;have aB:=Zh B;have aZ:=Zh (hz.next B);have bf:=Zh (hz.afC hF)
 cases O1 with
 | false =>
  have J:Hid (R1=false/\R2=O2):=by have:=HR.o; grind
  clear HR h n hz E hp hbs hfr M0 ax B;rw[bR];go_enter Tryz.func133,Tryz.ntmps133;go_wp2_with fail;refine I.mono ?_;rintro e w2 ⟨rfl,u,M⟩;have HF:Hid ((∃ P,bM 135 160 F w2 gb P os R2)/\Kept (λb=>b≠gb) w w2):=⟨by rw[J.o.2]; exact u,(Q7 aB.o (λ_ h _=>h)).trans M⟩;clear I u M aP;go_wp2;go_ret;exact⟨by rw[J.o.1]; rfl,HF.o⟩
 | true =>
  have J:Hid (R1=true/\R2=((g.map Prod.fst).drop 1).foldl (dK ts q) O2):=by have:=HR.o; grind
  obtain⟨j,WV⟩:∃ X:Nat->List aj,X=λk=>(((g.map Prod.fst).drop 1).take k).foldl (dK ts q) O2:=⟨_,rfl⟩;have aF:((g.map Prod.fst).drop 1).length=g.length-1:=by rw[XG,QQ]
  have aa:Hid (∀ k,k<g.length-1->j (k+1)=dK ts q (j k) (((g.map Prod.fst).drop 1).getD k [])):=λk hk=>by rw[WV]; exact jM _ O2 _ [] (by rw[aF]; exact hk)
  have Be:Hid (∀ k,sJ q s (j k)/\(bC (j k)).isSome=true/\(j k).length=g.length/\(j k).map Prod.fst=g.map Prod.fst):=λk=>by have h1:=yA (ts:=ts) (os:=((g.map Prod.fst).drop 1).take k) n.1 (n.2 rfl);have h2:=qL ts q (((g.map Prod.fst).drop 1).take k) O2;grind
  have lY:Hid (j (g.length-1)=R2):=by show _=_;rw[WV,J.o.2];grind
  have bg:Hid (j 0=O2):=by show _=_; rw[WV]; rfl
  have ag:Hid (∀ k,k<g.length-1->((g.map Prod.fst).drop 1).getD k []=(g.getD (k+1) qB).1):=λk hk=>by rw[Xo,List.getElem?_drop,ZL,Xo,Nat.add_comm 1 k,Xr (by omega)];rfl
  have uj:Hid (∀ (x:World) (k a:Nat) (t:aQ) (o:ai),Fz F W0 x->aT 135 F x a t->kN q t->IntsIn F x o->o.xs.length<=1000->Calls Tryz.prog 155 #[.agg #[v0,v1,v2,v3,v4,v5,v6,v7,v8,v9,T,U,V],.pointer (some (aD a 0)),.slice o.ad o.xs.length o.cap] x (dw 135 F x (bD ts q t o.xs))):=λx k a t o d ht bI ho bJ=>by rw[<- bR];exact EJ E d a t ht bI o ho.at' ho.inf ho.nil ho.cap bJ
  have bq:=Zh hF;clear HR h n hz E hp hbs hfr M0 ax B WV aF aY aA hF hpo hnd;rw[bR];clear bR;obtain⟨gl,Kn⟩:=eY (g.length);rw[<- Kn]at aa lY ag I Z aX hgc ⊢;have Q:=Zh Kn;clear Kn;obtain⟨m,hm⟩:∃ m,gl=m+1:=⟨gl-1,by omega⟩;subst hm;rw[XH]at aa lY ag;obtain⟨A0,bA,bB⟩:∃ A0:Addr,(if gc=1 then some ((aD gb 0):Addr) else some (aD gb 2))=some A0/\Hid (0<m->A0=(aD gb 2)):=by
   by_cases h1:gc=1
   ·exact⟨(aD gb 0),by rw[Qo h1],λh=>by omega⟩
   ·exact⟨(aD gb 2),by rw[Qu h1],λ_=>rfl⟩
  go_enter Tryz.func133,Tryz.ntmps133;go_wp2_with fail;refine I.mono ?_;rintro e w2 ⟨rfl,⟨A2,u⟩,M⟩;have bK:Hid (bM 135 160 F w2 gb A2 os (j 0)):=by show bM _ _ _ _ _ _ _ _; rw[bg.o]; exact u
  have xg:=Zh M;clear I u M aP;go_wp2;clear bA;go_loopw [16] (λiv wr=>∃ (k:Nat) (W:Nat->Nat),k<=m/\iv=.int .i64 (k:Int)/\Hid (bM 135 160 F wr gb W os (j k))/\Hid (Kept (λb=>b≠gb) w1 wr)) (λiv _=>m-(intOf iv).toNat)
  case atStart=>grind
  case round=>
   obtain⟨k,W,hk,rfl,WR,Y⟩:=hrel;by_cases aW:k<m
   ·have u:=bB.o (by omega);subst u;have H:=Be.o k;have ah:=WR.o.cells (i:=k+1) (by rw[H.2.2.1,<- Q.o]; omega);have Dw:=WR.o.ord (k+1) (by rw[H.2.2.1,<- Q.o]; omega);have aG:((j k).getD (k+1) qB).1=(g.getD (k+1) qB).1:=by
     have h1:k+1<(j k).length:=by rw[H.2.2.1,<- Q.o]; omega
     have h2:k+1<g.length:=by rw[<- Q.o]; omega
     have:=congrArg (λl=>l.getD (k+1) []) H.2.2.2;grind
    have Ko:=aa.o k aW;rw[ag.o k aW,<- aG,<- Dw.1]at Ko;obtain⟨t,ht⟩:=Xz.1 H.2.1;obtain⟨y,hy,aR⟩:=I6 ht;have ak:=WR.o.tree _ (rW (g:=j k) (i:=0) (by rw[H.2.2.1,<- Q.o]; omega)) y hy;rw[aR]at ak;have aH:=(H.1.first ht).1;have au:=λx (d:Kept (λb=>b≠gb) wr x) (hgx:bM 135 160 F x gb W os (j k))=>tC hgx (by rw[H.2.2.1,<- Q.o]; omega) gc;rw[H.2.2.1,<- Q.o,hy]at au;have aI:Hid (∀ x,Bw wr x->Ce 157 #[.slice (some (aD gb 0)) (m+1) gc] x (.pointer (some (aD (W y.1) 0)))):=λx d=>au x (Q7 d (λ_ h _=>h)) (WR.o.below d);obtain⟨C,aS⟩:=eY (os.getD (k+1) gQ);rw[<- aS]at ah Dw Ko;have bu:=Zh (aZ.o.kept' Y.o bf.o);have aJ:Hid (∀ x,Bw wr x->Calls Tryz.prog 155 #[.agg #[v0,v1,v2,v3,v4,v5,v6,v7,v8,v9,T,U,V],.pointer (some (aD (W y.1) 0)),.slice C.ad C.xs.length C.cap] x (dw 135 F x (bD ts q t C.xs))):=λx d=>uj.o x k (W y.1) t C (bu.o.next d) (ak.below d) aH (Dw.2.1.below d) Dw.2.2;have pQ:Hid (j (k+1)=gD (j k) (bD ts q t C.xs)):=by show _=_;rw[Ko];unfold dK;rw[ht];rfl
    have aL:Hid (∀ x r c,Bw wr x->wr.heap.size<=r->c≠gb->x.cell? (aD c 0)=some (.pointer (some (aD r 0)))->aT 135 F x r (bD ts q t C.xs)->Calls Tryz.prog 156 #[.slice (some (aD gb 0)) (m+1) gc,.slice (some (aD c 0)) 1 1] x λe w'=>(∃ b,e=.returned (.bool b))/\(∃ P,bM 135 160 F w' gb P os (j (k+1)))/\Kept (λb=>b≠gb) x w'):=λx r c d hr hc az bU=>by
     have h1:=I5 (WR.o.below d) bq.o (by rw[H.2.2.1,<- Q.o]; exact Z) gc (some (aD c 0)) 1 [(r,bD ts q t C.xs)] ⟨by simp,λi hi=>⟨c,0,rfl,by
      have:i=0:=by simpa using hi
      subst this;exact az⟩⟩ (λa e=>by grind) (λz hz=>by grind) (by simp) (λp hp z hz hm=>by
       rw[List.map_singleton,Zy]at hm;have:=(WR.o.tree p hp z hz).lt;rw[hm]at this;omega) (by simp)
     rw[H.2.2.1,<- Q.o]at h1;refine h1.mono ?_;rintro e w' ⟨rfl,h2,h3⟩;rw[pQ.o];exact⟨⟨_,rfl⟩,h2,h3⟩
    have g0:wr.cell? (aD gb (2+k*2))=some (.slice C.ad C.xs.length C.cap):=by rw[show 2+k*2=(k+1)*2 by omega]; exact ah.1
    obtain⟨po,hpo⟩:∃ po,Kl W ((j k).getD (k+1) qB).2=.pointer po:=by
     cases ((j k).getD (k+1) qB).2 with
     | none => exact⟨_,rfl⟩
     | some y => exact⟨_,rfl⟩
    have g1:wr.cell? (aD gb (2+k*2+1))=some (.pointer po):=by grind
    have L:=uk.o.keep Y.o (by have:=yC.o; omega);generalize W y.1=ar at *;generalize C.xs.length=Pq at *;generalize C.ad=Ps at *;generalize C.cap=Pv at *;generalize bD ts q t C.xs=TT at *;have bL:Hid _:=L;clear ah Dw aG Ko ht hy aR ak aH au aS hpo H;obtain⟨wq,bE⟩:∃ x,x=wr:=⟨_,rfl⟩;subst bE;obtain⟨w3,ay⟩:∃ x,wq.alloc (.cells #[.slice Ps Pq Pv,.pointer po] 160)=x:=⟨_,rfl⟩;have av:Bw wq w3:=by rw[<- ay]; exact fq _ _
    have p0:w3.cell? (aD wq.heap.size 0)=some (.slice Ps Pq Pv):=by rw[<- ay]; simp
    have aM:=L.keep (Q7 (s:=λb=>b<wq.heap.size) av (λ_ h _=>h)) L.lt;obtain⟨a0,a1,a2,a3,a4,a5,a6,a7,a8,a9,ji,jE,aU⟩:=aM.k13;have v:=Zh av;have aN:=Zh L.lt;clear av L aM;go_wp2_with fail;clear ay;have G:Hid (w.heap.size≠gb):=by show _≠_; have:=yC.o; omega
    have bz:Hid (wq.heap.size≠gb):=by show _≠_; have:=yC.o; have:=aN.o; omega
    refine QC (S:=λx=>Kept (λb=>b≠gb) w3 x) (by kernel_rfl) (Q7 ((Qm w3.heap.size w3).drew) (λ_ hl _=>hl)) (λD=>?_);refine wt 0 (.slice (some (aD gb 0)) (m+1) gc) D ?_;refine wT 1 (.agg #[v0,v1,v2,v3,v4,v5,v6,v7,v8,v9,T,U,V]) D (λx d=>?_) ?_
    ·have e0:=fA d a0 G.o;have e1:=fA d a1 G.o;have e2:=fA d a2 G.o;have e3:=fA d a3 G.o;have e4:=fA d a4 G.o;have e5:=fA d a5 G.o;have e6:=fA d a6 G.o;have e7:=fA d a7 G.o;have e8:=fA d a8 G.o;have e9:=fA d a9 G.o;have bN:=fA d ji G.o;have bO:=fA d jE G.o;have bP:=fA d aU G.o;go_simp
    refine wt 2 (.slice (some (aD gb 0)) (m+1) gc) D ?_;refine wt 4 (.pointer (some (aD wq.heap.size 0))) D ?_;refine wT 5 (.slice Ps Pq Pv) D (λx d=>?_) ?_
    ·have e0:=fA d p0 bz.o;go_simp
    refine wR 3 λK N=>?_;go_simp;refine Z5 (aI.o _ v.o.drew) ?_;rintro e w4 ⟨rfl,bF⟩;subst bF;refine N.o _ _ D λD=>?_;clear N K;refine wR 6 λK N=>?_;go_simp;refine Z5 (aJ.o _ v.o.drew) ?_;rintro e w5 ⟨r,rfl,hT,bG,bQ,bH⟩;have jG:=(Qm w3.heap.size w3).drew.trans bH;refine N.o _ _ (Q7 jG (λ_ h _=>h)) (λD=>?_);clear N K;refine wR 7 λK N=>?_;go_simp;refine N.o _ _ (D.trans (Q9 _ _)) (λD=>?_);clear N K;refine wR 8 λK N=>?_;go_simp;refine Z5 (aL.o _ r _ (v.o.trans ((jG.trans ((fq _ _).mono jG.size)).mono v.o.size)) (Q6 v.o.size bG) (by have:=yC.o; have:=aN.o; have:=v.o.size; have:=jG.size; omega) (by simp) (hT.below (fq _ _))) ?_;rintro e w6 ⟨⟨bb,rfl⟩,aV,uq⟩;refine N.o _ _ (D.trans uq) (λD=>?_);clear N K;refine wD ?_;try simp only[pV]
    try simp only[pV]
    have HF:Hid ((∃ P,bM 135 160 F w6 gb P os (j (k+1)))/\Kept (λb=>b≠gb) w1 w6):=⟨aV,Y.o.trans ((Q7 v.o (λ_ h _=>h)).trans D)⟩;clear D aV a0 a1 a2 a3 a4 a5 a6 a7 a8 a9 ji jE aU p0 g0 g1 aI aJ aL;go_wp2;go_roundw
    case rel=>obtain⟨⟨P,bS⟩,bT⟩:=HF.o; grind
    case measure=>simp[intOf]; omega
   ·have aO:m=k:=by omega
    have HF:Hid ((∃ P,bM 135 160 F wr gb P os R2)/\Kept (λb=>b≠gb) w wr):=by refine⟨⟨W,?_⟩,(Q7 aB.o (λ_ h _=>h)).trans Y.o⟩;have:=WR.o;rw[<- aO,lY.o]at this;exact this
    clear aO;go_wp2;go_ret;exact⟨by rw[J.o.1]; rfl,HF.o⟩
def XF:=@fA
