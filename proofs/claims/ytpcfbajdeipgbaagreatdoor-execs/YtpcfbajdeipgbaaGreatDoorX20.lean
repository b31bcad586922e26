import Derived.Test.YtpcfbajdeipgbaaGreatDoorX10
import Derived.Test.YtpcfbajdeipgbaaGreatDoorX12
import Derived.Test.YtpcfbajdeipgbaaGreatDoorX19
set_option linter.all false
set_option maxRecDepth 100000
set_option maxHeartbeats 0
namespace Go.Proofs.Zz
open Go.RowKit Go.Shelf
open List renaming length->N,getD->E
open Go.Value renaming slice->Z,int->I,pointer->Y,agg->FN
open Go.Proofs.Tryz renaming prog->V
open Option renaming some->O,none->E5
open Go.IntKind renaming i64->J
open Go renaming World->U,Value->KX
open Go.World renaming heap->H,setCell->qw,cell?->Am
open _root_.Array renaming size->M
open Go.RowKit renaming Hid->Wl
open Go.Obj renaming cells->FL
open Go.Ending renaming returned->FR
variable {W w x y:U} {R b:Nat} {P:Program} {a:Act}
section
open Go.Maps Go.WideMaps
def Cs(kr:Int)(ys:List ae)(κ:Int):List ae:=ys.filter λy=>decide (bN y.xs kr=κ)
theorem acr(kr:Int)(ys:List ae)(x:ae):Cs kr (ys++[x])=λκ=>if κ=bN x.xs kr then Cs kr ys κ++[x] else Cs kr ys κ:=by funext κ;unfold Cs;grind
structure acs(P:Program)(ti tE:TypeId)(Jq:List ae->(Nat->Prop)->U->Prop)(kr:Int)(o:Nat->Prop)(n0 Nq:Nat)(w3:U)(pre:List ae)(o1:Nat->Prop)(W':U)(val:Int->KX):Prop where
 Sk:Bi P ti tE (Nq+3) (Nq+1) (N pre) (Cs kr pre) val W'
 j:Jq [] o W'
 iff:∀b,o1 b↔o b∨gU (Nq+1) val b∨(M (H w3)<=b/\∃y∈pre,ah.aT y=O b)
 at':∀y∈pre,ah.At y W'
 rows:∀y∈pre,∀b,ah.aT y=O b->(b<n0∨M (H w3)<=b)/\¬gU (Nq+1) val b
 kept:Kept (λb=>¬o b/\b≠Nq+1) w3 W'
def acs.keep{P:Program}{ti tE:TypeId}{Jq:List ae->(Nat->Prop)->U->Prop}{kr:Int}{o:Nat->Prop}{n0 Nq:Nat}{w3:U}{pre:List ae}{o1:Nat->Prop}{A B:U}{val:Int->KX}(h:acs P ti tE Jq kr o n0 Nq w3 pre o1 A val)
  (hJ:∀pre o1 A B,Jq pre o1 A->Kept (λb=>o1 b∨b<Nq) A B->Jq pre o1 B) (hN:Nq+3<=M (H w3)) (hn0:n0<=Nq) (hk:Kept (λb=>o1 b∨b<M (H w3)) A B):acs P ti tE Jq kr o n0 Nq w3 pre o1 B val:=by
 refine⟨h.Sk.keep hk (λb a=>.inl ((h.iff b).2 (.inr (.inl a)))),hJ _ _ _ _ h.j (hk.mono λb _ a=>a.imp (λa=>(h.iff b).2 (.inl a)) (by omega)),h.iff,λy hy=>ah.keep (h.at' y hy) hk.size (λb a d=>hk.block b a ?_),h.rows,h.kept.trans' hk (λb a _=>.inr a)⟩;rcases (h.rows y hy b d).1 with e|e
 .exact .inr (by omega)
 .exact .inl ((h.iff b).2 (.inr (.inr ⟨e,y,hy,d⟩)))
theorem ajd{base:Nat}{e:TypeId}{v:KX}{ys:List ae}(h:W.ownsRow base e 1 v (N ys) (ys.map ae.val))(hl:N ys<=1000000)(hat:∀y∈ys,ah.At y W) :
  ∃j cap,v=Z j (N ys) cap/\bL W j ys/\∀a,j=O a->v.ownBlock=O a.block:=by
 have d:∀i,i<N ys->ah.At (E ys i iz) W:=λi b=>hat _ (nM b);rcases h.2 with⟨hv,h0⟩|⟨g,cap,cur,hv,hb,hh,hc1,hc2,hc3,ht⟩
 .have:=QF h0;subst this;exact⟨E5,0,hv,⟨⟨by simp,λi b=>absurd b (by simp),λi b=>absurd b (by simp)⟩,(λa f=>by cases f),λi b=>absurd b (by simp)⟩,λa f=>by cases f⟩
 .refine⟨O (aD g 0),cap,hv,⟨⟨by omega,λi b=>⟨g,0,rfl,?_⟩,λi b=>(d i b).1⟩,λa f=>?_,d⟩,λa f=>by cases f;rw[hv];rfl⟩
  .have l:(cur.toList.take (N ys*1))[i]? = O (E ys i iz).val:=by rw[ht];simp[List.getD,b]
   have k:cur[i]? = O (E ys i iz).val:=by grind
   simp only[World.cell?,hh];simpa using k
  grind
def Ir{x:Int}(h:dW x):af7 x:=uW h
def Ct(lk rk:Int)(A B R:List (List Int)):jG lk rk (A++B) R=jG lk rk A R++jG lk rk B R:=by unfold jG;rw[Q7]
def acu{lk rk:Int}{L L' R:List (List Int)}(h:L <+: L'):jG lk rk L R <+: jG lk rk L' R:=by obtain⟨t,rfl⟩:=h;rw[Ct];exact List.prefix_append _ _
attribute [local go_sem] Oper.semAt_some
theorem af8(br bl Pe Mm gr gl kl kr:Nat)(ql qp:Array KX)(L R:List (List Int))(w0:U)(hbr:br<M (H w0))(hbl:bl<M (H w0))(ai8:Pe<M (H w0))(ai9:Mm<M (H w0))
  (hcr:Am w0 (aD br 0)=O (.func (.func gr) #[] ql)) (hcl:Am w0 (aD bl 0)=O (.func (.func gl) #[] qp)) (aja:Am w0 (aD Pe 0)=O (I J kl)) (ajb:Am w0 (aD Mm 0)=O (I J kr))
  (zX:Seq ah V gr ql R w0) (hsl:Seq ah V gl qp L w0)
  (egr:∀args w,(callFunc gr args).run V w=.ok (.enter gr args) w) (egl:∀args w,(callFunc gl args).run V w=.ok (.enter gl args) w)
  (hR:N R<=1000000) (PX:∀a∈L,N a<=1000) (hRl:∀a∈R,N a<=1000) (hLk:∀a∈L,kl<N a) (hRk:∀a∈R,kr<N a) (hLs:∀a∈L,∀v∈a,dW v) (hRs:∀a∈R,∀v∈a,dW v) :
  Seq ah V 182 #[Y (O (aD br 0)),Y (O (aD Mm 0)),Y (O (aD bl 0)),Y (O (aD Pe 0))] (jG kl kr L R) w0:=by
 intro l Jq W o hW ho hJ hY h0;obtain⟨w1,aF⟩:∃x,W.alloc (FL #[.func (.yield l) #[] #[]] 108)=x:=⟨_,rfl⟩;have aS:Bw W w1:=by rw[<-aF];exact bJ _ _
 have s1:M (H w1)=M (H W)+1:=by rw[<-aF];simp
 have y1:Am w1 (aD (M (H W)) 0)=O (.func (.yield l) #[] #[]):=by rw[<-aF];simp
 obtain⟨w2,aG⟩:∃x,w1.alloc (.map #[] 0)=x:=⟨_,rfl⟩;have aU:Bw w1 w2:=by rw[<-aG];exact bJ _ _
 have s2:M (H w2)=M (H W)+2:=by rw[<-aG];simp[s1]
 have m2:Bi V 3 23 (M (H W)+3) (M (H W)+1) 0 (λ_=>[]) (λ_=>Z E5 0 0) w2:=by have h:=Bi.fresh V 3 23 w1;rw[aG,s1]at h;exact⟨h.map,λ_=>Xl _ _ _ _,h.apart,by omega⟩
 obtain⟨w3,aH⟩:∃x,w2.alloc (FL #[.map (O (M (H W)+1))] 222)=x:=⟨_,rfl⟩;have aW:Bw w2 w3:=by rw[<-aH];exact bJ _ _
 have s3:M (H w3)=M (H W)+3:=by rw[<-aH];simp[s2]
 have x3:Am w3 (aD (M (H W)+2) 0)=O (.map (O (M (H W)+1))):=by rw[<-aH,<-s2];simp
 have m3:=m2.keep (ZA (s:=λ_=>True) aW (λb d _=>d)) (λ_ _=>trivial);have ru:=aU.trans (aW.mono aU.size);have y3:=cB ru y1;have aL:=aS.trans (ru.mono aS.size);have xZ:=hW.trans (aL.mono hW.size);have fH:=(xZ.cell (p:=(aD br 0)) hbr).trans hcr;have PS:=hJ _ _ _ _ h0 (ZA aL (λb d _=>d));have bq:acs V 3 23 Jq kr o (M (H w0)) (M (H W)) w3 [] (λb=>o b∨gU (M (H W)+1) (λ_=>Z E5 0 0) b∨(M (H w3)<=b/\∃y∈([]:List ae),ah.aT y=O b)) w3 (λ_=>Z E5 0 0):=
  ⟨m3,PS,λ_=>ZI,λy hy=>(by cases hy),λy hy=>(by cases hy),Zx _ _⟩
 obtain⟨dY,HY,HO,HW,HJ,HR,dZ⟩:=Dn bq hY ho hW hJ hR PX;obtain⟨ed,ek,eu,eB,eD⟩:=J5 hRl hLk hRk hLs hRs;have zh:Wl (Am w0 (aD Pe 0)=O (I J kl)/\Am w0 (aD Mm 0)=O (I J kr)/\Pe<M (H w0)/\Mm<M (H w0)/\bl<M (H w0)/\Am w0 (aD bl 0)=O (.func (.func gl) #[] qp)):=⟨aja,ajb,ai8,ai9,hbl,hcl⟩;obtain⟨DY,bS,eF,bT,xG,eG⟩:=Dm s3 x3 y3 xZ aL aF;obtain⟨eH,eO⟩:=aV aG aH;clear hY ho hW hJ hcr hcl hR PX hRl hLk hRk hLs hRs hbl hbr aja ajb ai8 ai9 aS aU aW ru s1 s2 s3 y1 y3 x3 m2 m3 PS h0 bq aL aF aG aH;refine(ZG (n:=0)).1 (Z0 Tryz.func182 rfl trivial ?_ rfl);simp only[Tryz.ntmps182,ZN,QJ,ZO,Nat.reduceAdd,Nat.reduceSub,ZP,ZQ,ZR,ZT,ZU,ZV];have fI:=@run_makeMap V;gi_upto_region 2 with fail;rw[eG.o,eH.o,eO.o];gi_wp2_with fail;refine oz ah (gf:=gr) (lb:=ql) rfl egr zX xZ rfl
  (λf u W'=>∃val,acs V 3 23 Jq kr o (M (H w0)) (M (H W)) w3 f u W' val)
  (λb=>o b∨gU (M (H W)+1) (λ_=>Z E5 0 0) b∨(M (H w3)<=b/\∃y∈([]:List ae),ah.aT y=O b)) ?_ ?_ ⟨_,dY.o⟩ (λx=>{ tmps:=#[.func (.yield l) #[] #[],Y (O (aD br 0)),Y (O (aD Mm 0)),Y (O (aD bl 0)),Y (O (aD Pe 0)),Y (O (aD (M (H W)) 0)),Y (O (aD (M (H W)+2) 0)),x.val,undef,.map (O (M (H W)+1)),.func (.func gr) #[] ql,x.val,undef,undef,undef,undef,undef,undef,undef,undef,undef,undef,undef,undef,undef,undef,undef,undef,undef,undef,undef,undef,undef,undef,undef,undef,undef,undef,undef],defers:=[] }) ?assign ?body ?done
 .intro b d;have h0:=HW.o.size;have h3:=DY.o;rcases d with h|h|⟨_,y,hy,_⟩
  .exact⟨(HO.o b h).1,by have:=(HO.o b h).2;omega⟩
  .rcases h with h|⟨κ,h⟩
   .omega
   .cases h
  .cases hy
 .rintro f u A B ⟨val,h⟩ hk;exact⟨val,h.keep HJ.o (by have:=DY.o;omega) HW.o.size hk⟩
 case assign=>
  intro l x W K Q;gi_wp2;exact Q
 case body=>
  rintro l2 f x u G ⟨val,q⟩ ag z ai eP;have av:=kW ag;have az:=eu.o _ av;have bu:=HW.o.size;have h3:=DY.o;have fJ:N f+1<=1000000:=by have C:=ag.length_le;rw[Q8,QI]at C;have h2:=HR.o;simp at C;omega
  have ax:∀b,gU (M (H W)+1) val b->b=M (H W)+1∨M (H W)+3<=b:=λb d=>by
   rcases d with h|⟨κ,h⟩
   .exact .inl h
   .exact .inr (Xf (q.Sk.own κ) h).1
  have cO:∀b,b<M (H w0)->¬o b/\b≠M (H W)+1:=λb d=>⟨λh=>by have:=(HO.o b h).1;omega,by omega⟩;have aX:=xZ.trans (q.kept.below xZ.size cO);have cZ:=(aX.cell (p:=(aD Mm 0)) zh.o.2.2.2.1).trans zh.o.2.1;have df:=ZY bS.o q.kept ⟨λh=>by have h':o (M (H W)+2):=h;have:=(HO.o _ h').2;omega,by show M (H W)+2≠_;omega⟩;obtain⟨xb,xo,aI,qK⟩:=Qg z.1 az;have dh:=qK kr az;have aj:=q.Sk.keep (ZA (s:=λ_=>True) ((Qr (M (H G)) G).drew) (λb d _=>d)) (λ_ _=>trivial);have aA:bN x.xs kr=E x.xs kr 0:=by unfold bN;rw[Xu]
  have di:=ll (eD.o _ av) kr;have aB:=Ir di;have dm:=aj.look (t:=222) (e:=30) Tryz.underlying3 Tryz.underlying222 (Tryz.zeroValue30 _) aB;have dn:Bi V 3 23 (M (H W)+3) (M (H W)+1) (N f) (Cs kr f) val (G.drew.alloc (FL #[x.val] 23)):=aj.keep (ZE (s:=λ_=>True) _ _) (λ_ _=>trivial);have bz:=dn.look (t:=222) (e:=30) Tryz.underlying3 Tryz.underlying222 (Tryz.zeroValue30 _) aB;obtain⟨vn,wa,wu,aZ,fT,eQ,⟨ya,ym,yc,rfl⟩,eT,eU,bU⟩:=acp G.drew (M (H W)+3) (M (H W)+1) (N f) (Cs kr f) val aj (by omega) (by show M (H W)+3<=M (H G);omega) (E x.xs kr 0) aB (by unfold Cs;exact Q6 (XP _ _) (by omega)) x 30;obtain⟨va,vm,vc,bV⟩:=Xg (aj.own (E x.xs kr 0));rw[bV]at dm bz aZ;have fK:(Instr.lookup 222 (.map (O (M (H W)+1))) (.int J (E x.xs kr 0)) false).run V (G.alloc (FL #[x.val] 23)).drew=.ok (.slice va vm vc) (G.alloc (FL #[x.val] 23)).drew:=bz;have bA:=(ZE _ _).trans eT;have bB:=bA.trans eU;have V5:=(ZA ((Qr (M (H G)) G).drew) (λb d _=>d)).trans bB;obtain⟨bW,bX⟩:=aV bA bB;have aY:∀b,ah.aT x=O b->¬gU (M (H W)+1) val b:=λb d h=>(ai b d).1 ((q.iff b).2 (.inr (.inl h)));have Mo:Wl (¬gU (M (H W)+1) val (M (H W)+2)/\¬gU (M (H W)+1) val Mm):=⟨λh=>by have:=ax _ h;omega,λh=>by have:=ax _ h;have:=zh.o.2.2.2.1;omega⟩;have aM:Wl (∀a4:Act,iy ah (λf u W'=>∃val,acs V 3 23 Jq kr o (M (H w0)) (M (H W)) w3 f u W' val) f x (M (H w3)) u G .normal a4 wu):=λa4=>by
   have bC:∀b,gU (M (H W)+1) (λκ=>if κ=E x.xs kr 0 then Z ya ym yc else val κ) b->gU (M (H W)+1) val b∨(M (H G)<b/\b<M (H wu)):=bU;have bD:∀b,b<M (H G)->¬gU (M (H W)+1) val b->¬gU (M (H W)+1) (λκ=>if κ=E x.xs kr 0 then Z ya ym yc else val κ) b:=λb d h h'=>by
    rcases bC b h' with C|C
    .exact h C
    .omega
   have dw:∀b,ah.aT x=O b->b<M (H G):=λb d=>ah.AV z d;refine⟨λb=>o b∨gU (M (H W)+1) (λκ=>if κ=E x.xs kr 0 then Z ya ym yc else val κ) b∨(M (H w3)<=b/\∃y∈f++[x],ah.aT y=O b),⟨_,?_,?_,λ_=>ZI,?_,?_,?_⟩,V5.mono (λb _ h h'=>h ((q.iff b).2 (.inr (.inl h')))),?_⟩
   .rw[acr,aA,QI];exact eQ
   .exact HJ.o _ _ _ _ q.j (V5.mono λb _ h h'=>by
     have C:=ax b h';rcases h with h|h
     .have:=(HO.o b h).2;omega
     .omega)
   .intro y hy;rcases Ze.1 hy with hy|hy
    .exact ah.keep (q.at' y hy) V5.size (λb d k=>V5.block b d (q.rows y hy b k).2)
    .rw[Xj]at hy;subst hy;exact ah.keep z V5.size (λb d k=>V5.block b d (aY b k))
   .intro y hy b k;rcases Ze.1 hy with hy|hy
    .have C:=q.rows y hy b k;exact⟨C.1,bD b (ah.AV (q.at' y hy) k) C.2⟩
    .rw[Xj]at hy;subst hy;exact⟨(ai b k).2,bD b (dw b k) (aY b k)⟩
   .exact q.kept.trans' V5 (λb d h h'=>by
     have C:=ax b h';omega)
   .rintro b (d|d|⟨C,y,hy,k⟩)
    .exact .inl ((q.iff b).2 (.inl d))
    .rcases bC b d with h|h
     .exact .inl ((q.iff b).2 (.inr (.inl h)))
     omega
    .rcases Ze.1 hy with hy|hy
     .exact .inl ((q.iff b).2 (.inr (.inr ⟨C,y,hy,k⟩)))
     .rw[Xj]at hy;subst hy;exact .inr (.inr ⟨k,C⟩)
  have bE:=Zh (aY xb (by show Option.map _ _=_;rw[aI];rfl));have aN:Am G.drew (aD (M (H W)+2) 0)=O (.map (O (M (H W)+1))):=df;have bG:Am G.drew (aD Mm 0)=O (I J kr):=cZ;have aO:Am G.drew (aD xb (xo+kr))=O (I J (E x.xs kr 0)):=dh;obtain⟨fO,bF,gM⟩:=x;unfold ae.val at*;simp only at*;subst aI;generalize E gM kr 0=X at*;gi_upto_region 4 with fail;refine wO (S:=λx=>Kept (λb=>¬gU (M (H W)+1) val b) G.drew x) (by kernel_rfl) (by kernel_rfl) (λ⟨_,_,h⟩=>h) ?_;have m:Kept (λb=>¬gU (M (H W)+1) val b) G.drew G.drew:=Zx _ _;refine wT 0 (.map (O (M (H W)+1))) m (λx z=>?_) ?_
  .have q1:=ZY aN z Mo.o.1;go_simp
  refine wt 1 (Z (O (aD xb xo)) (N gM) bF) m ?_;refine wT 2 (I J kr) m (λx z=>?_) ?_
  .have q1:=ZY bG z Mo.o.2;go_simp
  refine wt 3 (Y (O (aD xb (xo+kr)))) m ?_;refine wT 4 (I J X) m (λx z=>?_) ?_
  .have q1:=ZY aO z bE.o;go_simp
  refine wT 5 (.map (O (M (H W)+1))) m (λx z=>?_) ?_
  .have q1:=ZY aN z Mo.o.1;go_simp
  refine wt 6 (Z (O (aD xb xo)) (N gM) bF) m ?_;refine wT 7 (I J kr) m (λx z=>?_) ?_
  .have q1:=ZY bG z Mo.o.2;go_simp
  refine wt 8 (Y (O (aD xb (xo+kr)))) m ?_;refine wT 9 (I J X) m (λx z=>?_) ?_
  .have q1:=ZY aO z bE.o;go_simp
  refine wt 11 (Z (O (aD xb xo)) (N gM) bF) m ?_;refine wJ 10 12 (λK Q=>?_) λK Q=>?_
  .go_simp;refine Q.o _ _ (Zx _ _) (λm=>?_);refine wR 12 λK Q=>?_
   go_simp;refine Q.o _ _ (ZE _ _) (λm=>?_);refine wR 13 λK Q=>?_;refine X6 (by rfl) _ _ _ (by rfl) (Z va vm vc) (Z (O (aD (M (H G)) 0)) 1 1) (Z ya ym yc) wa (by rfl) (by rfl) aZ ?_;refine Q.o _ _ bW.o (λm=>?_);refine wR 14 λK Q=>?_;go_simp;refine Q.o _ _ bX.o (λm=>?_);refine wD ?_;try simp only[Act.put,QG,Qc,Qb]
   gi_wp2;exact aM.o _
  .go_simp;refine Q.o _ _ (ZE _ _) (λm=>?_);refine wR 10 λK Q=>?_
   go_simp;refine Q.o _ _ (ZE _ _) (λm=>?_);refine wR 13 λK Q=>?_;refine X6 (by rfl) _ _ _ (by rfl) (Z va vm vc) (Z (O (aD (M (H G)) 0)) 1 1) (Z ya ym yc) wa (by rfl) (by rfl) aZ ?_;refine Q.o _ _ bW.o (λm=>?_);refine wR 14 λK Q=>?_;go_simp;refine Q.o _ _ bX.o (λm=>?_);refine wD ?_;try simp only[Act.put,QG,Qc,Qb]
   gi_wp2;exact aM.o _
 case done=>
  rintro us o' W2 U4 ⟨val,q⟩ fU fV hD;have bH:us.map ae.xs=R:=U4;have h3:=DY.o;have bI:=q.kept.size;have bK:¬o (M (H W)+2)/\¬o (M (H W)):=⟨λh=>by have:=(HO.o _ h).2;omega,λh=>by have:=(HO.o _ h).2;omega⟩;have dx:=ZY bS.o q.kept ⟨bK.1,by show M (H W)+2≠_;omega⟩;have bu:=HW.o.size;have dz:N us<=1000000:=by have:=congrArg N bH;rw[Q8]at this;rw[this];exact HR.o
  have ax:∀b,gU (M (H W)+1) val b->b=M (H W)+1∨(M (H W)+3<=b/\b<M (H W2)):=λb d=>by
   rcases d with h|⟨κ,h⟩
   .exact .inl h
   .exact .inr (Xf (q.Sk.own κ) h)
  have dA:af7 1073741824:=Ir (by unfold dW;omega);obtain⟨D,eX,eY⟩:=q.Sk.map;obtain⟨w5,fG,eZ,bf⟩:=eX.drop (t:=222) (e:=30) (int_keyed Tryz.underlying3) Tryz.underlying222 (keyOf_int_mk Tryz.underlying3 dA) 0;have af:Kept (λb=>b≠M (H W)+1) W2 w5:=Xd bf.grown (λr e h=>by cases e;exact h rfl);have fM:=af.size;have dB:Bi V 3 23 (M (H W)+3) (M (H W)+1) (N us) (λκ=>if κ=1073741824 then [] else Cs kr us κ) (λκ=>if κ=1073741824 then .slice E5 0 0 else val κ) w5:=by
   refine⟨⟨_,eZ,λκ hκ=>?_⟩,λκ=>?_,λκ κ' fF b d=>?_,by omega⟩
   .by_cases e:κ=1073741824
    .rw[Qu e,e,atKey_del_same]
    .rw[QC e,atKey_del_other (λh=>e (by injection h)),eY κ hκ]
   .by_cases e:κ=1073741824
    .simp only[Qu e];exact Xl _ _ _ _
    .simp only[QC e];exact Xe (q.Sk.own κ) af (λg hg=>by have:=(Xf (q.Sk.own κ) hg).1;show g≠_;omega)
   .by_cases e:κ=1073741824
    .simp only[Qu e]at d;cases d
    .simp only[QC e]at d;by_cases e':κ' = 1073741824
     .simp only[Qu e'];intro h;cases h
     .simp only[QC e'];exact q.Sk.apart κ κ' fF b d
  have dC:∀b,gU (M (H W)+1) (λκ=>if κ=1073741824 then Z E5 0 0 else val κ) b->¬o b/\M (H W)<b/\b<M (H w5):=λb d=>by
   have C:gU (M (H W)+1) val b:=by
    rcases d with h|⟨κ,h⟩
    .exact .inl h
    .by_cases e:κ=1073741824
     .simp only[Qu e]at h;cases h
     .simp only[QC e]at h;exact .inr ⟨κ,h⟩
   have h2:=ax b C;exact⟨λh=>by have:=(HO.o b h).2;omega,by omega,by omega⟩
  have Kn:=q.kept.trans' af (λb _ h=>h.2);have dD:∀y∈us,∀b,ah.aT y=O b->¬o b/\b<M (H w5):=λy hy b d=>by have C:=(q.rows y hy b d).1;have h2:=ah.AV (q.at' y hy) d;exact⟨λh=>by have:=HO.o b h;omega,by omega⟩
  have dE:∀y∈us,ah.At y w5:=λy hy=>ah.keep (q.at' y hy) af.size (λb d k=>af.block b d (λe=>(q.rows y hy b k).2 (.inl e)));have aP:=bT.o.trans (Kn.below bT.o.size (λb d=>⟨λh=>by have:=(HO.o b h).1;omega,by omega⟩));have fP:=(aP.cell (p:=(aD bl 0)) zh.o.2.2.2.2.1).trans zh.o.2.2.2.2.2;have dF:=HJ.o _ _ _ _ q.j (af.mono λb _ h=>by
   rcases h with h|h
   .have:=(HO.o b h).2;show b≠_;omega
   .show b≠_;omega)
  have dG:=(ZA xG.o (λb d _=>d)).trans' Kn (λb d h=>⟨h,by omega⟩);obtain⟨jS,aJ,bY,fe,fo,fq,bZ⟩:=Dn dB dC dD dE (ZY dx af (by show M (H W)+2≠_;omega)) (ZY eF.o Kn ⟨bK.2,by show M (H W)≠_;omega⟩) ((af.block _ (ZH.1 hD).1 (by omega)).trans hD);obtain⟨cu,fu,fw,fA⟩:=xA bH dz dG dF;have aQ:Wl (M (H w3)<M (H w5)):=by have:=(ZH.1 bZ.o).1;exact this
  gi_wp2_with fail;refine oz ah (gf:=gl) (lb:=qp) rfl egl hsl aP rfl
   (λf u W'=>∃zs,zs.map ah.key=jG kl kr (f.map ah.key) R/\Jq zs u W'/\Kept (λb=>¬o b) w5 W'/\∀b,u b->o b∨(M (H w5)<=b/\b<M (H W')))
   o ?_ ?_ ?_ (λx=>{ tmps:=#[.func (.yield l) #[] #[],Y (O (aD br 0)),Y (O (aD Mm 0)),Y (O (aD bl 0)),Y (O (aD Pe 0)),Y (O (aD (M (H W)) 0)),Y (O (aD (M (H W)+2) 0)),undef,x.val,.map (O (M (H W)+1)),.func (.func gr) #[] ql,undef,undef,undef,undef,undef,undef,undef,undef,undef,undef,undef,undef,undef,undef,undef,.map (O (M (H W)+1)),.func (.func gl) #[] qp,x.val,undef,undef,undef,undef,undef,undef,undef,undef,undef,undef],defers:=[] }) ?assign ?body ?done
  .intro b d;exact⟨(HO.o b d).1,by have:=(HO.o b d).2;have:=aQ.o;have:=DY.o;omega⟩
  .rintro f u A B ⟨zs,hz,hj,hk,hg⟩ bg;have C:=aQ.o;have h2:=DY.o;exact⟨zs,hz,HJ.o _ _ _ _ hj (bg.mono λb _ h=>h.imp id (by omega)),hk.trans' bg (λb d _=>.inr d),λb h=>(hg b h).imp id (λh=>⟨h.1,by have:=bg.size;omega⟩)⟩
  .exact⟨[],rfl,fA.o,Zx _ _,λb h=>.inl h⟩
  case assign=>
   intro l x W K Q;gi_wp2;exact Q
  case body=>
   rintro l2 f x u P ⟨zs,hz,hj,hk,hg⟩ ag z ai eP;have h3:=DY.o;have h5:=aQ.o;have bu:=HW.o.size;have av:=kW ag;have az:=ek.o _ av;have dH:=dZ.o _ av;have O6:∀b,M (H W)<=b->¬o b:=λb d h=>by have:=(HO.o b h).2;omega
   have bL:∀b,b<M (H w0)->¬o b:=λb d h=>by have:=(HO.o b h).1;omega
   have ak:∀b,b<M (H w5)->¬o b->¬u b:=λb d h h'=>by grind
   have aX:=aP.trans (hk.below aP.size bL);have aC:=hk.trans (ZA ((Qr (M (H P)) P).drew) (λb d _=>d));have dI:Am P.drew (aD Pe 0)=O (I J kl):=(aX.cell (p:=(aD Pe 0)) zh.o.2.2.1).trans zh.o.1;have aN:=ZY (s:=λb=>¬o b) fo.o aC (O6 (M (H W)+2) (by omega));have dJ:=ZY (s:=λb=>¬o b) fq.o aC (O6 (M (H W)) (Qs _));obtain⟨xb,xo,aI,qK⟩:=Qg z.1 az;have aO:Am P.drew (aD xb (xo+kl))=O (I J (E x.xs kl 0)):=qK kl az;have dK:=(ai xb (by show Option.map _ _=_;rw[aI];rfl)).1;have aA:bN x.xs kl=E x.xs kl 0:=by unfold bN;rw[Xu]
   have aB:=Ir (ll (eB.o _ av) kl);have aj:=jS.o.keep aC (λb d=>(aJ.o b d).1);have aa:∀y∈(if E x.xs kl 0=1073741824 then [] else Cs kr us (E x.xs kl 0)),y∈us:=λy hy=>by
    split at hy
    .cases hy
    .exact(Zj.1 hy).1
   have hsl:N (if E x.xs kl 0=1073741824 then [] else Cs kr us (E x.xs kl 0))<=1000000:=by
    split
    .simp
    .exact Q6 (XP _ _) fu.o
   have au:jG kl kr ((f++[x]).map ah.key) R=zs.map ah.key++(if E x.xs kl 0=1073741824 then [] else Cs kr us (E x.xs kl 0)).map (λr=>x.xs++r.xs):=by
    have e1:(f++[x]).map ah.key=f.map ah.key++[x.xs]:=by rw[Ql];rfl
    rw[e1,Ct,<-hz];congr 1;unfold jG;rw[QH,List.flatMap_nil,QN,aA,<-cu.o,ZW];by_cases e:E x.xs kl 0=1073741824
    .rw[Qu e,QD e];simp
    .rw[QC e,QX e,Zm];unfold Cs;have:(us.filter ((λb=>decide (bN b kr=E x.xs kl 0) && !false) ∘ ae.xs))=us.filter λy=>decide (bN y.xs kr=E x.xs kl 0):=by congr 1;funext y;simp
     rw[this];rfl
   have dL:Wl (jG kl kr ((f++[x]).map ah.key) R <+: jG kl kr L R):=acu ag;have Y9:=aj.own (E x.xs kl 0);have bM:∀X,Kept (λb=>¬u b) P.drew X->(Instr.lookup 222 (.map (O (M (H W)+1))) (I J (E x.xs kl 0)) false).run V X=.ok (if E x.xs kl 0=1073741824 then Z E5 0 0 else val (E x.xs kl 0)) X:=λX hX=>
    (aj.keep hX (λb d=>ak b (aJ.o b d).2.2 (aJ.o b d).1)).look (t:=222) (e:=30) Tryz.underlying3 Tryz.underlying222 (Tryz.zeroValue30 _) aB
   obtain⟨tw,cz⟩:∃tw,(if E x.xs kl 0=1073741824 then [] else Cs kr us (E x.xs kl 0))=tw:=⟨_,rfl⟩;simp only[cz]at Y9;rw[cz]at aa hsl au;have dM:∀y∈us,ah.At y P.drew:=λy hy=>ah.keep (fe.o y hy) aC.size (λb d k=>aC.block b d (bY.o y hy b k).1);obtain⟨va,vc,cK,fB,Pd⟩:=ajd Y9 hsl (λy hy=>dM y (aa y hy));rw[cK]at bM Pd;have dN:∀a,va=O a->¬u a.block:=λa ha=>by have C:gU (M (H W)+1) (λκ=>if κ=1073741824 then Z E5 0 0 else val κ) a.block:=.inr ⟨E x.xs kl 0,by simp only[cK];exact Pd a ha⟩;exact ak _ (aJ.o _ C).2.2 (aJ.o _ C).1
   have dO:=HJ.o _ _ _ _ hj (ZA ((Qr (M (H P)) P).drew) (λb d _=>d));have dP:=GY l (M (H W)) Jq (jG kl kr L R) (M (H w0)) x va vc tw zs u P.drew HJ.o HY.o (by show M (H W)<=M (H P);omega) dO (by rw[<-au];exact dL.o) (ah.keep z (Qs _) (λb d _=>rfl)) (λb d=>(ai b d).1) dH fB dN
    (λi hi a ha=>by
     have C:=bY.o _ (aa _ (nM hi)) a.block (by show Option.map _ _=_;rw[ha];rfl);exact ak _ C.2 C.1)
    (λi hi=>ed.o _ (by rw[<-cu.o];exact Zi.2 ⟨_,aa _ (nM hi),rfl⟩))
    (λb h=>by
     show b<M (H P);rcases hg b h with h|h
     .have:=(HO.o b h).2;omega
     .exact h.2)
   have aM:Wl (∀(ay:List ae) (o2:Nat->Prop) (W4:U) (a4:Act),ay.map ah.key=tw.map (λr=>x.xs++r.xs)->Jq (zs++ay) o2 W4->Kept (λb=>¬u b) P.drew W4->(∀b,o2 b->u b∨(M (H P.drew)<=b/\b<M (H W4)))->
     iy ah (λf u W'=>∃zs,zs.map ah.key=jG kl kr (f.map ah.key) R/\Jq zs u W'/\Kept (λb=>¬o b) w5 W'/\∀b,u b->o b∨(M (H w5)<=b/\b<M (H W'))) f x (M (H w5)) u P .normal a4 W4):=λay o2 W4 a4 bI Nn aK bn=>by
    have fQ:M (H P)<=M (H W4):=aK.size;have bO:∀b,o2 b->u b∨(M (H P)<=b/\b<M (H W4)):=bn;have bP:=(ZA ((Qr (M (H P)) P).drew) (λb d _=>d)).trans aK;refine⟨o2,⟨zs++ay,by rw[au,Ql,bI],Nn,hk.trans' bP (λb d h h'=>ak b d h h'),λb d=>?_⟩,bP,λb d=>(bO b d).imp id .inl⟩;rcases bO b d with h|h
    .exact(hg b h).imp id (λh=>⟨h.1,by omega⟩)
    .exact .inr ⟨by omega,h.2⟩
   have aR:Wl (¬u (M (H W)+2)/\¬u Pe/\¬u xb/\¬u (M (H W))):=⟨ak _ (by omega) (O6 _ (by omega)),ak _ (by have:=zh.o.2.2.1;omega) (bL _ zh.o.2.2.1),dK,ak _ (by omega) (O6 _ (Qs _))⟩;have dQ:=Zh bM;have F8:Wl _:=dP;obtain⟨fO,bF,gM⟩:=x;unfold ae.val at*;simp only at*;subst aI;generalize E gM kl 0=X at*;gi_upto_region 8 with fail;refine wO (S:=λx=>Kept (λb=>¬u b) P.drew x) (by kernel_rfl) (by kernel_rfl) (λ⟨_,_,h⟩=>h) ?_;have m:Kept (λb=>¬u b) P.drew P.drew:=Zx _ _;refine wt 0 (Z (O (aD xb xo)) (N gM) bF) m ?_;refine wT 1 (.map (O (M (H W)+1))) m (λx z=>?_) ?_
   .have q1:=ZY aN z aR.o.1;go_simp
   refine wt 2 (Z (O (aD xb xo)) (N gM) bF) m ?_;refine wT 3 (I J kl) m (λx z=>?_) ?_
   .have q1:=ZY dI z aR.o.2.1;go_simp
   refine wt 4 (Y (O (aD xb (xo+kl)))) m ?_;refine wT 5 (I J X) m (λx z=>?_) ?_
   .have q1:=ZY aO z aR.o.2.2.1;go_simp
   refine wT 6 (Z va (N tw) vc) m (λx z=>?_) ?_
   .have q1:=dQ.o x z;go_simp
   refine wT 7 (.func (.yield l) #[] #[]) m (λx z=>?_) ?_
   .have q1:=ZY dJ z aR.o.2.2.2;go_simp
   refine wR 8 λK Q=>?_;go_simp;refine XO F8.o ?_;rintro e W4 ⟨rfl,ay,o2,fC,Nn,aK,bn⟩;refine Q.o _ _ aK λm=>?_;refine wt 9 (.bool false) m ?_;refine wD ?_;try simp only[Act.put,QG,Qc,Qb]
   gi_wp2;exact aM.o ay o2 W4 _ fC Nn aK bn
  case done=>
   rintro fZ o2 W6 gm ⟨zs,hz,hj,hk,hg⟩ vZ fD fE;have h5:=aQ.o;have h3:=DY.o;gi_wp2;have dR:¬o2 (M (H w5)):=λh=>by
    rcases fD _ h with h|h
    .have:=(HO.o _ h).2;omega
    .omega
   have Ae:¬o (M (H w3)):=λh=>by have:=(HO.o _ h).2;omega
   have dS:¬o2 (M (H w3)):=λh=>by grind
   have bQ:=(hk.block _ h5 Ae).trans bZ.o;have xn:Kept (λb=>b≠M (H w5)) W6 (W6.putObj (M (H w5)) (.deferred E5)):=ZB _ _ (λh=>h rfl);have dU:=(ZH.1 bQ).1;have dV:=(xn.block _ dU (by omega)).trans bQ;have dX:Kept (λb=>b≠M (H w3)) (W6.putObj (M (H w5)) (.deferred E5)) ((W6.putObj (M (H w5)) (.deferred E5)).putObj (M (H w3)) (.deferred E5)):=ZB _ _ (λh=>h rfl);have bR:Kept (λb=>b≠M (H w5)/\b≠M (H w3)) W6 ((W6.putObj (M (H w5)) (.deferred E5)).putObj (M (H w3)) (.deferred E5)):=(xn.mono λ_ _ h=>h.1).trans (dX.mono λ_ _ h=>h.2);refine⟨by simp,.inl ⟨_,_,rfl,Z5 fE,?_⟩⟩;refine⟨by simp,.inl ⟨_,_,rfl,Z5 dV,?_⟩⟩;refine⟨_,Xa rfl _ _ _,⟨_,rfl⟩,zs,o2,?_,HJ.o _ _ _ _ hj (bR.mono λb _ h=>?_),(fw.o.trans' hk (λb _ h=>h)).trans' bR (λb d _=>by omega),λb h=>(hg b h).imp id (λh=>⟨by omega,by rw[Xb,Xb];omega⟩)⟩
   .grind
   .rcases h with h|h
    .exact⟨λe=>dR (e ▸ h),λe=>dS (e ▸ h)⟩
    .omega
end
def af6(gl gr:Nat)(qp ql:Array KX)(kl kr:Nat)(L R:List (List Int))(w:U)(hR:N R<=1000000)(PX:∀a∈L,N a<=1000)(hRl:∀a∈R,N a<=1000)(hLk:∀a∈L,kl<N a)(hRk:∀a∈R,kr<N a) :
  Calls V 166 #[.func (.func gl) #[] qp,.func (.func gr) #[] ql,I J kl,I J kr] w λe l=>∃v,e=FR v/\Bw w l/\∀W,Nw w l W->eT ah V (.func (.func gl) #[] qp) L W->eT ah V (.func (.func gr) #[] ql) R W->eT ah V v (gH kl kr L R) W:=by
 obtain⟨n,b,i,j⟩:=afW w #[.func (.func gl) #[] qp] #[.func (.func gr) #[] ql] #[I J kl] #[I J kr] 70 70 3 3;have m:Wl (∀W,Nw w n W->eT ah V (.func (.func gl) #[] qp) L W->eT ah V (.func (.func gr) #[] ql) R W->eT ah V (.func (.func 183) #[] #[Y (O (aD (M (H w)+1) 0)),Y (O (aD (M (H w)) 0)),Y (O (aD (M (H w)+2) 0)),Y (O (aD (M (H w)+3) 0))]) (gH kl kr L R) W):=λW K P Q=>by obtain⟨_,_,p,d,f⟩:=P;obtain⟨_,_,q,g,r⟩:=Q;cases p;cases q;obtain⟨⟨t,u⟩,⟨y,z⟩,⟨A,B⟩,C,D⟩:=j W K;exact⟨_,_,rfl,X9 Tryz.func183 (by kernel_rfl) rfl,acj (M (H w)+1) (M (H w)) (M (H w)+2) (M (H w)+3) gr gl kl kr ql qp L R _ y t A C z u B D r f g d hR PX hRl hLk hRk⟩
 obtain⟨G,k⟩:=aV i b;clear i j hR PX hRl hLk hRk b;go_enter Tryz.func166,Tryz.ntmps166;go_wp2;go_ret;refine⟨_,rfl,?_,?_⟩
 .have h:=G.o;rw[k.o]at h;exact h
 .have h:=m.o;rw[k.o]at h;exact h
def ajh(gl gr:Nat)(qp ql:Array KX)(kl kr:Nat)(L R:List (List Int))(w:U)(hR:N R<=1000000)(PX:∀a∈L,N a<=1000)(hRl:∀a∈R,N a<=1000)(hLk:∀a∈L,kl<N a)(hRk:∀a∈R,kr<N a)(hLs:∀a∈L,∀v∈a,dW v)(hRs:∀a∈R,∀v∈a,dW v) :
  Calls V 165 #[.func (.func gl) #[] qp,.func (.func gr) #[] ql,I J kl,I J kr] w λe l=>∃v,e=FR v/\Bw w l/\∀W,Nw w l W->eT ah V (.func (.func gl) #[] qp) L W->eT ah V (.func (.func gr) #[] ql) R W->eT ah V v (jG kl kr L R) W:=by
 obtain⟨n,b,i,j⟩:=afW w #[.func (.func gl) #[] qp] #[.func (.func gr) #[] ql] #[I J kl] #[I J kr] 70 70 3 3;have m:Wl (∀W,Nw w n W->eT ah V (.func (.func gl) #[] qp) L W->eT ah V (.func (.func gr) #[] ql) R W->eT ah V (.func (.func 182) #[] #[Y (O (aD (M (H w)+1) 0)),Y (O (aD (M (H w)+3) 0)),Y (O (aD (M (H w)) 0)),Y (O (aD (M (H w)+2) 0))]) (jG kl kr L R) W):=λW K P Q=>by obtain⟨_,_,p,d,f⟩:=P;obtain⟨_,_,q,g,r⟩:=Q;cases p;cases q;obtain⟨⟨t,u⟩,⟨y,z⟩,⟨A,B⟩,C,D⟩:=j W K;exact⟨_,_,rfl,X9 Tryz.func182 (by kernel_rfl) rfl,af8 (M (H w)+1) (M (H w)) (M (H w)+2) (M (H w)+3) gr gl kl kr ql qp L R _ y t A C z u B D r f g d hR PX hRl hLk hRk hLs hRs⟩
 obtain⟨G,k⟩:=aV i b;clear i j hR PX hRl hLk hRk hLs hRs b;go_enter Tryz.func165,Tryz.ntmps165;go_wp2;go_ret;refine⟨_,rfl,?_,?_⟩
 .have h:=G.o;rw[k.o]at h;exact h
 .have h:=m.o;rw[k.o]at h;exact h
def jH(f:bq)(ts:List ag)(q:af)(a b c:KX):Array Value:=f.cells ts q ++ #[a,b,c]
def su(kind:Int)(i j:Nat)(L R:List (List Int)):List (List Int):=if kind=3 then jh L R else if kind=4 then jG i j L R else gH i j L R
structure Mt(c:List Int)(R:List (List Int)):Prop where
 few:N R<=1000000
 wide:N c<=1000
 lens:∀r∈R,N r=N c
 small:∀r∈R,∀v∈r,dW v
theorem Su(f:bq)(ts:List ag)(q:af)(ok:Ok ts q)(va vd:KX)(pa:Option Addr)(pc:Nat)(ps:List aK)(n:ai)(li ri:Nat)(gl gr:Nat)(qp ql:Array KX)(cl cr:ae)(L R:List (List Int))(w:U)(hf:f.At ts q w)(hp:bP w pa ps)(hn:n.cl.At w)(el:n.l=li)(hll:li<N ps)(er:n.r=ri)(hrl:ri<N ps)
  (hcl:cl.At w) (hcr:cr.At w) (hk3:3<=n.kind) (hk5:n.kind<=5) (K1 K2:Int) (hkey:n.kind≠3->∃b,nR ts q n (E ps li bz).sources (E ps ri bz).sources=(K1,K2,b)/\K1∈cl.xs/\K2∈cr.xs) (hL:Mt cl.xs L) (hR:Mt cr.xs R) :
  Calls V 121 #[FN (jH f ts q va (Z pa (N ps) pc) vd),FN n.cells,FN #[.func (.func gl) #[] qp,cl.val],FN #[.func (.func gr) #[] ql,cr.val]] w λe m=>∃v,e=FR v/\Bw w m/\∀W,Nw w m W->eT ah V (.func (.func gl) #[] qp) L W->eT ah V (.func (.func gr) #[] ql) R W->eT ah V v (su n.kind (cl.xs.idxOf K1) (cr.xs.idxOf K2) L R) W:=by
 obtain⟨v0,v1,v2,v3,v4,v5,v6,v7,v8,v9,B,C,D,dY,-⟩:=Jf f ts q;have uE:jH f ts q va (Z pa (N ps) pc) vd=#[v0,v1,v2,v3,v4,v5,v6,v7,v8,v9,B,C,D,va,Z pa (N ps) pc,vd]:=by unfold jH;rw[dY];rfl
 have nT:n.cells=#[I J n.kind,I J n.l,I J n.r,I J n.source,n.cl.val,I J n.key,n.co.val]:=rfl;rw[uE,nT,el,er];obtain⟨w1,aO,ax,G⟩:=aX w #[v0,v1,v2,v3,v4,v5,v6,v7,v8,v9,B,C,D,va,Z pa (N ps) pc,vd] 98;obtain⟨w2,aP,ay,K⟩:=aX w1 #[I J n.kind,I J li,I J ri,I J n.source,n.cl.val,I J n.key,n.co.val] 50;obtain⟨w3,aQ,az,P⟩:=aX w2 #[.func (.func gl) #[] qp,cl.val] 129;obtain⟨w4,aR,Q,aA⟩:=aX w3 #[.func (.func gr) #[] ql,cr.val] 129;have y:=aj az Q;have z:=aj ay y;have k:=aj ax z;have fG:=G.of (z.block _ G.lt);have jA:=K.of (y.block _ K.lt);have aa:=P.of (Q.block _ P.lt);obtain⟨dM,dX,dQ,dR,eu,eU,eH,gq,gm,gp,bY,dw,bZ⟩:=fG.zR;have oL:=fG.at 14;obtain⟨jr,jO,jP,kM,jQ,mf,mh⟩:=jA.k7;obtain⟨aB,Sl⟩:=aa.k2;obtain⟨aC,Sm⟩:=aA.k2;have X:=Zh k;have Cu:Wl (∀x,Bw w x->n.kind=3->Calls V 164 #[.func (.func gl) #[] qp,.func (.func gr) #[] ql] x λe m=>∃v,e=FR v/\Bw x m/\∀W,Nw x m W->eT ah V (.func (.func gl) #[] qp) L W->eT ah V (.func (.func gr) #[] ql) R W->eT ah V v (su n.kind (cl.xs.idxOf K1) (cr.xs.idxOf K2) L R) W):=λx j e=>by unfold su;rw[Qu e];exact ai6 gl gr qp ql L R x hR.few (λa i=>by rw[hL.lens a i];exact hL.wide) (λa i=>by rw[hR.lens a i];exact hR.wide)
 have aM:Wl (∀x,Bw w x->n.kind=4->Calls V 165 #[.func (.func gl) #[] qp,.func (.func gr) #[] ql,I J (bI cl.xs K1),I J (bI cr.xs K2)] x λe m=>∃v,e=FR v/\Bw x m/\∀W,Nw x m W->eT ah V (.func (.func gl) #[] qp) L W->eT ah V (.func (.func gr) #[] ql) R W->eT ah V v (su n.kind (cl.xs.idxOf K1) (cr.xs.idxOf K2) L R) W):=λx j e=>by unfold su;rw[QC (by omega),Qu e];obtain⟨_,_,p,A⟩:=hkey (by omega);have p:=XW.2 p;have A:=XW.2 A;exact ajh gl gr qp ql _ _ L R x hR.few (λa i=>by rw[hL.lens a i];exact hL.wide) (λa i=>by rw[hR.lens a i];exact hR.wide) (λa i=>by rw[hL.lens a i];exact p) (λa i=>by rw[hR.lens a i];exact A) hL.small hR.small
 have aN:Wl (∀x,Bw w x->n.kind=5->Calls V 166 #[.func (.func gl) #[] qp,.func (.func gr) #[] ql,I J (bI cl.xs K1),I J (bI cr.xs K2)] x λe m=>∃v,e=FR v/\Bw x m/\∀W,Nw x m W->eT ah V (.func (.func gl) #[] qp) L W->eT ah V (.func (.func gr) #[] ql) R W->eT ah V v (su n.kind (cl.xs.idxOf K1) (cr.xs.idxOf K2) L R) W):=λx j e=>by unfold su;rw[QC (by omega),QC (by omega)];obtain⟨_,_,p,A⟩:=hkey (by omega);have p:=XW.2 p;have A:=XW.2 A;exact af6 gl gr qp ql _ _ L R x hR.few (λa i=>by rw[hL.lens a i];exact hL.wide) (λa i=>by rw[hR.lens a i];exact hR.wide) (λa i=>by rw[hL.lens a i];exact p) (λa i=>by rw[hR.lens a i];exact A)
 obtain⟨⟨pb,po,rfl,c0,c1,c2,c3,c4,c5⟩,aD⟩:=(hp.below k).2 li hll;obtain⟨⟨aZ,bf,e',d0,d1,d2,d3,d4,d5⟩,aF⟩:=(hp.below k).2 ri hrl;cases e';have Bt:Wl (n.kind≠3->∀x,Bw w4 x->Calls V 125 #[FN #[.func (.func gl) #[] qp,cl.val],I J K1] x λe m=>e=FR (I J (bI cl.xs K1))/\Bw x m):=λh x j=>zq _ cl K1 x ⟨gl,qp,rfl⟩ (Qt (aj k j) hcl) (by grind);have ak:Wl (n.kind≠3->∀x,Bw w4 x->Calls V 125 #[FN #[.func (.func gr) #[] ql,cr.val],I J K2] x λe m=>e=FR (I J (bI cr.xs K2))/\Bw x m):=λh x j=>zq _ cr K2 x ⟨gr,ql,rfl⟩ (Qt (aj k j) hcr) (by grind);have au:Wl (n.kind≠3->∃b,∀x,Bw w4 x->Cb 101 #[FN #[v0,v1,v2,v3,v4,v5,v6,v7,v8,v9,B,C,D],FN #[I J n.kind,I J li,I J ri,I J n.source,n.cl.val,I J n.key,n.co.val],FN (E ps li bz).cells,FN (E ps ri bz).cells] x (.tuple #[I J K1,I J K2,.bool b])):=λh=>by obtain⟨b,p,_⟩:=hkey h;refine⟨b,λx j=>?_⟩;have:=sj f ts q n (E ps li bz) (E ps ri bz) x ok (hf.below (aj k j)) (Qt (aj k j) hn) aD.sources aF.sources;grind
 have aW:=hp.1;have Uy:(li:Int)<(N ps:Int):=by omega
 have aY:(ri:Int)<(N ps:Int):=by omega
 clear hf hp hn hcl hcr hkey hL hR dY nT uE ok G K P aA fG jA aa ax ay az Q k z y aD aF el er;generalize su n.kind (cl.xs.idxOf K1) (cr.xs.idxOf K2) L R=RS at*;generalize bI cl.xs K1=P1 at*;generalize bI cr.xs K2=P2 at*;generalize E ps li bz=PL at*;generalize E ps ri bz=PR at*;obtain⟨lk,ls,V7,lo,lz,bg⟩:=PL;obtain⟨rk,rs,bn,ro,rz,bu⟩:=PR;obtain⟨nk,nl,nr,ns,aS,key,aT⟩:=n;simp only[aK.cells]at*;generalize aS.val=NCL at*;generalize aT.val=NCO at*;generalize lo.val=LO at*;generalize ro.val=RO at*;generalize cl.val=CL at*;generalize cr.val=CR at*;by_cases h3:nk=3
 .subst h3;have d:=Cu.o w4 X.o rfl;go_enter Tryz.func121,Tryz.ntmps121;go_wp2_with fail;refine d.mono ?_;rintro e w5 ⟨v,rfl,g,u⟩;have HV:=Zh u;clear u;go_wp2;go_ret;exact⟨v,rfl,X.o.trans (g.mono X.o.size),λW hW=>HV.o W (hW.more X.o.size)⟩
 .obtain⟨kb,aG⟩:=au.o h3;obtain⟨Mk,aH,aI⟩:=fe aG (Bt.o h3) (ak.o h3);have Ae:(nk==3)=false:=by simpa using h3
  clear au Bt ak aG Cu;go_enter Tryz.func121,Tryz.ntmps121;go_upto_region 3 with fail;clear aO aP aQ aR;refine Qw ?_;refine aio ?_;refine qA5 ?_;go_big_quiet_want;refine⟨.tuple #[I J K1,I J K2,.bool kb],λx j=>?_,?_⟩
  .have hC:=Qx j (Mk.o x j);go_simp
  simp only[pU];go_big_quiet_on;refine qA6 ?_;refine lQ ?_;refine XH ?_;intro w5 g;have jS:=Zh g;obtain⟨aJ,aU⟩:=X4 (cB g aB) (cB g Sl);obtain⟨aL,aV⟩:=X4 (cB g aC) (cB g Sm);have av:=cB g jr;clear g c0 c1 c2 c3 c4 c5 d0 d1 d2 d3 d4 d5 dM dX dQ dR eu eU eH gq gm gp bY dw bZ oL jr jO jP kM jQ mf mh aB Sl aC Sm;go_upto_region 4 with fail;refine Qw ?_;refine Gw ?_;go_big_quiet_want;refine⟨I J P1,λx j=>?_,?_⟩
  .have hC:=Qx j (aH.o x (jS.o.trans (j.mono jS.o.size)));go_simp
  simp only[pU];go_big_quiet_on;refine Gw ?_;go_big_quiet_want;refine⟨I J P2,λx j=>?_,?_⟩
  .have hC:=Qx j (aI.o x (jS.o.trans (j.mono jS.o.size)));go_simp
  simp only[pU];go_big_quiet_on;refine Gw ?_;refine XH ?_;intro w6 S;have t:=Zh (X.o.trans ((jS.o.trans (S.mono jS.o.size)).mono X.o.size));obtain⟨bA,bB,bC⟩:=J3 S aJ aL av;clear S aJ aU aL aV av aH aI Mk;rcases (show nk=4∨nk=5 by omega) with rfl|rfl
  .have d:=aM.o w6 t.o rfl;go_wp2_with fail;refine d.mono ?_;rintro e w7 ⟨v,rfl,nW,u⟩;have HV:=Zh u;clear u;go_wp2;go_ret;exact⟨v,rfl,t.o.trans (nW.mono t.o.size),λW hW=>HV.o W (hW.more t.o.size)⟩
  .have d:=aN.o w6 t.o rfl;go_wp2_with fail;refine d.mono ?_;rintro e w7 ⟨v,rfl,nW,u⟩;have HV:=Zh u;clear u;go_wp2;go_ret;exact⟨v,rfl,t.o.trans (nW.mono t.o.size),λW hW=>HV.o W (hW.more t.o.size)⟩
def wtk{ops:Array Oper}{Q:Exit->Act->World->Prop}{md:Region.Mode}{fuel:Nat}{listed:Array Bool}{oi:Oper}{o:Nat}{u:Value}(i:Nat)(v:Value)(hS:Kept (λb=>b≠R) W w)(c:W.cell? (aD b o)=some u)(hb:b≠R)(h:wpAnyH P md ops Q (λx=>Kept (λb=>b≠R) W x) fuel (listed.setIfInBounds i true) (a.put oi.dst v) w)(hi:ops[i]? = some oi:=by exact rfl)(hs:Region.noSelect ops=true:=by kernel_rfl)(hf:Region.free md ops listed i=true:=by kernel_rfl)(hr:(Region.ready md ops listed).contains i=true:=by kernel_rfl)(hQ:∀c a w,Q (.panic c) (a.put oi.dst v) w->Q (.panic c) a w:=by exact λ_ _ _ h=>h)(hg:Region.wanted oi (yielded ops a.tmps)=true:=by rfl)(hy:∀x,x.cell? (aD b o)=some u->(execOp a.eval oi).run P x=.ok (.value v) x:=by intro x d;go_simp):wpAnyH P md ops Q (λx=>Kept (λb=>b≠R) W x) (fuel+1) listed a w:=
 Qa hi hs hf hr hQ (.inl ⟨hg,λx d=>hy x (ZY c d hb)⟩) hS h
def oK{X K':Act->U->Prop}(hK:Shut (∀a w,Kept (λb=>b≠R) W w->(Kept (λb=>b≠R) W w->X a w)->K' a w)){w':U}(hS:Kept (λb=>b≠R) W w)(hb:Bw w w')(h:Kept (λb=>b≠R) W w'->X a w'):K' a w':=hK.o _ _ (hS.trans (ZA hb λ_ hb _=>hb)) h
def anb(hx:Kept (λb=>b≠R) w x)(hb:b≠R){v0 v1 v2 v3 v4 v5 v6 v7 v8 v9 v10 v11 v12:KX}(a0:Am w (aD b 0)=O v0)(a1:Am w (aD b 1)=O v1)(a2:Am w (aD b 2)=O v2)(a3:Am w (aD b 3)=O v3)(a4:Am w (aD b 4)=O v4)(a5:Am w (aD b 5)=O v5)(a6:Am w (aD b 6)=O v6)(a7:Am w (aD b 7)=O v7)(a8:Am w (aD b 8)=O v8)(a9:Am w (aD b 9)=O v9)(Gp:Am w (aD b 10)=O v10)(O5:Am w (aD b 11)=O v11)(a12:Am w (aD b 12)=O v12) :
  Am x (aD b 0)=O v0/\Am x (aD b 1)=O v1/\Am x (aD b 2)=O v2/\Am x (aD b 3)=O v3/\Am x (aD b 4)=O v4/\Am x (aD b 5)=O v5/\Am x (aD b 6)=O v6/\Am x (aD b 7)=O v7/\Am x (aD b 8)=O v8/\Am x (aD b 9)=O v9/\Am x (aD b 10)=O v10/\Am x (aD b 11)=O v11/\Am x (aD b 12)=O v12:=
 ⟨ZY a0 hx hb,ZY a1 hx hb,ZY a2 hx hb,ZY a3 hx hb,ZY a4 hx hb,ZY a5 hx hb,ZY a6 hx hb,ZY a7 hx hb,ZY a8 hx hb,ZY a9 hx hb,ZY Gp hx hb,ZY O5 hx hb,ZY a12 hx hb⟩
def D5(P:Program)(w0:U)(X:List (List Int) × List Int)(w:U)(g:Nat)(lb:Array KX)(c:ae)(w':U):Prop:=
 Bw w w'/\c.xs=X.2/\∀W,Bw w0 W->Nw w w' W->eT ah P (.func (.func g) #[] lb) X.1 W/\ah.At c W
def qA(P:Program)(w0:U)(X:List (List Int) × List Int)(w:U)(e:Ending)(w':U):Prop:=
 ∃(g:Nat) (lb:Array KX) (c:ae),e=FR (FN #[.func (.func g) #[] lb,c.val])/\D5 P w0 X w g lb c w'
def Nw.back{z:U}(h:Nw x z W)(hb:Bw y z):Nw x y W:=(ZA hb λ_ hb _=>hb).trans h
def jT{t:TypeId}{w0:U}{g:Nat}{lb:Array KX}{c:ae}{X:List (List Int) × List Int}(hb:Bw w y)(hR:M (H w)<=R)(gr:GB y R t #[Value.nilFunc,Z E5 0 0])(hc:c.xs=X.2)(hall:∀W,Bw w0 W->Kept (λb=>M (H w)<=b/\b≠R) y W->eT ah P (.func (.func g) #[] lb) X.1 W/\ah.At c W) :
  Kept (λb=>b≠R) y (qw (qw y (aD R 0) (.func (.func g) #[] lb)) (aD R 1) c.val)/\GB (qw (qw y (aD R 0) (.func (.func g) #[] lb)) (aD R 1) c.val) R t #[.func (.func g) #[] lb,c.val]/\D5 P w0 X w g lb c (qw (qw y (aD R 0) (.func (.func g) #[] lb)) (aD R 1) c.val):=by have a:Kept (λb=>b≠R) y (qw (qw y (aD R 0) (.func (.func g) #[] lb)) (aD R 1) c.val):=(Xc _ _ _ (λh=>h rfl)).trans (Xc _ _ _ (λh=>h rfl));refine⟨a,(gr.set 0 _).set 1 _,hb.trans (a.below hb.size (λb hb=>by show b≠R;omega)),hc,λW d e=>hall W d ?_⟩;exact(a.mono λb _ h=>h.2).trans (e.mono λb _ h=>h.1)
def acx(f:bq)(ts:List ag)(q:af)(va vp:KX)(d:Option Addr)(dc:Nat)(db:List aJ)(n:ai)(s t:Nat)(w0 w:U)(hw:Bw w0 w)(hf:f.At ts q w0)(hd:Ch w0 d db)(hk:n.kind=1)(es:n.source=s)(hs:s<N q.src.xs)(et:E q.src.xs s 0=t)(ht:t<N db) :
  Calls V 60 #[FN (jH f ts q va vp (Z d (N db) dc)),FN n.cells] w (qA V w0 (vQ db (t:Int),iE ts q.src.xs (s:Int)) w):=by
 obtain⟨v0,v1,v2,v3,v4,v5,v6,v7,v8,v9,u,y,z,dY,aB,-⟩:=Jf f ts q;obtain⟨sb,so,aC,aF⟩:=Qg (hf.query.src) hs;obtain rfl:v0=Z (O (aD sb so)) (N q.src.xs) q.src.cap:=by rw[aB];unfold ae.val;rw[aC]
 obtain⟨⟨bz,aG,-⟩,-⟩:=id hd;obtain⟨cO,k,aR,av⟩:=Qf aG ht;subst aR;have uE:jH f ts q va vp (Z (O (aD cO k)) (N db) dc)=#[Z (O (aD sb so)) (N q.src.xs) q.src.cap,v1,v2,v3,v4,v5,v6,v7,v8,v9,u,y,z,va,vp,Z (O (aD cO k)) (N db) dc]:=by unfold jH;rw[dY];rfl
 have nT:n.cells=#[I J n.kind,I J n.l,I J n.r,I J n.source,n.cl.val,I J n.key,n.co.val]:=rfl;rw[uE,nT,hk,es];obtain⟨w1,aS,A,B⟩:=aX w #[Z (O (aD sb so)) (N q.src.xs) q.src.cap,v1,v2,v3,v4,v5,v6,v7,v8,v9,u,y,z,va,vp,Z (O (aD cO k)) (N db) dc] 98;obtain⟨w2,aU,m,C⟩:=aX w1 #[I J 1,I J n.l,I J n.r,I J (s:Int),n.cl.val,I J n.key,n.co.val] 50;obtain⟨w3,aW,ax,aH⟩:=aX w2 #[Value.nilFunc,Z E5 0 0] 129;have aa:=aj m ax;have ak:=aj A aa;have fG:=B.of (aa.block _ B.lt);have jA:=C.of (ax.block _ C.lt);obtain⟨dM,dX,dQ,dR,eu,eU,eH,gq,gm,gp,bY,dw,bZ⟩:=fG.zR;have oM:=fG.at 15;obtain⟨jr,-,-,kM,-⟩:=jA.k7;have D:M (H w)≠M (H w2):=by have:=B.lt;have:=m.size;omega
 have G:M (H w1)≠M (H w2):=by have:=C.lt;omega
 have au:=aj hw ak;obtain⟨k1,k2⟩:=gy au (aF s hs) (av t ht);rw[et]at k1;have aA:cO≠M (H w2):=by have h1:=Qj (av t ht);have h2:=hw.size;have h3:=A.size;have h4:=m.size;omega
 have hR:(E db t rz).rs.map (·.xs)=vQ db (t:Int):=rfl;have Y8:Wl (∀x,Calls V 117 #[(E db t rz).val] x λe w'=>∃v,e=FR v/\Bw x w'/\∀W,Nw x w' W->bL W (E db t rz).ad (E db t rz).rs->eT ah V v ((E db t rz).rs.map (·.xs)) W):=λx=>ai5 (E db t rz) x;have pE:Wl (∀x,Bw w0 x->Calls V 118 #[FN #[Z (O (aD sb so)) (N q.src.xs) q.src.cap,v1,v2,v3,v4,v5,v6,v7,v8,v9,u,y,z],I J (s:Int)] x λe w'=>∃iv:ae,e=FR iv.val/\iv.xs=iE ts q.src.xs (s:Int)/\ah.At iv w'/\Bw x w'/\∀b,ah.aT iv=O b->M (H x)<=b):=λx hx=>by have h:=Ke f ts q (s:Int) x (hf.below hx);rw[dY]at h;exact h
 rw[hR]at Y8;obtain⟨aI,aK,Oe,Ig,aL,aY,aZ⟩:=Dn hd au ak aH D G aA;obtain⟨HT,HZ⟩:=aV ht (Q6 A.size m.size);have bn:(s:Int)<(N q.src.xs:Int):=by omega
 have bg:(t:Int)<(N db:Int):=by omega
 clear aB aC hf hd hw aF av aG A m ax B C aH fG jA ak aa au D G aA hR dY uE nT es et hk;generalize (E db t rz).val=TV at*;generalize vQ db (t:Int)=TR at*;generalize iE ts q.src.xs (s:Int)=CO at*;generalize n.cl.val=NCL at*;generalize n.co.val=NCO at*;go_enter Tryz.func60,Tryz.ntmps60;go_upto_region 3 with fail;clear aS aU aW;refine QW (S:=λx=>Kept (λb=>b≠M (H w2)) w3 x) (by kernel_rfl) ((ZA (Qr _ _) λ_ h _=>h).trans (ZA ((Qr _ _).drew) λ_ h _=>h)) (λi=>?_);refine wt 0 (Y (O (aD (M (H w)) 15))) i ?_;refine wtk 1 (Z (O (aD cO k)) (N db) dc) i oM aL.o ?_;refine wt 2 (I J (t:Int)) i ?_;refine wt 3 (Y (O (aD cO (k+t)))) i ?_;refine wtk 4 TV i k2 aZ.o ?_;refine wt 6 (Y (O (aD (M (H w)) 0))) i ?_;refine wT 7 (FN #[Z (O (aD sb so)) (N q.src.xs) q.src.cap,v1,v2,v3,v4,v5,v6,v7,v8,v9,u,y,z]) i (λx hx=>?_) ?_
 .have e0:=anb hx aL.o dM dX dQ dR eu eU eH gq gm gp bY dw bZ;go_simp
 refine wt 8 (Y (O (aD (M (H w1)) 3))) i ?_;refine wtk 9 (I J (s:Int)) i kM aY.o ?_;refine wR 5 λK R=>?_;go_simp;refine(Y8.o _).mono ?_;rintro e w4 ⟨v,rfl,aM,ay⟩;refine oK R i aM λi=>?_;clear R K;refine wR 10 λK R=>?_;go_simp;have j:Bw w3 w4:=(Qr _ _).drew.trans aM;refine(pE.o _ (aj aK.o j)).mono ?_;rintro e w5 ⟨⟨ng,dK,gK⟩,rfl,aN,Md,az,aO⟩;simp only[ae.val];refine oK R i az λi=>?_;clear R K;have Gf:=aj j az;obtain⟨g,lb,rfl⟩:∃g lb,v=.func (.func g) #[] lb:=by obtain⟨g,lb,h,_⟩:=ay w4 (ZA (Qr _ _) λ_ h _=>h) ((aI.o.2 t HT.o).below (aj aK.o j));exact⟨g,lb,h⟩
 have aP:=Ig.o.lt;have aQ:=Oe.o.size;have L:∀W,Bw w0 W->Kept (λb=>M (H w)<=b/\b≠M (H w2)) w5 W->eT ah V (.func (.func g) #[] lb) TR W/\ah.At ⟨ng,dK,gK⟩ W:=λW h0 hW=>by
  refine⟨ay W (Nw.back (Kept.mono hW λb _ h=>?_) az) ((aI.o.2 t HT.o).below h0),ah.keep Md hW.size λb hb bf=>hW.block b hb ?_⟩
  .have h2:M (H w3)<=b:=Q6 (by simp) h;exact⟨by omega,by omega⟩
  .have h2:=aO b bf;have h3:=j.size;exact⟨by omega,by omega⟩
 obtain⟨kE,gE,Q⟩:=jT (P:=V) (w0:=w0) (w:=w) (g:=g) (lb:=lb) (X:=(TR,CO)) (aj Oe.o Gf) HZ.o (Ig.o.of (Gf.block _ Ig.o.lt)) aN L;have g5:=Ig.o.of (Gf.block _ Ig.o.lt);obtain⟨zL,mG⟩:=aV Q (yA gE);obtain⟨z0,z1⟩:=g5.k2;have y0:=g5.frozen 0;have y1:=g5.frozen 1;have bu:=λ(a:Addr) (c:Array KX) (w:U)=>run_store V w a (.func (.func g) #[] c) .plain rfl;clear Q gE g5 ay aN Md j Gf L aO aP aQ;refine wt 11 (FN #[.func (.func g) #[] lb,Z ng (N gK) dK]) i ?_;refine wR 12 λK R=>?_;go_simp;refine R.o _ _ (i.trans kE) (λi=>?_);clear R K;refine wD ?_;try simp only[pU]
 go_wp2_with fail;exact X0 (nK (p:=4) rfl rfl mG.o) rfl ⟨g,lb,⟨ng,dK,gK⟩,rfl,zL.o⟩
structure agn(wh:List az)(C:List Int)(rows:List (List Int))(nums:List Int):Prop where
 few:N nums<=64
 num:∀i∈nums,0<=i/\i<N wh
 iC:∀i∈nums,∀x∈aG (E wh i.toNat lz).cs,x∈C
 lens:∀r∈rows,N r=N C
def Kept.agp{w3:U}(h:Kept (λb=>M (H w)<=b/\b≠R) y W)(h1:M (H w)<=R)(h2:R<M (H w3)):Nw w3 y W:=Kept.mono h λb _ a=>⟨by omega,by omega⟩
def acA(f:bq)(ts:List ag)(q:af)(ok:Ok ts q)(po:Option Addr)(pc:Nat)(pl:List ai)(pa:Option Addr)(pac:Nat)(ps:List aK)(vd:KX)(n:ai)(li:Nat)(w0 w:U)(Nq:Int)(hw:Bw w0 w)(hf:f.At ts q w0)(hn:bT w0 po pl)(hp:bP w0 pa ps)(hps:N ps=N pl)(hcl:n.cl.At w0)(hco:n.co.At w0)(el:n.l=li)(hll:li<N pl)
  (h3:∀i,i<N q.wh->(E q.wh i lz).cs.length<=3) (hcond:∀i,i<N q.wh->∀d∈(E q.wh i lz).cs,dC d Nq=true) (XL X:List (List Int) × List Int)
  (hl:∀x,Bw w0 x->Calls V 60 #[FN (jH f ts q (Z po (N pl) pc) (Z pa (N ps) pac) vd),FN (E pl li nz).cells] x (qA V w0 XL x))
  (c2:n.kind=2->X=(XL.1.filter (jo q.wh XL.2 n.cl.xs),XL.2)/\agn q.wh XL.2 XL.1 n.cl.xs)
  (c6:n.kind=6->X=(fI (aO XL.2 n.co.xs) XL.1,XL.2)/\(∀x∈n.co.xs,x∈XL.2)/\0<N n.co.xs/\N n.co.xs<=1000/\Mt XL.2 XL.1)
  (hk:n.kind=2∨n.kind=6) :
  Calls V 60 #[FN (jH f ts q (Z po (N pl) pc) (Z pa (N ps) pac) vd),FN n.cells] w (qA V w0 X w):=by
 obtain⟨v0,v1,v2,v3,v4,v5,v6,v7,v8,v9,ay,az,aA,dY,-,bn,-⟩:=Jf f ts q;obtain⟨nb,no,bG,Sy,Sz,SC,SE,SF,SG,SH,-,-⟩:=hn.2 li hll;subst bG;have uE:jH f ts q (Z (O (aD nb no)) (N pl) pc) (Z pa (N ps) pac) vd=#[v0,v1,v2,v3,v4,v5,v6,v7,v8,v9,ay,az,aA,Z (O (aD nb no)) (N pl) pc,Z pa (N ps) pac,vd]:=by unfold jH;rw[dY];rfl
 have nT:n.cells=#[I J n.kind,I J n.l,I J n.r,I J n.source,n.cl.val,I J n.key,n.co.val]:=rfl;have V9:(E pl li nz).cells=#[I J (E pl li nz).kind,I J (E pl li nz).l,I J (E pl li nz).r,I J (E pl li nz).source,(E pl li nz).cl.val,I J (E pl li nz).key,(E pl li nz).co.val]:=rfl;rw[uE,V9]at hl;rw[uE,nT,el];obtain⟨w1,bH,aR,aB⟩:=aX w #[v0,v1,v2,v3,v4,v5,v6,v7,v8,v9,ay,az,aA,Z (O (aD nb no)) (N pl) pc,Z pa (N ps) pac,vd] 98;obtain⟨w2,bI,L,aC⟩:=aX w1 #[I J n.kind,I J (li:Int),I J n.r,I J n.source,n.cl.val,I J n.key,n.co.val] 50;obtain⟨B,bK,aS,aT⟩:=aX w2 #[Value.nilFunc,Z E5 0 0] 129;have aI:=aj L aS;have aJ:=aj aR aI;have av:=aj hw aJ;have fG:=aB.of (aI.block _ aB.lt);have jA:=aC.of (aS.block _ aC.lt);obtain⟨dM,dX,dQ,dR,eu,eU,eH,gq,gm,gp,bY,dw,bZ⟩:=fG.zR;have nN:=fG.at 13;have oL:=fG.at 14;have oM:=fG.at 15;obtain⟨jr,jO,jP,kM,jQ,mf,mh⟩:=jA.k7;obtain⟨Sy,Sz,SC,SE,SF⟩:=ji av Sy Sz SC SE SF;obtain⟨SG,SH⟩:=gy av SG SH;have cu:=hn.1;have cz:(li:Int)<(N pl:Int):=by omega
 obtain⟨HL,aF,Oe,Ig,bu,bz,HZ⟩:=Dn hl av aJ aT fG jA (show M (H w)<=M (H w2)/\M (H w)≠M (H w2)/\M (H w1)≠M (H w2)/\M (H w2)<M (H B) from ⟨Q6 aR.size L.size,by have:=aB.lt;have:=L.size;omega,by have:=aC.lt;omega,aT.lt⟩);obtain⟨HF,sO,pE,H3,bL,Mv⟩:=Dm hf hcl hco h3 hcond c2;obtain⟨aU,Bh⟩:=aV c6 (show #[v0,v1,v2,v3,v4,v5,v6,v7,v8,v9,ay,az,aA,Z (O (aD nb no)) (N pl) pc,Z pa (N ps) pac,vd][1]? = O (Z q.dx (N q.wh) q.aP) from congrArg O bn);clear hl aR L aS aB aC aT fG jA aJ aI av hn hp hcl hco hf hw h3 hcond c2 c6 dY uE nT V9 bn el ok hps;obtain⟨nk,nl,nr,ns,bM,key,bN⟩:=n;simp only at*;generalize (E pl li nz).kind=l0 at*;generalize (E pl li nz).l=l1 at*;generalize (E pl li nz).r=l2 at*;generalize (E pl li nz).source=l3 at*;generalize (E pl li nz).cl.val=l4 at*;generalize (E pl li nz).key=l5 at*;generalize (E pl li nz).co.val=l6 at*;obtain⟨Iy,Iz,qR⟩:=bM;obtain⟨D7,D8,rO⟩:=bN;simp only[ae.val]at*;have cK:(nk==1)=false:=by rcases hk with h|h <;> simp[h]
 go_enter Tryz.func60,Tryz.ntmps60;go_upto_region 4 with fail;go_cut [6] from 32 to 39 (λc wx=>∃(bl g:Nat) (lb:Array KX) (cv:ae),c=Y (O (aD bl 0))/\M (H B)<=bl/\GB wx bl 129 #[.func (.func g) #[] lb,cv.val]/\D5 V w0 XL B g lb cv wx)
 case first=>
  refine wH B λm=>?_;refine wA6 0 m ?_;refine Fz 6 m ?_;refine wJ 7 8 (λK t=>?_) λK t=>?_
  .skip;go_simp;refine(HL.o _ (aj aF.o m)).mono ?_;rintro e y ⟨g,lb,⟨ng,dK,gK⟩,rfl,aG,C,k⟩;simp only[ae.val];refine oT t m aG λm=>?_
   clear t K;refine wR 8 λK t=>?_;go_simp;refine oA t m λbE=>?_;clear t K;obtain⟨y2,D⟩:∃z,y.alloc (FL #[Value.nilFunc,Z E5 0 0] 129)=z:=⟨_,rfl⟩;have aW:=bJ y (FL #[Value.nilFunc,Z E5 0 0] 129);have IA:=GB.alloc y #[Value.nilFunc,Z E5 0 0] 129;rw[D]at aW IA bE;rw[D];clear D;have A:M (H B)<=M (H y):=m.size;have gn:GB y2 (M (H y)) 129 #[Value.nilFunc,Z E5 0 0]:=IA;have aL:=jT (P:=V) (w0:=w0) (w:=B) (y:=y2) (R:=M (H y)) (g:=g) (lb:=lb) (c:=⟨ng,dK,gK⟩) (X:=XL) bE A gn C (λW h0 hW=>k W h0 (Zy (ZA aW λ_ h _=>h) hW λb hb hs=>⟨hs,by show b≠_;omega⟩));obtain⟨kE,gE,j⟩:=aL;obtain⟨z0,z1⟩:=gn.k2;have y0:=gn.frozen 0;have y1:=gn.frozen 1;have aM:=λ(a:Addr) (c:Array KX) (w:U)=>run_store V w a (.func (.func g) #[] c) .plain rfl;obtain⟨zL,xC⟩:=aV j gE;clear j gE gn k C;refine wR 9 λK t=>?_;go_simp;refine t.o _ _ zL.o.1 (λm=>?_);refine wD ?_;try simp only[pU]
   go_wp2_with fail;go_meet;exact⟨M (H y),g,lb,⟨ng,dK,gK⟩,rfl,A,xC.o,zL.o⟩
  .skip;go_simp;refine oA t m λm=>?_
   obtain⟨y2,D⟩:∃z,B.drew.alloc (FL #[Value.nilFunc,Z E5 0 0] 129)=z:=⟨_,rfl⟩;have cO:M (H y2)=M (H B)+1:=by rw[<-D];simp
   have IA:GB y2 (M (H B)) 129 #[Value.nilFunc,Z E5 0 0]:=by rw[<-D];exact GB.alloc B.drew _ _
   have aY:Bw B y2:=by rw[<-D];exact m
   rw[D];refine wR 7 λK t=>?_;go_simp;refine(HL.o _ (aj aF.o aY)).mono ?_;rintro e y ⟨g,lb,⟨ng,dK,gK⟩,rfl,aG,C,k⟩;simp only[ae.val];refine oT t aY aG λm=>?_;clear t K;have A:M (H B)<=M (H B):=(Qs _);have gn:GB y (M (H B)) 129 #[Value.nilFunc,Z E5 0 0]:=IA.of (aG.block _ IA.lt);have aL:=jT (P:=V) (w0:=w0) (w:=B) (y:=y) (R:=M (H B)) (g:=g) (lb:=lb) (c:=⟨ng,dK,gK⟩) (X:=XL) m A gn C (λW h0 hW=>k W h0 (Kept.mono hW λb _ h=>⟨by omega,by have h':M (H y2)<=b:=h;omega⟩));obtain⟨kE,gE,j⟩:=aL;obtain⟨z0,z1⟩:=gn.k2;have y0:=gn.frozen 0;have y1:=gn.frozen 1;have aM:=λ(a:Addr) (c:Array KX) (w:U)=>run_store V w a (.func (.func g) #[] c) .plain rfl;obtain⟨zL,xC⟩:=aV j gE;clear j gE gn k C;refine wR 9 λK t=>?_;go_simp;refine t.o _ _ zL.o.1 (λm=>?_);clear t K;refine wD ?_;try simp only[pU]
   go_wp2_with fail;go_meet;exact⟨M (H B),g,lb,⟨ng,dK,gK⟩,rfl,A,xC.o,zL.o⟩
 case rest=>
 obtain⟨bl,g,lb,cv,rfl,A,bA,aa,C,k⟩:=hcut;obtain⟨w4,bO⟩:∃x,x=wc:=⟨_,rfl⟩;subst bO;clear bH bI bK Sy Sz SC SE SF SG SH dM dX dQ dR eu eU eH gq gm gp bY dw bZ nN oL oM jr jO jP kM jQ mf mh;have fG:=bu.o.of (aa.block _ bu.o.lt);have jA:=bz.o.of (aa.block _ bz.o.lt);obtain⟨dM,dX,dQ,dR,eu,eU,eH,gq,gm,gp,bY,dw,bZ⟩:=fG.zR;have nN:=fG.at 13;have oL:=fG.at 14;have oM:=fG.at 15;obtain⟨jr,jO,jP,kM,jQ,mf,mh⟩:=jA.k7;obtain⟨f0,f1⟩:=bA.k2;have sU:=Zh (aj aF.o aa);obtain⟨bB,Kq,Dg,wQ,Od⟩:=J5 (k w4 sU.o (Zx _ _)).2.1 k C aa A;obtain⟨Q,JZ,G⟩:=cv;simp only[ae.val]at*;clear fG jA bA k C aa A;rcases hk with hk|hk
 .have H2:=Zh (Mv.o hk);clear Mv aU;subst hk;have L:=Sd #[v0,v1,v2,v3,v4,v5,v6,v7,v8,v9,ay,az,aA,Z (O (aD nb no)) (N pl) pc,Z pa (N ps) pac,vd] q.dx q.aP q.wh Bh.o g lb ⟨Q,JZ,G⟩ ⟨Iy,Iz,qR⟩ XL.1 Nq w4 (HF.o.below sU.o).query.wh bB.o (Qt sU.o sO.o) H2.o.2.few H2.o.2.num (λi hi x hx=>by show x∈G;rw[Dg.o];exact H2.o.2.iC i hi x hx) H3.o bL.o (λr hr=>by show N r=N G;rw[Dg.o];exact H2.o.2.lens r hr);simp only[ae.val]at L;go_wp2_with fail;refine L.mono ?_;rintro e w5 ⟨g',u,rfl,ak,bQ⟩;have Gf:=aj wQ.o ak;obtain⟨eX,-⟩:=H2.o;have SQ:ae.xs ⟨Q,JZ,G⟩=X.2:=by rw[eX];exact Dg.o
  have xy:∀W,Bw w0 W->Kept (λb=>M (H w)<=b/\b≠M (H w2)) w5 W->eT ah V (.func (.func g') #[] u) X.1 W/\ah.At ⟨Q,JZ,G⟩ W:=λW h0 hW=>by have hz:=HZ.o;have ax:=wQ.o.size;have hN:=hW.agp hz.1 hz.2.2.2;have hA:=Kq.o W h0 (hN.back ak);refine⟨?_,hA.2⟩;have:=bQ W (hN.more ax) hA.1;rw[eX];rw[show jo q.wh XL.2 qR=jo q.wh G qR by rw[Dg.o]];exact this
  have g5:=Ig.o.of (Gf.block _ Ig.o.lt);obtain⟨kE,gE,j⟩:=jT (P:=V) (w0:=w0) (w:=w) (y:=w5) (g:=g') (lb:=u) (c:=⟨Q,JZ,G⟩) (X:=X) (aj Oe.o Gf) HZ.o.1 g5 SQ xy;obtain⟨zL,mG⟩:=aV j (yA gE);obtain⟨z0,z1⟩:=g5.k2;have y0:=g5.frozen 0;have y1:=g5.frozen 1;have aM:=λ(a:Addr) (c:Array KX) (w:U)=>run_store V w a (.func (.func g') #[] c) .plain rfl;clear j gE g5 SQ xy Gf;go_wp2_with fail;exact X0 (nK (p:=4) rfl rfl mG.o) rfl ⟨g',u,⟨Q,JZ,G⟩,rfl,zL.o⟩
 .skip;have H6:=Zh (aU.o hk);clear Mv aU;subst hk;have Bt:=Zh λx (hx:Bw w4 x)=>EW (.func (.func g) #[] lb) ⟨Q,JZ,G⟩ ⟨D7,D8,rO⟩ x ⟨g,lb,rfl⟩ (Qt hx bB.o) (Qt (aj sU.o hx) pE.o) (λy hy=>by show y∈G;rw[Dg.o];exact H6.o.2.1 y hy) H6.o.2.2.2.1
  simp only[ae.val]at Bt;go_upto_region 9 with fail;refine QW (S:=λx=>Kept (λb=>b≠M (H w2)) w4 x) (by kernel_rfl) (ZA ((Qr _ _).drew) λ_ h _=>h) (λm=>?_);have Mo:=Zh (show bl≠M (H w2) by have:=Od.o;have:=HZ.o.2.2.2;omega);refine wt 0 (Y (O (aD bl 0))) m ?_;refine wtk 1 (.func (.func g) #[] lb) m f0 Mo.o ?_;refine wT 2 (FN #[.func (.func g) #[] lb,Z Q (N G) JZ]) m (λx hx=>?_) ?_
  .have e0:=ZY f0 hx Mo.o;have e1:=ZY f1 hx Mo.o;go_simp
  refine wt 3 (Y (O (aD (M (H w1)) 6))) m ?_;refine wtk 4 (Z D7 (N rO) D8) m mh HZ.o.2.2.1 ?_;refine wt 7 (Y (O (aD bl 1))) m ?_;refine wtk 8 (Z Q (N G) JZ) m f1 Mo.o ?_;refine wR 5 λK t=>?_;go_simp;refine(Bt.o _ ((Qr _ _).drew)).mono ?_;rintro e w5 ⟨iv,rfl,aH,bC,ak,bD⟩;refine oK t m ak λm=>?_;clear t K;have Gf:Bw w4 w5:=(Qr _ _).drew.trans ak;have aZ:=H6.o.2.2.2.2;have bf:N iv.xs=N rO:=by rw[aH];unfold aO;simp
  refine wR 6 λK t=>?_;have bg:=ai7 g lb iv XL.1 w5 (by rw[bf];exact H6.o.2.2.1) aZ.few (λr hr=>by rw[aH,aZ.lens r hr];exact Iw (by rw[Dg.o]) (λy hy=>by rw[Dg.o];exact H6.o.2.1 y hy));obtain⟨bR,Uw,bS⟩:=fe aH bC bD;obtain⟨bU,bV,bW⟩:=iv;simp only[ae.val]at*;clear aH bC bD bf;go_simp;refine bg.mono ?_;rintro e w6 ⟨v,rfl,au,vZ⟩;refine oK t m au λm=>?_;clear t K;obtain⟨eX,-⟩:=H6.o;have SQ:ae.xs ⟨Q,JZ,G⟩=X.2:=by rw[eX];exact Dg.o
  have aN:=aj wQ.o (aj Gf au);have aQ:∀W,Bw w0 W->Kept (λb=>M (H w)<=b/\b≠M (H w2)) w6 W->eT ah V v X.1 W/\ah.At ⟨Q,JZ,G⟩ W:=λW h0 hW=>by have hz:=HZ.o;have ax:=wQ.o.size;have bF:=Gf.size;have hN:=hW.agp hz.1 hz.2.2.2;have hA:=Kq.o W h0 ((hN.back au).back Gf);refine⟨?_,hA.2⟩;rw[eX];have h:=vZ W (hN.more (Q6 ax bF)) hA.1 (ah.keep (x:=⟨bU,bV,bW⟩) Uw.o (hN.back au).size λb hb bX=>(hN.back au).block b hb (Q6 ax (bS.o b bX))).1;rw[<-Dg.o,<-bR.o];exact h
  obtain⟨g',u,rfl⟩:∃g' u,v=.func (.func g') #[] u:=by obtain⟨h1,-⟩:=aQ w6 (aj aF.o aN) (Zx _ _);obtain⟨g',u,h,_⟩:=h1;exact⟨g',u,h⟩
  have xy:=aQ;have Gf:=aN;clear aQ aN vZ bg;have g5:=Ig.o.of (Gf.block _ Ig.o.lt);obtain⟨kE,gE,j⟩:=jT (P:=V) (w0:=w0) (w:=w) (y:=w6) (g:=g') (lb:=u) (c:=⟨Q,JZ,G⟩) (X:=X) (aj Oe.o Gf) HZ.o.1 g5 SQ xy;obtain⟨zL,mG⟩:=aV j (yA gE);obtain⟨z0,z1⟩:=g5.k2;have y0:=g5.frozen 0;have y1:=g5.frozen 1;have aM:=λ(a:Addr) (c:Array KX) (w:U)=>run_store V w a (.func (.func g') #[] c) .plain rfl;clear j gE g5 SQ xy Gf;refine wt 9 (FN #[.func (.func g') #[] u,Z Q (N G) JZ]) m ?_;refine wR 10 λK t=>?_;go_simp;refine t.o _ _ (m.trans kE) (λm=>?_);clear t K;refine wD ?_;try simp only[pU]
  go_wp2_with fail;exact X0 (nK (p:=4) rfl rfl mG.o) rfl ⟨g',u,⟨Q,JZ,G⟩,rfl,zL.o⟩
