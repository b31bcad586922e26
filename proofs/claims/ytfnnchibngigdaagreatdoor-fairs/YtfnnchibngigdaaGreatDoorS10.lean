import Derived.Test.YtfnnchibngigdaaGreatDoorS08
set_option linter.all false
set_option maxRecDepth 100000
set_option maxHeartbeats 0
namespace Go.Proofs.Zz
open Go.RowKit Go.Shelf
open List renaming length->N,getD->E
open Go.Value renaming slice->Z,int->I,pointer->Y,bool->Qo
open Go.Proofs.Tryz renaming prog->V
open Option renaming some->O,none->Qp
open Go.IntKind renaming i64->J,u64->Qn
open Bool renaming false->F,true->T
open Go renaming World->U,Value->Qa
open Go.World renaming heap->H,setCell->Ql
open _root_.Array renaming size->M
variable {A W Z' Zq w w0:U} {B aU b base cap f i m n0:Nat} {e tI tV:TypeId} {a ao po:JW} {ts:Qu af} {q:ae} {pl:Qu ag} {s seen:Qu Nat} {sv u:Qa} {c:Array Qa} {k:Int} {v:aJ} {n:ag} {xs:KJ}
section
def own_ne{tT:TypeId}(h:bJ W b base tT tI ao po cap aU ts q pl seen sv){R:Nat}{t:TypeId}(hg:GB W R t c)(ht:tI≠t):sv.ownBlock≠O R:=λe=>by obtain⟨a,d⟩:=nM h.own e;unfold GB at hg;simp_all
def uA.read{plan:Qu ag}:∀(f i:Nat) (seen:Qu Nat) (v:bn) (s:Qu Nat),bX ts q plan f i seen=O (v,s)->uA q v:=by
 intro f
 induction f with
 |zero=>intro i seen v s h;cases h
 |succ f ih =>
  intro i seen v s h;unfold bX at h;simp only at h;generalize E plan i nz=n at h;split at h
  .cases h
  split at h
  .split at h
   .cases h
   .rename_i hs
    injection h with h;injection h with h _;subst h;refine⟨λx d=>?_,Qb,(λx d=>by cases d),Z0,qU _ _ _ _,Bj 1 (dJ ts q [n.source] []) vz vz⟩;have:x=n.source:=by simpa using d
    omega
  split at h
  .cases h
  split at h
  .cases h
  rename_i l s1 hl;have a:=ih _ _ _ _ hl;split at h
  .split at h
   .cases h
   split at h
   .cases h
   rename_i r s2 hr;have b:=ih _ _ _ _ hr
   cases hn:fA ts q n l r with
   |none=>rw[hn]at h;cases h
   |some v0 =>
    rw[hn]at h;simp only[Option.map_some]at h;injection h with h;injection h with h _;subst h;exact a.node b hn
  .cases hn:fA ts q n l vz with
   |none=>rw[hn]at h;cases h
   |some v0 =>
    rw[hn]at h;simp only[Option.map_some]at h;injection h with h;injection h with h _;subst h;exact a.node (uA.zero q) hn
def yK{x:bn × Qu Nat}(h:fG ts q pl f i k seen=O x):uA q x.1:=by
 unfold fG at h;split at h
 .cases h
 .exact uA.read _ _ _ _ _ h
def rV{Mq:Qv}{x:ai}(h:x.At Zq)(hm:∀a,x.ad=O a->x.xs≠[]->Mq a.block)(hk:Kept Mq Zq Z'):x.At Z':=by refine⟨h.1,λi f=>?_⟩;obtain⟨g,b,e,d⟩:=h.2 i f;refine⟨g,b,e,?_⟩;have j:g<M (H Zq):=lt_of_cell d;have k:=hk.block g j (hm _ e (λe=>by rw[e]at f;simp at f));simp only[World.cell?]at d ⊢;rw[k];exact d
structure Vs(w0 W:U)(b:Nat)(sv:Qa)(ao po:JW)(cap aU:Nat)(ts:Qu af)(q:ae)(pl:Qu ag)(nc:Array Qa)(Zq:U)(s:Qu Nat)(u:Qa):Prop where
 kept:Kept (Rest b sv) W Zq
 gR:GB Zq (M (H W)) 40 #[Z Qp 0 0,Z Qp 0 0,Z Qp 0 0,Qo F,I Qn 0,I Qn 0]
 gN:GB Zq (M (H W)+1) 52 nc
 tree:bJ Zq b (M (H w0)) 69 3 ao po cap aU ts q pl s u
 next:iM W sv u
 base:Bw w0 Zq
 lo:b<M (H W)/\M (H w0)<=M (H W)
 nd:s.Nodup/\∀x∈s,x<N pl
variable {w0 W Zq Z':U} {b:Nat} {sv u u':Qa} {ao po:JW} {cap aU:Nat} {ts:Qu af} {q:ae} {pl:Qu ag} {nc:Array Qa} {s s':Qu Nat}
def Vs.below(h:Vs w0 W b sv ao po cap aU ts q pl nc Zq s u)(hb:Bw Zq Z'):Vs w0 W b sv ao po cap aU ts q pl nc Z' s u:=
 ⟨h.kept.trans (ZE hb λ_ h _=>h),h.gR.of (hb.block _ h.gR.lt),h.gN.of (hb.block _ h.gN.lt),h.tree.below hb,h.next,ah h.base hb,h.lo,h.nd⟩
def Vs.no(h:Vs w0 W b sv ao po cap aU ts q pl nc Zq s u)(hk:Kept (Rest b u) Zq Z'):Kept (Rest b sv) W Z'/\GB Z' (M (H W)) 40 #[Z Qp 0 0,Z Qp 0 0,Z Qp 0 0,Qo F,I Qn 0,I Qn 0]/\GB Z' (M (H W)+1) 52 nc:=by have e:=h.lo.1;exact⟨h.kept.trans' hk λx a d=>d.next h.next a,h.gR.of (hk.block _ h.gR.lt ⟨X,own_ne h.tree h.gR Qd⟩),h.gN.of (hk.block _ h.gN.lt ⟨X,own_ne h.tree h.gN Qd⟩)⟩
def Vs.went(h:Vs w0 W b sv ao po cap aU ts q pl nc Zq s u)(hk:Kept (Rest b u) Zq Z')(ht:bJ Z' b (M (H w0)) 69 3 ao po cap aU ts q pl s' u')(hn:iM Zq u u')(nd:s'.Nodup/\∀x∈s',x<N pl):Vs w0 W b sv ao po cap aU ts q pl nc Z' s' u':=
 ⟨(h.no hk).1,(h.no hk).2.1,(h.no hk).2.2,ht,h.next.trans hn h.kept.size,h.base.trans (hk.below h.base.size λx a=>h.tree.old x a),h.lo,nd⟩
def Vs.store(h:Vs w0 W b sv ao po cap aU ts q pl nc Zq s u)(gB:GB Zq B 40 c)(hB:M (H W)+2<=B)(hk:Kept (λx=>x≠B) Zq Z'):Vs w0 W b sv ao po cap aU ts q pl nc Z' s u:=by have f:=h.lo;exact⟨h.kept.trans' hk λx a _=>by show x≠B;omega,h.gR.of (hk.block _ h.gR.lt X),h.gN.of (hk.block _ h.gN.lt X),h.tree.but (hk.mono λy _ d e=>d (by rw[e];exact⟨X,own_ne h.tree gB Qd⟩)),h.next,h.base.trans (hk.below h.base.size λx a=>by show x≠B;omega),h.lo,h.nd⟩
def ab8(hk:Kept (Rest b sv) W Zq)(g:GB Zq (M (H W)) 40 #[Z Qp 0 0,Z Qp 0 0,Z Qp 0 0,Qo F,I Qn 0,I Qn 0])(St:U->Qu Nat->Qa->Prop)(n0:Nat) :
  Hid (VQ St n0 W b sv Qp (.returned (.tuple #[.agg tO.cells,Qo F])) (World.iC Zq (M (H W)) tO))/\Hid ((loadVar 40 (aD (M (H W)) 0)).run V (World.iC Zq (M (H W)) tO)=.ok (.agg tO.cells) (World.iC Zq (M (H W)) tO)):=
 ⟨VQ.no (hk.trans' (XD _ _ _) λx a _=>by show x≠M (H W);omega) tO,kV (World.lX g tO)⟩
def Om(h:Vs w0 W b sv ao po cap aU ts q pl nc Zq s u){o:Option (bn × Qu Nat)}{ok:Bool}(ho:o=if ok=T then O (v.d,s) else Qp)(ha:∀g,Kept (Mine (M (H w0)) (M (H W)+2) b u) Zq g->v.At g) :
  VQ (λZq s u=>bJ Zq b (M (H w0)) 69 3 ao po cap aU ts q pl s u) (M (H w0)) W b sv o (.returned (.tuple #[.agg v.cells,Qo ok])) (World.iC Zq (M (H W)) v)/\(loadVar 40 (aD (M (H W)) 0)).run V (World.iC Zq (M (H W)) v)=.ok (.agg v.cells) (World.iC Zq (M (H W)) v):=by
 have i:=XD Zq (M (H W)) v;have k:=h.lo;refine⟨⟨h.kept.trans' i λx a _=>by show x≠M (H W);omega,v,by rw[ho];cases ok <;> rfl,λx a=>?_⟩,kV (World.lX h.gR v)⟩
 cases ok with
 |false=>rw[ho]at a;cases a
 |true =>
  rw[ho,Q8 rfl]at a;injection a with a;subst a;refine⟨rfl,u,h.tree.but (i.mono λy _ f e=>f (by rw[e];exact⟨X,own_ne h.tree h.gR Qd⟩)),h.next,λg j=>ha g ?_⟩;refine Kept.trans' (i.mono (t:=Mine (M (H w0)) (M (H W)+2) b u) λy _ f e=>?_) j (λy _ f=>⟨?_,f.2⟩)
  .have:=f.1;omega
  .have:=f.1;omega
end
def yL(hn:E pl i nz=n)(h:bI n=F∨n.kind<1∨10<n.kind):bX ts q pl (f+1) i seen=none:=by unfold bX;simp_all
def Dx(hn:E pl i nz=n)(hp:bI n=T)(hk:n.kind=1):bX ts q pl (f+1) i seen =
  if n.source<0∨(N q.src.xs:Int)<=n.source then Qp else O (⟨[n.source],[],[],F,dJ ts q [n.source] [],jE 1 (dJ ts q [n.source] []) vz vz⟩,seen++[i]):=by unfold bX;simp_all
theorem rW(hn:E pl i nz=n)(hp:bI n=T)(h2:2<=n.kind)(h10:n.kind<=10)(ha:¬(3<=n.kind/\n.kind<=5)):bX ts q pl (f+1) i seen =
  (fG ts q pl f i n.l (seen++[i])).bind λx=>(fA ts q n x.1 vz).map λv=>(v,x.2):=by rw[bX];simp only[hn];rw[Zf Qc,Zf X];have a:arity n.kind≠2:=λe=>ha ((KH n.kind).1 X);unfold fG;grind
theorem rX(hn:E pl i nz=n)(hp:bI n=T)(ha:3<=n.kind/\n.kind<=5):bX ts q pl (f+1) i seen =
  (fG ts q pl f i n.l (seen++[i])).bind λx=>(fG ts q pl f i n.r x.2).bind λy=>(fA ts q n x.1 y.1).map λv=>(v,y.2):=by
 rw[bX];simp only[hn];rw[Zf Qc,Zf X];have a:arity n.kind=2:=by unfold arity;grind
 unfold fG;grind
theorem tQ{v:bn}(BX:i<N pl)(hd:seen.Nodup)(hl:∀x∈seen,x<N pl)(h:fG ts q pl f i k seen=O (v,s)):s.Nodup/\∀x∈s,x<N pl:=by
 unfold fG at h;split at h
 .cases h
 .rename_i hk
  have d:¬k<0:=λe=>hk (.inl e);have g:¬(i:Int)<=k:=λe=>hk (.inr (.inl e));have b:k.toNat ∉ seen:=λe=>hk (.inr (.inr e));obtain⟨_,j,m,l⟩:=oQ ts q pl f k.toNat seen v s b h;subst j;refine⟨?_,λx a=>?_⟩
  .grind
  .rcases List.mem_append.1 a with a|a
   .exact hl x a
   .have:=xL (qi pl) k.toNat k.toNat (Q6 _) x a;omega
theorem Dy{l s:KJ}(h:dh ts q l s=T):N l<=N q.wh:=by
 have b:=ig h;unfold dh at h;rw[Q4]at h;have a:∀i,i<N l->(i:Int)<=E l i 0:=by
  intro i
  induction i with
  |zero=>simp_all
  |succ i ih =>
   grind
 grind
def iN{base':Nat}{v:Qa}{n:Nat}{xs:Qu Qa}(h:w.ownsRow base e 1 v n xs)(hl:base'<=base):w.ownsRow base' e 1 v n xs:=by
 refine⟨h.1,?_⟩;rcases h.2 with a|⟨g,c,b,a,f,d⟩
 .exact .inl a
 .exact .inr ⟨g,c,b,a,X,d⟩
def uB{w':U}{v:Qa}{n:Nat}{xs:Qu Qa}(h:w.ownsRow base tI 1 v n xs)(gB:GB w B tV c)(ht:tI≠tV)(hk:Kept (λx=>x≠B) w w'):w'.ownsRow base tI 1 v n xs:=
 ZH h hk λg b e=>by obtain⟨d,a⟩:=nM h b;unfold GB at gB;rw[e,gB]at a;injection a with a;injection a with _ a;exact ht a.symm
def v17{z:U}(ht:tI≠tV)(hS:Bw A z){a0 a1' a2' a3 a4 a5:Qa}(gB:GB z B tV #[a0,a1',a2',a3,a4,a5])(hB:M (H A)<=B){a1 a2:JW}{c1 c2:Nat}{x1 x2:KJ}(o1:z.ownsRow (M (H A)) tI 1 (Z a1 (N x1) c1) (N x1) (x1.map (Value.int J)))(o2:z.ownsRow (M (H A)) tI 1 (Z a2 (N x2) c2) (N x2) (x2.map (Value.int J)))(o:ai) :
  Bw A (World.iC z B (aJ.mk ⟨a1,c1,x1⟩ ⟨a2,c2,x2⟩ o F 0 0))/\GB (World.iC z B (aJ.mk ⟨a1,c1,x1⟩ ⟨a2,c2,x2⟩ o F 0 0)) B tV (aJ.mk ⟨a1,c1,x1⟩ ⟨a2,c2,x2⟩ o F 0 0).cells/\(World.iC z B (aJ.mk ⟨a1,c1,x1⟩ ⟨a2,c2,x2⟩ o F 0 0)).ownsRow (M (H A)) tI 1 (Z a1 (N x1) c1) (N x1) (x1.map (Value.int J))/\(World.iC z B (aJ.mk ⟨a1,c1,x1⟩ ⟨a2,c2,x2⟩ o F 0 0)).ownsRow (M (H A)) tI 1 (Z a2 (N x2) c2) (N x2) (x2.map (Value.int J)):=by have a:=XD z B (aJ.mk ⟨a1,c1,x1⟩ ⟨a2,c2,x2⟩ o F 0 0);exact⟨hS.trans (a.below hS.size λx b=>by show x≠B;omega),World.lX gB _,uB o1 gB ht a,uB o2 gB ht a⟩
def KR{Y2:U}{m':Nat}{u2 u3:Qa}(hz:∀Zq,Kept (Mine n0 m b u2) Y2 Zq->v.At Zq)(hK:Kept (Mine n0 m b u2) Y2 A)(hm:m'<=m)(hn:∀y,y<M (H Y2)->Rest b u2 y->Rest b u3 y):v.At A/\∀a,Kept (Mine n0 m' b u3) A a->v.At a:=
 ⟨hz A hK,λa h=>hz a (hK.trans' h λy e d=>⟨Qj d.1,hn y e d.2⟩)⟩
def kW{c:Nat}(h:w.ownsRow base e 1 (Z a (N xs) c) (N xs) (xs.map (Value.int J)))(hl:N xs<=1000):IntsAt w a xs/\(a=Qp->c=0)/\∀p,a=O p->base<=p.block:=by
 obtain⟨f,i,b,d⟩:=dY h X;injection b with b e2 e3;subst b e3;refine⟨d,?_⟩;rcases h.2 with⟨b,_⟩|⟨g,cap,cur,b,hb,_⟩
 .injection b with b e2 e3;subst b e3;exact⟨λ_=>rfl,λp h=>by cases h⟩
 .injection b with b e2 e3;subst b e3;exact⟨λh=>(by cases h),λp h=>by cases h;exact hb⟩
def Bo{n:Nat}{c:Nat}(h:Zq.ownsRow n e 1 (Z a (N xs) c) (N xs) (xs.map (Value.int J)))(hl:N xs<=1000)(hm:m<=n)(hb:b<n)(hu:∀g,u.ownBlock=O g->g<n)(hk:Kept (Mine n0 m b u) Zq Z'):IntsAt Z' a xs/\(a=Qp->c=0):=by have d:=kW h hl;refine⟨rV (x:=⟨a,c,xs⟩) d.1 (λp f _=>?_) hk,d.2.1⟩;have:=d.2.2 p f;exact⟨.inr X,X,λe=>Qj (hu _ e)⟩
def vS(Zq:U)(B i:Nat)(v:Qa):Kept (λy=>y≠B) Zq (Ql Zq (aD B i) v):=ZG _ (aD B i) _ (λh=>h rfl)
def M6(h:IntsAt w0 a xs)(hb:Bw w0 Zq)(ho:∀x,x<M (H w0)->Rest b u x)(hk:Kept (Mine (M (H w0)) m b u) Zq Z'):IntsAt Z' a xs:=
 rV (x:=⟨a,0,xs⟩) (Q7 hb h) (λp j d=>by
  obtain⟨g,f,e,i⟩:=h.2 0 (List.length_pos_iff.2 d);rw[show a=O p from j]at e;cases e;have:=lt_of_cell i;exact⟨.inl this,ho _ this⟩) hk
structure Vb(A:U)(B:Nat)(v:aJ)(Zq:U):Prop where
 b:Bw A Zq
 lo:M (H A)<=B
 g:GB Zq B 40 v.cells
 s:Zq.ownsRow (M (H A)) 3 1 (Z v.s.ad (N v.s.xs) v.s.cap) (N v.s.xs) (v.s.xs.map (Value.int J))
 c:Zq.ownsRow (M (H A)) 3 1 (Z v.c.ad (N v.c.xs) v.c.cap) (N v.c.xs) (v.c.xs.map (Value.int J))
def Vb.below{A Zq Z':U}{B:Nat}{v:aJ}(h:Vb A B v Zq)(hb:Bw Zq Z'):Vb A B v Z':=
 ⟨ah h.b hb,h.lo,h.g.of (hb.block _ h.g.lt),Xt h.s hb,Xt h.c hb⟩
def Vb.set{A Zq:U}{B:Nat}{v:aJ}(h:Vb A B v Zq)(v':aJ)(i:Nat){x:Qa}(hx:v.cells.setIfInBounds i x=v'.cells)(hs:v'.s=v.s)(hc:Zq.ownsRow (M (H A)) 3 1 (Z v'.c.ad (N v'.c.xs) v'.c.cap) (N v'.c.xs) (v'.c.xs.map (Value.int J))):Vb A B v' (Ql Zq (aD B i) x):=
 ⟨h.b.setCell (p:=(aD B i)) h.lo _,h.lo,hx ▸ h.g.set i x,by rw[hs];exact uB h.s h.g Qd (vS Zq B i x),uB hc h.g Qd (vS Zq B i x)⟩
def M7{nc:Array Qa}(h:Vs w0 W b sv ao po cap aU ts q pl nc Zq s u){A:Nat}{x:Int}(hg:GB Zq A 3 #[I J x])(hA:M (H W)+2<=A)(hu:u.ownBlock≠O A)(SZ CT:Nat):∀d,Kept (Mine (M (H w0)) (M (H W)+2) b u) Zq d->(aJ.mk ⟨O (aD A 0),1,[x]⟩ ⟨Qp,0,[]⟩ ⟨Qp,0,[]⟩ F SZ CT).At d:=λd f=>by
 have e:=aJ.At.zero d;have k:=h.lo;refine⟨⟨rV (Mq:=Mine (M (H w0)) (M (H W)+2) b u) (Zq:=Zq) ⟨Qb,λi g=>⟨A,0,rfl,?_⟩⟩ (λa j _=>?_) f,λh=>by cases h⟩,e.2.1,e.2.2⟩
 .have:i=0:=by simp at g;omega
  subst this;exact hg.at 0
 .cases j
  exact⟨.inr hA,by show A≠b;omega,hu⟩
theorem Ia(w0:U)(b:Nat)(ao po:JW)(cap aU:Nat)(ts:Qu af)(q:ae)(pl:Qu ag)(D:EH w0 ao po ts q pl)(f i:Nat)(hV:VC w0 b ao po cap aU ts q pl f)(hif:i<=f)(W:U)(seen:Qu Nat)(sv:Qa)(BX:i<N pl)(hT:bJ W b (M (H w0)) 69 3 ao po cap aU ts q pl seen sv)(hW:Bw w0 W)(hd:seen.Nodup)(hl:∀x∈seen,x<N pl)(hni:i ∉ seen) :
  Calls V 15 #[Y (O (aD b 0)),I J i] W (VQ (λZq s u=>bJ Zq b (M (H w0)) 69 3 ao po cap aU ts q pl s u) (M (H w0)) W b sv (bX ts q pl (f+1) i seen)):=by
 have bY:(seen++[i]).Nodup/\∀x∈seen++[i],x<N pl:=by
  refine⟨?_,λx hx=>?_⟩
  .rw[List.nodup_append];exact⟨hd,Qb,λx hx y hy e=>by rw[Xb]at hy;subst e hy;exact hni hx⟩
  .rcases List.mem_append.1 hx with h|h
   .exact hl x h
   .rw[Xb]at h;omega
 obtain⟨n,hn⟩:=eX (E pl i nz);obtain⟨Oq,hO⟩:=eY (bX ts q pl (f+1) i seen);rw[<-hO];obtain⟨pb,Es,rfl,c0,c1,c2,c3,c4,c5,c6,bH,bK⟩:=D.plan.2 i BX;rw[hn]at c0 c1 c2 c3 c4 c5 c6 bH bK;have eF:=D.plan.1;have U1:=D.len;have bZ:=hW.size;have eG:=Bn hd hl;obtain⟨sa,sm,sc,rfl⟩:=ZK hT.own;obtain⟨X1,dn,aa,g1⟩:=aY W #[Z Qp 0 0,Z Qp 0 0,Z Qp 0 0,Qo F,I Qn 0,I Qn 0] 40;obtain⟨Xq,hX,av,g2⟩:=aY X1 n.cells 52;have aX:M (H X1)=M (H W)+1:=by rw[<-dn];simp
 have Yl:=ah aa av;have dK:=(hT.below aa).g.at 8;have Vw:=hT.below Yl;obtain⟨Vv,w5,uf,l9,bL,⟨va,vm,vc,rfl⟩,dw⟩:=kP Xq (M (H w0)) (Z sa sm sc) (seen.map λ(i:Nat)=>(i:Int)) (by rw[ZR];exact Vw.own) (by rw[ZR];omega) (Qj Yl.size) (i:Int) 23;obtain⟨Yq,hY⟩:=eX (Ql w5 (aD b 9) (Z va vm vc));obtain⟨TY,dx,bM,aN⟩:=hT.push Tryz.EI Yl bL l9 dw hY.symm;have aM:=Vw.g.of (bL.block b Vw.g.lt (hT.ne Tryz.EI));have w9:=aM.at 9;have dL:=aM.frozen 9;have t9:=Vw.g.at 9;rw[aX]at g2;have aZ:Vs w0 W b (Z sa sm sc) ao (O (aD pb Es)) cap aU ts q pl n.cells Yq (seen++[i]) (Z va vm vc):=
  ⟨bM,(g1.of (av.block _ g1.lt)).of (aN _ (Q6 _) (Qj av.size)),g2.of (aN _ X g2.lt),TY,dx,hW.trans (bM.below bZ (λx hx=>hT.old x hx)),⟨hT.g.lt,bZ⟩,bY⟩
 have d0:=cB (ah hW aa) c0;have d1:=cB (ah hW aa) c1;have d2:=cB (ah hW aa) c2;have d3:=cB (ah hW aa) c3;have d4:=cB (ah hW aa) c4;have d5:=cB (ah hW aa) c5;have d6:=cB (ah hW aa) c6;have Bp:=Zh λ(Zq:U) (hk:Kept (Rest b (Z sa sm sc)) W Zq) (g:GB Zq (M (H W)) 40 #[Z Qp 0 0,Z Qp 0 0,Z Qp 0 0,Qo F,I Qn 0,I Qn 0])=>ab8 hk g (λZq s u=>bJ Zq b (M (H w0)) 69 3 ao (O (aD pb Es)) cap aU ts q pl s u) (M (H w0));have IX:=Zh λ(k:Int) (Zq:U) (s:Qu Nat) (v:Qa) (h:Vs w0 W b (Z sa sm sc) ao (O (aD pb Es)) cap aU ts q pl n.cells Zq s v)=>H8 w0 b ao (O (aD pb Es)) cap aU ts q pl f hV i k hif BX D.len Zq s v h.tree h.base h.nd.1 h.nd.2;have yx:=H7 n Yq;obtain⟨HO,uk,mq,nT,dz,Lt⟩:=OP hO hn D (And.intro bH bK) aZ aX;obtain⟨n0,n1,n2,n3,n4,n5,n6⟩:=aZ.gN.k7;obtain⟨r,nl,nr,j,⟨Bh,Bi,lF⟩,key,⟨wP,wQ,kC⟩⟩:=n;unfold ag.cells ai.val at*;simp only[World.iC,aJ.cells,tO,ai.val,XB,Int.natCast_zero]at*;clear hO hn D bH bK hV hni hd hl bY bL l9 dw dx bM aN hT Vw hW TY g1 g2 aa av Yl aX aZ c0 c1 c2 c3 c4 c5 c6 aM;go_enter Tryz.func15,Tryz.ntmps15;go_upto_region 3 with (first|(at_builtin;refine Xd rfl (.tmp 25) (.tmp 27) 23 rfl (Z sa sm sc) (Z (O (aD (M (H Xq)) 0)) 1 1) (Z va vm vc) w5 rfl rfl uf ?_));rw[Lt.o];clear uf w9 dL t9 dK d0 d1 d2 d3 d4 d5 d6 hX dn hY;go_wp2_with fail;refine yx.mono ?_;clear yx n0 n1 n2 n3 n4 n5 n6;rintro e Y1 ⟨rfl,aa⟩;have xy:=Zh (Vs.below dz.o aa);have m0:=xy.o.gN.at 0;clear aa dz;by_cases aC:bI ⟨r,nl,nr,j,⟨Bh,Bi,lF⟩,key,⟨wP,wQ,kC⟩⟩=F∨r<1∨10<r
 .obtain rfl:Oq=none:=by rw[HO.o];exact yL uk.o aC
  obtain⟨cK,iK⟩:=Bp.o Y1 xy.o.kept xy.o.gR;have hc:=xy.o.gR.k6;have hf:=GB.f6 xy.o.gR;generalize bI ⟨r,nl,nr,j,⟨Bh,Bi,lF⟩,key,⟨wP,wQ,kC⟩⟩=P at*;have hk:P=F∨(P=T/\r<1)∨(P=T/\¬r<1/\10<r):=by cases P <;> grind
  clear aC HO uk IX Bp mq nT;rcases hk with rfl|⟨rfl,k1⟩|⟨rfl,k1,k2⟩
  all_goals
   go_wp2;exact Xy (XE (p:=4) (u:=5) (x:=Qo F) rfl rfl rfl iK.o) rfl cK.o
 have hP:bI ⟨r,nl,nr,j,⟨Bh,Bi,lF⟩,key,⟨wP,wQ,kC⟩⟩=true:=by
  cases h:bI ⟨r,nl,nr,j,⟨Bh,Bi,lF⟩,key,⟨wP,wQ,kC⟩⟩
  .exact absurd (.inl h) aC
  .rfl
 have k1:¬r<1:=λh=>aC (.inr (.inl h));have eH:¬10<r:=λh=>aC (.inr (.inr h));rw[hP];have HP:=Zh hP;clear aC hP;by_cases kk:r=1
 .have O9:=Zh (HO.o.trans (Dx uk.o HP.o kk));subst kk;have t1:=xy.o.tree.g.at 1;have m3:=xy.o.gN.at 3;simp only at O9;clear HO IX uk HP;by_cases hs:j<0∨(N q.src.xs:Int)<=j
  .obtain rfl:Oq=none:=by rw[O9.o,Q8 hs]
   have dM:j<0∨(¬j<0/\(N q.src.xs:Int)<=j):=X;clear O9 hs;rcases dM with s0|⟨s0,s1⟩
   case' inl=>
    go_wp2_with fail;refine wH Y1 λt=>?_;refine II 0 t ?_;refine wS9 4 t ?_
   case' inr=>
    go_wp2_with fail;refine wH Y1 λt=>?_;refine II 0 t ?_;refine wB9 4 t ?_
   all_goals
    refine IG 13 t ?_;refine wD ?_;have ui:=Zh (Vs.below xy.o t);clear xy t m0 m3 t1;generalize Y1.drew=Y2 at*;obtain⟨cK,iK⟩:=Bp.o Y2 ui.o.kept ui.o.gR;have hc:=ui.o.gR.k6;have hf:=GB.f6 ui.o.gR;go_wp2;exact Xy (XE (p:=4) (u:=5) (x:=Qo F) rfl rfl rfl iK.o) rfl cK.o
  have s0:¬j<0:=λh=>hs (.inl h);have s1:¬(N q.src.xs:Int)<=j:=λh=>hs (.inr h);have Vx:=Zh O9.o;rw[Zf hs]at Vx;clear O9 hs;go_wp2_with fail;refine wH Y1 λt=>?_;refine II 0 t ?_;refine wB9 4 t ?_;refine IG 13 t ?_;refine wD ?_;have ui:=Zh (Vs.below xy.o t);clear xy t m0 m3 t1;generalize Y1.drew=Y2 at*;obtain⟨t0,t1,t2,t3,t4,t5,t6,t7,t8⟩:=ui.o.tree.g.k9;have m3:=ui.o.gN.at 3;have BS:=Zh λ(x:U) (a:Nat) (hx:Bw Y2 x) (hg:GB x a 3 #[I J j])=>Az ao (O (aD a 0)) Qp cap 1 0 ts q [j] [] x (mq.o.cat.below (ah ui.o.base hx)) mq.o.Cc.cat (mq.o.query.below (ah ui.o.base hx)) mq.o.Cc.five mq.o.Cc.src mq.o.Cc.eight mq.o.Cc.aO ⟨Qb,λi hi=>⟨a,0,rfl,by
   have:i=0:=by simp at hi;omega
   subst this;exact hg.at 0⟩⟩ (λy hy=>by simp at hy;omega) ⟨Qb,λi hi=>absurd hi Qb⟩
  simp only[ai.val,Zn,XB,ae.cells]at*;have wZ:=Zh (qU ts q [j] []);generalize dJ ts q [j] []=SZ at*;have jO:=Zh λ(x:U)=>Be 1 SZ tO tO x wZ.o (ZP _) (ZP _) (ZP _) (ZP _);simp only[aJ.cells,tO,ai.val,XB,Int.natCast_zero,aJ.d]at jO;rw[show (bn.mk [] [] [] F 0 0)=vz from rfl]at jO;generalize jE 1 SZ vz vz=CT at*;go_wp2_with fail;refine wH Y2 λt=>?_;refine FW 0 t ?_;obtain⟨X3,dW,ax,dB⟩:=aY Y2.drew #[I J j] 3;refine wR 10 λK G=>?_;go_simp;refine oT G t ax λt=>?_;clear G K;refine wR 11 λK G=>?_;go_simp;refine(BS.o X3 (M (H Y2)) t dB).mono ?_;rintro e Y3 ⟨rfl,ay⟩;refine oT G t ay λt=>?_;clear G K ay ax dB dW BS t0 t1 t2 t3 t4 t5 t6 t7 t8;refine IG 12 t ?_;refine wD ?_;have RH:=Zh (Vs.below ui.o t);clear ui t m3;have m3:=RH.o.gN.at 3;have RI:=Zh λ(Zq:U) (A:Nat) (hZ:Bw Y3 Zq) (hg:GB Zq A 3 #[I J j]) (hA:M (H Y3)<=A)=>Om (RH.o.below hZ) (v:=aJ.mk ⟨O (aD A 0),1,[j]⟩ ⟨Qp,0,[]⟩ ⟨Qp,0,[]⟩ F SZ CT) (o:=Oq) (ok:=T) Vx.o (M7 (RH.o.below hZ) hg (Qj RH.o.gN.lt) (λe=>Qj ((ZJ RH.o.tree.own e).2)) SZ CT);clear Bp;go_wp2_with fail;refine ZA (S:=λx=>Kept (λy=>y≠M (H W)) Y3 x) Qe (ZE ((Q5 (M (H Y3)) Y3).drew) (λ_ hl _=>hl)) (λt=>?_);refine wt 0 (Y (O (aD (M (H W)+1) 3))) t ?_;refine wT 1 (I J j) t (λx hx=>?_) ?_
  .have e0:=ZF m3 hx (by show M (H W)+1≠M (H W);omega);go_simp
  refine wt 3 (I Qn SZ) t ?_;refine wt 4 (I Qn SZ) t ?_;refine wt 5 (.agg #[Z Qp 0 0,Z Qp 0 0,Z Qp 0 0,Qo F,I Qn 0,I Qn 0]) t ?_;refine wt 6 (.agg #[Z Qp 0 0,Z Qp 0 0,Z Qp 0 0,Qo F,I Qn 0,I Qn 0]) t ?_;refine wJ 2 7 (λK G=>?_) λK G=>?_
  case' refine_1=>
   go_simp;refine G.o _ _ (t.trans (Kept.alloc _ _)) (λt=>?_);clear G K;refine wR 7 λK G=>?_;go_simp;refine Xx (jO.o _) ?_;rintro e Zq ⟨rfl,ay⟩;refine G.o _ _ (t.trans (ZE ay (λ_ hl _=>hl))) (λt=>?_);clear G K;have Vy:=ah (show Bw Y3 ((Y3.alloc (.cells #[I J j] 3)).drew) from (bz _ _).drew) ay;have hY:=RI.o Zq (M (H Y3)) Vy (GB.of (w:=(Y3.alloc (.cells #[I J j] 3)).drew) (iB Y3 _) (ay.block _ Qb)) (Q6 _);have M8:=Zh (XD Zq (M (H W)) (aJ.mk ⟨O (aD (M (H Y3)) 0),1,[j]⟩ ⟨Qp,0,[]⟩ ⟨Qp,0,[]⟩ F SZ CT))
  case' refine_2=>
   go_simp;refine Xx (jO.o _) ?_;rintro e Y4 ⟨rfl,ay⟩;refine G.o _ _ (t.trans (ZE ay (λ_ hl _=>hl))) (λt=>?_);clear G K;obtain⟨Zq,hZ,dC,aM⟩:=aY Y4 #[I J j] 3;refine wR 2 λK G=>?_;go_simp;refine G.o _ _ (t.trans (ZE dC (λ_ hl _=>hl))) (λt=>?_);clear G K hZ;have Vy:=ah (ah (show Bw Y3 Y3.drew from (Q5 _ _).drew) ay) dC;have hY:=RI.o Zq (M (H Y4)) Vy aM (ay.size);have M8:=Zh (XD Zq (M (H W)) (aJ.mk ⟨O (aD (M (H Y4)) 0),1,[j]⟩ ⟨Qp,0,[]⟩ ⟨Qp,0,[]⟩ F SZ CT))
  all_goals
   have RJ:=RH.o.gR.of (Vy.block _ RH.o.gR.lt);obtain⟨hE,hL⟩:=hY;obtain⟨cK,iK⟩:=bV hE hL;simp only[World.iC,aJ.cells,ai.val,XB,Zn,ZQ]at cK iK M8;have hc:=RJ.k6;have hf:=GB.f6 RJ;clear hE hL RJ Vy RI m3;refine wR 8 λK G=>?_;go_simp;refine G.o _ _ t λt=>?_;clear G K;refine wR 9 λK G=>?_;go_simp;refine G.o _ _ (t.trans M8.o) (λt=>?_);clear G K;refine wR 10 λK G=>?_;go_simp;refine G.o _ _ t λt=>?_;clear G K;refine wD ?_;try simp only[pU]
   go_wp2;exact Xy (XE (p:=4) (u:=5) (x:=Qo T) rfl rfl rfl iK.o) rfl cK.o
 have IQ:(r==1)=false:=by simp[kk]
 have cu:=IX.o nl Y1 _ _ xy.o;have m1:=xy.o.gN.at 1;go_wp2_with fail;refine cu.mono ?_;clear cu m1;rintro e Y2 hq;obtain⟨lv,rfl,aS⟩:=hq.out;obtain⟨HK,Vz⟩:=bV hq.kept (Vs.no xy.o hq.kept);obtain⟨⟨BZ,Ca,L⟩,⟨Dr,Dt,R⟩,⟨vP,aj,qR⟩,ko,Du,Dv⟩:=lv;simp only[aJ.cells,ai.val];obtain⟨Y3,bN,ax,Ym⟩:=aY Y2 #[Z BZ (N L) Ca,Z Dr (N R) Dt,Z vP (N qR) aj,Qo ko,I Qn (Du:Int),I Qn (Dv:Int)] 40;obtain⟨Y4,dD,ay,M9⟩:=aY Y3 #[Z Qp 0 0,Z Qp 0 0,Z Qp 0 0,Qo F,I Qn 0,I Qn 0] 40;have aK:M (H Y3)=M (H Y2)+1:=by rw[<-bN];simp
 rw[aK]at M9;have vT:=ah ax ay;have Oo:=Ym.of (ay.block _ Ym.lt);obtain⟨OL,bO⟩:=eY (fG ts q pl f i nl (seen++[i]));rw[<-bO]at aS ⊢;obtain⟨KS,dE,dF⟩:=kH bO bN dD;clear hq m0 bO bN dD aK;go_upto_region 13 with fail;rw[dE.o,dF.o];clear dE dF
 cases OL with
 |none =>
  obtain rfl:Oq=none:=by
   rw[HO.o];by_cases RN:3<=r/\r<=5
   .rw[rX uk.o HP.o RN,<-KS.o];rfl
   .rw[rW uk.o HP.o (show 2<=r by omega) (show r<=10 by omega) RN,<-KS.o];rfl
  have g4:=Vz.o.2.1.of (vT.block _ Vz.o.2.1.lt);obtain⟨cK,iK⟩:=Bp.o Y4 (Vz.o.1.trans (ZE vT λ_ h _=>h)) g4;have hc:=g4.k6;have hf:=GB.f6 g4;clear HO uk HP IX Bp mq nT KS aS g4 Vz HK Ym Oo M9 ax ay vT xy;go_wp2;exact Xy (XE (p:=4) (u:=5) (x:=Qo F) rfl rfl rfl iK.o) rfl cK.o
 |some x =>
 obtain⟨l,s2⟩:=x;obtain⟨e1,u2,bP,dG,hz⟩:=aS _ rfl;simp only at e1 bP;subst e1;obtain⟨EJ,KU⟩:=bV (Vs.below (Vs.went xy.o HK.o bP dG (tQ BX xy.o.nd.1 xy.o.nd.2 KS.o.symm)) vT) (yK KS.o.symm);have m0:=EJ.o.gN.at 0;have bf:M (H W)+2<=M (H Y1):=xy.o.gN.lt;have eO:=vT.size;obtain⟨HZ,VA,GN⟩:=kH hz (And.intro vT trivial) xy.o.lo;have BS:Hid (M (H W)+2<=M (H Y2)/\M (H Y2)+1<M (H Y4)):=⟨ZB bf HK.o.size,M9.lt⟩;clear aS bP dG Vz HK ax ay vT Ym xy hz;by_cases RN:3<=r/\r<=5
 case' neg=>
  obtain⟨⟨⟨zy,zz,C⟩,⟨zA,au,Q⟩,⟨yI,yJ,vQ⟩,jo,zB,zC⟩,Ht⟩:∃rv:aJ,rv=tO:=⟨_,rfl⟩;have gR:GB Y4 (M (H Y2)+1) 40 (aJ.mk ⟨zy,zz,C⟩ ⟨zA,au,Q⟩ ⟨yI,yJ,vQ⟩ jo zB zC).cells:=by rw[Ht];exact M9
  have Eh:=Zh (by rw[HO.o,rW uk.o HP.o (show 2<=r by omega) (show r<=10 by omega) RN,<-KS.o,Ht];rfl:Oq=(fA ts q ⟨r,nl,nr,j,⟨Bh,Bi,lF⟩,key,⟨wP,wQ,kC⟩⟩ (aJ.mk ⟨BZ,Ca,L⟩ ⟨Dr,Dt,R⟩ ⟨vP,aj,qR⟩ ko Du Dv).d (aJ.mk ⟨zy,zz,C⟩ ⟨zA,au,Q⟩ ⟨yI,yJ,vQ⟩ jo zB zC).d).map λv=>(v,s2))
  have KW:Hid (uA q (aJ.mk ⟨zy,zz,C⟩ ⟨zA,au,Q⟩ ⟨yI,yJ,vQ⟩ jo zB zC).d):=by rw[Ht];exact uA.zero q
  have LU:Hid ((aJ.mk ⟨zy,zz,C⟩ ⟨zA,au,Q⟩ ⟨yI,yJ,vQ⟩ jo zB zC).At Y4):=by rw[Ht];exact aJ.At.zero _
  have rM:Hid ((aJ.mk ⟨BZ,Ca,L⟩ ⟨Dr,Dt,R⟩ ⟨vP,aj,qR⟩ ko Du Dv).At Y4/\∀Z',Kept (Mine (M (H w0)) (M (H W)+2) b u2) Y4 Z'->(aJ.mk ⟨BZ,Ca,L⟩ ⟨Dr,Dt,R⟩ ⟨vP,aj,qR⟩ ko Du Dv).At Z'):=KR HZ.o (ZE VA.o.1 λ_ h _=>h) bf (λy _ h=>h);obtain⟨u3,bQ⟩:=eY (u2);obtain⟨s3,aK⟩:=eY (s2);obtain⟨A,hA⟩:=eY (Y4);rw[<-bQ,<-aK,<-hA]at EJ;rw[<-aK]at Eh;rw[<-hA]at Oo gR LU m0;rw[<-bQ,<-hA]at rM;have qZ:=Zh EJ.o;rw[<-hA];have gL:=Oo;clear HO uk HP IX KS M9 Ht bQ aK HZ EJ Oo;clear hA;go_cut [104] from 94 to 103 (λc wx=>c=Qo F/\A=wx)
  case first=>
   by_cases h3:3<=r
   .have h5:¬r<=5:=λh=>RN ⟨h3,h⟩
    go_wp2_with fail;go_meet;exact⟨rfl,rfl⟩
   .go_wp2_with fail;go_meet;exact⟨rfl,rfl⟩
  obtain⟨rfl,rfl⟩:=hcut;go_upto_region 15 with fail;clear m0 RN
 case' pos=>
  obtain⟨h3,h5⟩:=RN;have cz:=IX.o nr Y4 _ _ EJ.o;have m2:=EJ.o.gN.at 2;go_wp2_with fail;refine cz.mono ?_;clear cz m2 m0;rintro e Y5 hq;obtain⟨rv,rfl,Ht⟩:=hq.out;obtain⟨HK,VB⟩:=bV hq.kept (Vs.no EJ.o hq.kept);have aL:=BS.o;have bg:=GN.o;have VD:=M9.of (hq.kept.block _ M9.lt ⟨X,own_ne EJ.o.tree M9 Qd⟩);have bq:=Oo.of (hq.kept.block _ Oo.lt ⟨X,own_ne EJ.o.tree Oo Qd⟩);obtain⟨⟨zy,zz,C⟩,⟨zA,au,Q⟩,⟨yI,yJ,vQ⟩,jo,zB,zC⟩:=rv;obtain⟨A,hA⟩:=eX (World.iC Y5 (M (H Y2)+1) (aJ.mk ⟨zy,zz,C⟩ ⟨zA,au,Q⟩ ⟨yI,yJ,vQ⟩ jo zB zC));have IK:=XD Y5 (M (H Y2)+1) (aJ.mk ⟨zy,zz,C⟩ ⟨zA,au,Q⟩ ⟨yI,yJ,vQ⟩ jo zB zC);have gR:=World.lX VD (aJ.mk ⟨zy,zz,C⟩ ⟨zA,au,Q⟩ ⟨yI,yJ,vQ⟩ jo zB zC);rw[hA]at IK gR;have gL:=bq.of (IK.block _ bq.lt X);have g0:=VB.o.2.1.of (IK.block _ VB.o.2.1.lt X);have cO:=VB.o.1.trans' IK (λx hx _=>by show x≠M (H Y2)+1;omega);simp only[World.iC,aJ.cells,ai.val]at hA ⊢;have hc:=VD.k6;have hf:=GB.f6 VD;obtain⟨OR,bR⟩:=eY (fG ts q pl f i nr s2);rw[<-bR]at Ht ⊢;obtain⟨Lu,M8,Ot,Hy⟩:=L6 bR IK (And.intro gL (And.intro gR (And.intro g0 cO))) VD;clear bR hq IK gL gR g0 cO M9 Oo bq VD aL bg;go_upto_region 15 with fail;clear hA hc hf;rcases OR with _|⟨rd,s3⟩
  .obtain rfl:Oq=none:=by rw[HO.o,rX uk.o HP.o ⟨h3,h5⟩,<-KS.o];show (fG ts q pl f i nr s2).bind _=_;rw[<-Lu.o];rfl
   obtain⟨cK,iK⟩:=Bp.o A Ot.o.2.2.2 Ot.o.2.2.1;have hc:=Ot.o.2.2.1.k6;have hf:=GB.f6 Ot.o.2.2.1;clear HO uk HP IX Bp mq nT KS Ht Lu M8 Ot Hy VB HK EJ;go_wp2;exact Xy (XE (p:=4) (u:=5) (x:=Qo F) rfl rfl rfl iK.o) rfl cK.o
  obtain⟨e1,u3,bS,bT,dH⟩:=Ht _ rfl;simp only at e1 bS;subst e1;have Eh:Hid (Oq=(fA ts q ⟨r,nl,nr,j,⟨Bh,Bi,lF⟩,key,⟨wP,wQ,kC⟩⟩ (aJ.mk ⟨BZ,Ca,L⟩ ⟨Dr,Dt,R⟩ ⟨vP,aj,qR⟩ ko Du Dv).d (aJ.mk ⟨zy,zz,C⟩ ⟨zA,au,Q⟩ ⟨yI,yJ,vQ⟩ jo zB zC).d).map λv=>(v,s3)):=by show _=_;rw[HO.o,rX uk.o HP.o ⟨h3,h5⟩,<-KS.o];show (fG ts q pl f i nr s2).bind _=_;rw[<-Lu.o];rfl
  have KW:=Zh (yK Lu.o.symm);have aL:=BS.o;have bg:=GN.o;obtain⟨qZ,LU,rM⟩:=kH (Vs.store (Vs.went EJ.o HK.o bS bT (tQ BX EJ.o.nd.1 EJ.o.nd.2 Lu.o.symm)) Hy.o X M8.o) (dH A (M8.o.mono λy _ hm e=>Qj hm.1)) (KR (m':=M (H W)+2) (u3:=u3) HZ.o (((ZE VA.o.1 λ_ h _=>h).trans' HK.o λy _ hm=>hm.2).trans' M8.o λy hy _=>by show y≠M (H Y2)+1;omega) bf (λy hy h=>h.next bT X));have gL:=Ot.o.1;have gR:=Ot.o.2.1;clear HO uk HP IX KS Ht Lu M8 Ot Hy VB HK EJ bS bT dH aL bg h3 h5 HZ
 all_goals
  have m0:=qZ.o.gN.at 0;have l3:=gL.at 3;have r3:=gR.at 3;have Tu:=Zh (fO ts q ⟨r,nl,nr,j,⟨Bh,Bi,lF⟩,key,⟨wP,wQ,kC⟩⟩ (aJ.mk ⟨BZ,Ca,L⟩ ⟨Dr,Dt,R⟩ ⟨vP,aj,qR⟩ ko Du Dv).d (aJ.mk ⟨zy,zz,C⟩ ⟨zA,au,Q⟩ ⟨yI,yJ,vQ⟩ jo zB zC).d);obtain⟨AB,LH⟩:∃AB,AB=(jo ||(ko != decide (r=10))):=⟨_,rfl⟩;have HA:=Zh LH;have tJ:Hid (fC ts q ⟨r,nl,nr,j,⟨Bh,Bi,lF⟩,key,⟨wP,wQ,kC⟩⟩ (aJ.mk ⟨BZ,Ca,L⟩ ⟨Dr,Dt,R⟩ ⟨vP,aj,qR⟩ ko Du Dv).d (aJ.mk ⟨zy,zz,C⟩ ⟨zA,au,Q⟩ ⟨yI,yJ,vQ⟩ jo zB zC).d=(!AB&&decide (N (ak L C)=N L+N C)&&dh ts q lF (ak L C)&&qh ts q ⟨r,nl,nr,j,⟨Bh,Bi,lF⟩,key,⟨wP,wQ,kC⟩⟩ (aJ.mk ⟨BZ,Ca,L⟩ ⟨Dr,Dt,R⟩ ⟨vP,aj,qR⟩ ko Du Dv).d (aJ.mk ⟨zy,zz,C⟩ ⟨zA,au,Q⟩ ⟨yI,yJ,vQ⟩ jo zB zC).d)):=by show _=_;rw[LH];rfl
  have aA:Hid (fC ts q ⟨r,nl,nr,j,⟨Bh,Bi,lF⟩,key,⟨wP,wQ,kC⟩⟩ (aJ.mk ⟨BZ,Ca,L⟩ ⟨Dr,Dt,R⟩ ⟨vP,aj,qR⟩ ko Du Dv).d (aJ.mk ⟨zy,zz,C⟩ ⟨zA,au,Q⟩ ⟨yI,yJ,vQ⟩ jo zB zC).d=F->Oq=Qp):=λh=>by rw[Eh.o,Tu.o,h];rfl
  clear LH;go_cut [126] from 113 to 125 (λc wx=>c=Qo AB/\A=wx)
  case first=>
   obtain⟨dX,MQ,dZ⟩:∃d,(r==10)=d/\Hid (decide (r=10)=d):=⟨_,rfl,rfl⟩;rw[dZ.o]at HA;cases dX <;> cases jo <;> cases ko
   all_goals
    go_wp2_with fail;go_meet;exact⟨by rw[HA.o];rfl,rfl⟩
  obtain⟨rfl,rfl⟩:=hcut;clear l3 r3 HA;rcases AB with _|_
  rotate_left
  .obtain rfl:Oq=none:=aA.o (by rw[tJ.o];rfl);obtain⟨cK,iK⟩:=Bp.o A qZ.o.kept qZ.o.gR;have hc:=qZ.o.gR.k6;have hf:=GB.f6 qZ.o.gR;clear Eh Tu tJ aA Bp mq nT KW KU rM LU qZ gL gR m0;go_wp2;exact Xy (XE (p:=4) (u:=5) (x:=Qo F) rfl rfl rfl iK.o) rfl cK.o
  obtain⟨l0,l1,l2⟩:=gL.k3;obtain⟨r0,r1⟩:=gR.k2;have Na:=uA.M5 KU.o;have KX:=uA.RF KU.o;have Nb:=uA.M5 KW.o;have VE:=uA.RF KW.o;have bu:=mq.o.Cc.five;have bA:=mq.o.Cc.eight;simp only[aJ.d,aJ.cells,ai.val]at Na KX Nb VE l0 l1 l2 r0 r1;have eP:N (ak L C)<=10:=Qj (eZ (m:=C) (l:=L));have dN:N (ak R Q)<=16:=Qj (eZ (m:=Q) (l:=R));have bB:=Zh λ(x:U) (hb:Bw A x)=>uW BZ zy Ca zz L C x (Q7 hb rM.o.1.1.1) (Q7 hb LU.o.1.1) rM.o.1.1.2 X;have aP:=Zh λ(x:U) (hb:Bw A x)=>uW Dr zA Dt au R Q x (Q7 hb rM.o.1.2.1.1) (Q7 hb LU.o.2.1.1) rM.o.1.2.1.2 X;have KY:=Zh λ(z:U) (B:Nat) (t:Bw A z) (gB:GB z B 40 #[Z Qp 0 0,Z Qp 0 0,Z Qp 0 0,Qo F,I Qn 0,I Qn 0]) (hB:M (H A)<=B) (a1 a2:JW) (c1 c2:Nat) (o1:z.ownsRow (M (H A)) 3 1 (Z a1 (N (ak L C)) c1) (N (ak L C)) ((ak L C).map (Value.int J))) (o2:z.ownsRow (M (H A)) 3 1 (Z a2 (N (ak R Q)) c2) (N (ak R Q)) ((ak R Q).map (Value.int J)))=>v17 Qd t gB hB o1 o2 ⟨vP,aj,qR⟩;simp only[World.iC,aJ.cells,ai.val,Int.natCast_zero]at KY;have dO:=bu;clear Na KX Nb VE bu bA dO;go_upto_region 17 with fail;go_cut [12] from 128 to 140 (λp wx=>∃(B:Nat) (a1 a2:JW) (c1 c2:Nat),p=Y (O (aD B 0))/\Bw A wx/\M (H A)<=B/\GB wx B 40 #[Z a1 (N (ak L C)) c1,Z a2 (N (ak R Q)) c2,Z vP (N qR) aj,Qo F,I Qn 0,I Qn 0]/\Hid (wx.ownsRow (M (H A)) 3 1 (Z a1 (N (ak L C)) c1) (N (ak L C)) ((ak L C).map (Value.int J))/\wx.ownsRow (M (H A)) 3 1 (Z a2 (N (ak R Q)) c2) (N (ak R Q)) ((ak R Q).map (Value.int J))))
  case first=>
   refine wH A λt=>?_;refine II 0 t ?_;refine II 5 t ?_;refine wA2 10 t ?_;have aR:=t.size;refine wJ 4 13 (λK G=>?_) λK G=>?_
   case' refine_1=>
    go_simp;refine(bB.o _ t).mono ?_;rintro e y1 ⟨v1,rfl,aG,aa⟩;obtain⟨a1,c1,rfl,-⟩:=dY aG X;refine oT G t aa λaB=>?_;clear G K;refine wJ 9 13 (λK G=>?_) λK G=>?_
    case' refine_1=>
     go_simp;refine(aP.o _ aB).mono ?_;rintro e y2 ⟨v2,rfl,aF,av⟩;obtain⟨a2,c2,rfl,-⟩:=dY aF X;refine oT G aB av λaz=>?_;clear G K;refine IG 12 az ?_;obtain⟨z,hz,ax,gB⟩:=aY y2 #[Z Qp 0 0,Z Qp 0 0,Z Qp 0 0,Qo F,I Qn 0,I Qn 0] 40;refine wR 13 λK G=>?_;go_simp;refine oT G az ax λaH=>?_;clear G K hz;have hE:=Zh (KY.o z _ aH gB az.size a1 a2 c1 c2 (Xt (Xt (iN aG aR) av) ax) (Xt (iN aF aB.size) ax))
    case' refine_2=>
     obtain⟨y2,hz,ax,gB⟩:=aY y1 #[Z Qp 0 0,Z Qp 0 0,Z Qp 0 0,Qo F,I Qn 0,I Qn 0] 40;go_simp;refine oT G aB ax λaz=>?_;clear G K hz;refine wR 9 λK G=>?_;go_simp;refine(aP.o _ az).mono ?_;rintro e z ⟨v2,rfl,aF,av⟩;obtain⟨a2,c2,rfl,-⟩:=dY aF X;refine oT G az av λaH=>?_;clear G K;refine IG 12 aH ?_;have gB:=gB.of (av.block _ gB.lt);have hE:=Zh (KY.o z _ aH gB aB.size a1 a2 c1 c2 (Xt (Xt (iN aG aR) ax) av) (iN aF az.size))
   case' refine_2=>
    obtain⟨y1,hz,ax,ed⟩:=aY A.drew #[Z Qp 0 0,Z Qp 0 0,Z Qp 0 0,Qo F,I Qn 0,I Qn 0] 40;have gB:GB y1 (M (H A)) 40 #[Z Qp 0 0,Z Qp 0 0,Z Qp 0 0,Qo F,I Qn 0,I Qn 0]:=ed;go_simp;refine oT G t ax λaB=>?_;clear G K hz;refine wR 4 λK G=>?_;go_simp;refine(bB.o _ aB).mono ?_;rintro e y2 ⟨v1,rfl,aG,aa⟩;obtain⟨a1,c1,rfl,-⟩:=dY aG X;refine oT G aB aa λaz=>?_;clear G K;refine wR 9 λK G=>?_;go_simp;refine(aP.o _ az).mono ?_;rintro e z ⟨v2,rfl,aF,av⟩;obtain⟨a2,c2,rfl,-⟩:=dY aF X;refine oT G az av λaH=>?_;clear G K;refine IG 12 aH ?_;have gB:=(gB.of (aa.block _ gB.lt)).of (av.block _ (gB.of (aa.block _ gB.lt)).lt);have hE:=Zh (KY.o z _ aH gB aR a1 a2 c1 c2 (Xt (iN aG aB.size) av) (iN aF az.size))
   all_goals
    have hc:=gB.k6;have hf:=GB.f6 gB;clear aG aF;refine wR 14 λK G=>?_;go_simp;refine G.o _ _ hE.o.1 λeT=>?_;clear G K;refine wD ?_;try simp only[pU]
    go_wp2_with fail;go_meet;exact⟨_,a1,a2,c1,c2,rfl,hE.o.1,by first|exact az.size|exact aB.size|exact aR,hE.o.2.1,hE.o.2.2⟩
  obtain⟨B,a1,a2,c1,c2,rfl,aT,hB,gB,bU⟩:=hcut;have Yn:Hid (Vb A B ⟨⟨a1,c1,ak L C⟩,⟨a2,c2,ak R Q⟩,⟨vP,aj,qR⟩,F,0,0⟩ wc):=⟨aT,hB,gB,bU.o.1,bU.o.2⟩;obtain⟨ek,eu⟩:=iA aT l0 r0;have dP:=gB.at 0;have IZ:=Zh (Vs.below qZ.o aT);have Yo:=IZ.o.gN.at 4;clear l0 l1 l2 r0 r1 bB aP KY gB bU m0 aT hB;by_cases aI:N (ak L C)=N L+N C
  rotate_left
  .obtain rfl:Oq=none:=aA.o (by rw[tJ.o,ZL aI];rfl);have cZ:((N (ak L C):Int) != (N L:Int)+N C)=true:=Qi
   have Na:=uA.M5 KU.o;have Nb:=uA.M5 KW.o;have bu:=mq.o.Cc.five;simp only[aJ.d]at Na Nb;obtain⟨cK,iK⟩:=Bp.o wc IZ.o.kept IZ.o.gR;have hc:=IZ.o.gR.k6;have hf:=GB.f6 IZ.o.gR;clear Eh Tu tJ aA Bp mq nT KW KU rM LU qZ gL gR Yn IZ Yo aI;have dQ:N L<=5:=X;have dR:N C<=5:=X;generalize N (ak L C)=wl at*;go_wp2;exact Xy (XE (p:=4) (u:=5) (x:=Qo F) rfl rfl rfl iK.o) rfl cK.o
  have Me:=Zh aI;have cZ:((N (ak L C):Int) != (N L:Int)+N C)=false:=Qi;have df:=Dq b ao Bh a1 cap Bi c1 ts q lF (ak L C) wc IZ.o.tree.tree (mq.o.cat.below IZ.o.base) mq.o.Cc (mq.o.query.below IZ.o.base) (Q7 IZ.o.base nT.o.1) (kW Yn.o.s (by show N (ak L C)<=1000;omega)).1;obtain⟨Po,Sq⟩:=bV (Dy (ts:=ts) (q:=q) (l:=lF) (s:=ak L C)) (ig (ts:=ts) (q:=q) (l:=lF) (s:=ak L C));generalize dh ts q lF (ak L C)=lb at*;have dQ:N L<=10:=X;have dR:N C<=10:=X;clear aI;go_wp2_with fail;refine df.mono ?_;clear df Yo ek eu dP cZ;rintro e Z6 ⟨rfl,bW⟩;obtain⟨Bq,Ou⟩:=bV (Yn.o.below bW) (Vs.below IZ.o bW);clear Yn IZ bW;rcases lb with _|_
  .obtain rfl:Oq=none:=aA.o (by rw[tJ.o,Bool.and_false,Xl]);obtain⟨cK,iK⟩:=Bp.o Z6 Ou.o.kept Ou.o.gR;have hc:=Ou.o.gR.k6;have hf:=GB.f6 Ou.o.gR;clear Eh Tu tJ aA Bp mq nT KW KU rM LU qZ gL gR Bq Ou Po Sq Me;go_wp2;exact Xy (XE (p:=4) (u:=5) (x:=Qo F) rfl rfl rfl iK.o) rfl cK.o
  have dS:=Po.o rfl;have VF:=Zh (Sq.o rfl);have bA:=mq.o.Cc.eight;have eQ:N (ak (ak R Q) lF)<=24:=Qj (eZ (m:=lF) (l:=ak R Q));have Lr:=uW a2 Bh c2 Bi (ak R Q) lF Z6 (kW Bq.o.c (by show N (ak R Q)<=1000;omega)).1 (Q7 Ou.o.base nT.o.1) (kW Bq.o.c (by show N (ak R Q)<=1000;omega)).2.1 X;have Yo:=Ou.o.gN.at 4;have VG:=Bq.o.g.at 1;clear Po Sq Ou Bp;simp only[ai.val]at VG;go_wp2_with fail;refine Lr.mono ?_;clear Lr Yo VG;rintro e w7 ⟨v2,rfl,MJ,lu⟩;obtain⟨a3,c3,rfl,-⟩:=dY MJ X;have xz:=Zh ((Bq.o.below lu).set ⟨⟨a1,c1,ak L C⟩,⟨a3,c3,ak (ak R Q) lF⟩,⟨vP,aj,qR⟩,F,0,0⟩ 1 rfl rfl (iN MJ Bq.o.b.size));have bC:=(Bq.o.below lu).g;have VG:=bC.at 1;have dU:=bC.frozen 1;clear MJ lu Bq bC;simp only[ai.val]at xz VG;go_upto_region 24 with fail;clear VG dU;generalize Ql w7 (aD B 1) (Z a3 (N (ak (ak R Q) lF)) c3)=Z7 at*;have RO:=Zh (Vs.below qZ.o xz.o.b);have KX:=uA.RF KU.o;simp only[aJ.d]at KX;have bD:=KM b ao cap ts q ⟨r,nl,nr,j,⟨Bh,Bi,lF⟩,key,⟨wP,wQ,kC⟩⟩ (aJ.mk ⟨BZ,Ca,L⟩ ⟨Dr,Dt,R⟩ ⟨vP,aj,qR⟩ ko Du Dv) (aJ.mk ⟨zy,zz,C⟩ ⟨zA,au,Q⟩ ⟨yI,yJ,vQ⟩ jo zB zC) Z7 RO.o.tree.tree (mq.o.cat.below RO.o.base) mq.o.Cc (mq.o.query.below RO.o.base) (Q7 RO.o.base nT.o.1) (Q7 RO.o.base nT.o.2) (Q7 xz.o.b rM.o.1.1.1) (Q7 xz.o.b rM.o.1.2.2) (Q7 xz.o.b LU.o.1.1) (Q7 xz.o.b LU.o.2.2) (by show N R<=1000;omega) (λh=>VF.o _ h);have hO:=Eh.o;rw[Tu.o,tJ.o,Zg Me.o]at hO;generalize qh ts q ⟨r,nl,nr,j,⟨Bh,Bi,lF⟩,key,⟨wP,wQ,kC⟩⟩ (aJ.mk ⟨BZ,Ca,L⟩ ⟨Dr,Dt,R⟩ ⟨vP,aj,qR⟩ ko Du Dv).d (aJ.mk ⟨zy,zz,C⟩ ⟨zA,au,Q⟩ ⟨yI,yJ,vQ⟩ jo zB zC).d=kb at*;have di:=Zh hO;simp only[ag.cells,aJ.cells,ai.val]at bD gR;have dV:=RO.o.gN.k7;have bE:=(gL.of (xz.o.b.block _ gL.lt)).k6;have bF:=(gR.of (xz.o.b.block _ gR.lt)).k6;clear hO Eh Tu tJ aA Me VF dS bA KX dN;go_wp2_with fail;refine bD.mono ?_;clear bD dV bE bF RO;rintro e Z8 ⟨rfl,zN⟩;have vU:=Zh (xz.o.below zN);have bG:=Zh (Vs.below qZ.o vU.o.b);have n0:=bG.o.gN.at 0;have n6:=bG.o.gN.at 6;have w2:=vU.o.g.at 2;have w3:=vU.o.g.at 3;have y2:=vU.o.g.frozen 2;have y3:=vU.o.g.frozen 3;clear zN xz bG;obtain⟨ob,eB,Ur⟩:∃ob,decide (7<=r)=ob/\Hid (decide (7<=r)=ob):=⟨_,rfl,rfl⟩;by_cases k6:r=6
  case' pos=>
   have Re:(r==6)=true:=by simp[k6]
   obtain⟨⟨oa,oc,ox⟩,ho⟩:∃o:ai,ai.mk wP wQ kC=o:=⟨_,rfl⟩;have Yp:Hid ((∀Zq Z',Bw A Zq->Kept (Mine (M (H w0)) (M (H W)+2) b u3) Zq Z'->IntsAt Z' oa ox)/\(if r=6 then kC else qR)=ox):=by cases ho;exact⟨λZq Z' hZ hk=>M6 nT.o.2 (ah qZ.o.base hZ) (λx hx=>qZ.o.tree.old x hx) hk,Q8 k6⟩
   have qV:=Zh ((vU.o.set ⟨⟨a1,c1,ak L C⟩,⟨a3,c3,ak (ak R Q) lF⟩,⟨wP,wQ,kC⟩,F,0,0⟩ 2 rfl rfl vU.o.c));have qV:=Zh ((qV.o.set ⟨⟨a1,c1,ak L C⟩,⟨a3,c3,ak (ak R Q) lF⟩,⟨wP,wQ,kC⟩,ob,0,0⟩ 3 rfl rfl qV.o.c));simp only[ai.val]at qV;clear vU k6;go_upto_region 28 with fail;generalize Ql (Ql Z8 (aD B 2) (Z wP (N kC) wQ)) (aD B 3) (Qo ob)=Z9 at*;rw[ho]at qV;clear ho
  case' neg=>
   have Re:(r==6)=false:=by simp[k6]
   obtain⟨⟨oa,oc,ox⟩,ho⟩:∃o:ai,ai.mk vP aj qR=o:=⟨_,rfl⟩;have Yp:Hid ((∀Zq Z',Bw A Zq->Kept (Mine (M (H w0)) (M (H W)+2) b u3) Zq Z'->IntsAt Z' oa ox)/\(if r=6 then kC else qR)=ox):=by cases ho;exact⟨λZq Z' hZ hk=>(rM.o.2 Z' ((ZE hZ λ_ h _=>h).trans' hk λ_ _ h=>h)).2.2,Zf k6⟩
   have qV:=Zh ((vU.o.set ⟨⟨a1,c1,ak L C⟩,⟨a3,c3,ak (ak R Q) lF⟩,⟨vP,aj,qR⟩,ob,0,0⟩ 3 rfl rfl vU.o.c));clear vU;go_upto_region 28 with fail;generalize Ql Z8 (aD B 3) (Qo ob)=Z9 at*;rw[ho]at qV;clear ho k6
  all_goals
   clear n0 n6 w2 w3 y2 y3 eB Re;have Yr:=Zh (Vs.below qZ.o qV.o.b);have aL:=qU ts q (ak L C) (ak (ak R Q) lF);have dm:=Az ao a1 a3 cap c1 c3 ts q (ak L C) (ak (ak R Q) lF) Z9.drew (mq.o.cat.below Yr.o.base.drew) mq.o.Cc.cat (mq.o.query.below Yr.o.base.drew) mq.o.Cc.five mq.o.Cc.src mq.o.Cc.eight mq.o.Cc.aO (kW qV.o.s (by show N (ak L C)<=1000;omega)).1 (aQ.with KU.o.dA KW.o.dA) (kW qV.o.c (by show N (ak (ak R Q) lF)<=1000;omega)).1;have Yt:=Zh di.o;simp only[aJ.d]at Yt;rw[Yp.o.2,Ur.o]at Yt;generalize dJ ts q (ak L C) (ak (ak R Q) lF)=SZ at*;have zl:=λZq=>Be r SZ (aJ.mk ⟨BZ,Ca,L⟩ ⟨Dr,Dt,R⟩ ⟨vP,aj,qR⟩ ko Du Dv) (aJ.mk ⟨zy,zz,C⟩ ⟨zA,au,Q⟩ ⟨yI,yJ,vQ⟩ jo zB zC) Zq aL KU.o.size KU.o.cost KW.o.size KW.o.cost;simp only[aJ.cells,ai.val,aJ.d]at zl;generalize jE r SZ (bn.mk L R qR ko Du Dv) (bn.mk C Q vQ jo zB zC)=CT at*;have jO:=Zh zl;clear di Ur zl aL;obtain⟨t0,t1,t2,t3,t4,t5,t6,t7,-⟩:=Yr.o.tree.g.k9;obtain⟨aV,aW⟩:=qV.o.g.k2;simp only[ai.val]at t1 t4 t5 t6 t7 aV aW;have Ov:b≠B:=by have:=GN.o;have:=qZ.o.gN.lt;have:=qV.o.lo;omega
   clear Yr;refine ZA (S:=λx=>Kept (λy=>y≠B) Z9 x/\x.cell? (aD B 0)=O (Z a1 (N (ak L C)) c1)/\x.cell? (aD B 1)=O (Z a3 (N (ak (ak R Q) lF)) c3)) Qe ⟨ZE ((Q5 (M (H Z9)) Z9).drew) (λ_ hl _=>hl),aV,aW⟩ (λt=>?_);refine wt 0 (Y (O (aD b 0))) t ?_;refine wt 1 (Y (O (aD b 0))) t ?_;refine wt 2 (Y (O (aD b 0))) t ?_;refine wT 3 (Z ao (N ts) cap) t (λx hx=>?_) ?_
   .have e0:=ZF t0 hx.1 Ov;go_simp
   refine wt 4 (Y (O (aD b 0))) t ?_;refine wt 5 (Y (O (aD b 0))) t ?_;refine wt 6 (Y (O (aD b 1))) t ?_;refine wT 7 (.agg q.cells) t (λx hx=>?_) ?_
   .have e1:=ZF t1 hx.1 Ov;have e2:=ZF t2 hx.1 Ov;have e3:=ZF t3 hx.1 Ov;have e4:=ZF t4 hx.1 Ov;have e5:=ZF t5 hx.1 Ov;have e6:=ZF t6 hx.1 Ov;have e7:=ZF t7 hx.1 Ov;simp only[ae.cells,ai.val];go_simp
   refine wt 8 (Y (O (aD B 0))) t ?_;refine wT 9 (Z a1 (N (ak L C)) c1) t (λx hx=>?_) ?_
   .have e0:=hx.2.1;go_simp
   refine wt 10 (Y (O (aD B 1))) t ?_;refine wT 11 (Z a3 (N (ak (ak R Q) lF)) c3) t (λx hx=>?_) ?_
   .have e0:=hx.2.2;go_simp
   refine wR 12 λK G=>?_;go_simp;refine Xx dm ?_;clear dm;rintro e dI ⟨rfl,Ow⟩;have Ib:Bw Z9 dI:=((Q5 _ _).drew).trans Ow;refine G.o _ _ ⟨ZE Ib (λ_ hl _=>hl),cB Ib aV,cB Ib aW⟩ (λt=>?_);clear G K Ow;refine wt 13 (Y (O (aD B 4))) t ?_;have Br:=Zh (qV.o.below Ib);have w4:=Br.o.g.at 4;have y4:=Br.o.g.frozen 4;have tX:=Zh (Br.o.set ⟨⟨a1,c1,ak L C⟩,⟨a3,c3,ak (ak R Q) lF⟩,⟨oa,oc,ox⟩,ob,SZ,0⟩ 4 rfl rfl Br.o.c);refine wR 14 λK G=>?_;go_simp;refine G.o _ _ ⟨(ZE Ib (λ_ hl _=>hl)).trans (vS _ _ _ _),tX.o.g.at 0,tX.o.g.at 1⟩ (λt=>?_);clear G K t w4 y4 aV aW t0 t1 t2 t3 t4 t5 t6 t7 Br qV Ib;refine wD ?_;try simp only[pU]
   generalize Ql dI (aD B 4) (I Qn (SZ:Int))=Z11 at*;have VH:=Zh (Vs.below qZ.o tX.o.b);have zl:=jO.o Z11;have m0:=VH.o.gN.at 0;have w4:=tX.o.g.at 4;have bE:=(gL.of (tX.o.b.block _ gL.lt)).k6;have bF:=(gR.of (tX.o.b.block _ gR.lt)).k6;clear VH jO;go_wp2_with fail;refine zl.mono ?_;clear zl m0 w4 bE bF;rintro e eD ⟨rfl,VI⟩;have Bt:=Zh (tX.o.below VI);have w5:=Bt.o.g.at 5;have y5:=Bt.o.g.frozen 5;have vV:=Zh (Bt.o.set ⟨⟨a1,c1,ak L C⟩,⟨a3,c3,ak (ak R Q) lF⟩,⟨oa,oc,ox⟩,ob,SZ,CT⟩ 5 rfl rfl Bt.o.c);clear tX Bt VI;go_upto_region 30 with fail;clear w5 y5;generalize Ql eD (aD B 5) (I Qn (CT:Int))=Z13 at*;obtain⟨hE,hL⟩:=Om (qZ.o.below vV.o.b) (v:=⟨⟨a1,c1,ak L C⟩,⟨a3,c3,ak (ak R Q) lF⟩,⟨oa,oc,ox⟩,ob,SZ,CT⟩) (o:=Oq) (ok:=kb) (by rw[Yt.o];cases kb <;> rfl) (λZ' hk=>by
    have h1:M (H W)+2<=M (H A):=qZ.o.gN.lt;have h2:=GN.o;have h3:=λg (e:u3.ownBlock=O g)=>(ZJ qZ.o.tree.own e).2;exact⟨Bo vV.o.s (by show N (ak L C)<=1000;omega) h1 X h3 hk,Bo vV.o.c (by show N (ak (ak R Q) lF)<=1000;omega) h1 X h3 hk,Yp.o.1 Z13 Z' vV.o.b hk⟩)
   obtain⟨cK,iK⟩:=bV hE hL;simp only[World.iC,aJ.cells,ai.val]at cK iK;have RJ:=(qZ.o.below vV.o.b).gR;have hc:=RJ.k6;have hf:=GB.f6 RJ;have hw:=vV.o.g.k6;simp only[ai.val]at hw;clear hE hL RJ vV Yp Yt qZ gL gR rM LU mq nT KU KW;go_wp2;exact Xy (XE (p:=4) (u:=5) (x:=Qo kb) rfl rfl rfl iK.o) rfl cK.o
def vW(w0:U)(b:Nat)(ao po:JW)(cap aU:Nat)(ts:Qu af)(q:ae)(pl:Qu ag)(D:EH w0 ao po ts q pl):∀f,VC w0 b ao po cap aU ts q pl f:=by
 intro f
 induction f with
 |zero=>intro i W seen e a;omega
 |succ f ih=>exact λi W seen e a g j k hd l d=>Ia w0 b ao po cap aU ts q pl D f i ih X W seen e g j k hd l d
