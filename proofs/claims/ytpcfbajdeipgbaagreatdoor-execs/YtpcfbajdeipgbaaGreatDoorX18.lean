import Derived.Test.YtpcfbajdeipgbaaGreatDoorX09
set_option linter.all false
set_option maxRecDepth 100000
set_option maxHeartbeats 0
namespace Go.Proofs.Zz
open Go.RowKit Go.Shelf
open List renaming length->N,getD->E
open Go.Value renaming slice->Z,int->I,pointer->Y,bool->EP
open Go.Proofs.Tryz renaming prog->V
open Option renaming some->O,none->E5
open Go.IntKind renaming i64->J,u64->Dc
open Bool renaming false->F,true->T
open Go renaming World->U,Value->KX
open Go.World renaming heap->H,setCell->qw
open _root_.Array renaming size->M
open Go.RowKit renaming Hid->Wl
variable {cO db:List aJ} {A W Z' Zq w w0:U} {B b base cap f i m n0 pcap:Nat} {e tI tV:TypeId} {a ao po:Option Addr} {ts:List ag} {q:af} {pl:List ai} {s seen:List Nat} {sv u:KX} {c:Array KX} {k:Int} {v:aW} {n:ai} {xs:List Int}
def Es(hl:N cO=N db)(hs:∀i,i<N db->(E cO i rz).rs.length=(E db i rz).rs.length/\∀j,j<(E db i rz).rs.length->((E cO i rz).rs.getD j iz).xs=((E db i rz).rs.getD j iz).xs)(i:Nat):(E cO i rz).rs.map ae.xs=(E db i rz).rs.map ae.xs:=by
 by_cases f:i<N db
 .obtain⟨k,m⟩:=hs i f;apply XT (by simpa using k);intro j b a;rw[Q8]at b a;have g:=m j a;have d:(E cO i rz).rs.getD j iz=(E cO i rz).rs[j]:=by generalize (E cO i rz).rs=l at*;simp[List.getD,b]
  have e:(E db i rz).rs.getD j iz=(E db i rz).rs[j]:=by generalize (E db i rz).rs=l at*;simp[List.getD,a]
  rw[d,e]at g;rw[XU,XU];exact g
 .have d:E db i rz=rz:=by simp[List.getD,f]
  have e:E cO i rz=rz:=by simp[List.getD,hl,f]
  rw[d,e]
def Ur(hl:N cO=N db)(hs:∀i,i<N db->(E cO i rz).rs.length=(E db i rz).rs.length/\∀j,j<(E db i rz).rs.length->((E cO i rz).rs.getD j iz).xs=((E db i rz).rs.getD j iz).xs)(i:Nat):(E cO i rz).rs.length=(E db i rz).rs.length:=by have:=congrArg N (Es hl hs i);simpa using this
def adD(hl:N cO=N db)(hs:∀i,i<N db->(E cO i rz).rs.length=(E db i rz).rs.length/\∀j,j<(E db i rz).rs.length->((E cO i rz).rs.getD j iz).xs=((E db i rz).rs.getD j iz).xs)(ts:List ag)(src:List Int):ig ts src cO = ig ts src db:=by
 unfold ig;have d:xH ts cO = xH ts db:=by
  unfold xH;rw[hl,Zf,Qn,Qn];have b:∀i,qj (E cO i rz) (E ts i tz)=qj (E db i rz) (E ts i tz):=λi=>by
   unfold qj Dw;rw[Ur hl hs i];congr 1;have h:=Es hl hs i;have e:∀(l:List ae) (n:Int),(l.all λr=>vP r.xs n)=(l.map ae.xs).all (λx=>vP x n):=λl n=>by rw[List.all_map];rfl
   rw[e,e,h]
  constructor
  .intro h i a;rw[<-b];exact h i a
  .intro h i a;rw[b];exact h i a
 have f:fH src cO = fH src db:=by unfold fH;congr 1;funext n t;rw[Ur hl hs]
 rw[d,f,hl]
section
def Eh{tT:TypeId}(h:df W b base tT tI ao po cap pcap ts q pl seen sv){R:Nat}{t:TypeId}(hg:GB W R t c)(ht:tI≠t):sv.ownBlock≠O R:=λe=>by obtain⟨a,d⟩:=lY h.own e;unfold GB at hg;simp_all
def Gg.read{plan:List ai}:∀(f i:Nat) (seen:List Nat) (v:bH) (s:List Nat),fC ts q plan f i seen=O (v,s)->Gg q v:=by
 intro f
 induction f with
 |zero=>intro i seen v s h;cases h
 |succ f ih =>
  intro i seen v s h;unfold fC at h;simp only at h;generalize E plan i nz=n at h;split at h
  .cases h
  split at h
  .split at h
   .cases h
   .rename_i hs
    injection h with h;injection h with h _;subst h;refine⟨λx d=>?_,by simp,(λx d=>by cases d),Zo,CY _ _ _ _,TJ 1 (iK ts q [n.source] []) vz vz⟩;have:x=n.source:=by simpa using d
    omega
  split at h
  .cases h
  split at h
  .cases h
  rename_i l s1 hl;have a:=ih _ _ _ _ hl;split at h
  .split at h
   .cases h
   split at h
   .cases h
   rename_i r s2 hr;have b:=ih _ _ _ _ hr
   cases hn:jg ts q n l r with
   |none=>rw[hn]at h;cases h
   |some v0 =>
    rw[hn]at h;simp only[Option.map_some]at h;injection h with h;injection h with h _;subst h;exact a.node b hn
  .cases hn:jg ts q n l vz with
   |none=>rw[hn]at h;cases h
   |some v0 =>
    rw[hn]at h;simp only[Option.map_some]at h;injection h with h;injection h with h _;subst h;exact a.node (Gg.zero q) hn
def MV{x:bH × List Nat}(h:mK ts q pl f i k seen=O x):Gg q x.1:=by
 unfold mK at h;split at h
 .cases h
 .exact Gg.read _ _ _ _ _ h
def Ei{Mq:Nat->Prop}{x:ae}(h:x.At Zq)(hm:∀a,x.ad=O a->x.xs≠[]->Mq a.block)(hk:Kept Mq Zq Z'):x.At Z':=by refine⟨h.1,λi d=>?_⟩;obtain⟨g,off,e,b⟩:=h.2 i d;refine⟨g,off,e,?_⟩;have f:g<M (H Zq):=Qj b;have j:=hk.block g f (hm _ e (λe=>by rw[e]at d;simp at d));simp only[World.cell?]at b ⊢;rw[j];exact b
structure Vs(w0 W:U)(b:Nat)(sv:KX)(ao po:Option Addr)(cap pcap:Nat)(ts:List ag)(q:af)(pl:List ai)(nc:Array KX)(Zq:U)(s:List Nat)(u:KX):Prop where
 kept:Kept (Rest b sv) W Zq
 gR:GB Zq (M (H W)) 74 #[Z E5 0 0,Z E5 0 0,Z E5 0 0,EP F,I Dc 0,I Dc 0]
 gN:GB Zq (M (H W)+1) 50 nc
 tree:df Zq b (M (H w0)) 80 3 ao po cap pcap ts q pl s u
 next:nC W sv u
 base:Bw w0 Zq
 lo:b<M (H W)/\M (H w0)<=M (H W)
 nd:s.Nodup/\∀x∈s,x<N pl
variable {w0 W Zq Z':U} {b:Nat} {sv u u':KX} {ao po:Option Addr} {cap pcap:Nat} {ts:List ag} {q:af} {pl:List ai} {nc:Array KX} {s s':List Nat}
def Vs.below(h:Vs w0 W b sv ao po cap pcap ts q pl nc Zq s u)(hb:Bw Zq Z'):Vs w0 W b sv ao po cap pcap ts q pl nc Z' s u:=
 ⟨h.kept.trans (ZA hb λ_ h _=>h),h.gR.of (hb.block _ h.gR.lt),h.gN.of (hb.block _ h.gN.lt),h.tree.below hb,h.next,aj h.base hb,h.lo,h.nd⟩
def Vs.no(h:Vs w0 W b sv ao po cap pcap ts q pl nc Zq s u)(hk:Kept (Rest b u) Zq Z'):Kept (Rest b sv) W Z'/\GB Z' (M (H W)) 74 #[Z E5 0 0,Z E5 0 0,Z E5 0 0,EP F,I Dc 0,I Dc 0]/\GB Z' (M (H W)+1) 50 nc:=by have e:=h.lo.1;exact⟨h.kept.trans' hk λx a d=>d.next h.next a,h.gR.of (hk.block _ h.gR.lt ⟨by omega,Eh h.tree h.gR (by decide)⟩),h.gN.of (hk.block _ h.gN.lt ⟨by omega,Eh h.tree h.gN (by decide)⟩)⟩
def Vs.went(h:Vs w0 W b sv ao po cap pcap ts q pl nc Zq s u)(hk:Kept (Rest b u) Zq Z')(ht:df Z' b (M (H w0)) 80 3 ao po cap pcap ts q pl s' u')(hn:nC Zq u u')(nd:s'.Nodup/\∀x∈s',x<N pl):Vs w0 W b sv ao po cap pcap ts q pl nc Z' s' u':=
 ⟨(h.no hk).1,(h.no hk).2.1,(h.no hk).2.2,ht,h.next.trans hn h.kept.size,h.base.trans (hk.below h.base.size λx a=>h.tree.old x a),h.lo,nd⟩
def Vs.store(h:Vs w0 W b sv ao po cap pcap ts q pl nc Zq s u)(gB:GB Zq B 74 c)(hB:M (H W)+2<=B)(hk:Kept (λx=>x≠B) Zq Z'):Vs w0 W b sv ao po cap pcap ts q pl nc Z' s u:=by have d:=h.lo;exact⟨h.kept.trans' hk λx a _=>by show x≠B;omega,h.gR.of (hk.block _ h.gR.lt (by omega)),h.gN.of (hk.block _ h.gN.lt (by omega)),h.tree.but (hk.mono λy _ hy e=>hy (by rw[e];exact⟨by omega,Eh h.tree gB (by decide)⟩)),h.next,h.base.trans (hk.below h.base.size λx a=>by show x≠B;omega),h.lo,h.nd⟩
def az5(hk:Kept (Rest b sv) W Zq)(g:GB Zq (M (H W)) 74 #[Z E5 0 0,Z E5 0 0,Z E5 0 0,EP F,I Dc 0,I Dc 0])(St:U->List Nat->KX->Prop)(n0:Nat) :
  Wl (VQ St n0 W b sv E5 (.returned (.tuple #[.agg Fh.cells,EP F])) (World.oQ Zq (M (H W)) Fh))/\Wl ((loadVar 74 (aD (M (H W)) 0)).run V (World.oQ Zq (M (H W)) Fh)=.ok (.agg Fh.cells) (World.oQ Zq (M (H W)) Fh)):=
 ⟨VQ.no (hk.trans' (Jo _ _ _) λx a _=>by show x≠M (H W);omega) Fh,vB (World.wX g Fh)⟩
def alO(h:Vs w0 W b sv ao po cap pcap ts q pl nc Zq s u){o:Option (bH × List Nat)}{ok:Bool}(ho:o=if ok=T then O (v.d,s) else E5)(ha:∀f,Kept (C8 (M (H w0)) (M (H W)+2) b u) Zq f->v.At f) :
  VQ (λZq s u=>df Zq b (M (H w0)) 80 3 ao po cap pcap ts q pl s u) (M (H w0)) W b sv o (.returned (.tuple #[.agg v.cells,EP ok])) (World.oQ Zq (M (H W)) v)/\(loadVar 74 (aD (M (H W)) 0)).run V (World.oQ Zq (M (H W)) v)=.ok (.agg v.cells) (World.oQ Zq (M (H W)) v):=by
 have g:=Jo Zq (M (H W)) v;have j:=h.lo;refine⟨⟨h.kept.trans' g λx a _=>by show x≠M (H W);omega,v,by rw[ho];cases ok <;> rfl,λx a=>?_⟩,vB (World.wX h.gR v)⟩
 cases ok with
 |false=>rw[ho]at a;cases a
 |true =>
  rw[ho,Qu rfl]at a;injection a with a;subst a;refine⟨rfl,u,h.tree.but (g.mono λy _ hy e=>hy (by rw[e];exact⟨by omega,Eh h.tree h.gR (by decide)⟩)),h.next,λf i=>ha f ?_⟩;refine Zy (g.mono (t:=C8 (M (H w0)) (M (H W)+2) b u) λy _ hy e=>?_) i (λy _ hy=>⟨?_,hy.2⟩)
  .have:=hy.1;omega
  .have:=hy.1;omega
end
def MW(hn:E pl i nz=n)(h:cZ n=F∨n.kind<1∨10<n.kind):fC ts q pl (f+1) i seen=none:=by unfold fC;simp_all
def Yd(hn:E pl i nz=n)(hp:cZ n=T)(hk:n.kind=1):fC ts q pl (f+1) i seen =
  if n.source<0∨(N q.src.xs:Int)<=n.source then E5 else O (⟨[n.source],[],[],F,iK ts q [n.source] [],rR 1 (iK ts q [n.source] []) vz vz⟩,seen++[i]):=by unfold fC;simp_all
theorem Ej(hn:E pl i nz=n)(hp:cZ n=T)(h2:2<=n.kind)(h10:n.kind<=10)(ha:¬(3<=n.kind/\n.kind<=5)):fC ts q pl (f+1) i seen =
  (mK ts q pl f i n.l (seen++[i])).bind λx=>(jg ts q n x.1 vz).map λv=>(v,x.2):=by rw[fC];simp only[hn];rw[QC (by grind),QC (by omega)];have a:arity n.kind≠2:=λe=>ha ((ag8 n.kind).1 (by omega));unfold mK;grind
theorem Em(hn:E pl i nz=n)(hp:cZ n=T)(ha:3<=n.kind/\n.kind<=5):fC ts q pl (f+1) i seen =
  (mK ts q pl f i n.l (seen++[i])).bind λx=>(mK ts q pl f i n.r x.2).bind λy=>(jg ts q n x.1 y.1).map λv=>(v,y.2):=by
 rw[fC];simp only[hn];rw[QC (by grind),QC (by omega)];have a:arity n.kind=2:=by unfold arity;grind
 unfold mK;grind
theorem Fu{v:bH}(Ff:i<N pl)(hd:seen.Nodup)(hl:∀x∈seen,x<N pl)(h:mK ts q pl f i k seen=O (v,s)):s.Nodup/\∀x∈s,x<N pl:=by
 unfold mK at h;split at h
 .cases h
 .rename_i hk
  have d:¬k<0:=λe=>hk (.inl e);have g:¬(i:Int)<=k:=λe=>hk (.inr (.inl e));have b:k.toNat ∉ seen:=λe=>hk (.inr (.inr e));obtain⟨_,j,m,l⟩:=vL ts q pl f k.toNat seen v s b h;subst j;refine⟨?_,λx a=>?_⟩
  .grind
  .rcases Ze.1 a with a|a
   .exact hl x a
   .have:=La (BG pl) k.toNat k.toNat (Qs _) x a;omega
theorem Ye{l s:List Int}(h:dF ts q l s=T):N l<=N q.wh:=by
 have b:=lX h;unfold dF at h;rw[Qn]at h;have a:∀i,i<N l->(i:Int)<=E l i 0:=by
  intro i
  induction i with
  |zero=>simp_all
  |succ i ih =>
   grind
 grind
def pJ{base':Nat}{v:KX}{n:Nat}{xs:List KX}(h:w.ownsRow base e 1 v n xs)(hl:base'<=base):w.ownsRow base' e 1 v n xs:=by
 refine⟨h.1,?_⟩;rcases h.2 with a|⟨g,c,b,a,f,d⟩
 .exact .inl a
 .exact .inr ⟨g,c,b,a,by omega,d⟩
def Gh{w':U}{v:KX}{n:Nat}{xs:List KX}(h:w.ownsRow base tI 1 v n xs)(gB:GB w B tV c)(ht:tI≠tV)(hk:Kept (λx=>x≠B) w w'):w'.ownsRow base tI 1 v n xs:=
 Xe h hk λg b e=>by obtain⟨d,a⟩:=lY h b;unfold GB at gB;rw[e,gB]at a;injection a with a;injection a with _ a;exact ht a.symm
def v17{z:U}(ht:tI≠tV)(hS:Bw A z){a0 a1' a2' a3 a4 a5:KX}(gB:GB z B tV #[a0,a1',a2',a3,a4,a5])(hB:M (H A)<=B){a1 a2:Option Addr}{c1 c2:Nat}{x1 x2:List Int}(o1:z.ownsRow (M (H A)) tI 1 (Z a1 (N x1) c1) (N x1) (x1.map (Value.int J)))(o2:z.ownsRow (M (H A)) tI 1 (Z a2 (N x2) c2) (N x2) (x2.map (Value.int J)))(o:ae) :
  Bw A (World.oQ z B (aW.mk ⟨a1,c1,x1⟩ ⟨a2,c2,x2⟩ o F 0 0))/\GB (World.oQ z B (aW.mk ⟨a1,c1,x1⟩ ⟨a2,c2,x2⟩ o F 0 0)) B tV (aW.mk ⟨a1,c1,x1⟩ ⟨a2,c2,x2⟩ o F 0 0).cells/\(World.oQ z B (aW.mk ⟨a1,c1,x1⟩ ⟨a2,c2,x2⟩ o F 0 0)).ownsRow (M (H A)) tI 1 (Z a1 (N x1) c1) (N x1) (x1.map (Value.int J))/\(World.oQ z B (aW.mk ⟨a1,c1,x1⟩ ⟨a2,c2,x2⟩ o F 0 0)).ownsRow (M (H A)) tI 1 (Z a2 (N x2) c2) (N x2) (x2.map (Value.int J)):=by have a:=Jo z B (aW.mk ⟨a1,c1,x1⟩ ⟨a2,c2,x2⟩ o F 0 0);exact⟨hS.trans (a.below hS.size λx b=>by show x≠B;omega),World.wX gB _,Gh o1 gB ht a,Gh o2 gB ht a⟩
def ahl{Y2:U}{m':Nat}{u2 u3:KX}(hz:∀Zq,Kept (C8 n0 m b u2) Y2 Zq->v.At Zq)(hK:Kept (C8 n0 m b u2) Y2 A)(hm:m'<=m)(hn:∀y,y<M (H Y2)->Rest b u2 y->Rest b u3 y):v.At A/\∀a,Kept (C8 n0 m' b u3) A a->v.At a:=
 ⟨hz A hK,λa h=>hz a (hK.trans' h λy hy d=>⟨by have:=d.1;omega,hn y hy d.2⟩)⟩
def vC{c:Nat}(h:w.ownsRow base e 1 (Z a (N xs) c) (N xs) (xs.map (Value.int J)))(hl:N xs<=1000):aA w a xs/\(a=E5->c=0)/\∀p,a=O p->base<=p.block:=by
 obtain⟨f,i,b,d⟩:=jR h (by omega);injection b with b e2 e3;subst b e3;refine⟨d,?_⟩;rcases h.2 with⟨b,_⟩|⟨g,cap,cur,b,hb,_⟩
 .injection b with b e2 e3;subst b e3;exact⟨λ_=>rfl,λp h=>by cases h⟩
 .injection b with b e2 e3;subst b e3;exact⟨λh=>(by cases h),λp h=>by cases h;exact hb⟩
def TZ{n:Nat}{c:Nat}(h:Zq.ownsRow n e 1 (Z a (N xs) c) (N xs) (xs.map (Value.int J)))(hl:N xs<=1000)(hm:m<=n)(hb:b<n)(hu:∀g,u.ownBlock=O g->g<n)(hk:Kept (C8 n0 m b u) Zq Z'):aA Z' a xs/\(a=E5->c=0):=by have d:=vC h hl;refine⟨Ei (x:=⟨a,c,xs⟩) d.1 (λp f _=>?_) hk,d.2.1⟩;have:=d.2.2 p f;exact⟨.inr (by omega),by omega,λe=>by have:=hu _ e;omega⟩
def JE(Zq:U)(B i:Nat)(v:KX):Kept (λy=>y≠B) Zq (qw Zq (aD B i) v):=Xc _ (aD B i) _ (λh=>h rfl)
def akh(h:aA w0 a xs)(hb:Bw w0 Zq)(ho:∀x,x<M (H w0)->Rest b u x)(hk:Kept (C8 (M (H w0)) m b u) Zq Z'):aA Z' a xs:=
 Ei (x:=⟨a,0,xs⟩) (Qt hb h) (λp i d=>by
  obtain⟨g,off,e,f⟩:=h.2 0 (Je.2 d);rw[show a=O p from i]at e;cases e;have:=Qj f;exact⟨.inl this,ho _ this⟩) hk
structure Vb(A:U)(B:Nat)(v:aW)(Zq:U):Prop where
 b:Bw A Zq
 lo:M (H A)<=B
 g:GB Zq B 74 v.cells
 s:Zq.ownsRow (M (H A)) 3 1 (Z v.s.ad (N v.s.xs) v.s.cap) (N v.s.xs) (v.s.xs.map (Value.int J))
 c:Zq.ownsRow (M (H A)) 3 1 (Z v.c.ad (N v.c.xs) v.c.cap) (N v.c.xs) (v.c.xs.map (Value.int J))
def Vb.below{A Zq Z':U}{B:Nat}{v:aW}(h:Vb A B v Zq)(hb:Bw Zq Z'):Vb A B v Z':=
 ⟨aj h.b hb,h.lo,h.g.of (hb.block _ h.g.lt),XJ h.s hb,XJ h.c hb⟩
def Vb.set{A Zq:U}{B:Nat}{v:aW}(h:Vb A B v Zq)(v':aW)(i:Nat){x:KX}(hx:v.cells.setIfInBounds i x=v'.cells)(hs:v'.s=v.s)(hc:Zq.ownsRow (M (H A)) 3 1 (Z v'.c.ad (N v'.c.xs) v'.c.cap) (N v'.c.xs) (v'.c.xs.map (Value.int J))):Vb A B v' (qw Zq (aD B i) x):=
 ⟨h.b.setCell (p:=(aD B i)) h.lo _,h.lo,hx ▸ h.g.set i x,by rw[hs];exact Gh h.s h.g (by decide) (JE Zq B i x),Gh hc h.g (by decide) (JE Zq B i x)⟩
def aki{nc:Array KX}(h:Vs w0 W b sv ao po cap pcap ts q pl nc Zq s u){A:Nat}{x:Int}(hg:GB Zq A 3 #[I J x])(hA:M (H W)+2<=A)(hu:u.ownBlock≠O A)(SZ CT:Nat):∀d,Kept (C8 (M (H w0)) (M (H W)+2) b u) Zq d->(aW.mk ⟨O (aD A 0),1,[x]⟩ ⟨E5,0,[]⟩ ⟨E5,0,[]⟩ F SZ CT).At d:=λd f=>by
 have e:=aW.At.zero d;have k:=h.lo;refine⟨⟨Ei (Mq:=C8 (M (H w0)) (M (H W)+2) b u) (Zq:=Zq) ⟨by simp,λi g=>⟨A,0,rfl,?_⟩⟩ (λa j _=>?_) f,λh=>by cases h⟩,e.2.1,e.2.2⟩
 .have:i=0:=by simp at g;omega
  subst this;exact hg.at 0
 .cases j
  exact⟨.inr hA,by show A≠b;omega,hu⟩
theorem adn(w0:U)(b:Nat)(ao po:Option Addr)(cap pcap:Nat)(ts:List ag)(q:af)(pl:List ai)(D:CZ w0 ao po ts q pl)(f i:Nat)(hV:VC w0 b ao po cap pcap ts q pl f)(hif:i<=f)(W:U)(seen:List Nat)(sv:KX)(Ff:i<N pl)(hT:df W b (M (H w0)) 80 3 ao po cap pcap ts q pl seen sv)(hW:Bw w0 W)(hd:seen.Nodup)(hl:∀x∈seen,x<N pl)(hni:i ∉ seen) :
  Calls V 36 #[Y (O (aD b 0)),I J i] W (VQ (λZq s u=>df Zq b (M (H w0)) 80 3 ao po cap pcap ts q pl s u) (M (H w0)) W b sv (fC ts q pl (f+1) i seen)):=by
 have dZ:(seen++[i]).Nodup/\∀x∈seen++[i],x<N pl:=by
  refine⟨?_,λx hx=>?_⟩
  .rw[List.nodup_append];exact⟨hd,by simp,λx hx y hy e=>by rw[Xj]at hy;subst e hy;exact hni hx⟩
  .rcases Ze.1 hx with h|h
   .exact hl x h
   .rw[Xj]at h;omega
 obtain⟨n,hn⟩:=eX (E pl i nz);obtain⟨Oq,hO⟩:=eY (fC ts q pl (f+1) i seen);rw[<-hO];obtain⟨pb,bY,rfl,c0,c1,c2,c3,c4,c5,c6,dI,dJ⟩:=D.plan.2 i Ff;rw[hn]at c0 c1 c2 c3 c4 c5 c6 dI dJ;have gQ:=D.plan.1;have gT:=D.len;have ed:=hW.size;have gU:=TW hd hl;obtain⟨sa,sm,sc,rfl⟩:=Xg hT.own;obtain⟨X1,eZ,aa,g1⟩:=aX W #[Z E5 0 0,Z E5 0 0,Z E5 0 0,EP F,I Dc 0,I Dc 0] 74;obtain⟨X,hX,au,g2⟩:=aX X1 n.cells 50;have dh:M (H X1)=M (H W)+1:=by rw[<-eZ];simp
 have bO:=aj aa au;have fP:=(hT.below aa).g.at 8;have bA:=hT.below bO;obtain⟨ib,w5,iW,mq,dK,⟨va,vm,vc,rfl⟩,fq⟩:=iA X (M (H w0)) (Z sa sm sc) (seen.map λ(i:Nat)=>(i:Int)) (by rw[Q8];exact bA.own) (by rw[Q8];omega) (by have:=bO.size;omega) (i:Int) 23;obtain⟨Yq,hY⟩:=eX (qw w5 (aD b 9) (Z va vm vc));obtain⟨TY,fu,dL,bK⟩:=hT.push Tryz.aan bO dK mq fq hY.symm;have bB:=bA.g.of (dK.block b bA.g.lt (hT.ne Tryz.aan));have w9:=bB.at 9;have fQ:=bB.frozen 9;have t9:=bA.g.at 9;rw[dh]at g2;have di:Vs w0 W b (Z sa sm sc) ao (O (aD pb bY)) cap pcap ts q pl n.cells Yq (seen++[i]) (Z va vm vc):=
  ⟨dL,(g1.of (au.block _ g1.lt)).of (bK _ (Qs _) (by have:=au.size;omega)),g2.of (bK _ (by omega) g2.lt),TY,fu,hW.trans (dL.below ed (λx hx=>hT.old x hx)),⟨hT.g.lt,ed⟩,dZ⟩
 have d0:=cB (aj hW aa) c0;have d1:=cB (aj hW aa) c1;have d2:=cB (aj hW aa) c2;have d3:=cB (aj hW aa) c3;have d4:=cB (aj hW aa) c4;have d5:=cB (aj hW aa) c5;have d6:=cB (aj hW aa) c6;have NN:=Zh λ(Zq:U) (hk:Kept (Rest b (Z sa sm sc)) W Zq) (g:GB Zq (M (H W)) 74 #[Z E5 0 0,Z E5 0 0,Z E5 0 0,EP F,I Dc 0,I Dc 0])=>az5 hk g (λZq s u=>df Zq b (M (H w0)) 80 3 ao (O (aD pb bY)) cap pcap ts q pl s u) (M (H w0));have Od:=Zh λ(k:Int) (Zq:U) (s:List Nat) (v:KX) (h:Vs w0 W b (Z sa sm sc) ao (O (aD pb bY)) cap pcap ts q pl n.cells Zq s v)=>adm w0 b ao (O (aD pb bY)) cap pcap ts q pl f hV i k hif Ff D.len Zq s v h.tree h.base h.nd.1 h.nd.2;have MC:=ade n Yq;obtain⟨HO,uY,xJ,sO,fw,gD⟩:=Dm hO hn D (X4 dI dJ) di dh;obtain⟨n0,n1,n2,n3,n4,n5,n6⟩:=di.gN.k7;obtain⟨r,nl,nr,j,⟨Iy,Iz,qR⟩,key,⟨D7,D8,rO⟩⟩:=n;unfold ai.cells ae.val at*;simp only[World.oQ,aW.cells,Fh,ae.val,ZO,Int.natCast_zero]at*;clear hO hn D dI dJ hV hni hd hl dZ dK mq fq fu dL bK hT bA hW TY g1 g2 aa au bO dh di c0 c1 c2 c3 c4 c5 c6 bB;go_enter Tryz.func36,Tryz.ntmps36;go_upto_region 3 with (first|(at_builtin;refine Xy rfl (.tmp 25) (.tmp 27) 23 rfl (Z sa sm sc) (Z (O (aD (M (H X)) 0)) 1 1) (Z va vm vc) w5 rfl rfl iW ?_));rw[gD.o];clear iW w9 fQ t9 fP d0 d1 d2 d3 d4 d5 d6 hX eZ hY;go_wp2_with fail;refine MC.mono ?_;clear MC n0 n1 n2 n3 n4 n5 n6;rintro e Y1 ⟨rfl,aa⟩;have KO:=Zh (Vs.below fw.o aa);have m0:=KO.o.gN.at 0;clear aa fw;by_cases aK:cZ ⟨r,nl,nr,j,⟨Iy,Iz,qR⟩,key,⟨D7,D8,rO⟩⟩=F∨r<1∨10<r
 .obtain rfl:Oq=none:=by rw[HO.o];exact MW uY.o aK
  obtain⟨fM,mG⟩:=NN.o Y1 KO.o.kept KO.o.gR;have hc:=KO.o.gR.k6;have hf:=GB.f6 KO.o.gR;generalize cZ ⟨r,nl,nr,j,⟨Iy,Iz,qR⟩,key,⟨D7,D8,rO⟩⟩=P at*;have hk:P=F∨(P=T/\r<1)∨(P=T/\¬r<1/\10<r):=by cases P <;> grind
  clear aK HO uY Od NN xJ sO;rcases hk with rfl|⟨rfl,k1⟩|⟨rfl,k1,k2⟩
  all_goals
   go_wp2;exact X0 (Jp (p:=4) (u:=5) (x:=EP F) rfl rfl rfl mG.o) rfl fM.o
 have hP:cZ ⟨r,nl,nr,j,⟨Iy,Iz,qR⟩,key,⟨D7,D8,rO⟩⟩=true:=by
  cases h:cZ ⟨r,nl,nr,j,⟨Iy,Iz,qR⟩,key,⟨D7,D8,rO⟩⟩
  .exact absurd (.inl h) aK
  .rfl
 have k1:¬r<1:=λh=>aK (.inr (.inl h));have gV:¬10<r:=λh=>aK (.inr (.inr h));rw[hP];have HP:=Zh hP;clear aK hP;by_cases kk:r=1
 .have bC:=Zh (HO.o.trans (Yd uY.o HP.o kk));subst kk;have t1:=KO.o.tree.g.at 1;have m3:=KO.o.gN.at 3;simp only at bC;clear HO Od uY HP;by_cases hs:j<0∨(N q.src.xs:Int)<=j
  .obtain rfl:Oq=none:=by rw[bC.o,Qu hs]
   have fT:j<0∨(¬j<0/\(N q.src.xs:Int)<=j):=by omega
   clear bC hs;rcases fT with s0|⟨s0,s1⟩
   case' inl=>
    go_wp2_with fail;refine wH Y1 λt=>?_;refine wA4 0 t ?_;refine wS9 4 t ?_
   case' inr=>
    go_wp2_with fail;refine wH Y1 λt=>?_;refine wA4 0 t ?_;refine wB9 4 t ?_
   all_goals
    refine Fz 13 t ?_;refine wD ?_;have FU:=Zh (Vs.below KO.o t);clear KO t m0 m3 t1;generalize Y1.drew=Y2 at*;obtain⟨fM,mG⟩:=NN.o Y2 FU.o.kept FU.o.gR;have hc:=FU.o.gR.k6;have hf:=GB.f6 FU.o.gR;go_wp2;exact X0 (Jp (p:=4) (u:=5) (x:=EP F) rfl rfl rfl mG.o) rfl fM.o
  have s0:¬j<0:=λh=>hs (.inl h);have s1:¬(N q.src.xs:Int)<=j:=λh=>hs (.inr h);have ek:=Zh bC.o;rw[QC hs]at ek;clear bC hs;go_wp2_with fail;refine wH Y1 λt=>?_;refine wA4 0 t ?_;refine wB9 4 t ?_;refine Fz 13 t ?_;refine wD ?_;have FU:=Zh (Vs.below KO.o t);clear KO t m0 m3 t1;generalize Y1.drew=Y2 at*;obtain⟨t0,t1,t2,t3,t4,t5,t6,t7,t8⟩:=FU.o.tree.g.k9;have m3:=FU.o.gN.at 3;have Gd:=Zh λ(x:U) (a:Nat) (hx:Bw Y2 x) (hg:GB x a 3 #[I J j])=>Tn ao (O (aD a 0)) E5 cap 1 0 ts q [j] [] x (xJ.o.cat.below (aj FU.o.base hx)) xJ.o.Aq.cat (xJ.o.query.below (aj FU.o.base hx)) xJ.o.Aq.five xJ.o.Aq.src xJ.o.Aq.eight xJ.o.Aq.cols ⟨by simp,λi hi=>⟨a,0,rfl,by
   have:i=0:=by simp at hi;omega
   subst this;exact hg.at 0⟩⟩ (λy hy=>by simp at hy;omega) ⟨by simp,λi hi=>absurd hi (by simp)⟩
  simp only[ae.val,QJ,ZO,af.cells]at*;have vH:=Zh (CY ts q [j] []);generalize iK ts q [j] []=SZ at*;have pE:=Zh λ(x:U)=>TG 1 SZ Fh Fh x vH.o (Q4 _) (Q4 _) (Q4 _) (Q4 _);simp only[aW.cells,Fh,ae.val,ZO,Int.natCast_zero,aW.d]at pE;rw[show (bH.mk [] [] [] F 0 0)=vz from rfl]at pE;generalize rR 1 SZ vz vz=CT at*;go_wp2_with fail;refine wH Y2 λt=>?_;refine FD 0 t ?_;obtain⟨X3,gF,av,fA⟩:=aX Y2.drew #[I J j] 3;refine wR 10 λK G=>?_;go_simp;refine oT G t av λt=>?_;clear G K;refine wR 11 λK G=>?_;go_simp;refine(Gd.o X3 (M (H Y2)) t fA).mono ?_;rintro e Y3 ⟨rfl,ax⟩;refine oT G t ax λt=>?_;clear G K ax av fA gF Gd t0 t1 t2 t3 t4 t5 t6 t7 t8;refine Fz 12 t ?_;refine wD ?_;have aR:=Zh (Vs.below FU.o t);clear FU t m3;have m3:=aR.o.gN.at 3;have dm:=Zh λ(Zq:U) (A:Nat) (hZ:Bw Y3 Zq) (hg:GB Zq A 3 #[I J j]) (hA:M (H Y3)<=A)=>alO (aR.o.below hZ) (v:=aW.mk ⟨O (aD A 0),1,[j]⟩ ⟨E5,0,[]⟩ ⟨E5,0,[]⟩ F SZ CT) (o:=Oq) (ok:=T) ek.o (aki (aR.o.below hZ) hg (by have:=aR.o.gN.lt;omega) (λe=>by have:=(Xf aR.o.tree.own e).2;omega) SZ CT);clear NN;go_wp2_with fail;refine QW (S:=λx=>Kept (λy=>y≠M (H W)) Y3 x) (by kernel_rfl) (ZA ((Qr (M (H Y3)) Y3).drew) (λ_ hl _=>hl)) (λt=>?_);refine wt 0 (Y (O (aD (M (H W)+1) 3))) t ?_;refine wT 1 (I J j) t (λx hx=>?_) ?_
  .have e0:=ZY m3 hx (by show M (H W)+1≠M (H W);omega);go_simp
  refine wt 3 (I Dc SZ) t ?_;refine wt 4 (I Dc SZ) t ?_;refine wt 5 (.agg #[Z E5 0 0,Z E5 0 0,Z E5 0 0,EP F,I Dc 0,I Dc 0]) t ?_;refine wt 6 (.agg #[Z E5 0 0,Z E5 0 0,Z E5 0 0,EP F,I Dc 0,I Dc 0]) t ?_;refine wJ 2 7 (λK G=>?_) λK G=>?_
  case' refine_1=>
   go_simp;refine G.o _ _ (t.trans (ZE _ _)) (λt=>?_);clear G K;refine wR 7 λK G=>?_;go_simp;refine XO (pE.o _) ?_;rintro e Zq ⟨rfl,ax⟩;refine G.o _ _ (t.trans (ZA ax (λ_ hl _=>hl))) (λt=>?_);clear G K;have bD:=aj (show Bw Y3 ((Y3.alloc (.cells #[I J j] 3)).drew) from (bJ _ _).drew) ax;have hY:=dm.o Zq (M (H Y3)) bD (GB.of (w:=(Y3.alloc (.cells #[I J j] 3)).drew) (iX Y3 _) (ax.block _ (by simp))) (Qs _);have aL:=Zh (Jo Zq (M (H W)) (aW.mk ⟨O (aD (M (H Y3)) 0),1,[j]⟩ ⟨E5,0,[]⟩ ⟨E5,0,[]⟩ F SZ CT))
  case' refine_2=>
   go_simp;refine XO (pE.o _) ?_;rintro e Y4 ⟨rfl,ax⟩;refine G.o _ _ (t.trans (ZA ax (λ_ hl _=>hl))) (λt=>?_);clear G K;obtain⟨Zq,hZ,fB,bB⟩:=aX Y4 #[I J j] 3;refine wR 2 λK G=>?_;go_simp;refine G.o _ _ (t.trans (ZA fB (λ_ hl _=>hl))) (λt=>?_);clear G K hZ;have bD:=aj (aj (show Bw Y3 Y3.drew from (Qr _ _).drew) ax) fB;have hY:=dm.o Zq (M (H Y4)) bD bB (ax.size);have aL:=Zh (Jo Zq (M (H W)) (aW.mk ⟨O (aD (M (H Y4)) 0),1,[j]⟩ ⟨E5,0,[]⟩ ⟨E5,0,[]⟩ F SZ CT))
  all_goals
   have aS:=aR.o.gR.of (bD.block _ aR.o.gR.lt);obtain⟨hE,hL⟩:=hY;obtain⟨fM,mG⟩:=aV hE hL;simp only[World.oQ,aW.cells,ae.val,ZO,QJ,Q5]at fM mG aL;have hc:=aS.k6;have hf:=GB.f6 aS;clear hE hL aS bD dm m3;refine wR 8 λK G=>?_;go_simp;refine G.o _ _ t λt=>?_;clear G K;refine wR 9 λK G=>?_;go_simp;refine G.o _ _ (t.trans aL.o) (λt=>?_);clear G K;refine wR 10 λK G=>?_;go_simp;refine G.o _ _ t λt=>?_;clear G K;refine wD ?_;try simp only[pU]
   go_wp2;exact X0 (Jp (p:=4) (u:=5) (x:=EP T) rfl rfl rfl mG.o) rfl fM.o
 have gW:(r==1)=false:=by simp[kk]
 have eu:=Od.o nl Y1 _ _ KO.o;have m1:=KO.o.gN.at 1;go_wp2_with fail;refine eu.mono ?_;clear eu m1;rintro e Y2 hq;obtain⟨lv,rfl,bZ⟩:=hq.out;obtain⟨HK,bL⟩:=aV hq.kept (Vs.no KO.o hq.kept);obtain⟨⟨UD,UE,L⟩,⟨WV,WW,R⟩,⟨Jz,ah,CX⟩,uA,WX,WY⟩:=lv;simp only[aW.cells,ae.val];obtain⟨Y3,dM,av,cu⟩:=aX Y2 #[Z UD (N L) UE,Z WV (N R) WW,Z Jz (N CX) ah,EP uA,I Dc (WX:Int),I Dc (WY:Int)] 74;obtain⟨Y4,fD,ax,aM⟩:=aX Y3 #[Z E5 0 0,Z E5 0 0,Z E5 0 0,EP F,I Dc 0,I Dc 0] 74;have bg:M (H Y3)=M (H Y2)+1:=by rw[<-dM];simp
 rw[bg]at aM;have uV:=aj av ax;have aO:=cu.of (ax.block _ cu.lt);obtain⟨OL,dN⟩:=eY (mK ts q pl f i nl (seen++[i]));rw[<-dN]at bZ ⊢;obtain⟨Yf,fE,fF⟩:=fe dN dM fD;clear hq m0 dN dM fD bg;go_upto_region 13 with fail;rw[fE.o,fF.o];clear fE fF
 cases OL with
 |none =>
  obtain rfl:Oq=none:=by
   rw[HO.o];by_cases aZ:3<=r/\r<=5
   .rw[Em uY.o HP.o aZ,<-Yf.o];rfl
   .rw[Ej uY.o HP.o (show 2<=r by omega) (show r<=10 by omega) aZ,<-Yf.o];rfl
  have g4:=bL.o.2.1.of (uV.block _ bL.o.2.1.lt);obtain⟨fM,mG⟩:=NN.o Y4 (bL.o.1.trans (ZA uV λ_ h _=>h)) g4;have hc:=g4.k6;have hf:=GB.f6 g4;clear HO uY HP Od NN xJ sO Yf bZ g4 bL HK cu aO aM av ax uV KO;go_wp2;exact X0 (Jp (p:=4) (u:=5) (x:=EP F) rfl rfl rfl mG.o) rfl fM.o
 |some x =>
 obtain⟨l,s2⟩:=x;obtain⟨e1,u2,dO,fG,hz⟩:=bZ _ rfl;simp only at e1 dO;subst e1;obtain⟨ay,Pb⟩:=aV (Vs.below (Vs.went KO.o HK.o dO fG (Fu Ff KO.o.nd.1 KO.o.nd.2 Yf.o.symm)) uV) (MV Yf.o.symm);have m0:=ay.o.gN.at 0;have dn:M (H W)+2<=M (H Y1):=KO.o.gN.lt;have gX:=uV.size;obtain⟨HZ,fH,Cu⟩:=fe hz (X4 uV trivial) KO.o.lo;have Gd:Wl (M (H W)+2<=M (H Y2)/\M (H Y2)+1<M (H Y4)):=⟨Q6 dn HK.o.size,aM.lt⟩;clear bZ dO fG bL HK av ax uV cu KO hz;by_cases aZ:3<=r/\r<=5
 case' neg=>
  obtain⟨⟨⟨OI,OJ,C⟩,⟨OM,ak,Q⟩,⟨ML,MM,JA⟩,qP,OO,OP⟩,aI⟩:∃rv:aW,rv=Fh:=⟨_,rfl⟩;have gR:GB Y4 (M (H Y2)+1) 74 (aW.mk ⟨OI,OJ,C⟩ ⟨OM,ak,Q⟩ ⟨ML,MM,JA⟩ qP OO OP).cells:=by rw[aI];exact aM
  have zJ:Wl (Oq=(jg ts q ⟨r,nl,nr,j,⟨Iy,Iz,qR⟩,key,⟨D7,D8,rO⟩⟩ (aW.mk ⟨UD,UE,L⟩ ⟨WV,WW,R⟩ ⟨Jz,ah,CX⟩ uA WX WY).d (aW.mk ⟨OI,OJ,C⟩ ⟨OM,ak,Q⟩ ⟨ML,MM,JA⟩ qP OO OP).d).map λv=>(v,s2)):=by show _=_;rw[HO.o,Ej uY.o HP.o (show 2<=r by omega) (show r<=10 by omega) aZ,<-Yf.o,aI];rfl
  have aF:Wl (Gg q (aW.mk ⟨OI,OJ,C⟩ ⟨OM,ak,Q⟩ ⟨ML,MM,JA⟩ qP OO OP).d):=by rw[aI];exact Gg.zero q
  have aH:Wl ((aW.mk ⟨OI,OJ,C⟩ ⟨OM,ak,Q⟩ ⟨ML,MM,JA⟩ qP OO OP).At Y4):=by rw[aI];exact aW.At.zero _
  have DU:Wl ((aW.mk ⟨UD,UE,L⟩ ⟨WV,WW,R⟩ ⟨Jz,ah,CX⟩ uA WX WY).At Y4/\∀Z',Kept (C8 (M (H w0)) (M (H W)+2) b u2) Y4 Z'->(aW.mk ⟨UD,UE,L⟩ ⟨WV,WW,R⟩ ⟨Jz,ah,CX⟩ uA WX WY).At Z'):=ahl HZ.o (ZA fH.o.1 λ_ h _=>h) dn (λy _ h=>h);obtain⟨u3,dP⟩:=eY (u2);obtain⟨s3,bg⟩:=eY (s2);obtain⟨A,hA⟩:=eY (Y4);rw[<-dP,<-bg,<-hA]at ay;rw[<-bg]at zJ;rw[<-hA]at aO gR aH m0;rw[<-dP,<-hA]at DU;have Bq:=Zh ay.o;rw[<-hA];have gL:=aO;clear HO uY HP Od Yf aM aI dP bg HZ ay aO;clear hA;go_cut [104] from 94 to 103 (λc wx=>c=EP F/\A=wx)
  case first=>
   by_cases h3:3<=r
   .have h5:¬r<=5:=λh=>aZ ⟨h3,h⟩
    go_wp2_with fail;go_meet;exact⟨rfl,rfl⟩
   .go_wp2_with fail;go_meet;exact⟨rfl,rfl⟩
  obtain⟨rfl,rfl⟩:=hcut;go_upto_region 15 with fail;clear m0 aZ
 case' pos=>
  obtain⟨h3,h5⟩:=aZ;have eB:=Od.o nr Y4 _ _ ay.o;have m2:=ay.o.gN.at 2;go_wp2_with fail;refine eB.mono ?_;clear eB m2 m0;rintro e Y5 hq;obtain⟨rv,rfl,aI⟩:=hq.out;obtain⟨HK,bN⟩:=aV hq.kept (Vs.no ay.o hq.kept);have bn:=Gd.o;have dw:=Cu.o;have bE:=aM.of (hq.kept.block _ aM.lt ⟨by omega,Eh ay.o.tree aM (by decide)⟩);have dx:=aO.of (hq.kept.block _ aO.lt ⟨by omega,Eh ay.o.tree aO (by decide)⟩);obtain⟨⟨OI,OJ,C⟩,⟨OM,ak,Q⟩,⟨ML,MM,JA⟩,qP,OO,OP⟩:=rv;obtain⟨A,hA⟩:=eX (World.oQ Y5 (M (H Y2)+1) (aW.mk ⟨OI,OJ,C⟩ ⟨OM,ak,Q⟩ ⟨ML,MM,JA⟩ qP OO OP));have vZ:=Jo Y5 (M (H Y2)+1) (aW.mk ⟨OI,OJ,C⟩ ⟨OM,ak,Q⟩ ⟨ML,MM,JA⟩ qP OO OP);have gR:=World.wX bE (aW.mk ⟨OI,OJ,C⟩ ⟨OM,ak,Q⟩ ⟨ML,MM,JA⟩ qP OO OP);rw[hA]at vZ gR;have gL:=dx.of (vZ.block _ dx.lt (by omega));have g0:=bN.o.2.1.of (vZ.block _ bN.o.2.1.lt (by omega));have eD:=bN.o.1.trans' vZ (λx hx _=>by show x≠M (H Y2)+1;omega);simp only[World.oQ,aW.cells,ae.val]at hA ⊢;have hc:=bE.k6;have hf:=GB.f6 bE;obtain⟨OR,dQ⟩:=eY (mK ts q pl f i nr s2);rw[<-dQ]at aI ⊢;obtain⟨bz,aL,uC,O8⟩:=xA dQ vZ (X4 gL (X4 gR (X4 g0 eD))) bE;clear dQ hq vZ gL gR g0 eD aM aO dx bE bn dw;go_upto_region 15 with fail;clear hA hc hf;rcases OR with _|⟨rd,s3⟩
  .obtain rfl:Oq=none:=by rw[HO.o,Em uY.o HP.o ⟨h3,h5⟩,<-Yf.o];show (mK ts q pl f i nr s2).bind _=_;rw[<-bz.o];rfl
   obtain⟨fM,mG⟩:=NN.o A uC.o.2.2.2 uC.o.2.2.1;have hc:=uC.o.2.2.1.k6;have hf:=GB.f6 uC.o.2.2.1;clear HO uY HP Od NN xJ sO Yf aI bz aL uC O8 bN HK ay;go_wp2;exact X0 (Jp (p:=4) (u:=5) (x:=EP F) rfl rfl rfl mG.o) rfl fM.o
  obtain⟨e1,u3,dR,Ae,fI⟩:=aI _ rfl;simp only at e1 dR;subst e1;have zJ:Wl (Oq=(jg ts q ⟨r,nl,nr,j,⟨Iy,Iz,qR⟩,key,⟨D7,D8,rO⟩⟩ (aW.mk ⟨UD,UE,L⟩ ⟨WV,WW,R⟩ ⟨Jz,ah,CX⟩ uA WX WY).d (aW.mk ⟨OI,OJ,C⟩ ⟨OM,ak,Q⟩ ⟨ML,MM,JA⟩ qP OO OP).d).map λv=>(v,s3)):=by show _=_;rw[HO.o,Em uY.o HP.o ⟨h3,h5⟩,<-Yf.o];show (mK ts q pl f i nr s2).bind _=_;rw[<-bz.o];rfl
  have aF:=Zh (MV bz.o.symm);have bn:=Gd.o;have dw:=Cu.o;obtain⟨Bq,aH,DU⟩:=fe (Vs.store (Vs.went ay.o HK.o dR Ae (Fu Ff ay.o.nd.1 ay.o.nd.2 bz.o.symm)) O8.o (by omega) aL.o) (fI A (aL.o.mono λy _ hm e=>by have:=hm.1;omega)) (ahl (m':=M (H W)+2) (u3:=u3) HZ.o (((ZA fH.o.1 λ_ h _=>h).trans' HK.o λy _ hm=>hm.2).trans' aL.o λy hy _=>by show y≠M (H Y2)+1;omega) dn (λy hy h=>h.next Ae (by omega)));have gL:=uC.o.1;have gR:=uC.o.2.1;clear HO uY HP Od Yf aI bz aL uC O8 bN HK ay dR Ae fI bn dw h3 h5 HZ
 all_goals
  have m0:=Bq.o.gN.at 0;have l3:=gL.at 3;have r3:=gR.at 3;have bq:=Zh (kT ts q ⟨r,nl,nr,j,⟨Iy,Iz,qR⟩,key,⟨D7,D8,rO⟩⟩ (aW.mk ⟨UD,UE,L⟩ ⟨WV,WW,R⟩ ⟨Jz,ah,CX⟩ uA WX WY).d (aW.mk ⟨OI,OJ,C⟩ ⟨OM,ak,Q⟩ ⟨ML,MM,JA⟩ qP OO OP).d);obtain⟨AB,dS⟩:∃AB,AB=(qP ||(uA != decide (r=10))):=⟨_,rfl⟩;have HA:=Zh dS;have zK:Wl (kS ts q ⟨r,nl,nr,j,⟨Iy,Iz,qR⟩,key,⟨D7,D8,rO⟩⟩ (aW.mk ⟨UD,UE,L⟩ ⟨WV,WW,R⟩ ⟨Jz,ah,CX⟩ uA WX WY).d (aW.mk ⟨OI,OJ,C⟩ ⟨OM,ak,Q⟩ ⟨ML,MM,JA⟩ qP OO OP).d=(!AB&&decide (N (aC L C)=N L+N C)&&dF ts q qR (aC L C)&&kP ts q ⟨r,nl,nr,j,⟨Iy,Iz,qR⟩,key,⟨D7,D8,rO⟩⟩ (aW.mk ⟨UD,UE,L⟩ ⟨WV,WW,R⟩ ⟨Jz,ah,CX⟩ uA WX WY).d (aW.mk ⟨OI,OJ,C⟩ ⟨OM,ak,Q⟩ ⟨ML,MM,JA⟩ qP OO OP).d)):=by show _=_;rw[dS];rfl
  have aG:Wl (kS ts q ⟨r,nl,nr,j,⟨Iy,Iz,qR⟩,key,⟨D7,D8,rO⟩⟩ (aW.mk ⟨UD,UE,L⟩ ⟨WV,WW,R⟩ ⟨Jz,ah,CX⟩ uA WX WY).d (aW.mk ⟨OI,OJ,C⟩ ⟨OM,ak,Q⟩ ⟨ML,MM,JA⟩ qP OO OP).d=F->Oq=E5):=λh=>by rw[zJ.o,bq.o,h];rfl
  clear dS;go_cut [126] from 113 to 125 (λc wx=>c=EP AB/\A=wx)
  case first=>
   obtain⟨gG,ic,gH⟩:∃d,(r==10)=d/\Wl (decide (r=10)=d):=⟨_,rfl,rfl⟩;rw[gH.o]at HA;cases gG <;> cases qP <;> cases uA
   all_goals
    go_wp2_with fail;go_meet;exact⟨by rw[HA.o];rfl,rfl⟩
  obtain⟨rfl,rfl⟩:=hcut;clear l3 r3 HA;rcases AB with _|_
  rotate_left
  .obtain rfl:Oq=none:=aG.o (by rw[zK.o];rfl);obtain⟨fM,mG⟩:=NN.o A Bq.o.kept Bq.o.gR;have hc:=Bq.o.gR.k6;have hf:=GB.f6 Bq.o.gR;clear zJ bq zK aG NN xJ sO aF Pb DU aH Bq gL gR m0;go_wp2;exact X0 (Jp (p:=4) (u:=5) (x:=EP F) rfl rfl rfl mG.o) rfl fM.o
  obtain⟨l0,l1,l2⟩:=gL.k3;obtain⟨r0,r1⟩:=gR.k2;have bP:=Gg.akd Pb.o;have bF:=Gg.an1 Pb.o;have bQ:=Gg.akd aF.o;have eF:=Gg.an1 aF.o;have dz:=xJ.o.Aq.five;have dA:=xJ.o.Aq.eight;simp only[aW.d,aW.cells,ae.val]at bP bF bQ eF l0 l1 l2 r0 r1;have gY:N (aC L C)<=10:=by have:=lW (m:=C) (l:=L);omega
  have fU:N (aC R Q)<=16:=by have:=lW (m:=Q) (l:=R);omega
  have dB:=Zh λ(x:U) (hb:Bw A x)=>Hg UD OI UE OJ L C x (Qt hb DU.o.1.1.1) (Qt hb aH.o.1.1) DU.o.1.1.2 (by omega);have bR:=Zh λ(x:U) (hb:Bw A x)=>Hg WV OM WW ak R Q x (Qt hb DU.o.1.2.1.1) (Qt hb aH.o.2.1.1) DU.o.1.2.1.2 (by omega);have bG:=Zh λ(z:U) (B:Nat) (t:Bw A z) (gB:GB z B 74 #[Z E5 0 0,Z E5 0 0,Z E5 0 0,EP F,I Dc 0,I Dc 0]) (hB:M (H A)<=B) (a1 a2:Option Addr) (c1 c2:Nat) (o1:z.ownsRow (M (H A)) 3 1 (Z a1 (N (aC L C)) c1) (N (aC L C)) ((aC L C).map (Value.int J))) (o2:z.ownsRow (M (H A)) 3 1 (Z a2 (N (aC R Q)) c2) (N (aC R Q)) ((aC R Q).map (Value.int J)))=>v17 (by decide) t gB hB o1 o2 ⟨Jz,ah,CX⟩;simp only[World.oQ,aW.cells,ae.val,Int.natCast_zero]at bG;have fV:=dz;clear bP bF bQ eF dz dA fV;go_upto_region 17 with fail;go_cut [12] from 128 to 140 (λp wx=>∃(B:Nat) (a1 a2:Option Addr) (c1 c2:Nat),p=Y (O (aD B 0))/\Bw A wx/\M (H A)<=B/\GB wx B 74 #[Z a1 (N (aC L C)) c1,Z a2 (N (aC R Q)) c2,Z Jz (N CX) ah,EP F,I Dc 0,I Dc 0]/\Wl (wx.ownsRow (M (H A)) 3 1 (Z a1 (N (aC L C)) c1) (N (aC L C)) ((aC L C).map (Value.int J))/\wx.ownsRow (M (H A)) 3 1 (Z a2 (N (aC R Q)) c2) (N (aC R Q)) ((aC R Q).map (Value.int J))))
  case first=>
   refine wH A λt=>?_;refine wA4 0 t ?_;refine wA4 5 t ?_;refine wA2 10 t ?_;have bS:=t.size;refine wJ 4 13 (λK G=>?_) λK G=>?_
   case' refine_1=>
    go_simp;refine(dB.o _ t).mono ?_;rintro e y1 ⟨v1,rfl,aU,aa⟩;obtain⟨a1,c1,rfl,-⟩:=jR aU (by omega);refine oT G t aa λaJ=>?_;clear G K;refine wJ 9 13 (λK G=>?_) λK G=>?_
    case' refine_1=>
     go_simp;refine(bR.o _ aJ).mono ?_;rintro e y2 ⟨v2,rfl,aN,au⟩;obtain⟨a2,c2,rfl,-⟩:=jR aN (by omega);refine oT G aJ au λaB=>?_;clear G K;refine Fz 12 aB ?_;obtain⟨z,hz,av,gB⟩:=aX y2 #[Z E5 0 0,Z E5 0 0,Z E5 0 0,EP F,I Dc 0,I Dc 0] 74;refine wR 13 λK G=>?_;go_simp;refine oT G aB av λaY=>?_;clear G K hz;have hE:=Zh (bG.o z _ aY gB aB.size a1 a2 c1 c2 (XJ (XJ (pJ aU bS) au) av) (XJ (pJ aN aJ.size) av))
    case' refine_2=>
     obtain⟨y2,hz,av,gB⟩:=aX y1 #[Z E5 0 0,Z E5 0 0,Z E5 0 0,EP F,I Dc 0,I Dc 0] 74;go_simp;refine oT G aJ av λaB=>?_;clear G K hz;refine wR 9 λK G=>?_;go_simp;refine(bR.o _ aB).mono ?_;rintro e z ⟨v2,rfl,aN,au⟩;obtain⟨a2,c2,rfl,-⟩:=jR aN (by omega);refine oT G aB au λaY=>?_;clear G K;refine Fz 12 aY ?_;have gB:=gB.of (au.block _ gB.lt);have hE:=Zh (bG.o z _ aY gB aJ.size a1 a2 c1 c2 (XJ (XJ (pJ aU bS) av) au) (pJ aN aB.size))
   case' refine_2=>
    obtain⟨y1,hz,av,gI⟩:=aX A.drew #[Z E5 0 0,Z E5 0 0,Z E5 0 0,EP F,I Dc 0,I Dc 0] 74;have gB:GB y1 (M (H A)) 74 #[Z E5 0 0,Z E5 0 0,Z E5 0 0,EP F,I Dc 0,I Dc 0]:=gI;go_simp;refine oT G t av λaJ=>?_;clear G K hz;refine wR 4 λK G=>?_;go_simp;refine(dB.o _ aJ).mono ?_;rintro e y2 ⟨v1,rfl,aU,aa⟩;obtain⟨a1,c1,rfl,-⟩:=jR aU (by omega);refine oT G aJ aa λaB=>?_;clear G K;refine wR 9 λK G=>?_;go_simp;refine(bR.o _ aB).mono ?_;rintro e z ⟨v2,rfl,aN,au⟩;obtain⟨a2,c2,rfl,-⟩:=jR aN (by omega);refine oT G aB au λaY=>?_;clear G K;refine Fz 12 aY ?_;have gB:=(gB.of (aa.block _ gB.lt)).of (au.block _ (gB.of (aa.block _ gB.lt)).lt);have hE:=Zh (bG.o z _ aY gB bS a1 a2 c1 c2 (XJ (pJ aU aJ.size) au) (pJ aN aB.size))
   all_goals
    have hc:=gB.k6;have hf:=GB.f6 gB;clear aU aN;refine wR 14 λK G=>?_;go_simp;refine G.o _ _ hE.o.1 λig=>?_;clear G K;refine wD ?_;try simp only[pU]
    go_wp2_with fail;go_meet;exact⟨_,a1,a2,c1,c2,rfl,hE.o.1,by first|exact aB.size|exact aJ.size|exact bS,hE.o.2.1,hE.o.2.2⟩
  obtain⟨B,a1,a2,c1,c2,rfl,cz,hB,gB,dU⟩:=hcut;have bT:Wl (Vb A B ⟨⟨a1,c1,aC L C⟩,⟨a2,c2,aC R Q⟩,⟨Jz,ah,CX⟩,F,0,0⟩ wc):=⟨cz,hB,gB,dU.o.1,dU.o.2⟩;obtain⟨gJ,gK⟩:=gy cz l0 r0;have fZ:=gB.at 0;have az:=Zh (Vs.below Bq.o cz);have bU:=az.o.gN.at 4;clear l0 l1 l2 r0 r1 dB bR bG gB dU m0 cz hB;by_cases bf:N (aC L C)=N L+N C
  rotate_left
  .obtain rfl:Oq=none:=aG.o (by rw[zK.o,QX bf];rfl);have eG:((N (aC L C):Int) != (N L:Int)+N C)=true:=by simp;omega
   have bP:=Gg.akd Pb.o;have bQ:=Gg.akd aF.o;have dz:=xJ.o.Aq.five;simp only[aW.d]at bP bQ;obtain⟨fM,mG⟩:=NN.o wc az.o.kept az.o.gR;have hc:=az.o.gR.k6;have hf:=GB.f6 az.o.gR;clear zJ bq zK aG NN xJ sO aF Pb DU aH Bq gL gR bT az bU bf;have gm:N L<=5:=by omega
   have gp:N C<=5:=by omega
   generalize N (aC L C)=wl at*;go_wp2;exact X0 (Jp (p:=4) (u:=5) (x:=EP F) rfl rfl rfl mG.o) rfl fM.o
  have F9:=Zh bf;have eG:((N (aC L C):Int) != (N L:Int)+N C)=false:=by simp;omega
  have eH:=WU b ao Iy a1 cap Iz c1 ts q qR (aC L C) wc az.o.tree.tree (xJ.o.cat.below az.o.base) xJ.o.Aq (xJ.o.query.below az.o.base) (Qt az.o.base sO.o.1) (vC bT.o.s (by show N (aC L C)<=1000;omega)).1;obtain⟨dV,dW⟩:=aV (Ye (ts:=ts) (q:=q) (l:=qR) (s:=aC L C)) (lX (ts:=ts) (q:=q) (l:=qR) (s:=aC L C));generalize dF ts q qR (aC L C)=lb at*;have gm:N L<=10:=by omega
  have gp:N C<=10:=by omega
  clear bf;go_wp2_with fail;refine eH.mono ?_;clear eH bU gJ gK fZ eG;rintro e Z6 ⟨rfl,dX⟩;obtain⟨Ua,aQ⟩:=aV (bT.o.below dX) (Vs.below az.o dX);clear bT az dX;rcases lb with _|_
  .obtain rfl:Oq=none:=aG.o (by rw[zK.o,XZ,XF]);obtain⟨fM,mG⟩:=NN.o Z6 aQ.o.kept aQ.o.gR;have hc:=aQ.o.gR.k6;have hf:=GB.f6 aQ.o.gR;clear zJ bq zK aG NN xJ sO aF Pb DU aH Bq gL gR Ua aQ dV dW F9;go_wp2;exact X0 (Jp (p:=4) (u:=5) (x:=EP F) rfl rfl rfl mG.o) rfl fM.o
  have gq:=dV.o rfl;have eO:=Zh (dW.o rfl);have dA:=xJ.o.Aq.eight;have gZ:N (aC (aC R Q) qR)<=24:=by have:=lW (m:=qR) (l:=aC R Q);omega
  have eP:=Hg a2 Iy c2 Iz (aC R Q) qR Z6 (vC Ua.o.c (by show N (aC R Q)<=1000;omega)).1 (Qt aQ.o.base sO.o.1) (vC Ua.o.c (by show N (aC R Q)<=1000;omega)).2.1 (by omega);have bU:=aQ.o.gN.at 4;have bI:=Ua.o.g.at 1;clear dV dW aQ NN;simp only[ae.val]at bI;go_wp2_with fail;refine eP.mono ?_;clear eP bU bI;rintro e w7 ⟨v2,rfl,dY,nW⟩;obtain⟨a3,c3,rfl,-⟩:=jR dY (by omega);have KR:=Zh ((Ua.o.below nW).set ⟨⟨a1,c1,aC L C⟩,⟨a3,c3,aC (aC R Q) qR⟩,⟨Jz,ah,CX⟩,F,0,0⟩ 1 rfl rfl (pJ dY Ua.o.b.size));have dC:=(Ua.o.below nW).g;have bI:=dC.at 1;have gu:=dC.frozen 1;clear dY nW Ua dC;simp only[ae.val]at KR bI;go_upto_region 24 with fail;clear bI gu;generalize qw w7 (aD B 1) (Z a3 (N (aC (aC R Q) qR)) c3)=Z7 at*;have aT:=Zh (Vs.below Bq.o KR.o.b);have bF:=Gg.an1 Pb.o;simp only[aW.d]at bF;have dD:=ahb b ao cap ts q ⟨r,nl,nr,j,⟨Iy,Iz,qR⟩,key,⟨D7,D8,rO⟩⟩ (aW.mk ⟨UD,UE,L⟩ ⟨WV,WW,R⟩ ⟨Jz,ah,CX⟩ uA WX WY) (aW.mk ⟨OI,OJ,C⟩ ⟨OM,ak,Q⟩ ⟨ML,MM,JA⟩ qP OO OP) Z7 aT.o.tree.tree (xJ.o.cat.below aT.o.base) xJ.o.Aq (xJ.o.query.below aT.o.base) (Qt aT.o.base sO.o.1) (Qt aT.o.base sO.o.2) (Qt KR.o.b DU.o.1.1.1) (Qt KR.o.b DU.o.1.2.2) (Qt KR.o.b aH.o.1.1) (Qt KR.o.b aH.o.2.2) (by show N R<=1000;omega) (λh=>eO.o _ h);have hO:=zJ.o;rw[bq.o,zK.o,QD F9.o]at hO;generalize kP ts q ⟨r,nl,nr,j,⟨Iy,Iz,qR⟩,key,⟨D7,D8,rO⟩⟩ (aW.mk ⟨UD,UE,L⟩ ⟨WV,WW,R⟩ ⟨Jz,ah,CX⟩ uA WX WY).d (aW.mk ⟨OI,OJ,C⟩ ⟨OM,ak,Q⟩ ⟨ML,MM,JA⟩ qP OO OP).d=kb at*;have eQ:=Zh hO;simp only[ai.cells,aW.cells,ae.val]at dD gR;have gz:=aT.o.gN.k7;have dE:=(gL.of (KR.o.b.block _ gL.lt)).k6;have dG:=(gR.of (KR.o.b.block _ gR.lt)).k6;clear hO zJ bq zK aG F9 eO gq dA bF fU;go_wp2_with fail;refine dD.mono ?_;clear dD gz dE dG aT;rintro e Z8 ⟨rfl,zu⟩;have JF:=Zh (KR.o.below zu);have dH:=Zh (Vs.below Bq.o JF.o.b);have n0:=dH.o.gN.at 0;have n6:=dH.o.gN.at 6;have w2:=JF.o.g.at 2;have w3:=JF.o.g.at 3;have y2:=JF.o.g.frozen 2;have y3:=JF.o.g.frozen 3;clear zu KR dH;obtain⟨ob,gM,fJ⟩:∃ob,decide (7<=r)=ob/\Wl (decide (7<=r)=ob):=⟨_,rfl,rfl⟩;by_cases k6:r=6
  case' pos=>
   have JX:(r==6)=true:=by simp[k6]
   obtain⟨⟨oa,oc,ox⟩,ho⟩:∃o:ae,ae.mk D7 D8 rO=o:=⟨_,rfl⟩;have bV:Wl ((∀Zq Z',Bw A Zq->Kept (C8 (M (H w0)) (M (H W)+2) b u3) Zq Z'->aA Z' oa ox)/\(if r=6 then rO else CX)=ox):=by cases ho;exact⟨λZq Z' hZ hk=>akh sO.o.2 (aj Bq.o.base hZ) (λx hx=>Bq.o.tree.old x hx) hk,Qu k6⟩
   have C9:=Zh ((JF.o.set ⟨⟨a1,c1,aC L C⟩,⟨a3,c3,aC (aC R Q) qR⟩,⟨D7,D8,rO⟩,F,0,0⟩ 2 rfl rfl JF.o.c));have C9:=Zh ((C9.o.set ⟨⟨a1,c1,aC L C⟩,⟨a3,c3,aC (aC R Q) qR⟩,⟨D7,D8,rO⟩,ob,0,0⟩ 3 rfl rfl C9.o.c));simp only[ae.val]at C9;clear JF k6;go_upto_region 28 with fail;generalize qw (qw Z8 (aD B 2) (Z D7 (N rO) D8)) (aD B 3) (EP ob)=Z9 at*;rw[ho]at C9;clear ho
  case' neg=>
   have JX:(r==6)=false:=by simp[k6]
   obtain⟨⟨oa,oc,ox⟩,ho⟩:∃o:ae,ae.mk Jz ah CX=o:=⟨_,rfl⟩;have bV:Wl ((∀Zq Z',Bw A Zq->Kept (C8 (M (H w0)) (M (H W)+2) b u3) Zq Z'->aA Z' oa ox)/\(if r=6 then rO else CX)=ox):=by cases ho;exact⟨λZq Z' hZ hk=>(DU.o.2 Z' ((ZA hZ λ_ h _=>h).trans' hk λ_ _ h=>h)).2.2,QC k6⟩
   have C9:=Zh ((JF.o.set ⟨⟨a1,c1,aC L C⟩,⟨a3,c3,aC (aC R Q) qR⟩,⟨Jz,ah,CX⟩,ob,0,0⟩ 3 rfl rfl JF.o.c));clear JF;go_upto_region 28 with fail;generalize qw Z8 (aD B 3) (EP ob)=Z9 at*;rw[ho]at C9;clear ho k6
  all_goals
   clear n0 n6 w2 w3 y2 y3 gM JX;have bW:=Zh (Vs.below Bq.o C9.o.b);have bn:=CY ts q (aC L C) (aC (aC R Q) qR);have eT:=Tn ao a1 a3 cap c1 c3 ts q (aC L C) (aC (aC R Q) qR) Z9.drew (xJ.o.cat.below bW.o.base.drew) xJ.o.Aq.cat (xJ.o.query.below bW.o.base.drew) xJ.o.Aq.five xJ.o.Aq.src xJ.o.Aq.eight xJ.o.Aq.cols (vC C9.o.s (by show N (aC L C)<=1000;omega)).1 (bM.with Pb.o.fo aF.o.fo) (vC C9.o.c (by show N (aC (aC R Q) qR)<=1000;omega)).1;have bX:=Zh eQ.o;simp only[aW.d]at bX;rw[bV.o.2,fJ.o]at bX;generalize iK ts q (aC L C) (aC (aC R Q) qR)=SZ at*;have NF:=λZq=>TG r SZ (aW.mk ⟨UD,UE,L⟩ ⟨WV,WW,R⟩ ⟨Jz,ah,CX⟩ uA WX WY) (aW.mk ⟨OI,OJ,C⟩ ⟨OM,ak,Q⟩ ⟨ML,MM,JA⟩ qP OO OP) Zq bn Pb.o.size Pb.o.cost aF.o.size aF.o.cost;simp only[aW.cells,ae.val,aW.d]at NF;generalize rR r SZ (bH.mk L R CX uA WX WY) (bH.mk C Q JA qP OO OP)=CT at*;have pE:=Zh NF;clear eQ fJ NF bn;obtain⟨t0,t1,t2,t3,t4,t5,t6,t7,-⟩:=bW.o.tree.g.k9;obtain⟨cK,cO⟩:=C9.o.g.k2;simp only[ae.val]at t1 t4 t5 t6 t7 cK cO;have aP:b≠B:=by have:=Cu.o;have:=Bq.o.gN.lt;have:=C9.o.lo;omega
   clear bW;refine QW (S:=λx=>Kept (λy=>y≠B) Z9 x/\x.cell? (aD B 0)=O (Z a1 (N (aC L C)) c1)/\x.cell? (aD B 1)=O (Z a3 (N (aC (aC R Q) qR)) c3)) (by kernel_rfl) ⟨ZA ((Qr (M (H Z9)) Z9).drew) (λ_ hl _=>hl),cK,cO⟩ (λt=>?_);refine wt 0 (Y (O (aD b 0))) t ?_;refine wt 1 (Y (O (aD b 0))) t ?_;refine wt 2 (Y (O (aD b 0))) t ?_;refine wT 3 (Z ao (N ts) cap) t (λx hx=>?_) ?_
   .have e0:=ZY t0 hx.1 aP;go_simp
   refine wt 4 (Y (O (aD b 0))) t ?_;refine wt 5 (Y (O (aD b 0))) t ?_;refine wt 6 (Y (O (aD b 1))) t ?_;refine wT 7 (.agg q.cells) t (λx hx=>?_) ?_
   .have e1:=ZY t1 hx.1 aP;have e2:=ZY t2 hx.1 aP;have e3:=ZY t3 hx.1 aP;have e4:=ZY t4 hx.1 aP;have e5:=ZY t5 hx.1 aP;have e6:=ZY t6 hx.1 aP;have e7:=ZY t7 hx.1 aP;simp only[af.cells,ae.val];go_simp
   refine wt 8 (Y (O (aD B 0))) t ?_;refine wT 9 (Z a1 (N (aC L C)) c1) t (λx hx=>?_) ?_
   .have e0:=hx.2.1;go_simp
   refine wt 10 (Y (O (aD B 1))) t ?_;refine wT 11 (Z a3 (N (aC (aC R Q) qR)) c3) t (λx hx=>?_) ?_
   .have e0:=hx.2.2;go_simp
   refine wR 12 λK G=>?_;go_simp;refine XO eT ?_;clear eT;rintro e fK ⟨rfl,fO⟩;have bu:Bw Z9 fK:=((Qr _ _).drew).trans fO;refine G.o _ _ ⟨ZA bu (λ_ hl _=>hl),cB bu cK,cB bu cO⟩ (λt=>?_);clear G K fO;refine wt 13 (Y (O (aD B 4))) t ?_;have Ub:=Zh (C9.o.below bu);have w4:=Ub.o.g.at 4;have y4:=Ub.o.g.frozen 4;have Fv:=Zh (Ub.o.set ⟨⟨a1,c1,aC L C⟩,⟨a3,c3,aC (aC R Q) qR⟩,⟨oa,oc,ox⟩,ob,SZ,0⟩ 4 rfl rfl Ub.o.c);refine wR 14 λK G=>?_;go_simp;refine G.o _ _ ⟨(ZA bu (λ_ hl _=>hl)).trans (JE _ _ _ _),Fv.o.g.at 0,Fv.o.g.at 1⟩ (λt=>?_);clear G K t w4 y4 cK cO t0 t1 t2 t3 t4 t5 t6 t7 Ub C9 bu;refine wD ?_;try simp only[pU]
   generalize qw fK (aD B 4) (I Dc (SZ:Int))=Z11 at*;have eU:=Zh (Vs.below Bq.o Fv.o.b);have NF:=pE.o Z11;have m0:=eU.o.gN.at 0;have w4:=Fv.o.g.at 4;have dE:=(gL.of (Fv.o.b.block _ gL.lt)).k6;have dG:=(gR.of (Fv.o.b.block _ gR.lt)).k6;clear eU pE;go_wp2_with fail;refine NF.mono ?_;clear NF m0 w4 dE dG;rintro e gP ⟨rfl,mH⟩;have Uc:=Zh (Fv.o.below mH);have w5:=Uc.o.g.at 5;have y5:=Uc.o.g.frozen 5;have JG:=Zh (Uc.o.set ⟨⟨a1,c1,aC L C⟩,⟨a3,c3,aC (aC R Q) qR⟩,⟨oa,oc,ox⟩,ob,SZ,CT⟩ 5 rfl rfl Uc.o.c);clear Fv Uc mH;go_upto_region 30 with fail;clear w5 y5;generalize qw gP (aD B 5) (I Dc (CT:Int))=Z13 at*;obtain⟨hE,hL⟩:=alO (Bq.o.below JG.o.b) (v:=⟨⟨a1,c1,aC L C⟩,⟨a3,c3,aC (aC R Q) qR⟩,⟨oa,oc,ox⟩,ob,SZ,CT⟩) (o:=Oq) (ok:=kb) (by rw[bX.o];cases kb <;> rfl) (λZ' hk=>by
    have h1:M (H W)+2<=M (H A):=Bq.o.gN.lt;have h2:=Cu.o;have h3:=λg (e:u3.ownBlock=O g)=>(Xf Bq.o.tree.own e).2;exact⟨TZ JG.o.s (by show N (aC L C)<=1000;omega) h1 (by omega) h3 hk,TZ JG.o.c (by show N (aC (aC R Q) qR)<=1000;omega) h1 (by omega) h3 hk,bV.o.1 Z13 Z' JG.o.b hk⟩)
   obtain⟨fM,mG⟩:=aV hE hL;simp only[World.oQ,aW.cells,ae.val]at fM mG;have aS:=(Bq.o.below JG.o.b).gR;have hc:=aS.k6;have hf:=GB.f6 aS;have hw:=JG.o.g.k6;simp only[ae.val]at hw;clear hE hL aS JG bV bX Bq gL gR DU aH xJ sO Pb aF;go_wp2;exact X0 (Jp (p:=4) (u:=5) (x:=EP kb) rfl rfl rfl mG.o) rfl fM.o
def T9(w0:U)(b:Nat)(ao po:Option Addr)(cap pcap:Nat)(ts:List ag)(q:af)(pl:List ai)(D:CZ w0 ao po ts q pl):∀f,VC w0 b ao po cap pcap ts q pl f:=by
 intro f
 induction f with
 |zero=>intro i W seen e a;omega
 |succ f ih=>exact λi W seen e a g j k hd l d=>adn w0 b ao po cap pcap ts q pl D f i ih (by omega) W seen e g j k hd l d
def ads{v:bH}(h1:1<=N pl)(h:fC ts q pl (N pl) (N pl-1) []=O (v,s))(hn:E pl (N pl-1) nz=n)(hk:n.kind=9) :
  q.group=F/\0<=n.l/\n.l<(N pl:Int)/\∃u y,fC ts q pl (N pl) n.l.toNat []=O (u,y)/\bO ts q pl n.l.toNat=O u:=by
 obtain⟨m,k⟩:∃m,N pl=m+1:=⟨N pl-1,by omega⟩;have b:cZ n=true:=by
  cases b:cZ n with
  |true=>rfl
  |false =>
   rw[k]at h;rw[MW (by simp_all) (.inl b)]at h;cases h
 have e:m+1-1=m:=Nat.add_sub_cancel m 1;rw[k,e]at h hn;rw[Ej hn b (by omega) (by omega) (by omega)]at h;unfold mK at h;split at h
 .cases h
 rename_i hb;have d:0<=n.l/\n.l<(m:Int):=by omega
 cases hr:fC ts q pl m n.l.toNat ([]++[m]) with
 |none=>simp_all
 |some x =>
  obtain⟨l,r⟩:=x;rw[hr]at h;simp only[Zr]at h;obtain⟨t,_,j,_⟩:=vL ts q pl m n.l.toNat ([]++[m]) l r (by simp;omega) hr;have f:n.l.toNat<m:=by omega
  have a:jX ts q pl (N pl) n.l.toNat=O l:=by rw[vN ts q pl (N pl) m n.l.toNat (by omega) f];exact t
  have p:q.group=false:=by
   cases hnv:jg ts q n l vz with
   |none=>simp_all
   |some v' =>
    rw[kT]at hnv;split at hnv
    .rename_i ho
     unfold kS at ho;simp only[Qm]at ho;have g:=ho.2;unfold kP at g;simp_all
    .cases hnv
  have i:=ui ts q pl (N pl) n.l.toNat [] l a j (by simp);refine⟨p,d.1,by omega,l,_,i,?_⟩;rw[<-qY ts q pl (show n.l.toNat<N pl by omega)];exact a
