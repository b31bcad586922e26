import Derived.Test.YtfnnchibngigdaaGreatDoorS01
import Derived.Test.YtfnnchibngigdaaGreatDoorS03
set_option linter.all false
set_option maxRecDepth 100000
set_option maxHeartbeats 0
namespace Go.Proofs.Zz
open Go.RowKit Go.Shelf
open List renaming length->N,getD->E
open Go.Value renaming slice->Z,int->I
open Option renaming some->O,none->Qp
open Go.IntKind renaming i64->J
open Bool renaming false->F,true->T
open Go renaming World->U,Value->Qa
open Go.World renaming heap->H
open _root_.Array renaming size->M
variable {w w2:U} {G tG:Nat} {c:Array Qa} {bs:Qu (Nat × Obj)} {ts:Qu af} {q:ae} {n:ag} {v:bn} {ps:Qu bZ}
structure Pre(w w2:U)(G tG:Nat)(c:Array Qa)(bs:Qu (Nat × Obj)):Prop where
 jC:Bw w w2
 lo:M (H w)<=G
 g:GB w2 G tG c
 bs:∀p,p∈bs->p.1≠G/\M (H w)<=p.1/\w2.heap[p.1]? = O p.2
def Pre.store(h:Pre w w2 G tG c bs)(i:Nat)(v:Qa):Pre w (w2.setCell (aD G i) v) G tG (c.setIfInBounds i v) bs:=
 ⟨h.jC.setCell (p:=(aD G i)) h.lo v,h.lo,h.g.set i v,λp a=>⟨(h.bs p a).1,(h.bs p a).2.1,(Zv (h.bs p a).1).trans (h.bs p a).2.2⟩⟩
def Pre.alloc{w w2:U}{G tG:Nat}{c:Array Qa}{bs:Qu (Nat × Obj)}(h:Pre w w2 G tG c bs)(o:Obj):Pre w (w2.alloc o) G tG c ((M (H w2),o)::bs):=by
 have d:=h.g.lt;refine⟨h.jC.alloc h.jC.size o,h.lo,h.g.of (Zw d),λp b=>?_⟩;rcases List.mem_cons.1 b with rfl|b
 .exact⟨X,h.jC.size,iB w2 o⟩
 .have a:=h.bs p b;exact⟨a.1,a.2.1,(Zw (ZI.1 a.2.2).1).trans a.2.2⟩
def Pre.move{w3:U}{c':Array Qa}(h:Pre w w2 G tG c bs)(hb:Bw w w3)(ho:∀j,j<M (H w2)->j≠G->w3.heap[j]? = w2.heap[j]?)(hg:GB w3 G tG c'):Pre w w3 G tG c' bs:=
 ⟨hb,h.lo,hg,λp a=>⟨(h.bs p a).1,(h.bs p a).2.1,(ho p.1 (ZI.1 (h.bs p a).2.2).1 (h.bs p a).1).trans (h.bs p a).2.2⟩⟩
theorem Pre.at(h:Pre w w2 G tG c bs){b t:Nat}{d:Array Qa}(hm:(b,Obj.cells d t (0,0))∈bs):GB w2 b t d:=(h.bs _ hm).2.2
def Pre.start(w:U)(o:Obj)(c:Array Qa)(tG:Nat)(k:Obj):Pre w (((w.alloc o).alloc (.cells c tG)).alloc k) (M (H w)+1) tG c [(M (H w)+2,k),(M (H w),o)]:=by
 have b:M (H (w.alloc o))=M (H w)+1:=Qb;have d:Pre w ((w.alloc o).alloc (.cells c tG)) (M (H w)+1) tG c [(M (H w),o)]:=by
  refine⟨ah (bz _ _) (bz _ _),X,?_,λp a=>?_⟩
  .show ((w.alloc o).alloc (.cells c tG)).heap[M (H w)+1]? = _
   rw[<-b,iB]
  .rw[Xb]at a;subst a;exact⟨X,Q6 _,(Zw X).trans (iB w o)⟩
 have e:=d.alloc k;simp_all
def yZ{w w':U}{base base':Nat}{e:TypeId}{size:Nat}{v:Qa}{n:Nat}{xs:Qu Qa}(h:w.ownsRow base e size v n xs)(hb:base'<=base)(ho:∀j,base<=j->j<M (H w)->w'.heap[j]? = w.heap[j]?):w'.ownsRow base' e size v n xs:=by
 obtain⟨l,d⟩:=h;refine⟨l,?_⟩;rcases d with d|⟨g,a,b,k,f,i,r⟩
 .simp_all
 .exact Or.inr ⟨g,a,b,k,ZB hb f,(ho g f (ZI.1 i).1).trans i,r⟩
def zn:Qu Value:=[I J 0,I J 0,I J 0,I J 0,Z Qp 0 0,I J 0,Z Qp 0 0]
def nk:Qu Value:=[I J 77777,I J 0,I J 0,I J 0,Z Qp 0 0,I J 0,Z Qp 0 0]
def Xc:=@yZ
theorem xU(ok:Ok ts q)(hp:bI n=T)(h2:2<=n.kind)(h10:n.kind<=10){l r:bZ}{vl vr:bn}(hl:PV q l vl)(hr:PV q r vr)(hz:vl.size=dJ ts q vl.sources vl.clauses)
  (h1:arity n.kind≠2->r=pz/\vr=vz) (hv:fA ts q n vl vr=O v):PV q (mK ts q n l r) v/\v.size=dJ ts q v.sources v.clauses:=by
 rw[fO]at hv;by_cases a:fC ts q n vl vr=T
 .rw[Q8 a]at hv;injection hv with hv;subst hv;unfold fC at a;simp only[Q3,Zd]at a;obtain⟨⟨⟨y,_⟩,u⟩,_⟩:=a;have b:=ig u;have m:vl.out=decide (n.kind=10):=by simp_all
  have g:di n.kind=decide (7<=n.kind):=by unfold di;simp_all
  have j:(if n.kind=1 then 2 ^ n.source.toNat else 0)|||l.sources|||r.sources=aL (ak vl.sources vr.sources):=by rw[Zf X,Nat.zero_or,hl.sources,hr.sources,nK hl.dA hr.dA]
  have k:aL n.cl.xs|||l.clauses|||r.clauses=aL (ak (ak vl.clauses vr.clauses) n.cl.xs):=by rw[nK (hl.ji.with hr.ji) b,nK hl.ji hr.ji,hl.clauses,hr.clauses,Nat.or_assoc,Nat.or_comm]
  have d:=(hl.ji.with hr.ji).with b;have p:(if di n.kind=T then l.size else fK ts q (aL (ak vl.sources vr.sources)) (aL (ak (ak vl.clauses vr.clauses) n.cl.xs)))=dJ ts q (ak vl.sources vr.sources) (ak (ak vl.clauses vr.clauses) n.cl.xs):=by
   by_cases i:7<=n.kind
   .rw[g,Zg i,Q8 rfl,hl.size,hz];have t:arity n.kind≠2:=by unfold arity;grind
    have f:n.cl.xs=[]:=by unfold bI at hp;grind
    rw[(h1 t).2,f];rfl
   .rw[g,ZL i,Zf Qb];exact xP ts q ok.kE ok.small (hl.dA.with hr.dA) (dQ hl.mM) d
  refine⟨?_,rfl⟩;refine⟨g,j,hl.dA.with hr.dA,dQ hl.mM,k,d,dQ (dQ hl.rF),?_,?_,?_⟩
  .intro e;have i:=of_decide_eq_false e
   show (if n.kind=6 then n.co.xs else if 2<=n.kind/\n.kind<=5 then l.order else [])=if n.kind=6 then n.co.xs else vl.order;split
   .rfl
   .rw[Q8 X];exact hl.order Qc
  .show (if di n.kind=T then l.size else fK ts q ((if n.kind=1 then 2 ^ n.source.toNat else 0)|||l.sources|||r.sources) (aL n.cl.xs|||l.clauses|||r.clauses))=_
   simp_all
  .show iE n.kind (if di n.kind=T then l.size else fK ts q ((if n.kind=1 then 2 ^ n.source.toNat else 0)|||l.sources|||r.sources) (aL n.cl.xs|||l.clauses|||r.clauses)) l.cost l.size r.cost r.size=_
   rw[j,k,p,hl.cost,hl.size,hr.cost,hr.size];exact xR _ _ _ _
 simp_all
def l8(n:ag):Bool:=
 decide ((1<=arity n.kind∨n.l=0)/\(2<=arity n.kind∨n.r=0)/\(n.kind=1∨n.source=0)/\(n.kind=4∨n.kind=5∨n.key=0)/\
  (n.kind=2∨3<=n.kind/\n.kind<=5∨N n.cl.xs=0)/\(n.kind=6∨N n.co.xs=0))
def bR(n:ag)(i:Nat):Bool:=
 decide (1<=n.kind)&&decide (n.kind<=10)&&l8 n&&(decide (arity n.kind<1) ||(decide (0<=n.l)&&decide (n.l<i)))&&(decide (arity n.kind<2) ||(decide (0<=n.r)&&decide (n.r<i)))
def mO(n:ag)(ps:Qu bZ):bZ:=if 1<=arity n.kind then E ps n.l.toNat pz else pz
def kN(n:ag)(ps:Qu bZ):bZ:=if arity n.kind=2 then E ps n.r.toNat pz else pz
def iY(ts:Qu af)(q:ae)(n:ag)(ps:Qu bZ):Option (Qu bZ):=
 if (oU n.kind (mO n ps) (kN n ps)&&eB ts q n (mO n ps) (kN n ps))=T then O (ps++[mK ts q n (mO n ps) (kN n ps)]) else Qp
def bU(ts:Qu af)(q:ae)(plan:Qu ag):Nat->Option (Qu bZ)
 |0=>O []
 |k+1=>(bU ts q plan k).bind (iY ts q (E plan k nz))
def lL(ts:Qu af)(q:ae)(plan:Qu ag):∀(f g i:Nat),i<f->i<g->fJ ts q plan f i=fJ ts q plan g i
 |0,_,_,h,_=>X
 |_,0,_,_,h=>X
 |f+1,g+1,i,h1,h2=>by
  unfold fJ;simp only;generalize E plan i nz=n;split
  .rfl
  split
  .rfl
  split
  .rfl
  rename_i c;rw[lL ts q plan f g n.l.toNat X X];split
  .rfl
  split
  .split
   .rfl
   .rename_i d
    rw[lL ts q plan f g n.r.toNat X X]
  .rfl
theorem oV(n:ag):bI n=(l8 n&&decide (n.kind=6->N n.co.xs≠0)):=by unfold bI l8;grind
def cO(ts:Qu af)(q:ae)(plan:Qu ag)(i:Nat):Option bn:=fJ ts q plan (i+1) i
theorem jU(ts:Qu af)(q:ae)(plan:Qu ag){f i:Nat}(h:i<f):fJ ts q plan f i=cO ts q plan i:=lL ts q plan f (i+1) i h (Nat.lt_succ_self i)
def Cw(ts:Qu af)(q:ae)(plan:Qu ag)(i:Nat)(hn:E plan i nz=n)(hp:bI n=T)(hk:n.kind=1) :
  cO ts q plan i=if n.source<0∨(N q.src.xs:Int)<=n.source then Qp else O ⟨[n.source],[],[],F,dJ ts q [n.source] [],jE 1 (dJ ts q [n.source] []) vz vz⟩:=by unfold cO fJ;simp_all
theorem xV(ts:Qu af)(q:ae)(plan:Qu ag)(i:Nat)(hn:E plan i nz=n)(hp:bI n=F):cO ts q plan i=none:=by unfold cO fJ;simp_all
theorem xW(ts:Qu af)(q:ae)(plan:Qu ag)(i:Nat)(hn:E plan i nz=n)(hp:bI n=T)(hk:2<=n.kind)(hk':n.kind<=10)(ha:arity n.kind≠2)(h0:0<=n.l)(h1:n.l<i) :
  cO ts q plan i=(cO ts q plan n.l.toNat).bind λl=>fA ts q n l vz:=by unfold cO;rw[fJ];simp only[hn];rw[Zf Qc,Zf X,Zf X,jU ts q plan (f:=i) X];unfold cO;grind
theorem F9(ts:Qu af)(q:ae)(plan:Qu ag)(i:Nat)(hn:E plan i nz=n)(hp:bI n=T)(hk:2<=n.kind)(hk':n.kind<=10)(ha:arity n.kind=2)(h0:0<=n.l)(h1:n.l<i)(h2:0<=n.r)(h3:n.r<i) :
  cO ts q plan i=(cO ts q plan n.l.toNat).bind λl=>(cO ts q plan n.r.toNat).bind λr=>fA ts q n l r:=by unfold cO;rw[fJ];simp only[hn];rw[Zf Qc,Zf X,Zf X,jU ts q plan (f:=i) X,jU ts q plan (i:=n.r.toNat) (f:=i) X];unfold cO;grind
def xX(ts:Qu af)(q:ae)(plan:Qu ag)(ps:Qu bZ):Prop:=
 ∀i,i<N ps->∃v,cO ts q plan i=O v/\PV q (E ps i pz) v/\v.size=dJ ts q v.sources v.clauses
theorem Ga{α:Type}(ps:List α)(p z:α)(i:Nat):E (ps++[p]) i z=if i<N ps then E ps i z else if i=N ps then p else z:=by grind
theorem xX.snoc{plan:Qu ag}(h:xX ts q plan ps){p:bZ}(hv:cO ts q plan (N ps)=O v)(hp:PV q p v)(hz:v.size=dJ ts q v.sources v.clauses):xX ts q plan (ps++[p]):=λi a=>by
 rw[Zm,List.length_singleton]at a;rw[Ga];by_cases e:i<N ps
 .rw[Q8 e];exact h i e
 grind
theorem Gb(ok:Ok ts q)(plan:Qu ag)(hk:xX ts q plan ps)(hs:bR (E plan (N ps) nz) (N ps)=T) :
  (cO ts q plan (N ps)=Qp/\iY ts q (E plan (N ps) nz) ps=Qp)∨∃p v,iY ts q (E plan (N ps) nz) ps=O (ps++[p])/\cO ts q plan (N ps)=O v/\PV q p v/\v.size=dJ ts q v.sources v.clauses:=by
 generalize B:E plan (N ps) nz=n at hs ⊢;unfold bR at hs;simp only[Q3,Bool.or_eq_true,Zd]at hs;obtain⟨⟨⟨⟨h1,a⟩,D⟩,hl⟩,hr⟩:=hs;unfold iY;by_cases f:n.kind=1
 .have ha:=lJ f;have b:bI n=true:=by rw[oV,D,Zi,Zd];omega
  have t:mO n ps=pz:=by unfold mO;simp_all
  have j:kN n ps=pz:=by unfold kN;simp_all
  have C:n.cl.xs=[]:=by unfold l8 at D;simp_all
  rw[t,j,Cw ts q plan _ B b f];have ek:oU n.kind pz pz=true:=by rw[f];decide
  have L:eB ts q n pz pz=(decide (0<=n.source)&&decide (n.source<N q.src.xs)):=by unfold eB;simp_all
  rw[ek,L,Zi];by_cases c:n.source<0∨(N q.src.xs:Int)<=n.source
  .grind
  .right;rw[Zf c,Q8 Qg];refine⟨_,_,rfl,rfl,?_,rfl⟩;have e1:2 ^ n.source.toNat=aL [n.source]:=by have:=mI n.source.toNat;grind
   have P:aQ (N q.src.xs) [n.source]:=λx z=>Qg;have Q:(if n.kind=1 then 2 ^ n.source.toNat else 0)|||pz.sources|||pz.sources=aL [n.source]:=by rw[Q8 f,e1];show aL [n.source]|||0|||0=_;simp_all
   have R:aL n.cl.xs|||pz.clauses|||pz.clauses=aL []:=by rw[C];rfl
   have ez:(if di n.kind=T then pz.size else fK ts q (aL [n.source]) (aL []))=dJ ts q [n.source] []:=by rw[Zf (by rw[f];decide)];exact xP ts q ok.kE ok.small P Qb (λx z=>by cases z)
   refine⟨by show di n.kind=F;rw[f];decide,Q,P,Qb,R,(λx z=>by cases z),Z0,?_,?_,?_⟩
   .intro _
    show (if n.kind=6 then n.co.xs else if 2<=n.kind/\n.kind<=5 then pz.order else [])=[];simp_all
   .show (if di n.kind=T then pz.size else fK ts q ((if n.kind=1 then 2 ^ n.source.toNat else 0)|||pz.sources|||pz.sources) (aL n.cl.xs|||pz.clauses|||pz.clauses))=_
    simp_all
   .show iE n.kind (if di n.kind=T then pz.size else fK ts q ((if n.kind=1 then 2 ^ n.source.toNat else 0)|||pz.sources|||pz.sources) (aL n.cl.xs|||pz.clauses|||pz.clauses)) pz.cost pz.size pz.cost pz.size=_
    rw[Q,R,ez,f];exact xR 1 _ vz vz
 have g:2<=n.kind:=X;have aa:1<=arity n.kind:=by unfold arity;grind
 have d:0<=n.l/\n.l<N ps:=by omega
 cases b:bI n with
 |false =>
  left;refine⟨xV ts q plan _ B b,Zf ?_⟩;rw[oV,D,Zi,Ze]at b;have k6:n.kind=6:=by omega
  have L:eB ts q n (mO n ps) (kN n ps)=false:=by unfold eB;rw[Zf X,Zf X,Zf X,Zf X,Zf X,Q8 k6];unfold oh;simp_all
  simp_all
 |true =>
  obtain⟨i,S,u,W⟩:=hk n.l.toNat X;have t:mO n ps=E ps n.l.toNat pz:=by unfold mO;simp_all
  by_cases A:arity n.kind=2
  .have k:0<=n.r/\n.r<N ps:=by omega
   obtain⟨G,K,m,_⟩:=hk n.r.toNat X;have j:kN n ps=E ps n.r.toNat pz:=by unfold kN;simp_all
   rw[t,j,xS ok b g a u m (λe=>absurd A e),F9 ts q plan _ B b g a A d.1 d.2 k.1 k.2,S,K];simp only[Z5]
   cases hN:fA ts q n i G with
   |none =>
    left;refine⟨rfl,Zf λe=>?_⟩;rw[fO,Q8 e]at hN;cases hN
   |some v =>
    right;have e:fC ts q n i G=true:=by
     by_cases e:fC ts q n i G=T
     .exact e
     .rw[fO,Zf e]at hN;cases hN
    rw[Q8 e];obtain⟨x,y⟩:=xU ok b g a u m W (λe=>absurd A e) hN;simp_all
  .have j:kN n ps=pz:=by unfold kN;simp_all
   rw[t,j,xS ok b g a u (Ee q) (λ_=>⟨rfl,rfl⟩),xW ts q plan _ B b g a A d.1 d.2,S];simp only[Z5]
   cases hN:fA ts q n i vz with
   |none =>
    left;refine⟨rfl,Zf λe=>?_⟩;rw[fO,Q8 e]at hN;cases hN
   |some v =>
    right;have e:fC ts q n i vz=true:=by
     by_cases e:fC ts q n i vz=T
     .exact e
     .rw[fO,Zf e]at hN;cases hN
    rw[Q8 e];obtain⟨x,y⟩:=xU ok b g a u (Ee q) W (λ_=>⟨rfl,rfl⟩) hN;simp_all
theorem uQ{ts:Qu af}{q:ae}(ok:Ok ts q)(plan:Qu ag):∀k,(∀i,i<k->bR (E plan i nz) i=T)->
  (bU ts q plan k=Qp/\∃i,i<k/\cO ts q plan i=Qp)∨∃e,bU ts q plan k=O e/\N e=k/\xX ts q plan e
 |0,_=>.inr ⟨[],rfl,rfl,λi f=>by cases f⟩
 |k+1,h=>by
  rcases uQ ok plan k (λi f=>h i X) with⟨h1,i,f,h2⟩|⟨e,h1,rfl,h2⟩
  .grind [bU.eq_2]
  .rcases Gb ok plan h2 (h _ X) with⟨a,b⟩|⟨p,v,a,b,c,d⟩
   .grind [bU.eq_2]
   .right;refine⟨e++[p],?_,Qb,h2.snoc b c d⟩
    grind [bU.eq_2]
structure Ahead{α:Type}(lt:α->α->Bool):Prop where
 asymm:∀{x y},lt x y=T->lt y x=F
 trans:∀{x y z},lt x y=T->lt y z=T->lt x z=T
 ntrans:∀{x y z},lt y x=F->lt z y=F->lt z x=F
section
variable {α:Type} {lt:α->α->Bool}
end
def GB.keep{w':U}{t:TypeId}{s:Qv}(h:GB w G t c)(hk:Kept s w w')(hs:s G):GB w' G t c:=h.of (hk.block G h.lt hs)
structure SY(ts:Qu af)(q:ae):Prop where
 cat:bQ ts=T
 src:aP q.src.xs (N ts)=T
 five:N q.src.xs<=5
 eight:N q.wh<=8
 aO:nL ts q
 some:∀i,i<N q.wh->0<(E q.wh i lz).cs.length
 three:∀i,i<N q.wh->(E q.wh i lz).cs.length<=3
def SY.ok(h:SY ts q):Ok ts q:=⟨h.cat,h.src,Qj h.five,Qj h.eight,h.aO,h.some⟩
