import Derived.Test.YtpcfbajdeipgbaaGreatDoorX01
set_option linter.all false
set_option maxRecDepth 100000
set_option maxHeartbeats 0
namespace Go.Proofs.Zz
open Go.RowKit Go.Shelf
open List renaming length->N,getD->E
open Go.Value renaming slice->Z,int->I,pointer->Y,bool->EP
open Go.Proofs.Tryz renaming prog->V
open Option renaming some->O,none->E5
open Go.IntKind renaming i64->J,u64->Dc
open Bool renaming false->F,true->T
open Go renaming World->U,Value->KX
open Go.World renaming heap->H,cell?->Am
open _root_.Array renaming size->M
open Go.RowKit renaming Hid->Wl
open Go.Obj renaming cells->FL
open Go.Ending renaming returned->FR
variable {b base i k n:Nat} {a is l ps src xs ys:List Int} {q:af} {p r:gz} {v:KX} {ts:List ag} {vl vr:bH} {α:Type} {plan:List ai} {cs:List aF} {ls:List az} {c:Int} {rs:List ae} {W w:U} {e tE tI:TypeId} {x:ae} {db:List aJ}
def il(k:Int):Bool:=decide (7<=k)&&decide (k<=10)
def pz:gz:=⟨0,0,0,[],0,0⟩
def nR(ts:List ag)(q:af)(n:ai)(a b:Nat):Int × Int × Bool:=
 if n.key∈n.cl.xs/\0<=n.key/\n.key<N q.wh then GA ts q.src.xs (E q.wh n.key.toNat lz).cs a b else (0,0,F)
def kQ(ts:List ag)(q:af)(n:ai)(a b:Nat):Bool:=decide (a &&& b=0)&&jm ts q n.cl.xs (a|||b)
def jV(q:af)(l:gz):Bool:=decide (l.sources=2 ^ (N q.src.xs)-1)&&decide (l.clauses=2 ^ (N q.wh)-1)
def AJ(kind:Int)(l r:gz):Bool:=(il l.kind==decide (kind=10)) && !il r.kind
def dA(ts:List ag)(q:af)(n:ai)(l r:gz):Bool:=
 if n.kind=1 then decide (0<=n.source)&&decide (n.source<N q.src.xs)
 else if n.kind=2 then decide (0<N n.cl.xs)&&jm ts q n.cl.xs l.sources
 else if n.kind=3 then kQ ts q n l.sources r.sources
 else if n.kind=4 then (nR ts q n l.sources r.sources).2.2&&kQ ts q n l.sources r.sources
 else if n.kind=5 then (nR ts q n l.sources r.sources).2.2&&kQ ts q n l.sources r.sources&&aY l.order [(nR ts q n l.sources r.sources).1]&&aY r.order [(nR ts q n l.sources r.sources).2.1]
 else if n.kind=6 then xO ts q.src.xs n.co.xs l.sources
 else if n.kind=7 then q.group&&jV q l
 else if n.kind=8 then q.group&&jV q l&&aY l.order q.keys.xs
 else if n.kind=9 then !q.group&&jV q l
 else decide (0<N q.ord.xs)
def xQ(ts:List ag)(q:af)(n:ai)(l r:gz):gz:=
 let s:=(if n.kind=1 then 2 ^ n.source.toNat else 0)|||l.sources|||r.sources
 let c:=aZ n.cl.xs|||l.clauses|||r.clauses
 let z:=if il n.kind=T then l.size else mP ts q s c
 ⟨n.kind,s,c,if n.kind=6 then n.co.xs else if 2<=n.kind/\n.kind<=5 then l.order else [],z,oU n.kind z l.cost l.size r.cost r.size⟩
structure PV(q:af)(p:gz)(v:bH):Prop where
 out:il p.kind=v.out
 sources:p.sources=aZ v.sources
 fo:bM (N q.src.xs) v.sources
 nu:v.sources.Nodup
 clauses:p.clauses=aZ v.clauses
 qI:bM (N q.wh) v.clauses
 Dt:v.clauses.Nodup
 order:v.out=F->p.order=v.order
 size:p.size=v.size
 cost:p.cost=v.cost
def YK(q:af):PV q pz vz where
 out:=by decide
 sources:=rfl
 fo:=λx a=>by cases a
 nu:=Zo
 clauses:=rfl
 qI:=λx a=>by cases a
 Dt:=Zo
 order:=λ_=>rfl
 size:=rfl
 cost:=rfl
def kS(ts:List ag)(q:af)(n:ai)(l r:bH):Bool:=
 !(r.out ||(l.out != decide (n.kind=10)))&&decide (N (aC l.sources r.sources)=N l.sources+N r.sources)&&dF ts q n.cl.xs (aC l.sources r.sources)&&kP ts q n l r
theorem kT(ts:List ag)(q:af)(n:ai)(l r:bH):jg ts q n l r=if kS ts q n l r=T then
  O ⟨aC l.sources r.sources,aC (aC l.clauses r.clauses) n.cl.xs,if n.kind=6 then n.co.xs else l.order,decide (7<=n.kind),iK ts q (aC l.sources r.sources) (aC (aC l.clauses r.clauses) n.cl.xs),
   rR n.kind (iK ts q (aC l.sources r.sources) (aC (aC l.clauses r.clauses) n.cl.xs)) l r⟩ else none:=by unfold jg kS;grind
structure Ok(ts:List ag)(q:af):Prop where
 cat:dL ts=T
 src:aM q.src.xs (N ts)=T
 small:N q.src.xs<=64
 qX:N q.wh<=64
 cols:ze ts q
 some:∀i,i<N q.wh->0<(E q.wh i lz).cs.length
theorem UW{b:List Int}(ha:bM n a)(hb:bM n b)(hd:b.Nodup):decide (aZ a &&& aZ b=0)=decide (N (aC a b)=N a+N b):=by grind [yY,UR]
def UX{v:bH}(h:PV q p v):jV q p=rT q v:=by
 unfold jV rT;rw[h.sources,h.clauses];congr 1
 .rw[Zf,Qz,Qz];exact Dq h.fo h.nu
 .rw[Zf,Qz,Qz];exact Dq h.qI h.Dt
def lX{s:List Int}(h:dF ts q l s=T):bM (N q.wh) l:=λx b=>by obtain⟨i,a,e⟩:=Qv b;unfold dF at h;rw[Qn]at h;have d:=h i (Zk.2 a);simp_all
def aeS(ok:Ok ts q){b:List Int}(ha:bM (N q.src.xs) a)(hb:bM (N q.src.xs) b)(l:List Int):jm ts q l (aZ a|||aZ b)=dF ts q l (aC a b):=by rw[<-yZ ha hb];exact BI ok.cat ok.src ok.small ok.cols (ha.with hb) l
def PI(ok:Ok ts q)(n:ai){b:List Int}(ha:bM (N q.src.xs) a)(hb:bM (N q.src.xs) b)(hl:dF ts q n.cl.xs (aC a b)=T) :
  (nR ts q n (aZ a) (aZ b)).2.2=(decide (n.key∈n.cl.xs)&&(eG ts q.src.xs (E q.wh n.key.toNat lz).cs a b).2.2)/\
  ((nR ts q n (aZ a) (aZ b)).2.2=T->nR ts q n (aZ a) (aZ b)=eG ts q.src.xs (E q.wh n.key.toNat lz).cs a b):=by
 unfold nR;by_cases c:n.key∈n.cl.xs
 .have d:=lX hl _ c;rw[Qu ⟨c,d.1,d.2⟩,QD c,QE];obtain⟨e,f⟩:=UU ok.cat ok.src ok.small (cs:=(E q.wh n.key.toNat lz).cs) (ok.some _ (by omega)) (ok.cols _ (by omega)) ha hb
  simp_all
 simp_all
theorem Lf(ok:Ok ts q){n:ai}(hp:cZ n=T)(h2:2<=n.kind)(h10:n.kind<=10){l:gz}(hl:PV q l vl)(hr:PV q r vr)
  (h1:arity n.kind≠2->r=pz/\vr=vz):(AJ n.kind l r&&dA ts q n l r)=kS ts q n vl vr:=by
 unfold cZ at hp;rw[Qz]at hp;obtain⟨_,_,_,_,u,j⟩:=hp;have m:AJ n.kind l r = !(vr.out ||(vl.out != decide (n.kind=10))):=by unfold AJ;rw[hl.out,hr.out];grind
 unfold kS;rw[m]
 cases hA:!(vr.out ||(vl.out != decide (n.kind=10))) with
 |false=>rfl
 |true =>
  rw[QE,QE];have d:vr.out=F/\vl.out=decide (n.kind=10):=by simp_all
  have f:arity n.kind≠2->n.cl.xs=[]->decide (N (aC vl.sources vr.sources)=N vl.sources+N vr.sources)=T/\dF ts q n.cl.xs (aC vl.sources vr.sources)=true:=by intro a B;rw[(h1 a).2,B];exact⟨QD rfl,rfl⟩
  have g:¬(n.kind=2∨3<=n.kind/\n.kind<=5)->n.cl.xs=[]:=λe=>by grind
  have join:∀X:Bool,(kQ ts q n l.sources r.sources&&X)=(decide (N (aC vl.sources vr.sources)=N vl.sources+N vr.sources)&&dF ts q n.cl.xs (aC vl.sources vr.sources)&&X):=λX=>by unfold kQ;rw[hl.sources,hr.sources,UW hl.fo hr.fo hr.nu,aeS ok hl.fo hr.fo]
  unfold dA kP;rw[QC (show ¬n.kind=1 by omega)];by_cases k2:n.kind=2
  .have a:arity n.kind≠2:=by rw[k2];decide
   rw[Qu k2,Qu k2,(h1 a).2,hl.sources];have e:=BI ok.cat ok.src ok.small ok.cols hl.fo n.cl.xs;rw[e,show aC vl.sources vz.sources=vl.sources from rfl,show (N vz.sources)=0 from rfl,Zp,QD rfl,QE,Bool.and_comm]
  rw[QC k2,QC k2];by_cases k3:n.kind=3
  .simp_all
  rw[QC k3];by_cases b:n.kind=4∨n.kind=5
  .rw[Qu b,<-join];by_cases k:dF ts q n.cl.xs (aC vl.sources vr.sources)=T
   .obtain⟨v,y⟩:=PI ok n hl.fo hr.fo k;rw[<-hl.sources,<-hr.sources]at v y;have i:vl.out=false:=by grind
    rw[hl.order i,hr.order d.1];grind
   .have p:dF ts q n.cl.xs (aC vl.sources vr.sources)=false:=by simp_all
    have C:kQ ts q n l.sources r.sources=false:=by simp_all
    grind
  rw[QC b,QC (show ¬n.kind=4 by omega),QC (show ¬n.kind=5 by omega)];have a:arity n.kind≠2:=by unfold arity;grind
  obtain⟨z,A⟩:=f a (g (by omega));rw[z,A,QE,QE];by_cases k6:n.kind=6
  .rw[Qu k6,Qu k6,hl.sources];have t:=Nat.pos_of_ne_zero (j.1 k6);exact abh ok.cat ok.src ok.small hl.fo t
  rw[QC k6,QC k6];rw[UX hl];by_cases k7:n.kind=7
  .simp_all
  rw[QC k7,QC k7];by_cases k8:n.kind=8
  .rw[Qu k8,Qu k8];have i:vl.out=false:=by simp_all
   rw[hl.order i]
  grind
theorem Lg(ok:Ok ts q){n:ai}(hp:cZ n=T)(h2:2<=n.kind)(h10:n.kind<=10){l:gz}(hl:PV q l vl)(hr:PV q r vr)(hz:vl.size=iK ts q vl.sources vl.clauses)
  (h1:arity n.kind≠2->r=pz/\vr=vz) {v:bH} (hv:jg ts q n vl vr=O v):PV q (xQ ts q n l r) v/\v.size=iK ts q v.sources v.clauses:=by
 rw[kT]at hv;by_cases a:kS ts q n vl vr=T
 .rw[Qu a]at hv;injection hv with hv;subst hv;unfold kS at a;simp only[Qm,Qz]at a;obtain⟨⟨⟨y,_⟩,j⟩,_⟩:=a;have b:=lX j;have p:vl.out=decide (n.kind=10):=by simp_all
  have g:il n.kind=decide (7<=n.kind):=by unfold il;simp_all
  have k:(if n.kind=1 then 2 ^ n.source.toNat else 0)|||l.sources|||r.sources=aZ (aC vl.sources vr.sources):=by rw[QC (by omega),Nat.zero_or,hl.sources,hr.sources,yZ hl.fo hr.fo]
  have m:aZ n.cl.xs|||l.clauses|||r.clauses=aZ (aC (aC vl.clauses vr.clauses) n.cl.xs):=by rw[yZ (hl.qI.with hr.qI) b,yZ hl.qI hr.qI,hl.clauses,hr.clauses,Nat.or_assoc,Nat.or_comm]
  have d:=(hl.qI.with hr.qI).with b;have t:(if il n.kind=T then l.size else mP ts q (aZ (aC vl.sources vr.sources)) (aZ (aC (aC vl.clauses vr.clauses) n.cl.xs)))=iK ts q (aC vl.sources vr.sources) (aC (aC vl.clauses vr.clauses) n.cl.xs):=by
   by_cases i:7<=n.kind
   .rw[g,QD i,Qu rfl,hl.size,hz];have u:arity n.kind≠2:=by unfold arity;grind
    have f:n.cl.xs=[]:=by unfold cZ at hp;grind
    rw[(h1 u).2,f];rfl
   .rw[g,QX i,QC (by simp)];exact Lc ts q ok.qX ok.small (hl.fo.with hr.fo) (iP hl.nu) d
  refine⟨?_,rfl⟩;refine⟨g,k,hl.fo.with hr.fo,iP hl.nu,m,d,iP (iP hl.Dt),?_,?_,?_⟩
  .intro e;have i:=of_decide_eq_false e
   show (if n.kind=6 then n.co.xs else if 2<=n.kind/\n.kind<=5 then l.order else [])=if n.kind=6 then n.co.xs else vl.order;split
   .rfl
   .rw[Qu (by omega)];exact hl.order (by grind)
  .show (if il n.kind=T then l.size else mP ts q ((if n.kind=1 then 2 ^ n.source.toNat else 0)|||l.sources|||r.sources) (aZ n.cl.xs|||l.clauses|||r.clauses))=_
   simp_all
  .show oU n.kind (if il n.kind=T then l.size else mP ts q ((if n.kind=1 then 2 ^ n.source.toNat else 0)|||l.sources|||r.sources) (aZ n.cl.xs|||l.clauses|||r.clauses)) l.cost l.size r.cost r.size=_
   rw[k,m,t,hl.cost,hl.size,hr.cost,hr.size];exact Le _ _ _ _
 simp_all
def xh(n:ai):Bool:=
 decide ((1<=arity n.kind∨n.l=0)/\(2<=arity n.kind∨n.r=0)/\(n.kind=1∨n.source=0)/\(n.kind=4∨n.kind=5∨n.key=0)/\
  (n.kind=2∨3<=n.kind/\n.kind<=5∨N n.cl.xs=0)/\(n.kind=6∨N n.co.xs=0))
def eF(n:ai)(i:Nat):Bool:=
 decide (1<=n.kind)&&decide (n.kind<=10)&&xh n&&(decide (arity n.kind<1) ||(decide (0<=n.l)&&decide (n.l<i)))&&(decide (arity n.kind<2) ||(decide (0<=n.r)&&decide (n.r<i)))
def xR(n:ai)(ps:List gz):gz:=if 1<=arity n.kind then E ps n.l.toNat pz else pz
def uN(n:ai)(ps:List gz):gz:=if arity n.kind=2 then E ps n.r.toNat pz else pz
def sZ(ts:List ag)(q:af)(n:ai)(ps:List gz):Option (List gz):=
 if (AJ n.kind (xR n ps) (uN n ps)&&dA ts q n (xR n ps) (uN n ps))=T then O (ps++[xQ ts q n (xR n ps) (uN n ps)]) else E5
def gP(ts:List ag)(q:af)(plan:List ai):Nat->Option (List gz)
 |0=>O []
 |k+1=>(gP ts q plan k).bind (sZ ts q (E plan k nz))
def vN(ts:List ag)(q:af)(plan:List ai):∀(f g i:Nat),i<f->i<g->jX ts q plan f i=jX ts q plan g i
 |0,_,_,h,_=>by omega
 |_,0,_,_,h=>by omega
 |f+1,g+1,i,h1,h2=>by
  unfold jX;simp only;generalize E plan i nz=n;split
  .rfl
  split
  .rfl
  split
  .rfl
  rename_i c;rw[vN ts q plan f g n.l.toNat (by omega) (by omega)];split
  .rfl
  split
  .split
   .rfl
   .rename_i d
    rw[vN ts q plan f g n.r.toNat (by omega) (by omega)]
  .rfl
theorem AP(n:ai):cZ n=(xh n&&decide (n.kind=6->N n.co.xs≠0)):=by unfold cZ xh;grind
def bO(ts:List ag)(q:af)(plan:List ai)(i:Nat):Option bH:=jX ts q plan (i+1) i
theorem qY(ts:List ag)(q:af)(plan:List ai){f:Nat}(h:i<f):jX ts q plan f i=bO ts q plan i:=vN ts q plan f (i+1) i h (Nat.lt_succ_self i)
def GD(ts:List ag)(q:af)(plan:List ai)(i:Nat){n:ai}(hn:E plan i nz=n)(hp:cZ n=T)(hk:n.kind=1) :
  bO ts q plan i=if n.source<0∨(N q.src.xs:Int)<=n.source then E5 else O ⟨[n.source],[],[],F,iK ts q [n.source] [],rR 1 (iK ts q [n.source] []) vz vz⟩:=by unfold bO jX;simp_all
theorem zf(ts:List ag)(q:af)(plan:List ai)(i:Nat){n:ai}(hn:E plan i nz=n)(hp:cZ n=F):bO ts q plan i=none:=by unfold bO jX;simp_all
theorem Du(ts:List ag)(q:af)(plan:List ai)(i:Nat){n:ai}(hn:E plan i nz=n)(hp:cZ n=T)(hk:2<=n.kind)(hk':n.kind<=10)(ha:arity n.kind≠2)(h0:0<=n.l)(h1:n.l<i) :
  bO ts q plan i=(bO ts q plan n.l.toNat).bind λl=>jg ts q n l vz:=by unfold bO;rw[jX];simp only[hn];rw[QC (by grind),QC (by omega),QC (by omega),qY ts q plan (f:=i) (by omega)];unfold bO;grind
theorem Lh(ts:List ag)(q:af)(plan:List ai)(i:Nat){n:ai}(hn:E plan i nz=n)(hp:cZ n=T)(hk:2<=n.kind)(hk':n.kind<=10)(ha:arity n.kind=2)(h0:0<=n.l)(h1:n.l<i)(h2:0<=n.r)(h3:n.r<i) :
  bO ts q plan i=(bO ts q plan n.l.toNat).bind λl=>(bO ts q plan n.r.toNat).bind λr=>jg ts q n l r:=by unfold bO;rw[jX];simp only[hn];rw[QC (by grind),QC (by omega),QC (by omega),qY ts q plan (f:=i) (by omega),qY ts q plan (i:=n.r.toNat) (f:=i) (by omega)];unfold bO;grind
def EJ(ts:List ag)(q:af)(plan:List ai)(ps:List gz):Prop:=
 ∀i,i<N ps->∃v,bO ts q plan i=O v/\PV q (E ps i pz) v/\v.size=iK ts q v.sources v.clauses
theorem abj(ps:List α)(p z:α)(i:Nat):E (ps++[p]) i z=if i<N ps then E ps i z else if i=N ps then p else z:=by grind
theorem EJ.snoc{ps:List gz}(h:EJ ts q plan ps){v:bH}(hv:bO ts q plan (N ps)=O v)(hp:PV q p v)(hz:v.size=iK ts q v.sources v.clauses):EJ ts q plan (ps++[p]):=λi a=>by
 rw[QI,List.length_singleton]at a;rw[abj];by_cases e:i<N ps
 .rw[Qu e];exact h i e
 grind
theorem abk(ok:Ok ts q)(plan:List ai){ps:List gz}(hk:EJ ts q plan ps)(hs:eF (E plan (N ps) nz) (N ps)=T) :
  (bO ts q plan (N ps)=E5/\sZ ts q (E plan (N ps) nz) ps=E5)∨∃p v,sZ ts q (E plan (N ps) nz) ps=O (ps++[p])/\bO ts q plan (N ps)=O v/\PV q p v/\v.size=iK ts q v.sources v.clauses:=by
 generalize B:E plan (N ps) nz=n at hs ⊢;unfold eF at hs;simp only[Qm,Bool.or_eq_true,Qz]at hs;obtain⟨⟨⟨⟨h1,a⟩,D⟩,hl⟩,hr⟩:=hs;unfold sZ;by_cases f:n.kind=1
 .have ha:=vK f;have b:cZ n=true:=by rw[AP,D,QE,Qz];omega
  have t:xR n ps=pz:=by unfold xR;simp_all
  have j:uN n ps=pz:=by unfold uN;simp_all
  have C:n.cl.xs=[]:=by unfold xh at D;simp_all
  rw[t,j,GD ts q plan _ B b f];have X:AJ n.kind pz pz=true:=by rw[f];decide
  have L:dA ts q n pz pz=(decide (0<=n.source)&&decide (n.source<N q.src.xs)):=by unfold dA;simp_all
  rw[X,L,QE];by_cases c:n.source<0∨(N q.src.xs:Int)<=n.source
  .grind
  .right;rw[QC c,Qu (by simp_all)];refine⟨_,_,rfl,rfl,?_,rfl⟩;have e1:2 ^ n.source.toNat=aZ [n.source]:=by have:=xN n.source.toNat;grind
   have P:bM (N q.src.xs) [n.source]:=λx z=>by simp_all
   have Q:(if n.kind=1 then 2 ^ n.source.toNat else 0)|||pz.sources|||pz.sources=aZ [n.source]:=by rw[Qu f,e1];show aZ [n.source]|||0|||0=_;simp_all
   have R:aZ n.cl.xs|||pz.clauses|||pz.clauses=aZ []:=by rw[C];rfl
   have ez:(if il n.kind=T then pz.size else mP ts q (aZ [n.source]) (aZ []))=iK ts q [n.source] []:=by rw[QC (by rw[f];decide)];exact Lc ts q ok.qX ok.small P (by simp) (λx z=>by cases z)
   refine⟨by show il n.kind=F;rw[f];decide,Q,P,by simp,R,(λx z=>by cases z),Zo,?_,?_,?_⟩
   .intro _
    show (if n.kind=6 then n.co.xs else if 2<=n.kind/\n.kind<=5 then pz.order else [])=[];simp_all
   .show (if il n.kind=T then pz.size else mP ts q ((if n.kind=1 then 2 ^ n.source.toNat else 0)|||pz.sources|||pz.sources) (aZ n.cl.xs|||pz.clauses|||pz.clauses))=_
    simp_all
   .show oU n.kind (if il n.kind=T then pz.size else mP ts q ((if n.kind=1 then 2 ^ n.source.toNat else 0)|||pz.sources|||pz.sources) (aZ n.cl.xs|||pz.clauses|||pz.clauses)) pz.cost pz.size pz.cost pz.size=_
    rw[Q,R,ez,f];exact Le 1 _ vz vz
 have g:2<=n.kind:=by omega
 have aa:1<=arity n.kind:=by unfold arity;grind
 have d:0<=n.l/\n.l<N ps:=by omega
 cases b:cZ n with
 |false =>
  left;refine⟨zf ts q plan _ B b,QC ?_⟩;rw[AP,D,QE,QA]at b;have k6:n.kind=6:=by omega
  have L:dA ts q n (xR n ps) (uN n ps)=false:=by unfold dA;rw[QC (by omega),QC (by omega),QC (by omega),QC (by omega),QC (by omega),Qu k6];unfold xO;simp_all
  simp_all
 |true =>
  obtain⟨i,S,u,W⟩:=hk n.l.toNat (by omega);have t:xR n ps=E ps n.l.toNat pz:=by unfold xR;simp_all
  by_cases A:arity n.kind=2
  .have k:0<=n.r/\n.r<N ps:=by omega
   obtain⟨G,K,m,_⟩:=hk n.r.toNat (by omega);have j:uN n ps=E ps n.r.toNat pz:=by unfold uN;simp_all
   rw[t,j,Lf ok b g a u m (λe=>absurd A e),Lh ts q plan _ B b g a A d.1 d.2 k.1 k.2,S,K];simp only[Zr]
   cases hN:jg ts q n i G with
   |none =>
    left;refine⟨rfl,QC λe=>?_⟩;rw[kT,Qu e]at hN;cases hN
   |some v =>
    right;have e:kS ts q n i G=true:=by
     by_cases e:kS ts q n i G=T
     .exact e
     .rw[kT,QC e]at hN;cases hN
    rw[Qu e];obtain⟨x,y⟩:=Lg ok b g a u m W (λe=>absurd A e) hN;simp_all
  .have j:uN n ps=pz:=by unfold uN;simp_all
   rw[t,j,Lf ok b g a u (YK q) (λ_=>⟨rfl,rfl⟩),Du ts q plan _ B b g a A d.1 d.2,S];simp only[Zr]
   cases hN:jg ts q n i vz with
   |none =>
    left;refine⟨rfl,QC λe=>?_⟩;rw[kT,Qu e]at hN;cases hN
   |some v =>
    right;have e:kS ts q n i vz=true:=by
     by_cases e:kS ts q n i vz=T
     .exact e
     .rw[kT,QC e]at hN;cases hN
    rw[Qu e];obtain⟨x,y⟩:=Lg ok b g a u (YK q) W (λ_=>⟨rfl,rfl⟩) hN;simp_all
theorem AQ{ts:List ag}{q:af}(ok:Ok ts q)(plan:List ai):∀k,(∀i,i<k->eF (E plan i nz) i=T)->
  (gP ts q plan k=E5/\∃i,i<k/\bO ts q plan i=E5)∨∃ps,gP ts q plan k=O ps/\N ps=k/\EJ ts q plan ps
 |0,_=>.inr ⟨[],rfl,rfl,λi e=>by cases e⟩
 |k+1,h=>by
  rcases AQ ok plan k (λi e=>h i (by omega)) with⟨h1,i,e,h2⟩|⟨ps,h1,rfl,h2⟩
  .grind [gP.eq_2]
  .rcases abk ok plan h2 (h _ (by omega)) with⟨a,b⟩|⟨p,v,a,b,c,d⟩
   .grind [gP.eq_2]
   .right;refine⟨ps++[p],?_,by simp,h2.snoc b c d⟩
    grind [gP.eq_2]
def jI(l:List Int):Bool:=(List.range (N l)).all λi=>decide (E l i 0=(i:Int))
def oq(q:af):List Int:=q.ord.xs.map λp=>E q.aH.xs p.toNat 0
def uO(q:af)(kind:Int)(order:List Int):Bool:=
 if N q.ord.xs=0 then T
 else if kind=10 then T
 else if kind=9 then aY order (oq q)
 else if kind=8 then decide (N q.ord.xs<=N q.keys.xs)&&jI q.ord.xs
 else F
def xS(plan:List ai):Bool:=(List.range (N plan-1)).all λk=>decide (dz (N plan) (λi=>(nQ plan i).count k)=1)
def dD(plan:List ai):Bool:=
 decide (1<=N plan)&&decide (N plan<=64)&&((List.range (N plan)).all λi=>eF (E plan i nz) i)&&xS plan
def fQ(ts:List ag)(q:af)(plan:List ai):Option (List gz):=
 if dD plan=F then E5
 else (gP ts q plan (N plan)).bind λps=>
  let n:=E plan (N plan-1) nz
  if (il n.kind&&uO q n.kind (E ps n.l.toNat pz).order)=T then O ps else E5
def ou(ts:List ag)(q:af)(plan:List ai):Bool:=
 let n:=E plan (N plan-1) nz
 if N q.ord.xs=0∨n.kind=10 then T
 else if n.kind=9 then aY ((bO ts q plan n.l.toNat).getD vz).order (oq q)
 else jI q.ord.xs&&(decide (n.kind=8)&&decide (N q.ord.xs<=N q.keys.xs))
def xk(ts:List ag)(q:af)(plan:List ai):Option bH:=
 if N plan<1∨64<N plan then E5
 else (fC ts q plan (N plan) (N plan-1) []).bind λx=>if x.1.out=T/\N x.2=N plan/\ou ts q plan=T then O x.1 else E5
theorem qi{v:bH}(h:bO ts q plan i=O v) :
  eF (E plan i nz) i=T/\v.out=il (E plan i nz).kind/\∀j∈nQ plan i,∃u,bO ts q plan j=O u:=by
 unfold bO jX at h;unfold nQ;simp only at h ⊢;generalize E plan i nz=n at h ⊢;by_cases A:cZ n=F∨n.kind<1∨10<n.kind
 .simp_all
 rw[QC A]at h;have d:cZ n=true:=by simp_all
 have p:xh n=true:=by rw[AP,Qm]at d;exact d.1
 have g:1<=n.kind/\n.kind<=10:=by omega
 have t:∀l r,jg ts q n l r=O v->v.out=il n.kind:=λl r e=>by
  rw[kT]at e;split at e
  .injection e with e;rw[<-e]
   show decide (7<=n.kind)=_;unfold il;simp_all
  .cases e
 unfold eF;rw[QD g.1,QD g.2,p];by_cases a:n.kind=1
 .have y:=vK a;rw[Qu a]at h;by_cases B:n.source<0∨(N q.src.xs:Int)<=n.source
  .simp_all
  rw[QC B]at h;injection h with h;rw[y,Qu rfl];refine⟨rfl,?_,λj z=>by cases z⟩;rw[<-h,a];rfl
 rw[QC a]at h;have b:arity n.kind≠0:=by unfold arity;grind
 rw[QC b];by_cases C:n.l<0∨(i:Int)<=n.l
 .simp_all
 rw[QC C,qY ts q plan (f:=i) (by omega)]at h;have k:decide (0<=n.l)=T/\decide (n.l<i)=true:=⟨QD (by omega),QD (by omega)⟩;rw[k.1,k.2]
 cases hvl:bO ts q plan n.l.toNat with
 |none=>simp_all
 |some l =>
  rw[hvl]at h;simp only at h;by_cases m:arity n.kind=2
  .rw[Qu m]at h;by_cases D:n.r<0∨(i:Int)<=n.r
   .simp_all
   rw[QC D,qY ts q plan (f:=i) (by omega)]at h;grind
  .have G:=Dp a m
   grind
theorem abl:∀(m i:Nat),i<=m->∀{v:bH},bO ts q plan i=O v->∀k∈jY plan i,∃u,bO ts q plan k=O u:=by
 intro m
 induction m with
 |zero =>
  grind [nQ,qh]
 |succ m ih =>
  intro i l v f k b;rw[qh]at b;rcases QP.1 b with e|e
  .simp_all
  .obtain⟨j,a,d⟩:=QO.1 e;obtain⟨u,g⟩:=(qi f).2.2 j a;have:=BG plan i j a
   grind
theorem xU{last:Nat}(ho:∀k,k<last->dz (last+1) (λi=>(nQ plan i).count k)=1){v:bH}(hv:bO ts q plan last=O v):∀k,k<=last->∃u,bO ts q plan k=O u:=λk a=>by have b:=(Py (BG plan) last).1 ho k a;exact abl last last (Qs _) hv k (List.count_pos_iff.1 (by grind [jY]))
theorem GG(plan:List ai)(h:1<=N plan):xS plan=T↔∀k,k<N plan-1->dz (N plan-1+1) (λi=>(nQ plan i).count k)=1:=by unfold xS;simp_all
theorem abm(ok:Ok ts q)(plan:List ai):(fQ ts q plan=E5/\xk ts q plan=E5)∨
  ∃ps v,fQ ts q plan=O ps/\xk ts q plan=O v/\1<=N plan/\N ps=N plan/\EJ ts q plan ps/\(E ps (N plan-1) pz).cost=v.cost:=by
 unfold fQ xk;by_cases g:N plan<1∨64<N plan
 .left;rw[Qu g,Qu]
  .simp_all
  grind [dD]
 rw[QC g];have t:1<=N plan:=by omega
 have k:dD plan=(((List.range (N plan)).all λi=>eF (E plan i nz) i)&&xS plan):=by grind [dD]
 have b:=abf ts q plan (N plan) (N plan-1);rw[Nat.sub_add_cancel t]at b
 -- where the document reads it,all is well
 have Q:∀v s,fC ts q plan (N plan) (N plan-1) []=O (v,s)->N s=N plan->dD plan=T/\bO ts q plan (N plan-1)=O v/\∀i,i<N plan->∃u,bO ts q plan i=O u:=by intro v s m hs;obtain⟨a,_,c⟩:=(b v s).1 ⟨m,hs⟩;rw[qY ts q plan (by omega)]at a;have R:=(GG plan t).2 (by simp_all);have f:=xU ((GG plan t).1 R) a;refine⟨?_,a,λi z=>f i (by omega)⟩;rw[k,R,Bool.and_true,Qn];intro i z;obtain⟨u,y⟩:=f i (by grind);exact(qi y).1
 cases hI:dD plan with
 |false =>
  simp_all
 |true =>
  rw[QC (by simp)];rw[k,Qm,Qn]at hI;obtain⟨G,aa⟩:=hI;rcases AQ ok plan (N plan) (λi z=>G i (Zk.2 z)) with⟨hp,i,z,K⟩|⟨ps,hp,hpl,hk⟩
  .left;rw[hp];refine⟨rfl,?_⟩
   cases m:fC ts q plan (N plan) (N plan-1) [] with
   |none=>rfl
   |some x =>
    grind
  .rw[hp];obtain⟨v,K,hP,_⟩:=hk (N plan-1) (by omega);have m:=
    (b v _).2 ⟨by grind [qY],rfl,by grind [GG]⟩
   rw[m.1];obtain⟨j,r,ae⟩:=qi K;simp only[Zr,m.2];generalize hn:E plan (N plan-1) nz=n at j r;have B:il n.kind=T->uO q n.kind (E ps n.l.toNat pz).order=ou ts q plan:=by
    intro A;have Uv:7<=n.kind/\n.kind<=10:=by unfold il at A;simp_all
    unfold uO ou;simp only[hn];by_cases W:N q.ord.xs=0
    .simp_all
    rw[QC W];by_cases X:n.kind=10
    .simp_all
    rw[QC X,QC (show ¬(N q.ord.xs=0∨n.kind=10) from λe=>e.elim W X)];by_cases P:n.kind=9
    .rw[Qu P,Qu P];unfold eF at j;simp only[Qm,Bool.or_eq_true,Qz]at j;have ha:arity n.kind=1:=by rw[P];decide
     have S:0<=n.l/\n.l<(N plan-1:Nat):=by omega
     obtain⟨u,y,L,_⟩:=hk n.l.toNat (by omega);rw[y];have C:cZ n=true:=by grind [zf]
     have d:=Du ts q plan _ hn C (by omega) (by omega) (by omega) S.1 S.2;rw[K,y]at d;simp only[Zr]at d;rw[kT]at d;have p:kS ts q n u vz=true:=by simp_all
     unfold kS at p;simp only[Qm]at p;have D:u.out=false:=by simp_all
     rw[L.order D];rfl
    grind
   cases A:il n.kind with
   |false =>
    simp_all
   |true =>
    rw[r,A,B A,QE]
    cases hsB:ou ts q plan with
    |false=>left;simp
    |true=>right;exact⟨ps,v,by simp,by simp,t,hpl,hk,hP.cost⟩
def bW{α:Type}(lt:α->α->Bool)(x:α):List α->List α
 |[]=>[x]
 |y::r=>if lt x y=T then y::bW lt x r else x::y::r
def jJ{α:Type}(lt:α->α->Bool)(x:α)(l:List α):List α:=(bW lt x l.reverse).reverse
def mg{α:Type}(lt:α->α->Bool)(A B:List α):List α:=B.foldl (λout x=>jJ lt x out) A
structure kU{α:Type}(lt:α->α->Bool):Prop where
 asymm:∀{x y},lt x y=T->lt y x=F
 trans:∀{x y z},lt x y=T->lt y z=T->lt x z=T
 ntrans:∀{x y z},lt y x=F->lt z y=F->lt z x=F
def dh{α:Type}(lt:α->α->Bool)(l:List α):Prop:=l.Pairwise λa b=>lt b a=F
section
variable {α:Type} {lt:α->α->Bool}
theorem Li(x y:α)(l:List α):jJ lt x (l++[y])=if lt x y=T then jJ lt x l++[y] else l++[y,x]:=by grind [jJ,bW]
theorem EK(b:α):∀(r s:List α),(∀a∈r,lt b a=T)->bW lt b (r++s)=r++bW lt b s
 |[],_,_=>rfl
 |a::r,s,h=>by show (if lt b a=T then a::bW lt b (r++s) else b::a::(r++s))=_;rw[Qu (h a (by simp)),EK b r s (λx hx=>h x (by simp[hx]))];rfl
theorem PK(b:α):∀(s:List α),(∀a∈s,lt b a=F)->bW lt b s=b::s
 |[],_=>rfl
 |a::s,h=>by grind [bW]
theorem BK(b:α)(s:List α)(h:∀a∈s,lt b a=F):∀(r:List α),bW lt b (r++s)=bW lt b r++s
 |[]=>PK b s h
 |a::r=>by show (if lt b a=T then a::bW lt b (r++s) else b::a::(r++s))=(if lt b a=T then a::bW lt b r else b::a::r)++s;rw[BK b s h r];split <;> rfl
theorem rG{b:α}{A1 A2:List α}(h:∀a∈A2,lt b a=T):jJ lt b (A1++A2)=jJ lt b A1++A2:=by grind [jJ,EK]
theorem GH{b:α}{A1 A2:List α}(h:∀a∈A1,lt b a=F):jJ lt b (A1++A2)=A1++jJ lt b A2:=by grind [jJ,BK]
theorem Lj{b:α}{A:List α}(h:∀a∈A,lt b a=F):jJ lt b A=A++[b]:=by
 have:=GH (lt:=lt) (b:=b) (A1:=A) (A2:=[]) h
 rwa [QN]at this
theorem Ll(b:α)(A:List α):(jJ lt b A).Perm (A++[b]):=by
 unfold jJ;refine(List.reverse_perm _).trans ?_;have:∀r:List α,(bW lt b r).Perm (b::r):=by
  intro r
  induction r with
  |nil=>rfl
  |cons a r ih =>
   show (if lt b a=T then a::bW lt b r else b::a::r).Perm _;split
   .exact(List.Perm.cons a ih).trans (List.Perm.swap b a r)
   rfl
 refine(this _).trans ?_;grind [List.reverse_perm]
theorem aeT{b x:α}{A:List α}:x∈jJ lt b A↔x∈A∨x=b:=by grind [Ll]
theorem aeU(A:List α):mg lt A []=A:=rfl
theorem Dv(A B C:List α):mg lt A (B++C)=mg lt (mg lt A B) C:=by grind [mg]
theorem GJ(A:List α)(b:α):mg lt A [b]=jJ lt b A:=rfl
def tu(A B:List α)(b:α):mg lt A (b::B)=mg lt (jJ lt b A) B:=rfl
theorem FY:∀(B A:List α),(mg lt A B).Perm (A++B)
 |[],A=>by rw[aeU,QN]
 |b::B,A=>by rw[tu];refine(FY B _).trans ?_;refine(List.Perm.append_right B (Ll b A)).trans ?_;simp_all
theorem xV{x:α}{A B:List α}:x∈mg lt A B↔x∈A∨x∈B:=by rw[(FY (lt:=lt) B A).mem_iff,Ze]
theorem pg(A B:List α):N (mg lt A B)=N A+N B:=by grind [List.Perm.length_eq,FY,List.length_append]
theorem YL:∀(B A1 A2:List α),(∀b∈B,∀a∈A2,lt b a=T)->mg lt (A1++A2) B=mg lt A1 B++A2
 |[],_,_,_=>rfl
 |b::B,A1,A2,h=>by rw[tu,tu,rG (h b (by simp)),YL B _ _ (λx hx=>h x (by simp[hx]))]
theorem PM:∀(B A1 A2:List α),(∀b∈B,∀a∈A1,lt b a=F)->mg lt (A1++A2) B=A1++mg lt A2 B
 |[],_,_,_=>rfl
 |b::B,A1,A2,h=>by rw[tu,tu,GH (h b (by simp)),PM B _ _ (λx hx=>h x (by simp[hx]))]
theorem PN{A1 A2 B1 B2:List α}(h1:∀b∈B1,∀a∈A2,lt b a=T)(h2:∀b∈B2,∀a∈A1,lt b a=F)(h3:∀b∈B2,∀a∈B1,lt b a=F) :
  mg lt (A1++A2) (B1++B2)=mg lt A1 B1++mg lt A2 B2:=by grind [Dv,YL,PM,xV]
theorem Ng:∀{B:List α},dh lt B->∀{A:List α},(∀b∈B,∀a∈A,lt b a=F)->mg lt A B=A++B
 |[],_,A,_=>by grind [aeU]
 |b::B,h,A,hA=>by
  unfold dh at h;rw[Zt]at h;rw[tu,Lj (hA b (by simp)),Ng h.2,Zu]
  .rfl
  grind
theorem EM(Oq:kU lt){x y:α}(h:lt x y=T):∀r:List α,bW lt x (bW lt y r)=bW lt y (bW lt x r)
 |[]=>by show (if lt x y=T then y::bW lt x [] else x::y::[])=(if lt y x=T then x::bW lt y [] else y::x::[]);rw[Qu h,QC (by rw[Oq.asymm h];simp)];rfl
 |z::r=>by
  by_cases hy:lt y z=T
  .have hx:=Oq.trans h hy;have e1:bW lt y (z::r)=z::bW lt y r:=Qu hy;have e2:bW lt x (z::r)=z::bW lt x r:=Qu hx;rw[e1,e2]
   show (if lt x z=T then z::bW lt x (bW lt y r) else _)=(if lt y z=T then z::bW lt y (bW lt x r) else _);rw[Qu hx,Qu hy,EM Oq h r]
  .have e1:bW lt y (z::r)=y::z::r:=QC hy;have e2:bW lt x (y::z::r)=y::bW lt x (z::r):=Qu h;rw[e1,e2];by_cases hx:lt x z=T
   .grind [bW]
   .have e3:bW lt x (z::r)=x::z::r:=QC hx;rw[e3];exact(QC (by rw[Oq.asymm h];simp)).symm
theorem abn(Oq:kU lt){x y:α}(h:lt x y=T)(l:List α):jJ lt x (jJ lt y l)=jJ lt y (jJ lt x l):=by grind [jJ,EM]
theorem Lm(Oq:kU lt)(L:List α)(b:α):∀r:List α,(bW lt b r).foldr (jJ lt) L=jJ lt b (r.foldr (jJ lt) L)
 |[]=>rfl
 |s::r=>by
  show (if lt b s=T then s::bW lt b r else b::s::r).foldr (jJ lt) L=_;split
  .rename_i h
   rw[List.foldr_cons,Lm Oq L b r,List.foldr_cons,abn Oq h]
  .rfl
theorem abo(Oq:kU lt)(L:List α)(B:List α):mg lt L (mg lt [] B)=mg lt L B:=by
 have key:∀r:List α,(r.foldr (bW lt) []).foldr (jJ lt) L=r.foldr (jJ lt) L:=by
  intro r
  induction r with
  |nil=>rfl
  |cons b r ih=>grind [Lm]
 have a:∀X:List α,mg lt L X=X.reverse.foldr (jJ lt) L:=λX=>by grind [mg]
 have d:∀r:List α,(mg lt [] r.reverse).reverse=r.foldr (bW lt) []:=by
  intro r
  induction r with
  |nil=>rfl
  |cons b r ih =>
   grind [Dv,jJ,GJ]
 grind
theorem aeV(Oq:kU lt){x:α}{A:List α}(h:dh lt A):dh lt (jJ lt x A):=by
 unfold jJ;have d:A.reverse.Pairwise (λa b=>lt a b=F):=by rw[List.pairwise_reverse];exact h
 unfold dh;rw[List.pairwise_reverse];generalize A.reverse=r at d
 induction r with
 |nil=>exact List.pairwise_singleton _ _
 |cons a r ih =>
  rw[Zt]at d;show (if lt x a=T then a::bW lt x r else x::a::r).Pairwise _;split
  .rename_i hx
   rw[Zt];refine⟨λy hy=>?_,ih d.2⟩;have g:y∈(bW lt x r).reverse:=by simp_all
   have e:y∈jJ lt x r.reverse:=by grind [jJ]
   rcases aeT.1 e with h|h
   .simp_all
   .rw[h];exact Oq.asymm hx
  .rename_i hx
   have f:lt x a=false:=by simp_all
   rw[Zt];refine⟨λy hy=>?_,by simp_all⟩;rcases QP.1 hy with h|h
   .simp_all
   .exact Oq.ntrans (d.1 y h) f
def GK(Oq:kU lt):∀(B:List α) {A:List α},dh lt A->dh lt (mg lt A B)
 |[],_,h=>h
 |b::B,_,h=>GK Oq B (aeV Oq h)
end
def kV{P:Prop}(x y:Int)(bad:x≠y->(x==y)=F->(x != y)=T->P)(good:x=y->(x==y)=T->(x != y)=F->P):P:=by
 by_cases h:x=y
 .exact good h (by simp[h]) (by simp[h])
 .exact bad h (by simp[h]) (by simp[h])
def gF(op l r:Int):Int:=
 if op=2 then (if l=1073741824 then 1 else -1) else if l=1073741824∨r=1073741824 then 0 else if (op=0/\l=r)∨(op=1/\l<r) then 1 else -1
def fT(c:aF)(xs:List Int):Int:=
 let t:=gF c.op (E xs c.left.toNat 0) (if c.op=2∨c.const=T then c.right else E xs c.right.toNat 0)
 if c.not then -t else t
def gX(cs:List aF)(xs:List Int):Bool:=cs.any λc=>decide (fT c xs=1)
def eP(ls:List az)(is:List Int)(xs:List Int):Bool:=is.all λi=>gX (E ls i.toNat lz).cs xs
theorem UY(hk:k<N cs):gX (cs.take (k+1)) xs=(gX (cs.take k) xs ||decide (fT (E cs k cz) xs=1)):=by grind [gX,List.take_succ_eq_append_getElem]
theorem abp(hk:k<N is)(h:gX (E ls is[k].toNat lz).cs xs=F):F=eP ls is xs:=by symm;unfold eP;grind
def UZ(hk:k<N is)(hp:eP ls (is.take k) xs=T)(h:gX (E ls is[k].toNat lz).cs xs=T):eP ls (is.take (k+1)) xs=true:=by unfold eP at*;rw[Qh hk,List.all_append,hp,List.all_cons,List.all_nil,h];rfl
theorem EN{c:aF}(h:dC c n=T):(c.op=0∨c.op=1∨c.op=2)/\(0<=c.left/\c.left<n)/\(c.op=2∨c.const=T∨(0<=c.right/\c.right<n)):=by unfold dC at h;grind
def mZ(cs:List aF)(xs:List Int):Int:=cs.foldl (λm c=>max m (fT c xs+1)) 0
theorem Nh(hk:k<N cs):mZ (cs.take (k+1)) xs=max (mZ (cs.take k) xs) (fT (E cs k cz) xs+1):=by grind [mZ,List.take_succ_eq_append_getElem]
theorem BM(op l r:Int):gF op l r=1∨gF op l r=0∨gF op l r = -1:=by grind [gF]
theorem vO(c:aF)(xs:List Int):fT c xs=1∨fT c xs=0∨fT c xs = -1:=by unfold fT;simp only;have:=BM c.op (E xs c.left.toNat 0) (if c.op=2∨c.const=T then c.right else E xs c.right.toNat 0);omega
theorem zU(cs:List aF)(xs:List Int):0<=mZ cs xs/\mZ cs xs<=2:=by
 unfold mZ;have h:∀(l:List aF) (m:Int),0<=m/\m<=2->0<=l.foldl (λm c=>max m (fT c xs+1)) m/\l.foldl (λm c=>max m (fT c xs+1)) m<=2:=by
  intro l
  induction l with
  |nil=>simp_all
  |cons c l ih =>
   intro m a;refine ih _ ?_;grind [vO]
 simp_all
theorem Ni(cs:List aF)(xs:List Int):decide (mZ cs xs=2)=gX cs xs:=by
 unfold mZ gX;have h:∀(l:List aF) (m:Int),0<=m/\m<=2->decide (l.foldl (λm c=>max m (fT c xs+1)) m=2)=(decide (m=2) ||l.any λc=>decide (fT c xs=1)):=by
  intro l
  induction l with
  |nil=>grind
  |cons c l ih =>
   intro m b;have a:=vO c xs;rw[QY,ih _ (by omega),List.any_cons,<-Bool.or_assoc];congr 1;rcases a with h|h|h <;> rw[h]
   .grind
   .grind
   grind
 simp_all
def pq(ls:List az)(xs:List Int):Bool:=ls.all λc=>gX c.cs xs
def bT.below{w w':U}(hb:Bw w w'){ao:Option Addr}{ns:List ai}(h:bT w ao ns):bT w' ao ns:=
 ⟨h.1,λi p=>by
  obtain⟨b,off,e,a,d,f,g,j,k,l,m,n⟩:=h.2 i p;exact⟨b,off,e,cB hb a,cB hb d,cB hb f,cB hb g,cB hb j,cB hb k,cB hb l,Qt hb m,Qt hb n⟩⟩
def Jh:=@bT.below
def fU(rs:List ae):List Int:=(rs.map (·.xs)).flatten
def GX(hk:k<N rs):fU (rs.take (k+1))=fU (rs.take k)++(E rs k iz).xs:=by unfold fU;rw[<-ZL rs iz hk,Ql,List.flatten_append];simp
def PU:N (fU (rs.take k))<=N (fU rs):=by
 have h:fU rs=fU (rs.take k)++fU (rs.drop k):=by unfold fU;rw[<-List.flatten_append,<-Ql,Xo]
 rw[h,QI];omega
def aA.keep{A B:U}{ao:Option Addr}{xs:List Int}(h:aA A ao xs)(hb:∀a,ao=O a->a.block<M (H A)->B.heap[a.block]? = A.heap[a.block]?):aA B ao xs:=⟨h.1,h.2.keep hb⟩
def Tryz.abt:Go.Shelf.Ren:=⟨fun|4=>163|n=>n,fun|22=>23|25=>3|3=>3|4=>4|9=>9|20=>20|0=>0|n=>n,fun|n=>n⟩
def Tryz.ak6:Go.Proofs.Lays8.n4 V Tryz.abt:={
 mixed:=by kernel_rfl
 f4:=⟨Tryz.f163.name,by decide,Tryz.func163.trans (congrArg O (by kernel_rfl))⟩
 t0:=Tryz.underlying0
 a0:=Tryz.isAgg0
 z0:=Tryz.sizeOf0
 v0:=Tryz.zeroValue0
 t3:=Tryz.underlying3
 a3:=Tryz.isAgg3
 z3:=Tryz.sizeOf3
 v3:=Tryz.zeroValue3
 t4:=Tryz.underlying4
 a4:=Tryz.isAgg4
 z4:=Tryz.sizeOf4
 v4:=Tryz.zeroValue4
 t9:=Tryz.underlying9
 a9:=Tryz.isAgg9
 z9:=Tryz.sizeOf9
 v9:=Tryz.zeroValue9
 t20:=Tryz.underlying20
 a20:=Tryz.isAgg20
 z20:=Tryz.sizeOf20
 v20:=Tryz.zeroValue20
 t22:=Tryz.underlying23
 a22:=Tryz.isAgg23
 z22:=Tryz.sizeOf23
 v22:=Tryz.zeroValue23 }
def Tryz.tH:(V.info? 3).map (λi=>(i.zero,i.size,i.bytes))=O (O (I J 0),1,8):=by kernel_rfl
def ae1(n:Nat)(w:U)(hn:n<=1000000) :
  Calls V 163 #[Z E5 0 0,I J n] w λe b=>∃v,e=FR v/\b.ownsRow (M (H w)) 3 1 v 0 []/\Bw w b:=by
 obtain⟨k,l,d,f,g⟩:=Xk Tryz.tH;by_cases m:n=0
 .subst m;have h:=Any8.slices_Grow_room Tryz.ak6 E5 0 0 0 w (Qs _) (by omega) (by omega) (by omega);change Calls V 163 _ _ _ at h;refine h.mono ?_;rintro e b ⟨rfl,rfl⟩;exact⟨_,rfl,Xl _ _ _ _,Qr _ _⟩
 .have h:=Any8.slices_Grow_grow Tryz.ak6 k (I J 0) l d (by rw[f];decide) E5 0 0 n [] w (Qs _) (by omega) (by rw[g];omega) (by omega) (by simp) (λ_=>rfl) (λa e=>by cases e);change Calls V 163 _ _ _ at h;refine h.mono ?_;rintro e b ⟨rfl,rfl⟩;refine⟨_,rfl,⟨by simp,.inr ⟨M (H w),_,_,rfl,Qs _,iX w.drew _,Q4 _,?_,?_,by simp⟩⟩,?_⟩
  .exact grownCap_le_maxLen _ _ _ _ (by unfold maxLen;omega)
  .have i:=grownCap_ge w (0+n) 0 3;have j:(Value.int J 0).cells.size=1:=rfl;simp only[Array.size_append,size_zeroCells,j,ZN,ZO]
   show 0+(0+n-0)*1+(grownCap w (0+n) 0 3-(0+n))*1=grownCap w (0+n) 0 3*1;omega
  .exact(Qr _ w).drew.alloc (Qs _) _
def AX(ao:Option Addr)(cap:Nat)(rs:List ae)(w:U)(hr:fF w ao rs)(hn:N rs<=1000)(hnil:∀i,i<N rs->(E rs i iz).ad=E5->(E rs i iz).cap=0)(ht:N (fU rs)<=100000) :
  Calls V 120 #[Z ao (N rs) cap] w λe w'=>∃v,e=FR v/\w'.ownsRow (M (H w)) 3 1 v (N (fU rs)) ((fU rs).map (Value.int J))/\Bw w w':=by
 obtain⟨i0,hi,ak,au,av⟩:=Xk Tryz.tH;have HR:Wl _:=hr;obtain⟨HN,HT⟩:=aV hnil ht;clear hr hnil ht;go_enter Tryz.func120,Tryz.ntmps120;go_wp2;go_loopw [3,11] (λs i wr=>∃k:Nat,k<=N rs/\i=I J k/\s=I J (N (fU (rs.take k)))/\w=wr) (λ_ i _=>N rs-(intOf i).toNat)
 case atStart=>exact⟨0,Q4 _,rfl,rfl,rfl⟩
 case round=>
  obtain⟨k,hk,rfl,rfl,rfl⟩:=hrel;by_cases f:k<N rs
  .obtain⟨b,off,rfl,q⟩:=HR.o.2.1.get f;have p:=q k f;have t:N (fU (rs.take (k+1)))<=100000:=Q6 PU HT.o;have y:N (fU (rs.take (k+1)))=N (fU (rs.take k))+(E rs k iz).xs.length:=by rw[GX f,QI]
   have HS:=Zh y;generalize E rs k iz=x at*;obtain⟨W,X,g⟩:=x;have aa:Am w (aD b (off+k))=O (Z W (N g) X):=p;have hw:wrap64 ((N (fU (rs.take k)):Int)+(N g:Int))=((N (fU (rs.take k))+N g:Nat):Int):=by simp only at y;unfold wrap64;omega
   have az:¬(((N (fU (rs.take k))+N g:Nat):Int)<0):=by omega
   have af:=Zh hw;clear p q t y;generalize N (fU (rs.take k))=a at*;go_wp2;go_roundw
   case rel=>exact⟨k+1,by omega,by go_num,by rw[HS.o];exact congrArg (Value.int J) af.o,trivial⟩
   case measure=>simp[intOf];omega
  .have z:k=N rs:=by omega
   subst z;rw[Zb];have ht:=HT.o;generalize S:fU rs=fl at*;have HF:=Zh S;clear S;go_wp2_with fail;refine(ae1 (N fl) w (by omega)).mono ?_;rintro e w2 ⟨v0,rfl,C,ax⟩;go_wp2;go_loopw [6,27] (λv i wr=>∃k:Nat,k<=N rs/\i=I J k/\wr.ownsRow (M (H w)) 3 1 v (N (fU (rs.take k))) ((fU (rs.take k)).map (Value.int J))/\Bw w wr) (λ_ i _=>N rs-(intOf i).toNat)
   case atStart=>exact⟨0,Q4 _,rfl,C,ax⟩
   case round=>
    obtain⟨k,hk,rfl,d,n⟩:=hrel;by_cases f:k<N rs
    .obtain⟨b,off,rfl,q⟩:=HR.o.2.1.get f;have p:=(cB n (q k f))
     have D:(E rs k iz).At wr:=Qt n (HR.o.2.2 k f);have G:=HN.o k f;have t:N (fU (rs.take (k+1)))<=100000:=by have h1:N (fU (rs.take (k+1)))<=N (fU rs):=PU;rw[HF.o]at h1;omega
     have A:=GX f;have K:=Zh A;rw[A,QI]at t;generalize E rs k iz=x at*;obtain⟨W,X,g⟩:=x;simp only at G t;have aa:Am wr (aD b (off+k))=O (Z W (N g) X):=p;have HA:Wl _:=D;clear p q A D;generalize fU (rs.take k)=fk at*;have L:=n.size
     cases W with
     |none =>
      have ag:g=[]:=by
       cases g with
       |nil=>rfl
       |cons a l=>obtain⟨b,off,e,_⟩:=HA.o.2 0 (by simp);cases e
      subst ag;obtain rfl:=G rfl;go_wp2_with (first|(at_builtin;refine wpList_append_own_none rfl _ _ 23 rfl (M (H w)) 3 i0 1 Tryz.underlying23 hi _ _ _ rfl d rfl ?_));go_wp2;go_roundw
      case rel=>exact⟨k+1,by omega,by go_num,by rw[K.o];simpa using d,n⟩
      case measure=>simp[intOf];omega
     |some xa =>
      have ah:Wl (N (g.map (Value.int J))=N g*1):=by show _=_;simp
      have HQ:Wl (∀j u,(g.map (Value.int J))[j]? = O u->wr.cell? (xa.add j)=O u):=by
       intro j u R;have B:j<N g:=by have:=(List.getElem?_eq_some_iff.1 R).1;simpa using this
       obtain⟨b2,Q,e2,ay⟩:=HA.o.2 j B;cases e2;rw[QK,Xq B]at R;cases R;have P:=ay;simp only[List.getD,Xq B,Option.getD_some]at P;have ha:((aD b2 Q):Addr).add j=(aD b2 (Q+j)):=by
        unfold Addr.add;split
        .simp_all
        .rfl
       rw[ha];exact P
      have ai:Wl (∀u∈g.map (Value.int J),u.oneCell' = T):=by intro u hu;obtain⟨a,_,rfl⟩:=Zi.1 hu;rfl
      go_wp2_with (first|(at_builtin;refine wpList_append_own _ rfl _ _ 23 rfl (M (H w)) 3 i0 (.int J 0) 1 8 Tryz.underlying23 hi ak au av rfl (by decide) _ _ _ rfl d xa (N g) X (g.map (Value.int J)) rfl ah.o HQ.o ai.o (by unfold maxLen;omega) (by omega) L ?_));intro v' w1 r m _;have aj:=n.grown m L (λj R=>(d.lt j R).1);have HO:Wl _:=r;clear r m d;go_wp2;go_roundw
      case rel=>exact⟨k+1,by omega,by go_num,by rw[K.o,QI,Ql];exact HO.o,aj⟩
      case measure=>simp[intOf];omega
    .have z:k=N rs:=by omega
     subst z;rw[Zb,HF.o]at d;go_wp2;go_ret;refine⟨_,rfl,?_,n⟩;rw[HF.o];exact d
section
theorem oC(h:w.ownsRow base e 1 v n (xs.map (Value.int J)))(hl:N xs<=1152921504606846976) :
  ∃iv:ae,v=iv.val/\iv.xs=xs/\ah.At iv w/\∀b,ah.aT iv=O b->base<=b:=by
 have l:N xs=n:=by have:=h.1;simpa using this
 rcases h.2 with⟨rfl,h0⟩|⟨g,cap,cur,rfl,d,hh,_,_,hcs,ht⟩
 .have:xs=[]:=QF (by omega);subst this;exact⟨⟨E5,0,[]⟩,rfl,rfl,⟨⟨by simp,λi j=>absurd j (by simp)⟩,(λa k=>by cases k),λ_=>rfl⟩,λb d=>by cases d⟩
 .refine⟨⟨O (aD g 0),cap,xs⟩,by rw[<-l];rfl,rfl,⟨⟨hl,λi j=>⟨g,0,rfl,?_⟩⟩,λa k=>?_,λe=>by cases e⟩,λb f=>?_⟩
  .have p:(cur.toList.take (n*1))[i]? = O (Value.int J (E xs i 0)):=by grind
   have m:cur[i]? = O (Value.int J (E xs i 0)):=by grind
   simp only[World.cell?,hh];simpa using m
  .grind
  .cases f;exact d
def ae3{y:ae}(hx:ah.At x w)(hy:ah.At y w)(e:TypeId):fF (w.alloc (FL #[x.val,y.val] e)) (O (aD (M (H w)) 0)) [x,y]:=by
 have b:=bJ w (FL #[x.val,y.val] e);refine⟨by simp,λi a=>⟨M (H w),0,rfl,?_⟩,λi a=>?_⟩
 .match i,a with
  |0,_=>simp
  |1,_=>simp
 .match i,a with
  |0,_=>exact Qt b hx.1
  |1,_=>exact Qt b hy.1
def U2{s:Nat->Prop}{o:Obj}{W3:U}(hb:Below (M (H (W.alloc o))) (W.alloc o) W3):Kept s W W3:=
 (ZE W o).trans (ZA hb (λb hb _=>hb))
attribute [local go_sem] Oper.semAt_some
def GY(l Nq:Nat)(Jq:List ae->(Nat->Prop)->U->Prop)(all:List (List Int))(w0n:Nat)(x:ae)(io:Option Addr)(iq:Nat)(rs:List ae)(pre:List ae)(o1:Nat->Prop)(W:U)
  (hJ:∀pre o1 A B,Jq pre o1 A->Kept (λb=>o1 b∨b<Nq) A B->Jq pre o1 B)
  (hY:∀pre x o1 W1,Jq pre o1 W1->(pre++[x]).map ah.key <+: all->ah.At x W1->(∀b,ah.aT x=O b->¬o1 b/\(b<w0n∨Nq<=b))->Nq<=M (H W1)->
   YieldAt Fence.wide 0 V l #[ah.enc x] W1 λe W'=>e=FR (EP T)/\∃g,Jq (pre++[x]) g W'/\Kept (λb=>¬o1 b) W1 W'/\
    ∀b,g b->o1 b∨(M (H W1)<=b/\b<M (H W'))∨(ah.aT x=O b/\Nq<=b))
  (hN:Nq<=M (H W)) (hj:Jq pre o1 W) (hpre:pre.map ah.key++rs.map (λr=>x.xs++r.xs) <+: all)
  (hx:ah.At x W) (hxo:∀b,ah.aT x=O b->¬o1 b) (hxl:N x.xs<=1000)
  (hr:bL W io rs) (hio:∀a,io=O a->¬o1 a.block) (hro:∀i,i<N rs->∀a,(E rs i iz).ad=O a->¬o1 a.block) (hrl:∀i,i<N rs->(E rs i iz).xs.length<=1000)
  (ho1:∀b,o1 b->b<M (H W)) :
  Calls V 181 #[x.val,Z io (N rs) iq,.func (.yield l) #[] #[]] W λe W'=>e=FR (EP T)/\∃ys g,ys.map ah.key=rs.map (λr=>x.xs++r.xs)/\Jq (pre++ys) g W'/\Kept (λb=>¬o1 b) W W'/\
   ∀b,g b->o1 b∨(M (H W)<=b/\b<M (H W')):=by
 have aJ:=hr.1.1;have R:=hx.2.2;obtain⟨HJ,HY⟩:=aV hJ hY;have HP:Wl _:=hpre;obtain⟨HX,aC⟩:=aV hx hxo;have HR:Wl _:=hr;obtain⟨aF,Ls,PW,aG⟩:=xA hio hro hrl ho1;clear hJ hY hpre hx hxo hr hio hro hrl ho1;obtain⟨fO,bF,m⟩:=x;unfold ae.val;simp only at R hxl;simp only;refine(ZG (n:=0)).1 (callsIn_of_wp Tryz.func181 rfl trivial ?_ rfl);simp only[Tryz.ntmps181,ZN,QJ,ZO,Nat.reduceAdd,Nat.reduceSub,ZP,ZQ,ZR,ZT,ZU,ZV];gi_wp2;gi_loopw [11] (λi wr=>∃k:Nat,k<=N rs/\i=I J k/\∃ys g,Wl (ys.map ah.key=(rs.take k).map (λr=>m++r.xs))/\Jq (pre++ys) g wr/\Kept (λb=>¬o1 b) W wr/\Wl (∀b,g b->o1 b∨(M (H W)<=b/\b<M (H wr))))
  (λi _=>N rs-(intOf i).toNat)
 case atStart=>exact⟨0,Q4 _,rfl,[],o1,rfl,by simpa using hj,Zx _ _,λb h=>.inl h⟩
 case round=>
  obtain⟨k,hk,rfl,ys,g,t,ak,K,j⟩:=hrel;by_cases f:k<N rs
  .have GZ:∀b,b<M (H W)->¬o1 b->wr.heap[b]? = W.heap[b]?/\¬g b:=λb d h=>⟨K.block b d h,λq=>by
    rcases j.o b q with q|q
    .exact h q
    .omega⟩
   obtain⟨b,off,rfl,au⟩:=HR.o.1.2.1.get f;have aA:b<M (H W):=HR.o.2.1 _ rfl;have S:=(ZK (a:=(aD b (off+k))) (GZ b aA (aF.o _ rfl)).1).trans (au k f);have X:=ah.keep (A:=W) (HR.o.2.2 k f) K.size (λb d L=>by obtain⟨a,ha,rfl⟩:=Dy L;exact(GZ _ d (Ls.o k f a ha)).1);have aa:=ah.keep HX.o K.size (λb d L=>(GZ _ d (aC.o b L)).1);have af:=(HR.o.2.2 k f).2.2;have hrl:=PW.o k f;have ag:(rs.take k).map (λr=>m++r.xs)++[m++(E rs k iz).xs]=(rs.take (k+1)).map (λr=>m++r.xs):=by rw[<-ZL rs iz f,Ql];rfl
   have Lt:=Zh ag;generalize E rs k iz=y at*;obtain⟨uk,jb,P⟩:=y;have aK:Am wr (aD b (off+k))=O (Z uk (N P) jb):=S;obtain⟨av,Np⟩:=aV X aa;simp only at af hrl;clear S X aa GZ au ag;have D:=AX (O (aD (M (H wr)) 0)) 2 [⟨fO,bF,m⟩,⟨uk,jb,P⟩] (wr.alloc (FL #[Z fO (N m) bF,Z uk (N P) jb] 23)) (ae3 Np.o av.o _) (by simp) (λi hi=>by
    match i,hi with
    |0,_=>exact R
    |1,_=>exact af) (by simp[fU];omega)
   have ai:fU [⟨fO,bF,m⟩,⟨uk,jb,P⟩]=m++P:=by simp[fU]
   rw[ai]at D;clear ai;gi_wp2;refine⟨trivial,rfl,ZG.2 (D.mono ?_)⟩;rintro e w3 ⟨v,rfl,C,ax⟩;obtain⟨Q,rfl,J9,zW,FH⟩:=oC C (by simp;omega);have p:∀s,Kept s wr w3:=λs=>U2 ax;have aL:=(p (λ_=>True)).size;have PS:=HJ.o _ _ _ _ ak (p _);have G:∀b,ah.aT Q=O b->M (H wr)<=b:=λb d=>by have:=FH b d;rw[Xm]at this;omega
   have aB:∀b,g b->b<M (H wr):=λb d=>by
    rcases j.o b d with h|h
    .have:=aG.o b h;have:=K.size;omega
    .exact h.2
   have aj:((pre++ys)++[Q]).map ah.key <+: all:=by
    refine List.IsPrefix.trans ?_ HP.o;have e1:((pre++ys)++[Q]).map ah.key=pre.map ah.key++(rs.take (k+1)).map (λr=>m++r.xs):=by rw[Ql,Ql,t.o,<-Lt.o,<-Zu];show _++[Q.xs]=_;rw[J9]
    rw[e1];exact(List.prefix_append_right_inj _).2 (List.IsPrefix.map _ (List.take_prefix _ _))
   have aM:=K.size;obtain⟨fn,tmps,u,ay,hy,hR⟩:=HY.o (pre++ys) Q g w3 PS aj zW (λb d=>⟨λh=>by have:=aB b h;have:=G b d;omega,.inr (by have:=G b d;omega)⟩) (by omega);obtain⟨aH,F3,Uw⟩:=fe J9 p zW;clear C ax p PS aj zW J9 D Np av;obtain⟨Nr,vT,z⟩:=Q;have aN:(Instr.yield l #[Z Nr (N z) vT]).run V w3=.ok (.round l fn tmps u ay) w3:=hy;clear hy;unfold ae.val;simp only;gi_wp2;refine⟨rfl,hR.mono ?_⟩;rintro e w4 ⟨rfl,o3,Nn,az,aI⟩;gi_wp2;go_roundw
   case rel=>
    refine⟨k+1,by omega,by go_num,ys++[⟨Nr,vT,z⟩],o3,?_,by rw[<-Zu];exact Nn,?_,?_⟩
    .show _=_
     rw[Ql,t.o,<-Lt.o];show _++[z]=_;rw[show z=m++P from aH.o]
    .refine(K.trans (F3.o _)).trans' az ?_;intro b d h q;rcases j.o b q with q|q
     .exact h q
     .omega
    .intro b d;have aO:=az.size;rcases aI b d with h|h|h
     .rcases j.o b h with h|h
      .exact .inl h
      .exact .inr ⟨h.1,by omega⟩
     .exact .inr ⟨by omega,h.2⟩
     .exact .inr ⟨by have:=G b h.1;omega,by have:=ah.AV Uw.o h.1;omega⟩
   case measure=>simp[intOf];omega
  .obtain rfl:k=N rs:=by omega
   rw[Zb]at t;gi_wp2;go_ret;exact⟨rfl,ys,g,t.o,ak,K,j.o⟩
end
def Tryz.alC:(V.info? 3).map (λi=>(i.zero,i.size,i.bytes))=O (O (I J 0),1,8):=by kernel_rfl
def Tryz.ass:(V.info? 3).map (·.size)=O 1:=by kernel_rfl
def CP(ao:Option Addr)(cap:Nat)(xs:List Int)(w:U)(hx:aA w ao xs)(hsz:N xs*8<=140737488351232) :
  Calls V 13 #[Z ao (N xs) cap] w λe k=>e=FR (Z (O (aD (M (H w)) 0)) (N xs) (N xs+2))/\k = w.alloc (FL (aR xs) 3):=by
 have b:=run_make_row' (P:=V) 23 3 (.int J 0) 8 Tryz.underlying23 Tryz.alC rfl J J (N xs+2) (by omega) (by omega);have a:((N xs+2:Nat):Int)=(N xs:Int)+2:=by omega
 rw[a]at b;have d:=λl=>J4 (P:=V) w 23 3 ao cap xs hx Tryz.underlying23 Tryz.ass l;have f:=zH w xs 3;have g:=zI w xs 3;have i:=aew xs;have j:=aex xs;clear a hx;go_enter Tryz.func13,Tryz.ntmps13;go_wp2;go_ret;exact⟨rfl,rfl⟩
def rU(v:Int):Bool:=decide (v=1073741824) ||(decide (-1000<=v)&&decide (v<=1000))
def vP(xs:List Int)(n:Int):Bool:=decide ((N xs:Int)=n)&&xs.all rU
def Dw(rs:List ae)(n:Int):Bool:=rs.all λr=>vP r.xs n
def qj(d:aJ)(t:ag):Bool:=decide (N d.rs<=50)&&Dw d.rs t.cols
def xH(ts:List ag)(db:List aJ):Bool:=(List.range (N db)).all λi=>qj (E db i rz) (E ts i tz)
def fH(src:List Int)(db:List aJ):Nat:=src.foldl (λn t=>n*max 1 (E db t.toNat rz).rs.length) 1
def ig(ts:List ag)(src:List Int)(db:List aJ):Bool:=decide (N db=N ts)&&xH ts db&&decide (fH src db<=20000)
theorem BN{p:α->Bool}{l:List α}{d:α}(hk:k<N l)(h:p (E l k d)=F):l.all p=false:=by grind
theorem zg{p:α->Bool}{l:List α}{d:α}(hk:k<N l)(hp:(l.take k).all p=T)(h:p (E l k d)=T):(l.take (k+1)).all p=true:=by grind [List.take_succ_eq_append_getElem]
theorem zV{p:Nat->Bool}(hk:k<n)(h:p k=F):(List.range n).all p=false:=by grind
theorem xW{p:Nat->Bool}(hp:(List.range k).all p=T)(h:p k=T):(List.range (k+1)).all p=true:=by grind
def AU(hk:k<N src):fH (src.take (k+1)) db=fH (src.take k) db*max 1 (E db src[k].toNat rz).rs.length:=by unfold fH;rw[Qh hk,Zv];rfl
def Nj(h:xH ts db=T)(i:Nat):(E db i rz).rs.length<=50:=by
 by_cases a:i<N db
 .unfold xH at h;rw[Qn]at h;have:=h i (by simp_all);unfold qj at this
  simp_all
 .have:E db i rz=rz:=by simp_all
  rw[this];decide
theorem aeW(h:xH ts db=T):fH src db<=50 ^ (N src):=by
 unfold fH;have d:∀(l:List Int) (n:Nat),l.foldl (λn t=>n*max 1 (E db t.toNat rz).rs.length) n<=n*50 ^ (N l):=by
  intro l
  induction l with
  |nil=>intro n;simp
  |cons a l ih =>
   intro n;refine Q6 (ih _) ?_;have e:=Nj h a.toNat;have b:max 1 (E db a.toNat rz).rs.length<=50:=by omega
   rw[QJ,Nat.pow_succ,Nat.mul_comm (50 ^ (N l)) 50,<-Nat.mul_assoc];exact Nat.mul_le_mul_right _ (Nat.mul_le_mul_left _ b)
 grind
def EO(h:xH ts db=T)(hs:N src<=5):fH src db<=312500000:=by have a:=aeW (src:=src) h;have b:(50:Nat) ^ (N src)<=50 ^ 5:=Q3 (by decide) hs;omega
theorem pV(h:xH ts db=T)(hs:N src<=5)(k:Nat):fH (src.take k) db<=312500000:=
 EO h (by grind)
def dP(a b:Int):Int:=if a=b then 0 else if a=1073741824 then -1 else if b=1073741824 then 1 else if a<b then -1 else 1
def cmpL(xs ys:List Int):List Int->Int
 |[]=>0
 |p::ps=>if dP (E xs p.toNat 0) (E ys p.toNat 0)=0 then cmpL xs ys ps else dP (E xs p.toNat 0) (E ys p.toNat 0)
def GM(ps xs ys:List Int):Bool:=decide (cmpL xs ys ps<0)
def fI(ps:List Int)(rows:List (List Int)):List (List Int):=mg (GM ps) [] rows
theorem nI{a b:Int}:dP a b=0↔a=b:=by grind [dP]
theorem BO(a b:Int):dP b a = - dP a b:=by grind [dP]
theorem YM{a b:Int}(h1:dP a b<=0)(h2:dP b c<=0):dP a c<=0:=by grind [dP]
theorem aiq{a b:Int}(h1:dP a b<=0)(h2:dP b c<=0)(h:dP a b≠0∨dP b c≠0):dP a c<0:=by grind [YM,BO]
theorem uP(xs ys:List Int):∀ps,cmpL ys xs ps = - cmpL xs ys ps
 |[]=>rfl
 |p::ps=>by unfold cmpL;rw[BO,uP xs ys ps];omega
theorem FZ{xs ys zs:List Int}:∀{ps},cmpL xs ys ps<=0->cmpL ys zs ps<=0->cmpL xs zs ps<=0
 |[],_,_=>by unfold cmpL;omega
 |p::ps,h1,h2=>by
  unfold cmpL at h1 h2 ⊢;generalize E xs p.toNat 0=a at*;generalize E ys p.toNat 0=b at*;generalize E zs p.toNat 0=c at*;by_cases e1:dP a b=0
  .by_cases e2:dP b c=0
   .have e3:dP a c=0:=by grind [nI]
    rw[Qu e1]at h1;rw[Qu e2]at h2;rw[Qu e3];exact FZ h1 h2
   grind [dP]
  grind [dP]
theorem air{zs:List Int}(h1:cmpL xs ys ps<0)(h2:cmpL ys zs ps<0):cmpL xs zs ps<0:=by grind [FZ,uP]
theorem Lp(ps:List Int):kU (GM ps):=by
 refine⟨λ{x y} h=>?_,λ{x y z} h1 h2=>?_,λ{x y z} h1 h2=>?_⟩
 .grind [GM,uP]
 .grind [GM,air]
 grind [GM,uP,FZ]
section
variable {α β:Type} {lt:α->α->Bool} {lt':β->β->Bool} {f:α->β}
def GN(h:∀a b,lt a b=lt' (f a) (f b))(x:α):∀r,(bW lt x r).map f=bW lt' (f x) (r.map f)
 |[]=>rfl
 |y::r=>by
  show (if lt x y=T then y::bW lt x r else x::y::r).map f=(if lt' (f x) (f y)=T then f y::bW lt' (f x) (r.map f) else f x::f y::r.map f);rw[<-h];split
  .rw[Zd,GN h x r]
  .rfl
def aeX(h:∀a b,lt a b=lt' (f a) (f b))(x:α)(r:List α):(jJ lt x r).map f=jJ lt' (f x) (r.map f):=by unfold jJ;rw[List.map_reverse,GN h,List.map_reverse]
def Nk(h:∀a b,lt a b=lt' (f a) (f b)):∀(B A:List α),(mg lt A B).map f=mg lt' (A.map f) (B.map f)
 |[],A=>rfl
 |b::B,A=>by rw[tu,Nk h B,aeX h,Zd,tu]
end
theorem Dx{rows:List (List Int)}{r:List Int}:r∈fI ps rows↔r∈rows:=by grind [fI,xV]
def Lr(ps:List Int)(rows:List (List Int)):N (fI ps rows)=N rows:=by unfold fI;rw[pg];simp
theorem abq(hk:k<N ps)(h:∀j,j<k->dP (E xs (E ps j 0).toNat 0) (E ys (E ps j 0).toNat 0)=0):cmpL xs ys ps=cmpL xs ys (ps.drop k):=by
 induction k generalizing ps with
 |zero=>rfl
 |succ k ih =>
  cases ps with
  |nil=>simp at hk
  |cons p ps =>
   rw[List.drop_succ_cons,<-ih (by simp_all) (λj b=>by grind)];have a:=h 0 (by omega);grind [cmpL]
theorem ais(hk:k<N ps)(h:∀j,j<k->dP (E xs (E ps j 0).toNat 0) (E ys (E ps j 0).toNat 0)=0)(h0:dP (E xs (E ps k 0).toNat 0) (E ys (E ps k 0).toNat 0)≠0) :
  cmpL xs ys ps=dP (E xs (E ps k 0).toNat 0) (E ys (E ps k 0).toNat 0):=by
 have e:E ps k 0=ps[k]:=by simp_all
 rw[abq hk h,Zw hk];grind [cmpL]
def PQ{xs ys:List Int}:∀{ps:List Int},(∀j,j<N ps->dP (E xs (E ps j 0).toNat 0) (E ys (E ps j 0).toNat 0)=0)->cmpL xs ys ps=0
 |[],_=>rfl
 |p::ps,h=>by have h0:=h 0 (by simp);simp only[List.getD_cons_zero]at h0;have:cmpL xs ys (p::ps)=cmpL xs ys ps:=Qu h0;rw[this];exact PQ λj hj=>by have:=h (j+1) (by simp_all);simp_all
def aB(xs cols:List Int):List Int:=cols.map λc=>E xs c.toNat 0
def jh(L R:List (List Int)):List (List Int):=L.flatMap λa=>R.map λb=>a++b
theorem GQ(L R:List (List Int))(a:List Int):jh (L++[a]) R=jh L R++R.map (λb=>a++b):=by grind [jh]
theorem abr{L L' R:List (List Int)}(h:L <+: L'):jh L R <+: jh L' R:=by obtain⟨t,rfl⟩:=h;grind [jh]
def J8(s v:Int):Int:=if v=1073741824 then s else if s=1073741824 then v else s+v
def ik(ss row cols:List Int):List Int:=List.zipWith (λs c=>J8 s (E row c.toNat 0)) ss cols
theorem jU{ss row cols:List Int}(h:N ss=N cols):N (ik ss row cols)=N cols:=by simp[ik,h]
structure Gr where
 key:List Int
 cnt:Nat
 ss:List Int
def mQ(row sc:List Int)(g:Gr):Gr:=⟨g.key,g.cnt+1,ik g.ss row sc⟩
def mR(key:List Int)(n:Nat):Gr:=⟨key,0,List.replicate n 1073741824⟩
def jE(ks:List (List Int))(key:List Int):Option Nat:=ks.findIdx? (λk=>decide (k=key))
def stepG(kc sc:List Int)(gs:List Gr)(row:List Int):List Gr:=
 match jE (gs.map Gr.key) (aB row kc) with
 |some i=>gs.modify i (mQ row sc)
 |none=>gs++[mQ row sc (mR (aB row kc) (N sc))]
def cK(kc sc:List Int):List Gr:=if kc=[] then [mR [] (N sc)] else []
def fq(kc sc:List Int)(rows:List (List Int)):List Gr:=rows.foldl (stepG kc sc) (cK kc sc)
def Gr.row(g:Gr):List Int:=g.key++[(g.cnt:Int)]++g.ss
def vQ(db:List aJ)(t:Int):List (List Int):=(E db t.toNat rz).rs.map (·.xs)
section
theorem gI.had{n0:Nat}{ys:List ae}{o:Nat->Prop}(h:gI ah n0 w e ys o W v)(hl:N ys<=1000000) :
  ∃j cap,v=Z j (N ys) cap/\bL W j ys/\∀a,j=O a->M (H w)<a.block:=by
 have f:∀i,i<N ys->ah.At (E ys i iz) W:=λi b=>by
  have:E ys i iz∈ys:=by simp[List.getD,b]
  exact h.at' _ this
 have k:ys.map ae.val=ys.map ae.val:=rfl;rcases h.own.2 with⟨hv,h0⟩|⟨g,cap,cur,hv,hb,hh,hc1,hc2,hc3,ht⟩
 .have:=QF h0;subst this;exact⟨E5,0,hv,⟨⟨by simp,λi b=>absurd b (by simp),λi b=>absurd b (by simp)⟩,(λa d=>by cases d),λi b=>absurd b (by simp)⟩,λa d=>by cases d⟩
 .refine⟨O (aD g 0),cap,hv,⟨⟨by omega,λi b=>⟨g,0,rfl,?_⟩,λi b=>(f i b).1⟩,λa d=>?_,f⟩,λa d=>by cases d;exact hb⟩
  .have m:(cur.toList.take (N ys*1))[i]? = O (E ys i iz).val:=by rw[ht];simp[List.getD,b]
   have l:cur[i]? = O (E ys i iz).val:=by grind
   simp only[World.cell?,hh];simpa using l
  grind
def bL.keep{A B:U}{ao:Option Addr}{rs:List ae}(h:bL A ao rs)(hs:M (H A)<=M (H B))(h1:∀a,ao=O a->B.heap[a.block]? = A.heap[a.block]?)(h2:∀i,i<N rs->∀b,ah.aT (E rs i iz)=O b->B.heap[b]? = A.heap[b]?):bL B ao rs:=by have d:∀i,i<N rs->ah.At (E rs i iz) B:=λi e=>ah.keep (h.2.2 i e) hs (λb _ g=>h2 i e b g);exact⟨⟨h.1.1,h.1.2.1.keep (λa f _=>h1 a f),λi e=>(d i e).1⟩,λa f=>Q0 (h.2.1 a f) hs,d⟩
attribute [local go_sem] Oper.semAt_some
def ae5(br bl gr gl:Nat)(ql qp:Array KX)(L R:List (List Int))(w0:U)(hbr:br<M (H w0))(hbl:bl<M (H w0))
  (hcr:Am w0 (aD br 0)=O (.func (.func gr) #[] ql)) (hcl:Am w0 (aD bl 0)=O (.func (.func gl) #[] qp))
  (zX:Seq ah V gr ql R w0) (hsl:Seq ah V gl qp L w0)
  (egr:∀args w,(callFunc gr args).run V w=.ok (.enter gr args) w) (egl:∀args w,(callFunc gl args).run V w=.ok (.enter gl args) w)
  (hR:N R<=1000000) (PX:∀a∈L,N a<=1000) (hRl:∀a∈R,N a<=1000) :
  Seq ah V 180 #[Y (O (aD br 0)),Y (O (aD bl 0))] (jh L R) w0:=by
 intro l Jq W o hW ho hJ hY h0;have aB:=(hW.cell (p:=(aD br 0)) hbr).trans hcr;have aC:=(hW.cell (p:=(aD bl 0)) hbl).trans hcl;obtain⟨HY,HO,HW,HJ,HR,aP,aQ⟩:=Dn hY ho hW hJ hR PX hRl;have m:Bw W (W.alloc (FL #[.func (.yield l) #[] #[]] 108)):=bJ _ _;have aF:=(m.cell (p:=(aD br 0)) (Q0 hbr HW.o.size)).trans aB;have BP:=(m.cell (p:=(aD bl 0)) (Q0 hbl HW.o.size)).trans aC;have FE:Am (W.alloc (FL #[.func (.yield l) #[] #[]] 108)) (aD (M (H W)) 0)=O (.func (.yield l) #[] #[]):=by simp
 have ag:M (H (W.alloc (FL #[.func (.yield l) #[] #[]] 108)))=M (H W)+1:=by simp
 refine(ZG (n:=0)).1 (Z0 Tryz.func180 rfl trivial ?_ rfl);simp only[Tryz.ntmps180,ZN,QJ,ZO,Nat.reduceAdd,Nat.reduceSub,ZP,ZQ,ZR,ZT,ZU,ZV];gi_wp2;obtain⟨w1,av⟩:=eX (W.alloc (FL #[.func (.yield l) #[] #[]] 108));rw[av]at m aF BP FE ag;rw[av];have aG:=HW.o.trans (m.mono HW.o.size);refine⟨trivial,rfl,ZG.2 ((vS ah (λ_=>rfl) gr ql R w0 w1 aG HR.o zX egr).mono ?_)⟩;rintro e g ⟨v,ys,og,rfl,ax,hG⟩;have aH:N ys<=1000000:=by have:=congrArg N ax;rw[Q8]at this;rw[this];exact HR.o
 obtain⟨q,D,rfl,aR,aS⟩:=hG.had aH;have P:=hG.below;have aI:=P.size;obtain⟨DD,aU⟩:=gy P BP FE;have Q:=hG.born;have G5:=Zh ax;have HH:Wl _:=aR;obtain⟨aW,aX⟩:=aV aS Q;have U3:=cB (bJ g (FL #[Z q (N ys) D] 30)) DD;gi_wp2;have FI:∀s,Kept s g (g.alloc (FL #[Z q (N ys) D] 30)):=λs=>ZE _ _;have ai:M (H (g.alloc (FL #[Z q (N ys) D] 30)))=M (H g)+1:=by simp
 have aj:Am (g.alloc (FL #[Z q (N ys) D] 30)) (aD (M (H g)) 0)=O (Z q (N ys) D):=by simp
 have GV:=cB (bJ g (FL #[Z q (N ys) D] 30)) aU;obtain⟨t,ay⟩:=eX (g.alloc (FL #[Z q (N ys) D] 30));rw[ay]at FI ai aj GV U3;rw[ay];have DF:∀s,Kept s W t:=λs=>((ZA m (λb d _=>d)).trans (ZA P (λb d _=>d))).trans (FI s);have xZ:=HW.o.trans ((DF (λ_=>True)).below HW.o.size (λ_ _=>trivial));have aJ:=bL.keep HH.o (FI (λ_=>True)).size (λa k=>(FI (λ_=>True)).block _ (HH.o.2.1 a k) trivial) (λi f b d=>(FI (λ_=>True)).block _ (ah.AV (HH.o.2.2 i f) d) trivial);have z:Wl (∀a,q=O a->M (H W)<=a.block/\a.block<M (H t)):=λa k=>⟨by have:=aW.o a k;omega,by have:=HH.o.2.1 a k;omega⟩;have S:Wl (∀i,i<N ys->∀b,ah.aT (E ys i iz)=O b->(b<M (H w0)∨M (H W)<=b)/\b<M (H t)):=λi f b d=>by
  have hm:E ys i iz∈ys:=by simp[List.getD,f]
  exact⟨(aX.o _ hm b d).imp id (by omega),by have:=ah.AV (HH.o.2.2 i f) d;omega⟩
 have aK:Wl _:=aJ;have DI:=Zh DF;have HS:Wl (M (H t)=M (H g)+1/\M (H w1)=M (H W)+1/\M (H w1)<=M (H g)):=⟨ai,ag,aI⟩;refine oz ah (gf:=gl) (lb:=qp) rfl egl hsl xZ rfl
  (λj o1 W'=>∃u,u.map ah.key=jh (j.map ah.key) R/\Jq u o1 W'/\Kept (λb=>¬o b) t W'/\∀b,o1 b->o b∨(M (H t)<=b/\b<M (H W')))
  o ?_ ?_ ?_ (λx=>{ tmps:=#[.func (.yield l) #[] #[],Y (O (aD br 0)),Y (O (aD bl 0)),Y (O (aD (M (H W)) 0)),Y (O (aD (M (H g)) 0)),x.val,.func (.func gr) #[] ql,Z q (N ys) D,.func (.func gl) #[] qp,x.val,undef,undef,undef,undef,undef],defers:=[] }) ?assign ?body ?done
 .intro b d;exact⟨(HO.o b d).1,by have:=(HO.o b d).2;have:=(DI.o (λ_=>True)).size;omega⟩
 .rintro j o1 A B ⟨u,hz,hj,y,X⟩ aa;have h1:=(DI.o (λ_=>True)).size;exact⟨u,hz,HJ.o _ _ _ _ hj (aa.mono λb _ h=>h.imp id (by omega)),y.trans' aa (λb d _=>.inr d),λb h=>(X b h).imp id (λh=>⟨h.1,by have:=aa.size;omega⟩)⟩
 .exact⟨[],rfl,HJ.o _ _ _ _ h0 (DI.o _),Zx _ _,λb h=>.inl h⟩
 case assign=>
  intro l x W K hK;gi_wp2;exact hK
 case body=>
  rintro l2 j x o1 W2 ⟨u,hz,hj,y,X⟩ G hx az bg;have h3:=(DI.o (λ_=>True)).size;have aL:=y.size;have hS:=HS.o;have O6:∀b,M (H W)<=b->¬o b:=λb d h=>by have:=(HO.o b h).2;omega
  have aM:∀b,b<M (H w0)->¬o b:=λb d h=>by have:=(HO.o b h).1;omega
  have ak:∀b,b<M (H t)->¬o b->¬o1 b:=λb d h C=>by
   rcases X b C with C|C
   .exact h C
   .omega
  have aZ:=ZY aj y (O6 _ (by show M (H W)<=M (H g);omega));have bf:=ZY GV y (O6 _ (Qs _));have au:∀i,i<N ys->∀b,ah.aT (E ys i iz)=O b->¬o b:=λi f b d=>by
   rcases (S.o i f b d).1 with h|h
   .exact aM b h
   .exact O6 b h
  have hH:=bL.keep aK.o aL (λa k=>y.block _ (z.o a k).2 (O6 _ (z.o a k).1)) (λi f b d=>y.block _ (S.o i f b d).2 (au i f b d));have aN:u.map ah.key++ys.map (λr=>x.xs++r.xs) <+: jh L R:=by
   have e1:ys.map (λr=>x.xs++r.xs)=R.map (λb=>x.xs++b):=by rw[<-G5.o,Zm];rfl
   rw[e1,hz,<-GQ];have e2:j.map ah.key++[x.xs]=(j++[x]).map ah.key:=by rw[Ql];rfl
   rw[e2];exact abr G
  have hp:=GY l (M (H W)) Jq (jh L R) (M (H w0)) x q D ys u o1 W2 HJ.o HY.o (by omega) hj aN hx (λb d=>(az b d).1) (aP.o _ (kW G)) hH
   (λa k=>ak _ (z.o a k).2 (O6 _ (z.o a k).1))
   (λi f a k=>ak _ (S.o i f a.block (by show Option.map _ _=_;rw[k];rfl)).2 (au i f a.block (by show Option.map _ _=_;rw[k];rfl)))
   (λi f=>aQ.o _ (by rw[<-G5.o];exact Zi.2 ⟨E ys i iz,by simp[List.getD,f],rfl⟩))
   (λb h=>by
    rcases X b h with h|h
    .have:=(HO.o b h).2;omega
    .exact h.2)
  obtain⟨HZ,HK,uC,HX⟩:=xA hz y X hx;obtain⟨fO,bF,gM⟩:=x;unfold ae.val at hp ⊢;simp only at hp ⊢;gi_wp2;refine⟨trivial,rfl,Z4 l2 (ZG.2 (hp.mono ?_))⟩;rintro e W4 ⟨rfl,us,o2,U4,Nn,af,aA⟩;gi_wp2;refine⟨o2,⟨u++us,?_,Nn,HK.o.trans' af ?_,?_⟩,af,?_⟩
  .rw[Ql,Ql,HZ.o,U4]
   show _=jh (j.map ah.key++[gM]) R;rw[GQ,<-G5.o,Zm];rfl
  .intro b d h C;rcases uC.o b C with C|C
   .exact h C
   .omega
  .intro b d;have:=af.size;rcases aA b d with h|h
   .exact(uC.o b h).imp id (λh=>⟨h.1,by omega⟩)
   .exact .inr ⟨by omega,h.2⟩
  .intro b d;exact(aA b d).imp id .inl
 case done=>
  rintro us o' W2 U4 ⟨u,hz,hj,y,X⟩ bn aY hD;have h3:=(DI.o (λ_=>True)).size;gi_wp2;have aO:¬o' (M (H t)):=λh=>by
   rcases aY _ h with h|h
   .have:=(HO.o _ h).2;omega
   .omega
  have xn:Kept (λb=>b≠M (H t)) W2 (W2.putObj (M (H t)) (.deferred E5)):=ZB _ _ (λh=>h rfl);refine⟨by simp,.inl ⟨_,_,rfl,Z5 hD,?_⟩⟩;refine⟨_,Xa rfl _ _ _,⟨_,rfl⟩,u,o',?_,HJ.o _ _ _ _ hj (xn.mono λb _ h=>?_),((DI.o _).trans' y (λb _ h=>h)).trans' xn (λb d _=>by omega),λb h=>(X b h).imp id (λh=>⟨by omega,by rw[Xb];omega⟩)⟩
  .rw[hz,U4]
  .rcases h with h|h
   .intro e;exact aO (e ▸ h)
   .omega
end
def gJ(e:TypeId):El ae (List Int) where
 enc:=ae.val
 At x W:=ah.At x W/\W.ownsRow 0 e 1 x.val (N x.xs) (x.xs.map (Value.int J))
 aT:=ah.aT
 key:=ae.xs
 keep:=by
  rintro x A B ⟨h,ho⟩ hs hb;refine⟨ah.keep h hs hb,ho.1,?_⟩;rcases ho.2 with h|⟨g,cap,cur,hv,hb',hg,h1,h2,h3,h4⟩
  .exact .inl h
  .refine .inr ⟨g,cap,cur,hv,hb',(hb g (ZH.1 hg).1 ?_).trans hg,h1,h2,h3,h4⟩;have:x.ad=O (aD g 0):=by have h:=hv;unfold ae.val at h;injection h
   show Option.map _ x.ad=_;rw[this];rfl
 AV:=λh hb=>ah.AV h.1 hb
def jK(aI:List Int)(k:Nat):Array Value:=((aI.take k).map (Value.int J)++List.replicate (N aI-k) (Value.int J 0)).toArray
def PY(aI:List Int)(hk:k<N aI):(jK aI k).setIfInBounds k (I J (E aI k 0))=jK aI (k+1):=by
 unfold jK;rw[QG];congr 1;have a:N ((aI.take k).map (Value.int J))=k:=by simp;omega
 have b:N aI-k=(N aI-(k+1))+1:=by omega
 rw[List.set_append_right _ _ (by omega),a,Xr,b,List.replicate_succ,Qc,<-ZL aI 0 hk];simp
def PZ(aI:List Int):jK aI (N aI)=(aI.map (Value.int J)).toArray:=by simp[jK]
def Ns(aI:List Int):madeCells #[I J 0] (N aI)=jK aI 0:=by rw[mO];simp[jK]
def BQ(w:U)(aI:List Int)(e:TypeId)(hl:N aI<=1000000) :
  (gJ e).At ⟨O (aD (M (H w)) 0),N aI,aI⟩ (w.alloc (FL (aI.map (Value.int J)).toArray e)):=by
 have d:(w.alloc (FL (aI.map (Value.int J)).toArray e)).ownsRow 0 e 1 (Z (O (aD (M (H w)) 0)) (N aI) (N aI)) (N aI) (aI.map (Value.int J)):=by refine⟨by simp,.inr ⟨M (H w),_,_,rfl,Q4 _,iX w _,Qs _,by unfold maxLen;omega,by simp,by rw[Xt (by simp)]⟩⟩
 refine⟨⟨⟨by show N aI<=_;omega,λi f=>⟨M (H w),0,rfl,?_⟩⟩,λa g=>by cases g;simp,λe=>by cases e⟩,d⟩;have b:i<N aI:=f;simp[b,List.getD]
def G7(x c:ae)(w:U)(hx:x.At w)(hc:c.At w)(ha:aM c.xs (N x.xs)=T)(hl:N c.xs<=1000) :
  Calls V 128 #[x.val,c.val] w λe w'=>e=FR (Z (O (aD (M (H w)) 0)) (N c.xs) (N c.xs))/\w' = w.alloc (FL ((aB x.xs c.xs).map (Value.int J)).toArray 3):=by
 obtain⟨fO,bF,xs⟩:=x;obtain⟨ng,dK,cs⟩:=c;unfold ae.val;simp only at ha hl;have p:=run_make_row' (P:=V) 23 3 (.int J 0) 8 Tryz.underlying23 Tryz.tH rfl J J (N cs) (by omega) (by omega);have b:N (aB xs cs)=N cs:=by simp[aB]
 have d:=Ns (aB xs cs);rw[b]at d;rw[d]at p;have G:Wl _:=hx;have K:Wl _:=hc;obtain⟨R,S⟩:=aV ha b;have q:=hx.1;simp only at q;clear hx hc ha d;generalize n:aB xs cs=aI at*;have r:=Zh n;clear n;have t:=S.o;clear b;simp only;go_enter Tryz.func128,Tryz.ntmps128;go_wp2;go_loopw [13] (λi wr=>∃k:Nat,k<=N cs/\i=I J k/\w.alloc (FL (jK aI k) 3)=wr) (λi _=>N cs-(intOf i).toNat)
 case atStart=>exact⟨0,Q4 _,rfl,rfl⟩
 case round=>
  obtain⟨k,hk,rfl,rfl⟩:=hrel;by_cases a:k<N cs
  .obtain⟨cb,W,rfl,m⟩:=K.o.get a;have u:=cB (bJ w (FL (jK aI k) 3)) (m k a);have L:=Qo R.o a;have g:E cs k 0=cs[k]:=by simp[List.getD,a]
   rw[g]at u;have j:E aI k 0=E xs cs[k].toNat 0:=by rw[<-r.o];simp[aB,List.getD,a]
   have f:cs[k].toNat<N xs:=by omega
   obtain⟨xb,X,rfl,C⟩:=G.o.get f;have l:=cB (bJ w (FL (jK aI k) 3)) (C _ f);rw[<-j]at l;have v:=iY w (jK aI k) 3 k (I J (E aI k 0));rw[PY aI (by omega)]at v;have y:((cs[k].toNat:Nat):Int)=cs[k]:=by omega
   have z:Am (w.alloc (FL (jK aI k) 3)) (aD (M (H w)) k)=O (I J 0):=by
    have:(jK aI k)[k]? = O (I J 0):=by
     have Q:N ((aI.take k).map (Value.int J))=k:=by simp;omega
     unfold jK;rw[QM,QL (by omega),Q,Xr,List.getElem?_replicate,Qu (by omega)]
    simp[this]
   generalize E aI k 0=vk at*;generalize G9:cs[k]=ck at*;clear g j C m G9;obtain⟨D,rfl⟩:∃D:Nat,ck=(D:Int):=⟨ck.toNat,by omega⟩;simp only[Xu]at f l;clear y;go_wp2;go_roundw
   case rel=>exact⟨k+1,by omega,by go_num,by first|rfl|trivial|assumption⟩
   case measure=>simp[intOf];omega
  .have A:k=N cs:=by omega
   subst A;have B:jK aI (N cs)=(aI.map (Value.int J)).toArray:=by rw[<-t];exact PZ aI
   rw[B];go_wp2;go_ret;exact⟨rfl,rfl⟩
section
def afp{pre:List ae}{rows:List (List Int)}(c:List Int)(h:(pre++[x]).map ah.key <+: rows):(pre++[x]).map (λr=>aB r.xs c) <+: rows.map (λr=>aB r c):=by have a:=List.IsPrefix.map (λr=>aB r c) h;rw[Zm]at a;exact a
attribute [local go_sem] Oper.semAt_some
end
def abu{α:Type}{l:List α}{d:α}{k:Nat}(hk:k<N l):E l k d∈l:=by simp_all
def mU{xs:List KX}(h:w.ownsRow base e 1 v n xs) :
  (v=Z E5 0 0/\xs=[])∨∃g cap,v=Z (O (aD g 0)) n cap/\base<=g/\g<M (H w)/\∀j u,xs[j]? = O u->w.cell? (((aD g 0):Addr).add j)=O u:=by
 rcases h.2 with⟨rfl,h1⟩|⟨g,cap,cur,rfl,hb,hh,_,_,_,ht⟩
 .exact .inl ⟨rfl,QF (by have:=h.1;omega)⟩
 .refine .inr ⟨g,cap,rfl,hb,(ZH.1 hh).1,λj u a=>?_⟩;rw[<-ht,List.getElem?_take]at a;split at a
  .rw[iw];simp only[World.cell?,hh,Q5]
   simp_all
  .cases a
def Xx:=@abu
def wpList_append_run{P:Program}{w:U}{ops:Array Oper}{rest:List Oper}{o:Oper}{a:Act}{Q:Exit->Act->U->Prop}(hgd:o.guard=E5)(s x:Operand)(t:TypeId)
  (ho:o.op=.call { callee:=.builtin .append,args:=#[s,x],argTypes:=#[t,t] }) (v u v':KX) (w':U) (hs:a.eval s=v) (hx:a.eval x=u)
  (hrun:(Builtin.append_ #[t,t] o.type #[v,u]).run P w=.ok v' w') (h:wpList P ops Q rest (a.put o.dst v') w'):wpList P ops Q (o::rest) a w:=by refine wpList_plain hgd λK b=>?_;unfold Oper.wp execOp;simp only[ho,resolve,invoke,builtin,Sem.run_bind,Sem.run_pure,Result.andThen_ok,List.map_toArray,Zd,List.map_nil,hs,hx,hrun];exact b _ _ h
def Ra(h:(gJ e).At x W)(hb:ah.aT x=O b):∃d,W.heap[b]? = O (FL d e (0,0)):=by
 obtain⟨a,f,rfl⟩:=Dy hb;rcases h.2.2 with⟨h1,_⟩|⟨g,cap,d,h1,_,h3,_⟩
 .unfold ae.val at h1;rw[f]at h1
  cases h1
 .unfold ae.val at h1;rw[f]at h1;injection h1 with h1
  cases h1;exact⟨d,h3⟩
structure Listed(tI tE:TypeId)(base:Nat)(v:KX)(ys:List ae)(W:U):Prop where
 own:W.ownsRow base tI 1 v (N ys) (ys.map ae.val)
 at':∀y∈ys,(gJ tE).At y W
def lY{xs:List KX}(h:W.ownsRow base e 1 v n xs)(hb:v.ownBlock=O b):∃a,W.heap[b]? = O (FL a e (0,0)):=by
 rcases h.2 with⟨rfl,_⟩|⟨g,cap,a,rfl,_,h3,_⟩
 .cases hb
 .cases hb
  exact⟨a,h3⟩
def abv(hne:tI≠tE){xs:List KX}(h:W.ownsRow base tI 1 v n xs)(hx:(gJ tE).At x W)(hb:ah.aT x=O b):v.ownBlock≠O b:=by intro e;obtain⟨f,d⟩:=lY h e;obtain⟨g,a⟩:=Ra hx hb;rw[d]at a;injection a with a;injection a with _ a;exact hne a
def Listed.nil(tI tE:TypeId)(base:Nat)(W:U):Listed tI tE base (Z E5 0 0) [] W:=⟨Xl _ _ _ _,λy hy=>by cases hy⟩
def Listed.below{tI tE:TypeId}{base:Nat}{v:KX}{ys:List ae}{W W':U}(h:Listed tI tE base v ys W)(hb:Bw W W'):Listed tI tE base v ys W':=
 ⟨Xw h.own (Qs _) (λj _ d=>hb.block j d),λy hy=>(gJ tE).keep (h.at' y hy) hb.size (λb a _=>hb.block b a)⟩
def Listed.lower{base':Nat}{ys:List ae}(h:Listed tI tE base v ys W)(hb:base'<=base):Listed tI tE base' v ys W:=
 ⟨Xw h.own hb (λj _ _=>rfl),h.at'⟩
def kX(hne:tI≠tE){xs:List KX}{W':U}(h:W.ownsRow base tI 1 v n xs)(hk:Kept (λb=>v.ownBlock≠O b) W W')(hx:(gJ tE).At x W):(gJ tE).At x W':=
 (gJ tE).keep hx hk.size (λb d a=>hk.block b d (abv hne h hx a))
theorem Listed.rows{ys:List ae}(h:Listed tI tE base v ys W)(hl:N ys<=1000000):∃d cap,v=Z d (N ys) cap/\fF W d ys:=by
 rcases h.own.2 with⟨h1,h2⟩|⟨g,cap,cur,h1,h2,h3,h4,h5,h6,h7⟩
 .have:=QF (by omega);subst this;exact⟨E5,0,h1,⟨by simp,λi a=>absurd a (by simp),λi a=>absurd a (by simp)⟩⟩
 .refine⟨O (aD g 0),cap,h1,by omega,λi a=>⟨g,0,rfl,?_⟩,λi a=>?_⟩
  .have e:=a;have b:(cur.toList.take (N ys*1))[i]? = O (E ys i iz).val:=by grind
   rw[List.getElem?_take_of_lt (by omega)]at b;rw[Q5];simp only[World.cell?,h3];simpa using b
  .exact(h.at' _ (Xx a)).1.1
def Tryz.iR:23≠3:=by decide
theorem iA(W:U)(base:Nat)(v:KX)(xs:List Int)(hown:W.ownsRow base 3 1 v (N xs) (xs.map (Value.int J)))(hl:N xs<=1000000)(hb:base<=M (H W))(x:Int)(ty:TypeId) :
  ∃d f,(Builtin.append_ #[23,23] ty #[v,Z (O (aD (M (H W)) 0)) 1 1]).run V (W.alloc (FL #[I J x] 3))=.ok d f/\
   f.ownsRow base 3 1 d (N (xs++[x])) ((xs++[x]).map (Value.int J))/\Kept (λb=>v.ownBlock≠O b) W f/\(∃a m c,d = Z a m c)/\(d.ownBlock=v.ownBlock∨d.ownBlock=O (M (H W)+1)):=by
 obtain⟨p,q,i,j,k⟩:=Xk Tryz.tH;obtain⟨d,f,l,y,z,_,g⟩:=Xz (P:=V) (W.alloc (FL #[.int J x] 3)) base 23 ty 3 p (.int J 0) 1 8 Tryz.underlying23 q i j k rfl (by decide) v (N xs) (xs.map (Value.int J)) (hown.alloc _) (aD (M (H W)) 0) 1 1 [.int J x] rfl
  (World.news_of_block (cs:=#[I J x]) (t:=3) (fr:=(0,0)) (iX W _)) (λu n=>by rw[Xj]at n;rw[n];rfl) (by unfold maxLen;omega) (by omega) (by rw[Xm];omega)
 refine⟨d,f,l,by grind,(ZE _ _).trans (Xd z (λr e l=>l e)),Xg y,by rw[Xm]at g;exact g⟩
def mV(W:U)(base:Nat)(v:KX)(ys:List ae)(hL:Listed 23 3 base v ys W)(hl:N ys<=1000000)(hb:base<=M (H W))(x:ae)(hx:(gJ 3).At x W)(ty:TypeId) :
  ∃d f,(Builtin.append_ #[30,30] ty #[v,Z (O (aD (M (H W)) 0)) 1 1]).run V (W.alloc (FL #[x.val] 23))=.ok d f/\
   Listed 23 3 base d (ys++[x]) f/\Kept (λb=>v.ownBlock≠O b) W f/\(∃a m c,d = Z a m c)/\(d.ownBlock=v.ownBlock∨d.ownBlock=O (M (H W)+1)):=by
 obtain⟨z,A,j,k,l⟩:=Xk Tryz.xY;obtain⟨d,f,n,p,B,_,g⟩:=Xz (P:=V) (W.alloc (FL #[x.val] 23)) base 30 ty 23 z (.slice E5 0 0) 1 24 Tryz.underlying30 A j k l rfl (by decide) v (N ys) (ys.map ae.val) (hL.own.alloc _) (aD (M (H W)) 0) 1 1 [x.val] rfl
  (World.news_of_block (cs:=#[x.val]) (t:=23) (fr:=(0,0)) (iX W _)) (λu q=>by rw[Xj]at q;rw[q];rfl) (by unfold maxLen;omega) (by omega) (by rw[Xm];omega)
 have i:Kept (λb=>v.ownBlock≠O b) W f:=(ZE _ _).trans (Xd B (λr e n=>n e));refine⟨d,f,n,⟨by rw[QI,Ql];exact p,λy hy=>?_⟩,i,Xg p,by rw[Xm]at g;exact g⟩;rcases Ze.1 hy with hy|hy
 .exact kX Tryz.iR hL.own i (hL.at' y hy)
 .rw[Xj]at hy;subst hy;exact kX Tryz.iR hL.own i hx
def Xy:=@wpList_append_run
structure Chk(ts:List ag)(q:af):Prop where
 cat:dL ts=T
 src:aM q.src.xs (N ts)=T
 five:N q.src.xs<=5
 eight:N q.wh<=8
 cols:ze ts q
 some:∀i,i<N q.wh->0<(E q.wh i lz).cs.length
 three:∀i,i<N q.wh->(E q.wh i lz).cs.length<=3
def Chk.ok(h:Chk ts q):Ok ts q:=⟨h.cat,h.src,by have:=h.five;omega,by have:=h.eight;omega,h.cols,h.some⟩
def iB(w:U)(ao:Option Addr)(xs:List Nat):Prop:=
 N xs<=1000/\eD w ao (N xs) (λi=>I Dc ((E xs i 0:Nat):Int))
def iB.get{w:U}{ao:Option Addr}{xs:List Nat}(h:iB w ao xs){i:Nat}(hi:i<N xs) :
  ∃b off,ao=O (aD b off)/\∀j,j<N xs->Am w (aD b (off+j))=O (I Dc ((E xs j 0:Nat):Int)):=
 Qf h.2 hi
def iB.below{w w':U}(hb:Bw w w'){ao:Option Addr}{xs:List Nat}(h:iB w ao xs):iB w' ao xs:=⟨h.1,h.2.below hb⟩
def jL(w:U)(ao:Option Addr)(cs:List (Nat × Int)):Prop:=
 N cs<=1000/\∀i,i<N cs->∃b off,ao=O (aD b off)/\
  Am w (aD b (off+i*2))=O (I J ((E cs i (0,0)).1:Nat))/\Am w (aD b (off+i*2+1))=O (I Dc (E cs i (0,0)).2)
theorem jL.below{w w':U}(hb:Bw w w'){ao:Option Addr}{cs:List (Nat × Int)}(h:jL w ao cs):jL w' ao cs:=⟨h.1,λi a=>by
 obtain⟨b,off,e,d,f⟩:=h.2 i a;grind [cB]⟩
structure bq where
 ca:Option Addr
 cc:Nat
 ra:Option Addr
 rc:Nat
 na:Option Addr
 nl:Nat
 nc:Nat
 pa:Option Addr
 pl:Nat
 pc:Nat
def iL(ts:List ag)(q:af):List (Nat × Int):=bV ts q.src.xs (N q.src.xs)
def ES(ts:List ag)(q:af):List Nat:=(List.range (N q.src.xs)).map λ(k:Nat)=>iO ts q.src.xs (k:Int)
def BS(ts:List ag)(q:af):List Nat:=q.wh.map λc=>aZ (fP ts q.src.xs c.cs)
def zY(ts:List ag)(q:af):List Nat:=q.wh.map λc=>dN ts q.src.xs c.cs
def bq.cells(f:bq)(ts:List ag)(q:af):Array Value:=
 #[q.src.val,Z q.dx (N q.wh) q.aP,EP q.group,q.keys.val,q.sums.val,q.aH.val,q.ord.val,Z f.ca (N (iL ts q)) f.cc,I Dc ((2 ^ (N q.src.xs)-1:Nat):Int),I Dc ((2 ^ (N q.wh)-1:Nat):Int),
  Z f.ra (N q.src.xs) f.rc,Z f.na f.nl f.nc,Z f.pa f.pl f.pc]
structure bq.At(f:bq)(ts:List ag)(q:af)(w:U):Prop where
 query:q.At w
 cols:jL w f.ca (iL ts q)
 rows:iB w f.ra (ES ts q)
 ame:iB w f.na (BS ts q)
 parts:iB w f.pa (zY ts q)
 nl:f.nl=N q.wh
 pl:f.pl=N q.wh
def bq.At.below{w w':U}(hb:Bw w w'){f:bq}{ts:List ag}{q:af}(h:f.At ts q w):f.At ts q w':=
 ⟨h.query.below hb,h.cols.below hb,h.rows.below hb,h.ame.below hb,h.parts.below hb,h.nl,h.pl⟩
def abw(ts:List ag)(q:af):N (ES ts q)=N q.src.xs:=by unfold ES;simp
def Lu(ts:List ag)(q:af):N (BS ts q)=N q.wh:=by unfold BS;simp
def Lv(ts:List ag)(q:af):N (zY ts q)=N q.wh:=by unfold zY;simp
def Lx(ts:List ag)(q:af)(hk:k<N q.src.xs):E (ES ts q) k 0=iO ts q.src.xs (k:Int):=by unfold ES;simp_all
def LD(ts:List ag)(q:af)(hk:k<N q.wh):E (BS ts q) k 0=aZ (fP ts q.src.xs (E q.wh k lz).cs):=by unfold BS;simp_all
def DJ(ts:List ag)(q:af)(hk:k<N q.wh):E (zY ts q) k 0=dN ts q.src.xs (E q.wh k lz).cs:=by unfold zY;simp_all
structure aK where
 kind:Int
 sources:Nat
 clauses:Nat
 order:ae
 size:Nat
 cost:Nat
def bz:aK:=⟨0,0,0,⟨E5,0,[]⟩,0,0⟩
def aK.cells(p:aK):Array Value:=#[I J p.kind,I Dc (p.sources:Int),I Dc (p.clauses:Int),p.order.val,I Dc (p.size:Int),I Dc (p.cost:Int)]
def aK.list(p:aK):List Value:=[I J p.kind,I Dc (p.sources:Int),I Dc (p.clauses:Int),p.order.val,I Dc (p.size:Int),I Dc (p.cost:Int)]
def aK.d(p:aK):gz:=⟨p.kind,p.sources,p.clauses,p.order.xs,p.size,p.cost⟩
structure aK.Ok(p:aK)(w:U):Prop where
 order:p.order.At w
 cap:N p.order.xs<=p.order.cap
 sources:p.sources<=aU
 clauses:p.clauses<=aU
 size:p.size<=aU
 cost:p.cost<=aU
def aK.Ok.below{w w':U}(hb:Bw w w'){p:aK}(h:p.Ok w):p.Ok w':=⟨Qt hb h.order,h.cap,h.sources,h.clauses,h.size,h.cost⟩
def bP(w:U)(ao:Option Addr)(ps:List aK):Prop:=
 N ps<=1000/\∀i,i<N ps->(∃b off,ao=O (aD b off)/\
  Am w (aD b (off+i*6))=O (I J (E ps i bz).kind)/\Am w (aD b (off+i*6+1))=O (I Dc ((E ps i bz).sources:Int))/\
  Am w (aD b (off+i*6+2))=O (I Dc ((E ps i bz).clauses:Int))/\Am w (aD b (off+i*6+3))=O (E ps i bz).order.val/\
  Am w (aD b (off+i*6+4))=O (I Dc ((E ps i bz).size:Int))/\Am w (aD b (off+i*6+5))=O (I Dc ((E ps i bz).cost:Int)))/\(E ps i bz).Ok w
def bP.below{w w':U}(hb:Bw w w'){ao:Option Addr}{ps:List aK}(h:bP w ao ps):bP w' ao ps:=⟨h.1,λi m=>by
 obtain⟨⟨b,off,e,a,d,f,g,j,k⟩,l⟩:=h.2 i m;exact⟨⟨b,off,e,cB hb a,cB hb d,cB hb f,cB hb g,cB hb j,cB hb k⟩,l.below hb⟩⟩
theorem lg{α:Type}(f:α->List KX)(k:Nat)(hk:∀a,N (f a)=k)(d:α):∀(l:List α) (i j:Nat),i<N l->j<k->(l.flatMap f)[i*k+j]? = (f (E l i d))[j]?
 |[],i,j,h,_=>absurd h (by simp)
 |a::l,0,j,_,hj=>by grind
 |a::l,i+1,j,h,hj=>by
  have e:(i+1)*k+j=N (f a)+(i*k+j):=by grind
  rw[QH,e,QL (Nat.le_add_right _ _),Nat.add_sub_cancel_left,lg f k hk d l i j (by simpa using h) hj];rfl
def Ha{α:Type}(f:α->List KX)(k:Nat)(hk:∀a,N (f a)=k):∀l:List α,N (l.flatMap f)=N l*k
 |[]=>by simp
 |a::l=>by rw[QH,QI,hk,Ha f k hk l,QJ,Nat.succ_mul];omega
def DK{size:Nat}{xs:List KX}(h:w.ownsRow base e size v n xs) :
  (v=Z E5 0 0/\n=0)∨∃g cap,v=Z (O (aD g 0)) n cap/\base<=g/\g<M (H w)/\∀j u,xs[j]? = O u->Am w (aD g j)=O u:=by
 rcases h.2 with⟨rfl,h1⟩|⟨g,cap,cur,rfl,hb,hh,_,_,_,ht⟩
 .simp_all
 .refine .inr ⟨g,cap,rfl,hb,(ZH.1 hh).1,λj u a=>?_⟩;rw[<-ht,List.getElem?_take]at a;split at a
  .simp only[World.cell?,hh]
   simp_all
  .cases a
theorem uS{xs:List Nat}(h:w.ownsRow base e 1 v n (xs.map λ(x:Nat)=>I Dc (x:Int)))(hl:N xs<=1000):∃a cap,v=Z a (N xs) cap/\iB w a xs:=by
 have b:N xs=n:=by have:=h.1;simp_all
 rcases DK h with⟨rfl,h0⟩|⟨g,cap,rfl,_,_,hc⟩
 .grind [iB,eD]
 .refine⟨O (aD g 0),cap,by rw[b],⟨hl,λi d=>⟨g,0,rfl,?_⟩⟩⟩
  simp_all
def jZ(c:Nat × Int):List Value:=[I J (c.1:Int),I Dc c.2]
theorem Hd{cs:List (Nat × Int)}(h:w.ownsRow base e 2 v n (cs.flatMap jZ))(hl:N cs<=1000):∃f cap,v=Z f (N cs) cap/\jL w f cs:=by
 have b:∀a,N (jZ a)=2:=λ_=>rfl;have j:N cs=n:=by have:=h.1;rw[Ha jZ 2 b]at this;omega
 rcases DK h with⟨rfl,h0⟩|⟨g,cap,rfl,_,_,hc⟩
 .grind [jL]
 .refine⟨O (aD g 0),cap,by rw[j],⟨hl,λi d=>⟨g,0,rfl,?_,?_⟩⟩⟩
  .rw[Q5];exact hc (i*2) _ (by have:=lg jZ 2 b (0,0) cs i 0 d (by omega);rw[Zp]at this;rw[this];rfl)
  .rw[Q5];exact hc (i*2+1) _ (by rw[lg jZ 2 b (0,0) cs i 1 d (by omega)];rfl)
def LF{ps:List aK}(h:w.ownsRow base e 6 v n (ps.flatMap aK.list))(hl:N ps<=1000)(hp:∀i,i<N ps->(E ps i bz).Ok w):∃f cap,v=Z f (N ps) cap/\bP w f ps:=by
 have d:∀a:aK,N a.list=6:=λ_=>rfl;have j:N ps=n:=by have:=h.1;rw[Ha aK.list 6 d]at this;omega
 rcases DK h with⟨rfl,h0⟩|⟨g,cap,rfl,_,_,hc⟩
 .have:ps=[]:=QF (by omega);subst this;exact⟨E5,0,rfl,⟨by simp,λi b=>absurd b (by simp)⟩⟩
 .refine⟨O (aD g 0),cap,by rw[j],⟨hl,λi b=>⟨⟨g,0,rfl,?_,?_,?_,?_,?_,?_⟩,hp i b⟩⟩⟩ <;> rw[Q5]
  .exact hc (i*6) _ (by have:=lg aK.list 6 d bz ps i 0 b (by omega);rw[Zp]at this;rw[this];rfl)
  .exact hc (i*6+1) _ (by rw[lg aK.list 6 d bz ps i 1 b (by omega)];rfl)
  .exact hc (i*6+2) _ (by rw[lg aK.list 6 d bz ps i 2 b (by omega)];rfl)
  .exact hc (i*6+3) _ (by rw[lg aK.list 6 d bz ps i 3 b (by omega)];rfl)
  .exact hc (i*6+4) _ (by rw[lg aK.list 6 d bz ps i 4 b (by omega)];rfl)
  .exact hc (i*6+5) _ (by rw[lg aK.list 6 d bz ps i 5 b (by omega)];rfl)
theorem yf{P:Program}(W:U)(base:Nat)(t ty e:TypeId)(i:TypeInfo)(z:KX)(size bytes:Nat)(ht:P.underlying t=O (.slice e))(hi:P.info? e=O i)(hz:i.zero=O z)(hsize:i.size=size)(hby:i.bytes=bytes)(hzs:z.cells.size=size)(hsz:0<size)
  (v:KX) (n:Nat) (xs:List KX) (hown:W.ownsRow base e size v n xs) (hb:base<=M (H W)) (news:List KX) (hl:N news=size) (h1:∀u∈news,u.oneCell' = T) (hn:n<=1000) (hbb:bytes<=1000) :
  ∃d f,(Builtin.append_ #[t,t] ty #[v,Z (O (aD (M (H W)) 0)) 1 1]).run P (W.alloc (FL news.toArray e))=.ok d f/\f.ownsRow base e size d (n+1) (xs++news)/\Kept (λb=>v.ownBlock≠O b) W f/\(∃a m c,d = Z a m c)/\(d.ownBlock=v.ownBlock∨d.ownBlock=O (M (H W)+1)):=by
 obtain⟨d,f,g,k,l,_,p⟩:=Xz (P:=P) (W.alloc (FL news.toArray e)) base t ty e i z size bytes ht hi hz hsize hby hzs hsz v n xs (hown.alloc _) (aD (M (H W)) 0) 1 1 news (by omega)
  (λj u q=>by
   rw[iw,Q5];simp_all) h1 (by grind [maxLen]) (by have:(n+1)*bytes<=1001*1000:=Nat.mul_le_mul (by omega) hbb;omega) (by rw[Xm];omega)
 exact⟨d,f,g,k,(ZE _ _).trans (Xd l (λr e g=>g e)),Xg k,by simp_all⟩
def XA:=@bP.below
def afb(h:n<64):IntKind.u64.wrap ((2:Int) ^ n)=((2 ^ n:Nat):Int):=by
 have a:((2:Int) ^ n)=((2 ^ n:Nat):Int):=by simp
 have b:2 ^ n<2 ^ 64:=XB (by omega) h;rw[a];generalize 2 ^ n=m at*;simp only[IntKind.wrap,IntKind.bits,IntKind.signed];simp;omega
def amf{s:Nat}(hs:s<18446744073709551616)(h:n<64):bits BinOp.or IntKind.u64 (s:Int) (IntKind.u64.wrap ((2:Int) ^ n))=((s|||2 ^ n:Nat):Int):=by rw[afb h];exact u64_or_nat s (2 ^ n) hs (XB (by omega) h)
def abx(hk:k<N l):aZ (l.take (k+1))=aZ (l.take k)|||2 ^ (E l k 0).toNat:=by
 have e:E l k 0=l[k]:=by simp[List.getD,hk]
 rw[Qh hk,aa8,e]
def Nu(h:∀x∈l,0<=x/\x<64)(k:Nat):aZ (l.take k)<18446744073709551616:=Na (n:=64) (λx a=>h x (XC a))
def orL(l:List Nat):Nat:=l.foldl (· |||·) 0
def Rb{l:List Nat}(hk:k<N l):orL (l.take (k+1))=orL (l.take k)|||E l k 0:=by
 have e:E l k 0=l[k]:=by simp[List.getD,hk]
 rw[Qh hk,e];unfold orL;rw[Zv];rfl
def amg{l:List Nat}(h:∀x∈l,x<18446744073709551616):∀k,orL (l.take k)<18446744073709551616:=λk=>by
 induction k with
 |zero=>simp[orL]
 |succ k ih =>
  by_cases a:k<N l
  .rw[Rb a];have:E l k 0<18446744073709551616:=by
    have e:E l k 0=l[k]:=by simp[List.getD,a]
    rw[e];exact h _ (Qi a)
   exact Nat.or_lt_two_pow (n:=64) ih this
  .rw[Xt (by omega)];rw[Xt (by omega)]at ih;exact ih
theorem vU(a b:Nat)(ha:a<18446744073709551616)(hb:b<18446744073709551616)(w:U) :
  Ce 148 #[I Dc (a:Int),I Dc (b:Int)] w (EP (dG a b)):=by have d:=u64_andNot_nat b a hb ha;go_enter Tryz.func148,Tryz.ntmps148;go_wp2;go_ret;refine⟨Qd ?_,rfl⟩;unfold dG;grind
theorem aby(a b:Nat)(ha:a<18446744073709551616)(hb:b<18446744073709551616)(w:U) :
  Ce 149 #[I Dc (a:Int),I Dc (b:Int)] w (EP (decide (a &&& b≠0))):=by have d:=u64_and_nat a b ha hb;go_enter Tryz.func149,Tryz.ntmps149;go_wp2;go_ret;refine⟨Qd ?_,rfl⟩;grind
theorem U5(s n:Nat)(hs:s<18446744073709551616)(hn:n<64)(w:U) :
  Ce 173 #[I Dc (s:Int),I J n] w (EP (s.testBit n)):=by
 go_enter Tryz.func173,Tryz.ntmps173;go_wp2;go_ret;refine⟨Qd ?_,rfl⟩;have b:((s:Int) / 2 ^ n)=((s / 2 ^ n:Nat):Int):=by simp
 have a:s / 2 ^ n<18446744073709551616:=Nat.lt_of_le_of_lt (Nat.div_le_self _ _) hs;have d:=u64_and_nat (s / 2 ^ n) 1 a (by omega);grind
def Rc(n:Nat)(hn:n<64)(w:U) :
  Ce 48 #[I J n] w (I Dc ((2 ^ n-1:Nat):Int)):=by
 go_enter Tryz.func48,Tryz.ntmps48;go_wp2;go_ret;refine⟨Qe ?_,rfl⟩;have a:((2:Int) ^ n)=((2 ^ n:Nat):Int):=by simp
 have b:2 ^ n<2 ^ 64:=XB (by omega) hn;have d:0<2 ^ n:=Nat.pow_pos (by omega);rw[a];generalize 2 ^ n=m at*;simp only[IntKind.wrap,IntKind.bits,IntKind.signed];simp;omega
def LG(ao:Option Addr)(cap:Nat)(xs:List Int)(w:U)(hx:aA w ao xs)(hs:∀x∈xs,0<=x/\x<64) :
  Ce 107 #[Z ao (N xs) cap] w (I Dc ((aZ xs:Nat):Int)):=by
 have v:=hx.1;have j:Wl _:=hx;have g:=Zh hs;have l:Wl (aZ (xs.take (N xs))=aZ xs):=by show _=_;rw[Zb]
 clear hx hs;go_enter Tryz.func107,Tryz.ntmps107;go_wp2;go_loopw [3,8] (λu f wr=>∃k:Nat,k<=N xs/\f=I J k/\(∃s:Nat,u=I Dc (s:Int)/\Wl (s=aZ (xs.take k)))/\wr=w) (λ_ f _=>N xs-(intOf f).toNat)
 case atStart=>exact⟨0,Q4 _,rfl,⟨0,rfl,rfl⟩,rfl⟩
 case round=>
  obtain⟨k,y,rfl,⟨s,rfl,hs⟩,rfl⟩:=hrel;by_cases a:k<N xs
  .obtain⟨b,off,rfl,i⟩:=Qg j.o a;have m:=i k a;have p:=g.o _ (Xx a (d:=0));have q:=Zh (abx a);have e:s<18446744073709551616:=by rw[hs.o];exact Nu g.o k
   clear i;generalize E xs k 0=x at*;obtain⟨n,rfl⟩:=XD p.1;have r:n<64:=by omega
   go_wp2;go_roundw
   case rel=>exact⟨k+1,by omega,by go_num,⟨s|||2 ^ n,by rw[amf e r],by show _=_;rw[q.o,hs.o];rfl⟩,trivial⟩
   case measure=>simp[intOf];omega
  .obtain rfl:k=N xs:=by omega
   have t:=Zh (hs.o.trans l.o);clear hs;go_wp2;go_ret;exact⟨Qe (by rw[t.o]),rfl⟩
def abz(ao:Option Addr)(cap:Nat)(xs:List Nat)(w:U)(hx:iB w ao xs)(hs:∀x∈xs,x<18446744073709551616) :
  Ce 95 #[Z ao (N xs) cap] w (I Dc ((orL xs:Nat):Int)):=by
 have u:=hx.1;have j:Wl _:=hx;have g:=Zh hs;have l:Wl (orL (xs.take (N xs))=orL xs):=by show _=_;rw[Zb]
 clear hx hs;go_enter Tryz.func95,Tryz.ntmps95;go_wp2;go_loopw [3,8] (λt f wr=>∃k:Nat,k<=N xs/\f=I J k/\(∃s:Nat,t=I Dc (s:Int)/\Wl (s=orL (xs.take k)))/\wr=w) (λ_ f _=>N xs-(intOf f).toNat)
 case atStart=>exact⟨0,Q4 _,rfl,⟨0,rfl,rfl⟩,rfl⟩
 case round=>
  obtain⟨k,v,rfl,⟨s,rfl,hs⟩,rfl⟩:=hrel;by_cases a:k<N xs
  .obtain⟨b,off,rfl,i⟩:=iB.get j.o a;have m:=i k a;have n:=g.o _ (Xx a (d:=0));have p:=Zh (Rb a);have e:s<18446744073709551616:=by rw[hs.o];exact amg g.o k
   clear i;generalize E xs k 0=x at*;have q:=u64_or_nat s x e n;go_wp2;go_roundw
   case rel=>exact⟨k+1,by omega,by go_num,⟨s|||x,rfl,by show _=_;rw[p.o,hs.o]⟩,trivial⟩
   case measure=>simp[intOf];omega
  .obtain rfl:k=N xs:=by omega
   have r:=Zh (hs.o.trans l.o);clear hs;go_wp2;go_ret;exact⟨Qe (by rw[r.o]),rfl⟩
theorem zi(b:Nat)(x y:Nat)(w:U)(h0:Am w (aD b 0)=O (I Dc (x:Int)))(h1:Am w (aD b 1)=O (I Dc (y:Int)))(hx:x<18446744073709551616)(hy:y<18446744073709551616) :
  Ce 95 #[Z (O (aD b 0)) 2 2] w (I Dc ((x|||y:Nat):Int)):=by
 have h:=abz (O (aD b 0)) 2 [x,y] w ⟨by simp,λi d=>⟨b,0,rfl,by
  grind⟩⟩ (λz a=>by
  rcases QP.1 a with e|e
  .omega
  .rw[Xj]at e;omega)
 have e:orL [x,y]=x|||y:=by unfold orL;simp
 rw[e]at h;exact h
theorem LH(b:Nat)(n:Nat)(w:U)(h0:Am w (aD b 0)=O (I J (n:Int)))(hn:n<64) :
  Ce 107 #[Z (O (aD b 0)) 1 1] w (I Dc ((2 ^ n:Nat):Int)):=by
 have h:=LG (O (aD b 0)) 1 [(n:Int)] w ⟨by simp,λi d=>⟨b,0,rfl,by
  grind⟩⟩ (λz a=>by rw[Xj]at a;omega)
 rw[xN]at h;exact h
theorem BU(k:Int)(w:U):Ce 56 #[I J k] w (EP (il k)):=by
 have b:il k=(decide (k=7) ||decide (k=8) ||decide (k=9) ||decide (k=10)):=by unfold il;grind
 by_cases e:k=7
 .subst e;go_enter Tryz.func56,Tryz.ntmps56;go_wp2;go_ret;exact⟨rfl,rfl⟩
 by_cases f:k=8
 .subst f;go_enter Tryz.func56,Tryz.ntmps56;go_wp2;go_ret;exact⟨rfl,rfl⟩
 by_cases g:k=9
 .subst g;go_enter Tryz.func56,Tryz.ntmps56;go_wp2;go_ret;exact⟨rfl,rfl⟩
 by_cases a:k=10
 .subst a;go_enter Tryz.func56,Tryz.ntmps56;go_wp2;go_ret;exact⟨rfl,rfl⟩
 have d:Wl (il k=F):=by show _=_;grind
 clear b;go_enter Tryz.func56,Tryz.ntmps56;go_wp2;go_ret;exact⟨Qd d.o.symm,rfl⟩
def Tryz.aok:(V.info? 88).map (λi=>(i.zero,i.size,i.bytes))=O (O (.agg #[Z E5 0 0]),1,24):=by kernel_rfl
def Tryz.aol:(V.info? 90).map (λi=>(i.zero,i.size,i.bytes))=O (O (.agg #[EP F,I J 0,I J 0,EP F,I J 0]),5,40):=by kernel_rfl
def Tryz.aom:(V.info? 90).map (·.size)=O 5:=by kernel_rfl
def Tryz.aon:(V.info? 86).map (λi=>(i.zero,i.size,i.bytes))=O (O (Z E5 0 0),1,24):=by kernel_rfl
def Ue(n:Nat)(h:n*24<=140737488351232)(w:U) :
  (Instr.makeSlice 24 (.int J ((n:Int)+2)) (.int J ((n:Int)+2))).run V w=.ok (.slice (O (aD (M (H w)) 0)) (n+2) (n+2)) (w.alloc (FL (madeCells #[.slice E5 0 0] (n+2)) 88)):=by obtain⟨i,e,a,b,d⟩:=Xk Tryz.aok;have:=run_make (P:=V) w 24 88 i _ Tryz.underlying24 e a J J ((n:Int)+2) ((n:Int)+2) (by omega) (Int.le_refl _) (by rw[d];omega) (by omega);rw[b,show ((n:Int)+2).toNat=n+2 by omega]at this;simpa [Value.cells] using this
def adt(n:Nat)(h:n*40<=140737488351232)(w:U) :
  (Instr.makeSlice 86 (.int J ((n:Int)+2)) (.int J ((n:Int)+2))).run V w=.ok (.slice (O (aD (M (H w)) 0)) (n+2) (n+2)) (w.alloc (FL (madeCells zc.toArray ((n+2)*5)) 90)):=by obtain⟨i,e,a,b,d⟩:=Xk Tryz.aol;have:=run_make (P:=V) w 86 90 i _ Tryz.underlying86 e a J J ((n:Int)+2) ((n:Int)+2) (by omega) (Int.le_refl _) (by rw[d];omega) (by omega);rw[b,show ((n:Int)+2).toNat=n+2 by omega]at this;simpa [Value.cells,zc] using this
def adu(w:U)(ao:Option Addr)(cap:Nat)(cs:List aF)(h:bS w ao cs)(ty:TypeId) :
  (Builtin.copy_ #[86,86] ty #[Z (O (aD (M (H w)) 0)) (N cs+2) (N cs+2),Z ao (N cs) cap]).run V (w.alloc (FL (madeCells zc.toArray ((N cs+2)*5)) 90)) =
   .ok (goInt (N cs)) (w.alloc (FL (Dl cs) 90)):=
 BD (P:=V) w 86 90 5 zc.toArray ao (N cs) cap (cs.flatMap aF.aI) (by omega) rfl (qg _ 5 lS cs) (aaK h) (aaL cs) Tryz.underlying86 Tryz.aom ty
theorem Uf(qG w:U)(G:Nat)(ad:Option Addr)(cap:Nat)(ls:List az)(c0 c1 c2 c3 c4 c5 c6 c7 c8 c9 c10 c11 c13 c14 c15:KX)
  (hx:bR qG ad ls) (hsz:N ls*24<=140737488351232) (atI:∀i,i<N ls->(E ls i lz).cs.length*40<=140737488351232)
  (hb:Bw qG w) (hG0:M (H qG)<=G) (hG:GB w G 43 #[c0,c1,c2,c3,c4,c5,c6,c7,c8,c9,c10,c11,Z E5 0 0,c13,c14,c15]) :
  Calls V 14 #[Y (O (aD G 0)),Z ad (N ls) cap] w λe w'=>e=FR (.tuple #[])/\∃v A b1 b2,afa qG w w' G 43 88 86 90 (N ls) (λx y z=>#[c0,c1,x,c3,c4,c5,c6,c7,c8,c9,c10,y,z,c13,c14,c15]) ls v A b1 b2:=by
 have n:=Ue (N ls) hsz;have hl:=hx.1;have B:=hG.lt;have m:=hG.at 11;have C:=hG.frozen 11;go_enter Tryz.func14,Tryz.ntmps14;go_wp2;obtain⟨i0,hi,af,ag,ah⟩:=Xk Tryz.aon;go_loopw [5] (λi wr=>∃(k:Nat) (v:KX) (A:Nat->Nat),k<=N ls/\i=I J k/\vJ qG w wr G 43 88 86 90 (N ls) (λx y=>#[c0,c1,c2,c3,c4,c5,c6,c7,c8,c9,c10,x,y,c13,c14,c15]) ls k v A) (λi _=>N ls-(intOf i).toNat)
 case atStart=>exact⟨0,_,_,Q4 _,rfl,vJ.start hb hG0 hG rfl⟩
 case round=>
  obtain⟨k,v,A,hk,rfl,h⟩:=hrel;by_cases l:k<N ls
  .obtain⟨b,off,rfl,hc⟩:=hx.2.1.get l;have d:=cB h.qE (hc k l);have p:=(hx.2.2 k l).below h.qE;have q:=atI k l;generalize r:E ls k lz=cl at*;have xC:=Zh r;clear r hc;obtain⟨ai,aj,cs⟩:=cl;unfold az.val at d;simp only at d p q;have D:=adt (N cs) q;have K:=λty=>adu wr ai aj cs p ty
   have L:=Gt wr cs 90;have P:=Gu wr cs 90;have Q:=aaG cs;have R:=aaH cs;have S:=h.g.lt;have av:=Qj d;have m:=h.g.at 11;have W:=h.g.at 12;clear C n;go_wp2_with (first|(at_builtin;refine wpList_append_own _ rfl (.tmp 50) (.tmp 52) 41 rfl (M (H w)) 86 i0 (.slice E5 0 0) 1 24 Tryz.underlying41 hi af ag ah rfl (by decide) _ _ _ rfl ((h.own.alloc _).alloc _) (aD (M (H wr)+1) 0) 1 1 [.slice (O (aD (M (H wr)) 0)) (N cs+2) (N cs+2)] rfl rfl ?q1 ?q2 ?q3 ?q4 ?q5 ?_))
   case q1=>
    intro j u t
    match j,t with
    |0,t=>simp at t;subst t;simp[Addr.add]
   case q2=>intro u hu;simp at hu;subst hu;rfl
   case q3=>unfold maxLen;omega
   case q4=>omega
   case q5=>have:=h.K7;simp;omega
   intro v' w1 a f _;have Mq:=h.lN (by decide) (by decide) B hG0 a (by simp) f;obtain⟨g,au,ak⟩:=Mq.sh;have ax:=Mq.g.at 11;have ay:=Mq.g.at 12;have aA:=Mq.g.frozen 12;have mk:Am w1 (aD (M (H w)) k)=O (Z E5 0 0):=by rw[Mq.row.cell (by omega),QC (by omega)]
   have nk:=Mq.row.frozen k;have X:¬M (H w)=G:=by omega
   have aa:¬G=M (H w):=by omega
   rw[ak];clear D K L P Q R m W d;go_wp2;go_region;go_wp2;go_roundw
   case rel=>
    have Nq:=Mq.next (tA:=86) (λ_ _ _=>rfl) B hG0 (by rw[xC.o]) (by decide) (by decide) (by decide) a;grind
   case measure=>simp[intOf];omega
  .have ae:k=N ls:=by omega
   have S:=h.g.lt;have aB:=h.K7;have m:=h.g.at 11;have g2:=h.g.at 2;have e2:=h.g.frozen 2;have mk:Am wr (aD (M (H w)) (N ls))=O (Z E5 0 0):=by rw[h.row.cell (by omega),QC (by omega)]
   have nk:wr.frozen? (aD (M (H w)) (N ls))=false:=h.row.frozen _;have aC:Am wr (aD (M (H w)) (N ls+1))=O (Z E5 0 0):=by rw[h.row.cell (by omega),QC (by omega)]
   have aF:wr.frozen? (aD (M (H w)) (N ls+1))=false:=h.row.frozen _;have X:¬M (H w)=G:=by omega
   have aa:¬G=M (H w):=by omega
   clear hx hsz atI n;go_wp2;go_end0;subst ae;exact⟨rfl,_,_,_,_,h.fin (λ_ _ _=>rfl) B hG0 (by decide)⟩
def Tryz.aou:(V.info? 53).map (λi=>(i.zero,i.size,i.bytes))=O (O (.agg zt.toArray),6,48):=by kernel_rfl
def Tryz.aov:(V.info? 50).map (λi=>(i.zero,i.size,i.bytes))=O (O (.agg zn.toArray),7,88):=by kernel_rfl
def Tryz.aow:(V.info? 53).map (·.size)=O 6:=by kernel_rfl
def ahu(n:Nat)(h:n*48<=140737488351232)(w:U) :
  (Instr.makeSlice 22 (.int J ((n:Int)+2)) (.int J ((n:Int)+2))).run V w=.ok (.slice (O (aD (M (H w)) 0)) (n+2) (n+2)) (w.alloc (FL (madeCells zt.toArray ((n+2)*6)) 53)):=by obtain⟨i,e,a,b,d⟩:=Xk Tryz.aou;have:=run_make (P:=V) w 22 53 i _ Tryz.underlying22 e a J J ((n:Int)+2) ((n:Int)+2) (by omega) (Int.le_refl _) (by rw[d];omega) (by omega);rw[b,show ((n:Int)+2).toNat=n+2 by omega]at this;simpa [Value.cells,zt] using this
def ahv(w y:U)(Nq:Nat)(ao:Option Addr)(cap:Nat)(ts:List ag)(h:aN w ao ts)(hb:Bw w y)(hN:Nq=M (H y))(ty:TypeId) :
  (Builtin.copy_ #[22,22] ty #[Z (O (aD Nq 0)) (N ts+2) (N ts+2),Z ao (N ts) cap]).run V (y.alloc (FL (madeCells zt.toArray ((N ts+2)*6)) 53)) =
   .ok (goInt (N ts)) (y.alloc (FL (Gv ts) 53)):=by subst hN;exact BD (P:=V) y 22 53 6 zt.toArray ao (N ts) cap (ts.flatMap nY) (by omega) rfl (qg _ 6 lT ts) (aeA (h.below hb)) (aeB ts) Tryz.underlying22 Tryz.aow ty
def KU(y:U)(Nq:Nat)(ts:List ag)(t:TypeId)(hN:Nq=M (H y)):(y.alloc (FL (Gv ts) t)).setCell (aD Nq (N ts*6)) (I J 77777)=y.alloc (FL (BC ts) t):=by subst hN;rw[iY,aaI]
def KW(y:U)(Nq:Nat)(ts:List ag)(t:TypeId)(hN:Nq=M (H y)):(y.alloc (FL (BC ts) t)).setCell (aD Nq ((N ts+1)*6)) (I J 77777)=y.alloc (FL (kN ts) t):=by subst hN;rw[iY,aaJ]
def Yi(y:U)(Nq:Nat)(ts:List ag)(t:TypeId)(hN:Nq=M (H y)):Am (y.alloc (FL (Gv ts) t)) (aD Nq (N ts*6))=O (I J 0):=by subst hN;rw[World.cell?_alloc_new,aey]
def Yj(y:U)(Nq:Nat)(ts:List ag)(t:TypeId)(hN:Nq=M (H y)):Am (y.alloc (FL (BC ts) t)) (aD Nq ((N ts+1)*6))=O (I J 0):=by subst hN;rw[World.cell?_alloc_new,aez]
def yQ{G tG:Nat}{c:Array KX}{bs:List (Nat × Obj)}(hP:Ka w W G tG c bs)(ao:Option Addr)(cap:Nat)(xs:List Int)(hx:aA w ao xs)(hsz:N xs*8<=140737488351232) :
  Calls V 13 #[Z ao (N xs) cap] W λe a=>∃b,e=FR (Z (O (aD b 0)) (N xs) (N xs+2))/\Ka w a G tG c ((b,FL (aR xs) 3)::bs):=
 (CP ao cap xs W (hx.below hP.qE) hsz).mono λ_ _ ⟨he,hw⟩=>⟨M (H W),he,by rw[hw];exact hP.alloc _⟩
def Da(ao bo:Option Addr)(cap cap':Nat)(xs:List Int)(w:U)(hx:aA w ao xs)(hy:aA w bo xs) :
  Calls V 27 #[Z ao (N xs) cap,Z bo (N xs) cap'] w λe l=>e=FR (EP T)/\∃n,l = w.drewN n:=by
 have m:=hx.1;have g:((N xs:Int) != N xs)=false:=by simp
 go_enter Tryz.func27,Tryz.ntmps27;go_wp2;go_loopw [5] (λi wr=>∃k:Nat,k<=N xs/\i=I J k/\∃n,wr=w.drewN n) (λi _=>N xs-(intOf i).toNat)
 case atStart=>exact⟨0,Q4 _,rfl,0,rfl⟩
 case round=>
  obtain⟨k,r,rfl,n,rfl⟩:=hrel;by_cases a:k<N xs
  .obtain⟨b,off,rfl,f⟩:=hx.get a;obtain⟨b',Gi,rfl,d⟩:=hy.get a;have p:=f k a;have q:=d k a;clear f d hx hy;generalize E xs k 0=x at*;have j:(x != x)=false:=by simp
   go_wp2;go_quiet (fail);go_wp2;go_roundw
   case rel=>exact⟨k+1,by omega,by go_num,_,rfl⟩
   case measure=>simp[intOf];omega
  .go_wp2;go_ret;exact⟨rfl,_,rfl⟩
theorem En{t:TypeId}(h:GB w b t (aR xs))(hl:N xs<=1152921504606846976):aA w (O (aD b 0)) xs:=by refine⟨hl,λi a=>⟨b,0,rfl,?_⟩⟩;rw[Q5,h.cell i];unfold aR;grind
def akq(xs:List Int):(aR xs)[N xs]? = O (I J 77777):=by simp[aR]
def akr(xs:List Int):(aR xs)[N xs+1]? = O (I J 77777):=by simp[aR]
def nP(b:Nat)(bo:Option Addr)(cap':Nat)(xs:List Int)(w:U)(hG:GB w b 3 (aR xs))(hy:aA w bo xs) :
  Cb 24 #[Z (O (aD b 0)) (N xs) (N xs+2),Z bo (N xs) cap'] w (EP T):=by
 have d:=hy.1;have f:((N xs:Int) != N xs)=false:=by simp
 have g:Am w (aD b (N xs))=O (I J 77777):=by rw[hG.cell,akq]
 have i:Am w (aD b (N xs+1))=O (I J 77777):=by rw[hG.cell,akr]
 have a:=Da (O (aD b 0)) bo (N xs+2) cap' xs w (En hG d) hy;go_enter Tryz.func24,Tryz.ntmps24;go_wp2_with fail;refine a.mono ?_;clear a;rintro e j ⟨rfl,n,rfl⟩;go_wp2;go_ret;exact⟨rfl,Qy (Qr _ _) _⟩
def wY(b:Nat)(w:U)(hG:GB w b 3 #[I J 77777]) :
  Ce 44 #[Z (O (aD b 0)) 1 1] w (EP T):=by have a:Am w (aD b 0)=O (I J 77777):=hG.cell 0;go_enter Tryz.func44,Tryz.ntmps44;go_wp2;go_ret;exact⟨rfl,rfl⟩
