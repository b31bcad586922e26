import Derived.Test.YtnjbikdhpnopjaaGreatDoorA01
set_option linter.all false
set_option maxRecDepth 100000
set_option maxHeartbeats 0
namespace Go.Proofs.Zz
open Go.RowKit Go.Shelf
open List renaming length->N,getD->E
open Go.Value renaming slice->Z,int->I,bool->Wl
open Go.Proofs.Tryz renaming prog->V
open Option renaming some->O,none->xn
open Go.IntKind renaming i64->J,u64->Vo
open Bool renaming false->F,true->T
open Go renaming World->U,Value->X3
open Go.World renaming heap->H,cell?->UK
open _root_.Array renaming size->M
open Go.RowKit renaming Hid->Y3
open Go.Obj renaming cells->EP
open Go.Ending renaming returned->FN
variable {w w2:U} {G base base' i k n s size tG:Nat} {c:Array X3} {bs:List (Nat × Obj)} {a b l xs:List Int} {e:TypeId} {v:X3} {q:af} {p r:bN} {ts:List ah} {vl vr:dX} {plan:List ai} {ps:List bN}
structure Pre(w w2:U)(G tG:Nat)(c:Array X3)(bs:List (Nat × Obj)):Prop where
 bel:Bw w w2
 lo:M (H w)<=G
 g:GB w2 G tG c
 bs:∀p,p∈bs->p.1≠G/\M (H w)<=p.1/\w2.heap[p.1]? = O p.2
def Pre.alloc{w w2:U}{G tG:Nat}{c:Array X3}{bs:List (Nat × Obj)}(h:Pre w w2 G tG c bs)(o:Obj):Pre w (w2.alloc o) G tG c ((M (H w2),o)::bs):=by
 have d:=h.g.lt;refine⟨h.bel.alloc h.bel.size o,h.lo,h.g.of (heap_alloc d),λp b=>?_⟩;rcases Z0.1 b with rfl|b
 .exact⟨by omega,h.bel.size,pR w2 o⟩
 .have a:=h.bs p b;exact⟨a.1,a.2.1,(heap_alloc (QI.1 a.2.2).1).trans a.2.2⟩
def Pre.drop{bs':List (Nat × Obj)}(h:Pre w w2 G tG c bs)(hs:∀p,p∈bs'->p∈bs):Pre w w2 G tG c bs':=⟨h.bel,h.lo,h.g,λp a=>h.bs p (hs p a)⟩
theorem Pre.at(h:Pre w w2 G tG c bs){b t:Nat}{d:Array X3}(hm:(b,Obj.cells d t (0,0))∈bs):GB w2 b t d:=(h.bs _ hm).2.2
def BD{w':U}{xs:List X3}(h:w.ownsRow base e size v n xs)(hb:base'<=base)(ho:∀j,base<=j->j<M (H w)->w'.heap[j]? = w.heap[j]?):w'.ownsRow base' e size v n xs:=by
 obtain⟨k,b⟩:=h;refine⟨k,?_⟩;rcases b with b|⟨g,cap,a,i,d,f,r⟩
 .simp_all
 .exact Or.inr ⟨g,cap,a,i,Qz hb d,(ho g d (QI.1 f).1).trans f,r⟩
def nk:List Value:=[I J 77777,I J 0,I J 0,I J 0,Z xn 0 0,I J 0,Z xn 0 0]
def dZ(k:Int):Bool:=decide (7<=k)&&decide (k<=10)
def pz:bN:=⟨0,0,0,[],0,0⟩
def ll(ts:List ah)(q:af)(n:ai)(a b:Nat):Int × Int × Bool:=
 if n.key∈n.cl.xs/\0<=n.key/\n.key<N q.wh then GA ts q.src.xs (E q.wh n.key.toNat lz).cs a b else (0,0,F)
def pX(ts:List ah)(q:af)(n:ai)(a b:Nat):Bool:=decide (a &&& b=0)&&kT ts q n.cl.xs (a|||b)
def qE(q:af)(l:bN):Bool:=decide (l.sources=2 ^ (N q.src.xs)-1)&&decide (l.clauses=2 ^ (N q.wh)-1)
def mf(kind:Int)(l r:bN):Bool:=(dZ l.kind==decide (kind=10)) && !dZ r.kind
def iG(ts:List ah)(q:af)(n:ai)(l r:bN):Bool:=
 if n.kind=1 then decide (0<=n.source)&&decide (n.source<N q.src.xs)
 else if n.kind=2 then decide (0<N n.cl.xs)&&kT ts q n.cl.xs l.sources
 else if n.kind=3 then pX ts q n l.sources r.sources
 else if n.kind=4 then (ll ts q n l.sources r.sources).2.2&&pX ts q n l.sources r.sources
 else if n.kind=5 then (ll ts q n l.sources r.sources).2.2&&pX ts q n l.sources r.sources&&aQ l.order [(ll ts q n l.sources r.sources).1]&&aQ r.order [(ll ts q n l.sources r.sources).2.1]
 else if n.kind=6 then qI ts q.src.xs n.co.xs l.sources
 else if n.kind=7 then q.group&&qE q l
 else if n.kind=8 then q.group&&qE q l&&aQ l.order q.keys.xs
 else if n.kind=9 then !q.group&&qE q l
 else decide (0<N q.ord.xs)
def oH(ts:List ah)(q:af)(n:ai)(l r:bN):bN:=
 let s:=(if n.kind=1 then 2 ^ n.source.toNat else 0)|||l.sources|||r.sources
 let c:=aO n.cl.xs|||l.clauses|||r.clauses
 let z:=if dZ n.kind=T then l.size else lZ ts q s c
 ⟨n.kind,s,c,if n.kind=6 then n.co.xs else if 2<=n.kind/\n.kind<=5 then l.order else [],z,lF n.kind z l.cost l.size r.cost r.size⟩
structure PV(q:af)(p:bN)(v:dX):Prop where
 out:dZ p.kind=v.out
 sources:p.sources=aO v.sources
 gB:aY (N q.src.xs) v.sources
 nK:v.sources.Nodup
 clauses:p.clauses=aO v.clauses
 wW:aY (N q.wh) v.clauses
 Ve:v.clauses.Nodup
 order:v.out=F->p.order=v.order
 size:p.size=v.size
 cost:p.cost=v.cost
def aaa(q:af):PV q pz vz where
 out:=by decide
 sources:=rfl
 gB:=λx a=>by cases a
 nK:=List.nodup_nil
 clauses:=rfl
 wW:=λx a=>by cases a
 Ve:=List.nodup_nil
 order:=λ_=>rfl
 size:=rfl
 cost:=rfl
def rM(ts:List ah)(q:af)(n:ai)(l r:dX):Bool:=
 !(r.out ||(l.out != decide (n.kind=10)))&&decide (N (bK l.sources r.sources)=N l.sources+N r.sources)&&gz ts q n.cl.xs (bK l.sources r.sources)&&oF ts q n l r
theorem rO(ts:List ah)(q:af)(n:ai)(l r:dX):uw ts q n l r=if rM ts q n l r=T then
  O ⟨bK l.sources r.sources,bK (bK l.clauses r.clauses) n.cl.xs,if n.kind=6 then n.co.xs else l.order,decide (7<=n.kind),qH ts q (bK l.sources r.sources) (bK (bK l.clauses r.clauses) n.cl.xs),
   Lb n.kind (qH ts q (bK l.sources r.sources) (bK (bK l.clauses r.clauses) n.cl.xs)) l r⟩ else none:=by unfold uw rM;grind
structure Ok(ts:List ah)(q:af):Prop where
 cat:ji ts=T
 src:aS q.src.xs (N ts)=T
 small:N q.src.xs<=64
 wm:N q.wh<=64
 cols:DC ts q
 some:∀i,i<N q.wh->0<(E q.wh i lz).cs.length
theorem Vf(ha:aY n a)(hb:aY n b)(hd:b.Nodup):decide (aO a &&& aO b=0)=decide (N (bK a b)=N a+N b):=by grind [yj,Va]
def Vg{v:dX}(h:PV q p v):qE q p=qB q v:=by
 unfold qE qB;rw[h.sources,h.clauses];congr 1
 .rw[ZV,ZW,ZW];exact yn h.gB h.nK
 .rw[ZV,ZW,ZW];exact yn h.wW h.Ve
def uW{s:List Int}(h:gz ts q l s=T):aY (N q.wh) l:=λx b=>by obtain⟨i,a,e⟩:=Qq b;unfold gz at h;rw[Qk]at h;have d:=h i (ZZ.2 a);simp_all
def aet(ok:Ok ts q)(ha:aY (N q.src.xs) a)(hb:aY (N q.src.xs) b)(l:List Int):kT ts q l (aO a|||aO b)=gz ts q l (bK a b):=by rw[<-yl ha hb];exact Bu ok.cat ok.src ok.small ok.cols (ha.with hb) l
def PX(ok:Ok ts q)(n:ai)(ha:aY (N q.src.xs) a)(hb:aY (N q.src.xs) b)(hl:gz ts q n.cl.xs (bK a b)=T) :
  (ll ts q n (aO a) (aO b)).2.2=(decide (n.key∈n.cl.xs)&&(kS ts q.src.xs (E q.wh n.key.toNat lz).cs a b).2.2)/\
  ((ll ts q n (aO a) (aO b)).2.2=T->ll ts q n (aO a) (aO b)=kS ts q.src.xs (E q.wh n.key.toNat lz).cs a b):=by
 unfold ll;by_cases c:n.key∈n.cl.xs
 .have d:=uW hl _ c;rw[Zt ⟨c,d.1,d.2⟩,Qx c,Z8];obtain⟨e,f⟩:=Vd ok.cat ok.src ok.small (cs:=(E q.wh n.key.toNat lz).cs) (ok.some _ (by omega)) (ok.cols _ (by omega)) ha hb
  simp_all
 simp_all
theorem Lh(ok:Ok ts q){n:ai}(hp:iR n=T)(h2:2<=n.kind)(h10:n.kind<=10){l:bN}(hl:PV q l vl)(hr:PV q r vr)
  (h1:arity n.kind≠2->r=pz/\vr=vz):(mf n.kind l r&&iG ts q n l r)=rM ts q n vl vr:=by
 unfold iR at hp;rw[ZW]at hp;obtain⟨_,_,_,_,u,j⟩:=hp;have m:mf n.kind l r = !(vr.out ||(vl.out != decide (n.kind=10))):=by unfold mf;rw[hl.out,hr.out];grind
 unfold rM;rw[m]
 cases hA:!(vr.out ||(vl.out != decide (n.kind=10))) with
 |false=>rfl
 |true =>
  rw[Z8,Z8];have f:vr.out=F/\vl.out=decide (n.kind=10):=by simp_all
  have one:arity n.kind≠2->n.cl.xs=[]->decide (N (bK vl.sources vr.sources)=N vl.sources+N vr.sources)=T/\gz ts q n.cl.xs (bK vl.sources vr.sources)=true:=by intro b B;rw[(h1 b).2,B];exact⟨Qx rfl,rfl⟩
  have g:¬(n.kind=2∨3<=n.kind/\n.kind<=5)->n.cl.xs=[]:=λe=>by grind
  have a:∀X:Bool,(pX ts q n l.sources r.sources&&X)=(decide (N (bK vl.sources vr.sources)=N vl.sources+N vr.sources)&&gz ts q n.cl.xs (bK vl.sources vr.sources)&&X):=λX=>by unfold pX;rw[hl.sources,hr.sources,Vf hl.gB hr.gB hr.nK,aet ok hl.gB hr.gB]
  unfold iG oF;rw[ZU (show ¬n.kind=1 by omega)];by_cases k2:n.kind=2
  .have b:arity n.kind≠2:=by rw[k2];decide
   rw[Zt k2,Zt k2,(h1 b).2,hl.sources];have e:=Bu ok.cat ok.src ok.small ok.cols hl.gB n.cl.xs;rw[e,show bK vl.sources vz.sources=vl.sources from rfl,show (N vz.sources)=0 from rfl,Xb,Qx rfl,Z8,Bool.and_comm]
  rw[ZU k2,ZU k2];by_cases k3:n.kind=3
  .simp_all
  rw[ZU k3];by_cases d:n.kind=4∨n.kind=5
  .rw[Zt d,<-a];by_cases k:gz ts q n.cl.xs (bK vl.sources vr.sources)=T
   .obtain⟨v,y⟩:=PX ok n hl.gB hr.gB k;rw[<-hl.sources,<-hr.sources]at v y;have i:vl.out=false:=by grind
    rw[hl.order i,hr.order f.1];grind
   .have p:gz ts q n.cl.xs (bK vl.sources vr.sources)=false:=by simp_all
    have C:pX ts q n l.sources r.sources=false:=by simp_all
    grind
  rw[ZU d,ZU (show ¬n.kind=4 by omega),ZU (show ¬n.kind=5 by omega)];have b:arity n.kind≠2:=by unfold arity;grind
  obtain⟨z,A⟩:=one b (g (by omega));rw[z,A,Z8,Z8];by_cases k6:n.kind=6
  .rw[Zt k6,Zt k6,hl.sources];have t:=Nat.pos_of_ne_zero (j.1 k6);exact abf ok.cat ok.src ok.small hl.gB t
  rw[ZU k6,ZU k6];rw[Vg hl];by_cases k7:n.kind=7
  .simp_all
  rw[ZU k7,ZU k7];by_cases k8:n.kind=8
  .rw[Zt k8,Zt k8];have i:vl.out=false:=by simp_all
   rw[hl.order i]
  grind
theorem Li(ok:Ok ts q){n:ai}(hp:iR n=T)(h2:2<=n.kind)(h10:n.kind<=10){l:bN}(hl:PV q l vl)(hr:PV q r vr)(hz:vl.size=qH ts q vl.sources vl.clauses)
  (h1:arity n.kind≠2->r=pz/\vr=vz) {v:dX} (hv:uw ts q n vl vr=O v):PV q (oH ts q n l r) v/\v.size=qH ts q v.sources v.clauses:=by
 rw[rO]at hv;by_cases a:rM ts q n vl vr=T
 .rw[Zt a]at hv;injection hv with hv;subst hv;unfold rM at a;simp only[Qj,ZW]at a;obtain⟨⟨⟨y,_⟩,j⟩,_⟩:=a;have b:=uW j;have p:vl.out=decide (n.kind=10):=by simp_all
  have g:dZ n.kind=decide (7<=n.kind):=by unfold dZ;simp_all
  have k:(if n.kind=1 then 2 ^ n.source.toNat else 0)|||l.sources|||r.sources=aO (bK vl.sources vr.sources):=by rw[ZU (by omega),Nat.zero_or,hl.sources,hr.sources,yl hl.gB hr.gB]
  have m:aO n.cl.xs|||l.clauses|||r.clauses=aO (bK (bK vl.clauses vr.clauses) n.cl.xs):=by rw[yl (hl.wW.with hr.wW) b,yl hl.wW hr.wW,hl.clauses,hr.clauses,Nat.or_assoc,Nat.or_comm]
  have d:=(hl.wW.with hr.wW).with b;have t:(if dZ n.kind=T then l.size else lZ ts q (aO (bK vl.sources vr.sources)) (aO (bK (bK vl.clauses vr.clauses) n.cl.xs)))=qH ts q (bK vl.sources vr.sources) (bK (bK vl.clauses vr.clauses) n.cl.xs):=by
   by_cases i:7<=n.kind
   .rw[g,Qx i,Zt rfl,hl.size,hz];have u:arity n.kind≠2:=by unfold arity;grind
    have f:n.cl.xs=[]:=by unfold iR at hp;grind
    rw[(h1 u).2,f];rfl
   .rw[g,Qw i,ZU (by simp)];exact Le ts q ok.wm ok.small (hl.gB.with hr.gB) (iF hl.nK) d
  refine⟨?_,rfl⟩;refine⟨g,k,hl.gB.with hr.gB,iF hl.nK,m,d,iF (iF hl.Ve),?_,?_,?_⟩
  .intro e;have i:=of_decide_eq_false e
   show (if n.kind=6 then n.co.xs else if 2<=n.kind/\n.kind<=5 then l.order else [])=if n.kind=6 then n.co.xs else vl.order;split
   .rfl
   .rw[Zt (by omega)];exact hl.order (by grind)
  .show (if dZ n.kind=T then l.size else lZ ts q ((if n.kind=1 then 2 ^ n.source.toNat else 0)|||l.sources|||r.sources) (aO n.cl.xs|||l.clauses|||r.clauses))=_
   simp_all
  .show lF n.kind (if dZ n.kind=T then l.size else lZ ts q ((if n.kind=1 then 2 ^ n.source.toNat else 0)|||l.sources|||r.sources) (aO n.cl.xs|||l.clauses|||r.clauses)) l.cost l.size r.cost r.size=_
   rw[k,m,t,hl.cost,hl.size,hr.cost,hr.size];exact Lg _ _ _ _
 simp_all
def sO(n:ai):Bool:=
 decide ((1<=arity n.kind∨n.l=0)/\(2<=arity n.kind∨n.r=0)/\(n.kind=1∨n.source=0)/\(n.kind=4∨n.kind=5∨n.key=0)/\
  (n.kind=2∨3<=n.kind/\n.kind<=5∨N n.cl.xs=0)/\(n.kind=6∨N n.co.xs=0))
def fQ(n:ai)(i:Nat):Bool:=
 decide (1<=n.kind)&&decide (n.kind<=10)&&sO n&&(decide (arity n.kind<1) ||(decide (0<=n.l)&&decide (n.l<i)))&&(decide (arity n.kind<2) ||(decide (0<=n.r)&&decide (n.r<i)))
def fo(n:ai)(ps:List bN):bN:=if 1<=arity n.kind then E ps n.l.toNat pz else pz
def eG(n:ai)(ps:List bN):bN:=if arity n.kind=2 then E ps n.r.toNat pz else pz
def pY(ts:List ah)(q:af)(n:ai)(ps:List bN):Option (List bN):=
 if (mf n.kind (fo n ps) (eG n ps)&&iG ts q n (fo n ps) (eG n ps))=T then O (ps++[oH ts q n (fo n ps) (eG n ps)]) else xn
def fG(ts:List ah)(q:af)(plan:List ai):Nat->Option (List bN)
 |0=>O []
 |k+1=>(fG ts q plan k).bind (pY ts q (E plan k nz))
def Aa(ts:List ah)(q:af)(plan:List ai):∀(f g i:Nat),i<f->i<g->vP ts q plan f i=vP ts q plan g i
 |0,_,_,h,_=>by omega
 |_,0,_,_,h=>by omega
 |f+1,g+1,i,h1,h2=>by
  unfold vP;simp only;generalize E plan i nz=n;split
  .rfl
  split
  .rfl
  split
  .rfl
  rename_i c;rw[Aa ts q plan f g n.l.toNat (by omega) (by omega)];split
  .rfl
  split
  .split
   .rfl
   .rename_i d
    rw[Aa ts q plan f g n.r.toNat (by omega) (by omega)]
  .rfl
theorem Ab(n:ai):iR n=(sO n&&decide (n.kind=6->N n.co.xs≠0)):=by unfold iR sO;grind
def dw(ts:List ah)(q:af)(plan:List ai)(i:Nat):Option dX:=vP ts q plan (i+1) i
def Bv(ts:List ah)(q:af)(plan:List ai){f:Nat}(h:i<f):vP ts q plan f i=dw ts q plan i:=Aa ts q plan f (i+1) i h (Nat.lt_succ_self i)
def Ac(ts:List ah)(q:af)(plan:List ai)(i:Nat){n:ai}(hn:E plan i nz=n)(hp:iR n=T)(hk:n.kind=1) :
  dw ts q plan i=if n.source<0∨(N q.src.xs:Int)<=n.source then xn else O ⟨[n.source],[],[],F,qH ts q [n.source] [],Lb 1 (qH ts q [n.source] []) vz vz⟩:=by unfold dw vP;simp_all
theorem yt(ts:List ah)(q:af)(plan:List ai)(i:Nat){n:ai}(hn:E plan i nz=n)(hp:iR n=F):dw ts q plan i=none:=by unfold dw vP;simp_all
theorem Lj(ts:List ah)(q:af)(plan:List ai)(i:Nat){n:ai}(hn:E plan i nz=n)(hp:iR n=T)(hk:2<=n.kind)(hk':n.kind<=10)(ha:arity n.kind≠2)(h0:0<=n.l)(h1:n.l<i) :
  dw ts q plan i=(dw ts q plan n.l.toNat).bind λl=>uw ts q n l vz:=by unfold dw;rw[vP];simp only[hn];rw[ZU (by grind),ZU (by omega),ZU (by omega),Bv ts q plan (f:=i) (by omega)];unfold dw;grind
theorem Ll(ts:List ah)(q:af)(plan:List ai)(i:Nat){n:ai}(hn:E plan i nz=n)(hp:iR n=T)(hk:2<=n.kind)(hk':n.kind<=10)(ha:arity n.kind=2)(h0:0<=n.l)(h1:n.l<i)(h2:0<=n.r)(h3:n.r<i) :
  dw ts q plan i=(dw ts q plan n.l.toNat).bind λl=>(dw ts q plan n.r.toNat).bind λr=>uw ts q n l r:=by unfold dw;rw[vP];simp only[hn];rw[ZU (by grind),ZU (by omega),ZU (by omega),Bv ts q plan (f:=i) (by omega),Bv ts q plan (i:=n.r.toNat) (f:=i) (by omega)];unfold dw;grind
def GD(ts:List ah)(q:af)(plan:List ai)(ps:List bN):Prop:=
 ∀i,i<N ps->∃v,dw ts q plan i=O v/\PV q (E ps i pz) v/\v.size=qH ts q v.sources v.clauses
theorem Lm{α:Type}(ps:List α)(p z:α)(i:Nat):E (ps++[p]) i z=if i<N ps then E ps i z else if i=N ps then p else z:=by grind
theorem GD.snoc(h:GD ts q plan ps){v:dX}(hv:dw ts q plan (N ps)=O v)(hp:PV q p v)(hz:v.size=qH ts q v.sources v.clauses):GD ts q plan (ps++[p]):=λi a=>by
 rw[Zn,Xc]at a;rw[Lm];by_cases e:i<N ps
 .rw[Zt e];exact h i e
 grind
theorem abg(ok:Ok ts q)(plan:List ai)(hk:GD ts q plan ps)(hs:fQ (E plan (N ps) nz) (N ps)=T) :
  (dw ts q plan (N ps)=xn/\pY ts q (E plan (N ps) nz) ps=xn)∨∃p v,pY ts q (E plan (N ps) nz) ps=O (ps++[p])/\dw ts q plan (N ps)=O v/\PV q p v/\v.size=qH ts q v.sources v.clauses:=by
 generalize B:E plan (N ps) nz=n at hs ⊢;unfold fQ at hs;simp only[Qj,Z5,ZW]at hs;obtain⟨⟨⟨⟨h1,a⟩,D⟩,hl⟩,hr⟩:=hs;unfold pY;by_cases f:n.kind=1
 .have ha:=Gz f;have b:iR n=true:=by rw[Ab,D,Z8,ZW];omega
  have t:fo n ps=pz:=by unfold fo;simp_all
  have j:eG n ps=pz:=by unfold eG;simp_all
  have C:n.cl.xs=[]:=by unfold sO at D;simp_all
  rw[t,j,Ac ts q plan _ B b f];have X:mf n.kind pz pz=true:=by rw[f];decide
  have L:iG ts q n pz pz=(decide (0<=n.source)&&decide (n.source<N q.src.xs)):=by unfold iG;simp_all
  rw[X,L,Z8];by_cases c:n.source<0∨(N q.src.xs:Int)<=n.source
  .grind
  .right;rw[ZU c,Zt (by simp_all)];refine⟨_,_,rfl,rfl,?_,rfl⟩;have e1:2 ^ n.source.toNat=aO [n.source]:=by have:=wS n.source.toNat;grind
   have P:aY (N q.src.xs) [n.source]:=λx z=>by simp_all
   have Q:(if n.kind=1 then 2 ^ n.source.toNat else 0)|||pz.sources|||pz.sources=aO [n.source]:=by rw[Zt f,e1];show aO [n.source]|||0|||0=_;simp_all
   have R:aO n.cl.xs|||pz.clauses|||pz.clauses=aO []:=by rw[C];rfl
   have ez:(if dZ n.kind=T then pz.size else lZ ts q (aO [n.source]) (aO []))=qH ts q [n.source] []:=by rw[ZU (by rw[f];decide)];exact Le ts q ok.wm ok.small P (by simp) (λx z=>by cases z)
   refine⟨by show dZ n.kind=F;rw[f];decide,Q,P,by simp,R,(λx z=>by cases z),List.nodup_nil,?_,?_,?_⟩
   .intro _
    show (if n.kind=6 then n.co.xs else if 2<=n.kind/\n.kind<=5 then pz.order else [])=[];simp_all
   .show (if dZ n.kind=T then pz.size else lZ ts q ((if n.kind=1 then 2 ^ n.source.toNat else 0)|||pz.sources|||pz.sources) (aO n.cl.xs|||pz.clauses|||pz.clauses))=_
    simp_all
   .show lF n.kind (if dZ n.kind=T then pz.size else lZ ts q ((if n.kind=1 then 2 ^ n.source.toNat else 0)|||pz.sources|||pz.sources) (aO n.cl.xs|||pz.clauses|||pz.clauses)) pz.cost pz.size pz.cost pz.size=_
    rw[Q,R,ez,f];exact Lg 1 _ vz vz
 have g:2<=n.kind:=by omega
 have aa:1<=arity n.kind:=by unfold arity;grind
 have d:0<=n.l/\n.l<N ps:=by omega
 cases b:iR n with
 |false =>
  left;refine⟨yt ts q plan _ B b,ZU ?_⟩;rw[Ab,D,Z8,Z4]at b;have k6:n.kind=6:=by omega
  have L:iG ts q n (fo n ps) (eG n ps)=false:=by unfold iG;rw[ZU (by omega),ZU (by omega),ZU (by omega),ZU (by omega),ZU (by omega),Zt k6];unfold qI;simp_all
  simp_all
 |true =>
  obtain⟨i,S,u,W⟩:=hk n.l.toNat (by omega);have t:fo n ps=E ps n.l.toNat pz:=by unfold fo;simp_all
  by_cases A:arity n.kind=2
  .have k:0<=n.r/\n.r<N ps:=by omega
   obtain⟨G,K,m,_⟩:=hk n.r.toNat (by omega);have j:eG n ps=E ps n.r.toNat pz:=by unfold eG;simp_all
   rw[t,j,Lh ok b g a u m (λe=>absurd A e),Ll ts q plan _ B b g a A d.1 d.2 k.1 k.2,S,K];simp only[Option.bind_some]
   cases hN:uw ts q n i G with
   |none =>
    left;refine⟨rfl,ZU λe=>?_⟩;rw[rO,Zt e]at hN;cases hN
   |some v =>
    right;have e:rM ts q n i G=true:=by
     by_cases e:rM ts q n i G=T
     .exact e
     .rw[rO,ZU e]at hN;cases hN
    rw[Zt e];obtain⟨x,y⟩:=Li ok b g a u m W (λe=>absurd A e) hN;simp_all
  .have j:eG n ps=pz:=by unfold eG;simp_all
   rw[t,j,Lh ok b g a u (aaa q) (λ_=>⟨rfl,rfl⟩),Lj ts q plan _ B b g a A d.1 d.2,S];simp only[Option.bind_some]
   cases hN:uw ts q n i vz with
   |none =>
    left;refine⟨rfl,ZU λe=>?_⟩;rw[rO,Zt e]at hN;cases hN
   |some v =>
    right;have e:rM ts q n i vz=true:=by
     by_cases e:rM ts q n i vz=T
     .exact e
     .rw[rO,ZU e]at hN;cases hN
    rw[Zt e];obtain⟨x,y⟩:=Li ok b g a u (aaa q) W (λ_=>⟨rfl,rfl⟩) hN;simp_all
theorem GG{ts:List ah}{q:af}(ok:Ok ts q)(plan:List ai):∀k,(∀i,i<k->fQ (E plan i nz) i=T)->
  (fG ts q plan k=xn/\∃i,i<k/\dw ts q plan i=xn)∨∃ps,fG ts q plan k=O ps/\N ps=k/\GD ts q plan ps
 |0,_=>.inr ⟨[],rfl,rfl,λi e=>by cases e⟩
 |k+1,h=>by
  rcases GG ok plan k (λi e=>h i (by omega)) with⟨h1,i,e,h2⟩|⟨ps,h1,rfl,h2⟩
  .grind [fG.eq_2]
  .rcases abg ok plan h2 (h _ (by omega)) with⟨a,b⟩|⟨p,v,a,b,c,d⟩
   .grind [fG.eq_2]
   .right;refine⟨ps++[p],?_,by simp,h2.snoc b c d⟩
    grind [fG.eq_2]
def pJ(l:List Int):Bool:=(List.range (N l)).all λi=>decide (E l i 0=(i:Int))
def iH(q:af):List Int:=q.ord.xs.map λp=>E q.bE.xs p.toNat 0
def jC(q:af)(kind:Int)(order:List Int):Bool:=
 if N q.ord.xs=0 then T
 else if kind=10 then T
 else if kind=9 then aQ order (iH q)
 else if kind=8 then decide (N q.ord.xs<=N q.keys.xs)&&pJ q.ord.xs
 else F
def aab(plan:List ai):Bool:=(List.range (N plan-1)).all λk=>decide (fF (N plan) (λi=>(wQ plan i).count k)=1)
def gQ(plan:List ai):Bool:=
 decide (1<=N plan)&&decide (N plan<=64)&&((List.range (N plan)).all λi=>fQ (E plan i nz) i)&&aab plan
def jD(ts:List ah)(q:af)(plan:List ai):Option (List bN):=
 if gQ plan=F then xn
 else (fG ts q plan (N plan)).bind λps=>
  let n:=E plan (N plan-1) nz
  if (dZ n.kind&&jC q n.kind (E ps n.l.toNat pz).order)=T then O ps else xn
theorem EG{v:dX}(h:dw ts q plan i=O v) :
  fQ (E plan i nz) i=T/\v.out=dZ (E plan i nz).kind/\∀j∈wQ plan i,∃u,dw ts q plan j=O u:=by
 unfold dw vP at h;unfold wQ;simp only at h ⊢;generalize E plan i nz=n at h ⊢;by_cases A:iR n=F∨n.kind<1∨10<n.kind
 .simp_all
 rw[ZU A]at h;have d:iR n=true:=by simp_all
 have p:sO n=true:=by rw[Ab,Qj]at d;exact d.1
 have g:1<=n.kind/\n.kind<=10:=by omega
 have t:∀l r,uw ts q n l r=O v->v.out=dZ n.kind:=λl r e=>by
  rw[rO]at e;split at e
  .injection e with e;rw[<-e]
   show decide (7<=n.kind)=_;unfold dZ;simp_all
  .cases e
 unfold fQ;rw[Qx g.1,Qx g.2,p];by_cases a:n.kind=1
 .have y:=Gz a;rw[Zt a]at h;by_cases B:n.source<0∨(N q.src.xs:Int)<=n.source
  .simp_all
  rw[ZU B]at h;injection h with h;rw[y,Zt rfl];refine⟨rfl,?_,λj z=>by cases z⟩;rw[<-h,a];rfl
 rw[ZU a]at h;have b:arity n.kind≠0:=by unfold arity;grind
 rw[ZU b];by_cases C:n.l<0∨(i:Int)<=n.l
 .simp_all
 rw[ZU C,Bv ts q plan (f:=i) (by omega)]at h;have k:decide (0<=n.l)=T/\decide (n.l<i)=true:=⟨Qx (by omega),Qx (by omega)⟩;rw[k.1,k.2]
 cases hvl:dw ts q plan n.l.toNat with
 |none=>simp_all
 |some l =>
  rw[hvl]at h;simp only at h;by_cases m:arity n.kind=2
  .rw[Zt m]at h;by_cases D:n.r<0∨(i:Int)<=n.r
   .simp_all
   rw[ZU D,Bv ts q plan (f:=i) (by omega)]at h;grind
  .have G:=abb a m
   grind
structure dH where
 d:bN
 ns:List ai
def OH:dH:=⟨pz,[]⟩
def fJ(n:ai):ai:=⟨n.kind,n.l,n.r,n.source,⟨xn,0,n.cl.xs⟩,n.key,⟨xn,0,n.co.xs⟩⟩
def bU(k:Nat)(n:ai):ai:=⟨n.kind,if 1<=arity n.kind then wrap64 (n.l+k) else n.l,if 2<=arity n.kind then wrap64 (n.r+k) else n.r,n.source,n.cl,n.key,n.co⟩
def gW(ls:List (List ai)):List ai:=ls.foldl (λacc l=>acc++l.map (bU (N acc))) []
def xP(ls:List (List ai))(i:Nat):Int:=if i<N ls then (N (gW (ls.take (i+1))):Int)-1 else 0
def vF(n:ai)(ls:List (List ai)):List ai:=
 gW ls++[⟨n.kind,xP ls 0,xP ls 1,n.source,⟨xn,0,n.cl.xs⟩,n.key,⟨xn,0,n.co.xs⟩⟩]
def aM(ts:List ah)(q:af)(n:ai)(bs:List dH):dH:=
 ⟨oH ts q n (E bs 0 OH).d (E bs 1 OH).d,vF n (bs.map dH.ns)⟩
def dV(kind:Int):ai:=⟨kind,0,0,0,⟨xn,0,[]⟩,0,⟨xn,0,[]⟩⟩
def kC(s:Int):ai:=⟨1,0,0,s,⟨xn,0,[]⟩,0,⟨xn,0,[]⟩⟩
def IJ(cl:List Int):ai:=⟨2,0,0,0,⟨xn,0,cl⟩,0,⟨xn,0,[]⟩⟩
def MB(co:List Int):ai:=⟨6,0,0,0,⟨xn,0,[]⟩,0,⟨xn,0,co⟩⟩
def qj(kind:Int)(cl:List Int)(key:Int):ai:=⟨kind,0,0,0,⟨xn,0,cl⟩,key,⟨xn,0,[]⟩⟩
def ed(s:Nat):List Int:=(aT s).map λ(n:Nat)=>(n:Int)
def df(ts:List ah)(q:af)(t:dH)(c:Nat):dH:=if c=0 then t else aM ts q (IJ (ed c)) [t]
def fT(ts:List ah)(q:af)(t:dH)(o:List Int):dH:=aM ts q (MB o) [t]
def gy(conc:List Nat)(s:Nat):Nat->Nat
 |0=>0
 |k+1=>if aZ s (E conc k 0)=T then gy conc s k|||2 ^ k else gy conc s k
def bB(conc:List Nat)(s:Nat):Nat:=gy conc s (N conc)
def dF(conc:List Nat)(a b:Nat):Nat:=bB conc (a|||b) &&& (18446744073709551615-(bB conc a|||bB conc b))
def jr(ts:List ah)(q:af)(conc:List Nat)(s:Int):dH:=
 let t:=aM ts q (kC s) []
 df ts q t (bB conc t.d.sources)
def dM(ts:List ah)(q:af):Nat->dH
 |0=>aM ts q (kC 0) []
 |k+1=>aM ts q (dV 3) [dM ts q k,aM ts q (kC ((k+1:Nat):Int)) []]
def qG(ts:List ah)(q:af):dH:=
 let e:=aM ts q (dV (if q.group=T then 7 else 9)) [df ts q (dM ts q (N q.src.xs-1)) (2 ^ (N q.wh)-1)]
 if 0<N q.ord.xs then aM ts q (dV 10) [e] else e
def aR(q:af):List Int:=if q.group=T then q.keys.xs else if dB (iH q)=T then iH q else []
def dO(q:af)(o:List Int):Int:=if q.group=F then 9 else if aQ o q.keys.xs=T then 8 else 7
def mQ(ts:List ah)(q:af)(t:dH):dH:=
 let e:=aM ts q (dV (dO q t.d.order)) [t]
 if jC q (dO q t.d.order) t.d.order=T then e else aM ts q (dV 10) [e]
def uK(ts:List ah)(q:af)(t:dH):List dH:=
 if 0<N (aR q) then [mQ ts q t,mQ ts q (fT ts q t (aR q))] else [mQ ts q t]
def agl(b t:dH):dH:=if t.d.cost<b.d.cost then t else b
def acR(b:dH)(l:List dH):dH:=l.foldl agl b
abbrev eD:=List Int × Option (Nat × dH)
def agn:List eD->Nat
 |[]=>0
 |(_,xn)::g=>agn g
 |(_,O x)::g=>max (x.1+1) (agn g)
def agp(t:dH)(p:eD):Bool:=aQ t.d.order p.1&&(match p.2 with|none=>T|some x=>decide (t.d.cost<x.2.d.cost))
def az4(n:Nat)(t:dH)(p:eD):eD:=if agp t p=T then (p.1,O (n,t)) else p
def agq(g:List eD)(t:dH):List eD:=g.map (az4 (agn g) t)
def anA(x:Bool × List eD)(t:dH):Bool × List eD:=(x.1 ||x.2.any (agp t),agq x.2 t)
def Ya(g:List eD)(l:List dH):Bool × List eD:=l.foldl anA (F,g)
def CZ(g:List eD):Option dH:=match g with|(_,O x)::_=>O x.2|_=>xn
def ajM(ts:List ah)(q:af)(g:List eD)(o:List Int):List eD:=agq g (fT ts q ((CZ g).getD OH) o)
def agr(ts:List ah)(q:af)(g:List eD)(l:List dH):Bool × List eD:=
 if (Ya g l).1=T then (T,((g.map Prod.fst).drop 1).foldl (ajM ts q) (Ya g l).2) else (F,(Ya g l).2)
def jS(ls:List (List Int))(l:List Int):List (List Int):=if l∈ls then ls else ls++[l]
structure uM(q:af)(t:dH):Prop where
 src:t.d.sources<2 ^ (N q.src.xs)
 cls:t.d.clauses<2 ^ (N q.wh)
 cost:t.d.cost<=bJ
 kinds:∀m∈t.ns,1<=m.kind/\m.kind<=10
 pos:0<N t.ns
theorem acT(ls:List (List ai))(l:List ai):gW (ls++[l])=gW ls++l.map (bU (N (gW ls))):=by grind [gW]
def IP:∀ls:List (List ai),N ls<=2->N (gW ls)=N (E ls 0 [])+N (E ls 1 [])
 |[],_=>rfl
 |[a],_=>by simp[gW]
 |[a,b],_=>by simp[gW]
 |_::_::_::_,h=>by simp at h
def Yb(ls:List (List ai))(h:∀l∈ls,∀m∈l,1<=m.kind/\m.kind<=10):∀m∈gW ls,1<=m.kind/\m.kind<=10:=by
 have key:∀(ls:List (List ai)) (a:List ai),(∀l∈ls,∀m∈l,1<=m.kind/\m.kind<=10)->(∀m∈a,1<=m.kind/\m.kind<=10)->
   ∀m∈ls.foldl (λa l=>a++l.map (bU (N a))) a,1<=m.kind/\m.kind<=10:=by
  intro ls
  induction ls with
  |nil=>simp_all
  |cons l ls ih =>
   intro a e f;refine ih _ (λx d=>e x (List.mem_cons_of_mem _ d)) λm b=>?_;rcases Zi.1 b with b|b
   .exact f m b
   .obtain⟨x,d,rfl⟩:=ZC.1 b;exact e l Jd x d
 exact key ls [] h λm b=>by cases b
def yP(ts:List ah)(q:af)(n:ai){bs:List dH}(h:N bs<=2):(aM ts q n bs).ns.length=(E bs 0 OH).ns.length+(E bs 1 OH).ns.length+1:=by
 unfold aM vF;rw[Zn,IP _ (by simpa using h)]
 match bs,h with
 |[],_=>rfl
 |[a],_=>rfl
 |[a,b],_=>rfl
 |_::_::_::_,h=>simp at h
theorem agt(l:List Nat):kP l<=bJ:=by grind [yh]
theorem acU(kind:Int)(s lc ls rc rs:Nat):lF kind s lc ls rc rs<=bJ:=by grind [lF,agt]
def IQ{a b:Nat}(ha:a<2 ^ n)(hb:b<2 ^ n):a|||b<2 ^ n:=XQ ha hb
def nU(ts:List ah)(q:af)(n:ai)(bs:List dH)(hk:1<=n.kind/\n.kind<=10)(hs:n.kind=1->0<=n.source/\n.source<N q.src.xs)(hc:aY (N q.wh) n.cl.xs)(hb:∀b∈bs,uM q b):uM q (aM ts q n bs):=by
 have f:∀n:Nat,0<2 ^ n:=λn=>Nat.pow_pos (by omega);have e:∀i,(E bs i OH).d.sources<2 ^ (N q.src.xs)/\(E bs i OH).d.clauses<2 ^ (N q.wh):=by
  intro i;by_cases p:i<N bs
  .have a:E bs i OH∈bs:=by simp_all
   exact⟨(hb _ a).src,(hb _ a).cls⟩
  .have:E bs i OH=OH:=by simp_all
   rw[this];exact⟨f _,f _⟩
 refine⟨?_,?_,?_,?_,?_⟩
 .show (if n.kind=1 then 2 ^ n.source.toNat else 0)|||_|||_<_
  refine IQ (IQ ?_ (e 0).1) (e 1).1;split
  .rename_i h1
   have:=hs h1;exact XO (by omega) (by omega)
  .exact f _
 .show aO n.cl.xs|||_|||_<_
  exact IQ (IQ (uT hc) (e 0).2) (e 1).2
 .exact acU _ _ _ _ _ _
 .intro m a;rcases Zi.1 a with a|a
  .refine Yb _ (λl j x k=>?_) m a;obtain⟨t,g,rfl⟩:=ZC.1 j;exact(hb t g).kinds x k
  simp_all
 .show 0<N (vF n _)
  unfold vF;simp
def zS(ts:List ah)(q:af)(n:ai)(bs:List dH)(hk:n.kind≠1):(aM ts q n bs).d.sources=(E bs 0 OH).d.sources|||(E bs 1 OH).d.sources:=by show (if n.kind=1 then 2 ^ n.source.toNat else 0)|||_|||_=_;simp_all
theorem AJ(ts:List ah)(q:af)(s:Int):(aM ts q (kC s) []).d.sources=2 ^ s.toNat:=by show (if (1:Int)=1 then 2 ^ s.toNat else 0)|||0|||0=_;simp
def acV(z lc ls rc rs:Nat)(h:lc<=bJ):lc<=lF 6 z lc ls rc rs:=by unfold lF;rw[ZU (by decide),ZU (by decide),Zt (by decide),Y9];unfold dY;omega
def Yc(ts:List ah)(q:af)(n:ai)(l r:bN):(oH ts q n l r).cost=lF n.kind (if dZ n.kind=T then l.size else lZ ts q ((if n.kind=1 then 2 ^ n.source.toNat else 0)|||l.sources|||r.sources) (aO n.cl.xs|||l.clauses|||r.clauses)) l.cost l.size r.cost r.size:=rfl
def OI(ts:List ah)(q:af)(t:dH)(o:List Int)(h:t.d.cost<=bJ):t.d.cost<=(fT ts q t o).d.cost:=by show t.d.cost<=(oH ts q (MB o) t.d OH.d).cost;rw[Yc];exact acV _ _ _ _ _ h
def AO(n:Nat):aY n []:=λx a=>by cases a
theorem AP(h:s<2 ^ n):aY n (ed s):=by intro x a;grind [aT,ed,Nat.lt_of_lt_of_le,Nat.pow_le_pow_right,Nat.testBit_lt_two_pow]
def jL(conc:List Nat)(s:Nat):∀k,gy conc s k<2 ^ k
 |0=>by simp[gy]
 |k+1=>by
  have h:=jL conc s k;have h2:2 ^ k<2 ^ (k+1):=XO (by omega) (by omega);unfold gy;split
  .exact IQ (Nat.lt_trans h h2) h2
  omega
def IU(conc:List Nat)(a b:Nat):dF conc a b<2 ^ (N conc):=by unfold dF;exact Nat.lt_of_le_of_lt Nat.and_le_left (jL _ _ _)
def vG{t:dH}{c:Nat}(h:uM q t)(hc:c<2 ^ (N q.wh)):uM q (df ts q t c):=by
 unfold df;split
 .exact h
 .exact nU ts q _ _ ⟨(by decide:(1:Int)<=2),(by decide:(2:Int)<=10)⟩ (λe=>absurd e (by decide:(2:Int)≠1)) (AP hc) (λb a=>by simp_all)
def C8(ts:List ah)(q:af)(t:dH)(c:Nat):(df ts q t c).d.sources=t.d.sources:=by
 unfold df;split
 .rfl
 .rw[zS ts q _ _ (by decide:(2:Int)≠1)]
  show t.d.sources|||0=_;simp
def zT(ts:List ah)(q:af)(t:dH)(c:Nat):(df ts q t c).ns.length<=N t.ns+1:=by
 unfold df;split
 .omega
 .rw[yP ts q _ (by simp)]
  show N t.ns+0+1<=_;omega
def AQ{t:dH}(o:List Int)(h:uM q t):uM q (fT ts q t o):=
 nU ts q _ _ ⟨(by decide:(1:Int)<=6),(by decide:(6:Int)<=10)⟩ (λe=>absurd e (by decide:(6:Int)≠1)) (AO _) (λb a=>by simp_all)
def vZ(ts:List ah)(q:af)(t:dH)(o:List Int):(fT ts q t o).d.sources=t.d.sources:=by unfold fT;rw[zS ts q _ _ (by decide:(6:Int)≠1)];show t.d.sources|||0=_;simp
def xQ(ts:List ah)(q:af)(t:dH)(o:List Int):(fT ts q t o).ns.length=N t.ns+1:=by unfold fT;rw[yP ts q _ (by simp)];rfl
theorem TH(ts:List ah)(q:af){conc:List Nat}(hc:N conc=N q.wh){s:Int}(h0:0<=s)(h1:s<N q.src.xs) :
  uM q (jr ts q conc s)/\(jr ts q conc s).d.sources=2 ^ s.toNat/\(jr ts q conc s).ns.length<=2:=by have a:uM q (aM ts q (kC s) []):=nU ts q _ _ ⟨(by decide:(1:Int)<=1),(by decide:(1:Int)<=10)⟩ (λ_=>⟨h0,h1⟩) (AO _) (λb e=>by cases e);refine⟨vG a (by rw[<-hc];exact jL _ _ _),by unfold jr;rw[C8];grind [AJ],?_⟩;refine Qz (zT ts q _ _) ?_;rw[yP ts q _ (by simp)];show 0+0+1+1<=2;omega
def Jf:=@yP
def Jg:=@AO
def abq{α:Type}{l:List α}{d:α}{k:Nat}(hk:k<N l):E l k d∈l:=by simp_all
def Xl:=@abq
def wpList_append_run{P:Program}{w:U}{ops:Array Oper}{rest:List Oper}{o:Oper}{a:Act}{Q:Exit->Act->U->Prop}(hgd:o.guard=xn)(s x:Operand)(t:TypeId)
  (ho:o.op=.call { callee:=.builtin .append,args:=#[s,x],argTypes:=#[t,t] }) (v u v':X3) (w':U) (hs:a.eval s=v) (hx:a.eval x=u)
  (hrun:(Builtin.append_ #[t,t] o.type #[v,u]).run P w=.ok v' w') (h:wpList P ops Q rest (a.put o.dst v') w'):wpList P ops Q (o::rest) a w:=by refine wpList_plain hgd λK b=>?_;unfold Oper.wp execOp;simp only[ho,resolve,invoke,builtin,Sem.run_bind,Sem.run_pure,Result.andThen_ok,List.map_toArray,Xg,List.map_nil,hs,hx,hrun];exact b _ _ h
structure Listed(tI tE:TypeId)(base:Nat)(v:X3)(ys:List ae)(W:U):Prop where
 own:W.ownsRow base tI 1 v (N ys) (ys.map ae.val)
 at':∀y∈ys,(Lu tE).At y W
def Listed.nil(tI tE:TypeId)(base:Nat)(W:U):Listed tI tE base (Z xn 0 0) [] W:=⟨Zk _ _ _ _,λy a=>by cases a⟩
theorem GX(W:U)(base:Nat)(v:X3)(xs:List Int)(hown:W.ownsRow base 3 1 v (N xs) (xs.map (Value.int J)))(hl:N xs<=1000000)(hb:base<=M (H W))(x:Int)(ty:TypeId) :
  ∃d f,(Builtin.append_ #[22,22] ty #[v,Z (O (aD (M (H W)) 0)) 1 1]).run V (W.alloc (EP #[I J x] 3))=.ok d f/\
   f.ownsRow base 3 1 d (N (xs++[x])) ((xs++[x]).map (Value.int J))/\Kept (λb=>v.ownBlock≠O b) W f/\(∃a m c,d = Z a m c)/\(d.ownBlock=v.ownBlock∨d.ownBlock=O (M (H W)+1)):=by
 obtain⟨p,q,i,j,k⟩:=Zj Tryz.lK;obtain⟨d,f,l,y,z,_,g⟩:=Xo (P:=V) (W.alloc (EP #[.int J x] 3)) base 22 ty 3 p (.int J 0) 1 8 Tryz.underlying22 q i j k rfl (by decide) v (N xs) (xs.map (Value.int J)) (hown.alloc _) (aD (M (H W)) 0) 1 1 [.int J x] rfl
  (World.news_of_block (cs:=#[I J x]) (t:=3) (fr:=(0,0)) (pR W _)) (λu n=>by rw[Zg]at n;rw[n];rfl) (by unfold maxLen;omega) (by omega) (by rw[Zo];omega)
 refine⟨d,f,l,by grind,(QE _ _).trans (Q9 z (λr e l=>l e)),Zc y,by rw[Zo]at g;exact g⟩
def Xm:=@wpList_append_run
def NU(h:n<=bJ):IntKind.u64.wrap (n:Int)=n:=by unfold bJ at h;rw[IntKind.wrap_u64];omega
theorem zJ{v:Int}(hk:k<N xs):v∈xs.take (k+1)↔v∈xs.take k∨E xs k 0=v:=by rw[Qh hk,Zi,Zg];grind
theorem NV{ys:List Int}(hx:k<N xs)(hy:k<N ys)(h:xs.take k=ys.take k)(e:E xs k 0=E ys k 0):xs.take (k+1)=ys.take (k+1):=by rw[Qh hx,Qh hy,h];grind
def fH(w:U)(ao:Option Addr)(xs:List Nat):Prop:=
 N xs<=1000/\aX w ao (N xs) (λi=>I Vo ((E xs i 0:Nat):Int))
def fH.get{w:U}{ao:Option Addr}{xs:List Nat}(h:fH w ao xs){i:Nat}(hi:i<N xs) :
  ∃b off,ao=O (aD b off)/\∀j,j<N xs->UK w (aD b (off+j))=O (I Vo ((E xs j 0:Nat):Int)):=
 Qf h.2 hi
def fH.below{w w':U}(hb:Bw w w'){ao:Option Addr}{xs:List Nat}(h:fH w ao xs):fH w' ao xs:=⟨h.1,h.2.below hb⟩
def iU(w:U)(ao:Option Addr)(cs:List (Nat × Int)):Prop:=
 N cs<=1000/\∀i,i<N cs->∃b off,ao=O (aD b off)/\
  UK w (aD b (off+i*2))=O (I J ((E cs i (0,0)).1:Nat))/\UK w (aD b (off+i*2+1))=O (I Vo (E cs i (0,0)).2)
theorem iU.below{w w':U}(hb:Bw w w'){ao:Option Addr}{cs:List (Nat × Int)}(h:iU w ao cs):iU w' ao cs:=⟨h.1,λi a=>by
 obtain⟨b,off,e,d,f⟩:=h.2 i a;grind [cB]⟩
structure aF where
 ca:Option Addr
 cc:Nat
 ra:Option Addr
 rc:Nat
 na:Option Addr
 nl:Nat
 nc:Nat
 pa:Option Addr
 pl:Nat
 pc:Nat
def jm(ts:List ah)(q:af):List (Nat × Int):=dD ts q.src.xs (N q.src.xs)
def EJ(ts:List ah)(q:af):List Nat:=(List.range (N q.src.xs)).map λ(k:Nat)=>mV ts q.src.xs (k:Int)
def bT(ts:List ah)(q:af):List Nat:=q.wh.map λc=>aO (eF ts q.src.xs c.cs)
def zF(ts:List ah)(q:af):List Nat:=q.wh.map λc=>kQ ts q.src.xs c.cs
def aF.cells(f:aF)(ts:List ah)(q:af):Array Value:=
 #[q.src.val,Z q.gI (N q.wh) q.bP,Wl q.group,q.keys.val,q.sums.val,q.bE.val,q.ord.val,Z f.ca (N (jm ts q)) f.cc,I Vo ((2 ^ (N q.src.xs)-1:Nat):Int),I Vo ((2 ^ (N q.wh)-1:Nat):Int),
  Z f.ra (N q.src.xs) f.rc,Z f.na f.nl f.nc,Z f.pa f.pl f.pc]
structure aF.At(f:aF)(ts:List ah)(q:af)(w:U):Prop where
 query:q.At w
 cols:iU w f.ca (jm ts q)
 rows:fH w f.ra (EJ ts q)
 conc:fH w f.na (bT ts q)
 parts:fH w f.pa (zF ts q)
 nl:f.nl=N q.wh
 pl:f.pl=N q.wh
def aF.At.below{w w':U}(hb:Bw w w'){f:aF}{ts:List ah}{q:af}(h:f.At ts q w):f.At ts q w':=
 ⟨h.query.below hb,h.cols.below hb,h.rows.below hb,h.conc.below hb,h.parts.below hb,h.nl,h.pl⟩
def abr(ts:List ah)(q:af):N (EJ ts q)=N q.src.xs:=by unfold EJ;simp
def kI(ts:List ah)(q:af):N (bT ts q)=N q.wh:=by unfold bT;simp
def Lx(ts:List ah)(q:af):N (zF ts q)=N q.wh:=by unfold zF;simp
def LA(ts:List ah)(q:af)(hk:k<N q.src.xs):E (EJ ts q) k 0=mV ts q.src.xs (k:Int):=by unfold EJ;simp_all
def DR(ts:List ah)(q:af)(hk:k<N q.wh):E (bT ts q) k 0=aO (eF ts q.src.xs (E q.wh k lz).cs):=by unfold bT;simp_all
def DT(ts:List ah)(q:af)(hk:k<N q.wh):E (zF ts q) k 0=kQ ts q.src.xs (E q.wh k lz).cs:=by unfold zF;simp_all
structure aG where
 kind:Int
 sources:Nat
 clauses:Nat
 order:ae
 size:Nat
 cost:Nat
def bF:aG:=⟨0,0,0,⟨xn,0,[]⟩,0,0⟩
def aG.cells(p:aG):Array Value:=#[I J p.kind,I Vo (p.sources:Int),I Vo (p.clauses:Int),p.order.val,I Vo (p.size:Int),I Vo (p.cost:Int)]
def aG.list(p:aG):List Value:=[I J p.kind,I Vo (p.sources:Int),I Vo (p.clauses:Int),p.order.val,I Vo (p.size:Int),I Vo (p.cost:Int)]
def aG.d(p:aG):bN:=⟨p.kind,p.sources,p.clauses,p.order.xs,p.size,p.cost⟩
structure aG.Ok(p:aG)(w:U):Prop where
 order:p.order.At w
 cap:N p.order.xs<=p.order.cap
 sources:p.sources<=bJ
 clauses:p.clauses<=bJ
 size:p.size<=bJ
 cost:p.cost<=bJ
def aG.Ok.below{w w':U}(hb:Bw w w'){p:aG}(h:p.Ok w):p.Ok w':=⟨Qo hb h.order,h.cap,h.sources,h.clauses,h.size,h.cost⟩
def bY(w:U)(ao:Option Addr)(ps:List aG):Prop:=
 N ps<=1000/\∀i,i<N ps->(∃b off,ao=O (aD b off)/\
  UK w (aD b (off+i*6))=O (I J (E ps i bF).kind)/\UK w (aD b (off+i*6+1))=O (I Vo ((E ps i bF).sources:Int))/\
  UK w (aD b (off+i*6+2))=O (I Vo ((E ps i bF).clauses:Int))/\UK w (aD b (off+i*6+3))=O (E ps i bF).order.val/\
  UK w (aD b (off+i*6+4))=O (I Vo ((E ps i bF).size:Int))/\UK w (aD b (off+i*6+5))=O (I Vo ((E ps i bF).cost:Int)))/\(E ps i bF).Ok w
def bY.below{w w':U}(hb:Bw w w'){ao:Option Addr}{ps:List aG}(h:bY w ao ps):bY w' ao ps:=⟨h.1,λi m=>by
 obtain⟨⟨b,off,e,a,d,f,g,j,k⟩,l⟩:=h.2 i m;exact⟨⟨b,off,e,cB hb a,cB hb d,cB hb f,cB hb g,cB hb j,cB hb k⟩,l.below hb⟩⟩
theorem mE{α:Type}(f:α->List X3)(k:Nat)(hk:∀a,N (f a)=k)(d:α):∀(l:List α) (i j:Nat),i<N l->j<k->(l.flatMap f)[i*k+j]? = (f (E l i d))[j]?
 |[],i,j,h,_=>absurd h (by simp)
 |a::l,0,j,_,hj=>by grind
 |a::l,i+1,j,h,hj=>by
  have e:(i+1)*k+j=N (f a)+(i*k+j):=by grind
  rw[Xr,e,Xj (Nat.le_add_right _ _),Nat.add_sub_cancel_left,mE f k hk d l i j (by simpa using h) hj];rfl
def mF{α:Type}(f:α->List X3)(k:Nat)(hk:∀a,N (f a)=k):∀l:List α,N (l.flatMap f)=N l*k
 |[]=>by simp
 |a::l=>by rw[Xr,Zn,hk,mF f k hk l,QO,Nat.succ_mul];omega
def jo{xs:List X3}(h:w.ownsRow base e size v n xs) :
  (v=Z xn 0 0/\n=0)∨∃g cap,v=Z (O (aD g 0)) n cap/\base<=g/\g<M (H w)/\∀j u,xs[j]? = O u->UK w (aD g j)=O u:=by
 rcases h.2 with⟨rfl,h1⟩|⟨g,cap,cur,rfl,hb,hh,_,_,_,ht⟩
 .simp_all
 .refine .inr ⟨g,cap,rfl,hb,(QI.1 hh).1,λj u a=>?_⟩;rw[<-ht,Xt]at a;split at a
  .simp only[World.cell?,hh]
   simp_all
  .cases a
theorem uB{xs:List Nat}(h:w.ownsRow base e 1 v n (xs.map λ(x:Nat)=>I Vo (x:Int)))(hl:N xs<=1000):∃a cap,v=Z a (N xs) cap/\fH w a xs:=by
 have b:N xs=n:=by have:=h.1;simp_all
 rcases jo h with⟨rfl,h0⟩|⟨g,cap,rfl,_,_,hc⟩
 .grind [fH,aX]
 .refine⟨O (aD g 0),cap,by rw[b],⟨hl,λi d=>⟨g,0,rfl,?_⟩⟩⟩
  simp_all
def kW(c:Nat × Int):List Value:=[I J (c.1:Int),I Vo c.2]
theorem GY{cs:List (Nat × Int)}(h:w.ownsRow base e 2 v n (cs.flatMap kW))(hl:N cs<=1000):∃f cap,v=Z f (N cs) cap/\iU w f cs:=by
 have b:∀a,N (kW a)=2:=λ_=>rfl;have j:N cs=n:=by have:=h.1;rw[mF kW 2 b]at this;omega
 rcases jo h with⟨rfl,h0⟩|⟨g,cap,rfl,_,_,hc⟩
 .grind [iU]
 .refine⟨O (aD g 0),cap,by rw[j],⟨hl,λi d=>⟨g,0,rfl,?_,?_⟩⟩⟩
  .rw[ZK];exact hc (i*2) _ (by have:=mE kW 2 b (0,0) cs i 0 d (by omega);rw[Xb]at this;rw[this];rfl)
  .rw[ZK];exact hc (i*2+1) _ (by rw[mE kW 2 b (0,0) cs i 1 d (by omega)];rfl)
def DU{ps:List aG}(h:w.ownsRow base e 6 v n (ps.flatMap aG.list))(hl:N ps<=1000)(hp:∀i,i<N ps->(E ps i bF).Ok w):∃f cap,v=Z f (N ps) cap/\bY w f ps:=by
 have d:∀a:aG,N a.list=6:=λ_=>rfl;have j:N ps=n:=by have:=h.1;rw[mF aG.list 6 d]at this;omega
 rcases jo h with⟨rfl,h0⟩|⟨g,cap,rfl,_,_,hc⟩
 .have:ps=[]:=Qs (by omega);subst this;exact⟨xn,0,rfl,⟨by simp,λi b=>absurd b (by simp)⟩⟩
 .refine⟨O (aD g 0),cap,by rw[j],⟨hl,λi b=>⟨⟨g,0,rfl,?_,?_,?_,?_,?_,?_⟩,hp i b⟩⟩⟩ <;> rw[ZK]
  .exact hc (i*6) _ (by have:=mE aG.list 6 d bF ps i 0 b (by omega);rw[Xb]at this;rw[this];rfl)
  .exact hc (i*6+1) _ (by rw[mE aG.list 6 d bF ps i 1 b (by omega)];rfl)
  .exact hc (i*6+2) _ (by rw[mE aG.list 6 d bF ps i 2 b (by omega)];rfl)
  .exact hc (i*6+3) _ (by rw[mE aG.list 6 d bF ps i 3 b (by omega)];rfl)
  .exact hc (i*6+4) _ (by rw[mE aG.list 6 d bF ps i 4 b (by omega)];rfl)
  .exact hc (i*6+5) _ (by rw[mE aG.list 6 d bF ps i 5 b (by omega)];rfl)
theorem iI{P:Program}(W:U)(base:Nat)(t ty e:TypeId)(i:TypeInfo)(z:X3)(size bytes:Nat)(ht:P.underlying t=O (.slice e))(hi:P.info? e=O i)(hz:i.zero=O z)(hsize:i.size=size)(hby:i.bytes=bytes)(hzs:z.cells.size=size)(hsz:0<size)
  (v:X3) (n:Nat) (xs:List X3) (hown:W.ownsRow base e size v n xs) (hb:base<=M (H W)) (news:List X3) (hl:N news=size) (h1:∀u∈news,u.oneCell' = T) (hn:n<=1000) (hbb:bytes<=1000) :
  ∃d f,(Builtin.append_ #[t,t] ty #[v,Z (O (aD (M (H W)) 0)) 1 1]).run P (W.alloc (EP news.toArray e))=.ok d f/\f.ownsRow base e size d (n+1) (xs++news)/\Kept (λb=>v.ownBlock≠O b) W f/\(∃a m c,d = Z a m c)/\(d.ownBlock=v.ownBlock∨d.ownBlock=O (M (H W)+1)):=by
 obtain⟨d,f,g,k,l,_,p⟩:=Xo (P:=P) (W.alloc (EP news.toArray e)) base t ty e i z size bytes ht hi hz hsize hby hzs hsz v n xs (hown.alloc _) (aD (M (H W)) 0) 1 1 news (by omega)
  (λj u q=>by
   rw[iB,ZK];simp_all) h1 (by grind [maxLen]) (by have:(n+1)*bytes<=1001*1000:=ZL (by omega) hbb;omega) (by rw[Zo];omega)
 exact⟨d,f,g,k,(QE _ _).trans (Q9 l (λr e g=>g e)),Zc k,by simp_all⟩
def Xq:=@mE
def aeR(h:n<64):IntKind.u64.wrap ((2:Int) ^ n)=((2 ^ n:Nat):Int):=by
 have a:((2:Int) ^ n)=((2 ^ n:Nat):Int):=by simp
 have b:2 ^ n<2 ^ 64:=XO (by omega) h;rw[a];generalize 2 ^ n=m at*;simp only[IntKind.wrap,IntKind.bits,IntKind.signed];simp;omega
def al0(hs:s<18446744073709551616)(h:n<64):bits BinOp.or IntKind.u64 (s:Int) (IntKind.u64.wrap ((2:Int) ^ n))=((s|||2 ^ n:Nat):Int):=by rw[aeR h];exact u64_or_nat s (2 ^ n) hs (XO (by omega) h)
def abT(hk:k<N l):aO (l.take (k+1))=aO (l.take k)|||2 ^ (E l k 0).toNat:=by
 have e:E l k 0=l[k]:=by simp[List.getD,hk]
 rw[Qh hk,aa7,e]
def NQ(h:∀x∈l,0<=x/\x<64)(k:Nat):aO (l.take k)<18446744073709551616:=uT (n:=64) (λx a=>h x (XP a))
def orL(l:List Nat):Nat:=l.foldl (· |||·) 0
def RA{l:List Nat}(hk:k<N l):orL (l.take (k+1))=orL (l.take k)|||E l k 0:=by
 have e:E l k 0=l[k]:=by simp[List.getD,hk]
 rw[Qh hk,e];unfold orL;rw[Xf];rfl
def al1{l:List Nat}(h:∀x∈l,x<18446744073709551616):∀k,orL (l.take k)<18446744073709551616:=λk=>by
 induction k with
 |zero=>simp[orL]
 |succ k ih =>
  by_cases a:k<N l
  .rw[RA a];have:E l k 0<18446744073709551616:=by
    have e:E l k 0=l[k]:=by simp[List.getD,a]
    rw[e];exact h _ (Zv a)
   exact XQ (n:=64) ih this
  .rw[Xi (by omega)];rw[Xi (by omega)]at ih;exact ih
theorem oQ(a b:Nat)(ha:a<18446744073709551616)(hb:b<18446744073709551616)(w:U) :
  Ce 96 #[I Vo (a:Int),I Vo (b:Int)] w (Wl (aZ a b)):=by have d:=u64_andNot_nat b a hb ha;go_enter Tryz.func96,Tryz.ntmps96;go_wp2;go_ret;refine⟨Qd ?_,rfl⟩;unfold aZ;grind
theorem LY(a b:Nat)(ha:a<18446744073709551616)(hb:b<18446744073709551616)(w:U) :
  Ce 197 #[I Vo (a:Int),I Vo (b:Int)] w (Wl (decide (a &&& b≠0))):=by have d:=u64_and_nat a b ha hb;go_enter Tryz.func197,Tryz.ntmps197;go_wp2;go_ret;refine⟨Qd ?_,rfl⟩;grind
theorem VN(s n:Nat)(hs:s<18446744073709551616)(hn:n<64)(w:U) :
  Ce 100 #[I Vo (s:Int),I J n] w (Wl (s.testBit n)):=by
 go_enter Tryz.func100,Tryz.ntmps100;go_wp2;go_ret;refine⟨Qd ?_,rfl⟩;have b:((s:Int) / 2 ^ n)=((s / 2 ^ n:Nat):Int):=by simp
 have a:s / 2 ^ n<18446744073709551616:=Nat.lt_of_le_of_lt (Nat.div_le_self _ _) hs;have d:=u64_and_nat (s / 2 ^ n) 1 a (by omega);grind
def RB(n:Nat)(hn:n<64)(w:U) :
  Ce 63 #[I J n] w (I Vo ((2 ^ n-1:Nat):Int)):=by
 go_enter Tryz.func63,Tryz.ntmps63;go_wp2;go_ret;refine⟨Qe ?_,rfl⟩;have a:((2:Int) ^ n)=((2 ^ n:Nat):Int):=by simp
 have b:2 ^ n<2 ^ 64:=XO (by omega) hn;have d:0<2 ^ n:=Nat.pow_pos (by omega);rw[a];generalize 2 ^ n=m at*;simp only[IntKind.wrap,IntKind.bits,IntKind.signed];simp;omega
def LZ(ao:Option Addr)(cap:Nat)(xs:List Int)(w:U)(hx:IntsAt w ao xs)(hs:∀x∈xs,0<=x/\x<64) :
  Ce 62 #[Z ao (N xs) cap] w (I Vo ((aO xs:Nat):Int)):=by
 have v:=hx.1;have j:Y3 _:=hx;have g:=Zh hs;have l:Y3 (aO (xs.take (N xs))=aO xs):=by show _=_;rw[QX]
 clear hx hs;go_enter Tryz.func62,Tryz.ntmps62;go_wp2;go_loopw [3,8] (λu f wr=>∃k:Nat,k<=N xs/\f=I J k/\(∃s:Nat,u=I Vo (s:Int)/\Y3 (s=aO (xs.take k)))/\wr=w) (λ_ f _=>N xs-(intOf f).toNat)
 case atStart=>exact⟨0,QW _,rfl,⟨0,rfl,rfl⟩,rfl⟩
 case round=>
  obtain⟨k,y,rfl,⟨s,rfl,hs⟩,rfl⟩:=hrel;by_cases a:k<N xs
  .obtain⟨b,off,rfl,i⟩:=Qg j.o a;have m:=i k a;have p:=g.o _ (Xl a (d:=0));have q:=Zh (abT a);have e:s<18446744073709551616:=by rw[hs.o];exact NQ g.o k
   clear i;generalize E xs k 0=x at*;obtain⟨n,rfl⟩:=XT p.1;have r:n<64:=by omega
   go_wp2;go_roundw
   case rel=>exact⟨k+1,by omega,by go_num,⟨s|||2 ^ n,by rw[al0 e r],by show _=_;rw[q.o,hs.o];rfl⟩,trivial⟩
   case measure=>simp[intOf];omega
  .obtain rfl:k=N xs:=by omega
   have t:=Zh (hs.o.trans l.o);clear hs;go_wp2;go_ret;exact⟨Qe (by rw[t.o]),rfl⟩
def abU(ao:Option Addr)(cap:Nat)(xs:List Nat)(w:U)(hx:fH w ao xs)(hs:∀x∈xs,x<18446744073709551616) :
  Ce 104 #[Z ao (N xs) cap] w (I Vo ((orL xs:Nat):Int)):=by
 have u:=hx.1;have j:Y3 _:=hx;have g:=Zh hs;have l:Y3 (orL (xs.take (N xs))=orL xs):=by show _=_;rw[QX]
 clear hx hs;go_enter Tryz.func104,Tryz.ntmps104;go_wp2;go_loopw [3,8] (λt f wr=>∃k:Nat,k<=N xs/\f=I J k/\(∃s:Nat,t=I Vo (s:Int)/\Y3 (s=orL (xs.take k)))/\wr=w) (λ_ f _=>N xs-(intOf f).toNat)
 case atStart=>exact⟨0,QW _,rfl,⟨0,rfl,rfl⟩,rfl⟩
 case round=>
  obtain⟨k,v,rfl,⟨s,rfl,hs⟩,rfl⟩:=hrel;by_cases a:k<N xs
  .obtain⟨b,off,rfl,i⟩:=fH.get j.o a;have m:=i k a;have n:=g.o _ (Xl a (d:=0));have p:=Zh (RA a);have e:s<18446744073709551616:=by rw[hs.o];exact al1 g.o k
   clear i;generalize E xs k 0=x at*;have q:=u64_or_nat s x e n;go_wp2;go_roundw
   case rel=>exact⟨k+1,by omega,by go_num,⟨s|||x,rfl,by show _=_;rw[p.o,hs.o]⟩,trivial⟩
   case measure=>simp[intOf];omega
  .obtain rfl:k=N xs:=by omega
   have r:=Zh (hs.o.trans l.o);clear hs;go_wp2;go_ret;exact⟨Qe (by rw[r.o]),rfl⟩
theorem lX(b:Nat)(x y:Nat)(w:U)(h0:UK w (aD b 0)=O (I Vo (x:Int)))(h1:UK w (aD b 1)=O (I Vo (y:Int)))(hx:x<18446744073709551616)(hy:y<18446744073709551616) :
  Ce 104 #[Z (O (aD b 0)) 2 2] w (I Vo ((x|||y:Nat):Int)):=by
 have h:=abU (O (aD b 0)) 2 [x,y] w ⟨by simp,λi d=>⟨b,0,rfl,by
  grind⟩⟩ (λz a=>by
  rcases Z0.1 a with e|e
  .omega
  .rw[Zg]at e;omega)
 have e:orL [x,y]=x|||y:=by unfold orL;simp
 rw[e]at h;exact h
theorem yJ(b:Nat)(n:Nat)(w:U)(h0:UK w (aD b 0)=O (I J (n:Int)))(hn:n<64) :
  Ce 62 #[Z (O (aD b 0)) 1 1] w (I Vo ((2 ^ n:Nat):Int)):=by
 have h:=LZ (O (aD b 0)) 1 [(n:Int)] w ⟨by simp,λi d=>⟨b,0,rfl,by
  grind⟩⟩ (λz a=>by rw[Zg]at a;omega)
 rw[wS]at h;exact h
theorem BX(k:Int)(w:U):Ce 112 #[I J k] w (Wl (dZ k)):=by
 have b:dZ k=(decide (k=7) ||decide (k=8) ||decide (k=9) ||decide (k=10)):=by unfold dZ;grind
 by_cases e:k=7
 .subst e;go_enter Tryz.func112,Tryz.ntmps112;go_wp2;go_ret;exact⟨rfl,rfl⟩
 by_cases f:k=8
 .subst f;go_enter Tryz.func112,Tryz.ntmps112;go_wp2;go_ret;exact⟨rfl,rfl⟩
 by_cases g:k=9
 .subst g;go_enter Tryz.func112,Tryz.ntmps112;go_wp2;go_ret;exact⟨rfl,rfl⟩
 by_cases a:k=10
 .subst a;go_enter Tryz.func112,Tryz.ntmps112;go_wp2;go_ret;exact⟨rfl,rfl⟩
 have d:Y3 (dZ k=F):=by show _=_;grind
 clear b;go_enter Tryz.func112,Tryz.ntmps112;go_wp2;go_ret;exact⟨Qd d.o.symm,rfl⟩
theorem abV:∀(f x:Nat),x<=f->x<2 ^ 64->nJ x=Lib.bitLen x:=by
 intro f
 induction f with
 |zero =>
  intro x a _;obtain rfl:x=0:=by omega
  rw[z8];rfl
 |succ f ih =>
  intro x a h;by_cases b:x=0
  .grind
  .rw[K9 (by omega),Lib.bitLen_half x b h,ih (x / 2) (by omega) (by omega),Nat.add_comm]
theorem VO(x:Nat)(h:x<2 ^ 64):nJ x<=64:=by
 have key:∀(f x:Nat),x<2 ^ f->nJ x<=f:=by
  intro f
  induction f with
  |zero =>
   intro x a;obtain rfl:x=0:=by omega
   rw[z8];omega
  |succ f ih =>
   intro x a;by_cases b:x=0
   .subst b;rw[z8];omega
   .rw[K9 (by omega)]
    grind
 exact key 64 x h
theorem BZ(l:List Nat):kP l<=bJ:=by rw[yh];exact Nat.min_le_right _ _
def aeT{l:List Nat}(hk:k<N l):(l.take (k+1)).sum=(l.take k).sum+E l k 0/\(l.take (k+1)).sum<=l.sum:=by
 have e:E l k 0=l[k]:=by simp[List.getD,hk]
 refine⟨by rw[Qh hk,e,List.sum_append];simp,?_⟩;have h:l.sum=(l.take (k+1)).sum+(l.drop (k+1)).sum:=by rw[<-List.sum_append,Zx]
 omega
def abW{l:List Nat}{k:Nat}(hk:k<N l)(h:bJ-kP (l.take k)<E l k 0):kP l=bJ:=by obtain⟨a,b⟩:=aeT hk;rw[yh]at h ⊢;omega
def VP{l:List Nat}{k:Nat}(hk:k<N l)(h:¬bJ-kP (l.take k)<E l k 0):kP (l.take (k+1))=kP (l.take k)+E l k 0:=by
 have e:E l k 0=l[k]:=by simp[List.getD,hk]
 have a:kP (l.take (k+1))=dY (kP (l.take k)) (E l k 0):=by rw[Qh hk,e];unfold kP;rw[Xf];rfl
 have:=BZ (l.take k);rw[a];unfold dY;omega
def abX{a b:Nat}(h:0<a*b / 18446744073709551616):bV a b=18446744073709551615:=by unfold bV bJ;omega
def abY{a b:Nat}(h:¬0<a*b / 18446744073709551616):bV a b=a*b % 18446744073709551616:=by unfold bV bJ;omega
def VQ(w:U)(xs:List Nat)(t:TypeId)(hl:N xs<=1000):fH (w.alloc (EP (xs.map λ(x:Nat)=>Value.int Vo (x:Int)).toArray t)) (O (aD (M (H w)) 0)) xs:=by refine⟨hl,λi a=>⟨M (H w),0,rfl,?_⟩⟩;simp only[World.cell?,pR w _];simp[List.getD,a]
def Tryz.RD:Go.Shelf.Ren:=⟨fun|129=>224|264=>223|n=>n,fun|3=>3|4=>4|5=>5|9=>9|46=>85|53=>37|n=>n,fun|n=>n⟩
def Tryz.apY:Go.Proofs.Lays.n129 V Tryz.RD:={
 mixed:=by kernel_rfl
 f129:=Tryz.func224.trans (congrArg O (by kernel_rfl))
 t3:=Tryz.underlying3
 a3:=Tryz.isAgg3
 z3:=Tryz.sizeOf3
 v3:=Tryz.zeroValue3
 t4:=Tryz.underlying4
 a4:=Tryz.isAgg4
 z4:=Tryz.sizeOf4
 v4:=Tryz.zeroValue4
 t5:=Tryz.underlying5
 a5:=Tryz.isAgg5
 z5:=Tryz.sizeOf5
 v5:=Tryz.zeroValue5
 t9:=Tryz.underlying9
 a9:=Tryz.isAgg9
 z9:=Tryz.sizeOf9
 v9:=Tryz.zeroValue9
 t46:=Tryz.underlying85
 a46:=Tryz.isAgg85
 z46:=Tryz.sizeOf85
 v46:=Tryz.zeroValue85
 t53:=Tryz.underlying37
 a53:=Tryz.isAgg37
 z53:=Tryz.sizeOf37
 v53:=Tryz.zeroValue37 }
def Tryz.apZ:Go.Proofs.Lays.n264 V Tryz.RD:={
 mixed:=by kernel_rfl
 f264:=Tryz.func223.trans (congrArg O (by kernel_rfl))
 t46:=Tryz.underlying85
 a46:=Tryz.isAgg85
 z46:=Tryz.sizeOf85
 v46:=Tryz.zeroValue85
 t53:=Tryz.underlying37
 a53:=Tryz.isAgg37
 z53:=Tryz.sizeOf37
 v53:=Tryz.zeroValue37 }
def abZ(x:Nat)(w:U)(hx:x<=bJ):Ce 224 #[I Vo (x:Int)] w (I J (nJ x:Nat)):=by
 have h:=Go.Proofs.Any.bits_Len64 Tryz.apY (x:Int) w (by omega) (by unfold bJ at hx;omega);have e:Lib.bitLen (x:Int).toNat=nJ x:=by rw[Xk];exact(abV x x (Qn _) (by unfold bJ at hx;omega)).symm
 rw[e]at h;exact h
def ab0(x y:Nat)(w:U)(hx:x<=bJ)(hy:y<=bJ):Ce 223 #[I Vo (x:Int),I Vo (y:Int)] w (.tuple #[I Vo ((x*y / 18446744073709551616:Nat):Int),I Vo ((x*y % 18446744073709551616:Nat):Int)]):=
 Go.Proofs.Any.bits_Mul64 Tryz.apZ x y (by unfold bJ at hx;omega) (by unfold bJ at hy;omega) w
def Ai(a b:Nat)(w:U)(ha:a<=bJ)(hb:b<=bJ):Ce 198 #[I Vo (a:Int),I Vo (b:Int)] w (I Vo (bV a b:Nat)):=by
 have d:=ab0 a b w ha hb;have f:Y3 _:=@abX a b;have g:Y3 _:=@abY a b;generalize a*b / 18446744073709551616=hi at*;generalize a*b % 18446744073709551616=lo at*;generalize bV a b=t at*;clear ha hb;go_enter Tryz.func198,Tryz.ntmps198;go_wp2_with fail;refine d.mono ?_;clear d;rintro e i ⟨rfl,rfl⟩;by_cases h:0<hi
 .go_wp2;go_ret;exact⟨Qe (by rw[f.o h];rfl),rfl⟩
 .go_wp2;go_ret;exact⟨Qe (by rw[g.o h]),rfl⟩
theorem aix(ao:Option Addr)(cap:Nat)(xs:List Nat)(w:U)(hx:fH w ao xs)(hs:∀x∈xs,x<=bJ) :
  Ce 199 #[Z ao (N xs) cap] w (I Vo (kP xs:Nat)):=by
 have y:=hx.1;have n:Y3 _:=hx;have p:Y3 _:=hs;have q:Y3 (kP (xs.take (N xs))=kP xs):=by show _=_;rw[QX]
 clear hx hs;go_enter Tryz.func199,Tryz.ntmps199;go_wp2;go_loopw [3,8] (λv j wr=>∃k:Nat,k<=N xs/\j=I J k/\(∃s:Nat,v=I Vo (s:Int)/\Y3 (s=kP (xs.take k)))/\wr=w) (λ_ j _=>N xs-(intOf j).toNat)
 case atStart=>exact⟨0,QW _,rfl,⟨0,rfl,rfl⟩,rfl⟩
 case round=>
  obtain⟨k,z,rfl,⟨s,rfl,hs⟩,rfl⟩:=hrel;by_cases a:k<N xs
  .obtain⟨b,off,rfl,m⟩:=fH.get n.o a;have r:=m k a;have l:=p.o _ (Xl a (d:=0));have f:Y3 _:=@abW xs k a;have g:Y3 _:=@VP xs k a;have t:s<=18446744073709551615:=by rw[hs.o];exact BZ _
   rw[<-hs.o]at f g;have u:E xs k 0<=18446744073709551615:=l;clear m l;generalize E xs k 0=x at*;by_cases e:18446744073709551615-s<x
   .have i:Y3 (kP xs=18446744073709551615):=f.o e;clear f g hs;go_wp2;go_ret;exact⟨Qe (by rw[i.o];rfl),rfl⟩
   .have i:Y3 _:=g.o e;clear f g hs;go_wp2;go_roundw
    case rel=>grind
    case measure=>simp[intOf];omega
  .obtain rfl:k=N xs:=by omega
   have i:Y3 (s=kP xs):=hs.o.trans q.o;clear hs;go_wp2;go_ret;exact⟨Qe (by rw[i.o]),rfl⟩
def Hy(w:U)(xs:List Nat)(hl:N xs<=1000)(hs:∀x∈xs,x<=bJ) :
  Calls V 199 #[Z (O (aD (M (H w)) 0)) (N xs) (N xs)] (w.alloc (EP (xs.map λ(x:Nat)=>Value.int Vo (x:Int)).toArray 37)) λe a=>e=FN (I Vo (kP xs:Nat))/\a = w.alloc (EP (xs.map λ(x:Nat)=>Value.int Vo (x:Int)).toArray 37):=
 aix _ _ xs _ (VQ w xs _ hl) hs
theorem al2(w:U)(a b:Nat)(ha:a<=bJ)(hb:b<=bJ) :
  Calls V 199 #[Z (O (aD (M (H w)) 0)) 2 2] (w.alloc (EP #[I Vo (a:Int),I Vo (b:Int)] 37)) λe d=>e=FN (I Vo (kP [a,b]:Nat))/\Bw w d:=
 (Hy w [a,b] (by simp) (λx f=>by grind)).mono λ_ _ ⟨h1,h2⟩=>⟨h1,by rw[h2];exact dN _ _⟩
theorem al3(w:U)(a b c:Nat)(ha:a<=bJ)(hb:b<=bJ)(hc:c<=bJ) :
  Calls V 199 #[Z (O (aD (M (H w)) 0)) 3 3] (w.alloc (EP #[I Vo (a:Int),I Vo (b:Int),I Vo (c:Int)] 37)) λe d=>e=FN (I Vo (kP [a,b,c]:Nat))/\Bw w d:=
 (Hy w [a,b,c] (by simp) (λx f=>by grind)).mono λ_ _ ⟨h1,h2⟩=>⟨h1,by rw[h2];exact dN _ _⟩
theorem awT(w:U)(a b c d:Nat)(ha:a<=bJ)(hb:b<=bJ)(hc:c<=bJ)(hd:d<=bJ) :
  Calls V 199 #[Z (O (aD (M (H w)) 0)) 4 4] (w.alloc (EP #[I Vo (a:Int),I Vo (b:Int),I Vo (c:Int),I Vo (d:Int)] 37)) λe f=>e=FN (I Vo (kP [a,b,c,d]:Nat))/\Bw w f:=
 (Hy w [a,b,c,d] (by simp) (λx g=>by grind)).mono λ_ _ ⟨h1,h2⟩=>⟨h1,by rw[h2];exact dN _ _⟩
def NR(k:Int)(l r s:Nat)(w:U)(hl:l<=bJ)(hr:r<=bJ)(hs:s<=bJ) :
  Cb 200 #[I J k,I Vo (l:Int),I Vo (r:Int),I Vo (s:Int)] w (I Vo (wU k l r s:Nat)):=by
 by_cases f:k=4
 .subst f;have h:=awT w l r r s hl hr hr hs;have a:wU 4 l r s=kP [l,r,r,s]:=rfl;rw[a];generalize kP [l,r,r,s]=x at*;clear hl hr hs a;go_enter Tryz.func200,Tryz.ntmps200;go_wp2_with fail;refine h.mono ?_;clear h;rintro e d ⟨rfl,b⟩;go_wp2;go_ret;exact⟨rfl,b⟩
 by_cases g:k=5
 .subst g;have h:=al3 w l r s hl hr hs;have a:wU 5 l r s=kP [l,r,s]:=rfl;rw[a];generalize kP [l,r,s]=x at*;clear hl hr hs a;go_enter Tryz.func200,Tryz.ntmps200;go_wp2_with fail;refine h.mono ?_;clear h;rintro e d ⟨rfl,b⟩;go_wp2;go_ret;exact⟨rfl,b⟩
 have h:=Ai l r w hl hr;have a:wU k l r s=bV l r:=by unfold wU;rw[ZU f,ZU g]
 rw[a];generalize bV l r=x at*;clear hl hr hs a;go_enter Tryz.func200,Tryz.ntmps200;go_wp2_with fail;refine h.mono ?_;clear h;rintro e d ⟨rfl,rfl⟩;go_wp2;go_ret;exact⟨rfl,Qm _ _⟩
def NT(l:Nat)(w:U)(hl:l<=bJ) :
  Ce 201 #[I Vo (l:Int)] w (I Vo (bV l (nJ l+1):Nat)):=by have a:=abZ l w hl;have d:nJ l<=64:=VO l (by unfold bJ at hl;omega);have b:=Ai l (nJ l+1) w hl (by unfold bJ;omega);generalize nJ l=n at*;generalize bV l (n+1)=x at*;clear hl;go_enter Tryz.func201,Tryz.ntmps201;go_wp2_with fail;refine a.mono ?_;clear a;rintro e f ⟨rfl,rfl⟩;go_wp2_with fail;refine b.mono ?_;clear b;rintro e g ⟨rfl,rfl⟩;go_wp2;go_ret;exact⟨rfl,rfl⟩
def Ca(hc:ji ts=T)(hi:i<N ts):mK (E ts i tz)=true:=by
 cases h:mK (E ts i tz) with
 |true=>rfl
 |false=>rw[<-aef hi h]at hc;cases hc
def Cc{src:List Int}(hc:ji ts=T)(ha:aS src (N ts)=T){c:Int}(h0:0<=c)(hl:c<ak ts src):1<=mM ts src c/\mM ts src c<=1000000:=by
 obtain⟨d,j,k,e⟩:=ZQ hc ha h0 hl;have f:=lC ts src (aC ts src c) d;have g:=oL hc ha (aC ts src c) (by omega);have i:=Ql ha d;have a:E src (aC ts src c) 0=src[aC ts src c]:=by simp[List.getD,d]
 rw[a]at e;have b:mK (E ts (src[aC ts src c]).toNat tz)=true:=Ca hc (by omega);unfold mK at b;rw[ZW]at b;rw[e];exact b.2.2.2.2 _ (by omega)
theorem aeU(h:w.ownsRow base e 1 v n (xs.map (Value.int J)))(hl:N xs<=1152921504606846976):∃d cap,v=Z d (N xs) cap/\IntsAt w d xs:=by
 have f:N xs=n:=by have:=h.1;simpa using this
 rcases h.2 with⟨rfl,h0⟩|⟨g,cap,cur,rfl,_,hh,_,_,_,ht⟩
 .have:xs=[]:=Qs (by omega);subst this;exact⟨xn,0,rfl,⟨by simp,λi b=>absurd b (by simp)⟩⟩
 .refine⟨O (aD g 0),cap,by rw[<-f],⟨hl,λi b=>⟨g,0,rfl,?_⟩⟩⟩;have a:(cur.toList.take (n*1))[i]? = O (I J (E xs i 0)):=by grind
  rw[List.getElem?_take_of_lt (by omega)]at a;rw[ZK];simp only[World.cell?,hh];simpa using a
def Kh{cs:List aI}(hk:k<N cs):aN (cs.take (k+1))=aN (cs.take k)++aH (E cs k cz):=by
 have e:E cs k cz=cs[k]:=by simp[List.getD,hk]
 rw[Qh hk,e];unfold aN;rw[ZN];simp
def NW(c:aI):N (aH c)<=2:=by unfold aH;split <;> simp
def ab1{w w':U}{base:Nat}{e:TypeId}{sz:Nat}{v:X3}{n:Nat}{xs:List X3}(h:w.ownsRow base e sz v n xs)(hb:Bw w w'):w'.ownsRow base e sz v n xs:=BD h (Qn _) (λj _ a=>hb.block j a)
def XU:=@ab1
theorem IntsAt.take{ao:Option Addr}(h:IntsAt w ao xs)(k:Nat):IntsAt w ao (xs.take k):=by refine⟨by have:=h.1;rw[Xu];omega,λi a=>?_⟩;rw[Xu]at a;obtain⟨b,off,e,d⟩:=h.2 i (by omega);grind
theorem RF{l:List Int}{k:Nat}(hk:k<N l)(h:E l k 0≠k):pJ l=false:=by unfold pJ;grind
theorem RG{l:List Int}(h:∀i,i<N l->E l i 0=i):pJ l=true:=by unfold pJ;grind
theorem ab2(ao:Option Addr)(cap:Nat)(xs:List Int)(v:Int)(w:U)(hx:IntsAt w ao xs) :
  Calls V 187 #[Z ao (N xs) cap,I J v] w λe t=>∃r:Int,e=FN (I J r)/\Y3 (0<=r↔v∈xs)/\t = w:=by
 have u:=hx.1;go_enter Tryz.func187,Tryz.ntmps187;go_wp2;go_loop [8] (λi=>∃k:Nat,k<=N xs/\i=I J k/\v ∉ xs.take k) (λi=>N xs-(intOf i).toNat)
 case atStart=>grind
 case round=>
  obtain⟨k,y,rfl,d⟩:=hrel;by_cases a:k<N xs
  .obtain⟨b,off,rfl,p⟩:=hx.get a;have q:=p k a;have m:=Zh (zJ (v:=v) a);have g:Y3 _:=d;have n:Y3 (E xs k 0∈xs):=by grind
   clear p hx d;obtain⟨x,f⟩:=eY (E xs k 0);rw[<-f]at q m n;clear f;by_cases l:v=x
   .have j:(v==x)=true:=by simp[l]
    go_wp2;go_ret;exact⟨k,rfl,⟨λ_=>n.o,λ_=>by omega⟩,rfl⟩
   .have j:(v==x)=false:=by simp[l]
    go_wp2;go_round
    case rel=>exact⟨k+1,by omega,by go_num,λe=>by
     rcases m.o.1 e with e|e
     .exact g.o e
     .exact l e.symm⟩
    case measure=>simp[intOf];omega
  .have e:k=N xs:=by omega
   rw[e,QX]at d;have g:Y3 _:=d;clear d;go_wp2;go_ret;exact⟨-1,rfl,⟨λh=>absurd h (by omega),λh=>absurd h g.o⟩,rfl⟩
def Cf(ao:Option Addr)(cap:Nat)(xs:List Int)(v:Int)(w:U)(hx:IntsAt w ao xs) :
  Ce 129 #[Z ao (N xs) cap,I J v] w (Wl (decide (v∈xs))):=by have h:=ab2 ao cap xs v w hx;clear hx;go_enter Tryz.func129,Tryz.ntmps129;go_wp2_with fail;refine h.mono ?_;clear h;rintro e b ⟨r,rfl,a,rfl⟩;go_wp2;go_ret;exact⟨Qd (by rw[ZV,ZW,ZW];exact a.o),rfl⟩
def D8(ao bo:Option Addr)(cap cap':Nat)(xs ys:List Int)(w:U)(hx:IntsAt w ao xs)(hy:IntsAt w bo ys) :
  Cb 148 #[Z ao (N xs) cap,Z bo (N ys) cap'] w (Wl (decide (xs=ys))):=by
 have A:=hy.1;by_cases a:N xs=N ys
 .have p:=Zh a;have q:((N xs:Int) != (N ys:Int))=false:=by rw[a];simp
  have B:N xs<=N ys:=by omega
  clear a;go_enter Tryz.func148,Tryz.ntmps148;go_wp2;go_loopw [13] (λi wr=>∃k:Nat,k<=N xs/\i=I J k/\Y3 (xs.take k=ys.take k)/\∃n,wr=w.drewN n) (λi _=>N xs-(intOf i).toNat)
  case atStart=>exact⟨0,QW _,rfl,rfl,0,rfl⟩
  case round=>
   obtain⟨k,K,rfl,t,n,rfl⟩:=hrel;by_cases j:k<N xs
   .have d:k<N ys:=by omega
    obtain⟨b,off,rfl,u⟩:=hx.get j;obtain⟨b',Pf,rfl,l⟩:=hy.get d;have C:=u k j;have D:=l k d;clear u l hx hy;obtain⟨x,f⟩:=eY (E xs k 0);obtain⟨y,g⟩:=eY (E ys k 0);rw[<-f]at C;rw[<-g]at D;obtain⟨v,z⟩:=aJ f g;clear f g;by_cases m:x=y
    .have r:(x != y)=false:=by simp[m]
     go_wp2;go_quiet (fail);go_wp2;go_roundw
     case rel=>exact⟨k+1,by omega,by go_num,NV j d t.o (by rw[<-v.o,<-z.o];exact m),_,rfl⟩
     case measure=>simp[intOf];omega
    .have r:(x != y)=true:=by simp[m]
     go_wp2;go_quiet (fail);go_wp2;go_ret;exact⟨Qd (Qw (λe=>m (by rw[v.o,z.o,e]))).symm,Zr (Zr (Qm _ _) _) _⟩
   .have G:Y3 (k=N xs):=by show _=_;omega
    go_wp2;go_ret;exact⟨Qd (by refine(Qx ?_).symm;have:=t.o;rw[G.o,QX,p.o,QX]at this;exact this),Zr (Qm _ _) _⟩
 .have q:((N xs:Int) != (N ys:Int))=true:=by rw[bne_iff_ne];omega
  have p:Y3 _:=a;clear a;go_enter Tryz.func148,Tryz.ntmps148;go_wp2;go_ret;exact⟨Qd (Qw (λe=>p.o (by rw[e]))).symm,Qm _ _⟩
theorem lI(ao bo:Option Addr)(cap cap':Nat)(xs ys:List Int)(w:U)(hx:IntsAt w ao xs)(hy:IntsAt w bo ys)(hcap:N xs<=cap) :
  Cb 164 #[Z ao (N xs) cap,Z bo (N ys) cap'] w (Wl (aQ xs ys)):=by
 have f:=hy.1;by_cases a:N ys<=N xs
 .have b:Y3 (aQ xs ys=decide (xs.take (N ys)=ys)):=by show _=_;unfold aQ;rw[Qx a,Z8]
  have d:=D8 ao bo cap cap' (xs.take (N ys)) ys w (hx.take _) hy;rw[Xu,Qr a]at d;generalize aQ xs ys=S at*;generalize decide (xs.take (N ys)=ys)=B at*;clear hx hy;go_enter Tryz.func164,Tryz.ntmps164;go_wp2_with fail;refine d.mono ?_;clear d;rintro e i ⟨rfl,g⟩;go_wp2;go_ret;exact⟨Qd b.o.symm,g⟩
 .have b:Y3 (aQ xs ys=F):=by show _=_;unfold aQ;grind
  generalize aQ xs ys=S at*;clear hx hy;go_enter Tryz.func164,Tryz.ntmps164;go_wp2;go_ret;exact⟨Qd b.o.symm,Qm _ _⟩
def NY(ao:Option Addr)(cap:Nat)(xs:List Int)(w:U)(hx:IntsAt w ao xs) :
  Ce 168 #[Z ao (N xs) cap] w (Wl (pJ xs)):=by
 have v:=hx.1;have q:Y3 _:=@RF xs;have r:Y3 _:=@RG xs;generalize pJ xs=C at*;go_enter Tryz.func168,Tryz.ntmps168;go_wp2;go_loop [7] (λi=>∃k:Nat,k<=N xs/\i=I J k/\Y3 (∀j,j<k->E xs j 0=j)) (λi=>N xs-(intOf i).toNat)
 case atStart=>exact⟨0,QW _,rfl,λj p=>absurd p (by omega)⟩
 case round=>
  obtain⟨k,y,rfl,m⟩:=hrel;by_cases d:k<N xs
  .obtain⟨b,off,rfl,n⟩:=hx.get d;have t:=n k d;clear n hx;have e:=Zh (q.o d);obtain⟨x,a⟩:=eY (E xs k 0)
   rw[<-a]at t e;have u:=Zh a;clear a;by_cases g:x=(k:Int)
   .have l:(x != (k:Int))=false:=by simp[g]
    have f:=Zh g;clear g;go_wp2;go_round
    case rel=>exact⟨k+1,by omega,by go_num,λj p=>by
     rcases XV j k with h|h
     .exact m.o j h
     .obtain rfl:j=k:=by omega
      rw[<-u.o];exact f.o⟩
    case measure=>simp[intOf];omega
   .have l:(x != (k:Int))=true:=by simp[g]
    have f:=Zh (e.o g);go_wp2;go_ret;exact⟨Qd f.o.symm,rfl⟩
  .have f:=Zh (r.o (λi z=>m.o i (by omega)));go_wp2;go_ret;exact⟨Qd f.o.symm,rfl⟩
def ab3(q:af){k:Nat}(hk:k<N q.ord.xs):(q.ord.xs.take (k+1)).map (λp=>E q.bE.xs p.toNat 0)=(q.ord.xs.take k).map (λp=>E q.bE.xs p.toNat 0)++[E q.bE.xs (E q.ord.xs k 0).toNat 0]:=by
 have e:E q.ord.xs k 0=q.ord.xs[k]:=by simp[List.getD,hk]
 rw[Qh hk,Qi,e];rfl
def nM{xs:List X3}(h:w.ownsRow base e size v n xs)(hb:base'<=base):w.ownsRow base' e size v n xs:=BD h hb (λ_ _ _=>rfl)
def Cg{n:Int}(h:aS xs n=T)(hk:k<N xs):0<=E xs k 0/\E xs k 0<n:=by unfold aS at h;rw[Qk]at h;have:=h _ (Xl hk (d:=0));simpa using this
theorem rX(q:af)(w:U)(hq:q.At w)(hos:aS q.ord.xs (N q.bE.xs)=T)(hol:N q.ord.xs<=1000) :
  Calls V 145 #[.agg q.cells] w λe w'=>∃v,e=FN v/\w'.ownsRow (M (H w)) 3 1 v (N (iH q)) ((iH q).map (Value.int J))/\Bw w w':=by
 obtain⟨m,d⟩:∃x,x=w.alloc (EP q.cells 26):=⟨_,rfl⟩;have g:Bw w m:=by rw[d];exact dN _ _
 have A:GB m (M (H w)) 26 q.cells:=by rw[d];exact pR _ _
 have q5:=A.at 5;have q6:=A.at 6;have EK:=d.symm;have B:Y3 (IntsAt w q.bE.ad q.bE.xs):=hq.bE;have C:Y3 (IntsAt w q.ord.ad q.ord.xs):=hq.ord;have D:=Zh hos;have j:Y3 (∀k,k<N q.ord.xs->_):=λk z=>@ab3 q k z;have l:Y3 (iH q=(q.ord.xs.take (N q.ord.xs)).map (λp=>E q.bE.xs p.toNat 0)):=by show _=_;rw[QX];rfl
 have ai:=hq.bE.1;have HL:Y3 (∀k,N ((q.ord.xs.take k).map (λp=>E q.bE.xs p.toNat 0))<=1000):=λk=>by grind
 clear d A hq hos;obtain⟨src,gI,bP,wh,group,r,t,⟨ea,ec,u⟩,⟨oa,oc,ord⟩⟩:=q;unfold af.cells ae.val at*;simp only at*;generalize iH ⟨src,gI,bP,wh,group,r,t,⟨ea,ec,u⟩,⟨oa,oc,ord⟩⟩=WN at*;obtain⟨W,y⟩:∃W:Nat->List Int,W=λk=>(ord.take k).map (λp=>E u p.toNat 0):=⟨_,rfl⟩;have G:Y3 (∀k,k<N ord->W (k+1)=W k++[E u (E ord k 0).toNat 0]):=λk z=>by rw[y];exact j.o k z
 have K:Y3 (WN=W (N ord)):=by show _=_;rw[y];exact l.o
 have P:Y3 (∀k,N (W k)<=1000):=λk=>by rw[y];exact HL.o k
 have Q:Y3 (W 0=[]):=by show _=_;rw[y];rfl
 clear y j l HL;go_enter Tryz.func145,Tryz.ntmps145;go_wp2;go_loopw [3,9] (λv iv wr=>∃k:Nat,k<=N ord/\iv=I J k/\Y3 (wr.ownsRow (M (H m)) 3 1 v (N (W k)) ((W k).map (Value.int J)))/\Bw m wr) (λ_ iv _=>N ord-(intOf iv).toNat)
 case atStart=>exact⟨0,QW _,rfl,by rw[Q.o];exact Zk _ _ _ _,Qm _ _⟩
 case round=>
  obtain⟨k,z,rfl,i,a⟩:=hrel;have aj:=cB a q5;by_cases f:k<N ord
  .have k1:=az g a;obtain⟨ob,oo,rfl,X⟩:=Qg C.o f;have ak:=cB k1 (X k f);have R:=Cg D.o f;have HT:=Zh (G.o k f);have ah:=P.o k;generalize E ord k 0=p at*;obtain⟨n,rfl⟩:=XT R.1;have hn:n<N u:=by omega
   obtain⟨eb,eo,rfl,aa⟩:=Qg B.o hn;have au:=cB k1 (aa n hn);rw[Xk]at HT;generalize E u n 0=x at*;generalize av:W k=L at*;obtain⟨ra,rm,rc,rfl⟩:=Zc i.o;obtain⟨v',w5,oU,yK,ag,⟨ua,um,uc,rfl⟩,-⟩:=GX wr (M (H m)) (Z ra rm rc) L i.o (by omega) a.size x 22;have S:=a.trans (ag.below a.size (λb hb e=>by have:=(Zb i.o e).1;omega));rw[<-HT.o]at yK;have Fy:Y3 _:=yK;have jG:=Zh S;go_wp2_with (first|(at_builtin;refine Xm rfl (.tmp 13) (.tmp 19) 22 rfl (Z ra rm rc) (Z (O (aD (M (H wr)) 0)) 1 1) (Z ua um uc) w5 rfl rfl oU ?_));go_wp2;go_roundw
   case rel=>exact⟨k+1,by omega,by go_num,Fy.o,jG.o⟩
   case measure=>simp[intOf];omega
  .obtain rfl:k=N ord:=by omega
   rw[<-K.o]at i;obtain⟨HF,HB⟩:=aJ (nM i.o g.size) (az g a);clear i a;go_wp2;go_ret;exact⟨_,rfl,HF.o,HB.o⟩
structure awX(q:af)(kind:Int):Prop where
 places:kind=9->aS q.ord.xs (N q.bE.xs)=T
 few:N q.ord.xs<=1000
theorem Ch(q:af)(kind:Int)(oa:Option Addr)(oc:Nat)(order:List Int)(w:U)(hq:q.At w)(hk:awX q kind)(ho:IntsAt w oa order)(hcap:N order<=oc) :
  Cb 113 #[.agg q.cells,I J kind,Z oa (N order) oc] w (Wl (jC q kind order)):=by
 obtain⟨t,g⟩:∃x,x=w.alloc (EP q.cells 26):=⟨_,rfl⟩;have a:Bw w t:=by rw[g];exact dN _ _
 have Q:GB t (M (H w)) 26 q.cells:=by rw[g];exact pR _ _
 obtain⟨q0,q1,q2,q3,q4,q5,q6⟩:=Q.k7;have EK:=g.symm;have W:=hq.ord.1;have X:=hq.keys.1;have A:Y3 (kind=9->_):=λe=>rX q t (hq.below a) (hk.places e) hk.few;have B:Y3 (∀P bc ys x,Bw t x->IntsAt x P ys->_):=λP bc ys x hb hy=>lI oa P oc bc order ys x (Qo (az a hb) ho) hy hcap;have f:Y3 _:=NY q.ord.ad q.ord.cap q.ord.xs t (Qo a hq.ord);obtain⟨n,i⟩:=eY (jC q kind order);rw[<-i];have C:Y3 (N (iH q)<=1000):=by show _<=_;unfold iH;rw[Zm];exact hk.few
 unfold jC at i;have b:=Zh i;clear i;generalize iH q=WN at*;generalize pJ q.ord.xs=CB at*;have m:=Zh a;clear g Q hq hk ho a;obtain⟨⟨sa,sc,src⟩,gI,bP,wh,group,⟨ka,kc,u⟩,⟨ua,uc,R⟩,⟨ea,ec,bE⟩,⟨da,dc,ord⟩⟩:=q;unfold af.cells ae.val at*;simp only at*;by_cases z:N ord=0
 .have d:Y3 (n=T):=by show _=_;rw[b.o,Zt z]
  have zi:((N ord:Int)==0)=true:=by rw[z];rfl
  clear b f A B z;go_enter Tryz.func113,Tryz.ntmps113;go_wp2;go_ret;exact⟨Qd d.o.symm,m.o⟩
 rw[ZU z]at b;have zi:((N ord:Int)==0)=false:=by rw[XW];omega
 clear z;by_cases l:kind=10
 .have d:Y3 (n=T):=by show _=_;rw[b.o,Zt l]
  subst l;clear b f A B;go_enter Tryz.func113,Tryz.ntmps113;go_wp2;go_ret;exact⟨Qd d.o.symm,m.o⟩
 rw[ZU l]at b;by_cases k9:kind=9
 .have d:Y3 (n=aQ order WN):=by show _=_;rw[b.o,Zt k9]
  have p:=A.o k9;subst k9;clear b f A;go_enter Tryz.func113,Tryz.ntmps113;go_wp2_with fail;refine p.mono ?_;clear p;rintro e S ⟨v,rfl,j,k⟩;obtain⟨ya,yc,rfl,y⟩:=aeU j (by have:=C.o;omega);have r:=B.o ya yc WN S k y;rw[<-d.o]at r;have D:=Zh (az m.o k);clear B j y k;go_wp2_with fail;refine r.mono ?_;rintro e w3 ⟨rfl,L⟩;have G:=Zh (az D.o L);go_wp2;go_ret;exact⟨rfl,G.o⟩
 rw[ZU k9]at b;by_cases k8:kind=8
 .rw[Zt k8]at b;subst k8;by_cases aa:N ord<=N u
  .have d:Y3 (n=CB):=by grind
   have K:=f.o;go_enter Tryz.func113,Tryz.ntmps113;go_wp2_with fail;refine XX K ?_;rintro e S ⟨rfl,rfl⟩;go_wp2;go_ret;exact⟨Qd d.o.symm,m.o⟩
  .have d:Y3 (n=F):=by grind
   go_enter Tryz.func113,Tryz.ntmps113;go_wp2;go_ret;exact⟨Qd d.o.symm,m.o⟩
 .have d:Y3 (n=F):=by show _=_;rw[b.o,ZU k8]
  go_enter Tryz.func113,Tryz.ntmps113;go_wp2;go_ret;exact⟨Qd d.o.symm,m.o⟩
