import Derived.Test.YtnjbikdhpnopjaaGreatDoorA09
set_option linter.all false
set_option maxRecDepth 100000
set_option maxHeartbeats 0
namespace Go.Proofs.Zz
open Go.RowKit Go.Shelf
open List renaming length->N,getD->E
open Go.Value renaming slice->Z,int->I,pointer->Y,agg->FL
open Go.Proofs.Tryz renaming prog->V
open Option renaming some->O,none->xn
open Go.IntKind renaming i64->J,u64->Vo
open Bool renaming false->F,true->T
open Go renaming World->U
open Go.World renaming heap->H,cell?->UK
open _root_.Array renaming size->M
open Go.RowKit renaming Hid->Y3
open Go.Obj renaming cells->EP
open Go.Ending renaming returned->FN
variable {α:Type} {n:ai} {S a b c i j k s:Nat} {ns:List ai} {ts:List ah} {q:af} {ps:List bN} {t:dH} {key:Int} {Fq:Nat->Prop} {W0 w w':U} {f:aF} {v:Value} {Tq:TypeId}
theorem nu(a b:List α)(d:α)(i:Nat):E (a++b) i d=if i<N a then E a i d else E b (i-N a) d:=by grind
structure fD(n:ai)(i:Nat):Prop where
 lo:1<=n.kind
 hi:n.kind<=10
 more:sO n=T
 l:1<=arity n.kind->0<=n.l/\n.l<i
 r:2<=arity n.kind->0<=n.r/\n.r<i
def Yz(n:ai)(i:Nat):fQ n i=T↔fD n i:=by
 unfold fQ;simp only[Qj,Z5,ZW];constructor
 .rintro⟨⟨⟨⟨a,b⟩,d⟩,e⟩,f⟩;exact⟨a,b,d,λh=>by omega,λh=>by omega⟩
 .intro h;refine⟨⟨⟨⟨h.lo,h.hi⟩,h.more⟩,?_⟩,?_⟩
  .by_cases a:1<=arity n.kind
   .exact .inr (h.l a)
   omega
  .by_cases a:2<=arity n.kind
   .exact .inr (h.r a)
   omega
theorem A9(k:Int):arity k<=2:=by grind [arity]
def Df(h:fD n i)(hk:i+k<=1000):fD (bU k n) (i+k)/\(1<=arity n.kind->(bU k n).l=n.l+k)/\(2<=arity n.kind->(bU k n).r=n.r+k):=by
 have d:1<=arity n.kind->(bU k n).l=n.l+k:=λa=>by have:=h.l a;show (if 1<=arity n.kind then wrap64 (n.l+k) else n.l)=_;rw[Zt a];unfold wrap64;omega
 have e:2<=arity n.kind->(bU k n).r=n.r+k:=λa=>by have:=h.r a;show (if 2<=arity n.kind then wrap64 (n.r+k) else n.r)=_;rw[Zt a];unfold wrap64;omega
 refine⟨⟨h.lo,h.hi,?_,λa=>?_,λa=>?_⟩,d,e⟩
 .have b:=h.more;unfold sO at b ⊢;rw[ZW]at b ⊢;obtain⟨g,j,f⟩:=b;refine⟨?_,?_,f⟩
  .by_cases a:1<=arity n.kind
   .exact .inl a
   .right
    show (if 1<=arity n.kind then wrap64 (n.l+k) else n.l)=0;omega
  .by_cases a:2<=arity n.kind
   .exact .inl a
   .right
    show (if 2<=arity n.kind then wrap64 (n.r+k) else n.r)=0;omega
 .have:=h.l a;rw[d a];omega
 .have:=h.r a;rw[e a];omega
def ins(n:ai):List Nat:=if arity n.kind=0 then [] else if arity n.kind=1 then [n.l.toNat] else [n.l.toNat,n.r.toNat]
def nY(ns:List ai)(k:Nat):Nat:=(ns.map λn=>(ins n).count k).sum
theorem agV(h:fD (E ns i nz) i):wQ ns i=ins (E ns i nz):=by
 unfold wQ ins;simp only[];have a:=A9 (E ns i nz).kind;split
 .rfl
 .split
  .rw[Zt (h.l (by omega))]
  .have b:=h.l (by omega);have d:=h.r (by omega)
   simp_all
theorem YA(ns:List ai)(f:ai->Nat):fF (N ns) (λi=>f (E ns i nz))=(ns.map f).sum:=by unfold fF;grind [List.ext_getElem,List.length_map]
theorem agW(h:∀i,i<N ns->fD (E ns i nz) i)(k:Nat):fF (N ns) (λi=>(wQ ns i).count k)=nY ns k:=by grind [nY,YA,Bq,agV]
theorem Jt(a b:List ai)(k:Nat):nY (a++b) k=nY a k+nY b k:=by grind [nY]
theorem MI(h:∀n∈ns,k ∉ ins n):nY ns k=0:=by
 unfold nY
 induction ns with
 |nil=>rfl
 |cons n ns ih =>
  grind
theorem anQ(h:fD n i):∀k∈ins n,k<i:=by
 intro k a;unfold ins at a;split at a
 .cases a
 .split at a
  .have:=h.l (by omega)
   simp_all
  .have b:=A9 n.kind;have d:=h.l (by omega);have e:=h.r (by omega)
   grind
theorem Us(h:fD n i)(hk:i+k<=1000):ins (bU k n)=(ins n).map (· + k):=by
 obtain⟨_,a,b⟩:=Df h hk;unfold ins;show (if arity n.kind=0 then [] else if arity n.kind=1 then [(bU k n).l.toNat] else [(bU k n).l.toNat,(bU k n).r.toNat])=_;have d:=A9 n.kind;split
 .rfl
 .split
  .have:=h.l (by omega);rw[a (by omega)];simp;omega
  .have e:=h.l (by omega);have f:=h.r (by omega);rw[a (by omega),b (by omega)];simp;omega
theorem Ut(l:List Nat)(k j:Nat):(l.map (· + k)).count (j+k)=l.count j:=by
 induction l with
 |nil=>rfl
 |cons a l ih =>
  grind
theorem Er(h:∀i,i<N ns->fD (E ns i nz) i)(hk:N ns+k<=1000)(j:Nat):nY (ns.map (bU k)) (j+k)=nY ns j:=by unfold nY;rw[Z9];congr 1;apply Xw;intro n b;obtain⟨i,a,rfl⟩:=Qq b;have d:=h i a;grind [Us,Ut]
structure LQ(ts:List ah)(q:af)(ns:List ai)(ps:List bN):Prop where
 len:N ps=N ns
 st:∀i,i<N ns->fD (E ns i nz) i
 fit:∀i,i<N ns->(mf (E ns i nz).kind (fo (E ns i nz) ps) (eG (E ns i nz) ps)&&iG ts q (E ns i nz) (fo (E ns i nz) ps) (eG (E ns i nz) ps))=T
 part:∀i,i<N ns->E ps i pz=oH ts q (E ns i nz) (fo (E ns i nz) ps) (eG (E ns i nz) ps)
def LQ.nil(ts:List ah)(q:af):LQ ts q [] []:=⟨rfl,λi a=>absurd a (by simp),λi a=>absurd a (by simp),λi a=>absurd a (by simp)⟩
theorem yV(h:fD n i){a b:List bN}(e:∀j,j<i->E a j pz=E b j pz):fo n a=fo n b/\eG n a=eG n b:=by
 unfold fo eG;constructor
 .split
  .rename_i h1
   have:=h.l h1;simp_all
  .rfl
 .split
  .rename_i h1
   have:=h.r (by omega);simp_all
  .rfl
theorem LQ.app{ms:List ai}{qs:List bN}(h:LQ ts q ns ps)(g:LQ ts q ms qs)(hl:N ms+N ns<=1000):LQ ts q (ns++ms.map (bU (N ns))) (ps++qs):=by
 have key:∀i,i<N (ns++ms.map (bU (N ns)))->fD (E (ns++ms.map (bU (N ns))) i nz) i/\
   ((i<N ns/\E (ns++ms.map (bU (N ns))) i nz=E ns i nz/\fo (E ns i nz) (ps++qs)=fo (E ns i nz) ps/\eG (E ns i nz) (ps++qs)=eG (E ns i nz) ps)∨
    (∃j,j<N ms/\i=N ns+j/\E (ns++ms.map (bU (N ns))) i nz=bU (N ns) (E ms j nz)/\fo (bU (N ns) (E ms j nz)) (ps++qs)=fo (E ms j nz) qs/\eG (bU (N ns) (E ms j nz)) (ps++qs)=eG (E ms j nz) qs)):=by
  intro i a;rw[Zn,Zm]at a;by_cases f:i<N ns
  .have e:E (ns++ms.map (bU (N ns))) i nz=E ns i nz:=by simp_all
   have d:=h.st i f;grind [yV,LQ.len]
  .obtain⟨j,rfl⟩:∃j,i=N ns+j:=⟨i-N ns,by omega⟩
   have b:j<N ms:=by omega
   have e:E (ns++ms.map (bU (N ns))) (N ns+j) nz=bU (N ns) (E ms j nz):=by simp_all
   have d:=g.st j b;obtain⟨p,m,n⟩:=Df d (k:=N ns) (by omega);refine⟨by grind,.inr ⟨j,b,rfl,e,?_,?_⟩⟩
   .unfold fo
    show (if 1<=arity (E ms j nz).kind then _ else _)=_;split
    .rename_i h1
     have:=d.l h1;rw[m h1,nu,ZU (by rw[h.len];omega),h.len];grind
    .rfl
   .unfold eG
    show (if arity (E ms j nz).kind=2 then _ else _)=_;split
    .rename_i h1
     have:=d.r (by omega);rw[n (by omega),nu,ZU (by rw[h.len];omega),h.len];grind
    .rfl
 refine⟨by grind [LQ.len],λi a=>(key i a).1,λi a=>?_,λi a=>?_⟩
 .rcases (key i a).2 with⟨h1,e,e1,e2⟩|⟨j,b,rfl,e,e1,e2⟩
  .rw[e,e1,e2];exact h.fit i h1
  .rw[e,e1,e2];exact g.fit j b
 .rcases (key i a).2 with⟨h1,e,e1,e2⟩|⟨j,b,rfl,e,e1,e2⟩
  .rw[e,e1,e2,nu,Zt (by grind [LQ.len])];exact h.part i h1
  .rw[e,e1,e2,nu,ZU (by grind [LQ.len]),h.len,Nat.add_sub_cancel_left];exact g.part j b
theorem LQ.snoc(h:LQ ts q ns ps)(hs:fD n (N ns))(hf:(mf n.kind (fo n ps) (eG n ps)&&iG ts q n (fo n ps) (eG n ps))=T):LQ ts q (ns++[n]) (ps++[oH ts q n (fo n ps) (eG n ps)]):=by
 have a:∀{m:ai} {i:Nat},fD m i->i<=N ns->fo m (ps++[oH ts q n (fo n ps) (eG n ps)])=fo m ps/\eG m (ps++[oH ts q n (fo n ps) (eG n ps)])=eG m ps:=λd b=>yV d λj f=>by grind [LQ.len]
 have key:∀i,i<N (ns++[n])->(i<N ns/\E (ns++[n]) i nz=E ns i nz)∨(i=N ns/\E (ns++[n]) i nz=n):=λi b=>by grind
 refine⟨by grind [LQ.len],λi b=>?_,λi b=>?_,λi b=>?_⟩
 .grind [LQ.st]
 .rcases key i b with⟨h1,e⟩|⟨rfl,e⟩
  .rw[e,(a (h.st i h1) (by omega)).1,(a (h.st i h1) (by omega)).2];exact h.fit i h1
  grind
 .rcases key i b with⟨h1,e⟩|⟨rfl,e⟩
  .rw[e,(a (h.st i h1) (by omega)).1,(a (h.st i h1) (by omega)).2,nu,Zt (by grind [LQ.len])];exact h.part i h1
  .rw[e,(a hs (by omega)).1,(a hs (by omega)).2,nu,ZU (by grind [LQ.len]),h.len,Nat.sub_self];rfl
theorem LQ.parts{ts:List ah}{q:af}{ns:List ai}{ps:List bN}(h:LQ ts q ns ps):∀k,k<=N ns->fG ts q ns k=O (ps.take k)
 |0,_=>rfl
 |k+1,hk=>by
  show (fG ts q ns k).bind (pY ts q (E ns k nz))=_;rw[h.parts k (by omega)];show pY ts q (E ns k nz) (ps.take k)=_;have hl:=h.len;obtain⟨e1,e2⟩:=yV (h.st k (by omega)) (a:=ps.take k) (b:=ps) (λj hj=>by
   simp_all)
  unfold pY;rw[e1,e2,Zt (h.fit k (by omega)),<-h.part k (by omega),Qh (by omega)];grind
structure TF(ts:List ah)(q:af)(t:dH):Prop where
 ex:∃ps,LQ ts q t.ns ps/\E ps (N t.ns-1) pz=t.d
 pos:0<N t.ns
 once:∀k,k+1<N t.ns->nY t.ns k=1
structure Uu(n:ai):Prop where
 lo:1<=n.kind
 hi:n.kind<=10
 source:n.kind=1∨n.source=0
 key:n.kind=4∨n.kind=5∨n.key=0
 cl:n.kind=2∨3<=n.kind/\n.kind<=5∨N n.cl.xs=0
 co:n.kind=6∨N n.co.xs=0
def gF(n:ai)(l r:Int):ai:=⟨n.kind,l,r,n.source,⟨xn,0,n.cl.xs⟩,n.key,⟨xn,0,n.co.xs⟩⟩
def Ba(h:Uu n){l r:Int}(hl:(1<=arity n.kind->0<=l/\l<i)/\(¬1<=arity n.kind->l=0))(hr:(2<=arity n.kind->0<=r/\r<i)/\(¬2<=arity n.kind->r=0)):fD (gF n l r) i:=by
 refine⟨h.lo,h.hi,?_,hl.1,hr.1⟩;unfold sO;rw[ZW];refine⟨?_,?_,h.source,h.key,h.cl,h.co⟩
 .by_cases a:1<=arity n.kind
  .exact .inl a
  .exact .inr (hl.2 a)
 .by_cases a:2<=arity n.kind
  .exact .inl a
  .exact .inr (hr.2 a)
def Dg(h:∀i,i<N ns->fD (E ns i nz) i)(hk:N ns<=k+1):nY ns k=0:=by refine MI λn d e=>?_;obtain⟨i,b,rfl⟩:=Qq d;have a:=h i b;rw[Jh,ZB b]at a;have:=anQ (show fD ns[i] i from a) k e;omega
def Uv(n:ai)(k:Nat):nY [n] k=(ins n).count k:=by rfl
theorem agX(h:∀i,i<N ns->fD (E ns i nz) i)(hk:N ns+k<=1000)(hj:j<k):nY (ns.map (bU k)) j=0:=by refine MI λn d f=>?_;obtain⟨m,a,rfl⟩:=ZC.1 d;obtain⟨i,b,rfl⟩:=Qq a;have e:=h i b;grind [Us]
def Uw(a:List α)(x d:α){n:Nat}(h:n=N a):E (a++[x]) n d=x:=by simp_all
def TF.atc(hn:Uu n)(ha:arity n.kind=0)(hf:(mf n.kind pz pz&&iG ts q n pz pz)=T):TF ts q (aM ts q n []):=by
 have e:(aM ts q n []).ns=[]++[gF n 0 0]:=rfl;have d:fD (gF n 0 0) (N ([]:List ai)):=Ba hn ⟨λh=>by omega,λ_=>rfl⟩ ⟨λh=>by omega,λ_=>rfl⟩;have a:fo (gF n 0 0) []=pz:=by unfold fo;split <;> rfl
 have b:eG (gF n 0 0) []=pz:=by unfold eG;split <;> rfl
 have h:=(LQ.nil ts q).snoc d (by rw[a,b];exact hf);refine⟨⟨_,by rw[e];exact h,?_⟩,by rw[e];simp,λk f=>?_⟩
 .rw[a,b,e];rfl
 simp_all
def TF.aaN{a:dH}(hn:Uu n)(ha:arity n.kind=1)(h:TF ts q a)(hl:N a.ns<=900)(hf:(mf n.kind a.d pz&&iG ts q n a.d pz)=T):TF ts q (aM ts q n [a]):=by
 obtain⟨ps,f,hd⟩:=h.ex;have l:=(LQ.nil ts q).app f (by simp;omega);have v:=h.pos;have b:N ([]++a.ns.map (bU 0))=N a.ns:=by simp
 have e:(aM ts q n [a]).ns=([]++a.ns.map (bU 0))++[gF n ((N a.ns:Int)-1) 0]:=by show gW [a.ns]++[_]=_;unfold gW gF;show _++[(⟨n.kind,(N (gW [a.ns]):Int)-1,0,_,_,_,_⟩:ai)]=_;rw[show N (gW [a.ns])=N a.ns by simp[gW]];rfl
 have m:fD (gF n ((N a.ns:Int)-1) 0) (N ([]++a.ns.map (bU 0))):=by rw[b];exact Ba hn ⟨λ_=>by omega,λh=>by omega⟩ ⟨λh=>by omega,λ_=>rfl⟩
 have i:fo (gF n ((N a.ns:Int)-1) 0) ([]++ps)=a.d:=by unfold fo;show (if 1<=arity n.kind then _ else _)=_;rw[Zt (by omega),<-hd];show E ps ((N a.ns:Int)-1).toNat pz=_;simp_all
 have j:eG (gF n ((N a.ns:Int)-1) 0) ([]++ps)=pz:=by unfold eG;show (if arity n.kind=2 then _ else _)=_;simp_all
 have p:=l.snoc m (by rw[i,j];exact hf);refine⟨⟨_,by rw[e];exact p,?_⟩,by rw[e];simp,λk u=>?_⟩
 .rw[i,j,e];exact Uw _ _ _ (by rw[Zn,Xc,Nat.add_sub_cancel,b];simp[f.len])
 .rw[e,Zn,b,Xc]at u;rw[e,Jt,Uv,QU];have r:nY (a.ns.map (bU 0)) k=nY a.ns k:=Er (k:=0) f.st (by omega) k;have t:ins (gF n ((N a.ns:Int)-1) 0)=[N a.ns-1]:=by unfold ins;show (if arity n.kind=0 then [] else if arity n.kind=1 then [((N a.ns:Int)-1).toNat] else _)=_;simp_all
  rw[r,t,List.count_singleton];by_cases g:k+1<N a.ns
  .rw[h.once k g,ZU (by simp;omega)]
  .rw[Dg f.st (by omega),Zt (by simp;omega)]
def TF.alh{a b:dH}(hn:Uu n)(ha:arity n.kind=2)(h:TF ts q a)(g:TF ts q b)(hl:N a.ns+N b.ns<=900)(hf:(mf n.kind a.d b.d&&iG ts q n a.d b.d)=T):TF ts q (aM ts q n [a,b]):=by
 obtain⟨ps,p,hd⟩:=h.ex;obtain⟨t,r,Q⟩:=g.ex;have S:=h.pos;have W:=g.pos;have B:=(LQ.nil ts q).app p (by simp;omega);have u:N ([]++a.ns.map (bU (N ([]:List ai))))=N a.ns:=by simp
 have y:=B.app r (by simp;omega);obtain⟨L,i⟩:∃L,L=([]++a.ns.map (bU (N ([]:List ai))))++b.ns.map (bU (N ([]++a.ns.map (bU (N ([]:List ai)))))):=⟨_,rfl⟩;have f:N L=N a.ns+N b.ns:=by simp_all
 rw[<-i]at y;have e:(aM ts q n [a,b]).ns=L++[gF n ((N a.ns:Int)-1) (((N a.ns+N b.ns:Nat):Int)-1)]:=by
  show gW [a.ns,b.ns]++[(⟨n.kind,(N (gW [a.ns]):Int)-1,(N (gW [a.ns,b.ns]):Int)-1,_,_,_,_⟩:ai)]=_;have C:gW [a.ns,b.ns]=L:=by rw[i];rfl
  rw[C,f,show (N (gW [a.ns]))=N a.ns by simp[gW]];rfl
 have D:fD (gF n ((N a.ns:Int)-1) (((N a.ns+N b.ns:Nat):Int)-1)) (N L):=by rw[f];exact Ba hn ⟨λ_=>by omega,λh=>by omega⟩ ⟨λ_=>by omega,λh=>by omega⟩
 have m:N ([]++ps)=N a.ns:=by simp[p.len]
 have z:fo (gF n ((N a.ns:Int)-1) (((N a.ns+N b.ns:Nat):Int)-1)) (([]++ps)++t)=a.d:=by unfold fo;show (if 1<=arity n.kind then _ else _)=_;rw[Zt (by omega),<-hd];show E (([]++ps)++t) ((N a.ns:Int)-1).toNat pz=_;rw[nu,Zt (by omega)];simp_all
 have A:eG (gF n ((N a.ns:Int)-1) (((N a.ns+N b.ns:Nat):Int)-1)) (([]++ps)++t)=b.d:=by unfold eG;show (if arity n.kind=2 then _ else _)=_;rw[Zt ha,<-Q];show E (([]++ps)++t) (((N a.ns+N b.ns:Nat):Int)-1).toNat pz=_;rw[nu,ZU (by omega),m];congr 1;omega
 have G:=y.snoc D (by rw[z,A];exact hf);refine⟨⟨_,by rw[e];exact G,?_⟩,by rw[e];simp,λk R=>?_⟩
 .rw[z,A,e];exact Uw _ _ _ (by rw[Zn,Xc,Nat.add_sub_cancel,f,Zn,m,r.len])
 .rw[e,Zn,f,Xc]at R;have K:ins (gF n ((N a.ns:Int)-1) (((N a.ns+N b.ns:Nat):Int)-1))=[N a.ns-1,N a.ns+N b.ns-1]:=by
   unfold ins;show (if arity n.kind=0 then [] else if arity n.kind=1 then _ else [((N a.ns:Int)-1).toNat,(((N a.ns+N b.ns:Nat):Int)-1).toNat])=_;rw[ZU (by omega),ZU (by omega)];congr 1
   .omega
   .congr 1;omega
  have P:nY ([]++a.ns.map (bU (N ([]:List ai)))) k=nY a.ns k:=Er (k:=0) p.st (by omega) k;rw[e,Jt,Uv,i,Jt,P,K,List.count_cons,List.count_singleton,u];by_cases v:k<N a.ns
  .rw[agX r.st (by omega) v,ZU (by simp;omega)];by_cases l:k+1<N a.ns
   .rw[h.once k l,ZU (by simp;omega)]
   .rw[Dg p.st (by omega),Zt (by simp;omega)]
  .obtain⟨j,rfl⟩:∃j,k=j+N a.ns:=⟨k-N a.ns,by omega⟩
   rw[Dg p.st (by omega),Er r.st (by omega),ZU (show ¬(N a.ns-1==j+N a.ns)=T by simp;omega)];by_cases l:j+1<N b.ns
   .rw[g.once j l,ZU (by simp;omega)]
   .rw[Dg r.st (by omega),Zt (by simp;omega)]
theorem TF.look(h:TF ts q t)(hl:N t.ns<=64)(he:∀ps,LQ ts q t.ns ps->(dZ (E t.ns (N t.ns-1) nz).kind&&jC q (E t.ns (N t.ns-1) nz).kind (E ps (E t.ns (N t.ns-1) nz).l.toNat pz).order)=T):∃b,jD ts q t.ns=O b/\N b=N t.ns/\E b (N b-1) pz=t.d:=by
 obtain⟨ps,a,hd⟩:=h.ex;have g:=h.pos;have e:gQ t.ns=true:=by
  unfold gQ;simp only[Qj,ZW];refine⟨⟨⟨by omega,hl⟩,?_⟩,?_⟩
  .rw[Qk];intro i j;exact(Yz _ _).2 (a.st i (by simp_all))
  .unfold aab;rw[Qk];intro k m;rw[ZW,agW a.st];have f:k<N t.ns-1:=by simp_all
   exact h.once k (by omega)
 refine⟨ps,?_,a.len,by rw[a.len];exact hd⟩;unfold jD;rw[ZU (by simp_all),a.parts _ (Qn _),Xi (by rw[a.len];omega)];grind
structure QF(ts:List ah)(q:af):Prop where
 ok:Ok ts q
 one:1<=N q.src.xs
 five:N q.src.xs<=5
 eight:N q.wh<=8
 keys:∀c∈q.keys.xs,0<=c/\c<ak ts q.src.xs
 apart:dB q.keys.xs=T
 want:q.group=F->∀c∈iH q,0<=c/\c<ak ts q.src.xs
theorem Dh(conc:List Nat)(s:Nat):∀k i,(gy conc s k).testBit i=(decide (i<k)&&aZ s (E conc i 0))
 |0,i=>by simp[gy]
 |k+1,i=>by have ih:=Dh conc s k i;grind [gy.eq_def]
theorem tH(conc:List Nat)(s i:Nat):(bB conc s).testBit i=(decide (i<N conc)&&aZ s (E conc i 0)):=Dh conc s (N conc) i
theorem qp(ha:a<18446744073709551616)(hb:b<18446744073709551616):aZ a b=T↔∀i,b.testBit i=T->a.testBit i=true:=by grind [aZ,Gx]
def agY(hi:i<N q.wh):E (q.wh.map λc=>aO (eF ts q.src.xs c.cs)) i 0=aO (eF ts q.src.xs (E q.wh i lz).cs):=by simp_all
def Ux(h:QF ts q)(hi:i<N q.wh):aO (eF ts q.src.xs (E q.wh i lz).cs)<2 ^ (N q.src.xs):=uT (pI h.ok.cat h.ok.src (h.ok.cols i hi))
def tJ{n:Nat}(h:n<=5)(ha:a<2 ^ n):a<18446744073709551616:=QA ha (Qz (ZI (by omega) h) (by decide))
def Ju{n:Nat}(h:n<=8)(ha:a<2 ^ n):a<2 ^ 64:=QA ha (ZI (by omega) (by omega))
theorem Fg(hj:j<N (aT s)):E (ed s) j 0=(((aT s)[j]:Nat):Int):=by grind [ed]
theorem Fh(h:i∈aT s):s.testBit i=true:=(ZY.1 h).2
def OZ(s:Nat):(aT s).Pairwise (· < ·):=List.Pairwise.filter _ List.pairwise_lt_range
theorem agZ(h:∀i,c.testBit i=T->i<N q.wh/\aZ S (aO (eF ts q.src.xs (E q.wh i lz).cs))=T):kT ts q (ed c) S=true:=by
 unfold kT;rw[Qk];intro j k;have e:N (ed c)=N (aT c):=by grind [ed]
 have a:j<N (aT c):=by simp_all
 rw[Fg a];have b:=Zv a;obtain⟨g,d⟩:=h _ (Fh b);simp only[Qj,ZW,Xk];refine⟨⟨?_,by omega⟩,d⟩;split
 .omega
 .have f:=Z7.1 (OZ c) (j-1) j (by omega) a (by omega)
  grind [Fg]
theorem yX(h:s<2 ^ 64):aO (ed s)=s:=by
 apply ZJ;intro i;rw[ZG (λx d=>by grind [ed])];by_cases a:s.testBit i=T
 .rw[a,ZW];have b:i<64:=by
   by_cases b:i<64
   .exact b
   .rw[ZH (QA h (ZI (by omega) (by omega)))]at a
    cases a
  exact ZC.2 ⟨i,ZY.2 ⟨by simp[b],a⟩,rfl⟩
 grind [ed,Fh]
theorem ag0(h:s<2 ^ 64)(h0:s≠0):0<N (ed s):=by grind [aO,yX]
theorem YB{conc:List Nat}(hc:N conc<=8)(ha:a<2 ^ 5)(hb:b<2 ^ 5)(hx:∀i,i<N conc->E conc i 0<2 ^ 5):dF conc a b|||bB conc a|||bB conc b=bB conc (a|||b):=by
 apply ZJ;intro i;have hlt:∀s,bB conc s<2 ^ (N conc):=λs=>jL conc s (N conc);have h64:∀s,bB conc s<18446744073709551616:=λs=>QA (hlt s) (Qz (ZI (by omega) hc) (by decide));have hor:bB conc a|||bB conc b<18446744073709551616:=XQ (n:=64) (h64 a) (h64 b);by_cases hi:i<N conc
 .have hmono:∀s,s<2 ^ 5->(∀j,s.testBit j=T->(a|||b).testBit j=T)->(bB conc s).testBit i=T->(bB conc (a|||b)).testBit i=true:=by intro s hs hsub h1;rw[tH,Qj]at h1 ⊢;have hb1:s<18446744073709551616:=Nat.lt_trans hs (by decide);have hb2:a|||b<18446744073709551616:=Nat.lt_trans (XQ ha hb) (by decide);grind [qp]
  grind [dF,Gw]
 grind [tH,dF]
def pcN(s:Nat):Nat:=N (aT s)
def anR:∀a,a<32->∀b,b<32->a &&& b=0->pcN (a|||b)=pcN a+pcN b:=by unfold pcN aT;decide +kernel
def anS:∀s,s<32->pcN s<=5:=by unfold pcN aT;decide +kernel
def iO(ts:List ah)(q:af):List Nat:=q.wh.map λc=>aO (eF ts q.src.xs c.cs)
def pF(ts:List ah)(q:af):N (iO ts q)=N q.wh:=by unfold iO;simp
structure TS(ts:List ah)(q:af)(t:dH):Prop where
 tf:TF ts q t
 src:t.d.sources<2 ^ (N q.src.xs)
 cls:t.d.clauses=bB (iO ts q) t.d.sources
 out:dZ t.d.kind=F
def O0(ts:List ah)(q:af)(n:ai)(a:dH)(h1:n.kind≠1):(aM ts q n [a]).d.kind=n.kind/\(aM ts q n [a]).d.sources=a.d.sources/\(aM ts q n [a]).d.clauses=aO n.cl.xs|||a.d.clauses:=by
 refine⟨rfl,?_,?_⟩
 .show (if n.kind=1 then 2 ^ n.source.toNat else 0)|||a.d.sources|||0=_
  simp_all
 .show aO n.cl.xs|||a.d.clauses|||0=_
  simp_all
def aaO(ts:List ah)(q:af)(n:ai)(a b:dH)(h1:n.kind≠1):(aM ts q n [a,b]).d.kind=n.kind/\(aM ts q n [a,b]).d.sources=a.d.sources|||b.d.sources/\(aM ts q n [a,b]).d.clauses=aO n.cl.xs|||a.d.clauses|||b.d.clauses:=by refine⟨rfl,?_,rfl⟩;show (if n.kind=1 then 2 ^ n.source.toNat else 0)|||a.d.sources|||b.d.sources=_;simp_all
def uO{k:Int}{l r:bN}(hk:k≠10)(hl:dZ l.kind=F)(hr:dZ r.kind=F):mf k l r=true:=by unfold mf;simp_all
def Es:dZ pz.kind=false:=by decide
def Et(hi:i<N q.wh):E (iO ts q) i 0=aO (eF ts q.src.xs (E q.wh i lz).cs):=agY hi
def vK(ts:List ah)(q:af)(h:∀i,c.testBit i=T->(bB (iO ts q) S).testBit i=T):kT ts q (ed c) S=true:=by refine agZ λi b=>?_;have a:=h i b;rw[tH,Qj,ZW,pF]at a;rw[<-Et a.1];exact a
def adr(ts:List ah)(q:af)(h8:N q.wh<=8)(s:Nat):bB (iO ts q) s<2 ^ 64:=by have:=jL (iO ts q) s (N (iO ts q));rw[pF]at this;exact Ju h8 (by unfold bB;rw[pF];exact this)
def O1{s:Int}(h0:0<=s)(h1:s<N q.src.xs):TF ts q (aM ts q (kC s) []):=by refine TF.atc ⟨by show (1:Int)<=1;decide,by show (1:Int)<=10;decide,.inl rfl,.inr (.inr rfl),.inr (.inr rfl),.inr rfl⟩ (by rfl) ?_;rw[uO (by show (1:Int)≠10;decide) Es Es,Z8];show (if (1:Int)=1 then decide (0<=s)&&decide (s<N q.src.xs) else _)=T;simp_all
def aaP(h:TF ts q t)(hl:N t.ns<=900)(ho:dZ t.d.kind=F)(hc:c<2 ^ 64)(hn:c≠0)(hr:kT ts q (ed c) t.d.sources=T):TF ts q (aM ts q (IJ (ed c)) [t]):=by refine TF.aaN ⟨by show (1:Int)<=2;decide,by show (2:Int)<=10;decide,.inr rfl,.inr (.inr rfl),.inl rfl,.inr rfl⟩ (by rfl) h hl ?_;rw[uO (by show (2:Int)≠10;decide) ho Es,Z8];show (if (2:Int)=1 then _ else if (2:Int)=2 then decide (0<N (ed c))&&kT ts q (ed c) t.d.sources else _)=T;rw[ZU (by decide),Zt rfl,hr,Qx (ag0 hc hn)];rfl
theorem YC(hq:QF ts q){s:Int}(h0:0<=s)(h1:s<N q.src.xs):TS ts q (jr ts q (iO ts q) s)/\(jr ts q (iO ts q) s).d.sources=2 ^ s.toNat/\(jr ts q (iO ts q) s).ns.length<=2:=by
 have b:=O1 (ts:=ts) h0 h1;have a:=AJ ts q s;have m:(aM ts q (kC s) []).d.kind=1:=rfl;have n:(aM ts q (kC s) []).ns.length=1:=rfl;have f:(aM ts q (kC s) []).d.clauses=0:=by show aO []|||0|||0=0;rfl
 have g:2 ^ s.toNat<2 ^ (N q.src.xs):=XO (by omega) (by omega);unfold jr df;simp only[a];split
 .rename_i hz
  exact⟨⟨b,by omega,by simp_all,by rfl⟩,a,by omega⟩
 .rename_i hz
  have j:=adr ts q hq.eight (2 ^ s.toNat);have k:=aaP b (by omega) (by rfl) j hz (vK ts q (λi r=>by simp_all));obtain⟨p,e,l⟩:=O0 ts q (IJ (ed (bB (iO ts q) (2 ^ s.toNat)))) (aM ts q (kC s) []) (by show (2:Int)≠1;decide);refine⟨⟨k,by omega,?_,by rfl⟩,by rw[e,a],?_⟩
  .rw[e,l,a];rw[f]
   show aO (ed (bB (iO ts q) (2 ^ s.toNat)))|||0=_;grind [yX]
  .rw[Jf ts q _ (by simp)]
   show (aM ts q (kC s) []).ns.length+0+1<=2;omega
theorem aka(hq:QF ts q){a b:dH}(ha:TS ts q a)(hb:TS ts q b)(hap:a.d.sources &&& b.d.sources=0)(hl:N a.ns+N b.ns<=900){k:Int}(hn:n=qj k (ed (dF (iO ts q) a.d.sources b.d.sources)) key)(hk:(k=3/\key=0)∨(k=4/\(ll ts q n a.d.sources b.d.sources).2.2=T)∨(k=5/\(ll ts q n a.d.sources b.d.sources).2.2=T/\aQ a.d.order [(ll ts q n a.d.sources b.d.sources).1]=T/\aQ b.d.order [(ll ts q n a.d.sources b.d.sources).2.1]=T)) :
  TS ts q (aM ts q n [a,b])/\(aM ts q n [a,b]).d.sources=a.d.sources|||b.d.sources:=by
 have u:=hq.five;have v:=XQ ha.src hb.src;have j:∀x,x<2 ^ (N q.src.xs)->x<2 ^ 5:=λx C=>QA C (ZI (by omega) u);have l:dF (iO ts q) a.d.sources b.d.sources<2 ^ 64:=by have:=IU (iO ts q) a.d.sources b.d.sources;rw[pF]at this;exact Ju hq.eight this
 have e:n.cl.xs=ed (dF (iO ts q) a.d.sources b.d.sources):=by rw[hn];rfl
 have f:n.kind=k:=by rw[hn];rfl
 have y:n.key=key:=by rw[hn];rfl
 have m:n.source=0:=by rw[hn];rfl
 have p:N n.co.xs=0:=by rw[hn];rfl
 have D:3<=k/\k<=5:=by omega
 have z:pX ts q n a.d.sources b.d.sources=true:=by unfold pX;rw[Qx hap,Z8,e];refine vK ts q λi g=>?_;unfold dF at g;simp_all
 have r:=YB (conc:=iO ts q) (by rw[pF];exact hq.eight) (j _ ha.src) (j _ hb.src) (λi g=>by
  rw[pF]at g;rw[Et g];exact j _ (Ux hq g))
 obtain⟨A,t,B⟩:=aaO ts q n a b (by omega);refine⟨⟨TF.alh ⟨by omega,by omega,.inr m,?_,.inr (.inl (by omega)),.inr p⟩ ?_ ha.tf hb.tf hl ?_,by omega,?_,?_⟩,t⟩
 .omega
 .rw[f]
  grind [arity]
 .rw[uO (by omega) ha.out hb.out,Z8];unfold iG
  grind
 .rw[t,B,e,yX l,ha.cls,hb.cls];exact r
 .rw[A,f]
  grind [dZ]
def MJ{a:dH}(ha:TS ts q a)(hl:N a.ns<=900){o:List Int}(ho:qI ts q.src.xs o a.d.sources=T):TS ts q (fT ts q a o):=by
 obtain⟨f,b,e⟩:=O0 ts q (MB o) a (by show (6:Int)≠1;decide);refine⟨TF.aaN ⟨by show (1:Int)<=6;decide,by show (6:Int)<=10;decide,.inr rfl,.inr (.inr rfl),.inr (.inr rfl),.inl rfl⟩ (by rfl) ha.tf hl ?_,by show (aM ts q (MB o) [a]).d.sources<_;rw[b];exact ha.src,?_,?_⟩
 .rw[uO (by show (6:Int)≠10;decide) ha.out Es,Z8]
  show (if (6:Int)=1 then _ else if (6:Int)=2 then _ else if (6:Int)=3 then _ else if (6:Int)=4 then _ else if (6:Int)=5 then _ else if (6:Int)=6 then qI ts q.src.xs o a.d.sources else _)=T;simp_all
 .show (aM ts q (MB o) [a]).d.clauses=bB _ (aM ts q (MB o) [a]).d.sources
  rw[b,e];show 0|||a.d.clauses=_;rw[Nat.zero_or];exact ha.cls
 rfl
structure PF(ts:List ah)(q:af)(s:Nat)(t:dH):Prop where
 ts':TS ts q t
 src:t.d.sources=s
 len:N t.ns+2<=5*pcN s
def s32(hq:QF ts q)(h:s<2 ^ (N q.src.xs)):s<32:=QA h (ZI (by omega) hq.five)
def PF.small(hq:QF ts q)(h:PF ts q s t):N t.ns<=23:=by have a:=anS s (s32 hq (h.src ▸ h.ts'.src));have:=h.len;omega
def akb(hq:QF ts q)(hab:a &&& b=0){l r:dH}(hl:PF ts q a l)(hr:PF ts q b r){k:Int}(hk:(k=3/\key=0)∨(k=4/\(ll ts q (qj k (ed (dF (iO ts q) a b)) key) a b).2.2=T)∨(k=5/\(ll ts q (qj k (ed (dF (iO ts q) a b)) key) a b).2.2=T/\aQ l.d.order [(ll ts q (qj k (ed (dF (iO ts q) a b)) key) a b).1]=T/\aQ r.d.order [(ll ts q (qj k (ed (dF (iO ts q) a b)) key) a b).2.1]=T)) :
  PF ts q (a|||b) (aM ts q (qj k (ed (dF (iO ts q) a b)) key) [l,r])/\(aM ts q (qj k (ed (dF (iO ts q) a b)) key) [l,r]).ns.length+3<=5*pcN (a|||b):=by
 have i:=hl.small hq;have j:=hr.small hq;obtain⟨f,g⟩:=aka hq hl.ts' hr.ts' (by rw[hl.src,hr.src];exact hab) (by omega) (n:=qj k (ed (dF (iO ts q) a b)) key) (k:=k) (key:=key) (by rw[hl.src,hr.src]) (by rw[hl.src,hr.src];exact hk);have e:(aM ts q (qj k (ed (dF (iO ts q) a b)) key) [l,r]).ns.length+3<=5*pcN (a|||b):=by rw[Jf ts q _ (by simp),anR a (s32 hq (hl.src ▸ hl.ts'.src)) b (s32 hq (hr.src ▸ hr.ts'.src)) hab];show N l.ns+N r.ns+1+3<=_;have:=hl.len;have:=hr.len;omega
 exact⟨⟨f,by rw[g,hl.src,hr.src],by omega⟩,e⟩
theorem IK(a:Addr)(cap:Nat)(xs:List Int)(w:U)(hx:IntsAt w (O a) xs)(hl:N xs<=1000000) :
  Calls V 56 #[Z (O a) (N xs) cap] w λe b=>∃v,e=FN v/\b.ownsRow (M (H w)) 3 1 v (N xs) (xs.map (Value.int J))/\Bw w b:=by
 obtain⟨p,q,d,f,g⟩:=Zj Tryz.lK;obtain⟨D,b,r,t,y,⟨z,A,B,rfl⟩⟩:=rC (P:=V) w 22 22 3 p (.int J 0) 1 8 Tryz.underlying22 q d f g rfl (by decide) a (N xs) cap (xs.map (Value.int J)) (by simp)
  (λj u i=>by
   rw[ZA]at i;by_cases k:j<N xs
   .obtain⟨b',Pf,e,G⟩:=hx.2 j k
    grind
   .rw[XI (by omega)]at i;cases i) (λu C=>by obtain⟨x,_,rfl⟩:=ZC.1 C;rfl) hl (by decide)
 have m:Y3 _:=t;have n:=Zh y;have l:∀W,(binOp .eql 22 (.slice (O a) (N xs) cap) (.slice xn 0 0)).run V W=.ok (.bool F) W:=λW=>Je W 22 _ (O a) _ _ _ _ Tryz.underlying22;go_enter Tryz.func56,Tryz.ntmps56;go_wp2_with (first|(at_builtin;refine Xm rfl (.tmp 5) (.tmp 6) 22 rfl (.slice (O (aD (M (H w)) 0)) 0 0) (.slice (O a) (N xs) cap) (.slice z A B) b rfl rfl r ?_));go_wp2;go_ret;exact⟨_,rfl,m.o,n.o⟩
def IM(w:U):Ce 56 #[.slice xn 0 0] w (.slice xn 0 0):=by have a:∀W,(binOp .eql 22 (.slice xn 0 0) (.slice xn 0 0)).run V W=.ok (.bool T) W:=λW=>Je W 22 _ xn _ _ _ _ Tryz.underlying22;go_enter Tryz.func56,Tryz.ntmps56;go_wp2;go_ret;exact⟨rfl,rfl⟩
def uf(x:ae)(w:U)(hx:x.At w)(hn:x.ad=xn->x.cap=0)(hl:N x.xs<=1000000) :
  Calls V 56 #[x.val] w λe d=>∃v,e=FN v/\d.ownsRow (M (H w)) 3 1 v (N x.xs) (x.xs.map (Value.int J))/\Bw w d:=by
 obtain⟨g,cap,xs⟩:=x
 cases g with
 |none =>
  obtain rfl:cap=0:=hn rfl;have f:xs=[]:=by
   cases xs with
   |nil=>rfl
   |cons x xs=>obtain⟨b,off,e,_⟩:=hx.2 0 (by simp);cases e
  subst f;refine(IM w).mono ?_;rintro e d ⟨rfl,rfl⟩;exact⟨_,rfl,Zk _ _ _ _,Qm _ _⟩
 |some a=>exact IK a cap xs w hx hl
def I6(Ez:Env f ts q W0)(hz:Fz Fq W0 w)(a:Nat)(t:dH)(ht:bG 105 Fq w a t)(hto:uM q t)(o:ae)(ho:o.At w)(hof:sM Fq o.ad (N o.xs))(hon:o.ad=xn->o.cap=0)(hoc:N o.xs<=o.cap)(hol:N o.xs<=1000) :
  Calls V 210 #[FL (f.cells ts q),Y (O (aD a 0)),o.val] w (cZ 105 Fq w (fT ts q t o.xs)):=by
 obtain⟨v0,A,B,v3,v4,v5,C,D,G,v9,i,j,k,K,-⟩:=X9 f ts q;have Q:Y3 (∀x b,Bw w x->UK x (aD b 0)=O (Y (O (aD a 0)))->Calls V 93 #[FL #[v0,A,B,v3,v4,v5,C,D,G,v9,i,j,k],FL #[I J 6,I J 0,I J 0,I J 0,Z xn 0 0,I J 0,o.val],Z (O (aD b 0)) 1 1] x (cZ 105 Fq x (fT ts q t o.xs))):=λx b z hc=>by rw[<-K];exact xS Ez (hz.next z) ⟨6,0,0,0,eU,0,o⟩ ⟨jU x,sM.nil _ _,λ_=>rfl,Qo z ho,hof,hon,hoc,QW _,hol⟩ a b t (ht.below z) hto hc rfl (by decide:(2:Int)<=6) (by decide:(6:Int)<=10) (Jg _)
 rw[K];generalize fT ts q t o.xs=R at*;obtain⟨oa,oc,ox⟩:=o;simp only[ae.val]at*;obtain⟨L,W,n,p⟩:=aL w #[v0,A,B,v3,v4,v5,C,D,G,v9,i,j,k] 90;obtain⟨a0,a1,a2,a3,a4,a5,a6,a7,a8,a9,nA,oC,X⟩:=p.oh;obtain⟨P,l⟩:∃x,L.alloc (EP #[Y (O (aD a 0))] 95)=x:=⟨_,rfl⟩;have d:Bw w P:=az n (by rw[<-l];exact dN _ _);have m:=Q.o P (M (H L)) d (by rw[<-l];simp);have g:=Zh d;go_enter Tryz.func210,Tryz.ntmps210;go_wp2_with fail;refine m.mono ?_;rintro e w3 ⟨r,rfl,hT,u,v,y⟩;have S:Y3 (cZ 105 Fq w R (FN (Y (O (aD r 0)))) w3):=⟨r,rfl,hT,Qz g.o.size u,v,az g.o y⟩;go_wp2;go_ret;exact S.o
theorem Da(Ez:Env f ts q W0)(hz:Fz Fq W0 w)(a:Nat)(t:dH)(ht:bG 105 Fq w a t)(hto:uM q t)(c:Nat)(hc:c<2 ^ (N q.wh))(hal:a<M (H w)) :
  Calls V 94 #[FL (f.cells ts q),Y (O (aD a 0)),I Vo (c:Int)] w λe X=>∃r,e=FN (Y (O (aD r 0)))/\bG 105 Fq X r (df ts q t c)/\(r=a∨M (H w)<=r)/\r<M (H X)/\Bw w X:=by
 by_cases ai:c=0
 .subst ai;have HT:Y3 (bG 105 Fq w a (df ts q t 0)):=by unfold df;rw[Zt rfl];exact ht
  generalize df ts q t 0=R at*;obtain⟨v0,v1,v2,v3,v4,v5,v6,v7,v8,v9,u,y,z,cK,-⟩:=X9 f ts q;rw[cK];have aj:=Zh hal;obtain⟨w1,ag⟩:∃x,w.alloc (EP #[v0,v1,v2,v3,v4,v5,v6,v7,v8,v9,u,y,z] 90)=x:=⟨_,rfl⟩;have g:Y3 (Bw w w1):=by show Below _ _ _;rw[<-ag];exact dN _ _
  go_enter Tryz.func94,Tryz.ntmps94;go_wp2;go_ret;exact⟨a,rfl,HT.o.below g.o,.inl rfl,QA aj.o g.o.size,g.o⟩
 have hR:df ts q t c=aM ts q (IJ (ed c)) [t]:=by unfold df;rw[ZU ai]
 have ax:(((c:Nat):Int)==0)=false:=by grind
 rw[hR];have WW:c<18446744073709551616:=QA hc (ZI (n:=2) (by omega) Ez.ok.wm);obtain⟨v0,v1,v2,v3,v4,v5,v6,v7,v8,v9,u,y,z,cK,-⟩:=X9 f ts q;have aa:Y3 (∀x,Calls V 120 #[I Vo (c:Int)] x λe X=>∃v,e=FN v/\X.ownsRow (M (H x)) 3 1 v (N (ed c)) ((ed c).map (Value.int J))/\Bw x X):=λx=>IZ c WW x;have A:Y3 (N (ed c)<=64):=by show _<=_;unfold ed aT;grind
 have nO:Y3 (∀x b (k:ae),Bw w x->(k.xs=ed c/\k.At x/\sM Fq k.ad (N k.xs)/\(k.ad=xn->k.cap=0))->UK x (aD b 0)=O (Y (O (aD a 0)))->Calls V 93 #[FL #[v0,v1,v2,v3,v4,v5,v6,v7,v8,v9,u,y,z],FL #[I J 2,I J 0,I J 0,I J 0,k.val,I J 0,Z xn 0 0],Z (O (aD b 0)) 1 1] x (cZ 105 Fq x (aM ts q (IJ (ed c)) [t]))):=λx b k hx hi W=>by rw[<-cK,<-hi.1];exact xS Ez (hz.next hx) ⟨2,0,0,0,k,0,eU⟩ ⟨hi.2.1,hi.2.2.1,hi.2.2.2,jU x,sM.nil _ _,λ_=>rfl,Qn _,(by rw[hi.1];have:=A.o;omega),QW _⟩ a b t (ht.below hx) hto W rfl (by decide:(2:Int)<=2) (by decide:(2:Int)<=10) (by rw[hi.1];exact AP hc)
 have Az:=Zh hz.high;rw[cK];generalize aM ts q (IJ (ed c)) [t]=R at*;generalize ed c=L at*;obtain⟨w1,ag,au,av⟩:=aL w #[v0,v1,v2,v3,v4,v5,v6,v7,v8,v9,u,y,z] 90;obtain⟨a0,a1,a2,a3,a4,a5,a6,a7,a8,a9,nA,oC,ay⟩:=av.oh;have g:=Zh au;go_enter Tryz.func94,Tryz.ntmps94;go_wp2_with fail;refine wH w1 λd=>?_;refine wA2 0 d ?_;refine sN 4 d ?_;refine wJ 2 5 (λK j=>?_) λK j=>?_
 .skip;go_simp;refine XX (aa.o _) ?_;rintro e w4 ⟨v,rfl,hv,hb⟩;obtain⟨k,Aj,l,m,i⟩:=rD hv (by have:=A.o;omega);obtain⟨la,lc,lx⟩:=k;simp only[ae.val]at Aj l m i;subst l;subst Aj;have B:=d.trans (hb.mono d.size);have C:sM Fq la (N lx):=λ_ a' e=>Az.o _ (Qz g.o.size (Qz d.size (i.1 a' e)))
  refine j.o _ _ B λd=>?_;refine sN 3 d ?_;refine wR 5 λK j=>?_;go_simp;refine oA j d λd=>?_;have RN:=dN w4 (EP #[Y (O (aD a 0))] 95);have D:=d.size;refine wR 6 λK j=>?_;go_simp;refine XX (nO.o _ _ ⟨la,lc,lx⟩ (az g.o d) ⟨rfl,Qo RN m,C,i.2.1⟩ (by simp)) ?_;rintro e G ⟨r,rfl,hT,P,Q,S⟩;refine oT j d S λd=>?_;refine wR 7 λK j=>?_;go_simp;refine j.o _ _ d λd=>?_;refine wD ?_;try simp only[pV]
  have HP:Y3 (∃p,Ending.returned (Y (O (aD r 0)))=FN (Y (O (aD p 0)))/\bG 105 Fq G p R/\(p = a∨M (H w)<=p)/\p<M (H G)/\Bw w G):=⟨r,rfl,hT,.inr (Qz g.o.size (Qz D P)),Q,az g.o d⟩;go_wp2;go_ret;exact HP.o
 .skip;go_simp;refine oA j d λd=>?_
  refine wR 2 λK j=>?_;go_simp;refine XX (aa.o _) ?_;rintro e w4 ⟨v,rfl,hv,hb⟩;obtain⟨k,Aj,l,m,i⟩:=rD hv (by have:=A.o;omega);obtain⟨la,lc,lx⟩:=k;simp only[ae.val]at Aj l m i;subst l;subst Aj;have B:=d.trans (hb.mono d.size);have C:sM Fq la (N lx):=λ_ a' e=>Az.o _ (Qz g.o.size (Qz d.size (i.1 a' e)));have ak:=cB hb (show _=O (Value.pointer (O (aD a 0))) from (Ye (pR _ (EP #[Y (O (aD a 0))] 95))));refine j.o _ _ B λd=>?_;have RN:=Qm (M (H w4)) w4;have D:=d.size;refine sN 3 d ?_;refine wR 6 λK j=>?_;go_simp;refine XX (nO.o _ _ ⟨la,lc,lx⟩ (az g.o d) ⟨rfl,Qo RN m,C,i.2.1⟩ (ak)) ?_;rintro e G ⟨r,rfl,hT,P,Q,S⟩;refine oT j d S λd=>?_;refine wR 7 λK j=>?_;go_simp;refine j.o _ _ d λd=>?_;refine wD ?_;try simp only[pV]
  have HP:Y3 (∃p,Ending.returned (Y (O (aD r 0)))=FN (Y (O (aD p 0)))/\bG 105 Fq G p R/\(p = a∨M (H w)<=p)/\p<M (H G)/\Bw w G):=⟨r,rfl,hT,.inr (Qz g.o.size (Qz D P)),Q,az g.o d⟩;go_wp2;go_ret;exact HP.o
def Ua(Ez:Env f ts q W0)(hz:Fz Fq W0 w)(s:Int)(h0:0<=s)(h1:s<N q.src.xs) :
  Calls V 119 #[FL (f.cells ts q),I J s] w (cZ 105 Fq w (jr ts q (bT ts q) s)):=by
 obtain⟨v0,G,L,v3,v4,v5,P,Q,S,v9,i,j,k,W,-⟩:=X9 f ts q;obtain⟨a,u⟩:∃t,t=aM ts q (kC s) []:=⟨_,rfl⟩;have y:uM q a:=by rw[u];exact nU ts q _ _ ⟨(by decide:(1:Int)<=1),(by decide:(1:Int)<=10)⟩ (λ_=>⟨h0,h1⟩) (Jg _) (λb B=>by cases B)
 have X:a.d.sources<18446744073709551616:=QA y.src (ZI (n:=2) (by omega) Ez.ok.small);have nO:Y3 (∀x,Bw w x->Calls V 93 #[FL #[v0,G,L,v3,v4,v5,P,Q,S,v9,i,j,k],FL #[I J 1,I J 0,I J 0,I J s,Z xn 0 0,I J 0,Z xn 0 0],Z xn 0 0] x (cZ 105 Fq x a)):=λx C=>by rw[<-W,u];exact MG Ez (hz.next C) s h0 h1
 have aa:Y3 (∀x,Bw w x->Cb 181 #[FL #[v0,G,L,v3,v4,v5,P,Q,S,v9,i,j,k],I Vo (a.d.sources:Int)] x (I Vo ((bB (bT ts q) a.d.sources:Nat):Int))):=λx C=>by rw[<-W];exact Fe f ts q _ x Ez.ok ((Ez.at' hz).below C) X
 have ae:Y3 (∀x r,Bw w x->bG 105 Fq x r a->r<M (H x)->Calls V 94 #[FL #[v0,G,L,v3,v4,v5,P,Q,S,v9,i,j,k],Y (O (aD r 0)),I Vo ((bB (bT ts q) a.d.sources:Nat):Int)] x λe w'=>∃m,e=FN (Y (O (aD m 0)))/\bG 105 Fq w' m (df ts q a (bB (bT ts q) a.d.sources))/\(m = r∨M (H x)<=m)/\m<M (H w')/\Bw x w'):=λx r C hr hl=>by rw[<-W];exact Da Ez (hz.next C) r a hr y _ (by have:=jL (bT ts q) a.d.sources (N (bT ts q));rw[kI]at this;unfold bB;rw[kI];exact this) hl
 have hR:jr ts q (bT ts q) s=df ts q a (bB (bT ts q) a.d.sources):=by rw[u];rfl
 rw[hR,W];generalize df ts q a (bB (bT ts q) a.d.sources)=R at*;generalize bB (bT ts q) a.d.sources=wi at*;obtain⟨w1,aH,A,ak⟩:=aL w #[v0,G,L,v3,v4,v5,P,Q,S,v9,i,j,k] 90;obtain⟨a0,a1,a2,a3,a4,a5,a6,a7,a8,a9,nA,oC,au⟩:=ak.oh;have z:=Zh A;have ag:=nO.o w1 A;go_enter Tryz.func119,Tryz.ntmps119;go_wp2_with fail;refine ag.mono ?_;rintro e w2 ⟨r,rfl,hT,av,ax,v⟩;obtain⟨b0,b1,b2,b3,b4,b5,b6,b7⟩:=wK v a0 a1 a2 a3 a4 a5 a6 a7;obtain⟨b8,b9,aI,aJ,aK⟩:=qA v a8 a9 nA oC au;obtain⟨p,hP,Dw⟩:=hT.nW;have p1:UK w2 (aD r 1)=O (I Vo (a.d.sources:Int)):=by have:=hP.c1;have e:p.sources=a.d.sources:=congrArg bN.sources Dw;rw[e]at this;exact this
 obtain⟨HT,ay,aA,l⟩:=om hT av ax (az z.o v);generalize a.d.sources=sr at*;go_wp2_with fail;refine wH w2 λg=>?_;refine wA8 0 g ?_;refine wR 8 λK D=>?_;go_simp;refine XX (aa.o _ (az l.o g)) ?_;rintro e w3 ⟨rfl,B⟩;refine oT D g B λg=>?_;refine wR 9 λK D=>?_;go_simp;refine XX (ae.o _ r (az l.o g) (HT.o.below g) (QA aA.o g.size)) ?_;rintro e w4 ⟨m,rfl,aB,aC,aG,B⟩;have ai:=g.size;refine oT D g B λg=>?_;refine wR 10 λK D=>?_;go_simp;refine D.o _ _ g λg=>?_;refine wD ?_;try simp only[pU]
 have aj:M (H w)<=m:=by
  rcases aC with h|h
  .rw[h];exact Qz z.o.size ay.o
  .exact Qz l.o.size (Qz ai h)
 have HP:Y3 (cZ 105 Fq w R (FN (Y (O (aD m 0)))) w4):=⟨m,rfl,aB,aj,aG,az l.o g⟩;go_wp2;go_ret;exact HP.o
theorem ac8(Ez:Env f ts q W0)(hz:Fz Fq W0 w)(a:Nat)(t:dH)(ht:bG 105 Fq w a t)(hto:uM q t) :
  Calls V 209 #[FL (f.cells ts q),Y (O (aD a 0))] w (cZ 105 Fq w (mQ ts q t)):=by
 obtain⟨v0,y,z,v3,v4,v5,A,v7,v8,v9,L,P,Q,cK,av,ax,ay,aA,aB,aC,aG,-⟩:=X9 f ts q;have KO:q.cells=#[v0,y,z,v3,v4,v5,A]:=by rw[av,ax,ay,aA,aB,aC,aG];rfl
 clear av ax ay aA aB aC aG;obtain⟨K,j⟩:∃k,dO q t.d.order=k:=⟨_,rfl⟩;have aQ:=I8 q t.d.order;rw[j]at aQ;obtain⟨B,m⟩:∃u,aM ts q (dV K) [t]=u:=⟨_,rfl⟩;have v:uM q B:=by rw[<-m];exact I9 ts (by omega) (by omega) hto
 obtain⟨T2,S⟩:∃u,aM ts q (dV 10) [B]=u:=⟨_,rfl⟩;have hR:mQ ts q t=if jC q K t.d.order=T then B else T2:=by unfold mQ;simp only;rw[j,m,S]
 obtain⟨R,W⟩:=eY (mQ ts q t);rw[<-W];have ai:Y3 (R=if jC q K t.d.order=T then B else T2):=by rw[<-hR];exact W
 clear W;obtain⟨p,hP,Dw⟩:=ht.nW;have l:p.order.xs=t.d.order:=congrArg bN.order Dw;have wI:Y3 (∀x b,Bw w x->UK x (aD b 0)=O (Y (O (aD a 0)))->Calls V 93 #[FL #[v0,y,z,v3,v4,v5,A,v7,v8,v9,L,P,Q],FL #[I J K,I J 0,I J 0,I J 0,Z xn 0 0,I J 0,Z xn 0 0],Z (O (aD b 0)) 1 1] x (cZ 105 Fq x B)):=λx b i hc=>by rw[<-cK,<-m];exact xS Ez (hz.next i) ⟨K,0,0,0,eU,0,eU⟩ ⟨jU x,sM.nil _ _,λ_=>rfl,jU x,sM.nil _ _,λ_=>rfl,Qn _,QW _,QW _⟩ a b t (ht.below i) hto hc (ac7 (by show 6<=K;omega)) (by show 2<=K;omega) (by show K<=10;omega) (Jg _)
 have aR:Y3 (∀x b r,Bw w x->bG 105 Fq x r B->UK x (aD b 0)=O (Y (O (aD r 0)))->Calls V 93 #[FL #[v0,y,z,v3,v4,v5,A,v7,v8,v9,L,P,Q],FL #[I J 10,I J 0,I J 0,I J 0,Z xn 0 0,I J 0,Z xn 0 0],Z (O (aD b 0)) 1 1] x (cZ 105 Fq x T2)):=λx b r i hr hc=>by rw[<-cK,<-S];exact xS Ez (hz.next i) ⟨10,0,0,0,eU,0,eU⟩ ⟨jU x,sM.nil _ _,λ_=>rfl,jU x,sM.nil _ _,λ_=>rfl,Qn _,QW _,QW _⟩ r b B hr v hc rfl (by decide:(2:Int)<=10) (by decide:(10:Int)<=10) (Jg _)
 have aS:Y3 (∀x,Bw w x->Cb 230 #[FL #[v0,y,z,v3,v4,v5,A],p.order.val] x (I J K)):=λx i=>by have:=TW q p.order x ((Ez.agz hz).below i).at' (Qo i hP.ok.order) hP.ok.cap;grind
 have aT:Y3 (∀x,Bw w x->Cb 113 #[FL #[v0,y,z,v3,v4,v5,A],I J K,p.order.val] x (.bool (jC q K t.d.order))):=λx i=>by
  have:=Ch q K p.order.ad p.order.cap p.order.xs x ((Ez.at' hz).query.below i) ⟨λh9=>Ez.ord (by
   cases hg:q.group with
   |false=>rfl
   |true =>
    rw[<-j]at h9;unfold dO at h9;grind),by have:=Ez.few;omega⟩ (Qo i hP.ok.order) hP.ok.cap
  rw[KO,l]at this;rw[<-l]at this;rw[<-l];exact this
 have p3:=hP.c3;rw[cK];clear cK KO hR m S v hP Dw l j ht hto Ez hz;generalize jC q K t.d.order=EB at*;generalize p.order=po at*;obtain⟨oa,oc,ox⟩:=po;simp only[ae.val]at*;obtain⟨w1,aW,X,aH⟩:=aL w #[v0,y,z,v3,v4,v5,A,v7,v8,v9,L,P,Q] 90;obtain⟨a0,a1,a2,a3,a4,a5,a6,a7,a8,a9,nA,oC,n⟩:=aH.oh;have aj:=Zh X;have q3:=cB X p3;clear X aH p3;go_enter Tryz.func209,Tryz.ntmps209;go_wp2_with fail;clear aW;refine wH w1 λg=>?_;refine wt 0 (Y (O (aD (M (H w)) 0))) g ?_;refine wT 1 (FL #[v0,y,z,v3,v4,v5,A]) g (λx i=>?_) ?_
 .have e0:=tO i a0 a1 a2 a3 a4 a5 a6;go_simp
 refine wt 2 (Y (O (aD a 0))) g ?_;refine wt 3 (Y (O (aD a 0))) g ?_;refine wt 4 (Y (O (aD a 0))) g ?_;refine wt 5 (Y (O (aD a 3))) g ?_;refine wtc 6 (Z oa (N ox) oc) g q3 ?_;refine wR 7 λK j=>?_;go_simp;refine XX (aS.o _ (az aj.o g)) ?_;rintro e w2 ⟨rfl,hb⟩;refine oT j g hb λg=>?_;clear j K;refine wR 8 λK j=>?_;go_simp;refine j.o _ _ g λg=>?_;clear j K;refine wD ?_;try simp only[pU]
 have C:=Zh (az aj.o g);obtain⟨aX,b0,b1,b2,b3,b4,b5,b6⟩:=wK g q3 a0 a1 a2 a3 a4 a5 a6;obtain⟨b7,b8,b9,aI,aK,aN⟩:=JY g a7 a8 a9 nA oC n;clear a0 a1 a2 a3 a4 a5 a6 a7 a8 a9 nA oC n;obtain⟨w3,aO⟩:∃x,w2.alloc (EP #[Y (O (aD a 0))] 95)=x:=⟨_,rfl⟩;have ak:Bw w2 w3:=by rw[<-aO];exact dN _ _
 have aU:=wI.o w3 (M (H w2)) (az C.o ak) (by rw[<-aO];simp);have au:=Zh ak;go_wp2_with fail;refine aU.mono ?_;rintro e w4 ⟨r,rfl,hT,aa,ag,aY⟩;have uF:=az au.o aY;obtain⟨q3,a0,a1,a2,a3,a4,a5,a6⟩:=wK uF aX b0 b1 b2 b3 b4 b5 b6;obtain⟨a7,a8,a9,nA,oC,n⟩:=JY uF b7 b8 b9 aI aK aN;obtain⟨oJ,HT,aZ,bf⟩:=om (az C.o uF) hT (Qz C.o.size (Qz au.o.size aa)) ag;go_wp2_with fail;refine wH w4 λg=>?_;refine wt 0 (Y (O (aD (M (H w)) 0))) g ?_;refine wT 1 (FL #[v0,y,z,v3,v4,v5,A]) g (λx i=>?_) ?_
 .have e0:=tO i a0 a1 a2 a3 a4 a5 a6;go_simp
 refine wt 2 (I J K) g ?_;refine wt 3 (Y (O (aD a 0))) g ?_;refine wt 4 (Y (O (aD a 0))) g ?_;refine wt 5 (Y (O (aD a 0))) g ?_;refine wt 6 (Y (O (aD a 3))) g ?_;refine wtc 7 (Z oa (N ox) oc) g q3 ?_;refine wR 8 λK j=>?_;go_simp;refine XX (aT.o _ (az oJ.o g)) ?_;rintro e w5 ⟨rfl,hb⟩;refine oT j g hb λg=>?_;refine wD ?_;try simp only[pU]
 have jG:=Zh (az oJ.o g);obtain⟨b0,b1,b2,b3,b4,b5,b6,b7⟩:=wK g a0 a1 a2 a3 a4 a5 a6 a7;obtain⟨b8,b9,aI,aK,aN⟩:=qA g a8 a9 nA oC n;obtain⟨aP,bg⟩:=aJ (HT.o.below g) (QA bf.o g.size)
 cases EB with
 |true =>
  go_wp2;go_ret;have D:R=B:=ai.o;rw[D];exact⟨r,rfl,aP.o,aZ.o,bg.o,jG.o⟩
 |false =>
  obtain⟨w6,vY⟩:∃x,w5.alloc (EP #[Y (O (aD r 0))] 95)=x:=⟨_,rfl⟩;have G:Bw w5 w6:=by rw[<-vY];exact dN _ _
  have aV:=aR.o w6 (M (H w5)) r (az jG.o G) (aP.o.below G) (by rw[<-vY];simp);have xJ:=Zh (az jG.o G);go_wp2_with fail;refine aV.mono ?_;rintro e w7 ⟨r',rfl,hT,aa,ag,mO⟩;have HP:Y3 (cZ 105 Fq w T2 (FN (Y (O (aD r' 0)))) w7):=⟨r',rfl,hT,Qz xJ.o.size aa,ag,az xJ.o mO⟩;go_wp2;go_ret;have D:R=T2:=ai.o;rw[D];exact HP.o
def Fv(Fq:Nat->Prop)(v:Value):Nat->Prop:=λb=>Fq b/\v.ownBlock≠O b
theorem Fz.own(h:Fz Fq W0 w)(hv:∀g,v.ownBlock=O g->M (H W0)<=g/\g<M (H w)):Fz (Fv Fq v) W0 w:=
 ⟨h.below,λb a=>⟨h.low b a,λe=>by have:=(hv b e).1;have:=a.lt;omega⟩,λb a=>⟨h.high b a,λe=>by have:=(hv b e).2;omega⟩⟩
theorem bG.own{w0:U}(h:bG Tq Fq w0 a t)(hb:Bw w0 w)(hv:∀g,v.ownBlock=O g->M (H w0)<=g):bG Tq (Fv Fq v) w a t:=
 (h.mono (G:=Fv Fq v) (λb hb d=>⟨d,λe=>by have:=hv b e;omega⟩)).below hb
def bG.ale(h:bG Tq (Fv Fq v) w a t):bG Tq Fq w a t:=h.mono λ_ _ h=>h.1
structure pQ(Tq Tp:TypeId)(Fq:Nat->Prop)(base:Nat)(w:U)(v:Value)(bs:List (Nat × dH)):Prop where
 own:w.ownsRow base Tp 1 v (N bs) ((bs.map Prod.fst).map λx=>Value.pointer (O (aD x 0)))
 tree:∀x∈bs,bG Tq (Fv Fq v) w x.1 x.2/\base<=x.1/\x.1<M (H w)
 acx:(bs.map Prod.fst).Pairwise (· < ·)
def pQ.nil(Tq Tp:TypeId)(Fq:Nat->Prop)(base:Nat)(w:U):pQ Tq Tp Fq base w (Z xn 0 0) []:=⟨Zk _ _ _ _,(λx a=>by cases a),Zl⟩
theorem bG.ug{v':Value}(h:bG Tq (Fv Fq v) w a t)(hk:Kept (λb=>v.ownBlock≠O b) w w')(hat:v'.ownBlock=v.ownBlock∨∃g,v'.ownBlock=O g/\M (H w)<=g):bG Tq (Fv Fq v') w' a t:=by
 have i:=h.mono (G:=λb=>Fv Fq v b/\Fv Fq v' b) (λb f d=>⟨d,d.1,λe=>by
  rcases hat with h|⟨g,h,j⟩
  .exact d.2 (h ▸ e)
  grind⟩)
 exact(i.bC (hk.mono λb _ f=>f.1.2)).mono λ_ _ h=>h.2
theorem pQ.len{Tp:TypeId}{base:Nat}{bs:List (Nat × dH)}(h:pQ Tq Tp Fq base w v bs):N (bs.map Prod.fst)=N bs:=Zm _
theorem OY(Ez:Env f ts q W0)(hz:Fz Fq W0 w):Calls V 57 #[FL (f.cells ts q)] w (cZ 105 Fq w (qG ts q)):=by
 obtain⟨v0,v1,v2,v3,v4,v5,v6,v7,v8,v9,v,y,z,cK,ai,-,aA,-,-,-,aj,-,-,aB,-⟩:=X9 f ts q;have aP:=Ez.one;have h5:=Ez.five;have hc:2 ^ (N q.wh)-1<2 ^ (N q.wh):=by grind
 have Mv:Y3 (∀x (k:Nat),Bw w x->k<N q.src.xs->Calls V 93 #[FL #[v0,v1,v2,v3,v4,v5,v6,v7,v8,v9,v,y,z],FL #[I J 1,I J 0,I J 0,I J (k:Int),Z xn 0 0,I J 0,Z xn 0 0],Z xn 0 0] x (cZ 105 Fq x (aM ts q (kC (k:Int)) []))):=λx k W hk=>by rw[<-cK];exact MG Ez (hz.next W) k (by omega) (by omega)
 have aQ:Y3 (∀x b r B (k:Nat),Bw w x->k+1<N q.src.xs->bG 105 Fq x r (dM ts q k)->bG 105 Fq x B (aM ts q (kC ((k+1:Nat):Int)) [])->UK x (aD b 0)=O (Y (O (aD r 0)))->UK x (aD b 1)=O (Y (O (aD B 0)))->Calls V 93 #[FL #[v0,v1,v2,v3,v4,v5,v6,v7,v8,v9,v,y,z],FL #[I J 3,I J 0,I J 0,I J 0,Z xn 0 0,I J 0,Z xn 0 0],Z (O (aD b 0)) 2 2] x (cZ 105 Fq x (dM ts q (k+1)))):=λx b r B k W hk hr bL h0 h1=>by rw[<-cK];exact TL Ez (hz.next W) ⟨3,0,0,0,eU,0,eU⟩ ⟨jU x,sM.nil _ _,λ_=>rfl,jU x,sM.nil _ _,λ_=>rfl,Qn _,QW _,QW _⟩ r B b _ _ hr (sG ts q k (by omega)).1 bL (OJ ts (by omega) (by omega)) h0 h1 (by decide:(3:Int)<=3) (by decide:(3:Int)<=5) (Jg _)
 have av:Y3 (∀x r,Bw w x->bG 105 Fq x r (dM ts q (N q.src.xs-1))->r<M (H x)->Calls V 94 #[FL #[v0,v1,v2,v3,v4,v5,v6,v7,v8,v9,v,y,z],Y (O (aD r 0)),I Vo ((2 ^ (N q.wh)-1:Nat):Int)] x λe w'=>∃B,e=FN (Y (O (aD B 0)))/\bG 105 Fq w' B (df ts q (dM ts q (N q.src.xs-1)) (2 ^ (N q.wh)-1))/\(B = r∨M (H x)<=B)/\B<M (H w')/\Bw x w'):=λx r W hr hl=>by rw[<-cK];exact Da Ez (hz.next W) r _ hr (sG ts q _ (by omega)).1 _ hc hl
 have wI:Y3 (∀x b r t (k:Int),Bw w x->7<=k->k<=10->uM q t->bG 105 Fq x r t->UK x (aD b 0)=O (Y (O (aD r 0)))->Calls V 93 #[FL #[v0,v1,v2,v3,v4,v5,v6,v7,v8,v9,v,y,z],FL #[I J k,I J 0,I J 0,I J 0,Z xn 0 0,I J 0,Z xn 0 0],Z (O (aD b 0)) 1 1] x (cZ 105 Fq x (aM ts q (dV k) [t]))):=λx b r t k W h7 bM ht hr h0=>by rw[<-cK];exact xS Ez (hz.next W) ⟨k,0,0,0,eU,0,eU⟩ ⟨jU x,sM.nil _ _,λ_=>rfl,jU x,sM.nil _ _,λ_=>rfl,Qn _,QW _,QW _⟩ r b t hr ht h0 (by show arity k=1;unfold arity;grind) (by show 2<=k;omega) bM (Jg _)
 obtain⟨T1,ak⟩:∃t,df ts q (dM ts q (N q.src.xs-1)) (2 ^ (N q.wh)-1)=t:=⟨_,rfl⟩;have qL:Y3 (uM q T1):=by rw[<-ak];exact vG (sG ts q _ (by omega)).1 hc
 obtain⟨X,au⟩:∃t,aM ts q (dV (if q.group=T then 7 else 9)) [T1]=t:=⟨_,rfl⟩;have oz:Y3 (uM q X):=by rw[<-au];exact(Em ts (by split <;> omega) (by split <;> omega) qL.o).1
 have hR:qG ts q=if 0<N q.ord.xs then aM ts q (dV 10) [X] else X:=by unfold qG;simp only;rw[ak,au]
 obtain⟨R,aC⟩:=eY (qG ts q);rw[<-aC,cK];obtain⟨T3,i⟩:∃t,aM ts q (dV 10) [X]=t:=⟨_,rfl⟩;have aa:Y3 (R=if 0<N q.ord.xs then T3 else X):=by show _=_;rw[aC,hR,i]
 rw[ak]at av;have aR:Y3 (∀x b r,Bw w x->bG 105 Fq x r T1->UK x (aD b 0)=O (Y (O (aD r 0)))->Calls V 93 #[FL #[v0,v1,v2,v3,v4,v5,v6,v7,v8,v9,v,y,z],FL #[I J (if q.group=T then 7 else 9),I J 0,I J 0,I J 0,Z xn 0 0,I J 0,Z xn 0 0],Z (O (aD b 0)) 1 1] x (cZ 105 Fq x X)):=λx b r W hr h0=>by rw[<-au];exact wI.o x b r T1 _ W (by split <;> omega) (by split <;> omega) qL.o hr h0
 have JX:Y3 (∀x b r,Bw w x->bG 105 Fq x r X->UK x (aD b 0)=O (Y (O (aD r 0)))->Calls V 93 #[FL #[v0,v1,v2,v3,v4,v5,v6,v7,v8,v9,v,y,z],FL #[I J 10,I J 0,I J 0,I J 0,Z xn 0 0,I J 0,Z xn 0 0],Z (O (aD b 0)) 1 1] x (cZ 105 Fq x T3)):=λx b r W hr h0=>by rw[<-i];exact wI.o x b r X 10 W (by omega) (by omega) oz.o hr h0
 have aY:Y3 (aM ts q (kC ((0:Nat):Int)) []=dM ts q 0):=rfl;clear hR aC ak au i cK Ez hz wI qL oz hc;generalize aM ts q=GT at*;generalize dM ts q=PT at*;generalize 2 ^ (N q.wh)-1=CN at*;unfold ae.val at ai aj;generalize N q.src.xs=n at*;generalize q.src.ad=sa at*;generalize q.src.cap=sc at*;generalize N q.ord.xs=ol at*;generalize q.ord.ad=oa at*;generalize q.ord.cap=oc at*;generalize q.group=gr at*;obtain⟨w1,bz,aU,bA⟩:=aL w #[v0,v1,v2,v3,v4,v5,v6,v7,v8,v9,v,y,z] 90;obtain⟨a0,a1,a2,a3,a4,a5,a6,a7,a8,a9,nA,oC,bB⟩:=bA.oh;rw[ai]at a0;rw[aA]at a2;rw[aj]at a6;rw[aB]at a9;have HV:Y3 (v0=_/\v2=_/\v6=_/\v9=_):=⟨ai,aA,aj,aB⟩;have aS:=Zh aU;have D:=Mv.o w1 0 aU (by omega);rw[aY.o]at D;rw[ai,aA,aj,aB]at Mv aQ av aR JX D bz ⊢;go_enter Tryz.func57,Tryz.ntmps57;go_wp2_with fail;refine D.mono ?_;rintro e w2 ⟨r0,rfl,hT,a,d,aG⟩;obtain⟨b0,b1,b2,b3,b4,b5,b6,b7⟩:=wK aG a0 a1 a2 a3 a4 a5 a6 a7;obtain⟨b8,b9,bC,bD,bE⟩:=qA aG a8 a9 nA oC bB;have aZ:=Zh hT;have Px:Y3 (M (H w)<=r0/\r0<M (H w2)):=⟨Qz aS.o.size a,d⟩;have G:=Zh (az aS.o aG);go_wp2;go_loopw [3,4] (λpv sv wr=>∃m k r:Nat,m<=n/\Y3 (m=k+1)/\sv=I J (m:Int)/\pv=Y (O (aD r 0))/\Y3 (bG 105 Fq wr r (PT k))/\Y3 (M (H w)<=r/\r<M (H wr))/\Y3 (Bw w2 wr)) (λ_ sv _=>n-(intOf sv).toNat)
 case atStart=>exact⟨1,0,r0,aP,rfl,rfl,rfl,aZ.o,Px.o,Qm _ _⟩
 case round=>
  obtain⟨m,k,r,hm,aH,rfl,rfl,HT,HR,Bg⟩:=hrel;obtain⟨c0,c1,c2,c3,c4,c5,c6,c7⟩:=wK Bg.o b0 b1 b2 b3 b4 b5 b6 b7;obtain⟨c8,c9,aV,aW,aX⟩:=qA Bg.o b8 b9 bC bD bE;by_cases bN:m<n
  .have D:=Mv.o wr m (az G.o Bg.o) bN;have bf:=aQ.o;go_wp2_with fail;refine D.mono ?_;rintro e w3 ⟨B,rfl,bF,bO,bP,g⟩;obtain⟨d0,d1,d2,d3,d4,d5,d6,d7⟩:=wK g c0 c1 c2 c3 c4 c5 c6 c7;obtain⟨d8,d9,aI,aK,aN⟩:=qA g c8 c9 aV aW aX;have i:=HT.o.below g;obtain⟨w4,C⟩:∃x,w3.alloc (EP #[Y (O (aD r 0)),Y (O (aD B 0))] 95)=x:=⟨_,rfl⟩
   have j:Bw w3 w4:=by rw[<-C];exact dN _ _
   have uF:=az Bg.o (az g j);have bg:=aH.o;have bn:=bf w4 (M (H w3)) r B k (az G.o uF) (by omega) (i.below j) (by rw[<-bg];exact bF.below j) (by rw[<-C];simp) (by rw[<-C];simp);have aT:=Zh uF;go_wp2_with fail;refine bn.mono ?_;rintro e K ⟨r2,rfl,L,a,d,P⟩;obtain⟨A,jG⟩:=aJ L (az aT.o P);have l:Y3 (M (H w)<=r2/\r2<M (H K)):=⟨Qz G.o.size (Qz aT.o.size a),d⟩;go_wp2;go_roundw
   case rel=>exact⟨m+1,k+1,r2,by omega,by show _=_;rw[aH.o],by go_num,rfl,A.o,l.o,jG.o⟩
   case measure=>simp[intOf];omega
  .have Gf:n=m:=by omega
   subst Gf;have bq:k=n-1:=by have:=aH.o;omega
   subst bq;have bu:=av.o wr r (az G.o Bg.o) HT.o HR.o.2;go_wp2_with fail;refine bu.mono ?_;rintro e w3 ⟨r3,rfl,i,bQ,bR,g⟩;obtain⟨d0,d1,d2,d3,d4,d5,d6,d7⟩:=wK g c0 c1 c2 c3 c4 c5 c6 c7;obtain⟨d8,d9,aI,aK,aN⟩:=qA g c8 c9 aV aW aX;obtain⟨Q,bH⟩:=aJ (az G.o (az Bg.o g)) i;obtain⟨w4,C⟩:∃x,w3.alloc (EP #[Y (O (aD r3 0))] 95)=x:=⟨_,rfl⟩;have j:Bw w3 w4:=by rw[<-C];exact dN _ _
   have ag:=aR.o w4 (M (H w3)) r3 (az Q.o j) (bH.o.below j) (by rw[<-C];simp);have oJ:=Zh j
   cases gr with
   |true =>
    rw[Zt rfl]at ag;go_wp2_with fail;refine ag.mono ?_;rintro e K ⟨S,rfl,L,a,d,P⟩;have KI:=az oJ.o P;obtain⟨e0,e1,e2,e3,e4,e5,e6,e7⟩:=wK KI d0 d1 d2 d3 d4 d5 d6 d7;obtain⟨e8,e9,bI,bJ,bK⟩:=qA KI d8 d9 aI aK aN;obtain⟨jG,A⟩:=aJ (az Q.o KI) L;have l:Y3 (M (H w)<=S/\S<M (H K)):=⟨Qz Q.o.size (Qz oJ.o.size a),d⟩;by_cases ho:0<ol
    .have ax:=Qx ho;have p:Y3 (R=T3):=by show _=_;rw[aa.o,Zt ho]
     obtain⟨w6,vY⟩:∃x,K.alloc (EP #[Y (O (aD S 0))] 95)=x:=⟨_,rfl⟩;have u:Bw K w6:=by rw[<-vY];exact dN _ _
     have ay:=JX.o w6 (M (H K)) S (az jG.o u) (A.o.below u) (by rw[<-vY];simp);have xJ:=Zh (az jG.o u);go_wp2_with fail;refine ay.mono ?_;rintro e w7 ⟨r7,rfl,aO,a,d,mO⟩;have HP:Y3 (cZ 105 Fq w T3 (FN (Y (O (aD r7 0)))) w7):=⟨r7,rfl,aO,Qz xJ.o.size a,d,az xJ.o mO⟩;go_wp2;go_ret;rw[p.o];exact HP.o
    .have ax:=Qw ho;have p:Y3 (R=X):=by show _=_;rw[aa.o,ZU ho]
     obtain rfl:ol=0:=by omega
     go_wp2;go_ret;rw[p.o];exact⟨S,rfl,A.o,l.o.1,l.o.2,jG.o⟩
   |false =>
    rw[ZU (by decide)]at ag;go_wp2_with fail;refine ag.mono ?_;rintro e K ⟨S,rfl,L,a,d,P⟩;have KI:=az oJ.o P;obtain⟨e0,e1,e2,e3,e4,e5,e6,e7⟩:=wK KI d0 d1 d2 d3 d4 d5 d6 d7;obtain⟨e8,e9,bI,bJ,bK⟩:=qA KI d8 d9 aI aK aN;obtain⟨jG,A⟩:=aJ (az Q.o KI) L;have l:Y3 (M (H w)<=S/\S<M (H K)):=⟨Qz Q.o.size (Qz oJ.o.size a),d⟩;by_cases ho:0<ol
    .have ax:=Qx ho;have p:Y3 (R=T3):=by show _=_;rw[aa.o,Zt ho]
     obtain⟨w6,vY⟩:∃x,K.alloc (EP #[Y (O (aD S 0))] 95)=x:=⟨_,rfl⟩;have u:Bw K w6:=by rw[<-vY];exact dN _ _
     have ay:=JX.o w6 (M (H K)) S (az jG.o u) (A.o.below u) (by rw[<-vY];simp);have xJ:=Zh (az jG.o u);go_wp2_with fail;refine ay.mono ?_;rintro e w7 ⟨r7,rfl,aO,a,d,mO⟩;have HP:Y3 (cZ 105 Fq w T3 (FN (Y (O (aD r7 0)))) w7):=⟨r7,rfl,aO,Qz xJ.o.size a,d,az xJ.o mO⟩;go_wp2;go_ret;rw[p.o];exact HP.o
    .have ax:=Qw ho;have p:Y3 (R=X):=by show _=_;rw[aa.o,ZU ho]
     obtain rfl:ol=0:=by omega
     go_wp2;go_ret;rw[p.o];exact⟨S,rfl,A.o,l.o.1,l.o.2,jG.o⟩
theorem A7(l r:Nat)(w:U) :
  Cb 117 #[FL #[I Vo (l:Int),I Vo (r:Int)]] w (.bool (decide (r=0))):=by
 obtain⟨d,a⟩:∃x,w.alloc (EP #[I Vo (l:Int),I Vo (r:Int)] 138)=x:=⟨_,rfl⟩;have b:Y3 (Bw w d):=by show Below _ _ _;rw[<-a];exact dN _ _
 have e:UK d (aD (M (H w)) 1)=O (I Vo (r:Int)):=by rw[<-a];simp
 go_enter Tryz.func117,Tryz.ntmps117;go_wp2;go_ret;exact⟨Qd (by grind),b.o⟩
def Jn(a:Int)(w:U):Ce 193 #[I J a] w (.bool F):=by go_enter Tryz.func193,Tryz.ntmps193;go_wp2;go_ret;exact⟨Qd (by simp),rfl⟩
def Jo(a:Nat)(w:U):Ce 195 #[I Vo (a:Int)] w (.bool F):=by go_enter Tryz.func195,Tryz.ntmps195;go_wp2;go_ret;exact⟨Qd (by simp),rfl⟩
def OW(a b:Int)(w:U):Ce 150 #[I J a,I J b] w (I J (AX a b)):=by
 have m:=Jn a w;have n:=Jn b w;have j:Y3 (AX a b=if a<b then -1 else if b<a then 1 else 0):=rfl;generalize AX a b=R at*;go_enter Tryz.func150,Tryz.ntmps150;go_wp2_with fail;refine m.mono ?_;rintro e p ⟨rfl,d⟩;have d:=d.symm;subst d;go_wp2_with fail;refine n.mono ?_;rintro e p ⟨rfl,d⟩;have d:=d.symm;subst d;by_cases f:a<b
 .have i:Y3 (R = -1):=by show _=_;rw[j.o,Zt f]
  have l:=Qx f;go_wp2;go_ret;exact⟨Qe (by rw[i.o]),rfl⟩
 .by_cases g:b<a
  .have i:Y3 (R=1):=by show _=_;rw[j.o,ZU f,Zt g]
   have l:=Qw f;have k:=Qx g;go_wp2;go_ret;exact⟨Qe (by rw[i.o]),rfl⟩
  .have i:Y3 (R=0):=by show _=_;rw[j.o,ZU f,ZU g]
   have l:=Qw f;have k:=Qw g;go_wp2;go_ret;exact⟨Qe (by rw[i.o]),rfl⟩
def Dc(a b:Nat)(w:U):Ce 152 #[I Vo (a:Int),I Vo (b:Int)] w (I J (AX (a:Int) (b:Int))):=by
 have m:=Jo a w;have n:=Jo b w;have j:Y3 (AX (a:Int) (b:Int)=if a<b then -1 else if b<a then 1 else 0):=by show _=_;unfold AX;simp only[Int.ofNat_lt]
 generalize AX (a:Int) (b:Int)=R at*;go_enter Tryz.func152,Tryz.ntmps152;go_wp2_with fail;refine m.mono ?_;rintro e p ⟨rfl,d⟩;have d:=d.symm;subst d;go_wp2_with fail;refine n.mono ?_;rintro e p ⟨rfl,d⟩;have d:=d.symm;subst d;by_cases f:a<b
 .have i:Y3 (R = -1):=by show _=_;rw[j.o,Zt f]
  have l:=Qx f;go_wp2;go_ret;exact⟨Qe (by rw[i.o]),rfl⟩
 .by_cases g:b<a
  .have i:Y3 (R=1):=by show _=_;rw[j.o,ZU f,Zt g]
   have l:=Qw f;have k:=Qx g;go_wp2;go_ret;exact⟨Qe (by rw[i.o]),rfl⟩
  .have i:Y3 (R=0):=by show _=_;rw[j.o,ZU f,ZU g]
   have l:=Qw f;have k:=Qw g;go_wp2;go_ret;exact⟨Qe (by rw[i.o]),rfl⟩
theorem YT(x:ae)(k:Nat)(w:U)(hx:x.At w)(hk:k<4611686018427387904) :
  Ce 42 #[x.val,I J (k:Int)] w (I J (xW x.xs k)):=by
 obtain⟨q,cap,xs⟩:=x;have g:=hx.1;simp only at g;by_cases f:N xs=0
 .have a:xW xs k=0:=by unfold xW;rw[Zt f]
  simp only[a,ae.val];rw[f];clear a hx f g;go_enter Tryz.func42,Tryz.ntmps42;go_wp2;go_ret;exact⟨rfl,rfl⟩
 .have a:xW xs k=E xs (k % (N xs)) 0:=by unfold xW;rw[ZU f]
  have d:k % (N xs)<N xs:=Nat.mod_lt _ (by omega);obtain⟨b,off,e,j⟩:=Qg hx d;have l:=j _ d;simp only at e;subst e;simp only[a,ae.val];generalize E xs (k % (N xs)) 0=v at*;have i:Int.tmod (k:Int) (N xs:Int)=((k % (N xs):Nat):Int):=by grind
  have n:((N xs:Int)==0)=false:=by grind
  generalize k % (N xs)=m at*;have p:(m:Int)<(N xs:Int):=by omega
  clear a j hx;go_enter Tryz.func42,Tryz.ntmps42;go_wp2;go_ret;exact⟨rfl,rfl⟩
def Fz.asR(h:Fz Fq W0 w){s:Nat->Prop}(hk:Kept s w w')(hs:∀b,Live W0 b->s b):Fz Fq W0 w':=
 ⟨h.below.kept hk hs,h.low,λb a=>h.high b (Qz hk.size a)⟩
def Fz.ajS(h:Fz Fq W0 w){g:Nat}(hg:¬Fq g):∀b,Live W0 b->b≠g:=λb a e=>hg (e ▸ h.low b a)
def Yi{w w':U}{s:Nat->Prop}(hk:Kept s w w'){b o:Nat}{v:Value}(h:UK w (aD b o)=O v)(hs:s b):UK w' (aD b o)=O v:=by rw[QL (hk.block b (QK h) hs)];exact h
def Jk:=@Yi
