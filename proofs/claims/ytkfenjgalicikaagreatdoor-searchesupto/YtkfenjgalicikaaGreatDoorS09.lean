import Derived.Test.YtkfenjgalicikaaGreatDoorS05
set_option linter.all false
set_option maxRecDepth 100000
set_option maxHeartbeats 0
namespace Go.Proofs.Zz
open Go.RowKit Go.Shelf Go.Proofs.Tryz
open List renaming length->N,getD->E
open Go.Value renaming slice->Z,int->I,bool->Qq
open Go.Proofs.Tryz renaming prog->V
open Option renaming some->O
open Go.IntKind renaming i64->J
open Bool renaming false->F,true->T
open Go renaming World->U
open Go.World renaming cell?->Qo
variable {α:Type} {n:ay} {S a b c i j k s:Nat} {ns:JK ay} {ts:JK af} {q:ae} {ps:JK dG} {l:JK bF} {t u:bF} {Iq conc:JK Nat} {key:Int} {o:IC} {g:JK aK} {x:Nat × bF} {Hq:JK bB} {rk:Nat->Int} {σ:fE}
theorem qH(a b:List α)(d:α)(i:Nat):E (a++b) i d=if i<N a then E a i d else E b (i-N a) d:=by grind
structure gU(n:ay)(i:Nat):Prop where
 lo:1<=n.kind
 hi:n.kind<=10
 more:xJ n=T
 l:1<=bg n.kind->0<=n.l/\n.l<i
 r:2<=bg n.kind->0<=n.r/\n.r<i
def Ey(n:ay)(i:Nat):p8 n i=T↔gU n i:=by
 unfold p8;simp only[Q8,Bool.or_eq_true,Zi];constructor
 .rintro⟨⟨⟨⟨a,b⟩,d⟩,e⟩,f⟩;exact⟨a,b,d,λh=>X,λh=>X⟩
 .intro h;refine⟨⟨⟨⟨h.lo,h.hi⟩,h.more⟩,?_⟩,?_⟩
  .by_cases a:1<=bg n.kind
   .exact .inr (h.l a)
   omega
  .by_cases a:2<=bg n.kind
   .exact .inr (h.r a)
   omega
theorem Ez(k:Int):bg k<=2:=by grind [bg]
def Gl(h:gU n i)(hk:i+k<=1000):gU (dO k n) (i+k)/\(1<=bg n.kind->(dO k n).l=n.l+k)/\(2<=bg n.kind->(dO k n).r=n.r+k):=by
 have d:1<=bg n.kind->(dO k n).l=n.l+k:=λa=>by have:=h.l a;show (if 1<=bg n.kind then wrap64 (n.l+k) else n.l)=_;rw[Zd a];unfold wrap64;omega
 have e:2<=bg n.kind->(dO k n).r=n.r+k:=λa=>by have:=h.r a;show (if 2<=bg n.kind then wrap64 (n.r+k) else n.r)=_;rw[Zd a];unfold wrap64;omega
 refine⟨⟨h.lo,h.hi,?_,λa=>?_,λa=>?_⟩,d,e⟩
 .have b:=h.more;unfold xJ at b ⊢;rw[Zi]at b ⊢;obtain⟨g,j,f⟩:=b;refine⟨?_,?_,f⟩
  .by_cases a:1<=bg n.kind
   .exact .inl a
   .right
    show (if 1<=bg n.kind then wrap64 (n.l+k) else n.l)=0;omega
  .by_cases a:2<=bg n.kind
   .exact .inl a
   .right
    show (if 2<=bg n.kind then wrap64 (n.r+k) else n.r)=0;omega
 .have:=h.l a;rw[d a];omega
 .have:=h.r a;rw[e a];omega
def ins(n:ay):JK Nat:=if bg n.kind=0 then [] else if bg n.kind=1 then [n.l.toNat] else [n.l.toNat,n.r.toNat]
def rH(ns:JK ay)(k:Nat):Nat:=(ns.map λn=>(ins n).count k).sum
theorem alU(h:gU (E ns i nz) i):qN ns i=ins (E ns i nz):=by
 unfold qN ins;simp only[];have a:=Ez (E ns i nz).kind;split
 .rfl
 .split
  .rw[Zd (h.l X)]
  .have b:=h.l X;have d:=h.r X
   simp_all
theorem adS(ns:JK ay)(f:ay->Nat):dV (N ns) (λi=>f (E ns i nz))=(ns.map f).sum:=by unfold dV;grind [List.ext_getElem,List.length_map]
theorem alV(h:∀i,i<N ns->gU (E ns i nz) i)(k:Nat):dV (N ns) (λi=>(qN ns i).count k)=rH ns k:=by grind [rH,adS,nW,alU]
theorem NK(a b:JK ay)(k:Nat):rH (a++b) k=rH a k+rH b k:=by grind [rH]
theorem Tm(h:∀n∈ns,k ∉ ins n):rH ns k=0:=by
 unfold rH
 induction ns with
 |nil=>rfl
 |cons n ns ih =>
  grind
theorem aue(h:gU n i):∀k∈ins n,k<i:=by
 intro k a;unfold ins at a;split at a
 .cases a
 .split at a
  .have:=h.l X
   simp_all
  .have b:=Ez n.kind;have d:=h.l X;have e:=h.r X
   grind
theorem aay(h:gU n i)(hk:i+k<=1000):ins (dO k n)=(ins n).map (· + k):=by
 obtain⟨_,a,b⟩:=Gl h hk;unfold ins;show (if bg n.kind=0 then [] else if bg n.kind=1 then [(dO k n).l.toNat] else [(dO k n).l.toNat,(dO k n).r.toNat])=_;have d:=Ez n.kind;split
 .rfl
 .split
  .have:=h.l X;rw[a X];simp;omega
  .have e:=h.l X;have f:=h.r X;rw[a X,b X];simp;omega
theorem aaz(l:JK Nat)(k j:Nat):(l.map (· + k)).count (j+k)=l.count j:=by
 induction l with
 |nil=>rfl
 |cons a l ih =>
  grind
theorem H8(h:∀i,i<N ns->gU (E ns i nz) i)(hk:N ns+k<=1000)(j:Nat):rH (ns.map (dO k)) (j+k)=rH ns j:=by unfold rH;rw[Xe];congr 1;apply ZH;intro n b;obtain⟨i,a,rfl⟩:=Ze b;have d:=h i a;grind [aay,aaz]
structure LQ(ts:JK af)(q:ae)(ns:JK ay)(ps:JK dG):Prop where
 len:N ps=N ns
 st:∀i,i<N ns->gU (E ns i nz) i
 fit:∀i,i<N ns->(nE (E ns i nz).kind (iK (E ns i nz) ps) (gD (E ns i nz) ps)&&pI ts q (E ns i nz) (iK (E ns i nz) ps) (gD (E ns i nz) ps))=T
 part:∀i,i<N ns->E ps i pz=eP ts q (E ns i nz) (iK (E ns i nz) ps) (gD (E ns i nz) ps)
theorem LQ.nil(ts:JK af)(q:ae):LQ ts q [] []:=⟨rfl,λi a=>absurd a Qa,λi a=>absurd a Qa,λi a=>absurd a Qa⟩
theorem CU(h:gU n i){a b:JK dG}(e:∀j,j<i->E a j pz=E b j pz):iK n a=iK n b/\gD n a=gD n b:=by
 unfold iK gD;constructor
 .split
  .rename_i h1
   have:=h.l h1;simp_all
  .rfl
 .split
  .rename_i h1
   have:=h.r X;simp_all
  .rfl
theorem LQ.app{ms:JK ay}{qs:JK dG}(h:LQ ts q ns ps)(g:LQ ts q ms qs)(hl:N ms+N ns<=1000):LQ ts q (ns++ms.map (dO (N ns))) (ps++qs):=by
 have key:∀i,i<N (ns++ms.map (dO (N ns)))->gU (E (ns++ms.map (dO (N ns))) i nz) i/\
   ((i<N ns/\E (ns++ms.map (dO (N ns))) i nz=E ns i nz/\iK (E ns i nz) (ps++qs)=iK (E ns i nz) ps/\gD (E ns i nz) (ps++qs)=gD (E ns i nz) ps)∨
    (∃j,j<N ms/\i=N ns+j/\E (ns++ms.map (dO (N ns))) i nz=dO (N ns) (E ms j nz)/\iK (dO (N ns) (E ms j nz)) (ps++qs)=iK (E ms j nz) qs/\gD (dO (N ns) (E ms j nz)) (ps++qs)=gD (E ms j nz) qs)):=by
  intro i a;rw[Zt,ZX]at a;by_cases n:i<N ns
  .have e:E (ns++ms.map (dO (N ns))) i nz=E ns i nz:=Qf
   have d:=h.st i n;grind [CU,LQ.len]
  .obtain⟨j,rfl⟩:∃j,i=N ns+j:=⟨i-N ns,X⟩
   have b:j<N ms:=X;have e:E (ns++ms.map (dO (N ns))) (N ns+j) nz=dO (N ns) (E ms j nz):=by simp_all
   have d:=g.st j b;obtain⟨p,f,m⟩:=Gl d (k:=N ns) X;refine⟨Qb,.inr ⟨j,b,rfl,e,?_,?_⟩⟩
   .unfold iK
    show (if 1<=bg (E ms j nz).kind then _ else _)=_;split
    .rename_i h1
     have:=d.l h1;rw[f h1,qH,Zk (by rw[h.len];omega),h.len];grind
    .rfl
   .unfold gD
    show (if bg (E ms j nz).kind=2 then _ else _)=_;split
    .rename_i h1
     have:=d.r X;rw[m X,qH,Zk (by rw[h.len];omega),h.len];grind
    .rfl
 refine⟨by grind [LQ.len],λi a=>(key i a).1,λi a=>?_,λi a=>?_⟩
 .rcases (key i a).2 with⟨h1,e,e1,e2⟩|⟨j,b,rfl,e,e1,e2⟩
  .rw[e,e1,e2];exact h.fit i h1
  .rw[e,e1,e2];exact g.fit j b
 .rcases (key i a).2 with⟨h1,e,e1,e2⟩|⟨j,b,rfl,e,e1,e2⟩
  .rw[e,e1,e2,qH,Zd (by grind [LQ.len])];exact h.part i h1
  .rw[e,e1,e2,qH,Zk (by grind [LQ.len]),h.len,Nat.add_sub_cancel_left];exact g.part j b
theorem LQ.agy(h:LQ ts q ns ps)(hs:gU n (N ns))(hf:(nE n.kind (iK n ps) (gD n ps)&&pI ts q n (iK n ps) (gD n ps))=T):LQ ts q (ns++[n]) (ps++[eP ts q n (iK n ps) (gD n ps)]):=by
 have a:∀{m:ay} {i:Nat},gU m i->i<=N ns->iK m (ps++[eP ts q n (iK n ps) (gD n ps)])=iK m ps/\gD m (ps++[eP ts q n (iK n ps) (gD n ps)])=gD m ps:=λd b=>CU d λj f=>by grind [LQ.len]
 have key:∀i,i<N (ns++[n])->(i<N ns/\E (ns++[n]) i nz=E ns i nz)∨(i=N ns/\E (ns++[n]) i nz=n):=λi b=>by grind
 refine⟨by grind [LQ.len],λi b=>?_,λi b=>?_,λi b=>?_⟩
 .grind [LQ.st]
 .rcases key i b with⟨h1,e⟩|⟨rfl,e⟩
  .rw[e,(a (h.st i h1) X).1,(a (h.st i h1) X).2];exact h.fit i h1
  grind
 .rcases key i b with⟨h1,e⟩|⟨rfl,e⟩
  .rw[e,(a (h.st i h1) X).1,(a (h.st i h1) X).2,qH,Zd (by grind [LQ.len])];exact h.part i h1
  .rw[e,(a hs X).1,(a hs X).2,qH,Zk (by grind [LQ.len]),h.len,Nat.sub_self];rfl
theorem LQ.parts{ts:JK af}{q:ae}{ns:JK ay}{ps:JK dG}(h:LQ ts q ns ps):∀k,k<=N ns->mO ts q ns k=O (ps.take k)
 |0,_=>rfl
 |k+1,hk=>by
  show (mO ts q ns k).bind (zV ts q (E ns k nz))=_;rw[h.parts k X];show zV ts q (E ns k nz) (ps.take k)=_;have hl:=h.len;obtain⟨e1,e2⟩:=CU (h.st k X) (a:=ps.take k) (b:=ps) (λj hj=>by
   simp_all)
  unfold zV;rw[e1,e2,Zd (h.fit k X),<-h.part k X,Q5 X];grind
structure TF(ts:JK af)(q:ae)(t:bF):Prop where
 ex:∃ps,LQ ts q t.ns ps/\E ps (N t.ns-1) pz=t.d
 pos:0<N t.ns
 once:∀k,k+1<N t.ns->rH t.ns k=1
structure aaB(n:ay):Prop where
 lo:1<=n.kind
 hi:n.kind<=10
 source:n.kind=1∨n.source=0
 key:n.kind=4∨n.kind=5∨n.key=0
 cl:n.kind=2∨3<=n.kind/\n.kind<=5∨N n.cl.xs=0
 co:n.kind=6∨N n.co.xs=0
def jV(n:ay)(l r:Int):ay:=⟨n.kind,l,r,n.source,⟨none,0,n.cl.xs⟩,n.key,⟨none,0,n.co.xs⟩⟩
def EA(h:aaB n){l r:Int}(hl:(1<=bg n.kind->0<=l/\l<i)/\(¬1<=bg n.kind->l=0))(hr:(2<=bg n.kind->0<=r/\r<i)/\(¬2<=bg n.kind->r=0)):gU (jV n l r) i:=by
 refine⟨h.lo,h.hi,?_,hl.1,hr.1⟩;unfold xJ;rw[Zi];refine⟨?_,?_,h.source,h.key,h.cl,h.co⟩
 .by_cases a:1<=bg n.kind
  .exact .inl a
  .exact .inr (hl.2 a)
 .by_cases a:2<=bg n.kind
  .exact .inl a
  .exact .inr (hr.2 a)
def Gn(h:∀i,i<N ns->gU (E ns i nz) i)(hk:N ns<=k+1):rH ns k=0:=by refine Tm λn d e=>?_;obtain⟨i,b,rfl⟩:=Ze d;have a:=h i b;rw[Js,XG b]at a;have:=aue (show gU ns[i] i from a) k e;omega
def aaC(n:ay)(k:Nat):rH [n] k=(ins n).count k:=by rfl
theorem alX(h:∀i,i<N ns->gU (E ns i nz) i)(hk:N ns+k<=1000)(hj:j<k):rH (ns.map (dO k)) j=0:=by refine Tm λn d f=>?_;obtain⟨m,a,rfl⟩:=Xc.1 d;obtain⟨i,b,rfl⟩:=Ze a;have e:=h i b;grind [aay]
def aaD(a:List α)(x d:α){n:Nat}(h:n=N a):E (a++[x]) n d=x:=by simp_all
def TF.ay0(hn:aaB n)(ha:bg n.kind=0)(hf:(nE n.kind pz pz&&pI ts q n pz pz)=T):TF ts q (aS ts q n []):=by
 have e:(aS ts q n []).ns=[]++[jV n 0 0]:=rfl;have d:gU (jV n 0 0) (N ([]:JK ay)):=EA hn ⟨λh=>X,λ_=>rfl⟩ ⟨λh=>X,λ_=>rfl⟩;have a:iK (jV n 0 0) []=pz:=by unfold iK;split <;> rfl
 have b:gD (jV n 0 0) []=pz:=by unfold gD;split <;> rfl
 have h:=(LQ.nil ts q).agy d (by rw[a,b];exact hf);refine⟨⟨_,by rw[e];exact h,?_⟩,by rw[e];simp,λk f=>?_⟩
 .rw[a,b,e];rfl
 simp_all
def TF.afC{a:bF}(hn:aaB n)(ha:bg n.kind=1)(h:TF ts q a)(hl:N a.ns<=900)(hf:(nE n.kind a.d pz&&pI ts q n a.d pz)=T):TF ts q (aS ts q n [a]):=by
 obtain⟨ps,b,hd⟩:=h.ex;have l:=(LQ.nil ts q).app b Qi;have v:=h.pos;have f:N ([]++a.ns.map (dO 0))=N a.ns:=Qa;have e:(aS ts q n [a]).ns=([]++a.ns.map (dO 0))++[jV n ((N a.ns:Int)-1) 0]:=by show jF [a.ns]++[_]=_;unfold jF jV;show _++[(⟨n.kind,(N (jF [a.ns]):Int)-1,0,_,_,_,_⟩:ay)]=_;rw[show N (jF [a.ns])=N a.ns by simp[jF]];rfl
 have m:gU (jV n ((N a.ns:Int)-1) 0) (N ([]++a.ns.map (dO 0))):=by rw[f];exact EA hn ⟨λ_=>X,λh=>X⟩ ⟨λh=>X,λ_=>rfl⟩
 have i:iK (jV n ((N a.ns:Int)-1) 0) ([]++ps)=a.d:=by unfold iK;show (if 1<=bg n.kind then _ else _)=_;rw[Zd X,<-hd];show E ps ((N a.ns:Int)-1).toNat pz=_;simp_all
 have j:gD (jV n ((N a.ns:Int)-1) 0) ([]++ps)=pz:=by unfold gD;show (if bg n.kind=2 then _ else _)=_;simp_all
 have p:=l.agy m (by rw[i,j];exact hf);refine⟨⟨_,by rw[e];exact p,?_⟩,by rw[e];simp,λk u=>?_⟩
 .rw[i,j,e];exact aaD _ _ _ (by rw[Zt,Xh,Nat.add_sub_cancel,f];simp[b.len])
 .rw[e,Zt,f,Xh]at u;rw[e,NK,aaC,List.nil_append];have r:rH (a.ns.map (dO 0)) k=rH a.ns k:=H8 (k:=0) b.st X k;have t:ins (jV n ((N a.ns:Int)-1) 0)=[N a.ns-1]:=by unfold ins;show (if bg n.kind=0 then [] else if bg n.kind=1 then [((N a.ns:Int)-1).toNat] else _)=_;simp_all
  rw[r,t,List.count_singleton];by_cases g:k+1<N a.ns
  .rw[h.once k g,Zk Qi]
  .rw[Gn b.st X,Zd Qi]
def TF.arY{a b:bF}(hn:aaB n)(ha:bg n.kind=2)(h:TF ts q a)(g:TF ts q b)(hl:N a.ns+N b.ns<=900)(hf:(nE n.kind a.d b.d&&pI ts q n a.d b.d)=T):TF ts q (aS ts q n [a,b]):=by
 obtain⟨ps,i,hd⟩:=h.ex;obtain⟨qs,l,P⟩:=g.ex;have R:=h.pos;have S:=g.pos;have A:=(LQ.nil ts q).app i Qi;have p:N ([]++a.ns.map (dO (N ([]:JK ay))))=N a.ns:=Qa;have u:=A.app l Qi;obtain⟨L,f⟩:=eY (([]++a.ns.map (dO (N ([]:JK ay))))++b.ns.map (dO (N ([]++a.ns.map (dO (N ([]:JK ay)))))));have m:N L=N a.ns+N b.ns:=Qf;rw[<-f]at u;have e:(aS ts q n [a,b]).ns=L++[jV n ((N a.ns:Int)-1) (((N a.ns+N b.ns:Nat):Int)-1)]:=by
  show jF [a.ns,b.ns]++[(⟨n.kind,(N (jF [a.ns]):Int)-1,(N (jF [a.ns,b.ns]):Int)-1,_,_,_,_⟩:ay)]=_;have B:jF [a.ns,b.ns]=L:=by rw[f];rfl
  rw[B,m,show (N (jF [a.ns]))=N a.ns by simp[jF]];rfl
 have C:gU (jV n ((N a.ns:Int)-1) (((N a.ns+N b.ns:Nat):Int)-1)) (N L):=by rw[m];exact EA hn ⟨λ_=>X,λh=>X⟩ ⟨λ_=>X,λh=>X⟩
 have v:N ([]++ps)=N a.ns:=by simp[i.len]
 have y:iK (jV n ((N a.ns:Int)-1) (((N a.ns+N b.ns:Nat):Int)-1)) (([]++ps)++qs)=a.d:=by unfold iK;show (if 1<=bg n.kind then _ else _)=_;rw[Zd X,<-hd];show E (([]++ps)++qs) ((N a.ns:Int)-1).toNat pz=_;rw[qH,Zd X];simp_all
 have z:gD (jV n ((N a.ns:Int)-1) (((N a.ns+N b.ns:Nat):Int)-1)) (([]++ps)++qs)=b.d:=by unfold gD;show (if bg n.kind=2 then _ else _)=_;rw[Zd ha,<-P];show E (([]++ps)++qs) (((N a.ns+N b.ns:Nat):Int)-1).toNat pz=_;rw[qH,Zk X,v];congr 1;omega
 have D:=u.agy C (by rw[y,z];exact hf);refine⟨⟨_,by rw[e];exact D,?_⟩,by rw[e];simp,λk Q=>?_⟩
 .rw[y,z,e];exact aaD _ _ _ (by rw[Zt,Xh,Nat.add_sub_cancel,m,Zt,v,l.len])
 .rw[e,Zt,m,Xh]at Q;have G:ins (jV n ((N a.ns:Int)-1) (((N a.ns+N b.ns:Nat):Int)-1))=[N a.ns-1,N a.ns+N b.ns-1]:=by
   unfold ins;show (if bg n.kind=0 then [] else if bg n.kind=1 then _ else [((N a.ns:Int)-1).toNat,(((N a.ns+N b.ns:Nat):Int)-1).toNat])=_;rw[Zk X,Zk X];congr 1
   .omega
   .congr 1;omega
  have K:rH ([]++a.ns.map (dO (N ([]:JK ay)))) k=rH a.ns k:=H8 (k:=0) i.st X k;rw[e,NK,aaC,f,NK,K,G,List.count_cons,List.count_singleton,p];by_cases r:k<N a.ns
  .rw[alX l.st X r,Zk Qi];by_cases t:k+1<N a.ns
   .rw[h.once k t,Zk Qi]
   .rw[Gn i.st X,Zd Qi]
  .obtain⟨j,rfl⟩:∃j,k=j+N a.ns:=⟨k-N a.ns,X⟩
   rw[Gn i.st X,H8 l.st X,Zk (show ¬(N a.ns-1==j+N a.ns)=T by simp;omega)];by_cases t:j+1<N b.ns
   .rw[g.once j t,Zk Qi]
   .rw[Gn l.st X,Zd Qi]
theorem TF.ah6(h:TF ts q t)(hl:N t.ns<=64)(he:∀ps,LQ ts q t.ns ps->(gI (E t.ns (N t.ns-1) nz).kind&&kF q (E t.ns (N t.ns-1) nz).kind (E ps (E t.ns (N t.ns-1) nz).l.toNat pz).aH)=T):∃b,AX ts q t.ns=O b/\N b=N t.ns/\E b (N b-1) pz=t.d:=by
 obtain⟨ps,a,hd⟩:=h.ex;have e:=h.pos;have f:nZ t.ns=true:=by
  unfold nZ;simp only[Q8,Zi];refine⟨⟨⟨X,hl⟩,?_⟩,?_⟩
  .rw[Q9];intro i j;exact(Ey _ _).2 (a.st i Qf)
  .unfold FD;rw[Q9];intro k m;rw[Zi,alV a.st];have g:k<N t.ns-1:=Qf
   exact h.once k X
 refine⟨ps,?_,a.len,by rw[a.len];exact hd⟩;unfold AX;rw[Zk Qf,a.parts _ (Zb _),XW (by rw[a.len];omega)];grind
structure QF(ts:JK af)(q:ae):Prop where
 ok:Ok ts q
 one:1<=N q.au.xs
 jM:N q.au.xs<=5
 ko:N q.wh<=8
 aC:∀c∈q.aC.xs,0<=c/\c<aX ts q.au.xs
 apart:dK q.aC.xs=T
 ac9:q.aF=F->∀c∈jk q,0<=c/\c<aX ts q.au.xs
theorem Gp(conc:JK Nat)(s:Nat):∀k i,(jO conc s k).testBit i=(decide (i<k)&&bV s (E conc i 0))
 |0,i=>by simp[jO]
 |k+1,i=>by have ih:=Gp conc s k i;grind [jO.eq_def]
theorem uf(conc:JK Nat)(s i:Nat):(bJ conc s).testBit i=(decide (i<N conc)&&bV s (E conc i 0)):=Gp conc s (N conc) i
theorem nQ(ha:a<18446744073709551616)(hb:b<18446744073709551616):bV a b=T↔∀i,b.testBit i=T->a.testBit i=true:=by grind [bV,Mm]
def alY(hi:i<N q.wh):E (q.wh.map λc=>bn (iO ts q.au.xs c.cs)) i 0=bn (iO ts q.au.xs (E q.wh i lz).cs):=by simp_all
def NM(h:QF ts q)(hi:i<N q.wh):bn (iO ts q.au.xs (E q.wh i lz).cs)<2 ^ (N q.au.xs):=uL (wX h.ok.qP h.ok.au (h.ok.bU i hi))
def qg{n:Nat}(h:n<=5)(ha:a<2 ^ n):a<18446744073709551616:=ZO ha (ZU (ZP X h) Qc)
def NN{n:Nat}(h:n<=8)(ha:a<2 ^ n):a<2 ^ 64:=ZO ha (ZP X X)
theorem Ku(hj:j<N (bS s)):E (dZ s) j 0=(((bS s)[j]:Nat):Int):=by grind [dZ]
theorem Kv(h:i∈bS s):s.testBit i=true:=(List.mem_filter.1 h).2
def Vf(s:Nat):(bS s).Pairwise (· < ·):=List.Pairwise.filter _ List.pairwise_lt_range
theorem alZ(h:∀i,c.testBit i=T->i<N q.wh/\bV S (bn (iO ts q.au.xs (E q.wh i lz).cs))=T):vg ts q (dZ c) S=true:=by
 unfold vg;rw[Q9];intro j k;have e:N (dZ c)=N (bS c):=by grind [dZ]
 have a:j<N (bS c):=Qf;rw[Ku a];have b:=Q6 a;obtain⟨g,d⟩:=h _ (Kv b);simp only[Q8,Zi,XY];refine⟨⟨?_,X⟩,d⟩;split
 .omega
 .have f:=List.pairwise_iff_getElem.1 (Vf c) (j-1) j X a X
  grind [Ku]
theorem sP(h:s<2 ^ 64):bn (dZ s)=s:=by
 apply ZQ;intro i;rw[ZM (λx d=>by grind [dZ])];by_cases a:s.testBit i=T
 .rw[a,Zi];have b:i<64:=by
   by_cases b:i<64
   .exact b
   .rw[ZN (ZO h (ZP X X))]at a
    cases a
  exact Xc.2 ⟨i,List.mem_filter.2 ⟨by simp[b],a⟩,rfl⟩
 grind [dZ,Kv]
theorem al0(h:s<2 ^ 64)(h0:s≠0):0<N (dZ s):=by grind [bn,sP]
theorem NP(hc:N conc<=8)(ha:a<2 ^ 5)(hb:b<2 ^ 5)(hx:∀i,i<N conc->E conc i 0<2 ^ 5):bX conc a b|||bJ conc a|||bJ conc b=bJ conc (a|||b):=by
 apply ZQ;intro i;have aT:∀s,bJ conc s<2 ^ (N conc):=λs=>lU conc s (N conc);have V3:∀s,bJ conc s<18446744073709551616:=λs=>ZO (aT s) (ZU (ZP X hc) Qc);have hor:bJ conc a|||bJ conc b<18446744073709551616:=XV (n:=64) (V3 a) (V3 b);by_cases hi:i<N conc
 .have hmono:∀s,s<2 ^ 5->(∀j,s.testBit j=T->(a|||b).testBit j=T)->(bJ conc s).testBit i=T->(bJ conc (a|||b)).testBit i=true:=by intro s hs hsub h1;rw[uf,Q8]at h1 ⊢;have bL:s<18446744073709551616:=Nat.lt_trans hs Qc;have hb2:a|||b<18446744073709551616:=Nat.lt_trans (XV ha hb) Qc;grind [nQ]
  grind [bX,Fs]
 grind [uf,bX]
def pcN(s:Nat):Nat:=N (bS s)
def auh:∀a,a<32->∀b,b<32->a &&& b=0->pcN (a|||b)=pcN a+pcN b:=by unfold pcN bS;decide +kernel
def aui:∀s,s<32->pcN s<=5:=by unfold pcN bS;decide +kernel
def apN:∀i,i<5->pcN (2 ^ i)=1:=by unfold pcN bS;decide +kernel
def dh(ts:JK af)(q:ae):JK Nat:=q.wh.map λc=>bn (iO ts q.au.xs c.cs)
def sQ(ts:JK af)(q:ae):N (dh ts q)=N q.wh:=by unfold dh;simp
structure TS(ts:JK af)(q:ae)(t:bF):Prop where
 tf:TF ts q t
 au:t.d.ah<2 ^ (N q.au.xs)
 cls:t.d.aG=bJ (dh ts q) t.d.ah
 out:gI t.d.kind=F
def Vg(ts:JK af)(q:ae)(n:ay)(a:bF)(h1:n.kind≠1):(aS ts q n [a]).d.kind=n.kind/\(aS ts q n [a]).d.ah=a.d.ah/\(aS ts q n [a]).d.aG=bn n.cl.xs|||a.d.aG:=by
 refine⟨rfl,?_,?_⟩
 .show (if n.kind=1 then 2 ^ n.source.toNat else 0)|||a.d.ah|||0=_
  simp_all
 .show bn n.cl.xs|||a.d.aG|||0=_
  simp_all
def afE(ts:JK af)(q:ae)(n:ay)(a b:bF)(h1:n.kind≠1):(aS ts q n [a,b]).d.kind=n.kind/\(aS ts q n [a,b]).d.ah=a.d.ah|||b.d.ah/\(aS ts q n [a,b]).d.aG=bn n.cl.xs|||a.d.aG|||b.d.aG:=by refine⟨rfl,?_,rfl⟩;show (if n.kind=1 then 2 ^ n.source.toNat else 0)|||a.d.ah|||b.d.ah=_;simp_all
def xR{k:Int}{l r:dG}(hk:k≠10)(hl:gI l.kind=F)(hr:gI r.kind=F):nE k l r=true:=by unfold nE;simp_all
def Ib:gI pz.kind=false:=Qc
def xS(hi:i<N q.wh):E (dh ts q) i 0=bn (iO ts q.au.xs (E q.wh i lz).cs):=alY hi
def zC(ts:JK af)(q:ae)(h:∀i,c.testBit i=T->(bJ (dh ts q) S).testBit i=T):vg ts q (dZ c) S=true:=by refine alZ λi b=>?_;have a:=h i b;rw[uf,Q8,Zi,sQ]at a;rw[<-xS a.1];exact a
theorem xU(ts:JK af)(q:ae)(h8:N q.wh<=8)(s:Nat):bJ (dh ts q) s<2 ^ 64:=by have:=lU (dh ts q) s (N (dh ts q));rw[sQ]at this;exact NN h8 (by unfold bJ;rw[sQ];exact this)
def Vh{s:Int}(h0:0<=s)(h1:s<N q.au.xs):TF ts q (aS ts q (lh s) []):=by refine TF.ay0 ⟨by show (1:Int)<=1;decide,by show (1:Int)<=10;decide,.inl rfl,.inr (.inr rfl),.inr (.inr rfl),.inr rfl⟩ Qh ?_;rw[xR (by show (1:Int)≠10;decide) Ib Ib,Zm];show (if (1:Int)=1 then decide (0<=s)&&decide (s<N q.au.xs) else _)=T;simp_all
def afF(h:TF ts q t)(hl:N t.ns<=900)(ho:gI t.d.kind=F)(hc:c<2 ^ 64)(hn:c≠0)(hr:vg ts q (dZ c) t.d.ah=T):TF ts q (aS ts q (Dx (dZ c)) [t]):=by refine TF.afC ⟨by show (1:Int)<=2;decide,by show (2:Int)<=10;decide,.inr rfl,.inr (.inr rfl),.inl rfl,.inr rfl⟩ Qh h hl ?_;rw[xR (by show (2:Int)≠10;decide) ho Ib,Zm];show (if (2:Int)=1 then _ else if (2:Int)=2 then decide (0<N (dZ c))&&vg ts q (dZ c) t.d.ah else _)=T;rw[Zk Qc,Zd rfl,hr,Zl (al0 hc hn)];rfl
theorem zD(hq:QF ts q){s:Int}(h0:0<=s)(h1:s<N q.au.xs):TS ts q (dE ts q (dh ts q) s)/\(dE ts q (dh ts q) s).d.ah=2 ^ s.toNat/\(dE ts q (dh ts q) s).ns.length<=2:=by
 have b:=Vh (ts:=ts) h0 h1;have a:=yT ts q s;have l:(aS ts q (lh s) []).d.kind=1:=rfl;have m:(aS ts q (lh s) []).ns.length=1:=rfl;have f:(aS ts q (lh s) []).d.aG=0:=by show bn []|||0|||0=0;rfl
 have n:2 ^ s.toNat<2 ^ (N q.au.xs):=XR X X;unfold dE dz;simp only[a];split
 .rename_i hz
  exact⟨⟨b,X,Qf,Qh⟩,a,X⟩
 .rename_i hz
  have g:=xU ts q hq.ko (2 ^ s.toNat);have j:=afF b X Qh g hz (zC ts q (λi r=>Qf));obtain⟨p,e,k⟩:=Vg ts q (Dx (dZ (bJ (dh ts q) (2 ^ s.toNat)))) (aS ts q (lh s) []) (by show (2:Int)≠1;decide);refine⟨⟨j,X,?_,Qh⟩,by rw[e,a],?_⟩
  .rw[e,k,a];rw[f]
   show bn (dZ (bJ (dh ts q) (2 ^ s.toNat)))|||0=_;grind [sP]
  .rw[Jk ts q _ Qa]
   show (aS ts q (lh s) []).ns.length+0+1<=2;omega
theorem apO(hq:QF ts q){a b:bF}(ha:TS ts q a)(hb:TS ts q b)(GN:a.d.ah &&& b.d.ah=0)(hl:N a.ns+N b.ns<=900){k:Int}(hn:n=fq k (dZ (bX (dh ts q) a.d.ah b.d.ah)) key)(hk:(k=3/\key=0)∨(k=4/\(lZ ts q n a.d.ah b.d.ah).2.2=T)∨(k=5/\(lZ ts q n a.d.ah b.d.ah).2.2=T/\aN a.d.aH [(lZ ts q n a.d.ah b.d.ah).1]=T/\aN b.d.aH [(lZ ts q n a.d.ah b.d.ah).2.1]=T)) :
  TS ts q (aS ts q n [a,b])/\(aS ts q n [a,b]).d.ah=a.d.ah|||b.d.ah:=by
 have t:=hq.jM;have D:=XV ha.au hb.au;have g:∀x,x<2 ^ (N q.au.xs)->x<2 ^ 5:=λx C=>ZO C (ZP X t);have j:bX (dh ts q) a.d.ah b.d.ah<2 ^ 64:=by have:=yX (dh ts q) a.d.ah b.d.ah;rw[sQ]at this;exact NN hq.ko this
 have p:n.cl.xs=dZ (bX (dh ts q) a.d.ah b.d.ah):=by rw[hn];rfl
 have e:n.kind=k:=by rw[hn];rfl
 have u:n.key=key:=by rw[hn];rfl
 have l:n.source=0:=by rw[hn];rfl
 have v:N n.co.xs=0:=by rw[hn];rfl
 have y:3<=k/\k<=5:=X;have z:zU ts q n a.d.ah b.d.ah=true:=by unfold zU;rw[Zl GN,Zm,p];refine zC ts q λi f=>?_;unfold bX at f;simp_all
 have m:=NP (conc:=dh ts q) (by rw[sQ];exact hq.ko) (g _ ha.au) (g _ hb.au) (λi f=>by
  rw[sQ]at f;rw[xS f];exact g _ (NM hq f))
 obtain⟨A,r,B⟩:=afE ts q n a b X;refine⟨⟨TF.arY ⟨X,X,.inr l,?_,.inr (.inl X),.inr v⟩ ?_ ha.tf hb.tf hl ?_,X,?_,?_⟩,r⟩
 .omega
 .rw[e]
  grind [bg]
 .rw[xR X ha.out hb.out,Zm];unfold pI
  grind
 .rw[r,B,p,sP j,ha.cls,hb.cls];exact m
 .rw[A,e]
  grind [gI]
def Tt{a:bF}(ha:TS ts q a)(hl:N a.ns<=900)(ho:uG ts q.au.xs o a.d.ah=T):TS ts q (bW ts q a o):=by
 obtain⟨f,b,e⟩:=Vg ts q (Sa o) a (by show (6:Int)≠1;decide);refine⟨TF.afC ⟨by show (1:Int)<=6;decide,by show (6:Int)<=10;decide,.inr rfl,.inr (.inr rfl),.inr (.inr rfl),.inl rfl⟩ Qh ha.tf hl ?_,by show (aS ts q (Sa o) [a]).d.ah<_;rw[b];exact ha.au,?_,?_⟩
 .rw[xR (by show (6:Int)≠10;decide) ha.out Ib,Zm]
  show (if (6:Int)=1 then _ else if (6:Int)=2 then _ else if (6:Int)=3 then _ else if (6:Int)=4 then _ else if (6:Int)=5 then _ else if (6:Int)=6 then uG ts q.au.xs o a.d.ah else _)=T;simp_all
 .show (aS ts q (Sa o) [a]).d.aG=bJ _ (aS ts q (Sa o) [a]).d.ah
  rw[b,e];show 0|||a.d.aG=_;rw[Nat.zero_or];exact ha.cls
 rfl
def JJ:=@sQ
structure PF(ts:JK af)(q:ae)(s:Nat)(t:bF):Prop where
 ts':TS ts q t
 au:t.d.ah=s
 len:N t.ns+2<=5*pcN s
structure GF(ts:JK af)(q:ae)(s:Nat)(g:JK aK):Prop where
 all:∀p∈g,∀x,p.2=O x->PF ts q s x.2
 head:∀x,df g=O x->N x.ns+3<=5*pcN s
 ay2:∀o∈(g.map Prod.fst).drop 1,uG ts q.au.xs o s=T
def s32(hq:QF ts q)(h:s<2 ^ (N q.au.xs)):s<32:=ZO h (ZP X hq.jM)
def PF.ig(hq:QF ts q)(h:PF ts q s t):N t.ns<=23:=by have a:=aui s (s32 hq (h.au ▸ h.ts'.au));have:=h.len;omega
theorem GF.FY(h:GF ts q s g)(hx:x∈fB g):PF ts q s x.2:=by
 rcases oz g [] x hx with a|⟨p,b,e⟩
 .cases a
 grind [GF.all]
theorem Kw(jw:Int):∀(l:JK (Nat × bF)) (m:Option bF) (t:bF),(∀u,m=O u->aN u.d.aH [jw]=T)->l.foldl (pW jw) m=O t->aN t.d.aH [jw]=T
 |[],_,t,hm,h=>hm t h
 |x::l,m,t,hm,h=>by refine Kw jw l (pW jw m x) t (λu hu=>?_) h;unfold pW at hu;grind
def afG(h:df g=O t):∃p∈g,∃n,p.2=O (n,t):=by
 unfold df at h;split at h
 .rename_i o x r
  injection h with h;exact⟨_,Ji,x.1,by rw[<-h]⟩
 .cases h
def Vi(hq:QF ts q)(jC:a &&& b=0){l r:bF}(hl:PF ts q a l)(hr:PF ts q b r){k:Int}(hk:(k=3/\key=0)∨(k=4/\(lZ ts q (fq k (dZ (bX (dh ts q) a b)) key) a b).2.2=T)∨(k=5/\(lZ ts q (fq k (dZ (bX (dh ts q) a b)) key) a b).2.2=T/\aN l.d.aH [(lZ ts q (fq k (dZ (bX (dh ts q) a b)) key) a b).1]=T/\aN r.d.aH [(lZ ts q (fq k (dZ (bX (dh ts q) a b)) key) a b).2.1]=T)) :
  PF ts q (a|||b) (aS ts q (fq k (dZ (bX (dh ts q) a b)) key) [l,r])/\(aS ts q (fq k (dZ (bX (dh ts q) a b)) key) [l,r]).ns.length+3<=5*pcN (a|||b):=by
 have i:=hl.ig hq;have j:=hr.ig hq;obtain⟨f,g⟩:=apO hq hl.ts' hr.ts' (by rw[hl.au,hr.au];exact jC) X (n:=fq k (dZ (bX (dh ts q) a b)) key) (k:=k) (key:=key) (by rw[hl.au,hr.au]) (by rw[hl.au,hr.au];exact hk);have e:(aS ts q (fq k (dZ (bX (dh ts q) a b)) key) [l,r]).ns.length+3<=5*pcN (a|||b):=by rw[Jk ts q _ Qa,auh a (s32 hq (hl.au ▸ hl.ts'.au)) b (s32 hq (hr.au ▸ hr.ts'.au)) jC];show N l.ns+N r.ns+1+3<=_;have:=hl.len;have:=hr.len;omega
 exact⟨⟨f,by rw[g,hl.au,hr.au],X⟩,e⟩
def PIn(ts:JK af)(q:ae)(s:Nat)(t:bF):Prop:=PF ts q s t/\N t.ns+3<=5*pcN s
theorem ah7(hq:QF ts q)(jC:a &&& b=0){l:bF}(hl:PF ts q a l)(hg:GF ts q b g)(hs:(df g).isSome=T):∀t∈jJ ts q (dh ts q) l g,PIn ts q (a|||b) t:=by
 obtain⟨r,hr⟩:=ZJ.1 hs;obtain⟨p,hp,n,ep⟩:=afG hr;have hR:PF ts q b r:=hg.all p hp _ ep;have key:∀(ks:IC) (acc:JK bF),(∀t∈acc,PIn ts q (a|||b) t)->∀t∈ks.foldl (ll ts q l r g (dZ (bX (dh ts q) a b))) acc,PIn ts q (a|||b) t:=by
  intro ks
  induction ks with
  |nil=>simp_all
  |cons k ks ih =>
   intro acc h;refine ih _ ?_;unfold ll;simp only[hl.au,hR.au];split
   .rename_i hk
    have h4:=Vi hq jC hl hR (k:=4) (key:=k) (.inr (.inl ⟨rfl,hk⟩));have hA:∀t∈acc++[aS ts q (fq 4 (dZ (bX (dh ts q) a b)) k) [l,r]],PIn ts q (a|||b) t:=λt ht=>by grind [PIn]
    split
    .exact hA
    .rename_i m hm
     split
     .rename_i nT
      intro t ht;rcases Z5.1 ht with ht|ht
      .exact hA t ht
      .rw[XH]at ht;rw[ht];have hM:PF ts q b m:=by
        rcases FW _ _ none m hm with h0|⟨n,hn⟩
        .cases h0
        .exact hg.FY hn
       exact Vi hq jC hl hM (k:=5) (key:=k) (.inr (.inr ⟨rfl,hk,nT,Kw _ _ none m (λu hu=>by cases hu) hm⟩))
     .exact hA
   .exact h
 unfold jJ;rw[hr];simp only[Option.getD_some,hl.au,hR.au];refine key _ _ λt ht=>?_;rw[XH]at ht;rw[ht];exact Vi hq jC hl hR (k:=3) (key:=0) (.inl ⟨rfl,rfl⟩)
def al2(hq:QF ts q)(jC:a &&& b=0){f:JK aK}(hf:GF ts q a f)(hg:GF ts q b g)(hs:(df g).isSome=T):∀t∈jo ts q (dh ts q) f g,PIn ts q (a|||b) t:=by intro t ht;unfold jo at ht;obtain⟨x,hx,ht⟩:=ZA.1 ht;exact ah7 hq jC (hf.FY hx) hg hs t ht
def adU{x:bF}(h:df (jS g t)=O x):x=t∨df g=O x:=by
 cases g with
 |nil=>cases h
 |cons p r =>
  have e:df (jS (p::r) t)=df (kV (iL (p::r)) t p::r.map (kV (iL (p::r)) t)):=rfl;rw[e]at h
  cases hp:(kV (iL (p::r)) t p).2 with
  |none =>
   rw[show kV (iL (p::r)) t p=((kV (iL (p::r)) t p).1,none) from Prod.ext rfl hp]at h;cases h
  |some y =>
   rw[show kV (iL (p::r)) t p=((kV (iL (p::r)) t p).1,O y) from Prod.ext rfl hp]at h;have a:O y.2=O x:=h;injection a with a;rcases Bf hp with rfl|d
   .simp_all
   .right;obtain⟨o,z⟩:=p;have b:z=O y:=d;rw[b]
    show O y.2=O x;rw[a]
theorem GF.DI(h:GF ts q s g)(ht:PF ts q s t)(hh:∀x,df (jS g t)=O x->N x.ns+3<=5*pcN s):GF ts q s (jS g t):=by refine⟨λp b x e=>?_,hh,by rw[Ef];exact h.ay2⟩;obtain⟨d,a,rfl⟩:=Xc.1 b;grind [kV,GF.all]
def Tu{ts:JK af}{q:ae}{s:Nat}:∀{l:JK bF} {x:Bool × JK aK},GF ts q s x.2->(∀t∈l,PIn ts q s t)->GF ts q s (l.foldl jh x).2
 |[],_,h,_=>h
 |t::l,x,h,hl=>by
  have ht:=hl t Ji;refine Tu (l:=l) (x:=jh x t) (h.DI ht.1 λy hy=>?_) (λu hu=>hl u (ZV _ hu));rcases adU hy with rfl|h0
  .exact ht.2
  .exact h.head y h0
theorem ah8(hq:QF ts q)(hG:zh q s g)(h:GF ts q s g)(hs:(df g).isSome=T)(ho:uG ts q.au.xs o s=T):GF ts q s (fT ts q g o):=by
 obtain⟨t,a⟩:=ZJ.1 hs;obtain⟨p,k,n,l⟩:=afG a;have f:PF ts q s t:=h.all p k _ l;have v:=yU ts q t o (hG.first a).1.aJ;have i:=Tt f.ts' (Qj (f.ig hq)) (o:=o) (by rw[f.au];exact ho);have j:=h.head t a;unfold fT;rw[a];refine h.DI ⟨i,by show (bW ts q t o).d.ah=s;rw[uu];exact f.au,?_⟩ λx u=>?_
 .show (bW ts q t o).ns.length+2<=_
  rw[wm];omega
 .obtain⟨m,r,rfl,_⟩:=hG.head
  cases m with
  |none=>cases a
  |some y =>
   have z:y.2=t:=by have:O y.2=O t:=a;simp_all
   have b:kV (iL (([],O y)::r)) (bW ts q t o) ([],O y)=([],O y):=by unfold kV jE;grind
   have e:df (kV (iL (([],O y)::r)) (bW ts q t o) ([],O y)::r.map (kV (iL (([],O y)::r)) (bW ts q t o)))=O x:=u;rw[b]at e;exact h.head x e
def NQ{ts:JK af}{q:ae}(hq:QF ts q){s:Nat}:∀{os:JK (IC)} {g:JK aK},zh q s g->GF ts q s g->(df g).isSome=T->(∀o∈os,uG ts q.au.xs o s=T)->GF ts q s (os.foldl (fT ts q) g)
 |[],_,_,h,_,_=>h
 |o::os,g,hG,h,hs,ho=>by have h1:=hG.UI (ts:=ts) hs o;exact NQ hq (os:=os) h1.1 (ah8 hq hG h hs (ho o Ji)) h1.2 (λo' h'=>ho o' (ZV _ h'))
def adV(hq:QF ts q)(hG:zh q s g)(hT:∀t∈l,V5 q s t)(h:GF ts q s g)(hl:∀t∈l,PIn ts q s t):GF ts q s (bq ts q g l).2:=by
 have a:=xO (l:=l) (x:=(F,g)) hG hT (λe=>by cases e);have b:GF ts q s (mP g l).2:=Tu (l:=l) (x:=(F,g)) h hl;unfold bq;split
 .rename_i hc
  exact NQ hq a.1 b (a.2 hc) (λo d=>h.ay2 o d)
 .exact b
def Ar(g:JK aK)(t:bF):Prop:=∀p∈g,aN t.d.aH p.1=T->∃x,p.2=O x/\x.2.d.aJ<=t.d.aJ
theorem apL{n:Nat}{p:aK}(h:p.2=O x):∃y,(kV n t p).2=O y/\y.2.d.aJ<=x.2.d.aJ:=by
 unfold kV;split
 .rename_i hc
  unfold jE at hc;grind
 simp_all
theorem Ar.DI(h:Ar g u)(t:bF):Ar (jS g t) u:=λp f a=>by obtain⟨b,d,rfl⟩:=Xc.1 f;rw[Be]at a;obtain⟨x,e,i⟩:=h b d a;obtain⟨y,j,k⟩:=apL (n:=iL g) (t:=t) e;grind
theorem Ar.self(g:JK aK)(t:bF):Ar (jS g t) t:=λp a b=>by
 obtain⟨d,e,rfl⟩:=Xc.1 a;rw[Be]at b;unfold kV;split
 .simp_all
 .rename_i hc
  unfold jE at hc;grind
def Ar.Bu:∀(l:JK bF) {x:Bool × JK aK} {u:bF},Ar x.2 u->Ar (l.foldl jh x).2 u
 |[],_,_,h=>h
 |t::l,x,_,h=>Ar.Bu l (x:=jh x t) (h.DI t)
theorem Ar.all:∀(l:JK bF) (x:Bool × JK aK),∀t∈l,Ar (l.foldl jh x).2 t
 |[],_,_,h=>by cases h
 |u::l,x,t,h=>by
  rcases ZB.1 h with rfl|h
  .exact Ar.Bu l (x:=jh x t) (Ar.self x.2 t)
  .exact Ar.all l (jh x u) t h
theorem Ar.zq{ts:JK af}{q:ae}:∀(os:JK (IC)) {g:JK aK} {u:bF},Ar g u->Ar (os.foldl (fT ts q) g) u
 |[],_,_,h=>h
 |o::os,_,_,h=>Ar.zq os (h.DI _)
def Ar.zu(h:Ar g u)(l:JK bF):Ar (bq ts q g l).2 u:=by
 unfold bq;split
 .exact Ar.zq _ (Ar.Bu l (x:=(F,g)) h)
 .exact Ar.Bu l (x:=(F,g)) h
def Ar.alS(ts:JK af)(q:ae)(g:JK aK)(l:JK bF):∀t∈l,Ar (bq ts q g l).2 t:=λt a=>by
 unfold bq;split
 .exact Ar.zq _ (Ar.all l (F,g) t a)
 .exact Ar.all l (F,g) t a
def adN(h:g.any (jE t)=F):jS g t=g:=by
 unfold jS;have key:∀n (l:JK aK),(∀p∈l,jE t p=F)->l.map (kV n t)=l:=by
  intro n l
  induction l with
  |nil=>intro _;rfl
  |cons p l ih =>
   intro a;rw[List.map_cons,ih λp b=>a p (ZV _ b)];unfold kV;simp_all
 simp_all
def Kl:∀(l:JK bF) (x:Bool × JK aK),(l.foldl jh x).1=F->x.1=F/\(l.foldl jh x).2=x.2
 |[],_,h=>⟨h,rfl⟩
 |t::l,x,h=>by obtain⟨h1,h2⟩:=Kl l (jh x t) h;have h1:(x.1 ||x.2.any (jE t))=false:=h1;rw[Bool.or_eq_false_iff]at h1;refine⟨h1.1,?_⟩;rw[ZL,h2];exact adN h1.2
def Gg(h:(bq ts q g l).1=F):(bq ts q g l).2=g:=by
 unfold bq at h ⊢;split at h
 .cases h
 .rename_i hc
  rw[Zk hc];exact(Kl l (F,g) (Bool.not_eq_true _ ▸ hc)).2
theorem aap{h:bF}(e:df g=O h)(hc:h.d.aJ<=t.d.aJ):df (jS g t)=O h:=by
 match g,e with
 |[],e=>cases e
 |(_,none)::_,e=>cases e
 |(o,O y)::r,e =>
  have e:O y.2=O h:=e;injection e with e;show df (kV _ t (o,O y)::_)=O h;unfold kV;rw[Zk (λa=>by
   unfold jE at a;grind)]
  show O y.2=O h;rw[e]
theorem Km{ts:JK af}{q:ae}{h:bF}(hs:∀o,h.d.aJ<=(bW ts q h o).d.aJ):∀(os:JK (IC)) {g:JK aK},df g=O h->df (os.foldl (fT ts q) g)=O h/\∀o∈os,Ar (os.foldl (fT ts q) g) (bW ts q h o)
 |[],_,e=>⟨e,λ_ h=>by cases h⟩
 |o::os,g,e=>by
  have e1:fT ts q g o=jS g (bW ts q h o):=by unfold fT;rw[e];rfl
  have e2:=aap e (hs o);rw[ZL,e1];obtain⟨h1,h2⟩:=Km hs os e2;refine⟨h1,λo' ho=>?_⟩;rcases ZB.1 ho with rfl|ho
  .grind [Ar.zq,Ar.self]
  simp_all
theorem ahX [BEq α] [LawfulBEq α] (Ts Hq:List α) (a:α):(Ts.map λt=>(a::Hq).count t).sum=(Ts.map λt=>Hq.count t).sum+Ts.count a:=by
 induction Ts with
 |nil=>rfl
 |cons t Ts ih =>
  grind
theorem Ew{α:Type} [BEq α] [LawfulBEq α] (p:α->Bool) (Ts:List α):∀Hq:List α,(∀t∈Hq,p t=T->t∈Ts)->Hq.countP p<=(Ts.map λt=>Hq.count t).sum
 |[],_=>Qa
 |a::Hq,h=>by have ih:=Ew p Ts Hq λt ht=>h t (ZV _ ht);rw[List.countP_cons,ahX];grind
def vK(S:Nat):JK bB:=((List.range S).filter λA=>decide (0<A/\A &&& (S-A)=0)).map λA=>(A,S-A)
def bdF:Nat->Nat->Nat
 |0,_=>0
 |f+1,S=>1+((vK S).map λt=>bdF f t.1+bdF f t.2).sum
structure Cnt(n:Nat)(a:JK bB)(Hq:JK bB)(Iq:JK Nat):Prop where
 two:∀A B,B≠0->Hq.count (A,B)+a.count (A,B)<=Iq.count A+Iq.count B
 one:∀A,Hq.count (A,0)+a.count (A,0)<=1
 imp:∀S,Iq.count S<=Hq.countP λt=>decide (t.1|||t.2=S)
 ok:∀t∈Hq,(t.2=0∨t.1≠0/\t.2≠0/\t.1 &&& t.2=0)/\t.1|||t.2<2 ^ n
def apM:∀A,A<32->∀B,B<32->A &&& B=0->A|||B=A+B:=by decide +kernel
theorem Cnt.ayX{n:Nat}{a:JK bB}(h:Cnt n a Hq Iq)(hS:S<32):Hq.countP (λt=>decide (t.1|||t.2=S))<=1+((vK S).map λt=>Iq.count t.1+Iq.count t.2).sum:=by
 have h1:=Ew (λt:bB=>decide (t.1|||t.2=S)) ((S,0)::vK S) Hq λt ht hp=>by
  have hp':t.1|||t.2=S:=Xf hp;rcases (h.ok t ht).1 with h0|⟨h1,h2,h3⟩
  .grind
  .have l1:t.1<=S:=hp' ▸ Nat.left_le_or;have l2:t.2<=S:=hp' ▸ Nat.right_le_or;have e:=apM t.1 X t.2 X h3;refine ZV _ (Xc.2 ⟨t.1,List.mem_filter.2 ⟨Xd.2 X,Zl ⟨X,?_⟩⟩,?_⟩)
   .grind
   grind
 rw[List.map_cons,List.sum_cons]at h1;have h2:=h.one S;have h3:((vK S).map λt=>Hq.count t).sum<=((vK S).map λt=>Iq.count t.1+Iq.count t.2).sum:=by
  have key:∀l:JK bB,(∀t∈l,t.2≠0)->(l.map λt=>Hq.count t).sum<=(l.map λt=>Iq.count t.1+Iq.count t.2).sum:=by
   intro l
   induction l with
   |nil=>intro _;simp
   |cons t l ih =>
    intro hl;have:=h.two t.1 t.2 (hl t Ji);grind
  refine key _ λt ht=>?_;obtain⟨A,hA,rfl⟩:=Xc.1 ht;grind
 omega
theorem Cnt.afA{n:Nat}{a Hq:JK bB}{Iq:JK Nat}(h:Cnt n a Hq Iq):∀f S,S<f->S<32->Iq.count S<=bdF f S
 |0,_,hf,_=>X
 |f+1,S,hf,hS=>by
  have h1:=ZU (h.imp S) (h.ayX hS);have h2:((vK S).map λt=>Iq.count t.1+Iq.count t.2).sum<=((vK S).map λt=>bdF f t.1+bdF f t.2).sum:=by
   have key:∀l:JK bB,(∀t∈l,t.1<S/\t.2<S)->(l.map λt=>Iq.count t.1+Iq.count t.2).sum<=(l.map λt=>bdF f t.1+bdF f t.2).sum:=by
    intro l
    induction l with
    |nil=>intro _;simp
    |cons t l ih =>
     intro hl;have ht:=hl t Ji;have e1:=h.afA f t.1 X X;have e2:=h.afA f t.2 X X;have:=ih λt ht=>hl t (ZV _ ht);grind
   refine key _ λt ht=>?_;obtain⟨A,hA,rfl⟩:=Xc.1 ht;grind
  show _<=1+_;omega
def auc:∀n,n<=5->((List.range (2 ^ n)).map λS=>1+((vK S).map λt=>bdF 32 t.1+bdF 32 t.2).sum).sum<=7000:=by decide +kernel
theorem Cnt.len{n:Nat}(hn:n<=5){a:JK bB}(h:Cnt n a Hq Iq):N Hq<=7000:=by
 have j:2 ^ n<=32:=by have:=ZP (show 0<2 by omega) hn;omega
 have f:=Ew (λ_:Nat=>T) (List.range (2 ^ n)) (Hq.map λt=>t.1|||t.2) λS e _=>by obtain⟨t,b,rfl⟩:=Xc.1 e;grind [Cnt.ok]
 rw[List.countP_true,ZX]at f;refine ZU f (ZU ?_ (auc n hn));have key:∀l:JK Nat,(∀S∈l,S<32)->(l.map λS=>(Hq.map λt=>t.1|||t.2).count S).sum<=(l.map λS=>1+((vK S).map λt=>bdF 32 t.1+bdF 32 t.2).sum).sum:=by
  intro l
  induction l with
  |nil=>intro _;simp
  |cons S l ih =>
   intro d;have e:=d S Ji;have k:(Hq.map λt=>t.1|||t.2).count S=Hq.countP λt=>decide (t.1|||t.2=S):=by rw[List.count,List.countP_map];rfl
   have g:=h.ayX e;have i:((vK S).map λt=>Iq.count t.1+Iq.count t.2).sum<=((vK S).map λt=>bdF 32 t.1+bdF 32 t.2).sum:=by
    have k2:∀l:JK bB,(∀t∈l,t.1<32/\t.2<32)->(l.map λt=>Iq.count t.1+Iq.count t.2).sum<=(l.map λt=>bdF 32 t.1+bdF 32 t.2).sum:=by
     intro l
     induction l with
     |nil=>intro _;simp
     |cons t l ih =>
      intro d;have b:=d t Ji;have g:=h.afA 32 t.1 b.1 b.1;have i:=h.afA 32 t.2 b.2 b.2;have:=ih λt b=>d t (ZV _ b);grind
    refine k2 _ λt b=>?_;obtain⟨A,m,rfl⟩:=Xc.1 b;grind
   grind
 grind
theorem vL(rk:Nat->Int)(a:JK bB)(t x:bB):(jH rk a t).count x<=a.count x+[t].count x:=by
 unfold jH;split
 .omega
 .have e:a.count x=(a.take (rX rk a t)).count x+(a.drop (rX rk a t)).count x:=by rw[<-List.count_append,XA]
  grind
theorem aat{a:JK bB}(hk:k<N a)(x:bB):(a.eraseIdx k).count x+[E a k (0,0)].count x=a.count x:=by
 have e:a=a.take k++([E a k (0,0)]++a.drop (k+1)):=by simp_all
 grind
theorem Gj(rk:Nat->Int)(s:Nat)(gs:JK (JK aK))(A B:Nat):∀(ks:JK Nat) (a:JK bB),(ks.foldl (fU rk s gs) a).count (A,B)<=a.count (A,B)+(if A=s then ks.count B else 0)+(if B=s then ks.count A else 0)
 |[],a=>Qa
 |k::ks,a=>by
  have ih:=Gj rk s gs A B ks (fU rk s gs a k);rw[ZL];refine ZU ih ?_;have h1:(fU rk s gs a k).count (A,B)<=a.count (A,B)+(if s=A/\k=B then 1 else 0)+(if k=A/\s=B then 1 else 0):=by
   unfold fU;split
   .have e1:=vL rk (jH rk a (s,k)) (k,s) (A,B);have e2:=vL rk a (s,k) (A,B)
    grind
   .omega
  grind
theorem Kn{rk:Nat->Int}{s:Nat}{gs:JK (JK aK)}(hs:s≠0)(h0:(df (E gs 0 [])).isSome=F)(A:Nat):∀(ks:JK Nat) (a:JK bB),(ks.foldl (fU rk s gs) a).count (A,0)<=a.count (A,0)
 |[],a=>Zb _
 |k::ks,a=>by
  refine ZU (Kn hs h0 A ks (fU rk s gs a k)) ?_;unfold fU;split
  .rename_i hc
   rw[Q8]at hc;have hk:k≠0:=λe=>Qf;have e1:=vL rk (jH rk a (s,k)) (k,s) (A,0);have e2:=vL rk a (s,k) (A,0);grind
  .omega
theorem Ko(n x:Nat):(List.range n).count x<=1:=by grind
theorem Ta{n:Nat}{t:bB}(hs:s≠0)(e:t.1|||t.2=s)(h0:(df (E σ.az 0 [])).isSome=F)(h:Cnt n σ.aL (t::Hq) Iq)(hi:∀S,Iq.count S<=Hq.countP λt=>decide (t.1|||t.2=S)):∃I',Cnt n (ed rk ts q s l σ).aL (t::Hq) I':=by
 unfold ed;split
 .grind
 show ∃I',Cnt n (if (bq ts q (E σ.az s []) l).1=T then ng rk s (σ.az.set s (bq ts q (E σ.az s []) l).2) σ.aL else σ.aL) (t::Hq) I';split
 .refine⟨s::Iq,λA B hB=>?_,λA=>?_,λS=>?_,h.ok⟩
  .have h1:=Gj rk s (σ.az.set s (bq ts q (E σ.az s []) l).2) A B (List.range (N (σ.az.set s (bq ts q (E σ.az s []) l).2))) σ.aL;have h2:=h.two A B hB;have h3:=Ko (N (σ.az.set s (bq ts q (E σ.az s []) l).2)) A;have h4:=Ko (N (σ.az.set s (bq ts q (E σ.az s []) l).2)) B;unfold ng
   grind
  .have h1:=Kn (rk:=rk) (gs:=σ.az.set s (bq ts q (E σ.az s []) l).2) hs Qf A (List.range (N (σ.az.set s (bq ts q (E σ.az s []) l).2))) σ.aL;have h2:=h.one A;unfold ng;omega
  grind
 grind
theorem ahY(h:GQ q σ)(h1:σ.status=1)(h0:0<N q.au.xs){n:Nat}(hn:n=N q.au.xs)(pick:Int)(hc:Cnt n σ.aL Hq Iq):∃t z,Cnt n (gz rk ts q conc pick σ).aL (t::Hq) z:=by
 have g:=h.U5 h1;have C:=xQ g pick;have j:E σ.aL (eF (N σ.aL) pick).toNat (0,0)∈σ.aL:=by simp_all
 have l:=h.core.task _ j;have m:=aat (a:=σ.aL) (k:=(eF (N σ.aL) pick).toNat) X;have b:∀τ:fE,(jT τ).aL=τ.aL:=λτ=>by unfold jT;split <;> rfl
 unfold gz;simp only;rw[b];generalize E σ.aL (eF (N σ.aL) pick).toNat (0,0)=t at*;refine⟨t,?_⟩;have D:=h.core.qw;have p:1<2 ^ (N q.au.xs):=Nat.one_lt_two_pow X;have hz:=(h.core.nN 0 X).zero;have r:∀x,(t::Hq).count x=Hq.count x+[t].count x:=λx=>by grind
 have u:(t.2=0∨t.1≠0/\t.2≠0/\t.1 &&& t.2=0)/\t.1|||t.2<2 ^ n/\t.1|||t.2≠0:=by
  subst hn;rcases l with⟨e0,i,hi,e⟩|⟨e0,a1,a2,a3,a4,a5⟩
  .refine⟨.inl e0,?_⟩;rw[e0,Nat.or_zero,e];exact⟨XR X hi,Qf⟩
  .have v:t.1≠0:=λe=>Qf
   refine⟨.inr ⟨v,e0,a3⟩,vZ X X,?_⟩;simp_all
 have f:Cnt n (σ.aL.eraseIdx (eF (N σ.aL) pick).toNat) (t::Hq) Iq:=by
  refine⟨λA B y=>?_,λA=>?_,λS=>?_,λx d=>?_⟩
  .have:=hc.two A B y
   grind
  .have:=hc.one A
   grind
  .have:=hc.imp S
   grind
  .rcases ZB.1 d with rfl|d
   .omega
   .exact hc.ok x d
 unfold vU;split
 .rename_i e0
  have e:t.1|||t.2=t.1:=Qf;exact Ta X e hz f hc.imp
 .exact Ta u.2.2 rfl hz f hc.imp
theorem Ex(rk:Nat->Int)(x:bB):∀(ks:JK Nat) (a:JK bB),(ks.foldl (λa (i:Nat)=>jH rk a (2 ^ i,0)) a).count x<=a.count x+(ks.map λi=>((2 ^ i,0):bB)).count x
 |[],a=>Qa
 |k::ks,a=>by have h1:=Ex rk x ks (jH rk a (2 ^ k,0));have h2:=vL rk a (2 ^ k,0) x;grind
theorem ahZ(rk:Nat->Int)(ts:JK af)(q:ae)(aI:Nat)(n:Nat):Cnt n (fF rk ts q aI).aL [] []:=by
 refine⟨λA B p=>?_,λA=>?_,λS=>Qa,λ_ h=>by cases h⟩
 .have b:=Ex rk (A,B) (List.range (N q.au.xs)) [];rw[List.count_eq_zero_of_not_mem (l:=(List.range (N q.au.xs)).map λi=>((2 ^ i,0):bB)) (λh=>by
   grind)]at b
  have d:([]:JK bB).count (A,B)=0:=rfl;show _+((List.range (N q.au.xs)).foldl (λa (i:Nat)=>jH rk a (2 ^ i,0)) []).count (A,B)<=_;omega
 .have b:=Ex rk (A,0) (List.range (N q.au.xs)) [];have f:∀m,((List.range m).map λi=>((2 ^ i,0):bB)).count (A,0)<=1:=by
   intro m
   induction m with
   |zero=>simp
   |succ m ih =>
    rw[ZG,Q7,List.count_append];by_cases e:2 ^ m=A
    .rw[List.count_eq_zero_of_not_mem (l:=(List.range m).map λi=>((2 ^ i,0):bB)) (λh=>by
      obtain⟨i,g,j⟩:=Xc.1 h;injection j with e1 e2;have:=XR (a:=2) X (Xd.1 g);omega)]
     simp_all
    simp_all
  have k:=f (N q.au.xs);have d:([]:JK bB).count (A,0)=0:=rfl;show ([]:JK bB).count (A,0)+((List.range (N q.au.xs)).foldl (λa (i:Nat)=>jH rk a (2 ^ i,0)) []).count (A,0)<=_;omega
theorem aau{rk:Nat->Int}{ts:JK af}{q:ae}{conc:JK Nat}(nU:N conc=N q.wh)(h5:N q.au.xs<=5)(h0:0<N q.au.xs)(picks:IC){σ:fE}(h:GQ q σ)(hc:Cnt (N q.au.xs) σ.aL [] []):∀m,∃Hq Iq,Cnt (N q.au.xs) (iV rk ts q conc picks m 0 σ).aL Hq Iq/\((iV rk ts q conc picks m 0 σ).status=1->N Hq=m)
 |0=>⟨[],[],hc,λ_=>rfl⟩
 |m+1=>by
  obtain⟨Hq,Iq,h1,h2⟩:=aau (rk:=rk) (ts:=ts) nU h5 h0 picks h hc m;rw[JI];split
  .rename_i hs
   obtain⟨t,I',h3⟩:=ahY (rk:=rk) (ts:=ts) (conc:=conc) (wK nU h5 picks h m).1 hs h0 rfl (jU picks (0+m)) h1;grind
  grind
def ah0(nU:N conc=N q.wh)(h5:N q.au.xs<=5)(h0:0<N q.au.xs)(picks:IC)(h:GQ q σ)(hc:Cnt (N q.au.xs) σ.aL [] []):(iV rk ts q conc picks 7001 0 σ).status≠1:=λe=>by obtain⟨b,d,a,f⟩:=aau (rk:=rk) (ts:=ts) nU h5 h0 picks h hc 7001;have:=a.len h5;omega
def Ca(ao bo:LM)(cap pQ:Nat)(ls ms:JK aQ)(w:U)(hx:fD w ao ls)(hy:fD w bo ms)(he:N ls=N ms)(lH:∀i,i<N ls->(E ls i lz).cs=(E ms i lz).cs) :
  Cb 52 #[Z ao (N ls) cap,Z bo (N ms) pQ] w (Qq T):=by
 have D:=hx.1;rw[<-he];have G:((N ls:Int) != N ls)=false:=Qa;go_enter func52,ntmps52;go_wp2;go_loopw [5] (λi wr=>∃k:Nat,k<=N ls/\i=I J k/\∃n,wr=w.drewN n) (λi _=>N ls-(intOf i).toNat)
 case atStart=>exact⟨0,ZR _,rfl,0,rfl⟩
 case round=>
  obtain⟨k,L,rfl,n,rfl⟩:=hrel;by_cases g:k<N ls
  .obtain⟨b,off,rfl,p⟩:=hx.2.1.get g;obtain⟨P,Q,rfl,q⟩:=hy.2.1.get (show k<N ms by omega);have j:=p k g;have l:=q k X;have d:=hx.2.2 k g;have e:=hy.2.2 k X;have f:=lH k g;clear p q hx hy lH;generalize E ls k lz=c1,E ms k lz=c2 at*;obtain⟨u,v,a⟩:=c1;obtain⟨y,z,A⟩:=c2;simp only at f d e;subst f;unfold aQ.val at j l;simp only at j l;have K:=d.1;have t:((N a:Int) != N a)=false:=Qa
   go_wp2;go_quiet (fail);go_wp2;go_loopw [6] (λi wr=>∃m:Nat,m<=N a/\i=I J m/\∃n,wr=w.drewN n) (λi _=>N a-(intOf i).toNat)
   case atStart=>exact⟨0,ZR _,rfl,_,World.drewN_drewN _ _ _⟩
   case round=>
    obtain⟨m,R,rfl,S,rfl⟩:=hrel;by_cases r:m<N a
    .obtain⟨W,B,rfl,e0,e1,e2,e3,e4⟩:=d.2 m r;obtain⟨b4,C,rfl,i0,i1,i2,i3,i4⟩:=e.2 m r;generalize E a m cz=cc at*;clear d e;go_wp2;go_quiet (fail);refine gQ ?_;exact⟨m+1,X,Qe,_,rfl⟩
    .go_wp2;go_roundw
     case rel=>exact⟨k+1,X,Qe,_,rfl⟩
     case measure=>exact XK
  .go_wp2;go_ret;exact⟨rfl,Zg (Za _ _) _⟩
def OT{w:U}{ao:LM}{xs:IC}(h:aP w ao xs)(n:Nat):aP (w.drewN n) ao xs:=h.aj (Zg (Za _ _) _)
theorem Cc(ao bo:LM)(cap pQ:Nat)(xs:IC)(w:U)(n m:Nat)(hx:aP w ao xs)(hy:aP w bo xs) :
  Calls V 62 #[Z ao (N xs) cap,Z bo (N xs) pQ] (w.drewN (n+m)) λe a=>e=.returned (Qq T)/\∃m',a = w.drewN (n+m'):=
 (GH ao bo cap pQ xs (w.drewN (n+m)) (OT hx _) (OT hy _)).mono λ_ _ ⟨he,k',yt⟩=>⟨he,m+k',by grind [World.drewN_drewN]⟩
def tO(ao bo:LM)(cap pQ:Nat)(ns ms:JK ay)(w:U)(hx:fH w ao ns)(hy:fH w bo ms)(he:N ns=N ms)(hs:∀i,i<N ns->(E ns i nz).same (E ms i nz)) :
  Cb 27 #[Z ao (N ns) cap,Z bo (N ms) pQ] w (Qq T):=by
 have hl:=hx.1;rw[<-he];have HE:Hid (N ns=N ms):=he;clear he;have fG:((N ns:Int) != N ns)=false:=Qa;go_enter func27,ntmps27;go_wp2;go_loopw [5] (λi wr=>∃k:Nat,k<=N ns/\i=I J k/\∃n,wr=w.drewN n) (λi _=>N ns-(intOf i).toNat)
 case atStart=>exact⟨0,ZR _,rfl,0,rfl⟩
 case round=>
  obtain⟨k,hk,rfl,n,rfl⟩:=hrel;by_cases aT:k<N ns
  .obtain⟨b,off,rfl,c0,c1,c2,c3,c4,c5,y,a,i2⟩:=hx.2 k aT;obtain⟨b',Mc,rfl,d0,d1,d2,d3,z,d5,A,d,e⟩:=hy.2 k (Qj HE.o);obtain⟨B,C,D,G,K,L,P⟩:=hs k aT;clear hx hy hs;generalize E ns k nz=x1,E ms k nz=x2 at*;obtain⟨Q,R,S,W,⟨f,g,j⟩,ya,⟨l,p,q⟩⟩:=x1;obtain⟨kb,lb,rb,sb,⟨r,t,aa⟩,yb,⟨u,v,ae⟩⟩:=x2;unfold aA.At at a i2 d e;unfold aA.val at c4 y z A;simp only at B C D G K L P a i2 d e c0 c1 c2 c3 c4 c5 y d0 d1 d2 d3 z d5 A;subst B C D G K L P;have t0:(Q != Q)=false:=Qa
   have t1:(R != R)=false:=Qa;have t2:(S != S)=false:=Qa;have t3:(W != W)=false:=Qa;have t5:(ya != ya)=false:=Qa;go_wp2;refine wp_region_quiet_lit Qd Qd ?_
   repeat (go_big_quiet_step (fail))
   go_big_quiet_want;refine⟨Qq T,λx hx=>?_,?_⟩
   .obtain⟨m,rfl⟩:=hx;have hC:=Cc f r g t j w n m a d;go_simp
   simp only[pA,sB,sC];go_big_quiet_on
   repeat (go_big_quiet_step (fail))
   refine X6 ?_;intro x hx;obtain⟨m,rfl⟩:=hx;rw[World.drewN_drewN];generalize n+m=n';go_wp2;refine wp_region_quiet_lit Qd Qd ?_
   repeat (go_big_quiet_step (fail))
   go_big_quiet_want;refine⟨Qq T,λx hx=>?_,?_⟩
   .obtain⟨m,rfl⟩:=hx;have hC:=Cc l u p v q w n' m i2 e;go_simp
   simp only[pA,sB,sC];go_big_quiet_on
   repeat (go_big_quiet_step (fail))
   refine X6 ?_;intro x hx;obtain⟨m,rfl⟩:=hx;rw[World.drewN_drewN];generalize n'+m=n2;go_wp2;go_quiet (fail);refine gQ ?_;exact⟨k+1,X,Qe,_,rfl⟩
  .go_wp2;go_ret;exact⟨rfl,Zg (Za _ _) _⟩
def anr(d:Nat)(a b c e:Int)(w:U):(Op.equalIn (d+2) 52 (.agg #[.int J a,.int J b,.int J c,.int J e]) (.agg #[.int J a,.int J b,.int J c,.int J e])).run V w=.ok T w:=by have f:=underlying52;have g:=λ(x:Int)=>run_equalIn_int (P:=V) w d 3 J J x x underlying3;rw[Op.equalIn];simp only[Sem.run_bind,run_underlying f,Result.andThen_ok];simp[go_sem,Std.Legacy.Range.forIn_eq_forIn_range',Std.Legacy.Range.size,List.range',g]
theorem ael(n:Int)(aF:Bool)(aC aM bA ord:IC) :
  jX n aF aC aM bA ord=(DJ n aF aC aM bA&&(dm ord (xA aF aC aM bA)&&dK ord)):=by
 unfold jX DJ;generalize dm ord (xA aF aC aM bA)=Oq;generalize dK ord=P;cases aF
 .by_cases a:N bA=0
  .grind
  .have e:=ZK a;have g:decide (0<N bA)=true:=Zl X;rw[e,g];by_cases f:N aC=0
   .by_cases k:N aM=0
    .have i:=Zo f;have b:=Zo k;subst i b;have j:dK []=true:=Qc
     rw[j];cases dm bA n <;> cases Oq <;> cases P <;> rfl
    grind
   .rw[ZK f,ZK (show ¬N aC+N aM=0 by omega)];simp
 .by_cases a:N bA=0
  .have d:=Zo a;subst d;have e:dm [] n=true:=rfl
   grind
  .rw[ZK a];simp
def Ij(ts:JK af)(au:IC)(wh:JK (JK aV))(aF:Bool)(aC aM bA ord:IC):Bool:=
 decide (0<N au)&&(dm au (N ts)&&(jB wh (aX ts au)&&(DJ (aX ts au) aF aC aM bA&&(dm ord (xA aF aC aM bA)&&dK ord))))
theorem aa6{au:IC}{wh:JK (JK aV)}{aF:Bool}{aC aM bA ord:IC}(hc:gV ts=T)(hf:mD au wh aC aM bA ord=F) :
  uj ts au wh aF aC aM bA ord=if Ij ts au wh aF aC aM bA ord then 0 else 3:=by unfold uj Ij;rw[Zk (by simp[hc]),Zk (by simp[hf]),ael];grind
def aa7(ao:LM)(cap:Nat)(ts:JK af)(q:ae)(w:U)(hx:aZ w ao ts)(hq:q.At w)(hc:gV ts=T)
  (hf:mD q.au.xs q.qU q.aC.xs q.aM.xs q.bA.xs q.ord.xs=F) (FJ:N q.aC.xs<=q.aC.cap) (Ao:N q.ord.xs<=q.ord.cap) :
  Cb 83 #[Z ao (N ts) cap,.agg q.cells] w (Qq (Ij ts q.au.xs q.qU q.aF q.aC.xs q.aM.xs q.bA.xs q.ord.xs)):=by
 have dY:¬(5<N q.au.xs∨8<N q.wh∨8<N q.bA.xs∨4<N q.aC.xs∨4<N q.aM.xs∨4<N q.ord.xs):=by intro h;rw[ae.afb,Zl h,Bool.true_or]at hf;cases hf
 have z:=λx=>Vt q x X X;have i:=λn x (h:Bw w x)=>Oh q n x (Zc h hq.aC) (Zc h hq.aM) (Zc h hq.bA) FJ;unfold Ij;obtain⟨b,K,Q,v,aF,m,p,r,ord⟩:=q;have j:aP w b.ad b.xs:=hq.au;have L:aP w ord.ad ord.xs:=hq.ord;have A:fD w K v:=hq.wh;have B:(ae.mk b K Q v aF m p r ord).qU=v.map aQ.cs:=rfl;simp only[B]at*;clear B hq hf;unfold ae.cells aA.val at*;simp only at*;have h1:N b.xs<=5:=X;have f:=λx (h:Bw w x)=>rD b.ad b.cap b.xs (N ts) x (j.aj h);have k:=λn x (h:Bw w x)=>Vv K Q v n x (A.aj h);have C:=λx (h:Bw w x)=>rD ord.ad ord.cap ord.xs (xA aF m.xs p.xs r.xs) x (L.aj h);have D:=λx (h:Bw w x)=>allDifferent_any ord.ad ord.cap ord.xs x (L.aj h) Ao;generalize l:(decide (0<N b.xs)&&(dm b.xs (N ts)&&(jB (v.map aQ.cs) (aX ts b.xs)&&(DJ (aX ts b.xs) aF m.xs p.xs r.xs&&(dm ord.xs (xA aF m.xs p.xs r.xs)&&dK ord.xs)))))=R;by_cases h0:0<N b.xs
 .rw[Zl h0,Zm]at l;have P:((N b.xs:Int)==0)=false:=by rw[Jf];omega
  cases ha:dm b.xs (N ts)
  .rw[ha]at f l;have u:Hid (F=R):=l;clear l;go_enter func83,ntmps83;go_wp2_with fail;refine mR (f _ (fo _ _)) λw2 g=>?_
   go_wp2;go_ret;exact⟨QZ u.o,aO (fo _ _) g⟩
  .have G:=λx (h:Bw w x)=>Ii ao cap ts b.ad b.cap b.xs x (hx.aj h) hc (j.aj h) h1 ha
   rw[ha]at f l;clear ha hc;rw[Zm]at l;have u:=Zh l;clear l;generalize aX ts b.xs=Nq at*;have k:=k Nq;have i:=i Nq;generalize jB (v.map aQ.cs) Nq=CB,DJ Nq aF m.xs p.xs r.xs=FB at*;clear hx j L A FJ Ao;go_enter func83,ntmps83;go_wp2_with fail;refine mR (f _ (fo _ _)) λw2 g=>?_;clear f;have hz:w.heap.size<w2.heap.size:=by have:=g.size;simp at this;omega
   have a:=zR g;simp at a;have k2:=aO (fo _ _) g;go_wp2_with fail;refine(G _ k2).mono ?_;clear G;rintro e w3 ⟨rfl,rfl⟩;go_wp2_with fail;refine mR (k _ k2) λy d=>?_;clear k;have k4:=aO k2 d;have S:Qo y (aD w.heap.size 0)=O (Z b.ad (N b.xs) b.cap):=cB d (by rw[a _ _ X];simp);have W:Qo y (aD w.heap.size 1)=O (Z K (N v) Q):=cB d (by rw[a _ _ X];simp);have f2:Qo y (aD w.heap.size 2)=O (Qq aF):=cB d (by rw[a _ _ X];simp);have f3:Qo y (aD w.heap.size 3)=O (Z m.ad (N m.xs) m.cap):=cB d (by rw[a _ _ X];simp);have f4:Qo y (aD w.heap.size 4)=O (Z p.ad (N p.xs) p.cap):=cB d (by rw[a _ _ X];simp);have f5:Qo y (aD w.heap.size 5)=O (Z r.ad (N r.xs) r.cap):=cB d (by rw[a _ _ X];simp);have f6:Qo y (aD w.heap.size 6)=O (Z ord.ad (N ord.xs) ord.cap):=cB d (by rw[a _ _ X];simp);clear a d k2 g;cases CB
   .go_wp2;go_ret;exact⟨QZ u.o,k4⟩
   .go_wp2_with fail;refine mR (i _ k4) λw5 t=>?_
    clear i;have k5:=aO k4 t;obtain⟨g0,g1,g2,g3,g4⟩:=qi t S W f2 f3 f4;obtain⟨g5,g6⟩:=kP t f5 f6;clear S W f2 f3 f4 f5 f6 t k4;cases FB
    .go_wp2;go_ret;exact⟨QZ u.o,k5⟩
    .go_wp2_with fail;generalize xA aF m.xs p.xs r.xs=Oq at*;generalize dm ord.xs Oq=AO at*;generalize dK ord.xs=PO at*;refine Zf ?_;refine qA3 ?_;refine qJ (λx hx=>z x) ?_;refine qJ (λx hx=>C x (aO k5 hx)) ?_;refine KX ?_
     cases AO
     .go_big_quiet_skip;go_big_quiet_skip;go_big_quiet_skip;refine qA2 ?_;refine X6 ?_;intro x hx;go_wp2;go_ret;exact⟨QZ u.o,aO k5 hx⟩
     .go_big_quiet_want;refine⟨.pointer (O (aD w.heap.size 6)),λx hx=>?_,?_⟩
      .go_simp
      simp only[pU];go_big_quiet_on;refine KX ?_;go_big_quiet_want;refine⟨Qq PO,λx hx=>?_,?_⟩
      .have hC:=Calls.IP hx (D x (aO k5 hx));go_simp
      simp only[pU];go_big_quiet_on;refine qA2 ?_;refine X6 ?_;intro x hx;go_wp2;go_ret;exact⟨QZ u.o,aO k5 hx⟩
 .have P:((N b.xs:Int)==0)=true:=by rw[beq_iff_eq];omega
  rw[ZK h0,Bool.false_and]at l;have u:=Zh l;clear l;clear z i f k C D;go_enter func83,ntmps83;go_wp2;go_ret;exact⟨QZ u.o,fo _ _⟩
theorem ajg(ao:LM)(cap:Nat)(ts:JK af)(q:ae)(w:U)(hx:aZ w ao ts)(hc:gV ts=F) :
  Cb 25 #[Z ao (N ts) cap,.agg q.cells] w (I J (q.check ts)):=by
 have b:Hid ((1:Int)=q.check ts):=ae.Rt hc;have d:=λo=>hx.aj (fo w o);generalize q.check ts=R at*;generalize a:q.cells=C at*;have f:C.size=7:=by rw[<-a];rfl
 unfold ae.cells aA.val at a;subst a;go_enter func25,ntmps25;go_wp2_with (go_at_call 56;refine(tH _ _ _ _ (d _)).mono ?_;rw[hc];rintro e g ⟨rfl,i⟩);go_ret;exact⟨Q0 b.o,aO (fo _ _) (by assumption)⟩
theorem aji(ao:LM)(cap:Nat)(ts:JK af)(q:ae)(w:U)(hx:aZ w ao ts)(hq:q.At w)(hc:gV ts=T)
  (hf:¬(5<N q.au.xs∨8<N q.wh∨8<N q.bA.xs∨4<N q.aC.xs∨4<N q.aM.xs∨4<N q.ord.xs)) (hw:pE q.wh (N q.wh)=T) :
  Cb 25 #[Z ao (N ts) cap,.agg q.cells] w (I J (q.check ts)):=by
 have y:=Zh (ae.DR hc (af9 (by rw[GR];exact hw)));have z:=λo=>hx.aj (fo w o);have d:=hq.wh;generalize q.check ts=R at*;clear hq;obtain⟨B,iF,cZ,a,aF,C,D,G,ord⟩:=q;simp only at hf d hw;unfold ae.cells aA.val;simp only;have L:¬5<N B.xs:=X;have P:¬8<N a:=X;have Q:¬8<N G.xs:=X;have S:¬4<N C.xs:=X;have W:¬4<N D.xs:=X;have h6:¬4<N ord.xs:=X;have A:=Zh hw;clear hf hw;go_enter func25,ntmps25;go_wp2_with (go_at_call 56;refine(tH _ _ _ _ (z _)).mono ?_;rw[hc];rintro e w' ⟨rfl,t⟩;have g:=zR t;simp at g);go_loop [6,7] (λf i=>∃k:Nat,k<=N a/\i=I J k/\f=Qq (pE a k)) (λ_ i=>N a-(intOf i).toNat)
 case atStart=>exact⟨0,ZR _,rfl,by simp[pE];omega⟩
 case round=>
  obtain⟨k,hk,rfl,rfl⟩:=hrel;by_cases v:k<N a
  .have j:=ack v;obtain⟨b,off,rfl,u⟩:=d.2.1.get v;have m:=cB (aO (fo _ _) t) (u k v);unfold aQ.val at m;generalize (E a k lz).ad=ad,(E a k lz).cap=cp,(E a k lz).cs.length=cl at*
   cases hb0:pE a k
   .have n:=Zh (show pE a (k+1)=decide (3<cl) by rw[j,hb0,Bool.false_or]);clear j hb0 u d;by_cases K:3<cl
    all_goals
     go_wp2;go_round
     case rel=>exact⟨k+1,X,Qe,Cm (by rw[n.o];simp;omega)⟩
     case measure=>exact XK
   .have n:=Zh (show pE a (k+1)=T by rw[j,hb0,Bool.true_or]);clear j hb0 u d;go_wp2;go_round
    case rel=>exact⟨k+1,X,Qe,by rw[n.o]⟩
    case measure=>exact XK
  .have p:k=N a:=X
   subst p;rw[A.o];go_wp2;go_ret;exact⟨Q0 y.o,aO (fo _ _) t⟩
abbrev nd (k l r s:Int) (cl:IC) (key:Int) (co:IC):ay:=⟨k,l,r,s,⟨none,0,cl⟩,key,⟨none,0,co⟩⟩
