import Derived.Test.YtnjbikdhpnopjaaGreatDoorA00
set_option linter.all false
set_option maxRecDepth 100000
set_option maxHeartbeats 0
namespace Go.Proofs.Zz
open Go.RowKit Go.Shelf
open List renaming length->N,getD->E
open Go.Value renaming slice->Z,int->I,pointer->Y
open Go.Proofs.Tryz renaming prog->V
open Option renaming some->O
open Go.IntKind renaming i64->J
open Bool renaming true->T
open Go renaming World->U
open Go.World renaming heap->H,cell?->UK
open _root_.Array renaming size->M
open Go.RowKit renaming Hid->Y3
open Go.Obj renaming cells->EP
open Go.Ending renaming returned->FN
variable {k n:Nat} {l s src xs:List Int} {a b:List Nat} {ts:List ah} {cs:List aI} {rs:List ae} {W w:U} {e:TypeId} {v:Value}
def wQ(plan:List ai)(i:Nat):List Nat:=
 let n:=E plan i nz
 if arity n.kind=0 then []
 else if arity n.kind=1 then (if 0<=n.l/\n.l<i then [n.l.toNat] else [])
 else (if 0<=n.l/\n.l<i/\0<=n.r/\n.r<i then [n.l.toNat,n.r.toNat] else [])
theorem abb{k:Int}(h1:k≠1)(h2:arity k≠2):arity k=1:=by grind [arity]
theorem Gz{k:Int}(h1:k=1):arity k=0:=by grind [arity]
def rJ(l:List Int)(a:Int)(m:List Int):bK l (a::m)=bK (if a∈l then l else l++[a]) m:=rfl
theorem uy{x:Int}:∀{m l:List Int},x∈bK l m↔x∈l∨x∈m
 |[],l=>by grind [bK]
 |a::m,l=>by rw[rJ,uy];grind
theorem iF:∀{m l:List Int},l.Nodup->(bK l m).Nodup
 |[],l,h=>h
 |a::m,l,h=>by rw[rJ];apply iF;grind
theorem Br:∀{m l:List Int},N (bK l m)<=N l+N m
 |[],l=>by grind [bK]
 |a::m,l=>by rw[rJ];refine Qz Br ?_;grind
theorem yj:∀{m l:List Int},m.Nodup->(N (bK l m)=N l+(N m)↔∀x∈m,x ∉ l)
 |[],l,_=>by grind [bK]
 |a::m,l,h=>by
  rw[List.nodup_cons]at h;rw[rJ];by_cases ha:a∈l
  .grind [Br]
  .rw[ZU ha];have h1:=yj (m:=m) (l:=l++[a]) h.2
   grind
def abd(l:List Int):bK l []=l:=rfl
def aY(n:Nat)(l:List Int):Prop:=∀x∈l,0<=x/\x<(n:Int)
def aY.with{n:Nat}{l m:List Int}(hl:aY n l)(hm:aY n m):aY n (bK l m):=λx a=>by
 rcases uy.1 a with h|h
 .exact hl x h
 .exact hm x h
def aY.lt(hn:n<=64)(h:aY n l):aO l<18446744073709551616:=by have a:=uT (n:=n) h;have b:2 ^ n<=2 ^ 64:=ZI (by omega) hn;omega
theorem U9(l:List Int):∀m:Nat,l.foldl (λm n=>m|||2 ^ n.toNat) m=m|||aO l:=by
 unfold aO
 induction l with
 |nil=>intro m;simp
 |cons a l ih=>grind
theorem ED(a b:List Int):aO (a++b)=aO a|||aO b:=by grind [aO,U9]
theorem yl{m:List Int}(hl:aY n l)(hm:aY n m):aO (bK l m)=aO l|||aO m:=by apply ZJ;intro i;rw[Nat.testBit_or,ZG (λx hx=>(hl.with hm x hx).1),ZG (λx hx=>(hl x hx).1),ZG (λx hx=>(hm x hx).1),ZV];grind [uy]
theorem EE(hn:n<=64)(hs:aY n s)(hl:aY n l):(aO l &&& (18446744073709551615-aO s)=0)↔∀x∈l,x∈s:=by
 rw[Gx (hs.lt hn) (hl.lt hn)];constructor
 .intro h x a;have e:=(hl x a).1;have b:=h x.toNat (by rw[ZG (λx a=>(hl x a).1),ZW];grind);rw[ZG (λx a=>(hs x a).1),ZW,ZX e]at b;exact b
 .intro h i d;rw[ZG (λx a=>(hl x a).1),ZW]at d;rw[ZG (λx a=>(hs x a).1),ZW];exact h _ d
theorem Va(hs:aY n s)(hl:aY n l):(aO s &&& aO l≠0)↔∃x,x∈s/\x∈l:=by
 rw[aa9];constructor
 .rintro⟨i,b,d⟩;rw[ZG (λx a=>(hs x a).1),ZW]at b;rw[ZG (λx a=>(hl x a).1),ZW]at d
  grind
 .rintro⟨x,b,d⟩;have e:=(hs x b).1;refine⟨x.toNat,?_,?_⟩
  .rw[ZG (λx a=>(hs x a).1),ZW,ZX e];exact b
  .rw[ZG (λx a=>(hl x a).1),ZW,ZX e];exact d
theorem yn(hs:aY n s)(hd:s.Nodup):aO s=2 ^ n-1↔(N s)=n:=by
 have g:∀k:Nat,k∈s.map Int.toNat↔(k:Int)∈s:=λk=>by
  rw[ZC];constructor
  .rintro⟨x,f,rfl⟩;rw[ZX (hs x f).1];exact f
  grind
 have j:(s.map Int.toNat).Nodup:=by show List.Pairwise _ _;rw[List.pairwise_map];refine List.Pairwise.imp_of_mem ?_ hd;intro a b u v y e;have q:=(hs a u).1;have r:=(hs b v).1;omega
 have l:∀k∈s.map Int.toNat,k<n:=λk p=>by have:=(hs _ ((g k).1 p)).2;omega
 have d:=qM l;rw[Zm]at d;have t:=List.nodup_iff_count.1 j;constructor
 .intro h;rw[<-d];have e:∀k,k<n->(s.map Int.toNat).count k=1:=λk p=>by
   have q:(k:Int)∈s:=by have r:=ZG (λx f=>(hs x f).1) k;simp_all
   grind
  have one:∀m,m<=n->fF m (λk=>(s.map Int.toNat).count k)=m:=by
   intro m
   induction m with
   |zero=>intro _;rfl
   |succ m ih=>grind [jB]
  simp_all
 .intro h;have e:=EA (n:=n) (λk _=>t k) (by rw[d,h]);apply ZJ;intro i;rw[ZG (λx f=>(hs x f).1),aba,ZV,ZW,ZW];constructor
  .simp_all
  grind
def ZT:=@uy
def aT(s:Nat):List Nat:=(List.range 64).filter λi=>s.testBit i
theorem PO(hn:n<=64)(h:aY n l)(i:Nat):i∈aT (aO l)↔(i:Int)∈l:=by
 unfold aT;rw[ZY,ZZ,ZG (λx a=>(h x a).1),ZW];constructor
 .simp_all
 .intro e;have:=(h _ e).2
  grind
def J3(s:Nat):(aT s).Nodup:=List.Pairwise.filter _ List.nodup_range
theorem Lc(hs:aY n s)(hd:s.Nodup):(s.map Int.toNat).Nodup:=by show List.Pairwise _ _;rw[List.pairwise_map];refine List.Pairwise.imp_of_mem ?_ hd;intro a b d f g e;have i:=(hs a d).1;have j:=(hs b f).1;omega
theorem Y8(hs:aY n s)(k:Nat):k∈s.map Int.toNat↔(k:Int)∈s:=by
 rw[ZC];constructor
 .rintro⟨x,a,rfl⟩;rw[ZX (hs x a).1];exact a
 grind
theorem PQ(hn:n<=64)(hs:aY n s)(hd:s.Nodup):(s.map Int.toNat).Perm (aT (aO s)):=
 (List.perm_ext_iff_of_nodup (Lc hs hd) (J3 _)).2 λk=>by grind [Y8,PO]
theorem abe(h:a.Perm b):∀m,a.foldl (· * ·) m=b.foldl (· * ·) m:=by
 induction h with
 |nil=>intro m;rfl
 |cons x _ ih=>simp_all
 |swap x y l=>grind
 |trans _ _ h1 h2=>simp_all
def uz:∀(l:List Nat),l.foldl bV 0=0
 |[]=>rfl
 |a::l=>by rw[ZF,PK,uz l]
theorem qD:∀(l:List Nat) (m:Nat),0∈l->l.foldl bV m=0
 |[],_,h=>by cases h
 |a::l,m,h=>by
  rw[ZF];rcases Z0.1 h with h|h
  .rw[<-h];have e:bV m 0=0:=by rfl
   rw[e,uz]
  .exact qD l _ h
theorem vQ:∀(l:List Nat) (m:Nat),1<=m->(∀x∈l,1<=x)->1<=l.foldl bV m
 |[],m,h,_=>h
 |a::l,m,h,hl=>by rw[ZF];refine vQ l _ ?_ (λx hx=>hl x (by simp[hx]));have h1:=ZL h (hl a (by simp));grind [bV,bJ]
theorem PS(h:a.Perm b):a.foldl bV 1=b.foldl bV 1:=by grind [qD,bJ,PN,abe]
theorem Bt{m:Nat}(hnm:n<=m)(p:Nat->Bool)(h:∀i,n<=i->p i=false):(List.range m).filter p=(List.range n).filter p:=by
 induction m with
 |zero =>
  simp_all
 |succ m ih =>
  grind [List.range_succ]
def Vb(hn:n<=64)(h:aY n l)(g:Nat->Nat)(m:Nat) :
  (aT (aO l)).foldl (λx c=>x / g c) m=(List.range n).foldl (λ(x c:Nat)=>if (c:Int)∈l then x / g c else x) m:=by unfold aT;rw[Bt hn _ (λi b=>by rw[ZG (λx a=>(h x a).1),Z4];intro e;have:=(h _ e).2;omega),List.foldl_filter];congr 1;funext x c;rw[ZG (λx a=>(h x a).1)];simp_all
structure bN where
 kind:Int
 sources:Nat
 clauses:Nat
 order:List Int
 size:Nat
 cost:Nat
def aZ(a b:Nat):Bool:=decide (b &&& (18446744073709551615-a)=0)
def eF(ts:List ah)(src:List Int)(cs:List aI):List Int:=(aN cs).map λc=>(aC ts src c:Int)
def kT(ts:List ah)(q:af)(l:List Int)(s:Nat):Bool:=
 (List.range (N l)).all λi=>decide ((if i=0 then -1 else E l (i-1) 0)<E l i 0)&&decide (E l i 0<N q.wh)&&aZ s (aO (eF ts q.src.xs (E q.wh (E l i 0).toNat lz).cs))
def pI(hc:ji ts=T)(ha:aS src (N ts)=T)(h:∀c∈aN cs,0<=c/\c<ak ts src):aY (N src) (eF ts src cs):=λx e=>by obtain⟨c,a,rfl⟩:=ZC.1 e;obtain⟨b,d⟩:=h c a;have:=(ZQ hc ha b d).1;omega
theorem zy(hc:ji ts=T)(ha:aS src (N ts)=T)(hn:N src<=64)(h:∀c∈aN cs,0<=c/\c<ak ts src)(hs:aY (N src) s) :
  aZ (aO s) (aO (eF ts src cs))=F9 ts src cs s:=by unfold aZ F9;rw[ZV,ZW,Qk,EE hn hs (pI hc ha h)];grind [eF]
def DC(ts:List ah)(q:af):Prop:=∀i,i<N q.wh->∀c∈aN (E q.wh i lz).cs,0<=c/\c<ak ts q.src.xs
theorem Bu{q:af}(hc:ji ts=T)(ha:aS q.src.xs (N ts)=T)(hn:N q.src.xs<=64)(hk:DC ts q)(hs:aY (N q.src.xs) s)(l:List Int) :
  kT ts q l (aO s)=gz ts q l s:=by
 unfold kT gz;rw[ZV,Qk,Qk];constructor
 .intro h;have a:∀i,i<N l->0<=E l i 0:=by
   intro i
   induction i with
   |zero =>
    grind
   |succ i ih =>
    grind
  intro i d;have e:=ZZ.1 d;have b:=h i d;have j:=a i e;simp only[Qj,ZW]at b;obtain⟨⟨k,g⟩,f⟩:=b;rw[zy hc ha hn (hk _ (by omega)) hs]at f;grind
 .intro h i d;have b:=h i d;simp only[Qj,Z5,ZW]at b;obtain⟨⟨⟨j,g⟩,k⟩,f⟩:=b;simp only[Qj,ZW];rw[zy hc ha hn (hk _ (by omega)) hs];refine⟨⟨?_,g⟩,f⟩;omega
theorem wS(k:Nat):aO [(k:Int)]=2 ^ k:=by grind [aO]
def oO(hn:n<=64)(hs:aY n s)(hk:k<n):aZ (aO s) (2 ^ k)=decide ((k:Int)∈s):=by unfold aZ;rw[<-wS,ZV,ZW,ZW,EE hn hs (λx a=>by simp_all)];simp_all
def GA(ts:List ah)(src:List Int)(cs:List aI)(a b:Nat):Int × Int × Bool:=
 if N cs > 1∨(E cs 0 cz).op≠0∨(E cs 0 cz).not=T∨(E cs 0 cz).const=T then (0,0,false)
 else if (aZ a (2 ^ aC ts src (E cs 0 cz).left)&&aZ b (2 ^ aC ts src (E cs 0 cz).right))=T then ((E cs 0 cz).left,(E cs 0 cz).right,T)
 else if (aZ a (2 ^ aC ts src (E cs 0 cz).right)&&aZ b (2 ^ aC ts src (E cs 0 cz).left))=T then ((E cs 0 cz).right,(E cs 0 cz).left,T)
 else (0,0,false)
theorem Vd(hc:ji ts=T)(ha:aS src (N ts)=T)(hn:N src<=64)(h0:0<N cs)(h:∀c∈aN cs,0<=c/\c<ak ts src){a b:List Int}
  (hsa:aY (N src) a) (hsb:aY (N src) b) :
  (GA ts src cs (aO a) (aO b)).2.2=(kS ts src cs a b).2.2/\((kS ts src cs a b).2.2=T->GA ts src cs (aO a) (aO b)=kS ts src cs a b):=by
 unfold GA kS;by_cases l:N cs≠1∨(E cs 0 cz).not=T∨(E cs 0 cz).const=T∨(E cs 0 cz).op≠0
 .grind
 .have d:¬(N cs > 1∨(E cs 0 cz).op≠0∨(E cs 0 cz).not=T∨(E cs 0 cz).const=T):=by simp_all
  rw[ZU l,ZU d];have e:(E cs 0 cz).left∈aN cs/\(E cs 0 cz).right∈aN cs:=by
   have f:E cs 0 cz∈cs:=by simp_all
   have m:(E cs 0 cz).op≠2/\(E cs 0 cz).const=false:=by simp_all
   unfold aN;refine⟨Z6.2 ⟨_,f,?_⟩,Z6.2 ⟨_,f,?_⟩⟩
   .unfold aH;simp_all
   .unfold aH;simp_all
  have g:=h _ e.1;have i:=h _ e.2;have j:=(ZQ hc ha g.1 g.2).1;have k:=(ZQ hc ha i.1 i.2).1;generalize E cs 0 cz=c at*;rw[oO hn hsa j,oO hn hsb k,oO hn hsa k,oO hn hsb j];grind
theorem Ld{f:Nat->Nat}(h:∀k,f k<=1):∀n,fF n f<=n
 |0=>Qn _
 |n+1=>by rw[ZR];have:=Ld h n;grind
theorem DD(hs:aY n s)(hd:s.Nodup):N s<=n:=by
 have a:∀k∈s.map Int.toNat,k<n:=λk d=>by have:=(hs _ ((Y8 hs k).1 d)).2;omega
 have b:=qM a;grind [Lc,Ld]
theorem EF(h:dB xs=T):xs.Nodup:=by unfold dB at h;grind [List.pairwise_iff_getElem]
def qI(ts:List ah)(src cols:List Int)(s:Nat):Bool:=
 decide (0<N cols)&&decide ((N cols:Int)<=ak ts src) &&
  (List.range (N cols)).all λi=>decide (0<=E cols i 0)&&decide (E cols i 0<ak ts src) && !decide (E cols i 0∈cols.take i)&&aZ s (2 ^ aC ts src (E cols i 0))
theorem uV{i:Nat}(hi:i<N xs){x:Int}:x∈xs.take i↔∃j,j<i/\E xs j 0=x:=by
 rw[List.mem_take_iff_getElem];constructor
 .rintro⟨j,a,e⟩;refine⟨j,by omega,?_⟩
  grind
 grind
theorem abf(hc:ji ts=T)(ha:aS src (N ts)=T)(hn:N src<=64)(hs:aY (N src) s){cols:List Int}(h0:0<N cols) :
  qI ts src cols (aO s)=(aS cols (ak ts src)&&dB cols&&cols.all λc=>decide ((aC ts src c:Int)∈s)):=by
 unfold qI;rw[ZV,Qx h0,Z8,Qj,ZW,Qk,Qj,Qj,Qk];have at':∀c∈cols,∃i,i<N cols/\E cols i 0=c:=λc k=>by obtain⟨i,a,e⟩:=Qq k;exact⟨i,a,by simp_all⟩
 have m:∀i,i<N cols->E cols i 0∈cols:=λi a=>by simp_all
 constructor
 .rintro⟨_,h⟩;have v:∀i,i<N cols->0<=E cols i 0/\E cols i 0<ak ts src/\E cols i 0 ∉ cols.take i/\(aC ts src (E cols i 0):Int)∈s:=λi a=>by have g:=h i (ZZ.2 a);simp only[Qj,Bool.not_eq_true',ZW,Z4]at g;obtain⟨⟨⟨l,q⟩,y⟩,u⟩:=g;rw[oO hn hs (ZQ hc ha l q).1,ZW]at u;simp_all
  refine⟨⟨?_,?_⟩,?_⟩
  .grind [aS]
  .grind [dB,uV]
  grind
 .rintro⟨⟨g,l⟩,q⟩;have n:=EF l;have b:aY (ak ts src).toNat cols:=λx p=>by unfold aS at g;grind
  have r:=DD b n;have t:=oL hc ha (N src) (Qn _);rw[QX]at t;refine⟨by omega,λi a=>?_⟩;have d:=ZZ.1 a;have k:=m i d;have p:=b _ k;have f:E cols i 0<ak ts src:=by omega
  simp only[Qj,Bool.not_eq_true',ZW,Z4];rw[oO hn hs (ZQ hc ha p.1 f).1];refine⟨⟨⟨p.1,f⟩,?_⟩,q _ k⟩;intro e;obtain⟨j,z,A⟩:=(uV d).1 e;unfold dB at l;grind
def lZ(ts:List ah)(q:af)(sources clauses:Nat):Nat:=
 if ((aT sources).map λ(k:Nat)=>mV ts q.src.xs (k:Int)).foldl bV 1=0 then 0
 else max ((aT clauses).foldl (λx c=>x / kQ ts q.src.xs (E q.wh c lz).cs) (((aT sources).map λ(k:Nat)=>mV ts q.src.xs (k:Int)).foldl bV 1)) 1
theorem Le(ts:List ah)(q:af)(hw:N q.wh<=64)(hn:n<=64){c:List Int}(hs:aY n s)(hd:s.Nodup)(hc:aY (N q.wh) c):lZ ts q (aO s) (aO c)=qH ts q s c:=by
 have d:(s.map (mV ts q.src.xs))=(s.map Int.toNat).map λ(k:Nat)=>mV ts q.src.xs (k:Int):=by rw[Z9];rfl
 have e:((aT (aO s)).map λ(k:Nat)=>mV ts q.src.xs (k:Int)).foldl bV 1=(s.map (mV ts q.src.xs)).foldl bV 1:=by rw[d];exact(PS ((PQ hn hs hd).map _)).symm
 unfold lZ qH;rw[e];by_cases a:(s.any λx=>decide (mV ts q.src.xs x=0))=T
 .rw[Zt a];obtain⟨x,g,i⟩:=List.any_eq_true.1 a;rw[Zt (qD _ 1 (ZC.2 ⟨x,g,Xa i⟩))]
 .rw[ZU a];have f:∀y∈s.map (mV ts q.src.xs),1<=y:=λy j=>by grind
  have b:=vQ _ 1 (Qn _) f;rw[ZU (by omega)];unfold akD;rw[Vb hw hc]
def wU(kind:Int)(l r s:Nat):Nat:=if kind=4 then kP [l,r,r,s] else if kind=5 then kP [l,r,s] else bV l r
def lF(kind:Int)(s lc ls rc rs:Nat):Nat:=
 if kind=1 then kP [s,1]
 else if kind=3∨kind=4∨kind=5 then kP [lc,rc,wU kind ls rs s]
 else if kind=6∨kind=10 then kP [lc,bV ls (nJ ls+1)]
 else if kind=7 then kP [lc,ls,ls]
 else kP [lc,ls]
theorem Y9(a b:Nat):kP [a,b]=dY a b:=by grind [dY,yh]
theorem PW(a b c:Nat):kP [a,b,c]=dY (dY a b) c:=by grind [dY,yh]
theorem apL(a b c d:Nat):kP [a,b,c,d]=dY (dY a b) (dY c d):=by grind [dY,yh]
theorem Lf(a:Nat):bV 2 a=dY a a:=by grind [bV,dY]
def Lg(kind:Int)(s:Nat)(l r:dX):lF kind s l.cost l.size r.cost r.size=Lb kind s l r:=by
 unfold lF Lb wU;by_cases a:kind=1
 .rw[Zt a,Zt a,Y9]
 rw[ZU a,ZU a];by_cases k3:kind=3
 .rw[Zt (.inl k3),Zt k3,ZU (by omega),ZU (by omega),PW]
 rw[ZU k3];by_cases k4:kind=4
 .rw[Zt (.inr (.inl k4)),Zt k4,Zt k4,PW,apL,Lf];congr 1;rw[mU,mU,Gy s (dY r.size r.size),mU]
 simp only[ZU k4];by_cases k5:kind=5
 .rw[Zt (.inr (.inr k5))];simp only[Zt k5];rw[PW,PW];congr 1;rw[mU,mU,Gy s r.size]
 simp only[ZU k5];rw[ZU (show ¬(kind=3∨kind=4∨kind=5) by omega)];by_cases k6:kind=6∨kind=10
 .rw[Zt k6,Zt k6,Y9]
 rw[ZU k6,ZU k6];by_cases k7:kind=7
 .rw[Zt k7,Zt k7,PW,Lf,mU]
 rw[ZU k7,ZU k7,Y9]
def fE(rs:List ae):List Int:=(rs.map (·.xs)).flatten
def Gu(hk:k<N rs):fE (rs.take (k+1))=fE (rs.take k)++(E rs k iz).xs:=by unfold fE;rw[<-oM rs iz hk,Qi,List.flatten_append];simp
def PD:N (fE (rs.take k))<=N (fE rs):=by
 have h:fE rs=fE (rs.take k)++fE (rs.drop k):=by unfold fE;rw[<-List.flatten_append,<-Qi,Zx]
 rw[h,Zn];omega
def Tryz.aa3:Go.Shelf.Ren:=⟨fun|4=>204|n=>n,fun|22=>22|25=>3|3=>3|4=>4|9=>9|20=>20|0=>0|n=>n,fun|n=>n⟩
def Tryz.akC:Go.Proofs.Lays8.n4 V Tryz.aa3:={
 mixed:=by kernel_rfl
 f4:=⟨Tryz.f204.name,by decide,Tryz.func204.trans (congrArg O (by kernel_rfl))⟩
 t0:=Tryz.underlying0
 a0:=Tryz.isAgg0
 z0:=Tryz.sizeOf0
 v0:=Tryz.zeroValue0
 t3:=Tryz.underlying3
 a3:=Tryz.isAgg3
 z3:=Tryz.sizeOf3
 v3:=Tryz.zeroValue3
 t4:=Tryz.underlying4
 a4:=Tryz.isAgg4
 z4:=Tryz.sizeOf4
 v4:=Tryz.zeroValue4
 t9:=Tryz.underlying9
 a9:=Tryz.isAgg9
 z9:=Tryz.sizeOf9
 v9:=Tryz.zeroValue9
 t20:=Tryz.underlying20
 a20:=Tryz.isAgg20
 z20:=Tryz.sizeOf20
 v20:=Tryz.zeroValue20
 t22:=Tryz.underlying22
 a22:=Tryz.isAgg22
 z22:=Tryz.sizeOf22
 v22:=Tryz.zeroValue22 }
def Tryz.lK:(V.info? 3).map (λi=>(i.zero,i.size,i.bytes))=O (O (I J 0),1,8):=by kernel_rfl
def aep(n:Nat)(w:U)(hn:n<=1000000) :
  Calls V 204 #[Z none 0 0,I J n] w λe b=>∃v,e=FN v/\b.ownsRow (M (H w)) 3 1 v 0 []/\Bw w b:=by
 obtain⟨k,l,d,f,g⟩:=Zj Tryz.lK;by_cases m:n=0
 .subst m;have h:=Any8.slices_Grow_room Tryz.akC none 0 0 0 w (Qn _) (by omega) (by omega) (by omega);change Calls V 204 _ _ _ at h;refine h.mono ?_;rintro e b ⟨rfl,rfl⟩;exact⟨_,rfl,Zk _ _ _ _,Qm _ _⟩
 .have h:=Any8.slices_Grow_grow Tryz.akC k (I J 0) l d (by rw[f];decide) none 0 0 n [] w (Qn _) (by omega) (by rw[g];omega) (by omega) (by simp) (λ_=>rfl) (λa e=>by cases e);change Calls V 204 _ _ _ at h;refine h.mono ?_;rintro e b ⟨rfl,rfl⟩;refine⟨_,rfl,⟨by simp,.inr ⟨M (H w),_,_,rfl,Qn _,pR w.drew _,QW _,?_,?_,by simp⟩⟩,?_⟩
  .exact grownCap_le_maxLen _ _ _ _ (by unfold maxLen;omega)
  .have i:=grownCap_ge w (0+n) 0 3;have j:(Value.int J 0).cells.size=1:=rfl;simp only[Array.size_append,size_zeroCells,j,QN,QP]
   show 0+(0+n-0)*1+(grownCap w (0+n) 0 3-(0+n))*1=grownCap w (0+n) 0 3*1;omega
  .exact(Qm _ w).drew.alloc (Qn _) _
def zY(ao:Option Addr)(cap:Nat)(rs:List ae)(w:U)(hr:jk w ao rs)(hn:N rs<=1000)(hnil:∀i,i<N rs->(E rs i iz).ad=none->(E rs i iz).cap=0)(ht:N (fE rs)<=100000) :
  Calls V 171 #[Z ao (N rs) cap] w λe w'=>∃v,e=FN v/\w'.ownsRow (M (H w)) 3 1 v (N (fE rs)) ((fE rs).map (Value.int J))/\Bw w w':=by
 obtain⟨i0,hi,ak,au,av⟩:=Zj Tryz.lK;have HR:Y3 _:=hr;obtain⟨HN,HT⟩:=aJ hnil ht;clear hr hnil ht;go_enter Tryz.func171,Tryz.ntmps171;go_wp2;go_loopw [3,11] (λs i wr=>∃k:Nat,k<=N rs/\i=I J k/\s=I J (N (fE (rs.take k)))/\w=wr) (λ_ i _=>N rs-(intOf i).toNat)
 case atStart=>exact⟨0,QW _,rfl,rfl,rfl⟩
 case round=>
  obtain⟨k,hk,rfl,rfl,rfl⟩:=hrel;by_cases f:k<N rs
  .obtain⟨b,off,rfl,q⟩:=HR.o.2.1.get f;have p:=q k f;have t:N (fE (rs.take (k+1)))<=100000:=Qz PD HT.o;have y:N (fE (rs.take (k+1)))=N (fE (rs.take k))+(E rs k iz).xs.length:=by rw[Gu f,Zn]
   have HS:=Zh y;generalize E rs k iz=x at*;obtain⟨W,X,g⟩:=x;have aa:UK w (aD b (off+k))=O (Z W (N g) X):=p;have hw:wrap64 ((N (fE (rs.take k)):Int)+(N g:Int))=((N (fE (rs.take k))+N g:Nat):Int):=by simp only at y;unfold wrap64;omega
   have Y5:¬(((N (fE (rs.take k))+N g:Nat):Int)<0):=by omega
   have af:=Zh hw;clear p q t y;generalize N (fE (rs.take k))=a at*;go_wp2;go_roundw
   case rel=>exact⟨k+1,by omega,by go_num,by rw[HS.o];exact congrArg (Value.int J) af.o,trivial⟩
   case measure=>simp[intOf];omega
  .have z:k=N rs:=by omega
   subst z;rw[QX];have ht:=HT.o;generalize S:fE rs=fl at*;have HF:=Zh S;clear S;go_wp2_with fail;refine(aep (N fl) w (by omega)).mono ?_;rintro e w2 ⟨v0,rfl,C,ax⟩;go_wp2;go_loopw [6,27] (λv i wr=>∃k:Nat,k<=N rs/\i=I J k/\wr.ownsRow (M (H w)) 3 1 v (N (fE (rs.take k))) ((fE (rs.take k)).map (Value.int J))/\Bw w wr) (λ_ i _=>N rs-(intOf i).toNat)
   case atStart=>exact⟨0,QW _,rfl,C,ax⟩
   case round=>
    obtain⟨k,hk,rfl,d,n⟩:=hrel;by_cases f:k<N rs
    .obtain⟨b,off,rfl,q⟩:=HR.o.2.1.get f;have p:=(cB n (q k f))
     have D:(E rs k iz).At wr:=Qo n (HR.o.2.2 k f);have G:=HN.o k f;have t:N (fE (rs.take (k+1)))<=100000:=by have h1:N (fE (rs.take (k+1)))<=N (fE rs):=PD;rw[HF.o]at h1;omega
     have A:=Gu f;have K:=Zh A;rw[A,Zn]at t;generalize E rs k iz=x at*;obtain⟨W,X,g⟩:=x;simp only at G t;have aa:UK wr (aD b (off+k))=O (Z W (N g) X):=p;have HA:Y3 _:=D;clear p q A D;generalize fE (rs.take k)=fk at*;have L:=n.size
     cases W with
     |none =>
      have ag:g=[]:=by
       cases g with
       |nil=>rfl
       |cons a l=>obtain⟨b,off,e,_⟩:=HA.o.2 0 (by simp);cases e
      subst ag;obtain rfl:=G rfl;go_wp2_with (first|(at_builtin;refine wpList_append_own_none rfl _ _ 22 rfl (M (H w)) 3 i0 1 Tryz.underlying22 hi _ _ _ rfl d rfl ?_));go_wp2;go_roundw
      case rel=>exact⟨k+1,by omega,by go_num,by rw[K.o];simpa using d,n⟩
      case measure=>simp[intOf];omega
     |some xa =>
      have ah:Y3 (N (g.map (Value.int J))=N g*1):=by show _=_;simp
      have HQ:Y3 (∀j u,(g.map (Value.int J))[j]? = O u->wr.cell? (xa.add j)=O u):=by
       intro j u R;have B:j<N g:=by have:=(Zy.1 R).1;simpa using this
       obtain⟨b2,Q,e2,ay⟩:=HA.o.2 j B;cases e2;rw[ZA,ZB B]at R;cases R;have P:=ay;simp only[List.getD,ZB B,Option.getD_some]at P;have ha:((aD b2 Q):Addr).add j=(aD b2 (Q+j)):=by
        unfold Addr.add;split
        .simp_all
        .rfl
       rw[ha];exact P
      have ai:Y3 (∀u∈g.map (Value.int J),u.oneCell' = T):=by intro u hu;obtain⟨a,_,rfl⟩:=ZC.1 hu;rfl
      go_wp2_with (first|(at_builtin;refine wpList_append_own _ rfl _ _ 22 rfl (M (H w)) 3 i0 (.int J 0) 1 8 Tryz.underlying22 hi ak au av rfl (by decide) _ _ _ rfl d xa (N g) X (g.map (Value.int J)) rfl ah.o HQ.o ai.o (by unfold maxLen;omega) (by omega) L ?_));intro v' w1 r m _;have aj:=n.grown m L (λj R=>(d.lt j R).1);have HO:Y3 _:=r;clear r m d;go_wp2;go_roundw
      case rel=>exact⟨k+1,by omega,by go_num,by rw[K.o,Zn,Qi];exact HO.o,aj⟩
      case measure=>simp[intOf];omega
    .have z:k=N rs:=by omega
     subst z;rw[QX,HF.o]at d;go_wp2;go_ret;refine⟨_,rfl,?_,n⟩;rw[HF.o];exact d
section
theorem iC{base:Nat}(h:w.ownsRow base e 1 v n (xs.map (Value.int J)))(hl:N xs<=1152921504606846976) :
  ∃iv:ae,v=iv.val/\iv.xs=xs/\aj.At iv w/\∀b,aj.blk iv=O b->base<=b:=by
 have l:N xs=n:=by have:=h.1;simpa using this
 rcases h.2 with⟨rfl,h0⟩|⟨g,cap,cur,rfl,d,hh,_,_,hcs,ht⟩
 .have:xs=[]:=Qs (by omega);subst this;exact⟨⟨none,0,[]⟩,rfl,rfl,⟨⟨by simp,λi j=>absurd j (by simp)⟩,(λa k=>by cases k),λ_=>rfl⟩,λb d=>by cases d⟩
 .refine⟨⟨O (aD g 0),cap,xs⟩,by rw[<-l];rfl,rfl,⟨⟨hl,λi j=>⟨g,0,rfl,?_⟩⟩,λa k=>?_,λe=>by cases e⟩,λb f=>?_⟩
  .have p:(cur.toList.take (n*1))[i]? = O (Value.int J (E xs i 0)):=by grind
   have m:cur[i]? = O (Value.int J (E xs i 0)):=by grind
   simp only[World.cell?,hh];simpa using m
  .grind
  .cases f;exact d
def aeq{x y:ae}(hx:aj.At x w)(hy:aj.At y w)(e:TypeId):jk (w.alloc (EP #[x.val,y.val] e)) (O (aD (M (H w)) 0)) [x,y]:=by
 have b:=dN w (EP #[x.val,y.val] e);refine⟨by simp,λi a=>⟨M (H w),0,rfl,?_⟩,λi a=>?_⟩
 .match i,a with
  |0,_=>simp
  |1,_=>simp
 .match i,a with
  |0,_=>exact Qo b hx.1
  |1,_=>exact Qo b hy.1
def U5{s:Nat->Prop}{o:Obj}{W3:U}(hb:Below (M (H (W.alloc o))) (W.alloc o) W3):Kept s W W3:=
 (QE W o).trans (QB hb (λb hb _=>hb))
attribute [local go_sem] Oper.semAt_some
def Gv(l Nq:Nat)(Jq:List ae->(Nat->Prop)->U->Prop)(all:List (List Int))(w0n:Nat)(x:ae)(io:Option Addr)(iP:Nat)(rs:List ae)(pre:List ae)(o1:Nat->Prop)(W:U)
  (hJ:∀pre o1 A B,Jq pre o1 A->Kept (λb=>o1 b∨b<Nq) A B->Jq pre o1 B)
  (hY:∀pre x o1 W1,Jq pre o1 W1->(pre++[x]).map aj.key <+: all->aj.At x W1->(∀b,aj.blk x=O b->¬o1 b/\(b<w0n∨Nq<=b))->Nq<=M (H W1)->
   YieldAt Fence.wide 0 V l #[aj.enc x] W1 λe W'=>e=FN (.bool T)/\∃g,Jq (pre++[x]) g W'/\Kept (λb=>¬o1 b) W1 W'/\
    ∀b,g b->o1 b∨(M (H W1)<=b/\b<M (H W'))∨(aj.blk x=O b/\Nq<=b))
  (hN:Nq<=M (H W)) (hj:Jq pre o1 W) (hpre:pre.map aj.key++rs.map (λr=>x.xs++r.xs) <+: all)
  (hx:aj.At x W) (hxo:∀b,aj.blk x=O b->¬o1 b) (hxl:N x.xs<=1000)
  (hr:bD W io rs) (F8:∀a,io=O a->¬o1 a.block) (hro:∀i,i<N rs->∀a,(E rs i iz).ad=O a->¬o1 a.block) (hrl:∀i,i<N rs->(E rs i iz).xs.length<=1000)
  (ho1:∀b,o1 b->b<M (H W)) :
  Calls V 133 #[x.val,Z io (N rs) iP,.func (.yield l) #[] #[]] W λe W'=>e=FN (.bool T)/\∃ys g,ys.map aj.key=rs.map (λr=>x.xs++r.xs)/\Jq (pre++ys) g W'/\Kept (λb=>¬o1 b) W W'/\
   ∀b,g b->o1 b∨(M (H W)<=b/\b<M (H W')):=by
 have aK:=hr.1.1;have Q:=hx.2.2;obtain⟨HJ,HY⟩:=aJ hJ hY;have HP:Y3 _:=hpre;obtain⟨HX,aC⟩:=aJ hx hxo;have HR:Y3 _:=hr;obtain⟨Y6,PE,aF,aG⟩:=om F8 hro hrl ho1;clear hJ hY hpre hx hxo hr F8 hro hrl ho1;obtain⟨iZ,bL,m⟩:=x;unfold ae.val;simp only at Q hxl;simp only;refine(QH (n:=0)).1 (callsIn_of_wp Tryz.func133 rfl trivial ?_ rfl);simp only[Tryz.ntmps133,QN,QO,QP,Nat.reduceAdd,Nat.reduceSub,QQ,QR,QS,QT,QU,QV];gi_wp2;gi_loopw [11] (λi wr=>∃k:Nat,k<=N rs/\i=I J k/\∃ys g,Y3 (ys.map aj.key=(rs.take k).map (λr=>m++r.xs))/\Jq (pre++ys) g wr/\Kept (λb=>¬o1 b) W wr/\Y3 (∀b,g b->o1 b∨(M (H W)<=b/\b<M (H wr))))
  (λi _=>N rs-(intOf i).toNat)
 case atStart=>exact⟨0,QW _,rfl,[],o1,rfl,by simpa using hj,Qy _ _,λb h=>.inl h⟩
 case round=>
  obtain⟨k,hk,rfl,ys,g,t,ai,G,j⟩:=hrel;by_cases f:k<N rs
  .have Y7:∀b,b<M (H W)->¬o1 b->wr.heap[b]? = W.heap[b]?/\¬g b:=λb d h=>⟨G.block b d h,λq=>by
    rcases j.o b q with q|q
    .exact h q
    .omega⟩
   obtain⟨b,off,rfl,ak⟩:=HR.o.1.2.1.get f;have aA:b<M (H W):=HR.o.2.1 _ rfl;have R:=(QL (a:=(aD b (off+k))) (Y7 b aA (Y6.o _ rfl)).1).trans (ak k f);have S:=aj.keep (A:=W) (HR.o.2.2 k f) G.size (λb d K=>by obtain⟨a,ha,rfl⟩:=K5 K;exact(Y7 _ d (PE.o k f a ha)).1);have X:=aj.keep HX.o G.size (λb d K=>(Y7 _ d (aC.o b K)).1);have aa:=(HR.o.2.2 k f).2.2;have hrl:=aF.o k f;have af:(rs.take k).map (λr=>m++r.xs)++[m++(E rs k iz).xs]=(rs.take (k+1)).map (λr=>m++r.xs):=by rw[<-oM rs iz f,Qi];rfl
   have PG:=Zh af;generalize E rs k iz=y at*;obtain⟨wC,kN,L⟩:=y;have aL:UK wr (aD b (off+k))=O (Z wC (N L) kN):=R;obtain⟨au,av⟩:=aJ S X;simp only at aa hrl;clear R S X Y7 ak af;have wP:=zY (O (aD (M (H wr)) 0)) 2 [⟨iZ,bL,m⟩,⟨wC,kN,L⟩] (wr.alloc (EP #[Z iZ (N m) bL,Z wC (N L) kN] 22)) (aeq av.o au.o _) (by simp) (λi hi=>by
    match i,hi with
    |0,_=>exact Q
    |1,_=>exact aa) (by simp[fE];omega)
   have ag:fE [⟨iZ,bL,m⟩,⟨wC,kN,L⟩]=m++L:=by simp[fE]
   rw[ag]at wP;clear ag;gi_wp2;refine⟨trivial,rfl,QH.2 (wP.mono ?_)⟩;rintro e w3 ⟨v,rfl,C,ax⟩;obtain⟨P,rfl,zZ,oD,Bo⟩:=iC C (by simp;omega);have p:∀s,Kept s wr w3:=λs=>U5 ax;have aM:=(p (λ_=>True)).size;have Py:=HJ.o _ _ _ _ ai (p _);have D:∀b,aj.blk P=O b->M (H wr)<=b:=λb d=>by have:=Bo b d;rw[Zo]at this;omega
   have aB:∀b,g b->b<M (H wr):=λb d=>by
    rcases j.o b d with h|h
    .have:=aG.o b h;have:=G.size;omega
    .exact h.2
   have ah:((pre++ys)++[P]).map aj.key <+: all:=by
    refine List.IsPrefix.trans ?_ HP.o;have e1:((pre++ys)++[P]).map aj.key=pre.map aj.key++(rs.take (k+1)).map (λr=>m++r.xs):=by rw[Qi,Qi,t.o,<-PG.o,<-ZE];show _++[P.xs]=_;rw[zZ]
    rw[e1];exact(List.prefix_append_right_inj _).2 (List.IsPrefix.map _ (List.take_prefix _ _))
   have aN:=G.size;obtain⟨fn,tmps,u,ay,hy,hR⟩:=HY.o (pre++ys) P g w3 Py ah oD (λb d=>⟨λh=>by have:=aB b h;have:=D b d;omega,.inr (by have:=D b d;omega)⟩) (by omega);obtain⟨aH,zX,UN⟩:=dQ zZ p oD;clear C ax p Py ah oD zZ wP av au;obtain⟨Nv,uS,z⟩:=P;have aO:(Instr.yield l #[Z Nv (N z) uS]).run V w3=.ok (.round l fn tmps u ay) w3:=hy;clear hy;unfold ae.val;simp only;gi_wp2;refine⟨rfl,hR.mono ?_⟩;rintro e w4 ⟨rfl,o3,Nt,az,aI⟩;gi_wp2;go_roundw
   case rel=>
    refine⟨k+1,by omega,by go_num,ys++[⟨Nv,uS,z⟩],o3,?_,by rw[<-ZE];exact Nt,?_,?_⟩
    .show _=_
     rw[Qi,t.o,<-PG.o];show _++[z]=_;rw[show z=m++L from aH.o]
    .refine(G.trans (zX.o _)).trans' az ?_;intro b d h q;rcases j.o b q with q|q
     .exact h q
     .omega
    .intro b d;have aP:=az.size;rcases aI b d with h|h|h
     .rcases j.o b h with h|h
      .exact .inl h
      .exact .inr ⟨h.1,by omega⟩
     .exact .inr ⟨by omega,h.2⟩
     .exact .inr ⟨by have:=D b h.1;omega,by have:=aj.zw UN.o h.1;omega⟩
   case measure=>simp[intOf];omega
  .obtain rfl:k=N rs:=by omega
   rw[QX]at t;gi_wp2;go_ret;exact⟨rfl,ys,g,t.o,ai,G,j.o⟩
end
section
theorem fe.had{n0:Nat}{ys:List ae}{o:Nat->Prop}(h:fe aj n0 w e ys o W v)(hl:N ys<=1000000) :
  ∃j cap,v=Z j (N ys) cap/\bD W j ys/\∀a,j=O a->M (H w)<a.block:=by
 have f:∀i,i<N ys->aj.At (E ys i iz) W:=λi b=>by
  have:E ys i iz∈ys:=by simp[List.getD,b]
  exact h.at' _ this
 have k:ys.map ae.val=ys.map ae.val:=rfl;rcases h.own.2 with⟨hv,h0⟩|⟨g,cap,cur,hv,hb,hh,hc1,hc2,hc3,ht⟩
 .have:=Qs h0;subst this;exact⟨none,0,hv,⟨⟨by simp,λi b=>absurd b (by simp),λi b=>absurd b (by simp)⟩,(λa d=>by cases d),λi b=>absurd b (by simp)⟩,λa d=>by cases d⟩
 .refine⟨O (aD g 0),cap,hv,⟨⟨by omega,λi b=>⟨g,0,rfl,?_⟩,λi b=>(f i b).1⟩,λa d=>?_,f⟩,λa d=>by cases d;exact hb⟩
  .have m:(cur.toList.take (N ys*1))[i]? = O (E ys i iz).val:=by rw[ht];simp[List.getD,b]
   have l:cur[i]? = O (E ys i iz).val:=by grind
   simp only[World.cell?,hh];simpa using l
  grind
def bD.keep{A B:U}{ao:Option Addr}{rs:List ae}(h:bD A ao rs)(hs:M (H A)<=M (H B))(h1:∀a,ao=O a->B.heap[a.block]? = A.heap[a.block]?)(h2:∀i,i<N rs->∀b,aj.blk (E rs i iz)=O b->B.heap[b]? = A.heap[b]?):bD B ao rs:=by have d:∀i,i<N rs->aj.At (E rs i iz) B:=λi e=>aj.keep (h.2.2 i e) hs (λb _ g=>h2 i e b g);exact⟨⟨h.1.1,h.1.2.1.keep (λa f _=>h1 a f),λi e=>(d i e).1⟩,λa f=>QA (h.2.1 a f) hs,d⟩
attribute [local go_sem] Oper.semAt_some
def Rb(br bl gr gl:Nat)(oq nZ:Array Value)(L R:List (List Int))(w0:U)(hbr:br<M (H w0))(hbl:bl<M (H w0))
  (hcr:UK w0 (aD br 0)=O (.func (.func gr) #[] oq)) (hcl:UK w0 (aD bl 0)=O (.func (.func gl) #[] nZ))
  (yw:Seq aj V gr oq R w0) (hsl:Seq aj V gl nZ L w0)
  (egr:∀args w,(callFunc gr args).run V w=.ok (.enter gr args) w) (egl:∀args w,(callFunc gl args).run V w=.ok (.enter gl args) w)
  (hR:N R<=1000000) (J5:∀a∈L,N a<=1000) (hRl:∀a∈R,N a<=1000) :
  Seq aj V 132 #[Y (O (aD br 0)),Y (O (aD bl 0))] (dz L R) w0:=by
 intro l Jq W o hW ho hJ hY h0;have aB:=(hW.cell (p:=(aD br 0)) hbr).trans hcr;have aC:=(hW.cell (p:=(aD bl 0)) hbl).trans hcl;obtain⟨HY,HO,HW,HJ,HR,aR,aS⟩:=ze hY ho hW hJ hR J5 hRl;have k:Bw W (W.alloc (EP #[.func (.yield l) #[] #[]] 123)):=dN _ _;have aF:=(k.cell (p:=(aD br 0)) (QA hbr HW.o.size)).trans aB;have Rc:=(k.cell (p:=(aD bl 0)) (QA hbl HW.o.size)).trans aC;have Fw:UK (W.alloc (EP #[.func (.yield l) #[] #[]] 123)) (aD (M (H W)) 0)=O (.func (.yield l) #[] #[]):=by simp
 have ag:M (H (W.alloc (EP #[.func (.yield l) #[] #[]] 123)))=M (H W)+1:=by simp
 refine(QH (n:=0)).1 (Q3 Tryz.func132 rfl trivial ?_ rfl);simp only[Tryz.ntmps132,QN,QO,QP,Nat.reduceAdd,Nat.reduceSub,QQ,QR,QS,QT,QU,QV];gi_wp2;obtain⟨w1,av⟩:=eX (W.alloc (EP #[.func (.yield l) #[] #[]] 123));rw[av]at k aF Rc Fw ag;rw[av];have aG:=HW.o.trans (k.mono HW.o.size);refine⟨trivial,rfl,QH.2 ((rH aj (λ_=>rfl) gr oq R w0 w1 aG HR.o yw egr).mono ?_)⟩;rintro e g ⟨v,ys,og,rfl,ax,hG⟩;have aH:N ys<=1000000:=by have:=congrArg N ax;rw[Zm]at this;rw[this];exact HR.o
 obtain⟨m,C,rfl,aT,aU⟩:=hG.had aH;have G:=hG.below;have aI:=G.size;obtain⟨aV,aW⟩:=nH G Rc Fw;have P:=hG.born;have Q:=Zh ax;have HH:Y3 _:=aT;obtain⟨aX,aY⟩:=aJ aU P;have aK:=cB (dN g (EP #[Z m (N ys) C] 52)) aV;gi_wp2;have zf:∀s,Kept s g (g.alloc (EP #[Z m (N ys) C] 52)):=λs=>QE _ _;have ah:M (H (g.alloc (EP #[Z m (N ys) C] 52)))=M (H g)+1:=by simp
 have ai:UK (g.alloc (EP #[Z m (N ys) C] 52)) (aD (M (H g)) 0)=O (Z m (N ys) C):=by simp
 have Gs:=cB (dN g (EP #[Z m (N ys) C] 52)) aW;obtain⟨q,ay⟩:=eX (g.alloc (EP #[Z m (N ys) C] 52));rw[ay]at zf ah ai Gs aK;rw[ay];have DL:∀s,Kept s W q:=λs=>((QB k (λb d _=>d)).trans (QB G (λb d _=>d))).trans (zf s);have wZ:=HW.o.trans ((DL (λ_=>True)).below HW.o.size (λ_ _=>trivial));have aL:=bD.keep HH.o (zf (λ_=>True)).size (λa j=>(zf (λ_=>True)).block _ (HH.o.2.1 a j) trivial) (λi f b d=>(zf (λ_=>True)).block _ (aj.zw (HH.o.2.2 i f) d) trivial);have y:Y3 (∀a,m=O a->M (H W)<=a.block/\a.block<M (H q)):=λa j=>⟨by have:=aX.o a j;omega,by have:=HH.o.2.1 a j;omega⟩;have S:Y3 (∀i,i<N ys->∀b,aj.blk (E ys i iz)=O b->(b<M (H w0)∨M (H W)<=b)/\b<M (H q)):=λi f b d=>by
  have hm:E ys i iz∈ys:=by simp[List.getD,f]
  exact⟨(aY.o _ hm b d).imp id (by omega),by have:=aj.zw (HH.o.2.2 i f) d;omega⟩
 have aM:Y3 _:=aL;have DN:=Zh DL;have HS:Y3 (M (H q)=M (H g)+1/\M (H w1)=M (H W)+1/\M (H w1)<=M (H g)):=⟨ah,ag,aI⟩;refine nI aj (gf:=gl) (lb:=nZ) rfl egl hsl wZ rfl
  (λpre o1 W'=>∃t,t.map aj.key=dz (pre.map aj.key) R/\Jq t o1 W'/\Kept (λb=>¬o b) q W'/\∀b,o1 b->o b∨(M (H q)<=b/\b<M (H W')))
  o ?_ ?_ ?_ (λx=>{ tmps:=#[.func (.yield l) #[] #[],Y (O (aD br 0)),Y (O (aD bl 0)),Y (O (aD (M (H W)) 0)),Y (O (aD (M (H g)) 0)),x.val,.func (.func gr) #[] oq,Z m (N ys) C,.func (.func gl) #[] nZ,x.val,undef,undef,undef,undef,undef],defers:=[] }) ?assign ?body ?done
 .intro b d;exact⟨(HO.o b d).1,by have:=(HO.o b d).2;have:=(DN.o (λ_=>True)).size;omega⟩
 .rintro pre o1 A B ⟨t,hz,hj,u,X⟩ aa;have h1:=(DN.o (λ_=>True)).size;exact⟨t,hz,HJ.o _ _ _ _ hj (aa.mono λb _ h=>h.imp id (by omega)),u.trans' aa (λb d _=>.inr d),λb h=>(X b h).imp id (λh=>⟨h.1,by have:=aa.size;omega⟩)⟩
 .exact⟨[],rfl,HJ.o _ _ _ _ h0 (DN.o _),Qy _ _,λb h=>.inl h⟩
 case assign=>
  intro l x W K hK;gi_wp2;exact hK
 case body=>
  rintro l2 pre x o1 W2 ⟨t,hz,hj,u,X⟩ D hx az bn;have h3:=(DN.o (λ_=>True)).size;have aN:=u.size;have hS:=HS.o;have O6:∀b,M (H W)<=b->¬o b:=λb d h=>by have:=(HO.o b h).2;omega
  have aO:∀b,b<M (H w0)->¬o b:=λb d h=>by have:=(HO.o b h).1;omega
  have ak:∀b,b<M (H q)->¬o b->¬o1 b:=λb d h z=>by
   rcases X b z with z|z
   .exact h z
   .omega
  have bf:=Q0 ai u (O6 _ (by show M (H W)<=M (H g);omega));have bg:=Q0 Gs u (O6 _ (Qn _));have au:∀i,i<N ys->∀b,aj.blk (E ys i iz)=O b->¬o b:=λi f b d=>by
   rcases (S.o i f b d).1 with h|h
   .exact aO b h
   .exact O6 b h
  have hH:=bD.keep aM.o aN (λa j=>u.block _ (y.o a j).2 (O6 _ (y.o a j).1)) (λi f b d=>u.block _ (S.o i f b d).2 (au i f b d));have aP:t.map aj.key++ys.map (λr=>x.xs++r.xs) <+: dz L R:=by
   have e1:ys.map (λr=>x.xs++r.xs)=R.map (λb=>x.xs++b):=by rw[<-Q.o,Z9];rfl
   rw[e1,hz,<-GU];have e2:pre.map aj.key++[x.xs]=(pre++[x]).map aj.key:=by rw[Qi];rfl
   rw[e2];exact abm D
  have hp:=Gv l (M (H W)) Jq (dz L R) (M (H w0)) x m C ys t o1 W2 HJ.o HY.o (by omega) hj aP hx (λb d=>(az b d).1) (aR.o _ (lD D)) hH
   (λa j=>ak _ (y.o a j).2 (O6 _ (y.o a j).1))
   (λi f a j=>ak _ (S.o i f a.block (by show Option.map _ _=_;rw[j];rfl)).2 (au i f a.block (by show Option.map _ _=_;rw[j];rfl)))
   (λi f=>aS.o _ (by rw[<-Q.o];exact ZC.2 ⟨E ys i iz,by simp[List.getD,f],rfl⟩))
   (λb h=>by
    rcases X b h with h|h
    .have:=(HO.o b h).2;omega
    .exact h.2)
  obtain⟨HZ,HK,zg,HX⟩:=om hz u X hx;obtain⟨iZ,bL,fB⟩:=x;unfold ae.val at hp ⊢;simp only at hp ⊢;gi_wp2;refine⟨trivial,rfl,Q4 l2 (QH.2 (hp.mono ?_))⟩;rintro e W4 ⟨rfl,us,o2,Vl,Nt,af,aA⟩;gi_wp2;refine⟨o2,⟨t++us,?_,Nt,HK.o.trans' af ?_,?_⟩,af,?_⟩
  .rw[Qi,Qi,HZ.o,Vl]
   show _=dz (pre.map aj.key++[fB]) R;rw[GU,<-Q.o,Z9];rfl
  .intro b d h z;rcases zg.o b z with z|z
   .exact h z
   .omega
  .intro b d;have:=af.size;rcases aA b d with h|h
   .exact(zg.o b h).imp id (λh=>⟨h.1,by omega⟩)
   .exact .inr ⟨by omega,h.2⟩
  .intro b d;exact(aA b d).imp id .inl
 case done=>
  rintro us o' W2 Vl ⟨t,hz,hj,u,X⟩ bq aZ hD;have h3:=(DN.o (λ_=>True)).size;gi_wp2;have aQ:¬o' (M (H q)):=λh=>by
   rcases aZ _ h with h|h
   .have:=(HO.o _ h).2;omega
   .omega
  have vO:Kept (λb=>b≠M (H q)) W2 (W2.putObj (M (H q)) (.deferred none)):=QC _ _ (λh=>h rfl);refine⟨by simp,.inl ⟨_,_,rfl,Q5 hD,?_⟩⟩;refine⟨_,Q6 rfl _ _ _,⟨_,rfl⟩,t,o',?_,HJ.o _ _ _ _ hj (vO.mono λb _ h=>?_),((DN.o _).trans' u (λb _ h=>h)).trans' vO (λb d _=>by omega),λb h=>(X b h).imp id (λh=>⟨by omega,by rw[Q7];omega⟩)⟩
  .rw[hz,Vl]
  .rcases h with h|h
   .intro e;exact aQ (e ▸ h)
   .omega
end
def Lu(e:TypeId):El ae (List Int) where
 enc:=ae.val
 At x W:=aj.At x W/\W.ownsRow 0 e 1 x.val (N x.xs) (x.xs.map (Value.int J))
 blk:=aj.blk
 key:=ae.xs
 keep:=by
  rintro x A B ⟨h,ho⟩ hs hb;refine⟨aj.keep h hs hb,ho.1,?_⟩;rcases ho.2 with h|⟨g,cap,cur,hv,hb',hg,h1,h2,h3,h4⟩
  .exact .inl h
  .refine .inr ⟨g,cap,cur,hv,hb',(hb g (QI.1 hg).1 ?_).trans hg,h1,h2,h3,h4⟩;have:x.ad=O (aD g 0):=by have h:=hv;unfold ae.val at h;injection h
   show Option.map _ x.ad=_;rw[this];rfl
 zw:=λh hb=>aj.zw h.1 hb
def jO(aA:List Int)(k:Nat):Array Value:=((aA.take k).map (Value.int J)++List.replicate (N aA-k) (Value.int J 0)).toArray
def Re(aA:List Int)(hk:k<N aA):(jO aA k).setIfInBounds k (I J (E aA k 0))=jO aA (k+1):=by
 unfold jO;rw[Qu];congr 1;have a:N ((aA.take k).map (Value.int J))=k:=by simp;omega
 have b:N aA-k=(N aA-(k+1))+1:=by omega
 rw[List.set_append_right _ _ (by omega),a,Nat.sub_self,b,List.replicate_succ,Qc,<-oM aA 0 hk];simp
def Rf(aA:List Int):jO aA (N aA)=(aA.map (Value.int J)).toArray:=by simp[jO]
def NF(aA:List Int):madeCells #[I J 0] (N aA)=jO aA 0:=by rw[zu];simp[jO]
def BC(w:U)(aA:List Int)(e:TypeId)(hl:N aA<=1000000) :
  (Lu e).At ⟨O (aD (M (H w)) 0),N aA,aA⟩ (w.alloc (EP (aA.map (Value.int J)).toArray e)):=by
 have d:(w.alloc (EP (aA.map (Value.int J)).toArray e)).ownsRow 0 e 1 (Z (O (aD (M (H w)) 0)) (N aA) (N aA)) (N aA) (aA.map (Value.int J)):=by refine⟨by simp,.inr ⟨M (H w),_,_,rfl,QW _,pR w _,Qn _,by unfold maxLen;omega,by simp,by rw[Xi (by simp)]⟩⟩
 refine⟨⟨⟨by show N aA<=_;omega,λi f=>⟨M (H w),0,rfl,?_⟩⟩,λa g=>by cases g;simp,λe=>by cases e⟩,d⟩;have b:i<N aA:=f;simp[b,List.getD]
def GV(x c:ae)(w:U)(hx:x.At w)(hc:c.At w)(ha:aS c.xs (N x.xs)=T)(hl:N c.xs<=1000) :
  Calls V 143 #[x.val,c.val] w λe w'=>e=FN (Z (O (aD (M (H w)) 0)) (N c.xs) (N c.xs))/\w' = w.alloc (EP ((au x.xs c.xs).map (Value.int J)).toArray 3):=by
 obtain⟨iZ,bL,xs⟩:=x;obtain⟨lQ,dE,cs⟩:=c;unfold ae.val;simp only at ha hl;have p:=run_make_row' (P:=V) 22 3 (.int J 0) 8 Tryz.underlying22 Tryz.lK rfl J J (N cs) (by omega) (by omega);have b:N (au xs cs)=N cs:=by simp[au]
 have d:=NF (au xs cs);rw[b]at d;rw[d]at p;have D:Y3 _:=hx;have G:Y3 _:=hc;obtain⟨R,S⟩:=aJ ha b;have q:=hx.1;simp only at q;clear hx hc ha d;generalize n:au xs cs=aA at*;have r:=Zh n;clear n;have t:=S.o;clear b;simp only;go_enter Tryz.func143,Tryz.ntmps143;go_wp2;go_loopw [13] (λi wr=>∃k:Nat,k<=N cs/\i=I J k/\w.alloc (EP (jO aA k) 3)=wr) (λi _=>N cs-(intOf i).toNat)
 case atStart=>exact⟨0,QW _,rfl,rfl⟩
 case round=>
  obtain⟨k,hk,rfl,rfl⟩:=hrel;by_cases a:k<N cs
  .obtain⟨cb,W,rfl,m⟩:=G.o.get a;have u:=cB (dN w (EP (jO aA k) 3)) (m k a);have K:=Ql R.o a;have g:E cs k 0=cs[k]:=by simp[List.getD,a]
   rw[g]at u;have j:E aA k 0=E xs cs[k].toNat 0:=by rw[<-r.o];simp[au,List.getD,a]
   have f:cs[k].toNat<N xs:=by omega
   obtain⟨xb,X,rfl,B⟩:=D.o.get f;have l:=cB (dN w (EP (jO aA k) 3)) (B _ f);rw[<-j]at l;have v:=JZ w (jO aA k) 3 k (I J (E aA k 0));rw[Re aA (by omega)]at v;have y:((cs[k].toNat:Nat):Int)=cs[k]:=by omega
   have z:UK (w.alloc (EP (jO aA k) 3)) (aD (M (H w)) k)=O (I J 0):=by
    have:(jO aA k)[k]? = O (I J 0):=by
     have L:N ((aA.take k).map (Value.int J))=k:=by simp;omega
     unfold jO;rw[List.getElem?_toArray,Xj (by omega),L,Nat.sub_self,List.getElem?_replicate,Zt (by omega)]
    simp[this]
   generalize E aA k 0=vk at*;generalize NG:cs[k]=ck at*;clear g j B m NG;obtain⟨C,rfl⟩:∃C:Nat,ck=(C:Int):=⟨ck.toNat,by omega⟩;simp only[Xk]at f l;clear y;go_wp2;go_roundw
   case rel=>exact⟨k+1,by omega,by go_num,by first|rfl|trivial|assumption⟩
   case measure=>simp[intOf];omega
  .have A:k=N cs:=by omega
   subst A;have Q:jO aA (N cs)=(aA.map (Value.int J)).toArray:=by rw[<-t];exact Rf aA
   rw[Q];go_wp2;go_ret;exact⟨rfl,rfl⟩
