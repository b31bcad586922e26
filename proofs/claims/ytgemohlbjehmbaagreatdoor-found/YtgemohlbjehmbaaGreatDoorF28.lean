import Derived.Test.YtgemohlbjehmbaaGreatDoorF20
set_option linter.all false
set_option maxRecDepth 100000
set_option maxHeartbeats 16000000
namespace Go.Proofs.Zz
open Go.RowKit Go.Shelf
variable {n:ah} {S a b c i j s:Nat} {k key:Int} {ns:List ah} {ts:List af} {q:ae} {ps qs:List bK} {l t:aQ} {o:List Int} {g:List aj} {d:bK} {rk:Nat->Int} {σ:eF}
theorem mZ{α:Type}(a b:List α)(d:α)(i:Nat):(a++b).getD i d=if i<a.length then a.getD i d else b.getD (i-a.length) d:=by grind
structure fO(n:ah)(i:Nat):Prop where
 lo:1<=n.kind
 hi:n.kind<=10
 more:nN n=true
 l:1<=arity n.kind->0<=n.l/\n.l<i
 r:2<=arity n.kind->0<=n.r/\n.r<i
theorem FR(n:ah)(i:Nat):gK n i=true↔fO n i:=by
 unfold gK;simp only[Qj,Bool.or_eq_true,Qs];constructor
 ·rintro⟨⟨⟨⟨a,b⟩,d⟩,e⟩,f⟩;exact⟨a,b,d,λh=>by omega,λh=>by omega⟩
 ·intro h;refine⟨⟨⟨⟨h.lo,h.hi⟩,h.more⟩,?_⟩,?_⟩
  ·by_cases a:1<=arity n.kind
   ·exact .inr (h.l a)
   omega
  ·by_cases a:2<=arity n.kind
   ·exact .inr (h.r a)
   omega
theorem yR(k:Int):arity k<=2:=by grind [arity]
theorem Az(h:fO n i){k:Nat}(hk:i+k<=1000):fO (dB k n) (i+k)/\(1<=arity n.kind->(dB k n).l=n.l+k)/\(2<=arity n.kind->(dB k n).r=n.r+k):=by
 have d:1<=arity n.kind->(dB k n).l=n.l+k:=λa=>by have:=h.l a;show (if 1<=arity n.kind then wrap64 (n.l+k) else n.l)=_;rw[Qo a];unfold wrap64;omega
 have e:2<=arity n.kind->(dB k n).r=n.r+k:=λa=>by have:=h.r a;show (if 2<=arity n.kind then wrap64 (n.r+k) else n.r)=_;rw[Qo a];unfold wrap64;omega
 refine⟨⟨h.lo,h.hi,?_,λa=>?_,λa=>?_⟩,d,e⟩
 ·have b:=h.more;unfold nN at b ⊢;rw[Qs]at b ⊢;obtain⟨g,j,f⟩:=b;refine⟨?_,?_,f⟩
  ·by_cases a:1<=arity n.kind
   ·exact .inl a
   ·right
    show (if 1<=arity n.kind then wrap64 (n.l+k) else n.l)=0;omega
  ·by_cases a:2<=arity n.kind
   ·exact .inl a
   ·right
    show (if 2<=arity n.kind then wrap64 (n.r+k) else n.r)=0;omega
 ·have:=h.l a;rw[d a];omega
 ·have:=h.r a;rw[e a];omega
def ins(n:ah):List Nat:=if arity n.kind=0 then [] else if arity n.kind=1 then [n.l.toNat] else [n.l.toNat,n.r.toNat]
def lD(ns:List ah)(k:Nat):Nat:=(ns.map λn=>(ins n).count k).sum
theorem aeh(h:fO (ns.getD i nz) i):inpN ns i=ins (ns.getD i nz):=by
 unfold inpN ins;simp only[];have a:=yR (ns.getD i nz).kind;split
 ·rfl
 ·split
  ·rw[Qo (h.l (by omega))]
  ·have b:=h.l (by omega);have d:=h.r (by omega)
   simp_all
theorem TR(ns:List ah)(f:ah->Nat):gy ns.length (λi=>f (ns.getD i nz))=(ns.map f).sum:=by unfold gy;grind [List.ext_getElem,List.length_map]
theorem Oy(h:∀ i,i<ns.length->fO (ns.getD i nz) i)(k:Nat):gy ns.length (λi=>(inpN ns i).count k)=lD ns k:=by grind [lD,TR,zo,aeh]
theorem AA(a b:List ah)(k:Nat):lD (a++b) k=lD a k+lD b k:=by grind [lD]
theorem Cj{k:Nat}(h:∀ n∈ns,k ∉ ins n):lD ns k=0:=by
 unfold lD
 induction ns with
 | nil => rfl
 | cons n ns ih =>
  grind
theorem TU(h:fO n i):∀ k∈ins n,k<i:=by
 intro k a;unfold ins at a;split at a
 ·cases a
 ·split at a
  ·have:=h.l (by omega)
   simp_all
  ·have b:=yR n.kind;have d:=h.l (by omega);have e:=h.r (by omega)
   grind
theorem Oz(h:fO n i){k:Nat}(hk:i+k<=1000):ins (dB k n)=(ins n).map (· + k):=by
 obtain⟨_,a,b⟩:=Az h hk;unfold ins;show (if arity n.kind=0 then [] else if arity n.kind=1 then [(dB k n).l.toNat] else [(dB k n).l.toNat,(dB k n).r.toNat])=_;have d:=yR n.kind;split
 ·rfl
 ·split
  ·have:=h.l (by omega);rw[a (by omega)];simp;omega
  ·have e:=h.l (by omega);have f:=h.r (by omega);rw[a (by omega),b (by omega)];simp;omega
theorem OA(l:List Nat)(k j:Nat):(l.map (· + k)).count (j+k)=l.count j:=by
 induction l with
 | nil => rfl
 | cons a l ih =>
  grind
theorem Ck(h:∀ i,i<ns.length->fO (ns.getD i nz) i){k:Nat}(hk:ns.length+k<=1000)(j:Nat):lD (ns.map (dB k)) (j+k)=lD ns j:=by unfold lD;rw[Xu];congr 1;apply List.map_congr_left;intro n b;obtain⟨i,a,rfl⟩:=Qp b;have d:=h i a;grind [Oz,OA]
structure LQ(ts:List af)(q:ae)(ns:List ah)(ps:List bK):Prop where
 len:ps.length=ns.length
 st:∀ i,i<ns.length->fO (ns.getD i nz) i
 fit:∀ i,i<ns.length->(lF (ns.getD i nz).kind (dN (ns.getD i nz) ps) (dO (ns.getD i nz) ps)&&dh ts q (ns.getD i nz) (dN (ns.getD i nz) ps) (dO (ns.getD i nz) ps))=true
 part:∀ i,i<ns.length->ps.getD i pz=bV ts q (ns.getD i nz) (dN (ns.getD i nz) ps) (dO (ns.getD i nz) ps)
theorem LQ.nil(ts:List af)(q:ae):LQ ts q [] []:=⟨rfl,λi a=>absurd a (by simp),λi a=>absurd a (by simp),λi a=>absurd a (by simp)⟩
theorem wS(h:fO n i){a b:List bK}(e:∀ j,j<i->a.getD j pz=b.getD j pz):dN n a=dN n b/\dO n a=dO n b:=by
 unfold dN dO;constructor
 ·split
  ·rename_i h1
   have:=h.l h1;simp_all
  ·rfl
 ·split
  ·rename_i h1
   have:=h.r (by omega);simp_all
  ·rfl
theorem LQ.app{ms:List ah}(h:LQ ts q ns ps)(g:LQ ts q ms qs)(hl:ms.length+ns.length<=1000):LQ ts q (ns++ms.map (dB ns.length)) (ps++qs):=by
 have key:∀ i,i<(ns++ms.map (dB ns.length)).length->fO ((ns++ms.map (dB ns.length)).getD i nz) i/\
   ((i<ns.length/\(ns++ms.map (dB ns.length)).getD i nz=ns.getD i nz/\dN (ns.getD i nz) (ps++qs)=dN (ns.getD i nz) ps/\dO (ns.getD i nz) (ps++qs)=dO (ns.getD i nz) ps)∨
    (∃ j,j<ms.length/\i=ns.length+j/\(ns++ms.map (dB ns.length)).getD i nz=dB ns.length (ms.getD j nz)/\dN (dB ns.length (ms.getD j nz)) (ps++qs)=dN (ms.getD j nz) qs/\dO (dB ns.length (ms.getD j nz)) (ps++qs)=dO (ms.getD j nz) qs)):=by
  intro i a;rw[QP,QQ]at a;by_cases f:i<ns.length
  ·have e:(ns++ms.map (dB ns.length)).getD i nz=ns.getD i nz:=by simp_all
   have d:=h.st i f;grind [wS,LQ.len]
  ·obtain⟨j,rfl⟩:∃ j,i=ns.length+j:=⟨i-ns.length,by omega⟩
   have b:j<ms.length:=by omega
   have e:(ns++ms.map (dB ns.length)).getD (ns.length+j) nz=dB ns.length (ms.getD j nz):=by simp_all
   have d:=g.st j b;obtain⟨o,m,n⟩:=Az d (k:=ns.length) (by omega);refine⟨by grind,.inr ⟨j,b,rfl,e,?_,?_⟩⟩
   ·unfold dN
    show (if 1<=arity (ms.getD j nz).kind then _ else _)=_;split
    ·rename_i h1
     have:=d.l h1;rw[m h1,mZ,Qu (by rw[h.len]; omega),h.len];grind
    ·rfl
   ·unfold dO
    show (if arity (ms.getD j nz).kind=2 then _ else _)=_;split
    ·rename_i h1
     have:=d.r (by omega);rw[n (by omega),mZ,Qu (by rw[h.len]; omega),h.len];grind
    ·rfl
 refine⟨by grind [LQ.len],λi a=>(key i a).1,λi a=>?_,λi a=>?_⟩
 ·rcases (key i a).2 with⟨h1,e,e1,e2⟩ | ⟨j,b,rfl,e,e1,e2⟩
  ·rw[e,e1,e2];exact h.fit i h1
  ·rw[e,e1,e2];exact g.fit j b
 ·rcases (key i a).2 with⟨h1,e,e1,e2⟩ | ⟨j,b,rfl,e,e1,e2⟩
  ·rw[e,e1,e2,mZ,Qo (by grind [LQ.len])];exact h.part i h1
  ·rw[e,e1,e2,mZ,Qu (by grind [LQ.len]),h.len,Nat.add_sub_cancel_left];exact g.part j b
theorem LQ.snoc(h:LQ ts q ns ps)(hs:fO n ns.length)(hf:(lF n.kind (dN n ps) (dO n ps)&&dh ts q n (dN n ps) (dO n ps))=true):LQ ts q (ns++[n]) (ps++[bV ts q n (dN n ps) (dO n ps)]):=by
 have far:∀ {m:ah} {i:Nat},fO m i->i<=ns.length->dN m (ps++[bV ts q n (dN n ps) (dO n ps)])=dN m ps/\dO m (ps++[bV ts q n (dN n ps) (dO n ps)])=dO m ps:=λb a=>wS b λj d=>by grind [LQ.len]
 have key:∀ i,i<(ns++[n]).length->(i<ns.length/\(ns++[n]).getD i nz=ns.getD i nz)∨(i=ns.length/\(ns++[n]).getD i nz=n):=λi a=>by grind
 refine⟨by grind [LQ.len],λi a=>?_,λi a=>?_,λi a=>?_⟩
 ·grind [LQ.st]
 ·rcases key i a with⟨h1,e⟩ | ⟨rfl,e⟩
  ·rw[e,(far (h.st i h1) (by omega)).1,(far (h.st i h1) (by omega)).2]; exact h.fit i h1
  grind
 ·rcases key i a with⟨h1,e⟩ | ⟨rfl,e⟩
  ·rw[e,(far (h.st i h1) (by omega)).1,(far (h.st i h1) (by omega)).2,mZ,Qo (by grind [LQ.len])]; exact h.part i h1
  ·rw[e,(far hs (by omega)).1,(far hs (by omega)).2,mZ,Qu (by grind [LQ.len]),h.len,Xy]; rfl
theorem LQ.parts{ts:List af}{q:ae}{ns:List ah}{ps:List bK}(h:LQ ts q ns ps):∀ k,k<=ns.length->je ts q ns k=some (ps.take k)
 | 0,_ => rfl
 | k+1,hk => by
  show (je ts q ns k).bind (oI ts q (ns.getD k nz))=_;rw[h.parts k (by omega)];show oI ts q (ns.getD k nz) (ps.take k)=_;have hl:=h.len;obtain⟨e1,e2⟩:=wS (h.st k (by omega)) (a:=ps.take k) (b:=ps) (λj hj=>by
   simp_all)
  unfold oI;rw[e1,e2,Qo (h.fit k (by omega)),<- h.part k (by omega),Qh (by omega)];grind
def XX:=@mZ
structure TF(ts:List af)(q:ae)(t:aQ):Prop where
 ex:∃ ps,LQ ts q t.ns ps/\ps.getD (t.ns.length-1) pz=t.d
 pos:0<t.ns.length
 once:∀ k,k+1<t.ns.length->lD t.ns k=1
structure OC(n:ah):Prop where
 lo:1<=n.kind
 hi:n.kind<=10
 source:n.kind=1∨n.source=0
 key:n.kind=4∨n.kind=5∨n.key=0
 cl:n.kind=2∨3<=n.kind/\n.kind<=5∨n.cl.xs.length=0
 co:n.kind=6∨n.co.xs.length=0
def iB(n:ah)(l r:Int):ah:=⟨n.kind,l,r,n.source,⟨none,0,n.cl.xs⟩,n.key,⟨none,0,n.co.xs⟩⟩
theorem yS(h:OC n){l r:Int}(hl:(1<=arity n.kind->0<=l/\l<i)/\(¬ 1<=arity n.kind->l=0))(hr:(2<=arity n.kind->0<=r/\r<i)/\(¬ 2<=arity n.kind->r=0)):fO (iB n l r) i:=by
 refine⟨h.lo,h.hi,?_,hl.1,hr.1⟩;unfold nN;rw[Qs];refine⟨?_,?_,h.source,h.key,h.cl,h.co⟩
 ·by_cases a:1<=arity n.kind
  ·exact .inl a
  ·exact .inr (hl.2 a)
 ·by_cases a:2<=arity n.kind
  ·exact .inl a
  ·exact .inr (hr.2 a)
theorem AJ(h:∀ i,i<ns.length->fO (ns.getD i nz) i){k:Nat}(hk:ns.length<=k+1):lD ns k=0:=by refine Cj λn d e=>?_;obtain⟨i,b,rfl⟩:=Qp d;have a:=h i b;rw[Xo,Xr b]at a;have:=TU (show fO ns[i] i from a) k e;omega
theorem OD(n:ah)(k:Nat):lD [n] k=(ins n).count k:=by rfl
theorem aei(h:∀ i,i<ns.length->fO (ns.getD i nz) i){k:Nat}(hk:ns.length+k<=1000)(hj:j<k):lD (ns.map (dB k)) j=0:=by refine Cj λn d f=>?_;obtain⟨m,a,rfl⟩:=QZ.1 d;obtain⟨i,b,rfl⟩:=Qp a;have e:=h i b;grind [Oz]
theorem OE{α:Type}(a:List α)(x d:α){n:Nat}(h:n=a.length):(a++[x]).getD n d=x:=by simp_all
theorem TF.arG(hn:OC n)(ha:arity n.kind=0)(hf:(lF n.kind pz pz&&dh ts q n pz pz)=true):TF ts q (ay ts q n []):=by
 have e:(ay ts q n []).ns=[]++[iB n 0 0]:=rfl;have d:fO (iB n 0 0) ([]:List ah).length:=yS hn ⟨λh=>by omega,λ_=>rfl⟩ ⟨λh=>by omega,λ_=>rfl⟩;have a:dN (iB n 0 0) []=pz:=by unfold dN; split <;> rfl
 have b:dO (iB n 0 0) []=pz:=by unfold dO; split <;> rfl
 have h:=(LQ.nil ts q).snoc d (by rw[a,b]; exact hf);refine⟨⟨_,by rw[e]; exact h,?_⟩,by rw[e]; simp,λk f=>?_⟩
 ·rw[a,b,e];rfl
 simp_all
theorem TF.U7{a:aQ}(hn:OC n)(ha:arity n.kind=1)(h:TF ts q a)(hl:a.ns.length<=900)(hf:(lF n.kind a.d pz&&dh ts q n a.d pz)=true):TF ts q (ay ts q n [a]):=by
 obtain⟨ps,f,hd⟩:=h.ex;have l:=(LQ.nil ts q).app f (by simp; omega);have t:=h.pos;have b:([]++a.ns.map (dB 0)).length=a.ns.length:=by simp
 have e:(ay ts q n [a]).ns=([]++a.ns.map (dB 0))++[iB n ((a.ns.length:Int)-1) 0]:=by show iH [a.ns]++[_]=_;unfold iH iB;show _++[(⟨n.kind,((iH [a.ns]).length:Int)-1,0,_,_,_,_⟩:ah)]=_;rw[show (iH [a.ns]).length=a.ns.length by simp[iH]];rfl
 have m:fO (iB n ((a.ns.length:Int)-1) 0) ([]++a.ns.map (dB 0)).length:=by rw[b];exact yS hn ⟨λ_=>by omega,λh=>by omega⟩ ⟨λh=>by omega,λ_=>rfl⟩
 have i:dN (iB n ((a.ns.length:Int)-1) 0) ([]++ps)=a.d:=by unfold dN;show (if 1<=arity n.kind then _ else _)=_;rw[Qo (by omega),<- hd];show ps.getD ((a.ns.length:Int)-1).toNat pz=_;simp_all
 have j:dO (iB n ((a.ns.length:Int)-1) 0) ([]++ps)=pz:=by unfold dO;show (if arity n.kind=2 then _ else _)=_;simp_all
 have o:=l.snoc m (by rw[i,j]; exact hf);refine⟨⟨_,by rw[e]; exact o,?_⟩,by rw[e]; simp,λk s=>?_⟩
 ·rw[i,j,e];exact OE _ _ _ (by rw[QP,XU,XH,b]; simp[f.len])
 ·rw[e,QP,b,XU]at s;rw[e,AA,OD,List.nil_append];have p:lD (a.ns.map (dB 0)) k=lD a.ns k:=Ck (k:=0) f.st (by omega) k;have r:ins (iB n ((a.ns.length:Int)-1) 0)=[a.ns.length-1]:=by unfold ins;show (if arity n.kind=0 then [] else if arity n.kind=1 then [((a.ns.length:Int)-1).toNat] else _)=_;simp_all
  rw[p,r,List.count_singleton];by_cases g:k+1<a.ns.length
  ·rw[h.once k g,Qu (by simp; omega)]
  ·rw[AJ f.st (by omega),Qo (by simp; omega)]
theorem TF.aiW{a b:aQ}(hn:OC n)(ha:arity n.kind=2)(h:TF ts q a)(g:TF ts q b)(hl:a.ns.length+b.ns.length<=900)(hf:(lF n.kind a.d b.d&&dh ts q n a.d b.d)=true):TF ts q (ay ts q n [a,b]):=by
 obtain⟨ps,o,hd⟩:=h.ex;obtain⟨r,p,E⟩:=g.ex;have G:=h.pos;have H:=g.pos;have y:=(LQ.nil ts q).app o (by simp; omega);have s:([]++a.ns.map (dB ([]:List ah).length)).length=a.ns.length:=by simp
 have u:=y.app p (by simp; omega);obtain⟨L,i⟩:∃ L,L=([]++a.ns.map (dB ([]:List ah).length))++b.ns.map (dB ([]++a.ns.map (dB ([]:List ah).length)).length):=⟨_,rfl⟩;have f:L.length=a.ns.length+b.ns.length:=by simp_all
 rw[<- i]at u;have e:(ay ts q n [a,b]).ns=L++[iB n ((a.ns.length:Int)-1) (((a.ns.length+b.ns.length:Nat):Int)-1)]:=by
  show iH [a.ns,b.ns]++[(⟨n.kind,((iH [a.ns]).length:Int)-1,((iH [a.ns,b.ns]).length:Int)-1,_,_,_,_⟩:ah)]=_;have z:iH [a.ns,b.ns]=L:=by rw[i]; rfl
  rw[z,f,show (iH [a.ns]).length=a.ns.length by simp[iH]];rfl
 have A:fO (iB n ((a.ns.length:Int)-1) (((a.ns.length+b.ns.length:Nat):Int)-1)) L.length:=by rw[f];exact yS hn ⟨λ_=>by omega,λh=>by omega⟩ ⟨λ_=>by omega,λh=>by omega⟩
 have m:([]++ps).length=a.ns.length:=by simp[o.len]
 have v:dN (iB n ((a.ns.length:Int)-1) (((a.ns.length+b.ns.length:Nat):Int)-1)) (([]++ps)++r)=a.d:=by unfold dN;show (if 1<=arity n.kind then _ else _)=_;rw[Qo (by omega),<- hd];show (([]++ps)++r).getD ((a.ns.length:Int)-1).toNat pz=_;rw[XX,Qo (by omega)];simp_all
 have w:dO (iB n ((a.ns.length:Int)-1) (((a.ns.length+b.ns.length:Nat):Int)-1)) (([]++ps)++r)=b.d:=by unfold dO;show (if arity n.kind=2 then _ else _)=_;rw[Qo ha,<- E];show (([]++ps)++r).getD (((a.ns.length+b.ns.length:Nat):Int)-1).toNat pz=_;rw[XX,Qu (by omega),m];congr 1;omega
 have B:=u.snoc A (by rw[v,w]; exact hf);refine⟨⟨_,by rw[e]; exact B,?_⟩,by rw[e]; simp,λk F=>?_⟩
 ·rw[v,w,e];exact OE _ _ _ (by rw[QP,XU,XH,f,QP,m,p.len])
 ·rw[e,QP,f,XU]at F;have C:ins (iB n ((a.ns.length:Int)-1) (((a.ns.length+b.ns.length:Nat):Int)-1))=[a.ns.length-1,a.ns.length+b.ns.length-1]:=by
   unfold ins;show (if arity n.kind=0 then [] else if arity n.kind=1 then _ else [((a.ns.length:Int)-1).toNat,(((a.ns.length+b.ns.length:Nat):Int)-1).toNat])=_;rw[Qu (by omega),Qu (by omega)];congr 1
   ·omega
   ·congr 1;omega
  have D:lD ([]++a.ns.map (dB ([]:List ah).length)) k=lD a.ns k:=Ck (k:=0) o.st (by omega) k;rw[e,AA,OD,i,AA,D,C,List.count_cons,List.count_singleton,s];by_cases t:k<a.ns.length
  ·rw[aei p.st (by omega) t,Qu (by simp; omega)];by_cases l:k+1<a.ns.length
   ·rw[h.once k l,Qu (by simp; omega)]
   ·rw[AJ o.st (by omega),Qo (by simp; omega)]
  ·obtain⟨j,rfl⟩:∃ j,k=j+a.ns.length:=⟨k-a.ns.length,by omega⟩
   rw[AJ o.st (by omega),Ck p.st (by omega),Qu (show ¬ (a.ns.length-1==j+a.ns.length)=true by simp; omega)];by_cases l:j+1<b.ns.length
   ·rw[g.once j l,Qu (by simp; omega)]
   ·rw[AJ p.st (by omega),Qo (by simp; omega)]
theorem TF.look(h:TF ts q t)(hl:t.ns.length<=64)(he:∀ ps,LQ ts q t.ns ps->(dW (t.ns.getD (t.ns.length-1) nz).kind&&gL q (t.ns.getD (t.ns.length-1) nz).kind (ps.getD (t.ns.getD (t.ns.length-1) nz).l.toNat pz).order)=true):∃ b,iU ts q t.ns=some b/\b.length=t.ns.length/\b.getD (b.length-1) pz=t.d:=by
 obtain⟨ps,a,hd⟩:=h.ex;have g:=h.pos;have e:eG t.ns=true:=by
  unfold eG;simp only[Qj,Qs];refine⟨⟨⟨by omega,hl⟩,?_⟩,?_⟩
  ·rw[Qk];intro i j;exact(FR _ _).2 (a.st i (by simp_all))
  ·unfold xB;rw[Qk];intro k m;rw[Qs,Oy a.st];have f:k<t.ns.length-1:=by simp_all
   exact h.once k (by omega)
 refine⟨ps,?_,a.len,by rw[a.len]; exact hd⟩;unfold iU;rw[Qu (by simp_all),a.parts _ (Qn _),ZT (by rw[a.len]; omega)];grind
structure QF(ts:List af)(q:ae):Prop where
 ok:Ok ts q
 one:1<=q.src.xs.length
 five:q.src.xs.length<=5
 eight:q.wh.length<=8
 keys:∀ c∈q.keys.xs,0<=c/\c<az ts q.src.xs
 apart:cK q.keys.xs=true
 want:q.group=false->∀ c∈jw q,0<=c/\c<az ts q.src.xs
theorem AP(conc:List Nat)(s:Nat):∀ k i,(gX conc s k).testBit i=(decide (i<k)&&aU s (conc.getD i 0))
 | 0,i => by simp[gX]
 | k+1,i => by have ih:=AP conc s k i;grind [gX.eq_def]
theorem nX(conc:List Nat)(s i:Nat):(aY conc s).testBit i=(decide (i<conc.length)&&aU s (conc.getD i 0)):=AP conc s conc.length i
theorem kU(ha:a<18446744073709551616)(hb:b<18446744073709551616):aU a b=true↔∀ i,b.testBit i=true->a.testBit i=true:=by grind [aU,Ea]
theorem aej(hi:i<q.wh.length):(q.wh.map λc=>aB (dQ ts q.src.xs c.cs)).getD i 0=aB (dQ ts q.src.xs (q.wh.getD i lz).cs):=by simp_all
theorem FT(h:QF ts q)(hi:i<q.wh.length):aB (dQ ts q.src.xs (q.wh.getD i lz).cs)<2 ^ q.src.xs.length:=nD (nE h.ok.cat h.ok.src (h.ok.aX i hi))
theorem lJ{n:Nat}(h:n<=5)(ha:a<2 ^ n):a<18446744073709551616:=QH ha (Q6 (QI (by omega) h) (by decide))
theorem AQ{n:Nat}(h:n<=8)(ha:a<2 ^ n):a<2 ^ 64:=QH ha (QI (by omega) (by omega))
theorem De(hj:j<(bB s).length):(cZ s).getD j 0=(((bB s)[j]:Nat):Int):=by grind [cZ]
theorem Df(h:i∈bB s):s.testBit i=true:=(List.mem_filter.1 h).2
theorem Lb(s:Nat):(bB s).Pairwise (· < ·):=List.Pairwise.filter _ List.pairwise_lt_range
theorem aek(h:∀ i,c.testBit i=true->i<q.wh.length/\aU S (aB (dQ ts q.src.xs (q.wh.getD i lz).cs))=true):iP ts q (cZ c) S=true:=by
 unfold iP;rw[Qk];intro j k;have e:(cZ c).length=(bB c).length:=by grind [cZ]
 have a:j<(bB c).length:=by simp_all
 rw[De a];have b:=ZQ a;obtain⟨g,d⟩:=h _ (Df b);simp only[Qj,Qs,ZY];refine⟨⟨?_,by omega⟩,d⟩;split
 ·omega
 ·have f:=List.pairwise_iff_getElem.1 (Lb c) (j-1) j (by omega) a (by omega)
  grind [De]
theorem ng(h:s<2 ^ 64):aB (cZ s)=s:=by
 apply QJ;intro i;rw[QE (λx d=>by grind [cZ])];by_cases a:s.testBit i=true
 ·rw[a,Qs];have b:i<64:=by
   by_cases b:i<64
   ·exact b
   ·rw[QG (QH h (QI (by omega) (by omega)))]at a
    cases a
  exact QZ.2 ⟨i,List.mem_filter.2 ⟨by simp[b],a⟩,rfl⟩
 grind [cZ,Df]
theorem ael(h:s<2 ^ 64)(h0:s≠0):0<(cZ s).length:=by grind [aB,ng]
theorem FU{conc:List Nat}(hc:conc.length<=8)(ha:a<2 ^ 5)(hb:b<2 ^ 5)(hx:∀ i,i<conc.length->conc.getD i 0<2 ^ 5):aR conc a b|||aY conc a|||aY conc b=aY conc (a|||b):=by
 apply QJ;intro i;have hlt:∀ s,aY conc s<2 ^ conc.length:=λs=>jL conc s conc.length;have h64:∀ s,aY conc s<18446744073709551616:=λs=>QH (hlt s) (Q6 (QI (by omega) hc) (by decide));have hor:aY conc a|||aY conc b<18446744073709551616:=ZR (n:=64) (h64 a) (h64 b);by_cases hi:i<conc.length
 ·have hmono:∀ s,s<2 ^ 5->(∀ j,s.testBit j=true->(a|||b).testBit j=true)->(aY conc s).testBit i=true->(aY conc (a|||b)).testBit i=true:=by intro s hs hsub h1;rw[nX,Qj]at h1 ⊢;have hb1:s<18446744073709551616:=Nat.lt_trans hs (by decide);have hb2:a|||b<18446744073709551616:=Nat.lt_trans (ZR ha hb) (by decide);grind [kU]
  grind [aR,zn]
 grind [nX,aR]
def U8(s:Nat):Nat:=(bB s).length
theorem amh:∀ a,a<32->∀ b,b<32->a &&& b=0->U8 (a|||b)=U8 a+U8 b:=by unfold U8 bB;decide +kernel
theorem ami:∀ s,s<32->U8 s<=5:=by unfold U8 bB;decide +kernel
theorem ahu:∀ i,i<5->U8 (2 ^ i)=1:=by unfold U8 bB;decide +kernel
def aW(ts:List af)(q:ae):List Nat:=q.wh.map λc=>aB (dQ ts q.src.xs c.cs)
theorem ni(ts:List af)(q:ae):(aW ts q).length=q.wh.length:=by unfold aW; simp
structure TS(ts:List af)(q:ae)(t:aQ):Prop where
 tf:TF ts q t
 src:t.d.sources<2 ^ q.src.xs.length
 cls:t.d.clauses=aY (aW ts q) t.d.sources
 out:dW t.d.kind=false
theorem Lc(ts:List af)(q:ae)(n:ah)(a:aQ)(h1:n.kind≠1):(ay ts q n [a]).d.kind=n.kind/\(ay ts q n [a]).d.sources=a.d.sources/\(ay ts q n [a]).d.clauses=aB n.cl.xs|||a.d.clauses:=by
 refine⟨rfl,?_,?_⟩
 ·show (if n.kind=1 then 2 ^ n.source.toNat else 0)|||a.d.sources|||0=_
  simp_all
 ·show aB n.cl.xs|||a.d.clauses|||0=_
  simp_all
theorem U9(ts:List af)(q:ae)(n:ah)(a b:aQ)(h1:n.kind≠1):(ay ts q n [a,b]).d.kind=n.kind/\(ay ts q n [a,b]).d.sources=a.d.sources|||b.d.sources/\(ay ts q n [a,b]).d.clauses=aB n.cl.xs|||a.d.clauses|||b.d.clauses:=by refine⟨rfl,?_,rfl⟩;show (if n.kind=1 then 2 ^ n.source.toNat else 0)|||a.d.sources|||b.d.sources=_;simp_all
theorem sj{l r:bK}(hk:k≠10)(hl:dW l.kind=false)(hr:dW r.kind=false):lF k l r=true:=by unfold lF;simp_all
theorem Cm:dW pz.kind=false:=by decide
theorem sw(hi:i<q.wh.length):(aW ts q).getD i 0=aB (dQ ts q.src.xs (q.wh.getD i lz).cs):=aej hi
theorem tV(ts:List af)(q:ae)(h:∀ i,c.testBit i=true->(aY (aW ts q) S).testBit i=true):iP ts q (cZ c) S=true:=by refine aek λi b=>?_;have a:=h i b;rw[nX,Qj,Qs,ni]at a;rw[<- sw a.1];exact a
theorem sD(ts:List af)(q:ae)(h8:q.wh.length<=8)(s:Nat):aY (aW ts q) s<2 ^ 64:=by have:=jL (aW ts q) s (aW ts q).length;rw[ni]at this;exact AQ h8 (by unfold aY; rw[ni]; exact this)
theorem Ld{s:Int}(h0:0<=s)(h1:s<q.src.xs.length):TF ts q (ay ts q (iV s) []):=by refine TF.arG ⟨by show (1:Int)<=1; decide,by show (1:Int)<=10; decide,.inl rfl,.inr (.inr rfl),.inr (.inr rfl),.inr rfl⟩ (by rfl) ?_;rw[sj (by show (1:Int)≠10; decide) Cm Cm,Qw];show (if (1:Int)=1 then decide (0<=s)&&decide (s<q.src.xs.length) else _)=true;simp_all
theorem Va(h:TF ts q t)(hl:t.ns.length<=900)(ho:dW t.d.kind=false)(hc:c<2 ^ 64)(hn:c≠0)(hr:iP ts q (cZ c) t.d.sources=true):TF ts q (ay ts q (zt (cZ c)) [t]):=by refine TF.U7 ⟨by show (1:Int)<=2; decide,by show (2:Int)<=10; decide,.inr rfl,.inr (.inr rfl),.inl rfl,.inr rfl⟩ (by rfl) h hl ?_;rw[sj (by show (2:Int)≠10; decide) ho Cm,Qw];show (if (2:Int)=1 then _ else if (2:Int)=2 then decide (0<(cZ c).length)&&iP ts q (cZ c) t.d.sources else _)=true;rw[Qu (by decide),Qo rfl,hr,Qv (ael hc hn)];rfl
theorem yT(hq:QF ts q){s:Int}(h0:0<=s)(h1:s<q.src.xs.length):TS ts q (bQ ts q (aW ts q) s)/\(bQ ts q (aW ts q) s).d.sources=2 ^ s.toNat/\(bQ ts q (aW ts q) s).ns.length<=2:=by
 have b:=Ld (ts:=ts) h0 h1;have a:=sS ts q s;have m:(ay ts q (iV s) []).d.kind=1:=rfl;have n:(ay ts q (iV s) []).ns.length=1:=rfl;have f:(ay ts q (iV s) []).d.clauses=0:=by show aB []|||0|||0=0;rfl
 have g:2 ^ s.toNat<2 ^ q.src.xs.length:=ZN (by omega) (by omega);unfold bQ bY;simp only[a];split
 ·rename_i hz
  exact⟨⟨b,by omega,by simp_all,by rfl⟩,a,by omega⟩
 ·rename_i hz
  have j:=sD ts q hq.eight (2 ^ s.toNat);have k:=Va b (by omega) (by rfl) j hz (tV ts q (λi p=>by simp_all));obtain⟨o,e,l⟩:=Lc ts q (zt (cZ (aY (aW ts q) (2 ^ s.toNat)))) (ay ts q (iV s) []) (by show (2:Int)≠1; decide);refine⟨⟨k,by omega,?_,by rfl⟩,by rw[e,a],?_⟩
  ·rw[e,l,a];rw[f]
   show aB (cZ (aY (aW ts q) (2 ^ s.toNat)))|||0=_;grind [ng]
  ·rw[Xk ts q _ (by simp)]
   show (ay ts q (iV s) []).ns.length+0+1<=2;omega
theorem ahv(hq:QF ts q){a b:aQ}(ha:TS ts q a)(hb:TS ts q b)(hap:a.d.sources &&& b.d.sources=0)(hl:a.ns.length+b.ns.length<=900)(hn:n=bO k (cZ (aR (aW ts q) a.d.sources b.d.sources)) key)(hk:(k=3/\key=0)∨(k=4/\(fP ts q n a.d.sources b.d.sources).2.2=true)∨(k=5/\(fP ts q n a.d.sources b.d.sources).2.2=true/\au a.d.order [(fP ts q n a.d.sources b.d.sources).1]=true/\au b.d.order [(fP ts q n a.d.sources b.d.sources).2.1]=true)) :
  TS ts q (ay ts q n [a,b])/\(ay ts q n [a,b]).d.sources=a.d.sources|||b.d.sources:=by
 have s:=hq.five;have t:=ZR ha.src hb.src;have j:∀ x,x<2 ^ q.src.xs.length->x<2 ^ 5:=λx z=>QH z (QI (by omega) s);have l:aR (aW ts q) a.d.sources b.d.sources<2 ^ 64:=by have:=sV (aW ts q) a.d.sources b.d.sources;rw[ni]at this;exact AQ hq.eight this
 have e:n.cl.xs=cZ (aR (aW ts q) a.d.sources b.d.sources):=by rw[hn]; rfl
 have f:n.kind=k:=by rw[hn]; rfl
 have u:n.key=key:=by rw[hn]; rfl
 have m:n.source=0:=by rw[hn]; rfl
 have o:n.co.xs.length=0:=by rw[hn]; rfl
 have A:3<=k/\k<=5:=by omega
 have v:kP ts q n a.d.sources b.d.sources=true:=by unfold kP;rw[Qv hap,Qw,e];refine tV ts q λi g=>?_;unfold aR at g;simp_all
 have p:=FU (conc:=aW ts q) (by rw[ni]; exact hq.eight) (j _ ha.src) (j _ hb.src) (λi g=>by
  rw[ni]at g;rw[sw g];exact j _ (FT hq g))
 obtain⟨w,r,y⟩:=U9 ts q n a b (by omega);refine⟨⟨TF.aiW ⟨by omega,by omega,.inr m,?_,.inr (.inl (by omega)),.inr o⟩ ?_ ha.tf hb.tf hl ?_,by omega,?_,?_⟩,r⟩
 ·omega
 ·rw[f]
  grind [arity]
 ·rw[sj (by omega) ha.out hb.out,Qw];unfold dh
  grind
 ·rw[r,y,e,ng l,ha.cls,hb.cls];exact p
 ·rw[w,f]
  grind [dW]
theorem Jl{a:aQ}(ha:TS ts q a)(hl:a.ns.length<=900)(ho:lu ts q.src.xs o a.d.sources=true):TS ts q (bD ts q a o):=by
 obtain⟨f,b,e⟩:=Lc ts q (Ed o) a (by show (6:Int)≠1; decide);refine⟨TF.U7 ⟨by show (1:Int)<=6; decide,by show (6:Int)<=10; decide,.inr rfl,.inr (.inr rfl),.inr (.inr rfl),.inl rfl⟩ (by rfl) ha.tf hl ?_,by show (ay ts q (Ed o) [a]).d.sources<_; rw[b]; exact ha.src,?_,?_⟩
 ·rw[sj (by show (6:Int)≠10; decide) ha.out Cm,Qw]
  show (if (6:Int)=1 then _ else if (6:Int)=2 then _ else if (6:Int)=3 then _ else if (6:Int)=4 then _ else if (6:Int)=5 then _ else if (6:Int)=6 then lu ts q.src.xs o a.d.sources else _)=true;simp_all
 ·show (ay ts q (Ed o) [a]).d.clauses=aY _ (ay ts q (Ed o) [a]).d.sources
  rw[b,e];show 0|||a.d.clauses=_;rw[Nat.zero_or];exact ha.cls
 rfl
def XY:=@ni
structure PF(ts:List af)(q:ae)(s:Nat)(t:aQ):Prop where
 ts':TS ts q t
 src:t.d.sources=s
 len:t.ns.length+2<=5*U8 s
structure GF(ts:List af)(q:ae)(s:Nat)(g:List aj):Prop where
 all:∀ p∈g,∀ x,p.2=some x->PF ts q s x.2
 head:∀ x,bC g=some x->x.ns.length+3<=5*U8 s
 amj:∀ o∈(g.map Prod.fst).drop 1,lu ts q.src.xs o s=true
theorem s32(hq:QF ts q)(h:s<2 ^ q.src.xs.length):s<32:=QH h (QI (by omega) hq.five)
theorem PF.small(hq:QF ts q)(h:PF ts q s t):t.ns.length<=23:=by have a:=ami s (s32 hq (h.src ▸ h.ts'.src));have:=h.len;omega
theorem GF.piece(h:GF ts q s g){x:Nat × aQ}(hx:x∈dG g):PF ts q s x.2:=by
 rcases kg g [] x hx with a | ⟨p,b,e⟩
 ·cases a
 grind [GF.all]
theorem Dg(bS:Int):∀ (l:List (Nat × aQ)) (m:Option aQ) (t:aQ),(∀ u,m=some u->au u.d.order [bS]=true)->l.foldl (kQ bS) m=some t->au t.d.order [bS]=true
 | [],_,t,hm,h => hm t h
 | x::l,m,t,hm,h => by refine Dg bS l (kQ bS m x) t (λu hu=>?_) h;unfold kQ at hu;grind
theorem D6(h:bC g=some t):∃ p∈g,∃ n,p.2=some (n,t):=by
 unfold bC at h;split at h
 ·rename_i o x r
  injection h with h;exact⟨_,ZJ,x.1,by rw[<- h]⟩
 ·cases h
theorem Le(hq:QF ts q)(hab:a &&& b=0){r:aQ}(hl:PF ts q a l)(hr:PF ts q b r)(hk:(k=3/\key=0)∨(k=4/\(fP ts q (bO k (cZ (aR (aW ts q) a b)) key) a b).2.2=true)∨(k=5/\(fP ts q (bO k (cZ (aR (aW ts q) a b)) key) a b).2.2=true/\au l.d.order [(fP ts q (bO k (cZ (aR (aW ts q) a b)) key) a b).1]=true/\au r.d.order [(fP ts q (bO k (cZ (aR (aW ts q) a b)) key) a b).2.1]=true)) :
  PF ts q (a|||b) (ay ts q (bO k (cZ (aR (aW ts q) a b)) key) [l,r])/\(ay ts q (bO k (cZ (aR (aW ts q) a b)) key) [l,r]).ns.length+3<=5*U8 (a|||b):=by
 have i:=hl.small hq;have j:=hr.small hq;obtain⟨f,g⟩:=ahv hq hl.ts' hr.ts' (by rw[hl.src,hr.src]; exact hab) (by omega) (n:=bO k (cZ (aR (aW ts q) a b)) key) (k:=k) (key:=key) (by rw[hl.src,hr.src]) (by rw[hl.src,hr.src]; exact hk);have e:(ay ts q (bO k (cZ (aR (aW ts q) a b)) key) [l,r]).ns.length+3<=5*U8 (a|||b):=by rw[Xk ts q _ (by simp),amh a (s32 hq (hl.src ▸ hl.ts'.src)) b (s32 hq (hr.src ▸ hr.ts'.src)) hab];show l.ns.length+r.ns.length+1+3<=_;have:=hl.len;have:=hr.len;omega
 exact⟨⟨f,by rw[g,hl.src,hr.src],by omega⟩,e⟩
def PIn(ts:List af)(q:ae)(s:Nat)(t:aQ):Prop:=PF ts q s t/\t.ns.length+3<=5*U8 s
theorem aaq(hq:QF ts q)(hab:a &&& b=0)(hl:PF ts q a l)(hg:GF ts q b g)(hs:(bC g).isSome=true):∀ t∈dX ts q (aW ts q) l g,PIn ts q (a|||b) t:=by
 obtain⟨r,hr⟩:=Xz.1 hs;obtain⟨p,hp,n,ep⟩:=D6 hr;have hR:PF ts q b r:=hg.all p hp _ ep;have key:∀ (ks:List Int) (acc:List aQ),(∀ t∈acc,PIn ts q (a|||b) t)->∀ t∈ks.foldl (fF ts q l r g (cZ (aR (aW ts q) a b))) acc,PIn ts q (a|||b) t:=by
  intro ks
  induction ks with
  | nil => simp_all
  | cons k ks ih =>
   intro acc h;refine ih _ ?_;unfold fF;simp only[hl.src,hR.src];split
   ·rename_i hk
    have h4:=Le hq hab hl hR (k:=4) (key:=k) (.inr (.inl ⟨rfl,hk⟩));have hA:∀ t∈acc++[ay ts q (bO 4 (cZ (aR (aW ts q) a b)) k) [l,r]],PIn ts q (a|||b) t:=λt ht=>by grind [PIn]
    split
    ·exact hA
    ·rename_i m hm
     split
     ·rename_i hst
      intro t ht;rcases ZK.1 ht with ht | ht
      ·exact hA t ht
      ·rw[Zy]at ht;rw[ht];have hM:PF ts q b m:=by
        rcases wF _ _ none m hm with h0 | ⟨n,hn⟩
        ·cases h0
        ·exact hg.piece hn
       exact Le hq hab hl hM (k:=5) (key:=k) (.inr (.inr ⟨rfl,hk,hst,Dg _ _ none m (λu hu=>by cases hu) hm⟩))
     ·exact hA
   ·exact h
 unfold dX;rw[hr];simp only[Option.getD_some,hl.src,hR.src];refine key _ _ λt ht=>?_;rw[Zy]at ht;rw[ht];exact Le hq hab hl hR (k:=3) (key:=0) (.inl ⟨rfl,rfl⟩)
theorem aem(hq:QF ts q)(hab:a &&& b=0){f:List aj}(hf:GF ts q a f)(hg:GF ts q b g)(hs:(bC g).isSome=true):∀ t∈fK ts q (aW ts q) f g,PIn ts q (a|||b) t:=by intro t ht;unfold fK at ht;obtain⟨x,hx,ht⟩:=Q3.1 ht;exact aaq hq hab (hf.piece hx) hg hs t ht
theorem TV{x:aQ}(h:bC (gD g t)=some x):x=t∨bC g=some x:=by
 cases g with
 | nil => cases h
 | cons p r =>
  have e:bC (gD (p::r) t)=bC (eP (dJ (p::r)) t p::r.map (eP (dJ (p::r)) t)):=rfl;rw[e]at h
  cases hp:(eP (dJ (p::r)) t p).2 with
  | none =>
   rw[show eP (dJ (p::r)) t p=((eP (dJ (p::r)) t p).1,none) from Prod.ext rfl hp]at h;cases h
  | some y =>
   rw[show eP (dJ (p::r)) t p=((eP (dJ (p::r)) t p).1,some y) from Prod.ext rfl hp]at h;have a:some y.2=some x:=h;injection a with a;rcases uW hp with rfl | d
   ·simp_all
   ·right;obtain⟨o,z⟩:=p;have b:z=some y:=d;rw[b]
    show some y.2=some x;rw[a]
theorem GF.offer(h:GF ts q s g)(ht:PF ts q s t)(hh:∀ x,bC (gD g t)=some x->x.ns.length+3<=5*U8 s):GF ts q s (gD g t):=by refine⟨λp b x e=>?_,hh,by rw[yw]; exact h.amj⟩;obtain⟨d,a,rfl⟩:=QZ.1 b;grind [eP,GF.all]
theorem Jm{ts:List af}{q:ae}{s:Nat}:∀ {l:List aQ} {x:Bool × List aj},GF ts q s x.2->(∀ t∈l,PIn ts q s t)->GF ts q s (l.foldl fV x).2
 | [],_,h,_ => h
 | t::l,x,h,hl => by
  have ht:=hl t ZJ;refine Jm (l:=l) (x:=fV x t) (h.offer ht.1 λy hy=>?_) (λu hu=>hl u (ZI _ hu));rcases TV hy with rfl | h0
  ·exact ht.2
  ·exact h.head y h0
theorem aar(hq:QF ts q)(hG:sJ q s g)(h:GF ts q s g)(hs:(bC g).isSome=true)(ho:lu ts q.src.xs o s=true):GF ts q s (dK ts q g o):=by
 obtain⟨t,a⟩:=Xz.1 hs;obtain⟨p,k,n,l⟩:=D6 a;have f:PF ts q s t:=h.all p k _ l;have v:=oQ ts q t o (hG.first a).1.cost;have i:=Jl f.ts' (by have:=f.small hq; omega) (o:=o) (by rw[f.src]; exact ho);have j:=h.head t a;unfold dK;rw[a];refine h.offer ⟨i,by show (bD ts q t o).d.sources=s; rw[og]; exact f.src,?_⟩ λx u=>?_
 ·show (bD ts q t o).ns.length+2<=_
  rw[qK];omega
 ·obtain⟨m,r,rfl,_⟩:=hG.head
  cases m with
  | none => cases a
  | some y =>
   have w:y.2=t:=by have:some y.2=some t:=a;simp_all
   have b:eP (dJ (([],some y)::r)) (bD ts q t o) ([],some y)=([],some y):=by unfold eP dZ;grind
   have e:bC (eP (dJ (([],some y)::r)) (bD ts q t o) ([],some y)::r.map (eP (dJ (([],some y)::r)) (bD ts q t o)))=some x:=u;rw[b]at e;exact h.head x e
theorem FV{ts:List af}{q:ae}(hq:QF ts q){s:Nat}:∀ {os:List (List Int)} {g:List aj},sJ q s g->GF ts q s g->(bC g).isSome=true->(∀ o∈os,lu ts q.src.xs o s=true)->GF ts q s (os.foldl (dK ts q) g)
 | [],_,_,h,_,_ => h
 | o::os,g,hG,h,hs,ho => by have h1:=hG.Kh (ts:=ts) hs o;exact FV hq (os:=os) h1.1 (aar hq hG h hs (ho o ZJ)) h1.2 (λo' h'=>ho o' (ZI _ h'))
theorem TW(hq:QF ts q){l:List aQ}(hG:sJ q s g)(hT:∀ t∈l,IY q s t)(h:GF ts q s g)(hl:∀ t∈l,PIn ts q s t):GF ts q s (aK ts q g l).2:=by
 have a:=pI (l:=l) (x:=(false,g)) hG hT (λe=>by cases e);have b:GF ts q s (jQ g l).2:=Jm (l:=l) (x:=(false,g)) h hl;unfold aK;split
 ·rename_i hc
  exact FV hq a.1 b (a.2 hc) (λo d=>h.amj o d)
 ·exact b
theorem yU(hq:QF ts q):aY (aW ts q) (2 ^ q.src.xs.length-1)=2 ^ q.wh.length-1:=by
 apply QJ;intro i;rw[nX,Nat.testBit_two_pow_sub_one,XY];by_cases a:i<q.wh.length
 ·have d:=FT hq a;have f:2 ^ q.src.xs.length-1<2 ^ q.src.xs.length:=Nat.sub_lt (ZU (by omega)) (by omega);rw[Qv a,Qw,sw a];refine(kU (lJ hq.five f) (lJ hq.five d)).2 λj e=>?_
  rw[Nat.testBit_two_pow_sub_one,Qs];by_cases b:j<q.src.xs.length
  ·exact b
  ·rw[QG (QH d (QI (by omega) (by omega)))]at e
   cases e
 grind
theorem LQ.uniq(h:LQ ts q ns ps)(g:LQ ts q ns qs):ps=qs:=by have b:=h.parts _ (Qn _);have a:=g.parts _ (Qn _);rw[b,ZT (by rw[h.len]; omega),ZT (by rw[g.len]; omega)]at a;injection a
theorem LQ.init(h:LQ ts q (ns++[n]) ps):LQ ts q ns (ps.take ns.length):=by
 have e:∀ i,i<ns.length->(ns++[n]).getD i nz=ns.getD i nz:=λi a=>by grind
 have d:(ns++[n]).length=ns.length+1:=by simp
 have b:∀ i,i<ns.length->fO (ns.getD i nz) i:=λi a=>by grind [LQ.st]
 have far:∀ i,i<ns.length->dN (ns.getD i nz) (ps.take ns.length)=dN (ns.getD i nz) ps/\dO (ns.getD i nz) (ps.take ns.length)=dO (ns.getD i nz) ps:=λi a=>wS (b i a) λj f=>by grind
 refine⟨by grind [LQ.len],b,λi a=>?_,λi a=>?_⟩
 ·have:=h.fit i (by omega)
  simp_all
 ·have:=h.part i (by omega)
  simp_all
theorem FW{a:aQ}(h:TF ts q a)(hl:a.ns.length<=900)(hp:LQ ts q (ay ts q n [a]).ns ps):(ay ts q n [a]).ns.getD ((ay ts q n [a]).ns.length-1) nz=iB n ((a.ns.length:Int)-1) 0/\ps.getD (iB n ((a.ns.length:Int)-1) 0).l.toNat pz=a.d:=by
 have j:=h.pos;have e:(ay ts q n [a]).ns=([]++a.ns.map (dB ([]:List ah).length))++[iB n ((a.ns.length:Int)-1) 0]:=by show iH [a.ns]++[(⟨n.kind,((iH [a.ns]).length:Int)-1,0,_,_,_,_⟩:ah)]=_;rw[show (iH [a.ns]).length=a.ns.length by simp[iH]];rfl
 have b:([]++a.ns.map (dB ([]:List ah).length)).length=a.ns.length:=by simp
 obtain⟨k,i,hd⟩:=h.ex;have f:=(LQ.nil ts q).app i (by simp; omega);rw[e]at hp;have g:=hp.init.uniq f;rw[b]at g;refine⟨?_,?_⟩
 ·simp_all
 ·show ps.getD ((a.ns.length:Int)-1).toNat pz=a.d
  rw[<- hd,show ((a.ns.length:Int)-1).toNat=a.ns.length-1 by omega];grind
structure BF(ts:List af)(q:ae)(t:aQ):Prop where
 tf:TF ts q t
 len:t.ns.length<=64
 fin:∀ ps,LQ ts q t.ns ps->(dW (t.ns.getD (t.ns.length-1) nz).kind&&gL q (t.ns.getD (t.ns.length-1) nz).kind (ps.getD (t.ns.getD (t.ns.length-1) nz).l.toNat pz).order)=true
theorem BF.look{ts:List af}{q:ae}{t:aQ}(h:BF ts q t):∃ a,iU ts q t.ns=some a/\a.length=t.ns.length/\a.getD (a.length-1) pz=t.d:=h.tf.look h.len h.fin
theorem vN(h1:1<=k)(h2:k<=10):OC (dU k):=⟨h1,h2,.inr rfl,.inr (.inr rfl),.inr (.inr rfl),.inr rfl⟩
theorem aas(h:7<=k):arity k=1:=by grind [arity]
theorem Vb(h:7<=k)(h':k<=10):dW k=true:=by grind [dW]
theorem aen(h:TF ts q t)(hl:t.ns.length<=60)(ho:dW t.d.kind=false)(hk:7<=k/\k<=9)(hf:dh ts q (dU k) t.d pz=true):(gL q k t.d.order=true->BF ts q (ay ts q (dU k) [t]))/\(0<q.ord.xs.length->BF ts q (ay ts q (dU 10) [ay ts q (dU k) [t]])):=by
 have j:(dU k).kind=k:=rfl;have e:TF ts q (ay ts q (dU k) [t]):=TF.U7 (vN (by omega) (by omega)) (by rw[j]; grind [aas]) h (by omega) (by rw[sj (by omega) ho Cm,Qw]; exact hf);have b:(ay ts q (dU k) [t]).ns.length=t.ns.length+1:=by rw[Xk ts q _ (by simp)];rfl
 refine⟨λn=>⟨e,by omega,λps a=>?_⟩,λo=>?_⟩
 ·obtain⟨g,i⟩:=FW h (by omega) a;rw[g,i]
  show (dW k&&gL q k t.d.order)=true;rw[Vb hk.1 (by omega),n];rfl
 ·have f:lF 10 (ay ts q (dU k) [t]).d pz=true:=by unfold lF;rw[show (ay ts q (dU k) [t]).d.kind=k from rfl,Vb hk.1 (by omega),Cm];rfl
  have l:TF ts q (ay ts q (dU 10) [ay ts q (dU k) [t]]):=TF.U7 (vN (by decide) (by decide)) (by rfl) e (by omega) (by
   rw[show (dU 10).kind=10 from rfl,f,Qw];show (if (10:Int)=1 then _ else if (10:Int)=2 then _ else if (10:Int)=3 then _ else if (10:Int)=4 then _ else if (10:Int)=5 then _ else if (10:Int)=6 then _ else if (10:Int)=7 then _ else if (10:Int)=8 then _ else if (10:Int)=9 then _ else decide (0<q.ord.xs.length))=true;simp_all)
  have m:(ay ts q (dU 10) [ay ts q (dU k) [t]]).ns.length=t.ns.length+2:=by rw[Xk ts q _ (by simp)];show (ay ts q (dU k) [t]).ns.length+0+1=_;rw[b]
  refine⟨l,by omega,λps a=>?_⟩;obtain⟨g,i⟩:=FW e (by omega) a;rw[g,i];show (dW 10&&gL q 10 _)=true;unfold gL;rw[Qu (by omega),Qo rfl];rfl
theorem OG(hw:kF q d=true)(hk:(k=9/\q.group=false)∨(k=8/\q.group=true/\au d.order q.keys.xs=true)∨(k=7/\q.group=true)):dh ts q (dU k) d pz=true:=by unfold dh;rw[show (dU k).kind=k from rfl];grind
theorem OH(h1:d.sources=2 ^ q.src.xs.length-1)(h2:d.clauses=2 ^ q.wh.length-1):kF q d=true:=by unfold kF;simp_all
theorem FY(hq:QF ts q)(h:TS ts q t)(hl:t.ns.length<=60)(hs:t.d.sources=2 ^ q.src.xs.length-1):BF ts q (fG ts q t):=by
 have b:=OH hs (by rw[h.cls,hs]; exact yU hq);have e:(bg q t.d.order=9/\q.group=false)∨(bg q t.d.order=8/\q.group=true/\au t.d.order q.keys.xs=true)∨(bg q t.d.order=7/\q.group=true):=by unfold bg;grind
 have a:7<=bg q t.d.order/\bg q t.d.order<=9:=by omega
 obtain⟨g,f⟩:=aen h.tf hl h.out a (OG b e);unfold fG;simp only;split
 ·simp_all
 ·rename_i he
  refine f (Nat.pos_of_ne_zero λi=>he ?_);unfold gL;simp_all
theorem OI{l:List Int}{w:Int}(h0:0<l.length)(hin:∀ c∈l,0<=c/\c<w)(hap:cK l=true):(l.length:Int)<=w:=by
 unfold cK at hap;rw[Qs]at hap;have d:0<=w:=by
  cases l with
  | nil => cases h0
  | cons a l => grind [List.mem_cons_self]
 obtain⟨n,rfl⟩:=ZV d;have e:(l.map Int.toNat).Nodup:=by grind [List.pairwise_iff_getElem,List.getElem_mem]
 have f:∀ k∈l.map Int.toNat,k<n:=λk i=>by grind
 have b:=oJ f;have g:∀ m,gy m (λk=>(l.map Int.toNat).count k)<=m:=λm=>by
  induction m with
  | zero => exact Qn _
  | succ m ih =>
   grind [jI]
 grind
theorem Lf{src:List Int}(h0:0<o.length)(hin:∀ c∈o,0<=c/\c<az ts src)(hap:cK o=true)(amk:∀ c∈o,aU s (2 ^ aA ts src c)=true):lu ts src o s=true:=by
 unfold lu;rw[Qv h0,Qv (OI h0 hin hap),Qw,Qw,Qk];intro i l;have a:i<o.length:=by simp_all
 have b:o.getD i 0∈o:=by simp_all
 obtain⟨f,g⟩:=hin _ b;rw[Qv f,Qv g,amk _ b,ZW]
 ·rfl
 ·intro d;rw[oK a]at d;obtain⟨j,k,e⟩:=d;unfold cK at hap
  grind
theorem vO(hq:QF ts q):(∀ c∈aG q,0<=c/\c<az ts q.src.xs)/\cK (aG q)=true:=by
 unfold aG;split
 ·exact⟨hq.keys,hq.apart⟩
 ·rename_i hg
  split
  ·rename_i ha
   exact⟨hq.want (by simp_all),ha⟩
  ·exact⟨λc a=>by (cases a),by decide⟩
theorem sF(hq:QF ts q){c:Int}(h:0<=c/\c<az ts q.src.xs):aA ts q.src.xs c<q.src.xs.length:=(QS hq.ok.cat hq.ok.src h.1 h.2).1
theorem TY(hq:QF ts q)(h:TS ts q t)(hl:t.ns.length<=50)(hs:t.d.sources=2 ^ q.src.xs.length-1):∀ x∈df ts q t,BF ts q x:=by
 intro x a;unfold df at a;split at a
 ·rename_i h0
  rcases Zq.1 a with rfl | a
  ·exact FY hq h (by omega) hs
  ·rw[Zy]at a;rw[a];have b:=vO hq;have f:2 ^ q.src.xs.length-1<2 ^ q.src.xs.length:=Nat.sub_lt (ZU (by omega)) (by omega);have g:lu ts q.src.xs (aG q) t.d.sources=true:=Lf h0 b.1 b.2 λc k=>by have e:=sF hq (b.1 c k);rw[hs];refine(kU (lJ hq.five f) (lJ hq.five (ZN (by omega) e))).2 λj l=>?_;grind
   have i:=Jl h (by omega) g;exact FY hq i (by rw[qK]; omega) (by rw[og]; exact hs)
 ·rw[Zy]at a;rw[a];exact FY hq h (by omega) hs
def Ik(ts:List af)(q:ae)(s:Nat)(ls:List (List Int)):Prop:=∃ r,ls=[]::r/\∀ o∈r,lu ts q.src.xs o s=true
theorem Ik.added{ls:List (List Int)}(h:Ik ts q s ls){l:List Int}(hl:l≠[]->lu ts q.src.xs l s=true):Ik ts q s (iQ ls l):=by
 obtain⟨r,rfl,a⟩:=h;unfold iQ;split
 ·exact⟨r,rfl,a⟩
 ·rename_i hn
  refine⟨r++[l],rfl,λo b=>?_⟩;grind
theorem rG(hq:QF ts q)(hs:s<2 ^ q.src.xs.length)(hin:∀ c∈o,0<=c/\c<az ts q.src.xs)(h:aU s (aB (fC ts q o))=true):∀ c∈o,aU s (2 ^ aA ts q.src.xs c)=true:=by
 intro c f;have a:∀ x∈fC ts q o,0<=x/\x<(q.src.xs.length:Int):=λx b=>by obtain⟨d,hd,rfl⟩:=QZ.1 b;have:=sF hq (hin d hd);omega
 have g:=(kU (lJ hq.five hs) (lJ hq.five (nD a))).1 h;refine(kU (lJ hq.five hs) (lJ hq.five (ZN (by omega) (sF hq (hin c f))))).2 λj e=>g j ?_;rw[Nat.testBit_two_pow]at e;simp only[Qs]at e;rw[QE (λx b=>(a x b).1),Qs];exact QZ.2 ⟨c,f,by rw[e]⟩
theorem Vd(hq:QF ts q)(hs:s<2 ^ q.src.xs.length){c:Int}(hc:0<=c/\c<az ts q.src.xs){acc:List (List Int)}(h:Ik ts q s acc):Ik ts q s (bW ts q s acc c):=by
 unfold bW;split
 ·rename_i amk
  have a:∀ d∈[c],0<=d/\d<az ts q.src.xs:=λd hd=>by simp_all
  refine h.added λ_=>Lf (by simp) a ?_ (rG hq hs a amk);rfl
 ·exact h
theorem aeo(hq:QF ts q){c:aL}(hc:c∈q.wh)(h:(bG c.cs).2.2=true):(0<=(bG c.cs).1/\(bG c.cs).1<az ts q.src.xs)/\(0<=(bG c.cs).2.1/\(bG c.cs).2.1<az ts q.src.xs):=by
 obtain⟨k,a,rfl⟩:=Qp hc;have b:=hq.ok.some k a;have d:=hq.ok.aX k a;rw[Xo,Xr a]at b d;simp only[Option.getD_some]at b d;generalize q.wh[k].cs=cs at *;unfold bG at h ⊢;by_cases j:cs.length > 1∨(cs.getD 0 cz).op≠0∨(cs.getD 0 cz).not=true∨(cs.getD 0 cz).const=true
 ·simp_all
 rw[Qu j];have l:∀ x,x∈aJ (cs.getD 0 cz)->x∈aZ cs:=λx i=>Q3.2 ⟨_,by
  simp_all,i⟩
 have e:(cs.getD 0 cz).op=0:=by omega
 have f:(cs.getD 0 cz).const=false:=by simp_all
 have g:aJ (cs.getD 0 cz)=[(cs.getD 0 cz).left,(cs.getD 0 cz).right]:=by unfold aJ;simp_all
 simp_all
theorem TZ(hq:QF ts q)(hs:s<2 ^ q.src.xs.length):Ik ts q s (bH ts q s):=by
 have d:Ik ts q s [[]]:=⟨[],rfl,λo a=>by (cases a)⟩;have i:Ik ts q s (if aU s (aB (fC ts q (aG q)))=true then iQ [[]] (aG q) else [[]]):=by
  split
  ·rename_i hc
   have a:=vO hq;exact d.added λb=>Lf (List.length_pos_iff.2 b) a.1 a.2 (rG hq hs a.1 hc)
  ·exact d
 unfold bH;have key:∀ (l:List aL) (acc:List (List Int)),(∀ c∈l,c∈q.wh)->Ik ts q s acc->Ik ts q s (l.foldl (iy ts q s) acc):=by
  intro l
  induction l with
  | nil => simp_all
  | cons c l ih =>
   intro acc f h;refine ih _ (λx g=>f x (ZI _ g)) ?_;unfold iy;split
   ·rename_i hc
    rw[Qj]at hc;have e:=aeo hq (f c ZJ) hc.1;exact Vd hq hs e.2 (Vd hq hs e.1 h)
   ·exact h
 simp_all
structure SF(ts:List af)(q:ae)(σ:eF):Prop where
 jd:∀ s,s<σ.groups.length->GF ts q s (σ.groups.getD s [])
 bq:BF ts q σ.bq
theorem aml(hq:QF ts q)(hs:s<2 ^ q.src.xs.length)(room:Nat):GF ts q s (dE ((bH ts q s).take room)):=by
 obtain⟨r,e,g⟩:=TZ hq hs;refine⟨λp f x a=>?_,λx a=>?_,λo b=>?_⟩
 ·obtain⟨o,_,rfl⟩:=QZ.1 f
  cases a
 ·rw[e]at a
  cases room with
  | zero => cases a
  | succ n => cases a
 ·have d:(dE ((bH ts q s).take room)).map Prod.fst=(bH ts q s).take room:=by unfold dE;rw[Xu];exact List.map_id' _
  rw[d,e]at b
  cases room with
  | zero => cases b
  | succ n =>
   grind
theorem FZ{ts:List af}{q:ae}(hq:QF ts q):∀ k,k<q.src.xs.length->TF ts q (dF ts q k)/\(dF ts q k).d.sources=2 ^ (k+1)-1/\(dF ts q k).d.clauses=0/\dW (dF ts q k).d.kind=false/\(dF ts q k).ns.length=2*k+1
 | 0,h => ⟨Ld (by omega) (by omega),by rfl,by rfl,by rfl,rfl⟩
 | k+1,h => by
  obtain⟨h1,h2,h3,h4,h5⟩:=FZ hq k (by omega);have h6:=hq.five;have hs:(ay ts q (iV ((k+1:Nat):Int)) []).d.sources=2 ^ (k+1):=by rw[sS,ZY]
  have ht:=Ld (ts:=ts) (q:=q) (s:=((k+1:Nat):Int)) (by omega) (by omega);have bits:∀ m,m<6->(2 ^ m-1) &&& 2 ^ m=0/\(2 ^ m-1)|||2 ^ m=2 ^ (m+1)-1:=by decide
  have hb:=bits (k+1) (by omega);obtain⟨d1,d2,d3⟩:=U9 ts q (dU 3) (dF ts q k) (ay ts q (iV ((k+1:Nat):Int)) []) (by decide);refine⟨TF.aiW (vN (by decide) (by decide)) (by decide) h1 ht (by rw[h5]; show 2*k+1+1<=900; omega) ?_,?_,?_,?_,?_⟩
  ·rw[sj (by decide) h4 (by rfl),Qw]
   show (if (3:Int)=1 then _ else if (3:Int)=2 then _ else if (3:Int)=3 then kP ts q (dU 3) _ _ else _)=true;rw[Qu (by decide),Qu (by decide),Qo rfl];unfold kP;rw[h2,hs,Qv hb.1];rfl
  ·show (ay ts q (dU 3) [dF ts q k,ay ts q (iV ((k+1:Nat):Int)) []]).d.sources=_
   simp_all
  ·show (ay ts q (dU 3) [dF ts q k,ay ts q (iV ((k+1:Nat):Int)) []]).d.clauses=0
   rw[d3,h3];show aB []|||0|||(aB []|||0|||0)=0;rfl
  ·rfl
  ·show (ay ts q (dU 3) [dF ts q k,ay ts q (iV ((k+1:Nat):Int)) []]).ns.length=_
   rw[Xk ts q _ (by simp)];show (dF ts q k).ns.length+1+1=_;omega
theorem aep(hq:QF ts q):BF ts q (iE ts q):=by
 have w:=hq.one;have y:=hq.five;obtain⟨m,b,n,o,z⟩:=FZ hq (q.src.xs.length-1) (by omega);rw[show q.src.xs.length-1+1=q.src.xs.length by omega]at b;obtain⟨f,e⟩:=eY (bY ts q (dF ts q (q.src.xs.length-1)) (2 ^ q.wh.length-1));have a:2 ^ q.wh.length-1<2 ^ 64:=AQ hq.eight (Nat.sub_lt (ZU (by omega)) (by omega));have g:TF ts q f/\f.d.sources=2 ^ q.src.xs.length-1/\f.d.clauses=2 ^ q.wh.length-1/\dW f.d.kind=false/\f.ns.length<=12:=by
  rw[e];unfold bY;split
  ·grind
  ·rename_i hz
   obtain⟨A,B,p⟩:=Lc ts q (zt (cZ (2 ^ q.wh.length-1))) (dF ts q (q.src.xs.length-1)) (by show (2:Int)≠1; decide);refine⟨Va m (by omega) o a hz (tV ts q λi v=>by rw[b,yU hq]; exact v),by omega,?_,by rfl,?_⟩
   ·rw[p,n]
    show aB (cZ (2 ^ q.wh.length-1))|||0=_;rw[ng a,Nat.or_zero]
   ·rw[Xk ts q _ (by simp)]
    show (dF ts q (q.src.xs.length-1)).ns.length+0+1<=12;omega
 obtain⟨r,s,t,f4,C⟩:=g;have j:=OH (q:=q) s t;have l:((if q.group=true then (7:Int) else 9)=9/\q.group=false)∨((if q.group=true then (7:Int) else 9)=8/\q.group=true/\au f.d.order q.keys.xs=true)∨((if q.group=true then (7:Int) else 9)=7/\q.group=true):=by grind
 obtain⟨u,D⟩:=aen r (by omega) f4 (k:=if q.group=true then (7:Int) else 9) (by omega) (OG j l);unfold iE;simp only;rw[<- e];split
 ·simp_all
 ·rename_i ho
  refine u ?_;unfold gL;simp_all
theorem OJ{ts:List af}{q:ae}(hq:QF ts q):∀ {l:List aQ} {b:aQ},BF ts q b->(∀ t∈l,PF ts q (2 ^ q.src.xs.length-1) t)->BF ts q (l.foldl (iN ts q) b)
 | [],_,h,_ => h
 | t::l,b,h,hl => by
  refine OJ hq (l:=l) (b:=iN ts q b t) ?_ (λx hx=>hl x (ZI _ hx));have ht:=hl t ZJ;unfold iN;rcases tH b (df ts q t) with e | e
  ·simp_all
  ·exact TY hq ht.ts' (by have:=ht.small hq; omega) ht.src _ e
theorem Ve(hq:QF ts q){l:List aQ}(hC:mM q σ)(h:SF ts q σ)(hs:s<2 ^ q.src.xs.length)(hT:∀ t∈l,IY q s t)(hl:∀ t∈l,PIn ts q s t):SF ts q (cO rk ts q s l σ):=by
 unfold cO;by_cases b:s=2 ^ q.src.xs.length-1
 ·rw[Qo b];exact⟨h.jd,OJ hq h.bq (λt d=>b ▸ (hl t d).1)⟩
 ·rw[Qu b];have a:s<σ.groups.length:=by rw[hC.kT]; omega
  refine⟨λk f=>?_,h.bq⟩;show GF ts q k ((σ.groups.set s _).getD k []);rw[kC];split
  ·rename_i e
   rw[<- e.1];exact TW hq (hC.jd s a) hT (h.jd s a) hl
  ·refine h.jd k ?_
   simp_all
theorem arI(hq:QF ts q){t:aO}(hC:mM q σ)(h:SF ts q σ)(ht:mX q.src.xs.length σ.groups t):SF ts q (qM rk ts q (aW ts q) t σ):=by
 have l:=hq.five;unfold qM;rcases ht with⟨h0,i,hi,e⟩ | ⟨h0,h1,h2,h3,h4,h6⟩
 ·rw[Qo h0,e,rY i (by omega)];have b:=nR ts q (XY ts q) (s:=(i:Int)) (by omega) (by omega);obtain⟨k,g,n⟩:=yT hq (s:=(i:Int)) (by omega) (by omega);rw[ZY]at g;have m:0<2 ^ i:=ZU (by omega);refine Ve hq hC h (ZN (by omega) hi) (λx a=>?_) (λx a=>?_)
  ·rw[Zy]at a;rw[a];exact⟨b.1,b.2.1,by omega⟩
  ·rw[Zy]at a;rw[a];have j:=ahu i (by omega);exact⟨⟨k,g,by omega⟩,by omega⟩
 ·rw[Qu h0];have d:=h1;have f:=h2;rw[hC.kT]at h1 h2;refine Ve hq hC h (pW (by omega) (by omega)) (λx a=>?_) (λx a=>?_)
  ·exact rV (XY ts q) h3 (hC.jd _ d) (hC.jd _ f) h6 x a
  ·exact aem hq h3 (h.jd _ d) (h.jd _ f) h6 x a
theorem ahx(hq:QF ts q)(hok:uu q σ)(h:SF ts q σ)(h1:σ.status=1)(pick:Int):SF ts q (fu rk ts q (aW ts q) pick σ):=by
 have a:=hok.stat h1;have d:=pJ a pick;have b:σ.ak.getD (dP σ.ak.length pick).toNat (0,0)∈σ.ak:=by simp_all
 have hd:=arI (rk:=rk) hq (t:=σ.ak.getD (dP σ.ak.length pick).toNat (0,0)) (hok.core.erase (dP σ.ak.length pick).toNat (σ.picks++[dP σ.ak.length pick])) ⟨h.jd,h.bq⟩ (hok.core.task _ b);unfold fu iA;simp only;split
 ·exact hd
 ·exact⟨hd.jd,hd.bq⟩
theorem Lg{rk:Nat->Int}{ts:List af}{q:ae}(hq:QF ts q)(picks:List Int){σ:eF}(hok:uu q σ)(h:SF ts q σ):∀ n,SF ts q (runN rk ts q (aW ts q) picks n 0 σ)
 | 0 => h
 | n+1 => by
  have ih:=Lg (rk:=rk) hq picks hok h n;have ok:=(mr (rk:=rk) (ts:=ts) (XY ts q) hq.five picks hok n).1;rw[iT];split
  ·grind [ahx]
  ·exact ih
theorem F3(hq:QF ts q)(rk:Nat->Int)(room:Nat):SF ts q (bP rk ts q room):=by
 refine⟨λs b=>?_,aep hq⟩;have a:(bP rk ts q room).groups.length=2 ^ q.src.xs.length-1:=by unfold bP; simp
 rw[a]at b;have e:(bP rk ts q room).groups.getD s []=dE ((bH ts q s).take room):=by unfold bP;simp_all
 rw[e];exact aml hq (by omega) room
theorem OM(b:aQ):∀ (l:List aQ),(dV b l).d.cost<=b.d.cost:=by
 have key:∀ (l:List aQ) (b:aQ),(l.foldl jy b).d.cost<=b.d.cost:=by
  intro l
  induction l with
  | nil => simp_all
  | cons t l ih =>
   intro b;refine Q6 (ih (jy b t)) ?_;unfold jy;grind
 exact λl=>key l b
theorem OO{ts:List af}{q:ae}:∀ (l:List aQ) (b:aQ),(l.foldl (iN ts q) b).d.cost<=b.d.cost
 | [],_ => Qn _
 | t::l,b => Q6 (OO l (iN ts q b t)) (OM b _)
theorem ahy(rk:Nat->Int)(ts:List af)(q:ae)(conc:List Nat)(pick:Int)(σ:eF):(fu rk ts q conc pick σ).bq.d.cost<=σ.bq.d.cost:=by
 have a:∀ s l (τ:eF),(cO rk ts q s l τ).bq.d.cost<=τ.bq.d.cost:=λs l τ=>by
  unfold cO;split
  ·exact OO l τ.bq
  simp_all
 have hd:∀ t (τ:eF),(qM rk ts q conc t τ).bq.d.cost<=τ.bq.d.cost:=λt τ=>by unfold qM;grind
 unfold fu iA;grind
theorem T9(rk:Nat->Int)(ts:List af)(q:ae)(conc:List Nat)(picks:List Int)(σ:eF)(n:Nat):∀ m,(runN rk ts q conc picks (n+m) 0 σ).bq.d.cost<=(runN rk ts q conc picks n 0 σ).bq.d.cost/\(runN rk ts q conc picks n 0 σ).picks.length<=(runN rk ts q conc picks (n+m) 0 σ).picks.length
 | 0 => ⟨Qn _,Qn _⟩
 | m+1 => by
  obtain⟨h1,h2⟩:=T9 rk ts q conc picks σ n m;rw[show n+(m+1)=n+m+1 by omega,iT];split
  ·refine⟨Q6 (ahy rk ts q conc _ _) h1,Q6 h2 ?_⟩;have hk:∀ s l (τ:eF),(cO rk ts q s l τ).picks=τ.picks:=λs l τ=>by unfold cO;split <;> rfl
   have hd:∀ t (τ:eF),(qM rk ts q conc t τ).picks=τ.picks:=λt τ=>by unfold qM;grind
   unfold fu iA;grind
  omega
theorem F4(ts:List af)(q:ae)(l:List ah):∀ k,je ts q (l.map bL) k=je ts q l k
 | 0 => rfl
 | k+1 => by
  have hg:(l.map bL).getD k nz=bL (l.getD k nz):=by grind [bL,nz]
  show (je ts q (l.map bL) k).bind (oI ts q ((l.map bL).getD k nz))=(je ts q l k).bind (oI ts q (l.getD k nz));rw[F4 ts q l k,hg];rfl
theorem Jn(ts:List af)(q:ae)(l:List ah):iU ts q (l.map bL)=iU ts q l:=by
 have a:∀ i,(l.map bL).getD i nz=bL (l.getD i nz):=λi=>by grind [bL,nz]
 have f:∀ i,inpN (l.map bL) i=inpN l i:=λi=>by unfold inpN;simp only[a];rfl
 have g:∀ n i,gK (bL n) i=gK n i:=λ_ _=>rfl;have b:∀ n,(bL n).kind=n.kind:=λ_=>rfl;have d:∀ n,(bL n).l=n.l:=λ_=>rfl;have e:eG (l.map bL)=eG l:=by grind [eG,xB]
 unfold iU;simp only[e,QQ,F4,a,b,d]
theorem BF.cost(h:BF ts q t){nv:List ah}(hn:nv.map bL=t.ns):∃ a,iU ts q nv=some a/\(a.getD (a.length-1) pz).cost=t.d.cost:=by obtain⟨a,b,f,e⟩:=h.look;refine⟨a,?_,by rw[e]⟩;rw[<- Jn,hn];exact b
theorem arJ(hc:q.check ts=0):QF ts q:=by
 obtain⟨d,g,i,s,j⟩:=yE hc;have e:di q.keys.xs (az ts q.src.xs)=true/\cK q.keys.xs=true:=by
  unfold ae.check checkN at hc;split at hc
  ·omega
  ·split at hc
   ·omega
   ·split at hc
    ·rename_i hr
     have f:=hr.2.2.2;unfold xy at f;simp_all
    ·omega
 have a:∀ {l:List Int} {n:Int},di l n=true->∀ c∈l,0<=c/\c<n:=λ{l n} h c b=>by unfold di at h;simp_all
 refine⟨d.ok,g,d.five,d.eight,a e.1,e.2,λm c b=>?_⟩;unfold jw at b;rw[QZ]at b;obtain⟨p,k,rfl⟩:=b;have o:=a (i m) p k;have r:p.toNat<q.bA.xs.length:=by omega
 refine a j _ ?_;simp_all
