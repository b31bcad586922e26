import Derived.Test.YtlpbelhfpoilpaaGreatDoorRE20
set_option linter.all false
set_option maxRecDepth 100000
set_option maxHeartbeats 16000000
namespace Go.Proofs.Zz
open Go.RowKit Go.Shelf
variable {l t:aQ} {S a b c i j s:Nat} {n:ai} {k key:Int} {ns:List ai} {ts:List af} {q:ae} {ps qs:List bZ} {o:List Int} {g:List aj} {d:bZ}
theorem fP{α:Type}(a b:List α)(d:α)(i:Nat):(a++b).getD i d=if i<a.length then a.getD i d else b.getD (i-a.length) d:=by
 rw[XH,List.getElem?_append];split <;> rw[XH]
theorem VH(k:Nat){l:List ai}(hi:i<l.length):(l.map (bJ k)).getD i nz=bJ k (l.getD i nz):=by
 rw[XH,Ze,ZX hi,XH,ZX hi];rfl
structure ed(n:ai)(i:Nat):Prop where
 lo:1<=n.kind
 hi:n.kind<=10
 more:rW n=true
 l:1<=arity n.kind->0<=n.l/\n.l<i
 r:2<=arity n.kind->0<=n.r/\n.r<i
theorem Ra(n:ai)(i:Nat):eP n i=true↔ed n i:=by
 unfold eP;simp only[Qt,Bool.or_eq_true,QJ];constructor
 ·rintro⟨⟨⟨⟨h1,h2⟩,h3⟩,h4⟩,h5⟩;exact⟨h1,h2,h3,fun h=>by rcases h4 with h4 | h4 <;> omega,fun h=>by rcases h5 with h5 | h5 <;> omega⟩
 ·intro h;refine⟨⟨⟨⟨h.lo,h.hi⟩,h.more⟩,?_⟩,?_⟩
  ·by_cases h1:1<=arity n.kind
   ·exact .inr (h.l h1)
   ·exact .inl (by omega)
  ·by_cases h1:2<=arity n.kind
   ·exact .inr (h.r h1)
   ·exact .inl (by omega)
theorem wP(k:Int):arity k<=2:=by unfold arity; split <;> (try split) <;> omega
theorem yJ(h:ed n i){k:Nat}(hk:i+k<=1000):ed (bJ k n) (i+k)/\(1<=arity n.kind->(bJ k n).l=n.l+k)/\(2<=arity n.kind->(bJ k n).r=n.r+k):=by
 have el:1<=arity n.kind->(bJ k n).l=n.l+k:=fun h1=>by
  have:=h.l h1
  show (if 1<=arity n.kind then wrap64 (n.l+k) else n.l)=_
  rw[Qy h1];unfold wrap64;omega
 have er:2<=arity n.kind->(bJ k n).r=n.r+k:=fun h1=>by
  have:=h.r h1
  show (if 2<=arity n.kind then wrap64 (n.r+k) else n.r)=_
  rw[Qy h1];unfold wrap64;omega
 refine⟨⟨h.lo,h.hi,?_,fun h1=>?_,fun h1=>?_⟩,el,er⟩
 ·have hm:=h.more;unfold rW at hm ⊢;rw[QJ]at hm ⊢;obtain⟨m1,m2,m3⟩:=hm;refine⟨?_,?_,m3⟩
  ·by_cases h1:1<=arity n.kind
   ·exact .inl h1
   ·right
    show (if 1<=arity n.kind then wrap64 (n.l+k) else n.l)=0
    rw[Qz h1];rcases m1 with m1 | m1
    ·exact absurd m1 h1
    ·exact m1
  ·by_cases h1:2<=arity n.kind
   ·exact .inl h1
   ·right
    show (if 2<=arity n.kind then wrap64 (n.r+k) else n.r)=0
    rw[Qz h1];rcases m2 with m2 | m2
    ·exact absurd m2 h1
    ·exact m2
 ·have:=h.l h1;rw[el h1];omega
 ·have:=h.r h1;rw[er h1];omega
def ins(n:ai):List Nat:=if arity n.kind=0 then [] else if arity n.kind=1 then [n.l.toNat] else [n.l.toNat,n.r.toNat]
def kQ(ns:List ai)(k:Nat):Nat:=(ns.map fun n=>(ins n).count k).sum
theorem abk(h:ed (ns.getD i nz) i):inpN ns i=ins (ns.getD i nz):=by
 unfold inpN ins;simp only[];have ha:=wP (ns.getD i nz).kind;split
 ·rfl
 ·split
  ·rw[Qy (h.l (by omega))]
  ·have h1:=h.l (by omega);have h2:=h.r (by omega);rw[Qy ⟨h1.1,h1.2,h2.1,h2.2⟩]
theorem Rb(ns:List ai)(f:ai->Nat):gF ns.length (fun i=>f (ns.getD i nz))=(ns.map f).sum:=by
 unfold gF;congr 1;apply List.ext_getElem
 ·simp
 ·intro i h1 h2;rw[Zc]at h2;simp[List.getD,h2]
theorem abl(h:∀ i,i<ns.length->ed (ns.getD i nz) i)(k:Nat):gF ns.length (fun i=>(inpN ns i).count k)=kQ ns k:=by
 unfold kQ;rw[<- Rb ns (fun n=>(ins n).count k)];exact qD fun i hi=>by rw[abk (h i hi)]
theorem Dm(a b:List ai)(k:Nat):kQ (a++b) k=kQ a k+kQ b k:=by
 unfold kQ;rw[Qs,List.sum_append]
theorem F6{k:Nat}(h:∀ n∈ns,k ∉ ins n):kQ ns k=0:=by
 unfold kQ
 induction ns with
 | nil => rfl
 | cons n ns ih =>
  rw[List.map_cons,List.sum_cons,ih (fun m hm=>h m (Xf _ hm)),List.count_eq_zero_of_not_mem (h n Xg)]
theorem ajb(h:ed n i):∀ k∈ins n,k<i:=by
 intro k hk;unfold ins at hk;split at hk
 ·cases hk
 ·split at hk
  ·have:=h.l (by omega);simp only[Q4,List.not_mem_nil,or_false]at hk;omega
  ·have h2:=wP n.kind;have h1:=h.l (by omega);have h3:=h.r (by omega);simp only[Q4,List.not_mem_nil,or_false]at hk;omega
theorem Md(h:ed n i){k:Nat}(hk:i+k<=1000):ins (bJ k n)=(ins n).map (· + k):=by
 obtain⟨_,el,er⟩:=yJ h hk;unfold ins
 show (if arity n.kind=0 then [] else if arity n.kind=1 then [(bJ k n).l.toNat] else [(bJ k n).l.toNat,(bJ k n).r.toNat])=_
 have ha:=wP n.kind;split
 ·rfl
 ·split
  ·have:=h.l (by omega);rw[el (by omega)];simp;omega
  ·have h1:=h.l (by omega);have h2:=h.r (by omega);rw[el (by omega),er (by omega)];simp;omega
theorem Me(l:List Nat)(k j:Nat):(l.map (· + k)).count (j+k)=l.count j:=by
 induction l with
 | nil => rfl
 | cons a l ih =>
  rw[List.map_cons,List.count_cons,List.count_cons,ih];congr 1;by_cases h:a=j
  ·rw[h]; simp
  ·simp[h]
theorem zR(h:∀ i,i<ns.length->ed (ns.getD i nz) i){k:Nat}(hk:ns.length+k<=1000)(j:Nat):kQ (ns.map (bJ k)) (j+k)=kQ ns j:=by
 unfold kQ;rw[XM];congr 1;apply List.map_congr_left;intro n hn;obtain⟨i,hi,rfl⟩:=QC hn;have h1:=h i hi;rw[XH,ZX hi]at h1;have this:ed ns[i] i:=h1
 show (ins (bJ k ns[i])).count (j+k)=_
 rw[Md this (by omega),Me]
structure LQ(ts:List af)(q:ae)(ns:List ai)(ps:List bZ):Prop where
 len:ps.length=ns.length
 st:∀ i,i<ns.length->ed (ns.getD i nz) i
 fit:∀ i,i<ns.length->(mE (ns.getD i nz).kind (fK (ns.getD i nz) ps) (fM (ns.getD i nz) ps)&&cZ ts q (ns.getD i nz) (fK (ns.getD i nz) ps) (fM (ns.getD i nz) ps))=true
 part:∀ i,i<ns.length->ps.getD i pz=mf ts q (ns.getD i nz) (fK (ns.getD i nz) ps) (fM (ns.getD i nz) ps)
theorem LQ.nil(ts:List af)(q:ae):LQ ts q [] []:=⟨rfl,fun i hi=>absurd hi (by simp),fun i hi=>absurd hi (by simp),fun i hi=>absurd hi (by simp)⟩
theorem uE(h:ed n i){a b:List bZ}(e:∀ j,j<i->a.getD j pz=b.getD j pz):fK n a=fK n b/\fM n a=fM n b:=by
 unfold fK fM;constructor
 ·split
  ·rename_i h1
   have:=h.l h1;exact e _ (by omega)
  ·rfl
 ·split
  ·rename_i h1
   have:=h.r (by omega);exact e _ (by omega)
  ·rfl
theorem LQ.app{ms:List ai}(h:LQ ts q ns ps)(g:LQ ts q ms qs)(hl:ms.length+ns.length<=1000):LQ ts q (ns++ms.map (bJ ns.length)) (ps++qs):=by
 have key:∀ i,i<(ns++ms.map (bJ ns.length)).length->ed ((ns++ms.map (bJ ns.length)).getD i nz) i/\
   ((i<ns.length/\(ns++ms.map (bJ ns.length)).getD i nz=ns.getD i nz/\fK (ns.getD i nz) (ps++qs)=fK (ns.getD i nz) ps/\fM (ns.getD i nz) (ps++qs)=fM (ns.getD i nz) ps)∨
    (∃ j,j<ms.length/\i=ns.length+j/\(ns++ms.map (bJ ns.length)).getD i nz=bJ ns.length (ms.getD j nz)/\fK (bJ ns.length (ms.getD j nz)) (ps++qs)=fK (ms.getD j nz) qs/\fM (bJ ns.length (ms.getD j nz)) (ps++qs)=fM (ms.getD j nz) qs)):=by
  intro i hi;rw[Zb,Zc]at hi;by_cases hlt:i<ns.length
  ·have e:(ns++ms.map (bJ ns.length)).getD i nz=ns.getD i nz:=by rw[fP,Qy hlt]
   have hs:=h.st i hlt;obtain⟨e1,e2⟩:=uE hs (a:=ps++qs) (b:=ps) (fun j hj=>by rw[fP,Qy (by rw[h.len]; omega)]);exact⟨by rw[e]; exact hs,.inl ⟨hlt,e,e1,e2⟩⟩
  ·obtain⟨j,rfl⟩:∃ j,i=ns.length+j:=⟨i-ns.length,by omega⟩
   have hj:j<ms.length:=by omega
   have e:(ns++ms.map (bJ ns.length)).getD (ns.length+j) nz=bJ ns.length (ms.getD j nz):=by
    rw[fP,Qz (by omega),Nat.add_sub_cancel_left,VH _ hj]
   have hs:=g.st j hj;obtain⟨hm,el,er⟩:=yJ hs (k:=ns.length) (by omega);refine⟨by rw[e,Nat.add_comm]; exact hm,.inr ⟨j,hj,rfl,e,?_,?_⟩⟩
   ·unfold fK
    show (if 1<=arity (ms.getD j nz).kind then _ else _)=_
    split
    ·rename_i h1
     have:=hs.l h1;rw[el h1,fP,Qz (by rw[h.len]; omega),h.len];congr 1;omega
    ·rfl
   ·unfold fM
    show (if arity (ms.getD j nz).kind=2 then _ else _)=_
    split
    ·rename_i h1
     have:=hs.r (by omega);rw[er (by omega),fP,Qz (by rw[h.len]; omega),h.len];congr 1;omega
    ·rfl
 refine⟨by rw[Zb,Zb,Zc,h.len,g.len],fun i hi=>(key i hi).1,fun i hi=>?_,fun i hi=>?_⟩
 ·rcases (key i hi).2 with⟨h1,e,e1,e2⟩ | ⟨j,hj,rfl,e,e1,e2⟩
  ·rw[e,e1,e2];exact h.fit i h1
  ·rw[e,e1,e2];exact g.fit j hj
 ·rcases (key i hi).2 with⟨h1,e,e1,e2⟩ | ⟨j,hj,rfl,e,e1,e2⟩
  ·rw[e,e1,e2,fP,Qy (by rw[h.len]; exact h1)];exact h.part i h1
  ·rw[e,e1,e2,fP,Qz (by rw[h.len]; omega),h.len,Nat.add_sub_cancel_left];exact g.part j hj
theorem LQ.snoc(h:LQ ts q ns ps)(hs:ed n ns.length)(hf:(mE n.kind (fK n ps) (fM n ps)&&cZ ts q n (fK n ps) (fM n ps))=true):LQ ts q (ns++[n]) (ps++[mf ts q n (fK n ps) (fM n ps)]):=by
 have far:∀ {m:ai} {i:Nat},ed m i->i<=ns.length->fK m (ps++[mf ts q n (fK n ps) (fM n ps)])=fK m ps/\fM m (ps++[mf ts q n (fK n ps) (fM n ps)])=fM m ps:=fun hm hi=>uE hm fun j hj=>by rw[fP,Qy (by rw[h.len]; omega)]
 have key:∀ i,i<(ns++[n]).length->(i<ns.length/\(ns++[n]).getD i nz=ns.getD i nz)∨(i=ns.length/\(ns++[n]).getD i nz=n):=fun i hi=>by
  rw[Zb,Jd]at hi;by_cases hlt:i<ns.length
  ·exact .inl ⟨hlt,by rw[fP,Qy hlt]⟩
  ·obtain rfl:i=ns.length:=by omega
   exact .inr ⟨rfl,by rw[fP,Qz hlt,Z4]; rfl⟩
 refine⟨by rw[Zb,Zb,h.len]; rfl,fun i hi=>?_,fun i hi=>?_,fun i hi=>?_⟩
 ·rcases key i hi with⟨h1,e⟩ | ⟨rfl,e⟩
  ·rw[e]; exact h.st i h1
  ·rw[e]; exact hs
 ·rcases key i hi with⟨h1,e⟩ | ⟨rfl,e⟩
  ·rw[e,(far (h.st i h1) (by omega)).1,(far (h.st i h1) (by omega)).2]; exact h.fit i h1
  ·rw[e,(far hs (by omega)).1,(far hs (by omega)).2]; exact hf
 ·rcases key i hi with⟨h1,e⟩ | ⟨rfl,e⟩
  ·rw[e,(far (h.st i h1) (by omega)).1,(far (h.st i h1) (by omega)).2,fP,Qy (by rw[h.len]; exact h1)]; exact h.part i h1
  ·rw[e,(far hs (by omega)).1,(far hs (by omega)).2,fP,Qz (by rw[h.len]; omega),h.len,Z4]; rfl
theorem LQ.parts{ts:List af}{q:ae}{ns:List ai}{ps:List bZ}(h:LQ ts q ns ps):∀ k,k<=ns.length->gU ts q ns k=some (ps.take k)
 | 0,_ => rfl
 | k+1,hk => by
  show (gU ts q ns k).bind (mQ ts q (ns.getD k nz))=_
  rw[h.parts k (by omega)]
  show mQ ts q (ns.getD k nz) (ps.take k)=_
  have hl:=h.len;obtain⟨e1,e2⟩:=uE (h.st k (by omega)) (a:=ps.take k) (b:=ps) (fun j hj=>by
   rw[XH,ZY,Qy hj,XH])
  unfold mQ;rw[e1,e2,Qy (h.fit k (by omega)),<- h.part k (by omega),Qr (by omega)];rw[XH,ZX (by omega)];rfl
def Jg:=@fP
structure TF(ts:List af)(q:ae)(t:aQ):Prop where
 ex:∃ ps,LQ ts q t.ns ps/\ps.getD (t.ns.length-1) pz=t.d
 pos:0<t.ns.length
 once:∀ k,k+1<t.ns.length->kQ t.ns k=1
structure Mf(n:ai):Prop where
 lo:1<=n.kind
 hi:n.kind<=10
 source:n.kind=1∨n.source=0
 key:n.kind=4∨n.kind=5∨n.key=0
 cl:n.kind=2∨3<=n.kind/\n.kind<=5∨n.cl.xs.length=0
 co:n.kind=6∨n.co.xs.length=0
def fJ(n:ai)(l r:Int):ai:=⟨n.kind,l,r,n.source,⟨none,0,n.cl.xs⟩,n.key,⟨none,0,n.co.xs⟩⟩
theorem wQ(h:Mf n){l r:Int}(hl:(1<=arity n.kind->0<=l/\l<i)/\(¬ 1<=arity n.kind->l=0))(hr:(2<=arity n.kind->0<=r/\r<i)/\(¬ 2<=arity n.kind->r=0)):ed (fJ n l r) i:=by
 refine⟨h.lo,h.hi,?_,hl.1,hr.1⟩;unfold rW;rw[QJ];refine⟨?_,?_,h.source,h.key,h.cl,h.co⟩
 ·by_cases h1:1<=arity n.kind
  ·exact .inl h1
  ·exact .inr (hl.2 h1)
 ·by_cases h1:2<=arity n.kind
  ·exact .inl h1
  ·exact .inr (hr.2 h1)
theorem yK(h:∀ i,i<ns.length->ed (ns.getD i nz) i){k:Nat}(hk:ns.length<=k+1):kQ ns k=0:=by
 refine F6 fun n hn hm=>?_
 obtain⟨i,hi,rfl⟩:=QC hn;have h1:=h i hi;rw[XH,ZX hi]at h1;have:=ajb (show ed ns[i] i from h1) k hm;omega
theorem Mg(n:ai)(k:Nat):kQ [n] k=(ins n).count k:=by
 unfold kQ;simp
theorem abm(h:∀ i,i<ns.length->ed (ns.getD i nz) i){k:Nat}(hk:ns.length+k<=1000)(hj:j<k):kQ (ns.map (bJ k)) j=0:=by
 refine F6 fun n hn hm=>?_
 obtain⟨m,hm1,rfl⟩:=Zi.1 hn;obtain⟨i,hi,rfl⟩:=QC hm1;have h1:=h i hi;rw[XH,ZX hi]at h1;rw[Md (show ed ns[i] i from h1) (by omega)]at hm;obtain⟨x,_,e⟩:=Zi.1 hm;omega
theorem Dn{α:Type}(a:List α)(x d:α){n:Nat}(h:n=a.length):(a++[x]).getD n d=x:=by
 rw[h,Jg,Qz (by omega),Z4];rfl
theorem TF.an9(hn:Mf n)(ha:arity n.kind=0)(hf:(mE n.kind pz pz&&cZ ts q n pz pz)=true):TF ts q (ay ts q n []):=by
 have e:(ay ts q n []).ns=[]++[fJ n 0 0]:=rfl;have hs:ed (fJ n 0 0) ([]:List ai).length:=wQ hn ⟨fun h=>by omega,fun _=>rfl⟩ ⟨fun h=>by omega,fun _=>rfl⟩;have el:fK (fJ n 0 0) []=pz:=by unfold fK; split <;> rfl
 have er:fM (fJ n 0 0) []=pz:=by unfold fM; split <;> rfl
 have h:=(LQ.nil ts q).snoc hs (by rw[el,er]; exact hf);refine⟨⟨_,by rw[e]; exact h,?_⟩,by rw[e]; simp,fun k hk=>?_⟩
 ·rw[el,er,e];rfl
 ·rw[e]at hk;simp at hk
theorem TF.Sv{a:aQ}(hn:Mf n)(ha:arity n.kind=1)(h:TF ts q a)(hl:a.ns.length<=900)(hf:(mE n.kind a.d pz&&cZ ts q n a.d pz)=true):TF ts q (ay ts q n [a]):=by
 obtain⟨ps,hq,hd⟩:=h.ex;have h0:=(LQ.nil ts q).app hq (by simp; omega);have hp:=h.pos;have hlen:([]++a.ns.map (bJ 0)).length=a.ns.length:=by simp
 have e:(ay ts q n [a]).ns=([]++a.ns.map (bJ 0))++[fJ n ((a.ns.length:Int)-1) 0]:=by
  show fU [a.ns]++[_]=_
  unfold fU fJ
  show _++[(⟨n.kind,((fU [a.ns]).length:Int)-1,0,_,_,_,_⟩:ai)]=_
  rw[show (fU [a.ns]).length=a.ns.length by simp[fU]];rfl
 have hs:ed (fJ n ((a.ns.length:Int)-1) 0) ([]++a.ns.map (bJ 0)).length:=by
  rw[hlen];exact wQ hn ⟨fun _=>by omega,fun h=>by omega⟩ ⟨fun h=>by omega,fun _=>rfl⟩
 have el:fK (fJ n ((a.ns.length:Int)-1) 0) ([]++ps)=a.d:=by
  unfold fK
  show (if 1<=arity n.kind then _ else _)=_
  rw[Qy (by omega),<- hd]
  show ps.getD ((a.ns.length:Int)-1).toNat pz=_
  congr 1;omega
 have er:fM (fJ n ((a.ns.length:Int)-1) 0) ([]++ps)=pz:=by
  unfold fM
  show (if arity n.kind=2 then _ else _)=_
  rw[Qz (by omega)]
 have h1:=h0.snoc hs (by rw[el,er]; exact hf);refine⟨⟨_,by rw[e]; exact h1,?_⟩,by rw[e]; simp,fun k hk=>?_⟩
 ·rw[el,er,e];exact Dn _ _ _ (by rw[Zb,Jd,Nat.add_sub_cancel,hlen]; simp[hq.len])
 ·rw[e,Zb,hlen,Jd]at hk;rw[e,Dm,Mg,ZG];have hu:kQ (a.ns.map (bJ 0)) k=kQ a.ns k:=zR (k:=0) hq.st (by omega) k;have hi:ins (fJ n ((a.ns.length:Int)-1) 0)=[a.ns.length-1]:=by
   unfold ins
   show (if arity n.kind=0 then [] else if arity n.kind=1 then [((a.ns.length:Int)-1).toNat] else _)=_
   rw[Qz (by omega),Qy ha];congr 1;omega
  rw[hu,hi,List.count_singleton];by_cases hka:k+1<a.ns.length
  ·rw[h.once k hka,Qz (by simp; omega)]
  ·rw[yK hq.st (by omega),Qy (by simp; omega)]
theorem TF.afO{a b:aQ}(hn:Mf n)(ha:arity n.kind=2)(h:TF ts q a)(g:TF ts q b)(hl:a.ns.length+b.ns.length<=900)(hf:(mE n.kind a.d b.d&&cZ ts q n a.d b.d)=true):TF ts q (ay ts q n [a,b]):=by
 obtain⟨ps,hq,hd⟩:=h.ex;obtain⟨qs,gq,gd⟩:=g.ex;have hp:=h.pos;have gp:=g.pos;have h0:=(LQ.nil ts q).app hq (by simp; omega);have aoa:([]++a.ns.map (bJ ([]:List ai).length)).length=a.ns.length:=by simp
 have hL:=h0.app gq (by simp; omega);obtain⟨L,hLe⟩:∃ L,L=([]++a.ns.map (bJ ([]:List ai).length))++b.ns.map (bJ ([]++a.ns.map (bJ ([]:List ai).length)).length):=⟨_,rfl⟩
 have hlen:L.length=a.ns.length+b.ns.length:=by rw[hLe]; simp
 rw[<- hLe]at hL;have e:(ay ts q n [a,b]).ns=L++[fJ n ((a.ns.length:Int)-1) (((a.ns.length+b.ns.length:Nat):Int)-1)]:=by
  show fU [a.ns,b.ns]++[(⟨n.kind,((fU [a.ns]).length:Int)-1,((fU [a.ns,b.ns]).length:Int)-1,_,_,_,_⟩:ai)]=_
  have e2:fU [a.ns,b.ns]=L:=by rw[hLe]; rfl
  rw[e2,hlen,show (fU [a.ns]).length=a.ns.length by simp[fU]];rfl
 have hs:ed (fJ n ((a.ns.length:Int)-1) (((a.ns.length+b.ns.length:Nat):Int)-1)) L.length:=by
  rw[hlen];exact wQ hn ⟨fun _=>by omega,fun h=>by omega⟩ ⟨fun _=>by omega,fun h=>by omega⟩
 have hpl:([]++ps).length=a.ns.length:=by simp[hq.len]
 have el:fK (fJ n ((a.ns.length:Int)-1) (((a.ns.length+b.ns.length:Nat):Int)-1)) (([]++ps)++qs)=a.d:=by
  unfold fK
  show (if 1<=arity n.kind then _ else _)=_
  rw[Qy (by omega),<- hd]
  show (([]++ps)++qs).getD ((a.ns.length:Int)-1).toNat pz=_
  rw[Jg,Qy (by rw[hpl]; omega)]
  show ps.getD _ pz=_
  congr 1;omega
 have er:fM (fJ n ((a.ns.length:Int)-1) (((a.ns.length+b.ns.length:Nat):Int)-1)) (([]++ps)++qs)=b.d:=by
  unfold fM
  show (if arity n.kind=2 then _ else _)=_
  rw[Qy ha,<- gd]
  show (([]++ps)++qs).getD (((a.ns.length+b.ns.length:Nat):Int)-1).toNat pz=_
  rw[Jg,Qz (by rw[hpl]; omega),hpl];congr 1;omega
 have h1:=hL.snoc hs (by rw[el,er]; exact hf);refine⟨⟨_,by rw[e]; exact h1,?_⟩,by rw[e]; simp,fun k hk=>?_⟩
 ·rw[el,er,e];exact Dn _ _ _ (by rw[Zb,Jd,Nat.add_sub_cancel,hlen,Zb,hpl,gq.len])
 ·rw[e,Zb,hlen,Jd]at hk;have hi:ins (fJ n ((a.ns.length:Int)-1) (((a.ns.length+b.ns.length:Nat):Int)-1))=[a.ns.length-1,a.ns.length+b.ns.length-1]:=by
   unfold ins
   show (if arity n.kind=0 then [] else if arity n.kind=1 then _ else [((a.ns.length:Int)-1).toNat,(((a.ns.length+b.ns.length:Nat):Int)-1).toNat])=_
   rw[Qz (by omega),Qz (by omega)];congr 1
   ·omega
   ·congr 1;omega
  have hA:kQ ([]++a.ns.map (bJ ([]:List ai).length)) k=kQ a.ns k:=zR (k:=0) hq.st (by omega) k;rw[e,Dm,Mg,hLe,Dm,hA,hi,List.count_cons,List.count_singleton,aoa];by_cases hka:k<a.ns.length
  ·rw[abm gq.st (by omega) hka,Qz (by simp; omega)];by_cases hk1:k+1<a.ns.length
   ·rw[h.once k hk1,Qz (by simp; omega)]
   ·rw[yK hq.st (by omega),Qy (by simp; omega)]
  ·obtain⟨j,rfl⟩:∃ j,k=j+a.ns.length:=⟨k-a.ns.length,by omega⟩
   rw[yK hq.st (by omega),zR gq.st (by omega),Qz (show ¬ (a.ns.length-1==j+a.ns.length)=true by simp; omega)];by_cases hk1:j+1<b.ns.length
   ·rw[g.once j hk1,Qz (by simp; omega)]
   ·rw[yK gq.st (by omega),Qy (by simp; omega)]
theorem TF.look(h:TF ts q t)(hl:t.ns.length<=64)(he:∀ ps,LQ ts q t.ns ps->(eD (t.ns.getD (t.ns.length-1) nz).kind&&jh q (t.ns.getD (t.ns.length-1) nz).kind (ps.getD (t.ns.getD (t.ns.length-1) nz).l.toNat pz).order)=true):∃ ds,jS ts q t.ns=some ds/\ds.length=t.ns.length/\ds.getD (ds.length-1) pz=t.d:=by
 obtain⟨ps,hq,hd⟩:=h.ex;have hp:=h.pos;have hpl:dK t.ns=true:=by
  unfold dK;simp only[Qt,QJ];refine⟨⟨⟨by omega,hl⟩,?_⟩,?_⟩
  ·rw[Qu];intro i hi;exact(Ra _ _).2 (hq.st i (by simpa using hi))
  ·unfold xh;rw[Qu];intro k hk;rw[QJ,abl hq.st];have hk':k<t.ns.length-1:=by simpa using hk
   exact h.once k (by omega)
 refine⟨ps,?_,hq.len,by rw[hq.len]; exact hd⟩;unfold jS;rw[Qz (by rw[hpl]; simp),hq.parts _ (Qx _),Xl (by rw[hq.len]; exact Qx _)]
 show (if _ then some ps else none)=some ps
 rw[Qy (he ps hq)]
structure QF(ts:List af)(q:ae):Prop where
 ok:Ok ts q
 one:1<=q.src.xs.length
 five:q.src.xs.length<=5
 eight:q.wh.length<=8
 keys:∀ c∈q.keys.xs,0<=c/\c<aJ ts q.src.xs
 apart:di q.keys.xs=true
 want:q.group=false->∀ c∈jg q,0<=c/\c<aJ ts q.src.xs
theorem yL(conc:List Nat)(s:Nat):∀ k i,(dX conc s k).testBit i=(decide (i<k)&&aS s (conc.getD i 0))
 | 0,i => by simp[dX]
 | k+1,i => by
  have ih:=yL conc s k i;by_cases h:i=k
  ·subst h;have hlt:(dX conc s i).testBit i=false:=by rw[ih]; simp
   unfold dX;split
   ·rename_i hc
    rw[Q3,hlt,Nat.testBit_two_pow_self,hc];simp
   ·rename_i hc
    rw[hlt];simp at hc;simp[hc]
  ·have e:decide (i<k+1)=decide (i<k):=by
    by_cases h1:i<k
    ·rw[QD h1,QD (by omega)]
    ·rw[Ql h1,Ql (by omega)]
   rw[e,<- ih]
   show (if aS s (conc.getD k 0)=true then dX conc s k|||2 ^ k else dX conc s k).testBit i=_
   split
   ·rw[Q3,Nat.testBit_two_pow_of_ne (by omega),Bool.or_false]
   ·rfl
theorem oP(conc:List Nat)(s i:Nat):(aW conc s).testBit i=(decide (i<conc.length)&&aS s (conc.getD i 0)):=yL conc s conc.length i
theorem kR(ha:a<18446744073709551616)(hb:b<18446744073709551616):aS a b=true↔∀ i,b.testBit i=true->a.testBit i=true:=by
 unfold aS;rw[QJ];exact Nt ha hb
theorem abn(hi:i<q.wh.length):(q.wh.map fun c=>bE (dD ts q.src.xs c.cs)).getD i 0=bE (dD ts q.src.xs (q.wh.getD i lz).cs):=by
 rw[XH,Ze,ZX hi,XH,ZX hi];rfl
theorem Mh(h:QF ts q)(hi:i<q.wh.length):bE (dD ts q.src.xs (q.wh.getD i lz).cs)<2 ^ q.src.xs.length:=qy (oV h.ok.cat h.ok.src (h.ok.aO i hi))
theorem oQ{n:Nat}(h:n<=5)(ha:a<2 ^ n):a<18446744073709551616:=Q6 ha (Zl (Q7 (by omega) h) (by decide))
theorem Dp{n:Nat}(h:n<=8)(ha:a<2 ^ n):a<2 ^ 64:=Q6 ha (Q7 (by omega) (by omega))
theorem Ar(hj:j<(aR s).length):(dG s).getD j 0=(((aR s)[j]:Nat):Int):=by
 unfold dG;rw[XH,Ze,ZX hj];rfl
theorem Au(h:i∈aR s):s.testBit i=true:=(List.mem_filter.1 h).2
theorem Io(s:Nat):(aR s).Pairwise (· < ·):=List.Pairwise.filter _ List.pairwise_lt_range
theorem abo(h:∀ i,c.testBit i=true->i<q.wh.length/\aS S (bE (dD ts q.src.xs (q.wh.getD i lz).cs))=true):iW ts q (dG c) S=true:=by
 unfold iW;rw[Qu];intro j hj;have hl:(dG c).length=(aR c).length:=by unfold dG; simp
 have hj':j<(aR c).length:=by rw[<- hl]; simpa using hj
 rw[Ar hj'];have hm:=Qp hj';obtain⟨h1,h2⟩:=h _ (Au hm);simp only[Qt,QJ,Zj];refine⟨⟨?_,by omega⟩,h2⟩;split
 ·omega
 ·have hp:=List.pairwise_iff_getElem.1 (Io c) (j-1) j (by omega) hj' (by omega);rw[Ar (by omega)];omega
theorem uF(h:s<2 ^ 64):bE (dG s)=s:=by
 apply Nat.eq_of_testBit_eq;intro i;rw[Bp (fun x hx=>by obtain⟨k,_,rfl⟩:=Zi.1 hx; omega)];by_cases hb:s.testBit i=true
 ·rw[hb,QJ];have hi:i<64:=by
   by_cases hi:i<64
   ·exact hi
   ·rw[Q5 (Q6 h (Q7 (by omega) (by omega)))]at hb
    cases hb
  exact Zi.2 ⟨i,List.mem_filter.2 ⟨by simp[hi],hb⟩,rfl⟩
 ·have e:s.testBit i=false:=by simpa using hb
  rw[e,Qk];intro hm;obtain⟨k,hk,ek⟩:=Zi.1 hm;have:k=i:=by omega
  rw[this]at hk;rw[Au hk]at e
  cases e
theorem abp(h:s<2 ^ 64)(h0:s≠0):0<(dG s).length:=by
 cases hr:dG s with
 | nil =>
  have:=uF h;rw[hr]at this;exact absurd this.symm h0
 | cons a l => simp
theorem Rc{conc:List Nat}(hc:conc.length<=8)(ha:a<2 ^ 5)(hb:b<2 ^ 5)(hx:∀ i,i<conc.length->conc.getD i 0<2 ^ 5):bP conc a b|||aW conc a|||aW conc b=aW conc (a|||b):=by
 apply Nat.eq_of_testBit_eq;intro i;have hlt:∀ s,aW conc s<2 ^ conc.length:=fun s=>iQ conc s conc.length
 have h64:∀ s,aW conc s<18446744073709551616:=fun s=>Q6 (hlt s) (Zl (Q7 (by omega) hc) (by decide))
 have hor:aW conc a|||aW conc b<18446744073709551616:=Xk (n:=64) (h64 a) (h64 b)
 by_cases hi:i<conc.length
 ·have hmono:∀ s,s<2 ^ 5->(∀ j,s.testBit j=true->(a|||b).testBit j=true)->(aW conc s).testBit i=true->(aW conc (a|||b)).testBit i=true:=by
   intro s hs hsub h1;rw[oP,Qt]at h1 ⊢;have hb1:s<18446744073709551616:=Nat.lt_trans hs (by decide);have hb2:a|||b<18446744073709551616:=Nat.lt_trans (Xk ha hb) (by decide)
   have hb3:conc.getD i 0<18446744073709551616:=Nat.lt_trans (hx i hi) (by decide);refine⟨h1.1,(kR hb2 hb3).2 fun j hj=>hsub j ((kR hb1 hb3).1 h1.2 j hj)⟩
  have m1:=hmono a ha (fun j hj=>by rw[Q3,hj]; rfl);have m2:=hmono b hb (fun j hj=>by rw[Q3,hj,Bool.or_true]);unfold bP;rw[Q3,Q3,Bq hor i (by omega),Q3]
  revert m1 m2
  cases (aW conc (a|||b)).testBit i <;> cases (aW conc a).testBit i <;> cases (aW conc b).testBit i <;> simp
 ·have z:∀ s,(aW conc s).testBit i=false:=fun s=>by rw[oP,Ql hi,Qm]
  unfold bP;rw[Q3,Q3,Nat.testBit_and,z,z,z];simp
def Sw(s:Nat):Nat:=(aR s).length
theorem ajc:∀ a,a<32->∀ b,b<32->a &&& b=0->Sw (a|||b)=Sw a+Sw b:=by
 unfold Sw aR;decide +kernel
theorem ajd:∀ s,s<32->Sw s<=5:=by
 unfold Sw aR;decide +kernel
theorem aeD:∀ i,i<5->Sw (2 ^ i)=1:=by
 unfold Sw aR;decide +kernel
def eZ(ts:List af)(q:ae):List Nat:=q.wh.map fun c=>bE (dD ts q.src.xs c.cs)
theorem iJ(ts:List af)(q:ae):(eZ ts q).length=q.wh.length:=by unfold eZ; simp
structure TS(ts:List af)(q:ae)(t:aQ):Prop where
 tf:TF ts q t
 src:t.d.sources<2 ^ q.src.xs.length
 cls:t.d.clauses=aW (eZ ts q) t.d.sources
 out:eD t.d.kind=false
theorem Ip(ts:List af)(q:ae)(n:ai)(a:aQ)(h1:n.kind≠1):(ay ts q n [a]).d.kind=n.kind/\(ay ts q n [a]).d.sources=a.d.sources/\(ay ts q n [a]).d.clauses=bE n.cl.xs|||a.d.clauses:=by
 refine⟨rfl,?_,?_⟩
 ·show (if n.kind=1 then 2 ^ n.source.toNat else 0)|||a.d.sources|||0=_
  rw[Qz h1,Nat.zero_or,Nat.or_zero]
 ·show bE n.cl.xs|||a.d.clauses|||0=_
  rw[Nat.or_zero]
theorem Sy(ts:List af)(q:ae)(n:ai)(a b:aQ)(h1:n.kind≠1):(ay ts q n [a,b]).d.kind=n.kind/\(ay ts q n [a,b]).d.sources=a.d.sources|||b.d.sources/\(ay ts q n [a,b]).d.clauses=bE n.cl.xs|||a.d.clauses|||b.d.clauses:=by
 refine⟨rfl,?_,rfl⟩
 show (if n.kind=1 then 2 ^ n.source.toNat else 0)|||a.d.sources|||b.d.sources=_
 rw[Qz h1,Nat.zero_or]
theorem ql{l r:bZ}(hk:k≠10)(hl:eD l.kind=false)(hr:eD r.kind=false):mE k l r=true:=by
 unfold mE;rw[hl,hr,Ql hk];rfl
theorem zS:eD pz.kind=false:=by decide
theorem zT(hi:i<q.wh.length):(eZ ts q).getD i 0=bE (dD ts q.src.xs (q.wh.getD i lz).cs):=abn hi
theorem rC(ts:List af)(q:ae)(h:∀ i,c.testBit i=true->(aW (eZ ts q) S).testBit i=true):iW ts q (dG c) S=true:=by
 refine abo fun i hi=>?_
 have h1:=h i hi;rw[oP,Qt,QJ,iJ]at h1;rw[<- zT h1.1];exact h1
theorem VI(ts:List af)(q:ae)(h8:q.wh.length<=8)(s:Nat):aW (eZ ts q) s<2 ^ 64:=by
 have:=iQ (eZ ts q) s (eZ ts q).length;rw[iJ]at this;exact Dp h8 (by unfold aW; rw[iJ]; exact this)
theorem Iq{s:Int}(h0:0<=s)(h1:s<q.src.xs.length):TF ts q (ay ts q (iD s) []):=by
 refine TF.an9 ⟨by show (1:Int)<=1; decide,by show (1:Int)<=10; decide,.inl rfl,.inr (.inr rfl),.inr (.inr rfl),.inr rfl⟩ (by show arity 1=0; decide) ?_;rw[ql (by show (1:Int)≠10; decide) zS zS,QE]
 show (if (1:Int)=1 then decide (0<=s)&&decide (s<q.src.xs.length) else _)=true
 rw[Qy rfl,QD h0,QD h1];rfl
theorem Sz(h:TF ts q t)(hl:t.ns.length<=900)(ho:eD t.d.kind=false)(hc:c<2 ^ 64)(hn:c≠0)(hr:iW ts q (dG c) t.d.sources=true):TF ts q (ay ts q (Bt (dG c)) [t]):=by
 refine TF.Sv ⟨by show (1:Int)<=2; decide,by show (2:Int)<=10; decide,.inr rfl,.inr (.inr rfl),.inl rfl,.inr rfl⟩ (by show arity 2=1; decide) h hl ?_;rw[ql (by show (2:Int)≠10; decide) ho zS,QE]
 show (if (2:Int)=1 then _ else if (2:Int)=2 then decide (0<(dG c).length)&&iW ts q (dG c) t.d.sources else _)=true
 rw[Qz (by decide),Qy rfl,hr,QD (abp hc hn)];rfl
theorem Re(hq:QF ts q){s:Int}(h0:0<=s)(h1:s<q.src.xs.length):TS ts q (dP ts q (eZ ts q) s)/\(dP ts q (eZ ts q) s).d.sources=2 ^ s.toNat/\(dP ts q (eZ ts q) s).ns.length<=2:=by
 have ht:=Iq (ts:=ts) h0 h1;have hs:=qO ts q s;have hk:(ay ts q (iD s) []).d.kind=1:=rfl;have hl:(ay ts q (iD s) []).ns.length=1:=rfl;have hc:(ay ts q (iD s) []).d.clauses=0:=by
  show bE []|||0|||0=0
  rfl
 have hlt:2 ^ s.toNat<2 ^ q.src.xs.length:=Xi (by omega) (by omega);unfold dP bM;simp only[hs];split
 ·rename_i hz
  exact⟨⟨ht,by rw[hs]; exact hlt,by rw[hs,hz,hc],by rw[hk]; decide⟩,hs,by rw[hl]; omega⟩
 ·rename_i hz
  have hw:=VI ts q hq.eight (2 ^ s.toNat);have hf:=Sz ht (by rw[hl]; omega) (by rw[hk]; decide) hw hz (rC ts q (fun i hi=>by rw[hs]; exact hi));obtain⟨d1,d2,d3⟩:=Ip ts q (Bt (dG (aW (eZ ts q) (2 ^ s.toNat)))) (ay ts q (iD s) []) (by show (2:Int)≠1; decide);refine⟨⟨hf,by rw[d2,hs]; exact hlt,?_,by rw[d1]; show eD 2=false; decide⟩,by rw[d2,hs],?_⟩
  ·rw[d2,d3,hs];rw[hc]
   show bE (dG (aW (eZ ts q) (2 ^ s.toNat)))|||0=_
   rw[uF hw,Nat.or_zero]
  ·rw[XG ts q _ (by simp)]
   show (ay ts q (iD s) []).ns.length+0+1<=2
   rw[hl];omega
theorem aeE(hq:QF ts q){a b:aQ}(ha:TS ts q a)(hb:TS ts q b)(hap:a.d.sources &&& b.d.sources=0)(hl:a.ns.length+b.ns.length<=900)(hn:n=dM k (dG (bP (eZ ts q) a.d.sources b.d.sources)) key)(hk:(k=3/\key=0)∨(k=4/\(iM ts q n a.d.sources b.d.sources).2.2=true)∨(k=5/\(iM ts q n a.d.sources b.d.sources).2.2=true/\aP a.d.order [(iM ts q n a.d.sources b.d.sources).1]=true/\aP b.d.order [(iM ts q n a.d.sources b.d.sources).2.1]=true)) :
  TS ts q (ay ts q n [a,b])/\(ay ts q n [a,b]).d.sources=a.d.sources|||b.d.sources:=by
 have h5:=hq.five;have hab:=Xk ha.src hb.src;have p5:∀ x,x<2 ^ q.src.xs.length->x<2 ^ 5:=fun x hx=>Q6 hx (Q7 (by omega) h5)
 have hbt:bP (eZ ts q) a.d.sources b.d.sources<2 ^ 64:=by
  have:=qQ (eZ ts q) a.d.sources b.d.sources;rw[iJ]at this;exact Dp hq.eight this
 have hcl:n.cl.xs=dG (bP (eZ ts q) a.d.sources b.d.sources):=by rw[hn]; rfl
 have hkd:n.kind=k:=by rw[hn]; rfl
 have hke:n.key=key:=by rw[hn]; rfl
 have hso:n.source=0:=by rw[hn]; rfl
 have hco:n.co.xs.length=0:=by rw[hn]; rfl
 have LU:3<=k/\k<=5:=by rcases hk with h | h | h <;> omega
 have hjo:kg ts q n a.d.sources b.d.sources=true:=by
  unfold kg;rw[QD hap,QE,hcl];refine rC ts q fun i hi=>?_
  unfold bP at hi;rw[Nat.testBit_and,Qt]at hi;exact hi.1
 have hor:=Rc (conc:=eZ ts q) (by rw[iJ]; exact hq.eight) (p5 _ ha.src) (p5 _ hb.src) (fun i hi=>by
  rw[iJ]at hi;rw[zT hi];exact p5 _ (Mh hq hi))
 obtain⟨d1,d2,d3⟩:=Sy ts q n a b (by rw[hkd]; omega);refine⟨⟨TF.afO ⟨by rw[hkd]; omega,by rw[hkd]; omega,.inr hso,?_,.inr (.inl (by rw[hkd]; exact LU)),.inr hco⟩ ?_ ha.tf hb.tf hl ?_,by rw[d2]; exact hab,?_,?_⟩,d2⟩
 ·rw[hkd,hke];rcases hk with⟨_,h⟩ | ⟨h,_⟩ | ⟨h,_⟩
  ·exact .inr (.inr h)
  ·exact .inl h
  ·exact .inr (.inl h)
 ·rw[hkd];unfold arity;rw[Qz (by omega),Qy LU]
 ·rw[ql (by rw[hkd]; omega) ha.out hb.out,QE];unfold cZ;rw[hkd];rcases hk with⟨rfl,_⟩ | ⟨rfl,h⟩ | ⟨rfl,h1,h2,h3⟩
  ·rw[Qz (by decide),Qz (by decide),Qy rfl];exact hjo
  ·rw[Qz (by decide),Qz (by decide),Qz (by decide),Qy rfl,h,hjo];rfl
  ·rw[Qz (by decide),Qz (by decide),Qz (by decide),Qz (by decide),Qy rfl,h1,hjo,h2,h3];rfl
 ·rw[d2,d3,hcl,uF hbt,ha.cls,hb.cls];exact hor
 ·rw[d1,hkd];unfold eD;rw[Ql (show ¬ 7<=k by omega)];rfl
theorem F7{a:aQ}(ha:TS ts q a)(hl:a.ns.length<=900)(ho:lM ts q.src.xs o a.d.sources=true):TS ts q (bO ts q a o):=by
 obtain⟨d1,d2,d3⟩:=Ip ts q (Bu o) a (by show (6:Int)≠1; decide);refine⟨TF.Sv ⟨by show (1:Int)<=6; decide,by show (6:Int)<=10; decide,.inr rfl,.inr (.inr rfl),.inr (.inr rfl),.inl rfl⟩ (by show arity 6=1; decide) ha.tf hl ?_,by show (ay ts q (Bu o) [a]).d.sources<_; rw[d2]; exact ha.src,?_,?_⟩
 ·rw[ql (by show (6:Int)≠10; decide) ha.out zS,QE]
  show (if (6:Int)=1 then _ else if (6:Int)=2 then _ else if (6:Int)=3 then _ else if (6:Int)=4 then _ else if (6:Int)=5 then _ else if (6:Int)=6 then lM ts q.src.xs o a.d.sources else _)=true
  rw[Qz (by decide),Qz (by decide),Qz (by decide),Qz (by decide),Qz (by decide),Qy rfl];exact ho
 ·show (ay ts q (Bu o) [a]).d.clauses=aW _ (ay ts q (Bu o) [a]).d.sources
  rw[d2,d3]
  show 0|||a.d.clauses=_
  rw[Nat.zero_or];exact ha.cls
 ·show eD (ay ts q (Bu o) [a]).d.kind=false
  rw[d1]
  show eD 6=false
  decide
structure PF(ts:List af)(q:ae)(s:Nat)(t:aQ):Prop where
 ts':TS ts q t
 src:t.d.sources=s
 len:t.ns.length+2<=5*Sw s
structure GF(ts:List af)(q:ae)(s:Nat)(g:List aj):Prop where
 all:∀ p∈g,∀ x,p.2=some x->PF ts q s x.2
 head:∀ x,bL g=some x->x.ns.length+3<=5*Sw s
 aob:∀ o∈(g.map Prod.fst).drop 1,lM ts q.src.xs o s=true
theorem s32(hq:QF ts q)(h:s<2 ^ q.src.xs.length):s<32:=Q6 h (Q7 (by omega) hq.five)
theorem PF.small(hq:QF ts q)(h:PF ts q s t):t.ns.length<=23:=by
 have h1:=ajd s (s32 hq (h.src ▸ h.ts'.src));have:=h.len;omega
theorem GF.piece(h:GF ts q s g){x:Nat × aQ}(hx:x∈dw g):PF ts q s x.2:=by
 rcases lU g [] x hx with h0 | ⟨p,hp,e⟩
 ·cases h0
 ·exact h.all p hp x e
theorem Av(ig:Int):∀ (l:List (Nat × aQ)) (m:Option aQ) (t:aQ),(∀ u,m=some u->aP u.d.order [ig]=true)->l.foldl (oF ig) m=some t->aP t.d.order [ig]=true
 | [],_,t,hm,h => hm t h
 | x::l,m,t,hm,h => by
  refine Av ig l (oF ig m x) t (fun u hu=>?_) h;unfold oF at hu;split at hu <;> split at hu
  ·rename_i hc
   injection hu with hu;rw[Qt]at hc;rw[<- hu];exact hc.1
  ·exact hm u hu
  ·rename_i hc
   injection hu with hu;rw[Qt]at hc;rw[<- hu];exact hc.1
  ·exact hm u hu
theorem SC(h:bL g=some t):∃ p∈g,∃ n,p.2=some (n,t):=by
 unfold bL at h;split at h
 ·rename_i o x r
  injection h with h;exact⟨_,Xg,x.1,by rw[<- h]⟩
 ·cases h
theorem Ir(hq:QF ts q)(hab:a &&& b=0){r:aQ}(hl:PF ts q a l)(hr:PF ts q b r)(hk:(k=3/\key=0)∨(k=4/\(iM ts q (dM k (dG (bP (eZ ts q) a b)) key) a b).2.2=true)∨(k=5/\(iM ts q (dM k (dG (bP (eZ ts q) a b)) key) a b).2.2=true/\aP l.d.order [(iM ts q (dM k (dG (bP (eZ ts q) a b)) key) a b).1]=true/\aP r.d.order [(iM ts q (dM k (dG (bP (eZ ts q) a b)) key) a b).2.1]=true)) :
  PF ts q (a|||b) (ay ts q (dM k (dG (bP (eZ ts q) a b)) key) [l,r])/\(ay ts q (dM k (dG (bP (eZ ts q) a b)) key) [l,r]).ns.length+3<=5*Sw (a|||b):=by
 have s1:=hl.small hq;have s2:=hr.small hq;obtain⟨h1,h2⟩:=aeE hq hl.ts' hr.ts' (by rw[hl.src,hr.src]; exact hab) (by omega) (n:=dM k (dG (bP (eZ ts q) a b)) key) (k:=k) (key:=key) (by rw[hl.src,hr.src]) (by rw[hl.src,hr.src]; exact hk);have hlen:(ay ts q (dM k (dG (bP (eZ ts q) a b)) key) [l,r]).ns.length+3<=5*Sw (a|||b):=by
  rw[XG ts q _ (by simp),ajc a (s32 hq (hl.src ▸ hl.ts'.src)) b (s32 hq (hr.src ▸ hr.ts'.src)) hab]
  show l.ns.length+r.ns.length+1+3<=_
  have:=hl.len;have:=hr.len;omega
 exact⟨⟨h1,by rw[h2,hl.src,hr.src],by omega⟩,hlen⟩
def PIn(ts:List af)(q:ae)(s:Nat)(t:aQ):Prop:=PF ts q s t/\t.ns.length+3<=5*Sw s
theorem VJ(hq:QF ts q)(hab:a &&& b=0)(hl:PF ts q a l)(hg:GF ts q b g)(hs:(bL g).isSome=true):∀ t∈dS ts q (eZ ts q) l g,PIn ts q (a|||b) t:=by
 obtain⟨r,hr⟩:=XU.1 hs;obtain⟨p,hp,n,ep⟩:=SC hr;have hR:PF ts q b r:=hg.all p hp _ ep;have key:∀ (ks:List Int) (acc:List aQ),(∀ t∈acc,PIn ts q (a|||b) t)->∀ t∈ks.foldl (ik ts q l r g (dG (bP (eZ ts q) a b))) acc,PIn ts q (a|||b) t:=by
  intro ks
  induction ks with
  | nil => intro acc h; exact h
  | cons k ks ih =>
   intro acc h;refine ih _ ?_;unfold ik;simp only[hl.src,hR.src];split
   ·rename_i hk
    have h4:=Ir hq hab hl hR (k:=4) (key:=k) (.inr (.inl ⟨rfl,hk⟩));have hA:∀ t∈acc++[ay ts q (dM 4 (dG (bP (eZ ts q) a b)) k) [l,r]],PIn ts q (a|||b) t:=fun t ht=>by
     rcases ZT.1 ht with ht | ht
     ·exact h t ht
     ·rw[ZR]at ht;rw[ht];exact h4
    split
    ·exact hA
    ·rename_i m hm
     split
     ·rename_i hst
      intro t ht;rcases ZT.1 ht with ht | ht
      ·exact hA t ht
      ·rw[ZR]at ht;rw[ht];have hM:PF ts q b m:=by
        rcases Bg _ _ none m hm with h0 | ⟨n,hn⟩
        ·cases h0
        ·exact hg.piece hn
       exact Ir hq hab hl hM (k:=5) (key:=k) (.inr (.inr ⟨rfl,hk,hst,Av _ _ none m (fun u hu=>by cases hu) hm⟩))
     ·exact hA
   ·exact h
 unfold dS;rw[hr];simp only[Option.getD_some,hl.src,hR.src];refine key _ _ fun t ht=>?_
 rw[ZR]at ht;rw[ht];exact Ir hq hab hl hR (k:=3) (key:=0) (.inl ⟨rfl,rfl⟩)
theorem abq(hq:QF ts q)(hab:a &&& b=0){f:List aj}(hf:GF ts q a f)(hg:GF ts q b g)(hs:(bL g).isSome=true):∀ t∈jH ts q (eZ ts q) f g,PIn ts q (a|||b) t:=by
 intro t ht;unfold jH at ht;obtain⟨x,hx,ht⟩:=XC.1 ht;exact VJ hq hab (hf.piece hx) hg hs t ht
theorem Rf{x:aQ}(h:bL (jF g t)=some x):x=t∨bL g=some x:=by
 cases g with
 | nil => cases h
 | cons p r =>
  have e:bL (jF (p::r) t)=bL (eG (dh (p::r)) t p::r.map (eG (dh (p::r)) t)):=rfl;rw[e]at h
  cases hp:(eG (dh (p::r)) t p).2 with
  | none =>
   rw[show eG (dh (p::r)) t p=((eG (dh (p::r)) t p).1,none) from Prod.ext rfl hp]at h
   cases h
  | some y =>
   rw[show eG (dh (p::r)) t p=((eG (dh (p::r)) t p).1,some y) from Prod.ext rfl hp]at h;have h':some y.2=some x:=h;injection h' with h';rcases qg hp with rfl | h0
   ·exact .inl h'.symm
   ·right;obtain⟨o,z⟩:=p;have h0':z=some y:=h0;rw[h0']
    show some y.2=some x
    rw[h']
theorem GF.offer(h:GF ts q s g)(ht:PF ts q s t)(hh:∀ x,bL (jF g t)=some x->x.ns.length+3<=5*Sw s):GF ts q s (jF g t):=by
 refine⟨fun p hp x hx=>?_,hh,by rw[vO]; exact h.aob⟩;obtain⟨p0,hp0,rfl⟩:=Zi.1 hp;rcases qg hx with rfl | h0
 ·exact ht
 ·exact h.all p0 hp0 x h0
theorem F8{ts:List af}{q:ae}{s:Nat}:∀ {l:List aQ} {x:Bool × List aj},GF ts q s x.2->(∀ t∈l,PIn ts q s t)->GF ts q s (l.foldl kG x).2
 | [],_,h,_ => h
 | t::l,x,h,hl => by
  have ht:=hl t Xg;refine F8 (l:=l) (x:=kG x t) (h.offer ht.1 fun y hy=>?_) (fun u hu=>hl u (Xf _ hu));rcases Rf hy with rfl | h0
  ·exact ht.2
  ·exact h.head y h0
theorem VK(hq:QF ts q)(hG:uw q s g)(h:GF ts q s g)(hs:(bL g).isSome=true)(ho:lM ts q.src.xs o s=true):GF ts q s (fq ts q g o):=by
 obtain⟨t,ht⟩:=XU.1 hs;obtain⟨p,hp,n,ep⟩:=SC ht;have hT:PF ts q s t:=h.all p hp _ ep;have hc:=xJ ts q t o (hG.first ht).1.cost;have hst:=F7 hT.ts' (by have:=hT.small hq; omega) (o:=o) (by rw[hT.src]; exact ho);have hl3:=h.head t ht;unfold fq;rw[ht];refine h.offer ⟨hst,by show (bO ts q t o).d.sources=s; rw[mI]; exact hT.src,?_⟩ fun x hx=>?_
 ·show (bO ts q t o).ns.length+2<=_
  rw[oH];omega
 ·obtain⟨hh,r,rfl,_⟩:=hG.head
  cases hh with
  | none => cases ht
  | some y =>
   have ey:y.2=t:=by
    have:some y.2=some t:=ht;injection this
   have hput:eG (dh (([],some y)::r)) (bO ts q t o) ([],some y)=([],some y):=by
    unfold eG eF;rw[Qz];simp only[Qt,QJ,not_and];intro _;rw[ey];omega
   have hx':bL (eG (dh (([],some y)::r)) (bO ts q t o) ([],some y)::r.map (eG (dh (([],some y)::r)) (bO ts q t o)))=some x:=hx;rw[hput]at hx';exact h.head x hx'
theorem Dq{ts:List af}{q:ae}(hq:QF ts q){s:Nat}:∀ {os:List (List Int)} {g:List aj},uw q s g->GF ts q s g->(bL g).isSome=true->(∀ o∈os,lM ts q.src.xs o s=true)->GF ts q s (os.foldl (fq ts q) g)
 | [],_,_,h,_,_ => h
 | o::os,g,hG,h,hs,ho => by
  have h1:=hG.GN (ts:=ts) hs o;exact Dq hq (os:=os) h1.1 (VK hq hG h hs (ho o Xg)) h1.2 (fun o' h'=>ho o' (Xf _ h'))
theorem Rh(hq:QF ts q){l:List aQ}(hG:uw q s g)(hT:∀ t∈l,MO q s t)(h:GF ts q s g)(hl:∀ t∈l,PIn ts q s t):GF ts q s (bg ts q g l).2:=by
 have h1:=uy (l:=l) (x:=(false,g)) hG hT (fun e=>by cases e);have h2:GF ts q s (jG g l).2:=F8 (l:=l) (x:=(false,g)) h hl;unfold bg;split
 ·rename_i hc
  exact Dq hq h1.1 h2 (h1.2 hc) (fun o ho=>h.aob o ho)
 ·exact h2
theorem Dr(hq:QF ts q):aW (eZ ts q) (2 ^ q.src.xs.length-1)=2 ^ q.wh.length-1:=by
 apply Nat.eq_of_testBit_eq;intro i;rw[oP,Nat.testBit_two_pow_sub_one,iJ];by_cases hi:i<q.wh.length
 ·have hc:=Mh hq hi;have hp:2 ^ q.src.xs.length-1<2 ^ q.src.xs.length:=Nat.sub_lt (Xm (by omega)) (by omega);rw[QD hi,QE,zT hi];refine(kR (oQ hq.five hp) (oQ hq.five hc)).2 fun j hj=>?_
  rw[Nat.testBit_two_pow_sub_one,QJ];by_cases hjn:j<q.src.xs.length
  ·exact hjn
  ·rw[Q5 (Q6 hc (Q7 (by omega) (by omega)))]at hj
   cases hj
 ·rw[Ql hi,Qm]
theorem LQ.uniq(h:LQ ts q ns ps)(g:LQ ts q ns qs):ps=qs:=by
 have h1:=h.parts _ (Qx _);have h2:=g.parts _ (Qx _);rw[h1,Xl (by rw[h.len]; exact Qx _),Xl (by rw[g.len]; exact Qx _)]at h2;injection h2
theorem LQ.init(h:LQ ts q (ns++[n]) ps):LQ ts q ns (ps.take ns.length):=by
 have e:∀ i,i<ns.length->(ns++[n]).getD i nz=ns.getD i nz:=fun i hi=>by rw[Jg,Qy hi]
 have hl:(ns++[n]).length=ns.length+1:=by simp
 have hS:∀ i,i<ns.length->ed (ns.getD i nz) i:=fun i hi=>by
  have:=h.st i (by omega)
  rwa [e i hi]at this
 have far:∀ i,i<ns.length->fK (ns.getD i nz) (ps.take ns.length)=fK (ns.getD i nz) ps/\fM (ns.getD i nz) (ps.take ns.length)=fM (ns.getD i nz) ps:=fun i hi=>uE (hS i hi) fun j hj=>by
  rw[XH,ZY,Qy (by omega),XH]
 refine⟨by rw[Zm,h.len,hl]; omega,hS,fun i hi=>?_,fun i hi=>?_⟩
 ·have:=h.fit i (by omega);rw[e i hi]at this;rw[(far i hi).1,(far i hi).2];exact this
 ·have:=h.part i (by omega);rw[e i hi]at this;rw[(far i hi).1,(far i hi).2,<- this,XH,ZY,Qy hi,XH]
theorem Dt{a:aQ}(h:TF ts q a)(hl:a.ns.length<=900)(hp:LQ ts q (ay ts q n [a]).ns ps):(ay ts q n [a]).ns.getD ((ay ts q n [a]).ns.length-1) nz=fJ n ((a.ns.length:Int)-1) 0/\ps.getD (fJ n ((a.ns.length:Int)-1) 0).l.toNat pz=a.d:=by
 have h0:=h.pos;have e:(ay ts q n [a]).ns=([]++a.ns.map (bJ ([]:List ai).length))++[fJ n ((a.ns.length:Int)-1) 0]:=by
  show fU [a.ns]++[(⟨n.kind,((fU [a.ns]).length:Int)-1,0,_,_,_,_⟩:ai)]=_
  rw[show (fU [a.ns]).length=a.ns.length by simp[fU]];rfl
 have hlen:([]++a.ns.map (bJ ([]:List ai).length)).length=a.ns.length:=by simp
 obtain⟨qs,hq,hd⟩:=h.ex;have hA:=(LQ.nil ts q).app hq (by simp; omega);rw[e]at hp;have hu:=hp.init.uniq hA;rw[hlen]at hu;refine⟨?_,?_⟩
 ·rw[e];exact Dn _ _ _ (by simp)
 ·show ps.getD ((a.ns.length:Int)-1).toNat pz=a.d
  rw[<- hd,show ((a.ns.length:Int)-1).toNat=a.ns.length-1 by omega];have:(ps.take a.ns.length).getD (a.ns.length-1) pz=ps.getD (a.ns.length-1) pz:=by
   rw[XH,ZY,Qy (by omega),XH]
  rw[<- this,hu];rfl
structure BF(ts:List af)(q:ae)(t:aQ):Prop where
 tf:TF ts q t
 len:t.ns.length<=64
 fin:∀ ps,LQ ts q t.ns ps->(eD (t.ns.getD (t.ns.length-1) nz).kind&&jh q (t.ns.getD (t.ns.length-1) nz).kind (ps.getD (t.ns.getD (t.ns.length-1) nz).l.toNat pz).order)=true
theorem BF.look{ts:List af}{q:ae}{t:aQ}(h:BF ts q t):∃ ds,jS ts q t.ns=some ds/\ds.length=t.ns.length/\ds.getD (ds.length-1) pz=t.d:=h.tf.look h.len h.fin
theorem tO(h1:1<=k)(h2:k<=10):Mf (dI k):=⟨h1,h2,.inr rfl,.inr (.inr rfl),.inr (.inr rfl),.inr rfl⟩
theorem VL(h:7<=k):arity k=1:=by unfold arity; rw[Qz (by omega),Qz (by omega)]
theorem SE(h:7<=k)(h':k<=10):eD k=true:=by unfold eD; rw[QD h,QD h']; rfl
theorem abr(h:TF ts q t)(hl:t.ns.length<=60)(ho:eD t.d.kind=false)(hk:7<=k/\k<=9)(hf:cZ ts q (dI k) t.d pz=true):(jh q k t.d.order=true->BF ts q (ay ts q (dI k) [t]))/\(0<q.ord.xs.length->BF ts q (ay ts q (dI 10) [ay ts q (dI k) [t]])):=by
 have e1:(dI k).kind=k:=rfl;have hT:TF ts q (ay ts q (dI k) [t]):=TF.Sv (tO (by omega) (by omega)) (by rw[e1]; exact VL hk.1) h (by omega) (by rw[ql (by rw[e1]; omega) ho zS,QE]; exact hf);have hlen:(ay ts q (dI k) [t]).ns.length=t.ns.length+1:=by
  rw[XG ts q _ (by simp)];rfl
 refine⟨fun he=>⟨hT,by omega,fun ps hps=>?_⟩,fun si=>?_⟩
 ·obtain⟨g1,g2⟩:=Dt h (by omega) hps;rw[g1,g2]
  show (eD k&&jh q k t.d.order)=true
  rw[SE hk.1 (by omega),he];rfl
 ·have hk2:mE 10 (ay ts q (dI k) [t]).d pz=true:=by
   unfold mE;rw[show (ay ts q (dI k) [t]).d.kind=k from rfl,SE hk.1 (by omega),zS];rfl
  have Cw:TF ts q (ay ts q (dI 10) [ay ts q (dI k) [t]]):=TF.Sv (tO (by decide) (by decide)) (by show arity 10=1; decide) hT (by omega) (by
   rw[show (dI 10).kind=10 from rfl,hk2,QE]
   show (if (10:Int)=1 then _ else if (10:Int)=2 then _ else if (10:Int)=3 then _ else if (10:Int)=4 then _ else if (10:Int)=5 then _ else if (10:Int)=6 then _ else if (10:Int)=7 then _ else if (10:Int)=8 then _ else if (10:Int)=9 then _ else decide (0<q.ord.xs.length))=true
   rw[Qz (by decide),Qz (by decide),Qz (by decide),Qz (by decide),Qz (by decide),Qz (by decide),Qz (by decide),Qz (by decide),Qz (by decide)];exact QD si)
  have ako:(ay ts q (dI 10) [ay ts q (dI k) [t]]).ns.length=t.ns.length+2:=by
   rw[XG ts q _ (by simp)]
   show (ay ts q (dI k) [t]).ns.length+0+1=_
   rw[hlen]
  refine⟨Cw,by omega,fun ps hps=>?_⟩;obtain⟨g1,g2⟩:=Dt hT (by omega) hps;rw[g1,g2]
  show (eD 10&&jh q 10 _)=true
  unfold jh;rw[Qz (by omega),Qy rfl];rfl
theorem Mi(hw:jU q d=true)(hk:(k=9/\q.group=false)∨(k=8/\q.group=true/\aP d.order q.keys.xs=true)∨(k=7/\q.group=true)):cZ ts q (dI k) d pz=true:=by
 unfold cZ;rw[show (dI k).kind=k from rfl];rcases hk with⟨rfl,hg⟩ | ⟨rfl,hg,hs⟩ | ⟨rfl,hg⟩
 ·rw[Qz (by decide),Qz (by decide),Qz (by decide),Qz (by decide),Qz (by decide),Qz (by decide),Qz (by decide),Qz (by decide),Qy rfl,hg,hw];rfl
 ·rw[Qz (by decide),Qz (by decide),Qz (by decide),Qz (by decide),Qz (by decide),Qz (by decide),Qz (by decide),Qy rfl,hg,hw,hs];rfl
 ·rw[Qz (by decide),Qz (by decide),Qz (by decide),Qz (by decide),Qz (by decide),Qz (by decide),Qy rfl,hg,hw];rfl
theorem Mj(h1:d.sources=2 ^ q.src.xs.length-1)(h2:d.clauses=2 ^ q.wh.length-1):jU q d=true:=by
 unfold jU;rw[QD h1,QD h2];rfl
theorem Du(hq:QF ts q)(h:TS ts q t)(hl:t.ns.length<=60)(hs:t.d.sources=2 ^ q.src.xs.length-1):BF ts q (gV ts q t):=by
 have hw:=Mj hs (by rw[h.cls,hs]; exact Dr hq);have hk:(df q t.d.order=9/\q.group=false)∨(df q t.d.order=8/\q.group=true/\aP t.d.order q.keys.xs=true)∨(df q t.d.order=7/\q.group=true):=by
  unfold df;by_cases hg:q.group=false
  ·exact .inl ⟨by rw[Qy hg],hg⟩
  ·have hg':q.group=true:=by simpa using hg
   by_cases hst:aP t.d.order q.keys.xs=true
   ·exact .inr (.inl ⟨by rw[Qz hg,Qy hst],hg',hst⟩)
   ·exact .inr (.inr ⟨by rw[Qz hg,Qz hst],hg'⟩)
 have aur:7<=df q t.d.order/\df q t.d.order<=9:=by rcases hk with h | h | h <;> omega
 obtain⟨b1,b2⟩:=abr h.tf hl h.out aur (Mi hw hk);unfold gV;simp only;split
 ·rename_i he
  exact b1 he
 ·rename_i he
  refine b2 (Nat.pos_of_ne_zero fun h0=>he ?_);unfold jh;rw[Qy h0]
theorem Mk{l:List Int}{w:Int}(h0:0<l.length)(hin:∀ c∈l,0<=c/\c<w)(hap:di l=true):(l.length:Int)<=w:=by
 unfold di at hap;rw[QJ]at hap;have hw:0<=w:=by
  cases l with
  | nil => cases h0
  | cons a l => have:=hin a Xg; omega
 obtain⟨n,rfl⟩:=Xo hw;have hnd:(l.map Int.toNat).Nodup:=by
  rw[List.Nodup,List.pairwise_iff_getElem];intro i j hi hj hij;rw[Zc]at hi hj;rw[List.getElem_map,List.getElem_map];intro e;have a1:=hin _ (Qp hi);have a2:=hin _ (Qp hj);have e2:l[i]=l[j]:=by omega
  refine hap j hj i hij ?_;rw[XH,XH,ZX hi,ZX hj];exact e2.symm
 have hb:∀ k∈l.map Int.toNat,k<n:=fun k hk=>by
  obtain⟨c,hc,rfl⟩:=Zi.1 hk;have:=hin c hc;omega
 have hsum:=xg hb;have hle:∀ m,gF m (fun k=>(l.map Int.toNat).count k)<=m:=fun m=>by
  induction m with
  | zero => exact Qx _
  | succ m ih =>
   rw[gJ];have:=List.nodup_iff_count.1 hnd m;omega
 have:=hle n;rw[hsum,Zc]at this;omega
theorem Iu{src:List Int}(h0:0<o.length)(hin:∀ c∈o,0<=c/\c<aJ ts src)(hap:di o=true)(aje:∀ c∈o,aS s (2 ^ aY ts src c)=true):lM ts src o s=true:=by
 unfold lM;rw[QD h0,QD (Mk h0 hin hap),QE,QE,Qu];intro i hi;have hi':i<o.length:=by simpa using hi
 have hm:o.getD i 0∈o:=by
  rw[XH,ZX hi'];exact Qp hi'
 obtain⟨h1,h2⟩:=hin _ hm;rw[QD h1,QD h2,aje _ hm,Ql]
 ·rfl
 ·intro hx;rw[Gi hi']at hx;obtain⟨j,hj,e⟩:=hx;unfold di at hap;rw[QJ]at hap;exact hap i hi' j hj e.symm
theorem Aw(hq:QF ts q):(∀ c∈aM q,0<=c/\c<aJ ts q.src.xs)/\di (aM q)=true:=by
 unfold aM;split
 ·exact⟨hq.keys,hq.apart⟩
 ·rename_i hg
  split
  ·rename_i ha
   exact⟨hq.want (by simpa using hg),ha⟩
  ·exact⟨fun c hc=>by (cases hc),by decide⟩
theorem zU(hq:QF ts q){c:Int}(h:0<=c/\c<aJ ts q.src.xs):aY ts q.src.xs c<q.src.xs.length:=(nJ hq.ok.cat hq.ok.src h.1 h.2).1
theorem Ri(hq:QF ts q)(h:TS ts q t)(hl:t.ns.length<=50)(hs:t.d.sources=2 ^ q.src.xs.length-1):∀ x∈eT ts q t,BF ts q x:=by
 intro x hx;unfold eT at hx;split at hx
 ·rename_i h0
  rcases Q4.1 hx with rfl | hx
  ·exact Du hq h (by omega) hs
  ·rw[ZR]at hx;rw[hx];have ho:=Aw hq;have hp:2 ^ q.src.xs.length-1<2 ^ q.src.xs.length:=Nat.sub_lt (Xm (by omega)) (by omega);have hS:lM ts q.src.xs (aM q) t.d.sources=true:=Iu h0 ho.1 ho.2 fun c hc=>by
    have hlt:=zU hq (ho.1 c hc);rw[hs];refine(kR (oQ hq.five hp) (oQ hq.five (Xi (by omega) hlt))).2 fun j hj=>?_
    rw[Nat.testBit_two_pow]at hj;rw[Nat.testBit_two_pow_sub_one];simp only[QJ]at hj ⊢;omega
   have h2:=F7 h (by omega) hS;exact Du hq h2 (by rw[oH]; omega) (by rw[mI]; exact hs)
 ·rw[ZR]at hx;rw[hx];exact Du hq h (by omega) hs
