import Derived.Test.YtgemohlbjehmbaaGreatDoorF41
set_option linter.all false
set_option maxRecDepth 100000
set_option maxHeartbeats 16000000
namespace Go.Proofs.Zz
open Go.RowKit Go.Shelf
variable {ts:List af} {q:ae} {g:List aj} {A S room s:Nat} {c x:Int} {O hv o ow us:List Int} {t u:aQ} {n:ah} {l:bK} {rk:Nat->Int} {σ τ:eF} {conc:List Nat} {ps:List bK} {ns:List ah}
theorem aaI{c z k:Nat}(hg:sJ q s g)(pg:Pcs g c z)(hs:Sor ts q g)(h:CvP g O k)(ho:o∈(g.map Prod.fst).drop 1):CvP g o (dL 6 (iD ts q s c) k z 0 0):=by
 obtain⟨r,i,j,t,a,b,u,e⟩:=h.head hg;have l:=(hg.all i a j b).2.1;have m:=pg.cl i a j b;rw[u]at l m;have n:(bD ts q r o).d.cost=dL 6 (iD ts q s c) r.d.cost z 0 0:=by show dL 6 (iD ts q (0|||r.d.sources|||0) (0|||r.d.clauses|||0)) r.d.cost r.d.size 0 0=_;simp_all
 intro p w f;obtain⟨y,v,hy⟩:=hs r t o ho p w f;rw[n]at hy;exact⟨y,v,Q6 hy (lU _ _ _ _ e (Qn _))⟩
theorem Cw(a b:Nat):fZ a b<=dA:=by grind [fZ]
theorem Gi{a:Nat}(b:Nat)(h:a<=dA):a<=fZ a b:=by grind [fZ]
theorem A9(ts:List af)(q:ae){k:Int}(hk:k=7∨k=8∨k=9∨k=10)(t:aQ):(ay ts q (dU k) [t]).d.size=t.d.size/\(ay ts q (dU k) [t]).d.cost=dL k t.d.size t.d.cost t.d.size 0 0:=by
 have b:dW k=true:=by grind [dW]
 have a:(ay ts q (dU k) [t]).d.size=t.d.size:=by show (if dW k=true then t.d.size else _)=_;simp_all
 refine⟨a,?_⟩;show dL k (ay ts q (dU k) [t]).d.size t.d.cost t.d.size 0 0=_;rw[a]
theorem O9(ts:List af)(q:ae)(t:aQ):(fG ts q t).d.cost<=aad q t.d.size t.d.cost:=by
 have g:bg q t.d.order=7∨bg q t.d.order=8∨bg q t.d.order=9∨bg q t.d.order=10:=by unfold bg;omega
 have f:dL (bg q t.d.order) t.d.size t.d.cost t.d.size 0 0<=dL (if q.group then 7 else 9) t.d.size t.d.cost t.d.size 0 0/\dL (if q.group then 7 else 9) t.d.size t.d.cost t.d.size 0 0<=dA:=by
  unfold bg
  cases q.group with
  | false => exact⟨Qn _,by show jk [_,_]<=_; rw[Me]; exact Cw _ _⟩
  | true =>
   have i:dL 7 t.d.size t.d.cost t.d.size 0 0=fZ (fZ t.d.cost t.d.size) t.d.size:=by show jk [_,_,_]=_;rw[ahT]
   simp only[Bool.true_eq_false,if_false,if_true];rw[i];refine⟨?_,Cw _ _⟩;split
   ·show jk [_,_]<=_
    rw[Me];exact Gi _ (Cw _ _)
   omega
 obtain⟨m,n⟩:=A9 ts q g t;have j:∀ {a b:Nat},a<=b->b<=dA->a<=dL 10 t.d.size b t.d.size 0 0:=λ{a b} h hb=>by refine Q6 h ?_;show b<=jk [_,_];rw[Me];exact Gi _ hb
 unfold fG aad;simp only;split
 ·grind
 ·rename_i he
  have l:¬ q.ord.xs=[]:=λe=>he (by unfold gL; rw[e]; rfl);obtain⟨_,o⟩:=A9 ts q (k:=10) (by simp) (ay ts q (dU (bg q t.d.order)) [t]);rw[Qu l,o,m,n];exact lU _ _ _ _ f.1 (Qn _)
theorem JA(ts:List af)(q:ae)(t:aQ):fG ts q t∈df ts q t:=by grind [df]
theorem aey(q:ae)(O:List Int):bg q O=7∨bg q O=8∨bg q O=9∨bg q O=10:=by unfold bg;omega
theorem ze(ts:List af)(q:ae)(t:aQ):(fG ts q t).d.cost=if gL q (bg q t.d.order) t.d.order=true then dL (bg q t.d.order) t.d.size t.d.cost t.d.size 0 0 else dL 10 t.d.size (dL (bg q t.d.order) t.d.size t.d.cost t.d.size 0 0) t.d.size 0 0:=by
 obtain⟨b,a⟩:=A9 ts q (aey q t.d.order) t;unfold fG;simp only;split
 ·exact a
 ·rw[(A9 ts q (k:=10) (by simp) _).2,b,a]
theorem aez(ts:List af)(ha:cK t.d.order=true):(fG ts q t).d.cost=aad q t.d.size t.d.cost∨au t.d.order (aG q)=true/\∀ O,au O (aG q)=true->bg q O=bg q t.d.order/\gL q (bg q O) O=gL q (bg q t.d.order) t.d.order:=by
 rw[ze];unfold aad bg aG gL
 cases hg:q.group with
 | true =>
  simp only[if_true,Bool.true_eq_false,if_false];by_cases f:au t.d.order q.keys.xs=true
  ·simp_all
  simp_all
 | false =>
  simp only[if_true,Bool.false_eq_true,if_false];by_cases c:q.ord.xs=[]
  ·simp_all
  ·have b:¬ q.ord.xs.length=0:=by simp_all
   simp only[Qu c,Qu b,show ¬ (9:Int)=10 by decide,if_false];by_cases a:au t.d.order (jw q)=true
   ·refine .inr ?_;have e:cK (jw q)=true:=by have a:=a;unfold au at a;rw[Qj,Qs,Qs]at a;unfold cK at ha ⊢;grind
    simp_all
   simp_all
theorem Gj(ts:List af)(ha:cK t.d.order=true)(hz:u.d.size=t.d.size)(hc:u.d.cost<=t.d.cost)(ho:au t.d.order (aG q)=true->au u.d.order (aG q)=true):(fG ts q u).d.cost<=(fG ts q t).d.cost:=by
 rcases aez ts (q:=q) ha with e | ⟨a,b⟩
 ·rw[e];have:=O9 ts q u;rw[hz]at this;exact Q6 this (aao q _ hc)
 ·obtain⟨f,k2⟩:=b _ (ho a);rw[ze,ze,k2,f,hz];split
  ·exact lU _ _ _ _ hc (Qn _)
  ·exact lU _ _ _ _ (lU _ _ _ _ hc (Qn _)) (Qn _)
theorem zf(hq:QF ts q)(ha:cK t.d.order=true)(hs:u.d.sources=t.d.sources)(hl:u.d.clauses=t.d.clauses)(hz:u.d.size=t.d.size)(hc:u.d.cost<=t.d.cost)(ho:au t.d.order (aG q)=true->au u.d.order (aG q)=true){b:Nat}(h:∀ e∈df ts q u,b<=e.d.cost):∀ e∈df ts q t,b<=e.d.cost:=λe a=>by
 have g:=Q6 (h _ (JA ts q u)) (Gj ts ha hz hc ho);unfold df at h a;split at a
 ·rename_i h0
  rw[Qo h0]at h;rcases Zq.1 a with rfl | a
  ·exact g
  ·rw[Zy]at a;subst a;have f:(bD ts q u (aG q)).d.size=(bD ts q t (aG q)).d.size:=by show iD ts q (0|||u.d.sources|||0) (0|||u.d.clauses|||0)=iD ts q (0|||t.d.sources|||0) (0|||t.d.clauses|||0);rw[hs,hl]
   refine Q6 (h _ (ZI _ (Zy.2 rfl))) (Gj ts (vO hq).2 f ?_ id);show dL 6 (bD ts q u (aG q)).d.size u.d.cost u.d.size 0 0<=dL 6 (bD ts q t (aG q)).d.size t.d.cost t.d.size 0 0;rw[f,hz];exact lU _ _ _ _ hc (Qn _)
 simp_all
theorem zg{r:bK}(h:dW (bV ts q n l r).kind=false):(bV ts q n l r).size=iD ts q (bV ts q n l r).sources (bV ts q n l r).clauses:=by have h:dW n.kind=false:=h;show (if dW n.kind=true then l.size else _)=_;rw[h,Qu Bool.false_ne_true];rfl
theorem TS.size(h:TS ts q t):t.d.size=iD ts q t.d.sources t.d.clauses:=by obtain⟨ps,e,f⟩:=h.tf.ex;have a:=h.out;have b:=e.part (t.ns.length-1) (by have:=h.tf.pos; omega);rw[f]at b;rw[b]at a ⊢;exact zg a
structure Ur(ts:List af)(q:ae)(room:Nat)(σ:eF):Prop where
 tg:∀ s,s<σ.groups.length->Tg (σ.groups.getD s [])
 fst:∀ s,s<σ.groups.length->(σ.groups.getD s []).map Prod.fst=(bH ts q s).take room
theorem Pb(ts:List af)(q:ae)(g:List aj)(l:List aQ):(aK ts q g l).2.map Prod.fst=g.map Prod.fst:=by
 unfold aK;split
 ·rw[qL]; exact pY g l
 grind [pY]
theorem Pd{l:List aQ}(h:Ur ts q room σ):Ur ts q room (cO rk ts q s l σ):=by
 have key:∀ k,k<σ.groups.length->(cO rk ts q s l σ).groups.getD k []=σ.groups.getD k []∨(cO rk ts q s l σ).groups.getD k []=(aK ts q (σ.groups.getD k []) l).2:=λk a=>by
  by_cases e:k=s
  ·subst e;unfold cO
   grind
  ·exact .inl (mD e)
 refine⟨λk a=>?_,λk a=>?_⟩
 ·rw[wX]at a;rcases key k a with e | e <;> rw[e]
  ·exact h.tg k a
  ·exact(h.tg k a).pq l
 ·rw[wX]at a;rcases key k a with e | e <;> rw[e]
  ·exact h.fst k a
  ·rw[Pb]; exact h.fst k a
theorem aeA(h:Ur ts q room σ)(pick:Int):Ur ts q room (fu rk ts q conc pick σ):=by
 have a:∀ τ:eF,Ur ts q room τ->Ur ts q room (iA τ):=λτ b=>by
  unfold iA;split
  ·exact b
  ·exact⟨b.tg,b.fst⟩
 unfold fu qM;refine a _ ?_;split
 ·exact Pd ⟨h.tg,h.fst⟩
 ·exact Pd ⟨h.tg,h.fst⟩
theorem Ls{rk:Nat->Int}{ts:List af}{q:ae}{conc:List Nat}{room:Nat}(picks:List Int){σ:eF}(h:Ur ts q room σ):∀ m,Ur ts q room (runN rk ts q conc picks m 0 σ)
 | 0 => h
 | m+1 => by
  have ih:=Ls (rk:=rk) (conc:=conc) picks h m;rw[iT];split
  ·grind [aeA]
  ·exact ih
theorem Gl(rk:Nat->Int)(ts:List af)(q:ae)(room:Nat):Ur ts q room (bP rk ts q room):=by
 have e:∀ s,s<(bP rk ts q room).groups.length->(bP rk ts q room).groups.getD s []=dE ((bH ts q s).take room):=λs a=>by have a:s<((List.range (2 ^ q.src.xs.length-1)).map λs=>dE ((bH ts q s).take room)).length:=a;rw[QQ,QR]at a;show (((List.range (2 ^ q.src.xs.length-1)).map λs=>dE ((bH ts q s).take room)).getD s [])=_;simp_all
 refine⟨λs a=>?_,λs a=>?_⟩
 ·rw[e s a]; exact Tg.new _
 ·rw[e s a];unfold dE;rw[Xu];exact List.map_id' _
theorem SF.pcs(h:SF ts q σ)(g:Ur ts q room σ)(hs:s<σ.groups.length):Pcs (σ.groups.getD s []) (aY (aW ts q) s) (iD ts q s (aY (aW ts q) s)):=by refine⟨g.tg s hs,λp a x e=>?_⟩;have a:=(h.jd s hs).all p a x e;have b:=a.ts'.cls;have d:=a.ts'.size;rw[a.src]at b d;simp_all
theorem Ur.place(g:Ur ts q room σ)(hs:s<σ.groups.length)(hr:(bH ts q s).length<=room):(∃ p∈σ.groups.getD s [],p.1=o)↔o∈bH ts q s:=by have e:=g.fst s hs;rw[ZT hr]at e;grind
structure ig(ts:List af)(q:ae)(room:Nat)(σ:eF):Prop where
 qf:QF ts q
 core:mM q σ
 fin:Fin ts q (aW ts q) σ
 sf:SF ts q σ
 gi:Ur ts q room σ
 room:∀ s,s<σ.groups.length->(bH ts q s).length<=room
structure Oc(ts:List af)(q:ae)(S:Nat)(O:List Int):Prop where
 apart:cK O=true
 cov:∀ c∈O,(0<=c/\c<az ts q.src.xs)/\aU S (2 ^ aA ts q.src.xs c)=true
structure JB(ts:List af)(q:ae)(σ:eF)(p:bK):Prop where
 cls:p.clauses=aY (aW ts q) p.sources
 size:p.size=iD ts q p.sources p.clauses
 ord:Oc ts q p.sources p.order
 low:if p.sources=2 ^ q.src.xs.length-1 then ∀ e∈df ts q ⟨p,[]⟩,σ.bq.d.cost<=e.d.cost else CvP (σ.groups.getD p.sources []) p.order p.cost
theorem Oc.nil(ts:List af)(q:ae)(S:Nat):Oc ts q S []:=⟨rfl,λ_ h=>by cases h⟩
theorem Oc.one(h:(0<=c/\c<az ts q.src.xs)/\aU S (2 ^ aA ts q.src.xs c)=true):Oc ts q S [c]:=⟨by rfl,λd hd=>by simp_all⟩
theorem lV(hq:QF ts q)(hS:S<2 ^ q.src.xs.length)(hc:0<=c/\c<az ts q.src.xs):aU S (2 ^ aA ts q.src.xs c)=S.testBit (aA ts q.src.xs c):=by rw[QX,kU (lJ hq.five hS) (lJ hq.five (ZN (by omega) (sF hq hc)))];grind
theorem l6(hq:QF ts q)(hS:S<2 ^ q.src.xs.length)(ho:∀ c∈o,0<=c/\c<az ts q.src.xs):aU S (aB (fC ts q o))=true↔∀ c∈o,S.testBit (aA ts q.src.xs c)=true:=by
 have a:∀ x∈fC ts q o,0<=x/\x<(q.src.xs.length:Int):=λx f=>by obtain⟨d,hd,rfl⟩:=QZ.1 f;have:=sF hq (ho d hd);omega
 refine⟨λh c b=>lV hq hS (ho c b) ▸ rG hq hS ho h c b,λh=>?_⟩;rw[kU (lJ hq.five hS) (lJ hq.five (nD a))];intro i g;rw[QE (λx f=>(a x f).1),Qs]at g;obtain⟨c,b,e⟩:=QZ.1 g;rw[show i=aA ts q.src.xs c by omega];exact h c b
theorem Oc.up(hq:QF ts q)(hA:A<2 ^ q.src.xs.length)(hS:S<2 ^ q.src.xs.length)(hab:∀ i,A.testBit i=true->S.testBit i=true)(h:Oc ts q A O):Oc ts q S O:=⟨h.apart,λc d=>by
 obtain⟨a,b⟩:=h.cov c d;rw[lV hq hA a]at b;exact⟨a,by rw[lV hq hS a]; simp_all⟩⟩
theorem zh(h:au O o=true):∀ c∈o,c∈O:=λc a=>by unfold au at h;grind
theorem ig.pw(h:ig ts q room σ)(hA:A<σ.groups.length):A<2 ^ q.src.xs.length:=by rw[h.core.kT]at hA;omega
theorem ig.last(h:ig ts q room σ)(hA:A<σ.groups.length)(ho:Oc ts q A O)(hs:au O (aG q)=true):aG q∈bH ts q A:=
 nC.2 (.inr (.inl ⟨rfl,(l6 h.qf (h.pw hA) λc a=>(ho.cov c (zh hs c a)).1).2 λc a=>by
  obtain⟨b,d⟩:=ho.cov c (zh hs c a);rw[<- lV h.qf (h.pw hA) b];exact d⟩))
theorem ig.down(h:ig ts q room σ)(hA:A<σ.groups.length)(hS:S<2 ^ q.src.xs.length)(hab:∀ i,A.testBit i=true->S.testBit i=true)(ho:Oc ts q A O)(hs:au O o=true)(hu:o∈bH ts q S):o∈bH ts q A:=by
 have a:=h.pw hA;rw[nC]at hu;rcases hu with e | ⟨e,_⟩ | ⟨c,j,g,e,k,l,m,r⟩
 ·exact nC.2 (.inl e)
 ·grind [ig.last]
 ·obtain⟨s,t⟩:=aeo h.qf j k;have b:∀ d∈[(bG c.cs).1,(bG c.cs).2.1],0<=d/\d<az ts q.src.xs:=λd hd=>by grind
  obtain⟨n,p⟩:=ho.cov g (zh hs g (by rw[e]; simp));refine nC.2 (.inr (.inr ⟨c,j,g,e,k,Bool.eq_false_iff.2 λf=>?_,m,(l6 h.qf a λd hd=>by simp_all).2 λd hd=>by simp at hd; rw[hd,<- lV h.qf a n]; exact p⟩));rw[(l6 h.qf hS b).2 λd hd=>hab _ ((l6 h.qf a b).1 f d hd)]at l;cases l
theorem ig.key{ts:List af}{q:ae}{room:Nat}{σ:eF}(h:ig ts q room σ){A B:Nat}(hA:A<σ.groups.length)(hB:B<σ.groups.length)(hap:A &&& B=0){cl:List Int}{key x y:Int}(hk:fP ts q (bO 4 cl key) A B=(x,y,true)):(Oc ts q A [x]/\[x]∈bH ts q A)/\Oc ts q B [y]/\[y]∈bH ts q B:=by
 unfold fP at hk;split at hk
 ·rename_i hin
  have i:key.toNat<q.wh.length:=by have:0<=key/\key<q.wh.length:=hin.2;omega
  have b:q.wh.getD key.toNat lz∈q.wh:=by simp_all
  have hk:xz ts q.src.xs (q.wh.getD key.toNat lz).cs A B=(x,y,true):=hk;generalize q.wh.getD key.toNat lz=c at *;unfold xz at hk;split at hk
  ·cases hk
  rename_i hn;have a:bG c.cs=((c.cs.getD 0 cz).left,(c.cs.getD 0 cz).right,true):=by unfold bG; simp_all
  have e:=aeo h.qf b (by rw[a]);rw[a]at e;obtain⟨m,n⟩:=e;simp only at m n;clear hn;generalize (c.cs.getD 0 cz).left=L at *;generalize (c.cs.getD 0 cz).right=R at *;have j:∀ {A B:Nat} {x y:Int},A<σ.groups.length->B<σ.groups.length->A &&& B=0->(x=L/\y=R∨x=R/\y=L)->aU A (2 ^ aA ts q.src.xs x)=true->aU B (2 ^ aA ts q.src.xs y)=true->Oc ts q A [x]/\[x]∈bH ts q A:=λ{A B x y} hA hB hap hxy hx hy=>by
   have g:0<=x/\x<az ts q.src.xs:=by omega
   have k:0<=y/\y<az ts q.src.xs:=by omega
   refine⟨.one ⟨g,hx⟩,nC.2 (.inr (.inr ⟨c,b,x,rfl,by rw[a],Bool.eq_false_iff.2 λf=>?_,by grind,(l6 h.qf (h.pw hA) λd hd=>by simp_all).2 λd hd=>by simp at hd; rw[hd,<- lV h.qf (h.pw hA) g]; exact hx⟩))⟩;rw[a,l6 h.qf (h.pw hA) λd hd=>by grind]at f;rw[lV h.qf (h.pw hB) k]at hy;have o:=f y (by grind);have:=congrArg (λz=>z.testBit (aA ts q.src.xs y)) hap;grind
  have l:B &&& A=0:=by grind
  split at hk
  ·grind
  ·split at hk
   ·grind
   ·cases hk
 ·cases hk
theorem ig.cl(h:ig ts q room σ){B:Nat}(hA:A<σ.groups.length)(hB:B<σ.groups.length):aB (cZ (aR (aW ts q) A B))|||aY (aW ts q) A|||aY (aW ts q) B=aY (aW ts q) (A|||B):=by
 have h5:∀ {k:Nat},k<σ.groups.length->k<2 ^ 5:=λ{k} hk=>by rw[h.core.kT]at hk;exact QH (show k<2 ^ q.src.xs.length by omega) (QI (by omega) h.qf.five)
 have e:=FU (conc:=aW ts q) (a:=A) (b:=B) (by rw[XY]; exact h.qf.eight) (h5 hA) (h5 hB) (λi hi=>by
  rw[XY]at hi;rw[sw hi];exact QH (FT h.qf hi) (QI (by omega) h.qf.five))
 have hb:aR (aW ts q) A B<2 ^ 64:=by refine Nat.lt_of_le_of_lt ?_ (sD ts q h.qf.eight (A|||B));grind [Nat.left_le_or]
 grind [ng]
theorem ig.join{ts:List af}{q:ae}{room:Nat}{σ:eF}(h:ig ts q room σ){l r:bK}(hl:JB ts q σ l)(hr:JB ts q σ r)(la:l.sources<σ.groups.length)(ra:r.sources<σ.groups.length)(r0:r.sources≠0)(hap:l.sources &&& r.sources=0){n:ah}(hcl:aB n.cl.xs=aB (cZ (aR (aW ts q) l.sources r.sources)))
  (hk:n.kind=3/\n.key=0∨n.key∈cZ (aR (aW ts q) l.sources r.sources)/\∃ x y,fP ts q (bO 4 (cZ (aR (aW ts q) l.sources r.sources)) n.key) l.sources r.sources=(x,y,true)/\(n.kind=4∨n.kind=5/\au l.order [x]=true/\au r.order [y]=true)):JB ts q σ (bV ts q n l r):=by
 have s:n.kind=3∨n.kind=4∨n.kind=5:=by omega
 have j:(bV ts q n l r).sources=l.sources|||r.sources:=by show (if n.kind=1 then _ else 0)|||l.sources|||r.sources=_;grind
 have B:(bV ts q n l r).clauses=aY (aW ts q) (l.sources|||r.sources):=by show aB n.cl.xs|||l.clauses|||r.clauses=_;rw[hcl,hl.cls,hr.cls,h.cl la ra]
 have C:=zg (ts:=ts) (q:=q) (n:=n) (l:=l) (r:=r) (by rcases s with e | e | e <;> (show dW n.kind=false; rw[e]; decide));have u:(bV ts q n l r).order=l.order:=by show (if n.kind=6 then _ else if 2<=n.kind/\n.kind<=5 then l.order else [])=_;grind
 have L:(bV ts q n l r).cost=dL n.kind (bV ts q n l r).size l.cost l.size r.cost r.size:=rfl;have M:¬ l.sources=2 ^ q.src.xs.length-1:=by rw[h.core.kT]at la; omega
 have N:¬ r.sources=2 ^ q.src.xs.length-1:=by rw[h.core.kT]at ra; omega
 have v:=hl.low;have w:=hr.low;rw[Qu M]at v;rw[Qu N]at w;have D:=h.core.jd _ la;have gr:=h.core.jd _ ra;obtain⟨T,_,_,O,_⟩:=v.head D;obtain⟨U,_,_,P,_⟩:=w.head gr;have E:=h.fin.join l.sources r.sources la ra r0 hap (by rw[O]; rfl) (by rw[P]; rfl);have F:=hl.size;have G:=hr.size;rw[hl.cls]at F;rw[hr.cls]at G;have H:l.sources|||r.sources<2 ^ q.src.xs.length:=pW (h.pw la) (h.pw ra);have k:∀ i,l.sources.testBit i=true->(l.sources|||r.sources).testBit i=true:=λi R=>by simp_all
 have I:∀ {o:List Int},o∈bH ts q l.sources->au l.order o=true->∃ t∈fK ts q (aW ts q) (σ.groups.getD l.sources []) (σ.groups.getD r.sources []),au t.d.order o=true/\t.d.sources=(bV ts q n l r).sources/\t.d.clauses=(bV ts q n l r).clauses/\t.d.size=(bV ts q n l r).size/\t.d.cost<=(bV ts q n l r).cost:=λ{o} z b=>by rw[L,C,j,B,F,G];refine aaH D gr (h.sf.pcs h.gi la) (h.sf.pcs h.gi ra) v w ((h.gi.place la (h.room _ la)).2 z) b (key:=n.key) ?_ (h.cl la ra).symm;refine hk.imp id ?_;rintro⟨Q,x,y,k2,k3⟩;obtain⟨⟨_,u1⟩,_,u2⟩:=h.key la ra hap k2;exact⟨Q,x,y,k2,k3.imp id λ⟨e,f,g⟩=>⟨e,f,g,(h.gi.place la (h.room _ la)).2 u1,(h.gi.place ra (h.room _ ra)).2 u2⟩⟩
 refine⟨by rw[B,j],C,by rw[u,j]; exact hl.ord.up h.qf (h.pw la) H k,?_⟩;split
 ·rename_i ef
  rw[j]at ef;obtain⟨o,z,b,R⟩:∃ o,o∈bH ts q l.sources/\au l.order o=true/\(au l.order (aG q)=true->o=aG q):=by
   by_cases c:au l.order (aG q)=true
   ·exact⟨_,h.last la hl.ord c,c,λ_=>rfl⟩
   ·exact⟨[],nC.2 (.inl rfl),yt _,λe=>absurd e c⟩
  obtain⟨t,A,J,S,t3,t4,t5⟩:=I z b;have a:=E t A;unfold PM at a;rw[Qo ef]at a;exact zf h.qf (t:=⟨bV ts q n l r,[]⟩) (by rw[show (aQ.mk (bV ts q n l r) []).d.order=l.order from u]; exact hl.ord.apart) S t3 t4 t5 (λe=>by
   grind) a
 ·rename_i ef
  rw[j]at ef ⊢;intro p K b;rw[u]at b;have m:l.sources|||r.sources<σ.groups.length:=by grind
  obtain⟨t,A,J,_,_,_,t5⟩:=I (h.down la H k hl.ord b ((h.gi.place m (h.room _ m)).1 ⟨p,K,rfl⟩)) b;have a:=E t A;unfold PM at a;rw[Qu ef]at a;obtain⟨x,ex,V⟩:=a p K J;grind
theorem ig.sort(h:ig ts q room σ)(hl:JB ts q σ l)(la:l.sources<σ.groups.length)(h0:o≠[])(hu:o∈bH ts q l.sources)(hc:Oc ts q l.sources o)(hk:n.kind=6)(hco:n.co.xs=o)(hcl:n.cl.xs=[]):JB ts q σ (bV ts q n l pz)/\(bV ts q n l pz).sources=l.sources/\(bV ts q n l pz).order=o:=by
 have a:(bV ts q n l pz).sources=l.sources:=by show (if n.kind=1 then _ else 0)|||l.sources|||0=_;simp_all
 have b:(bV ts q n l pz).clauses=l.clauses:=by show aB n.cl.xs|||l.clauses|||0=_;rw[hcl,Nat.or_zero];exact Nat.zero_or _
 have d:=zg (ts:=ts) (q:=q) (n:=n) (l:=l) (r:=pz) (by show dW n.kind=false; rw[hk]; decide);have f:(bV ts q n l pz).order=o:=by show (if n.kind=6 then n.co.xs else _)=_;simp_all
 have k:(bV ts q n l pz).cost=dL 6 (bV ts q n l pz).size l.cost l.size 0 0:=by rw[<- hk]; rfl
 have g:¬ l.sources=2 ^ q.src.xs.length-1:=by rw[h.core.kT]at la; omega
 have i:=hl.low;rw[Qu g]at i;have j:=hl.size;rw[hl.cls]at j;refine⟨⟨by rw[b,a]; exact hl.cls,d,by simp_all,?_⟩,a,f⟩;rw[k,d,b,a,f,Qu g,j,hl.cls];refine aaI (h.core.jd _ la) (h.sf.pcs h.gi la) (h.fin.sor _ la) i ?_;obtain⟨p,m,e⟩:=(h.gi.place la (h.room _ la)).2 hu;obtain⟨s,r,t,_⟩:=(h.core.jd _ la).head;grind
theorem ig.scan{ts:List af}{q:ae}{room:Nat}{σ:eF}(h:ig ts q room σ){i:Nat}(hi:i<q.src.xs.length):JB ts q σ (bQ ts q (aW ts q) i).d:=by
 obtain⟨g,b,_⟩:=yT h.qf (s:=(i:Int)) (by omega) (by omega);have b:(bQ ts q (aW ts q) i).d.sources=2 ^ i:=b;have j:(bQ ts q (aW ts q) i).d.order=[]:=by unfold bQ bY;simp only;split <;> rfl
 have a:=h.fin.scan i hi;unfold PM at a;have f:Oc ts q (bQ ts q (aW ts q) i).d.sources (bQ ts q (aW ts q) i).d.order:=by rw[j]; exact Oc.nil ..
 refine⟨g.cls,g.size,f,?_⟩;rw[b];split
 ·rename_i e
  rw[Qo e]at a;exact zf h.qf (t:=⟨(bQ ts q (aW ts q) i).d,[]⟩) (u:=bQ ts q (aW ts q) i) f.apart rfl rfl rfl (Qn _) id a
 ·rename_i e
  rw[Qu e]at a;exact a
theorem aaJ{pick:Int}(h1:σ.status=1):(fu rk ts q conc pick σ).cut=σ.cut/\((fu rk ts q conc pick σ).status=1∨(fu rk ts q conc pick σ).status=if σ.cut=true then 3 else 2):=by
 have hd:∀ (t:aO) (τ:eF),(qM rk ts q conc t τ).status=τ.status/\(qM rk ts q conc t τ).cut=τ.cut:=λt τ=>by unfold qM cO;grind
 unfold fu;simp only;have e:=hd (σ.ak.getD (dP σ.ak.length pick).toNat (0,0)) { σ with picks:=σ.picks++[dP σ.ak.length pick],ak:=σ.ak.eraseIdx (dP σ.ak.length pick).toNat };generalize qM rk ts q conc (σ.ak.getD (dP σ.ak.length pick).toNat (0,0)) { σ with picks:=σ.picks++[dP σ.ak.length pick],ak:=σ.ak.eraseIdx (dP σ.ak.length pick).toNat } = τ at *;obtain⟨b,a⟩:=e;have a:τ.cut=σ.cut:=a;unfold iA;grind
theorem Gm{rk:Nat->Int}{ts:List af}{q:ae}{conc:List Nat}(picks:List Int){σ:eF}(h:σ.status=1):∀ m,(runN rk ts q conc picks m 0 σ).cut=σ.cut/\((runN rk ts q conc picks m 0 σ).status=1∨(runN rk ts q conc picks m 0 σ).status=if σ.cut=true then 3 else 2)
 | 0 => ⟨rfl,.inl h⟩
 | m+1 => by
  have ih:=Gm (rk:=rk) (ts:=ts) (q:=q) (conc:=conc) picks h m;rw[iT];split
  ·rename_i h1
   have:=aaJ (rk:=rk) (ts:=ts) (q:=q) (conc:=conc) (pick:=jU picks (0+m)) h1;simp_all
  ·exact ih
theorem Gn(hq:QF ts q)(hok:uu q (bP rk ts q room))(picks:List Int)(m:Nat)(hst:(runN rk ts q (aW ts q) picks m 0 (bP rk ts q room)).status=2):ig ts q room (runN rk ts q (aW ts q) picks m 0 (bP rk ts q room)):=by
 have a:=XY ts q;have b:=mr (rk:=rk) (ts:=ts) a hq.five picks hok m;have hcut:(bP rk ts q room).cut=false:=by have:=(Gm (rk:=rk) (ts:=ts) (q:=q) (conc:=aW ts q) picks (σ:=bP rk ts q room) rfl m).2;simp_all
 refine⟨hq,b.1.core,(O6 a hq.five picks hok (aaF ..) m).fin (Gf picks rfl m (by omega)),Lg hq picks hok (F3 hq rk room) m,Ls picks (Gl ..) m,λs d=>?_⟩;rw[b.1.core.kT]at d;have hcut:((List.range (2 ^ q.src.xs.length-1)).any λs=>decide (room<(bH ts q s).length))=false:=hcut;simp_all
theorem aaK(h8:q.wh.length<=8)(i l:Nat)(how:aB ow=aY (aW ts q) (2 ^ i)) :
  (ow=[]->bV ts q (nd 1 0 0 i [] 0 []) pz pz=(bQ ts q (aW ts q) i).d)/\(aB ow≠0->bV ts q (nd 2 l 0 0 ow 0 []) (bV ts q (nd 1 0 0 i [] 0 []) pz pz) pz=(bQ ts q (aW ts q) i).d):=by
 have a:(ay ts q (iV (i:Int)) []).d.sources=2 ^ i:=by rw[sS]; rfl
 have b:bV ts q (nd 1 0 0 i [] 0 []) pz pz=(ay ts q (iV (i:Int)) []).d:=rfl;refine⟨λe=>?_,λe=>?_⟩
 ·subst e;have g:aY (aW ts q) (2 ^ i)=0:=by grind [aB]
  unfold bQ bY;simp_all
 ·rw[b];unfold bQ bY;simp only;rw[a,<- how,Qu e];have f:aB (cZ (aB ow))=aB ow:=ng (by grind [sD])
  show bV ts q (nd 2 l 0 0 ow 0 []) (ay ts q (iV (i:Int)) []).d pz=bV ts q (zt (cZ (aB ow))) (ay ts q (iV (i:Int)) []).d pz;unfold bV;rw[show (nd 2 l 0 0 ow 0 []).cl.xs=ow from rfl,show (zt (cZ (aB ow))).cl.xs=cZ (aB ow) from rfl,f];rfl
theorem Lt{cs:List aI}(h:0<cs.length):∃ c,c∈aZ cs:=by
 match cs,h with
 | c::_,_ =>
  refine⟨c.left,?_⟩;unfold aZ;rw[ZF,ZK];refine .inl ?_;unfold aJ;grind
theorem ug(ok:Ok ts q){S:List Int}(hS:bu q.src.xs.length S)(i:Nat):(aY (aW ts q) (aB S)).testBit i=(decide (i<q.wh.length)&&bX ts q.src.xs (q.wh.getD i lz).cs S):=by
 rw[nX,XY];by_cases a:i<q.wh.length
 ·rw[sw a,qW ok.cat ok.src ok.small (ok.aX i a) hS]
 grind
theorem JC(S U:List Int)(i:Nat):(aB (gU ts q S U)).testBit i=(decide (i<q.wh.length)&&bX ts q.src.xs (q.wh.getD i lz).cs S && !decide ((i:Int)∈U)):=by rw[QE λx a=>(XZ.1 a).1.1,QX,Qs,XZ];grind
theorem Gp(ok:Ok ts q)(hs:s<q.src.xs.length)(hn:(s:Int) ∉ hv)(hu:∀ i:Nat,i<q.wh.length->(i:Int)∈us->bX ts q.src.xs (q.wh.getD i lz).cs hv=true):aB (gU ts q [(s:Int)] us)=aY (aW ts q) (aB [(s:Int)]):=by
 apply QJ;intro i;rw[JC,ug ok λx f=>by simp_all];by_cases a:i<q.wh.length
 ·cases hw:bX ts q.src.xs (q.wh.getD i lz).cs [(s:Int)] with
  | false => simp
  | true =>
   have:(i:Int) ∉ us:=λe=>by have b:=hu i a e;obtain⟨c,d⟩:=Lt (ok.some i a);unfold bX at hw b;simp_all
   simp[this]
 ·simp[a]
theorem Im(ok:Ok ts q)(h8:q.wh.length<=8){A B U V:List Int}(hA:bu q.src.xs.length A)(hB:bu q.src.xs.length B)(hU:∀ x∈U,0<=x)(hV:∀ x∈V,0<=x)(eU:aB U=aY (aW ts q) (aB A))(eV:aB V=aY (aW ts q) (aB B)):aB (gU ts q (A++B) (U++V))=aR (aW ts q) (aB A) (aB B):=by
 have d:bu q.src.xs.length (A++B):=λx b=>(ZK.1 b).elim (hA x) (hB x);have a:aY (aW ts q) (aB A)|||aY (aW ts q) (aB B)<18446744073709551616:=ZR (n:=64) (sD ts q h8 _) (sD ts q h8 _);apply QJ;intro i;unfold aR;rw[JC,<- QW];by_cases e:i<q.wh.length
 ·rw[zn a i (by omega),ug ok d,<- eU,<- eV,<- QW,QE λx b=>(ZK.1 b).elim (hU x) (hV x)]
 ·rw[Nat.testBit_and,ug ok d,ZW e];simp
theorem JD{n:Nat}{S:List Int}(hS:bu n S)(h0:0<=x)(h1:x<n)(hx:x ∉ S):aB S<2 ^ n-1:=by
 have:=nD hS;by_cases e:aB S=2 ^ n-1
 ·have a:=QE (λx hx=>(hS x hx).1) x.toNat
  grind
 ·omega
theorem LQ.pre{ts:List af}{q:ae}:∀ {ms ns:List ah} {ps:List bK},LQ ts q (ns++ms) ps->LQ ts q ns (ps.take ns.length)
 | [],ns,ps,h => by rw[Xb]at h;rw[ZT (by rw[h.len]; omega)];exact h
 | m::ms,ns,ps,h => by have h1:LQ ts q (ns++[m]) (ps.take (ns++[m]).length):=LQ.pre (ms:=ms) (by simp_all);have h2:=h1.init;grind
theorem take_at{n i:Nat}(h:i<n):(ps.take n).getD i pz=ps.getD i pz:=by simp_all
theorem LQ.at{ms:List ah}(h:LQ ts q (ns++n::ms) ps):ps.getD ns.length pz=bV ts q n (dN n ps) (dO n ps):=by
 have e:(ns++n::ms).getD ns.length nz=n:=by simp_all
 grind [LQ.part]
theorem Pe(h8:q.wh.length<=8)(how:aB ow=aY (aW ts q) (aB [(s:Int)]))(h0:∀ x∈ow,0<=x){n1:List ah}(hn1:n1=ns++[nd 1 0 0 s [] 0 []]++(if ow=[] then [] else [nd 2 ns.length 0 0 ow 0 []]))(h:LQ ts q n1 ps):ps.getD (n1.length-1) pz=(bQ ts q (aW ts q) s).d:=by
 rw[rP]at how;obtain⟨g,i⟩:=aaK h8 s ns.length how;subst hn1;by_cases c:ow=[]
 ·rw[Qo c]at h ⊢;rw[Xb]at h ⊢;rw[QP,XU,XH,h.at];exact g c
 ·rw[Qu c]at h ⊢;have hz:aB ow≠0:=λe=>by obtain⟨x,l,rfl⟩:=List.exists_cons_of_ne_nil c;have j:=QE h0 x.toNat;grind [Int.toNat_of_nonneg]
  rw[<- i hz];have b:ps.getD ns.length pz=bV ts q (nd 1 0 0 s [] 0 []) pz pz:=by
   have f:LQ ts q (ns++nd 1 0 0 s [] 0 []::[nd 2 ns.length 0 0 ow 0 []]) ps:=by simpa using h
   exact f.at
  have a:=h.at;rw[QP,QP,XU,XU,XH];rw[QP,XU]at a;rw[a,<- b];rfl
theorem Dr(o:List Int):au o o=true:=by grind [au]
theorem ig.lay(h:ig ts q room σ){L R:List Int}(hL:bu q.src.xs.length L)(hR:bu q.src.xs.length R)(hap:∀ x∈L,x ∉ R)(hL0:L≠[])(hR0:R≠[]){fr:List Int}(hfr:aB fr=aR (aW ts q) (aB L) (aB R))(hf:bu q.wh.length fr){key kind y:Int}
  (hk:0<=key->key∈fr/\iO ts q.src.xs (q.wh.getD key.toNat lz).cs L R=(x,y,true)) {l r:Nat} (hq:LQ ts q (ns++uE ns.length l r fr key kind x y) ps) (kl:JB ts q σ (ps.getD l pz)) (kr:JB ts q σ (ps.getD r pz)) (sl:(ps.getD l pz).sources=aB L) (sr:(ps.getD r pz).sources=aB R) :
  JB ts q σ (ps.getD ((ns++uE ns.length l r fr key kind x y).length-1) pz):=by
 have ok:=h.qf.ok;have s:=h.core.kT;have C:aB L<σ.groups.length:=by obtain⟨z,l,rfl⟩:=List.exists_cons_of_ne_nil hR0;rw[s];exact JD hL (hR z (by simp)).1 (hR z (by simp)).2 λe=>hap z e (by simp)
 have D:aB R<σ.groups.length:=by obtain⟨z,l,rfl⟩:=List.exists_cons_of_ne_nil hL0;rw[s];exact JD hR (hL z (by simp)).1 (hL z (by simp)).2 (hap z (by simp))
 have K:aB R≠0:=λe=>by obtain⟨z,l,rfl⟩:=List.exists_cons_of_ne_nil hR0;have g:=QE (λx f=>(hR x f).1) z.toNat;rw[e,Nat.zero_testBit,QY (hR z (by simp)).1,Qv (by simp)]at g;cases g
 have i:aB L &&& aB R=0:=by
  by_cases e:aB L &&& aB R=0
  ·exact e
  ·obtain⟨z,P,Q⟩:=(Eb hL hR).1 e
   simp_all
 have g:aR (aW ts q) (aB L) (aB R)<2 ^ 64:=by rw[<- hfr];exact AQ h.qf.eight (nD hf)
 have E:aB fr=aB (cZ (aR (aW ts q) (aB L) (aB R))):=by grind [ng]
 have a:0<=key->key∈cZ (aR (aW ts q) (aB L) (aB R))/\fP ts q (bO 4 (cZ (aR (aW ts q) (aB L) (aB R))) key) (aB L) (aB R)=(x,y,true):=λd=>by
  obtain⟨k,k2⟩:=hk d;have b:key∈cZ (aR (aW ts q) (aB L) (aB R)):=by have M:=QE (λx f=>(hf x f).1) key.toNat;have N:=QE (l:=cZ (aR (aW ts q) (aB L) (aB R))) (λx f=>by grind [cZ]) key.toNat;grind
  have j:=hf key k;refine⟨b,?_⟩;unfold fP;rw[Qo ⟨b,d,j.2⟩];show xz ts q.src.xs (q.wh.getD key.toNat lz).cs _ _=_;rw[<- k2];exact(Ec ok.cat ok.src ok.small (ok.some _ (by omega)) (ok.aX _ (by omega)) hL hR).2 (by rw[k2])
 have two:∀ {kd ky:Int},(kd=3/\ky=0∨kd=4/\ky=key/\0<=key)->LQ ts q (ns++[nd kd l r 0 fr ky []]) ps->JB ts q σ (ps.getD ((ns++[nd kd l r 0 fr ky []]).length-1) pz):=λ{kd ky} hkd hq=>by
  rw[QP,XU,XH,hq.at];have O:arity kd=2:=by grind [arity]
  rw[show dN (nd kd l r 0 fr ky []) ps=ps.getD l pz by unfold dN; simp_all,show dO (nd kd l r 0 fr ky []) ps=ps.getD r pz by unfold dO; simp_all];refine h.join kl kr (by omega) (by omega) (by omega) (by simp_all) (by simp_all) ?_;grind
 unfold uE at hq ⊢;by_cases I:key<0∨kind=0
 ·grind
 rw[Qu I]at hq ⊢;have d:0<=key:=by omega
 by_cases J:kind=1
 ·grind
 rw[Qu J]at hq ⊢;obtain⟨k,k2⟩:=a d;obtain⟨⟨S,T⟩,U,V⟩:=h.key C D i k2;have t:=hq.at;have u:=LQ.at (ns:=ns++[bz l x]) (n:=bz r y) (ms:=[nd 5 ns.length (ns.length+1) 0 fr key []]) (ps:=ps) (by simpa using hq);have v:=LQ.at (ns:=ns++[bz l x,bz r y]) (n:=nd 5 ns.length (ns.length+1) 0 fr key []) (ms:=[]) (ps:=ps) (by simpa using hq);have F:bV ts q (bz l x) (dN (bz l x) ps) (dO (bz l x) ps)=bV ts q (bz l x) (ps.getD l pz) pz:=rfl;have G:bV ts q (bz r y) (dN (bz r y) ps) (dO (bz r y) ps)=bV ts q (bz r y) (ps.getD r pz) pz:=rfl;have H:bV ts q (nd 5 ns.length (ns.length+1) 0 fr key []) (dN (nd 5 ns.length (ns.length+1) 0 fr key []) ps) (dO (nd 5 ns.length (ns.length+1) 0 fr key []) ps)=bV ts q (nd 5 ns.length (ns.length+1) 0 fr key []) (ps.getD ns.length pz) (ps.getD (ns.length+1) pz):=rfl;rw[F]at t;rw[G,QP,XU]at u;rw[H,QP,QV,XU]at v;obtain⟨w,m,A⟩:=h.sort kl (by omega) (o:=[x]) (by simp) (by simp_all) (by simp_all) (n:=bz l x) rfl rfl rfl;obtain⟨B,p,t3⟩:=h.sort kr (by omega) (o:=[y]) (by simp) (by simp_all) (by simp_all) (n:=bz r y) rfl rfl rfl;rw[sl]at m;rw[sr]at p;rw[<- t]at w m A;rw[<- u]at B p t3;rw[show (ns++[bz l x,bz r y,nd 5 ns.length (ns.length+1) 0 fr key []]).length-1=ns.length+(1+1) by simp,v];exact h.join w B (by omega) (by omega) (by omega) (by simp_all) (by simp_all) (.inr (by rw[m,p]; exact⟨k,x,y,k2,.inr ⟨rfl,by rw[A]; exact Dr _,by rw[t3]; exact Dr _⟩⟩))
theorem Rv.wit(h:Rv ts q hv us ns)(n0:ns.length≠0)(hp:LQ ts q ns ps):∃ O,Pt ts q (ps.getD (ns.length-1) pz) hv us O:=by obtain⟨b,O,a,d⟩:=h.parts;rw[hp.uniq a.lq];grind
theorem Ry.kno(h:ig ts q room σ)(hr:Ry ts q hv us ns):Rv ts q hv us ns/\(ns.length≠0->∀ ps,LQ ts q ns ps->JB ts q σ (ps.getD (ns.length-1) pz)):=by
 have ok:=h.qf.ok;refine hr (λhv us ns=>Rv ts q hv us ns/\(ns.length≠0->∀ ps,LQ ts q ns ps->JB ts q σ (ps.getD (ns.length-1) pz))) ⟨Rv.nil ts q,λe=>absurd rfl e⟩ ?_ ?_
 ·intro hv us ns s D n1 m u o g n;refine⟨m.1.first ok u o g n,λ_ ps A=>?_⟩;have e:=Gp ok (hv:=hv) (us:=us) u (by rw[o]; simp) λi hi E=>by rw[m.1.arP o]at E; cases E
  rw[<- g]at e;rw[Pe h.qf.eight e (λx j=>by rw[g]at j; exact(XZ.1 j).1.1) n A];exact h.scan u
 ·intro hv us ns s D n1 fr kind first a b l r x y m u I o g n p w f
  obtain⟨m,ik⟩:=m;refine⟨m.join ok u I o g n p kind first w f,λ_ ps A=>?_⟩;have z:ns.length≠0:=λe=>o (m.zero.1 e);have Z:=A.pre;have t:bu q.src.xs.length [(s:Int)]:=λx j=>by simp_all
  have K:ns.length<n1.length:=by simp_all
  have L:LQ ts q ns ((ps.take n1.length).take ns.length):=LQ.pre (ms:=[nd 1 0 0 s [] 0 []]++(if D=[] then [] else [nd 2 ns.length 0 0 D 0 []])) (by simp_all);have B:=ik z _ L;obtain⟨O,v⟩:=m.wit z L;have el:((ps.take n1.length).take ns.length).getD (ns.length-1) pz=ps.getD (ns.length-1) pz:=by grind
  rw[el]at B v;have M:aB us=aY (aW ts q) (aB hv):=by rw[<- v.cl,<- v.src]; exact B.cls
  have e:=Gp ok (us:=us) u I λi hi E=>by have N:=QE (λx j=>(m.usm x j).1) i;rw[M,ug ok m.hsm,Qv E,Qj]at N;exact N.2
  rw[<- g]at e;have P:∀ x∈D,0<=x:=λx j=>by rw[g]at j; exact(XZ.1 j).1.1
  have Q:=Pe h.qf.eight e P n Z;rw[take_at (by omega)]at Q;have F:=h.scan u;have G:(bQ ts q (aW ts q) s).d.sources=aB [(s:Int)]:=by rw[rP];exact(yT h.qf (s:=(s:Int)) (by omega) (by omega)).2.1
  rw[<- Q]at F G;have R:=Im ok h.qf.eight m.hsm t (λx j=>(m.usm x j).1) P M e;rw[<- p]at R;have S:bu q.wh.length fr:=λx j=>by rw[p]at j; exact(XZ.1 j).1
  have T:0<=eD q.wh fr->eD q.wh fr∈fr/\iO ts q.src.xs (q.wh.getD (eD q.wh fr).toNat lz).cs [(s:Int)] hv=(a,b,true)/\iO ts q.src.xs (q.wh.getD (eD q.wh fr).toNat lz).cs hv [(s:Int)]=(b,a,true):=λJ=>by obtain⟨H,k2⟩:=Cn J;refine⟨H,?_⟩;generalize eD q.wh fr=k at *;rw[p]at H;obtain⟨⟨X,Y⟩,f2,C⟩:=XZ.1 H;rw[ZK,not_or]at C;obtain⟨g1,g2,_⟩:=Jq k2 f2 (λe=>C.1 (m.ams o k X Y e)) (λe=>C.2 (by rw[g]; exact XZ.2 ⟨⟨X,Y⟩,e,C.1⟩)) I w;simp_all
  have U:((n1.length-1:Nat):Int)=(n1.length:Int)-1:=by omega
  have V:((ns.length-1:Nat):Int)=(ns.length:Int)-1:=by omega
  have W:∀ x∈hv,x ∉ [(s:Int)]:=λx j e=>by grind
  cases first with
  | true =>
   rw[Qo rfl,<- U,<- V]at f;injection f with e1 f;injection f with e2 f;injection f with e3 e4;subst e1 e2 e3 e4;exact h.lay t m.hsm (λx j e=>W x e j) (by simp) o (by grind [aR]) S (λJ=>by
    simp_all) A F B G v.src
  | false =>
   rw[Qu (by simp),<- U,<- V]at f;injection f with e1 f;injection f with e2 f;injection f with e3 e4;subst e1 e2 e3 e4;exact h.lay m.hsm t W o (by simp) R S (λJ=>by
    simp_all) A B F v.src G
theorem Rv.bq(h:Rv ts q hv us ns)(hD:ig ts q room σ)(hl:hv.length=q.src.xs.length){ds:List bK}(hd:iU ts q (ns++qV q ns.length)=some ds):σ.bq.d.cost<=(ds.getD (ds.length-1) pz).cost:=by
 have o:=hD.qf.one;have p:=hD.qf.five;have ok:=hD.qf.ok;have f:hv≠[]:=λe=>by grind
 have g:ns.length≠0:=λe=>f (h.zero.1 e);have r:=h.few;obtain⟨ps,O,j,m⟩:=h.parts;have a:=m g;rw[Qu g]at j;have i:aB hv=2 ^ q.src.xs.length-1:=(Ir h.hsm h.amr).2 hl;have k:=(Ry.kno hD h.lay).2 g ps j.lq;have l:aB us=2 ^ q.wh.length-1:=by rw[<- a.cl,k.cls,a.src,i]; exact yU hD.qf
 obtain⟨s,b,n⟩:=j.tail (by omega) (by omega) a i l;rw[hd]at b;injection b with b;rw[b,n];have:=k.low;rw[Qo (by rw[a.src,i])]at this;exact Q6 (this _ (JA ..)) (O9 ..)
theorem Pf{f:List aj}{r:aQ}(hr:bC g=some r)(ht:t∈fK ts q conc f g):∃ n l,(n,l)∈dG f/\∃ kind key v,t=ay ts q (bO kind (cZ (aR conc l.d.sources r.d.sources)) key) [l,v]/\(kind=3/\key=0/\v=r∨key∈cZ (aR conc l.d.sources r.d.sources)/\∃ x y,fP ts q (bO 4 (cZ (aR conc l.d.sources r.d.sources)) key) l.d.sources r.d.sources=(x,y,true)/\(kind=4/\v=r∨kind=5/\au l.d.order [x]=true/\mJ g y=some v)):=by
 obtain⟨⟨n,l⟩,j,ht⟩:=Q3.1 ht;refine⟨n,l,j,?_⟩;unfold dX at ht;rw[hr]at ht;have ht:t∈(cZ (aR conc l.d.sources r.d.sources)).foldl (fF ts q l r g (cZ (aR conc l.d.sources r.d.sources))) [ay ts q (bO 3 (cZ (aR conc l.d.sources r.d.sources)) 0) [l,r]]:=ht;generalize cZ (aR conc l.d.sources r.d.sources)=cl at *;have key:∀ (a:List Int) (acc:List aQ),(∀ k∈a,k∈cl)->t∈a.foldl (fF ts q l r g cl) acc->t∈acc∨∃ kind key v,t=ay ts q (bO kind cl key) [l,v]/\(kind=3/\key=0/\v=r∨key∈cl/\∃ x y,fP ts q (bO 4 cl key) l.d.sources r.d.sources=(x,y,true)/\(kind=4/\v=r∨kind=5/\au l.d.order [x]=true/\mJ g y=some v)):=by
  intro a
  induction a with
  | nil => simp_all
  | cons k a ih =>
   intro acc b h;rcases ih _ (λk i=>b k (ZI _ i)) h with h | h
   ·have i:=b k ZJ;unfold fF at h;simp only at h;split at h
    ·rename_i hc
     obtain⟨x,y,e⟩:∃ x y,fP ts q (bO 4 cl k) l.d.sources r.d.sources=(x,y,true):=⟨_,_,by rw[<- hc]⟩;rw[e]at h;have p:t=ay ts q (bO 4 cl k) [l,r]->t∈acc∨∃ kind key v,t=ay ts q (bO kind cl key) [l,v]/\(kind=3/\key=0/\v=r∨key∈cl/\∃ x y,fP ts q (bO 4 cl key) l.d.sources r.d.sources=(x,y,true)/\(kind=4/\v=r∨kind=5/\au l.d.order [x]=true/\mJ g y=some v)):=λo=>.inr ⟨4,k,r,o,.inr ⟨i,x,y,e,.inl ⟨rfl,rfl⟩⟩⟩;split at h
     ·grind
     ·rename_i m hm
      split at h
      ·grind
      grind
    simp_all
   simp_all
 grind
def Kg(ts:List af)(q:ae)(τ:eF)(g:List aj):Prop:=∀ p∈g,∀ x,p.2=some x->JB ts q τ x.2.d
theorem Kg.offer(h:Kg ts q τ g)(ht:JB ts q τ t.d):Kg ts q τ (gD g t):=λp f x e=>by
 obtain⟨a,b,rfl⟩:=QZ.1 f;rcases A8 e with⟨rfl,_⟩ | e
 ·exact ht
 ·exact h a b x e
theorem Kg.offers{ts:List af}{q:ae}{τ:eF}:∀ (l:List aQ) {x:Bool × List aj},Kg ts q τ x.2->(∀ t∈l,JB ts q τ t.d)->Kg ts q τ (l.foldl fV x).2
 | [],_,h,_ => h
 | t::l,x,h,ht => Kg.offers l (x:=fV x t) (h.offer (ht t ZJ)) λu hu => ht u (ZI _ hu)
theorem Kg.nM{ts:List af}{q:ae}{τ:eF}{h:aQ}(hs:∀ o,h.d.cost<=(bD ts q h o).d.cost):∀ (os:List (List Int)) {g:List aj},bC g=some h->Kg ts q τ g->(∀ o∈os,JB ts q τ (bD ts q h o).d)->Kg ts q τ (os.foldl (dK ts q) g)
 | [],_,_,hg,_ => hg
 | o::os,g,e,hg,ho => by
  have e1:dK ts q g o=gD g (bD ts q h o):=by unfold dK; rw[e]; rfl
  rw[QD,e1];exact Kg.nM hs os (Dj e (hs o)) (hg.offer (ho o ZJ)) λo' h'=>ho o' (ZI _ h')
theorem ig.pq(h:ig ts q room τ)(hs:s<τ.groups.length){l:List aQ}(hg:sJ q s g)(hf:g.map Prod.fst=(bH ts q s).take room)(ho:∀ o∈(g.map Prod.fst).drop 1,lu ts q.src.xs o s=true)(hl:∀ t∈l,IY q s t)(k:Kg ts q τ g)(kl:∀ t∈l,JB ts q τ t.d):Kg ts q τ (aK ts q g l).2:=by
 have r:=pI (l:=l) (x:=(false,g)) hg hl (λe=>by cases e);have b:Kg ts q τ (jQ g l).2:=Kg.offers l (x:=(false,g)) k kl;unfold aK;split
 ·rename_i m
  obtain⟨u,w⟩:=Xz.1 (r.2 m);obtain⟨p,y,n,z⟩:=D6 w;have A:=b p y _ z;obtain⟨B,v,_⟩:=r.1.all p y _ z;refine Kg.nM (λo=>oQ ts q u o B.cost) _ w b λo E=>?_;have a:=ho o E;have v:u.d.sources=s:=v;unfold lu at a;simp only[Qj,Qs,Qk,Q0,Q4,Qt]at a;obtain⟨⟨F,_⟩,C⟩:=a;refine(h.sort A (by omega) (o:=o) (λe=>by simp_all) ?_ ⟨?_,λc m=>?_⟩ (n:=Ed o) rfl rfl rfl).1
  ·grind
  ·unfold cK;rw[Qs];intro i f j D e;exact(C i f).1.2 ((oK f).2 ⟨j,D,e.symm⟩)
  ·obtain⟨i,f,rfl⟩:=Qp m
   simp_all
 ·exact b
theorem JE{ts:List af}{q:ae}{b:Nat}:∀ (l:List aQ) {t:aQ},b<=t.d.cost->(∀ u∈l,∀ e∈df ts q u,b<=e.d.cost)->b<=(l.foldl (iN ts q) t).d.cost
 | [],_,h,_ => h
 | u::l,t,h,hl => by
  refine JE l (t:=iN ts q t u) ?_ λv hv=>hl v (ZI _ hv);unfold iN;rcases tH t (df ts q u) with e | e
  ·simp_all
  simp_all
structure Kns(ts:List af)(q:ae)(τ σ:eF):Prop where
 jd:∀ s,s<σ.groups.length->Kg ts q τ (σ.groups.getD s [])
 bq:τ.bq.d.cost<=σ.bq.d.cost
theorem ig.keep{rk:Nat->Int}{ts:List af}{q:ae}{room:Nat}{τ σ:eF}(h:ig ts q room τ)(hC:mM q σ)(hF:SF ts q σ)(hG:Ur ts q room σ)(hK:Kns ts q τ σ){s:Nat}{l:List aQ}(hs:s<2 ^ q.src.xs.length)(hT:∀ t∈l,IY q s t)(hl:∀ t∈l,JB ts q τ t.d):Kns ts q τ (cO rk ts q s l σ):=by
 unfold cO;split
 ·rename_i hc
  refine⟨hK.jd,JE l hK.bq λt b=>?_⟩;have k:=hl t b;have:=k.low;rw[Qo ((hT t b).src.trans hc)]at this;exact zf h.qf (u:=⟨t.d,[]⟩) k.ord.apart rfl rfl rfl (Qn _) id this
 ·rename_i hc
  have a:s<σ.groups.length:=by rw[hC.kT]; omega
  refine⟨λk e=>?_,hK.bq⟩;show Kg ts q τ ((σ.groups.set s _).getD k []);rw[kC];split
  ·exact h.pq (by rw[h.core.kT,<- hC.kT]; exact a) (hC.jd s a) (hG.fst s a) (hF.jd s a).amj hT (hK.jd s a) hl
  ·exact hK.jd k (by simp_all)
theorem ig.step(h:ig ts q room τ)(hok:uu q σ)(hF:SF ts q σ)(hG:Ur ts q room σ)(hK:Kns ts q τ σ)(h1:σ.status=1)(pick:Int):Kns ts q τ (fu rk ts q (aW ts q) pick σ):=by
 have I:=hok.stat h1;have b:=pJ I pick;have J:σ.ak.getD (dP σ.ak.length pick).toNat (0,0)∈σ.ak:=by simp_all
 have K:=hok.core.task _ J;have C:=hok.core.erase (dP σ.ak.length pick).toNat (σ.picks++[dP σ.ak.length pick]);have g:∀ ρ:eF,Kns ts q τ ρ->Kns ts q τ (iA ρ):=λρ B=>by
  unfold iA;split
  ·exact B
  ·exact⟨B.jd,B.bq⟩
 unfold fu;refine g _ ?_;generalize σ.ak.getD (dP σ.ak.length pick).toNat (0,0)=t at *;have P:=h.qf.five;have D:=hok.core.kT;have L:τ.groups.length=σ.groups.length:=by rw[h.core.kT,D]
 unfold qM;rcases K with⟨f,i,hi,e⟩ | ⟨f,a1,a2,a3,a4,a6⟩
 ·rw[Qo f,e,rY i (by omega)];have b:0<2 ^ i:=ZU (by omega);have j:=nR ts q (XY ts q) (s:=(i:Int)) (by omega) (by omega);refine h.keep C ⟨hF.jd,hF.bq⟩ ⟨hG.tg,hG.fst⟩ ⟨hK.jd,hK.bq⟩ (ZN (by omega) hi) (λx a=>?_) λx a=>?_
  ·rw[Zy]at a;rw[a];exact⟨j.1,j.2.1,by omega⟩
  ·rw[Zy]at a;rw[a];exact h.scan hi
 ·rw[Qu f];have E:=a1;have o:=a2;rw[D]at a1 a2;refine h.keep C ⟨hF.jd,hF.bq⟩ ⟨hG.tg,hG.fst⟩ ⟨hK.jd,hK.bq⟩ (pW (by omega) (by omega)) (λx a=>rV (XY ts q) a3 (hok.core.jd _ E) (hok.core.jd _ o) a6 x a) λx a=>?_
  obtain⟨r,G⟩:=Xz.1 a6;obtain⟨p,b,m,H⟩:=D6 G;have w:r.d.sources=t.2:=((hok.core.jd _ o).all p b _ H).2.1;obtain⟨n,l,N,kind,key,v,rfl,A⟩:=Pf G a;have z:∀ {s:Nat} {m:Nat} {u:aQ},s<σ.groups.length->(m,u)∈dG (σ.groups.getD s [])->JB ts q τ u.d/\u.d.sources=s:=λ{s m u} j hu=>by
   rcases kg _ [] _ hu with f | ⟨p,b,e⟩
   ·cases f
   ·exact⟨hK.jd s j p b _ e,((hok.core.jd s j).all p b _ e).2.1⟩
  obtain⟨O,k⟩:=z E N;rw[k,w]at A;have hv:JB ts q τ v.d/\v.d.sources=t.2:=by
   have F:v=r->JB ts q τ v.d/\v.d.sources=t.2:=λe=>by rw[e]; exact⟨hK.jd _ o p b _ H,w⟩
   rcases A with⟨_,_,e⟩ | ⟨_,_,y,_,⟨_,e⟩ | ⟨_,_,e⟩⟩
   ·exact F e
   ·exact F e
   ·rcases wF y _ none v e with f | ⟨Q,M⟩
    ·cases f
    grind
  rw[k,w];refine h.join O hv.1 (by omega) (by omega) (by omega) (by simp_all) (by rw[k,hv.2]; rfl) ?_;rw[k,hv.2];rcases A with⟨e,e',_⟩ | ⟨k1,x,y,k2,k3⟩
  ·exact .inl ⟨e,e'⟩
  ·refine .inr ⟨k1,x,y,k2,k3.imp And.left λ⟨e,e1,e2⟩=>⟨e,e1,Cv y _ none (λ_ e=>by cases e) _ e2⟩⟩
theorem ig.all{rk:Nat->Int}{ts:List af}{q:ae}{room:Nat}{τ:eF}(h:ig ts q room τ)(hok:uu q (bP rk ts q room))(hb:τ.bq.d.cost<=(bP rk ts q room).bq.d.cost)(picks:List Int):∀ m,Kns ts q τ (runN rk ts q (aW ts q) picks m 0 (bP rk ts q room))
 | 0 => by refine⟨λs hs p hp x e=>?_,hb⟩;have hs:s<((List.range (2 ^ q.src.xs.length-1)).map λs=>dE ((bH ts q s).take room)).length:=hs;rw[QQ,QR]at hs;have hp:p∈(((List.range (2 ^ q.src.xs.length-1)).map λs=>dE ((bH ts q s).take room)).getD s []):=hp;rw[Xo,ZL,List.getElem?_range hs]at hp;obtain⟨o,_,rfl⟩:=QZ.1 hp;cases e
 | m+1 => by
  have ih:=ig.all h hok hb picks m;rw[iT];split
  ·rename_i hs
   exact h.step (mr (XY ts q) h.qf.five picks hok m).1 (Lg h.qf picks hok (F3 h.qf rk room) m) (Ls picks (Gl ..) m) ih hs _
  ·exact ih
theorem aaL(hq:QF ts q)(hok:uu q (bP rk ts q room))(ps rs:List Int)(m n:Nat)(h1:(runN rk ts q (aW ts q) ps m 0 (bP rk ts q room)).status=2)(h2:(runN rk ts q (aW ts q) rs n 0 (bP rk ts q room)).status=2):(runN rk ts q (aW ts q) ps m 0 (bP rk ts q room)).bq.d.cost=(runN rk ts q (aW ts q) rs n 0 (bP rk ts q room)).bq.d.cost:=by have e:=Gn hq hok ps m h1;have f:=Gn hq hok rs n h2;have a:=(T9 rk ts q (aW ts q) ps (bP rk ts q room) 0 m).1;have b:=(T9 rk ts q (aW ts q) rs (bP rk ts q room) 0 n).1;rw[QL]at a b;have:=(e.all hok a rs n).bq;have:=(f.all hok b ps m).bq;omega
theorem Pg(hok:uu q (bP rk ts q 1000)):(bP rk ts q 1000).cut=false:=by
 refine List.any_eq_false.2 λs a=>?_;have a:s<(bP rk ts q 1000).groups.length:=by rw[hok.core.kT]; simp_all
 have b:=(hok.core.jd s a).short;have d:=congrArg List.length ((Gl rk ts q 1000).fst s a);grind
theorem aaM(hq:QF ts q)(hok:uu q (bP rk ts q 1000))(picks:List Int){n:Nat}(hn:7001<=n):(runN rk ts q (aW ts q) picks n 0 (bP rk ts q 1000)).status=2/\(runN rk ts q (aW ts q) picks n 0 (bP rk ts q 1000)).picks.length<=7001/\∀ d,(runN rk ts q (aW ts q) picks d 0 (bP rk ts q 1000)).status=1->d<7001:=by
 have a:=aaD (rk:=rk) (ts:=ts) (XY ts q) hq.five hq.one picks hok (aaC rk ts q 1000 _);have b:=wO a;have e:=b (n-7001);rw[show 7001+(n-7001)=n by omega]at e;rw[e];have f:=(Gm (rk:=rk) (ts:=ts) (q:=q) (conc:=aW ts q) picks (σ:=bP rk ts q 1000) rfl 7001).2.resolve_left a;rw[Pg hok,Qu Bool.false_ne_true]at f;refine⟨f,?_,λd hd=>?_⟩
 ·have:=(mr (rk:=rk) (ts:=ts) (XY ts q) hq.five picks hok 7001).2;exact Q6 this (by show 0+7001<=7001; omega)
 ·by_cases c:d<7001
  ·exact c
  ·have:=b (d-7001)
   simp_all
