import Derived.Test.YtjndadibondgbaaGreatDoorL24
set_option linter.all false
set_option maxRecDepth 100000
set_option maxHeartbeats 16000000
namespace Go.Proofs.Zz
open Go.RowKit Go.Shelf
variable {n:Nat} {kc l m r sc:List Int} {ts:List af} {q:ae} {db:List aN} {rows rows' rs:List (List Int)}
theorem IM:∀ {m l:List Int},m.Nodup->(∀ x∈m,x ∉ l)->bC l m=l++m
 | [],l,_,_ => (XB l).symm
 | a::m,l,hd,h => by
  obtain⟨h1,h2⟩:=List.nodup_cons.1 hd;rw[nT,Qv (h a (by simp)),IM h2 fun x hx hm=>?_,QH]
  ·rfl
  ·rcases Zx.1 hm with hm | hm
   ·exact h x (by simp[hx]) hm
   ·rw[Zw]at hm;exact h1 (hm ▸ hx)
theorem vG(n:Nat)(C r:List Int):dP n C r=oh n C r (List.replicate n 0):=by
 unfold dP oh;refine Xw fun c a=>?_
 have:=Xm.1 a;rw[show (List.replicate n (0:Int)).getD c 0=0 by simp[List.getD,this]]
theorem zq{α γ:Type}{B:List α}(f:α->α->γ){p q:α->Bool}{k h:γ->Bool}:∀ {A:List α},(∀ a∈A,∀ b∈B,k (f a b)=(p a&&q b&&h (f a b)))->(A.flatMap fun a=>B.map (f a)).filter k=((A.filter p).flatMap fun a=>(B.filter q).map (f a)).filter h
 | [],_ => rfl
 | a::A,H => by
  have ih:=zq f (A:=A) fun x hx=>H x (by simp[hx])
  rw[QG,Zi,ih];by_cases hp:p a=true
  ·rw[XO hp,QG,Zi];congr 1;rw[Zg,Zg,List.filter_filter];congr 1;refine XP fun b hb=>?_
   show k (f a b)=(h (f a b)&&q b)
   rw[H a (by simp) b hb,hp,Qz,Bool.and_comm]
  ·rw[Xo hp,XJ.2 fun x hx=>?_,Zd];obtain⟨b,hb,rfl⟩:=ZU.1 hx;rw[H a (by simp) b hb];simp[hp]
structure amV(ts:List af)(q:ae)(db:List aN)(v:dY)(ref:List (List Int)):Prop where
 perm:ref.Perm ((jW ts q db v.sources).filter (jU q.wh v.clauses))
 within:∀ i∈v.clauses,(0<=i/\i<q.wh.length)/\∀ x∈aG (q.wh.getD i.toNat lz).cs,0<=x/\x<(ai ts q.src.xs).toNat/\((aj ts q.src.xs x:Nat):Int)∈v.sources
 nodup:v.clauses.Nodup
theorem vH{ts:List af}{q:ae}(ok:Ok ts q)(plan:List ah){db:List aN}(lF:tJ ts db=true):∀ (f i:Nat) (v:dY),i<f->dn ts q plan i=some v->v.out=false->amV ts q db v (gH ts q plan db f i)
 | 0,_,_,h,_,_ => by omega
 | f+1,i,v,hi,hv,hout => by
  have hp:fP (plan.getD i nz)=true:=by
   cases e:fP (plan.getD i nz) with
   | true => rfl
   | false => rw[vo ts q plan i rfl e]at hv; cases hv
  rcases jw ts q plan hv with⟨hk,h0,hs,es,eo,_⟩ | ⟨k2,k10,k3,k4,k5,hl0,FZ,l,hl,hn⟩ | ⟨k3,k5,hl0,FZ,hr0,hri,l,r,hl,hr,hn⟩
  ·obtain⟨s,hse⟩:∃ s:Nat,(plan.getD i nz).source=(s:Int):=⟨_,(Xj h0).symm⟩
   have hsl:s<q.src.xs.length:=by omega
   have ec:v.clauses=[]:=by
    rw[xL ts q plan i rfl hp hk,Qv (by omega)]at hv;injection hv with hv;rw[<- hv]
   refine⟨?_,(by rw[ec]; intro j hj; exact absurd hj (by simp)),by rw[ec]; exact Xx⟩;unfold gH;rw[Qu hk,es,ec,hse,(List.filter_eq_self (p:=jU q.wh [])).2 fun _ _=>rfl]
   show List.Perm _ ((eQ db _).flatMap fun r=>[_])
   rw[ZY,<- List.map_eq_flatMap];refine List.Perm.of_eq (Xw fun r hr=>?_);rw[Aq ok.cat ok.src hsl (vC lF hr).1,vG]
  ·obtain⟨_,ho,_,hls,hkb,es,eo,iE,ec⟩:=X9 ts q hn;rw[D7]at hls es;rw[hout]at iE;have h6:¬ 7<=(plan.getD i nz).kind:=fun h=>by rw[Qy h]at iE; cases iE
   have hlo:l.out=false:=by
    cases e:l.out with
    | false => rfl
    | true => have:=ho.1 e; omega
   have H:=vH ok plan lF f (plan.getD i nz).l.toNat l (by omega) hl hlo;have ec':v.clauses=bC l.clauses (plan.getD i nz).cl.xs:=ec;have hcl:=gN ok hls;refine⟨?_,?_,by rw[ec']; exact gM H.nodup⟩
   ·rw[es,ec'];by_cases hk:(plan.getD i nz).kind=2
    ·conv=>lhs; unfold gH
     rw[Qv (by omega),Qv (by omega),Qv (by omega),Qv (by omega),Qv (by omega),Qu hk];refine(H.perm.filter _).trans ?_;rw[List.filter_filter];refine List.Perm.of_eq (XP fun x _=>?_);rw[Az,Bool.and_comm]
    ·have jY:(plan.getD i nz).kind=6:=by omega
     have hcl0:(plan.getD i nz).cl.xs=[]:=by
      unfold fP at hp;rw[QE]at hp;exact QF (by omega)
     conv=>lhs; unfold gH
     rw[Qv (by omega),Qu jY,hcl0,VY];exact(rJ _ _).trans H.perm
   ·rw[es,ec'];intro j hj;rcases Xh.1 hj with hj | hj
    ·exact H.within j hj
    ·exact hcl j hj
  ·obtain⟨hro,ho,hwl,hls,hkb,es,eo,iE,ec⟩:=X9 ts q hn;have hlo:l.out=false:=by
    cases e:l.out with
    | false => rfl
    | true => have:=ho.1 e; omega
   have HL:=vH ok plan lF f (plan.getD i nz).l.toNat l (by omega) hl hlo;have HR:=vH ok plan lF f (plan.getD i nz).r.toNat r (by omega) hr hro;have FR:=ko ok plan lF f (plan.getD i nz).r.toNat r (by omega) hr hro;have SG:=(uZ FR.kW).1 hwl;have er:gH ts q plan db (f+1) i=((gH ts q plan db f (plan.getD i nz).l.toNat).flatMap fun a=>(gH ts q plan db f (plan.getD i nz).r.toNat).map fun b=>mE ts q.src.xs a b r.sources).filter (jU q.wh (plan.getD i nz).cl.xs):=by
    conv=>lhs; unfold gH
    rw[Qv (by omega),Qv (by omega),Qv (by omega),Qv (by omega),Qv (by omega),Qv (by omega),hr];rfl
   have hcl:=gN ok hls;rw[er];generalize gH ts q plan db f (plan.getD i nz).l.toNat=GL at HL;generalize gH ts q plan db f (plan.getD i nz).r.toNat=GR at HR;refine⟨?_,?_,by rw[ec]; exact gM (gM HL.nodup)⟩
   ·rw[es,ec,IM FR.kW SG,Ay ts q db fun s hs hr=>SG s hr hs];rw[zq (A:=jW ts q db l.sources) (B:=jW ts q db r.sources) (fun a b=>mE ts q.src.xs a b r.sources) (p:=jU q.wh l.clauses) (q:=jU q.wh r.clauses) (h:=jU q.wh (plan.getD i nz).cl.xs)]
    ·exact List.Perm.filter _ ((WM HL.perm).trans (nZ (f:=fun a=>GR.map fun b=>mE ts q.src.xs a b r.sources) fun a _=>HR.perm.map _))
    ·intro a ha b hb;have hal:=(vF ts q db ha).1;rw[Az,Az];congr 2
     ·refine Eb fun j hj k hk=>?_
      have:=(HL.within j hj).2 k hk;rw[nL ts (by omega),show ((k.toNat:Nat):Int)=k by omega,Qv (fun h=>SG _ h this.2.2)]
     ·refine Eb fun j hj k hk=>?_
      have:=(HR.within j hj).2 k hk;rw[nL ts (by omega),show ((k.toNat:Nat):Int)=k by omega,Qu this.2.2]
   ·rw[es,ec];intro j hj;rcases Xh.1 hj with hj | hj
    ·rcases Xh.1 hj with hj | hj
     ·have:=HL.within j hj;exact⟨this.1,fun x hx=>⟨(this.2 x hx).1,(this.2 x hx).2.1,Xh.2 (.inl (this.2 x hx).2.2)⟩⟩
     ·have:=HR.within j hj;exact⟨this.1,fun x hx=>⟨(this.2 x hx).1,(this.2 x hx).2.1,Xh.2 (.inr (this.2 x hx).2.2)⟩⟩
    ·exact hcl j hj
theorem adX(hs:aP n l)(hd:l.Nodup)(hl:l.length=n):∀ k,k<n->(k:Int)∈l:=fun k d=>by
 have b:=(qJ hs hd).2 hl;have a:=Z6 (l:=l) (fun x e=>(hs x e).1) k;rw[b,uW,Qy d]at a;exact Xk a.symm
theorem UG(hs:aP n l)(hd:l.Nodup)(hl:l.length=n):l.Perm ((List.range n).map fun (k:Nat)=>(k:Int)):=by
 refine(List.perm_ext_iff_of_nodup hd (List.Pairwise.map _ (fun a b h=>by omega) List.nodup_range)).2 fun x=>?_
 rw[ZU];constructor
 ·intro e;have:=hs x e;exact⟨x.toNat,Xm.2 (by omega),by omega⟩
 ·rintro⟨k,d,rfl⟩;exact adX hs hd hl k (Xm.1 d)
theorem aaw{ls:List az}(hs:aP ls.length l)(hd:l.Nodup)(hl:l.length=ls.length)(x:List Int):jU ls l x=dK ls x:=by
 unfold jU dK;rw[QD,Qp,Qp];constructor
 ·intro h c b;obtain⟨k,a,rfl⟩:=Qx b;have:=h k (adX hs hd hl k a)
  simpa [List.getD,a] using this
 ·intro h i d;have:=hs i d;have a:i.toNat<ls.length:=by omega
  have:=h ls[i.toNat] (Qk _)
  simpa [List.getD,a] using this
def GU(n:Nat)(x:List Int):List Int:=x++List.replicate (n-x.length) 0
theorem PI(n:Nat)(x:List Int)(c:Nat):(GU n x).getD c 0=x.getD c 0:=by
 unfold GU;by_cases h:c<x.length
 ·simp[List.getD,QK h]
 ·have e:x.getD c 0=0:=by simp[List.getD,XA (Nat.not_lt.1 h)]
  rw[e];simp only[List.getD,QL (Nat.not_lt.1 h),List.getElem?_replicate];split <;> rfl
theorem PK(ok:Ok ts q)(lF:tJ ts db=true):∀ k,k<q.src.xs.length->jW ts q db ((List.range (k+1)).map fun (k:Nat)=>(k:Int))=(aW (q.src.xs.take (k+1)) db).map (GU (ai ts q.src.xs).toNat)/\∀ x∈aW (q.src.xs.take (k+1)) db,(x.length:Int)=ai ts (q.src.xs.take (k+1)):=by
 have L:=vE ok;have f:∀ k,k<q.src.xs.length->jW ts q db [(k:Int)]=(eQ db (q.src.xs.getD k 0)).map (Bp (ai ts q.src.xs).toNat (ai ts (q.src.xs.take k)).toNat):=fun k d=>by
  show ((eQ db _).flatMap fun r=>[_])=_
  rw[ZY,<- List.map_eq_flatMap];refine Xw fun r o=>?_
  rw[Aq ok.cat ok.src d (vC lF o).1,vG]
 have t:∀ k,k<q.src.xs.length->ai ts (q.src.xs.take (k+1))=ai ts (q.src.xs.take k)+(ts.getD (q.src.xs.getD k 0).toNat tz).cols/\0<=ai ts (q.src.xs.take k)/\ai ts (q.src.xs.take (k+1))<=ai ts q.src.xs:=fun k d=>by
  have M:=Xc ok.cat ok.src k (by omega);have w:=Xc ok.cat ok.src (k+1) (by omega);have y:=kI ok.cat ok.src (show k+1<=q.src.xs.length by omega) (Qs _);rw[Qw]at y;rw[gL,ZC,ZB,Xd]at w;have B:=Qq ok.src (k:=k) d;have e:q.src.xs.getD k 0=q.src.xs[k]:=by simp[List.getD,d]
  have C:=kR ok.cat (i:=(q.src.xs[k]).toNat) (by omega);rw[e]at w ⊢;omega
 intro k
 induction k with
 | zero =>
  intro d;have E:aW (q.src.xs.take 1) db=eQ db (q.src.xs.getD 0 0):=by
   cases e:q.src.xs with
   | nil => rw[e]at d; simp at d
   | cons a l => rfl
  have F:=t 0 d;rw[E];refine⟨?_,fun x m=>?_⟩
  ·show jW ts q db [((0:Nat):Int)]=_
   rw[f 0 d];refine Xw fun r o=>?_
   have D:(ai ts (q.src.xs.take 0)).toNat=0:=rfl;unfold Bp GU;rw[D];rfl
  ·have:=(vC lF m).1;have D:ai ts (q.src.xs.take 0)=0:=rfl;omega
 | succ k ih =>
  intro d;obtain⟨z,v⟩:=ih (by omega);have F:=t (k+1) d;have g:∀ x∈aW (q.src.xs.take (k+1)) db,∀ r∈eQ db (q.src.xs.getD (k+1) 0),((x++r).length:Int)=ai ts (q.src.xs.take (k+1+1)):=fun x m r o=>by
   have w:=v x m;have B:=(vC lF o).1;rw[ZC];omega
  have G:aW (q.src.xs.take (k+1+1)) db=dh (aW (q.src.xs.take (k+1)) db) (eQ db (q.src.xs.getD (k+1) 0)):=by
   rw[yX d];simp[List.getD,d]
  rw[G];refine⟨?_,fun x m=>?_⟩
  ·rw[Xa,Qn,List.map_singleton,Ay,z,f (k+1) d]
   ·unfold dh;rw[List.flatMap_map,List.map_flatMap];refine KF fun x m=>?_
    rw[Xv,Xv];refine Xw fun r o=>?_
    have w:=v x m;have B:=(vC lF o).1;have C:=g x m r o;rw[ZC]at C
    show mE ts q.src.xs (GU _ x) (Bp _ _ r) [((k+1:Nat):Int)]=GU _ (x++r)
    refine CE (n:=(ai ts q.src.xs).toNat) ?_ ?_ fun c O=>?_
    ·rw[Aw]; unfold GU; simp; omega
    ·unfold GU; simp; omega
    rw[nL ts (by unfold GU; simp; omega),PI,PI];have u:=xQ ok.cat ok.src (c:=(c:Int)) (by omega) (by omega) d;have H:(ai ts (q.src.xs.take (k+1))).toNat=x.length:=by omega
    by_cases p:aj ts q.src.xs (c:Int)=k+1
    ·rw[Qu (by rw[p]; simp)];have:=u.1 p;unfold Bp;rw[H,QH];simp only[List.getD];rw[QL (by simp; omega),QK (by simp; omega),QL (by omega),Jd]
    ·rw[Qv (fun h=>p (by rw[Zw]at h; omega))];have N:¬ (x.length<=c/\c<x.length+r.length):=fun h=>p (u.2 (by omega))
     by_cases A:c<x.length
     ·simp only[List.getD];rw[QK A]
     ·simp only[List.getD];rw[XA (by omega),XA (by rw[ZC]; omega)]
   ·intro s p y;obtain⟨j,I,rfl⟩:=ZU.1 p;have:=Xm.1 I;rw[Zw]at y;omega
  ·obtain⟨a,J,b,K,rfl⟩:=vD.1 m;exact g a J b K
theorem aay(ok:Ok ts q)(lF:tJ ts db=true)(hpos:0<q.src.xs.length){S:List Int}(hs:aP q.src.xs.length S)(hd:S.Nodup)(hl:S.length=q.src.xs.length):(jW ts q db S).Perm (aW q.src.xs db):=by
 refine(SQ ts q db (UG hs hd hl)).trans (List.Perm.of_eq ?_);obtain⟨a,b⟩:=PK ok lF (q.src.xs.length-1) (by omega);rw[show q.src.xs.length-1+1=q.src.xs.length by omega,Qw]at a b;rw[a];refine Eq.trans (Xw fun x d=>?_) (List.map_id _);have:=b x d;unfold GU;rw[show (ai ts q.src.xs).toNat-x.length=0 by omega];exact XB x
theorem adY(h:l.Perm m):l.sum=m.sum:=by
 induction h with
 | nil => rfl
 | cons x _ ih => rw[Z8,Z8,ih]
 | swap x y l => simp only[Z8]; omega
 | trans _ _ h1 h2 => exact h1.trans h2
theorem PM(h:l.Perm m):lT l=lT m:=by
 unfold lT FV yY;rw[(h.filter _).length_eq,adY (h.map _)]
theorem JX(h:rows.Perm rows'){k:List Int}(hk:rows=[]∨∀ r∈rows,au r kc=k):pR kc sc rows=pR kc sc rows':=by
 have a:au (rows.headD []) kc=au (rows'.headD []) kc:=by
  rcases hk with rfl | hk
  ·rw[List.nil_perm.1 h]
  ·cases rows with
   | nil => rw[List.nil_perm.1 h]
   | cons r rs =>
    cases rows' with
    | nil => exact absurd h.length_eq (by simp)
    | cons r' rs' => exact(hk r (by simp)).trans (hk r' (h.mem_iff.2 (by simp))).symm
 unfold pR;rw[a,h.length_eq];congr 1;exact Xw fun c _=>PM (h.map _)
theorem PN:(pR kc sc (r::rs)).take kc.length=au r kc:=by
 unfold pR;rw[QH,List.take_append_of_le_length (by simp[au]),X0 (by simp[au])];rfl
theorem UH:((r::rs).filter fun x=>decide (au x kc=au r kc))=r::rs.filter fun x=>decide (au x kc=au r kc):=XO (by simp)
theorem vM{kc sc:List Int}:∀ {n:Nat} {rows:List (List Int)},rows.length<=n->∀ {x:List Int},x∈mD kc sc n rows↔∃ r∈rows,x=pR kc sc (rows.filter fun y=>decide (au y kc=au r kc))
 | 0,rows,h,x => by
  obtain rfl:rows=[]:=QF (by omega);unfold mD;simp
 | n+1,[],h,x => by
  unfold mD;simp
 | n+1,r::rs,h,x => by
  have hl:=XQ (fun y=>!decide (au y kc=au r kc)) rs;rw[Q7]at h;unfold mD;rw[Z5,rP,vM (by omega)];have hcut:∀ r',au r' kc≠au r kc->((rs.filter fun y=>!decide (au y kc=au r kc)).filter fun y=>decide (au y kc=au r' kc))=(r::rs).filter fun y=>decide (au y kc=au r' kc):=fun r' hne=>by
   rw[Xo (by simpa using fun e=>hne e.symm),List.filter_filter];refine XP fun y _=>?_
   by_cases e:au y kc=au r' kc
   ·simp[e,hne]
   ·simp[e]
  constructor
  ·rintro (rfl | ⟨r',hr',rfl⟩)
   ·exact⟨r,by simp,rfl⟩
   ·obtain⟨h1,h2⟩:=Xl.1 hr';exact⟨r',by simp[h1],by rw[hcut r' (by simpa using h2)]⟩
  ·rintro⟨r',hr',rfl⟩;by_cases e:au r' kc=au r kc
   ·left; rw[e]
   ·right;rcases Z5.1 hr' with rfl | hr'
    ·exact absurd rfl e
    ·exact⟨r',Xl.2 ⟨hr',by simpa using e⟩,by rw[hcut r' e]⟩
theorem uT{kc sc:List Int}:∀ {n:Nat} {rows:List (List Int)},rows.length<=n->(mD kc sc n rows).Nodup
 | 0,rows,h => by unfold mD; exact Xx
 | n+1,[],h => by unfold mD; exact Xx
 | n+1,r::rs,h => by
  have hl:=XQ (fun y=>!decide (au y kc=au r kc)) rs;rw[Q7]at h;unfold mD;rw[rP,List.nodup_cons];refine⟨fun hm=>?_,uT (by omega)⟩;obtain⟨r',hr',e⟩:=(vM (by omega)).1 hm;obtain⟨h1,h2⟩:=Xl.1 hr';have e2:=congrArg (List.take kc.length) e;obtain⟨t,ts,et⟩:∃ t ts,((rs.filter fun y=>!decide (au y kc=au r kc)).filter fun y=>decide (au y kc=au r' kc))=t::ts:=by
   cases ec:((rs.filter fun y=>!decide (au y kc=au r kc)).filter fun y=>decide (au y kc=au r' kc)) with
   | nil => exact absurd (Xl.2 ⟨hr',Qy (Eq.refl (au r' kc))⟩) (by rw[ec]; simp)
   | cons t ts => exact⟨t,ts,rfl⟩
  rw[UH,PN,et,PN]at e2;have ht:t∈((rs.filter fun y=>!decide (au y kc=au r kc)).filter fun y=>decide (au y kc=au r' kc)):=by rw[et]; simp
  have:=(Xl.1 ht).2;rw[QE]at this;rw[this]at e2;rw[e2]at h2;simp at h2
theorem Fj(h:rows.Perm rows'):(jF kc sc rows).Perm (jF kc sc rows'):=by
 unfold jF;split
 ·rw[JX h (k:=[]) (.inr fun r _=>rfl)]
 ·refine(List.perm_ext_iff_of_nodup (uT (Qs _)) (uT (Qs _))).2 fun x=>?_
  rw[vM (Qs _),vM (Qs _)];have key:∀ r,pR kc sc (rows.filter fun y=>decide (au y kc=au r kc))=pR kc sc (rows'.filter fun y=>decide (au y kc=au r kc)):=fun r=>JX (h.filter _) (k:=au r kc) (.inr fun y b=>Xk (Xl.1 b).2)
  constructor
  ·rintro⟨r,a,rfl⟩; exact⟨r,h.mem_iff.1 a,key r⟩
  ·rintro⟨r,a,rfl⟩; exact⟨r,h.mem_iff.2 a,(key r).symm⟩
theorem Fp{ts:List af}{q:ae}(ok:Ok ts q)(oo:Vh ts q)(plan:List ah){db:List aN}(lF:tJ ts db=true)(hpos:0<q.src.xs.length)(ab8:gm q.src.xs db<=20000):∀ (f i:Nat) (v:dY),i<f->dn ts q plan i=some v->v.out=true->
  (gH ts q plan db f i).Perm (jE q ((aW q.src.xs db).filter (dK q.wh)))/\((plan.getD i nz).kind=10->bS (DF q.ord.xs) (gH ts q plan db f i))
 | 0,_,_,h,_,_ => by omega
 | f+1,i,v,hi,hv,hout => by
  rcases jw ts q plan hv with⟨w,h0,hs,O,Q,t⟩ | ⟨k2,k10,k3,k4,k5,hl0,FZ,l,hl,hn⟩ | ⟨k3,k5,hl0,FZ,g,hri,l,r,hl,I,hn⟩
  ·rw[hout]at t; cases t
  ·obtain⟨_,t,_,N,a,O,Q,u,_⟩:=X9 ts q hn;rw[hout]at u;have S:7<=(plan.getD i nz).kind:=Xk u.symm;by_cases w:(plan.getD i nz).kind=10
   ·have L:=Fp ok oo plan lF hpos ab8 f (plan.getD i nz).l.toNat l (by omega) hl (t.2 w)
    conv=>lhs; lhs; unfold gH
    conv=>rhs; rhs; unfold gH
    rw[Qv (by omega),Qv (by omega),Qv (by omega),Qv (by omega),Qu w];exact⟨(rJ _ _).trans L.1,fun _=>xP _ _⟩
   ·have o:l.out=false:=by
     cases e:l.out with
     | false => rfl
     | true => exact absurd (t.1 e) w
    have H:=ko ok plan lF f (plan.getD i nz).l.toNat l (by omega) hl o;have P:=vH ok plan lF f (plan.getD i nz).l.toNat l (by omega) hl o;unfold mY at a;have A:nR q l=true/\(q.group=true↔(plan.getD i nz).kind≠9):=by
     rw[Qv (by omega),Qv (by omega),Qv (by omega)]at a;by_cases J:(plan.getD i nz).kind=7
     ·rw[Qu J,Qo]at a; exact⟨a.2,fun _ h=>by omega,fun _=>a.1⟩
     rw[Qv J]at a;by_cases K:(plan.getD i nz).kind=8
     ·rw[Qu K,Qo,Qo]at a; exact⟨a.1.2,fun _ h=>by omega,fun _=>a.1.1⟩
     rw[Qv K,Qu (by omega),Qo]at a;refine⟨a.2,?_⟩;have:=a.1;rw[Xu]at this;rw[this];constructor
     ·intro h; cases h
     ·intro h; omega
    refine⟨?_,fun h=>absurd h w⟩;have b:=A.1;unfold nR at b;rw[Qo,QE,QE]at b;have p:(gH ts q plan db f (plan.getD i nz).l.toNat).Perm ((aW q.src.xs db).filter (dK q.wh)):=by
     refine P.perm.trans ?_;rw[XP fun x _=>aaw (fun j R=>(P.within j R).1) P.nodup b.2 x];exact(aay ok lF hpos H.fQ H.kW b.1).filter _
    conv=>lhs; unfold gH; rw[Qv (by omega),Qv (by omega)]
    generalize U:gH ts q plan db f (plan.getD i nz).l.toNat=G at H p ⊢;unfold jE;by_cases E:(plan.getD i nz).kind=9
    ·rw[Qv (by omega),Qu E,Qv (fun h=>A.2.1 h E)];exact p.map _
    ·rw[Qu (by omega),Qu (A.2.2 E)];refine(Fj p).trans (List.Perm.of_eq (DK ?_ ?_).symm)
     ·have M:=DU (cnt:=BZ q.src.xs db) (n:=q.src.xs.length) (fun k=>by unfold BZ; omega) l.sources;rw[<- DV]at M;have:=H.many;have e:=p.length_eq;rw[H.same,ZB]at e;omega
     ·intro r I c T;have s:=p.mem_iff.2 I;rw[H.same]at s;obtain⟨d,g,rfl⟩:=ZU.1 s;by_cases y:c.toNat<(ai ts q.src.xs).toNat
      ·rw[vG,kK y];split
       ·rename_i hm
        have B:=XT.2 hm;have F:=H.lens d g;generalize List.idxOf ((c.toNat:Nat):Int) (bL ts q plan db f (plan.getD i nz).l.toNat).2=m at B ⊢;have C:m<d.length:=by omega
        rw[show d.getD m 0=d[m] by simp[List.getD,C]];exact H.vals d g _ (Qk _)
       ·rw[show (List.replicate (ai ts q.src.xs).toNat (0:Int)).getD c.toNat 0=0 by simp[List.getD,y]];right; omega
      ·have D:=lW (ai ts q.src.xs).toNat (bL ts q plan db f (plan.getD i nz).l.toNat).2 d (List.replicate (ai ts q.src.xs).toNat 0);rw[vG];generalize oh (ai ts q.src.xs).toNat (bL ts q plan db f (plan.getD i nz).l.toNat).2 d (List.replicate (ai ts q.src.xs).toNat 0)=z at D ⊢;rw[show z.getD c.toNat 0=0 by simp[List.getD,XA (l:=z) (i:=c.toNat) (by omega)]];right; omega
  ·obtain⟨_,_,_,_,_,_,_,u,_⟩:=X9 ts q hn;rw[hout,Qg (by omega)]at u
   cases u
