import Derived.Test.YtpcfbajdeipgbaaGreatDoorX06
set_option linter.all false
set_option maxRecDepth 100000
set_option maxHeartbeats 0
namespace Go.Proofs.Zz
open Go.RowKit Go.Shelf
open List renaming length->N,getD->E
open Go.Value renaming slice->Z,int->I,tuple->Ph
open Go.Proofs.Tryz renaming prog->V
open Option renaming some->O
open Go.IntKind renaming i64->J
open Bool renaming false->F,true->T
open Go renaming World->U,Value->KX
open Go.RowKit renaming Hid->Wl
open Go.Ending renaming returned->FR
variable {a b b1 b2 b3 b4 b5 bs c d e i j k kp l1 l2 l3 lN la lb m m1 n np p r r0 s s0 x y:Nat} {l v:bH} {ts:List ag} {q:af} {db:List aJ} {Fq L R:List (List Int) × List Int} {ref rl rr:List (List Int)} {cs xs:List Int} {plan:List ai} {lt:ae->ae->Bool} {A A1 A2 B B1 B2 B3 B4 B5 P:List ae} {z:ae}
section
variable (ts:List ag) (q:af) (plan:List ai) (db:List aJ)
def keyOf(n:ai):Int × Int × Bool:=eG ts q.src.xs (E q.wh n.key.toNat lz).cs ((bO ts q plan n.l.toNat).getD vz).sources ((bO ts q plan n.r.toNat).getD vz).sources
def tY(n:ai)(L R:List (List Int) × List Int):List (List Int):=
 if n.kind=3 then jh L.1 R.1 else jG (bI L.2 (keyOf ts q plan n).1) (bI R.2 (keyOf ts q plan n).2.1) L.1 R.1
def bU:Nat->Nat->List (List Int) × List Int
 |0,_=>([],[])
 |f+1,i =>
  if (E plan i nz).kind=1 then (vQ db (E q.src.xs (E plan i nz).source.toNat 0),iE ts q.src.xs (E plan i nz).source)
  else if (E plan i nz).kind=2 then ((bU f (E plan i nz).l.toNat).1.filter (jo q.wh (bU f (E plan i nz).l.toNat).2 (E plan i nz).cl.xs),(bU f (E plan i nz).l.toNat).2)
  else if (E plan i nz).kind=6 then (fI (aO (bU f (E plan i nz).l.toNat).2 (E plan i nz).co.xs) (bU f (E plan i nz).l.toNat).1,(bU f (E plan i nz).l.toNat).2)
  else ((tY ts q plan (E plan i nz) (bU f (E plan i nz).l.toNat) (bU f (E plan i nz).r.toNat)).filter (jo q.wh ((bU f (E plan i nz).l.toNat).2++(bU f (E plan i nz).r.toNat).2) (E plan i nz).cl.xs),
   (bU f (E plan i nz).l.toNat).2++(bU f (E plan i nz).r.toNat).2)
def mi:Nat->Nat->List (List Int)
 |0,_=>[]
 |f+1,i =>
  if (E plan i nz).kind=10 then fI q.ord.xs (mi f (E plan i nz).l.toNat)
  else if (E plan i nz).kind=9 then (bU ts q plan db f (E plan i nz).l.toNat).1.map λr=>aB r (aO (bU ts q plan db f (E plan i nz).l.toNat).2 q.aH.xs)
  else (fq (aO (bU ts q plan db f (E plan i nz).l.toNat).2 q.keys.xs) (aO (bU ts q plan db f (E plan i nz).l.toNat).2 q.sums.xs) (bU ts q plan db f (E plan i nz).l.toNat).1).map Gr.row
def eZ:Nat->Nat->List (List Int)
 |0,_=>[]
 |f+1,i =>
  if (E plan i nz).kind=1 then (vQ db (E q.src.xs (E plan i nz).source.toNat 0)).map (rX (ak ts q.src.xs).toNat (ak ts (q.src.xs.take (E plan i nz).source.toNat)).toNat)
  else if (E plan i nz).kind=6 then fI (E plan i nz).co.xs (eZ f (E plan i nz).l.toNat)
  else if (E plan i nz).kind=7∨(E plan i nz).kind=8 then ed q.keys.xs q.sums.xs (eZ f (E plan i nz).l.toNat)
  else if (E plan i nz).kind=9 then (eZ f (E plan i nz).l.toNat).map λr=>aB r q.aH.xs
  else if (E plan i nz).kind=10 then fI q.ord.xs (eZ f (E plan i nz).l.toNat)
  else if (E plan i nz).kind=2 then (eZ f (E plan i nz).l.toNat).filter (eP q.wh (E plan i nz).cl.xs)
  else ((eZ f (E plan i nz).l.toNat).flatMap λa=>(eZ f (E plan i nz).r.toNat).map λb=>jF ts q.src.xs a b ((bO ts q plan (E plan i nz).r.toNat).getD vz).sources).filter (eP q.wh (E plan i nz).cl.xs)
theorem lq(h:bO ts q plan i=O v) :
  ((E plan i nz).kind=1/\0<=(E plan i nz).source/\(E plan i nz).source<N q.src.xs/\v.sources=[(E plan i nz).source]/\v.order=[]/\v.out=F)∨
  (2<=(E plan i nz).kind/\(E plan i nz).kind<=10/\(E plan i nz).kind≠3/\(E plan i nz).kind≠4/\(E plan i nz).kind≠5/\0<=(E plan i nz).l/\(E plan i nz).l<i/\
   ∃l,bO ts q plan (E plan i nz).l.toNat=O l/\jg ts q (E plan i nz) l vz=O v)∨
  (3<=(E plan i nz).kind/\(E plan i nz).kind<=5/\0<=(E plan i nz).l/\(E plan i nz).l<i/\0<=(E plan i nz).r/\(E plan i nz).r<i/\
   ∃l r,bO ts q plan (E plan i nz).l.toNat=O l/\bO ts q plan (E plan i nz).r.toNat=O r/\jg ts q (E plan i nz) l r=O v):=by
 obtain⟨n,g⟩:=eX (E plan i nz);have b:=(qi h).1;rw[g]at b ⊢;unfold eF at b;simp only[Qm,Bool.or_eq_true,Qz]at b;obtain⟨⟨⟨⟨u,e⟩,_⟩,k⟩,p⟩:=b;have j:cZ n=true:=by grind [zf]
 by_cases t:n.kind=1
 .left;rw[GD ts q plan i g j t]at h
  grind
 .right;by_cases m:3<=n.kind/\n.kind<=5
  .right;have f:arity n.kind=2:=by unfold arity;simp_all
   rw[f]at k p;have a:0<=n.l/\n.l<i:=by omega
   have d:0<=n.r/\n.r<i:=by omega
   rw[Lh ts q plan i g j (by omega) e f a.1 a.2 d.1 d.2]at h;refine⟨m.1,m.2,a.1,a.2,d.1,d.2,?_⟩
   cases el:bO ts q plan n.l.toNat with
   |none=>simp_all
   |some l =>
    cases er:bO ts q plan n.r.toNat with
    |none=>simp_all
    |some r=>simp_all
  .left;have f:arity n.kind=1:=by unfold arity;simp_all
   rw[f]at k;have a:0<=n.l/\n.l<i:=by omega
   rw[Du ts q plan i g j (by omega) e (by omega) a.1 a.2]at h;refine⟨by omega,e,by omega,by omega,by omega,a.1,a.2,?_⟩
   cases el:bO ts q plan n.l.toNat with
   |none=>simp_all
   |some l=>simp_all
def V8{n:ai}{l r v:bH}(h:jg ts q n l r=O v):r.out=F/\(l.out=T↔n.kind=10)/\N (aC l.sources r.sources)=N l.sources+N r.sources/\
  dF ts q n.cl.xs (aC l.sources r.sources)=T/\kP ts q n l r=T/\v.sources=aC l.sources r.sources/\v.order=(if n.kind=6 then n.co.xs else l.order)/\v.out=decide (7<=n.kind)/\v.clauses=aC (aC l.clauses r.clauses) n.cl.xs:=by
 rw[kT]at h;split at h
 .rename_i ho
  injection h with h;subst h;unfold kS at ho;simp_all
 .cases h
end
def Jg:=@V8
structure iF(ts:List ag)(q:af)(db:List aJ)(v:bH)(Fq:List (List Int) × List Int)(ref:List (List Int)):Prop where
 same:ref=Fq.1.map (fu (ak ts q.src.xs).toNat Fq.2)
 nodup:Fq.2.Nodup
 cols:∀c,c∈Fq.2↔0<=c/\c<(ak ts q.src.xs).toNat/\((au ts q.src.xs c:Nat):Int)∈v.sources
 lens:∀r∈Fq.1,N r=N Fq.2
 aI:∀r∈Fq.1,∀x∈r,Hl x
 ord:∀c∈v.order,c∈Fq.2
 sorted:dh (GM (aO Fq.2 v.order)) Fq.1
 nu:v.sources.Nodup
 fo:bM (N q.src.xs) v.sources
 many:N Fq.1<=Ab (yu q.src.xs db) (N q.src.xs) v.sources
def iF.inC(h:iF ts q db v Fq ref){c:Int}(hc:c∈Fq.2):YT (ak ts q.src.xs).toNat Fq.2 c:=by have:=(h.cols c).1 hc;exact⟨this.1,this.2.1,hc⟩
theorem lu(ok:Ok ts q){l S:List Int}(h:dF ts q l S=T):∀i∈l,(0<=i/\i<N q.wh)/\∀x∈aG (E q.wh i.toNat lz).cs,0<=x/\x<(ak ts q.src.xs).toNat/\((au ts q.src.xs x:Nat):Int)∈S:=by
 intro i j;obtain⟨k,d,rfl⟩:=Qv j;unfold dF at h;rw[Qn]at h;have a:=h k (Zk.2 d);have e:E l k 0=l[k]:=by simp_all
 rw[e]at a;simp only[Qm,Qz]at a;obtain⟨⟨⟨f,g⟩,_⟩,b⟩:=a;refine⟨⟨f,g⟩,λx m=>?_⟩;have n:=ok.cols _ (show (l[k]).toNat<N q.wh by omega) x m;unfold lV at b;grind
theorem aaa(h:xH ts db=T){t:Int}{r:List Int}(hr:r∈vQ db t):(N r:Int)=(E ts t.toNat tz).cols/\∀x∈r,Hl x:=by
 unfold vQ at hr;obtain⟨y,hy,rfl⟩:=Zi.1 hr;unfold xH at h;rw[Qn]at h;by_cases d:t.toNat<N db
 .have b:=h t.toNat (Zk.2 d);unfold qj Dw at b;rw[Qm,Qn]at b;have a:=b.2 y hy;unfold vP at a;rw[Qm,Qz,Qn]at a;refine⟨a.1,λx g=>?_⟩;have f:=a.2 x g;unfold rU at f
  grind [Hl]
 .have e:E db t.toNat rz=rz:=by simp_all
  rw[e]at hy;cases hy
theorem D6{L R:List (List Int)}{x:List Int}:x∈jh L R↔∃a∈L,∃b∈R,x=a++b:=by grind [jh]
def dh.filter{lt:List Int->List Int->Bool}{rows:List (List Int)}(p:List Int->Bool)(h:dh lt rows):dh lt (rows.filter p):=List.Pairwise.filter p h
def acy{c:aF}(hop:c.op=0)(hno:c.not=F)(hco:c.const=F)(h:fT c xs=1):E xs c.left.toNat 0=E xs c.right.toNat 0/\E xs c.left.toNat 0≠1073741824:=by
 have e:¬(c.op=2∨c.const=T):=by simp_all
 unfold fT at h;simp only at h;rw[QC e,QC (by simp_all)]at h;generalize E xs c.left.toNat 0=X at*;generalize E xs c.right.toNat 0=Yq at*;unfold gF at h;omega
theorem Sv(ok:Ok ts q){n:ai}{r:bH}(hl:bO ts q plan n.l.toNat=O l)(hr:bO ts q plan n.r.toNat=O r)
  (h3:3<=n.kind) (h5:n.kind<=5) (hk:kP ts q n l r=T) (hls:dF ts q n.cl.xs (aC l.sources r.sources)=T) (HL:iF ts q db l L rl) (HR:iF ts q db r R rr) (hd:∀c∈R.2,c ∉ L.2) :
  (tY ts q plan n L R).filter (jo q.wh (L.2++R.2) n.cl.xs)=(jh L.1 R.1).filter (jo q.wh (L.2++R.2) n.cl.xs):=by
 unfold tY;by_cases X:n.kind=3
 .simp_all
 rw[QC X];have G:keyOf ts q plan n=eG ts q.src.xs (E q.wh n.key.toNat lz).cs l.sources r.sources:=by unfold keyOf;simp_all
 rw[G];unfold kP at hk;rw[QC (by omega),Qu (by omega)]at hk;simp only[Qm,Qz]at hk;obtain⟨⟨d,f⟩,_⟩:=hk;have k:=(lu ok hls n.key d).2;obtain⟨cs,g⟩:∃cs,(E q.wh n.key.toNat lz).cs=cs:=⟨_,rfl⟩;rw[g]at f k ⊢;unfold eG at f ⊢;by_cases c1:N cs≠1∨(E cs 0 cz).not=T∨(E cs 0 cz).const=T∨(E cs 0 cz).op≠0
 .simp_all
 rw[QC c1]at f ⊢;have t:N cs=1/\(E cs 0 cz).not=F/\(E cs 0 cz).const=F/\(E cs 0 cz).op=0:=by grind
 obtain⟨i,y,j,z⟩:=t;obtain⟨c,rfl⟩:∃c,cs=[c]:=by
  match cs,i with
  |[c],_=>simp_all
 simp only[List.getD_cons_zero]at*;have u:aG [c]=[c.left,c.right]:=by unfold aG aL;simp_all
 rw[u]at k;have e:=k c.left (by simp);have hy:=k c.right (by simp)
 -- what the key clause says of a row
 have B:∀a∈L.1,∀b∈R.1,jo q.wh (L.2++R.2) n.cl.xs (a++b)=T->E (a++b) (bI (L.2++R.2) c.left).toNat 0=E (a++b) (bI (L.2++R.2) c.right).toNat 0/\E (a++b) (bI (L.2++R.2) c.left).toNat 0≠1073741824:=by intro a _ b _ h;unfold jo at h;rw[Qn]at h;have m:=h n.key d;rw[g]at m;unfold gX at m;simp only[Zd,List.map_nil,List.any_cons,List.any_nil,Bool.or_false,Qz]at m;have C:=acy (c:=dE (L.2++R.2) c) z y j m;have K:(dE (L.2++R.2) c).right=bI (L.2++R.2) c.right:=Qu ⟨by omega,j⟩;rw[K]at C;exact C
 have P:∀x,x∈L.2->∀a∈L.1,∀b,E (a++b) (bI (L.2++R.2) x).toNat 0=bN a (bI L.2 x):=λx e a p b=>by have Q:=XW.2 e;have:=HL.lens a p;unfold bN bI;rw[List.idxOf_append,Qu e,Kb (by omega)]
 have S:∀x,x∈R.2->∀a∈L.1,∀b,E (a++b) (bI (L.2++R.2) x).toNat 0=bN b (bI R.2 x):=λx e a p b=>by have:=HL.lens a p;unfold bN bI;rw[List.idxOf_append,QC (hd x e),<-this,show ((List.idxOf x R.2+N a:Nat):Int).toNat=N a+List.idxOf x R.2 by omega,yn];rfl
 have D:∀x,0<=x/\x<((ak ts q.src.xs).toNat:Int)/\((au ts q.src.xs x:Nat):Int)∈aC l.sources r.sources->∀(v:bH) A ref,iF ts q db v A ref->((au ts q.src.xs x:Nat):Int)∈v.sources->x∈A.2:=λx e v A ref W d=>(W.cols x).2 ⟨e.1,e.2.1,d⟩;refine abU λa p b hb hp=>?_;grind
theorem zB(ok:Ok ts q):(((ak ts q.src.xs).toNat:Nat):Int)=ak ts q.src.xs/\N (bV ts q.src.xs (N q.src.xs))=(ak ts q.src.xs).toNat:=by have:=iZ ok.cat ok.src (N q.src.xs) (Qs _);grind
def Sw(l:List Int):aC l vz.sources=l:=rfl
theorem kF{ts:List ag}{q:af}(ok:Ok ts q)(plan:List ai){db:List aJ}(sP:xH ts db=T):∀(f i:Nat) (v:bH),i<f->bO ts q plan i=O v->v.out=F->iF ts q db v (bU ts q plan db f i) (eZ ts q plan db f i)
 |0,_,_,h,_,_=>by omega
 |f+1,i,v,hi,hv,hout=>by
  have hW:=zB ok;rcases lq ts q plan hv with⟨hk,h0,hs,es,eo,_⟩|⟨k2,k10,k3,k4,k5,hl0,Uy,l,hl,hn⟩|⟨k3,k5,hl0,Uy,hr0,hri,l,r,hl,hr,hn⟩
  .obtain⟨s,hse⟩:∃s:Nat,(E plan i nz).source=(s:Int):=⟨_,(Zg h0).symm⟩
   have hsl:s<N q.src.xs:=by omega
   have ef:bU ts q plan db (f+1) i=(vQ db (E q.src.xs s 0),iE ts q.src.xs (s:Int)):=by unfold bU;simp_all
   have er:eZ ts q plan db (f+1) i=(vQ db (E q.src.xs s 0)).map (rX (ak ts q.src.xs).toNat (ak ts (q.src.xs.take s)).toNat):=by unfold eZ;simp_all
   have hrow:∀r∈vQ db (E q.src.xs s 0),_:=λr hr=>aaa sP hr;have hcl:(N (iE ts q.src.xs (s:Int)):Int)=(E ts (E q.src.xs s 0).toNat tz).cols:=by
    rw[L8 ok.cat ok.src hsl,Q8,Q9];have h1:=Qo ok.src (k:=s) hsl;have e:E q.src.xs s 0=q.src.xs[s]:=by simp_all
    have h2:=qW ok.cat (i:=(q.src.xs[s]).toNat) (by omega);grind
   rw[ef,er];refine⟨?_,Cf _ _ _,?_,?_,λr hr=>(hrow r hr).2,?_,?_,?_,?_,?_⟩
   .exact QU λr hr=>abY ok.cat ok.src hsl (hrow r hr).1
   .intro c;rw[Vp,es,hse,Xj,hW.2]
   .grind
   .simp_all
   .rw[eo];exact List.pairwise_of_forall λ_ _=>rfl
   .rw[es];simp
   .rw[es];intro x hx
    simp_all
   .rw[es,abX h0 hs,hse]
    show N (vQ db _)<=_;unfold vQ yu;grind
  .obtain⟨_,ho,_,hls,hkb,es,eo,rC,_⟩:=Jg ts q hn;rw[Sw]at hls es;rw[hout]at rC;have h6:¬7<=(E plan i nz).kind:=λh=>by grind
   have hlo:l.out=false:=by grind
   have Hq:=kF ok plan sP f (E plan i nz).l.toNat l (by omega) hl hlo;by_cases hk:(E plan i nz).kind=2
   .have ef:bU ts q plan db (f+1) i=((bU ts q plan db f (E plan i nz).l.toNat).1.filter (jo q.wh (bU ts q plan db f (E plan i nz).l.toNat).2 (E plan i nz).cl.xs),(bU ts q plan db f (E plan i nz).l.toNat).2):=by
     conv=>lhs;unfold bU
     simp_all
    have er:eZ ts q plan db (f+1) i=(eZ ts q plan db f (E plan i nz).l.toNat).filter (eP q.wh (E plan i nz).cl.xs):=by
     conv=>lhs;unfold eZ
     simp_all
    rw[QC (by omega)]at eo;rw[ef,er];generalize bU ts q plan db f (E plan i nz).l.toNat=Fq at Hq ⊢;generalize eZ ts q plan db f (E plan i nz).l.toNat=G at Hq ⊢;have hcl:=lu ok hls;refine⟨?_,Hq.nodup,?_,λr hr=>Hq.lens r (Zj.1 hr).1,λr hr=>Hq.aI r (Zj.1 hr).1,?_,?_,?_,?_,?_⟩
    .rw[Hq.same,ZW];congr 1;refine List.filter_congr λr _=>?_
     exact DR λj hj x hx=>Hq.inC ((Hq.cols x).2 ((hcl j hj).2 x hx))
    .rw[es];exact Hq.cols
    .rw[eo];exact Hq.ord
    .rw[eo];exact Hq.sorted.filter _
    .rw[es];exact Hq.nu
    .rw[es];exact Hq.fo
    .rw[es];exact Q6 (XP _ _) Hq.many
   .have vZ:(E plan i nz).kind=6:=by omega
    have ef:bU ts q plan db (f+1) i=(fI (aO (bU ts q plan db f (E plan i nz).l.toNat).2 (E plan i nz).co.xs) (bU ts q plan db f (E plan i nz).l.toNat).1,(bU ts q plan db f (E plan i nz).l.toNat).2):=by
     conv=>lhs;unfold bU
     simp_all
    have er:eZ ts q plan db (f+1) i=fI (E plan i nz).co.xs (eZ ts q plan db f (E plan i nz).l.toNat):=by
     conv=>lhs;unfold eZ
     simp_all
    rw[Qu vZ]at eo;unfold kP at hkb;rw[QC hk,QC (by omega),Qu vZ]at hkb;simp only[Qm,Qn,Qz]at hkb;obtain⟨⟨hall,_⟩,hin⟩:=hkb;rw[ef,er];generalize bU ts q plan db f (E plan i nz).l.toNat=Fq at Hq ⊢;generalize eZ ts q plan db f (E plan i nz).l.toNat=G at Hq ⊢;have hco:∀c∈(E plan i nz).co.xs,c∈Fq.2:=λc hc=>(Hq.cols c).2 (by
     unfold aM at hall;simp_all)
    refine⟨?_,Hq.nodup,?_,λr hr=>Hq.lens r (Dx.1 hr),λr hr=>Hq.aI r (Dx.1 hr),?_,?_,?_,?_,?_⟩
    .rw[Hq.same];exact abS (λc hc=>Hq.inC (hco c hc)) Fq.1
    .rw[es];exact Hq.cols
    .simp_all
    .rw[eo];exact Vo _ _
    .rw[es];exact Hq.nu
    .rw[es];exact Hq.fo
    .rw[es]
     show N (fI _ _)<=_;rw[Lr];exact Hq.many
  .obtain⟨hro,ho,hwl,hls,hkb,es,eo,rC,_⟩:=Jg ts q hn;have hlo:l.out=false:=by grind
   rw[QC (by omega)]at eo;have HL:=kF ok plan sP f (E plan i nz).l.toNat l (by omega) hl hlo;have HR:=kF ok plan sP f (E plan i nz).r.toNat r (by omega) hr hro;have agm:=(yY HR.nu).1 hwl;have ef:bU ts q plan db (f+1) i=((tY ts q plan (E plan i nz) (bU ts q plan db f (E plan i nz).l.toNat) (bU ts q plan db f (E plan i nz).r.toNat)).filter (jo q.wh ((bU ts q plan db f (E plan i nz).l.toNat).2++(bU ts q plan db f (E plan i nz).r.toNat).2) (E plan i nz).cl.xs),
     (bU ts q plan db f (E plan i nz).l.toNat).2++(bU ts q plan db f (E plan i nz).r.toNat).2):=by
    conv=>lhs;unfold bU
    grind
   have er:eZ ts q plan db (f+1) i=((eZ ts q plan db f (E plan i nz).l.toNat).flatMap λa=>(eZ ts q plan db f (E plan i nz).r.toNat).map λb=>jF ts q.src.xs a b r.sources).filter (eP q.wh (E plan i nz).cl.xs):=by
    conv=>lhs;unfold eZ
    grind
   have hcl:=lu ok hls;have hjk:=Sv (plan:=plan) (n:=E plan i nz) ok hl hr k3 k5 hkb hls HL HR (λc hc h=>agm _ ((HR.cols c).1 hc).2.2 ((HL.cols c).1 h).2.2);rw[ef,er,hjk];generalize bU ts q plan db f (E plan i nz).l.toNat=L at HL ⊢;generalize eZ ts q plan db f (E plan i nz).l.toNat=GL at HL ⊢;generalize bU ts q plan db f (E plan i nz).r.toNat=R at HR ⊢;generalize eZ ts q plan db f (E plan i nz).r.toNat=GR at HR ⊢;have hd:∀c∈R.2,c ∉ L.2:=λc hc h=>agm _ ((HR.cols c).1 hc).2.2 ((HL.cols c).1 h).2.2;have xg:∀c,c∈L.2++R.2↔0<=c/\c<(ak ts q.src.xs).toNat/\((au ts q.src.xs c:Nat):Int)∈aC l.sources r.sources:=λc=>by rw[Ze,HL.cols,HR.cols,nH];grind
   have arz:∀x∈jh L.1 R.1,N x=N (L.2++R.2):=λx hx=>by obtain⟨a,ha,b,hb,rfl⟩:=D6.1 hx;grind [iF.lens]
   refine⟨?_,?_,?_,λx hx=>arz x (Zj.1 hx).1,?_,?_,?_,?_,?_,?_⟩
   .have e1:(GL.flatMap λa=>GR.map λb=>jF ts q.src.xs a b r.sources)=(jh L.1 R.1).map (fu (ak ts q.src.xs).toNat (L.2++R.2)):=by
     rw[HL.same,HR.same];unfold jh;rw[List.flatMap_map,List.map_flatMap];have hone:∀a∈L.1,(List.map (λb=>jF ts q.src.xs (fu (ak ts q.src.xs).toNat L.2 a) b r.sources) (R.1.map (fu (ak ts q.src.xs).toNat R.2)))=List.map (fu (ak ts q.src.xs).toNat (L.2++R.2)) (R.1.map λb=>a++b):=λa ha=>by rw[Zm,Zm];refine QU λb _=>?_;refine abT (HL.lens a ha) hd λc hc=>?_;rw[HR.cols];simp_all
     have:∀(A:List (List Int)),(∀a∈A,a∈L.1)->(A.flatMap λa=>List.map (λb=>jF ts q.src.xs (fu (ak ts q.src.xs).toNat L.2 a) b r.sources) (R.1.map (fu (ak ts q.src.xs).toNat R.2)))=A.flatMap λa=>List.map (fu (ak ts q.src.xs).toNat (L.2++R.2)) (R.1.map λb=>a++b):=by
      intro A
      induction A with
      |nil=>intro _;rfl
      |cons a A ih =>
       simp_all
     simp_all
    rw[e1,ZW];congr 1;refine List.filter_congr λx _=>?_;refine DR λj hj c hc=>?_;have h1:=(xg c).2 ((hcl j hj).2 c hc);have h2:=(xg c).1 h1;exact⟨h2.1,h2.2.1,h1⟩
   .rw[List.nodup_append]
    grind [iF.nodup]
   .simp_all
   .intro x hx y hy;obtain⟨a,ha,b,hb,rfl⟩:=D6.1 (Zj.1 hx).1
    grind [iF.aI]
   .rw[eo];intro c hc
    grind [iF.ord]
   .rw[eo];exact(Vn HL.lens HL.ord HL.sorted).filter _
   .rw[es];exact iP HL.nu
   .rw[es];exact HL.fo.with HR.fo
   .rw[es,Hu agm];refine Q6 (XP _ _) ?_;rw[abV];exact Nat.mul_le_mul HL.many HR.many
structure aab(ts:List ag)(q:af):Prop where
 aH:aM q.aH.xs (ak ts q.src.xs)=T
 keys:aM q.keys.xs (ak ts q.src.xs)=T
 sums:aM q.sums.xs (ak ts q.src.xs)=T
def acz(hs:bM (N q.src.xs) v.sources)(hd:v.sources.Nodup)(hw:rT q v=T):∀k,k<N q.src.xs->(k:Int)∈v.sources:=λk e=>by unfold rT at hw;rw[Qm,Qz]at hw;have b:=(Dq hs hd).2 hw.1;have d:=QZ (l:=v.sources) (λx a=>(hs x a).1) k;simp_all
def iF.every(ok:Ok ts q)(h:iF ts q db v Fq ref)(hw:rT q v=T)(hc:aM cs (ak ts q.src.xs)=T):∀c∈cs,c∈Fq.2:=λc b=>by unfold aM at hc;rw[Qn]at hc;have a:=hc c b;simp only[Qm,Qz]at a;have d:=zB ok;exact(h.cols c).2 ⟨a.1,by omega,acz h.fo h.nu hw _ (Za ok.cat ok.src a.1 a.2).1⟩
theorem Iw{C:List Int}(hn:N C=n)(h:∀c∈cs,c∈C):aM (aO C cs) (n:Int)=true:=by grind [aM,aO,bI]
theorem Og{ts:List ag}{q:af}(ok:Ok ts q)(oo:aab ts q)(plan:List ai){db:List aJ}(sP:xH ts db=T)(sw:fH q.src.xs db<=20000):∀(f i:Nat) (v:bH),i<f->bO ts q plan i=O v->v.out=T->
  mi ts q plan db f i=eZ ts q plan db f i
 |0,_,_,h,_,_=>by omega
 |f+1,i,v,hi,hv,hout=>by
  rcases lq ts q plan hv with⟨m,h0,hs,A,B,t⟩|⟨k2,k10,k3,k4,k5,hl0,Uy,l,hl,hn⟩|⟨k3,k5,hl0,Uy,hr0,hri,l,r,hl,D,hn⟩
  .simp_all
  .obtain⟨_,t,_,z,g,A,B,j,_⟩:=Jg ts q hn;rw[hout]at j;have K:7<=(E plan i nz).kind:=Zn j.symm;by_cases m:(E plan i nz).kind=10
   .have L:=Og ok oo plan sP sw f (E plan i nz).l.toNat l (by omega) hl (t.2 m);unfold mi eZ
    simp_all
   .have e:l.out=false:=by simp_all
    have a:=kF ok plan sP f (E plan i nz).l.toNat l (by omega) hl e;unfold kP at g;have d:rT q l=true:=by grind
    conv=>lhs;unfold mi;rw[QC m]
    conv=>rhs;unfold eZ;rw[QC (by omega),QC (by omega)]
    generalize bU ts q plan db f (E plan i nz).l.toNat=Fq at a ⊢;generalize eZ ts q plan db f (E plan i nz).l.toNat=G at a ⊢;by_cases p:(E plan i nz).kind=9
    .rw[Qu p,QC (by omega),Qu p,a.same,Zm];refine QU λr _=>?_
     exact(zm λc b=>a.inC (a.every ok d oo.aH c b)).symm
    .rw[QC p,Qu (by omega),a.same,Rq (λc b=>a.inC (a.every ok d oo.keys c b)) (λc b=>a.inC (a.every ok d oo.sums c b))];refine Vj ?_ ?_
     .have u:=yt (cnt:=yu q.src.xs db) (n:=N q.src.xs) (λk=>by unfold yu;omega) l.sources;rw[<-yw]at u;have:=a.many;omega
     .intro r D c b;unfold aO at b;obtain⟨x,C,rfl⟩:=Zi.1 b;have y:=XW.2 (a.every ok d oo.sums x C)
      grind [Hl,iF.aI]
  .obtain⟨_,_,_,_,_,_,_,j,_⟩:=Jg ts q hn
   grind
theorem IB{l s:List Int}(h:dF ts q l s=T):N l<=N q.wh:=by
 have b:=lX h;unfold dF at h;rw[Qn]at h;have a:∀i,i<N l->(i:Int)<=E l i 0:=by
  intro i
  induction i with
  |zero=>simp_all
  |succ i ih =>
   grind
 grind
def agv(ok:Ok ts q){n:ai}{r:bH}(h45:n.kind=4∨n.kind=5)(hk:kP ts q n l r=T)(hls:dF ts q n.cl.xs (aC l.sources r.sources)=T)(HL:iF ts q db l L rl)(HR:iF ts q db r R rr) :
  n.key∈n.cl.xs/\(eG ts q.src.xs (E q.wh n.key.toNat lz).cs l.sources r.sources).2.2=T/\(eG ts q.src.xs (E q.wh n.key.toNat lz).cs l.sources r.sources).1∈L.2/\(eG ts q.src.xs (E q.wh n.key.toNat lz).cs l.sources r.sources).2.1∈R.2:=by
 unfold kP at hk;rw[QC (by omega),Qu h45]at hk;simp only[Qm,Qz]at hk;obtain⟨⟨d,a⟩,_⟩:=hk;refine⟨d,a,?_⟩;have g:=(lu ok hls n.key d).2;generalize (E q.wh n.key.toNat lz).cs=cs at*;unfold eG at a ⊢;by_cases j:N cs≠1∨(E cs 0 cz).not=T∨(E cs 0 cz).const=T∨(E cs 0 cz).op≠0
 .simp_all
 rw[QC j]at a ⊢;have b:N cs=1:=by omega
 obtain⟨c,rfl⟩:∃c,cs=[c]:=by
  match cs,b with
  |[c],_=>simp_all
 simp only[List.getD_cons_zero]at*;have i:aG [c]=[c.left,c.right]:=by unfold aG aL;simp_all
 rw[i]at g;have e:=g c.left (by simp);have hy:=g c.right (by simp);by_cases f:((au ts q.src.xs c.left:Nat):Int)∈l.sources/\((au ts q.src.xs c.right:Nat):Int)∈r.sources
 .rw[Qu f];exact⟨(HL.cols _).2 ⟨e.1,e.2.1,f.1⟩,(HR.cols _).2 ⟨hy.1,hy.2.1,f.2⟩⟩
 .rw[QC f]at a ⊢;simp only[Qm,Qz]at a;exact⟨(HL.cols _).2 ⟨hy.1,hy.2.1,a.1⟩,(HR.cols _).2 ⟨e.1,e.2.1,a.2⟩⟩
theorem agw(ok:Ok ts q)(h5:N q.src.xs<=5)(ha:aM xs (ak ts q.src.xs)=T)(hp:dI xs=T):N xs<=1000:=by
 unfold aM at ha;rw[Qn]at ha;have a:=Qp ok.cat ok.src (N q.src.xs) (Qs _);rw[Zb]at a;have b:=uM (n:=(ak ts q.src.xs).toNat) (s:=xs) (λc d=>by
  grind) (EI hp)
 omega
def iF.arC(h:iF ts q db v Fq ref){k:Int}(hs:aY v.order [k]=T):Cc (bI Fq.2 k) Fq.1:=by
 have a:=h.sorted;unfold aY at hs;simp only[Qm,Qz]at hs
 cases ho:v.order with
 |nil=>simp_all
 |cons x xs =>
  rw[ho]at hs a;have:x=k:=by simp_all
  subst this;exact abW a
theorem iF.aad(ok:Ok ts q)(h5:N q.src.xs<=5)(hm:fH q.src.xs db<=20000)(h:iF ts q db v Fq ref):N Fq.1<=1000000/\N Fq.2<=1000/\∀r∈Fq.1,∀x∈r,-2147483648<=x/\x<=2147483648:=by
 refine⟨?_,?_,λr b x d=>?_⟩
 .have a:=yt (cnt:=yu q.src.xs db) (n:=N q.src.xs) (λk=>by unfold yu;omega) v.sources;rw[<-yw]at a;have:=h.many;omega
 .have a:=uM (n:=(ak ts q.src.xs).toNat) (s:=Fq.2) (λc e=>by have:=(h.cols c).1 e;omega) h.nodup;have f:=Qp ok.cat ok.src (N q.src.xs) (Qs _)
  grind
 .have:=h.aI r b x d;unfold Hl at this;omega
def SS(ok:Ok ts q){n:ai}{r:bH}(hl:bO ts q plan n.l.toNat=O l)(hr:bO ts q plan n.r.toNat=O r)(h3:3<=n.kind)(h5:n.kind<=5)(hk:kP ts q n l r=T)(HL:iF ts q db l L rl)(HR:iF ts q db r R rr) :
  (if n.kind=3 then jh L.1 R.1 else if n.kind=4 then jG (bI L.2 (keyOf ts q plan n).1) (bI R.2 (keyOf ts q plan n).2.1) L.1 R.1 else gH (bI L.2 (keyOf ts q plan n).1) (bI R.2 (keyOf ts q plan n).2.1) L.1 R.1)=tY ts q plan n L R:=by
 unfold tY;by_cases b:n.kind=3
 .simp_all
 rw[QC b,QC b];by_cases d:n.kind=4
 .simp_all
 rw[QC d];unfold kP at hk;rw[QC (by omega),Qu (by omega)]at hk;simp only[Qm,Bool.or_eq_true,Qz]at hk;have a:=hk.2.resolve_left d;have e:keyOf ts q plan n=eG ts q.src.xs (E q.wh n.key.toNat lz).cs l.sources r.sources:=by unfold keyOf;simp_all
 rw[e];exact Vm (HL.arC a.1) (HR.arC a.2)
def Bj(ok:Ok ts q){pl:List ai}{ds:List gz}(h:fQ ts q pl=O ds):1<=N pl/\N ds=N pl/\EJ ts q pl ds/\∃v,bO ts q pl (N pl-1)=O v/\v.out=true:=by
 unfold fQ at h;by_cases g:dD pl=F
 .simp_all
 rw[QC g]at h;have a:dD pl=true:=by simp_all
 unfold dD at a;simp only[Qm,Qz]at a;obtain⟨⟨⟨e,_⟩,b⟩,_⟩:=a;rw[Qn]at b;rcases AQ ok pl (N pl) (λi f=>b i (Zk.2 f)) with⟨h2,_⟩|⟨ps,h2,h3,h4⟩
 .simp_all
 .rw[h2]at h;simp only[Zr]at h;split at h
  .rename_i ho
   cases h;rw[Qm]at ho;obtain⟨v,d,_⟩:=h4 (N pl-1) (by omega);exact⟨e,h3,h4,v,d,by rw[(qi d).2.1];exact ho.1⟩
  .cases h
theorem SV{n:ai}{x:List Int}(h:x∈tY ts q plan n L R):∃a∈L.1,∃b∈R.1,x=a++b:=by
 unfold tY at h;split at h
 .exact D6.1 h
 .unfold jG at h
  grind
theorem Wd(ts:List ag)(q:af)(pl:List ai)(db:List aJ):∀(i:Nat) {v:bH},bO ts q pl i=O v->v.out=F->∀f g,i<f->i<g->bU ts q pl db f i=bU ts q pl db g i:=by
 intro i
 induction i using Nat.strongRecOn with
 |ind i ih =>
  intro v p b f g A B;obtain⟨f,rfl⟩:∃k,f=k+1:=⟨f-1,by omega⟩;obtain⟨g,rfl⟩:∃k,g=k+1:=⟨g-1,by omega⟩;rcases lq ts q pl p with⟨hk,h0,hs,es,eo,_⟩|⟨k2,k10,k3,k4,k5,hl0,Uy,l,hl,hn⟩|⟨k3,k5,hl0,Uy,hr0,hri,l,r,hl,hr,hn⟩
  .unfold bU
   simp_all
  .obtain⟨_,n,_,_,_,_,_,e,_⟩:=Jg ts q hn;rw[b]at e;have t:¬7<=(E pl i nz).kind:=λh=>by grind
   have a:l.out=false:=by grind
   have j:=ih (E pl i nz).l.toNat (by omega) hl a f g (by omega) (by omega);have m:¬(E pl i nz).kind=1:=by omega
   unfold bU;grind
  .obtain⟨d,n,_,_,_,_,_,e,_⟩:=Jg ts q hn;have a:l.out=false:=by grind
   have j:=ih (E pl i nz).l.toNat (by omega) hl a f g (by omega) (by omega);have u:=ih (E pl i nz).r.toNat (by omega) hr d f g (by omega) (by omega);have m:¬(E pl i nz).kind=1:=by omega
   have y:¬(E pl i nz).kind=2:=by omega
   have z:¬(E pl i nz).kind=6:=by omega
   unfold bU;simp_all
theorem acE(ts:List ag)(q:af)(pl:List ai)(db:List aJ):∀{i:Nat} {v:bH},bO ts q pl i=O v->v.out=T->∀f g,i<f->i<g->mi ts q pl db f i=mi ts q pl db g i:=by
 intro i
 induction i using Nat.strongRecOn with
 |ind i ih =>
  intro v m d f g n p;obtain⟨f,rfl⟩:∃k,f=k+1:=⟨f-1,by omega⟩;obtain⟨g,rfl⟩:∃k,g=k+1:=⟨g-1,by omega⟩;rcases lq ts q pl m with⟨b,h0,hs,es,eo,e⟩|⟨k2,k10,k3,k4,k5,hl0,Uy,l,hl,hn⟩|⟨k3,k5,hl0,Uy,hr0,hri,l,r,hl,hr,hn⟩
  .simp_all
  .obtain⟨_,e,_,_,_,_,_,j,_⟩:=Jg ts q hn;by_cases b:(E pl i nz).kind=10
   .unfold mi
    grind
   .have a:l.out=false:=by simp_all
    unfold mi;rw[QC b,QC b,Wd ts q pl db _ hl a f g (by omega) (by omega)]
  .obtain⟨_,_,_,_,_,_,_,j,_⟩:=Jg ts q hn
   grind
def aqh{len i:Nat}(ha:a=p)(hm:m=p+1)(hb:b=p+1+lb)(hlen:b<=len)(hl:len<=1000000):m=a+1/\a<len/\b<=1000000/\m<=b:=by omega
theorem Bc.len{x:ae}(h:Bc lt x B m i j B1 B2 B3)(e:B2=B4++z::B5):N B=N B1+(N B4+(N B5+1))+N B3:=by rw[h.eq,e];grind
theorem Bd.len{x:ae}(h:Bd lt x B m i j B1 B2 B3)(e:B2=B4++z::B5):N B=N B1+(N B4+(N B5+1))+N B3:=by rw[h.eq,e];grind
def aqi(h:c=p+1+b1+b4):c=p+(b1+b4+1):=by omega
def DW{k1:Nat}(h:k1=k+1)(hk:k<=1000000):wrap64 ((k:Int)+1)=(k1:Int)/\((k:Int)+1).toNat=k1/\(k:Int)+1=(k1:Int):=by unfold wrap64;omega
def aqj(h:k<i-1):k+1<=i:=by omega
def Ck(h:c=(i+j) / 2):((i:Int)+(j:Int)) / 2=(c:Int):=by omega
def aqk{len:Nat}(hm:m=p+1)(hb:b=p+1+lb)(hlen:b<=len)(hl:len<=1000000)(hB:lb=b1+(b4+(b5+1))+b3)(ec:c=m+b1+b4):c=p+1+b1+b4/\c<len/\c+1<=1000000/\(c:Int)<(len:Int):=by omega
def aql{len:Nat}(ha:a=p)(hm:m=p+1)(hi:i=m+(l1+(l2+1)))(hb:b=p+1+lb)(hlen:b<=len)(hl:len<=1000000)(hB:lb=l1+(l2+1)+l3):a+l1<i-1/\a+l1=p+l1/\a+l1+1=p+l1+1+0/\a+l1+1<len/\a+l1<len/\1<=i/\i<=1000000/\a+l1+1=a+(l1+1):=by omega
def aqm(ha:a=p)(hm:m=p+1)(hi:i=m+l1):¬a+l1<i-1/\1<=i:=by omega
def RV(aT cap len a m b g:Nat)(lb:Array KX)(cf:ae->ae->Int)(ok:ae->Prop)(w0:U)(hC:RP V g lb cf aT w0 ok)(eg:∀args w,(callFunc g args).run V w=.ok (.enter g args) w)(Oq:kU (jd cf))
  (P B Q:List ae) (x:ae) (R:List KX) (w:U) (hG:GB w aT 23 (SL (P++x::B++Q) R)) (hB:dh (jd cf) B) (hx:ok x) (hok:∀y∈B,ok y) (hK:Kept (λb=>b≠aT) w0 w) (ha:a=N P) (hm:m=N P+1) (hb:b=N P+1+N B) (hlen:b<=len) (hl:len<=1000000) :
  Calls V 177 #[Z (O (aD aT 0)) len cap,I J a,I J m,I J b,.func (.func g) #[] lb] w λe w'=>e=FR (Ph #[])/\GB w' aT 23 (SL (P++mg (jd cf) [x] B++Q) R)/\Kept (λb=>b≠aT) w w':=by
 have ag:=aqh (i:=0) ha hm hb hlen hl;have ah:wrap64 ((m:Int)-(a:Int))=1:=by unfold wrap64;omega
 have HG:=Zh hG;have HC:Wl _:=hC;obtain⟨HO,HX⟩:=aV hok hx;have HB:Wl _:=hB;obtain⟨HK,f,HN⟩:=fe hK (X4 ha (X4 hm (X4 hb (X4 hlen hl)))) ag;clear hG hC hok hx hB hK ha hm hb hlen hl ag;go_enter Tryz.func177,Tryz.ntmps177;go_wp2;simp only[ah];clear ah;go_loopw [10,11] (λiv jv wr=>∃(i j n:Nat) (B1 B2 d:List ae),iv=I J i/\jv=I J j/\i<=j/\j<=1000000/\wr=w.drewN n/\Wl (Bc (jd cf) x B m i j B1 B2 d)) (λiv jv _=>(intOf jv).toNat-(intOf iv).toNat)
 case atStart=>exact⟨m,b,0,[],B,[],rfl,rfl,HN.o.2.2.2,HN.o.2.2.1,rfl,by simp,rfl,by have:=f.o;simp;omega,λy hy=>(by cases hy),λy hy=>(by cases hy)⟩
 case round=>
  obtain⟨i,j,n,B1,B2,d,rfl,rfl,az,hj,rfl,l⟩:=hrel;by_cases ax:i<j
  .have hh:=NT ax;obtain⟨c,hc⟩:∃c,c=(i+j) / 2:=⟨_,rfl⟩
   rw[<-hc]at hh;have ai:=Zh (Ck hc);clear hc;obtain⟨B4,z,B5,e2,ec,f1,f2⟩:=l.o.step Oq HB.o hh;have u:=l.o.len e2;have D:=aqk f.o.2.1 f.o.2.2.1 f.o.2.2.2.1 f.o.2.2.2.2 u ec;have ez:P++x::B++Q=(P++x::(B1++B4))++z::(B5++d++Q):=by rw[l.o.eq,e2];simp
   have kz:=(HG.o.drewN n).yB ez (i:=c) (by simp only[QI,QJ];exact aqi D.1);have kx:=(HG.o.drewN n).yB (A:=P) (C:=B++Q) (x:=x) (by simp) (i:=a) f.o.1;have hz:=HO.o z (by rw[l.o.eq,e2];simp);have aJ:=HN.o.2.1;have aK:=D.2.1;have aL:=D.2.2.1;have v:∀q,Calls V g (#[z.val,x.val]++lb) ((w.drewN n).drewN q) λe W'=>e=FR (I J (cf z x))/\∃m,W' = ((w.drewN n).drewN q).drewN m:=λq=>HC.o _ z x ((HK.o.trans (Xv _ _)).trans (Xv _ _)) hz HX.o;obtain⟨aA,aB,HH⟩:=fe f1 f2 hh;clear f1 f2 D ez hz u e2 ec l hh;obtain⟨wq,p⟩:=eX (w.drewN n);have HQ:=Zh p;rw[p]at kz kx v ⊢;clear p;obtain⟨fO,bF,gM⟩:=x;obtain⟨aC,aF,aG⟩:=z;unfold ae.val at kz kx v;simp only at kz kx v;by_cases ay:cf ⟨aC,aF,aG⟩ ⟨fO,bF,gM⟩<0
   .go_upto_region 5 with fail;rw[ai.o];go_quiet (first|(go_at_fn g;refine X7 (v _)));go_wp2;go_roundw
    case rel=>exact⟨c+1,j,n+nq,_,_,_,by go_num,rfl,HH.o.2,hj,by rw[<-HQ.o,XE],aA.o (Cj ay)⟩
    case measure=>have:=HH.o;simp[intOf];omega
   .go_upto_region 5 with fail;rw[ai.o];go_quiet (first|(go_at_fn g;refine X7 (v _)));go_wp2;go_roundw
    case rel=>exact⟨i,c,n+nq,_,_,_,rfl,rfl,HH.o.1,by have:=HH.o;omega,by rw[<-HQ.o,XE],aB.o (zw ay)⟩
    case measure=>have:=HH.o;simp[intOf];omega
  .obtain rfl:i=j:=by omega
   have h1:=l.o.li;have h2:=l.o.lj;obtain rfl:B2=[]:=QF (by omega);have eB:B=B1++d:=by rw[l.o.eq];simp
   have G:mg (jd cf) [x] B=B1++x::d:=by rw[eB];exact afr l.o.lo l.o.hi (by rw[<-eB];exact HB.o)
   have xD:=Zh G;have u:N B=N B1+N d:=by rw[eB];simp
   have W:1<=i/\i<=1000000:=by have:=f.o;omega
   have aj:GB (w.drewN n) aT 23 (SL (P++[]++x::B1++d++Q) R):=by
    have h:=HG.o.drewN n;have e:P++[]++x::B1++d++Q=P++x::B++Q:=by rw[eB];simp
    rw[e];exact h
   have ak:Wl _:=aj;have HL:=Zh (X4 h1 u);clear l h1 h2 eB G u aj hj az ax;have nJ:Kept (λb=>b≠aT) w (w.drewN n):=Xv _ _;have xI:=Zh nJ;clear nJ;obtain⟨wq,p⟩:=eX (w.drewN n);rw[p]at ak xI ⊢;clear p;go_wp2;go_loopw [13] (λkv wr=>∃(k:Nat) (t C2:List ae),kv=I J k/\k<=i/\Wl (B1=t++C2/\k=a+N t/\GB wr aT 23 (SL (P++t++x::C2++d++Q) R)/\Kept (λb=>b≠aT) w wr)) (λkv _=>i-(intOf kv).toNat)
   case atStart=>exact⟨a,[],B1,rfl,by have:=f.o;have:=HL.o;omega,rfl,rfl,ak.o,xI.o⟩
   case round=>
    obtain⟨k,t,C2,rfl,aa,HJ⟩:=hrel;obtain⟨S,ek,hg,hk⟩:=HJ.o
    cases C2 with
    |nil =>
     rw[QN]at S;have NS:=aqm f.o.1 f.o.2.1 HL.o.1;rw[S,<-ek]at NS;have aM:¬((k:Int)<((i-1:Nat):Int)):=by omega
     have hF:GB wr aT 23 (SL (P++(B1++x::d)++Q) R)/\Kept (λb=>b≠aT) w wr:=by
      refine⟨?_,hk⟩;have e:P++(B1++x::d)++Q=P++t++x::[]++d++Q:=by rw[S];simp
      rw[e];exact hg
     have l:=Zh hF;clear hF hg hk ek S HJ NS;go_wp2;refine X0 (Xa rfl _ _ _) rfl ?_;exact⟨rfl,by rw[xD.o];have h:=l.o.1;rw[Zu]at h;exact h,l.o.2⟩
    |cons y C3 =>
     have au:i=m+(N t+(N C3+1)):=by rw[HL.o.1,S,QI];rfl
     have av:N B=N t+(N C3+1)+N d:=by rw[HL.o.2,S,QI];rfl
     have K:=aql f.o.1 f.o.2.1 au f.o.2.2.1 f.o.2.2.2.1 f.o.2.2.2.2 av;rw[<-ek]at K;have e:P++t++x::(y::C3)++d++Q=(P++t)++x::[]++y::(C3++d++Q):=by simp
     have L:=hg.RN e (i1:=k) (i2:=k+1) (by rw[QI];exact K.2.1) (by rw[QI];exact K.2.2.1);have aN:=Int.ofNat_lt.2 K.1;have h1:=K.2.2.2.1;have h2:=K.2.2.2.2.1;obtain⟨af,aH,aI⟩:=fe K hk S;obtain⟨k1,r⟩:=eY (k+1);have aO:=(DW r (Q6 aa W.2)).1;have e0:=(DW r (Q6 aa W.2)).2.1;have e1:=(DW r (Q6 aa W.2)).2.2;have rH:=Zh r;rw[<-r]at L h1;obtain⟨fO,bF,gM⟩:=x;obtain⟨uk,jb,uB⟩:=y;have c1:=L.c1;have c2:=L.c2;have z1:=L.z1;have z2:=L.z2;have aP:=L.ne;have X:=L.up;unfold ae.val at c1 c2 X;simp only at c1 c2 X;have HU:=Zh X;clear L X hg hk ek S HJ K e r au av;go_wp2;go_region;have X:=HU.o;clear HU;generalize ((wr.setCell { block:=aT,off:=k } (Value.slice uk (N uB) jb)).setCell { block:=aT,off:=k1 } (Value.slice fO (N gM) bF)).drew=wf at*;have HU:=Zh X;clear X;go_wp2;go_roundw
     case rel=>
      refine⟨k1,t++[ae.mk uk jb uB],C3,by first|rfl|(rw[e1])|go_num,by rw[rH.o];exact(aqj af.o.1),by rw[aI.o,Zu];rfl,by rw[rH.o,QI];exact af.o.2.2.2.2.2.2.2,?_,aH.o.trans HU.o.2⟩;have h:=HU.o.1;have e:P++(t++[ae.mk uk jb uB])++ae.mk fO bF gM::C3++d++Q=P++t++ae.mk uk jb uB::[]++ae.mk fO bF gM::(C3++d++Q):=by simp
      rw[e];exact h
     case measure=>have h1:=rH.o;have h2:=af.o.1;simp[intOf];omega
def aqp{len:Nat}(ha:a=p)(hm:m=p+la)(hb:b=p+la+1)(hlen:b<=len)(hl:len<=1000000)(h2:2<=la):wrap64 ((m:Int)-(a:Int))=(la:Int)/\wrap64 ((b:Int)-(m:Int))=1/\a<=m/\m<=1000000/\m<len/\((la:Int)==1)=F/\m=a+la:=by
 have h:¬(la:Int)=1:=by omega
 refine⟨by unfold wrap64;omega,by unfold wrap64;omega,by omega,by omega,by omega,by simpa using h,by omega⟩
def aqr{len:Nat}(ha:a=p)(hb:b=p+la+1)(hlen:b<=len)(hl:len<=1000000)(hA:la=b1+(b4+(b5+1))+b3)(ec:c=a+b1+b4):c=p+(b1+b4)/\c<len/\c+1<=1000000:=by omega
def aqs{c3 a1 len:Nat}(ha:a=p)(hi:i=a+a1)(hk:k=i+(c3+1))(h:k=kp+1)(hkm:k<=m)(hm:m<len)(hl:len<=1000000):kp=p+a1+c3/\kp+1=p+a1+c3+1+0/\kp+1<len/\kp<len/\i<kp+1/\kp=i+c3/\kp<=m/\kp+1<=1000000:=by omega
def aqt{len:Nat}(h1:i<kp+1)(h2:kp+1<len)(h3:kp+1<=1000000):(i:Int)<(kp:Int)+1/\(kp:Int)+1<(len:Int)/\(kp:Int)<(len:Int)/\(0:Int)<=(kp:Int)+1/\((kp:Int)+1).toNat=kp+1/\IntKind.i64.wrap (kp:Int)=(kp:Int):=by refine⟨by omega,by omega,by omega,by omega,by omega,by rw[XG];omega⟩
def NU(aT cap len a m b g:Nat)(lb:Array KX)(cf:ae->ae->Int)(ok:ae->Prop)(w0:U)(hC:RP V g lb cf aT w0 ok)(eg:∀args w,(callFunc g args).run V w=.ok (.enter g args) w)(Oq:kU (jd cf))
  (P A Q:List ae) (x:ae) (R:List KX) (w:U) (hG:GB w aT 23 (SL (P++A++x::Q) R)) (hB:dh (jd cf) A) (hx:ok x) (hok:∀y∈A,ok y) (hK:Kept (λb=>b≠aT) w0 w) (ha:a=N P) (hm:m=N P+N A) (hb:b=N P+N A+1) (hlen:b<=len) (hl:len<=1000000) (h2:2<=N A) :
  Calls V 177 #[Z (O (aD aT 0)) len cap,I J a,I J m,I J b,.func (.func g) #[] lb] w λe w'=>e=FR (Ph #[])/\GB w' aT 23 (SL (P++mg (jd cf) A [x]++Q) R)/\Kept (λb=>b≠aT) w w':=by
 have l:=aqp ha hm hb hlen hl h2;have X:=l.1;have aa:=l.2.1;have af:=l.2.2.2.2.2.1;have uK:=l.2.2.2.2.1;have HG:=Zh hG;have HC:Wl _:=hC;obtain⟨HO,HX⟩:=aV hok hx;have HB:Wl _:=hB;obtain⟨HK,S,HN⟩:=fe hK (X4 ha (X4 hm (X4 hb (X4 hlen hl)))) l;clear hG hC hok hx hB hK ha hm hb hlen hl l;go_enter Tryz.func177,Tryz.ntmps177;go_wp2;simp only[X,aa,af];clear X aa af h2;go_loopw [14,15] (λiv jv wr=>∃(i j n:Nat) (B1 B2 d:List ae),iv=I J i/\jv=I J j/\i<=j/\j<=1000000/\wr=w.drewN n/\Wl (Bd (jd cf) x A a i j B1 B2 d)) (λiv jv _=>(intOf jv).toNat-(intOf iv).toNat)
 case atStart=>exact⟨a,m,0,[],A,[],rfl,rfl,HN.o.2.2.1,HN.o.2.2.2.1,rfl,by simp,rfl,HN.o.2.2.2.2.2.2,λy hy=>(by cases hy),λy hy=>(by cases hy)⟩
 case round=>
  obtain⟨i,j,n,B1,B2,d,rfl,rfl,aC,hj,rfl,f⟩:=hrel;by_cases ay:i<j
  .have hh:=NT ay;obtain⟨c,hc⟩:∃c,c=(i+j) / 2:=⟨_,rfl⟩
   rw[<-hc]at hh;have ag:=Zh (Ck hc);clear hc;obtain⟨B4,z,B5,e2,ec,f1,f2⟩:=f.o.step Oq HB.o hh;have ah:=f.o.len e2;have t:=aqr S.o.1 S.o.2.2.1 S.o.2.2.2.1 S.o.2.2.2.2 ah ec;have ez:P++A++x::Q=(P++(B1++B4))++z::(B5++d++x::Q):=by rw[f.o.eq,e2];simp
   have kz:=(HG.o.drewN n).yB ez (i:=c) (by simp only[QI];exact t.1);have kx:=(HG.o.drewN n).yB (A:=P++A) (C:=Q) (x:=x) rfl (i:=m) (by rw[QI];exact S.o.2.1);have hz:=HO.o z (by rw[f.o.eq,e2];simp);have aN:=t.2.1;have aO:=t.2.2;have r:∀q,Calls V g (#[x.val,z.val]++lb) ((w.drewN n).drewN q) λe W'=>e=FR (I J (cf x z))/\∃m,W' = ((w.drewN n).drewN q).drewN m:=λq=>HC.o _ x z ((HK.o.trans (Xv _ _)).trans (Xv _ _)) HX.o hz;obtain⟨aF,aG,HH⟩:=fe f1 f2 hh;clear f1 f2 t ez hz ah e2 ec f hh;obtain⟨wq,p⟩:=eX (w.drewN n);have HQ:=Zh p;rw[p]at kz kx r ⊢;clear p;obtain⟨fO,bF,gM⟩:=x;obtain⟨aH,aI,aJ⟩:=z;unfold ae.val at kz kx r;simp only at kz kx r;by_cases az:cf ⟨fO,bF,gM⟩ ⟨aH,aI,aJ⟩<0
   .go_upto_region 17 with fail;rw[ag.o];go_quiet (first|(go_at_fn g;refine X7 (r _)));go_wp2;go_roundw
    case rel=>exact⟨i,c,n+nq,_,_,_,rfl,rfl,HH.o.1,by have:=HH.o;omega,by rw[<-HQ.o,XE],aG.o (Cj az)⟩
    case measure=>have:=HH.o;simp[intOf];omega
   .go_upto_region 17 with fail;rw[ag.o];go_quiet (first|(go_at_fn g;refine X7 (r _)));go_wp2;go_roundw
    case rel=>exact⟨c+1,j,n+nq,_,_,_,by go_num,rfl,HH.o.2,hj,by rw[<-HQ.o,XE],aF.o (zw az)⟩
    case measure=>have:=HH.o;simp[intOf];omega
  .obtain rfl:i=j:=by omega
   have h1:=f.o.li;have h2:=f.o.lj;obtain rfl:B2=[]:=QF (by omega);have eB:A=B1++d:=by rw[f.o.eq];simp
   have B:mg (jd cf) A [x]=B1++x::d:=by rw[eB];exact aiS f.o.lo f.o.hi
   have xD:=Zh B;have YP:m=i+N d:=by rw[h1,HN.o.2.2.2.2.2.2,eB,QI,Nat.add_assoc]
   have ai:GB (w.drewN n) aT 23 (SL (P++B1++d++x::[]++Q) R):=by
    have h:=HG.o.drewN n;have e:P++B1++d++x::[]++Q=P++A++x::Q:=by rw[eB];simp
    rw[e];exact h
   have aj:Wl _:=ai;obtain⟨aK,aL⟩:=aV YP h1;clear f h1 h2 eB B YP ai hj aC ay;have nJ:Kept (λb=>b≠aT) w (w.drewN n):=Xv _ _;have xI:=Zh nJ;clear nJ;obtain⟨wq,p⟩:=eX (w.drewN n);rw[p]at aj xI ⊢;clear p;go_wp2;go_loopw [17] (λkv wr=>∃(k:Nat) (C1 v:List ae),kv=I J k/\k<=m/\Wl (d=C1++v/\k=i+N C1/\GB wr aT 23 (SL (P++B1++C1++x::v++Q) R)/\Kept (λb=>b≠aT) w wr)) (λkv _=>(intOf kv).toNat)
   case atStart=>exact⟨m,d,[],rfl,Qs _,by rw[QN],aK.o,aj.o,xI.o⟩
   case round=>
    obtain⟨k,C1,v,rfl,ak,HJ⟩:=hrel;obtain⟨eC,ek,hg,hk⟩:=HJ.o;rcases XX C1 with u|⟨L,y,u⟩
    .subst u;have aA:k=i:=ek;subst aA;rw[ZU]at eC;subst eC;have hF:GB wr aT 23 (SL (P++(B1++x::d)++Q) R)/\Kept (λb=>b≠aT) w wr:=by
      refine⟨?_,hk⟩;have e:P++(B1++x::d)++Q=P++B1++[]++x::d++Q:=by simp
      rw[e];exact hg
     have f:=Zh hF;clear hF hg hk ek HJ;go_wp2;refine X0 (Xa rfl _ _ _) rfl ?_;exact⟨rfl,by rw[xD.o];have h:=f.o.1;omega,f.o.2⟩
    .rw[XY]at u;subst u;obtain⟨W,au⟩:∃W,k=W+1:=⟨i+N L,by rw[ek,QI];rfl⟩
     have G:=aqs S.o.1 aL.o (by rw[ek,QI];rfl) au ak uK S.o.2.2.2.2;have NS:=aqt G.2.2.2.2.1 G.2.2.1 G.2.2.2.2.2.2.2;have e:P++B1++(L++[y])++x::v++Q=(P++B1++L)++y::[]++x::(v++Q):=by simp
     have D:=hg.RN e (i1:=W) (i2:=W+1) (by simp only[QI];exact G.1) (by simp only[QI];exact G.2.1);subst au;obtain⟨h1,h2,h3,h4,e0,aQ⟩:=NS;obtain⟨av,aM⟩:=aV G hk;have aB:Wl (d=L++(y::v)):=by show d=_;rw[eC];simp
     obtain⟨k1,ax⟩:=eY (W+1);rw[<-ax]at D e0;obtain⟨fO,bF,gM⟩:=x;obtain⟨uk,jb,uB⟩:=y;have c1:=D.c1;have c2:=D.c2;have z1:=D.z1;have z2:=D.z2;have aP:=D.ne;have K:=D.down;unfold ae.val at c1 c2 K;simp only at c1 c2 K;have HU:=Zh K;clear D K hg hk ek eC HJ G e ax ak;go_wp2;go_region;have K:=HU.o;clear HU;generalize ((wr.setCell { block:=aT,off:=k1 } (Value.slice uk (N uB) jb)).setCell { block:=aT,off:=W } (Value.slice fO (N gM) bF)).drew=wf at*;have HU:=Zh K;clear K;go_wp2;go_roundw
     case rel=>
      refine⟨W,L,ae.mk uk jb uB::v,by first|rfl|go_num,av.o.2.2.2.2.2.2.1,aB.o,av.o.2.2.2.2.2.1,?_,aM.o.trans HU.o.2⟩;have h:=HU.o.1;have e:P++B1++L++ae.mk fO bF gM::(ae.mk uk jb uB::v)++Q=P++B1++L++ae.mk fO bF gM::[]++ae.mk uk jb uB::(v++Q):=by simp
      rw[e];exact h
     case measure=>simp[intOf]
structure Span(a m b lN n s0 r0:Nat):Prop where
 h1:n=lN+m
 h2:a<=s0/\s0<=r0/\r0<=m
 h3:m<=n-r0/\n-s0<=b/\r0<=n
 h4:s0=a∨n-s0=b
 h5:r0=m∨n-r0=m
 h6:a<=lN/\lN<=b
 h7:∀c,s0<=c->c<r0->a<=c/\c<m/\m<=n-1-c/\n-1-c<b/\1<=n/\c<=n-1
def aiU(h1:a<m)(h2:m<b)(hm:lN=(a+b) / 2)(h:lN<m):Span a m b lN (lN+m) (lN+m-b) lN:=by refine⟨rfl,by omega,by omega,Or.inr (by omega),Or.inr (by omega),by omega,λc d e=>by omega⟩
def aiV(h1:a<m)(h2:m<b)(hm:lN=(a+b) / 2)(h:¬lN<m):Span a m b lN (lN+m) a m:=by refine⟨rfl,by omega,by omega,Or.inl rfl,Or.inl rfl,by omega,λc d e=>by omega⟩
structure Be(lt:ae->ae->Bool)(A B:List ae)(a m n s0 r0 s r:Nat):Prop where
 le:s0<=s/\s<=r/\r<=r0
 lo:s=s0∨lt ((E B (n-1-(s-1)-m) iz)) (E A (s-1-a) iz)=F
 hi:r=r0∨lt ((E B (n-1-r-m) iz)) (E A (r-a) iz)=T
structure NV(lt:ae->ae->Bool)(A B A1 A2 B1 B2:List ae)(a m b lN s e:Nat):Prop where
 eA:A=A1++A2
 eB:B=B1++B2
 l1:s=a+N A1
 l2:m=s+N A2
 l3:e=m+N B1
 l4:b=e+N B2
 l5:lN=a+N A1+N B1
 c1:∀y∈B1,∀x∈A2,lt y x=T
 c2:∀y∈B2,∀x∈A1,lt y x=F
theorem getD_eq{L:List ae}{x:ae}(e:L=A1++x::A2)(h:i=N A1):E L i iz=x:=by simp_all
theorem Be.four(Oq:kU lt)(S:Span a m b lN n s0 r0)(h:Be lt A B a m n s0 r0 s s)(hA:dh lt A)(hB:dh lt B)(hm:m=a+N A)(hb:b=m+N B) :
  ∃A1 A2 B1 B2,NV lt A B A1 A2 B1 B2 a m b lN s (n-s):=by
 have L:=S.h1;have P:=S.h2;have Q:=S.h3;have R:=S.h6;have p:=h.le;obtain⟨A1,A2,u,C,D⟩:=oI A (s-a) (by omega);obtain⟨B1,B2,l,G,K⟩:=oI B (n-s-m) (by omega);refine⟨A1,A2,B1,B2,u,l,by omega,by omega,by omega,by omega,by omega,?_,?_⟩
 .intro y hy x d;rcases XX B1 with f|⟨g,z,f⟩
  .grind
  .rw[XY]at f
   cases hA2:A2 with
   |nil=>grind
   |cons v j =>
    have q:N B1=N g+1:=by grind
    have r:N A2=N j+1:=by rw[hA2];rfl
    have k:lt z v=true:=by
     rcases h.hi with h|h
     .grind [Span.h5]
     .have t:E B (n-1-s-m) iz=z:=getD_eq (A1:=g) (A2:=B2) (by grind) (by omega)
      grind [getD_eq]
    have e:lt y v=true:=by
     rw[f]at hy;rcases Ze.1 hy with hy|hy
     .exact RQ Oq (B4:=g) (B5:=B2) (by grind) k y hy
     grind
    rw[hA2]at d;rcases QP.1 d with d|d
    .grind
    .exact Mf Oq (B4:=A1) (B5:=j) (by grind) e x d
 .intro y hy x d;rcases XX A1 with i|⟨j,z,i⟩
  .grind
  .rw[XY]at i
   cases hB2:B2 with
   |nil=>grind
   |cons v g =>
    have q:N A1=N j+1:=by grind
    have r:N B2=N g+1:=by rw[hB2];rfl
    have k:lt v z=false:=by
     rcases h.lo with h|h
     .grind [Span.h4]
     .have t:E B (n-1-(s-1)-m) iz=v:=getD_eq (A1:=B1) (A2:=g) (by rw[l,hB2]) (by omega)
      grind [getD_eq]
    have e:lt y z=false:=by
     rw[hB2]at hy;rcases QP.1 hy with hy|hy
     .grind
     .exact RU Oq (B4:=B1) (B5:=g) (by grind) k y hy
    rw[i]at d;rcases Ze.1 d with d|d
    .exact Mg Oq (B4:=j) (B5:=A2) (by grind) e x d
    grind
theorem NV.mg(h:NV lt A B A1 A2 B1 B2 a m b lN s e)(hB:dh lt B):mg lt A B=mg lt A1 B1++mg lt A2 B2:=by rw[h.eA,h.eB];grind [PN,NV.c1,NV.c2,dh,NV.eB]
theorem RX(hA:dh lt A)(hB:dh lt B)(h:N A=0∨N B=0):mg lt A B=A++B:=by grind [Ng]
theorem NV.rows(h:NV lt A B A1 A2 B1 B2 a m b lN s e)(hA:dh lt A)(hB:dh lt B):dh lt A1/\dh lt A2/\dh lt B1/\dh lt B2:=by rw[h.eA]at hA;rw[h.eB]at hB;grind [dh]
theorem Be.step(h:Be lt A B a m n s0 r0 s r)(hc:s<=c/\c<r) :
  (lt (E B (n-1-c-m) iz) (E A (c-a) iz)=F->Be lt A B a m n s0 r0 (c+1) r)/\(lt (E B (n-1-c-m) iz) (E A (c-a) iz)=T->Be lt A B a m n s0 r0 s c):=by have d:=h.le;refine⟨λb=>⟨by omega,Or.inr ?_,h.hi⟩,λb=>⟨by omega,h.lo,Or.inr b⟩⟩;simp_all
def aqu{len:Nat}(ha:a=p)(hm:m=p+la)(hb:b=p+la+lb)(hlen:b<=len)(hl:len<=1000000)(h1:2<=la)(h2:2<=lb)(hmid:lN=(a+b) / 2) :
  wrap64 ((m:Int)-(a:Int))=(la:Int)/\wrap64 ((b:Int)-(m:Int))=(lb:Int)/\((la:Int)==1)=F/\((lb:Int)==1)=F/\wrap64 ((lN:Int)+(m:Int))=((lN+m:Nat):Int)/\a<m/\m<b/\m=a+la/\b=m+lb/\lN+m<=4000000/\a<=1000000/\b<=1000000/\m<=1000000:=by
 have d:¬(la:Int)=1:=by omega
 have e:¬(lb:Int)=1:=by omega
 refine⟨by unfold wrap64;omega,by unfold wrap64;omega,by simpa using d,by simpa using e,by unfold wrap64;omega,by omega,by omega,by omega,by omega,by omega,by omega,by omega,by omega⟩
def aqv(ha:a=p)(hm:m=p+la)(hb:b=p+la+lb)(h1:2<=la)(h2:2<=lb):a+2<=m/\m+2<=b:=by omega
def aqw(S:Span a m b lN n s0 r0)(hl:n<=4000000)(hm:m<=1000000)(h:a<m):1<=n/\s0<=1000000/\r0<=1000000/\s0<=r0:=by have d:=S.h1;have e:=S.h2;omega
def aqx(h1:a<m)(h2:m<b)(hm:lN=(a+b) / 2)(h:lN<m):b<=lN+m:=by omega
def aqy{Q:List ae}(ha:a=N P)(hm:m=a+N A)(hb:b=m+N B)(h:a<=c/\c<m/\m<=n-1-c/\n-1-c<b/\1<=n/\c<=n-1) :
  (∃d j,P++A++B++Q=d++E A (c-a) iz::j/\c=N d)/\(∃d j,P++A++B++Q=d++E B (n-1-c-m) iz::j/\n-1-c=N d)/\E A (c-a) iz∈A/\E B (n-1-c-m) iz∈B:=by
 obtain⟨A1,A2,e,p,f⟩:=oI A (c-a) (by omega);obtain⟨B1,B2,g,q,i⟩:=oI B (n-1-c-m) (by omega)
 cases A2 with
 |nil=>simp at f;omega
 |cons x A3 =>
  cases B2 with
  |nil=>simp at i;omega
  |cons y B3 =>
   have k:=getD_eq e p.symm;have l:=getD_eq g q.symm;rw[k,l];refine⟨⟨P++A1,A3++B++Q,by rw[e];simp,by rw[QI];omega⟩,⟨P++A++B1,B3++Q,by rw[g];simp,by simp only[QI];omega⟩,by rw[e];simp,by rw[g];simp⟩
def aqz{len:Nat}(hn:n=np+1)(he:e=n-1-c)(h:c<m/\n-1-c<b/\c<=n-1)(hmb:m<b)(hlen:b<=len)(hl:len<=1000000):(np:Int)-(c:Int)=(e:Int)/\c<len/\e<len/\c+1<=1000000/\wrap64 ((np:Int)-(c:Int))=(e:Int):=by refine⟨by omega,by omega,by omega,by omega,by unfold wrap64;omega⟩
def aqA(S:Span a m b lN n s0 r0)(h1:s0<=s/\s<=r/\r<=r0)(h2:s<=c/\c<r):a<=c/\c<m/\m<=n-1-c/\n-1-c<b/\1<=n/\c<=n-1:=S.h7 c (by omega) (by omega)
def aqB(S:Span a m b lN n s0 r0)(h1:s0<=s/\s<=s/\s<=r0)(hn:n=np+1)(hl:n<=4000000):s<=n/\wrap64 ((n:Int)-(s:Int))=((n-s:Nat):Int)/\(n:Int)-(s:Int)=((n-s:Nat):Int):=by have d:=S.h3;refine⟨by omega,by unfold wrap64;omega,by omega⟩
def dec_lt(h:¬a<b):decide ((a:Int)<(b:Int))=false:=QX (by omega)
def aft(h:1<=n):n=n-1+1:=by omega
def nat_eq(h1:s<=r)(h2:¬s<r):s=r:=by omega
def aiW(h:c<r)(h2:r<=k):c<=k:=by omega
def or_zero(h:¬(0<x/\0<y)):x=0∨y=0:=by omega
def amL(h:¬(0<x/\0<y))(h0:0<x):y=0:=by omega
def amM(h0:¬0<x):x=0:=by omega
def amN(h:s<=c/\c<r):c-s<r-s:=by omega
def amO(h:s<=c/\c<r):r-(c+1)<r-s:=by omega
structure aqC(P A1 A2 B1 B2:List ae)(a m b lN s e Nq len:Nat):Prop where
 t1:s<m↔0<N A2
 t2:m<e↔0<N B1
 t3:a<s↔0<N A1
 t4:s<lN↔0<N B1
 t5:lN<e↔0<N A2
 t6:e<b↔0<N B2
 n1:N A1+N B1<=Nq
 n2:N A2+N B2<=Nq
 q1:s=N P+N A1
 q2:m=N P+N A1+N A2
 q3:e=N P+N A1+N A2+N B1
 q4:lN=N P+N A1+N B1
 q5:e<=len/\lN<=len/\e<=1000000
 q6:e=N P+(N A1+N B1)+N A2
 q7:b=N P+(N A1+N B1)+N A2+N B2
 q8:lN=N P+(N A1+N B1)
def amP{Nq len:Nat}(h:NV lt A B A1 A2 B1 B2 a m b lN s e)(ha:a=N P)(hm:m=a+N A)(hb:b=m+N B)(h2:a+2<=m)(h3:m+2<=b)(hmid:lN=(a+b) / 2)(hN:N A+N B<=Nq+1)(hlen:b<=len)(hl:len<=1000000):aqC P A1 A2 B1 B2 a m b lN s e Nq len:=by have d:=h.l1;have f:=h.l2;have g:=h.l3;have i:=h.l4;have j:=h.l5;refine⟨by omega,by omega,by omega,by omega,by omega,by omega,by omega,by omega,by omega,by omega,by omega,by omega,by omega,by omega,by omega,by omega⟩
def YY(Nq:Nat):Prop:=
 ∀(aT cap len a m b g:Nat) (lb:Array KX) (cf:ae->ae->Int) (ok:ae->Prop) (w0:U) (_:RP V g lb cf aT w0 ok) (_:∀args w,(callFunc g args).run V w=.ok (.enter g args) w) (_:kU (jd cf))
  (P A B Q:List ae) (R:List KX) (w:U) (_:GB w aT 23 (SL (P++A++B++Q) R)) (_:dh (jd cf) A) (_:dh (jd cf) B) (_:∀y∈A,ok y) (_:∀y∈B,ok y) (_:Kept (λb=>b≠aT) w0 w) (_:a=N P) (_:m=N P+N A) (_:b=N P+N A+N B) (_:b<=len) (_:len<=1000000) (_:0<N A) (_:0<N B) (_:N A+N B<=Nq),
  Calls V 177 #[Z (O (aD aT 0)) len cap,I J a,I J m,I J b,.func (.func g) #[] lb] w λe w'=>e=FR (Ph #[])/\GB w' aT 23 (SL (P++mg (jd cf) A B++Q) R)/\Kept (λb=>b≠aT) w w'
def VG(Nq:Nat)(ih:YY Nq)(aT cap len a m b g:Nat)(lb:Array KX)(cf:ae->ae->Int)(ok:ae->Prop)(w0:U)(hC:RP V g lb cf aT w0 ok)(eg:∀args w,(callFunc g args).run V w=.ok (.enter g args) w)(Oq:kU (jd cf))
  (P A B Q:List ae) (R:List KX) (w:U) (hG:GB w aT 23 (SL (P++A++B++Q) R)) (hA:dh (jd cf) A) (hB:dh (jd cf) B) (hoA:∀y∈A,ok y) (hoB:∀y∈B,ok y) (hK:Kept (λb=>b≠aT) w0 w) (ha:a=N P) (hm:m=N P+N A) (hb:b=N P+N A+N B) (hlen:b<=len) (hl:len<=1000000) (h1:2<=N A) (h2:2<=N B) (hN:N A+N B<=Nq+1) :
  Calls V 177 #[Z (O (aD aT 0)) len cap,I J a,I J m,I J b,.func (.func g) #[] lb] w λe w'=>e=FR (Ph #[])/\GB w' aT 23 (SL (P++mg (jd cf) A B++Q) R)/\Kept (λb=>b≠aT) w w':=by
 obtain⟨lN,p⟩:∃lN,lN=(a+b) / 2:=⟨_,rfl⟩;have ay:=Zh (Ck p);obtain⟨aY,aZ,bf,bg,aK,X,aa,aL,aM,NS,bD,bE,bn⟩:=aqu ha hm hb hlen hl h1 h2 p;obtain⟨bq,bu⟩:=aqv ha hm hb h1 h2;have HG:=Zh hG;have HC:Wl _:=hC;obtain⟨af,ag⟩:=aV hoA hoB;have HA:Wl _:=hA;have HB:Wl _:=hB;obtain⟨HK,i⟩:=aV hK (X4 ha (X4 aL (X4 aM (X4 hlen (X4 hl (X4 hN p))))));have IH:Wl _:=ih;obtain⟨la,aN⟩:=eX (N A);obtain⟨l2,aO⟩:=eX (N B);rw[aN]at aY bf h1;rw[aO]at aZ bg h2;clear hG hC hoA hoB hA hB hK ha hm hb hlen hN ih p aL aM aN aO;go_enter Tryz.func177,Tryz.ntmps177;go_upto_region 25 with fail;rw[ay.o];clear ay;obtain⟨n,hn⟩:=eY (lN+m);rw[<-hn]at aK NS;have HN:=Zh hn;clear hn;go_upto_if 140 with fail;go_cut [20,21] from 25 to 146 (λs r S=>∃s0 r0:Nat,s=I J s0/\r=I J r0/\w=S/\Wl (Span a m b lN n s0 r0))
 case first=>
  by_cases av:lN<m
  .skip;have W:Wl (Span a m b lN n (n-b) lN):=by show Span _ _ _ _ _ _ _;rw[HN.o];exact aiU X aa i.o.2.2.2.2.2.2 av
   go_wp2_with fail;go_meet;exact⟨n-b,lN,Ie (by rw[HN.o];exact aqx X aa i.o.2.2.2.2.2.2 av),rfl,rfl,W.o⟩
  .have W:Wl (Span a m b lN n a m):=by show Span _ _ _ _ _ _ _;rw[HN.o];exact aiV X aa i.o.2.2.2.2.2.2 av
   go_wp2_with fail;go_meet;exact⟨a,m,rfl,rfl,rfl,W.o⟩
 case rest=>
 obtain⟨s0,r0,rfl,rfl,rfl,W⟩:=hcut;have az:=aqw W.o NS bn X;obtain⟨np,bz⟩:∃np,n=np+1:=⟨n-1,aft az.1⟩;rw[aK];subst bz;have t:((np+1:Nat):Int)=(np:Int)+1:=rfl;rw[t];clear t;obtain⟨-,bG,bA,zX⟩:=az;go_wp2;go_loopw [20,21] (λsv rv wr=>∃s r k:Nat,sv=I J s/\rv=I J r/\s<=r/\r<=1000000/\wr=w.drewN k/\Wl (Be (jd cf) A B a m (np+1) s0 r0 s r)) (λsv rv _=>(intOf rv).toNat-(intOf sv).toNat)
 case atStart=>exact⟨s0,r0,0,rfl,rfl,zX,bA,rfl,⟨⟨Qs _,zX,Qs _⟩,Or.inl rfl,Or.inl rfl⟩⟩
 case round=>
  obtain⟨s,r,k,rfl,rfl,aP,hr,rfl,HP⟩:=hrel;by_cases ax:s<r
  .have hh:=NT ax;obtain⟨c,hc⟩:∃c,c=(s+r) / 2:=⟨_,rfl⟩
   rw[<-hc]at hh;have aA:=Zh (Ck hc);clear hc;have h7:=aqA W.o HP.o.le hh;obtain⟨⟨L1,L2,eL,lL⟩,⟨M1,M2,eM,lM⟩,mA,mB⟩:=aqy (P:=P) (Q:=Q) i.o.1 i.o.2.1 i.o.2.2.1 h7;have kx:=(HG.o.drewN k).yB eL lL;have ky:=(HG.o.drewN k).yB eM lM;have aB:=HP.o.step hh;have u:=af.o _ mA;have hy:=ag.o _ mB;obtain⟨e,he⟩:=eY (np+1-1-c);have aU:=aqz rfl he ⟨h7.2.1,h7.2.2.2.1,h7.2.2.2.2.2⟩ aa i.o.2.2.2.1 hl;generalize E A (c-a) iz=x at*;generalize E B (np+1-1-c-m) iz=y at*;rw[<-he]at ky;have z:∀q,Calls V g (#[y.val,x.val]++lb) ((w.drewN k).drewN q) λe W'=>e=FR (I J (cf y x))/\∃m,W' = ((w.drewN k).drewN q).drewN m:=λq=>HC.o _ y x ((HK.o.trans (Xv _ _)).trans (Xv _ _)) hy u;obtain⟨bH,bI,bJ,bK,bL⟩:=aU;obtain⟨aQ,HH⟩:=aV aB hh;clear aB hh h7 eL lL eM lM mA mB u hy he HP L1 L2 M1 M2;obtain⟨wq,D⟩:=eX (w.drewN k);have HQ:=Zh D;rw[D]at kx ky z ⊢;clear D;obtain⟨fO,bF,gM⟩:=x;obtain⟨uk,jb,uB⟩:=y;unfold ae.val at kx ky z;simp only at kx ky z;by_cases aS:cf ⟨uk,jb,uB⟩ ⟨fO,bF,gM⟩<0
   .go_upto_region 35 with fail;rw[aA.o];go_quiet (first|(go_at_fn g;refine X7 (z _)));go_wp2;go_roundw
    case rel=>exact⟨s,c,k+nq,rfl,rfl,HH.o.1,aiW HH.o.2 hr,by rw[<-HQ.o,XE],aQ.o.2 (Cj aS)⟩
    case measure=>
     simp only[intOf,Xu];exact amN HH.o
   .go_upto_region 35 with fail;rw[aA.o];go_quiet (first|(go_at_fn g;refine X7 (z _)));go_wp2;go_roundw
    case rel=>exact⟨c+1,r,k+nq,rfl,rfl,HH.o.2,hr,by rw[<-HQ.o,XE],aQ.o.1 (zw aS)⟩
    case measure=>
     have ec:(c:Int)+1=((c+1:Nat):Int):=rfl;simp only[intOf,ec,Xu];exact amO HH.o
  .obtain rfl:s=r:=nat_eq aP ax;obtain⟨A1,A2,B1,B2,G⟩:=HP.o.four Oq W.o HA.o HB.o i.o.2.1 i.o.2.2.1;have ai:=aqB W.o HP.o.le rfl NS;have aC:=G.mg HB.o;have aF:=G.rows HA.o HB.o;obtain⟨en,aR⟩:=eY (np+1-s)
   rw[<-aR]at G ai;have aj:=amP (P:=P) G i.o.1 i.o.2.1 i.o.2.2.1 bq bu i.o.2.2.2.2.2.2 i.o.2.2.2.2.2.1 i.o.2.2.2.1 hl;have aW:(np:Int)+1-(s:Int)=(en:Int):=ai.2.2;have aG:GB (w.drewN k) aT 23 (SL (P++A1++A2++B1++(B2++Q)) R):=by
    have h:=HG.o.drewN k;have e:P++A1++A2++B1++(B2++Q)=P++A++B++Q:=by rw[G.eA,G.eB];simp
    rw[e];exact h
   have ah:(∀y∈A1,ok y)/\(∀y∈A2,ok y)/\(∀y∈B1,ok y)/\(∀y∈B2,ok y):=⟨λy hy=>af.o y (by rw[G.eA];exact Ze.2 (Or.inl hy)),λy hy=>af.o y (by rw[G.eA];exact Ze.2 (Or.inr hy)),λy hy=>ag.o y (by rw[G.eB];exact Ze.2 (Or.inl hy)),λy hy=>ag.o y (by rw[G.eB];exact Ze.2 (Or.inr hy))⟩;have nJ:Kept (λb=>b≠aT) w (w.drewN k):=Xv _ _;have ak:Wl _:=aG;obtain⟨xI,zK,bB,j,f⟩:=J5 nJ ah aC aF aj;have bC:=aj.q5.2.2;clear aG nJ ah aC aF aj G HP W ai aR aP ax HG af ag;obtain⟨wq,D⟩:=eX (w.drewN k);rw[D]at ak xI ⊢;go_upto_region 39 with fail;try rw[aW]
   go_cut [185] from 178 to 185 (λv S=>v=.bool (decide (0<N A2/\0<N B1))/\wq=S)
   case first=>
    by_cases u:s<m
    .by_cases hy:m<en
     .have C:Wl (decide (0<N A2/\0<N B1)=T):=QD ⟨f.o.t1.1 u,f.o.t2.1 hy⟩;go_wp2_with fail;go_meet;exact⟨by rw[C.o],rfl⟩
     .have C:Wl (decide (0<N A2/\0<N B1)=F):=QX (λh=>hy (f.o.t2.2 h.2));have aH:=dec_lt (by assumption);go_wp2_with fail;go_meet;exact⟨by rw[C.o],rfl⟩
    .have C:Wl (decide (0<N A2/\0<N B1)=F):=QX (λh=>u (f.o.t1.2 h.1));have aI:=dec_lt (by assumption);go_wp2_with fail;go_meet;exact⟨by rw[C.o],rfl⟩
   case rest=>
   obtain⟨rfl,rfl⟩:=hcut;go_upto_if 185 with fail;go_cut [] from 185 to 191 (λS=>Wl (GB S aT 23 (SL (P++A1++B1++(A2++B2++Q)) R)/\Kept (λb=>b≠aT) w S))
   case first=>
    by_cases d:0<N A2/\0<N B1
    .have aX:=VF aT cap len s m en (.func (.func g) #[] lb) (P++A1) A2 B1 (B2++Q) R wq ak.o d.1 d.2 (by rw[QI];exact f.o.q1) (by rw[QI];exact f.o.q2) (by rw[QI];exact f.o.q3) f.o.q5.1 hl;rw[QD d];go_wp2_with fail;refine aX.mono ?_;rintro e w2 ⟨rfl,K,L⟩;have l:Wl _:=K;have ry:=Zh L;go_wp2_with fail;go_meet;refine⟨?_,xI.o.trans ry.o⟩;have e:P++A1++B1++(A2++B2++Q)=P++A1++B1++A2++(B2++Q):=by simp
     rw[e];exact l.o
    .rw[QX d];have HE:Wl (P++A1++B1++(A2++B2++Q)=P++A1++A2++B1++(B2++Q)):=by
      show _=_;by_cases h0:0<N A2
      .have h1:=QF (amL d h0);rw[h1];simp
      .have h1:=QF (amM h0);rw[h1];simp
     go_wp2_with fail;go_meet;refine⟨?_,xI.o⟩;rw[HE.o];exact ak.o
   case rest=>
   have Mh:Wl _:=hcut.o.1;have rH:=Zh hcut.o.2;go_upto_region 41 with fail;go_cut [199] from 192 to 199 (λv S=>v=.bool (decide (0<N A1/\0<N B1))/\wc=S)
   case first=>
    by_cases u:a<s
    .by_cases hy:s<lN
     .have C:Wl (decide (0<N A1/\0<N B1)=T):=QD ⟨f.o.t3.1 u,f.o.t4.1 hy⟩;go_wp2_with fail;go_meet;exact⟨by rw[C.o],rfl⟩
     .have C:Wl (decide (0<N A1/\0<N B1)=F):=QX (λh=>hy (f.o.t4.2 h.2));have aH:=dec_lt (by assumption);go_wp2_with fail;go_meet;exact⟨by rw[C.o],rfl⟩
    .have C:Wl (decide (0<N A1/\0<N B1)=F):=QX (λh=>u (f.o.t3.2 h.1));have aI:=dec_lt (by assumption);go_wp2_with fail;go_meet;exact⟨by rw[C.o],rfl⟩
   case rest=>
   obtain⟨rfl,rfl⟩:=hcut;go_upto_if 199 with fail;go_cut [] from 199 to 205 (λS=>Wl (GB S aT 23 (SL (P++mg (jd cf) A1 B1++A2++B2++Q) R)/\Kept (λb=>b≠aT) w S))
   case first=>
    by_cases d:0<N A1/\0<N B1
    .have au:=IH.o aT cap len a s lN g lb cf ok w0 HC.o eg Oq P A1 B1 (A2++B2++Q) R wc Mh.o j.o.1 j.o.2.2.1 zK.o.1 zK.o.2.2.1 (HK.o.trans rH.o) i.o.1 f.o.q1 f.o.q4 f.o.q5.2.1 hl d.1 d.2 f.o.n1;rw[QD d];go_wp2_with fail;refine au.mono ?_;rintro e w2 ⟨rfl,K,L⟩;have l:Wl _:=K;have ry:=Zh L;go_wp2_with fail;go_meet;refine⟨?_,rH.o.trans ry.o⟩;have e:P++mg (jd cf) A1 B1++A2++B2++Q=P++mg (jd cf) A1 B1++(A2++B2++Q):=by simp
     rw[e];exact l.o
    .rw[QX d];have HE:Wl (P++mg (jd cf) A1 B1++A2++B2++Q=P++A1++B1++(A2++B2++Q)):=by show _=_;rw[RX j.o.1 j.o.2.2.1 (or_zero d)];simp
     go_wp2_with fail;go_meet;refine⟨?_,rH.o⟩;rw[HE.o];exact Mh.o
   case rest=>
   have l:Wl _:=hcut.o.1;have ry:=Zh hcut.o.2;have aJ:P++mg (jd cf) A B++Q=P++mg (jd cf) A1 B1++mg (jd cf) A2 B2++Q:=by rw[bB.o];simp
   have xD:=Zh aJ;by_cases d:0<N A2/\0<N B2
   .have u:=f.o.t5.2 d.1;have hy:=f.o.t6.2 d.2;have au:=IH.o aT cap len lN en b g lb cf ok w0 HC.o eg Oq (P++mg (jd cf) A1 B1) A2 B2 Q R wc l.o j.o.2.1 j.o.2.2.2 zK.o.2.1 zK.o.2.2.2 (HK.o.trans ry.o) (by rw[QI,pg];exact f.o.q8) (by rw[QI,pg];exact f.o.q6) (by rw[QI,pg];exact f.o.q7) i.o.2.2.2.1 hl d.1 d.2 f.o.n2;go_wp2_with fail;refine au.mono ?_;rintro e w2 ⟨rfl,K,L⟩;have Ig:Wl _:=K;have F3:=Zh L;go_wp2;go_end0;exact⟨rfl,by rw[xD.o];exact Ig.o,ry.o.trans F3.o⟩
   .have HE:Wl (P++mg (jd cf) A1 B1++mg (jd cf) A2 B2++Q=P++mg (jd cf) A1 B1++A2++B2++Q):=by show _=_;rw[RX j.o.2.1 j.o.2.2.2 (or_zero d)];simp
    by_cases u:lN<en
    .have hy:¬en<b:=λh=>d ⟨f.o.t5.1 u,f.o.t6.1 h⟩
     have aH:=dec_lt (by assumption);go_wp2;go_end0;exact⟨rfl,by rw[xD.o,HE.o];exact l.o,ry.o⟩
    .have aI:=dec_lt (by assumption);go_wp2;go_end0;exact⟨rfl,by rw[xD.o,HE.o];exact l.o,ry.o⟩
def wI:∀Nq,YY Nq
 |0=>λ_ _ _ _ _ _ _ _ _ _ _ _ _ _ _ A B _ _ _ _ _ _ _ _ _ _ _ _ _ _ h1 h2 hN=>by omega
 |Nq+1=>λaT cap len a m b g lb cf ok w0 hC eg Oq P A B Q R w hG hA hB hoA hoB hK ha hm hb hlen hl h1 h2 hN=>by
  by_cases hA1:N A=1
  .obtain⟨x,rfl⟩:=List.length_eq_one_iff.1 hA1;have e:P++[x]++B++Q=P++x::B++Q:=by simp
   rw[e]at hG;exact RV aT cap len a m b g lb cf ok w0 hC eg Oq P B Q x R w hG hB (hoA x (by simp)) hoB hK ha hm hb hlen hl
  .by_cases hB1:N B=1
   .obtain⟨x,rfl⟩:=List.length_eq_one_iff.1 hB1;have e:P++A++[x]++Q=P++A++x::Q:=by simp
    rw[e]at hG;exact NU aT cap len a m b g lb cf ok w0 hC eg Oq P A Q x R w hG hA (hoB x (by simp)) hoA hK ha hm hb hlen hl (by omega)
   .exact VG Nq (wI Nq) aT cap len a m b g lb cf ok w0 hC eg Oq P A B Q R w hG hA hB hoA hoB hK ha hm hb hlen hl (by omega) (by omega) hN
def cu{α:Type}(lt:α->α->Bool)(bs:Nat)(L Mq:List α):Prop:=
 ∀P:List α->List α->Prop,(∀L,N L<=bs->P L (mg lt [] L))->(∀A L Mq,N A=bs->P L Mq->P (A++L) (mg lt [] A++Mq))->P L Mq
section
variable {α:Type} {lt:α->α->Bool} {bs:Nat}
def cu.last{L:List α}(h:N L<=bs):cu lt bs L (mg lt [] L):=λ_ a _=>a L h
def cu.more{A L Mq:List α}(h:N A=bs)(k:cu lt bs L Mq):cu lt bs (A++L) (mg lt [] A++Mq):=λP b a=>a A L Mq h (k P b a)
theorem cu.apart{L Mq:List α}(h:cu lt bs L Mq):(N L<=bs/\Mq=mg lt [] L)∨∃A a b,N A=bs/\L=A++a/\Mq=mg lt [] A++b/\cu lt bs a b:=
 (h (λL Mq=>cu lt bs L Mq/\((N L<=bs/\Mq=mg lt [] L)∨∃A a b,N A=bs/\L=A++a/\Mq=mg lt [] A++b/\cu lt bs a b))
  (λ_ d=>⟨cu.last d,.inl ⟨d,rfl⟩⟩) (λA L Mq e k=>⟨cu.more e k.1,.inr ⟨A,L,Mq,e,rfl,rfl,k.1⟩⟩)).2
theorem Bf(L:List α):N (mg lt [] L)=N L:=by rw[pg];simp
theorem cu.len{L Mq:List α}(h:cu lt bs L Mq):N Mq=N L:=
 h (λL Mq=>N Mq=N L) (λ_ _=>Bf _) (λA L Mq _ a=>by grind [Bf])
theorem cu.nil_eq{L Mq:List α}(h:cu lt bs L Mq)(h0:0<bs)(hL:L=[]):Mq=[]:=by have a:=h.len;simp_all
theorem cu.small{L Mq:List α}(h:cu lt bs L Mq)(h0:0<bs)(hl:N L<=bs):Mq=mg lt [] L:=by
 rcases h.apart with⟨_,h⟩|⟨A,L',M',hA,rfl,rfl,k⟩
 .exact h
 .rw[QI]at hl;have e:L' = []:=QF (by omega)
  grind [cu.nil_eq]
theorem cu.split{L Mq:List α}(h:cu lt bs L Mq)(hl:bs<N L):∃A a b,L=A++a/\N A=bs/\Mq=mg lt [] A++b/\cu lt bs a b:=by
 rcases h.apart with⟨h,_⟩|⟨A,a,b,hA,e1,e2,k⟩
 .omega
 grind
theorem cu.amR{L Mq:List α}(h:cu lt bs L Mq)(h0:0<bs)(hl:2*bs<=N L):∃A B d e,L=A++B++d/\N A=bs/\N B=bs/\Mq=mg lt [] A++mg lt [] B++e/\cu lt bs d e:=by
 obtain⟨A,a,k,l,i,m,b⟩:=h.split (by omega);have f:N L=N A+N a:=by simp_all
 by_cases j:bs<N a
 .obtain⟨B,n,p,g,q,r,k2⟩:=b.split j
  grind
 .have g:=b.small h0 (by omega);refine⟨A,a,[],[],by simp_all,i,by omega,by simp_all,?_⟩;exact cu.last (L:=[]) (Q4 _)
def afw(Oq:kU lt)(A B:List α):mg lt (mg lt [] A) (mg lt [] B)=mg lt [] (A++B):=by rw[abo Oq,Dv]
def Gc(Oq:kU lt)(L:List α):dh lt (mg lt [] L):=GK Oq L List.Pairwise.nil
end
def Done(lt:ae->ae->Bool)(bs:Nat)(L D L2:List ae):Prop:=∀Mq,cu lt bs L2 Mq->cu lt bs L (D++Mq)
def Done.more{lt:ae->ae->Bool}{bs:Nat}{L D A L2:List ae}(h:Done lt bs L D (A++L2))(hA:N A=bs):Done lt bs L (D++mg lt [] A) L2:=λMq a=>by rw[Zu];exact h _ (cu.more hA a)
def X8:=@Bf
def awC(hb:b=a+20)(ha:a=d)(hn:n=d+l2)(h:b<=n):20<=l2:=by omega
def awD(hb:b=a+20)(ha:a=d)(hn:n=d+l2)(h:¬b<=n):l2<=20:=by omega
def awE(hb:b=a+20)(ha:a=d)(hla:la=20)(hn:n=d+(la+l2))(h:b<=n)(hl:n<=1000000):b=d+la/\n=d+la+l2/\b<=1000000/\n+20-(b+20)<n+20-b:=by omega
def awF{d:Nat}(hb:b=a+20)(h:a<=n)(hl:n<=1000000):a<=1000000/\b<=1000020:=by omega
def awG(h0:0<bs)(h:bs<n)(hl:n<=1000000):2*(bs:Int)=((2*bs:Nat):Int)/\2*bs<=4000000/\0<2*bs/\n+n-2*bs<n+n-bs/\wrap64 (2*(bs:Int))=((2*bs:Nat):Int)/\(bs:Int)*2=((2*bs:Nat):Int)/\wrap64 ((bs:Int)*2)=((2*bs:Nat):Int):=by refine⟨by omega,by omega,by omega,by omega,by unfold wrap64;omega,by omega,by unfold wrap64;omega⟩
def YZ(b:Nat):(intOf (I J (b:Int))).toNat=b:=by simp[intOf]
def aiX(h:wrap64 (b:Int)=(b:Int)):(intOf (I J (wrap64 (b:Int)))).toNat=b:=by rw[h];exact YZ b
def NW(h:k<=8000000):wrap64 (k:Int)=(k:Int):=by unfold wrap64;omega
def amS(h:m1<=b)(hb:b<=1000000):m1<=8000000:=by omega
def aqE(h:b=a+b2)(h2:b2=2*bs)(hm:m1=a+bs):m1<=b:=by omega
def afx(h:x<=4000000):x<=8000000:=by omega
def RY:(0<20)/\20<=4000000:=by omega
def aiY(h:¬x<y):y<=x:=by omega
def awH(hb2:b2=2*bs)(hb:b=a+b2)(ha:a=d)(hn:n=d+l2)(h:b<=n):2*bs<=l2:=by omega
def awI(hb2:b2=2*bs)(hb:b=a+b2)(ha:a=d)(hla:la=bs)(hlb:lb=bs)(hn:n=d+(la+lb+l2))(h:b<=n)(hl:n<=1000000)(hm:m1=a+bs)(hb4:b2<=4000000)(h0:0<bs) :
  m1=d+la/\b=d+la+lb/\n=d+(la+lb)+l2/\(a:Int)+(bs:Int)=(m1:Int)/\wrap64 ((a:Int)+(bs:Int))=(m1:Int)/\(b:Int)+(b2:Int)=((b+b2:Nat):Int)/\wrap64 ((b:Int)+(b2:Int))=((b+b2:Nat):Int)/\b<=1000000/\b+b2<=8000000/\n+b2-(b+b2)<n+b2-b:=by refine⟨by omega,by omega,by omega,by omega,by unfold wrap64;omega,by omega,by unfold wrap64;omega,by omega,by omega,by omega⟩
def awJ(hb2:b2=2*bs)(hb:b=a+b2)(ha:a=d)(hn:n=d+l2)(h:¬b<=n)(hl:n<=1000000)(hm:m1=a+bs)(hb4:b2<=4000000):(a:Int)+(bs:Int)=(m1:Int)/\wrap64 ((a:Int)+(bs:Int))=(m1:Int)/\l2<=2*bs/\(m1<n->bs<l2)/\(¬m1<n->l2<=bs)/\m1<=8000000/\n=d+l2:=by refine⟨by omega,by unfold wrap64;omega,by omega,λh=>by omega,λh=>by omega,by omega,hn⟩
def awK(hla:la=bs)(h2:l2=la+l3)(hl:bs<l2)(hl2:l2<=2*bs)(ha:a=d)(hm:m1=a+bs)(hn:n=d+l2):l3<=bs/\0<l3/\m1=d+la/\n=d+la+l3:=by omega
def VH(aT cap n g:Nat)(lb:Array KX)(cf:ae->ae->Int)(ok:ae->Prop)(w0:U)(hC:RP V g lb cf aT w0 ok)(eg:∀args w,(callFunc g args).run V w=.ok (.enter g args) w)(Oq:kU (jd cf))
  (L:List ae) (R:List KX) (w:U) (hG:GB w aT 23 (SL L R)) (hok:∀x∈L,ok x) (hK:Kept (λb=>b≠aT) w0 w) (hn:n=N L) (hl:n<=1000000) :
  Calls V 156 #[Z (O (aD aT 0)) n cap,I J n,.func (.func g) #[] lb] w λe w'=>e=FR (Ph #[])/\GB w' aT 23 (SL (mg (jd cf) [] L) R)/\Kept (λb=>b≠aT) w w':=by
 have HG:=Zh hG;have HC:Wl _:=hC;obtain⟨HO,HK,HN⟩:=fe hok hK hn;clear hG hC hok hK hn;go_enter Tryz.func156,Tryz.ntmps156;go_wp2;go_loopw [7,8] (λav bv wr=>∃(a b:Nat) (D L1 t:List ae),av=I J a/\bv=I J b/\a<=n/\Wl (b=a+20/\a=N D/\n=N D+N t/\L=L1++t/\Done (jd cf) 20 L D t/\GB wr aT 23 (SL (D++t) R)/\Kept (λb=>b≠aT) w wr)) (λav bv _=>n+20-(intOf bv).toNat)
 case atStart=>exact⟨0,20,[],[],L,rfl,rfl,Q4 _,rfl,rfl,by rw[HN.o];simp,rfl,λMq hM=>hM,HG.o,Zx _ _⟩
 case round=>
  obtain⟨a,b,D,L1,t,rfl,rfl,ay,HI⟩:=hrel;obtain⟨W,z,X,eL,hD,C,r⟩:=HI.o;have aR:=awF (d:=0) W ay hl;by_cases i:b<=n
  .obtain⟨A,u,v,lA,-⟩:=oI t 20 (awC W z X i);have ag:n=N D+(N A+N u):=by rw[X,v,QI]
   have h3:=awE W z lA ag i hl;have j:GB wr aT 23 (SL (D++A++u) R):=by rw[v,<-Zu]at C;exact C
   have f:=Af aT cap n a b g lb cf ok w0 HC.o eg D A u R wr j (λx hx=>HO.o x (by rw[eL,v];simp[hx])) (HK.o.trans r) z h3.1 i hl;have ah:Done (jd cf) 20 L (D++mg (jd cf) [] A) u:=by rw[v]at hD;exact hD.more lA
   have HD:Wl _:=ah;have P:=Zh r;have HF:Wl (n=N (D++mg (jd cf) [] A)+N u/\L=(L1++A)++u/\b=N (D++mg (jd cf) [] A)/\n+20-(b+20)<n+20-b):=⟨by rw[QI,X8];exact h3.2.1,by rw[eL,v,Zu],by rw[QI,X8];exact h3.1,h3.2.2.2⟩;clear HI W z X eL hD C r v lA ag h3 j ah;go_wp2_with fail;refine f.mono ?_;rintro e w2 ⟨rfl,l,p⟩;clear f;have m:Wl _:=l;have ry:=Zh p;clear l p;go_wp2;go_roundw
   case rel=>exact⟨b,b+20,D++mg (jd cf) [] A,L1++A,u,rfl,rfl,i,rfl,HF.o.2.2.1,HF.o.1,HF.o.2.1,HD.o,m.o,P.o.trans ry.o⟩
   case measure=>
    have ec:(b:Int)+20=((b+20:Nat):Int):=rfl;simp only[intOf,ec,Xu];exact HF.o.2.2.2
  .have Q:=awD W z X i;have f:=Af aT cap n a n g lb cf ok w0 HC.o eg D t [] R wr (by rw[QN];exact C) (λx hx=>HO.o x (by rw[eL];simp[hx])) (HK.o.trans r) z X (Qs _) hl;have hM:=hD _ (cu.last Q);have HM:Wl _:=hM;have P:=Zh r;clear HI W z X eL hD C r Q hM;go_wp2_with fail;refine f.mono ?_;rintro e w2 ⟨rfl,l,p⟩;rw[QN]at l;have m:Wl _:=l;have ry:=Zh (P.o.trans p);go_wp2;go_loopw [6] (λsv wr=>∃(bs:Nat) (Mq:List ae),sv=I J bs/\0<bs/\bs<=4000000/\Wl (cu (jd cf) bs L Mq/\GB wr aT 23 (SL Mq R)/\Kept (λb=>b≠aT) w wr)) (λsv _=>n+n-(intOf sv).toNat)
   case atStart=>exact⟨20,D++mg (jd cf) [] t,rfl,RY.1,RY.2,HM.o,m.o,ry.o⟩
   case round=>
    clear HM m ry;obtain⟨bs,Mq,rfl,q,bf,HI⟩:=hrel;obtain⟨hM,C,r⟩:=HI.o;by_cases aH:bs<n
    .obtain⟨ak,G,au,az,aA,y,aj⟩:=awG q aH hl;obtain⟨K,aB⟩:∃K,K=2*bs:=⟨_,rfl⟩
     rw[<-aB]at ak G au az aA y aj;have aa:=Zh aB;have HM:Wl _:=hM;have aI:Wl (GB wr aT 23 (SL Mq R)/\Kept (λb=>b≠aT) w wr):=⟨C,r⟩;have aJ:=Zh az;clear hM C r HI aB az;go_wp2;go_loopw [7,8] (λav bv aQ=>∃(a b:Nat) (D L1 t M2:List ae),av=I J a/\bv=I J b/\a<=n/\b<=8000000/\Wl (b=a+K/\a=N D/\n=N D+N t/\L=L1++t/\Done (jd cf) K L D t/\cu (jd cf) bs t M2/\GB aQ aT 23 (SL (D++M2) R)/\Kept (λb=>b≠aT) w aQ)) (λav bv _=>n+K-(intOf bv).toNat)
     case atStart=>exact⟨0,K,[],[],L,Mq,rfl,rfl,Q4 _,afx G,(Q5 _).symm,rfl,by rw[HN.o];simp,rfl,λMq hM=>hM,HM.o,aI.o.1,aI.o.2⟩
     case round=>
      have aS:Wl (2*(bs:Int)=(K:Int)/\wrap64 (2*(bs:Int))=(K:Int)):=⟨ak,aA⟩;have aK:Wl ((bs:Int)*2=(K:Int)/\wrap64 ((bs:Int)*2)=(K:Int)):=⟨y,aj⟩;clear ak aA y aj;obtain⟨a,b,D,L1,t,M2,rfl,rfl,ay,zu,HI⟩:=hrel;obtain⟨W,z,X,eL,hD,af,C,r⟩:=HI.o;obtain⟨m1,S⟩:=eY (a+bs);have k:∀x∈t,ok x:=λx hx=>HO.o x (by rw[eL];simp[hx]);by_cases i:b<=n
      .obtain⟨A,B,u,M3,v,lA,lB,em,Y0⟩:=af.amR q (awH aa.o W z X i);have ag:n=N D+(N A+N B+N u):=by rw[X,v];simp only[QI]
       obtain⟨h1,h2,h3,h4,h5,h6,h7,h8,h9,aC⟩:=awI aa.o W z lA lB ag i hl S G q;obtain⟨b3,aF⟩:=eY (b+K);rw[<-aF]at h6 h7 h9 aC;have aU:=Zh aF;clear aF;have j:GB wr aT 23 (SL (D++mg (jd cf) [] A++mg (jd cf) [] B++M3) R):=by
        have e:D++mg (jd cf) [] A++mg (jd cf) [] B++M3=D++M2:=by rw[em];simp
        rw[e];exact C
       have f:=wI _ aT cap n a m1 b g lb cf ok w0 HC.o eg Oq D (mg (jd cf) [] A) (mg (jd cf) [] B) M3 R wr j (Gc Oq A) (Gc Oq B) (λx hx=>k x (by rw[v];rcases xV.1 hx with h|h;cases h;simp[h])) (λx hx=>k x (by rw[v];rcases xV.1 hx with h|h;cases h;simp[h])) (HK.o.trans r) z (by rw[X8];exact h1) (by rw[X8,X8];exact h2) i hl (by rw[X8,lA];exact q) (by rw[X8,lB];exact q) (Qs _);rw[afw Oq]at f;have ah:Done (jd cf) K L (D++mg (jd cf) [] (A++B)) u:=by rw[v]at hD;exact hD.more (by rw[QI,lA,lB,aa.o,Nat.two_mul])
       have HD:Wl _:=ah;have P:=Zh r;have NY:Wl _:=Y0;have HF:Wl (n=N (D++mg (jd cf) [] (A++B))+N u/\L=(L1++(A++B))++u/\b=N (D++mg (jd cf) [] (A++B))):=⟨by rw[QI,X8,QI];exact h3,by rw[eL,v,Zu,Zu,Zu],by rw[QI,X8,QI,<-Nat.add_assoc];exact h2⟩;have aW:=Zh aC;have aL:=aqE W aa.o S;clear HI W z X eL hD C r v lA lB em ag j ah af Y0 h1 h2 h3 aC S k;have aX:Wl ((b:Int)+(K:Int)=(b3:Int)/\wrap64 (b3:Int)=(b3:Int)/\wrap64 (K:Int)=(K:Int)):=⟨h6,NW h9,NW (afx G)⟩;have aY:=NW (amS aL h8);obtain⟨bg,aO⟩:=aV h9 i;clear h6 h7 h9 zu G au bf q aH h8 ay aR h5 aL;have aZ:=Int.ofNat_le.2 aO.o;clear i;go_wp2_with fail;refine f.mono ?_;rintro e w2 ⟨rfl,l,p⟩;clear f;have m:Wl _:=l;have ry:=Zh p;clear l p h4 aZ aY;have ak:=aS.o.1;obtain⟨h6,aP,bn⟩:=aX.o;go_wp2;go_roundw
       case rel=>exact⟨b,b3,D++mg (jd cf) [] (A++B),L1++(A++B),u,M3,rfl,congrArg (Value.int J) aP,aO.o,bg.o,aU.o,HF.o.2.2,HF.o.1,HF.o.2.1,HD.o,NY.o,m.o,P.o.trans ry.o⟩
       case measure=>
        rw[aiX aP,YZ];exact aW.o
      .obtain⟨h4,h5,Q,ax,aG,bq,-⟩:=awJ aa.o W z X i hl S G;have ai:=hD _ (cu.last (by rw[aa.o];exact Q));have xD:Wl _:=ai;by_cases YX:m1<n
       .obtain⟨A,u,M3,v,lA,em,Y0⟩:=af.split (ax YX);have aM:N t=N A+N u:=by rw[v,QI]
        obtain⟨t1,t2,t3,t4⟩:=awK lA aM (ax YX) Q z S X;have aN:=Y0.small q t1;have j:GB wr aT 23 (SL (D++mg (jd cf) [] A++mg (jd cf) [] u++[]) R):=by
         have e:D++mg (jd cf) [] A++mg (jd cf) [] u++[]=D++M2:=by rw[em,aN];simp
         rw[e];exact C
        have f:=wI _ aT cap n a m1 n g lb cf ok w0 HC.o eg Oq D (mg (jd cf) [] A) (mg (jd cf) [] u) [] R wr j (Gc Oq A) (Gc Oq u) (λx hx=>k x (by rw[v];rcases xV.1 hx with h|h;cases h;simp[h])) (λx hx=>k x (by rw[v];rcases xV.1 hx with h|h;cases h;simp[h])) (HK.o.trans r) z (by rw[X8];exact t3) (by rw[X8,X8];exact t4) (Qs _) hl (by rw[X8,lA];exact q) (by rw[X8];exact t2) (Qs _);rw[afw Oq,<-v,QN]at f;have P:=Zh r;clear HI W z X eL hD C r v lA em j af Y0 aN aM t1 t2 t3 t4 ax aG S k ai Q;go_wp2_with fail;refine f.mono ?_;rintro e w2 ⟨rfl,l,p⟩;clear f;have m:Wl _:=l;have ry:=Zh p;clear l p;obtain⟨y,aj⟩:=aK.o;go_wp2;go_roundw
        case rel=>exact⟨K,D++mg (jd cf) [] t,by first|rfl|rw[y],au,G,xD.o,m.o,P.o.trans ry.o⟩
        case measure=>
         simp only[intOf,y,Xu];exact aJ.o
       .have em:=af.small q (aG YX);have j:GB wr aT 23 (SL (D++mg (jd cf) [] t) R):=by rw[<-em];exact C
        have m:Wl _:=j;have ry:=Zh r;clear HI W z X eL hD C r em j af ax aG S k ai Q;obtain⟨y,aj⟩:=aK.o;go_wp2;go_roundw
        case rel=>exact⟨K,D++mg (jd cf) [] t,by first|rfl|rw[y],au,G,xD.o,m.o,ry.o⟩
        case measure=>
         simp only[intOf,y,Xu];exact aJ.o
    .have em:=hM.small q (by rw[<-HN.o];exact aiY aH);have HF:Wl (GB wr aT 23 (SL (mg (jd cf) [] L) R)/\Kept (λb=>b≠aT) w wr):=⟨by rw[<-em];exact C,r⟩
     clear HI hM C r em;go_wp2;go_end0;exact⟨rfl,HF.o⟩
def ab6(ps:List Int):kU (jd λx y:ae=>cmpL x.xs y.xs ps):=by have a:=Lp ps;exact⟨λh=>a.asymm h,λb d=>a.trans b d,λb d=>a.ntrans b d⟩
def afy(ps:List Int)(ys:List ae):(mg (jd λx y:ae=>cmpL x.xs y.xs ps) [] ys).map ae.xs=fI ps (ys.map ae.xs):=
 Nk (f:=ae.xs) (lt':=GM ps) (λ_ _=>rfl) ys []
theorem FP(x y c:ae)(w:U)(hx:x.At w)(hy:y.At w)(hc:c.At w)(ax:aM c.xs (N x.xs)=T)(ay:aM c.xs (N y.xs)=T) :
  Calls V 116 #[x.val,y.val,c.val] w λe w'=>e=FR (I J (cmpL x.xs y.xs c.xs))/\∃m,w' = w.drewN m:=by
 obtain⟨fO,bF,xs⟩:=x;obtain⟨uk,jb,ys⟩:=y;obtain⟨ng,dK,cs⟩:=c;unfold ae.val ae.At at*;simp only at*;have hl:=hc.1;have S:=hx.1;have X:=hy.1;have HX:Wl _:=hx;have HY:Wl _:=hy;have HC:Wl _:=hc;have L:Wl _:=X4 ax ay;clear hx hy hc ax ay;go_enter Tryz.func116,Tryz.ntmps116;go_wp2;go_loopw [12] (λi wr=>∃k:Nat,k<=N cs/\i=I J k/\(∃n,wr=w.drewN n)/\Wl (∀j,j<k->dP (E xs (E cs j 0).toNat 0) (E ys (E cs j 0).toNat 0)=0)) (λi _=>N cs-(intOf i).toNat)
 case atStart=>exact⟨0,Q4 _,rfl,⟨0,rfl⟩,λj G=>absurd G (by omega)⟩
 case round=>
  obtain⟨k,hk,rfl,⟨n,rfl⟩,K⟩:=hrel;by_cases b:k<N cs
  .obtain⟨cb,co,rfl,C⟩:=Qg HC.o b;have v:(w.drewN n).cell? (aD cb (co+k))=_:=C k b;have aa:=Qo L.o.1 b;have af:=Qo L.o.2 b;have f:E cs k 0=cs[k]:=by simp[List.getD,b]
   rw[f]at v;have g:cs[k].toNat<N xs:=by omega
   have l:cs[k].toNat<N ys:=by omega
   obtain⟨xb,xo,rfl,Q⟩:=Qg HX.o g;obtain⟨yb,yo,rfl,D⟩:=Qg HY.o l;have z:(w.drewN n).cell? (aD xb (xo+cs[k].toNat))=_:=Q _ g;have A:(w.drewN n).cell? (aD yb (yo+cs[k].toNat))=_:=D _ l;have p:=ais (xs:=xs) (ys:=ys) b K.o;have B:∀j,j<k+1->dP (E xs cs[k].toNat 0) (E ys cs[k].toNat 0)=0->dP (E xs (E cs j 0).toNat 0) (E ys (E cs j 0).toNat 0)=0:=λj G u=>by
    rcases XM j k with h|h
    .exact K.o j h
    grind
   rw[f]at p;have q:Wl _:=p;have r:Wl _:=B;have a:=λW=>tO (E xs cs[k].toNat 0) (E ys cs[k].toNat 0) W;clear p B C Q D f;generalize E xs cs[k].toNat 0=vx at*;generalize E ys cs[k].toNat 0=vy at*;generalize G9:cs[k]=ck at*;clear G9;obtain⟨R,rfl⟩:∃R:Nat,ck=(R:Int):=⟨ck.toNat,by omega⟩;simp only[Xu]at g l z A;obtain⟨wq,t⟩:=eX (w.drewN n);have P:Wl _:=t;rw[t]at v z A ⊢;clear t;by_cases u:dP vx vy=0
   .have HZ:Wl _:=λj G=>r.o j G u
    rw[u]at a;clear u r q;go_wp2;go_quiet ((go_at_call 157;exact Calls.quiet_of_same (a _)));go_wp2;go_roundw
    case rel=>exact⟨k+1,by omega,by go_num,⟨_,by rw[<-P.o,XE]⟩,HZ.o⟩
    case measure=>simp[intOf];omega
   .have e0:(dP vx vy != 0)=true:=by simpa using u
    have HE:Wl _:=q.o u;clear r q u;generalize dP vx vy=cv at*;go_wp2;go_quiet ((go_at_call 157;exact Calls.quiet_of_same (a _)));go_wp2;go_ret;exact⟨Qe HE.o.symm,_,by rw[<-P.o,XE]⟩
  .have d:cmpL xs ys cs=0:=PQ λj G=>K.o j (by omega)
   have YV:Wl _:=d;clear d;go_wp2;go_ret;exact⟨Qe YV.o.symm,_,rfl⟩
