import Derived.Test.YtfnnchibngigdaaGreatDoorS06
set_option linter.all false
set_option maxRecDepth 100000
set_option maxHeartbeats 0
namespace Go.Proofs.Zz
open Go.RowKit Go.Shelf Go.Proofs.Tryz
open List renaming length->N,getD->E
open Go.Value renaming slice->Z,int->I,bool->Qo,agg->Qr
open Go.Proofs.Tryz renaming prog->V
open Option renaming some->O,none->Qp
open Go.IntKind renaming i64->J,u64->Qn
open Bool renaming false->F,true->T
open Go renaming World->U,Value->Qa
open Go.World renaming heap->H,cell?->Qm
open _root_.Array renaming size->M
open Go.RowKit renaming Hid->Qk
open Go.Obj renaming cells->Qq
open Go.Ending renaming returned->Qs
variable {ts:Qu af} {q:ae} {plan:Qu ag} {v:Qa} {R base k n size:Nat} {A B w:U} {e:TypeId} {xs:KJ} {cs:Qu (Nat × Int)} {l:Qu Nat} {ao:JW} {c:Int}
def dV(l:KJ):Bool:=(List.range (N l)).all λi=>decide (E l i 0=(i:Int))
def ik(q:ae):KJ:=q.ord.xs.map λp=>E q.ay.xs p.toNat 0
def jV(q:ae)(kind:Int)(order:KJ):Bool:=
 if N q.ord.xs=0 then T
 else if kind=10 then T
 else if kind=9 then aM order (ik q)
 else if kind=8 then decide (N q.ord.xs<=N q.keys.xs)&&dV q.ord.xs
 else F
def mP(plan:Qu ag):Bool:=(List.range (N plan-1)).all λk=>decide (aX (N plan) (λi=>(inpN plan i).count k)=1)
def bg(plan:Qu ag):Bool:=
 decide (1<=N plan)&&decide (N plan<=64)&&((List.range (N plan)).all λi=>bR (E plan i nz) i)&&mP plan
def dz(ts:Qu af)(q:ae)(plan:Qu ag):Option (Qu bZ):=
 if bg plan=F then Qp
 else (bU ts q plan (N plan)).bind λps=>
  let n:=E plan (N plan-1) nz
  if (di n.kind&&jV q n.kind (E ps n.l.toNat pz).order)=T then O ps else Qp
def il(ts:Qu af)(q:ae)(plan:Qu ag):Bool:=
 let n:=E plan (N plan-1) nz
 if N q.ord.xs=0∨n.kind=10 then T
 else if n.kind=9 then aM ((cO ts q plan n.l.toNat).getD vz).order (ik q)
 else dV q.ord.xs&&(decide (n.kind=8)&&decide (N q.ord.xs<=N q.keys.xs))
def mQ(ts:Qu af)(q:ae)(plan:Qu ag):Option bn:=
 if N plan<1∨64<N plan then Qp
 else (bX ts q plan (N plan) (N plan-1) []).bind λx=>if x.1.out=T/\N x.2=N plan/\il ts q plan=T then O x.1 else Qp
theorem mR{i:Nat}{v:bn}(h:cO ts q plan i=O v) :
  bR (E plan i nz) i=T/\v.out=di (E plan i nz).kind/\∀j∈inpN plan i,∃u,cO ts q plan j=O u:=by
 unfold cO fJ at h;unfold inpN;simp only at h ⊢;generalize E plan i nz=n at h ⊢;by_cases A:bI n=F∨n.kind<1∨10<n.kind
 .simp_all
 rw[Zf A]at h;have d:bI n=true:=by simp_all
 have p:l8 n=true:=by rw[oV,Q3]at d;exact d.1
 have g:1<=n.kind/\n.kind<=10:=by omega
 have t:∀l r,fA ts q n l r=O v->v.out=di n.kind:=λl r e=>by
  rw[fO]at e;split at e
  .injection e with e;rw[<-e]
   show decide (7<=n.kind)=_;unfold di;simp_all
  .cases e
 unfold bR;rw[Zg g.1,Zg g.2,p];by_cases a:n.kind=1
 .have y:=lJ a;rw[Q8 a]at h;by_cases B:n.source<0∨(N q.src.xs:Int)<=n.source
  .simp_all
  rw[Zf B]at h;injection h with h;rw[y,Q8 rfl];refine⟨rfl,?_,λj z=>by cases z⟩;rw[<-h,a];rfl
 rw[Zf a]at h;have b:arity n.kind≠0:=by unfold arity;grind
 rw[Zf b];by_cases C:n.l<0∨(i:Int)<=n.l
 .simp_all
 rw[Zf C,jU ts q plan (f:=i) X]at h;have k:decide (0<=n.l)=T/\decide (n.l<i)=true:=⟨Zg X,Zg X⟩;rw[k.1,k.2]
 cases hvl:cO ts q plan n.l.toNat with
 |none=>simp_all
 |some l =>
  rw[hvl]at h;simp only at h;by_cases m:arity n.kind=2
  .rw[Q8 m]at h;by_cases D:n.r<0∨(i:Int)<=n.r
   .simp_all
   rw[Zf D,jU ts q plan (f:=i) X]at h;grind
  .have G:=rA a m
   grind
theorem Gc:∀(m i:Nat),i<=m->∀{v:bn},cO ts q plan i=O v->∀k∈gI plan i,∃u,cO ts q plan k=O u:=by
 intro m
 induction m with
 |zero =>
  grind [inpN,jF]
 |succ m ih =>
  intro i l v f k b;rw[jF]at b;rcases List.mem_cons.1 b with e|e
  .simp_all
  .obtain⟨j,a,d⟩:=Zt.1 e;obtain⟨u,g⟩:=(mR f).2.2 j a;have:=qi plan i j a
   grind
theorem JL{last:Nat}(ho:∀k,k<last->aX (last+1) (λi=>(inpN plan i).count k)=1){v:bn}(hv:cO ts q plan last=O v):∀k,k<=last->∃u,cO ts q plan k=O u:=λk a=>by have b:=(Ab (qi plan) last).1 ho k a;exact Gc last last (Q6 _) hv k (List.count_pos_iff.1 (by grind [gI]))
theorem uR(plan:Qu ag)(h:1<=N plan):mP plan=T↔∀k,k<N plan-1->aX (N plan-1+1) (λi=>(inpN plan i).count k)=1:=by unfold mP;simp_all
theorem Gd(ok:Ok ts q)(plan:Qu ag):(dz ts q plan=Qp/\mQ ts q plan=Qp)∨
  ∃k v,dz ts q plan=O k/\mQ ts q plan=O v/\1<=N plan/\N k=N plan/\xX ts q plan k/\(E k (N plan-1) pz).cost=v.cost:=by
 unfold dz mQ;by_cases g:N plan<1∨64<N plan
 .left;rw[Q8 g,Q8]
  .simp_all
  grind [bg]
 rw[Zf g];have t:1<=N plan:=X;have P:bg plan=(((List.range (N plan)).all λi=>bR (E plan i nz) i)&&mP plan):=by grind [bg]
 have b:=F6 ts q plan (N plan) (N plan-1);rw[Nat.sub_add_cancel t]at b
 -- where the document reads it,all is well
 have Q:∀v s,bX ts q plan (N plan) (N plan-1) []=O (v,s)->N s=N plan->bg plan=T/\cO ts q plan (N plan-1)=O v/\∀i,i<N plan->∃u,cO ts q plan i=O u:=by intro v s m hs;obtain⟨a,_,c⟩:=(b v s).1 ⟨m,hs⟩;rw[jU ts q plan X]at a;have R:=(uR plan t).2 Qg;have f:=JL ((uR plan t).1 R) a;refine⟨?_,a,λi z=>f i X⟩;rw[P,R,Bool.and_true,Q4];intro i z;obtain⟨u,y⟩:=f i Qc;exact(mR y).1
 cases hI:bg plan with
 |false =>
  simp_all
 |true =>
  rw[Zf Qb];rw[P,Q3,Q4]at hI;obtain⟨D,aa⟩:=hI;rcases uQ ok plan (N plan) (λi z=>D i (ZY.2 z)) with⟨hp,i,z,G⟩|⟨k,hp,hpl,hk⟩
  .left;rw[hp];refine⟨rfl,?_⟩
   cases m:bX ts q plan (N plan) (N plan-1) [] with
   |none=>rfl
   |some x =>
    grind
  .rw[hp];obtain⟨v,G,hP,_⟩:=hk (N plan-1) X;have m:=
    (b v _).2 ⟨by grind [jU],rfl,by grind [uR]⟩
   rw[m.1];obtain⟨j,r,ah⟩:=mR G;simp only[Z5,m.2];generalize hn:E plan (N plan-1) nz=n at j r;have TD:di n.kind=T->jV q n.kind (E k n.l.toNat pz).order=il ts q plan:=by
    intro A;have Sj:7<=n.kind/\n.kind<=10:=by unfold di at A;simp_all
    unfold jV il;simp only[hn];by_cases W:N q.ord.xs=0
    .simp_all
    rw[Zf W];by_cases c2:n.kind=10
    .simp_all
    rw[Zf c2,Zf (show ¬(N q.ord.xs=0∨n.kind=10) from λe=>e.elim W c2)];by_cases L:n.kind=9
    .rw[Q8 L,Q8 L];unfold bR at j;simp only[Q3,Bool.or_eq_true,Zd]at j;have ha:arity n.kind=1:=by rw[L];decide
     have S:0<=n.l/\n.l<(N plan-1:Nat):=by omega
     obtain⟨u,y,K,_⟩:=hk n.l.toNat X;rw[y];have B:bI n=true:=by grind [xV]
     have d:=xW ts q plan _ hn B X X X S.1 S.2;rw[G,y]at d;simp only[Z5]at d;rw[fO]at d;have p:fC ts q n u vz=true:=by simp_all
     unfold fC at p;simp only[Q3]at p;have C:u.out=false:=by simp_all
     rw[K.order C];rfl
    grind
   cases A:di n.kind with
   |false =>
    simp_all
   |true =>
    rw[r,A,TD A,Zi]
    cases hsB:il ts q plan with
    |false=>left;simp
    |true=>right;exact⟨k,v,Qb,Qb,t,hpl,hk,hP.cost⟩
def gP(ts:Qu af)(q:ae)(xs:KJ):KJ:=xs.map λc=>(aj ts q.src.xs c:Int)
def dN(cs:Qu aF):Int × Int × Bool:=
 if N cs > 1∨(E cs 0 cz).op≠0∨(E cs 0 cz).not=T∨(E cs 0 cz).const=T then (0,0,F) else ((E cs 0 cz).left,(E cs 0 cz).right,T)
def Tryz.info3:(V.info? 3).map (λi=>(i.zero,i.size,i.bytes))=O (O (I J 0),1,8):=Qe
def Tryz.Uq:(V.info? 3).map (·.size)=O 1:=Qe
def qO(ao:JW)(cap:Nat)(xs:KJ)(w:U)(hx:IntsAt w ao xs)(hsz:N xs*8<=140737488351232) :
  Calls V 10 #[.slice ao (N xs) cap] w λe k=>e=Qs (.slice (O (aD (M (H w)) 0)) (N xs) (N xs+2))/\k = w.alloc (Qq (aK xs) 3):=by have b:=run_make_row' (P:=V) 23 3 (.int J 0) 8 underlying23 Tryz.info3 rfl J J (N xs+2) X X;have a:((N xs+2:Nat):Int)=(N xs:Int)+2:=X;rw[a]at b;have d:=λl=>wS (P:=V) w 23 3 ao cap xs hx underlying23 Tryz.Uq l;have f:=nR w xs 3;have g:=nS w xs 3;have i:=Jk xs;have j:=Jl xs;clear a hx;go_enter func10,ntmps10;go_wp2;go_ret;exact⟨rfl,rfl⟩
def dw(w:U)(ao:JW)(xs:Qu Nat):Prop:=
 N xs<=1000/\dK w ao (N xs) (λi=>I Qn ((E xs i 0:Nat):Int))
def dw.get{w:U}{ao:JW}{xs:Qu Nat}(h:dw w ao xs){i:Nat}(hi:i<N xs) :
  ∃b a,ao=O (aD b a)/\∀j,j<N xs->Qm w (aD b (a+j))=O (I Qn ((E xs j 0:Nat):Int)):=
 QX h.2 hi
def dw.below{w w':U}(hb:Bw w w'){ao:JW}{xs:Qu Nat}(h:dw w ao xs):dw w' ao xs:=⟨h.1,h.2.below hb⟩
def dW(w:U)(ao:JW)(cs:Qu (Nat × Int)):Prop:=
 N cs<=1000/\∀i,i<N cs->∃b off,ao=O (aD b off)/\
  Qm w (aD b (off+i*2))=O (I J ((E cs i (0,0)).1:Nat))/\Qm w (aD b (off+i*2+1))=O (I Qn (E cs i (0,0)).2)
theorem dW.below{w w':U}(hb:Bw w w'){ao:JW}{cs:Qu (Nat × Int)}(h:dW w ao cs):dW w' ao cs:=⟨h.1,λi d=>by
 obtain⟨b,a,e,f,g⟩:=h.2 i d;grind [cB]⟩
structure bq where
 ca:JW
 cc:Nat
 ra:JW
 rc:Nat
 na:JW
 nl:Nat
 nc:Nat
 pa:JW
 pl:Nat
 pc:Nat
def dR(ts:Qu af)(q:ae):Qu (Nat × Int):=aV ts q.src.xs (N q.src.xs)
def sQ(ts:Qu af)(q:ae):Qu Nat:=(List.range (N q.src.xs)).map λ(k:Nat)=>dF ts q.src.xs (k:Int)
def qy(ts:Qu af)(q:ae):Qu Nat:=q.wh.map λc=>aL (cu ts q.src.xs c.cs)
def om(ts:Qu af)(q:ae):Qu Nat:=q.wh.map λc=>bH ts q.src.xs c.cs
def bq.cells(f:bq)(ts:Qu af)(q:ae):Array Value:=
 #[q.src.val,Z q.bF (N q.wh) q.aG,Qo q.group,q.keys.val,q.sums.val,q.ay.val,q.ord.val,Z f.ca (N (dR ts q)) f.cc,I Qn ((2 ^ (N q.src.xs)-1:Nat):Int),I Qn ((2 ^ (N q.wh)-1:Nat):Int),
  Z f.ra (N q.src.xs) f.rc,Z f.na f.nl f.nc,Z f.pa f.pl f.pc]
structure bq.At(f:bq)(ts:Qu af)(q:ae)(w:U):Prop where
 query:q.At w
 aO:dW w f.ca (dR ts q)
 rows:dw w f.ra (sQ ts q)
 OW:dw w f.na (qy ts q)
 parts:dw w f.pa (om ts q)
 nl:f.nl=N q.wh
 pl:f.pl=N q.wh
def bq.At.below{w w':U}(hb:Bw w w'){f:bq}{ts:Qu af}{q:ae}(h:f.At ts q w):f.At ts q w':=
 ⟨h.query.below hb,h.aO.below hb,h.rows.below hb,h.OW.below hb,h.parts.below hb,h.nl,h.pl⟩
def Gf(ts:Qu af)(q:ae):N (sQ ts q)=N q.src.xs:=by unfold sQ;simp
def xY(ts:Qu af)(q:ae):N (qy ts q)=N q.wh:=by unfold qy;simp
def xZ(ts:Qu af)(q:ae):N (om ts q)=N q.wh:=by unfold om;simp
def yf(ts:Qu af)(q:ae)(hk:k<N q.src.xs):E (sQ ts q) k 0=dF ts q.src.xs (k:Int):=by unfold sQ;simp_all
def yg(ts:Qu af)(q:ae)(hk:k<N q.wh):E (qy ts q) k 0=aL (cu ts q.src.xs (E q.wh k lz).cs):=by unfold qy;simp_all
def rG(ts:Qu af)(q:ae)(hk:k<N q.wh):E (om ts q) k 0=bH ts q.src.xs (E q.wh k lz).cs:=by unfold om;simp_all
structure aC where
 kind:Int
 sources:Nat
 clauses:Nat
 order:ai
 size:Nat
 cost:Nat
def aR:aC:=⟨0,0,0,⟨Qp,0,[]⟩,0,0⟩
def aC.cells(p:aC):Array Value:=#[I J p.kind,I Qn (p.sources:Int),I Qn (p.clauses:Int),p.order.val,I Qn (p.size:Int),I Qn (p.cost:Int)]
def aC.list(p:aC):Qu Value:=[I J p.kind,I Qn (p.sources:Int),I Qn (p.clauses:Int),p.order.val,I Qn (p.size:Int),I Qn (p.cost:Int)]
def aC.d(p:aC):bZ:=⟨p.kind,p.sources,p.clauses,p.order.xs,p.size,p.cost⟩
structure aC.Ok(p:aC)(w:U):Prop where
 order:p.order.At w
 cap:N p.order.xs<=p.order.cap
 sources:p.sources<=aH
 clauses:p.clauses<=aH
 size:p.size<=aH
 cost:p.cost<=aH
def aC.Ok.below{w w':U}(hb:Bw w w'){p:aC}(h:p.Ok w):p.Ok w':=⟨Q7 hb h.order,h.cap,h.sources,h.clauses,h.size,h.cost⟩
def PartsAt(w:U)(ao:JW)(ps:Qu aC):Prop:=
 N ps<=1000/\∀i,i<N ps->(∃b off,ao=O (aD b off)/\
  Qm w (aD b (off+i*6))=O (I J (E ps i aR).kind)/\Qm w (aD b (off+i*6+1))=O (I Qn ((E ps i aR).sources:Int))/\
  Qm w (aD b (off+i*6+2))=O (I Qn ((E ps i aR).clauses:Int))/\Qm w (aD b (off+i*6+3))=O (E ps i aR).order.val/\
  Qm w (aD b (off+i*6+4))=O (I Qn ((E ps i aR).size:Int))/\Qm w (aD b (off+i*6+5))=O (I Qn ((E ps i aR).cost:Int)))/\(E ps i aR).Ok w
def PartsAt.below{w w':U}(hb:Bw w w'){ao:JW}{ps:Qu aC}(h:PartsAt w ao ps):PartsAt w' ao ps:=⟨h.1,λi n=>by
 obtain⟨⟨b,a,e,d,f,g,j,k,l⟩,m⟩:=h.2 i n;exact⟨⟨b,a,e,cB hb d,cB hb f,cB hb g,cB hb j,cB hb k,cB hb l⟩,m.below hb⟩⟩
theorem flat_get{α:Type}(f:α->Qu Qa)(k:Nat)(hk:∀a,N (f a)=k)(d:α):∀(l:List α) (i j:Nat),i<N l->j<k->(l.flatMap f)[i*k+j]? = (f (E l i d))[j]?
 |[],i,j,h,_=>absurd h Qb
 |a::l,0,j,_,hj=>by grind
 |a::l,i+1,j,h,hj=>by have e:(i+1)*k+j=N (f a)+(i*k+j):=Qc;rw[Zl,e,Zo (Nat.le_add_right _ _),Nat.add_sub_cancel_left,flat_get f k hk d l i j (by simpa using h) hj];rfl
def uS{α:Type}(f:α->Qu Qa)(k:Nat)(hk:∀a,N (f a)=k):∀l:List α,N (l.flatMap f)=N l*k
 |[]=>Qb
 |a::l=>by rw[Zl,Zm,hk,uS f k hk l,Zn,Nat.succ_mul];omega
def rH{xs:Qu Qa}(h:w.ownsRow base e size v n xs) :
  (v=Z Qp 0 0/\n=0)∨∃g a,v=Z (O (aD g 0)) n a/\base<=g/\g<M (H w)/\∀j u,xs[j]? = O u->Qm w (aD g j)=O u:=by
 rcases h.2 with⟨rfl,h1⟩|⟨g,a,cur,rfl,hb,hh,_,_,_,ht⟩
 .simp_all
 .refine .inr ⟨g,a,rfl,hb,(ZI.1 hh).1,λj u b=>?_⟩;rw[<-ht,List.getElem?_take]at b;split at b
  .simp only[World.cell?,hh]
   simp_all
  .cases b
theorem kQ{xs:Qu Nat}(h:w.ownsRow base e 1 v n (xs.map λ(x:Nat)=>I Qn (x:Int)))(hl:N xs<=1000):∃b a,v=Z b (N xs) a/\dw w b xs:=by
 have d:N xs=n:=by have:=h.1;simp_all
 rcases rH h with⟨rfl,h0⟩|⟨g,a,rfl,_,_,hc⟩
 .grind [dw,dK]
 .refine⟨O (aD g 0),a,by rw[d],⟨hl,λi f=>⟨g,0,rfl,?_⟩⟩⟩
  simp_all
def eD(c:Nat × Int):Qu Value:=[I J (c.1:Int),I Qn c.2]
theorem uT(h:w.ownsRow base e 2 v n (cs.flatMap eD))(hl:N cs<=1000):∃j b,v=Z j (N cs) b/\dW w j cs:=by
 have d:∀a,N (eD a)=2:=λ_=>rfl;have k:N cs=n:=by have:=h.1;rw[uS eD 2 d]at this;omega
 rcases rH h with⟨rfl,h0⟩|⟨g,b,rfl,_,_,hc⟩
 .grind [dW]
 .refine⟨O (aD g 0),b,by rw[k],⟨hl,λi f=>⟨g,0,rfl,?_,?_⟩⟩⟩
  .rw[ZQ];exact hc (i*2) _ (by have:=flat_get eD 2 d (0,0) cs i 0 f X;rw[Z4]at this;rw[this];rfl)
  .rw[ZQ];exact hc (i*2+1) _ (by rw[flat_get eD 2 d (0,0) cs i 1 f X];rfl)
def yh{ps:Qu aC}(h:w.ownsRow base e 6 v n (ps.flatMap aC.list))(hl:N ps<=1000)(hp:∀i,i<N ps->(E ps i aR).Ok w):∃j f,v=Z j (N ps) f/\PartsAt w j ps:=by
 have d:∀a:aC,N a.list=6:=λ_=>rfl;have k:N ps=n:=by have:=h.1;rw[uS aC.list 6 d]at this;omega
 rcases rH h with⟨rfl,h0⟩|⟨g,f,rfl,_,_,hc⟩
 .have:ps=[]:=Zj X;subst this;exact⟨Qp,0,rfl,⟨Qb,λi b=>absurd b Qb⟩⟩
 .refine⟨O (aD g 0),f,by rw[k],⟨hl,λi b=>⟨⟨g,0,rfl,?_,?_,?_,?_,?_,?_⟩,hp i b⟩⟩⟩ <;> rw[ZQ]
  .exact hc (i*6) _ (by have:=flat_get aC.list 6 d aR ps i 0 b X;rw[Z4]at this;rw[this];rfl)
  .exact hc (i*6+1) _ (by rw[flat_get aC.list 6 d aR ps i 1 b X];rfl)
  .exact hc (i*6+2) _ (by rw[flat_get aC.list 6 d aR ps i 2 b X];rfl)
  .exact hc (i*6+3) _ (by rw[flat_get aC.list 6 d aR ps i 3 b X];rfl)
  .exact hc (i*6+4) _ (by rw[flat_get aC.list 6 d aR ps i 4 b X];rfl)
  .exact hc (i*6+5) _ (by rw[flat_get aC.list 6 d aR ps i 5 b X];rfl)
theorem qz{P:Program}(W:U)(base:Nat)(t ty e:TypeId)(i:TypeInfo)(z:Qa)(size bytes:Nat)(ht:P.underlying t=O (.slice e))(hi:P.info? e=O i)(hz:i.zero=O z)(hsize:i.size=size)(hby:i.bytes=bytes)(hzs:z.cells.size=size)(hsz:0<size)
  (v:Qa) (n:Nat) (xs:Qu Qa) (hown:W.ownsRow base e size v n xs) (hb:base<=M (H W)) (news:Qu Qa) (hl:N news=size) (h1:∀u∈news,u.oneCell' = T) (hn:n<=1000) (hbb:bytes<=1000) :
  ∃d f,(Builtin.append_ #[t,t] ty #[v,Z (O (aD (M (H W)) 0)) 1 1]).run P (W.alloc (Qq news.toArray e))=.ok d f/\f.ownsRow base e size d (n+1) (xs++news)/\Kept (λb=>v.ownBlock≠O b) W f/\(∃a m c,d = Z a m c)/\(d.ownBlock=v.ownBlock∨d.ownBlock=O (M (H W)+1)):=by
 obtain⟨d,f,g,k,l,_,p⟩:=run_append_own_at (P:=P) (W.alloc (Qq news.toArray e)) base t ty e i z size bytes ht hi hz hsize hby hzs hsz v n xs (hown.alloc _) (aD (M (H W)) 0) 1 1 news X
  (λj u q=>by
   rw[addr_add,ZQ];simp_all) h1 (by grind [maxLen]) (by have:(n+1)*bytes<=1001*1000:=Nat.mul_le_mul X hbb;omega) (by rw[Xf];omega)
 exact⟨d,f,g,k,(Kept.alloc _ _).trans (Kept.grown l (λr e g=>g e)),ZK k,Qg⟩
def JO(h:n<64):IntKind.u64.wrap ((2:Int) ^ n)=((2 ^ n:Nat):Int):=by have a:((2:Int) ^ n)=((2 ^ n:Nat):Int):=Qb;have b:2 ^ n<2 ^ 64:=Xg X h;rw[a];generalize 2 ^ n=m at*;simp only[IntKind.wrap,IntKind.bits,IntKind.signed];simp;omega
def OX{s:Nat}(hs:s<18446744073709551616)(h:n<64):bits BinOp.or IntKind.u64 (s:Int) (IntKind.u64.wrap ((2:Int) ^ n))=((s|||2 ^ n:Nat):Int):=by rw[JO h];exact u64_or_nat s (2 ^ n) hs (Xg X h)
def Gg{l:KJ}(hk:k<N l):aL (l.take (k+1))=aL (l.take k)|||2 ^ (E l k 0).toNat:=by
 have e:E l k 0=l[k]:=by simp[List.getD,hk]
 rw[QZ hk,FX,e]
def za{l:KJ}(h:∀x∈l,0<=x/\x<64)(k:Nat):aL (l.take k)<18446744073709551616:=yT (n:=64) (λx a=>h x (List.mem_of_mem_take a))
def JQ(l:Qu Nat):Nat:=l.foldl (· |||·) 0
def Ah(hk:k<N l):JQ (l.take (k+1))=JQ (l.take k)|||E l k 0:=by
 have e:E l k 0=l[k]:=by simp[List.getD,hk]
 rw[QZ hk,e];unfold JQ;rw[Xh];rfl
def OY(h:∀x∈l,x<18446744073709551616):∀k,JQ (l.take k)<18446744073709551616:=λk=>by
 induction k with
 |zero=>simp[JQ]
 |succ k ih =>
  by_cases a:k<N l
  .rw[Ah a];have:E l k 0<18446744073709551616:=by
    have e:E l k 0=l[k]:=by simp[List.getD,a]
    rw[e];exact h _ (List.getElem_mem a)
   exact Nat.or_lt_two_pow (n:=64) ih this
  .rw[Xi X];rw[Xi X]at ih;exact ih
theorem lM(a b:Nat)(ha:a<18446744073709551616)(hb:b<18446744073709551616)(w:U) :
  Ce 101 #[I Qn (a:Int),I Qn (b:Int)] w (Qo (aZ a b)):=by have d:=u64_andNot_nat b a hb ha;go_enter func101,ntmps101;go_wp2;go_ret;refine⟨QV ?_,rfl⟩;unfold aZ;grind
theorem Gh(a b:Nat)(ha:a<18446744073709551616)(hb:b<18446744073709551616)(w:U) :
  Ce 102 #[I Qn (a:Int),I Qn (b:Int)] w (Qo (decide (a &&& b≠0))):=by have d:=u64_and_nat a b ha hb;go_enter func102,ntmps102;go_wp2;go_ret;refine⟨QV ?_,rfl⟩;grind
theorem Cx(s n:Nat)(hs:s<18446744073709551616)(hn:n<64)(w:U) :
  Ce 113 #[I Qn (s:Int),I J n] w (Qo (s.testBit n)):=by go_enter func113,ntmps113;go_wp2;go_ret;refine⟨QV ?_,rfl⟩;have b:((s:Int) / 2 ^ n)=((s / 2 ^ n:Nat):Int):=Qb;have a:s / 2 ^ n<18446744073709551616:=Nat.lt_of_le_of_lt (Nat.div_le_self _ _) hs;have d:=u64_and_nat (s / 2 ^ n) 1 a X;grind
def Ai(n:Nat)(hn:n<64)(w:U) :
  Ce 44 #[I J n] w (I Qn ((2 ^ n-1:Nat):Int)):=by go_enter func44,ntmps44;go_wp2;go_ret;refine⟨QW ?_,rfl⟩;have a:((2:Int) ^ n)=((2 ^ n:Nat):Int):=Qb;have b:2 ^ n<2 ^ 64:=Xg X hn;have d:0<2 ^ n:=Nat.pow_pos X;rw[a];generalize 2 ^ n=m at*;simp only[IntKind.wrap,IntKind.bits,IntKind.signed];simp;omega
def yj(ao:JW)(cap:Nat)(xs:KJ)(w:U)(hx:IntsAt w ao xs)(hs:∀x∈xs,0<=x/\x<64) :
  Ce 86 #[Z ao (N xs) cap] w (I Qn ((aL xs:Nat):Int)):=by
 have y:=hx.1;have j:Qk _:=hx;have g:=Zh hs;have l:Qk (aL (xs.take (N xs))=aL xs):=by show _=_;rw[ZV]
 clear hx hs;go_enter func86,ntmps86;go_wp2;go_loopw [3,8] (λv f wr=>∃k:Nat,k<=N xs/\f=I J k/\(∃s:Nat,v=I Qn (s:Int)/\Qk (s=aL (xs.take k)))/\wr=w) (λ_ f _=>N xs-(intOf f).toNat)
 case atStart=>exact⟨0,ZP _,rfl,⟨0,rfl,rfl⟩,rfl⟩
 case round=>
  obtain⟨k,z,rfl,⟨s,rfl,hs⟩,rfl⟩:=hrel;by_cases a:k<N xs
  .obtain⟨b,u,rfl,i⟩:=QY j.o a;have m:=i k a;have p:=g.o _ (dB a (d:=0));have q:=Zh (Gg a);have e:s<18446744073709551616:=by rw[hs.o];exact za g.o k
   clear i;generalize E xs k 0=x at*;obtain⟨n,rfl⟩:=Xj p.1;have r:n<64:=X;go_wp2;go_roundw
   case rel=>exact⟨k+1,X,Qf,⟨s|||2 ^ n,by rw[OX e r],by show _=_;rw[q.o,hs.o];rfl⟩,trivial⟩
   case measure=>exact Qw
  .obtain rfl:k=N xs:=X
   have t:=Zh (hs.o.trans l.o);clear hs;go_wp2;go_ret;exact⟨QW (by rw[t.o]),rfl⟩
def Gi(ao:JW)(cap:Nat)(xs:Qu Nat)(w:U)(hx:dw w ao xs)(hs:∀x∈xs,x<18446744073709551616) :
  Ce 74 #[Z ao (N xs) cap] w (I Qn ((JQ xs:Nat):Int)):=by
 have v:=hx.1;have j:Qk _:=hx;have g:=Zh hs;have l:Qk (JQ (xs.take (N xs))=JQ xs):=by show _=_;rw[ZV]
 clear hx hs;go_enter func74,ntmps74;go_wp2;go_loopw [3,8] (λu f wr=>∃k:Nat,k<=N xs/\f=I J k/\(∃s:Nat,u=I Qn (s:Int)/\Qk (s=JQ (xs.take k)))/\wr=w) (λ_ f _=>N xs-(intOf f).toNat)
 case atStart=>exact⟨0,ZP _,rfl,⟨0,rfl,rfl⟩,rfl⟩
 case round=>
  obtain⟨k,y,rfl,⟨s,rfl,hs⟩,rfl⟩:=hrel;by_cases a:k<N xs
  .obtain⟨b,t,rfl,i⟩:=dw.get j.o a;have m:=i k a;have n:=g.o _ (dB a (d:=0));have p:=Zh (Ah a);have e:s<18446744073709551616:=by rw[hs.o];exact OY g.o k
   clear i;generalize E xs k 0=x at*;have q:=u64_or_nat s x e n;go_wp2;go_roundw
   case rel=>exact⟨k+1,X,Qf,⟨s|||x,rfl,by show _=_;rw[p.o,hs.o]⟩,trivial⟩
   case measure=>exact Qw
  .obtain rfl:k=N xs:=X
   have r:=Zh (hs.o.trans l.o);clear hs;go_wp2;go_ret;exact⟨QW (by rw[r.o]),rfl⟩
theorem nN(b:Nat)(x y:Nat)(w:U)(h0:Qm w (aD b 0)=O (I Qn (x:Int)))(h1:Qm w (aD b 1)=O (I Qn (y:Int)))(hx:x<18446744073709551616)(hy:y<18446744073709551616) :
  Ce 74 #[Z (O (aD b 0)) 2 2] w (I Qn ((x|||y:Nat):Int)):=by
 have h:=Gi (O (aD b 0)) 2 [x,y] w ⟨Qb,λi d=>⟨b,0,rfl,by
  grind⟩⟩ (λz a=>by
  rcases List.mem_cons.1 a with e|e
  .omega
  .rw[Xb]at e;omega)
 have e:JQ [x,y]=x|||y:=by unfold JQ;simp
 rw[e]at h;exact h
theorem yl(b:Nat)(n:Nat)(w:U)(h0:Qm w (aD b 0)=O (I J (n:Int)))(hn:n<64) :
  Ce 86 #[Z (O (aD b 0)) 1 1] w (I Qn ((2 ^ n:Nat):Int)):=by
 have h:=yj (O (aD b 0)) 1 [(n:Int)] w ⟨Qb,λi d=>⟨b,0,rfl,by
  grind⟩⟩ (λz a=>by rw[Xb]at a;omega)
 rw[mI]at h;exact h
theorem qA(k:Int)(w:U):Ce 52 #[I J k] w (Qo (di k)):=by
 have b:di k=(decide (k=7) ||decide (k=8) ||decide (k=9) ||decide (k=10)):=by unfold di;grind
 by_cases e:k=7
 .subst e;go_enter func52,ntmps52;go_wp2;go_ret;exact⟨rfl,rfl⟩
 by_cases f:k=8
 .subst f;go_enter func52,ntmps52;go_wp2;go_ret;exact⟨rfl,rfl⟩
 by_cases g:k=9
 .subst g;go_enter func52,ntmps52;go_wp2;go_ret;exact⟨rfl,rfl⟩
 by_cases a:k=10
 .subst a;go_enter func52,ntmps52;go_wp2;go_ret;exact⟨rfl,rfl⟩
 have d:=Zh (by  grind:di k=F)
 clear b;go_enter func52,ntmps52;go_wp2;go_ret;exact⟨QV d.o.symm,rfl⟩
theorem Gj:∀(f x:Nat),x<=f->x<2 ^ 64->dm x=Lib.bitLen x:=by
 intro f
 induction f with
 |zero =>
  intro x a _;obtain rfl:x=0:=X;rw[iG];rfl
 |succ f ih =>
  intro x a h;by_cases b:x=0
  .grind
  .rw[kK X,Lib.bitLen_half x b h,ih (x / 2) X X,Nat.add_comm]
theorem Cy(x:Nat)(h:x<2 ^ 64):dm x<=64:=by
 have key:∀(f x:Nat),x<2 ^ f->dm x<=f:=by
  intro f
  induction f with
  |zero =>
   intro x a;obtain rfl:x=0:=X;rw[iG];omega
  |succ f ih =>
   intro x a;by_cases b:x=0
   .subst b;rw[iG];omega
   .rw[kK X]
    grind
 exact key 64 x h
theorem qB(l:Qu Nat):eF l<=aH:=by rw[qg];exact Nat.min_le_right _ _
def JR(hk:k<N l):(l.take (k+1)).sum=(l.take k).sum+E l k 0/\(l.take (k+1)).sum<=l.sum:=by
 have e:E l k 0=l[k]:=by simp[List.getD,hk]
 refine⟨by rw[QZ hk,e,List.sum_append];simp,?_⟩;have h:l.sum=(l.take (k+1)).sum+(l.drop (k+1)).sum:=by rw[<-List.sum_append,List.take_append_drop]
 omega
def Gl{l:Qu Nat}{k:Nat}(hk:k<N l)(h:aH-eF (l.take k)<E l k 0):eF l=aH:=by obtain⟨a,b⟩:=JR hk;rw[qg]at h ⊢;omega
def Cz{l:Qu Nat}{k:Nat}(hk:k<N l)(h:¬aH-eF (l.take k)<E l k 0):eF (l.take (k+1))=eF (l.take k)+E l k 0:=by
 have e:E l k 0=l[k]:=by simp[List.getD,hk]
 have a:eF (l.take (k+1))=aN (eF (l.take k)) (E l k 0):=by rw[QZ hk,e];unfold eF;rw[Xh];rfl
 have:=qB (l.take k);rw[a];unfold aN;omega
def Gm{a b:Nat}(h:0<a*b / 18446744073709551616):az a b=18446744073709551615:=by unfold az aH;omega
def Gn{a b:Nat}(h:¬0<a*b / 18446744073709551616):az a b=a*b % 18446744073709551616:=by unfold az aH;omega
def CE(w:U)(xs:Qu Nat)(t:TypeId)(hl:N xs<=1000):dw (w.alloc (Qq (xs.map λ(x:Nat)=>Value.int Qn (x:Int)).toArray t)) (O (aD (M (H w)) 0)) xs:=by refine⟨hl,λi a=>⟨M (H w),0,rfl,?_⟩⟩;simp only[World.cell?,iB w _];simp[List.getD,a]
def Tryz.Aj:Go.Shelf.Ren:=⟨fun|129=>115|264=>114|n=>n,fun|3=>3|4=>4|5=>5|9=>9|46=>55|53=>36|n=>n,fun|n=>n⟩
def Tryz.TE:Go.Proofs.Lays.n129 V Tryz.Aj:={
 mixed:=Qe
 f129:=func115.trans (congrArg O Qe)
 t3:=underlying3
 a3:=isAgg3
 z3:=sizeOf3
 v3:=zeroValue3
 t4:=underlying4
 a4:=isAgg4
 z4:=sizeOf4
 v4:=zeroValue4
 t5:=underlying5
 a5:=isAgg5
 z5:=sizeOf5
 v5:=zeroValue5
 t9:=underlying9
 a9:=isAgg9
 z9:=sizeOf9
 v9:=zeroValue9
 t46:=underlying55
 a46:=isAgg55
 z46:=sizeOf55
 v46:=zeroValue55
 t53:=underlying36
 a53:=isAgg36
 z53:=sizeOf36
 v53:=zeroValue36 }
def Tryz.TF:Go.Proofs.Lays.n264 V Tryz.Aj:={
 mixed:=Qe
 f264:=func114.trans (congrArg O Qe)
 t46:=underlying55
 a46:=isAgg55
 z46:=sizeOf55
 v46:=zeroValue55
 t53:=underlying36
 a53:=isAgg36
 z53:=sizeOf36
 v53:=zeroValue36 }
def Gp(x:Nat)(w:U)(hx:x<=aH):Ce 115 #[I Qn (x:Int)] w (I J (dm x:Nat)):=by
 have h:=Go.Proofs.Any.bits_Len64 Tryz.TE (x:Int) w X (by unfold aH at hx;omega);have e:Lib.bitLen (x:Int).toNat=dm x:=by rw[Xk];exact(Gj x x (Q6 _) (by unfold aH at hx;omega)).symm
 rw[e]at h;exact h
def Gq(x y:Nat)(w:U)(hx:x<=aH)(hy:y<=aH):Ce 114 #[I Qn (x:Int),I Qn (y:Int)] w (.tuple #[I Qn ((x*y / 18446744073709551616:Nat):Int),I Qn ((x*y % 18446744073709551616:Nat):Int)]):=
 Go.Proofs.Any.bits_Mul64 Tryz.TF x y (by unfold aH at hx;omega) (by unfold aH at hy;omega) w
def oW(a b:Nat)(w:U)(ha:a<=aH)(hb:b<=aH):Ce 106 #[I Qn (a:Int),I Qn (b:Int)] w (I Qn (az a b:Nat)):=by
 have d:=Gq a b w ha hb;have f:Qk _:=@Gm a b;have g:Qk _:=@Gn a b;generalize a*b / 18446744073709551616=hi,a*b % 18446744073709551616=lo,az a b=t at*;clear ha hb;go_enter func106,ntmps106;go_wp2_with fail;refine d.mono ?_;clear d;rintro e i ⟨rfl,rfl⟩;by_cases h:0<hi
 .go_wp2;go_ret;exact⟨QW (by rw[f.o h];rfl),rfl⟩
 .go_wp2;go_ret;exact⟨QW (by rw[g.o h]),rfl⟩
theorem Ma(ao:JW)(cap:Nat)(xs:Qu Nat)(w:U)(hx:dw w ao xs)(hs:∀x∈xs,x<=aH) :
  Ce 107 #[Z ao (N xs) cap] w (I Qn (eF xs:Nat)):=by
 have z:=hx.1;have n:Qk _:=hx;have p:Qk _:=hs;have q:Qk (eF (xs.take (N xs))=eF xs):=by show _=_;rw[ZV]
 clear hx hs;go_enter func107,ntmps107;go_wp2;go_loopw [3,8] (λy j wr=>∃k:Nat,k<=N xs/\j=I J k/\(∃s:Nat,y=I Qn (s:Int)/\Qk (s=eF (xs.take k)))/\wr=w) (λ_ j _=>N xs-(intOf j).toNat)
 case atStart=>exact⟨0,ZP _,rfl,⟨0,rfl,rfl⟩,rfl⟩
 case round=>
  obtain⟨k,A,rfl,⟨s,rfl,hs⟩,rfl⟩:=hrel;by_cases a:k<N xs
  .obtain⟨b,v,rfl,m⟩:=dw.get n.o a;have r:=m k a;have l:=p.o _ (dB a (d:=0));have f:Qk _:=@Gl xs k a;have g:Qk _:=@Cz xs k a;have t:s<=18446744073709551615:=by rw[hs.o];exact qB _
   rw[<-hs.o]at f g;have u:E xs k 0<=18446744073709551615:=l;clear m l;generalize E xs k 0=x at*;by_cases e:18446744073709551615-s<x
   .have i:Qk (eF xs=18446744073709551615):=f.o e;clear f g hs;go_wp2;go_ret;exact⟨QW (by rw[i.o];rfl),rfl⟩
   .have i:Qk _:=g.o e;clear f g hs;go_wp2;go_roundw
    case rel=>grind
    case measure=>exact Qw
  .obtain rfl:k=N xs:=X
   have i:Qk (s=eF xs):=hs.o.trans q.o;clear hs;go_wp2;go_ret;exact⟨QW (by rw[i.o]),rfl⟩
def uU(w:U)(xs:Qu Nat)(hl:N xs<=1000)(hs:∀x∈xs,x<=aH) :
  Calls V 107 #[Z (O (aD (M (H w)) 0)) (N xs) (N xs)] (w.alloc (Qq (xs.map λ(x:Nat)=>Value.int Qn (x:Int)).toArray 36)) λe a=>e=Qs (I Qn (eF xs:Nat))/\a = w.alloc (Qq (xs.map λ(x:Nat)=>Value.int Qn (x:Int)).toArray 36):=
 Ma _ _ xs _ (CE w xs _ hl) hs
theorem OZ(w:U)(a b:Nat)(ha:a<=aH)(hb:b<=aH) :
  Calls V 107 #[Z (O (aD (M (H w)) 0)) 2 2] (w.alloc (Qq #[I Qn (a:Int),I Qn (b:Int)] 36)) λe d=>e=Qs (I Qn (eF [a,b]:Nat))/\Bw w d:=
 (uU w [a,b] Qb (λx f=>Qc)).mono λ_ _ ⟨h1,h2⟩=>⟨h1,by rw[h2];exact bz _ _⟩
theorem O0(w:U)(a b c:Nat)(ha:a<=aH)(hb:b<=aH)(hc:c<=aH) :
  Calls V 107 #[Z (O (aD (M (H w)) 0)) 3 3] (w.alloc (Qq #[I Qn (a:Int),I Qn (b:Int),I Qn (c:Int)] 36)) λe d=>e=Qs (I Qn (eF [a,b,c]:Nat))/\Bw w d:=
 (uU w [a,b,c] Qb (λx f=>Qc)).mono λ_ _ ⟨h1,h2⟩=>⟨h1,by rw[h2];exact bz _ _⟩
theorem YR(w:U)(a b c d:Nat)(ha:a<=aH)(hb:b<=aH)(hc:c<=aH)(hd:d<=aH) :
  Calls V 107 #[Z (O (aD (M (H w)) 0)) 4 4] (w.alloc (Qq #[I Qn (a:Int),I Qn (b:Int),I Qn (c:Int),I Qn (d:Int)] 36)) λe f=>e=Qs (I Qn (eF [a,b,c,d]:Nat))/\Bw w f:=
 (uU w [a,b,c,d] Qb (λx g=>Qc)).mono λ_ _ ⟨h1,h2⟩=>⟨h1,by rw[h2];exact bz _ _⟩
def ze(k:Int)(l r s:Nat)(w:U)(hl:l<=aH)(hr:r<=aH)(hs:s<=aH) :
  Cb 108 #[I J k,I Qn (l:Int),I Qn (r:Int),I Qn (s:Int)] w (I Qn (mJ k l r s:Nat)):=by
 by_cases f:k=4
 .subst f;have h:=YR w l r r s hl hr hr hs;have a:mJ 4 l r s=eF [l,r,r,s]:=rfl;rw[a];generalize eF [l,r,r,s]=x at*;clear hl hr hs a;go_enter func108,ntmps108;go_wp2_with fail;refine h.mono ?_;clear h;rintro e d ⟨rfl,b⟩;go_wp2;go_ret;exact⟨rfl,b⟩
 by_cases g:k=5
 .subst g;have h:=O0 w l r s hl hr hs;have a:mJ 5 l r s=eF [l,r,s]:=rfl;rw[a];generalize eF [l,r,s]=x at*;clear hl hr hs a;go_enter func108,ntmps108;go_wp2_with fail;refine h.mono ?_;clear h;rintro e d ⟨rfl,b⟩;go_wp2;go_ret;exact⟨rfl,b⟩
 have h:=oW l r w hl hr;have a:mJ k l r s=az l r:=by unfold mJ;rw[Zf f,Zf g]
 rw[a];generalize az l r=x at*;clear hl hr hs a;go_enter func108,ntmps108;go_wp2_with fail;refine h.mono ?_;clear h;rintro e d ⟨rfl,rfl⟩;go_wp2;go_ret;exact⟨rfl,Q5 _ _⟩
def zf(l:Nat)(w:U)(hl:l<=aH) :
  Ce 109 #[I Qn (l:Int)] w (I Qn (az l (dm l+1):Nat)):=by have a:=Gp l w hl;have d:dm l<=64:=Cy l (by unfold aH at hl;omega);have b:=oW l (dm l+1) w hl (by unfold aH;omega);generalize dm l=n at*;generalize az l (n+1)=x at*;clear hl;go_enter func109,ntmps109;go_wp2_with fail;refine a.mono ?_;clear a;rintro e f ⟨rfl,rfl⟩;go_wp2_with fail;refine b.mono ?_;clear b;rintro e g ⟨rfl,rfl⟩;go_wp2;go_ret;exact⟨rfl,rfl⟩
structure bq.New(f:bq)(n:Nat):Prop where
 ca:∀a,f.ca=O a->n<=a.block
 ra:∀a,f.ra=O a->n<=a.block
 na:∀a,f.na=O a->n<=a.block
 pa:∀a,f.pa=O a->n<=a.block
def iq{b off:Nat}(h:Qm A (aD b off)=O v)(hk:Kept (λx=>x≠R) A B)(hb:b≠R):Qm B (aD b off)=O v:=ZF h hk hb
def dw.but{xs:Qu Nat}(h:dw A ao xs)(hk:Kept (λx=>x≠R) A B)(hb:∀a,ao=O a->a.block≠R):dw B ao xs:=⟨h.1,λi g=>by
 obtain⟨b,d,e,f⟩:=h.2 i g;exact⟨b,d,e,iq f hk (hb _ e)⟩⟩
def dW.but(h:dW A ao cs)(hk:Kept (λx=>x≠R) A B)(hb:∀a,ao=O a->a.block≠R):dW B ao cs:=⟨h.1,λi j=>by
 obtain⟨b,d,e,f,g⟩:=h.2 i j;exact⟨b,d,e,iq f hk (hb _ e),iq g hk (hb _ e)⟩⟩
def PartsAt.but{ps:Qu aC}(h:PartsAt A ao ps)(hk:Kept (λx=>x≠R) A B)(hb:∀a,ao=O a->a.block≠R)(ho:∀i,i<N ps->(E ps i aR).Ok w)(hw:Bw w B):PartsAt B ao ps:=⟨h.1,λi g=>by
 obtain⟨⟨b,f,e,j,k,l,m,n,p⟩,_⟩:=h.2 i g;have d:=hb _ e;exact⟨⟨b,f,e,iq j hk d,iq k hk d,iq l hk d,iq m hk d,iq n hk d,iq p hk d⟩,(ho i g).below hw⟩⟩
def bq.At.but{A B:U}{R:Nat}{f:bq}{ts:Qu af}{q:ae}(h:f.At ts q A)(hk:Kept (λx=>x≠R) A B){n:Nat}(hn:f.New n)(hR:R<n)(hq:q.At B):f.At ts q B:=
 ⟨hq,h.aO.but hk (λa e=>Qj (hn.ca a e)),h.rows.but hk (λa e=>Qj (hn.ra a e)),h.OW.but hk (λa e=>Qj (hn.na a e)),h.parts.but hk (λa e=>Qj (hn.pa a e)),h.nl,h.pl⟩
theorem IntsAt.take(h:IntsAt w ao xs)(k:Nat):IntsAt w ao (xs.take k):=by refine⟨by have:=h.1;rw[Xu];omega,λi d=>?_⟩;rw[Xu]at d;obtain⟨b,a,e,f⟩:=h.2 i X;grind
theorem Ar{l:KJ}{k:Nat}(hk:k<N l)(h:E l k 0≠k):dV l=false:=by unfold dV;grind
theorem Au{l:KJ}(h:∀i,i<N l->E l i 0=i):dV l=true:=by unfold dV;grind
theorem Gw(ao:JW)(cap:Nat)(xs:KJ)(v:Int)(w:U)(hx:IntsAt w ao xs) :
  Calls V 112 #[Z ao (N xs) cap,I J v] w λe u=>∃r:Int,e=Qs (I J r)/\Qk (0<=r↔v∈xs)/\u = w:=by
 have y:=hx.1;go_enter func112,ntmps112;go_wp2;go_loop [8] (λi=>∃k:Nat,k<=N xs/\i=I J k/\v ∉ xs.take k) (λi=>N xs-(intOf i).toNat)
 case atStart=>grind
 case round=>
  obtain⟨k,z,rfl,d⟩:=hrel;by_cases a:k<N xs
  .obtain⟨b,t,rfl,p⟩:=hx.get a;have q:=p k a;have m:=Zh (oq (v:=v) a);have g:Qk _:=d;have n:Qk (E xs k 0∈xs):=by grind
   clear p hx d;obtain⟨x,f⟩:=eY (E xs k 0);rw[<-f]at q m n;clear f;by_cases l:v=x
   .have j:(v==x)=true:=by simp[l]
    go_wp2;go_ret;exact⟨k,rfl,⟨λ_=>n.o,λ_=>X⟩,rfl⟩
   .have j:(v==x)=false:=by simp[l]
    go_wp2;go_round
    case rel=>exact⟨k+1,X,Qf,λe=>by
     rcases m.o.1 e with e|e
     .exact g.o e
     .exact l e.symm⟩
    case measure=>exact Qw
  .have e:k=N xs:=X
   rw[e,ZV]at d;have g:Qk _:=d;clear d;go_wp2;go_ret;exact⟨-1,rfl,⟨λh=>absurd h X,λh=>absurd h g.o⟩,rfl⟩
def qG(ao:JW)(cap:Nat)(xs:KJ)(v:Int)(w:U)(hx:IntsAt w ao xs) :
  Ce 99 #[Z ao (N xs) cap,I J v] w (Qo (decide (v∈xs))):=by have h:=Gw ao cap xs v w hx;clear hx;go_enter func99,ntmps99;go_wp2_with fail;refine h.mono ?_;clear h;rintro e b ⟨r,rfl,a,rfl⟩;go_wp2;go_ret;exact⟨QV (by rw[ZX,Zd,Zd];exact a.o),rfl⟩
def Gx(ao bo:JW)(cap cap':Nat)(xs ys:KJ)(w:U)(hx:IntsAt w ao xs)(hy:IntsAt w bo ys) :
  Cb 104 #[Z ao (N xs) cap,Z bo (N ys) cap'] w (Qo (decide (xs=ys))):=by
 have B:=hy.1;by_cases a:N xs=N ys
 .have m:=Zh a;have p:((N xs:Int) != (N ys:Int))=false:=by rw[a];simp
  have C:N xs<=N ys:=X;clear a;go_enter func104,ntmps104;go_wp2;go_loopw [13] (λi wr=>∃k:Nat,k<=N xs/\i=I J k/\Qk (xs.take k=ys.take k)/\∃n,wr=w.drewN n) (λi _=>N xs-(intOf i).toNat)
  case atStart=>exact⟨0,ZP _,rfl,rfl,0,rfl⟩
  case round=>
   obtain⟨k,P,rfl,t,n,rfl⟩:=hrel;by_cases g:k<N xs
   .have q:k<N ys:=X
    obtain⟨b,L,rfl,u⟩:=hx.get g;obtain⟨Q,v,rfl,j⟩:=hy.get q;have D:=u k g;have G:=j k q;clear u j hx hy;obtain⟨x,d⟩:=eY (E xs k 0);obtain⟨y,f⟩:=eY (E ys k 0);rw[<-d]at D;rw[<-f]at G;obtain⟨z,A⟩:=bV d f;clear d f;by_cases l:x=y
    .have r:(x != y)=false:=by simp[l]
     go_wp2;go_quiet (fail);go_wp2;go_roundw
     case rel=>exact⟨k+1,X,Qf,qE g q t.o (by rw[<-z.o,<-A.o];exact l),_,rfl⟩
     case measure=>exact Qw
    .have r:(x != y)=true:=by simp[l]
     go_wp2;go_quiet (fail);go_wp2;go_ret;exact⟨QV (ZL (λe=>l (by rw[z.o,A.o,e]))).symm,Zc (Zc (Q5 _ _) _) _⟩
   .have K:=Zh (by  omega:k=N xs)
    go_wp2;go_ret;exact⟨QV (by refine(Zg ?_).symm;have:=t.o;rw[K.o,ZV,m.o,ZV]at this;exact this),Zc (Q5 _ _) _⟩
 .have p:((N xs:Int) != (N ys:Int))=true:=by rw[bne_iff_ne];omega
  have m:Qk _:=a;clear a;go_enter func104,ntmps104;go_wp2;go_ret;exact⟨QV (ZL (λe=>m.o (by rw[e]))).symm,Q5 _ _⟩
theorem lV(ao bo:JW)(cap cap':Nat)(xs ys:KJ)(w:U)(hx:IntsAt w ao xs)(hy:IntsAt w bo ys)(hcap:N xs<=cap) :
  Cb 84 #[Z ao (N xs) cap,Z bo (N ys) cap'] w (Qo (aM xs ys)):=by
 have f:=hy.1;by_cases a:N ys<=N xs
 .have b:=Zh (by unfold aM;rw[Zg a,Zi]:aM xs ys=decide (xs.take (N ys)=ys))
  have d:=Gx ao bo cap cap' (xs.take (N ys)) ys w (hx.take _) hy;rw[Xu,Nat.min_eq_left a]at d;generalize aM xs ys=S,decide (xs.take (N ys)=ys)=B at*;clear hx hy;go_enter func84,ntmps84;go_wp2_with fail;refine d.mono ?_;clear d;rintro e i ⟨rfl,g⟩;go_wp2;go_ret;exact⟨QV b.o.symm,g⟩
 .have b:=Zh (by unfold aM;grind:aM xs ys=F)
  generalize aM xs ys=S at*;clear hx hy;go_enter func84,ntmps84;go_wp2;go_ret;exact⟨QV b.o.symm,Q5 _ _⟩
def zh(ao:JW)(cap:Nat)(xs:KJ)(w:U)(hx:IntsAt w ao xs) :
  Ce 90 #[Z ao (N xs) cap] w (Qo (dV xs)):=by
 have y:=hx.1;have q:Qk _:=@Ar xs;have r:Qk _:=@Au xs;generalize dV xs=C at*;go_enter func90,ntmps90;go_wp2;go_loop [7] (λi=>∃k:Nat,k<=N xs/\i=I J k/\Qk (∀j,j<k->E xs j 0=j)) (λi=>N xs-(intOf i).toNat)
 case atStart=>exact⟨0,ZP _,rfl,λj p=>absurd p X⟩
 case round=>
  obtain⟨k,z,rfl,m⟩:=hrel;by_cases d:k<N xs
  .obtain⟨b,v,rfl,n⟩:=hx.get d;have t:=n k d;clear n hx;have l:=Zh (q.o d);obtain⟨x,a⟩:=eY (E xs k 0)
   rw[<-a]at t l;have u:=Zh a;clear a;by_cases f:x=(k:Int)
   .have g:(x != (k:Int))=false:=by simp[f]
    have e:=Zh f;clear f;go_wp2;go_round
    case rel=>exact⟨k+1,X,Qf,λj p=>by
     rcases Xv j k with h|h
     .exact m.o j h
     .obtain rfl:j=k:=X
      rw[<-u.o];exact e.o⟩
    case measure=>exact Qw
   .have g:(x != (k:Int))=true:=by simp[f]
    have e:=Zh (l.o f);go_wp2;go_ret;exact⟨QV e.o.symm,rfl⟩
  .have e:=Zh (r.o (λi A=>m.o i X));go_wp2;go_ret;exact⟨QV e.o.symm,rfl⟩
def Gy(q:ae){k:Nat}(hk:k<N q.ord.xs):(q.ord.xs.take (k+1)).map (λp=>E q.ay.xs p.toNat 0)=(q.ord.xs.take k).map (λp=>E q.ay.xs p.toNat 0)++[E q.ay.xs (E q.ord.xs k 0).toNat 0]:=by
 have e:E q.ord.xs k 0=q.ord.xs[k]:=by simp[List.getD,hk]
 rw[QZ hk,Q0,e];rfl
def zi{base':Nat}{xs:Qu Qa}(h:w.ownsRow base e size v n xs)(hb:base'<=base):w.ownsRow base' e size v n xs:=Xc h hb (λ_ _ _=>rfl)
def mX{n:Int}(h:aP xs n=T)(hk:k<N xs):0<=E xs k 0/\E xs k 0<n:=by unfold aP at h;rw[Q4]at h;have:=h _ (dB hk (d:=0));simpa using this
theorem o9(q:ae)(w:U)(hq:q.At w)(hos:aP q.ord.xs (N q.ay.xs)=T)(hol:N q.ord.xs<=1000) :
  Calls V 89 #[Qr q.cells] w λe w'=>∃v,e=Qs v/\w'.ownsRow (M (H w)) 3 1 v (N (ik q)) ((ik q).map (Value.int J))/\Bw w w':=by
 obtain⟨r,f⟩:=eY (w.alloc (Qq q.cells 26));have i:Bw w r:=by rw[f];exact bz _ _
 have B:GB r (M (H w)) 26 q.cells:=by rw[f];exact iB _ _
 have q5:=B.at 5;have q6:=B.at 6;have zg:=f.symm;have sW:Qk (IntsAt w q.ay.ad q.ay.xs):=hq.ay;have Lu:Qk (IntsAt w q.ord.ad q.ord.xs):=hq.ord;have O9:=Zh hos;have WA:Qk (∀k,k<N q.ord.xs->_):=λk A=>@Gy q k A;have m:Qk (ik q=(q.ord.xs.take (N q.ord.xs)).map (λp=>E q.ay.xs p.toNat 0)):=by show _=_;rw[ZV];rfl
 have af:=hq.ay.1;have HL:Qk (∀k,N ((q.ord.xs.take k).map (λp=>E q.ay.xs p.toNat 0))<=1000):=λk=>Qc;clear f B hq hos;obtain⟨P,bF,aG,wh,j,t,u,⟨ea,ec,y⟩,⟨oa,oc,a⟩⟩:=q;unfold ae.cells ai.val at*;simp only at*;generalize ik ⟨P,bF,aG,wh,j,t,u,⟨ea,ec,y⟩,⟨oa,oc,a⟩⟩=WN at*;obtain⟨W,z⟩:=eY (λk=>(a.take k).map (λp=>E y p.toNat 0):Nat->KJ);have YV:Qk (∀k,k<N a->W (k+1)=W k++[E y (E a k 0).toNat 0]):=λk A=>by rw[z];exact WA.o k A
 have YW:=Zh (by  rw[z];exact m.o:WN=W (N a))
 have C:Qk (∀k,N (W k)<=1000):=λk=>by rw[z];exact HL.o k
 have D:=Zh (by  rw[z];rfl:W 0=[])
 clear z WA m HL;go_enter func89,ntmps89;go_wp2;go_loopw [3,9] (λv iv wr=>∃k:Nat,k<=N a/\iv=I J k/\Qk (wr.ownsRow (M (H r)) 3 1 v (N (W k)) ((W k).map (Value.int J)))/\Bw r wr) (λ_ iv _=>N a-(intOf iv).toNat)
 case atStart=>exact⟨0,ZP _,rfl,by rw[D.o];exact Xa _ _ _ _,Q5 _ _⟩
 case round=>
  obtain⟨k,A,rfl,l,d⟩:=hrel;have WB:=cB d q5;by_cases g:k<N a
  .have k1:=ah i d;obtain⟨ob,oo,rfl,Q⟩:=QY Lu.o g;have ag:=cB k1 (Q k g);have G:=mX O9.o g;have HT:=Zh (YV.o k g);have aa:=C.o k;generalize E a k 0=p at*;obtain⟨n,rfl⟩:=Xj G.1;have hn:n<N y:=X
   obtain⟨eb,eo,rfl,R⟩:=QY sW.o hn;have aj:=cB k1 (R n hn);rw[Xk]at HT;generalize E y n 0=x at*;generalize ak:W k=L at*;obtain⟨ra,rm,rc,rfl⟩:=ZK l.o;obtain⟨v',w5,uf,l9,S,⟨ua,um,uc,rfl⟩,-⟩:=kP wr (M (H r)) (Z ra rm rc) L l.o X d.size x 23;have K:=d.trans (S.below d.size (λb hb e=>Qj ((ZJ l.o e).1)));rw[<-HT.o]at l9;have Eh:Qk _:=l9;have zK:=Zh K;go_wp2_with (first|(at_builtin;refine Xd rfl (.tmp 13) (.tmp 19) 23 rfl (Z ra rm rc) (Z (O (aD (M (H wr)) 0)) 1 1) (Z ua um uc) w5 rfl rfl uf ?_));go_wp2;go_roundw
   case rel=>exact⟨k+1,X,Qf,Eh.o,zK.o⟩
   case measure=>exact Qw
  .obtain rfl:k=N a:=X
   rw[<-YW.o]at l;obtain⟨HF,HB⟩:=bV (zi l.o i.size) (ah i d);clear l d;go_wp2;go_ret;exact⟨_,rfl,HF.o,HB.o⟩
structure YX(q:ae)(kind:Int):Prop where
 places:kind=9->aP q.ord.xs (N q.ay.xs)=T
 few:N q.ord.xs<=1000
theorem zk(q:ae)(kind:Int)(oa:JW)(oc:Nat)(order:KJ)(w:U)(hq:q.At w)(hk:YX q kind)(ho:IntsAt w oa order)(hcap:N order<=oc) :
  Cb 53 #[Qr q.cells,I J kind,Z oa (N order) oc] w (Qo (jV q kind order)):=by
 obtain⟨p,f⟩:=eY (w.alloc (Qq q.cells 26));have a:Bw w p:=by rw[f];exact bz _ _
 have R:GB p (M (H w)) 26 q.cells:=by rw[f];exact iB _ _
 obtain⟨q0,q1,q2,q3,q4,q5,q6⟩:=R.k7;have zg:=f.symm;have aa:=hq.ord.1;have af:=hq.keys.1;have y:Qk (kind=9->_):=λe=>o9 q p (hq.below a) (hk.places e) hk.few;have z:Qk (∀P bc Q x,Bw p x->IntsAt x P Q->_):=λP bc Q x hb hy=>lV oa P oc bc order Q x (Q7 (ah a hb) ho) hy hcap;have A:Qk _:=zh q.ord.ad q.ord.cap q.ord.xs p (Q7 a hq.ord);obtain⟨m,B⟩:=eY (jV q kind order);rw[<-B];have Gz:Qk (N (ik q)<=1000):=by show _<=_;unfold ik;rw[ZR];exact hk.few
 unfold jV at B;have b:=Zh B;clear B;generalize ik q=WN,dV q.ord.xs=CB at*;have l:=Zh a;clear f R hq hk ho a;obtain⟨⟨sa,sc,ag⟩,bF,aG,wh,K,⟨ka,kc,r⟩,⟨ua,uc,W⟩,⟨ea,ec,ay⟩,⟨da,dc,g⟩⟩:=q;unfold ae.cells ai.val at*;simp only at*;by_cases u:N g=0
 .have d:=Zh (by  rw[b.o,Q8 u]:m=T)
  have jP:((N g:Int)==0)=true:=by rw[u];rfl
  clear b A y z u;go_enter func53,ntmps53;go_wp2;go_ret;exact⟨QV d.o.symm,l.o⟩
 rw[Zf u]at b;have jP:((N g:Int)==0)=false:=by rw[Xw];omega
 clear u;by_cases k:kind=10
 .have d:=Zh (by  rw[b.o,Q8 k]:m=T)
  subst k;clear b A y z;go_enter func53,ntmps53;go_wp2;go_ret;exact⟨QV d.o.symm,l.o⟩
 rw[Zf k]at b;by_cases k9:kind=9
 .have d:=Zh (by  rw[b.o,Q8 k9]:m=aM order WN)
  have S:=y.o k9;subst k9;clear b A y;go_enter func53,ntmps53;go_wp2_with fail;refine S.mono ?_;clear S;rintro e w2 ⟨v,rfl,i,j⟩;obtain⟨ya,yc,rfl,t⟩:=dY i (Qj Gz.o);have n:=z.o ya yc WN w2 j t;rw[<-d.o]at n;have C:=Zh (ah l.o j);clear z i t j;go_wp2_with fail;refine n.mono ?_;rintro e w3 ⟨rfl,L⟩;have D:=Zh (ah C.o L);go_wp2;go_ret;exact⟨rfl,D.o⟩
 rw[Zf k9]at b;by_cases k8:kind=8
 .rw[Q8 k8]at b;subst k8;by_cases aj:N g<=N r
  .have d:Qk (m=CB):=Qc
   have G:=A.o;go_enter func53,ntmps53;go_wp2_with fail;refine Xx G ?_;rintro e w2 ⟨rfl,rfl⟩;go_wp2;go_ret;exact⟨QV d.o.symm,l.o⟩
  .have d:Qk (m=F):=Qc
   go_enter func53,ntmps53;go_wp2;go_ret;exact⟨QV d.o.symm,l.o⟩
 .have d:=Zh (by  rw[b.o,Zf k8]:m=F)
  go_enter func53,ntmps53;go_wp2;go_ret;exact⟨QV d.o.symm,l.o⟩
def fZ(kind:Int)(ps:Qu aC):Bool:=ps.all λp=>di p.kind==decide (kind=10)
theorem CR{kind:Int}{ps:Qu aC}{k:Nat}(hk:k<N ps)(h:(di (E ps k aR).kind==decide (kind=10))=F):fZ kind ps=false:=by unfold fZ;grind
theorem CU{kind:Int}{ps:Qu aC}(h:∀i,i<N ps->(di (E ps i aR).kind==decide (kind=10))=T):fZ kind ps=true:=by unfold fZ;rw[Q4];intro p a;obtain⟨i,b,rfl⟩:=Q9 a;grind
def pg(ts:Qu af)(q:ae)(l:KJ)(s i:Nat):Bool:=
 decide ((if i=0 then -1 else E l (i-1) 0)<E l i 0)&&decide (E l i 0<N q.wh)&&aZ s (aL (cu ts q.src.xs (E q.wh (E l i 0).toNat lz).cs))
theorem zm(kind:Int)(ao:JW)(cap:Nat)(ps:Qu aC)(w:U)(hp:PartsAt w ao ps) :
  Cb 49 #[I J kind,Z ao (N ps) cap] w (Qo (fZ kind ps)):=by
 have hl:=hp.1;have t:Qk _:=@CR kind ps;have P:Qk _:=@CU kind ps;have HP:Qk _:=hp;generalize fZ kind ps=KL at*;clear hp;go_enter func49,ntmps49;go_wp2;go_loopw [9] (λL wr=>∃k:Nat,k<=N ps/\L=I J k/\Qk (∀j,j<k->(di (E ps j aR).kind==decide (kind=10))=T)/\Bw w wr) (λL _=>N ps-(intOf L).toNat)
 case atStart=>exact⟨0,ZP _,rfl,λj hj=>absurd hj X,Q5 _ _⟩
 case round=>
  obtain⟨k,hk,rfl,q,g⟩:=hrel;by_cases n:k<N ps
  .obtain⟨⟨b,aa,rfl,S,W,c2,c3,c4,c5⟩,_⟩:=HP.o.2 k n;obtain⟨d0,d1,d2,d3,d4,d5⟩:=I7 g S W c2 c3 c4 c5;have l:=Zh (t.o n);have u:Qk (∀p,p=E ps k aR->(di p.kind==decide (kind=10))=T->∀j,j<k+1->(di (E ps j aR).kind==decide (kind=10))=T):=λp hp h j hj=>by
    rcases Xv j k with R|R
    .exact q.o j R
    grind
   clear S W c2 c3 c4 c5 t q;obtain⟨p,hp⟩:=eY (E ps k aR);rw[<-hp]at d0 d1 d2 d3 d4 d5 l;have WG:=Zh hp;clear hp;obtain⟨A,B,C,⟨pa,pc,px⟩,D,G⟩:=p;unfold ai.val at*;simp only at*;have v:=λx=>qA A x;obtain⟨r,K⟩:=eY (di A);rw[<-K]at l v;have Sl:=Zh K;clear K;have m:Bw w (wr.alloc (Qq #[I J A,I Qn (B:Int),I Qn (C:Int),Z pa (N px) pc,I Qn (D:Int),I Qn (G:Int)] 65)):=ah g (bz _ _);have Q:=Zh m;clear m;have f:decide (kind=10)=(kind==10):=by rw[ZX];simp
   by_cases d:(r==decide (kind=10))=T
   .have y:(!(r==(kind==10)))=false:=by rw[<-f,d];rfl
    clear f;have HN:=Zh (u.o _ WG.o (by rw[<-Sl.o];exact d));clear d u l;go_wp2_with fail;refine(v _).mono ?_;rintro e w2 ⟨rfl,rfl⟩;go_wp2;go_roundw
    case rel=>exact⟨k+1,X,Qf,HN.o,Q.o⟩
    case measure=>exact Qw
   .have a:(r==decide (kind=10))=false:=by simpa using d
    have z:=Zh (l.o a);have y:(!(r==(kind==10)))=true:=by rw[<-f,a];rfl
    clear f;clear d a u l;go_wp2_with fail;refine(v _).mono ?_;rintro e w2 ⟨rfl,rfl⟩;go_wp2;go_ret;exact⟨QV z.o.symm,Q.o⟩
  .have z:=Zh (P.o (λi hi=>q.o i X));clear t P q;go_wp2;go_ret;exact⟨QV z.o.symm,g⟩
def Mf(ok:Ok ts q)(hk:k<N q.wh):aL (cu ts q.src.xs (E q.wh k lz).cs)<18446744073709551616:=
 (nZ ok.cat ok.src (ok.aO k hk)).lt ok.small
theorem GA{ts:Qu af}{q:ae}{l:KJ}{s k:Nat}(hk:k<N l)(h:pg ts q l s k=F):dU ts q l s=false:=by show (List.range (N l)).all (pg ts q l s)=F;grind
theorem GD{ts:Qu af}{q:ae}{l:KJ}{s:Nat}(h:∀i,i<N l->pg ts q l s i=T):dU ts q l s=true:=by show (List.range (N l)).all (pg ts q l s)=T;grind
theorem mY(f:bq)(ts:Qu af)(q:ae)(la:JW)(lc:Nat)(l:KJ)(s:Nat)(w:U)(ok:Ok ts q)(hf:f.At ts q w)(hl:IntsAt w la l)(hs:s<18446744073709551616) :
  Cb 78 #[Qr (f.cells ts q),Z la (N l) lc,I Qn (s:Int)] w (Qo (dU ts q l s)):=by
 obtain⟨A,d⟩:=eY (w.alloc (Qq (f.cells ts q) 60));have b:Bw w A:=by rw[d];exact bz _ _
 have R:GB A (M (H w)) 60 (f.cells ts q):=by rw[d];exact iB _ _
 have q1:=R.at 1;have S:Qm A (aD (M (H w)) 11)=O (Z f.na (N q.wh) f.nc):=by rw[<-hf.nl];exact R.cell 11
 have zg:w.alloc (Qq (f.cells ts q) 60)=A:=d.symm;have JY:Qk _:=hf.OW.below b;have Pb:Qk _:=Q7 b hl;have ai:=hl.1;have W:=hf.query.wh.1;have HB:Qk _:=@GA ts q l s;have HA:Qk _:=@GD ts q l s;have v:Qk (∀i,pg ts q l s i=(decide ((if i=0 then -1 else E l (i-1) 0)<E l i 0)&&decide (E l i 0<N q.wh)&&aZ s (aL (cu ts q.src.xs (E q.wh (E l i 0).toNat lz).cs)))):=λ_=>rfl;have Mg:Qk (∀k,k<N q.wh->E (qy ts q) k 0=aL (cu ts q.src.xs (E q.wh k lz).cs)/\aL (cu ts q.src.xs (E q.wh k lz).cs)<18446744073709551616):=λk B=>⟨yg ts q B,Mf ok B⟩;have nT:Qk _:=xY ts q;have K:Qk _:=b;generalize dU ts q l s=RB at*;obtain⟨L,Pd⟩:=eY (λk=>aL (cu ts q.src.xs (E q.wh k lz).cs):Nat->Nat);have Av:Qk (∀i,pg ts q l s i=(decide ((if i=0 then -1 else E l (i-1) 0)<E l i 0)&&decide (E l i 0<N q.wh)&&aZ s (L (E l i 0).toNat))):=λi=>by rw[Pd];exact v.o i
 have Pe:Qk (∀k,k<N q.wh->E (qy ts q) k 0=L k/\L k<18446744073709551616):=λk B=>by rw[Pd];exact Mg.o k B
 clear Pd v Mg;generalize pg ts q l s=RA,qy ts q=CL at*;generalize YZ:N q.wh=nw at*;clear YZ;generalize f.cells ts q=FC at*;have aj:nw<=1152921504606846976:=W;clear d R hf hl ok b;go_enter func78,ntmps78;go_wp2;clear zg;go_loopw [7,12] (λlv iv wr=>∃k:Nat,k<=N l/\iv=I J k/\(∃last:Int,lv=I J last/\-1<=last/\Qk (last=if k=0 then -1 else E l (k-1) 0))/\Qk (∀j,j<k->RA j=T)/\wr=A) (λ_ iv _=>N l-(intOf iv).toNat)
 case atStart=>exact⟨0,ZP _,rfl,⟨-1,rfl,X,rfl⟩,λj hj=>absurd hj X,rfl⟩
 case round=>
  obtain⟨k,B,rfl,⟨last,rfl,ah,rM⟩,P,rfl⟩:=hrel;by_cases t:k<N l
  .obtain⟨lb,lo,rfl,C⟩:=QY Pb.o t;have aa:=C k t;have a:Qk _:=Av.o k;have g:Qk _:=HB.o t;rw[<-rM.o]at a;have IM:Qk (∀c,c=E l k 0->c=if k+1=0 then -1 else E l (k+1-1) 0):=λc hc=>by rw[Zf X];exact hc
   have y:Qk (RA k=T->∀j,j<k+1->RA j=T):=λh j hj=>by
    rcases Xv j k with h'|h'
    .exact P.o j h'
    grind
   clear C rM P HB HA Av;obtain⟨c,r⟩:=eY (E l k 0);rw[<-r]at aa a;have Mh:Qk _:=IM.o c r;clear r IM;by_cases h1:c<=last
   .have p:Qk (RB=F):=g.o (by rw[a.o,ZL X];rfl);clear a g y;go_wp2;go_ret;exact⟨QV p.o.symm,K.o⟩
   by_cases h2:(nw:Int)<=c
   .have p:Qk (RB=F):=g.o (by rw[a.o,ZL (show ¬c<(nw:Int) by omega),Bool.and_false];rfl);clear a g y;go_wp2;go_ret;exact⟨QV p.o.symm,K.o⟩
   obtain⟨n,rfl⟩:=Xj (show 0<=c by omega);have hn:n<nw:=X;obtain⟨D,Y0⟩:=Pe.o n hn;obtain⟨cb,co,TN,G⟩:=dw.get JY.o (show n<N CL by rw[nT.o];exact hn);have ag:=G n (by rw[nT.o];exact hn);rw[D]at ag;rw[Xk]at a;clear G D;rw[TN]at S;clear TN;generalize L n=m at*;have u:=lM s m hs Y0 wr;by_cases Q:aZ s m=T
   .rw[Q]at u a;have HT:Qk _:=y.o (by rw[a.o,Zg X,Zg X];rfl);clear a g y Q;go_wp2_with fail;refine u.mono ?_;clear u;rintro e w2 ⟨rfl,rfl⟩;go_wp2;go_roundw
    case rel=>exact⟨k+1,X,Qf,⟨n,rfl,X,Mh.o⟩,HT.o,trivial⟩
    case measure=>exact Qw
   .have z:aZ s m=false:=by simpa using Q
    rw[z]at u a;have p:Qk (RB=F):=g.o (by rw[a.o,Bool.and_false]);clear a g y Q z;go_wp2_with fail;refine u.mono ?_;clear u;rintro e w2 ⟨rfl,rfl⟩;go_wp2;go_ret;exact⟨QV p.o.symm,K.o⟩
  .have p:Qk (RB=T):=HA.o (λi hi=>P.o i X);clear HB HA P;go_wp2;go_ret;exact⟨QV p.o.symm,K.o⟩
def GG(ts:Qu af)(q:ae)(hk:k<N xs):aL (gP ts q (xs.take (k+1)))=aL (gP ts q (xs.take k))|||2 ^ aj ts q.src.xs (E xs k 0):=by
 have e:E xs k 0=xs[k]:=by simp[List.getD,hk]
 unfold gP;rw[QZ hk,Q0,sO,e];show _|||aL [(aj ts q.src.xs xs[k]:Int)]=_;rw[mI]
def kS(ts:Qu af)(q:ae)(xs:KJ):Prop:=∀c∈xs,0<=c/\c<ax ts q.src.xs
def pq(ok:Ok ts q)(h:kS ts q xs):aQ (N q.src.xs) (gP ts q xs):=λx e=>by obtain⟨c,a,rfl⟩:=List.mem_map.1 e;obtain⟨b,d⟩:=h c a;have:=(ZU ok.cat ok.src b d).1;omega
def Mi(ok:Ok ts q)(h:kS ts q xs)(k:Nat):aL (gP ts q (xs.take k))<18446744073709551616:=
 (pq ok (λc a=>h c (List.mem_of_mem_take a))).lt ok.small
def rO(ok:Ok ts q):(N (dR ts q):Int)=ax ts q.src.xs:=by have:=lI ok.cat ok.src (N q.src.xs) (Q6 _);rw[ZV]at this;exact this
def uX(ok:Ok ts q)(h0:0<=c)(h1:c<ax ts q.src.xs):aj ts q.src.xs c<N q.src.xs:=(ZU ok.cat ok.src h0 h1).1
theorem uY(c:aF)(w:U) :
  Cb 100 #[c.val] w (Qo (!c.const&&decide (c.op≠2))):=by
 obtain⟨b,d,left,a,right⟩:=c;have e:=bz w (Qq #[Qo b,I J d,I J left,Qo a,I J right] 82);have f:=Zh e;clear e;have g:Qk (decide (d≠2)=(d != 2)):=by show _=_;rw[ZX];simp
 unfold aF.val
 cases a with
 |false =>
  go_enter func100,ntmps100;go_wp2;go_ret;exact⟨QV Qc,f.o⟩
 |true =>
  go_enter func100,ntmps100;go_wp2;go_ret;exact⟨rfl,f.o⟩
def pE(w:U)(xs:KJ)(t:TypeId)(hl:N xs<=1000):IntsAt (w.alloc (Qq (xs.map (Value.int J)).toArray t)) (O (aD (M (H w)) 0)) xs:=by refine⟨X,λi a=>⟨M (H w),0,rfl,?_⟩⟩;simp only[World.cell?,iB w _];simp[List.getD,a]
theorem ma(c:aF)(w:U) :
  Calls V 76 #[c.val] w λe z=>∃b,e=Qs (Z (O (aD b 0)) (N (au c)) (N (au c)))/\IntsAt z (O (aD b 0)) (au c)/\Bw w z:=by
 have q:Qk _:=λx=>uY c x;obtain⟨C,f,g,t⟩:=aY w #[Qo c.not,I J c.op,I J c.left,Qo c.const,I J c.right] 82;obtain⟨u,v,k,y,m⟩:=t.k5;have i:Qk (au c=if (!c.const&&decide (c.op≠2))=T then [c.left,c.right] else [c.left]):=by show _=_;unfold au;grind
 have j:=q.o C;generalize (!c.const&&decide (c.op≠2))=B,au c=CC at*;clear q t;obtain⟨D,G,left,n,right⟩:=c;unfold aF.val at*;simp only at*;have r:=Zh g;clear g
 cases B with
 |true =>
  obtain rfl:CC=[left,right]:=i.o;have l:Qk (∀x:U,IntsAt (x.alloc (Qq #[I J left,I J right] 3)) (O (aD (M (H x)) 0)) [left,right]):=λx=>pE x [left,right] _ Qb;clear i;go_enter func76,ntmps76;go_wp2_with fail;refine j.mono ?_;clear j f;rintro e p ⟨rfl,a⟩;obtain⟨A,K⟩:=iA a k m;have d:=Zh (ah (ah r.o a) (bz p (Qq #[I J left,I J right] 3)));clear a u v k y m;go_wp2;go_ret;exact⟨_,rfl,l.o _,d.o⟩
 |false =>
  obtain rfl:CC=[left]:=i.o;have l:Qk (∀x:U,IntsAt (x.alloc (Qq #[I J left] 3)) (O (aD (M (H x)) 0)) [left]):=λx=>pE x [left] _ Qb;clear i;go_enter func76,ntmps76;go_wp2_with fail;refine j.mono ?_;clear j f;rintro e p ⟨rfl,a⟩;have A:=cB a k;have d:=Zh (ah (ah r.o a) (bz p (Qq #[I J left] 3)));clear a u v k y m;go_wp2;go_ret;exact⟨_,rfl,l.o _,d.o⟩
def oz(f:bq)(ts:Qu af)(q:ae)(xa:JW)(xc:Nat)(xs:KJ)(w:U)(ok:Ok ts q)(hf:dW w f.ca (dR ts q))(hx:IntsAt w xa xs)(hxs:kS ts q xs) :
  Cb 75 #[Qr (f.cells ts q),Z xa (N xs) xc] w (I Qn ((aL (gP ts q xs):Nat):Int)):=by
 obtain⟨z,i⟩:=eY (w.alloc (Qq (f.cells ts q) 60));have g:Bw w z:=by rw[i];exact bz _ _
 have L:GB z (M (H w)) 60 (f.cells ts q):=by rw[i];exact iB _ _
 have q7:=L.at 7;have zg:=i.symm;have jO:Qk _:=hf.below g;have Y6:Qk _:=Q7 g hx;have aa:=hx.1;have ag:=hf.1;have t:Qk (∀k,k<N xs->aL (gP ts q (xs.take (k+1)))=aL (gP ts q (xs.take k))|||2 ^ aj ts q.src.xs (E xs k 0)):=λk A=>GG ts q A;have P:Qk (∀k,aL (gP ts q (xs.take k))<18446744073709551616):=λk=>Mi ok hxs k;have Q:Qk (aL (gP ts q (xs.take (N xs)))=aL (gP ts q xs)):=by show _=_;rw[ZV]
 have S:Qk (aL (gP ts q (xs.take 0))=0):=rfl;have Pf:Qk (∀k,k<N xs->∃n:Nat,E xs k 0=n/\n<N (dR ts q)/\(E (dR ts q) n (0,0)).1=aj ts q.src.xs (E xs k 0)/\aj ts q.src.xs (E xs k 0)<64):=λk A=>by obtain⟨h0,h1⟩:=hxs _ (dB A (d:=0));have h2:=rO ok;have h3:=uX ok h0 h1;have h4:=ok.small;refine⟨(E xs k 0).toNat,X,X,rfl,X⟩
 have o8:=Zh g;obtain⟨r,a⟩:=eY (λk=>aL (gP ts q (xs.take k)):Nat->Nat);have Pg:Qk (∀k,k<N xs->r (k+1)=r k|||2 ^ aj ts q.src.xs (E xs k 0)):=by rw[a];exact t.o
 have Ph:Qk (∀k,r k<18446744073709551616):=by rw[a];exact P.o
 have Pj:Qk (r (N xs)=aL (gP ts q xs)):=by rw[a];exact Q.o
 have Pk:Qk (r 0=0):=by rw[a];exact S.o
 generalize aL (gP ts q xs)=R,aj ts q.src.xs=SN,dR ts q=CS,f.cells ts q=FC at*;clear a t P Q S i L g ok hxs hf hx;go_enter func75,ntmps75;go_wp2;clear zg;go_loopw [5,10] (λsv K wr=>∃k:Nat,k<=N xs/\K=I J k/\(∃s:Nat,sv=I Qn (s:Int)/\Qk (s=r k))/\Bw z wr) (λ_ K _=>N xs-(intOf K).toNat)
 case atStart=>exact⟨0,ZP _,rfl,⟨0,rfl,Pk.o.symm⟩,Q5 _ _⟩
 case round=>
  obtain⟨k,A,rfl,⟨s,rfl,v⟩,b⟩:=hrel;by_cases l:k<N xs
  .obtain⟨xb,xo,rfl,Pm⟩:=QY Y6.o l;have B:=cB b (Pm k l);obtain⟨n,hn,D,y,TP⟩:=Pf.o k l;have W:=Zh (Pg.o k l);have C:s<18446744073709551616:=by rw[v.o];exact Ph.o k
   obtain⟨cb,co,TQ,c0,_⟩:=jO.o.2 n D;obtain⟨d0,WH⟩:=iA b c0 q7;rw[TQ]at WH;rw[hn]at B;rw[y]at d0;rw[<-v.o]at W;clear Pm c0 TQ y v;generalize SN (E xs k 0)=m at*;clear hn;obtain⟨wa,G⟩:=eX (wr.alloc (Qq #[I J (m:Int)] 3));have Eg:=yl (M (H wr)) m wa (by rw[<-G];simp) TP;obtain⟨wb,j⟩:=eX (wa.alloc (Qq #[I Qn (s:Int),I Qn ((2 ^ m:Nat):Int)] 56));have hp:2 ^ m<18446744073709551616:=Xg (n:=64) X TP;have u:=nN (M (H wa)) s (2 ^ m) wb (by rw[<-j];simp) (by rw[<-j];simp) C hp;have CV:Qk (Bw z wb):=by show Below _ _ _;rw[<-j,<-G];exact ah (ah b (bz _ _)) (bz _ _)
   generalize 2 ^ m=p at*;go_wp2_with fail;refine Eg.mono ?_;clear Eg;rintro e w2 ⟨rfl,rfl⟩;go_wp2_with fail;refine u.mono ?_;clear u;rintro e w3 ⟨rfl,rfl⟩;clear G j;go_wp2;go_roundw
   case rel=>exact⟨k+1,X,Qf,⟨s|||p,rfl,W.o.symm⟩,CV.o⟩
   case measure=>exact Qw
  .obtain rfl:k=N xs:=X
   obtain⟨HV,HB⟩:=bV (v.o.trans Pj.o) (ah o8.o b);clear v b;go_wp2;go_ret;exact⟨QW (by rw[HV.o]),HB.o⟩
def dX(f:bq)(ts:Qu af)(q:ae):∃e g i v3 v4 v5 j k l v9 a b d,f.cells ts q=#[e,g,i,v3,v4,v5,j,k,l,v9,a,b,d]/\e=q.src.val/\g=Z q.bF (N q.wh) q.aG/\i=Qo q.group/\v3=q.keys.val/\v4=q.sums.val/\v5=q.ay.val/\j=q.ord.val/\
  k=Z f.ca (N (dR ts q)) f.cc/\l=I Qn ((2 ^ (N q.src.xs)-1:Nat):Int)/\v9=I Qn ((2 ^ (N q.wh)-1:Nat):Int)/\a=Z f.ra (N q.src.xs) f.rc/\b=Z f.na f.nl f.nc/\d=Z f.pa f.pl f.pc:=
 ⟨_,_,_,_,_,_,_,_,_,_,_,_,_,rfl,rfl,rfl,rfl,rfl,rfl,rfl,rfl,rfl,rfl,rfl,rfl,rfl,rfl⟩
theorem Aw(f:bq)(ts:Qu af)(q:ae)(p:aC)(w:U) :
  Cb 83 #[Qr (f.cells ts q),Qr p.cells] w (Qo (eG q p.d)):=by
 obtain⟨y,z,k,g⟩:=aY w ((f.cells ts q)) 60;obtain⟨P,A,l,m⟩:=aY y p.cells 65;have e:=l;have i:=ah k e;have n:=g.of (e.block _ g.lt);have D:=n.at 8;have G:=n.at 9;have r:=m;have K:=r.at 1;have L:=r.at 2;have u:Qk (eG q p.d=(decide (p.sources=2 ^ (N q.src.xs)-1)&&decide (p.clauses=2 ^ (N q.wh)-1))):=rfl;have t:=Zh i;generalize eG q p.d=B,f.cells ts q=FC,p.cells=PC,2 ^ (N q.src.xs)-1=s,2 ^ (N q.wh)-1=c,p.sources=a,p.clauses=b at*;by_cases C:a=s
 .subst C;have j:Qk (B=((b:Int)==(c:Int))):=by show _=_;rw[u.o,Zg rfl,Zi,ZX,Zd,beq_iff_eq];omega
  go_enter func83,ntmps83;go_wp2;go_ret;exact⟨QV j.o.symm,t.o⟩
 .have j:Qk (B=F):=Qc
  have v:((a:Int)==(s:Int))=false:=by rw[Xw];omega
  go_enter func83,ntmps83;go_wp2;go_ret;exact⟨QV j.o.symm,t.o⟩
theorem qH(f:bq)(ts:Qu af)(q:ae)(n:ag)(l r:aC)(w:U)(ok:Ok ts q)(hf:f.At ts q w)(hn:n.cl.At w)(hl:l.sources<=aH)(hr:r.sources<=aH) :
  Cb 79 #[Qr (f.cells ts q),Qr n.cells,Qr l.cells,Qr r.cells] w (Qo (fM ts q n l.sources r.sources)):=by
 obtain⟨v0,v1,v2,v3,v4,v5,v6,v7,v8,v9,aa,aj,ak,jW,-⟩:=dX f ts q;obtain⟨w1,D,G,v⟩:=aY w ((f.cells ts q)) 60;obtain⟨w2,au,L,y⟩:=aY w1 n.cells 52;obtain⟨w3,av,P,z⟩:=aY w2 l.cells 65;obtain⟨w4,ax,Q,R⟩:=aY w3 r.cells 65;have p:=Q;have t:=ah P p;have u:=ah L t;have g:=ah G u;have iU:=v.of (u.block _ v.lt);have oC:=y.of (t.block _ y.lt);have vg:=oC.at 4;have Mk:=z.of (p.block _ z.lt);have J2:=Mk.at 1;have Sm:=R;have J3:=Sm.at 1;obtain⟨dZ,fq,gm,fD,fE,gp,gq,mi,mg,mh,fP,jc,fQ⟩:=iU.k13 (by rw[jW];rfl);have W:Qk (∀x,Bw w4 x->∀s:Nat,s<18446744073709551616->Cb 78 #[Qr (f.cells ts q),Z n.cl.ad (N n.cl.xs) n.cl.cap,I Qn (s:Int)] x (Qo (dU ts q n.cl.xs s))):=λx hb s hs=>
  mY f ts q n.cl.ad n.cl.cap n.cl.xs s x ok (hf.below (ah g hb)) (Q7 (ah g hb) hn) hs
 have HV:Qk (fM ts q n l.sources r.sources=(decide (l.sources &&& r.sources=0)&&dU ts q n.cl.xs (l.sources|||r.sources))):=rfl;have i:l.sources<18446744073709551616:=by unfold aH at hl;omega
 have j:r.sources<18446744073709551616:=by unfold aH at hr;omega
 have A:=Gh l.sources r.sources i j w4;have TS:Qk (∀(x:U) (b:Nat),_->_->_):=λx b h0 h1=>nN b l.sources r.sources x h0 h1 i j;have B:l.sources|||r.sources<18446744073709551616:=Nat.or_lt_two_pow (n:=64) i j;obtain⟨Lu,HC⟩:=bV B g;rw[jW]at W D ⊢;obtain⟨nk,nl,nr,ns,⟨na,nc,nx⟩,ny,no⟩:=n;unfold ai.val at*;simp only at*;generalize fM ts q _ l.sources r.sources=Jq,dU ts q nx=RB,ag.cells _=NC,l.cells=LC,r.cells=RC at*;generalize l.sources=a at*;generalize r.sources=b at*;by_cases hm:a &&& b=0
 .have k:decide (a &&& b≠0)=false:=ZL (λh=>h hm);have C:Qk (Jq=RB (a|||b)):=Qc
  rw[k]at A;go_enter func79,ntmps79;go_wp2_with fail;refine A.mono ?_;rintro e S ⟨rfl,rfl⟩;go_wp2;refine wH S λd=>?_;refine wA6 0 d ?_;refine IG 6 d ?_;refine wR 7 λK m=>?_;go_simp;refine oA m d λd=>?_;refine wR 8 λK m=>?_;go_simp;refine Xx (TS.o _ (M (H S)) Qb Qb) ?_;rintro e w6 ⟨rfl,rfl⟩;refine m.o _ _ d λd=>?_;refine wR 9 λK m=>?_;go_simp;refine Xx (W.o _ d (a|||b) Lu.o) ?_;rintro e w7 ⟨rfl,lu⟩;refine oT m d lu λd=>?_;refine wR 10 λK m=>?_;go_simp;refine m.o _ _ d λd=>?_;refine wD ?_;try simp only[pU]
  have zL:=Zh (ah HC.o d);go_wp2;go_ret;exact⟨QV C.o.symm,zL.o⟩
 .have k:decide (a &&& b≠0)=true:=Zg hm;have C:Qk (Jq=F):=Qc
  rw[k]at A;go_enter func79,ntmps79;go_wp2_with fail;refine A.mono ?_;rintro e S ⟨rfl,rfl⟩;go_wp2;go_ret;exact⟨QV C.o.symm,HC.o⟩
def zo(ts:Qu af)(q:ae){cs:Qu aF}(hk:k<N cs):aL (gP ts q (av (cs.take (k+1))))=aL (gP ts q (av (cs.take k)))|||aL (gP ts q (au (E cs k cz))):=by rw[ou hk];unfold gP;rw[Q0,sO]
def zq{cs:Qu aF}(h:c∈av (cs.take k)):c∈av cs:=by obtain⟨x,a,b⟩:=Zt.1 h;exact Zt.2 ⟨x,List.mem_of_mem_take a,b⟩
def zu(f:bq)(ts:Qu af)(q:ae)(ca:JW)(cc:Nat)(cs:Qu aF)(w:U)(ok:Ok ts q)(hf:dW w f.ca (dR ts q))(hx:bY w ca cs)(fe:kS ts q (av cs)) :
  Cb 45 #[Qr (f.cells ts q),Qr #[Z ca (N cs) cc]] w (I Qn ((aL (cu ts q.src.xs cs):Nat):Int)):=by
 obtain⟨v0,v1,v2,v3,v4,v5,v6,v7,v8,v9,P,Q,S,W,-⟩:=dX f ts q;obtain⟨w1,aa,ag,y⟩:=aY w ((f.cells ts q)) 60;obtain⟨w2,aD,ai,aj⟩:=aY w1 #[Z ca (N cs) cc] 80;have v:=ai;have n:=ah ag v;have iU:=y.of (v.block _ y.lt);have oC:=aj;have vB:=oC.at 0;obtain⟨dZ,fq,gm,fD,fE,gp,gq,mi,mg,mh,fP,jc,fQ⟩:=iU.k13 (by rw[W];rfl);have LD:=Zh ((hx.below n).2);have mU:Qk (∀x d l k,k<N cs->Bw w2 x->IntsAt x d (au (E cs k cz))->Calls V 75 #[Qr (f.cells ts q),Z d (N (au (E cs k cz))) l] x λe w'=>e=Qs (I Qn ((aL (gP ts q (au (E cs k cz))):Nat):Int))/\Bw x w'):=
  λx d l k u hb h=>oz f ts q d l _ x ok (hf.below (ah n hb)) h (λc z=>fe c (Zt.2 ⟨_,dB u,z⟩))
 have Pp:Qk (∀x c,_):=λx c=>ma c x;have B:Qk (∀k,k<N cs->aL (gP ts q (av (cs.take (k+1))))=aL (gP ts q (av (cs.take k)))|||aL (gP ts q (au (E cs k cz)))):=λk u=>zo ts q u;have wZ:Qk (∀k,aL (gP ts q (av (cs.take k)))<18446744073709551616):=λk=>(pq ok (λc z=>fe c (zq z))).lt ok.small;have Lt:Qk (∀k,k<N cs->aL (gP ts q (au (E cs k cz)))<18446744073709551616):=λk u=>(pq ok (λc z=>fe c (Zt.2 ⟨_,dB u,z⟩))).lt ok.small;have sW:Qk (aL (gP ts q (av (cs.take (N cs))))=aL (cu ts q.src.xs cs)):=by show _=_;rw[ZV];rfl
 have JZ:Qk (aL (gP ts q (av (cs.take 0)))=0):=rfl;have aC:=hx.1;have HC:=Zh n;obtain⟨t,g⟩:=eY (λk=>aL (gP ts q (av (cs.take k))):Nat->Nat);obtain⟨A,Mo⟩:=eY (λc=>aL (gP ts q (au c)):aF->Nat);have Pg:Qk (∀k,k<N cs->t (k+1)=t k|||A (E cs k cz)):=by rw[g,Mo];exact B.o
 have Ph:Qk (∀k,t k<18446744073709551616):=by rw[g];exact wZ.o
 have C:Qk (∀k,k<N cs->A (E cs k cz)<18446744073709551616):=by rw[Mo];exact Lt.o
 have Pj:Qk (t (N cs)=aL (cu ts q.src.xs cs)):=by rw[g];exact sW.o
 have Pk:Qk (t 0=0):=by rw[g];exact JZ.o
 have GI:Qk (∀x d l k,k<N cs->Bw w2 x->IntsAt x d (au (E cs k cz))->Cb 75 #[Qr #[v0,v1,v2,v3,v4,v5,v6,v7,v8,v9,P,Q,S],Z d (N (au (E cs k cz))) l] x (I Qn ((A (E cs k cz):Nat):Int))):=by rw[Mo,<-W];exact mU.o
 rw[W]at aa ⊢;generalize aL (cu ts q.src.xs cs)=R at*;go_enter func45,ntmps45;go_wp2;go_loopw [5,11] (λsv iv wr=>∃k:Nat,k<=N cs/\iv=I J k/\(∃s:Nat,sv=I Qn (s:Int)/\Qk (s=t k))/\Bw w2 wr) (λ_ iv _=>N cs-(intOf iv).toNat)
 case atStart=>exact⟨0,ZP _,rfl,⟨0,rfl,Pk.o.symm⟩,Q5 _ _⟩
 case round=>
  obtain⟨k,u,rfl,⟨s,rfl,hs⟩,r⟩:=hrel;by_cases j:k<N cs
  .obtain⟨cb,co,rfl,c0,c1,c2,c3,c4⟩:=LD.o k j;obtain⟨d0,d1,d2,d3,d4⟩:=gM r c0 c1 c2 c3 c4;have HT:=Zh (Pg.o k j);have D:s<18446744073709551616:=by rw[hs.o];exact Ph.o k
   have G:=C.o k j;have L:Qk (∀x d l,_->_->_):=λx d l hb h=>GI.o x d l k j hb h;rw[<-hs.o]at HT;generalize E cs k cz=c at*;have LF:=λx=>Pp.o x c;generalize A c=m,au c=CC at*;obtain⟨wb,aG,ak,ax⟩:=aY wr #[Qo c.not,I J c.op,I J c.left,Qo c.const,I J c.right] 82;obtain⟨b0,b1,b2,b3,b4⟩:=ax.k5;have p:=ah r ak;obtain⟨j0,j1,j2,j3,j4,j5,j6,j7⟩:=oK p dZ fq gm fD fE gp gq mi;obtain⟨j8,j9,aH,aI,aJ⟩:=gM p mg mh fP jc fQ;have CV:=Zh p;obtain⟨aK,aM,ay,aN,aO⟩:=c;unfold aF.val at*;simp only at*;go_wp2;refine wH wb λa=>?_;refine Ww 0 a ?_;refine wR 3 λK i=>?_;go_simp;refine Xx (LF _) ?_;rintro e w3 ⟨b,rfl,az,aA⟩;refine oT i a aA λa=>?_;refine wR 4 λK i=>?_;go_simp;refine Xx (L.o _ _ _ (ah CV.o a) az) ?_;rintro e w4 ⟨rfl,aB⟩;refine oT i a aB λa=>?_;refine wR 5 λK i=>?_;go_simp;refine oA i a λa=>?_;refine wR 6 λK i=>?_;go_simp;refine Xx (nN (M (H w4)) s m _ Qb Qb D G) ?_;rintro e w5 ⟨rfl,rfl⟩;refine i.o _ _ a λa=>?_;refine wR 7 λK i=>?_;go_simp;refine i.o _ _ a λa=>?_;refine wD ?_;try simp only[pU]
   have WJ:=Zh (ah CV.o a);go_wp2;go_roundw
   case rel=>exact⟨k+1,X,Qf,⟨s|||m,rfl,HT.o.symm⟩,WJ.o⟩
   case measure=>exact Qw
  .obtain rfl:k=N cs:=X
   obtain⟨HV,HB⟩:=bV (hs.o.trans Pj.o) (ah HC.o r);go_wp2;go_ret;exact⟨QW (by rw[HV.o]),HB.o⟩
def qM(k:Int):Int:=if k=0∨k=1 then 0 else if 3<=k/\k<=5 then 2 else 1
def dI(k:Int):Array Value:=#[I J (qM k),Qo (decide (k=1)),Qo (decide (2<=k/\k<=5)),Qo (decide (k=4∨k=5)),Qo (decide (k=6))]
def iL:Qu Value:=(List.range 11).flatMap λ(k:Nat)=>(dI (k:Int)).toList
def bW(w:U)(g:Nat):Prop:=∀j u,iL[j]? = O u->Qm w (aD g j)=O u
def bW.below{w w':U}{g:Nat}(hb:Bw w w')(h:bW w g):bW w' g:=λj u a=>cB hb (h j u a)
theorem bW.get{w:U}{g:Nat}(h:bW w g){k:Nat}(hk:k<=10) :
  Qm w (aD g (0+k*5))=O (I J (qM k))/\Qm w (aD g (0+k*5+1))=O (Qo (decide ((k:Int)=1)))/\Qm w (aD g (0+k*5+2))=O (Qo (decide (2<=(k:Int)/\(k:Int)<=5)))/\
   Qm w (aD g (0+k*5+3))=O (Qo (decide ((k:Int)=4∨(k:Int)=5)))/\Qm w (aD g (0+k*5+4))=O (Qo (decide ((k:Int)=6))):=by
 have a:∀j,j<5->iL[k*5+j]? = (dI (k:Int)).toList[j]?:=λj b=>by have:=flat_get (λ(k:Nat)=>(dI (k:Int)).toList) 5 (λ_=>rfl) 0 (List.range 11) k j Qi b;unfold iL;grind
 simp only[ZQ];refine⟨h (k*5) _ ?_,h (k*5+1) _ ?_,h (k*5+2) _ ?_,h (k*5+3) _ ?_,h (k*5+4) _ ?_⟩
 .have:=a 0 X;rw[Z4]at this;rw[this];rfl
 .rw[a 1 X];rfl
 .rw[a 2 X];rfl
 .rw[a 3 X];rfl
 .rw[a 4 X];rfl
theorem oG{k:Int}(h1:1<=k):qM k=(arity k:Int):=by unfold qM arity;grind
def aB(n:ag):KJ:=[n.l,n.r].take (arity n.kind)
def qN(n:ag)(w:U)(hs:bW w 0)(h1:1<=n.kind)(h10:n.kind<=10) :
  Calls V 48 #[Qr n.cells] w λe z=>∃b,e=Qs (Z (O (aD b 0)) (N (aB n)) 2)/\IntsAt z (O (aD b 0)) (aB n)/\M (H w)<=b/\Bw w z:=by
 obtain⟨d,S,f,p⟩:=aY w n.cells 52;obtain⟨g0,g1,g2⟩:=p.k3;have q:Qk (aB n=[n.l,n.r].take (arity n.kind)):=rfl;have A:=Zh (oG h1);have B:Qk (arity n.kind<=2):=by show _<=_;unfold arity;split <;> (try split) <;> omega
 have m:Qk (∀k:Nat,k<=10->_):=λk hk=>(hs.below f).get hk;have t:=Zh f;generalize n.cells=NC,aB n=IL at*;obtain⟨nk,i,j,ns,W,aa,ae⟩:=n;simp only at*;obtain⟨k,rfl⟩:=Xj (show 0<=nk by omega);obtain⟨y,-⟩:=m.o k X;rw[A.o]at y;have u:k<=10:=X;have C:1<=k:=X;generalize arity (k:Int)=ar at*;have D:=B.o;have G:Qk (∀x:U,IntsAt (x.alloc (Qq #[I J i,I J j] 3)) (O (aD (M (H x)) 0)) [i,j]):=λx=>pE x [i,j] _ Qb;rw[ZQ]at y;have L:¬(11:Int)<=(k:Int):=X;have v:(ar:Int)<=2:=X;go_enter func48,ntmps48;go_wp2;refine wH d λa=>?_;refine II 0 a ?_;refine wA5 5 a ?_;refine wR 4 λK g=>?_;go_simp;refine oA g a λa=>?_;refine wR 10 λK g=>?_;go_simp;refine g.o _ _ a λa=>?_;refine wR 11 λK g=>?_;go_simp;refine g.o _ _ a λa=>?_;refine wD ?_;try simp only[pU]
 have P:=Zh (ah t.o a);have Q:Qk (IntsAt ((d.alloc (Qq #[I J i,I J j] 3)).drew) (O (aD (M (H d)) 0)) (IL)):=by show IntsAt _ _ _;rw[q.o];exact IntsAt.take (G.o d.drew) ar
 have R:=Zh (by  rw[q.o,Xu];simp;omega:N IL=ar)
 go_wp2;go_ret;exact⟨M (H d),by rw[R.o];rfl,Q.o,t.o.size,P.o⟩
def Xz:=@bW.below
def hasB(ar:Nat)(sb cb kb ob:Bool)(n:ag):Qu Bool:=
 [decide ((ar:Int)<1)&&(n.l != 0),decide ((ar:Int)<2)&&(n.r != 0),!sb&&(n.source != 0),!kb&&(n.key != 0),!cb&&decide (0<N n.cl.xs),!ob&&decide (0<N n.co.xs)]
theorem GY(n:ag):(!((hasB (arity n.kind) (decide (n.kind=1)) (decide (2<=n.kind/\n.kind<=5)) (decide (n.kind=4∨n.kind=5)) (decide (n.kind=6)) n).any id))=l8 n:=by unfold hasB l8;rw[ZX];simp only[List.any_cons,List.any_nil,id,Bool.not_eq_true',Bool.or_eq_false_iff,Bool.and_eq_false_iff,Zd,Ze,Bool.not_eq_false',bne_eq_false_iff_eq];grind
def xg(n:ag)(ar:Nat)(sb cb kb ob:Bool)(w:U)(hcl:N n.cl.xs<=1152921504606846976)(hco:N n.co.xs<=1152921504606846976) :
  Cb 77 #[Qr n.cells,Qr #[I J (ar:Int),Qo sb,Qo cb,Qo kb,Qo ob]] w (Qo (!((hasB ar sb cb kb ob n).any id))):=by
 obtain⟨w1,aa,p,k⟩:=aY w n.cells 52;obtain⟨w2,ae,q,t⟩:=aY w1 #[I J (ar:Int),Qo sb,Qo cb,Qo kb,Qo ob] 132;have g:=q;have m:=ah p g;have i:=k.of (g.block _ k.lt);have fq:=i.at 1;have gm:=i.at 2;have fD:=i.at 3;have fE:=i.at 4;have gp:=i.at 5;have gq:=i.at 6;have S:=t;obtain⟨vB,uZ,ve,CZ,vg⟩:=S.k5;have j:=Zh m;obtain⟨u,D⟩:∃B,B=(decide ((ar:Int)<1)&&(n.l != 0)):=⟨_,rfl⟩;obtain⟨v,G⟩:∃B,B=(decide ((ar:Int)<2)&&(n.r != 0)):=⟨_,rfl⟩;obtain⟨y,K⟩:∃B,B=(!sb&&(n.source != 0)):=⟨_,rfl⟩;obtain⟨z,P⟩:∃B,B=(!kb&&(n.key != 0)):=⟨_,rfl⟩;obtain⟨A,Q⟩:=eY ((!cb&&decide (0<N n.cl.xs)));obtain⟨C,R⟩:=eY ((!ob&&decide (0<N n.co.xs)));have a:Qk (hasB ar sb cb kb ob n=[u,v,y,z,A,C]):=by show _=_;unfold hasB;rw[D,G,K,P,Q,R]
 obtain⟨W,E2,E3,E4,E5,E6⟩:=OP D G K P Q R;generalize hasB ar sb cb kb ob n=L at*;generalize Uo:n.cells=NC at*;clear D G K P Q R Uo k t i S p q m g;obtain⟨nk,nl,nr,ns,⟨na,nc,nx⟩,ny,⟨oa,oc,ox⟩⟩:=n;unfold ai.val at*;simp only at*;go_enter func77,ntmps77;go_upto_region 1 with fail;go_cut [5] from 6 to 13 (λc f=>c=Qo u/\f=w2)
 case first=>
  by_cases d:(ar:Int)<1
  .have b:u=(nl != 0):=by rw[W.o,Zg d,Zi]
   go_wp2_with fail;go_meet;exact⟨by rw[b],rfl⟩
  .have b:u=false:=by rw[W.o,ZL d,Xl]
   go_wp2_with fail;go_meet;exact⟨by rw[b],rfl⟩
 case rest=>
 obtain⟨rfl,rfl⟩:=hcut
 cases hB1:u with
 |true =>
  rw[hB1]at a;have e:Qk ((!L.any id)=F):=by show _=_;rw[a.o];simp
  clear a;go_wp2;go_ret;exact⟨QV e.o.symm,j.o⟩
 |false =>
 rw[hB1]at a;clear hB1;go_upto_region 2 with fail;go_cut [5] from 14 to 21 (λc f=>c=Qo v/\f=wc)
 case first=>
  by_cases d:(ar:Int)<2
  .have b:v=(nr != 0):=by rw[E2.o,Zg d,Zi]
   go_wp2_with fail;go_meet;exact⟨by rw[b],rfl⟩
  .have b:v=false:=by rw[E2.o,ZL d,Xl]
   go_wp2_with fail;go_meet;exact⟨by rw[b],rfl⟩
 case rest=>
 obtain⟨rfl,rfl⟩:=hcut
 cases hB2:v with
 |true =>
  rw[hB2]at a;have e:Qk ((!L.any id)=F):=by show _=_;rw[a.o];simp
  clear a;go_wp2;go_ret;exact⟨QV e.o.symm,j.o⟩
 |false =>
 rw[hB2]at a;clear hB2;go_upto_region 4 with fail;go_cut [22] from 23 to 30 (λc f=>c=Qo y/\f=wc)
 case first=>
  cases d:sb with
  |false =>
   subst d;have b:y=(ns != 0):=by rw[E3.o];rfl
   go_wp2_with fail;go_meet;exact⟨by rw[b],rfl⟩
  |true =>
   subst d;have b:y=false:=by rw[E3.o];rfl
   go_wp2_with fail;go_meet;exact⟨by rw[b],rfl⟩
 case rest=>
 obtain⟨rfl,rfl⟩:=hcut
 cases hB3:y with
 |true =>
  rw[hB3]at a;have e:Qk ((!L.any id)=F):=by show _=_;rw[a.o];simp
  clear a;go_wp2;go_ret;exact⟨QV e.o.symm,j.o⟩
 |false =>
 rw[hB3]at a;clear hB3;go_upto_region 5 with fail;go_cut [22] from 31 to 38 (λc f=>c=Qo z/\f=wc)
 case first=>
  cases d:kb with
  |false =>
   subst d;have b:z=(ny != 0):=by rw[E4.o];rfl
   go_wp2_with fail;go_meet;exact⟨by rw[b],rfl⟩
  |true =>
   subst d;have b:z=false:=by rw[E4.o];rfl
   go_wp2_with fail;go_meet;exact⟨by rw[b],rfl⟩
 case rest=>
 obtain⟨rfl,rfl⟩:=hcut
 cases hB4:z with
 |true =>
  rw[hB4]at a;have e:Qk ((!L.any id)=F):=by show _=_;rw[a.o];simp
  clear a;go_wp2;go_ret;exact⟨QV e.o.symm,j.o⟩
 |false =>
 rw[hB4]at a;clear hB4;go_upto_region 7 with fail;go_cut [39] from 40 to 48 (λc f=>c=Qo A/\f=wc)
 case first=>
  cases d:cb with
  |false =>
   subst d;have b:A=(decide (0<N nx)):=by rw[E5.o];rfl
   go_wp2_with fail;go_meet;exact⟨by rw[b],rfl⟩
  |true =>
   subst d;have b:A=false:=by rw[E5.o];rfl
   go_wp2_with fail;go_meet;exact⟨by rw[b],rfl⟩
 case rest=>
 obtain⟨rfl,rfl⟩:=hcut
 cases hB5:A with
 |true =>
  rw[hB5]at a;have e:Qk ((!L.any id)=F):=by show _=_;rw[a.o];simp
  clear a;go_wp2;go_ret;exact⟨QV e.o.symm,j.o⟩
 |false =>
 rw[hB5]at a;clear hB5;go_upto_region 8 with fail;go_cut [39] from 49 to 57 (λc f=>c=Qo C/\f=wc)
 case first=>
  cases d:ob with
  |false =>
   subst d;have b:C=(decide (0<N ox)):=by rw[E6.o];rfl
   go_wp2_with fail;go_meet;exact⟨by rw[b],rfl⟩
  |true =>
   subst d;have b:C=false:=by rw[E6.o];rfl
   go_wp2_with fail;go_meet;exact⟨by rw[b],rfl⟩
 case rest=>
 obtain⟨rfl,rfl⟩:=hcut
 cases hB6:C with
 |true =>
  rw[hB6]at a;have e:Qk ((!L.any id)=F):=by show _=_;rw[a.o];simp
  clear a;go_wp2;go_ret;exact⟨QV e.o.symm,j.o⟩
 |false =>
 rw[hB6]at a;clear hB6;have e:Qk ((!L.any id)=T):=by show _=_;rw[a.o];rfl
 clear a;go_wp2;go_ret;exact⟨QV e.o.symm,j.o⟩
