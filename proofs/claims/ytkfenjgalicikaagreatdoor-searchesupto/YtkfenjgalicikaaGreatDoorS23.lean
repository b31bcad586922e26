import Derived.Test.YtkfenjgalicikaaGreatDoorS20
import Derived.Test.YtkfenjgalicikaaGreatDoorS21
import Derived.Test.YtkfenjgalicikaaGreatDoorS22
set_option linter.all false
set_option maxRecDepth 100000
set_option maxHeartbeats 0
namespace Go.Proofs.Zz
open Go.RowKit Go.Shelf Go.Proofs.Tryz
open List renaming length->N,getD->E
open Go.Value renaming slice->Z,int->I,pointer->Y,bool->Qq,agg->Qt,tuple->Qv
open Go.Proofs.Tryz renaming prog->V
open Option renaming some->O,none->Qr
open Go.IntKind renaming i64->J,u64->Qp
open Bool renaming false->F,true->T
open Go renaming World->U,Value->Ql
open Go.World renaming heap->H,setCell->Qn,cell?->Qo
open _root_.Array renaming size->M
open Go.RowKit renaming Hid->Qm
open Go.Obj renaming cells->Qs
open Go.Ending renaming returned->Qu
variable {ts us:JK af} {xs:IC} {p q:ae} {t ty:TypeId} {aI ab b base be bf bk bo bu bw i k lo n wb:Nat} {P:Program} {W1 w w' x:U} {B Eq Fq:Pm} {σ τ:fE} {v va:Ql} {A:Nat->Nat} {fn:Func} {u:Tmp}
theorem aed(hc:gV ts=T)(ha:dm xs (N ts)=T)(h1:1<=N xs)(h5:N xs<=5):1<=aX ts xs/\aX ts xs<=20:=by
 have d:∀t∈xs,1<=(E ts t.toNat tz).bU/\(E ts t.toNat tz).bU<=4:=λt b=>by unfold dm at ha;rw[Q9]at ha;have:=ha t b;simp only[Q8,Zi]at this;exact uK hc (i:=t.toNat) X
 have e:∀l:IC,(∀t∈l,1<=(E ts t.toNat tz).bU/\(E ts t.toNat tz).bU<=4)->(N l:Int)<=aX ts l/\aX ts l<=4*N l:=by
  intro l
  induction l with
  |nil=>intro _;simp[aX]
  |cons a l ih =>
   intro h;have h1:=ih (λt b=>h t (by simp[b]));have f:=h a Qa;have g:aX ts (a::l)=(E ts a.toNat tz).bU+aX ts l:=by simp[aX]
   grind
 grind
theorem sU(h:q.check ts=0):JSm ts q:=by
 obtain⟨c,r,_⟩:=sS h;have G:=(aed c.qP c.au r c.jM).2;have e:=c.qP;have d:=c.au;unfold ae.check uj at h;rw[Zk (by rw[e];simp)]at h
 cases hf:mD q.au.xs q.qU q.aC.xs q.aM.xs q.bA.xs q.ord.xs with
 |true=>simp_all
 |false =>
  rw[Zk (by rw[hf];simp)]at h;split at h
  .rename_i hr
   obtain⟨_,_,j,f⟩:=hr;unfold jX at f;simp only[Q8]at f;obtain⟨⟨⟨⟨⟨⟨⟨u,v⟩,y⟩,z⟩,_⟩,_⟩,_⟩,_⟩:=f;unfold mD at hf;simp only[Bool.or_eq_false_iff,Zj]at hf;have K:=hf.1;have l:∀i∈q.wh,N i.cs<=3:=λi b=>by obtain⟨k,A,rfl⟩:=JO.1 b;have:=c.amc k A;simp_all
   unfold gV at e;simp only[Q8,Zi,Q9]at e;have m:N q.qU=N q.wh:=by unfold ae.qU;rw[ZX]
   have n:xA q.aF q.aC.xs q.aM.xs q.bA.xs<=1000:=by unfold xA;split <;> omega
   refine⟨⟨X,λt D=>?_⟩,⟨X,BH d X⟩,X,λi b=>⟨l i b,λx g=>?_⟩,⟨X,BH v X⟩,⟨X,BH y X⟩,⟨X,BH u X⟩,⟨X,BH z n⟩⟩
   .have a:=e.2 t D;unfold fI at a;simp only[Zi]at a;obtain⟨L,B,P,Q,C⟩:=a;refine⟨⟨X,λx g=>?_⟩,X,B⟩;obtain⟨i,b,rfl⟩:=JO.1 g;unfold dH at b ⊢;rw[Jb]at b;rw[List.getElem_take];have p:i=0∨i=1∨i=2∨i=3:=by simp at b;omega
    have:=C i X;rcases p with rfl|rfl|rfl|rfl <;> (unfold af.kd at this;simp only at this;simp;omega)
   .unfold jB at j;have a:=Q9.1 j i.cs (by unfold ae.qU;grind);unfold kK at a;simp only[Q8,Q9]at a;have a:=a.2 x g;unfold jW at a
    grind
  .omega
def Vo{t:af}(h:0<=t.bU/\t.bU<=4):(mF t).bU=t.bU/\(mF t).rows=t.rows/\∀m,m<t.bU.toNat->(mF t).kd m=t.kd m:=by
 have b:N (dH t)=t.bU.toNat:=by unfold dH;simp_all
 refine⟨by show (N (dH t):Int)=_;omega,rfl,λm a=>?_⟩;have e:(mF t).kd m=E (dH t) m 0:=by
  match m with
  |0=>rfl
  |1=>rfl
  |2=>rfl
  |3=>rfl
  |m+4=>omega
 rw[e];unfold dH
 match m with
 |0|1|2|3=>simp[List.getD,XQ,a,af.kd]
 |m+4=>omega
def afN(h:q.check ts=0)(hs:il q p):QS ts q (ts.map mF) p:=by
 obtain⟨c,l,_⟩:=sS h;have f:=sU h;have g:∀i:Nat,((E (ts.map mF) i tz).bU=(E ts i tz).bU/\(E (ts.map mF) i tz).rows=(E ts i tz).rows)/\∀m,m<(E ts i tz).bU.toNat->(E (ts.map mF) i tz).kd m=(E ts i tz).kd m:=λi=>by
  by_cases e:i<N ts
  .have j:E (ts.map mF) i tz=mF ts[i]:=by simp[List.getD,e]
   have k:E ts i tz=ts[i]:=by simp[List.getD,e]
   rw[j,k];obtain⟨a,b,d⟩:=Vo (f.Ea.2 ts[i] (Q6 e)).2;simp_all
  simp_all
 refine⟨hs,?_,?_⟩
 .unfold fV;simp only[List.flatMap_def];congr 1
  simp_all
 .funext s
  unfold jZ;rw[(g _).1.2]
theorem QS.aFL(h:QS ts q us p)(hc:q.check ts=0)(he:us=ts.map mF∨us=ts):p.check us=0:=by
 rw[h.1.check us];rcases he with rfl|rfl
 .have f:=sU hc;unfold ae.check uj at hc ⊢;have g:gV (ts.map mF)=gV ts:=by
   unfold gV;rw[ZX,List.all_map];congr 1
   suffices key:∀t∈ts,(fI ∘ mF) t=fI t by grind
   intro t l;obtain⟨a,b,d⟩:=Vo (f.Ea.2 t l).2;simp only[Function.comp];unfold fI;grind
  have i:aX (ts.map mF) q.au.xs=aX ts q.au.xs:=by
   unfold aX;congr 1;refine ZH λt _=>?_;by_cases e:t.toNat<N ts
   .have j:E (ts.map mF) t.toNat tz=mF ts[t.toNat]:=by simp[List.getD,e]
    have k:E ts t.toNat tz=ts[t.toNat]:=by simp[List.getD,e]
    rw[j,k];exact(Vo (f.Ea.2 _ (Q6 e)).2).1
   simp_all
  simp_all
 .exact hc
def Vx.fu{P:PlS}(h:Vx ts aI P w){s:Pm}(hk:aB s w w')(hs:s P.pb):Vx ts aI P w':=⟨h.blk.bT hk hs,h.Ea,h.qat,h.nil⟩
theorem Vx.cell{ts:JK af}{aI:Nat}{P:PlS}{w:U}(h:Vx ts aI P w):Qo w (aD P.pb 9)=O (Y (O (aD P.sb 0))):=by have:=h.blk.cell 9;exact this
structure iy where
 P:PlS
 aaA:Pm
 ts:JK af
 aI:Nat
 σ:fE
structure Pln(G:Pm)(p:iy)(w:U):Prop where
 O8:vS p.P.f p.ts p.P.q p.P.W
 se:∃Xq L,gW p.P.W p.P.f p.ts p.P.q Xq p.aaA w p.P.sb L p.σ/\∀b,G b->Xq b
 npb:¬G p.P.pb
 bT:Vx p.ts p.aI p.P w
 wO:p.P.q.check p.ts=0
 cap:1<=p.aI/\p.aI<=1000
 BA:nA p.ts p.P.q p.aI p.σ
def Gs(B:Pm)(ps:JK iy)(b:Nat):Prop:=B b∨∃p∈ps,p.aaA b
structure jr(Fq B:Pm)(ps:JK iy)(w:U):Prop where
 each:∀p∈ps,Pln (Gs B ps) p w
 apart:∀i j,i<N ps->j<N ps->i≠j->∀b,(ps[i]?.map iy.aaA).getD (λ_=>False) b->¬(ps[j]?.map iy.aaA).getD (λ_=>False) b
 off:∀p∈ps,∀b,p.aaA b->¬B b
 lt:∀b,Gs B ps b->¬Fq b/\b<M (H w)
def Pln.Af{G G' Nq:Pm}{p:iy}{w w':U}(h:Pln G p w)(hk:aB (λb=>¬Nq b) w w')(hN:∀b,Nq b->G b)(hd:∀b,p.aaA b->¬Nq b)(hG:∀b,G' b->G b∨M (H w)<=b/\b<M (H w')):Pln G' p w':=by
 obtain⟨j,L,s,e⟩:=h.se;have g:=s.hz.aj.size;have i:=h.bT.blk.lt;refine⟨h.O8,⟨_,L,s.Af (Nq:=Nq) (N':=λb=>M (H w)<=b/\b<M (H w')) (λb a=>e b (hN b a)) hd hk (λb a=>.inr a.1) (λb=>Iff.rfl) (λb a=>a.2) (λb a=>X),λb a=>(hG b a).imp (e b) id⟩,λa=>?_,h.bT.fu hk λf=>h.npb (hN _ f),h.wO,h.cap,h.BA⟩;rcases hG _ a with d|d
 .exact h.npb d
 .omega
theorem jr.own{B':Pm}{ps:JK iy}(h:jr Fq B ps w)(hk:aB (λb=>¬B b) w w')(hB:∀b,B' b->B b∨M (H w)<=b/\b<M (H w'))(hF:∀b,Fq b->b<M (H w)):jr Fq B' ps w':=by
 have f:∀b,Gs B' ps b->Gs B ps b∨M (H w)<=b/\b<M (H w'):=λb a=>by
  rcases a with a|a
  .exact(hB b a).imp .inl id
  .exact .inl (.inr a)
 refine⟨λp e=>(h.each p e).Af hk (λb a=>.inl a) (h.off p e) f,h.apart,λp e b g a=>?_,λb a=>?_⟩
 .rcases hB b a with d|d
  .grind [jr.off]
  .have:=(h.lt b (.inr ⟨p,e,g⟩)).2;omega
 .rcases f b a with d|d
  .exact⟨(h.lt b d).1,ZO (h.lt b d).2 hk.size⟩
  grind
theorem jr.aj{Fq B:Pm}{ps:JK iy}{w w':U}(h:jr Fq B ps w)(hb:Bw w w')(hF:∀b,Fq b->b<M (H w)):jr Fq B ps w':=h.own (Xk hb λ_ h _=>h) (λ_ h=>.inl h) hF
theorem jr.abj{ps:JK iy}(h:jr Fq B ps w)(hF:∀b,Fq b->b<M (H w)){p:iy}(hp:ps[i]? = O p){Xq:Pm}(hX:∀b,Gs B ps b->Xq b)(hr:nA p.ts p.P.q p.aI τ)(hs:dW p.P.W p.P.f p.ts p.P.q Xq p.aaA w p.P.sb τ w') :
  ∃l,jr Fq B (ps.set i { p with aaA:=l,σ:=τ }) w'/\aB (λb=>¬p.aaA b) w w'/\∀b,l b->p.aaA b∨M (H w)<=b:=by
 obtain⟨L',X',l,hs,D,n,z,S⟩:=hs;obtain⟨hi,K⟩:=XF.1 hp;have C:p∈ps:=K ▸ Q6 hi;have aT:∀b,l b->b<M (H w'):=λb a=>(hs.lt (hs.sub b a)).2;have G:∀b,Gs B (ps.set i { p with aaA:=l,σ:=τ }) b->Gs B ps b∨M (H w)<=b/\b<M (H w'):=λb a=>by
  rcases a with a|⟨r,hr,a⟩
  .exact .inl (.inl a)
  .rcases JR hr with hr|rfl
   .exact .inl (.inr ⟨r,hr,a⟩)
   .rcases z b a with h|h
    .exact .inl (.inr ⟨p,C,h⟩)
    simp_all
 have m:=h.each p C;have get:∀j,j<N ps->((ps.set i { p with aaA:=l,σ:=τ })[j]?.map iy.aaA).getD (λ_=>False)=if j=i then l else (ps[j]?.map iy.aaA).getD (λ_=>False):=λj d=>by grind
 have y:(ps[i]?.map iy.aaA).getD (λ_=>False)=p.aaA:=by rw[hp];rfl
 have R:∀j,j<N ps->∀b,(ps[j]?.map iy.aaA).getD (λ_=>False) b->b<M (H w):=λj d b a=>by rw[XG d]at a;exact(h.lt b (.inr ⟨_,Q6 d,a⟩)).2
 refine⟨l,⟨λr u=>?_,λj k d g A b=>?_,λr u b a hB=>?_,λb a=>?_⟩,D,z⟩
 .obtain⟨j,d,rfl⟩:=Ze u;rw[JB]at d;rw[List.getElem_set];by_cases e:i=j
  .rw[Zd e];refine⟨m.O8,⟨X',L',hs,λb a=>?_⟩,λa=>?_,m.bT.fu D λhn=>m.npb (.inr ⟨p,C,hn⟩),m.wO,m.cap,hr⟩
   .rcases a with a|⟨r,hr,a⟩
    .exact(S b).2 (.inl (hX b (.inl a)))
    .rcases JR hr with hr|rfl
     .exact(S b).2 (.inl (hX b (.inr ⟨r,hr,a⟩)))
     simp_all
   .have:=m.bT.blk.lt;rcases G _ a with n|n
    .exact m.npb n
    grind
  .rw[Zk e];refine(h.each _ (Q6 d)).Af D (λb a=>.inr ⟨p,C,a⟩) (λb a v=>?_) G;have:=h.apart j i d hi (λx=>e x.symm) b Qf
   simp_all
 .rw[JB]at d g;rw[get j d,get k g];intro a v;by_cases L:j=i
  .rw[Zd L]at a;rw[Zk X]at v;rcases z b a with t|t
   .exact h.apart j k d g A b (by rw[L,y];exact t) v
   grind
  .rw[Zk L]at a;by_cases Q:k=i
   .rw[Zd Q]at v;rcases z b v with t|t
    .exact h.apart j k d g A b a (by rw[Q,y];exact t)
    grind
   .rw[Zk Q]at v
    grind [jr.apart]
 .rcases JR u with hr|rfl
  .grind [jr.off]
  .rcases z b a with t|t
   .grind [jr.off]
   .have:=(h.lt b (.inl hB)).2;omega
 .rcases G b a with n|n
  .exact⟨(h.lt b n).1,ZO (h.lt b n).2 D.size⟩
  grind
theorem jr.add{ps:JK iy}(h:jr Fq B ps w)(hF:∀b,Fq b->b<M (H w)){p:iy}(hb:Bw w w')(jG:∀b,p.aaA b->M (H w)<=b)(Bv:M (H w)<=p.P.pb)(hn:¬p.aaA p.P.pb)(hse:∃m L,gW p.P.W p.P.f p.ts p.P.q m p.aaA w' p.P.sb L p.σ/\∀b,Gs B ps b->m b)(aqo:vS p.P.f p.ts p.P.q p.P.W)(aAc:Vx p.ts p.aI p.P w')(Rf:p.P.q.check p.ts=0)(nu:1<=p.aI/\p.aI<=1000)(hr:nA p.ts p.P.q p.aI p.σ):jr Fq B (ps++[p]) w':=by
 obtain⟨m,L,s,v⟩:=hse;have Q:∀b,p.aaA b->b<M (H w'):=λb u=>(s.lt (s.sub b u)).2;have l:∀b,Gs B (ps++[p]) b->Gs B ps b∨M (H w)<=b/\b<M (H w')/\p.aaA b:=λb hb=>by
  rcases hb with hb|⟨r,hr,hb⟩
  .exact .inl (.inl hb)
  .rcases Z5.1 hr with hr|hr
   .exact .inl (.inr ⟨r,hr,hb⟩)
   simp_all
 refine⟨λr g=>?_,λi j z A C b=>?_,λr g b u D=>?_,λb G=>?_⟩
 .rcases Z5.1 g with d|d
  .exact(h.each r d).Af (Nq:=λ_=>False) (Xk hb λ_ h _=>h) (λ_ h=>h.elim) (λ_ _ h=>h) λb hb=>(l b hb).imp id λx=>⟨x.1,x.2.1⟩
  .rw[XH]at d;subst d;refine⟨aqo,⟨m,L,s,λb hb=>?_⟩,λhb=>?_,aAc,Rf,nu,hr⟩
   .rcases l b hb with a|a
    .exact v b a
    .exact s.sub b a.2.2
   .rcases l _ hb with a|a
    .have:=(h.lt _ a).2;omega
    .exact hn a.2.2
 .have key:∀k,k<N (ps++[p])->∀b,((ps++[p])[k]?.map iy.aaA).getD (λ_=>False) b->(k<N ps/\(ps[k]?.map iy.aaA).getD (λ_=>False) b/\b<M (H w))∨k=N ps/\M (H w)<=b:=λk K b hb=>by
   rw[Zt,Xh]at K;by_cases n:k<N ps
   .rw[List.getElem?_append_left n]at hb;refine .inl ⟨n,hb,?_⟩;rw[XG n]at hb;exact(h.lt b (.inr ⟨_,Q6 n,hb⟩)).2
   .have e:k=N ps:=X
    simp_all
  intro y t;rcases key i z b y with⟨a1,a2,a3⟩|⟨a1,a2⟩ <;> rcases key j A b t with⟨c1,c2,c3⟩|⟨c1,c2⟩
  .grind [jr.apart]
  .omega
  .omega
  .omega
 .rcases Z5.1 g with d|d
  .grind [jr.off]
  .rw[XH]at d;subst d;have:=(h.lt b (.inl D)).2
   grind
 .rcases l b G with a|a
  .exact⟨(h.lt b a).1,ZO (h.lt b a).2 hb.size⟩
  grind
theorem jr.cells{Fq B:Pm}{ps:JK iy}{w:U}(h:jr Fq B ps w){p:iy}(hp:p∈ps):Qo w (aD p.P.sb 18)=O (I J p.σ.status)/\∃a c,Qo w (aD p.P.sb 17)=O (Z a p.σ.picks.length c):=by obtain⟨i,L,s,_⟩:=(h.each p hp).se;obtain⟨v0,j,v2,v3,v4,v5,k,l,m,v9,n,r,t,g,-⟩:=Jh p.P.f p.ts p.P.q;have b:=s.cells g;obtain⟨a,c,e⟩:=Om s.pk;have d:=b.at 17;refine⟨b.at 18,a,c,?_⟩;simp_all
def jr.step{Fq B:Pm}{ps:JK iy}{w:U}(h:jr Fq B ps w)(hF:∀b,Fq b->b<M (H w)){i:Nat}{p:iy}(hp:ps[i]? = O p)(pick:Int) :
  Calls V 30 #[Y (O (aD p.P.pb 0)),I J pick] w λe d=>∃f τ,τ=(if p.σ.status=1 then stQ p.ts p.P.q pick p.σ else p.σ)/\e=Qu (I J τ.status)/\jr Fq B (ps.set i { p with aaA:=f,σ:=τ }) d/\aB (λb=>¬p.aaA b) w d/\∀b,f b->p.aaA b∨M (H w)<=b:=by
 obtain⟨n,g⟩:=XF.1 hp;have m:p∈ps:=g ▸ Q6 n;have a:=h.each p m;obtain⟨y,L,s,r⟩:=a.se;have k:nA p.ts p.P.q p.aI (if p.σ.status=1 then stQ p.ts p.P.q pick p.σ else p.σ):=by
  by_cases j:p.σ.status=1
  .rw[Zd j];exact .inl ((a.BA.plain X).step a.wO a.cap.1 j pick).1
  .rw[Zk j];exact a.BA
 refine(aeC p.P.pb p.P.sb pick w a.bT.cell (aiH a.O8 s (a.BA.ok a.wO a.cap.1) (Qj ((a.BA.len a.wO a.cap.1).1)) pick) (λe d k=>by
  simp_all)).mono ?_
 rintro e d ⟨τ,l,rfl,t⟩;obtain⟨f,u,v⟩:=h.abj hF hp r (by rw[l];exact k) t;exact⟨f,τ,l,rfl,u,v⟩
def jr.run{ps:JK iy}(h:jr Fq B ps w)(hF:∀b,Fq b->b<M (H w)){p:iy}(hp:ps[i]? = O p)(A:Int)(hA:A<=9223372036854775807)(kE:Int)(po:LM)(pc:Nat)(xs:IC)(hx:aP w po xs)(Ei:vP (λb=>¬Gs B ps b) po (N xs)) :
  Calls V 32 #[Y (O (aD p.P.pb 0)),I J A,I J kE,Z po (N xs) pc] w λe g=>∃j τ,aaT p.ts p.P.q p.aI A kE p.σ τ/\τ=Vk p.ts p.P.q xs A.toNat kE p.σ/\e=Qu (I J τ.status)/\jr Fq B (ps.set i { p with aaA:=j,σ:=τ }) g/\aB (λb=>¬p.aaA b) w g/\∀b,j b->p.aaA b∨M (H w)<=b:=by
 obtain⟨v,m⟩:=XF.1 hp;have t:p∈ps:=m ▸ Q6 v;have f:=h.each p t;obtain⟨Q,L,s,y⟩:=f.se;have k:=f.BA.go f.wO f.cap.1 xs A kE;refine(aiV p.P.pb p.P.sb A kE po (N xs) pc w f.bT.cell (aqk f.O8 s (f.BA.ok f.wO f.cap.1) A hA kE ⟨po,pc,xs⟩ (λd hd _=>?_) hx (λhp a K r=>Ei hp a K (.inr ⟨p,t,r⟩))) (λe g k=>by
  simp_all)).mono ?_
 .have l:(Ag p.ts p.P.q xs d p.σ).status=1:=hd;by_cases u:p.σ.status=1
  .obtain⟨z,_,_,_,a5,_⟩:=(f.BA.plain X).aij f.wO f.cap.1 xs d;have:=a5 l;have:=(z.len f.wO f.cap.1).1;omega
  .have:=uX (rk:=gK) (ts:=p.ts) (q:=p.P.q) (conc:=bE p.ts p.P.q) (picks:=xs) (σ:=p.σ) (d:=0) u d;rw[ZT]at this;rw[show iV gK p.ts p.P.q (bE p.ts p.P.q) xs d 0 p.σ=p.σ from this]at hd;exact absurd hd u
 .rintro e g ⟨τ,n,rfl,C⟩;obtain⟨j,D,G⟩:=h.abj hF hp y (by rw[n];exact k.BA) C;exact⟨j,τ,by rw[n];exact k,n,rfl,D,G⟩
theorem jr.bP{Fq B:Pm}{ps:JK iy}{w:U}(h:jr Fq B ps w){p:iy}(hm:p∈ps) :
  Calls V 15 #[Y (O (aD p.P.pb 0))] w λe b=>∃f cap nv,e=Qu (Qv #[Z f (N nv) cap,I Qp (p.σ.bP.d.aJ:Int)])/\nv.map fA=p.σ.bP.ns/\oV 43 3 (M (H w)) b (Z f (N nv) cap) nv/\N nv<=64/\fH b f nv/\Bw w b:=by
 have a:=h.each p hm;obtain⟨q,L,s,r⟩:=a.se;have g:=a.BA.ok a.wO a.cap.1;refine(aeB p.P.pb p.P.sb w a.bT.cell (aiT a.O8 s g.core.bP g.core.ig) (λe b m=>by
  obtain⟨v,nv,i,_⟩:=m;exact⟨_,_,i⟩)).mono ?_
 rintro e b ⟨v,nv,rfl,j,k,t⟩;obtain⟨u,l,_⟩:=a.BA.apZ a.wO a.cap.1 j;have n:N nv<=64:=by unfold nG at l;simp_all
 obtain⟨f,cap,rfl,y⟩:=k.plan X;grind
def jr.aqp{ps:JK iy}(h:jr Fq B ps w)(hI:Ah w){p:iy}(hm:p∈ps) :
  Cb 33 #[Y (O (aD p.P.pb 0))] w (.string (iH (qE (ji p.ts p.P.q p.aI p.σ.picks p.σ.status)))):=by have a:=h.each p hm;obtain⟨b,L,s,d⟩:=a.se;exact amC a.bT s (sU a.wO) hI a.cap.2 ⟨Qj ((a.BA.len a.wO a.cap.1).1),a.BA.ig⟩ (Qj a.BA.range)
def dA(ts:JK af)(q:ae)(A:Int):Int:=if q.check ts=0/\(A<1∨1000<A) then 6 else q.check ts
def aeD(ao:LM)(cap:Nat)(ts:JK af)(q:ae)(A:Int)(w:U)(hx:aZ w ao ts)(hq:q.At w)(FJ:N q.aC.xs<=q.aC.cap)(Ao:N q.ord.xs<=q.ord.cap)(he:dA ts q A≠0) :
  Cb 22 #[Z ao (N ts) cap,Qt q.cells,I J A] w (Qv #[Y Qr,I J (dA ts q A)]):=by
 obtain⟨v0,g,v2,v3,v4,v5,i,p⟩:∃v0 g v2 v3 v4 v5 i,q.cells=#[v0,g,v2,v3,v4,v5,i]:=⟨_,_,_,_,_,_,_,rfl⟩;obtain⟨r,v,j,k⟩:=bI w #[v0,g,v2,v3,v4,v5,i] 35;have a:=checkQ_any ao cap ts q r (hx.aj j) (hq.aj j) FJ Ao;rw[p]at a ⊢;have e:=Zh j;obtain⟨a0,y,a2,a3,a4,a5,z⟩:=k.k7;by_cases m:q.check ts=0
 .have f:dA ts q A=6:=by unfold dA at he ⊢;omega
  have n:A<1∨1000<A:=by unfold dA at f;omega
  rw[f];rw[m]at a;by_cases B:A<1
  .clear n;go_enter func22,ntmps22;go_wp2_with fail;refine mR a λl d=>?_
   have b:=Zh (aO e.o d);go_wp2;go_ret2;exact⟨rfl,b.o⟩
  .have t:A > 1000:=X
   go_enter func22,ntmps22;go_wp2_with fail;refine mR a λl d=>?_;have b:=Zh (aO e.o d);go_wp2;go_ret2;exact⟨rfl,b.o⟩
 .have f:dA ts q A=q.check ts:=by unfold dA;omega
  rw[f];have u:(q.check ts != 0)=true:=by simpa using m
  generalize q.check ts=c at*;go_enter func22,ntmps22;go_wp2_with fail;refine mR a λl d=>?_;have b:=Zh (aO e.o d);go_wp2;go_ret2;exact⟨rfl,b.o⟩
theorem jr.start{ps:JK iy}(h:jr Fq B ps w)(hF:∀b,Fq b->b<M (H w))(hF0:Fq 0)(ao:LM)(cap:Nat)(ts:JK af)(q:ae)(A:Int)(hx:aZ w ao ts)(hn:ao=Qr->cap=0)(hq:q.At w)(FJ:N q.aC.xs<=q.aC.cap)(Ao:N q.ord.xs<=q.ord.cap)(ht:q.check ts=0->Tx q)(hs:dS w 0) :
  Calls V 22 #[Z ao (N ts) cap,Qt q.cells,I J A] w λe j=>Bw w j/\((dA ts q A≠0/\e=Qu (Qv #[Y Qr,I J (dA ts q A)]))∨
   (dA ts q A=0/\∃p:iy,e=Qu (Qv #[Y (O (aD p.P.pb 0)),I J 0])/\p.ts=ts/\il q p.P.q/\(p.aI:Int)=A/\p.σ=EH ts q p.aI/\q.check ts=0/\jr Fq B (ps++[p]) j/\∀b,p.aaA b->M (H w)<=b)):=by
 by_cases l:dA ts q A=0
 .have i:q.check ts=0/\1<=A/\A<=1000:=by unfold dA at l;omega
  obtain⟨d,rfl⟩:∃n:Nat,A=n:=⟨A.toNat,X⟩;refine(aiF ao cap ts q d (Gs B ps) w hx hn hq FJ Ao (ht i.1) hs i.1 X X (λb g=>(h.lt b g).2) (λg=>(h.lt 0 g).1 hF0) (hF 0 hF0)).mono ?_;rintro e j ⟨P,Mq,rfl,a⟩;have k:P.q.check ts=0:=by rw[a.same.check ts];exact i.1
  have m:EH ts q d=EH ts P.q d:=((a.same.qs ts).fF gK d).symm;refine⟨a.aj,.inr ⟨l,⟨P,Mq,ts,d,EH ts q d⟩,rfl,rfl,a.same,rfl,rfl,i.1,h.add hF a.aj a.new a.pb a.npb ?_ a.O8 a.bT k ⟨by show 1<=d;omega,Qb⟩ ?_,a.new⟩⟩
  .obtain⟨L,s⟩:=a.se;refine⟨λb=>(Gs B ps b∨b=P.pb)∨Mq b,L,?_,λb g=>.inl (.inl g)⟩
   show gW P.W P.f ts P.q _ Mq j P.sb L (EH ts q d);rw[m];exact s
  .show nA ts P.q d (EH ts q d)
   rw[m];exact .inl aii
 .refine(aeD ao cap ts q A w hx hq FJ Ao l).mono ?_
  simp_all
def Ox(h:QS ts q us p):Vk us p=Vk ts q:=by funext ps n t σ;unfold Vk;rw[h.Ve gK,h.conc]
theorem BQ(h:QS ts q us p):EH us p=EH ts q:=by grind [EH,QS.fF]
def Ai(ts:JK af)(q:ae)(aI:Nat)(picks:IC)(st:Int):fE:=
 if st=4 then Vk ts q [] 1 0 (Vk ts q picks (N picks) (-1) (EH ts q aI)) else Vk ts q picks (N picks) (-1) (EH ts q aI)
def aeE(h:QS ts q us p):Ai us p=Ai ts q:=by funext aI picks st;unfold Ai;rw[Ox h,BQ h]
theorem nA.load(h:nA ts q aI σ):Ai ts q aI σ.picks σ.status=σ:=by
 unfold Ai;split
 .grind [nA.aus]
 grind [nA.again]
theorem abk(h:il q p)(A:Int):dA ts p A=dA ts q A:=by grind [dA,il.check]
theorem jr.gX{ps:JK iy}{r r':iy}(h:jr Fq B ((ps++[r]).set (N ps) r') w):jr Fq B (ps++[r']) w:=by simp_all
theorem aeF{ps:JK iy}(h:jr Fq B ps w)(hF:∀b,Fq b->b<M (H w))(hF0:Fq 0)(hG:∀b,Gs B ps b->b<base)(ca:LM)(cc:Nat)(ts:JK af)(q p:ae)(pv:Ql)(cap:Int)(picks:IC)(st:Int)
  (ht:aZ w ca ts) (hn:ca=Qr->cc=0) (hq:wN base q p w) (hp:Ot base picks pv w) (hl:N picks<=1000000) (hs:dS w 0) :
  Calls V 64 #[Qt (#[Z ca (N ts) cc]++p.cells ++ #[I J cap,pv,I J st])] w λe w'=>Bw w w'/\((dA ts q cap≠0/\∃er,er≠0/\e=Qu (Qv #[Y Qr,I J er]))∨
   (dA ts q cap=0/\∃r:iy,e=Qu (Qv #[Y (O (aD r.P.pb 0)),I J 0])/\r.ts=ts/\il q r.P.q/\(r.aI:Int)=cap/\r.σ=Ai ts q r.aI picks st/\jr Fq B (ps++[r]) w')):=by
 obtain⟨p0,p1,p2,p3,p4,p5,p6,aa⟩:∃v0 v1 v2 v3 v4 v5 v6,p.cells=#[v0,v1,v2,v3,v4,v5,v6]:=⟨_,_,_,_,_,_,_,rfl⟩;obtain⟨iv,rfl,ag,aA,ah,gH,aB⟩:=hp;obtain⟨pa,pc,l⟩:=iv;simp only at ag ah gH aB;subst ag;rw[aa];show Calls V 64 #[Qt #[Z ca (N ts) cc,p0,p1,p2,p3,p4,p5,p6,I J cap,Z pa (N l) pc,I J st]] w _;obtain⟨w1,dB,A,d⟩:=bI w #[Z ca (N ts) cc,p0,p1,p2,p3,p4,p5,p6,I J cap,Z pa (N l) pc,I J st] 130;have u:=(h.aj A hF).start (λb G=>ZO (hF b G) A.size) hF0 ca cc ts p cap (ht.aj A) hn (hq.oO.aj A) hq.aC hq.ord (λ_=>hq.auS) (dS.aj A hs);rw[aa,abk hq.same]at u;have c0:=d.at 0;have c1:=d.at 1;have c2:=d.at 2;have c3:=d.at 3;have c4:=d.at 4;have c5:=d.at 5;have c6:=d.at 6;have c7:=d.at 7;have c8:=d.at 8;have c9:=d.at 9;have O7:=d.at 10;obtain⟨t,HL⟩:=bH A d.lt;have HI:Qm (aP w1 pa l/\(∀a,pa=O a->base<=a.block/\a.block<M (H w))/\N l<=1000000):=⟨Zc A aA,λa ea=>ah a ea,hl⟩;have R:=Zh hq.same;have HF:Qm ((∀b,Fq b->b<M (H w))/\Fq 0/\∀b,Gs B ps b->b<base):=⟨hF,hF0,hG⟩;go_enter func64,ntmps64;go_wp2_with fail;refine u.mono ?_;rintro e w2 ⟨k,(⟨Q,rfl⟩|⟨Q,r,rfl,Pn,ai,ak,au,aF,hP,jG⟩)⟩
 .have HE:Qm (Bw w w2/\dA ts q cap≠0):=⟨aO t.o k,Q⟩
  have fG:(dA ts q cap != 0)=true:=by simpa using Q
  obtain⟨er,C⟩:=eY (dA ts q cap);rw[<-C]at fG ⊢;have aM:=Zh C;clear C Q;go_wp2;go_ret2;exact⟨HE.o.1,.inl ⟨HE.o.2,er,Qb,rfl⟩⟩
 obtain⟨d9,aG⟩:=kP k c9 O7;have gH:(ps++[r])[N ps]? = O r:=Qa;have m:=Zh (aO t.o k);have S:Qm (∀x:U,M (H w)<=M (H x)->∀b,Fq b->b<M (H x)):=λx hx b G=>ZO (HF.o.1 b G) hx;have L:=hP.run (S.o w2 m.o.size) gH (N l:Int) (Qj HI.o.2.2) (-1) pa pc l (Zc k HI.o.1) (λ_ a ea j=>by
  have h1:=HI.o.2.1 a ea;rcases j with j|⟨r',g,j⟩
  .have:=HF.o.2.2 _ (.inl j);omega
  .rcases Z5.1 g with g|g
   .have:=HF.o.2.2 _ (.inr ⟨r',g,j⟩);omega
   .rw[XH]at g;subst g;have:=jG _ j;have:=t.o.size;omega)
 have v:Qm (∀b,r.aaA b->M (H w1)<=b):=jG;have f:Qm (dA ts q cap=0/\r.ts=ts/\il q r.P.q/\(r.aI:Int)=cap/\r.σ=EH ts q r.aI):=⟨Q,Pn,R.o.trans ai,ak,by rw[au,BQ (R.o.qs ts)]⟩;clear u k dB c0 c1 c2 c3 c4 c5 c6 c7 c8 c9 O7 Q Pn ai ak au aF hP jG gH;obtain⟨aR,D⟩:=eY (r.P.pb);rw[<-D]at L ⊢;have Lf:=Zh D;clear D;go_wp2_with fail;refine L.mono ?_;rintro e w3 ⟨M',τ,-,hτ,rfl,y,av,aH⟩;have ax:Qm (∀b,M' b->M (H w)<=b):=λb G=>by
  have:=t.o.size;rcases aH b G with h1|h1
  .have:=v.o b h1;omega
  .have:=m.o.size;omega
 have y:=y.gX;have hL:=HL.o;have aN:=JE av aG (λj=>Qj (v.o _ j));have n:Qm (Bw w w3):=m.o.trans (av.aj m.o.size λb G j=>Qj (v.o _ j));have HT:Qm (τ=Vk ts q l (N l) (-1) (EH ts q r.aI)):=by show _=_;rw[hτ,f.o.2.2.2.2,f.o.2.1,Ox (f.o.2.2.1.qs ts)];rfl
 have W:=Zh y;generalize τ.status=sv at*;by_cases K:st=4
 .have ay:(ps++[{ r with aaA:=M',σ:=τ }])[N ps]? = O { r with aaA:=M',σ:=τ }:=Qa
  have L:=W.o.run (S.o w3 n.o.size) ay 1 X 0 Qr 0 [] ⟨Qa,λi hi=>absurd hi Qa⟩ (λ_ a ea=>by cases ea);change Calls V 32 #[Y (O (aD r.P.pb 0)),I J 1,I J 0,Z Qr 0 0] w3 _ at L;rw[<-Lf.o]at L;subst K;go_wp2_with fail;refine L.mono ?_;rintro e w4 ⟨M4,τ4,-,aJ,rfl,aK,aL,-⟩;have az:=Zh aK.gX;have qO:Qm (Bw w w4):=n.o.trans (aL.aj n.o.size λb G j=>Qj (ax.o _ j));have z:Qm (τ4=Ai ts q r.aI l 4):=by show _=_;rw[aJ];show Vk r.ts r.P.q [] 1 0 τ=_;rw[HT.o,f.o.2.1,Ox (f.o.2.2.1.qs ts)];rfl
  generalize τ4.status=sv4 at*;go_wp2;go_ret2;exact⟨qO.o,.inr ⟨f.o.1,{ r with aaA:=M4,σ:=τ4 },by rw[Lf.o];rfl,f.o.2.1,f.o.2.2.1,f.o.2.2.2.1,z.o,az.o⟩⟩
 .have z:=Zh (by rw[HT.o];unfold Ai;rw[Zk K]:τ=Ai ts q r.aI l st)
  have aQ:(st==4)=false:=by simpa using K
  go_wp2;go_ret2;exact⟨n.o,.inr ⟨f.o.1,{ r with aaA:=M',σ:=τ },by rw[Lf.o];rfl,f.o.2.1,f.o.2.2.1,f.o.2.2.2.1,z.o,W.o⟩⟩
def amH{t:af}(h:0<=t.bU/\t.bU<=4):fM (mF t)=fM t:=by
 have g:N (dH t)=t.bU.toNat:=by unfold dH;simp_all
 unfold mF;generalize f:dH t=ks at g;unfold fM;rw[f];show _::bR (dH (ag4 t.rows ks))=_;have i:N ks<=4:=X;have e:dH (ag4 t.rows ks)=ks:=by
  unfold dH ag4;simp only[XY]
  match ks,i with
  |[],_=>rfl
  |[a],_=>rfl
  |[a,b],_=>rfl
  |[a,b,c],_=>rfl
  |[a,b,c,d],_=>rfl
  |_::_::_::_::_::_,h=>simp at h
 rw[e];rfl
theorem abl{l:JK af}(h:∀t∈l,fM (mF t)=fM t):dM fM (l.map mF)=dM fM l:=by grind [dM,List.map_congr_left]
def stJ(s:JK UInt8)(aI:Nat):fE:=Ai (bY s).ts (bY s).q aI (bY s).picks (bY s).st
def KG(s:JK UInt8):Prop:=dA (bY s).ts (bY s).q (bY s).cap=0/\qE (ji (bY s).ts (bY s).q (bY s).cap (stJ s (bY s).cap.toNat).picks (stJ s (bY s).cap.toNat).status)=s
structure LdP(s:JK UInt8)(r:iy):Prop where
 ts:r.ts=(bY s).ts
 q:il (bY s).q r.P.q
 cap:(r.aI:Int)=(bY s).cap
 st:r.σ=stJ s r.aI
def aeH(s:JK UInt8):(bY s).picks.length<=1000000:=by unfold bY;simp only;exact uZ kH (m:=1000000) rfl _
theorem aqr{a b:JK UInt8}(h:a≠b):((iH a).toList==(iH b).toList)=F/\iH a≠iH b:=by grind [iH,ByteArray.toList_eq]
def amJ{ps:JK iy}(h:jr Fq B ps w)(hF:∀b,Fq b->b<M (H w))(hF0:Fq 0)(hs:dS w 0)(hC:Vd w)(hI:Ah w)(s:JK UInt8)(hl:N s<=2000000) :
  Calls V 29 #[.string (iH s)] w λe z=>Bw w z/\((¬KG s/\e=Qu (Qv #[Y Qr,I J 7]))∨(KG s/\∃r:iy,e=Qu (Qv #[Y (O (aD r.P.pb 0)),I J 0])/\LdP s r/\jr Fq B (ps++[r]) z)):=by
 have D:=amG s hl hC;have aa:Qm (∀(x:U) (l:LM) (u:Nat) (p:ae) (pv:Ql),Bw w x->aZ x l (bY s).ts->(l=Qr->u=0)->wN (M (H w)) (bY s).q p x->Ot (M (H w)) (bY s).picks pv x->Calls V 64 #[Qt (#[Z l (bY s).ts.length u]++p.cells ++ #[I J (bY s).cap,pv,I J (bY s).st])] x λe z=>Bw x z/\((dA (bY s).ts (bY s).q (bY s).cap≠0/\∃er,er≠0/\e=Qu (Qv #[Y Qr,I J er]))∨
   (dA (bY s).ts (bY s).q (bY s).cap=0/\∃r:iy,e=Qu (Qv #[Y (O (aD r.P.pb 0)),I J 0])/\r.ts=(bY s).ts/\il (bY s).q r.P.q/\(r.aI:Int)=(bY s).cap/\r.σ=Ai (bY s).ts (bY s).q r.aI (bY s).picks (bY s).st/\jr Fq B (ps++[r]) z))):=λx l u p pv A ht hn hq iZ=>
  aeF (h.aj A hF) (λb vR=>ZO (hF b vR) A.size) hF0 (λb vR=>(h.lt b vR).2) l u _ _ p pv _ _ _ ht hn hq iZ (aeH s) (dS.aj A hs)
 obtain⟨ai,HF⟩:=bH hI hF;have af:Qm (∀(x y:U) (r:iy),Bw w x->jr Fq B (ps++[r]) x->LdP s r->dA (bY s).ts (bY s).q (bY s).cap=0->Calls V 33 #[Y (O (aD r.P.pb 0))] x λe z=>e=Qu (.string (iH (qE (ji (bY s).ts (bY s).q (bY s).cap (stJ s (bY s).cap.toNat).picks (stJ s (bY s).cap.toNat).status))))/\Bw x z):=λx _ r A S f h0=>by have:=S.aqp (ai.o.aj A) (p:=r) (List.mem_append_right _ (XH.2 rfl));rw[f.q.aml,f.ts,f.st,f.cap,show r.aI=(bY s).cap.toNat by have:=f.cap;omega]at this;exact this
 have m:Qm (KG s↔dA (bY s).ts (bY s).q (bY s).cap=0/\qE (ji (bY s).ts (bY s).q (bY s).cap (stJ s (bY s).cap.toNat).picks (stJ s (bY s).cap.toNat).status)=s):=Iff.rfl;generalize qE (ji (bY s).ts (bY s).q (bY s).cap (stJ s (bY s).cap.toNat).picks (stJ s (bY s).cap.toNat).status)=T1 at*;have ag:Qm (∀r:iy,r.ts=(bY s).ts->il (bY s).q r.P.q->(r.aI:Int)=(bY s).cap->r.σ=Ai (bY s).ts (bY s).q r.aI (bY s).picks (bY s).st->LdP s r):=λr a b c d=>⟨a,b,c,d⟩;have ah:Qm (∀{a b:JK UInt8},a≠b->((iH a).toList==(iH b).toList)=F/\iH a≠iH b):=aqr;obtain⟨TX,t⟩:=eY (iH s);rw[<-t]at D ⊢;have G:=Zh t;clear t;go_enter func29,ntmps29;go_wp2_with fail;refine D.mono ?_;rintro e w1 ⟨l,u,p,pv,rfl,ht,hn,hq,iZ,bL⟩;have hF:=aa.o w1 l u p pv bL ht hn hq iZ;have n:=Zh bL;generalize (#[Z l (bY s).ts.length u]++p.cells ++ #[I J (bY s).cap,pv,I J (bY s).st]:Array Ql)=JA at*;go_wp2_with fail;refine hF.mono ?_;rintro e W ⟨j,(⟨K,er,fG,rfl⟩|⟨K,r,rfl,Pn,L,Q,R,S⟩)⟩
 .have k:Qm (Bw w W/\¬KG s):=⟨aO n.o j,λhg=>K (m.o.1 hg).1⟩
  have ak:(er != 0)=true:=by simpa using fG
  go_wp2;go_ret2;exact⟨k.o.1,.inl ⟨k.o.2,rfl⟩⟩
 .have f:=ag.o r Pn L Q R;have g:=af.o W W r (aO n.o j) S f K;have k:Qm (Bw w W/\LdP s r/\dA (bY s).ts (bY s).q (bY s).cap=0):=⟨aO n.o j,f,K⟩
  have HP:=Zh S;clear hF j K Pn L Q R S f;obtain⟨au,v⟩:=eY (r.P.pb);rw[<-v]at g ⊢;have Lf:=Zh v;clear v;by_cases hT:T1=s
  .rw[hT,<-G.o]at g;go_wp2_with fail;refine mR g λw3 C=>?_
   have i:=Zh C;go_wp2;go_ret2;refine⟨aO k.o.1 i.o,.inr ⟨m.o.2 ⟨k.o.2.2,hT⟩,r,by rw[<-Lf.o];rfl,k.o.2.1,HP.o.aj i.o λb A=>ZO (HF.o b A) k.o.1.size⟩⟩
  .obtain⟨n1,n3⟩:=ah.o hT;rw[<-G.o]at n1 n3;generalize iH T1=TT at*;go_wp2_with fail;refine mR g λw3 C=>?_
   have i:=Zh (aO k.o.1 C);go_wp2;go_ret2;exact⟨i.o,.inl ⟨λhg=>hT (m.o.1 hg).2,rfl⟩⟩
def aeJ{ps:JK iy}(h:jr Fq B ps w){p:iy}(hp:p∈ps){s:JK UInt8}(hs:s=qE (ji p.ts p.P.q p.aI p.σ.picks p.σ.status)) :
  N s<=2000000/\KG s/\∀r,LdP s r->r.ts=p.ts.map mF/\QS p.ts p.P.q r.ts r.P.q/\r.aI=p.aI/\r.σ=p.σ:=by
 have a:=h.each p hp;have m:=sU a.wO;have K:=(a.BA.len a.wO a.cap.1).1;have L:=a.BA.range;have u:qQ 8000 p.σ.picks:=⟨X,a.BA.ig⟩;have y:=m.aml (cap:=(p.aI:Int)) (Qj a.cap) u (st:=p.σ.status) X;have A:=TA (ns:=ji p.ts p.P.q p.aI p.σ.picks p.σ.status) λn C=>Qj (y.2 n C);have e:=ag6 m (cap:=(p.aI:Int)) (st:=p.σ.status) (picks:=p.σ.picks) (Qj a.cap) X ⟨X,a.BA.ig⟩;rw[<-hs]at A e;have b:il p.P.q (bY s).q:=by
  rw[e];refine⟨rfl,?_,λi D=>?_,rfl,rfl,rfl,rfl,rfl⟩
  .show (N ((p.P.q.wh.map _).map _))=_
   simp
  .have v:i<N p.P.q.wh:=by simpa [Ba] using D
   simp[Ba,List.getD,v]
 have f:(bY s).ts=p.ts.map mF:=by rw[e]
 have g:=afN a.wO b;have z:(bY s).cap=p.aI:=by rw[e]
 have j:stJ s p.aI=p.σ:=by unfold stJ;rw[f,aeE g,e];exact a.BA.load
 have d:dA (bY s).ts (bY s).q (bY s).cap=0:=by unfold dA;rw[f,z,g.aFL a.wO (.inl rfl)];have:=a.cap;omega
 refine⟨Qj y.1,⟨d,?_⟩,λr l=>?_⟩
 .rw[z,XY,j,b.aml,f];rw[hs];unfold ji;rw[abl λt G=>amH (m.Ea.2 t G).2]
 .have k:r.aI=p.aI:=Qj l.cap
  refine⟨by rw[l.ts,f],?_,k,by rw[l.st,k,j]⟩;rw[l.ts,f];exact afN a.wO (b.trans l.q)
def VA(pb sb:Nat)(st:Int)(w:U)(hc:Qo w (aD pb 9)=O (Y (O (aD sb 0))))(h:Qo w (aD sb 18)=O (I J st)) :
  Ce 19 #[Y (O (aD pb 0))] w (I J st):=by have a:=KF sb st w h;go_enter func19,ntmps19;go_wp2_with fail;refine mR a λd b=>?_;rw[b];go_wp2;go_ret;exact⟨rfl,rfl⟩
def jr.status{ps:JK iy}(h:jr Fq B ps w){p:iy}(hp:p∈ps):Ce 19 #[Y (O (aD p.P.pb 0))] w (I J p.σ.status):=
 VA _ _ _ w (h.each p hp).bT.cell (h.cells hp).1
def jr.steps{ps:JK iy}(h:jr Fq B ps w){p:iy}(hp:p∈ps):Ce 20 #[Y (O (aD p.P.pb 0))] w (I J (p.σ.picks.length:Int)):=by obtain⟨a,c,b⟩:=(h.cells hp).2;exact abh _ _ w (h.each p hp).bT.cell (adD _ a _ c w b) λe d h=>⟨_,h.1⟩
def Oy{ps:JK iy}(h:jr Fq B ps w){p:iy}(hp:p∈ps)(ab off:Nat)(c0:Qo w (aD ab off)=O (Y (O (aD p.P.pb 0))))(c11:Qo w (aD ab (off+11))=O (I J (p.σ.picks.length:Int)))(c12:Qo w (aD ab (off+12))=O (I J p.σ.status)) :
  Ce 8 #[Y (O (aD ab off))] w (Qq T):=by have d:=h.status hp;have e:=h.steps hp;clear h;generalize p.P.pb=pb,p.σ.status=st,p.σ.picks.length=n at*;go_enter func8,ntmps8;go_wp2_with fail;refine mR d λb a=>?_;rw[a];clear a d b;go_wp2_with fail;refine mR e λb a=>?_;rw[a];clear a e b;go_wp2;go_ret;exact⟨rfl,rfl⟩
def ash(kn:Bool)(cap:Int)(w:U)(e:Ending)(w':U):Prop:=∃b,e=Qu (Qq b)/\(b=T->kn=T/\cap=1000)/\w' = w
theorem amL(ab off:Nat)(fa:LM)(fn fc:Nat)(wa:LM)(wc:Nat)(wh:JK aQ)(cap:Int)(kn:Bool)(c2:Qo w (aD ab (off+2))=O (Z fa fn fc))(c3:Qo w (aD ab (off+3))=O (Z wa (N wh) wc))(c9:Qo w (aD ab (off+9))=O (I J cap))(O7:Qo w (aD ab (off+10))=O (Qq kn))(hw:fD w wa wh)(hl:N wh<=2000000) :
  Calls V 67 #[Y (O (aD ab off))] w (ash kn cap w):=by
 obtain⟨z,L⟩:=bH hw hl;clear hw hl;go_enter func67,ntmps67;go_wp2;go_loopw [3,4] (λQ t wr=>∃i k:Nat,i<=N wh/\t=I J (i:Int)/\k<=i/\Q=I J (k:Int)/\wr=w) (λ_ t _=>N wh-(intOf t).toNat)
 case atStart=>exact⟨0,0,ZR _,rfl,Zb _,rfl,rfl⟩
 case round=>
  obtain⟨i,k,R,rfl,S,rfl,rfl⟩:=hrel;have D:i<=2000000:=Qj L.o;by_cases C:i<N wh
  .obtain⟨b,P,rfl,A⟩:=z.o.2.1 i C;have j:=z.o.2.2 i C;have l:=j.1;have m:Qo wr (aD b (P+i))=O (Z (E wh i lz).ad (E wh i lz).cs.length (E wh i lz).cap):=A;clear A;generalize (E wh i lz).ad=ad,(E wh i lz).cap=cp,(E wh i lz).cs=cs at*;have key:N cs≠1∨∃(c:aV) (a d:Nat),N cs=1/\ad=O (aD a d)/\Qo wr (aD a d)=O (Qq c.not)/\Qo wr (aD a (d+1))=O (I J c.op)/\Qo wr (aD a (d+3))=O (Qq c.const):=by
    by_cases g:N cs=1
    .obtain⟨a,d,e,u,v,W,y,d4⟩:=j.2 0 X
     grind
    .exact .inl g
   clear j;rcases key with g|⟨c,a,d,g,rfl,u,v,y⟩
   .have G:((N cs:Int)==1)=false:=Qi
    refine gQ ?_;exact⟨i+1,k,X,Qe,X,rfl,trivial⟩
   .obtain⟨q,B,lf,r,rt⟩:=c;simp only at u v y;generalize N cs=cl at*;subst g;clear l;by_cases f:B=0
    .subst f
     cases q <;> cases r
     .go_wp2;go_roundw
      case rel=>exact⟨i+1,k+1,X,Qe,X,Qe,trivial⟩
      case measure=>exact XK
     all_goals
      refine gQ ?_;exact⟨i+1,k,X,Qe,X,rfl,trivial⟩
    .have n:(B==0)=false:=by simpa using f
     refine gQ ?_;exact⟨i+1,k,X,Qe,X,rfl,trivial⟩
  .have K:¬(i:Int)<(N wh:Int):=X
   cases kn
   .go_wp2;go_ret;exact⟨_,rfl,λe=>(by cases e),rfl⟩
   .by_cases f:cap=1000
    .subst f;by_cases h3:fn<=3
     .have p:(fn:Int)<=3:=X
      go_wp2;go_ret;exact⟨_,rfl,λ_=>⟨rfl,rfl⟩,rfl⟩
     .have p:¬(fn:Int)<=3:=X
      go_wp2;go_ret;exact⟨_,rfl,λ_=>⟨rfl,rfl⟩,rfl⟩
    .have n:(cap==1000)=false:=by simpa using f
     go_wp2;go_ret;exact⟨_,rfl,λe=>(by cases e),rfl⟩
theorem TI{α:Type}(f:α->JK Ql)(z:Nat)(hf:∀x,N (f x)=z):∀(l:List α) (i j:Nat) (v:Ql) (n m:α),l[i]? = O m->j<z->f n=(f m).set j v->(l.flatMap f).set (i*z+j) v=(l.set i n).flatMap f
 |[],i,_,_,_,_,h,_,_=>by cases h
 |a::l,0,j,v,n,m,h,hj,e=>by simp_all
 |a::l,i+1,j,v,n,m,h,hj,e=>by have h':l[i]? = O m:=h;rw[Zr,QX,Zr,Jz _ _ Qb,hf,show (i+1)*z+j-z=i*z+j by grind,TI f z hf l i j v n m h' hj e]
theorem TJ{α:Type}(f:α->JK Ql)(z:Nat)(hf:∀x,N (f x)=z):∀(l:List α) (i j:Nat) (m:α) (v:Ql),l[i]? = O m->(f m)[j]? = O v->(l.flatMap f)[i*z+j]? = O v
 |[],i,_,_,_,h,_=>by cases h
 |a::l,0,j,m,v,h,e=>by grind
 |a::l,i+1,j,m,v,h,e=>by have h':l[i]? = O m:=h;rw[Zr,Zw Qb,hf,show (i+1)*z+j-z=i*z+j by grind];exact TJ f z hf l i j m v h' e
theorem aeM{w1:U}(ab off:Nat)(was s steps cap:Int)(kn ca:Bool)(c12:Qo w (aD ab (off+12))=O (I J was))(f12:w.frozen? (aD ab (off+12))=F)(dB:Qn w (aD ab (off+12)) (I J s)=w1)(c11:Qo w1 (aD ab (off+11))=O (I J steps))(hS:Calls V 67 #[Y (O (aD ab off))] w1 (ash kn cap w1))
  (hg:was≠1/\s=was∨was=1/\(s=1/\steps<1000000∨s=2∨s=3/\¬(kn=T/\cap=1000)∨s=4/\ca=T)) :
  Calls V 31 #[Y (O (aD ab off)),I J s,Qq ca] w λe i=>e=Qu (Qq T)/\i = w1:=by
 rcases hg with⟨h1,rfl⟩|⟨rfl,h2⟩
 .have f:(s != 1)=true:=by simpa using h1
  go_enter func31,ntmps31;go_wp2;go_ret;exact⟨rfl,rfl⟩
 .rcases h2 with⟨rfl,h3⟩|rfl|⟨rfl,h3⟩|⟨rfl,rfl⟩
  all_goals
   go_enter func31,ntmps31;go_wp2_with fail;try rw[dB]
   refine hS.mono ?_;rintro e g ⟨b,rfl,j,a⟩;rw[a];clear hS a g dB
  .go_wp2;go_ret;exact⟨rfl,rfl⟩
  .go_wp2;go_ret;exact⟨rfl,rfl⟩
  .have d:b=false:=Qb
   subst d;go_wp2;go_ret;exact⟨rfl,rfl⟩
  .go_wp2;go_ret;exact⟨rfl,rfl⟩
section
structure eH where
 p:iy
 co:LM
 cc:Nat
 ts:JK af
 q:ae
 cap:Int
 rM:Bool
 steps:Int
 status:Int
 aJ:Nat
def eH.eT(o:eH):JK Value:=[Y (O (aD o.p.P.pb 0)),Z o.co (N o.ts) o.cc,o.q.au.val,Z o.q.iF (N o.q.wh) o.q.cZ,Qq o.q.aF,o.q.aC.val,o.q.aM.val,o.q.bA.val,o.q.ord.val,I J o.cap,Qq o.rM,I J o.steps,I J o.status,I Qp (o.aJ:Int)]
structure aeN(Fq:Pm)(W1:U)(o:eH):Prop where
 oO:∀x,aB Fq W1 x->aZ x o.co o.ts/\o.q.At x
 D6:N o.q.wh<=2000000
 same:o.rM=T->QS o.ts o.q o.p.ts o.p.P.q/\o.q.check o.ts=0/\o.cap=o.p.aI
structure BS(o:eH):Prop where
 steps:o.steps=o.p.σ.picks.length
 status:o.status=o.p.σ.status
 aJ:o.p.σ.bP.d.aJ<=o.aJ
def BB(wb:Nat)(va vi vm:Ql)(es:JK qh)(vp vn:Ql)(ps:JK qh)(b:Nat):Prop:=b=wb∨va.ownBlock=O b∨dD.own vi vm es b∨dD.own vp vn ps b
def BE(wb:Nat)(va vi vm:Ql)(es:JK qh)(vp vn:Ql)(ps:JK qh)(Eq:Pm)(b:Nat):Prop:=BB wb va vi vm es vp vn ps b∨Eq b
structure Wd(Fq:Pm)(W1:U)(wb lo:Nat)(va:Ql)(os:JK eH)(k:Nat)(Eq:Pm)(w:U):Prop where
 ex:∃n vi vm vp vn es ps,Oz 31 26 39 3 wb lo va n vi vm vp vn es (es.map qh.m) ps (ps.map qh.m) w/\(n<=129*k/\N es<=512*k/\N ps<=4*k)/\((∀b,va.ownBlock=O b->¬dD.own vi vm es b/\¬dD.own vp vn ps b)/\∀b,BB wb va vi vm es vp vn ps b->¬Eq b)/\jr Fq (BE wb va vi vm es vp vn ps Eq) (os.map eH.p) w
 all:w.ownsRow lo 47 14 va (N os) (os.flatMap eH.eT)
 fz:aB Fq W1 w
 flt:∀b,Fq b->b<M (H W1)
 f0:Fq 0
 lo:wb<lo/\lo<=M (H w)
 O8:∀x,aB Fq W1 x->dS x 0/\Vd x/\Ah x
 one:∀o∈os,aeN Fq W1 o
variable {Fq:Pm} {W1:U} {wb lo:Nat} {va:Ql} {os:JK eH} {k:Nat} {Eq:Pm} {w w':U}
def Wd.Dl(h:Wd Fq W1 wb lo va os k Eq w):∀b,Fq b->b<M (H w):=λb a=>ZO (h.flt b a) h.fz.size
theorem Wd.pl(h:Wd Fq W1 wb lo va os k Eq w):∃B,jr Fq B (os.map eH.p) w/\∀b,B b->¬Fq b:=by obtain⟨n,e,f,g,i,j,ps,l,m,q,a⟩:=h.ex;exact⟨_,a,λb d=>(a.lt b (.inl d)).1⟩
theorem Wd.aj(h:Wd Fq W1 wb lo va os k Eq w)(hb:Bw w w'):Wd Fq W1 wb lo va os k Eq w':=by obtain⟨n,b,d,e,f,g,ps,i,j,l,m⟩:=h.ex;have a:aB (λ_=>True) w w':=Xl hb;exact⟨⟨n,b,d,e,f,g,ps,i.bT a λ_ _=>trivial,j,l,m.aj hb h.Dl⟩,Xw h.all a λ_ _=>trivial,h.fz.trans (a.mono λ_ _ _=>trivial),h.flt,h.f0,⟨h.lo.1,ZU h.lo.2 hb.size⟩,h.O8,h.one⟩
theorem eH.len(o:eH):N o.eT=14:=rfl
theorem Wd.cells(h:Wd Fq W1 wb lo va os k Eq w){o:eH}(ho:os[i]? = O o):∃ab c,va.ownBlock=O ab/\va=Z (O (aD ab 0)) (N os) c/\(∀j v,o.eT[j]? = O v->Qo w (aD ab (i*14+j))=O v)/\∀j,w.frozen? (aD ab j)=false:=by
 obtain⟨f,_⟩:=XF.1 ho;obtain⟨ab,c,a,b⟩:∃ab c,va.ownBlock=O ab/\va=Z (O (aD ab 0)) (N os) c:=by
  rcases h.all.2 with⟨_,h0⟩|⟨g,cap,iw,e,_⟩
  .omega
  grind [Value.ownBlock]
 exact⟨ab,c,a,b,λj v d=>zL h.all a (TJ eH.eT 14 eH.len os i j o v ho d),λj=>Eo h.all a j⟩
theorem Wd.set(h:Wd Fq W1 wb lo va os k Eq w){i:Nat}{o o':eH}(ho:os[i]? = O o){ab:Nat}(jC:va.ownBlock=O ab){j:Nat}(hj:j<14){v:Ql}(hl:o'.eT=o.eT.set j v)(hp:o'.p=o.p)(dP:aeN Fq W1 o'):Wd Fq W1 wb lo va (os.set i o') k Eq (Qn w (aD ab (i*14+j)) v):=by
 obtain⟨G,t⟩:=XF.1 ho;obtain⟨n,u,y,z,A,B,ps,l,q,C,r⟩:=h.ex;have d:aB (λb=>b≠ab) w (Qn w (aD ab (i*14+j)) v):=Xu _ _ _ (λh=>h rfl);have D:ab≠wb:=Qk ((Xy h.all jC).1) h.lo;have f:(os.set i o').map eH.p=os.map eH.p:=by rw[List.map_set,hp];refine List.ext_getElem Qa λm l q=>?_;grind
 refine⟨⟨n,u,y,z,A,B,ps,l.bT d λb a e=>?_,q,C,?_⟩,?_,h.fz.trans (d.mono λb _ a e=>?_),h.flt,h.f0,⟨h.lo.1,ZU h.lo.2 d.size⟩,h.O8,λx g=>?_⟩
 .simp_all
 .rw[f];exact r.own (d.mono λb _ a e=>a (.inl (.inr (.inl (e ▸ jC))))) (λb a=>.inl a) h.Dl
 .have:=zk h.all jC (j:=i*14+j) X v;rw[TI eH.eT 14 eH.len os i j v o' o ho hj hl]at this
  simp_all
 .exact(r.lt ab (.inl (.inl (.inr (.inl jC))))).1 (e ▸ a)
 .rcases JR g with g|rfl
  .exact h.one x g
  .exact dP
theorem Wd.more(h:Wd Fq W1 wb lo va os k Eq w)(hb:Bw w w'):Wd Fq W1 wb lo va os k (λb=>Eq b∨M (H w)<=b/\b<M (H w')) w':=by
 obtain⟨n,g,i,j,l,m,ps,p,q,e,f⟩:=h.ex;have a:aB (λ_=>True) w w':=Xl hb;refine⟨⟨n,g,i,j,l,m,ps,p.bT a λ_ _=>trivial,q,⟨e.1,λb hb d=>?_⟩,f.own (a.mono λ_ _ _=>trivial) (λb hb=>by
  rcases hb with hb|hb|hb
  .exact .inl (.inl hb)
  .exact .inl (.inr hb)
  .exact .inr hb) h.Dl⟩,Xw h.all a λ_ _=>trivial,h.fz.trans (a.mono λ_ _ _=>trivial),h.flt,h.f0,⟨h.lo.1,ZU h.lo.2 hb.size⟩,h.O8,h.one⟩
 rcases d with d|d
 .exact e.2 b hb d
 .have:=(f.lt b (.inl (.inl hb))).2;omega
theorem Wd.plan(h:Wd Fq W1 wb lo va os k (λb=>Eq b∨base<=b/\b<M (H w)) w)(hEb:∀b,Eq b->b<base)(hk:k<=130000){a:LM}{c:Nat}{nv:JK ay}(hn:oV 43 3 base w (Z a (N nv) c) nv)(hl:N nv<=64) :
  Calls V 17 #[Y (O (aD wb 1)),Z a (N nv) c] w λe z=>e=Qu (Qv #[])/\Wd Fq W1 wb lo va os (k+1) Eq z:=by
 obtain⟨n,B,C,D,G,K,ps,h1,h2,m,P⟩:=h.ex;have y:∀b,base<=b->b<M (H w)->¬BB wb va B C K D G ps b:=λb g p h7=>m.2 b h7 (.inr ⟨g,p⟩);have j:∀x∈eZ nv,∀b,x.val.ownBlock=O b->base<=b/\b<M (H w):=λx f b d=>Xy (hn.lists x f).1 d;have A:∀b,(Value.slice a (N nv) c).ownBlock=O b->base<=b/\b<M (H w):=λb d=>Xy hn.own d;refine(aiY h1 h.lo.2 nv a c (Je hn.own (ZR _)) X X X X ⟨λx f=>⟨Je (hn.lists x f).1 (ZR _),(hn.lists x f).2⟩,hn.apart,λx f b d hS=>?_⟩ (λb d=>?_)).mono ?_
 .obtain⟨g,p⟩:=j x f b d
  grind [BB]
 .obtain⟨g,p⟩:=A b d;exact⟨λe=>y b g p (.inl e),λe=>y b g p (.inr (.inr (.inl e))),λe=>y b g p (.inr (.inr (.inr e)))⟩
 .rintro e z ⟨rfl,Q,R,q,S,r,t,g,p,h7,h8,h9⟩;have L:∀b,va.ownBlock=O b->b≠wb/\¬(dD.own B C K b∨dD.own D G ps b∨(Value.slice a (N nv) c).ownBlock=O b∨∃x∈eZ nv,x.val.ownBlock=O b):=λb d=>by
   refine⟨λe=>?_,λe=>?_⟩
   .have:=(Xy h.all d).1;have:=h.lo;omega
   .rcases e with e|e|e|⟨x,f,e⟩
    .exact(m.1 b d).1 e
    .exact(m.1 b d).2 e
    .obtain⟨v,u⟩:=A b e;exact y b v u (.inr (.inl d))
    .obtain⟨v,u⟩:=j x f b e;exact y b v u (.inr (.inl d))
  have l:aB (λb=>¬BE wb va B C K D G ps (λb=>Eq b∨base<=b/\b<M (H w)) b) w z:=h8.mono λb W d=>⟨λe=>d (.inl (.inl e)),λe=>by
   rcases e with e|e|e|⟨x,f,e⟩
   .exact d (.inl (.inr (.inr (.inl e))))
   .exact d (.inl (.inr (.inr (.inr e))))
   .exact d (.inr (.inr (A b e)))
   .exact d (.inr (.inr (j x f b e)))⟩
  have bG:∀b,dD.own Q R r b∨dD.own q S t b->BE wb va B C K D G ps (λb=>Eq b∨base<=b/\b<M (H w)) b/\¬Eq b∨M (H w)<=b/\b<M (H z):=λb d=>by
   have W:b<M (H z):=by
    rcases d with (e|e|⟨x,f,e⟩)|(e|e|⟨x,f,e⟩)
    .exact(Xy g.vT.EM e).2
    .exact(Xy g.vT.wP e).2
    .exact(g.vT.off x f b e).1
    .exact(Xy g.Aj.EM e).2
    .exact(Xy g.Aj.wP e).2
    .exact(g.Aj.off x f b e).1
   rcases h9 b d with (e|e|e|⟨x,f,e⟩)|e
   .exact .inl ⟨.inl (.inr (.inr (.inl e))),λi=>m.2 b (.inr (.inr (.inl e))) (.inl i)⟩
   .exact .inl ⟨.inl (.inr (.inr (.inr e))),λi=>m.2 b (.inr (.inr (.inr e))) (.inl i)⟩
   .exact .inl ⟨.inr (.inr (A b e)),λi=>Qb⟩
   .exact .inl ⟨.inr (.inr (j x f b e)),λi=>Qb⟩
   omega
  refine⟨rfl,⟨_,Q,R,q,S,r,t,g,⟨X,X,X⟩,⟨λb d=>?_,λb d i=>?_⟩,P.own l (λb d=>?_) h.Dl⟩,Xw h.all h8 λb d=>L b d,h.fz.trans (l.mono λb _ d e=>(P.lt b (.inl e)).1 d),h.flt,h.f0,⟨h.lo.1,ZU h.lo.2 l.size⟩,h.O8,h.one⟩
  .have W:=(Xy h.all d).2
   grind
  .have aa:∀b,dD.own Q R r b∨dD.own q S t b->¬Eq b:=λb d i=>by
    rcases bG b d with v|v
    .exact v.2 i
    .have:=(P.lt b (.inl (.inr (.inl i)))).2;omega
   rcases d with d|d|d|d
   .exact m.2 b (.inl d) (.inl i)
   .exact m.2 b (.inr (.inl d)) (.inl i)
   .simp_all
   simp_all
  .rcases d with (d|d|d|d)|d
   .exact .inl (.inl (.inl d))
   .exact .inl (.inl (.inr (.inl d)))
   .grind
   .grind
   .exact .inl (.inr (.inl d))
theorem Wd.abj(h:Wd Fq W1 wb lo va os k Eq w){o:eH}(ho:os[i]? = O o){p':iy}(Bv:p'.P=o.p.P)(Pn:p'.ts=o.p.ts/\p'.aI=o.p.aI){vi vm vp vn:Ql}{es ps:JK qh}(h1:Oz 31 26 39 3 wb lo va n vi vm vp vn es (es.map qh.m) ps (ps.map qh.m) w)(h2:n<=129*k/\N es<=512*k/\N ps<=4*k)(h3:(∀b,va.ownBlock=O b->¬dD.own vi vm es b/\¬dD.own vp vn ps b)/\∀b,BB wb va vi vm es vp vn ps b->¬Eq b)(h4:jr Fq (BE wb va vi vm es vp vn ps Eq) (os.map eH.p) w)(hG:jr Fq (BE wb va vi vm es vp vn ps Eq) ((os.map eH.p).set i p') w')(hk:aB (λb=>¬o.p.aaA b) w w'):Wd Fq W1 wb lo va (os.set i { o with p:=p' }) k Eq w':=by
 obtain⟨r,d⟩:=XF.1 ho;have l:o.p∈os.map eH.p:=Xc.2 ⟨o,d ▸ Q6 r,rfl⟩;have q:=h4.off o.p l;have t:(os.set i { o with p:=p' }).flatMap eH.eT=os.flatMap eH.eT:=by
  have e:({ o with p:=p' }:eH).eT=o.eT:=by unfold eH.eT;simp only[Bv]
  have v:(os.set i { o with p:=p' }).map eH.eT=os.map eH.eT:=by rw[List.map_set,e];refine List.ext_getElem Qa λm h1 h2=>?_;grind
  grind
 refine⟨⟨n,vi,vm,vp,vn,es,ps,h1.bT hk λb g f=>q b f ?_,h2,h3,?_⟩,?_,h.fz.trans (hk.mono λb _ g f=>(h4.lt b (.inr ⟨_,l,f⟩)).1 g),h.flt,h.f0,⟨h.lo.1,ZU h.lo.2 hk.size⟩,h.O8,λx j=>?_⟩
 .grind [BE,BB]
 .simp_all
 .rw[t,JB];exact Xw h.all hk λb g f=>q b f (.inl (.inr (.inl g)))
 .rcases JR j with j|rfl
  .exact h.one x j
  .have:=h.one o (d ▸ Q6 r);refine⟨this.oO,this.D6,λu=>?_⟩;obtain⟨a,b,c⟩:=this.same u
   simp_all
end
section
variable {Fq:Pm} {W1:U} {wb lo:Nat} {va:Ql} {os:JK eH} {k:Nat} {Eq:Pm} {w w':U}
def Wd.Au(h:Wd Fq W1 wb lo va os k Eq w){o:eH}(ho:os[i]? = O o):aeN Fq W1 o/\o.p∈os.map eH.p:=by obtain⟨b,a⟩:=XF.1 ho;exact⟨h.one o (a ▸ Q6 b),Xc.2 ⟨o,a ▸ Q6 b,rfl⟩⟩
theorem Wd.off(h:Wd Fq W1 wb lo va os k Eq w){i:Nat}{o:eH}(ho:os[i]? = O o):(∀b,o.p.aaA b->b<M (H w))/\(∀ab,va.ownBlock=O ab->¬o.p.aaA ab)/\¬o.p.aaA wb:=by obtain⟨n,g,j,l,m,q,ps,r,t,u,e⟩:=h.ex;have d:=(h.Au ho).2;exact⟨λb a=>(e.lt b (.inr ⟨_,d,a⟩)).2,λab f a=>e.off _ d ab a (.inl (.inr (.inl f))),λa=>e.off _ d wb a (.inl (.inl rfl))⟩
def Wd.stands(h:Wd Fq W1 wb lo va os k Eq w){o:eH}(ho:os[i]? = O o)(jC:va.ownBlock=O ab)(h1:o.steps=o.p.σ.picks.length)(h2:o.status=o.p.σ.status) :
  Ce 8 #[Y (O (aD ab (i*14)))] w (Qq T):=by obtain⟨B,d,_⟩:=h.pl;obtain⟨e,c,a,f,b,g⟩:=h.cells ho;rw[jC]at a;cases a;exact Oy d (h.Au ho).2 ab (i*14) (b 0 _ rfl) (by rw[<-h1];exact b 11 _ rfl) (by rw[<-h2];exact b 12 _ rfl)
def Wd.amX(h:Wd Fq W1 wb lo va os k Eq w){o:eH}(ho:os[i]? = O o)(jC:va.ownBlock=O ab)(ca:Bool)(s:Int)(hs:s=o.p.σ.status)(h1:o.steps=o.p.σ.picks.length)(h2:o.status≠1/\s=o.status∨o.status=1/\(s=4->ca=T)) :
  Calls V 31 #[Y (O (aD ab (i*14))),I J s,Qq ca] w λe r=>e=Qu (Qq T)/\Wd Fq W1 wb lo va (os.set i { o with status:=s }) k Eq r/\aB (λb=>b≠ab) w r:=by
 obtain⟨B,y,_⟩:=h.pl;obtain⟨q,c,a,z,A,C⟩:=h.cells ho;rw[jC]at a;cases a;have f:=(h.Au ho).1;have g:=y.each _ (h.Au ho).2;have D:=g.BA.range;have G:=g.BA.len g.wO g.cap.1;obtain⟨L,_⟩:=XF.1 ho;have n:=h.set ho jC (j:=12) X (o':={ o with status:=s }) (v:=I J s) rfl rfl ⟨f.oO,f.D6,f.same⟩;obtain⟨q,P,a,_,m,_⟩:=n.cells (i:=i) (o:={ o with status:=s }) Qf;rw[jC]at a;cases a;have t:=(f.oO _ n.fz).2;refine(aeM ab (i*14) o.status s o.steps o.cap o.rM ca (A 12 _ rfl) (C _) rfl (m 11 _ rfl) (amL ab (i*14) _ _ _ _ _ _ o.cap o.rM (m 2 _ rfl) (m 3 _ rfl) (m 9 _ rfl) (m 10 _ rfl) t.wh f.D6) ?_).mono ?_
 .rcases h2 with h2|⟨h2,K⟩
  .exact .inl h2
  .refine .inr ⟨h2,?_⟩;have d:s=1∨s=2∨s=3∨s=4:=X
   rcases d with d|d|d|d
   .omega
   .exact .inr (.inl d)
   .refine .inr (.inr (.inl ⟨d,λ⟨e1,e2⟩=>?_⟩));obtain⟨_,_,Q⟩:=f.same e1;have u:o.p.aI=1000:=X
    have l:=g.BA.plain X;rw[u]at l;exact l.ar1 g.wO X
   simp_all
 .rintro e r ⟨rfl,rfl⟩;exact⟨rfl,n,Xu _ _ _ (λh=>h rfl)⟩
structure KH where
 kind:Int
 K:Int
 co:LM
 cc:Nat
 ts:JK af
 q:ae
 A:Int
 B:Int
 L:aA
 S:JK UInt8
 po:LM
 pc:Nat
 pl:JK ay
def KH.cells(d:KH):Array Value:=#[I J d.kind,I J d.K,Z d.co (N d.ts) d.cc,d.q.au.val,Z d.q.iF (N d.q.wh) d.q.cZ,Qq d.q.aF,d.q.aC.val,d.q.aM.val,d.q.bA.val,d.q.ord.val,I J d.A,I J d.B,d.L.val,.string (iH d.S),Z d.po (N d.pl) d.pc]
def uC(os:JK eH):Prop:=∀o∈os,BS o
def uC.set(h:uC os){o:eH}(ho:BS o):uC (os.set i o):=λx a=>by
 rcases JR a with a|rfl
 .exact h x a
 .exact ho
def uC.get(h:uC os){i:Nat}{o:eH}(ho:os[i]? = O o):BS o:=by obtain⟨b,a⟩:=XF.1 ho;exact h o (a ▸ Q6 b)
def Wd.goes(h:Wd Fq W1 wb lo va os k Eq w){o:eH}(ho:os[i]? = O o)(pick:Int) :
  Calls V 30 #[Y (O (aD o.p.P.pb 0)),I J pick] w λe d=>∃p':iy,e=Qu (I J p'.σ.status)/\p'.P=o.p.P/\p'.σ=(if o.p.σ.status=1 then stQ o.p.ts o.p.P.q pick o.p.σ else o.p.σ)/\Wd Fq W1 wb lo va (os.set i { o with p:=p' }) k Eq d/\aB (λb=>¬o.p.aaA b) w d/\∀b,o.p.aaA b->b<M (H w):=by obtain⟨n,z,A,B,C,D,ps,j,l,m,a⟩:=h.ex;obtain⟨G,r⟩:=XF.1 ho;have g:(os.map eH.p)[i]? = O o.p:=Qf;refine(a.step h.Dl g pick).mono ?_;rintro e d ⟨t,τ,u,rfl,v,f,_⟩;exact⟨{ o.p with aaA:=t,σ:=τ },rfl,rfl,u,h.abj ho rfl ⟨rfl,rfl⟩ j l m a v f,f,λb y=>(a.lt b (.inr ⟨_,(h.Au ho).2,y⟩)).2⟩
def Wd.aij(h:Wd Fq W1 wb lo va os k Eq w){o:eH}(ho:os[i]? = O o)(A:Int)(hA:A<=9223372036854775807)(B:Int)(L:aA)(hL:∀x,aB Fq W1 x->L.At x)(hLF:vP Fq L.ad (N L.xs)) :
  Calls V 32 #[Y (O (aD o.p.P.pb 0)),I J A,I J B,L.val] w λe g=>∃p':iy,e=Qu (I J p'.σ.status)/\p'.P=o.p.P/\aaT o.p.ts o.p.P.q o.p.aI A B o.p.σ p'.σ/\Wd Fq W1 wb lo va (os.set i { o with p:=p' }) k Eq g/\aB (λb=>¬o.p.aaA b) w g/\∀b,o.p.aaA b->b<M (H w):=by obtain⟨n,K,Q,R,S,W,ps,l,m,r,d⟩:=h.ex;have f:(os.map eH.p)[i]? = O o.p:=Qf;obtain⟨t,u,xs⟩:=L;refine(d.run h.Dl f A hA B t u xs (hL w h.fz) (λf a C D=>(d.lt _ D).1 (hLF f a C))).mono ?_;rintro e g ⟨v,τ,y,_,rfl,z,j,_⟩;exact⟨{ o.p with aaA:=v,σ:=τ },rfl,rfl,y,h.abj ho rfl ⟨rfl,rfl⟩ l m r d z j,j,λb G=>(d.lt b (.inr ⟨_,(h.Au ho).2,G⟩)).2⟩
def abn(d:KH)(w:U):∃a,w.alloc (Qs d.cells 41)=a/\Bw w a/\GB a (M (H w)) 41 d.cells:=bI w d.cells 41
theorem ai0(h:Wd Fq W1 wb lo va os k Eq w)(hA:uC os){o:eH}(ho:os[i]? = O o)(jC:va.ownBlock=O ab)(d:KH) :
  Calls V 12 #[Y (O (aD wb 0)),Y (O (aD ab (i*14))),Qt d.cells] w λe G=>e=Qu (Qq T)/\∃o',BS o'/\Wd Fq W1 wb lo va (os.set i o') k Eq G:=by
 obtain⟨w1,dB,bL,az⟩:=abn d w;have z:=h.aj bL;obtain⟨aO,c,n,aP,hc,hf⟩:=z.cells ho;rw[jC]at n;cases n;have hO:=hA.get ho;obtain⟨B0,aA,_⟩:=h.pl;have iZ:=aA.each _ (h.Au ho).2;have dY:=(iZ.BA.len iZ.wO iZ.cap.1).1;have hi:=(XF.1 ho).1;have W:=(h.Au ho).1;have aa:=hc 12 _ rfl;have au:=hc 11 _ rfl;have c0:Qo w1 (aD ab (i*14))=O (Y (O (aD o.p.P.pb 0))):=hc 0 _ rfl;have av:=hf (i*14+11);have r:=az.at 10;obtain⟨t,tq⟩:=eY (o.steps+1:Int);obtain⟨w2,D⟩:=eX (Qn w1 (aD ab (i*14+11)) (I J t));have B:=z.set ho jC (j:=11) X (o':={ o with steps:=t }) (v:=I J t) rfl rfl ⟨W.oO,W.D6,W.same⟩;rw[D]at B;have fG:ab≠M (H w):=Qj ((Xy h.all jC).2);have ae:Qm (Qo w2 (aD (M (H w)) 10)=O (I J d.A)):=by rw[<-D];exact JE (Xu (s:=λb=>b≠ab) _ _ _ (λh=>h rfl)) r (λe=>fG e.symm)
 have aL:Qm (Qo w2 (aD ab (i*14))=O (Y (O (aD o.p.P.pb 0)))):=by obtain⟨aO,c',n,_,Hg,_⟩:=B.cells (i:=i) (o:={ o with steps:=t }) Qb;rw[jC]at n;cases n;exact Hg 0 _ rfl
 obtain⟨aQ,aR,HI⟩:=lX z B hi;have aT:¬o.p.aaA ab:=(h.off ho).2.1 ab jC;have aM:¬o.p.aaA (M (H w)):=λhb=>Qj ((h.off ho).1 _ hb)
 -- behind the step
 have HT:Qm (∀(x:U) (f:eH) (l:JK eH),l[i]? = O f->N l=N os->Wd Fq W1 wb lo va l k Eq x->f.steps=f.p.σ.picks.length->(f.status≠1/\f.p.σ.status=f.status∨f.status=1/\f.p.σ.status≠4)->Calls V 31 #[Y (O (aD ab (i*14))),I J f.p.σ.status,Qq F] x λe G=>e=Qu (Qq T)/\Wd Fq W1 wb lo va (l.set i { f with status:=f.p.σ.status }) k Eq G/\Calls V 8 #[Y (O (aD ab (i*14)))] G λe aS=>e=Qu (Qq T)/\aS = G):=λx f l h1 hl hx h2 h3=>by refine(hx.amX h1 jC F _ rfl h2 (h3.imp id λy=>⟨y.1,λe=>absurd e y.2⟩)).mono ?_;rintro e G ⟨rfl,hW,_⟩;refine⟨rfl,hW,hW.stands (i:=i) (o:={ f with status:=f.p.σ.status }) ?_ jC h2 rfl⟩;grind
 have af:Qm (∀(x:U) (f:eH) (l:JK eH),l[i]? = O f->Wd Fq W1 wb lo va l k Eq x->Calls V 30 #[Y (O (aD f.p.P.pb 0)),I J d.A] x λe G=>∃g:iy,e=Qu (I J g.σ.status)/\g.P=f.p.P/\g.σ=(if f.p.σ.status=1 then stQ f.p.ts f.p.P.q d.A f.p.σ else f.p.σ)/\Wd Fq W1 wb lo va (l.set i { f with p:=g }) k Eq G/\aB (λb=>¬f.p.aaA b) x G/\∀b,f.p.aaA b->b<M (H x)):=λx f l h1 hx=>hx.goes h1 d.A;have m:Qm (o.status=o.p.σ.status/\o.steps=o.p.σ.picks.length/\o.p.σ.bP.d.aJ<=o.aJ):=⟨hO.status,hO.steps,hO.aJ⟩;have ax:Qm (o.p.σ.status=1->nA o.p.ts o.p.P.q o.p.aI (stQ o.p.ts o.p.P.q d.A o.p.σ)/\(stQ o.p.ts o.p.P.q d.A o.p.σ).picks.length=o.p.σ.picks.length+1/\(stQ o.p.ts o.p.P.q d.A o.p.σ).bP.d.aJ<=o.p.σ.bP.d.aJ/\(stQ o.p.ts o.p.P.q d.A o.p.σ).status≠4):=λhs=>by obtain⟨a,b,c⟩:=(iZ.BA.plain X).step iZ.wO iZ.cap.1 hs d.A;exact⟨.inl a,b,c,Qj a.range⟩
 have ay:wrap64 (o.steps+1)=t:=by rw[tq];have:=hO.steps;unfold wrap64;omega
 obtain⟨v0,v1,v2,v3,v4,v5,v6,v7,v8,v9,fP,fQ,aC,aF,aG⟩:∃v0 v1 v2 v3 v4 v5 v6 v7 v8 v9 fP fQ aC aF,d.cells=#[v0,v1,v2,v3,v4,v5,v6,v7,v8,v9,I J d.A,fP,fQ,aC,aF]:=⟨_,_,_,_,_,_,_,_,_,_,_,_,_,_,rfl⟩;rw[aG]at dB ⊢;obtain⟨A,ai⟩:=eY (d.A);rw[<-ai]at dB ae af ax ⊢;have r:Qo w1 (aD (M (H w)) 10)=O (I J A):=by rw[ai];exact r
 clear ai;obtain⟨EX,aV⟩:=bH tq hA;clear h hA bL az z aP hc hf hO aA iZ dY W B tq aG hi;obtain⟨nb,u⟩:=eY (M (H w));rw[<-u]at r ae aM;have aU:=Zh u;by_cases hs:o.status=1
 .rw[hs]at aa;go_enter func12,ntmps12;go_upto_region 3 with fail
  try rw[<-u]
  clear dB D r au aa c0 av ay u;obtain⟨pb,Bv⟩:=eY (o.p.P.pb);have e1:=aL.o;have e2:=ae.o;rw[<-Bv]at e1;have Lf:=Zh Bv;clear Bv;refine wHk w2 (λb=>¬o.p.aaA b) λS=>?_;refine wK6 0 S ?_;refine wR 6 λK W=>?_;go_simp;have Sy:=af.o w2.drew { o with steps:=t } (os.set i { o with steps:=t }) Qb (aR.o.aj ((Za _ _).drew));change Calls _ _ #[Y (O (aD o.p.P.pb 0)),_] _ _ at Sy;rw[<-Lf.o]at Sy;refine Sy.mono ?_;rintro e w3 ⟨g,rfl,aH,aK,L,Q,-⟩;have ag:o.p.σ.status=1:=Qj m.o.1;obtain⟨r1,r2,r3,r4⟩:=ax.o ag;have C:g.σ=stQ o.p.ts o.p.P.q A o.p.σ:=Qb;have hT:=HT.o w3 { o with steps:=t,p:=g } ((os.set i { o with steps:=t }).set i { o with steps:=t,p:=g }) Qb Qa L (by show t=_;rw[EX.o,m.o.2.1,C,r2];omega) (.inr ⟨hs,Qb⟩);have Lc:Qm (BS { o with steps:=t,p:=g,status:=g.σ.status }):=⟨by show t=_;rw[EX.o,m.o.2.1,C,r2];omega,rfl,by show g.σ.bP.d.aJ<=o.aJ;rw[C];have:=m.o.2.2;omega⟩;change Calls _ _ #[_,I J g.σ.status,_] _ _ at hT;have ah:=S.trans Q;generalize g.σ.status=st at*;refine W.o _ _ ah λS=>?_;refine wX1 7 S ?_;refine wD ?_;try simp only[pV]
  go_wp2_with fail;refine hT.mono ?_;rintro e w4 ⟨rfl,ak,R⟩;have VF:=Zh ak;go_wp2_with fail;refine mR R λw5 zg=>?_;rw[zg];clear zg w5 R;go_wp2;go_ret;refine⟨rfl,_,Lc.o,?_⟩;have:=VF.o;rw[List.set_set,List.set_set]at this;exact this
 .have aN:(o.status==1)=false:=by simpa using hs
  go_enter func12,ntmps12;go_upto_region 3 with fail;try rw[<-u]
  clear dB D au aa av ay u aN;obtain⟨pb,Bv⟩:=eY (o.p.P.pb);rw[<-Bv]at c0;have Lf:=Zh Bv;clear Bv;refine wHk w1 (λb=>¬o.p.aaA b) λS=>?_;refine wK6 0 S ?_;refine wR 6 λK W=>?_;go_simp;have Sy:=af.o w1.drew o os ho (aQ.o.aj ((Za _ _).drew));rw[<-Lf.o]at Sy;refine Sy.mono ?_;rintro e w3 ⟨g,rfl,aH,aK,L,Q,-⟩;have ag:o.p.σ.status≠1:=Qj m.o.1;have C:g.σ=o.p.σ:=Qb;have hT:=HT.o w3 { o with p:=g } (os.set i { o with p:=g }) Qb Qa L (by show o.steps=_;rw[C];exact m.o.2.1) (.inl ⟨hs,by show g.σ.status=o.status;rw[C];exact m.o.1.symm⟩);have Lc:Qm (BS { o with p:=g,status:=g.σ.status }):=⟨by show o.steps=_;rw[C];exact m.o.2.1,rfl,by show g.σ.bP.d.aJ<=o.aJ;rw[C];exact m.o.2.2⟩;change Calls _ _ #[_,I J g.σ.status,_] _ _ at hT;have ah:=S.trans Q;clear L Q aK C aH ag Sy c0 r;generalize g.σ.status=st at*;refine W.o _ _ ah λS=>?_;refine wX1 7 S ?_;refine wD ?_;try simp only[pV]
  go_wp2_with fail;refine hT.mono ?_;rintro e w4 ⟨rfl,ak,R⟩;have VF:=Zh ak;go_wp2_with fail;refine mR R λw5 zg=>?_;rw[zg];go_wp2;go_ret;refine⟨rfl,_,Lc.o,?_⟩;have:=VF.o;rw[List.set_set]at this;exact this
end
section
def QS.aA1(h:QS ts q us p)(hr:nA us p aI σ):nA ts q aI σ:=by
 have key:∀{τ},Ig us p aI τ->Ig ts q aI τ:=λ{τ} hr=>⟨λL d=>by
  have:=hr.run L d;unfold Ag at this ⊢;rw[h.iV gK,h.conc,BQ h]at this;exact this,hr.ig⟩
 rcases hr with hr|⟨τ,hr,a,b⟩
 .exact .inl (key hr)
 .exact .inr ⟨τ,key hr,a,b⟩
variable {Fq:Pm} {W1:U} {wb lo:Nat} {va:Ql} {os:JK eH} {k:Nat} {Eq:Pm} {w w':U}
def Wd.apZ(h:Wd Fq W1 wb lo va os k Eq w){i:Nat}{o:eH}(ho:os[i]? = O o)(hn:o.rM=T):(∀nv:JK ay,nv.map fA=o.p.σ.bP.ns->Ch o.ts o.q nv=0/\Ci o.ts o.q nv=o.p.σ.bP.d.aJ)/\(o.p.σ.status=2->∀pl,o.q.check o.ts=0/\xX o.ts o.q pl=T->o.p.σ.bP.d.aJ<=Ci o.ts o.q pl):=by
 obtain⟨B,m,_⟩:=h.pl;have b:=m.each _ (h.Au ho).2;obtain⟨e,a,t⟩:=(h.Au ho).1.same hn;have g:=e.aA1 b.BA;refine⟨λnv f=>?_,λhs pl ⟨_,hw⟩=>?_⟩
 .obtain⟨v,n,r⟩:=g.apZ a b.cap.1 f;unfold Ch Ci;rw[Zd a,Zd a,n];exact⟨rfl,r⟩
 .have l:(nG o.ts o.q pl).isSome=true:=by unfold xX at hw;simp_all
  obtain⟨v,j⟩:=ZJ.1 l;unfold Ci;rw[Zd a,j];exact Ud (g.done a b.cap.1 hs) hw j
theorem C8(h:Wd Fq W1 wb lo va os k Eq w)(hA:uC os){o:eH}(ho:os[i]? = O o)(jC:va.ownBlock=O ab)(hk:k<=130000)(po:LM)(pc:Nat)(pl:JK ay)(hR:∀x,aB Fq W1 x->fH x po pl) :
  Calls V 7 #[Y (O (aD wb 0)),Y (O (aD ab (i*14))),Z po (N pl) pc] w λe w'=>e=Qu (Qq T)/\Wd Fq W1 wb lo va (os.set i { o with aJ:=o.p.σ.bP.d.aJ }) (k+1) Eq w':=by
 obtain⟨B0,aY,_⟩:=h.pl;have hB:=aY.bP (h.Au ho).2;obtain⟨aN,c,m,-,hc,-⟩:=h.cells ho;rw[jC]at m;cases m;have hO:=hA.get ho;have hi:=(XF.1 ho).1;have g:=(h.Au ho).1;have c0:Qo w (aD ab (i*14))=O (Y (O (aD o.p.P.pb 0))):=hc 0 _ rfl;obtain⟨HH,HI,HK⟩:=lX h hi g;have bD:Qm (∀b,Eq b->b<M (H w)):=λb D=>by obtain⟨n,vi,vm,vp,vn,es,ps,h1,h2,h3,h4⟩:=h.ex;exact(h4.lt b (.inl (.inr D))).2
 have Aq:Qm (ab<M (H w)):=(Xy h.all jC).2;have ah:=Zh (λhn=>h.apZ ho hn);have ai:Qm (o.p.σ.bP.d.aJ<=o.aJ/\o.status=o.p.σ.status):=⟨hO.aJ,hO.status⟩;obtain⟨aZ,bQ⟩:=bH hR hk;clear h hA aY hO g hc hR hk;obtain⟨C,hC⟩:=eY (o.p.σ.bP.d.aJ);rw[<-hC]at hB ah ai ⊢;have bY:=Zh hC;clear hC;generalize o.p.P.pb=pb at c0 hB;go_enter func7,ntmps7;go_wp2_with fail;refine hB.mono ?_;rintro e w1 ⟨la,lc,nv,rfl,bf,bg,bn,bR,bL⟩
 -- the aJ is told,and fu
 have aG:=HH.o.more bL;obtain⟨aN,c',m,-,bq,bu⟩:=aG.cells ho;rw[jC]at m;cases m;have LY:=bq 13 _ rfl;have bE:=bu (i*14+13);obtain⟨S,ag⟩:=eX (Qn w1 (aD ab (i*14+13)) (I Qp (C:Int)));have ak:=aG.set ho jC (j:=13) X (o':={ o with aJ:=C }) (v:=I Qp (C:Int)) rfl rfl ⟨HK.o.oO,HK.o.D6,HK.o.same⟩;rw[ag]at ak;have aR:(os.set i { o with aJ:=C })[i]? = O { o with aJ:=C }:=by rw[J8 HI.o]
 obtain⟨aN,c',m,-,r,-⟩:=ak.cells aR;rw[jC]at m;cases m;have g1:=r 1 _ rfl;have g2:=r 2 _ rfl;have g3:=r 3 _ rfl;have g4:=r 4 _ rfl;have g5:=r 5 _ rfl;have g6:=r 6 _ rfl;have g7:=r 7 _ rfl;have g8:=r 8 _ rfl;have G:=r 10 _ rfl;have R:=r 12 _ rfl;have jf:aB (λb=>b≠ab) w1 S:=by rw[<-ag];exact Xu _ _ _ (λh=>h rfl)
 have aH:=bg.fu jf λb D _ _ e=>Qj Aq.o;obtain⟨bS,bT,bz⟩:=lX (aH.plan X) aH ak;have bF:Qm (M (H S)=M (H w1)/\M (H w)<=M (H w1)):=⟨by rw[<-ag];simp,bL.size⟩;obtain⟨bU,bV⟩:=bH bf bn;have aS:(C:Int)<=(o.aJ:Int):=Qj ai.o.1;clear hB bg bR bL aG bq bu ak r jf aH bf bn c0;go_upto_if 36 with fail;try rw[ag]
 clear ag LY bE aS;have PX:Qm (o.rM=T->∀x,Bw S x->Calls V 16 #[Z o.co (N o.ts) o.cc,Qt o.q.cells,Z la (N nv) lc] x (Cj 0 C x)):=λhn x hx=>by obtain⟨h1,h2⟩:=(ah.o hn).1 nv bU.o;have W:=(bz.o.aj hx).fz;obtain⟨h3,h4⟩:=HK.o.oO x W;obtain⟨ao,cp,e,bW⟩:=bS.o;injection e with e1 e2 e3;subst e1;have:=IE o.co la o.cc lc o.ts o.q nv x h3 h4 (fH.aj hx bW);grind
 obtain⟨q0,q1,q2,q3,q4,q5,q6,Di⟩:∃v0 v1 v2 v3 v4 v5 v6,o.q.cells=#[v0,v1,v2,v3,v4,v5,v6]:=⟨_,_,_,_,_,_,_,rfl⟩;have aT:o.q.au.val=q0/\Value.slice o.q.iF (N o.q.wh) o.q.cZ=q1/\Value.bool o.q.aF=q2/\o.q.aC.val=q3/\o.q.aM.val=q4/\o.q.bA.val=q5/\o.q.ord.val=q6:=by unfold ae.cells at Di;grind
 have bG:=Zh aT;obtain⟨z0,z1,z2,z3,z4,z5,z6⟩:=aT;simp only[z0,z1,z2,z3,z4,z5,z6]at g1 g2 g3 g4 g5 g6 g7 g8 G R;rw[Di]at PX;clear z0 z1 z2 z3 z4 z5 z6;obtain⟨tn,aP⟩:=eY (N o.ts);rw[<-aP]at g1 PX;have aU:Qm (N o.ts=tn):=aP.symm;clear aP;obtain⟨kn,ax⟩:=eY (o.rM);rw[<-ax]at G PX ah;try rw[<-ax]
 have bJ:=Zh ax;clear ax;go_cut [9,10,11] from 37 to 60 (λa b c wx=>a=Qq T/\Qm (Bw S wx))
 case first=>
  cases kn with
  |false =>
   go_wp2;go_meet
   case rel=>exact⟨rfl,Za _ _⟩
  |true =>
   have aV:=PX.o rfl;go_wp2_with fail;refine wH S λf=>?_;refine IU 0 f ?_;refine IU 4 f ?_;refine rR 8 f ?_;refine kJ 9 13 (λK g=>?_) λK g=>?_
   case' _=>
    go_simp;refine Jg (aV _ f) ?_;rintro e x1 ⟨⟨⟨a1,c1,l1⟩,⟨a2,c2,l2⟩,⟨a3,c3,l3⟩,vo,vs,Q⟩,rfl,L,D⟩;have L:Q=C:=L;subst L;simp only[bN.cells,aA.val];refine oT g f D λf=>?_;clear g K;refine wA3 10 f ?_;obtain⟨y,A⟩:=eY (M (H x1));have aI:M (H S)<=y:=by rw[A];exact f.size
    obtain⟨Yq,hY,O9,l⟩:=bI x1 #[Z Qr 0 0,Z Qr 0 0,Z Qr 0 0,Qq F,I Qp 0,I Qp 0] 67;rw[<-A]at l;refine kR 13 λK g=>?_;go_simp;rw[<-A];refine g.o _ _ (aO f O9) λf=>?_;clear g K hY O9 A
   rotate_left
   case' _=>
    obtain⟨y,A⟩:=eY (M (H S));have aI:M (H S)<=y:=X;obtain⟨Y0,hY,O9,l⟩:=bI S.drew #[Z Qr 0 0,Z Qr 0 0,Z Qr 0 0,Qq F,I Qp 0,I Qp 0] 67;rw[show M (H S.drew)=M (H S) from rfl,<-A]at l;go_simp;try rw[hY]
    rw[<-A];clear A;refine g.o _ _ (aO f O9) λf=>?_;clear g K hY O9;refine wR 9 λK g=>?_;go_simp;refine Jg (aV _ f) ?_;rintro e Yq ⟨⟨⟨a1,c1,l1⟩,⟨a2,c2,l2⟩,⟨a3,c3,l3⟩,vo,vs,Q⟩,rfl,L,D⟩;have L:Q=C:=L;subst L;simp only[bN.cells,aA.val];have l:=l.up D;refine oT g f D λf=>?_;clear g K D;refine wA3 10 f ?_
   rotate_left
   all_goals
    refine kR 14 λK g=>?_;obtain⟨d0,d1,d2,d3,d4,d5⟩:=l.k6;have z:=λi=>l.frozen i;obtain⟨Y2,u⟩:=eX (rV y 0 [Z a1 (N l1) c1,Z a2 (N l2) c2,Z a3 (N l3) c3,Qq vo,I Qp (vs:Int),I Qp (Q:Int)] Yq);have aa:=zK [Z a1 (N l1) c1,Z a2 (N l2) c2,Z a3 (N l3) c3,Qq vo,I Qp (vs:Int),I Qp (Q:Int)] l;have af:=oH (B:=y) [Z a1 (N l1) c1,Z a2 (N l2) c2,Z a3 (N l3) c3,Qq vo,I Qp (vs:Int),I Qp (Q:Int)] 0 Yq;rw[u]at aa af;simp only[rV,Nat.reduceAdd,ZT]at u;go_simp;try rw[u]
    refine g.o _ _ (f.trans (af.aj f.size λb D=>X)) λf=>?_;clear g K u d0 d1 d2 d3 d4 d5 z;refine rR 15 f ?_;refine wD ?_;try simp only[pV]
    have t5:Qo Y2 (aD y 5)=O (I Qp (Q:Int)):=aa.at 5;go_wp2;go_meet
    case rel=>exact⟨rfl,f⟩
 case rest=>
 obtain⟨rfl,az⟩:=hcut;obtain⟨w3,bX⟩:=eY (wc);subst bX;have aK:=bz.o.more az.o;have aW:(λb=>(Eq b∨M (H w)<=b/\b<M (H w1))∨M (H S)<=b/\b<M (H w3))=λb=>Eq b∨M (H w)<=b/\b<M (H w3):=by funext b;have:=bF.o;have:=az.o.size;grind
 rw[aW]at aK;have Gf:=aK.plan bD.o bQ.o (bT.o.aj az.o) bV.o;obtain⟨e1,e2,e3,e4,e5,e6,e7,e8⟩:=Da az.o g1 g2 g3 g4 g5 g6 g7 g8;clear aK aW PX g1 g2 g3 g4 g5 g6 g7 g8 G R e1 e2 e3 e4 e5 e6 e7 e8;go_wp2_with fail;refine mR Gf λw4 aQ=>?_;have VF:=Zh aQ;obtain⟨aN,c',m,-,t,-⟩:=aQ.cells aR;rw[jC]at m;cases m;have g1:=t 1 _ rfl;have g2:=t 2 _ rfl;have g3:=t 3 _ rfl;have g4:=t 4 _ rfl;have g5:=t 5 _ rfl;have g6:=t 6 _ rfl;have g7:=t 7 _ rfl;have g8:=t 8 _ rfl;have G:=t 10 _ rfl;have R:=t 12 _ rfl;clear Gf aQ t;obtain⟨z0,z1,z2,z3,z4,z5,z6⟩:=bG.o;simp only[z0,z1,z2,z3,z4,z5,z6]at g1 g2 g3 g4 g5 g6 g7 g8 G R;rw[<-bJ.o]at G;clear z0 z1 z2 z3 z4 z5 z6;have Lc:Qm (o.status=o.p.σ.status):=ai.o.2;have av:Qm (∀x,Bw w4 x->Calls V 18 #[Z o.co (N o.ts) o.cc,Qt o.q.cells,Z po (N pl) pc] x (asA (o.q.check o.ts=0/\xX o.ts o.q pl=T) x)/\Calls V 16 #[Z o.co (N o.ts) o.cc,Qt o.q.cells,Z po (N pl) pc] x (Cj (Ch o.ts o.q pl) (Ci o.ts o.q pl) x)):=λx hx=>by have W:=(VF.o.aj hx).fz;obtain⟨h3,h4⟩:=HK.o.oO x W;exact⟨anB o.co po o.cc pc o.ts o.q pl x h3 h4 (aZ.o x W),IE o.co po o.cc pc o.ts o.q pl x h3 h4 (aZ.o x W)⟩
 rw[Di]at av;have bK:Qm (kn=T->o.status=2->o.q.check o.ts=0/\xX o.ts o.q pl=T->C<=Ci o.ts o.q pl):=λh1 h2 h3=>(ah.o h1).2 (by rw[<-ai.o.2];exact h2) pl h3;generalize Ch o.ts o.q pl=E2,Ci o.ts o.q pl=C2,(o.q.check o.ts=0/\xX o.ts o.q pl=T)=WP at*;have aL:Qo w4 (aD ab (i*14+1))=O (Z o.co tn o.cc):=by rw[<-aU.o];exact g1
 rw[aU.o]at av;clear g1
 cases kn with
 |false =>
  go_wp2;go_ret;exact⟨rfl,VF.o⟩
 |true =>
  by_cases hs:o.status=2
  .rw[hs]at R;have bM:=Zh (bK.o rfl hs);clear hs;go_wp2_with fail;refine wH w4 λf=>?_
   refine IU 0 f ?_;refine IU 4 f ?_;refine rR 8 f ?_;refine wR 9 λK g=>?_;go_simp;refine Jg (av.o _ f).1 ?_;rintro e w5 ⟨Bw,rfl,bB,bC⟩;refine oT g f bC λf=>?_;clear g K bC;refine rR 10 f ?_;refine wD ?_;try simp only[pV]
   obtain⟨qd,zY⟩:=bH f bB;obtain⟨e1,e2,e3,e4,e5,e6,e7,e8⟩:=Da f aL g2 g3 g4 g5 g6 g7 g8;clear f bB aL g2 g3 g4 g5 g6 g7 g8 G R
   cases Bw with
   |false =>
    clear e1 e2 e3 e4 e5 e6 e7 e8;go_wp2;go_ret;exact⟨rfl,VF.o.aj qd.o⟩
   |true =>
    have aX:∀x,Bw w5 x->Calls V 16 #[Z o.co tn o.cc,Qt #[q0,q1,q2,q3,q4,q5,q6],Z po (N pl) pc] x (Cj E2 C2 x):=λx hx=>(av.o x (aO qd.o hx)).2;have bO:Qm (C<=C2):=bM.o (zY.o rfl);go_upto_region 13 with fail;go_cut [13,14] from 95 to 107 (λa b wx=>∃y,a=Y (O (aD y 0))/\Qo wx (aD y 5)=O (I Qp (C2:Int))/\Qm (Bw w5 wx))
    case first=>
     refine wH w5 λf=>?_;refine IU 0 f ?_;refine IU 4 f ?_;refine rR 8 f ?_;refine kJ 9 13 (λK g=>?_) λK g=>?_
     case' _=>
      go_simp;refine Jg (aX _ f) ?_;rintro e x1 ⟨⟨⟨a1,c1,l1⟩,⟨a2,c2,l2⟩,⟨a3,c3,l3⟩,vo,vs,Q⟩,rfl,L,D⟩;have L:Q=C2:=L;subst L;simp only[bN.cells,aA.val];refine oT g f D λf=>?_;clear g K;refine wA3 10 f ?_;obtain⟨y,A⟩:=eY (M (H x1));have aI:M (H w5)<=y:=by rw[A];exact f.size
      obtain⟨Yq,hY,O9,l⟩:=bI x1 #[Z Qr 0 0,Z Qr 0 0,Z Qr 0 0,Qq F,I Qp 0,I Qp 0] 67;rw[<-A]at l;refine kR 13 λK g=>?_;go_simp;rw[<-A];refine g.o _ _ (aO f O9) λf=>?_;clear g K hY O9 A
     rotate_left
     case' _=>
      obtain⟨y,A⟩:=eY (M (H w5));have aI:M (H w5)<=y:=X;obtain⟨Y0,hY,O9,l⟩:=bI w5.drew #[Z Qr 0 0,Z Qr 0 0,Z Qr 0 0,Qq F,I Qp 0,I Qp 0] 67;rw[show M (H w5.drew)=M (H w5) from rfl,<-A]at l;go_simp;try rw[hY]
      rw[<-A];clear A;refine g.o _ _ (aO f O9) λf=>?_;clear g K hY O9;refine wR 9 λK g=>?_;go_simp;refine Jg (aX _ f) ?_;rintro e Yq ⟨⟨⟨a1,c1,l1⟩,⟨a2,c2,l2⟩,⟨a3,c3,l3⟩,vo,vs,Q⟩,rfl,L,D⟩;have L:Q=C2:=L;subst L;simp only[bN.cells,aA.val];have l:=l.up D;refine oT g f D λf=>?_;clear g K D;refine wA3 10 f ?_
     rotate_left
     all_goals
      refine kR 14 λK g=>?_;obtain⟨d0,d1,d2,d3,d4,d5⟩:=l.k6;have z:=λi=>l.frozen i;obtain⟨Y2,u⟩:=eX (rV y 0 [Z a1 (N l1) c1,Z a2 (N l2) c2,Z a3 (N l3) c3,Qq vo,I Qp (vs:Int),I Qp (Q:Int)] Yq);have aa:=zK [Z a1 (N l1) c1,Z a2 (N l2) c2,Z a3 (N l3) c3,Qq vo,I Qp (vs:Int),I Qp (Q:Int)] l;have af:=oH (B:=y) [Z a1 (N l1) c1,Z a2 (N l2) c2,Z a3 (N l3) c3,Qq vo,I Qp (vs:Int),I Qp (Q:Int)] 0 Yq;rw[u]at aa af;simp only[rV,Nat.reduceAdd,ZT]at u;go_simp;try rw[u]
      refine g.o _ _ (f.trans (af.aj f.size λb D=>X)) λf=>?_;clear g K u d0 d1 d2 d3 d4 d5 z;refine rR 15 f ?_;refine wD ?_;try simp only[pV]
      have t5:Qo Y2 (aD y 5)=O (I Qp (Q:Int)):=aa.at 5;go_wp2_with fail;go_meet
      case rel=>exact⟨y,rfl,t5,f⟩
    case rest=>
     obtain⟨y,rfl,t5,yu⟩:=hcut;have aS:(C:Int)<=(C2:Int):=Qj bO.o;clear e1 e2 e3 e4 e5 e6 e7 e8;go_wp2;go_ret;exact⟨rfl,VF.o.aj (aO qd.o yu.o)⟩
  .have bZ:(o.status != 2)=true:=by simpa using hs
   clear aL g2 g3 g4 g5 g6 g7 g8;go_wp2;go_ret;exact⟨rfl,VF.o⟩
end
section
variable {Fq:Pm} {W1:U} {wb lo:Nat} {va:Ql} {os:JK eH} {k:Nat} {Eq:Pm} {w w':U} {r:iy}
structure Wx(Fq:Pm)(W1:U)(wb lo:Nat)(va:Ql)(os:JK eH)(r:iy)(k:Nat)(Eq:Pm)(w:U):Prop where
 wd:Wd Fq W1 wb lo va os k Eq w
 ex:∃n vi vm vp vn es ps,Oz 31 26 39 3 wb lo va n vi vm vp vn es (es.map qh.m) ps (ps.map qh.m) w/\(n<=129*k/\N es<=512*k/\N ps<=4*k)/\((∀b,va.ownBlock=O b->¬dD.own vi vm es b/\¬dD.own vp vn ps b)/\∀b,BB wb va vi vm es vp vn ps b->¬Eq b)/\jr Fq (BE wb va vi vm es vp vn ps Eq) (os.map eH.p++[r]) w
theorem Wx.aj(h:Wx Fq W1 wb lo va os r k Eq w)(hb:Bw w w'):Wx Fq W1 wb lo va os r k Eq w':=by obtain⟨n,b,d,e,f,g,ps,i,j,l,m⟩:=h.ex;have a:aB (λ_=>True) w w':=Xl hb;exact⟨h.wd.aj hb,n,b,d,e,f,g,ps,i.bT a λ_ _=>trivial,j,l,m.aj hb h.wd.Dl⟩
theorem Wx.anD(h:Wx Fq W1 wb lo va os r k Eq w)(hk:aB (λb=>¬Eq b) w w'):Wx Fq W1 wb lo va os r k Eq w':=by
 obtain⟨n,u,v,y,z,A,ps,B,C,D,G⟩:=h.ex;have t:=G.own (hk.mono λb _ a e=>a (.inr e)) (λb a=>.inl a) h.wd.Dl;obtain⟨K,j,l,d,m,f,g,g1,L,p,q⟩:=h.wd.ex;have i:∀b,b=wb∨dD.own j l f b∨dD.own d m g b->¬Eq b:=λb a=>by grind [BB]
 refine⟨⟨⟨K,j,l,d,m,f,g,g1.bT hk i,L,p,q.own (hk.mono λb _ a e=>a (.inr e)) (λb a=>.inl a) h.wd.Dl⟩,Xw h.wd.all hk λb a=>p.2 b (.inr (.inl a)),h.wd.fz.trans (hk.mono λb _ a e=>(q.lt b (.inl (.inr e))).1 a),h.wd.flt,h.wd.f0,⟨h.wd.lo.1,ZU h.wd.lo.2 hk.size⟩,h.wd.O8,h.wd.one⟩,n,u,v,y,z,A,ps,B.bT hk λb a=>?_,C,D,t⟩;grind [BB]
theorem Wx.pl(h:Wx Fq W1 wb lo va os r k Eq w):∃B,jr Fq B (os.map eH.p++[r]) w:=by obtain⟨n,b,d,e,f,g,ps,i,j,l,a⟩:=h.ex;exact⟨_,a⟩
def Wd.asB(h:Wd Fq W1 wb lo va os k Eq w){E':Pm}(hE:∀b,E' b->Eq b):Wd Fq W1 wb lo va os k E' w:=by obtain⟨n,e,f,g,i,j,ps,l,m,d,p⟩:=h.ex;exact⟨⟨n,e,f,g,i,j,ps,l,m,⟨d.1,λb a q=>d.2 b a (hE b q)⟩,p.own (Xj _ _) (λb a=>.inl (a.imp id (hE b))) h.Dl⟩,h.all,h.fz,h.flt,h.f0,h.lo,h.O8,h.one⟩
def Wd.asC(h:Wd Fq W1 wb lo va os k Eq w)(s:JK UInt8)(hl:N s<=2000000) :
  Calls V 29 #[.string (iH s)] w λe b=>Bw w b/\((¬KG s/\e=Qu (Qv #[Y Qr,I J 7]))∨(KG s/\∃r:iy,e=Qu (Qv #[Y (O (aD r.P.pb 0)),I J 0])/\LdP s r/\Wx Fq W1 wb lo va os r k Eq b)):=by obtain⟨n,f,g,i,j,l,ps,m,p,q,t⟩:=h.ex;obtain⟨a,u,v⟩:=h.O8 w h.fz;refine(amJ t h.Dl h.f0 a u v s hl).mono ?_;rintro e b ⟨d,y⟩;refine⟨d,y.imp id λ⟨hg,r,a,hL,hP⟩=>⟨hg,r,a,hL,h.aj d,n,f,g,i,j,l,ps,m.bT (Xk (s:=λ_=>True) d λ_ h _=>h) λ_ _=>trivial,p,q,hP⟩⟩
def Wd.avx(h:Wd Fq W1 wb lo va os k Eq w)(ao:LM)(cap:Nat)(ts:JK af)(q:ae)(A:Int)(hx:aZ w ao ts)(hn:ao=Qr->cap=0)(hq:q.At w)(FJ:N q.aC.xs<=q.aC.cap)(Ao:N q.ord.xs<=q.ord.cap)(ht:q.check ts=0->Tx q) :
  Calls V 22 #[Z ao (N ts) cap,Qt q.cells,I J A] w λe a=>Bw w a/\((dA ts q A≠0/\e=Qu (Qv #[Y Qr,I J (dA ts q A)]))∨(dA ts q A=0/\∃r:iy,e=Qu (Qv #[Y (O (aD r.P.pb 0)),I J 0])/\(r.ts=ts/\il q r.P.q/\(r.aI:Int)=A/\r.σ=EH ts q r.aI/\q.check ts=0)/\Wx Fq W1 wb lo va os r k Eq a)):=by obtain⟨n,d,f,g,i,j,ps,l,m,p,t⟩:=h.ex;refine(t.start h.Dl h.f0 ao cap ts q A hx hn hq FJ Ao ht (h.O8 w h.fz).1).mono ?_;rintro e a ⟨b,u⟩;refine⟨b,u.imp id λ⟨hg,r,e1,a1,a2,a3,a4,a5,hP,_⟩=>⟨hg,r,e1,⟨a1,a2,a3,a4,a5⟩,h.aj b,n,d,f,g,i,j,ps,l.bT (Xk (s:=λ_=>True) b λ_ h _=>h) λ_ _=>trivial,m,p,hP⟩⟩
def Tryz.aq1:(V.info? 47).map (λi=>(i.zero,i.size,i.bytes))=O (O (Qt #[Y Qr,Z Qr 0 0,Z Qr 0 0,Z Qr 0 0,Qq F,Z Qr 0 0,Z Qr 0 0,Z Qr 0 0,Z Qr 0 0,I J 0,Qq F,I J 0,I J 0,I Qp 0]),14,224):=Qd
def aq2:Psh V 24 47 14:=OA underlying24 Tryz.aq1 rfl X X
theorem Wx.push(h:Wx Fq W1 wb lo va os r k Eq w)(hl:N os<=1000000){o:eH}(hp:o.p=r)(dP:aeN Fq W1 o)(ty:TypeId) :
  ∃f i,(Builtin.append_ #[24,24] ty #[va,Z (O (aD (M (H w)) 0)) 1 1]).run V (w.alloc (Qs o.eT.toArray 47))=.ok f i/\i.frozen? (aD wb 0)=F/\Qo i (aD wb 0)=O va/\Wd Fq W1 wb lo f (os++[o]) k Eq (Qn i (aD wb 0) f)/\(∃a m c,f = Z a m c)/\aB (λb=>va.ownBlock≠O b) w i:=by
 obtain⟨n,v,y,z,A,t,ps,j,h2,h3,D⟩:=h.ex;obtain⟨f,i,hr,W,L,aa,jl⟩:=aq2.push w lo ty va (N os) _ h.wd.all h.wd.lo.2 o.eT rfl (λu hu=>by
  unfold eH.eT aA.val at hu;simp at hu;rcases hu with rfl|rfl|rfl|rfl|rfl|rfl|rfl|rfl|rfl|rfl|rfl|rfl|rfl|rfl <;> rfl) X
 have P:va.ownBlock≠O wb:=λe=>Qk ((Xy h.wd.all e).1) h.wd.lo;have l:=j.cell.of (L.block _ j.cell.lt P);have G:aB (λb=>b≠wb) i (Qn i (aD wb 0) f):=Xu _ _ _ (λh=>h rfl);have q:aB (λb=>¬BE wb va v y t z A ps Eq b) w (Qn i (aD wb 0) f):=(L.mono λb _ d e=>d (.inl (.inr (.inl e)))).trans (G.mono λb _ d e=>d (.inl (.inl e)));have B:∀b,f.ownBlock=O b->va.ownBlock=O b∨M (H w)<=b/\b<M (H (Qn i (aD wb 0) f)):=λb d=>by have aT:b<M (H (Qn i (aD wb 0) f)):=ZO (Xy W d).2 G.size;grind
 have Q:f.ownBlock≠O wb:=λe=>Qk ((Xy W e).1) h.wd.lo;have bG:∀b,BB wb f v y t z A ps b->BB wb va v y t z A ps b∨M (H w)<=b/\b<M (H (Qn i (aD wb 0) f)):=λb d=>by
  rcases d with d|d|d
  .exact .inl (.inl d)
  .exact(B b d).imp (λx=>.inr (.inl x)) id
  .exact .inl (.inr (.inr d))
 have R:Oz 31 26 39 3 wb lo f n v y z A t (t.map qh.m) ps (ps.map qh.m) (Qn i (aD wb 0) f):=by
  have gH:∀b,dD.own v y t b∨dD.own z A ps b->va.ownBlock≠O b/\b≠wb:=λb d=>⟨λe=>by
   simp_all,λe=>by
   subst e;rcases d with d|d
   .exact j.nwb.1 d
   .exact j.nwb.2 d⟩
  have C:aB (λb=>va.ownBlock≠O b/\b≠wb) w (Qn i (aD wb 0) f):=(L.mono λ_ _ x=>x.1).trans (G.mono λ_ _ x=>x.2);exact⟨l.set 0 f,j.vT.bT C λb d=>gH b (.inl d),j.Aj.bT C λb d=>gH b (.inr d),j.lo,j.apart,j.wb1,j.wb2⟩
 have S:(os++[o]).map eH.p=os.map eH.p++[r]:=Qf;refine⟨f,i,hr,l.frozen 0,l.at 0,⟨⟨n,v,y,z,A,t,ps,R,h2,⟨λb d=>?_,λb d hE=>?_⟩,?_⟩,?_,h.wd.fz.trans (q.mono λb _ d e=>(D.lt b (.inl e)).1 d),h.wd.flt,h.wd.f0,⟨h.wd.lo.1,ZU h.wd.lo.2 q.size⟩,h.wd.O8,λx K=>?_⟩,aa,L⟩
 .rcases B b d with e|e
  .exact h3.1 b e
  .refine⟨λx=>?_,λx=>?_⟩
   .have:=(D.lt b (.inl (.inl (.inr (.inr (.inl x)))))).2;omega
   .have:=(D.lt b (.inl (.inl (.inr (.inr (.inr x)))))).2;omega
 .rcases bG b d with e|e
  .exact h3.2 b e hE
  .have:=(D.lt b (.inl (.inr hE))).2;omega
 .rw[S];exact D.own q (λb d=>by
   rcases d with d|d
   .exact(bG b d).imp .inl id
   .exact .inl (.inr d)) h.wd.Dl
 .have:=Xw W G λg hg e=>Q (e ▸ hg)
  simp_all
 .rcases Z5.1 K with K|K
  .exact h.wd.one x K
  simp_all
end
section
variable {Fq:Pm} {W1:U} {wb lo:Nat} {va:Ql} {os:JK eH} {k:Nat} {Eq:Pm} {w w':U} {r:iy}
def uC.push(h:uC os){o:eH}(ho:BS o):uC (os++[o]):=λx a=>by
 rcases Z5.1 a with a|a
 .exact h x a
 simp_all
def OV(Fq:Pm)(W1:U)(wb lo m k:Nat)(Eq:Pm)(w:U):Prop:=∃va os,uC os/\N os<=m/\Wd Fq W1 wb lo va os k Eq w
def KU:ae:=⟨⟨Qr,0,[]⟩,Qr,0,[],F,⟨Qr,0,[]⟩,⟨Qr,0,[]⟩,⟨Qr,0,[]⟩,⟨Qr,0,[]⟩⟩
def anE(x:U):aZ x Qr []/\KU.At x:=by have a:aP x Qr []:=⟨Qa,λi a=>absurd a Qa⟩;exact⟨⟨Qa,λi a=>absurd a Qa⟩,a,⟨by simp[KU],λi a=>absurd a (by simp[KU]),λi a=>absurd a (by simp[KU])⟩,a,a,a,a⟩
theorem Wx.gX(h:Wx Fq W1 wb lo va os r k Eq w):∃B,jr Fq B (os.map eH.p++[r]) w/\r∈os.map eH.p++[r]/\Pln (Gs B (os.map eH.p++[r])) r w:=by obtain⟨B,b⟩:=h.pl;have a:r∈os.map eH.p++[r]:=List.mem_append_right _ (XH.2 rfl);exact⟨B,b,a,b.each r a⟩
def ajk(h:Wd Fq W1 wb lo va os k Eq w)(hA:uC os)(hl:N os<=1000000)(d:KH)(hS:N d.S<=2000000) :
  Calls V 10 #[Y (O (aD wb 0)),Qt d.cells] w λe w'=>e=Qu (Qq T)/\OV Fq W1 wb lo (N os+1) k Eq w':=by
 obtain⟨w1,dB,bL,K⟩:=abn d w;have hL:=(h.aj bL).asC d.S hS;have j:=K.at 13;obtain⟨v0,v1,v2,v3,v4,v5,v6,v7,v8,v9,fO,fP,fQ,q,L⟩:∃v0 v1 v2 v3 v4 v5 v6 v7 v8 v9 fO fP fQ q,d.cells=#[v0,v1,v2,v3,v4,v5,v6,v7,v8,v9,fO,fP,fQ,.string (iH d.S),q]:=⟨_,_,_,_,_,_,_,_,_,_,_,_,_,_,rfl⟩;rw[L]at dB ⊢;have j:Qo w1 (aD (M (H w)) 13)=O (.string (iH d.S)):=j;obtain⟨HH,HA,rP⟩:=lX (h.aj bL) hA hl;have HG:Qm (∀r,LdP d.S r->KG d.S->True):=λ_ _ _=>trivial;generalize iH d.S=SS at*;go_enter func10,ntmps10;go_wp2_with fail;refine hL.mono ?_;rintro e w2 ⟨Q,(⟨hg,rfl⟩|⟨hg,r,rfl,af,u⟩)⟩
 .have y:=Zh (HH.o.aj Q);go_wp2_with fail;refine mR (wS 7 _) λx b=>?_
  rw[b];go_wp2_with fail;refine mR (wS 7 _) λx b=>?_;rw[b];go_wp2;go_ret;exact⟨rfl,va,os,HA.o,J9 _,y.o⟩
 .obtain⟨B,hP,hm,g⟩:=u.gX;have nT:=hP.status hm;have z:=hP.steps hm;have l:=g.BA.range;have A:=(g.BA.len g.wO g.cap.1).1;have C:=(g.BA.ok g.wO g.cap.1).core.bP.aJ;obtain⟨o,v⟩:=eY (⟨r,Qr,0,[],KU,0,F,r.σ.picks.length,r.σ.status,18446744073709551615⟩:eH)
  have D:aeN Fq W1 o:=by rw[v];exact⟨λx _=>anE x,by simp[KU],λe=>by cases e⟩
  have Lc:Qm (BS o):=by rw[v];exact⟨rfl,rfl,C⟩
  obtain⟨yx,w3,i,ag,R,W,⟨sa,sm,sc,rfl⟩,ah⟩:=u.push rP.o (by rw[v]) D 24;have Lb:o.eT.toArray=#[Y (O (aD r.P.pb 0)),Z Qr 0 0,Z Qr 0 0,Z Qr 0 0,Qq F,Z Qr 0 0,Z Qr 0 0,Z Qr 0 0,Z Qr 0 0,I J 0,Qq F,I J (r.σ.picks.length:Int),I J r.σ.status,I Qp 18446744073709551615]:=by rw[v];rfl
  rw[Lb]at i;have G:Qo w2 (aD wb 0)=O va:=by obtain⟨_,_,_,_,_,_,_,h1,_⟩:=u.ex;exact h1.cell.cell 0
  obtain⟨aa,am,ac,t⟩:∃a m c,va=Z a m c:=Xz u.wd.all;have p:=Zh W;have f:Qm (1<=r.σ.status/\r.σ.status<=4/\r.σ.picks.length<=7001):=⟨l.1,l.2,A⟩;obtain⟨w4,ae⟩:=eX (Qn w3 (aD wb 0) (Z sa sm sc));rw[ae]at p;generalize r.P.pb=pb,r.σ.status=st,r.σ.picks.length=n at*;have CZ:=Zh t;rw[t]at G R i;go_wp2_with fail;refine mR (wS 0 _) λx b=>?_;rw[b];go_wp2_with fail;refine mR nT λx b=>?_;rw[b];go_wp2_with fail;refine mR z λx b=>?_;rw[b];have t1:st ≥ 1:=f.o.1;have t2:st<=4:=f.o.2.1;have t3:(n:Int) ≥ 0:=X;have t4:(n:Int)<=1000000:=Qj f.o.2.2;go_wp2_with (first|(at_builtin;refine XJ rfl (.tmp 35) (.tmp 40) 24 rfl (Z aa am ac) (Z (O (aD (M (H w2)) 0)) 1 1) (Z sa sm sc) w3 rfl rfl i ?_));go_wp2;go_ret;exact⟨rfl,_,_,HA.o.push Lc.o,Qa,p.o⟩
theorem ajl(h:Wd Fq W1 wb lo va os k Eq w)(hA:uC os)(hl:N os<=1000000){o:eH}(ho:os[i]? = O o)(jC:va.ownBlock=O ab) :
  Calls V 14 #[Y (O (aD wb 0)),Y (O (aD ab (i*14)))] w λe w'=>e=Qu (Qq T)/\OV Fq W1 wb lo (N os+1) k Eq w':=by
 obtain⟨B0,bn,_⟩:=h.pl;have ae:=(h.Au ho).2;obtain⟨s,hs⟩:=eY (qE (ji o.p.ts o.p.P.q o.p.aI o.p.σ.picks o.p.σ.status));obtain⟨bq,aH,af⟩:=aeJ bn ae hs;have A:Qm (∀x,Bw w x->Cb 33 #[Y (O (aD o.p.P.pb 0))] x (.string (iH s))):=λx l=>by obtain⟨B,hP,_⟩:=(h.aj l).pl;have:=hP.aqp (h.O8 x (h.aj l).fz).2.2 ae;grind
 have aT:Qm (∀x,Bw w x->Calls V 29 #[.string (iH s)] x λe w'=>∃r:iy,e=Qu (Qv #[Y (O (aD r.P.pb 0)),I J 0])/\(QS o.p.ts o.p.P.q r.ts r.P.q/\r.aI=o.p.aI/\r.σ=o.p.σ)/\Wx Fq W1 wb lo va os r k Eq w'/\Bw x w'):=λx l=>by refine((h.aj l).asC s bq).mono ?_;grind
 obtain⟨dQ,c,ak,-,hc,-⟩:=h.cells ho;rw[jC]at ak;cases ak;have HC:Qm (∀x,Bw w x->∀j v,o.eT[j]? = O v->Qo x (aD ab (i*14+j))=O v):=λx l j v hj=>cB l (hc j v hj);have hO:=hA.get ho;obtain⟨HO,Ae,dx,rP⟩:=De hO (h.Au ho).1 hA hl;have bV:Qm (o.p∈os.map eH.p):=ae;have c0:Qo w (aD ab (i*14))=O (Y (O (aD o.p.P.pb 0))):=hc 0 _ rfl;have C:=A.o w (Za _ _);generalize iH s=SS at*;clear h hA hl bn hs bq aH af hc hO ae;obtain⟨pb,Bv⟩:=eY (o.p.P.pb);rw[<-Bv]at c0 C A;have Lf:=Zh Bv;clear Bv;go_enter func14,ntmps14;go_wp2_with fail;refine mR C λw1 bL=>?_;have d0:=cB bL c0;have aU:=Zh bL;have C:=A.o w1 bL;clear bL c0;go_wp2_with fail;refine mR C λw2 bT=>?_;have av:=Zh (aO aU.o bT);have af:=aT.o w2 av.o;clear C bT d0 aU A;go_wp2_with fail;refine af.mono ?_;rintro e L ⟨r,rfl,hr,hX,bu⟩;obtain⟨dz,HX⟩:=bH (aO av.o bu) hX;have aV:Qm (wb<M (H L)/\∀b,va.ownBlock=O b->b<M (H L)):=⟨Qj hX.wd.lo,λb hb=>(Xy hX.wd.all hb).2⟩;have HR:=Zh hr;obtain⟨rb,aK⟩:=eY (r.P.pb);rw[<-aK];have Px:=Zh aK;clear af hX hr bu aT aK;go_wp2_with fail;refine mR (wS 0 _) λx l=>?_;rw[l];clear l x
 -- the copy
 obtain⟨Yq,hY,O9,f⟩:=bI L #[Y Qr,Z Qr 0 0,Z Qr 0 0,Z Qr 0 0,Qq F,Z Qr 0 0,Z Qr 0 0,Z Qr 0 0,Z Qr 0 0,I J 0,Qq F,I J 0,I J 0,I Qp 0] 47;obtain⟨Q,R,S,a2,W,c2,a3,n3,c3,gr,a5,n5,c5,a6,n6,c6,a7,n7,c7,a8,n8,c8,cap,kn,co,aL⟩:∃Q R S a2 W c2 a3 n3 c3 gr a5 n5 c5 a6 n6 c6 a7 n7 c7 a8 n8 c8 cap kn co,o.eT=[Y (O (aD pb 0)),Z Q R S,Z a2 W c2,Z a3 n3 c3,Qq gr,Z a5 n5 c5,Z a6 n6 c6,Z a7 n7 c7,Z a8 n8 c8,I J cap,Qq kn,I J o.steps,I J o.status,I Qp co]:=by rw[Lf.o];exact⟨_,_,_,_,_,_,_,_,_,_,_,_,_,_,_,_,_,_,_,_,_,_,_,_,_,rfl⟩
 have n:=HC.o L dz.o;rw[aL]at n;have e0:Qo L (aD ab (i*14))=O (Y (O (aD pb 0))):=n 0 _ rfl;have e1:=n 1 _ rfl;have e2:=n 2 _ rfl;have e3:=n 3 _ rfl;have e4:=n 4 _ rfl;have e5:=n 5 _ rfl;have e6:=n 6 _ rfl;have e7:=n 7 _ rfl;have e8:=n 8 _ rfl;have e9:=n 9 _ rfl;have bW:=n 10 _ rfl;have bX:=n 11 _ rfl;have bY:=n 12 _ rfl;have bZ:=n 13 _ rfl;have d0:=f.at 0;have d1:=f.at 1;have d2:=f.at 2;have d3:=f.at 3;have d4:=f.at 4;have d5:=f.at 5;have d6:=f.at 6;have d7:=f.at 7;have d8:=f.at 8;have d9:=f.at 9;have cu:=f.at 10;have cz:=f.at 11;have cK:=f.at 12;have cO:=f.at 13;have z:=λj=>f.frozen j;obtain⟨Y2,ag⟩:=eX (rV (M (H L)) 0 [Y (O (aD pb 0)),Z Q R S,Z a2 W c2,Z a3 n3 c3,Qq gr,Z a5 n5 c5,Z a6 n6 c6,Z a7 n7 c7,Z a8 n8 c8,I J cap,Qq kn,I J o.steps,I J o.status,I Qp co] Yq);have ax:=zK [Y (O (aD pb 0)),Z Q R S,Z a2 W c2,Z a3 n3 c3,Qq gr,Z a5 n5 c5,Z a6 n6 c6,Z a7 n7 c7,Z a8 n8 c8,I J cap,Qq kn,I J o.steps,I J o.status,I Qp co] f;have jf:=oH (B:=M (H L)) [Y (O (aD pb 0)),Z Q R S,Z a2 W c2,Z a3 n3 c3,Qq gr,Z a5 n5 c5,Z a6 n6 c6,Z a7 n7 c7,Z a8 n8 c8,I J cap,Qq kn,I J o.steps,I J o.status,I Qp co] 0 Yq;rw[ag]at ax jf;have ay:Qm (Bw L Y2):=O9.trans (jf.aj O9.size λb hb=>X);simp only[rV,Nat.reduceAdd,ZT]at ag;have D:=Zh ax;clear n jf ax f O9;go_upto_region 7 with fail;try rw[ag]
 obtain⟨yb,ah⟩:=eY (M (H L));rw[<-ah]at D;try rw[<-ah]
 have aW:=Zh ah;clear ah;clear ag hY e1 e2 e3 e4 e5 e6 e7 e8 e9 bW bX bY bZ d0 d1 d2 d3 d4 d5 d6 d7 d8 d9 cu cz cK cO z;have m0:=D.o.at 0;have z0:=D.o.frozen 0;obtain⟨w5,zg⟩:=eX (Qn Y2 (aD yb 0) (Y (O (aD rb 0))));have az:=D.o.set 0 (Y (O (aD rb 0)));rw[zg]at az;have qd:Qm (Bw L w5):=by refine ay.o.trans ?_;rw[<-zg];exact(JC (g:=yb) (j:=0) _).aj ay.o.size λb hb=>Qj aW.o
 have aA:=HX.o.aj qd.o;have f0:=cB qd.o e0;have aX:Qm (GB w5 yb 47 #[Y (O (aD rb 0)),Z Q R S,Z a2 W c2,Z a3 n3 c3,Qq gr,Z a5 n5 c5,Z a6 n6 c6,Z a7 n7 c7,Z a8 n8 c8,I J cap,Qq kn,I J o.steps,I J o.status,I Qp co]):=az;obtain⟨B5,bz,dA,dB⟩:=aA.gX;have aC:=bz.bP (p:=o.p) (J3 _ bV.o);rw[<-Lf.o]at aC;have aY:=Zh aA;clear aA bz dA dB az HX ay D av HC e0;go_wp2_with fail;try rw[zg]
 clear zg m0 z0;refine aC.mono ?_;rintro e w6 ⟨la,lc,nv,rfl,bA,bB,bC,-,aM⟩;obtain⟨aN,bD⟩:=bH (aY.o.aj aM) (aX.o.up aM);obtain⟨B6,bE,bF,dC⟩:=aN.o.gX;have aF:=bE.bP bF;rw[<-Px.o,HR.o.2.2]at aF;obtain⟨bG,aP,bJ⟩:=lX bB bA bC;clear aC aM bE bF dC bB bA bC f0 aY aX;go_wp2_with fail;refine aF.mono ?_;rintro e w7 ⟨ma,mc,mv,rfl,aQ,-,O3,bK,uz⟩;obtain⟨bM,bN⟩:=bH (aN.o.aj uz) (bD.o.up uz);obtain⟨ja,jc,jq,bO⟩:=(bG.o.aj uz).plan (Qj bJ.o);injection jq with j1 j2 j3;subst j1;clear j2 j3;have aZ:=tO la ma lc mc nv mv w7 bO bK (EK (aP.o.trans aQ.symm)).1 (EK (aP.o.trans aQ.symm)).2;generalize o.p.σ.bP.d.aJ=bc at*;clear aF uz aQ O3 bK bO aN bD bG aP bJ;go_wp2_with fail;refine mR aZ λw8 EZ=>?_;have bf:=Zh (bM.o.aj EZ);have Dk:=bN.o.up EZ;have u:Qm (GB w8 yb 47 #[Y (O (aD rb 0)),Z Q R S,Z a2 W c2,Z a3 n3 c3,Qq gr,Z a5 n5 c5,Z a6 n6 c6,Z a7 n7 c7,Z a8 n8 c8,I J cap,Qq kn,I J o.steps,I J o.status,I Qp co]):=Dk;have Ra:=Zh aL;clear aL aZ;obtain⟨B8,bQ,bR,dD⟩:=bf.o.gX;have cZ:=Oy bQ bR yb 0 (by rw[<-Px.o];exact Dk.at 0) (by rw[HR.o.2.2,<-HO.o.steps];exact Dk.at 11) (by rw[HR.o.2.2,<-HO.o.status];exact Dk.at 12);clear EZ Dk bQ bR dD bM bN;go_upto_region 12 with fail;refine mR cZ λx l=>?_;rw[l];clear l x;go_upto_region 12 with fail
 -- the eT grows
 have aG:=bf.o.aj ((Za _ _).drew);obtain⟨o',ai⟩:=eY ({ o with p:=r }:eH);have df:aeN Fq W1 o':=by
  rw[ai];refine⟨Ae.o.oO,Ae.o.D6,λhn=>?_⟩;obtain⟨a,b,c⟩:=Ae.o.same hn;obtain⟨q1,q2,q3⟩:=HR.o;exact⟨⟨a.1.trans q1.1,(by
   have:=q1.bU;rw[show o.p.P.q.au.xs=o.q.au.xs from a.au]at this;exact this.trans a.bU),(by
   have:=q1.rows;rw[show o.p.P.q.au.xs=o.q.au.xs from a.au]at this;exact this.trans a.rows)⟩,b,Qb⟩
 have dh:Qm (BS o'):=by rw[ai];have h3:=HR.o.2.2;exact⟨by show o.steps=_;rw[h3];exact HO.o.steps,by show o.status=_;rw[h3];exact HO.o.status,by show r.σ.bP.d.aJ<=o.aJ;rw[h3];exact HO.o.aJ⟩
 obtain⟨yx,wA,aR,dR,dE,dF,⟨sa,sm,sc,rfl⟩,dG⟩:=aG.push rP.o (by rw[ai]) df 24;have Lb:o'.eT.toArray=#[Y (O (aD rb 0)),Z Q R S,Z a2 W c2,Z a3 n3 c3,Qq gr,Z a5 n5 c5,Z a6 n6 c6,Z a7 n7 c7,Z a8 n8 c8,I J cap,Qq kn,I J o.steps,I J o.status,I Qp co]:=by
  have:o'.eT=o.eT.set 0 (Y (O (aD rb 0))):=by rw[ai,Px.o];rfl
  rw[this,Ra.o];rfl
 rw[Lb]at aR;have bg:Qo w8.drew (aD wb 0)=O va:=by obtain⟨_,_,_,_,_,_,_,h1,_⟩:=aG.ex;exact h1.cell.cell 0
 obtain⟨aa,am,ac,bS⟩:∃a m c,va=Z a m c:=Xz aG.wd.all;have di:yb≠wb/\va.ownBlock≠O yb:=by have h1:=aW.o;exact⟨Qj aV.o.1,λe=>Qj (aV.o.2 _ e)⟩
 obtain⟨g0,g1,g2,g3,g4,g5,g6,g7,g8,g9,dH,dI,dJ,dK⟩:_/\_/\_/\_/\_/\_/\_/\_/\_/\_/\_/\_/\_/\_:=⟨u.o.at 0,u.o.at 1,u.o.at 2,u.o.at 3,u.o.at 4,u.o.at 5,u.o.at 6,u.o.at 7,u.o.at 8,u.o.at 9,u.o.at 10,u.o.at 11,u.o.at 12,u.o.at 13⟩;obtain⟨y1,y2⟩:=di;obtain⟨dL,CZ⟩:=bH dF bS;obtain⟨SV,aS⟩:=eY (λb=>va.ownBlock≠O b/\b≠wb:Pm);have y:SV yb:=Qb;have A:Qm (SV=λb=>va.ownBlock≠O b/\b≠wb):=aS;have dm:aB SV w8.drew wA:=by rw[aS];exact dG.mono λ_ _ x=>x.1
 have dn:aB SV wA (Qn wA (aD wb 0) (Z sa sm sc)):=by rw[aS];exact Xu _ _ _ (λh=>h.2 rfl)
 rw[bS]at bg dE aR;refine wHk w8 SV λt=>?_;have dw:=Zh t;refine wX4 0 t ?_;refine wT 5 (Qt #[Y (O (aD rb 0)),Z Q R S,Z a2 W c2,Z a3 n3 c3,Qq gr,Z a5 n5 c5,Z a6 n6 c6,Z a7 n7 c7,Z a8 n8 c8,I J cap,Qq kn,I J o.steps,I J o.status,I Qp co]) t (λx l=>?_) ?_
 .skip;have k0:=JE l g0 y;have k1:=JE l g1 y;have k2:=JE l g2 y;have k3:=JE l g3 y;have k4:=JE l g4 y;have k5:=JE l g5 y;have k6:=JE l g6 y;have k7:=JE l g7 y;have k8:=JE l g8 y;have k9:=JE l g9 y;have dN:=JE l dH y;have dO:=JE l dI y;have dP:=JE l dJ y;have vV:=JE l dK y;go_simp
 try simp only[pU]
 have dM:Qo (w8.alloc (Qs #[Y (O (aD rb 0)),Z Q R S,Z a2 W c2,Z a3 n3 c3,Qq gr,Z a5 n5 c5,Z a6 n6 c6,Z a7 n7 c7,Z a8 n8 c8,I J cap,Qq kn,I J o.steps,I J o.status,I Qp co] 47)) (aD wb 0)=O (Z aa am ac):=cB (fo _ _) (show w8.cell? _=_ from bg);refine kJ 4 6 (λK G=>?_) λK G=>?_
 case' _=>
  go_simp;refine G.o _ _ t λt=>?_;refine kR 6 λK G=>?_;go_simp;refine G.o _ _ (t.trans (Xo _ _)) λt=>?_
 rotate_left
 case' _=>
  go_simp;refine G.o _ _ (t.trans (Xo _ _)) λt=>?_;refine kR 4 λK G=>?_;go_simp;refine G.o _ _ t λt=>?_
 rotate_left
 all_goals
  refine kR 7 λK G=>?_;refine nM Qh _ _ _ Qh (Z aa am ac) (Z (O (aD (M (H w8)) 0)) 1 1) (Z sa sm sc) wA Qh Qh aR ?_;refine G.o _ _ (dw.o.trans dm) λt=>?_;refine wX2 8 t ?_;refine kR 10 λK G=>?_;go_simp;refine G.o _ _ (t.trans dn) λt=>?_;refine wD ?_;try simp only[pV]
  go_wp2;go_ret;exact⟨rfl,_,_,dx.o.push dh.o,Qa,dL.o⟩
end
section
variable {Fq:Pm} {W1:U} {wb lo:Nat} {va:Ql} {os:JK eH} {k:Nat} {Eq:Pm} {w w':U} {r:iy}
def ae2(q:ae)(bf bk bu be bo bw:Nat)(A:Nat->Nat):il q (yj q bf bk bu be bo bw A):=
 ⟨rfl,J6 _ _,λi a=>by
  have a:i<N q.wh:=by rw[<-J6 q.wh A];exact a
  show (E (pq q.wh A) i lz).cs=_;rw[yh _ _ a],rfl,rfl,rfl,rfl,rfl⟩
def ae3(q:ae)(bf bk bu be bo bw:Nat)(A:Nat->Nat):(yj q bf bk bu be bo bw A).cells=#[Z (O (aD bf 0)) (N q.au.xs) (N q.au.xs+2),Z (O (aD bw 0)) (N q.wh) (N q.wh+2),Qq q.aF,Z (O (aD bk 0)) (N q.aC.xs) (N q.aC.xs+2),Z (O (aD bu 0)) (N q.aM.xs) (N q.aM.xs+2),Z (O (aD be 0)) (N q.bA.xs) (N q.bA.xs+2),Z (O (aD bo 0)) (N q.ord.xs) (N q.ord.xs+2)]:=by unfold ae.cells yj aA.val;simp only[J6]
theorem ajr(h:q.check ts=0)(bf bk bu be bo bw:Nat)(A:Nat->Nat):Tx (yj q bf bk bu be bo bw A):=by
 have a:=sU h;have d:∀{b:Nat} {n:Nat},(O ((aD b 0):Addr))=Qr->n=0:=λe=>by cases e
 refine⟨⟨d,by have:=a.au.1;show N q.au.xs<=_;omega⟩,⟨d,?_⟩,λi f=>?_,⟨d,by have:=a.aC.1;show N q.aC.xs<=_;omega⟩,⟨d,by have:=a.aM.1;show N q.aM.xs<=_;omega⟩,⟨d,by have:=a.bA.1;show N q.bA.xs<=_;omega⟩,⟨d,by have:=a.ord.1;show N q.ord.xs<=_;omega⟩⟩
 .show (N (pq q.wh A))<=_
  rw[J6];have:=a.wh;omega
 .have f:i<N q.wh:=by rw[<-J6 q.wh A];exact f
  show ((E (pq q.wh A) i lz).ad=Qr->(E (pq q.wh A) i lz).cap=0)/\(E (pq q.wh A) i lz).cs.length<=100;rw[yh _ _ f];refine⟨d,?_⟩;have g:E q.wh i lz∈q.wh:=by simp[List.getD,f]
  have:=(a.cl _ g).1;grind
theorem Wd.anD(h:Wd Fq W1 wb lo va os k Eq w)(hk:aB (λb=>¬Eq b) w w'):Wd Fq W1 wb lo va os k Eq w':=by
 obtain⟨q,j,l,d,m,f,g,g1,r,n,p⟩:=h.ex;have i:∀b,b=wb∨dD.own j l f b∨dD.own d m g b->¬Eq b:=λb a=>by grind [BB]
 exact⟨⟨q,j,l,d,m,f,g,g1.bT hk i,r,n,p.own (hk.mono λb _ a e=>a (.inr e)) (λb a=>.inl a) h.Dl⟩,Xw h.all hk λb a=>n.2 b (.inr (.inl a)),h.fz.trans (hk.mono λb _ a e=>(p.lt b (.inl (.inr e))).1 a),h.flt,h.f0,⟨h.lo.1,ZU h.lo.2 hk.size⟩,h.O8,h.one⟩
structure OpE(Fq:Pm)(W1:U)(d:KH):Prop where
 oO:∀x,aB Fq W1 x->aZ x d.co d.ts/\d.q.At x
 D6:N d.q.au.xs<=2000000/\N d.q.aC.xs<=2000000/\N d.q.aM.xs<=2000000/\N d.q.bA.xs<=2000000/\N d.q.ord.xs<=2000000/\N d.q.wh<=2000000/\N d.ts<=2000000/\∀i,i<N d.q.wh->(E d.q.wh i lz).cs.length<=2000000
 L:∀x,aB Fq W1 x->d.L.At x
 LF:vP Fq d.L.ad (N d.L.xs)
 pl:∀x,aB Fq W1 x->fH x d.po d.pl
 S:N d.S<=2000000
 A:d.A<=9223372036854775807
def af3{G tG tC tA tS tI tT tN tR tL:Nat}{bc bp bd:Nat}{k1 k2 s1 i1 s2 i2:Nat}
  (h:Giv w w' G tG tC tA tS tI tT tN tR tL ts q bc bf bk bu be bo bw bp bd v A k1 k2 s1 i1 s2 i2) (hb:Spb bc bf bk bu be bo (N q.wh) A b):M (H w)<=b/\b<M (H w'):=by
 obtain⟨a,d,e,f4,f,f6⟩:=h.fr;rcases hb with⟨i,hi,rfl⟩|⟨i,hi,rfl⟩|rfl
 .have:i=0∨i=1∨i=2∨i=3∨i=4:=X
  rcases this with rfl|rfl|rfl|rfl|rfl
  .exact⟨d,h.au.lt⟩
  .exact⟨e,h.aC.lt⟩
  .exact⟨f4,h.aM.lt⟩
  .exact⟨f,h.bA.lt⟩
  .exact⟨f6,h.ord.lt⟩
 .exact⟨h.fa i hi,(h.al i hi).lt⟩
 .exact⟨a,h.qP.lt⟩
theorem abP(ts:JK af)(q:ae)(A:Int)(bf bk bu be bo bw:Nat)(B:Nat->Nat):dA ts (yj q bf bk bu be bo bw B) A=dA ts q A:=by grind [dA,BZ]
def aHI(Fq:Pm)(W1:U)(wb lo:Nat)(va:Ql)(os:JK eH)(k:Nat)(Eq:Pm)(d:KH)(ptr:LM)(w:U):Prop:=
 (dA d.ts d.q d.A≠0/\ptr=Qr)∨(dA d.ts d.q d.A=0/\∃r:iy,ptr=O (aD r.P.pb 0)/\(r.ts=d.ts/\il d.q r.P.q/\(r.aI:Int)=d.A/\r.σ=EH d.ts d.q r.aI/\d.q.check d.ts=0)/\Wx Fq W1 wb lo va os r k Eq w)
def GJ{d:KH}{e:Ending}(h:(dA d.ts d.q d.A≠0/\e=Qu (Qv #[Y Qr,I J (dA d.ts d.q d.A)]))∨(dA d.ts d.q d.A=0/\∃r:iy,e=Qu (Qv #[Y (O (aD r.P.pb 0)),I J 0])/\(r.ts=d.ts/\il (yj d.q bf bk bu be bo bw A) r.P.q/\(r.aI:Int)=d.A/\r.σ=EH d.ts (yj d.q bf bk bu be bo bw A) r.aI/\(yj d.q bf bk bu be bo bw A).check d.ts=0)/\Wx Fq W1 wb lo va os r k Eq w)) :
  ∃a,e=Qu (Qv #[Y a,I J (dA d.ts d.q d.A)])/\aHI Fq W1 wb lo va os k Eq d a w:=by
 rcases h with⟨h1,h2⟩|⟨h1,r,h2,⟨a1,a2,a3,a4,a5⟩,h3⟩
 .exact⟨Qr,h2,.inl ⟨h1,rfl⟩⟩
 .have b:=ae2 d.q bf bk bu be bo bw A;rw[BQ (b.qs d.ts)]at a4;rw[BZ]at a5;exact⟨_,by rw[h1];exact h2,.inr ⟨h1,r,rfl,⟨a1,b.trans a2,a3,a4,a5⟩,h3⟩⟩
structure aBb(d:KH)(o:eH):Prop where
 co:o.co=d.co
 cc:o.cc=d.cc
 ts:o.ts=d.ts
 q:o.q=d.q
 cap:o.cap=d.A
 rM:o.rM=T
 σ:o.p.σ=EH d.ts d.q o.p.aI
def anI(Fq:Pm)(W1:U)(wb lo:Nat)(va:Ql)(os:JK eH)(k:Nat)(Eq:Pm)(d:KH)(w:U):Prop:=
 (dA d.ts d.q d.A≠0/\Wd Fq W1 wb lo va os k Eq w)∨(dA d.ts d.q d.A=0/\∃yx o,BS o/\aBb d o/\Wd Fq W1 wb lo yx (os++[o]) (k+1) Eq w)
theorem OX(h:Wd Fq W1 wb lo va os k Eq w)(hE:∀b,Eq b->b<M (H w))(hA:uC os)(hl:N os<=1000000)(hk:k<=130000)(d:KH)(hd:OpE Fq W1 d) :
  Calls V 9 #[Y (O (aD wb 0)),Qt d.cells] w λe w'=>e=Qu (Qq T)/\anI Fq W1 wb lo va os k Eq d w':=by
 obtain⟨w1,dB,bL,j⟩:=abn d w;have hW:=h.aj bL;obtain⟨s1,s2,s3,s4,s5,s6,s7,s8⟩:=hd.D6;have hG:=ajd d.co d.cc d.ts d.q w1 (hd.oO w1 hW.fz).1 (hd.oO w1 hW.fz).2 X X X X X X X (λi hi=>Qj (s8 i hi));have HE:Qm (∀b,Eq b->b<M (H w1)):=λb hb=>Qk (hE b hb) bL.size;have aX:Qm (wb<M (H w)/\∀b,va.ownBlock=O b->b<M (H w)):=⟨Qj h.lo,λb hb=>(Xy h.all hb).2⟩;obtain⟨HH,HA,rP,dG,HD,CE⟩:=asK hW hA hl hk hd j;obtain⟨b0,b1,b2,b3,b4,b5,b6,b7,b8,b9,bM,dH,dI,dJ,dK⟩:_/\_/\_/\_/\_/\_/\_/\_/\_/\_/\_/\_/\_/\_/\_:=⟨j.at 0,j.at 1,j.at 2,j.at 3,j.at 4,j.at 5,j.at 6,j.at 7,j.at 8,j.at 9,j.at 10,j.at 11,j.at 12,j.at 13,j.at 14⟩;clear h hA hl hk hd j bL hW hE s1 s2 s3 s4 s5 s6 s7 s8 b0 b1 dH dI dJ dK;unfold ae.cells at hG;go_enter func9,ntmps9;go_wp2_with fail;refine hG.mono ?_;rintro e w2 ⟨G,bc,bf,bk,bu,be,bo,bw,bp,bd,v,A,k1,k2,i1,j1,i2,j2,rfl,Q⟩;have aA:=HH.o.more Q.Dq;have YU:=Q.Dq;have aG:=λx (l:Bw w2 x)=>(aA.aj l).avx (O (aD bc 0)) (N d.ts+2) d.ts (yj d.q bf bk bu be bo bw A) d.A ((anq Q.qP (HD.o.oO _ HH.o.fz).1.1).aj l) (λe=>by cases e) ((T9 Q (HD.o.oO _ HH.o.fz).2).aj l) (by show N d.q.aC.xs<=_+2;omega) (by show N d.q.ord.xs<=_+2;omega) (λe=>ajr (by rw[BZ]at e;exact e) _ _ _ _ _ _ _);rw[ae3]at aG;obtain⟨dL,HV⟩:=bH aA Q;obtain⟨g0,g1,g2,g3,g4,g5,g6,g7⟩:_/\_/\_/\_/\_/\_/\_/\_:=⟨Q.g.at 0,Q.g.at 1,Q.g.at 2,Q.g.at 3,Q.g.at 4,Q.g.at 5,Q.g.at 6,Q.g.at 7⟩;obtain⟨c2,c3,c4,c5,c6,c7,c8,c9⟩:=Da YU b2 b3 b4 b5 b6 b7 b8 b9;have O7:=cB YU bM;clear hG aA Q YU dB b2 b3 b4 b5 b6 b7 b8 b9 bM;go_wp2_with fail;refine wH w2 λf=>?_;refine IU 0 f ?_;refine IU 4 f ?_;refine Co 8 f ?_;refine wR 10 λK t=>?_;go_simp;refine Jg (aG _ f) ?_;rintro e w3 ⟨aT,aU⟩;rw[abP]at aU;obtain⟨bN,rfl,hP⟩:=GJ aU;obtain⟨HP,dM⟩:=bH hP (dL.o.aj (aO f aT));refine oT t f aT λf=>?_;clear t K aU hP aT;refine wA3 11 f ?_;refine Co 14 f ?_;refine wD ?_;try simp only[pU]
 -- what was handed in is whole
 have aY:=Zh (IA HV.o f);have aH:=ae1 w1 w3 G d.co d.cc d.ts d.q bc bf bk bu be bo bw bp bd v A k1 k2 i1 j1 i2 j2 aY.o (HD.o.oO _ HH.o.fz).1 (HD.o.oO _ HH.o.fz).2;obtain⟨e2,e3,e4,e5,e6,e7,e8,e9⟩:=Da f c2 c3 c4 c5 c6 c7 c8 c9;have aZ:=cB f O7;unfold ae.cells at aH;clear aG f c2 c3 c4 c5 c6 c7 c8 c9 O7 g0 g1 g2 g3 g4 g5 g6 g7;go_wp2_with fail;refine mR aH λw4 u=>?_;have VF:=Zh (dM.o.aj u);have bg:=ajq aY.o u HD.o.D6;have qO:=Zh u;clear aH;go_wp2_with fail;refine mR bg λw5 kC=>?_;have aK:aB (λb=>¬(Eq b∨M (H w1)<=b/\b<M (H w2))) w4 w5:=kC.mono λb _ hb e=>hb (.inr (af3 HV.o e));obtain⟨aV,Yp⟩:=bH (VF.o.anD aK) aK;have y:¬Spb bc bf bk bu be bo (N d.q.wh) A (M (H w)):=λe=>Qk ((af3 HV.o e).1) CE.o.lt;have f2:=JE kC (cB u e2) y;have f3:=JE kC (cB u e3) y;have f4:=JE kC (cB u e4) y;have f5:=JE kC (cB u e5) y;have f6:=JE kC (cB u e6) y;have f7:=JE kC (cB u e7) y;have f8:=JE kC (cB u e8) y;have f9:=JE kC (cB u e9) y;have bn:=JE kC (cB u aZ) y;have aL:=GI d.co d.cc d.ts d.q w5 (HD.o.oO _ aV.o.fz).1 (HD.o.oO _ aV.o.fz).2;unfold ae.cells at aL;clear bg u kC aK y e2 e3 e4 e5 e6 e7 e8 e9 aZ;go_wp2_with fail;refine mR aL λS ak=>?_;obtain⟨dN,yu⟩:=bH (aV.o.aj ak) ak;obtain⟨g2,g3,g4,g5,g6,g7,g8,g9⟩:=Da ak f2 f3 f4 f5 f6 f7 f8 f9;have z:=cB ak bn;clear aL ak f2 f3 f4 f5 f6 f7 f8 f9 bn;have aN:(dA d.ts d.q d.A≠0/\bN=Qr/\(dA d.ts d.q d.A=d.q.check d.ts∨d.q.check d.ts=0/\dA d.ts d.q d.A=6/\(d.A<1∨1000<d.A)))∨(dA d.ts d.q d.A=0/\d.q.check d.ts=0/\¬(d.A<1∨1000<d.A)):=by
  rcases HP.o with⟨W,h2⟩|⟨W,_⟩
  .refine .inl ⟨W,h2,?_⟩;unfold dA;omega
  .refine .inr ⟨W,?_⟩;unfold dA at W;omega
 have gJ:Qm (dA d.ts d.q d.A≠0->anI Fq W1 wb lo va os k Eq d S):=λe=>.inl ⟨e,dN.o.asB λb hb=>.inl hb⟩;rcases aN with⟨R,rfl,av⟩|⟨R,oq,af⟩
 .have HN:=Zh R;rcases av with av|⟨oq,aS,af⟩
  .rw[<-av];have h0:(dA d.ts d.q d.A==0)=false:=by simpa using R
   have W:(dA d.ts d.q d.A != 0)=true:=by simpa using R
   clear av R HP;generalize dA d.ts d.q d.A=n at*;go_wp2_with fail;refine mR (wS n _) λx l=>?_;rw[l];clear l x;go_wp2;go_ret;exact⟨rfl,gJ.o HN.o⟩
  .rw[oq,aS];have dU:=Zh aS;clear oq aS R HP;obtain⟨a,ha⟩:=eY (d.A)
   rw[<-ha]at z af;try rw[<-ha]
   clear ha;by_cases cO:a<1
   .clear af;go_wp2_with fail;refine mR (wS 6 _) λx l=>?_
    rw[l];clear l x;go_wp2;go_ret;exact⟨rfl,gJ.o HN.o⟩
   .have cz:1000<a:=X
    clear af;go_wp2_with fail;refine mR (wS 6 _) λx l=>?_;rw[l];clear l x;go_wp2;go_ret;exact⟨rfl,gJ.o HN.o⟩
 .obtain⟨r,bO,bQ,hX⟩:∃r:iy,bN=O (aD r.P.pb 0)/\(r.ts=d.ts/\il d.q r.P.q/\(r.aI:Int)=d.A/\r.σ=EH d.ts d.q r.aI/\d.q.check d.ts=0)/\Wx Fq W1 wb lo va os r k (λb=>Eq b∨M (H w1)<=b/\b<M (H w2)) w3:=by
   rcases HP.o with⟨W,_⟩|⟨_,h2⟩
   .exact absurd R W
   .exact h2
  obtain⟨dO,ag,HN⟩:=lX (((hX.aj qO.o).anD Yp.o).aj yu.o) bQ R;obtain⟨pb,Bv⟩:=eY (r.P.pb);rw[bO,<-Bv,oq,R];have Lf:=Zh Bv;obtain⟨a,ha⟩:=eY (d.A);rw[<-ha]at z af;try rw[<-ha]
  have cK:=Zh ha;have cO:¬a<1:=X;have cz:¬1000<a:=X;clear bO bQ hX Bv R oq HP af ha;go_wp2_with fail;refine mR (wS 0 _) λx l=>?_;rw[l];clear l x;go_wp2_with fail
  -- the eT grows
  have ai:=dO.o.aj ((Za _ _).drew);obtain⟨B,hP,hm,iZ⟩:=ai.gX;obtain⟨o,ho⟩:=eY (⟨r,d.co,d.cc,d.ts,d.q,d.A,T,0,1,18446744073709551615⟩:eH);have bq:aeN Fq W1 o:=by rw[ho];obtain⟨q1,q2,q3,q4,q5⟩:=ag.o;exact⟨HD.o.oO,HD.o.D6.2.2.2.2.2.1,λ_=>⟨by rw[q1];exact q2.qs d.ts,q5,q3.symm⟩⟩
  have Lc:Qm (BS o):=by have df:=(iZ.BA.ok iZ.wO iZ.cap.1).core.bP.aJ;rw[ho];obtain⟨q1,q2,q3,q4,q5⟩:=ag.o;exact⟨by show (0:Int)=(r.σ.picks.length:Int);rw[q4];rfl,by show (1:Int)=r.σ.status;rw[q4];rfl,df⟩
  have dh:Qm (o.p=r):=Zh (by rw[ho]);have C:Qm (aBb d o):=by rw[ho];exact⟨rfl,rfl,rfl,rfl,rfl,rfl,ag.o.2.2.2.1⟩
  obtain⟨yx,wA,ax,dP,bR,bS,⟨sa,sm,sc,rfl⟩,bT⟩:=ai.push rP.o (by rw[ho]) bq 24;have Lb:o.eT.toArray=#[Y (O (aD pb 0)),Z d.co (N d.ts) d.cc,d.q.au.val,Z d.q.iF (N d.q.wh) d.q.cZ,Qq d.q.aF,d.q.aC.val,d.q.aM.val,d.q.bA.val,d.q.ord.val,I J a,Qq T,I J 0,I J 1,I Qp 18446744073709551615]:=by rw[ho,Lf.o,cK.o];rfl
  rw[Lb]at ax;have aP:Qo S.drew (aD wb 0)=O va:=by obtain⟨_,_,_,_,_,_,_,W,_⟩:=ai.ex;exact W.cell.cell 0
  obtain⟨aa,am,ac,aW⟩:∃a m c,va=Z a m c:=Xz ai.wd.all;obtain⟨xb,ay⟩:=eY (M (H w));have di:xb≠wb/\va.ownBlock≠O xb:=by exact⟨Qj aX.o.1,λe=>Qj (aX.o.2 _ e)⟩
  rw[<-ay]at g2 g3 g4 g5 g6 g7 g8 g9 z;try rw[<-ay]
  have dV:=Zh ay;obtain⟨y1,y2⟩:=di;obtain⟨ah,CZ⟩:=bH bS aW;obtain⟨SV,az⟩:=eY (λb=>va.ownBlock≠O b/\b≠wb:Pm);have D:SV xb:=Qb;have dW:Qm (SV=λb=>va.ownBlock≠O b/\b≠wb):=az;have bz:aB SV S.drew wA:=by rw[az];exact bT.mono λ_ _ x=>x.1
  have bB:aB SV wA (Qn wA (aD wb 0) (Z sa sm sc)):=by rw[az];exact Xu _ _ _ (λh=>h.2 rfl)
  rw[aW]at aP bR ax;have bC:Qo (S.alloc (Qs #[Y (O (aD pb 0)),Z d.co (N d.ts) d.cc,d.q.au.val,Z d.q.iF (N d.q.wh) d.q.cZ,Qq d.q.aF,d.q.aC.val,d.q.aM.val,d.q.bA.val,d.q.ord.val,I J a,Qq T,I J 0,I J 1,I Qp 18446744073709551615] 47)) (aD wb 0)=O (Z aa am ac):=cB (fo _ _) (show S.cell? _=_ from aP);clear ai bq Lb aW bT bS ho y1 y2 az hP hm iZ ay;refine wHk S SV λf=>?_;have dm:=Zh f;refine wX4 0 f ?_;refine wX2 5 f ?_;refine wT 7 (Z d.co (N d.ts) d.cc) f (λx l=>?_) ?_
  .have k2:=JE l g2 D;clear g2 g3 g4 g5 g6 g7 g8 g9 z;go_simp
  try simp only[pU]
  refine wX1 8 f ?_;refine wT 9 (Qt #[d.q.au.val,Z d.q.iF (N d.q.wh) d.q.cZ,Qq d.q.aF,d.q.aC.val,d.q.aM.val,d.q.bA.val,d.q.ord.val]) f (λx l=>?_) ?_
  .have k3:=JE l g3 D;have k4:=JE l g4 D;have k5:=JE l g5 D;have k6:=JE l g6 D;have k7:=JE l g7 D;have k8:=JE l g8 D;have k9:=JE l g9 D;clear g2 g3 g4 g5 g6 g7 g8 g9 z;go_simp
  try simp only[pU]
  refine wX1 10 f ?_;refine wT 11 (I J a) f (λx l=>?_) ?_
  .have dX:=JE l z D;clear g2 g3 g4 g5 g6 g7 g8 g9 z;go_simp
  try simp only[pU]
  have dn:Qm (Qo S (aD xb 3)=O d.q.au.val/\Qo S (aD xb 4)=O (Z d.q.iF (N d.q.wh) d.q.cZ)/\Qo S (aD xb 5)=O (Qq d.q.aF)/\Qo S (aD xb 6)=O d.q.aC.val/\Qo S (aD xb 7)=O d.q.aM.val/\Qo S (aD xb 8)=O d.q.bA.val/\Qo S (aD xb 9)=O d.q.ord.val):=⟨g3,g4,g5,g6,g7,g8,g9⟩;clear g2 g3 g4 g5 g6 g7 g8 g9 z;refine wX1 12 f ?_;refine kJ 4 13 (λK t=>?_) λK t=>?_
  case' _=>
   go_simp;refine t.o _ _ f λf=>?_;clear t K;refine kR 13 λK t=>?_;go_simp;refine t.o _ _ (f.trans (Xo _ _)) λf=>?_;clear t K
  rotate_left
  case' _=>
   go_simp;refine t.o _ _ (f.trans (Xo _ _)) λf=>?_;clear t K;refine kR 4 λK t=>?_;go_simp;refine t.o _ _ f λf=>?_;clear t K
  rotate_left
  all_goals
   refine kR 14 λK t=>?_;refine nM Qh _ _ _ Qh (Z aa am ac) (Z (O (aD (M (H S)) 0)) 1 1) (Z sa sm sc) wA Qh Qh ax ?_;refine t.o _ _ (dm.o.trans bz) λf=>?_;clear t K;refine wX2 15 f ?_;refine kR 17 λK t=>?_;go_simp;refine t.o _ _ (f.trans bB) λf=>?_;clear t K;refine wD ?_;try simp only[pV]
   generalize Qn wA (aD wb 0) (Z sa sm sc)=wB at ah f ⊢;have L:(os++[o])[N os]? = O o:=Qa;obtain⟨ab,c,jC,dQ,lH,-⟩:=ah.o.cells L;injection dQ with hv1 hv2 hv3;have bD:Qo wB (aD wb 0)=O (Z (O (aD ab 0)) (N os+1) sc):=by obtain⟨_,_,_,_,_,_,_,W,_⟩:=ah.o.ex;have:=W.cell.cell 0;rw[this,hv1,hv2,Zt];rfl
   have bE:=Zh jC;have hm:o.p∈(os++[o]).map eH.p:=(ah.o.Au L).2;obtain⟨n,R⟩:=eY (N os);rw[<-R]at bD L;obtain⟨zI,dR⟩:=bH R L;obtain⟨q3,q4,q5,q6,q7,q8,q9⟩:=dn.o;have r3:=JE f q3 D;have r4:=JE f q4 D;have r5:=JE f q5 D;have r6:=JE f q6 D;have r7:=JE f q7 D;have r8:=JE f q8 D;have r9:=JE f q9 D;have bF:∀x,Bw wB x->Calls V 15 #[Y (O (aD pb 0))] x λe w'=>∃ao cap nv,e=Qu (Qv #[Z ao (N nv) cap,I Qp (o.p.σ.bP.d.aJ:Int)])/\nv.map fA=o.p.σ.bP.ns/\fH w' ao nv/\Bw x w':=λx l=>by obtain⟨_,dS,_⟩:=(ah.o.aj l).pl;have:=dS.bP hm;rw[show o.p.P.pb=pb from by rw[dh.o,Lf.o]]at this;exact this.mono λe w' ⟨a,b,c,W,h2,_,_,h3,h4⟩=>⟨a,b,c,W,h2,h3,h4⟩
   clear hv1 hv2 hv3 lH hm R L bz bB f bR dP ax aP bC q3 q4 q5 q6 q7 q8 q9 jC D;go_wp2_with fail;have dw:n<=1000000:=Qk zI.o rP.o;have dx:IntKind.i64.wrap (n:Int)=n:=by rw[IntKind.wrap_i64];omega
   have LP:(0:Int)<=n/\(n:Int)<n+1:=X;refine wH wB λf=>?_;refine IU 0 f ?_;refine IU 4 f ?_;refine kR 8 λK t=>?_;go_simp;refine t.o _ _ f λf=>?_;clear t K;refine kR 9 λK t=>?_;go_simp;refine t.o _ _ f λf=>?_;clear t K;refine kR 10 λK t=>?_;go_simp;refine t.o _ _ f λf=>?_;clear t K;refine rR 11 f ?_;refine wD ?_;try simp only[pV]
   clear dx LP dw bD;have bG:=bF _ f;have HS:=Zh f;obtain⟨s3,s4,s5,s6,s7⟩:=qi f r3 r4 r5 r6 r7;obtain⟨s8,s9⟩:=kP f r8 r9;clear f r3 r4 r5 r6 r7 r8 r9 bF;go_wp2_with fail;refine bG.mono ?_;rintro e w7 ⟨la,lc,nv,rfl,bU,bV,uz⟩;have dz:=Zh (ah.o.aj (aO HS.o uz));obtain⟨t3,t4,t5,t6,t7⟩:=qi uz s3 s4 s5 s6 s7;obtain⟨t8,t9⟩:=kP uz s8 s9;have aQ:∀x,Calls V 28 #[Qt d.q.cells] x (sZ (ET d.q) x):=λx=>by have hj:=sU ag.o.2.2.2.2;exact ajo d.q x (sS ag.o.2.2.2.2).2.1 hj.au.1 hj.wh (Qj hj.ord.1)
   have dC:Qm (o.p.σ.bP.ns=ET d.q):=by
    have hj:=sU ag.o.2.2.2.2;have:o.p.σ.bP.ns=(kI d.ts d.q).ns:=by rw[C.o.σ];rfl
    exact Zh (this.trans (abN d.ts d.q hj.au.1 hj.wh))
   obtain⟨bW,bX⟩:=bH bU bV;unfold ae.cells at aQ;generalize (o.p.σ.bP.d.aJ:Int)=bc at*;clear bG s3 s4 s5 s6 s7 s8 s9 uz bU bV;go_wp2_with fail;refine(aQ _).mono ?_;rintro e w8 ⟨fa,fc,fv,rfl,bY,bZ,EZ⟩;have aR:=EK (bW.o.trans (dC.o.trans bY.symm));have bI:=tO la fa lc fc nv fv w8 (fH.aj EZ bX.o) bZ aR.1 aR.2;have dD:=Zh (dz.o.aj EZ);clear aQ bY bZ EZ aR t3 t4 t5 t6 t7 t8 t9 bX bW;go_wp2_with fail;refine mR bI λw9 cu=>?_;have dE:=Zh (dD.o.aj cu);have bJ:=C8 dE.o (HA.o.push Lc.o) dR.o bE.o dG.o Qr 0 [] (λx _=>⟨Qa,λi hi=>absurd hi Qa⟩);clear bI cu;go_wp2_with fail;refine mR bJ λwC O5=>?_;rw[zI.o,Jz _ _ (Zb _),Nat.sub_self]at O5;have O5:Wd Fq W1 wb lo (Z sa sm sc) (os++[{ o with aJ:=o.p.σ.bP.d.aJ }]) (k+1) (λb=>Eq b∨M (H w1)<=b/\b<M (H w2)) wC:=O5;have L:(os++[{ o with aJ:=o.p.σ.bP.d.aJ }])[n]? = O { o with aJ:=o.p.σ.bP.d.aJ }:=by rw[zI.o];simp
   have bK:=O5.stands L bE.o Lc.o.steps Lc.o.status;have dF:=Zh O5;clear bJ O5 L;go_wp2_with fail;refine mR bK λx l=>?_;rw[l];clear l x bK;go_wp2;go_ret;exact⟨rfl,.inr ⟨HN.o,Z sa sm sc,{ o with aJ:=o.p.σ.bP.d.aJ },⟨Lc.o.steps,Lc.o.status,Zb _⟩,⟨C.o.co,C.o.cc,C.o.ts,C.o.q,C.o.cap,C.o.rM,C.o.σ⟩,dF.o.asB λb hb=>.inl hb⟩⟩
end
section
variable {Fq:Pm} {W1:U} {wb lo:Nat} {va:Ql} {os:JK eH} {k:Nat} {Eq:Pm} {w w':U}
structure aHM(was s n A B:Int):Prop where
 avA:0<=n
 apX:was≠1->n=0
 most:n > 0->n<=A
 kE:0<=B->n<=B
 one:was=1->s=1->n=A∨A<=0/\n=0
 apY:was=1->s=4->n=B/\n<A
 done:was=1->s≠1->s≠4->n > 0
structure aBf(o o':eH)(A B:Int):Prop where
 run:aaT o.p.ts o.p.P.q o.p.aI A B o.p.σ o'.p.σ
 same:o'.co=o.co/\o'.cc=o.cc/\o'.ts=o.ts/\o'.q=o.q/\o'.cap=o.cap/\o'.rM=o.rM
theorem abQ(h:Wd Fq W1 wb lo va os k Eq w)(hA:uC os){o:eH}(ho:os[i]? = O o)(jC:va.ownBlock=O ab)(d:KH)(hdA:d.A<=9223372036854775807)(hL:∀x,aB Fq W1 x->d.L.At x)(hLF:vP Fq d.L.ad (N d.L.xs)) :
  Calls V 13 #[Y (O (aD wb 0)),Y (O (aD ab (i*14))),Qt d.cells] w λe D=>e=Qu (Qq T)/\∃o',BS o'/\aBf o o' d.A d.B/\Wd Fq W1 wb lo va (os.set i o') k Eq D:=by
 obtain⟨w1,dB,bL,S⟩:=abn d w;have af:=h.aj bL;obtain⟨aG,c,f,aY,hc,hf⟩:=af.cells ho;rw[jC]at f;cases f;have hO:=hA.get ho;have hi:=(XF.1 ho).1;have bn:¬o.p.aaA ab:=(h.off ho).2.1 ab jC;have ag:¬o.p.aaA (M (H w)):=λhb=>Qj ((h.off ho).1 _ hb);have fG:ab≠M (H w):=Qj ((Xy h.all jC).2);have aP:=hc 12 _ rfl;have aQ:=hc 11 _ rfl;have c0:Qo w1 (aD ab (i*14))=O (Y (O (aD o.p.P.pb 0))):=hc 0 _ rfl;have r:=S.at 10;have t:=S.at 11;have G:=S.at 12;have ah:Qm (∀x,Wd Fq W1 wb lo va os k Eq x->Calls V 32 #[Y (O (aD o.p.P.pb 0)),I J d.A,I J d.B,d.L.val] x λe D=>∃g:iy,e=Qu (I J g.σ.status)/\g.P=o.p.P/\aaT o.p.ts o.p.P.q o.p.aI d.A d.B o.p.σ g.σ/\Wd Fq W1 wb lo va (os.set i { o with p:=g }) k Eq D/\aB (λb=>¬o.p.aaA b) x D/\∀b,o.p.aaA b->b<M (H x)):=λx hx=>hx.aij ho d.A hdA d.B d.L hL hLF;obtain⟨HI,Ae⟩:=bH hi (h.Au ho).1;have u:Qm (o.status=o.p.σ.status/\o.steps=o.p.σ.picks.length/\o.p.σ.bP.d.aJ<=o.aJ):=⟨hO.status,hO.steps,hO.aJ⟩;have rP:Qm (∀x g,Wd Fq W1 wb lo va (os.set i { o with p:=g }) k Eq x->g.σ.picks.length<=7001):=λx g hx=>by obtain⟨B,hP,_⟩:=hx.pl;have iZ:=hP.each g (hx.Au (i:=i) (o:={ o with p:=g }) Qb).2;exact(iZ.BA.len iZ.wO iZ.cap.1).1
 obtain⟨v0,v1,v2,v3,v4,v5,v6,v7,v8,v9,aH,aK,aL⟩:∃v0 v1 v2 v3 v4 v5 v6 v7 v8 v9 aH aK,d.cells=#[v0,v1,v2,v3,v4,v5,v6,v7,v8,v9,I J d.A,I J d.B,d.L.val,aH,aK]:=⟨_,_,_,_,_,_,_,_,_,_,_,_,rfl⟩;rw[aL]at dB ⊢;have r:Qo w1 (aD (M (H w)) 10)=O (I J d.A):=r;have t:Qo w1 (aD (M (H w)) 11)=O (I J d.B):=t;have G:Qo w1 (aD (M (H w)) 12)=O d.L.val:=G;generalize d.A=A,d.B=B,d.L=L at*;obtain⟨la,lc,lx⟩:=L;simp only[aA.val]at*;have aR:=Zh af;clear h hA bL S af aY hc hf hO aL hL hLF;obtain⟨nb,ak⟩:=eY (M (H w));rw[<-ak]at r t G ag fG;obtain⟨pb,Bv⟩:=eY (o.p.P.pb);rw[<-Bv]at c0 ah;have Lf:=Zh Bv;clear Bv;go_enter func13,ntmps13;go_upto_region 3 with fail;try rw[<-ak]
 clear dB ak;refine wHk w1 (λb=>¬o.p.aaA b) λhS=>?_;refine wK6 0 hS ?_;refine wK4 6 hS ?_;refine wR 10 λK hK=>?_;go_simp;refine Jg (ah.o w1.drew (aR.o.aj ((Za _ _).drew))) ?_;rintro e w3 ⟨g,rfl,W,C,l,aM,-⟩;have Q:=hS.trans aM;have av:=JE Q r ag;have ax:=JE Q t ag
 -- what comes behind
 have z:(os.set i { o with p:=g })[i]? = O { o with p:=g }:=by rw[J8 HI.o]
 obtain⟨m,DF⟩:=eY (g.σ.picks.length:Int);obtain⟨st,nT⟩:=eY (g.σ.status:Int);rw[<-nT];have aS:=W;have aT:=rP.o _ _ l;have aU:(o.p.σ.picks.length:Int)<=g.σ.picks.length:=Qj C.Hu;have ay:Ce 20 #[Y (O (aD pb 0))] w3 (I J m):=by obtain⟨B,hP,_⟩:=l.pl;have:=hP.steps (l.Au z).2;rw[<-DF]at this;change Calls _ _ #[Y (O (aD g.P.pb 0))] _ _ at this;rw[W,<-Lf.o]at this;exact this
 obtain⟨aG,c3,f,-,au,aN⟩:=l.cells z;rw[jC]at f;cases f;have f0:Qo w3 (aD ab (i*14))=O (Y (O (aD pb 0))):=by have:Qo w3 (aD ab (i*14))=O (Y (O (aD g.P.pb 0))):=au 0 _ rfl;rw[W,<-Lf.o]at this;exact this
 have aV:=au 11 _ rfl;have aW:=aN (i*14+11);obtain⟨w4,aa⟩:=eX (Qn w3 (aD ab (i*14+11)) (I J m));have R:=l.set z jC (j:=11) X (o':={ o with p:=g,steps:=m }) (v:=I J m) rfl rfl (by
  have:=l.one _ (List.mem_of_getElem? z);exact⟨this.oO,this.D6,this.same⟩)
 rw[aa,List.set_set]at R;have wG:(os.set i { o with p:=g,steps:=m })[i]? = O { o with p:=g,steps:=m }:=by rw[J8 HI.o]
 have ai:aB (λb=>b≠ab) w3 w4:=by rw[<-aa];exact Xu _ _ _ (λh=>h rfl)
 have az:Qo w4 (aD ab (i*14+11))=O (I J m):=by obtain⟨aG,c4,f,-,aZ,-⟩:=R.cells wG;rw[jC]at f;cases f;exact aZ 11 _ rfl
 have hT:Calls V 31 #[Y (O (aD ab (i*14))),I J st,Qq T] w4 λe D=>e=Qu (Qq T)/\Wd Fq W1 wb lo va (os.set i { o with p:=g,steps:=m,status:=st }) k Eq D/\(Qo D (aD nb 10)=O (I J A)/\Qo D (aD nb 11)=O (I J B))/\Calls V 8 #[Y (O (aD ab (i*14)))] D λe bf=>e=Qu (Qq T)/\bf = D:=by
  refine(R.amX wG jC T st nT DF ?_).mono ?_
  .show o.status≠1/\st=o.status∨o.status=1/\_
   by_cases hs:o.status=1
   .exact .inr ⟨hs,λ_=>rfl⟩
   .refine .inl ⟨hs,?_⟩;have:=C.apX (by rw[<-u.o.1];exact hs);rw[nT,this];exact u.o.1.symm
  .rintro e D ⟨rfl,hW,hk⟩;rw[List.set_set]at hW;refine⟨rfl,hW,⟨JE hk (JE ai av (λe=>fG e.symm)) (λe=>fG e.symm),JE hk (JE ai ax (λe=>fG e.symm)) (λe=>fG e.symm)⟩,hW.stands (i:=i) (o:={ o with p:=g,steps:=m,status:=st }) (by rw[J8 HI.o]) jC DF nT⟩
 have aC:Qm (aBf o { o with p:=g,steps:=m,status:=st } A B):=⟨C,rfl,rfl,rfl,rfl,rfl,rfl⟩;have Lc:Qm (BS { o with p:=g,steps:=m,status:=st }):=⟨DF,nT,ZU C.aJ u.o.2.2⟩;obtain⟨n,hn⟩:=eX (wrap64 (m-o.steps):Int);have ae:n=(g.σ.picks.length:Int)-o.p.σ.picks.length:=by rw[<-hn,DF,u.o.2.1];unfold wrap64;omega
 have KA:Qm (aHM o.status st n A B):=by rw[nT,ae,u.o.1];exact⟨X,λhs=>by rw[C.apX hs];omega,C.most,C.kE,λa b=>(C.one a b).imp id λx=>⟨x.1,X⟩,C.apY,λa b c=>Qj (C.done a b c)⟩
 generalize o.status=was,o.steps=bef at*;clear C l aM W aS aT aU R ai au aN z wG DF nT ae av ax c0 aQ aP r t G ah rP Lf;refine hK.o _ _ Q λhS=>?_;clear hK K Q;refine wX1 11 hS ?_;refine wD ?_;try simp only[pV]
 clear hS;go_wp2_with fail;refine mR ay λbg hw=>?_;rw[hw];clear hw bg ay;go_upto_region 6 with fail;try rw[aa]
 clear aa f0 aV aW az;try rw[hn]
 clear hn;go_wp2_with fail;refine hT.mono ?_;rintro e w5 ⟨rfl,aO,⟨bu,az⟩,hC⟩;have aF:=Zh aO;clear hT aO;go_wp2_with fail;refine mR hC λw6 hw=>?_;rw[hw];clear hw w6 hC;have r0:=KA.o.avA;have t0:¬n<0:=X;by_cases hs:was=1
 .subst hs;have r1:=KA.o.one rfl;have r4:=KA.o.apY rfl;have rd:=KA.o.done rfl;have key:(n > 0/\¬n > A∨¬n > 0)/\(B ≥ 0/\¬n > B∨¬B ≥ 0)/\(st=1/\(n=A∨n≠A/\A<=0/\n=0)∨st=4/\n=B/\n<A∨(st==1)=F/\(st==4)=F/\n > 0):=by
   refine⟨?_,?_,?_⟩
   .by_cases x:n > 0
    .have:=KA.o.most x;omega
    .exact .inr x
   .by_cases x:B ≥ 0
    .have:=KA.o.kE x;omega
    .exact .inr x
   .by_cases x:st=1
    .have:=r1 x;omega
    .by_cases y:st=4
     .exact .inr (.inl ⟨y,r4 y⟩)
     .exact .inr (.inr ⟨by simpa using x,by simpa using y,rd x y⟩)
  clear r1 r4 rd;obtain⟨k1,k2,k3⟩:=key;rcases k1 with⟨a1,a2⟩|a1 <;> rcases k2 with⟨b1,b2⟩|b1 <;> rcases k3 with⟨rfl,(rfl|⟨c1,c2,rfl⟩)⟩|⟨rfl,rfl,c2⟩|⟨c1,c2,c3⟩
  all_goals
   first
   |omega
   |(go_wp2
     go_ret;exact⟨rfl,_,Lc.o,aC.o,aF.o⟩)
 .have bq:(was != 1)=true:=by simpa using hs
  have aX:=KA.o.apX hs;subst aX;have t2:(B ≥ 0/\¬(0:Int) > B)∨¬B ≥ 0:=by omega
  rcases t2 with⟨b1,b2⟩|b1
  all_goals
   go_wp2;go_ret;exact⟨rfl,_,Lc.o,aC.o,aF.o⟩
end
section
variable {Fq:Pm} {W1:U} {wb lo:Nat} {va:Ql} {os:JK eH} {k:Nat} {Eq:Pm} {w w':U}
def aad(c:Int)(n:Nat):Nat:=((if c<0 then -(c+1) else c) % (n:Int)).toNat
def abR(c:Int)(h:0<n):aad c n<n:=by unfold aad;have a:=Int.emod_nonneg (if c<0 then -(c+1) else c) (show (n:Int)≠0 by omega);have b:=Int.emod_lt_of_pos (if c<0 then -(c+1) else c) (show (0:Int)<n by omega);omega
def anK(c:Int)(n:Nat)(hc:-9223372036854775808<=c/\c<=9223372036854775807)(hn:0<n)(LP:n<=1000000)(w:U) :
  Ce 11 #[I J c,I J (n:Int)] w (I J (aad c n:Nat)):=by
 have i:¬(n:Int)=0:=X;have b:=Int.emod_nonneg (if c<0 then -(c+1) else c) (show (n:Int)≠0 by omega);have d:=Int.emod_lt_of_pos (if c<0 then -(c+1) else c) (show (0:Int)<n by omega);have f:Qm ((aad c n:Int)=(if c<0 then -(c+1) else c) % (n:Int)):=by unfold aad;exact Zh X
 have j:=Zh (JM b d);clear b d;go_enter func11,ntmps11;by_cases g:c<0
 .have e:(aad c n:Int) = -(c+1).tmod n:=by rw[f.o,Zd g,<-Int.neg_tmod,Int.tmod_eq_emod_of_nonneg X]
  have a:=Zh e;clear e;go_wp2;go_ret;rw[a.o];exact⟨rfl,rfl⟩
 .have e:(aad c n:Int)=c % n:=by rw[f.o,Zk g]
  have a:=Zh e;clear e;go_wp2;go_ret;rw[a.o];exact⟨rfl,rfl⟩
structure aBg(Fq:Pm)(W1:U)(wb lo:Nat)(va:Ql)(os:JK eH)(k:Nat)(Eq:Pm)(d:KH)(ab:Nat)(R:U->Prop):Prop where
 start:d.kind=1->∀x,Wd Fq W1 wb lo va os k Eq x->Calls V 9 #[Y (O (aD wb 0)),Qt d.cells] x λe w'=>e=Qu (Qq T)/\R w'
 load:d.kind=7->∀x,Wd Fq W1 wb lo va os k Eq x->Calls V 10 #[Y (O (aD wb 0)),Qt d.cells] x λe w'=>e=Qu (Qq T)/\R w'
 step:d.kind=2->0<N os->∀x,Wd Fq W1 wb lo va os k Eq x->Calls V 12 #[Y (O (aD wb 0)),Y (O (aD ab (aad d.K (N os)*14))),Qt d.cells] x λe w'=>e=Qu (Qq T)/\R w'
 run:d.kind=3->0<N os->∀x,Wd Fq W1 wb lo va os k Eq x->Calls V 13 #[Y (O (aD wb 0)),Y (O (aD ab (aad d.K (N os)*14))),Qt d.cells] x λe w'=>e=Qu (Qq T)/\R w'
 stands:d.kind=4->0<N os->∀x,Wd Fq W1 wb lo va os k Eq x->Calls V 8 #[Y (O (aD ab (aad d.K (N os)*14)))] x λe w'=>e=Qu (Qq T)/\R w'
 bP:d.kind=5->0<N os->∀x,Wd Fq W1 wb lo va os k Eq x->Calls V 7 #[Y (O (aD wb 0)),Y (O (aD ab (aad d.K (N os)*14))),Z d.po (N d.pl) d.pc] x λe w'=>e=Qu (Qq T)/\R w'
 aqp:d.kind=6->0<N os->∀x,Wd Fq W1 wb lo va os k Eq x->Calls V 14 #[Y (O (aD wb 0)),Y (O (aD ab (aad d.K (N os)*14)))] x λe w'=>e=Qu (Qq T)/\R w'
 none:N os=0/\d.kind≠1/\d.kind≠7∨d.kind<1∨7<d.kind->∀x,Wd Fq W1 wb lo va os k Eq x->R x
theorem zQ(h:Wd Fq W1 wb lo va os k Eq w)(hl:N os<=1000000)(d:KH)(hK:-9223372036854775808<=d.K/\d.K<=9223372036854775807)(jC:0<N os->va.ownBlock=O ab){R:U->Prop}(hR:aBg Fq W1 wb lo va os k Eq d ab R) :
  Calls V 5 #[Y (O (aD wb 0)),Qt d.cells] w λe w'=>e=Qu (Qq T)/\R w':=by
 obtain⟨A,dB,bL,f⟩:=abn d w;have hW:=h.aj bL;obtain⟨HH,CE,u⟩:=lX hW f hR;have p:=λh0=>anK d.K (N os) hK h0 hl;have rP:=Zh hl;have q:∃a c,Qo A ⟨wb,0,.none⟩=O (Z a (N os) c)/\(0<N os->a=O ⟨ab,0,.none⟩):=by
  obtain⟨_,_,_,_,_,_,_,h1,_⟩:=hW.ex;have h2:Qo A ⟨wb,0,.none⟩=O va:=h1.cell.cell 0;rcases hW.all.2 with⟨e0,h0⟩|⟨g,cap,iw,e,_⟩
  .grind
  .refine⟨O ⟨g,0,.none⟩,cap,by rw[h2,e],λhp=>?_⟩;have:=jC hp;rw[e]at this
   cases this;rfl
 obtain⟨aa,ac,q,B⟩:=q;obtain⟨v2,v3,v4,v5,v6,v7,v8,v9,fO,fP,fQ,S,v⟩:∃v2 v3 v4 v5 v6 v7 v8 v9 fO fP fQ S,d.cells=#[I J d.kind,I J d.K,v2,v3,v4,v5,v6,v7,v8,v9,fO,fP,fQ,S,Z d.po (N d.pl) d.pc]:=⟨_,_,_,_,_,_,_,_,_,_,_,_,rfl⟩;obtain⟨kd,C⟩:=eY (d.kind);rw[<-C]at v;rw[v]at dB f ⊢;obtain⟨y,l⟩:=bH v C;obtain⟨b0,b1,b2,b3,b4,b5,b6,b7,b8,b9,W,ae,af,ag,ah⟩:_/\_/\_/\_/\_/\_/\_/\_/\_/\_/\_/\_/\_/\_/\_:=⟨f.at 0,f.at 1,f.at 2,f.at 3,f.at 4,f.at 5,f.at 6,f.at 7,f.at 8,f.at 9,f.at 10,f.at 11,f.at 12,f.at 13,f.at 14⟩;clear h hW f bL hR hl hK jC v C CE;go_enter func5,ntmps5;by_cases P:kd=1
 .subst P;have b:=u.o.start l.o.symm A HH.o;rw[y.o]at b;go_wp2_with fail;refine mR b λL m=>?_
  have j:=Zh m;clear b m;go_wp2;go_ret;exact⟨rfl,j.o⟩
 by_cases k7:kd=7
 .subst k7;have b:=u.o.load l.o.symm A HH.o;rw[y.o]at b;clear P;go_wp2_with fail;refine mR b λL m=>?_
  have j:=Zh m;clear b m;go_wp2;go_ret;exact⟨rfl,j.o⟩
 by_cases hz:N os=0
 .have j:=Zh (u.o.none (.inl ⟨hz,by rw[<-l.o];exact P,by rw[<-l.o];exact k7⟩) A HH.o);rw[hz]at q;have D:(kd==1)=false:=by simpa using P
  have G:(kd==7)=false:=by simpa using k7
  clear p B hz;go_wp2;go_ret;exact⟨rfl,j.o⟩
 have r:0<N os:=X;have D:(kd==1)=false:=by simpa using P
 have G:(kd==7)=false:=by simpa using k7
 rw[B r]at q;have p:=p r;obtain⟨n,hn⟩:=eY (N os);rw[<-hn]at q p;have zI:=Zh hn;have aT:aad d.K n<n:=abR _ X;obtain⟨i,hi⟩:=eY (aad d.K n);rw[<-hi]at p aT;have t:Qm (i=aad d.K (N os)):=by rw[<-hn];exact hi
 have hz:¬(n:Int)=0:=X;have ai:(0:Int)<=i/\(i:Int)<n:=X;clear B r hn hi P k7;have Q:Qm (0<N os):=by have:=zI.o;exact Zh X
 go_wp2_with fail;refine wH A λb=>?_;refine wA6 0 b ?_;refine IU 6 b ?_;refine kR 10 λK hK=>?_;go_simp;refine hK.o _ _ b λb=>?_;clear hK K;refine kR 11 λK hK=>?_;go_simp;refine mR (p _) λx hx=>?_;rw[hx];clear hx x;refine hK.o _ _ b λb=>?_;clear hK K;refine kR 12 λK hK=>?_;go_simp;refine hK.o _ _ b λb=>?_;clear hK K;refine rR 13 b ?_;refine wD ?_;try simp only[pV]
 obtain⟨c0,c1,c2,c3,c4,c5,c6,c7⟩:=Da b b0 b1 b2 b3 b4 b5 b6 b7;obtain⟨c8,c9,O7,ak,au⟩:=qi b b8 b9 W ae af;obtain⟨LY,Y8⟩:=kP b ag ah;have z:=Zh (HH.o.aj b);generalize A.drew=x1 at c0 c1 c2 c3 c4 c5 c6 c7 c8 c9 O7 ak au LY Y8 z ⊢;clear p aT ai hz q b dB b0 b1 b2 b3 b4 b5 b6 b7 b8 b9 W ae af ag ah;by_cases k2:kd=2
 .subst k2;have b:=u.o.step l.o.symm Q.o _ z.o;rw[<-t.o]at b;rw[y.o]at b;clear D G;go_wp2_with fail;refine mR b λL m=>?_
  have j:=Zh m;clear b m;go_wp2;go_ret;exact⟨rfl,j.o⟩
 have t2:(kd==2)=false:=by simpa using k2
 by_cases k3:kd=3
 .subst k3;have b:=u.o.run l.o.symm Q.o _ z.o;rw[<-t.o]at b;rw[y.o]at b;clear D G;go_wp2_with fail;refine mR b λL m=>?_
  have j:=Zh m;clear b m;go_wp2;go_ret;exact⟨rfl,j.o⟩
 have t3:(kd==3)=false:=by simpa using k3
 by_cases k4:kd=4
 .subst k4;have b:=u.o.stands l.o.symm Q.o _ z.o;rw[<-t.o]at b;clear D G;go_wp2_with fail;refine mR b λL m=>?_
  have j:=Zh m;clear b m;go_wp2;go_ret;exact⟨rfl,j.o⟩
 have t4:(kd==4)=false:=by simpa using k4
 by_cases k5:kd=5
 .subst k5;have b:=u.o.bP l.o.symm Q.o _ z.o;rw[<-t.o]at b;clear D G;go_wp2_with fail;refine mR b λL m=>?_
  have j:=Zh m;clear b m;go_wp2;go_ret;exact⟨rfl,j.o⟩
 have t5:(kd==5)=false:=by simpa using k5
 by_cases k6:kd=6
 .subst k6;have b:=u.o.aqp l.o.symm Q.o _ z.o;rw[<-t.o]at b;clear D G;go_wp2_with fail;refine mR b λL m=>?_
  have j:=Zh m;clear b m;go_wp2;go_ret;exact⟨rfl,j.o⟩
 have t6:(kd==6)=false:=by simpa using k6
 have j:=Zh (u.o.none (.inr (by
  have:=l.o;grind)) _ z.o)
 clear k2 k3 k4 k5 k6;go_wp2;go_ret;exact⟨rfl,j.o⟩
end
section
variable {Fq:Pm} {W1:U} {wb lo:Nat} {va:Ql} {os:JK eH} {k:Nat} {Eq:Pm} {w w':U}
def Wd.upk(h:Wd Fq W1 wb lo va os k Eq w){k':Nat}(hk:k<=k'):Wd Fq W1 wb lo va os k' Eq w:=by obtain⟨n,b,d,e,f,g,ps,i,a,j,l⟩:=h.ex;exact⟨⟨n,b,d,e,f,g,ps,i,⟨ZU a.1 (Nat.mul_le_mul_left _ hk),ZU a.2.1 (Nat.mul_le_mul_left _ hk),ZU a.2.2 (Nat.mul_le_mul_left _ hk)⟩,j,l⟩,h.all,h.fz,h.flt,h.f0,h.lo,h.O8,h.one⟩
def Wd.elt(h:Wd Fq W1 wb lo va os k Eq w):∀b,Eq b->b<M (H w):=λb d=>by obtain⟨n,e,f,g,i,j,ps,l,m,p,a⟩:=h.ex;exact(a.lt b (.inl (.inr d))).2
def anL(hA:uC os)(hl:N os<=1000000)(hk:k<=130000){d:KH}(hd:OpE Fq W1 d)(jC:0<N os->va.ownBlock=O ab) :
  aBg Fq W1 wb lo va os k Eq d ab (OV Fq W1 wb lo (N os+1) (k+1) Eq):=by
 have a:0<N os->∃o,os[aad d.K (N os)]? = O o:=λh=>⟨_,XG (abR d.K h)⟩;refine⟨λ_ x b=>?_,λ_ x b=>?_,λ_ f x b=>?_,λ_ f x b=>?_,λ_ f x b=>?_,λ_ f x b=>?_,λ_ f x b=>?_,λ_ x b=>?_⟩
 .refine(OX b b.elt hA hl hk d hd).mono ?_;rintro e m ⟨rfl,⟨_,h⟩|⟨_,q,o,g,_,h⟩⟩
  .exact⟨rfl,va,os,hA,J9 _,h.upk (J9 _)⟩
  .exact⟨rfl,q,_,hA.push g,Qa,h⟩
 .refine(ajk b hA hl d hd.S).mono ?_;rintro e m ⟨rfl,q,j,l,i,r⟩;exact⟨rfl,q,j,l,i,r.upk (J9 _)⟩
 .obtain⟨o,g⟩:=a f;refine(ai0 b hA g (jC f) d).mono ?_;rintro e m ⟨rfl,o',l,i⟩;exact⟨rfl,va,_,hA.set l,Qf,i.upk (J9 _)⟩
 .obtain⟨o,g⟩:=a f;refine(abQ b hA g (jC f) d hd.A hd.L hd.LF).mono ?_;rintro e m ⟨rfl,o',l,_,i⟩;exact⟨rfl,va,_,hA.set l,Qf,i.upk (J9 _)⟩
 .obtain⟨o,g⟩:=a f;have n:=hA.get g;refine(b.stands g (jC f) n.steps n.status).mono ?_;rintro e m ⟨rfl,rfl⟩;exact⟨rfl,va,os,hA,J9 _,b.upk (J9 _)⟩
 .obtain⟨o,g⟩:=a f;have n:=hA.get g;refine mR (C8 b hA g (jC f) hk d.po d.pc d.pl hd.pl) λm i=>?_
  exact⟨rfl,va,os.set (aad d.K (N os)) { o with aJ:=o.p.σ.bP.d.aJ },hA.set ⟨n.steps,n.status,Zb _⟩,Qf,i⟩
 .obtain⟨o,g⟩:=a f;refine(ajl b hA hl g (jC f)).mono ?_;rintro e m ⟨rfl,q,j,l,i,r⟩;exact⟨rfl,q,j,l,i,r.upk (J9 _)⟩
 .exact⟨va,os,hA,J9 _,b.upk (J9 _)⟩
theorem Wd.holds(h:Wd Fq W1 wb lo va os k Eq w)(hk:k<=150000):Calls V 6 #[Y (O (aD wb 1))] w λe a=>e=Qu (Qq T)/\Wd Fq W1 wb lo va os k Eq a:=by obtain⟨n,d,f,g,i,j,ps,b,l,m,p⟩:=h.ex;refine mR (aeL b X X) λa q=>?_;grind [Wd.aj]
def ae4(h:Wd Fq W1 wb lo va os k Eq w)(hA:uC os)(hl:N os<=1000000)(hk:k<=130000)(d:KH)(hd:OpE Fq W1 d)(hK:-9223372036854775808<=d.K/\d.K<=9223372036854775807) :
  Calls V 5 #[Y (O (aD wb 0)),Qt d.cells] w λe b=>e=Qu (Qq T)/\OV Fq W1 wb lo (N os+1) (k+1) Eq b:=by
 obtain⟨ab,a⟩:∃ab,0<N os->va.ownBlock=O ab:=by
  by_cases f:0<N os
  .obtain⟨ab,c,a,_⟩:=h.cells (XG f)
   simp_all
  simp_all
 exact zQ h hl d hK a (anL hA hl hk hd a)
end
def OY:JK af:=[⟨2,100,100,10,0,0⟩,⟨1,10,10,0,0,0⟩]
def exQ:ae:=⟨⟨Qr,0,[0,1]⟩,Qr,0,[⟨Qr,0,[⟨F,0,1,F,2⟩]⟩,⟨Qr,0,[⟨F,1,0,T,5⟩]⟩],F,⟨Qr,0,[]⟩,⟨Qr,0,[]⟩,⟨Qr,0,[0,2]⟩,⟨Qr,0,[0]⟩⟩
def exP:JK ay:=[fN 1 0 0 0 [],fN 2 0 0 0 [1],fN 1 0 0 1 [],fN 4 1 2 0 [0,1],fN 9 3 0 0 [],fN 10 4 0 0 []]
theorem abS:exQ.check OY=0:=by decide +kernel
def aq7:xX OY exQ exP=true:=by decide +kernel
def aq8:(nG OY exQ exP).map dX.aJ=O 562:=by decide +kernel
def aq9(h:nR OY exQ aI σ):σ.bP.d.aJ<=562:=by obtain⟨v,a,b⟩:=Option.map_eq_some_iff.1 aq8;have:=Ud h aq7 a;omega
def aaT.ends(h:aaT ts q 1000 1000000 (-1) σ τ)(hc:q.check ts=0)(hs:σ.status=1):τ.status=2:=by
 have b:=h.BA.range;have d:=(h.BA.len hc X).1;have f:=h.Hu;have g:τ.status≠1:=λe=>by rcases h.one hs e with x|x <;> omega
 have a:τ.status≠4:=λe=>Qj ((h.apY hs e).1);have i:=(h.BA.plain a).ar1 hc;omega
def anM(h:QS ts q us p):Ag us p=Ag ts q:=by funext ps n σ;unfold Ag;rw[h.iV gK,h.conc]
def Ig.same(h:QS ts q us p)(hr:Ig us p aI σ):Ig ts q aI σ:=
 ⟨λL a=>by rw[<-anM h,<-BQ h];exact hr.run L a,hr.ig⟩
def ara(h:QS OY exQ us p)(hr:nA us p aI σ)(h1:1<=aI)(hs:σ.status=2):σ.bP.d.aJ<=562:=
 aq9 (nA.done (.inl ((hr.plain X).same h)) abS h1 hs)
section
variable {Fq:Pm} {W1:U} {wb lo:Nat} {va:Ql} {os:JK eH} {k:Nat} {Eq:Pm} {w w':U}
def Wd.ae5(h:Wd Fq W1 wb lo va os k Eq w)(hb:Bw w w'):Wd (λb=>Fq b∨M (H w)<=b/\b<M (H w')) w' wb lo va os k Eq w':=by
 obtain⟨n,j,l,m,p,q,ps,r,t,u,i⟩:=h.ex;have e:aB (λ_=>True) w w':=Xl hb;have f:=i.aj hb h.Dl;have a:∀x,aB (λb=>Fq b∨M (H w)<=b/\b<M (H w')) w' x->aB Fq W1 x:=λx d=>(h.fz.trans (e.mono λ_ _ _=>trivial)).trans (d.mono λb _ hb=>.inl hb);refine⟨⟨n,j,l,m,p,q,ps,r.bT e λ_ _=>trivial,t,u,f.each,f.apart,f.off,λb hb=>⟨λg=>?_,(f.lt b hb).2⟩⟩,Xw h.all e λ_ _=>trivial,Xj _ _,λb hb=>?_,.inl h.f0,⟨h.lo.1,ZU h.lo.2 hb.size⟩,λx d=>h.O8 x (a x d),λo v=>?_⟩
 .rcases g with g|g
  .exact(i.lt b hb).1 g
  .have:=(i.lt b hb).2;omega
 .rcases hb with hb|hb
  .exact ZO (h.Dl b hb) e.size
  .exact hb.2
 .have:=h.one o v;exact⟨λx d=>this.oO x (a x d),this.D6,this.same⟩
def Wd.begin(hg:GB w wb 31 #[Z Qr 0 0,I J 0,Z Qr 0 0,Z Qr 0 0,Z Qr 0 0,Z Qr 0 0])(h0:0<wb)(he:∀x,aB (λb=>b<M (H w)/\b≠wb) w x->dS x 0/\Vd x/\Ah x) :
  Wd (λb=>b<M (H w)/\b≠wb) w wb (wb+1) (Z Qr 0 0) [] 0 (λ_=>False) w:=by
 have k:=hg.lt;have g:∀b,¬dD.own (Z Qr 0 0) (Z Qr 0 0) [] b:=by
  rintro b (e|e|⟨x,l,_⟩)
  .cases e
  .cases e
  .cases l
 have f:∀tL tI sz vM,dD tL tI sz vM (wb+1) (Z Qr 0 0) (Z Qr 0 0) [] [] w:=λ_ _ _ _=>⟨XC _ _ _ _,XC _ _ _ _,(λe he=>by cases he),(λe he=>by cases he)⟩;refine⟨⟨0,_,_,_,_,[],[],⟨hg,f _ _ _ _,f _ _ _ _,Nat.lt_succ_self _,λb a=>(g b a).elim,(λe he=>by cases he),(λe he=>by cases he)⟩,⟨ZR _,ZR _,ZR _⟩,⟨(λb a=>by cases a),λb _ m=>m⟩,⟨(λp d=>by cases d),λi j f=>absurd f (Jw _),(λp d=>by cases d),λb a=>?_⟩⟩,XC _ _ _ _,Xj _ _,λb a=>a.1,⟨X,X⟩,⟨Nat.lt_succ_self _,k⟩,he,λo n=>by cases n⟩;rcases a with ((rfl|e|e|e)|e)|⟨p,d,_⟩
 .omega
 .cases e
 .exact(g b e).elim
 .exact(g b e).elim
 .exact e.elim
 .cases d
end
theorem wF4{md:Region.Mode}{ops:Array Oper}{Q:Exit->Act->World->Prop}{S:World->Prop}{fuel:Nat}{l:Array Bool}{a:Act}(L:Bool->Bool->Bool->Bool->Array Bool)(D:JK Nat)(k:Nat)(Jq:Bool->Bool->Bool->Bool->Act->World->Prop)
  (h0:Jq false false false false a w) (hS:∀b d e f a w,Jq b d e f a w->S w)
  (hstep:∀i∈D,∀b d e f a w,Jq b d e f a w->wpOp P ops Q i (λj m=>∃g c2 c3 c4,(L b d e f).setIfInBounds i true=L g c2 c3 c4/\Jq g c2 c3 c4 j m) a w)
  (hstop:∀a w,Jq true true true true a w->wpAnyH P md ops Q S k (L true true true true) a w)
  (hr:∀b d e f:Bool,(b&&d&&e&&f)=false->(Region.ready md ops (L b d e f)).isEmpty=false/\(Region.ready md ops (L b d e f)).all (D.contains ·)=true:=by decide +kernel)
  (hl:l=L false false false false:=by rfl) (hf:(L false false false false).toList.count false=fuel:=by kernel_rfl) (hk:(L true true true true).toList.count false=k:=by kernel_rfl):wpAnyH P md ops Q S fuel l a w:=by
 refine EJ (λl a w=>∃b d e f,l=L b d e f/\Jq b d e f a w) ?_ ?_ fuel l a w (by rw[hl];exact hf) ⟨false,false,false,false,hl,h0⟩
 .grind
 grind
def ae6{p:Tmp}(h:fn.results=#[.tmp u,.cell p ty])(tmps:Array Ql)(P:Program)(w:U) :
  (results fn tmps).run P w=((asAddr (tmps.getD p undef)).run P w).andThen λa b=>((loadVar ty a).run P b).andThen λv d=>.ok (Qv #[tmps.getD u undef,v]) d:=by simp only[results,h];simp_all
def avD{p:Tmp}(h:fn.results=#[.tmp u,.cell p ty]){tmps:Array Ql}{B:Nat}{x:Ql}(hp:tmps.getD p undef=Y (O (aD B 0)))(hu:tmps.getD u undef=x)(hl:(loadVar ty (aD B 0)).run P w=.ok v w) :
  (results fn tmps).run P w=.ok (Qv #[x,v]) w:=by rw[ae6 h,hp,hu];simp[go_sem]at hl ⊢;simp[hl]
def ae7(lo:Nat)(t:TypeId)(n:Nat)(c:Array Ql)(v:Ql)(x:U):Prop:=∃b,v=Z (O (aD b 0)) n n/\GB x b t c/\lo<=b
theorem ae7.aj{lo:Nat}{t:TypeId}{n:Nat}{c:Array Ql}{v:Ql}{x y:U}(h:ae7 lo t n c v x)(hb:Bw x y):ae7 lo t n c v y:=by obtain⟨b,e,h,a⟩:=h;exact⟨b,e,h.bT (Xk (s:=λ_=>True) hb λ_ h _=>h) trivial,a⟩
def GK(h:GB x b t (xs.map (Value.int J)).toArray)(hl:N xs<=1000):aP x (O (aD b 0)) xs:=
 ⟨X,λi a=>⟨b,0,rfl,by rw[ZT,h.cell];simp[a]⟩⟩
def af4{c:aV}(h:GB x b t #[Qq c.not,I J c.op,I J c.left,Qq c.const,I J c.right]):bZ x (O (aD b 0)) [c]:=by
 refine⟨Qa,λi d=>?_⟩;have a:i=0:=by simpa using d
 subst a;exact⟨b,0,rfl,h.cell _,h.cell _,h.cell _,h.cell _,h.cell _⟩
structure avE(co:LM)(q:ae)(x:U):Prop where
 qP:aZ x co OY
 qat:q.At x
 same:il exQ q
def ajt(w:U) :
  Calls V 4 #[] w λe w'=>∃co q,e=Qu (Qv #[Z co 2 2,Qt q.cells])/\(∀x,aB (λb=>M (H w)<=b) w' x->avE co q x)/\Bw w w':=by
 obtain⟨w1,dB,bL,ae⟩:=bI w #[Z Qr 0 0,Z Qr 0 0,Qq F,Z Qr 0 0,Z Qr 0 0,Z Qr 0 0,Z Qr 0 0] 35;obtain⟨w2,av,af,ag⟩:=bI w1 #[I J 2,I J 100,I J 100,I J 10,I J 0,I J 0,I J 1,I J 10,I J 10,I J 0,I J 0,I J 0] 54;obtain⟨w3,ax,P,ah⟩:=bI w2 #[Qq F,I J 0,I J 1,Qq F,I J 2] 56;obtain⟨w4,ay,r,ai⟩:=bI w3 #[Z (O (aD (M (H w2)) 0)) 1 1] 59;obtain⟨w5,zg,l,ak⟩:=bI w4 #[Qq F,I J 1,I J 0,Qq T,I J 5] 56;obtain⟨t,yw,j,Gu⟩:=bI w5 #[Z (O (aD (M (H w4)) 0)) 1 1] 59;go_enter func4,ntmps4;go_upto_region 4 with fail;have k2:∀{a b:U},Bw a b->aB (λ_=>True) a b:=λh=>Xl h;have n:=ae.bT (k2 (aO af (aO P (aO r (aO l j))))) trivial;have e2:=ag.bT (k2 (aO P (aO r (aO l j)))) trivial;have e3:=ah.bT (k2 (aO r (aO l j))) trivial;have e4:=ai.bT (k2 (aO l j)) trivial;have e5:=ak.bT (k2 j) trivial;have HB:=Zh (aO bL (aO af (aO P (aO r (aO l j)))));have c3:Qo t (aD (M (H w3)) 0)=O (Z (O (aD (M (H w2)) 0)) 1 1):=e4.at 0;have c5:Qo t (aD (M (H w5)) 0)=O (Z (O (aD (M (H w4)) 0)) 1 1):=Gu.at 0;have s1:=bL.size;have HN:Qm (M (H w)<M (H w1)/\M (H w1)<M (H w2)/\M (H w2)<M (H w3)/\M (H w3)<M (H w4)/\M (H w4)<M (H w5)/\M (H w5)<M (H t)):=⟨ae.lt,ag.lt,ah.lt,ai.lt,ak.lt,Gu.lt⟩;have n3:M (H w3)≠M (H w):=Qj HN.o;have n5:M (H w5)≠M (H w):=Qj HN.o;have HG:Qm (GB t (M (H w)) _ _/\GB t (M (H w1)) _ _/\GB t (M (H w2)) _ _/\GB t (M (H w4)) _ _):=⟨n,e2,e3,e5⟩;obtain⟨R,f⟩:=eY (M (H w));obtain⟨b1,Q⟩:=eY (M (H w1));obtain⟨b2,v⟩:=eY (M (H w2));obtain⟨b3,y⟩:=eY (M (H w3));obtain⟨b4,A⟩:=eY (M (H w4));obtain⟨b5,C⟩:=eY (M (H w5))
 have HR:=Zh f;rw[<-f,<-Q,<-v,<-A]at HG;rw[<-f,<-Q,<-v,<-y,<-A,<-C]at HN;rw[<-f,<-y]at n3;rw[<-f,<-C]at n5;rw[<-y,<-v]at c3;rw[<-A,<-C]at c5;rw[<-f,<-Q,<-v,<-y,<-A,<-C];clear dB av ax ay zg yw ae ag ah ai ak Gu bL af P r l j n e2 e3 e4 e5 s1 k2 f Q v y A C;generalize Value.agg #[I J 100,I J 10,I J 0,I J 0]=z5;generalize Value.agg #[I J 2,I J 100,I J 100,I J 10,I J 0,I J 0]=z6;generalize Value.agg #[I J 10,I J 0,I J 0,I J 0]=z7;generalize Value.agg #[I J 1,I J 10,I J 10,I J 0,I J 0,I J 0]=z8;generalize Value.agg #[Qq F,I J 0,I J 1,Qq F,I J 2]=z10;generalize Value.agg #[Qq F,I J 1,I J 0,Qq T,I J 5]=z13;generalize Value.agg #[Z (O (aD b2 0)) 1 1]=z12;generalize Value.agg #[Z (O (aD b4 0)) 1 1]=z15;refine wHk t (λb=>b≠R) λm=>?_;refine wK1 0 m ?_;refine wK2 2 m ?_;refine wK1 8 m ?_;have k2:∀{a b:U},Bw a b->aB (λ_=>True) a b:=λh=>Xl h;refine wF4 (λf1 f2 f3 f4=>#[T,f1,T,T,f2,f3,f4,F,T,F]) [1,4,5,6] 2 (λf1 f2 f3 f4 a x=>∃y1 y2 y3 y4,a=⟨#[Z (O (aD b1 0)) 2 2,Y (O (aD R 0)),Z (O (aD b1 0)) 2 2,Y (O (aD b3 0)),Y (O (aD b5 0)),z5,z6,z7,z8,Z (O (aD b1 0)) 2 2,z10,Z (O (aD b2 0)) 1 1,z12,z13,Z (O (aD b4 0)) 1 1,z15,Z (O (aD b1 0)) 2 2,y1,Qt #[Z (O (aD b2 0)) 1 1],Qt #[Z (O (aD b4 0)) 1 1],y2,y3,y4,undef],[]⟩/\Qm (aB (λb=>b≠R) t x/\(GB x R 35 #[Z Qr 0 0,Z Qr 0 0,Qq F,Z Qr 0 0,Z Qr 0 0,Z Qr 0 0,Z Qr 0 0]/\R<M (H x))/\(f1=T->ae7 R 3 2 #[I J 0,I J 1] y1 x)/\(f2=T->ae7 R 59 2 #[Z (O (aD b2 0)) 1 1,Z (O (aD b4 0)) 1 1] y2 x)/\(f3=T->ae7 R 3 2 #[I J 0,I J 2] y3 x)/\(f4=T->ae7 R 3 1 #[I J 0] y4 x))) ⟨undef,undef,undef,undef,Qd,m,⟨HG.o.1.bT (aB.alj (s:=λ_=>True) t) trivial,by have:=HN.o;show R<M (H t);omega⟩,(λh=>by cases h),(λh=>by cases h),(λh=>by cases h),(λh=>by cases h)⟩ (λf1 f2 f3 f4 a x ⟨y1,y2,y3,y4,_,h⟩=>h.o.1) ?_ ?_
 .clear m;intro i D f1 f2 f3 f4 a x;rintro⟨y1,y2,y3,y4,rfl,HJ⟩;simp only[ZB,JP,or_false]at D;rcases D with rfl|rfl|rfl|rfl
  .refine JQ rfl λK G=>?_
   go_simp;obtain⟨h0,⟨f,g⟩,S,W,h3,h4⟩:=HJ.o;have d:=fo x (Qs #[I J 0,I J 1] 3);exact G _ _ ⟨T,f2,f3,f4,rfl,_,y2,y3,y4,rfl,h0.trans ((k2 d).mono λ_ _ _=>trivial),⟨f.bT (k2 d) trivial,ZO g d.size⟩,λ_=>⟨_,rfl,GB.alloc _ _ _,JH g⟩,λh=>(W h).aj d,λh=>(h3 h).aj d,λh=>(h4 h).aj d⟩
  .refine JQ rfl λK G=>?_
   go_simp;obtain⟨h0,⟨f,g⟩,S,W,h3,h4⟩:=HJ.o;have d:=fo x (Qs #[Z (O (aD b2 0)) 1 1,Z (O (aD b4 0)) 1 1] 59);exact G _ _ ⟨f1,T,f3,f4,rfl,y1,_,y3,y4,rfl,h0.trans ((k2 d).mono λ_ _ _=>trivial),⟨f.bT (k2 d) trivial,ZO g d.size⟩,λh=>(S h).aj d,λ_=>⟨_,rfl,GB.alloc _ _ _,JH g⟩,λh=>(h3 h).aj d,λh=>(h4 h).aj d⟩
  .refine JQ rfl λK G=>?_
   go_simp;obtain⟨h0,⟨f,g⟩,S,W,h3,h4⟩:=HJ.o;have d:=fo x (Qs #[I J 0,I J 2] 3);exact G _ _ ⟨f1,f2,T,f4,rfl,y1,y2,_,y4,rfl,h0.trans ((k2 d).mono λ_ _ _=>trivial),⟨f.bT (k2 d) trivial,ZO g d.size⟩,λh=>(S h).aj d,λh=>(W h).aj d,λ_=>⟨_,rfl,GB.alloc _ _ _,JH g⟩,λh=>(h4 h).aj d⟩
  .refine JQ rfl λK G=>?_
   go_simp;obtain⟨h0,⟨f,g⟩,S,W,h3,h4⟩:=HJ.o;have d:=fo x (Qs #[I J 0] 3);exact G _ _ ⟨f1,f2,f3,T,rfl,y1,y2,y3,_,rfl,h0.trans ((k2 d).mono λ_ _ _=>trivial),⟨f.bT (k2 d) trivial,ZO g d.size⟩,λh=>(S h).aj d,λh=>(W h).aj d,λh=>(h3 h).aj d,λ_=>⟨_,rfl,GB.alloc _ _ _,JH g⟩⟩
 .clear m;rintro a x ⟨y1,y2,y3,y4,rfl,HJ⟩;obtain⟨m,⟨f,g⟩,S,W,h3,h4⟩:=HJ.o;obtain⟨B1,rfl,g1,l1⟩:=S rfl;obtain⟨B2,rfl,L,l2⟩:=W rfl;obtain⟨B3,rfl,g3,l3⟩:=h3 rfl;obtain⟨B4,rfl,g4,l4⟩:=h4 rfl;have YU:∀b,b=B1∨b=B2∨b=B3∨b=B4->b≠R:=λb d e=>by
   rcases d with rfl|rfl|rfl|rfl
   .rw[e]at g1;cases g1.tp f
   .rw[e]at L;cases L.tp f
   .rw[e]at g3;cases g3.tp f
   .rw[e]at g4;cases g4.tp f
  have hE:=yM (vs:=[Z (O (aD B1 0)) 2 2,Z (O (aD B2 0)) 2 2,Qq F,Z Qr 0 0,Z Qr 0 0,Z (O (aD B3 0)) 2 2,Z (O (aD B4 0)) 1 1]) (o:=0) f;have au:=lI [Z (O (aD B1 0)) 2 2,Z (O (aD B2 0)) 2 2,Qq F,Z Qr 0 0,Z Qr 0 0,Z (O (aD B3 0)) 2 2,Z (O (aD B4 0)) 1 1] 0 x (B:=R);obtain⟨HE,HP⟩:=bH (JM hE au) (JM YU (JM g1 (JM L (JM g3 (JM g4 (JM l1 (JM l2 (JM l3 l4))))))));have z:=λi=>f.frozen i;obtain⟨p0,p1,p2,p3,p4,p5,p6⟩:_/\_/\_/\_/\_/\_/\_:=⟨f.at 0,f.at 1,f.at 2,f.at 3,f.at 4,f.at 5,f.at 6⟩;clear S W h3 h4 HJ YU g1 L g3 g4 hE au l1 l2 l3 l4;refine wK1 7 m ?_;refine wR 9 λK G=>?_;go_simp;refine G.o _ _ (m.trans HE.o.2) (λm=>?_);clear G K;refine wD ?_;try simp only[pV]
  have hE:=HE.o.1;simp only[I6,Zp,QX,QY]at hE;obtain⟨rT,HZ⟩:=bH (Ty hE) m;clear hE m p0 p1 p2 p3 p4 p5 p6 z;go_wp2;refine Jr (avD (p:=1) (u:=0) rfl rfl rfl rT.o) rfl ?_;refine⟨O (aD b1 0),⟨⟨O (aD B1 0),2,[0,1]⟩,O (aD B2 0),2,[⟨O (aD b2 0),1,[⟨F,0,1,F,2⟩]⟩,⟨O (aD b4 0),1,[⟨F,1,0,T,5⟩]⟩],F,⟨Qr,0,[]⟩,⟨Qr,0,[]⟩,⟨O (aD B3 0),2,[0,2]⟩,⟨O (aD B4 0),1,[0]⟩⟩,rfl,λx' k=>?_,HB.o.trans (HZ.o.aj HB.o.size λb d=>Qj HR.o)⟩;obtain⟨hN,g1,L,g3,g4,l1,l2,l3,l4⟩:=HP.o;rw[HR.o]at l1 l2 l3 l4;obtain⟨_,n,e2,e4⟩:=HG.o;have hn:=HN.o;have hr:=HR.o;have g1:=(g1.bT HE.o.2 (hN _ (.inl rfl))).bT k l1;have L:=(L.bT HE.o.2 (hN _ (.inr (.inl rfl)))).bT k l2;have g3:=(g3.bT HE.o.2 (hN _ (.inr (.inr (.inl rfl))))).bT k l3;have g4:=(g4.bT HE.o.2 (hN _ (.inr (.inr (.inr rfl))))).bT k l4;have n:=(n.bT HZ.o X).bT k X;have e2:=(e2.bT HZ.o X).bT k X;have e4:=(e4.bT HZ.o X).bT k X;refine⟨⟨Qc,λi D=>?_⟩,⟨GK g1 Qa,⟨Qa,λi D=>?_,λi D=>?_⟩,mU _,mU _,GK g3 Qa,GK g4 Qa⟩,⟨rfl,rfl,λi D=>?_,rfl,rfl,rfl,rfl,rfl⟩⟩
  .have aa:i<2:=D;rcases (by omega:i=0∨i=1) with rfl|rfl
   all_goals
    exact⟨b1,0,rfl,n.cell _,n.cell _,n.cell _,n.cell _,n.cell _,n.cell _⟩
  .have aa:i<2:=D;rcases (by omega:i=0∨i=1) with rfl|rfl
   .exact⟨B2,0,rfl,L.cell _⟩
   .exact⟨B2,0,rfl,L.cell _⟩
  .have aa:i<2:=D;rcases (by omega:i=0∨i=1) with rfl|rfl
   .exact af4 e2
   .exact af4 e4
  .have aa:i<2:=D;rcases (by omega:i=0∨i=1) with rfl|rfl <;> rfl
section
variable {Fq:Pm} {W1:U} {wb lo:Nat} {va:Ql} {os:JK eH} {k:Nat} {Eq:Pm} {w w':U}
def opS(co:LM)(q:ae):KH:=⟨1,0,co,2,OY,q,1000,0,⟨Qr,0,[]⟩,[],Qr,0,[]⟩
def opR:KH:=⟨3,0,Qr,0,[],KU,1000000,-1,⟨Qr,0,[]⟩,[],Qr,0,[]⟩
def opB(po:LM)(pl:JK ay):KH:=⟨5,0,Qr,0,[],KU,0,0,⟨Qr,0,[]⟩,[],po,N pl,pl⟩
def Hd1(Fq:Pm)(W1:U)(wb lo:Nat)(Eq:Pm)(w:U):Prop:=∃va o,BS o/\(∃q,il exQ q/\o.ts=OY/\o.q=q)/\o.rM=T/\o.cap=1000/\o.p.σ.status=1/\Wd Fq W1 wb lo va [o] 1 Eq w
def Hd2(Fq:Pm)(W1:U)(wb lo:Nat)(Eq:Pm)(w:U):Prop:=∃va o,BS o/\o.p.σ.status=2/\o.p.σ.bP.d.aJ<=562/\Wd Fq W1 wb lo va [o] 1 Eq w
def Hd3(Fq:Pm)(W1:U)(wb lo:Nat)(Eq:Pm)(w:U):Prop:=∃va o,BS o/\o.status=2/\o.aJ<=562/\Wd Fq W1 wb lo va [o] 2 Eq w
theorem aBj(h:Wd Fq W1 wb lo va [] 0 Eq w){co:LM}(hx:∀x,aB Fq W1 x->avE co q x) :
  Calls V 5 #[Y (O (aD wb 0)),Qt (opS co q).cells] w λe g=>e=Qu (Qq T)/\Hd1 Fq W1 wb lo Eq g:=by
 have b:=(hx w h.fz).same;have l:uC []:=λo f=>by cases f
 have m:N q.wh=2:=b.len;have hd:OpE Fq W1 (opS co q):=by refine⟨λx j=>⟨(hx x j).qP,(hx x j).qat⟩,?_,λx _=>mU x,(λ_ a e=>by cases e),λx _=>⟨ZR _,λi k=>absurd k (Jw _)⟩,ZR _,by simp[opS]⟩;show N q.au.xs<=2000000/\N q.aC.xs<=2000000/\N q.aM.xs<=2000000/\N q.bA.xs<=2000000/\N q.ord.xs<=2000000/\N q.wh<=2000000/\N OY<=2000000/\∀i,i<N q.wh->(E q.wh i lz).cs.length<=2000000;rw[b.au,b.aC,b.aM,b.bA,b.ord,m];refine⟨Qc,Qc,Qc,Qc,Qc,Qc,Qc,λi k=>?_⟩;rw[b.cs i X];rcases (by omega:i=0∨i=1) with rfl|rfl <;> decide
 have n:dA OY q 1000=0:=by grind [dA,il.check,abS]
 refine zQ h (ZR _) _ (by simp[opS]) (ab:=0) (λe=>absurd e (Jw _)) ⟨λ_ x hx=>?_,λe=>absurd e (by simp[opS]),λe=>absurd e (by simp[opS]),λe=>absurd e (by simp[opS]),λe=>absurd e (by simp[opS]),λe=>absurd e (by simp[opS]),λe=>absurd e (by simp[opS]),λe=>?_⟩
 .refine(OX hx hx.elt l (ZR _) (ZR _) _ hd).mono ?_;rintro e g ⟨rfl,⟨p,_⟩|⟨_,r,o,f,d,h⟩⟩
  .exact absurd n p
  .exact⟨rfl,r,o,f,⟨q,b,d.ts,d.q⟩,d.rM,d.cap,by rw[d.σ];rfl,h⟩
 .rcases e with⟨_,e,_⟩|e|e
  .exact absurd rfl e
  .exact absurd e (by simp[opS])
  .exact absurd e (by simp[opS])
def aBk(h:Hd1 Fq W1 wb lo Eq w) :
  Calls V 5 #[Y (O (aD wb 0)),Qt opR.cells] w λe r=>e=Qu (Qq T)/\Hd2 Fq W1 wb lo Eq r:=by
 obtain⟨z,o,S,⟨q,g,A,C⟩,j,D,G,h⟩:=h;obtain⟨ab,c,m,_⟩:=h.cells (i:=0) (o:=o) rfl;have u:uC [o]:=λx t=>by simp_all
 obtain⟨n,W,K⟩:=(h.one o (XH.2 rfl)).same j;rw[A,C]at n;have v:o.p.aI=1000:=by rw[D]at K;omega
 have d:QS OY exQ o.p.ts o.p.P.q:=by
  have f:=n;refine⟨g.trans f.1,?_,?_⟩
  .have:=f.bU;rw[g.au]at this;exact this
  .have:=f.rows;rw[g.au]at this;exact this
 refine zQ h Qa _ Qc (λ_=>m) ⟨λe=>absurd e Qc,λe=>absurd e Qc,λe=>absurd e Qc,λ_ _ x t=>?_,λe=>absurd e Qc,λe=>absurd e Qc,λe=>absurd e Qc,λe=>?_⟩
 .refine(abQ t u (i:=0) (o:=o) rfl m opR Qc (λx _=>mU x) (λ_ a e=>by cases e)).mono ?_;rintro e r ⟨rfl,o',k,L,Q⟩;have b:aaT o.p.ts o.p.P.q o.p.aI 1000000 (-1) o.p.σ o'.p.σ:=L.run;obtain⟨B,R,_⟩:=h.pl;have y:=R.each o.p (Xc.2 ⟨o,XH.2 rfl,rfl⟩);have l:o'.p.σ.status=2:=by rw[v]at b;exact b.ends y.wO G
  exact⟨rfl,z,o',k,l,ara d b.BA X l,Q⟩
 .rcases e with⟨e,_⟩|e|e
  .cases e
  .exact absurd e Qc
  .exact absurd e Qc
def aBl(h:Hd2 Fq W1 wb lo Eq w){po:LM}{pl:JK ay}(hx:∀x,aB Fq W1 x->fH x po pl) :
  Calls V 5 #[Y (O (aD wb 0)),Qt (opB po pl).cells] w λe f=>e=Qu (Qq T)/\Hd3 Fq W1 wb lo Eq f:=by
 obtain⟨j,o,a,k,l,h⟩:=h;obtain⟨ab,c,b,_⟩:=h.cells (i:=0) (o:=o) rfl;have g:uC [o]:=λx hx=>by simp_all
 refine zQ h Qa _ (by simp[opB]) (λ_=>b) ⟨λe=>absurd e (by simp[opB]),λe=>absurd e (by simp[opB]),λe=>absurd e (by simp[opB]),λe=>absurd e (by simp[opB]),λe=>absurd e (by simp[opB]),λ_ _ x m=>?_,λe=>absurd e (by simp[opB]),λe=>?_⟩
 .refine mR (C8 m g (i:=0) (o:=o) rfl b Qc po (N pl) pl hx) λf n=>?_
  exact⟨rfl,j,{ o with aJ:=o.p.σ.bP.d.aJ },⟨a.steps,a.status,Zb _⟩,a.status.trans k,l,n⟩
 .rcases e with⟨e,_⟩|e|e
  .cases e
  .exact absurd e (by simp[opB])
  .exact absurd e (by simp[opB])
def anO(p1 p2:Nat):JK ay:=[⟨1,0,0,0,⟨Qr,0,[]⟩,0,⟨Qr,0,[]⟩⟩,⟨2,0,0,0,⟨O (aD p1 0),1,[1]⟩,0,⟨Qr,0,[]⟩⟩,⟨1,0,0,1,⟨Qr,0,[]⟩,0,⟨Qr,0,[]⟩⟩,⟨4,1,2,0,⟨O (aD p2 0),1,[0]⟩,0,⟨Qr,0,[]⟩⟩,⟨9,3,0,0,⟨Qr,0,[]⟩,0,⟨Qr,0,[]⟩⟩,⟨10,4,0,0,⟨Qr,0,[]⟩,0,⟨Qr,0,[]⟩⟩]
def asG(p1 p2:Nat):Array Value:=#[I J 1,I J 0,I J 0,I J 0,Z Qr 0 0,I J 0,Z Qr 0 0,I J 2,I J 0,I J 0,I J 0,Z (O (aD p1 0)) 1 1,I J 0,Z Qr 0 0,I J 1,I J 0,I J 0,I J 1,Z Qr 0 0,I J 0,Z Qr 0 0,I J 4,I J 1,I J 2,I J 0,Z (O (aD p2 0)) 1 1,I J 0,Z Qr 0 0,I J 9,I J 3,I J 0,I J 0,Z Qr 0 0,I J 0,Z Qr 0 0,I J 10,I J 4,I J 0,I J 0,Z Qr 0 0,I J 0,Z Qr 0 0]
def arb{p1 p2:Nat}{t1 t2:TypeId}(h:GB x b t (asG p1 p2))(h1:GB x p1 t1 #[I J 1])(h2:GB x p2 t2 #[I J 0]):fH x (O (aD b 0)) (anO p1 p2):=by
 have a:aP x (O (aD p1 0)) [1]:=GK h1 Qa;have i2:aP x (O (aD p2 0)) [0]:=GK h2 Qa;refine⟨by simp[anO],λi e=>?_⟩;have d:i<6:=e;rcases (by omega:i=0∨i=1∨i=2∨i=3∨i=4∨i=5) with rfl|rfl|rfl|rfl|rfl|rfl
 .exact⟨b,0,rfl,h.cell _,h.cell _,h.cell _,h.cell _,h.cell _,h.cell _,h.cell _,mU x,mU x⟩
 .exact⟨b,0,rfl,h.cell _,h.cell _,h.cell _,h.cell _,h.cell _,h.cell _,h.cell _,a,mU x⟩
 .exact⟨b,0,rfl,h.cell _,h.cell _,h.cell _,h.cell _,h.cell _,h.cell _,h.cell _,mU x,mU x⟩
 .exact⟨b,0,rfl,h.cell _,h.cell _,h.cell _,h.cell _,h.cell _,h.cell _,h.cell _,i2,mU x⟩
 .exact⟨b,0,rfl,h.cell _,h.cell _,h.cell _,h.cell _,h.cell _,h.cell _,h.cell _,mU x,mU x⟩
 .exact⟨b,0,rfl,h.cell _,h.cell _,h.cell _,h.cell _,h.cell _,h.cell _,h.cell _,mU x,mU x⟩
def Hd2.ae5(h:Hd2 Fq W1 wb lo Eq w)(hb:Bw w w'):Hd2 (λb=>Fq b∨M (H w)<=b/\b<M (H w')) w' wb lo Eq w':=by obtain⟨a,o,d,e,f,g⟩:=h;exact⟨a,o,d,e,f,g.ae5 hb⟩
end
def aBm(w:U)(sa:LM)(ds:JK KH):Prop:=∀i d,ds[i]? = O d->∃b off,sa=O (aD b off)/\b<M (H w)/\∀j v,d.cells.toList[j]? = O v->Qo w (aD b (off+i*15+j))=O v
def Wd.asH{os:JK eH}(h:Wd Fq W1 wb lo va os k Eq w):Qo w (aD wb 0)=O va:=by obtain⟨_,_,_,_,_,_,_,a,_⟩:=h.ex;exact a.cell.cell 0
theorem Wd.slice{os:JK eH}(h:Wd Fq W1 wb lo va os k Eq w):∃a b,va=Z a (N os) b/\(0<N os->∃ab,a=O (aD ab 0)/\va.ownBlock=O ab):=by
 rcases h.all.2 with⟨e0,h0⟩|⟨g,cap,iw,e,_⟩
 .simp_all
 grind [Value.ownBlock]
theorem VU(sa:LM)(sc:Nat)(ds:JK KH)(w:U)(h0:0<M (H w))(EW:aBm w sa ds)(dY:N ds<=61680)
  (hop:∀Fq x,(∀b,b<M (H w)->Fq b)->aB (λb=>b<M (H w)) w x->∀d∈ds,OpE Fq x d/\-9223372036854775808<=d.K/\d.K<=9223372036854775807)
  (aqo:∀x,aB (λb=>b<M (H w)) w x->dS x 0/\Vd x/\Ah x) :
  Cb 3 #[Z sa (N ds) sc] w (Qq T):=by
 obtain⟨w1,dB,bL,ai⟩:=bI w #[Z Qr 0 0,I J 0,Z Qr 0 0,Z Qr 0 0,Z Qr 0 0,Z Qr 0 0] 31;have hQ:=ajt w1;go_enter func3,ntmps3;go_wp2_with fail;refine hQ.mono ?_;rintro e w2 ⟨co,q,rfl,hE,aK⟩;obtain⟨a0,n0,c0,a1,n1,c1,g,a3,n3,c3,a4,n4,c4,a5,n5,c5,a6,n6,c6,Di⟩:∃a0 n0 c0 a1 n1 c1 g a3 n3 c3 a4 n4 c4 a5 n5 c5 a6 n6 c6,q.cells=#[Z a0 n0 c0,Z a1 n1 c1,Qq g,Z a3 n3 c3,Z a4 n4 c4,Z a5 n5 c5,Z a6 n6 c6]:=⟨_,_,_,_,_,_,_,_,_,_,_,_,_,_,_,_,_,_,_,rfl⟩;obtain⟨y,bC,G,m⟩:=bI w2 #[Z a0 n0 c0,Z a1 n1 c1,Qq g,Z a3 n3 c3,Z a4 n4 c4,Z a5 n5 c5,Z a6 n6 c6] 35;rw[Di];have aS:=Zh Di;clear Di hQ;go_upto_region 3 with fail;have D:aB (λ_=>True) w1 y:=Xl (aO aK G);have ay:aB (λb=>b<M (H w)) w y:=(Xk bL λ_ h _=>h).trans (D.mono λ_ _ _=>trivial);have tq:=ai.lt;have aU:=D.size;have z:∀x,aB (λb=>b<M (H y)/\b≠M (H w)) y x->aB (λb=>b<M (H w)) w x:=λx t=>ay.trans (t.mono λb _ hb=>⟨X,X⟩);have hW:=Wd.begin (ai.bT D trivial) h0 λx t=>aqo x (z x t);have az:∀x,aB (λb=>b<M (H y)/\b≠M (H w)) y x->avE co q x:=λx t=>hE x ((Xk (s:=λb=>M (H w1)<=b) G λ_ h _=>h).dL t λb hb bL=>⟨ZO hb G.size,X⟩);have n:=aBj hW az;obtain⟨aL,aM,aN,rP⟩:=De z hop EW dY;have Yj:Qm (M (H w)<M (H y)):=Zh X;have hD:(opS co q).cells=#[I J 1,I J 0,Z co 2 2,Z a0 n0 c0,Z a1 n1 c1,Qq g,Z a3 n3 c3,Z a4 n4 c4,Z a5 n5 c5,Z a6 n6 c6,I J 1000,I J 0,Z Qr 0 0,.string ⟨#[]⟩,Z Qr 0 0]:=by have e:(opS co q).cells=(#[I J 1,I J 0,Z co 2 2]++q.cells ++ #[I J 1000,I J 0,Z Qr 0 0,.string ⟨#[]⟩,Z Qr 0 0]:Array Ql):=rfl;rw[e,aS.o];rfl
 rw[hD]at n;obtain⟨d0,d1,d2,d3,d4,d5,d6⟩:_/\_/\_/\_/\_/\_/\_:=⟨m.at 0,m.at 1,m.at 2,m.at 3,m.at 4,m.at 5,m.at 6⟩;obtain⟨wb,L⟩:=eY (M (H w));rw[<-L]at n;rw[<-L];generalize M (H w2)=qb at d0 d1 d2 d3 d4 d5 d6 ⊢;have aA:=Zh L;clear dB bC bL aK G ai m D ay tq aU z hW az hE hD h0 EW dY hop aqo L;go_wp2_with fail;refine mR n λw4 h4=>?_;have n:=aBk h4;clear h4 d0 d1 d2 d3 d4 d5 d6;go_wp2_with fail;refine mR n λP h5=>?_;clear n;obtain⟨w6,yw,aP,Gu⟩:=bI P #[I J 1] 3;obtain⟨w7,bD,uz,ak⟩:=bI w6 #[I J 0] 3;obtain⟨l,bE,EZ,Dk⟩:=bI w7 #[I J 1,I J 0,I J 0,I J 0,Z Qr 0 0,I J 0,Z Qr 0 0,I J 2,I J 0,I J 0,I J 0,Z (O (aD (M (H P)) 0)) 1 1,I J 0,Z Qr 0 0,I J 1,I J 0,I J 0,I J 1,Z Qr 0 0,I J 0,Z Qr 0 0,I J 4,I J 1,I J 2,I J 0,Z (O (aD (M (H w6)) 0)) 1 1,I J 0,Z Qr 0 0,I J 9,I J 3,I J 0,I J 0,Z Qr 0 0,I J 0,Z Qr 0 0,I J 10,I J 4,I J 0,I J 0,Z Qr 0 0,I J 0,Z Qr 0 0] 43;have aC:GB l (M (H w7)) 43 (asG (M (H P)) (M (H w6))):=Dk;have ae:=Zh (aO aP (aO uz EZ));have aV:=Gu.lt;have aW:=ak.lt;have aX:=Dk.lt;have af:aB (λ_=>True) w6 l:=Xl (aO uz EZ);have ag:aB (λ_=>True) w7 l:=Xl EZ;have e6:=Gu.bT af trivial;have e7:=ak.bT ag trivial;have s6:=af.size;have s7:=ag.size;have h8:=h5.ae5 ae.o;have AY:=λx (t:aB (λb=>(b<M (H y)/\b≠wb)∨M (H P)<=b/\b<M (H l)) l x)=>arb (aC.bT t (.inr ⟨X,X⟩)) (e6.bT t (.inr ⟨X,X⟩)) (e7.bT t (.inr ⟨X,X⟩));have n:=aBl h8 AY;have hD:(opB (O (aD (M (H w7)) 0)) (anO (M (H P)) (M (H w6)))).cells=#[I J 5,I J 0,Z Qr 0 0,Z Qr 0 0,Z Qr 0 0,Qq F,Z Qr 0 0,Z Qr 0 0,Z Qr 0 0,Z Qr 0 0,I J 0,I J 0,Z Qr 0 0,.string ⟨#[]⟩,Z (O (aD (M (H w7)) 0)) 6 6]:=rfl;rw[hD]at n;obtain⟨bK,_,_,_,_,aQ⟩:=h5;have ah:Qm (∀x,aB (λb=>(b<M (H y)/\b≠wb)∨M (H P)<=b/\b<M (H l)) l x->aB (λb=>b<M (H w)) w x):=λx t=>aL.o x (by
  rw[<-aA.o];exact(aQ.fz.trans (Xk ae.o λb hb _=>hb)).trans (t.mono λb _ hb=>.inl hb))
 clear aP uz EZ Gu ak Dk aC aV aW aX af ag e6 e7 s6 s7 h8 AY aQ hD;go_upto_region 8 with fail;clear yw bD bE;go_wp2_with fail;refine n.mono ?_;rintro e w9 ⟨rfl,va,o,hS,nT,EU,h9⟩;obtain⟨ab,ac,jC,u,iX,bF⟩:=h9.cells (i:=0) (o:=o) rfl;have aY:Qo w9 (aD ab 12)=O (I J 2):=by rw[<-nT];exact iX 12 _ rfl
 have LY:Qo w9 (aD ab 13)=O (I Qp (o.aJ:Int)):=iX 13 _ rfl;have aZ:Qo w9 (aD wb 0)=O (Z (O (aD ab 0)) 1 ac):=by obtain⟨_,_,_,_,_,_,_,h1,_⟩:=h9.ex;have h2:Qo w9 (aD wb 0)=O va:=h1.cell.cell 0;rw[h2,u];rfl
 have bf:¬(o.aJ:Int) > 562:=X;have H9:Qm (OV (λb=>(b<M (H y)/\b≠wb)∨M (H P)<=b/\b<M (H l)) l wb (wb+1) 1 2 (λ_=>False) w9):=⟨va,[o],λx t=>by rw[XH]at t;rw[t];exact hS,Zb _,h9⟩;clear n h9 iX bF u jC hS nT EU;generalize (o.aJ:Int)=oc at*;go_upto_region 11 with fail;have bg:Qm (∀d∈ds,OpE (λb=>(b<M (H y)/\b≠wb)∨M (H P)<=b/\b<M (H l)) l d/\-9223372036854775808<=d.K/\d.K<=9223372036854775807):=aM.o _ l (λb hb=>.inl (Qk Yj.o aA.o)) (ah.o l (Xj _ _));generalize bJ:(λb=>(b<M (H y)/\b≠wb)∨M (H P)<=b/\b<M (H l))=F8 at*;have hz:N ds<=61680:=rP.o;clear bJ aY LY aZ bf aM aL ae Yj;go_wp2_with fail;go_loopw [6,9,10] (λ_ iv _ Xq=>∃i:Nat,i<=N ds/\iv=I J i/\Qm (OV F8 l wb (wb+1) (1+i) (2+i) (λ_=>False) Xq)) (λ_ iv _ _=>N ds-(intOf iv).toNat)
 case atStart=>grind
 case round=>
  obtain⟨i,hi,rfl,S⟩:=hrel;by_cases aT:i<N ds
  .obtain⟨d,hd⟩:∃d,ds[i]? = O d:=⟨_,XG aT⟩
   obtain⟨b,off,rfl,YU,hc⟩:=aN.o i d hd;obtain⟨va,os,W,A,f⟩:=S.o;obtain⟨nC,hK⟩:=bg.o d (List.mem_of_getElem? hd);have hP:=ae4 f W X X d nC hK;have aF:=ah.o _ f.fz;obtain⟨v0,v1,v2,v3,v4,v5,v6,v7,v8,v9,fO,fP,fQ,au,av,aR⟩:∃v0 v1 v2 v3 v4 v5 v6 v7 v8 v9 fO fP fQ au av,d.cells=#[v0,v1,v2,v3,v4,v5,v6,v7,v8,v9,fO,fP,fQ,au,av]:=⟨_,_,_,_,_,_,_,_,_,_,_,_,_,_,_,rfl⟩;rw[aR]at hc hP;have a:∀j v,[v0,v1,v2,v3,v4,v5,v6,v7,v8,v9,fO,fP,fQ,au,av][j]? = O v->Qo wr (aD b (off+i*15+j))=O v:=λj v hj=>JE aF (hc j v hj) YU;have x0:Qo wr (aD b (off+i*15))=O v0:=a 0 _ rfl;have x1:=a 1 _ rfl;have x2:=a 2 _ rfl;have x3:=a 3 _ rfl;have x4:=a 4 _ rfl;have x5:=a 5 _ rfl;have x6:=a 6 _ rfl;have x7:=a 7 _ rfl;have x8:=a 8 _ rfl;have x9:=a 9 _ rfl;have bn:=a 10 _ rfl;have bq:=a 11 _ rfl;have bu:=a 12 _ rfl;have bz:=a 13 _ rfl;have bA:=a 14 _ rfl;have HL:Qm (N os+1<=1+(i+1)):=Zh X;clear aR hc a aF nC hK W A f YU hd S;go_wp2_with fail;refine hP.mono ?_;rintro e wx ⟨rfl,yx,k,W,A,f⟩;have n:=f.holds X;have HQ:Qm (uC k/\N k<=1+(i+1)):=⟨W,Qj HL.o⟩;clear hP x0 x1 x2 x3 x4 x5 x6 x7 x8 x9 bn bq bu bz bA W A f;go_wp2_with fail;refine mR n λwy f=>?_;have HZ:Qm (OV F8 l wb (wb+1) (1+(i+1)) (2+(i+1)) (λ_=>False) wy):=⟨yx,k,HQ.o.1,HQ.o.2,f⟩;clear n f;refine gQ ?_;exact⟨i+1,X,Qe,HZ⟩
  .obtain rfl:i=N ds:=X
   obtain⟨va,os,W,A,f⟩:=S.o;obtain⟨aa,ac,u,ax⟩:=f.slice;obtain⟨Nq,hN⟩:=eY (N os);rw[<-hN]at u ax A;have H0:Qm (∃k,N k=Nq/\uC k/\Wd F8 l wb (wb+1) va k (2+N ds+0) (λ_=>False) wr):=⟨os,hN.symm,W,f⟩;obtain⟨CZ,bG⟩:=bH u ax;clear W f u ax hN S aT hi aN;go_wp2_with fail;go_loopw [6,11,12] (λ_ iv _ Xq=>∃i:Nat,i<=Nq/\iv=I J i/\Qm (∃k,N k=Nq/\uC k/\Wd F8 l wb (wb+1) va k (2+N ds+i) (λ_=>False) Xq)) (λ_ iv _ _=>Nq-(intOf iv).toNat)
   case atStart=>exact⟨0,ZR _,rfl,H0⟩
   case round=>
    obtain⟨i,hi,rfl,S⟩:=hrel;obtain⟨r,F9,B,C⟩:=S.o;have cw:=C.asH;rw[CZ.o]at cw;by_cases aT:i<Nq
    .obtain⟨ab,rfl,jC⟩:=bG.o X;obtain⟨o,ho⟩:∃o,r[i]? = O o:=⟨_,XG X⟩
     have hB:=C8 C B ho jC X Qr 0 [] λx _=>⟨ZR _,λi hi=>absurd hi (Jw _)⟩;have hO:=B.get ho;have R:Qm (N r=Nq/\uC r/\r[i]? = O o/\BS o):=⟨F9,B,ho,hO⟩;have bB:=Zh jC;clear F9 B C S jC ho hO;go_wp2_with fail;refine mR hB λwx Q=>?_;have cx:=Q.asH;rw[CZ.o]at cx;have aG:i<N r:=Qj R.o.1;have aH:(r.set i { o with aJ:=o.p.σ.bP.d.aJ })[i]? = O { o with aJ:=o.p.σ.bP.d.aJ }:=J8 aG;have aI:=Q.stands aH bB.o R.o.2.2.2.steps R.o.2.2.2.status;have HW:=Zh Q;clear hB Q aH cw aG;go_wp2_with fail;refine aI.mono ?_;rintro e wy ⟨rfl,rfl⟩;have HZ:Qm (∃k,N k=Nq/\uC k/\Wd F8 l wb (wb+1) va k (2+N ds+(i+1)) (λ_=>False) wy):=⟨r.set i { o with aJ:=o.p.σ.bP.d.aJ },(JB ..).trans R.o.1,R.o.2.1.set ⟨R.o.2.2.2.steps,R.o.2.2.2.status,Zb _⟩,HW.o⟩;clear aI cx R HW;refine gQ ?_;exact⟨i+1,X,Qe,HZ⟩
    .obtain rfl:i=Nq:=X
     have n:=C.holds X;clear F9 B C S;go_wp2_with fail;refine mR n λwy f=>?_;have HZ:=Zh ((ah.o _ f.fz).aj (Zb _) λ_ h=>h);clear n f cw;go_wp2;go_ret;exact⟨rfl,HZ.o⟩
