import Derived.Test.YtkfenjgalicikaaGreatDoorS01
set_option linter.all false
set_option maxRecDepth 100000
set_option maxHeartbeats 0
namespace Go.Proofs.Zz
open Go.RowKit Go.Shelf Go.Proofs.Tryz
open List renaming length->N,getD->E
open Go.Proofs.Tryz renaming prog->V
open Option renaming some->O,none->Qr
open Bool renaming false->F,true->T
open Go renaming World->U
open Go.World renaming heap->H
open _root_.Array renaming size->M
variable {a b fuel i n s:Nat} {ts:JK af} {q:ae} {conc:JK Nat} {cl:IC} {k:Int} {P:Program} {Q:Exit->Act->U->Prop} {w:U} {ops:Array Oper} {l:Array Bool} {K:Act->U->Prop} {md:Region.Mode} {S:U->Prop}
def iR(ts:JK af)(q:ae)(xs:IC):IC:=xs.map λc=>(aU ts q.au.xs c:Int)
def di(cs:JK aV):Int × Int × Bool:=
 if N cs > 1∨(E cs 0 cz).op≠0∨(E cs 0 cz).not=T∨(E cs 0 cz).const=T then (0,0,F) else ((E cs 0 cz).left,(E cs 0 cz).right,T)
structure bF where
 d:dG
 ns:JK ay
def uT:bF:=⟨pz,[]⟩
def fA(n:ay):ay:=⟨n.kind,n.l,n.r,n.source,⟨Qr,0,n.cl.xs⟩,n.key,⟨Qr,0,n.co.xs⟩⟩
def dO(k:Nat)(n:ay):ay:=⟨n.kind,if 1<=bg n.kind then wrap64 (n.l+k) else n.l,if 2<=bg n.kind then wrap64 (n.r+k) else n.r,n.source,n.cl,n.key,n.co⟩
def jF(ls:JK (JK ay)):JK ay:=ls.foldl (λacc l=>acc++l.map (dO (N acc))) []
def xh(ls:JK (JK ay))(i:Nat):Int:=if i<N ls then (N (jF (ls.take (i+1))):Int)-1 else 0
def sI(n:ay)(ls:JK (JK ay)):JK ay:=
 jF ls++[⟨n.kind,xh ls 0,xh ls 1,n.source,⟨Qr,0,n.cl.xs⟩,n.key,⟨Qr,0,n.co.xs⟩⟩]
def aS(ts:JK af)(q:ae)(n:ay)(bs:JK bF):bF:=
 ⟨eP ts q n (E bs 0 uT).d (E bs 1 uT).d,sI n (bs.map bF.ns)⟩
def eU(kind:Int):ay:=⟨kind,0,0,0,⟨Qr,0,[]⟩,0,⟨Qr,0,[]⟩⟩
def lh(s:Int):ay:=⟨1,0,0,s,⟨Qr,0,[]⟩,0,⟨Qr,0,[]⟩⟩
def Dx(cl:IC):ay:=⟨2,0,0,0,⟨Qr,0,cl⟩,0,⟨Qr,0,[]⟩⟩
def Sa(co:IC):ay:=⟨6,0,0,0,⟨Qr,0,[]⟩,0,⟨Qr,0,co⟩⟩
def fq(kind:Int)(cl:IC)(key:Int):ay:=⟨kind,0,0,0,⟨Qr,0,cl⟩,key,⟨Qr,0,[]⟩⟩
def dZ(s:Nat):IC:=(bS s).map λ(n:Nat)=>(n:Int)
def dz(ts:JK af)(q:ae)(t:bF)(c:Nat):bF:=if c=0 then t else aS ts q (Dx (dZ c)) [t]
def bW(ts:JK af)(q:ae)(t:bF)(o:IC):bF:=aS ts q (Sa o) [t]
def jO(conc:JK Nat)(s:Nat):Nat->Nat
 |0=>0
 |k+1=>if bV s (E conc k 0)=T then jO conc s k|||2 ^ k else jO conc s k
def bJ(conc:JK Nat)(s:Nat):Nat:=jO conc s (N conc)
def bX(conc:JK Nat)(a b:Nat):Nat:=bJ conc (a|||b) &&& (18446744073709551615-(bJ conc a|||bJ conc b))
def dE(ts:JK af)(q:ae)(conc:JK Nat)(s:Int):bF:=
 let t:=aS ts q (lh s) []
 dz ts q t (bJ conc t.d.ah)
def dN(ts:JK af)(q:ae):Nat->bF
 |0=>aS ts q (lh 0) []
 |k+1=>aS ts q (eU 3) [dN ts q k,aS ts q (lh ((k+1:Nat):Int)) []]
def kI(ts:JK af)(q:ae):bF:=
 let e:=aS ts q (eU (if q.aF=T then 7 else 9)) [dz ts q (dN ts q (N q.au.xs-1)) (2 ^ (N q.wh)-1)]
 if 0<N q.ord.xs then aS ts q (eU 10) [e] else e
def aR(q:ae):IC:=if q.aF=T then q.aC.xs else if dK (jk q)=T then jk q else []
def bK(q:ae)(o:IC):Int:=if q.aF=F then 9 else if aN o q.aC.xs=T then 8 else 7
def jg(ts:JK af)(q:ae)(t:bF):bF:=
 let e:=aS ts q (eU (bK q t.d.aH)) [t]
 if kF q (bK q t.d.aH) t.d.aH=T then e else aS ts q (eU 10) [e]
def dQ(ts:JK af)(q:ae)(t:bF):JK bF:=
 if 0<N (aR q) then [jg ts q t,jg ts q (bW ts q t (aR q))] else [jg ts q t]
def nJ(b t:bF):bF:=if t.d.aJ<b.d.aJ then t else b
def iY(b:bF)(l:JK bF):bF:=l.foldl nJ b
abbrev aK:=IC × Option (Nat × bF)
def iL:JK aK->Nat
 |[]=>0
 |(_,Qr)::g=>iL g
 |(_,O x)::g=>max (x.1+1) (iL g)
def jE(t:bF)(p:aK):Bool:=aN t.d.aH p.1&&(match p.2 with|none=>T|some x=>decide (t.d.aJ<x.2.d.aJ))
def kV(n:Nat)(t:bF)(p:aK):aK:=if jE t p=T then (p.1,O (n,t)) else p
def jS(g:JK aK)(t:bF):JK aK:=g.map (kV (iL g) t)
def jh(x:Bool × JK aK)(t:bF):Bool × JK aK:=(x.1 ||x.2.any (jE t),jS x.2 t)
def mP(g:JK aK)(l:JK bF):Bool × JK aK:=l.foldl jh (F,g)
def df(g:JK aK):Option bF:=match g with|(_,O x)::_=>O x.2|_=>Qr
def fT(ts:JK af)(q:ae)(g:JK aK)(o:IC):JK aK:=jS g (bW ts q ((df g).getD uT) o)
def bq(ts:JK af)(q:ae)(g:JK aK)(l:JK bF):Bool × JK aK:=
 if (mP g l).1=T then (T,((g.map Prod.fst).drop 1).foldl (fT ts q) (mP g l).2) else (F,(mP g l).2)
def mQ(l:JK (Nat × bF))(p:aK):JK (Nat × bF):=
 match p.2 with
 |none=>l
 |some x=>if l.any (λy=>y.1==x.1)=T then l else l++[x]
def fB(g:JK aK):JK (Nat × bF):=g.foldl mQ []
def pW(jw:Int)(m:Option bF)(x:Nat × bF):Option bF:=
 if (aN x.2.d.aH [jw]&&(match m with|none=>T|some y=>decide (x.2.d.aJ<y.d.aJ)))=T then O x.2 else m
def zZ(g:JK aK)(jw:Int):Option bF:=(fB g).foldl (pW jw) Qr
def ll(ts:JK af)(q:ae)(l r:bF)(g:JK aK)(cl:IC)(acc:JK bF)(key:Int):JK bF:=
 let k:=lZ ts q (fq 4 cl key) l.d.ah r.d.ah
 if k.2.2=T then
  match zZ g k.2.1 with
  |none=>acc++[aS ts q (fq 4 cl key) [l,r]]
  |some m=>if aN l.d.aH [k.1]=T then acc++[aS ts q (fq 4 cl key) [l,r]]++[aS ts q (fq 5 cl key) [l,m]] else acc++[aS ts q (fq 4 cl key) [l,r]]
 else acc
def jJ(ts:JK af)(q:ae)(conc:JK Nat)(l:bF)(g:JK aK):JK bF:=
 let r:=(df g).getD uT
 let cl:=dZ (bX conc l.d.ah r.d.ah)
 cl.foldl (ll ts q l r g cl) [aS ts q (fq 3 cl 0) [l,r]]
def jo(ts:JK af)(q:ae)(conc:JK Nat)(a b:JK aK):JK bF:=(fB a).flatMap λx=>jJ ts q conc x.2 b
def lF(ls:JK (IC))(l:IC):JK (IC):=if l∈ls then ls else ls++[l]
structure oK(q:ae)(t:bF):Prop where
 au:t.d.ah<2 ^ (N q.au.xs)
 cls:t.d.aG<2 ^ (N q.wh)
 aJ:t.d.aJ<=bO
 kinds:∀m∈t.ns,1<=m.kind/\m.kind<=10
 pos:0<N t.ns
theorem ag7(ls:JK (JK ay))(l:JK ay):jF (ls++[l])=jF ls++l.map (dO (N (jF ls))):=by grind [jF]
def MO:∀ls:JK (JK ay),N ls<=2->N (jF ls)=N (E ls 0 [])+N (E ls 1 [])
 |[],_=>rfl
 |[a],_=>by simp[jF]
 |[a,b],_=>by simp[jF]
 |_::_::_::_,h=>by simp at h
def acS(ls:JK (JK ay))(h:∀l∈ls,∀m∈l,1<=m.kind/\m.kind<=10):∀m∈jF ls,1<=m.kind/\m.kind<=10:=by
 have key:∀(ls:JK (JK ay)) (acc:JK ay),(∀l∈ls,∀m∈l,1<=m.kind/\m.kind<=10)->(∀m∈acc,1<=m.kind/\m.kind<=10)->
   ∀m∈ls.foldl (λacc l=>acc++l.map (dO (N acc))) acc,1<=m.kind/\m.kind<=10:=by
  intro ls
  induction ls with
  |nil=>simp_all
  |cons l ls ih =>
   intro acc d e;refine ih _ (λx b=>d x (ZV _ b)) λm a=>?_;rcases Z5.1 a with a|a
   .exact e m a
   .obtain⟨x,b,rfl⟩:=Xc.1 a;exact d l Ji x b
 exact key ls [] h λm a=>by cases a
def Cx(ts:JK af)(q:ae)(n:ay){bs:JK bF}(h:N bs<=2):(aS ts q n bs).ns.length=(E bs 0 uT).ns.length+(E bs 1 uT).ns.length+1:=by
 unfold aS sI;rw[Zt,MO _ (by simpa using h)]
 match bs,h with
 |[],_=>rfl
 |[a],_=>rfl
 |[a,b],_=>rfl
 |_::_::_::_,h=>simp at h
theorem akO(l:JK Nat):kQ l<=bO:=by grind [yH]
theorem ag8(kind:Int)(s lc ls rc rs:Nat):dn kind s lc ls rc rs<=bO:=by grind [dn,akO]
def vZ(ha:a<2 ^ n)(hb:b<2 ^ n):a|||b<2 ^ n:=XV ha hb
def rf(ts:JK af)(q:ae)(n:ay)(bs:JK bF)(hk:1<=n.kind/\n.kind<=10)(hs:n.kind=1->0<=n.source/\n.source<N q.au.xs)(hc:cK (N q.wh) n.cl.xs)(hb:∀b∈bs,oK q b):oK q (aS ts q n bs):=by
 have f:∀n:Nat,0<2 ^ n:=λn=>Nat.pow_pos X;have e:∀i,(E bs i uT).d.ah<2 ^ (N q.au.xs)/\(E bs i uT).d.aG<2 ^ (N q.wh):=by
  intro i;by_cases p:i<N bs
  .have a:E bs i uT∈bs:=Qf
   exact⟨(hb _ a).au,(hb _ a).cls⟩
  .have:E bs i uT=uT:=Qf
   rw[this];exact⟨f _,f _⟩
 refine⟨?_,?_,?_,?_,?_⟩
 .show (if n.kind=1 then 2 ^ n.source.toNat else 0)|||_|||_<_
  refine vZ (vZ ?_ (e 0).1) (e 1).1;split
  .rename_i h1
   have:=hs h1;exact XR X X
  .exact f _
 .show bn n.cl.xs|||_|||_<_
  exact vZ (vZ (uL hc) (e 0).2) (e 1).2
 .exact ag8 _ _ _ _ _ _
 .intro m a;rcases Z5.1 a with a|a
  .refine acS _ (λl j x k=>?_) m a;obtain⟨t,g,rfl⟩:=Xc.1 j;exact(hb t g).kinds x k
  simp_all
 .show 0<N (sI n _)
  unfold sI;simp
def xk(ts:JK af)(q:ae)(n:ay)(bs:JK bF)(hk:n.kind≠1):(aS ts q n bs).d.ah=(E bs 0 uT).d.ah|||(E bs 1 uT).d.ah:=by show (if n.kind=1 then 2 ^ n.source.toNat else 0)|||_|||_=_;simp_all
theorem yT(ts:JK af)(q:ae)(s:Int):(aS ts q (lh s) []).d.ah=2 ^ s.toNat:=by show (if (1:Int)=1 then 2 ^ s.toNat else 0)|||0|||0=_;simp
def ag9(z lc ls rc rs:Nat)(h:lc<=bO):lc<=dn 6 z lc ls rc rs:=by unfold dn;rw[Zk Qc,Zk Qc,Zd Qc,AU];unfold cO;omega
def acT(ts:JK af)(q:ae)(n:ay)(l r:dG):(eP ts q n l r).aJ=dn n.kind (if gI n.kind=T then l.size else jd ts q ((if n.kind=1 then 2 ^ n.source.toNat else 0)|||l.ah|||r.ah) (bn n.cl.xs|||l.aG|||r.aG)) l.aJ l.size r.aJ r.size:=rfl
def yU(ts:JK af)(q:ae)(t:bF)(o:IC)(h:t.d.aJ<=bO):t.d.aJ<=(bW ts q t o).d.aJ:=by show t.d.aJ<=(eP ts q (Sa o) t.d uT.d).aJ;rw[acT];exact ag9 _ _ _ _ _ h
def Eb(n:Nat):cK n []:=λx a=>by cases a
theorem yV(h:s<2 ^ n):cK n (dZ s):=by intro x a;grind [bS,dZ,Nat.lt_of_lt_of_le,Nat.pow_le_pow_right,Nat.testBit_lt_two_pow]
def lU(conc:JK Nat)(s:Nat):∀k,jO conc s k<2 ^ k
 |0=>by simp[jO]
 |k+1=>by
  have h:=lU conc s k;have h2:2 ^ k<2 ^ (k+1):=XR X X;unfold jO;split
  .exact vZ (Nat.lt_trans h h2) h2
  omega
def yX(conc:JK Nat)(a b:Nat):bX conc a b<2 ^ (N conc):=by unfold bX;exact Nat.lt_of_le_of_lt Nat.and_le_left (lU _ _ _)
def yY{t:bF}{c:Nat}(h:oK q t)(hc:c<2 ^ (N q.wh)):oK q (dz ts q t c):=by
 unfold dz;split
 .exact h
 .exact rf ts q _ _ ⟨(by decide:(1:Int)<=2),(by decide:(2:Int)<=10)⟩ (λe=>absurd e (by decide:(2:Int)≠1)) (yV hc) (λb a=>Qf)
def FQ(ts:JK af)(q:ae)(t:bF)(c:Nat):(dz ts q t c).d.ah=t.d.ah:=by
 unfold dz;split
 .rfl
 .rw[xk ts q _ _ (by decide:(2:Int)≠1)]
  show t.d.ah|||0=_;simp
def Dy(ts:JK af)(q:ae)(t:bF)(c:Nat):(dz ts q t c).ns.length<=N t.ns+1:=by
 unfold dz;split
 .omega
 .rw[Cx ts q _ Qa]
  show N t.ns+0+1<=_;omega
def Ec{t:bF}(o:IC)(h:oK q t):oK q (bW ts q t o):=
 rf ts q _ _ ⟨(by decide:(1:Int)<=6),(by decide:(6:Int)<=10)⟩ (λe=>absurd e (by decide:(6:Int)≠1)) (Eb _) (λb a=>Qf)
def uu(ts:JK af)(q:ae)(t:bF)(o:IC):(bW ts q t o).d.ah=t.d.ah:=by unfold bW;rw[xk ts q _ _ (by decide:(6:Int)≠1)];show t.d.ah|||0=_;simp
def wm(ts:JK af)(q:ae)(t:bF)(o:IC):(bW ts q t o).ns.length=N t.ns+1:=by unfold bW;rw[Cx ts q _ Qa];rfl
theorem wE(ts:JK af)(q:ae)(hc:N conc=N q.wh){s:Int}(h0:0<=s)(h1:s<N q.au.xs) :
  oK q (dE ts q conc s)/\(dE ts q conc s).d.ah=2 ^ s.toNat/\(dE ts q conc s).ns.length<=2:=by have a:oK q (aS ts q (lh s) []):=rf ts q _ _ ⟨(by decide:(1:Int)<=1),(by decide:(1:Int)<=10)⟩ (λ_=>⟨h0,h1⟩) (Eb _) (λb e=>by cases e);refine⟨yY a (by rw[<-hc];exact lU _ _ _),by unfold dE;rw[FQ];grind [yT],?_⟩;refine ZU (Dy ts q _ _) ?_;rw[Cx ts q _ Qa];show 0+0+1+1<=2;omega
def Jk:=@Cx
def Jl:=@Eb
structure zh(q:ae)(s:Nat)(g:JK aK):Prop where
 all:∀p∈g,∀x,p.2=O x->oK q x.2/\x.2.d.ah=s/\N x.2.ns+2<=5*s
 head:∃h r,g=([],h)::r/\∀x,h=O x->N x.2.ns+3<=5*s
 M6:N g<=20
def vG(l:IC):aN l []=true:=Qh
def Be(n:Nat)(t:bF)(p:aK):(kV n t p).1=p.1:=by unfold kV;split <;> rfl
def Ee(g:JK aK)(t:bF):N (jS g t)=N g:=by unfold jS;simp
def Ef(g:JK aK)(t:bF):(jS g t).map Prod.fst=g.map Prod.fst:=by unfold jS;rw[Xe];exact ZH λp _=>Be _ _ p
theorem Bf{t:bF}{p:aK}{x:Nat × bF}(h:(kV n t p).2=O x):x=(n,t)∨p.2=O x:=by unfold kV at h;grind
structure V5(q:ae)(s:Nat)(t:bF):Prop where
 ok:oK q t
 au:t.d.ah=s
 len:N t.ns+3<=5*s
theorem zh.DI{g:JK aK}{t:bF}(h:zh q s g)(ht:V5 q s t):zh q s (jS g t)/\(df (jS g t)).isSome=true:=by
 obtain⟨a,r,rfl,i⟩:=h.head;refine⟨⟨λp k x i=>?_,?_,by rw[Ee];exact h.M6⟩,?_⟩
 .obtain⟨j,b,rfl⟩:=Xc.1 k;rcases Bf i with rfl|f
  .exact⟨ht.ok,ht.au,Nat.le_of_succ_le ht.len⟩
  .exact h.all j b x f
 .refine⟨(kV (iL (([],a)::r)) t ([],a)).2,r.map (kV (iL (([],a)::r)) t),?_,λx e=>?_⟩
  .show kV _ t ([],a)::_=_
   rw[show kV (iL (([],a)::r)) t ([],a)=([],(kV (iL (([],a)::r)) t ([],a)).2) from Prod.ext (Be _ _ _) rfl]
  .rcases Bf e with rfl|f
   .exact ht.len
   grind
 .show (df (kV _ t ([],a)::_)).isSome=T
  unfold kV jE;rw[vG,Zm]
  cases a with
  |none=>rfl
  |some y =>
   by_cases l:t.d.aJ<y.2.d.aJ
   .rw[Zd Qf];rfl
   .rw[Zk Qf];rfl
theorem zh.UI{g:JK aK}(h:zh q s g)(hs:(df g).isSome=T)(o:IC):zh q s (fT ts q g o)/\(df (fT ts q g o)).isSome=true:=by
 obtain⟨l,r,rfl,d⟩:=h.head
 cases l with
 |none=>cases hs
 |some y =>
  have b:=h.all ([],O y) Ji y rfl;have i:bW ts q ((df (([],O y)::r)).getD uT) o=bW ts q y.2 o:=rfl;have v:=yU ts q y.2 o b.1.aJ;unfold fT;rw[i];have a:kV (iL (([],O y)::r)) (bW ts q y.2 o) ([],O y)=([],O y):=by unfold kV jE;grind
  refine⟨⟨λp u x d=>?_,?_,by rw[Ee];exact h.M6⟩,?_⟩
  .obtain⟨m,e,rfl⟩:=Xc.1 u;rcases Bf d with rfl|k
   .refine⟨Ec o b.1,by rw[uu];exact b.2.1,?_⟩;obtain⟨n,z,f,t⟩:=h.head;injection f with f e2;have j:O y=n:=congrArg Prod.snd f;have:=t y j.symm
    show (bW ts q y.2 o).ns.length+2<=5*s;rw[wm];omega
   .exact h.all m e x k
  .refine⟨O y,r.map (kV (iL (([],O y)::r)) (bW ts q y.2 o)),?_,d⟩
   show kV _ _ ([],O y)::_=_;rw[a]
  .show (df (kV _ _ ([],O y)::_)).isSome=T
   rw[a];rfl
def ade(ts:JK af)(q:ae)(g:JK aK)(o:IC):(fT ts q g o).map Prod.fst=g.map Prod.fst:=Ef _ _
theorem vH(g:JK aK)(l:JK bF):(mP g l).2.map Prod.fst=g.map Prod.fst:=by
 unfold mP
 suffices h:∀(l:JK bF) (x:Bool × JK aK),(l.foldl jh x).2.map Prod.fst=x.2.map Prod.fst from h l (F,g)
 intro l
 induction l with
 |nil=>intro x;rfl
 |cons t l ih=>intro x;rw[ZL,ih];exact Ef _ _
def xO{q:ae}{s:Nat}:∀{l:JK bF} {x:Bool × JK aK},zh q s x.2->(∀t∈l,V5 q s t)->(x.1=T->(df x.2).isSome=T)->zh q s (l.foldl jh x).2/\((l.foldl jh x).1=T->(df (l.foldl jh x).2).isSome=T)
 |[],_,h,_,hx=>⟨h,hx⟩
 |t::l,x,h,hl,hx=>by have:=h.DI (hl t Ji);exact xO (l:=l) (x:=jh x t) this.1 (λu hu=>hl u (ZV _ hu)) (λ_=>this.2)
def Eg{ts:JK af}{q:ae}{s:Nat}:∀{os:JK (IC)} {g:JK aK},zh q s g->(df g).isSome=T->zh q s (os.foldl (fT ts q) g)/\(df (os.foldl (fT ts q) g)).isSome=T
 |[],_,h,hs=>⟨h,hs⟩
 |o::os,g,h,hs=>by have:=h.UI (ts:=ts) hs o;exact Eg (os:=os) this.1 this.2
def wF(ts:JK af)(q:ae):∀(os:JK (IC)) (g:JK aK),(os.foldl (fT ts q) g).map Prod.fst=g.map Prod.fst
 |[],_=>rfl
 |o::os,g=>by rw[ZL,wF ts q os,ade]
def Bg{g:JK aK}{l:JK bF}(h:zh q s g)(hl:∀t∈l,V5 q s t) :
  zh q s (bq ts q g l).2/\((bq ts q g l).1=T->(df (bq ts q g l).2).isSome=T)/\(bq ts q g l).2.map Prod.fst=g.map Prod.fst:=by
 have a:=xO (l:=l) (x:=(F,g)) h hl (λe=>by cases e);unfold bq;split
 .rename_i hc
  have b:=Eg (ts:=ts) (os:=(g.map Prod.fst).drop 1) a.1 (a.2 hc);exact⟨b.1,λ_=>b.2,by rw[wF];exact vH g l⟩
 .exact⟨a.1,λ(e:F=T)=>(by cases e),vH g l⟩
theorem oz:∀(g:JK aK) (acc:JK (Nat × bF)) (x:Nat × bF),x∈g.foldl mQ acc->x∈acc∨∃p∈g,p.2=O x
 |[],_,_,h=>.inl h
 |p::g,acc,x,h=>by
  rcases oz g (mQ acc p) x h with h|⟨p',hp,e⟩
  .unfold mQ at h
   grind
  grind
theorem Eh:∀(g:JK aK) (acc:JK (Nat × bF)),N (g.foldl mQ acc)<=N acc+N g
 |[],_=>Zb _
 |p::g,acc=>by
  refine ZU (Eh g (mQ acc p)) ?_;have:N (mQ acc p)<=N acc+1:=by unfold mQ;grind
  grind
theorem ak1(jw:Int)(m:Option bF)(x:Nat × bF):pW jw m x=O x.2∨pW jw m x=m:=by unfold pW;grind
theorem FW(jw:Int):∀(l:JK (Nat × bF)) (m:Option bF) (t:bF),l.foldl (pW jw) m=O t->m=O t∨∃n,(n,t)∈l
 |[],_,_,h=>.inl h
 |x::l,m,t,h=>by
  rcases FW jw l (pW jw m x) t h with h|⟨n,h⟩
  .grind [ak1]
  grind
def zh.FY{g:JK aK}(h:zh q s g){x:Nat × bF}(hx:x∈fB g):oK q x.2/\x.2.d.ah=s/\N x.2.ns+2<=5*s:=by
 rcases oz g [] x hx with a|⟨p,b,e⟩
 .cases a
 .exact h.all p b x e
def zh.first{g:JK aK}(h:zh q s g){t:bF}(ht:df g=O t):oK q t/\t.d.ah=s/\N t.ns+2<=5*s:=by
 obtain⟨a,r,rfl,b⟩:=h.head
 cases a with
 |none=>cases ht
 |some y =>
  injection ht with ht;rw[<-ht];exact h.all _ Ji y rfl
def zh.att{g:JK aK}(h:zh q s g){jw:Int}{t:bF}(ht:zZ g jw=O t):oK q t/\t.d.ah=s/\N t.ns+2<=5*s:=by
 rcases FW jw _ Qr t ht with a|⟨n,b⟩
 .cases a
 .exact h.FY b
theorem Yw(h:a &&& b=0):a|||b=a+b:=by
 have h1:a<2 ^ (a+b):=ZO Nat.lt_two_pow_self (ZP X X);have h2:b<2 ^ (a+b):=ZO Nat.lt_two_pow_self (ZP X X);have h3:a+b<2 ^ (a+b):=Nat.lt_two_pow_self;have hx:BitVec.ofNat (a+b) a &&& BitVec.ofNat (a+b) b=0#(a+b):=by apply BitVec.eq_of_toNat_eq;grind
 have:=congrArg BitVec.toNat (BitVec.add_eq_or_of_and_eq_zero _ _ hx);grind [Nat.mod_eq_of_lt]
theorem UJ(jC:a &&& b=0){l r:bF}(hl:oK q l/\l.d.ah=a/\N l.ns+2<=5*a)(hr:oK q r/\r.d.ah=b/\N r.ns+2<=5*b){kind:Int}(h3:3<=kind)(h5:kind<=5)(hc:cK (N q.wh) cl)(key:Int) :
  V5 q (a|||b) (aS ts q (fq kind cl key) [l,r]):=by
 have f:(fq kind cl key).kind=kind:=rfl;refine⟨rf ts q _ _ ⟨X,X⟩ (λe=>X) hc (λx g=>?_),?_,?_⟩
 .grind
 .rw[xk ts q _ _ X,<-hl.2.1,<-hr.2.1];rfl
 .rw[Jk ts q _ Qa,Yw jC]
  grind
theorem Yx{ts:JK af}{q:ae}{a b:Nat}(jC:a &&& b=0){l r:bF}{g:JK aK}(hl:oK q l/\l.d.ah=a/\N l.ns+2<=5*a)(hr:oK q r/\r.d.ah=b/\N r.ns+2<=5*b)(hg:zh q b g){cl:IC}(hc:cK (N q.wh) cl) :
  ∀(ks:IC) (acc:JK bF),(∀t∈acc,V5 q (a|||b) t)->(∀t∈ks.foldl (ll ts q l r g cl) acc,V5 q (a|||b) t)/\N (ks.foldl (ll ts q l r g cl) acc)<=N acc+2*N ks
 |[],_,h=>⟨h,Qa⟩
 |k::ks,acc,h=>by
  have f:(∀t∈ll ts q l r g cl acc k,V5 q (a|||b) t)/\N (ll ts q l r g cl acc k)<=N acc+2:=by
   have j:=UJ (ts:=ts) jC hl hr (kind:=4) X X hc k;have i:∀t∈acc++[aS ts q (fq 4 cl k) [l,r]],V5 q (a|||b) t:=λt e=>by grind
   unfold ll;simp only;split
   .split
    .simp_all
    .rename_i m hm
     split
     .refine⟨λt e=>?_,Qa⟩;rcases Z5.1 e with e|e
      .exact i t e
      .rw[XH]at e;rw[e];exact UJ (ts:=ts) jC hl (hg.att hm) (kind:=5) X X hc k
     simp_all
   simp_all
  have:=Yx (ts:=ts) jC hl hr hg hc ks (ll ts q l r g cl acc k) f.1;grind
def adf(nU:N conc=N q.wh)(jC:a &&& b=0){l:bF}{g:JK aK}(hl:oK q l/\l.d.ah=a/\N l.ns+2<=5*a)(hg:zh q b g)(hs:(df g).isSome=T) :
  (∀t∈jJ ts q conc l g,V5 q (a|||b) t)/\N (jJ ts q conc l g)<=1+2*N (dZ (bX conc l.d.ah ((df g).getD uT).d.ah)):=by
 obtain⟨r,j⟩:=ZJ.1 hs;have f:=hg.first j;have e:(df g).getD uT=r:=by rw[j];rfl
 have i:cK (N q.wh) (dZ (bX conc l.d.ah r.d.ah)):=yV (by rw[<-nU];exact yX _ _ _);unfold jJ;simp only;rw[e];exact Yx jC hl f hg i _ _ λt k=>by rw[XH]at k;rw[k];exact UJ (ts:=ts) jC hl f (kind:=3) X X i 0
def Cz(nU:N conc=N q.wh)(jC:a &&& b=0){f g:JK aK}(hf:zh q a f)(hg:zh q b g)(hs:(df g).isSome=T) :
  ∀t∈jo ts q conc f g,V5 q (a|||b) t:=by intro t d;obtain⟨x,e,d⟩:=ZA.1 d;exact(adf nU jC (hf.FY e) hg hs).1 t d
theorem ak8(ts:JK af)(h1:3<=k)(h5:k<=5){key:Int}(hc:cK (N q.wh) cl){t u:bF}(h:oK q t)(hu:oK q u):oK q (aS ts q (fq k cl key) [t,u]):=
 rf ts q _ _ ⟨by show (1:Int)<=k;omega,by show k<=10;omega⟩ (λe=>by have:k=1:=e;omega) hc (λb a=>by
  grind)
def UO(ts:JK af){s:Int}(h0:0<=s)(h1:s<N q.au.xs):oK q (aS ts q (lh s) []):=
 rf ts q _ _ ⟨(by decide:(1:Int)<=1),(by decide:(1:Int)<=10)⟩ (λ_=>⟨h0,h1⟩) (Jl _) (λb a=>by cases a)
theorem vI(ts:JK af)(q:ae):∀k,k<N q.au.xs->oK q (dN ts q k)/\(dN ts q k).ns.length<=2*k+1
 |0,h=>⟨UO ts (Int.le_refl _) X,by
  show (aS ts q (lh 0) []).ns.length<=1;rw[Jk ts q _ Qa];exact Zb _⟩
 |k+1,h=>by obtain⟨h1,h2⟩:=vI ts q k X;refine⟨ak8 ts (k:=3) (cl:=[]) (key:=0) Qc Qc (Jl _) h1 (UO ts X X),?_⟩;show (aS ts q (eU 3) [dN ts q k,aS ts q (lh ((k+1:Nat):Int)) []]).ns.length<=_;rw[Jk ts q _ Qa];have e:(aS ts q (lh ((k+1:Nat):Int)) []).ns.length=1:=Jk ts q _ Qa;grind
def Ht(ts:JK af)(h1:2<=k)(KY:k<=10){t:bF}(h:oK q t):oK q (aS ts q (eU k) [t])/\(aS ts q (eU k) [t]).ns.length=N t.ns+1:=
 ⟨rf ts q _ _ ⟨by show (1:Int)<=k;omega,KY⟩ (λe=>by have:k=1:=e;omega) (Jl _) (λb a=>Qf),Jk ts q _ Qa⟩
theorem ahr(ts:JK af)(q:ae)(h1:1<=N q.au.xs):oK q (kI ts q)/\(kI ts q).ns.length<=2*N q.au.xs+3:=by
 obtain⟨e,i⟩:=vI ts q (N q.au.xs-1) X;have b:2 ^ (N q.wh)-1<2 ^ (N q.wh):=Qb;have d:=yY (ts:=ts) e b;have g:=Dy ts q (dN ts q (N q.au.xs-1)) (2 ^ (N q.wh)-1);have a:2<=(if q.aF=T then (7:Int) else 9)/\(if q.aF=T then (7:Int) else 9)<=10:=X;obtain⟨f,j⟩:=Ht ts a.1 a.2 d;unfold kI;simp only;split
 .obtain⟨l,m⟩:=Ht ts (k:=10) Qc Qc f
  grind
 grind
def Nf(q:ae)(o:IC):7<=bK q o/\bK q o<=9:=by unfold bK;omega
theorem ahs(h:6<=k):bg k=1:=by grind [bg]
def Ng(ts:JK af)(h1:2<=k)(KY:k<=10){t:bF}(h:oK q t):oK q (aS ts q (eU k) [t]):=
 rf ts q _ _ ⟨by show (1:Int)<=k;omega,KY⟩ (λe=>by have:k=1:=e;omega) (Jl _) (λb a=>Qf)
def Sm{t:bF}(h:oK q t):oK q (jg ts q t)/\(jg ts q t).ns.length<=N t.ns+2:=by
 have b:=Nf q t.d.aH;have a:oK q (aS ts q (eU (bK q t.d.aH)) [t]):=Ng ts X X h;have e:(aS ts q (eU (bK q t.d.aH)) [t]).ns.length=N t.ns+1:=Jk ts q _ Qa;unfold jg;simp only;split
 .simp_all
 .refine⟨Ng ts Qc Qc a,?_⟩;have:(aS ts q (eU 10) [aS ts q (eU (bK q t.d.aH)) [t]]).ns.length=(aS ts q (eU (bK q t.d.aH)) [t]).ns.length+1:=Jk ts q _ Qa;omega
def fC(ts:JK af)(q:ae)(s:Nat)(acc:JK (IC))(jw:Int):JK (IC):=
 if bV s (bn (iR ts q [jw]))=T then lF acc [jw] else acc
def kL(ts:JK af)(q:ae)(s:Nat)(acc:JK (IC))(c:aQ):JK (IC):=
 if ((di c.cs).2.2 && !bV s (bn (iR ts q [(di c.cs).1,(di c.cs).2.1])))=T then fC ts q s (fC ts q s acc (di c.cs).1) (di c.cs).2.1 else acc
def dF(ts:JK af)(q:ae)(s:Nat):JK (IC):=
 q.wh.foldl (kL ts q s) (if bV s (bn (iR ts q (aR q)))=T then lF [[]] (aR q) else [[]])
abbrev bB:=Nat × Nat
def rE(rk:Nat->Int)(t:bB):Int:=if t.2=0 then 6 else rk (t.1|||t.2)
def uR(a b:Int):Int:=if a<b then -1 else if b<a then 1 else 0
def vJ(rk:Nat->Int)(a b:bB):Int:=
 if uR (rE rk b) (rE rk a)≠0 then uR (rE rk b) (rE rk a) else if uR a.1 b.1≠0 then uR a.1 b.1 else uR a.2 b.2
def bsF(lt:Nat->Bool):Nat->Nat->Nat->Nat
 |0,i,_=>i
 |f+1,i,j=>if i<j then (if lt ((i+j) / 2)=T then bsF lt f ((i+j) / 2+1) j else bsF lt f i ((i+j) / 2)) else i
def rX(rk:Nat->Int)(a:JK bB)(t:bB):Nat:=bsF (λh=>decide (vJ rk (E a h (0,0)) t<0)) (N a) 0 (N a)
def uA(rk:Nat->Int)(a:JK bB)(t:bB):Bool:=decide (rX rk a t<N a)&&decide (vJ rk (E a (rX rk a t) (0,0)) t=0)
def jH(rk:Nat->Int)(a:JK bB)(t:bB):JK bB:=if uA rk a t=T then a else a.take (rX rk a t)++t::a.drop (rX rk a t)
structure fE where
 az:JK (JK aK)
 aL:JK bB
 cut:Bool
 bP:bF
 picks:IC
 status:Int
def fU(rk:Nat->Int)(s:Nat)(gs:JK (JK aK))(a:JK bB)(k:Nat):JK bB:=
 if ((df (E gs k [])).isSome&&decide (k &&& s=0))=T then jH rk (jH rk a (s,k)) (k,s) else a
def ng(rk:Nat->Int)(s:Nat)(gs:JK (JK aK))(a:JK bB):JK bB:=(List.range (N gs)).foldl (fU rk s gs) a
def lK(ts:JK af)(q:ae)(b t:bF):bF:=iY b (dQ ts q t)
def ed(rk:Nat->Int)(ts:JK af)(q:ae)(s:Nat)(l:JK bF)(σ:fE):fE:=
 if s=2 ^ (N q.au.xs)-1 then { σ with bP:=l.foldl (lK ts q) σ.bP }
 else
  let r:=bq ts q (E σ.az s []) l
  { σ with az:=σ.az.set s r.2,aL:=if r.1=T then ng rk s (σ.az.set s r.2) σ.aL else σ.aL }
def vU(rk:Nat->Int)(ts:JK af)(q:ae)(conc:JK Nat)(t:bB)(σ:fE):fE:=
 if t.2=0 then ed rk ts q t.1 [dE ts q conc (E (dZ t.1) 0 0)] σ
 else ed rk ts q (t.1|||t.2) (jo ts q conc (E σ.az t.1 []) (E σ.az t.2 [])) σ
def eF(n:Nat)(pick:Int):Int:=(pick.tmod n+n).tmod n
def jT(σ:fE):fE:=if 0<N σ.aL then σ else { σ with status:=if σ.cut=T then 3 else 2 }
def gz(rk:Nat->Int)(ts:JK af)(q:ae)(conc:JK Nat)(pick:Int)(σ:fE):fE:=
 let p:=eF (N σ.aL) pick
 jT (vU rk ts q conc (E σ.aL p.toNat (0,0)) { σ with picks:=σ.picks++[p],aL:=σ.aL.eraseIdx p.toNat })
def jU(l:IC)(k:Nat):Int:=if (N l)=0 then 0 else E l (k % (N l)) 0
def iV(rk:Nat->Int)(ts:JK af)(q:ae)(conc:JK Nat)(picks:IC):Nat->Nat->fE->fE
 |0,_,σ=>σ
 |n+1,k,σ=>if σ.status=1 then iV rk ts q conc picks n (k+1) (gz rk ts q conc (jU picks k) σ) else σ
def fw(os:JK (IC)):JK aK:=os.map λo=>(o,Qr)
def fF(rk:Nat->Int)(ts:JK af)(q:ae)(aI:Nat):fE:=
 ⟨(List.range (2 ^ (N q.au.xs)-1)).map λs=>fw ((dF ts q s).take aI),(List.range (N q.au.xs)).foldl (λa (i:Nat)=>jH rk a (2 ^ i,0)) [],
  (List.range (2 ^ (N q.au.xs)-1)).any λs=>decide (aI<N (dF ts q s)),kI ts q,[],1⟩
section
variable {α κ:Type} (Eq:El α κ)
def axb(P:Program)(g:Nat)(s:Value)(rows:List κ)(w0:U):Prop:=
 ∀(l:Nat) (Jq:List α->(Pm)->U->Prop) (W:U) (o:Pm),
  Bw w0 W->(∀b,o b->M (H w0)<=b/\b<M (H W))->
  (∀pre o1 A B,Jq pre o1 A->aB (λb=>o1 b∨b<M (H W)) A B->Jq pre o1 B)->
  (∀pre x o1 W1,Jq pre o1 W1->(pre++[x]).map Eq.key <+: rows->Eq.At x W1->(∀b,Eq.blk x=O b->¬o1 b/\(b<M (H w0)∨M (H W)<=b))->M (H W)<=M (H W1)->
   YieldAt Fence.wide 0 P l #[Eq.enc x] W1 λe W'=>e=.returned (.bool T)/\∃o2,Jq (pre++[x]) o2 W'/\aB (λb=>¬o1 b) W1 W'/\
    ∀b,o2 b->o1 b∨(M (H W1)<=b/\b<M (H W'))∨(Eq.blk x=O b/\M (H W)<=b))->
  Jq [] o W->
  Calls P g #[s,.func (.yield l) #[] #[]] W λe W'=>(∃v,e=.returned v)/\∃ys o',ys.map Eq.key=rows/\Jq ys o' W'/\aB (λb=>¬o b) W W'/\
   ∀b,o' b->o b∨(M (H W)<=b/\b<M (H W'))
theorem Cy{g:Operand}{ps:Array Tmp}{assign body:Code}{a:Act}
  {gf:Nat} {s:Value} (hg:a.eval g=.func (.func gf) #[s] #[]) (eg:∀args w,(callFunc gf args).run P w=.ok (.enter gf args) w)
  {rows:List κ} {w0:U} (hseq:axb Eq P gf s rows w0) (hb0:Bw w0 w) (hps:ps.size=1)
  (Iq:List α->(Pm)->U->Prop) (o:Pm) (ho:∀b,o b->M (H w0)<=b/\b<M (H w))
  (hI:∀d i A B,Iq d i A->aB (λb=>i b∨b<M (H w)) A B->Iq d i B) (h0:Iq [] o w) (a₁:α->Act)
  (hassign:∀(l:Nat) (x:α) (W:U) (K:Act->U->Prop),K (a₁ x) W->
   assign.wpIn (Fence.wide.inRound l) 0 P (Exit.then K (λ_ _ _=>False)) { tmps:=(ps.zip #[Eq.enc x]).foldl (λt (p,v)=>t.setIfInBounds p v) a.tmps,defers:=[] } W)
  (hbody:∀(l:Nat) (d:List α) (x:α) (i:Pm) (W:U),Iq d i W->(d++[x]).map Eq.key <+: rows->Eq.At x W->
   (∀b,Eq.blk x=O b->¬i b/\(b<M (H w0)∨M (H w)<=b))->M (H w)+2<=M (H W)->
   body.wpIn (Fence.wide.inRound l) 0 P (DY Eq Iq d x (M (H w)) i W) (a₁ x) W)
  (hdone:∀(ys:List α) (o':Pm) (W:U),ys.map Eq.key=rows->Iq ys o' W->aB (λb=>¬o b) w W->(∀b,o' b->(o b∨(M (H w)+2<=b/\b<M (H W))))->
   W.heap[M (H w)]? = O (.deferred (O []))->Q .normal { a with defers:={ target:=.collected (M (H w)),args:=#[] } :: a.defers } W) :
  (Code.rangeFunc g ps assign body).wpIn Fence.wide 0 P Q a w:=by
 refine wpIn_rangeFunc ?_;intro fn aF;obtain⟨k,f⟩:=eY (λst pe=>{ state:=st,pending:=pe,fn,tmps:=a.tmps,params:=ps,assign,body,defers:=M (H w) }:LoopState->Option Code->Loop);obtain⟨z,n⟩:=eX ((w.alloc (.deferred (O []))).alloc (.loop (k .ready Qr)));have tq:M (H z)=M (H w)+2:=by rw[<-n];simp
 have ag:z.heap[M (H w)+1]? = O (.loop (k .ready Qr)):=by rw[<-n];have:=World.alloc_heap_new (w.alloc (.deferred (O []))) (.loop (k .ready Qr));simp_all
 have ah:z.heap[M (H w)]? = O (.deferred (O [])):=by rw[<-n];exact(Below.heap_alloc _ _ _ Qa).trans (World.alloc_heap_new w _)
 have dP:∀s,aB s w z:=λs=>by rw[<-n];exact(Xo _ _).trans (Xo _ _)
 have ai:=hb0.trans ((dP (λ_=>True)).aj hb0.size (λ_ _=>trivial));refine⟨M (H w)+1,[{ target:=.collected (M (H w)),args:=#[] }],z,{ target:=.fn (.func gf) #[],args:=#[s,.func (.yield (M (H w)+1)) #[] #[]] },z,gf,
  #[s,.func (.yield (M (H w)+1)) #[] #[]],z,?_,?_,?_,?_,λh=>by simp[Fence.wide]at h,?_⟩
 .rw[<-n,f];exact run_enterLoop_outer _ _ _ _ _
 .simp only[resolve,hg];simp[go_sem]
 .intro f' _;trivial
 .simp[invoke,go_sem,eg]
 .refine Jn.2 ((hseq (M (H w)+1)
   (λd o' W=>∃i,Iq d i W/\(∀b,o' b↔i b∨b=M (H w)∨b=M (H w)+1)/\¬i (M (H w))/\¬i (M (H w)+1)/\
    W.heap[M (H w)+1]? = O (.loop (k .ready Qr))/\W.heap[M (H w)]? = O (.deferred (O [])))
   z (λb=>o b∨b=M (H w)∨b=M (H w)+1) ai ?_ ?_ ?_ ?_).mono ?_)
  .rintro b (q|rfl|rfl)
   .grind
   .exact⟨hb0.size,X⟩
   .exact⟨Qj hb0.size,X⟩
  .rintro d o' A B ⟨i,hi,j,hn,r,u,hd⟩ hk;have ak:=(Xx.1 u).1;have au:=(Xx.1 hd).1;refine⟨i,hI d i A B hi (hk.mono λb _ q=>?_),j,hn,r,(hk.block _ ak (.inl ((j _).2 (.inr (.inr rfl))))).trans u,(hk.block _ au (.inl ((j _).2 (.inr (.inl rfl))))).trans hd⟩
   grind
  .rintro d x o' W ⟨i,hi,j,hn,r,u,hd⟩ af hx nL ni;have aT:=(Xx.1 u).1;have L:M (H w)<M (H W):=X
   have hy:=run_yield (P:=P) (args:=#[Eq.enc x]) u Qf;rw[f]at hy;refine⟨fn,_,assign,body,hy,roundIn_of_wpIn aF (hassign _ x W _ ⟨_,run_beginRound u (by rw[f]),?_⟩)⟩;obtain⟨D,y⟩:=eX (W.putObj (M (H w)+1) (.loop { k .ready Qr with state:=.busy }));have R:aB (λb=>b≠M (H w)+1) W D:=by rw[<-y];exact Xm _ _ (λh=>h rfl)
   have S:D.heap[M (H w)+1]? = O (.loop { k .ready Qr with state:=.busy }):=by rw[<-y];exact World.putObj_heap_same aT
   have av:=(R.block _ L X).trans hd;have aH:M (H D)=M (H W):=by rw[<-y];simp
   have ax:=hI d i W D hi (R.mono λb _ q=>by
    grind)
   have ay:=Eq.bT hx R.size (λb q aG=>R.block b q (λe=>(nL b aG).1 ((j b).2 (.inr (.inr e)))));rw[y];rw[f]at S;refine wpIn_mono (hbody _ d x i D ax af ay (λb q=>⟨λh=>(nL b q).1 ((j b).2 (.inl h)),(nL b q).2.imp id X⟩) X) ?_;rintro e a3 W3 G
   cases e with
   |normal =>
    obtain⟨o2,aA,C,aC⟩:=G;have aa:W3.heap[M (H w)+1]? = O (.loop { state:=.busy,pending:=Qr,fn,tmps:=a.tmps,params:=ps,assign,body,defers:=M (H w) }):=(C.block _ X r).trans S;have ae:=(Xx.1 aa).1;have az:=(C.block _ X hn).trans av;have m:∀b,b=M (H w)∨b=M (H w)+1->¬o2 b:=λb q h=>by grind
    refine⟨_,_,run_endRound Qr aa,rfl,λb=>o2 b∨b=M (H w)∨b=M (H w)+1,⟨o2,hI _ o2 W3 _ aA (Xm _ _ ?_),λb=>Iff.rfl,m _ (.inl rfl),m _ (.inr rfl),?_,?_⟩,?_,?_⟩
    .simp_all
    .rw[World.putObj_heap_same ae,f];rfl
    .exact(World.putObj_heap_other X).trans az
    .refine((R.mono ?_).dL (C.mono ?_) (λ_ _ h=>h)).trans (Xm _ _ ?_)
     .simp_all
     .simp_all
     simp_all
    .rintro b (h|h)
     .rcases aC b h with h|h|h
      .simp_all
      .simp_all
      grind
     simp_all
   |ret=>exact G.elim
   |exit id=>exact G.elim
   |goto t=>exact G.elim
   |panic ch=>exact G.elim
   |outgrown=>exact G.elim
  .have m:∀b,b=M (H w)∨b=M (H w)+1->¬o b:=λb q h=>Qb
   exact⟨o,hI _ _ _ _ h0 (dP _),λ_=>Iff.rfl,m _ (.inl rfl),m _ (.inr rfl),ag,ah⟩
  .rintro e D ⟨⟨v,rfl⟩,ys,o',aD,⟨i,hi,j,hn,r,u,hd⟩,hk,hg⟩;have aT:=(Xx.1 u).1;refine⟨Qr,_,by have:=run_endLoop (P:=P) u Qf;rw[f]at this;exact this,hdone ys i _ aD (hI _ _ _ _ hi (Xm _ _ ?_)) ?_ ?_ ((World.putObj_heap_other X).trans hd)⟩
   .simp_all
   .refine(aB.dL (dP _) (hk.mono λb _ h=>h) ?_).trans (Xm _ _ ?_) |>.mono (s:=λb=>¬o b/\b<M (H w)) ?_
    .grind
    .omega
    simp_all
   .intro b q;rcases hg b ((j b).2 (.inl q)) with (h|h|h)|h
    .exact .inl h
    .simp_all
    .simp_all
    simp_all
def rq:El Nat Nat where
 enc k:=.int .i64 (k:Int)
 At _ _:=True
 blk _:=Qr
 key k:=k
 bT:=λ_ _ _=>trivial
 inn:=λ_ h=>by cases h
end
def sliceAt4(a:Addr)(x:U)(c:Int)(h0:0<=c)(h4:c<=4) :
  (Instr.sliceAt 52 (.pointer (O a)) Qr (O (.int .i64 c)) Qr).run V x=.ok (.slice (O a) c.toNat 4) x:=by have d:V.arrayLen 52=4:=Qd;have b:V.elem 52=3:=Qd;rw[run_sliceAt_array_h x 52 a (by rw[d,b];exact underlying52) .i64 c h0 (by rw[d];omega),d,b];simp[slicedAt,Addr.add]
def YA(t:af)(w:U) :
  Cb 119 #[.agg t.jQ] w (.bool (fI t)):=by
 have b:=@Me t;have d:=@AA t;have k:=@IK t;have e:=λm r=>af.ae8 w t 54 m r;generalize fI t=B at*;unfold af.jQ;by_cases v:t.bU<1∨4<t.bU∨t.rows<0∨1000000<t.rows
 .have f:=Zh ((b v).symm);clear b d k e;go_enter func119,ntmps119;go_wp2
  all_goals
   go_ret;exact⟨QZ f.o,fo _ _⟩
 .have z:1<=t.bU:=X
  have A:t.bU<=4:=X;have l3:0<=t.rows:=X;have l4:t.rows<=1000000:=X;obtain⟨g,n,G⟩:=lX d k e;clear b d k v e;have C:=λ(a:Addr) (x:U)=>sliceAt4 a x t.bU X X;go_enter func119,ntmps119;go_wp2;go_loop [28] (λi=>∃m:Nat,m<=t.bU.toNat/\i=.int .i64 m/\Hid (∀j,j<m->1<=t.kd j/\t.kd j<=1000000)) (λi=>t.bU.toNat-(intOf i).toNat)
  case atStart=>exact⟨0,ZR _,rfl,λj p=>absurd p X⟩
  case round=>
   obtain⟨m,r,rfl,u⟩:=hrel;by_cases y:m<t.bU.toNat
   .have l:(m:Int)<t.bU:=X
    have D:=G.o m X;by_cases K:t.kd m<1
    .have f:=Zh ((g.o m y X).symm);go_wp2;go_ret;exact⟨QZ f.o,fo _ _⟩
    .by_cases L:1000000<t.kd m
     .have f:=Zh ((g.o m y X).symm);go_wp2;go_ret;exact⟨QZ f.o,fo _ _⟩
     .go_wp2;go_round
      case rel=>
       refine⟨m+1,X,Qe,λj p=>?_⟩;by_cases q:j=m
       .subst q;omega
       .exact u.o j X
      case measure=>exact XK
   .have l:¬(m:Int)<t.bU:=X
    have f:=Zh ((n.o z A l3 l4 (λj p=>u.o j X)).symm);go_wp2;go_ret;exact⟨QZ f.o,fo _ _⟩
def adi(t:af)(w:U) :
  Cb 118 #[.agg t.jQ] w (.bool (!fI t)):=by have a:=λx=>YA t x;generalize fI t=B at*;unfold af.jQ at*;go_enter func118,ntmps118;go_wp2_with (go_at_call 119;refine(a _).mono ?_;rintro e d ⟨rfl,b⟩);go_ret;exact⟨QZ rfl,aO (fo _ _) b⟩
theorem ac0{l:Nat}(hd:∀o∈ops,∀c,o.op ≠ .defer c){K':Act->U->Prop}(hK:∀a w,K a w->K' a w){a:Act}(h:wpOpIn Fence.wide 0 P ops Q i K a w):wpOpIn (Fence.wide.inRound l) 0 P ops Q i K' a w:=by
 unfold wpOpIn at*
 cases ho:ops[i]? with
 |none=>simp_all
 |some o =>
  rw[ho]at h;simp only at*;have f:=Array.mem_of_getElem? ho;by_cases j:Region.wanted o (yielded ops a.tmps)=T
  .rw[Zd j]at*;unfold Oper.wpIn at*;refine⟨h.1,?_⟩;have b:=h.2;rw[Oper.semAt_plain Fence.wide _ _ (hd o f)]at b;rw[Oper.semAt_plain (Fence.wide.inRound l) _ _ (hd o f)];generalize Sem.run P (execOp a.eval o) w=r at*;unfold Oper.uponIn at*;split at b
   .simp_all
   .simp_all
   .simp_all
   .exact⟨b.1,b.2.mono (λe g d=>by
     grind)⟩
   .exact⟨b.1,b.2.mono (λv g d=>hK _ _ d)⟩
   .exact⟨b.1,b.2.mono (λe g d=>by
     grind)⟩
   .exact b
   omega
  simp_all
def Bd{P:Program}{md:Region.Mode}{ops:Array Oper}{Q:Exit->Act->U->Prop}{l:Nat}(hd:∀o∈ops,∀c,o.op ≠ .defer c):∀(fuel:Nat) (aW:Array Bool) (a:Act) (w:U),
  wpAnyIn Fence.wide 0 P md ops Q fuel aW a w->wpAnyIn (Fence.wide.inRound l) 0 P md ops Q fuel aW a w
 |0,_,_,_,h=>h
 |fuel+1,aW,a,w,h=>⟨h.1,λi b=>ac0 hd (λd e f=>Bd hd fuel _ d e f) (h.2 i b)⟩
def Uz(ops:Array Oper):Bool:=ops.all λo=>match o.op with|.defer _=>F|_=>T
theorem ze(h:Uz ops=T):∀o∈ops,∀c,o.op ≠ .defer c:=by intro o a c b;unfold Uz at h;rw[Array.all_eq_true_iff_forall_mem]at h;grind
def nM{o:Oper}{a:Act}{Eq:Prop}(hgd:o.guard=Qr)(s x:Operand)(t:TypeId)
  (ho:o.op=.call { callee:=.builtin .append,args:=#[s,x],argTypes:=#[t,t] }) (v u v':Value) (w':U) (hs:a.eval s=v) (hx:a.eval x=u)
  (hrun:(Builtin.append_ #[t,t] o.type #[v,u]).run P w=.ok v' w') (h:K (a.put o.dst v') w'):if Region.wanted o (yielded ops a.tmps)=T then Oper.wp P o a w K Q else Eq:=by
 have b:Region.wanted o (yielded ops a.tmps)=true:=by simp[Region.wanted,hgd]
 rw[Zd b];unfold Oper.wp;simp[execOp,ho,resolve,invoke,builtin,hs,hx,hrun,Result.andThen];exact h
section
open Go.Lib
theorem Yf(l r:JK UInt8):∀(a m:Nat),decFrom a l=O m->decFrom a (l++r)=decFrom m r:=by
 induction l with
 |nil=>grind [Lib.decFrom]
 |cons b l ih =>
  grind [Lib.decFrom.eq_2]
def Yg{k:Nat}(h:k<10):digitVal (UInt8.ofNat (48+k))=O k/\UInt8.ofNat (48+k)≠32/\UInt8.ofNat (48+k)≠45/\UInt8.ofNat (48+k)≠43:=by have:∀k:Fin 10,digitVal (UInt8.ofNat (48+k.val))=O k.val/\UInt8.ofNat (48+k.val)≠32/\UInt8.ofNat (48+k.val)≠45/\UInt8.ofNat (48+k.val)≠43:=Qc;exact this ⟨k,h⟩
theorem D8(u:Nat):decFrom 0 (decDigits u)=O u/\decDigits u≠[]/\∀b∈decDigits u,b≠32/\b≠45/\b≠43:=by
 induction u using Nat.strongRecOn with
 |_ u ih =>
  by_cases h:u<10
  .rw[decDigits_one h];obtain⟨a,d⟩:=Yg h;refine⟨by simp only[decFrom,a,X8,ZT],Qa,λb f=>?_⟩
   simp_all
  .rw[decDigits,dif_neg h];obtain⟨e,i2,i3⟩:=ih (u / 10) X;obtain⟨a,d⟩:=Yg (k:=u % 10) X;refine⟨?_,Qa,λb f=>?_⟩
   .rw[Yf _ _ _ _ e]
    grind [Lib.decFrom]
   grind
theorem Dw(u:Nat):decNat (decDigits u)=O u:=by grind [Lib.decNat,D8]
theorem ag2(n:Int):atoi (itoa n)=O n:=by
 unfold itoa;split
 .grind [Lib.atoi,Dw]
 .obtain⟨_,a,d⟩:=D8 n.toNat;have hd:=Dw n.toNat
  cases hl:decDigits n.toNat with
  |nil=>exact absurd hl a
  |cons b r =>
   grind [Lib.atoi]
theorem R8(n:Int):itoa n≠[]/\∀b∈itoa n,b≠32:=by grind [Lib.itoa,D8]
def kN:IC->JK UInt8
 |[]=>[]
 |n::ns=>itoa n++ns.flatMap λm=>32::itoa m
def akJ{n:Int}{ns:IC}:kN (n::ns)≠[]:=by unfold kN;have:=(R8 n).1;simp[this]
theorem acP{l:JK UInt8}(h:∀b∈l,b≠32):index l [32] = -1:=by
 induction l with
 |nil=>rfl
 |cons b l ih =>
  grind [Lib.index]
theorem ML{l:JK UInt8}(h:∀b∈l,b≠32)(r:JK UInt8):index (l++32::r) [32]=N l:=by
 induction l with
 |nil=>simp[index]
 |cons b l ih =>
  grind [Lib.index.eq_2]
theorem akK(n:Int)(ns:IC):cut (kN (n::ns)) [32]=(itoa n,kN ns,!ns.isEmpty):=by
 obtain⟨_,h⟩:=R8 n
 cases ns with
 |nil =>
  grind [kN,Lib.cut,acP]
 |cons m ns =>
  have e:kN (n::m::ns)=itoa n++32::kN (m::ns):=by simp[kN]
  unfold cut;rw[e,ML h,Zd X];simp
def qE(ns:IC):JK UInt8:=[115,99,111,117,116]++ns.flatMap λm=>32::itoa m
def akL(n:Int)(ns:IC):cut (qE (n::ns)) [32]=([115,99,111,117,116],kN (n::ns),T):=by
 have e:qE (n::ns)=[115,99,111,117,116]++32::kN (n::ns):=by simp[qE,kN]
 unfold cut;rw[e,ML Qc,Zd Qa];simp
def ag3(ns:IC):join ([115,99,111,117,116]::ns.map itoa) [32]=qE ns:=by
 have h:∀(ns:IC) (t:JK UInt8),join (t::ns.map itoa) [32]=t++ns.flatMap λm=>32::itoa m:=by
  intro ns
  induction ns with
  |nil=>intro t;rfl
  |cons n ns ih =>
   intro t;have e:join (t::(n::ns).map itoa) [32]=t++[32]++join (itoa n::ns.map itoa) [32]:=by rw[List.map_cons];unfold join;simp_all
   rw[e,ih];simp
 exact h ns _
end
theorem aiJ:∀(t:JK Bool) (i:Nat),t[i]? = O F->t.count F=(t.set i T).count F+1
 |[],i,h=>by simp at h
 |b::t,0,h=>Qf
 |b::t,i+1,h=>by grind
theorem Gw(h:l.getD i T=F):l.toList.count F=(l.setIfInBounds i T).toList.count F+1:=by
 rw[Array.toList_setIfInBounds];refine aiJ _ _ ?_;rw[Array.getElem?_toList];rcases Jd i l.size with a|a
 .simp_all
 simp_all
theorem EJ(Jq:Array Bool->Act->U->Prop)(hS:∀l a w,Jq l a w->S w)
  (hj:∀l a w,Jq l a w->wpAnyH P md ops Q S (l.toList.count F) l a w∨(Region.ready md ops l≠[]/\∀i∈Region.ready md ops l,wpOp P ops Q i (λe f=>Jq (l.setIfInBounds i T) e f) a w)) :
  ∀(n:Nat) (l:Array Bool) (a:Act) (w:U),l.toList.count F=n->Jq l a w->wpAnyH P md ops Q S n l a w:=by
 intro n
 induction n with
 |zero =>
  intro l a w d h;rcases hj l a w h with h|⟨b,_⟩
  .rwa [d]at h
  .obtain⟨i,r,k⟩:=List.exists_cons_of_ne_nil b;have m:=(mem_ready.1 (show i∈Region.ready md ops l by rw[k];simp)).1
   grind [Gw]
 |succ n ih =>
  intro l a w d h;rcases hj l a w h with h|⟨b,j⟩
  .rwa [d]at h
  .refine⟨λh=>absurd h b,λi g=>wpOp_mono (λe f h=>⟨hS _ _ _ h,ih _ e f ?_ h⟩) (j i g)⟩;have:=Gw (mem_ready.1 g).1;omega
theorem wF2{a:Act}(L:Bool->Bool->Array Bool)(D:JK Nat)(k:Nat)(Jq:Bool->Bool->Act->World->Prop)
  (h0:Jq false false a w) (hS:∀b d a w,Jq b d a w->S w)
  (hstep:∀i∈D,∀b d a w,Jq b d a w->wpOp P ops Q i (λf g=>∃e c2,(L b d).setIfInBounds i true=L e c2/\Jq e c2 f g) a w)
  (hstop:∀a w,Jq true true a w->wpAnyH P md ops Q S k (L true true) a w)
  (hr:∀b d:Bool,(b&&d)=false->(Region.ready md ops (L b d)).isEmpty=false/\(Region.ready md ops (L b d)).all (D.contains ·)=true:=by decide +kernel)
  (hl:l=L false false:=by rfl) (hf:(L false false).toList.count false=fuel:=by kernel_rfl) (hk:(L true true).toList.count false=k:=by kernel_rfl):wpAnyH P md ops Q S fuel l a w:=by
 refine EJ (λl a w=>∃b d,l=L b d/\Jq b d a w) ?_ ?_ fuel l a w (by rw[hl];exact hf) ⟨false,false,hl,h0⟩
 .grind
 grind
theorem wF5{a:Act}(L:Bool->Bool->Bool->Bool->Bool->Array Bool)(D:JK Nat)(k:Nat)(Jq:Bool->Bool->Bool->Bool->Bool->Act->World->Prop)
  (h0:Jq false false false false false a w) (hS:∀b d e f g a w,Jq b d e f g a w->S w)
  (hstep:∀i∈D,∀b d e f g a w,Jq b d e f g a w->wpOp P ops Q i (λm n=>∃j c2 c3 c4 c5,(L b d e f g).setIfInBounds i true=L j c2 c3 c4 c5/\Jq j c2 c3 c4 c5 m n) a w)
  (hstop:∀a w,Jq true true true true true a w->wpAnyH P md ops Q S k (L true true true true true) a w)
  (hr:∀b d e f g:Bool,(b&&d&&e&&f&&g)=false->(Region.ready md ops (L b d e f g)).isEmpty=false/\(Region.ready md ops (L b d e f g)).all (D.contains ·)=true:=by decide +kernel)
  (hl:l=L false false false false false:=by rfl) (hf:(L false false false false false).toList.count false=fuel:=by kernel_rfl) (hk:(L true true true true true).toList.count false=k:=by kernel_rfl):wpAnyH P md ops Q S fuel l a w:=by
 refine EJ (λl a w=>∃b d e f g,l=L b d e f g/\Jq b d e f g a w) ?_ ?_ fuel l a w (by rw[hl];exact hf) ⟨false,false,false,false,false,hl,h0⟩
 .grind
 grind
