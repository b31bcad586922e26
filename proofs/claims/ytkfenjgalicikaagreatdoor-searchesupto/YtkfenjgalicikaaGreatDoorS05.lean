import Derived.Test.YtkfenjgalicikaaGreatDoorS03
import Derived.Test.YtkfenjgalicikaaGreatDoorS04
set_option linter.all false
set_option maxRecDepth 100000
set_option maxHeartbeats 0
namespace Go.Proofs.Zz
open Go.RowKit Go.Shelf Go.Proofs.Tryz
open List renaming length->N,getD->E
open Go.Value renaming slice->Z,int->I,bool->Qq
open Go.Proofs.Tryz renaming prog->V
open Option renaming some->O,none->Qr
open Go.IntKind renaming i64->J
open Bool renaming false->F,true->T
open Go renaming World->U
open Go.Obj renaming cells->Qs
variable {rk:Nat->Int} {t:bF} {g:JK aK} {ts:JK af} {q:ae} {l:JK bF} {b d n s:Nat} {σ:fE} {conc:JK Nat} {o picks:IC} {kE:Int} {acc:JK (IC)}
def sM(n:Nat)(gs:JK (JK aK))(t:bB):Prop:=
 (t.2=0/\∃i,i<n/\t.1=2 ^ i)∨
 (t.2≠0/\t.1<N gs/\t.2<N gs/\t.1 &&& t.2=0/\(df (E gs t.1 [])).isSome=T/\(df (E gs t.2 [])).isSome=T)
structure tY(q:ae)(σ:fE):Prop where
 qw:N σ.az=2 ^ (N q.au.xs)-1
 nN:∀s,s<N σ.az->zh q s (E σ.az s [])
 task:∀t∈σ.aL,sM (N q.au.xs) σ.az t
 bP:oK q σ.bP
 ig:N σ.bP.ns<=800
structure GQ(q:ae)(σ:fE):Prop where
 core:tY q σ
 U5:σ.status=1->0<N σ.aL
 apu:N σ.aL<=64*(N σ.picks+1)
theorem Gb{a:JK bB}{t x:bB}(h:x∈jH rk a t):x∈a∨x=t:=by unfold jH at h;grind
theorem Nz(rk:Nat->Int)(a:JK bB)(t:bB):N (jH rk a t)<=N a+1:=by unfold jH;grind
theorem Et{rk:Nat->Int}{s:Nat}{gs:JK (JK aK)}:∀(ks:JK Nat) (a:JK bB) (x:bB),x∈ks.foldl (fU rk s gs) a->x∈a∨∃k∈ks,(df (E gs k [])).isSome=T/\k &&& s=0/\(x=(s,k)∨x=(k,s))
 |[],_,_,h=>.inl h
 |k::ks,a,x,h=>by
  rcases Et ks (fU rk s gs a k) x h with h|⟨k',hk,h1,h2,h3⟩
  .unfold fU at h;split at h
   .rename_i hc
    rw[Q8,Zi]at hc;rcases Gb h with h|h
    .rcases Gb h with h|h
     .exact .inl h
     simp_all
    simp_all
   simp_all
  grind
theorem Eu(rk:Nat->Int)(s:Nat)(gs:JK (JK aK)):∀(ks:JK Nat) (a:JK bB),N (ks.foldl (fU rk s gs) a)<=N a+2*N ks
 |[],_=>Qa
 |k::ks,a=>by
  refine ZU (Eu rk s gs ks (fU rk s gs a k)) ?_;have:N (fU rk s gs a k)<=N a+2:=by
   unfold fU;split
   .have h1:=Nz rk (jH rk a (s,k)) (k,s);have h2:=Nz rk a (s,k);omega
   .omega
  grind
def Kj(h:(df g).isSome=T):(df (jS g t)).isSome=true:=by
 match g,h with
 |[],h=>cases h
 |(_,Qr)::_,h=>cases h
 |(o,O y)::r,_ =>
  show (df (kV _ t (o,O y)::_)).isSome=T;unfold kV;split <;> rfl
def Bp:∀{l:JK bF} {x:Bool × JK aK},(df x.2).isSome=T->(df (l.foldl jh x).2).isSome=T
 |[],_,h=>h
 |t::l,x,h=>Bp (l:=l) (x:=jh x t) (Kj h)
def Gc{ts:JK af}{q:ae}:∀{os:JK (IC)} {g:JK aK},(df g).isSome=T->(df (os.foldl (fT ts q) g)).isSome=T
 |[],_,h=>h
 |o::os,g,h=>Gc (os:=os) (g:=fT ts q g o) (Kj h)
def PW(h:(df g).isSome=T):(df (bq ts q g l).2).isSome=true:=by
 unfold bq;split
 .exact Gc (Bp (x:=(F,g)) h)
 .exact Bp (x:=(F,g)) h
theorem oD(gs:JK (JK aK))(s k:Nat)(g:JK aK):E (gs.set s g) k []=if s=k/\s<N gs then g else E gs k []:=by grind
theorem sM.set{n:Nat}{gs:JK (JK aK)}{t:bB}(h:sM n gs t){s:Nat}{g:JK aK}(hg:(df (E gs s [])).isSome=T->(df g).isSome=T):sM n (gs.set s g) t:=by
 rcases h with h|⟨a,f,i,b,d,e⟩
 .exact .inl h
 .have key:∀k,(df (E gs k [])).isSome=T->(df (E (gs.set s g) k [])).isSome=true:=λk j=>by grind
  exact .inr ⟨a,Qf,Qf,b,key _ d,key _ e⟩
def zh.zero(h:zh q 0 g):(df g).isSome=false:=by
 obtain⟨a,r,rfl,b⟩:=h.head
 cases a with
 |none=>rfl
 |some y=>simp_all
theorem YY(h:oK q t):∀x∈dQ ts q t,oK q x/\N x.ns<=N t.ns+3:=by have b:=Sm (ts:=ts) h;have d:=Sm (ts:=ts) (Ec (ts:=ts) (aR q) h);have e:=wm ts q t (aR q);intro x a;unfold dQ at a;grind
def Gd(b:bF):∀(l:JK bF),iY b l=b∨iY b l∈l:=by
 intro l;unfold iY
 induction l generalizing b with
 |nil=>simp_all
 |cons t l ih =>
  rw[ZL];rcases ih (nJ b t) with h|h
  .rw[h];unfold nJ;split
   .simp_all
   simp_all
  simp_all
theorem alu{b:bF}(hb:oK q b/\N b.ns<=800)(ht:oK q t/\N t.ns<=700):oK q (lK ts q b t)/\(lK ts q b t).ns.length<=800:=by
 unfold lK;rcases Gd b (dQ ts q t) with h|h
 .simp_all
 .have:=YY (ts:=ts) ht.1 _ h
  grind
def YZ{ts:JK af}{q:ae}:∀{l:JK bF} {b:bF},(oK q b/\N b.ns<=800)->(∀t∈l,oK q t/\N t.ns<=700)->oK q (l.foldl (lK ts q) b)/\(l.foldl (lK ts q) b).ns.length<=800
 |[],_,h,_=>h
 |t::l,b,h,hl=>YZ (l:=l) (b:=lK ts q b t) (alu h (hl t Ji)) (λx hx=>hl x (ZV _ hx))
theorem Y6(h:tY q σ)(h5:N q.au.xs<=5)(hs:s<2 ^ (N q.au.xs))(h0:0<s)(hl:∀t∈l,V5 q s t) :
  tY q (ed rk ts q s l σ)/\(ed rk ts q s l σ).aL.length<=N σ.aL+62/\(ed rk ts q s l σ).picks=σ.picks/\(ed rk ts q s l σ).status=σ.status/\(ed rk ts q s l σ).cut=σ.cut:=by
 have r:2 ^ (N q.au.xs)<=32:=ZP (n:=2) X h5;unfold ed;by_cases p:s=2 ^ (N q.au.xs)-1
 .rw[Zd p];have j:=YZ (ts:=ts) (l:=l) (b:=σ.bP) ⟨h.bP,h.ig⟩ (λt d=>⟨(hl t d).ok,Qj ((hl t d).len)⟩);exact⟨⟨h.qw,h.nN,h.task,j.1,j.2⟩,Nat.le_add_right _ _,rfl,rfl,rfl⟩
 rw[Zk p];have g:s<N σ.az:=by rw[h.qw];omega
 have z:=Bg (ts:=ts) (h.nN s g) hl;have u:N (σ.az.set s (bq ts q (E σ.az s []) l).2)=N σ.az:=JB ..;refine⟨⟨?_,λk m=>?_,λt d=>?_,h.bP,h.ig⟩,?_,rfl,rfl,rfl⟩
 .show (N (σ.az.set s _))=_
  rw[JB];exact h.qw
 .show zh q k (E (σ.az.set s _) k [])
  rw[oD];split
  .simp_all
  .refine h.nN k ?_
   simp_all
 .have d:t∈(if (bq ts q (E σ.az s []) l).1=T then ng rk s (σ.az.set s (bq ts q (E σ.az s []) l).2) σ.aL else σ.aL):=d
  show sM _ (σ.az.set s (bq ts q (E σ.az s []) l).2) t;have yA:∀t∈σ.aL,sM (N q.au.xs) (σ.az.set s (bq ts q (E σ.az s []) l).2) t:=λt d=>(h.task t d).set (λh=>PW h);split at d
  .rename_i hi
   rcases Et _ _ _ d with d|⟨k,m,f,v,y⟩
   .simp_all
   .have m:k<N σ.az:=Qf
    have i:k≠0:=λe=>by rw[e,oD,Zk (λh=>X)]at f;rw[(h.nN 0 X).zero]at f;cases f
    have a:(df (E (σ.az.set s (bq ts q (E σ.az s []) l).2) s [])).isSome=true:=by simp_all
    rcases y with rfl|rfl
    .exact .inr ⟨i,X,X,Qb,a,f⟩
    .exact .inr ⟨X,X,X,v,f,a⟩
  simp_all
 .show (N (if _ then ng rk s _ σ.aL else σ.aL))<=_
  split
  .refine ZU (Eu rk s _ _ _) ?_;rw[ZY,u,h.qw];omega
  .omega
def Bq(i:Nat)(hi:i<5):E (dZ (2 ^ i)) 0 0=(i:Int):=by have:i=0∨i=1∨i=2∨i=3∨i=4:=X;rcases this with rfl|rfl|rfl|rfl|rfl <;> decide
theorem alv(nU:N conc=N q.wh){t:bB}(h:tY q σ)(h5:N q.au.xs<=5)(ht:sM (N q.au.xs) σ.az t) :
  tY q (vU rk ts q conc t σ)/\(vU rk ts q conc t σ).aL.length<=N σ.aL+62/\(vU rk ts q conc t σ).picks=σ.picks/\(vU rk ts q conc t σ).status=σ.status/\(vU rk ts q conc t σ).cut=σ.cut:=by
 unfold vU;rcases ht with⟨h0,i,hi,e⟩|⟨h0,h1,h2,h3,h4,h6⟩
 .rw[Zd h0,e,Bq i X];have d:0<2 ^ i:=Nat.pow_pos X;have b:=wE ts q nU (s:=(i:Int)) X X;refine Y6 h h5 (XR X hi) d (λx a=>?_);rw[XH]at a;rw[a];exact⟨b.1,b.2.1,X⟩
 .rw[Zk h0];rw[h.qw]at h1 h2;refine Y6 h h5 (vZ X X) ?_ (λx a=>?_)
  .grind [Yw]
  .exact Cz nU h3 (h.nN _ (by rw[h.qw];exact h1)) (h.nN _ (by rw[h.qw];exact h2)) h6 x a
def xQ(hn:0<n)(pick:Int):0<=eF n pick/\eF n pick<n:=by unfold eF;have a:=Int.lt_tmod_of_pos pick (show (0:Int)<n by omega);exact⟨Int.tmod_nonneg _ X,Int.tmod_lt_of_pos _ X⟩
def tY.alx(h:tY q σ)(k:Nat)(ps:IC):tY q { σ with picks:=ps,aL:=σ.aL.eraseIdx k }:=
 ⟨h.qw,h.nN,λt a=>h.task t (List.mem_of_mem_eraseIdx a),h.bP,h.ig⟩
theorem aly(nU:N conc=N q.wh)(h:GQ q σ)(h5:N q.au.xs<=5)(h1:σ.status=1)(pick:Int) :
  GQ q (gz rk ts q conc pick σ)/\(gz rk ts q conc pick σ).picks.length=N σ.picks+1:=by
 have f:=h.U5 h1;have i:=xQ f pick;have g:E σ.aL (eF (N σ.aL) pick).toNat (0,0)∈σ.aL:=by simp_all
 have hd:=alv (rk:=rk) (ts:=ts) nU (t:=E σ.aL (eF (N σ.aL) pick).toNat (0,0)) (h.core.alx (eF (N σ.aL) pick).toNat (σ.picks++[eF (N σ.aL) pick])) h5 (h.core.task _ g);have b:N (σ.aL.eraseIdx (eF (N σ.aL) pick).toNat)=N σ.aL-1:=List.length_eraseIdx_of_lt X;unfold gz;simp only;generalize vU rk ts q conc (E σ.aL (eF (N σ.aL) pick).toNat (0,0)) { σ with picks:=σ.picks++[eF (N σ.aL) pick],aL:=σ.aL.eraseIdx (eF (N σ.aL) pick).toNat } = τ at*;obtain⟨a,c2,c3,c4,c5⟩:=hd;simp only at c2 c3 c4 c5;rw[b]at c2;have d:N τ.picks=N σ.picks+1:=by rw[c3];simp
 have j:=h.apu;unfold jT;split
 .rename_i hz
  exact⟨⟨a,λ_=>hz,X⟩,d⟩
 .rename_i hz
  refine⟨⟨⟨a.qw,a.nN,a.task,a.bP,a.ig⟩,λe=>?_,?_⟩,d⟩
  .grind
  simp_all
structure bC.New(f:bC)(n:Nat):Prop where
 ca:∀a,f.ca=O a->n<=a.block
 ra:∀a,f.ra=O a->n<=a.block
 na:∀a,f.na=O a->n<=a.block
 pa:∀a,f.pa=O a->n<=a.block
def CP(rk:Nat->Int)(ts:JK af)(q:ae)(conc:JK Nat)(picks:IC):∀(n k:Nat) (σ:fE),iV rk ts q conc picks (n+1) k σ=if (iV rk ts q conc picks n k σ).status=1 then gz rk ts q conc (jU picks (k+n)) (iV rk ts q conc picks n k σ) else iV rk ts q conc picks n k σ
 |0,k,σ=>rfl
 |n+1,k,σ=>by
  show (if σ.status=1 then iV rk ts q conc picks (n+1) (k+1) (gz rk ts q conc (jU picks k) σ) else σ)=_;have e:iV rk ts q conc picks (n+1) k σ=if σ.status=1 then iV rk ts q conc picks n (k+1) (gz rk ts q conc (jU picks k) σ) else σ:=rfl;by_cases h:σ.status=1
  .rw[Zd h,CP rk ts q conc picks n (k+1),e,Zd h,show k+1+n=k+(n+1) by omega]
  simp_all
theorem wK{rk:Nat->Int}{ts:JK af}{q:ae}{conc:JK Nat}(nU:N conc=N q.wh)(h5:N q.au.xs<=5)(picks:IC){σ:fE}(h:GQ q σ):∀n,GQ q (iV rk ts q conc picks n 0 σ)/\(iV rk ts q conc picks n 0 σ).picks.length<=N σ.picks+n
 |0=>⟨h,Zb _⟩
 |n+1=>by
  obtain⟨h1,h2⟩:=wK (rk:=rk) (ts:=ts) nU h5 picks h n;rw[CP];split
  .rename_i hs
   have:=aly (rk:=rk) (ts:=ts) nU h1 h5 hs (jU picks (0+n));grind
  grind
def Ve(rk:Nat->Int)(ts:JK af)(q:ae)(conc:JK Nat)(picks:IC)(n:Nat)(kE:Int)(σ:fE):fE:=
 if 0<=kE/\kE<n then
  (if (iV rk ts q conc picks kE.toNat 0 σ).status=1 then { iV rk ts q conc picks kE.toNat 0 σ with status:=4 } else iV rk ts q conc picks kE.toNat 0 σ)
 else iV rk ts q conc picks n 0 σ
theorem uX{rk:Nat->Int}{ts:JK af}{q:ae}{conc:JK Nat}{picks:IC}{σ:fE}{d:Nat}(h:(iV rk ts q conc picks d 0 σ).status≠1):∀m,iV rk ts q conc picks (d+m) 0 σ=iV rk ts q conc picks d 0 σ
 |0=>rfl
 |m+1=>by rw[show d+(m+1)=d+m+1 by omega,CP,uX h m,Zk h]
theorem alR(h:(iV rk ts q conc picks d 0 σ).status≠1)(hd:d<=n)(ht:kE<0∨(d:Int)<=kE):Ve rk ts q conc picks n kE σ=iV rk ts q conc picks d 0 σ:=by
 unfold Ve;split
 .rename_i hc
  obtain⟨m,a⟩:∃m,kE.toNat=d+m:=⟨kE.toNat-d,X⟩;rw[a,uX h,Zk h]
 .obtain⟨m,a⟩:∃m,n=d+m:=⟨n-d,X⟩
  grind [uX]
theorem afz(ht:kE<0∨(n:Int)<=kE):Ve rk ts q conc picks n kE σ=iV rk ts q conc picks n 0 σ:=by unfold Ve;grind
def aak(hd:d<n)(h:(iV rk ts q conc picks d 0 σ).status=1):Ve rk ts q conc picks n (d:Int) σ = { iV rk ts q conc picks d 0 σ with status:=4 }:=by unfold Ve;simp_all
def JI:=@CP
theorem sN{a c:Nat}(h:a<=c)(h':b<=d):cO a b<=cO c d:=by grind [cO]
def nP(kind:Int)(s ls rs:Nat){lc rc lc' rc':Nat}(h:lc<=lc')(h':rc<=rc'):dn kind s lc ls rc rs<=dn kind s lc' ls rc' rs:=by
 unfold dn;simp only[AU,Dr];split
 .omega
 split
 .exact sN (sN h h') (Zb _)
 split
 .exact sN h (Zb _)
 split
 .exact sN (sN h (Zb _)) (Zb _)
 .exact sN h (Zb _)
theorem Tk{ls:JK (IC)}{l:IC}:o∈lF ls l↔o∈ls∨o=l:=by grind [lF]
def Kr{jw:Int}:o∈fC ts q s acc jw↔o∈acc∨o=[jw]/\bV s (bn (iR ts q [jw]))=true:=by
 unfold fC;split
 .rename_i h
  rw[Tk];simp_all
 simp_all
def adR(ts:JK af)(q:ae)(s:Nat)(c:aQ)(jw:Int):Prop:=
 (di c.cs).2.2=T/\bV s (bn (iR ts q [(di c.cs).1,(di c.cs).2.1]))=F/\(jw=(di c.cs).1∨jw=(di c.cs).2.1)/\bV s (bn (iR ts q [jw]))=T
def aaw{c:aQ}:o∈kL ts q s acc c↔o∈acc∨∃b,o=[b]/\adR ts q s c b:=by
 unfold kL;split
 .rename_i h
  rw[Q8,Bool.not_eq_true']at h;rw[Kr,Kr];constructor
  .rintro ((e|⟨e,a⟩)|⟨e,a⟩)
   .exact .inl e
   .exact .inr ⟨_,e,h.1,h.2,.inl rfl,a⟩
   .exact .inr ⟨_,e,h.1,h.2,.inr rfl,a⟩
  .rintro (e|⟨b,e,_,_,d|d,a⟩)
   .simp_all
   .simp_all
   simp_all
 .rename_i h
  refine⟨.inl,λe=>e.elim id ?_⟩;rintro⟨b,e,f,g,_⟩;simp_all
theorem Kt{ts:JK af}{q:ae}{s:Nat}{o:IC}:∀(wh:JK aQ) {acc:JK (IC)},o∈wh.foldl (kL ts q s) acc↔o∈acc∨∃c∈wh,∃jw,o=[jw]/\adR ts q s c jw
 |[],acc=>⟨.inl,λe=>e.elim id (λ⟨_,h,_⟩=>by cases h)⟩
 |c::wh,acc=>by rw[ZL,Kt wh,aaw];grind
def sO:o∈dF ts q s↔o=[]∨o=aR q/\bV s (bn (iR ts q (aR q)))=T∨∃c∈q.wh,∃a,o=[a]/\adR ts q s c a:=by
 unfold dF;rw[Kt];split
 .rename_i h
  rw[Tk,XH,or_assoc];simp_all
 simp_all
theorem amM{P:Program}(W:U)(base:Nat)(t ty e:TypeId)(i:TypeInfo)(z:Value)(size bytes:Nat)(ht:P.underlying t=O (.slice e))(hi:P.info? e=O i)(hz:i.zero=O z)(I8:i.size=size)(hby:i.bytes=bytes)(hzs:z.cells.size=size)(ni:0<size)
  (v:Value) (n:Nat) (xs:JK Value) (bG:W.ownsRow base e size v n xs) (hb:base<=W.heap.size) (kz:JK Value) (hl:N kz=size) (h1:∀u∈kz,u.oneCell' = T) (hn:n<=100000000) (hbb:bytes<=1000) :
  ∃p q,(Builtin.append_ #[t,t] ty #[v,Z (O (aD W.heap.size 0)) 1 1]).run P (W.alloc (Qs kz.toArray e))=.ok p q/\q.ownsRow base e size p (n+1) (xs++kz)/\aB (λb=>v.ownBlock≠O b) W q/\(∃a m c,p = Z a m c)/\(p.ownBlock=v.ownBlock∨p.ownBlock=O (W.heap.size+1)/\aB (λ_=>True) W q):=by
 have d:∀j u,kz[j]? = O u->(W.alloc (Qs kz.toArray e)).cell? (((aD W.heap.size 0):Addr).add j)=O u:=λj u L=>by rw[Zn,ZT];simp_all
 have B:(n+1)*bytes<=100000001*1000:=Nat.mul_le_mul X hbb;obtain⟨p,q,f,D,y,_,G⟩:=XL (P:=P) (W.alloc (Qs kz.toArray e)) base t ty e i z size bytes ht hi hz I8 hby hzs ni v n xs (bG.alloc _) (aD W.heap.size 0) 1 1 kz (by rw[hl,Nat.one_mul]) d h1 Qg X (by rw[XM];omega);rw[XM]at G;have C:aB (λb=>v.ownBlock≠O b) W q:=(Xo _ _).trans (Xv y (λr e f=>f e));refine⟨p,q,f,D,C,Xz D,?_⟩;rcases bG.2 with⟨rfl,h0⟩|⟨g,cap,iw,rfl,hbg,y,hnc,hcm,lH,htake⟩
 .rcases G with h|h
  .exact .inl h
  .exact .inr ⟨h,C.mono λb _ _ e=>(by cases e)⟩
 .by_cases K:n+1<=cap
  .left;have A:(W.alloc (Qs kz.toArray e)).heap[g]? = O (Qs iw e (0,0)):=(ZF (Xx.1 y).1).trans y;have k:=run_append_room (P:=P) (W.alloc (Qs kz.toArray e)) t ty e i ht hi g n cap iw A (aD W.heap.size 0) 1 1 kz X d h1 K (by rw[I8,lH,hl];have:=Nat.mul_le_mul_right size K;grind);rw[k]at f;injection f with f _;rw[<-f];rfl
  .right;have l:=bG.alloc (Qs kz.toArray e);have holds:=l.cells (g:=g) rfl;have k:=run_append_grow (P:=P) (W.alloc (Qs kz.toArray e)) t ty e i z ht hi hz (aD g 0) n cap xs Qb holds (aD W.heap.size 0) 1 1 kz X d X X (growslice_fits X (by rw[hby];omega));rw[k]at f;injection f with lN hr2';refine⟨by rw[<-lN];simp[Value.ownBlock],?_⟩;rw[<-hr2'];exact((Xo _ _).trans (Xl ((Za _ _).drew))).trans (Xo _ _)
def GH(ao bo:LM)(cap pQ:Nat)(xs:IC)(w:U)(hx:aP w ao xs)(hy:aP w bo xs) :
  Calls V 62 #[Z ao (N xs) cap,Z bo (N xs) pQ] w λe j=>e=.returned (Qq T)/\∃n,j = w.drewN n:=by
 have l:=hx.1;have m:((N xs:Int) != N xs)=false:=Qa;go_enter func62,ntmps62;go_wp2;go_loopw [5] (λi wr=>∃k:Nat,k<=N xs/\i=I J k/\∃n,wr=w.drewN n) (λi _=>N xs-(intOf i).toNat)
 case atStart=>exact⟨0,ZR _,rfl,0,rfl⟩
 case round=>
  obtain⟨k,r,rfl,n,rfl⟩:=hrel;by_cases a:k<N xs
  .obtain⟨b,off,rfl,d⟩:=hx.get a;obtain⟨t,u,rfl,f⟩:=hy.get a;have p:=d k a;have q:=f k a;clear d f hx hy;generalize E xs k 0=x at*;have g:(x != x)=false:=Qa
   go_wp2;go_quiet (fail);refine gQ ?_;exact⟨k+1,X,Qe,_,rfl⟩
  .go_wp2;go_ret;exact⟨rfl,_,rfl⟩
theorem Iz{w:U}{xs:IC}{t:TypeId}(h:GB w b t (gF xs))(hl:N xs<=1152921504606846976):aP w (O (aD b 0)) xs:=by refine⟨hl,λi a=>⟨b,0,rfl,?_⟩⟩;rw[ZT,h.cell i];unfold gF;grind
def aqO(xs:IC):(gF xs)[N xs]? = O (I J 77777):=by simp[gF]
def aqP(xs:IC):(gF xs)[N xs+1]? = O (I J 77777):=by simp[gF]
def yg(b:Nat)(bo:LM)(pQ:Nat)(xs:IC)(w:U)(hG:GB w b 3 (gF xs))(hy:aP w bo xs) :
  Cb 53 #[Z (O (aD b 0)) (N xs) (N xs+2),Z bo (N xs) pQ] w (Qq T):=by
 have d:=hy.1;have f:((N xs:Int) != N xs)=false:=Qa;have g:w.cell? (aD b (N xs))=O (I J 77777):=by rw[hG.cell,aqO]
 have i:w.cell? (aD b (N xs+1))=O (I J 77777):=by rw[hG.cell,aqP]
 have a:=GH (O (aD b 0)) bo (N xs+2) pQ xs w (Iz hG d) hy;go_enter func53,ntmps53;go_wp2_with fail;refine a.mono ?_;clear a;rintro e j ⟨rfl,n,rfl⟩;go_wp2;go_ret;exact⟨rfl,Zg (Za _ _) _⟩
def OQ(b:Nat)(w:U)(hG:GB w b 3 #[I J 77777]) :
  Ce 96 #[Z (O (aD b 0)) 1 1] w (Qq T):=by have a:w.cell? (aD b 0)=O (I J 77777):=hG.cell 0;go_enter func96,ntmps96;go_wp2;go_ret;exact⟨rfl,rfl⟩
def aa5(ad:LM)(n cap:Nat)(w:U) :
  Cb 121 #[.agg #[Z ad n cap]] w (Qq (decide (3<n))):=by go_enter func121,ntmps121;go_wp2;go_ret;exact⟨QZ (decide_eq_decide.2 X),fo _ _⟩
def aei(ao:LM)(cap:Nat)(ls:JK aQ)(w:U)(hx:fD w ao ls) :
  Calls V 162 #[Z ao (N ls) cap,.func (.func 121) #[] #[]] w λe B=>∃r,e=.returned (I J r)/\LJ r (ls.any λc=>decide (3<N c.cs))/\Bw w B:=by
 have D:=hx.1;go_enter func162,ntmps162;go_wp2;go_loopw [8] (λi wr=>∃k:Nat,k<=N ls/\i=I J k/\Hid (∀j,j<k->decide (3<(E ls j lz).cs.length)=F)/\Bw w wr) (λi _=>N ls-(intOf i).toNat)
 case atStart=>exact⟨0,ZR _,rfl,λj n=>absurd n X,Za _ _⟩
 case round=>
  obtain⟨k,G,rfl,v,g⟩:=hrel;by_cases q:k<N ls
  .obtain⟨b,off,rfl,y⟩:=hx.2.1.get q;have l:=cB g (y k q);unfold aQ.val at l;have m:Hid (decide (3<(E ls k lz).cs.length)=T->(ls.any λc=>decide (3<N c.cs))=T):=λh=>Uf (p:=λc:aQ=>decide (3<N c.cs)) (z:=lz) q h
   generalize (E ls k lz).ad=ad,(E ls k lz).cap=cp at*;generalize f:(E ls k lz).cs.length=cl at*;have A:=Zh f;have d:=aa5 ad cl cp wr;clear f y hx;by_cases t:3<cl
   .rw[Zl t]at d;go_wp2_with fail;refine mR d λC a=>?_
    clear d;go_wp2;go_ret;exact⟨_,Q0 rfl,⟨X,by rw[m.o (Zl t)];simp⟩,aO g a⟩
   .rw[ZK t]at d;go_wp2_with fail;refine mR d λC a=>?_
    clear d;go_wp2;go_roundw
    case rel=>
     refine⟨k+1,X,Qe,λj n=>?_,aO g a⟩;by_cases u:j=k
     .subst u;rw[A.o];exact ZK X
     .exact v.o j X
    case measure=>exact XK
  .have m:Hid ((ls.any λc=>decide (3<N c.cs))=F):=Ff (z:=lz) (λj n=>v.o j X);go_wp2;go_ret;exact⟨_,Q0 rfl,⟨X,by rw[m.o];rfl⟩,g⟩
def Rc(ao:LM)(cap:Nat)(ls:JK aQ)(w:U)(hx:fD w ao ls) :
  Cb 120 #[Z ao (N ls) cap,.func (.func 121) #[] #[]] w (Qq (pE ls (N ls))):=by have a:=aei ao cap ls w hx;rw[ake]at a;go_enter func120,ntmps120;go_wp2_with fail;refine a.mono ?_;clear a;rintro e g ⟨r,rfl,d,b⟩;have f:=Zh d.2;clear d;go_wp2;go_ret;exact⟨QZ f.o,b⟩
def aej(q:ae)(w:U)(hq:fD w q.iF q.wh) :
  Cb 82 #[.agg q.cells] w (Qq (mD q.au.xs q.qU q.aC.xs q.aM.xs q.bA.xs q.ord.xs)):=by
 have f:=Zh q.afb;generalize mD q.au.xs q.qU q.aC.xs q.aM.xs q.bA.xs q.ord.xs=FB at*;have j:=λo=>Rc q.iF q.cZ q.wh (w.alloc o) (hq.aj (fo _ _));have n:=hq.1;clear hq;obtain⟨b,z,A,a,aF,l,t,i,ord⟩:=q;simp only at f j n;unfold ae.cells aA.val;simp only;by_cases m:5<N b.xs∨8<N a∨8<N i.xs∨4<N l.xs∨4<N t.xs∨4<N ord.xs
 .have p:=Zh (show T=FB by rw[f.o,Zl m,Bool.true_or]);clear j f;have d:(5<N b.xs)∨(¬5<N b.xs/\8<N a)∨(¬5<N b.xs/\¬8<N a/\4<N ord.xs)∨(¬5<N b.xs/\¬8<N a/\¬4<N ord.xs/\8<N i.xs)∨
   (¬5<N b.xs/\¬8<N a/\¬4<N ord.xs/\¬8<N i.xs/\4<N l.xs)∨(¬5<N b.xs/\¬8<N a/\¬4<N ord.xs/\¬8<N i.xs/\¬4<N l.xs/\4<N t.xs):=X
  clear m;rcases d with e|⟨e,g⟩|⟨e,g,k⟩|⟨e,g,k,r⟩|⟨e,g,k,r,v⟩|⟨e,g,k,r,v,y⟩
  all_goals
   go_enter func82,ntmps82;go_wp2;go_ret;exact⟨QZ p.o,fo _ _⟩
 .have p:=Zh (show pE a (N a)=FB by rw[f.o,ZK m,Bool.false_or]);have e:¬5<N b.xs:=X
  have g:¬8<N a:=X;have k:¬8<N i.xs:=X;have r:¬4<N l.xs:=X;have v:¬4<N t.xs:=X;have y:¬4<N ord.xs:=X;clear f m;generalize pE a (N a)=Yq at*;go_enter func82,ntmps82;go_wp2_with fail;refine mR (j _) λB u=>?_;clear j;go_wp2;go_ret;exact⟨QZ p.o,aO (fo _ _) u⟩
def Vt(q:ae)(w:U)(h1:N q.aC.xs<=1000)(h2:N q.aM.xs<=1000) :
  Cb 126 #[.agg q.cells] w (I J (xA q.aF q.aC.xs q.aM.xs q.bA.xs)):=by
 obtain⟨a,b,d,e,aF,f,g,i,ord⟩:=q;simp only at h1 h2;unfold ae.cells aA.val;cases aF
 .go_enter func126,ntmps126;go_wp2;go_ret;exact⟨Q0 rfl,fo _ _⟩
 .go_enter func126,ntmps126;go_wp2;go_ret;exact⟨Q0 rfl,fo _ _⟩
def Ii(ao:LM)(cap:Nat)(ts:JK af)(WY:LM)(D5:Nat)(xs:IC)(w:U)(hx:aZ w ao ts)(hc:gV ts=T)(hq:aP w WY xs)(h5:N xs<=5)(ha:dm xs (N ts)=T) :
  Ce 123 #[Z ao (N ts) cap,Z WY (N xs) D5] w (I J (aX ts xs)):=by
 obtain⟨d,e⟩:=bH hc ha;clear hc ha;go_enter func123,ntmps123;go_wp2;go_loop [5,10] (λn i=>∃k:Nat,k<=N xs/\i=I J k/\n=I J (aX ts (xs.take k))) (λ_ i=>N xs-(intOf i).toNat)
 case atStart=>exact⟨0,ZR _,rfl,rfl⟩
 case round=>
  obtain⟨k,m,rfl,rfl⟩:=hrel;have g:=mH d.o e.o k m;by_cases a:k<N xs
  .obtain⟨t,p,rfl,f⟩:=hq.get a;have j:=f k a;have q:=qR e.o a;have r:=uK d.o (i:=xs[k].toNat) X;obtain⟨b,off,rfl,c0,-⟩:=hx.2 xs[k].toNat X;have l:=Zh (kW ts xs k a);generalize (E ts xs[k].toNat tz).bU=cc,aX ts (xs.take k)=W0 at*;clear f hx hq;go_wp2;go_round
   case rel=>exact⟨k+1,X,Qe,by rw[l.o]⟩
   case measure=>exact XK
  .go_wp2;go_ret;have:k=N xs:=X
   subst this;simp
def Vu{ls:JK aQ}{n:Int}{k:Nat}(hk:k<N ls)(h:kK (E ls k lz).cs n=F):F=jB (ls.map aQ.cs) n:=
 (@Fa ⟨⟨Qr,0,[]⟩,Qr,0,ls,F,⟨Qr,0,[]⟩,⟨Qr,0,[]⟩,⟨Qr,0,[]⟩,⟨Qr,0,[]⟩⟩ n k hk h).symm
def Re{ls:JK aQ}{n:Int}(h:∀k,k<N ls->kK (E ls k lz).cs n=T):T=jB (ls.map aQ.cs) n:=
 (@Dm ⟨⟨Qr,0,[]⟩,Qr,0,ls,F,⟨Qr,0,[]⟩,⟨Qr,0,[]⟩,⟨Qr,0,[]⟩,⟨Qr,0,[]⟩⟩ n h).symm
def Vv(ao:LM)(cap:Nat)(ls:JK aQ)(n:Int)(w:U)(hx:fD w ao ls) :
  Cb 124 #[Z ao (N ls) cap,I J n] w (Qq (jB (ls.map aQ.cs) n)):=by
 have hl:=hx.1;have y:Hid _:=@Vu ls n;have z:Hid _:=@Re ls n;generalize jB (ls.map aQ.cs) n=R at*;go_enter func124,ntmps124;go_wp2;go_loopw [11] (λi wr=>∃k:Nat,k<=N ls/\i=I J k/\Hid (∀j,j<k->kK (E ls j lz).cs n=T)/\Bw w wr) (λi _=>N ls-(intOf i).toNat)
 case atStart=>exact⟨0,ZR _,rfl,λj e=>absurd e X,Za _ _⟩
 case round=>
  obtain⟨k,hk,rfl,S,u⟩:=hrel;by_cases v:k<N ls
  .obtain⟨b,off,rfl,hc⟩:=hx.2.1.get v;have g:=cB u (hc k v);have d:=hx.2.2 k v;have l:Hid (kK (E ls k lz).cs n=F->F=R):=λh=>y.o v h
   generalize K:E ls k lz=cl at*;have Av:=Zh K;obtain⟨ad,cp,cs⟩:=cl;unfold aQ.val at g;simp only at g d;have aa:=d.1;have P:=u.size;by_cases oq:N cs=0
   .have p:=Zh (l.o (Fb (by simp only;omega)));go_wp2;go_ret;exact⟨QZ p.o,u.alloc P _⟩
   .have Q:((N cs:Int)==0)=false:=by simpa using oq
    have A:=Zh oq;go_wp2;go_loopw [22] (λi C=>∃m:Nat,m<=N cs/\i=I J m/\Hid (∀j,j<m->jW (E cs j cz) n=T)/\Bw w C) (λi _=>N cs-(intOf i).toNat)
    case atStart=>exact⟨0,ZR _,rfl,λj e=>absurd e X,u.alloc P _⟩
    case round=>
     obtain⟨m,hm,rfl,W,a⟩:=hrel;have q:=a.size;by_cases O3:m<N cs
     .obtain⟨b2,ae,rfl,c0,c1,c2,c3,c4⟩:=d.2 m O3;obtain⟨d0,d1,d2,d3,d4⟩:=qi a c0 c1 c2 c3 c4;have r:=λx=>UM (E cs m cz) n x
      unfold aV.val at r;generalize L:E cs m cz=cc at*;have t:=Zh L;cases hcb:jW cc n
      .rw[hcb]at r;have p:=Zh (l.o (IL O3 (by rw[t.o];exact hcb)));go_wp2_with fail;refine mR (r _) λw4 f=>?_
       go_wp2;go_ret;exact⟨QZ p.o,aO (a.alloc q _) f⟩
      .rw[hcb]at r;have B:=Zh hcb;go_wp2_with fail;refine mR (r _) λw4 f=>?_
       go_wp2;go_roundw
       case rel=>
        refine⟨m+1,X,Qe,λj e=>?_,aO (a.alloc q _) f⟩;by_cases D:j=m
        .subst D;rw[t.o];exact B.o
        .exact W.o j X
       case measure=>exact XK
     .have HG:=Zh (Fe (Qj A.o) (λj e=>W.o j X));go_wp2;go_roundw
      case rel=>
       refine⟨k+1,X,Qe,λj e=>?_,a⟩;by_cases G:j=k
       .subst G;rw[Av.o];exact HG.o
       .exact S.o j X
      case measure=>exact XK
  .have p:=Zh (z.o (λj e=>S.o j X));go_wp2;go_ret;exact⟨QZ p.o,u⟩
def DJ(n:Int)(aF:Bool)(aC aM bA:IC):Bool:=
 if aF then decide (N bA=0)&&dm aM n&&dm aC n&&dK aC else decide (0<N bA)&&dm bA n&&decide (N aC=0)&&decide (N aM=0)
theorem Oh(q:ae)(n:Int)(w:U)(hk:q.aC.At w)(hs:q.aM.At w)(he:q.bA.At w)(FJ:N q.aC.xs<=q.aC.cap) :
  Cb 125 #[.agg q.cells,I J n] w (Qq (DJ n q.aF q.aC.xs q.aM.xs q.bA.xs)):=by
 obtain⟨S,W,cZ,wh,aF,⟨r,D,i⟩,⟨z,L,l⟩,⟨A,B,j⟩,ord⟩:=q;unfold aA.At at hk hs he;simp only at hk hs he FJ;unfold ae.cells aA.val;simp only;have G:=he.1;have u:=λx (h:Bw w x)=>rD A B j n x (Zc h he);have k:=λx (h:Bw w x)=>rD z L l n x (Zc h hs);have p:=λx (h:Bw w x)=>rD r D i n x (Zc h hk);have v:=λx (h:Bw w x)=>allDifferent_any r D i x (Zc h hk) FJ;have Q:Hid (DJ n aF i l j=DJ n aF i l j):=rfl;generalize f:DJ n aF i l j=R at*;unfold DJ at f;generalize dm j n=A1,dm l n=A2,dm i n=A3,dK i=A4 at*;cases aF
 .simp only[Bool.false_eq_true,if_false]at f;by_cases C:0<N j
  .rw[Zl C,Zm]at f
   cases A1
   .have d:=Zh (show F=R by rw[<-f];rfl);go_enter func125,ntmps125;go_wp2_with fail;refine mR (u _ (fo _ _)) λm a=>?_
    go_wp2;go_ret;exact⟨QZ d.o,aO (fo _ _) a⟩
   .rw[Zm]at f;by_cases t:N i=0
    .have y:((N i:Int)==0)=true:=by simpa using t
     have d:=Zh (show ((N l:Int)==0)=R by rw[<-f,Zl t,Zm,ae9]);go_enter func125,ntmps125;go_wp2_with fail;refine mR (u _ (fo _ _)) λm a=>?_;have b:=zR a;simp at b;go_wp2;go_ret;exact⟨QZ d.o,aO (fo _ _) a⟩
    .have y:((N i:Int)==0)=false:=by simpa using t
     have d:=Zh (show F=R by rw[<-f,ZK t];rfl);go_enter func125,ntmps125;go_wp2_with fail;refine mR (u _ (fo _ _)) λm a=>?_;have b:=zR a;simp at b;go_wp2;go_ret;exact⟨QZ d.o,aO (fo _ _) a⟩
  .have d:=Zh (show F=R by rw[<-f,ZK C];rfl);go_enter func125,ntmps125;go_wp2;go_ret;exact⟨QZ d.o,fo _ _⟩
 .simp only[if_true]at f;by_cases C:0<N j
  .have d:=Zh (show F=R by grind);go_enter func125,ntmps125;go_wp2;go_ret;exact⟨QZ d.o,fo _ _⟩
  .rw[Zl (show N j=0 by omega),Zm]at f
   cases A2
   .have d:=Zh (show F=R by rw[<-f];rfl);go_enter func125,ntmps125;go_wp2_with fail;refine mR (k _ (fo _ _)) λm a=>?_
    go_wp2;go_ret;exact⟨QZ d.o,aO (fo _ _) a⟩
   .rw[Zm]at f
    cases A3
    .have d:=Zh (show F=R by rw[<-f];rfl);go_enter func125,ntmps125;go_wp2_with fail;refine mR (k _ (fo _ _)) λm a=>?_
     have b:=zR a;simp at b;go_wp2_with fail;refine mR (p _ (aO (fo _ _) a)) λP g=>?_;go_wp2;go_ret;exact⟨QZ d.o,aO (aO (fo _ _) a) g⟩
    .have d:=Zh (show A4=R by rw[<-f,Zm]);clear f;go_enter func125,ntmps125;go_wp2_with fail;refine mR (k _ (fo _ _)) λm a=>?_
     have b:=zR a;simp at b;go_wp2_with fail;refine mR (p _ (aO (fo _ _) a)) λP g=>?_;have hz:w.heap.size<m.heap.size:=by have:=a.size;simp at this;omega
     have K:=zR g;go_wp2_with fail;refine(v _ (aO (aO (fo _ _) a) g)).mono ?_;rintro e w4 ⟨rfl,rfl⟩;go_wp2;go_ret;exact⟨QZ d.o,aO (aO (fo _ _) a) g⟩
def aB.alj{s:Pm}(w:U):aB s w w.drew:=Xl ((Za w.heap.size w).drew)
def SL(L:JK aA)(R:JK Value):Array Value:=(L.map aA.val++R).toArray
