import Derived.Test.YtkfenjgalicikaaGreatDoorS07
import Derived.Test.YtkfenjgalicikaaGreatDoorS09
set_option linter.all false
set_option maxRecDepth 100000
set_option maxHeartbeats 0
namespace Go.Proofs.Zz
open Go.RowKit Go.Shelf Go.Proofs.Tryz
open List renaming length->N,getD->E
open Go.Value renaming slice->Z,int->I,pointer->Y,bool->Qq,agg->Qt
open Go.Proofs.Tryz renaming prog->V
open Option renaming some->O,none->Qr
open Go.IntKind renaming i64->J,u64->Qp
open Bool renaming false->F,true->T
open Go renaming World->U
open Go.World renaming heap->H,setCell->Qn,cell?->Qo
open _root_.Array renaming size->M
open Go.RowKit renaming Hid->Qm
open Go.Obj renaming cells->Qs
open Go.Ending renaming returned->Qu
variable {gb i k n:Nat} {t:bF} {p:aK} {x:Nat × bF} {g:JK aK} {ts:JK af} {q:ae} {f:bC} {Fq:Pm} {W0 w:U} {A:Nat->Nat} {os:JK aA} {Tp Tq:TypeId}
structure Tg(g:JK aK):Prop where
 tag:∀p∈g,∀p'∈g,∀x x':Nat × bF,p.2=O x->p'.2=O x'->x.1=x'.1->x.2=x'.2
 ord:∀p∈g,∀x:Nat × bF,p.2=O x->aN x.2.d.aH p.1=T
theorem CR:∀{g:JK aK} {p:aK} {x:Nat × bF},p∈g->p.2=O x->x.1<iL g
 |[],_,_,h,_=>by cases h
 |(o,Qr)::g,p,x,h,e=>by
  rcases ZB.1 h with rfl|h
  .cases e
  .exact CR (g:=g) h e
 |(o,O y)::g,p,x,h,e=>by
  show x.1<max (y.1+1) (iL g);rcases ZB.1 h with rfl|h
  .grind
  .have:=CR (g:=g) h e;omega
def LZ(h:(kV n t p).2=O x):(x=(n,t)/\aN t.d.aH p.1=T)∨p.2=O x:=by
 unfold kV at h;split at h
 .rename_i hc
  unfold jE at hc;simp_all
 simp_all
theorem Tg.DI(h:Tg g)(t:bF):Tg (jS g t):=by
 refine⟨λp b l d x m e a n=>?_,λp b x e=>?_⟩
 .obtain⟨i,f,rfl⟩:=Xc.1 b;obtain⟨k,j,rfl⟩:=Xc.1 d;rcases LZ e with⟨rfl,_⟩|e
  .rcases LZ a with⟨rfl,_⟩|a
   .rfl
   .have:=CR j a;omega
  .rcases LZ a with⟨rfl,_⟩|a
   .have:=CR f e;omega
   grind [Tg.tag]
 .obtain⟨i,f,rfl⟩:=Xc.1 b;rw[Be];rcases LZ e with⟨rfl,hs⟩|e
  .exact hs
  grind [Tg.ord]
def Tg.Bu:∀(l:JK bF) {x:Bool × JK aK},Tg x.2->Tg (l.foldl jh x).2
 |[],_,h=>h
 |t::l,x,h=>Tg.Bu l (x:=jh x t) (h.DI t)
theorem Tg.zq{ts:JK af}{q:ae}:∀(os:JK (IC)) {g:JK aK},Tg g->Tg (os.foldl (fT ts q) g)
 |[],_,h=>h
 |_::os,_,h=>Tg.zq os (h.DI _)
def Tg.zu(h:Tg g)(l:JK bF):Tg (bq ts q g l).2:=by
 unfold bq;split
 .exact Tg.zq _ (Tg.Bu l (x:=(F,g)) h)
 .exact Tg.Bu l (x:=(F,g)) h
def Tg.new(os:JK (IC)):Tg (fw os):=by
 have key:∀p∈fw os,p.2=none:=λp a=>by obtain⟨o,_,rfl⟩:=Xc.1 a;rfl
 refine⟨λp a _ _ x _ e=>?_,λp a x e=>?_⟩ <;> (rw[key p a]at e;cases e)
theorem Kq:∀(g:JK aK) {acc:JK (Nat × bF)} {y:Nat × bF},y∈acc->y∈g.foldl mQ acc
 |[],_,_,h=>h
 |p::g,acc,y,h=>by refine Kq g (acc:=mQ acc p) ?_;grind [mQ]
theorem NI:∀(g:JK aK) (acc:JK (Nat × bF)) {p:aK} {x:Nat × bF},p∈g->p.2=O x->∃y∈g.foldl mQ acc,y.1=x.1
 |[],_,_,_,h,_=>by cases h
 |p0::g,acc,p,x,h,e=>by
  rcases ZB.1 h with rfl|h
  .rw[ZL];have:∃y∈mQ acc p,y.1=x.1:=by grind [mQ]
   obtain⟨y,hy,e2⟩:=this;exact⟨y,Kq g hy,e2⟩
  .exact NI g _ h e
theorem Tg.FY(h:Tg g)(hp:p∈g)(e:p.2=O x):∃n,(n,x.2)∈fB g:=by
 obtain⟨y,d,j⟩:=NI g [] hp e;rcases oz g [] y d with a|⟨f,b,i⟩
 .cases a
 grind [Tg.tag,fB]
theorem NJ(jw:Int):∀(l:JK (Nat × bF)) (m:Option bF) {t:bF},(m=O t∨aN t.d.aH [jw]=T/\∃n,(n,t)∈l)->∃u,l.foldl (pW jw) m=O u/\u.d.aJ<=t.d.aJ
 |[],m,t,h=>by simp_all
 |x::l,m,t,h=>by
  have trans:∀v:bF,(pW jw m x=O v)->v.d.aJ<=t.d.aJ->∃u,(x::l).foldl (pW jw) m=O u/\u.d.aJ<=t.d.aJ:=λv e hv=>by obtain⟨u,h1,h2⟩:=NJ jw l (pW jw m x) (.inl e);grind
  rcases h with rfl|⟨hs,n,h⟩
  .unfold pW at trans;by_cases c:(aN x.2.d.aH [jw]&&decide (x.2.d.aJ<t.d.aJ))=T
   .refine trans x.2 (Zd c) ?_
    grind
   .exact trans t (Zk c) (Zb _)
  .rcases ZB.1 h with rfl|h
   .unfold pW at trans;simp only[hs,Zm]at trans
    cases m with
    |none=>exact trans t rfl (Zb _)
    |some y =>
     by_cases c:t.d.aJ<y.d.aJ
     .exact trans t (Zd (Zl c)) (Zb _)
     .exact trans y (Zk (λe=>c (Xf e))) X
   .exact NJ jw l (pW jw m x) (.inr ⟨hs,n,h⟩)
theorem Te(jw:Int):∀(l:JK (Nat × bF)) (m:Option bF),(∀t,m=O t->aN t.d.aH [jw]=T)->∀t,l.foldl (pW jw) m=O t->aN t.d.aH [jw]=T
 |[],_,h=>h
 |x::l,m,h=>by
  refine Te jw l (pW jw m x) λt e=>?_;have k:∀z:Bool,(if (aN x.2.d.aH [jw]&&z)=T then O x.2 else m)=O t->aN t.d.aH [jw]=true:=λz e=>by grind
  exact k _ e
def Tg.att(h:Tg g)(hp:p∈g)(e:p.2=O x){jw:Int}(hs:aN x.2.d.aH [jw]=T):∃m,zZ g jw=O m/\m.d.aJ<=x.2.d.aJ/\aN m.d.aH [jw]=true:=by obtain⟨n,b⟩:=h.FY hp e;obtain⟨m,a,f⟩:=NJ jw (fB g) Qr (.inr ⟨hs,n,b⟩);exact⟨m,a,f,Te jw _ Qr (λ_ e=>by cases e) m a⟩
theorem zx{ts:JK af}{q:ae}{l r:bF}{g:JK aK}{cl:IC}:∀(ks:IC) {acc:JK bF} {t:bF},t∈acc->t∈ks.foldl (ll ts q l r g cl) acc
 |[],_,_,h=>h
 |k::ks,acc,t,h=>by refine zx ks (acc:=ll ts q l r g cl acc k) ?_;unfold ll;grind
theorem Tf{ts:JK af}{q:ae}{l r:bF}{g:JK aK}{cl:IC}{key:Int}{x y:Int}(hk:lZ ts q (fq 4 cl key) l.d.ah r.d.ah=(x,y,T)):∀(ks:IC) (acc:JK bF),key∈ks->
  aS ts q (fq 4 cl key) [l,r]∈ks.foldl (ll ts q l r g cl) acc/\(aN l.d.aH [x]=T->∀m,zZ g y=O m->aS ts q (fq 5 cl key) [l,m]∈ks.foldl (ll ts q l r g cl) acc)
 |[],_,h=>by cases h
 |k::ks,acc,h=>by
  rcases ZB.1 h with rfl|h
  .rw[ZL];have a:aS ts q (fq 4 cl key) [l,r]∈ll ts q l r g cl acc key/\(aN l.d.aH [x]=T->∀m,zZ g y=O m->aS ts q (fq 5 cl key) [l,m]∈ll ts q l r g cl acc key):=by unfold ll;grind
   exact⟨zx ks a.1,λb m e=>zx ks (a.2 b m e)⟩
  .exact Tf hk ks _ h
def Tj{conc:JK Nat}{f:JK aK}{l r:bF}(hl:(n,l)∈fB f)(hr:df g=O r){cl:IC}(iX:cl=dZ (bX conc l.d.ah r.d.ah)) :
  aS ts q (fq 3 cl 0) [l,r]∈jo ts q conc f g/\∀key∈cl,∀x y,lZ ts q (fq 4 cl key) l.d.ah r.d.ah=(x,y,T)->
   aS ts q (fq 4 cl key) [l,r]∈jo ts q conc f g/\(aN l.d.aH [x]=T->∀m,zZ g y=O m->aS ts q (fq 5 cl key) [l,m]∈jo ts q conc f g):=by
 have e:jJ ts q conc l g=cl.foldl (ll ts q l r g cl) [aS ts q (fq 3 cl 0) [l,r]]:=by unfold jJ;simp_all
 have b:∀t∈jJ ts q conc l g,t∈jo ts q conc f g:=λt i=>ZA.2 ⟨(n,l),hl,i⟩;rw[e]at b;refine⟨b _ (zx _ (XH.2 rfl)),λkey j x y a=>?_⟩;obtain⟨k,p⟩:=Tf (g:=g) a cl [aS ts q (fq 3 cl 0) [l,r]] j;simp_all
def Tryz.ahp:(V.info? 144).map (λi=>i.size)=O 14:=Qd
theorem Tryz.ak6:∃j,V.info? 144=O j/\j.size≠0:=by
 have h:=Tryz.ahp
 cases hi:V.info? 144 with
 |none=>rw[hi]at h;cases h
 |some j =>
  grind
theorem UN(ao:LM)(cap:Nat)(xs:JK Nat)(v:Nat)(w:U)(hx:gy w ao xs)(hv:∃c t,w.heap[v]? = O (Qs c t (0,0)))(Uu:∀x∈xs,∃c t,w.heap[x]? = O (Qs c t (0,0))) :
  Calls V 274 #[Z ao (N xs) cap,Y (O (aD v 0))] w λe K=>∃r:Int,e=Qu (I J r)/\Qm (0<=r↔v∈xs)/\K = w:=by
 have L:=hx.1;have B:Qm (∀x∈xs,(binOp .eql 136 (Y (O (aD v 0))) (Y (O (aD x 0)))).run V w=.ok (Qq (decide (v=x))) w):=λx d=>by
  obtain⟨j,u,n⟩:=Tryz.ak6;by_cases e:v=x
  .subst e;rw[run_eql_ptr_same w (aD v 0) underlying136 u];simp
  .obtain⟨P,Q,p⟩:=hv;obtain⟨R,S,q⟩:=Uu x d;rw[run_eql_ptr_other w underlying136 u n (by intro h;injection h with h;exact e h) p q];simp[e]
 have C:=Zh hx;clear hx hv Uu;go_enter func274,ntmps274;go_wp2;go_loop [8] (λi=>∃k:Nat,k<=N xs/\i=I J k/\Qm (v ∉ xs.take k)) (λi=>N xs-(intOf i).toNat)
 case atStart=>exact⟨0,ZR _,rfl,by show _ ∉ _;simp⟩
 case round=>
  obtain⟨k,W,rfl,G⟩:=hrel;by_cases f:k<N xs
  .obtain⟨b,off,rfl,y⟩:=gy.get C.o f;have D:=y k f;have d:E xs k 0∈xs:=XI f;have g:=B.o _ d;obtain⟨z,A⟩:=bH (Jt xs 0 f) d;generalize E xs k 0=x at D g z A;clear y d;by_cases a:v=x
   .have l:=Zh a;rw[Zl a]at g;clear a;go_wp2;go_ret;exact⟨k,rfl,⟨λ_=>by rw[l.o];exact A.o,λ_=>X⟩,rfl⟩
   .have l:Qm _:=a;rw[ZK a]at g;clear a;go_wp2;go_round
    case rel=>exact⟨k+1,X,Qe,by
     show _ ∉ _;rw[z.o,Z5,XH];rintro (h|h)
     .exact G.o h
     .exact l.o h⟩
    case measure=>exact XK
  .have e:N xs=k:=X
   have m:Qm (v ∉ xs):=by grind
   go_wp2;go_ret;exact⟨-1,rfl,⟨λh=>absurd h X,λh=>absurd h m.o⟩,rfl⟩
def Ll(ao:LM)(cap:Nat)(xs:JK Nat)(v:Nat)(w:U)(hx:gy w ao xs)(hv:∃c t,w.heap[v]? = O (Qs c t (0,0)))(Uu:∀x∈xs,∃c t,w.heap[x]? = O (Qs c t (0,0))) :
  Ce 254 #[Z ao (N xs) cap,Y (O (aD v 0))] w (Qq (decide (v∈xs))):=by have h:=UN ao cap xs v w hx hv Uu;clear hx hv Uu;go_enter func254,ntmps254;go_wp2_with fail;refine h.mono ?_;clear h;rintro e b ⟨r,rfl,a,rfl⟩;go_wp2;go_ret;exact⟨QZ (by rw[Xa,Zi,Zi];exact a.o),rfl⟩
def zi(h:dJ 144 206 Fq w gb A os g)(h0:0<N g)(gc:Nat) :
  Ce 252 #[Z (O (aD gb 0)) (N g) gc] w (YC A (E g 0 sJ).2):=by obtain⟨-,a⟩:=h.cells h0;clear h;rw[X8,ZT]at a;generalize YC A (E g 0 sJ).2=pv at*;go_enter func252,ntmps252;go_wp2;go_ret;exact⟨rfl,rfl⟩
def YI(Eq:vS f ts q W0)(hz:Fz Fq W0 w)(a b:Nat)(ha:a<2 ^ (N q.au.xs))(hb:b<2 ^ (N q.au.xs)) :
  Cb 255 #[Qt (f.cells ts q),I Qp (a:Int),I Qp (b:Int)] w (I Qp ((bX (bE ts q) a b:Nat):Int)):=by
 obtain⟨v0,p,v2,v3,v4,v5,r,t,u,v9,v,y,z,iq,-⟩:=Jh f ts q;have V3:2 ^ (N q.au.xs)<=18446744073709551616:=ZP (n:=2) X Eq.ok.ig;have g:∀s,bJ (bE ts q) s<18446744073709551616:=λs=>ZO (lU _ _ (N (bE ts q))) (ZP (n:=2) X (show N (bE ts q)<=64 by rw[XN];exact Eq.ok.qU));have jC:=vZ ha hb;have j:Qm (∀(x:U) (s:Nat),s<18446744073709551616->Bw w x->Cb 222 #[Qt #[v0,p,v2,v3,v4,v5,r,t,u,v9,v,y,z],I Qp (s:Int)] x (I Qp ((bJ (bE ts q) s:Nat):Int))):=λx s hs l=>by rw[<-iq];exact Ki f ts q s x Eq.ok ((Eq.oO hz).aj l) hs
 have hR:bX (bE ts q) a b=bJ (bE ts q) (a|||b) &&& (18446744073709551615-(bJ (bE ts q) a|||bJ (bE ts q) b)):=rfl;rw[hR,iq];have m:Qm (a<18446744073709551616/\b<18446744073709551616/\a|||b<18446744073709551616):=⟨X,X,X⟩;have h1:=g (a|||b);have S:=g a;have W:=g b;have A:Qm (∀x,Bw w x->Cb 222 #[Qt #[v0,p,v2,v3,v4,v5,r,t,u,v9,v,y,z],I Qp ((a|||b:Nat):Int)] x (I Qp ((bJ (bE ts q) (a|||b):Nat):Int))):=λx l=>j.o x _ m.o.2.2 l;have B:Qm (∀x,Bw w x->Cb 222 #[Qt #[v0,p,v2,v3,v4,v5,r,t,u,v9,v,y,z],I Qp (a:Int)] x (I Qp ((bJ (bE ts q) a:Nat):Int))):=λx l=>j.o x _ m.o.1 l;have C:Qm (∀x,Bw w x->Cb 222 #[Qt #[v0,p,v2,v3,v4,v5,r,t,u,v9,v,y,z],I Qp (b:Int)] x (I Qp ((bJ (bE ts q) b:Nat):Int))):=λx l=>j.o x _ m.o.2.1 l;generalize bJ (bE ts q) (a|||b)=A1,bJ (bE ts q) a=A2,bJ (bE ts q) b=A3 at*;have h4:A2|||A3<18446744073709551616:=vZ (n:=64) S W;have aa:=u64_andNot_nat A1 (A2|||A3) h1 h4;have D:Qm (∀(x:U) (c:Nat),Qo x (aD c 0)=O (I Qp (a:Int))->Qo x (aD c 1)=O (I Qp (b:Int))->Ce 139 #[Z (O (aD c 0)) 2 2] x (I Qp ((a|||b:Nat):Int))):=λx c Q R=>qD c a b x Q R m.o.1 m.o.2.1;have G:Qm (∀(x:U) (c:Nat),Qo x (aD c 0)=O (I Qp (A2:Int))->Qo x (aD c 1)=O (I Qp (A3:Int))->Ce 139 #[Z (O (aD c 0)) 2 2] x (I Qp ((A2|||A3:Nat):Int))):=λx c Q R=>qD c A2 A3 x Q R S W;generalize a|||b=ab,A2|||A3=A23 at*;generalize A1 &&& (18446744073709551615-A23)=RR at*;obtain⟨w1,dB,bL,P⟩:=bI w #[v0,p,v2,v3,v4,v5,r,t,u,v9,v,y,z] 118;obtain⟨a0,a1,a2,a3,a4,a5,a6,a7,a8,a9,wU,yD,yE⟩:=P.vV;have i:=Zh bL;go_enter func255,ntmps255;go_wp2_with fail;refine wH w1 λd=>?_;refine wA3 0 d ?_;refine Co 6 d ?_;refine Co 9 d ?_;refine wR 3 λK e=>?_;go_simp;refine oA e d λd=>?_;refine wR 4 λK e=>?_;go_simp;refine mR (D.o _ _ Qa Qa) λw2 k=>?_;have k:=k.symm;subst k;refine e.o _ _ d λd=>?_;refine wR 5 λK e=>?_;go_simp;refine mR (A.o _ (aO i.o d)) λw3 hb=>?_;refine oT e d hb λd=>?_;refine wR 8 λK e=>?_;go_simp;refine mR (B.o _ (aO i.o d)) λw4 hb=>?_;refine oT e d hb λd=>?_;refine wR 11 λK e=>?_;go_simp;refine mR (C.o _ (aO i.o d)) λw5 hb=>?_;refine oT e d hb λd=>?_;refine wR 12 λK e=>?_;go_simp;refine oA e d λd=>?_;refine wR 13 λK e=>?_;go_simp;refine mR (G.o _ _ Qa Qa) λw6 L=>?_;have L:=L.symm;subst L;refine e.o _ _ d λd=>?_;refine wR 14 λK e=>?_;go_simp;refine e.o _ _ d λd=>?_;refine wR 15 λK e=>?_;go_simp;refine e.o _ _ d λd=>?_;refine wD ?_;try simp only[pU]
 have HF:=Zh (aO i.o d);go_wp2;go_ret;refine⟨Q0 ?_,HF.o⟩
 first|rfl|simp
structure oL where
 ad:Addr
 cap:Nat
 xs:JK Nat
def U8:oL:=⟨(aD 0 0),0,[]⟩
def oL.val(x:oL):Value:=Z (O x.ad) (N x.xs) x.cap
def jP(ls:JK oL):JK Nat:=(ls.map (·.xs)).flatten
def NA{ls:JK oL}(hk:k<N ls):jP (ls.take (k+1))=jP (ls.take k)++(E ls k U8).xs:=by unfold jP;rw[Jt ls U8 hk,Q7,List.flatten_append];simp
def aaa{ls:JK oL}:N (jP (ls.take k))<=N (jP ls):=by
 have h:jP ls=jP (ls.take k)++jP (ls.drop k):=by unfold jP;rw[<-List.flatten_append,<-Q7,XA]
 rw[h,Zt];omega
structure alD(w:U)(ao:LM)(ls:JK oL):Prop where
 cells:dC w ao (N ls) (λi=>(E ls i U8).val)
 each:∀i,i<N ls->gy w (O (E ls i U8).ad) (E ls i U8).xs
def Tryz.ahE:Go.Shelf.Ren:=⟨fun|4=>259|n=>n,fun|22=>142|25=>136|3=>3|4=>4|9=>9|20=>20|0=>0|n=>n,fun|n=>n⟩
def Tryz.aS:Go.Proofs.Lays8.n4 V Tryz.ahE:={
 mixed:=Qd
 f4:=⟨Tryz.f259.name,Qc,func259.trans (congrArg O Qd)⟩
 t0:=underlying0
 a0:=isAgg0
 z0:=sizeOf0
 v0:=zeroValue0
 t3:=underlying3
 a3:=isAgg3
 z3:=sizeOf3
 v3:=zeroValue3
 t4:=underlying4
 a4:=isAgg4
 z4:=sizeOf4
 v4:=zeroValue4
 t9:=underlying9
 a9:=isAgg9
 z9:=sizeOf9
 v9:=zeroValue9
 t20:=underlying20
 a20:=isAgg20
 z20:=sizeOf20
 v20:=zeroValue20
 t22:=underlying142
 a22:=isAgg142
 z22:=sizeOf142
 v22:=zeroValue142 }
def ahF(n:Nat)(w:U)(hn:n<=1000000) :
  Calls V 259 #[Z Qr 0 0,I J n] w λe b=>∃v,e=Qu v/\b.ownsRow (M (H w)) 136 1 v 0 []/\Bw w b:=by
 obtain⟨i0,j,d,f,g⟩:=XB Tryz.xN;by_cases k:n=0
 .subst k;have h:=Any8.slices_Grow_room Tryz.aS Qr 0 0 0 w (Zb _) X X X;change Calls V 259 _ _ _ at h;refine h.mono ?_;rintro e b ⟨rfl,rfl⟩;exact⟨_,rfl,XC _ _ _ _,Za _ _⟩
 .have h:=Any8.slices_Grow_grow Tryz.aS i0 (Y Qr) j d (by rw[f];decide) Qr 0 0 n [] w (Zb _) X (by rw[g];omega) X Qa (λ_=>rfl) (λa e=>by cases e);change Calls V 259 _ _ _ at h;refine h.mono ?_;rintro e b ⟨rfl,rfl⟩;refine⟨_,rfl,⟨Qa,.inr ⟨M (H w),_,_,rfl,Zb _,qj w.drew _,ZR _,?_,?_,Qa⟩⟩,?_⟩
  .exact grownCap_le_maxLen _ _ _ _ Qg
  .have i:=grownCap_ge w (0+n) 0 136;have hz:(Value.pointer Qr).cells.size=1:=rfl;simp only[Array.size_append,size_zeroCells,hz,XD,XE]
   show 0+(0+n-0)*1+(grownCap w (0+n) 0 136-(0+n))*1=grownCap w (0+n) 0 136*1;omega
  .exact(Za _ w).drew.alloc (Zb _) _
theorem ahG(W:U)(base:Nat)(v:Value)(fk:JK Nat)(bG:W.ownsRow base 136 1 v (N fk) (fk.map λx=>Value.pointer (O (aD x 0))))(xa:Addr)(xc:Nat)(xs:JK Nat)(hx:gy W (O xa) xs)(hl:N fk+N xs<=1000)(hb:base<=M (H W))(ty:TypeId) :
  ∃d f,(Builtin.append_ #[142,142] ty #[v,Z (O xa) (N xs) xc]).run V W=.ok d f/\f.ownsRow base 136 1 d (N (fk++xs)) ((fk++xs).map λx=>Value.pointer (O (aD x 0)))/\aB (λb=>v.ownBlock≠O b) W f/\∃a m c,d = Z a m c:=by
 obtain⟨i0,q,g,i,k⟩:=XB Tryz.xN;obtain⟨d,f,l,t,y,_⟩:=XL (P:=V) W base 142 ty 136 i0 _ 1 8 underlying142 q g i k rfl Qc v (N fk) _ bG xa (N xs) xc (xs.map λx=>Value.pointer (O (aD x 0))) Qa
  (λj u p=>by
   by_cases n:j<N xs
   .obtain⟨A,B,e,C⟩:=hx.2 j n
    cases e;rw[Zn];grind
   .rw[Jc Qi]at p;cases p) (λu z=>by obtain⟨x,_,rfl⟩:=Xc.1 z;rfl) Qg X hb
 exact⟨d,f,l,Qb,Xv y (λr e l=>l e),Xz t⟩
def aab(ao:LM)(cap:Nat)(ls:JK oL)(w:U)(hr:alD w ao ls)(hn:N ls<=1000)(ht:N (jP ls)<=1000) :
  Calls V 225 #[Z ao (N ls) cap] w λe w'=>∃v,e=Qu v/\w'.ownsRow (M (H w)) 136 1 v (N (jP ls)) ((jP ls).map λx=>Value.pointer (O (aD x 0)))/\Bw w w':=by
 obtain⟨i0,hi,af,ag,ah⟩:=XB Tryz.xN;obtain⟨S,HT⟩:=bH hr ht;clear hr ht;go_enter func225,ntmps225;go_wp2;go_loopw [3,11] (λs i wr=>∃k:Nat,k<=N ls/\i=I J k/\s=I J (N (jP (ls.take k)))/\w=wr) (λ_ i _=>N ls-(intOf i).toNat)
 case atStart=>exact⟨0,ZR _,rfl,rfl,rfl⟩
 case round=>
  obtain⟨k,hk,rfl,rfl,rfl⟩:=hrel;by_cases p:k<N ls
  .obtain⟨b,off,rfl,u⟩:=Q3 S.o.cells p;have g:=u k p;have d:N (jP (ls.take (k+1)))<=1000:=ZU aaa HT.o;have K:N (jP (ls.take (k+1)))=N (jP (ls.take k))+(E ls k U8).xs.length:=by rw[NA p,Zt]
   have HS:=Zh K;generalize E ls k U8=x at*;obtain⟨j,y,n⟩:=x;have t:Qo w (aD b (off+k))=O (Z (O j) (N n) y):=g;have hw:wrap64 ((N (jP (ls.take k)):Int)+(N n:Int))=((N (jP (ls.take k))+N n:Nat):Int):=by simp only at K;unfold wrap64;omega
   have ae:¬(((N (jP (ls.take k))+N n:Nat):Int)<0):=X;have L:=Zh hw;clear g u d K;generalize N (jP (ls.take k))=a at*;refine gQ ?_;exact⟨k+1,X,Qe,by rw[HS.o];exact congrArg (Value.int J) L.o,trivial⟩
  .have q:k=N ls:=X
   subst q;rw[Z0];have ht:=HT.o;generalize G:jP ls=fl at*;have P:=Zh G;clear G;go_wp2_with fail;refine(ahF (N fl) w X).mono ?_;rintro e w2 ⟨v0,rfl,l,z⟩;obtain⟨W,aa⟩:=bH l z;clear l z;go_wp2;go_loopw [6,27] (λv i wr=>∃k:Nat,k<=N ls/\i=I J k/\Qm (wr.ownsRow (M (H w)) 136 1 v (N (jP (ls.take k))) ((jP (ls.take k)).map λx=>Value.pointer (O (aD x 0))))/\Qm (Bw w wr)) (λ_ i _=>N ls-(intOf i).toNat)
   case atStart=>exact⟨0,ZR _,rfl,W.o,aa.o⟩
   case round=>
    obtain⟨k,hk,rfl,m,f⟩:=hrel;obtain⟨A,B,C,rfl⟩:=Xz m.o;by_cases p:k<N ls
    .obtain⟨b,off,rfl,u⟩:=Q3 S.o.cells p;have g:=cB f.o (u k p);have Q:=(S.o.each k p).aj f.o;have d:N (jP (ls.take (k+1)))<=1000:=by have h1:N (jP (ls.take (k+1)))<=N (jP ls):=aaa;rw[P.o]at h1;omega
     have r:=NA p;have R:=Zh r;rw[r,Zt]at d;generalize E ls k U8=x at*;obtain⟨j,y,n⟩:=x;simp only at Q d;have t:Qo wr (aD b (off+k))=O (Z (O j) (N n) y):=g;have HA:=Zh Q;clear g u r Q;generalize jP (ls.take k)=fk at*;have ni:=f.o.size;obtain⟨v',w1,lN,D,dP,⟨za,zm,zc,rfl⟩⟩:=ahG wr (M (H w)) (Z A B C) fk m.o j y n HA.o d ni 142;have HO:Qm (w1.ownsRow (M (H w)) 136 1 (Z za zm zc) (N (jP (ls.take (k+1)))) ((jP (ls.take (k+1))).map λx=>Value.pointer (O (aD x 0)))):=by show World.ownsRow _ _ _ _ _ _ _;rw[R.o];exact D
     have HB:=Zh (f.o.trans (dP.aj f.o.size (λb hb e=>Qj ((Xy m.o e).1))));clear D dP d ni;go_wp2_with (first|(at_builtin;refine XJ rfl (.tmp 31) (.tmp 32) 142 rfl (Z A B C) (Z (O j) (N n) y) (Z za zm zc) w1 rfl rfl lN ?_));clear lN t;go_wp2;go_roundw
     case rel=>exact⟨k+1,X,Qe,HO.o,HB.o⟩
     case measure=>exact XK
    .have q:k=N ls:=X
     subst q;rw[Z0,P.o]at m;go_wp2;go_ret;refine⟨_,rfl,?_,f.o⟩;rw[P.o];exact m.o
def F5:∀{g:JK aK} {p:aK} {x:Nat × bF},p∈g->p.2=O x->x.1<iL g
 |(o,Qr)::g,p,x,hp,hx=>by
  rcases ZB.1 hp with rfl|hp
  .cases hx
  .exact F5 (g:=g) hp hx
 |(o,O y)::g,p,x,hp,hx=>by
  rcases ZB.1 hp with rfl|hp
  .injection hx with hx;rw[<-hx]
   show y.1<max (y.1+1) (iL g);omega
  .have:=F5 (g:=g) hp hx
   show x.1<max (y.1+1) (iL g);omega
def UY(A:Nat->Nat)(n a:Nat):Nat->Nat:=λm=>if m=n then a else A m
def xq(n:Nat)(t:bF)(i:Nat)(g:JK aK):JK aK:=(g.take i).map (kV n t)++g.drop i
theorem Np(n:Nat)(t:bF)(i:Nat)(g:JK aK):N (xq n t i g)=N g:=by unfold xq;grind
theorem Nr(n:Nat)(t:bF)(hi:i<N g):E (xq n t i g) i sJ=E g i sJ:=by unfold xq;grind
def ahu(n:Nat)(t:bF)(g:JK aK):xq n t 0 g=g:=Qh
def YO(t:bF)(g:JK aK):xq (iL g) t (N g) g=jS g t:=by unfold xq jS;simp
theorem Sq(n:Nat)(t:bF)(hi:i<N g):xq n t (i+1) g=(xq n t i g).set i (kV n t (E g i sJ)):=by unfold xq;rw[Jt g sJ hi,Q7,Jz _ _ Qb,ZX,Jb,Nat.min_eq_left X,Nat.sub_self];have a:g.drop i=E g i sJ::g.drop (i+1):=Qf;grind
def ahv(l:JK aK)(hk:k<N l):l.set k (E l k sJ)=l:=by simp_all
def api(n:Nat)(t:bF)(hi:i<N g)(h:jE t (E g i sJ)=F):xq n t (i+1) g=xq n t i g:=by
 rw[Sq n t hi];have:kV n t (E g i sJ)=E (xq n t i g) i sJ:=by rw[Nr n t hi];unfold kV;rw[h];rfl
 rw[this];exact ahv _ (by rw[Np];exact hi)
def ald(n:Nat)(t:bF)(hi:i<N g)(h:jE t (E g i sJ)=T):xq n t (i+1) g=(xq n t i g).set i ((E g i sJ).1,O (n,t)):=by rw[Sq n t hi];unfold kV;rw[Zd h]
theorem ale(hp:p∈xq n t i g)(hx:p.2=O x):x=(n,t)∨∃p'∈g,p'.2=O x:=by
 unfold xq at hp;rcases Z5.1 hp with hp|hp
 .obtain⟨b,a,rfl⟩:=Xc.1 hp;rcases Bf hx with h|h
  .exact .inl h
  grind
 grind
def Sr(t:bF)(hi:i<N g):(g.take (i+1)).any (jE t)=((g.take i).any (jE t) ||jE t (E g i sJ)):=by rw[Jt g sJ hi,List.any_append];simp
theorem dJ.axS(h:dJ Tq Tp Fq w gb A os g)(a:Nat):dJ Tq Tp Fq w gb (UY A (iL g) a) os g:=by
 have n:∀p∈g,∀x,p.2=O x->UY A (iL g) a x.1=A x.1:=λp f x d=>by unfold UY;rw[Zk (Qj (F5 f d))]
 obtain⟨c,k,j⟩:=h.blk;refine⟨⟨c,k,λi b=>⟨(j i b).1,?_⟩⟩,h.ord,λp f x d=>by grind [dJ.iE],λp f q l x r d m e=>?_⟩
 .rw[(j i b).2]
  cases d:(E g i sJ).2 with
  |none=>rfl
  |some x =>
   show O (Value.pointer (O (aD (A x.1) 0)))=O (Y (O (aD (UY A (iL g) a x.1) 0)));grind
 grind [dJ.inj]
theorem dJ.put(h:dJ Tq Tp Fq w gb A os g)(hF:¬Fq gb)(hi:i<N g)(ht:bM Tq Fq w (A n) t)(hn:∀p∈g,∀x,p.2=O x->A x.1=A n->x.1=n) :
  dJ Tq Tp Fq (Qn w (aD gb (i*2+1)) (Y (O (aD (A n) 0)))) gb A os (g.set i ((E g i sJ).1,O (n,t))):=by
 obtain⟨c,D,v⟩:=h.blk;have r:aB Fq w (Qn w (aD gb (i*2+1)) (Y (O (aD (A n) 0)))):=Xu _ _ _ hF;have u:∀j,E (g.set i ((E g i sJ).1,O (n,t))) j sJ=if i=j then ((E g i sJ).1,O (n,t)) else E g j sJ:=λj=>by grind
 have a:∀p∈g.set i ((E g i sJ).1,O (n,t)),∀x,p.2=O x->x=(n,t)∨∃f∈g,f.2=O x:=λp l x m=>by grind
 have y:i*2+1<c.size:=by grind
 refine⟨⟨c.setIfInBounds (i*2+1) (Y (O (aD (A n) 0))),D.set _ _,λj k=>?_⟩,λj k=>?_,λp l x m=>?_,λp l f b x G m d e=>?_⟩
 .rw[JB]at k;rw[JD,JD,Zk X,u j];refine⟨(v j k).1,?_⟩;by_cases e:i=j
  .subst e;rw[Zd rfl,Zd y,Zd rfl];rfl
  grind
 .rw[JB]at k;have:=h.ord j k;refine⟨?_,this.2.1.eG r,this.2.2⟩
  grind
 .rcases a p l x m with rfl|⟨f,b,d⟩
  .exact ht.eG r
  .exact(h.iE f b x d).eG r
 .rcases a p l x m with rfl|⟨q,K,z⟩
  .grind
  .rcases a f b G d with rfl|⟨L,B,C⟩
   .grind
   grind [dJ.inj]
theorem dJ.frozen{Tq Tp:TypeId}{Fq:Pm}{w:U}{gb:Nat}{A:Nat->Nat}{os:JK aA}{g:JK aK}(h:dJ Tq Tp Fq w gb A os g)(j:Nat):w.frozen? (aD gb j)=false:=by obtain⟨c,a,_⟩:=h.blk;exact a.frozen j
def dJ.lt{Tq Tp:TypeId}{Fq:Pm}{w:U}{gb:Nat}{A:Nat->Nat}{os:JK aA}{g:JK aK}(h:dJ Tq Tp Fq w gb A os g):gb<M (H w):=by obtain⟨c,a,_⟩:=h.blk;exact a.lt
theorem bM.lt{a:Nat}(h:bM Tq Fq w a t):a<M (H w):=by obtain⟨c,b⟩:=h.blk;grind
section
def Ns:∀(l:JK bF) (x:Bool × JK aK),(l.foldl jh x).2.length=N x.2
 |[],_=>rfl
 |t::l,x=>by rw[ZL,Ns l];exact Ee _ _
def OfK(Tq Tp:TypeId)(Fq:Pm)(w:U)(gb:Nat)(os:JK aA)(Xq:Bool × JK aK)(ls:JK Nat)(x:U):Prop:=∃A,dJ Tq Tp Fq x gb A os Xq.2/\(∀p∈Xq.2,∀y,p.2=O y->A y.1 ∉ ls)/\aB (λb=>b≠gb) w x
def OfI(Tq Tp:TypeId)(Fq:Pm)(w:U)(gb:Nat)(os:JK aA)(Xq:Bool × JK aK)(t:bF)(a:Nat)(ls:JK Nat)(i:Nat)(r:Bool)(x:U):Prop:=r=(Xq.1 ||(Xq.2.take i).any (jE t))/\∃A,dJ Tq Tp Fq x gb (UY A (iL Xq.2) a) os (xq (iL Xq.2) t i Xq.2)/\(∀p∈Xq.2,∀y,p.2=O y->A y.1 ∉ a::ls)/\aB (λb=>b≠gb) w x
variable {Tq Tp:TypeId} {Fq:Pm} {w x y:U} {gb a i:Nat} {os:JK aA} {Xq:Bool × JK aK} {t:bF} {ls:JK Nat} {r:Bool}
def OfK.one(h:OfK Tq Tp Fq w gb os Xq (a::ls) x)(t:bF):OfI Tq Tp Fq w gb os Xq t a ls 0 Xq.1 x:=by obtain⟨A,b,d,e⟩:=h;exact⟨Qa,A,by rw[ahu];exact b.axS a,d,e⟩
def afo{G:JK aK}(hf:∀p∈G,∀y,p.2=O y->A y.1 ∉ a::ls){y:Nat × bF}(hp:p∈xq (iL G) t i G)(hy:p.2=O y):(y.1=iL G/\UY A (iL G) a y.1=a)∨UY A (iL G) a y.1 ∉ a::ls:=by
 unfold UY;rcases ale hp hy with rfl|⟨e,b,d⟩
 .exact .inl ⟨rfl,Zd rfl⟩
 .rw[Zk (Qj (F5 b d))];exact .inr (hf e b y d)
theorem OfI.all(h:OfI Tq Tp Fq w gb os Xq t a ls (N Xq.2) r x)(hn:a ∉ ls):r=(jh Xq t).1/\OfK Tq Tp Fq w gb os (jh Xq t) ls x:=by
 obtain⟨rfl,A,d,f,g⟩:=h;refine⟨by rw[Z0];rfl,_,by show dJ _ _ _ _ _ _ _ (jS Xq.2 t);rw[<-YO];exact d,λp b y i=>?_,g⟩;rw[show (jh Xq t).2=xq (iL Xq.2) t (N Xq.2) Xq.2 from (YO t Xq.2).symm]at b;rcases afo f b i with⟨-,e⟩|e
 .rwa [e]
 .exact λh=>e (ZV _ h)
def OfI.no(h:OfI Tq Tp Fq w gb os Xq t a ls i r x)(hi:i<N Xq.2)(hn:jE t (E Xq.2 i sJ)=F)(hb:Bw x y):OfI Tq Tp Fq w gb os Xq t a ls (i+1) r y:=by obtain⟨rfl,A,b,d,e⟩:=h;exact⟨by rw[Sr t hi,hn,Bool.or_false],A,by rw[api _ t hi hn];exact b.aj hb,d,e.trans (Xk hb λ_ h _=>h)⟩
def OfI.yes(h:OfI Tq Tp Fq w gb os Xq t a ls i r x)(hF:¬Fq gb)(ht:bM Tq Fq w a t)(hi:i<N Xq.2)(hn:jE t (E Xq.2 i sJ)=T)(hb:Bw x y):OfI Tq Tp Fq w gb os Xq t a ls (i+1) T (Qn y (aD gb (i*2+1)) (Y (O (aD a 0)))):=by obtain⟨rfl,A,j,g,k⟩:=h;have f:=k.trans (Xk hb λ_ h _=>h);have d:UY A (iL Xq.2) a (iL Xq.2)=a:=Zd rfl;have:=(j.aj hb).put hF (i:=i) (n:=iL Xq.2) (t:=t) (by rw[Np];exact hi) (by rw[d];exact ht.eG (f.mono λb _ hb e=>hF (e ▸ hb))) λp l z hz e=>(afo g l hz).elim And.left λh=>absurd (by rw[e,d];exact Ji) h;rw[d,Nr _ t hi,<-ald _ t hi hn]at this;exact⟨by rw[Sr t hi,hn];simp,A,this,g,f.trans (Xu _ _ _ λh=>h rfl)⟩
def OfI.get(h:OfI Tq Tp Fq w gb os Xq t a ls i r x)(hi:i<N Xq.2):Qo x (aD gb (i*2))=O (E os i iU).val/\x.frozen? (aD gb (i*2+1))=F/\gb<M (H x)/\(E os i iU).xs=(E Xq.2 i sJ).1/\gP Fq x (E os i iU)/\∃l,Qo x (aD gb (i*2+1))=O (Y l)/\((l=Qr/\jE t (E Xq.2 i sJ)=aN t.d.aH (E Xq.2 i sJ).1)∨∃b cr:Nat,l=O (aD b 0)/\Qo x (aD b 5)=O (I Qp (cr:Int))/\jE t (E Xq.2 i sJ)=(aN t.d.aH (E Xq.2 i sJ).1&&decide (t.d.aJ<cr))):=by
 obtain⟨-,A,g,-,-⟩:=h;have j:i<N (xq (iL Xq.2) t i Xq.2):=by rw[Np];exact hi
 have f:=g.cells j;have k:=g.ord i j;have m:=g.iE _ (uW j);rw[Nr _ t hi]at f k m;refine⟨f.1,g.frozen _,g.lt,k.1,k.2.1,?_⟩;unfold jE
 cases e:(E Xq.2 i sJ).2 with
 |none =>
  rw[e]at f;exact⟨_,f.2,.inl ⟨rfl,Qa⟩⟩
 |some z =>
  rw[e]at f;obtain⟨p,n,hd⟩:=(m z e).rC;exact⟨_,f.2,.inr ⟨_,z.2.d.aJ,rfl,(congrArg dG.aJ hd) ▸ n.c5,rfl⟩⟩
theorem Su(h:dJ 144 206 Fq w gb A os g)(hF:¬Fq gb)(F6:N g<=20)(gc:Nat)(bo:LM)(bc:Nat)(bs:JK (Nat × bF))(hp:gy w bo (bs.map Prod.fst))(Ei:∀a,bo=O a->a.block≠gb)(uH:∀x∈bs,bM 144 Fq w x.1 x.2)(xG:(bs.map Prod.fst).Nodup)(Lj:∀p∈g,∀x,p.2=O x->A x.1 ∉ bs.map Prod.fst)(hl:N bs<=1000) :
  Calls V 251 #[Z (O (aD gb 0)) (N g) gc,Z bo (N bs) bc] w λe w'=>e=Qu (Qq (mP g (bs.map Prod.snd)).1)/\(∃A',dJ 144 206 Fq w' gb A' os (mP g (bs.map Prod.snd)).2)/\aB (λb=>b≠gb) w w':=by
 obtain⟨HP,HO,u,HF⟩:=De hp Ei xG hF;have rP:Qm (N (bs.map Prod.fst)=N bs):=ZX _;obtain⟨j,m⟩:=eY (λk=>((bs.map Prod.snd).take k).foldl jh (F,g):Nat->Bool × JK aK);obtain⟨S,W⟩:=eY (λk=>E (bs.map Prod.snd) k uT:Nat->bF);have ai:Qm (∀k,k<N bs->j (k+1)=jh (j k) (S k)):=λk hk=>by rw[m,W];exact lV jh (F,g) (bs.map Prod.snd) uT (by rw[ZX];exact hk)
 have aj:Qm (∀k,(j k).2.length=N g):=λk=>by rw[m];exact Ns _ _
 have HE:=Zh (by rw[m];show ((bs.map Prod.snd).take (N bs)).foldl jh (F,g)=_;rw[XW Qa];rfl:j (N bs)=mP g (bs.map Prod.snd))
 have P:Qm ((j 0).1=F/\OfK 144 206 Fq w gb os (j 0) ((bs.map Prod.fst).drop 0) w):=by rw[m];exact⟨rfl,A,h,Lj,Xj _ _⟩
 have ak:Qm (∀k,k<N bs->bM 144 Fq w (E (bs.map Prod.fst) k 0) (S k)):=λk hk=>Qb;clear hp Ei uH xG Lj h m W hF;generalize bs.map Prod.fst=bf,mP g (bs.map Prod.snd)=R,N bs=bl,N g=gl at*;clear bs;go_enter func251,ntmps251;go_wp2;go_loopw [5,12] (λpv D wr=>∃k:Nat,k<=bl/\D=I J (k:Int)/\pv=Qq (j k).1/\Qm (OfK 144 206 Fq w gb os (j k) (bf.drop k) wr)) (λ_ D _=>bl-(intOf D).toNat)
 case atStart=>exact⟨0,ZR _,rfl,by rw[P.o.1],P.o.2⟩
 case round=>
  obtain⟨k,hk,rfl,rfl,G⟩:=hrel;by_cases aT:k<bl
  .have l:k<N bf:=by rw[rP.o];exact aT
   obtain⟨bb,ay,rfl,aa⟩:=gy.get (HP.o.eG G.o.choose_spec.2.2 (λ_ a ha=>HO.o a ha)) l;have ax:=aa k l;have hd:bf.drop k=E bf k 0::bf.drop (k+1):=by rw[List.drop_eq_getElem_cons l,Js,XG l];rfl
   have Q:E bf k 0 ∉ bf.drop (k+1):=by have:=u.o.sublist (List.drop_sublist k bf);rw[hd]at this;exact(List.nodup_cons.1 this).1
   have HT:=Zh (ak.o k aT);have C:=aj.o k;rw[hd]at G;have HA:Qm (∀r x,OfI 144 206 Fq w gb os (j k) (S k) (E bf k 0) (bf.drop (k+1)) gl r x->r=(j (k+1)).1/\OfK 144 206 Fq w gb os (j (k+1)) (bf.drop (k+1)) x):=λr x h=>by rw[ai.o k aT];exact OfI.all (by rw[C];exact h) Q
   obtain⟨HI,HL⟩:=bH (G.o.one (S k)) C;generalize E bf k 0=a,S k=t,j k=Xq at*;clear aa l hd Q G C;go_wp2;go_loopw [5,18] (λpv D wr=>∃(i:Nat) (r:Bool),i<=gl/\D=I J (i:Int)/\pv=Qq r/\Qm (OfI 144 206 Fq w gb os Xq t a (bf.drop (k+1)) i r wr)) (λ_ D _=>gl-(intOf D).toNat)
   case atStart=>exact⟨0,_,ZR _,rfl,rfl,HI.o⟩
   case round=>
    obtain⟨i,r,hi,rfl,rfl,L⟩:=hrel;by_cases av:i<gl
    .have q:i<N Xq.2:=by rw[HL.o];exact av
     obtain⟨c0,f1,v,ae,af,po,c1,hz⟩:=L.o.get q;obtain⟨p,hP,LX⟩:=(HT.o.eG (L.o.2.choose_spec.2.2.mono λb _ hb e=>HF.o (e ▸ hb))).rC;have eo:p.aH.xs=t.d.aH:=congrArg dG.aH LX;have Ps:Qm (∀y,Bw wr y->Cb 258 #[Z p.aH.ad (N p.aH.xs) p.aH.cap,Z (E os i iU).ad (E os i iU).xs.length (E os i iU).cap] y (Qq (aN t.d.aH (E Xq.2 i sJ).1))):=λy z=>by rw[<-ae,<-eo];exact vC _ _ _ _ _ _ y (Zc z hP.ok.aH) (Zc z af.oO) hP.ok.cap
     have c3:Qo wr (aD a 3)=O (Z p.aH.ad (N p.aH.xs) p.aH.cap):=hP.c3;have c5:=hP.c5;have ec:p.aJ=t.d.aJ:=congrArg dG.aJ LX;rw[ec]at c5;have Sv:Qm (∀y,Bw wr y->jE t (E Xq.2 i sJ)=F->OfI 144 206 Fq w gb os Xq t a (bf.drop (k+1)) (i+1) r y):=λy z h=>L.o.no q h z;have au:Qm (∀y,Bw wr y->jE t (E Xq.2 i sJ)=T->Qo y (aD gb (i*2+1))=O (Y po)/\y.frozen? (aD gb (i*2+1))=F/\OfI 144 206 Fq w gb os Xq t a (bf.drop (k+1)) (i+1) T (Qn y (aD gb (i*2+1)) (Y (O (aD a 0))))):=λy z h=>⟨cB z c1,(z.frozen v).trans f1,L.o.yes HF.o HT.o q h z⟩;unfold aA.val at c0;generalize jE t (E Xq.2 i sJ)=TB,aN t.d.aH (E Xq.2 i sJ).1=SB,N p.aH.xs=pol,p.aH.ad=poa,p.aH.cap=poc,(E os i iU).xs.length=ovl,(E os i iU).ad=ova,(E os i iU).cap=ovc,t.d.aJ=cx at*;obtain⟨w1,dB,bL,ag⟩:=bI wr #[Z ova ovl ovc,Y po] 206;obtain⟨a0,a1⟩:=ag.k2;obtain⟨d3,d5⟩:=kP bL c3 c5;obtain⟨n,HV⟩:=bH bL hz;clear ag bL hz ae af LX eo ec hP v q L;go_wp2_with fail;clear dB;refine wH w1 λf=>?_;refine wA6 0 f ?_;refine rR 6 f ?_;refine wR 7 λK hK=>?_;go_simp;refine mR (Ps.o _ (aO n.o f)) λw2 hb=>?_;refine oT hK f hb λf=>?_;clear hK K hb Ps;refine rR 8 f ?_;cases SB
     .refine wS9 9 f ?_;refine wS6 18 f ?_;refine wS2 24 f ?_;refine rR 26 f ?_;refine wD ?_;have u:=Zh (Sv.o w2 (aO n.o f) (by rcases HV.o with⟨-,h⟩|⟨_,_,-,-,h⟩ <;> simpa using h));refine gQ ?_;exact⟨i+1,r,X,Qe,rfl,u.o⟩
     rcases HV.o with⟨rfl,hv⟩|⟨b,cr,rfl,c6,hv⟩
     rotate_left
     have d6:=cB n.o c6;rcases Jd cx cr with hc|hc
     rotate_left
     .refine wB4 9 f ?_;refine wB9 13 f ?_;refine wB3 22 f ?_;refine wB1 25 f ?_;refine rR 26 f ?_;refine wD ?_;have u:=Zh (Sv.o w2 (aO n.o f) (by rw[hv];simpa using hc));refine gQ ?_;exact⟨i+1,r,X,Qe,rfl,u.o⟩
     all_goals
      have hN:=au.o w2 (aO n.o f) (by rw[hv];try simpa using hc);clear hv;refine wB4 9 f ?_
     refine wS9 13 f ?_;refine wS3 22 f ?_
     rotate_left
     refine wB9 13 f ?_;refine wB3 22 f ?_
     all_goals
      refine wB1 25 f ?_;refine rR 26 f ?_;refine wD ?_;obtain⟨s1,g1,hN⟩:=hN;have u:=Zh hN;clear hN f c3 c5 d3 d5 a0 a1;refine gQ ?_;exact⟨i+1,T,X,Qe,rfl,u.o⟩
    .obtain rfl:i=gl:=X
     obtain⟨rfl,h⟩:=HA.o _ _ L.o;have u:=Zh h;clear h;refine gQ ?_;exact⟨k+1,X,Qe,rfl,u.o⟩
  .obtain rfl:k=bl:=X
   obtain⟨B,hB,-,ah⟩:=G.o;rw[HE.o]at hB ⊢;have HR:Qm (dJ 144 206 Fq wr gb B os R.2/\aB (λb=>b≠gb) w wr):=⟨hB,ah⟩;clear hB ah G;go_wp2;go_ret;exact⟨rfl,⟨_,HR.o.1⟩,HR.o.2⟩
end
def Fz.axY{w':U}(h:Fz Fq W0 w){s:Pm}(hk:aB s w w')(hs:∀b,UH W0 b->s b):Fz Fq W0 w':=
 ⟨h.aj.fu hk hs,h.low,λb a=>h.high b (ZU hk.size a)⟩
def Fz.apj(h:Fz Fq W0 w){g:Nat}(hg:¬Fq g):∀b,UH W0 b->b≠g:=λb a e=>hg (e ▸ h.low b a)
def Sw(h:df g=O t):∃x,(E g 0 sJ).2=O x/\x.2=t:=by
 match g,h with
 |[],h=>cases h
 |(_,Qr)::_,h=>cases h
 |(o,O y)::r,h=>injection h with h;exact⟨y,rfl,h⟩
def iB{w w':U}{s:Pm}(hk:aB s w w'){b o:Nat}{v:Value}(h:Qo w (aD b o)=O v)(hs:s b):Qo w' (aD b o)=O v:=by rw[Xr (hk.block b (kX h) hs)];exact h
theorem YP(Eq:vS f ts q W0)(hz:Fz Fq W0 w)(h:dJ 144 206 Fq w gb A os g)(hF:¬Fq gb){s:Nat}(Sy:zh q s g)(gc:Nat)(hgc:N g<=gc)(hcm:gc<=9223372036854775807)(bo:LM)(bc:Nat)(bs:JK (Nat × bF))(hp:gy w bo (bs.map Prod.fst))(Ei:∀a,bo=O a->a.block≠gb)(uH:∀x∈bs,bM 144 Fq w x.1 x.2)(xG:(bs.map Prod.fst).Nodup)(Lj:∀p∈g,∀x,p.2=O x->A x.1 ∉ bs.map Prod.fst)(hl:N bs<=1000)(YQ:∀x∈bs,V5 q s x.2) :
  Calls V 220 #[Z (O (aD gb 0)) (N g) gc,Qt (f.cells ts q),Z bo (N bs) bc] w λe w'=>e=Qu (Qq (bq ts q g (bs.map Prod.snd)).1)/\(∃A',dJ 144 206 Fq w' gb A' os (bq ts q g (bs.map Prod.snd)).2)/\aB (λb=>b≠gb) w w':=by
 obtain⟨v0,v1,v2,v3,v4,v5,v6,v7,v8,v9,fO,fP,fQ,iq,-⟩:=Jh f ts q;have F6:=Sy.M6;have aY:0<N g:=by obtain⟨hh,r,rfl,-⟩:=Sy.head;simp
 obtain⟨w1,dB,bL,aF⟩:=bI w #[v0,v1,v2,v3,v4,v5,v6,v7,v8,v9,fO,fP,fQ] 118;have P:=Su (h.aj bL) hF F6 gc bo bc bs (hp.aj bL) Ei (λx d=>(uH x d).aj bL) xG Lj hl;have u:=xO (l:=bs.map Prod.snd) (x:=(F,g)) Sy (λt ht=>Qb) (λe=>by cases e);have aJ:=vH g (bs.map Prod.snd);have HR:Qm (bq ts q g (bs.map Prod.snd)=if (mP g (bs.map Prod.snd)).1=T then (T,((g.map Prod.fst).drop 1).foldl (fT ts q) (mP g (bs.map Prod.snd)).2) else (F,(mP g (bs.map Prod.snd)).2)):=rfl;change zh q s (mP g (bs.map Prod.snd)).2/\((mP g (bs.map Prod.snd)).1=T->(df (mP g (bs.map Prod.snd)).2).isSome=T) at u;generalize bq ts q g (bs.map Prod.snd)=R,mP g (bs.map Prod.snd)=Oq at*;obtain⟨O1,O2⟩:=Oq;obtain⟨R1,R2⟩:=R;simp only at*;have aZ:N O2=N g:=by have:=congrArg N aJ;simpa using this
 obtain⟨UZ,CE,aU,bu,bz⟩:=Wu h.lt aF bL (hz.next bL) (hz.apj hF)
 cases O1 with
 |false =>
  have Q:Qm (R1=F/\R2=O2):=by have:=HR.o;grind
  clear HR h u hz Eq hp uH Lj YQ aF bL;rw[iq];go_enter func220,ntmps220;go_wp2_with fail;refine P.mono ?_;rintro e w2 ⟨rfl,v,jf⟩;have HF:Qm ((∃A',dJ 144 206 Fq w2 gb A' os R2)/\aB (λb=>b≠gb) w w2):=⟨by rw[Q.o.2];exact v,(Xl aU.o).trans jf⟩;clear P v jf dB;go_wp2;go_ret;exact⟨by rw[Q.o.1];rfl,HF.o⟩
 |true =>
  have Q:Qm (R1=T/\R2=((g.map Prod.fst).drop 1).foldl (fT ts q) O2):=by have:=HR.o;grind
  obtain⟨j,ah⟩:=eY (λk=>(((g.map Prod.fst).drop 1).take k).foldl (fT ts q) O2:Nat->JK aK);have aL:N ((g.map Prod.fst).drop 1)=N g-1:=by rw[List.length_drop,ZX]
  have ak:Qm (∀k,k<N g-1->j (k+1)=fT ts q (j k) (E ((g.map Prod.fst).drop 1) k [])):=λk hk=>by rw[ah];exact lV _ O2 _ [] (by rw[aL];exact hk)
  have Ae:Qm (∀k,zh q s (j k)/\(df (j k)).isSome=T/\N (j k)=N g/\(j k).map Prod.fst=g.map Prod.fst):=λk=>by have h1:=Eg (ts:=ts) (os:=((g.map Prod.fst).drop 1).take k) u.1 (u.2 rfl);have h2:=wF ts q (((g.map Prod.fst).drop 1).take k) O2;grind
  have au:=Zh (by rw[ah,Q.o.2];grind:j (N g-1)=R2)
  have bf:=Zh (by  rw[ah];rfl:j 0=O2)
  have av:Qm (∀k,k<N g-1->E ((g.map Prod.fst).drop 1) k []=(E g (k+1) sJ).1):=λk hk=>by rw[Js,List.getElem?_drop,Zv,Js,Nat.add_comm 1 k,XG X];rfl
  have Df:Qm (∀(x:U) (k a:Nat) (t:bF) (o:aA),Fz Fq W0 x->bM 144 Fq x a t->oK q t->gP Fq x o->N o.xs<=1000->Calls V 250 #[Qt #[v0,v1,v2,v3,v4,v5,v6,v7,v8,v9,fO,fP,fQ],Y (O (aD a 0)),Z o.ad (N o.xs) o.cap] x (dU 144 Fq x (bW ts q t o.xs))):=λx k a t o d ht bJ ho Lb=>by rw[<-iq];exact Nc Eq d a t ht bJ o ho.oO ho.inf ho.nil ho.cap Lb
  have bg:=Zh hF;clear HR h u hz Eq hp uH Lj YQ aF bL ah aL aZ aJ hF Ei xG;rw[iq];clear iq;obtain⟨gl,aG⟩:=eY (N g);rw[<-aG]at ak au av P F6 aY hgc ⊢;have n:=Zh aG;clear aG;obtain⟨m,hm⟩:∃m,gl=m+1:=⟨gl-1,X⟩;subst hm;rw[Nat.add_sub_cancel]at ak au av;obtain⟨A0,bA,bB⟩:∃A0:Addr,(if gc=1 then O ((aD gb 0):Addr) else O (aD gb 2))=O A0/\Qm (0<m->A0=(aD gb 2)):=by
   by_cases h1:gc=1
   .exact⟨(aD gb 0),by rw[Zd h1],λh=>X⟩
   .exact⟨(aD gb 2),by rw[Zk h1],λ_=>rfl⟩
  go_enter func220,ntmps220;go_wp2_with fail;refine P.mono ?_;rintro e w2 ⟨rfl,⟨A2,v⟩,jf⟩;have bO:Qm (dJ 144 206 Fq w2 gb A2 os (j 0)):=by show dJ _ _ _ _ _ _ _ _;rw[bf.o];exact v
  have Bl:=Zh jf;clear P v jf dB;go_wp2;clear bA;go_loopw [16] (λiv wr=>∃(k:Nat) (Ak:Nat->Nat),k<=m/\iv=I J (k:Int)/\Qm (dJ 144 206 Fq wr gb Ak os (j k))/\Qm (aB (λb=>b≠gb) w1 wr)) (λiv _=>m-(intOf iv).toNat)
  case atStart=>grind
  case round=>
   obtain⟨k,Ak,hk,rfl,B,ai⟩:=hrel;by_cases aT:k<m
   .have v:=bB.o X;subst v;have L:=Ae.o k;have ax:=B.o.cells (i:=k+1) (by rw[L.2.2.1,<-n.o];omega);have W:=B.o.ord (k+1) (by rw[L.2.2.1,<-n.o];omega);have aM:(E (j k) (k+1) sJ).1=(E g (k+1) sJ).1:=by
     have h1:k+1<N (j k):=by rw[L.2.2.1,<-n.o];omega
     have h2:k+1<N g:=by rw[<-n.o];omega
     have:=congrArg (λl=>E l (k+1) []) L.2.2.2;grind
    have aa:=ak.o k aT;rw[av.o k aT,<-aM,<-W.1]at aa;obtain⟨t,ht⟩:=ZJ.1 L.2.1;obtain⟨y,hy,aV⟩:=Sw ht;have ay:=B.o.iE _ (uW (g:=j k) (i:=0) (by rw[L.2.2.1,<-n.o];omega)) y hy;rw[aV]at ay;have aN:=(L.1.first ht).1;have az:=λx (d:aB (λb=>b≠gb) wr x) (hgx:dJ 144 206 Fq x gb Ak os (j k))=>zi hgx (by rw[L.2.2.1,<-n.o];omega) gc;rw[L.2.2.1,<-n.o,hy]at az;have aO:Qm (∀x,Bw wr x->Ce 252 #[Z (O (aD gb 0)) (m+1) gc] x (Y (O (aD (Ak y.1) 0)))):=λx d=>az x (Xl d) (B.o.aj d);generalize E os (k+1) iU=ov at ax W aa;have bn:=Zh (bu.o.axY ai.o bz.o);have aP:Qm (∀x,Bw wr x->Calls V 250 #[Qt #[v0,v1,v2,v3,v4,v5,v6,v7,v8,v9,fO,fP,fQ],Y (O (aD (Ak y.1) 0)),Z ov.ad (N ov.xs) ov.cap] x (dU 144 Fq x (bW ts q t ov.xs))):=λx d=>Df.o x k (Ak y.1) t ov (bn.o.next d) (ay.aj d) aN (W.2.1.aj d) W.2.2;have Nt:Qm (j (k+1)=jS (j k) (bW ts q t ov.xs)):=by show _=_;rw[aa];unfold fT;rw[ht];rfl
    have aQ:Qm (∀x r c,Bw wr x->M (H wr)<=r->c≠gb->Qo x (aD c 0)=O (Y (O (aD r 0)))->bM 144 Fq x r (bW ts q t ov.xs)->Calls V 251 #[Z (O (aD gb 0)) (m+1) gc,Z (O (aD c 0)) 1 1] x λe w'=>(∃b,e=Qu (Qq b))/\(∃A',dJ 144 206 Fq w' gb A' os (j (k+1)))/\aB (λb=>b≠gb) x w'):=λx r c d hr hc aI bK=>by
     have h1:=Su (B.o.aj d) bg.o (by rw[L.2.2.1,<-n.o];exact F6) gc (O (aD c 0)) 1 [(r,bW ts q t ov.xs)] ⟨Qa,λi hi=>⟨c,0,rfl,by
      have:i=0:=by simpa using hi
      subst this;exact aI⟩⟩ (λa e=>Qb) (λz hz=>by rw[XH]at hz;rw[hz];exact bK) Qa (λp hp z hz hm=>by
       rw[List.map_singleton,XH]at hm;have:=(B.o.iE p hp z hz).lt;rw[hm]at this;omega) Qa
     rw[L.2.2.1,<-n.o]at h1;refine h1.mono ?_;rintro e w' ⟨rfl,h2,h3⟩;rw[Nt.o];exact⟨⟨_,rfl⟩,h2,h3⟩
    have g0:Qo wr (aD gb (2+k*2))=O (Z ov.ad (N ov.xs) ov.cap):=by rw[show 2+k*2=(k+1)*2 by omega];exact ax.1
    obtain⟨po,Ei⟩:∃po,YC Ak (E (j k) (k+1) sJ).2=Y po:=by
     cases (E (j k) (k+1) sJ).2 with
     |none=>exact⟨_,rfl⟩
     |some y=>exact⟨_,rfl⟩
    have g1:Qo wr (aD gb (2+k*2+1))=O (Y po):=Qb;have ag:=CE.o.bT ai.o (Qj UZ.o);generalize Ak y.1=ar,N ov.xs=ovl,ov.ad=ova,ov.cap=ovc,bW ts q t ov.xs=TT at*;have V7:Qm _:=ag;clear ax W aM aa ht hy aV ay aN az Ei L;obtain⟨wq,bD⟩:=eY (wr);subst bD;obtain⟨w3,aH⟩:=eX (wq.alloc (Qs #[Z ova ovl ovc,Y po] 206));have aC:Bw wq w3:=by rw[<-aH];exact fo _ _
    have p0:Qo w3 (aD (M (H wq)) 0)=O (Z ova ovl ovc):=by rw[<-aH];simp
    have aR:=ag.up aC;obtain⟨a0,a1,a2,a3,a4,a5,a6,a7,a8,a9,wU,yD,yE⟩:=aR.vV;obtain⟨C,aW⟩:=bH aC ag.lt;clear aC ag aR;go_wp2_with fail;clear aH;have G:Qm (M (H w)≠gb):=by show _≠_;have:=UZ.o;omega
    have YR:Qm (M (H wq)≠gb):=by show _≠_;have:=UZ.o;have:=aW.o;omega
    refine ZI (S:=λx=>aB (λb=>b≠gb) w3 x) Qd (Xl ((Za (M (H w3)) w3).drew)) (λD=>?_);refine wt 0 (Z (O (aD gb 0)) (m+1) gc) D ?_;refine wT 1 (Qt #[v0,v1,v2,v3,v4,v5,v6,v7,v8,v9,fO,fP,fQ]) D (λx d=>?_) ?_
    .have e0:=iB d a0 G.o;have e1:=iB d a1 G.o;have e2:=iB d a2 G.o;have e3:=iB d a3 G.o;have e4:=iB d a4 G.o;have e5:=iB d a5 G.o;have e6:=iB d a6 G.o;have e7:=iB d a7 G.o;have e8:=iB d a8 G.o;have e9:=iB d a9 G.o;have bP:=iB d wU G.o;have bQ:=iB d yD G.o;have bR:=iB d yE G.o;go_simp
    refine wt 2 (Z (O (aD gb 0)) (m+1) gc) D ?_;refine wt 4 (Y (O (aD (M (H wq)) 0))) D ?_;refine wT 5 (Z ova ovl ovc) D (λx d=>?_) ?_
    .have e0:=iB d p0 YR.o;go_simp
    refine wR 3 λK hK=>?_;go_simp;refine mR (aO.o _ C.o.drew) λw4 bN=>?_;subst bN;refine hK.o _ _ D λD=>?_;clear hK K;refine wR 6 λK hK=>?_;go_simp;refine Jg (aP.o _ C.o.drew) ?_;rintro e w5 ⟨r,rfl,hT,lN,bS,bE⟩;have Dh:=(Za (M (H w3)) w3).drew.trans bE;refine hK.o _ _ (Xl Dh) (λD=>?_);clear hK K;refine wR 7 λK hK=>?_;go_simp;refine hK.o _ _ (D.trans (Xo _ _)) (λD=>?_);clear hK K;refine wR 8 λK hK=>?_;go_simp;refine Jg (aQ.o _ r _ (C.o.trans ((Dh.trans ((fo _ _).mono Dh.size)).mono C.o.size)) (ZU C.o.size lN) (by have:=UZ.o;have:=aW.o;have:=C.o.size;have:=Dh.size;omega) Qa (hT.aj (fo _ _))) ?_;rintro e w6 ⟨⟨bb,rfl⟩,aX,bG⟩;refine hK.o _ _ (D.trans bG) (λD=>?_);clear hK K;refine wD ?_;try simp only[pV]
    try simp only[pV]
    have HF:Qm ((∃A',dJ 144 206 Fq w6 gb A' os (j (k+1)))/\aB (λb=>b≠gb) w1 w6):=⟨aX,ai.o.trans ((Xl C.o).trans D)⟩;clear D aX a0 a1 a2 a3 a4 a5 a6 a7 a8 a9 wU yD yE p0 g0 g1 aO aP aQ;go_wp2;go_roundw
    case rel=>obtain⟨⟨A',bU⟩,yt⟩:=HF.o;grind
    case measure=>exact XK
   .have aS:m=k:=X
    have HF:Qm ((∃A',dJ 144 206 Fq wr gb A' os R2)/\aB (λb=>b≠gb) w wr):=by refine⟨⟨Ak,?_⟩,(Xl aU.o).trans ai.o⟩;have:=B.o;rw[<-aS,au.o]at this;exact this
    clear aS;go_wp2;go_ret;exact⟨by rw[Q.o.1];rfl,HF.o⟩
def JE:=@iB
