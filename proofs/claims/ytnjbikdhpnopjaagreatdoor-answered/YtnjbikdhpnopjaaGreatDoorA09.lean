import Derived.Test.YtnjbikdhpnopjaaGreatDoorA05
import Derived.Test.YtnjbikdhpnopjaaGreatDoorA06
import Derived.Test.YtnjbikdhpnopjaaGreatDoorA07
set_option linter.all false
set_option maxRecDepth 100000
set_option maxHeartbeats 0
namespace Go.Proofs.Zz
open Go.RowKit Go.Shelf
open List renaming length->N,getD->E
open Go.Value renaming slice->Z,int->I,pointer->Y,bool->Wl,agg->FL
open Go.Proofs.Tryz renaming prog->V
open Option renaming some->O,none->xn
open Go.IntKind renaming i64->J,u64->Vo
open Bool renaming false->F,true->T
open Go renaming World->U,Value->X3
open Go.World renaming heap->H,setCell->UC,cell?->UK
open _root_.Array renaming size->M
open Go.RowKit renaming Hid->Y3
open Go.Obj renaming cells->EP
open Go.Ending renaming returned->FN
variable {q:af} {b base bm cap g gb i k m n n' s sz:Nat} {t:dH} {ts:List ah} {a:Int} {A B S W W0 w w':U} {ao:Option Addr} {xs xs':List X3} {P:Program} {cs:List aI} {Tp Tq e tE ti:TypeId} {v v':X3} {l:List Int} {α:Type} {f:aF} {Fq:Nat->Prop} {os:List ae} {ns:List ai} {bE:Int->List ae} {val:Int->X3} {rows:List (List Int)}
theorem agv(ts:List ah){k:Int}(h1:3<=k)(h5:k<=5){cl:List Int}{key:Int}(hc:aY (N q.wh) cl){u:dH}(h:uM q t)(hu:uM q u):uM q (aM ts q (qj k cl key) [t,u]):=
 nU ts q _ _ ⟨by show (1:Int)<=k;omega,by show k<=10;omega⟩ (λe=>by have:k=1:=e;omega) hc (λb a=>by
  grind)
def OJ(ts:List ah){s:Int}(h0:0<=s)(h1:s<N q.src.xs):uM q (aM ts q (kC s) []):=
 nU ts q _ _ ⟨(by decide:(1:Int)<=1),(by decide:(1:Int)<=10)⟩ (λ_=>⟨h0,h1⟩) (Jg _) (λb a=>by cases a)
theorem sG(ts:List ah)(q:af):∀k,k<N q.src.xs->uM q (dM ts q k)/\(dM ts q k).ns.length<=2*k+1
 |0,h=>⟨OJ ts (Int.le_refl _) (by omega),by
  show (aM ts q (kC 0) []).ns.length<=1;rw[Jf ts q _ (by simp)];exact Qn _⟩
 |k+1,h=>by obtain⟨h1,h2⟩:=sG ts q k (by omega);refine⟨agv ts (k:=3) (cl:=[]) (key:=0) (by decide) (by decide) (Jg _) h1 (OJ ts (by omega) (by omega)),?_⟩;show (aM ts q (dV 3) [dM ts q k,aM ts q (kC ((k+1:Nat):Int)) []]).ns.length<=_;rw[Jf ts q _ (by simp)];have e:(aM ts q (kC ((k+1:Nat):Int)) []).ns.length=1:=Jf ts q _ (by simp);grind
def Em(ts:List ah){k:Int}(h1:2<=k)(h10:k<=10)(h:uM q t):uM q (aM ts q (dV k) [t])/\(aM ts q (dV k) [t]).ns.length=N t.ns+1:=
 ⟨nU ts q _ _ ⟨by show (1:Int)<=k;omega,h10⟩ (λe=>by have:k=1:=e;omega) (Jg _) (λb a=>by simp_all),Jf ts q _ (by simp)⟩
theorem acW(ts:List ah)(q:af)(h1:1<=N q.src.xs):uM q (qG ts q)/\(qG ts q).ns.length<=2*N q.src.xs+3:=by
 obtain⟨e,i⟩:=sG ts q (N q.src.xs-1) (by omega);have b:2 ^ (N q.wh)-1<2 ^ (N q.wh):=by grind
 have d:=vG (ts:=ts) e b;have g:=zT ts q (dM ts q (N q.src.xs-1)) (2 ^ (N q.wh)-1);have a:2<=(if q.group=T then (7:Int) else 9)/\(if q.group=T then (7:Int) else 9)<=10:=by omega
 obtain⟨f,j⟩:=Em ts a.1 a.2 d;unfold qG;simp only;split
 .obtain⟨l,m⟩:=Em ts (k:=10) (by decide) (by decide) f
  grind
 grind
structure GOk(q:af)(s:Nat)(g:List eD):Prop where
 all:∀p∈g,∀x,p.2=O x->uM q x.2/\x.2.d.sources=s/\N x.2.ns+2<=5*s
 head:∃h r,g=([],h)::r/\∀x,h=O x->N x.2.ns+3<=5*s
 short:N g<=20
def GOk.first{g:List eD}(h:GOk q s g)(ht:CZ g=O t):uM q t/\t.d.sources=s/\N t.ns+2<=5*s:=by
 obtain⟨a,r,rfl,b⟩:=h.head
 cases a with
 |none=>cases ht
 |some y =>
  injection ht with ht;rw[<-ht];exact h.all _ Jd y rfl
def I8(q:af)(o:List Int):7<=dO q o/\dO q o<=9:=by unfold dO;omega
theorem ac7{k:Int}(h:6<=k):arity k=1:=by grind [arity]
def I9(ts:List ah){k:Int}(h1:2<=k)(h10:k<=10)(h:uM q t):uM q (aM ts q (dV k) [t]):=
 nU ts q _ _ ⟨by show (1:Int)<=k;omega,h10⟩ (λe=>by have:k=1:=e;omega) (Jg _) (λb a=>by simp_all)
def Eo(h:uM q t):uM q (mQ ts q t)/\(mQ ts q t).ns.length<=N t.ns+2:=by
 have b:=I8 q t.d.order;have a:uM q (aM ts q (dV (dO q t.d.order)) [t]):=I9 ts (by omega) (by omega) h;have e:(aM ts q (dV (dO q t.d.order)) [t]).ns.length=N t.ns+1:=Jf ts q _ (by simp);unfold mQ;simp only;split
 .simp_all
 .refine⟨I9 ts (by decide) (by decide) a,?_⟩;have:(aM ts q (dV 10) [aM ts q (dV (dO q t.d.order)) [t]]).ns.length=(aM ts q (dV (dO q t.d.order)) [t]).ns.length+1:=Jf ts q _ (by simp);omega
def fC(ts:List ah)(q:af)(s:Nat)(acc:List (List Int))(gU:Int):List (List Int):=
 if aZ s (aO (iw ts q [gU]))=T then jS acc [gU] else acc
def lh(ts:List ah)(q:af)(s:Nat)(acc:List (List Int))(c:aB):List (List Int):=
 if ((bQ c.cs).2.2 && !aZ s (aO (iw ts q [(bQ c.cs).1,(bQ c.cs).2.1])))=T then fC ts q s (fC ts q s acc (bQ c.cs).1) (bQ c.cs).2.1 else acc
def vI(ts:List ah)(q:af)(s:Nat):List (List Int):=
 q.wh.foldl (lh ts q s) (if aZ s (aO (iw ts q (aR q)))=T then jS [[]] (aR q) else [[]])
abbrev dP:=Nat × Nat
def aaL(rk:Nat->Int)(t:dP):Int:=if t.2=0 then 6 else rk (t.1|||t.2)
def AX(a b:Int):Int:=if a<b then -1 else if b<a then 1 else 0
def agD(rk:Nat->Int)(a b:dP):Int:=
 if AX (aaL rk b) (aaL rk a)≠0 then AX (aaL rk b) (aaL rk a) else if AX a.1 b.1≠0 then AX a.1 b.1 else AX a.2 b.2
def bsF(lt:Nat->Bool):Nat->Nat->Nat->Nat
 |0,i,_=>i
 |f+1,i,j=>if i<j then (if lt ((i+j) / 2)=T then bsF lt f ((i+j) / 2+1) j else bsF lt f i ((i+j) / 2)) else i
def aaM(rk:Nat->Int)(a:List dP)(t:dP):Nat:=bsF (λh=>decide (agD rk (E a h (0,0)) t<0)) (N a) 0 (N a)
def anH(rk:Nat->Int)(a:List dP)(t:dP):Bool:=decide (aaM rk a t<N a)&&decide (agD rk (E a (aaM rk a t) (0,0)) t=0)
def asW(rk:Nat->Int)(a:List dP)(t:dP):List dP:=if anH rk a t=T then a else a.take (aaM rk a t)++t::a.drop (aaM rk a t)
structure SeD where
 groups:List (List eD)
 Jl:List dP
 cut:Bool
 fO:dH
 picks:List Int
 status:Int
def ajZ(rk:Nat->Int)(s:Nat)(gs:List (List eD))(a:List dP)(k:Nat):List dP:=
 if ((CZ (E gs k [])).isSome&&decide (k &&& s=0))=T then asW rk (asW rk a (s,k)) (k,s) else a
def aj0(rk:Nat->Int)(s:Nat)(gs:List (List eD))(a:List dP):List dP:=(List.range (N gs)).foldl (ajZ rk s gs) a
def asX(ts:List ah)(q:af)(b t:dH):dH:=acR b (uK ts q t)
def LB(rk:Nat->Int)(ts:List ah)(q:af)(s:Nat)(l:List dH)(σ:SeD):SeD:=
 if s=2 ^ (N q.src.xs)-1 then { σ with fO:=l.foldl (asX ts q) σ.fO }
 else
  let r:=agr ts q (E σ.groups s []) l
  { σ with groups:=σ.groups.set s r.2,Jl:=if r.1=T then aj0 rk s (σ.groups.set s r.2) σ.Jl else σ.Jl }
def xV(n:Nat)(pick:Int):Int:=(pick.tmod n+n).tmod n
def xW(l:List Int)(k:Nat):Int:=if (N l)=0 then 0 else E l (k % (N l)) 0
def sH(os:List (List Int)):List eD:=os.map λo=>(o,xn)
def Yn(n:Nat)(gs:List (List eD))(t:dP):Prop:=
 (t.2=0/\∃i,i<n/\t.1=2 ^ i)∨
 (t.2≠0/\t.1<N gs/\t.2<N gs/\t.1 &&& t.2=0/\(CZ (E gs t.1 [])).isSome=T/\(CZ (E gs t.2 [])).isSome=T)
theorem Yn.set{n:Nat}{gs:List (List eD)}{t:dP}(h:Yn n gs t){s:Nat}{g:List eD}(hg:(CZ (E gs s [])).isSome=T->(CZ g).isSome=T):Yn n (gs.set s g) t:=by
 rcases h with h|⟨a,f,i,b,d,e⟩
 .exact .inl h
 .have key:∀k,(CZ (E gs k [])).isSome=T->(CZ (E (gs.set s g) k [])).isSome=true:=λk j=>by grind
  exact .inr ⟨a,by simp_all,by simp_all,b,key _ d,key _ e⟩
theorem Ug(h:uM q t):∀x∈uK ts q t,uM q x/\N x.ns<=N t.ns+3:=by have b:=Eo (ts:=ts) h;have d:=Eo (ts:=ts) (AQ (ts:=ts) (aR q) h);have e:=xQ ts q t (aR q);intro x a;unfold uK at a;grind
def agJ(i:Nat)(hi:i<5):E (ed (2 ^ i)) 0 0=(i:Int):=by
 have:i=0∨i=1∨i=2∨i=3∨i=4:=by omega
 rcases this with rfl|rfl|rfl|rfl|rfl <;> decide
def adb(hn:0<n)(pick:Int):0<=xV n pick/\xV n pick<n:=by unfold xV;have a:=Int.lt_tmod_of_pos pick (show (0:Int)<n by omega);exact⟨Int.tmod_nonneg _ (by omega),Int.tmod_lt_of_pos _ (by omega)⟩
def ai.list(n:ai):List Value:=[I J n.kind,I J n.l,I J n.r,I J n.source,n.cl.val,I J n.key,n.co.val]
def eqB{b:Int}(h:a=b):(a==b)=true:=by simpa using h
def neB{b:Int}(h:¬a=b):(a==b)=false:=by simpa using h
def indexQ_any(ao:Option Addr)(cap:Nat)(xs:List Int)(v:Int)(w:U)(hx:IntsAt w ao xs) :
  Calls V 187 #[Z ao (N xs) cap,I J v] w λe A=>∃r,e=FN (I J r)/\foundAt r (xs.any λx=>decide (v=x))/\A = w:=by
 have B:=hx.1;go_enter Tryz.func187,Tryz.ntmps187;go_wp2;go_loop [8] (λi=>∃k:Nat,k<=N xs/\i=I J k/\Y3 (∀j,j<k->decide (v=E xs j 0)=F)) (λi=>N xs-(intOf i).toNat)
 case atStart=>exact⟨0,QW _,rfl,λj m=>absurd m (by omega)⟩
 case round=>
  obtain⟨k,C,rfl,p⟩:=hrel;by_cases d:k<N xs
  .obtain⟨b,off,rfl,q⟩:=hx.get d;have t:=q k d;have g:Y3 (decide (v=E xs k 0)=T->(xs.any λx=>decide (v=x))=T):=λh=>alB (z:=0) d h
   generalize f:E xs k 0=x at*;have u:=Zh f;clear f q hx;by_cases a:v=x
   .have y:=eqB a;have l:=Zh a;clear a;go_wp2;go_ret;exact⟨_,Qe rfl,⟨by omega,by rw[g.o (Qx l.o)];simp⟩,rfl⟩
   .have y:=neB a;have l:=Zh a;clear a;go_wp2;go_round
    case rel=>
     refine⟨k+1,by omega,by go_num,λj m=>?_⟩;by_cases n:j=k
     .subst n;rw[u.o];exact Qw l.o
     .exact p.o j (by omega)
    case measure=>simp[intOf];omega
  .have g:Y3 ((xs.any λx=>decide (v=x))=F):=any_none (z:=0) (λj m=>p.o j (by omega));go_wp2;go_ret;exact⟨_,Qe rfl,⟨by omega,by rw[g.o];rfl⟩,rfl⟩
def containsQ_any(ao:Option Addr)(cap:Nat)(xs:List Int)(v:Int)(w:U)(hx:IntsAt w ao xs) :
  Ce 129 #[Z ao (N xs) cap,I J v] w (Wl (xs.any λx=>decide (v=x))):=by have a:=indexQ_any ao cap xs v w hx;go_enter Tryz.func129,Tryz.ntmps129;go_wp2_with fail;refine a.mono ?_;clear a;rintro e f ⟨r,rfl,b,rfl⟩;have d:=Zh b.2;clear b;go_wp2;go_ret;exact⟨Qd d.o,rfl⟩
theorem IntsAt.front{xs:List Int}(h:IntsAt w ao xs)(hk:k<=N xs):IntsAt w ao (xs.take k):=by
 have a:N (xs.take k)=k:=by rw[Xu];omega
 refine⟨by have:=h.1;omega,λi f=>?_⟩;obtain⟨b,off,e,d⟩:=h.2 i (by omega);grind
theorem allDifferent_any(ao:Option Addr)(cap:Nat)(xs:List Int)(w:U)(hx:IntsAt w ao xs)(hcap:N xs<=cap) :
  Ce 84 #[Z ao (N xs) cap] w (Wl (dB xs)):=by
 have L:=hx.1;go_enter Tryz.func84,Tryz.ntmps84;go_wp2;go_loop [7] (λi=>∃k:Nat,k<=N xs/\i=I J k/\Y3 (∀i,i<k->∀j,j<i->E xs i 0≠E xs j 0)) (λi=>N xs-(intOf i).toNat)
 case atStart=>exact⟨0,QW _,rfl,λi z=>absurd z (by omega)⟩
 case round=>
  obtain⟨k,G,rfl,v⟩:=hrel;by_cases d:k<N xs
  .have f:=IntsAt.front hx G;obtain⟨b,off,rfl,y⟩:=hx.get d;have A:=y k d;have m:=containsQ_any (O (aD b off)) cap (xs.take k) (E xs k 0) w f;have a:N (xs.take k)=k:=by rw[Xu];omega
   rw[a]at m;have B:Y3 (((xs.take k).any λx=>decide (E xs k 0=x))=T->∃j,j<k/\E xs k 0=E xs j 0):=λh=>by
    rw[List.any_eq_true]at h;obtain⟨x,hx,hd⟩:=h;obtain⟨j,r,rfl⟩:=Qq hx;have n:j<k:=by omega
    have:=Xa hd;refine⟨j,n,this.trans ?_⟩;grind
   have C:Y3 (((xs.take k).any λx=>decide (E xs k 0=x))=F->∀j,j<k->E xs k 0≠E xs j 0):=λh j r l=>by
    rw[List.any_eq_false]at h;have p:j<N xs:=by omega
    refine h ((xs.take k)[j]'(by omega)) (Zv _) (Qx ?_);rw[l];simp[List.getD,p]
   generalize K:((xs.take k).any λx=>decide (E xs k 0=x))=Yq at*;clear K a f y hx;generalize g:E xs k 0=x at*;have u:=Zh g;clear g;go_wp2_with fail;refine m.mono ?_;clear m;rintro e P ⟨rfl,rfl⟩;cases Yq
   .go_wp2;go_round
    case rel=>
     refine⟨k+1,by omega,by go_num,λi z=>?_⟩;by_cases t:i=k
     .subst t;rw[u.o];exact C.o (by trivial)
     .exact v.o i (by omega)
    case measure=>simp[intOf];omega
   .obtain⟨j,r,l⟩:=B.o rfl;have D:=Zh (U0 d r (by rw[u.o];exact l));clear l;go_wp2;go_ret;exact⟨Qd D.o,rfl⟩
  .go_wp2;go_ret;have q:k=N xs:=by omega
   subst q;exact⟨Qd (Pg v.o),rfl⟩
def outWidth_any(q:af)(w:U)(h1:N q.keys.xs<=1000)(h2:N q.sums.xs<=1000) :
  Cb 83 #[FL q.cells] w (I J (tN q.group q.keys.xs q.sums.xs q.bE.xs)):=by
 obtain⟨src,d,bP,wh,group,a,b,e,ord⟩:=q;simp only at h1 h2;unfold af.cells ae.val;cases group
 .go_enter Tryz.func83,Tryz.ntmps83;go_wp2;go_ret;exact⟨Qe rfl,dN _ _⟩
 .go_enter Tryz.func83,Tryz.ntmps83;go_wp2;go_ret;exact⟨Qe rfl,dN _ _⟩
def countColumns_any(ao:Option Addr)(cap:Nat)(ts:List ah)(xe:Option Addr)(lS:Nat)(xs:List Int)(w:U)(hx:bu w ao ts)(hc:ji ts=T)(hq:IntsAt w xe xs)(h5:N xs<=5)(ha:aS xs (N ts)=T) :
  Ce 80 #[Z ao (N ts) cap,Z xe (N xs) lS] w (I J (ak ts xs)):=by
 obtain⟨d,e⟩:=aJ hc ha;clear hc ha;go_enter Tryz.func80,Tryz.ntmps80;go_wp2;go_loop [5,10] (λn i=>∃k:Nat,k<=N xs/\i=I J k/\n=I J (ak ts (xs.take k))) (λ_ i=>N xs-(intOf i).toNat)
 case atStart=>exact⟨0,QW _,rfl,rfl⟩
 case round=>
  obtain⟨k,m,rfl,rfl⟩:=hrel;have g:=oL d.o e.o k m;by_cases a:k<N xs
  .obtain⟨t,p,rfl,f⟩:=hq.get a;have j:=f k a;have q:=Ql e.o a;have r:=nE d.o (i:=xs[k].toNat) (by omega);obtain⟨b,off,rfl,u,-⟩:=hx.2 xs[k].toNat (by omega);have l:=Zh (lC ts xs k a);generalize (E ts xs[k].toNat tz).cols=cc at*;generalize ak ts (xs.take k)=W0 at*;clear f hx hq;go_wp2;go_round
   case rel=>exact⟨k+1,by omega,by go_num,by rw[l.o]⟩
   case measure=>simp[intOf];omega
  .go_wp2;go_ret;have:k=N xs:=by omega
   subst this;simp
def ahg(h:ji ts=T):1<=N ts/\N ts<=8:=by unfold ji at h;simp_all
theorem YJ{xs:List Int}(hc:ji ts=T)(ha:aS xs (N ts)=T)(h1:1<=N xs)(h5:N xs<=5):1<=ak ts xs/\ak ts xs<=20:=by
 have d:∀t∈xs,1<=(E ts t.toNat tz).cols/\(E ts t.toNat tz).cols<=4:=λt b=>by unfold aS at ha;rw[Qk]at ha;have:=ha t b;simp only[Qj,ZW]at this;exact nE hc (i:=t.toNat) (by omega)
 have e:∀l:List Int,(∀t∈l,1<=(E ts t.toNat tz).cols/\(E ts t.toNat tz).cols<=4)->(N l:Int)<=ak ts l/\ak ts l<=4*N l:=by
  intro l
  induction l with
  |nil=>intro _;simp[ak]
  |cons a l ih =>
   intro h;have h1:=ih (λt b=>h t (by simp[b]));have f:=h a (by simp);have g:ak ts (a::l)=(E ts a.toNat tz).cols+ak ts l:=by simp[ak]
   grind
 grind
def vzI:ae:=⟨xn,0,[]⟩
def qz:af:=⟨vzI,xn,0,[],F,vzI,vzI,vzI,vzI⟩
structure eZ(mb qb:Nat)(lo:Option Addr)(lc:Nat)(l:List Int)(e tq:TypeId)(sz:Nat)(W0:U)(c:X3->Array X3)(W:U)(v:X3)(n:Nat)(vs:List X3):Prop where
 gb:GB W qb tq (c v)
 own:W.ownsRow (M (H W0)) e sz v n vs
 uR:aV mb lo lc l W
 kept:Kept (λb=>b≠mb/\b≠qb) W0 W
 ne:qb≠mb/\mb<M (H W0)/\qb<M (H W0)
 off:∀a,lo=O a->a.block<M (H W0)/\a.block≠qb
 num:∀x∈l,-9223372036854775808<=x/\x<=9223372036854775807
section
variable {mb qb:Nat} {lo:Option Addr} {lc:Nat} {l:List Int} {e tq:TypeId} {sz:Nat} {W0 A B:U} {c:X3->Array X3} {v:X3} {n:Nat} {vs:List X3}
def eZ.keep(h:eZ mb qb lo lc l e tq sz W0 c A v n vs)(hk:Kept (λb=>b≠mb) A B)(hm:aV mb lo lc l B):eZ mb qb lo lc l e tq sz W0 c B v n vs:=
 ⟨h.gb.keep hk h.ne.1,Za h.own hk (λg a=>by have:=(Zb h.own a).1;have:=h.ne;omega),hm,h.kept.trans (hk.mono λb _ h=>h.1),h.ne,h.off,h.num⟩
theorem eZ.push(h:eZ mb qb lo lc l e tq sz W0 c A v n vs)(hl:n<=1000)(f:Nat)(news:List Value)(t ty:TypeId){z:Value}{bytes:Nat}(hI:(P.info? e).map (λi=>(i.zero,i.size,i.bytes))=some (some z,sz,bytes))(hc:∀D,(c v).setIfInBounds f D = c D)(hf:(c v)[f]? = some v)(h1:∀u∈news,u.oneCell' = true)(ht:P.underlying t=some (.slice e):=by kernel_rfl)(hzs:z.cells.size=sz:=by rfl)(hsz:0<sz:=by decide)(hn:news.length=sz:=by rfl)(hbb:bytes<=1000:=by decide) :
  ∃a m k d,(Builtin.append_ #[t,t] ty #[v,.slice (some (aD A.heap.size 0)) 1 1]).run P (A.alloc (.cells news.toArray e))=.ok (.slice a m k) d/\d.cell? (aD qb f)=some v/\d.frozen? (aD qb f)=false/\eZ mb qb lo lc l e tq sz W0 c (d.setCell (aD qb f) (.slice a m k)) (.slice a m k) (n+1) (vs++news)/\
   Kept (λb=>v.ownBlock≠some b/\b≠qb) A (d.setCell (aD qb f) (.slice a m k))/\((Value.slice a m k).ownBlock=v.ownBlock∨(Value.slice a m k).ownBlock=some (A.heap.size+1)):=by
 obtain⟨i,R,S,W,C⟩:=Zj hI;obtain⟨D,d,X,K,r,⟨a,m,k,rfl⟩,G⟩:=iI (P:=P) A W0.heap.size t ty e i z sz bytes ht R S W C hzs hsz v n vs h.own h.kept.size news hn h1 hl hbb;have B:∀g,v.ownBlock=some g->W0.heap.size<=g:=λg y=>(Zb h.own y).1;have Q:∀g,(Value.slice a m k).ownBlock=some g->W0.heap.size<=g:=λg y=>(Zb K y).1;have j:Kept (λb=>v.ownBlock≠some b/\b≠qb) A (d.setCell (aD qb f) (.slice a m k)):=(r.mono λ_ _ h=>h.1).trans (Q8 _ _ _ (λh=>h.2 rfl));have q:=h.ne;have p:=h.gb.keep r (λe=>by grind);refine⟨a,m,k,d,X,by rw[p.cell f];exact hf,p.frozen f,⟨by have:=p.set f (.slice a m k);rwa [hc]at this,?_,?_,?_,q,h.off,h.num⟩,j,G⟩
 .exact Za K (s:=λb=>b≠qb) (Q8 d (aD qb f) _ (λh=>h rfl)) (λg y=>by grind)
 .exact h.uR.LB j ⟨λe=>by grind,Ne.symm q.1⟩ (λa L=>⟨λe=>by have:=B _ e;have:=(h.off a L).1;omega,(h.off a L).2⟩)
 .exact((h.kept.mono (t:=λb=>(b≠mb/\b≠qb)/\b<W0.heap.size) (λb _ h=>h.1)).trans (j.mono λb _ h=>⟨λe=>by grind,h.1.2⟩)).mono (λb C h=>⟨h,C⟩)
end
def bu.keep(h:bu A ao ts)(hb:∀a,ao=O a->a.block<M (H A)->B.heap[a.block]? = A.heap[a.block]?):bu B ao ts:=by
 refine⟨h.1,λi n=>?_⟩;obtain⟨b,off,rfl,e,g,j,k,l,m⟩:=h.2 i n;have f:b<M (H A):=QK (p:=(aD b (off+i*6))) e;have d:=hb (aD b off) rfl f;exact⟨b,off,rfl,(QL (a:=(aD b (off+i*6))) d).trans e,(QL (a:=(aD b (off+i*6+1))) d).trans g,(QL (a:=(aD b (off+i*6+2))) d).trans j,
  (QL (a:=(aD b (off+i*6+3))) d).trans k,(QL (a:=(aD b (off+i*6+4))) d).trans l,(QL (a:=(aD b (off+i*6+5))) d).trans m⟩
def aW.keep(h:aW A ao cs)(hb:∀a,ao=O a->a.block<M (H A)->B.heap[a.block]? = A.heap[a.block]?):aW B ao cs:=by
 refine⟨h.1,λi m=>?_⟩;obtain⟨b,off,rfl,e,g,j,k,l⟩:=h.2 i m;have f:b<M (H A):=QK (p:=(aD b (off+i*5))) e;have d:=hb (aD b off) rfl f;exact⟨b,off,rfl,(QL (a:=(aD b (off+i*5))) d).trans e,(QL (a:=(aD b (off+i*5+1))) d).trans g,(QL (a:=(aD b (off+i*5+2))) d).trans j,
  (QL (a:=(aD b (off+i*5+3))) d).trans k,(QL (a:=(aD b (off+i*5+4))) d).trans l⟩
def iA(n:Nat)(x:ae)(S:U):Prop:=aj.At x S/\(∀b,aj.blk x=O b->n<=b)/\N x.xs<=x.cap
def iA.keep{n:Nat}{x:ae}{A B:U}{s:Nat->Prop}(h:iA n x A)(hk:Kept s A B)(hs:∀b,n<=b->s b):iA n x B:=
 ⟨aj.keep h.1 hk.size (λb a d=>hk.block b a (hs b (h.2.1 b d))),h.2.1,h.2.2⟩
def iA.nil(n:Nat)(S:U):iA n vzI S:=
 ⟨⟨⟨by simp[vzI],λi d=>absurd d (by simp[vzI])⟩,(λa e=>by cases e),λ_=>rfl⟩,(λb f=>by cases f),by simp[vzI]⟩
def zV{xs:List Int}(h:w.ownsRow base e 1 v k (xs.map (Value.int J)))(hl:N xs<=1000)(hb:n<=base):∃a:ae,v=a.val/\a.xs=xs/\iA n a w:=by
 obtain⟨a,j,l,d,f⟩:=iC h (by omega);refine⟨a,j,l,d,λb i=>Qz hb (f b i),?_⟩;have m:N xs=k:=by have:=h.1;simp_all
 rcases h.2 with⟨hv',h0⟩|⟨g,cap,cur,hv',_,_,hc,_⟩
 .simp_all
 .rw[j]at hv';unfold ae.val at hv'
  simp_all
def Dk(n:Nat)(ad:Option Addr)(ls:List aB)(S:U):Prop:=
 dJ S ad ls/\(∀a,ad=O a->n<=a.block)/\∀i,i<N ls->∀a,(E ls i lz).ad=O a->n<=a.block
def Dk.keep{n:Nat}{ad:Option Addr}{ls:List aB}{A B:U}{s:Nat->Prop}(h:Dk n ad ls A)(hk:Kept s A B)(hs:∀b,n<=b->s b):Dk n ad ls B:=
 ⟨⟨h.1.1,h.1.2.1.keep λa e d=>hk.block _ d (hs _ (h.2.1 a e)),λi f=>(h.1.2.2 i f).keep λa e d=>hk.block _ d (hs _ (h.2.2 i f a e))⟩,h.2.1,h.2.2⟩
structure eu(n:Nat)(q:af)(S:U):Prop where
 src:iA n q.src S
 wh:Dk n q.gI q.wh S
 keys:iA n q.keys S
 sums:iA n q.sums S
 bE:iA n q.bE S
 ord:iA n q.ord S
 nil:q.gI=xn->q.bP=0
def eu.keep{n:Nat}{q:af}{A B:U}{s:Nat->Prop}(h:eu n q A)(hk:Kept s A B)(hs:∀b,n<=b->s b):eu n q B:=
 ⟨h.src.keep hk hs,h.wh.keep hk hs,h.keys.keep hk hs,h.sums.keep hk hs,h.bE.keep hk hs,h.ord.keep hk hs,h.nil⟩
def iA.lower{x:ae}(h:iA n x S)(hm:m<=n):iA m x S:=⟨h.1,λb a=>Qz hm (h.2.1 b a),h.2.2⟩
def eu.lower{n m:Nat}{q:af}{S:U}(h:eu n q S)(hm:m<=n):eu m q S:=
 ⟨h.src.lower hm,⟨h.wh.1,λa b=>Qz hm (h.wh.2.1 a b),λi d a b=>Qz hm (h.wh.2.2 i d a b)⟩,h.keys.lower hm,h.sums.lower hm,h.bE.lower hm,h.ord.lower hm,h.nil⟩
def eu.at'(h:eu n q S):q.At S:=⟨h.src.1.1,h.wh.1,h.keys.1.1,h.sums.1.1,h.bE.1.1,h.ord.1.1⟩
def acS(size:Nat)(hb:base<=b)(h:w.heap[b]? = O (EP #[] e (0,0))):w.ownsRow base e size (Z (O (aD b 0)) 0 0) 0 []:=
 ⟨by simp,.inr ⟨b,0,#[],rfl,hb,h,Qn _,by omega,by simp,by simp⟩⟩
theorem rC(W:U)(t ty e:TypeId)(i:TypeInfo)(z:X3)(size bytes:Nat)(ht:P.underlying t=O (.slice e))(hi:P.info? e=O i)(hz:i.zero=O z)(hsize:i.size=size)(hby:i.bytes=bytes)(hzs:z.cells.size=size)(hsz:0<size)
  (a:Addr) (m c:Nat) (news:List X3) (hl:N news=m*size) (hnews:∀j u,news[j]? = O u->∃b off,O a=O (aD b off)/\UK W (aD b (off+j))=O u) (h1:∀u∈news,u.oneCell' = T) (hm:m<=1000000) (hbb:bytes<=1000) :
  ∃f g,(Builtin.append_ #[t,t] ty #[Z (O (aD (M (H W)) 0)) 0 0,Z (O a) m c]).run P (W.alloc (EP #[] e))=.ok f g/\g.ownsRow (M (H W)) e size f m news/\Bw W g/\(∃a k d,f = Z a k d):=by
 have l:=dN W (EP #[] e);obtain⟨f,g,p,n,q,_,_⟩:=Xo (P:=P) (W.alloc (EP #[] e)) (M (H W)) t ty e i z size bytes ht hi hz hsize hby hzs hsz (Z (O (aD (M (H W)) 0)) 0 0) 0 [] (acS size (Qn _) (pR W _)) a m c news hl
  (λj u v=>by grind [iB,cB]) h1 (by grind [maxLen]) (by rw[ZK];have:=ZL hm hbb;omega) (by simp_all)
 rw[ZK,QU]at n;refine⟨f,g,p,n,l.trans ((Q9 (s:=λx=>x<M (H W)) q (λr e p=>?_)).below (by simp_all) (λ_ h=>h)),Zc n⟩;simp only[Value.ownBlock]at e;simp_all
def mh(ts:List ah)(q:af)(l:List Int):Nat:=(l.map λc=>(mM ts q.src.xs c).toNat).foldl max 0
def E9(ts:List ah)(q:af)(hk:k<N l):mh ts q (l.take (k+1))=max (mh ts q (l.take k)) (mM ts q.src.xs (E l k 0)).toNat:=by
 have e:E l k 0=l[k]:=by simp[List.getD,hk]
 unfold mh;rw[Qh hk,Qi,Xf,e];rfl
theorem WH(ts:List ah)(q:af){cs:List aI}(h1:¬1<N cs)(h0:0<N cs)(hn:(E cs 0 cz).not=F)(h2:(E cs 0 cz).op≠1)(h3:(E cs 0 cz).op≠2):kQ ts q.src.xs cs=mh ts q (aH (E cs 0 cz)):=by unfold kQ mh aH;grind
def acE(ok:Ok ts q)(h:jI ts q l)(k:Nat):mh ts q (l.take k)<=1000000:=by
 induction k with
 |zero=>simp[mh]
 |succ k ih =>
  by_cases a:k<N l
  .rw[E9 ts q a];obtain⟨b,e⟩:=h _ (Xl a (d:=0));have:=(Cc ok.cat ok.src b e).2;omega
  .rw[Xi (by omega)];rw[Xi (by omega)]at ih;exact ih
theorem WI(f:aF)(ts:List ah)(q:af)(ca:Option Addr)(cc:Nat)(cs:List aI)(w:U)(ok:Ok ts q)(hf:iU w f.ca (jm ts q))(hx:aW w ca cs)(h0:0<N cs)(kU:jI ts q (aN cs)) :
  Cb 65 #[FL (f.cells ts q),FL #[Z ca (N cs) cc]] w (I Vo ((kQ ts q.src.xs cs:Nat):Int)):=by
 obtain⟨cb,co,rfl,c0,c1,c2,c3,c4⟩:=hx.2 0 h0;have aS:=hx.1;rw[Nat.zero_mul,Xb]at c0 c1 c2 c3 c4;have G:jI ts q (aH (E cs 0 cz)):=λc hc=>kU c (Z6.2 ⟨_,Xl h0,hc⟩);have j:Y3 _:=@WH ts q cs;have p:Y3 (kQ ts q.src.xs cs=if (N cs)≠1∨(E cs 0 cz).not=T then 2 else if (E cs 0 cz).op=1 then 3 else if (E cs 0 cz).op=2 then 10 else kQ ts q.src.xs cs):=by
  show _=_;unfold kQ
  repeat' split
  all_goals rfl
 generalize kQ ts q.src.xs cs=R at*;generalize E cs 0 cz=c at*;obtain⟨b,g,left,a,right⟩:=c;simp only at*;obtain⟨w1,aO,ai,aj⟩:=aL w ((f.cells ts q)) 90;obtain⟨Q,aP,S,ak⟩:=aL w1 #[Z (O (aD cb co)) (N cs) cc] 73;obtain⟨w3,aQ,A,m⟩:=aL Q #[Wl b,I J g,I J left,Wl a,I J right] 69;have K:=az ai S;have L:=az K A;have aa:=az S A;obtain⟨d0,d1,d2,d3,d4⟩:=qA K c0 c1 c2 c3 c4;have m0:UK Q (aD (M (H w1)) 0)=O (Z (O (aD cb co)) (N cs) cc):=ak.cell 0;have ay:=cB A m0;have b0:UK w3 (aD (M (H Q)) 0)=O (Wl b):=m.cell 0;have b1:UK w3 (aD (M (H Q)) 1)=O (I J g):=m.cell 1;have b2:UK w3 (aD (M (H Q)) 2)=O (I J left):=m.cell 2;have b3:UK w3 (aD (M (H Q)) 3)=O (Wl a):=m.cell 3;have b4:UK w3 (aD (M (H Q)) 4)=O (I J right):=m.cell 4;have q7:UK w1 (aD (M (H w)) 7)=O (Z f.ca (N (jm ts q)) f.cc):=aj.cell 7;have ae:=cB aa q7;have W:Y3 _:=L;have X:Y3 _:=hf.below L;have aT:=hf.1;have i:=vV ⟨b,g,left,a,right⟩ w3;unfold aI.val at i;simp only at i;have r:Y3 (∀k,k<N (aH ⟨b,g,left,a,right⟩)->∃n kd:Nat,E (aH ⟨b,g,left,a,right⟩) k 0=n/\n<N (jm ts q)/\(E (jm ts q) n (0,0)).2=(kd:Int)/\kd=(mM ts q.src.xs (E (aH ⟨b,g,left,a,right⟩) k 0)).toNat/\kd<=1000000):=λk hk=>by obtain⟨h0,h1⟩:=G _ (Xl hk (d:=0));have h2:=D9 ok;have h3:=Cc ok.cat ok.src h0 h1;refine⟨(E (aH ⟨b,g,left,a,right⟩) k 0).toNat,(mM ts q.src.xs (E (aH ⟨b,g,left,a,right⟩) k 0)).toNat,by omega,by omega,?_,rfl,by omega⟩;have e:(E (jm ts q) (E (aH ⟨b,g,left,a,right⟩) k 0).toNat (0,0)).2=mM ts q.src.xs (E (aH ⟨b,g,left,a,right⟩) k 0):=rfl;rw[e];omega
 have ag:Y3 (∀k,k<N (aH ⟨b,g,left,a,right⟩)->mh ts q ((aH ⟨b,g,left,a,right⟩).take (k+1))=max (mh ts q ((aH ⟨b,g,left,a,right⟩).take k)) (mM ts q.src.xs (E (aH ⟨b,g,left,a,right⟩) k 0)).toNat):=λk hk=>E9 ts q hk;have UT:Y3 (∀k,mh ts q ((aH ⟨b,g,left,a,right⟩).take k)<=1000000):=λk=>acE ok G k;have Oh:Y3 (mh ts q ((aH ⟨b,g,left,a,right⟩).take (N (aH ⟨b,g,left,a,right⟩)))=mh ts q (aH ⟨b,g,left,a,right⟩)):=by show _=_;rw[QX]
 have yN:Y3 (mh ts q ((aH ⟨b,g,left,a,right⟩).take 0)=0):=rfl;have aA:Y3 (N (aH ⟨b,g,left,a,right⟩)<=2):=NW _;generalize aH ⟨b,g,left,a,right⟩=CC at*;generalize f.cells ts q=FC at*;obtain⟨D,y⟩:∃D:Nat->Nat,D=λk=>mh ts q (CC.take k):=⟨_,rfl⟩;have t:Y3 (∀k,k<N CC->D (k+1)=max (D k) (mM ts q.src.xs (E CC k 0)).toNat):=by rw[y];exact ag.o
 have u:Y3 (∀k,D k<=1000000):=by rw[y];exact UT.o
 have l:Y3 (D (N CC)=mh ts q CC):=by rw[y];exact Oh.o
 have z:Y3 (D 0=0):=by rw[y];exact yN.o
 clear y ag UT Oh yN c0 c1 c2 c3 c4 ai S A K L aa aj ak m hf hx kU G ok;by_cases h1:1<N cs
 .have v:Y3 (R=2):=by grind
  clear p j r t u l z X i;go_enter Tryz.func65,Tryz.ntmps65;go_wp2;go_ret;exact⟨Qe (by rw[v.o];rfl),W.o⟩
 cases b with
 |true =>
  have v:Y3 (R=2):=by grind
  clear p j r t u l z X i;go_enter Tryz.func65,Tryz.ntmps65;go_wp2;go_ret;exact⟨Qe (by rw[v.o];rfl),W.o⟩
 |false =>
  have P:¬(N cs≠1∨F=T):=by grind
  by_cases o1:g=1
  .have v:Y3 (R=3):=by grind
   subst o1;clear p j r t u l z X i P;go_enter Tryz.func65,Tryz.ntmps65;go_wp2;go_ret;exact⟨Qe (by rw[v.o];rfl),W.o⟩
  by_cases o2:g=2
  .have v:Y3 (R=10):=by grind
   subst o2;clear p j r t u l z X i P;go_enter Tryz.func65,Tryz.ntmps65;go_wp2;go_ret;exact⟨Qe (by rw[v.o];rfl),W.o⟩
  have v:Y3 (R=mh ts q CC):=j.o h1 h0 rfl o1 o2;have aU:(g==1)=false:=by simp[o1]
  have aV:(g==2)=false:=by simp[o2]
  rw[<-l.o]at v;clear p j P o1 o2 l;generalize mM ts q.src.xs=KN at*;generalize jm ts q=CS at*;go_enter Tryz.func65,Tryz.ntmps65;go_wp2_with fail;refine i.mono ?_;clear i aO aP aQ;rintro e w4 ⟨xb,rfl,au,B⟩;have aB:=cB B ae;have aC:Y3 _:=az W.o B;have aG:Y3 (iU w4 f.ca CS):=iU.below B X.o;have aJ:Y3 _:=au;have aX:=aA.o;clear B au X W m0 ay b0 b1 b2 b3 b4 q7 ae d0 d1 d2 d3 d4;go_wp2;go_loop [6,30] (λsv iv=>∃k:Nat,k<=N CC/\iv=I J k/\(∃s:Nat,sv=I Vo (s:Int)/\Y3 (s=D k))) (λ_ iv=>N CC-(intOf iv).toNat)
  case atStart=>grind
  case round=>
   obtain⟨k,hk,rfl,⟨s,rfl,hs⟩⟩:=hrel;by_cases C:k<N CC
   .obtain⟨bn,xo,e,zh⟩:=Qg aJ.o C
    cases e;have aK:=zh k C;obtain⟨n,kd,hn,aR,av,ax,bq⟩:=r.o k C;have HT:Y3 _:=t.o k C;have aY:s<=1000000:=by rw[hs.o];exact u.o k
    obtain⟨yb,yo,JO,_,y1⟩:=(show iU w4 f.ca CS from aG.o).2 n aR;rw[JO]at aB;rw[hn,ZK]at aK;rw[av]at y1;rw[<-hs.o,<-ax]at HT;clear zh JO av hs ax hn;generalize KN (E CC k 0)=kk at*;have aZ:max (s:Int) (kd:Int)=((max s kd:Nat):Int):=by omega
    have bf:(if (s:Int)<(kd:Int) then (kd:Int) else (s:Int))=((max s kd:Nat):Int):=by split <;> omega
    have bg:(if (kd:Int)<(s:Int) then (s:Int) else (kd:Int))=((max s kd:Nat):Int):=by split <;> omega
    go_wp2;go_round
    case rel=>grind
    case measure=>simp[intOf];omega
   .obtain rfl:k=N CC:=by omega
    have aM:Y3 (s=R):=by show _=_;rw[hs.o,v.o]
    clear hs v;go_wp2;go_ret;exact⟨Qe (by rw[aM.o]),aC.o⟩
def pq(h:W.ownsRow base e sz v n xs)(hb:v.ownBlock=O b):∃a,W.heap[b]? = O (EP a e (0,0)):=by
 rcases h.2 with⟨rfl,_⟩|⟨g,cap,a,rfl,_,h3,_⟩
 .cases hb
 .cases hb
  simp_all
def qX{t:TypeId}(ht:e≠t)(h:W.ownsRow base e sz v n xs){c:Array X3}(hg:GB W b t c):v.ownBlock≠O b:=λd=>by obtain⟨a,f⟩:=pq h d;unfold GB at hg;simp_all
def CJ{t:TypeId}(ht:e≠t){base' sz':Nat}(h:W.ownsRow base e sz v n xs)(h':W.ownsRow base' t sz' v' n' xs')(hb:v.ownBlock=O b):v'.ownBlock≠O b:=λa=>by obtain⟨f,i⟩:=pq h hb;obtain⟨d,g⟩:=pq h' a;simp_all
theorem CP{w5:U}{bf:Nat}{tF:TypeId}(ht:e≠tF){cells:Array X3}(hg:GB W bf tF cells)(ho:W.ownsRow base e sz v n xs)(yK:w5.ownsRow base e sz v' n' xs')(hk:Kept (λb=>v.ownBlock≠O b) W w5)
  (hat:v'.ownBlock=v.ownBlock∨v'.ownBlock=O (M (H W)+1)) (i:Nat) :
  GB w5 bf tF cells/\GB (UC w5 (aD bf i) v') bf tF (cells.setIfInBounds i v')/\(UC w5 (aD bf i) v').ownsRow base e sz v' n' xs'/\Kept (λb=>b≠bf/\v.ownBlock≠O b) W (UC w5 (aD bf i) v'):=by
 have f:=qX ht ho hg;have a:=hg.keep hk f;have k:=hg.lt;have d:v'.ownBlock≠O bf:=λe=>by grind
 refine⟨a,a.set i v',?_,(hk.mono λ_ _ h=>h.2).trans (Q8 _ _ _ (λh=>h.1 rfl))⟩;exact Za yK (s:=λb=>b≠bf) (Q8 _ _ _ (λh=>h rfl)) (λg j e=>d (by rw[j,e]))
def acG(ts:List ah)(src:List Int)(k m:Nat):(dD ts src k++((List.range (m+1)).map λm=>(k,(E ts (E src k 0).toNat tz).kd m))).flatMap kW=(dD ts src k++((List.range m).map λm=>(k,(E ts (E src k 0).toNat tz).kd m))).flatMap kW++kW (k,(E ts (E src k 0).toNat tz).kd m):=by rw[ZM,Qi,<-ZE,ZN];simp
def qF(ts:List ah)(src:List Int)(k:Nat):List Nat:=(List.range k).map λ(k:Nat)=>mV ts src (k:Int)
theorem Ti(ts:List ah)(src:List Int)(k:Nat):qF ts src (k+1)=qF ts src k++[mV ts src (k:Int)]:=by grind [qF,List.range_succ]
theorem sD(ts:List ah)(src:List Int)(k:Nat):N (qF ts src k)=k:=by grind [qF]
theorem Ef{ts:List ah}{src:List Int}(hc:ji ts=T)(ha:aS src (N ts)=T)(h:N src<=64):∀k,k<=N src->N (dD ts src k)<=4*k
 |0,_=>by simp[dD]
 |k+1,hk=>by have ih:=Ef hc ha h k (by omega);rw[iE,Zn,Zm,ZP];obtain⟨h0,h1⟩:=Cg ha (k:=k) (by omega);have ht:=Ca hc (i:=(E src k 0).toNat) (by omega);unfold mK at ht;grind
theorem Ms(h:s<2 ^ n)(hi:i∈aT s):i<n:=by unfold aT at hi;grind [Nat.testBit_lt_two_pow,Nat.lt_of_lt_of_le,Nat.pow_le_pow_right]
theorem Fb(h:kT ts q l s=T):aY (N q.wh) l:=λx b=>by
 unfold kT at h;rw[Qk]at h;have d:∀i,i<N l->(if i=0 then -1 else E l (i-1) 0)<E l i 0/\E l i 0<N q.wh:=λi a=>by simp_all
 have f:∀i,i<N l->0<=E l i 0:=by
  intro i
  induction i with
  |zero=>grind
  |succ i ih =>
   grind
 obtain⟨i,a,e⟩:=Qq b;grind
def xL(g:Nat->Nat):∀(l:List Nat) (m:Nat),l.foldl (λx c=>x / g c) m<=m
 |[],m=>Qn _
 |a::l,m=>by rw[ZF];exact Qz (xL g l _) (Nat.div_le_self _ _)
theorem agd(ts:List ah)(q:af)(s c:Nat):lZ ts q s c<=bJ:=by
 unfold lZ;have a:=sw ((aT s).map λ(k:Nat)=>mV ts q.src.xs (k:Int)) 1 (by grind [bJ]);split
 .omega
 .have:=xL (λc=>kQ ts q.src.xs (E q.wh c lz).cs) (aT c) (((aT s).map λ(k:Nat)=>mV ts q.src.xs (k:Int)).foldl bV 1);omega
theorem age(k:Int)(s lc ls rc rs:Nat):lF k s lc ls rc rs<=bJ:=by grind [lF,BZ]
theorem WR{n:ai}{l r:bN}(hs:fQ n i=T)(hf:iG ts q n l r=T):aY (N q.wh) n.cl.xs/\(n.kind=1->0<=n.source/\n.source<N q.src.xs):=by
 have b:sO n=true:=by unfold fQ at hs;simp_all
 have d:(n.kind=2∨3<=n.kind/\n.kind<=5)∨n.cl.xs=[]:=by unfold sO at b;grind
 unfold iG at hf;constructor
 .rcases d with h|h
  .rw[ZU (by omega)]at hf;by_cases k2:n.kind=2
   .rw[Zt k2,Qj]at hf;exact Fb hf.2
   rw[ZU k2]at hf;have a:pX ts q n l.sources r.sources=true:=by grind
   unfold pX at a;rw[Qj]at a;exact Fb a.2
  .rw[h];exact λx e=>by cases e
 grind
section
def xM(s k:Nat):List Nat:=(List.range k).filter λi=>s.testBit i
def Tv(s k:Nat):xM s (k+1)=xM s k++if s.testBit k=T then [k] else []:=by unfold xM;rw[ZM,QZ];cases h:s.testBit k <;> simp[h]
theorem WS(s:Nat){k:Nat}(hk:k<=64):xM s k <+: aT s:=by
 have e:List.range 64=List.range k++(List.range (64-k)).map (k + ·):=by rw[<-List.range_add];congr 1;omega
 unfold xM aT;grind
def WU(s:Nat){k:Nat}(hk:k<=64)(h:s / 2 ^ k=0):xM s k=aT s:=by
 symm;refine Bt hk _ (λi d=>?_);have b:s<2 ^ k:=by
  rcases XV s (2 ^ k) with a|a
  .exact a
  .have:=Nat.div_pos a (Nat.pow_pos (by omega));omega
 exact ZH (QA b (ZI (by omega) d))
def WV(hs:s<18446744073709551616)(h:s / 2 ^ k≠0):k<64:=by
 rcases XV k 64 with a|a
 .exact a
 .exfalso;apply h;apply Nat.div_eq_of_lt;exact QA hs (ZI (n:=2) (by omega) a)
attribute [local go_sem] Oper.semAt_some
theorem vE(s:Nat)(hs:s<18446744073709551616)(w0:U):ash ng V 60 (I Vo (s:Int)) (aT s) w0:=by
 intro l Jq W o hW ho hJ hY h0;have S:=Zh hY;have v:Y3 _:=@Tv s;have y:Y3 _:=@WS s;have z:Y3 _:=@WU s;have X:Y3 (∀n x,n<64->_):=λn x hn=>VN s n hs hn x;have A:Y3 (∀k,s / 2 ^ k≠0->k<64):=λk h=>WV hs h;have Px:Y3 (xM s 0=[]):=rfl;generalize xM s=RT at*;refine(QH (n:=0)).1 (callsIn_of_wp Tryz.func60 rfl trivial ?_ rfl);simp only[Tryz.ntmps60,QN,QO,QP,Nat.reduceAdd,Nat.reduceSub,QQ,QR,QS,QT,QU,QV];gi_wp2;gi_loopw [4] (λi wr=>∃k:Nat,k<=64/\i=I J k/\∃g,Y3 (Jq (RT k) g wr)/\Y3 (Kept (λb=>¬o b) W wr)/\Y3 (∀b,g b->o b∨(M (H W)<=b/\b<M (H wr))))
  (λi _=>64-(intOf i).toNat)
 case atStart=>exact⟨0,QW _,rfl,o,by rw[Px.o];exact h0,Qy _ _,λb h=>.inl h⟩
 case round=>
  obtain⟨k,hk,rfl,g,f,m,a⟩:=hrel;by_cases R:s / 2 ^ k=0
  .have HE:=Zh (z.o hk R);have B:((s:Int) / 2 ^ k != 0)=false:=by grind
   gi_wp2;go_end0;exact⟨⟨_,rfl⟩,aT s,g,by simp[ng],by rw[<-HE.o];exact f.o,m.o,a.o⟩
  .have C:=A.o k R;have B:((s:Int) / 2 ^ k != 0)=true:=by grind
   have r:=Zh (v.o k);have HP:Y3 (RT (k+1) <+: aT s):=y.o (by omega);have t:=X.o k wr C
   cases q:s.testBit k with
   |false =>
    rw[q]at t r;gi_wp2;refine⟨trivial,rfl,QH.2 (t.mono ?_)⟩;rintro e P ⟨rfl,rfl⟩;gi_wp2;refine⟨(λ_ h=>by cases h),?_⟩;gi_wp2;go_roundw
    case rel=>exact⟨k+1,by omega,by go_num,g,by have h:RT (k+1)=RT k++[]:=r.o;rw[h,Xd];exact f.o,m.o,a.o⟩
    case measure=>simp[intOf];omega
   |true =>
    rw[q]at t r;have j:Y3 (RT (k+1)=RT k++[k]):=r.o;obtain⟨fn,tmps,d,p,hy,hR⟩:=S.o (RT k) k g wr f.o (by rw[<-j.o];simpa [ng] using HP.o) trivial (λb h=>by cases h) m.o.size;have aa:(Instr.yield l #[I J (k:Int)]).run V wr=.ok (.round l fn tmps d p) wr:=hy;gi_wp2;refine⟨trivial,rfl,QH.2 (t.mono ?_)⟩;rintro e P ⟨rfl,rfl⟩;gi_wp2;refine⟨rfl,hR.mono ?_⟩;rintro e P ⟨rfl,o2,D,G,K⟩;obtain⟨L,Q,Dz⟩:=dQ D G K;gi_wp2;go_roundw
    case rel=>
     refine⟨k+1,by omega,by go_num,o2,by rw[j.o];exact L.o,m.o.trans' Q.o ?_,?_⟩
     .intro b q h u;rcases a.o b u with u|u
      .exact h u
      .omega
     .intro b q;have:=Q.o.size;have:=m.o.size;rcases Dz.o b q with h|h|h
      .rcases a.o b h with h|h
       .exact .inl h
       .exact .inr ⟨h.1,by omega⟩
      .exact .inr ⟨by omega,h.2⟩
      .cases h.1
    case measure=>simp[intOf];omega
end
section
def AB{pre l:List α}{x:α}(h:pre++[x] <+: l):x∈l:=h.subset (by simp)
structure KC(w2:U)(t:TypeId)(X:Nat)(o1:Nat->Prop)(W:U):Prop where
 g:GB W (M (H w2)) t #[I Vo (X:Int)]
 below:Bw w2 W
 iff:∀b,o1 b↔b=M (H w2)
def KC.keep{w2:U}{t:TypeId}{X:Nat}{o1:Nat->Prop}{A B:U}{n:Nat}(h:KC w2 t X o1 A)(hn:M (H w2)<=n)(hk:Kept (λb=>o1 b∨b<n) A B):KC w2 t X o1 B:=
 ⟨h.g.keep hk (.inl ((h.iff _).2 rfl)),h.below.trans (hk.below h.below.size (λb a=>.inr (by omega))),h.iff⟩
def KC.step{w2:U}{t:TypeId}{X Yq:Nat}{o1:Nat->Prop}(h:KC w2 t X o1 W):KC w2 t Yq o1 (UC W.drew (aD (M (H w2)) 0) (I Vo (Yq:Int)))/\Kept (λb=>¬o1 b) W (UC W.drew (aD (M (H w2)) 0) (I Vo (Yq:Int))):=by have d:Kept (λb=>b≠M (H w2)) W (UC W.drew (aD (M (H w2)) 0) (I Vo (Yq:Int))):=(QB ((Qm (M (H W)) W).drew) (λb a _=>a)).trans (Q8 _ _ _ (λh=>h rfl));exact⟨⟨(h.g.keep (QB (s:=λ_=>True) ((Qm (M (H W)) W).drew) (λb a _=>a)) trivial).set 0 _,h.below.trans (d.below h.below.size (λb a=>Nat.ne_of_lt a)),h.iff⟩,d.mono λb _ a e=>a ((h.iff b).2 e)⟩
attribute [local go_sem] Oper.semAt_some
def Tw(f:aF)(ts:List ah)(q:af)(p:aG)(ao:Option Addr)(pl cap:Nat)(w:U)(ok:Ok ts q)(hf:f.At ts q w)(hs:p.sources<2 ^ (N q.src.xs))(hc:p.clauses<2 ^ (N q.wh))(hk:dZ p.kind=F) :
  Cb 166 #[FL (f.cells ts q),FL p.cells,Z ao pl cap] w (I Vo ((lZ ts q p.sources p.clauses:Nat):Int)):=by
 have aV:p.sources<18446744073709551616:=QA hs (ZI (n:=2) (by omega) ok.small);have WW:p.clauses<18446744073709551616:=QA hc (ZI (n:=2) (by omega) ok.wm);have bL:Y3 (∀x∈aT p.sources,x<N q.src.xs):=λx t=>Ms hs t;have bM:Y3 (∀x∈aT p.clauses,x<N q.wh):=λx t=>Ms hc t;obtain⟨bZ,bg⟩:=aJ (vE p.sources aV) (vE p.clauses WW);have HR:Y3 _:=hf.rows;have HP:Y3 _:=hf.parts;obtain⟨bn,vU⟩:=aJ (abr ts q) (Lx ts q);have bN:Y3 (∀x,x<N q.src.xs->E (EJ ts q) x 0<=bJ):=λx t=>by rw[LA ts q t];obtain⟨h0,h1⟩:=Cg ok.src (k:=x) t;have ht:=Ca ok.cat (i:=(E q.src.xs x 0).toNat) (by omega);unfold mK at ht;rw[ZW]at ht;unfold mV bJ;rw[Xk];omega
 have aW:Y3 (∀x,x<N q.wh->1<=E (zF ts q) x 0/\E (zF ts q) x 0<=1000000):=λx t=>by rw[DT ts q t];exact afX ok.cat ok.src (ok.cols x t)
 obtain⟨X,bq,bu,j,bz⟩:∃X:List Nat->Nat,X []=1/\(∀pre x,x<N q.src.xs->X (pre++[x])=bV (X pre) (E (EJ ts q) x 0))/\(∀pre,X pre<=bJ)/\X (aT p.sources)=((aT p.sources).map λ(k:Nat)=>mV ts q.src.xs (k:Int)).foldl bV 1:=
  ⟨λpre=>(pre.map λ(k:Nat)=>mV ts q.src.xs (k:Int)).foldl bV 1,rfl,λpre x t=>by simp only[Qi,Xf];rw[LA ts q t];rfl,λpre=>sw _ 1 (by unfold bJ;omega),rfl⟩
 obtain⟨v,aa⟩:=eX (X (aT p.sources));obtain⟨m,bA,bB,av,bC⟩:∃m:List Nat->Nat,m []=v/\(∀pre x,x<N q.wh->m (pre++[x])=m pre / E (zF ts q) x 0)/\(∀pre,m pre<=bJ)/\m (aT p.clauses)=(aT p.clauses).foldl (λx c=>x / kQ ts q.src.xs (E q.wh c lz).cs) v:=
  ⟨λpre=>pre.foldl (λx c=>x / kQ ts q.src.xs (E q.wh c lz).cs) v,rfl,λpre x t=>by simp only[Xf];rw[DT ts q t];rfl,λpre=>Qz (xL _ pre v) (by rw[<-aa];exact j _),rfl⟩
 obtain⟨R,hR⟩:=eY (lZ ts q p.sources p.clauses);have KA:Y3 (R=if v=0 then 0 else max (m (aT p.clauses)) 1):=by show R=_;rw[hR];unfold lZ;rw[<-bz,aa,bC]
 rw[<-hR];clear hR;obtain⟨cu,cz,cO,L8,bD,bE,ax⟩:=ze bq bu j aa bA bB av;clear bq bu j bz aa bA bB av bC;have aX:=λx=>BX p.kind x;rw[hk]at aX;obtain⟨v0,v1,v2,v3,v4,v5,v6,v7,v8,v9,ay,aA,aB,cK,-,-,-,-,-,-,-,-,-,-,bF,-,aC⟩:=X9 f ts q;rw[cK];rw[hf.pl]at aC;rw[acO];clear hk hs hc aV WW cK ok hf;generalize EJ ts q=RL at*;generalize zF ts q=PL at*;generalize aT p.sources=SL at*;generalize aT p.clauses=CL at*;obtain⟨kind,ps,pc,ord,aH,aI⟩:=p;simp only at*;generalize ord.val=od at*;obtain⟨w1,dH,bG,aK⟩:=aL w #[v0,v1,v2,v3,v4,v5,v6,v7,v8,v9,ay,aA,aB] 90;obtain⟨w2,dI,aM,aN⟩:=aL w1 #[I J kind,I Vo (ps:Int),I Vo (pc:Int),od,I Vo (aH:Int),I Vo (aI:Int)] 100;have ae:=aM;have aY:=az bG ae;have jJ:=aK.of (ae.block _ aK.lt);have dS:=jJ.at 10;have dU:=jJ.at 12;have qU:=aN;obtain⟨nQ,oW,pg⟩:=qU.k3;rw[bF]at dS;rw[aC]at dU;clear bF aC;obtain⟨w3,cZ,aO,bH⟩:=aL w2 #[I Vo 1] 37;have L:Y3 (M (H w3)=M (H w2)+1):=by rw[<-cZ];show _=_;simp
 obtain⟨D,zX⟩:=aJ aY aO;have Dz:Y3 _:=bH;have b1:=cB aO oW;obtain⟨df,dh,di⟩:=dQ dS dU pg;clear bG aM aK aN jJ qU aY ae aO bH dS dU pg oW;refine(QH (n:=0)).1 (Q3 Tryz.func166 rfl trivial ?_ rfl);simp only[Tryz.ntmps166,QN,QO,QP,Nat.reduceAdd,Nat.reduceSub,QQ,QR,QS,QT,QU,QV];gi_wp2;refine⟨trivial,rfl,QH.2 ((aX _).mono ?_)⟩;rintro e W ⟨rfl,ag⟩;have ag:=ag.symm;subst ag;gi_wp2;refine yO ng (gf:=60) (s:=I Vo (ps:Int)) rfl (XZ Tryz.func60 (by kernel_rfl) rfl) (bZ.o w2) zX.o rfl
  (λpre r W=>KC w2 37 (X pre) r W) (λb=>b=M (H w2)) ?_ ?_ ⟨by rw[cu.o];exact Dz.o,zX.o,λ_=>QJ⟩
  (λx=>{ tmps:=#[FL #[v0,v1,v2,v3,v4,v5,v6,v7,v8,v9,ay,aA,aB],FL #[I J kind,I Vo (ps:Int),I Vo (pc:Int),od,I Vo (aH:Int),I Vo (aI:Int)],Z ao pl cap,Y (O (aD (M (H w)) 0)),Y (O (aD (M (H w1)) 0)),undef,I Vo 0,Y (O (aD (M (H w2)) 0)),I J (x:Int),undef,undef,Y (O (aD (M (H w1)) 0)),I J kind,Wl F,undef,undef,undef,undef,Y (O (aD (M (H w1)) 1)),I Vo (ps:Int),.func (.func 60) #[I Vo (ps:Int)] #[],I J (x:Int),undef,undef,undef,undef,undef,undef,undef,undef,undef,undef,undef,undef,undef,undef,undef,undef,undef,undef,undef,undef,undef,undef,undef],defers:=[] }) ?assign ?body ?done
 .rintro b rfl;exact⟨Qn _,by have:=L.o;omega⟩
 .intro pre r A B h hk;exact h.keep (by have:=L.o;omega) hk
 case assign=>
  intro l x W K u;have he:ng.enc x=I J (x:Int):=rfl;gi_wp2;exact u
 case body=>
  intro l pre x r W d C t bK dz;have a:=bL.o x (AB (by simpa [ng] using C));have ai:=D.o.trans (d.below.mono D.o.size);obtain⟨rb,ro,aP,aQ⟩:=fH.get (fH.below ai HR.o) (i:=x) (by rw[bn.o];exact a);have bO:=aQ x (by rw[bn.o];exact a);have P:=Zh (cz.o pre x a);have aZ:=bN.o x a;have j:=cO.o pre;have bP:=d.g.at 0;have bQ:=d.g.frozen 0;have aj:=cB d.below df.o;rw[aP]at aj;have HI:=Zh d;generalize E RL x 0=rn at*;have hT:=λy=>Ai (X pre) rn y j aZ;rw[<-P.o]at hT;have lu:Y3 (∀act,gK ng (λpre r W=>KC w2 37 (X pre) r W) pre x (M (H w3)) r W .normal act (UC W.drew (aD (M (H w2)) 0) (I Vo (X (pre++[x]):Int)))):=λ_=>⟨r,HI.o.step.1,HI.o.step.2,λb hb=>.inl hb⟩;generalize X (pre++[x])=Xn at*;generalize X pre=Xp at*;gi_wp2_with fail;have FO:V.follows .mixedOrders=true:=by kernel_rfl
  refine wpIn_region_any FO (mW (lV (by kernel_rfl)) _ _ _ _ ?_);change wpAnyIn _ _ _ _ _ _ _ _ _ (World.drew _);refine iT 1 (Y (O (aD (M (H w)) 10))) ?_;refine iT 3 (I J (x:Int)) ?_
  repeat' first
   |refine iJ 0 2 ?_ ?_
   |refine iJ 0 5 ?_ ?_
   |refine iQ 0 ?_
   |refine iQ 2 ?_
   |refine iQ 5 ?_
   |refine iQ 6 ?_
   |refine iQ 7 ?_
   |refine iT 4 (Y (O (aD rb (ro+x)))) ?_
   |refine iD ?_;exact lu.o ⟨#[],[]⟩
   |intro K u;go_simp;refine u _ _ ?_;clear u K
   |intro K u;go_simp;refine⟨trivial,rfl,QH.2 ((hT _).mono ?_)⟩;rintro e Wt ⟨rfl,rfl⟩;refine u _ _ ?_;clear u K
 case done=>
  rintro ys o' G aR d aM aN hD;have ak:ys=SL:=by simpa [ng] using aR
  subst ak;rw[L8.o]at d;have bR:=d.g.at 0;have Q:=d.below;obtain⟨dm,z⟩:=aJ hD ((QI.1 hD).1);by_cases h0:v=0
  .have bS:Y3 (R=0):=by show R=0;rw[KA.o,Zt h0]
   subst h0;gi_wp2;refine⟨by simp,.inl ⟨_,_,rfl,Q5 hD,?_⟩⟩;refine⟨_,results_tmp rfl _ _ _,by rw[bS.o];rfl,?_⟩;exact D.o.trans (((Q.mono D.o.size)).trans ((QC (s:=λb=>b<M (H w)) _ _ (by have:=D.o.size;have:=L.o;omega)).below (Qz D.o.size Q.size) (λ_ h=>h)))
  .have bT:Y3 (R=max (m CL) 1):=by show R=_;rw[KA.o,ZU h0]
   have dA:((v:Int)==0)=false:=by rw[XW];omega
   obtain⟨W3,aS⟩:∃x,G.alloc (EP #[I Vo (v:Int)] 37)=x:=⟨_,rfl⟩;have DL:Bw G W3:=by rw[<-aS];exact dN _ _
   have bU:Y3 (GB W3 (M (H G)) 37 #[I Vo (v:Int)]):=by rw[<-aS];exact pR _ _
   have S:Y3 (M (H W3)=M (H G)+1):=by rw[<-aS];show _=_;simp
   have c2:=cB DL (cB Q di.o);obtain⟨wG,aU⟩:=aJ DL Q;gi_wp2;refine yO ng (gf:=60) (s:=I Vo (pc:Int)) rfl (XZ Tryz.func60 (by kernel_rfl) rfl) (bg.o G) wG.o rfl
    (λpre r W=>KC G 37 (m pre) r W) (λb=>b=M (H G)) ?_ ?_ ⟨by rw[bD.o];exact bU.o,wG.o,λ_=>QJ⟩
    (λx=>{ tmps:=#[FL #[v0,v1,v2,v3,v4,v5,v6,v7,v8,v9,ay,aA,aB],FL #[I J kind,I Vo (ps:Int),I Vo (pc:Int),od,I Vo (aH:Int),I Vo (aI:Int)],Z ao pl cap,Y (O (aD (M (H w)) 0)),Y (O (aD (M (H w1)) 0)),undef,I Vo 0,Y (O (aD (M (H w2)) 0)),undef,Y (O (aD (M (H G)) 0)),I J (x:Int),Y (O (aD (M (H w1)) 0)),I J kind,Wl F,undef,undef,undef,undef,Y (O (aD (M (H w1)) 1)),I Vo (ps:Int),.func (.func 60) #[I Vo (ps:Int)] #[],undef,undef,undef,undef,undef,undef,undef,undef,I Vo (v:Int),Wl F,I Vo (v:Int),Y (O (aD (M (H w1)) 2)),I Vo (pc:Int),.func (.func 60) #[I Vo (pc:Int)] #[],I J (x:Int),undef,undef,undef,undef,undef,undef,undef,undef,undef],defers:=[] }) ?ajI ?aso ?asq
   .rintro b rfl;exact⟨Qn _,by have:=S.o;omega⟩
   .intro pre r A B h hk;exact h.keep (by have:=S.o;omega) hk
   case ajI=>
    intro l x W K u;have he:ng.enc x=I J (x:Int):=rfl;gi_wp2;exact u
   case aso=>
    intro l pre x r W d C t bK dz;have a:=bM.o x (AB (by simpa [ng] using C));have bf:=aU.o.trans (d.below.mono aU.o.size);have ai:=D.o.trans (bf.mono D.o.size);obtain⟨rb,ro,aP,aQ⟩:=fH.get (fH.below ai HP.o) (i:=x) (by rw[vU.o];exact a);have bO:=aQ x (by rw[vU.o];exact a);have P:=Zh (bE.o pre x a);obtain⟨dJ,aZ⟩:=aW.o x a;have j:=ax.o pre;have bP:=d.g.at 0;have bQ:=d.g.frozen 0;have aj:=cB bf dh.o;rw[aP]at aj;have HI:=Zh d;generalize E PL x 0=rn at*;have lu:Y3 (∀act,gK ng (λpre r W=>KC G 37 (m pre) r W) pre x (M (H W3)) r W .normal act (UC W.drew (aD (M (H G)) 0) (I Vo (m (pre++[x]):Int)))):=λ_=>⟨r,HI.o.step.1,HI.o.step.2,λb hb=>.inl hb⟩;have HQ:Y3 (m pre<=18446744073709551615):=j;generalize m (pre++[x])=Xn at*;generalize m pre=Xp at*;have dB:((Xp:Int)).tdiv (rn:Int)=(Xn:Int):=by rw[P.o,Int.tdiv_eq_ediv_of_nonneg (by omega),Int.natCast_ediv]
    have dC:IntKind.u64.wrap (Xn:Int)=(Xn:Int):=NU (by have:=HQ.o;rw[P.o];have:=Nat.div_le_self Xp rn;omega);have dD:¬rn=0:=by omega
    gi_wp2_with fail;have FO:V.follows .mixedOrders=true:=by kernel_rfl
    refine wpIn_region_any FO (mW (lV (by kernel_rfl)) _ _ _ _ ?_);change wpAnyIn _ _ _ _ _ _ _ _ _ (World.drew _);refine iT 1 (Y (O (aD (M (H w)) 12))) ?_;refine iT 3 (I J (x:Int)) ?_
    repeat' first
     |refine iJ 0 2 ?_ ?_
     |refine iJ 0 5 ?_ ?_
     |refine iQ 0 ?_
     |refine iQ 2 ?_
     |refine iQ 5 ?_
     |refine iQ 6 ?_
     |refine iQ 7 ?_
     |refine iT 4 (Y (O (aD rb (ro+x)))) ?_
     |refine iD ?_;exact lu.o ⟨#[],[]⟩
     |intro K u;go_simp;refine u _ _ ?_;clear u K
   case asq=>
    rintro ys o' W4 aR d dn dw dx;have ak:CL=ys:=by symm;simpa [ng] using aR
    subst ak;have bR:=d.g.at 0;have au:=d.below;have av:=ax.o CL;have bW:Y3 _:=bT;generalize m CL=yv at*;obtain⟨rv,bI⟩:=eY (max yv 1);have dE:max (yv:Int) 1=(rv:Int):=by omega
    have dF:max (1:Int) (yv:Int)=(rv:Int):=by omega
    have dG:(if (yv:Int)<1 then 1 else (yv:Int))=(rv:Int):=by split <;> omega
    have bX:Y3 (R=rv):=by show R=rv;rw[bI];exact bW.o
    have bY:=(au.block _ z.o).trans dm.o;clear bI bE bg HP aW bD ax dn dw;gi_wp2;refine⟨by simp,.inl ⟨_,_,rfl,Q5 dx,?_⟩⟩;refine⟨by simp,.inl ⟨_,_,rfl,Q5 ((QD (by have:=z.o;have:=S.o;omega)).trans bY),?_⟩⟩;refine⟨_,results_tmp rfl _ _ _,by rw[bX.o];rfl,?_⟩;have s0:=D.o.size;have s3:=L.o;have s4:=S.o;have s5:=au.size;have s6:=z.o;refine D.o.trans (((aU.o.mono s0)).trans ((au.mono (by omega)).trans (((QC (s:=λb=>b<M (H w)) _ _ (by omega)).below (by omega) (λ_ h=>h)).trans ((QC (s:=λb=>b<M (H w)) _ _ (by omega)).below (by rw[Q7];omega) (λ_ h=>h)))))
end
def WX(f:aF)(ts:List ah)(q:af)(p:aG)(ao:Option Addr)(cap:Nat)(ps:List aG)(w:U)(hp:bY w ao ps)(h0:0<N ps)(hk:dZ p.kind=T) :
  Cb 166 #[FL (f.cells ts q),FL p.cells,Z ao (N ps) cap] w (I Vo (((E ps 0 bF).size:Nat):Int)):=by obtain⟨⟨L,po,rfl,t,u,v,y,l,A⟩,-⟩:=hp.2 0 h0;rw[Nat.zero_mul,Xb]at l;have b:=λx=>BX p.kind x;rw[hk]at b;generalize f.cells ts q=FC at*;obtain⟨B,C,g,m⟩:=aL w FC 90;obtain⟨P,D,i,j⟩:=aL B p.cells 100;have d:=i;have a:=az g d;have n:=j;have G:=n.at 0;have K:=cB a l;have r:=Zh a;generalize p.kind=k at*;generalize (E ps 0 bF).size=z at*;generalize p.cells=PC at*;clear hk hp t u v y l A g i m j n a d;go_enter Tryz.func166,Tryz.ntmps166;go_wp2_with fail;refine(b _).mono ?_;rintro e Q ⟨rfl,rfl⟩;go_wp2;go_ret;exact⟨rfl,r.o⟩
def WY(f:aF)(ts:List ah)(q:af)(p:aG)(ao:Option Addr)(cap:Nat)(ps:List aG)(w:U)(ok:Ok ts q)(hf:f.At ts q w)(hp:bY w ao ps)(hs:p.sources<2 ^ (N q.src.xs))(hc:p.clauses<2 ^ (N q.wh))(h0:dZ p.kind=T->0<N ps) :
  Calls V 166 #[FL (f.cells ts q),FL p.cells,Z ao (N ps) cap] w λe a=>e=FN (I Vo (((if dZ p.kind=T then (E ps 0 bF).size else lZ ts q p.sources p.clauses):Nat):Int))/\Bw w a:=by
 cases hk:dZ p.kind with
 |true =>
  rw[Zt rfl];exact WX f ts q p ao cap ps w hp (h0 hk) hk
 |false =>
  rw[ZU (by simp)];exact Tw f ts q p ao (N ps) cap w ok hf hs hc hk
def IC(n:ai)(w:U)(h:n.kind=1->0<=n.source/\n.source<64) :
  Cb 165 #[FL n.cells] w (I Vo (((if n.kind=1 then 2 ^ n.source.toNat else 0):Nat):Int)):=by
 obtain⟨l,y,d,f⟩:=aL w n.cells 102;have b:=d;have i:=f;have t:=i.at 0;have u:=i.at 3;have j:=Zh b;clear f i d b;generalize n.cells=NC at*;by_cases a:n.kind=1
 .obtain⟨r,z⟩:=h a;obtain⟨s,m⟩:=XT r;rw[Zt a];have p:=yJ (M (H l)) s (l.alloc (EP #[I J (s:Int)] 3)) (by simp) (by omega);have q:2 ^ n.source.toNat=2 ^ s:=by rw[m];rfl
  rw[q];obtain⟨R,g⟩:∃R,R=2 ^ s:=⟨_,rfl⟩;rw[<-g]at p ⊢;clear q g;rw[m]at u;rw[a]at t;have v:Y3 (Bw w (l.alloc (EP #[I J (s:Int)] 3))):=j.o.trans ((dN _ _).mono j.o.size);clear h m a r z;go_enter Tryz.func165,Tryz.ntmps165;go_wp2_with fail;refine p.mono ?_;rintro e B ⟨rfl,rfl⟩;go_wp2;go_ret;exact⟨rfl,v.o⟩
 .rw[ZU a];have A:(n.kind==1)=false:=by simp[a]
  generalize n.kind=k at*;go_enter Tryz.func165,Tryz.ntmps165;go_wp2;go_ret;exact⟨rfl,j.o⟩
def Tx(a:Nat)(g:Nat->Nat):Nat->Nat
 |0=>a
 |k+1=>Tx a g k|||g k
def IE{a:Nat}{g:Nat->Nat}{n:Nat}(ha:a<2 ^ n):∀k,(∀i,i<k->g i<2 ^ n)->Tx a g k<2 ^ n
 |0,_=>ha
 |k+1,h=>XQ (IE ha k (λi hi=>h i (by omega))) (h k (by omega))
def Mt(a:Nat)(g:Nat->Nat)(hk:k<=2)(h:∀i,k<=i->g i=0):Tx a g k=a|||g 0|||g 1:=by
 rcases (by omega:k=0∨k=1∨k=2) with rfl|rfl|rfl
 .rw[h 0 (by omega),h 1 (by omega),Nat.or_zero,Nat.or_zero];rfl
 .rw[h 1 (by omega),Nat.or_zero];rfl
 .rfl
def agf{B:Nat}{v0 v1 v2 v3 v4 v5:X3}(h:GB W B 100 #[v0,v1,v2,v3,v4,v5]):(loadVar 100 (aD B 0)).run V W=.ok (FL #[v0,v1,v2,v3,v4,v5]) W:=by obtain⟨a,b,d,e,f,g⟩:=h.k6;simp[go_sem,a,b,d,e,f,g]
def IG(f:aF)(ts:List ah)(q:af)(n:ai)(ao:Option Addr)(cap:Nat)(ps:List aG)(w:U)(ok:Ok ts q)(hf:f.At ts q w)(hcl:n.cl.At w)(hco:n.co.At w)(hcap:N n.co.xs<=n.co.cap)(hp:bY w ao ps)(hk1:1<=n.kind)(hk10:n.kind<=10)
  (hl:N ps=arity n.kind) (hsm:aY (N q.wh) n.cl.xs) (yw:n.kind=1->0<=n.source/\n.source<N q.src.xs) (hps:∀i,i<N ps->(E ps i bF).sources<2 ^ (N q.src.xs)/\(E ps i bF).clauses<2 ^ (N q.wh)) :
  Calls V 111 #[FL (f.cells ts q),FL n.cells,Z ao (N ps) cap] w λe w'=>∃p:aG,e=FN (FL p.cells)/\p.d=oH ts q n (E ps 0 bF).d (E ps 1 bF).d/\p.Ok w'/\p.sources<2 ^ (N q.src.xs)/\p.clauses<2 ^ (N q.wh)/\(p.order=n.co∨p.order=(E ps 0 bF).order∨p.order=⟨xn,0,[]⟩)/\Bw w w':=by
 have dB:arity n.kind<=2:=by unfold arity;split <;> (try split) <;> omega
 have dW:=hp.1;have aP:∀i,N ps<=i->E ps i bF=bF:=λi hi=>by simp[List.getD,hi]
 obtain⟨ow,aI⟩:∃ow,ow=(if n.kind=1 then 2 ^ n.source.toNat else 0):=⟨_,rfl⟩;have au:=ok.small;have av:=ok.wm;have bE:ow<2 ^ (N q.src.xs):=by
  rw[aI];split
  .rename_i h
   have:=yw h;exact XO (by omega) (by omega)
  .exact Nat.two_pow_pos _
 obtain⟨sc,aK⟩:=eY (aO n.cl.xs);have bG:sc<2 ^ (N q.wh):=by rw[aK];exact uT hsm
 obtain⟨r,aj⟩:=eY (Tx ow (λi=>(E ps i bF).sources));obtain⟨u,ak⟩:=eY (Tx sc (λi=>(E ps i bF).clauses));have L8:Y3 (r 0=ow):=by show _=_;rw[aj];rfl
 have bH:Y3 (u 0=sc):=by show _=_;rw[ak];rfl
 have bI:Y3 (∀k,r (k+1)=r k|||(E ps k bF).sources):=λk=>by rw[aj];rfl
 have FJ:Y3 (∀k,u (k+1)=u k|||(E ps k bF).clauses):=λk=>by rw[ak];rfl
 have zk:Y3 (∀k,k<=N ps->r k<2 ^ (N q.src.xs)):=λk j=>by rw[aj];exact IE bE k (λi hi=>(hps i (by omega)).1)
 have Al:Y3 (∀k,k<=N ps->u k<2 ^ (N q.wh)):=λk j=>by rw[ak];exact IE bG k (λi hi=>(hps i (by omega)).2)
 have R:∀{x m:Nat},m<=64->x<2 ^ m->x<18446744073709551616:=λhm hx=>QA hx (ZI (n:=2) (by omega) hm);have aN:∀{x:Nat},x<18446744073709551616->x<=bJ:=λh=>by unfold bJ;omega
 have bK:Y3 (r (N ps)=ow|||(E ps 0 bF).sources|||(E ps 1 bF).sources):=by show _=_;rw[aj];exact Mt _ _ (by omega) (λi hi=>by rw[aP i hi];rfl)
 have Y4:Y3 (u (N ps)=sc|||(E ps 0 bF).clauses|||(E ps 1 bF).clauses):=by show _=_;rw[ak];exact Mt _ _ (by omega) (λi hi=>by rw[aP i hi];rfl)
 have bL:Y3 (∀(o:List Int) (z:Nat),o=(if n.kind=6 then n.co.xs else if 2<=n.kind/\n.kind<=5 then (E ps 0 bF).order.xs else [])->z=(if dZ n.kind=T then (E ps 0 bF).size else lZ ts q (r (N ps)) (u (N ps)))->
   bN.mk n.kind (r (N ps)) (u (N ps)) o z (lF n.kind z (E ps 0 bF).cost (E ps 0 bF).size (E ps 1 bF).cost (E ps 1 bF).size)=oH ts q n (E ps 0 bF).d (E ps 1 bF).d):=λo z ho hz=>by unfold oH;rw[ho,hz,bK.o,Y4.o,aI,aK];rfl
 have aQ:Y3 (∀x,Cb 165 #[FL n.cells] x (I Vo ((ow:Nat):Int))):=λx=>by rw[aI];exact IC n x (λh=>⟨(yw h).1,by have:=(yw h).2;omega⟩)
 have ax:Y3 (∀x,Bw w x->Ce 62 #[n.cl.val] x (I Vo ((sc:Nat):Int))):=λx hx=>by rw[aK];exact LZ n.cl.ad n.cl.cap n.cl.xs x (Qo hx hcl) (λy hy=>⟨(hsm y hy).1,by have:=(hsm y hy).2;omega⟩)
 have aR:Y3 (∀(b x y:Nat) (W:U),UK W (aD b 0)=O (I Vo (x:Int))->UK W (aD b 1)=O (I Vo (y:Int))->x<18446744073709551616->y<18446744073709551616->Ce 104 #[Z (O (aD b 0)) 2 2] W (I Vo ((x|||y:Nat):Int))):=λb x y W h0 h1 hx hy=>lX b x y W h0 h1 hx hy;have Ig:Y3 (∀(o:ae) (x:U),Bw w x->Calls V 166 #[FL (f.cells ts q),FL #[I J n.kind,I Vo (r (N ps):Int),I Vo (u (N ps):Int),o.val,I Vo 0,I Vo 0],Z ao (N ps) cap] x λe w'=>e=FN (I Vo (((if dZ n.kind=T then (E ps 0 bF).size else lZ ts q (r (N ps)) (u (N ps))):Nat):Int))/\Bw x w'):=λo x hx=>
  WY f ts q ⟨n.kind,r (N ps),u (N ps),o,0,0⟩ ao cap ps x ok (hf.below hx) (hp.below hx) (zk.o _ (Qn _)) (Al.o _ (Qn _)) (λh=>by
   have h2:7<=n.kind:=by unfold dZ at h;simp at h;omega
   rw[hl];unfold arity;rw[ZU (by omega),ZU (by omega)];omega)
 obtain⟨P,hZ⟩:∃P,P=(if dZ n.kind=T then (E ps 0 bF).size else lZ ts q (r (N ps)) (u (N ps))):=⟨_,rfl⟩;have aS:P<=bJ:=by
  rw[hZ];split
  .rename_i h
   have h2:7<=n.kind:=by unfold dZ at h;simp at h;omega
   exact(hp.2 0 (by rw[hl];unfold arity;rw[ZU (by omega),ZU (by omega)];omega)).2.size
  .exact agd _ _ _ _
 rw[<-hZ]at Ig;have bM:Y3 (∀(o:ae) (x:U),Bw w x->Cb 167 #[FL #[I J n.kind,I Vo (r (N ps):Int),I Vo (u (N ps):Int),o.val,I Vo (P:Int),I Vo 0],Z ao (N ps) cap] x (I Vo (lF n.kind P (E ps 0 bF).cost (E ps 0 bF).size (E ps 1 bF).cost (E ps 1 bF).size:Nat))):=λo x hx=>
  WQ ⟨n.kind,r (N ps),u (N ps),o,P,0⟩ ao cap ps x (hp.below hx) aS (λh=>by have h:n.kind≠1:=h;rw[hl];unfold arity;rw[ZU h];split <;> omega) (λh3 h5=>by have h3:3<=n.kind:=h3;have h5:n.kind<=5:=h5;rw[hl];unfold arity;rw[ZU (by omega),Zt ⟨h3,h5⟩];omega)
 have ay:Y3 (∀(o:ae) (W:U),o.At W->N o.xs<=o.cap->o.xs=(if n.kind=6 then n.co.xs else if 2<=n.kind/\n.kind<=5 then (E ps 0 bF).order.xs else [])->(o=n.co∨o=(E ps 0 bF).order∨o=⟨xn,0,[]⟩)->Bw w W->
   ∃p:aG,Ending.returned (FL #[I J n.kind,I Vo (r (N ps):Int),I Vo (u (N ps):Int),o.val,I Vo (P:Int),I Vo ((lF n.kind P (E ps 0 bF).cost (E ps 0 bF).size (E ps 1 bF).cost (E ps 1 bF).size:Nat):Int)])=FN (FL p.cells)/\p.d=oH ts q n (E ps 0 bF).d (E ps 1 bF).d/\p.Ok W/\p.sources<2 ^ (N q.src.xs)/\p.clauses<2 ^ (N q.wh)/\(p.order=n.co∨p.order=(E ps 0 bF).order∨p.order=⟨xn,0,[]⟩)/\Bw w W):=λo W ho dP dQ dR hb=>
  ⟨⟨n.kind,r (N ps),u (N ps),o,P,lF n.kind P (E ps 0 bF).cost (E ps 0 bF).size (E ps 1 bF).cost (E ps 1 bF).size⟩,rfl,bL.o o.xs P dQ hZ,⟨ho,dP,aN (R au (zk.o _ (Qn _))),aN (R av (Al.o _ (Qn _))),aS,age _ _ _ _ _ _⟩,zk.o _ (Qn _),Al.o _ (Qn _),dR,hb⟩
 have bO:Y3 (∀k,k<=N ps->r k<18446744073709551616):=λk j=>R au (zk.o k j);have bP:Y3 (∀k,k<=N ps->u k<18446744073709551616):=λk j=>R av (Al.o k j);have bQ:Y3 (∀k,k<N ps->(E ps k bF).sources<18446744073709551616/\(E ps k bF).clauses<18446744073709551616):=λk j=>⟨R au (hps k j).1,R av (hps k j).2⟩;have bR:Y3 (2<=n.kind/\n.kind<=5->0<N ps):=λh=>by rw[hl];unfold arity;rw[ZU (by omega)];split <;> omega
 generalize lF n.kind P (E ps 0 bF).cost (E ps 0 bF).size (E ps 1 bF).cost (E ps 1 bF).size=CT at*;have HP:Y3 _:=hp;have ry:Y3 _:=hco;have bS:=Zh hcap;obtain⟨v0,v1,v2,v3,v4,v5,v6,v7,v8,v9,dD,dE,dF,cK,-⟩:=X9 f ts q;rw[cK]at Ig ⊢;clear bL zk Al bK Y4 hZ aS R hps yw hsm hl hf hcl hco hcap hp ok aI aK aj ak bE bG cK aP dB au av hk1 hk10;obtain⟨kind,nl,nr,src,⟨ca,cc,cl⟩,key,⟨da,dc,co⟩⟩:=n;unfold ai.cells ae.val at*;simp only at*;obtain⟨w1,dG,hk1,bf⟩:=aL w #[v0,v1,v2,v3,v4,v5,v6,v7,v8,v9,dD,dE,dF] 90;obtain⟨w2,dH,bg,bn⟩:=aL w1 #[I J kind,I J nl,I J nr,I J src,Z ca (N cl) cc,I J key,Z da (N co) dc] 102;obtain⟨w3,dI,dh,di⟩:=aL w2 #[I J 0,I Vo 0,I Vo 0,Z xn 0 0,I Vo 0,I Vo 0] 100;have aT:=dh;have aa:=az bg aT;have bT:=az hk1 aa;have jJ:=bf.of (aa.block _ bf.lt);obtain⟨fZ,iy,jd,iK,iL,je,jf,jR,jy,jA,dS,eP,dU⟩:=jJ.oh;have qU:=bn.of (aT.block _ bn.lt);obtain⟨nQ,oW,pg,qV,qg,rZ,sj⟩:=qU.k7;have bU:=di;have A:=Zh bT;have nO:Y3 _:=bU;have dC:=Zh (Qz hk1.size bg.size);clear hk1 bg dh bf bn di jJ qU bU bT aa aT;go_enter Tryz.func111,Tryz.ntmps111;go_upto_region 1 with fail;go_cut [7] from 10 to 17 (λc wx=>∃B,c=Y (O (aD B 0))/\M (H w3)<=B/\GB wx B 100 #[I J kind,I Vo (ow:Int),I Vo (sc:Int),Z xn 0 0,I Vo 0,I Vo 0]/\Bw w3 wx)
 case first=>
  refine wH w3 λa=>?_;refine wA3 0 a ?_;refine wA2 4 a ?_;refine wJ 3 8 (λK g=>?_) λK g=>?_
  .skip;go_simp;refine XX (aQ.o _) ?_;rintro e Q ⟨rfl,aM⟩;refine oT g a aM λa=>?_
   clear g K;have v:=a;refine wJ 6 8 (λK g=>?_) λK g=>?_
   .skip;go_simp;refine XX (ax.o _ (A.o.trans (a.mono A.o.size))) ?_;rintro e wz ⟨rfl,l⟩;have l:=l.symm;subst l;refine g.o _ _ a λa=>?_
    clear g K;refine sN 7 a ?_;refine wR 8 λK g=>?_;go_simp;refine oA g a λa=>?_;clear g K;refine wR 9 λK g=>?_;go_simp;refine g.o _ _ (v.trans ((dN _ _).mono v.size)) (λa=>?_);clear g K;refine wD ?_;try simp only[pU]
    go_wp2_with fail;go_meet;exact⟨M (H Q),rfl,v.size,pR Q _,a⟩
   .skip;go_simp;refine oA g a λa=>?_
    clear g K;refine wR 6 λK g=>?_;go_simp;refine XX (ax.o _ (A.o.trans (a.mono A.o.size))) ?_;rintro e wz ⟨rfl,l⟩;have l:=l.symm;subst l;refine g.o _ _ a λa=>?_;clear g K;refine sN 7 a ?_;refine wR 9 λK g=>?_;go_simp;refine g.o _ _ (v.trans ((dN _ _).mono v.size)) (λa=>?_);clear g K;refine wD ?_;try simp only[pU]
    go_wp2_with fail;go_meet;exact⟨M (H Q),rfl,v.size,pR Q _,a⟩
  .skip;go_simp;refine oA g a λa=>?_
   clear g K;refine wR 3 λK g=>?_;go_simp;refine XX (aQ.o _) ?_;rintro e Q ⟨rfl,aM⟩;refine oT g a aM λa=>?_;clear g K;have v:=a;have aU:=(show GB (w3.drew.alloc (EP #[I J 0,I Vo 0,I Vo 0,Z xn 0 0,I Vo 0,I Vo 0] 100)) (M (H w3)) 100 #[I J 0,I Vo 0,I Vo 0,Z xn 0 0,I Vo 0,I Vo 0] from pR w3.drew _).of (aM.block _ (by show M (H w3)<_;simp));obtain⟨z0,z1,z2,z3,z4,z5⟩:=aU.k6;have yy:=λi=>aU.frozen i;refine wR 6 λK g=>?_;go_simp;refine XX (ax.o _ (A.o.trans (a.mono A.o.size))) ?_;rintro e wz ⟨rfl,l⟩;have l:=l.symm;subst l;refine g.o _ _ a λa=>?_;clear g K;refine sN 7 a ?_;refine wR 9 λK g=>?_;go_simp;refine g.o _ _ (v.trans ((kF (B:=M (H w3)) [I J kind,I Vo (ow:Int),I Vo (sc:Int),Z xn 0 0,I Vo 0,I Vo 0] 0 Q).below (B:=M (H w3)) v.size (λb hb=>Nat.ne_of_lt hb))) (λa=>?_);clear g K;refine wD ?_;try simp only[pU]
   go_wp2_with fail;go_meet;exact⟨M (H w3),rfl,Qn _,((((((aU.set 0 _).set 1 _).set 2 _).set 3 _).set 4 _).set 5 _),a⟩
 case rest=>
 obtain⟨B,rfl,hB,dm,bq⟩:=hcut;obtain⟨w4,dJ⟩:∃x,x=wc:=⟨_,rfl⟩;subst dJ;have JX:=hd dm;have oJ:Y3 (∀x,Kept (λb=>b≠B) w4 x->Bw w3 x):=λx j=>bq.trans (j.below bq.size (λb hb=>by omega));have ag:Y3 (∀x,Kept (λb=>b≠B) w4 x->Bw w x):=λx j=>A.o.trans ((oJ.o x j).mono A.o.size);clear dm bq hB aQ ax dG dH dI;go_wp2;go_loopw [20] (λiv wr=>∃k:Nat,k<=N ps/\iv=I J k/\Y3 (GB wr B 100 #[I J kind,I Vo (r k:Int),I Vo (u k:Int),Z xn 0 0,I Vo 0,I Vo 0])/\Y3 (Kept (λb=>b≠B) w4 wr)) (λiv _=>N ps-(intOf iv).toNat)
 case atStart=>exact⟨0,QW _,rfl,by rw[L8.o,bH.o];exact JX.o,Qy _ _⟩
 case round=>
  obtain⟨k,j,rfl,HG,wG⟩:=hrel;by_cases bD:k<N ps
  .obtain⟨⟨pb,po,rfl,c0,c1,c2,c3,c4,c5⟩,-⟩:=(bY.below (ag.o wr wG.o) HP.o).2 k bD;obtain⟨dn,dw⟩:=bQ.o k bD;have bV:=bO.o k j;have aa:=bP.o k j;obtain⟨bu,bz⟩:=aJ (bI.o k) (FJ.o k);obtain⟨⟨D,G,L⟩,zi⟩:∃o,o=(E ps k bF).order:=⟨_,rfl⟩
   rw[<-zi]at c3;unfold ae.val at c3;simp only at c3;clear zi;generalize (E ps k bF).kind=pk at*;generalize (E ps k bF).sources=ss at*;generalize (E ps k bF).clauses=cs at*;generalize (E ps k bF).size=pz at*;generalize (E ps k bF).cost=pt at*;have bW:Y3 (∀x,x=r (k+1)->∀y,y=u (k+1)->∀wy,GB wy B 100 #[I J kind,I Vo (x:Int),I Vo (y:Int),Z xn 0 0,I Vo 0,I Vo 0]->Kept (λb=>b≠B) wr wy->GB wy B 100 #[I J kind,I Vo (r (k+1):Int),I Vo (u (k+1):Int),Z xn 0 0,I Vo 0,I Vo 0]/\Kept (λb=>b≠B) w4 wy):=λx hx y hy wy h1 h2=>⟨by rw[<-hx,<-hy];exact h1,wG.o.trans h2⟩;obtain⟨s1,bA⟩:∃x,x=r (k+1):=⟨_,rfl⟩;obtain⟨t1,bB⟩:∃x,x=u (k+1):=⟨_,rfl⟩;have bX:=Zh (bW.o s1 bA t1 bB);rw[<-bA]at bu;rw[<-bB]at bz;generalize r k=s at*;generalize u k=t at*;clear bW bA bB;obtain⟨wb,dY,kb,gi⟩:=aL wr #[I J pk,I Vo (ss:Int),I Vo (cs:Int),Z D (N L) G,I Vo (pz:Int),I Vo (pt:Int)] 100;have gb:=HG.o.of (kb.block _ HG.o.lt);have dX:=HG.o.lt;obtain⟨wu,ed,ku,gu⟩:=aL wb #[I Vo (s:Int),I Vo (ss:Int)] 86;have aA:=gb.of (ku.block _ gb.lt);have bZ:=gi.of (ku.block _ gi.lt);have hU:=aR.o (M (H wb)) s ss wu (gu.cell 0) (gu.cell 1) bV dn;rw[<-bu.o]at hU;obtain⟨wv,dx⟩:∃x,UC wu (aD B 1) (I Vo (s1:Int))=x:=⟨_,rfl⟩;have kv:Kept (λb=>b≠B) wu wv:=by rw[<-dx];exact Q8 _ _ _ (λh=>h rfl)
   have aB:GB wv B 100 #[I J kind,I Vo (s1:Int),I Vo (t:Int),Z xn 0 0,I Vo 0,I Vo 0]:=by rw[<-dx];exact aA.set 1 _
   have cu:=bZ.keep kv (by show M (H wr)≠B;omega);obtain⟨wx,ek,kx,gx⟩:=aL wv #[I Vo (t:Int),I Vo (cs:Int)] 86;have aC:=aB.of (kx.block _ aB.lt);have aV:=aR.o (M (H wv)) t cs wx (gx.cell 0) (gx.cell 1) aa dw;rw[<-bz.o]at aV;have cz:GB (UC wx (aD B 2) (I Vo (t1:Int))) B 100 #[I J kind,I Vo (s1:Int),I Vo (t1:Int),Z xn 0 0,I Vo 0,I Vo 0]:=aC.set 2 _;have ky:Kept (λb=>b≠B) wr (UC wx (aD B 2) (I Vo (t1:Int))):=((QB kb (λb hb _=>hb)).trans ((QB ku (λb hb _=>hb)).trans (kv.trans (QB kx (λb hb _=>hb))))).trans (Q8 _ _ _ (λh=>h rfl));have rY:=Zh (bX.o _ cz ky);have b1:=gb.at 1;have b2:=gi.at 1;have b3:=aA.at 1;have b4:=aA.frozen 1;have b5:=aB.at 2;have b6:=cu.at 2;have b7:=aC.at 2;have b8:=aC.frozen 2;clear bX cz ky kb gi gb ku gu aA bZ kv aB cu kx gx aC HG wG bu bz dn dw bV aa;go_wp2_with fail;refine hU.mono ?_;rintro e wq ⟨rfl,X⟩;have X:=X.symm;subst X;clear hU;go_wp2_with fail;refine aV.mono ?_;rintro e wq ⟨rfl,X⟩;have X:=X.symm;subst X;clear aV;go_wp2;go_roundw
   case rel=>exact⟨k+1,by omega,by go_num,rY.o.1,rY.o.2⟩
   case measure=>simp[intOf];omega
  .obtain rfl:k=N ps:=by omega
   obtain⟨Q,vT⟩:∃x,x=wr:=⟨_,rfl⟩;subst vT;clear bD j L8 bH bI FJ aR bO bP bQ;generalize r (N ps)=S at*;generalize u (N ps)=C at*;have e0:=cB (oJ.o Q wG.o) nQ;have b3:=HG.o.at 3;have f3:=HG.o.frozen 3;rcases (by omega:kind=6∨kind=2∨kind=3∨kind=4∨kind=5∨(¬kind=6/\¬(2<=kind/\kind<=5))) with j|j|j|j|j|j
   all_goals
    first
    |have h6:kind=6:=j
     have e6:=cB (oJ.o Q wG.o) sj;have HE:=Zh (λ(W:U) (hB:Bw w W)=>ay.o ⟨da,dc,co⟩ W (Qo hB ry.o) bS.o (by rw[Zt h6]) (.inl rfl) hB);obtain⟨D,ha⟩:∃x,x=da:=⟨_,rfl⟩;obtain⟨G,hc⟩:∃x,x=dc:=⟨_,rfl⟩;obtain⟨L,hx⟩:∃x,x=co:=⟨_,rfl⟩;subst ha hc hx;rw[j]at e0;clear h6 j;obtain⟨w6,vY⟩:∃x,UC Q (aD B 3) (Z D (N L) G)=x:=⟨_,rfl⟩;have k6:Kept (λb=>b≠B) Q w6:=by rw[<-vY];exact Q8 _ _ _ (λh=>h rfl)
     have g6:GB w6 B 100 #[I J kind,I Vo (S:Int),I Vo (C:Int),Z D (N L) G,I Vo 0,I Vo 0]:=by rw[<-vY];exact HG.o.set 3 _
    |have aH:2<=kind/\kind<=5:=by omega
     obtain⟨⟨pb,po,rfl,-,-,-,c3,-,-⟩,bC⟩:=HP.o.2 0 (bR.o aH);rw[Nat.zero_mul,Xb]at c3;have dV:=bR.o aH;obtain⟨⟨D,G,L⟩,zi⟩:∃o,o=(E ps 0 bF).order:=⟨_,rfl⟩;have h1:=bC.order;have h2:=bC.cap;rw[<-zi]at h1 h2 c3;have HE:=Zh (λ(W:U) (hB:Bw w W)=>ay.o ⟨D,G,L⟩ W (Qo hB h1) h2 (by rw[ZU (by omega),Zt aH];exact congrArg ae.xs zi) (.inr (.inl zi)) hB);simp only at c3;have c3:=cB (ag.o Q wG.o) c3;rw[j]at e0;clear zi j aH bC h1 h2;obtain⟨w6,vY⟩:∃x,UC Q (aD B 3) (Z D (N L) G)=x:=⟨_,rfl⟩;have k6:Kept (λb=>b≠B) Q w6:=by rw[<-vY];exact Q8 _ _ _ (λh=>h rfl)
     have g6:GB w6 B 100 #[I J kind,I Vo (S:Int),I Vo (C:Int),Z D (N L) G,I Vo 0,I Vo 0]:=by rw[<-vY];exact HG.o.set 3 _
    |have j2:(kind==2)=false:=by rw[XW];omega
     have j3:(kind==3)=false:=by rw[XW];omega
     have j4:(kind==4)=false:=by rw[XW];omega
     have j5:(kind==5)=false:=by rw[XW];omega
     have j6:(kind==6)=false:=by rw[XW];omega
     have HE:=Zh (λ(W:U) (hB:Bw w W)=>ay.o ⟨xn,0,[]⟩ W ⟨by simp,λi hi=>absurd hi (by simp)⟩ (Qn _) (by rw[ZU j.1,ZU j.2]) (.inr (.inr rfl)) hB);obtain⟨D,G,L,HC⟩:∃(D:Option Addr) (G:Nat) (L:List Int),Y3 (D=xn/\G=0/\L=[]):=⟨_,_,_,rfl,rfl,rfl⟩;have g6:GB Q B 100 #[I J kind,I Vo (S:Int),I Vo (C:Int),Z D (N L) G,I Vo 0,I Vo 0]:=by obtain⟨rfl,rfl,rfl⟩:=HC.o;exact HG.o
     obtain⟨w6,vY⟩:∃x,x=Q:=⟨_,rfl⟩;subst vY;have k6:Kept (λb=>b≠B) w6 w6:=Qy _ _;clear j b3 f3
    have K6:=Zh (wG.o.trans k6);have cO:=ag.o w6 K6.o;have aW:=oJ.o w6 K6.o;obtain⟨d0,d1,d2,d3,d4,d5,d6,d7⟩:=wK aW fZ iy jd iK iL je jf jR;obtain⟨d8,d9,dK,dL,dM⟩:=qA aW jy jA dS eP dU;obtain⟨p0,p1,p2,p3,p4,p5⟩:=g6.k6;have G6:=hd g6;have cZ:=Ig.o ⟨D,G,L⟩ w6 cO;clear k6 g6 aW cO Ig JX;go_wp2_with fail;refine cZ.mono ?_;rintro e w7 ⟨rfl,mO⟩;have g7:=G6.o.of (mO.block _ G6.o.lt);obtain⟨w8,dz⟩:∃x,UC w7 (aD B 4) (I Vo (P:Int))=x:=⟨_,rfl⟩;have g8:GB w8 B 100 #[I J kind,I Vo (S:Int),I Vo (C:Int),Z D (N L) G,I Vo (P:Int),I Vo 0]:=by rw[<-dz];exact g7.set 4 _
    have K8:Y3 (Kept (λb=>b≠B) w4 w8):=K6.o.trans ((QB mO (λb hb _=>hb)).trans (by rw[<-dz];exact Q8 _ _ _ (λh=>h rfl)));have q4:=g7.at 4;have f4:=g7.frozen 4;obtain⟨r0,r1,r2,r3,r4,r5⟩:=g8.k6;have G8:=hd g8;have Wu:=bM.o ⟨D,G,L⟩ w8 (ag.o w8 K8.o);clear cZ g7 g8 mO bM d0 d1 d2 d3 d4 d5 d6 d7 d8 d9 dK dL dM p0 p1 p2 p3 p4 p5 e0;go_wp2_with fail;refine Wu.mono ?_;rintro e w9 ⟨rfl,JP⟩;have g9:=G8.o.of (JP.block _ G8.o.lt);obtain⟨wT,dA⟩:∃x,UC w9 (aD B 5) (I Vo (CT:Int))=x:=⟨_,rfl⟩;have gT:GB wT B 100 #[I J kind,I Vo (S:Int),I Vo (C:Int),Z D (N L) G,I Vo (P:Int),I Vo (CT:Int)]:=by rw[<-dA];exact g9.set 5 _
    have KT:Kept (λb=>b≠B) w4 wT:=K8.o.trans ((QB JP (λb hb _=>hb)).trans (by rw[<-dA];exact Q8 _ _ _ (λh=>h rfl)));have q5:=g9.at 5;have f5:=g9.frozen 5;obtain⟨t0,t1,t2,t3,t4,t5⟩:=gT.k6;have aX:GB w3 (M (H w2)) 100 #[I J 0,I Vo 0,I Vo 0,Z xn 0 0,I Vo 0,I Vo 0]:=nO.o;have gR:=aX.of ((oJ.o wT KT).block _ aX.lt);obtain⟨x0,x1,x2,x3,x4,x5⟩:=gR.k6;have yy:=λi=>gR.frozen i;obtain⟨vs,dO⟩:∃vs:List X3,vs=[I J kind,I Vo (S:Int),I Vo (C:Int),Z D (N L) G,I Vo (P:Int),I Vo (CT:Int)]:=⟨_,rfl⟩;have df:Bw w (ig (M (H w2)) 0 vs wT):=(ag.o wT KT).trans ((kF vs 0 wT).below (ag.o wT KT).size (λb hb=>by have:=dC.o;omega));have rY:=Zh (HE.o _ df);have aZ:=pG (vs:=vs) (o:=0) gR;subst dO;simp only[uk,Qu,Qb,Qc]at aZ;have JR:=Zh (agf aZ);clear Wu g9 gT KT aX gR df aZ JP ay r0 r1 r2 r3 r4 r5;go_wp2;try obtain⟨rfl,rfl,rfl⟩:=HC.o
    exact Zw (kL (p:=6) rfl rfl JR.o) rfl rY.o
structure Env(f:aF)(ts:List ah)(q:af)(W0:U):Prop where
 ok:Ok ts q
 facts:f.At ts q W0
 shapes:bR W0 0
 one:1<=N q.src.xs
 five:N q.src.xs<=5
 eight:N q.wh<=8
 ord:q.group=F->aS q.ord.xs (N q.bE.xs)=T
 few:N q.ord.xs<=4
 keys:jI ts q q.keys.xs
 want:q.group=F->jI ts q (iH q)
 asM:N q.keys.xs<=4
 lT:N q.keys.xs<=q.keys.cap
 asN:q.keys.ad=xn->q.keys.cap=0
def Live(W0:U)(b:Nat):Prop:=∃o v,UK W0 (aD b o)=O v
def Live.lt(h:Live W0 b):b<M (H W0):=by obtain⟨o,v,h⟩:=h;exact QK h
structure nV(W0 w:U):Prop where
 size:M (H W0)<=M (H w)
 cell:∀b o v,UK W0 (aD b o)=O v->UK w (aD b o)=O v
def nV.kept(h:nV W0 w){s:Nat->Prop}(hk:Kept s w w')(hs:∀b,Live W0 b->s b):nV W0 w':=
 ⟨Qz h.size hk.size,λb o v e=>by
  have a:=h.cell b o v e;rw[QL (hk.block b (QK a) (hs b ⟨o,v,e⟩))];exact a⟩
theorem nV.cells(h:nV W0 w){f:Nat->X3}(hc:aX W0 ao n f):aX w ao n f:=λi a=>by obtain⟨b,off,e,hc⟩:=hc i a;exact⟨b,off,e,h.cell _ _ _ hc⟩
def nV.ints(h:nV W0 w){xs:List Int}(hi:IntsAt W0 ao xs):IntsAt w ao xs:=⟨hi.1,h.cells hi.2⟩
def nV.anB(h:nV W0 w){xs:List Nat}(hi:fH W0 ao xs):fH w ao xs:=⟨hi.1,h.cells hi.2⟩
def nV.cols(h:nV W0 w){cs:List (Nat × Int)}(hi:iU W0 ao cs):iU w ao cs:=⟨hi.1,λi f=>by
 obtain⟨b,off,e,a,d⟩:=hi.2 i f;exact⟨b,off,e,h.cell _ _ _ a,h.cell _ _ _ d⟩⟩
def nV.conds(h:nV W0 w)(hi:aW W0 ao cs):aW w ao cs:=⟨hi.1,λi k=>by
 obtain⟨b,off,e,a,d,f,g,j⟩:=hi.2 i k;exact⟨b,off,e,h.cell _ _ _ a,h.cell _ _ _ d,h.cell _ _ _ f,h.cell _ _ _ g,h.cell _ _ _ j⟩⟩
def nV.query(h:nV W0 w)(hq:q.At W0):q.At w:=
 ⟨h.ints hq.src,⟨hq.wh.1,h.cells hq.wh.2.1,λi a=>h.conds (hq.wh.2.2 i a)⟩,h.ints hq.keys,h.ints hq.sums,h.ints hq.bE,h.ints hq.ord⟩
def nV.facts(h:nV W0 w)(hf:f.At ts q W0):f.At ts q w:=
 ⟨h.query hf.query,h.cols hf.cols,h.anB hf.rows,h.anB hf.conc,h.anB hf.parts,hf.nl,hf.pl⟩
structure Fz(Fq:Nat->Prop)(W0 w:U):Prop where
 below:nV W0 w
 low:∀b,Live W0 b->Fq b
 high:∀b,M (H w)<=b->Fq b
def Fz.next(h:Fz Fq W0 w)(hb:Bw w w'):Fz Fq W0 w':=
 ⟨h.below.kept (QB (s:=λb=>b<M (H w)) hb (λ_ h _=>h)) (λ_ hb=>QA hb.lt h.below.size),h.low,λb a=>h.high b (Qz hb.size a)⟩
def Env.at'(Ez:Env f ts q W0)(h:Fz Fq W0 w):f.At ts q w:=h.below.facts Ez.facts
structure Yd(Fq:Nat->Prop)(w:U)(n:ai):Prop where
 cl:n.cl.At w
 clf:sM Fq n.cl.ad (N n.cl.xs)
 cln:n.cl.ad=xn->n.cl.cap=0
 co:n.co.At w
 cof:sM Fq n.co.ad (N n.co.xs)
 con:n.co.ad=xn->n.co.cap=0
 cap:N n.co.xs<=n.co.cap
 clb:N n.cl.xs<=1000
 cob:N n.co.xs<=1000
structure AU(Fq:Nat->Prop)(w:U)(a:Nat)(p:aG):Prop where
 c0:UK w (aD a 0)=O (I J p.kind)
 c1:UK w (aD a 1)=O (I Vo (p.sources:Int))
 c2:UK w (aD a 2)=O (I Vo (p.clauses:Int))
 c3:UK w (aD a 3)=O p.order.val
 c4:UK w (aD a 4)=O (I Vo (p.size:Int))
 c5:UK w (aD a 5)=O (I Vo (p.cost:Int))
 ok:p.Ok w
 ord:sM Fq p.order.ad (N p.order.xs)
def uL.nW{a:Nat}{p:aG}{n:ai}{bo:Option Addr}{bc:Nat}{bs:List (Nat × dH)}(h:uL Tq Fq w a t p n bo bc bs):AU Fq w a p:=
 ⟨h.gb.cell 0,h.gb.cell 1,h.gb.cell 2,h.gb.cell 3,h.gb.cell 4,h.gb.cell 5,h.ok,h.ord⟩
def AU.below{Fq:Nat->Prop}{w w':U}{a:Nat}{p:aG}(h:AU Fq w a p)(hb:Bw w w'):AU Fq w' a p:=
 ⟨cB hb h.c0,cB hb h.c1,cB hb h.c2,cB hb h.c3,cB hb h.c4,cB hb h.c5,h.ok.below hb,h.ord⟩
def bG.nW{Tq:TypeId}{Fq:Nat->Prop}{w:U}{a:Nat}{t:dH}(h:bG Tq Fq w a t):∃p,AU Fq w a p/\p.d=t.d:=by obtain⟨p,n,bo,bc,bs,b,_⟩:=h.get;exact⟨p,b.nW,b.part⟩
def TI{Tq:TypeId}{Fq:Nat->Prop}{w:U}:∀{bs:List (Nat × dH)},(∀x∈bs,bG Tq Fq w x.1 x.2)->∃ps:List aG,N ps=N bs/\∀i,i<N bs->AU Fq w (E (bs.map Prod.fst) i 0) (E ps i bF)/\(E ps i bF).d=(E (bs.map Prod.snd) i OH).d
 |[],_=>⟨[],rfl,λi hi=>by simp at hi⟩
 |x::bs,h=>by
  obtain⟨ps,hl,hp⟩:=TI λy hy=>h y (List.mem_cons_of_mem _ hy);obtain⟨p,hp0,hd⟩:=(h x Jd).nW;refine⟨p::ps,by simp[hl],λi hi=>?_⟩
  cases i with
  |zero=>exact⟨hp0,hd⟩
  |succ i=>exact hp i (by simpa using hi)
def anC{bs:List dH}{ps:List aG}(hl:N ps=N bs)(h:∀i,i<N bs->(E ps i bF).d=(E bs i OH).d)(i:Nat):(E ps i bF).d=(E bs i OH).d:=by
 by_cases a:i<N bs
 .exact h i a
 .rw[Jh,XI (by omega),Jh,XI (by omega)];rfl
theorem jT(l:List α)(d:α)(hi:i<N l):l.take (i+1)=l.take i++[E l i d]:=by rw[List.take_add_one,ZB hi,Jh,ZB hi];rfl
theorem xR{xs:List Nat}(h:w.ownsRow base e 1 v n (xs.map λx=>Value.pointer (O (aD x 0))))(hl:N xs<=1000000) :
  ∃d cap,v=Z d (N xs) cap/\dA w d xs/\N xs<=cap/\(d=xn->cap=0)/\∀a,d=O a->base<=a.block:=by
 have j:n=N xs:=by have:=h.1;rw[Zm]at this;omega
 subst j;rcases h.2 with⟨rfl,h1⟩|⟨g,cap,cur,rfl,hb,hh,hc,_,_,ht⟩
 .have:=List.length_eq_zero_iff.1 h1;subst this;exact⟨xn,0,rfl,⟨by simp,λi f=>by simp at f⟩,by simp,λ_=>rfl,λa e=>by cases e⟩
 .refine⟨O (aD g 0),cap,rfl,⟨hl,λi f=>⟨g,0,rfl,?_⟩⟩,hc,(λe=>by cases e),(λa e=>by cases e;exact hb)⟩;have b:(xs.map λx=>Value.pointer (O (aD x 0)))[i]? = O (Y (O (aD (E xs i 0) 0))):=by grind
  rw[<-ht,Xt]at b;split at b
  .rw[ZK];simp only[World.cell?,hh]
   simpa using b
  .cases b
def Tryz.uN:(V.info? 95).map (λi=>(i.zero,i.size,i.bytes))=O (O (Y xn),1,8):=by kernel_rfl
theorem TJ(W:U)(base:Nat)(v:X3)(xs:List Nat)(hown:W.ownsRow base 95 1 v (N xs) (xs.map λx=>Value.pointer (O (aD x 0))))(hl:N xs<=1000)(hb:base<=M (H W))(a:Nat)(ty:TypeId) :
  ∃d e,(Builtin.append_ #[103,103] ty #[v,Z (O (aD (M (H W)) 0)) 1 1]).run V (W.alloc (EP #[Y (O (aD a 0))] 95))=.ok d e/\
   e.ownsRow base 95 1 d (N (xs++[a])) ((xs++[a]).map λx=>Value.pointer (O (aD x 0)))/\Kept (λb=>v.ownBlock≠O b) W e/\(∃a m c,d = Z a m c)/\(d.ownBlock=v.ownBlock∨d.ownBlock=O (M (H W)+1)):=by
 obtain⟨k,l,f,g,i⟩:=Zj Tryz.uN;obtain⟨d,e,p,q,r,t,n⟩:=iI (P:=V) W base 103 ty 95 k _ 1 8 Tryz.underlying103 l f g i rfl (by decide) v (N xs) _ hown hb [Y (O (aD a 0))] rfl (λu j=>by
  rw[Zg]at j;rw[j];rfl) hl (by decide)
 grind
theorem IW(a:Addr)(cap:Nat)(xs:List Nat)(w:U)(hx:dA w (O a) xs) :
  Calls V 144 #[Z (O a) (N xs) cap] w λe b=>∃v,e=FN v/\b.ownsRow (M (H w)) 95 1 v (N xs) (xs.map λx=>Value.pointer (O (aD x 0)))/\Bw w b:=by
 obtain⟨p,q,d,f,g⟩:=Zj Tryz.uN;obtain⟨D,b,r,t,y,⟨z,A,B,rfl⟩⟩:=rC (P:=V) w 103 103 95 p (Y xn) 1 8 Tryz.underlying103 q d f g rfl (by decide) a (N xs) cap (xs.map λx=>Value.pointer (O (aD x 0))) (by simp)
  (λj u i=>by
   rw[ZA]at i;by_cases k:j<N xs
   .obtain⟨b',Pf,e,G⟩:=hx.2 j k
    grind
   .rw[XI (by omega)]at i;cases i) (λu C=>by obtain⟨x,_,rfl⟩:=ZC.1 C;rfl) hx.1 (by decide)
 have m:Y3 _:=t;have n:=Zh y;have l:∀W,(binOp .eql 103 (.slice (O a) (N xs) cap) (.slice xn 0 0)).run V W=.ok (.bool F) W:=λW=>Je W 103 _ (O a) _ _ _ _ Tryz.underlying103;go_enter Tryz.func144,Tryz.ntmps144;go_wp2_with (first|(at_builtin;refine Xm rfl (.tmp 5) (.tmp 6) 103 rfl (.slice (O (aD (M (H w)) 0)) 0 0) (.slice (O a) (N xs) cap) (.slice z A B) b rfl rfl r ?_));go_wp2;go_ret;exact⟨_,rfl,m.o,n.o⟩
def IX(w:U):Ce 144 #[.slice xn 0 0] w (.slice xn 0 0):=by have a:∀W,(binOp .eql 103 (.slice xn 0 0) (.slice xn 0 0)).run V W=.ok (.bool T) W:=λW=>Je W 103 _ xn _ _ _ _ Tryz.underlying103;go_enter Tryz.func144,Tryz.ntmps144;go_wp2;go_ret;exact⟨rfl,rfl⟩
def KH(bo:Option Addr)(bc:Nat)(xs:List Nat)(w:U)(hx:dA w bo xs)(hn:bo=xn->bc=0) :
  Calls V 144 #[Z bo (N xs) bc] w λe d=>∃v,e=FN v/\d.ownsRow (M (H w)) 95 1 v (N xs) (xs.map λx=>Value.pointer (O (aD x 0)))/\Bw w d:=by
 cases bo with
 |none =>
  obtain rfl:bc=0:=hn rfl;have f:xs=[]:=by
   cases xs with
   |nil=>rfl
   |cons x xs=>obtain⟨b,off,e,_⟩:=hx.2 0 (by simp);cases e
  subst f;refine(IX w).mono ?_;rintro e d ⟨rfl,rfl⟩;exact⟨_,rfl,Zk _ _ _ _,Qm _ _⟩
 |some a =>
  exact IW a bc xs w hx
theorem IY(Ez:Env f ts q W0)(hz:Fz Fq W0 w)(n:ai)(hn:Yd Fq w n)(bo:Option Addr)(bc:Nat)(bs:List (Nat × dH))(hp:dA w bo (bs.map Prod.fst))(hnil:bo=xn->bc=0)
  (hbs:∀x∈bs,bG 105 Fq w x.1 x.2/\uM q x.2) (hl:N bs=arity n.kind) (hk1:1<=n.kind) (hk10:n.kind<=10) (hsm:aY (N q.wh) n.cl.xs) (yw:n.kind=1->0<=n.source/\n.source<N q.src.xs) :
  Calls V 93 #[FL (f.cells ts q),FL n.cells,Z bo (N bs) bc] w λe t=>∃a,e=FN (Y (O (aD a 0)))/\bG 105 Fq t a (aM ts q n (bs.map Prod.snd))/\M (H w)<=a/\a<M (H t)/\Bw w t:=by
 obtain⟨ps,u,A⟩:=TI (λx B=>(hbs x B).1);have R:N bs<=2:=by rw[hl];unfold arity;split <;> (try split) <;> omega
 have j:N (bs.map Prod.fst)=N bs:=Zm _;have hd:=anC (bs:=bs.map Prod.snd) (ps:=ps) (by rw[u,Zm]) (λi P=>(A i (by rw[Zm]at P;exact P)).2);have au:∀i,i<N ps->(E ps i bF).sources<2 ^ (N q.src.xs)/\(E ps i bF).clauses<2 ^ (N q.wh):=λi P=>by have e:=hd i;have hm:E (bs.map Prod.snd) i OH∈bs.map Prod.snd:=Xl (by rw[Zm];omega);obtain⟨x,B,aW⟩:=ZC.1 hm;have ht:=(hbs x B).2;rw[aW]at ht;have e1:(E ps i bF).sources=(E (bs.map Prod.snd) i OH).d.sources:=congrArg bN.sources e;have e2:(E ps i bF).clauses=(E (bs.map Prod.snd) i OH).d.clauses:=congrArg bN.clauses e;rw[e1,e2];exact⟨ht.src,ht.cls⟩
 -- what is called
 have S:Y3 (∀(x:U) (a:Option Addr) (c:Nat),Bw w x->bY x a ps->Calls V 111 #[FL (f.cells ts q),FL n.cells,Z a (N ps) c] x λe t=>∃p:aG,e=FN (FL p.cells)/\p.d=(aM ts q n (bs.map Prod.snd)).d/\p.Ok t/\sM Fq p.order.ad (N p.order.xs)/\Bw x t):=λx a c B Lv=>by
  refine(IG f ts q n a c ps x Ez.ok ((Ez.at' hz).below B) (Qo B hn.cl) (Qo B hn.co) hn.cap Lv hk1 hk10 (by rw[u,hl]) hsm yw au).mono ?_;rintro e t ⟨p,he,Dw,r,_,_,zi,hb⟩;refine⟨p,he,by rw[Dw,hd 0,hd 1];rfl,r,?_,hb⟩;rcases zi with h|h|h
  .rw[h];exact hn.cof
  .rw[h];by_cases h0:0<N bs
   .exact(A 0 h0).1.ord
   .have:E ps 0 bF=bF:=by grind
    rw[this];intro h;exact absurd h (by decide)
  .rw[h];intro h;exact absurd h (by decide)
 have Al:Y3 (∀x:U,Bw w x->Calls V 144 #[Z bo (N bs) bc] x λe t=>∃v,e=FN v/\t.ownsRow (M (H x)) 95 1 v (N bs) ((bs.map Prod.fst).map λx=>Value.pointer (O (aD x 0)))/\Bw x t):=λx B=>by have:=KH bo bc (bs.map Prod.fst) x (hp.below B) hnil;rw[j]at this;exact this
 have lu:Y3 (∀(x:U) (a:Nat) (p:aG) (v:X3) (y:U),M (H x)=a->M (H w)<=M (H y)->Bw w y->Bw y x->p.d=(aM ts q n (bs.map Prod.snd)).d->p.Ok x->sM Fq p.order.ad (N p.order.xs)->x.ownsRow (M (H y)) 95 1 v (N bs) ((bs.map Prod.fst).map λx=>Value.pointer (O (aD x 0)))->
   bG 105 Fq (x.alloc (EP (ME p n v) 105)) a (aM ts q n (bs.map Prod.snd))/\Bw w (x.alloc (EP (ME p n v) 105))):=by intro x a p v y aO aP bB bC Dw r aj hv;subst aO;obtain⟨ao,cap,rfl,aX,aC,aZ,aH⟩:=xR hv (by rw[j];omega);rw[j]at aC ⊢;have W:Bw w x:=bB.trans (bC.mono aP);have RN:=dN x (EP (ME p n (Z ao (N bs) cap)) 105);have g:Bw w (x.alloc (EP (ME p n (Z ao (N bs) cap)) 105)):=W.trans (RN.mono W.size);refine⟨bG.intro (p:=p) (n:=n) (bo:=ao) (bc:=cap) (bs:=bs) ?_ (λz bD=>(hbs z bD).1.below g),g⟩;exact { blk:=hz.high _ W.size,gb:=pR _ _,part:=Dw,ok:=r.below RN,ord:=aj,cl:=Qo g hn.cl,clf:=hn.clf,cln:=hn.cln,co:=Qo g hn.co,cof:=hn.cof,con:=hn.con,ptrs:=aX.below RN,ptf:=λ_ a e=>hz.high _ (Qz aP (aH a e)),ags:=aC,nil:=aZ,lay:=(by show vF n ((bs.map Prod.snd).map dH.ns)=_;rw[Z9];rfl),two:=R,kind:=⟨hk1,hk10⟩,lens:=⟨hn.clb,hn.cob⟩ }
 have aQ:Y3 (dA w bo (bs.map Prod.fst)):=hp;have av:Y3 (∀i,i<N bs->AU Fq w (E (bs.map Prod.fst) i 0) (E ps i bF)):=λi P=>(A i P).1;have aR:Y3 (∀i,i<N bs->ps.take (i+1)=ps.take i++[E ps i bF]):=λi P=>jT ps bF (by omega);have vU:Y3 (N ps=N bs):=u;have bE:Y3 (N bs<=2):=R;have ax:Y3 (N (bs.map Prod.fst)=N bs):=j;have bH:N bs<=1000:=by omega
 clear au hd A u hp hnil hbs hl hk1 hk10 hsm yw hn hz Ez R j;generalize aM ts q n (bs.map Prod.snd)=GT at*;obtain⟨kind,nl,nr,src,⟨ca,cc,cl⟩,key,⟨da,dc,co⟩⟩:=n;obtain⟨v0,v1,v2,v3,v4,v5,v6,v7,v8,v9,C,D,G,cK,-⟩:=X9 f ts q;rw[cK]at S ⊢;clear cK;simp only[ai.cells,ae.val,ME]at*;generalize bs.map Prod.fst=bf at*;generalize N bs=bl at*;clear bs;obtain⟨w1,bg,aI,aa⟩:=aL w #[v0,v1,v2,v3,v4,v5,v6,v7,v8,v9,C,D,G] 90;obtain⟨L,bn,ag,aJ⟩:=aL w1 #[I J kind,I J nl,I J nr,I J src,Z ca (N cl) cc,I J key,Z da (N co) dc] 102;have jJ:GB L (M (H w)) 90 #[v0,v1,v2,v3,v4,v5,v6,v7,v8,v9,C,D,G]:=aa.of (ag.block _ aa.lt);have wI:Y3 (GB L (M (H w)) 90 #[v0,v1,v2,v3,v4,v5,v6,v7,v8,v9,C,D,G]):=jJ;have ay:Y3 (GB L (M (H w1)) 102 #[I J kind,I J nl,I J nr,I J src,Z ca (N cl) cc,I J key,Z da (N co) dc]):=aJ;have aS:Y3 (Bw w L):=az aI ag;clear aI ag aa aJ jJ;go_enter Tryz.func93,Tryz.ntmps93;go_wp2;clear bg bn;go_loopw [7,12] (λpv iv wr=>∃k:Nat,k<=bl/\iv=I J (k:Int)/\Y3 (wr.ownsRow (M (H L)) 100 6 pv (N (ps.take k)) ((ps.take k).flatMap aG.list))/\Y3 (Bw L wr)) (λ_ iv _=>bl-(intOf iv).toNat)
 case atStart=>exact⟨0,QW _,rfl,Zk _ _ _ _,Qm _ _⟩
 case round=>
  obtain⟨k,hk,rfl,HQ,Bg⟩:=hrel;have g:Bw w wr:=az aS.o Bg.o;by_cases Q:k<bl
  .obtain⟨bb,TK,rfl,aK⟩:=dA.get (aQ.o.below g) (i:=k) (by rw[ax.o];exact Q);have aT:=aK k (by rw[ax.o];exact Q);have hP:=(av.o k Q).below g;have X:Y3 _:=aR.o k Q;obtain⟨p,hp⟩:=eY (E ps k bF)
   rw[<-hp]at hP X;obtain⟨pa,Lv⟩:∃a,a=E bf k 0:=⟨_,rfl⟩;rw[<-Lv]at hP aT;obtain⟨c0,c1,c2,c3,c4,c5,-,-⟩:=hP;obtain⟨qa,qm,qc,rfl⟩:=Zc HQ.o;have aA:M (H L)<=M (H wr):=Bg.o.size;obtain⟨v',w5,oU,yK,aN,⟨xa,xm,xc,rfl⟩,bq⟩:=Eh wr (M (H L)) (Z qa qm qc) (ps.take k) HQ.o (by rw[Xu];omega) aA p 106;rw[<-X.o]at yK;have Fy:Y3 _:=yK;have jG:Y3 (Bw L w5):=Bg.o.trans (aN.below aA (λb hb e=>by have:=(Zb HQ.o e).1;omega));obtain⟨pk,ss,cs,⟨oa,Gj,ox⟩,pz,pt⟩:=p;simp only[aG.cells,ae.val]at*;clear hp yK aN bq aK Lv X HQ Bg g;go_wp2_with (first|(at_builtin;refine Xm rfl (.tmp 16) (.tmp 21) 106 rfl (Z qa qm qc) (Z (O (aD (M (H wr)) 0)) 1 1) (Z xa xm xc) w5 rfl rfl oU ?_));go_wp2;go_roundw
   case rel=>exact⟨k+1,by omega,by go_num,Fy.o,jG.o⟩
   case measure=>simp[intOf];omega
  .have aU:bl=k:=by omega
   subst aU;rw[Xi (by rw[vU.o];exact Qn _)]at HQ;obtain⟨w3,bu⟩:∃x,x=wr:=⟨_,rfl⟩;subst bu;obtain⟨qa,qc,rfl,bz⟩:=DU HQ.o (by rw[vU.o];omega) (λi P=>((av.o i (by rw[vU.o]at P;exact P)).below g).ok);have aV:Y3 (bY w3 qa ps):=bz;have l:Y3 _:=g;have gA:GB w3 (M (H w)) 90 #[v0,v1,v2,v3,v4,v5,v6,v7,v8,v9,C,D,G]:=wI.o.of (Bg.o.block _ wI.o.lt);have gN:GB w3 (M (H w1)) 102 #[I J kind,I J nl,I J nr,I J src,Z ca (N cl) cc,I J key,Z da (N co) dc]:=ay.o.of (Bg.o.block _ ay.o.lt);obtain⟨a0,a1,a2,a3,a4,a5,a6,a7,a8,a9,nA,oC,bI⟩:=gA.oh;obtain⟨n0,n1,n2,n3,n4,n5,n6⟩:=gN.k7;rw[vU.o]at S ⊢;go_wp2_with fail;refine wH w3 λm=>?_;refine wA3 0 m ?_;refine wA2 4 m ?_;refine wR 3 λK hK=>?_;go_simp;refine XX (S.o _ qa qc (l.o.trans (m.mono l.o.size)) (bY.below m aV.o)) ?_;rintro e w4 ⟨p,rfl,Dw,r,aj,hb⟩;have aB:=m.trans (hb.mono m.size);obtain⟨pk,ps',pc,⟨oa,Gj,ox⟩,pz,pt⟩:=p;simp only[aG.cells,ae.val]at*;refine oT hK m hb λm=>?_;refine wR 6 λK hK=>?_;go_simp;refine XX (Al.o _ (l.o.trans (m.mono l.o.size))) ?_;rintro e w5 ⟨v,rfl,hv,ak⟩;have KI:=m.trans (ak.mono m.size);obtain⟨va,vn,vc,rfl⟩:=Zc hv;refine hK.o _ _ KI λm=>?_;refine sN 7 m ?_;refine wR 8 λK hK=>?_;go_simp;refine oA hK m λm=>?_;refine wR 9 λK hK=>?_;go_simp;refine hK.o _ _ m λm=>?_;refine wD ?_;try simp only[pU]
   obtain⟨hT,bA⟩:=lu.o w5 (M (H w5)) ⟨pk,ps',pc,⟨oa,Gj,ox⟩,pz,pt⟩ (Z va vn vc) w4 rfl (Qz l.o.size aB.size) (l.o.trans (aB.mono l.o.size)) ak Dw (r.below ak) aj hv;have HT:Y3 _:=hT;have Bh:Y3 _:=bA;have V6:Y3 (M (H w)<=M (H w5)):=Qz l.o.size KI.size;go_wp2;go_ret;exact⟨_,rfl,HT.o,V6.o,by simp,Bh.o⟩
def agu(ok:Ok ts q)(k:Nat):E (bT ts q) k 0<18446744073709551616:=by
 by_cases a:k<N q.wh
 .rw[DR ts q a];exact QA (uT (n:=N q.src.xs) (pI ok.cat ok.src (ok.cols k a))) (ZI (n:=2) (by omega) ok.small)
 .rw[Jh,XI (by rw[kI];omega)];simp
theorem Fe(f:aF)(ts:List ah)(q:af)(s:Nat)(w:U)(ok:Ok ts q)(hf:f.At ts q w)(hs:s<18446744073709551616) :
  Cb 181 #[FL (f.cells ts q),I Vo (s:Int)] w (I Vo ((bB (bT ts q) s:Nat):Int)):=by
 obtain⟨W,ai,l,hg⟩:=aL w ((f.cells ts q)) 90;have v:=hg.at 11;have y:f.nl=N (bT ts q):=by rw[kI];exact hf.nl
 rw[y]at v;have g:=hf.conc.below l;have aa:=g.1;have ry:Y3 _:=g;have ae:N (bT ts q)<=64:=by rw[kI];exact ok.wm
 have z:Y3 (∀k x,Ce 96 #[I Vo (s:Int),I Vo ((E (bT ts q) k 0:Nat):Int)] x (Wl (aZ s (E (bT ts q) k 0)))):=λk x=>oQ s _ hs (agu ok k) x;have A:Y3 (∀k,k<=64->gy (bT ts q) s k<18446744073709551616):=λk X=>QA (jL _ _ k) (ZI (n:=2) (by omega) X);have C:Y3 (∀k,gy (bT ts q) s (k+1)=if aZ s (E (bT ts q) k 0)=T then gy (bT ts q) s k|||2 ^ k else gy (bT ts q) s k):=λk=>rfl;have D:Y3 (gy (bT ts q) s 0=0):=rfl;have G:Y3 (gy (bT ts q) s (N (bT ts q))=bB (bT ts q) s):=rfl;have qL:=Zh l;generalize bB (bT ts q) s=R at*;generalize gy (bT ts q) s=WT at*;generalize f.cells ts q=FC at*;generalize bT ts q=CN at*;obtain⟨aj,ak,au,av,ax,ay,aA,aB,aC,aD⟩:=f;simp only at*;go_enter Tryz.func181,Tryz.ntmps181;go_wp2;go_loopw [5,11] (λsv Q wr=>∃k:Nat,k<=N CN/\Q=I J k/\(∃m:Nat,sv=I Vo (m:Int)/\Y3 (m=WT k))/\Bw W wr) (λ_ Q _=>N CN-(intOf Q).toNat)
 case atStart=>exact⟨0,QW _,rfl,⟨0,rfl,D.o.symm⟩,Qm _ _⟩
 case round=>
  obtain⟨k,X,rfl,⟨m,rfl,P⟩,a⟩:=hrel;by_cases t:k<N CN
  .obtain⟨xb,xo,rfl,zh⟩:=fH.get ry.o t;have ag:=cB a (zh k t);have b:=z.o k wr;have u:=Zh (C.o k);have O8:m<18446744073709551616:=by rw[P.o];exact A.o k (by omega)
   rw[<-P.o]at u;generalize E CN k 0=c at*;obtain⟨B,hB⟩:=eX (aZ s c);rw[hB]at b u;have i:k<64:=by omega
   cases B with
   |true =>
    have j:Y3 (WT (k+1)=m|||2 ^ k):=u.o;obtain⟨wa,r⟩:∃x,wr.alloc (EP #[I J (k:Int)] 3)=x:=⟨_,rfl⟩;have K:=yJ (M (H wr)) k wa (by rw[<-r];simp) i;obtain⟨wb,d⟩:∃x,wa.alloc (EP #[I Vo (m:Int),I Vo ((2 ^ k:Nat):Int)] 86)=x:=⟨_,rfl⟩;have hp:2 ^ k<18446744073709551616:=XO (n:=64) (by omega) i;have L:=lX (M (H wa)) m (2 ^ k) wb (by rw[<-d];simp) (by rw[<-d];simp) O8 hp;have S:Y3 (Bw W wb):=by show Below _ _ _;rw[<-d,<-r];exact az (az a (dN _ _)) (dN _ _)
    generalize 2 ^ k=p at*;go_wp2_with fail;refine b.mono ?_;rintro e w2 ⟨rfl,rfl⟩;go_wp2_with fail;refine K.mono ?_;rintro e w2 ⟨rfl,rfl⟩;go_wp2_with fail;refine L.mono ?_;rintro e w3 ⟨rfl,rfl⟩;go_wp2;go_roundw
    case rel=>exact⟨k+1,by omega,by go_num,⟨m|||p,rfl,j.o.symm⟩,S.o⟩
    case measure=>simp[intOf];omega
   |false =>
    have j:Y3 (WT (k+1)=m):=u.o;have S:=Zh a;go_wp2_with fail;refine b.mono ?_;rintro e w2 ⟨rfl,rfl⟩;go_wp2;go_roundw
    case rel=>grind
    case measure=>simp[intOf];omega
  .obtain rfl:k=N CN:=by omega
   obtain⟨HV,HB⟩:=aJ (P.o.trans G.o) a;go_wp2;go_ret;exact⟨Qe (by rw[HV.o]),az qL.o HB.o⟩
section
structure ajP(w2:U)(t e:TypeId)(pre:List Nat)(o1:Nat->Prop)(W:U):Prop where
 ex:∃v,GB W (M (H w2)) t #[v]/\W.ownsRow (M (H w2)+1) e 1 v (N pre) (pre.map λn:Nat=>Value.int J (n:Int))/\(∀b,o1 b↔b=M (H w2)∨v.ownBlock=O b)
 below:Bw w2 W
def ajP.keep{w2:U}{t e:TypeId}{pre:List Nat}{o1:Nat->Prop}{A B:U}{n:Nat}(h:ajP w2 t e pre o1 A)(hn:M (H w2)<=n)(hk:Kept (λb=>o1 b∨b<n) A B):ajP w2 t e pre o1 B:=by obtain⟨v,a,f,d⟩:=h.ex;exact⟨⟨v,a.keep hk (.inl ((d _).2 (.inl rfl))),Za f hk (λg a=>.inl ((d g).2 (.inr a))),d⟩,h.below.trans (hk.below h.below.size (λb i=>.inr (by omega)))⟩
attribute [local go_sem] Oper.semAt_some
theorem KJ(s:Nat)(hs:s<18446744073709551616)(w:U) :
  Calls V 213 #[Z xn 0 0,.func (.func 60) #[I Vo (s:Int)] #[]] w λe w'=>∃v,e=FN v/\w'.ownsRow (M (H w)) 3 1 v (N (ed s)) ((ed s).map (Value.int J))/\Bw w w':=by
 obtain⟨i0,hi,au,av,ax⟩:=Zj Tryz.lK;have ae:=Zh (vE s hs);have af:Y3 (N (aT s)<=64):=by show _<=_;unfold aT;grind
 have HE:Y3 ((ed s).map (Value.int J)=(aT s).map λn:Nat=>Value.int J (n:Int)):=by show _=_;unfold ed;rw[Z9];rfl
 have ag:Y3 (N (ed s)=N (aT s)):=by show _=_;unfold ed;rw[Zm]
 generalize aT s=RS at*;obtain⟨w1,ay,az,aA⟩:=aL w #[Z xn 0 0] 22;have q:Y3 (M (H w1)=M (H w)+1):=by rw[<-ay];show _=_;simp
 have qL:=Zh az;have wI:Y3 _:=aA;refine(QH (n:=0)).1 (Q3 Tryz.func213 rfl trivial ?_ rfl);simp only[Tryz.ntmps213,QN,QO,QP,Nat.reduceAdd,Nat.reduceSub,QQ,QR,QS,QT,QU,QV];gi_wp2;refine yO ng (gf:=60) (s:=I Vo (s:Int)) rfl (XZ Tryz.func60 (by kernel_rfl) rfl) (ae.o w) qL.o rfl
  (λpre o1 W=>ajP w 22 3 pre o1 W) (λb=>b=M (H w)) ?_ ?_ ⟨⟨Z xn 0 0,wI.o,Zk _ _ _ _,λb=>by simp[Value.ownBlock]⟩,qL.o⟩
  (λx=>{ tmps:=#[Z xn 0 0,.func (.func 60) #[I Vo (s:Int)] #[],Y (O (aD (M (H w)) 0)),undef,Z xn 0 0,I J (x:Int),.func (.func 60) #[I Vo (s:Int)] #[],I J (x:Int),undef,undef,undef,undef,undef],defers:=[] }) ?assign ?body ?done
 .rintro b rfl;exact⟨Qn _,by have:=q.o;omega⟩
 .intro pre o1 A B h hk;exact h.keep (by have:=q.o;omega) hk
 case assign=>
  intro l x W K hK;have he:ng.enc x=I J (x:Int):=rfl;gi_wp2;exact hK
 case body=>
  intro l pre x o1 W X aa _ _ aO;have aC:N pre+1<=64:=by have:=aa.length_le;rw[Zm,Zn]at this;exact Qz this af.o
  obtain⟨⟨v,y,a,F8⟩,S⟩:=X;obtain⟨va,vn,vc,rfl⟩:=Zc a;have hc:=y.at 0;have aF:=S.size;have JX:=Zh y;have d:Y3 _:=a;obtain⟨Q,Dt⟩:=aJ F8 S;have ah:=q.o;gi_wp2_with (gi_at_builtin;refine wpListIn_append_own_at _ rfl _ _ 22 rfl (M (H w)+1) 3 i0 (.int J 0) 1 8 Tryz.underlying22 hi au av ax rfl (by decide) _ _ _ rfl (a.alloc _) (aD (M (H W)) 0) 1 1 [.int J (x:Int)] rfl rfl ?q1 ?q2 ?q3 ?q4 ?q5 ?_)
  case q1=>
   intro j u hj
   match j,hj with
   |0,hj=>simp at hj;subst hj;simp[Addr.add]
  case q2=>intro u hu;simp at hu;subst hu;rfl
  case q3=>unfold maxLen;omega
  case q4=>omega
  case q5=>simp;omega
  intro v' G p z _ U4;obtain⟨f,i,k,rfl⟩:=Zc p;have L:Kept (λb=>(Value.slice va vn vc).ownBlock≠O b) W G:=(QE _ _).trans (Q9 z (λr e hr=>hr e));have ai:(Value.slice va vn vc).ownBlock≠O (M (H w)):=λe=>by have:=(Zb d.o e).1;omega
  have C:=JX.o.keep L ai;have aG:=C.at 0;have aH:=C.frozen 0;obtain⟨Dz,zX⟩:=aJ C L;have P:Y3 _:=p;have aI:=Zh U4;gi_wp2;have D:Kept (λb=>b≠M (H w)) G (UC G (aD (M (H w)) 0) (Z f i k)):=Q8 _ _ _ (λh=>h rfl);have aj:∀b,(Value.slice f i k).ownBlock=O b->M (H w)+1<=b/\b<M (H G):=λb e=>Zb P.o e;refine⟨λb=>b=M (H w)∨(Value.slice f i k).ownBlock=O b,⟨⟨Z f i k,Dz.o.set 0 _,?_,λb=>QJ⟩,?_⟩,?_,?_⟩
  .have:=Za P.o D (λg hg=>by have:=(aj g hg).1;omega);rw[Zn,Qi];exact this
  .refine Dt.o.trans ((zX.o.mono (t:=λb=>b<M (H w)) λb _ m e=>?_).trans (D.mono λb _ m=>?_) |>.below Dt.o.size (λb m=>m))
   .have:=(Zb d.o e).1;omega
   .exact Nat.ne_of_lt m
  .refine(zX.o.mono λb _ m e=>m ((Q.o b).2 (.inr e))).trans (D.mono λb _ m e=>m ((Q.o b).2 (.inl e)))
  .rintro b (rfl|m)
   .exact .inl ((Q.o _).2 (.inl rfl))
   .have h3:M (H (UC G (aD (M (H w)) 0) (Z f i k)))=M (H G):=by simp
    grind
 case done=>
  rintro ys o' W aB X aM aN hD;have ak:ys=RS:=by simpa [ng] using aB
  subst ak;have ah:=q.o;obtain⟨v,y,a,F8⟩:=X.ex;have hc:=y.at 0;have Q:=Zh F8;have d:Y3 _:=a;obtain⟨va,vn,vc,rfl⟩:=Zc d.o;gi_wp2;have aK:¬o' (M (H w1)):=λh=>by grind
  refine⟨by simp,.inl ⟨_,_,rfl,Q5 hD,?_⟩⟩;have R:=QC (s:=λb=>o' b∨b<M (H w1)) W (r:=M (H w1)) (.deferred xn) (by
   grind)
  refine⟨_,results_tmp rfl _ _ _,_,rfl,?_,?_⟩
  .rw[HE.o,ag.o];have h5:=Za d.o R (λg hg=>.inl ((Q.o g).2 (.inr hg)));exact⟨h5.1,h5.2.imp id λ⟨g,cap,cur,e,m,h⟩=>⟨g,cap,cur,e,by omega,h⟩⟩
  .exact X.below.trans (R.below X.below.size (λb m=>.inr (by omega)))
def IZ(s:Nat)(hs:s<18446744073709551616)(w:U) :
  Calls V 120 #[I Vo (s:Int)] w λe b=>∃v,e=FN v/\b.ownsRow (M (H w)) 3 1 v (N (ed s)) ((ed s).map (Value.int J))/\Bw w b:=by
 have j:∀x,Calls V 182 #[.func (.func 60) #[I Vo (s:Int)] #[]] x λe b=>∃v,e=FN v/\b.ownsRow (M (H x)) 3 1 v (N (ed s)) ((ed s).map (Value.int J))/\Bw x b:=by intro x;have d:=KJ s hs x;go_enter Tryz.func182,Tryz.ntmps182;go_wp2_with fail;refine d.mono ?_;rintro e k ⟨v,rfl,a,i⟩;obtain⟨l,m,n,rfl⟩:=Zc a;have f:Y3 _:=a;have g:=Zh i;go_wp2;go_ret;exact⟨_,rfl,f.o,g.o⟩
 have d:=j w;go_enter Tryz.func120,Tryz.ntmps120;go_wp2_with fail;refine d.mono ?_;rintro e k ⟨v,rfl,a,i⟩;obtain⟨l,m,n,rfl⟩:=Zc a;have f:Y3 _:=a;have g:=Zh i;go_wp2;go_ret;exact⟨_,rfl,f.o,g.o⟩
end
def cZ(Tq:TypeId)(Fq:Nat->Prop)(w:U)(t:dH)(e:Ending)(w':U):Prop:=
 ∃a,e=FN (Y (O (aD a 0)))/\bG Tq Fq w' a t/\M (H w)<=a/\a<M (H w')/\Bw w w'
def eU:ae:=⟨xn,0,[]⟩
def jU(w:U):eU.At w:=⟨by decide,λi a=>absurd a (Nat.not_lt_zero _)⟩
def Ye{t:TypeId}(h:w.heap[b]? = O (EP #[v] t (0,0))):UK w (aD b 0)=O v:=by simp only[World.cell?,h];rfl
theorem rD{xs:List Int}(h:w.ownsRow base e 1 v n (xs.map (Value.int J)))(hl:N xs<=1000000) :
  ∃iv:ae,v=iv.val/\iv.xs=xs/\iv.At w/\(∀a,iv.ad=O a->base<=a.block)/\(iv.ad=xn->iv.cap=0)/\N iv.xs<=iv.cap:=by
 have d:n=N xs:=by have:=h.1;rw[Zm]at this;omega
 subst d;rcases h.2 with⟨rfl,h1⟩|⟨g,cap,cur,rfl,hb,hh,hc,_,_,ht⟩
 .have:=List.length_eq_zero_iff.1 h1;subst this;exact⟨eU,rfl,rfl,jU w,(λa e=>by cases e),(λ_=>rfl),Qn _⟩
 .refine⟨⟨O (aD g 0),cap,xs⟩,rfl,rfl,⟨by simp only;omega,λi j=>⟨g,0,rfl,?_⟩⟩,(λa e=>by cases e;exact hb),(λe=>by cases e),hc⟩;have f:i<N xs:=j;have b:(xs.map (Value.int J))[i]? = O (I J (E xs i 0)):=by grind
  rw[<-ht,Xt]at b;split at b
  .rw[ZK];simp only[World.cell?,hh]
   simpa using b
  .cases b
def sM.nil(Fq:Nat->Prop)(ao:Option Addr):sM Fq ao 0:=λh=>absurd h (Nat.lt_irrefl _)
def MG(Ez:Env f ts q W0)(hz:Fz Fq W0 w)(s:Int)(h0:0<=s)(h1:s<N q.src.xs) :
  Calls V 93 #[FL (f.cells ts q),FL #[I J 1,I J 0,I J 0,I J s,Z xn 0 0,I J 0,Z xn 0 0],Z xn 0 0] w (cZ 105 Fq w (aM ts q (kC s) [])):=
 IY Ez hz ⟨1,0,0,s,eU,0,eU⟩ ⟨jU w,sM.nil _ _,λ_=>rfl,jU w,sM.nil _ _,λ_=>rfl,Qn _,QW _,QW _⟩ xn 0 [] ⟨by decide,λi a=>absurd a (Nat.not_lt_zero _)⟩ (λ_=>rfl) (λx b=>by cases b) rfl (by decide:(1:Int)<=1) (by decide:(1:Int)<=10) (Jg _) (λ_=>⟨h0,h1⟩)
theorem xS(Ez:Env f ts q W0)(hz:Fz Fq W0 w)(n:ai)(hn:Yd Fq w n)(a b:Nat)(t:dH)(ht:bG 105 Fq w a t)(hto:uM q t)(hc:UK w (aD b 0)=O (Y (O (aD a 0))))
  (har:arity n.kind=1) (hk1:2<=n.kind) (hk10:n.kind<=10) (hsm:aY (N q.wh) n.cl.xs) :
  Calls V 93 #[FL (f.cells ts q),FL n.cells,Z (O (aD b 0)) 1 1] w (cZ 105 Fq w (aM ts q n [t])):=
 IY Ez hz n hn (O (aD b 0)) 1 [(a,t)] ⟨by simp,λi d=>⟨b,0,rfl,by
  grind⟩⟩ (λe=>by cases e) (λx g=>by grind) (by rw[har];rfl) (by omega) hk10 hsm (λe=>by omega)
theorem TL(Ez:Env f ts q W0)(hz:Fz Fq W0 w)(n:ai)(hn:Yd Fq w n)(a a' b:Nat)(t t':dH)(ht:bG 105 Fq w a t)(hto:uM q t)(ht':bG 105 Fq w a' t')(aHq:uM q t')(hc:UK w (aD b 0)=O (Y (O (aD a 0))))(hc':UK w (aD b 1)=O (Y (O (aD a' 0))))
  (h3:3<=n.kind) (h5:n.kind<=5) (hsm:aY (N q.wh) n.cl.xs) :
  Calls V 93 #[FL (f.cells ts q),FL n.cells,Z (O (aD b 0)) 2 2] w (cZ 105 Fq w (aM ts q n [t,t'])):=
 IY Ez hz n hn (O (aD b 0)) 2 [(a,t),(a',t')] ⟨by simp,λi g=>⟨b,0,rfl,by
  have d:i<2:=g;rw[ZK]
  match i,d with
  |0,_=>exact hc
  |1,_=>exact hc'⟩⟩ (λe=>by cases e) (λx j=>by
   grind) (by unfold arity;rw[ZU (by omega),Zt (by omega)];rfl) (by omega) (by omega) hsm (λe=>by omega)
structure di(Fq:Nat->Prop)(w:U)(iv:ae):Prop where
 at':iv.At w
 inf:sM Fq iv.ad (N iv.xs)
 nil:iv.ad=xn->iv.cap=0
 cap:N iv.xs<=iv.cap
def di.bC{Fq:Nat->Prop}{w w':U}{iv:ae}(h:di Fq w iv)(hk:Kept Fq w w'):di Fq w' iv:=⟨Jc h.at' hk h.inf,h.inf,h.nil,h.cap⟩
def di.below{Fq:Nat->Prop}{w w':U}{iv:ae}(h:di Fq w iv)(hb:Bw w w'):di Fq w' iv:=⟨Qo hb h.at',h.inf,h.nil,h.cap⟩
def di.eU(Fq:Nat->Prop)(w:U):di Fq w eU:=⟨jU w,sM.nil _ _,λ_=>rfl,Qn _⟩
def di.mono{Fq G:Nat->Prop}{w:U}{iv:ae}(h:di Fq w iv)(hs:∀b,b<M (H w)->Fq b->G b):di G w iv:=⟨h.at',sM.mono h.at'.2 h.inf hs,h.nil,h.cap⟩
def vH{xs:List Int}(h:w.ownsRow base e 1 v n (xs.map (Value.int J)))(hl:N xs<=1000000)(hF:∀b,base<=b->Fq b) :
  ∃d:ae,v=d.val/\d.xs=xs/\di Fq w d:=by obtain⟨d,f,g,i,j,k,l⟩:=rD h hl;exact⟨d,f,g,i,λ_ a e=>hF _ (j a e),k,l⟩
def I5(Fq:Nat->Prop)(w:U)(xs:List Int)(e:Ending)(w':U):Prop:=∃iv:ae,e=FN iv.val/\iv.xs=xs/\di Fq w' iv/\Bw w w'
def Env.agy(Ez:Env f ts q W0):N (aR q)<=4:=by
 unfold aR;split
 .exact Ez.asM
 .split
  .unfold iH;rw[Zm];exact Ez.few
  .simp
def Env.agz(Ez:Env f ts q W0)(h:Fz Fq W0 w):di Fq w q.keys:=
 ⟨h.below.ints Ez.facts.query.keys,λi a e=>h.low _ (by
  obtain⟨b,off,d,g⟩:=Ez.facts.query.keys.2 0 i;rw[e]at d;injection d with d;rw[d];exact⟨_,_,g⟩),Ez.asN,Ez.lT⟩
theorem C9(Ez:Env f ts q W0)(hz:Fz Fq W0 w):Calls V 95 #[FL q.cells] w (I5 Fq w (aR q)):=by
 have hq:=(Ez.at' hz).query
 cases hg:q.group with
 |true =>
  have u:Y3 (aR q=q.keys.xs):=by show _=_;unfold aR;rw[Zt hg]
  have HK:=Zh (Ez.agz hz);generalize aR q=R at*;obtain⟨⟨A,sc,B⟩,C,bP,wh,group,⟨r,kc,t⟩,⟨D,G,K⟩,⟨L,P,Q⟩,⟨S,W,X⟩⟩:=q;simp only[af.cells,ae.val]at*;subst hg;obtain⟨w1,aa,g,k⟩:=aL w #[Z A (N B) sc,Z C (N wh) bP,Wl T,Z r (N t) kc,Z D (N K) G,Z L (N Q) P,Z S (N X) W] 26;obtain⟨a0,a1,a2,a3,a4,a5,a6⟩:=k.k7;have d:=Zh g;go_enter Tryz.func95,Tryz.ntmps95;go_wp2;go_ret;exact⟨⟨r,kc,t⟩,rfl,u.o.symm,HK.o.below d.o,d.o⟩
 |false =>
  have ry:Y3 (∀x,Bw w x->Calls V 145 #[FL q.cells] x λe w'=>∃v,e=FN v/\w'.ownsRow (M (H x)) 3 1 v (N (iH q)) ((iH q).map (Value.int J))/\Bw x w'):=λx i=>rX q x (hq.below i) (Ez.ord hg) (by have:=Ez.few;omega);have u:Y3 (aR q=if dB (iH q)=T then iH q else []):=by show _=_;unfold aR;rw[ZU (by rw[hg];decide)]
  have y:Y3 (N (iH q)<=4):=by show _<=_;unfold iH;rw[Zm];exact Ez.few
  have Az:=Zh hz.high;generalize aR q=R at*;generalize iH q=WN at*;obtain⟨⟨A,sc,B⟩,C,bP,wh,group,⟨r,kc,t⟩,⟨D,G,K⟩,⟨L,P,Q⟩,⟨S,W,X⟩⟩:=q;simp only[af.cells,ae.val]at*;subst hg;obtain⟨w1,aa,g,k⟩:=aL w #[Z A (N B) sc,Z C (N wh) bP,Wl F,Z r (N t) kc,Z D (N K) G,Z L (N Q) P,Z S (N X) W] 26;obtain⟨a0,a1,a2,a3,a4,a5,a6⟩:=k.k7;have d:=Zh g;have z:=ry.o w1 g;go_enter Tryz.func95,Tryz.ntmps95;go_wp2_with fail;refine z.mono ?_;rintro e w2 ⟨v,rfl,hv,ag⟩;obtain⟨p,rfl,i,l⟩:=vH (Fq:=Fq) hv (by have:=y.o;omega) (λb hb=>Az.o b (Qz d.o.size hb));have m:=Zh (az d.o ag);have n:=allDifferent_any p.ad p.cap p.xs w2 l.at' l.cap;have Dr:=Zh l;rw[i]at n;have HX:=Zh i
  cases hap:dB WN with
  |true =>
   have j:Y3 (R=WN):=by show _=_;rw[u.o,Zt hap]
   rw[hap]at n;obtain⟨ia,ic,ix⟩:=p;simp only at i;subst i;simp only[ae.val]at*;go_wp2_with fail;refine n.mono ?_;rintro e w3 ⟨rfl,a⟩;have a:=a.symm;subst a;go_wp2;go_ret;exact⟨⟨ia,ic,ix⟩,rfl,j.o.symm,Dr.o,m.o⟩
  |false =>
   have j:Y3 (R=[]):=by grind
   rw[hap]at n;obtain⟨ia,ic,ix⟩:=p;simp only at i;subst i;simp only[ae.val]at*;go_wp2_with fail;refine n.mono ?_;rintro e w3 ⟨rfl,a⟩;have a:=a.symm;subst a;go_wp2;go_ret;exact⟨eU,rfl,j.o.symm,di.eU _ _,m.o⟩
def TW(q:af)(o:ae)(w:U)(hk:q.keys.At w)(ho:o.At w)(hoc:N o.xs<=o.cap) :
  Cb 230 #[FL q.cells,o.val] w (I J (dO q o.xs)):=by
 cases hg:q.group with
 |false =>
  have i:dO q o.xs=9:=by unfold dO;rw[Zt hg]
  rw[i];generalize o.val=ov;obtain⟨⟨k,sc,l⟩,m,bP,wh,group,⟨n,kc,g⟩,⟨p,r,t⟩,⟨u,v,y⟩,⟨z,A,C⟩⟩:=q;simp only[af.cells,ae.val]at*;subst hg;obtain⟨K,D,a,d⟩:=aL w #[Z k (N l) sc,Z m (N wh) bP,Wl F,Z n (N g) kc,Z p (N t) r,Z u (N y) v,Z z (N C) A] 26;obtain⟨a0,Q,R,a3,a4,a5,S⟩:=d.k7;have b:=Zh a;go_enter Tryz.func230,Tryz.ntmps230;go_wp2;go_ret;exact⟨rfl,b.o⟩
 |true =>
  have i:dO q o.xs=if aQ o.xs q.keys.xs=T then 8 else 7:=by unfold dO;rw[ZU (by rw[hg];decide)]
  rw[i];have P:Y3 (∀x,Bw w x->Cb 164 #[Z o.ad (N o.xs) o.cap,Z q.keys.ad (N q.keys.xs) q.keys.cap] x (Wl (aQ o.xs q.keys.xs))):=λx L=>lI o.ad q.keys.ad o.cap q.keys.cap o.xs q.keys.xs x (Qo L ho) (Qo L hk) hoc;obtain⟨X,ic,W⟩:=o;obtain⟨⟨k,sc,l⟩,m,bP,wh,group,⟨n,kc,g⟩,⟨p,r,t⟩,⟨u,v,y⟩,⟨z,A,C⟩⟩:=q;simp only[af.cells,ae.val]at*;subst hg;obtain⟨K,D,a,d⟩:=aL w #[Z k (N l) sc,Z m (N wh) bP,Wl T,Z n (N g) kc,Z p (N t) r,Z u (N y) v,Z z (N C) A] 26;obtain⟨a0,Q,R,a3,a4,a5,S⟩:=d.k7;have b:=Zh a;have j:=P.o K a;generalize aQ W g=B at*;go_enter Tryz.func230,Tryz.ntmps230;go_wp2_with fail;refine j.mono ?_;rintro e w2 ⟨rfl,G⟩;have f:=Zh (az b.o G)
  cases B with
  |true =>
   go_wp2;go_ret;exact⟨rfl,f.o⟩
  |false =>
   go_wp2;go_ret;exact⟨rfl,f.o⟩
def asP(A:Nat->Nat):Option (Nat × dH)->X3
 |none=>Y xn
 |some x=>Y (O (aD (A x.1) 0))
def plz:eD:=([],xn)
structure qJ(Tq Tp:TypeId)(Fq:Nat->Prop)(w:U)(gb:Nat)(A:Nat->Nat)(os:List ae)(g:List eD):Prop where
 blk:∃c,GB w gb Tp c/\∀i,i<N g->c[i*2]? = O (E os i eU).val/\c[i*2+1]? = O (asP A (E g i plz).2)
 ord:∀i,i<N g->(E os i eU).xs=(E g i plz).1/\di Fq w (E os i eU)/\(E os i eU).xs.length<=1000
 tree:∀p∈g,∀x,p.2=O x->bG Tq Fq w (A x.1) x.2
 inj:∀p∈g,∀p'∈g,∀x x',p.2=O x->p'.2=O x'->A x.1=A x'.1->x.1=x'.1
def qJ.mono{Tq Tp:TypeId}{Fq G:Nat->Prop}{w:U}{gb:Nat}{A:Nat->Nat}{os:List ae}{g:List eD}(h:qJ Tq Tp Fq w gb A os g)(hs:∀b,b<M (H w)->Fq b->G b):qJ Tq Tp G w gb A os g:=
 ⟨h.blk,λi a=>⟨(h.ord i a).1,(h.ord i a).2.1.mono hs,(h.ord i a).2.2⟩,λp d x e=>(h.tree p d x e).mono hs,h.inj⟩
theorem qJ.cells{A:Nat->Nat}{g:List eD}(h:qJ Tq Tp Fq w gb A os g)(hi:i<N g) :
  UK w (aD gb (i*2))=O (E os i eU).val/\UK w (aD gb (i*2+1))=O (asP A (E g i plz).2):=by obtain⟨c,b,a⟩:=h.blk;exact⟨(b.cell _).trans (a i hi).1,(b.cell _).trans (a i hi).2⟩
def bG.blk{a:Nat}(h:bG Tq Fq w a t):∃c,w.heap[a]? = O (EP c Tq (0,0)):=by obtain⟨p,n,bo,bc,bs,b,_⟩:=h.get;exact⟨_,b.gb⟩
theorem TY{β:Type}(f:β->α->β)(b:β)(l:List α)(d:α)(hk:k<N l):(l.take (k+1)).foldl f b=f ((l.take k).foldl f b) (E l k d):=by grind [jT]
def Tryz.ac0:(V.info? 105).map (λi=>i.size)=O 14:=by kernel_rfl
theorem Tryz.infoTree:∃j,V.info? 105=O j/\j.size≠0:=by
 have h:=Tryz.ac0
 cases hi:V.info? 105 with
 |none=>rw[hi]at h;cases h
 |some j =>
  grind
theorem OP(ao:Option Addr)(cap:Nat)(xs:List Nat)(v:Nat)(w:U)(hx:dA w ao xs)(hv:∃c t,w.heap[v]? = O (EP c t (0,0)))(hxs:∀x∈xs,∃c t,w.heap[x]? = O (EP c t (0,0))) :
  Calls V 231 #[Z ao (N xs) cap,Y (O (aD v 0))] w λe L=>∃r:Int,e=FN (I J r)/\Y3 (0<=r↔v∈xs)/\L = w:=by
 have P:=hx.1;have C:Y3 (∀x∈xs,(binOp .eql 95 (Y (O (aD v 0))) (Y (O (aD x 0)))).run V w=.ok (Wl (decide (v=x))) w):=λx f=>by
  obtain⟨j,y,p⟩:=Tryz.infoTree;by_cases e:v=x
  .subst e;rw[run_eql_ptr_same w (aD v 0) Tryz.underlying95 y];simp
  .obtain⟨Q,R,q⟩:=hv;obtain⟨S,W,u⟩:=hxs x f;rw[run_eql_ptr_other w Tryz.underlying95 y p (by intro h;injection h with h;exact e h) q u];simp[e]
 have D:=Zh hx;clear hx hv hxs;go_enter Tryz.func231,Tryz.ntmps231;go_wp2;go_loop [8] (λi=>∃k:Nat,k<=N xs/\i=I J k/\Y3 (v ∉ xs.take k)) (λi=>N xs-(intOf i).toNat)
 case atStart=>exact⟨0,QW _,rfl,by show _ ∉ _;simp⟩
 case round=>
  obtain⟨k,X,rfl,K⟩:=hrel;by_cases d:k<N xs
  .obtain⟨b,off,rfl,z⟩:=dA.get D.o d;have G:=z k d;have f:E xs k 0∈xs:=Xl d;have l:=C.o _ f;obtain⟨A,B⟩:=aJ (jT xs 0 d) f;obtain⟨x,g⟩:=eY (E xs k 0)
   rw[<-g]at G l A B;clear z f g;by_cases a:v=x
   .have m:=Zh a;rw[Qx a]at l;clear a;go_wp2;go_ret;exact⟨k,rfl,⟨λ_=>by rw[m.o];exact B.o,λ_=>by omega⟩,rfl⟩
   .have m:Y3 _:=a;rw[Qw a]at l;clear a;go_wp2;go_round
    case rel=>exact⟨k+1,by omega,by go_num,by
     show _ ∉ _;rw[A.o,Zi,Zg];rintro (h|h)
     .exact K.o h
     .exact m.o h⟩
    case measure=>simp[intOf];omega
  .have e:N xs=k:=by omega
   have n:Y3 (v ∉ xs):=by grind
   go_wp2;go_ret;exact⟨-1,rfl,⟨λh=>absurd h (by omega),λh=>absurd h n.o⟩,rfl⟩
def FT(ao:Option Addr)(cap:Nat)(xs:List Nat)(v:Nat)(w:U)(hx:dA w ao xs)(hv:∃c t,w.heap[v]? = O (EP c t (0,0)))(hxs:∀x∈xs,∃c t,w.heap[x]? = O (EP c t (0,0))) :
  Ce 214 #[Z ao (N xs) cap,Y (O (aD v 0))] w (Wl (decide (v∈xs))):=by have h:=OP ao cap xs v w hx hv hxs;clear hx hv hxs;go_enter Tryz.func214,Tryz.ntmps214;go_wp2_with fail;refine h.mono ?_;clear h;rintro e b ⟨r,rfl,a,rfl⟩;go_wp2;go_ret;exact⟨Qd (by rw[ZV,ZW,ZW];exact a.o),rfl⟩
theorem En(n:ai):N n.list=7:=rfl
theorem yQ:∀(l:List ai) (i j:Nat) (v:X3) (n:ai),i<N l->j<7->n.list=(E l i nz).list.set j v->(l.flatMap ai.list).set (i*7+j) v=(l.set i n).flatMap ai.list
 |[],i,_,_,_,h,_,_=>absurd h (by simp)
 |a::l,0,j,v,n,_,hj,e=>by rw[Xr,Qc,Xr,Nat.zero_mul,ZK,List.set_append_left _ _ (by grind [En]),e];rfl
 |a::l,i+1,j,v,n,h,hj,e=>by rw[Xr,Qb,Xr,List.set_append_right _ _ (by grind [En]),En,show (i+1)*7+j-7=i*7+j by omega,yQ l i j v n (by simpa using h) hj e]
theorem Gl(h:w.ownsRow base e sz v n xs)(hg:v.ownBlock=O g){j:Nat}(hj:j<n*sz)(u:X3):(UC w (aD g j) u).ownsRow base e sz v n (xs.set j u):=by
 refine⟨by rw[List.length_set];exact h.1,?_⟩;rcases h.2 with⟨rfl,_⟩|⟨g',cap,cur,rfl,hb,hh,hn,hm,hs,ht⟩
 .cases hg
 .cases hg
  refine .inr ⟨g',cap,cur.setIfInBounds j u,rfl,hb,GB.set (show GB w g' e cur from hh) j u,hn,hm,by simp_all,?_⟩;grind [List.take_set]
def I4(h:w.ownsRow base e sz v n xs)(hg:v.ownBlock=O g)(j:Nat):w.frozen? (aD g j)=false:=by
 rcases h.2 with⟨rfl,_⟩|⟨g',cap,cur,rfl,hb,hh,_⟩
 .cases hg
 .cases hg
  exact GB.frozen (show GB w g' e cur from hh) j
def OL{w:U}{g j:Nat}(u:X3):Kept (λb=>b≠g) w (UC w (aD g j) u):=Q8 _ _ _ (λh=>h rfl)
def TN(h:w.ownsRow base e 7 v m (ns.flatMap ai.list))(hi:i<N ns) :
  ∃g cap,v=Z (O (aD g 0)) m cap/\base<=g/\g<M (H w)/\∀j u,j<7->(E ns i nz).list[j]? = O u->UK w (aD g (i*7+j))=O u:=by
 have d:N ns=m:=by have:=h.1;rw[mF ai.list 7 (λ_=>rfl)]at this;omega
 rcases jo h with⟨_,h1⟩|⟨g,cap,hv,hb,hlt,hc⟩
 .omega
 .exact⟨g,cap,hv,hb,hlt,λj u a b=>hc _ _ (by rw[Xq ai.list 7 (λ_=>rfl) nz ns i j hi a];exact b)⟩
structure iY(Tn:TypeId)(Fq:Nat->Prop)(base:Nat)(w:U)(v:X3)(nv:List ai):Prop where
 own:w.ownsRow base Tn 7 v (N nv) (nv.flatMap ai.list)
 blk:∀g,v.ownBlock=O g->Fq g
 lists:∀n∈nv,n.cl.At w/\sM Fq n.cl.ad (N n.cl.xs)/\n.co.At w/\sM Fq n.co.ad (N n.co.xs)/\N n.co.xs<=n.co.cap
def iY.bC{Tn:TypeId}{Fq:Nat->Prop}{base:Nat}{w w':U}{v:X3}{nv:List ai}(h:iY Tn Fq base w v nv)(hk:Kept Fq w w'):iY Tn Fq base w' v nv:=
 ⟨Za h.own hk h.blk,h.blk,λn g=>by
  obtain⟨d,a,e,b,f⟩:=h.lists n g;exact⟨Jc d hk a,a,Jc e hk b,b,f⟩⟩
def iY.below{Tn:TypeId}{Fq:Nat->Prop}{base:Nat}{w w':U}{v:X3}{nv:List ai}(h:iY Tn Fq base w v nv)(hb:Bw w w'):iY Tn Fq base w' v nv:=h.bC (QB hb λ_ h _=>h)
def iY.mono{Tn:TypeId}{Fq G:Nat->Prop}{base:Nat}{w:U}{v:X3}{nv:List ai}(h:iY Tn Fq base w v nv)(hs:∀b,b<M (H w)->Fq b->G b):iY Tn G base w v nv:=
 ⟨h.own,λg e=>hs g (Zb h.own e).2 (h.blk g e),λn k=>by
  obtain⟨a,f,d,i,j⟩:=h.lists n k;exact⟨a,sM.mono a.2 f hs,d,sM.mono d.2 i hs,j⟩⟩
def kM(Tn:TypeId)(Fq:Nat->Prop)(w:U)(ns:List ai)(e:Ending)(w':U):Prop:=
 ∃v nv,e=FN v/\nv.map fJ=ns/\iY Tn Fq (M (H w)) w' v nv/\Bw w w'
def lg(a:Nat)(ns:List ai)(k:Nat):List ai:=(ns.take k).map (bU a)++ns.drop k
theorem TP(a:Nat)(ns:List ai)(k:Nat):N (lg a ns k)=N ns:=by grind [lg]
theorem TQ(a:Nat)(hk:k<N ns):E (lg a ns k) k nz=E ns k nz:=by unfold lg;grind
theorem OM(a:Nat)(hk:k<N ns):lg a ns (k+1)=(lg a ns k).set k (bU a (E ns k nz)):=by
 unfold lg;have b:N ((ns.take k).map (bU a))=k:=by grind
 have d:ns.drop k=E ns k nz::ns.drop (k+1):=by simp_all
 rw[List.set_append_right _ _ (by omega),b,Nat.sub_self,d,Qc,jT ns nz hk,Qi,ZE];rfl
def agw(l:List α)(d:α)(hk:k<N l):l.set k (E l k d)=l:=by simp_all
def OO(a:Nat)(ns:List ai):lg a ns 0=ns:=by rfl
theorem TU(a:Nat)(ns:List ai):lg a ns (N ns)=ns.map (bU a):=by grind [lg]
def Ji:=@OL
def YS(ao:Option Addr)(n cap:Nat)(pick:Int)(w:U)(h0:0<n)(hn:n<4611686018427387904) :
  Ce 70 #[Z ao n cap,I J pick] w (I J (xV n pick)):=by
 have e:-(n:Int)<pick.tmod n/\pick.tmod n<n:=⟨Int.lt_tmod_of_pos pick (by omega),Int.tmod_lt_of_pos pick (by omega)⟩;have d:Y3 (xV n pick=(pick.tmod n+n).tmod n):=rfl;generalize xV n pick=R at*;obtain⟨m,i⟩:=eX (pick.tmod n);rw[i]at e d;have j:wrap64 (m+n)=m+n:=by unfold wrap64;omega
 obtain⟨b,a⟩:∃b,(m+(n:Int)).tmod n=b:=⟨_,rfl⟩;rw[a]at d;have f:-(n:Int)<b/\b<n:=by rw[<-a];exact⟨Int.lt_tmod_of_pos _ (by omega),Int.tmod_lt_of_pos _ (by omega)⟩
 have g:wrap64 m=m:=by unfold wrap64;omega
 clear e f;go_enter Tryz.func70,Tryz.ntmps70;go_wp2;go_ret;exact⟨Qe (by rw[d.o]),rfl⟩
theorem qJ.put{A:Nat->Nat}{g:List eD}(h:qJ Tq Tp Fq w gb A os g)(hF:¬Fq gb)(hi:i<N g)(ht:bG Tq Fq w (A n) t)(hn:∀p∈g,∀x,p.2=O x->A x.1=A n->x.1=n) :
  qJ Tq Tp Fq (UC w (aD gb (i*2+1)) (Y (O (aD (A n) 0)))) gb A os (g.set i ((E g i plz).1,O (n,t))):=by
 obtain⟨c,D,y⟩:=h.blk;have r:Kept Fq w (UC w (aD gb (i*2+1)) (Y (O (aD (A n) 0)))):=Q8 _ _ _ hF;have u:∀j,E (g.set i ((E g i plz).1,O (n,t))) j plz=if i=j then ((E g i plz).1,O (n,t)) else E g j plz:=λj=>by grind
 have a:∀p∈g.set i ((E g i plz).1,O (n,t)),∀x,p.2=O x->x=(n,t)∨∃f∈g,f.2=O x:=λp l x m=>by grind
 have v:i*2+1<c.size:=by grind
 refine⟨⟨c.setIfInBounds (i*2+1) (Y (O (aD (A n) 0))),D.set _ _,λj k=>?_⟩,λj k=>?_,λp l x m=>?_,λp l f b x G m d e=>?_⟩
 .rw[List.length_set]at k;rw[Jj,Jj,ZU (by omega),u j];refine⟨(y j k).1,?_⟩;by_cases e:i=j
  .subst e;rw[Zt rfl,Zt v,Zt rfl];rfl
  grind
 .rw[List.length_set]at k;have:=h.ord j k;refine⟨?_,this.2.1.bC r,this.2.2⟩
  grind
 .rcases a p l x m with rfl|⟨f,b,d⟩
  .exact ht.bC r
  .exact(h.tree f b x d).bC r
 .rcases a p l x m with rfl|⟨q,K,z⟩
  .grind
  .rcases a f b G d with rfl|⟨q',B,C⟩
   .grind
   grind [qJ.inj]
theorem qJ.frozen{Tq Tp:TypeId}{Fq:Nat->Prop}{w:U}{gb:Nat}{A:Nat->Nat}{os:List ae}{g:List eD}(h:qJ Tq Tp Fq w gb A os g)(j:Nat):w.frozen? (aD gb j)=false:=by obtain⟨c,a,_⟩:=h.blk;exact a.frozen j
theorem acX(xs:List X3)(o:Nat)(u:X3)(h:o<N xs):(xs.set o u).take (o+1)=xs.take o++[u]:=by rw[List.set_eq_take_append_cons_drop,Zt h];grind
def acY(xs:List X3)(o k:Nat)(u:X3)(h:o<k):(xs.set o u).drop k=xs.drop k:=List.drop_set_of_lt h
theorem iN{base:Nat}{e:TypeId}{sz:Nat}{v:X3}{n g:Nat}(hg:v.ownBlock=O g):∀(vs:List X3) (o:Nat) {w:U} {xs:List X3},w.ownsRow base e sz v n xs->o+N vs<=n*sz->
  (w.setCells g o vs).ownsRow base e sz v n (xs.take o++vs++xs.drop (o+N vs))
 |[],o,w,xs,h,_=>by simpa [World.setCells] using h
 |u::r,o,w,xs,h,hl=>by
  have d:=h.1;simp only[QO]at hl;have a:=iN hg r (o+1) (Gl h hg (j:=o) (by omega) u) (by omega);rw[acX xs o u (by omega),acY xs o _ u (by omega)]at a;have b:xs.take o++u::r++xs.drop (o+N (u::r))=xs.take o++[u]++r++xs.drop (o+1+N r):=by grind
  rw[b];exact a
theorem Kept.setCells{s:Nat->Prop}{g:Nat}(hg:¬s g):∀(vs:List X3) (o:Nat) (W:U),Kept s W (W.setCells g o vs)
 |[],_,W=>Qy _ W
 |u::r,o,W=>(Q8 W (aD g o) u hg).trans (Kept.setCells hg r (o+1) (UC W (aD g o) u))
theorem agx(h:w.ownsRow base e sz (Z (O (aD g 0)) n cap) n xs)(hc:n+1<=cap):∃ys,N ys=sz/\w.ownsRow base e sz (Z (O (aD g 0)) (n+1) cap) (n+1) (xs++ys):=by
 rcases h.2 with⟨h0,_⟩|⟨g',cap',cur,e1,hb,hh,hn,hm,hs,ht⟩
 .cases h0
 injection e1 with e1 _ e2;injection e1 with e1;injection e1 with e1;subst e1 e2;have f:(n+1)*sz<=cap*sz:=Nat.mul_le_mul_right _ hc;have b:(n+1)*sz=n*sz+sz:=Nat.succ_mul n sz;have d:N cur.toList=cap*sz:=by omega
 have a:N ((cur.toList.drop (n*sz)).take sz)=sz:=by grind
 refine⟨(cur.toList.drop (n*sz)).take sz,a,⟨by grind,.inr ⟨g,cap,cur,rfl,hb,hh,hc,hm,hs,?_⟩⟩⟩;rw[b,List.take_add,ht]
theorem ajR(h:w.ownsRow base e sz (Z (O (aD g 0)) n cap) n xs)(hm:m<=n):w.ownsRow base e sz (Z (O (aD g 0)) m cap) m (xs.take (m*sz)):=by
 rcases h.2 with⟨h0,_⟩|⟨g',cap',cur,e1,hb,hh,hn,hmx,hs,ht⟩
 .cases h0
 injection e1 with e1 _ e2;injection e1 with e1;injection e1 with e1;subst e1 e2;have a:m*sz<=n*sz:=Nat.mul_le_mul_right _ hm;refine⟨by rw[Xu,h.1];omega,.inr ⟨g,cap,cur,rfl,hb,hh,by omega,hmx,hs,?_⟩⟩;grind
def mR(h:w.ownsRow base e sz (Z (O (aD g 0)) n cap) n xs):n<=cap/\cap<=maxLen/\(∀j u,xs[j]? = O u->UK w (aD g j)=O u)/\(∀j,j<cap*sz->(UK w (aD g j)).isSome=T)/\(∀j,w.frozen? (aD g j)=F)/\w.shape? g=O (e,cap*sz)/\g<M (H w):=by
 rcases h.2 with⟨h0,_⟩|⟨g',cap',cur,e1,hb,hh,hn,hmx,hs,ht⟩
 .cases h0
 injection e1 with e1 _ e2;injection e1 with e1;injection e1 with e1;subst e1 e2;have b:=(QI.1 hh).1;refine⟨hn,hmx,λj u a=>?_,λj a=>?_,λj=>?_,?_,b⟩
 .rw[<-ht,Xt]at a;split at a
  .simp only[World.cell?,hh]
   simp_all
  .cases a
 .simp only[World.cell?,hh]
  simp_all
 .simp[World.frozen?,hh]
 .simp[World.shape?,hh,hs]
def yR(w:U)(dT sT ty elem:TypeId)(size b o dLen dCap:Nat)(a:Addr)(sLen sCap:Nat)(cs:List X3)
  (hu:P.underlying dT=O (.slice elem)) (hs:(P.info? elem).map (·.size)=O size) (hn:N cs=Nat.min sLen dLen*size)
  (hsrc:∀j v,cs[j]? = O v->w.cell? (a.add j)=O v) (hc:∀j,j<N cs->(UK w (aD b (o+j))).isSome=T) (hf:∀j,j<N cs->w.frozen? (aD b (o+j))=F) (h1:∀v∈cs,v.oneCell' = T) :
  (Builtin.copy_ #[dT,sT] ty #[Z (O (aD b o)) dLen dCap,Z (O a) sLen sCap]).run P w=.ok (goInt (Nat.min sLen dLen)) (w.setCells b o cs):=by
 have e:=run_loadCells_list (P:=P) w a cs hsrc;have d:=run_storeCells_cells (P:=P) b o cs 0 w (by omega) (by omega) h1
 cases hq:P.info? elem with
 |none=>simp_all
 |some i =>
  have f:i.size=size:=by simp_all
  simp[Builtin.copy_,run_underlying hu,Builtin.lenOf,Builtin.firstCells,sizeOf,typeInfo,hq,f,<-hn,e,d]
def Yh(w:U)(t e ty:TypeId)(z:X3)(ht:P.underlying t=O (.slice e))(hv:∀w,(zeroValue e).run P w=.ok z w)(zs:List X3)(hz:(Builtin.zeroCells z.cells 1).toList=zs)(h1:∀v∈zs,v.oneCell' = T)(b o c:Nat)
  (hc:∀j,j<N zs->(UK w (aD b (o+j))).isSome=T) (hf:∀j,j<N zs->w.frozen? (aD b (o+j))=F) :
  (Builtin.clear_ #[t] ty #[.slice (O (aD b o)) 1 c]).run P w=.ok (.tuple #[]) (w.setCells b o zs):=by have a:=run_storeCells_cells (P:=P) b o zs 0 w (by omega) (by omega) h1;simp only[Xb]at a;simp[Builtin.clear_,run_underlying ht,hv,hz,a]
section
open Go.Maps Go.WideMaps
def Sk(v:X3):Option (DataW X3 × List MemPlace):=O (.held v,[])
def Ko(κ:Int):Prop:=(Lit.int J κ).wf=T
structure Av(P:Program)(ti tE:TypeId)(base bm n:Nat)(bE:Int->List ae)(val:Int->X3)(W:U):Prop where
 map:∃D:DataW X3,W.ownsMap P ti Sk bm n D/\∀κ,Ko κ->D.atKey (.int J κ) (.held (.slice xn 0 0))=.held (val κ)
 own:∀κ,W.ownsRow base tE 1 (val κ) (N (bE κ)) ((bE κ).map ae.val)
 apart:∀κ κ',κ≠κ'->∀b,(val κ).ownBlock=O b->(val κ').ownBlock≠O b
 low:bm<base
def gD(bm:Nat)(val:Int->X3)(b:Nat):Prop:=b=bm∨∃κ,(val κ).ownBlock=O b
def Av.fresh(P:Program)(ti tE:TypeId)(w:U):Av P ti tE (M (H w)+1) (M (H w)) 0 (λ_=>[]) (λ_=>Z xn 0 0) (w.alloc (.map #[] 0)):=
 ⟨⟨_,World.ownsMap_made w P ti _,λ_ _=>rfl⟩,λ_=>Zk _ _ _ _,λ_ _ _ b h=>(by cases h),Nat.lt_succ_self _⟩
def Av.keep(h:Av P ti tE base bm n bE val A){s:Nat->Prop}(hk:Kept s A B)(hs:∀b,gD bm val b->s b):Av P ti tE base bm n bE val B:=by obtain⟨⟨D,k,i⟩,d,j,e⟩:=h;have f:=k.lt;obtain⟨l,a,m,p⟩:=k;exact⟨⟨D,⟨l,a,(hk.block _ f (hs _ (.inl rfl))).trans m,p⟩,i⟩,λκ=>Za (d κ) hk (λg q=>hs g (.inr ⟨κ,q⟩)),j,e⟩
def Av.look{t:TypeId}(h:Av P ti tE base bm n bE val W)(hi:P.underlying ti=O (.int J))(ht:P.underlying t=O (.map ti e))
  (hz:(zeroValue e).run P W=.ok (Z xn 0 0) W) {κ:Int} (hw:Ko κ):(Instr.lookup t (.map (O bm)) (I J κ) F).run P W=.ok (val κ) W:=by
 obtain⟨D,f,d⟩:=h.map;obtain⟨v,ps,b,a⟩:=f.lookup (int_keyed hi) ht hz (zd:=.held (.slice xn 0 0)) (zp:=[]) rfl (keyOf_int_mk hi hw);rw[d κ hw]at a;have e:v=val κ:=by unfold Sk at a;injection a with a;injection a with a _;injection a
 rw[<-e];exact b
def acn(W:U)(base bm n:Nat)(bE:Int->List ae)(val:Int->X3)(h:Av V 3 22 base bm n bE val W)(hn:n<=1000000)(hlow:base<=M (H W))(κ0:Int)(hw:Ko κ0)(hsl:N (bE κ0)<=1000000)(x:ae)(ty:TypeId) :
  ∃l t A,(Builtin.append_ #[52,52] ty #[val κ0,Z (O (aD (M (H W)) 0)) 1 1]).run V (W.alloc (EP #[x.val] 22))=.ok l t/\(Instr.mapUpdate 282 (.map (O bm)) (I J κ0) l).run V t=.ok () A/\
   Av V 3 22 base bm (n+1) (λκ=>if κ=κ0 then bE κ++[x] else bE κ) (λκ=>if κ=κ0 then l else val κ) A/\(∃a m c,l = Z a m c)/\Kept (λb=>¬gD bm val b) (W.alloc (EP #[x.val] 22)) t/\Kept (λb=>¬gD bm val b) t A/\
   ∀b,gD bm (λκ=>if κ=κ0 then l else val κ) b->gD bm val b∨(M (H W)<b/\b<M (H A)):=by
 obtain⟨i0,hi,X,aa,af⟩:=Zj Tryz.Bn;have Q:Av V 3 22 base bm n bE val (W.alloc (EP #[x.val] 22)):=h.keep (s:=λ_=>True) (QE _ _) (λ_ _=>trivial);have R:M (H (W.alloc (EP #[x.val] 22)))=M (H W)+1:=by simp
 obtain⟨l,t,hr,i,k,_,ag⟩:=Xo (P:=V) (W.alloc (EP #[x.val] 22)) base 52 ty 22 i0 (.slice xn 0 0) 1 24 Tryz.underlying52 hi X aa af rfl (by decide) (val κ0) (N (bE κ0)) ((bE κ0).map ae.val) (Q.own κ0)
  (aD (M (H W)) 0) 1 1 [x.val] rfl (cell_one_new W x.val 22) (by simp[ae.val,Value.oneCell']) (by unfold maxLen;omega) (by omega) (by omega)
 have p:∀κ b,(val κ).ownBlock=O b->b<M (H W)/\base<=b:=λκ b f=>by have:=Zb (h.own κ) f;omega
 have S:O bm≠(val κ0).ownBlock:=λe=>by have:=(p κ0 bm e.symm).2;have:=h.low;omega
 obtain⟨D,hD,ah⟩:=Q.map;have B:=hD.kept k S;obtain⟨A,ai,aj,ak⟩:=B.update (int_keyed Tryz.underlying3) Tryz.underlying282 (by unfold maxLen;omega) (keyOf_int_mk Tryz.underlying3 hw) (d:=.held l) (ps:=[]) rfl;have C:Kept (λb=>(val κ0).ownBlock≠O b) (W.alloc (EP #[x.val] 22)) t:=Q9 k (λr e h=>h e);have q:Kept (λb=>b≠bm) t A:=Q9 ak (λr e h=>by cases e;exact h rfl);have au:=q.size;have y:∀b,l.ownBlock=O b->(val κ0).ownBlock=O b∨b=M (H W)+1:=λb f=>by
  rcases ag with e|e
  .rw[e]at f;exact .inl f
  .rw[e,R]at f;injection f with f;exact .inr f.symm
 have G:∀b,l.ownBlock=O b->b<M (H t)/\base<=b:=λb f=>by have:=Zb i f;omega
 refine⟨l,t,A,hr,ai,⟨⟨_,aj,λκ hκ=>?_⟩,λκ=>?_,λκ K v b f j=>?_,h.low⟩,?_,C.mono (λb _ h h'=>h (.inr ⟨κ0,h'⟩)),q.mono (λb _ h e=>h (.inl e)),λb f=>?_⟩
 .by_cases e:κ=κ0
  .rw[Zt e,e,atKey_put_same B.isMap ((int_keyed Tryz.underlying3).key (keyOf_int_mk Tryz.underlying3 hw))]
  .rw[ZU e,atKey_put_other (λh=>e (by injection h)),ah κ hκ]
 .by_cases e:κ=κ0
  .simp only[Zt e];rw[Zn,Qi,e];exact Za i q (λg L=>by have:=(G g L).2;have:=h.low;omega)
  .simp only[ZU e];refine Za (Za (Q.own κ) C (λg L z=>?_)) q (λg L=>by have:=(p κ g L).2;have:=h.low;omega);exact h.apart κ κ0 e g L z
 .by_cases e:κ=κ0
  .have z:K≠κ0:=λh=>v (e.trans h.symm)
   simp only[Zt e]at f;simp only[ZU z]at j;rcases y b f with u|u
   .exact h.apart κ0 K (λh=>z h.symm) b u j
   .have:=(p K b j).1;omega
  .simp only[ZU e]at f;by_cases z:K = κ0
   .simp only[Zt z]at j;rcases y b j with u|u
    .exact h.apart κ κ0 e b f u
    .have:=(p κ b f).1;omega
   .simp only[ZU z]at j;exact h.apart κ K v b f j
 .rcases i.2 with⟨e,_⟩|⟨g,cap,cur,e,_⟩
  .exact⟨_,_,_,e⟩
  .exact⟨_,_,_,e⟩
 .rcases f with f|⟨κ,f⟩
  .exact .inl (.inl f)
  .by_cases e:κ=κ0
   .simp only[Zt e]at f;rcases y b f with u|u
    .exact .inl (.inr ⟨κ0,u⟩)
    .have:=(G b f).1;exact .inr ⟨by omega,by omega⟩
   .simp only[ZU e]at f;exact .inl (.inr ⟨κ,f⟩)
end
def kg(e:TypeId)(lo:Nat):El ae (List Int) where
 enc:=ae.val
 At x W:=(Lu e).At x W/\∀b,aj.blk x=O b->lo<=b
 blk:=aj.blk
 key:=ae.xs
 keep:=λh hs hb=>⟨(Lu e).keep h.1 hs hb,h.2⟩
 zw:=λh hb=>aj.zw h.1.1 hb
def qi(P:Program)(e:TypeId)(v:X3)(rows:List (List Int))(w:U):Prop:=
 ∃g lb,v=.func (.func g) #[] lb/\(∀args w,(callFunc g args).run P w=.ok (.enter g args) w)/\Seq (kg e (M (H w))) P g lb rows w
def Seq.renew{lb:Array X3}{w0 w1:U}(h:Seq (kg e (M (H w0))) P g lb rows w0)(hb:Bw w0 w1):Seq (kg e (M (H w1))) P g lb rows w1:=by
 intro l n W o j k p q r;refine h l n W o (hb.trans (j.mono hb.size)) (λb a=>⟨Qz hb.size (k b a).1,(k b a).2⟩) p (λpre x t u v y m d z=>?_) r;have f:∀b,aj.blk x=O b->M (H W)<=b:=λb a=>by
  rcases (d b a).2 with i|i
  .have:=m.2 b a;omega
  .exact i
 exact q pre x t u v y ⟨m.1,λb a=>Qz j.size (f b a)⟩ (λb a=>⟨(d b a).1,.inr (f b a)⟩) z
def qi.later(h:qi P e v rows w)(hb:Bw w w'):qi P e v rows w':=by obtain⟨g,lb,a,b,d⟩:=h;exact⟨g,lb,a,b,d.renew hb⟩
