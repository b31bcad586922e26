import Derived.Test.YtibkmjbegbjgcaaGreatDoorS03
set_option linter.all false
set_option maxRecDepth 100000
set_option maxHeartbeats 0
namespace Go.Proofs.Zz
open Go.RowKit Go.Shelf Go.Proofs.Tryz
open List renaming length->N,getD->E
open Go.Value renaming slice->Z,int->I,pointer->Y,bool->Qr,agg->Qu
open Go.Proofs.Tryz renaming prog->V
open Option renaming some->O
open Go.IntKind renaming i64->J
open Bool renaming false->F,true->T
open Go renaming World->U
open Go.RowKit renaming Hid->Qn
open Go.World renaming cell?->Qp
open Go.Ending renaming returned->Qv
variable {a:Int} {b base k n n' sz:Nat} {xs xs':Qy Value} {ts:Qy af} {cs:Qy aA} {l:Qx} {e t:TypeId} {v v':Value} {W:U}
def sliceAt4(a:Addr)(x:U)(c:Int)(h0:0<=c)(h4:c<=4) :
  (Instr.sliceAt 46 (Y (O a)) none (O (.int J c)) none).run V x=.ok (.slice (O a) c.toNat 4) x:=by have b:V.arrayLen 46=4:=Qd;have d:V.elem 46=3:=Qd;rw[run_sliceAt_array_h x 46 a (by rw[b,d];exact underlying46) J c h0 (by rw[b];omega),b,d];simp[slicedAt,Addr.add]
def isTable_any(t:af)(w:U) :
  Cb 67 #[Qu t.vals] w (Qr (dK t)):=by
 have b:=@LJ t;have d:=@GR t;have k:=@GU t;have e:=λm r=>af.aaW w t 48 m r;generalize dK t=B at*;unfold af.vals;by_cases v:t.aL<1∨4<t.aL∨t.rows<0∨1000000<t.rows
 .have f:=Zh ((b v).symm);clear b d k e;go_enter func67,ntmps67;go_wp2
  all_goals
   go_ret;exact⟨QY f.o,cZ _ _⟩
 .have z:1<=t.aL:=X
  have A:t.aL<=4:=X;have C:0<=t.rows:=X;have D:t.rows<=1000000:=X;obtain⟨g,n,L⟩:=jX d k e;clear b d k v e;have G:=λ(a:Addr) (x:U)=>sliceAt4 a x t.aL X X;go_enter func67,ntmps67;go_wp2;go_loop [28] (λi=>∃m:Nat,m<=t.aL.toNat/\i=I J m/\Qn (∀j,j<m->1<=t.kd j/\t.kd j<=1000000)) (λi=>t.aL.toNat-(intOf i).toNat)
  case atStart=>exact⟨0,ZB _,rfl,λj p=>absurd p X⟩
  case round=>
   obtain⟨m,r,rfl,u⟩:=hrel;by_cases y:m<t.aL.toNat
   .have l:(m:Int)<t.aL:=X
    have K:=L.o m X;by_cases P:t.kd m<1
    .have f:=Zh ((g.o m y X).symm);go_wp2;go_ret;exact⟨QY f.o,cZ _ _⟩
    .by_cases Q:1000000<t.kd m
     .have f:=Zh ((g.o m y X).symm);go_wp2;go_ret;exact⟨QY f.o,cZ _ _⟩
     .go_wp2;go_round
      case rel=>
       refine⟨m+1,X,Qe,λj p=>?_⟩;by_cases q:j=m
       .subst q;omega
       .exact u.o j X
      case measure=>exact XK
   .have l:¬(m:Int)<t.aL:=X
    have f:=Zh ((n.o z A C D (λj p=>u.o j X)).symm);go_wp2;go_ret;exact⟨QY f.o,cZ _ _⟩
def isCat1_any(t:af)(w:U) :
  Cb 66 #[Qu t.vals] w (Qr (!dK t)):=by have a:=λx=>isTable_any t x;generalize dK t=B at*;unfold af.vals at*;go_enter func66,ntmps66;go_wp2_with (go_at_call 67;refine(a _).mono ?_;rintro e w' ⟨rfl,b⟩);go_ret;exact⟨QY rfl,az (cZ _ _) b⟩
def indexT_any(ao:PN)(cap:Nat)(ts:Qy af)(w:U)(hx:aQ w ao ts) :
  Calls V 111 #[Z ao (N ts) cap,.func (.func 66) #[] #[]] w λe w'=>∃r,e=Qv (I J r)/\foundAt r (ts.any λt=>!dK t)/\Bw w w':=by
 have L:=hx.1;go_enter func111,ntmps111;go_wp2;go_loopw [8] (λi wr=>∃k:Nat,k<=N ts/\i=I J k/\Qn (∀j,j<k->(!dK (E ts j tz))=F)/\Bw w wr) (λi _=>N ts-(intOf i).toNat)
 case atStart=>exact⟨0,ZB _,rfl,λj l=>absurd l X,Q9 _ _⟩
 case round=>
  obtain⟨k,P,rfl,q,g⟩:=hrel;by_cases d:k<N ts
  .obtain⟨b,y,rfl,A,B,C,D,G,K⟩:=hx.2 k d;obtain⟨Q,R,S,W,e4,e5⟩:=PS g A B C D G K;have f:Qn ((!dK (E ts k tz))=T->(ts.any λt=>!dK t)=T):=λh=>EG (z:=tz) d h
   have p:=isCat1_any (E ts k tz) wr;unfold af.vals at p;generalize n:E ts k tz=t at*;have u:=Zh n;go_wp2_with fail;refine p.mono ?_;rintro e w2 ⟨rfl,a⟩;cases hB:dK t
   .rw[hB]at f;go_wp2;go_ret;exact⟨_,QZ rfl,⟨X,by rw[f.o rfl];simp⟩,az g a⟩
   .have v:=Zh hB;go_wp2;go_roundw
    case rel=>
     refine⟨k+1,X,Qe,λj l=>?_,az g a⟩;by_cases m:j=k
     .subst m;rw[u.o,v.o];rfl
     .exact q.o j X
    case measure=>exact XK
  .have f:Qn ((ts.any λt=>!dK t)=F):=any_none (z:=tz) (λj l=>q.o j X);go_wp2;go_ret;exact⟨_,QZ rfl,⟨X,by rw[f.o];rfl⟩,g⟩
def containsT_any(ao:PN)(cap:Nat)(ts:Qy af)(w:U)(hx:aQ w ao ts) :
  Cb 65 #[Z ao (N ts) cap,.func (.func 66) #[] #[]] w (Qr (ts.any λt=>!dK t)):=by have b:=indexT_any ao cap ts w hx;go_enter func65,ntmps65;go_wp2_with fail;refine b.mono ?_;rintro e g ⟨r,rfl,f,a⟩;have d:=Zh f.2;go_wp2;go_ret;exact⟨QY d.o,a⟩
def isCatalogP_any(ao:PN)(cap:Nat)(ts:Qy af)(w:U)(hx:aQ w ao ts) :
  Cb 36 #[Z ao (N ts) cap] w (Qr (fD ts)):=by
 have i:=hx.1;by_cases b:N ts<1
 .go_enter func36,ntmps36;go_wp2;go_ret;exact⟨QY (LM b),Q9 _ _⟩
 by_cases d:8<N ts
 .go_enter func36,ntmps36;go_wp2;go_ret;exact⟨QY (PR d),Q9 _ _⟩
 have f:=containsT_any ao cap ts w hx;have g:=Zh (Vm b d);generalize (ts.any λt=>!dK t)=Yq at*;go_enter func36,ntmps36;go_wp2_with fail;refine f.mono ?_;rintro e j ⟨rfl,a⟩;go_wp2;go_ret;exact⟨QY g.o,a⟩
def isBelow_any(n b:Int)(w:U) :
  Ce 115 #[I J n,I J b] w (Qr (xS n b)):=by
 by_cases a:0<=n
 .go_enter func115,ntmps115;go_wp2;go_ret;exact⟨QY (by simp[xS];omega),rfl⟩
 .go_enter func115,ntmps115;go_wp2;go_ret;exact⟨QY (by simp[xS];omega),rfl⟩
def isNumber_any(n:Int)(w:U) :
  Ce 130 #[I J n] w (Qr (decide (-1000<=n)&&decide (n<=1000))):=by
 by_cases a:-1000<=n
 .go_enter func130,ntmps130;go_wp2;go_ret;exact⟨QY Qj,rfl⟩
 .go_enter func130,ntmps130;go_wp2;go_ret;exact⟨QY Qj,rfl⟩
def allBelow1_any(n b:Int)(p o:Nat)(w:U)(hp:Qp w (aD p o)=O (I J b)) :
  Ce 114 #[I J n,Y (O (aD p o))] w (Qr (!xS n b)):=by have a:=isBelow_any n b w;generalize xS n b=Yq at*;go_enter func114,ntmps114;go_wp2_with fail;refine a.mono ?_;clear a;rintro e d ⟨rfl,rfl⟩;go_wp2;go_ret;exact⟨QY rfl,rfl⟩
def indexI_any(ao:PN)(cap:Nat)(xs:Qx)(bd:Int)(p o:Nat)(w:U)(hx:IntsAt w ao xs)(hp:Qp w (aD p o)=O (I J bd)) :
  Calls V 166 #[Z ao (N xs) cap,.func (.func 114) #[] #[Y (O (aD p o))]] w λe w'=>∃r,e=Qv (I J r)/\foundAt r (xs.any λx=>!xS x bd)/\w' = w:=by
 have A:=hx.1;go_enter func166,ntmps166;go_wp2;go_loop [8] (λi=>∃k:Nat,k<=N xs/\i=I J k/\Qn (∀j,j<k->(!xS (E xs j 0) bd)=F)) (λi=>N xs-(intOf i).toNat)
 case atStart=>exact⟨0,ZB _,rfl,λj g=>absurd g X⟩
 case round=>
  obtain⟨k,B,rfl,q⟩:=hrel;by_cases a:k<N xs
  .obtain⟨b,y,rfl,t⟩:=hx.get a;have u:=t k a;have f:Qn ((!xS (E xs k 0) bd)=T->(xs.any λx=>!xS x bd)=T):=λh=>EG (z:=0) a h
   have m:=allBelow1_any (E xs k 0) bd p o w hp;have n:Qn (E xs k 0=E xs k 0):=rfl;generalize d:E xs k 0=x at*;have n:=Zh d;clear d t hx hp;go_wp2_with fail;refine m.mono ?_;clear m;rintro e C ⟨rfl,rfl⟩;cases hB:xS x bd
   .rw[hB]at f;go_wp2;go_ret;exact⟨_,QZ rfl,⟨X,by rw[f.o rfl];simp⟩,rfl⟩
   .have v:=Zh hB;clear hB;go_wp2;go_round
    case rel=>
     refine⟨k+1,X,Qe,λj g=>?_⟩;by_cases l:j=k
     .subst l;rw[n.o,v.o];rfl
     .exact q.o j X
    case measure=>exact XK
  .have f:Qn ((xs.any λx=>!xS x bd)=F):=any_none (z:=0) (λj g=>q.o j X);go_wp2;go_ret;exact⟨_,QZ rfl,⟨X,by rw[f.o];rfl⟩,rfl⟩
def containsI_any(ao:PN)(cap:Nat)(xs:Qx)(bd:Int)(p o:Nat)(w:U)(hx:IntsAt w ao xs)(hp:Qp w (aD p o)=O (I J bd)) :
  Ce 113 #[Z ao (N xs) cap,.func (.func 114) #[] #[Y (O (aD p o))]] w (Qr (xs.any λx=>!xS x bd)):=by have a:=indexI_any ao cap xs bd p o w hx hp;go_enter func113,ntmps113;go_wp2_with fail;refine a.mono ?_;clear a;rintro e f ⟨r,rfl,b,rfl⟩;have d:=Zh b.2;clear b;go_wp2;go_ret;exact⟨QY d.o,rfl⟩
def allBelow_any(ao:PN)(cap:Nat)(xs:Qx)(bd:Int)(w:U)(hx:IntsAt w ao xs) :
  Cb 70 #[Z ao (N xs) cap,I J bd] w (Qr (bP xs bd)):=by have a:=containsI_any ao cap xs bd w.heap.size 0 (w.alloc (.cells #[I J bd] 3)) (hx.below (cZ _ _)) Qa;have b:=Zh (Vn xs bd);generalize (xs.any λx=>!xS x bd)=Yq at*;go_enter func70,ntmps70;go_wp2_with fail;refine a.mono ?_;clear a;rintro e d ⟨rfl,rfl⟩;go_wp2;go_ret;exact⟨QY b.o,cZ _ _⟩
def eqB{b:Int}(h:a=b):(a==b)=true:=by simpa using h
def neB{b:Int}(h:¬a=b):(a==b)=false:=by simpa using h
def indexQ_any(ao:PN)(cap:Nat)(xs:Qx)(v:Int)(w:U)(hx:IntsAt w ao xs) :
  Calls V 167 #[Z ao (N xs) cap,I J v] w λe w'=>∃r,e=Qv (I J r)/\foundAt r (xs.any λx=>decide (v=x))/\w' = w:=by
 have B:=hx.1;go_enter func167,ntmps167;go_wp2;go_loop [8] (λi=>∃k:Nat,k<=N xs/\i=I J k/\Qn (∀j,j<k->decide (v=E xs j 0)=F)) (λi=>N xs-(intOf i).toNat)
 case atStart=>exact⟨0,ZB _,rfl,λj m=>absurd m X⟩
 case round=>
  obtain⟨k,C,rfl,p⟩:=hrel;by_cases a:k<N xs
  .obtain⟨b,A,rfl,q⟩:=hx.get a;have t:=q k a;have g:Qn (decide (v=E xs k 0)=T->(xs.any λx=>decide (v=x))=T):=λh=>EG (z:=0) a h
   generalize f:E xs k 0=x at*;have u:=Zh f;clear f q hx;by_cases d:v=x
   .have y:=eqB d;have l:=Zh d;clear d;go_wp2;go_ret;exact⟨_,QZ rfl,⟨X,by rw[g.o (Zi l.o)];simp⟩,rfl⟩
   .have y:=neB d;have l:=Zh d;clear d;go_wp2;go_round
    case rel=>
     refine⟨k+1,X,Qe,λj m=>?_⟩;by_cases n:j=k
     .subst n;rw[u.o];exact Zr l.o
     .exact p.o j X
    case measure=>exact XK
  .have g:Qn ((xs.any λx=>decide (v=x))=F):=any_none (z:=0) (λj m=>p.o j X);go_wp2;go_ret;exact⟨_,QZ rfl,⟨X,by rw[g.o];rfl⟩,rfl⟩
def containsQ_any(ao:PN)(cap:Nat)(xs:Qx)(v:Int)(w:U)(hx:IntsAt w ao xs) :
  Ce 117 #[Z ao (N xs) cap,I J v] w (Qr (xs.any λx=>decide (v=x))):=by have a:=indexQ_any ao cap xs v w hx;go_enter func117,ntmps117;go_wp2_with fail;refine a.mono ?_;clear a;rintro e f ⟨r,rfl,b,rfl⟩;have d:=Zh b.2;clear b;go_wp2;go_ret;exact⟨QY d.o,rfl⟩
theorem IntsAt.front{w:U}{ao:PN}{xs:Qx}(h:IntsAt w ao xs)(hk:k<=N xs):IntsAt w ao (xs.take k):=by
 have d:N (xs.take k)=k:=by rw[XT];omega
 refine⟨Qk h.1,λi g=>?_⟩;obtain⟨b,a,e,f⟩:=h.2 i X;grind
theorem allDifferent_any(ao:PN)(cap:Nat)(xs:Qx)(w:U)(hx:IntsAt w ao xs)(hcap:N xs<=cap) :
  Ce 75 #[Z ao (N xs) cap] w (Qr (di xs)):=by
 have P:=hx.1;go_enter func75,ntmps75;go_wp2;go_loop [7] (λi=>∃k:Nat,k<=N xs/\i=I J k/\Qn (∀i,i<k->∀j,j<i->E xs i 0≠E xs j 0)) (λi=>N xs-(intOf i).toNat)
 case atStart=>exact⟨0,ZB _,rfl,λi A=>absurd A X⟩
 case round=>
  obtain⟨k,K,rfl,y⟩:=hrel;by_cases d:k<N xs
  .have f:=IntsAt.front hx K;obtain⟨b,r,rfl,z⟩:=hx.get d;have B:=z k d;have m:=containsQ_any (O (aD b r)) cap (xs.take k) (E xs k 0) w f;have a:N (xs.take k)=k:=by rw[XT];omega
   rw[a]at m;have C:Qn (((xs.take k).any λx=>decide (E xs k 0=x))=T->∃j,j<k/\E xs k 0=E xs j 0):=λh=>by rw[List.any_eq_true]at h;obtain⟨x,hx,hd⟩:=h;obtain⟨j,t,rfl⟩:=Zc hx;have n:j<k:=X;have:=Jj hd;refine⟨j,n,this.trans ?_⟩;grind
   have D:Qn (((xs.take k).any λx=>decide (E xs k 0=x))=F->∀j,j<k->E xs k 0≠E xs j 0):=λh j t l=>by rw[List.any_eq_false]at h;have p:j<N xs:=X;refine h ((xs.take k)[j]'(X)) (XO _) (Zi ?_);rw[l];simp[List.getD,p]
   generalize L:((xs.take k).any λx=>decide (E xs k 0=x))=Yq at*;clear L a f z hx;generalize g:E xs k 0=x at*;have v:=Zh g;clear g;go_wp2_with fail;refine m.mono ?_;clear m;rintro e Q ⟨rfl,rfl⟩;cases Yq
   .go_wp2;go_round
    case rel=>
     refine⟨k+1,X,Qe,λi A=>?_⟩;by_cases u:i=k
     .subst u;rw[v.o];exact D.o (by trivial)
     .exact y.o i X
    case measure=>exact XK
   .obtain⟨j,t,l⟩:=C.o rfl;have G:=Zh (LH d t (by rw[v.o];exact l));clear l;go_wp2;go_ret;exact⟨QY G.o,rfl⟩
  .go_wp2;go_ret;have q:k=N xs:=X
   subst q;exact⟨QY (GQ y.o),rfl⟩
def condFits_any(c:aA)(n:Int)(w:U) :
  Cb 116 #[c.val,I J n] w (Qr (ek c n)):=by
 have b:=@Vp c n;have d:=@ui c n;have f:=@xU c n;have p:=@G9 c n;have g:=@Ha c n;obtain⟨z,q,left,a,right⟩:=c;unfold aA.val;simp only at b d f p g;generalize ek ⟨z,q,left,a,right⟩ n=B at*;have m:=λx=>isBelow_any left n x;have k:=λx=>isBelow_any right n x;have u:=λx=>isNumber_any right x;generalize xS right n=Yq,(decide (-1000<=right)&&decide (right<=1000))=Zq at*;cases hL:xS left n
 .have i:=Zh (b hL);rw[hL]at m;clear b d f p g k u hL;go_enter func116,ntmps116;go_wp2_with fail;refine(m _).mono ?_;clear m;rintro e r ⟨rfl,rfl⟩;go_wp2;go_ret;exact⟨QY i.o,cZ _ _⟩
 .rw[hL]at m;by_cases j:q=0∨q=1
  .cases a
   .have i:=Zh (f hL j rfl);clear b d f p g u hL;rcases j with j|j
    all_goals
     subst j;go_enter func116,ntmps116;go_wp2_with fail;refine(m _).mono ?_;rintro e r ⟨rfl,rfl⟩;go_wp2_with fail;refine(k _).mono ?_;rintro e A ⟨rfl,rfl⟩;go_wp2;go_ret;exact⟨QY i.o,cZ _ _⟩
   .have i:=Zh (d hL j rfl);clear b d f p g k hL;rcases j with j|j
    all_goals
     subst j;go_enter func116,ntmps116;go_wp2_with fail;refine(m _).mono ?_;rintro e r ⟨rfl,rfl⟩;go_wp2_with fail;refine(u _).mono ?_;rintro e A ⟨rfl,rfl⟩;go_wp2;go_ret;exact⟨QY i.o,cZ _ _⟩
  .by_cases v:q=2
   .have i:Qn ((!a&&decide (right=0))=B):=p hL v;clear b d f p g k u hL j;subst v
    cases a
    .by_cases t:right=0
     .have l:=Zh (show T=B by have:=i.o;simpa [t] using this);have y:=eqB t;clear i t;go_enter func116,ntmps116;go_wp2_with fail;refine(m _).mono ?_;rintro e r ⟨rfl,rfl⟩;go_wp2;go_ret;exact⟨QY l.o,cZ _ _⟩
     .have l:=Zh (show F=B by have:=i.o;simpa [t] using this);have y:=neB t;clear i t;go_enter func116,ntmps116;go_wp2_with fail;refine(m _).mono ?_;rintro e r ⟨rfl,rfl⟩;go_wp2;go_ret;exact⟨QY l.o,cZ _ _⟩
    .have l:=Zh (show F=B by have:=i.o;simpa using this);go_enter func116,ntmps116;go_wp2_with fail;refine(m _).mono ?_;rintro e r ⟨rfl,rfl⟩;go_wp2;go_ret;exact⟨QY l.o,cZ _ _⟩
   .have i:=Zh (g X X v);have C:(q==0)=false:=neB X;have D:(q==1)=false:=neB X;have G:=neB v;clear b d f p g k u hL j v;go_enter func116,ntmps116;go_wp2_with fail;refine(m _).mono ?_;rintro e r ⟨rfl,rfl⟩;go_wp2;go_ret;exact⟨QY i.o,cZ _ _⟩
def mU:∀(l:Qy Nat) (m:Nat),m<=bQ->l.foldl fA m<=bQ
 |[],_,h=>h
 |a::l,m,_=>mU l _ (xV m a)
theorem VD{src:Qx}(hc:fD ts=T)(ha:bP src (N ts)=T)(mq:∀c∈bX cs,0<=c/\c<aN ts src):1<=iV ts src cs/\iV ts src cs<=1000000:=by
 unfold iV;split
 .omega
 rename_i h1;split
 .omega
 split
 .omega
 rename_i o2;have e:N cs=1:=by omega
 have a:∀x∈aK (E cs 0 cz),x∈bX cs:=by
  match cs,e with
  |[c],_=>intro x f;simpa [bX] using f
 have b:=mq (E cs 0 cz).left (a _ (by unfold aK;split <;> simp));have g:=vM hc ha b.1 b.2;split
 .omega
 .rename_i hcn
  have d:=mq (E cs 0 cz).right (a _ (by unfold aK;grind));have i:=vM hc ha d.1 d.2;omega
def Fh(ts:Qy af)(q:ae)(hk:k<N cs):bD (dZ ts q (bX (cs.take (k+1))))=bD (dZ ts q (bX (cs.take k)))|||bD (dZ ts q (aK (E cs k cz))):=by rw[CR hk];unfold dZ;rw[Q5,yR]
def Fj{c:Int}(h:c∈bX (cs.take k)):c∈bX cs:=by obtain⟨x,a,b⟩:=X5.1 h;exact X5.2 ⟨x,List.mem_of_mem_take a,b⟩
def Fp(f:ay)(ts:Qy af)(q:ae)(ca:PN)(cc:Nat)(cs:Qy aA)(w:U)(ok:Ok ts q)(hf:fK w f.ca (gz ts q))(hx:bE w ca cs)(mq:gB ts q (bX cs)) :
  Cb 49 #[Qu (f.cells ts q),Qu #[Z ca (N cs) cc]] w (I .u64 ((bD (dn ts q.src.xs cs):Nat):Int)):=by
 obtain⟨v0,v1,v2,v3,v4,v5,v6,v7,v8,v9,aj,ak,au,bZ,-⟩:=XY f ts q;obtain⟨w1,av,ax,z⟩:=bC w ((f.cells ts q)) 82;obtain⟨w2,aM,aB,aC⟩:=bC w1 #[Z ca (N cs) cc] 70;have y:=aB;have n:=az ax y;have lu:=z.of (y.block _ z.lt);have tT:=aC;have Ay:=tT.at 0;obtain⟨iZ,jJ,kT,jY,jZ,kU,kV,qG,qE,qF,jB,lK,jC⟩:=lu.k13 (by rw[bZ];rfl);have C:=Zh ((hx.below n).2);have vB:Qn (∀x d l k,k<N cs->Bw w2 x->IntsAt x d (aK (E cs k cz))->Calls V 80 #[Qu (f.cells ts q),Z d (N (aK (E cs k cz))) l] x λe w'=>e=Qv (I .u64 ((bD (dZ ts q (aK (E cs k cz))):Nat):Int))/\Bw x w'):=
  λx d l k v hb h=>nY f ts q d l _ x ok (hf.below (az n hb)) h (λc A=>mq c (X5.2 ⟨_,Xy v,A⟩))
 have D:Qn (∀x c,_):=λx c=>qw c x;have G:Qn (∀k,k<N cs->bD (dZ ts q (bX (cs.take (k+1))))=bD (dZ ts q (bX (cs.take k)))|||bD (dZ ts q (aK (E cs k cz)))):=λk v=>Fh ts q v;have DY:Qn (∀k,bD (dZ ts q (bX (cs.take k)))<18446744073709551616):=λk=>(uz ok (λc A=>mq c (Fj A))).lt ok.small;have oI:Qn (∀k,k<N cs->bD (dZ ts q (aK (E cs k cz)))<18446744073709551616):=λk v=>(uz ok (λc A=>mq c (X5.2 ⟨_,Xy v,A⟩))).lt ok.small;have vR:Qn (bD (dZ ts q (bX (cs.take (N cs))))=bD (dn ts q.src.xs cs)):=by show _=_;rw[ZJ];rfl
 have L:Qn (bD (dZ ts q (bX (cs.take 0)))=0):=rfl;have aL:=hx.1;have HC:=Zh n;obtain⟨u,g⟩:=eY (λk=>bD (dZ ts q (bX (cs.take k))):Nat->Nat);obtain⟨B,r⟩:=eY (λc=>bD (dZ ts q (aK c)):aA->Nat);have zG:Qn (∀k,k<N cs->u (k+1)=u k|||B (E cs k cz)):=by rw[g,r];exact G.o
 have P:Qn (∀k,u k<18446744073709551616):=by rw[g];exact DY.o
 have Q:Qn (∀k,k<N cs->B (E cs k cz)<18446744073709551616):=by rw[r];exact oI.o
 have S:Qn (u (N cs)=bD (dn ts q.src.xs cs)):=by rw[g];exact vR.o
 have W:Qn (u 0=0):=by rw[g];exact L.o
 have Rx:Qn (∀x d l k,k<N cs->Bw w2 x->IntsAt x d (aK (E cs k cz))->Cb 80 #[Qu #[v0,v1,v2,v3,v4,v5,v6,v7,v8,v9,aj,ak,au],Z d (N (aK (E cs k cz))) l] x (I .u64 ((B (E cs k cz):Nat):Int))):=by rw[r,<-bZ];exact vB.o
 rw[bZ]at av ⊢;generalize bD (dn ts q.src.xs cs)=R at*;go_enter func49,ntmps49;go_wp2;go_loopw [5,11] (λsv iv wr=>∃k:Nat,k<=N cs/\iv=I J k/\(∃s:Nat,sv=I .u64 (s:Int)/\Qn (s=u k))/\Bw w2 wr) (λ_ iv _=>N cs-(intOf iv).toNat)
 case atStart=>exact⟨0,ZB _,rfl,⟨0,rfl,W.o.symm⟩,Q9 _ _⟩
 case round=>
  obtain⟨k,v,rfl,⟨s,rfl,hs⟩,t⟩:=hrel;by_cases j:k<N cs
  .obtain⟨cb,co,rfl,c0,c1,c2,c3,c4⟩:=C.o k j;obtain⟨d0,d1,d2,d3,d4⟩:=jW t c0 c1 c2 c3 c4;have HT:=Zh (zG.o k j);have aa:s<18446744073709551616:=by rw[hs.o];exact P.o k
   have ag:=Q.o k j;have ah:Qn (∀x d l,_->_->_):=λx d l hb h=>Rx.o x d l k j hb h;rw[<-hs.o]at HT;generalize E cs k cz=c at*;have O8:=λx=>D.o x c;generalize B c=m,aK c=CC at*;obtain⟨wb,aN,aD,aF⟩:=bC wr #[Qr c.not,I J c.op,I J c.left,Qr c.const,I J c.right] 66;obtain⟨b0,b1,b2,b3,b4⟩:=aF.k5;have p:=az t aD;obtain⟨j0,j1,j2,j3,j4,j5,j6,j7⟩:=kS p iZ jJ kT jY jZ kU kV qG;obtain⟨j8,j9,aO,aP,aQ⟩:=jW p qE qF jB lK jC;have jE:=Zh p;obtain⟨aR,aT,aG,aU,aV⟩:=c;unfold aA.val at*;simp only at*;go_wp2;refine wH wb λa=>?_;refine wA3 0 a ?_;refine wR 3 λK i=>?_;go_simp;refine XX (O8 _) ?_;rintro e w3 ⟨b,rfl,aH,aI⟩;refine oT i a aI λa=>?_;refine wR 4 λK i=>?_;go_simp;refine XX (ah.o _ _ _ (az jE.o a) aH) ?_;rintro e w4 ⟨rfl,aJ⟩;refine oT i a aJ λa=>?_;refine wR 5 λK i=>?_;go_simp;refine oA i a λa=>?_;refine wR 6 λK i=>?_;go_simp;refine XX (jh w4.heap.size s m _ Qa Qa aa ag) ?_;rintro e w5 ⟨rfl,rfl⟩;refine i.o _ _ a λa=>?_;refine wR 7 λK i=>?_;go_simp;refine i.o _ _ a λa=>?_;refine wD ?_;try simp only[pU]
   have ai:=Zh (az jE.o a);go_wp2;go_roundw
   case rel=>exact⟨k+1,X,Qe,⟨s|||m,rfl,HT.o.symm⟩,ai.o⟩
   case measure=>exact XK
  .obtain rfl:k=N cs:=X
   obtain⟨HV,HB⟩:=aS (hs.o.trans S.o) (az HC.o t);go_wp2;go_ret;exact⟨QZ (by rw[HV.o]),HB.o⟩
def jw(ts:Qy af)(q:ae)(l:Qx):Nat:=(l.map λc=>(jF ts q.src.xs c).toNat).foldl max 0
def yX(ts:Qy af)(q:ae)(hk:k<N l):jw ts q (l.take (k+1))=max (jw ts q (l.take k)) (jF ts q.src.xs (E l k 0)).toNat:=by
 have e:E l k 0=l[k]:=by simp[List.getD,hk]
 unfold jw;rw[Q4 hk,Q5,ZM,e];rfl
theorem MO(ts:Qy af)(q:ae){cs:Qy aA}(h1:¬1<N cs)(h0:0<N cs)(hn:(E cs 0 cz).not=F)(h2:(E cs 0 cz).op≠1)(h3:(E cs 0 cz).op≠2):iV ts q.src.xs cs=jw ts q (aK (E cs 0 cz)):=by unfold iV jw aK;grind
def Ry{q:ae}(ok:Ok ts q)(h:gB ts q l)(k:Nat):jw ts q (l.take k)<=1000000:=by
 induction k with
 |zero=>simp[jw]
 |succ k ih =>
  by_cases a:k<N l
  .rw[yX ts q a];obtain⟨b,e⟩:=h _ (Xy a (d:=0));have:=(vM ok.cat ok.src b e).2;omega
  .rw[XQ X];rw[XQ X]at ih;exact ih
theorem MQ(f:ay)(ts:Qy af)(q:ae)(ca:PN)(cc:Nat)(cs:Qy aA)(w:U)(ok:Ok ts q)(hf:fK w f.ca (gz ts q))(hx:bE w ca cs)(h0:0<N cs)(mq:gB ts q (bX cs)) :
  Cb 50 #[Qu (f.cells ts q),Qu #[Z ca (N cs) cc]] w (I .u64 ((iV ts q.src.xs cs:Nat):Int)):=by
 obtain⟨cb,co,rfl,c0,c1,c2,c3,c4⟩:=hx.2 0 h0;have aQ:=hx.1;rw[Nat.zero_mul,XH]at c0 c1 c2 c3 c4;have VQ:gB ts q (aK (E cs 0 cz)):=λc hc=>mq c (X5.2 ⟨_,Xy h0,hc⟩);have i:Qn _:=@MO ts q cs;have l:Qn (iV ts q.src.xs cs=if (N cs)≠1∨(E cs 0 cz).not=T then 2 else if (E cs 0 cz).op=1 then 3 else if (E cs 0 cz).op=2 then 10 else iV ts q.src.xs cs):=by
  show _=_;unfold iV
  repeat' split
  all_goals rfl
 generalize iV ts q.src.xs cs=R,E cs 0 cz=c at*;obtain⟨b,g,left,a,right⟩:=c;simp only at*;obtain⟨w1,aM,ai,aj⟩:=bC w ((f.cells ts q)) 82;obtain⟨D,aN,G,ak⟩:=bC w1 #[Z (O (aD cb co)) (N cs) cc] 70;obtain⟨Q,aO,u,j⟩:=bC D #[Qr b,I J g,I J left,Qr a,I J right] 66;have A:=az ai G;have B:=az A u;have W:=az G u;obtain⟨d0,d1,d2,d3,d4⟩:=jW A c0 c1 c2 c3 c4;have m0:Qp D (aD w1.heap.size 0)=O (Z (O (aD cb co)) (N cs) cc):=ak.cell 0;have aC:=cB u m0;have b0:Qp Q (aD D.heap.size 0)=O (Qr b):=j.cell 0;have b1:Qp Q (aD D.heap.size 1)=O (I J g):=j.cell 1;have b2:Qp Q (aD D.heap.size 2)=O (I J left):=j.cell 2;have b3:Qp Q (aD D.heap.size 3)=O (Qr a):=j.cell 3;have b4:Qp Q (aD D.heap.size 4)=O (I J right):=j.cell 4;have q7:Qp w1 (aD w.heap.size 7)=O (Z f.ca (N (gz ts q)) f.cc):=aj.cell 7;have aa:=cB W q7;have K:Qn _:=B;have L:Qn _:=hf.below B;have aR:=hf.1;have z:=qw ⟨b,g,left,a,right⟩ Q;unfold aA.val at z;simp only at z;have m:Qn (∀k,k<N (aK ⟨b,g,left,a,right⟩)->∃n kd:Nat,E (aK ⟨b,g,left,a,right⟩) k 0=n/\n<N (gz ts q)/\(E (gz ts q) n (0,0)).2=(kd:Int)/\kd=(jF ts q.src.xs (E (aK ⟨b,g,left,a,right⟩) k 0)).toNat/\kd<=1000000):=λk hk=>by obtain⟨h0,h1⟩:=VQ _ (Xy hk (d:=0));have h2:=xZ ok;have h3:=vM ok.cat ok.src h0 h1;refine⟨(E (aK ⟨b,g,left,a,right⟩) k 0).toNat,(jF ts q.src.xs (E (aK ⟨b,g,left,a,right⟩) k 0)).toNat,X,X,?_,rfl,X⟩;have e:(E (gz ts q) (E (aK ⟨b,g,left,a,right⟩) k 0).toNat (0,0)).2=jF ts q.src.xs (E (aK ⟨b,g,left,a,right⟩) k 0):=rfl;rw[e];omega
 have ag:Qn (∀k,k<N (aK ⟨b,g,left,a,right⟩)->jw ts q ((aK ⟨b,g,left,a,right⟩).take (k+1))=max (jw ts q ((aK ⟨b,g,left,a,right⟩).take k)) (jF ts q.src.xs (E (aK ⟨b,g,left,a,right⟩) k 0)).toNat):=λk hk=>yX ts q hk;have ah:Qn (∀k,jw ts q ((aK ⟨b,g,left,a,right⟩).take k)<=1000000):=λk=>Ry ok VQ k;have Li:Qn (jw ts q ((aK ⟨b,g,left,a,right⟩).take (N (aK ⟨b,g,left,a,right⟩)))=jw ts q (aK ⟨b,g,left,a,right⟩)):=by show _=_;rw[ZJ]
 have Rw:Qn (jw ts q ((aK ⟨b,g,left,a,right⟩).take 0)=0):=rfl;have aF:Qn (N (aK ⟨b,g,left,a,right⟩)<=2):=EX _;generalize aK ⟨b,g,left,a,right⟩=CC,f.cells ts q=FC at*;obtain⟨S,r⟩:=eY (λk=>jw ts q (CC.take k):Nat->Nat);have VR:Qn (∀k,k<N CC->S (k+1)=max (S k) (jF ts q.src.xs (E CC k 0)).toNat):=by rw[r];exact ag.o
 have VS:Qn (∀k,S k<=1000000):=by rw[r];exact ah.o
 have P:Qn (S (N CC)=jw ts q CC):=by rw[r];exact Li.o
 have t:Qn (S 0=0):=by rw[r];exact Rw.o
 clear r ag ah Li Rw c0 c1 c2 c3 c4 ai G u A B W aj ak j hf hx mq VQ ok;by_cases h1:1<N cs
 .have p:Qn (R=2):=Qb
  clear l i m VR VS P t L z;go_enter func50,ntmps50;go_wp2;go_ret;exact⟨QZ (by rw[p.o];rfl),K.o⟩
 cases b with
 |true =>
  have p:Qn (R=2):=Qb;clear l i m VR VS P t L z;go_enter func50,ntmps50;go_wp2;go_ret;exact⟨QZ (by rw[p.o];rfl),K.o⟩
 |false =>
  have C:¬(N cs≠1∨F=T):=Qb;by_cases o1:g=1
  .have p:Qn (R=3):=Qb
   subst o1;clear l i m VR VS P t L z C;go_enter func50,ntmps50;go_wp2;go_ret;exact⟨QZ (by rw[p.o];rfl),K.o⟩
  by_cases o2:g=2
  .have p:Qn (R=10):=Qb
   subst o2;clear l i m VR VS P t L z C;go_enter func50,ntmps50;go_wp2;go_ret;exact⟨QZ (by rw[p.o];rfl),K.o⟩
  have p:Qn (R=jw ts q CC):=i.o h1 h0 rfl o1 o2;have aS:(g==1)=false:=by simp[o1]
  have aT:(g==2)=false:=by simp[o2]
  rw[<-P.o]at p;clear l i C o1 o2 P;generalize jF ts q.src.xs=KN,gz ts q=CS at*;go_enter func50,ntmps50;go_wp2_with fail;refine z.mono ?_;clear z aM aN aO;rintro e w4 ⟨xb,rfl,au,v⟩;have aG:=cB v aa;have aH:Qn _:=az K.o v;have aI:Qn (fK w4 f.ca CS):=fK.below v L.o;have aJ:Qn _:=au;have aU:=aF.o;clear v au L K m0 aC b0 b1 b2 b3 b4 q7 aa d0 d1 d2 d3 d4;go_wp2;go_loop [6,30] (λsv iv=>∃k:Nat,k<=N CC/\iv=I J k/\(∃s:Nat,sv=I .u64 (s:Int)/\Qn (s=S k))) (λ_ iv=>N CC-(intOf iv).toNat)
  case atStart=>grind
  case round=>
   obtain⟨k,hk,rfl,⟨s,rfl,hs⟩⟩:=hrel;by_cases y:k<N CC
   .obtain⟨aZ,xo,e,Lg⟩:=Q3 aJ.o y
    cases e;have aL:=Lg k y;obtain⟨n,kd,hn,aP,av,ax,bf⟩:=m.o k y;have HT:Qn _:=VR.o k y;have aV:s<=1000000:=by rw[hs.o];exact VS.o k
    obtain⟨yb,yo,aB,_,y1⟩:=(show fK w4 f.ca CS from aI.o).2 n aP;rw[aB]at aG;rw[hn,ZC]at aL;rw[av]at y1;rw[<-hs.o,<-ax]at HT;clear Lg aB av hs ax hn;generalize KN (E CC k 0)=kk at*;have aW:max (s:Int) (kd:Int)=((max s kd:Nat):Int):=X;have aX:(if (s:Int)<(kd:Int) then (kd:Int) else (s:Int))=((max s kd:Nat):Int):=by split <;> omega
    have aY:(if (kd:Int)<(s:Int) then (s:Int) else (kd:Int))=((max s kd:Nat):Int):=by split <;> omega
    go_wp2;go_round
    case rel=>grind
    case measure=>exact XK
   .obtain rfl:k=N CC:=X
    have Ru:=Zh (by  rw[hs.o,p.o]:s=R)
    clear hs p;go_wp2;go_ret;exact⟨QZ (by rw[Ru.o]),aH.o⟩
def lg(h:W.ownsRow base e sz v n xs)(hb:v.ownBlock=O b):∃a,W.heap[b]? = O (.cells a e (0,0)):=by
 rcases h.2 with⟨rfl,_⟩|⟨g,cap,a,rfl,_,h3,_⟩
 .cases hb
 .cases hb
  simp_all
def mD(ht:e≠t)(h:W.ownsRow base e sz v n xs){c:Array Value}(hg:GB W b t c):v.ownBlock≠O b:=λd=>by obtain⟨a,f⟩:=lg h d;unfold GB at hg;simp_all
def vV(ht:e≠t){base' sz':Nat}(h:W.ownsRow base e sz v n xs)(h':W.ownsRow base' t sz' v' n' xs')(hb:v.ownBlock=O b):v'.ownBlock≠O b:=λa=>by obtain⟨f,i⟩:=lg h hb;obtain⟨d,g⟩:=lg h' a;simp_all
theorem vW{w5:U}{bf:Nat}{tF:TypeId}(ht:e≠tF){cells:Array Value}(hg:GB W bf tF cells)(ho:W.ownsRow base e sz v n xs)(tQ:w5.ownsRow base e sz v' n' xs')(hk:Kept (λb=>v.ownBlock≠O b) W w5)
  (hat:v'.ownBlock=v.ownBlock∨v'.ownBlock=O (W.heap.size+1)) (i:Nat) :
  GB w5 bf tF cells/\GB (w5.setCell (aD bf i) v') bf tF (cells.setIfInBounds i v')/\(w5.setCell (aD bf i) v').ownsRow base e sz v' n' xs'/\Kept (λb=>b≠bf/\v.ownBlock≠O b) W (w5.setCell (aD bf i) v'):=by
 have f:=mD ht ho hg;have a:=hg.keep hk f;have k:=hg.lt;have d:v'.ownBlock≠O bf:=λe=>by grind
 refine⟨a,a.set i v',?_,(hk.mono λ_ _ h=>h.2).trans (Xd _ _ _ (λh=>h.1 rfl))⟩;exact Xf tQ (s:=λb=>b≠bf) (Xd _ _ _ (λh=>h rfl)) (λg j e=>d (by rw[j,e]))
def RF(ts:Qy af)(src:Qx)(k m:Nat):(bT ts src k++((List.range (m+1)).map λm=>(k,(E ts (E src k 0).toNat tz).kd m))).flatMap iL=(bT ts src k++((List.range m).map λm=>(k,(E ts (E src k 0).toNat tz).kd m))).flatMap iL++iL (k,(E ts (E src k 0).toNat tz).kd m):=by rw[ZE,Q5,<-X6,ZF];simp
def lX(ts:Qy af)(src:Qx)(k:Nat):Qy Nat:=(List.range k).map λ(k:Nat)=>qp ts src (k:Int)
theorem IE(ts:Qy af)(src:Qx)(k:Nat):lX ts src (k+1)=lX ts src k++[qp ts src (k:Int)]:=by grind [lX,List.range_succ]
theorem mW(ts:Qy af)(src:Qx)(k:Nat):N (lX ts src k)=k:=by grind [lX]
theorem yf{ts:Qy af}{src:Qx}(hc:fD ts=T)(ha:bP src (N ts)=T)(h:N src<=64):∀k,k<=N src->N (bT ts src k)<=4*k
 |0,_=>by simp[bT]
 |k+1,hk=>by have ih:=yf hc ha h k X;rw[jQ,ZG,ZH,ZI];obtain⟨h0,h1⟩:=vQ ha (k:=k) X;have ht:=vL hc (i:=(E src k 0).toNat) X;unfold dK at ht;grind
