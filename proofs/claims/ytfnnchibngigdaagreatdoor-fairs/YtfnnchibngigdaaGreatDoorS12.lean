import Derived.Test.YtfnnchibngigdaaGreatDoorS05
import Derived.Test.YtfnnchibngigdaaGreatDoorS07
set_option linter.all false
set_option maxRecDepth 100000
set_option maxHeartbeats 0
namespace Go.Proofs.Zz
open Go.RowKit Go.Shelf Go.Proofs.Tryz
open List renaming length->N,getD->E
open Go.Value renaming slice->Z,int->I,bool->Qo,agg->Qr
open Go.Proofs.Tryz renaming prog->V
open Option renaming some->O,none->Qp
open Go.IntKind renaming i64->J
open Bool renaming false->F,true->T
open Go renaming World->U,Value->Qa
open Go.World renaming heap->H,setCell->Ql,cell?->Qm
open _root_.Array renaming size->M
open Go.RowKit renaming Hid->Qk
open Go.Obj renaming cells->Qq
open Go.Ending renaming returned->Qs
variable {ts:Qu af} {a:Act} {G Tq b fuel i lo lo' n tG:Nat} {W W' w wr:U} {xs:KJ} {P:Program} {ops:Array Oper} {Q:Exit->Act->U->Prop} {K:Act->U->Prop} {o p:Oper} {Fq:Fence} {md:Region.Mode} {listed:Array Bool} {S:U->Prop} {t tI tR:TypeId} {c:Array Qa} {r':ai} {v v1 v2:Qa} {t':aS}
theorem vK{q:ae}(h:q.check ts=0):SY ts q/\0<N q.src.xs/\(q.group=F->aP q.ord.xs (N q.ay.xs)=T)/\N q.ord.xs<=4/\aP q.ay.xs (ax ts q.src.xs)=true:=by
 unfold ae.check checkN at h
 cases hc:bQ ts with
 |false=>simp_all
 |true =>
  rw[Zf (by rw[hc];simp)]at h
  cases hf:fw q.src.xs q.kE q.keys.xs q.sums.xs q.ay.xs q.ord.xs with
  |true=>simp_all
  |false =>
   rw[Zf (by rw[hf];simp)]at h;by_cases v:aP q.src.xs (N ts)=T/\0<N q.src.xs/\df q.kE (ax ts q.src.xs)=T/\dE (ax ts q.src.xs) q.group q.keys.xs q.sums.xs q.ay.xs q.ord.xs=T
   .obtain⟨n,p,f,g⟩:=v;unfold fw at hf;rw[Bool.or_eq_false_iff,Ze]at hf;obtain⟨y,z⟩:=hf;have m:N q.kE=N q.wh:=by unfold ae.kE;simp
    have b:∀i,i<N q.wh->(E q.wh i lz).cs∈q.kE:=λi a=>by unfold ae.kE;grind
    unfold df at f;rw[Q4]at f;have d:∀i,i<N q.wh->0<(E q.wh i lz).cs.length/\∀c∈(E q.wh i lz).cs,dn c (ax ts q.src.xs)=true:=λi a=>by have:=f _ (b i a);unfold dD at this;simp_all
    unfold dE at g;simp only[Q3]at g;obtain⟨⟨⟨⟨⟨⟨⟨r,_⟩,_⟩,l⟩,_⟩,_⟩,_⟩,_⟩:=g;refine⟨⟨hc,n,X,X,?_,λi a=>(d i a).1,λi a=>?_⟩,p,λu=>?_,X,r⟩
    .intro i a c k;unfold av at k;rw[Zt]at k;obtain⟨x,t,j⟩:=k;have e:=(d i a).2 x t;unfold dn at e;simp only[Q3,Zd]at e;obtain⟨⟨⟨⟨A,B⟩,C⟩,D⟩,G⟩:=e;unfold au at j
     grind
    .simp_all
    .rw[u]at l;exact l
   simp_all
def eqB{a b:Int}(h:a=b):(a==b)=true:=by simpa using h
def neB{a b:Int}(h:¬a=b):(a==b)=false:=by simpa using h
def indexQ_any(ao:JW)(cap:Nat)(xs:KJ)(v:Int)(w:U)(hx:IntsAt w ao xs) :
  Calls V 112 #[Z ao (N xs) cap,I J v] w λe B=>∃r,e=Qs (I J r)/\foundAt r (xs.any λx=>decide (v=x))/\B = w:=by
 have C:=hx.1;go_enter func112,ntmps112;go_wp2;go_loop [8] (λi=>∃k:Nat,k<=N xs/\i=I J k/\Qk (∀j,j<k->decide (v=E xs j 0)=F)) (λi=>N xs-(intOf i).toNat)
 case atStart=>exact⟨0,ZP _,rfl,λj m=>absurd m X⟩
 case round=>
  obtain⟨k,D,rfl,p⟩:=hrel;by_cases a:k<N xs
  .obtain⟨b,A,rfl,q⟩:=hx.get a;have t:=q k a;have g:Qk (decide (v=E xs k 0)=T->(xs.any λx=>decide (v=x))=T):=λh=>yQ (z:=0) a h
   generalize f:E xs k 0=x at*;have u:=Zh f;clear f q hx;by_cases d:v=x
   .have y:=eqB d;have l:=Zh d;clear d;go_wp2;go_ret;exact⟨_,QW rfl,⟨X,by rw[g.o (Zg l.o)];simp⟩,rfl⟩
   .have y:=neB d;have l:=Zh d;clear d;go_wp2;go_round
    case rel=>
     refine⟨k+1,X,Qf,λj m=>?_⟩;by_cases n:j=k
     .subst n;rw[u.o];exact ZL l.o
     .exact p.o j X
    case measure=>exact Qw
  .have g:Qk ((xs.any λx=>decide (v=x))=F):=any_none (z:=0) (λj m=>p.o j X);go_wp2;go_ret;exact⟨_,QW rfl,⟨X,by rw[g.o];rfl⟩,rfl⟩
def containsQ_any(ao:JW)(cap:Nat)(xs:KJ)(v:Int)(w:U)(hx:IntsAt w ao xs) :
  Ce 99 #[Z ao (N xs) cap,I J v] w (Qo (xs.any λx=>decide (v=x))):=by have a:=indexQ_any ao cap xs v w hx;go_enter func99,ntmps99;go_wp2_with fail;refine a.mono ?_;clear a;rintro e f ⟨r,rfl,b,rfl⟩;have d:=Zh b.2;clear b;go_wp2;go_ret;exact⟨QV d.o,rfl⟩
theorem IntsAt.front{ao:JW}(h:IntsAt w ao xs){k:Nat}(hk:k<=N xs):IntsAt w ao (xs.take k):=by
 have d:N (xs.take k)=k:=by rw[Xu];omega
 refine⟨Qj h.1,λi g=>?_⟩;obtain⟨b,a,e,f⟩:=h.2 i X;grind
theorem allDifferent_any(ao:JW)(cap:Nat)(xs:KJ)(w:U)(hx:IntsAt w ao xs)(hcap:N xs<=cap) :
  Ce 73 #[Z ao (N xs) cap] w (Qo (bG xs)):=by
 have P:=hx.1;go_enter func73,ntmps73;go_wp2;go_loop [7] (λi=>∃k:Nat,k<=N xs/\i=I J k/\Qk (∀i,i<k->∀j,j<i->E xs i 0≠E xs j 0)) (λi=>N xs-(intOf i).toNat)
 case atStart=>exact⟨0,ZP _,rfl,λi A=>absurd A X⟩
 case round=>
  obtain⟨k,K,rfl,y⟩:=hrel;by_cases d:k<N xs
  .have f:=IntsAt.front hx K;obtain⟨b,r,rfl,z⟩:=hx.get d;have B:=z k d;have m:=containsQ_any (O (aD b r)) cap (xs.take k) (E xs k 0) w f;have a:N (xs.take k)=k:=by rw[Xu];omega
   rw[a]at m;have C:Qk (((xs.take k).any λx=>decide (E xs k 0=x))=T->∃j,j<k/\E xs k 0=E xs j 0):=λh=>by rw[List.any_eq_true]at h;obtain⟨x,hx,hd⟩:=h;obtain⟨j,t,rfl⟩:=Q9 hx;have n:j<k:=X;have:=ZZ hd;refine⟨j,n,this.trans ?_⟩;grind
   have D:Qk (((xs.take k).any λx=>decide (E xs k 0=x))=F->∀j,j<k->E xs k 0≠E xs j 0):=λh j t l=>by rw[List.any_eq_false]at h;have p:j<N xs:=X;refine h ((xs.take k)[j]'(X)) (List.getElem_mem _) (Zg ?_);rw[l];simp[List.getD,p]
   generalize L:((xs.take k).any λx=>decide (E xs k 0=x))=Yq at*;clear L a f z hx;generalize g:E xs k 0=x at*;have v:=Zh g;clear g;go_wp2_with fail;refine m.mono ?_;clear m;rintro e Q ⟨rfl,rfl⟩;cases Yq
   .go_wp2;go_round
    case rel=>
     refine⟨k+1,X,Qf,λi A=>?_⟩;by_cases u:i=k
     .subst u;rw[v.o];exact D.o (by trivial)
     .exact y.o i X
    case measure=>exact Qw
   .obtain⟨j,t,l⟩:=C.o rfl;have G:=Zh (uC d t (by rw[v.o];exact l));clear l;go_wp2;go_ret;exact⟨QV G.o,rfl⟩
  .go_wp2;go_ret;have q:k=N xs:=X
   subst q;exact⟨QV (sF y.o),rfl⟩
def condFits_any(c:aF)(n:Int)(w:U) :
  Cb 98 #[c.val,I J n] w (Qo (dn c n)):=by
 have b:=@Jj c n;have d:=@oM c n;have f:=@ru c n;have l:=@zR c n;have m:=@zS c n;obtain⟨z,p,left,a,right⟩:=c;unfold aF.val;simp only at b d f l m;generalize dn ⟨z,p,left,a,right⟩ n=B at*;have k:=λx=>isBelow_any left n x;have j:=λx=>isBelow_any right n x;have t:=λx=>isNumber_any right x;generalize rq right n=Yq,(decide (-1000<=right)&&decide (right<=1000))=Zq at*;cases hL:rq left n
 .have g:=Zh (b hL);rw[hL]at k;clear b d f l m j t hL;go_enter func98,ntmps98;go_wp2_with fail;refine(k _).mono ?_;clear k;rintro e q ⟨rfl,rfl⟩;go_wp2;go_ret;exact⟨QV g.o,bz _ _⟩
 .rw[hL]at k;by_cases i:p=0∨p=1
  .cases a
   .have g:=Zh (f hL i rfl);clear b d f l m t hL;rcases i with i|i
    all_goals
     subst i;go_enter func98,ntmps98;go_wp2_with fail;refine(k _).mono ?_;rintro e q ⟨rfl,rfl⟩;go_wp2_with fail;refine(j _).mono ?_;rintro e A ⟨rfl,rfl⟩;go_wp2;go_ret;exact⟨QV g.o,bz _ _⟩
   .have g:=Zh (d hL i rfl);clear b d f l m j hL;rcases i with i|i
    all_goals
     subst i;go_enter func98,ntmps98;go_wp2_with fail;refine(k _).mono ?_;rintro e q ⟨rfl,rfl⟩;go_wp2_with fail;refine(t _).mono ?_;rintro e A ⟨rfl,rfl⟩;go_wp2;go_ret;exact⟨QV g.o,bz _ _⟩
  .by_cases v:p=2
   .have g:Qk ((!a&&decide (right=0))=B):=l hL v;clear b d f l m j t hL i;subst v
    cases a
    .by_cases r:right=0
     .have u:=Zh (show T=B by have:=g.o;simpa [r] using this);have y:=eqB r;clear g r;go_enter func98,ntmps98;go_wp2_with fail;refine(k _).mono ?_;rintro e q ⟨rfl,rfl⟩;go_wp2;go_ret;exact⟨QV u.o,bz _ _⟩
     .have u:=Zh (show F=B by have:=g.o;simpa [r] using this);have y:=neB r;clear g r;go_enter func98,ntmps98;go_wp2_with fail;refine(k _).mono ?_;rintro e q ⟨rfl,rfl⟩;go_wp2;go_ret;exact⟨QV u.o,bz _ _⟩
    .have u:=Zh (show F=B by have:=g.o;simpa using this);go_enter func98,ntmps98;go_wp2_with fail;refine(k _).mono ?_;rintro e q ⟨rfl,rfl⟩;go_wp2;go_ret;exact⟨QV u.o,bz _ _⟩
   .have g:=Zh (m X X v);have C:(p==0)=false:=neB X;have D:(p==1)=false:=neB X;have G:=neB v;clear b d f l m j t hL i v;go_enter func98,ntmps98;go_wp2_with fail;refine(k _).mono ?_;rintro e q ⟨rfl,rfl⟩;go_wp2;go_ret;exact⟨QV g.o,bz _ _⟩
def isFull1_any(ad:JW)(n cap:Nat)(w:U) :
  Cb 67 #[Qr #[Z ad n cap]] w (Qo (decide (3<n))):=by go_enter func67,ntmps67;go_wp2;go_ret;exact⟨QV (decide_eq_decide.2 X),bz _ _⟩
def indexC_any(ao:JW)(cap:Nat)(ls:Qu aA)(w:U)(hx:bM w ao ls) :
  Calls V 94 #[Z ao (N ls) cap,.func (.func 67) #[] #[]] w λe D=>∃r,e=Qs (I J r)/\foundAt r (ls.any λc=>decide (3<N c.cs))/\Bw w D:=by
 have G:=hx.1;go_enter func94,ntmps94;go_wp2;go_loopw [8] (λi wr=>∃k:Nat,k<=N ls/\i=I J k/\Qk (∀j,j<k->decide (3<(E ls j lz).cs.length)=F)/\Bw w wr) (λi _=>N ls-(intOf i).toNat)
 case atStart=>exact⟨0,ZP _,rfl,λj q=>absurd q X,Q5 _ _⟩
 case round=>
  obtain⟨k,K,rfl,v,l⟩:=hrel;by_cases d:k<N ls
  .obtain⟨b,B,rfl,y⟩:=hx.2.1.get d;have m:=cB l (y k d);unfold aA.val at m;have n:Qk (decide (3<(E ls k lz).cs.length)=T->(ls.any λc=>decide (3<N c.cs))=T):=λh=>yQ (p:=λc:aA=>decide (3<N c.cs)) (z:=lz) d h
   generalize (E ls k lz).ad=ad,(E ls k lz).cap=cp at*;generalize g:(E ls k lz).cs.length=cl at*;have A:=Zh g;have f:=isFull1_any ad cl cp wr;clear g y hx;by_cases t:3<cl
   .rw[Zg t]at f;go_wp2_with fail;refine f.mono ?_;clear f;rintro e C ⟨rfl,a⟩;go_wp2;go_ret;exact⟨_,QW rfl,⟨X,by rw[n.o (Zg t)];simp⟩,ah l a⟩
   .rw[ZL t]at f;go_wp2_with fail;refine f.mono ?_;clear f;rintro e C ⟨rfl,a⟩;go_wp2;go_roundw
    case rel=>
     refine⟨k+1,X,Qf,λj q=>?_,ah l a⟩;by_cases u:j=k
     .subst u;rw[A.o];exact ZL X
     .exact v.o j X
    case measure=>exact Qw
  .have n:Qk ((ls.any λc=>decide (3<N c.cs))=F):=any_none (z:=lz) (λj q=>v.o j X);go_wp2;go_ret;exact⟨_,QW rfl,⟨X,by rw[n.o];rfl⟩,l⟩
def containsC_any(ao:JW)(cap:Nat)(ls:Qu aA)(w:U)(hx:bM w ao ls) :
  Cb 66 #[Z ao (N ls) cap,.func (.func 67) #[] #[]] w (Qo (fH ls (N ls))):=by have a:=indexC_any ao cap ls w hx;rw[Ji]at a;go_enter func66,ntmps66;go_wp2_with fail;refine a.mono ?_;clear a;rintro e g ⟨r,rfl,d,b⟩;have f:=Zh d.2;clear d;go_wp2;go_ret;exact⟨QV f.o,b⟩
def isFull_any(q:ae)(w:U)(hq:bM w q.bF q.wh) :
  Cb 42 #[Qr q.cells] w (Qo (fw q.src.xs q.kE q.keys.xs q.sums.xs q.ay.xs q.ord.xs)):=by
 have k:=Zh q.Ea;generalize fw q.src.xs q.kE q.keys.xs q.sums.xs q.ay.xs q.ord.xs=FB at*;have n:=λo=>containsC_any q.bF q.aG q.wh (w.alloc o) (hq.below (bz _ _));have t:=hq.1;clear hq;obtain⟨a,C,D,f,y,b,g,m,d⟩:=q;simp only at k n t;unfold ae.cells ai.val;simp only;by_cases r:5<N a.xs∨8<N f∨8<N m.xs∨4<N b.xs∨4<N g.xs∨4<N d.xs
 .have u:=Zh (show T=FB by rw[k.o,Zg r,Bool.true_or]);clear n k;have i:(5<N a.xs)∨(¬5<N a.xs/\8<N f)∨(¬5<N a.xs/\¬8<N f/\4<N d.xs)∨(¬5<N a.xs/\¬8<N f/\¬4<N d.xs/\8<N m.xs)∨
   (¬5<N a.xs/\¬8<N f/\¬4<N d.xs/\¬8<N m.xs/\4<N b.xs)∨(¬5<N a.xs/\¬8<N f/\¬4<N d.xs/\¬8<N m.xs/\¬4<N b.xs/\4<N g.xs):=X
  clear r;rcases i with j|⟨j,l⟩|⟨j,l,p⟩|⟨j,l,p,v⟩|⟨j,l,p,v,A⟩|⟨j,l,p,v,A,B⟩
  all_goals
   go_enter func42,ntmps42;go_wp2;go_ret;exact⟨QV u.o,bz _ _⟩
 .have u:=Zh (show fH f (N f)=FB by rw[k.o,ZL r,Bool.false_or]);have j:¬5<N a.xs:=X
  have l:¬8<N f:=X;have p:¬8<N m.xs:=X;have v:¬4<N b.xs:=X;have A:¬4<N g.xs:=X;have B:¬4<N d.xs:=X;clear k r;generalize fH f (N f)=Yq at*;go_enter func42,ntmps42;go_wp2_with fail;refine(n _).mono ?_;clear n;rintro e G ⟨rfl,z⟩;go_wp2;go_ret;exact⟨QV u.o,ah (bz _ _) z⟩
def outWidth_any(q:ae)(w:U)(h1:N q.keys.xs<=1000)(h2:N q.sums.xs<=1000) :
  Cb 72 #[Qr q.cells] w (I J (mf q.group q.keys.xs q.sums.xs q.ay.xs)):=by
 obtain⟨e,g,i,j,a,b,d,k,f⟩:=q;simp only at h1 h2;unfold ae.cells ai.val;cases a
 .go_enter func72,ntmps72;go_wp2;go_ret;exact⟨QW rfl,bz _ _⟩
 .go_enter func72,ntmps72;go_wp2;go_ret;exact⟨QW rfl,bz _ _⟩
def countColumns_any(ao:JW)(cap:Nat)(ts:Qu af)(qD:JW)(iI:Nat)(xs:KJ)(w:U)(hx:aI w ao ts)(hc:bQ ts=T)(hq:IntsAt w qD xs)(h5:N xs<=5)(ha:aP xs (N ts)=T) :
  Ce 69 #[Z ao (N ts) cap,Z qD (N xs) iI] w (I J (ax ts xs)):=by
 obtain⟨d,e⟩:=bV hc ha;clear hc ha;go_enter func69,ntmps69;go_wp2;go_loop [5,10] (λn i=>∃k:Nat,k<=N xs/\i=I J k/\n=I J (ax ts (xs.take k))) (λ_ i=>N xs-(intOf i).toNat)
 case atStart=>exact⟨0,ZP _,rfl,rfl⟩
 case round=>
  obtain⟨k,m,rfl,rfl⟩:=hrel;have g:=ed d.o e.o k m;by_cases a:k<N xs
  .obtain⟨t,u,rfl,f⟩:=hq.get a;have j:=f k a;have q:=gU e.o a;have r:=jS d.o (i:=xs[k].toNat) X;obtain⟨b,p,rfl,v,-⟩:=hx.2 xs[k].toNat X;have l:=Zh (dC ts xs k a);generalize (E ts xs[k].toNat tz).aO=cc,ax ts (xs.take k)=W0 at*;clear f hx hq;go_wp2;go_round
   case rel=>exact⟨k+1,X,Qf,by rw[l.o]⟩
   case measure=>exact Qw
  .go_wp2;go_ret;have:k=N xs:=X
   subst this;simp
def clausesL_bad{ls:Qu aA}{n:Int}{k:Nat}(hk:k<N ls)(h:dD (E ls k lz).cs n=F):F=df (ls.map aA.cs) n:=
 (@pQ ⟨⟨Qp,0,[]⟩,Qp,0,ls,F,⟨Qp,0,[]⟩,⟨Qp,0,[]⟩,⟨Qp,0,[]⟩,⟨Qp,0,[]⟩⟩ n k hk h).symm
def clausesL_good{ls:Qu aA}{n:Int}(h:∀k,k<N ls->dD (E ls k lz).cs n=T):T=df (ls.map aA.cs) n:=
 (@nV ⟨⟨Qp,0,[]⟩,Qp,0,ls,F,⟨Qp,0,[]⟩,⟨Qp,0,[]⟩,⟨Qp,0,[]⟩,⟨Qp,0,[]⟩⟩ n h).symm
def clausesQ_any(ao:JW)(cap:Nat)(ls:Qu aA)(n:Int)(w:U)(hx:bM w ao ls) :
  Cb 70 #[Z ao (N ls) cap,I J n] w (Qo (df (ls.map aA.cs) n)):=by
 have hl:=hx.1;have Ta:Qk _:=@clausesL_bad ls n;have y:Qk _:=@clausesL_good ls n;generalize df (ls.map aA.cs) n=R at*;go_enter func70,ntmps70;go_wp2;go_loopw [11] (λi wr=>∃k:Nat,k<=N ls/\i=I J k/\Qk (∀j,j<k->dD (E ls j lz).cs n=T)/\Bw w wr) (λi _=>N ls-(intOf i).toNat)
 case atStart=>exact⟨0,ZP _,rfl,λj l=>absurd l X,Q5 _ _⟩
 case round=>
  obtain⟨k,hk,rfl,Q,u⟩:=hrel;by_cases d:k<N ls
  .obtain⟨b,aa,rfl,hc⟩:=hx.2.1.get d;have p:=cB u (hc k d);have f:=hx.2.2 k d;have G:Qk (dD (E ls k lz).cs n=F->F=R):=λh=>Ta.o d h
   generalize C:E ls k lz=cl at*;have Bc:=Zh C;obtain⟨ad,cp,cs⟩:=cl;unfold aA.val at p;simp only at p f;have Dn:=f.1;have q:=u.size;by_cases v:N cs=0
   .have r:=Zh (G.o (pR (by simp only;omega)));go_wp2;go_ret;exact⟨QV r.o,u.alloc q _⟩
   .have K:((N cs:Int)==0)=false:=by simpa using v
    have WL:=Zh v;go_wp2;go_loopw [22] (λi z=>∃m:Nat,m<=N cs/\i=I J m/\Qk (∀j,j<m->dn (E cs j cz) n=T)/\Bw w z) (λi _=>N cs-(intOf i).toNat)
    case atStart=>exact⟨0,ZP _,rfl,λj l=>absurd l X,u.alloc q _⟩
    case round=>
     obtain⟨m,hm,rfl,S,a⟩:=hrel;have L:=a.size;by_cases W:m<N cs
     .obtain⟨b2,ae,rfl,c0,c1,c2,c3,c4⟩:=f.2 m W;obtain⟨d0,d1,d2,d3,d4⟩:=gM a c0 c1 c2 c3 c4;have t:=λx=>condFits_any (E cs m cz) n x
      unfold aF.val at t;generalize D:E cs m cz=cc at*;have P:=Zh D;cases hcb:dn cc n
      .rw[hcb]at t;have r:=Zh (G.o (sH W (by rw[P.o];exact hcb)));go_wp2_with fail;refine(t _).mono ?_;rintro e w4 ⟨rfl,g⟩;go_wp2;go_ret;exact⟨QV r.o,ah (a.alloc L _) g⟩
      .rw[hcb]at t;have Rv:=Zh hcb;go_wp2_with fail;refine(t _).mono ?_;rintro e w4 ⟨rfl,g⟩;go_wp2;go_roundw
       case rel=>
        refine⟨m+1,X,Qf,λj l=>?_,ah (a.alloc L _) g⟩;by_cases A:j=m
        .subst A;rw[P.o];exact Rv.o
        .exact S.o j X
       case measure=>exact Qw
     .have HG:=Zh (pV (Qj WL.o) (λj l=>S.o j X));go_wp2;go_roundw
      case rel=>
       refine⟨k+1,X,Qf,λj l=>?_,a⟩;by_cases B:j=k
       .subst B;rw[Bc.o];exact HG.o
       .exact Q.o j X
      case measure=>exact Qw
  .have r:=Zh (y.o (λj l=>Q.o j X));go_wp2;go_ret;exact⟨QV r.o,u⟩
def fitsB(n:Int)(group:Bool)(keys sums ay:KJ):Bool:=
 if group then decide (N ay=0)&&aP sums n&&aP keys n&&bG keys else decide (0<N ay)&&aP ay n&&decide (N keys=0)&&decide (N sums=0)
theorem outputFits_any(q:ae)(n:Int)(w:U)(hk:q.keys.At w)(hs:q.sums.At w)(he:q.ay.At w)(hkc:N q.keys.xs<=q.keys.cap) :
  Cb 71 #[Qr q.cells,I J n] w (Qo (fitsB n q.group q.keys.xs q.sums.xs q.ay.xs)):=by
 obtain⟨K,bF,aG,wh,g,⟨C,D,b⟩,⟨L,P,f⟩,⟨y,z,l⟩,Q⟩:=q;unfold ai.At at hk hs he;simp only at hk hs he hkc;unfold ae.cells ai.val;simp only;have G:=he.1;have t:=λx (h:Bw w x)=>allBelow_any y z l n x (Q7 h he);have m:=λx (h:Bw w x)=>allBelow_any L P f n x (Q7 h hs);have B:=λx (h:Bw w x)=>allBelow_any C D b n x (Q7 h hk);have u:=λx (h:Bw w x)=>allDifferent_any C D b x (Q7 h hk) hkc;have W:Qk (fitsB n g b f l=fitsB n g b f l):=rfl;generalize j:fitsB n g b f l=R at*;unfold fitsB at j;generalize aP l n=A1,aP f n=A2,aP b n=A3,bG b=A4 at*;cases g
 .simp only[Bool.false_eq_true,if_false]at j;by_cases A:0<N l
  .rw[Zg A,Zi]at j
   cases A1
   .have i:=Zh (show F=R by rw[<-j];rfl);go_enter func71,ntmps71;go_wp2_with fail;refine(t _ (bz _ _)).mono ?_;rintro e p ⟨rfl,a⟩;go_wp2;go_ret;exact⟨QV i.o,ah (bz _ _) a⟩
   .rw[Zi]at j;by_cases r:N b=0
    .have v:((N b:Int)==0)=true:=by simpa using r
     have i:=Zh (show ((N f:Int)==0)=R by rw[<-j,Zg r,Zi,D8]);go_enter func71,ntmps71;go_wp2_with fail;refine(t _ (bz _ _)).mono ?_;rintro e p ⟨rfl,a⟩;have d:=lZ a;simp at d;go_wp2;go_ret;exact⟨QV i.o,ah (bz _ _) a⟩
    .have v:((N b:Int)==0)=false:=by simpa using r
     have i:=Zh (show F=R by rw[<-j,ZL r];rfl);go_enter func71,ntmps71;go_wp2_with fail;refine(t _ (bz _ _)).mono ?_;rintro e p ⟨rfl,a⟩;have d:=lZ a;simp at d;go_wp2;go_ret;exact⟨QV i.o,ah (bz _ _) a⟩
  .have i:=Zh (show F=R by rw[<-j,ZL A];rfl);go_enter func71,ntmps71;go_wp2;go_ret;exact⟨QV i.o,bz _ _⟩
 .simp only[if_true]at j;by_cases A:0<N l
  .have i:=Zh (show F=R by grind);go_enter func71,ntmps71;go_wp2;go_ret;exact⟨QV i.o,bz _ _⟩
  .rw[Zg (show N l=0 by omega),Zi]at j
   cases A2
   .have i:=Zh (show F=R by rw[<-j];rfl);go_enter func71,ntmps71;go_wp2_with fail;refine(m _ (bz _ _)).mono ?_;rintro e p ⟨rfl,a⟩;go_wp2;go_ret;exact⟨QV i.o,ah (bz _ _) a⟩
   .rw[Zi]at j
    cases A3
    .have i:=Zh (show F=R by rw[<-j];rfl);go_enter func71,ntmps71;go_wp2_with fail;refine(m _ (bz _ _)).mono ?_;rintro e p ⟨rfl,a⟩;have d:=lZ a;simp at d;go_wp2_with fail;refine(B _ (ah (bz _ _) a)).mono ?_;rintro e S ⟨rfl,k⟩;go_wp2;go_ret;exact⟨QV i.o,ah (ah (bz _ _) a) k⟩
    .have i:=Zh (show A4=R by rw[<-j,Zi]);clear j;go_enter func71,ntmps71;go_wp2_with fail;refine(m _ (bz _ _)).mono ?_;rintro e p ⟨rfl,a⟩;have d:=lZ a;simp at d;go_wp2_with fail;refine(B _ (ah (bz _ _) a)).mono ?_;rintro e S ⟨rfl,k⟩;have hz:M (H w)<M (H p):=by have:=a.size;simp at this;omega
     have Rw:=lZ k;go_wp2_with fail;refine(u _ (ah (ah (bz _ _) a) k)).mono ?_;rintro e w4 ⟨rfl,rfl⟩;go_wp2;go_ret;exact⟨QV i.o,ah (ah (bz _ _) a) k⟩
theorem Cm{l:Nat}(hd:∀o∈ops,∀c,o.op ≠ .defer c){K':Act->U->Prop}(hK:∀a w,K a w->K' a w)(h:wpOpIn Fence.wide 0 P ops Q i K a w):wpOpIn (Fence.wide.inRound l) 0 P ops Q i K' a w:=by
 unfold wpOpIn at*
 cases ho:ops[i]? with
 |none=>simp_all
 |some o =>
  rw[ho]at h;simp only at*;have f:=Array.mem_of_getElem? ho;by_cases j:Region.wanted o (yielded ops a.tmps)=T
  .rw[Q8 j]at*;unfold Oper.wpIn at*;refine⟨h.1,?_⟩;have b:=h.2;rw[Oper.semAt_plain Fence.wide _ _ (hd o f)]at b;rw[Oper.semAt_plain (Fence.wide.inRound l) _ _ (hd o f)];generalize Sem.run P (execOp a.eval o) w=r at*;unfold Oper.uponIn at*;split at b
   .simp_all
   .simp_all
   .simp_all
   .exact⟨b.1,b.2.mono (λe g d=>by
     grind)⟩
   .exact⟨b.1,b.2.mono (λv g d=>hK _ _ d)⟩
   .exact⟨b.1,b.2.mono (λe g d=>by
     grind)⟩
   .exact b
   omega
  simp_all
def mG{P:Program}{md:Region.Mode}{ops:Array Oper}{Q:Exit->Act->U->Prop}{l:Nat}(hd:∀o∈ops,∀c,o.op ≠ .defer c):∀(fuel:Nat) (listed:Array Bool) (a:Act) (w:U),
  wpAnyIn Fence.wide 0 P md ops Q fuel listed a w->wpAnyIn (Fence.wide.inRound l) 0 P md ops Q fuel listed a w
 |0,_,_,_,h=>h
 |fuel+1,listed,a,w,h=>⟨h.1,λi b=>Cm hd (λd e f=>mG hd fuel _ d e f) (h.2 i b)⟩
def Ec(ops:Array Oper):Bool:=ops.all λo=>match o.op with|.defer _=>F|_=>T
theorem qf(h:Ec ops=T):∀o∈ops,∀c,o.op ≠ .defer c:=by intro o a c b;unfold Ec at h;rw[Array.all_eq_true_iff_forall_mem]at h;grind
def step_append{Eq:Prop}(hgd:o.guard=Qp)(s x:Operand)(t:TypeId)
  (ho:o.op=.call { callee:=.builtin .append,args:=#[s,x],argTypes:=#[t,t] }) (v u v':Qa) (w':U) (hs:a.eval s=v) (hx:a.eval x=u)
  (hrun:(Builtin.append_ #[t,t] o.type #[v,u]).run P w=.ok v' w') (h:K (a.put o.dst v') w'):if Region.wanted o (yielded ops a.tmps)=T then Oper.wp P o a w K Q else Eq:=by
 have b:Region.wanted o (yielded ops a.tmps)=true:=by simp[Region.wanted,hgd]
 rw[Q8 b];unfold Oper.wp;simp[execOp,ho,resolve,invoke,builtin,hs,hx,hrun,Result.andThen];exact h
def iT{oi:Oper}(i:Nat)(v:Value)(h:wpAnyIn Fq n P md ops Q fuel (listed.setIfInBounds i true) (a.put oi.dst v) w)(hr:(Region.ready md ops listed).contains i=true:=by decide +kernel)(hi:ops[i]? = some oi:=by exact rfl)(hro:Fq.round=none:=by exact rfl)(hs:Region.noSelect ops=true:=by kernel_rfl)(hf:Region.free md ops listed i=true:=by kernel_rfl)(hQ:∀c a w,Q (.panic c) (a.put oi.dst v) w->Q (.panic c) a w:=by exact λ_ _ _ h=>h)(hy:YieldsFenced P ops oi v a:=by exact⟨Or.inl ⟨Qh,λw=>by go_simp⟩,λ_=>rfl⟩):wpAnyIn Fq n P md ops Q (fuel+1) listed a w:=
 wpAnyIn_take hro hi hs hf hr hQ hy h
@[reducible] def YP (Fq:Fence) (n:Nat) (P:Program) (md:Region.Mode) (ops:Array Oper) (Q:Exit->Act->U->Prop) (fuel:Nat) (listed:Array Bool) (a:Act) (w:U) (i:Nat) (o:Oper):Prop:=
 ∀K:Act->U->Prop,(∀a w,wpAnyIn Fq n P md ops Q fuel (listed.setIfInBounds i T) a w->K a w)->if Region.wanted o (yielded ops a.tmps)=T then Oper.wpIn Fq n P o a w K Q else (∀f,o.about P w a.eval=O f->Fq.fn f)/\K (a.put o.dst undef) w
def iQ(i:Nat)(h:YP Fq n P md ops Q fuel listed a w i o)(hr:Region.ready md ops listed=[i]:=by decide +kernel)(hi:ops[i]? = some o:=by exact rfl):wpAnyIn Fq n P md ops Q (fuel+1) listed a w:=
 wpAnyIn_ready hr Qb (AllReadyIn.cons hi h AllReadyIn.nil)
def iJ(i j:Nat)(h:YP Fq n P md ops Q fuel listed a w i o)(k:YP Fq n P md ops Q fuel listed a w j p)(hr:Region.ready md ops listed=[i,j]:=by decide +kernel)(hi:ops[i]? = some o:=by exact rfl)(hj:ops[j]? = some p:=by exact rfl):wpAnyIn Fq n P md ops Q (fuel+1) listed a w:=
 wpAnyIn_ready hr Qb (AllReadyIn.cons hi h (AllReadyIn.cons hj k AllReadyIn.nil))
def iD(h:Q .normal a w)(hr:Region.ready md ops listed=[]:=by decide +kernel):wpAnyIn Fq n P md ops Q fuel listed a w:=
 wpAnyIn_done hr h fuel
def kR(i:Nat)(h:∀K':Act->World->Prop,Shut (∀a w,S w->(S w->wpAnyH P md ops Q S fuel (listed.setIfInBounds i true) a w)->K' a w)->if Region.wanted o (yielded ops a.tmps)=true then Oper.wp P o a w K' Q else K' (a.put o.dst undef) w)(hr:Region.ready md ops listed=[i]:=by decide +kernel)(hi:ops[i]? = some o:=by exact rfl):wpAnyH P md ops Q S (fuel+1) listed a w:=
 wR i h hi hr
def kJ(i j:Nat)(h:∀K':Act->World->Prop,Shut (∀a w,S w->(S w->wpAnyH P md ops Q S fuel (listed.setIfInBounds i true) a w)->K' a w)->if Region.wanted o (yielded ops a.tmps)=true then Oper.wp P o a w K' Q else K' (a.put o.dst undef) w)(k:∀K':Act->World->Prop,Shut (∀a w,S w->(S w->wpAnyH P md ops Q S fuel (listed.setIfInBounds j true) a w)->K' a w)->if Region.wanted p (yielded ops a.tmps)=true then Oper.wp P p a w K' Q else K' (a.put p.dst undef) w)(hr:Region.ready md ops listed=[i,j]:=by decide +kernel)(hi:ops[i]? = some o:=by exact rfl)(hj:ops[j]? = some p:=by exact rfl):wpAnyH P md ops Q S (fuel+1) listed a w:=
 wJ i j h k hi hj hr
def kD(h:Q .normal a w)(hr:Region.ready md ops listed=[]:=by decide +kernel):wpAnyH P md ops Q S fuel listed a w:=wD h hr
def kG(i:Nat)(h:wpAnyH P md ops Q S fuel listed a w)(_:(Region.ready md ops listed).contains i=true:=by decide +kernel):wpAnyH P md ops Q S fuel listed a w:=h
def KZ:Value:=Z Qp 0 0
def iw(L:Qu Qa)(m:Nat):Array Value:=(L++List.replicate m KZ).toArray
def kX(L:Qu Qa)(m:Nat):(iw L (m+1))[N L]? = O KZ:=by unfold iw;simp_all
theorem jB(L:Qu Qa)(m:Nat)(v:Qa):(iw L (m+1)).setIfInBounds (N L) v=iw (L++[v]) m:=by unfold iw;grind
def vX(n:Nat):madeCells #[KZ] n=iw [] n:=by rw[nX];rfl
def dM(lo:Nat)(W:U)(tI:TypeId)(r':ai)(xs:KJ):Prop:=∃B,r' = ⟨O (aD B 0),N xs+2,xs⟩/\lo<B/\GB W B tI (aK xs)
def fT(lo:Nat)(W:U)(tI:TypeId)(v:Qa):Prop:=∃j,v=Z (O (aD j 0)) 1 1/\lo<j/\GB W j tI #[I J 77777]
structure fu(lo:Nat)(W:U)(tR tI:TypeId)(t':aS)(rs:Qu ai)(Tq:Nat)(v1 v2:Qa):Prop where
 ad:t'.ad=O (aD Tq 0)
 cap:t'.cap=N rs+2
 len:N t'.rs=N rs
 low:lo<Tq
 rows:∀j,j<N rs->dM lo W tI (E t'.rs j iz) (E rs j iz).xs
 blk:GB W Tq tR (t'.rs.map ai.val++[v1,v2]).toArray
 k1:fT lo W tI v1
 k2:fT lo W tI v2
def nP(lo:Nat)(tL:TypeId)(W W':U):Prop:=∀b,lo<b->b<M (H W)->(∀c,W.heap[b]? ≠ O (Qq c tL (0,0)))->W'.heap[b]? = W.heap[b]?
theorem GB.stay{tL:TypeId}(h:GB W b t c)(hs:nP lo tL W W')(hl:lo<b)(ht:t≠tL):GB W' b t c:=
 h.of (hs b hl h.lt (λa e=>by
  unfold GB at h;simp_all))
theorem dM.stay{lo:Nat}{tL tI:TypeId}{W W':U}{r':ai}{xs:KJ}(h:dM lo W tI r' xs)(hs:nP lo tL W W')(ht:tI≠tL):dM lo W' tI r' xs:=by grind [dM,GB.stay]
theorem fT.stay{lo:Nat}{tL tI:TypeId}{W W':U}{v:Qa}(h:fT lo W tI v)(hs:nP lo tL W W')(ht:tI≠tL):fT lo W' tI v:=by grind [fT,GB.stay]
theorem fu.stay{lo:Nat}{tL tR tI:TypeId}{W W':U}{t':aS}{rs:Qu ai}{Tq:Nat}{v1 v2:Qa}(h:fu lo W tR tI t' rs Tq v1 v2)(hs:nP lo tL W W')(ht:tI≠tL)(hr:tR≠tL):fu lo W' tR tI t' rs Tq v1 v2:=
 ⟨h.ad,h.cap,h.len,h.low,λj a=>(h.rows j a).stay hs ht,h.blk.stay hs h.low hr,h.k1.stay hs ht,h.k2.stay hs ht⟩
theorem dM.up(h:dM lo W tI r' xs)(hl:lo'<=lo):dM lo' W tI r' xs:=by grind [dM]
theorem fT.up(h:fT lo W tI v)(hl:lo'<=lo):fT lo' W tI v:=by grind [fT]
theorem dM.kept(h:dM lo W tI r' xs)(hk:∀b,lo<b->b<M (H W)->W'.heap[b]? = W.heap[b]?):dM lo W' tI r' xs:=by grind [dM,GB.of,GB.lt]
theorem fT.kept(h:fT lo W tI v)(hk:∀b,lo<b->b<M (H W)->W'.heap[b]? = W.heap[b]?):fT lo W' tI v:=by grind [fT,GB.of,GB.lt]
def fu.kept{lo:Nat}{tR tI:TypeId}{W W':U}{t':aS}{rs:Qu ai}{Tq:Nat}{v1 v2:Qa}(h:fu lo W tR tI t' rs Tq v1 v2)(hk:∀b,lo<b->b<M (H W)->W'.heap[b]? = W.heap[b]?):fu lo W' tR tI t' rs Tq v1 v2:=
 ⟨h.ad,h.cap,h.len,h.low,λj a=>(h.rows j a).kept hk,h.blk.of (hk Tq h.low h.blk.lt),h.k1.kept hk,h.k2.kept hk⟩
def aS.full(t:aS):Value:=Z t.ad (N t.rs+2) t.cap
structure nA(jf w0 wr:U)(G tG tL tR tI n:Nat)(gc:Qa->Array Qa)(db cZ:Qu aS)(v:Qa):Prop where
 jC:Bw jf wr
 zT:∀j,j<M (H w0)->j≠G->wr.heap[j]? = w0.heap[j]?
 xI:M (H w0)<M (H wr)
 g:GB wr G tG (gc v)
 row:GB wr (M (H w0)) tL (iw (cZ.map aS.val) (n+2-N cZ))
 tab:∀i,i<N cZ->∃Tq v1 v2,fu (M (H w0)) wr tR tI (E cZ i rz) (E db i rz).rs Tq v1 v2
 own:wr.ownsRow (M (H w0)+1) tL 1 v (N cZ) (cZ.map aS.full)
structure Ox(jf w0 w':U)(G tG tL tR tI:Nat)(gc:Qa->Qa->Qa->Array Qa)(db cZ:Qu aS)(v u1 u2:Qa)(s1 s2:Nat)(x1 x2:Qa):Prop where
 jC:Bw jf w'
 zT:∀j,j<M (H w0)->j≠G->w'.heap[j]? = w0.heap[j]?
 xI:M (H w0)<M (H w')
 len:N cZ=N db
 g:GB w' G tG (gc (Z (O (aD (M (H w0)) 0)) (N db) (N db+2)) (Z (O (aD (M (H w0)) 0)) (N db+2) (N db+2)) v)
 row:GB w' (M (H w0)) tL (cZ.map aS.val++[u1,u2]).toArray
 tab:∀i,i<N cZ->∃Tq v1 v2,fu (M (H w0)) w' tR tI (E cZ i rz) (E db i rz).rs Tq v1 v2
 own:w'.ownsRow (M (H w0)+1) tL 1 v (N cZ) (cZ.map aS.full)
 e1:u1=Z (O (aD s1 0)) 1 1
 e2:u2=Z (O (aD s2 0)) 1 1
 l1:M (H w0)<s1
 l2:M (H w0)<s2
 r1:GB w' s1 tR #[x1]
 r2:GB w' s2 tR #[x2]
 k1:fT (M (H w0)) w' tI x1
 k2:fT (M (H w0)) w' tI x2
theorem nA.next{jf w0 w5:U}{tL tR tI:Nat}{gc:Qa->Array Qa}{db cZ:Qu aS}{v':Qa}(h:nA jf w0 wr G tG tL tR tI n gc db cZ v)(hG:G<M (H w0))(NU:M (H jf)<=G)(hn:N cZ<n)(hR:tR≠tL)(hI:tI≠tL)(hgc:∀x y,(gc x).setIfInBounds 15 y=gc y)
  {wm:U} (Oy:Bw wr wm) (ht:fu (M (H w0)) wm tR tI t' (E db (N cZ) rz).rs Tq v1 v2)
  (hown:w5.ownsRow (M (H w0)+1) tL 1 v' (N cZ+1) (cZ.map aS.full++[t'.full])) (hk:Kept (λb=>v.ownBlock≠O b) wm w5) (hat:v'.ownBlock=v.ownBlock∨v'.ownBlock=O (M (H wm)+1)) :
  nA jf w0 ((Ql (Ql w5 (aD G 15) v') (aD (M (H w0)) (N cZ)) t'.val).drew) G tG tL tR tI n gc db (cZ++[t']) v':=by
 have u:=h.xI;have Q:=h.jC.size;have R:=Oy.size;have S:=hk.size;have W:∀b,v.ownBlock=O b->M (H w0)<b:=λb d=>Qj ((ZJ h.own d).1);have aa:∀b,v'.ownBlock=O b->M (H w0)<b:=λb d=>Qc;have a:∀b,b<=M (H w0)->v.ownBlock≠O b:=λb d e=>Qc;have f:∀b,b<M (H wr)->v.ownBlock≠O b->w5.heap[b]? = wr.heap[b]?:=λb d hv=>(hk.block b X hv).trans (Oy.block b d);obtain⟨t,q⟩:=eY ((Ql (Ql w5 (aD G 15) v') (aD (M (H w0)) (N cZ)) t'.val).drew);have k:∀b,b≠G->b≠M (H w0)->t.heap[b]? = w5.heap[b]?:=λb l m=>by rw[q];show (Ql (Ql w5 (aD G 15) v') (aD (M (H w0)) (N cZ)) _).heap[b]? = _;rw[Zv m,Zv l]
 have ae:M (H t)=M (H w5):=Qg;have K:nP (M (H w0)) tL wm t:=λb P d C=>by rw[k b X X];refine hk.block b d (λe=>?_);obtain⟨c,B⟩:=nM h.own e;have z:b<M (H wr):=(ZJ h.own e).2;exact C c ((Oy.block b z).trans B)
 have RP:nP (M (H w0)) tL wr t:=λb P d C=>by rw[K b P X (λc e=>C c ((Oy.block b d).symm.trans e))];exact Oy.block b d
 rw[<-q];refine⟨?_,λj hj r=>?_,X,?_,?_,λi hi=>?_,?_⟩
 .have A:Bw jf w5:=⟨hk.os.trans (Oy.os.trans h.jC.os),hk.tape.trans (Oy.tape.trans h.jC.tape),hk.output.trans (Oy.output.trans h.jC.output),X,λb d=>(f b X (a b X)).trans (h.jC.block b d)⟩
  rw[q];exact((A.setCell (p:=(aD G 15)) NU v').setCell (p:=(aD (M (H w0)) (N cZ))) Qc _).drew
 .rw[k j r X,f j X (a j X)];exact h.zT j hj r
 .have l:GB w5 G tG (gc v):=h.g.of (f G X (a G X));have m:=l.set 15 v';rw[hgc]at m;rw[q];exact GB.of (w:=Ql w5 (aD G 15) v') m (Zv Qc)
 .have l:GB (Ql w5 (aD G 15) v') (M (H w0)) tL (iw (cZ.map aS.val) (n+2-N cZ)):=h.row.of ((Zv Qc).trans (f _ u (a _ (Q6 _))));have e:n+2-N cZ=(n+2-(N cZ+1))+1:=X
  rw[e]at l;have m:=l.set (N cZ) t'.val;have L:=jB (cZ.map aS.val) (n+2-(N cZ+1)) t'.val;rw[ZR]at L;rw[L]at m;rw[q,Q0,Zm];exact m
 .rw[Zm,List.length_singleton]at hi;by_cases D:i<N cZ
  .obtain⟨T',a1,a2,l⟩:=h.tab i D;have e:E (cZ++[t']) i rz=E cZ i rz:=Qg
   rw[e];exact⟨T',a1,a2,l.stay RP hI hR⟩
  .obtain rfl:i=N cZ:=X
   have e:E (cZ++[t']) (N cZ) rz=t':=Qg;rw[e];exact⟨Tq,v1,v2,ht.stay K hI hR⟩
 .rw[Zm,List.length_singleton,Q0];have n1:v'.ownBlock≠O G:=λe=>Qc
  have n2:v'.ownBlock≠O (M (H w0)):=λe=>Qg;rw[q];exact(Zy (Zy hown n1 v') n2 _).drew
def nA.pair{wa:U}{bd x:Nat}(hb:bd<M (H wr))(qY:wa=((Ql wr (aD bd x) (Z (O (aD (M (H wr)+1) 0)) 1 1)).alloc (Qq #[I J 77777] tI)).alloc (Qq #[Z (O (aD (M (H wr)) 0)) 1 1] tR)) :
  M (H wa)=M (H wr)+2/\(∀b,b<M (H wr)->b≠bd->wa.heap[b]? = wr.heap[b]?)/\wa.heap[bd]? = (Ql wr (aD bd x) (Z (O (aD (M (H wr)+1) 0)) 1 1)).heap[bd]?/\
   GB wa (M (H wr)+1) tR #[Z (O (aD (M (H wr)) 0)) 1 1]/\fT bd wa tI (Z (O (aD (M (H wr)) 0)) 1 1)/\(∀B d,B<=bd->Below B d wr->Below B d wa):=by
 have f:M (H (Ql wr (aD bd x) (Z (O (aD (M (H wr)+1) 0)) 1 1)))=M (H wr):=Qb;have g:M (H ((Ql wr (aD bd x) (Z (O (aD (M (H wr)+1) 0)) 1 1)).alloc (Qq #[I J 77777] tI)))=M (H wr)+1:=Qb;refine⟨Qg,λb e a=>?_,?_,?_,⟨M (H wr),rfl,hb,?_⟩,λB d i h=>?_⟩
 .rw[qY,Zw X,Zw X,Zv a]
 .rw[qY,Zw X,Zw X]
 .have:=iB ((Ql wr (aD bd x) (Z (O (aD (M (H wr)+1) 0)) 1 1)).alloc (Qq #[I J 77777] tI)) (Qq #[Z (O (aD (M (H wr)) 0)) 1 1] tR);rw[g]at this;rw[qY];exact this
 .have:=iB (Ql wr (aD bd x) (Z (O (aD (M (H wr)+1) 0)) 1 1)) (Qq #[I J 77777] tI);rw[f]at this;rw[qY];exact(Zw X).trans this
 .have e:=h.setCell (p:=(aD bd x)) i (Z (O (aD (M (H wr)+1) 0)) 1 1);have j:=h.size;have a:=e.alloc X (Qq #[I J 77777] tI);have k:=a.alloc X (Qq #[Z (O (aD (M (H wr)) 0)) 1 1] tR)
  simp_all
def Tryz.RQ:(V.info? 80).map (λi=>(i.zero,i.size,i.bytes))=O (O (Qr #[Z Qp 0 0]),1,24):=Qe
def Tryz.RS:(V.info? 82).map (λi=>(i.zero,i.size,i.bytes))=O (O (Qr #[Qo F,I J 0,I J 0,Qo F,I J 0]),5,40):=Qe
def Tryz.RU:(V.info? 82).map (·.size)=O 5:=Qe
def Tryz.RV:(V.info? 78).map (λi=>(i.zero,i.size,i.bytes))=O (O (Z Qp 0 0),1,24):=Qe
def Bu(n:Nat)(h:n*24<=140737488351232)(w:U) :
  (Instr.makeSlice 24 (.int J ((n:Int)+2)) (.int J ((n:Int)+2))).run V w=.ok (.slice (O (aD (M (H w)) 0)) (n+2) (n+2)) (w.alloc (Qq (madeCells #[.slice Qp 0 0] (n+2)) 80)):=by obtain⟨i,e,a,b,d⟩:=Xe Tryz.RQ;have:=run_make (P:=V) w 24 80 i _ underlying24 e a J J ((n:Int)+2) ((n:Int)+2) X (Int.le_refl _) (by rw[d];omega) X;rw[b,show ((n:Int)+2).toNat=n+2 by omega]at this;simpa [Value.cells] using this
def Ie(n:Nat)(h:n*40<=140737488351232)(w:U) :
  (Instr.makeSlice 78 (.int J ((n:Int)+2)) (.int J ((n:Int)+2))).run V w=.ok (.slice (O (aD (M (H w)) 0)) (n+2) (n+2)) (w.alloc (Qq (madeCells zc.toArray ((n+2)*5)) 82)):=by obtain⟨i,e,a,b,d⟩:=Xe Tryz.RS;have:=run_make (P:=V) w 78 82 i _ underlying78 e a J J ((n:Int)+2) ((n:Int)+2) X (Int.le_refl _) (by rw[d];omega) X;rw[b,show ((n:Int)+2).toNat=n+2 by omega]at this;simpa [Value.cells,zc] using this
def Ig(w:U)(ao:JW)(cap:Nat)(cs:Qu aF)(h:bY w ao cs)(ty:TypeId) :
  (Builtin.copy_ #[78,78] ty #[Z (O (aD (M (H w)) 0)) (N cs+2) (N cs+2),Z ao (N cs) cap]).run V (w.alloc (Qq (madeCells zc.toArray ((N cs+2)*5)) 82)) =
   .ok (goInt (N cs)) (w.alloc (Qq (ry cs) 82)):=
 qd (P:=V) w 78 82 5 zc.toArray ao (N cs) cap (cs.flatMap aF.vals) X rfl (iX _ 5 eP cs) (Fp h) (Fs cs) underlying78 Tryz.RU ty
theorem Bv(jf w:U)(G:Nat)(ad:JW)(cap:Nat)(ls:Qu aA)(c0 c1 c2 c3 c4 c5 c6 c7 c8 c9 c10 c11 c13 c14 c15:Qa)
  (hx:bM jf ad ls) (hsz:N ls*24<=140737488351232) (VJ:∀i,i<N ls->(E ls i lz).cs.length*40<=140737488351232)
  (hb:Bw jf w) (hG0:M (H jf)<=G) (hG:GB w G 35 #[c0,c1,c2,c3,c4,c5,c6,c7,c8,c9,c10,c11,Z Qp 0 0,c13,c14,c15]) :
  Calls V 11 #[.pointer (O (aD G 0)),Z ad (N ls) cap] w λe w'=>e=Qs (.tuple #[])/\∃v A b1 b2,JM jf w w' G 35 80 78 82 (N ls) (λx y z=>#[c0,c1,x,c3,c4,c5,c6,c7,c8,c9,c10,y,z,c13,c14,c15]) ls v A b1 b2:=by
 have n:=Bu (N ls) hsz;have hl:=hx.1;have t:=hG.lt;have m:=hG.at 11;have B:=hG.frozen 11;go_enter func11,ntmps11;go_wp2;obtain⟨i0,hi,aa,ae,af⟩:=Xe Tryz.RV;go_loopw [5] (λi wr=>∃(k:Nat) (v:Qa) (A:Nat->Nat),k<=N ls/\i=I J k/\lH jf w wr G 35 80 78 82 (N ls) (λx y=>#[c0,c1,c2,c3,c4,c5,c6,c7,c8,c9,c10,x,y,c13,c14,c15]) ls k v A) (λi _=>N ls-(intOf i).toNat)
 case atStart=>exact⟨0,_,_,ZP _,rfl,lH.start hb hG0 hG rfl⟩
 case round=>
  obtain⟨k,v,A,hk,rfl,h⟩:=hrel;by_cases l:k<N ls
  .obtain⟨b,aC,rfl,hc⟩:=hx.2.1.get l;have d:=cB h.jC (hc k l);have p:=(hx.2.2 k l).below h.jC;have VK:=VJ k l;generalize q:E ls k lz=cl at*;have Bc:=Zh q;clear q hc;obtain⟨ag,ah,cs⟩:=cl;unfold aA.val at d;simp only at d p VK;have C:=Ie (N cs) VK;have D:=λty=>Ig wr ag ah cs p ty
   have K:=uG wr cs 82;have L:=uH wr cs 82;have P:=Ff cs;have Q:=Fg cs;have Yu:=h.g.lt;have ak:=lt_of_cell d;have m:=h.g.at 11;have R:=h.g.at 12;clear B n;go_wp2_with (first|(at_builtin;refine wpList_append_own _ rfl (.tmp 50) (.tmp 52) 33 rfl (M (H w)) 78 i0 (.slice Qp 0 0) 1 24 underlying33 hi aa ae af rfl Qd _ _ _ rfl ((h.own.alloc _).alloc _) (aD (M (H wr)+1) 0) 1 1 [.slice (O (aD (M (H wr)) 0)) (N cs+2) (N cs+2)] rfl rfl ?q1 ?q2 ?q3 ?q4 ?q5 ?_))
   case q1=>
    intro j u r
    match j,r with
    |0,r=>simp at r;subst r;simp[Addr.add]
   case q2=>intro u hu;simp at hu;subst hu;rfl
   case q3=>unfold maxLen;omega
   case q4=>omega
   case q5=>have:=h.xI;simp;omega
   intro v' w1 a f _;have Mq:=h.mid Qd Qd t hG0 a Qb f;obtain⟨g,aj,ai⟩:=Mq.sh;have au:=Mq.g.at 11;have av:=Mq.g.at 12;have ax:=Mq.g.frozen 12;have mk:Qm w1 (aD (M (H w)) k)=O (Z Qp 0 0):=by rw[Mq.row.cell X,Zf X]
   have nk:=Mq.row.frozen k;have S:¬M (H w)=G:=X;have RX:¬G=M (H w):=X;rw[ai];clear C D K L P Q m R d;go_wp2;go_region;go_wp2;go_roundw
   case rel=>
    have Nq:=Mq.next (tA:=78) (λ_ _ _=>rfl) t hG0 (by rw[Bc.o]) Qd Qd Qd a;grind
   case measure=>exact Qw
  .have W:k=N ls:=X
   have Yu:=h.g.lt;have ay:=h.xI;have m:=h.g.at 11;have g2:=h.g.at 2;have e2:=h.g.frozen 2;have mk:Qm wr (aD (M (H w)) (N ls))=O (Z Qp 0 0):=by rw[h.row.cell X,Zf X]
   have nk:wr.frozen? (aD (M (H w)) (N ls))=false:=h.row.frozen _;have az:Qm wr (aD (M (H w)) (N ls+1))=O (Z Qp 0 0):=by rw[h.row.cell X,Zf X]
   have aB:wr.frozen? (aD (M (H w)) (N ls+1))=false:=h.row.frozen _;have S:¬M (H w)=G:=X;have RX:¬G=M (H w):=X;clear hx hsz VJ n;go_wp2;go_end0;subst W;exact⟨rfl,_,_,_,_,h.fin (λ_ _ _=>rfl) t hG0 Qd⟩
def Tryz.Bz:(V.info? 77).map (λi=>(i.zero,i.size,i.bytes))=O (O (Z Qp 0 0),1,24):=Qe
def Tryz.ne1:23≠77:=Qd
def Tryz.ne2:3≠77:=Qd
def RY(n:Nat)(h:n*24<=140737488351232)(w:U) :
  (Instr.makeSlice 32 (.int J ((n:Int)+2)) (.int J ((n:Int)+2))).run V w=.ok (.slice (O (aD (M (H w)) 0)) (n+2) (n+2)) (w.alloc (Qq (iw [] (n+2)) 77)):=by obtain⟨i,e,a,b,d⟩:=Xe Tryz.Bz;have:=run_make (P:=V) w 32 77 i _ underlying32 e a J J ((n:Int)+2) ((n:Int)+2) X (Int.le_refl _) (by rw[d];omega) X;rw[b,show ((n:Int)+2).toNat=n+2 by omega]at this;rw[<-vX];simpa [Value.cells,KZ] using this
def Nc(n:Nat)(h:n*24<=140737488351232)(w:U) :
  (Instr.makeSlice 77 (.int J ((n:Int)+2)) (.int J ((n:Int)+2))).run V w=.ok (.slice (O (aD (M (H w)) 0)) (n+2) (n+2)) (w.alloc (Qq (iw [] (n+2)) 23)):=by obtain⟨i,e,a,b,d⟩:=Xe Tryz.JC;have:=run_make (P:=V) w 77 23 i _ underlying77 e a J J ((n:Int)+2) ((n:Int)+2) X (Int.le_refl _) (by rw[d];omega) X;rw[b,show ((n:Int)+2).toNat=n+2 by omega]at this;rw[<-vX];simpa [Value.cells,KZ] using this
def K3(W:U)(base:Nat)(v:Qa)(xs:Qu Qa)(hown:W.ownsRow base 77 1 v (N xs) xs)(hl:N xs*24<=140737488351232)(hb:base<=M (H W))(a:JW)(m c:Nat)(ty:TypeId) :
  ∃d f,(Builtin.append_ #[32,32] ty #[v,Z (O (aD (M (H W)) 0)) 1 1]).run V (W.alloc (Qq #[Z a m c] 77))=.ok d f/\
   f.ownsRow base 77 1 d (N xs+1) (xs++[Z a m c])/\Kept (λb=>v.ownBlock≠O b) W f/\(∃a m c,d = Z a m c)/\(d.ownBlock=v.ownBlock∨d.ownBlock=O (M (H W)+1)):=by
 obtain⟨q,y,i,j,k⟩:=Xe Tryz.Bz;obtain⟨d,f,l,n,z,_,g⟩:=run_append_own_at (P:=V) (W.alloc (Qq #[.slice a m c] 77)) base 32 ty 77 q (.slice Qp 0 0) 1 24 underlying32 y i j k rfl Qd v (N xs) xs (hown.alloc _) (aD (M (H W)) 0) 1 1 [.slice a m c] rfl
  (World.news_of_block (cs:=#[Z a m c]) (t:=77) (fr:=(0,0)) (iB W _)) (λu p=>by rw[Xb]at p;rw[p];rfl) (by unfold maxLen;omega) X (by rw[Xf];omega)
 exact⟨d,f,l,n,(Kept.alloc _ _).trans (Kept.grown z (λr e l=>l e)),ZK n,by rw[Xf]at g;exact g⟩
theorem Dz(jf w:U)(G:Nat)(d:JW)(BA:Nat)(db:Qu aS)(c0 c1 c2 c3 c4 c5 c6 c7 c8 c9 c10 c11 c12 c13 c14:Qa)
  (hx:uJ jf d db) (hsz:N db*24<=140737488351232) (acw:∀i,i<N db->(E db i rz).rs.length*24<=140737488351232) (K4:∀i,i<N db->∀j,j<(E db i rz).rs.length->((E db i rz).rs.getD j iz).xs.length*8<=140737488351232)
  (hb:Bw jf w) (hG0:M (H jf)<=G) (hG:GB w G 35 #[c0,c1,c2,c3,c4,c5,c6,c7,c8,c9,c10,c11,c12,c13,c14,Z Qp 0 0]) :
  Calls V 12 #[.pointer (O (aD G 0)),Z d (N db) BA] w λe w'=>e=Qs (.tuple #[])/\∃n v u1 u2 s1 s2 x1 x2,Ox jf w w' G 35 77 23 3 (λx y z=>#[c0,c1,c2,c3,c4,c5,c6,c7,c8,x,c10,c11,c12,c13,y,z]) db n v u1 u2 s1 s2 x1 x2:=by
 have bF:=RY (N db) hsz;have hl:=hx.1;have xA:=hG.lt;have ax:=hG.at 14;have bT:=hG.frozen 14;have HX:Qk _:=hx;obtain⟨aY,SF⟩:=bV acw K4;have JZ:Qk (nA jf w ((Ql w (aD G 14) (Z (O (aD (M (H w)) 0)) (N db+2) (N db+2))).alloc (Qq (iw [] (N db+2)) 77)) G 35 77 23 3 (N db) (λz=>#[c0,c1,c2,c3,c4,c5,c6,c7,c8,c9,c10,c11,c12,c13,Z (O (aD (M (H w)) 0)) (N db+2) (N db+2),z]) db [] (Z Qp 0 0)):=by
  have P:=hb.setCell (p:=(aD G 14)) hG0 (Z (O (aD (M (H w)) 0)) (N db+2) (N db+2));refine⟨P.alloc P.size _,λj hj ah=>?_,Qb,?_,?_,λi hi=>absurd hi Qb,Xa _ _ _ _⟩
  .rw[Zw (by simpa using hj),Zv ah]
  .exact(hG.set 14 (Z (O (aD (M (H w)) 0)) (N db+2) (N db+2))).of (Zw (by simpa using xA))
  .have:=iB (Ql w (aD G 14) (Z (O (aD (M (H w)) 0)) (N db+2) (N db+2))) (Qq (iw [] (N db+2)) 77);rw[XF]at this;exact this
 have Ih:=Zh xA;go_enter func12,ntmps12;go_wp2;go_loopw [5] (λiv wr=>∃(i:Nat) (n:Qu aS) (v:Qa),iv=I J i/\i<=N db/\N n=i/\Qk (nA jf w wr G 35 77 23 3 (N db) (λz=>#[c0,c1,c2,c3,c4,c5,c6,c7,c8,c9,c10,c11,c12,c13,Z (O (aD (M (H w)) 0)) (N db+2) (N db+2),z]) db n v)) (λiv _=>N db-(intOf iv).toNat)
 case atStart=>grind
 case round=>
  clear JZ;obtain⟨i,n,v,rfl,cz,q,C⟩:=hrel;by_cases L:i<N db
  .obtain⟨b,cK,rfl,aZ⟩:=QX HX.o.2.1 L;have aL:=Zh (aZ i L);have RZ:=HX.o.2.2 i L;have bG:=aY.o i L;have Sv:=Zh (SF.o i L);have bH:Qk ((E db (N n) rz).rs=(E db i rz).rs):=show _=_ by rw[q]
   clear aZ;generalize E db i rz=t at*;obtain⟨VL,Nf,f⟩:=t;unfold aS.val at*;simp only at*;have VM:Qk (jD jf VL f):=RZ;have bU:N f<=1152921504606846976:=RZ.1;have bF:=Nc (N f) bG;have aM:=cB C.o.jC aL.o;obtain⟨l,bf⟩:=eY (wr);rw[<-bf]at C aM ⊢;clear bf RZ;go_wp2;go_loopw [8] (λjv wr=>∃(j:Nat) (a:Qu ai),jv=I J j/\j<=N f/\N a=j/\Qk (Bw l wr)/\M (H l)<M (H wr)/\Qk (GB wr (M (H l)) 23 (iw (a.map ai.val) (N f+2-j)))/\Qk (∀k,k<j->dM (M (H l)) wr 3 (E a k iz) (E f k iz).xs)) (λjv _=>N f-(intOf jv).toNat)
   case atStart=>exact⟨0,[],rfl,ZP _,rfl,bz _ _,Qb,iB _ _,λk hk=>absurd hk X⟩
   case round=>
    obtain⟨j,a,rfl,cO,W,mo,K4,Hy,Yv⟩:=hrel;have P:=C.o.jC.trans (mo.o.mono C.o.jC.size);by_cases aj:j<N f
    .obtain⟨rb,ro,rfl,bO⟩:=QX VM.o.2.1 aj;obtain⟨aM,aG⟩:=iA P aL.o (bO j aj);have D:=Q7 P (VM.o.2.2 j aj);have R3:=Sv.o j aj;obtain⟨x,Yw⟩:=eY (E f j iz)
     have bI:=Zh Yw;rw[<-Yw]at aG D R3;clear Yw;obtain⟨VN,Ng,m⟩:=x;unfold ai.val at aG;simp only at aG D R3;have ay:=qO VN Ng m wr D R3;have aN:N f+2-j=(N f+2-(j+1))+1:=X;have u:=Hy.o;rw[aN]at u;have Yx:GB (wr.alloc (Qq (aK m) 3)) (M (H l)) 23 _:=u.of (Zw K4);have aO:Qm (wr.alloc (Qq (aK m) 3)) (aD (M (H l)) j)=O (Z Qp 0 0):=by rw[Yx.cell];have:=kX (a.map ai.val) (N f+2-(j+1));rw[ZR,W]at this;exact this
     have bJ:=Yx.frozen j;have az:=Yx.set j (Z (O (aD (M (H wr)) 0)) (N m) (N m+2));have aA:=jB (a.map ai.val) (N f+2-(j+1)) (Z (O (aD (M (H wr)) 0)) (N m) (N m+2));rw[ZR,W]at aA;rw[aA]at az;have aP:Qk _:=az;have zL:Qk (Bw l (Ql (wr.alloc (Qq (aK m) 3)) (aD (M (H l)) j) (Z (O (aD (M (H wr)) 0)) (N m) (N m+2)))):=(mo.o.alloc mo.o.size _).setCell (p:=(aD (M (H l)) j)) (Q6 _) _;have GX:Qk (∀k,k<j+1->dM (M (H l)) (Ql (wr.alloc (Qq (aK m) 3)) (aD (M (H l)) j) (Z (O (aD (M (H wr)) 0)) (N m) (N m+2))) 3 (E (a++[ai.mk (O (aD (M (H wr)) 0)) (N m+2) m]) k iz) (E f k iz).xs):=λk hk=>by
      by_cases bR:k<j
      .have e:E (a++[ai.mk (O (aD (M (H wr)) 0)) (N m+2) m]) k iz=E a k iz:=by simp only[List.getD];rw[XG X]
       rw[e];exact(Yv.o k bR).kept λb hl hb=>(Zv (by show b≠M (H l);omega)).trans (Zw hb)
      .obtain rfl:k=j:=X
       have e:E (a++[ai.mk (O (aD (M (H wr)) 0)) (N m+2) m]) k iz=ai.mk (O (aD (M (H wr)) 0)) (N m+2) m:=by simp only[List.getD];rw[Zo X,W,Nat.sub_self];rfl
       rw[e,<-bI.o];exact⟨M (H wr),rfl,K4,GB.of (w:=wr.alloc (Qq (aK m) 3)) (iB wr _) (Zv (by show M (H wr)≠M (H l);omega))⟩
     have UB:Qk (M (H (wr.alloc (Qq (aK m) 3)))=M (H wr)+1):=show _=_ by simp
     clear u Yx az aA aN Hy mo Yv D;obtain⟨wl,bg⟩:=eY (wr.alloc (Qq (aK m) 3));rw[<-bg]at ay aO bJ aP zL GX UB;clear bg;go_wp2_with fail;refine ay.mono ?_;rintro e w2 ⟨rfl,rfl⟩;clear ay;go_wp2;go_roundw
     case rel=>exact⟨j+1,a++[ai.mk (O (aD (M (H wr)) 0)) (N m+2) m],Qf,X,by rw[Zm,W];rfl,zL.o,by have:=UB.o;simp;omega,by rw[Q0];exact aP.o,GX.o⟩
     case measure=>exact Qw
    .obtain rfl:j=N f:=X
     -- the two marks behind,then the lists
     have e2:N f+2-N f=1+1:=X;have u:=Hy.o;rw[e2]at u;have aQ:=K4
     -- first mark
     obtain⟨wa,qY⟩:=eY ((Ql wr (aD (M (H l)) (N f)) (Value.slice (O (aD (M (H wr)) 0)) 1 1)).alloc (Qq #[I J 77777] 3));have o1:Qm wr (aD (M (H l)) (N f))=O (Z Qp 0 0):=by rw[u.cell];have:=kX (a.map ai.val) 1;rw[ZR,W]at this;exact this
     have z1:=u.frozen (N f);have aa:GB wa (M (H l)) 23 (iw (a.map ai.val++[Value.slice (O (aD (M (H wr)) 0)) 1 1]) 1):=by have A:=u.set (N f) (Value.slice (O (aD (M (H wr)) 0)) 1 1);have R:=jB (a.map ai.val) 1 (Value.slice (O (aD (M (H wr)) 0)) 1 1);rw[ZR,W]at R;rw[R]at A;rw[qY];exact A.of (Zw (by simpa using aQ))
     have aR:Bw l wa:=by have A:=mo.o.setCell (p:=(aD (M (H l)) (N f))) (Q6 _) (Value.slice (O (aD (M (H wr)) 0)) 1 1);rw[qY];exact A.alloc A.size _
     have aB:M (H wa)=M (H wr)+1:=by rw[qY];simp
     have aT:fT (M (H l)) wa 3 (Value.slice (O (aD (M (H wr)) 0)) 1 1):=⟨M (H wr),rfl,aQ,by
      have:=iB (Ql wr (aD (M (H l)) (N f)) (Value.slice (O (aD (M (H wr)) 0)) 1 1)) (Qq #[I J 77777] 3);rw[XF]at this;rw[qY];exact this⟩
     have D:∀k,k<N f->dM (M (H l)) wa 3 (E a k iz) (E f k iz).xs:=λk hk=>(Yv.o k hk).kept λb hl hb=>by rw[qY,Zw (by simpa using hb),Zv (by show b≠M (H l);omega)]
     have VO:=Zh qY.symm;clear qY;have aU:M (H l)<M (H wa):=X
     -- second mark
     obtain⟨wb,r⟩:=eY ((Ql wa (aD (M (H l)) (N f+1)) (Value.slice (O (aD (M (H wa)) 0)) 1 1)).alloc (Qq #[I J 77777] 3));have o2:Qm wa (aD (M (H l)) (N f+1))=O (Z Qp 0 0):=by rw[aa.cell];have:=kX (a.map ai.val++[Value.slice (O (aD (M (H wr)) 0)) 1 1]) 0;rw[Zm,ZR,W]at this;exact this
     have z2:=aa.frozen (N f+1);have aV:GB wb (M (H l)) 23 (a.map ai.val++[Value.slice (O (aD (M (H wr)) 0)) 1 1,Value.slice (O (aD (M (H wa)) 0)) 1 1]).toArray:=by
      have A:=aa.set (N f+1) (Value.slice (O (aD (M (H wa)) 0)) 1 1);have R:=jB (a.map ai.val++[Value.slice (O (aD (M (H wr)) 0)) 1 1]) 0 (Value.slice (O (aD (M (H wa)) 0)) 1 1);rw[Zm,ZR,W]at R;have h3:(iw (a.map ai.val++[Value.slice (O (aD (M (H wr)) 0)) 1 1]) 1).setIfInBounds (N f+1) (Value.slice (O (aD (M (H wa)) 0)) 1 1)=(a.map ai.val++[Value.slice (O (aD (M (H wr)) 0)) 1 1,Value.slice (O (aD (M (H wa)) 0)) 1 1]).toArray:=by refine R.trans ?_;unfold iw;simp
      rw[h3]at A;rw[r];exact A.of (Zw (by simpa using aU))
     have K:Bw l wb:=by have A:=aR.setCell (p:=(aD (M (H l)) (N f+1))) (Q6 _) (Value.slice (O (aD (M (H wa)) 0)) 1 1);rw[r];exact A.alloc A.size _
     have aC:∀b,M (H l)<b->b<M (H wa)->wb.heap[b]? = wa.heap[b]?:=λb hl hb=>by rw[r,Zw (by simpa using hb),Zv (by show b≠M (H l);omega)]
     have aW:fT (M (H l)) wb 3 (Value.slice (O (aD (M (H wa)) 0)) 1 1):=⟨M (H wa),rfl,aU,by
      have:=iB (Ql wa (aD (M (H l)) (N f+1)) (Value.slice (O (aD (M (H wa)) 0)) 1 1)) (Qq #[I J 77777] 3);rw[XF]at this;rw[r];exact this⟩
     have IY:=Zh r.symm;clear r;have ae:=C.o.xI;have bK:Qk (fu (M (H w)) wb 23 3 ⟨O (aD (M (H l)) 0),N f+2,a⟩ f (M (H l)) (Value.slice (O (aD (M (H wr)) 0)) 1 1) (Value.slice (O (aD (M (H wa)) 0)) 1 1)):=
      ⟨rfl,rfl,W,ae,λk hk=>((D k hk).kept aC).up X,aV,(aT.kept aC).up X,aW.up X⟩
     -- the list of the longer lists
     have OA:wb.ownsRow (M (H w)+1) 77 1 v (N (n.map aS.full)) (n.map aS.full):=by rw[ZR];exact Xc C.o.own (Q6 _) (λj _ hj=>K.block j hj)
     have bW:=K.size;obtain⟨v',w5,uf,l9,ag,⟨va,vm,vc,rfl⟩,VP⟩:=K3 wb (M (H w)+1) v (n.map aS.full) OA (by rw[ZR];omega) X (O (aD (M (H l)) 0)) (N f+2) (N f+2) 32;rw[ZR]at l9;have K5:(aS.mk (O (aD (M (H l)) 0)) (N f+2) a).full=Value.slice (O (aD (M (H l)) 0)) (N f+2) (N f+2):=by unfold aS.full;simp only;rw[W]
     rw[<-K5]at l9;have OC:∀x y:Qa,(#[c0,c1,c2,c3,c4,c5,c6,c7,c8,c9,c10,c11,c12,c13,Value.slice (O (aD (M (H w)) 0)) (N db+2) (N db+2),x]:Array Qa).setIfInBounds 15 y=#[c0,c1,c2,c3,c4,c5,c6,c7,c8,c9,c10,c11,c12,c13,Value.slice (O (aD (M (H w)) 0)) (N db+2) (N db+2),y]:=λ_ _=>rfl;have ak:=bK.o;rw[<-q]at L;have Nq:=C.o.next Ih.o hG0 L Tryz.ne1 Tryz.ne2 OC K (by rw[bH.o];exact ak) l9 ag VP;have au:(aS.mk (O (aD (M (H l)) 0)) (N f+2) a).val=Value.slice (O (aD (M (H l)) 0)) (N f) (N f+2):=by unfold aS.val;simp only;rw[W]
     rw[au]at Nq;have HN:=Zh Nq;have bL:Qm wb (aD G 15)=O v:=(K.cell (p:=(aD G 15)) C.o.g.lt).trans (C.o.g.cell 15);have S:∀b,b<=M (H w)->v.ownBlock≠O b:=λb hb e=>Qj ((ZJ C.o.own e).1);have Yy:GB w5 G 35 _:=C.o.g.of ((ag.block G (Qj C.o.g.lt) (S G (Qj Ih.o))).trans (K.block G C.o.g.lt));have ax:=Yy.at 14;have bX:=Yy.at 15;have Yz:=Yy.frozen 15;have af:GB w5 (M (H w)) 77 _:=C.o.row.of ((ag.block (M (H w)) X (S _ (Q6 _))).trans (K.block _ ae));have e3:N db+2-N n=(N db+1-N n)+1:=X;rw[e3]at af;have od:Qm w5 (aD (M (H w)) i)=O (Z Qp 0 0):=by rw[af.cell,<-q];have:=kX (n.map aS.val) (N db+1-N n);rw[ZR]at this;exact this
     have yd:=af.frozen i;obtain⟨aH,aI,aJ,rfl⟩:=ZK C.o.own;have Yu:¬M (H w)=G:=Qj Ih.o;have bM:¬G=M (H w):=Qj Ih.o;rw[q]at HN;have aX:=q;have HF:Qk _:=HN;clear Nq ak K5 au OC l9 ag VP OA aV K aC aW aa aR aT D Yv mo Hy u Yy af S VM Sv e2 e3 P HN aB;have R4:=Ih.o;go_upto_region 12 with fail;rw[VO.o];clear o1 z1 VO;go_upto_region 13 with fail;rw[IY.o];clear o2 z2 IY;go_wp2_with (first|(at_builtin;refine Xd rfl (.tmp 59) (.tmp 61) 32 rfl (Z aH aI aJ) (Z (O (aD (M (H wb)) 0)) 1 1) (Z va vm vc) w5 rfl rfl uf ?_));clear uf bL;go_wp2;go_region;go_wp2;go_roundw
     case rel=>exact⟨i+1,n++[aS.mk (O (aD (M (H l)) 0)) (N f+2) a],Z va vm vc,Qf,X,by rw[Zm,aX];rfl,HF.o⟩
     case measure=>exact Qw
  .obtain rfl:i=N db:=X
   have h:=C.o;obtain⟨aH,aI,aJ,rfl⟩:=ZK h.own;have R4:=Ih.o;have ae:=h.xI;have ax:=h.g.at 14;have B:=h.row;rw[q,show (N db)+2-N db=1+1 by omega]at B;have o1:Qm wr (aD (M (H w)) (N db))=O (Z Qp 0 0):=by rw[B.cell,<-q];have:=kX (n.map aS.val) 1;rw[ZR]at this;exact this
   have z1:=B.frozen (N db);have Yu:¬M (H w)=G:=X;have bM:¬G=M (H w):=X
   -- the first pair behind
   obtain⟨wa,qY⟩:=eY (((Ql wr (aD (M (H w)) (N db)) (Z (O (aD (M (H wr)+1) 0)) 1 1)).alloc (Qq #[I J 77777] 3)).alloc (Qq #[Z (O (aD (M (H wr)) 0)) 1 1] 23));obtain⟨wb,r⟩:=eY (((Ql wa (aD (M (H w)) (N db+1)) (Z (O (aD (M (H wa)+1) 0)) 1 1)).alloc (Qq #[I J 77777] 3)).alloc (Qq #[Z (O (aD (M (H wa)) 0)) 1 1] 23));obtain⟨aB,VR,bn,bq,bu,bA⟩:=nA.pair (x:=N db) (tI:=3) (tR:=23) ae qY;obtain⟨bP,VS,bB,bC,bD,bE⟩:=nA.pair (x:=N db+1) (tI:=3) (tR:=23) (bd:=M (H w)) X r;have EK:GB wa (M (H w)) 77 (iw (n.map aS.val++[Value.slice (O (aD (M (H wr)+1) 0)) 1 1]) 1):=by have A:=B.set (N db) (Z (O (aD (M (H wr)+1) 0)) 1 1);have R:=jB (n.map aS.val) 1 (Z (O (aD (M (H wr)+1) 0)) 1 1);rw[ZR,q]at R;rw[R]at A;exact A.of bn
   have OD:GB wb (M (H w)) 77 (n.map aS.val++[Value.slice (O (aD (M (H wr)+1) 0)) 1 1,Value.slice (O (aD (M (H wa)+1) 0)) 1 1]).toArray:=by
    have A:=EK.set (N db+1) (Z (O (aD (M (H wa)+1) 0)) 1 1);have R:=jB (n.map aS.val++[Value.slice (O (aD (M (H wr)+1) 0)) 1 1]) 0 (Z (O (aD (M (H wa)+1) 0)) 1 1);rw[Zm,ZR,q]at R;have h3:(iw (n.map aS.val++[Value.slice (O (aD (M (H wr)+1) 0)) 1 1]) 1).setIfInBounds (N db+1) (Z (O (aD (M (H wa)+1) 0)) 1 1)=(n.map aS.val++[Value.slice (O (aD (M (H wr)+1) 0)) 1 1,Value.slice (O (aD (M (H wa)+1) 0)) 1 1]).toArray:=by refine R.trans ?_;unfold iw;simp
    rw[h3]at A;exact A.of bB
   have VT:GB wb G 35 _:=h.g.of ((VS G X X).trans (VR G X X));have VU:GB wa G 35 _:=h.g.of (VR G X X);have bN:=VU.at 14;have o2:Qm wa (aD (M (H w)) (N db+1))=O (Z Qp 0 0):=by rw[EK.cell];have:=kX (n.map aS.val++[Value.slice (O (aD (M (H wr)+1) 0)) 1 1]) 0;rw[Zm,ZR,q]at this;exact this
   have z2:=EK.frozen (N db+1);have bY:=VT.at 14;have b9:=VT.at 9;have bZ:=VT.frozen 9;have av:=bE _ _ X (bA _ _ X h.jC);obtain⟨wf,Q⟩:=eY (Ql wb (aD G 9) (Z (O (aD (M (H w)) 0)) (N db) (N db+2)));have Tv:∀b,b≠G->wf.heap[b]? = wb.heap[b]?:=λb hb=>by rw[Q,Zv hb]
   have aF:∀b,M (H w)<b->b<M (H wr)->wf.heap[b]? = wr.heap[b]?:=λb hl hb=>by rw[Tv b X,VS b X X,VR b hb X]
   have R5:∀b,M (H w)<b->b<M (H wa)->wf.heap[b]? = wa.heap[b]?:=λb hl hb=>by rw[Tv b X,VS b hb X]
   have R6:∀b,M (H w)<b->b<M (H wb)->wf.heap[b]? = wb.heap[b]?:=λb hl hb=>Tv b X;have HF:Qk (Ox jf w wf G 35 77 23 3 (λx y z=>#[c0,c1,c2,c3,c4,c5,c6,c7,c8,x,c10,c11,c12,c13,y,z]) db n (Z aH aI aJ) (Z (O (aD (M (H wr)+1) 0)) 1 1) (Z (O (aD (M (H wa)+1) 0)) 1 1) (M (H wr)+1) (M (H wa)+1) (Z (O (aD (M (H wr)) 0)) 1 1) (Z (O (aD (M (H wa)) 0)) 1 1)):=by
    refine⟨by rw[Q];exact av.setCell (p:=(aD G 9)) hG0 _,λj hj ah=>?_,by rw[Q];simp;omega,q,?_,OD.of (Tv _ Yu),λi hi=>?_,?_,rfl,rfl,X,X,bq.of (R5 _ X X),bC.of (R6 _ X X),bu.kept R5,bD.kept R6⟩
    .rw[Tv j ah,VS j X X,VR j X X];exact h.zT j hj ah
    .have:=VT.set 9 (Z (O (aD (M (H w)) 0)) (N db) (N db+2));rw[Q];exact this
    .obtain⟨Tq,v1,v2,ht⟩:=h.tab i hi;exact⟨Tq,v1,v2,ht.kept aF⟩
    .exact Xc h.own (Q6 _) (λj hj hl=>aF j X hl)
   obtain⟨VO,IY,bQ⟩:=kH qY.symm r.symm Q.symm;have bS:G<M (H wr):=X;have cu:M (H w)<M (H wa):=X;clear h C qY r Q B EK OD VT VU av Tv aF R5 R6 aB bP VR bn bq bu bA VS bB bC bD bE HX aY SF;go_upto_region 16 with fail;rw[VO.o];clear VO o1 z1 ax;go_upto_region 17 with fail;rw[IY.o];clear IY o2 z2 bN;go_wp2;rw[bQ.o];go_end0;exact⟨rfl,_,_,_,_,_,_,_,_,HF.o⟩
def Tryz.R7:(V.info? 48).map (λi=>(i.zero,i.size,i.bytes))=O (O (Qr zt.toArray),6,48):=Qe
def Tryz.R8:(V.info? 52).map (λi=>(i.zero,i.size,i.bytes))=O (O (Qr zn.toArray),7,88):=Qe
def Tryz.R9:(V.info? 48).map (·.size)=O 6:=Qe
def K7(n:Nat)(h:n*48<=140737488351232)(w:U) :
  (Instr.makeSlice 22 (.int J ((n:Int)+2)) (.int J ((n:Int)+2))).run V w=.ok (.slice (O (aD (M (H w)) 0)) (n+2) (n+2)) (w.alloc (Qq (madeCells zt.toArray ((n+2)*6)) 48)):=by obtain⟨i,e,a,b,d⟩:=Xe Tryz.R7;have:=run_make (P:=V) w 22 48 i _ underlying22 e a J J ((n:Int)+2) ((n:Int)+2) X (Int.le_refl _) (by rw[d];omega) X;rw[b,show ((n:Int)+2).toNat=n+2 by omega]at this;simpa [Value.cells,zt] using this
def K9(w y:U)(Nq:Nat)(ao:JW)(cap:Nat)(ts:Qu af)(h:aI w ao ts)(hb:Bw w y)(hN:Nq=M (H y))(ty:TypeId) :
  (Builtin.copy_ #[22,22] ty #[Z (O (aD Nq 0)) (N ts+2) (N ts+2),Z ao (N ts) cap]).run V (y.alloc (Qq (madeCells zt.toArray ((N ts+2)*6)) 48)) =
   .ok (goInt (N ts)) (y.alloc (Qq (uI ts) 48)):=by subst hN;exact qd (P:=V) y 22 48 6 zt.toArray ao (N ts) cap (ts.flatMap gV) X rfl (iX _ 6 eQ ts) (Jo (h.below hb)) (Jp ts) underlying22 Tryz.R9 ty
def xB(y:U)(Nq:Nat)(ts:Qu af)(t:TypeId)(hN:Nq=M (H y)):Ql (y.alloc (Qq (uI ts) t)) (aD Nq (N ts*6)) (I J 77777)=y.alloc (Qq (pY ts) t):=by subst hN;rw[eu,Fh]
def xC(y:U)(Nq:Nat)(ts:Qu af)(t:TypeId)(hN:Nq=M (H y)):Ql (y.alloc (Qq (pY ts) t)) (aD Nq ((N ts+1)*6)) (I J 77777)=y.alloc (Qq (fI ts) t):=by subst hN;rw[eu,Fj]
def DC(y:U)(Nq:Nat)(ts:Qu af)(t:TypeId)(hN:Nq=M (H y)):Qm (y.alloc (Qq (uI ts) t)) (aD Nq (N ts*6))=O (I J 0):=by subst hN;rw[World.cell?_alloc_new,Jm]
def DD(y:U)(Nq:Nat)(ts:Qu af)(t:TypeId)(hN:Nq=M (H y)):Qm (y.alloc (Qq (pY ts) t)) (aD Nq ((N ts+1)*6))=O (I J 0):=by subst hN;rw[World.cell?_alloc_new,Jn]
def nC{bs:Qu (Nat × Obj)}(hP:Pre w W G tG c bs)(ao:JW)(cap:Nat)(xs:KJ)(hx:IntsAt w ao xs)(hsz:N xs*8<=140737488351232) :
  Calls V 10 #[Z ao (N xs) cap] W λe a=>∃b,e=Qs (Z (O (aD b 0)) (N xs) (N xs+2))/\Pre w a G tG c ((b,Qq (aK xs) 3)::bs):=
 (qO ao cap xs W (hx.below hP.jC) hsz).mono λ_ _ ⟨he,hw⟩=>⟨M (H W),he,by rw[hw];exact hP.alloc _⟩
def qW(ao bo:JW)(cap cap':Nat)(xs:KJ)(w:U)(hx:IntsAt w ao xs)(hy:IntsAt w bo xs) :
  Calls V 39 #[Z ao (N xs) cap,Z bo (N xs) cap'] w λe m=>e=Qs (Qo T)/\∃n,m = w.drewN n:=by
 have p:=hx.1;have j:((N xs:Int) != N xs)=false:=Qb;go_enter func39,ntmps39;go_wp2;go_loopw [5] (λi wr=>∃k:Nat,k<=N xs/\i=I J k/\∃n,wr=w.drewN n) (λi _=>N xs-(intOf i).toNat)
 case atStart=>exact⟨0,ZP _,rfl,0,rfl⟩
 case round=>
  obtain⟨k,u,rfl,n,rfl⟩:=hrel;by_cases a:k<N xs
  .obtain⟨b,l,rfl,f⟩:=hx.get a;obtain⟨v,g,rfl,d⟩:=hy.get a;have q:=f k a;have r:=d k a;clear f d hx hy;generalize E xs k 0=x at*;have t:(x != x)=false:=Qb
   go_wp2;go_quiet (fail);go_wp2;go_roundw
   case rel=>exact⟨k+1,X,Qf,_,rfl⟩
   case measure=>exact Qw
  .go_wp2;go_ret;exact⟨rfl,_,rfl⟩
theorem rY(h:GB w b t (aK xs))(hl:N xs<=1152921504606846976):IntsAt w (O (aD b 0)) xs:=by refine⟨hl,λi a=>⟨b,0,rfl,?_⟩⟩;rw[ZQ,h.cell i];unfold aK;grind
def Nh(xs:KJ):(aK xs)[N xs]? = O (I J 77777):=by simp[aK]
def Ni(xs:KJ):(aK xs)[N xs+1]? = O (I J 77777):=by simp[aK]
def gK(b:Nat)(bo:JW)(cap':Nat)(xs:KJ)(w:U)(hG:GB w b 3 (aK xs))(hy:IntsAt w bo xs) :
  Cb 18 #[Z (O (aD b 0)) (N xs) (N xs+2),Z bo (N xs) cap'] w (Qo T):=by
 have d:=hy.1;have f:((N xs:Int) != N xs)=false:=Qb;have g:Qm w (aD b (N xs))=O (I J 77777):=by rw[hG.cell,Nh]
 have i:Qm w (aD b (N xs+1))=O (I J 77777):=by rw[hG.cell,Ni]
 have a:=qW (O (aD b 0)) bo (N xs+2) cap' xs w (rY hG d) hy;go_enter func18,ntmps18;go_wp2_with fail;refine a.mono ?_;clear a;rintro e j ⟨rfl,n,rfl⟩;go_wp2;go_ret;exact⟨rfl,Zc (Q5 _ _) _⟩
def lY(b:Nat)(w:U)(hG:GB w b 3 #[I J 77777]) :
  Ce 40 #[Z (O (aD b 0)) 1 1] w (Qo T):=by have a:Qm w (aD b 0)=O (I J 77777):=hG.cell 0;go_enter func40,ntmps40;go_wp2;go_ret;exact⟨rfl,rfl⟩
def DF{t:Nat}(h:GB w b t (fI ts))(hl:N ts<=192153584101141162):aI w (O (aD b 0)) ts:=by
 refine⟨hl,λi d=>⟨b,0,rfl,?_⟩⟩;have a:∀j,j<6->Qm w (aD b (0+(i*6+j)))=(gV (E ts i tz))[j]?:=λj e=>by rw[ZQ,h.cell];unfold fI;rw[Zp];exact pW gV 6 eQ tz ts _ i j d e
 exact⟨a 0 X,a 1 X,a 2 X,a 3 X,a 4 X,a 5 X⟩
def Nj{t:Nat}{cs:Qu aF}(h:GB w b t (bN cs))(hl:N cs<=230584300921369395):bY w (O (aD b 0)) cs:=by
 refine⟨hl,λi d=>⟨b,0,rfl,?_⟩⟩;have a:∀j,j<5->Qm w (aD b (0+(i*5+j)))=(aF.vals (E cs i cz))[j]?:=λj e=>by rw[ZQ,h.cell];unfold bN;rw[Zp];exact pW aF.vals 5 eP cz cs _ i j d e
 exact⟨a 0 X,a 1 X,a 2 X,a 3 X,a 4 X⟩
def iy(ls:Qu aA)(A:Nat->Nat):Qu aA:=(List.range (N ls)).map λi=>⟨O (aD (A i) 0),(E ls i lz).cs.length+2,(E ls i lz).cs⟩
def eO(ls:Qu aA)(A:Nat->Nat):N (iy ls A)=N ls:=by simp[iy]
def rZ(ls:Qu aA)(A:Nat->Nat)(hi:i<N ls):E (iy ls A) i lz=⟨O (aD (A i) 0),(E ls i lz).cs.length+2,(E ls i lz).cs⟩:=by unfold iy;simp[List.getD,hi]
def yM(ls:Qu aA)(A:Nat->Nat):(iy ls A).map aA.cs=ls.map aA.cs:=by
 apply List.ext_getElem?;intro i;by_cases a:i<N ls
 .simp[iy,a]
 .simp[iy,a]
def nD(q:ae)(bf bk bu be bo bw:Nat)(A:Nat->Nat):ae:=
 ⟨⟨O (aD bf 0),N q.src.xs+2,q.src.xs⟩,O (aD bw 0),N q.wh+2,iy q.wh A,q.group,⟨O (aD bk 0),N q.keys.xs+2,q.keys.xs⟩,⟨O (aD bu 0),N q.sums.xs+2,q.sums.xs⟩,⟨O (aD be 0),N q.ay.xs+2,q.ay.xs⟩,⟨O (aD bo 0),N q.ord.xs+2,q.ord.xs⟩⟩
def BB(q:ae)(bf bk bu be bo bw:Nat)(A:Nat->Nat)(ts:Qu af):(nD q bf bk bu be bo bw A).check ts=q.check ts:=by have:(nD q bf bk bu be bo bw A).kE=q.kE:=yM q.wh A;unfold ae.check;rw[this];rfl
def Nk{tS:TypeId}{ls:Qu aA}{A:Nat->Nat}{f:Nat->Qa}(hn:n=N ls)(h:w.rowIs b t (n+2) f)(hf:∀i,i<n->f i=Z (O (aD (A i) 0)) (E ls i lz).cs.length ((E ls i lz).cs.length+2))
  (hal:∀i,i<n->GB w (A i) tS (bN (E ls i lz).cs)) (hl:N ls<=1152921504606846976) (hcl:∀i,i<N ls->(E ls i lz).cs.length<=230584300921369395):bM w (O (aD b 0)) (iy ls A):=by
 subst hn;refine⟨by rw[eO];exact hl,λi a=>⟨b,0,rfl,?_⟩,λi a=>?_⟩
 .rw[eO]at a;rw[ZQ,h.cell X,hf i a]
  show _=O (E (iy ls A) i lz).val;rw[rZ _ _ a];rfl
 .rw[eO]at a;rw[rZ _ _ a];exact Nj (hal i a) (hcl i a)
section
theorem fu.had{rs:Qu ai}(h:fu lo W tR tI t' rs Tq v1 v2)(hl:N rs<=1152921504606846976)(hr:∀j,j<N rs->(E rs j iz).xs.length<=1152921504606846976):yR W t'.ad t'.rs:=by
 have g:=h.len;have b:∀j,j<N t'.rs->NV.At (E t'.rs j iz) W:=λj f=>by
  obtain⟨B,e,_,k⟩:=h.rows j X;rw[e];refine⟨⟨hr j X,λi m=>⟨B,0,rfl,?_⟩⟩,λa d=>?_,λe=>(by cases e)⟩
  .have l:i<(E rs j iz).xs.length:=m;rw[ZQ,k.cell i];unfold aK
   grind
  .cases d
   exact k.lt
 refine⟨⟨X,λj f=>⟨Tq,0,h.ad,?_⟩,λj f=>(b j f).1⟩,λa d=>?_,b⟩
 .rw[ZQ,h.blk.cell j,Zp,XG Qg,List.getElem?_map]
  simp_all
 .rw[h.ad]at d
  cases d;exact h.blk.lt
variable {w w':U} {G tG tC tA tS tI tT tN tL tR:Nat} {ts:Qu af} {q:ae} {db cZ:Qu aS} {bc bf bk bu be bo bw bp bd:Nat} {v vr u1 u2:Qa} {A:Nat->Nat} {k1 k2 s1 s2:Nat} {x1 x2:Qa}
variable {w w':U} {G tG tC tA tS tI tT tN tL tR:Nat} {ts:Qu af} {q:ae} {db cZ:Qu aS} {bc bf bk bu be bo bw bp bd:Nat} {v vr u1 u2:Qa} {A:Nat->Nat} {k1 k2 s1 s2:Nat} {x1 x2:Qa}
end
def nE(ao bo:JW)(cap cap':Nat)(ls ms:Qu aA)(w:U)(hx:bM w ao ls)(hy:bM w bo ms)(he:N ls=N ms)(hcs:∀i,i<N ls->(E ls i lz).cs=(E ms i lz).cs) :
  Cb 17 #[Z ao (N ls) cap,Z bo (N ms) cap'] w (Qo T):=by
 have K:=hx.1;rw[<-he];have u:((N ls:Int) != N ls)=false:=Qb;go_enter func17,ntmps17;go_wp2;go_loopw [5] (λi wr=>∃k:Nat,k<=N ls/\i=I J k/\∃n,wr=w.drewN n) (λi _=>N ls-(intOf i).toNat)
 case atStart=>exact⟨0,ZP _,rfl,0,rfl⟩
 case round=>
  obtain⟨k,L,rfl,n,rfl⟩:=hrel;by_cases e:k<N ls
  .obtain⟨b,z,rfl,q⟩:=hx.2.1.get e;obtain⟨P,r,rfl,g⟩:=hy.2.1.get (show k<N ms by omega);have j:=q k e;have l:=g k X;have d:=hx.2.2 k e;have f:=hy.2.2 k X;have p:=hcs k e;clear q g hx hy hcs;generalize E ls k lz=c1,E ms k lz=c2 at*;obtain⟨Q,R,a⟩:=c1;obtain⟨A,B,C⟩:=c2;simp only at p d f;subst p;unfold aA.val at j l;simp only at j l;have v:=d.1;have y:((N a:Int) != N a)=false:=Qb
   go_wp2;go_quiet (fail);go_wp2;go_loopw [6] (λi wr=>∃m:Nat,m<=N a/\i=I J m/\∃n,wr=w.drewN n) (λi _=>N a-(intOf i).toNat)
   case atStart=>exact⟨0,ZP _,rfl,_,World.drewN_drewN _ _ _⟩
   case round=>
    obtain⟨m,S,rfl,W,rfl⟩:=hrel;by_cases t:m<N a
    .obtain⟨b3,D,rfl,e0,e1,e2,e3,e4⟩:=d.2 m t;obtain⟨b4,G,rfl,i0,i1,i2,i3,i4⟩:=f.2 m t;generalize E a m cz=cc at*;clear d f;go_wp2;go_quiet (fail);go_wp2;go_roundw
     case rel=>exact⟨m+1,X,Qf,_,rfl⟩
     case measure=>exact Qw
    .go_wp2;go_roundw
     case rel=>exact⟨k+1,X,Qf,_,rfl⟩
     case measure=>exact Qw
  .go_wp2;go_ret;exact⟨rfl,Zc (Q5 _ _) _⟩
