import Derived.Test.YtpcfbajdeipgbaaGreatDoorX14
import Derived.Test.YtpcfbajdeipgbaaGreatDoorX15
set_option linter.all false
set_option maxRecDepth 100000
set_option maxHeartbeats 0
namespace Go.Proofs.Zz
open Go.RowKit Go.Shelf
open List renaming length->N,getD->E
open Go.Value renaming slice->Z,int->I,bool->EP,agg->FN
open Go.Proofs.Tryz renaming prog->V
open Option renaming some->O,none->E5
open Go.IntKind renaming i64->J
open Bool renaming false->F,true->T
open Go renaming World->U
open Go.World renaming heap->H,cell?->Am
open _root_.Array renaming size->M
open Go.RowKit renaming Hid->Wl
open Go.Obj renaming cells->FL
open Go.Ending renaming returned->FR
variable {a b:Int} {xs:List Int} {k:Nat}
def eqB(h:a=b):(a==b)=true:=by simpa using h
def neB(h:¬a=b):(a==b)=false:=by simpa using h
def Wp(ao:Option Addr)(cap:Nat)(xs:List Int)(v:Int)(w:U)(hx:aA w ao xs) :
  Calls V 167 #[Z ao (N xs) cap,I J v] w λe A=>∃r,e=FR (I J r)/\foundAt r (xs.any λx=>decide (v=x))/\A = w:=by
 have B:=hx.1;go_enter Tryz.func167,Tryz.ntmps167;go_wp2;go_loop [8] (λi=>∃k:Nat,k<=N xs/\i=I J k/\Wl (∀j,j<k->decide (v=E xs j 0)=F)) (λi=>N xs-(intOf i).toNat)
 case atStart=>exact⟨0,Q4 _,rfl,λj m=>absurd m (by omega)⟩
 case round=>
  obtain⟨k,C,rfl,p⟩:=hrel;by_cases d:k<N xs
  .obtain⟨b,off,rfl,q⟩:=hx.get d;have t:=q k d;have g:Wl (decide (v=E xs k 0)=T->(xs.any λx=>decide (v=x))=T):=λh=>M4 (z:=0) d h
   generalize f:E xs k 0=x at*;have u:=Zh f;clear f q hx;by_cases a:v=x
   .have y:=eqB a;have l:=Zh a;clear a;go_wp2;go_ret;exact⟨_,Qe rfl,⟨by omega,by rw[g.o (QD l.o)];simp⟩,rfl⟩
   .have y:=neB a;have l:=Zh a;clear a;go_wp2;go_round
    case rel=>
     refine⟨k+1,by omega,by go_num,λj m=>?_⟩;by_cases n:j=k
     .subst n;rw[u.o];exact QX l.o
     .exact p.o j (by omega)
    case measure=>simp[intOf];omega
  .have g:Wl ((xs.any λx=>decide (v=x))=F):=any_none (z:=0) (λj m=>p.o j (by omega));go_wp2;go_ret;exact⟨_,Qe rfl,⟨by omega,by rw[g.o];rfl⟩,rfl⟩
def Kw(ao:Option Addr)(cap:Nat)(xs:List Int)(v:Int)(w:U)(hx:aA w ao xs) :
  Ce 146 #[Z ao (N xs) cap,I J v] w (EP (xs.any λx=>decide (v=x))):=by have a:=Wp ao cap xs v w hx;go_enter Tryz.func146,Tryz.ntmps146;go_wp2_with fail;refine a.mono ?_;clear a;rintro e f ⟨r,rfl,b,rfl⟩;have d:=Zh b.2;clear b;go_wp2;go_ret;exact⟨Qd d.o,rfl⟩
theorem aA.front{w:U}{ao:Option Addr}(h:aA w ao xs)(hk:k<=N xs):aA w ao (xs.take k):=by
 have a:N (xs.take k)=k:=by rw[XK];omega
 refine⟨by have:=h.1;omega,λi f=>?_⟩;obtain⟨b,off,e,d⟩:=h.2 i (by omega);grind
theorem uZ(ao:Option Addr)(cap:Nat)(xs:List Int)(w:U)(hx:aA w ao xs)(hcap:N xs<=cap) :
  Ce 94 #[Z ao (N xs) cap] w (EP (dI xs)):=by
 have L:=hx.1;go_enter Tryz.func94,Tryz.ntmps94;go_wp2;go_loop [7] (λi=>∃k:Nat,k<=N xs/\i=I J k/\Wl (∀i,i<k->∀j,j<i->E xs i 0≠E xs j 0)) (λi=>N xs-(intOf i).toNat)
 case atStart=>exact⟨0,Q4 _,rfl,λi z=>absurd z (by omega)⟩
 case round=>
  obtain⟨k,G,rfl,v⟩:=hrel;by_cases d:k<N xs
  .have f:=aA.front hx G;obtain⟨b,off,rfl,y⟩:=hx.get d;have A:=y k d;have m:=Kw (O (aD b off)) cap (xs.take k) (E xs k 0) w f;have a:N (xs.take k)=k:=by rw[XK];omega
   rw[a]at m;have B:Wl (((xs.take k).any λx=>decide (E xs k 0=x))=T->∃j,j<k/\E xs k 0=E xs j 0):=λh=>by
    rw[List.any_eq_true]at h;obtain⟨x,hx,hd⟩:=h;obtain⟨j,r,rfl⟩:=Qv hx;have n:j<k:=by omega
    have:=Zn hd;refine⟨j,n,this.trans ?_⟩;grind
   have C:Wl (((xs.take k).any λx=>decide (E xs k 0=x))=F->∀j,j<k->E xs k 0≠E xs j 0):=λh j r l=>by
    rw[List.any_eq_false]at h;have p:j<N xs:=by omega
    refine h ((xs.take k)[j]'(by omega)) (Qi _) (QD ?_);rw[l];simp[List.getD,p]
   generalize K:((xs.take k).any λx=>decide (E xs k 0=x))=Yq at*;clear K a f y hx;generalize g:E xs k 0=x at*;have u:=Zh g;clear g;go_wp2_with fail;refine m.mono ?_;clear m;rintro e P ⟨rfl,rfl⟩;cases Yq
   .go_wp2;go_round
    case rel=>
     refine⟨k+1,by omega,by go_num,λi z=>?_⟩;by_cases t:i=k
     .subst t;rw[u.o];exact C.o (by trivial)
     .exact v.o i (by omega)
    case measure=>simp[intOf];omega
   .obtain⟨j,r,l⟩:=B.o rfl;have D:=Zh (Gj d r (by rw[u.o];exact l));clear l;go_wp2;go_ret;exact⟨Qd D.o,rfl⟩
  .go_wp2;go_ret;have q:k=N xs:=by omega
   subst q;exact⟨Qd (Eu v.o),rfl⟩
def Om(c:aF)(n:Int)(w:U) :
  Cb 145 #[c.val,I J n] w (EP (dC c n)):=by
 have b:=@aev c n;have d:=@Ay c n;have f:=@Dk c n;have g:=@Pm c n;have i:=@Pn c n;obtain⟨z,r,left,a,right⟩:=c;unfold aF.val;simp only at b d f g i;generalize dC ⟨z,r,left,a,right⟩ n=B at*;have q:=λx=>yK left n x;have l:=λx=>yK right n x;have m:=λx=>Ol right x;generalize Dj right n=Yq at*;generalize (decide (-1000<=right)&&decide (right<=1000))=Zq at*;cases hL:Dj left n
 .have j:=Zh (b hL);rw[hL]at q;clear b d f g i l m hL;go_enter Tryz.func145,Tryz.ntmps145;go_wp2_with fail;refine(q _).mono ?_;clear q;rintro e t ⟨rfl,rfl⟩;go_wp2;go_ret;exact⟨Qd j.o,bJ _ _⟩
 .rw[hL]at q;by_cases k:r=0∨r=1
  .cases a
   .have j:=Zh (f hL k rfl);clear b d f g i m hL;rcases k with k|k
    all_goals
     subst k;go_enter Tryz.func145,Tryz.ntmps145;go_wp2_with fail;refine(q _).mono ?_;rintro e t ⟨rfl,rfl⟩;go_wp2_with fail;refine(l _).mono ?_;rintro e A ⟨rfl,rfl⟩;go_wp2;go_ret;exact⟨Qd j.o,bJ _ _⟩
   .have j:=Zh (d hL k rfl);clear b d f g i l hL;rcases k with k|k
    all_goals
     subst k;go_enter Tryz.func145,Tryz.ntmps145;go_wp2_with fail;refine(q _).mono ?_;rintro e t ⟨rfl,rfl⟩;go_wp2_with fail;refine(m _).mono ?_;rintro e A ⟨rfl,rfl⟩;go_wp2;go_ret;exact⟨Qd j.o,bJ _ _⟩
  .by_cases v:r=2
   .have j:Wl ((!a&&decide (right=0))=B):=g hL v;clear b d f g i l m hL k;subst v
    cases a
    .by_cases u:right=0
     .have p:=Zh (show T=B by have:=j.o;simpa [u] using this);have y:=eqB u;clear j u;go_enter Tryz.func145,Tryz.ntmps145;go_wp2_with fail;refine(q _).mono ?_;rintro e t ⟨rfl,rfl⟩;go_wp2;go_ret;exact⟨Qd p.o,bJ _ _⟩
     .have p:=Zh (show F=B by have:=j.o;simpa [u] using this);have y:=neB u;clear j u;go_enter Tryz.func145,Tryz.ntmps145;go_wp2_with fail;refine(q _).mono ?_;rintro e t ⟨rfl,rfl⟩;go_wp2;go_ret;exact⟨Qd p.o,bJ _ _⟩
    .have p:=Zh (show F=B by have:=j.o;simpa using this);go_enter Tryz.func145,Tryz.ntmps145;go_wp2_with fail;refine(q _).mono ?_;rintro e t ⟨rfl,rfl⟩;go_wp2;go_ret;exact⟨Qd p.o,bJ _ _⟩
   .have j:=Zh (i (by omega) (by omega) v);have C:(r==0)=false:=neB (by omega);have D:(r==1)=false:=neB (by omega);have G:=neB v;clear b d f g i l m hL k v;go_enter Tryz.func145,Tryz.ntmps145;go_wp2_with fail;refine(q _).mono ?_;rintro e t ⟨rfl,rfl⟩;go_wp2;go_ret;exact⟨Qd j.o,bJ _ _⟩
def Tf(ad:Option Addr)(n cap:Nat)(w:U) :
  Cb 88 #[FN #[Z ad n cap]] w (EP (decide (3<n))):=by go_enter Tryz.func88,Tryz.ntmps88;go_wp2;go_ret;exact⟨Qd (decide_eq_decide.2 (by omega)),bJ _ _⟩
def Ws(ao:Option Addr)(cap:Nat)(ls:List az)(w:U)(hx:bR w ao ls) :
  Calls V 141 #[Z ao (N ls) cap,.func (.func 88) #[] #[]] w λe C=>∃r,e=FR (I J r)/\foundAt r (ls.any λc=>decide (3<N c.cs))/\Bw w C:=by
 have D:=hx.1;go_enter Tryz.func141,Tryz.ntmps141;go_wp2;go_loopw [8] (λi wr=>∃k:Nat,k<=N ls/\i=I J k/\Wl (∀j,j<k->decide (3<(E ls j lz).cs.length)=F)/\Bw w wr) (λi _=>N ls-(intOf i).toNat)
 case atStart=>exact⟨0,Q4 _,rfl,λj q=>absurd q (by omega),Qr _ _⟩
 case round=>
  obtain⟨k,G,rfl,v,l⟩:=hrel;by_cases d:k<N ls
  .obtain⟨b,off,rfl,y⟩:=hx.2.1.get d;have m:=cB l (y k d);unfold az.val at m;have n:Wl (decide (3<(E ls k lz).cs.length)=T->(ls.any λc=>decide (3<N c.cs))=T):=λh=>M4 (p:=λc:az=>decide (3<N c.cs)) (z:=lz) d h
   generalize (E ls k lz).ad=ad at*;generalize (E ls k lz).cap=cp at*;generalize g:(E ls k lz).cs.length=cl at*;have A:=Zh g;have f:=Tf ad cl cp wr;clear g y hx;by_cases t:3<cl
   .rw[QD t]at f;go_wp2_with fail;refine f.mono ?_;clear f;rintro e B ⟨rfl,a⟩;go_wp2;go_ret;exact⟨_,Qe rfl,⟨by omega,by rw[n.o (QD t)];simp⟩,aj l a⟩
   .rw[QX t]at f;go_wp2_with fail;refine f.mono ?_;clear f;rintro e B ⟨rfl,a⟩;go_wp2;go_roundw
    case rel=>
     refine⟨k+1,by omega,by go_num,λj q=>?_,aj l a⟩;by_cases u:j=k
     .subst u;rw[A.o];exact QX (by omega)
     .exact v.o j (by omega)
    case measure=>simp[intOf];omega
  .have n:Wl ((ls.any λc=>decide (3<N c.cs))=F):=any_none (z:=lz) (λj q=>v.o j (by omega));go_wp2;go_ret;exact⟨_,Qe rfl,⟨by omega,by rw[n.o];rfl⟩,l⟩
def Ky(ao:Option Addr)(cap:Nat)(ls:List az)(w:U)(hx:bR w ao ls) :
  Cb 87 #[Z ao (N ls) cap,.func (.func 88) #[] #[]] w (EP (mM ls (N ls))):=by have a:=Ws ao cap ls w hx;rw[aeu]at a;go_enter Tryz.func87,Tryz.ntmps87;go_wp2_with fail;refine a.mono ?_;clear a;rintro e g ⟨r,rfl,d,b⟩;have f:=Zh d.2;clear d;go_wp2;go_ret;exact⟨Qd f.o,b⟩
def Wu(q:af)(w:U)(hq:bR w q.dx q.wh) :
  Cb 46 #[FN q.cells] w (EP (jB q.src.xs q.qX q.keys.xs q.sums.xs q.aH.xs q.ord.xs)):=by
 have j:=Zh q.YI;generalize jB q.src.xs q.qX q.keys.xs q.sums.xs q.aH.xs q.ord.xs=FB at*;have m:=λo=>Ky q.dx q.aP q.wh (w.alloc o) (hq.below (bJ _ _));have r:=hq.1;clear hq;obtain⟨src,B,C,d,v,a,f,l,b⟩:=q;simp only at j m r;unfold af.cells ae.val;simp only;by_cases p:5<N src.xs∨8<N d∨8<N l.xs∨4<N a.xs∨4<N f.xs∨4<N b.xs
 .have t:=Zh (show T=FB by rw[j.o,QD p,Bool.true_or]);clear m j;have g:(5<N src.xs)∨(¬5<N src.xs/\8<N d)∨(¬5<N src.xs/\¬8<N d/\4<N b.xs)∨(¬5<N src.xs/\¬8<N d/\¬4<N b.xs/\8<N l.xs)∨
   (¬5<N src.xs/\¬8<N d/\¬4<N b.xs/\¬8<N l.xs/\4<N a.xs)∨(¬5<N src.xs/\¬8<N d/\¬4<N b.xs/\¬8<N l.xs/\¬4<N a.xs/\4<N f.xs):=by omega
  clear p;rcases g with i|⟨i,k⟩|⟨i,k,n⟩|⟨i,k,n,u⟩|⟨i,k,n,u,z⟩|⟨i,k,n,u,z,A⟩
  all_goals
   go_enter Tryz.func46,Tryz.ntmps46;go_wp2;go_ret;exact⟨Qd t.o,bJ _ _⟩
 .have t:=Zh (show mM d (N d)=FB by rw[j.o,QX p,Bool.false_or]);have i:¬5<N src.xs:=by omega
  have k:¬8<N d:=by omega
  have n:¬8<N l.xs:=by omega
  have u:¬4<N a.xs:=by omega
  have z:¬4<N f.xs:=by omega
  have A:¬4<N b.xs:=by omega
  clear j p;generalize mM d (N d)=Yq at*;go_enter Tryz.func46,Tryz.ntmps46;go_wp2_with fail;refine(m _).mono ?_;clear m;rintro e D ⟨rfl,y⟩;go_wp2;go_ret;exact⟨Qd t.o,aj (bJ _ _) y⟩
def Oo(q:af)(w:U)(h1:N q.keys.xs<=1000)(h2:N q.sums.xs<=1000) :
  Cb 93 #[FN q.cells] w (I J (rQ q.group q.keys.xs q.sums.xs q.aH.xs)):=by
 obtain⟨src,f,g,i,a,b,d,j,e⟩:=q;simp only at h1 h2;unfold af.cells ae.val;cases a
 .go_enter Tryz.func93,Tryz.ntmps93;go_wp2;go_ret;exact⟨Qe rfl,bJ _ _⟩
 .go_enter Tryz.func93,Tryz.ntmps93;go_wp2;go_ret;exact⟨Qe rfl,bJ _ _⟩
def Ea(ao:Option Addr)(cap:Nat)(ts:List ag)(ni:Option Addr)(dV:Nat)(xs:List Int)(w:U)(hx:aN w ao ts)(hc:dL ts=T)(hq:aA w ni xs)(h5:N xs<=5)(ha:aM xs (N ts)=T) :
  Ce 90 #[Z ao (N ts) cap,Z ni (N xs) dV] w (I J (ak ts xs)):=by
 obtain⟨d,e⟩:=aV hc ha;clear hc ha;go_enter Tryz.func90,Tryz.ntmps90;go_wp2;go_loop [5,10] (λn i=>∃k:Nat,k<=N xs/\i=I J k/\n=I J (ak ts (xs.take k))) (λ_ i=>N xs-(intOf i).toNat)
 case atStart=>exact⟨0,Q4 _,rfl,rfl⟩
 case round=>
  obtain⟨k,m,rfl,rfl⟩:=hrel;have g:=Qp d.o e.o k m;by_cases a:k<N xs
  .obtain⟨t,p,rfl,f⟩:=hq.get a;have j:=f k a;have q:=Qo e.o a;have r:=qW d.o (i:=xs[k].toNat) (by omega);obtain⟨b,off,rfl,u,-⟩:=hx.2 xs[k].toNat (by omega);have l:=Zh (Qk ts xs k a);generalize (E ts xs[k].toNat tz).cols=cc at*;generalize ak ts (xs.take k)=W0 at*;clear f hx hq;go_wp2;go_round
   case rel=>exact⟨k+1,by omega,by go_num,by rw[l.o]⟩
   case measure=>simp[intOf];omega
  .go_wp2;go_ret;have:k=N xs:=by omega
   subst this;simp
def Ot{ls:List az}{n:Int}{k:Nat}(hk:k<N ls)(h:iH (E ls k lz).cs n=F):F=dZ (ls.map az.cs) n:=
 (@Bv ⟨⟨E5,0,[]⟩,E5,0,ls,F,⟨E5,0,[]⟩,⟨E5,0,[]⟩,⟨E5,0,[]⟩,⟨E5,0,[]⟩⟩ n k hk h).symm
def Kz{ls:List az}{n:Int}(h:∀k,k<N ls->iH (E ls k lz).cs n=T):T=dZ (ls.map az.cs) n:=
 (@zQ ⟨⟨E5,0,[]⟩,E5,0,ls,F,⟨E5,0,[]⟩,⟨E5,0,[]⟩,⟨E5,0,[]⟩,⟨E5,0,[]⟩⟩ n h).symm
def Ou(ao:Option Addr)(cap:Nat)(ls:List az)(n:Int)(w:U)(hx:bR w ao ls) :
  Cb 91 #[Z ao (N ls) cap,I J n] w (EP (dZ (ls.map az.cs) n)):=by
 have hl:=hx.1;have Ic:Wl _:=@Ot ls n;have B:Wl _:=@Kz ls n;generalize dZ (ls.map az.cs) n=R at*;go_enter Tryz.func91,Tryz.ntmps91;go_wp2;go_loopw [11] (λi wr=>∃k:Nat,k<=N ls/\i=I J k/\Wl (∀j,j<k->iH (E ls j lz).cs n=T)/\Bw w wr) (λi _=>N ls-(intOf i).toNat)
 case atStart=>exact⟨0,Q4 _,rfl,λj l=>absurd l (by omega),Qr _ _⟩
 case round=>
  obtain⟨k,hk,rfl,S,z⟩:=hrel;by_cases d:k<N ls
  .obtain⟨b,off,rfl,hc⟩:=hx.2.1.get d;have p:=cB z (hc k d);have f:=hx.2.2 k d;have q:Wl (iH (E ls k lz).cs n=F->F=R):=λh=>Ic.o d h
   generalize L:E ls k lz=cl at*;have xC:=Zh L;obtain⟨ad,cp,cs⟩:=cl;unfold az.val at p;simp only at p f;have DD:=f.1;have r:=z.size;by_cases A:N cs=0
   .have t:=Zh (q.o (Bz (by simp only;omega)));go_wp2;go_ret;exact⟨Qd t.o,z.alloc r _⟩
   .have Q:((N cs:Int)==0)=false:=by simpa using A
    have Oe:=Zh A;go_wp2;go_loopw [22] (λi D=>∃m:Nat,m<=N cs/\i=I J m/\Wl (∀j,j<m->dC (E cs j cz) n=T)/\Bw w D) (λi _=>N cs-(intOf i).toNat)
    case atStart=>exact⟨0,Q4 _,rfl,λj l=>absurd l (by omega),z.alloc r _⟩
    case round=>
     obtain⟨m,hm,rfl,W,a⟩:=hrel;have u:=a.size;by_cases X:m<N cs
     .obtain⟨b2,aa,rfl,c0,c1,c2,c3,c4⟩:=f.2 m X;obtain⟨d0,d1,d2,d3,d4⟩:=ji a c0 c1 c2 c3 c4;have v:=λx=>Om (E cs m cz) n x
      unfold aF.val at v;generalize P:E cs m cz=cc at*;have y:=Zh P;cases hcb:dC cc n
      .rw[hcb]at v;have t:=Zh (q.o (Ex X (by rw[y.o];exact hcb)));go_wp2_with fail;refine(v _).mono ?_;rintro e w4 ⟨rfl,g⟩;go_wp2;go_ret;exact⟨Qd t.o,aj (a.alloc u _) g⟩
      .rw[hcb]at v;have C:=Zh hcb;go_wp2_with fail;refine(v _).mono ?_;rintro e w4 ⟨rfl,g⟩;go_wp2;go_roundw
       case rel=>
        refine⟨m+1,by omega,by go_num,λj l=>?_,aj (a.alloc u _) g⟩;by_cases G:j=m
        .subst G;rw[y.o];exact C.o
        .exact W.o j (by omega)
       case measure=>simp[intOf];omega
     .have HG:=Zh (BA (by have:=Oe.o;omega) (λj l=>W.o j (by omega)));go_wp2;go_roundw
      case rel=>
       refine⟨k+1,by omega,by go_num,λj l=>?_,a⟩;by_cases K:j=k
       .subst K;rw[xC.o];exact HG.o
       .exact S.o j (by omega)
      case measure=>simp[intOf];omega
  .have t:=Zh (B.o (λj l=>S.o j (by omega)));go_wp2;go_ret;exact⟨Qd t.o,z⟩
def Aj(n:Int)(group:Bool)(keys sums aH:List Int):Bool:=
 if group then decide (N aH=0)&&aM sums n&&aM keys n&&dI keys else decide (0<N aH)&&aM aH n&&decide (N keys=0)&&decide (N sums=0)
theorem IE(q:af)(n:Int)(w:U)(hk:q.keys.At w)(hs:q.sums.At w)(he:q.aH.At w)(hkc:N q.keys.xs<=q.keys.cap) :
  Cb 92 #[FN q.cells,I J n] w (EP (Aj n q.group q.keys.xs q.sums.xs q.aH.xs)):=by
 obtain⟨src,dx,aP,wh,g,⟨C,D,b⟩,⟨L,P,f⟩,⟨z,A,l⟩,Q⟩:=q;unfold ae.At at hk hs he;simp only at hk hs he hkc;unfold af.cells ae.val;simp only;have G:=he.1;have u:=λx (h:Bw w x)=>oN z A l n x (Qt h he);have m:=λx (h:Bw w x)=>oN L P f n x (Qt h hs);have r:=λx (h:Bw w x)=>oN C D b n x (Qt h hk);have v:=λx (h:Bw w x)=>uZ C D b x (Qt h hk) hkc;have W:Wl (Aj n g b f l=Aj n g b f l):=rfl;generalize j:Aj n g b f l=R at*;unfold Aj at j;generalize aM l n=A1 at*;generalize aM f n=A2 at*;generalize aM b n=A3 at*;generalize dI b=A4 at*;cases g
 .simp only[Bool.false_eq_true,if_false]at j;by_cases B:0<N l
  .rw[QD B,QE]at j
   cases A1
   .have i:=Zh (show F=R by rw[<-j];rfl);go_enter Tryz.func92,Tryz.ntmps92;go_wp2_with fail;refine(u _ (bJ _ _)).mono ?_;rintro e p ⟨rfl,a⟩;go_wp2;go_ret;exact⟨Qd i.o,aj (bJ _ _) a⟩
   .rw[QE]at j;by_cases t:N b=0
    .have y:((N b:Int)==0)=true:=by simpa using t
     have i:=Zh (show ((N f:Int)==0)=R by rw[<-j,QD t,QE,YG]);go_enter Tryz.func92,Tryz.ntmps92;go_wp2_with fail;refine(u _ (bJ _ _)).mono ?_;rintro e p ⟨rfl,a⟩;have d:=wZ a;simp at d;go_wp2;go_ret;exact⟨Qd i.o,aj (bJ _ _) a⟩
    .have y:((N b:Int)==0)=false:=by simpa using t
     have i:=Zh (show F=R by rw[<-j,QX t];rfl);go_enter Tryz.func92,Tryz.ntmps92;go_wp2_with fail;refine(u _ (bJ _ _)).mono ?_;rintro e p ⟨rfl,a⟩;have d:=wZ a;simp at d;go_wp2;go_ret;exact⟨Qd i.o,aj (bJ _ _) a⟩
  .have i:=Zh (show F=R by rw[<-j,QX B];rfl);go_enter Tryz.func92,Tryz.ntmps92;go_wp2;go_ret;exact⟨Qd i.o,bJ _ _⟩
 .simp only[if_true]at j;by_cases B:0<N l
  .have i:=Zh (show F=R by grind);go_enter Tryz.func92,Tryz.ntmps92;go_wp2;go_ret;exact⟨Qd i.o,bJ _ _⟩
  .rw[QD (show N l=0 by omega),QE]at j
   cases A2
   .have i:=Zh (show F=R by rw[<-j];rfl);go_enter Tryz.func92,Tryz.ntmps92;go_wp2_with fail;refine(m _ (bJ _ _)).mono ?_;rintro e p ⟨rfl,a⟩;go_wp2;go_ret;exact⟨Qd i.o,aj (bJ _ _) a⟩
   .rw[QE]at j
    cases A3
    .have i:=Zh (show F=R by rw[<-j];rfl);go_enter Tryz.func92,Tryz.ntmps92;go_wp2_with fail;refine(m _ (bJ _ _)).mono ?_;rintro e p ⟨rfl,a⟩;have d:=wZ a;simp at d;go_wp2_with fail;refine(r _ (aj (bJ _ _) a)).mono ?_;rintro e S ⟨rfl,k⟩;go_wp2;go_ret;exact⟨Qd i.o,aj (aj (bJ _ _) a) k⟩
    .have i:=Zh (show A4=R by rw[<-j,QE]);clear j;go_enter Tryz.func92,Tryz.ntmps92;go_wp2_with fail;refine(m _ (bJ _ _)).mono ?_;rintro e p ⟨rfl,a⟩;have d:=wZ a;simp at d;go_wp2_with fail;refine(r _ (aj (bJ _ _) a)).mono ?_;rintro e S ⟨rfl,k⟩;have X:M (H w)<M (H p):=by have:=a.size;simp at this;omega
     have K:=wZ k;go_wp2_with fail;refine(v _ (aj (aj (bJ _ _) a) k)).mono ?_;rintro e w4 ⟨rfl,rfl⟩;go_wp2;go_ret;exact⟨Qd i.o,aj (aj (bJ _ _) a) k⟩
def Tj(v:aJ)(n:Int)(w:U)(hr:v.At w) :
  Ce 58 #[v.val,I J n] w (EP (Dw v.rs n)):=by
 obtain⟨ad,cap,d⟩:=v;unfold aJ.val;simp only;have hl:=hr.1;simp only at hl;have S:Wl _:=hr;clear hr;go_enter Tryz.func58,Tryz.ntmps58;go_wp2;go_loopw [11] (λi wr=>∃k:Nat,k<=N d/\i=I J k/\Wl (Dw (d.take k) n=T)/\w=wr) (λi _=>N d-(intOf i).toNat)
 case atStart=>exact⟨0,Q4 _,rfl,rfl,rfl⟩
 case round=>
  obtain⟨k,hk,rfl,u,rfl⟩:=hrel;by_cases a:k<N d
  .obtain⟨b,off,rfl,t⟩:=S.o.2.1.get a;have j:=t k a;have g:=S.o.2.2 k a;have B:Wl (vP (E d k iz).xs n=F->F=Dw d n):=λh=>(BN (p:=λr:ae=>vP r.xs n) a h).symm
   have C:Wl (vP (E d k iz).xs n=T->Dw (d.take (k+1)) n=T):=λh=>zg (p:=λr:ae=>vP r.xs n) a u.o h;generalize E d k iz=x at*;obtain⟨fO,bF,xs⟩:=x;simp only at*;have aa:Am w (aD b (off+k))=O (Z fO (N xs) bF):=j;have D:=g.1;simp only at D;have HX:Wl _:=g;clear j t g;by_cases z:(N xs:Int)=n
   .have G:((N xs:Int) != n)=false:=by simpa using z
    go_wp2;go_loopw [21] (λi wr=>∃m:Nat,m<=N xs/\i=I J m/\Wl ((xs.take m).all rU=T)/\w=wr) (λi _=>N xs-(intOf i).toNat)
    case atStart=>exact⟨0,Q4 _,rfl,rfl,rfl⟩
    case round=>
     obtain⟨m,hm,rfl,R,rfl⟩:=hrel;by_cases A:m<N xs
     .obtain⟨xb,ag,rfl,W⟩:=HX.o.get A;have af:=W m A;have l:Wl (rU (E xs m 0)=F->xs.all rU=F):=λh=>BN A h
      have q:Wl (rU (E xs m 0)=T->(xs.take (m+1)).all rU=T):=λh=>zg A R.o h;generalize E xs m 0=y at*;clear W;by_cases f:y=1073741824
      .have f0:(y != 1073741824)=false:=by simpa using f
       have e:Wl (rU y=T):=show _=_ by simp[rU,f]
       clear f;go_wp2;go_roundw
       case rel=>exact⟨m+1,by omega,by go_num,q.o e.o,trivial⟩
       case measure=>simp[intOf];omega
      .have f0:(y != 1073741824)=true:=by simpa using f
       by_cases X:-1000<=y
       .by_cases y2:y<=1000
        .have e:Wl (rU y=T):=show _=_ by simp[rU,X,y2]
         clear f;go_wp2;go_roundw
         case rel=>exact⟨m+1,by omega,by go_num,q.o e.o,trivial⟩
         case measure=>simp[intOf];omega
        .have e:=Zh (B.o (by unfold vP;rw[l.o (by simp[rU,f,y2])];simp));clear f;go_wp2;go_ret;exact⟨Qd e.o,rfl⟩
       .have e:=Zh (B.o (by unfold vP;rw[l.o (by simp[rU,f,X])];simp));clear f;go_wp2;go_ret;exact⟨Qd e.o,rfl⟩
     .have K:m=N xs:=by omega
      subst K;rw[Zb]at R;have L:=Zh (C.o (by unfold vP;rw[R.o];simp[z]));go_wp2;go_roundw
      case rel=>exact⟨k+1,by omega,by go_num,L.o,trivial⟩
      case measure=>simp[intOf];omega
   .have G:((N xs:Int) != n)=true:=by simpa using z
    have e:=Zh (B.o (by unfold vP;simp[z]));go_wp2;go_ret;exact⟨Qd e.o,rfl⟩
  .have P:k=N d:=by omega
   subst P;rw[Zb]at u;have Q:=Zh u.o.symm;clear u;go_wp2;go_ret;exact⟨Qd Q.o,rfl⟩
theorem II(co:Option Addr)(cc:Nat)(ts:List ag)(d:Option Addr)(fB:Nat)(db:List aJ)(w:U)(hts:aN w co ts)(sP:qJ w d db) :
  Ce 32 #[Z co (N ts) cc,Z d (N db) fB] w (EP (decide (N db=N ts)&&xH ts db)):=by
 have G:=hts.1;have K:Wl _:=hts;have C:Wl _:=sP;clear hts sP;by_cases q:N db=N ts
 .have u:((N db:Int) != (N ts:Int))=false:=by rw[q];simp
  have l:(decide (N db=N ts)&&xH ts db)=xH ts db:=by simp[q]
  rw[l];have L:=Zh q;clear l q;go_enter Tryz.func32,Tryz.ntmps32;go_wp2;go_loopw [14] (λi wr=>∃k:Nat,k<=N db/\i=I J k/\Wl ((List.range k).all (λi=>qj (E db i rz) (E ts i tz))=T)/\w=wr) (λi _=>N db-(intOf i).toNat)
  case atStart=>exact⟨0,Q4 _,rfl,rfl,rfl⟩
  case round=>
   obtain⟨k,X,rfl,B,rfl⟩:=hrel;by_cases f:k<N db
   .obtain⟨b,off,rfl,n⟩:=C.o.2.1.get f;have P:=n k f;have g:=C.o.2.2 k f;have m:k<N ts:=by have:=L.o;omega
    obtain⟨tb,Q,rfl,t0,-,-,-,-,-⟩:=K.o.2 k m;have D:Wl (qj (E db k rz) (E ts k tz)=F->F=xH ts db):=λh=>(zV (p:=λi=>qj (E db i rz) (E ts i tz)) f h).symm;have v:Wl (qj (E db k rz) (E ts k tz)=T->(List.range (k+1)).all (λi=>qj (E db i rz) (E ts i tz))=T):=λh=>xW (p:=λi=>qj (E db i rz) (E ts i tz)) B.o h;generalize E db k rz=x at*;generalize (E ts k tz)=tt at*;have a:=Tj x tt.cols w g;obtain⟨fO,bF,xs⟩:=x;obtain⟨cols,R,k0,k1,k2,k3⟩:=tt;unfold aJ.val at*;simp only at*;have y:=g.1;simp only at y;clear n g;by_cases W:50<N xs
    .have t:=Zh (D.o (by unfold qj;simp;omega));go_wp2;go_ret;exact⟨Qd t.o,rfl⟩
    .by_cases r:Dw xs cols=T
     .have t:=Zh (v.o (by unfold qj;simp[r];omega));rw[r]at a;clear r;go_wp2_with fail;refine a.mono ?_;rintro e S ⟨rfl,rfl⟩;go_wp2;go_roundw
      case rel=>grind
      case measure=>simp[intOf];omega
     .have j:Dw xs cols=false:=by simpa using r
      have t:=Zh (D.o (by unfold qj;simp[j]));rw[j]at a;clear r j;go_wp2_with fail;refine a.mono ?_;rintro e S ⟨rfl,rfl⟩;go_wp2;go_ret;exact⟨Qd t.o,rfl⟩
   .have z:k=N db:=by omega
    subst z;have A:Wl (T=xH ts db):=B.o.symm;clear B;go_wp2;go_ret;exact⟨Qd A.o,rfl⟩
 .have u:((N db:Int) != (N ts:Int))=true:=by simp;omega
  have l:(decide (N db=N ts)&&xH ts db)=false:=by simp[q]
  rw[l];clear l;go_enter Tryz.func32,Tryz.ntmps32;go_wp2;go_ret;exact⟨rfl,rfl⟩
theorem acJ(s:ae)(d:Option Addr)(fB:Nat)(db:List aJ)(ts:List ag)(w:U)(hs:s.At w)(sP:qJ w d db)(ha:aM s.xs (N db)=T)(hl:N s.xs<=5)(hB:xH ts db=T) :
  Ce 33 #[s.val,Z d (N db) fB] w (I J (fH s.xs db)):=by
 obtain⟨P,Q,src⟩:=s;unfold ae.val;simp only at*;have A:Wl _:=hs;have B:Wl _:=sP;obtain⟨G,u⟩:=aV ha hB;clear hs sP ha hB;go_enter Tryz.func33,Tryz.ntmps33;go_wp2;go_loopw [5,10] (λp i wr=>∃k:Nat,k<=N src/\i=I J k/\p=I J (fH (src.take k) db)/\w=wr) (λ_ i _=>N src-(intOf i).toNat)
 case atStart=>exact⟨0,Q4 _,rfl,rfl,rfl⟩
 case round=>
  obtain⟨k,R,rfl,rfl,rfl⟩:=hrel;by_cases a:k<N src
  .have L:=Qo G.o a;obtain⟨S,W,rfl,e⟩:=A.o.get a;have g:=e k a;have j:src[k].toNat<N db:=by omega
   obtain⟨X,o2,rfl,f⟩:=B.o.2.1.get j;have l:=f _ j;have C:=pV u.o hl k;have m:=pV u.o hl (k+1);have D:=Nj u.o src[k].toNat;rw[AU a]at m;have n:=Zh (AU (db:=db) a);have v:E src k 0=src[k]:=by simp[List.getD,a]
   rw[v]at g;generalize E db src[k].toNat rz=x at*;generalize fH (src.take k) db=p at*;generalize K:src[k]=ck at*;clear v e f K;obtain⟨z,rfl⟩:∃z:Nat,ck=(z:Int):=⟨ck.toNat,by omega⟩;simp only[Xu]at j l;obtain⟨fO,bF,xs⟩:=x;unfold aJ.val at*;simp only at*;have b:((max 1 (N xs):Nat):Int)=if (1:Int)<(N xs:Int) then (N xs:Int) else 1:=by split <;> omega
   have y:wrap64 ((p:Int)*(if (1:Int)<(N xs:Int) then (N xs:Int) else 1))=((p*max 1 (N xs):Nat):Int):=by rw[<-b,<-Int.natCast_mul];unfold wrap64;omega
   have q:=Zh y;have r:Wl (wrap64 ((p:Int)*max 1 (N xs:Int))=((p*max 1 (N xs):Nat):Int)):=by grind
   clear y b;go_wp2;go_roundw
   case rel=>exact⟨k+1,by omega,by go_num,by rw[n.o];first|exact congrArg (Value.int J) q.o|exact congrArg (Value.int J) r.o,trivial⟩
   case measure=>simp[intOf];omega
  .have t:k=N src:=by omega
   subst t;rw[Zb];go_wp2;go_ret;exact⟨rfl,rfl⟩
def Ak(co:Option Addr)(cc:Nat)(ts:List ag)(q:af)(d:Option Addr)(fB:Nat)(db:List aJ)(w:U)(hts:aN w co ts)(hq:q.src.At w)(sP:qJ w d db)(ha:aM q.src.xs (N ts)=T)(hl:N q.src.xs<=5) :
  Cb 17 #[Z co (N ts) cc,FN q.cells,Z d (N db) fB] w (I J (if ig ts q.src.xs db then 0 else 4)):=by
 have a:=bJ w (FL q.cells 26);have i:=II co cc ts d fB db _ (hts.below a) (sP.below a);have k:=a;have n:ig ts q.src.xs db=((decide (N db=N ts)&&xH ts db)&&decide (fH q.src.xs db<=20000)):=rfl;by_cases t:(decide (N db=N ts)&&xH ts db)=T
 .have b:=t;simp only[Qm,Qz]at b;have r:=acJ q.src d fB db ts _ (Qt a hq) (sP.below a) (by rw[b.1];exact ha) hl b.2;rw[t]at i n;rw[n];have z:((fH q.src.xs db:Nat):Int) > 20000∨¬((fH q.src.xs db:Nat):Int) > 20000:=by omega
  have u:=Zh k;clear n t b a k hts sP ha hl hq;obtain⟨⟨A,B,src⟩,C,D,G,j,f,g,v,l⟩:=q;unfold af.cells ae.val at*;simp only at*;generalize fH src db=p at*;have K:Am (w.alloc (FL #[Z A (N src) B,Z C (N G) D,EP j,Z f.ad (N f.xs) f.cap,Z g.ad (N g.xs) g.cap,Z v.ad (N v.xs) v.cap,Z l.ad (N l.xs) l.cap] 26)) (aD (M (H w)) 0)=O (Z A (N src) B):=by simp
  rcases z with z|z
  .have m:(if (T&&decide (p<=20000))=T then (0:Int) else 4)=4:=by rw[QC];simp;omega
   rw[m];clear m;go_enter Tryz.func17,Tryz.ntmps17;go_wp2_with fail;refine i.mono ?_;rintro e y ⟨rfl,rfl⟩;go_wp2_with fail;refine r.mono ?_;rintro e y ⟨rfl,rfl⟩;go_wp2;go_ret;exact⟨rfl,u.o⟩
  .have m:(if (T&&decide (p<=20000))=T then (0:Int) else 4)=0:=by rw[Qu];simp;omega
   rw[m];clear m;go_enter Tryz.func17,Tryz.ntmps17;go_wp2_with fail;refine i.mono ?_;rintro e y ⟨rfl,rfl⟩;go_wp2_with fail;refine r.mono ?_;rintro e y ⟨rfl,rfl⟩;go_wp2;go_ret;exact⟨rfl,u.o⟩
 .have b:(decide (N db=N ts)&&xH ts db)=false:=by simpa using t
  rw[b]at i n;have m:(if ig ts q.src.xs db then (0:Int) else 4)=4:=by rw[n];rfl
  rw[m];have u:=Zh k;clear n t b a k hts sP ha hl hq m;obtain⟨⟨A,B,src⟩,C,D,G,j,f,g,v,l⟩:=q;unfold af.cells ae.val at*;simp only at*;go_enter Tryz.func17,Tryz.ntmps17;go_wp2_with fail;refine i.mono ?_;rintro e y ⟨rfl,rfl⟩;go_wp2;go_ret;exact⟨rfl,u.o⟩
theorem Yg(co d:Option Addr)(cc fB:Nat)(ts:List ag)(q:af)(db:List aJ)(w:U)(hts:aN w co ts)(hs:q.src.At w)(sP:qJ w d db)(ha:aM q.src.xs (N ts)=T)(h5:N q.src.xs<=5) :
  Cb 21 #[Z co (N ts) cc,FN q.cells,Z d (N db) fB] w (EP (ig ts q.src.xs db)):=by
 have bq:=hts.1;have G:=bJ w (FL q.cells 26);obtain⟨X,B⟩:=eX (w.alloc (FL q.cells 26));have x0:Am X (aD (M (H w)) 0)=O q.src.val:=by rw[<-B];unfold af.cells;simp
 have aa:=Zh B;rw[B]at G;have HT:Wl _:=hts.below G;have HD:Wl _:=sP.below G;have HS:Wl (q.src.At X):=Qt G hs;obtain⟨HB,HA,H5⟩:=fe G ha h5;clear hts hs sP G B ha h5;obtain⟨⟨ni,dV,src⟩,dx,aP,wh,aY,bg,bn,aH,bD⟩:=q;unfold af.cells ae.val at*;simp only at*;by_cases hn:N db=N ts
 .have aG:((N db:Int) != (N ts:Int))=false:=by rw[hn];simp
  have HR:Wl (ig ts src db=(xH ts db&&decide (fH src db<=20000))):=show _=_ by simp[ig,hn]
  have HN:=Zh hn;clear hn;go_enter Tryz.func21,Tryz.ntmps21;go_wp2_with fail;rw[aa.o];go_loopw [7] (λi wr=>∃k:Nat,k<=N db/\i=I J k/\Wl ((List.range k).all (λi=>qj (E db i rz) (E ts i tz))=T)/\Bw X wr) (λi _=>N db-(intOf i).toNat)
  case atStart=>exact⟨0,Q4 _,rfl,rfl,Qr _ _⟩
  case round=>
   obtain⟨k,hk,rfl,HP,a⟩:=hrel;by_cases f:k<N db
   .obtain⟨b,off,rfl,W⟩:=Qf HD.o.2.1 f;have g:=cB a (W k f);have K:=HD.o.2.2 k f;have ah:k<N ts:=by have:=HN.o;omega
    obtain⟨tb,bE,rfl,t0,-,-,-,-,-⟩:=HT.o.2 k ah;obtain⟨aZ,zh⟩:=aV t0 (W k f);have Ic:Wl (qj (E db k rz) (E ts k tz)=F->F=ig ts src db):=λh=>by rw[HR.o];rw[show xH ts db=F from zV (p:=λi=>qj (E db i rz) (E ts i tz)) f h];rfl
    have ai:Wl (qj (E db k rz) (E ts k tz)=T->(List.range (k+1)).all (λi=>qj (E db i rz) (E ts i tz))=T):=λh=>xW (p:=λi=>qj (E db i rz) (E ts i tz)) HP.o h;generalize E db k rz=x at*;generalize (E ts k tz)=tt at*;obtain⟨fO,bF,l⟩:=x;obtain⟨cols,bG,k0,k1,k2,k3⟩:=tt;unfold aJ.val at*;simp only at*;have bu:N l<=1152921504606846976:=K.1;have HX:Wl _:=K;clear W K t0;by_cases bM:50<N l
    .have u:=Zh (Ic.o (by unfold qj;simp;omega));go_wp2;go_ret;exact⟨Qd u.o,aj HB.o a⟩
    .have O8:Wl (Dw l cols=T->(List.range (k+1)).all (λi=>qj (E db i rz) (E ts i tz))=T):=λh=>ai.o (by unfold qj;grind)
     have jS:Wl (Dw l cols=F->F=ig ts src db):=λh=>Ic.o (by unfold qj;simp only[h,XZ]);clear ai Ic;go_wp2;have ak:=a;clear g a;go_loopw [8] (λi wr=>∃m:Nat,m<=N l/\i=I J m/\Wl (Dw (l.take m) cols=T)/\Bw X wr) (λi _=>N l-(intOf i).toNat)
     case atStart=>exact⟨0,Q4 _,rfl,rfl,ak⟩
     case round=>
      clear ak;obtain⟨m,hm,rfl,HF,a⟩:=hrel;have g:=cB a zh.o;by_cases uK:m<N l
      .obtain⟨xb,bH,rfl,qK⟩:=Qf HX.o.2.1 uK;have au:=cB a (qK m uK);have aI:=Zh (qK m uK);have L:=HX.o.2.2 m uK;have aK:=cB a aZ.o;have sN:Wl (vP (E l m iz).xs cols=F->F=ig ts src db):=λh=>jS.o (BN (p:=λr:ae=>vP r.xs cols) uK h)
       have aL:Wl (vP (E l m iz).xs cols=T->Dw (l.take (m+1)) cols=T):=λh=>zg (p:=λr:ae=>vP r.xs cols) uK HF.o h;generalize E l m iz=r at*;obtain⟨bI,bK,xs⟩:=r;unfold ae.val ae.At at*;simp only at*;have bz:=L.1;have aO:Wl _:=L;clear qK L;by_cases t:(N xs:Int)=cols
       .have aQ:((N xs:Int) != cols)=false:=by simpa using t
        have aR:=Zh t;clear t;go_wp2;go_region;go_wp2;have av:=a.drew;clear a g au aK;go_loopw [9] (λi wr=>∃j:Nat,j<=N xs/\i=I J j/\Wl ((xs.take j).all rU=T)/\Bw X wr) (λi _=>N xs-(intOf i).toNat)
        case atStart=>exact⟨0,Q4 _,rfl,rfl,av⟩
        case round=>
         obtain⟨j,hj,rfl,HV,a⟩:=hrel;clear av;obtain⟨g,au⟩:=gy a zh.o aI.o;by_cases C:j<N xs
         .obtain⟨yb,bL,rfl,aB⟩:=Qg aO.o C;have bA:=cB a (aB j C);have ax:Wl (rU (E xs j 0)=F->F=ig ts src db):=λh=>sN.o (by unfold vP;rw[BN C h];simp)
          have ay:Wl (rU (E xs j 0)=T->(xs.take (j+1)).all rU=T):=λh=>zg C HV.o h;generalize E xs j 0=y at*;clear aB;by_cases D:y=1073741824
          .have f0:(y != 1073741824)=false:=by simpa using D
           have u:Wl (rU y=T):=show _=_ by simp[rU,D]
           clear D;go_wp2;go_roundw
           case rel=>exact⟨j+1,by omega,by go_num,ay.o u.o,a⟩
           case measure=>simp[intOf];omega
          .have f0:(y != 1073741824)=true:=by simpa using D
           by_cases y1:-1000<=y
           .by_cases y2:y<=1000
            .have u:Wl (rU y=T):=show _=_ by simp[rU,y1,y2]
             clear D;go_wp2;go_roundw
             case rel=>exact⟨j+1,by omega,by go_num,ay.o u.o,a⟩
             case measure=>simp[intOf];omega
            .have u:=Zh (ax.o (by simp[rU,D,y2]));clear D;go_wp2;go_ret;exact⟨Qd u.o,aj HB.o a⟩
           .have u:=Zh (ax.o (by simp[rU,D,y1]));clear D;go_wp2;go_ret;exact⟨Qd u.o,aj HB.o a⟩
         .have aS:j=N xs:=by omega
          subst aS;rw[Zb]at HV;have Ry:=Zh (aL.o (by unfold vP;rw[HV.o];simp[aR.o]));go_wp2;go_roundw
          case rel=>exact⟨m+1,by omega,by go_num,Ry.o,a⟩
          case measure=>simp[intOf];omega
       .have aQ:((N xs:Int) != cols)=true:=by simpa using t
        have u:=Zh (sN.o (by unfold vP;simp[t]));clear t;go_wp2;go_region;go_wp2;go_ret;exact⟨Qd u.o,aj HB.o a.drew⟩
      .have aT:m=N l:=by omega
       subst aT;rw[Zb]at HF;have Ry:=Zh (O8.o HF.o);go_wp2;go_roundw
       case rel=>exact⟨k+1,by omega,by go_num,Ry.o,a⟩
       case measure=>simp[intOf];omega
   .have Q:k=N db:=by omega
    subst Q;have v:Wl (xH ts db=T):=HP.o;have aU:Wl (decide (fH src db<=20000)=ig ts src db):=show _=_ by rw[HR.o,v.o];rfl
    clear HP HR;have az:=cB a x0;have bB:=H5.o;go_wp2;clear az;go_loopw [11,12] (λn i wr=>∃k:Nat,k<=N src/\i=I J k/\n=I J (fH (src.take k) db:Nat)/\Bw X wr) (λ_ i _=>N src-(intOf i).toNat)
    case atStart=>exact⟨0,Q4 _,rfl,rfl,a⟩
    case round=>
     clear a;obtain⟨k,hk,rfl,rfl,a⟩:=hrel;have az:=cB a x0;by_cases f:k<N src
     .have hr:=Qo HA.o f;obtain⟨b1,o1,rfl,aC⟩:=Qg HS.o f;have g:=cB a (aC k f);have hj:src[k].toNat<N db:=by have:=HN.o;omega
      obtain⟨b2,o2,rfl,aF⟩:=Qf HD.o.2.1 hj;have aW:=cB a (aF _ hj);have e2:E src k 0=src[k]:=by simp[List.getD,f]
      rw[e2]at g;have R:=AU (db:=db) f;have S:=pV v.o H5.o (k+1) (src:=src);have aA:=pV v.o H5.o k (src:=src);rw[R]at S;have bf:=Nj v.o src[k].toNat;have A:=Zh R;clear R aC aF e2;generalize fH (src.take k) db=P at*;generalize E db src[k].toNat rz=y at*;obtain⟨uk,jb,ys⟩:=y;unfold aJ.val at*;simp only at*;generalize src[k]=s1 at*;obtain⟨cm,rfl⟩:∃cm:Nat,s1=(cm:Int):=⟨s1.toNat,by omega⟩;simp only[Xu]at hj aW;by_cases h0:0<N ys
      .have z:max 1 (N ys)=N ys:=by omega
       rw[z]at A S;have aX:wrap64 ((P:Int)*(N ys:Int))=((P*N ys:Nat):Int):=by
        have e:(P:Int)*(N ys:Int)=((P*N ys:Nat):Int):=by simp
        rw[e];unfold wrap64;omega
       clear z aA;go_wp2;go_roundw
       case rel=>exact⟨k+1,by omega,by go_num,by rw[A.o];first|rfl|(rw[aX])|simp,a⟩
       case measure=>simp[intOf];omega
      .have z:max 1 (N ys)=1:=by omega
       rw[z,Nat.mul_one]at A;clear z aA S;go_wp2;go_roundw
       case rel=>exact⟨k+1,by omega,by go_num,by rw[A.o],a⟩
       case measure=>simp[intOf];omega
     .have Q:src.take k=src:=Xt (by omega);rw[Q];have bC:=EO (src:=src) v.o H5.o;have HQ:Wl (∀b:Bool,(b=T↔(fH src db:Int)<=20000)->b=ig ts src db):=λb G=>by rw[<-aU.o,Zf,G,Qz];omega
      generalize fH src db=P at*;go_wp2;go_ret;exact⟨Qd (HQ.o _ (by simp)),aj HB.o a⟩
 .have aG:((N db:Int) != (N ts:Int))=true:=by grind
  have HR:Wl (F=ig ts src db):=show _=_ by simp[ig,hn]
  clear hn;go_enter Tryz.func21,Tryz.ntmps21;go_wp2_with fail;rw[aa.o];go_ret;exact⟨Qd HR.o,HB.o⟩
theorem Wv(n:Int)(group:Bool)(keys sums aH ord:List Int) :
  gV n group keys sums aH ord=(Aj n group keys sums aH&&(aM ord (rQ group keys sums aH)&&dI ord)):=by
 unfold gV Aj;generalize aM ord (rQ group keys sums aH)=Oq;generalize dI ord=P;cases group
 .by_cases a:N aH=0
  .grind
  .have f:=QX a;have i:decide (0<N aH)=true:=QD (by omega);rw[f,i];by_cases g:N keys=0
   .by_cases k:N sums=0
    .have b:=QF g;have d:=QF k;subst b d;have j:dI []=true:=by decide
     rw[j];cases aM aH n <;> cases Oq <;> cases P <;> rfl
    grind
   .rw[QX g,QX (show ¬N keys+N sums=0 by omega)];simp
 .by_cases a:N aH=0
  .have e:=QF a;subst e;have f:aM [] n=true:=rfl
   grind
  .rw[QX a];simp
def Eb(ts:List ag)(src:List Int)(wh:List (List aF))(group:Bool)(keys sums aH ord:List Int):Bool:=
 decide (0<N src)&&(aM src (N ts)&&(dZ wh (ak ts src)&&(Aj (ak ts src) group keys sums aH&&(aM ord (rQ group keys sums aH)&&dI ord))))
theorem Tg{ts:List ag}{src:List Int}{wh:List (List aF)}{group:Bool}{keys sums aH ord:List Int}(hc:dL ts=T)(hf:jB src wh keys sums aH ord=F) :
  vI ts src wh group keys sums aH ord=if Eb ts src wh group keys sums aH ord then 0 else 3:=by unfold vI Eb;rw[QC (by simp[hc]),QC (by simp[hf]),Wv];grind
def Ti(ao:Option Addr)(cap:Nat)(ts:List ag)(q:af)(w:U)(hx:aN w ao ts)(hq:q.At w)(hc:dL ts=T)
  (hf:jB q.src.xs q.qX q.keys.xs q.sums.xs q.aH.xs q.ord.xs=F) (hkc:N q.keys.xs<=q.keys.cap) (hoc:N q.ord.xs<=q.ord.cap) :
  Cb 47 #[Z ao (N ts) cap,FN q.cells] w (EP (Eb ts q.src.xs q.qX q.group q.keys.xs q.sums.xs q.aH.xs q.ord.xs)):=by
 have Q:¬(5<N q.src.xs∨8<N q.wh∨8<N q.aH.xs∨4<N q.keys.xs∨4<N q.sums.xs∨4<N q.ord.xs):=by intro h;rw[af.YI,QD h,Bool.true_or]at hf;cases hf
 have z:=λx=>Oo q x (by omega) (by omega);have k:=λn x (h:Bw w x)=>IE q n x (Qt h hq.keys) (Qt h hq.sums) (Qt h hq.aH) hkc;unfold Eb;obtain⟨src,G,P,u,d,f,g,p,b⟩:=q;have l:aA w src.ad src.xs:=hq.src;have K:aA w b.ad b.xs:=hq.ord;have S:bR w G u:=hq.wh;have A:(af.mk src G P u d f g p b).qX=u.map az.cs:=rfl;simp only[A]at*;clear A hq hf;unfold af.cells ae.val at*;simp only at*;have h1:N src.xs<=5:=by omega
 have y:=λx (h:Bw w x)=>oN src.ad src.cap src.xs (N ts) x (l.below h);have B:=λn x (h:Bw w x)=>Ou G P u n x (S.below h);have W:=λx (h:Bw w x)=>oN b.ad b.cap b.xs (rQ d f.xs g.xs p.xs) x (K.below h);have C:=λx (h:Bw w x)=>uZ b.ad b.cap b.xs x (K.below h) hoc;generalize m:(decide (0<N src.xs)&&(aM src.xs (N ts)&&(dZ (u.map az.cs) (ak ts src.xs)&&(Aj (ak ts src.xs) d f.xs g.xs p.xs&&(aM b.xs (rQ d f.xs g.xs p.xs)&&dI b.xs)))))=R;by_cases h0:0<N src.xs
 .rw[QD h0,QE]at m;have L:((N src.xs:Int)==0)=false:=by rw[XN];omega
  cases ha:aM src.xs (N ts)
  .rw[ha]at y m;have t:Wl (F=R):=m;clear m;go_enter Tryz.func47,Tryz.ntmps47;go_wp2_with fail;refine(y _ (bJ _ _)).mono ?_;rintro e w2 ⟨rfl,j⟩;go_wp2;go_ret;exact⟨Qd t.o,aj (bJ _ _) j⟩
  .have D:=λx (h:Bw w x)=>Ea ao cap ts src.ad src.cap src.xs x (hx.below h) hc (l.below h) h1 ha
   rw[ha]at y m;clear ha hc;rw[QE]at m;have t:=Zh m;clear m;generalize ak ts src.xs=Nq at*;have B:=B Nq;have k:=k Nq;generalize dZ (u.map az.cs) Nq=CB at*;generalize Aj Nq d f.xs g.xs p.xs=FB at*;clear hx l K S hkc hoc;go_enter Tryz.func47,Tryz.ntmps47;go_wp2_with fail;refine(y _ (bJ _ _)).mono ?_;clear y;rintro e w2 ⟨rfl,j⟩;have hz:M (H w)<M (H w2):=by have:=j.size;simp at this;omega
   have a:=wZ j;simp at a;have k2:=aj (bJ _ _) j;go_wp2_with fail;refine(D _ k2).mono ?_;clear D;rintro e w3 ⟨rfl,rfl⟩;go_wp2_with fail;refine(B _ k2).mono ?_;clear B;rintro e v ⟨rfl,i⟩;have k4:=aj k2 i;have X:Am v (aD (M (H w)) 0)=O (Z src.ad (N src.xs) src.cap):=cB i (by rw[a _ _ (by omega)];simp);have f1:Am v (aD (M (H w)) 1)=O (Z G (N u) P):=cB i (by rw[a _ _ (by omega)];simp);have f2:Am v (aD (M (H w)) 2)=O (EP d):=cB i (by rw[a _ _ (by omega)];simp);have f3:Am v (aD (M (H w)) 3)=O (Z f.ad (N f.xs) f.cap):=cB i (by rw[a _ _ (by omega)];simp);have f4:Am v (aD (M (H w)) 4)=O (Z g.ad (N g.xs) g.cap):=cB i (by rw[a _ _ (by omega)];simp);have f5:Am v (aD (M (H w)) 5)=O (Z p.ad (N p.xs) p.cap):=cB i (by rw[a _ _ (by omega)];simp);have f6:Am v (aD (M (H w)) 6)=O (Z b.ad (N b.xs) b.cap):=cB i (by rw[a _ _ (by omega)];simp);clear a i k2 j;cases CB
   .go_wp2;go_ret;exact⟨Qd t.o,k4⟩
   .go_wp2_with fail;refine(k _ k4).mono ?_;clear k;rintro e w5 ⟨rfl,r⟩;have k5:=aj k4 r;obtain⟨g0,g1,g2,g3,g4⟩:=ji r X f1 f2 f3 f4;obtain⟨g5,g6⟩:=gy r f5 f6;clear X f1 f2 f3 f4 f5 f6 r k4
    cases FB
    .go_wp2;go_ret;exact⟨Qd t.o,k5⟩
    .go_wp2_with fail;generalize rQ d f.xs g.xs p.xs=Oq at*;generalize aM b.xs Oq=AO at*;generalize dI b.xs=PO at*;refine Qw ?_;refine qA3 ?_;go_big_quiet_want;refine⟨I J Oq,λx hx=>?_,?_⟩
     .have hC:=Qx hx (z x);go_simp
     simp only[pU];go_big_quiet_on;go_big_quiet_want;refine⟨EP AO,λx hx=>?_,?_⟩
     .have hC:=Qx hx (W x (aj k5 hx));go_simp
     simp only[pU];go_big_quiet_on;refine lQ ?_;cases AO
     .go_big_quiet_skip;go_big_quiet_skip;go_big_quiet_skip;refine Gw ?_;refine XH ?_;intro x hx;go_wp2;go_ret;exact⟨Qd t.o,aj k5 hx⟩
     .go_big_quiet_want;refine⟨.pointer (O (aD (M (H w)) 6)),λx hx=>?_,?_⟩
      .go_simp
      simp only[pU];go_big_quiet_on;refine lQ ?_;go_big_quiet_want;refine⟨EP PO,λx hx=>?_,?_⟩
      .have hC:=Calls.Ey hx (C x (aj k5 hx));go_simp
      simp only[pU];go_big_quiet_on;refine Gw ?_;refine XH ?_;intro x hx;go_wp2;go_ret;exact⟨Qd t.o,aj k5 hx⟩
 .have L:((N src.xs:Int)==0)=true:=by rw[beq_iff_eq];omega
  rw[QX h0,XF]at m;have t:=Zh m;clear m;clear z k y B W C;go_enter Tryz.func47,Tryz.ntmps47;go_wp2;go_ret;exact⟨Qd t.o,bJ _ _⟩
section
def yN(s k:Nat):List Nat:=(List.range k).filter λi=>s.testBit i
def Tx(s k:Nat):yN s (k+1)=yN s k++if s.testBit k=T then [k] else []:=by unfold yN;rw[QT,ZX];cases h:s.testBit k <;> simp[h]
theorem WI(s:Nat){k:Nat}(hk:k<=64):yN s k <+: di s:=by
 have e:List.range 64=List.range k++(List.range (64-k)).map (k + ·):=by rw[<-List.range_add];congr 1;omega
 unfold yN di;grind
def WJ(s:Nat){k:Nat}(hk:k<=64)(h:s / 2 ^ k=0):yN s k=di s:=by
 symm;refine BH hk _ (λi d=>?_);have b:s<2 ^ k:=by
  rcases XM s (2 ^ k) with a|a
  .exact a
  .have:=Nat.div_pos a (Nat.pow_pos (by omega));omega
 exact Nat.testBit_lt_two_pow (Q0 b (Q3 (by omega) d))
def WL{s:Nat}(hs:s<18446744073709551616)(h:s / 2 ^ k≠0):k<64:=by
 rcases XM k 64 with a|a
 .exact a
 .exfalso;apply h;apply Nat.div_eq_of_lt;exact Q0 hs (Q3 (n:=2) (by omega) a)
attribute [local go_sem] Oper.semAt_some
theorem IW(s:Nat)(hs:s<18446744073709551616)(w0:U):asH vw V 151 (I .u64 (s:Int)) (di s) w0:=by
 intro l Jq W o hW ho hJ hY h0;have S:=Zh hY;have v:Wl _:=@Tx s;have y:Wl _:=@WI s;have z:Wl _:=@WJ s;have X:Wl (∀n x,n<64->_):=λn x hn=>U5 s n hs hn x;have A:Wl (∀k,s / 2 ^ k≠0->k<64):=λk h=>WL hs h;have Nl:Wl (yN s 0=[]):=rfl;generalize yN s=RT at*;refine(ZG (n:=0)).1 (callsIn_of_wp Tryz.func151 rfl trivial ?_ rfl);simp only[Tryz.ntmps151,ZN,QJ,ZO,Nat.reduceAdd,Nat.reduceSub,ZP,ZQ,ZR,ZT,ZU,ZV];gi_wp2;gi_loopw [4] (λi wr=>∃k:Nat,k<=64/\i=I J k/\∃g,Wl (Jq (RT k) g wr)/\Wl (Kept (λb=>¬o b) W wr)/\Wl (∀b,g b->o b∨(M (H W)<=b/\b<M (H wr))))
  (λi _=>64-(intOf i).toNat)
 case atStart=>exact⟨0,Q4 _,rfl,o,by rw[Nl.o];exact h0,Zx _ _,λb h=>.inl h⟩
 case round=>
  obtain⟨k,hk,rfl,g,f,m,a⟩:=hrel;by_cases R:s / 2 ^ k=0
  .have HE:=Zh (z.o hk R);have B:((s:Int) / 2 ^ k != 0)=false:=by grind
   gi_wp2;go_end0;exact⟨⟨_,rfl⟩,di s,g,by simp[vw],by rw[<-HE.o];exact f.o,m.o,a.o⟩
  .have C:=A.o k R;have B:((s:Int) / 2 ^ k != 0)=true:=by grind
   have r:=Zh (v.o k);have HP:Wl (RT (k+1) <+: di s):=y.o (by omega);have t:=X.o k wr C
   cases q:s.testBit k with
   |false =>
    rw[q]at t r;gi_wp2;refine⟨trivial,rfl,ZG.2 (t.mono ?_)⟩;rintro e P ⟨rfl,rfl⟩;gi_wp2;refine⟨(λ_ h=>by cases h),?_⟩;gi_wp2;go_roundw
    case rel=>exact⟨k+1,by omega,by go_num,g,by have h:RT (k+1)=RT k++[]:=r.o;rw[h,QN];exact f.o,m.o,a.o⟩
    case measure=>simp[intOf];omega
   |true =>
    rw[q]at t r;have j:Wl (RT (k+1)=RT k++[k]):=r.o;obtain⟨fn,tmps,d,p,hy,hR⟩:=S.o (RT k) k g wr f.o (by rw[<-j.o];simpa [vw] using HP.o) trivial (λb h=>by cases h) m.o.size;have aa:(Instr.yield l #[I J (k:Int)]).run V wr=.ok (.round l fn tmps d p) wr:=hy;gi_wp2;refine⟨trivial,rfl,ZG.2 (t.mono ?_)⟩;rintro e P ⟨rfl,rfl⟩;gi_wp2;refine⟨rfl,hR.mono ?_⟩;rintro e P ⟨rfl,o2,D,G,K⟩;obtain⟨L,Q,Ig⟩:=fe D G K;gi_wp2;go_roundw
    case rel=>
     refine⟨k+1,by omega,by go_num,o2,by rw[j.o];exact L.o,m.o.trans' Q.o ?_,?_⟩
     .intro b q h u;rcases a.o b u with u|u
      .exact h u
      .omega
     .intro b q;have:=Q.o.size;have:=m.o.size;rcases Ig.o b q with h|h|h
      .rcases a.o b h with h|h
       .exact .inl h
       .exact .inr ⟨h.1,by omega⟩
      .exact .inr ⟨by omega,h.2⟩
      .cases h.1
    case measure=>simp[intOf];omega
end
theorem MU(q:af)(co ro:Option Addr)(cc rc:Nat)(is xs:List Int)(w:U)(hq:bR w q.dx q.wh)(hi:aA w co is)(hx:aA w ro xs)(ha:aM is (N q.wh)=T)
  (hcs:∀i,i<N q.wh->∀k,k<(E q.wh i lz).cs.length->dC ((E q.wh i lz).cs.getD k cz) (N xs)=T) :
  Cb 42 #[FN q.cells,Z co (N is) cc,Z ro (N xs) rc] w (EP (eP q.wh is xs)):=by
 obtain⟨src,dx,aP,l,n,a,b,D,d⟩:=q;simp only at hq ha hcs;unfold af.cells ae.val;simp only;have hl:=hi.1;have HA:=Zh ha;clear ha;obtain⟨P,t⟩:∃x,x=w.alloc (FL #[Z src.ad (N src.xs) src.cap,Z dx (N l) aP,EP n,Z a.ad (N a.xs) a.cap,Z b.ad (N b.xs) b.cap,Z D.ad (N D.xs) D.cap,Z d.ad (N d.xs) d.cap] 26):=⟨_,rfl⟩;have g:Bw w P:=by rw[t];exact bJ _ _
 have x1:Am P (aD (M (H w)) 1)=O (Z dx (N l) aP):=by rw[t];simp
 have HB:Wl (Bw P (w.alloc (FL #[Z src.ad (N src.xs) src.cap,Z dx (N l) aP,EP n,Z a.ad (N a.xs) a.cap,Z b.ad (N b.xs) b.cap,Z D.ad (N D.xs) D.cap,Z d.ad (N d.xs) d.cap] 26))):=show Below _ _ _ by rw[t];exact Qr _ _
 have hQ:=hq.below g;have hI:=hi.below g;have hX:=hx.below g;have HK:=Zh g;clear t g hq hi hx;go_enter Tryz.func42,Tryz.ntmps42;go_wp2;go_loopw [7] (λi wr=>∃k:Nat,k<=N is/\i=I J k/\Wl (eP l (is.take k) xs=T)/\Bw P wr) (λi _=>N is-(intOf i).toNat)
 case atStart=>exact⟨0,Q4 _,rfl,rfl,HB.o⟩
 case round=>
  clear HB;obtain⟨k,hk,rfl,HP,f⟩:=hrel;by_cases p:k<N is
  .have hr:=Qo HA.o p;obtain⟨b1,o1,rfl,Q⟩:=hI.get p;have K:=cB f (Q k p);have X:is[k].toNat<N l:=by omega
   obtain⟨b2,o2,rfl,R⟩:=hQ.2.1.get X;have r:=cB f (R _ X);have v:=hQ.2.2 _ X;have y:=hcs _ X;have m1:=cB f x1;have Ic:Wl (gX (E l is[k].toNat lz).cs xs=F->F=eP l is xs):=λh=>abp p h;have aa:Wl (gX (E l is[k].toNat lz).cs xs=T->eP l (is.take (k+1)) xs=T):=λh=>UZ p HP.o h;generalize E l is[k].toNat lz=cl at*;obtain⟨ad,cp,cs⟩:=cl;unfold az.val at r;simp only at r v y;have ak:=Qj r;have au:=Qj K;have ai:=Qj m1;have ag:=f.size;have DD:=v.1;clear Q R hQ hI hcs;go_wp2;go_region;go_wp2;go_loopw [9,10] (λs i W=>∃m:Nat,m<=N cs/\i=I J m/\s=EP (gX (cs.take m) xs)/\Bw P W/\Am W (aD (M (H wr)) 0)=O (Z ad (N cs) cp)) (λ_ i _=>N cs-(intOf i).toNat)
   case atStart=>exact⟨0,Q4 _,rfl,rfl,(f.alloc ag _).drew,by simp⟩
   case round=>
    obtain⟨m,hm,rfl,rfl,B,S⟩:=hrel;clear m1 r K;by_cases uK:m<N cs
    .obtain⟨b4,o4,rfl,e0,e1,e2,e3,e4⟩:=v.2 m uK;obtain⟨d0,d1,d2,d3,d4⟩:=ji B e0 e1 e2 e3 e4;obtain⟨p1,p2,p3⟩:=EN (y m uK);have C:=Zh (UY (xs:=xs) uK);generalize E cs m cz=cc at*;have hC:=adi cc ro rc xs wr (hX.below B) p1 p2 p3;unfold aF.val at hC;clear e0 e1 e2 e3 e4 p1 p2 p3 y;generalize fT cc xs=tt at*;go_wp2_with fail;refine hC.mono ?_;clear hC;rintro e w5 ⟨rfl,u⟩;have z:=cB u S
     cases hsm:gX (cs.take m) xs
     .by_cases G:tt=1
      .have ah:(tt==1)=true:=by simpa using G
       have j:Wl (gX (cs.take (m+1)) xs=T):=show _=_ by rw[C.o,hsm,QD G];rfl
       clear C hsm G;go_wp2;go_roundw
       case rel=>exact⟨m+1,by omega,by go_num,Gq j.o.symm,aj B u,z⟩
       case measure=>simp[intOf];omega
      .have ah:(tt==1)=false:=by simpa using G
       have j:Wl (gX (cs.take (m+1)) xs=F):=show _=_ by rw[C.o,hsm,QX G];rfl
       clear C hsm G;go_wp2;go_roundw
       case rel=>exact⟨m+1,by omega,by go_num,Gq j.o.symm,aj B u,z⟩
       case measure=>simp[intOf];omega
     .have j:Wl (gX (cs.take (m+1)) xs=T):=show _=_ by rw[C.o,hsm];rfl
      clear C hsm;go_wp2;go_roundw
      case rel=>exact⟨m+1,by omega,by go_num,Gq j.o.symm,aj B u,z⟩
      case measure=>simp[intOf];omega
    .have A:cs.take m=cs:=Xt (by omega);rw[A]
     cases hsm:gX cs xs
     .have L:=Zh (Ic.o hsm);clear hsm A;go_wp2;go_ret;exact⟨Qd L.o,aj HK.o B⟩
     .have L:=Zh (aa.o hsm);clear hsm A;go_wp2;go_roundw
      case rel=>exact⟨k+1,by omega,by go_num,L,B⟩
      case measure=>simp[intOf];omega
  .have L:Wl (T=eP l is xs):=show _=_ by have:=HP.o;grind
   go_wp2;go_ret;exact⟨Qd L.o,aj HK.o f⟩
def iN(xs cs:List Int):N (aB xs cs)=N cs:=by simp[aB]
def JB{cs:List Int}(hk:k<N cs):(aB xs cs).take k++[E xs cs[k].toNat 0]=(aB xs cs).take (k+1):=by rw[Qh (by rw[iN];exact hk)];simp[aB]
def W9(q:af)(ao:Option Addr)(cap:Nat)(rs:List ae)(w:U)(hs:q.aH.At w)(hr:fF w ao rs)(hl:N rs<=1000000)(hsl:N q.aH.xs<=8)(hin:∀r∈rs,aM q.aH.xs (N r.xs)=T) :
  Calls V 41 #[FN q.cells,Z ao (N rs) cap] w λe w'=>∃v ys,e=FR v/\ys.map ae.xs=(rs.map ae.xs).map (λr=>aB r q.aH.xs)/\Listed 23 3 (M (H w)) v ys w'/\Bw w w':=by
 have u:=bJ w (FL q.cells 26);obtain⟨w1,t⟩:=eX (w.alloc (FL q.cells 26));have x5:Am w1 (aD (M (H w)) 5)=O q.aH.val:=by rw[<-t];unfold af.cells;simp
 have av:=Zh t;rw[t]at u;have HR:=Zh (hr.below u);have HS:Wl (q.aH.At w1):=Qt u hs;obtain⟨HB,LX⟩:=aV u hin;have ax:=u.size;clear hs hr u t hin;obtain⟨src,dx,aP,wh,aG,aJ,aK,⟨zZ,mW,d⟩,aN⟩:=q;unfold af.cells ae.val at*;simp only at*;go_enter Tryz.func41,Tryz.ntmps41;go_wp2_with fail;rw[av.o];go_loopw [5,6] (λv B wr=>∃(i:Nat) (ys:List ae),i<=N rs/\B=I J i/\N ys=i/\Wl (ys.map ae.xs=((rs.take i).map ae.xs).map (λr=>aB r d))/\Wl (Listed 23 3 (M (H w1)) v ys wr)/\Bw w1 wr) (λ_ B _=>N rs-(intOf B).toNat)
 case atStart=>exact⟨0,[],Q4 _,rfl,rfl,rfl,Listed.nil _ _ _ _,Qr _ _⟩
 case round=>
  obtain⟨i,ys,aO,rfl,aI,HY,C,a⟩:=hrel;by_cases m:i<N rs
  .obtain⟨b,off,rfl,aa⟩:=Qf HR.o.2.1 m;have ay:=Zh (aa i m);have K:=HR.o.2.2 i m;have y:=LX.o (E rs i iz) (Xx m);have G5:Wl (ys.map ae.xs++[aB (E rs i iz).xs d]=((rs.take (i+1)).map ae.xs).map (λr=>aB r d)):=show _=_ by rw[HY.o,<-ZL rs iz m];simp
   generalize E rs i iz=x at*;obtain⟨fO,bF,xs⟩:=x;unfold ae.val ae.At at*;simp only at*;have HX:Wl _:=K;have az:=Zh y;obtain⟨oa,om,oc,rfl⟩:=Xg C.o.own;clear aa K y HY;go_wp2;have JU:=Zh a;obtain⟨wk,ag⟩:=eY (wr);rw[<-ag]at JU C ⊢;clear a ag;go_loopw [7,8] (λv kv wr=>∃(k:Nat),k<=N d/\kv=I J k/\Wl (wr.ownsRow (M (H wk)) 3 1 v k (((aB xs d).take k).map (Value.int J)))/\Bw wk wr) (λ_ kv _=>N d-(intOf kv).toNat)
   case atStart=>exact⟨0,Q4 _,rfl,Xl _ _ _ _,Qr _ _⟩
   case round=>
    obtain⟨k,aQ,rfl,D,a⟩:=hrel;have f:=aj JU.o a;have h5:=cB f x5;have p:=a.size;by_cases n:k<N d
    .have aA:=cB f ay.o;obtain⟨sb,so,rfl,ah⟩:=Qg HS.o n;have L:=cB f (ah k n);have P:E d k 0=d[k]:=by simp[List.getD,n]
     rw[P]at L;have aL:=Qo az.o n;have z:d[k].toNat<N xs:=by omega
     obtain⟨xb,xo,rfl,qK⟩:=Qg HX.o z;have Q:=cB f (qK _ z);obtain⟨ra,rm,rc,rfl⟩:=Xg D.o;have R:N ((aB xs d).take k)=k:=by rw[XK,iN];omega
     obtain⟨v',w5,G,mq,l,⟨va,vm,vc,rfl⟩,-⟩:=iA wr.drew (M (H wk)) (Z ra rm rc) ((aB xs d).take k) (by rw[R];exact D.o.drew) (by omega) p (E xs d[k].toNat 0) 23;rw[JB n]at mq;have S:N ((aB xs d).take (k+1))=k+1:=by rw[XK,iN];omega
     rw[S]at mq;have g:=(a.drew).trans (l.below p (λb u e=>by have:=(Xf D.o e).1;omega));have zJ:Wl _:=mq;have jS:=Zh g;clear mq g l R S P ah qK D a f p;generalize E xs d[k].toNat 0=xv at*;generalize G9:d[k]=ck at*;clear G9;obtain⟨cn,rfl⟩:∃cn:Nat,ck=(cn:Int):=⟨ck.toNat,by omega⟩;simp only[Xu]at z Q;go_wp2;go_region_law (refine X6 (by rfl) _ _ _ (by rfl) (Z ra rm rc) (Z (O (aD (M (H wr)) 0)) 1 1) (Z va vm vc) w5 (by rfl) (by rfl) G ?_)
     all_goals
      clear G aA L Q h5;go_wp2;go_roundw
      case rel=>exact⟨k+1,by omega,by go_num,zJ.o,jS.o⟩
      case measure=>simp[intOf];omega
    .have W:(aB xs d).take k=aB xs d:=Xt (by rw[iN];omega);have aC:k=N (aB xs d):=by rw[iN];omega
     have ho:=D.o;rw[W]at ho;obtain⟨B,hv,ai,ak,-⟩:=jN ho (by rw[iN];omega);have A:=C.o.below a;have j:=f.size;obtain⟨v',w5,G,au,l,⟨va,vm,vc,rfl⟩,-⟩:=mV wr (M (H w1)) (Z oa om oc) ys A (by omega) j B ak 30;have g:=f.trans (l.below j (λb u e=>by have:=(Xf A.own e).1;omega));obtain⟨TK,jS⟩:=aV au g;have aF:Wl ((ys++[B]).map ae.xs=((rs.take (i+1)).map ae.xs).map (λr=>aB r d)):=show _=_ by rw[<-G5.o,Ql,<-ai];rfl
     rw[hv];clear W aC ho D hv ai ak A au g l C G5 a f p j;obtain⟨qF,iq,Cw⟩:=B;unfold ae.val at G;unfold ae.val;simp only at*;go_wp2_with (first|(at_builtin;refine Xy rfl (.tmp 36) (.tmp 38) 30 rfl (Z oa om oc) (Z (O (aD (M (H wr)) 0)) 1 1) (Z va vm vc) w5 rfl rfl G ?_));clear G h5;go_wp2;go_roundw
     case rel=>exact⟨i+1,ys++[ae.mk qF iq Cw],by omega,by go_num,by rw[QI,aI];rfl,aF.o,TK.o,jS.o⟩
     case measure=>simp[intOf];omega
  .have X:rs.take i=rs:=Xt (by omega);rw[X]at HY;obtain⟨oa,om,oc,rfl⟩:=Xg C.o.own;clear X;go_wp2;go_ret;exact⟨_,ys,rfl,HY.o,C.o.lower ax,aj HB.o a⟩
def KM{α β:Type}(f:α->β)(l:List α)(hk:k<N l):(l.map f).take k++[f l[k]]=(l.map f).take (k+1):=by rw[Qh (by simpa using hk)];simp
def ahe(q:af)(ao:Option Addr)(cap:Nat)(rs:List ae)(w:U)(hk:q.keys.At w)(hs:q.sums.At w)(hr:fF w ao rs)(hl:N rs<=100000)(hkl:N q.keys.xs<=4)(hsl:N q.sums.xs<=4)
  (hki:∀r∈rs,aM q.keys.xs (N r.xs)=T) (hsi:∀r∈rs,aM q.sums.xs (N r.xs)=T) (hne:q.keys.xs=[]∨rs≠[]) (hv:∀r∈rs,∀c∈q.sums.xs,Hl (E r.xs c.toNat 0)) :
  Calls V 79 #[FN q.cells,Z ao (N rs) cap] w λe w'=>∃iv:ae,e=FR iv.val/\iv.xs=uT q.keys.xs q.sums.xs (rs.map ae.xs)/\(gJ 3).At iv w'/\Bw w w':=by
 have hb:=bJ w (FL q.cells 26);obtain⟨w1,aa⟩:=eX (w.alloc (FL q.cells 26));have x3:Am w1 (aD (M (H w)) 3)=O q.keys.val:=by rw[<-aa];unfold af.cells;simp
 have x4:Am w1 (aD (M (H w)) 4)=O q.sums.val:=by rw[<-aa];unfold af.cells;simp
 have bD:=Zh aa;rw[aa]at hb;have HR:=Zh (hr.below hb);have HK:Wl (q.keys.At w1):=Qt hb hk;have HS:Wl (q.sums.At w1):=Qt hb hs;obtain⟨HB,bn,Cr,bq,HV⟩:=J5 hb hki hsi hne hv;clear hk hs hr hb aa hki hsi hne hv;obtain⟨src,dx,aP,wh,bH,⟨nU,eQ,a⟩,⟨ni,dV,d⟩,aH,bQ⟩:=q;unfold af.cells ae.val at*;simp only at*;obtain⟨r0,aJ⟩:∃r0,r0=(rs.map ae.xs).headD []:=⟨_,rfl⟩;have HT:Wl (uT a d (rs.map ae.xs)=aB r0 a++[(N rs:Int)]++d.map λc=>lh ((rs.map ae.xs).map λr=>E r c.toNat 0)):=show _=_ by unfold uT;rw[<-aJ,Q8]
 have Nl:=Zh aJ;clear aJ;obtain⟨sc,av⟩:=eY (d.map λc=>lh ((rs.map ae.xs).map λr=>E r c.toNat 0));rw[<-av]at HT;have Y8:=Zh av;have bI:N sc=N d:=by rw[av,Q8]
 clear av;go_enter Tryz.func79,Tryz.ntmps79;go_wp2_with fail;rw[bD.o];go_loopw [5,6] (λv kv wr=>∃(k:Nat),k<=N a/\kv=I J k/\Wl (wr.ownsRow (M (H w1)) 3 1 v k (((aB r0 a).take k).map (Value.int J)))/\Bw w1 wr) (λ_ kv _=>N a-(intOf kv).toNat)
 case atStart=>exact⟨0,Q4 _,rfl,Xl _ _ _ _,Qr _ _⟩
 case round=>
  obtain⟨k,bR,rfl,D,f⟩:=hrel;have h3:=cB f x3;have n:=f.size;by_cases B:k<N a
  .have Q:0<N rs:=by
    rcases bq.o with h|h
    .rw[h]at B;simp at B
    .exact Je.2 h
   obtain⟨b,off,rfl,ag⟩:=Qf HR.o.2.1 Q;have aL:=cB f (ag 0 Q);have u:=HR.o.2.2 0 Q;have ax:=bn.o (E rs 0 iz) (Xx Q);have az:r0=(E rs 0 iz).xs:=by
    rw[Nl.o]
    cases rs with
    |nil=>simp at Q
    |cons x l=>rfl
   rw[az]at D ⊢;obtain⟨kb,ko,rfl,bu⟩:=Qg HK.o B;have au:=cB f (bu k B);have R:E a k 0=a[k]:=by simp[List.getD,B]
   rw[R]at au;have aN:=Qo ax B;have bK:=Zh az;clear ag R bu ax az;generalize E rs 0 iz=x at*;obtain⟨fO,bF,xs⟩:=x;unfold ae.val ae.At at*;simp only[Zp]at*;have bE:=u.1;have z:a[k].toNat<N xs:=by omega
   obtain⟨xb,xo,rfl,qK⟩:=Qg u z;have S:=cB f (qK _ z);obtain⟨ra,rm,rc,rfl⟩:=Xg D.o;have W:N ((aB xs a).take k)=k:=by rw[XK,iN];omega
   obtain⟨v',w5,L,P,t,⟨va,vm,vc,rfl⟩,-⟩:=iA wr.drew (M (H w1)) (Z ra rm rc) ((aB xs a).take k) (by rw[W];exact D.o.drew) (by omega) n (E xs a[k].toNat 0) 23;rw[JB B]at P;have aO:N ((aB xs a).take (k+1))=k+1:=by rw[XK,iN];omega
   rw[aO]at P;have p:=(f.drew).trans (t.below n (λb hb e=>by have:=(Xf D.o e).1;omega));have zJ:Wl _:=P;have jS:=Zh p;clear P p t W aO qK D f n u;generalize E xs a[k].toNat 0=xv at*;generalize G9:a[k]=ck at*;clear G9;obtain⟨cn,rfl⟩:∃cn:Nat,ck=(cn:Int):=⟨ck.toNat,by omega⟩;simp only[Xu]at z S;go_wp2;go_region_law (refine X6 (by rfl) _ _ _ (by rfl) (Z ra rm rc) (Z (O (aD (M (H wr)) 0)) 1 1) (Z va vm vc) w5 (by rfl) (by rfl) L ?_)
   all_goals
    clear L aL au S h3;go_wp2;go_roundw
    case rel=>exact⟨k+1,by omega,by go_num,zJ.o,jS.o⟩
    case measure=>simp[intOf];omega
  .have aQ:(aB r0 a).take k=aB r0 a:=Xt (by rw[iN];omega);have aR:k=N (aB r0 a):=by rw[iN];omega
   have G:=D.o;rw[aQ,aR]at G;obtain⟨ra,rm,rc,rfl⟩:=Xg G;obtain⟨v',w5,L,P,t,⟨va,vm,vc,rfl⟩,-⟩:=iA wr (M (H w1)) (Z ra rm rc) (aB r0 a) G (by rw[iN];omega) n (N rs:Int) 23;have p:=f.trans (t.below n (λb hb e=>by have:=(Xf D.o e).1;omega));obtain⟨ah,ai⟩:=eY (aB r0 a++[(N rs:Int)]);have bL:N ah<=5:=by rw[ai,QI,iN];simp;omega
   rw[<-ai]at HT P;have zJ:Wl _:=P;have jS:=Zh p;clear aQ G aR t P p ai D Nl f n bq HK bn;go_wp2_with (first|(at_builtin;refine Xy rfl (.tmp 31) (.tmp 34) 23 rfl (Z ra rm rc) (Z (O (aD (M (H wr)) 0)) 1 1) (Z va vm vc) w5 rfl rfl L ?_));clear L h3;go_wp2;go_loopw [5,7] (λv kv wr=>∃(m:Nat),m<=N d/\kv=I J m/\Wl (wr.ownsRow (M (H w1)) 3 1 v (N (ah++sc.take m)) ((ah++sc.take m).map (Value.int J)))/\Bw w1 wr) (λ_ kv _=>N d-(intOf kv).toNat)
   case atStart=>exact⟨0,Q4 _,rfl,by rw[List.take_zero,QN];exact zJ.o,jS.o⟩
   case round=>
    clear zJ jS;obtain⟨m,bS,rfl,D,f⟩:=hrel;have h4:=cB f x4;by_cases K:m<N d
    .obtain⟨sb,so,rfl,ay⟩:=Qg HS.o K;have zh:=Zh (ay m K);have R:E d m 0=d[m]:=by simp[List.getD,K]
     rw[R]at zh;have aS:sc.take m++[lh ((rs.map ae.xs).map λr=>E r d[m].toNat 0)]=sc.take (m+1):=by rw[Y8.o];exact KM (λc=>lh ((rs.map ae.xs).map λr=>E r c.toNat 0)) d K
     have N9:=Zh aS;have Ic:Wl (∀r∈rs,0<=d[m]/\d[m]<(N r.xs:Int)):=λr hr=>Qo (Cr.o r hr) K;have aT:Wl (∀r∈rs,Hl (E r.xs d[m].toNat 0)):=λr hr=>HV.o r hr _ (Qi K);generalize C:d[m]=c at*;clear C R ay aS;obtain⟨g,fJ⟩:∃g,g=(rs.map ae.xs).map λr=>E r c.toNat 0:=⟨_,rfl⟩;have bM:N g=N rs:=by rw[fJ];simp
     have Mr:Wl (∀i,i<N rs->E g i 0=(E rs i iz).xs.getD c.toNat 0):=λi hi=>by rw[fJ];simp[List.getD,hi]
     have pE:Wl (∀v∈g,Hl v):=λv hv=>by rw[fJ,Zm]at hv;obtain⟨r,hr,rfl⟩:=Zi.1 hv;exact aT.o r hr
     rw[<-fJ]at N9;clear fJ aT;obtain⟨wk,aK⟩:=eY (wr);have JU:=Zh f;rw[<-aK]at JU D;go_wp2;rw[<-aK];clear aK f h4;go_loopw [8,9,10] (λnv sv kv wr=>∃(j:Nat),j<=N rs/\kv=I J j/\nv=I J (A7 (g.take j):Nat)/\sv=I J (wG (g.take j))/\Bw wk wr) (λ_ _ kv _=>N rs-(intOf kv).toNat)
     case atStart=>exact⟨0,Q4 _,rfl,rfl,rfl,Qr _ _⟩
     case round=>
      obtain⟨j,bT,rfl,rfl,rfl,f⟩:=hrel;have A:=aj JU.o f;by_cases ak:j<N rs
      .obtain⟨b,off,rfl,ag⟩:=Qf HR.o.2.1 ak;have aL:=cB A (ag j ak);have u:=HR.o.2.2 j ak;have aN:=Ic.o (E rs j iz) (Xx ak);have Md:=Mr.o j ak;obtain⟨au,h4⟩:=gy A zh.o x4;have aA:j<N g:=by omega
       have aU:=(ZL g 0 aA).symm;have aW:=YQ (g.take j);have aX:=NG (g.take j) (λv hv=>pE.o v (XC hv));have W:N (g.take j)=j:=by rw[XK];omega
       rw[W]at aW aX;have aC:=LP (g.take j) (E g j 0);have aF:=LQ (g.take j) (E g j 0);have aG:=pE.o (E g j 0) (Xx aA);rw[<-aU]at aC aF;obtain⟨bz,Lt⟩:=aV aC aF;clear ag aU W aC aF aA;generalize A7 (g.take j)=cn at*;generalize wG (g.take j)=sn at*;generalize E rs j iz=x at*;obtain⟨fO,bF,xs⟩:=x;unfold ae.val ae.At at*;simp only at*;have bE:=u.1;have z:c.toNat<N xs:=by omega
       obtain⟨xb,xo,rfl,qK⟩:=Qg u z;have S:=cB A (qK _ z);rw[<-Md]at S;clear Md u qK;generalize E g j 0=y at*;obtain⟨cq,bA⟩:∃cq:Nat,c=(cq:Int):=⟨c.toNat,by omega⟩;rw[bA]at au aN;have aY:c.toNat=cq:=by omega
       rw[aY]at z S;have nV:=Zh f;clear bA aY A f;by_cases y0:y=1073741824
       .have f0:(y != 1073741824)=false:=by simpa using y0
        have Mv:Wl (A7 (g.take (j+1))=cn):=show _=_ by rw[bz.o,Qu y0]
        have aI:Wl (wG (g.take (j+1))=sn):=show _=_ by rw[Lt.o,Qu y0]
        clear y0 aG;go_wp2;go_region;go_wp2;go_roundw
        case rel=>exact⟨j+1,by omega,by go_num,by rw[Mv.o],by rw[aI.o],nV.o.drew⟩
        case measure=>simp[intOf];omega
       .have f0:(y != 1073741824)=true:=by simpa using y0
        have Mv:Wl (A7 (g.take (j+1))=cn+1):=show _=_ by rw[bz.o,QC y0]
        have aI:Wl (wG (g.take (j+1))=sn+y):=show _=_ by rw[Lt.o,QC y0]
        have bN:-1000<=y/\y<=1000:=by
         rcases aG with h|h
         .exact absurd h y0
         .exact h
        have bO:wrap64 (sn+y)=sn+y:=by unfold wrap64;omega
        clear y0 aG;go_wp2;go_region;go_wp2;go_region;go_wp2;go_roundw
        case rel=>exact⟨j+1,by omega,by go_num,by rw[Mv.o];first|rfl|simp,by rw[aI.o],nV.o.drew.drew⟩
        case measure=>simp[intOf];omega
      .have aZ:g.take j=g:=Xt (by omega);rw[aZ];have G:=Xw D.o (Qs _) (λj _ hj=>f.block j hj);obtain⟨ra,rm,rc,rfl⟩:=Xg G;have n:=A.size;have bf:N (ah++sc.take m)<=10:=by rw[QI,XK];omega
       have bG:=YQ g;obtain⟨v',w5,L,P,t,⟨va,vm,vc,rfl⟩,-⟩:=iA wr (M (H w1)) (Z ra rm rc) (ah++sc.take m) G (by omega) n (lh g) 23;have p:=A.trans (t.below n (λb hb e=>by have:=(Xf G e).1;omega));rw[Zu,N9.o]at P;have zJ:Wl _:=P;have jS:=Zh p;clear aZ G n t P p A f bf D;by_cases C:A7 g=0
       .have X:lh g=1073741824:=by unfold lh;rw[Qu C]
        rw[X]at L;rw[C];clear X C bG;go_wp2_with (first|(at_builtin;refine Xy rfl (.tmp 78) (.tmp 80) 23 rfl (Z ra rm rc) (Z (O (aD (M (H wr)) 0)) 1 1) (Z va vm vc) w5 rfl rfl L ?_));clear L;go_wp2;go_roundw
        case rel=>exact⟨m+1,by omega,by go_num,zJ.o,jS.o⟩
        case measure=>simp[intOf];omega
       .have X:lh g=wG g:=by unfold lh;rw[QC C]
        rw[X]at L;generalize wG g=sv at*;generalize A7 g=cv at*;have bP:((cv:Int)==0)=false:=by
         have:¬(cv:Int)=0:=by omega
         simpa using this
        clear X C;go_wp2_with (first|(at_builtin;refine Xy rfl (.tmp 78) (.tmp 80) 23 rfl (Z ra rm rc) (Z (O (aD (M (H wr)) 0)) 1 1) (Z va vm vc) w5 rfl rfl L ?_));clear L;go_wp2;go_roundw
        case rel=>exact⟨m+1,by omega,by go_num,zJ.o,jS.o⟩
        case measure=>simp[intOf];omega
    .have bg:sc.take m=sc:=Xt (by omega);have G:=D.o;rw[bg]at G;obtain⟨iv,hv,bB,bC,-⟩:=jN G (by rw[QI];omega);have HF:Wl (iv.xs=uT a d (rs.map ae.xs)/\(gJ 3).At iv wr):=⟨by rw[bB,HT.o],bC⟩
     rw[hv];clear bg G D hv bB bC;unfold ae.val;go_wp2;go_ret;exact⟨iv,rfl,HF.o.1,HF.o.2,aj HB.o f⟩
