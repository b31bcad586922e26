import Derived.Test.YtpcfbajdeipgbaaGreatDoorX01
set_option linter.all false
set_option maxRecDepth 100000
set_option maxHeartbeats 0
namespace Go.Proofs.Zz
open Go.RowKit Go.Shelf
open List renaming length->N,getD->E
open Go.Value renaming slice->Z,int->I,bool->EP
open Option renaming some->O
open Go.IntKind renaming i64->J,u64->Dc
open Bool renaming true->T
open Go renaming World->U
open Go.RowKit renaming Hid->Wl
open Go.World renaming cell?->Am
variable {xs ys:List Int} {k:Nat}
def iU{a b:Nat}(h:a=b):Ending.returned (I Dc (a:Int))=.returned (I Dc (b:Int)):=by rw[h]
def vV{n:Nat}(h:n<=aU):IntKind.u64.wrap (n:Int)=n:=by unfold aU at h;rw[IntKind.wrap_u64];omega
def Rf:∀(k v:Nat),v<2 ^ k->gW v<=k
 |0,v,h=>by
  have:v=0:=by simpa using h
  rw[this,oV];exact Qs _
 |k+1,v,h=>by
  by_cases h0:0<v
  .rw[uI h0];have:=Rf k (v / 2) (by rw[Nat.pow_succ]at h;omega);omega
  .have:v=0:=by omega
   rw[this,oV];omega
def Rh{v:Nat}(h:v<=18446744073709551615):gW v<=64:=Rf 64 v (by omega)
def afe(a b:Nat)(ha:a<=aU)(hb:b<=aU)(w:U):Ce 135 #[I Dc a,I Dc b] w (I Dc (bG a b:Nat)):=by
 have d:Wl (bG a b=if a > aU-b then aU else a+b):=aeP hb;unfold aU at ha hb;by_cases h:a > 18446744073709551615-b
 .go_enter Tryz.func135,Tryz.ntmps135;go_wp2;go_ret;refine⟨iU (a:=18446744073709551615) ?_,rfl⟩;rw[d.o,Qu (by unfold aU;omega)];rfl
 .go_enter Tryz.func135,Tryz.ntmps135;go_wp2;go_ret;refine⟨?_,rfl⟩;rw[d.o,QC (by unfold aU;omega)];rfl
def LJ(a b:Nat)(ha:a<=aU)(hb:b<=aU)(w:U):Ce 133 #[I Dc a,I Dc b] w (I Dc (aQ a b:Nat)):=by
 by_cases g:a=0
 .subst g;rw[ED];go_enter Tryz.func133,Tryz.ntmps133;go_wp2;go_ret;exact⟨rfl,rfl⟩
 have f:Wl (aQ a b=if b > aU / a then aU else a*b):=abd g;unfold aU at ha hb;have j:=Nat.pos_of_ne_zero g;have hd:18446744073709551615 / a<=18446744073709551615:=Nat.div_le_self _ _;have k:((18446744073709551615:Int)).tdiv (a:Int)=((18446744073709551615 / a:Nat):Int):=by rw[Int.tdiv_eq_ediv_of_nonneg (by omega),Int.natCast_ediv];rfl
 by_cases h:b > 18446744073709551615 / a
 .have e:Wl (aQ a b=aU):=by show aQ a b=aU;rw[f.o,Qu (by unfold aU;exact h)]
  clear f;generalize 18446744073709551615 / a=d at*;go_enter Tryz.func133,Tryz.ntmps133;go_wp2;go_ret;refine⟨iU (a:=18446744073709551615) ?_,rfl⟩;rw[e.o];rfl
 .have e:Wl (aQ a b=a*b):=by show aQ a b=a*b;rw[f.o,QC (by unfold aU;exact h)]
  have i:a*b<=18446744073709551615:=by have:=lU a b;rw[e.o]at this;exact this
  have l:IntKind.u64.wrap ((a:Int)*(b:Int))=((a*b:Nat):Int):=by have:=vV (n:=a*b) i;rw[Int.natCast_mul]at this;rw[this,Int.natCast_mul]
  clear f i;generalize 18446744073709551615 / a=d at*;go_enter Tryz.func133,Tryz.ntmps133;go_wp2;go_ret;refine⟨?_,rfl⟩;rw[e.o,Int.natCast_mul];rfl
def aff(a:Nat)(ha:a<=aU)(w:U):Ce 136 #[I Dc a] w (I Dc (gW a:Nat)):=by
 unfold aU at ha;have f:=Zh (Rh ha);go_enter Tryz.func136,Tryz.ntmps136;go_wp2;go_loop [0,3] (λv n=>∃x k:Nat,v=I Dc x/\n=I Dc k/\x<=18446744073709551615/\k+gW x=gW a) (λv _=>(intOf v).toNat)
 case atStart=>exact⟨a,0,rfl,rfl,ha,Q5 _⟩
 case round=>
  obtain⟨x,k,rfl,rfl,p,b⟩:=hrel;have g:=f.o;have l:=Zh b;by_cases i:0<x
  .have m:((x:Int)).tdiv 2=((x / 2:Nat):Int):=by rw[Int.tdiv_eq_ediv_of_nonneg (by omega),Int.natCast_ediv];rfl
   have hd:x / 2<=18446744073709551615:=by omega
   have j:x / 2<x:=by omega
   have d:k+1<=64:=by rw[uI i]at b;omega
   have e:Wl (k+1+gW (x / 2)=gW a):=by show _=_;rw[uI i]at b;omega
   clear b g;generalize x / 2=y at*;go_wp2;go_round
   case rel=>exact⟨y,k+1,rfl,rfl,hd,e.o⟩
   case measure=>simp[intOf];omega
  .obtain rfl:x=0:=by omega
   rw[oV,Zp]at b;clear g;have d:k<=64:=by have:=f.o;omega
   have e:=Zh b;clear b;go_wp2;go_ret;exact⟨iU e.o,rfl⟩
def vW(ao:Option Addr)(cap:Nat)(xs:List Int)(n:Int)(w:U)(hx:aA w ao xs) :
  Ce 66 #[Z ao (N xs) cap,I J n] w (EP (aM xs n)):=by
 have j:=hx.1;go_enter Tryz.func66,Tryz.ntmps66;go_wp2;go_loop [5] (λi=>∃k:Nat,k<=N xs/\i=I J k/\Wl (aM (xs.take k) n=T)) (λi=>N xs-(intOf i).toNat)
 case atStart=>exact⟨0,Q4 _,rfl,rfl⟩
 case round=>
  obtain⟨k,e,rfl,d⟩:=hrel;by_cases a:k<N xs
  .obtain⟨b,off,rfl,l⟩:=hx.get a;by_cases f:xs[k]<0
   .go_wp2;go_ret;exact⟨Qd (Pj xs n k a (by omega)).symm,rfl⟩
   .by_cases g:xs[k]<n
    .go_wp2;go_round
     case rel=>exact⟨k+1,by omega,by go_num,aax a d.o f g⟩
     case measure=>simp[intOf];omega
    .go_wp2;go_ret;exact⟨Qd (Pj xs n k a (by omega)).symm,rfl⟩
  .go_wp2;go_ret;exact⟨Qd (UH e a d.o),rfl⟩
def DL(ao:Option Addr)(cap:Nat)(xs:List Int)(w:U)(hx:aA w ao xs) :
  Calls Tryz.prog 69 #[Z ao (N xs) cap] w λe D=>e=.returned (EP (dI xs))/\∃n,D = w.drewN n:=by
 have K:=hx.1;go_enter Tryz.func69,Tryz.ntmps69;go_wp2;go_loopw [3] (λi wr=>∃k:Nat,k<=N xs/\i=I J k/\Wl (∀i,i<k->∀j,j<i->E xs i 0≠E xs j 0)/\∃n,wr=w.drewN n) (λi _=>N xs-(intOf i).toNat)
 case atStart=>exact⟨0,Q4 _,rfl,λi z=>absurd z (by omega),0,rfl⟩
 case round=>
  obtain⟨k,L,rfl,u,n,rfl⟩:=hrel;by_cases a:k<N xs
  .obtain⟨b,off,rfl,v⟩:=hx.get a;have A:=v k a;have B:=Zh v;go_wp2;go_loopw [4] (λi wr=>∃m:Nat,m<=k/\i=I J m/\Wl (∀j,j<m->E xs k 0≠E xs j 0)/\∃n,wr=w.drewN n) (λi _=>k-(intOf i).toNat)
   case atStart=>exact⟨0,Q4 _,rfl,λj q=>absurd q (by omega),n,rfl⟩
   case round=>
    obtain⟨m,P,rfl,y,Q,rfl⟩:=hrel;by_cases G:m<k
    .have d:m<N xs:=by omega
     have C:=B.o m d;by_cases f:xs[k]=xs[m]
     .have g:(xs[k]==xs[m])=true:=by simpa using f
      have l:=Zh f;go_wp2;go_quiet (fail);go_wp2;go_ret;exact⟨Qd (Gj a G (by simpa [a,d] using l.o)),_,XE _ _ _⟩
     .have g:(xs[k]==xs[m])=false:=by simpa using f
      have l:=Zh f;go_wp2;go_quiet (fail);go_wp2;go_roundw
      case rel=>
       refine⟨m+1,by omega,by go_num,λj q=>?_,_,rfl⟩;by_cases r:j=m
       .subst r;simpa [a,d] using l.o
       .exact y.o j (by omega)
      case measure=>simp[intOf];omega
    .go_wp2;go_roundw
     case rel=>
      refine⟨k+1,by omega,by go_num,λi z=>?_,_,rfl⟩;by_cases t:i=k
      .subst t;exact λj q=>y.o j (by omega)
      .exact u.o i (by omega)
     case measure=>simp[intOf];omega
  .go_wp2;go_ret;have p:k=N xs:=by omega
   subst p;exact⟨Qd (Eu u.o),_,rfl⟩
def Ri(lo v hi:Int)(w:U) :
  Ce 132 #[I J lo,I J v,I J hi] w (EP (decide (lo<=v)&&decide (v<=hi))):=by
 by_cases a:lo<=v
 .by_cases b:v<=hi
  .go_enter Tryz.func132,Tryz.ntmps132;go_wp2;go_ret;exact⟨Qd (by simp;omega),rfl⟩
  .go_enter Tryz.func132,Tryz.ntmps132;go_wp2;go_ret;exact⟨Qd (by simp;omega),rfl⟩
 .go_enter Tryz.func132,Tryz.ntmps132;go_wp2;go_ret;exact⟨Qd (by simp;omega),rfl⟩
def abG{c:aF}{n:Int}(h:c.left<0∨n<=c.left∨c.op<0∨2<c.op):false=dC c n:=by unfold dC;symm;rw[Bool.and_eq_false_iff];left;simp;omega
def abH{c:aF}{n:Int}(h:¬(c.left<0∨n<=c.left∨c.op<0∨2<c.op))(h2:c.op=2):(!c.const&&decide (c.right=0))=dC c n:=by
 unfold dC;rw[Qu h2];have:(decide (0<=c.left)&&decide (c.left<n)&&decide (0<=c.op)&&decide (c.op<=2))=true:=by simp;omega
 rw[this,QE]
def Rj{c:aF}{n:Int}(h:¬(c.left<0∨n<=c.left∨c.op<0∨2<c.op))(h2:¬c.op=2)(h3:c.const=T):(decide (-1000<=c.right)&&decide (c.right<=1000))=dC c n:=by
 unfold dC;rw[QC h2,Qu h3];have:(decide (0<=c.left)&&decide (c.left<n)&&decide (0<=c.op)&&decide (c.op<=2))=true:=by simp;omega
 rw[this,QE]
def U9{c:aF}{n:Int}(h:¬(c.left<0∨n<=c.left∨c.op<0∨2<c.op))(h2:¬c.op=2)(h3:c.const=false):(decide (0<=c.right)&&decide (c.right<=n-1))=dC c n:=by
 unfold dC;rw[QC h2,QC (by simp[h3])];have:(decide (0<=c.left)&&decide (c.left<n)&&decide (0<=c.op)&&decide (c.op<=2))=true:=by simp;omega
 rw[this,QE]
def Va(c:aF)(n:Int)(w:U)(hn:0<=n)(hn2:n<=1000) :
  Cb 67 #[c.val,I J n] w (EP (dC c n)):=by
 have b:=@abG c n;have d:=@abH c n;have a:=@Rj c n;have l:=@U9 c n;obtain⟨t,i,left,f,right⟩:=c;unfold aF.val;simp only at b d a l;generalize dC ⟨t,i,left,f,right⟩ n=B at*;by_cases j:left<0∨n<=left∨i<0∨2<i
 .have g:=Zh (b j);clear b d a l;go_enter Tryz.func67,Tryz.ntmps67;go_wp2
  all_goals
   go_ret;exact⟨Qd g.o,(Qr _ _).alloc (Qs _) _⟩
 .have v:0<=left:=by omega
  have y:left<n:=by omega
  have z:0<=i:=by omega
  have A:i<=2:=by omega
  by_cases k:i=2
  .have g:Wl ((!f&&decide (right=0))=B):=d j k;clear b d a l j;subst k
   cases f
   .by_cases p:right=0
    .subst p;go_enter Tryz.func67,Tryz.ntmps67;go_wp2;go_ret;exact⟨Qd g.o,(Qr _ _).alloc (Qs _) _⟩
    .have q:(right==0)=false:=by simpa using p
     have m:=Zh (show false=B by have:=g.o;simpa [p] using this);clear g;go_enter Tryz.func67,Tryz.ntmps67;go_wp2;go_ret;exact⟨Qd m.o,(Qr _ _).alloc (Qs _) _⟩
   .go_enter Tryz.func67,Tryz.ntmps67;go_wp2;go_ret;exact⟨Qd g.o,(Qr _ _).alloc (Qs _) _⟩
  .have r:(i==2)=false:=by simpa using k
   cases f
   .have g:Wl ((decide (0<=right)&&decide (right<=n-1))=B):=l j k rfl;clear b d a l j k;go_enter Tryz.func67,Tryz.ntmps67;go_wp2_with (go_at_call 132;refine(Ri _ _ _ _).mono ?_;rintro e u ⟨rfl,rfl⟩);go_ret;exact⟨Qd g.o,(Qr _ _).alloc (Qs _) _⟩
   .have g:Wl ((decide (-1000<=right)&&decide (right<=1000))=B):=a j k rfl;clear b d a l j k;go_enter Tryz.func67,Tryz.ntmps67;go_wp2_with (go_at_call 132;refine(Ri _ _ _ _).mono ?_;rintro e u ⟨rfl,rfl⟩);go_ret;exact⟨Qd g.o,(Qr _ _).alloc (Qs _) _⟩
def aiz(q:af)(w:U)(h1:N q.keys.xs<=1000)(h2:N q.sums.xs<=1000) :
  Cb 68 #[.agg q.cells] w (I J (rQ q.group q.keys.xs q.sums.xs q.aH.xs)):=by
 obtain⟨src,f,g,i,a,b,d,j,e⟩:=q;simp only at h1 h2;unfold af.cells ae.val;cases a
 .go_enter Tryz.func68,Tryz.ntmps68;go_wp2;go_ret;exact⟨Qe rfl,(Qr _ _).alloc (Qs _) _⟩
 .go_enter Tryz.func68,Tryz.ntmps68;go_wp2;go_ret;exact⟨Qe rfl,(Qr _ _).alloc (Qs _) _⟩
def pW(ao:Option Addr)(cap:Nat)(ts:List ag)(w:U)(hx:aN w ao ts) :
  Cb 65 #[Z ao (N ts) cap] w (EP (dL ts)):=by
 have hl:=hx.1;by_cases B:N ts<1
 .go_enter Tryz.func65,Tryz.ntmps65;go_wp2;go_ret;exact⟨Qd (Gm B),Qr _ _⟩
 by_cases C:8<N ts
 .go_enter Tryz.func65,Tryz.ntmps65;go_wp2;go_ret;exact⟨Qd (KZ C),Qr _ _⟩
 go_enter Tryz.func65,Tryz.ntmps65;go_wp2;go_loopw [3] (λi wr=>∃k:Nat,k<=N ts/\i=I J k/\Wl ((ts.take k).all dJ=T)/\Bw w wr) (λi _=>N ts-(intOf i).toNat)
 case atStart=>exact⟨0,Q4 _,rfl,rfl,Qr _ _⟩
 case round=>
  obtain⟨k,S,rfl,v,e⟩:=hrel;by_cases d:k<N ts
  .obtain⟨b,off,rfl,y,W,X,c3,c4,c5⟩:=hx.2 k d;have a:=Qj y;have e0:=(e.cell (p:=(aD b (off+k*6))) a).trans y;have e1:=(e.cell (p:=(aD b (off+k*6+1))) a).trans W;have e2:=(e.cell (p:=(aD b (off+k*6+2))) a).trans X;have e3:=(e.cell (p:=(aD b (off+k*6+3))) a).trans c3;have e4:=(e.cell (p:=(aD b (off+k*6+4))) a).trans c4;have e5:=(e.cell (p:=(aD b (off+k*6+5))) a).trans c5;generalize ht:E ts k tz=t at*;have l:=Zh ht;have f:=e.size;by_cases h1:t.cols<1∨4<t.cols∨t.rows<0∨1000000<t.rows
   .have g:=Zh (Bu d (by rw[l.o];exact Gl h1));go_wp2
    all_goals
     go_ret;exact⟨Qd g.o,e.alloc f _⟩
   .have G:1<=t.cols:=by omega
    have K:t.cols<=4:=by omega
    have L:0<=t.rows:=by omega
    have P:t.rows<=1000000:=by omega
    go_wp2;go_loop [5] (λi=>∃m:Nat,m<=t.cols.toNat/\i=I J m/\Wl (∀j,j<m->1<=t.kd j/\t.kd j<=1000000)) (λi=>t.cols.toNat-(intOf i).toNat)
    case atStart=>exact⟨0,Q4 _,rfl,λj r=>absurd r (by omega)⟩
    case round=>
     obtain⟨m,hm,rfl,A⟩:=hrel;by_cases D:m<t.cols.toNat
     .have n:(m:Int)<t.cols:=by omega
      have q:m<4:=by omega
      have Q:=ag.YE wr t 53 m q;by_cases aa:t.kd m<1
      .have g:=Zh (Bu d (by rw[l.o];exact xK m D (by omega)));go_wp2;go_ret;exact⟨Qd g.o,e.alloc f _⟩
      .by_cases ae:1000000<t.kd m
       .have g:=Zh (Bu d (by rw[l.o];exact xK m D (by omega)));go_wp2;go_ret;exact⟨Qd g.o,e.alloc f _⟩
       .go_wp2;go_round
        case rel=>
         refine⟨m+1,by omega,by go_num,λj r=>?_⟩;by_cases u:j=m
         .subst u;omega
         .exact A.o j (by omega)
        case measure=>simp[intOf];omega
     .have n:¬(m:Int)<t.cols:=by omega
      have R:=Zh (Ev G K L P (λj r=>A.o j (by omega)));go_wp2;go_roundw
      case rel=>exact⟨k+1,by omega,by go_num,aei (z:=tz) d v.o (by rw[l.o];exact R.o),e.alloc f _⟩
      case measure=>simp[intOf];omega
  .go_wp2;go_ret;exact⟨Qd (aay B C S d v.o),e⟩
def DN(ao:Option Addr)(cap:Nat)(ts:List ag)(q:af)(w:U)(hx:aN w ao ts)(hc:dL ts=T)(hq:q.src.At w)(h5:N q.src.xs<=5)(ha:aM q.src.xs (N ts)=T) :
  Cb 38 #[Z ao (N ts) cap,.agg q.cells,I J (N q.src.xs)] w (I J (ak ts q.src.xs)):=by
 obtain⟨⟨C,D,xs⟩,G,K,L,d,e,f,P,t⟩:=q;unfold ae.At at hq;simp only at h5 ha hq;unfold af.cells ae.val;simp only;obtain⟨g,j⟩:=aV hc ha;go_enter Tryz.func38,Tryz.ntmps38;go_wp2;go_loop [7,8] (λn i=>∃k:Nat,k<=N xs/\i=I J k/\n=I J (ak ts (xs.take k))) (λ_ i=>N xs-(intOf i).toNat)
 case atStart=>exact⟨0,Q4 _,rfl,rfl⟩
 case round=>
  obtain⟨k,u,rfl,rfl⟩:=hrel;have l:=Qp g.o j.o k u;by_cases a:k<N xs
  .obtain⟨Q,v,rfl,y⟩:=hq.get a;have m:=Qq (y k a);have A:=Qo j.o a;have B:=qW g.o (i:=xs[k].toNat) (by omega);obtain⟨b,off,rfl,z,-⟩:=hx.2 xs[k].toNat (by omega);have p:=Qq z;have r:=Zh (Qk ts xs k a);generalize (E ts xs[k].toNat tz).cols=cc at*;generalize ak ts (xs.take k)=W0 at*;go_wp2;go_round
   case rel=>exact⟨k+1,by omega,by go_num,by rw[r.o]⟩
   case measure=>simp[intOf];omega
  .go_wp2;go_ret;have:k=N xs:=by omega
   subst this;exact⟨Qe (by rw[Zb]),(Qr _ _).alloc (Qs _) _⟩
theorem uq{v:Int}(hk:k<N xs):v∈xs.take (k+1)↔v∈xs.take k∨E xs k 0=v:=by rw[Qh hk,Ze,Xj];grind
theorem BX(hx:k<N xs)(hy:k<N ys)(h:xs.take k=ys.take k)(e:E xs k 0=E ys k 0):xs.take (k+1)=ys.take (k+1):=by rw[Qh hx,Qh hy,h];grind
def Vd(hy:k<N ys)(e:E xs k 0≠E ys k 0):xs.take (N ys)≠ys:=λh=>e (by
 have:E (xs.take (N ys)) k 0=E ys k 0:=by rw[h]
 rw[<-this];simp[List.getD,List.getElem?_take,hy])
def oD(ao:Option Addr)(cap:Nat)(xs:List Int)(v:Int)(w:U)(hx:aA w ao xs) :
  Ce 83 #[Z ao (N xs) cap,I J v] w (EP (decide (v∈xs))):=by
 have r:=hx.1;go_enter Tryz.func83,Tryz.ntmps83;go_wp2;go_loop [5] (λi=>∃k:Nat,k<=N xs/\i=I J k/\v ∉ xs.take k) (λi=>N xs-(intOf i).toNat)
 case atStart=>exact⟨0,Q4 _,rfl,by simp⟩
 case round=>
  obtain⟨k,t,rfl,d⟩:=hrel;by_cases a:k<N xs
  .obtain⟨b,off,rfl,p⟩:=hx.get a;have q:=p k a;have m:=Zh (uq (v:=v) a);have j:Wl _:=d;have n:Wl (E xs k 0∈xs):=by
    show _∈_;have e:E xs k 0=xs[k]:=by simp[List.getD,a]
    rw[e];exact Qi a
   clear p hx d;obtain⟨x,f⟩:=eY (E xs k 0);rw[<-f]at q m n;clear f;by_cases g:x=v
   .have l:(x==v)=true:=by simp[g]
    go_wp2;go_ret;exact⟨Qd (QD (by rw[<-g];exact n.o)).symm,rfl⟩
   .have l:(x==v)=false:=by simp[g]
    go_wp2;go_round
    case rel=>exact⟨k+1,by omega,by go_num,λe=>by
     rcases m.o.1 e with e|e
     .exact j.o e
     .exact g e⟩
    case measure=>simp[intOf];omega
  .have e:k=N xs:=by omega
   rw[e,Zb]at d;have j:Wl _:=d;clear d;go_wp2;go_ret;exact⟨Qd (QX j.o).symm,rfl⟩
def vX(ao bo:Option Addr)(cap cap':Nat)(xs ys:List Int)(w:U)(hx:aA w ao xs)(hy:aA w bo ys) :
  Cb 77 #[Z ao (N xs) cap,Z bo (N ys) cap'] w (EP (aY xs ys)):=by
 have G:=hx.1;have A:=hy.1;by_cases j:N ys<=N xs
 .have l:Wl (aY xs ys=decide (xs.take (N ys)=ys)):=by show _=_;unfold aY;rw[QD j,QE]
  go_enter Tryz.func77,Tryz.ntmps77;go_wp2;go_loopw [5] (λi wr=>∃k:Nat,k<=N ys/\i=I J k/\xs.take k=ys.take k/\∃n,wr=w.drewN n) (λi _=>N ys-(intOf i).toNat)
  case atStart=>exact⟨0,Q4 _,rfl,rfl,0,rfl⟩
  case round=>
   obtain⟨k,K,rfl,t,n,rfl⟩:=hrel;have r:=Zh t;clear t;by_cases a:k<N ys
   .have p:k<N xs:=by omega
    obtain⟨b,off,rfl,u⟩:=hx.get p;obtain⟨b',Gi,rfl,g⟩:=hy.get a;have B:=u k p;have C:=g k a;clear u g hx hy;obtain⟨x,d⟩:=eY (E xs k 0);obtain⟨y,f⟩:=eY (E ys k 0);rw[<-d]at B;rw[<-f]at C;obtain⟨v,z⟩:=aV d f;clear d f;by_cases m:x=y
    .have q:(x != y)=false:=by simp[m]
     go_wp2;go_quiet (fail);go_wp2;go_roundw
     case rel=>exact⟨k+1,by omega,by go_num,BX p a r.o (by rw[<-v.o,<-z.o];exact m),_,rfl⟩
     case measure=>simp[intOf];omega
    .have q:(x != y)=true:=by simp[m]
     go_wp2;go_quiet (fail);go_wp2;go_ret;exact⟨Qd (by rw[l.o];exact(QX (Vd a (by rw[<-v.o,<-z.o];exact m))).symm),Qy (Qy (Qr _ _) _) _⟩
   .have e:k=N ys:=by omega
    have D:=Zh e;clear e;go_wp2;go_ret;exact⟨Qd (by rw[l.o];refine(QD ?_).symm;have:=r.o;rw[D.o,Zb]at this;exact this),Qy (Qr _ _) _⟩
 .have l:Wl (aY xs ys=false):=by show _=_;unfold aY;rw[QX j,XF]
  go_enter Tryz.func77,Tryz.ntmps77;go_wp2;go_ret;exact⟨Qd l.o.symm,Qr _ _⟩
def yg(ao:Option Addr)(cap:Nat)(ts:List ag)(q:af)(s:Nat)(w:U)(hx:aN w ao ts)(hc:dL ts=T)(hq:q.src.At w)(h5:N q.src.xs<=5)(ha:aM q.src.xs (N ts)=T)(hs:s<=N q.src.xs) :
  Cb 38 #[Z ao (N ts) cap,.agg q.cells,I J s] w (I J (ak ts (q.src.xs.take s))):=by
 obtain⟨⟨G,K,xs⟩,L,P,Q,g,j,l,R,y⟩:=q;unfold ae.At at hq;simp only at h5 ha hq hs;unfold af.cells ae.val;simp only;have B:=hx.1;obtain⟨m,p⟩:=aV hc ha;clear hc ha;go_enter Tryz.func38,Tryz.ntmps38;go_wp2;go_loop [7,8] (λn i=>∃k:Nat,k<=s/\i=I J k/\n=I J (ak ts (xs.take k))) (λ_ i=>N xs-(intOf i).toNat)
 case atStart=>exact⟨0,Q4 _,rfl,rfl⟩
 case round=>
  obtain⟨k,S,rfl,rfl⟩:=hrel;have f:=Qp m.o p.o k (by omega);by_cases A:k<s
  .have d:k<N xs:=by omega
   obtain⟨W,z,rfl,a⟩:=hq.get d;have t:=Qq (a k d);have C:=Qo p.o d;have D:=qW m.o (i:=xs[k].toNat) (by omega);obtain⟨b,off,rfl,r,-⟩:=hx.2 xs[k].toNat (by omega);have u:=Qq r;have v:=Zh (Qk ts xs k d);generalize (E ts xs[k].toNat tz).cols=cc at*;generalize ak ts (xs.take k)=W0 at*;clear a r hx hq;go_wp2;go_round
   case rel=>exact⟨k+1,by omega,by go_num,by rw[v.o]⟩
   case measure=>simp[intOf];omega
  .have e:k=s:=by omega
   subst e;clear f hx hq;go_wp2;go_ret;exact⟨rfl,(Qr _ _).alloc (Qs _) _⟩
def rW(ao:Option Addr)(cap:Nat)(ts:List ag)(q:af)(c:Int)(w:U)(hx:aN w ao ts)(hc:dL ts=T)(hq:q.src.At w)(h5:N q.src.xs<=5)(ha:aM q.src.xs (N ts)=T)(h0:0<=c)(hl:c<ak ts q.src.xs) :
  Cb 82 #[Z ao (N ts) cap,.agg q.cells,I J c] w (I J (au ts q.src.xs c:Nat)):=by
 have D:=λ(s:Nat) (n:s<=N q.src.xs) x (t:Bw w x)=>yg ao cap ts q s x (hx.below t) hc (Qt t hq) h5 ha n;have G:Wl (∀(s:Nat),s<=au ts q.src.xs c->(c ≥ ak ts (q.src.xs.take (s+1))↔s<au ts q.src.xs c)):=λs n=>J6 hc ha h0 hl n;have u:=(Za hc ha h0 hl).1;have y:Wl (∀k,k<=N q.src.xs->0<=ak ts (q.src.xs.take k)/\ak ts (q.src.xs.take k)<=4*k):=λk hk=>Qp hc ha k hk;have Q:=hx.1;have j:q.cells=#[q.src.val,Z q.dx (N q.wh) q.aP,EP q.group,q.keys.val,q.sums.val,q.aH.val,q.ord.val]:=rfl;clear hc ha hx hq;obtain⟨S,L⟩:=eY (au ts q.src.xs c);rw[<-L]at G u ⊢;clear L;have i:=λ(s:Nat) (n:s<=N q.src.xs) x (t:Bw w x)=>D s n x t;clear D;rw[j]at i ⊢;clear j;obtain⟨b,f⟩:∃x,x=w.alloc (.cells #[q.src.val,Z q.dx (N q.wh) q.aP,EP q.group,q.keys.val,q.sums.val,q.aH.val,q.ord.val] 26):=⟨_,rfl⟩;have l:Bw w b:=by rw[f];exact bJ _ _
 have g:GB b w.heap.size 26 #[q.src.val,Z q.dx (N q.wh) q.aP,EP q.group,q.keys.val,q.sums.val,q.aH.val,q.ord.val]:=by rw[f];exact iX _ _
 have K:Wl (Bw b (w.alloc (.cells #[q.src.val,Z q.dx (N q.wh) q.aP,EP q.group,q.keys.val,q.sums.val,q.aH.val,q.ord.val] 26))):=show Below _ _ _ by rw[f];exact Qr _ _
 obtain⟨P,B⟩:=aV l i;clear f i l;have R:Am b (aD w.heap.size 0)=O q.src.val:=g.cell 0;have X:Am b (aD w.heap.size 1)=O (Z q.dx (N q.wh) q.aP):=g.cell 1;have q2:Am b (aD w.heap.size 2)=O (EP q.group):=g.cell 2;have q3:Am b (aD w.heap.size 3)=O q.keys.val:=g.cell 3;have q4:Am b (aD w.heap.size 4)=O q.sums.val:=g.cell 4;have q5:Am b (aD w.heap.size 5)=O q.aH.val:=g.cell 5;have q6:Am b (aD w.heap.size 6)=O q.ord.val:=g.cell 6;clear g;unfold ae.val at*;generalize q.src.xs=xs at*;go_enter Tryz.func82,Tryz.ntmps82;go_wp2;go_loopw [7] (λv wr=>∃s:Nat,s<=S/\v=I J s/\Bw b wr) (λv _=>S-(intOf v).toNat)
 case atStart=>exact⟨0,Q4 _,rfl,K.o⟩
 case round=>
  clear K;obtain⟨s,C,rfl,d⟩:=hrel;obtain⟨e0,e1,e2,e3,e4⟩:=ji d R X q2 q3 q4;obtain⟨e5,e6⟩:=gy d q5 q6;go_wp2_with fail;have a:((s+1:Nat):Int)=(s:Int)+1:=by omega
  have z:=B.o (s+1) (by omega) wr (aj P.o d);rw[a]at z;refine z.mono ?_;rintro e w2 ⟨rfl,m⟩;have aa:=y.o (s+1) (by omega);have r:=G.o s C;have k2:=aj d m;clear e0 e1 e2 e3 e4 e5 e6 z a m d;generalize ak ts (xs.take (s+1))=W at*;by_cases p:s<S
  .have A:W<=c:=r.2 p;clear r;go_wp2;go_roundw
   case rel=>exact⟨s+1,by omega,by go_num,k2⟩
   case measure=>simp[intOf];omega
  .have A:¬W<=c:=λe=>p (r.1 e)
   have e:s=S:=by omega
   clear r;subst e;go_wp2;go_ret;exact⟨rfl,aj P.o k2⟩
def ap5{w:U}{ao:Option Addr}{ts:List ag}(h:aN w ao ts){i:Nat}(hi:i<N ts){m:Nat}(hm:m<4) :
  ∃b off,ao=O (aD b off)/\Am w (aD b (off+i*6+2+m))=O (I J ((E ts i tz).kd m)):=by
 obtain⟨b,off,e,_,_,a,d,f,g⟩:=h.2 i hi;refine⟨b,off,e,?_⟩;rcases (by omega:m=0∨m=1∨m=2∨m=3) with rfl|rfl|rfl|rfl
 .exact a
 .exact d
 .exact f
 .exact g
def abI(ao:Option Addr)(cap:Nat)(ts:List ag)(q:af)(c:Int)(w:U)(hx:aN w ao ts)(hc:dL ts=T)(hq:q.src.At w)(h5:N q.src.xs<=5)(ha:aM q.src.xs (N ts)=T)(h0:0<=c)(hl:c<ak ts q.src.xs) :
  Cb 170 #[Z ao (N ts) cap,.agg q.cells,I J c] w (I J (fD ts q.src.xs c)):=by
 obtain⟨p,s2,s3,r⟩:=Za hc ha h0 hl;have R:=λx (Q:Bw w x)=>rW ao cap ts q c x (hx.below Q) hc (Qt Q hq) h5 ha h0 hl;have d:=λx (Q:Bw w x)=>yg ao cap ts q (au ts q.src.xs c) x (hx.below Q) hc (Qt Q hq) h5 ha (by omega);have t:=Qp hc ha (au ts q.src.xs c) (by omega);have g:=Qk ts q.src.xs (au ts q.src.xs c) p;have u:=Qo ha p;have v:=qW hc (i:=(q.src.xs[au ts q.src.xs c]).toNat) (by omega);have y:E q.src.xs (au ts q.src.xs c) 0=q.src.xs[au ts q.src.xs c]:=by simp[List.getD,p]
 obtain⟨sb,so,ah,B⟩:=hq.get p;have b:=B _ p;rw[y]at b r;obtain⟨W,hW⟩:=eY (ak ts (q.src.xs.take (au ts q.src.xs c)));obtain⟨C,hT⟩:=eY (q.src.xs[au ts q.src.xs c]);rw[<-hW]at d t g s2 r;rw[<-hT]at g u v b r;obtain⟨m,hm⟩:∃m:Nat,(m:Int)=c-W:=⟨(c-W).toNat,by omega⟩;obtain⟨tb,az,D,k⟩:=ap5 hx (i:=C.toNat) (m:=m) (by omega) (by omega);have ai:m<4:=by omega
 have X:c.toNat-W.toNat=m:=by omega
 rw[X]at r;have av:=hx.1;have j:((C.toNat:Nat):Int)=C:=by omega
 have aa:C.toNat<N ts:=by omega
 obtain⟨K,hK⟩:=eY (fD ts q.src.xs c);rw[<-r,<-hK]at k;rw[<-hK];obtain⟨S,hS⟩:=eY (au ts q.src.xs c);rw[<-hS]at R d b p;obtain⟨tn,G⟩:=eY (C.toNat);rw[<-G]at k j aa;have z:=j.symm;rw[z]at b;clear hS hK s2 s3 r g hW hT y B u v X G j z;obtain⟨w1,f⟩:∃x,x=w.alloc (.cells q.cells 26):=⟨_,rfl⟩;have A:Bw w w1:=by rw[f];exact bJ _ _
 have fV:GB w1 w.heap.size 26 q.cells:=by rw[f];exact iX _ _
 obtain⟨uD,L⟩:=aV R d;clear R d hx hq ha hc;rw[D];rw[D]at uD L;obtain⟨⟨ni,dV,xs⟩,dx,aP,wh,l,⟨nU,eQ,dU⟩,⟨F4,qZ,JV⟩,⟨zZ,mW,tJ⟩,⟨JW,sQ,Hf⟩⟩:=q;unfold af.cells ae.val at*;simp only at*;subst ah;obtain⟨q0,q1,q2,q3,q4,q5,q6⟩:=fV.k7;have uE:=f.symm;clear f fV;have ax:=hm.symm;clear hm;have ay:IntKind.i64.wrap (m:Int)=m:=by rw[XG];omega
 have YP:(m:Int)<4:=by omega
 go_enter Tryz.func170,Tryz.ntmps170;go_upto_region 1 with fail;clear uE;go_wp2_with fail;refine(uD.o w1 A).mono ?_;rintro e w2 ⟨rfl,n⟩;have k2:=aj A n;have a:=n;clear n;clear t hl;go_wp2;refine Qw ?_;refine Gw ?_;go_big_quiet_want;refine⟨Z (O (aD sb so)) (N xs) dV,λx hx=>?_,?_⟩
 .have e0:=cB (aj a hx) q0;go_simp
 simp only[pU];go_big_quiet_on;refine Gw ?_;go_big_quiet_want;refine⟨I J tn,λx hx=>?_,?_⟩
 .have e0:=cB (aj k2 hx) b;go_simp
 simp only[pU];go_big_quiet_on;refine Gw ?_;go_big_quiet_want;refine⟨.agg #[Z (O (aD sb so)) (N xs) dV,Z dx (N wh) aP,EP l,Z nU (N dU) eQ,Z F4 (N JV) qZ,Z zZ (N tJ) mW,Z JW (N Hf) sQ],λx hx=>?_,?_⟩
 .have e0:=cB (aj a hx) q0;have e1:=cB (aj a hx) q1;have e2:=cB (aj a hx) q2;have e3:=cB (aj a hx) q3;have X:=cB (aj a hx) q4;have e5:=cB (aj a hx) q5;have e6:=cB (aj a hx) q6;go_simp
 simp only[pU];go_big_quiet_on;refine lQ ?_;go_big_quiet_want;refine⟨I J W,λx hx=>?_,?_⟩
 .have hC:=Qx hx (L.o x (aj k2 hx));go_simp
 simp only[pU];go_big_quiet_on;refine qA4 ?_;go_big_quiet_want;refine⟨I J K,λx hx=>?_,?_⟩
 .have e0:=cB (aj k2 hx) k;go_simp
 simp only[pU];go_big_quiet_on;refine lQ ?_;refine XH ?_;intro w3 P;have k3:=aj k2 P;clear P;go_wp2;go_ret;exact⟨rfl,k3⟩
