import Derived.Test.YtfnnchibngigdaaGreatDoorS00
set_option linter.all false
set_option maxRecDepth 100000
set_option maxHeartbeats 0
namespace Go.Proofs.Zz
open Go.RowKit Go.Shelf Go.Proofs.Tryz
open List renaming length->N,getD->E
open Go.Value renaming slice->Z,int->I
open Go.IntKind renaming i64->J
open Go renaming World->U
def lQ(ao:JW)(cap:Nat)(xs:KJ)(n:Int)(w:U)(hx:IntsAt w ao xs) :
  Ce 26 #[Z ao (N xs) cap,I J n] w (.bool (aP xs n)):=by
 have l:=hx.1;go_enter func26,ntmps26;go_wp2;go_loop [5] (λi=>∃k:Nat,k<=N xs/\i=I J k/\Hid (aP (xs.take k) n=true)) (λi=>N xs-(intOf i).toNat)
 case atStart=>exact⟨0,ZP _,rfl,rfl⟩
 case round=>
  obtain⟨k,e,rfl,d⟩:=hrel;by_cases a:k<N xs
  .obtain⟨b,f,rfl,m⟩:=hx.get a;by_cases g:xs[k]<0
   .go_wp2;go_ret;exact⟨QV (zQ xs n k a X).symm,rfl⟩
   .by_cases j:xs[k]<n
    .go_wp2;go_round
     case rel=>exact⟨k+1,X,Qf,EW a d.o g j⟩
     case measure=>exact Qw
    .go_wp2;go_ret;exact⟨QV (zQ xs n k a X).symm,rfl⟩
  .go_wp2;go_ret;exact⟨QV (Cf e a d.o),rfl⟩
def rJ(ao:JW)(cap:Nat)(xs:KJ)(w:U)(hx:IntsAt w ao xs) :
  Calls Tryz.prog 30 #[Z ao (N xs) cap] w λe G=>e=.returned (.bool (bG xs))/\∃n,G = w.drewN n:=by
 have L:=hx.1;go_enter func30,ntmps30;go_wp2;go_loopw [3] (λi wr=>∃k:Nat,k<=N xs/\i=I J k/\Hid (∀i,i<k->∀j,j<i->E xs i 0≠E xs j 0)/\∃n,wr=w.drewN n) (λi _=>N xs-(intOf i).toNat)
 case atStart=>exact⟨0,ZP _,rfl,λi z=>absurd z X,0,rfl⟩
 case round=>
  obtain⟨k,P,rfl,u,n,rfl⟩:=hrel;by_cases a:k<N xs
  .obtain⟨b,D,rfl,v⟩:=hx.get a;have A:=v k a;have B:=Zh v;go_wp2;go_loopw [4] (λi wr=>∃m:Nat,m<=k/\i=I J m/\Hid (∀j,j<m->E xs k 0≠E xs j 0)/\∃n,wr=w.drewN n) (λi _=>k-(intOf i).toNat)
   case atStart=>exact⟨0,ZP _,rfl,λj q=>absurd q X,n,rfl⟩
   case round=>
    obtain⟨m,Q,rfl,y,R,rfl⟩:=hrel;by_cases K:m<k
    .have d:m<N xs:=X
     have C:=B.o m d;by_cases f:xs[k]=xs[m]
     .have g:(xs[k]==xs[m])=true:=by simpa using f
      have l:=Zh f;go_wp2;go_quiet (fail);go_wp2;go_ret;exact⟨QV (uC a K (by simpa [a,d] using l.o)),_,World.drewN_drewN _ _ _⟩
     .have g:(xs[k]==xs[m])=false:=by simpa using f
      have l:=Zh f;go_wp2;go_quiet (fail);go_wp2;go_roundw
      case rel=>
       refine⟨m+1,X,Qf,λj q=>?_,_,rfl⟩;by_cases r:j=m
       .subst r;simpa [a,d] using l.o
       .exact y.o j X
      case measure=>exact Qw
    .go_wp2;go_roundw
     case rel=>
      refine⟨k+1,X,Qf,λi z=>?_,_,rfl⟩;by_cases t:i=k
      .subst t;exact λj q=>y.o j X
      .exact u.o i X
     case measure=>exact Qw
  .go_wp2;go_ret;have p:k=N xs:=X
   subst p;exact⟨QV (sF u.o),_,rfl⟩
def Am(lo v hi:Int)(w:U) :
  Ce 54 #[I J lo,I J v,I J hi] w (.bool (decide (lo<=v)&&decide (v<=hi))):=by
 by_cases a:lo<=v
 .by_cases b:v<=hi
  .go_enter func54,ntmps54;go_wp2;go_ret;exact⟨QV Qi,rfl⟩
  .go_enter func54,ntmps54;go_wp2;go_ret;exact⟨QV Qi,rfl⟩
 .go_enter func54,ntmps54;go_wp2;go_ret;exact⟨QV Qi,rfl⟩
def Gr{c:aF}{n:Int}(h:c.left<0∨n<=c.left∨c.op<0∨2<c.op):false=dn c n:=by unfold dn;symm;rw[Bool.and_eq_false_iff];left;simp;omega
def Gs{c:aF}{n:Int}(h:¬(c.left<0∨n<=c.left∨c.op<0∨2<c.op))(h2:c.op=2):(!c.const&&decide (c.right=0))=dn c n:=by unfold dn;rw[Q8 h2];have:(decide (0<=c.left)&&decide (c.left<n)&&decide (0<=c.op)&&decide (c.op<=2))=true:=Qi;rw[this,Zi]
def Ao{c:aF}{n:Int}(h:¬(c.left<0∨n<=c.left∨c.op<0∨2<c.op))(h2:¬c.op=2)(h3:c.const=true):(decide (-1000<=c.right)&&decide (c.right<=1000))=dn c n:=by unfold dn;rw[Zf h2,Q8 h3];have:(decide (0<=c.left)&&decide (c.left<n)&&decide (0<=c.op)&&decide (c.op<=2))=true:=Qi;rw[this,Zi]
def CF{c:aF}{n:Int}(h:¬(c.left<0∨n<=c.left∨c.op<0∨2<c.op))(h2:¬c.op=2)(h3:c.const=false):(decide (0<=c.right)&&decide (c.right<=n-1))=dn c n:=by unfold dn;rw[Zf h2,Zf (by simp[h3])];have:(decide (0<=c.left)&&decide (c.left<n)&&decide (0<=c.op)&&decide (c.op<=2))=true:=Qi;rw[this,Zi]
def CG(c:aF)(n:Int)(w:U)(hn:0<=n)(hn2:n<=1000) :
  Cb 28 #[c.val,I J n] w (.bool (dn c n)):=by
 have b:=@Gr c n;have d:=@Gs c n;have a:=@Ao c n;have l:=@CF c n;obtain⟨t,i,left,f,right⟩:=c;unfold aF.val;simp only at b d a l;generalize dn ⟨t,i,left,f,right⟩ n=B at*;by_cases j:left<0∨n<=left∨i<0∨2<i
 .have g:=Zh (b j);clear b d a l;go_enter func28,ntmps28;go_wp2
  all_goals
   go_ret;exact⟨QV g.o,(Q5 _ _).alloc (Q6 _) _⟩
 .have v:0<=left:=X
  have y:left<n:=X;have z:0<=i:=X;have A:i<=2:=X;by_cases k:i=2
  .have g:Hid ((!f&&decide (right=0))=B):=d j k;clear b d a l j;subst k
   cases f
   .by_cases p:right=0
    .subst p;go_enter func28,ntmps28;go_wp2;go_ret;exact⟨QV g.o,(Q5 _ _).alloc (Q6 _) _⟩
    .have q:(right==0)=false:=by simpa using p
     have m:=Zh (show false=B by have:=g.o;simpa [p] using this);clear g;go_enter func28,ntmps28;go_wp2;go_ret;exact⟨QV m.o,(Q5 _ _).alloc (Q6 _) _⟩
   .go_enter func28,ntmps28;go_wp2;go_ret;exact⟨QV g.o,(Q5 _ _).alloc (Q6 _) _⟩
  .have r:(i==2)=false:=by simpa using k
   cases f
   .have g:Hid ((decide (0<=right)&&decide (right<=n-1))=B):=l j k rfl;clear b d a l j k;go_enter func28,ntmps28;go_wp2_with (go_at_call 54;refine(Am _ _ _ _).mono ?_;rintro e u ⟨rfl,rfl⟩);go_ret;exact⟨QV g.o,(Q5 _ _).alloc (Q6 _) _⟩
   .have g:Hid ((decide (-1000<=right)&&decide (right<=1000))=B):=a j k rfl;clear b d a l j k;go_enter func28,ntmps28;go_wp2_with (go_at_call 54;refine(Am _ _ _ _).mono ?_;rintro e u ⟨rfl,rfl⟩);go_ret;exact⟨QV g.o,(Q5 _ _).alloc (Q6 _) _⟩
def Mc(q:ae)(w:U)(h1:N q.keys.xs<=1000)(h2:N q.sums.xs<=1000) :
  Cb 29 #[.agg q.cells] w (I J (mf q.group q.keys.xs q.sums.xs q.ay.xs)):=by
 obtain⟨e,g,i,j,a,b,d,k,f⟩:=q;simp only at h1 h2;unfold ae.cells ai.val;cases a
 .go_enter func29,ntmps29;go_wp2;go_ret;exact⟨QW rfl,(Q5 _ _).alloc (Q6 _) _⟩
 .go_enter func29,ntmps29;go_wp2;go_ret;exact⟨QW rfl,(Q5 _ _).alloc (Q6 _) _⟩
def iP(ao:JW)(cap:Nat)(ts:Qu af)(w:U)(hx:aI w ao ts) :
  Cb 25 #[Z ao (N ts) cap] w (.bool (bQ ts)):=by
 have hl:=hx.1;by_cases B:N ts<1
 .go_enter func25,ntmps25;go_wp2;go_ret;exact⟨QV (uE B),Q5 _ _⟩
 by_cases C:8<N ts
 .go_enter func25,ntmps25;go_wp2;go_ret;exact⟨QV (xG C),Q5 _ _⟩
 go_enter func25,ntmps25;go_wp2;go_loopw [3] (λi wr=>∃k:Nat,k<=N ts/\i=I J k/\Hid ((ts.take k).all bK=true)/\Bw w wr) (λi _=>N ts-(intOf i).toNat)
 case atStart=>exact⟨0,ZP _,rfl,rfl,Q5 _ _⟩
 case round=>
  obtain⟨k,W,rfl,v,f⟩:=hrel;by_cases e:k<N ts
  .obtain⟨b,d,rfl,y,c1,c2,c3,c4,c5⟩:=hx.2 k e;have a:=lt_of_cell y;have e0:=(f.cell (p:=(aD b (d+k*6))) a).trans y;have e1:=(f.cell (p:=(aD b (d+k*6+1))) a).trans c1;have e2:=(f.cell (p:=(aD b (d+k*6+2))) a).trans c2;have e3:=(f.cell (p:=(aD b (d+k*6+3))) a).trans c3;have e4:=(f.cell (p:=(aD b (d+k*6+4))) a).trans c4;have e5:=(f.cell (p:=(aD b (d+k*6+5))) a).trans c5;generalize ht:E ts k tz=t at*;have n:=Zh ht;have g:=f.size;by_cases h1:t.aO<1∨4<t.aO∨t.rows<0∨1000000<t.rows
   .have l:=Zh (pO e (by rw[n.o];exact uD h1));go_wp2
    all_goals
     go_ret;exact⟨QV l.o,f.alloc g _⟩
   .have G:1<=t.aO:=X
    have K:t.aO<=4:=X;have L:0<=t.rows:=X;have P:t.rows<=1000000:=X;go_wp2;go_loop [5] (λi=>∃m:Nat,m<=t.aO.toNat/\i=I J m/\Hid (∀j,j<m->1<=t.kd j/\t.kd j<=1000000)) (λi=>t.aO.toNat-(intOf i).toNat)
    case atStart=>exact⟨0,ZP _,rfl,λj r=>absurd r X⟩
    case round=>
     obtain⟨m,hm,rfl,A⟩:=hrel;by_cases D:m<t.aO.toNat
     .have Q:(m:Int)<t.aO:=X
      have q:m<4:=X;have R:=af.D7 wr t 48 m q;by_cases aa:t.kd m<1
      .have l:=Zh (pO e (by rw[n.o];exact mr m D X));go_wp2;go_ret;exact⟨QV l.o,f.alloc g _⟩
      .by_cases ae:1000000<t.kd m
       .have l:=Zh (pO e (by rw[n.o];exact mr m D X));go_wp2;go_ret;exact⟨QV l.o,f.alloc g _⟩
       .go_wp2;go_round
        case rel=>
         refine⟨m+1,X,Qf,λj r=>?_⟩;by_cases u:j=m
         .subst u;omega
         .exact A.o j X
        case measure=>exact Qw
     .have Q:¬(m:Int)<t.aO:=X
      have S:=Zh (sG G K L P (λj r=>A.o j X));go_wp2;go_roundw
      case rel=>exact⟨k+1,X,Qf,I5 (z:=tz) e v.o (by rw[n.o];exact S.o),f.alloc g _⟩
      case measure=>exact Qw
  .go_wp2;go_ret;exact⟨QV (EX B C W e v.o),f⟩
def yt(ao:JW)(cap:Nat)(ts:Qu af)(q:ae)(w:U)(hx:aI w ao ts)(hc:bQ ts=true)(hq:q.src.At w)(h5:N q.src.xs<=5)(ha:aP q.src.xs (N ts)=true) :
  Cb 27 #[Z ao (N ts) cap,.agg q.cells,I J (N q.src.xs)] w (I J (ax ts q.src.xs)):=by
 obtain⟨⟨D,G,a⟩,K,L,P,e,f,g,Q,u⟩:=q;unfold ai.At at hq;simp only at h5 ha hq;unfold ae.cells ai.val;simp only;obtain⟨j,l⟩:=bV hc ha;go_enter func27,ntmps27;go_wp2;go_loop [7,8] (λn i=>∃k:Nat,k<=N a/\i=I J k/\n=I J (ax ts (a.take k))) (λ_ i=>N a-(intOf i).toNat)
 case atStart=>exact⟨0,ZP _,rfl,rfl⟩
 case round=>
  obtain⟨k,v,rfl,rfl⟩:=hrel;have m:=ed j.o l.o k v;by_cases d:k<N a
  .obtain⟨R,S,rfl,y⟩:=hq.get d;have p:=iF (y k d);have B:=gU l.o d;have C:=jS j.o (i:=a[k].toNat) X;obtain⟨b,z,rfl,A,-⟩:=hx.2 a[k].toNat X;have r:=iF A;have t:=Zh (dC ts a k d);generalize (E ts a[k].toNat tz).aO=cc,ax ts (a.take k)=W0 at*;go_wp2;go_round
   case rel=>exact⟨k+1,X,Qf,by rw[t.o]⟩
   case measure=>exact Qw
  .go_wp2;go_ret;have:k=N a:=X
   subst this;exact⟨QW (by rw[ZV]),(Q5 _ _).alloc (Q6 _) _⟩
