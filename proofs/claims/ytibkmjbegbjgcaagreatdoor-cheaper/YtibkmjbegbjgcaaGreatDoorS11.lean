import Derived.Test.YtibkmjbegbjgcaaGreatDoorS10
set_option linter.all false
set_option maxRecDepth 100000
set_option maxHeartbeats 0
namespace Go.Proofs.Zz
open Go.RowKit Go.Shelf Go.Proofs.Tryz
open List renaming length->N,getD->E
open Go.Value renaming slice->Z,int->I,pointer->Y,bool->Qr,agg->Qu
open Go.Proofs.Tryz renaming prog->V
open Option renaming some->O,none->Qs
open Go.IntKind renaming i64->J
open Bool renaming false->F,true->T
open Go renaming World->U
open Go.World renaming heap->H,setCell->Qo,cell?->Qp
open _root_.Array renaming size->M
open Go.RowKit renaming Hid->Qn
open Go.Obj renaming cells->Qt
open Go.Ending renaming returned->Qv
variable {rk:Nat->Int} {ts:Qy af} {q:ae} {bf conc:Qy Nat} {picks:Qx} {σ:fU} {d gb i k n:Nat} {tick:Int} {G g:Qy aj} {t:aP} {p:aj} {Tp Tq:TypeId} {Fq:Qz} {W0 w:U} {A:Nat->Nat} {os:Qy ah} {a:Addr}
def isFull1_any(ad:PN)(n cap:Nat)(w:U) :
  Cb 69 #[Qu #[Z ad n cap]] w (Qr (decide (3<n))):=by go_enter func69,ntmps69;go_wp2;go_ret;exact⟨QY (decide_eq_decide.2 X),cZ _ _⟩
def indexC_any(ao:PN)(cap:Nat)(ls:Qy aG)(w:U)(hx:fC w ao ls) :
  Calls V 112 #[Z ao (N ls) cap,.func (.func 69) #[] #[]] w λe w'=>∃r,e=Qv (I J r)/\foundAt r (ls.any λc=>decide (3<N c.cs))/\Bw w w':=by
 have D:=hx.1;go_enter func112,ntmps112;go_wp2;go_loopw [8] (λi wr=>∃k:Nat,k<=N ls/\i=I J k/\Qn (∀j,j<k->decide (3<(E ls j lz).cs.length)=F)/\Bw w wr) (λi _=>N ls-(intOf i).toNat)
 case atStart=>exact⟨0,ZB _,rfl,λj q=>absurd q X,Q9 _ _⟩
 case round=>
  obtain⟨k,G,rfl,v,l⟩:=hrel;by_cases d:k<N ls
  .obtain⟨b,B,rfl,y⟩:=hx.2.1.get d;have m:=cB l (y k d);unfold aG.val at m;have n:Qn (decide (3<(E ls k lz).cs.length)=T->(ls.any λc=>decide (3<N c.cs))=T):=λh=>EG (p:=λc:aG=>decide (3<N c.cs)) (z:=lz) d h
   generalize (E ls k lz).ad=ad,(E ls k lz).cap=cp at*;generalize g:(E ls k lz).cs.length=cl at*;have A:=Zh g;have f:=isFull1_any ad cl cp wr;clear g y hx;by_cases t:3<cl
   .rw[Zi t]at f;go_wp2_with fail;refine f.mono ?_;clear f;rintro e C ⟨rfl,a⟩;go_wp2;go_ret;exact⟨_,QZ rfl,⟨X,by rw[n.o (Zi t)];simp⟩,az l a⟩
   .rw[Zr t]at f;go_wp2_with fail;refine f.mono ?_;clear f;rintro e C ⟨rfl,a⟩;go_wp2;go_roundw
    case rel=>
     refine⟨k+1,X,Qe,λj q=>?_,az l a⟩;by_cases u:j=k
     .subst u;rw[A.o];exact Zr X
     .exact v.o j X
    case measure=>exact XK
  .have n:Qn ((ls.any λc=>decide (3<N c.cs))=F):=any_none (z:=lz) (λj q=>v.o j X);go_wp2;go_ret;exact⟨_,QZ rfl,⟨X,by rw[n.o];rfl⟩,l⟩
def containsC_any(ao:PN)(cap:Nat)(ls:Qy aG)(w:U)(hx:fC w ao ls) :
  Cb 68 #[Z ao (N ls) cap,.func (.func 69) #[] #[]] w (Qr (yP ls (N ls))):=by have a:=indexC_any ao cap ls w hx;rw[Vo]at a;go_enter func68,ntmps68;go_wp2_with fail;refine a.mono ?_;clear a;rintro e g ⟨r,rfl,d,b⟩;have f:=Zh d.2;clear d;go_wp2;go_ret;exact⟨QY f.o,b⟩
def isFull_any(q:ae)(w:U)(hq:fC w q.cK q.wh) :
  Cb 37 #[Qu q.cells] w (Qr (l9 q.src.xs q.mf q.keys.xs q.sums.xs q.aU.xs q.ord.xs)):=by
 have i:=Zh q.OY;generalize l9 q.src.xs q.mf q.keys.xs q.sums.xs q.aU.xs q.ord.xs=FB at*;have l:=λo=>containsC_any q.cK q.aM q.wh (w.alloc o) (hq.below (cZ _ _));have p:=hq.1;clear hq;obtain⟨src,z,A,b,group,a,d,k,ord⟩:=q;simp only at i l p;unfold ae.cells ah.val;simp only;by_cases n:5<N src.xs∨8<N b∨8<N k.xs∨4<N a.xs∨4<N d.xs∨4<N ord.xs
 .have r:=Zh (show T=FB by rw[i.o,Zi n,Bool.true_or]);clear l i;have f:(5<N src.xs)∨(¬5<N src.xs/\8<N b)∨(¬5<N src.xs/\¬8<N b/\4<N ord.xs)∨(¬5<N src.xs/\¬8<N b/\¬4<N ord.xs/\8<N k.xs)∨
   (¬5<N src.xs/\¬8<N b/\¬4<N ord.xs/\¬8<N k.xs/\4<N a.xs)∨(¬5<N src.xs/\¬8<N b/\¬4<N ord.xs/\¬8<N k.xs/\¬4<N a.xs/\4<N d.xs):=X
  clear n;rcases f with g|⟨g,j⟩|⟨g,j,m⟩|⟨g,j,m,t⟩|⟨g,j,m,t,v⟩|⟨g,j,m,t,v,y⟩
  all_goals
   go_enter func37,ntmps37;go_wp2;go_ret;exact⟨QY r.o,cZ _ _⟩
 .have r:=Zh (show yP b (N b)=FB by rw[i.o,Zr n,Bool.false_or]);have g:¬5<N src.xs:=X
  have j:¬8<N b:=X;have m:¬8<N k.xs:=X;have t:¬4<N a.xs:=X;have v:¬4<N d.xs:=X;have y:¬4<N ord.xs:=X;clear i n;generalize yP b (N b)=Yq at*;go_enter func37,ntmps37;go_wp2_with fail;refine(l _).mono ?_;clear l;rintro e B ⟨rfl,u⟩;go_wp2;go_ret;exact⟨QY r.o,az (cZ _ _) u⟩
def outWidth_any(q:ae)(w:U)(h1:N q.keys.xs<=1000)(h2:N q.sums.xs<=1000) :
  Cb 74 #[Qu q.cells] w (I J (CE q.group q.keys.xs q.sums.xs q.aU.xs)):=by
 obtain⟨src,d,e,f,group,a,b,g,ord⟩:=q;simp only at h1 h2;unfold ae.cells ah.val;cases group
 .go_enter func74,ntmps74;go_wp2;go_ret;exact⟨QZ rfl,cZ _ _⟩
 .go_enter func74,ntmps74;go_wp2;go_ret;exact⟨QZ rfl,cZ _ _⟩
def countColumns_any(ao:PN)(cap:Nat)(ts:Qy af)(qA:PN)(iH:Nat)(xs:Qx)(w:U)(hx:aQ w ao ts)(hc:fD ts=T)(hq:IntsAt w qA xs)(h5:N xs<=5)(ha:bP xs (N ts)=T) :
  Ce 71 #[Z ao (N ts) cap,Z qA (N xs) iH] w (I J (aN ts xs)):=by
 obtain⟨d,e⟩:=aS hc ha;clear hc ha;go_enter func71,ntmps71;go_wp2;go_loop [5,10] (λn i=>∃k:Nat,k<=N xs/\i=I J k/\n=I J (aN ts (xs.take k))) (λ_ i=>N xs-(intOf i).toNat)
 case atStart=>exact⟨0,ZB _,rfl,rfl⟩
 case round=>
  obtain⟨k,m,rfl,rfl⟩:=hrel;have g:=rU d.o e.o k m;by_cases a:k<N xs
  .obtain⟨u,p,rfl,f⟩:=hq.get a;have j:=f k a;have r:=mi e.o a;have t:=pg d.o (i:=xs[k].toNat) X;obtain⟨b,q,rfl,v,-⟩:=hx.2 xs[k].toNat X;have l:=Zh (jO ts xs k a);generalize (E ts xs[k].toNat tz).aL=cc,aN ts (xs.take k)=W0 at*;clear f hx hq;go_wp2;go_round
   case rel=>exact⟨k+1,X,Qe,by rw[l.o]⟩
   case measure=>exact XK
  .go_wp2;go_ret;have:k=N xs:=X
   subst this;simp
def clausesL_bad{ls:Qy aG}{n:Int}{k:Nat}(hk:k<N ls)(h:gH (E ls k lz).cs n=F):F=eH (ls.map aG.cs) n:=
 (@ED ⟨⟨Qs,0,[]⟩,Qs,0,ls,F,⟨Qs,0,[]⟩,⟨Qs,0,[]⟩,⟨Qs,0,[]⟩,⟨Qs,0,[]⟩⟩ n k hk h).symm
def clausesL_good{ls:Qy aG}{n:Int}(h:∀k,k<N ls->gH (E ls k lz).cs n=T):T=eH (ls.map aG.cs) n:=
 (@CF ⟨⟨Qs,0,[]⟩,Qs,0,ls,F,⟨Qs,0,[]⟩,⟨Qs,0,[]⟩,⟨Qs,0,[]⟩,⟨Qs,0,[]⟩⟩ n h).symm
def clausesQ_any(ao:PN)(cap:Nat)(ls:Qy aG)(n:Int)(w:U)(hx:fC w ao ls) :
  Cb 72 #[Z ao (N ls) cap,I J n] w (Qr (eH (ls.map aG.cs) n)):=by
 have hl:=hx.1;have B:Qn _:=@clausesL_bad ls n;have Yn:Qn _:=@clausesL_good ls n;generalize eH (ls.map aG.cs) n=R at*;go_enter func72,ntmps72;go_wp2;go_loopw [11] (λi wr=>∃k:Nat,k<=N ls/\i=I J k/\Qn (∀j,j<k->gH (E ls j lz).cs n=T)/\Bw w wr) (λi _=>N ls-(intOf i).toNat)
 case atStart=>exact⟨0,ZB _,rfl,λj l=>absurd l X,Q9 _ _⟩
 case round=>
  obtain⟨k,hk,rfl,W,z⟩:=hrel;by_cases d:k<N ls
  .obtain⟨b,aa,rfl,hc⟩:=hx.2.1.get d;have p:=cB z (hc k d);have f:=hx.2.2 k d;have q:Qn (gH (E ls k lz).cs n=F->F=R):=λh=>B.o d h
   generalize P:E ls k lz=cl at*;have ze:=Zh P;obtain⟨ad,cp,cs⟩:=cl;unfold aG.val at p;simp only at p f;have NV:=f.1;have r:=z.size;by_cases A:N cs=0
   .have t:=Zh (q.o (EE (by simp only;omega)));go_wp2;go_ret;exact⟨QY t.o,z.alloc r _⟩
   .have S:((N cs:Int)==0)=false:=by simpa using A
    have C:=Zh A;go_wp2;go_loopw [22] (λi G=>∃m:Nat,m<=N cs/\i=I J m/\Qn (∀j,j<m->ek (E cs j cz) n=T)/\Bw w G) (λi _=>N cs-(intOf i).toNat)
    case atStart=>exact⟨0,ZB _,rfl,λj l=>absurd l X,z.alloc r _⟩
    case round=>
     obtain⟨m,hm,rfl,HM,a⟩:=hrel;have u:=a.size;by_cases IK:m<N cs
     .obtain⟨b2,ae,rfl,c0,c1,c2,c3,c4⟩:=f.2 m IK;obtain⟨d0,d1,d2,d3,d4⟩:=jW a c0 c1 c2 c3 c4;have v:=λx=>condFits_any (E cs m cz) n x
      unfold aA.val at v;generalize Q:E cs m cz=cc at*;have y:=Zh Q;cases hcb:ek cc n
      .rw[hcb]at v;have t:=Zh (q.o (GY IK (by rw[y.o];exact hcb)));go_wp2_with fail;refine(v _).mono ?_;rintro e w4 ⟨rfl,g⟩;go_wp2;go_ret;exact⟨QY t.o,az (a.alloc u _) g⟩
      .rw[hcb]at v;have D:=Zh hcb;go_wp2_with fail;refine(v _).mono ?_;rintro e w4 ⟨rfl,g⟩;go_wp2;go_roundw
       case rel=>
        refine⟨m+1,X,Qe,λj l=>?_,az (a.alloc u _) g⟩;by_cases K:j=m
        .subst K;rw[y.o];exact D.o
        .exact HM.o j X
       case measure=>exact XK
     .have HG:=Zh (EF (Qk C.o) (λj l=>HM.o j X));go_wp2;go_roundw
      case rel=>
       refine⟨k+1,X,Qe,λj l=>?_,a⟩;by_cases L:j=k
       .subst L;rw[ze.o];exact HG.o
       .exact W.o j X
      case measure=>exact XK
  .have t:=Zh (Yn.o (λj l=>W.o j X));go_wp2;go_ret;exact⟨QY t.o,z⟩
def fitsB(n:Int)(group:Bool)(keys sums aU:Qx):Bool:=
 if group then decide (N aU=0)&&bP sums n&&bP keys n&&di keys else decide (0<N aU)&&bP aU n&&decide (N keys=0)&&decide (N sums=0)
theorem outputFits_any(q:ae)(n:Int)(w:U)(hk:q.keys.At w)(hs:q.sums.At w)(he:q.aU.At w)(hkc:N q.keys.xs<=q.keys.cap) :
  Cb 73 #[Qu q.cells,I J n] w (Qr (fitsB n q.group q.keys.xs q.sums.xs q.aU.xs)):=by
 obtain⟨src,S,W,wh,group,⟨B,C,b⟩,⟨G,K,f⟩,⟨v,y,k⟩,ord⟩:=q;unfold ah.At at hk hs he;simp only at hk hs he hkc;unfold ae.cells ah.val;simp only;have D:=he.1;have r:=λx (h:Bw w x)=>allBelow_any v y k n x (Q8 h he);have l:=λx (h:Bw w x)=>allBelow_any G K f n x (Q8 h hs);have A:=λx (h:Bw w x)=>allBelow_any B C b n x (Q8 h hk);have t:=λx (h:Bw w x)=>allDifferent_any B C b x (Q8 h hk) hkc;have P:Qn (fitsB n group b f k=fitsB n group b f k):=rfl;generalize i:fitsB n group b f k=R at*;unfold fitsB at i;generalize bP k n=A1,bP f n=A2,bP b n=A3,di b=A4 at*;cases group
 .simp only[Bool.false_eq_true,if_false]at i;by_cases z:0<N k
  .rw[Zi z,Zj]at i
   cases A1
   .have g:=Zh (show F=R by rw[<-i];rfl);go_enter func73,ntmps73;go_wp2_with fail;refine(r _ (cZ _ _)).mono ?_;rintro e m ⟨rfl,a⟩;go_wp2;go_ret;exact⟨QY g.o,az (cZ _ _) a⟩
   .rw[Zj]at i;by_cases p:N b=0
    .have u:((N b:Int)==0)=true:=by simpa using p
     have g:=Zh (show ((N f:Int)==0)=R by rw[<-i,Zi p,Zj,aaX]);go_enter func73,ntmps73;go_wp2_with fail;refine(r _ (cZ _ _)).mono ?_;rintro e m ⟨rfl,a⟩;have d:=vD a;simp at d;go_wp2;go_ret;exact⟨QY g.o,az (cZ _ _) a⟩
    .have u:((N b:Int)==0)=false:=by simpa using p
     have g:=Zh (show F=R by rw[<-i,Zr p];rfl);go_enter func73,ntmps73;go_wp2_with fail;refine(r _ (cZ _ _)).mono ?_;rintro e m ⟨rfl,a⟩;have d:=vD a;simp at d;go_wp2;go_ret;exact⟨QY g.o,az (cZ _ _) a⟩
  .have g:=Zh (show F=R by rw[<-i,Zr z];rfl);go_enter func73,ntmps73;go_wp2;go_ret;exact⟨QY g.o,cZ _ _⟩
 .simp only[if_true]at i;by_cases z:0<N k
  .have g:=Zh (show F=R by grind);go_enter func73,ntmps73;go_wp2;go_ret;exact⟨QY g.o,cZ _ _⟩
  .rw[Zi (show N k=0 by omega),Zj]at i
   cases A2
   .have g:=Zh (show F=R by rw[<-i];rfl);go_enter func73,ntmps73;go_wp2_with fail;refine(l _ (cZ _ _)).mono ?_;rintro e m ⟨rfl,a⟩;go_wp2;go_ret;exact⟨QY g.o,az (cZ _ _) a⟩
   .rw[Zj]at i
    cases A3
    .have g:=Zh (show F=R by rw[<-i];rfl);go_enter func73,ntmps73;go_wp2_with fail;refine(l _ (cZ _ _)).mono ?_;rintro e m ⟨rfl,a⟩;have d:=vD a;simp at d;go_wp2_with fail;refine(A _ (az (cZ _ _) a)).mono ?_;rintro e L ⟨rfl,j⟩;go_wp2;go_ret;exact⟨QY g.o,az (az (cZ _ _) a) j⟩
    .have g:=Zh (show A4=R by rw[<-i,Zj]);clear i;go_enter func73,ntmps73;go_wp2_with fail;refine(l _ (cZ _ _)).mono ?_;rintro e m ⟨rfl,a⟩;have d:=vD a;simp at d;go_wp2_with fail;refine(A _ (az (cZ _ _) a)).mono ?_;rintro e L ⟨rfl,j⟩;have hz:M (H w)<M (H m):=by have:=a.size;simp at this;omega
     have Q:=vD j;go_wp2_with fail;refine(t _ (az (az (cZ _ _) a) j)).mono ?_;rintro e w4 ⟨rfl,rfl⟩;go_wp2;go_ret;exact⟨QY g.o,az (az (cZ _ _) a) j⟩
def mM(rk:Nat->Int)(ts:Qy af)(q:ae)(conc:Qy Nat)(picks:Qx):∀(n k:Nat) (σ:fU),runN rk ts q conc picks (n+1) k σ=if (runN rk ts q conc picks n k σ).status=1 then iy rk ts q conc (je picks (k+n)) (runN rk ts q conc picks n k σ) else runN rk ts q conc picks n k σ
 |0,k,σ=>rfl
 |n+1,k,σ=>by
  show (if σ.status=1 then runN rk ts q conc picks (n+1) (k+1) (iy rk ts q conc (je picks k) σ) else σ)=_;have e:runN rk ts q conc picks (n+1) k σ=if σ.status=1 then runN rk ts q conc picks n (k+1) (iy rk ts q conc (je picks k) σ) else σ:=rfl;by_cases h:σ.status=1
  .rw[Zb h,mM rk ts q conc picks n (k+1),e,Zb h,show k+1+n=k+(n+1) by omega]
  simp_all
theorem sN{rk:Nat->Int}{ts:Qy af}{q:ae}{conc:Qy Nat}(hcn:N conc=N q.wh)(h5:N q.src.xs<=5)(picks:Qx){σ:fU}(h:Bp q σ):∀n,Bp q (runN rk ts q conc picks n 0 σ)/\(runN rk ts q conc picks n 0 σ).picks.length<=N σ.picks+n
 |0=>⟨h,Za _⟩
 |n+1=>by
  obtain⟨h1,h2⟩:=sN (rk:=rk) (ts:=ts) hcn h5 picks h n;rw[mM];split
  .rename_i hs
   have:=WH (rk:=rk) (ts:=ts) hcn h1 h5 hs (je picks (0+n));grind
  grind
def goT(rk:Nat->Int)(ts:Qy af)(q:ae)(conc:Qy Nat)(picks:Qx)(n:Nat)(tick:Int)(σ:fU):fU:=
 if 0<=tick/\tick<n then
  (if (runN rk ts q conc picks tick.toNat 0 σ).status=1 then { runN rk ts q conc picks tick.toNat 0 σ with status:=4 } else runN rk ts q conc picks tick.toNat 0 σ)
 else runN rk ts q conc picks n 0 σ
theorem yJ{rk:Nat->Int}{ts:Qy af}{q:ae}{conc:Qy Nat}{picks:Qx}{σ:fU}{d:Nat}(h:(runN rk ts q conc picks d 0 σ).status≠1):∀m,runN rk ts q conc picks (d+m) 0 σ=runN rk ts q conc picks d 0 σ
 |0=>rfl
 |m+1=>by rw[show d+(m+1)=d+m+1 by omega,mM,yJ h m,Zg h]
theorem YR(h:(runN rk ts q conc picks d 0 σ).status≠1)(hd:d<=n)(ht:tick<0∨(d:Int)<=tick):goT rk ts q conc picks n tick σ=runN rk ts q conc picks d 0 σ:=by
 unfold goT;split
 .rename_i hc
  obtain⟨m,a⟩:∃m,tick.toNat=d+m:=⟨tick.toNat-d,X⟩;rw[a,yJ h,Zg h]
 .obtain⟨m,a⟩:∃m,n=d+m:=⟨n-d,X⟩
  grind [yJ]
theorem Gj(ht:tick<0∨(n:Int)<=tick):goT rk ts q conc picks n tick σ=runN rk ts q conc picks n 0 σ:=by unfold goT;grind
def YS(hd:d<n)(h:(runN rk ts q conc picks d 0 σ).status=1):goT rk ts q conc picks n (d:Int) σ = { runN rk ts q conc picks d 0 σ with status:=4 }:=by unfold goT;simp_all
theorem restB_fits(n:Int)(group:Bool)(keys sums aU ord:Qx) :
  tJ n group keys sums aU ord=(fitsB n group keys sums aU&&(bP ord (CE group keys sums aU)&&di ord)):=by
 unfold tJ fitsB;generalize bP ord (CE group keys sums aU)=Oq;generalize di ord=P;cases group
 .by_cases a:N aU=0
  .grind
  .have f:=Zr a;have i:decide (0<N aU)=true:=Zi X;rw[f,i];by_cases g:N keys=0
   .by_cases k:N sums=0
    .have b:=Zk g;have d:=Zk k;subst b d;have j:di []=true:=Qc
     rw[j];cases bP aU n <;> cases Oq <;> cases P <;> rfl
    grind
   .rw[Zr g,Zr (show ¬N keys+N sums=0 by omega)];simp
 .by_cases a:N aU=0
  .have e:=Zk a;subst e;have f:bP [] n=true:=rfl
   grind
  .rw[Zr a];simp
def queryB(ts:Qy af)(src:Qx)(wh:Qy (Qy aA))(group:Bool)(keys sums aU ord:Qx):Bool:=
 decide (0<N src)&&(bP src (N ts)&&(eH wh (aN ts src)&&(fitsB (aN ts src) group keys sums aU&&(bP ord (CE group keys sums aU)&&di ord))))
theorem check_query{src:Qx}{wh:Qy (Qy aA)}{group:Bool}{keys sums aU ord:Qx}(hc:fD ts=T)(hf:l9 src wh keys sums aU ord=F) :
  checkN ts src wh group keys sums aU ord=if queryB ts src wh group keys sums aU ord then 0 else 3:=by unfold checkN queryB;rw[Zg (by simp[hc]),Zg (by simp[hf]),restB_fits];grind
def isQuery_any(ao:PN)(cap:Nat)(ts:Qy af)(q:ae)(w:U)(hx:aQ w ao ts)(hq:q.At w)(hc:fD ts=T)
  (hf:l9 q.src.xs q.mf q.keys.xs q.sums.xs q.aU.xs q.ord.xs=F) (hkc:N q.keys.xs<=q.keys.cap) (hoc:N q.ord.xs<=q.ord.cap) :
  Cb 38 #[Z ao (N ts) cap,Qu q.cells] w (Qr (queryB ts q.src.xs q.mf q.group q.keys.xs q.sums.xs q.aU.xs q.ord.xs)):=by
 have P:¬(5<N q.src.xs∨8<N q.wh∨8<N q.aU.xs∨4<N q.keys.xs∨4<N q.sums.xs∨4<N q.ord.xs):=by intro h;rw[ae.OY,Zi h,Bool.true_or]at hf;cases hf
 have u:=λx=>outWidth_any q x X X;have v:=λn x (h:Bw w x)=>outputFits_any q n x (Q8 h hq.keys) (Q8 h hq.sums) (Q8 h hq.aU) hkc;unfold queryB;obtain⟨src,D,L,p,group,b,d,k,ord⟩:=q;have i:IntsAt w src.ad src.xs:=hq.src;have G:IntsAt w ord.ad ord.xs:=hq.ord;have Q:fC w D p:=hq.wh;have y:(ae.mk src D L p group b d k ord).mf=p.map aG.cs:=rfl;simp only[y]at*;clear y hq hf;unfold ae.cells ah.val at*;simp only at*;have h1:N src.xs<=5:=X;have t:=λx (h:Bw w x)=>allBelow_any src.ad src.cap src.xs (N ts) x (i.below h);have z:=λn x (h:Bw w x)=>clausesQ_any D L p n x (Q.below h);have A:=λx (h:Bw w x)=>allBelow_any ord.ad ord.cap ord.xs (CE group b.xs d.xs k.xs) x (G.below h);have B:=λx (h:Bw w x)=>allDifferent_any ord.ad ord.cap ord.xs x (G.below h) hoc;generalize j:(decide (0<N src.xs)&&(bP src.xs (N ts)&&(eH (p.map aG.cs) (aN ts src.xs)&&(fitsB (aN ts src.xs) group b.xs d.xs k.xs&&(bP ord.xs (CE group b.xs d.xs k.xs)&&di ord.xs)))))=R;by_cases h0:0<N src.xs
 .rw[Zi h0,Zj]at j;have K:((N src.xs:Int)==0)=false:=by rw[XW];omega
  cases ha:bP src.xs (N ts)
  .rw[ha]at t j;have m:Qn (F=R):=j;clear j;go_enter func38,ntmps38;go_wp2_with fail;refine(t _ (cZ _ _)).mono ?_;rintro e w2 ⟨rfl,g⟩;go_wp2;go_ret;exact⟨QY m.o,az (cZ _ _) g⟩
  .have C:=λx (h:Bw w x)=>countColumns_any ao cap ts src.ad src.cap src.xs x (hx.below h) hc (i.below h) h1 ha
   rw[ha]at t j;clear ha hc;rw[Zj]at j;have m:=Zh j;clear j;generalize aN ts src.xs=Nq at*;have z:=z Nq;have v:=v Nq;generalize eH (p.map aG.cs) Nq=CB,fitsB Nq group b.xs d.xs k.xs=FB at*;clear hx i G Q hkc hoc;go_enter func38,ntmps38;go_wp2_with fail;refine(t _ (cZ _ _)).mono ?_;clear t;rintro e w2 ⟨rfl,g⟩;have hz:M (H w)<M (H w2):=by have:=g.size;simp at this;omega
   have a:=vD g;simp at a;have k2:=az (cZ _ _) g;go_wp2_with fail;refine(C _ k2).mono ?_;clear C;rintro e w3 ⟨rfl,rfl⟩;go_wp2_with fail;refine(z _ k2).mono ?_;clear z;rintro e r ⟨rfl,f⟩;have k4:=az k2 f;have S:Qp r (aD (M (H w)) 0)=O (Z src.ad (N src.xs) src.cap):=cB f (by rw[a _ _ X];simp);have W:Qp r (aD (M (H w)) 1)=O (Z D (N p) L):=cB f (by rw[a _ _ X];simp);have f2:Qp r (aD (M (H w)) 2)=O (Qr group):=cB f (by rw[a _ _ X];simp);have f3:Qp r (aD (M (H w)) 3)=O (Z b.ad (N b.xs) b.cap):=cB f (by rw[a _ _ X];simp);have f4:Qp r (aD (M (H w)) 4)=O (Z d.ad (N d.xs) d.cap):=cB f (by rw[a _ _ X];simp);have f5:Qp r (aD (M (H w)) 5)=O (Z k.ad (N k.xs) k.cap):=cB f (by rw[a _ _ X];simp);have f6:Qp r (aD (M (H w)) 6)=O (Z ord.ad (N ord.xs) ord.cap):=cB f (by rw[a _ _ X];simp);clear a f k2 g;cases CB
   .go_wp2;go_ret;exact⟨QY m.o,k4⟩
   .go_wp2_with fail;refine(v _ k4).mono ?_;clear v;rintro e w5 ⟨rfl,l⟩;have k5:=az k4 l;obtain⟨g0,g1,g2,g3,g4⟩:=jW l S W f2 f3 f4;obtain⟨g5,g6⟩:=jf l f5 f6;clear S W f2 f3 f4 f5 f6 l k4
    cases FB
    .go_wp2;go_ret;exact⟨QY m.o,k5⟩
    .go_wp2_with fail;generalize CE group b.xs d.xs k.xs=Oq at*;generalize bP ord.xs Oq=AO at*;generalize di ord.xs=PO at*;refine Zd ?_;refine qA3 ?_;go_big_quiet_want;refine⟨I J Oq,λx hx=>?_,?_⟩
     .have hC:=Ze hx (u x);go_simp
     simp only[pU];go_big_quiet_on;go_big_quiet_want;refine⟨Qr AO,λx hx=>?_,?_⟩
     .have hC:=Ze hx (A x (az k5 hx));go_simp
     simp only[pU];go_big_quiet_on;refine Le ?_;cases AO
     .go_big_quiet_skip;go_big_quiet_skip;go_big_quiet_skip;refine EJ ?_;refine XZ ?_;intro x hx;go_wp2;go_ret;exact⟨QY m.o,az k5 hx⟩
     .go_big_quiet_want;refine⟨Y (O (aD (M (H w)) 6)),λx hx=>?_,?_⟩
      .go_simp
      simp only[pU];go_big_quiet_on;refine Le ?_;go_big_quiet_want;refine⟨Qr PO,λx hx=>?_,?_⟩
      .have hC:=Calls.G7 hx (B x (az k5 hx));go_simp
      simp only[pU];go_big_quiet_on;refine EJ ?_;refine XZ ?_;intro x hx;go_wp2;go_ret;exact⟨QY m.o,az k5 hx⟩
 .have K:((N src.xs:Int)==0)=true:=by rw[beq_iff_eq];omega
  rw[Zr h0,Bool.false_and]at j;have m:=Zh j;clear j;clear u v t z A B;go_enter func38,ntmps38;go_wp2;go_ret;exact⟨QY m.o,cZ _ _⟩
def check_of_cat{q:ae}{ts:Qy af}(h:fD ts=F):(1:Int)=q.check ts:=ae.PU h
def check_of_query{q:ae}{ts:Qy af}(hc:fD ts=T)(hf:l9 q.src.xs q.mf q.keys.xs q.sums.xs q.aU.xs q.ord.xs=F) :
  q.check ts=if queryB ts q.src.xs q.mf q.group q.keys.xs q.sums.xs q.aU.xs q.ord.xs then 0 else 3:=check_query hc hf
def checkQ_any(ao:PN)(cap:Nat)(ts:Qy af)(q:ae)(w:U)(hx:aQ w ao ts)(hq:q.At w)(hkc:N q.keys.xs<=q.keys.cap)(hoc:N q.ord.xs<=q.ord.cap) :
  Cb 24 #[Z ao (N ts) cap,Qu q.cells] w (I J (q.check ts)):=by
 have i:=λx (h:Bw w x)=>isCatalogP_any ao cap ts x (hx.below h);have d:=λx (h:Bw w x)=>isFull_any q x (hq.wh.below h);have l:=λ(z:fD ts=T) (A:l9 q.src.xs q.mf q.keys.xs q.sums.xs q.aU.xs q.ord.xs=F) x (h:Bw w x)=>isQuery_any ao cap ts q x (hx.below h) (hq.below h) z A hkc hoc;have m:=@check_of_cat q ts;have n:=@ae.LP q ts;have p:=@check_of_query q ts;generalize q.check ts=R,l9 q.src.xs q.mf q.keys.xs q.sums.xs q.aU.xs q.ord.xs=FB,queryB ts q.src.xs q.mf q.group q.keys.xs q.sums.xs q.aU.xs q.ord.xs=QB,fD ts=CB at*;obtain⟨src,C,D,G,group,u,v,K,ord⟩:=q;clear hx hq hkc hoc;unfold ae.cells ah.val at*;simp only at*;cases CB
 .have j:=Zh (m rfl);clear d l m n p;go_enter func24,ntmps24;go_wp2_with fail;refine(i _ (cZ _ _)).mono ?_;clear i;rintro e r ⟨rfl,a⟩;go_wp2;go_ret;exact⟨QZ j.o,az (cZ _ _) a⟩
 .cases FB
  .have t:=Zh (l rfl rfl);clear l;have j:=Zh (p rfl rfl);clear m n p;go_enter func24,ntmps24;go_wp2_with fail;refine(i _ (cZ _ _)).mono ?_;clear i;rintro e r ⟨rfl,a⟩;have hz:M (H w)<M (H r):=by have:=a.size;simp at this;omega
   have b:=vD a;simp at b;have k2:=az (cZ _ _) a;go_wp2_with fail;refine(d _ k2).mono ?_;clear d;rintro e y ⟨rfl,f⟩;have B:=vD f;have k3:=az k2 f;go_wp2_with fail;refine(t.o _ k3).mono ?_;clear t;rintro e L ⟨rfl,k⟩;cases QB
   .have g:Qn ((3:Int)=R):=j.o.symm;go_wp2;go_ret;exact⟨QZ g.o,az k3 k⟩
   .have g:Qn ((0:Int)=R):=j.o.symm;go_wp2;go_ret;exact⟨QZ g.o,az k3 k⟩
  .have j:=Zh (n rfl rfl);clear l m n p;go_enter func24,ntmps24;go_wp2_with fail;refine(i _ (cZ _ _)).mono ?_;clear i;rintro e r ⟨rfl,a⟩;have hz:M (H w)<M (H r):=by have:=a.size;simp at this;omega
   have b:=vD a;simp at b;have k2:=az (cZ _ _) a;go_wp2_with fail;refine(d _ k2).mono ?_;clear d;rintro e y ⟨rfl,f⟩;go_wp2;go_ret;exact⟨QZ j.o,az k2 f⟩
structure gG where
 ad:Addr
 cap:Nat
 xs:Qy Nat
def F3:gG:=⟨(aD 0 0),0,[]⟩
def gG.val(x:gG):Value:=Z (O x.ad) (N x.xs) x.cap
def eD(ls:Qy gG):Qy Nat:=(ls.map (·.xs)).flatten
def Bt{ls:Qy gG}(hk:k<N ls):eD (ls.take (k+1))=eD (ls.take k)++(E ls k F3).xs:=by unfold eD;rw[Jf ls F3 hk,Q5,List.flatten_append];simp
def J4{ls:Qy gG}:N (eD (ls.take k))<=N (eD ls):=by
 have h:eD ls=eD (ls.take k)++eD (ls.drop k):=by unfold eD;rw[<-List.flatten_append,<-Q5,List.take_append_drop]
 rw[h,ZG];omega
structure WQ(w:U)(ao:PN)(ls:Qy gG):Prop where
 cells:bg w ao (N ls) (λi=>(E ls i F3).val)
 each:∀i,i<N ls->dh w (O (E ls i F3).ad) (E ls i F3).xs
def Tryz.SH:Go.Shelf.Ren:=⟨fun|4=>189|n=>n,fun|22=>139|25=>93|3=>3|4=>4|9=>9|20=>20|0=>0|n=>n,fun|n=>n⟩
def Tryz.au:Go.Proofs.Lays8.n4 V Tryz.SH:={
 mixed:=Qd
 f4:=⟨Tryz.f189.name,Qc,func189.trans (congrArg O Qd)⟩
 t0:=underlying0
 a0:=isAgg0
 z0:=sizeOf0
 v0:=zeroValue0
 t3:=underlying3
 a3:=isAgg3
 z3:=sizeOf3
 v3:=zeroValue3
 t4:=underlying4
 a4:=isAgg4
 z4:=sizeOf4
 v4:=zeroValue4
 t9:=underlying9
 a9:=isAgg9
 z9:=sizeOf9
 v9:=zeroValue9
 t20:=underlying20
 a20:=isAgg20
 z20:=sizeOf20
 v20:=zeroValue20
 t22:=underlying139
 a22:=isAgg139
 z22:=sizeOf139
 v22:=zeroValue139 }
def SI(n:Nat)(w:U)(hn:n<=1000000) :
  Calls V 189 #[Z Qs 0 0,I J n] w λe w'=>∃v,e=Qv v/\w'.ownsRow (M (H w)) 93 1 v 0 []/\Bw w w':=by
 obtain⟨i,j,b,d,f⟩:=Xl Tryz.oJ;by_cases k:n=0
 .subst k;have h:=Any8.slices_Grow_room Tryz.au Qs 0 0 0 w (Za _) X X X;change Calls V 189 _ _ _ at h;refine h.mono ?_;rintro e w' ⟨rfl,rfl⟩;exact⟨_,rfl,Xm _ _ _ _,Q9 _ _⟩
 .have h:=Any8.slices_Grow_grow Tryz.au i (Y Qs) j b (by rw[d];decide) Qs 0 0 n [] w (Za _) X (by rw[f];omega) X Qa (λ_=>rfl) (λa e=>by cases e);change Calls V 189 _ _ _ at h;refine h.mono ?_;rintro e w' ⟨rfl,rfl⟩;refine⟨_,rfl,⟨Qa,.inr ⟨M (H w),_,_,rfl,Za _,lT w.drew _,ZB _,?_,?_,Qa⟩⟩,?_⟩
  .exact grownCap_le_maxLen _ _ _ _ Qh
  .have g:=grownCap_ge w (0+n) 0 93;have hz:(Value.pointer Qs).cells.size=1:=rfl;simp only[Array.size_append,size_zeroCells,hz,ZZ,Z0]
   show 0+(0+n-0)*1+(grownCap w (0+n) 0 93-(0+n))*1=grownCap w (0+n) 0 93*1;omega
  .exact(Q9 _ w).drew.alloc (Za _) _
theorem SQ(W:U)(base:Nat)(v:Value)(fk:Qy Nat)(hown:W.ownsRow base 93 1 v (N fk) (fk.map λx=>Value.pointer (O (aD x 0))))(xa:Addr)(xc:Nat)(xs:Qy Nat)(hx:dh W (O xa) xs)(hl:N fk+N xs<=1000)(hb:base<=M (H W))(ty:TypeId) :
  ∃d w',(Builtin.append_ #[139,139] ty #[v,Z (O xa) (N xs) xc]).run V W=.ok d w'/\w'.ownsRow base 93 1 d (N (fk++xs)) ((fk++xs).map λx=>Value.pointer (O (aD x 0)))/\Kept (λb=>v.ownBlock≠O b) W w'/\∃a m c,d = Z a m c:=by
 obtain⟨p,q,f,g,i⟩:=Xl Tryz.oJ;obtain⟨d,w',k,t,y,_⟩:=XA (P:=V) W base 139 ty 93 p _ 1 8 underlying139 q f g i rfl Qc v (N fk) _ hown xa (N xs) xc (xs.map λx=>Value.pointer (O (aD x 0))) Qa
  (λj u n=>by
   by_cases l:j<N xs
   .obtain⟨A,off',e,B⟩:=hx.2 j l
    cases e;rw[addr_add];grind
   .rw[X9 Qj]at n;cases n) (λu z=>by obtain⟨x,_,rfl⟩:=ZL.1 z;rfl) Qh X hb
 exact⟨d,w',k,Qb,Xe y (λr e k=>k e),Xh t⟩
def J5(ao:PN)(cap:Nat)(ls:Qy gG)(w:U)(hr:WQ w ao ls)(hn:N ls<=1000)(ht:N (eD ls)<=1000) :
  Calls V 152 #[Z ao (N ls) cap] w λe w'=>∃v,e=Qv v/\w'.ownsRow (M (H w)) 93 1 v (N (eD ls)) ((eD ls).map λx=>Value.pointer (O (aD x 0)))/\Bw w w':=by
 obtain⟨i0,hi,ah,ai,aj⟩:=Xl Tryz.oJ;obtain⟨HR,HT⟩:=aS hr ht;clear hr ht;go_enter func152,ntmps152;go_wp2;go_loopw [3,11] (λs i wr=>∃k:Nat,k<=N ls/\i=I J k/\s=I J (N (eD (ls.take k)))/\w=wr) (λ_ i _=>N ls-(intOf i).toNat)
 case atStart=>exact⟨0,ZB _,rfl,rfl,rfl⟩
 case round=>
  obtain⟨k,hk,rfl,rfl,rfl⟩:=hrel;by_cases d:k<N ls
  .obtain⟨b,u,rfl,j⟩:=Q0 HR.o.cells d;have g:=j k d;have f:N (eD (ls.take (k+1)))<=1000:=ZN J4 HT.o;have p:N (eD (ls.take (k+1)))=N (eD (ls.take k))+(E ls k F3).xs.length:=by rw[Bt d,ZG]
   have HS:=Zh p;generalize E ls k F3=x at*;obtain⟨A,B,n⟩:=x;have P8:Qp w (aD b (u+k))=O (Z (O A) (N n) B):=g;have hw:wrap64 ((N (eD (ls.take k)):Int)+(N n:Int))=((N (eD (ls.take k))+N n:Nat):Int):=by simp only at p;unfold wrap64;omega
   have ag:¬(((N (eD (ls.take k))+N n:Nat):Int)<0):=X;have S:=Zh hw;clear g j f p;generalize N (eD (ls.take k))=a at*;go_wp2;go_roundw
   case rel=>exact⟨k+1,X,Qe,by rw[HS.o];exact congrArg (Value.int J) S.o,trivial⟩
   case measure=>exact XK
  .have q:k=N ls:=X
   subst q;rw[ZJ];have ht:=HT.o;generalize R:eD ls=fl at*;have W:=Zh R;clear R;go_wp2_with fail;refine(SI (N fl) w X).mono ?_;rintro e w2 ⟨v0,rfl,l,C⟩;obtain⟨ae,af⟩:=aS l C;clear l C;go_wp2;go_loopw [6,27] (λv i wr=>∃k:Nat,k<=N ls/\i=I J k/\Qn (wr.ownsRow (M (H w)) 93 1 v (N (eD (ls.take k))) ((eD (ls.take k)).map λx=>Value.pointer (O (aD x 0))))/\Qn (Bw w wr)) (λ_ i _=>N ls-(intOf i).toNat)
   case atStart=>exact⟨0,ZB _,rfl,ae.o,af.o⟩
   case round=>
    obtain⟨k,hk,rfl,m,y⟩:=hrel;obtain⟨D,G,K,rfl⟩:=Xh m.o;by_cases d:k<N ls
    .obtain⟨b,u,rfl,j⟩:=Q0 HR.o.cells d;have g:=cB y.o (j k d);have r:=(HR.o.each k d).below y.o;have f:N (eD (ls.take (k+1)))<=1000:=by have h1:N (eD (ls.take (k+1)))<=N (eD ls):=J4;rw[W.o]at h1;omega
     have t:=Bt d;have aa:=Zh t;rw[t,ZG]at f;generalize E ls k F3=x at*;obtain⟨A,B,n⟩:=x;simp only at r f;have P8:Qp wr (aD b (u+k))=O (Z (O A) (N n) B):=g;have HA:=Zh r;clear g j t r;generalize eD (ls.take k)=fk at*;have z:=y.o.size;obtain⟨v',w1,L,P,Q,⟨za,zm,zc,rfl⟩⟩:=SQ wr (M (H w)) (Z D G K) fk m.o A B n HA.o f z 139;have HO:Qn (w1.ownsRow (M (H w)) 93 1 (Z za zm zc) (N (eD (ls.take (k+1)))) ((eD (ls.take (k+1))).map λx=>Value.pointer (O (aD x 0)))):=by show World.ownsRow _ _ _ _ _ _ _;rw[aa.o];exact P
     have HB:=Zh (y.o.trans (Q.below y.o.size (λb hb e=>Qk ((Xg m.o e).1))));clear P Q f z;go_wp2_with (first|(at_builtin;refine Xz rfl (.tmp 31) (.tmp 32) 139 rfl (Z D G K) (Z (O A) (N n) B) (Z za zm zc) w1 rfl rfl L ?_));clear L P8;go_wp2;go_roundw
     case rel=>exact⟨k+1,X,Qe,HO.o,HB.o⟩
     case measure=>exact XK
    .have q:k=N ls:=X
     subst q;rw[ZJ,W.o]at m;go_wp2;go_ret;refine⟨_,rfl,?_,y.o⟩;rw[W.o];exact m.o
def ND(sb:Nat)(v0 v1 v2 v3 v4 v5 v6 v7 v8 v9 v10 v11 v12 gs bv pk:Value)(aa:PN)(n ac:Nat)(ct:Bool)(st:Int)(w:U)(hg:GB w sb 95 #[v0,v1,v2,v3,v4,v5,v6,v7,v8,v9,v10,v11,v12,gs,Z aa n ac,Qr ct,bv,pk,I J st]) :
  Calls V 62 #[Y (O (aD sb 0))] w λe w'=>(∃v,e=Qv v)/\Kept (λb=>b≠sb) w w'/\GB w' sb 95 #[v0,v1,v2,v3,v4,v5,v6,v7,v8,v9,v10,v11,v12,gs,Z aa n ac,Qr ct,bv,pk,I J (if 0<n then st else if ct=T then 3 else 2)]:=by
 have i:=hg.at 14;have j:=hg.at 15;have k:=hg.at 18;have l:=hg.frozen 18;have g:Qn (∀x:Int,GB (Qo w (aD sb 18) (I J x)) sb 95 #[v0,v1,v2,v3,v4,v5,v6,v7,v8,v9,v10,v11,v12,gs,Z aa n ac,Qr ct,bv,pk,I J x]):=λx=>hg.set 18 (I J x);have m:=Zh hg;obtain⟨R,f⟩:∃R,R=if 0<n then st else if ct=T then 3 else 2:=⟨_,rfl⟩;rw[<-f];have a:=Zh f;clear hg f;by_cases p:0<n
 .have d:=Zh (a.o.trans (Zb p));clear a;go_enter func62,ntmps62;go_wp2;refine X8 (results_none rfl _ _ _) rfl ?_;exact⟨⟨_,rfl⟩,ZO _ _,by rw[d.o];exact m.o⟩
 .obtain rfl:n=0:=X
  cases ct with
  |true =>
   have d:Qn (R=3):=a.o.trans Qa;clear a;go_enter func62,ntmps62;go_wp2;go_end0;exact⟨⟨_,rfl⟩,Xd _ _ _ (λh=>h rfl),by rw[d.o];exact g.o 3⟩
  |false =>
   have d:Qn (R=2):=a.o.trans Qa;clear a;go_enter func62,ntmps62;go_wp2;go_end0;exact⟨⟨_,rfl⟩,Xd _ _ _ (λh=>h rfl),by rw[d.o];exact g.o 2⟩
def NF(sb:Nat)(pa:PN)(n pc:Nat)(w:U)(hc:Qp w (aD sb 17)=O (Z pa n pc)) :
  Ce 20 #[Y (O (aD sb 0))] w (I J (n:Int)):=by go_enter func20,ntmps20;go_wp2;go_ret;exact⟨rfl,rfl⟩
def Ol(ao:PN)(n cap:Nat)(pick:Int)(w:U)(h0:0<n)(hn:n<4611686018427387904) :
  Ce 59 #[Z ao n cap,I J pick] w (I J (fV n pick)):=by
 have d:-(n:Int)<pick.tmod n/\pick.tmod n<n:=⟨Int.lt_tmod_of_pos pick X,Int.tmod_lt_of_pos pick X⟩;have b:Qn (fV n pick=(pick.tmod n+n).tmod n):=rfl;generalize fV n pick=R at*;obtain⟨m,g⟩:=eX (pick.tmod n);rw[g]at d b;have i:wrap64 (m+n)=m+n:=Qg;obtain⟨e,a⟩:=eX ((m+(n:Int)).tmod n);rw[a]at b;have f:-(n:Int)<e/\e<n:=by rw[<-a];exact⟨Int.lt_tmod_of_pos _ X,Int.tmod_lt_of_pos _ X⟩
 have j:wrap64 m=m:=Qg;clear d f;go_enter func59,ntmps59;go_wp2;go_ret;exact⟨QZ (by rw[b.o]),rfl⟩
def rD:∀{g:Qy aj} {p:aj} {x:Nat × aP},p∈g->p.2=O x->x.1<cO g
 |(o,Qs)::g,p,x,hp,hx=>by
  rcases List.mem_cons.1 hp with rfl|hp
  .cases hx
  .exact rD (g:=g) hp hx
 |(o,O y)::g,p,x,hp,hx=>by
  rcases List.mem_cons.1 hp with rfl|hp
  .injection hx with hx;rw[<-hx]
   show y.1<max (y.1+1) (cO g);omega
  .have:=rD (g:=g) hp hx
   show x.1<max (y.1+1) (cO g);omega
def qI(A:Nat->Nat)(n a:Nat):Nat->Nat:=λm=>if m=n then a else A m
def jM(n:Nat)(t:aP)(i:Nat)(g:Qy aj):Qy aj:=(g.take i).map (fJ n t)++g.drop i
theorem rE(n:Nat)(t:aP)(i:Nat)(g:Qy aj):N (jM n t i g)=N g:=by unfold jM;grind
theorem wO(n:Nat)(t:aP)(hi:i<N g):E (jM n t i g) i nD=E g i nD:=by unfold jM;grind
def R6(n:Nat)(t:aP)(g:Qy aj):jM n t 0 g=g:=Qi
def V5(t:aP)(g:Qy aj):jM (cO g) t (N g) g=iW g t:=by unfold jM iW;simp
theorem D9(n:Nat)(t:aP)(hi:i<N g):jM n t (i+1) g=(jM n t i g).set i (fJ n t (E g i nD)):=by unfold jM;rw[Jf g nD hi,Q5,List.set_append_right _ _ Qb,ZH,XT,Nat.min_eq_left X,Nat.sub_self];have a:g.drop i=E g i nD::g.drop (i+1):=Qf;grind
def R7(l:Qy aj)(hk:k<N l):l.set k (E l k nD)=l:=by simp_all
def abt(n:Nat)(t:aP)(hi:i<N g)(h:dQ t (E g i nD)=F):jM n t (i+1) g=jM n t i g:=by
 rw[D9 n t hi];have:fJ n t (E g i nD)=E (jM n t i g) i nD:=by rw[wO n t hi];unfold fJ;rw[h];rfl
 rw[this];exact R7 _ (by rw[rE];exact hi)
def V6(n:Nat)(t:aP)(hi:i<N g)(h:dQ t (E g i nD)=T):jM n t (i+1) g=(jM n t i g).set i ((E g i nD).1,O (n,t)):=by rw[D9 n t hi];unfold fJ;rw[Zb h]
theorem Jz{x:Nat × aP}(hp:p∈jM n t i g)(hx:p.2=O x):x=(n,t)∨∃p'∈g,p'.2=O x:=by
 unfold jM at hp;rcases Xk.1 hp with hp|hp
 .obtain⟨b,a,rfl⟩:=ZL.1 hp;rcases rA hx with h|h
  .exact .inl h
  grind
 grind
def R8(t:aP)(hi:i<N g):(g.take (i+1)).any (dQ t)=((g.take i).any (dQ t) ||dQ t (E g i nD)):=by rw[Jf g nD hi,List.any_append];simp
theorem aW.retag(h:aW Tq Tp Fq w gb A os g)(a:Nat):aW Tq Tp Fq w gb (qI A (cO g) a) os g:=by
 have n:∀p∈g,∀x,p.2=O x->qI A (cO g) a x.1=A x.1:=λp f x d=>by unfold qI;rw[Zg (Qk (rD f d))]
 obtain⟨c,k,j⟩:=h.blk;refine⟨⟨c,k,λi b=>⟨(j i b).1,?_⟩⟩,h.ord,λp f x d=>by grind [aW.tree],λp f q l x r d m e=>?_⟩
 .rw[(j i b).2]
  cases d:(E g i nD).2 with
  |none=>rfl
  |some x =>
   show O (Value.pointer (O (aD (A x.1) 0)))=O (Y (O (aD (qI A (cO g) a x.1) 0)));grind
 grind [aW.inj]
theorem aW.put(h:aW Tq Tp Fq w gb A os g)(hF:¬Fq gb)(hi:i<N g)(ht:aF Tq Fq w (A n) t)(hn:∀p∈g,∀x,p.2=O x->A x.1=A n->x.1=n) :
  aW Tq Tp Fq (Qo w (aD gb (i*2+1)) (Y (O (aD (A n) 0)))) gb A os (g.set i ((E g i nD).1,O (n,t))):=by
 obtain⟨c,D,y⟩:=h.blk;have r:Kept Fq w (Qo w (aD gb (i*2+1)) (Y (O (aD (A n) 0)))):=Xd _ _ _ hF;have u:∀j,E (g.set i ((E g i nD).1,O (n,t))) j nD=if i=j then ((E g i nD).1,O (n,t)) else E g j nD:=λj=>by grind
 have a:∀p∈g.set i ((E g i nD).1,O (n,t)),∀x,p.2=O x->x=(n,t)∨∃f∈g,f.2=O x:=λp l x m=>by grind
 have v:i*2+1<c.size:=by grind
 refine⟨⟨c.setIfInBounds (i*2+1) (Y (O (aD (A n) 0))),D.set _ _,λj k=>?_⟩,λj k=>?_,λp l x m=>?_,λp l f b x G m d e=>?_⟩
 .rw[Jh]at k;rw[Jk,Jk,Zg X,u j];refine⟨(y j k).1,?_⟩;by_cases e:i=j
  .subst e;rw[Zb rfl,Zb v,Zb rfl];rfl
  grind
 .rw[Jh]at k;have:=h.ord j k;refine⟨?_,this.2.1.aV r,this.2.2⟩
  grind
 .rcases a p l x m with rfl|⟨f,b,d⟩
  .exact ht.aV r
  .exact(h.tree f b x d).aV r
 .rcases a p l x m with rfl|⟨q,K,z⟩
  .grind
  .rcases a f b G d with rfl|⟨L,B,C⟩
   .grind
   grind [aW.inj]
theorem aW.frozen{Tq Tp:TypeId}{Fq:Qz}{w:U}{gb:Nat}{A:Nat->Nat}{os:Qy ah}{g:Qy aj}(h:aW Tq Tp Fq w gb A os g)(j:Nat):w.frozen? (aD gb j)=false:=by obtain⟨c,a,_⟩:=h.blk;exact a.frozen j
def aW.lt{Tq Tp:TypeId}{Fq:Qz}{w:U}{gb:Nat}{A:Nat->Nat}{os:Qy ah}{g:Qy aj}(h:aW Tq Tp Fq w gb A os g):gb<M (H w):=by obtain⟨c,a,_⟩:=h.blk;exact a.lt
theorem aF.lt{a:Nat}(h:aF Tq Fq w a t):a<M (H w):=by obtain⟨c,b⟩:=h.blk;grind
def Bd:∀(l:Qy aP) (x:Bool × Qy aj),(l.foldl jH x).2.length=N x.2
 |[],_=>rfl
 |t::l,x=>by rw[Zw,Bd l];exact uI _ _
def JA(h:p.2=Qs):dQ t p=aO t.d.order p.1:=by unfold dQ;rw[h];simp
def JB{y:Nat × aP}(h:p.2=O y):dQ t p=(aO t.d.order p.1&&decide (t.d.cost<y.2.d.cost)):=by unfold dQ;rw[h]
def Nh(h:aO t.d.order p.1=F):dQ t p=false:=by unfold dQ;rw[h];rfl
theorem Ni(hk:k<N bf)(hnd:bf.Nodup)(h:∀p∈G,∀x,p.2=O x->A x.1 ∉ bf.drop k)(t:aP):∀p∈jM (cO G) t (N G) G,∀x,p.2=O x->qI A (cO G) (E bf k 0) x.1 ∉ bf.drop (k+1):=by
 intro p d x e;have hd:bf.drop k=E bf k 0::bf.drop (k+1):=by rw[List.drop_eq_getElem_cons hk,Je,Xu hk];rfl
 rcases Jz d e with rfl|⟨g,a,b⟩
 .have:qI A (cO G) (E bf k 0) (cO G)=E bf k 0:=by unfold qI;rw[Zb rfl]
  show qI A (cO G) (E bf k 0) (cO G) ∉ _;rw[this];have f:(bf.drop k).Nodup:=hnd.sublist (List.drop_sublist _ _);grind
 .have:qI A (cO G) (E bf k 0) x.1=A x.1:=by unfold qI;rw[Zg (Qk (rD a b))]
  grind
def Sa(hk:k<N bf)(h:∀p∈G,∀x,p.2=O x->A x.1 ∉ bf.drop k)(t:aP):∀p∈jM (cO G) t i G,∀x,p.2=O x->qI A (cO G) (E bf k 0) x.1=qI A (cO G) (E bf k 0) (cO G)->x.1=cO G:=by
 intro p j x l e;rcases Jz j l with rfl|⟨g,a,b⟩
 .rfl
 .have d:qI A (cO G) (E bf k 0) x.1=A x.1:=by unfold qI;rw[Zg (Qk (rD a b))]
  have f:qI A (cO G) (E bf k 0) (cO G)=E bf k 0:=by unfold qI;rw[Zb rfl]
  rw[d,f]at e;exact absurd (by rw[List.drop_eq_getElem_cons hk,e,Je,Xu hk];exact XL) (h g a x b)
theorem Ea(h:aW 141 161 Fq w gb A os g)(hF:¬Fq gb)(hgl:N g<=20)(gc:Nat)(bo:PN)(bc:Nat)(bs:Qy (Nat × aP))(hp:dh w bo (bs.map Prod.fst))(hpo:∀a,bo=O a->a.block≠gb)(hbs:∀x∈bs,aF 141 Fq w x.1 x.2)(hnd:(bs.map Prod.fst).Nodup)(hfr:∀p∈g,∀x,p.2=O x->A x.1 ∉ bs.map Prod.fst)(hl:N bs<=1000) :
  Calls V 182 #[Z (O (aD gb 0)) (N g) gc,Z bo (N bs) bc] w λe w'=>e=Qv (Qr (iX g (bs.map Prod.snd)).1)/\(∃C,aW 141 161 Fq w' gb C os (iX g (bs.map Prod.snd)).2)/\Kept (λb=>b≠gb) w w':=by
 obtain⟨RQ,Lj⟩:=aS hp hpo;have vC:Qn (N (bs.map Prod.fst)=N bs):=ZH _;obtain⟨bE,bF⟩:=aS hnd h;have bg:Qn (∀p∈g,∀x,p.2=O x->A x.1 ∉ (bs.map Prod.fst).drop 0):=hfr;have aG:Qn (∀b,Fq b->b≠gb):=λb hb e=>hF (e ▸ hb);have bn:=Zh hF;obtain⟨z,af⟩:=eY (λk=>((bs.map Prod.snd).take k).foldl jH (F,g):Nat->Bool × Qy aj);obtain⟨BD,U2⟩:=eY (λk=>E (bs.map Prod.snd) k mP:Nat->aP);have bq:Qn (∀k,k<N bs->(z (k+1)).1=((z k).1 ||(z k).2.any (dQ (BD k)))/\(z (k+1)).2=iW (z k).2 (BD k)):=λk hk=>by
  have e:z (k+1)=jH (z k) (BD k):=by rw[af,U2];exact gF jH (F,g) (bs.map Prod.snd) mP (by rw[ZH];exact hk)
  rw[e];exact⟨rfl,rfl⟩
 have Lp:Qn (∀k,(z k).2.length=N g):=λk=>by rw[af];exact Bd _ _
 have HE:=Zh (by rw[af];show ((bs.map Prod.snd).take (N bs)).foldl jH (F,g)=_;rw[XQ Qa];rfl:z (N bs)=iX g (bs.map Prod.snd))
 have ay:=Zh (by  rw[af];rfl:z 0=(F,g))
 have U3:Qn (∀k,k<N bs->aF 141 Fq w (E (bs.map Prod.fst) k 0) (BD k)):=λk hk=>by grind
 clear hp hpo hbs hnd hfr h af U2 hF;generalize bs.map Prod.fst=bf,iX g (bs.map Prod.snd)=R,N bs=bl at*;clear bs;obtain⟨R1,R2⟩:=R;simp only at*;obtain⟨gl,FK⟩:=eY (N g);rw[<-FK]at Lp hgl ⊢;clear FK;go_enter func182,ntmps182;go_wp2;go_loopw [5,12] (λpv iv wr=>∃(k:Nat) (Ak:Nat->Nat),k<=bl/\iv=I J (k:Int)/\pv=Qr (z k).1/\Qn (aW 141 161 Fq wr gb Ak os (z k).2)/\Qn (∀p∈(z k).2,∀x,p.2=O x->Ak x.1 ∉ bf.drop k)/\Qn (Kept (λb=>b≠gb) w wr)) (λ_ iv _=>bl-(intOf iv).toNat)
 case atStart=>exact⟨0,A,ZB _,rfl,by rw[ay.o],by show aW 141 161 Fq _ _ _ _ _;rw[ay.o];exact bF.o,by show ∀p∈_,_;rw[ay.o];exact bg.o,ZO _ _⟩
 case round=>
  obtain⟨k,Ak,hk,rfl,rfl,JC,av,aC⟩:=hrel;by_cases ae:k<bl
  .obtain⟨bb,M5,bG,aQ⟩:=dh.get (RQ.o.aV aC.o (λ_ a ha=>Lj.o a ha)) (i:=k) (by rw[vC.o];exact ae);subst bG;have ai:=aQ k (by rw[vC.o];exact ae);obtain⟨G,hG⟩:=eY ((z k).2)
   obtain⟨b0,aR⟩:=eY ((z k).1);have FL:=bq.o k ae;have L:=Lp.o k;rw[<-hG]at JC av FL L;rw[<-aR]at FL ⊢;obtain⟨t,ht⟩:=eY (BD k);have ak:=U3.o k ae;rw[<-ht]at FL ak;obtain⟨C,ag⟩:=eY (qI Ak (cO G) (E bf k 0));obtain⟨a,ha⟩:=eY (E bf k 0);have az:Qn (C (cO G)=a):=by show _=_;rw[ag,ha];unfold qI;rw[Zb rfl]
   have qO:Qn (aW 141 161 Fq wr gb C os (jM (cO G) t 0 G)):=by show aW _ _ _ _ _ _ _ _;rw[R6,ag];exact JC.o.retag _
   have aH:Qn (∀i,∀p∈jM (cO G) t i G,∀x,p.2=O x->C x.1=C (cO G)->x.1=cO G):=λi=>by rw[ag];exact Sa (by rw[vC.o];exact ae) av.o t
   have aI:Qn (∀p∈jM (cO G) t (N G) G,∀x,p.2=O x->C x.1 ∉ bf.drop (k+1)):=by rw[ag];exact Ni (by rw[vC.o];exact ae) bE.o av.o t
   have aA:=Zh (by  rw[FL.2,<-L];exact V5 t G:jM (cO G) t gl G=(z (k+1)).2)
   have j:=Zh (by  rw[FL.1,<-L,ZJ]:(b0 ||(G.take gl).any (dQ t))=(z (k+1)).1)
   rw[<-ha]at ai ak;have aJ:=Zh ak;obtain⟨MB,ax⟩:=eY (λi=>b0 ||(G.take i).any (dQ t):Nat->Bool);have bu:Qn (MB 0=b0):=by show _=_;rw[ax];simp
   have bz:Qn (∀i,i<gl->MB (i+1)=(MB i ||dQ t (E G i nD))):=λi hi=>by rw[ax];show (b0 ||(G.take (i+1)).any (dQ t))=(b0 ||(G.take i).any (dQ t) ||dQ t (E G i nD));rw[R8 t (by rw[L];exact hi),Bool.or_assoc]
   have bA:=Zh (by  rw[ax];exact j.o:MB gl=(z (k+1)).1)
   have bB:=Zh L;have bC:Qn (∀p∈(z (k+1)).2,∀x,p.2=O x->C x.1 ∉ bf.drop (k+1)):=by have:=aI.o;rw[L,aA.o]at this;exact this
   obtain⟨n,hn⟩:=eY (cO G);rw[<-hn]at az qO aH aA;clear aQ hG aR FL L ak ht ag ha aI j ax JC av hn;go_wp2;go_loopw [5,18] (λpv iv wr=>∃i:Nat,i<=gl/\iv=I J (i:Int)/\pv=Qr (MB i)/\Qn (aW 141 161 Fq wr gb C os (jM n t i G))/\Qn (Kept (λb=>b≠gb) w wr)) (λ_ iv _=>gl-(intOf iv).toNat)
   case atStart=>exact⟨0,ZB _,rfl,by rw[bu.o],qO.o,aC.o⟩
   case round=>
    obtain⟨i,hi,rfl,rfl,Sb,aa⟩:=hrel;by_cases aZ:i<gl
    .have B:i<N G:=by rw[bB.o];exact aZ
     have W:=Sb.o.cells (i:=i) (by rw[rE];exact B);have Pe:=Sb.o.ord i (by rw[rE];exact B);rw[wO n t B]at W Pe;have aB:=bz.o i aZ;obtain⟨p,hP,yh⟩:=(aJ.o.aV (aa.o.mono λb _ hb=>aG.o b hb)).kI;obtain⟨ov,aT⟩:=eY (E os i eG);rw[<-aT]at W Pe;obtain⟨q,hq⟩:=eY (E G i nD);rw[<-hq]at W Pe aB;have aK:Qn (dQ t q=F->jM n t (i+1) G=jM n t i G):=λe=>abt n t B (by rw[<-hq];exact e);have aL:Qn (dQ t q=T->aW 141 161 Fq wr gb C os (jM n t i G)->∀x,Kept (λb=>b≠gb) w x->aW 141 161 Fq x gb C os (jM n t i G)->aW 141 161 Fq (Qo x (aD gb (i*2+1)) (Y (O (aD a 0)))) gb C os (jM n t (i+1) G)):=λe _ x hx hg=>by have h1:=hg.put bn.o (i:=i) (n:=n) (t:=t) (by rw[rE];exact B) (by rw[az.o];exact aJ.o.aV (hx.mono λb _ hb=>aG.o b hb)) (aH.o i);rw[az.o,wO n t B,<-hq]at h1;rw[V6 n t B (by rw[<-hq];exact e),<-hq];exact h1
     have eo:p.order.xs=t.d.order:=congrArg bW.order yh;have ec:p.cost=t.d.cost:=congrArg bW.cost yh;have nH:Qn (∀y,Bw wr y->Cb 161 #[Z p.order.ad (N p.order.xs) p.order.cap,Z ov.ad (N ov.xs) ov.cap] y (Qr (aO t.d.order q.1))):=λy hy=>by rw[<-eo,<-Pe.1];exact iY p.order.ad ov.ad p.order.cap ov.cap p.order.xs ov.xs y (Q8 hy hP.ok.order) (Q8 hy Pe.2.1.at') hP.ok.cap
     have c3:Qp wr (aD a 3)=O (Z p.order.ad (N p.order.xs) p.order.cap):=hP.c3;have c5:=hP.c5;have g0:Qp wr (aD gb (i*2))=O (Z ov.ad (N ov.xs) ov.cap):=W.1;have g1:=W.2;have U4:Qn (∀x,Bw wr x->x.frozen? (aD gb (i*2+1))=F):=λx hx=>(Sb.o.below hx).frozen _;generalize N p.order.xs=U5,p.order.ad=U6,p.order.cap=U7,N ov.xs=Lr,ov.ad=Ls,ov.cap=Lt at*;rw[ec]at c5;have P:=Zh aB;have au:Qn (∀y,q.2=O y->aF 141 Fq wr (C y.1) y.2):=λy hy=>Sb.o.tree (E G i nD) (by rw[<-wO n t B];exact oK (by rw[rE];exact B)) y (by rw[<-hq];exact hy);clear W Pe hP yh eo ec aT hq aB B p ov;obtain⟨v,bH⟩:=eY (wr);subst bH;obtain⟨SB,S⟩:=eY (aO t.d.order q.1);rw[<-S]at nH
     cases SB with
     |false =>
      have HT:=Zh (Nh S.symm);have U8:Qn (MB (i+1)=MB i):=by show _=_;rw[P.o,HT.o,Bool.or_false]
      have Q:Qn (∀x,Bw v x->aW 141 161 Fq x gb C os (jM n t (i+1) G)):=λx hx=>by rw[aK.o HT.o];exact Sb.o.below hx
      obtain⟨po,hpo⟩:∃po,FI C q.2=Y po:=by
       cases q.2 with
       |none=>exact⟨_,rfl⟩
       |some y=>exact⟨_,rfl⟩
      rw[hpo]at g1;clear S hpo P au;obtain⟨D,l⟩:=eX (v.alloc (Qt #[Z Ls Lr Lt,Y po] 161));have m:Bw v D:=by rw[<-l];exact cZ _ _
      have a0:Qp D (aD (M (H v)) 0)=O (Z Ls Lr Lt):=by rw[<-l];simp
      have a1:Qp D (aD (M (H v)) 1)=O (Y po):=by rw[<-l];simp
      obtain⟨d3,d5⟩:=jf m c3 c5;have j:=Zh m;clear m;go_wp2_with fail;clear l;refine wH D λf=>?_;refine wt 0 (Y (O (aD a 0))) f ?_;refine wt 1 (Y (O (aD a 0))) f ?_;refine wt 2 (Y (O (aD a 0))) f ?_;refine wt 3 (Y (O (aD a 3))) f ?_;refine zC 4 (Z U6 U5 U7) f d3 ?_;refine wt 5 (Y (O (aD (M (H v)) 0))) f ?_;refine zC 6 (Z Ls Lr Lt) f a0 ?_;refine wR 7 λK hK=>?_;go_simp;refine XX (nH.o _ (j.o.trans (f.mono j.o.size))) ?_;rintro e w2 ⟨rfl,hb⟩;refine oT hK f hb λf=>?_;clear hK K;refine wt 8 (Qr F) f ?_;simp only[Act.put,Zt,Zu,Zv,Zn,QW,QX];refine wU 9 f ?_;refine wU 10 f ?_;refine wU 11 f ?_;refine wU 12 f ?_;refine wU 13 f ?_;refine wU 14 f ?_;refine wU 15 f ?_;refine wU 16 f ?_;refine wU 17 f ?_;refine wU 18 f ?_;refine wU 19 f ?_;refine wU 20 f ?_;refine wU 21 f ?_;refine wU 22 f ?_;refine wU 23 f ?_;refine wU 24 f ?_;refine wU 25 f ?_;refine wg 26 (Qr F) f ?_;refine wD ?_;try simp only[Act.put,Zt,Zu,Zv,Zn,QW,QX]
      try simp only[Act.put,Zt,Zu,Zv,Zn,QW,QX]
      have u:=Zh (j.o.trans (f.mono j.o.size));obtain⟨Aw,qN⟩:=aS (Q.o w2 u.o) (aa.o.trans (ZP u.o (λ_ h _=>h)));clear f c3 c5 d3 d5 a0 a1 g0 g1 nH ai;go_wp2;go_roundw
      case rel=>exact⟨i+1,X,Qe,by rw[U8.o],Aw.o,qN.o⟩
      case measure=>exact XK
     |true =>
      cases hq2:q.2 with
      |none =>
       have HT:=Zh ((JA hq2).trans S.symm);have U8:Qn (MB (i+1)=T):=by show _=_;rw[P.o,HT.o,Bool.or_true]
       have Q:=Zh (aL.o HT.o Sb.o);rw[hq2]at g1;change v.cell? (aD gb (i*2+1))=O (Y Qs) at g1;clear S P au hq2;obtain⟨D,l⟩:=eX (v.alloc (Qt #[Z Ls Lr Lt,Y Qs] 161));have m:Bw v D:=by rw[<-l];exact cZ _ _
       have a0:Qp D (aD (M (H v)) 0)=O (Z Ls Lr Lt):=by rw[<-l];simp
       have a1:Qp D (aD (M (H v)) 1)=O (Y Qs):=by rw[<-l];simp
       obtain⟨d3,d5⟩:=jf m c3 c5;have j:=Zh m;clear m;have aM:=Zh l;clear l;go_wp2_with fail;rw[aM.o];clear aM;refine wH D λf=>?_;refine wt 0 (Y (O (aD a 0))) f ?_;refine wt 1 (Y (O (aD a 0))) f ?_;refine wt 2 (Y (O (aD a 0))) f ?_;refine wt 3 (Y (O (aD a 3))) f ?_;refine zC 4 (Z U6 U5 U7) f d3 ?_;refine wt 5 (Y (O (aD (M (H v)) 0))) f ?_;refine zC 6 (Z Ls Lr Lt) f a0 ?_;refine wR 7 λK hK=>?_;go_simp;refine XX (nH.o _ (j.o.trans (f.mono j.o.size))) ?_;rintro e w2 ⟨rfl,hb⟩;refine oT hK f hb λf=>?_;clear hK K;refine wt 8 (Qr T) f ?_;simp only[Act.put,Zt,Zu,Zv,Zn,QW,QX];refine wg 9 (Y (O (aD (M (H v)) 1))) f ?_;refine wgc 10 (Y Qs) f a1 ?_;refine wg 11 (Qr T) f ?_;refine wg 12 (Qr T) f ?_;simp only[Act.put,Zt,Zu,Zv,Zn,QW,QX];refine wU 13 f ?_;refine wU 14 f ?_;refine wU 15 f ?_;refine wU 16 f ?_;refine wU 17 f ?_;refine wU 18 f ?_;refine wU 19 f ?_;refine wU 20 f ?_;refine wU 21 f ?_;refine wU 22 f ?_;refine wU 23 f ?_;refine wU 24 f ?_;refine wg 25 (Qr T) f ?_;refine wg 26 (Qr T) f ?_;refine wD ?_;try simp only[Act.put,Zt,Zu,Zv,Zn,QW,QX]
       try simp only[Act.put,Zt,Zu,Zv,Zn,QW,QX]
       have u:=Zh (j.o.trans (f.mono j.o.size));have qP:=Zh (aa.o.trans (ZP u.o (λ_ h _=>h)));have Aw:=Zh (Q.o w2 qP.o (Sb.o.below u.o));have qN:Qn (Kept (λb=>b≠gb) w (Qo w2 (aD gb (i*2+1)) (Y (O (aD a 0))))):=qP.o.trans (Xd _ _ _ (λh=>h rfl));have s1:=cB u.o g1;have f1:=U4.o w2 u.o;clear f c3 c5 d3 d5 a0 a1 g0 g1 nH ai;go_wp2;go_roundw
       case rel=>exact⟨i+1,X,Qe,by rw[U8.o],Aw.o,qN.o⟩
       case measure=>exact XK
      |some y =>
       obtain⟨py,aU,aX⟩:=(au.o y hq2).kI;have ey:py.cost=y.2.d.cost:=congrArg bW.cost aX;have JD:Qn (dQ t q=decide (t.d.cost<y.2.d.cost)):=by show _=_;rw[JB hq2,<-S,Zj]
       have r5:Qp v (aD (C y.1) 5)=O (I .u64 (y.2.d.cost:Int)):=by rw[<-ey];exact aU.c5
       rw[hq2]at g1;change v.cell? (aD gb (i*2+1))=O (Y (O (aD (C y.1) 0))) at g1;generalize C y.1=r,y.2.d.cost=cr at*;obtain⟨cx,aY⟩:=eY (t.d.cost);rw[<-aY]at c5 JD;clear aU aX ey S hq2 aY au py;by_cases hc:cx<cr
       .have HC:=Zh hc;have HT:Qn (dQ t q=T):=by show _=_;rw[JD.o];exact Zi hc
        have U8:=Zh (by  rw[P.o,HT.o,Bool.or_true]:MB (i+1)=T)
        have Q:=Zh (aL.o HT.o Sb.o);clear hc P;obtain⟨D,l⟩:=eX (v.alloc (Qt #[Z Ls Lr Lt,Y (O (aD r 0))] 161));have m:Bw v D:=by rw[<-l];exact cZ _ _
        have a0:Qp D (aD (M (H v)) 0)=O (Z Ls Lr Lt):=by rw[<-l];simp
        have a1:Qp D (aD (M (H v)) 1)=O (Y (O (aD r 0))):=by rw[<-l];simp
        obtain⟨d3,d5⟩:=jf m c3 c5;have j:=Zh m;have d6:=cB m r5;clear m;go_wp2_with fail;clear l;refine wH D λf=>?_;refine wt 0 (Y (O (aD a 0))) f ?_;refine wt 1 (Y (O (aD a 0))) f ?_;refine wt 2 (Y (O (aD a 0))) f ?_;refine wt 3 (Y (O (aD a 3))) f ?_;refine zC 4 (Z U6 U5 U7) f d3 ?_;refine wt 5 (Y (O (aD (M (H v)) 0))) f ?_;refine zC 6 (Z Ls Lr Lt) f a0 ?_;refine wR 7 λK hK=>?_;go_simp;refine XX (nH.o _ (j.o.trans (f.mono j.o.size))) ?_;rintro e w2 ⟨rfl,hb⟩;refine oT hK f hb λf=>?_;clear hK K;refine wt 8 (Qr T) f ?_;simp only[Act.put,Zt,Zu,Zv,Zn,QW,QX];refine wg 9 (Y (O (aD (M (H v)) 1))) f ?_;refine wgc 10 (Y (O (aD r 0))) f a1 ?_;refine wg 11 (Qr F) f ?_;refine wg 12 (Qr F) f ?_;simp only[Act.put,Zt,Zu,Zv,Zn,QW,QX];refine wg 13 (Y (O (aD a 0))) f ?_;refine wg 14 (Y (O (aD a 0))) f ?_;refine wg 15 (Y (O (aD a 0))) f ?_;refine wg 16 (Y (O (aD a 5))) f ?_;refine wgc 17 (I .u64 (cx:Int)) f d5 ?_;refine wg 18 (Y (O (aD (M (H v)) 1))) f ?_;refine wgc 19 (Y (O (aD r 0))) f a1 ?_;refine wg 20 (Y (O (aD r 0))) f ?_;refine wg 21 (Y (O (aD r 0))) f ?_;refine wg 22 (Y (O (aD r 5))) f ?_;refine wgc 23 (I .u64 (cr:Int)) f d6 ?_;refine wG 24 (Qr T) f (λx hx=>?_) ?_
        .have hc:=HC.o;go_simp
        refine wg 25 (Qr T) f ?_;refine wg 26 (Qr T) f ?_;refine wD ?_;try simp only[Act.put,Zt,Zu,Zv,Zn,QW,QX]
        try simp only[Act.put,Zt,Zu,Zv,Zn,QW,QX]
        have u:=Zh (j.o.trans (f.mono j.o.size));have qP:=Zh (aa.o.trans (ZP u.o (λ_ h _=>h)));have Aw:=Zh (Q.o w2 qP.o (Sb.o.below u.o));have qN:Qn (Kept (λb=>b≠gb) w (Qo w2 (aD gb (i*2+1)) (Y (O (aD a 0))))):=qP.o.trans (Xd _ _ _ (λh=>h rfl));have s1:=cB u.o g1;have f1:=U4.o w2 u.o;clear f c3 c5 d3 d5 a0 a1 g0 g1 nH ai;clear r5 d6;go_wp2;go_roundw
        case rel=>exact⟨i+1,X,Qe,by rw[U8.o],Aw.o,qN.o⟩
        case measure=>exact XK
       .have HC:=Zh (Nat.le_of_not_lt hc);have HT:Qn (dQ t q=F):=by show _=_;rw[JD.o];exact Zr hc
        have U8:=Zh (by  rw[P.o,HT.o,Bool.or_false]:MB (i+1)=MB i)
        have Q:Qn (∀x,Bw v x->aW 141 161 Fq x gb C os (jM n t (i+1) G)):=λx hx=>by rw[aK.o HT.o];exact Sb.o.below hx
        obtain⟨D,l⟩:=eX (v.alloc (Qt #[Z Ls Lr Lt,Y (O (aD r 0))] 161));have m:Bw v D:=by rw[<-l];exact cZ _ _
        have a0:Qp D (aD (M (H v)) 0)=O (Z Ls Lr Lt):=by rw[<-l];simp
        have a1:Qp D (aD (M (H v)) 1)=O (Y (O (aD r 0))):=by rw[<-l];simp
        obtain⟨d3,d5⟩:=jf m c3 c5;have j:=Zh m;have d6:=cB m r5;go_wp2_with fail;refine wH D λf=>?_;refine wt 0 (Y (O (aD a 0))) f ?_;refine wt 1 (Y (O (aD a 0))) f ?_;refine wt 2 (Y (O (aD a 0))) f ?_;refine wt 3 (Y (O (aD a 3))) f ?_;refine zC 4 (Z U6 U5 U7) f d3 ?_;refine wt 5 (Y (O (aD (M (H v)) 0))) f ?_;refine zC 6 (Z Ls Lr Lt) f a0 ?_;refine wR 7 λK hK=>?_;go_simp;refine XX (nH.o _ (j.o.trans (f.mono j.o.size))) ?_;rintro e w2 ⟨rfl,hb⟩;refine oT hK f hb λf=>?_;refine wt 8 (Qr T) f ?_;simp only[Act.put,Zt,Zu,Zv,Zn,QW,QX];refine wg 9 (Y (O (aD (M (H v)) 1))) f ?_;refine wgc 10 (Y (O (aD r 0))) f a1 ?_;refine wg 11 (Qr F) f ?_;refine wg 12 (Qr F) f ?_;simp only[Act.put,Zt,Zu,Zv,Zn,QW,QX];refine wg 13 (Y (O (aD a 0))) f ?_;refine wg 14 (Y (O (aD a 0))) f ?_;refine wg 15 (Y (O (aD a 0))) f ?_;refine wg 16 (Y (O (aD a 5))) f ?_;refine wgc 17 (I .u64 (cx:Int)) f d5 ?_;refine wg 18 (Y (O (aD (M (H v)) 1))) f ?_;refine wgc 19 (Y (O (aD r 0))) f a1 ?_;refine wg 20 (Y (O (aD r 0))) f ?_;refine wg 21 (Y (O (aD r 0))) f ?_;refine wg 22 (Y (O (aD r 5))) f ?_;refine wgc 23 (I .u64 (cr:Int)) f d6 ?_;refine wG 24 (Qr F) f (λx hx=>?_) ?_
        .have hc:=HC.o;go_simp
        refine wg 25 (Qr F) f ?_;refine wg 26 (Qr F) f ?_;refine wD ?_;try simp only[Act.put,Zt,Zu,Zv,Zn,QW,QX]
        try simp only[Act.put,Zt,Zu,Zv,Zn,QW,QX]
        have u:=Zh (j.o.trans (f.mono j.o.size));obtain⟨Aw,qN⟩:=aS (Q.o w2 u.o) (aa.o.trans (ZP u.o (λ_ h _=>h)));go_wp2;go_roundw
        case rel=>exact⟨i+1,X,Qe,by rw[U8.o],Aw.o,qN.o⟩
        case measure=>exact XK
    .have aN:gl=i:=X
     have Aw:Qn (aW 141 161 Fq wr gb C os (z (k+1)).2):=by have:=Sb.o;rw[<-aN,aA.o]at this;exact this
     have U8:=Zh (by  rw[<-aN];exact bA.o:MB i=(z (k+1)).1)
     go_wp2;go_roundw
     case rel=>exact⟨k+1,C,X,Qe,by rw[U8.o],Aw.o,bC.o,aa.o⟩
     case measure=>exact XK
  .have bD:bl=k:=X
   have HR:=Zh (by  rw[<-bD];exact HE.o:z k=(R1,R2))
   rw[HR.o]at JC ⊢;go_wp2;go_ret;exact⟨rfl,⟨Ak,JC.o⟩,aC.o⟩
def Fz.kept'{w':U}(h:Fz Fq W0 w){s:Qz}(hk:Kept s w w')(hs:∀b,Live W0 b->s b):Fz Fq W0 w':=
 ⟨h.below.kept hk hs,h.low,λb a=>h.high b (ZN hk.size a)⟩
def Fz.abx(h:Fz Fq W0 w){g:Nat}(hg:¬Fq g):∀b,Live W0 b->b≠g:=λb a e=>hg (e ▸ h.low b a)
def Eb(h:bI g=O t):∃x,(E g 0 nD).2=O x/\x.2=t:=by
 match g,h with
 |[],h=>cases h
 |(_,Qs)::_,h=>cases h
 |(o,O y)::r,h=>injection h with h;exact⟨y,rfl,h⟩
def dH{w w':U}{s:Qz}(hk:Kept s w w'){b o:Nat}{v:Value}(h:Qp w (aD b o)=O v)(hs:s b):Qp w' (aD b o)=O v:=by rw[ZX (hk.block b (ZW h) hs)];exact h
theorem JE{f:ay}(Ez:Env f ts q W0)(hz:Fz Fq W0 w)(h:aW 141 161 Fq w gb A os g)(hF:¬Fq gb){s:Nat}(hgo:sF q s g)(gc:Nat)(hgc:N g<=gc)(hcm:gc<=9223372036854775807)(bo:PN)(bc:Nat)(bs:Qy (Nat × aP))(hp:dh w bo (bs.map Prod.fst))(hpo:∀a,bo=O a->a.block≠gb)(hbs:∀x∈bs,aF 141 Fq w x.1 x.2)(hnd:(bs.map Prod.fst).Nodup)(hfr:∀p∈g,∀x,p.2=O x->A x.1 ∉ bs.map Prod.fst)(hl:N bs<=1000)(JF:∀x∈bs,Ll q s x.2) :
  Calls V 146 #[Z (O (aD gb 0)) (N g) gc,Qu (f.cells ts q),Z bo (N bs) bc] w λe w'=>e=Qv (Qr (bz ts q g (bs.map Prod.snd)).1)/\(∃A',aW 141 161 Fq w' gb A' os (bz ts q g (bs.map Prod.snd)).2)/\Kept (λb=>b≠gb) w w':=by
 obtain⟨v0,v1,v2,v3,v4,v5,v6,v7,v8,v9,aa,ag,ai,bZ,-⟩:=XY f ts q;have au:=hgo.short;have bn:0<N g:=by obtain⟨hh,r,rfl,-⟩:=hgo.head;simp
 obtain⟨w1,aT,v,aC⟩:=bC w #[v0,v1,v2,v3,v4,v5,v6,v7,v8,v9,aa,ag,ai] 82;have V9:=Ea (h.below v) hF au gc bo bc bs (hp.below v) hpo (λx d=>(hbs x d).below v) hnd hfr hl;have n:=sG (l:=bs.map Prod.snd) (x:=(F,g)) hgo (λt ht=>Qb) (λe=>by cases e);have aI:=uK g (bs.map Prod.snd);have HR:Qn (bz ts q g (bs.map Prod.snd)=if (iX g (bs.map Prod.snd)).1=T then (T,((g.map Prod.fst).drop 1).foldl (dW ts q) (iX g (bs.map Prod.snd)).2) else (F,(iX g (bs.map Prod.snd)).2)):=rfl;change sF q s (iX g (bs.map Prod.snd)).2/\((iX g (bs.map Prod.snd)).1=T->(bI (iX g (bs.map Prod.snd)).2).isSome=T) at n;generalize bz ts q g (bs.map Prod.snd)=R,iX g (bs.map Prod.snd)=Oq at*;obtain⟨O1,O2⟩:=Oq;obtain⟨R1,R2⟩:=R;simp only at*;have bq:N O2=N g:=by have:=congrArg N aI;simpa using this
 obtain⟨wQ,qO,aU,bB,bD⟩:=EI h.lt aC v (hz.next v) (hz.abx hF)
 cases O1 with
 |false =>
  have P:Qn (R1=F/\R2=O2):=by have:=HR.o;grind
  clear HR h n hz Ez hp hbs hfr JF aC v;rw[bZ];go_enter func146,ntmps146;go_wp2_with fail;refine V9.mono ?_;rintro e w2 ⟨rfl,u,W⟩;have HF:Qn ((∃A',aW 141 161 Fq w2 gb A' os R2)/\Kept (λb=>b≠gb) w w2):=⟨by rw[P.o.2];exact u,(ZP aU.o (λ_ h _=>h)).trans W⟩;clear V9 u W aT;go_wp2;go_ret;exact⟨by rw[P.o.1];rfl,HF.o⟩
 |true =>
  have P:Qn (R1=T/\R2=((g.map Prod.fst).drop 1).foldl (dW ts q) O2):=by have:=HR.o;grind
  obtain⟨j,Sd⟩:=eY (λk=>(((g.map Prod.fst).drop 1).take k).foldl (dW ts q) O2:Nat->Qy aj);have aJ:N ((g.map Prod.fst).drop 1)=N g-1:=by rw[List.length_drop,ZH]
  have av:Qn (∀k,k<N g-1->j (k+1)=dW ts q (j k) (E ((g.map Prod.fst).drop 1) k [])):=λk hk=>by rw[Sd];exact gF _ O2 _ [] (by rw[aJ];exact hk)
  have zJ:Qn (∀k,sF q s (j k)/\(bI (j k)).isSome=T/\N (j k)=N g/\(j k).map Prod.fst=g.map Prod.fst):=λk=>by have h1:=uL (ts:=ts) (os:=((g.map Prod.fst).drop 1).take k) n.1 (n.2 rfl);have h2:=rC ts q (((g.map Prod.fst).drop 1).take k) O2;grind
  have vU:=Zh (by rw[Sd,P.o.2];grind:j (N g-1)=R2)
  have Ii:=Zh (by  rw[Sd];rfl:j 0=O2)
  have ax:Qn (∀k,k<N g-1->E ((g.map Prod.fst).drop 1) k []=(E g (k+1) nD).1):=λk hk=>by rw[Je,List.getElem?_drop,Xt,Je,Nat.add_comm 1 k,Xu X];rfl
  have vB:Qn (∀(x:U) (k a:Nat) (t:aP) (o:ah),Fz Fq W0 x->aF 141 Fq x a t->iP q t->IntsIn Fq x o->N o.xs<=1000->Calls V 181 #[Qu #[v0,v1,v2,v3,v4,v5,v6,v7,v8,v9,aa,ag,ai],Y (O (aD a 0)),Z o.ad (N o.xs) o.cap] x (bN 141 Fq x (bK ts q t o.xs))):=λx k a t o d ht bM ho bO=>by rw[<-bZ];exact Be Ez d a t ht bM o ho.at' ho.inf ho.nil ho.cap bO
  have bu:=Zh hF;clear HR h n hz Ez hp hbs hfr JF aC v Sd aJ bq aI hF hpo hnd;rw[bZ];clear bZ;obtain⟨gl,FK⟩:=eY (N g);rw[<-FK]at av vU ax V9 au bn hgc ⊢;have Lp:=Zh FK;clear FK;obtain⟨m,hm⟩:∃m,gl=m+1:=⟨gl-1,X⟩;subst hm;rw[Nat.add_sub_cancel]at av vU ax;obtain⟨A0,bE,bF⟩:∃A0:Addr,(if gc=1 then O ((aD gb 0):Addr) else O (aD gb 2))=O A0/\Qn (0<m->A0=(aD gb 2)):=by
   by_cases h1:gc=1
   .exact⟨(aD gb 0),by rw[Zb h1],λh=>X⟩
   .exact⟨(aD gb 2),by rw[Zg h1],λ_=>rfl⟩
  go_enter func146,ntmps146;go_wp2_with fail;refine V9.mono ?_;rintro e w2 ⟨rfl,⟨A2,u⟩,W⟩;have bQ:Qn (aW 141 161 Fq w2 gb A2 os (j 0)):=by show aW _ _ _ _ _ _ _ _;rw[Ii.o];exact u
  have qP:=Zh W;clear V9 u W aT;go_wp2;clear bE;go_loopw [16] (λiv wr=>∃(k:Nat) (Ak:Nat->Nat),k<=m/\iv=I J (k:Int)/\Qn (aW 141 161 Fq wr gb Ak os (j k))/\Qn (Kept (λb=>b≠gb) w1 wr)) (λiv _=>m-(intOf iv).toNat)
  case atStart=>grind
  case round=>
   obtain⟨k,Ak,hk,rfl,JC,ak⟩:=hrel;by_cases bg:k<m
   .have u:=bF.o X;subst u;have L:=zJ.o k;have az:=JC.o.cells (i:=k+1) (by rw[L.2.2.1,<-Lp.o];omega);have Pe:=JC.o.ord (k+1) (by rw[L.2.2.1,<-Lp.o];omega);have aK:(E (j k) (k+1) nD).1=(E g (k+1) nD).1:=by
     have h1:k+1<N (j k):=by rw[L.2.2.1,<-Lp.o];omega
     have h2:k+1<N g:=by rw[<-Lp.o];omega
     have:=congrArg (λl=>E l (k+1) []) L.2.2.2;grind
    have FL:=av.o k bg;rw[ax.o k bg,<-aK,<-Pe.1]at FL;obtain⟨t,ht⟩:=Zp.1 L.2.1;obtain⟨y,hy,aV⟩:=Eb ht;have aA:=JC.o.tree _ (oK (g:=j k) (i:=0) (by rw[L.2.2.1,<-Lp.o];omega)) y hy;rw[aV]at aA;have aL:=(L.1.first ht).1;have U9:=λx (d:Kept (λb=>b≠gb) wr x) (hgx:aW 141 161 Fq x gb Ak os (j k))=>pX hgx (by rw[L.2.2.1,<-Lp.o];omega) gc;rw[L.2.2.1,<-Lp.o,hy]at U9;have aM:Qn (∀x,Bw wr x->Ce 183 #[Z (O (aD gb 0)) (m+1) gc] x (Y (O (aD (Ak y.1) 0)))):=λx d=>U9 x (ZP d (λ_ h _=>h)) (JC.o.below d);obtain⟨B,aX⟩:=eY (E os (k+1) eG);rw[<-aX]at az Pe FL;have bA:=Zh (bB.o.kept' ak.o bD.o);have aN:Qn (∀x,Bw wr x->Calls V 181 #[Qu #[v0,v1,v2,v3,v4,v5,v6,v7,v8,v9,aa,ag,ai],Y (O (aD (Ak y.1) 0)),Z B.ad (N B.xs) B.cap] x (bN 141 Fq x (bK ts q t B.xs))):=λx d=>vB.o x k (Ak y.1) t B (bA.o.next d) (aA.below d) aL (Pe.2.1.below d) Pe.2.2;have qD:Qn (j (k+1)=iW (j k) (bK ts q t B.xs)):=by show _=_;rw[FL];unfold dW;rw[ht];rfl
    have aO:Qn (∀x r c,Bw wr x->M (H wr)<=r->c≠gb->Qp x (aD c 0)=O (Y (O (aD r 0)))->aF 141 Fq x r (bK ts q t B.xs)->Calls V 182 #[Z (O (aD gb 0)) (m+1) gc,Z (O (aD c 0)) 1 1] x λe w'=>(∃b,e=Qv (Qr b))/\(∃A',aW 141 161 Fq w' gb A' os (j (k+1)))/\Kept (λb=>b≠gb) x w'):=λx r c d hr hc aH bP=>by
     have h1:=Ea (JC.o.below d) bu.o (by rw[L.2.2.1,<-Lp.o];exact au) gc (O (aD c 0)) 1 [(r,bK ts q t B.xs)] ⟨Qa,λi hi=>⟨c,0,rfl,by
      have:i=0:=by simpa using hi
      subst this;exact aH⟩⟩ (λa e=>Qb) (λz hz=>by rw[Xj]at hz;rw[hz];exact bP) Qa (λp hp z hz hm=>by
       rw[List.map_singleton,Xj]at hm;have:=(JC.o.tree p hp z hz).lt;rw[hm]at this;omega) Qa
     rw[L.2.2.1,<-Lp.o]at h1;refine h1.mono ?_;rintro e w' ⟨rfl,h2,h3⟩;rw[qD.o];exact⟨⟨_,rfl⟩,h2,h3⟩
    have g0:Qp wr (aD gb (2+k*2))=O (Z B.ad (N B.xs) B.cap):=by rw[show 2+k*2=(k+1)*2 by omega];exact az.1
    obtain⟨po,hpo⟩:∃po,FI Ak (E (j k) (k+1) nD).2=Y po:=by
     cases (E (j k) (k+1) nD).2 with
     |none=>exact⟨_,rfl⟩
     |some y=>exact⟨_,rfl⟩
    have g1:Qp wr (aD gb (2+k*2+1))=O (Y po):=Qb;have Q:=qO.o.keep ak.o (Qk wQ.o);generalize Ak y.1=ar,N B.xs=Lr,B.ad=Ls,B.cap=Lt,bK ts q t B.xs=TT at*;have bR:Qn _:=Q;clear az Pe aK FL ht hy aV aA aL U9 aX hpo L;obtain⟨wq,bG⟩:=eY (wr);subst bG;obtain⟨w3,aG⟩:=eX (wq.alloc (Qt #[Z Ls Lr Lt,Y po] 161));have aB:Bw wq w3:=by rw[<-aG];exact cZ _ _
    have p0:Qp w3 (aD (M (H wq)) 0)=O (Z Ls Lr Lt):=by rw[<-aG];simp
    have aQ:=Q.keep (ZP (s:=λb=>b<M (H wq)) aB (λ_ h _=>h)) Q.lt;obtain⟨a0,a1,a2,a3,a4,a5,a6,a7,a8,a9,jq,jP,aY⟩:=aQ.k13;obtain⟨C,aZ⟩:=aS aB Q.lt;clear aB Q aQ;go_wp2_with fail;clear aG;have G:Qn (M (H w)≠gb):=by show _≠_;have:=wQ.o;omega
    have Wd:Qn (M (H wq)≠gb):=by show _≠_;have:=wQ.o;have:=aZ.o;omega
    refine Zo (S:=λx=>Kept (λb=>b≠gb) w3 x) Qd (ZP ((Q9 (M (H w3)) w3).drew) (λ_ hl _=>hl)) (λD=>?_);refine wt 0 (Z (O (aD gb 0)) (m+1) gc) D ?_;refine wT 1 (Qu #[v0,v1,v2,v3,v4,v5,v6,v7,v8,v9,aa,ag,ai]) D (λx d=>?_) ?_
    .have e0:=dH d a0 G.o;have e1:=dH d a1 G.o;have e2:=dH d a2 G.o;have e3:=dH d a3 G.o;have e4:=dH d a4 G.o;have e5:=dH d a5 G.o;have e6:=dH d a6 G.o;have e7:=dH d a7 G.o;have e8:=dH d a8 G.o;have e9:=dH d a9 G.o;have bS:=dH d jq G.o;have bT:=dH d jP G.o;have bU:=dH d aY G.o;go_simp
    refine wt 2 (Z (O (aD gb 0)) (m+1) gc) D ?_;refine wt 4 (Y (O (aD (M (H wq)) 0))) D ?_;refine wT 5 (Z Ls Lr Lt) D (λx d=>?_) ?_
    .have e0:=dH d p0 Wd.o;go_simp
    refine wR 3 λK hK=>?_;go_simp;refine XX (aM.o _ C.o.drew) ?_;rintro e w4 ⟨rfl,bH⟩;subst bH;refine hK.o _ _ D λD=>?_;clear hK K;refine wR 6 λK hK=>?_;go_simp;refine XX (aN.o _ C.o.drew) ?_;rintro e w5 ⟨r,rfl,hT,bJ,bV,bL⟩;have uH:=(Q9 (M (H w3)) w3).drew.trans bL;refine hK.o _ _ (ZP uH (λ_ h _=>h)) (λD=>?_);clear hK K;refine wR 7 λK hK=>?_;go_simp;refine hK.o _ _ (D.trans (ZT _ _)) (λD=>?_);clear hK K;refine wR 8 λK hK=>?_;go_simp;refine XX (aO.o _ r _ (C.o.trans ((uH.trans ((cZ _ _).mono uH.size)).mono C.o.size)) (ZN C.o.size bJ) (by have:=wQ.o;have:=aZ.o;have:=C.o.size;have:=uH.size;omega) Qa (hT.below (cZ _ _))) ?_;rintro e w6 ⟨⟨bb,rfl⟩,bf,qL⟩;refine hK.o _ _ (D.trans qL) (λD=>?_);clear hK K;refine wD ?_;try simp only[pV]
    try simp only[pV]
    have HF:Qn ((∃A',aW 141 161 Fq w6 gb A' os (j (k+1)))/\Kept (λb=>b≠gb) w1 w6):=⟨bf,ak.o.trans ((ZP C.o (λ_ h _=>h)).trans D)⟩;clear D bf a0 a1 a2 a3 a4 a5 a6 a7 a8 a9 jq jP aY p0 g0 g1 aM aN aO;go_wp2;go_roundw
    case rel=>obtain⟨⟨A',bW⟩,bX⟩:=HF.o;grind
    case measure=>exact XK
   .have aR:m=k:=X
    have HF:Qn ((∃A',aW 141 161 Fq wr gb A' os R2)/\Kept (λb=>b≠gb) w wr):=by refine⟨⟨Ak,?_⟩,(ZP aU.o (λ_ h _=>h)).trans ak.o⟩;have:=JC.o;rw[<-aR,vU.o]at this;exact this
    clear aR;go_wp2;go_ret;exact⟨by rw[P.o.1];rfl,HF.o⟩
def Jl:=@dH
def CZ(t:af):Qy Value:=[I J t.aL,I J t.rows,I J t.k0,I J t.k1,I J t.k2,I J t.k3]
def M9{base:Nat}{e:TypeId}{v:Value}(h:w.ownsRow base e 6 v (N ts) (ts.flatMap CZ))(hl:N ts<=1000) :
  ∃f cap,v=Z f (N ts) cap/\aQ w f ts:=by
 rcases h.2 with⟨rfl,h0⟩|⟨g,cap,cur,rfl,hb,hh,hc,_,hcs,ht⟩
 .have:=Zk h0;subst this;exact⟨Qs,0,rfl,Qa,λi d=>absurd d Qa⟩
 .refine⟨O (aD g 0),cap,rfl,X,λi d=>⟨g,0,rfl,?_⟩⟩;have a:∀j u,j<6->(CZ (E ts i tz))[j]? = O u->Qp w (aD g (0+i*6+j))=O u:=λj u k l=>by
   have b:=XD CZ 6 (λ_=>rfl) tz ts i j d k;rw[l,<-ht,XG]at b;split at b
   .rw[ZC,Zl (show GB w g _ cur from hh)]
    simpa using b
   .cases b
  exact⟨a 0 _ X rfl,a 1 _ X rfl,a 2 _ X rfl,a 3 _ X rfl,a 4 _ X rfl,a 5 _ X rfl⟩
def IU{xs:Qy af}(h:aQ w (O a) xs):∀j u,(xs.flatMap CZ)[j]? = O u->∃b f,O a=O (aD b f)/\Qp w (aD b (f+j))=O u:=by
 intro j u m;have n:j<N xs*6:=by have:=(Xr.1 m).1;rw[jA CZ 6 (λ_=>rfl)]at this;exact this
 have k:j / 6<N xs:=X;obtain⟨b,f,e,p,q,t,v,y,z⟩:=h.2 (j / 6) k;refine⟨b,f,e,?_⟩;have l:j % 6<6:=X;have d:=XD CZ 6 (λ_=>rfl) tz xs (j / 6) (j % 6) k l;have g:j / 6*6+j % 6=j:=X;rw[g,m]at d;rw[<-g];generalize j / 6=i,j % 6=r at*
 match r,l,d with
 |0,_,d =>
  injection d with d;rw[d,XH];exact p
 |1,_,d =>
  injection d with d;rw[d,<-Jg];exact q
 |2,_,d =>
  injection d with d;rw[d,<-Jg];exact t
 |3,_,d =>
  injection d with d;rw[d,<-Jg];exact v
 |4,_,d =>
  injection d with d;rw[d,<-Jg];exact y
 |5,_,d =>
  injection d with d;rw[d,<-Jg];exact z
def Na{xs:Qy aA}(h:bE w (O a) xs):∀j u,(xs.flatMap aA.vals)[j]? = O u->∃b f,O a=O (aD b f)/\Qp w (aD b (f+j))=O u:=by
 intro j u m;have n:j<N xs*5:=by have:=(Xr.1 m).1;rw[jA aA.vals 5 (λ_=>rfl)]at this;exact this
 have k:j / 5<N xs:=X;obtain⟨b,f,e,p,q,t,v,y⟩:=h.2 (j / 5) k;refine⟨b,f,e,?_⟩;have l:j % 5<5:=X;have d:=XD aA.vals 5 (λ_=>rfl) cz xs (j / 5) (j % 5) k l;have g:j / 5*5+j % 5=j:=X;rw[g,m]at d;rw[<-g];generalize j / 5=i,j % 5=r at*
 match r,l,d with
 |0,_,d =>
  injection d with d;rw[d,XH];exact p
 |1,_,d =>
  injection d with d;rw[d,<-Jg];exact q
 |2,_,d =>
  injection d with d;rw[d,<-Jg];exact t
 |3,_,d =>
  injection d with d;rw[d,<-Jg];exact v
 |4,_,d =>
  injection d with d;rw[d,<-Jg];exact y
def Tryz.abp:(V.info? 48).map (λi=>(i.zero,i.size,i.bytes))=O (O (Qu #[I J 0,I J 0,I J 0,I J 0,I J 0,I J 0]),6,48):=Qd
def zH(ao:PN)(cap:Nat)(xs:Qy af)(w:U)(hx:aQ w ao xs)(hn:ao=Qs->cap=0)(hl:N xs<=1000) :
  Calls V 25 #[Z ao (N xs) cap] w λe w'=>∃v,e=Qv v/\w'.ownsRow (M (H w)) 48 6 v (N xs) (xs.flatMap CZ)/\Bw w w':=by
 obtain⟨n,p,f,g,i⟩:=Xl Tryz.abp
 cases ao with
 |none =>
  obtain rfl:cap=0:=hn rfl;have k:xs=[]:=by
   cases xs with
   |nil=>rfl
   |cons x xs=>obtain⟨b,q,e,_⟩:=hx.2 0 Qa;cases e
  subst k;have d:∀W,(binOp .eql 23 (.slice Qs 0 0) (.slice Qs 0 0)).run V W=.ok (.bool T) W:=λW=>Ja W 23 _ Qs _ _ _ _ underlying23;go_enter func25,ntmps25;go_wp2;go_ret;exact⟨_,rfl,Xm _ _ _ _,Q9 _ _⟩
 |some a =>
  obtain⟨C,w',r,t,j,⟨y,z,A,rfl⟩⟩:=mJ (P:=V) w 23 23 48 n _ 6 48 underlying23 p f g i rfl Qc a (N xs) cap (xs.flatMap CZ) (jA CZ 6 (λ_=>rfl) xs) (IU hx) (λu B=>by
   obtain⟨x,_,hx⟩:=X5.1 B;simp[CZ]at hx;rcases hx with rfl|rfl|rfl|rfl|rfl|rfl <;> rfl) X Qc
  have d:∀W,(binOp .eql 23 (.slice (O a) (N xs) cap) (.slice Qs 0 0)).run V W=.ok (.bool F) W:=λW=>Ja W 23 _ (O a) _ _ _ _ underlying23;have l:Qn _:=t;have m:=Zh j;go_enter func25,ntmps25;go_wp2_with (first|(at_builtin;refine Xz rfl (.tmp 5) (.tmp 6) 23 rfl (.slice (O (aD (M (H w)) 0)) 0 0) (.slice (O a) (N xs) cap) (.slice y z A) w' rfl rfl r ?_));go_wp2;go_ret;exact⟨_,rfl,l.o,m.o⟩
def Ba(ao:PN)(cap:Nat)(xs:Qy aA)(w:U)(hx:bE w ao xs)(hn:ao=Qs->cap=0)(hl:N xs<=1000) :
  Calls V 40 #[Z ao (N xs) cap] w λe w'=>∃v,e=Qv v/\w'.ownsRow (M (H w)) 66 5 v (N xs) (xs.flatMap aA.vals)/\Bw w w':=by
 obtain⟨n,p,f,g,i⟩:=Xl Tryz.IQ
 cases ao with
 |none =>
  obtain rfl:cap=0:=hn rfl;have k:xs=[]:=by
   cases xs with
   |nil=>rfl
   |cons x xs=>obtain⟨b,q,e,_⟩:=hx.2 0 Qa;cases e
  subst k;have d:∀W,(binOp .eql 68 (.slice Qs 0 0) (.slice Qs 0 0)).run V W=.ok (.bool T) W:=λW=>Ja W 68 _ Qs _ _ _ _ underlying68;go_enter func40,ntmps40;go_wp2;go_ret;exact⟨_,rfl,Xm _ _ _ _,Q9 _ _⟩
 |some a =>
  obtain⟨C,w',r,t,j,⟨y,z,A,rfl⟩⟩:=mJ (P:=V) w 68 68 66 n _ 5 40 underlying68 p f g i rfl Qc a (N xs) cap (xs.flatMap aA.vals) (jA aA.vals 5 (λ_=>rfl) xs) (Na hx) (λu B=>by
   obtain⟨x,_,hx⟩:=X5.1 B;simp[aA.vals]at hx;rcases hx with rfl|rfl|rfl|rfl|rfl <;> rfl) X Qc
  have d:∀W,(binOp .eql 68 (.slice (O a) (N xs) cap) (.slice Qs 0 0)).run V W=.ok (.bool F) W:=λW=>Ja W 68 _ (O a) _ _ _ _ underlying68;have l:Qn _:=t;have m:=Zh j;go_enter func40,ntmps40;go_wp2_with (first|(at_builtin;refine Xz rfl (.tmp 5) (.tmp 6) 68 rfl (.slice (O (aD (M (H w)) 0)) 0 0) (.slice (O a) (N xs) cap) (.slice y z A) w' rfl rfl r ?_));go_wp2;go_ret;exact⟨_,rfl,l.o,m.o⟩
theorem yj(ao:PN)(cap:Nat)(xs:Qy aG)(w:U)(hx:N xs<=1152921504606846976/\bg w ao (N xs) (λi=>(E xs i lz).val))(hn:ao=Qs->cap=0)(hl:N xs<=1000) :
  Calls V 39 #[Z ao (N xs) cap] w λe w'=>∃v,e=Qv v/\w'.ownsRow (M (H w)) 70 1 v (N xs) (xs.map aG.val)/\Bw w w':=by
 obtain⟨t,y,f,g,k⟩:=Xl Tryz.A9
 cases ao with
 |none =>
  obtain rfl:cap=0:=hn rfl;have p:xs=[]:=by
   cases xs with
   |nil=>rfl
   |cons x xs=>obtain⟨b,z,e,_⟩:=hx.2 0 Qa;cases e
  subst p;have d:∀W,(binOp .eql 24 (.slice Qs 0 0) (.slice Qs 0 0)).run V W=.ok (.bool T) W:=λW=>Ja W 24 _ Qs _ _ _ _ underlying24;go_enter func39,ntmps39;go_wp2;go_ret;exact⟨_,rfl,Xm _ _ _ _,Q9 _ _⟩
 |some a =>
  obtain⟨L,w',A,B,l,⟨C,D,G,rfl⟩⟩:=mJ (P:=V) w 24 24 70 t _ 1 24 underlying24 y f g k rfl Qc a (N xs) cap (xs.map aG.val) Qa (λj u m=>by
   rw[Xt]at m;by_cases n:j<N xs
   .obtain⟨Q,off',e,R⟩:=hx.2 j n
    grind
   .rw[X9 X]at m;cases m) (λu K=>by obtain⟨x,_,rfl⟩:=ZL.1 K;rfl) X Qc
  have d:∀W,(binOp .eql 24 (.slice (O a) (N xs) cap) (.slice Qs 0 0)).run V W=.ok (.bool F) W:=λW=>Ja W 24 _ (O a) _ _ _ _ underlying24;have q:Qn _:=B;have r:=Zh l;go_enter func39,ntmps39;go_wp2_with (first|(at_builtin;refine Xz rfl (.tmp 5) (.tmp 6) 24 rfl (.slice (O (aD (M (H w)) 0)) 0 0) (.slice (O a) (N xs) cap) (.slice C D G) w' rfl rfl A ?_));go_wp2;go_ret;exact⟨_,rfl,q.o,r.o⟩
