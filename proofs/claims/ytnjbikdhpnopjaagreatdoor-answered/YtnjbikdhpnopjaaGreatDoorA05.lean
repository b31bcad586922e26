import Derived.Test.YtnjbikdhpnopjaaGreatDoorA02
set_option linter.all false
set_option maxRecDepth 100000
set_option maxHeartbeats 0
namespace Go.Proofs.Zz
open Go.RowKit Go.Shelf
open List renaming length->N,getD->E
open Go.Value renaming slice->Z,int->I,bool->Wl,agg->FL
open Go.Proofs.Tryz renaming prog->V
open Option renaming some->O
open Go.IntKind renaming i64->J,u64->Vo
open Bool renaming false->F,true->T
open Go renaming World->U
open Go.World renaming heap->H,cell?->UK
open _root_.Array renaming size->M
open Go.RowKit renaming Hid->Y3
open Go.Obj renaming cells->EP
open Go.Ending renaming returned->FN
variable {A B:U} {R k:Nat} {ao:Option Addr} {xs:List Int} {cs:List aI} {ts:List ah} {q:af} {c:Int}
def iw(ts:List ah)(q:af)(xs:List Int):List Int:=xs.map λc=>(aC ts q.src.xs c:Int)
def bQ(cs:List aI):Int × Int × Bool:=
 if N cs > 1∨(E cs 0 cz).op≠0∨(E cs 0 cz).not=T∨(E cs 0 cz).const=T then (0,0,F) else ((E cs 0 cz).left,(E cs 0 cz).right,T)
structure aF.New(f:aF)(n:Nat):Prop where
 ca:∀a,f.ca=O a->n<=a.block
 ra:∀a,f.ra=O a->n<=a.block
 na:∀a,f.na=O a->n<=a.block
 pa:∀a,f.pa=O a->n<=a.block
def nN{b off:Nat}{v:Value}(h:UK A (aD b off)=O v)(hk:Kept (λx=>x≠R) A B)(hb:b≠R):UK B (aD b off)=O v:=Q0 h hk hb
def fH.but{xs:List Nat}(h:fH A ao xs)(hk:Kept (λx=>x≠R) A B)(hb:∀a,ao=O a->a.block≠R):fH B ao xs:=⟨h.1,λi f=>by
 obtain⟨b,off,e,d⟩:=h.2 i f;exact⟨b,off,e,nN d hk (hb _ e)⟩⟩
def iU.but{cs:List (Nat × Int)}(h:iU A ao cs)(hk:Kept (λx=>x≠R) A B)(hb:∀a,ao=O a->a.block≠R):iU B ao cs:=⟨h.1,λi g=>by
 obtain⟨b,off,e,d,f⟩:=h.2 i g;exact⟨b,off,e,nN d hk (hb _ e),nN f hk (hb _ e)⟩⟩
def bY.but{w:U}{ps:List aG}(h:bY A ao ps)(hk:Kept (λx=>x≠R) A B)(hb:∀a,ao=O a->a.block≠R)(ho:∀i,i<N ps->(E ps i bF).Ok w)(hw:Bw w B):bY B ao ps:=⟨h.1,λi f=>by
 obtain⟨⟨b,off,e,g,j,k,l,m,n⟩,_⟩:=h.2 i f;have d:=hb _ e;exact⟨⟨b,off,e,nN g hk d,nN j hk d,nN k hk d,nN l hk d,nN m hk d,nN n hk d⟩,(ho i f).below hw⟩⟩
def aF.At.but{A B:U}{R:Nat}{f:aF}{ts:List ah}{q:af}(h:f.At ts q A)(hk:Kept (λx=>x≠R) A B){n:Nat}(hn:f.New n)(hR:R<n)(hq:q.At B):f.At ts q B:=
 ⟨hq,h.cols.but hk (λa e=>by have:=hn.ca a e;omega),h.rows.but hk (λa e=>by have:=hn.ra a e;omega),h.conc.but hk (λa e=>by have:=hn.na a e;omega),h.parts.but hk (λa e=>by have:=hn.pa a e;omega),h.nl,h.pl⟩
def sw:∀(l:List Nat) (m:Nat),m<=bJ->l.foldl bV m<=bJ
 |[],_,h=>h
 |a::l,m,_=>sw l _ (yg m a)
theorem afX{src:List Int}(hc:ji ts=T)(ha:aS src (N ts)=T)(kU:∀c∈aN cs,0<=c/\c<ak ts src):1<=kQ ts src cs/\kQ ts src cs<=1000000:=by
 unfold kQ;split
 .omega
 rename_i h1;split
 .omega
 split
 .omega
 rename_i o2;have e:N cs=1:=by omega
 have a:∀x∈aH (E cs 0 cz),x∈aN cs:=by
  match cs,e with
  |[c],_=>intro x f;simpa [aN] using f
 have b:=kU (E cs 0 cz).left (a _ (by unfold aH;split <;> simp));have g:=Cc hc ha b.1 b.2;split
 .omega
 .rename_i hcn
  have d:=kU (E cs 0 cz).right (a _ (by unfold aH;grind));have i:=Cc hc ha d.1 d.2;omega
def mP(kind:Int)(ps:List aG):Bool:=ps.all λp=>dZ p.kind==decide (kind=10)
theorem VT{kind:Int}{ps:List aG}{k:Nat}(hk:k<N ps)(h:(dZ (E ps k bF).kind==decide (kind=10))=F):mP kind ps=false:=by unfold mP;grind
theorem VU{kind:Int}{ps:List aG}(h:∀i,i<N ps->(dZ (E ps i bF).kind==decide (kind=10))=T):mP kind ps=true:=by unfold mP;rw[Qk];intro p a;obtain⟨i,b,rfl⟩:=Qq a;grind
theorem N7(kind:Int)(ao:Option Addr)(cap:Nat)(ps:List aG)(w:U)(hp:bY w ao ps) :
  Cb 109 #[I J kind,Z ao (N ps) cap] w (Wl (mP kind ps)):=by
 have hl:=hp.1;have u:Y3 _:=@VT kind ps;have Q:Y3 _:=@VU kind ps;have HP:Y3 _:=hp;generalize mP kind ps=KL at*;clear hp;go_enter Tryz.func109,Tryz.ntmps109;go_wp2;go_loopw [9] (λP wr=>∃k:Nat,k<=N ps/\P=I J k/\Y3 (∀j,j<k->(dZ (E ps j bF).kind==decide (kind=10))=T)/\Bw w wr) (λP _=>N ps-(intOf P).toNat)
 case atStart=>exact⟨0,QW _,rfl,λj hj=>absurd hj (by omega),Qm _ _⟩
 case round=>
  obtain⟨k,hk,rfl,r,l⟩:=hrel;by_cases q:k<N ps
  .obtain⟨⟨b,off,rfl,W,X,c2,c3,c4,c5⟩,_⟩:=HP.o.2 k q;obtain⟨d0,d1,d2,d3,d4,d5⟩:=JY l W X c2 c3 c4 c5;have a:=Zh (u.o q);have v:Y3 (∀p,p=E ps k bF->(dZ p.kind==decide (kind=10))=T->∀j,j<k+1->(dZ (E ps j bF).kind==decide (kind=10))=T):=λp hp h j hj=>by
    rcases XV j k with S|S
    .exact r.o j S
    grind
   clear W X c2 c3 c4 c5 u r;obtain⟨p,hp⟩:=eY (E ps k bF);rw[<-hp]at d0 d1 d2 d3 d4 d5 a;have y:=Zh hp;clear hp;obtain⟨pk,D,G,⟨pa,pc,px⟩,K,L⟩:=p;unfold ae.val at*;simp only at*;have z:=λx=>BX pk x;obtain⟨t,m⟩:=eY (dZ pk);rw[<-m]at a z;have A:=Zh m;clear m;have n:Bw w (wr.alloc (EP #[I J pk,I Vo (D:Int),I Vo (G:Int),Z pa (N px) pc,I Vo (K:Int),I Vo (L:Int)] 100)):=az l (dN _ _);have R:=Zh n;clear n;have g:decide (kind=10)=(kind==10):=by rw[ZV];simp
   by_cases f:(t==decide (kind=10))=T
   .have B:(!(t==(kind==10)))=false:=by rw[<-g,f];rfl
    clear g;have HN:=Zh (v.o _ y.o (by rw[<-A.o];exact f));clear f v a;go_wp2_with fail;refine(z _).mono ?_;rintro e w2 ⟨rfl,rfl⟩;go_wp2;go_roundw
    case rel=>exact⟨k+1,by omega,by go_num,HN.o,R.o⟩
    case measure=>simp[intOf];omega
   .have d:(t==decide (kind=10))=false:=by simpa using f
    have C:=Zh (a.o d);have B:(!(t==(kind==10)))=true:=by rw[<-g,d];rfl
    clear g;clear f d v a;go_wp2_with fail;refine(z _).mono ?_;rintro e w2 ⟨rfl,rfl⟩;go_wp2;go_ret;exact⟨Qd C.o.symm,R.o⟩
  .have C:=Zh (Q.o (λi hi=>r.o i (by omega)));clear u Q r;go_wp2;go_ret;exact⟨Qd C.o.symm,l⟩
def aiy(ok:Ok ts q)(hk:k<N q.wh):aO (eF ts q.src.xs (E q.wh k lz).cs)<18446744073709551616:=
 (pI ok.cat ok.src (ok.cols k hk)).lt ok.small
def xC(f:aF)(ts:List ah)(q:af)(la:Option Addr)(lc:Nat)(l:List Int)(s:Nat)(w:U)(ok:Ok ts q)(hf:f.At ts q w)(hl:IntsAt w la l)(hs:s<18446744073709551616)(h:kT ts q l s=T) :
  Cb 158 #[FL (f.cells ts q),Z la (N l) lc,I Vo (s:Int)] w (Wl T):=by
 obtain⟨w1,P,a,Q⟩:=aL w (f.cells ts q) 90;have q1:=Q.at 1;have A:UK w1 (aD (M (H w)) 11)=O (Z f.na (N q.wh) f.nc):=by rw[<-hf.nl];exact Q.cell 11
 have B:Y3 _:=hf.conc.below a;have C:Y3 _:=Qo a hl;have aa:=hl.1;have ae:N q.wh<=1152921504606846976:=hf.query.wh.1;have Al:Y3 _:=kI ts q;have qL:Y3 _:=a;obtain⟨r,d⟩:∃r:Nat->Nat,r=λk=>aO (eF ts q.src.xs (E q.wh k lz).cs):=⟨_,rfl⟩;have m:Y3 (∀i,i<N l->(if i=0 then -1 else E l (i-1) 0)<E l i 0/\E l i 0<N q.wh/\aZ s (r (E l i 0).toNat)=T):=λi hi=>by have b:=Qk.1 h i (ZZ.2 hi);rw[d];simp only[Qj,ZW]at b;exact⟨b.1.1,b.1.2,b.2⟩
 have D:Y3 (∀k,k<N q.wh->E (bT ts q) k 0=r k/\r k<18446744073709551616):=λk R=>by rw[d];exact⟨DR ts q R,aiy ok R⟩
 generalize bT ts q=CL at*;generalize N q.wh=nw at*;generalize f.cells ts q=FC at*;clear d h Q hf hl ok a;go_enter Tryz.func158,Tryz.ntmps158;go_wp2;clear P;go_loopw [7,12] (λlv X wr=>∃k:Nat,k<=N l/\X=I J k/\(∃last:Int,lv=I J last/\-1<=last/\Y3 (last=if k=0 then -1 else E l (k-1) 0))/\wr=w1) (λ_ X _=>N l-(intOf X).toNat)
 case atStart=>exact⟨0,QW _,rfl,⟨-1,rfl,by omega,rfl⟩,rfl⟩
 case round=>
  obtain⟨k,R,rfl,⟨last,rfl,S,UQ⟩,rfl⟩:=hrel;by_cases j:k<N l
  .obtain⟨lb,lo,rfl,t⟩:=Qg C.o j;have G:=t k j;obtain⟨b,h2,z⟩:=m.o k j;rw[<-UQ.o]at b;obtain⟨c,g⟩:=eY (E l k 0)
   rw[<-g]at G b h2 z;have JQ:Y3 (c=if k+1=0 then -1 else E l (k+1-1) 0):=by show _=_;rw[ZU (by omega)];exact g
   clear t UQ m g;obtain⟨n,rfl⟩:=XT (show 0<=c by omega);have K:n<nw:=by omega
   obtain⟨u,W⟩:=D.o n K;obtain⟨cb,co,v,y⟩:=fH.get B.o (show n<N CL by rw[Al.o];exact K);have L:=y n (by rw[Al.o];exact K);rw[u]at L;rw[Xk]at z;rw[v]at A;have p:=oQ s _ hs W wr;rw[z]at p;clear y u v z;go_wp2_with fail;refine p.mono ?_;rintro e w2 ⟨rfl,rfl⟩;go_wp2;go_roundw
   case rel=>exact⟨k+1,by omega,by go_num,⟨n,rfl,by omega,JQ.o⟩,trivial⟩
   case measure=>simp[intOf];omega
  .go_wp2;go_ret;exact⟨Qd rfl,qL.o⟩
def ab5(ts:List ah)(q:af)(hk:k<N xs):aO (iw ts q (xs.take (k+1)))=aO (iw ts q (xs.take k))|||2 ^ aC ts q.src.xs (E xs k 0):=by
 have e:E xs k 0=xs[k]:=by simp[List.getD,hk]
 unfold iw;rw[Qh hk,Qi,ED,e];show _|||aO [(aC ts q.src.xs xs[k]:Int)]=_;rw[wS]
def jI(ts:List ah)(q:af)(xs:List Int):Prop:=∀c∈xs,0<=c/\c<ak ts q.src.xs
def Am(ok:Ok ts q)(h:jI ts q xs):aY (N q.src.xs) (iw ts q xs):=λx e=>by obtain⟨c,a,rfl⟩:=ZC.1 e;obtain⟨b,d⟩:=h c a;have:=(ZQ ok.cat ok.src b d).1;omega
def aap(ok:Ok ts q)(h:jI ts q xs)(k:Nat):aO (iw ts q (xs.take k))<18446744073709551616:=
 (Am ok (λc a=>h c (XP a))).lt ok.small
def D9(ok:Ok ts q):(N (jm ts q):Int)=ak ts q.src.xs:=by have:=ZO ok.cat ok.src (N q.src.xs) (Qn _);rw[QX]at this;exact this
def Hz(ok:Ok ts q)(h0:0<=c)(h1:c<ak ts q.src.xs):aC ts q.src.xs c<N q.src.xs:=(ZQ ok.cat ok.src h0 h1).1
theorem xD(c:aI)(w:U) :
  Cb 155 #[c.val] w (Wl (!c.const&&decide (c.op≠2))):=by
 obtain⟨b,d,left,a,right⟩:=c;have e:=dN w (EP #[Wl b,I J d,I J left,Wl a,I J right] 69);have f:=Zh e;clear e;have g:Y3 (decide (d≠2)=(d != 2)):=by show _=_;rw[ZV];simp
 unfold aI.val
 cases a with
 |false =>
  go_enter Tryz.func155,Tryz.ntmps155;go_wp2;go_ret;exact⟨Qd (by grind),f.o⟩
 |true =>
  go_enter Tryz.func155,Tryz.ntmps155;go_wp2;go_ret;exact⟨rfl,f.o⟩
def Ao(w:U)(xs:List Int)(t:TypeId)(hl:N xs<=1000):IntsAt (w.alloc (EP (xs.map (Value.int J)).toArray t)) (O (aD (M (H w)) 0)) xs:=by refine⟨by omega,λi a=>⟨M (H w),0,rfl,?_⟩⟩;simp only[World.cell?,pR w _];simp[List.getD,a]
theorem vV(c:aI)(w:U) :
  Calls V 105 #[c.val] w λe z=>∃b,e=FN (Z (O (aD b 0)) (N (aH c)) (N (aH c)))/\IntsAt z (O (aD b 0)) (aH c)/\Bw w z:=by
 have q:Y3 _:=λx=>xD c x;obtain⟨C,f,g,t⟩:=aL w #[Wl c.not,I J c.op,I J c.left,Wl c.const,I J c.right] 69;obtain⟨u,v,k,y,m⟩:=t.k5;have i:Y3 (aH c=if (!c.const&&decide (c.op≠2))=T then [c.left,c.right] else [c.left]):=by show _=_;unfold aH;grind
 have j:=q.o C;generalize (!c.const&&decide (c.op≠2))=B at*;generalize aH c=CC at*;clear q t;obtain⟨D,G,left,n,right⟩:=c;unfold aI.val at*;simp only at*;have r:=Zh g;clear g
 cases B with
 |true =>
  obtain rfl:CC=[left,right]:=i.o;have l:Y3 (∀x:U,IntsAt (x.alloc (EP #[I J left,I J right] 3)) (O (aD (M (H x)) 0)) [left,right]):=λx=>Ao x [left,right] _ (by simp);clear i;go_enter Tryz.func105,Tryz.ntmps105;go_wp2_with fail;refine j.mono ?_;clear j f;rintro e p ⟨rfl,a⟩;obtain⟨A,K⟩:=nH a k m;have d:=Zh (az (az r.o a) (dN p (EP #[I J left,I J right] 3)));clear a u v k y m;go_wp2;go_ret;exact⟨_,rfl,l.o _,d.o⟩
 |false =>
  obtain rfl:CC=[left]:=i.o;have l:Y3 (∀x:U,IntsAt (x.alloc (EP #[I J left] 3)) (O (aD (M (H x)) 0)) [left]):=λx=>Ao x [left] _ (by simp);clear i;go_enter Tryz.func105,Tryz.ntmps105;go_wp2_with fail;refine j.mono ?_;clear j f;rintro e p ⟨rfl,a⟩;have A:=cB a k;have d:=Zh (az (az r.o a) (dN p (EP #[I J left] 3)));clear a u v k y m;go_wp2;go_ret;exact⟨_,rfl,l.o _,d.o⟩
def tX(f:aF)(ts:List ah)(q:af)(xa:Option Addr)(xc:Nat)(xs:List Int)(w:U)(ok:Ok ts q)(hf:iU w f.ca (jm ts q))(hx:IntsAt w xa xs)(hxs:jI ts q xs) :
  Cb 97 #[FL (f.cells ts q),Z xa (N xs) xc] w (I Vo ((aO (iw ts q xs):Nat):Int)):=by
 obtain⟨D,i⟩:∃x,x=w.alloc (EP (f.cells ts q) 90):=⟨_,rfl⟩;have g:Bw w D:=by rw[i];exact dN _ _
 have ve:GB D (M (H w)) 90 (f.cells ts q):=by rw[i];exact pR _ _
 have q7:=ve.at 7;have EK:=i.symm;have ry:Y3 _:=hf.below g;have K:Y3 _:=Qo g hx;have ag:=hx.1;have ai:=hf.1;have u:Y3 (∀k,k<N xs->aO (iw ts q (xs.take (k+1)))=aO (iw ts q (xs.take k))|||2 ^ aC ts q.src.xs (E xs k 0)):=λk G=>ab5 ts q G;have zk:Y3 (∀k,aO (iw ts q (xs.take k))<18446744073709551616):=λk=>aap ok hxs k;have v:Y3 (aO (iw ts q (xs.take (N xs)))=aO (iw ts q xs)):=by show _=_;rw[QX]
 have L8:Y3 (aO (iw ts q (xs.take 0))=0):=rfl;have L:Y3 (∀k,k<N xs->∃n:Nat,E xs k 0=n/\n<N (jm ts q)/\(E (jm ts q) n (0,0)).1=aC ts q.src.xs (E xs k 0)/\aC ts q.src.xs (E xs k 0)<64):=λk G=>by obtain⟨h0,h1⟩:=hxs _ (Xl G (d:=0));have h2:=D9 ok;have h3:=Hz ok h0 h1;have h4:=ok.small;refine⟨(E xs k 0).toNat,by omega,by omega,rfl,by omega⟩
 have qL:=Zh g;obtain⟨r,a⟩:∃r:Nat->Nat,r=λk=>aO (iw ts q (xs.take k)):=⟨_,rfl⟩;have FD:Y3 (∀k,k<N xs->r (k+1)=r k|||2 ^ aC ts q.src.xs (E xs k 0)):=by rw[a];exact u.o
 have P:Y3 (∀k,r k<18446744073709551616):=by rw[a];exact zk.o
 have Q:Y3 (r (N xs)=aO (iw ts q xs)):=by rw[a];exact v.o
 have S:Y3 (r 0=0):=by rw[a];exact L8.o
 generalize aO (iw ts q xs)=R at*;generalize aC ts q.src.xs=SN at*;generalize jm ts q=CS at*;generalize f.cells ts q=FC at*;clear a u zk v L8 i ve g ok hxs hf hx;go_enter Tryz.func97,Tryz.ntmps97;go_wp2;clear EK;go_loopw [5,10] (λsv iv wr=>∃k:Nat,k<=N xs/\iv=I J k/\(∃s:Nat,sv=I Vo (s:Int)/\Y3 (s=r k))/\Bw D wr) (λ_ iv _=>N xs-(intOf iv).toNat)
 case atStart=>exact⟨0,QW _,rfl,⟨0,rfl,S.o.symm⟩,Qm _ _⟩
 case round=>
  obtain⟨k,G,rfl,⟨s,rfl,A⟩,b⟩:=hrel;by_cases l:k<N xs
  .obtain⟨xb,xo,rfl,zh⟩:=Qg K.o l;have W:=cB b (zh k l);obtain⟨n,hn,aa,B,C⟩:=L.o k l;have HT:=Zh (FD.o k l);have X:s<18446744073709551616:=by rw[A.o];exact P.o k
   obtain⟨cb,co,JO,c0,_⟩:=ry.o.2 n aa;obtain⟨d0,ae⟩:=nH b c0 q7;rw[JO]at ae;rw[hn]at W;rw[B]at d0;rw[<-A.o]at HT;clear zh c0 JO B A;generalize SN (E xs k 0)=m at*;clear hn;obtain⟨wa,t⟩:∃x,wr.alloc (EP #[I J (m:Int)] 3)=x:=⟨_,rfl⟩;have y:=yJ (M (H wr)) m wa (by rw[<-t];simp) C;obtain⟨wb,j⟩:∃x,wa.alloc (EP #[I Vo (s:Int),I Vo ((2 ^ m:Nat):Int)] 86)=x:=⟨_,rfl⟩;have hp:2 ^ m<18446744073709551616:=XO (n:=64) (by omega) C;have z:=lX (M (H wa)) s (2 ^ m) wb (by rw[<-j];simp) (by rw[<-j];simp) X hp;have Dt:Y3 (Bw D wb):=by show Below _ _ _;rw[<-j,<-t];exact az (az b (dN _ _)) (dN _ _)
   generalize 2 ^ m=p at*;go_wp2_with fail;refine y.mono ?_;clear y;rintro e w2 ⟨rfl,rfl⟩;go_wp2_with fail;refine z.mono ?_;clear z;rintro e w3 ⟨rfl,rfl⟩;clear t j;go_wp2;go_roundw
   case rel=>exact⟨k+1,by omega,by go_num,⟨s|||p,rfl,HT.o.symm⟩,Dt.o⟩
   case measure=>simp[intOf];omega
  .obtain rfl:k=N xs:=by omega
   obtain⟨HV,HB⟩:=aJ (A.o.trans Q.o) (az qL.o b);clear A b;go_wp2;go_ret;exact⟨Qe (by rw[HV.o]),HB.o⟩
def Im(f:aF)(ts:List ah)(q:af):∃v0 e g v3 v4 v5 i j k v9 a b d,f.cells ts q=#[v0,e,g,v3,v4,v5,i,j,k,v9,a,b,d]/\v0=q.src.val/\e=Z q.gI (N q.wh) q.bP/\g=Wl q.group/\v3=q.keys.val/\v4=q.sums.val/\v5=q.bE.val/\i=q.ord.val/\
  j=Z f.ca (N (jm ts q)) f.cc/\k=I Vo ((2 ^ (N q.src.xs)-1:Nat):Int)/\v9=I Vo ((2 ^ (N q.wh)-1:Nat):Int)/\a=Z f.ra (N q.src.xs) f.rc/\b=Z f.na f.nl f.nc/\d=Z f.pa f.pl f.pc:=
 ⟨_,_,_,_,_,_,_,_,_,_,_,_,_,rfl,rfl,rfl,rfl,rfl,rfl,rfl,rfl,rfl,rfl,rfl,rfl,rfl,rfl⟩
theorem Sm(f:aF)(ts:List ah)(q:af)(p:aG)(w:U) :
  Cb 163 #[FL (f.cells ts q),FL p.cells] w (Wl (qE q p.d)):=by
 obtain⟨y,z,k,i⟩:=aL w ((f.cells ts q)) 90;obtain⟨P,A,l,m⟩:=aL y p.cells 100;have g:=l;have j:=az k g;have n:=i.of (g.block _ i.lt);have D:=n.at 8;have G:=n.at 9;have r:=m;have K:=r.at 1;have L:=r.at 2;have u:Y3 (qE q p.d=(decide (p.sources=2 ^ (N q.src.xs)-1)&&decide (p.clauses=2 ^ (N q.wh)-1))):=rfl;have t:=Zh j;generalize qE q p.d=B at*;generalize f.cells ts q=FC at*;generalize p.cells=PC at*;generalize 2 ^ (N q.src.xs)-1=s at*;generalize 2 ^ (N q.wh)-1=c at*;generalize p.sources=a at*;generalize p.clauses=b at*;by_cases C:a=s
 .subst C;have e:Y3 (B=((b:Int)==(c:Int))):=by show _=_;rw[u.o,Qx rfl,Z8,ZV,ZW,beq_iff_eq];omega
  go_enter Tryz.func163,Tryz.ntmps163;go_wp2;go_ret;exact⟨Qd e.o.symm,t.o⟩
 .have e:Y3 (B=F):=by grind
  have v:((a:Int)==(s:Int))=false:=by rw[XW];omega
  go_enter Tryz.func163,Tryz.ntmps163;go_wp2;go_ret;exact⟨Qd e.o.symm,t.o⟩
def Cw(f:aF)(ts:List ah)(q:af)(n:ai)(l r:aG)(w:U)(ok:Ok ts q)(hf:f.At ts q w)(hn:n.cl.At w)(hl:l.sources<=bJ)(hr:r.sources<=bJ)(h:pX ts q n l.sources r.sources=T) :
  Cb 159 #[FL (f.cells ts q),FL n.cells,FL l.cells,FL r.cells] w (Wl T):=by
 obtain⟨v0,v1,v2,v3,v4,v5,v6,v7,v8,v9,aa,ag,aj,X,-⟩:=Im f ts q;obtain⟨w1,L,P,y⟩:=aL w ((f.cells ts q)) 90;obtain⟨w2,ak,Q,z⟩:=aL w1 n.cells 102;obtain⟨w3,au,R,A⟩:=aL w2 l.cells 100;obtain⟨w4,av,S,W⟩:=aL w3 r.cells 100;have m:=S;have p:=az R m;have t:=az Q p;have g:=az P t;have jJ:=y.of (t.block _ y.lt);have qU:=z.of (p.block _ z.lt);have qg:=qU.at 4;have C:=A.of (m.block _ A.lt);have Sn:=C.at 1;have D:=W;have Sq:=D.at 1;obtain⟨fZ,iy,jd,iK,iL,je,jf,jR,jy,jA,dS,eP,dU⟩:=jJ.oh (by rw[X];rfl);have i:l.sources<18446744073709551616:=by unfold bJ at hl;omega
 have j:r.sources<18446744073709551616:=by unfold bJ at hr;omega
 unfold pX at h;rw[Qj,ZW]at h;obtain⟨B,h2⟩:=h;have u:Y3 (∀x,Bw w4 x->Cb 158 #[FL (f.cells ts q),Z n.cl.ad (N n.cl.xs) n.cl.cap,I Vo ((l.sources|||r.sources:Nat):Int)] x (Wl T)):=λx hb=>
  xC f ts q n.cl.ad n.cl.cap n.cl.xs _ x ok (hf.below (az g hb)) (Qo (az g hb) hn) (XQ (n:=64) i j) h2
 have v:=LY l.sources r.sources i j w4;have G:Y3 (∀(x:U) (b:Nat),_->_->_):=λx b h0 B=>lX b l.sources r.sources x h0 B i j;rw[Qw (λe=>e B)]at v;have HC:=Zh g;rw[X]at u L ⊢;obtain⟨nk,nl,nr,ns,⟨na,nc,nx⟩,ny,no⟩:=n;unfold ae.val at*;simp only at*;generalize ai.cells _=NC at*;generalize l.cells=LC at*;generalize r.cells=RC at*;generalize l.sources=a at*;generalize r.sources=b at*;clear B h2;go_enter Tryz.func159,Tryz.ntmps159;go_wp2_with fail;refine v.mono ?_;rintro e w5 ⟨rfl,rfl⟩;go_wp2;refine wH w5 λd=>?_;refine wA6 0 d ?_;refine sN 6 d ?_;refine wR 7 λK k=>?_;go_simp;refine oA k d λd=>?_;refine wR 8 λK k=>?_;go_simp;refine XX (G.o _ (M (H w5)) (by simp) (by simp)) ?_;rintro e w6 ⟨rfl,rfl⟩;refine k.o _ _ d λd=>?_;refine wR 9 λK k=>?_;go_simp;refine XX (u.o _ d) ?_;rintro e w7 ⟨rfl,mO⟩;refine oT k d mO λd=>?_;refine wR 10 λK k=>?_;go_simp;refine k.o _ _ d λd=>?_;refine wD ?_;try simp only[pU]
 have FH:=Zh (az HC.o d);go_wp2;go_ret;exact⟨Qd rfl,FH.o⟩
def X9:=@Im
theorem afx(ts:List ah)(src:List Int)(cs:List aI)(a b:Nat):GA ts src cs a b =
  if (bQ cs).2.2=F then (0,0,F)
  else if (aZ a (2 ^ aC ts src (bQ cs).1)&&aZ b (2 ^ aC ts src (bQ cs).2.1))=T then ((bQ cs).1,(bQ cs).2.1,T)
  else if (aZ a (2 ^ aC ts src (bQ cs).2.1)&&aZ b (2 ^ aC ts src (bQ cs).1))=T then ((bQ cs).2.1,(bQ cs).1,T)
  else (0,0,F):=by unfold GA bQ;grind
theorem Mh{ts:List ah}{q:af}(ok:Ok ts q){k:Nat}(hk:k<N q.wh)(h:(bQ (E q.wh k lz).cs).2.2=T):jI ts q [(bQ (E q.wh k lz).cs).1]/\jI ts q [(bQ (E q.wh k lz).cs).2.1]:=by
 have f:=ok.some k hk;have g:=ok.cols k hk;generalize (E q.wh k lz).cs=cs at*;unfold bQ at h ⊢;by_cases e:N cs > 1∨(E cs 0 cz).op≠0∨(E cs 0 cz).not=T∨(E cs 0 cz).const=T
 .rw[Zt e]at h;cases h
 rw[ZU e];have d:∀x,x∈aH (E cs 0 cz)->x∈aN cs:=λx a=>Z6.2 ⟨_,Xl f,a⟩;have i:(E cs 0 cz).op=0:=by omega
 have j:(E cs 0 cz).const=false:=by grind
 have b:aH (E cs 0 cz)=[(E cs 0 cz).left,(E cs 0 cz).right]:=by unfold aH;grind
 rw[b]at d;refine⟨λc a=>?_,λc a=>?_⟩
 .grind
 .rw[Zg]at a;rw[a];exact g _ (d _ (by simp))
theorem uI(ca:Option Addr)(cc:Nat)(cs:List aI)(w:U)(hx:aW w ca cs)(h0:0<N cs) :
  Cb 99 #[FL #[Z ca (N cs) cc]] w (.tuple #[I J (bQ cs).1,I J (bQ cs).2.1,Wl (bQ cs).2.2]):=by
 obtain⟨B,co,rfl,p,q,r,t,u⟩:=hx.2 0 h0;have y:=hx.1;rw[Nat.zero_mul,Xb]at p q r t u;have d:Y3 (bQ cs=if (N cs) > 1∨(E cs 0 cz).op≠0∨(E cs 0 cz).not=T∨(E cs 0 cz).const=T then (0,0,F) else ((E cs 0 cz).left,(E cs 0 cz).right,T)):=rfl;generalize bQ cs=EC at*;generalize E cs 0 cz=c at*;obtain⟨i,k,left,a,right⟩:=c;simp only at*;obtain⟨C,D,j,b⟩:=aL w #[Z (O (aD B co)) (N cs) cc] 73;obtain⟨Q,G,m,n⟩:=aL C #[Wl i,I J k,I J left,Wl a,I J right] 69;have e:=m;have l:=az j e;have z:=b.of (e.block _ b.lt);have L:=z.at 0;have A:=n;obtain⟨R,S,W,X,qg⟩:=A.k5;have P:=b.at 0;obtain⟨d0,d1,d2,d3,d4⟩:=qA j p q r t u;have f:=Zh l;by_cases K:N cs > 1
 .obtain rfl:EC=(0,0,F):=by rw[d.o,Zt (.inl K)]
  go_enter Tryz.func99,Tryz.ntmps99;go_wp2;go_ret3;exact⟨rfl,f.o⟩
 by_cases v:k≠0
 .obtain rfl:EC=(0,0,F):=by rw[d.o,Zt (.inr (.inl v))]
  have g:(k != 0)=true:=by rw[bne_iff_ne];exact v
  go_enter Tryz.func99,Tryz.ntmps99;go_wp2;go_ret3;exact⟨rfl,f.o⟩
 have g:k=0:=by omega
 subst g
 cases i with
 |true =>
  obtain rfl:EC=(0,0,F):=by rw[d.o,Zt (.inr (.inr (.inl rfl)))]
  go_enter Tryz.func99,Tryz.ntmps99;go_wp2;go_ret3;exact⟨rfl,f.o⟩
 |false =>
  cases a with
  |true =>
   obtain rfl:EC=(0,0,F):=by rw[d.o,Zt (.inr (.inr (.inr rfl)))]
   go_enter Tryz.func99,Tryz.ntmps99;go_wp2;go_ret3;exact⟨rfl,f.o⟩
  |false =>
   obtain rfl:EC=(left,right,T):=by rw[d.o,ZU];grind
   go_enter Tryz.func99,Tryz.ntmps99;go_wp2;go_quiet (fail);go_wp2;go_ret3;exact⟨rfl,Zr f.o _⟩
def Oz(ts:List ah)(q:af)(hk:k<N cs):aO (iw ts q (aN (cs.take (k+1))))=aO (iw ts q (aN (cs.take k)))|||aO (iw ts q (aH (E cs k cz))):=by rw[Kh hk];unfold iw;rw[Qi,ED]
def OA(h:c∈aN (cs.take k)):c∈aN cs:=by obtain⟨x,a,b⟩:=Z6.1 h;exact Z6.2 ⟨x,XP a,b⟩
def OB(f:aF)(ts:List ah)(q:af)(ca:Option Addr)(cc:Nat)(cs:List aI)(w:U)(ok:Ok ts q)(hf:iU w f.ca (jm ts q))(hx:aW w ca cs)(kU:jI ts q (aN cs)) :
  Cb 64 #[FL (f.cells ts q),FL #[Z ca (N cs) cc]] w (I Vo ((aO (eF ts q.src.xs cs):Nat):Int)):=by
 obtain⟨v0,v1,v2,v3,v4,v5,v6,v7,v8,v9,aj,ak,au,cK,-⟩:=X9 f ts q;obtain⟨w1,av,ax,A⟩:=aL w ((f.cells ts q)) 90;obtain⟨w2,aQ,ay,aA⟩:=aL w1 #[Z ca (N cs) cc] 73;have z:=ay;have p:=az ax z;have jJ:=A.of (z.block _ A.lt);have qU:=aA;have nQ:=qU.at 0;obtain⟨fZ,iy,jd,iK,iL,je,jf,jR,jy,jA,dS,eP,dU⟩:=jJ.oh (by rw[cK];rfl);have Dv:=Zh ((hx.below p).2);have xz:Y3 (∀x d n k,k<N cs->Bw w2 x->IntsAt x d (aH (E cs k cz))->Calls V 97 #[FL (f.cells ts q),Z d (N (aH (E cs k cz))) n] x λe w'=>e=FN (I Vo ((aO (iw ts q (aH (E cs k cz))):Nat):Int))/\Bw x w'):=
  λx d n k y hb h=>tX f ts q d n _ x ok (hf.below (az p hb)) h (λc B=>kU c (Z6.2 ⟨_,Xl y,B⟩))
 have C:Y3 (∀x c,_):=λx c=>vV c x;have D:Y3 (∀k,k<N cs->aO (iw ts q (aN (cs.take (k+1))))=aO (iw ts q (aN (cs.take k)))|||aO (iw ts q (aH (E cs k cz)))):=λk y=>Oz ts q y;have zk:Y3 (∀k,aO (iw ts q (aN (cs.take k)))<18446744073709551616):=λk=>(Am ok (λc B=>kU c (OA B))).lt ok.small;have JM:Y3 (∀k,k<N cs->aO (iw ts q (aH (E cs k cz)))<18446744073709551616):=λk y=>(Am ok (λc B=>kU c (Z6.2 ⟨_,Xl y,B⟩))).lt ok.small;have G:Y3 (aO (iw ts q (aN (cs.take (N cs))))=aO (eF ts q.src.xs cs)):=by show _=_;rw[QX];rfl
 have L8:Y3 (aO (iw ts q (aN (cs.take 0)))=0):=rfl;have aP:=hx.1;have HC:=Zh p;obtain⟨l,g⟩:∃l:Nat->Nat,l=λk=>aO (iw ts q (aN (cs.take k))):=⟨_,rfl⟩;obtain⟨v,t⟩:∃v:aI->Nat,v=λc=>aO (iw ts q (aH c)):=⟨_,rfl⟩;have FD:Y3 (∀k,k<N cs->l (k+1)=l k|||v (E cs k cz)):=by rw[g,t];exact D.o
 have L:Y3 (∀k,l k<18446744073709551616):=by rw[g];exact zk.o
 have P:Y3 (∀k,k<N cs->v (E cs k cz)<18446744073709551616):=by rw[t];exact JM.o
 have Q:Y3 (l (N cs)=aO (eF ts q.src.xs cs)):=by rw[g];exact G.o
 have S:Y3 (l 0=0):=by rw[g];exact L8.o
 have W:Y3 (∀x d n k,k<N cs->Bw w2 x->IntsAt x d (aH (E cs k cz))->Cb 97 #[FL #[v0,v1,v2,v3,v4,v5,v6,v7,v8,v9,aj,ak,au],Z d (N (aH (E cs k cz))) n] x (I Vo ((v (E cs k cz):Nat):Int))):=by rw[t,<-cK];exact xz.o
 rw[cK]at av ⊢;generalize aO (eF ts q.src.xs cs)=R at*;go_enter Tryz.func64,Tryz.ntmps64;go_wp2;go_loopw [5,11] (λsv iv wr=>∃k:Nat,k<=N cs/\iv=I J k/\(∃s:Nat,sv=I Vo (s:Int)/\Y3 (s=l k))/\Bw w2 wr) (λ_ iv _=>N cs-(intOf iv).toNat)
 case atStart=>exact⟨0,QW _,rfl,⟨0,rfl,S.o.symm⟩,Qm _ _⟩
 case round=>
  obtain⟨k,y,rfl,⟨s,rfl,hs⟩,u⟩:=hrel;by_cases j:k<N cs
  .obtain⟨cb,co,rfl,c0,c1,c2,c3,c4⟩:=Dv.o k j;obtain⟨d0,d1,d2,d3,d4⟩:=qA u c0 c1 c2 c3 c4;have HT:=Zh (FD.o k j);have X:s<18446744073709551616:=by rw[hs.o];exact L.o k
   have aa:=P.o k j;have ae:Y3 (∀x d n,_->_->_):=λx d n hb h=>W.o x d n k j hb h;rw[<-hs.o]at HT;generalize E cs k cz=c at*;have ag:=λx=>C.o x c;generalize v c=m at*;generalize aH c=CC at*;obtain⟨wb,aR,aB,aC⟩:=aL wr #[Wl c.not,I J c.op,I J c.left,Wl c.const,I J c.right] 69;obtain⟨b0,b1,b2,b3,b4⟩:=aC.k5;have r:=az u aB;obtain⟨j0,j1,j2,j3,j4,j5,j6,j7⟩:=wK r fZ iy jd iK iL je jf jR;obtain⟨j8,j9,aS,aT,aU⟩:=qA r jy jA dS eP dU;have Dt:=Zh r;obtain⟨aV,aX,aD,aY,aZ⟩:=c;unfold aI.val at*;simp only at*;go_wp2;refine wH wb λa=>?_;refine wA3 0 a ?_;refine wR 3 λK i=>?_;go_simp;refine XX (ag _) ?_;rintro e w3 ⟨b,rfl,aG,aK⟩;refine oT i a aK λa=>?_;refine wR 4 λK i=>?_;go_simp;refine XX (ae.o _ _ _ (az Dt.o a) aG) ?_;rintro e w4 ⟨rfl,aM⟩;refine oT i a aM λa=>?_;refine wR 5 λK i=>?_;go_simp;refine oA i a λa=>?_;refine wR 6 λK i=>?_;go_simp;refine XX (lX (M (H w4)) s m _ (by simp) (by simp) X aa) ?_;rintro e w5 ⟨rfl,rfl⟩;refine i.o _ _ a λa=>?_;refine wR 7 λK i=>?_;go_simp;refine i.o _ _ a λa=>?_;refine wD ?_;try simp only[pU]
   have ai:=Zh (az Dt.o a);go_wp2;go_roundw
   case rel=>exact⟨k+1,by omega,by go_num,⟨s|||m,rfl,HT.o.symm⟩,ai.o⟩
   case measure=>simp[intOf];omega
  .obtain rfl:k=N cs:=by omega
   obtain⟨HV,HB⟩:=aJ (hs.o.trans Q.o) (az HC.o u);go_wp2;go_ret;exact⟨Qe (by rw[HV.o]),HB.o⟩
def CQ(k:Int):Int:=if k=0∨k=1 then 0 else if 3<=k/\k<=5 then 2 else 1
def iX(k:Int):Array Value:=#[I J (CQ k),Wl (decide (k=1)),Wl (decide (2<=k/\k<=5)),Wl (decide (k=4∨k=5)),Wl (decide (k=6))]
def pE:List Value:=(List.range 11).flatMap λ(k:Nat)=>(iX (k:Int)).toList
def bR(w:U)(g:Nat):Prop:=∀j u,pE[j]? = O u->UK w (aD g j)=O u
def bR.below{w w':U}{g:Nat}(hb:Bw w w')(h:bR w g):bR w' g:=λj u a=>cB hb (h j u a)
theorem bR.get{w:U}{g:Nat}(h:bR w g){k:Nat}(hk:k<=10) :
  UK w (aD g (0+k*5))=O (I J (CQ k))/\UK w (aD g (0+k*5+1))=O (Wl (decide ((k:Int)=1)))/\UK w (aD g (0+k*5+2))=O (Wl (decide (2<=(k:Int)/\(k:Int)<=5)))/\
   UK w (aD g (0+k*5+3))=O (Wl (decide ((k:Int)=4∨(k:Int)=5)))/\UK w (aD g (0+k*5+4))=O (Wl (decide ((k:Int)=6))):=by
 have a:∀j,j<5->pE[k*5+j]? = (iX (k:Int)).toList[j]?:=λj b=>by have:=Xq (λ(k:Nat)=>(iX (k:Int)).toList) 5 (λ_=>rfl) 0 (List.range 11) k j (by simp;omega) b;unfold pE;grind
 simp only[ZK];refine⟨h (k*5) _ ?_,h (k*5+1) _ ?_,h (k*5+2) _ ?_,h (k*5+3) _ ?_,h (k*5+4) _ ?_⟩
 .have:=a 0 (by omega);rw[Xb]at this;rw[this];rfl
 .rw[a 1 (by omega)];rfl
 .rw[a 2 (by omega)];rfl
 .rw[a 3 (by omega)];rfl
 .rw[a 4 (by omega)];rfl
theorem tZ{k:Int}(h1:1<=k):CQ k=(arity k:Int):=by unfold CQ arity;grind
def aU(n:ai):List Int:=[n.l,n.r].take (arity n.kind)
def CU(n:ai)(w:U)(hs:bR w 0)(h1:1<=n.kind)(h10:n.kind<=10) :
  Calls V 108 #[FL n.cells] w λe C=>∃b,e=FN (Z (O (aD b 0)) (N (aU n)) 2)/\IntsAt C (O (aD b 0)) (aU n)/\M (H w)<=b/\Bw w C:=by
 obtain⟨f,S,g,v⟩:=aL w n.cells 102;obtain⟨g0,g1,g2⟩:=v.k3;have d:Y3 (aU n=[n.l,n.r].take (arity n.kind)):=rfl;have p:=Zh (tZ h1);have q:Y3 (arity n.kind<=2):=by show _<=_;unfold arity;split <;> (try split) <;> omega
 have t:Y3 (∀k:Nat,k<=10->_):=λk X=>(hs.below g).get X;have y:=Zh g;generalize n.cells=NC at*;generalize aU n=IL at*;obtain⟨nk,j,m,ns,Kq,W,Kr⟩:=n;simp only at*;obtain⟨k,rfl⟩:=XT (show 0<=nk by omega);obtain⟨B,-⟩:=t.o k (by omega);rw[p.o]at B;have z:k<=10:=by omega
 have D:1<=k:=by omega
 generalize arity (k:Int)=ar at*;have G:=q.o;have L:Y3 (∀x:U,IntsAt (x.alloc (EP #[I J j,I J m] 3)) (O (aD (M (H x)) 0)) [j,m]):=λx=>Ao x [j,m] _ (by simp);rw[ZK]at B;have P:¬(11:Int)<=(k:Int):=by omega
 have A:(ar:Int)<=2:=by omega
 go_enter Tryz.func108,Tryz.ntmps108;go_wp2;refine wH f λa=>?_;refine wA4 0 a ?_;refine wA5 5 a ?_;refine wR 4 λK i=>?_;go_simp;refine oA i a λa=>?_;refine wR 10 λK i=>?_;go_simp;refine i.o _ _ a λa=>?_;refine wR 11 λK i=>?_;go_simp;refine i.o _ _ a λa=>?_;refine wD ?_;try simp only[pU]
 have Q:=Zh (az y.o a);have R:Y3 (IntsAt ((f.alloc (EP #[I J j,I J m] 3)).drew) (O (aD (M (H f)) 0)) (IL)):=by show IntsAt _ _ _;rw[d.o];exact IntsAt.take (L.o f.drew) ar
 have u:Y3 (N IL=ar):=by show _=_;rw[d.o,Xu];simp;omega
 go_wp2;go_ret;exact⟨M (H f),by rw[u.o];rfl,R.o,y.o.size,Q.o⟩
def Ja:=@bR.below
def acO(p:aG):p.cells=#[I J p.kind,I Vo (p.sources:Int),I Vo (p.clauses:Int),p.order.val,I Vo (p.size:Int),I Vo (p.cost:Int)]:=rfl
def agc(k:Int)(l r s:Nat):wU k l r s<=bJ:=by
 unfold wU
 repeat' split
 .exact BZ _
 .exact BZ _
 .exact yg _ _
def WQ(p:aG)(ao:Option Addr)(cap:Nat)(ps:List aG)(w:U)(hp:bY w ao ps)(hz:p.size<=bJ)(h1:p.kind≠1->0<N ps)(h2:3<=p.kind->p.kind<=5->1<N ps) :
  Cb 167 #[FL p.cells,Z ao (N ps) cap] w (I Vo (lF p.kind p.size (E ps 0 bF).cost (E ps 0 bF).size (E ps 1 bF).cost (E ps 1 bF).size:Nat)):=by
 obtain⟨w1,aQ,av,W⟩:=aL w p.cells 100;have D:=av;have jJ:=W;have fZ:=jJ.at 0;have iL:=jJ.at 4;have HC:=Zh D;generalize aT:p.cells=PC at*;by_cases k1:p.kind=1
 .have g:Y3 (lF p.kind p.size (E ps 0 bF).cost (E ps 0 bF).size (E ps 1 bF).cost (E ps 1 bF).size=kP [p.size,1]):=by show _=_;unfold lF;rw[Zt k1]
  generalize lF p.kind p.size (E ps 0 bF).cost (E ps 0 bF).size (E ps 1 bF).cost (E ps 1 bF).size=R at*;have a:=al2 w1 p.size 1 hz (by unfold bJ;omega);rw[<-g.o]at a;have kb:(p.kind==1)=true:=by simp[k1]
  generalize p.kind=k at*;generalize p.size=s at*;go_enter Tryz.func167,Tryz.ntmps167;go_wp2_with fail;refine a.mono ?_;rintro e w2 ⟨rfl,X⟩;have i:=Zh (az HC.o X);clear X;go_wp2;go_ret;exact⟨rfl,i.o⟩
 have aj:=h1 k1;have aH:=hp.1;obtain⟨⟨C,po,rfl,c0,c1,c2,c3,c4,c5⟩,hl⟩:=hp.2 0 aj;rw[Nat.zero_mul,Xb]at c0 c1 c2 c3 c4 c5;have ak:Y3 (1<N ps->UK w (aD C (po+6))=O (I J (E ps 1 bF).kind)/\UK w (aD C (po+6+1))=O (I Vo ((E ps 1 bF).sources:Int))/\
  UK w (aD C (po+6+2))=O (I Vo ((E ps 1 bF).clauses:Int))/\UK w (aD C (po+6+3))=O (E ps 1 bF).order.val/\
  UK w (aD C (po+6+4))=O (I Vo ((E ps 1 bF).size:Int))/\UK w (aD C (po+6+5))=O (I Vo ((E ps 1 bF).cost:Int))/\(E ps 1 bF).size<=bJ/\(E ps 1 bF).cost<=bJ):=λh=>by obtain⟨⟨b',o',e,d0,d1,d2,d3,d4,d5⟩,hr⟩:=hp.2 1 h;cases e;rw[Nat.one_mul]at d0 d1 d2 d3 d4 d5;exact⟨d0,d1,d2,d3,d4,d5,hr.size,hr.cost⟩
 have n:=hl.size;have q:=hl.cost;obtain⟨R,hR⟩:=eY (lF p.kind p.size (E ps 0 bF).cost (E ps 0 bF).size (E ps 1 bF).cost (E ps 1 bF).size);rw[<-hR];unfold lF at hR;rw[ZU k1]at hR;have g:=Zh hR;clear hR;have G:=h2;clear hp hl h1 h2 W jJ;generalize p.kind=k at*;generalize p.size=s at*;generalize E ps 0 bF=l at*;generalize E ps 1 bF=r at*;obtain⟨lk,ls,ax,⟨la,ay,lx⟩,lz,lc⟩:=l;obtain⟨rk,rs,aA,⟨ra,aB,rx⟩,rz,rc⟩:=r;unfold ae.val at*;simp only at*;obtain⟨w2,aR,aa,af⟩:=aL w1 #[I J lk,I Vo (ls:Int),I Vo (ax:Int),Z la (N lx) ay,I Vo (lz:Int),I Vo (lc:Int)] 100;obtain⟨d0,d1,d2,d3,d4,d5⟩:=JY D c0 c1 c2 c3 c4 c5;obtain⟨m0,m4⟩:=nH aa fZ iL;have l4:=af.at 4;have l5:=af.at 5;have Pb:=Zh (az HC.o aa);have aI:(k==1)=false:=by simp[k1]
 go_enter Tryz.func167,Tryz.ntmps167;go_wp2;refine Qp ?_;refine qA6 ?_;refine wpQuiet_nil ?_;intro z ai;obtain⟨n0,n5⟩:=nH ai m0 l5;have B:=Zh (az Pb.o ai);have au:Y3 (1<N ps->_):=λh=>ak.o h;by_cases A:k=3∨k=4∨k=5
 .rw[Zt A]at g;obtain⟨q0,q1,q2,q3,q4,q5,aC,aF⟩:=au.o (G (by omega) (by omega));obtain⟨e0,e1,e2,e3,e4,e5⟩:=JY B.o q0 q1 q2 q3 q4 q5;have aJ:=G (by omega) (by omega);obtain⟨w4,aS,ag,ah⟩:=aL z #[I J rk,I Vo (rs:Int),I Vo (aA:Int),Z ra (N rx) aB,I Vo (rz:Int),I Vo (rc:Int)] 100;have r4:=ah.at 4;have r5:=ah.at 5;obtain⟨t0,t5⟩:=nH ag n0 n5;have t:=Zh (az B.o ag);have u:Y3 (∀x,_):=λx=>NR k lz rz s x n aC hz
  have j:Y3 (wU k lz rz s<=bJ):=agc _ _ _ _;have zN:Y3 (∀(x:U) (m:Nat),m<=bJ->_):=λx m hm=>al3 x lc rc m q aF hm;generalize wU k lz rz s=wk at*;have HK:=Zh A;rcases HK.o with h|h|h
  .subst h;go_wp2;refine wH w4 λa=>?_
   refine U1 0 a ?_;refine wR 10 λK b=>?_;go_simp;refine XX (u.o _) ?_;rintro e v ⟨rfl,d⟩;refine oT b a d λa=>?_;refine wR 11 λK b=>?_;go_simp;refine oA b a λa=>?_;refine wR 12 λK b=>?_;go_simp;refine XX (zN.o v wk j.o) ?_;rintro e w6 ⟨rfl,f⟩;refine b.o _ _ ((Below.trans (((Qm _ _).drew).trans (d.mono (by simp))) (f.mono (by have:=d.size;simp at this;omega)))) (λa=>?_);refine wR 13 λK b=>?_;go_simp;refine b.o _ _ a λa=>?_;refine wD ?_;try simp only[pU]
   have i:=Zh (az t.o a);rw[<-g.o];go_wp2;go_ret;exact⟨rfl,i.o⟩
  .subst h;go_wp2;refine wH w4 λa=>?_
   refine U1 0 a ?_;refine wR 10 λK b=>?_;go_simp;refine XX (u.o _) ?_;rintro e v ⟨rfl,d⟩;refine oT b a d λa=>?_;refine wR 11 λK b=>?_;go_simp;refine oA b a λa=>?_;refine wR 12 λK b=>?_;go_simp;refine XX (zN.o v wk j.o) ?_;rintro e w6 ⟨rfl,f⟩;refine b.o _ _ ((Below.trans (((Qm _ _).drew).trans (d.mono (by simp))) (f.mono (by have:=d.size;simp at this;omega)))) (λa=>?_);refine wR 13 λK b=>?_;go_simp;refine b.o _ _ a λa=>?_;refine wD ?_;try simp only[pU]
   have i:=Zh (az t.o a);rw[<-g.o];go_wp2;go_ret;exact⟨rfl,i.o⟩
  .subst h;go_wp2;refine wH w4 λa=>?_
   refine U1 0 a ?_;refine wR 10 λK b=>?_;go_simp;refine XX (u.o _) ?_;rintro e v ⟨rfl,d⟩;refine oT b a d λa=>?_;refine wR 11 λK b=>?_;go_simp;refine oA b a λa=>?_;refine wR 12 λK b=>?_;go_simp;refine XX (zN.o v wk j.o) ?_;rintro e w6 ⟨rfl,f⟩;refine b.o _ _ ((Below.trans (((Qm _ _).drew).trans (d.mono (by simp))) (f.mono (by have:=d.size;simp at this;omega)))) (λa=>?_);refine wR 13 λK b=>?_;go_simp;refine b.o _ _ a λa=>?_;refine wD ?_;try simp only[pU]
   have i:=Zh (az t.o a);rw[<-g.o];go_wp2;go_ret;exact⟨rfl,i.o⟩
 rw[ZU A]at g;have aK:(k==3)=false:=by simp;omega
 have aM:(k==4)=false:=by simp;omega
 have aN:(k==5)=false:=by simp;omega
 by_cases k6:k=6∨k=10
 .rw[Zt k6]at g;have L:Y3 (∀x,_):=λx=>NT lz x n
  have j:Y3 (bV lz (nJ lz+1)<=bJ):=yg _ _;have P:Y3 (∀(x:U) (m:Nat),m<=bJ->_):=λx m hm=>al2 x lc m q hm;generalize bV lz (nJ lz+1)=wk at*;have HK:=Zh k6;rcases HK.o with h|h
  .subst h;go_wp2;refine wH z λa=>?_
   refine wA3 0 a ?_;refine wR 3 λK b=>?_;go_simp;refine XX (L.o _) ?_;rintro e v ⟨rfl,rfl⟩;refine b.o _ _ a λa=>?_;refine wR 4 λK b=>?_;go_simp;refine oA b a λa=>?_;refine wR 5 λK b=>?_;go_simp;refine XX (P.o z.drew wk j.o) ?_;rintro e w6 ⟨rfl,f⟩;refine b.o _ _ ((((Qm _ _).drew).trans (f.mono (by simp)))) (λa=>?_);refine wR 6 λK b=>?_;go_simp;refine b.o _ _ a λa=>?_;refine wD ?_;try simp only[pU]
   have i:=Zh (az B.o a);rw[<-g.o];go_wp2;go_ret;exact⟨rfl,i.o⟩
  .subst h;go_wp2;refine wH z λa=>?_
   refine wA3 0 a ?_;refine wR 3 λK b=>?_;go_simp;refine XX (L.o _) ?_;rintro e v ⟨rfl,rfl⟩;refine b.o _ _ a λa=>?_;refine wR 4 λK b=>?_;go_simp;refine oA b a λa=>?_;refine wR 5 λK b=>?_;go_simp;refine XX (P.o z.drew wk j.o) ?_;rintro e w6 ⟨rfl,f⟩;refine b.o _ _ ((((Qm _ _).drew).trans (f.mono (by simp)))) (λa=>?_);refine wR 6 λK b=>?_;go_simp;refine b.o _ _ a λa=>?_;refine wD ?_;try simp only[pU]
   have i:=Zh (az B.o a);rw[<-g.o];go_wp2;go_ret;exact⟨rfl,i.o⟩
 rw[ZU k6]at g;have We:(k==6)=false:=by simp;omega
 have aO:(k==10)=false:=by simp;omega
 by_cases k7:k=7
 .rw[Zt k7]at g;subst k7;have Q:=al3 z lc lz lz q n n;rw[<-g.o]at Q;go_wp2_with fail;refine Q.mono ?_;rintro e w4 ⟨rfl,y⟩;have i:=Zh (az B.o y);go_wp2;go_ret;exact⟨rfl,i.o⟩
 rw[ZU k7]at g;have aP:(k==7)=false:=by simp;omega
 have S:=al2 z lc lz q n;rw[<-g.o]at S;go_wp2_with fail;refine S.mono ?_;rintro e w4 ⟨rfl,y⟩;have i:=Zh (az B.o y);go_wp2;go_ret;exact⟨rfl,i.o⟩
