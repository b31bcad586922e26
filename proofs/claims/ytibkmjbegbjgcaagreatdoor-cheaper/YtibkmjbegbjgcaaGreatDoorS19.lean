import Derived.Test.YtibkmjbegbjgcaaGreatDoorS13
import Derived.Test.YtibkmjbegbjgcaaGreatDoorS16
import Derived.Test.YtibkmjbegbjgcaaGreatDoorS17
set_option linter.all false
set_option maxRecDepth 100000
set_option maxHeartbeats 0
namespace Go.Proofs.Zz
open Go.RowKit Go.Shelf Go.Proofs.Tryz
open List renaming length->N,getD->E
open Go.Value renaming slice->Z,int->I,pointer->Y,bool->Qr,agg->Qu,tuple->Qw
open Go.Proofs.Tryz renaming prog->V
open Option renaming some->O,none->Qs
open Go.IntKind renaming i64->J,u64->Qq
open Bool renaming false->F,true->T
open Go renaming World->U,Value->Qm
open Go.World renaming heap->H,setCell->Qo,cell?->Qp
open _root_.Array renaming size->M
open Go.RowKit renaming Hid->Qn
open Go.Obj renaming cells->Qt
open Go.Ending renaming returned->Qv
variable {q:ae} {ts:Qy af} {t:TypeId} {i k sb:Nat} {W0 w w1:U} {f:ay} {Fq Mq Xq:Qz} {L:qM} {σ:fU} {v v0 v1 v10 v11 v12 v2 v3 v4 v5 v6 v7 v8 v9:Qm} {P:Program} {a:Act} {ops:Array Oper} {rest:Qy Nat} {o:Oper} {Q:Exit->Act->U->Prop} {R:Ending->U->Prop}
theorem BI(BG:fD ts=T)(hs:bP q.src.xs (N ts)=T/\1<=N q.src.xs/\N q.src.xs<=5)(hw:N q.wh<=8/\∀x∈q.wh,xC (aN ts q.src.xs) x)
  (hl:N q.aU.xs<=8/\N q.keys.xs<=4/\N q.sums.xs<=4/\N q.ord.xs<=4) (hr:tJ (aN ts q.src.xs) q.group q.keys.xs q.sums.xs q.aU.xs q.ord.xs=T):q.check ts=0:=by
 unfold ae.check checkN;have e:¬fD ts=false:=Qf;have f:¬l9 q.src.xs q.mf q.keys.xs q.sums.xs q.aU.xs q.ord.xs=true:=by
  unfold l9;rw[Bool.or_eq_true,not_or];refine⟨?_,?_⟩
  .rw[Zf];have:N q.mf=N q.wh:=by simp[ae.mf]
   omega
  .rw[List.any_eq_true];rintro⟨c,b,d⟩;unfold ae.mf at b;obtain⟨x,a,rfl⟩:=ZL.1 b;have:=(hw.2 x a).2.1
   grind
 have d:eH q.mf (aN ts q.src.xs)=true:=by unfold eH ae.mf;rw[List.all_map,Q7];intro x a;have:=hw.2 x a;simp only[Function.comp];unfold gH;rw[Q6,Zf,Q7];exact⟨this.1,this.2.2⟩
 grind
def kQ(n:Nat):ae:=(⟨⟨O (aD (n+1) 0),1,[0]⟩,Qs,0,[],T,⟨Qs,0,[]⟩,⟨O (aD (n+1+1) 0),1,[0]⟩,⟨Qs,0,[]⟩,⟨Qs,0,[]⟩⟩:ae)
def sQ(n:Nat):Qy dB:=[(⟨O (aD (n+1+1+1+1+1+1+1+1) 0),4,[⟨O (aD (n+1+1+1+1) 0),1,[4]⟩,⟨O (aD (n+1+1+1+1+1) 0),1,[3]⟩,⟨O (aD (n+1+1+1+1+1+1) 0),1,[3]⟩,⟨O (aD (n+1+1+1+1+1+1+1) 0),1,[1073741824]⟩]⟩:dB)]
def ql:Qy af:=[⟨1,10,10,0,0,0⟩]
def K9(n:Nat):(kQ n).check ql=0:=rfl
theorem OU(n:Nat):O4 ql (kQ n).src.xs (sQ n)=true:=rfl
def holds0(ao:PN)(n cap:Nat)(w:U):Ce 56 #[Z Qs 0 0,Z ao n cap] w (Qr T):=by
 go_enter func56,ntmps56;go_wp2;go_loopw [9] (λi wr=>i=I J 0/\w=wr) (λ_ _=>0)
 case atStart=>exact⟨rfl,rfl⟩
 case round=>
  obtain⟨rfl,rfl⟩:=hrel;go_wp2;go_ret;exact⟨rfl,rfl⟩
def amh(bq:Nat)(ao:PN)(n cap:Nat)(w:U)(hc:Qp w (aD bq 1)=O (Z Qs 0 0)):Cb 55 #[Z ao n cap,Y (O (aD bq 0))] w (Qr T):=by have a:=holds0 ao n cap w;go_enter func55,ntmps55;go_wp2_with fail;refine a.mono ?_;rintro e b ⟨rfl,rfl⟩;go_wp2;go_ret;exact⟨rfl,Q9 _ _⟩
def ami(b1 b2 rT:Nat)(rv:dB)(w:U)(h1:Qp w (aD b1 0)=O (I J 0))(h2:Qp w (aD b2 0)=O rv.val)(hr:gJ w rv.ad rv.rs) :
  Calls V 54 #[Z (O (aD b1 0)) 1 1,Z (O (aD b2 0)) 1 rT] w λe w'=>∃v,e=Qv v/\qH bH V v (rv.rs.map (·.xs)) w'/\Bw w w':=by
 have a:=RX rv w hr;clear hr;obtain⟨l,m,xs⟩:=rv;unfold dB.val at*;simp only at*;go_enter func54,ntmps54;go_wp2_with fail;refine a.mono ?_;rintro e j ⟨v,rfl,b,f⟩;have d:Qn _:=b;obtain⟨k,g,rfl,_,_⟩:=b;clear a;go_wp2
 all_goals
  go_loopw [5,18] (λv i wr=>i=I J 0/\v=.func (.func k) #[] g/\j=wr) (λ_ _ _=>0)
  case atStart=>exact⟨rfl,rfl,rfl⟩
  case round=>
   obtain⟨rfl,rfl,rfl⟩:=hrel;go_wp2;go_ret;exact⟨_,rfl,d.o,f⟩
structure PM(u:ah)(rows:Qy (Qx)):Prop where
 few:N u.xs<=4
 len:N rows<=1000
 fit:∀r∈rows,bP u.xs (N r)=T
 vals:∀r∈rows,∀v∈r,xL v
 sums:∀n,∀s∈mH u.xs (rows.take n),xL s
def La(vi:Qm)(s:ah)(rows:Qy (Qx))(w:U)(hi:qH bH V vi rows w)(hs:s.At w)(h:PM s rows) :
  Calls V 95 #[vi,Z Qs 0 0,s.val] w λe w'=>∃v,e=Qv v/\qH (qV 3) V v [(N rows:Int)::mH s.xs rows] w'/\Bw w w':=by
 obtain⟨f,g,rfl,i,a⟩:=hi;have b:=nU [Qt #[.func (.func f) #[] g] 87,Qt #[Z Qs 0 0] 22,Qt #[s.val] 22] w;have d:=Zh (mG [Qt #[.func (.func f) #[] g] 87,Qt #[Z Qs 0 0] 22,Qt #[s.val] 22] w);have j:Qn (qH (qV 3) V (.func (.func 139) #[] #[Y (O (aD (M (H w)) 0)),Y (O (aD (M (H w)+1) 0)),Y (O (aD (M (H w)+1+1) 0))]) _ _):=
  ⟨_,_,rfl,enters_of func139 Qd rfl,OT (M (H w)) (M (H w)+1) (M (H w)+1+1) f g s rows _ (Jy (b 0 Qa) rfl) (Jy (b 1 Qa) rfl) (Jy (b 2 Qa) rfl) (Seq.later _ a d.o) i (Q8 d.o hs) h.few h.len h.fit h.vals h.sums⟩
 obtain⟨k,l,m⟩:=s;unfold ah.val at*;simp only[Zw,List.foldl_nil]at*;clear a hs h b;go_enter func95,ntmps95;go_wp2;go_ret;exact⟨_,rfl,j.o,d.o⟩
def ac6(vi a:Qm)(u:ah)(rows:Qy (Qx))(w:U)(hi:qH bH V vi rows w)(hs:u.At w)(h:PM u rows)(h0:∃x y z,a=Z x y z) :
  Calls V 58 #[vi,Qu #[a,Z Qs 0 0,Qr T,Z Qs 0 0,u.val,Z Qs 0 0,Z Qs 0 0]] w λe w'=>∃v,e=Qv v/\qH (qV 3) V v [(N rows:Int)::mH u.xs rows] w'/\Bw w w':=by obtain⟨x,y,z,rfl⟩:=h0;have f:=cZ w (Qt #[Z x y z,Z Qs 0 0,Qr T,Z Qs 0 0,u.val,Z Qs 0 0,Z Qs 0 0] 26);have b:=La vi u rows _ (hi.later f) (Q8 f hs) h;obtain⟨l,m,rfl,_,_⟩:=id hi;clear hi hs h;have i:=Zh f;clear f;obtain⟨n,p,q⟩:=u;unfold ah.val at*;simp only at*;go_enter func58,ntmps58;go_wp2_with fail;refine b.mono ?_;rintro e r ⟨v,rfl,d,g⟩;have j:Qn _:=d;obtain⟨t,k,rfl,_,_⟩:=id d;clear d b;go_wp2;go_ret;exact⟨_,rfl,j.o,i.o.trans (g.mono Qa)⟩
def ac7(b1 b2 rT:Nat)(u:ah)(rv:dB)(w:U)(h1:Qp w (aD b1 0)=O (I J 0))(h2:Qp w (aD b2 0)=O rv.val)(hr:gJ w rv.ad rv.rs)(hu:u.At w)(h:PM u (rv.rs.map (·.xs))) :
  Calls V 31 #[Qu #[Z (O (aD b1 0)) 1 1,Z Qs 0 0,Qr T,Z Qs 0 0,u.val,Z Qs 0 0,Z Qs 0 0],Z (O (aD b2 0)) 1 rT] w λe w'=>∃v,e=Qv v/\qH (qV 3) V v [(N (rv.rs.map (·.xs)):Int)::mH u.xs (rv.rs.map (·.xs))] w'/\Bw w w':=by
 obtain⟨z,aa,a,g⟩:=bC w #[Z (O (aD b1 0)) 1 1,Z Qs 0 0,Qr T,Z Qs 0 0,u.val,Z Qs 0 0,Z Qs 0 0] 26;have m:=ami b1 b2 rT rv z (cB a h1) (cB a h2) (hr.below a);have HU:Qn _:=hu;have B:=Zh a;have S:Qn (∀W (x:ah),Bw z W->Calls V 55 (#[x.val] ++ #[Y (O (aD (M (H w)) 0))]) W λe W'=>e=Qv (Qr T)/\Bw W W'):=λW x t=>amh (M (H w)) x.ad (N x.xs) x.cap W (cB t (g.at 1));have n:Qn (∀l W,qH bH V l (rv.rs.map (·.xs)) W->Bw z W->Calls V 58 #[l,Qu #[Z (O (aD b1 0)) 1 1,Z Qs 0 0,Qr T,Z Qs 0 0,u.val,Z Qs 0 0,Z Qs 0 0]] W λe w'=>∃v,e=Qv v/\qH (qV 3) V v [(N (rv.rs.map (·.xs)):Int)::mH u.xs (rv.rs.map (·.xs))] w'/\Bw W w'):=λl W hv t=>ac6 l _ u _ W hv (Q8 (a.trans (t.mono a.size)) hu) h ⟨_,_,_,rfl⟩;obtain⟨D,G,K,L,P,Q,R⟩:=g.k7;clear h1 h2 hr hu h a g;generalize [(N (rv.rs.map (·.xs)):Int)::mH u.xs (rv.rs.map (·.xs))]=RR at*;generalize rv.rs.map (·.xs)=rows at*;obtain⟨En,oN,GL⟩:=u;unfold ah.val at*;simp only at*;go_enter func31,ntmps31;go_wp2_with fail;refine m.mono ?_;rintro e w2 ⟨vc,rfl,i,b⟩;have d:=I5 vc 55 #[Y (O (aD (M (H w)) 0))] rows (λ_=>T) w2 i (enters_of func55 Qd rfl) (λW x t hx hm=>S.o W x (b.trans (t.mono b.size)));rw[List.filter_eq_self.2 (λ_ _=>rfl)]at d;obtain⟨g2,ae,rfl,_,_⟩:=id i;clear i m;go_wp2_with fail;refine d.mono ?_;rintro e A ⟨l,rfl,j,p⟩;clear d;have k:=b.trans (p.mono b.size);obtain⟨d0,d1,d2,d3,d4⟩:=jW k D G K L P;obtain⟨d5,d6⟩:=jf k Q R;have f:Bw A A.drew:=(Q9 _ _).drew;have y:=n.o l A.drew (j.later f) (k.trans (f.mono k.size));obtain⟨g3,af,rfl,_,_⟩:=id j;have C:=Zh ((B.o.trans (k.mono B.o.size)).drew);clear j k f b p n D G K L P Q R;go_wp2;go_region_with (first|(refine y.mono ?_;rintro e w4 ⟨v4,rfl,q,r⟩;have e6:=cB r d6;obtain⟨g4,ag,rfl,_,_⟩:=id q)|(refine(Dy _ _ _ _ _).mono ?_;rintro e w5 ⟨rfl,rfl⟩))
 all_goals
  go_wp2;go_ret;exact⟨_,rfl,q,C.o.trans (r.mono C.o.size)⟩
def sS{W:U}{b:Nat}{x:Int}(h:W.heap[b]? = O (Qt #[I J x] t))(hl:b<M (H W)):bH.At ⟨O (aD b 0),1,[x]⟩ W:=by
 refine⟨⟨Qa,λi d=>⟨b,0,rfl,?_⟩⟩,λa f=>by cases f;exact hl,λe=>by cases e⟩
 match i,d with
 |0,_=>exact Jy h rfl
def jy(n:Nat):Qy Obj:=[(Qt #[I J 1,I J 10,I J 10,I J 0,I J 0,I J 0] 48),(Qt #[I J 0] 3),(Qt #[I J 0] 3),(Qt #[Z (O (aD (n+1) 0)) 1 1,Z Qs 0 0,Qr T,Z Qs 0 0,Z (O (aD (n+1+1) 0)) 1 1,Z Qs 0 0,Z Qs 0 0] 26),(Qt #[I J 4] 3),(Qt #[I J 3] 3),(Qt #[I J 3] 3),(Qt #[I J 1073741824] 3),(Qt #[Z (O (aD (n+1+1+1+1) 0)) 1 1,Z (O (aD (n+1+1+1+1+1) 0)) 1 1,Z (O (aD (n+1+1+1+1+1+1) 0)) 1 1,Z (O (aD (n+1+1+1+1+1+1+1) 0)) 1 1] 22),(Qt #[Z (O (aD (n+1+1+1+1+1+1+1+1) 0)) 4 4] 51)]
def aat(w:U):aQ ((jy (M (H w))).foldl World.alloc w) (O (aD (M (H w)) 0)) ql/\(kQ (M (H w))).At ((jy (M (H w))).foldl World.alloc w)/\I4 ((jy (M (H w))).foldl World.alloc w) (O (aD (M (H w)+1+1+1+1+1+1+1+1+1) 0)) (sQ (M (H w))):=by
 have e:=nU (jy (M (H w))) w;have v:=(mG (jy (M (H w))) w).size;have f:=e 0 (by simp[jy]);have k:=e 1 (by simp[jy]);have l:=e 2 (by simp[jy]);have m:=e 4 (by simp[jy]);have n:=e 5 (by simp[jy]);have p:=e 6 (by simp[jy]);have q:=e 7 (by simp[jy]);have g:=e 8 (by simp[jy]);have r:=e 9 (by simp[jy]);generalize (jy (M (H w))).foldl World.alloc w=Vq at*;have lt:∀{i:Nat} {o:Obj},Vq.heap[M (H w)+i]? = O o->M (H w)+i<M (H Vq):=λh=>(ZV.1 h).1;have t:=sS k (lt k);have k2:=sS l (lt l);have k4:=sS m (lt m);have k5:=sS n (lt n);have k6:=sS p (lt p);have k7:=sS q (lt q);have j:gJ Vq (O (aD (M (H w)+8) 0)) [⟨O (aD (M (H w)+4) 0),1,[4]⟩,⟨O (aD (M (H w)+5) 0),1,[3]⟩,⟨O (aD (M (H w)+6) 0),1,[3]⟩,⟨O (aD (M (H w)+7) 0),1,[1073741824]⟩]:=by
  refine⟨⟨Qa,λi b=>⟨M (H w)+8,0,rfl,?_⟩,λi b=>?_⟩,λa u=>by cases u;exact lt g,λi b=>?_⟩
  .match i,b with
   |0,_=>exact Jy g rfl
   |1,_=>exact Jy g rfl
   |2,_=>exact Jy g rfl
   |3,_=>exact Jy g rfl
  .match i,b with
   |0,_=>exact k4.1
   |1,_=>exact k5.1
   |2,_=>exact k6.1
   |3,_=>exact k7.1
  .match i,b with
   |0,_=>exact k4
   |1,_=>exact k5
   |2,_=>exact k6
   |3,_=>exact k7
 have d:∀W:U,IntsAt W Qs []:=λW=>⟨Qa,λi b=>by simp at b⟩;refine⟨⟨by simp[ql],λi b=>⟨M (H w),0,rfl,?_⟩⟩,⟨t.1,⟨by simp[kQ],λi b=>by simp[kQ]at b,λi b=>by simp[kQ]at b⟩,d Vq,k2.1,d Vq,d Vq⟩,⟨⟨by simp[sQ],λi b=>⟨M (H w)+9,0,rfl,?_⟩,λi b=>?_⟩,λi b=>?_⟩⟩
 .match i,b with
  |0,_=>exact⟨Jy f rfl,Jy f rfl,Jy f rfl,Jy f rfl,Jy f rfl,Jy f rfl⟩
 .match i,b with
  |0,_=>exact Jy r rfl
 .match i,b with
  |0,_=>exact j.1
 .match i,b with
  |0,_=>exact j
def OV(a:PN)(c:Nat):PM ⟨a,c,[0]⟩ [[4],[3],[3],[1073741824]]:=by
 refine⟨(by decide:1<=4),Qc,(by decide:∀r∈[[4],[3],[3],[1073741824]],bP [0] (N (α:=Int) r)=T),by unfold xL;decide,λn=>?_⟩;show ∀s∈mH [0] _,_;unfold xL
 match n with
 |0=>decide
 |1=>decide
 |2=>decide
 |3=>decide
 |n+4=>rw[XQ Qa];decide
def amj(co:PN)(b2 cc rT n:Nat)(w:U)(hts:aQ w co ql)(hq:(kQ n).At w)(K7:I4 w (O (aD b2 0)) (sQ n)) :
  Calls V 16 #[Z co 1 cc,Qu (kQ n).cells,Z (O (aD b2 0)) 1 rT] w λe w'=>∃(v:Qm) (L:Qy ah) (o:Qz) (C:U),e=Qv (Qw #[v,I J 0])/\L.map ah.xs=[[4,10]]/\ik (qV 3) (M (H C)) C 22 L o w' v/\Bw w C:=by obtain⟨w0,R,d,z⟩:=bC w (kQ n).cells 26;have j:=checkQ_any co cc ql (kQ n) w0 (hts.below d) (hq.below d) (Za _) (Za _);rw[K9]at j;have p:Qn (∀x:U,Bw w x->_):=λx g=>Dx co cc ql (kQ n) (O (aD b2 0)) rT (sQ n) x (hts.below g) (Q8 g hq.src) (K7.1.below g) rfl (show 1<=5 by decide);simp only[OU,if_true]at p;have q:=Zh d;obtain⟨b,o,e,A⟩:=K7.1.2.1.get (i:=0) (show 0<1 by decide);cases e;obtain⟨b,o,e,B⟩:=hq.src.get (i:=0) (show 0<1 by decide);cases e;have P:Qn (∀x:U,Bw w x->Calls V 31 #[Qu (kQ n).cells,Z (O (aD b2 0)) 1 rT] x λe w'=>∃v,e=Qv v/\qH (qV 3) V v [[4,10]] w'/\Bw x w'):=λx g=>ac7 (n+1) b2 rT (kQ n).sums (E (sQ n) 0 rz) x (cB g (B 0 (show 0<1 by decide))) (cB g (A 0 (show 0<1 by decide))) ((K7.2 0 (show 0<1 by decide)).below g) (Q8 g hq.sums) (OV _ _);have r:Qn _:=z;clear hts hq K7 A B d z;unfold kQ ae.cells ah.val at*;simp only[ZK,Z0,Nat.reduceAdd]at*;have f:=r.o;obtain⟨c0,c1,c2,c3,c4,c5,c6⟩:_/\_/\_/\_/\_/\_/\_:=⟨GB.at f 0,GB.at f 1,GB.at f 2,GB.at f 3,GB.at f 4,GB.at f 5,GB.at f 6⟩;clear f r;go_enter func16,ntmps16;go_wp2_with fail;refine j.mono ?_;rintro e C ⟨rfl,l⟩;have k:=q.o.trans (l.mono q.o.size);obtain⟨d0,d1,d2,d3,d4⟩:=jW l c0 c1 c2 c3 c4;obtain⟨d5,d6⟩:=jf l c5 c6;have t:=p.o C k;clear j c0 c1 c2 c3 c4 c5 c6 R;go_wp2_with fail;refine XX t ?_;rintro e w2 ⟨rfl,m⟩;have a:=k.trans (m.mono k.size);obtain⟨e0,e1,e2,e3,e4⟩:=jW m d0 d1 d2 d3 d4;obtain⟨e5,e6⟩:=jf m d5 d6;have u:=P.o w2 a;clear t d0 d1 d2 d3 d4 d5 d6;go_wp2_with fail;refine XX u ?_;rintro e S ⟨v,rfl,W,aa⟩;have Q:=a.trans (aa.mono a.size);obtain⟨g3,af,rfl,D,G⟩:=W;have y:=Ml (qV 3) (λ_=>rfl) g3 af [[4,10]] S S (Q9 _ _) Qc G D;clear u e0 e1 e2 e3 e4 e5 e6 G D;go_wp2_with fail;refine y.mono ?_;rintro e w4 ⟨v4,L,o4,rfl,ag,K⟩;obtain⟨va,vn,vc,rfl⟩:=Xh K.own;clear y;go_wp2;go_ret2;exact⟨_,L,o4,S,rfl,ag,K,Q⟩
def UF(w:U):Cb 7 #[] w (Qr T):=by
 obtain⟨D,G,a3⟩:=aat w;have k:=amj (O (aD (M (H w)) 0)) (M (H w)+1+1+1+1+1+1+1+1+1) 1 1 (M (H w)) _ D G a3;have l:=mG (jy (M (H w))) w;have m:=Zh l;clear D G a3 l;go_enter func7,ntmps7;go_wp2_with fail;refine k.mono ?_;rintro e z ⟨v,Q,o,W,rfl,a,t,d⟩;clear k;have n:N Q=1:=by have:=congrArg N a;simpa using this
 obtain⟨y,rfl⟩:=List.length_eq_one_iff.1 n;clear n;have p:y.xs=[4,10]:=by have:[y.xs]=[[4,10]]:=a;injection this
 rcases XF t.own with⟨-,h⟩|⟨g,cap,rfl,-,-,hc⟩
 .simp at h
 have q:=(t.at' y Qa).1.1;obtain⟨R,A,S⟩:=y;simp only at p;subst p;obtain⟨b,f,rfl,j⟩:=Q3 q (i:=0) Qa;have B:=j 0 Qa;have C:=j 1 Qa;have K:Qp z (aD g 0)=O (Z (O (aD b f)) 2 A):=hc 0 _ rfl;have L:Qp z (aD b f)=O (I J 4):=B;have P:Qp z (aD b (f+1))=O (I J 10):=C;have r:=m.o.trans ((d.trans (t.below.mono d.size)).mono m.o.size);have u:=Zh r;clear r hc B C j q t d a;simp only[ZK,Z0,Nat.reduceAdd];go_wp2;go_ret;exact⟨rfl,u.o⟩
def BJ{db:Qy dB}(h:CaseOk ts q db):q.check ts=0:=by
 have b:=zt h.tabs.1 h.tabs.2.1 h.tabs.2.2;have a:=h.qry.src;have d:=h.qry.wh;rcases h.qry.out with⟨g,l0,k1,k2,k3,s1,s2,o1,o2,o3⟩|⟨g,k0,s0,l1,l2,l3,o1,o2,o3⟩
 .refine BI b ⟨a.1,a.2.1,X⟩ ⟨X,d.2⟩ ⟨Qf,X,X,X⟩ ?_;unfold tJ CE;rw[g,l0,k2,k3,s2,o3,Zb rfl,o2];rfl
 .refine BI b ⟨a.1,a.2.1,X⟩ ⟨X,d.2⟩ ⟨X,Qf,Qf,X⟩ ?_;unfold tJ CE;rw[g,k0,s0,l3,o3,Zg Qa,o2,Zr (show ¬N q.aU.xs=0 by omega)];rfl
def Oh(ts:Qy af)(q:ae)(b:aP)(l:Qy aP)(hk:k<N l):(l.take (k+1)).foldl (jd ts q) b=jd ts q ((l.take k).foldl (jd ts q) b) (E l k mP):=gF _ b l mP hk
theorem dI.cells(h:dI W0 f ts q Xq Mq w sb L σ)(bZ:f.cells ts q=#[v0,v1,v2,v3,v4,v5,v6,v7,v8,v9,v10,v11,v12]):GB w sb 95 #[v0,v1,v2,v3,v4,v5,v6,v7,v8,v9,v10,v11,v12,Z (O (aD L.gs 0)) (N σ.groups) L.NG,L.av,Qr σ.cut,Y (O (aD L.bA 0)),L.pv,I J σ.status]:=by have:=h.blk;rw[bZ]at this;exact this
theorem TW(Ez:Env f ts q W0)(h:dI W0 f ts q Xq Mq w sb L σ)(bo:PN)(bc:Nat)(bs:Qy (Nat × aP))(hp:dh w bo (bs.map Prod.fst))(hpo:∀a,bo=O a->a.block≠sb)(hbs:∀x∈bs,aF 141 (λb=>¬Xq b) w x.1 x.2)(hok:∀x∈bs,iP q x.2)(hl:N bs<=1000) :
  Calls V 98 #[Y (O (aD sb 0)),I Qq ((2 ^ (N q.src.xs)-1:Nat):Int),Z bo (N bs) bc] w λe w'=>(∃v,e=Qv v)/\∃L',dI W0 f ts q Xq Mq w' sb L' { σ with bA:=(bs.map Prod.snd).foldl (jd ts q) σ.bA }/\Kept (λb=>¬Mq b) w w':=by
 obtain⟨v0,v1,v2,v3,v4,v5,v6,v7,v8,v9,D,G,P,bZ,-,-,-,-,-,-,-,-,aW,-⟩:=XY f ts q;obtain⟨RQ,Lj⟩:=aS hp hpo;have vC:Qn (N (bs.map Prod.fst)=N bs):=ZH _;obtain⟨BK,ai⟩:=eY (λk=>((bs.map Prod.snd).take k).foldl (jd ts q) σ.bA:Nat->aP);obtain⟨BD,U2⟩:=eY (λk=>E (bs.map Prod.snd) k mP:Nat->aP);have aZ:Qn (∀k,k<N bs->BK (k+1)=dV (BK k) (dS ts q (BD k))):=λk hk=>by rw[ai,U2];exact Oh ts q σ.bA _ (by rw[ZH];exact hk)
 have HE:=Zh (by rw[ai];show ((bs.map Prod.snd).take (N bs)).foldl _ _=_;rw[XQ Qa]:BK (N bs)=(bs.map Prod.snd).foldl (jd ts q) σ.bA)
 have bg:=Zh (by  rw[ai];rfl:BK 0=σ.bA)
 have U3:Qn (∀k,k<N bs->aF 141 (λb=>¬Xq b) w (E (bs.map Prod.fst) k 0) (BD k)/\iP q (BD k)):=λk hk=>by grind
 have Np:Qn (∀(x:U) (r:Nat) (t:aP),Fz (λb=>¬Xq b) W0 x->aF 141 (λb=>¬Xq b) x r t->iP q t->Calls V 145 #[Qu #[v0,v1,v2,v3,v4,v5,v6,v7,v8,v9,D,G,P],Y (O (aD r 0))] x (jk 141 93 (λb=>¬Xq b) x (dS ts q t))):=λx r t hx hr ht=>by rw[<-bZ];exact JL Ez hx r t hr ht
 have bn:Qn (∀t,N (dS ts q t)<=2):=λt=>by unfold dS;split <;> simp
 have HH:Qn (dI W0 f ts q Xq Mq w sb { L with bA:=L.bA } { σ with bA:=BK 0 }):=by rw[bg.o];exact h
 have Cz:=Zh bZ;have aA:Qn (∀b,¬Xq b->b≠sb):=λb hb e=>hb (e ▸ h.sub _ h.msb);have bq:Qn (∀b,¬Mq b->b≠sb):=λb hb e=>hb (e ▸ h.msb);have aO:=h.cells bZ;have c8:Qp w (aD sb 8)=O (I Qq ((2 ^ (N q.src.xs)-1:Nat):Int)):=by rw[<-aW];exact aO.cell 8
 obtain⟨SS,aX⟩:∃n:Nat,n=2 ^ (N q.src.xs)-1:=⟨_,rfl⟩;rw[<-aX]at c8 ⊢;clear hp hpo hbs hok h ai U2 bZ aO aX aW Ez;generalize bs.map Prod.fst=bf,(bs.map Prod.snd).foldl (jd ts q) σ.bA=R,N bs=bl at*;go_enter func98,ntmps98;go_wp2;go_loopw [18] (λiv wr=>∃(k bp:Nat),k<=bl/\iv=I J (k:Int)/\Qn (dI W0 f ts q Xq Mq wr sb { L with bA:=bp } { σ with bA:=BK k })/\Qn (Kept (λb=>b≠sb) w wr)) (λiv _=>bl-(intOf iv).toNat)
 case atStart=>exact⟨0,L.bA,ZB _,rfl,HH.o,ZO _ _⟩
 case round=>
  obtain⟨k,bp,hk,rfl,HA,HK⟩:=hrel;by_cases ax:k<bl
  .obtain⟨tb,bD,bu,aY⟩:=dh.get (RQ.o.aV HK.o (λ_ a ha=>Lj.o a ha)) (i:=k) (by rw[vC.o];exact ax);subst bu;have aB:=aY k (by rw[vC.o];exact ax);have ag:=U3.o k ax;obtain⟨a,ha⟩:=eY (E bf k 0)
   rw[<-ha]at aB ag;obtain⟨bz,bB⟩:=aS (ag.1.aV (HK.o.mono λb _ hb=>aA.o b hb)) ag.2;have C:=HA.o.cells Cz.o;simp only at C;have qD:=aZ.o k ax;have ah:=Np.o wr.drew a (BD k) (HA.o.hz.next ((Q9 _ _).drew)) (bz.o.below ((Q9 _ _).drew)) bB.o;have aQ:=Zh (bn.o (BD k));generalize dS ts q (BD k)=EN at*;have aR:=Zh qD;obtain⟨aj,aK⟩:=eY (Value.slice (O (aD L.gs 0)) (N σ.groups) L.NG);obtain⟨ak,aL⟩:=eY (L.av);obtain⟨au,aM⟩:=eY (L.pv);rw[<-aK,<-aL,<-aM]at C;have vX:=Zh C;have DW:Qn (aj=Value.slice (O (aD L.gs 0)) (N σ.groups) L.NG/\ak=L.av/\au=L.pv):=⟨aK,aL,aM⟩;have aC:=C.at 16;have aT:Qp wr.drew (aD sb 16)=O (Y (O (aD bp 0))):=aC;clear aY ha ag C qD aK aL aM;obtain⟨B,bC⟩:=eY (wr);subst bC;go_wp2_with fail;refine Zo (S:=λx=>Kept (λb=>b≠sb) B x/\∃u,GB x sb 95 #[v0,v1,v2,v3,v4,v5,v6,v7,v8,v9,D,G,P,aj,ak,Qr σ.cut,u,au,I J σ.status]) Qd ⟨ZP ((Q9 (M (H B)) B).drew) (λ_ hl _=>hl),_,vX.o⟩ (λj=>?_);refine wt 0 (Y (O (aD sb 0))) j ?_;refine wt 1 (Y (O (aD sb 0))) j ?_;refine wt 2 (Y (O (aD sb 0))) j ?_;refine wt 3 (Y (O (aD sb 16))) j ?_;refine wt 5 (Y (O (aD sb 0))) j ?_;refine wt 6 (Y (O (aD sb 0))) j ?_;refine wt 7 (Y (O (aD sb 0))) j ?_;refine wT 8 (Qu #[v0,v1,v2,v3,v4,v5,v6,v7,v8,v9,D,G,P]) j (λx hx=>?_) ?_
   .obtain⟨u,hu⟩:=hx.2;obtain⟨e0,e1,e2,e3,e4,e5,e6,e7,e8,e9,bE,bF,bG⟩:=hu.k13;go_simp
   refine wt 9 (Y (O (aD a 0))) j ?_;refine wJ 4 10 (λK m=>?_) λK m=>?_
   .go_simp;refine m.o _ _ j λj=>?_
    clear m K;refine wR 10 λK m=>?_;go_simp;refine XX ah ?_;rintro e w2 ⟨v,Q,rfl,WR,d,aN⟩;have yu:=(Q9 (M (H B)) B).drew.trans aN;have y:=vX.o.keep (ZP (s:=λb=>b<M (H B)) yu (λ_ h _=>h)) vX.o.lt;have aG:=y.at 16;have aH:N Q<=2:=by
     have h1:N Q=N EN:=by rw[<-WR,ZH]
     rw[h1];exact aQ.o
    obtain⟨ua,uc,rfl,W,-,-,-⟩:=lL (xs:=Q.map Prod.fst) d.own (by rw[d.len];omega);rw[d.len]at d ⊢;refine m.o _ _ ⟨ZP yu (λ_ h _=>h),_,y⟩ (λj=>?_);clear m K;have z:=wS bp (BK k) ((HA.o.bA).own yu (v:=Z ua (N Q) uc) (λg e=>(Xg d.own e).1)) ua uc Q W (λx hx=>(d.tree x hx).1) X;rw[WR,<-aR.o]at z;refine wR 11 λK m=>?_;go_simp;refine XX z ?_;rintro e w3 ⟨r,rfl,hT,aa⟩;have wX:=az yu aa;have l:=vX.o.keep (ZP (s:=λb=>b<M (H B)) wX (λ_ h _=>h)) vX.o.lt;refine m.o _ _ ⟨ZP wX (λ_ h _=>h),_,l⟩ (λj=>?_);clear m K;refine wt 12 (Y (O (aD sb 0))) j ?_;refine wt 13 (Y (O (aD sb 16))) j ?_;have aI:=l.at 16;have aJ:=l.frozen 16;have A:GB (Qo w3 (aD sb 16) (Y (O (aD r 0)))) sb 95 #[v0,v1,v2,v3,v4,v5,v6,v7,v8,v9,D,G,P,aj,ak,Qr σ.cut,Y (O (aD r 0)),au,I J σ.status]:=l.set 16 _;have p:Kept (λb=>b≠sb) B (Qo w3 (aD sb 16) (Y (O (aD r 0)))):=(ZP wX (λ_ h _=>h)).trans (Xd _ _ _ (λh=>h rfl));refine wR 14 λK m=>?_;go_simp;refine m.o _ _ ⟨p,_,A⟩ (λj=>?_);clear m K;refine wD ?_;try simp only[pV]
    try simp only[pV]
    have HF:Qn (dI W0 f ts q Xq Mq (Qo w3 (aD sb 16) (Y (O (aD r 0)))) sb { L with bA:=r } { σ with bA:=BK (k+1) }/\Kept (λb=>b≠sb) w (Qo w3 (aD sb 16) (Y (O (aD r 0))))):=⟨HA.o.better p (by
      rw[Cz.o,DW.o.1,DW.o.2.1,DW.o.2.2]at*;exact A) (hT.JJ.aV (Xd _ _ _ (λh=>aA.o _ h rfl))),HK.o.trans p⟩
    clear j aI aJ A p z hT aa wX l d W aH WR y aC aT aG aB ah;go_wp2;go_roundw
    case rel=>exact⟨k+1,r,X,Qe,HF.o.1,HF.o.2⟩
    case measure=>exact XK
   .go_simp;refine XX ah ?_;rintro e w2 ⟨v,Q,rfl,WR,d,aN⟩;have yu:=(Q9 (M (H B)) B).drew.trans aN;have y:=vX.o.keep (ZP (s:=λb=>b<M (H B)) yu (λ_ h _=>h)) vX.o.lt;have aG:=y.at 16;have aH:N Q<=2:=by
     have h1:N Q=N EN:=by rw[<-WR,ZH]
     rw[h1];exact aQ.o
    obtain⟨ua,uc,rfl,W,-,-,-⟩:=lL (xs:=Q.map Prod.fst) d.own (by rw[d.len];omega);rw[d.len]at d ⊢;refine m.o _ _ ⟨ZP yu (λ_ h _=>h),_,y⟩ (λj=>?_);clear m K;refine wR 4 λK m=>?_;go_simp;refine m.o _ _ j λj=>?_;clear m K;have z:=wS bp (BK k) ((HA.o.bA).own yu (v:=Z ua (N Q) uc) (λg e=>(Xg d.own e).1)) ua uc Q W (λx hx=>(d.tree x hx).1) X;rw[WR,<-aR.o]at z;refine wR 11 λK m=>?_;go_simp;refine XX z ?_;rintro e w3 ⟨r,rfl,hT,aa⟩;have wX:=az yu aa;have l:=vX.o.keep (ZP (s:=λb=>b<M (H B)) wX (λ_ h _=>h)) vX.o.lt;refine m.o _ _ ⟨ZP wX (λ_ h _=>h),_,l⟩ (λj=>?_);clear m K;refine wt 12 (Y (O (aD sb 0))) j ?_;refine wt 13 (Y (O (aD sb 16))) j ?_;have aI:=l.at 16;have aJ:=l.frozen 16;have A:GB (Qo w3 (aD sb 16) (Y (O (aD r 0)))) sb 95 #[v0,v1,v2,v3,v4,v5,v6,v7,v8,v9,D,G,P,aj,ak,Qr σ.cut,Y (O (aD r 0)),au,I J σ.status]:=l.set 16 _;have p:Kept (λb=>b≠sb) B (Qo w3 (aD sb 16) (Y (O (aD r 0)))):=(ZP wX (λ_ h _=>h)).trans (Xd _ _ _ (λh=>h rfl));refine wR 14 λK m=>?_;go_simp;refine m.o _ _ ⟨p,_,A⟩ (λj=>?_);clear m K;refine wD ?_;try simp only[pV]
    try simp only[pV]
    have HF:Qn (dI W0 f ts q Xq Mq (Qo w3 (aD sb 16) (Y (O (aD r 0)))) sb { L with bA:=r } { σ with bA:=BK (k+1) }/\Kept (λb=>b≠sb) w (Qo w3 (aD sb 16) (Y (O (aD r 0))))):=⟨HA.o.better p (by
      rw[Cz.o,DW.o.1,DW.o.2.1,DW.o.2.2]at*;exact A) (hT.JJ.aV (Xd _ _ _ (λh=>aA.o _ h rfl))),HK.o.trans p⟩
    clear j aI aJ A p z hT aa wX l d W aH WR y aC aT aG aB ah;go_wp2;go_roundw
    case rel=>exact⟨k+1,r,X,Qe,HF.o.1,HF.o.2⟩
    case measure=>exact XK
  .have aU:bl=k:=X
   have HF:Qn (∃L',dI W0 f ts q Xq Mq wr sb L' { σ with bA:=R }/\Kept (λb=>¬Mq b) w wr):=by refine⟨{ L with bA:=bp },?_,HK.o.mono λb _ hb=>bq.o b hb⟩;have:=HA.o;rw[<-aU,HE.o]at this;exact this
   clear aU;go_wp2;go_end0;exact⟨⟨_,rfl⟩,HF.o⟩
def sF.pos{s:Nat}{g:Qy aj}(h:sF q s g):0<N g:=by obtain⟨a,r,rfl,-⟩:=h.head;simp
theorem YT(Ez:Env f ts q W0)(h:dI W0 f ts q Xq Mq w sb L σ)(hc:nu q σ)(hal:N σ.ak<=900000)(s:Nat)(hs1:s<2 ^ (N q.src.xs)-1)(bo:PN)(bc:Nat)(bs:Qy (Nat × aP))(hp:dh w bo (bs.map Prod.fst))(hpo:∀a,bo=O a->¬Mq a.block)(hbs:∀x∈bs,aF 141 (λb=>¬Xq b) w x.1 x.2)(hnd:(bs.map Prod.fst).Nodup)(hfr:∀p∈σ.groups.getD s [],∀x,p.2=O x->L.A s x.1 ∉ bs.map Prod.fst)(hl:N bs<=1000)(JF:∀x∈bs,Ll q s x.2) :
  Calls V 98 #[Y (O (aD sb 0)),I Qq (s:Int),Z bo (N bs) bc] w λe w'=>(∃v,e=Qv v)/\bU W0 f ts q Xq Mq w sb (eP aZ ts q s (bs.map Prod.snd) σ) w':=by
 obtain⟨v0,v1,v2,v3,v4,v5,v6,v7,v8,v9,ax,az,aA,bZ,-,-,-,-,-,-,-,-,aB,-⟩:=XY f ts q;have m:s<N σ.groups:=by rw[hc.uS];exact hs1
 have aJ:2 ^ (N q.src.xs)<=32:=ZA (n:=2) X Ez.five;have ag:N σ.groups<=31:=by rw[hc.uS];omega
 obtain⟨aC,z,aG,aH⟩:=h.kg s m;have B:=hc.kg s m;have i:=h.cells bZ;have G:=h.rM s m;have ah:=h.ne;have P:Qn (eP aZ ts q s (bs.map Prod.snd) σ = { σ with groups:=σ.groups.set s (bz ts q (E σ.groups s []) (bs.map Prod.snd)).2,ak:=if (bz ts q (E σ.groups s []) (bs.map Prod.snd)).1=T then nM aZ s (σ.groups.set s (bz ts q (E σ.groups s []) (bs.map Prod.snd)).2) σ.ak else σ.ak }):=by show _=_;unfold eP;rw[Zg X]
 have D:=yZ (ts:=ts) B (l:=bs.map Prod.snd) (λt ht=>Qb);have r:(bz ts q (E σ.groups s []) (bs.map Prod.snd)).2.length=N (E σ.groups s []):=by have:=congrArg N D.2.2;simpa using this
 have ai:Qn (∀x,Bw w x->Calls V 146 #[Z (O (aD (L.gb s) 0)) (N (E σ.groups s [])) (L.GJ s),Qu #[v0,v1,v2,v3,v4,v5,v6,v7,v8,v9,ax,az,aA],Z bo (N bs) bc] x λe w'=>e=Qv (Qr (bz ts q (E σ.groups s []) (bs.map Prod.snd)).1)/\(∃W,aW 141 161 (λb=>¬Xq b) w' (L.gb s) W (L.os s) (bz ts q (E σ.groups s []) (bs.map Prod.snd)).2)/\Kept (λb=>b≠L.gb s) x w'):=λx d=>by rw[<-bZ];exact JE Ez (h.hz.next d) (aC.below d) (λhn=>hn (h.sub _ z)) B (L.GJ s) aG aH bo bc bs (hp.below d) (λa e e'=>hpo a e (e' ▸ z)) (λy hy=>(hbs y hy).below d) hnd hfr hl JF
 have aj:Qn (∀(x:U) (W:Nat->Nat),Kept (λb=>b≠L.gb s) w x->aW 141 161 (λb=>¬Xq b) x (L.gb s) W (L.os s) (bz ts q (E σ.groups s []) (bs.map Prod.snd)).2->dI W0 f ts q Xq Mq x sb { L with A:=λk=>if k=s then W else L.A k } { σ with groups:=σ.groups.set s (bz ts q (E σ.groups s []) (bs.map Prod.snd)).2 }):=λx W hk hg=>h.group m hk hg r;have vU:Qn (∀(x:U) (L':qM),dI W0 f ts q Xq Mq x sb L' { σ with groups:=σ.groups.set s (bz ts q (E σ.groups s []) (bs.map Prod.snd)).2 }->Calls V 147 #[Y (O (aD sb 0)),I Qq (s:Int)] x λe w'=>(∃v,e=Qv v)/\bU W0 f ts q Xq Mq x sb { σ with groups:=σ.groups.set s (bz ts q (E σ.groups s []) (bs.map Prod.snd)).2,ak:=nM aZ s (σ.groups.set s (bz ts q (E σ.groups s []) (bs.map Prod.snd)).2) σ.ak } w'):=λx L' d=>
  NQ d s X Qb (λk hk=>by
   show 0<N (E (σ.groups.set s _) k []);have aK:k<N σ.groups:=Qb;rw[oM];split
   .rw[r];exact B.pos
   .exact(hc.kg k aK).pos) (λt ht=>(hc.task t ht).small Ez.five ag) hal
 have aL:Qn (∀b,¬Mq b->b≠L.gb s):=λb hb e=>hb (e ▸ z);have j:Qn (sb≠L.gb s/\L.gs≠L.gb s):=⟨λe=>(ah.2.2.2 s m).1 e.symm,λe=>h.Pm (e ▸ h.sub _ z)⟩;have aU:¬((s:Int)=((2 ^ (N q.src.xs)-1:Nat):Int)):=X;have au:Qp w (aD sb 8)=O (I Qq ((2 ^ (N q.src.xs)-1:Nat):Int)):=by rw[<-aB];exact i.cell 8
 have Q:=i.at 13;have aM:=Zh i;have aV:(s:Int)<(N σ.groups:Int):=X;generalize eP aZ ts q s (bs.map Prod.snd) σ=KN,bz ts q (E σ.groups s []) (bs.map Prod.snd)=IM at*;obtain⟨I1,I2⟩:=IM;simp only at P ai aj vU;generalize aR:2 ^ (N q.src.xs)-1=SS at*;generalize N (E σ.groups s [])=ggl at*;generalize L.gb s=ggb,L.GJ s=ggc,L.gs=ggs at*;generalize aT:N σ.groups=gn at*;generalize L.NG=acM at*;clear h hc hal hp hpo hbs hnd hfr hl JF m aJ ag aC z aG aH B i ah D r bZ aB aR aT hs1 Ez;go_enter func98,ntmps98;go_wp2_with fail;have i:=aM.o;obtain⟨a0,a1,a2,a3,a4,a5,a6,a7,a8,a9,jq,jP,R⟩:=i.k13;clear i;refine Zo (S:=λx=>Kept (λb=>b≠ggb) w x) Qd (ZP ((Q9 (M (H w)) w).drew) (λ_ hl _=>hl)) (λg=>?_);refine wt 0 (Y (O (aD sb 0))) g ?_;refine wt 1 (Y (O (aD sb 0))) g ?_;refine wt 2 (Y (O (aD sb 13))) g ?_;refine wT 3 (Z (O (aD ggs 0)) gn acM) g (λx d=>?_) ?_
 .have e0:=Jl d Q j.o.1;go_simp
 refine wt 4 (I Qq (s:Int)) g ?_;refine wt 5 (Y (O (aD ggs s))) g ?_;refine wT 6 (Z (O (aD ggb 0)) ggl ggc) g (λx d=>?_) ?_
 .have e0:=Jl d G j.o.2;go_simp
 refine wt 7 (Y (O (aD sb 0))) g ?_;refine wt 8 (Y (O (aD sb 0))) g ?_;refine wt 9 (Y (O (aD sb 0))) g ?_;refine wT 10 (Qu #[v0,v1,v2,v3,v4,v5,v6,v7,v8,v9,ax,az,aA]) g (λx d=>?_) ?_
 .have e0:=Jl d a0 j.o.1;have e1:=Jl d a1 j.o.1;have e2:=Jl d a2 j.o.1;have e3:=Jl d a3 j.o.1;have e4:=Jl d a4 j.o.1;have e5:=Jl d a5 j.o.1;have e6:=Jl d a6 j.o.1;have e7:=Jl d a7 j.o.1;have e8:=Jl d a8 j.o.1;have e9:=Jl d a9 j.o.1;have aX:=Jl d jq j.o.1;have aY:=Jl d jP j.o.1;have bf:=Jl d R j.o.1;go_simp
 refine wt 11 (Z bo (N bs) bc) g ?_;refine wR 12 λK hK=>?_;go_simp;refine XX (ai.o _ ((Q9 (M (H w)) w).drew)) ?_;rintro e w2 ⟨rfl,aN,aO⟩;refine hK.o _ _ (g.trans aO) (λg=>?_);clear hK K;refine wR 13 λK hK=>?_;go_simp;refine hK.o _ _ g λg=>?_;clear hK K;refine wD ?_;try simp only[pV]
 try simp only[pV]
 obtain⟨W,aa⟩:=aN;have C:=g;have u:=aj.o w2 W C aa;obtain⟨aQ,qP⟩:=aS u (C.mono λb _ hb=>aL.o b hb)
 cases I1 with
 |false =>
  have HF:Qn (bU W0 f ts q Xq Mq w sb KN w2):=by rw[P.o];exact⟨_,u.post qP.o⟩
  clear g aa C u a0 a1 a2 a3 a4 a5 a6 a7 a8 a9 jq jP R G Q au;go_wp2;go_end0;exact⟨⟨_,rfl⟩,HF.o⟩
 |true =>
  have av:=vU.o w2 _ u;clear g aa C u a0 a1 a2 a3 a4 a5 a6 a7 a8 a9 jq jP R G Q au;go_wp2_with fail;refine av.mono ?_;rintro e w3 ⟨⟨rv,rfl⟩,aI⟩;have HF:Qn (bU W0 f ts q Xq Mq w sb KN w3):=by
   rw[P.o];exact bU.trans qP.o (λ_ h=>h) (λ_ h=>.inl h) (λb=>⟨λh=>.inl h,λh=>by
    rcases h with h|h
    .exact h
    .exact aQ.o.sub b h⟩) aI
  clear av aI;go_wp2;go_end0;exact⟨⟨_,rfl⟩,HF.o⟩
def Es(Ez:Env f ts q W0)(h:dI W0 f ts q Xq Mq w sb L σ)(hc:nu q σ)(hal:N σ.ak<=900000)(s:Nat)(hs1:s<2 ^ (N q.src.xs))(bo:PN)(bc:Nat)(bs:Qy (Nat × aP))(hp:dh w bo (bs.map Prod.fst))(hpo:∀a,bo=O a->¬Mq a.block)(hbs:∀x∈bs,aF 141 (λb=>¬Xq b) w x.1 x.2)(hnd:(bs.map Prod.fst).Nodup)(hfr:∀k,k<N σ.groups->∀p∈σ.groups.getD k [],∀x,p.2=O x->L.A k x.1 ∉ bs.map Prod.fst)(hl:N bs<=1000)(JF:∀x∈bs,Ll q s x.2) :
  Calls V 98 #[Y (O (aD sb 0)),I Qq (s:Int),Z bo (N bs) bc] w λe w'=>(∃v,e=Qv v)/\bU W0 f ts q Xq Mq w sb (eP aZ ts q s (bs.map Prod.snd) σ) w':=by
 by_cases r:s=2 ^ (N q.src.xs)-1
 .subst r;refine(TW Ez h bo bc bs hp (λa e m=>hpo a e (m ▸ h.msb)) hbs (λx n=>(JF x n).ok) hl).mono ?_;rintro e w' ⟨g,i,j,l⟩;refine⟨g,i,?_⟩;have d:eP aZ ts q (2 ^ (N q.src.xs)-1) (bs.map Prod.snd) σ = { σ with bA:=(bs.map Prod.snd).foldl (jd ts q) σ.bA }:=by unfold eP;rw[Zb rfl]
  rw[d];exact j.post l
 .exact YT Ez h hc hal s X bo bc bs hp hpo hbs hnd (hfr s (by rw[hc.uS];omega)) hl JF
def Ps{x:U}{Tq:Array Qm}(h:GB x sb t (#[v0,v1,v2,v3,v4,v5,v6,v7,v8,v9,v10,v11,v12]++Tq)):Qp x (aD sb 0)=O v0/\Qp x (aD sb 1)=O v1/\Qp x (aD sb 2)=O v2/\Qp x (aD sb 3)=O v3/\Qp x (aD sb 4)=O v4/\Qp x (aD sb 5)=O v5/\Qp x (aD sb 6)=O v6/\Qp x (aD sb 7)=O v7/\Qp x (aD sb 8)=O v8/\Qp x (aD sb 9)=O v9/\Qp x (aD sb 10)=O v10/\Qp x (aD sb 11)=O v11/\Qp x (aD sb 12)=O v12:=by exact⟨(h.cell 0).trans (Jv Qa),(h.cell 1).trans (Jv Qa),(h.cell 2).trans (Jv Qa),(h.cell 3).trans (Jv Qa),(h.cell 4).trans (Jv Qa),(h.cell 5).trans (Jv Qa),(h.cell 6).trans (Jv Qa),(h.cell 7).trans (Jv Qa),(h.cell 8).trans (Jv Qa),(h.cell 9).trans (Jv Qa),(h.cell 10).trans (Jv Qa),(h.cell 11).trans (Jv Qa),(h.cell 12).trans (Jv Qa)⟩
def Gl{bs:Qy (Nat × aP)}(h:(bs.map Prod.fst).Pairwise (· < ·)):(bs.map Prod.fst).Nodup:=h.imp λa=>Nat.ne_of_lt a
def Oi(ts:Qy af)(q:ae)(conc:Qy Nat)(h8:N conc<=8)(a b:Qy aj)(ha:N a<=20):N (jr ts q conc a b)<=340:=by
 have d:N (dA a)<=20:=ZN (by have:=uM a [];simpa [dA] using this) ha;unfold jr;have key:∀l:Qy (Nat × aP),N (l.flatMap λx=>dJ ts q conc x.2 b)<=17*N l:=by
  intro l
  induction l with
  |nil=>simp
  |cons x l ih =>
   rw[XE,ZG,ZK];have:=(zi ts q conc x.2 b h8).2;omega
 exact ZN (key _) X
theorem dI.old(h:dI W0 f ts q Xq Mq w sb L σ)(hk:k<N σ.groups){p:aj}(hp:p∈σ.groups.getD k []){y:Nat × aP}(hy:p.2=O y):L.A k y.1<M (H w):=((h.kg k hk).1.tree p hp y hy).lt
theorem acO(Ez:Env f ts q W0)(h:dI W0 f ts q Xq Mq w sb L σ)(hc:nu q σ)(hal:N σ.ak<=900000)(i:Nat)(hi:i<N q.src.xs) :
  Calls V 60 #[Y (O (aD sb 0)),Qu #[I Qq ((2 ^ i:Nat):Int),I Qq 0]] w λe w'=>(∃v,e=Qv v)/\bU W0 f ts q Xq Mq w sb (sH aZ ts q (aB ts q) (2 ^ i,0) σ) w':=by
 obtain⟨v0,v1,v2,v3,v4,v5,v6,v7,v8,v9,C,D,G,bZ,-⟩:=XY f ts q;have h5:=Ez.five;have aa:2 ^ i<2 ^ (N q.src.xs):=XN X hi;have aH:2 ^ (N q.src.xs)<=32:=ZA (n:=2) X h5;have HD:Qn (sH aZ ts q (aB ts q) (2 ^ i,0) σ=eP aZ ts q (2 ^ i) [dN ts q (aB ts q) (i:Int)] σ):=by show _=_;unfold sH;rw[Zb rfl,xq i X]
 have A:=ru ts q (conc:=aB ts q) (XC ts q) (s:=(i:Int)) X X;have ag:0<2 ^ i:=Nat.pow_pos X;have ai:0<N (dw (2 ^ i))/\N (dw (2 ^ i))<=64:=by refine⟨?_,WK _⟩;have:i=0∨i=1∨i=2∨i=3∨i=4:=X;rcases this with rfl|rfl|rfl|rfl|rfl <;> decide
 have Cw:Qn (∀x,Calls V 100 #[I Qq ((2 ^ i:Nat):Int)] x λe w'=>∃v,e=Qv v/\w'.ownsRow (M (H x)) 3 1 v (N (dw (2 ^ i))) ((dw (2 ^ i)).map (Value.int J))/\Bw x w'):=λx=>A7 (2 ^ i) X x;have Ii:=Zh (xq i X);have aI:Qn (∀x,Bw w x->Calls V 99 #[Qu #[v0,v1,v2,v3,v4,v5,v6,v7,v8,v9,C,D,G],I J (i:Int)] x (bN 141 (λb=>¬Xq b) x (dN ts q (aB ts q) (i:Int)))):=λx u=>by rw[<-bZ];exact JI Ez (h.hz.next u) (i:Int) X X
 have Li:Qn (∀(x:U) (c r:Nat),Bw w x->M (H w)<=r->M (H w)<=c->Qp x (aD c 0)=O (Y (O (aD r 0)))->aF 141 (λb=>¬Xq b) x r (dN ts q (aB ts q) (i:Int))->Calls V 98 #[Y (O (aD sb 0)),I Qq ((2 ^ i:Nat):Int),Z (O (aD c 0)) 1 1] x λe w'=>(∃v,e=Qv v)/\bU W0 f ts q Xq Mq x sb (sH aZ ts q (aB ts q) (2 ^ i,0) σ) w'):=λx c r u hr aV aP ht=>by
  rw[HD.o];exact Es Ez (h.below u) hc hal (2 ^ i) aa (O (aD c 0)) 1 [(r,dN ts q (aB ts q) (i:Int))] ⟨Qa,λj hj=>⟨c,0,rfl,by
   grind⟩⟩ (λa e hm=>by injection e with e;rw[<-e]at hm;have:=(h.lt (h.sub _ hm)).2;grind) (λy R=>by rw[Xj]at R;rw[R];exact ht) Qa (λk hk p hp y R hm=>by
    rw[List.map_singleton,Xj]at hm;have:=h.old hk hp R;omega) Qa (λy R=>by rw[Xj]at R;rw[R];exact⟨A.1,A.2.1,Qb⟩)
 obtain⟨aK,Cz⟩:=aS h bZ;have Oj:=h.blk;rw[bZ]at Oj;have YU:Qn (∀b,M (H w)<=b->¬Mq b):=λb hb hm=>Qk ((h.lt (h.sub _ hm)).2);have B:∀x,Cb 97 #[Qu #[I Qq ((2 ^ i:Nat):Int),I Qq 0]] x (Qr T):=λx=>uR (2 ^ i) 0 x;clear h hc hal hi h5 aa aH HD A ag Ez bZ;generalize sH aZ ts q (aB ts q) (2 ^ i,0) σ=DN at*;generalize dN ts q (aB ts q) (i:Int)=ST,dw (2 ^ i)=RL at*;obtain⟨tl,aj⟩:∃n,n=2 ^ i:=⟨_,rfl⟩;rw[<-aj]at Cw Li B ⊢;clear aj;obtain⟨Tq,hT⟩:=eY (lM L σ);rw[<-hT]at Oj;have vX:=Zh Oj;clear Oj hT;obtain⟨w1,aL,P,au⟩:=bC w #[I Qq (tl:Int),I Qq 0] 118;obtain⟨t0,t1⟩:=au.k2;obtain⟨aM,qO⟩:=aS P (vX.o.keep (ZP (s:=λb=>b<M (H w)) P (λ_ h _=>h)) vX.o.lt);have YV:=B w1;clear P au B;go_enter func60,ntmps60;go_wp2_with fail;refine YV.mono ?_;rintro e z ⟨rfl,m⟩;clear YV aL;have s0:=cB m t0;obtain⟨t,l⟩:=aS (az aM.o m) (qO.o.keep (ZP (s:=λb=>b<M (H w1)) m (λ_ h _=>h)) qO.o.lt);clear m t0 t1;go_wp2_with fail;refine Zo (S:=λx=>Kept (λb=>¬Mq b) z x/\∃Tq,GB x sb 95 (#[v0,v1,v2,v3,v4,v5,v6,v7,v8,v9,C,D,G]++Tq)) Qd ⟨ZP ((Q9 (M (H z)) z).drew) (λ_ hl _=>hl),_,l.o⟩ (λd=>?_);refine wt 0 (Y (O (aD sb 0))) d ?_;refine wt 1 (Y (O (aD (M (H w)) 0))) d ?_;refine wT 2 (I Qq (tl:Int)) d (λx u=>?_) ?_
 .have e0:=Jl u.1 s0 (YU.o _ (Za _));go_simp
 refine wt 3 (Y (O (aD sb 0))) d ?_;refine wt 4 (Y (O (aD sb 0))) d ?_;refine wt 5 (Y (O (aD sb 0))) d ?_;refine wT 6 (Qu #[v0,v1,v2,v3,v4,v5,v6,v7,v8,v9,C,D,G]) d (λx u=>?_) ?_
 .obtain⟨T2,C9⟩:=u.2;obtain⟨e0,e1,e2,e3,e4,e5,e6,e7,e8,e9,aQ,aR,aT⟩:=Ps C9;go_simp
 refine wt 7 (Y (O (aD (M (H w)) 0))) d ?_;refine wT 8 (I Qq (tl:Int)) d (λx u=>?_) ?_
 .have e0:=Jl u.1 s0 (YU.o _ (Za _));go_simp
 refine wR 9 λK g=>?_;go_simp;refine XX (Cw.o _) ?_;rintro e w3 ⟨v,rfl,hv,av⟩;have W:=(Q9 (M (H z)) z).drew.trans av;obtain⟨iv,oW,oq,jT,-⟩:=mK hv X;obtain⟨ja,jc,jx⟩:=iv;simp only[ah.val]at oW oq jT;subst oq;subst oW;obtain⟨jb,aU,rfl,ax⟩:=Q0 jT.2 ai.1;have j0:=ax 0 ai.1;rw[XH,Ii.o]at j0;have Aw:=Zh (l.o.keep (ZP (s:=λb=>b<M (H z)) W (λ_ h _=>h)) l.o.lt);refine g.o _ _ ⟨ZP W (λ_ h _=>h),_,Aw.o⟩ (λd=>?_);clear g K hv jT ax;refine wR 10 λK g=>?_;go_simp;refine g.o _ _ d λd=>?_;clear g K;refine wR 11 λK g=>?_;go_simp;refine g.o _ _ d λd=>?_;clear g K;refine wR 12 λK g=>?_;go_simp;refine XX (aI.o _ (az t.o W)) ?_;rintro e w4 ⟨r,rfl,aA,aN,aO,aC⟩;have zK:=az W aC;refine g.o _ _ ⟨ZP zK (λ_ h _=>h),_,l.o.keep (ZP (s:=λb=>b<M (H z)) zK (λ_ h _=>h)) l.o.lt⟩ (λd=>?_);clear g K;refine wR 13 λK g=>?_;go_simp;obtain⟨w6,oV⟩:=eY (w4.alloc (Qt #[Y (O (aD r 0))] 93));have FQ:Bw w4 w6:=by rw[oV];exact cZ _ _
 have xE:=az zK FQ;have c6:Qp w6 (aD (M (H w4)) 0)=O (Y (O (aD r 0))):=by rw[oV];simp
 rw[<-oV];clear oV;have zg:=Zh (az t.o xE);refine g.o _ _ ⟨ZP xE (λ_ h _=>h),_,l.o.keep (ZP (s:=λb=>b<M (H z)) xE (λ_ h _=>h)) l.o.lt⟩ (λd=>?_);clear g K;refine wR 14 λK g=>?_;go_simp;refine XX (Li.o w6 (M (H w4)) r zg.o (Ql t.o.size W.size) (Ql t.o.size zK.size) c6 (aA.below FQ)) ?_;rintro e w7 ⟨⟨rv,rfl⟩,Q⟩;have aJ:=Q;obtain⟨L7,X7,M7,aG,lZ,-⟩:=aJ;refine g.o _ _ ⟨(ZP xE (λ_ h _=>h)).trans lZ,_,by have:=aG.blk;rw[Cz.o]at this;exact this⟩ (λd=>?_);clear g K aG lZ c6 FQ xE aA aN aO aC zK W av j0;refine wD ?_;try simp only[pV]
 try simp only[pV]
 have HF:Qn (bU W0 f ts q Xq Mq w sb DN w7):=bU.trans (ZP zg.o (λ_ h hb=>h)) (λ_ h=>h) (λ_ h=>.inl h) (λb=>⟨λh=>.inl h,λh=>by
  rcases h with h|h
  .exact h
  .exact aK.o.sub b h⟩) Q
 clear d Q s0;go_wp2;refine X8 (results_none rfl _ _ _) rfl ?_;exact⟨⟨_,rfl⟩,HF.o⟩
theorem acP(Ez:Env f ts q W0)(h:dI W0 f ts q Xq Mq w sb L σ)(hc:nu q σ)(hal:N σ.ak<=900000)(tl tr:Nat)(hr0:tr≠0)(hl1:tl<N σ.groups)(hr1:tr<N σ.groups)(hlr:tl &&& tr=0)(hhr:(bI (E σ.groups tr [])).isSome=T) :
  Calls V 60 #[Y (O (aD sb 0)),Qu #[I Qq (tl:Int),I Qq (tr:Int)]] w λe w'=>(∃v,e=Qv v)/\bU W0 f ts q Xq Mq w sb (sH aZ ts q (aB ts q) (tl,tr) σ) w':=by
 obtain⟨v0,v1,v2,v3,v4,v5,v6,v7,v8,v9,t,u,A,bZ,-⟩:=XY f ts q;have h5:=Ez.five;have aJ:2 ^ (N q.src.xs)<=32:=ZA (n:=2) X h5;have aK:=hc.uS;have HD:Qn (sH aZ ts q (aB ts q) (tl,tr) σ=eP aZ ts q (tl|||tr) (jr ts q (aB ts q) (E σ.groups tl []) (E σ.groups tr [])) σ):=by show _=_;unfold sH;rw[Zg hr0]
 have ag:tl|||tr<2 ^ (N q.src.xs):=rq X X;have ah:=yt (ts:=ts) (XC ts q) hlr (hc.kg tl hl1) (hc.kg tr hr1) hhr;have h8:N (aB ts q)<=8:=by rw[XC];exact Ez.eight
 have aL:=Oi ts q (aB ts q) h8 (E σ.groups tl []) (E σ.groups tr []) (hc.kg tl hl1).short;have aM:Qn (∀x,Bw w x->Calls V 101 #[Qu #[v0,v1,v2,v3,v4,v5,v6,v7,v8,v9,t,u,A],Z (O (aD (L.gb tl) 0)) (N (E σ.groups tl [])) (L.GJ tl),Z (O (aD (L.gb tr) 0)) (N (E σ.groups tr [])) (L.GJ tr)] x (jk 141 93 (λb=>¬Xq b) x (jr ts q (aB ts q) (E σ.groups tl []) (E σ.groups tr [])))):=λx j=>by rw[<-bZ];exact SY Ez (h.hz.next j) ((h.kg tl hl1).1.below j) (hc.kg tl hl1).short (L.GJ tl) (λp hp y C=>((hc.kg tl hl1).all p hp y C).1) ((h.kg tr hr1).1.below j) (hc.kg tr hr1).short (L.GJ tr) (λp hp y C=>((hc.kg tr hr1).all p hp y C).1) hhr
 have Li:Qn (∀(x x0:U) (v:Qm) (bs:Qy (Nat × aP)),Bw w x0->Bw x0 x->bs.map Prod.snd=jr ts q (aB ts q) (E σ.groups tl []) (E σ.groups tr [])->bV 141 93 (λb=>¬Xq b) (M (H x0)) x v bs->∃bo bc,v=Z bo (N bs) bc/\Calls V 98 #[Y (O (aD sb 0)),I Qq ((tl|||tr:Nat):Int),Z bo (N bs) bc] x λe w'=>(∃v,e=Qv v)/\bU W0 f ts q Xq Mq x sb (sH aZ ts q (aB ts q) (tl,tr) σ) w'):=λx x0 v bs aa j B g=>by
  have bf:N bs<=340:=by grind
  obtain⟨bo,bc,rfl,aU,-,-,aV⟩:=lL (xs:=bs.map Prod.fst) g.own (by rw[g.len];omega);rw[g.len]at g ⊢;refine⟨bo,bc,rfl,?_⟩;rw[HD.o,<-B];exact Es Ez (h.below (az aa j)) hc hal (tl|||tr) ag bo bc bs aU (λa e hm=>by have h1:=(h.lt (h.sub _ hm)).2;have h2:=aV a e;have:=aa.size;omega) (λy C=>(g.tree y C).1.JJ) (Gl g.rise) (λk hk p hp y C hm=>by
   obtain⟨z,hz,e⟩:=ZL.1 hm;have h1:=h.old hk hp C;have h2:=(g.tree z hz).2.1;have h3:=aa.size;rw[e]at h2;omega) X (λy C=>ah y.2 Qb)
 obtain⟨aW,Cz⟩:=aS h bZ;have Oj:=h.cells bZ;have m:=h.blk;rw[bZ]at m;have D:=Oj.at 13;have ai:=h.rM tl hl1;have aj:=h.rM tr hr1;have YU:Qn (∀b,M (H w)<=b->¬Mq b):=λb hb hm=>Qk ((h.lt (h.sub _ hm)).2);have au:∀x,Cb 97 #[Qu #[I Qq (tl:Int),I Qq (tr:Int)]] x (Qr F):=λx=>by
  have:=uR tl tr x
  rwa [Zr hr0]at this
 have aN:(tl:Int)<(N σ.groups:Int):=X;have aO:(tr:Int)<(N σ.groups:Int):=X;have aQ:Qn (∀(b:Nat) (x:U),Qp x (aD b 0)=O (I Qq (tl:Int))->Qp x (aD b 1)=O (I Qq (tr:Int))->Ce 87 #[Z (O (aD b 0)) 2 2] x (I Qq ((tl|||tr:Nat):Int))):=λb x h0 h1=>jh b tl tr x h0 h1 X X;clear h hc hal hhr hlr h5 aJ aK HD ag ah h8 aL Oj Ez bZ hl1 hr1 hr0;generalize sH aZ ts q (aB ts q) (tl,tr) σ=DN,jr ts q (aB ts q) (E σ.groups tl []) (E σ.groups tr [])=JT,N (E σ.groups tl [])=gll,N (E σ.groups tr [])=glr,L.gb tl=gbl,L.gb tr=gbr,L.GJ tl=gcl,L.GJ tr=gcr at*;obtain⟨Tq,hT⟩:=eY (lM L σ);rw[<-hT]at m;generalize L.gs=ggs at*;obtain⟨gn,aC⟩:=eY (N σ.groups);rw[<-aC]at D aN aO;generalize L.NG=acM at*;have vX:=Zh m;clear m hT aC;generalize (tl|||tr)=TOR at*;obtain⟨w1,aX,aF,aG⟩:=bC w #[I Qq (tl:Int),I Qq (tr:Int)] 118;obtain⟨t0,t1⟩:=aG.k2;have aR:=Zh aF;have YV:=au w1;clear aF aG au;go_enter func60,ntmps60;go_wp2_with fail;refine YV.mono ?_;rintro e w2 ⟨rfl,P⟩;clear YV aX;have G:=az aR.o P;obtain⟨s0,s1⟩:=jf P t0 t1;obtain⟨Q,dl,dr⟩:=aiq G D ai aj;have av:=Zh G;clear P G t0 t1 D ai aj;go_wp2_with fail;refine wH w2 λd=>?_;refine wt 0 (Y (O (aD sb 0))) d ?_;refine wt 1 (Y (O (aD sb 0))) d ?_;refine wt 2 (Y (O (aD sb 13))) d ?_;refine zC 3 (Z (O (aD ggs 0)) gn acM) d Q ?_;refine wt 4 (Y (O (aD (M (H w)) 0))) d ?_;refine zC 5 (I Qq (tl:Int)) d s0 ?_;refine wt 6 (Y (O (aD ggs tl))) d ?_;refine zC 7 (Z (O (aD gbl 0)) gll gcl) d dl ?_;refine wt 8 (Y (O (aD sb 0))) d ?_;refine wt 9 (Y (O (aD sb 0))) d ?_;refine wt 10 (Y (O (aD sb 13))) d ?_;refine zC 11 (Z (O (aD ggs 0)) gn acM) d Q ?_;refine wt 12 (Y (O (aD (M (H w)) 1))) d ?_;refine zC 13 (I Qq (tr:Int)) d s1 ?_;refine wt 14 (Y (O (aD ggs tr))) d ?_;refine zC 15 (Z (O (aD gbr 0)) glr gcr) d dr ?_;refine wt 16 (Z (O (aD gbl 0)) gll gcl) d ?_;refine wR 17 λK i=>?_;go_simp;refine i.o _ _ d λd=>?_;clear i K;refine wD ?_;try simp only[pV]
 try simp only[pV]
 have r:=Zh av.o.drew;have Aw:=Zh (vX.o.keep (ZP (s:=λb=>b<M (H w)) r.o (λ_ h _=>h)) vX.o.lt);have r0:Qp w2.drew (aD (M (H w)) 0)=O (I Qq (tl:Int)):=s0;have r1:Qp w2.drew (aD (M (H w)) 1)=O (I Qq (tr:Int)):=s1;clear d s0 s1 Q dl dr av;generalize w2.drew=w3 at*;go_wp2_with fail;refine Zo (S:=λx=>Kept (λb=>¬Mq b) w3 x/\∃Tq,GB x sb 95 (#[v0,v1,v2,v3,v4,v5,v6,v7,v8,v9,t,u,A]++Tq)) Qd ⟨ZP ((Q9 (M (H w3)) w3).drew) (λ_ hl _=>hl),_,Aw.o⟩ (λd=>?_);refine wt 0 (Y (O (aD sb 0))) d ?_;refine wt 1 (Y (O (aD (M (H w)) 0))) d ?_;refine wT 2 (I Qq (tl:Int)) d (λx j=>?_) ?_
 .have e0:=Jl j.1 r0 (YU.o _ (Za _));go_simp
 refine wt 3 (Y (O (aD (M (H w)) 1))) d ?_;refine wT 4 (I Qq (tr:Int)) d (λx j=>?_) ?_
 .have e0:=Jl j.1 r1 (YU.o _ (Za _));go_simp
 refine wt 7 (Y (O (aD sb 0))) d ?_;refine wt 8 (Y (O (aD sb 0))) d ?_;refine wt 9 (Y (O (aD sb 0))) d ?_;refine wT 10 (Qu #[v0,v1,v2,v3,v4,v5,v6,v7,v8,v9,t,u,A]) d (λx j=>?_) ?_
 .obtain⟨T2,C9⟩:=j.2;obtain⟨e0,e1,e2,e3,e4,e5,e6,e7,e8,e9,bg,bn,bq⟩:=Ps C9;go_simp
 refine wt 11 (Z (O (aD gbl 0)) gll gcl) d ?_;refine wt 12 (Z (O (aD gbr 0)) glr gcr) d ?_;refine wR 5 λK i=>?_;go_simp;obtain⟨w4,l⟩:=eY ((w3.alloc (Qt #[I Qq (tl:Int),I Qq (tr:Int)] 78)).drew);have Gi:Bw w3 w4:=by rw[l];exact(cZ _ _).drew
 have u0:Qp w4 (aD (M (H w3)) 0)=O (I Qq (tl:Int)):=by rw[l];exact(GB.alloc w3 _ _).cell 0
 have u1:Qp w4 (aD (M (H w3)) 1)=O (I Qq (tr:Int)):=by rw[l];exact(GB.alloc w3 _ _).cell 1
 rw[<-l];clear l;have ax:∀x,Bw w3 x->GB x sb 95 (#[v0,v1,v2,v3,v4,v5,v6,v7,v8,v9,t,u,A]++Tq):=λx j=>Aw.o.keep (ZP (s:=λb=>b<M (H w3)) j (λ_ h _=>h)) Aw.o.lt;have aA:=Zh ax;clear ax;refine i.o _ _ ⟨ZP Gi (λ_ h _=>h),_,aA.o _ Gi⟩ (λd=>?_);clear i K;refine wR 6 λK i=>?_;go_simp;refine XX (aQ.o (M (H w3)) w4 u0 u1) ?_;rintro e wz ⟨rfl,aY⟩;have om:=aY.symm;subst om;refine i.o _ _ d λd=>?_;clear i K u0 u1;refine wR 13 λK i=>?_;go_simp;refine XX (aM.o w4 (az r.o Gi)) ?_;rintro e w6 ⟨v,bs,rfl,B,g,R⟩;obtain⟨bo,bc,rfl,aH⟩:=Li.o w6 w4 v bs (az r.o Gi) R B g;have YW:=az Gi R;have zg:=Zh (az r.o YW);refine i.o _ _ ⟨ZP YW (λ_ h _=>h),_,aA.o _ YW⟩ (λd=>?_);clear i K;refine wR 14 λK i=>?_;generalize N bs=bl at*;go_simp;refine XX aH ?_;rintro e w7 ⟨⟨rv,rfl⟩,W⟩;have aT:=W;obtain⟨L7,X7,M7,aI,lZ,-⟩:=aT;refine i.o _ _ ⟨(ZP YW (λ_ h _=>h)).trans lZ,_,by have:=aI.blk;rw[Cz.o]at this;exact this⟩ (λd=>?_);clear i K aI lZ YW R Gi g B aH;refine wD ?_;try simp only[pV]
 try simp only[pV]
 have HF:Qn (bU W0 f ts q Xq Mq w sb DN w7):=bU.trans (ZP zg.o (λ_ h hb=>h)) (λ_ h=>h) (λ_ h=>.inl h) (λb=>⟨λh=>.inl h,λh=>by
  rcases h with h|h
  .exact h
  .exact aW.o.sub b h⟩) W
 clear d W r0 r1;go_wp2;go_end0;exact⟨⟨_,rfl⟩,HF.o⟩
def ahd(Ez:Env f ts q W0)(h:dI W0 f ts q Xq Mq w sb L σ)(hc:nu q σ)(hal:N σ.ak<=900000)(t:bB)(ht:lq (N q.src.xs) σ.groups t) :
  Calls V 60 #[Y (O (aD sb 0)),Qu #[I Qq (t.1:Int),I Qq (t.2:Int)]] w λe w'=>(∃v,e=Qv v)/\bU W0 f ts q Xq Mq w sb (sH aZ ts q (aB ts q) t σ) w':=by
 obtain⟨b,d⟩:=t;rcases ht with⟨a,i,hi,e⟩|⟨a,h1,h2,h3,h4,h6⟩
 .have a:d=0:=a;have e:b=2 ^ i:=e;subst a e;exact acO Ez h hc hal i hi
 .exact acP Ez h hc hal b d a h1 h2 h3 h6
def BS(Fq:Qz)(w:U)(t:aP)(e:Ending)(w':U):Prop:=∃v nv,e=Qv (Qw #[v,I Qq (t.d.cost:Int)])/\nv.map dM=t.ns/\eU 138 Fq (M (H w)) w' v nv/\Bw w w'
def TV(Ez:Env f ts q W0)(h:dI W0 f ts q Xq Mq w sb L σ)(hok:iP q σ.bA)(hl:N σ.bA.ns<=800)(hF:∀b,M (H w)<=b->Fq b) :
  Calls V 34 #[Y (O (aD sb 0))] w (BS Fq w σ.bA):=by
 obtain⟨v0,v1,v2,v3,v4,v5,v6,v7,v8,v9,aa,ag,ah,P,-⟩:=XY f ts q;have i:Qp w (aD sb 16)=O (Y (O (aD L.bA 0))):=by have:=h.blk;rw[P]at this;exact this.cell 16
 obtain⟨p,Q,R⟩:=h.bA.kI;have C:p.cost=σ.bA.d.cost:=congrArg bW.cost R;have n:Qp w (aD L.bA 5)=O (I Qq (σ.bA.d.cost:Int)):=by rw[<-C];exact Q.c5
 have m:bM w 0:=λj u hj=>h.hz.below.cell _ _ _ (Ez.shapes j u hj);have D:Qn (∀x,x=w.drew->Calls V 63 #[Y (O (aD L.bA 0))] x (iA 138 Fq x σ.bA.ns)):=λx hx=>by rw[hx];exact TU (h.bA.below ((Q9 _ _).drew)) (Jd ((Q9 _ _).drew) m) hok X hF
 have G:=D.o w.drew rfl;generalize L.bA=bp,σ.bA=B at*;clear h hok hl P Q R C m D Ez p;obtain⟨r,t⟩:=B;simp only at*;obtain⟨cost,y⟩:=eY (r.cost);have S:Qn (∀v l w',l.map dM=t->eU 138 Fq (M (H w)) w' v l->Bw w w'->BS Fq w ⟨r,t⟩ (Qv (Qw #[v,I Qq (cost:Int)])) w'):=λv l w' h1 h2 h3=>⟨v,l,by rw[y],h1,h2,h3⟩;rw[<-y]at n;clear y;generalize BS Fq w ⟨r,t⟩=BP at*;go_enter func34,ntmps34;go_wp2_with fail;refine wH w λa=>?_;refine wt 0 (Y (O (aD sb 0))) a ?_;refine wt 1 (Y (O (aD sb 0))) a ?_;refine wt 2 (Y (O (aD sb 16))) a ?_;refine zC 3 (Y (O (aD bp 0))) a i ?_;refine wt 5 (Y (O (aD sb 0))) a ?_;refine wt 6 (Y (O (aD sb 0))) a ?_;refine wt 7 (Y (O (aD sb 16))) a ?_;refine zC 8 (Y (O (aD bp 0))) a i ?_;refine wt 9 (Y (O (aD bp 0))) a ?_;refine wt 10 (Y (O (aD bp 0))) a ?_;refine wt 11 (Y (O (aD bp 5))) a ?_;refine zC 12 (I Qq (cost:Int)) a n ?_;refine wR 4 λK g=>?_;go_simp;refine XX G ?_;rintro e w2 ⟨v,l,rfl,z,k,A⟩;obtain⟨na,nm,nc,rfl⟩:=Xh k.own;refine g.o _ _ ((Q9 (M (H w)) w).drew.trans A) (λa=>?_);clear g K;refine wR 13 λK g=>?_;go_simp;refine g.o _ _ a λa=>?_;clear g K;refine wR 14 λK g=>?_;go_simp;refine g.o _ _ a λa=>?_;clear g K;refine wD ?_;try simp only[pV]
 try simp only[pV]
 have W:=Zh (S.o _ l w2 z k a);clear a k G i n;go_wp2;exact W.o
section
open Go.Conc
def TY{b:Frame}{k:Qy Go.Item}{cs:Qy Frame}{w':U}{cases:Array CommCase}{blocking:Bool}{shape:CommShape}(ho:ops[i]? = O o)(hw:Region.wanted o (yielded ops a.tmps)=T)(hr:(execOp a.eval o).run P w=.ok (.comm cases blocking shape) w') :
  ∃f,Go.stepG P T (Go.Conc.G (b.at a (.inRegion ops (i::rest)::k)) cs) w=.comm (Go.Conc.G (b.at a (.inRegion ops (i::rest)::k)) cs) cases blocking shape w' f:=by
 by_cases e:b.kind=.early
 .have d:(b.kind==CallKind.early)=true:=by simpa using e
  rw[stepG_oper ho hw];simp[Go.stepG.apply,hr,Go.Conc.G,Frame.at,d,GStep.after]
 .exact⟨_,stepG_comm ho hw e hr⟩
def Et{id:Nat}{c:CommCase}(hrg:List.range ops.size=0::rest)(ho:ops[0]? = O o)(hw:Region.wanted o (yielded ops a.tmps)=T)(hr:(execOp a.eval o).run P w=.ok (.comm #[c] F .select) w)
  (hs:∀(fr:Frame) (cs:Qy Frame) (i:Array Event),Go.stepG P T (Go.Conc.G fr cs) w=.comm (Go.Conc.G fr cs) #[c] F .select w i->Go.step P (solo (Go.Conc.G fr cs) w)=.next (solo (Go.Conc.G (fr.finish v) cs) w)) (h:wpOps P ops Q rest (a.put o.dst v) w):(Code.region id ops F).wp P Q a w:=by
 intro b k cs;obtain⟨e,l,w',m,d⟩:=wp_ops rest _ _ h b k cs;obtain⟨i,f⟩:=TY (P:=P) (b:=b) (k:=k) (cs:=cs) (rest:=rest) ho hw hr;have j:Go.step P (lone (b.at a (.inRegion ops (0::rest)::k)) cs w)=.next (lone (b.at (a.put o.dst v) (.inRegion ops rest::k)) cs w):=by have g:=hs _ _ _ f;rw[Frame.finish_at,ho]at g;exact g
 refine⟨e,l,w',m,.of_steps (.head ?_ (.one j)) d⟩;have:=step_region (P:=P) (b:=b) (a:=a) (k:=k) (cs:=cs) (w:=w) (ops:=ops) (id:=id);rw[hrg]at this;exact this
def nQ(ho:ops[i]? = O o)(hw:Region.wanted o (yielded ops a.tmps)=T)(hr:(execOp a.eval o).run P w=.ok (.value v) w)(h:wpOps P ops Q rest (a.put o.dst v) w):wpOps P ops Q (i::rest) a w:=by simp only[wpOps,ho,hw,if_true];left;unfold Oper.wp;rw[hr];exact h
def TZ(h:dI W0 f ts q Xq Mq w sb L σ)(c:Nat)(pick:Int)(s r:Nat)(tm:Bool)(hc:w.heap[c]? = O (.chan 0 #[] T s r tm)) :
  Calls V 32 #[Y (O (aD sb 0)),.chan (O c),I J pick] w λe w'=>(∃v,e=Qv v)/\bU W0 f ts q Xq Mq w sb { σ with status:=4 } w':=by
 obtain⟨v0,B,C,v3,v4,v5,D,G,K,v9,u,y,z,j,-⟩:=XY f ts q;have a:=h.cells j;have m:=a.at 18;have n:=a.frozen 18;have p:=Zh hc;have t:Qn (bU W0 f ts q Xq Mq w sb { σ with status:=4 } (Qo w (aD sb 18) (I J 4))):=by have d:=h.ne;have i:Kept (λb=>b≠sb) w (Qo w (aD sb 18) (I J 4)):=Xd _ _ _ (λh=>h rfl);refine⟨_,h.next (i.mono λb _ A=>A.1) (av:=L.av) (pv:=L.pv) (ag:=σ.ak) (pk:=σ.picks) (st:=4) ?_ (Xf h.ag i (λg e k=>d.1 (k ▸ e))) (.inl rfl) (Xf h.pk i (λg e k=>d.2.1 (k ▸ e))) (.inl rfl)⟩;rw[j];exact a.set 18 (I J 4)
 clear hc h a j;go_enter func32,ntmps32;go_upto_region 1 with fail;refine Et (rest:=[1,2]) (c:=rcase c (Qu #[])) (v:=Qw #[goInt (0),Qr F,Qu #[]]) Qd rfl Qd (by simp[go_sem,execOp,rcase,rcaseNil,Act.eval]) (λfr cs P l=>step_lone_select_recv_shut l p.o) ?_;refine nQ (v:=I J (0)) rfl Qd (by simp[go_sem,execOp,Act.eval,Act.put,goInt]) ?_;refine nQ (v:=Qr T) rfl Qd (by simp[go_sem,execOp,Act.eval,Act.put,goInt]) ?_;show Exit.then _ _ Exit.normal _ _;simp only[Act.put,Zt,Zu,Zv,Zn,QW,QX];go_wp2;go_end0;exact⟨⟨_,rfl⟩,t.o⟩
end
section
open Go.Conc
def alH(f:ay)(ts:Qy af)(q:ae)(L:qM)(σ:fU)(pv:Qm):(f.cells ts q++lM L σ).setIfInBounds 17 pv=f.cells ts q++lM { L with pv:=pv } σ:=by obtain⟨v0,g,i,v3,v4,v5,j,k,l,v9,a,b,d,e,-⟩:=XY f ts q;rw[e];rfl
def T9(W:U)(base:Nat)(t ty e:TypeId)(i:TypeInfo)(z:Qm)(size bytes:Nat)(ht:P.underlying t=O (.slice e))(hi:P.info? e=O i)(hz:i.zero=O z)(hsize:i.size=size)(hby:i.bytes=bytes)(hzs:z.cells.size=size)(hsz:0<size)
  (v:Qm) (n:Nat) (xs:Qy Qm) (hown:W.ownsRow base e size v n xs) (hb:base<=M (H W)) (news:Qy Qm) (hl:N news=size) (h1:∀u∈news,u.oneCell' = T) (hn:n<=8000) (hbb:bytes<=1000) :
  ∃d w',(Builtin.append_ #[t,t] ty #[v,Z (O (aD (M (H W)) 0)) 1 1]).run P (W.alloc (Qt news.toArray e))=.ok d w'/\w'.ownsRow base e size d (n+1) (xs++news)/\Kept (λb=>v.ownBlock≠O b) W w'/\(∃a m c,d = Z a m c)/\(d.ownBlock=v.ownBlock∨d.ownBlock=O (M (H W)+1)):=by
 obtain⟨d,w',g,k,l,_,f⟩:=XA (P:=P) (W.alloc (Qt news.toArray e)) base t ty e i z size bytes ht hi hz hsize hby hzs hsz v n xs (hown.alloc _) (aD (M (H W)) 0) 1 1 news (by rw[hl,Nat.one_mul])
  (λj u p=>by
   rw[addr_add,ZC];simp only[World.cell?,lT W _];simpa using p) h1 Qh (by have:(n+1)*bytes<=8001*1000:=Nat.mul_le_mul X hbb;omega) (by rw[Xo];omega)
 exact⟨d,w',g,k,(ZT _ _).trans (Xe l (λr e g=>g e)),Xh k,by rw[Xo]at f;exact f⟩
theorem Ua(W:U)(base:Nat)(v:Qm)(xs:Qx)(hown:W.ownsRow base 3 1 v (N xs) (xs.map (Value.int J)))(hl:N xs<=8000)(hb:base<=M (H W))(a:Int)(ty:TypeId) :
  ∃d w',(Builtin.append_ #[22,22] ty #[v,Z (O (aD (M (H W)) 0)) 1 1]).run V (W.alloc (Qt #[I J a] 3))=.ok d w'/\
   w'.ownsRow base 3 1 d (N (xs++[a])) ((xs++[a]).map (Value.int J))/\Kept (λb=>v.ownBlock≠O b) W w'/\(∃a m c,d = Z a m c)/\(d.ownBlock=v.ownBlock∨d.ownBlock=O (M (H W)+1)):=by
 obtain⟨j,k,e,f,g⟩:=Xl Tryz.kE;obtain⟨d,w',n,p,q,r,l⟩:=T9 (P:=V) W base 22 ty 3 j _ 1 8 underlying22 k e f g rfl Qc v (N xs) _ hown hb [.int J a] rfl (λu i=>by
  rw[Xj]at i;rw[i];rfl) hl Qc
 grind
theorem dI.picked(h:dI W0 f ts q Xq Mq w sb L σ){pv:Qm}{p:Int}(ho:w1.ownsRow (M (H W0)) 3 1 pv (N (σ.picks++[p])) ((σ.picks++[p]).map (Value.int J)))(hk:Kept (λb=>L.pv.ownBlock≠O b) w w1)(hat:pv.ownBlock=L.pv.ownBlock∨pv.ownBlock=O (M (H w)+1)) :
  gQ W0 f ts q Xq Mq w sb { L with pv:=pv } { σ with picks:=σ.picks++[p] } (Qo w1 (aD sb 17) pv):=by
 have a:=h.ne;have i:=h.blk.keep hk a.2.1;have d:Kept (λb=>b≠sb) w1 (Qo w1 (aD sb 17) pv):=Xd _ _ _ (λh=>h rfl);refine h.next ((hk.mono λb _ j=>j.2.2).trans (d.mono λb _ j=>j.1)) (av:=L.av) (pv:=pv) (ag:=σ.ak) (pk:=σ.picks++[p]) (st:=σ.status) ?_ ?_ (.inl rfl) ?_ ?_
 .have:=i.set 17 pv;rw[alH]at this;exact this
 .exact Xf (Xf h.ag hk (λg e=>a.2.2.1 g e)) d (λg e k=>a.1 (k ▸ e))
 .exact Xf ho d (λg e k=>fQ ho i Qc (k ▸ e))
 grind
def dI.taken(h:dI W0 f ts q Xq Mq w sb L σ){av:Qm}{ag:Qy bB}(hg:GB w1 sb 95 ((f.cells ts q++lM L σ).setIfInBounds 14 av))(ho:w1.ownsRow (M (H W0)) 118 2 av (N ag) (ag.flatMap dG))(hk:Kept (λb=>b≠sb/\L.av.ownBlock≠O b) w w1)(hat:av.ownBlock=L.av.ownBlock) :
  gQ W0 f ts q Xq Mq w sb { L with av:=av } { σ with ak:=ag } w1:=by
 have a:=h.ne;refine h.next (hk.mono λb _ i=>⟨i.1,i.2.1⟩) (av:=av) (pv:=L.pv) (ag:=ag) (pk:=σ.picks) (st:=σ.status) ?_ ho (.inl hat) ?_ (.inl rfl)
 .rw[Yd]at hg;exact hg
 .exact Xf h.pk hk (λg e=>⟨λd=>a.2.1 (d ▸ e),λd=>a.2.2.1 g d e⟩)
def dI.settled(h:dI W0 f ts q Xq Mq w sb L σ)(hal:N σ.ak<=1000000):Calls V 62 #[Y (O (aD sb 0))] w λe w'=>(∃v,e=Qv v)/\bU W0 f ts q Xq Mq w sb (mE σ) w':=by
 obtain⟨v0,u,y,v3,v4,v5,z,A,B,v9,l,m,n,r,-⟩:=XY f ts q;have k:=h.cells r;obtain⟨C,D,j,-⟩:=sI h.ag hal;have d:=k;rw[j]at d;have i:=h.ne;refine(ND sb v0 u y v3 v4 v5 z A B v9 l m n _ _ _ C (N σ.ak) D σ.cut σ.status w d).mono ?_;rintro e w' ⟨G,p,a⟩;refine⟨G,?_⟩;have t:mE σ = { σ with ak:=σ.ak,picks:=σ.picks,status:=if 0<N σ.ak then σ.status else if σ.cut=T then 3 else 2 }:=by unfold mE;split <;> rfl
 rw[t];refine⟨_,h.next (p.mono λb _ K=>K.1) (av:=L.av) (pv:=L.pv) (ag:=σ.ak) (pk:=σ.picks) (st:=if 0<N σ.ak then σ.status else if σ.cut=T then 3 else 2) ?_ (Xf h.ag p (λg e a=>i.1 (a ▸ e))) (.inl rfl) (Xf h.pk p (λg e a=>i.2.1 (a ▸ e))) (.inl rfl)⟩;rw[r];rw[<-j]at a;exact a
theorem Ub(Ez:Env f ts q W0)(h:dI W0 f ts q Xq Mq w sb L σ)(hok:Bp q σ)(h1:σ.status=1)(hpl:N σ.picks<=8000)(c:Option Nat)(hc:∀n,c=O n->∃s r tm,w.heap[n]? = O (.chan 0 #[] F s r tm))(pick:Int) :
  Calls V 32 #[Y (O (aD sb 0)),.chan c,I J pick] w λe w'=>(∃v,e=Qv v)/\bU W0 f ts q Xq Mq w sb (iy aZ ts q (aB ts q) pick σ) w':=by
 obtain⟨v0,v1,v2,v3,v4,v5,v6,v7,v8,v9,bA,bB,bC,bZ,-⟩:=XY f ts q;have m:=h.cells bZ;have hn:=hok.stat h1;have aS:=hok.ajI;have aT:N σ.ak<=520000:=X;obtain⟨aa,ac,ax,-⟩:=sI h.ag X;obtain⟨pa,pm,pc,k⟩:=Xh h.pk;have hp:=yC hn pick;obtain⟨P,hP⟩:=eY (fV (N σ.ak) pick);obtain⟨a,g⟩:∃a:Nat,P=(a:Int):=⟨P.toNat,by rw[hP];omega⟩;have p:a<N σ.ak:=by rw[<-hP,g]at hp;omega
 have u:=Ol aa (N σ.ak) ac pick w hn X;rw[<-hP,g]at u;obtain⟨v',w1,y,az,z,⟨za,zm,zc,rfl⟩,aA⟩:=Ua w (M (H W0)) L.pv σ.picks h.pk X h.hz.below.size P 22;rw[k,g]at y;obtain⟨X2,M2,i,A,B,C,D⟩:=h.picked az z aA;have bu:=Zh i;have bz:Qn (Kept (λb=>¬Mq b) w (Qo w1 (aD sb 17) (Z za zm zc))/\(∀b,Mq b->M2 b)/\(∀b,M2 b->Mq b∨M (H w)<=b)/\(∀b,X2 b↔Xq b∨M2 b)):=⟨A,B,C,D⟩;have j:=h.blk.keep z h.ne.2.1;rw[bZ]at j;have R:Qp w1 (aD sb 17)=O L.pv:=j.cell 17;rw[k]at R;have aU:=j.frozen 17;have S:Qp w (aD sb 14)=O L.av:=m.cell 14;rw[ax]at S;have W:Qp w (aD sb 17)=O L.pv:=m.cell 17;rw[k]at W;have aV:Qn (∀x,x=Qo w1 (aD sb 17) (Z za zm zc)->Calls V 61 #[Y (O (aD sb 14)),I J (a:Int)] x λe w'=>e=Qv (Qu #[I Qq ((E σ.ak a (0,0)).1:Int),I Qq ((E σ.ak a (0,0)).2:Int)])/\∃K,gQ W0 f ts q Xq Mq w sb K { σ with picks:=σ.picks++[P],ak:=σ.ak.eraseIdx a } w'):=λx hx=>by rw[hx];refine(Ta sb (M (H W0)) a _ L.av σ.ak _ i.blk (adK f ts q _ _) i.ag X p).mono ?_;rintro e w' ⟨rfl,bD,bf,bg,bn,aC⟩;exact⟨rfl,_,gQ.trans A B C D (i.taken bf bg bn aC)⟩
 have d:=hok.core.erase a (σ.picks++[P]);have YX:lq (N q.src.xs) σ.groups (E σ.ak a (0,0)):=hok.core.task _ (Xy p);have aW:=WG (rk:=aZ) (ts:=ts) (conc:=aB ts q) (XC ts q) (t:=E σ.ak a (0,0)) d Ez.five YX;have aX:Qn (∀x Q l K,dI W0 f ts q Q l x sb K { σ with picks:=σ.picks++[P],ak:=σ.ak.eraseIdx a }->Calls V 60 #[Y (O (aD sb 0)),Qu #[I Qq ((E σ.ak a (0,0)).1:Int),I Qq ((E σ.ak a (0,0)).2:Int)]] x λe w'=>(∃v,e=Qv v)/\bU W0 f ts q Q l x sb (sH aZ ts q (aB ts q) (E σ.ak a (0,0)) { σ with picks:=σ.picks++[P],ak:=σ.ak.eraseIdx a }) w'):=λx Q l K hx=>
  ahd Ez hx d Qb _ YX
 have ah:(sH aZ ts q (aB ts q) (E σ.ak a (0,0)) { σ with picks:=σ.picks++[P],ak:=σ.ak.eraseIdx a }).ak.length<=1000000:=by grind
 have HR:=Zh (by unfold iy;simp only;rw[<-hP,g];rfl:iy aZ ts q (aB ts q) pick σ=mE (sH aZ ts q (aB ts q) (E σ.ak a (0,0)) { σ with picks:=σ.picks++[P],ak:=σ.ak.eraseIdx a }))
 generalize iy aZ ts q (aB ts q) pick σ=SN at*;generalize sH aZ ts q (aB ts q) (E σ.ak a (0,0)) { σ with picks:=σ.picks++[P],ak:=σ.ak.eraseIdx a } = DN at*;have aY:=Zh ah;generalize (E σ.ak a (0,0)).1=tl,(E σ.ak a (0,0)).2=tr,N σ.ak=an at*;have HC:=Zh hc;clear hc;clear h hok h1 hpl bZ m hn aS aT ax k hp hP g p az z aA i A B C D j d YX aW ah Ez;go_enter func32,ntmps32;go_upto_region 1 with fail;refine Et (rest:=[1,2]) (c:=match c with|none=>rcaseNil (Qu #[])|some n=>rcase n (Qu #[])) (v:=Qw #[goInt (-1),Qr F,Qu #[]]) Qd rfl Qd (by cases c <;> simp[go_sem,execOp,rcase,rcaseNil,Act.eval]) (λfr cs es aR=>by
  cases c with
  |none=>exact step_lone_select_recv_nil aR
  |some n =>
   obtain⟨_,_,_,h⟩:=HC.o n rfl;exact step_lone_select_default aR h) ?_
 refine nQ (v:=I J (-1)) rfl Qd (by simp[go_sem,execOp,Act.eval,Act.put,goInt]) ?_;refine nQ (v:=Qr F) rfl Qd (by simp[go_sem,execOp,Act.eval,Act.put,goInt]) ?_;show Exit.then _ _ Exit.normal _ _;simp only[Act.put,Zt,Zu,Zv,Zn,QW,QX];go_wp2_with fail;refine u.mono ?_;rintro e wz ⟨rfl,bq⟩;have om:=bq.symm;subst om;clear u;go_wp2_with (first|(at_builtin;refine Xz rfl (.tmp 21) (.tmp 23) 22 rfl (Z pa pm pc) (Z (O (aD (M (H w)) 0)) 1 1) (Z za zm zc) w1 rfl rfl y ?_));clear y S W;go_upto_region 4 with fail;obtain⟨w2,G⟩:=eY (Qo w1 (aD sb 17) (Z za zm zc));rw[<-G];have ai:=aV.o w2 G;clear G R aU;go_wp2_with fail;refine ai.mono ?_;rintro e w3 ⟨rfl,K,Q,l,aF,aG,aH,aI,aJ⟩;have aj:=aX.o w3 Q l K aF;have qN:Qn (Kept (λb=>¬Mq b) w w3/\(∀b,Mq b->l b)/\(∀b,l b->Mq b∨M (H w)<=b)/\(∀b,Q b↔Xq b∨l b)):=⟨aG,aH,aI,aJ⟩;clear ai aF aG aH aI aJ;go_wp2_with fail;refine aj.mono ?_;rintro e w4 ⟨⟨rv,rfl⟩,aK⟩;obtain⟨L4,X4,M4,aL,aM,aN,aO,aP⟩:=bU.trans qN.o.1 qN.o.2.1 qN.o.2.2.1 qN.o.2.2.2 aK;have au:=aL.settled aY.o;have Ob:Qn (Kept (λb=>¬Mq b) w w4/\(∀b,Mq b->M4 b)/\(∀b,M4 b->Mq b∨M (H w)<=b)/\(∀b,X4 b↔Xq b∨M4 b)):=⟨aM,aN,aO,aP⟩;clear aj aK aL aM aN aO aP;go_wp2_with fail;refine au.mono ?_;rintro e w5 ⟨⟨bE,rfl⟩,aQ⟩;have HF:Qn (bU W0 f ts q Xq Mq w sb SN w5):=by rw[HR.o];exact bU.trans Ob.o.1 Ob.o.2.1 Ob.o.2.2.1 Ob.o.2.2.2 aQ
 clear au aQ;go_wp2;go_end0;exact⟨⟨_,rfl⟩,HF.o⟩
def Uc(Ez:Env f ts q W0)(h:dI W0 f ts q Xq Mq w sb L σ)(hok:Bp q σ)(h1:σ.status=1)(hpl:N σ.picks<=8000)(c s r:Nat)(tm:Bool)(hc:w.heap[c]? = O (.chan 0 #[] F s r tm))(pick:Int) :
  Calls V 32 #[Y (O (aD sb 0)),.chan (O c),I J pick] w λe w'=>(∃v,e=Qv v)/\bU W0 f ts q Xq Mq w sb (iy aZ ts q (aB ts q) pick σ) w':=Ub Ez h hok h1 hpl (O c) (λn e=>by cases e;exact⟨s,r,tm,hc⟩) pick
end
section
open Go.Conc
def dI.alL{M':Qz}(h:dI W0 f ts q Xq Mq w sb L σ)(h1:∀b,Mq b->M' b)(h2:∀b,M' b->Xq b):dI W0 f ts q Xq M' w sb L σ:=
 ⟨h.hz,h2,h1 _ h.msb,h.blk,h.Pm,h.gsl,h.rM,λk a=>⟨(h.kg k a).1,h1 _ (h.kg k a).2.1,(h.kg k a).2.2⟩,h.apart,h.ag,λb e=>h1 b (h.Pn b e),h.bA,h.pk,λb e=>h1 b (h.Po b e)⟩
def Tryz.YY:(V.info? 133).map (·.bytes)=O 0:=Qd
def mkc(w:U):(Instr.makeChan 89 (.int J 0)).run V w=.ok (.chan (O (M (H w)))) (w.alloc (.chan 0 #[] F 0 0 F)):=by obtain⟨i,a,b⟩:=Option.map_eq_some_iff.1 Tryz.YY;simpa using run_makeChan (P:=V) (w:=w) underlying89 a J 0 X (by rw[b];omega)
theorem acR(Ez:Env f ts q W0)(h:dI W0 f ts q Xq Mq w sb L σ)(hok:Bp q σ)(n:Nat)(hn:n<=1000000)(tick:Int)(x:ah)(hpl:∀d,(runN aZ ts q (aB ts q) x.xs d 0 σ).status=1->d<n->N σ.picks+d<=8000)(hx:x.At w)(hxm:∀a,x.ad=O a->¬Mq a.block) :
  Calls V 17 #[Y (O (aD sb 0)),I J (n:Int),I J tick,x.val] w λe w'=>∃τ,τ=goT aZ ts q (aB ts q) x.xs n tick σ/\e=Qv (I J τ.status)/\bU W0 f ts q Xq Mq w sb τ w':=by
 obtain⟨v0,v1,v2,v3,v4,v5,v6,v7,v8,v9,bF,bG,bH,bZ,-⟩:=XY f ts q;obtain⟨i,Sd⟩:=eY (λd=>runN aZ ts q (aB ts q) x.xs d 0 σ:Nat->fU);have zJ:Qn (∀d,Bp q (i d)/\(i d).picks.length<=N σ.picks+d):=λd=>by rw[Sd];exact sN (XC ts q) Ez.five x.xs hok d
 have yV:Qn (∀d,(i d).status=1->d<n->N σ.picks+d<=8000):=by rw[Sd];exact hpl
 have aT:Qn (∀d,(i d).status=1->i (d+1)=iy aZ ts q (aB ts q) (je x.xs d) (i d)):=λd l=>by rw[Sd]at l ⊢;show runN aZ ts q (aB ts q) x.xs (d+1) 0 σ=_;rw[mM,Zb l,ZC]
 have Ii:=Zh (by  rw[Sd];rfl:i 0=σ)
 have JD:Qn (∀d,(i d).status≠1->d<=n->(tick<0∨(d:Int)<=tick)->goT aZ ts q (aB ts q) x.xs n tick σ=i d):=λd l hd ht=>by rw[Sd]at l ⊢;exact YR l hd ht
 have bA:Qn ((tick<0∨(n:Int)<=tick)->goT aZ ts q (aB ts q) x.xs n tick σ=i n):=λht=>by rw[Sd];exact Gj ht
 have aU:Qn (∀d:Nat,tick=(d:Int)->d<n->(i d).status=1->goT aZ ts q (aB ts q) x.xs n tick σ = { i d with status:=4 }):=λd e hd l=>by rw[e];rw[Sd]at l ⊢;exact YS hd l
 generalize goT aZ ts q (aB ts q) x.xs n tick σ=RT at*;obtain⟨A,K⟩:=eX (w.alloc (.chan 0 #[] F 0 0 F));have ag:=mkc w;rw[K]at ag;have r:Bw w A:=by rw[<-K];exact(Q9 _ _).alloc (Za _) _
 obtain⟨c,av⟩:=eY (M (H w));have ai:A.heap[c]? = O (.chan 0 #[] F 0 0 F):=by rw[<-K,av];exact lT _ _
 have aj:=(ZV.1 ai).1;have aG:¬Mq c:=λhm=>Qk ((h.lt (h.sub _ hm)).2);have aH:=h.other (Nq:=λ_=>False) (N':=λb=>b=c) (λ_ h=>h.elim) (λ_ _ h=>h) (ZP r (λ_ h _=>h)) (λb e=>.inr X) (λb=>Iff.rfl) (λb e=>by rw[e];exact aj) (λb e=>Qk h.hz.below.size);have aV:Qn (bU W0 f ts q (λb=>Xq b∨b=c) Mq A sb (i 0) A):=by rw[Ii.o];exact⟨L,aH.post (ZO _ _)⟩
 have aW:=Zh ai;have yA:Qn (c<M (H A)/\¬Mq c/\M (H w)<=c):=⟨aj,aG,X⟩;have aX:Qn (M (H W0)<=c):=by have:=h.hz.below.size;show _<=_;omega
 have bB:=Zh r;have aY:Qn (∀(y:U) (X' p:Qz) (P:qM) (d:Nat),dI W0 f ts q X' p y sb P (i d)->(i d).status=1->d<n->y.heap[c]? = O (.chan 0 #[] F 0 0 F)->Calls V 32 #[Y (O (aD sb 0)),.chan (O c),I J (je x.xs d)] y λe w'=>(∃v,e=Qv v)/\bU W0 f ts q X' p y sb (i (d+1)) w'):=λy X' p P d t l hd m=>by rw[aT.o d l];exact Uc Ez t (zJ.o d).1 l (ZN (zJ.o d).2 (yV.o d l hd)) c 0 0 F m (je x.xs d)
 have HX:Qn (∀y,Kept (λb=>¬Mq b) A y->x.At y):=λy hy=>XI (Q8 r hx) hy (λ_ a e=>hxm a e);have bf:Qn (∀a,0<N x.xs->x.ad=O a->a.block<M (H w)):=λa g e=>hx.2.lt g a e;have ak:Qn (∀(y:U) (d:Nat),x.At y->d<n->Ce 33 #[x.val,I J (d:Int)] y (I J (je x.xs d))):=λy d hy hd=>Om x d y hy X;have jK:Qn (∀(y:U) (τ:fU) (X' p:Qz) (P:qM),dI W0 f ts q X' p y sb P τ->Kept (λb=>¬Mq b) w y->(∀b,Mq b->p b)->(∀b,p b->Mq b∨M (H w)<=b)->(∀b,X' b↔(Xq b∨b=c)∨p b)->bU W0 f ts q Xq Mq w sb τ y/\Qp y (aD sb 18)=O (I J τ.status)):=λy τ X' p P t D g1 Q R=>by
  refine⟨⟨P,X',λb=>p b∨b=c,t.alL (λb j=>.inl j) (λb j=>?_),D,λb j=>.inl (g1 b j),λb j=>?_,λb=>?_⟩,(t.cells bZ).cell 18⟩
  .grind
  .rcases j with j|j
   .exact Q b j
   .exact .inr X
  .rw[R];exact⟨λg=>by
    rcases g with (g|g)|g
    .exact .inl g
    .exact .inr (.inr g)
    .exact .inr (.inl g),λg=>by
    rcases g with g|g|g
    .exact .inl (.inl g)
    .exact .inr g
    .exact .inl (.inr g)⟩
 have Iw:=Zh r.size;have vJ:Qn (∀y,Kept (λb=>¬Mq b) A y->Kept (λb=>¬Mq b) w y):=λy hy=>(ZP r (λ_ h _=>h)).trans hy;obtain⟨xa,xc,xx⟩:=x;simp only[ah.val]at*;obtain⟨xl,ax⟩:=eY (N xx);have bC:=Zh ax;rw[<-ax]at ak ⊢;clear h hok hpl hx hxm bZ Sd r ai aj aG aH ax Ez;rw[<-av]at ag;clear av;go_enter func17,ntmps17;go_wp2;clear ag K;go_loopw [10] (λiv wr=>∃d:Nat,iv=I J (d:Int)/\d<=n/\Qn ((((tick<0∨(d:Int)<=tick)/\bU W0 f ts q (λb=>Xq b∨b=c) Mq A sb (i d) wr/\wr.heap[c]? = O (.chan 0 #[] F 0 0 F))∨(RT.status=4/\bU W0 f ts q Xq Mq w sb RT wr/\Qp wr (aD sb 18)=O (I J 4))))) (λiv _=>n-(intOf iv).toNat)
 case atStart=>exact⟨0,rfl,ZB _,.inl ⟨X,aV.o,aW.o⟩⟩
 case round=>
  obtain⟨d,rfl,bz,HI⟩:=hrel;rcases HI.o with⟨htk,hp,m⟩|⟨hs4,hp,S⟩
  .obtain⟨P,X',p,t,D,g1,Q,R⟩:=hp;obtain⟨aP,S⟩:=jK.o wr _ X' p P t (vJ.o wr D) g1 (λb j=>by
    rcases Q b j with g|g
    .exact .inl g
    .exact .inr (ZN Iw.o g)) R
   have aI:=Zh aP;clear aP;by_cases B:d<n
   .by_cases l:(i d).status=1
    .rw[l]at S;have aJ:¬p c:=λhm=>by
      rcases Q c hm with g|g
      .exact yA.o.2.1 g
      .have:=yA.o.1;omega
     have bg:=(R c).2 (.inl (.inr rfl));have C:Qn (Kept (λb=>¬Mq b) A wr/\(∀b,Mq b->p b)/\(∀b,p b->Mq b∨M (H A)<=b)/\(∀b,X' b↔(Xq b∨b=c)∨p b)):=⟨D,g1,Q,R⟩;by_cases aa:tick=(d:Int)
     .have Lu:=Zh (aU.o d aa B l);obtain⟨w2,az⟩:=eY ({ wr with heap:=wr.heap.setIfInBounds c (.chan 0 #[] T 0 0 F) })
      have bn:(Builtin.close_ #[89] 0 #[.chan (O c)]).run V wr=.ok (Qw #[]) w2:=by rw[az];exact run_close_open _ _ m
      have G:Kept (λb=>b≠c) wr w2:=by rw[az];exact⟨rfl,rfl,rfl,Qa,λk _ bI=>Qb⟩
      have au:w2.heap[c]? = O (.chan 0 #[] T 0 0 F):=by grind
      have aK:=t.other (Nq:=λb=>b=c) (N':=λb=>b=c) (λb e=>by rw[e];exact bg) (λb hm e=>aJ (e ▸ hm)) (G.mono λb _ j=>j) (λb e=>.inl e) (λb=>⟨λg=>.inl g,λg=>by
       grind⟩) (λb e=>by rw[e];exact(ZV.1 au).1) (λb e=>by rw[e];exact aX.o)
      have aL:IntsAt w2 xa xx:=XI (HX.o wr D) (G.mono λb _ j=>j) (λg a e e'=>by have h1:=bf.o a g e;have:=yA.o.2.2;omega);have u:=ak.o w2 d aL B;have aM:=TZ aK c (je xx d) 0 0 F au;have qP:=Zh G;subst aa;clear t D g1 Q R m G au aK aL az htk l;generalize i d=RD at*;go_wp2_with fail;refine u.mono ?_;rintro e wz ⟨rfl,aA⟩;have om:=aA.symm;subst om;clear u bn S;go_wp2_with fail;refine aM.mono ?_;rintro e w3 ⟨⟨rv,rfl⟩,L3,X3,M3,aQ,W,aC,aR,aS⟩;have z:=jK.o w3 RT X3 M3 L3 (by rw[Lu.o];exact aQ) (((vJ.o wr C.o.1).trans' qP.o (λb j _ e=>Qk yA.o.2.2)).trans' W (λb j hm g=>by
       rcases C.o.2.2.1 b g with h1|h1
       .exact hm h1
       .have:=Iw.o;omega)) (λb j=>aC b (C.o.2.1 b j)) (λb j=>by
       rcases aR b j with h1|h1
       .rcases C.o.2.2.1 b h1 with h2|h2
        .exact .inl h2
        .exact .inr (ZN Iw.o h2)
       .exact .inr (ZN Iw.o (ZN C.o.1.size (ZN qP.o.size h1)))) (λb=>by
       rw[aS,C.o.2.2.2];exact⟨λg=>by
        rcases g with (g|g)|g
        .exact .inl g
        .exact .inr (aC b g)
        .exact .inr g,λg=>by
        rcases g with g|g
        .exact .inl (.inl g)
        .exact .inr g⟩)
      have Yh:=Zh (by  rw[Lu.o]:RT.status=4)
      have HF:Qn (RT.status=4/\bU W0 f ts q Xq Mq w sb RT w3/\Qp w3 (aD sb 18)=O (I J 4)):=⟨Yh.o,z.1,by rw[<-Yh.o];exact z.2⟩;clear aM aQ W aC aR aS z;go_wp2;go_roundw
      case rel=>exact⟨d+1,Qe,X,.inr HF.o⟩
      case measure=>exact XK
     .have u:=ak.o wr d (HX.o wr D) B;have Lh:=aY.o wr X' p P d t l B m;have aN:=Zh m;have bq:Qn (tick<0∨((d+1:Nat):Int)<=tick):=by show _∨_;omega
      have bD:¬((d:Int)=tick):=λe=>aa e.symm;clear t D g1 Q R m htk l aa;go_wp2_with fail;refine u.mono ?_;rintro e wz ⟨rfl,aA⟩;have om:=aA.symm;subst om;clear u S;go_wp2_with fail;refine Lh.mono ?_;rintro e w3 ⟨⟨rv,rfl⟩,aF⟩;have aO:w3.heap[c]? = O (.chan 0 #[] F 0 0 F):=by obtain⟨_,_,_,_,W,-⟩:=aF;rw[W.block c (ZV.1 aN.o).1 aJ];exact aN.o
      have HF:Qn ((tick<0∨((d+1:Nat):Int)<=tick)/\bU W0 f ts q (λb=>Xq b∨b=c) Mq A sb (i (d+1)) w3/\w3.heap[c]? = O (.chan 0 #[] F 0 0 F)):=⟨bq.o,bU.trans C.o.1 C.o.2.1 C.o.2.2.1 C.o.2.2.2 aF,aO⟩;clear Lh aF aO;go_wp2;go_roundw
      case rel=>exact⟨d+1,Qe,X,.inl HF.o⟩
      case measure=>exact XK
    .have Lu:=Zh (JD.o d l bz htk);have bE:=l;clear t D g1 Q R m htk;generalize i d=RD at*;go_wp2;go_ret;exact⟨RT,rfl,by rw[Lu.o];rfl,by rw[Lu.o];exact aI.o⟩
   .have bu:n=d:=X
    have Lu:Qn (RT=i d):=Qb;clear t D g1 Q R m htk bu;generalize i d=RD at*;go_wp2;go_ret;exact⟨RT,rfl,by rw[Lu.o];rfl,by rw[Lu.o];exact aI.o⟩
  .have HF:Qn (RT.status=4/\bU W0 f ts q Xq Mq w sb RT wr):=⟨hs4,hp⟩
   clear hs4 hp;by_cases B:d<n
   .go_wp2;go_ret;exact⟨RT,rfl,by rw[HF.o.1];rfl,HF.o.2⟩
   .go_wp2;go_ret;exact⟨RT,rfl,by rw[HF.o.1];rfl,HF.o.2⟩
end
def Oo(pb sb:Nat)(w:U)(hc:Qp w (aD pb 9)=O (Y (O (aD sb 0))))(hC:Calls V 34 #[Y (O (aD sb 0))] w R)(hR:∀e w',R e w'->∃d f,e=Qv (Qw #[d,f])) :
  Calls V 18 #[Y (O (aD pb 0))] w R:=by have g:=Zh hR;clear hR;go_enter func18,ntmps18;go_wp2_with fail;refine hC.mono ?_;intro e i b;obtain⟨d,f,rfl⟩:=g.o e i b;have a:=Zh b;clear b hc hC;go_wp2;exact a.o
def Ud(pb sb:Nat)(n k:Int)(ad:PN)(m cp:Nat)(w:U)(hc:Qp w (aD pb 9)=O (Y (O (aD sb 0))))(hC:Calls V 17 #[Y (O (aD sb 0)),I J n,I J k,Z ad m cp] w R)(hR:∀e w',R e w'->∃v,e=Qv (v)) :
  Calls V 8 #[Y (O (aD pb 0)),I J n,I J k,Z ad m cp] w R:=by have d:=Zh hR;clear hR;go_enter func8,ntmps8;go_wp2_with fail;refine hC.mono ?_;intro e f b;obtain⟨v,rfl⟩:=d.o e f b;have a:=Zh b;clear b hc hC;go_wp2;exact a.o
def Ky(pb sb:Nat)(w:U)(hc:Qp w (aD pb 9)=O (Y (O (aD sb 0))))(hC:Calls V 20 #[Y (O (aD sb 0))] w R)(hR:∀e w',R e w'->∃v,e=Qv (v)) :
  Calls V 10 #[Y (O (aD pb 0))] w R:=by have d:=Zh hR;clear hR;go_enter func10,ntmps10;go_wp2_with fail;refine hC.mono ?_;intro e f b;obtain⟨v,rfl⟩:=d.o e f b;have a:=Zh b;clear b hc hC;go_wp2;exact a.o
theorem eU.plan{Tn:TypeId}{base:Nat}{nv:Qy ai}(h:eU Tn Fq base w v nv)(hl:N nv<=1000):∃b cap,v=Z b (N nv) cap/\jD w b nv:=by
 have f:∃b cap,v=Z b (N nv) cap:=by
  rcases h.own.2 with⟨rfl,h0⟩|⟨g,cap,cur,rfl,_⟩
  .exact⟨Qs,0,by rw[h0]⟩
  .exact⟨_,_,rfl⟩
 obtain⟨b,cap,rfl⟩:=f;refine⟨b,cap,rfl,X,λi n=>?_⟩;obtain⟨g,d,e,p,k,a⟩:=IW h.own n;injection e with e1 e2 e3;subst e1;have j:E nv i nz∈nv:=by grind
 obtain⟨l,_,m,_,_⟩:=h.lists _ j;exact⟨g,0,rfl,by rw[ZC];exact a 0 _ X rfl,by rw[ZC];exact a 1 _ X rfl,by rw[ZC];exact a 2 _ X rfl,by rw[ZC];exact a 3 _ X rfl,by rw[ZC];exact a 4 _ X rfl,by rw[ZC];exact a 5 _ X rfl,by rw[ZC];exact a 6 _ X rfl,l,m⟩
