import Derived.Test.YtnjbikdhpnopjaaGreatDoorA08
import Derived.Test.YtnjbikdhpnopjaaGreatDoorA09
set_option linter.all false
set_option maxRecDepth 100000
set_option maxHeartbeats 0
namespace Go.Proofs.Zz
open Go.RowKit Go.Shelf
open List renaming length->N,getD->E
open Go.Value renaming slice->Z,int->I,pointer->Y,tuple->MV
open Go.Proofs.Tryz renaming prog->V
open Option renaming some->O,none->xn
open Go.IntKind renaming i64->J
open Bool renaming false->F,true->T
open Go renaming World->U,Value->X3
open Go.World renaming heap->H,cell?->UK
open _root_.Array renaming size->M
open Go.RowKit renaming Hid->Y3
open Go.Obj renaming cells->EP
open Go.Ending renaming returned->FN
variable {ts:List ah} {db:List aP} {a b b2 base bs d k l2 la m1 n x:Nat} {Ez:El ae (List Int)} {w:U} {e:TypeId} {v:X3} {ys:List ae}
theorem xN{q:af}(h:q.check ts=0):Chk ts q/\0<N q.src.xs/\(q.group=F->aS q.ord.xs (N q.bE.xs)=T)/\N q.ord.xs<=4/\aS q.bE.xs (ak ts q.src.xs)=true:=by
 unfold af.check Dy at h
 cases hc:ji ts with
 |false=>simp_all
 |true =>
  rw[ZU (by rw[hc];simp)]at h
  cases hf:vN q.src.xs q.wm q.keys.xs q.sums.xs q.bE.xs q.ord.xs with
  |true=>simp_all
  |false =>
   rw[ZU (by rw[hf];simp)]at h;by_cases v:aS q.src.xs (N ts)=T/\0<N q.src.xs/\mo q.wm (ak ts q.src.xs)=T/\rF (ak ts q.src.xs) q.group q.keys.xs q.sums.xs q.bE.xs q.ord.xs=T
   .obtain⟨n,p,f,g⟩:=v;unfold vN at hf;rw[Bool.or_eq_false_iff,Z4]at hf;obtain⟨y,z⟩:=hf;have m:N q.wm=N q.wh:=by unfold af.wm;simp
    have b:∀i,i<N q.wh->(E q.wh i lz).cs∈q.wm:=λi a=>by unfold af.wm;grind
    unfold mo at f;rw[Qk]at f;have d:∀i,i<N q.wh->0<(E q.wh i lz).cs.length/\∀c∈(E q.wh i lz).cs,fV c (ak ts q.src.xs)=true:=λi a=>by have:=f _ (b i a);unfold Bj at this;simp_all
    unfold rF at g;simp only[Qj]at g;obtain⟨⟨⟨⟨⟨⟨⟨r,_⟩,_⟩,l⟩,_⟩,_⟩,_⟩,_⟩:=g;refine⟨⟨hc,n,by omega,by omega,?_,λi a=>(d i a).1,λi a=>?_⟩,p,λu=>?_,by omega,r⟩
    .intro i a c k;unfold aN at k;rw[Z6]at k;obtain⟨x,t,j⟩:=k;have e:=(d i a).2 x t;unfold fV at e;simp only[Qj,ZW]at e;obtain⟨⟨⟨⟨A,B⟩,C⟩,D⟩,G⟩:=e;unfold aH at j
     grind
    .simp_all
    .rw[u]at l;exact l
   simp_all
def aji(h:zC ts db=T){i:Nat}(hi:i<N db):(E db i rz).rs.length<=50/\∀r∈(E db i rz).rs,(N r.xs:Int)=(E ts i tz).cols:=by unfold zC at h;rw[Qk]at h;have a:=h i (by simp_all);unfold P8 Vi at a;simp only[Qj,ZW]at a;refine⟨a.1,λr d=>?_⟩;have b:=a.2;rw[Qk]at b;exact(aif (b r d)).1
def Iu(h:zC ts db=T)(t:Int):∀r∈fu db t,t.toNat<N db/\(N r:Int)=(E ts t.toNat tz).cols:=by
 intro r b;unfold fu at b;obtain⟨x,a,rfl⟩:=ZC.1 b;by_cases d:t.toNat<N db
 .exact⟨d,(aji h d).2 x a⟩
 .have:E db t.toNat rz=rz:=by simp_all
  rw[this]at a;simp[rz]at a
theorem WB{src:List Int}(h:zC ts db=T):∀r∈bz src db,(N r:Int)=ak ts src:=by
 have f:∀(l:List Int) (Tq:List (List Int)) (m:Int),(∀r∈Tq,(N r:Int)=m)->∀r∈(l.map (fu db)).foldl dz Tq,(N r:Int)=m+ak ts l:=by
  intro l
  induction l with
  |nil=>intro Tq m e r d;have:=e r d;simp[ak];exact this
  |cons a l ih =>
   intro Tq m e r d;have g:ak ts (a::l)=(E ts a.toNat tz).cols+ak ts l:=by simp[ak]
   have:=ih (dz Tq (fu db a)) (m+(E ts a.toNat tz).cols) (λx b=>by
    unfold dz at b;obtain⟨y,i,b⟩:=Z6.1 b;obtain⟨z,j,rfl⟩:=ZC.1 b;have k:=e y i;have n:=(Iu h a z j).2;simp_all) r d
   omega
 intro r d;unfold bz at d
 cases src with
 |nil=>grind [qN]
 |cons a l =>
  have g:ak ts (a::l)=(E ts a.toNat tz).cols+ak ts l:=by simp[ak]
  have:=f l (fu db a) (E ts a.toNat tz).cols (λx b=>(Iu h a x b).2) r d;omega
theorem Tc(L R:List (List Int)):N (dz L R)=N L*N R:=by
 unfold dz
 induction L with
 |nil=>simp
 |cons a L ih=>grind
theorem Cz(src:List Int)(db:List aP):N (bz src db)<=gL src db:=by
 have b:∀(l:List Int) (Tq:List (List Int)) (n:Nat),N Tq<=n->N ((l.map (fu db)).foldl dz Tq)<=l.foldl (λn t=>n*max 1 (E db t.toNat rz).rs.length) n:=by
  intro l
  induction l with
  |nil=>simp_all
  |cons a l ih =>
   intro Tq n h;refine ih (dz Tq (fu db a)) _ ?_;rw[Tc,Ih];exact ZL h (by omega)
 unfold bz gL
 cases src with
 |nil=>simp[qN]
 |cons a l =>
  refine b l (fu db a) _ ?_;rw[Ih];grind
def axe(hb:b=a+20)(ha:a=d)(hn:n=d+l2)(h:b<=n):20<=l2:=by omega
def axf(hb:b=a+20)(ha:a=d)(hn:n=d+l2)(h:¬b<=n):l2<=20:=by omega
def axg(hb:b=a+20)(ha:a=d)(hla:la=20)(hn:n=d+(la+l2))(h:b<=n)(hl:n<=1000000):b=d+la/\n=d+la+l2/\b<=1000000/\n+20-(b+20)<n+20-b:=by omega
def axh{d:Nat}(hb:b=a+20)(h:a<=n)(hl:n<=1000000):a<=1000000/\b<=1000020:=by omega
def axi(h0:0<bs)(h:bs<n)(hl:n<=1000000):2*(bs:Int)=((2*bs:Nat):Int)/\2*bs<=4000000/\0<2*bs/\n+n-2*bs<n+n-bs/\wrap64 (2*(bs:Int))=((2*bs:Nat):Int)/\(bs:Int)*2=((2*bs:Nat):Int)/\wrap64 ((bs:Int)*2)=((2*bs:Nat):Int):=by refine⟨by omega,by omega,by omega,by omega,by unfold wrap64;omega,by omega,by unfold wrap64;omega⟩
def aat(b:Nat):(intOf (I J (b:Int))).toNat=b:=by simp[intOf]
def aiH(h:wrap64 (b:Int)=(b:Int)):(intOf (I J (wrap64 (b:Int)))).toNat=b:=by rw[h];exact aat b
def Oe(h:k<=8000000):wrap64 (k:Int)=(k:Int):=by unfold wrap64;omega
def amo(h:m1<=b)(hb:b<=1000000):m1<=8000000:=by omega
def aqu(h:b=a+b2)(h2:b2=2*bs)(hm:m1=a+bs):m1<=b:=by omega
def ae5(h:x<=4000000):x<=8000000:=by omega
def R7:(0<20)/\20<=4000000:=by omega
def aiI{y:Nat}(h:¬x<y):y<=x:=by omega
def axj(hb2:b2=2*bs)(hb:b=a+b2)(ha:a=d)(hn:n=d+l2)(h:b<=n):2*bs<=l2:=by omega
def axk{lb:Nat}(hb2:b2=2*bs)(hb:b=a+b2)(ha:a=d)(hla:la=bs)(hlb:lb=bs)(hn:n=d+(la+lb+l2))(h:b<=n)(hl:n<=1000000)(hm:m1=a+bs)(hb4:b2<=4000000)(h0:0<bs) :
  m1=d+la/\b=d+la+lb/\n=d+(la+lb)+l2/\(a:Int)+(bs:Int)=(m1:Int)/\wrap64 ((a:Int)+(bs:Int))=(m1:Int)/\(b:Int)+(b2:Int)=((b+b2:Nat):Int)/\wrap64 ((b:Int)+(b2:Int))=((b+b2:Nat):Int)/\b<=1000000/\b+b2<=8000000/\n+b2-(b+b2)<n+b2-b:=by refine⟨by omega,by omega,by omega,by omega,by unfold wrap64;omega,by omega,by unfold wrap64;omega,by omega,by omega,by omega⟩
def axl(hb2:b2=2*bs)(hb:b=a+b2)(ha:a=d)(hn:n=d+l2)(h:¬b<=n)(hl:n<=1000000)(hm:m1=a+bs)(hb4:b2<=4000000):(a:Int)+(bs:Int)=(m1:Int)/\wrap64 ((a:Int)+(bs:Int))=(m1:Int)/\l2<=2*bs/\(m1<n->bs<l2)/\(¬m1<n->l2<=bs)/\m1<=8000000/\n=d+l2:=by refine⟨by omega,by unfold wrap64;omega,by omega,λh=>by omega,λh=>by omega,by omega,hn⟩
def axm{l3:Nat}(hla:la=bs)(h2:l2=la+l3)(hl:bs<l2)(hl2:l2<=2*bs)(ha:a=d)(hm:m1=a+bs)(hn:n=d+l2):l3<=bs/\0<l3/\m1=d+la/\n=d+la+l3:=by omega
def V3(blk cap n g:Nat)(lb:Array X3)(cf:ae->ae->Int)(ok:ae->Prop)(w0:U)(hC:RZ V g lb cf blk w0 ok)(eg:∀args w,(callFunc g args).run V w=.ok (.enter g args) w)(Oq:lG (iW cf))
  (L:List ae) (R:List X3) (w:U) (hG:GB w blk 22 (SL L R)) (hok:∀x∈L,ok x) (hK:Kept (λb=>b≠blk) w0 w) (hn:n=N L) (hl:n<=1000000) :
  Calls V 190 #[Z (O (aD blk 0)) n cap,I J n,.func (.func g) #[] lb] w λe w'=>e=FN (MV #[])/\GB w' blk 22 (SL (mg (iW cf) [] L) R)/\Kept (λb=>b≠blk) w w':=by
 have HG:=Zh hG;have HC:Y3 _:=hC;obtain⟨HO,HK,HN⟩:=dQ hok hK hn;clear hG hC hok hK hn;go_enter Tryz.func190,Tryz.ntmps190;go_wp2;go_loopw [7,8] (λav bv wr=>∃(a b:Nat) (D L1 t:List ae),av=I J a/\bv=I J b/\a<=n/\Y3 (b=a+20/\a=N D/\n=N D+N t/\L=L1++t/\Done (iW cf) 20 L D t/\GB wr blk 22 (SL (D++t) R)/\Kept (λb=>b≠blk) w wr)) (λav bv _=>n+20-(intOf bv).toNat)
 case atStart=>exact⟨0,20,[],[],L,rfl,rfl,QW _,rfl,rfl,by rw[HN.o];simp,rfl,λMz hM=>hM,HG.o,Qy _ _⟩
 case round=>
  obtain⟨a,b,D,L1,t,rfl,rfl,V4,HI⟩:=hrel;obtain⟨W,z,X,eL,hD,C,r⟩:=HI.o;have aR:=axh (d:=0) W V4 hl;by_cases i:b<=n
  .obtain⟨A,u,v,lA,-⟩:=nP t 20 (axe W z X i);have ag:n=N D+(N A+N u):=by rw[X,v,Zn]
   have h3:=axg W z lA ag i hl;have j:GB wr blk 22 (SL (D++A++u) R):=by rw[v,<-ZE]at C;exact C
   have f:=zM blk cap n a b g lb cf ok w0 HC.o eg D A u R wr j (λx hx=>HO.o x (by rw[eL,v];simp[hx])) (HK.o.trans r) z h3.1 i hl;have ah:Done (iW cf) 20 L (D++mg (iW cf) [] A) u:=by rw[v]at hD;exact hD.more lA
   have HD:Y3 _:=ah;have P:=Zh r;have HF:Y3 (n=N (D++mg (iW cf) [] A)+N u/\L=(L1++A)++u/\b=N (D++mg (iW cf) [] A)/\n+20-(b+20)<n+20-b):=⟨by rw[Zn,X6];exact h3.2.1,by rw[eL,v,ZE],by rw[Zn,X6];exact h3.1,h3.2.2.2⟩;clear HI W z X eL hD C r v lA ag h3 j ah;go_wp2_with fail;refine f.mono ?_;rintro e w2 ⟨rfl,l,p⟩;clear f;have m:Y3 _:=l;have oz:=Zh p;clear l p;go_wp2;go_roundw
   case rel=>exact⟨b,b+20,D++mg (iW cf) [] A,L1++A,u,rfl,rfl,i,rfl,HF.o.2.2.1,HF.o.1,HF.o.2.1,HD.o,m.o,P.o.trans oz.o⟩
   case measure=>
    have ec:(b:Int)+20=((b+20:Nat):Int):=rfl;simp only[intOf,ec,Xk];exact HF.o.2.2.2
  .have Q:=axf W z X i;have f:=zM blk cap n a n g lb cf ok w0 HC.o eg D t [] R wr (by rw[Xd];exact C) (λx hx=>HO.o x (by rw[eL];simp[hx])) (HK.o.trans r) z X (Qn _) hl;have hM:=hD _ (bZ.last Q);have HM:Y3 _:=hM;have P:=Zh r;clear HI W z X eL hD C r Q hM;go_wp2_with fail;refine f.mono ?_;rintro e w2 ⟨rfl,l,p⟩;rw[Xd]at l;have m:Y3 _:=l;have oz:=Zh (P.o.trans p);go_wp2;go_loopw [6] (λsv wr=>∃(bs:Nat) (Mz:List ae),sv=I J bs/\0<bs/\bs<=4000000/\Y3 (bZ (iW cf) bs L Mz/\GB wr blk 22 (SL Mz R)/\Kept (λb=>b≠blk) w wr)) (λsv _=>n+n-(intOf sv).toNat)
   case atStart=>exact⟨20,D++mg (iW cf) [] t,rfl,R7.1,R7.2,HM.o,m.o,oz.o⟩
   case round=>
    clear HM m oz;obtain⟨bs,Mz,rfl,q,aY,HI⟩:=hrel;obtain⟨hM,C,r⟩:=HI.o;by_cases aG:bs<n
    .obtain⟨ak,G,au,ay,az,y,aj⟩:=axi q aG hl;obtain⟨K,aA⟩:∃K,K=2*bs:=⟨_,rfl⟩
     rw[<-aA]at ak G au ay az y aj;have aa:=Zh aA;have HM:Y3 _:=hM;have aH:Y3 (GB wr blk 22 (SL Mz R)/\Kept (λb=>b≠blk) w wr):=⟨C,r⟩;have aI:=Zh ay;clear hM C r HI aA ay;go_wp2;go_loopw [7,8] (λav bv aQ=>∃(a b:Nat) (D L1 t M2:List ae),av=I J a/\bv=I J b/\a<=n/\b<=8000000/\Y3 (b=a+K/\a=N D/\n=N D+N t/\L=L1++t/\Done (iW cf) K L D t/\bZ (iW cf) bs t M2/\GB aQ blk 22 (SL (D++M2) R)/\Kept (λb=>b≠blk) w aQ)) (λav bv _=>n+K-(intOf bv).toNat)
     case atStart=>exact⟨0,K,[],[],L,Mz,rfl,rfl,QW _,ae5 G,(ZK _).symm,rfl,by rw[HN.o];simp,rfl,λMz hM=>hM,HM.o,aH.o.1,aH.o.2⟩
     case round=>
      have aS:Y3 (2*(bs:Int)=(K:Int)/\wrap64 (2*(bs:Int))=(K:Int)):=⟨ak,az⟩;have aK:Y3 ((bs:Int)*2=(K:Int)/\wrap64 ((bs:Int)*2)=(K:Int)):=⟨y,aj⟩;clear ak az y aj;obtain⟨a,b,D,L1,t,M2,rfl,rfl,V4,H5,HI⟩:=hrel;obtain⟨W,z,X,eL,hD,af,C,r⟩:=HI.o;obtain⟨m1,S⟩:=eY (a+bs);have k:∀x∈t,ok x:=λx hx=>HO.o x (by rw[eL];simp[hx]);by_cases i:b<=n
      .obtain⟨A,B,u,M3,v,lA,lB,em,Dq⟩:=af.amn q (axj aa.o W z X i);have ag:n=N D+(N A+N B+N u):=by rw[X,v];simp only[Zn]
       obtain⟨h1,h2,h3,h4,h5,h6,h7,h8,h9,aB⟩:=axk aa.o W z lA lB ag i hl S G q;obtain⟨b3,aC⟩:=eY (b+K);rw[<-aC]at h6 h7 h9 aB;have aT:=Zh aC;clear aC;have j:GB wr blk 22 (SL (D++mg (iW cf) [] A++mg (iW cf) [] B++M3) R):=by
        have e:D++mg (iW cf) [] A++mg (iW cf) [] B++M3=D++M2:=by rw[em];simp
        rw[e];exact C
       have f:=vw _ blk cap n a m1 b g lb cf ok w0 HC.o eg Oq D (mg (iW cf) [] A) (mg (iW cf) [] B) M3 R wr j (Gg Oq A) (Gg Oq B) (λx hx=>k x (by rw[v];rcases Ad.1 hx with h|h;cases h;simp[h])) (λx hx=>k x (by rw[v];rcases Ad.1 hx with h|h;cases h;simp[h])) (HK.o.trans r) z (by rw[X6];exact h1) (by rw[X6,X6];exact h2) i hl (by rw[X6,lA];exact q) (by rw[X6,lB];exact q) (Qn _);rw[ae4 Oq]at f;have ah:Done (iW cf) K L (D++mg (iW cf) [] (A++B)) u:=by rw[v]at hD;exact hD.more (by rw[Zn,lA,lB,aa.o,Nat.two_mul])
       have HD:Y3 _:=ah;have P:=Zh r;have F4:Y3 _:=Dq;have HF:Y3 (n=N (D++mg (iW cf) [] (A++B))+N u/\L=(L1++(A++B))++u/\b=N (D++mg (iW cf) [] (A++B))):=⟨by rw[Zn,X6,Zn];exact h3,by rw[eL,v,ZE,ZE,ZE],by rw[Zn,X6,Zn,<-X5];exact h2⟩;have aU:=Zh aB;have aL:=aqu W aa.o S;clear HI W z X eL hD C r v lA lB em ag j ah af Dq h1 h2 h3 aB S k;have aV:Y3 ((b:Int)+(K:Int)=(b3:Int)/\wrap64 (b3:Int)=(b3:Int)/\wrap64 (K:Int)=(K:Int)):=⟨h6,Oe h9,Oe (ae5 G)⟩;have aW:=Oe (amo aL h8);obtain⟨aZ,aO⟩:=aJ h9 i;clear h6 h7 h9 H5 G au aY q aG h8 V4 aR h5 aL;have aX:=Int.ofNat_le.2 aO.o;clear i;go_wp2_with fail;refine f.mono ?_;rintro e w2 ⟨rfl,l,p⟩;clear f;have m:Y3 _:=l;have oz:=Zh p;clear l p h4 aX aW;have ak:=aS.o.1;obtain⟨h6,aP,bf⟩:=aV.o;go_wp2;go_roundw
       case rel=>exact⟨b,b3,D++mg (iW cf) [] (A++B),L1++(A++B),u,M3,rfl,congrArg (Value.int J) aP,aO.o,aZ.o,aT.o,HF.o.2.2,HF.o.1,HF.o.2.1,HD.o,F4.o,m.o,P.o.trans oz.o⟩
       case measure=>
        rw[aiH aP,aat];exact aU.o
      .obtain⟨h4,h5,Q,ax,aF,bg,-⟩:=axl aa.o W z X i hl S G;have ai:=hD _ (bZ.last (by rw[aa.o];exact Q));have lu:Y3 _:=ai;by_cases Gf:m1<n
       .obtain⟨A,u,M3,v,lA,em,Dq⟩:=af.split (ax Gf);have aM:N t=N A+N u:=by rw[v,Zn]
        obtain⟨t1,t2,t3,t4⟩:=axm lA aM (ax Gf) Q z S X;have aN:=Dq.small q t1;have j:GB wr blk 22 (SL (D++mg (iW cf) [] A++mg (iW cf) [] u++[]) R):=by
         have e:D++mg (iW cf) [] A++mg (iW cf) [] u++[]=D++M2:=by rw[em,aN];simp
         rw[e];exact C
        have f:=vw _ blk cap n a m1 n g lb cf ok w0 HC.o eg Oq D (mg (iW cf) [] A) (mg (iW cf) [] u) [] R wr j (Gg Oq A) (Gg Oq u) (λx hx=>k x (by rw[v];rcases Ad.1 hx with h|h;cases h;simp[h])) (λx hx=>k x (by rw[v];rcases Ad.1 hx with h|h;cases h;simp[h])) (HK.o.trans r) z (by rw[X6];exact t3) (by rw[X6,X6];exact t4) (Qn _) hl (by rw[X6,lA];exact q) (by rw[X6];exact t2) (Qn _);rw[ae4 Oq,<-v,Xd]at f;have P:=Zh r;clear HI W z X eL hD C r v lA em j af Dq aN aM t1 t2 t3 t4 ax aF S k ai Q;go_wp2_with fail;refine f.mono ?_;rintro e w2 ⟨rfl,l,p⟩;clear f;have m:Y3 _:=l;have oz:=Zh p;clear l p;obtain⟨y,aj⟩:=aK.o;go_wp2;go_roundw
        case rel=>exact⟨K,D++mg (iW cf) [] t,by first|rfl|rw[y],au,G,lu.o,m.o,P.o.trans oz.o⟩
        case measure=>
         simp only[intOf,y,Xk];exact aI.o
       .have em:=af.small q (aF Gf);have j:GB wr blk 22 (SL (D++mg (iW cf) [] t) R):=by rw[<-em];exact C
        have m:Y3 _:=j;have oz:=Zh r;clear HI W z X eL hD C r em j af ax aF S k ai Q;obtain⟨y,aj⟩:=aK.o;go_wp2;go_roundw
        case rel=>exact⟨K,D++mg (iW cf) [] t,by first|rfl|rw[y],au,G,lu.o,m.o,oz.o⟩
        case measure=>
         simp only[intOf,y,Xk];exact aI.o
    .have em:=hM.small q (by rw[<-HN.o];exact aiI aG);have HF:Y3 (GB wr blk 22 (SL (mg (iW cf) [] L) R)/\Kept (λb=>b≠blk) w wr):=⟨by rw[<-em];exact C,r⟩
     clear HI hM C r em;go_wp2;go_end0;exact⟨rfl,HF.o⟩
def aca(ps:List Int):lG (iW λx y:ae=>dL x.xs y.xs ps):=by have a:=Lt ps;exact⟨λh=>a.asymm h,λb d=>a.trans b d,λb d=>a.DF b d⟩
def ae6(ps:List Int)(ys:List ae):(mg (iW λx y:ae=>dL x.xs y.xs ps) [] ys).map ae.xs=fA ps (ys.map ae.xs):=
 Vj (f:=ae.xs) (lt':=DI ps) (λ_ _=>rfl) ys []
theorem FK(x y c:ae)(w:U)(hx:x.At w)(hy:y.At w)(hc:c.At w)(ax:aS c.xs (N x.xs)=T)(ay:aS c.xs (N y.xs)=T) :
  Calls V 138 #[x.val,y.val,c.val] w λe w'=>e=FN (I J (dL x.xs y.xs c.xs))/\∃m,w' = w.drewN m:=by
 obtain⟨iZ,bL,xs⟩:=x;obtain⟨wC,kN,ys⟩:=y;obtain⟨lQ,dE,cs⟩:=c;unfold ae.val ae.At at*;simp only at*;have hl:=hc.1;have X:=hx.1;have aa:=hy.1;have HX:Y3 _:=hx;have HY:Y3 _:=hy;have HC:Y3 _:=hc;have P:Y3 _:=XK ax ay;clear hx hy hc ax ay;go_enter Tryz.func138,Tryz.ntmps138;go_wp2;go_loopw [12] (λi wr=>∃k:Nat,k<=N cs/\i=I J k/\(∃n,wr=w.drewN n)/\Y3 (∀j,j<k->dK (E xs (E cs j 0).toNat 0) (E ys (E cs j 0).toNat 0)=0)) (λi _=>N cs-(intOf i).toNat)
 case atStart=>exact⟨0,QW _,rfl,⟨0,rfl⟩,λj G=>absurd G (by omega)⟩
 case round=>
  obtain⟨k,hk,rfl,⟨n,rfl⟩,L⟩:=hrel;by_cases b:k<N cs
  .obtain⟨cb,co,rfl,C⟩:=Qg HC.o b;have v:UK (w.drewN n) (aD cb (co+k))=_:=C k b;have af:=Ql P.o.1 b;have ag:=Ql P.o.2 b;have f:E cs k 0=cs[k]:=by simp[List.getD,b]
   rw[f]at v;have g:cs[k].toNat<N xs:=by omega
   have l:cs[k].toNat<N ys:=by omega
   obtain⟨xb,xo,rfl,R⟩:=Qg HX.o g;obtain⟨yb,yo,rfl,D⟩:=Qg HY.o l;have z:UK (w.drewN n) (aD xb (xo+cs[k].toNat))=_:=R _ g;have A:UK (w.drewN n) (aD yb (yo+cs[k].toNat))=_:=D _ l;have p:=aij (xs:=xs) (ys:=ys) b L.o;have B:∀j,j<k+1->dK (E xs cs[k].toNat 0) (E ys cs[k].toNat 0)=0->dK (E xs (E cs j 0).toNat 0) (E ys (E cs j 0).toNat 0)=0:=λj G u=>by
    rcases XV j k with h|h
    .exact L.o j h
    grind
   rw[f]at p;have q:Y3 _:=p;have r:Y3 _:=B;have a:=λW=>sW (E xs cs[k].toNat 0) (E ys cs[k].toNat 0) W;clear p B C R D f;generalize E xs cs[k].toNat 0=vx at*;generalize E ys cs[k].toNat 0=vy at*;generalize NG:cs[k]=ck at*;clear NG;obtain⟨S,rfl⟩:∃S:Nat,ck=(S:Int):=⟨ck.toNat,by omega⟩;simp only[Xk]at g l z A;obtain⟨wq,t⟩:=eX (w.drewN n);have Q:Y3 _:=t;rw[t]at v z A ⊢;clear t;by_cases u:dK vx vy=0
   .have HZ:Y3 _:=λj G=>r.o j G u
    rw[u]at a;clear u r q;go_wp2;go_quiet ((go_at_call 191;exact Calls.quiet_of_same (a _)));go_wp2;go_roundw
    case rel=>exact⟨k+1,by omega,by go_num,⟨_,by rw[<-Q.o,X4]⟩,HZ.o⟩
    case measure=>simp[intOf];omega
   .have e0:(dK vx vy != 0)=true:=by simpa using u
    have HE:Y3 _:=q.o u;clear r q u;generalize dK vx vy=cv at*;go_wp2;go_quiet ((go_at_call 191;exact Calls.quiet_of_same (a _)));go_wp2;go_ret;exact⟨Qe HE.o.symm,_,by rw[<-Q.o,X4]⟩
  .have d:dL xs ys cs=0:=Ra λj G=>L.o j (by omega)
   have K:Y3 _:=d;clear d;go_wp2;go_ret;exact⟨Qe K.o.symm,_,rfl⟩
section
structure Og(Ez:El ae (List Int)):Prop where
 enc:∀x,Ez.enc x=x.val
 key:∀x,Ez.key x=x.xs
 blk:∀x,Ez.blk x=aj.blk x
 at':∀{x W},Ez.At x W->aj.At x W
def Kl{α:Type}{rs:List α}{d:α}{j:Nat}(hj:j<k)(hk:k<=N rs):E rs j d∈rs.take k:=by
 have a:j<N rs:=by omega
 have e:E rs j d=(rs.take k)[j]'(by rw[Xu];omega):=by simp[List.getD,a]
 rw[e];exact Zv _
theorem wL.front{rs:List ae}(h:wL Ez n rs)(hk:k<N rs){y:ae}(hy:y∈rs.take k)(h1:Ez.blk y=O b)(h2:Ez.blk (E rs k iz)=O b):b<n:=by
 have e:rs=rs.take k++E rs k iz::rs.drop (k+1):=by
  have a:E rs k iz=rs[k]:=by simp[List.getD,hk]
  rw[a,<-Xh hk,Zx]
 unfold wL at h;grind
attribute [local go_sem] Oper.semAt_some
theorem ae7(K:Og Ez)(bt:Nat)(ao:Option Addr)(cap m n:Nat)(rs:List ae)(keys:List (List Int))(hkeys:rs.map ae.xs=keys)(l:Nat)(Jq:List ae->(Nat->Prop)->U->Prop)(W:U)(o:Nat->Prop)
  (hc:UK W (aD bt 0)=O (Z ao (N rs) cap)) (hcs:aX W ao (N rs) (λi=>(E rs i iz).val)) (hlen:N rs<=1152921504606846976)
  (hbt:¬o bt/\∀y∈rs,∀b,Ez.blk y=O b->n<=b->b≠bt) (hao:∀a,ao=O a->¬o a.block/\∀y∈rs,∀b,Ez.blk y=O b->n<=b->b≠a.block)
  (hat:∀y∈rs,Ez.At y W) (hblk:∀y∈rs,∀b,Ez.blk y=O b->¬o b/\(b<m∨n<=b)) (hap:wL Ez n rs) (hon:∀b,o b->b<n) (Gf:m<=n) (hn:n<=M (H W))
  (hY:∀pre x t W1,Jq pre t W1->(pre++[x]).map Ez.key <+: keys->Ez.At x W1->(∀b,Ez.blk x=O b->¬t b/\(b<m∨n<=b))->n<=M (H W1)->
   YieldAt Fence.wide 0 V l #[Ez.enc x] W1 λe W'=>e=FN (.bool T)/\∃o2,Jq (pre++[x]) o2 W'/\Kept (λb=>¬t b) W1 W'/\
    ∀b,o2 b->t b∨(M (H W1)<=b/\b<M (H W'))∨(Ez.blk x=O b/\n<=b))
  (h0:Jq [] o W) :
  Calls V 131 #[.func (.yield l) #[] #[],Y (O (aD bt 0))] W λe W'=>(∃v,e=FN v)/\∃o',Jq rs o' W'/\Kept (λb=>¬o b/\b<n) W W'/\∀b,o' b->o b∨(n<=b/\b<M (H W')):=by
 obtain⟨HY,A,af⟩:=dQ hY hat hblk;have aj:Y3 _:=hap;have FJ:Y3 _:=hcs;obtain⟨ag,HC,L,Oh⟩:=om hao hc (XK Gf hn) hkeys;clear hY hat hblk hap hon hcs hbt hao Gf hn hkeys;refine(QH (n:=0)).1 (callsIn_of_wp Tryz.func131 rfl trivial ?_ rfl);simp only[Tryz.ntmps131,QN,QO,QP,Nat.reduceAdd,Nat.reduceSub,QQ,QR,QS,QT,QU,QV];gi_wp2;clear hc;gi_loopw [7] (λi wr=>∃k:Nat,k<=N rs/\i=I J k/\∃t,Jq (rs.take k) t wr/\Y3 (Kept (λb=>¬o b/\∀y∈rs.take k,Ez.blk y=O b->b<n) W wr)/\Y3 (∀b,t b->o b∨(M (H W)<=b/\b<M (H wr))∨∃y∈rs.take k,Ez.blk y=O b/\n<=b))
  (λi _=>N rs-(intOf i).toNat)
 case atStart=>exact⟨0,QW _,rfl,o,h0,Qy _ _,λb h=>.inl h⟩
 case round=>
  obtain⟨k,hk,rfl,t,P,B,u⟩:=hrel;by_cases q:k<N rs
  .obtain⟨b,off,rfl,hcs⟩:=Qf FJ.o q;have D:∀y∈rs.take k,y∈rs:=λy g=>XP g
   have Q:=B.o.block b (QK (p:=(aD b (off+k))) (hcs k q)) ⟨(ag.o _ rfl).1,λy g j=>by
    rcases XV b n with h|h
    .exact h
    .exact absurd rfl ((ag.o _ rfl).2 y (D y g) b j h)⟩
   have R:=(QL (a:=(aD b (off+k))) Q).trans (hcs k q);have f:E rs k iz∈rs:=by grind
   have d:∀b,Ez.blk (E rs k iz)=O b->¬o b/\∀y∈rs.take k,Ez.blk y=O b->b<n:=λb j=>⟨(af.o _ f b j).1,λy g h=>wL.front aj.o q g h j⟩;have S:=Ez.keep (A.o _ f) B.o.size (λb ay j=>B.o.block b ay (d b j));have X:∀b,Ez.blk (E rs k iz)=O b->¬t b:=λb j h=>by
    rcases u.o b h with h|h|⟨y,g,h,h'⟩
    .exact(d b j).1 h
    .have:=Ez.zw (A.o _ f) j;omega
    .have:=(d b j).2 y g h;omega
   have HN:=Zh (oM rs iz q);have G:(rs.take k++[E rs k iz]).map Ez.key <+: keys:=by rw[oM rs iz q,<-Oh.o];have e:(rs.take (k+1)).map Ez.key=(rs.take (k+1)).map ae.xs:=Xw λx _=>K.key x;grind
   obtain⟨fn,tmps,C,ah,g,hR⟩:=HY.o _ (E rs k iz) t wr P G S (λb j=>⟨X b j,(af.o _ f b j).2⟩) (Qz L.o.2 B.o.size);have Dr:Y3 (∀b,Ez.blk (E rs k iz)=O b->b<M (H W)):=λb j=>Ez.zw (A.o _ f) j;have az:=Zh d;have ak:Y3 (E rs k iz∈rs.take (k+1)):=Kl (by omega) (by omega);have au:Y3 (∀y∈rs.take k,y∈rs.take (k+1)):=λy g=>by grind
   have aA:Y3 (∀y∈rs.take (k+1),y∈rs.take k∨y=E rs k iz):=λy g=>by rw[<-HN.o]at g;grind
   have aa:Ez.enc (E rs k iz)=(E rs k iz).val:=K.enc _;rw[aa]at g;clear aa d X f D Q;generalize E rs k iz=x at*;obtain⟨iZ,bL,fB⟩:=x;have aB:(Instr.yield l #[Z iZ (N fB) bL]).run V wr=.ok (.round l fn tmps C ah) wr:=g;have aC:UK wr (aD b (off+k))=O (Z iZ (N fB) bL):=R;clear g R S G;gi_wp2;refine⟨rfl,hR.mono ?_⟩;rintro e W3 ⟨rfl,o2,ai,r,z⟩;obtain⟨ax,zX,Dz⟩:=dQ ai r z;clear ai r z;gi_wp2;go_roundw
   case rel=>
    have r:=zX.o;have z:=Dz.o;have Gf:=L.o;refine⟨k+1,by omega,by simp,o2,by rw[<-HN.o];exact ax.o,?_,?_⟩
    .refine Kept.trans' (B.o.mono λb _ h=>⟨h.1,λy g=>h.2 y (au.o y g)⟩) r ?_;intro b j h h';rcases u.o b h' with h'|h'|⟨y,g,h1,h2⟩
     .exact h.1 h'
     .omega
     grind
    .intro b j;rcases z b j with h|h|h
     .rcases u.o b h with h|h|⟨y,g,h1,h2⟩
      .exact .inl h
      .exact .inr (.inl ⟨h.1,by have:=r.size;omega⟩)
      grind
     .exact .inr (.inl ⟨by have:=B.o.size;omega,h.2⟩)
     .exact .inr (.inr ⟨_,ak.o,h.1,h.2⟩)
   case measure=>simp[intOf];omega
  .obtain rfl:k=N rs:=by omega
   gi_wp2;go_end0;rw[QX]at P B u;refine⟨⟨_,rfl⟩,t,P,B.o.mono λb _ h=>⟨h.1,λ_ _ _=>h.2⟩,λb j=>?_⟩;have av:=B.o.size;rcases u.o b j with h|h|⟨y,g,h1,h2⟩
   .exact .inl h
   .exact .inr ⟨Qz L.o.2 h.1,h.2⟩
   .exact .inr ⟨h2,QA (Ez.zw (A.o y g) h1) av⟩
end
theorem ae8(h:w.ownsRow base e 1 v n (ys.map ae.val)) :
  n=N ys/\((v=Z xn 0 0/\ys=[])∨∃g cap R,v=Z (O (aD g 0)) (N ys) cap/\base<=g/\GB w g e (SL ys R)):=by
 have a:n=N ys:=by have:=h.1;simpa using this.symm
 refine⟨a,?_⟩;rcases h.2 with⟨h1,h2⟩|⟨g,cap,cur,h1,h2,h3,h4,h5,h6,h7⟩
 .grind
 .refine .inr ⟨g,cap,cur.toList.drop (n*1),by rw[h1,a],h2,?_⟩;unfold GB SL;rw[h3,<-h7,Zx]
theorem ae9{g:Nat}{L:List ae}{R:List X3}(h:GB w g e (SL L R)):aX w (O (aD g 0)) (N L) (λi=>(E L i iz).val):=by intro i a;refine⟨g,0,rfl,?_⟩;rw[ZK,h.cell];unfold SL;grind
def wL.perm{zs:List ae}(h:wL Ez n ys)(hp:ys.Perm zs):wL Ez n zs:=
 (List.Perm.pairwise_iff (R:=λy z=>∀b,Ez.blk y=O b->Ez.blk z=O b->b<n) (λh b a d=>h b d a) hp).1 h
def Ib(g:Nat)(lb:Array X3)(w:U):Ce 219 #[Z xn 0 0,I J 0,I J 0,.func (.func g) #[] lb] w (MV #[]):=by go_enter Tryz.func219,Tryz.ntmps219;go_wp2;refine wp_loop_rounds 1 ?_;rw[rounds_succ];go_wp2;go_end0;exact⟨rfl,rfl⟩
def R8(g:Nat)(lb:Array X3)(w:U):Ce 190 #[Z xn 0 0,I J 0,.func (.func g) #[] lb] w (MV #[]):=by have a:=Ib g lb w;go_enter Tryz.func190,Tryz.ntmps190;go_wp2;refine wp_loop_rounds 1 ?_;rw[rounds_succ];go_wp2_with fail;refine a.mono ?_;rintro e b ⟨rfl,rfl⟩;go_wp2;refine wp_loop_rounds 1 ?_;rw[rounds_succ];go_wp2;go_end0;exact⟨rfl,rfl⟩
def FM(g:Nat)(lb:Array X3)(w:U):Ce 136 #[Z xn 0 0,.func (.func g) #[] lb] w (MV #[]):=by have a:=R8 g lb w;go_enter Tryz.func136,Tryz.ntmps136;go_wp2_with fail;refine a.mono ?_;rintro e b ⟨rfl,rfl⟩;go_wp2;go_end0;exact⟨rfl,rfl⟩
def Ic(blk cap g:Nat)(lb:Array X3)(cf:ae->ae->Int)(ok:ae->Prop)(w0:U)(hC:RZ V g lb cf blk w0 ok)(eg:∀args w,(callFunc g args).run V w=.ok (.enter g args) w)(Oq:lG (iW cf))
  (L:List ae) (R:List X3) (w:U) (hG:GB w blk 22 (SL L R)) (hok:∀x∈L,ok x) (hK:Kept (λb=>b≠blk) w0 w) (hl:N L<=1000000) :
  Calls V 136 #[Z (O (aD blk 0)) (N L) cap,.func (.func g) #[] lb] w λe d=>e=FN (MV #[])/\GB d blk 22 (SL (mg (iW cf) [] L) R)/\Kept (λb=>b≠blk) w d:=by have a:=V3 blk cap (N L) g lb cf ok w0 hC eg Oq L R w hG hok hK rfl hl;clear hG hok hK;go_enter Tryz.func136,Tryz.ntmps136;go_wp2_with fail;refine a.mono ?_;rintro e j ⟨rfl,f,i⟩;go_wp2;go_end0;exact⟨rfl,f,i⟩
def R9(bp:Nat)(x y c:ae)(w:U)(hb:UK w (aD bp 0)=O c.val)(hx:x.At w)(hy:y.At w)(hc:c.At w)(ax:aS c.xs (N x.xs)=T)(ay:aS c.xs (N y.xs)=T) :
  Calls V 137 (#[x.val,y.val] ++ #[Y (O (aD bp 0))]) w λe b=>e=FN (I J (dL x.xs y.xs c.xs))/\∃m,b = w.drewN m:=by have a:=FK x y c w hx hy hc ax ay;clear hx hy hc ax ay;generalize dL x.xs y.xs c.xs=r at*;obtain⟨d,f,xs⟩:=x;obtain⟨g,i,ys⟩:=y;obtain⟨j,k,cs⟩:=c;unfold ae.val at*;simp only[QT,QV,QU]at*;go_enter Tryz.func137,Tryz.ntmps137;go_wp2_with fail;refine a.mono ?_;rintro e l ⟨rfl,m,rfl⟩;clear a;go_wp2;go_ret;exact⟨rfl,_,rfl⟩
def afa(bp blk:Nat)(c:ae)(w0:U)(hb:UK w0 (aD bp 0)=O c.val)(hc:c.At w0)(hbp:bp≠blk)(hcb:∀a,c.ad=O a->a.block≠blk) :
  RZ V 137 #[Y (O (aD bp 0))] (λx y=>dL x.xs y.xs c.xs) blk w0 (λx=>aj.At x w0/\(∀b,aj.blk x=O b->b≠blk)/\aS c.xs (N x.xs)=T):=by intro W x y d ⟨hx,hxb,ax⟩ ⟨hy,hyb,ay⟩;have e:=aj.keep hx d.size (λb hb h=>d.block b hb (hxb b h));have f:=aj.keep hy d.size (λb hb h=>d.block b hb (hyb b h));refine R9 bp x y c W (Q0 hb d hbp) e.1 f.1 ⟨hc.1,hc.2.keep λa g i=>d.block _ i (hcb a g)⟩ ax ay
section
attribute [local go_sem] Oper.semAt_some
def Sa(ao:Option Addr)(n cap:Nat)(w:U) :
  Calls V 87 #[Z ao n cap] w λe a=>e=FN (.func (.func 131) #[] #[Y (O (aD (M (H w)) 0))])/\a = w.alloc (EP #[Z ao n cap] 52):=by go_enter Tryz.func87,Tryz.ntmps87;go_wp2;go_ret;exact⟨rfl,rfl⟩
theorem Sb(K:Og Ez)(bi bp gi:Nat)(ik:Array X3)(c:ae)(rows:List (List Int))(w0:U)(hbi:bi<M (H w0))(hbp:bp<M (H w0))
  (hci:UK w0 (aD bi 0)=O (.func (.func gi) #[] ik)) (hcp:UK w0 (aD bp 0)=O c.val) (hc:c.At w0) (JO:∀a,c.ad=O a->a.block<M (H w0))
  (hseq:Seq Ez V gi ik rows w0) (FZ:∀args w,(callFunc gi args).run V w=.ok (.enter gi args) w) (hlen:N rows<=1000000) (hin:∀r∈rows,aS c.xs (N r)=T) :
  Seq Ez V 135 #[Y (O (aD bi 0)),Y (O (aD bp 0))] (fA c.xs rows) w0:=by
 intro l Jq W o hW ho hJ hY h0;have c1:=(hW.cell (p:=(aD bi 0)) hbi).trans hci;have c2:=(hW.cell (p:=(aD bp 0)) hbp).trans hcp;have af:=rH Ez K.enc gi ik rows w0 W hW hlen hseq FZ;obtain⟨HY,HO,HW,HJ⟩:=om hY ho hW hJ;have HC:Y3 (c.At w0/\(∀a,c.ad=O a->a.block<M (H w0))/\bp<M (H w0)/\UK w0 (aD bp 0)=O c.val):=⟨hc,JO,hbp,hcp⟩;obtain⟨av,Dr⟩:=aJ hlen hin;clear hY ho hJ hseq FZ hlen hin hc JO hci hcp hbi hbp hW;refine(QH (n:=0)).1 (callsIn_of_wp Tryz.func135 rfl trivial ?_ rfl);simp only[Tryz.ntmps135,QN,QO,QP,Nat.reduceAdd,Nat.reduceSub,QQ,QR,QS,QT,QU,QV];gi_wp2;refine⟨trivial,rfl,QH.2 (af.mono ?_)⟩;rintro e z ⟨v,ys,oG,rfl,aG,j⟩;clear af;have A:=j.below;have aM:M (H W)<M (H z):=QK (p:=(aD (M (H W)) 0)) j.box;have X:ys.map ae.xs=rows:=by rw[<-aG];exact(Xw λx _=>K.key x).symm
 have az:N ys<=1000000:=by have:=congrArg N X;rw[Zm]at this;rw[this];exact av.o
 have aA:=HJ.o _ _ _ _ h0 (QB (s:=λb=>o b∨b<M (H W)) A (λb d _=>d))
 -- behind the sort,and behind the box of Scan: handed out
 have S:∀(P:List ae) (ao:Option Addr) (cap:Nat) (q:U),P.Perm ys->P.map ae.xs=fA c.xs rows->Kept (λb=>v.ownBlock≠O b) z q->v=Z ao (N ys) cap->aX q ao (N P) (λi=>(E P i iz).val)->
   Calls V 131 #[.func (.yield l) #[] #[],Y (O (aD (M (H q)) 0))] (q.alloc (EP #[Z ao (N ys) cap] 52)) λe W'=>(∃v,e=FN v)/\∃ay o',ay.map Ez.key=fA c.xs rows/\Jq ay o' W'/\Kept (λb=>¬o b) W W'/\∀b,o' b->o b∨(M (H W)<=b/\b<M (H W')):=by
  intro P ao cap q u ax m hv Q;have aB:=u.length_eq;have aN:=m.size;have D:Kept (λb=>v.ownBlock≠O b) z (q.alloc (EP #[Z ao (N ys) cap] 52)):=m.trans (QE _ _);have G:∀b,b<M (H W)->v.ownBlock≠O b:=λb d e=>by have:=(Zb j.own e).1;omega
  have aC:=HJ.o _ _ _ _ aA (D.mono λb _ h=>by
   rcases h with h|h
   .exact G b (HO.o b h).2
   .exact G b h)
  have f:∀y∈P,y∈ys:=λy C=>u.mem_iff.1 C;refine(ae7 K (M (H q)) ao cap (M (H w0)) (M (H W)) P (fA c.xs rows) ax l Jq (q.alloc (EP #[Z ao (N ys) cap] 52)) o ?_ ?_ ?_ ⟨λh=>?_,λy C b d _=>?_⟩ (λa ha=>⟨λh=>?_,λy C b d _=>?_⟩) (λy C=>?_) (λy C b d=>⟨λh=>?_,?_⟩) ?_ (λb d=>(HO.o b d).2) HW.o.size ?_ HY.o aC).mono ?_
  .rw[aB];exact(GB.alloc q _ _).cell 0
  .exact aX.below (dN _ _) Q
  .omega
  .have:=(HO.o _ h).2;omega
  .have:=Ez.zw (j.at' y (f y C)) d;omega
  .subst ha;have e1:v.ownBlock=O a.block:=by
    rcases j.own.2 with⟨e,_⟩|⟨g,cap',cur,e,_⟩
    .rw[hv]at e;cases e
    .rw[e]at hv ⊢;cases hv;rfl
   exact G _ (HO.o _ h).2 e1
  .subst ha;have e1:v.ownBlock=O a.block:=by
    rcases j.own.2 with⟨e,_⟩|⟨g,cap',cur,e,_⟩
    .rw[hv]at e;cases e
    .rw[e]at hv ⊢;cases hv;rfl
   have:=(j.off y (f y C) b d).2;grind
  .exact Ez.keep (j.at' y (f y C)) D.size (λb d h=>D.block b d (j.off y (f y C) b h).2)
  .rcases j.born y (f y C) b d with h1|h1
   .have:=(HO.o b h).1;omega
   .have:=(HO.o b h).2;omega
  .exact j.born y (f y C) b d
  .exact j.apart.perm u.symm
  .simp;omega
  .rintro e W' ⟨aH,o',aI,aK,aL⟩;refine⟨aH,P,o',?_,aI,?_,aL⟩
   .rw[<-ax];exact Xw λx _=>K.key x
   .have h1:Kept (λb=>¬o b) W z:=QB A (λb d _=>d);have h2:Kept (λb=>¬o b/\b<M (H W)) W z:=QB A (λb d _=>d);exact((h2.trans' (D.mono (t:=λb=>b<M (H W)) λb _ h=>G b h) (λb _ h=>h.2)).trans aK).mono λb d h=>⟨h,d⟩
 have HF:=Zh S;clear S;obtain⟨hn,aa⟩:=ae8 j.own;rcases aa with⟨rfl,hnil⟩|⟨g,cap,R,rfl,hgb,hGB⟩
 .subst hnil;have ag:=FM 137 #[Y (O (aD bp 0))] z;have aF:fA c.xs rows=[]:=by rw[<-X];rfl
  have ah:=HF.o [] xn 0 z (List.Perm.refl _) aF.symm (Qy _ _) rfl (λi hi=>absurd hi (by simp));have B:=Sa xn 0 0 z;clear HF j;gi_wp2;refine⟨trivial,rfl,QH.2 (ag.mono ?_)⟩;rintro e w2 ⟨rfl,rfl⟩;clear ag;gi_wp2;refine⟨trivial,rfl,QH.2 (B.mono ?_)⟩;rintro e w3 ⟨rfl,rfl⟩;clear B;gi_wp2;refine⟨trivial,rfl,QH.2 (ah.mono ?_)⟩;rintro e w4 ⟨⟨v4,rfl⟩,k⟩;clear ah;gi_wp2;go_end0;exact⟨⟨_,rfl⟩,k⟩
 .have ai:=afa bp g c z
   ((A.cell (p:=(aD bp 0)) (QA HC.o.2.2.1 HW.o.size)).trans c2) (Qo A (Qo HW.o HC.o.1)) (by have:=HC.o.2.2.1;have:=HW.o.size;omega) (λa ha=>by have:=HC.o.2.1 a ha;have:=HW.o.size;omega)
  have aj:=Ic g cap 137 #[Y (O (aD bp 0))] _ _ z ai (XZ Tryz.func137 (by kernel_rfl) rfl) (aca c.xs) ys R z hGB
   (λx hx=>⟨K.at' (j.at' x hx),λb d e=>by
    rw[<-K.blk]at d;have:=(j.off x hx b d).2;rw[e]at this;exact this rfl,Dr.o _ (by grind)⟩) (Qy _ _) az
  have ak:=λ(q:U) (L:GB q g 22 (SL (mg (iW λx y:ae=>dL x.xs y.xs c.xs) [] ys) R)) (m:Kept (λb=>b≠g) z q)=>HF.o (mg (iW λx y:ae=>dL x.xs y.xs c.xs) [] ys) (O (aD g 0)) cap q (uX ys []) (by rw[ae6,X]) (m.mono λb _ h e=>by subst e;exact h rfl) rfl (ae9 L);have B:=λq=>Sa (O (aD g 0)) (N ys) cap q;clear HF j hGB ai;generalize mg (iW λx y:ae=>dL x.xs y.xs c.xs) [] ys=P at*;gi_wp2;refine⟨trivial,rfl,QH.2 (aj.mono ?_)⟩;rintro e w2 ⟨rfl,L,m⟩;have au:=ak w2 L m;clear aj ak L m;gi_wp2;refine⟨trivial,rfl,QH.2 ((B w2).mono ?_)⟩;rintro e w3 ⟨rfl,rfl⟩;clear B;gi_wp2;refine⟨trivial,rfl,QH.2 (au.mono ?_)⟩;rintro e w4 ⟨⟨v4,rfl⟩,k⟩;clear au;gi_wp2;go_end0;exact⟨⟨_,rfl⟩,k⟩
end
section
open Go.Maps Go.WideMaps
def Cu(kr:Int)(ys:List ae)(κ:Int):List ae:=ys.filter λy=>decide (bH y.xs kr=κ)
theorem aco(kr:Int)(ys:List ae)(x:ae):Cu kr (ys++[x])=λκ=>if κ=bH x.xs kr then Cu kr ys κ++[x] else Cu kr ys κ:=by funext κ;unfold Cu;grind
structure acp(P:Program)(ti tE:TypeId)(Jq:List ae->(Nat->Prop)->U->Prop)(kr:Int)(o:Nat->Prop)(n0 Nq:Nat)(w3:U)(pre:List ae)(o1:Nat->Prop)(W':U)(val:Int->X3):Prop where
 Sl:Av P ti tE (Nq+3) (Nq+1) (N pre) (Cu kr pre) val W'
 j:Jq [] o W'
 iff:∀b,o1 b↔o b∨gD (Nq+1) val b∨(M (H w3)<=b/\∃y∈pre,aj.blk y=O b)
 at':∀y∈pre,aj.At y W'
 rows:∀y∈pre,∀b,aj.blk y=O b->(b<n0∨M (H w3)<=b)/\¬gD (Nq+1) val b
 kept:Kept (λb=>¬o b/\b≠Nq+1) w3 W'
def acp.keep{P:Program}{ti tE:TypeId}{Jq:List ae->(Nat->Prop)->U->Prop}{kr:Int}{o:Nat->Prop}{n0 Nq:Nat}{w3:U}{pre:List ae}{o1:Nat->Prop}{A B:U}{val:Int->X3}(h:acp P ti tE Jq kr o n0 Nq w3 pre o1 A val)
  (hJ:∀pre o1 A B,Jq pre o1 A->Kept (λb=>o1 b∨b<Nq) A B->Jq pre o1 B) (hN:Nq+3<=M (H w3)) (hn0:n0<=Nq) (hk:Kept (λb=>o1 b∨b<M (H w3)) A B):acp P ti tE Jq kr o n0 Nq w3 pre o1 B val:=by
 refine⟨h.Sl.keep hk (λb a=>.inl ((h.iff b).2 (.inr (.inl a)))),hJ _ _ _ _ h.j (hk.mono λb _ a=>a.imp (λa=>(h.iff b).2 (.inl a)) (by omega)),h.iff,λy e=>aj.keep (h.at' y e) hk.size (λb a d=>hk.block b a ?_),h.rows,h.kept.trans' hk (λb a _=>.inr a)⟩;rcases (h.rows y e b d).1 with f|f
 .exact .inr (by omega)
 .exact .inl ((h.iff b).2 (.inr (.inr ⟨f,y,e,d⟩)))
theorem aiX{W:U}(h:W.ownsRow base e 1 v (N ys) (ys.map ae.val))(hl:N ys<=1000000)(hat:∀y∈ys,aj.At y W) :
  ∃j cap,v=Z j (N ys) cap/\bD W j ys/\∀a,j=O a->v.ownBlock=O a.block:=by
 have d:∀i,i<N ys->aj.At (E ys i iz) W:=λi b=>hat _ (mY b);rcases h.2 with⟨hv,h0⟩|⟨g,cap,cur,hv,hb,hh,hc1,hc2,hc3,ht⟩
 .have:=Qs h0;subst this;exact⟨xn,0,hv,⟨⟨by simp,λi b=>absurd b (by simp),λi b=>absurd b (by simp)⟩,(λa f=>by cases f),λi b=>absurd b (by simp)⟩,λa f=>by cases f⟩
 .refine⟨O (aD g 0),cap,hv,⟨⟨by omega,λi b=>⟨g,0,rfl,?_⟩,λi b=>(d i b).1⟩,λa f=>?_,d⟩,λa f=>by cases f;rw[hv];rfl⟩
  .have l:(cur.toList.take (N ys*1))[i]? = O (E ys i iz).val:=by rw[ht];simp[List.getD,b]
   have k:cur[i]? = O (E ys i iz).val:=by grind
   simp only[World.cell?,hh];simpa using k
  grind
def Ik{x:Int}(h:bW x):Ko x:=uC h
def Cv(lk rk:Int)(A B R:List (List Int)):jF lk rk (A++B) R=jF lk rk A R++jF lk rk B R:=by unfold jF;rw[ZN]
def acr{lk rk:Int}{L L' R:List (List Int)}(h:L <+: L'):jF lk rk L R <+: jF lk rk L' R:=by obtain⟨t,rfl⟩:=h;rw[Cv];exact List.prefix_append _ _
attribute [local go_sem] Oper.semAt_some
theorem afu(br bl Pe Mg gr gl kl kr:Nat)(oq nZ:Array X3)(L R:List (List Int))(w0:U)(hbr:br<M (H w0))(hbl:bl<M (H w0))(aiR:Pe<M (H w0))(aiS:Mg<M (H w0))
  (hcr:UK w0 (aD br 0)=O (.func (.func gr) #[] oq)) (hcl:UK w0 (aD bl 0)=O (.func (.func gl) #[] nZ)) (aiT:UK w0 (aD Pe 0)=O (I J kl)) (aiU:UK w0 (aD Mg 0)=O (I J kr))
  (yw:Seq aj V gr oq R w0) (hsl:Seq aj V gl nZ L w0)
  (egr:∀args w,(callFunc gr args).run V w=.ok (.enter gr args) w) (egl:∀args w,(callFunc gl args).run V w=.ok (.enter gl args) w)
  (hR:N R<=1000000) (J5:∀a∈L,N a<=1000) (hRl:∀a∈R,N a<=1000) (hLk:∀a∈L,kl<N a) (hRk:∀a∈R,kr<N a) (hLs:∀a∈L,∀v∈a,bW v) (hRs:∀a∈R,∀v∈a,bW v) :
  Seq aj V 225 #[Y (O (aD br 0)),Y (O (aD Mg 0)),Y (O (aD bl 0)),Y (O (aD Pe 0))] (jF kl kr L R) w0:=by
 intro l Jq W o hW ho hJ hY h0;obtain⟨w1,aF⟩:∃x,W.alloc (EP #[.func (.yield l) #[] #[]] 123)=x:=⟨_,rfl⟩;have aT:Bw W w1:=by rw[<-aF];exact dN _ _
 have s1:M (H w1)=M (H W)+1:=by rw[<-aF];simp
 have y1:UK w1 (aD (M (H W)) 0)=O (.func (.yield l) #[] #[]):=by rw[<-aF];simp
 obtain⟨w2,aG⟩:∃x,w1.alloc (.map #[] 0)=x:=⟨_,rfl⟩;have aU:Bw w1 w2:=by rw[<-aG];exact dN _ _
 have s2:M (H w2)=M (H W)+2:=by rw[<-aG];simp[s1]
 have m2:Av V 3 22 (M (H W)+3) (M (H W)+1) 0 (λ_=>[]) (λ_=>Z xn 0 0) w2:=by have h:=Av.fresh V 3 22 w1;rw[aG,s1]at h;exact⟨h.map,λ_=>Zk _ _ _ _,h.apart,by omega⟩
 obtain⟨w3,aH⟩:∃x,w2.alloc (EP #[.map (O (M (H W)+1))] 282)=x:=⟨_,rfl⟩;have aV:Bw w2 w3:=by rw[<-aH];exact dN _ _
 have s3:M (H w3)=M (H W)+3:=by rw[<-aH];simp[s2]
 have x3:UK w3 (aD (M (H W)+2) 0)=O (.map (O (M (H W)+1))):=by rw[<-aH,<-s2];simp
 have m3:=m2.keep (QB (s:=λ_=>True) aV (λb d _=>d)) (λ_ _=>trivial);have vg:=aU.trans (aV.mono aU.size);have y3:=cB vg y1;have aM:=aT.trans (vg.mono aT.size);have wZ:=hW.trans (aM.mono hW.size);have fH:=(wZ.cell (p:=(aD br 0)) hbr).trans hcr;have Py:=hJ _ _ _ _ h0 (QB aM (λb d _=>d));have bn:acp V 3 22 Jq kr o (M (H w0)) (M (H W)) w3 [] (λb=>o b∨gD (M (H W)+1) (λ_=>Z xn 0 0) b∨(M (H w3)<=b/\∃y∈([]:List ae),aj.blk y=O b)) w3 (λ_=>Z xn 0 0):=
  ⟨m3,Py,λ_=>QJ,λy f=>(by cases f),λy f=>(by cases f),Qy _ _⟩
 obtain⟨dX,HY,HO,HW,HJ,HR,dY⟩:=ze bn hY ho hW hJ hR J5;obtain⟨dZ,ed,ek,eu,eB⟩:=J2 hRl hLk hRk hLs hRs;have F3:Y3 (UK w0 (aD Pe 0)=O (I J kl)/\UK w0 (aD Mg 0)=O (I J kr)/\Pe<M (H w0)/\Mg<M (H w0)/\bl<M (H w0)/\UK w0 (aD bl 0)=O (.func (.func gl) #[] nZ)):=⟨aiT,aiU,aiR,aiS,hbl,hcl⟩;obtain⟨zN,bR,eD,bS,Il,eF⟩:=MP s3 x3 y3 wZ aM aF;obtain⟨eG,eH⟩:=aJ aG aH;clear hY ho hW hJ hcr hcl hR J5 hRl hLk hRk hLs hRs hbl hbr aiT aiU aiR aiS aT aU aV vg s1 s2 s3 y1 y3 x3 m2 m3 Py h0 bn aM aF aG aH;refine(QH (n:=0)).1 (Q3 Tryz.func225 rfl trivial ?_ rfl);simp only[Tryz.ntmps225,QN,QO,QP,Nat.reduceAdd,Nat.reduceSub,QQ,QR,QS,QT,QU,QV];have fI:=@run_makeMap V;gi_upto_region 2 with fail;rw[eF.o,eG.o,eH.o];gi_wp2_with fail;refine nI aj (gf:=gr) (lb:=oq) rfl egr yw wZ rfl
  (λpre u W'=>∃val,acp V 3 22 Jq kr o (M (H w0)) (M (H W)) w3 pre u W' val)
  (λb=>o b∨gD (M (H W)+1) (λ_=>Z xn 0 0) b∨(M (H w3)<=b/\∃y∈([]:List ae),aj.blk y=O b)) ?_ ?_ ⟨_,dX.o⟩ (λx=>{ tmps:=#[.func (.yield l) #[] #[],Y (O (aD br 0)),Y (O (aD Mg 0)),Y (O (aD bl 0)),Y (O (aD Pe 0)),Y (O (aD (M (H W)) 0)),Y (O (aD (M (H W)+2) 0)),x.val,undef,.map (O (M (H W)+1)),.func (.func gr) #[] oq,x.val,undef,undef,undef,undef,undef,undef,undef,undef,undef,undef,undef,undef,undef,undef,undef,undef,undef,undef,undef,undef,undef,undef,undef,undef,undef,undef,undef],defers:=[] }) ?assign ?body ?done
 .intro b d;have h0:=HW.o.size;have h3:=zN.o;rcases d with h|h|⟨_,y,f,_⟩
  .exact⟨(HO.o b h).1,by have:=(HO.o b h).2;omega⟩
  .rcases h with h|⟨κ,h⟩
   .omega
   .cases h
  .cases f
 .rintro pre u A B ⟨val,h⟩ hk;exact⟨val,h.keep HJ.o (by have:=zN.o;omega) HW.o.size hk⟩
 case assign=>
  intro l x W K Q;gi_wp2;exact Q
 case body=>
  rintro l2 pre x u G ⟨val,q⟩ ag z ah eO;have av:=lD ag;have az:=ek.o _ av;have bq:=HW.o.size;have h3:=zN.o;have fJ:N pre+1<=1000000:=by have C:=ag.length_le;rw[Zm,Zn]at C;have h2:=HR.o;simp at C;omega
  have ax:∀b,gD (M (H W)+1) val b->b=M (H W)+1∨M (H W)+3<=b:=λb d=>by
   rcases d with h|⟨κ,h⟩
   .exact .inl h
   .exact .inr (Zb (q.Sl.own κ) h).1
  have cO:∀b,b<M (H w0)->¬o b/\b≠M (H W)+1:=λb d=>⟨λh=>by have:=(HO.o b h).1;omega,by omega⟩;have aW:=wZ.trans (q.kept.below wZ.size cO);have cZ:=(aW.cell (p:=(aD Mg 0)) F3.o.2.2.2.1).trans F3.o.2.1;have df:=Q0 bR.o q.kept ⟨λh=>by have h':o (M (H W)+2):=h;have:=(HO.o _ h').2;omega,by show M (H W)+2≠_;omega⟩;obtain⟨xb,xo,aI,zh⟩:=Qg z.1 az;have dh:=zh kr az;have ai:=q.Sl.keep (QB (s:=λ_=>True) ((Qm (M (H G)) G).drew) (λb d _=>d)) (λ_ _=>trivial);have aA:bH x.xs kr=E x.xs kr 0:=by unfold bH;rw[Xk]
  have di:=lH (eB.o _ av) kr;have aB:=Ik di;have dm:=ai.look (t:=282) (e:=52) Tryz.underlying3 Tryz.underlying282 (Tryz.zeroValue52 _) aB;have RN:Av V 3 22 (M (H W)+3) (M (H W)+1) (N pre) (Cu kr pre) val (G.drew.alloc (EP #[x.val] 22)):=ai.keep (QE (s:=λ_=>True) _ _) (λ_ _=>trivial);have bu:=RN.look (t:=282) (e:=52) Tryz.underlying3 Tryz.underlying282 (Tryz.zeroValue52 _) aB;obtain⟨vn,wa,wu,aY,fQ,eP,⟨ya,ym,yc,rfl⟩,eQ,eT,bT⟩:=acn G.drew (M (H W)+3) (M (H W)+1) (N pre) (Cu kr pre) val ai (by omega) (by show M (H W)+3<=M (H G);omega) (E x.xs kr 0) aB (by unfold Cu;exact Qz (XN _ _) (by omega)) x 52;obtain⟨va,vm,vc,bU⟩:=Zc (ai.own (E x.xs kr 0));rw[bU]at dm bu aY;have fK:(Instr.lookup 282 (.map (O (M (H W)+1))) (.int J (E x.xs kr 0)) F).run V (G.alloc (EP #[x.val] 22)).drew=.ok (.slice va vm vc) (G.alloc (EP #[x.val] 22)).drew:=bu;have bz:=(QE _ _).trans eQ;have bA:=bz.trans eT;have Wo:=(QB ((Qm (M (H G)) G).drew) (λb d _=>d)).trans bA;obtain⟨bV,bX⟩:=aJ bz bA;have aX:∀b,aj.blk x=O b->¬gD (M (H W)+1) val b:=λb d h=>(ah b d).1 ((q.iff b).2 (.inr (.inl h)));have JU:Y3 (¬gD (M (H W)+1) val (M (H W)+2)/\¬gD (M (H W)+1) val Mg):=⟨λh=>by have:=ax _ h;omega,λh=>by have:=ax _ h;have:=F3.o.2.2.2.1;omega⟩;have aN:Y3 (∀a4:Act,gK aj (λpre u W'=>∃val,acp V 3 22 Jq kr o (M (H w0)) (M (H W)) w3 pre u W' val) pre x (M (H w3)) u G .normal a4 wu):=λa4=>by
   have bB:∀b,gD (M (H W)+1) (λκ=>if κ=E x.xs kr 0 then Z ya ym yc else val κ) b->gD (M (H W)+1) val b∨(M (H G)<b/\b<M (H wu)):=bT;have bC:∀b,b<M (H G)->¬gD (M (H W)+1) val b->¬gD (M (H W)+1) (λκ=>if κ=E x.xs kr 0 then Z ya ym yc else val κ) b:=λb d h h'=>by
    rcases bB b h' with C|C
    .exact h C
    .omega
   have dn:∀b,aj.blk x=O b->b<M (H G):=λb d=>aj.zw z d;refine⟨λb=>o b∨gD (M (H W)+1) (λκ=>if κ=E x.xs kr 0 then Z ya ym yc else val κ) b∨(M (H w3)<=b/\∃y∈pre++[x],aj.blk y=O b),⟨_,?_,?_,λ_=>QJ,?_,?_,?_⟩,Wo.mono (λb _ h h'=>h ((q.iff b).2 (.inr (.inl h')))),?_⟩
   .rw[aco,aA,Zn];exact eP
   .exact HJ.o _ _ _ _ q.j (Wo.mono λb _ h h'=>by
     have C:=ax b h';rcases h with h|h
     .have:=(HO.o b h).2;omega
     .omega)
   .intro y f;rcases Zi.1 f with f|f
    .exact aj.keep (q.at' y f) Wo.size (λb d k=>Wo.block b d (q.rows y f b k).2)
    .rw[Zg]at f;subst f;exact aj.keep z Wo.size (λb d k=>Wo.block b d (aX b k))
   .intro y f b k;rcases Zi.1 f with f|f
    .have C:=q.rows y f b k;exact⟨C.1,bC b (aj.zw (q.at' y f) k) C.2⟩
    .rw[Zg]at f;subst f;exact⟨(ah b k).2,bC b (dn b k) (aX b k)⟩
   .exact q.kept.trans' Wo (λb d h h'=>by
     have C:=ax b h';omega)
   .rintro b (d|d|⟨C,y,f,k⟩)
    .exact .inl ((q.iff b).2 (.inl d))
    .rcases bB b d with h|h
     .exact .inl ((q.iff b).2 (.inr (.inl h)))
     omega
    .rcases Zi.1 f with f|f
     .exact .inl ((q.iff b).2 (.inr (.inr ⟨C,y,f,k⟩)))
     .rw[Zg]at f;subst f;exact .inr (.inr ⟨k,C⟩)
  have bD:=Zh (aX xb (by show Option.map _ _=_;rw[aI];rfl));have aO:UK G.drew (aD (M (H W)+2) 0)=O (.map (O (M (H W)+1))):=df;have bE:UK G.drew (aD Mg 0)=O (I J kr):=cZ;have aP:UK G.drew (aD xb (xo+kr))=O (I J (E x.xs kr 0)):=dh;obtain⟨iZ,bL,fB⟩:=x;unfold ae.val at*;simp only at*;subst aI;generalize E fB kr 0=X at*;gi_upto_region 4 with fail;refine qR (S:=λx=>Kept (λb=>¬gD (M (H W)+1) val b) G.drew x) (by kernel_rfl) (by kernel_rfl) (λ⟨_,_,h⟩=>h) ?_;have m:Kept (λb=>¬gD (M (H W)+1) val b) G.drew G.drew:=Qy _ _;refine wT 0 (.map (O (M (H W)+1))) m (λx z=>?_) ?_
  .have q1:=Q0 aO z JU.o.1;go_simp
  refine wt 1 (Z (O (aD xb xo)) (N fB) bL) m ?_;refine wT 2 (I J kr) m (λx z=>?_) ?_
  .have q1:=Q0 bE z JU.o.2;go_simp
  refine wt 3 (Y (O (aD xb (xo+kr)))) m ?_;refine wT 4 (I J X) m (λx z=>?_) ?_
  .have q1:=Q0 aP z bD.o;go_simp
  refine wT 5 (.map (O (M (H W)+1))) m (λx z=>?_) ?_
  .have q1:=Q0 aO z JU.o.1;go_simp
  refine wt 6 (Z (O (aD xb xo)) (N fB) bL) m ?_;refine wT 7 (I J kr) m (λx z=>?_) ?_
  .have q1:=Q0 bE z JU.o.2;go_simp
  refine wt 8 (Y (O (aD xb (xo+kr)))) m ?_;refine wT 9 (I J X) m (λx z=>?_) ?_
  .have q1:=Q0 aP z bD.o;go_simp
  refine wt 11 (Z (O (aD xb xo)) (N fB) bL) m ?_;refine wJ 10 12 (λK Q=>?_) λK Q=>?_
  .go_simp;refine Q.o _ _ (Qy _ _) (λm=>?_);refine wR 12 λK Q=>?_
   go_simp;refine Q.o _ _ (QE _ _) (λm=>?_);refine wR 13 λK Q=>?_;refine XJ (by rfl) _ _ _ (by rfl) (Z va vm vc) (Z (O (aD (M (H G)) 0)) 1 1) (Z ya ym yc) wa (by rfl) (by rfl) aY ?_;refine Q.o _ _ bV.o (λm=>?_);refine wR 14 λK Q=>?_;go_simp;refine Q.o _ _ bX.o (λm=>?_);refine wD ?_;try simp only[Act.put,Qu,Qc,Qb]
   gi_wp2;exact aN.o _
  .go_simp;refine Q.o _ _ (QE _ _) (λm=>?_);refine wR 10 λK Q=>?_
   go_simp;refine Q.o _ _ (QE _ _) (λm=>?_);refine wR 13 λK Q=>?_;refine XJ (by rfl) _ _ _ (by rfl) (Z va vm vc) (Z (O (aD (M (H G)) 0)) 1 1) (Z ya ym yc) wa (by rfl) (by rfl) aY ?_;refine Q.o _ _ bV.o (λm=>?_);refine wR 14 λK Q=>?_;go_simp;refine Q.o _ _ bX.o (λm=>?_);refine wD ?_;try simp only[Act.put,Qu,Qc,Qb]
   gi_wp2;exact aN.o _
 case done=>
  rintro us o' W2 Vl ⟨val,q⟩ fT fU hD;have bF:us.map ae.xs=R:=Vl;have h3:=zN.o;have bG:=q.kept.size;have bI:¬o (M (H W)+2)/\¬o (M (H W)):=⟨λh=>by have:=(HO.o _ h).2;omega,λh=>by have:=(HO.o _ h).2;omega⟩;have dw:=Q0 bR.o q.kept ⟨bI.1,by show M (H W)+2≠_;omega⟩;have bq:=HW.o.size;have dx:N us<=1000000:=by have:=congrArg N bF;rw[Zm]at this;rw[this];exact HR.o
  have ax:∀b,gD (M (H W)+1) val b->b=M (H W)+1∨(M (H W)+3<=b/\b<M (H W2)):=λb d=>by
   rcases d with h|⟨κ,h⟩
   .exact .inl h
   .exact .inr (Zb (q.Sl.own κ) h)
  have dz:Ko 1073741824:=Ik (by unfold bW;omega);obtain⟨D,eU,eX⟩:=q.Sl.map;obtain⟨w5,fG,eY,aZ⟩:=eU.drop (t:=282) (e:=52) (int_keyed Tryz.underlying3) Tryz.underlying282 (keyOf_int_mk Tryz.underlying3 dz) 0;have af:Kept (λb=>b≠M (H W)+1) W2 w5:=Q9 aZ.grown (λr e h=>by cases e;exact h rfl);have fM:=af.size;have dA:Av V 3 22 (M (H W)+3) (M (H W)+1) (N us) (λκ=>if κ=1073741824 then [] else Cu kr us κ) (λκ=>if κ=1073741824 then .slice xn 0 0 else val κ) w5:=by
   refine⟨⟨_,eY,λκ hκ=>?_⟩,λκ=>?_,λκ κ' fF b d=>?_,by omega⟩
   .by_cases e:κ=1073741824
    .rw[Zt e,e,atKey_del_same]
    .rw[ZU e,atKey_del_other (λh=>e (by injection h)),eX κ hκ]
   .by_cases e:κ=1073741824
    .simp only[Zt e];exact Zk _ _ _ _
    .simp only[ZU e];exact Za (q.Sl.own κ) af (λg hg=>by have:=(Zb (q.Sl.own κ) hg).1;show g≠_;omega)
   .by_cases e:κ=1073741824
    .simp only[Zt e]at d;cases d
    .simp only[ZU e]at d;by_cases e':κ' = 1073741824
     .simp only[Zt e'];intro h;cases h
     .simp only[ZU e'];exact q.Sl.apart κ κ' fF b d
  have dB:∀b,gD (M (H W)+1) (λκ=>if κ=1073741824 then Z xn 0 0 else val κ) b->¬o b/\M (H W)<b/\b<M (H w5):=λb d=>by
   have C:gD (M (H W)+1) val b:=by
    rcases d with h|⟨κ,h⟩
    .exact .inl h
    .by_cases e:κ=1073741824
     .simp only[Zt e]at h;cases h
     .simp only[ZU e]at h;exact .inr ⟨κ,h⟩
   have h2:=ax b C;exact⟨λh=>by have:=(HO.o b h).2;omega,by omega,by omega⟩
  have Kb:=q.kept.trans' af (λb _ h=>h.2);have dC:∀y∈us,∀b,aj.blk y=O b->¬o b/\b<M (H w5):=λy f b d=>by have C:=(q.rows y f b d).1;have h2:=aj.zw (q.at' y f) d;exact⟨λh=>by have:=HO.o b h;omega,by omega⟩
  have dD:∀y∈us,aj.At y w5:=λy f=>aj.keep (q.at' y f) af.size (λb d k=>af.block b d (λe=>(q.rows y f b k).2 (.inl e)));have aQ:=bS.o.trans (Kb.below bS.o.size (λb d=>⟨λh=>by have:=(HO.o b h).1;omega,by omega⟩));have fO:=(aQ.cell (p:=(aD bl 0)) F3.o.2.2.2.2.1).trans F3.o.2.2.2.2.2;have dE:=HJ.o _ _ _ _ q.j (af.mono λb _ h=>by
   rcases h with h|h
   .have:=(HO.o b h).2;show b≠_;omega
   .show b≠_;omega)
  have dF:=(QB Il.o (λb d _=>d)).trans' Kb (λb d h=>⟨h,by omega⟩);obtain⟨jG,aK,bY,eZ,fe,fo,bZ⟩:=ze dA dB dC dD (Q0 dw af (by show M (H W)+2≠_;omega)) (Q0 eD.o Kb ⟨bI.2,by show M (H W)≠_;omega⟩) ((af.block _ (QI.1 hD).1 (by omega)).trans hD);obtain⟨cu,fq,fu,fw⟩:=om bF dx dF dE;have aR:Y3 (M (H w3)<M (H w5)):=by have:=(QI.1 bZ.o).1;exact this
  gi_wp2_with fail;refine nI aj (gf:=gl) (lb:=nZ) rfl egl hsl aQ rfl
   (λpre u W'=>∃zs,zs.map aj.key=jF kl kr (pre.map aj.key) R/\Jq zs u W'/\Kept (λb=>¬o b) w5 W'/\∀b,u b->o b∨(M (H w5)<=b/\b<M (H W')))
   o ?_ ?_ ?_ (λx=>{ tmps:=#[.func (.yield l) #[] #[],Y (O (aD br 0)),Y (O (aD Mg 0)),Y (O (aD bl 0)),Y (O (aD Pe 0)),Y (O (aD (M (H W)) 0)),Y (O (aD (M (H W)+2) 0)),undef,x.val,.map (O (M (H W)+1)),.func (.func gr) #[] oq,undef,undef,undef,undef,undef,undef,undef,undef,undef,undef,undef,undef,undef,undef,undef,.map (O (M (H W)+1)),.func (.func gl) #[] nZ,x.val,undef,undef,undef,undef,undef,undef,undef,undef,undef,undef],defers:=[] }) ?assign ?body ?done
  .intro b d;exact⟨(HO.o b d).1,by have:=(HO.o b d).2;have:=aR.o;have:=zN.o;omega⟩
  .rintro pre u A B ⟨zs,hz,hj,hk,hg⟩ bf;have C:=aR.o;have h2:=zN.o;exact⟨zs,hz,HJ.o _ _ _ _ hj (bf.mono λb _ h=>h.imp id (by omega)),hk.trans' bf (λb d _=>.inr d),λb h=>(hg b h).imp id (λh=>⟨h.1,by have:=bf.size;omega⟩)⟩
  .exact⟨[],rfl,fw.o,Qy _ _,λb h=>.inl h⟩
  case assign=>
   intro l x W K Q;gi_wp2;exact Q
  case body=>
   rintro l2 pre x u P ⟨zs,hz,hj,hk,hg⟩ ag z ah eO;have h3:=zN.o;have h5:=aR.o;have bq:=HW.o.size;have av:=lD ag;have az:=ed.o _ av;have dG:=dY.o _ av;have O6:∀b,M (H W)<=b->¬o b:=λb d h=>by have:=(HO.o b h).2;omega
   have bJ:∀b,b<M (H w0)->¬o b:=λb d h=>by have:=(HO.o b h).1;omega
   have ak:∀b,b<M (H w5)->¬o b->¬u b:=λb d h h'=>by grind
   have aW:=aQ.trans (hk.below aQ.size bJ);have aC:=hk.trans (QB ((Qm (M (H P)) P).drew) (λb d _=>d));have dH:UK P.drew (aD Pe 0)=O (I J kl):=(aW.cell (p:=(aD Pe 0)) F3.o.2.2.1).trans F3.o.1;have aO:=Q0 (s:=λb=>¬o b) fe.o aC (O6 (M (H W)+2) (by omega));have dI:=Q0 (s:=λb=>¬o b) fo.o aC (O6 (M (H W)) (Qn _));obtain⟨xb,xo,aI,zh⟩:=Qg z.1 az;have aP:UK P.drew (aD xb (xo+kl))=O (I J (E x.xs kl 0)):=zh kl az;have dJ:=(ah xb (by show Option.map _ _=_;rw[aI];rfl)).1;have aA:bH x.xs kl=E x.xs kl 0:=by unfold bH;rw[Xk]
   have aB:=Ik (lH (eu.o _ av) kl);have ai:=jG.o.keep aC (λb d=>(aK.o b d).1);have aa:∀y∈(if E x.xs kl 0=1073741824 then [] else Cu kr us (E x.xs kl 0)),y∈us:=λy f=>by
    split at f
    .cases f
    .exact(ZY.1 f).1
   have hsl:N (if E x.xs kl 0=1073741824 then [] else Cu kr us (E x.xs kl 0))<=1000000:=by
    split
    .simp
    .exact Qz (XN _ _) fq.o
   have au:jF kl kr ((pre++[x]).map aj.key) R=zs.map aj.key++(if E x.xs kl 0=1073741824 then [] else Cu kr us (E x.xs kl 0)).map (λr=>x.xs++r.xs):=by
    have e1:(pre++[x]).map aj.key=pre.map aj.key++[x.xs]:=by rw[Qi];rfl
    rw[e1,Cv,<-hz];congr 1;unfold jF;rw[Xr,List.flatMap_nil,Xd,aA,<-cu.o,QY];by_cases e:E x.xs kl 0=1073741824
    .rw[Zt e,Qx e];simp
    .rw[ZU e,Qw e,Z9];unfold Cu;have:(us.filter ((λb=>decide (bH b kr=E x.xs kl 0) && !F) ∘ ae.xs))=us.filter λy=>decide (bH y.xs kr=E x.xs kl 0):=by congr 1;funext y;simp
     rw[this];rfl
   have dK:Y3 (jF kl kr ((pre++[x]).map aj.key) R <+: jF kl kr L R):=acr ag;have bK:=ai.own (E x.xs kl 0);have bM:∀X,Kept (λb=>¬u b) P.drew X->(Instr.lookup 282 (.map (O (M (H W)+1))) (I J (E x.xs kl 0)) F).run V X=.ok (if E x.xs kl 0=1073741824 then Z xn 0 0 else val (E x.xs kl 0)) X:=λX hX=>
    (ai.keep hX (λb d=>ak b (aK.o b d).2.2 (aK.o b d).1)).look (t:=282) (e:=52) Tryz.underlying3 Tryz.underlying282 (Tryz.zeroValue52 _) aB
   obtain⟨tw,cz⟩:∃tw,(if E x.xs kl 0=1073741824 then [] else Cu kr us (E x.xs kl 0))=tw:=⟨_,rfl⟩;simp only[cz]at bK;rw[cz]at aa hsl au;have dL:∀y∈us,aj.At y P.drew:=λy f=>aj.keep (eZ.o y f) aC.size (λb d k=>aC.block b d (bY.o y f b k).1);obtain⟨va,vc,cK,fA,V7⟩:=aiX bK hsl (λy f=>dL y (aa y f));rw[cK]at bM V7;have dM:∀a,va=O a->¬u a.block:=λa ha=>by have C:gD (M (H W)+1) (λκ=>if κ=1073741824 then Z xn 0 0 else val κ) a.block:=.inr ⟨E x.xs kl 0,by simp only[cK];exact V7 a ha⟩;exact ak _ (aK.o _ C).2.2 (aK.o _ C).1
   have dO:=HJ.o _ _ _ _ hj (QB ((Qm (M (H P)) P).drew) (λb d _=>d));have Lv:=Gv l (M (H W)) Jq (jF kl kr L R) (M (H w0)) x va vc tw zs u P.drew HJ.o HY.o (by show M (H W)<=M (H P);omega) dO (by rw[<-au];exact dK.o) (aj.keep z (Qn _) (λb d _=>rfl)) (λb d=>(ah b d).1) dG fA dM
    (λi hi a ha=>by
     have C:=bY.o _ (aa _ (mY hi)) a.block (by show Option.map _ _=_;rw[ha];rfl);exact ak _ C.2 C.1)
    (λi hi=>dZ.o _ (by rw[<-cu.o];exact ZC.2 ⟨_,aa _ (mY hi),rfl⟩))
    (λb h=>by
     show b<M (H P);rcases hg b h with h|h
     .have:=(HO.o b h).2;omega
     .exact h.2)
   have aN:Y3 (∀(ay:List ae) (o2:Nat->Prop) (W4:U) (a4:Act),ay.map aj.key=tw.map (λr=>x.xs++r.xs)->Jq (zs++ay) o2 W4->Kept (λb=>¬u b) P.drew W4->(∀b,o2 b->u b∨(M (H P.drew)<=b/\b<M (H W4)))->
     gK aj (λpre u W'=>∃zs,zs.map aj.key=jF kl kr (pre.map aj.key) R/\Jq zs u W'/\Kept (λb=>¬o b) w5 W'/\∀b,u b->o b∨(M (H w5)<=b/\b<M (H W'))) pre x (M (H w5)) u P .normal a4 W4):=λay o2 W4 a4 bG Nt aL bg=>by
    have fP:M (H P)<=M (H W4):=aL.size;have bN:∀b,o2 b->u b∨(M (H P)<=b/\b<M (H W4)):=bg;have bO:=(QB ((Qm (M (H P)) P).drew) (λb d _=>d)).trans aL;refine⟨o2,⟨zs++ay,by rw[au,Qi,bG],Nt,hk.trans' bO (λb d h h'=>ak b d h h'),λb d=>?_⟩,bO,λb d=>(bN b d).imp id .inl⟩;rcases bN b d with h|h
    .exact(hg b h).imp id (λh=>⟨h.1,by omega⟩)
    .exact .inr ⟨by omega,h.2⟩
   have aS:Y3 (¬u (M (H W)+2)/\¬u Pe/\¬u xb/\¬u (M (H W))):=⟨ak _ (by omega) (O6 _ (by omega)),ak _ (by have:=F3.o.2.2.1;omega) (bJ _ F3.o.2.2.1),dJ,ak _ (by omega) (O6 _ (Qn _))⟩;have dP:=Zh bM;have dQ:Y3 _:=Lv;obtain⟨iZ,bL,fB⟩:=x;unfold ae.val at*;simp only at*;subst aI;generalize E fB kl 0=X at*;gi_upto_region 8 with fail;refine qR (S:=λx=>Kept (λb=>¬u b) P.drew x) (by kernel_rfl) (by kernel_rfl) (λ⟨_,_,h⟩=>h) ?_;have m:Kept (λb=>¬u b) P.drew P.drew:=Qy _ _;refine wt 0 (Z (O (aD xb xo)) (N fB) bL) m ?_;refine wT 1 (.map (O (M (H W)+1))) m (λx z=>?_) ?_
   .have q1:=Q0 aO z aS.o.1;go_simp
   refine wt 2 (Z (O (aD xb xo)) (N fB) bL) m ?_;refine wT 3 (I J kl) m (λx z=>?_) ?_
   .have q1:=Q0 dH z aS.o.2.1;go_simp
   refine wt 4 (Y (O (aD xb (xo+kl)))) m ?_;refine wT 5 (I J X) m (λx z=>?_) ?_
   .have q1:=Q0 aP z aS.o.2.2.1;go_simp
   refine wT 6 (Z va (N tw) vc) m (λx z=>?_) ?_
   .have q1:=dP.o x z;go_simp
   refine wT 7 (.func (.yield l) #[] #[]) m (λx z=>?_) ?_
   .have q1:=Q0 dI z aS.o.2.2.2;go_simp
   refine wR 8 λK Q=>?_;go_simp;refine XX dQ.o ?_;rintro e W4 ⟨rfl,ay,o2,fC,Nt,aL,bg⟩;refine Q.o _ _ aL λm=>?_;refine wt 9 (.bool F) m ?_;refine wD ?_;try simp only[Act.put,Qu,Qc,Qb]
   gi_wp2;exact aN.o ay o2 W4 _ fC Nt aL bg
  case done=>
   rintro fV o2 W6 fZ ⟨zs,hz,hj,hk,hg⟩ wN fD fE;have h5:=aR.o;have h3:=zN.o;gi_wp2;have dR:¬o2 (M (H w5)):=λh=>by
    rcases fD _ h with h|h
    .have:=(HO.o _ h).2;omega
    .omega
   have uu:¬o (M (H w3)):=λh=>by have:=(HO.o _ h).2;omega
   have dS:¬o2 (M (H w3)):=λh=>by grind
   have bP:=(hk.block _ h5 uu).trans bZ.o;have vO:Kept (λb=>b≠M (H w5)) W6 (W6.putObj (M (H w5)) (.deferred xn)):=QC _ _ (λh=>h rfl);have dU:=(QI.1 bP).1;have dV:=(vO.block _ dU (by omega)).trans bP;have dW:Kept (λb=>b≠M (H w3)) (W6.putObj (M (H w5)) (.deferred xn)) ((W6.putObj (M (H w5)) (.deferred xn)).putObj (M (H w3)) (.deferred xn)):=QC _ _ (λh=>h rfl);have bQ:Kept (λb=>b≠M (H w5)/\b≠M (H w3)) W6 ((W6.putObj (M (H w5)) (.deferred xn)).putObj (M (H w3)) (.deferred xn)):=(vO.mono λ_ _ h=>h.1).trans (dW.mono λ_ _ h=>h.2);refine⟨by simp,.inl ⟨_,_,rfl,Q5 fE,?_⟩⟩;refine⟨by simp,.inl ⟨_,_,rfl,Q5 dV,?_⟩⟩;refine⟨_,Q6 rfl _ _ _,⟨_,rfl⟩,zs,o2,?_,HJ.o _ _ _ _ hj (bQ.mono λb _ h=>?_),(fu.o.trans' hk (λb _ h=>h)).trans' bQ (λb d _=>by omega),λb h=>(hg b h).imp id (λh=>⟨by omega,by rw[Q7,Q7];omega⟩)⟩
   .grind
   .rcases h with h|h
    .exact⟨λe=>dR (e ▸ h),λe=>dS (e ▸ h)⟩
    .omega
end
def SS(e:TypeId)(lo:Nat):Og (kg e lo):=⟨λ_=>rfl,λ_=>rfl,λ_=>rfl,λh=>h.1.1⟩
def Ir(vi:X3)(c:ae)(rows:List (List Int))(w:U)(hi:qi V 3 vi rows w)(hc:c.At w)(h0:0<N c.xs)(hlen:N rows<=1000000)(hin:∀r∈rows,aS c.xs (N r)=T) :
  Calls V 90 #[vi,c.val] w λe m=>∃v,e=FN v/\qi V 3 v (fA c.xs rows) m/\Bw w m:=by
 obtain⟨f,g,rfl,u,k⟩:=hi;have d:=dN w (EP #[.func (.func f) #[] g] 79);have j:=dN (w.alloc (EP #[.func (.func f) #[] g] 79)) (EP #[c.val] 22);have i:=d.trans (j.mono d.size);have n:∀a,c.ad=O a->a.block<M (H ((w.alloc (EP #[.func (.func f) #[] g] 79)).alloc (EP #[c.val] 22))):=λa y=>by obtain⟨b,off,e,l⟩:=Qg hc h0;rw[y]at e;cases e;exact QA (rE (l 0 h0)) i.size
 have p:qi V 3 (.func (.func 135) #[] #[Y (O (aD (M (H w)) 0)),Y (O (aD (M (H w)+1) 0))]) (fA c.xs rows) ((w.alloc (EP #[.func (.func f) #[] g] 79)).alloc (EP #[c.val] 22)):=
  ⟨_,_,rfl,XZ Tryz.func135 (by kernel_rfl) rfl,Sb (SS 3 _) (M (H w)) (M (H w)+1) f g c rows _ (by simp;omega) (by simp) (by simp) (by simp) (Qo i hc) n (Seq.renew k i) u hlen hin⟩
 obtain⟨z,A,B⟩:=c;unfold ae.val at*;simp only at*;have q:Y3 _:=p;have t:Y3 _:=i;go_enter Tryz.func90,Tryz.ntmps90;go_wp2;go_ret;exact⟨_,rfl,q.o,t.o⟩
def Ku(vi:X3)(c:ae)(rows:List (List Int))(w:U)(hi:qi V 3 vi rows w)(hc:c.At w)(hlen:N rows<=1000000)(hin:∀r∈rows,aS c.xs (N r)=T) :
  Calls V 52 #[vi,c.val] w λe i=>∃v,e=FN v/\qi V 3 v (fA c.xs rows) i/\Bw w i:=by
 by_cases f:c.xs=[]
 .rw[f,Vk];obtain⟨k,l,rfl,_,_⟩:=id hi;obtain⟨m,n,g⟩:=c;simp only at f;subst f;refine(Kn k l m n w).mono ?_;rintro e i ⟨rfl,rfl⟩;exact⟨_,rfl,hi,Qm _ _⟩
 .have a:0<N c.xs:=List.length_pos_iff.2 f;have b:=Ir vi c rows w hi hc a hlen hin;obtain⟨k,l,rfl,_,_⟩:=id hi;obtain⟨m,n,g⟩:=c;unfold ae.val at*;simp only at*;have u:=hc.1;have p:((N g:Int)==0)=false:=by
   have:¬(N g:Int)=0:=by omega
   simpa using this
  go_enter Tryz.func52,Tryz.ntmps52;go_wp2_with fail;refine b.mono ?_;rintro e y ⟨v,rfl,d,j⟩;have q:Y3 _:=d;obtain⟨z,t,rfl,_,_⟩:=id d;go_wp2;go_ret;exact⟨_,rfl,q.o,j⟩
def SV(q:af)(d:Option Addr)(sJ:Nat)(db:List aP)(SX:List (List Int))(w:U)(hq:q.At w)(mX:uG w d db)(h1:0<N q.src.xs)(h5:N q.src.xs<=5)(hcp:N q.src.xs<=q.src.cap)(ha:aS q.src.xs (N db)=T)
  (hrow:∀t,∀r∈fu db t,N r<=100) (hlen:∀t,N (fu db t)<=1000000)
  (hcs:∀r∈bz q.src.xs db,∀i,i<N q.wh->∀k,k<(E q.wh i lz).cs.length->fV ((E q.wh i lz).cs.getD k cz) (N r)=T)
  (hout:∀A W,Bw w W->dh aj V A ((bz q.src.xs db).filter (dR q.wh)) W->Calls V 53 #[A,.agg q.cells] W λe f=>∃v,e=FN v/\qi V 3 v SX f/\Bw W f)
  (hol:N SX<=1000000) (hoi:∀r∈SX,aS q.ord.xs (N r)=T) :
  Calls V 31 #[.agg q.cells,Z d (N db) sJ] w λe f=>∃v,e=FN v/\qi V 3 v (fA q.ord.xs SX) f/\Bw w f:=by
 obtain⟨g,ai,S,hg⟩:=aL w q.cells 26;obtain⟨c0,c1,c2,c3,c4,c5,c6⟩:=hg.k7;have B:=Ec q.src d sJ db g (Qo S hq.src) (mX.below S) h1 h5 hcp ha hrow hlen;have HQ:Y3 _:=hq;have z:Y3 _:=S;have FJ:Y3 _:=hcs;have C:Y3 _:=hout;have zi:q.ord.At g:=Qo z.o HQ.o.ord;have D:Y3 (∀v W,Bw g W->qi V 3 v SX W->Calls V 52 #[v,q.ord.val] W λe f=>∃v,e=FN v/\qi V 3 v (fA q.ord.xs SX) f/\Bw W f):=
  λv W l hv=>Ku v q.ord SX W hv (Qo l zi) hol hoi
 have G:dJ g q.gI q.wh:=HQ.o.wh.below z.o;have Oh:Y3 (∀W x,Bw g W->ae.At x W->x.xs∈bz q.src.xs db->Calls V 50 (#[x.val] ++ #[Y (O (aD (M (H w)) 0))]) W λe W'=>e=FN (.bool (dR q.wh x.xs))/\Bw W W'):=λW x l hx hm=>
  aeX q (M (H w)) x.ad x.cap x.xs W (cB l c1) hx (G.below l) (FJ.o _ hm)
 generalize bz q.src.xs db=rows at*;generalize fA q.ord.xs SX=res at*;generalize aG:dR q.wh=p at*;obtain⟨⟨xe,lS,src⟩,gI,bP,wh,group,ag,ah,⟨ak,au,av⟩,⟨ax,ay,az⟩⟩:=q;unfold af.cells ae.val at*;simp only at*;clear hg;go_enter Tryz.func31,Tryz.ntmps31;go_wp2_with fail;refine B.mono ?_;rintro e w2 ⟨vc,rfl,n,a⟩;have K:=RP vc 50 #[Y (O (aD (M (H w)) 0))] rows p w2 n (XZ Tryz.func50 (by kernel_rfl) rfl) (λW x l hx hm=>Oh.o W x (a.trans (l.mono a.size)) hx hm);obtain⟨g2,aA,rfl,_,_⟩:=id n;go_wp2_with fail;refine K.mono ?_;rintro e j ⟨A,rfl,Wh,X⟩;have L:Bw g j:=a.trans (X.mono a.size);obtain⟨d0,d1,d2,d3,d4,d5,d6⟩:=tO L c0 c1 c2 c3 c4 c5 c6;have P:Bw j j.drew:=(Qm _ _).drew;have m:Bw w j.drew:=(z.o.trans (L.mono z.o.size)).drew;have Q:=C.o A j.drew m (Wh.later P);obtain⟨g3,aB,rfl,_,_⟩:=id Wh;have FB:Y3 (Bw w j.drew):=m;have F1:Y3 (Bw g j.drew):=L.drew;go_wp2;go_region_with (first|(refine Q.mono ?_;rintro e w4 ⟨v4,rfl,u,b⟩;have e6:=cB b d6;have R:=D.o v4 w4 (F1.o.trans (b.mono F1.o.size)) u;obtain⟨g4,aC,rfl,_,_⟩:=u)|(refine R.mono ?_;rintro e w5 ⟨v5,rfl,y,aa⟩;have V6:Y3 _:=y;obtain⟨g5,aF,rfl,_,_⟩:=y))
 all_goals
  go_wp2;go_ret;exact⟨_,rfl,V6.o,FB.o.trans ((b.trans (aa.mono b.size)).mono FB.o.size)⟩
