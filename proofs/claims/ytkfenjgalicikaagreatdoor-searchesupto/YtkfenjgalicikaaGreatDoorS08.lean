import Derived.Test.YtkfenjgalicikaaGreatDoorS07
set_option linter.all false
set_option maxRecDepth 100000
set_option maxHeartbeats 0
namespace Go.Proofs.Zz
open Go.RowKit Go.Shelf Go.Proofs.Tryz
open List renaming length->N,getD->E
open Go.Value renaming slice->Z,int->I,pointer->Y
open Go.Proofs.Tryz renaming prog->V
open Option renaming some->O,none->Qr
open Go.IntKind renaming i64->J
open Bool renaming false->F,true->T
open Go renaming World->U,Value->Ql
open Go.World renaming heap->H,setCell->Qn
open _root_.Array renaming size->M
open Go.RowKit renaming Hid->Qm
open Go.Obj renaming cells->Qs
open Go.Ending renaming returned->Qu
variable {P:Program} {ops:Array Oper} {Q:Exit->Act->U->Prop} {base i l n sz:Nat} {a:Act} {w:U} {ns:IC} {v:Ql} {xs:JK Ql} {e:TypeId}
theorem sS{ts:JK af}{q:ae}(h:q.check ts=0):Chk ts q/\0<N q.au.xs/\(q.aF=F->dm q.ord.xs (N q.bA.xs)=T)/\N q.ord.xs<=4/\dm q.bA.xs (aX ts q.au.xs)=true:=by
 unfold ae.check uj at h
 cases hc:gV ts with
 |false=>simp_all
 |true =>
  rw[Zk (by rw[hc];simp)]at h
  cases hf:mD q.au.xs q.qU q.aC.xs q.aM.xs q.bA.xs q.ord.xs with
  |true=>simp_all
  |false =>
   rw[Zk (by rw[hf];simp)]at h;by_cases v:dm q.au.xs (N ts)=T/\0<N q.au.xs/\jB q.qU (aX ts q.au.xs)=T/\jX (aX ts q.au.xs) q.aF q.aC.xs q.aM.xs q.bA.xs q.ord.xs=T
   .obtain⟨n,p,e,f⟩:=v;unfold mD at hf;rw[Bool.or_eq_false_iff,Zj]at hf;obtain⟨y,z⟩:=hf;have m:N q.qU=N q.wh:=by unfold ae.qU;simp
    have b:∀i,i<N q.wh->(E q.wh i lz).cs∈q.qU:=λi a=>by unfold ae.qU;grind
    unfold jB at e;rw[Q9]at e;have k:∀i,i<N q.wh->0<(E q.wh i lz).cs.length/\∀c∈(E q.wh i lz).cs,jW c (aX ts q.au.xs)=true:=λi a=>by have:=e _ (b i a);unfold kK at this;simp_all
    unfold jX at f;simp only[Q8]at f;obtain⟨⟨⟨⟨⟨⟨⟨r,_⟩,_⟩,l⟩,_⟩,_⟩,_⟩,_⟩:=f;refine⟨⟨hc,n,X,X,?_,λi a=>(k i a).1,λi a=>?_⟩,p,λu=>?_,X,r⟩
    .intro i a c j;unfold bD at j;rw[ZA]at j;obtain⟨x,t,g⟩:=j;have d:=(k i a).2 x t;unfold jW at d;simp only[Q8,Zi]at d;obtain⟨⟨⟨⟨A,B⟩,C⟩,D⟩,G⟩:=d;unfold bz at g
     grind
    .simp_all
    .rw[u]at l;exact l
   simp_all
theorem aef(hd:∀o∈ops,∀c,o.op ≠ .defer c)(hQ:¬LetsOut Q){K K':Act->U->Prop}(hK:∀a w,K a w->K' a w)(h:wpOp P ops Q i K a w):wpOpIn (Fence.wide.inRound l) 0 P ops Q i K' a w:=by
 unfold wpOp at h;unfold wpOpIn
 cases ho:ops[i]? with
 |none=>simp_all
 |some o =>
  rw[ho]at h;simp only at*;have f:=Array.mem_of_getElem? ho;by_cases d:Region.wanted o (yielded ops a.tmps)=T
  .rw[Zd d]at*;rcases h with h|⟨_,h⟩
   .unfold Oper.wp at h;unfold Oper.wpIn;refine⟨λ_ _=>trivial,?_⟩;rw[Oper.semAt_plain (Fence.wide.inRound l) _ _ (hd o f)];generalize Sem.run P (execOp a.eval o) w=r at*;unfold Oper.upon at h;unfold Oper.uponIn;split at h
    .simp_all
    .simp_all
    .simp_all
    .refine⟨λh=>absurd h (by simp[Fence.wide,Fence.inRound]),CallsIn.inRound l (Jn.2 (h.mono λe b g=>?_))⟩
     grind
    .exact⟨λh=>absurd h (by simp[Fence.wide,Fence.inRound]),λc cs _=>let ⟨v,b,r,s⟩:=h c cs;⟨v,b,hK _ _ r,stepsIn_wide.2 s⟩⟩
    .exact h
    simp_all
   simp_all
  .rw[Zk d]at*;exact⟨λ_ _=>trivial,hK _ _ h⟩
def KC{P:Program}{md:Region.Mode}{ops:Array Oper}{Q:Exit->Act->U->Prop}{l:Nat}(hd:∀o∈ops,∀c,o.op ≠ .defer c)(hQ:¬LetsOut Q):∀(fuel:Nat) (aW:Array Bool) (a:Act) (w:U),
  wpAny P md ops Q fuel aW a w->wpAnyIn (Fence.wide.inRound l) 0 P md ops Q fuel aW a w
 |0,_,_,_,h=>h
 |fuel+1,aW,a,w,h=>⟨h.1,λi b=>aef hd hQ (λd e f=>KC hd hQ fuel _ d e f) (h.2 i b)⟩
def Vr{S:U->Prop}{id:Nat}(hm:P.follows .mixedOrders=T)(hd:Uz ops=T)(hQ:¬LetsOut Q)
  (h:wpAnyH P .any ops Q S ops.size (Array.replicate ops.size F) a w.drew):(Code.region id ops T).wpIn (Fence.wide.inRound l) 0 P Q a w:=
 wpIn_region_any hm (KC (ze hd) hQ _ _ _ _ (wpAny_of_held _ _ _ _ h))
section
open Go.Lib
theorem D9:∀(k u:Nat),u<10 ^ (k+1)->nDigits u<=k+1
 |0,u,h=>by rw[nDigits_small (by simpa using h)];exact Zb _
 |k+1,u,h=>by
  by_cases h1:u<10
  .grind [Lib.nDigits_small]
  .rw[nDigits_big h1];have:=D9 k (u / 10) X;omega
theorem MM{n:Int}(h:n.natAbs<100000000000000000):N (itoa n)<=18:=by have a:=D9 16 n.natAbs h;have b:=D9 16 n.toNat X;grind [Lib.itoa,Lib.decDigits_length]
def pR(b:Bool):Int:=if b then 1 else 0
def bR(xs:IC):IC:=(N xs:Int)::xs
def dM{α:Type}(f:α->IC)(xs:List α):IC:=(N xs:Int)::xs.flatMap f
def dH(t:af):IC:=[t.k0,t.k1,t.k2,t.k3].take t.bU.toNat
def fM(t:af):IC:=t.rows::bR (dH t)
def jA(c:aV):IC:=[pR c.not,c.op,c.left,pR c.const,c.right]
def gM(c:aQ):IC:=dM jA c.cs
def ik(q:ae):IC:=bR q.au.xs++(dM gM q.wh++(pR q.aF::(bR q.aC.xs++(bR q.aM.xs++(bR q.bA.xs++bR q.ord.xs)))))
def ji(ts:JK af)(q:ae)(cap:Int)(picks:IC)(status:Int):IC:=dM fM ts++(ik q++(cap::(bR picks++[status])))
theorem Hl(b:Bool):decide (pR b≠0)=b:=by cases b <;> rfl
end
def Tryz.Gx:(V.info? 43).map (λi=>(i.zero,i.size,i.bytes))=O (O (.agg #[I J 0,I J 0,I J 0,I J 0,Z Qr 0 0,I J 0,Z Qr 0 0]),7,88):=Qd
def TC{ns:JK ay}:∀u∈ns.flatMap ay.eT,u.oneCell' = true:=by intro u b;obtain⟨n,_,a⟩:=ZA.1 b;unfold ay.eT aA.val at a;simp at a;rcases a with rfl|rfl|rfl|rfl|rfl|rfl|rfl <;> rfl
def Ol(v:Ql)(base:Nat)(ns:JK ay)(w:U)(hx:w.ownsRow base 43 7 v (N ns) (ns.flatMap ay.eT))(hl:N ns<=1000) :
  Calls V 199 #[v] w λe a=>∃v,e=Qu v/\a.ownsRow (M (H w)) 43 7 v (N ns) (ns.flatMap ay.eT)/\Bw w a:=by
 obtain⟨i0,p,b,d,f⟩:=XB Tryz.Gx;rcases XP hx with⟨rfl,h1⟩|⟨g,cap,rfl,hb,aT,hc⟩
 .have k:=Ju.1 h1;subst k;have l:∀W,(binOp .eql 39 (.slice Qr 0 0) (.slice Qr 0 0)).run V W=.ok (.bool T) W:=λW=>Jv W 39 _ Qr _ _ _ _ underlying39
  go_enter func199,ntmps199;go_wp2;go_ret;exact⟨_,rfl,XC _ _ _ _,Za _ _⟩
 .obtain⟨B,a,q,r,i,⟨t,y,z,rfl⟩⟩:=uU (P:=V) w 39 39 43 i0 _ 7 88 underlying39 p b d f rfl Qc (aD g 0) (N ns) cap (ns.flatMap ay.eT) (pO ay.eT 7 (λ_=>rfl) ns)
   (λj u A=>⟨g,0,rfl,by rw[ZT];exact hc j u A⟩) TC X Qc
  have l:∀W,(binOp .eql 39 (.slice (O (aD g 0)) (N ns) cap) (.slice Qr 0 0)).run V W=.ok (.bool F) W:=λW=>Jv W 39 _ (O (aD g 0)) _ _ _ _ underlying39;have m:Qm _:=r;have n:=Zh i;go_enter func199,ntmps199;go_wp2_with (first|(at_builtin;refine XJ rfl (.tmp 5) (.tmp 6) 39 rfl (.slice (O (aD (M (H w)) 0)) 0 0) (.slice (O (aD g 0)) (N ns) cap) (.slice t y z) a rfl rfl q ?_));go_wp2;go_ret;exact⟨_,rfl,m.o,n.o⟩
theorem aer(v:Ql)(base:Nat)(ns:JK ay)(a:Nat)(w:U)(hx:w.ownsRow base 43 7 v (N ns) (ns.flatMap ay.eT))(hl:N ns<=1000)(hs:dS w 0)(hk:∀m∈ns,1<=m.kind/\m.kind<=10) :
  Calls V 159 #[v,I J (a:Int)] w λe w'=>∃v,e=Qu v/\w'.ownsRow (M (H w)) 43 7 v (N ns) ((ns.map (dO a)).flatMap ay.eT)/\Bw w w':=by
 have av:=Ol v base ns w hx hl;have HS:=Zh hs;have ax:Qm (∀i,i<N ns->1<=(E ns i nz).kind/\(E ns i nz).kind<=10):=λi hi=>hk _ (XI hi);obtain⟨ai,ak⟩:=bH (UX a ns) (YN a ns);have L:Qm (∀k,k<N ns->E (mZ a ns k) k nz=E ns k nz):=λk hk=>YM a hk;have aa:Qm (∀k,k<N ns->mZ a ns (k+1)=(mZ a ns k).set k (dO a (E ns k nz))):=λk hk=>UW a hk;have C:=Zh (YL a ns);obtain⟨va,vn,vc,rfl⟩:=Xz hx;obtain⟨A,aF⟩:=eY (mZ a ns);rw[<-aF]at ai ak L aa C;generalize ns.map (dO a)=R at*;go_enter func159,ntmps159;go_wp2_with fail;refine av.mono ?_;rintro e w1 ⟨v1,rfl,P,bL⟩;have aG:Qm (w1.ownsRow (M (H w)) 43 7 v1 (N ns) ((A 0).flatMap ay.eT)):=by rw[ai.o];exact P
 have aH:=Zh bL;obtain⟨xa,xm,xc,rfl⟩:=Xz P;have az:xm=N ns:=by
  rcases P.2 with⟨h,h1⟩|⟨g,c,iw,h,_⟩
  .injection h with _ h _;omega
  .injection h with _ h _
 subst az;go_wp2;go_loopw [12] (λiv wr=>∃k:Nat,k<=N ns/\iv=I J (k:Int)/\Qm (wr.ownsRow (M (H w)) 43 7 (Z xa (N ns) xc) (N ns) ((A k).flatMap ay.eT))/\Qm (Bw w wr)) (λiv _=>N ns-(intOf iv).toNat)
 case atStart=>grind
 case round=>
  obtain⟨k,hk,rfl,S,W⟩:=hrel;by_cases K:k<N ns
  .obtain⟨g,cap,hv,aM,F6,t⟩:=YJ S.o (i:=k) (by rw[C.o];exact K);simp only[Value.slice.injEq]at hv;obtain⟨rfl,-,rfl⟩:=hv;rw[L.o k K]at t;obtain⟨dP,Lg⟩:=ax.o k K;obtain⟨Q,G⟩:=bH (aa.o k K) (L.o k K);obtain⟨n,hn⟩:=eY (E ns k nz)
   rw[<-hn]at t dP Lg Q G;have c0:=t 0 _ X rfl;have c1:=t 1 _ X rfl;have c2:=t 2 _ X rfl;rw[Xg]at c0;have aI:=Eo S.o (g:=g) rfl (k*7+1);obtain⟨kd,au⟩:=XX (show 0<=n.kind by omega);have hS:=(dS.aj W.o HS.o).get (k:=kd) X;obtain⟨s0,-⟩:=hS;have ae:=Pt dP;rw[au]at ae c0;rw[ae,ZT]at s0;have af:dO a n=⟨n.kind,if 1<=bg (kd:Int) then wrap64 (n.l+a) else n.l,if 2<=bg (kd:Int) then wrap64 (n.r+a) else n.r,n.source,n.cl,n.key,n.co⟩:=by unfold dO;rw[au]
   have aA:bg (kd:Int)<=2:=by unfold bg;split <;> (try split) <;> omega
   generalize bg (kd:Int)=ar at*;have aJ:kd<=10:=X;obtain⟨nk,y,z,d,f,p,q⟩:=n;simp only at*
   match ar,aA with
   |0,_ =>
    have HN:Qm (A (k+1)=A k):=by
     show _=_;have e:dO a ⟨nk,y,z,d,f,p,q⟩=⟨nk,y,z,d,f,p,q⟩:=by rw[af];simp
     rw[Q.o,e];have:=alc (A k) nz (k:=k) (by rw[C.o];exact K);rw[G.o]at this;exact this
    have D:Qm _:=S;rw[<-HN.o]at D;go_wp2;go_roundw
    case rel=>grind
    case measure=>exact XK
   |1,_ =>
    obtain⟨w4,B⟩:=eX (Qn wr (aD g (k*7+1)) (I J (wrap64 (y+a))));have HN:Qm (A (k+1)=(A k).set k ⟨nk,wrap64 (y+a),z,d,f,p,q⟩):=by grind
    have u:=zk S.o (g:=g) rfl (j:=k*7+1) X (I J (wrap64 (y+a)));rw[CF (A k) k 1 (I J (wrap64 (y+a))) ⟨nk,wrap64 (y+a),z,d,f,p,q⟩ (by rw[C.o];exact K) X (by rw[G.o];rfl),<-HN.o,B]at u;have D:Qm _:=u;have qO:Qm (Bw w w4):=by show Below _ _ _;rw[<-B];exact W.o.trans ((JC (g:=g) _).aj W.o.size (λb hb=>X))
    refine gQ ?_;exact⟨k+1,X,Qe,D.o,qO.o⟩
   |2,_ =>
    obtain⟨w4,B⟩:=eX (Qn wr (aD g (k*7+1)) (I J (wrap64 (y+a))));obtain⟨w5,zg⟩:=eX (Qn w4 (aD g (k*7+2)) (I J (wrap64 (z+a))));have HN:Qm (A (k+1)=((A k).set k ⟨nk,wrap64 (y+a),z,d,f,p,q⟩).set k ⟨nk,wrap64 (y+a),wrap64 (z+a),d,f,p,q⟩):=by
     show _=_;have e:dO a ⟨nk,y,z,d,f,p,q⟩=⟨nk,wrap64 (y+a),wrap64 (z+a),d,f,p,q⟩:=by rw[af];simp
     rw[Q.o,e,List.set_set]
    have u:=zk S.o (g:=g) rfl (j:=k*7+1) X (I J (wrap64 (y+a)));have ag:k<N (A k):=by rw[C.o];exact K
    rw[CF (A k) k 1 (I J (wrap64 (y+a))) ⟨nk,wrap64 (y+a),z,d,f,p,q⟩ ag X (by rw[G.o];rfl),B]at u;have aB:E ((A k).set k ⟨nk,wrap64 (y+a),z,d,f,p,q⟩) k nz=⟨nk,wrap64 (y+a),z,d,f,p,q⟩:=by grind
    have ah:=zk u (g:=g) rfl (j:=k*7+2) X (I J (wrap64 (z+a)));rw[CF _ k 2 (I J (wrap64 (z+a))) ⟨nk,wrap64 (y+a),wrap64 (z+a),d,f,p,q⟩ (by rw[JB];exact ag) X (by rw[aB];rfl),<-HN.o,zg]at ah;have aK:w4.cell? (aD g (k*7+2))=O (I J z):=by rw[<-B];exact(World.cell?_setCell_other _ _ _ _ Qa).trans c2
    have aL:w4.frozen? (aD g (k*7+2))=false:=Eo u (g:=g) rfl _;have D:Qm _:=ah;have qd:Qm (Bw w w5):=by
     show Below _ _ _;have h4:Bw w w4:=by rw[<-B];exact W.o.trans ((JC (g:=g) _).aj W.o.size (λb hb=>X))
     rw[<-zg];exact h4.trans ((JC (g:=g) _).aj h4.size (λb hb=>X))
    refine gQ ?_;exact⟨k+1,X,Qe,D.o,qd.o⟩
  .have aC:N ns=k:=X
   have HF:Qm _:=S;rw[<-aC,ak.o]at HF;go_wp2;go_ret;exact⟨_,rfl,HF.o,W.o⟩
def Io(ls:JK (JK ay)):(jF ls).map fA=jF (ls.map λl=>l.map fA):=by
 unfold jF
 suffices h:∀(ls:JK (JK ay)) (acc:JK ay),(ls.foldl (λacc l=>acc++l.map (dO (N acc))) acc).map fA=(ls.map λl=>l.map fA).foldl (λacc l=>acc++l.map (dO (N acc))) (acc.map fA) from h ls []
 intro ls
 induction ls with
 |nil=>intro acc;rfl
 |cons l ls ih =>
  intro acc;rw[ZL,ih,List.map_cons,ZL,Q7,Xe,Xe,ZX];rfl
def aiO(ls:JK (JK ay))(hi:i<N ls):jF (ls.take (i+1))=jF (ls.take i)++(E ls i []).map (dO (N (jF (ls.take i)))):=by rw[Jt ls [] hi,ag7]
def aes(ls:JK (JK ay)):eZ (jF ls)=ls.flatMap eZ:=by
 suffices h:∀(ls:JK (JK ay)) (acc:JK ay),eZ (ls.foldl (λacc l=>acc++l.map (dO (N acc))) acc)=eZ acc++ls.flatMap eZ from h ls []
 intro ls
 induction ls with
 |nil=>intro acc;simp
 |cons l ls ih=>intro acc;rw[ZL,ih,Nn,YK,Zr,Jj]
def Om{W:U}{b:Nat}{t:TypeId}(h:W.ownsRow b t sz v n xs):∃a c,v=Z a n c:=by
 rcases h.2 with⟨rfl,h0⟩|⟨g,cap,iw,rfl,_⟩
 .exact⟨Qr,0,by rw[h0]⟩
 .exact⟨_,_,rfl⟩
theorem Rh(ls:JK (JK ay))(h2:N ls<=2)(i:Nat):N (jF (ls.take i))<=N (jF ls):=by rw[MO _ (by rw[Jb];omega),MO _ h2];grind
def lL{qY:Nat}(h:w.ownsRow base e sz v n xs)(hb:qY<=base):w.ownsRow qY e sz v n xs:=
 ⟨h.1,h.2.imp id λ⟨g,cap,iw,e,h1,h2⟩=>⟨g,cap,iw,e,ZU hb h1,h2⟩⟩
def Oo(w:U)(ao:LM)(vs:JK Ql):Prop:=dC w ao (N vs) (λi=>E vs i (Z Qr 0 0))
theorem aet(W:U)(base azW:Nat)(v v2:Ql)(acc ms:JK ay)(bG:W.ownsRow base 43 7 v (N acc) (acc.flatMap ay.eT))(h2:W.ownsRow azW 43 7 v2 (N ms) (ms.flatMap ay.eT))(hl:N acc+N ms<=1000)(hb:base<=M (H W))(ty:TypeId) :
  ∃d f,(Builtin.append_ #[39,39] ty #[v,v2]).run V W=.ok d f/\
   f.ownsRow base 43 7 d (N (acc++ms)) ((acc++ms).flatMap ay.eT)/\aB (λb=>v.ownBlock≠O b) W f/\(∃a m c,d = Z a m c):=by
 obtain⟨i0,p,i,k,l⟩:=XB Tryz.Gx;rcases XP h2 with⟨rfl,h1⟩|⟨g,cap,rfl,_,aT,hc⟩
 .have q:=Ju.1 h1;subst q;refine⟨v,W,run_append_owned_none (P:=V) (w:=W) base 39 ty 43 i0 7 underlying39 p v (N acc) _ bG,by rw[Zy];exact bG,Xj _ _,Xz bG⟩
 .obtain⟨d,f,n,t,y,_,_⟩:=XL (P:=V) W base 39 ty 43 i0 _ 7 88 underlying39 p i k l rfl Qc v (N acc) _ bG (aD g 0) (N ms) cap (ms.flatMap ay.eT) (pO ay.eT 7 (λ_=>rfl) ms)
   (λj u z=>by rw[Zn,ZT];exact hc j u z) TC Qg X hb
  exact⟨d,f,n,Qb,Xv y (λr e n=>n e),Xz t⟩
theorem TD(W:U)(base:Nat)(v:Ql)(acc:JK ay)(bG:W.ownsRow base 43 7 v (N acc) (acc.flatMap ay.eT))(hl:N acc<=1000)(hb:base<=M (H W))(n:ay)(ty:TypeId) :
  ∃d e,(Builtin.append_ #[39,39] ty #[v,Z (O (aD (M (H W)) 0)) 1 1]).run V (W.alloc (Qs n.cells 43))=.ok d e/\
   e.ownsRow base 43 7 d (N (acc++[n])) ((acc++[n]).flatMap ay.eT)/\aB (λb=>v.ownBlock≠O b) W e/\(∃a m c,d = Z a m c):=by
 obtain⟨i0,k,f,g,i⟩:=XB Tryz.Gx;obtain⟨d,e,l,r,p,q,t⟩:=lg (P:=V) W base 39 ty 43 i0 _ 7 88 underlying39 k f g i rfl Qc v (N acc) _ bG hb n.eT rfl (λu j=>by
  unfold ay.eT aA.val at j;simp at j;rcases j with rfl|rfl|rfl|rfl|rfl|rfl|rfl <;> rfl) hl Qc
 exact⟨d,e,l,Qb,p,q⟩
theorem amD(uH:base<=M (H w))(hs:dS w 0)(n:ay)(iX:n.cl.At w)(nU:n.cl.ad=Qr->n.cl.cap=0)(EU:n.co.At w)(hdn:n.co.ad=Qr->n.co.cap=0)(hll:N n.cl.xs<=1000/\N n.co.xs<=1000)
  (io:LM) (ic:Nat) (ls:JK (Ql × JK ay)) (PG:Oo w io (ls.map Prod.fst)) (CW:∀x∈ls,oV 43 3 base w x.1 x.2/\∀m∈x.2,1<=m.kind/\m.kind<=10) (GN:((ls.map Prod.snd).flatMap eZ).Pairwise Apt) (h2:N ls<=2) (dY:N (jF (ls.map Prod.snd))<=900) :
  Calls V 109 #[.agg n.cells,Z io (N ls) ic] w (mM 43 3 base w (sI n (ls.map λx=>x.2.map fA))):=by
 obtain⟨r,Q⟩:=eY (ls.map Prod.snd);have aR:N r=N ls:=by rw[Q,ZX]
 obtain⟨d,af⟩:=eY (λi=>jF (r.take i):Nat->JK ay);have aS:Qm (d 0=[]):=by rw[af];rfl
 have aU:Qm (∀i,i<N ls->d (i+1)=d i++(E r i []).map (dO (N (d i)))):=λi hi=>by rw[af];exact aiO r X
 have PQ:Qm (∀i,N (d i)<=900):=λi=>by rw[af];exact ZU (Rh r X i) (by rw[Q];exact dY)
 have aV:Qm (∀i,i<N ls->∃base,(w.ownsRow base 43 7 (E (ls.map Prod.fst) i (Z Qr 0 0)) (N (E r i [])) ((E r i []).flatMap ay.eT))/\∀m∈r.getD i [],1<=m.kind/\m.kind<=10):=λi hi=>by have C:E (ls.map Prod.fst) i (Z Qr 0 0)=(ls[i]).1:=Qb;have e2:E r i []=(ls[i]).2:=Qb;obtain⟨f,hk⟩:=CW _ (Q6 hi);rw[C,e2];exact⟨base,f.own,hk⟩
 have ru:Qm (∀(x:U) (v:Ql) (y z:aA),Bw w x->x.ownsRow (M (H w)) 43 7 v (N (d (N ls)++[(⟨n.kind,xh r 0,xh r 1,n.source,y,n.key,z⟩:ay)])) ((d (N ls)++[(⟨n.kind,xh r 0,xh r 1,n.source,y,n.key,z⟩:ay)]).flatMap ay.eT)->y.xs=n.cl.xs->z.xs=n.co.xs->x.ownsRow (M (H w)) 3 1 y.val (N y.xs) (y.xs.map (Value.int J))->x.ownsRow (M (H w)) 3 1 z.val (N z.xs) (z.xs.map (Value.int J))->Apt y z->
   mM 43 3 base w (sI n (ls.map λx=>x.2.map fA)) (Qu v) x):=by
  intro x v y z bW hv hy hz bX bY dH;have bZ:d (N ls)=jF r:=Qb;have aW:eZ (jF r++[(⟨n.kind,xh r 0,xh r 1,n.source,y,n.key,z⟩:ay)])=r.flatMap eZ++[y,z]:=by rw[Nn,aes];rfl
  have aa:∀u∈r.flatMap eZ,w.ownsRow base 3 1 u.val (N u.xs) (u.xs.map (Value.int J))/\N u.xs<=1000:=λu P=>by obtain⟨l,hl,P⟩:=ZA.1 P;rw[Q]at hl;obtain⟨x0,VX,rfl⟩:=Xc.1 hl;exact(CW x0 VX).1.lists u P
  rw[bZ]at hv;refine⟨v,_,rfl,?_,⟨lL hv uH,λu P=>?_,?_⟩,bW⟩
  .rw[Q7,Io];unfold sI;have C:(r.map λl=>l.map fA)=ls.map λx=>x.2.map fA:=by rw[Q,Xe];rfl
   have e2:∀i,xh r i=xh (ls.map λx=>x.2.map fA) i:=λi=>by unfold xh;rw[<-C,ZX,<-List.map_take,<-Io,ZX]
   rw[C];congr 1;rw[List.map_singleton];show [(⟨n.kind,xh r 0,xh r 1,n.source,⟨Qr,0,y.xs⟩,n.key,⟨Qr,0,z.xs⟩⟩:ay)]=_;rw[hy,hz,e2,e2]
  .rw[aW]at P;rcases Z5.1 P with P|P
   .exact⟨Xw (aa u P).1 (Xk (s:=λ_=>True) bW λ_ h _=>h) λ_ _=>trivial,(aa u P).2⟩
   .rcases (by simpa using P:u=y∨u=z) with rfl|rfl
    .exact⟨lL bX uH,by rw[hy];exact hll.1⟩
    .exact⟨lL bY uH,by rw[hz];exact hll.2⟩
  .rw[aW,List.pairwise_append];refine⟨by rw[Q];exact GN,List.pairwise_pair.2 dH,λu P u' dI b C e2=>?_⟩;have l1:=(Xy (aa u P).1 C).2;rcases (by simpa using dI:u' = y∨u' = z) with rfl|rfl
   .have:=(Xy bX e2).1;omega
   .have:=(Xy bY e2).1;omega
 have V6:Qm (∀j,j<2->xh r j=if j<N ls then (N (d (j+1)):Int)-1 else 0):=λj _=>by unfold xh;rw[af,aR]
 have cz:=hd PG;have cK:=hd hs;have aX:Qm (N (ls.map Prod.fst)=N ls):=ZX _;have V9:Qm (∀x,Bw w x->Calls V 86 #[n.cl.val] x λe w'=>∃a c,e=Qu (Z a (N n.cl.xs) c)/\w'.ownsRow (M (H x)) 3 1 (Z a (N n.cl.xs) c) (N n.cl.xs) (n.cl.xs.map (Value.int J))/\Bw x w'):=λx hx=>by refine(tJ n.cl x (Zc hx iX) nU X).mono ?_;rintro e w' ⟨v,rfl,ho,hb⟩;obtain⟨a,c,rfl⟩:=Om ho;exact⟨a,c,rfl,ho,hb⟩
 have cO:Qm (∀x,Bw w x->Calls V 86 #[n.co.val] x λe w'=>∃a c,e=Qu (Z a (N n.co.xs) c)/\w'.ownsRow (M (H x)) 3 1 (Z a (N n.co.xs) c) (N n.co.xs) (n.co.xs.map (Value.int J))/\Bw x w'):=λx hx=>by refine(tJ n.co x (Zc hx EU) hdn X).mono ?_;rintro e w' ⟨v,rfl,ho,hb⟩;obtain⟨a,c,rfl⟩:=Om ho;exact⟨a,c,rfl,ho,hb⟩
 clear dY CW PG hs iX nU EU hdn hll af aR Q GN uH;generalize sI n (ls.map λx=>x.2.map fA)=R,ls.map Prod.fst=vs,N ls=sl at*;clear ls;obtain⟨kind,nl,nr,au,⟨ca,cc,cl⟩,key,⟨da,dc,co⟩⟩:=n;simp only[ay.cells,aA.val]at*;obtain⟨B,dB,bL,av⟩:=bI w #[I J kind,I J nl,I J nr,I J au,Z ca (N cl) cc,I J key,Z da (N co) dc] 43;obtain⟨W,dA,bN,ax⟩:=bI B #[I J 0,I J 0] 236;have CE:=Zh (av.up bN);have cZ:=hd ax;have aY:=Zh (aO bL bN);have EX:Qm (M (H B)=M (H w)+1):=by show _=_;rw[<-dB];simp
 have aZ:=Zh (by  rw[<-dA];simp;exact EX.o:M (H W)=M (H w)+2)
 go_enter func109,ntmps109;go_wp2;go_loopw [5,11] (λnv iv wr=>∃k:Nat,k<=sl/\iv=I J (k:Int)/\Qm (wr.ownsRow (M (H W)) 43 7 nv (N (d k)) ((d k).flatMap ay.eT))/\Qm (GB wr (M (H w)) 43 #[I J kind,I J nl,I J nr,I J au,Z ca (N cl) cc,I J key,Z da (N co) dc])/\
   Qm (GB wr (M (H B)) 236 #[I J (if 0<k then (N (d 1):Int)-1 else 0),I J (if 1<k then (N (d 2):Int)-1 else 0)])/\Qm (Bw w wr)/\Qm (M (H W)<=M (H wr))) (λ_ iv _=>sl-(intOf iv).toNat)
 case atStart=>exact⟨0,ZR _,rfl,by rw[aS.o];exact XC _ _ _ _,CE.o,cZ.o,aY.o,Zb _⟩
 case round=>
  obtain⟨k,hk,rfl,HO,ag,Av,HB,EY⟩:=hrel;obtain⟨xa,xm,xc,rfl⟩:=Xz HO.o;have df:xm=N (d k):=by
   rcases HO.o.2 with⟨h,h1⟩|⟨g,c,iw,h,_⟩
   .injection h with _ h _;omega
   .injection h with _ h _
  subst df;by_cases aT:k<sl
  .obtain⟨bb,dN,dD,bO⟩:=Q3 (dC.aj HB.o cz.o) (i:=k) (by rw[aX.o];exact aT);subst dD;have bf:=bO k (by rw[aX.o];exact aT);obtain⟨base,bG,aP⟩:=aV.o k aT;have ak:=Zh (aU.o k aT);have aH:=PQ.o (k+1);have dh:=PQ.o k;rw[ak.o,Zt,ZX]at aH;obtain⟨L,hL⟩:=eY (E r k [])
   obtain⟨lv,aQ⟩:=eY (E vs k (Z Qr 0 0));rw[<-hL,<-aQ]at bG;rw[<-hL]at aP ak aH;rw[<-aQ]at bf;have bg:=aer lv base L (N (d k)) wr (Ja bG HB.o) X (dS.aj HB.o cK.o) aP;obtain⟨la,lm,lc,rfl⟩:=Xz bG;have di:N L=N (L.map (dO (N (d k)))):=by rw[ZX]
   clear bO bG aP hL aQ;go_wp2_with fail;refine bg.mono ?_;rintro e w3 ⟨v3,rfl,aF,ah⟩;clear bg;have bn:=Ja HO.o ah;rw[di]at aF;obtain⟨v4,w4,bP,wG,bQ,⟨ya,ym,yc,rfl⟩⟩:=aet w3 (M (H W)) (M (H wr)) (Z xa (N (d k)) xc) v3 (d k) (L.map (dO (N (d k)))) bn aF (by rw[ZX];omega) (ZU EY.o ah.size) 39;rw[<-ak.o]at wG;have dm:ym=N (d (k+1)):=by
    rcases wG.2 with⟨h,h1⟩|⟨g,c,iw,h,_⟩
    .injection h with _ h _;omega
    .injection h with _ h _
   subst dm;obtain⟨ta,tm,tc,rfl⟩:=Xz aF;have bq:∀b,b<M (H W)->(Value.slice xa (N (d k)) xc).ownBlock≠O b:=λb hb e=>Qj ((Xy HO.o e).1);have Va:=bQ.aj (ZU EY.o ah.size) bq;have ae:=(ah.mono EY.o).trans Va;have bu:M (H w)<M (H W)/\M (H B)<M (H W):=Qk EX.o aZ.o;have av:=ag.o.of (ae.block _ bu.1);have ax:=Av.o.of (ae.block _ bu.2);have Nk:Qm _:=wG;have dn:=hd av;have az:=hd ax;obtain⟨qO,dE⟩:=bH (HB.o.trans (ae.mono aY.o.size)) (ZU EY.o ae.size);have bz:=λj=>GB.frozen az.o j;have dK:=PQ.o (k+1);have jf:k<2:=X;have dJ:wrap64 ((N (d (k+1)):Int)-1)=(N (d (k+1)):Int)-1:=by unfold wrap64;omega
   obtain⟨w5,zg⟩:=eX (Qn w4 (aD (M (H B)) k) (I J ((N (d (k+1)):Int)-1)));have zW:Qm (w5.ownsRow (M (H W)) 43 7 (Z ya (N (d (k+1))) yc) (N (d (k+1))) ((d (k+1)).flatMap ay.eT)):=by rw[<-zg];exact Xw wG (JC (g:=M (H B)) _) (λg hg=>Qj ((Xy wG hg).1))
   have G:Qm (GB w5 (M (H w)) 43 #[I J kind,I J nl,I J nr,I J au,Z ca (N cl) cc,I J key,Z da (N co) dc]):=by rw[<-zg];exact GB.bT dn.o (JC (g:=M (H B)) _) (Qj EX.o)
   have dw:Qm (GB w5 (M (H B)) 236 #[I J (if 0<k+1 then (N (d 1):Int)-1 else 0),I J (if 1<k+1 then (N (d 2):Int)-1 else 0)]):=by
    show GB _ _ _ _;have:=GB.set az.o k (I J ((N (d (k+1)):Int)-1));rw[<-zg]
    match k,jf,this with
    |0,_,h=>exact h
    |1,_,h=>exact h
   have D:Qm (Bw w w5):=by show Below _ _ _;rw[<-zg];exact qO.o.trans ((JC (g:=M (H B)) _).aj qO.o.size (λb hb=>Qj EX.o))
   have aI:Qm (M (H W)<=M (H w5)):=by show _<=_;rw[<-zg];simpa using dE.o
   have bA:∃u,w4.cell? (aD (M (H B)) k)=O u:=by
    match k,jf with
    |0,_=>exact⟨_,az.o.cell 0⟩
    |1,_=>exact⟨_,az.o.cell 1⟩
   obtain⟨cu,bA⟩:=bA;have dL:=bz k;clear Va ae av ax wG bQ aF bn bq ah bz HO ag Av ak dh aH;go_wp2_with (first|(at_builtin;refine XJ rfl (.tmp 16) (.tmp 20) 39 rfl (Z xa (N (d k)) xc) (Z ta tm tc) (Z ya (N (d (k+1))) yc) w4 rfl rfl bP ?_));clear bP bf;refine gQ ?_;exact⟨k+1,X,Qe,zW.o,G.o,dw.o,D.o,aI.o⟩
  .have dx:sl=k:=X
   subst dx;have h0:(if 0<sl then (N (d 1):Int)-1 else 0)=xh r 0:=(V6.o 0 X).symm;have h1:(if 1<sl then (N (d 2):Int)-1 else 0)=xh r 1:=(V6.o 1 X).symm;rw[h0,h1]at Av;obtain⟨e0,bR⟩:=eY (xh r 0);obtain⟨C,bS⟩:=eY (xh r 1);rw[<-bR,<-bS]at Av ru;obtain⟨w3,dF⟩:=eY (wr);subst dF;clear h0 h1 bR bS V6 aV aU aT hk aS;have UZ:Qm (M (H w)<M (H W)/\M (H B)<M (H W)/\M (H w)<M (H B)):=by have:=EX.o;have:=aZ.o;show _/\_;omega
   have fG:M (H B)≠M (H w):=Qj UZ.o;obtain⟨z0,z1⟩:=Av.o.k2;have bB:=ag.o.of (((Za (M (H w3)) w3).drew).block _ ag.o.lt);have d1:=bB.at 1;have f1:=bB.frozen 1;have aJ:=ag.o.set 1 (I J e0);have aG:=aJ.of (((Za _ _).drew).block _ aJ.lt);have d2:(Qn w3 (aD (M (H w)) 1) (I J e0)).drew.cell? (aD (M (H w)) 2)=O (I J nr):=aG.cell 2;have f2:=aG.frozen 2;have bC:=aJ.set 2 (I J C);have bD:=bC.of (((Za _ _).drew).block _ bC.lt);obtain⟨w5,zg⟩:=eX ((Qn (Qn w3 (aD (M (H w)) 1) (I J e0)) (aD (M (H w)) 2) (I J C)).drew);rw[zg]at bD;have G:=hd bD;have aC:aB (λb=>b≠M (H w)) w3 w5:=by rw[<-zg];exact((JC (g:=M (H w)) _).trans (JC (g:=M (H w)) _)).trans (Xl ((Za _ _).drew))
   obtain⟨zW,D,aI⟩:=lX (Xw HO.o aC (λg hg=>Qk ((Xy HO.o hg).1) UZ.o)) (HB.o.trans (aC.aj HB.o.size (λb hb=>Qj UZ.o))) (ZU EY.o aC.size);go_wp2_with fail;refine ZI (S:=λx=>aB (λb=>b≠M (H w)) w3 x) Qd (Xl ((Za (M (H w3)) w3).drew)) (λp=>?_);refine wt 0 (Y (O (aD (M (H B)) 0))) p ?_;refine wT 1 (I J e0) p (λx hx=>?_) ?_
   .have e0:=Xt z0 hx fG;go_simp
   refine wt 2 (Y (O (aD (M (H B)) 1))) p ?_;refine wT 3 (I J C) p (λx hx=>?_) ?_
   .have e0:=Xt z1 hx fG;go_simp
   refine wt 4 (Y (O (aD (M (H w)) 1))) p ?_;refine wR 5 λK f=>?_;go_simp;refine f.o _ _ (p.trans (Xu _ _ _ (λh=>h rfl))) (λp=>?_);refine wt 6 (Y (O (aD (M (H w)) 2))) p ?_;refine wR 7 λK f=>?_;go_simp;refine f.o _ _ aC λp=>?_;refine wD ?_;try simp only[pU]
   try rw[zg]
   have n4:=G.o.at 4;have n6:=G.o.at 6;go_wp2_with fail;refine ZI (S:=λx=>aB (λb=>b≠M (H w)) w5 x) Qd (Xl ((Za (M (H w5)) w5).drew)) (λp=>?_);refine wt 0 (Y (O (aD (M (H w)) 4))) p ?_;refine wt 3 (Y (O (aD (M (H w)) 6))) p ?_;have q:=(Za (M (H w5)) w5).drew;refine wJ 1 4 (λK f=>?_) λK f=>?_
   case' _=>
    have lo:=cB q n4;go_simp;refine f.o _ _ p λp=>?_;clear f K;refine wJ 2 4 (λK f=>?_) λK f=>?_
   case' _=>
    go_simp;refine Jg (V9.o _ (D.o.trans (q.mono D.o.size))) ?_;rintro e wA ⟨ya,yc,rfl,t,ai⟩;have t:=lL t q.size;have q:=q.trans (ai.mono q.size);refine f.o _ _ (Xl q) (λp=>?_);clear f K;refine wR 4 λK f=>?_;have lo:=cB q n6;go_simp;refine f.o _ _ p λp=>?_
   rotate_left
   case' _=>
    have lo:=cB q n6;go_simp;refine f.o _ _ p λp=>?_;clear f K;refine wR 2 λK f=>?_;go_simp;refine Jg (V9.o _ (D.o.trans (q.mono D.o.size))) ?_;rintro e wA ⟨ya,yc,rfl,t,ai⟩;have t:=lL t q.size;have q:=q.trans (ai.mono q.size);refine f.o _ _ (Xl q) (λp=>?_)
   rotate_left
   case' _=>
    have lo:=cB q n6;go_simp;refine f.o _ _ p λp=>?_;clear f K;refine wR 1 λK f=>?_;have lo:=cB q n4;go_simp;refine f.o _ _ p λp=>?_;clear f K;refine wR 2 λK f=>?_;go_simp;refine Jg (V9.o _ (D.o.trans (q.mono D.o.size))) ?_;rintro e wA ⟨ya,yc,rfl,t,ai⟩;have t:=lL t q.size;have q:=q.trans (ai.mono q.size);refine f.o _ _ (Xl q) (λp=>?_)
   all_goals
    clear f K;refine wt 6 (Y (O (aD (M (H w)) 4))) p ?_;refine wR 5 λK f=>?_;go_simp;refine Jg (cO.o _ (D.o.trans (q.mono D.o.size))) ?_;rintro e wB ⟨za,zc,rfl,hZ,bU⟩;have bE:Apt ⟨ya,yc,cl⟩ ⟨za,zc,co⟩:=λb C e2=>Qk ((Xy t C).2) ((Xy hZ e2).1);have t:=Xw t (Xk (s:=λ_=>True) bU λ_ h _=>h) λ_ _=>trivial;have hZ:=lL hZ q.size;have q:=q.trans (bU.mono q.size);refine f.o _ _ (Xl q) (λp=>?_);clear f K;have aK:GB wB (M (H w)) 43 #[I J kind,I J e0,I J C,I J au,Z ca (N cl) cc,I J key,Z da (N co) dc]:=G.o.up q;have m4:=aK.at 4;have f4:=aK.frozen 4;have aL:=aK.set 4 (Z ya (N cl) yc);have m6:(Qn wB (aD (M (H w)) 4) (Z ya (N cl) yc)).cell? (aD (M (H w)) 6)=O (Z da (N co) dc):=aL.cell 6;have f6:=aL.frozen 6;have bF:=aL.set 6 (Z za (N co) zc);refine wR 7 λK f=>?_;go_simp;refine f.o _ _ (p.trans (JC (g:=M (H w)) (j:=4) (Z ya (N cl) yc))) (λp=>?_);refine wt 8 (Y (O (aD (M (H w)) 6))) p ?_;refine wR 9 λK f=>?_;go_simp;refine f.o _ _ (p.trans (JC (g:=M (H w)) (j:=6) (Z za (N co) zc))) (λp=>?_);refine wD ?_;try simp only[pU]
    obtain⟨w6,yw⟩:=eX (Qn (Qn wB (aD (M (H w)) 4) (Z ya (N cl) yc)) (aD (M (H w)) 6) (Z za (N co) zc));rw[yw]at bF ⊢;have aM:aB (λb=>b≠M (H w)) wB w6:=by rw[<-yw];exact(JC (g:=M (H w)) _).trans (JC (g:=M (H w)) _)
    have aN:=(Xl q).trans aM;have dz:=Xw zW.o aN (λg hg=>Qk ((Xy zW.o hg).1) UZ.o);have bJ:=D.o.trans (aN.aj D.o.size (λb hb=>Qj UZ.o));obtain⟨v7,w7,bV,dG,KZ,⟨qa,qm,qc,rfl⟩⟩:=TD w6 (M (H W)) (Z xa (N (d sl)) xc) (d sl) dz (Qj (PQ.o sl)) (ZU aI.o aN.size) ⟨kind,e0,C,au,⟨ya,yc,cl⟩,key,⟨za,zc,co⟩⟩ 39;simp only[ay.cells,aA.val]at bV;have dM:=G.o.lt;have A:∀b,(Value.slice xa (N (d sl)) xc).ownBlock=O b->M (H W)<=b/\b<M (H w5):=λb e=>Xy zW.o e;have bK:=lL (Xw (Xw t aM λg hg=>Qj ((Xy t hg).1)) KZ λg hg e=>Qk ((Xy t hg).1) ((A g e).2)) D.o.size;have bM:=lL (Xw (Xw hZ aM λg hg=>Qj ((Xy hZ hg).1)) KZ λg hg e=>Qk ((Xy hZ hg).1) ((A g e).2)) D.o.size;have uz:=bJ.trans (KZ.aj bJ.size (λb hb e=>Qk ((A b e).1) UZ.o));have HF:Qm _:=ru.o w7 (Z qa qm qc) ⟨ya,yc,cl⟩ ⟨za,zc,co⟩ uz (lL dG (Qj UZ.o)) rfl rfl bK bM bE;obtain⟨t0,t1,t2,t3,t4,t5,t6⟩:=bF.k7;clear t hZ bE bK bM;go_wp2_with (first|(at_builtin;refine XJ rfl (.tmp 42) (.tmp 44) 39 rfl (Z xa (N (d sl)) xc) (Z (O (aD (M (H w6)) 0)) 1 1) (Z qa qm qc) w7 rfl rfl bV ?_));go_wp2;go_ret;exact HF.o
def Ik(b:Bool)(w:U):Ce 195 #[.bool b] w (I J (pR b)):=by
 cases b
 .go_enter func195,ntmps195;go_wp2;go_ret;exact⟨rfl,rfl⟩
 .go_enter func195,ntmps195;go_wp2;go_ret;exact⟨rfl,rfl⟩
theorem KD(b c:Nat)(t:TypeId)(rs:JK aA)(w:U)(hb:w.heap[b]? = O (Qs (rs.map aA.val).toArray t))(hA:∀r∈rs,r.At w/\(r.ad=Qr->r.cap=0))(hn:N rs<=1000)(ht:N (jN rs)<=100000) :
  Calls V 150 #[Z (O (aD b 0)) (N rs) c] w λe d=>∃v,e=Qu v/\d.ownsRow (M (H w)) 3 1 v (N (jN rs)) ((jN rs).map (Value.int J))/\Bw w d:=by
 have f:∀i,(h:i<N rs)->E rs i iz=rs[i]:=λi h=>by simp[List.getD,h]
 refine acA (O (aD b 0)) c rs w ⟨X,λi a=>⟨b,0,rfl,?_⟩,λi a=>?_⟩ hn (λi a=>?_) ht
 .show _=O (E rs i iz).val
  rw[ZT,f i a];grind [aeo]
 .simp_all
 simp_all
theorem wM(w:U)(hb:base<=M (H w))(ns:IC)(hl:N ns<=1000):(w.alloc (Qs (ns.map (Value.int J)).toArray 3)).ownsRow base 3 1 (Z (O (aD (M (H w)) 0)) (N ns) (N ns)) (N ns) (ns.map (Value.int J)):=
 ⟨Qa,.inr ⟨M (H w),N ns,_,rfl,hb,qj w _,Zb _,Qg,Qa,by rw[Nat.mul_one];grind [List.length_map]⟩⟩
def iW(w:U)(ns:IC)(e:Ending)(w':U):Prop:=∃v,e=Qu v/\w'.ownsRow (M (H w)) 3 1 v (N ns) (ns.map (Value.int J))/\Bw w w'
def KE(x:aA)(w:U)(hx:x.At w)(hc:x.ad=Qr->x.cap=0)(hl:N x.xs<=50000):Calls V 154 #[x.val] w (iW w (bR x.xs)):=by
 obtain⟨l,z,t,b⟩:=bI w #[I J (N x.xs:Int)] 3;obtain⟨u,A,a,d⟩:=bI l #[Z (O (aD (M (H w)) 0)) 1 1,x.val] 26;have j:=aO t a;have p:GB u (M (H w)) 3 #[I J (N x.xs:Int)]:=b.up a;have k:=KD (M (H l)) 2 26 [⟨O (aD (M (H w)) 0),1,[(N x.xs:Int)]⟩,x] u d (λr g=>by
  rcases ZB.1 g with rfl|g
  .refine⟨⟨Qa,λi C=>⟨M (H w),0,rfl,?_⟩⟩,λh=>by cases h⟩
   match i,C with
   |0,_=>exact p.cell 0
  .rw[XH]at g;rw[g];exact⟨Zc j hx,hc⟩) Qa (by simp[jN];omega)
 have q:=Zh j;have y:Qm (jN [⟨O (aD (M (H w)) 0),1,[(N x.xs:Int)]⟩,x]=bR x.xs):=by show _=_;simp[jN,bR]
 rw[y.o]at k;have D:Qm (M (H l)=M (H w)+1):=by show _=_;rw[<-z];simp
 clear p b d j t a hx hc hl;generalize bR x.xs=NS at*;obtain⟨G,K,xs⟩:=x;unfold aA.val at*;simp only at*;go_enter func154,ntmps154;go_wp2_with fail;refine k.mono ?_;rintro e L ⟨v,rfl,m,f⟩;obtain⟨P,Q,R,rfl⟩:=Xz m;obtain⟨B,n⟩:=bH m f;clear k m f;go_wp2;go_ret;exact⟨_,rfl,Je B.o q.o.size,aO q.o n.o⟩
def Lv(c:aV)(w:U):Calls V 227 #[.agg c.CO] w (iW w (jA c)):=by obtain⟨g,j,k,i,l⟩:=c;obtain⟨m,q,n,f⟩:=bI w (aV.CO ⟨g,j,k,i,l⟩) 56;unfold aV.CO at*;obtain⟨c0,r,c2,c3,c4⟩:=f.k5;have d:=Zh n;clear n f;go_enter func227,ntmps227;go_wp2_with fail;refine wH m λa=>?_;refine Co 0 a ?_;refine wA6 3 a ?_;refine Co 10 a ?_;refine wR 2 λK b=>?_;go_simp;refine(Ik g _).mono ?_;rintro e p ⟨rfl,rfl⟩;refine b.o _ _ a λa=>?_;clear b K;refine wR 9 λK b=>?_;go_simp;refine(Ik i _).mono ?_;rintro e p ⟨rfl,rfl⟩;refine b.o _ _ a λa=>?_;clear b K;refine wR 12 λK b=>?_;go_simp;refine oA b a λa=>?_;clear b K;refine wR 13 λK b=>?_;go_simp;refine b.o _ _ a λa=>?_;clear b K;refine wD ?_;go_wp2;go_ret;exact⟨_,rfl,wM m.drew d.o.size [pR g,j,k,pR i,l] Qa,aO d.o a⟩
theorem zJ(W:U)(base:Nat)(v:Ql)(xs:IC)(bG:W.ownsRow base 3 1 v (N xs) (xs.map (Value.int J)))(hb:base<=M (H W))(g c:Nat)(ys:IC)(hy:∀j u,(ys.map (Value.int J))[j]? = O u->W.cell? (aD g j)=O u)(hl:N xs+N ys<=1000000)(ty:TypeId) :
  ∃d f,(Builtin.append_ #[26,26] ty #[v,.slice (O (aD g 0)) (N ys) c]).run V W=.ok d f/\f.ownsRow base 3 1 d (N (xs++ys)) ((xs++ys).map (Value.int J))/\aB (λb=>v.ownBlock≠O b) W f/\(∃a m c,d = .slice a m c):=by obtain⟨i0,p,i,k,l⟩:=XB Tryz.uN;obtain⟨d,f,n,q,t,-,-⟩:=XL (P:=V) W base 26 ty 3 i0 (.int J 0) 1 8 underlying26 p i k l rfl Qc v (N xs) _ bG (aD g 0) (N ys) c (ys.map (Value.int J)) Qa (λj u y=>by rw[Zn,ZT];exact hy j u y) (λu z=>by grind [Value.oneCell']) Qg X hb;refine⟨d,f,n,?_,Xv t (λr e n=>n e),Xz q⟩;simp_all
theorem aa8(ao:LM)(cap:Nat)(cs:JK aV)(w:U)(h:bZ w ao cs)(hl:N cs<=20) :
  Calls V 226 #[.func (.func 227) #[] #[],Z ao (N cs) cap] w (iW w (dM jA cs)):=by
 obtain⟨w1,dB,G,t⟩:=bI w #[I J (N cs:Int)] 3;have r:Qm (w1.ownsRow (M (H w)) 3 1 (Z (O (aD (M (H w)) 0)) 1 1) 1 [I J (N cs:Int)]):=by have:=wM w (Zb _) [(N cs:Int)] Qa;rw[<-dB];exact this
 obtain⟨u,HC⟩:=bH G h;clear h G t;go_enter func226,ntmps226;go_wp2;go_loopw [5,13] (λv i wr=>∃k:Nat,k<=N cs/\i=I J k/\Qm (wr.ownsRow (M (H w)) 3 1 v (N ((N cs:Int)::(cs.take k).flatMap jA)) (((N cs:Int)::(cs.take k).flatMap jA).map (Value.int J)))/\Qm (Bw w wr)) (λ_ i _=>N cs-(intOf i).toNat)
 case atStart=>exact⟨0,ZR _,rfl,r.o,u.o⟩
 case round=>
  obtain⟨k,hk,rfl,m,d⟩:=hrel;obtain⟨K,L,P,rfl⟩:=Xz m.o;by_cases C:k<N cs
  .obtain⟨b,off,rfl,Q,R,S,W,e4⟩:=HC.o.2 k C;obtain⟨f0,f1,f2,f3,f4⟩:=qi d.o Q R S W e4;have D:=λx=>Lv cs[k] x
   have aa:=Zh (by  simp[List.getD,C]:E cs k cz=cs[k])
   have Lh:=Zh (by  rw[Q5 C,ZW];simp:(cs.take (k+1)).flatMap jA=(cs.take k).flatMap jA++jA cs[k])
   have rP:Qm (N ((cs.take k).flatMap jA)<=5*k):=by
    show _<=_;have e:∀l:JK aV,N (l.flatMap jA)=5*N l:=λl=>by
     induction l with
     |nil=>rfl
     |cons a l ih=>rw[Zr,Zt,ih,Zu];simp[jA];omega
    grind
   go_wp2_with fail;refine(D _).mono ?_;rintro e w3 ⟨v3,rfl,n,p⟩;have f:=aO (fo wr _) p;rcases XP n with⟨-,h0⟩|⟨g,c3,rfl,hg,F6,hc⟩
   .exact absurd h0 (by simp[jA])
   have j:=Ja m.o f;obtain⟨v4,w4,y,wG,q,z,A,B,rfl⟩:=zJ w3 (M (H w)) (Z K L P) _ j (ZU d.o.size f.size) g c3 (jA cs[k]) hc (by have h1:=rP.o;have h2:N (jA cs[k])=5:=rfl;grind) 26;have Nk:=Zh wG;have qO:Qm (Bw w w4):=(d.o.trans (f.mono d.o.size)).trans (q.aj (ZU d.o.size f.size) (λb vR e=>Qj ((Xy m.o e).1)));clear n p f hc j q wG D hg F6 f0 f1 f2 f3 f4 Q R S W e4;go_wp2_with (first|(at_builtin;refine XJ rfl (.tmp 17) (.tmp 20) 26 rfl (Z K L P) (Z (O (aD g 0)) (N (jA cs[k])) c3) (Z z A B) w4 rfl rfl y ?_));go_roundw
   case rel=>exact⟨k+1,X,Qe,by show World.ownsRow _ _ _ _ _ _ _;rw[Lh.o];exact Nk.o,qO.o⟩
   case measure=>exact XK
  .obtain rfl:k=N cs:=X
   go_wp2;go_ret;rw[Z0]at m;exact⟨_,rfl,m.o,d.o⟩
def Gv(c:aQ)(w:U)(h:bZ w c.ad c.cs)(hl:N c.cs<=20):Calls V 194 #[.agg #[c.val]] w (iW w (gM c)):=by obtain⟨l,n,i,d⟩:=bI w #[c.val] 59;have c0:=d.at 0;have g:=aa8 c.ad c.cap c.cs l (bZ.aj i h) hl;have b:=Zh i;have k:Qm (dM jA c.cs=gM c):=rfl;rw[k.o]at g;clear h i d hl;generalize gM c=NS at*;obtain⟨p,cap,cs⟩:=c;unfold aQ.val at*;simp only at*;go_enter func194,ntmps194;go_wp2_with fail;refine g.mono ?_;rintro e q ⟨v3,rfl,a,f⟩;obtain⟨r,t,u,rfl⟩:=Xz a;obtain⟨m,j⟩:=bH a f;clear g a f;go_wp2;go_ret;exact⟨_,rfl,Je m.o b.o.size,aO b.o j.o⟩
theorem aa9(ao:LM)(cap:Nat)(wh:JK aQ)(w:U)(h:fD w ao wh)(hl:N wh<=20)(iX:∀i,i<N wh->(E wh i lz).cs.length<=20) :
  Calls V 193 #[.func (.func 194) #[] #[],Z ao (N wh) cap] w (iW w (dM gM wh)):=by
 obtain⟨w1,dB,R,B⟩:=bI w #[I J (N wh:Int)] 3;have z:Qm (w1.ownsRow (M (H w)) 3 1 (Z (O (aD (M (H w)) 0)) 1 1) 1 [I J (N wh:Int)]):=by have:=wM w (Zb _) [(N wh:Int)] Qa;rw[<-dB];exact this
 obtain⟨C,S,Ad⟩:=lX R h iX;have rP:Qm (∀k,k<=N wh->N ((wh.take k).flatMap gM)<=101*k):=λk hk=>by
  induction k with
  |zero=>simp
  |succ k ih =>
   have h1:=ih X;have h2:=iX k X;have h3:N (gM (E wh k lz))=1+5*(E wh k lz).cs.length:=by
    have e:∀l:JK aV,N (l.flatMap jA)=5*N l:=λl=>by
     induction l with
     |nil=>rfl
     |cons a l ih=>rw[Zr,Zt,ih,Zu];simp[jA];omega
    unfold gM dM;grind
   have h4:E wh k lz=wh[k]'(X):=Qb;rw[h4]at h2 h3;rw[Q5 X,ZW,Zt];grind
 clear h R B iX;go_enter func193,ntmps193;go_wp2;go_loopw [5,13] (λv i wr=>∃k:Nat,k<=N wh/\i=I J k/\Qm (wr.ownsRow (M (H w)) 3 1 v (N ((N wh:Int)::(wh.take k).flatMap gM)) (((N wh:Int)::(wh.take k).flatMap gM).map (Value.int J)))/\Qm (Bw w wr)) (λ_ i _=>N wh-(intOf i).toNat)
 case atStart=>exact⟨0,ZR _,rfl,z.o,C.o⟩
 case round=>
  obtain⟨k,hk,rfl,q,d⟩:=hrel;obtain⟨W,vm,vc,rfl⟩:=Xz q.o;by_cases f:k<N wh
  .obtain⟨b,off,rfl,r⟩:=S.o.2.1.get f;have f0:=cB d.o (r _ f);have j:=S.o.2.2 k f;have P:=λx hx=>Gv (E wh k lz) x (bZ.aj hx j) (Ad.o k f)
   have Q:=Zh (by  rw[Q5 f,ZW];simp[List.getD,f]:(wh.take (k+1)).flatMap gM=(wh.take k).flatMap gM++gM (E wh k lz))
   have m:Qm (N ((wh.take (k+1)).flatMap gM)<=101*(k+1)):=rP.o (k+1) f;rw[Q.o]at m;have Aq:Qm (N (gM (E wh k lz))≠0):=by show _≠_;simp[gM,dM]
   have A:=Zh P;clear P j r;generalize E wh k lz=cl at*;generalize gM cl=NS at*;obtain⟨aa,ae,af⟩:=cl;unfold aQ.val at*;simp only at*;go_wp2_with fail;refine Jg (A.o _ (aO d.o (fo wr _))) ?_;rintro e w3 ⟨v3,rfl,t,u⟩;have n:=aO (fo wr _) u;rcases XP t with⟨-,h0⟩|⟨g,c3,rfl,hg,F6,hc⟩
   .exact absurd h0 Aq.o
   have p:=Ja q.o n;obtain⟨v4,w4,D,wG,y,G,K,L,rfl⟩:=zJ w3 (M (H w)) (Z W vm vc) _ p (ZU d.o.size n.size) g c3 NS hc (by have h1:=m.o;grind) 26;have Nk:=Zh wG;have qO:Qm (Bw w w4):=(d.o.trans (n.mono d.o.size)).trans (y.aj (ZU d.o.size n.size) (λb vR e=>Qj ((Xy q.o e).1)));clear t u n hc p y wG hg F6 f0;go_wp2_with (first|(at_builtin;refine XJ rfl (.tmp 17) (.tmp 20) 26 rfl (Z W vm vc) (Z (O (aD g 0)) (N NS) c3) (Z G K L) w4 rfl rfl D ?_));go_roundw
   case rel=>exact⟨k+1,X,Qe,by show World.ownsRow _ _ _ _ _ _ _;rw[Q.o];exact Nk.o,qO.o⟩
   case measure=>exact XK
  .obtain rfl:k=N wh:=X
   go_wp2;go_ret;rw[Z0]at q;exact⟨_,rfl,q.o,d.o⟩
def lC(ns:IC)(v:Ql)(w:U):Prop:=∃iv:aA,v=iv.val/\iv.At w/\(iv.ad=Qr->iv.cap=0)/\iv.xs=ns
theorem lC.aj{ns:IC}{v:Ql}{w w':U}(h:lC ns v w)(hb:Bw w w'):lC ns v w':=by obtain⟨a,b,d,e,f⟩:=h;exact⟨a,b,Zc hb d,e,f⟩
def lC.sl(h:lC ns v w):∃a m c,v=Z a m c:=by obtain⟨b,rfl,_⟩:=h;exact⟨_,_,_,rfl⟩
def lC.own(h:w.ownsRow base e 1 v n (ns.map (Value.int J)))(hl:N ns<=1000000):lC ns v w:=by obtain⟨a,b,d,f,_,g,_⟩:=lJ h hl;exact⟨a,b,f,g,d⟩
def lC.one(w:U)(n:Int)(t:TypeId):lC [n] (Z (O (aD (M (H w)) 0)) 1 1) (w.alloc (Qs #[I J n] t)):=
 ⟨⟨O (aD (M (H w)) 0),1,[n]⟩,rfl,⟨Qa,λi a=>⟨M (H w),0,rfl,by
  simp_all⟩⟩,(λh=>by cases h),rfl⟩
def amz:JK Ql->JK (IC)->U->Prop
 |[],[],_=>True
 |v::vs,n::ns,w=>lC n v w/\amz vs ns w
 |_,_,_=>False
theorem amz.rows{w:U}:∀{vs:JK Ql} {nss:JK (IC)},amz vs nss w->∃rs:JK aA,vs=rs.map aA.val/\nss=rs.map (·.xs)/\∀r∈rs,r.At w/\(r.ad=Qr->r.cap=0)
 |[],[],_=>⟨[],rfl,rfl,λr h=>by cases h⟩
 |[],_::_,h=>h.elim
 |_::_,[],h=>h.elim
 |v::vs,n::ns,h=>by
  obtain⟨rs,rfl,rfl,hA⟩:=amz.rows h.2;obtain⟨iv,rfl,h2,h3,rfl⟩:=h.1;exact⟨iv::rs,rfl,rfl,λr hr=>by
   grind⟩
def BM(b c:Nat)(t:TypeId)(vs:JK Ql)(nss:JK (IC))(w:U)(hb:w.heap[b]? = O (Qs vs.toArray t))(hv:amz vs nss w)(hn:N vs<=1000)(ht:N nss.flatten<=100000) :
  Calls V 150 #[Z (O (aD b 0)) (N vs) c] w (iW w nss.flatten):=by obtain⟨a,rfl,rfl,d⟩:=hv.rows;rw[ZX]at hn ⊢;exact KD b c t a w hb d hn ht
theorem Il(t:af)(n:Nat)(w:U)(hc:t.bU=(n:Int))(hn:n<=4):Calls V 152 #[.agg t.jQ] w (iW w (fM t)):=by
 obtain⟨L,dB,bL,j⟩:=bI w t.jQ 54;have A:lC (dH t) (Z (O (aD (M (H w)) 2)) n 4) L:=by
  have iX:=j.cell;refine⟨⟨O (aD (M (H w)) 2),4,dH t⟩,?_,⟨?_,λi u=>⟨M (H w),2,rfl,?_⟩⟩,(λh=>by cases h),rfl⟩
  .unfold aA.val dH
   grind
  .unfold dH;simp;omega
  .unfold dH at u ⊢;rw[hc]at u ⊢;simp at u;rw[iX];have h5:n=0∨n=1∨n=2∨n=3∨n=4:=X
   have G:i=0∨i=1∨i=2∨i=3:=X;rcases G with rfl|rfl|rfl|rfl <;> rcases h5 with rfl|rfl|rfl|rfl|rfl <;> first|omega|rfl
 unfold af.jQ at*;obtain⟨bU,rows,k,l,k2,k3⟩:=t;simp only at hc;subst hc;obtain⟨c0,c1,c2,c3,c4,c5⟩:=j.k6;have R:∀(a:Addr) (x:U),(Instr.sliceAt 52 (Y (O a)) Qr (O (I J (n:Int))) Qr).run V x=.ok (Z (O a) n 4) x:=λa x=>sliceAt4 a x (n:Int) X X;obtain⟨aa,B⟩:=bH bL A;clear bL j A c2 c3 c4 c5;go_enter func152,ntmps152;go_wp2_with fail;refine wH L λb=>?_;refine Co 0 b ?_;refine IU 3 b ?_;have S:Qm (∀x,Bw L x->Calls V 154 #[Z (O (aD (M (H w)) 2)) n 4] x (iW x (bR (dH ⟨n,rows,k,l,k2,k3⟩)))):=λx hx=>by obtain⟨iv,C,P,Q,G⟩:=lC.aj B.o hx;rw[C,<-G];exact KE iv x P Q (by rw[G];unfold dH;simp;omega)
 have W:=Zh (by  simp[fM]:fM ⟨n,rows,k,l,k2,k3⟩=[[rows],bR (dH ⟨n,rows,k,l,k2,k3⟩)].flatten)
 have rP:Qm (N (bR (dH ⟨n,rows,k,l,k2,k3⟩))<=5):=by show _<=_;simp[bR,dH];omega
 generalize dH ⟨n,rows,k,l,k2,k3⟩=CK at*;generalize bR CK=NS at*;clear c0 c1 R B dB;refine wF2 (λy z=>#[T,T,y,T,T,T,T,z,F,F,F]) [2,7] 3 (λy z a x=>∃m p,a=⟨#[.agg #[I J (n:Int),I J rows,I J k,I J l,I J k2,I J k3],Y (O (aD (M (H w)) 0)),Z Qr 0 0,Y (O (aD (M (H w)) 1)),I J rows,m,Y (O (aD (M (H w)) 2)),Y (O (aD (M (H w)) 0)),I J (n:Int),Z (O (aD (M (H w)) 2)) n 4,p,undef,undef],[]⟩/\Qm (Bw L x/\(y=T->lC [rows] m x)/\(z=T->lC NS p x))) ⟨undef,undef,rfl,b,(λh=>by cases h),(λh=>by cases h)⟩ (λy z a x ⟨m,p,_,h⟩=>h.o.1) ?_ ?_
 .clear b;intro i u y z a x;rintro⟨m,p,rfl,g⟩;simp only[ZB,JP,or_false]at u;rcases u with rfl|rfl
  .refine JQ rfl λK d=>?_
   go_simp;obtain⟨C,P,Q⟩:=g.o;exact d _ _ ⟨T,z,rfl,_,p,rfl,aO C (fo x _),λ_=>lC.one x rows _,λh=>(Q h).aj (fo x _)⟩
  .refine JQ rfl λK d=>?_
   go_simp;refine Jg (S.o _ g.o.1) ?_;rintro e x2 ⟨v,rfl,q,r⟩;obtain⟨C,P,Q⟩:=g.o;exact d _ _ ⟨y,T,rfl,m,v,rfl,aO C r,λh=>(P h).aj r,λ_=>lC.own q (Qj rP.o)⟩
 .clear b;rintro a x ⟨m,p,rfl,g⟩;obtain⟨p1,m1,q1,rfl⟩:=(g.o.2.1 rfl).sl;obtain⟨p2,m2,q2,rfl⟩:=(g.o.2.2 rfl).sl;obtain⟨x1,sK,f,D⟩:=bI x #[Z p1 m1 q1,Z p2 m2 q2] 26;have b:=aO g.o.1 f;have BJ:=BM (M (H x)) 2 26 [Z p1 m1 q1,Z p2 m2 q2] [[rows],NS] x1 D ⟨(g.o.2.1 rfl).aj f,(g.o.2.2 rfl).aj f,trivial⟩ Qa (by have:=rP.o;simp;omega);obtain⟨Li,ae⟩:=bH (aO aa.o b) f;clear D f;have b:=g.o.1;refine wR 8 λK d=>?_
  go_simp;refine oT d b ae.o λb=>?_;clear d K;refine wR 9 λK d=>?_;go_simp;refine BJ.mono ?_;rintro e x2 ⟨v,rfl,q,r⟩;obtain⟨va,vm,vc,rfl⟩:=Xz q;rw[<-W.o]at q;obtain⟨HO,HB⟩:=bH q r;clear q BJ;refine oT d b r λb=>?_;clear d K r;refine wR 10 λK d=>?_;go_simp;refine d.o _ _ b λb=>?_;clear d K;refine wD ?_;go_wp2;go_ret;exact⟨_,rfl,Je HO.o Li.o.size,aO Li.o HB.o⟩
theorem aba(ao:LM)(cap:Nat)(ts:JK af)(w:U)(h:aZ w ao ts)(hl:N ts<=20)(iX:∀i,i<N ts->0<=(E ts i tz).bU/\(E ts i tz).bU<=4) :
  Calls V 151 #[.func (.func 152) #[] #[],Z ao (N ts) cap] w (iW w (dM fM ts)):=by
 obtain⟨w1,dB,P,z⟩:=bI w #[I J (N ts:Int)] 3;have r:Qm (w1.ownsRow (M (H w)) 3 1 (Z (O (aD (M (H w)) 0)) 1 1) 1 [I J (N ts:Int)]):=by have:=wM w (Zb _) [(N ts:Int)] Qa;rw[<-dB];exact this
 obtain⟨A,HC⟩:=bH P h;have u:Qm (∀k,k<N ts->∀x,Calls V 152 #[.agg (E ts k tz).jQ] x (iW x (fM (E ts k tz)))):=λk B x=>by have:=iX k B;exact Il _ (E ts k tz).bU.toNat x X X
 have rP:Qm (∀k,k<=N ts->N ((ts.take k).flatMap fM)<=6*k):=λk B=>by
  induction k with
  |zero=>simp
  |succ k ih =>
   have h1:=ih X;rw[Q5 X,ZW,Zt];have h2:∀t:af,N (fM t)<=6:=λt=>by simp[fM,bR,dH];omega
   grind
 clear h P z iX;go_enter func151,ntmps151;go_wp2;go_loopw [5,13] (λv i wr=>∃k:Nat,k<=N ts/\i=I J k/\Qm (wr.ownsRow (M (H w)) 3 1 v (N ((N ts:Int)::(ts.take k).flatMap fM)) (((N ts:Int)::(ts.take k).flatMap fM).map (Value.int J)))/\Qm (Bw w wr)) (λ_ i _=>N ts-(intOf i).toNat)
 case atStart=>exact⟨0,ZR _,rfl,r.o,A.o⟩
 case round=>
  obtain⟨k,B,rfl,l,a⟩:=hrel;obtain⟨Q,R,S,rfl⟩:=Xz l.o;by_cases q:k<N ts
  .obtain⟨b,off,rfl,W,e1,e2,e3,e4,e5⟩:=HC.o.2 k q;obtain⟨f0,f1,f2,f3,f4,f5⟩:=aj3 a.o W e1 e2 e3 e4 e5;have y:=u.o k q;have L:Qm ((ts.take (k+1)).flatMap fM=(ts.take k).flatMap fM++fM (E ts k tz)):=by show _=_;rw[Q5 q,ZW];simp[List.getD,q]
   have d:Qm (N ((ts.take (k+1)).flatMap fM)<=6*(k+1)):=rP.o (k+1) q;rw[L.o]at d;have Aq:Qm (N (fM (E ts k tz))≠0):=by show _≠_;simp[fM]
   unfold af.jQ at y;generalize E ts k tz=t at*;generalize fM t=NS at*;clear W e1 e2 e3 e4 e5;go_wp2_with fail;refine(y _).mono ?_;rintro e w3 ⟨v3,rfl,m,n⟩;have f:=aO (fo wr _) n;rcases XP m with⟨-,h0⟩|⟨g,c3,rfl,hg,F6,hc⟩
   .exact absurd h0 Aq.o
   have j:=Ja l.o f;obtain⟨v4,w4,C,wG,p,D,G,K,rfl⟩:=zJ w3 (M (H w)) (Z Q R S) _ j (ZU a.o.size f.size) g c3 NS hc (by have h1:=d.o;grind) 26;have Nk:=Zh wG;have qO:Qm (Bw w w4):=(a.o.trans (f.mono a.o.size)).trans (p.aj (ZU a.o.size f.size) (λb vR e=>Qj ((Xy l.o e).1)));clear m n f hc j p wG hg F6 f0 f1 f2 f3 f4 f5 y;go_wp2_with (first|(at_builtin;refine XJ rfl (.tmp 17) (.tmp 20) 26 rfl (Z Q R S) (Z (O (aD g 0)) (N NS) c3) (Z D G K) w4 rfl rfl C ?_));go_roundw
   case rel=>exact⟨k+1,X,Qe,by show World.ownsRow _ _ _ _ _ _ _;rw[L.o];exact Nk.o,qO.o⟩
   case measure=>exact XK
  .obtain rfl:k=N ts:=X
   go_wp2;go_ret;rw[Z0]at l;exact⟨_,rfl,l.o,a.o⟩
