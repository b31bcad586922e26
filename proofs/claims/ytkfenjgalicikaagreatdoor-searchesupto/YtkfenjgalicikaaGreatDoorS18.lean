import Derived.Test.YtkfenjgalicikaaGreatDoorS06
set_option linter.all false
set_option maxRecDepth 100000
set_option maxHeartbeats 0
namespace Go.Proofs.Zz
open Go.RowKit Go.Shelf
open List renaming length->N,getD->E
open Go.Value renaming slice->Z,int->I,pointer->Y,bool->Qq
open Option renaming some->O,none->Qr
open Go.IntKind renaming i64->J,u64->Qp
open Bool renaming false->F,true->T
open Go renaming World->U,Value->Ql
open Go.World renaming heap->H,setCell->Qn
open _root_.Array renaming size->M
variable {ts:JK af} {q:ae} {pl:JK ay} {B b base c f i m n0:Nat} {s seen:JK Nat} {n:ay} {v:dX} {A Z' Zq w w0:U} {e tI tV:TypeId} {xs:IC} {a:LM} {u:Ql}
def TV(hn:E pl i nz=n)(h:fK n=F∨n.kind<1∨10<n.kind):iI ts q pl (f+1) i seen=none:=by unfold iI;simp_all
def OJ(hn:E pl i nz=n)(hp:fK n=T)(hk:n.kind=1):iI ts q pl (f+1) i seen =
  if n.source<0∨(N q.au.xs:Int)<=n.source then Qr else O (⟨[n.source],[],[],F,kM ts q [n.source] [],uF 1 (kM ts q [n.source] []) vz vz⟩,seen++[i]):=by unfold iI;simp_all
theorem Iw(hn:E pl i nz=n)(hp:fK n=T)(h2:2<=n.kind)(KY:n.kind<=10)(ha:¬(3<=n.kind/\n.kind<=5)):iI ts q pl (f+1) i seen =
  (oW ts q pl f i n.l (seen++[i])).bind λx=>(oJ ts q n x.1 vz).map λv=>(v,x.2):=by rw[iI];simp only[hn];rw[Zk Qb,Zk X];have a:bg n.kind≠2:=λe=>ha ((am3 n.kind).1 X);unfold oW;grind
theorem Iy(hn:E pl i nz=n)(hp:fK n=T)(ha:3<=n.kind/\n.kind<=5):iI ts q pl (f+1) i seen =
  (oW ts q pl f i n.l (seen++[i])).bind λx=>(oW ts q pl f i n.r x.2).bind λy=>(oJ ts q n x.1 y.1).map λv=>(v,y.2):=by
 rw[iI];simp only[hn];rw[Zk Qb,Zk X];have a:bg n.kind=2:=by unfold bg;grind
 unfold oW;grind
def KR{k:Int}(hip:i<N pl)(O4:Sn (N pl) seen)(h:oW ts q pl f i k seen=O (v,s)):Sn (N pl) s:=by
 unfold oW at h;split at h
 .cases h
 .rename_i hk
  have g:¬k<0:=λe=>hk (.inl e);have j:¬(i:Int)<=k:=λe=>hk (.inr (.inl e));have a:k.toNat ∉ seen:=λe=>hk (.inr (.inr e));obtain⟨_,l,m,b⟩:=yJ ts q pl f k.toNat seen v s a h;subst l;refine O4.app m λx d=>⟨?_,b x d⟩;have:=Cq (lY pl) k.toNat k.toNat (Zb _) x d;omega
theorem aeT{l s:IC}(h:jI ts q l s=T):N l<=N q.wh:=by
 have b:=qV h;unfold jI at h;rw[Q9]at h;have a:∀i,i<N l->(i:Int)<=E l i 0:=by
  intro i
  induction i with
  |zero=>simp_all
  |succ i ih =>
   grind
 grind
def sW{qY:Nat}{v:Ql}{n:Nat}{xs:JK Ql}(h:w.ownsRow base e 1 v n xs)(hl:qY<=base):w.ownsRow qY e 1 v n xs:=by
 refine⟨h.1,?_⟩;rcases h.2 with a|⟨g,c,b,a,f,d⟩
 .exact .inl a
 .exact .inr ⟨g,c,b,a,X,d⟩
def GA{w':U}{v:Ql}{n:Nat}{xs:JK Ql}(h:w.ownsRow base tI 1 v n xs){c:Array Ql}(gB:GB w B tV c)(ht:tI≠tV)(hk:aB (λx=>x≠B) w w'):w'.ownsRow base tI 1 v n xs:=
 Xw h hk λg b e=>by obtain⟨d,a⟩:=og h b;unfold GB at gB;rw[e,gB]at a;injection a with a;injection a with _ a;exact ht a.symm
def v17{z:U}(ht:tI≠tV)(hS:Bw A z){a0 a1' a2' a3 a4 a5:Ql}(gB:GB z B tV #[a0,a1',a2',a3,a4,a5])(hB:M (H A)<=B){a1 a2:LM}{c1 c2:Nat}{x1 x2:IC}(o1:z.ownsRow (M (H A)) tI 1 (Z a1 (N x1) c1) (N x1) (x1.map (Value.int J)))(o2:z.ownsRow (M (H A)) tI 1 (Z a2 (N x2) c2) (N x2) (x2.map (Value.int J)))(o:aA) :
  Bw A (World.oI z B (bN.mk ⟨a1,c1,x1⟩ ⟨a2,c2,x2⟩ o F 0 0))/\GB (World.oI z B (bN.mk ⟨a1,c1,x1⟩ ⟨a2,c2,x2⟩ o F 0 0)) B tV (bN.mk ⟨a1,c1,x1⟩ ⟨a2,c2,x2⟩ o F 0 0).cells/\(World.oI z B (bN.mk ⟨a1,c1,x1⟩ ⟨a2,c2,x2⟩ o F 0 0)).ownsRow (M (H A)) tI 1 (Z a1 (N x1) c1) (N x1) (x1.map (Value.int J))/\(World.oI z B (bN.mk ⟨a1,c1,x1⟩ ⟨a2,c2,x2⟩ o F 0 0)).ownsRow (M (H A)) tI 1 (Z a2 (N x2) c2) (N x2) (x2.map (Value.int J)):=by have a:=JZ z B (bN.mk ⟨a1,c1,x1⟩ ⟨a2,c2,x2⟩ o F 0 0);exact⟨hS.trans (a.aj hS.size λx b=>by show x≠B;omega),JY gB _,GA o1 gB ht a,GA o2 gB ht a⟩
def anf{Y2:U}{m':Nat}{u2 u3:Ql}{v:bN}(hz:∀Zq,aB (xZ n0 m b u2) Y2 Zq->v.At Zq)(hK:aB (xZ n0 m b u2) Y2 A)(hm:m'<=m)(hn:∀y,y<M (H Y2)->Rest b u2 y->Rest b u3 y):v.At A/\∀a,aB (xZ n0 m' b u3) A a->v.At a:=
 ⟨hz A hK,λa h=>hz a (hK.dL h λy e d=>⟨Qj d.1,hn y e d.2⟩)⟩
def yf(h:w.ownsRow base e 1 (Z a (N xs) c) (N xs) (xs.map (Value.int J)))(hl:N xs<=1000):aP w a xs/\(a=Qr->c=0)/\∀p,a=O p->base<=p.block:=by
 obtain⟨f,i,b,d⟩:=X9 h X;injection b with b e2 e3;subst b e3;refine⟨d,?_⟩;rcases h.2 with⟨b,_⟩|⟨g,cap,iw,b,hb,_⟩
 .injection b with b e2 e3;subst b e3;exact⟨λ_=>rfl,λp h=>by cases h⟩
 .injection b with b e2 e3;subst b e3;exact⟨λh=>(by cases h),λp h=>by cases h;exact hb⟩
def abw{n:Nat}(h:Zq.ownsRow n e 1 (Z a (N xs) c) (N xs) (xs.map (Value.int J)))(hl:N xs<=1000)(hm:m<=n)(hb:b<n)(hu:∀g,u.ownBlock=O g->g<n)(hk:aB (xZ n0 m b u) Zq Z'):aP Z' a xs/\(a=Qr->c=0):=by have d:=yf h hl;refine⟨Iu (x:=⟨a,c,xs⟩) d.1 (λp f _=>?_) hk,d.2.1⟩;have:=d.2.2 p f;exact⟨.inr X,X,λe=>Qj (hu _ e)⟩
def OM(Zq:U)(B i:Nat)(v:Ql):aB (λy=>y≠B) Zq (Qn Zq (aD B i) v):=Xu _ (aD B i) _ (λh=>h rfl)
def aqG(h:aP w0 a xs)(hb:Bw w0 Zq)(ho:∀x,x<M (H w0)->Rest b u x)(hk:aB (xZ (M (H w0)) m b u) Zq Z'):aP Z' a xs:=
 Iu (x:=⟨a,0,xs⟩) (Zc hb h) (λp f i=>by
  obtain⟨g,off,e,d⟩:=h.2 0 (List.length_pos_iff.2 i);rw[show a=O p from f]at e;cases e;have:=lW d;exact⟨.inl this,ho _ this⟩) hk
structure Vb(A:U)(B:Nat)(v:bN)(Zq:U):Prop where
 b:Bw A Zq
 lo:M (H A)<=B
 g:GB Zq B 67 v.cells
 s:Zq.ownsRow (M (H A)) 3 1 (Z v.s.ad (N v.s.xs) v.s.cap) (N v.s.xs) (v.s.xs.map (Value.int J))
 c:Zq.ownsRow (M (H A)) 3 1 (Z v.c.ad (N v.c.xs) v.c.cap) (N v.c.xs) (v.c.xs.map (Value.int J))
theorem Vb.aj{A Zq Z':U}{B:Nat}{v:bN}(h:Vb A B v Zq)(hb:Bw Zq Z'):Vb A B v Z':=
 ⟨aO h.b hb,h.lo,h.g.up hb,Ja h.s hb,Ja h.c hb⟩
def Vb.set{A Zq:U}{B:Nat}{v:bN}(h:Vb A B v Zq)(v':bN)(i:Nat){x:Ql}(hx:v.cells.setIfInBounds i x=v'.cells)(hs:v'.s=v.s)(hc:Zq.ownsRow (M (H A)) 3 1 (Z v'.c.ad (N v'.c.xs) v'.c.cap) (N v'.c.xs) (v'.c.xs.map (Value.int J))):Vb A B v' (Qn Zq (aD B i) x):=
 ⟨h.b.setCell (p:=(aD B i)) h.lo _,h.lo,hx ▸ h.g.set i x,by rw[hs];exact GA h.s h.g Qc (OM Zq B i x),GA hc h.g Qc (OM Zq B i x)⟩
def L9{W:U}{sv:Ql}{ao po:LM}{cap dR:Nat}{nc:Array Ql}(h:Vs w0 W b sv ao po cap dR ts q pl nc Zq s u){A:Nat}{x:Int}(hg:GB Zq A 3 #[I J x])(hA:M (H W)+2<=A)(hu:u.ownBlock≠O A)(SZ CT:Nat):∀d,aB (xZ (M (H w0)) (M (H W)+2) b u) Zq d->(bN.mk ⟨O (aD A 0),1,[x]⟩ ⟨Qr,0,[]⟩ ⟨Qr,0,[]⟩ F SZ CT).At d:=λd e=>by
 have hz:=bN.At.zero d;have j:=h.lo;refine⟨⟨Iu (Mq:=xZ (M (H w0)) (M (H W)+2) b u) (Zq:=Zq) ⟨Qa,λi f=>⟨A,0,rfl,?_⟩⟩ (λa g _=>?_) e,λh=>by cases h⟩,hz.2.1,hz.2.2⟩
 .have:i=0:=by simp at f;omega
  subst this;exact hg.at 0
 .cases g
  exact⟨.inr hA,by show A≠b;omega,hu⟩
theorem ai8(w0:U)(b:Nat)(ao po:LM)(cap dR:Nat)(ts:JK af)(q:ae)(pl:JK ay)(D:OH w0 ao po ts q pl)(f i:Nat)(hV:VC w0 b ao po cap dR ts q pl f)(hif:i<=f)(W:U)(seen:JK Nat)(sv:Ql)(hip:i<N pl)(hT:fe W b (M (H w0)) 97 3 ao po cap dR ts q pl seen sv)(hW:Bw w0 W)(xG:Sn (N pl) (seen++[i])) :
  Calls Tryz.prog 35 #[Y (O (aD b 0)),I J i] W (VQ (λZq s u=>fe Zq b (M (H w0)) 97 3 ao po cap dR ts q pl s u) (M (H w0)) W b sv (iI ts q pl (f+1) i seen)):=by
 obtain⟨n,hn⟩:=eX (E pl i nz);obtain⟨Oq,hO⟩:=eY (iI ts q pl (f+1) i seen);rw[<-hO];obtain⟨pb,cO,rfl,c0,c1,c2,c3,c4,c5,c6,iX,EU⟩:=D.plan.2 i hip;rw[hn]at c0 c1 c2 c3 c4 c5 c6 iX EU;have gW:=D.plan.1;have gX:=D.len;have eB:=hW.size;have fU:=xG.len;rw[Zt,Xh]at fU;obtain⟨sa,sm,sc,rfl⟩:=Xz hT.own;obtain⟨X1,fB,bL,g1⟩:=bI W #[Z Qr 0 0,Z Qr 0 0,Z Qr 0 0,Qq F,I Qp 0,I Qp 0] 67;obtain⟨Xq,hX,ag,g2⟩:=bI X1 n.cells 43;have tq:M (H X1)=M (H W)+1:=by rw[<-fB];simp
 have bS:=aO bL ag;have fV:=(hT.aj bL).g.at 8;have bE:=hT.aj bS;obtain⟨ik,w5,sF,mW,kC,⟨va,vm,vc,rfl⟩,jl⟩:=pK Xq (M (H w0)) (Z sa sm sc) (seen.map λ(i:Nat)=>(i:Int)) (by rw[ZX];exact bE.own) (by rw[ZX];omega) (Qj bS.size) (i:Int) 26;obtain⟨Yq,hY⟩:=eX (Qn w5 (aD b 9) (Z va vm vc));obtain⟨TY,fC,dK,jG⟩:=hT.push Tryz.L8 bS kC mW jl hY.symm;have bF:=bE.g.of (kC.block b bE.g.lt (hT.ne Tryz.L8));have w9:=bF.at 9;have fZ:=bF.frozen 9;have t9:=bE.g.at 9;rw[tq]at g2;have dw:Vs w0 W b (Z sa sm sc) ao (O (aD pb cO)) cap dR ts q pl n.cells Yq (seen++[i]) (Z va vm vc):=
  ⟨dK,(g1.up ag).of (jG _ (Zb _) (Qj ag.size)),g2.of (jG _ X g2.lt),TY,fC,hW.trans (dK.aj eB (λx hx=>hT.yA x hx)),⟨hT.g.lt,eB⟩,xG⟩
 have d0:=cB (aO hW bL) c0;have d1:=cB (aO hW bL) c1;have d2:=cB (aO hW bL) c2;have d3:=cB (aO hW bL) c3;have d4:=cB (aO hW bL) c4;have d5:=cB (aO hW bL) c5;have d6:=cB (aO hW bL) c6;have Sv:=Zh λ(Zq:U) (hk:aB (Rest b (Z sa sm sc)) W Zq) (g:GB Zq (M (H W)) 67 #[Z Qr 0 0,Z Qr 0 0,Z Qr 0 0,Qq F,I Qp 0,I Qp 0])=>aGS hk g (λZq s u=>fe Zq b (M (H w0)) 97 3 ao (O (aD pb cO)) cap dR ts q pl s u) (M (H w0));have YG:=Zh λ(k:Int) (Zq:U) (s:JK Nat) (v:Ql) (h:Vs w0 W b (Z sa sm sc) ao (O (aD pb cO)) cap dR ts q pl n.cells Zq s v)=>ai6 w0 b ao (O (aD pb cO)) cap dR ts q pl f hV i k hif hip D.len Zq s v h.iE h.base h.nd;have Gf:=TL n Yq;obtain⟨HO,zI,Ay,Ad,fD,EX⟩:=asK hO hn D (JM iX EU) dw tq;obtain⟨n0,n1,n2,n3,n4,n5,n6⟩:=dw.gN.k7;obtain⟨kind,nl,nr,source,⟨KL,KM,R⟩,key,⟨E5,E8,uJ⟩⟩:=n;unfold ay.cells aA.val at*;simp only[World.oI,bN.cells,yC,aA.val,XE,JW]at*;clear hO hn D iX EU hV xG kC mW jl fC dK jG hT bE hW TY g1 g2 bL ag bS tq dw c0 c1 c2 c3 c4 c5 c6 bF;go_enter Tryz.func35,Tryz.ntmps35;go_upto_region 3 with (first|(at_builtin;refine XJ rfl (.tmp 25) (.tmp 27) 26 rfl (Z sa sm sc) (Z (O (aD (M (H Xq)) 0)) 1 1) (Z va vm vc) w5 rfl rfl sF ?_));rw[EX.o];clear sF w9 fZ t9 fV d0 d1 d2 d3 d4 d5 d6 hX fB hY;go_wp2_with fail;refine mR Gf λY1 bL=>?_;clear Gf n0 n1 n2 n3 n4 n5 n6;have KQ:=Zh (Vs.aj fD.o bL);have m0:=KQ.o.gN.at 0;clear bL fD;by_cases aQ:fK ⟨kind,nl,nr,source,⟨KL,KM,R⟩,key,⟨E5,E8,uJ⟩⟩=F∨kind<1∨10<kind
 .obtain rfl:Oq=none:=by rw[HO.o];exact TV zI.o aQ
  obtain⟨gJ,rT⟩:=Sv.o Y1 KQ.o.fu KQ.o.gR;have hc:=KQ.o.gR.k6;have hf:=GB.f6 KQ.o.gR;generalize fK ⟨kind,nl,nr,source,⟨KL,KM,R⟩,key,⟨E5,E8,uJ⟩⟩=P at*;have hk:P=F∨(P=T/\kind<1)∨(P=T/\¬kind<1/\10<kind):=by cases P <;> grind
  clear aQ HO zI YG Sv Ay Ad;rcases hk with rfl|⟨rfl,k1⟩|⟨rfl,k1,k2⟩
  all_goals
   go_wp2;exact Jr (J2 (p:=4) (u:=5) (x:=Qq F) rfl rfl rfl rT.o) rfl gJ.o
 have hP:fK ⟨kind,nl,nr,source,⟨KL,KM,R⟩,key,⟨E5,E8,uJ⟩⟩=true:=by
  cases h:fK ⟨kind,nl,nr,source,⟨KL,KM,R⟩,key,⟨E5,E8,uJ⟩⟩
  .exact absurd (.inl h) aQ
  .rfl
 have k1:¬kind<1:=λh=>aQ (.inr (.inl h));have gY:¬10<kind:=λh=>aQ (.inr (.inr h));rw[hP];have HP:=Zh hP;clear aQ hP;by_cases kk:kind=1
 .have Lc:=Zh (HO.o.trans (OJ zI.o HP.o kk));subst kk;have t1:=KQ.o.iE.g.at 1;have m3:=KQ.o.gN.at 3;simp only at Lc;clear HO YG zI HP;by_cases hs:source<0∨(N q.au.xs:Int)<=source
  .obtain rfl:Oq=none:=by rw[Lc.o,Zd hs]
   have gm:source<0∨(¬source<0/\(N q.au.xs:Int)<=source):=X;clear Lc hs;rcases gm with s0|⟨s0,s1⟩
   case' inl=>
    go_wp2_with fail;refine wH Y1 λj=>?_;refine IU 0 j ?_;refine wS9 4 j ?_
   case' inr=>
    go_wp2_with fail;refine wH Y1 λj=>?_;refine IU 0 j ?_;refine wB9 4 j ?_
   all_goals
    refine rR 13 j ?_;refine wD ?_;have aG:=Zh (Vs.aj KQ.o j);clear KQ j m0 m3 t1;generalize Y1.drew=Y2 at*;obtain⟨gJ,rT⟩:=Sv.o Y2 aG.o.fu aG.o.gR;have hc:=aG.o.gR.k6;have hf:=GB.f6 aG.o.gR;go_wp2;exact Jr (J2 (p:=4) (u:=5) (x:=Qq F) rfl rfl rfl rT.o) rfl gJ.o
  have s0:¬source<0:=λh=>hs (.inl h);have s1:¬(N q.au.xs:Int)<=source:=λh=>hs (.inr h);have eD:=Zh Lc.o;rw[Zk hs]at eD;clear Lc hs;go_wp2_with fail;refine wH Y1 λj=>?_;refine IU 0 j ?_;refine wB9 4 j ?_;refine rR 13 j ?_;refine wD ?_;have aG:=Zh (Vs.aj KQ.o j);clear KQ j m0 m3 t1;generalize Y1.drew=Y2 at*;obtain⟨t0,t1,t2,t3,t4,t5,t6,t7,t8⟩:=aG.o.iE.g.k9;have m3:=aG.o.gN.at 3;have EY:=Zh λ(x:U) (a:Nat) (hx:Bw Y2 x) (hg:GB x a 3 #[I J source])=>Yi ao (O (aD a 0)) Qr cap 1 0 ts q [source] [] x (Ay.o.qP.aj (aO aG.o.base hx)) Ay.o.wO.qP (Ay.o.qC.aj (aO aG.o.base hx)) Ay.o.wO.jM Ay.o.wO.au Ay.o.wO.ko Ay.o.wO.bU ⟨Qa,λi hi=>⟨a,0,rfl,by
   have:i=0:=by simp at hi;omega
   subst this;exact hg.at 0⟩⟩ (λy hy=>by simp at hy;omega) ⟨Qa,λi hi=>absurd hi Qa⟩
  simp only[aA.val,Zu,XE,ae.cells]at*;have gp:=Zh (Gz ts q [source] []);generalize kM ts q [source] []=SZ at*;have vY:=Zh λ(x:U)=>abo 1 SZ yC yC x gp.o (ZR _) (ZR _) (ZR _) (ZR _);simp only[bN.cells,yC,aA.val,XE,JW,bN.d]at vY;rw[show (dX.mk [] [] [] F 0 0)=vz from rfl]at vY;generalize uF 1 SZ vz vz=CT at*;go_wp2_with fail;refine wH Y2 λj=>?_;refine GZ 0 j ?_;obtain⟨X3,gI,ah,fE⟩:=bI Y2.drew #[I J source] 3;refine wR 10 λK t=>?_;go_simp;refine oT t j ah λj=>?_;clear t K;refine wR 11 λK t=>?_;go_simp;refine mR (EY.o X3 (M (H Y2)) j fE) λY3 ai=>?_;refine oT t j ai λj=>?_;clear t K ai ah fE gI EY t0 t1 t2 t3 t4 t5 t6 t7 t8;refine rR 12 j ?_;refine wD ?_;have bz:=Zh (Vs.aj aG.o j);clear aG j m3;have m3:=bz.o.gN.at 3;have dx:=Zh λ(Zq:U) (A:Nat) (hZ:Bw Y3 Zq) (hg:GB Zq A 3 #[I J source]) (hA:M (H Y3)<=A)=>asn (bz.o.aj hZ) (v:=bN.mk ⟨O (aD A 0),1,[source]⟩ ⟨Qr,0,[]⟩ ⟨Qr,0,[]⟩ F SZ CT) (o:=Oq) (ok:=T) eD.o (L9 (bz.o.aj hZ) hg (Qj bz.o.gN.lt) (λe=>Qj ((Xy bz.o.iE.own e).2)) SZ CT);clear Sv;go_wp2_with fail;refine ZI (S:=λx=>aB (λy=>y≠M (H W)) Y3 x) Qd (Xl ((Za (M (H Y3)) Y3).drew)) (λj=>?_);refine wt 0 (Y (O (aD (M (H W)+1) 3))) j ?_;refine wT 1 (I J source) j (λx hx=>?_) ?_
  .have e0:=Xt m3 hx (by show M (H W)+1≠M (H W);omega);go_simp
  refine wt 3 (I Qp SZ) j ?_;refine wt 4 (I Qp SZ) j ?_;refine wt 5 (.agg #[Z Qr 0 0,Z Qr 0 0,Z Qr 0 0,Qq F,I Qp 0,I Qp 0]) j ?_;refine wt 6 (.agg #[Z Qr 0 0,Z Qr 0 0,Z Qr 0 0,Qq F,I Qp 0,I Qp 0]) j ?_;refine wJ 2 7 (λK t=>?_) λK t=>?_
  case' refine_1=>
   go_simp;refine t.o _ _ (j.trans (Xo _ _)) (λj=>?_);clear t K;refine wR 7 λK t=>?_;go_simp;refine mR (vY.o _) λZq ai=>?_;refine t.o _ _ (j.trans (Xl ai)) (λj=>?_);clear t K;have bG:=aO (show Bw Y3 ((Y3.alloc (.cells #[I J source] 3)).drew) from (fo _ _).drew) ai;have hY:=dx.o Zq (M (H Y3)) bG (GB.of (w:=(Y3.alloc (.cells #[I J source] 3)).drew) (qj Y3 _) (ai.block _ Qa)) (Zb _);have aR:=Zh (JZ Zq (M (H W)) (bN.mk ⟨O (aD (M (H Y3)) 0),1,[source]⟩ ⟨Qr,0,[]⟩ ⟨Qr,0,[]⟩ F SZ CT))
  case' refine_2=>
   go_simp;refine mR (vY.o _) λY4 ai=>?_;refine t.o _ _ (j.trans (Xl ai)) (λj=>?_);clear t K;obtain⟨Zq,hZ,fF,bF⟩:=bI Y4 #[I J source] 3;refine wR 2 λK t=>?_;go_simp;refine t.o _ _ (j.trans (Xl fF)) (λj=>?_);clear t K hZ;have bG:=aO (aO (show Bw Y3 Y3.drew from (Za _ _).drew) ai) fF;have hY:=dx.o Zq (M (H Y4)) bG bF (ai.size);have aR:=Zh (JZ Zq (M (H W)) (bN.mk ⟨O (aD (M (H Y4)) 0),1,[source]⟩ ⟨Qr,0,[]⟩ ⟨Qr,0,[]⟩ F SZ CT))
  all_goals
   have bf:=bz.o.gR.up bG;obtain⟨hE,hL⟩:=hY;obtain⟨gJ,rT⟩:=bH hE hL;simp only[World.oI,bN.cells,aA.val,XE,Zu,ZT]at gJ rT aR;have hc:=bf.k6;have hf:=GB.f6 bf;clear hE hL bf bG dx m3;refine wR 8 λK t=>?_;go_simp;refine t.o _ _ j λj=>?_;clear t K;refine wR 9 λK t=>?_;go_simp;refine t.o _ _ (j.trans aR.o) (λj=>?_);clear t K;refine wR 10 λK t=>?_;go_simp;refine t.o _ _ j λj=>?_;clear t K;refine wD ?_;try simp only[pU]
   go_wp2;exact Jr (J2 (p:=4) (u:=5) (x:=Qq T) rfl rfl rfl rT.o) rfl gJ.o
 have gZ:(kind==1)=false:=by simp[kk]
 have eF:=YG.o nl Y1 _ _ KQ.o;have m1:=KQ.o.gN.at 1;go_wp2_with fail;refine eF.mono ?_;clear eF m1;rintro e Y2 hq;obtain⟨lv,rfl,cZ⟩:=hq.out;obtain⟨HK,df⟩:=bH hq.fu (Vs.no KQ.o hq.fu);obtain⟨⟨av,ax,C⟩,⟨Wi,Wj,L⟩,⟨KO,Q,DK⟩,uS,Wl,Wm⟩:=lv;simp only[bN.cells,aA.val];obtain⟨Y3,dM,ah,dN⟩:=bI Y2 #[Z av (N C) ax,Z Wi (N L) Wj,Z KO (N DK) Q,Qq uS,I Qp (Wl:Int),I Qp (Wm:Int)] 67;obtain⟨Y4,fG,ai,aS⟩:=bI Y3 #[Z Qr 0 0,Z Qr 0 0,Z Qr 0 0,Qq F,I Qp 0,I Qp 0] 67;have bA:M (H Y3)=M (H Y2)+1:=by rw[<-dM];simp
 rw[bA]at aS;have uQ:=aO ah ai;have aU:=dN.up ai;obtain⟨OL,dO⟩:=eY (oW ts q pl f i nl (seen++[i]));rw[<-dO]at cZ ⊢;obtain⟨Ra,fH,fI⟩:=lX dO dM fG;clear hq m0 dO dM fG bA;go_upto_region 13 with fail;rw[fH.o,fI.o];clear fH fI
 cases OL with
 |none =>
  obtain rfl:Oq=none:=by
   rw[HO.o];by_cases bu:3<=kind/\kind<=5
   .rw[Iy zI.o HP.o bu,<-Ra.o];rfl
   .rw[Iw zI.o HP.o (show 2<=kind by omega) (show kind<=10 by omega) bu,<-Ra.o];rfl
  have g4:=df.o.2.1.up uQ;obtain⟨gJ,rT⟩:=Sv.o Y4 (df.o.1.trans (Xk uQ λ_ h _=>h)) g4;have hc:=g4.k6;have hf:=GB.f6 g4;clear HO zI HP YG Sv Ay Ad Ra cZ g4 df HK dN aU aS ah ai uQ KQ;go_wp2;exact Jr (J2 (p:=4) (u:=5) (x:=Qq F) rfl rfl rfl rT.o) rfl gJ.o
 |some x =>
 obtain⟨l,s2⟩:=x;obtain⟨e1,u2,dP,LP,hz⟩:=cZ _ rfl;simp only at e1 dP;subst e1;obtain⟨az,aK⟩:=bH (Vs.aj (Vs.abj KQ.o HK.o dP LP (KR hip KQ.o.nd Ra.o.symm)) uQ) (TU Ra.o.symm);have m0:=az.o.gN.at 0;have dz:M (H W)+2<=M (H Y1):=KQ.o.gN.lt;have ib:=uQ.size;obtain⟨HZ,fJ,dh⟩:=lX hz (JM uQ trivial) KQ.o.lo;have EY:Hid (M (H W)+2<=M (H Y2)/\M (H Y2)+1<M (H Y4)):=⟨ZU dz HK.o.size,aS.lt⟩;clear cZ dP LP df HK ah ai uQ dN KQ hz;by_cases bu:3<=kind/\kind<=5
 case' neg=>
  obtain⟨⟨⟨VK,VL,r⟩,⟨Ri,aa,G⟩,⟨Pd,Pe,LD⟩,sV,Rj,Rk⟩,aM⟩:∃rv:bN,rv=yC:=⟨_,rfl⟩;have gR:GB Y4 (M (H Y2)+1) 67 (bN.mk ⟨VK,VL,r⟩ ⟨Ri,aa,G⟩ ⟨Pd,Pe,LD⟩ sV Rj Rk).cells:=by rw[aM];exact aS
  have zW:=Zh (by rw[HO.o,Iw zI.o HP.o (show 2<=kind by omega) (show kind<=10 by omega) bu,<-Ra.o,aM];rfl:Oq=(oJ ts q ⟨kind,nl,nr,source,⟨KL,KM,R⟩,key,⟨E5,E8,uJ⟩⟩ (bN.mk ⟨av,ax,C⟩ ⟨Wi,Wj,L⟩ ⟨KO,Q,DK⟩ uS Wl Wm).d (bN.mk ⟨VK,VL,r⟩ ⟨Ri,aa,G⟩ ⟨Pd,Pe,LD⟩ sV Rj Rk).d).map λv=>(v,s2))
  have aH:Hid (LG q (bN.mk ⟨VK,VL,r⟩ ⟨Ri,aa,G⟩ ⟨Pd,Pe,LD⟩ sV Rj Rk).d):=by rw[aM];exact LG.zero q
  have aL:Hid ((bN.mk ⟨VK,VL,r⟩ ⟨Ri,aa,G⟩ ⟨Pd,Pe,LD⟩ sV Rj Rk).At Y4):=by rw[aM];exact bN.At.zero _
  have ak:Hid ((bN.mk ⟨av,ax,C⟩ ⟨Wi,Wj,L⟩ ⟨KO,Q,DK⟩ uS Wl Wm).At Y4/\∀Z',aB (xZ (M (H w0)) (M (H W)+2) b u2) Y4 Z'->(bN.mk ⟨av,ax,C⟩ ⟨Wi,Wj,L⟩ ⟨KO,Q,DK⟩ uS Wl Wm).At Z'):=anf HZ.o (Xk fJ.o.1 λ_ h _=>h) dz (λy _ h=>h);obtain⟨u3,dQ⟩:=eY (u2);obtain⟨s3,bA⟩:=eY (s2);obtain⟨A,hA⟩:=eY (Y4);rw[<-dQ,<-bA,<-hA]at az;rw[<-bA]at zW;rw[<-hA]at aU gR aL m0;rw[<-dQ,<-hA]at ak;have CZ:=Zh az.o;rw[<-hA];have gL:=aU;clear HO zI HP YG Ra aS aM dQ bA HZ az aU;clear hA;go_cut [104] from 94 to 103 (λc wx=>c=Qq F/\A=wx)
  case first=>
   by_cases h3:3<=kind
   .have h5:¬kind<=5:=λh=>bu ⟨h3,h⟩
    go_wp2_with fail;go_meet;exact⟨rfl,rfl⟩
   .go_wp2_with fail;go_meet;exact⟨rfl,rfl⟩
  obtain⟨rfl,rfl⟩:=hcut;go_upto_region 15 with fail;clear m0 bu
 case' pos=>
  obtain⟨h3,h5⟩:=bu;have eG:=YG.o nr Y4 _ _ az.o;have m2:=az.o.gN.at 2;go_wp2_with fail;refine eG.mono ?_;clear eG m2 m0;rintro e Y5 hq;obtain⟨rv,rfl,aM⟩:=hq.out;obtain⟨HK,bR⟩:=bH hq.fu (Vs.no az.o hq.fu);have ni:=EY.o;have Aw:=dh.o;have bJ:=aS.of (hq.fu.block _ aS.lt ⟨X,vO az.o.iE aS Qc⟩);have dA:=aU.of (hq.fu.block _ aU.lt ⟨X,vO az.o.iE aU Qc⟩);obtain⟨⟨VK,VL,r⟩,⟨Ri,aa,G⟩,⟨Pd,Pe,LD⟩,sV,Rj,Rk⟩:=rv;obtain⟨A,hA⟩:=eX (World.oI Y5 (M (H Y2)+1) (bN.mk ⟨VK,VL,r⟩ ⟨Ri,aa,G⟩ ⟨Pd,Pe,LD⟩ sV Rj Rk));have bB:=JZ Y5 (M (H Y2)+1) (bN.mk ⟨VK,VL,r⟩ ⟨Ri,aa,G⟩ ⟨Pd,Pe,LD⟩ sV Rj Rk);have gR:=JY bJ (bN.mk ⟨VK,VL,r⟩ ⟨Ri,aa,G⟩ ⟨Pd,Pe,LD⟩ sV Rj Rk);rw[hA]at bB gR;have gL:=dA.of (bB.block _ dA.lt X);have g0:=bR.o.2.1.of (bB.block _ bR.o.2.1.lt X);have eH:=bR.o.1.dL bB (λx hx _=>by show x≠M (H Y2)+1;omega);simp only[World.oI,bN.cells,aA.val]at hA ⊢;have hc:=bJ.k6;have hf:=GB.f6 bJ;obtain⟨OR,dS⟩:=eY (oW ts q pl f i nr s2);rw[<-dS]at aM ⊢;obtain⟨bD,aR,aW,dU⟩:=De dS bB (JM gL (JM gR (JM g0 eH))) bJ;clear dS hq bB gL gR g0 eH aS aU dA bJ ni Aw;go_upto_region 15 with fail;clear hA hc hf;rcases OR with _|⟨rd,s3⟩
  .obtain rfl:Oq=none:=by rw[HO.o,Iy zI.o HP.o ⟨h3,h5⟩,<-Ra.o];show (oW ts q pl f i nr s2).bind _=_;rw[<-bD.o];rfl
   obtain⟨gJ,rT⟩:=Sv.o A aW.o.2.2.2 aW.o.2.2.1;have hc:=aW.o.2.2.1.k6;have hf:=GB.f6 aW.o.2.2.1;clear HO zI HP YG Sv Ay Ad Ra aM bD aR aW dU bR HK az;go_wp2;exact Jr (J2 (p:=4) (u:=5) (x:=Qq F) rfl rfl rfl rT.o) rfl gJ.o
  obtain⟨e1,u3,dV,dW,fM⟩:=aM _ rfl;simp only at e1 dV;subst e1;have zW:Hid (Oq=(oJ ts q ⟨kind,nl,nr,source,⟨KL,KM,R⟩,key,⟨E5,E8,uJ⟩⟩ (bN.mk ⟨av,ax,C⟩ ⟨Wi,Wj,L⟩ ⟨KO,Q,DK⟩ uS Wl Wm).d (bN.mk ⟨VK,VL,r⟩ ⟨Ri,aa,G⟩ ⟨Pd,Pe,LD⟩ sV Rj Rk).d).map λv=>(v,s3)):=by show _=_;rw[HO.o,Iy zI.o HP.o ⟨h3,h5⟩,<-Ra.o];show (oW ts q pl f i nr s2).bind _=_;rw[<-bD.o];rfl
  have aH:=Zh (TU bD.o.symm);have ni:=EY.o;have Aw:=dh.o;obtain⟨CZ,aL,ak⟩:=lX (Vs.store (Vs.abj az.o HK.o dV dW (KR hip az.o.nd bD.o.symm)) dU.o X aR.o) (fM A (aR.o.mono λy _ hm e=>Qj hm.1)) (anf (m':=M (H W)+2) (u3:=u3) HZ.o (((Xk fJ.o.1 λ_ h _=>h).dL HK.o λy _ hm=>hm.2).dL aR.o λy hy _=>by show y≠M (H Y2)+1;omega) dz (λy hy h=>h.next dW X));have gL:=aW.o.1;have gR:=aW.o.2.1;clear HO zI HP YG Ra aM bD aR aW dU bR HK az dV dW fM ni Aw h3 h5 HZ
 all_goals
  have m0:=CZ.o.gN.at 0;have l3:=gL.at 3;have r3:=gR.at 3;have bC:=Zh (pJ ts q ⟨kind,nl,nr,source,⟨KL,KM,R⟩,key,⟨E5,E8,uJ⟩⟩ (bN.mk ⟨av,ax,C⟩ ⟨Wi,Wj,L⟩ ⟨KO,Q,DK⟩ uS Wl Wm).d (bN.mk ⟨VK,VL,r⟩ ⟨Ri,aa,G⟩ ⟨Pd,Pe,LD⟩ sV Rj Rk).d);obtain⟨AB,dZ⟩:∃AB,AB=(sV ||(uS != decide (kind=10))):=⟨_,rfl⟩;have HA:=Zh dZ;have Ae:Hid (oP ts q ⟨kind,nl,nr,source,⟨KL,KM,R⟩,key,⟨E5,E8,uJ⟩⟩ (bN.mk ⟨av,ax,C⟩ ⟨Wi,Wj,L⟩ ⟨KO,Q,DK⟩ uS Wl Wm).d (bN.mk ⟨VK,VL,r⟩ ⟨Ri,aa,G⟩ ⟨Pd,Pe,LD⟩ sV Rj Rk).d=(!AB&&decide (N (aY C r)=N C+N r)&&jI ts q R (aY C r)&&Fu ts q ⟨kind,nl,nr,source,⟨KL,KM,R⟩,key,⟨E5,E8,uJ⟩⟩ (bN.mk ⟨av,ax,C⟩ ⟨Wi,Wj,L⟩ ⟨KO,Q,DK⟩ uS Wl Wm).d (bN.mk ⟨VK,VL,r⟩ ⟨Ri,aa,G⟩ ⟨Pd,Pe,LD⟩ sV Rj Rk).d)):=by show _=_;rw[dZ];rfl
  have aI:Hid (oP ts q ⟨kind,nl,nr,source,⟨KL,KM,R⟩,key,⟨E5,E8,uJ⟩⟩ (bN.mk ⟨av,ax,C⟩ ⟨Wi,Wj,L⟩ ⟨KO,Q,DK⟩ uS Wl Wm).d (bN.mk ⟨VK,VL,r⟩ ⟨Ri,aa,G⟩ ⟨Pd,Pe,LD⟩ sV Rj Rk).d=F->Oq=Qr):=λh=>by rw[zW.o,bC.o,h];rfl
  clear dZ;go_cut [126] from 113 to 125 (λc wx=>c=Qq AB/\A=wx)
  case first=>
   obtain⟨gK,il,gM⟩:∃d,(kind==10)=d/\Hid (decide (kind=10)=d):=⟨_,rfl,rfl⟩;rw[gM.o]at HA;cases gK <;> cases sV <;> cases uS
   all_goals
    go_wp2_with fail;go_meet;exact⟨by rw[HA.o];rfl,rfl⟩
  obtain⟨rfl,rfl⟩:=hcut;clear l3 r3 HA;rcases AB with _|_
  rotate_left
  .obtain rfl:Oq=none:=aI.o (by rw[Ae.o];rfl);obtain⟨gJ,rT⟩:=Sv.o A CZ.o.fu CZ.o.gR;have hc:=CZ.o.gR.k6;have hf:=GB.f6 CZ.o.gR;clear zW bC Ae aI Sv Ay Ad aH aK ak aL CZ gL gR m0;go_wp2;exact Jr (J2 (p:=4) (u:=5) (x:=Qq F) rfl rfl rfl rT.o) rfl gJ.o
  obtain⟨l0,l1,l2⟩:=gL.k3;obtain⟨r0,r1⟩:=gR.k2;have bT:=LG.aqE aK.o;have bK:=LG.au8 aK.o;have bV:=LG.aqE aH.o;have eO:=LG.au8 aH.o;have dB:=Ay.o.wO.jM;have dC:=Ay.o.wO.ko;simp only[bN.d,bN.cells,aA.val]at bT bK bV eO l0 l1 l2 r0 r1;have ic:N (aY C r)<=10:=Qj (nY (m:=r) (l:=C));have gq:N (aY L G)<=16:=Qj (nY (m:=G) (l:=L));have dD:=Zh λ(x:U) (hb:Bw A x)=>MH av VK ax VL C r x (Zc hb ak.o.1.1.1) (Zc hb aL.o.1.1) ak.o.1.1.2 X;have bW:=Zh λ(x:U) (hb:Bw A x)=>MH Wi Ri Wj aa L G x (Zc hb ak.o.1.2.1.1) (Zc hb aL.o.2.1.1) ak.o.1.2.1.2 X;have bM:=Zh λ(z:U) (B:Nat) (j:Bw A z) (gB:GB z B 67 #[Z Qr 0 0,Z Qr 0 0,Z Qr 0 0,Qq F,I Qp 0,I Qp 0]) (hB:M (H A)<=B) (a1 a2:LM) (c1 c2:Nat) (o1:z.ownsRow (M (H A)) 3 1 (Z a1 (N (aY C r)) c1) (N (aY C r)) ((aY C r).map (Value.int J))) (o2:z.ownsRow (M (H A)) 3 1 (Z a2 (N (aY L G)) c2) (N (aY L G)) ((aY L G).map (Value.int J)))=>v17 Qc j gB hB o1 o2 ⟨KO,Q,DK⟩;simp only[World.oI,bN.cells,aA.val,JW]at bM;have gu:=dB;clear bT bK bV eO dB dC gu;go_upto_region 17 with fail;go_cut [12] from 128 to 140 (λp wx=>∃(B:Nat) (a1 a2:LM) (c1 c2:Nat),p=Y (O (aD B 0))/\Bw A wx/\M (H A)<=B/\GB wx B 67 #[Z a1 (N (aY C r)) c1,Z a2 (N (aY L G)) c2,Z KO (N DK) Q,Qq F,I Qp 0,I Qp 0]/\Hid (wx.ownsRow (M (H A)) 3 1 (Z a1 (N (aY C r)) c1) (N (aY C r)) ((aY C r).map (Value.int J))/\wx.ownsRow (M (H A)) 3 1 (Z a2 (N (aY L G)) c2) (N (aY L G)) ((aY L G).map (Value.int J))))
  case first=>
   refine wH A λj=>?_;refine IU 0 j ?_;refine IU 5 j ?_;refine Co 10 j ?_;have uH:=j.size;refine wJ 4 13 (λK t=>?_) λK t=>?_
   case' refine_1=>
    go_simp;refine(dD.o _ j).mono ?_;rintro e y1 ⟨v1,rfl,bn,bL⟩;obtain⟨a1,c1,rfl,-⟩:=X9 bn X;refine oT t j bL λaN=>?_;clear t K;refine wJ 9 13 (λK t=>?_) λK t=>?_
    case' refine_1=>
     go_simp;refine(bW.o _ aN).mono ?_;rintro e y2 ⟨v2,rfl,aT,ag⟩;obtain⟨a2,c2,rfl,-⟩:=X9 aT X;refine oT t aN ag λaF=>?_;clear t K;refine rR 12 aF ?_;obtain⟨z,hz,ah,gB⟩:=bI y2 #[Z Qr 0 0,Z Qr 0 0,Z Qr 0 0,Qq F,I Qp 0,I Qp 0] 67;refine wR 13 λK t=>?_;go_simp;refine oT t aF ah λbq=>?_;clear t K hz;have hE:=Zh (bM.o z _ bq gB aF.size a1 a2 c1 c2 (Ja (Ja (sW bn uH) ag) ah) (Ja (sW aT aN.size) ah))
    case' refine_2=>
     obtain⟨y2,hz,ah,gB⟩:=bI y1 #[Z Qr 0 0,Z Qr 0 0,Z Qr 0 0,Qq F,I Qp 0,I Qp 0] 67;go_simp;refine oT t aN ah λaF=>?_;clear t K hz;refine wR 9 λK t=>?_;go_simp;refine(bW.o _ aF).mono ?_;rintro e z ⟨v2,rfl,aT,ag⟩;obtain⟨a2,c2,rfl,-⟩:=X9 aT X;refine oT t aF ag λbq=>?_;clear t K;refine rR 12 bq ?_;have gB:=gB.up ag;have hE:=Zh (bM.o z _ bq gB aN.size a1 a2 c1 c2 (Ja (Ja (sW bn uH) ah) ag) (sW aT aF.size))
   case' refine_2=>
    obtain⟨y1,hz,ah,gP⟩:=bI A.drew #[Z Qr 0 0,Z Qr 0 0,Z Qr 0 0,Qq F,I Qp 0,I Qp 0] 67;have gB:GB y1 (M (H A)) 67 #[Z Qr 0 0,Z Qr 0 0,Z Qr 0 0,Qq F,I Qp 0,I Qp 0]:=gP;go_simp;refine oT t j ah λaN=>?_;clear t K hz;refine wR 4 λK t=>?_;go_simp;refine(dD.o _ aN).mono ?_;rintro e y2 ⟨v1,rfl,bn,bL⟩;obtain⟨a1,c1,rfl,-⟩:=X9 bn X;refine oT t aN bL λaF=>?_;clear t K;refine wR 9 λK t=>?_;go_simp;refine(bW.o _ aF).mono ?_;rintro e z ⟨v2,rfl,aT,ag⟩;obtain⟨a2,c2,rfl,-⟩:=X9 aT X;refine oT t aF ag λbq=>?_;clear t K;refine rR 12 bq ?_;have gB:=(gB.up bL).of (ag.block _ (gB.up bL).lt);have hE:=Zh (bM.o z _ bq gB uH a1 a2 c1 c2 (Ja (sW bn aN.size) ag) (sW aT aF.size))
   all_goals
    have hc:=gB.k6;have hf:=GB.f6 gB;clear bn aT;refine wR 14 λK t=>?_;go_simp;refine t.o _ _ hE.o.1 λiq=>?_;clear t K;refine wD ?_;try simp only[pU]
    go_wp2_with fail;go_meet;exact⟨_,a1,a2,c1,c2,rfl,hE.o.1,by first|exact aF.size|exact aN.size|exact uH,hE.o.2.1,hE.o.2.2⟩
  obtain⟨B,a1,a2,c1,c2,rfl,di,hB,gB,ed⟩:=hcut;have bX:Hid (Vb A B ⟨⟨a1,c1,aY C r⟩,⟨a2,c2,aY L G⟩,⟨KO,Q,DK⟩,F,0,0⟩ wc):=⟨di,hB,gB,ed.o.1,ed.o.2⟩;obtain⟨gQ,gT⟩:=kP di l0 r0;have gy:=gB.at 0;have aC:=Zh (Vs.aj CZ.o di);have bY:=aC.o.gN.at 4;clear l0 l1 l2 r0 r1 dD bW bM gB ed m0 di hB;by_cases dY:N (aY C r)=N C+N r
  rotate_left
  .obtain rfl:Oq=none:=aI.o (by rw[Ae.o,ZK dY];rfl);have eP:((N (aY C r):Int) != (N C:Int)+N r)=true:=Qi
   have bT:=LG.aqE aK.o;have bV:=LG.aqE aH.o;have dB:=Ay.o.wO.jM;simp only[bN.d]at bT bV;obtain⟨gJ,rT⟩:=Sv.o wc aC.o.fu aC.o.gR;have hc:=aC.o.gR.k6;have hf:=GB.f6 aC.o.gR;clear zW bC Ae aI Sv Ay Ad aH aK ak aL CZ gL gR bX aC bY dY;have gz:N C<=5:=X;have gD:N r<=5:=X;generalize N (aY C r)=wl at*;go_wp2;exact Jr (J2 (p:=4) (u:=5) (x:=Qq F) rfl rfl rfl rT.o) rfl gJ.o
  have dE:=Zh dY;have eP:((N (aY C r):Int) != (N C:Int)+N r)=false:=Qi;have eQ:=aeP b ao KL a1 cap KM c1 ts q R (aY C r) wc aC.o.iE.iE (Ay.o.qP.aj aC.o.base) Ay.o.wO (Ay.o.qC.aj aC.o.base) (Zc aC.o.base Ad.o.1) (yf bX.o.s (by show N (aY C r)<=1000;omega)).1;obtain⟨Sd,Uy⟩:=bH (aeT (ts:=ts) (q:=q) (l:=R) (s:=aY C r)) (qV (ts:=ts) (q:=q) (l:=R) (s:=aY C r));generalize jI ts q R (aY C r)=lb at*;have gz:N C<=10:=X;have gD:N r<=10:=X;clear dY;go_wp2_with fail;refine mR eQ λZ6 eu=>?_;clear eQ bY gQ gT gy eP;obtain⟨aX,aZ⟩:=bH (bX.o.aj eu) (Vs.aj aC.o eu);clear bX aC eu;rcases lb with _|_
  .obtain rfl:Oq=none:=aI.o (by rw[Ae.o,Bool.and_false,Bool.false_and]);obtain⟨gJ,rT⟩:=Sv.o Z6 aZ.o.fu aZ.o.gR;have hc:=aZ.o.gR.k6;have hf:=GB.f6 aZ.o.gR;clear zW bC Ae aI Sv Ay Ad aH aK ak aL CZ gL gR aX aZ Sd Uy dE;go_wp2;exact Jr (J2 (p:=4) (u:=5) (x:=Qq F) rfl rfl rfl rT.o) rfl gJ.o
  have gF:=Sd.o rfl;have eT:=Zh (Uy.o rfl);have dC:=Ay.o.wO.ko;have ig:N (aY (aY L G) R)<=24:=Qj (nY (m:=R) (l:=aY L G));have eU:=MH a2 KL c2 KM (aY L G) R Z6 (yf aX.o.c (by show N (aY L G)<=1000;omega)).1 (Zc aZ.o.base Ad.o.1) (yf aX.o.c (by show N (aY L G)<=1000;omega)).2.1 X;have bY:=aZ.o.gN.at 4;have bO:=aX.o.g.at 1;clear Sd Uy aZ Sv;simp only[aA.val]at bO;go_wp2_with fail;refine eU.mono ?_;clear eU bY bO;rintro e w7 ⟨v2,rfl,ek,uz⟩;obtain⟨a3,c3,rfl,-⟩:=X9 ek X;have Rl:=Zh ((aX.o.aj uz).set ⟨⟨a1,c1,aY C r⟩,⟨a3,c3,aY (aY L G) R⟩,⟨KO,Q,DK⟩,F,0,0⟩ 1 rfl rfl (sW ek aX.o.b.size));have dF:=(aX.o.aj uz).g;have bO:=dF.at 1;have gG:=dF.frozen 1;clear ek uz aX dF;simp only[aA.val]at Rl bO;go_upto_region 24 with fail;clear bO gG;generalize Qn w7 (aD B 1) (Z a3 (N (aY (aY L G) R)) c3)=Z7 at*;have bg:=Zh (Vs.aj CZ.o Rl.o.b);have bK:=LG.au8 aK.o;simp only[bN.d]at bK;have dG:=anb b ao cap ts q ⟨kind,nl,nr,source,⟨KL,KM,R⟩,key,⟨E5,E8,uJ⟩⟩ (bN.mk ⟨av,ax,C⟩ ⟨Wi,Wj,L⟩ ⟨KO,Q,DK⟩ uS Wl Wm) (bN.mk ⟨VK,VL,r⟩ ⟨Ri,aa,G⟩ ⟨Pd,Pe,LD⟩ sV Rj Rk) Z7 bg.o.iE.iE (Ay.o.qP.aj bg.o.base) Ay.o.wO (Ay.o.qC.aj bg.o.base) (Zc bg.o.base Ad.o.1) (Zc bg.o.base Ad.o.2) (Zc Rl.o.b ak.o.1.1.1) (Zc Rl.o.b ak.o.1.2.2) (Zc Rl.o.b aL.o.1.1) (Zc Rl.o.b aL.o.2.2) (by show N L<=1000;omega) (λh=>eT.o _ h);have hO:=zW.o;rw[bC.o,Ae.o,Zl dE.o]at hO;generalize Fu ts q ⟨kind,nl,nr,source,⟨KL,KM,R⟩,key,⟨E5,E8,uJ⟩⟩ (bN.mk ⟨av,ax,C⟩ ⟨Wi,Wj,L⟩ ⟨KO,Q,DK⟩ uS Wl Wm).d (bN.mk ⟨VK,VL,r⟩ ⟨Ri,aa,G⟩ ⟨Pd,Pe,LD⟩ sV Rj Rk).d=kb at*;have eZ:=Zh hO;simp only[ay.cells,bN.cells,aA.val]at dG gR;have gH:=bg.o.gN.k7;have dH:=(gL.up Rl.o.b).k6;have dI:=(gR.up Rl.o.b).k6;clear hO zW bC Ae aI dE eT gF dC bK gq;go_wp2_with fail;refine mR dG λZ8 EZ=>?_;clear dG gH dH dI bg;have OO:=Zh (Rl.o.aj EZ);have dJ:=Zh (Vs.aj CZ.o OO.o.b);have n0:=dJ.o.gN.at 0;have n6:=dJ.o.gN.at 6;have w2:=OO.o.g.at 2;have w3:=OO.o.g.at 3;have y2:=OO.o.g.frozen 2;have y3:=OO.o.g.frozen 3;clear EZ Rl dJ;obtain⟨ob,gU,fO⟩:∃ob,decide (7<=kind)=ob/\Hid (decide (7<=kind)=ob):=⟨_,rfl,rfl⟩;by_cases k6:kind=6
  case' pos=>
   have fq:(kind==6)=true:=by simp[k6]
   obtain⟨⟨oa,oc,ox⟩,ho⟩:∃o:aA,aA.mk E5 E8 uJ=o:=⟨_,rfl⟩;have bZ:Hid ((∀Zq Z',Bw A Zq->aB (xZ (M (H w0)) (M (H W)+2) b u3) Zq Z'->aP Z' oa ox)/\(if kind=6 then uJ else DK)=ox):=by cases ho;exact⟨λZq Z' hZ hk=>aqG Ad.o.2 (aO CZ.o.base hZ) (λx hx=>CZ.o.iE.yA x hx) hk,Zd k6⟩
   have GD:=Zh ((OO.o.set ⟨⟨a1,c1,aY C r⟩,⟨a3,c3,aY (aY L G) R⟩,⟨E5,E8,uJ⟩,F,0,0⟩ 2 rfl rfl OO.o.c));have GD:=Zh ((GD.o.set ⟨⟨a1,c1,aY C r⟩,⟨a3,c3,aY (aY L G) R⟩,⟨E5,E8,uJ⟩,ob,0,0⟩ 3 rfl rfl GD.o.c));simp only[aA.val]at GD;clear OO k6;go_upto_region 28 with fail;generalize Qn (Qn Z8 (aD B 2) (Z E5 (N uJ) E8)) (aD B 3) (Qq ob)=Z9 at*;rw[ho]at GD;clear ho
  case' neg=>
   have fq:(kind==6)=false:=by simp[k6]
   obtain⟨⟨oa,oc,ox⟩,ho⟩:∃o:aA,aA.mk KO Q DK=o:=⟨_,rfl⟩;have bZ:Hid ((∀Zq Z',Bw A Zq->aB (xZ (M (H w0)) (M (H W)+2) b u3) Zq Z'->aP Z' oa ox)/\(if kind=6 then uJ else DK)=ox):=by cases ho;exact⟨λZq Z' hZ hk=>(ak.o.2 Z' ((Xk hZ λ_ h _=>h).dL hk λ_ _ h=>h)).2.2,Zk k6⟩
   have GD:=Zh ((OO.o.set ⟨⟨a1,c1,aY C r⟩,⟨a3,c3,aY (aY L G) R⟩,⟨KO,Q,DK⟩,ob,0,0⟩ 3 rfl rfl OO.o.c));clear OO;go_upto_region 28 with fail;generalize Qn Z8 (aD B 3) (Qq ob)=Z9 at*;rw[ho]at GD;clear ho k6
  all_goals
   clear n0 n6 w2 w3 y2 y3 gU fq;have cu:=Zh (Vs.aj CZ.o GD.o.b);have ni:=Gz ts q (aY C r) (aY (aY L G) R);have fw:=Yi ao a1 a3 cap c1 c3 ts q (aY C r) (aY (aY L G) R) Z9.drew (Ay.o.qP.aj cu.o.base.drew) Ay.o.wO.qP (Ay.o.qC.aj cu.o.base.drew) Ay.o.wO.jM Ay.o.wO.au Ay.o.wO.ko Ay.o.wO.bU (yf GD.o.s (by show N (aY C r)<=1000;omega)).1 (cK.with aK.o.jL aH.o.jL) (yf GD.o.c (by show N (aY (aY L G) R)<=1000;omega)).1;have cz:=Zh eZ.o;simp only[bN.d]at cz;rw[bZ.o.2,fO.o]at cz;generalize kM ts q (aY C r) (aY (aY L G) R)=SZ at*;have MI:=λZq=>abo kind SZ (bN.mk ⟨av,ax,C⟩ ⟨Wi,Wj,L⟩ ⟨KO,Q,DK⟩ uS Wl Wm) (bN.mk ⟨VK,VL,r⟩ ⟨Ri,aa,G⟩ ⟨Pd,Pe,LD⟩ sV Rj Rk) Zq ni aK.o.size aK.o.aJ aH.o.size aH.o.aJ;simp only[bN.cells,aA.val,bN.d]at MI;generalize uF kind SZ (dX.mk C L DK uS Wl Wm) (dX.mk r G LD sV Rj Rk)=CT at*;have vY:=Zh MI;clear eZ fO MI ni;obtain⟨t0,t1,t2,t3,t4,t5,t6,t7,-⟩:=cu.o.iE.g.k9;obtain⟨dm,dn⟩:=GD.o.g.k2;simp only[aA.val]at t1 t4 t5 t6 t7 dm dn;have aV:b≠B:=by have:=dh.o;have:=CZ.o.gN.lt;have:=GD.o.lo;omega
   clear cu;refine ZI (S:=λx=>aB (λy=>y≠B) Z9 x/\x.cell? (aD B 0)=O (Z a1 (N (aY C r)) c1)/\x.cell? (aD B 1)=O (Z a3 (N (aY (aY L G) R)) c3)) Qd ⟨Xl ((Za (M (H Z9)) Z9).drew),dm,dn⟩ (λj=>?_);refine wt 0 (Y (O (aD b 0))) j ?_;refine wt 1 (Y (O (aD b 0))) j ?_;refine wt 2 (Y (O (aD b 0))) j ?_;refine wT 3 (Z ao (N ts) cap) j (λx hx=>?_) ?_
   .have e0:=Xt t0 hx.1 aV;go_simp
   refine wt 4 (Y (O (aD b 0))) j ?_;refine wt 5 (Y (O (aD b 0))) j ?_;refine wt 6 (Y (O (aD b 1))) j ?_;refine wT 7 (.agg q.cells) j (λx hx=>?_) ?_
   .have e1:=Xt t1 hx.1 aV;have e2:=Xt t2 hx.1 aV;have e3:=Xt t3 hx.1 aV;have e4:=Xt t4 hx.1 aV;have e5:=Xt t5 hx.1 aV;have e6:=Xt t6 hx.1 aV;have e7:=Xt t7 hx.1 aV;simp only[ae.cells,aA.val];go_simp
   refine wt 8 (Y (O (aD B 0))) j ?_;refine wT 9 (Z a1 (N (aY C r)) c1) j (λx hx=>?_) ?_
   .have e0:=hx.2.1;go_simp
   refine wt 10 (Y (O (aD B 1))) j ?_;refine wT 11 (Z a3 (N (aY (aY L G) R)) c3) j (λx hx=>?_) ?_
   .have e0:=hx.2.2;go_simp
   refine wR 12 λK t=>?_;go_simp;refine mR fw λfP fQ=>?_;clear fw;have Rm:Bw Z9 fP:=((Za _ _).drew).trans fQ;refine t.o _ _ ⟨Xl Rm,cB Rm dm,cB Rm dn⟩ (λj=>?_);clear t K fQ;refine wt 13 (Y (O (aD B 4))) j ?_;have bP:=Zh (GD.o.aj Rm);have w4:=bP.o.g.at 4;have y4:=bP.o.g.frozen 4;have KS:=Zh (bP.o.set ⟨⟨a1,c1,aY C r⟩,⟨a3,c3,aY (aY L G) R⟩,⟨oa,oc,ox⟩,ob,SZ,0⟩ 4 rfl rfl bP.o.c);refine wR 14 λK t=>?_;go_simp;refine t.o _ _ ⟨(Xl Rm).trans (OM _ _ _ _),KS.o.g.at 0,KS.o.g.at 1⟩ (λj=>?_);clear t K j w4 y4 dm dn t0 t1 t2 t3 t4 t5 t6 t7 bP GD Rm;refine wD ?_;try simp only[pU]
   generalize Qn fP (aD B 4) (I Qp (SZ:Int))=Z11 at*;have fA:=Zh (Vs.aj CZ.o KS.o.b);have MI:=vY.o Z11;have m0:=fA.o.gN.at 0;have w4:=KS.o.g.at 4;have dH:=(gL.up KS.o.b).k6;have dI:=(gR.up KS.o.b).k6;clear fA vY;go_wp2_with fail;refine mR MI λgV fT=>?_;clear MI m0 w4 dH dI;have bQ:=Zh (KS.o.aj fT);have w5:=bQ.o.g.at 5;have y5:=bQ.o.g.frozen 5;have OP:=Zh (bQ.o.set ⟨⟨a1,c1,aY C r⟩,⟨a3,c3,aY (aY L G) R⟩,⟨oa,oc,ox⟩,ob,SZ,CT⟩ 5 rfl rfl bQ.o.c);clear KS bQ fT;go_upto_region 30 with fail;clear w5 y5;generalize Qn gV (aD B 5) (I Qp (CT:Int))=Z13 at*;obtain⟨hE,hL⟩:=asn (CZ.o.aj OP.o.b) (v:=⟨⟨a1,c1,aY C r⟩,⟨a3,c3,aY (aY L G) R⟩,⟨oa,oc,ox⟩,ob,SZ,CT⟩) (o:=Oq) (ok:=kb) (by rw[cz.o];cases kb <;> rfl) (λZ' hk=>by
    have h1:M (H W)+2<=M (H A):=CZ.o.gN.lt;have h2:=dh.o;have h3:=λg (e:u3.ownBlock=O g)=>(Xy CZ.o.iE.own e).2;exact⟨abw OP.o.s (by show N (aY C r)<=1000;omega) h1 X h3 hk,abw OP.o.c (by show N (aY (aY L G) R)<=1000;omega) h1 X h3 hk,bZ.o.1 Z13 Z' OP.o.b hk⟩)
   obtain⟨gJ,rT⟩:=bH hE hL;simp only[World.oI,bN.cells,aA.val]at gJ rT;have bf:=(CZ.o.aj OP.o.b).gR;have hc:=bf.k6;have hf:=GB.f6 bf;have hw:=OP.o.g.k6;simp only[aA.val]at hw;clear hE hL bf OP bZ cz CZ gL gR ak aL Ay Ad aK aH;go_wp2;exact Jr (J2 (p:=4) (u:=5) (x:=Qq kb) rfl rfl rfl rT.o) rfl gJ.o
def ai9(h1:1<=N pl)(h:iI ts q pl (N pl) (N pl-1) []=O (v,s))(hn:E pl (N pl-1) nz=n)(hk:n.kind=9) :
  q.aF=F/\0<=n.l/\n.l<(N pl:Int)/\∃u y,iI ts q pl (N pl) n.l.toNat []=O (u,y)/\iP ts q pl n.l.toNat=O u:=by
 obtain⟨m,j⟩:∃m,N pl=m+1:=⟨N pl-1,X⟩;have b:fK n=true:=by
  cases b:fK n with
  |true=>rfl
  |false =>
   rw[j]at h;rw[TV Qf (.inl b)]at h;cases h
 have e:m+1-1=m:=Nat.add_sub_cancel m 1;rw[j,e]at h hn;rw[Iw hn b X X X]at h;unfold oW at h;split at h
 .cases h
 rename_i hb;have d:0<=n.l/\n.l<(m:Int):=X
 cases hr:iI ts q pl m n.l.toNat ([]++[m]) with
 |none=>simp_all
 |some x =>
  obtain⟨l,r⟩:=x;rw[hr]at h;simp only[Xi]at h;obtain⟨t,_,i,_⟩:=yJ ts q pl m n.l.toNat ([]++[m]) l r Qi hr;have k:n.l.toNat<m:=X;have a:pG ts q pl (N pl) n.l.toNat=O l:=by rw[yL ts q pl (N pl) m n.l.toNat X k];exact t
  have p:q.aF=false:=by
   cases hnv:oJ ts q n l vz with
   |none=>simp_all
   |some v' =>
    rw[pJ]at hnv;split at hnv
    .rename_i ho
     unfold oP at ho;simp only[Q8]at ho;have f:=ho.2;unfold Fu at f;simp_all
    .cases hnv
  have g:=wW ts q pl (N pl) n.l.toNat [] l a i Qa;refine⟨p,d.1,X,l,_,g,?_⟩;rw[<-tu ts q pl (show n.l.toNat<N pl by omega)];exact a
