import Derived.Test.YtkfenjgalicikaaGreatDoorS08
import Derived.Test.YtkfenjgalicikaaGreatDoorS14
import Derived.Test.YtkfenjgalicikaaGreatDoorS18
set_option linter.all false
set_option maxRecDepth 100000
set_option maxHeartbeats 0
namespace Go.Proofs.Zz
open Go.RowKit Go.Shelf Go.Proofs.Tryz
open List renaming length->N,getD->E
open Go.Value renaming slice->Z,int->I,pointer->Y,bool->Qq
open Go.Proofs.Tryz renaming prog->V
open Option renaming some->O,none->Qr
open Go.IntKind renaming i64->J,u64->Qp
open Bool renaming false->F,true->T
open Go renaming World->U
open Go.World renaming heap->H,cell?->Qo
open _root_.Array renaming size->M
open Go.RowKit renaming Hid->Qm
open Go.Ending renaming returned->Qu
variable {l:IC} {w:U} {po:LM} {ts:JK af} {q:ae} {pl:JK ay} {v:dX} {i:Nat}
def zO(w0:U)(b:Nat)(ao po:LM)(cap dR:Nat)(ts:JK af)(q:ae)(pl:JK ay)(D:OH w0 ao po ts q pl):∀f,VC w0 b ao po cap dR ts q pl f:=by
 intro f
 induction f with
 |zero=>intro i W seen e a;omega
 |succ f ih=>exact λi W seen e a d g j k=>ai8 w0 b ao po cap dR ts q pl D f i ih X W seen e d g j k
section
def aeY{k:Nat}(hk:k<N l)(h:E l k 0≠(k:Int)):l8 l=false:=by unfold l8;rw[List.all_eq_false];exact⟨k,Xd.2 hk,by simp only[Zi];exact h⟩
def abG(h:∀k,k<N l->E l k 0=(k:Int)):l8 l=true:=by unfold l8;rw[Q9];exact λk a=>Zl (h k (Xd.1 a))
def ajf(q:ae){k:Nat}(hk:k<N q.ord.xs):(jk q).take (k+1)=(jk q).take k++[E q.bA.xs (E q.ord.xs k 0).toNat 0]:=by
 have a:k<N (jk q):=by unfold jk;rw[ZX];exact hk
 rw[Q5 a];congr 2;unfold jk;simp[List.getD,hk]
variable (w0:U) (b:Nat) (ao po:LM) (cap dR:Nat) (ts:JK af) (q:ae) (pl:JK ay)
def abH(D:OH w0 ao po ts q pl)(W:U)(seen:JK Nat)(sv:Value)(hT:fe W b (M (H w0)) 97 3 ao po cap dR ts q pl seen sv)(hW:Bw w0 W)(h1:1<=N pl)(uP:N q.ord.xs<=4)
  (h9:(E pl (N pl-1) nz).kind=9->dm q.ord.xs (N q.bA.xs)=T/\0<=(E pl (N pl-1) nz).l/\(E pl (N pl-1) nz).l<(N pl:Int)/\∃u s',iI ts q pl (N pl) (E pl (N pl-1) nz).l.toNat []=O (u,s')/\iP ts q pl (E pl (N pl-1) nz).l.toNat=O u) :
  Cb 36 #[Y (O (aD b 0))] W (Qq (qW ts q pl)):=by
 obtain⟨G,bQ⟩:∃G,N pl=G+1:=⟨N pl-1,X⟩;have eN:N pl-1=G:=X;rw[eN]at h9;have AY:=D.plan.1;have bB:Qm (IntKind.i64.wrap (G:Int)=(G:Int)):=by show _=_;simp[IntKind.wrap,IntKind.bits,IntKind.signed];omega
 obtain⟨nb,no,Ei,m0,m1,m2,m3,m4,m5,m6,-,-⟩:=(fH.aj hW D.plan).2 G X;have CZ:Qm (∀(b':Nat) (f:Nat),VC w0 b' ao po cap dR ts q pl f):=λb' f=>zO w0 b' ao po cap dR ts q pl D f;have ah:Qm (q.At W):=D.qC.aj hW;subst Ei;obtain⟨n,hn⟩:=eX (E pl G nz);rw[hn]at m0 m1 m2 m3 m4 m5 m6 h9;have r:Qm (qW ts q pl=if (N q.ord.xs)=0∨n.kind=10 then T else if n.kind=9 then aN ((iP ts q pl n.l.toNat).getD vz).aH (jk q) else l8 q.ord.xs&&(decide (n.kind=8)&&decide (N q.ord.xs<=N q.aC.xs))):=by show _=_;unfold qW;rw[eN,hn]
 generalize qW ts q pl=RES at r ⊢;have HG:Qm (GB W b 97 _):=hT.g;have bY:Qm (M (H w0)<=b):=hT.lo;have HW:Qm _:=hW;have H9:Qm _:=h9;have aG:Qm _:=uP;have bZ:Qm (N pl<=64):=D.len;have Lb:=D.qC.ord.1;have cu:=D.qC.bA.1;have cz:=D.qC.aC.1;have bC:Qm _:=λk hk=>@ajf q k hk;have Ut:Qm (N (jk q)=N q.ord.xs):=by show _=_;unfold jk;rw[ZX]
 clear hT hW h9 uP D hn eN;generalize bX:jk q=WN at*;clear bX;obtain⟨⟨sa,sc,au⟩,iF,cZ,wh,aF,⟨Q,R,t⟩,⟨ua,uc,aM⟩,⟨ea,ec,L⟩,⟨da,dc,ord⟩⟩:=q;obtain⟨nk,nl,nr,ns,⟨ca,cc,cl⟩,key,⟨ga,gc,co⟩⟩:=n;simp only[aA.val]at*;have t0:Qo W (aD b 0)=O (Z ao (N ts) cap):=ZC HG.o 0;have t1:Qo W (aD b 1)=O (Z sa (N au) sc):=ZC HG.o 1;have t2:Qo W (aD b 2)=O (Z iF (N wh) cZ):=ZC HG.o 2;have t3:Qo W (aD b 3)=O (Qq aF):=ZC HG.o 3;have t4:Qo W (aD b 4)=O (Z Q (N t) R):=ZC HG.o 4;have t5:Qo W (aD b 5)=O (Z ua (N aM) uc):=ZC HG.o 5;have t6:Qo W (aD b 6)=O (Z ea (N L) ec):=ZC HG.o 6;have t7:Qo W (aD b 7)=O (Z da (N ord) dc):=ZC HG.o 7;have t8:Qo W (aD b 8)=O (Z (O (aD nb no)) (N pl) dR):=ZC HG.o 8;have t9:Qo W (aD b 9)=O (sv):=ZC HG.o 9;obtain⟨w1,dB,k1,g1⟩:=bI W #[Z sa (N au) sc,Z iF (N wh) cZ,Qq aF,Z Q (N t) R,Z ua (N aM) uc,Z ea (N L) ec,Z da (N ord) dc] 35;have vQ:Qm _:=k1;have CE:Qm (GB w1 (M (H W)) 35 #[Z sa (N au) sc,Z iF (N wh) cZ,Qq aF,Z Q (N t) R,Z ua (N aM) uc,Z ea (N L) ec,Z da (N ord) dc]):=g1;obtain⟨r0,r1,r2,r3,r4,r5,r6,u0⟩:=Da k1 m0 m1 m2 m3 m4 m5 m6 t0;obtain⟨u1,u2,u3,u4,u5,u6,u7,u8⟩:=Da k1 t1 t2 t3 t4 t5 t6 t7 t8;have u9:=cB k1 t9;go_enter func36,ntmps36;go_upto_region 2 with fail;clear dB k1 g1;go_cut [4] from 15 to 26 (λc wx=>c=Y (O (aD (M (H w1)) 0))/\GB wx (M (H w1)) 43 #[I J nk,I J nl,I J nr,I J ns,Z ca (N cl) cc,I J key,Z ga (N co) gc]/\Bw w1 wx)
 case first=>
  refine wH w1 λd=>?_;refine wA8 0 d ?_;refine rR 8 d ?_;refine wT 9 (I J (G:Int)) d (λx hx=>?_) ?_
  .have e9:=bB.o;go_simp
  refine wT 10 (Y (O (aD nb (no+G*7)))) d (λx hx=>?_) ?_
  .have e9:¬((G:Int)+1<=(G:Int)):=X
   go_simp
  refine rR 11 d ?_;refine wR 12 λK m=>?_;go_simp;refine oA m d λd=>?_;clear m K;refine wR 13 λK m=>?_;go_simp;refine m.o _ _ ((fo _ _).drew) (λd=>?_);clear m K;refine wD ?_;try simp only[pU]
  go_wp2_with fail;go_meet;exact⟨rfl,qj w1 _,d⟩
 case rest=>
 obtain⟨rfl,aU,af⟩:=hcut;obtain⟨a,bR⟩:=eY (wc);subst bR;have aI:Qm (GB a (M (H w1)) 43 #[I J nk,I J nl,I J nr,I J ns,Z ca (N cl) cc,I J key,Z ga (N co) gc]):=aU;have bD:Qm (Bw w1 a):=af;have y:Qm (Bw W a):=aO vQ.o af;have i:Qm (GB a (M (H W)) 35 #[Z sa (N au) sc,Z iF (N wh) cZ,Qq aF,Z Q (N t) R,Z ua (N aM) uc,Z ea (N L) ec,Z da (N ord) dc]):=CE.o.up af;have x6:Qo a (aD (M (H W)) 6)=O (Z da (N ord) dc):=ZC i.o 6;have y0:Qo a (aD (M (H w1)) 0)=O (I J nk):=ZC aI.o 0;clear aU af t0 t1 t2 t3 t4 t5 t6 t7 t8 t9 m0 m1 m2 m3 m4 m5 m6 r0 r1 r2 r3 r4 r5 r6;by_cases z:N ord=0
 .have HV:=Zh (by  rw[r.o,Zd (.inl z)]:RES=T)
  clear r H9 CZ;go_wp2;go_ret;exact⟨QZ HV.o.symm,y.o⟩
 have zb:((N ord:Int)==0)=false:=by rw[Jf];omega
 have HZ:Qm _:=z;clear z;by_cases C:nk=10
 .have HV:=Zh (by  rw[r.o,Zd (.inr C)]:RES=T)
  subst C;clear r H9 CZ;go_wp2;go_ret;exact⟨QZ HV.o.symm,y.o⟩
 have Lg:(nk==10)=false:=by rw[Jf];exact C
 by_cases k9:nk=9
 .have HV:=Zh (by  rw[r.o,Zk (λh=>h.elim HZ.o C),Zd k9]:RES=aN ((iP ts ⟨⟨sa,sc,au⟩,iF,cZ,wh,aF,⟨Q,R,t⟩,⟨ua,uc,aM⟩,⟨ea,ec,L⟩,⟨da,dc,ord⟩⟩ pl nl.toNat).getD vz).aH WN)
  obtain⟨xz,aV,F9,u,s',ay,aW⟩:=H9.o k9;rw[aW]at HV;subst k9;clear r H9;obtain⟨j,hj⟩:=XX aV;subst hj;have ai:j<N pl:=X;rw[XY]at ay;obtain⟨q0,q8⟩:=kP bD.o u0 u8;have p0:Qo a (aD (M (H W)) 0)=O (Z sa (N au) sc):=ZC i.o 0;have p1:Qo a (aD (M (H W)) 1)=O (Z iF (N wh) cZ):=ZC i.o 1;have p2:Qo a (aD (M (H W)) 2)=O (Qq aF):=ZC i.o 2;have p3:Qo a (aD (M (H W)) 3)=O (Z Q (N t) R):=ZC i.o 3;have p4:Qo a (aD (M (H W)) 4)=O (Z ua (N aM) uc):=ZC i.o 4;have p5:Qo a (aD (M (H W)) 5)=O (Z ea (N L) ec):=ZC i.o 5;have p6:Qo a (aD (M (H W)) 6)=O (Z da (N ord) dc):=ZC i.o 6;have y1:Qo a (aD (M (H w1)) 1)=O (I J (j:Int)):=ZC aI.o 1;have PQ:Qm _:=xz;have bE:Qm _:=ay;clear xz ay aW aV F9 u0 u1 u2 u3 u4 u5 u6 u7 u8 u9;go_upto_region 6 with fail;go_cut [5] from 39 to 49 (λc wx=>c=Y (O (aD (M (H a)) 0))/\GB wx (M (H a)) 97 #[Z ao (N ts) cap,Z sa (N au) sc,Z iF (N wh) cZ,Qq aF,Z Q (N t) R,Z ua (N aM) uc,Z ea (N L) ec,Z da (N ord) dc,Z (O (aD nb no)) (G+1) dR,Z Qr 0 0]/\Bw a wx)
  case first=>
   refine wH a λd=>?_;refine GZ 0 d ?_;refine wR 10 λK m=>?_;go_simp;refine oA m d λd=>?_;clear m K;refine wR 11 λK m=>?_;go_simp;refine m.o _ _ d λd=>?_;clear m K;refine wD ?_;try simp only[pU]
   go_wp2_with fail;go_meet;exact⟨rfl,qj a _,d⟩
  case rest=>
  obtain⟨rfl,az,aa⟩:=hcut;rw[<-bQ]at az;obtain⟨w3,bS⟩:=eY (wc);subst bS;have aJ:Bw w0 w3:=HW.o.trans (((y.o.trans (aa.mono y.o.size))).mono HW.o.size);have aK:fe w3 (M (H a)) (M (H w0)) 97 3 ao (O (aD nb no)) cap dR ts ⟨⟨sa,sc,au⟩,iF,cZ,wh,aF,⟨Q,R,t⟩,⟨ua,uc,aM⟩,⟨ea,ec,L⟩,⟨da,dc,ord⟩⟩ pl [] (Z Qr 0 0):=⟨az,XC _ _ _ _,ZU HW.o.size y.o.size⟩;have ak:=CZ.o (M (H a)) (N pl) j w3 [] (Z Qr 0 0) ai ai aK aJ (Sn.one ai);rw[bE.o]at ak;have aL:Qm (Bw a w3):=aa;have bF:=cB aa y1;have cK:Qm (Bw W w3):=aO y.o aa;clear az aa aK aJ y1 q0 q8 CZ y0 x6 p0 p1 p2 p3 p4 p5 p6;go_wp2_with fail;refine Jg ak ?_;rintro e w4 ⟨aX,v,rfl,hv⟩;obtain⟨aY,dx,-,-,aZ⟩:=hv _ rfl;clear ak;have uQ:Bw a w4:=aL.o.trans (aX.aj aL.o.size (λx hx=>⟨Jo hx,λe=>by cases e⟩));have qO:Qm (Bw W w4):=aO y.o uQ;have aQ:Qm (aP w4 v.o.ad v.o.xs):=(aZ _ (Xj _ _)).2.2;have bG:Qm (v.o.xs=u.aH):=congrArg dX.aH aY;have bH:Qm (GB w4 (M (H W)) 35 #[Z sa (N au) sc,Z iF (N wh) cZ,Qq aF,Z Q (N t) R,Z ua (N aM) uc,Z ea (N L) ec,Z da (N ord) dc]):=i.o.up uQ;clear aX aY aZ uQ hv;obtain⟨⟨a1,c1,s1⟩,⟨a2,c2,s2⟩,⟨oa,Kh,ox⟩,VP,bT,bU⟩:=v;simp only[bN.cells,aA.val,Option.isSome_some]at*;obtain⟨w5,zg,k5,g5⟩:=bI w4 #[Z a1 (N s1) c1,Z a2 (N s2) c2,Z oa (N ox) Kh,Qq VP,I Qp (bT:Int),I Qp (bU:Int)] 67;have av:GB w5 (M (H W)) 35 #[Z sa (N au) sc,Z iF (N wh) cZ,Qq aF,Z Q (N t) R,Z ua (N aM) uc,Z ea (N L) ec,Z da (N ord) dc]:=bH.o.up k5;have z6:=av.at 6;have z5:=av.at 5;have o2:=g5.at 2;have qd:Qm (Bw W w5):=aO qO.o k5;have bJ:Qm (aP w5 oa ox):=Zc k5 aQ.o;clear k5 g5 av bF aQ;go_wp2;clear zg;go_loopw [8,9] (λwv iv wr=>∃k:Nat,k<=N ord/\iv=I J (k:Int)/\Qm (wr.ownsRow (M (H w5)) 3 1 wv (N (WN.take k)) ((WN.take k).map (Value.int J)))/\Qm (Bw w5 wr)) (λ_ iv _=>N ord-(intOf iv).toNat)
  case atStart=>exact⟨0,ZR _,rfl,XC _ _ _ _,Za _ _⟩
  case round=>
   obtain⟨k,hk,rfl,B,V8⟩:=hrel;have bK:=cB V8.o z6;by_cases aT:k<N ord
   .obtain⟨ob,oo,ae,Ao⟩:=Q4 (Zc qd.o ah.o.ord) aT;have A:=Ao k aT;simp only at ae A;subst ae;obtain⟨bf,bV⟩:=A9 PQ.o aT;have Lh:Qm _:=bC.o k aT;obtain⟨p,hp⟩:=XX bf;rw[hp]at A bV Lh;rw[XY]at Lh;have ag:p<N L:=X
    obtain⟨lb,lo,bg,EW⟩:=Q4 (Zc qd.o ah.o.bA) ag;have aR:=EW p ag;simp only at bg aR;subst bg;generalize E L p 0=sx at*;obtain⟨va,vm,vc,rfl⟩:=Xz B.o;obtain⟨v',w6,bn,aB,bq,⟨xa,xm,xc,rfl⟩,-⟩:=pK wr.drew (M (H w5)) (Z va vm vc) (WN.take k) (Ja B.o ((Za _ _).drew)) (by rw[Jb];have:=aG.o;omega) V8.o.size sx 26;rw[<-Lh.o]at aB;have bL:Qm _:=aB;have yu:Qm (Bw w5 w6):=V8.o.drew.trans (bq.aj V8.o.size (λb hb e=>Qj ((Xy B.o e).1)));clear aB bq Ao EW hp Lh bf;go_upto_region 12 with fail;refine ZI (S:=λx=>Bw w5 x) Qd (V8.o.drew) (λd=>?_);refine GZ 0 d ?_;refine wR 10 λK m=>?_;go_simp;refine oA m d λd=>?_;clear m K;refine wR 11 λK m=>?_;refine nM Qh _ _ _ Qh (Z va vm vc) (Z (O (aD (M (H wr)) 0)) 1 1) (Z xa xm xc) w6 Qh Qh bn ?_;refine m.o _ _ yu.o (λd=>?_);clear m K bn;refine wR 12 λK m=>?_;go_simp;refine m.o _ _ d λd=>?_;clear m K;refine wD ?_;try simp only[pU]
    clear A aR bK;refine gQ ?_;exact⟨k+1,X,Qe,bL.o,yu.o⟩
   .obtain rfl:k=N ord:=X
    rw[XW (by rw[Ut.o];exact Zb _)]at B;obtain⟨wa,bW,rfl,bu⟩:=X9 B.o (by rw[Ut.o];omega);have cO:=cB V8.o o2;have aS:=vB oa wa Kh bW ox WN wr (Zc V8.o bJ.o) bu;have HE:Qm (RES=aN ox WN):=by show _=_;rw[HV.o,show ox=u.aH from bG.o];rfl
    have bM:Qm (Bw W wr):=aO qd.o V8.o;have df:N WN<=4:=by rw[Ut.o];exact aG.o
    have dh:Qm _:=Ut;generalize aN ox WN=SB at*;clear bu B aT;go_wp2_with fail;refine mR aS λw7 uz=>?_;have bO:Qm _:=aO bM.o uz;clear uz aS;go_wp2;go_ret;exact⟨QZ HE.o.symm,bO.o⟩
 .have HV:=Zh (by  rw[r.o,Zk (λh=>h.elim HZ.o C),Zk k9]:RES=(l8 ord&&(decide (nk=8)&&decide (N ord<=N t))))
  have di:(nk==9)=false:=by rw[Jf];exact k9
  clear r H9 CZ k9 C;have y8:Qm _:=y;go_wp2;go_loopw [10] (λiv wr=>∃k:Nat,k<=N ord/\iv=I J (k:Int)/\Qm (∀j,j<k->E ord j 0=(j:Int))/\wr=a) (λiv _=>N ord-(intOf iv).toNat)
  case atStart=>exact⟨0,ZR _,rfl,λj hj=>X,rfl⟩
  case round=>
   obtain⟨k,hk,rfl,HJ,ax⟩:=hrel;have ax:=ax.symm;subst ax;by_cases aT:k<N ord
   .obtain⟨ob,oo,ae,Ao⟩:=Q4 (Zc y.o ah.o.ord) aT;have A:=Ao k aT;simp only at ae A;subst ae;by_cases he:E ord k 0=(k:Int)
    .rw[he]at A;clear Ao;go_wp2;go_roundw
     case rel=>exact⟨k+1,X,Qe,λj hj=>by
      by_cases e:j=k
      .rw[e];exact he
      .exact HJ.o j X,by trivial⟩
     case measure=>exact XK
    .have HE:=Zh (by  rw[HV.o,aeY aT he];rfl:RES=F)
     have dn:(E ord k 0 != (k:Int))=true:=by rw[bne_iff_ne];exact he
     generalize E ord k 0=ok at*;clear Ao he HJ;go_wp2;go_ret;exact⟨QZ HE.o.symm,y.o⟩
   .obtain rfl:k=N ord:=X
    have HE:=Zh (by  rw[HV.o,abG HJ.o];rfl:RES=(decide (nk=8)&&decide (N ord<=N t)))
    have x3:Qo a (aD (M (H W)) 3)=O (Z Q (N t) R):=ZC i.o 3;clear HV HJ aT;by_cases k8:nk=8
    .subst k8;by_cases bz:N ord<=N t
     .have P:=Zh (by  rw[HE.o,Zl bz];rfl:RES=T)
      have bP:(N ord:Int)<=(N t:Int):=X;clear HE;go_wp2;go_ret;exact⟨QZ P.o.symm,y.o⟩
     .have P:=Zh (by  rw[HE.o,ZK bz];rfl:RES=F)
      have bP:¬(N ord:Int)<=(N t:Int):=X;clear HE;go_wp2;go_ret;exact⟨QZ P.o.symm,y.o⟩
    .have P:=Zh (by  rw[HE.o,ZK k8];rfl:RES=F)
     have dw:(nk==8)=false:=by rw[Jf];exact k8
     clear HE k8;go_wp2;go_ret;exact⟨QZ P.o.symm,y.o⟩
end
def Ch(ts:JK af)(q:ae)(pl:JK ay):Int:=if q.check ts=0 then (if (nG ts q pl).isSome=T then 0 else 5) else q.check ts
def anw:Option dX->Nat
 |some v=>v.aJ
 |none=>0
def Ci(ts:JK af)(q:ae)(pl:JK ay):Nat:=if q.check ts=0 then anw (nG ts q pl) else 0
def Cj(Eq:Int)(C:Nat)(w:U)(e:Ending)(w':U):Prop:=∃v:bN,e=Qu (.tuple #[.agg v.cells,I J Eq])/\v.aJ=C/\Bw w w'
def abI{w1 w2 Zq:U}(hb:Bw w w2)(hl:M (H w)<=M (H w1))(g:GB w2 (M (H w1)) 67 #[Z Qr 0 0,Z Qr 0 0,Z Qr 0 0,Qq F,I Qp 0,I Qp 0])(hZ:Bw w2 Zq)(v:bN)(Eq:Int) :
  Qm (Cj Eq v.aJ w (Qu (.tuple #[.agg v.cells,I J Eq])) (World.oI Zq (M (H w1)) v))/\Qm ((loadVar 67 (aD (M (H w1)) 0)).run V (World.oI Zq (M (H w1)) v)=.ok (.agg v.cells) (World.oI Zq (M (H w1)) v))/\GB Zq (M (H w1)) 67 #[Z Qr 0 0,Z Qr 0 0,Z Qr 0 0,Qq F,I Qp 0,I Qp 0]:=by have a:=g.up hZ;have e:=JZ Zq (M (H w1)) v;have d:=aO hb hZ;exact⟨⟨v,rfl,rfl,d.trans (e.aj d.size λb hb=>by show b≠M (H w1);omega)⟩,uh (JY a v),a⟩
def IE(ao po:LM)(cap dR:Nat)(ts:JK af)(q:ae)(pl:JK ay)(w:U)(hx:aZ w ao ts)(hq:q.At w)(hn:fH w po pl) :
  Calls V 16 #[Z ao (N ts) cap,.agg q.cells,Z po (N pl) dR] w (Cj (Ch ts q pl) (Ci ts q pl) w):=by
 obtain⟨w1,dB,dP,ax⟩:=bI w q.cells 35;obtain⟨w2,aQ,jf,aa⟩:=bI w1 #[Z Qr 0 0,Z Qr 0 0,Z Qr 0 0,Qq F,I Qp 0,I Qp 0] 67;have oq:=aO dP jf;have hg:=(ax.up jf).k7;have B:=GI ao cap ts q w2 (hx.aj oq) (hq.aj oq);obtain⟨f,A⟩:=eX (q.check ts);obtain⟨RE,r⟩:=eX (Ch ts q pl);obtain⟨RC,t⟩:=eX (Ci ts q pl);have aK:Qm (f=0->∀x,Bw w x->N pl<=64->OH x ao po ts q pl):=λy x hb hl=>⟨hx.aj hb,hq.aj hb,fH.aj hb hn,(sS (A.trans y)).1,hl⟩;have z:Qm (f=0->(q.aF=F->dm q.ord.xs (N q.bA.xs)=T)/\N q.ord.xs<=4):=λy=>by obtain⟨_,_,h3,h4,_⟩:=sS (A.trans y);exact⟨h3,h4⟩
 unfold Ch Ci at*;rw[A]at r t B;have d:Qm (f=0->nG ts q pl=Qr->RE=5/\RC=0):=λy h=>by rw[<-r,<-t,Zd y,Zd y,h];exact⟨rfl,rfl⟩
 have C:Qm (f=0->∀L,nG ts q pl=O L->RE=0/\RC=L.aJ):=λy L h=>by rw[<-r,<-t,Zd y,Zd y,h];exact⟨rfl,rfl⟩
 have aL:Qm (f≠0->RE=f/\RC=0):=λy=>by rw[<-r,<-t,Zk y,Zk y];exact⟨rfl,rfl⟩
 rw[A,r,t];have Sv:=Zh λ(Zq:U) (hZ:Bw w2 Zq) (v:bN) (Eq:Int)=>abI oq dP.size aa hZ v Eq;have i:=Zh λ(Zq:U) (hZ:Bw w2 Zq) (Eq:Int)=>abI oq dP.size aa hZ yC Eq;have HC:=Zh oq;have AY:=hn.1;clear A r t hx hq hn dP jf ax aa oq;simp only[World.oI,bN.cells,yC,ae.cells,aA.val,XE,JW]at i dB B hg ⊢;go_enter func16,ntmps16;go_wp2_with fail;refine mR B λQ k=>?_;clear B dB aQ;by_cases hz:f=0
 rotate_left
 .have aT:(f != 0)=true:=by rw[bne_iff_ne];exact hz
  obtain⟨rfl,rfl⟩:=aL.out hz;clear hz;obtain⟨l,m,a⟩:=i.out Q k RE;have hc:=a.k6;have hf:=GB.f6 a;go_wp2;exact Jr (J2 (p:=6) (u:=7) (x:=I J RE) rfl rfl rfl m.out) rfl l.out
 subst hz;by_cases dY:N pl<1∨64<N pl
 .obtain⟨rfl,rfl⟩:=d.out (by trivial) (by unfold nG;rw[Zd dY]);have dY:(N pl:Int)<1∨(¬(N pl:Int)<1/\(64:Int)<N pl):=X
  rcases dY with h|⟨h,h'⟩
  all_goals
   obtain⟨l,m,a⟩:=i.out Q k 5;have hc:=a.k6;have hf:=GB.f6 a;go_wp2;exact Jr (J2 (p:=6) (u:=7) (x:=I J 5) rfl rfl rfl m.out) rfl l.out
 obtain⟨j,az⟩:∃j,N pl=j+1:=⟨N pl-1,X⟩;have hD:=aK.out (by trivial) Q (aO HC.out k) X;have b:Qm (nG ts q pl=(iI ts q pl (N pl) j []).bind λx=>if x.1.out=T/\N x.2=N pl/\qW ts q pl=T then O x.1 else Qr):=by show _=_;unfold nG;rw[Zk dY,show (N pl)-1=j by omega]
 have F9:¬(N pl:Int)<1:=X;have aU:¬(64:Int)<(N pl:Int):=X;have V3:N pl<=64:=X;have n:=Zh λx (hr:iI ts q pl (N pl) j []=O x) (hk:(E pl j nz).kind=9)=>ai9 (q:=q) X (show iI ts q pl (N pl) (N pl-1) []=O (x.1,x.2) by rw[show N pl-1=j by omega];exact hr) (by rw[show N pl-1=j by omega]) hk;clear dY;obtain⟨d0,d1,d2,d3,d4,d5,d6⟩:=hg;obtain⟨d0,d1,d2,d3,d4⟩:=qi k d0 d1 d2 d3 d4;obtain⟨d5,d6⟩:=kP k d5 d6;obtain⟨w4,aB,k4,g4⟩:=bI Q #[Z ao (N ts) cap,Z q.au.ad (N q.au.xs) q.au.cap,Z q.iF (N q.wh) q.cZ,Qq q.aF,Z q.aC.ad (N q.aC.xs) q.aC.cap,Z q.aM.ad (N q.aM.xs) q.aM.cap,Z q.bA.ad (N q.bA.xs) q.bA.cap,Z q.ord.ad (N q.ord.xs) q.ord.cap,Z po (N pl) dR,Z Qr 0 0] 97;have S:=zO Q (M (H Q)) ao po cap dR ts q pl hD (N pl) j w4 [] (Z Qr 0 0) X X ⟨g4,XC _ _ _ _,Zb _⟩ k4 (Sn.one X);obtain⟨Ay,aR,aD⟩:=lX hD k k4;have aV:IntKind.i64.wrap (j:Int)=(j:Int):=by simp[IntKind.wrap,IntKind.bits,IntKind.signed];omega
 have aW:=Zh az;rw[az]at aB;clear hD k4 g4 k;generalize iI ts q pl (N pl) j []=R at S b n;go_wp2_with fail;refine Jg S ?_;rintro e w5 ⟨aG,v,rfl,hv⟩;have Dh:=aD.out.trans (aG.aj aD.out.size (λx hx=>⟨Jo hx,λe=>by cases e⟩));clear S aG aB d0 d1 d2 d3 d4 d5 d6;obtain⟨⟨a1,c1,s1⟩,⟨a2,c2,s2⟩,⟨oa,Kh,ox⟩,VP,aH,ag⟩:=v;obtain⟨w6,yw,k6,g6⟩:=bI w5 #[Z a1 (N s1) c1,Z a2 (N s2) c2,Z oa (N ox) Kh,Qq VP,I Qp (aH:Int),I Qp (ag:Int)] 67;have ai:=Zh (aO Dh k6);have D:=Zh (aO aR.out ai.out);simp only[bN.cells,aA.val];clear Dh;rcases R with _|⟨L,P⟩
 .obtain⟨rfl,rfl⟩:=d.out (by trivial) (by rw[b.out];rfl);clear b n hv g6 d C;obtain⟨l,m,a⟩:=i.out w6 D.out 5;have hc:=a.k6;have hf:=GB.f6 a;go_wp2;exact Jr (J2 (p:=6) (u:=7) (x:=I J 5) rfl rfl rfl m.out) rfl l.out
 obtain⟨ah,aS,aI,-,-⟩:=hv _ rfl;have G:=aI.aj k6;obtain⟨qa,qc,rfl⟩:∃qa qc,aS = Z qa (N P) qc:=by
  rcases G.own.2 with⟨h,hn⟩|⟨g,c,iw,h,_⟩
  .exact⟨Qr,0,by rw[h,hn]⟩
  .exact⟨_,_,h⟩
 have t9:=G.g.at 9;have p3:=g6.at 3;have aN:=Zh g6;have W:Qm (L.out=VP/\L.aJ=ag):=⟨congrArg dX.out ah.symm,congrArg dX.aJ ah.symm⟩;have K:=Zh G;clear k6 g6 aI G ah hv;rcases VP with _|_
 .obtain⟨rfl,rfl⟩:=d.out (by trivial) (by rw[b.out,Xi,Zk (λh=>by have:=h.1;rw[W.out.1]at this;cases this)]);clear b n d C K Ay z;obtain⟨l,m,a⟩:=i.out w6 D.out 5;have hc:=a.k6;have hf:=GB.f6 a;go_wp2;exact Jr (J2 (p:=6) (u:=7) (x:=I J 5) rfl rfl rfl m.out) rfl l.out
 by_cases hs:N P=N pl
 rotate_left
 .have tq:((N P:Int) != (j:Int)+1)=true:=by rw[bne_iff_ne];omega
  have aP:((N P:Int) != (N pl:Int))=true:=by rw[bne_iff_ne];omega
  obtain⟨rfl,rfl⟩:=d.out (by trivial) (by rw[b.out,Xi,Zk (λh=>hs h.2.1)]);clear hs b n d C K Ay z;obtain⟨l,m,a⟩:=i.out w6 D.out 5;have hc:=a.k6;have hf:=GB.f6 a;go_wp2;exact Jr (J2 (p:=6) (u:=7) (x:=I J 5) rfl rfl rfl m.out) rfl l.out
 have tq:((N P:Int) != (j:Int)+1)=false:=by rw[bne_eq_false_iff_eq];omega
 have aP:((N P:Int) != (N pl:Int))=false:=by rw[bne_eq_false_iff_eq];omega
 have W9:=abH Q (M (H Q)) ao po cap dR ts q pl Ay.out w6 P (Z qa (N P) qc) K.out ai.out X (z.out (by trivial)).2 (λhk=>by
  rw[show N pl-1=j by omega]at hk ⊢;obtain⟨h1,h2,h3,h4⟩:=n.out _ rfl hk;exact⟨(z.out (by trivial)).1 h1,h2,h3,h4⟩)
 have Px:=Zh (by rw[b.out,Xi];simp[W.out.1,hs]:nG ts q pl=if qW ts q pl=T then O L else Qr)
 clear hs n K Ay b z;generalize qW ts q pl=SB at*;go_wp2_with fail;refine mR W9 λw7 uz=>?_;clear W9 yw t9 p3;have ak:=Zh (aO D.out uz);have hw:=(aN.out.up uz).k6;clear uz;rcases SB with _|_
 .obtain⟨rfl,rfl⟩:=d.out (by trivial) (by rw[Px.out];rfl);obtain⟨l,m,a⟩:=i.out w7 ak.out 5;have hc:=a.k6;have hf:=GB.f6 a;go_wp2;exact Jr (J2 (p:=6) (u:=7) (x:=I J 5) rfl rfl rfl m.out) rfl l.out
 have av:=C.out (by trivial) L (by rw[Px.out];rfl);rw[W.out.2]at av;obtain⟨y,h1⟩:=av;subst RE;subst RC;obtain⟨l,m,a⟩:=Sv.out w7 ak.out ⟨⟨a1,c1,s1⟩,⟨a2,c2,s2⟩,⟨oa,Kh,ox⟩,T,aH,ag⟩ 0;simp only[World.oI,bN.cells,aA.val]at l m;have hc:=a.k6;have hf:=GB.f6 a;go_wp2;exact Jr (J2 (p:=6) (u:=7) (x:=I J 0) rfl rfl rfl m.out) rfl l.out
theorem TZ{w0:U}{b:Nat}{ao:LM}{cap dR:Nat}(D:OH w0 ao po ts q pl){j:Nat}(hj:j<N pl){vj:dX}(hF:ana ts q pl j vj){W:U}{seen:JK Nat}{u:Value}
  (hT:fe W b (M (H w0)) 97 3 ao po cap dR ts q pl seen u) (hW:Bw w0 W) (O4:Sn (N pl) (seen++[j])) (hsub:∀x∈fZ pl j,x∈seen) :
  Calls V 35 #[Y (O (aD b 0)),I J j] W λe W'=>∃(v:bN) (ok:Bool),e=Qu (.tuple #[.agg v.cells,Qq ok])/\v.s.xs=mG pl j/\aB (Rest b u) W W'/\∃f,fe W' b (M (H w0)) 97 3 ao po cap dR ts q pl (seen++[j]) f/\nS W u f/\∀Zq,aB (xZ (M (H w0)) (M (H W)) b f) W' Zq->v.s.At Zq:=by
 by_cases g:(E pl j nz).kind=1
 .have z:iI ts q pl (N pl) j seen=O (vj,seen++[j]):=by obtain⟨m,B⟩:∃m,N pl=m+1:=⟨N pl-1,X⟩;have a:=hF.read;rw[B]at a ⊢;rw[OJ rfl hF.plain g]at a ⊢;simp_all
  have A:vj.ah=mG pl j:=by
   have a:=hF.view;rw[DX ts q pl j rfl hF.plain g]at a;split at a
   .cases a
   .injection a with a;rw[<-a];unfold mG;rw[Zd g]
  have p:=zO w0 b ao po cap dR ts q pl D (N pl) j W seen u hj hj hT hW O4;rw[z]at p;refine p.mono ?_;rintro e W' y;obtain⟨v,rfl,C⟩:=y.out;obtain⟨G,f,a,k,n⟩:=C _ rfl;exact⟨v,T,rfl,by rw[<-A,<-show v.d=vj from G];rfl,y.fu,f,a,k,λZq L=>(n Zq L).1.1⟩
 .have st:=hF.st;have r:1<=bg (E pl j nz).kind:=by unfold bg;grind
  have t:=st.l r;have k:2<=(E pl j nz).kind:=Qj st.lo;refine(ai7 w0 b ao po cap dR ts q pl D j W seen u hj hT hW O4 hF.plain k st.hi t.1 t.2 (hsub _ (hF.l r).1)).mono ?_;rintro e W' ⟨rfl,K,f,a,n⟩;refine⟨yC,F,rfl,?_,K,f,a,n,λZq _=>⟨by simp[yC],λi P=>absurd P (by simp[yC])⟩⟩;unfold mG;rw[Zk g];rfl
def anz(h:Ch ts q pl=0):q.check ts=0/\∃v,nG ts q pl=O v:=by
 unfold Ch at h;split at h
 .rename_i hc
  refine⟨hc,?_⟩;split at h
  .rename_i hs
   exact ZJ.1 hs
  .cases h
 omega
theorem aqU(h:nG ts q pl=O v)(hw:∀i,i<N pl->mr ts q pl i=T):xX ts q pl=true:=by grind [xX]
def Ub(h:nG ts q pl=O v):N pl<=64:=by unfold nG at h;simp_all
def aeZ(hv:iP ts q pl i=O v)(hk:(E pl i nz).kind=1)(h:jK ts q v.ah=[]∨(rO pl i).kind=2/\(rO pl i).cl.xs=jK ts q v.ah):mr ts q pl i=true:=by unfold mr;simp_all
def ae0(hk:(E pl i nz).kind=2)(h:(E pl (E pl i nz).l.toNat nz).kind=1):mr ts q pl i=true:=by unfold mr;simp_all
theorem abJ(hv:iP ts q pl i=O v)(hk:3<=(E pl i nz).kind/\(E pl i nz).kind<=5)(h:(E pl i nz).cl.xs=(jK ts q v.ah).filter λc=>!decide (c∈jK ts q (mG pl (E pl i nz).l.toNat)) && !decide (c∈jK ts q (mG pl (E pl i nz).r.toNat))):mr ts q pl i=true:=by unfold mr;grind
def asA(P:Prop)(w:U)(e:Ending)(w':U):Prop:=∃B,e=Qu (Qq B)/\(B=T->P)/\Bw w w'
def anA(h:fH w po pl)(i:Nat):(rO pl i).cl.At w:=by
 unfold rO
 cases hf:(pl.drop (i+1)).find? (wQ i) with
 |none=>exact⟨by simp[nz],λi b=>absurd b (by simp[nz])⟩
 |some x =>
  obtain⟨k,a,rfl⟩:=JO.1 (List.mem_of_mem_drop (List.mem_of_find?_eq_some hf));obtain⟨_,_,_,_,_,_,_,_,_,_,d,_⟩:=h.2 k a;simp_all
theorem abK(hk:6<=(E pl i nz).kind):mr ts q pl i=true:=by
 unfold mr;have a2:¬bg (E pl i nz).kind=2:=by unfold bg;grind
 grind
def anB(ao po:LM)(cap dR:Nat)(ts:JK af)(q:ae)(pl:JK ay)(w:U)(hx:aZ w ao ts)(hq:q.At w)(hn:fH w po pl) :
  Calls V 18 #[Z ao (N ts) cap,.agg q.cells,Z po (N pl) dR] w (asA (q.check ts=0/\xX ts q pl=T) w):=by
 obtain⟨w1,dB,bL,bG⟩:=bI w q.cells 35;have dm:=IE ao po cap dR ts q pl w1 (hx.aj bL) (hq.aj bL) (fH.aj bL hn);have HC:Qm (Ch ts q pl=0->(q.check ts=0/\Chk ts q/\N pl<=64/\OH w ao po ts q pl)/\((∀i,i<N pl->mr ts q pl i=T)->xX ts q pl=T)/\∀i,i<N pl->∃v,ana ts q pl i v):=λh=>by obtain⟨h1,v,h2⟩:=anz h;have h3:=(sS h1).1;exact⟨⟨h1,h3,Ub h2,hx,hq,hn,h3,Ub h2⟩,λhw=>aqU h2 hw,λi hi=>ai5 h2 hi⟩
 have Lm:=Zh λ(Q:Chk ts q) (x:U) (so:LM) (sc:Nat) (ss:IC) (hb:Bw w x) (iA:aP x so ss)=>am7 ao so cap sc ts q ss x (hx.aj hb) Q (hq.aj hb) iA;have gG:=Zh λ(x:U) (i:Nat) (hb:Bw w x) (hi:i<N pl) (V3:N pl<=64)=>ai3 po dR pl i x (fH.aj hb hn) hi V3;have gH:=Zh λi=>anA hn i;obtain⟨HG,HB,HN⟩:=lX bG bL hn;generalize Ch ts q pl=Eq,Ci ts q pl=C at*;clear hx hq hn;simp only[ae.cells,aA.val]at*;obtain⟨q0,q1,q2,q3,q4,q5,q6⟩:=bG.k7;clear bG bL;go_enter func18,ntmps18;go_wp2_with fail;refine dm.mono ?_;clear dm dB q0 q1 q2 q3 q4 q5 q6;rintro e w2 ⟨⟨⟨a1,c1,s1⟩,⟨a2,c2,s2⟩,⟨a3,c3,s3⟩,vo,vs,vc⟩,rfl,-,eu⟩;simp only[bN.cells,aA.val];obtain⟨w3,gM,eB,-⟩:=bI w2 #[Z a1 (N s1) c1,Z a2 (N s2) c2,Z a3 (N s3) c3,Qq vo,I Qp (vs:Int),I Qp (vc:Int)] 67;have ai:=Zh (aO eu eB);have zY:=Zh (aO HB.o ai.o);clear eu eB;by_cases hE:Eq=0
 rotate_left
 .have iE:(Eq != 0)=true:=by rw[bne_iff_ne];exact hE
  go_wp2;go_ret;exact⟨F,rfl,(λh=>by cases h),zY.o⟩
 subst hE;obtain⟨⟨eF,Rf,V3,hD⟩,bu,aG⟩:=HC.o rfl;obtain⟨gN,HD,ru,bJ,Lm⟩:=Wu eF hD bu aG (Lm.o Rf);have Sd:Qm (∀s,N (jK ts q s)<=8):=λs=>ZU (OG ts q s (N q.wh)) Rf.ko;clear eF Rf hD bu aG HC;go_wp2;clear gM;go_loopw [9] (λiv wr=>∃i:Nat,i<=N pl/\iv=I J i/\Qm (∀j,j<i->mr ts q pl j=T)/\Bw w3 wr) (λiv _=>N pl-(intOf iv).toNat)
 case atStart=>exact⟨0,ZR _,rfl,(λj hj=>absurd hj X),Za _ _⟩
 case round=>
  obtain⟨i,hi,rfl,HW,eD⟩:=hrel;have ax:=Zh (aO zY.o eD);by_cases aT:i<N pl
  rotate_left
  .have e:i=N pl:=X
   have HE:Qm (xX ts q pl=T):=ru.o (λj hj=>HW.o j X);go_wp2;go_ret;exact⟨T,rfl,λ_=>⟨gN.o,HE.o⟩,ax.o⟩
  obtain⟨pb,aU,rfl,c0,c1,c2,c3,c4,c5,c6,iX,-⟩:=HN.o.2 i aT;obtain⟨d0,d1,d2,d3,d4⟩:=qi ax.o c0 c1 c2 c3 c4;obtain⟨d5,d6⟩:=kP ax.o c5 c6;have Ad:=Zh iX;clear c0 c1 c2 c3 c4 c5 c6 iX;obtain⟨v,hF⟩:=bJ.o i aT;have R:=Zh hF;have Am:=Zh λ(h:mr ts q pl i=T) (j:Nat) (hj:j<i+1)=>show mr ts q pl j=T from if e:j=i then e ▸ h else HW.o j X;obtain⟨q0,q1,q2,q3,q4,q5,q6⟩:=(HG.o.of ((aO ai.o eD).block _ HG.o.lt)).k7;obtain⟨n,hn⟩:=eX (E pl i nz);rw[hn]at d0 d1 d2 d3 d4 d5 d6 Ad;have zI:=Zh hn;clear hF hn;obtain⟨kind,nl,nr,source,⟨KL,KM,uD⟩,key,⟨E5,E8,uJ⟩⟩:=n;simp only[aA.val]at d0 d1 d2 d3 d4 d5 d6 Ad;obtain⟨P,sK,W,bK⟩:=bI wr #[I J kind,I J nl,I J nr,I J source,Z KL (N uD) KM,I J key,Z E5 (N uJ) E8] 43;obtain⟨r0,r1,r2,r3,r4,r5,r6⟩:=(HG.o.of ((aO (aO ai.o eD) W).block _ HG.o.lt)).k7;obtain⟨x2,gP,aH,bM⟩:=bI P #[Z ao (N ts) cap,Z q.au.ad (N q.au.xs) q.au.cap,Z q.iF (N q.wh) q.cZ,Qq q.aF,Z q.aC.ad (N q.aC.xs) q.aC.cap,Z q.aM.ad (N q.aM.xs) q.aM.cap,Z q.bA.ad (N q.bA.xs) q.bA.cap,Z q.ord.ad (N q.ord.xs) q.ord.cap,Z (O (aD pb aU)) (N pl) dR,Z Qr 0 0] 97;have A:=Zh (aO (aO ax.o W) aH);have bz:=zO w (M (H P)) ao (O (aD pb aU)) cap dR ts q pl HD.o (N pl) i x2 [] (Z Qr 0 0) aT aT ⟨bM,XC _ _ _ _,Qk ax.o.size W.size⟩ A.o (Sn.one aT);rw[R.o.read]at bz;obtain⟨aI,HY,HS⟩:=lX (bK.up aH) (aO (aO eD W) aH) (JM W.size (JM aH.size (JM ai.o.size (JM HB.o.size eD.size))));have iC:M (H wr)<M (H P):=bK.lt;have iD:M (H P)<M (H x2):=bM.lt;clear W aH bK bM;go_wp2_with fail;refine Jg bz ?_;clear bz sK gP d0 d1 d2 d3 d4 d5 d6 q0 q1 q2 q3 q4 q5 q6 r0 r1 r2 r3 r4 r5 r6;rintro e t bO;obtain⟨⟨⟨va,aJ,vx⟩,⟨ga,gc,gx⟩,⟨fa,fc,fx⟩,VP,bP,bQ⟩,rfl,hv⟩:=bO.out;obtain⟨eG,u,eH,eO,bR⟩:=hv _ rfl;have dn:Qm (v.ah=vx):=congrArg dX.ah eG.symm;simp only[bN.cells,aA.val];obtain⟨x4,iL,L,bS⟩:=bI t #[Z va (N vx) aJ,Z ga (N gx) gc,Z fa (N fx) fc,Qq VP,I Qp (bP:Int),I Qp (bQ:Int)] 67;have S:aB (λb=>b≠M (H P)) x2 t:=bO.fu.mono λb _ hb=>⟨hb,λe=>by cases e⟩
  have dw:=Zh (HY.o.trans (S.aj HY.o.size λb hb=>Qj HS.o));have qO:Qm (Bw w3 x4):=aO dw.o L;obtain⟨VF,bT,bU,bV⟩:=De (aO zY.o qO.o) (HG.o.of ((aO ai.o qO.o).block _ HG.o.lt)) ((aI.o.of (S.block _ aI.o.lt X)).of (L.block _ (GB.lt (aI.o.of (S.block _ aI.o.lt X))))) bS;have dx:Qm (aP x4 va vx):=(bR x4 (Xk L λ_ h _=>h)).1.1;obtain⟨bW,eP⟩:=bH (eH.aj L) bR;have gI:Qm (M (H x2)<=M (H x4)):=ZU S.size L.size;have dz:Qm (∀g,u.ownBlock=O g->M (H x2)<=g):=λg hg=>(eO g hg).resolve_left λe=>by cases e
  have dA:Qm (aB (xZ (M (H w)) (M (H x2)) (M (H P)) u) t x4):=Xl L;have VZ:Qm (M (H x2)<=M (H t)/\M (H t)<M (H x4)):=⟨S.size,bS.lt⟩;clear bO hv eG eH bR bS L S HY dw aI A eO;obtain⟨q0,q1,q2,q3,q4,q5,q6⟩:=bT.o.k7;obtain⟨m0,m1,m2,m3,m4,m5,m6⟩:=bU.o.k7;obtain⟨v0,v1,v2,v3,v4,v5⟩:=bV.o.k6;by_cases k1:kind=1
  .subst k1;have dC:=Lm.o x4 va aJ vx VF.o dx.o;have B:=Zh λh=>aeZ R.o.view (by rw[zI.o]) h
   rw[dn.o]at B;have iG:=Sd.o vx;generalize jK ts q vx=LN at*;go_wp2_with fail;refine dC.mono ?_;clear dC;rintro e x5 ⟨ov,rfl,ho,aV⟩;obtain⟨oa,oc,rfl,aK⟩:=X9 ho X;have bB:=gG.o x5 i (aO VF.o aV) aT V3;have bC:=Zc (aO VF.o aV) (gH.o i);obtain⟨qd,eQ⟩:=bH (aO qO.o aV) aK;generalize rO pl i=AB at*;obtain⟨ak,al,ar,gT,⟨eT,acc,aW⟩,gU,⟨gV,gW,gX⟩⟩:=AB;simp only[ay.cells,aA.val]at bB bC B;clear ho aV aK q0 q1 q2 q3 q4 q5 q6 m0 m1 m2 m3 m4 m5 m6 v0 v1 v2 v3 v4 v5;go_wp2_with fail;refine mR bB λx6 bf=>?_;clear bB;obtain⟨x7,iM,uz,eU⟩:=bI x6 #[I J ak,I J al,I J ar,I J gT,Z eT (N aW) acc,I J gU,Z gV (N gX) gW] 43;have bD:=Zh (aO (aO qd.o bf) uz);have D:=TP eT oa acc oc aW LN x7 (Zc (aO bf uz) bC) (Zc (aO bf uz) eQ.o);obtain⟨p0,p1,p2,p3,p4,p5,p6⟩:=eU.k7;clear bf uz eU bC eQ qd;by_cases iB:N LN=0
   .have HX:=Zh (Am.o (B.o (.inl (Ju.1 iB))));have F9:¬(0:Int)<(N LN:Int):=X
    clear D Am B;refine gQ ?_;exact⟨i+1,X,Qe,HX.o,bD.o⟩
   have F9:(0:Int)<(N LN:Int):=X;by_cases jf:ak=2
   rotate_left
   .have gJ:(ak != 2)=true:=by rw[bne_iff_ne];exact jf
    clear D Am B;go_wp2;go_ret;exact⟨F,rfl,(λh=>by cases h),aO zY.o bD.o⟩
   subst jf;have HX:=Zh λ(h:aW=LN)=>Am.o (B.o (.inr ⟨rfl,h⟩));clear Am B;go_wp2_with fail;refine mR D λx8 EZ=>?_;clear D;have az:=Zh (aO bD.o EZ);clear EZ;by_cases he:aW=LN
   .rw[Zl he];have HX:=Zh (HX.o he);refine gQ ?_;exact⟨i+1,X,Qe,HX.o,az.o⟩
   .rw[ZK he];go_wp2;go_ret;exact⟨F,rfl,(λh=>by cases h),aO zY.o az.o⟩
  by_cases k2:kind=2
  .subst k2;have hl:=R.o.st.l;rw[zI.o]at hl;have hl:=hl (show 1<=bg 2 by decide);simp only at hl;obtain⟨nn,rfl⟩:∃nn:Nat,nl=nn:=⟨nl.toNat,X⟩
   obtain⟨iN,iO,bX,e0,-⟩:=HN.o.2 nn X;injection bX with bX;injection bX with aHi aHj;subst aHi aHj;have e0:=cB VF.o e0;have A:=Zh λh=>ae0 (ts:=ts) (q:=q) (pl:=pl) (i:=i) (by rw[zI.o]) h;rw[zI.o,XY]at A;generalize (E pl nn nz).kind=LK at*;by_cases Q:LK=1
   .have HX:=Zh (Am.o (A.o Q));subst Q;clear Am A;refine gQ ?_;exact⟨i+1,X,Qe,HX.o,qO.o⟩
   .have gJ:(LK != 1)=true:=by rw[bne_iff_ne];exact Q
    clear Am A;go_wp2;go_ret;exact⟨F,rfl,(λh=>by cases h),VF.o⟩
  have b1:(kind==1)=false:=by simpa using k1
  have b2:(kind==2)=false:=by simpa using k2
  by_cases bn:3<=kind/\kind<=5
  rotate_left
  .have Aw:=R.o.st.lo;rw[zI.o]at Aw;have HX:=Zh (Am.o (abK (by rw[zI.o];simp only at Aw ⊢;omega)));have b3:(kind==3)=false:=Qi
   have b4:(kind==4)=false:=Qi;have b5:(kind==5)=false:=Qi;clear Am Aw bn k1 k2;refine gQ ?_;exact⟨i+1,X,Qe,HX.o,qO.o⟩
  have hl:=R.o.st.l;have hr:=R.o.st.r;have G:=R.o.l;have K:=R.o.r;have a2:bg kind=2:=by unfold bg;rw[Zk X,Zd bn]
  rw[zI.o]at hl hr G K;simp only[a2]at hl hr G K;have hl:=hl X;have hr:=hr X;have G:=G X;have K:=K trivial;obtain⟨z,rfl⟩:∃nn:Nat,nl=nn:=⟨nl.toNat,X⟩;obtain⟨rn,rfl⟩:∃nn:Nat,nr=nn:=⟨nr.toNat,X⟩;rw[XY]at G K;obtain⟨vl,aS⟩:=bJ.o z X;obtain⟨vr,Lj⟩:=bJ.o rn X;have aQ:=Zh λh=>abJ R.o.view (by rw[zI.o];exact bn) h;rw[zI.o,dn.o]at aQ;simp only[XY]at aQ;have dD:Sn (N pl) (fZ pl i++[z]):=⟨fZ pl i,R.o.nd,λx hx=>⟨Qj (R.o.le x hx),J3 _ hx⟩,Qa⟩;have dE:Sn (N pl) (fZ pl i++[z]++[rn]):=⟨fZ pl i,R.o.nd,λx hx=>⟨Qj (R.o.le x hx),J3 _ (J3 _ hx)⟩,Qa⟩;have dF:=TZ HD.o X aS bW.o VF.o dD G.2;have dG:=Zh λ(d:U) (u':Value) (hT:fe d (M (H P)) (M (H w)) 97 3 ao (O (aD pb aU)) cap dR ts q pl (fZ pl i++[z]) u') (hW:Bw w d)=>TZ HD.o X Lj hT hW dE λx hx=>J3 _ (K.2 x hx);clear hl hr G K aS Lj dD dE;have bE:=Zh λ(d X':U) (u1 u2:Value) (s1 s2:JK Nat) (hT:fe d (M (H P)) (M (H w)) 97 3 ao (O (aD pb aU)) cap dR ts q pl s1 u1) (hs:(∀g,u1.ownBlock=O g->M (H x2)<=g/\(u.ownBlock=O g∨M (H t)<=g))/\M (H t)<=M (H d)) (hb:Bw w3 d) (hg:GB d (M (H w)) 35 #[Z q.au.ad (N q.au.xs) q.au.cap,Z q.iF (N q.wh) q.cZ,Qq q.aF,Z q.aC.ad (N q.aC.xs) q.aC.cap,Z q.aM.ad (N q.aM.xs) q.aM.cap,Z q.bA.ad (N q.bA.xs) q.bA.cap,Z q.ord.ad (N q.ord.xs) q.ord.cap]) (hz:GB d (M (H wr)) 43 #[I J kind,I J (z:Int),I J (rn:Int),I J source,Z KL (N uD) KM,I J key,Z E5 (N uJ) E8]) (hv:GB d (M (H t)) 67 #[Z va (N vx) aJ,Z ga (N gx) gc,Z fa (N fx) fc,Qq VP,I Qp (bP:Int),I Qp (bQ:Int)]) (hm:aB (xZ (M (H w)) (M (H x2)) (M (H P)) u) t d) (Q:aB (Rest (M (H P)) u1) d X') (hn:nS d u1 u2)=>
   show ((∀g,u2.ownBlock=O g->M (H x2)<=g/\(u.ownBlock=O g∨M (H t)<=g))/\M (H t)<=M (H X'))/\Bw w3 X'/\GB X' (M (H w)) 35 #[Z q.au.ad (N q.au.xs) q.au.cap,Z q.iF (N q.wh) q.cZ,Qq q.aF,Z q.aC.ad (N q.aC.xs) q.aC.cap,Z q.aM.ad (N q.aM.xs) q.aM.cap,Z q.bA.ad (N q.bA.xs) q.bA.cap,Z q.ord.ad (N q.ord.xs) q.ord.cap]/\GB X' (M (H wr)) 43 #[I J kind,I J (z:Int),I J (rn:Int),I J source,Z KL (N uD) KM,I J key,Z E5 (N uJ) E8]/\GB X' (M (H t)) 67 #[Z va (N vx) aJ,Z ga (N gx) gc,Z fa (N fx) fc,Qq VP,I Qp (bP:Int),I Qp (bQ:Int)]/\aB (xZ (M (H w)) (M (H x2)) (M (H P)) u) t X' by
    have hS:=HS.o;have hL:=VZ.o;have dB:=HG.o.lt;refine⟨⟨λg hg=>?_,ZU hs.2 Q.size⟩,hb.trans (Q.aj hb.size λx hx=>⟨X,λe=>Qj ((hs.1 x e).1)⟩),hg.of (Q.block _ hg.lt ⟨X,vO hT hg Qc⟩),hz.of (Q.block _ hz.lt ⟨X,vO hT hz Qc⟩),hv.of (Q.block _ hv.lt ⟨X,vO hT hv Qc⟩),hm.dL Q λx hx hy=>⟨hy.2.1,λe=>?_⟩⟩
    .rcases hn g hg with h|h
     .exact hs.1 g h
     omega
    .rcases (hs.1 x e).2 with h|h
     .exact hy.2.2 h
     .omega
  have b3:(kind==3)=T∨(kind==3)=F/\(kind==4)=T∨(kind==3)=F/\(kind==4)=F/\(kind==5)=true:=Qi;clear bn k1 k2 a2;rcases b3 with b3|⟨b3,b4⟩|⟨b3,b4,b5⟩
  all_goals
   go_wp2_with fail;refine dF.mono ?_;clear dF q0 q1 q2 q3 q4 q5 q6 m0 m1 m2 m3 m4 m5 m6 v0 v1 v2 v3 v4 v5;rintro e x5 ⟨⟨⟨la,lc,lx⟩,⟨Wi,Wj,tK⟩,⟨KO,eY,DK⟩,uS,Wl,Wm⟩,iP,rfl,eZ,kC,u5,bY,fo,bZ⟩;simp only at eZ;subst eZ;simp only[bN.cells,aA.val]at bZ ⊢;obtain⟨cu,cz,fq,cK,fw,fA⟩:=bE.o x4 x5 u u5 _ (fZ pl i++[z]) bW.o ⟨λg hg=>⟨dz.o g hg,.inl hg⟩,Qj VZ.o⟩ qO.o bT.o bU.o bV.o dA.o kC fo;obtain⟨x6,gY,a,fB⟩:=bI x5 #[Z la (N (mG pl z)) lc,Z Wi (N tK) Wj,Z KO (N DK) eY,Qq uS,I Qp (Wl:Int),I Qp (Wm:Int)] 67;have dH:=dG.o x6 u5 (bY.aj a) (aO zY.o (aO cz a));obtain⟨m0,m1,m2,m3,m4,m5,m6⟩:=(cK.up a).k7;have bF:=Zh (bY.aj a);have dI:Qm ((∀g,u5.ownBlock=O g->M (H x2)<=g/\(u.ownBlock=O g∨M (H t)<=g))/\M (H t)<=M (H x6)):=⟨cu.1,ZU cu.2 a.size⟩;obtain⟨yu,fC,fD,fE⟩:=De (aO cz a) (fq.up a) (cK.up a) (fw.up a);have dJ:Qm (aB (xZ (M (H w)) (M (H x2)) (M (H P)) u) t x6):=fA.trans (Xk a λ_ h _=>h);have aR:=Zh fB;have dK:=Zh λ(Zq:U) (hZ:aB (Rest (M (H P)) u5) x6 Zq)=>bZ Zq ((Xk (s:=xZ (M (H w)) (M (H x4)) (M (H P)) u5) a λ_ h _=>h).dL hZ λx _ hx=>hx.2);have dM:Qm (M (H x4)<=M (H x5)):=kC.size;clear kC bY fo bZ cu cz fq cK fw fA a fB;go_wp2_with fail;refine dH.mono ?_;clear dH m0 m1 m2 m3 m4 m5 m6 dG gY;rintro e x7 ⟨⟨⟨ra,rc,rx⟩,⟨Ri,gZ,ui⟩,⟨Pd,Pe,LD⟩,sV,Rj,Rk⟩,iQ,rfl,fF,KZ,u7,ib,fG,cO⟩;simp only at fF;subst fF;simp only[bN.cells,aA.val]at cO ⊢;obtain⟨-,fI,fJ,fK,fM,fO⟩:=bE.o x6 x7 u5 u7 _ (fZ pl i++[z]++[rn]) bF.o dI.o yu.o fC.o fD.o fE.o dJ.o KZ fG;obtain⟨x8,ic,m,fP⟩:=bI x7 #[Z ra (N (mG pl rn)) rc,Z Ri (N ui) gZ,Z Pd (N LD) Pe,Qq sV,I Qp (Rj:Int),I Qp (Rk:Int)] 67;have az:=Zh (aO fI m);obtain⟨aX,Wn,ig,ik,il⟩:=Wu (aO zY.o az.o) (fJ.up m) (fK.up m) (fM.up m) fP;have gK:Qm (GB x8 (M (H x5)) 67 #[Z la (N (mG pl z)) lc,Z Wi (N tK) Wj,Z KO (N DK) eY,Qq uS,I Qp (Wl:Int),I Qp (Wm:Int)]):=by have h7:=aR.o.of (KZ.block _ aR.o.lt ⟨Qk VZ.o dM.o,vO bF.o aR.o Qc⟩);exact h7.up m
   have dN:Qm (aP x8 va vx):=(eP.o x8 (fO.trans (Xk m λ_ h _=>h))).1.1;have dO:Qm (aP x8 la (mG pl z)):=dK.o x8 (KZ.trans (Xk m λ_ h _=>h));have dP:Qm (aP x8 ra (mG pl rn)):=cO x8 (Xk m λ_ h _=>h);clear KZ ib fG cO fI fJ fK fM fO m fP bF dI yu fC fD fE dJ aR dK bE bW dz dA VZ eP dx bV bU bT VF qO dM gI;have iH:=Sd.o (mG pl z);have iI:=Sd.o (mG pl rn);have iJ:=Sd.o vx;have dQ:=Lm.o x8 la lc (mG pl z) aX.o dO.o;have dS:=Zh λ(d:U) (hX:Bw x8 d)=>Lm.o d ra rc (mG pl rn) (aO aX.o hX) (Zc hX dP.o);have VZ:=Zh λ(d:U) (hX:Bw x8 d)=>Lm.o d va aJ vx (aO aX.o hX) (Zc hX dN.o);have gL:Qm (uD=(jK ts q vx).filter (λc=>!decide (c∈jK ts q (mG pl z)) && !decide (c∈jK ts q (mG pl rn)))->∀j,j<i+1->mr ts q pl j=T):=λh=>Am.o (aQ.o h);clear Am aQ dN dO dP;generalize jK ts q (mG pl z)=LA,jK ts q (mG pl rn)=LB,jK ts q vx=LV,N (mG pl z)=sl,N (mG pl rn)=sr at*;obtain⟨q0,q1,q2,q3,q4,q5,q6⟩:=Wn.o.k7;have l0:=gK.o.at 0;go_wp2_with fail;refine dQ.mono ?_;clear dQ q0 q1 q2 q3 q4 q5 q6 l0 ic;rintro e x9 ⟨av,rfl,fQ,aL⟩;obtain⟨aa,ac,rfl,fT⟩:=X9 fQ X;have dU:=dS.o x9 aL;obtain⟨q0,q1,q2,q3,q4,q5,q6⟩:=(Wn.o.up aL).k7;have r0:=(il.o.up aL).at 0;obtain⟨aN,fU⟩:=bH fT aL;clear fQ fT aL;go_wp2_with fail;refine dU.mono ?_;clear dU q0 q1 q2 q3 q4 q5 q6 r0;rintro e iq ⟨bv,rfl,fV,Rm⟩;obtain⟨ba,bc,rfl,gm⟩:=X9 fV X;have UD:=aO fU.o Rm;have dV:=VZ.o iq UD;obtain⟨q0,q1,q2,q3,q4,q5,q6⟩:=(Wn.o.up UD).k7;have v0:=(ik.o.up UD).at 0;obtain⟨aN,df,gp⟩:=lX (Zc Rm aN.o) gm UD;clear fV gm Rm UD fU;go_wp2_with fail;refine dV.mono ?_;clear dV q0 q1 q2 q3 q4 q5 q6 v0;rintro e dh ⟨cv,rfl,gq,aY⟩;obtain⟨ca,cc,rfl,gu⟩:=X9 gq X;obtain⟨aN,df,iw,iy⟩:=De (Zc aY aN.o) (Zc aY df.o) gu (aO gp.o aY);clear gq gu aY gp dS VZ;go_wp2;go_loopw [23,24] (λov kv d=>∃k:Nat,k<=N LV/\kv=I J k/\Qm (d.ownsRow (M (H dh)) 3 1 ov (N ((LV.take k).filter λc=>!decide (c∈LA) && !decide (c∈LB))) (((LV.take k).filter λc=>!decide (c∈LA) && !decide (c∈LB)).map (Value.int J)))/\Bw dh d) (λ_ kv _=>N LV-(intOf kv).toNat)
   case atStart=>exact⟨0,ZR _,rfl,XC _ _ _ _,Za _ _⟩
   case round=>
    obtain⟨k,Q,rfl,HO,p⟩:=hrel;by_cases bq:k<N LV
    .obtain⟨cb,cof,rfl,gy⟩:=Q4 iw.o bq;have ck:=cB p (gy k bq);have GM:=λd=>oh aa ac LA (E LV k 0) d
     have dW:=λd=>oh ba bc LB (E LV k 0) d;have Lh:Qm (LV.take (k+1)=LV.take k++[E LV k 0]):=by show _=_;rw[Q5 bq];simp[List.getD,bq]
     have aS:N ((LV.take k).filter λc=>!decide (c∈LA) && !decide (c∈LB))<=8:=ZU (List.length_filter_le _ _) (by rw[Jb];omega);generalize E LV k 0=y at*;have dY:=GM wr (Zc p aN.o);have dZ:=dW wr (Zc p df.o);have f:Qm (((LV.take (k+1)).filter λc=>!decide (c∈LA) && !decide (c∈LB))=((LV.take k).filter λc=>!decide (c∈LA) && !decide (c∈LB))++(if (!decide (y∈LA) && !decide (y∈LB))=T then [y] else [])):=by show _=_;rw[Lh.o,List.filter_append,List.filter_cons];split <;> simp_all
     generalize gD:decide (y∈LA)=PA at*;generalize gF:decide (y∈LB)=PB at*;generalize ((LV.take k).filter λc=>!decide (c∈LA) && !decide (c∈LB))=FK at*;obtain⟨ag,di⟩:=eX (((LV.take (k+1)).filter λc=>!decide (c∈LA) && !decide (c∈LB)));have ed:=Zh di;rw[di]at f;clear di;have iK:=Zh (JM gD gF);clear gD gF GM dW gy Lh;go_wp2_with fail;refine dY.mono ?_;clear dY;rintro e X1 ⟨rfl,rfl⟩;go_wp2_with fail;refine dZ.mono ?_;clear dZ;rintro e X2 ⟨rfl,rfl⟩;cases PA
     rotate_left
     case' true=>
      have f:Qm (ag=FK):=show ag=FK by simpa using f.o
     case' false=>
      cases PB
      rotate_left
     case' false.true=>
      have f:Qm (ag=FK):=show ag=FK by simpa using f.o
     case' false.false=>
      have f:Qm (ag=FK++[y]):=show ag=FK++[y] by simpa using f.o
      obtain⟨gz,gB,rfl,-⟩:=X9 HO.o X;obtain⟨v',w5,sF,mW,kC,⟨ua,um,uc,rfl⟩,-⟩:=pK X2 (M (H dh)) (Z gz (N FK) gB) FK HO.o X p.size y 26;have qd:=Zh (p.trans (kC.aj p.size (λb hb e=>Qj ((Xy HO.o e).1))));have zW:Qm _:=mW;rw[<-f.o]at zW;clear mW kC HO f;go_wp2_with (first|(at_builtin;refine XJ rfl (.tmp 151) (.tmp 156) 26 rfl (Z gz (N FK) gB) (Z (O (aD (M (H X2)) 0)) 1 1) (Z ua um uc) w5 rfl rfl sF ?_));clear sF
     all_goals
      go_wp2;go_roundw
      case rel=>first|exact⟨k+1,X,Qe,by rw[ed.o];exact zW.o,qd.o⟩|exact⟨k+1,X,Qe,by rw[ed.o,f.o];exact HO.o,p⟩
      case measure=>exact XK
    .have e:k=N LV:=X
     have O6:Qm _:=HO.o;rw[e,Z0]at O6;clear HO e Q;have aS:N (LV.filter λc=>!decide (c∈LA) && !decide (c∈LB))<=8:=ZU (List.length_filter_le _ _) X;generalize (LV.filter λc=>!decide (c∈LA) && !decide (c∈LB))=FV at*;obtain⟨oa,oc,rfl,aK⟩:=X9 O6.o X;have hc:=aO iy.o p;have D:=TP KL oa KM oc uD FV wr (Zc (aO aX.o hc) Ad.o) aK;obtain⟨m0,m1,m2,m3,m4,m5,m6⟩:=(ig.o.up hc).k7;have Li:=Zh (aO az.o hc);clear aK hc O6;go_wp2_with fail;refine mR D λy2 EZ=>?_;clear D m0 m1 m2 m3 m4 m5 m6;have ek:=Zh (aO Li.o EZ);clear EZ;by_cases he:uD=FV
     .rw[Zl he];have HX:=Zh (gL.o he);refine gQ ?_;exact⟨i+1,X,Qe,HX.o,ek.o⟩
     .rw[ZK he];go_wp2;go_ret;exact⟨F,rfl,(λh=>by cases h),aO zY.o ek.o⟩
