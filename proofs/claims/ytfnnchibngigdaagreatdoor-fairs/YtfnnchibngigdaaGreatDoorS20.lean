import Derived.Test.YtfnnchibngigdaaGreatDoorS10
import Derived.Test.YtfnnchibngigdaaGreatDoorS18
import Derived.Test.YtfnnchibngigdaaGreatDoorS19
set_option linter.all false
set_option maxRecDepth 100000
set_option maxHeartbeats 0
namespace Go.Proofs.Zz
open Go.RowKit Go.Shelf Go.Proofs.Tryz
open List renaming length->N,getD->E
open Go.Value renaming slice->Z,int->I,pointer->Y,bool->Qo,agg->Qr,tuple->Qt
open Go.Proofs.Tryz renaming prog->V
open Option renaming some->O,none->Qp
open Go.IntKind renaming i64->J,u64->Qn
open Bool renaming false->F,true->T
open Go renaming World->U
open Go.World renaming heap->H,cell?->Qm
open _root_.Array renaming size->M
open Go.RowKit renaming Hid->Qk
open Go.Ending renaming returned->Qs
variable {q q':ae} {ns pl:Qu ag} {l:KJ}
def Ic{ts:Qu af}{v:bn}{s:Qu Nat}(h1:1<=N pl)(h:bX ts q pl (N pl) (N pl-1) []=O (v,s)){n:ag}(hn:E pl (N pl-1) nz=n)(hk:n.kind=9) :
  q.group=F/\0<=n.l/\n.l<(N pl:Int)/\∃u y,bX ts q pl (N pl) n.l.toNat []=O (u,y)/\cO ts q pl n.l.toNat=O u:=by
 obtain⟨m,k⟩:∃m,N pl=m+1:=⟨N pl-1,X⟩;have b:bI n=true:=by
  cases b:bI n with
  |true=>rfl
  |false =>
   rw[k]at h;rw[yL Qg (.inl b)]at h;cases h
 have e:m+1-1=m:=Nat.add_sub_cancel m 1;rw[k,e]at h hn;rw[rW hn b X X X]at h;unfold fG at h;split at h
 .cases h
 rename_i hb;have d:0<=n.l/\n.l<(m:Int):=X
 cases hr:bX ts q pl m n.l.toNat ([]++[m]) with
 |none=>simp_all
 |some x =>
  obtain⟨l,r⟩:=x;rw[hr]at h;simp only[Z5]at h;obtain⟨t,_,j,_⟩:=oQ ts q pl m n.l.toNat ([]++[m]) l r Qi hr;have f:n.l.toNat<m:=X;have a:fJ ts q pl (N pl) n.l.toNat=O l:=by rw[lL ts q pl (N pl) m n.l.toNat X f];exact t
  have p:q.group=false:=by
   cases hnv:fA ts q n l vz with
   |none=>simp_all
   |some v' =>
    rw[fO]at hnv;split at hnv
    .rename_i ho
     unfold fC at ho;simp only[Q3]at ho;have g:=ho.2;unfold qh at g;simp_all
    .cases hnv
  have i:=nY ts q pl (N pl) n.l.toNat [] l a j Qb;refine⟨p,d.1,X,l,_,i,?_⟩;rw[<-jU ts q pl (show n.l.toNat<N pl by omega)];exact a
section
def DI{k:Nat}(hk:k<N l)(h:E l k 0≠(k:Int)):dV l=false:=by unfold dV;rw[List.all_eq_false];exact⟨k,ZY.2 hk,by simp only[Zd];exact h⟩
def BC(h:∀k,k<N l->E l k 0=(k:Int)):dV l=true:=by unfold dV;rw[Q4];exact λk a=>Zg (h k (ZY.1 a))
def Ij(q:ae){k:Nat}(hk:k<N q.ord.xs):(ik q).take (k+1)=(ik q).take k++[E q.ay.xs (E q.ord.xs k 0).toNat 0]:=by
 have a:k<N (ik q):=by unfold ik;rw[ZR];exact hk
 rw[QZ a];congr 2;unfold ik;simp[List.getD,hk]
variable (w0:U) (b:Nat) (ao po:JW) (cap aU:Nat) (ts:Qu af) (q:ae) (pl:Qu ag)
def DJ(D:EH w0 ao po ts q pl)(W:U)(seen:Qu Nat)(sv:Value)(hT:bJ W b (M (H w0)) 69 3 ao po cap aU ts q pl seen sv)(hW:Bw w0 W)(h1:1<=N pl)(jP:N q.ord.xs<=4)
  (h9:(E pl (N pl-1) nz).kind=9->aP q.ord.xs (N q.ay.xs)=T/\0<=(E pl (N pl-1) nz).l/\(E pl (N pl-1) nz).l<(N pl:Int)/\∃u s',bX ts q pl (N pl) (E pl (N pl-1) nz).l.toNat []=O (u,s')/\cO ts q pl (E pl (N pl-1) nz).l.toNat=O u) :
  Cb 16 #[Y (O (aD b 0))] W (Qo (il ts q pl)):=by
 obtain⟨N1,bC⟩:∃N1,N pl=N1+1:=⟨N pl-1,X⟩;have eN:N pl-1=N1:=X;rw[eN]at h9;have bO:=D.plan.1;have aZ:Qk (IntKind.i64.wrap (N1:Int)=(N1:Int)):=by show _=_;simp[IntKind.wrap,IntKind.bits,IntKind.signed];omega
 obtain⟨nb,no,bD,m0,m1,m2,m3,m4,m5,m6,-,-⟩:=(XA hW D.plan).2 N1 X;have qZ:Qk (∀(b':Nat) (f:Nat),VC w0 b' ao po cap aU ts q pl f):=λb' f=>vW w0 b' ao po cap aU ts q pl D f;have aj:Qk (q.At W):=D.query.below hW;subst bD;obtain⟨n,hn⟩:=eX (E pl N1 nz);rw[hn]at m0 m1 m2 m3 m4 m5 m6 h9;have BV:Qk (il ts q pl=if (N q.ord.xs)=0∨n.kind=10 then T else if n.kind=9 then aM ((cO ts q pl n.l.toNat).getD vz).order (ik q) else dV q.ord.xs&&(decide (n.kind=8)&&decide (N q.ord.xs<=N q.keys.xs))):=by show _=_;unfold il;rw[eN,hn]
 obtain⟨y,Ho⟩:=eY (il ts q pl);rw[<-Ho]at BV ⊢;have HG:Qk (GB W b 69 _):=hT.g;have GN:Qk (M (H w0)<=b):=hT.lo;have HW:Qk _:=hW;have H9:Qk _:=h9;have VX:Qk _:=jP;have bP:Qk (N pl<=64):=D.len;have bQ:=D.query.ord.1;have bR:=D.query.ay.1;have bS:=D.query.keys.1;have WA:Qk _:=λk hk=>@Ij q k hk;have Gz:Qk (N (ik q)=N q.ord.xs):=by show _=_;unfold ik;rw[ZR]
 clear hT hW h9 jP D Ho hn eN;generalize bM:ik q=WN at*;clear bM;obtain⟨⟨sa,sc,A⟩,bF,aG,wh,i,⟨ka,kc,d⟩,⟨ua,uc,m⟩,⟨ea,ec,ay⟩,⟨da,dc,a⟩⟩:=q;obtain⟨nk,nl,nr,ns,⟨ca,cc,cl⟩,key,⟨ga,gc,co⟩⟩:=n;simp only[ai.val]at*;have t0:Qm W (aD b 0)=O (Z ao (N ts) cap):=Zu HG.o 0;have t1:Qm W (aD b 1)=O (Z sa (N A) sc):=Zu HG.o 1;have t2:Qm W (aD b 2)=O (Z bF (N wh) aG):=Zu HG.o 2;have t3:Qm W (aD b 3)=O (Qo i):=Zu HG.o 3;have t4:Qm W (aD b 4)=O (Z ka (N d) kc):=Zu HG.o 4;have t5:Qm W (aD b 5)=O (Z ua (N m) uc):=Zu HG.o 5;have t6:Qm W (aD b 6)=O (Z ea (N ay) ec):=Zu HG.o 6;have t7:Qm W (aD b 7)=O (Z da (N a) dc):=Zu HG.o 7;have t8:Qm W (aD b 8)=O (Z (O (aD nb no)) (N pl) aU):=Zu HG.o 8;have t9:Qm W (aD b 9)=O (sv):=Zu HG.o 9;obtain⟨w1,bE,k1,g1⟩:=aY W #[Z sa (N A) sc,Z bF (N wh) aG,Qo i,Z ka (N d) kc,Z ua (N m) uc,Z ea (N ay) ec,Z da (N a) dc] 26;have o8:Qk _:=k1;have az:Qk (GB w1 (M (H W)) 26 #[Z sa (N A) sc,Z bF (N wh) aG,Qo i,Z ka (N d) kc,Z ua (N m) uc,Z ea (N ay) ec,Z da (N a) dc]):=g1;obtain⟨r0,r1,r2,r3,r4,r5,r6,u0⟩:=oK k1 m0 m1 m2 m3 m4 m5 m6 t0;obtain⟨u1,u2,u3,u4,u5,u6,u7,u8⟩:=oK k1 t1 t2 t3 t4 t5 t6 t7 t8;have u9:=cB k1 t9;go_enter func16,ntmps16;go_upto_region 2 with fail;clear bE k1 g1;go_cut [4] from 15 to 26 (λc wx=>c=Y (O (aD (M (H w1)) 0))/\GB wx (M (H w1)) 52 #[I J nk,I J nl,I J nr,I J ns,Z ca (N cl) cc,I J key,Z ga (N co) gc]/\Bw w1 wx)
 case first=>
  refine wH w1 λt=>?_;refine wA8 0 t ?_;refine IG 8 t ?_;refine wT 9 (I J (N1:Int)) t (λx hx=>?_) ?_
  .have e9:=aZ.o;go_simp
  refine wT 10 (Y (O (aD nb (no+N1*7)))) t (λx hx=>?_) ?_
  .have e9:¬((N1:Int)+1<=(N1:Int)):=X
   go_simp
  refine IG 11 t ?_;refine wR 12 λK C=>?_;go_simp;refine oA C t λt=>?_;clear C K;refine wR 13 λK C=>?_;go_simp;refine C.o _ _ ((bz _ _).drew) (λt=>?_);clear C K;refine wD ?_;try simp only[pU]
  go_wp2_with fail;go_meet;exact⟨rfl,iB w1 _,t⟩
 case rest=>
 obtain⟨rfl,aK,af⟩:=hcut;obtain⟨r,bG⟩:=eY (wc);subst bG;have zP:Qk (GB r (M (H w1)) 52 #[I J nk,I J nl,I J nr,I J ns,Z ca (N cl) cc,I J key,Z ga (N co) gc]):=aK;have bf:Qk (Bw w1 r):=af;have G:Qk (Bw W r):=ah o8.o af;have Lc:Qk (GB r (M (H W)) 26 #[Z sa (N A) sc,Z bF (N wh) aG,Qo i,Z ka (N d) kc,Z ua (N m) uc,Z ea (N ay) ec,Z da (N a) dc]):=az.o.of (af.block _ az.o.lt);have x6:Qm r (aD (M (H W)) 6)=O (Z da (N a) dc):=Zu Lc.o 6;have y0:Qm r (aD (M (H w1)) 0)=O (I J nk):=Zu zP.o 0;clear aK af t0 t1 t2 t3 t4 t5 t6 t7 t8 t9 m0 m1 m2 m3 m4 m5 m6 r0 r1 r2 r3 r4 r5 r6;by_cases z:N a=0
 .have HV:=Zh (by  rw[BV.o,Q8 (.inl z)]:y=T)
  clear BV H9 qZ;go_wp2;go_ret;exact⟨QV HV.o.symm,G.o⟩
 have zb:((N a:Int)==0)=false:=by rw[Xw];omega
 have HZ:Qk _:=z;clear z;by_cases R:nk=10
 .have HV:=Zh (by  rw[BV.o,Q8 (.inr R)]:y=T)
  subst R;clear BV H9 qZ;go_wp2;go_ret;exact⟨QV HV.o.symm,G.o⟩
 have bN:(nk==10)=false:=by rw[Xw];exact R
 by_cases k9:nk=9
 .have HV:=Zh (by  rw[BV.o,Zf (λh=>h.elim HZ.o R),Q8 k9]:y=aM ((cO ts ⟨⟨sa,sc,A⟩,bF,aG,wh,i,⟨ka,kc,d⟩,⟨ua,uc,m⟩,⟨ea,ec,ay⟩,⟨da,dc,a⟩⟩ pl nl.toNat).getD vz).order WN)
  obtain⟨aL,aN,bH,u,s',av,aO⟩:=H9.o k9;rw[aO]at HV;subst k9;clear BV H9;obtain⟨j,hj⟩:=Xj aN;subst hj;have aA:j<N pl:=X;rw[Xk]at av;obtain⟨q0,q8⟩:=iA bf.o u0 u8;have p0:Qm r (aD (M (H W)) 0)=O (Z sa (N A) sc):=Zu Lc.o 0;have p1:Qm r (aD (M (H W)) 1)=O (Z bF (N wh) aG):=Zu Lc.o 1;have p2:Qm r (aD (M (H W)) 2)=O (Qo i):=Zu Lc.o 2;have p3:Qm r (aD (M (H W)) 3)=O (Z ka (N d) kc):=Zu Lc.o 3;have p4:Qm r (aD (M (H W)) 4)=O (Z ua (N m) uc):=Zu Lc.o 4;have p5:Qm r (aD (M (H W)) 5)=O (Z ea (N ay) ec):=Zu Lc.o 5;have p6:Qm r (aD (M (H W)) 6)=O (Z da (N a) dc):=Zu Lc.o 6;have y1:Qm r (aD (M (H w1)) 1)=O (I J (j:Int)):=Zu zP.o 1;have Og:Qk _:=aL;have yC:Qk _:=av;clear aL av aO aN bH u0 u1 u2 u3 u4 u5 u6 u7 u8 u9;go_upto_region 6 with fail;go_cut [5] from 39 to 49 (λc wx=>c=Y (O (aD (M (H r)) 0))/\GB wx (M (H r)) 69 #[Z ao (N ts) cap,Z sa (N A) sc,Z bF (N wh) aG,Qo i,Z ka (N d) kc,Z ua (N m) uc,Z ea (N ay) ec,Z da (N a) dc,Z (O (aD nb no)) (N1+1) aU,Z Qp 0 0]/\Bw r wx)
  case first=>
   refine wH r λt=>?_;refine FW 0 t ?_;refine wR 10 λK C=>?_;go_simp;refine oA C t λt=>?_;clear C K;refine wR 11 λK C=>?_;go_simp;refine C.o _ _ t λt=>?_;clear C K;refine wD ?_;try simp only[pU]
   go_wp2_with fail;go_meet;exact⟨rfl,iB r _,t⟩
  case rest=>
  obtain⟨rfl,ax,ae⟩:=hcut;rw[<-bC]at ax;obtain⟨w3,bI⟩:=eY (wc);subst bI;have VY:Bw w0 w3:=HW.o.trans (((G.o.trans (ae.mono G.o.size))).mono HW.o.size);have aB:bJ w3 (M (H r)) (M (H w0)) 69 3 ao (O (aD nb no)) cap aU ts ⟨⟨sa,sc,A⟩,bF,aG,wh,i,⟨ka,kc,d⟩,⟨ua,uc,m⟩,⟨ea,ec,ay⟩,⟨da,dc,a⟩⟩ pl [] (Z Qp 0 0):=⟨ax,Xa _ _ _ _,ZB HW.o.size G.o.size⟩;have KQ:=qZ.o (M (H r)) (N pl) j w3 [] (Z Qp 0 0) aA aA aB VY Z0 (λx hx=>by cases hx) (λhx=>by cases hx);rw[yC.o]at KQ;have aC:Qk (Bw r w3):=ae;have bg:=cB ae y1;have TK:Qk (Bw W w3):=ah G.o ae;clear ax ae aB VY y1 q0 q8 qZ y0 x6 p0 p1 p2 p3 p4 p5 p6;go_wp2_with fail;refine Xx KQ ?_;rintro e w4 ⟨aQ,v,rfl,hv⟩;obtain⟨aR,Bl,-,-,aS⟩:=hv _ rfl;clear KQ;have vT:Bw r w4:=aC.o.trans (aQ.below aC.o.size (λx hx=>⟨Nat.ne_of_lt hx,λe=>by cases e⟩));have A7:Qk (Bw W w4):=ah G.o vT;have aF:Qk (IntsAt w4 v.o.ad v.o.xs):=(aS _ (Kept.refl _ _)).2.2;have bq:Qk (v.o.xs=u.order):=congrArg bn.order aR;have VZ:Qk (GB w4 (M (H W)) 26 #[Z sa (N A) sc,Z bF (N wh) aG,Qo i,Z ka (N d) kc,Z ua (N m) uc,Z ea (N ay) ec,Z da (N a) dc]):=Lc.o.of (vT.block _ Lc.o.lt);clear aQ aR aS vT hv;obtain⟨⟨a1,c1,s1⟩,⟨a2,c2,s2⟩,⟨oa,pI,ox⟩,DK,Tw,OE⟩:=v;simp only[aJ.cells,ai.val,Option.isSome_some]at*;obtain⟨w5,ML,k5,g5⟩:=aY w4 #[Z a1 (N s1) c1,Z a2 (N s2) c2,Z oa (N ox) pI,Qo DK,I Qn (Tw:Int),I Qn (OE:Int)] 40;have ak:GB w5 (M (H W)) 26 #[Z sa (N A) sc,Z bF (N wh) aG,Qo i,Z ka (N d) kc,Z ua (N m) uc,Z ea (N ay) ec,Z da (N a) dc]:=VZ.o.of (k5.block _ VZ.o.lt);have z6:=ak.at 6;have z5:=ak.at 5;have o2:=g5.at 2;have zK:Qk (Bw W w5):=ah A7.o k5;have bu:Qk (IntsAt w5 oa ox):=Q7 k5 aF.o;clear k5 g5 ak bg aF;go_wp2;clear ML;go_loopw [8,9] (λwv iv wr=>∃k:Nat,k<=N a/\iv=I J (k:Int)/\Qk (wr.ownsRow (M (H w5)) 3 1 wv (N (WN.take k)) ((WN.take k).map (Value.int J)))/\Qk (Bw w5 wr)) (λ_ iv _=>N a-(intOf iv).toNat)
  case atStart=>exact⟨0,ZP _,rfl,Xa _ _ _ _,Q5 _ _⟩
  case round=>
   obtain⟨k,hk,rfl,P,mo⟩:=hrel;have bA:=cB mo.o z6;by_cases B:k<N a
   .obtain⟨ob,oo,V3,Q⟩:=QY (Q7 zK.o aj.o.ord) B;have L:=Q k B;simp only at V3 L;subst V3;obtain⟨aT,bK⟩:=mX Og.o B;have YC:Qk _:=WA.o k B;obtain⟨p,hp⟩:=Xj aT;rw[hp]at L bK YC;rw[Xk]at YC;have ag:p<N ay:=X
    obtain⟨lb,lo,aV,aW⟩:=QY (Q7 zK.o aj.o.ay) ag;have aH:=aW p ag;simp only at aV aH;subst aV;generalize E ay p 0=sx at*;obtain⟨va,vm,vc,rfl⟩:=ZK P.o;obtain⟨v',w6,TL,O6,IK,⟨xa,xm,xc,rfl⟩,-⟩:=kP wr.drew (M (H w5)) (Z va vm vc) (WN.take k) (Xt P.o ((Q5 _ _).drew)) (by rw[Xu];have:=VX.o;omega) mo.o.size sx 23;rw[<-YC.o]at O6;have Sk:Qk _:=O6;have ug:Qk (Bw w5 w6):=mo.o.drew.trans (IK.below mo.o.size (λb hb e=>Qj ((ZJ P.o e).1)));clear O6 IK Q aW hp YC aT;go_upto_region 12 with fail;refine ZA (S:=λx=>Bw w5 x) Qe (mo.o.drew) (λt=>?_);refine FW 0 t ?_;refine wR 10 λK C=>?_;go_simp;refine oA C t λt=>?_;clear C K;refine wR 11 λK C=>?_;refine step_append Qh _ _ _ Qh (Z va vm vc) (Z (O (aD (M (H wr)) 0)) 1 1) (Z xa xm xc) w6 Qh Qh TL ?_;refine C.o _ _ ug.o (λt=>?_);clear C K TL;refine wR 12 λK C=>?_;go_simp;refine C.o _ _ t λt=>?_;clear C K;refine wD ?_;try simp only[pU]
    clear L aH bA;go_wp2;go_roundw
    case rel=>exact⟨k+1,X,Qf,Sk.o,ug.o⟩
    case measure=>exact Qw
   .obtain rfl:k=N a:=X
    rw[Xi (by rw[Gz.o];exact Q6 _)]at P;obtain⟨wa,bL,rfl,Lr⟩:=dY P.o (by rw[Gz.o];omega);have bT:=cB mo.o o2;have aI:=lS oa wa pI bL ox WN wr (Q7 mo.o bu.o) Lr;have HE:Qk (y=aM ox WN):=by show _=_;rw[HV.o,show ox=u.order from bq.o];rfl
    have Pz:Qk (Bw W wr):=ah zK.o mo.o;have bU:N WN<=4:=by rw[Gz.o];exact VX.o
    have bV:Qk _:=Gz;generalize aM ox WN=SB at*;clear Lr P B;go_wp2_with fail;refine aI.mono ?_;rintro e w7 ⟨rfl,lu⟩;have zL:Qk _:=ah Pz.o lu;clear lu aI;go_wp2;go_ret;exact⟨QV HE.o.symm,zL.o⟩
 .have HV:=Zh (by  rw[BV.o,Zf (λh=>h.elim HZ.o R),Zf k9]:y=(dV a&&(decide (nk=8)&&decide (N a<=N d))))
  have bW:(nk==9)=false:=by rw[Xw];exact k9
  clear BV H9 qZ k9 R;have y8:Qk _:=G;go_wp2;go_loopw [10] (λiv wr=>∃k:Nat,k<=N a/\iv=I J (k:Int)/\Qk (∀j,j<k->E a j 0=(j:Int))/\wr=r) (λiv _=>N a-(intOf iv).toNat)
  case atStart=>exact⟨0,ZP _,rfl,λj hj=>X,rfl⟩
  case round=>
   obtain⟨k,hk,rfl,HJ,au⟩:=hrel;have au:=au.symm;subst au;by_cases B:k<N a
   .obtain⟨ob,oo,V3,Q⟩:=QY (Q7 G.o aj.o.ord) B;have L:=Q k B;simp only at V3 L;subst V3;by_cases he:E a k 0=(k:Int)
    .rw[he]at L;clear Q;go_wp2;go_roundw
     case rel=>exact⟨k+1,X,Qf,λj hj=>by
      by_cases e:j=k
      .rw[e];exact he
      .exact HJ.o j X,by trivial⟩
     case measure=>exact Qw
    .have HE:=Zh (by  rw[HV.o,DI B he];rfl:y=F)
     have bY:(E a k 0 != (k:Int))=true:=by rw[bne_iff_ne];exact he
     generalize E a k 0=ok at*;clear Q he HJ;go_wp2;go_ret;exact⟨QV HE.o.symm,G.o⟩
   .obtain rfl:k=N a:=X
    have HE:=Zh (by  rw[HV.o,BC HJ.o];rfl:y=(decide (nk=8)&&decide (N a<=N d)))
    have x3:Qm r (aD (M (H W)) 3)=O (Z ka (N d) kc):=Zu Lc.o 3;clear HV HJ B;by_cases k8:nk=8
    .subst k8;by_cases aX:N a<=N d
     .have aa:=Zh (by  rw[HE.o,Zg aX];rfl:y=T)
      have bB:(N a:Int)<=(N d:Int):=X;clear HE;go_wp2;go_ret;exact⟨QV aa.o.symm,G.o⟩
     .have aa:=Zh (by  rw[HE.o,ZL aX];rfl:y=F)
      have bB:¬(N a:Int)<=(N d:Int):=X;clear HE;go_wp2;go_ret;exact⟨QV aa.o.symm,G.o⟩
    .have aa:=Zh (by  rw[HE.o,ZL k8];rfl:y=F)
     have bZ:(nk==8)=false:=by rw[Xw];exact k8
     clear HE k8;go_wp2;go_ret;exact⟨QV aa.o.symm,G.o⟩
end
def BD(ts:Qu af)(q:ae)(pl:Qu ag):Int:=if q.check ts=0 then (if (mQ ts q pl).isSome=T then 0 else 5) else q.check ts
def BF:Option bn->Nat
 |some v=>v.cost
 |none=>0
def BG(ts:Qu af)(q:ae)(pl:Qu ag):Nat:=if q.check ts=0 then BF (mQ ts q pl) else 0
def wG(Eq:Int)(C:Nat)(w:U)(e:Ending)(w':U):Prop:=∃v:aJ,e=Qs (Qt #[Qr v.cells,I J Eq])/\v.cost=C/\Bw w w'
def BH{w w1 w2 Zq:U}(hb:Bw w w2)(hl:M (H w)<=M (H w1))(g:GB w2 (M (H w1)) 40 #[Z Qp 0 0,Z Qp 0 0,Z Qp 0 0,Qo F,I Qn 0,I Qn 0])(hZ:Bw w2 Zq)(v:aJ)(Eq:Int) :
  Qk (wG Eq v.cost w (Qs (Qt #[Qr v.cells,I J Eq])) (World.iC Zq (M (H w1)) v))/\Qk ((loadVar 40 (aD (M (H w1)) 0)).run V (World.iC Zq (M (H w1)) v)=.ok (Qr v.cells) (World.iC Zq (M (H w1)) v))/\GB Zq (M (H w1)) 40 #[Z Qp 0 0,Z Qp 0 0,Z Qp 0 0,Qo F,I Qn 0,I Qn 0]:=by have a:=g.of (hZ.block _ g.lt);have e:=XD Zq (M (H w1)) v;have d:=ah hb hZ;exact⟨⟨v,rfl,rfl,d.trans (e.below d.size λb hb=>by show b≠M (H w1);omega)⟩,kV (World.lX a v),a⟩
def Lf(ao po:JW)(cap aU:Nat)(ts:Qu af)(q:ae)(pl:Qu ag)(w:U)(hx:aI w ao ts)(hq:q.At w)(hn:bL w po pl) :
  Calls V 7 #[Z ao (N ts) cap,Qr q.cells,Z po (N pl) aU] w (wG (BD ts q pl) (BG ts q pl) w):=by
 obtain⟨w1,ak,r,G⟩:=aY w q.cells 26;obtain⟨w2,aH,K,L⟩:=aY w1 #[Z Qp 0 0,Z Qp 0 0,Z Qp 0 0,Qo F,I Qn 0,I Qn 0] 40;have k:=ah r K;have hg:=(G.of (K.block _ G.lt)).k7;have m:=zF ao cap ts q w2 (hx.below k) (hq.below k);obtain⟨A,jZ⟩:=eX (q.check ts);obtain⟨RE,Tx⟩:=eX (BD ts q pl);obtain⟨RC,LJ⟩:=eX (BG ts q pl);have aB:Qk (A=0->∀x,Bw w x->N pl<=64->EH x ao po ts q pl):=λl x hb hl=>⟨hx.below hb,hq.below hb,XA hb hn,(vK (jZ.trans l)).1,hl⟩;have V6:Qk (A=0->(q.group=F->aP q.ord.xs (N q.ay.xs)=T)/\N q.ord.xs<=4):=λl=>by obtain⟨_,_,h3,h4,_⟩:=vK (jZ.trans l);exact⟨h3,h4⟩
 unfold BD BG at*;rw[jZ]at Tx LJ m;have t:Qk (A=0->mQ ts q pl=Qp->RE=5/\RC=0):=λl h=>by rw[<-Tx,<-LJ,Q8 l,Q8 l,h];exact⟨rfl,rfl⟩
 have YD:Qk (A=0->∀y,mQ ts q pl=O y->RE=0/\RC=y.cost):=λl y h=>by rw[<-Tx,<-LJ,Q8 l,Q8 l,h];exact⟨rfl,rfl⟩
 have aC:Qk (A≠0->RE=A/\RC=0):=λl=>by rw[<-Tx,<-LJ,Zf l,Zf l];exact⟨rfl,rfl⟩
 rw[jZ,Tx,LJ];have Bp:=Zh λ(Zq:U) (hZ:Bw w2 Zq) (v:aJ) (Eq:Int)=>BH k r.size L hZ v Eq;have C:=Zh λ(Zq:U) (hZ:Bw w2 Zq) (Eq:Int)=>BH k r.size L hZ tO Eq;have HC:=Zh k;have aL:=hn.1;clear jZ Tx LJ hx hq hn r K G L k;simp only[World.iC,aJ.cells,tO,ae.cells,ai.val,XB,Int.natCast_zero]at C ak m hg ⊢;go_enter func7,ntmps7;go_wp2_with fail;refine m.mono ?_;rintro e B ⟨rfl,d⟩;clear m ak aH;by_cases hz:A=0
 rotate_left
 .have aM:(A != 0)=true:=by rw[bne_iff_ne];exact hz
  obtain⟨rfl,rfl⟩:=aC.out hz;clear hz;obtain⟨i,j,a⟩:=C.out B d RE;have Q:=a.k6;have S:=GB.f6 a;go_wp2;exact Xy (XE (p:=6) (u:=7) (x:=I J RE) rfl rfl rfl j.out) rfl i.out
 subst hz;by_cases b:N pl<1∨64<N pl
 .obtain⟨rfl,rfl⟩:=t.out (by trivial) (by unfold mQ;rw[Q8 b]);have b:(N pl:Int)<1∨(¬(N pl:Int)<1/\(64:Int)<N pl):=X
  rcases b with h|⟨h,h'⟩
  all_goals
   obtain⟨i,j,a⟩:=C.out B d 5;have Q:=a.k6;have S:=GB.f6 a;go_wp2;exact Xy (XE (p:=6) (u:=7) (x:=I J 5) rfl rfl rfl j.out) rfl i.out
 obtain⟨f,au⟩:∃f,N pl=f+1:=⟨N pl-1,X⟩;have hD:=aB.out (by trivial) B (ah HC.out d) X;have n:Qk (mQ ts q pl=(bX ts q pl (N pl) f []).bind λx=>if x.1.out=T/\N x.2=N pl/\il ts q pl=T then O x.1 else Qp):=by show _=_;unfold mQ;rw[Zf b,show (N pl)-1=f by omega]
 have aN:¬(N pl:Int)<1:=X;have aO:¬(64:Int)<(N pl:Int):=X;have aQ:N pl<=64:=X;have W:=Zh λx (hr:bX ts q pl (N pl) f []=O x) (hk:(E pl f nz).kind=9)=>Ic (q:=q) X (show bX ts q pl (N pl) (N pl-1) []=O (x.1,x.2) by rw[show N pl-1=f by omega];exact hr) (by rw[show N pl-1=f by omega]) hk;clear b;obtain⟨d0,d1,d2,d3,d4,d5,d6⟩:=hg;obtain⟨d0,d1,d2,d3,d4⟩:=gM d d0 d1 d2 d3 d4;obtain⟨d5,d6⟩:=iA d d5 d6;obtain⟨w4,av,k4,g4⟩:=aY B #[Z ao (N ts) cap,Z q.src.ad (N q.src.xs) q.src.cap,Z q.bF (N q.wh) q.aG,Qo q.group,Z q.keys.ad (N q.keys.xs) q.keys.cap,Z q.sums.ad (N q.sums.xs) q.sums.cap,Z q.ay.ad (N q.ay.xs) q.ay.cap,Z q.ord.ad (N q.ord.xs) q.ord.cap,Z po (N pl) aU,Z Qp 0 0] 69;have KQ:=vW B (M (H B)) ao po cap aU ts q pl hD (N pl) f w4 [] (Z Qp 0 0) X X ⟨g4,Xa _ _ _ _,Q6 _⟩ k4 Z0 (λx hx=>by cases hx) (λhx=>by cases hx);obtain⟨mq,aK,ax⟩:=kH hD d k4;have aR:IntKind.i64.wrap (f:Int)=(f:Int):=by simp[IntKind.wrap,IntKind.bits,IntKind.signed];omega
 have aS:=Zh au;rw[au]at av;clear hD k4 g4 d;obtain⟨R,hR⟩:=eX (bX ts q pl (N pl) f []);rw[hR]at KQ n W;clear hR;go_wp2_with fail;refine Xx KQ ?_;rintro e w5 ⟨az,v,rfl,hv⟩;have V7:=ax.out.trans (az.below ax.out.size (λx hx=>⟨Nat.ne_of_lt hx,λe=>by cases e⟩));clear KQ az av d0 d1 d2 d3 d4 d5 d6;obtain⟨⟨a1,c1,s1⟩,⟨a2,c2,s2⟩,⟨oa,pI,ox⟩,DK,Tw,OE⟩:=v;obtain⟨w6,zO,k6,g6⟩:=aY w5 #[Z a1 (N s1) c1,Z a2 (N s2) c2,Z oa (N ox) pI,Qo DK,I Qn (Tw:Int),I Qn (OE:Int)] 40;have V8:=Zh (ah V7 k6);have Nn:=Zh (ah aK.out V8.out);simp only[aJ.cells,ai.val];clear V7;rcases R with _|⟨y,z⟩
 .obtain⟨rfl,rfl⟩:=t.out (by trivial) (by rw[n.out];rfl);clear n W hv g6 t YD;obtain⟨i,j,a⟩:=C.out w6 Nn.out 5;have Q:=a.k6;have S:=GB.f6 a;go_wp2;exact Xy (XE (p:=6) (u:=7) (x:=I J 5) rfl rfl rfl j.out) rfl i.out
 obtain⟨P,Bl,aA,-,-⟩:=hv _ rfl;have YE:=aA.below k6;obtain⟨qa,qc,rfl⟩:∃qa qc,Bl = Z qa (N z) qc:=by
  rcases YE.own.2 with⟨h,hn⟩|⟨g,c,cur,h,_⟩
  .exact⟨Qp,0,by rw[h,hn]⟩
  .exact⟨_,_,h⟩
 have t9:=YE.g.at 9;have p3:=g6.at 3;have aa:=Zh g6;have D:Qk (y.out=DK/\y.cost=OE):=⟨congrArg bn.out P.symm,congrArg bn.cost P.symm⟩;have YF:=Zh YE;clear k6 g6 aA YE P hv;rcases DK with _|_
 .obtain⟨rfl,rfl⟩:=t.out (by trivial) (by rw[n.out,Z5,Zf (λh=>by have:=h.1;rw[D.out.1]at this;cases this)]);clear n W t YD YF mq V6;obtain⟨i,j,a⟩:=C.out w6 Nn.out 5;have Q:=a.k6;have S:=GB.f6 a;go_wp2;exact Xy (XE (p:=6) (u:=7) (x:=I J 5) rfl rfl rfl j.out) rfl i.out
 by_cases hs:N z=N pl
 rotate_left
 .have aD:((N z:Int) != (f:Int)+1)=true:=by rw[bne_iff_ne];omega
  have aF:((N z:Int) != (N pl:Int))=true:=by rw[bne_iff_ne];omega
  obtain⟨rfl,rfl⟩:=t.out (by trivial) (by rw[n.out,Z5,Zf (λh=>hs h.2.1)]);clear hs n W t YD YF mq V6;obtain⟨i,j,a⟩:=C.out w6 Nn.out 5;have Q:=a.k6;have S:=GB.f6 a;go_wp2;exact Xy (XE (p:=6) (u:=7) (x:=I J 5) rfl rfl rfl j.out) rfl i.out
 have aD:((N z:Int) != (f:Int)+1)=false:=by rw[bne_eq_false_iff_eq];omega
 have aF:((N z:Int) != (N pl:Int))=false:=by rw[bne_eq_false_iff_eq];omega
 have Eg:=DJ B (M (H B)) ao po cap aU ts q pl mq.out w6 z (Z qa (N z) qc) YF.out V8.out X (V6.out (by trivial)).2 (λhk=>by
  rw[show N pl-1=f by omega]at hk ⊢;obtain⟨h1,h2,h3,h4⟩:=W.out _ rfl hk;exact⟨(V6.out (by trivial)).1 h1,h2,h3,h4⟩)
 have X8:=Zh (by rw[n.out,Z5];simp[D.out.1,hs]:mQ ts q pl=if il ts q pl=T then O y else Qp)
 clear hs W YF mq n V6;generalize il ts q pl=SB at*;go_wp2_with fail;refine Eg.mono ?_;rintro e w7 ⟨rfl,lu⟩;clear Eg zO t9 p3;have V9:=Zh (ah Nn.out lu);have hw:=(aa.out.of (lu.block _ aa.out.lt)).k6;clear lu;rcases SB with _|_
 .obtain⟨rfl,rfl⟩:=t.out (by trivial) (by rw[X8.out];rfl);obtain⟨i,j,a⟩:=C.out w7 V9.out 5;have Q:=a.k6;have S:=GB.f6 a;go_wp2;exact Xy (XE (p:=6) (u:=7) (x:=I J 5) rfl rfl rfl j.out) rfl i.out
 have aj:=YD.out (by trivial) y (by rw[X8.out];rfl);rw[D.out.2]at aj;obtain⟨l,h1⟩:=aj;subst RE;subst RC;obtain⟨i,j,a⟩:=Bp.out w7 V9.out ⟨⟨a1,c1,s1⟩,⟨a2,c2,s2⟩,⟨oa,pI,ox⟩,T,Tw,OE⟩ 0;simp only[World.iC,aJ.cells,ai.val]at i j;have Q:=a.k6;have S:=GB.f6 a;go_wp2;exact Xy (XE (p:=6) (u:=7) (x:=I J 0) rfl rfl rfl j.out) rfl i.out
structure dS(q q':ae):Prop where
 src:q'.src.xs=q.src.xs
 wl:N q'.wh=N q.wh
 wh:∀i,(E q'.wh i lz).cs=(E q.wh i lz).cs
 group:q'.group=q.group
 keys:q'.keys.xs=q.keys.xs
 ay:q'.ay.xs=q.ay.xs
 ord:q'.ord.xs=q.ord.xs
theorem dS.rises(h:dS q q')(ts:Qu af)(l:KJ)(s:Nat):dU ts q' l s=dU ts q l s:=by unfold dU;simp only[h.src,h.wl,h.wh]
theorem dS.key(h:dS q q')(ts:Qu af)(n:ag)(a b:Nat):jh ts q' n a b=jh ts q n a b:=by unfold jh;simp only[h.src,h.wl,h.wh]
theorem dS.join(h:dS q q')(ts:Qu af)(n:ag)(a b:Nat):fM ts q' n a b=fM ts q n a b:=by unfold fM;rw[h.rises]
theorem dS.whole(h:dS q q')(l:bZ):eG q' l=eG q l:=by unfold eG;simp only[h.src,h.wl]
theorem dS.fits(h:dS q q')(ts:Qu af)(n:ag)(l r:bZ):eB ts q' n l r=eB ts q n l r:=by unfold eB;simp only[h.rises,h.key,h.join,h.whole,h.src,h.group,h.keys,h.ord]
theorem dS.size(h:dS q q')(ts:Qu af)(s c:Nat):fK ts q' s c=fK ts q s c:=by unfold fK;simp only[h.src,h.wh]
theorem dS.part(h:dS q q')(ts:Qu af)(n:ag)(l r:bZ):mK ts q' n l r=mK ts q n l r:=by unfold mK;simp only[h.size]
theorem dS.step(h:dS q q')(ts:Qu af)(n:ag)(ps:Qu bZ):iY ts q' n ps=iY ts q n ps:=by unfold iY;simp only[h.fits,h.part]
theorem dS.parts{q q':ae}(h:dS q q')(ts:Qu af)(pl:Qu ag):∀k,bU ts q' pl k=bU ts q pl k
 |0=>rfl
 |k+1=>by show (bU ts q' pl k).bind _=(bU ts q pl k).bind _;rw[dS.parts h ts pl k];congr 1;grind [dS.step]
theorem dS.ends(h:dS q q')(k:Int)(o:KJ):jV q' k o=jV q k o:=by unfold jV ik;simp only[h.ord,h.ay,h.keys]
def dS.look(h:dS q q')(ts:Qu af)(pl:Qu ag):dz ts q' pl=dz ts q pl:=by unfold dz;simp only[h.parts,h.ends]
def ag.canon(n:ag):ag:={ n with cl:=⟨Qp,0,n.cl.xs⟩,co:=⟨Qp,0,n.co.xs⟩ }
theorem nQ(pl:Qu ag)(i:Nat):E (pl.map ag.canon) i nz=(E pl i nz).canon:=je ag.canon pl i nz
theorem tY(ts:Qu af)(q:ae)(pl:Qu ag):∀k,bU ts q (pl.map ag.canon) k=bU ts q pl k
 |0=>rfl
 |k+1=>by show (bU ts q (pl.map ag.canon) k).bind _=(bU ts q pl k).bind _;rw[tY ts q pl k,nQ];rfl
theorem Io(pl:Qu ag)(i:Nat):inpN (pl.map ag.canon) i=inpN pl i:=by unfold inpN;rw[nQ];rfl
theorem DL(pl:Qu ag):bg (pl.map ag.canon)=bg pl:=by unfold bg mP;simp only[ZR,nQ,Io];rfl
def wI(ts:Qu af)(q:ae)(pl:Qu ag):dz ts q (pl.map ag.canon)=dz ts q pl:=by unfold dz;simp only[DL,ZR,tY,nQ];rfl
theorem DN{a b:ag}(h:a.same b):a.canon=b.canon:=by obtain⟨d,e,f,g,i,j,k⟩:=h;unfold ag.canon;simp_all
theorem DR(ts:Qu af)(q:ae)(hl:N ns=N pl)(h:∀i,i<N pl->(E ns i nz).same (E pl i nz)):dz ts q ns=dz ts q pl:=by rw[<-wI ts q ns,<-wI ts q pl];grind [dz,List.ext_getElem,List.length_map,DN]
theorem yP(ts:Qu af)(q:ae)(pl:Qu ag):kU ts q pl=BD ts q pl/\iW ts q pl=BG ts q pl:=by
 unfold kU BD iW BG;by_cases a:q.check ts=0
 .rw[Q8 a,Q8 a,Q8 a,Q8 a];rcases Gd (vK a).1.ok pl with⟨h1,h2⟩|⟨ps,v,h1,h2,h3,h4,_,h6⟩
  .grind [vL,BF]
  .rw[h1,h2];refine⟨rfl,?_⟩
   show (E ps (N ps-1) pz).cost=v.cost;simp_all
 simp_all
def DV(q:ae)(bf bk bu be bo bw:Nat)(A:Nat->Nat):dS q (nD q bf bk bu be bo bw A):=
 ⟨rfl,eO q.wh A,λi=>by
  have h:(iy q.wh A).map aA.cs=q.wh.map aA.cs:=yM q.wh A;have a:=je aA.cs (iy q.wh A) i lz;have b:=je aA.cs q.wh i lz;rw[h]at a;exact a.symm.trans b,rfl,rfl,rfl,rfl⟩
def Iw(ts:Qu af)(q:ae)(bf bk bu be bo bw:Nat)(A:Nat->Nat)(hl:N ns=N pl)(h:∀i,i<N pl->(E ns i nz).same (E pl i nz)) :
  kU ts (nD q bf bk bu be bo bw A) ns=kU ts q pl/\iW ts (nD q bf bk bu be bo bw A) ns=iW ts q pl:=by have e:dz ts (nD q bf bk bu be bo bw A) ns=dz ts q pl:=(dS.look (DV q bf bk bu be bo bw A) ts ns).trans (DR ts q hl h);unfold kU iW;rw[BB,e];exact⟨rfl,rfl⟩
def BJ(e:Int)(w:U):Calls V 9 #[I J e] w λr a=>r=Qs (I J e)/\a = w:=by go_enter func9,ntmps9;go_wp2;go_ret;exact⟨rfl,rfl⟩
def Iy(ao po:JW)(cap aU:Nat)(ts:Qu af)(q:ae)(pl:Qu ag)(w:U)(hx:aI w ao ts)(hq:q.At w)(hp:bL w po pl)(hsh:bW w 0)(hsz:N ts*48<=140737488351232)
  (z1:N q.src.xs*8<=140737488351232) (z2:N q.keys.xs*8<=140737488351232) (z3:N q.sums.xs*8<=140737488351232) (z4:N q.ay.xs*8<=140737488351232) (z5:N q.ord.xs*8<=140737488351232)
  (z6:N q.wh*24<=140737488351232) (z7:∀i,i<N q.wh->(E q.wh i lz).cs.length*40<=140737488351232) (p1:N pl*88<=140737488351232) (p2:∀i,i<N pl->(E pl i nz).cl.xs.length*8<=140737488351232/\(E pl i nz).co.xs.length*8<=140737488351232) :
  Cb 3 #[Z ao (N ts) cap,Qr q.cells,Z po (N pl) aU] w (Qo T):=by
 obtain⟨w1,ak⟩:=eY (w.alloc (.cells q.cells 26));have k:Bw w w1:=by rw[ak];exact bz _ _
 have bO:GB w1 (M (H w)) 26 q.cells:=by rw[ak];exact iB _ _
 have av:uJ w1 Qp []:=⟨Qb,λi u=>absurd u Qb,λi u=>absurd u Qb⟩;have ax:=Iu ao Qp po cap 0 aU ts q [] pl w1 (hx.below k) (hq.below k) av (XA k hp) hsz z1 z2 z3 z4 z5 z6 z7 Qb (λi u=>absurd u Qb) (λi u=>absurd u Qb) p1 p2;have az:Qk (∀x,Bw w1 x->Calls V 7 #[Z ao (N ts) cap,Qr q.cells,Z po (N pl) aU] x (wG (kU ts q pl) (iW ts q pl) x)):=λx r=>by rw[(yP ts q pl).1,(yP ts q pl).2];exact Lf ao po cap aU ts q pl x (hx.below (ah k r)) (hq.below (ah k r)) (XA (ah k r) hp)
 have bA:Qk (aI w1 ao ts):=hx.below k;have aA:Qk (q.At w1):=hq.below k;have N7:Qk (bL w1 po pl):=XA k hp;have Lt:Qk (bW w1 0):=Xz k hsh;have bB:Qk _:=av;have aR:=hx.1;have bC:=hp.1;have o8:Qk (Bw w w1):=k;have Wo:w.alloc (.cells q.cells 26)=w1:=ak.symm;clear k ak hx hq hp hsh av hsz z1 z2 z3 z4 z5 z6 z7 p1 p2;obtain⟨⟨y,z,j⟩,B,C,l,b,⟨D,K,a⟩,⟨L,S,d⟩,⟨W,ec,m⟩,⟨oa,oc,f⟩⟩:=q;have n:(ae.mk ⟨y,z,j⟩ B C l b ⟨D,K,a⟩ ⟨L,S,d⟩ ⟨W,ec,m⟩ ⟨oa,oc,f⟩).cells=#[Z y (N j) z,Z B (N l) C,Qo b,Z D (N a) K,Z L (N d) S,Z W (N m) ec,Z oa (N f) oc]:=rfl;rw[n]at ax az bO Wo ⊢;obtain⟨b0,b1,b2,b3,b4,b5,b6⟩:=bO.k7;go_enter func3,ntmps3;go_wp2_with fail;refine Xx ax ?_;clear ax Wo b0 b1 b2 b3 b4 b5 b6;rintro e p ⟨G,bc,bf,bk,bu,be,bo,bw,bp,bd,v,vr,u1,u2,A,k1,k2,s1,s2,x1,x2,cZ,ns,rfl,h⟩;have aB:=h.plan.nodes N7.o;have aa:=h.plan.same;have aj:N (ns.take (N pl))=N pl:=by rw[Xu,h.plan.len];omega
 obtain⟨aN,bg⟩:=Iw ts (ae.mk ⟨y,z,j⟩ B C l b ⟨D,K,a⟩ ⟨L,S,d⟩ ⟨W,ec,m⟩ ⟨oa,oc,f⟩) bf bk bu be bo bw A aj aa;have Lh:∀i,i<N (ns.take (N pl))->(E (ns.take (N pl)) i nz).co.xs.length<=(E (ns.take (N pl)) i nz).co.cap:=λi u=>by rw[aj]at u;obtain⟨P,Q,e,_⟩:=h.plan.zD i u;rw[pK _ _ _ _ u,e];show (E pl i nz).co.xs.length<=(E pl i nz).co.xs.length+2;omega
 have kb:=h.jC;have aC:(nD (ae.mk ⟨y,z,j⟩ B C l b ⟨D,K,a⟩ ⟨L,S,d⟩ ⟨W,ec,m⟩ ⟨oa,oc,f⟩) bf bk bu be bo bw A).cells=#[Z (O (aD bf 0)) (N j) (N j+2),Z (O (aD bw 0)) (N l) (N l+2),Qo b,Z (O (aD bk 0)) (N a) (N a+2),Z (O (aD bu 0)) (N d) (N d+2),Z (O (aD be 0)) (N m) (N m+2),Z (O (aD bo 0)) (N f) (N f+2)]:=by show #[_,Value.slice _ (N (iy l A)) _,_,_,_,_,_]=_;rw[eO];rfl
 have aS:∀x,Bw p x->Cb 5 #[Z (O (aD bc 0)) (N ts) (N ts+2),Qr #[Z (O (aD bf 0)) (N j) (N j+2),Z (O (aD bw 0)) (N l) (N l+2),Qo b,Z (O (aD bk 0)) (N a) (N a+2),Z (O (aD bu 0)) (N d) (N d+2),Z (O (aD be 0)) (N m) (N m+2),Z (O (aD bo 0)) (N f) (N f+2)],Z (O (aD bp 0)) (N pl) (N pl+2)] x (I J (kU ts (ae.mk ⟨y,z,j⟩ B C l b ⟨D,K,a⟩ ⟨L,S,d⟩ ⟨W,ec,m⟩ ⟨oa,oc,f⟩) pl)):=λx r=>by have h1:=xw (O (aD bc 0)) (N ts+2) ts (nD (ae.mk ⟨y,z,j⟩ B C l b ⟨D,K,a⟩ ⟨L,S,d⟩ ⟨W,ec,m⟩ ⟨oa,oc,f⟩) bf bk bu be bo bw A) (O (aD bp 0)) (N pl+2) (ns.take (N pl)) x ((DF h.cat aR).below r) ((pM h aA.o).below r) (by show N a<=N a+2;omega) (by show N f<=N f+2;omega) (XA r aB) (Xz (ah kb r) Lt.o) Lh;rw[aN,aC,aj]at h1;exact h1
 have aT:∀x,Bw p x->Cb 6 #[Z (O (aD bc 0)) (N ts) (N ts+2),Qr #[Z (O (aD bf 0)) (N j) (N j+2),Z (O (aD bw 0)) (N l) (N l+2),Qo b,Z (O (aD bk 0)) (N a) (N a+2),Z (O (aD bu 0)) (N d) (N d+2),Z (O (aD be 0)) (N m) (N m+2),Z (O (aD bo 0)) (N f) (N f+2)],Z (O (aD bp 0)) (N pl) (N pl+2)] x (Qt #[I Qn ((iW ts (ae.mk ⟨y,z,j⟩ B C l b ⟨D,K,a⟩ ⟨L,S,d⟩ ⟨W,ec,m⟩ ⟨oa,oc,f⟩) pl:Nat):Int),I J (kU ts (ae.mk ⟨y,z,j⟩ B C l b ⟨D,K,a⟩ ⟨L,S,d⟩ ⟨W,ec,m⟩ ⟨oa,oc,f⟩) pl)]):=λx r=>by have h1:=xx (O (aD bc 0)) (N ts+2) ts (nD (ae.mk ⟨y,z,j⟩ B C l b ⟨D,K,a⟩ ⟨L,S,d⟩ ⟨W,ec,m⟩ ⟨oa,oc,f⟩) bf bk bu be bo bw A) (O (aD bp 0)) (N pl+2) (ns.take (N pl)) x ((DF h.cat aR).below r) ((pM h aA.o).below r) (by show N a<=N a+2;omega) (by show N f<=N f+2;omega) (XA r aB) (Xz (ah kb r) Lt.o) Lh;rw[aN,bg,aC,aj]at h1;exact h1
 have aV:Qk (∀x,Bw p x->Cb 8 #[Y (O (aD G 0)),Z ao (N ts) cap,Qr #[Z y (N j) z,Z B (N l) C,Qo b,Z D (N a) K,Z L (N d) S,Z W (N m) ec,Z oa (N f) oc],Z po (N pl) aU,Z Qp 0 0] x (Qo T)):=λx r=>by have aF:=ah kb r;have h1:=BI w1 x G ao Qp po cap 0 aU ts (ae.mk ⟨y,z,j⟩ B C l b ⟨D,K,a⟩ ⟨L,S,d⟩ ⟨W,ec,m⟩ ⟨oa,oc,f⟩) [] cZ pl ns bc bf bk bu be bo bw bp bd v vr u1 u2 A k1 k2 s1 s2 x1 x2 (h.below r) (aI.below aF bA.o) (ae.At.below aF aA.o) ⟨Qb,λi u=>absurd u Qb,λi u=>absurd u Qb⟩ (XA aF N7.o);rw[n]at h1;exact h1
 obtain⟨g0,g1,g2,g3,g4,g5,g6,g7,g8⟩:=h.g.k9;have Ol:Qm p (aD (M (H w)) 0)=O (Z y (N j) z):=cB kb (bO.cell 0);have Td:Qm p (aD (M (H w)) 1)=O (Z B (N l) C):=cB kb (bO.cell 1);have Tf:Qm p (aD (M (H w)) 2)=O (Qo b):=cB kb (bO.cell 2);have aH:Qm p (aD (M (H w)) 3)=O (Z D (N a) K):=cB kb (bO.cell 3);have aK:Qm p (aD (M (H w)) 4)=O (Z L (N d) S):=cB kb (bO.cell 4);have aL:Qm p (aD (M (H w)) 5)=O (Z W (N m) ec):=cB kb (bO.cell 5);have aM:Qm p (aD (M (H w)) 6)=O (Z oa (N f) oc):=cB kb (bO.cell 6);have fo:Qk (Bw w1 p):=kb;generalize kU ts (ae.mk ⟨y,z,j⟩ B C l b ⟨D,K,a⟩ ⟨L,S,d⟩ ⟨W,ec,m⟩ ⟨oa,oc,f⟩) pl=R,iW ts (ae.mk ⟨y,z,j⟩ B C l b ⟨D,K,a⟩ ⟨L,S,d⟩ ⟨W,ec,m⟩ ⟨oa,oc,f⟩) pl=CN at*;have U4:Qk _:=aS;have xh:Qk _:=aT;clear h aB aa aj aN bg Lh kb aC aS aT bO n;go_wp2_with fail;refine Za ?_;refine qS (Y (O (aD G 0))) ?_;refine qS (Y (O (aD G 0))) ?_;refine qS (Y (O (aD G 0))) ?_;refine qC (Z (O (aD bc 0)) (N ts) (N ts+2)) g0 ?_;refine qS (Y (O (aD G 0))) ?_;refine qS (Y (O (aD G 0))) ?_;refine qS (Y (O (aD G 1))) ?_;go_big_quiet_want;refine⟨Qr #[Z (O (aD bf 0)) (N j) (N j+2),Z (O (aD bw 0)) (N l) (N l+2),Qo b,Z (O (aD bk 0)) (N a) (N a+2),Z (O (aD bu 0)) (N d) (N d+2),Z (O (aD be 0)) (N m) (N m+2),Z (O (aD bo 0)) (N f) (N f+2)],λx hx=>?_,?_⟩
 .have e1:=I6 hx g1 g2 g3 g4 g5 g6 g7;go_simp
 simp only[pU];go_big_quiet_on;refine qS (Y (O (aD G 0))) ?_;refine qS (Y (O (aD G 0))) ?_;refine qS (Y (O (aD G 8))) ?_;refine qC (Z (O (aD bp 0)) (N pl) (N pl+2)) g8 ?_;go_big_quiet_want;refine⟨I J R,λx hx=>?_,?_⟩
 .have hC:=Zb hx (U4.o x hx);go_simp
 simp only[pU];go_big_quiet_on;refine qS (I J R) ?_;refine Xo ?_;intro w3 au;obtain⟨i0,i1,i2,i3,i4,i5,i6,i7⟩:=oK au g0 g1 g2 g3 g4 g5 g6 g7;have i8:=cB au g8;have aW:Qk (Bw p w3):=au;clear au g0 g1 g2 g3 g4 g5 g6 g7 g8 U4;go_wp2_with fail;refine Za ?_;refine qS (Y (O (aD G 0))) ?_;refine qS (Y (O (aD G 0))) ?_;refine qS (Y (O (aD G 0))) ?_;refine qC (Z (O (aD bc 0)) (N ts) (N ts+2)) i0 ?_;refine qS (Y (O (aD G 0))) ?_;refine qS (Y (O (aD G 0))) ?_;refine qS (Y (O (aD G 1))) ?_;go_big_quiet_want;refine⟨Qr #[Z (O (aD bf 0)) (N j) (N j+2),Z (O (aD bw 0)) (N l) (N l+2),Qo b,Z (O (aD bk 0)) (N a) (N a+2),Z (O (aD bu 0)) (N d) (N d+2),Z (O (aD be 0)) (N m) (N m+2),Z (O (aD bo 0)) (N f) (N f+2)],λx hx=>?_,?_⟩
 .have e1:=I6 hx i1 i2 i3 i4 i5 i6 i7;go_simp
 simp only[pU];go_big_quiet_on;refine qS (Y (O (aD G 0))) ?_;refine qS (Y (O (aD G 0))) ?_;refine qS (Y (O (aD G 8))) ?_;refine qC (Z (O (aD bp 0)) (N pl) (N pl+2)) i8 ?_;go_big_quiet_want;refine⟨Qt #[I Qn (CN:Int),I J R],λx hx=>?_,?_⟩
 .have hC:=Zb hx (xh.o x (ah aW.o hx));go_simp
 simp only[pU];go_big_quiet_on;refine qS (Qt #[I Qn (CN:Int),I J R]) ?_;refine qS (I Qn (CN:Int)) ?_;refine qS (I J R) ?_;refine qS (I Qn (CN:Int)) ?_;refine qS (I J R) ?_;refine Xo ?_;intro w4 bq;have A7:Qk (Bw p w4):=ah aW.o bq;obtain⟨Tc,Te,Tg,aO,aP⟩:=gM A7.o Ol Td Tf aH aK;obtain⟨Yz,aQ⟩:=iA A7.o aL aM;have aX:=az.o w4 (ah fo.o A7.o);clear bq xh az i0 i1 i2 i3 i4 i5 i6 i7 i8;go_wp2_with fail;refine Xx aX ?_;rintro e w5 ⟨vw,rfl,Sb,bn⟩;clear aX Tc Te Tg aO aP Yz aQ;have zK:Qk (Bw p w5):=ah A7.o bn;obtain⟨⟨a1,c1,l1⟩,⟨a2,c2,l2⟩,⟨a3,c3,l3⟩,DK,Tw,OE⟩:=vw;have Sb:OE=CN:=Sb;subst Sb;simp only[aJ.cells,ai.val];obtain⟨w6,zO,k6,g6⟩:=aY w5 #[Z a1 (N l1) c1,Z a2 (N l2) c2,Z a3 (N l3) c3,Qo DK,I Qn (Tw:Int),I Qn (OE:Int)] 40;have ug:Qk (Bw p w6):=ah zK.o k6;have t5:=g6.at 5;obtain⟨Tc,Te,Tg,aO,aP⟩:=gM ug.o Ol Td Tf aH aK;obtain⟨Yz,aQ⟩:=iA ug.o aL aM;have aZ:=aV.o w6 ug.o;clear bn k6 g6 aV;go_wp2_with fail;refine Xx aZ ?_;rintro e w7 ⟨rfl,lu⟩;have t7:=cB lu t5;have zL:Qk (Bw p w7):=ah ug.o lu;clear aZ lu t5 zO Tc Te Tg aO aP Yz aQ Ol Td Tf aH aK aL aM;have bD:(R==R)=true:=Qb;go_wp2_with fail;refine(BJ R _).mono ?_;rintro e w8 ⟨rfl,t⟩;have t:=t.symm;subst t;go_wp2_with fail;refine(BJ R _).mono ?_;rintro e w8 ⟨rfl,t⟩;have t:=t.symm;subst t;go_wp2;go_ret;exact⟨rfl,ah o8.o (ah fo.o zL.o)⟩
