import Derived.Test.YtpcfbajdeipgbaaGreatDoorX17
import Derived.Test.YtpcfbajdeipgbaaGreatDoorX18
import Derived.Test.YtpcfbajdeipgbaaGreatDoorX21
import Derived.Test.YtpcfbajdeipgbaaGreatDoorX22
set_option linter.all false
set_option maxRecDepth 100000
set_option maxHeartbeats 0
namespace Go.Proofs.Zz
open Go.RowKit Go.Shelf
open List renaming length->N,getD->E
open Go.Value renaming slice->Z,int->I,pointer->Y,bool->EP,agg->FN,tuple->Ph
open Go.Proofs.Tryz renaming prog->V
open Option renaming some->O,none->E5
open Go.IntKind renaming i64->J,u64->Dc
open Bool renaming false->F,true->T
open Go renaming World->U,Value->KX
open Go.World renaming heap->H,cell?->Am
open _root_.Array renaming size->M
open Go.RowKit renaming Hid->Wl
open Go.Ending renaming returned->FR
variable {l:List Int} {q q':af} {ns pl:List ai} {ts:List ag} {db:List aJ} {n n':ai}
section
def Yk{k:Nat}(hk:k<N l)(h:E l k 0≠(k:Int)):jI l=false:=by unfold jI;rw[X5];exact⟨k,Zk.2 hk,by simp only[Qz];exact h⟩
def Ui(h:∀k,k<N l->E l k 0=(k:Int)):jI l=true:=by unfold jI;rw[Qn];exact λk a=>QD (h k (Zk.1 a))
def adx(q:af){k:Nat}(hk:k<N q.ord.xs):(oq q).take (k+1)=(oq q).take k++[E q.aH.xs (E q.ord.xs k 0).toNat 0]:=by
 have a:k<N (oq q):=by unfold oq;rw[Q8];exact hk
 rw[Qh a];congr 2;unfold oq;simp[List.getD,hk]
variable (w0:U) (b:Nat) (ao po:Option Addr) (cap pcap:Nat) (ts:List ag) (q:af) (pl:List ai)
def Yl(D:CZ w0 ao po ts q pl)(W:U)(seen:List Nat)(sv:KX)(hT:df W b (M (H w0)) 80 3 ao po cap pcap ts q pl seen sv)(hW:Bw w0 W)(h1:1<=N pl)(qL:N q.ord.xs<=4)
  (h9:(E pl (N pl-1) nz).kind=9->aM q.ord.xs (N q.aH.xs)=T/\0<=(E pl (N pl-1) nz).l/\(E pl (N pl-1) nz).l<(N pl:Int)/\∃u s',fC ts q pl (N pl) (E pl (N pl-1) nz).l.toNat []=O (u,s')/\bO ts q pl (E pl (N pl-1) nz).l.toNat=O u) :
  Cb 37 #[Y (O (aD b 0))] W (EP (ou ts q pl)):=by
 obtain⟨X,bQ⟩:∃X,N pl=X+1:=⟨N pl-1,by omega⟩;have eN:N pl-1=X:=by omega
 rw[eN]at h9;have cO:=D.plan.1;have bC:Wl (IntKind.i64.wrap (X:Int)=(X:Int)):=by show _=_;simp[IntKind.wrap,IntKind.bits,IntKind.signed];omega
 obtain⟨nb,no,bR,m0,m1,m2,m3,m4,m5,m6,-,-⟩:=(Jh hW D.plan).2 X (by omega);have Bq:Wl (∀(b':Nat) (f:Nat),VC w0 b' ao po cap pcap ts q pl f):=λb' f=>T9 w0 b' ao po cap pcap ts q pl D f;have av:Wl (q.At W):=D.query.below hW;subst bR;obtain⟨n,hn⟩:=eX (E pl X nz);rw[hn]at m0 m1 m2 m3 m4 m5 m6 h9;have UA:Wl (ou ts q pl=if (N q.ord.xs)=0∨n.kind=10 then T else if n.kind=9 then aY ((bO ts q pl n.l.toNat).getD vz).order (oq q) else jI q.ord.xs&&(decide (n.kind=8)&&decide (N q.ord.xs<=N q.keys.xs))):=by show _=_;unfold ou;rw[eN,hn]
 obtain⟨A,dB⟩:∃x,x=ou ts q pl:=⟨_,rfl⟩;rw[<-dB]at UA ⊢;have HG:Wl (GB W b 80 _):=hT.g;have Cu:Wl (M (H w0)<=b):=hT.lo;have HW:Wl _:=hW;have H9:Wl _:=h9;have aG:Wl _:=qL;have cZ:Wl (N pl<=64):=D.len;have dh:=D.query.ord.1;have di:=D.query.aH.1;have dm:=D.query.keys.1;have bD:Wl _:=λk hk=>@adx q k hk;have ah:Wl (N (oq q)=N q.ord.xs):=by show _=_;unfold oq;rw[Q8]
 clear hT hW h9 qL D dB hn eN;generalize cz:oq q=WN at*;clear cz;obtain⟨⟨sa,sc,src⟩,dx,aP,wh,i,⟨ka,kc,d⟩,⟨ua,uc,m⟩,⟨ea,ec,aH⟩,⟨da,dc,a⟩⟩:=q;obtain⟨nk,nl,nr,ns,⟨ca,cc,cl⟩,key,⟨ga,gc,co⟩⟩:=n;simp only[ae.val]at*;have t0:Am W (aD b 0)=O (Z ao (N ts) cap):=QQ HG.o 0;have t1:Am W (aD b 1)=O (Z sa (N src) sc):=QQ HG.o 1;have t2:Am W (aD b 2)=O (Z dx (N wh) aP):=QQ HG.o 2;have t3:Am W (aD b 3)=O (EP i):=QQ HG.o 3;have t4:Am W (aD b 4)=O (Z ka (N d) kc):=QQ HG.o 4;have t5:Am W (aD b 5)=O (Z ua (N m) uc):=QQ HG.o 5;have t6:Am W (aD b 6)=O (Z ea (N aH) ec):=QQ HG.o 6;have t7:Am W (aD b 7)=O (Z da (N a) dc):=QQ HG.o 7;have t8:Am W (aD b 8)=O (Z (O (aD nb no)) (N pl) pcap):=QQ HG.o 8;have t9:Am W (aD b 9)=O (sv):=QQ HG.o 9;obtain⟨w1,bS,k1,g1⟩:=aX W #[Z sa (N src) sc,Z dx (N wh) aP,EP i,Z ka (N d) kc,Z ua (N m) uc,Z ea (N aH) ec,Z da (N a) dc] 26;have rH:Wl _:=k1;have Mh:Wl (GB w1 (M (H W)) 26 #[Z sa (N src) sc,Z dx (N wh) aP,EP i,Z ka (N d) kc,Z ua (N m) uc,Z ea (N aH) ec,Z da (N a) dc]):=g1;obtain⟨r0,r1,r2,r3,r4,r5,r6,u0⟩:=qf k1 m0 m1 m2 m3 m4 m5 m6 t0;obtain⟨u1,u2,u3,u4,u5,u6,u7,u8⟩:=qf k1 t1 t2 t3 t4 t5 t6 t7 t8;have u9:=cB k1 t9;go_enter Tryz.func37,Tryz.ntmps37;go_upto_region 2 with fail;clear bS k1 g1;go_cut [4] from 15 to 26 (λc wx=>c=Y (O (aD (M (H w1)) 0))/\GB wx (M (H w1)) 50 #[I J nk,I J nl,I J nr,I J ns,Z ca (N cl) cc,I J key,Z ga (N co) gc]/\Bw w1 wx)
 case first=>
  refine wH w1 λy=>?_;refine wA8 0 y ?_;refine Fz 8 y ?_;refine wT 9 (I J (X:Int)) y (λx hx=>?_) ?_
  .have e9:=bC.o;go_simp
  refine wT 10 (Y (O (aD nb (no+X*7)))) y (λx hx=>?_) ?_
  .have e9:¬((X:Int)+1<=(X:Int)):=by omega
   go_simp
  refine Fz 11 y ?_;refine wR 12 λK C=>?_;go_simp;refine oA C y λy=>?_;clear C K;refine wR 13 λK C=>?_;go_simp;refine C.o _ _ ((bJ _ _).drew) (λy=>?_);clear C K;refine wD ?_;try simp only[pU]
  go_wp2_with fail;go_meet;exact⟨rfl,iX w1 _,y⟩
 case rest=>
 obtain⟨rfl,aS,ak⟩:=hcut;obtain⟨r,bT⟩:∃x,x=wc:=⟨_,rfl⟩;subst bT;have Pg:Wl (GB r (M (H w1)) 50 #[I J nk,I J nl,I J nr,I J ns,Z ca (N cl) cc,I J key,Z ga (N co) gc]):=aS;have bE:Wl (Bw w1 r):=ak;have G:Wl (Bw W r):=aj rH.o ak;have t:Wl (GB r (M (H W)) 26 #[Z sa (N src) sc,Z dx (N wh) aP,EP i,Z ka (N d) kc,Z ua (N m) uc,Z ea (N aH) ec,Z da (N a) dc]):=Mh.o.of (ak.block _ Mh.o.lt);have x6:Am r (aD (M (H W)) 6)=O (Z da (N a) dc):=QQ t.o 6;have y0:Am r (aD (M (H w1)) 0)=O (I J nk):=QQ Pg.o 0;clear aS ak t0 t1 t2 t3 t4 t5 t6 t7 t8 t9 m0 m1 m2 m3 m4 m5 m6 r0 r1 r2 r3 r4 r5 r6;by_cases z:N a=0
 .have HV:Wl (A=T):=by show _=_;rw[UA.o,Qu (.inl z)]
  clear UA H9 Bq;go_wp2;go_ret;exact⟨Qd HV.o.symm,G.o⟩
 have zb:((N a:Int)==0)=false:=by rw[XN];omega
 have HZ:Wl _:=z;clear z;by_cases R:nk=10
 .have HV:Wl (A=T):=by show _=_;rw[UA.o,Qu (.inr R)]
  subst R;clear UA H9 Bq;go_wp2;go_ret;exact⟨Qd HV.o.symm,G.o⟩
 have cK:(nk==10)=false:=by rw[XN];exact R
 by_cases k9:nk=9
 .have HV:Wl (A=aY ((bO ts ⟨⟨sa,sc,src⟩,dx,aP,wh,i,⟨ka,kc,d⟩,⟨ua,uc,m⟩,⟨ea,ec,aH⟩,⟨da,dc,a⟩⟩ pl nl.toNat).getD vz).order WN):=by show _=_;rw[UA.o,QC (λh=>h.elim HZ.o R),Qu k9]
  obtain⟨aT,aU,bU,u,s',aB,aV⟩:=H9.o k9;rw[aV]at HV;subst k9;clear UA H9;obtain⟨j,hj⟩:=XD aU;subst hj;have aI:j<N pl:=by omega
  rw[Xu]at aB;obtain⟨q0,q8⟩:=gy bE.o u0 u8;have p0:Am r (aD (M (H W)) 0)=O (Z sa (N src) sc):=QQ t.o 0;have p1:Am r (aD (M (H W)) 1)=O (Z dx (N wh) aP):=QQ t.o 1;have p2:Am r (aD (M (H W)) 2)=O (EP i):=QQ t.o 2;have p3:Am r (aD (M (H W)) 3)=O (Z ka (N d) kc):=QQ t.o 3;have p4:Am r (aD (M (H W)) 4)=O (Z ua (N m) uc):=QQ t.o 4;have p5:Am r (aD (M (H W)) 5)=O (Z ea (N aH) ec):=QQ t.o 5;have p6:Am r (aD (M (H W)) 6)=O (Z da (N a) dc):=QQ t.o 6;have y1:Am r (aD (M (H w1)) 1)=O (I J (j:Int)):=QQ Pg.o 1;have bF:Wl _:=aT;have uf:Wl _:=aB;clear aT aB aV aU bU u0 u1 u2 u3 u4 u5 u6 u7 u8 u9;go_upto_region 6 with fail;go_cut [5] from 39 to 49 (λc wx=>c=Y (O (aD (M (H r)) 0))/\GB wx (M (H r)) 80 #[Z ao (N ts) cap,Z sa (N src) sc,Z dx (N wh) aP,EP i,Z ka (N d) kc,Z ua (N m) uc,Z ea (N aH) ec,Z da (N a) dc,Z (O (aD nb no)) (X+1) pcap,Z E5 0 0]/\Bw r wx)
  case first=>
   refine wH r λy=>?_;refine FD 0 y ?_;refine wR 10 λK C=>?_;go_simp;refine oA C y λy=>?_;clear C K;refine wR 11 λK C=>?_;go_simp;refine C.o _ _ y λy=>?_;clear C K;refine wD ?_;try simp only[pU]
   go_wp2_with fail;go_meet;exact⟨rfl,iX r _,y⟩
  case rest=>
  obtain⟨rfl,aC,af⟩:=hcut;rw[<-bQ]at aC;obtain⟨w3,bV⟩:∃x,x=wc:=⟨_,rfl⟩;subst bV;have aJ:Bw w0 w3:=HW.o.trans (((G.o.trans (af.mono G.o.size))).mono HW.o.size);have aK:df w3 (M (H r)) (M (H w0)) 80 3 ao (O (aD nb no)) cap pcap ts ⟨⟨sa,sc,src⟩,dx,aP,wh,i,⟨ka,kc,d⟩,⟨ua,uc,m⟩,⟨ea,ec,aH⟩,⟨da,dc,a⟩⟩ pl [] (Z E5 0 0):=⟨aC,Xl _ _ _ _,Q6 HW.o.size G.o.size⟩;have ax:=Bq.o (M (H r)) (N pl) j w3 [] (Z E5 0 0) aI aI aK aJ Zo (λx hx=>by cases hx) (λhx=>by cases hx);rw[uf.o]at ax;have aL:Wl (Bw r w3):=af;have bG:=cB af y1;have dn:Wl (Bw W w3):=aj G.o af;clear aC af aK aJ y1 q0 q8 Bq y0 x6 p0 p1 p2 p3 p4 p5 p6;go_wp2_with fail;refine XO ax ?_;rintro e w4 ⟨aZ,v,rfl,hv⟩;obtain⟨bf,MN,-,-,bg⟩:=hv _ rfl;clear ax;have uV:Bw r w4:=aL.o.trans (aZ.below aL.o.size (λx hx=>⟨Nat.ne_of_lt hx,λe=>by cases e⟩));have wQ:Wl (Bw W w4):=aj G.o uV;have aN:Wl (aA w4 v.o.ad v.o.xs):=(bg _ (Zx _ _)).2.2;have bI:Wl (v.o.xs=u.order):=congrArg bH.order bf;have aO:Wl (GB w4 (M (H W)) 26 #[Z sa (N src) sc,Z dx (N wh) aP,EP i,Z ka (N d) kc,Z ua (N m) uc,Z ea (N aH) ec,Z da (N a) dc]):=t.o.of (uV.block _ t.o.lt);clear aZ bf bg uV hv;obtain⟨⟨a1,c1,s1⟩,⟨a2,c2,s2⟩,⟨oa,Bp,ox⟩,bW,bX,bY⟩:=v;simp only[aW.cells,ae.val,Option.isSome_some]at*;obtain⟨w5,O7,k5,g5⟩:=aX w4 #[Z a1 (N s1) c1,Z a2 (N s2) c2,Z oa (N ox) Bp,EP bW,I Dc (bX:Int),I Dc (bY:Int)] 74;have ay:GB w5 (M (H W)) 26 #[Z sa (N src) sc,Z dx (N wh) aP,EP i,Z ka (N d) kc,Z ua (N m) uc,Z ea (N aH) ec,Z da (N a) dc]:=aO.o.of (k5.block _ aO.o.lt);have z6:=ay.at 6;have z5:=ay.at 5;have o2:=g5.at 2;have jS:Wl (Bw W w5):=aj wQ.o k5;have bK:Wl (aA w5 oa ox):=Qt k5 aN.o;clear k5 g5 ay bG aN;go_wp2;clear O7;go_loopw [8,9] (λwv iv wr=>∃k:Nat,k<=N a/\iv=I J (k:Int)/\Wl (wr.ownsRow (M (H w5)) 3 1 wv (N (WN.take k)) ((WN.take k).map (Value.int J)))/\Wl (Bw w5 wr)) (λ_ iv _=>N a-(intOf iv).toNat)
  case atStart=>exact⟨0,Q4 _,rfl,Xl _ _ _ _,Qr _ _⟩
  case round=>
   obtain⟨k,hk,rfl,P,nV⟩:=hrel;have bL:=cB nV.o z6;by_cases B:k<N a
   .obtain⟨ob,oo,ag,Q⟩:=Qg (Qt jS.o av.o.ord) B;have L:=Q k B;simp only at ag L;subst ag;obtain⟨bn,bZ⟩:=yl bF.o B;have ai:Wl _:=bD.o k B;obtain⟨p,hp⟩:=XD bn;rw[hp]at L bZ ai;rw[Xu]at ai;have au:p<N aH:=by omega
    obtain⟨lb,lo,bq,bu⟩:=Qg (Qt jS.o av.o.aH) au;have aQ:=bu p au;simp only at bq aQ;subst bq;generalize E aH p 0=sx at*;obtain⟨va,vm,vc,rfl⟩:=Xg P.o;obtain⟨v',w6,bz,aF,vZ,⟨xa,xm,xc,rfl⟩,-⟩:=iA wr.drew (M (H w5)) (Z va vm vc) (WN.take k) (XJ P.o ((Qr _ _).drew)) (by rw[XK];have:=aG.o;omega) nV.o.size sx 23;rw[<-ai.o]at aF;have bM:Wl _:=aF;have sN:Wl (Bw w5 w6):=nV.o.drew.trans (vZ.below nV.o.size (λb hb e=>by have:=(Xf P.o e).1;omega));clear aF vZ Q bu hp ai bn;go_upto_region 12 with fail;refine QW (S:=λx=>Bw w5 x) (by kernel_rfl) (nV.o.drew) (λy=>?_);refine FD 0 y ?_;refine wR 10 λK C=>?_;go_simp;refine oA C y λy=>?_;clear C K;refine wR 11 λK C=>?_;refine X6 (by rfl) _ _ _ (by rfl) (Z va vm vc) (Z (O (aD (M (H wr)) 0)) 1 1) (Z xa xm xc) w6 (by rfl) (by rfl) bz ?_;refine C.o _ _ sN.o (λy=>?_);clear C K bz;refine wR 12 λK C=>?_;go_simp;refine C.o _ _ y λy=>?_;clear C K;refine wD ?_;try simp only[pU]
    clear L aQ bL;go_wp2;go_roundw
    case rel=>exact⟨k+1,by omega,by go_num,bM.o,sN.o⟩
    case measure=>simp[intOf];omega
   .obtain rfl:k=N a:=by omega
    rw[Xt (by rw[ah.o];exact Qs _)]at P;obtain⟨wa,cu,rfl,bA⟩:=jR P.o (by rw[ah.o];omega);have dw:=cB nV.o o2;have aR:=vX oa wa Bp cu ox WN wr (Qt nV.o bK.o) bA;have HE:Wl (A=aY ox WN):=by show _=_;rw[HV.o,show ox=u.order from bI.o];rfl
    have bN:Wl (Bw W wr):=aj jS.o nV.o;have dz:N WN<=4:=by rw[ah.o];exact aG.o
    have dA:Wl _:=ah;generalize aY ox WN=SB at*;clear bA P B;go_wp2_with fail;refine aR.mono ?_;rintro e w7 ⟨rfl,nW⟩;have Df:Wl _:=aj bN.o nW;clear nW aR;go_wp2;go_ret;exact⟨Qd HE.o.symm,Df.o⟩
 .have HV:Wl (A=(jI a&&(decide (nk=8)&&decide (N a<=N d)))):=by show _=_;rw[UA.o,QC (λh=>h.elim HZ.o R),QC k9]
  have dC:(nk==9)=false:=by rw[XN];exact k9
  clear UA H9 Bq k9 R;have y8:Wl _:=G;go_wp2;go_loopw [10] (λiv wr=>∃k:Nat,k<=N a/\iv=I J (k:Int)/\Wl (∀j,j<k->E a j 0=(j:Int))/\wr=r) (λiv _=>N a-(intOf iv).toNat)
  case atStart=>exact⟨0,Q4 _,rfl,λj hj=>by omega,rfl⟩
  case round=>
   obtain⟨k,hk,rfl,HJ,az⟩:=hrel;have az:=az.symm;subst az;by_cases B:k<N a
   .obtain⟨ob,oo,ag,Q⟩:=Qg (Qt G.o av.o.ord) B;have L:=Q k B;simp only at ag L;subst ag;by_cases he:E a k 0=(k:Int)
    .rw[he]at L;clear Q;go_wp2;go_roundw
     case rel=>exact⟨k+1,by omega,by go_num,λj hj=>by
      by_cases e:j=k
      .rw[e];exact he
      .exact HJ.o j (by omega),by trivial⟩
     case measure=>simp[intOf];omega
    .have HE:Wl (A=F):=by show _=_;rw[HV.o,Yk B he];rfl
     have dD:(E a k 0 != (k:Int))=true:=by rw[bne_iff_ne];exact he
     generalize E a k 0=ok at*;clear Q he HJ;go_wp2;go_ret;exact⟨Qd HE.o.symm,G.o⟩
   .obtain rfl:k=N a:=by omega
    have HE:Wl (A=(decide (nk=8)&&decide (N a<=N d))):=by show _=_;rw[HV.o,Ui HJ.o];rfl
    have x3:Am r (aD (M (H W)) 3)=O (Z ka (N d) kc):=QQ t.o 3;clear HV HJ B;by_cases k8:nk=8
    .subst k8;by_cases bB:N a<=N d
     .have aa:Wl (A=T):=by show _=_;rw[HE.o,QD bB];rfl
      have bP:(N a:Int)<=(N d:Int):=by omega
      clear HE;go_wp2;go_ret;exact⟨Qd aa.o.symm,G.o⟩
     .have aa:Wl (A=F):=by show _=_;rw[HE.o,QX bB];rfl
      have bP:¬(N a:Int)<=(N d:Int):=by omega
      clear HE;go_wp2;go_ret;exact⟨Qd aa.o.symm,G.o⟩
    .have aa:Wl (A=F):=by show _=_;rw[HE.o,QX k8];rfl
     have dE:(nk==8)=false:=by rw[XN];exact k8
     clear HE k8;go_wp2;go_ret;exact⟨Qd aa.o.symm,G.o⟩
end
def qV(ts:List ag)(q:af)(pl:List ai):Int:=if q.check ts=0 then (if (xk ts q pl).isSome=T then 0 else 5) else q.check ts
def Uj:Option bH->Nat
 |some v=>v.cost
 |none=>0
def Uk(ts:List ag)(q:af)(pl:List ai):Nat:=if q.check ts=0 then Uj (xk ts q pl) else 0
def Ul(Ez:Int)(C:Nat)(w:U)(e:Ending)(w':U):Prop:=∃v:aW,e=FR (Ph #[FN v.cells,I J Ez])/\v.cost=C/\Bw w w'
def Um{w w1 w2 Zq:U}(hb:Bw w w2)(hl:M (H w)<=M (H w1))(g:GB w2 (M (H w1)) 74 #[Z E5 0 0,Z E5 0 0,Z E5 0 0,EP F,I Dc 0,I Dc 0])(hZ:Bw w2 Zq)(v:aW)(Ez:Int) :
  Wl (Ul Ez v.cost w (FR (Ph #[FN v.cells,I J Ez])) (World.oQ Zq (M (H w1)) v))/\Wl ((loadVar 74 (aD (M (H w1)) 0)).run V (World.oQ Zq (M (H w1)) v)=.ok (FN v.cells) (World.oQ Zq (M (H w1)) v))/\GB Zq (M (H w1)) 74 #[Z E5 0 0,Z E5 0 0,Z E5 0 0,EP F,I Dc 0,I Dc 0]:=by have a:=g.of (hZ.block _ g.lt);have e:=Jo Zq (M (H w1)) v;have d:=aj hb hZ;exact⟨⟨v,rfl,rfl,d.trans (e.below d.size λb hb=>by show b≠M (H w1);omega)⟩,vB (World.wX a v),a⟩
def ahD(ao po:Option Addr)(cap pcap:Nat)(ts:List ag)(q:af)(pl:List ai)(w:U)(hx:aN w ao ts)(hq:q.At w)(hn:bT w po pl) :
  Calls V 20 #[Z ao (N ts) cap,FN q.cells,Z po (N pl) pcap] w (Ul (qV ts q pl) (Uk ts q pl) w):=by
 obtain⟨w1,aD,K,aa⟩:=aX w q.cells 26;obtain⟨w2,aT,ah,ak⟩:=aX w1 #[Z E5 0 0,Z E5 0 0,Z E5 0 0,EP F,I Dc 0,I Dc 0] 74;have n:=aj K ah;have hg:=(aa.of (ah.block _ aa.lt)).k7;have A:=OY ao cap ts q w2 (hx.below n) (hq.below n);obtain⟨Q,KH⟩:∃c,q.check ts=c:=⟨_,rfl⟩;obtain⟨RE,t⟩:∃c,qV ts q pl=c:=⟨_,rfl⟩;obtain⟨RC,y⟩:∃c,Uk ts q pl=c:=⟨_,rfl⟩;have aO:Wl (Q=0->∀x,Bw w x->N pl<=64->CZ x ao po ts q pl):=λz x hb hl=>⟨hx.below hb,hq.below hb,Jh hb hn,(uz (KH.trans z)).1,hl⟩;have zh:Wl (Q=0->(q.group=F->aM q.ord.xs (N q.aH.xs)=T)/\N q.ord.xs<=4):=λz=>by obtain⟨_,_,h3,h4,_⟩:=uz (KH.trans z);exact⟨h3,h4⟩
 unfold qV Uk at*;rw[KH]at t y A;have d:Wl (Q=0->xk ts q pl=E5->RE=5/\RC=0):=λz h=>by rw[<-t,<-y,Qu z,Qu z,h];exact⟨rfl,rfl⟩
 have B:Wl (Q=0->∀L,xk ts q pl=O L->RE=0/\RC=L.cost):=λz L h=>by rw[<-t,<-y,Qu z,Qu z,h];exact⟨rfl,rfl⟩
 have aQ:Wl (Q≠0->RE=Q/\RC=0):=λz=>by rw[<-t,<-y,QC z,QC z];exact⟨rfl,rfl⟩
 rw[KH,t,y];have NN:=Zh λ(Zq:U) (hZ:Bw w2 Zq) (v:aW) (Ez:Int)=>Um n K.size ak hZ v Ez;have i:=Zh λ(Zq:U) (hZ:Bw w2 Zq) (Ez:Int)=>Um n K.size ak hZ Fh Ez;have HC:=Zh n;have aV:=hn.1;clear KH t y hx hq hn K ah aa ak n;simp only[World.oQ,aW.cells,Fh,af.cells,ae.val,ZO,Int.natCast_zero]at i aD A hg ⊢;go_enter Tryz.func20,Tryz.ntmps20;go_wp2_with fail;refine A.mono ?_;rintro e S ⟨rfl,j⟩;clear A aD aT;by_cases hz:Q=0
 rotate_left
 .have aY:(Q != 0)=true:=by rw[bne_iff_ne];exact hz
  obtain⟨rfl,rfl⟩:=aQ.out hz;clear hz;obtain⟨l,m,a⟩:=i.out S j RE;have hc:=a.k6;have hf:=GB.f6 a;go_wp2;exact X0 (Jp (p:=6) (u:=7) (x:=I J RE) rfl rfl rfl m.out) rfl l.out
 subst hz;by_cases f:N pl<1∨64<N pl
 .obtain⟨rfl,rfl⟩:=d.out (by trivial) (by unfold xk;rw[Qu f]);have f:(N pl:Int)<1∨(¬(N pl:Int)<1/\(64:Int)<N pl):=by omega
  rcases f with h|⟨h,h'⟩
  all_goals
   obtain⟨l,m,a⟩:=i.out S j 5;have hc:=a.k6;have hf:=GB.f6 a;go_wp2;exact X0 (Jp (p:=6) (u:=7) (x:=I J 5) rfl rfl rfl m.out) rfl l.out
 obtain⟨k,aF⟩:∃k,N pl=k+1:=⟨N pl-1,by omega⟩;have hD:=aO.out (by trivial) S (aj HC.out j) (by omega);have b:Wl (xk ts q pl=(fC ts q pl (N pl) k []).bind λx=>if x.1.out=T/\N x.2=N pl/\ou ts q pl=T then O x.1 else E5):=by show _=_;unfold xk;rw[QC f,show (N pl)-1=k by omega]
 have aZ:¬(N pl:Int)<1:=by omega
 have bf:¬(64:Int)<(N pl:Int):=by omega
 have bg:N pl<=64:=by omega
 have r:=Zh λx (hr:fC ts q pl (N pl) k []=O x) (hk:(E pl k nz).kind=9)=>ads (q:=q) (by omega) (show fC ts q pl (N pl) (N pl-1) []=O (x.1,x.2) by rw[show N pl-1=k by omega];exact hr) (by rw[show N pl-1=k by omega]) hk;clear f;obtain⟨d0,d1,d2,d3,d4,d5,d6⟩:=hg;obtain⟨d0,d1,d2,d3,d4⟩:=ji j d0 d1 d2 d3 d4;obtain⟨d5,d6⟩:=gy j d5 d6;obtain⟨w4,aG,k4,g4⟩:=aX S #[Z ao (N ts) cap,Z q.src.ad (N q.src.xs) q.src.cap,Z q.dx (N q.wh) q.aP,EP q.group,Z q.keys.ad (N q.keys.xs) q.keys.cap,Z q.sums.ad (N q.sums.xs) q.sums.cap,Z q.aH.ad (N q.aH.xs) q.aH.cap,Z q.ord.ad (N q.ord.xs) q.ord.cap,Z po (N pl) pcap,Z E5 0 0] 80;have W:=T9 S (M (H S)) ao po cap pcap ts q pl hD (N pl) k w4 [] (Z E5 0 0) (by omega) (by omega) ⟨g4,Xl _ _ _ _,Qs _⟩ k4 Zo (λx hx=>by cases hx) (λhx=>by cases hx);obtain⟨xJ,aU,aI⟩:=fe hD j k4;have bn:IntKind.i64.wrap (k:Int)=(k:Int):=by simp[IntKind.wrap,IntKind.bits,IntKind.signed];omega
 have bq:=Zh aF;rw[aF]at aG;clear hD k4 g4 j;obtain⟨R,hR⟩:=eX (fC ts q pl (N pl) k []);rw[hR]at W b r;clear hR;go_wp2_with fail;refine XO W ?_;rintro e w5 ⟨aJ,v,rfl,hv⟩;have ay:=aI.out.trans (aJ.below aI.out.size (λx hx=>⟨Nat.ne_of_lt hx,λe=>by cases e⟩));clear W aJ aG d0 d1 d2 d3 d4 d5 d6;obtain⟨⟨a1,c1,s1⟩,⟨a2,c2,s2⟩,⟨oa,Bp,ox⟩,au,aK,av⟩:=v;obtain⟨w6,Pf,k6,g6⟩:=aX w5 #[Z a1 (N s1) c1,Z a2 (N s2) c2,Z oa (N ox) Bp,EP au,I Dc (aK:Int),I Dc (av:Int)] 74;have Un:=Zh (aj ay k6);have C:=Zh (aj aU.out Un.out);simp only[aW.cells,ae.val];clear ay;rcases R with _|⟨L,P⟩
 .obtain⟨rfl,rfl⟩:=d.out (by trivial) (by rw[b.out];rfl);clear b r hv g6 d B;obtain⟨l,m,a⟩:=i.out w6 C.out 5;have hc:=a.k6;have hf:=GB.f6 a;go_wp2;exact X0 (Jp (p:=6) (u:=7) (x:=I J 5) rfl rfl rfl m.out) rfl l.out
 obtain⟨ax,MN,aL,-,-⟩:=hv _ rfl;have D:=aL.below k6;obtain⟨qa,qc,rfl⟩:∃qa qc,MN = Z qa (N P) qc:=by
  rcases D.own.2 with⟨h,hn⟩|⟨g,c,cur,h,_⟩
  .exact⟨E5,0,by rw[h,hn]⟩
  .exact⟨_,_,h⟩
 have t9:=D.g.at 9;have p3:=g6.at 3;have az:=Zh g6;have X:Wl (L.out=au/\L.cost=av):=⟨congrArg bH.out ax.symm,congrArg bH.cost ax.symm⟩;have G:=Zh D;clear k6 g6 aL D ax hv;rcases au with _|_
 .obtain⟨rfl,rfl⟩:=d.out (by trivial) (by rw[b.out,Zr,QC (λh=>by have:=h.1;rw[X.out.1]at this;cases this)]);clear b r d B G xJ zh;obtain⟨l,m,a⟩:=i.out w6 C.out 5;have hc:=a.k6;have hf:=GB.f6 a;go_wp2;exact X0 (Jp (p:=6) (u:=7) (x:=I J 5) rfl rfl rfl m.out) rfl l.out
 by_cases hs:N P=N pl
 rotate_left
 .have aR:((N P:Int) != (k:Int)+1)=true:=by rw[bne_iff_ne];omega
  have aS:((N P:Int) != (N pl:Int))=true:=by rw[bne_iff_ne];omega
  obtain⟨rfl,rfl⟩:=d.out (by trivial) (by rw[b.out,Zr,QC (λh=>hs h.2.1)]);clear hs b r d B G xJ zh;obtain⟨l,m,a⟩:=i.out w6 C.out 5;have hc:=a.k6;have hf:=GB.f6 a;go_wp2;exact X0 (Jp (p:=6) (u:=7) (x:=I J 5) rfl rfl rfl m.out) rfl l.out
 have aR:((N P:Int) != (k:Int)+1)=false:=by rw[bne_eq_false_iff_eq];omega
 have aS:((N P:Int) != (N pl:Int))=false:=by rw[bne_eq_false_iff_eq];omega
 have YO:=Yl S (M (H S)) ao po cap pcap ts q pl xJ.out w6 P (Z qa (N P) qc) G.out Un.out (by omega) (zh.out (by trivial)).2 (λhk=>by
  rw[show N pl-1=k by omega]at hk ⊢;obtain⟨h1,h2,h3,h4⟩:=r.out _ rfl hk;exact⟨(zh.out (by trivial)).1 h1,h2,h3,h4⟩)
 have aA:Wl (xk ts q pl=if ou ts q pl=T then O L else E5):=by show _=_;rw[b.out,Zr];simp[X.out.1,hs]
 clear hs r G xJ b zh;generalize ou ts q pl=SB at*;go_wp2_with fail;refine YO.mono ?_;rintro e w7 ⟨rfl,nW⟩;clear YO Pf t9 p3;have aB:=Zh (aj C.out nW);have hw:=(az.out.of (nW.block _ az.out.lt)).k6;clear nW;rcases SB with _|_
 .obtain⟨rfl,rfl⟩:=d.out (by trivial) (by rw[aA.out];rfl);obtain⟨l,m,a⟩:=i.out w7 aB.out 5;have hc:=a.k6;have hf:=GB.f6 a;go_wp2;exact X0 (Jp (p:=6) (u:=7) (x:=I J 5) rfl rfl rfl m.out) rfl l.out
 have aC:=B.out (by trivial) L (by rw[aA.out];rfl);rw[X.out.2]at aC;obtain⟨z,h1⟩:=aC;subst RE;subst RC;obtain⟨l,m,a⟩:=NN.out w7 aB.out ⟨⟨a1,c1,s1⟩,⟨a2,c2,s2⟩,⟨oa,Bp,ox⟩,T,aK,av⟩ 0;simp only[World.oQ,aW.cells,ae.val]at l m;have hc:=a.k6;have hf:=GB.f6 a;go_wp2;exact X0 (Jp (p:=6) (u:=7) (x:=I J 0) rfl rfl rfl m.out) rfl l.out
structure fK(q q':af):Prop where
 src:q'.src.xs=q.src.xs
 wl:N q'.wh=N q.wh
 wh:∀i,(E q'.wh i lz).cs=(E q.wh i lz).cs
 group:q'.group=q.group
 keys:q'.keys.xs=q.keys.xs
 aH:q'.aH.xs=q.aH.xs
 ord:q'.ord.xs=q.ord.xs
theorem fK.rises(h:fK q q')(ts:List ag)(l:List Int)(s:Nat):jm ts q' l s=jm ts q l s:=by unfold jm;simp only[h.src,h.wl,h.wh]
theorem fK.key(h:fK q q')(ts:List ag)(n:ai)(a b:Nat):nR ts q' n a b=nR ts q n a b:=by unfold nR;simp only[h.src,h.wl,h.wh]
theorem fK.join(h:fK q q')(ts:List ag)(n:ai)(a b:Nat):kQ ts q' n a b=kQ ts q n a b:=by unfold kQ;rw[h.rises]
theorem fK.whole(h:fK q q')(l:gz):jV q' l=jV q l:=by unfold jV;simp only[h.src,h.wl]
theorem fK.fits(h:fK q q')(ts:List ag)(n:ai)(l r:gz):dA ts q' n l r=dA ts q n l r:=by unfold dA;simp only[h.rises,h.key,h.join,h.whole,h.src,h.group,h.keys,h.ord]
theorem fK.size(h:fK q q')(ts:List ag)(s c:Nat):mP ts q' s c=mP ts q s c:=by unfold mP;simp only[h.src,h.wh]
theorem fK.part(h:fK q q')(ts:List ag)(n:ai)(l r:gz):xQ ts q' n l r=xQ ts q n l r:=by unfold xQ;simp only[h.size]
theorem fK.step(h:fK q q')(ts:List ag)(n:ai)(ps:List gz):sZ ts q' n ps=sZ ts q n ps:=by unfold sZ;simp only[h.fits,h.part]
theorem fK.parts{q q':af}(h:fK q q')(ts:List ag)(pl:List ai):∀k,gP ts q' pl k=gP ts q pl k
 |0=>rfl
 |k+1=>by show (gP ts q' pl k).bind _=(gP ts q pl k).bind _;rw[fK.parts h ts pl k];congr 1;grind [fK.step]
theorem fK.ends(h:fK q q')(k:Int)(o:List Int):uO q' k o=uO q k o:=by unfold uO oq;simp only[h.ord,h.aH,h.keys]
def fK.look(h:fK q q')(ts:List ag)(pl:List ai):fQ ts q' pl=fQ ts q pl:=by unfold fQ;simp only[h.parts,h.ends]
def ai.canon(n:ai):ai:={ n with cl:=⟨E5,0,n.cl.xs⟩,co:=⟨E5,0,n.co.xs⟩ }
theorem zG(pl:List ai)(i:Nat):E (pl.map ai.canon) i nz=(E pl i nz).canon:=sH ai.canon pl i nz
theorem Fw(ts:List ag)(q:af)(pl:List ai):∀k,gP ts q (pl.map ai.canon) k=gP ts q pl k
 |0=>rfl
 |k+1=>by show (gP ts q (pl.map ai.canon) k).bind _=(gP ts q pl k).bind _;rw[Fw ts q pl k,zG];rfl
theorem adB(pl:List ai)(i:Nat):nQ (pl.map ai.canon) i=nQ pl i:=by unfold nQ;rw[zG];rfl
theorem Ym(pl:List ai):dD (pl.map ai.canon)=dD pl:=by unfold dD xS;simp only[Q8,zG,adB];rfl
def JO(ts:List ag)(q:af)(pl:List ai):fQ ts q (pl.map ai.canon)=fQ ts q pl:=by unfold fQ;simp only[Ym,Q8,Fw,zG];rfl
theorem Yn{a b:ai}(h:a.same b):a.canon=b.canon:=by obtain⟨d,e,f,g,i,j,k⟩:=h;unfold ai.canon;simp_all
theorem Yo(ts:List ag)(q:af)(hl:N ns=N pl)(h:∀i,i<N pl->(E ns i nz).same (E pl i nz)):fQ ts q ns=fQ ts q pl:=by rw[<-JO ts q ns,<-JO ts q pl];grind [fQ,List.ext_getElem,List.length_map,Yn]
theorem adC(ts:List ag)(q:af)(pl:List ai):ahE ts q pl=qV ts q pl/\aau ts q pl=Uk ts q pl:=by
 unfold ahE qV aau Uk;by_cases a:q.check ts=0
 .rw[Qu a,Qu a,Qu a,Qu a];rcases abm (uz a).1.ok pl with⟨h1,h2⟩|⟨ps,v,h1,h2,h3,h4,_,h6⟩
  .grind [Uo,Uj]
  .rw[h1,h2];refine⟨rfl,?_⟩
   show (E ps (N ps-1) pz).cost=v.cost;simp_all
 simp_all
def Yu(q:af)(bf bk bu be bo bw:Nat)(A:Nat->Nat):fK q (vE q bf bk bu be bo bw A):=
 ⟨rfl,lJ q.wh A,λi=>by
  have h:(pK q.wh A).map az.cs=q.wh.map az.cs:=MX q.wh A;have a:=sH az.cs (pK q.wh A) i lz;have b:=sH az.cs q.wh i lz;rw[h]at a;exact a.symm.trans b,rfl,rfl,rfl,rfl⟩
def ahG(e:Int)(w:U):Calls V 12 #[I J e] w λr a=>r=FR (I J e)/\a = w:=by go_enter Tryz.func12,Tryz.ntmps12;go_wp2;go_ret;exact⟨rfl,rfl⟩
theorem TF{a b m:List Int}:∀{l:List Int},cmpL a b (l++m)=if cmpL a b l=0 then cmpL a b m else cmpL a b l
 |[]=>rfl
 |p::l=>by have ih:=TF (a:=a) (b:=b) (m:=m) (l:=l);grind [cmpL]
theorem iF.start{v:bH}{Fq:List (List Int) × List Int}{ref:List (List Int)}(h:iF ts q db v Fq ref){ks:List Int}(hs:aY v.order ks=T):dh (GM (aO Fq.2 ks)) Fq.1:=by unfold aY at hs;simp only[Qm,Qz]at hs;refine h.sorted.imp λ{a b} h=>?_;rw[<-Xo (N ks) v.order,hs.2]at h;unfold aO at*;rw[Ql]at h;unfold GM at*;rw[TF]at h;grind
theorem I4{f:bq}{ts:List ag}{q:af}{po:Option Addr}{pc:Nat}{pl:List ai}{pa:Option Addr}{pac:Nat}{ps:List aK}{d:Option Addr}{dc:Nat}{db:List aJ}{w0:U}(Hq:Oh f ts q po pl pa ps d db w0)(oo:aab ts q)(hkl:N q.keys.xs<=4)(hul:N q.sums.xs<=4)(hel:N q.aH.xs<=8)
  (hor:∀i v,i<N pl->bO ts q pl i=O v->v.out=T->N (mi ts q pl db (i+1) i)<=1000000/\∀r∈mi ts q pl db (i+1) i,aM q.ord.xs (N r)=T):∀(Fq i:Nat) (v:bH),i<Fq->i<N pl->bO ts q pl i=O v->v.out=T->∀w,Bw w0 w->
  Calls V 34 #[FN (jH f ts q (Z po (N pl) pc) (Z pa (N ps) pac) (Z d (N db) dc)),FN (E pl i nz).cells] w λe z=>∃v,e=FR v/\yJ V 3 v (mi ts q pl db Fq i) z/\Bw w z
 |0,_,_,h,_,_,_=>by omega
 |Fq+1,i,v,hi,hil,hv,hout=>λw m=>by
  have ok:=Hq.ok;rcases lq ts q pl hv with⟨g,n,hs,B,C,k⟩|⟨k2,k10,k3,k4,k5,hl0,Uy,l,hl,hn⟩|⟨k3,k5,hl0,Uy,hr0,hri,l,r,hl,hr,hn⟩
  .rw[hout]at k;cases k
  .obtain⟨_,k,_,A,b,B,C,p,_⟩:=Jg ts q hn;rw[hout]at p;have D:=Zn p.symm;unfold kP at b;rw[QC (by omega),QC (by omega),QC (by omega)]at b;refine agC f ts q po pc pl pa pac ps _ (E pl i nz) (E pl i nz).l.toNat w0 w m Hq.facts Hq.nodes (by omega) (by omega) (bU ts q pl db Fq (E pl i nz).l.toNat) _ (mi ts q pl db Fq (E pl i nz).l.toNat) (λg x t=>?_) (λg x t=>?_) (λg=>?_) (λg=>?_) (λg=>?_) (λg=>?_) (λg=>?_) (by omega)
   .have a:l.out=false:=by grind
    exact Cv Hq Fq _ l (by omega) (by omega) hl a x t
   .exact I4 Hq oo hkl hul hel hor Fq _ l (by omega) (by omega) hl (k.2 g) x t
   .have u:mi ts q pl db Fq (E pl i nz).l.toNat=mi ts q pl db ((E pl i nz).l.toNat+1) (E pl i nz).l.toNat:=acE ts q pl db hl (k.2 g) _ _ (by omega) (by omega);have y:=hor _ l (by omega) hl (k.2 g);rw[QC (by omega),QC (by omega),QC (by omega),Qu g,Qz]at b;refine⟨?_,b,by rw[u];exact y.1,by rw[u];exact y.2⟩
    conv=>lhs;unfold mi
    rw[Qu g]
   .have a:l.out=false:=by grind
    rw[QC (by omega),Qu g,Qm]at b;exact Kc ((kF ok pl Hq.We Fq (E pl i nz).l.toNat l (by omega) hl a).start b.2)
   .have a:l.out=false:=by grind
    have j:=kF ok pl Hq.We Fq (E pl i nz).l.toNat l (by omega) hl a;have m:rT q l=true:=by grind
    refine⟨?_,j.every ok m oo.keys,j.every ok m oo.sums,hkl,hul⟩
    conv=>lhs;unfold mi
    grind
   .have a:l.out=false:=by
     cases e:l.out with
     |false=>rfl
     |true=>have:=k.1 e;omega
    have j:=kF ok pl Hq.We Fq (E pl i nz).l.toNat l (by omega) hl a;rw[QC (by omega),QC (by omega),Qu g,Qm]at b;refine⟨?_,j.every ok b.2 oo.aH,hel⟩
    conv=>lhs;unfold mi
    rw[QC (by omega),Qu g]
   .have a:l.out=false:=by grind
    have j:=kF ok pl Hq.We Fq (E pl i nz).l.toNat l (by omega) hl a;have n:=j.aad ok Hq.five Hq.many;exact⟨n.1,n.2.1,j.lens,n.2.2⟩
  .obtain⟨_,_,_,_,_,_,_,p,_⟩:=Jg ts q hn
   grind
def WS(f:bq)(ts:List ag)(q:af):∃(a0 a1 a3 a4 a5 a6 a7 Gp O5 a12:Option Addr) (n0 n1 n3 n4 n5 n6 n7 n10 n11 n12 n8 n9 c0 c1 c3 c4 c5 c6 c7 c10 c11 c12:Nat) (b2:Bool),f.cells ts q=#[Z a0 n0 c0,Z a1 n1 c1,EP b2,Z a3 n3 c3,Z a4 n4 c4,Z a5 n5 c5,Z a6 n6 c6,Z a7 n7 c7,I Dc (n8:Int),I Dc (n9:Int),Z Gp n10 c10,Z O5 n11 c11,Z a12 n12 c12]:=⟨_,_,_,_,_,_,_,_,_,_,_,_,_,_,_,_,_,_,_,_,_,_,_,_,_,_,_,_,_,_,_,_,_,rfl⟩
def OD(f:bq)(ts:List ag)(q:af)(po:Option Addr)(pc:Nat)(pl:List ai)(pa:Option Addr)(pac:Nat)(ps:List aK)(d:Option Addr)(dl dc:Nat)(X:List (List Int))(w:U)(hn:bT w po pl)(h1:1<=N pl)
  (ho:∀x,Bw w x->Calls V 34 #[FN (jH f ts q (Z po (N pl) pc) (Z pa (N ps) pac) (Z d dl dc)),FN (E pl (N pl-1) nz).cells] x λe D=>∃v,e=FR v/\yJ V 3 v X D/\Bw x D) :
  Calls V 19 #[FN (f.cells ts q),Z po (N pl) pc,Z pa (N ps) pac,Z d dl dc] w λe D=>∃v,e=FR v/\yJ V 3 v X D/\Bw w D:=by
 obtain⟨a0,a1,a3,a4,a5,a6,a7,Gp,O5,k,n0,n1,n3,n4,n5,n6,n7,m,n,p,n8,n9,c0,c1,c3,c4,c5,c6,c7,t,u,y,b2,dY⟩:=WS f ts q;obtain⟨G,no,aa,L,P,Q,R,S,W,SH,-,-⟩:=hn.2 (N pl-1) (by omega);subst aa;have uE:jH f ts q (Z (O (aD G no)) (N pl) pc) (Z pa (N ps) pac) (Z d dl dc)=#[Z a0 n0 c0,Z a1 n1 c1,EP b2,Z a3 n3 c3,Z a4 n4 c4,Z a5 n5 c5,Z a6 n6 c6,Z a7 n7 c7,I Dc (n8:Int),I Dc (n9:Int),Z Gp m t,Z O5 n u,Z k p y,Z (O (aD G no)) (N pl) pc,Z pa (N ps) pac,Z d dl dc]:=by unfold jH;rw[dY];rfl
 have V9:(E pl (N pl-1) nz).cells=#[I J (E pl (N pl-1) nz).kind,I J (E pl (N pl-1) nz).l,I J (E pl (N pl-1) nz).r,I J (E pl (N pl-1) nz).source,(E pl (N pl-1) nz).cl.val,I J (E pl (N pl-1) nz).key,(E pl (N pl-1) nz).co.val]:=rfl;rw[uE,V9]at ho;rw[dY];obtain⟨w1,ae,z,A⟩:=aX w #[Z a0 n0 c0,Z a1 n1 c1,EP b2,Z a3 n3 c3,Z a4 n4 c4,Z a5 n5 c5,Z a6 n6 c6,Z a7 n7 c7,I Dc (n8:Int),I Dc (n9:Int),Z Gp m t,Z O5 n u,Z k p y] 63;obtain⟨w2,B,C,b⟩:=aX w1 #[Z a0 n0 c0,Z a1 n1 c1,EP b2,Z a3 n3 c3,Z a4 n4 c4,Z a5 n5 c5,Z a6 n6 c6,Z a7 n7 c7,I Dc (n8:Int),I Dc (n9:Int),Z Gp m t,Z O5 n u,Z k p y,Z (O (aD G no)) (N pl) pc,Z pa (N ps) pac,Z d dl dc] 98;have i:=aj z C;obtain⟨k0,k1,k2,k3,k4,k5,k6,k7,k8,k9,ax,ay,az⟩:=A.zR;obtain⟨dM,dX,dQ,dR,eu,eU,eH,gq,gm,gp,bY,dw,bZ⟩:=b.zR;have nN:=b.at 13;have oL:=b.at 14;have oM:=b.at 15;obtain⟨L,P,Q,R,S⟩:=ji i L P Q R S;obtain⟨W,SH⟩:=gy i W SH;obtain⟨a,hN⟩:∃a:Nat,a=N pl-1:=⟨_,rfl⟩;rw[<-hN]at ho L P Q R S W SH;have j:N pl=a+1:=by omega
 have ak:=hn.1;obtain⟨HO,HC⟩:=aV ho i;rw[j]at B;rw[j]at HO;rw[j]at nN;rw[j];clear ho hn dY uE V9 z C A b i hN;have au:IntKind.i64.wrap (a:Int)=(a:Int):=by rw[XG];omega
 have av:¬((a:Int)+1<=(a:Int)):=by omega
 generalize (E pl a nz).kind=l0 at*;generalize (E pl a nz).l=l1 at*;generalize (E pl a nz).r=l2 at*;generalize (E pl a nz).source=l3 at*;generalize (E pl a nz).cl.val=l4 at*;generalize (E pl a nz).key=l5 at*;generalize (E pl a nz).co.val=l6 at*;go_enter Tryz.func19,Tryz.ntmps19;go_upto_region 2 with fail;clear ae B;refine wH w2 λg=>?_;refine wA3 0 g ?_;refine wt 3 (I J ((a+1:Nat):Int)) g ?_;refine wt 4 (I J (a:Int)) g ?_;refine wt 5 (Y (O (aD G (no+a*7)))) g ?_;refine wT 6 (FN #[I J l0,I J l1,I J l2,I J l3,l4,I J l5,l6]) g (λx hx=>?_) ?_
 .have e0:=Pk hx L P Q R S W SH;go_simp
 refine wR 7 λK hK=>?_;go_simp;refine(HO.out _ (aj HC.out g)).mono ?_;rintro e w3 ⟨v,rfl,hv,ah⟩;refine oT hK g ah λg=>?_;clear hK K;obtain⟨HV,HS⟩:=aV hv g;clear hv;refine Fz 8 g ?_;refine wD ?_;try simp only[pU]
 go_wp2_with fail;go_ret;exact⟨v,rfl,HV.out,aj HC.out HS.out⟩
def adp{w0:U}{b:Nat}{ao po:Option Addr}{cap pcap:Nat}(D:CZ w0 ao po ts q pl)(dv:KX)(i:Nat)(W:U)(seen:List Nat)(sv:KX)(Ff:i<N pl)(hT:df W b (M (H w0)) 80 3 ao po cap pcap ts q pl seen sv)(hW:Bw w0 W)(hdv:∃a m c,dv=Z a m c)
  (n:ai) (hn:E pl i nz=n) (hk:3<=n.kind/\n.kind<=5) (L R:List (List Int)) (hlr:N L<=100000/\N R<=100000/\N L*N R<=1000000)
  (hIL:∀x,Bw W x->Calls V 22 #[Y (O (aD b 0)),I J n.l,dv] x λe w'=>∃v ys,e=FR v/\ys.map ae.xs=L/\Listed 23 3 (M (H x)) v ys w'/\Bw x w')
  (hIR:∀x,Bw W x->Calls V 22 #[Y (O (aD b 0)),I J n.r,dv] x λe w'=>∃v ys,e=FR v/\ys.map ae.xs=R/\Listed 23 3 (M (H x)) v ys w'/\Bw x w')
  (ri:Nat) (er:n.r=ri) (hri:ri<N pl) (v:bH) (s:List Nat) (hrd:fC ts q pl (ri+1) ri []=O (v,s))
  (hlen:∀r,r∈L∨r∈R->(N r:Int)=ak ts q.src.xs) (hal:aM n.cl.xs (N q.wh)=T) (hcs:∀j,j<N q.wh->∀k,k<(E q.wh j lz).cs.length->dC ((E q.wh j lz).cs.getD k cz) (ak ts q.src.xs)=T) :
  Calls V 22 #[Y (O (aD b 0)),I J i,dv] W λe w'=>∃v' ys,e=FR v'/\ys.map ae.xs=(L.flatMap λa=>R.map λb=>jF ts q.src.xs a b v.sources).filter (eP q.wh n.cl.xs)/\Listed 23 3 (M (H W)) v' ys w'/\Bw W w':=by
 obtain⟨pb,aZ,e,c0,c1,c2,c3,c4,c5,c6,bf,dA⟩:=(D.plan.below hW).2 i Ff;have dY:=D.len;have dZ:=D.plan.1;rw[hn]at c0 c1 c2 c3 c4 c5 c6 bf dA;subst e;obtain⟨da,dm,dc,rfl⟩:=hdv;have HT:=Zh λ(x:U) (hx:Bw W x)=>(hT.below hx).g;obtain⟨nk,nl,nr,ns,⟨ca,cc,B⟩,key,⟨oa,oc,ox⟩⟩:=n;have aK:=Zh (Qp D.Aq.cat D.Aq.src (N q.src.xs) (Qs _));rw[Zb]at aK;have bK:=Zh λ(x y S:ae) (X:U) (p:Bw W X) (hx:x.At X) (hy:y.At X) (A:S.At X) (hxl:(N x.xs:Int)=ak ts q.src.xs) (hyl:(N y.xs:Int)=ak ts q.src.xs)=>ac9 ao cap ts q x y S X (D.cat.below (aj hW p)) D.Aq.cat (D.query.below (aj hW p)).src D.Aq.five D.Aq.src hx hy A (by omega) (by omega) (by have:=aK.o;have:=D.Aq.five;omega);have O9:=Zh λ(X:U) (p:Bw W X) (r:ae) (hm:(N r.xs:Int)=ak ts q.src.xs) (hr:r.At X)=>MU q ca r.ad cc r.cap B r.xs X (D.query.below (aj hW p)).wh (Qt p bf) hr hal (λj hj k hk=>by rw[hm];exact hcs j hj k hk);have Bq:=Zh λ(tb:Nat) (X:U) (p:Bw W X) (h:df X tb (M (H w0)) 80 3 ao (O (aD pb aZ)) cap pcap ts q pl [] (Z E5 0 0))=>T9 w0 tb ao _ cap pcap ts q pl D (ri+1) ri X [] (Z E5 0 0) (by omega) hri h (aj hW p) Zo (λx hx=>by cases hx) (λhx=>by cases hx);rw[hrd]at Bq;have Cu:=Zh (X4 hT.lo hW.size);obtain⟨h1,h2,h3⟩:=hlr;simp only[ae.val]at*;subst er;obtain⟨w1,dB,bg,dD⟩:=aX W #[I J nk,I J nl,I J (ri:Int),I J ns,Z ca (N B) cc,I J key,Z oa (N ox) oc] 50;obtain⟨g0,g1,g2,g3,g4,g5,g6⟩:=dD.k7;have bL:=HT.o W (Qr _ _);have t8:=bL.at 8;have n1:(nk==1)=false:=by simp;omega
 have n2:(nk==2)=false:=by simp;omega
 have n6:(nk==6)=false:=by simp;omega
 have n7:(nk==7)=false:=by simp;omega
 have n8:(nk==8)=false:=by simp;omega
 have n9:(nk==9)=false:=by simp;omega
 have ed:(nk==10)=false:=by simp;omega
 go_enter Tryz.func22,Tryz.ntmps22;go_upto_region 2 with fail;try rw[dB]
 have bM:=Zh bg;have G:=hIL w1 bg;have bN:=Zh hIR;go_wp2_with fail;refine G.mono ?_;rintro e w2 ⟨vl,t,rfl,bn,dE,bq⟩;have bO:N t=N L:=by rw[<-bn,Q8]
 obtain⟨lo,UC,rfl,aA⟩:=dE.ug (by omega);have aL:=aj bM.o bq;obtain⟨bu,PW⟩:=aV bn aA.1;obtain⟨d0,d2,d4⟩:=J3 bq g0 g2 g4;have G:=bN.o w2 aL;have Kg:=Zh aL;have ek:N t<=100000:=by omega
 have bP:=Zh bO;go_wp2_with fail;refine G.mono ?_;rintro e w3 ⟨vr,f,rfl,bz,dF,aB⟩;have bQ:N f=N R:=by rw[<-bz,Q8]
 obtain⟨ro,eD,rfl,aA⟩:=dF.ug (by omega);have zN:=aj Kg.o aB;obtain⟨bA,dG,dH⟩:=fe bz aA.1 (fF.below aB PW.o);obtain⟨e0,e2,e4⟩:=J3 aB d0 d2 d4;have xG:=Zh zN;have bR:Wl (q.cells=#[Z q.src.ad (N q.src.xs) q.src.cap,Z q.dx (N q.wh) q.aP,EP q.group,Z q.keys.ad (N q.keys.xs) q.keys.cap,Z q.sums.ad (N q.sums.xs) q.sums.cap,Z q.aH.ad (N q.aH.xs) q.aH.cap,Z q.ord.ad (N q.ord.xs) q.ord.cap]):=rfl;have eu:N f<=100000:=by omega
 have bS:Wl (N t*N f<=1000000):=by show _<=_;rw[bP.o,bQ];exact h3
 obtain⟨t0,t1,t2,t3,t4,t5,t6,t7,t8⟩:=(HT.o w3 xG.o).k9;go_wp2_with fail;refine wH w3 λA=>?_;refine FD 0 A ?_;refine wA3 10 A ?_;obtain⟨w4,eF,dI,dJ⟩:=aX w3.drew #[Z ao (N ts) cap,Z q.src.ad (N q.src.xs) q.src.cap,Z q.dx (N q.wh) q.aP,EP q.group,Z q.keys.ad (N q.keys.xs) q.keys.cap,Z q.sums.ad (N q.sums.xs) q.sums.cap,Z q.aH.ad (N q.aH.xs) q.aH.cap,Z q.ord.ad (N q.ord.xs) q.ord.cap,Z (O (aD pb aZ)) (N pl) pcap,Z E5 0 0] 80;refine wR 13 λK hK=>?_;go_simp;refine oT hK A dI λP=>?_;refine Fz 14 P ?_;refine wD ?_;have bT:=Bq.o (M (H w3)) w4 (aj xG.o P) ⟨dJ,Xl _ _ _ _,by have:=Cu.o.2;have:=xG.o.size;omega⟩;have eB:=cB P e2;have bU:=Zh P;have bV:Wl (M (H w3)<=M (H w4)):=P.size;go_wp2_with fail;refine bT.mono ?_;rintro e w5 ⟨dK,⟨⟨sa,sc,u⟩,⟨va,vc,vx⟩,⟨ua,uc,ux⟩,vo,vs,vk⟩,rfl,hv⟩;obtain⟨dL,MN,-,-,dM⟩:=hv _ rfl;have bW:Bw w3 w5:=bU.o.trans (dK.below bV.o (λb hb=>⟨by omega,by intro h;cases h⟩));have bX:v.sources=u:=congrArg bH.sources dL.symm;simp only[aW.cells,ae.val];obtain⟨w6,Pf,bB,dN⟩:=aX w5 #[Z sa (N u) sc,Z va (N vx) vc,Z ua (N ux) uc,EP vo,I Dc (vs:Int),I Dc (vk:Int)] 74;have OV:=aj bW bB;have s0:=dN.at 0;have f4:=cB OV e4;obtain⟨dO,sN,aC,dP,dQ⟩:=J5 (Qt bB (dM _ (Zx _ _)).1.1) (aj xG.o OV) (fF.below OV dH.o) (fF.below OV dG.o) bX;have bY:=Zh λ(x:ae) (h:x∈t)=>hlen x.xs (.inl (by rw[<-bu.o];exact Jj h));have bZ:=Zh λ(x:ae) (h:x∈f)=>hlen x.xs (.inr (by rw[<-bA.o];exact Jj h));go_wp2;go_loopw [8,20] (λv av wr=>∃(k:Nat) (zs:List ae),k<=N t/\av=I J k/\Wl (N zs<=k*N f)/\Wl (zs.map ae.xs=((t.take k).flatMap λx=>f.map λy=>jF ts q.src.xs x.xs y.xs u).filter (eP q.wh B))/\Wl (Listed 23 3 (M (H w6)) v zs wr)/\Bw w6 wr) (λ_ av _=>N t-(intOf av).toNat)
 case atStart=>exact⟨0,[],Q4 _,rfl,Q4 _,rfl,Listed.nil _ _ _ _,Qr _ _⟩
 case round=>
  obtain⟨k,zs,hk,rfl,dR,HZ,HL,aF⟩:=hrel;by_cases C:k<N t
  .have cu:Wl (((t.take (k+1)).flatMap λx=>f.map λy=>jF ts q.src.xs x.xs y.xs u).filter (eP q.wh B)=zs.map ae.xs++(f.map λy=>jF ts q.src.xs (E t k iz).xs y.xs u).filter (eP q.wh B)):=by show _=_;rw[HZ.o,<-ZL t iz C,Q7,ZX];simp
   have aN:Wl (k*N f+N f<=1000000/\k*N f+N f=(k+1)*N f):=by have h1:=Nat.mul_le_mul_right (N f) (show k+1<=N t by omega);have h2:=bS.o;have h3:(k+1)*N f=k*N f+N f:=Nat.succ_mul _ _;exact⟨by omega,by omega⟩
   have nV:=Zh aF;have ah:=bY.o _ (Xx (d:=iz) C);have cK:=Zh λ(X:U) (p:Bw w6 X)=>Qf (aC.o.below p).2.1 C;have aO:=Zh λ(X:U) (p:Bw w6 X)=>(aC.o.below p).2.2 k C;obtain⟨lb,lf,rfl,bC⟩:=Qf aC.o.2.1 C;have l1:=bC k C;generalize E t k iz=x at*;have aQ:=Zh λ(y:ae) (X:U) (p:Bw w6 X) (hy:y.At X) (hm:(N y.xs:Int)=ak ts q.src.xs)=>bK.o x y ⟨sa,sc,u⟩ X (aj sN.o p) (aO.o X p) hy (Qt p dO.o) ah hm;have cO:=Zh ah;clear HZ aF bC cK ah aO;go_wp2;go_loopw [8,21] (λv bv wx=>∃(m:Nat) (us:List ae),m<=N f/\bv=I J m/\Wl (N us<=k*N f+m)/\Wl (us.map ae.xs=zs.map ae.xs++((f.take m).map λy=>jF ts q.src.xs x.xs y.xs u).filter (eP q.wh B))/\Wl (Listed 23 3 (M (H w6)) v us wx)/\Bw w6 wx) (λ_ bv _=>N f-(intOf bv).toNat)
   case atStart=>exact⟨0,zs,Q4 _,rfl,dR,by simp[Wl],HL.o,nV.o⟩
   case round=>
    obtain⟨m,us,hm,rfl,aa,HU,aG,z⟩:=hrel;by_cases Q:m<N f
    .have au:=dP.o.below z;have cZ:=bZ.o _ (Xx (d:=iz) Q);obtain⟨rb,rf,rfl,bD⟩:=Qf au.2.1 Q;have r1:=bD m Q;have aR:=au.2.2 m Q;have aS:Wl (((f.take (m+1)).map λy=>jF ts q.src.xs x.xs y.xs u).filter (eP q.wh B)=((f.take m).map λy=>jF ts q.src.xs x.xs y.xs u).filter (eP q.wh B)++if eP q.wh B (jF ts q.src.xs x.xs (E f m iz).xs u)=T then [jF ts q.src.xs x.xs (E f m iz).xs u] else []):=by show _=_;rw[<-ZL f iz Q,Ql,ZX];generalize E f m iz=y;cases hq:eP q.wh B (jF ts q.src.xs x.xs y.xs u) <;> simp[hq]
     generalize E f m iz=y at*;have dh:=Zh λ(X:U) (p:Bw wr X)=>aQ.o y X (aj z p) (Qt p aR) cZ;have di:Wl (N (jF ts q.src.xs x.xs y.xs u)=N x.xs):=by show _=_;simp[jF]
     have Ga:=Zh z;obtain⟨l2,s2,f2⟩:=J3 z l1 s0 f4;obtain⟨t0,t1,t2,t3,t4,t5,t6,t7,t8⟩:=(HT.o wr (aj sN.o z)).k9;obtain⟨bE,sI,bF,rfl⟩:=Xg aG.o.own;obtain⟨xa,xc,xx⟩:=x;obtain⟨ya,yc,yy⟩:=y;generalize jF ts q.src.xs xx yy u=ZZ at*;simp only[ae.val,bR.o]at*;clear au bD aR z aQ;go_wp2_with fail;refine wH wr λA=>?_;refine FD 0 A ?_;refine wA5 10 A ?_;refine wA3 15 A ?_;refine wR 18 λK hK=>?_;go_simp;refine(dh.o _ A).mono ?_;rintro e w7 ⟨⟨za,zc,zx⟩,rfl,bG,bI,nW⟩;simp only at bG;subst bG;refine oT hK A nW λA=>?_;refine Fz 19 A ?_;refine wD ?_;have aT:=O9.o w7.drew (aj sN.o (aj Ga.o A).drew) ⟨za,zc,zx⟩ (by have h1:=di.o;have h2:=cO.o;simp only at h2 ⊢;omega) (Qt (Qr _ _).drew bI.1.1);simp only at aT;generalize eP q.wh B zx=KB at*;go_wp2_with fail;refine QW (S:=λx=>Bw wr x) (by kernel_rfl) A.drew (λaI=>?_);refine wA5 0 aI ?_;refine wA2 5 aI ?_;refine wR 7 λK hK=>?_;go_simp;refine aT.mono ?_;rintro e w8 ⟨rfl,zu⟩;refine oT hK aI zu λaJ=>?_;refine Fz 8 aJ ?_;refine wD ?_;have ax:=aj Ga.o aJ;have dn:=Zh ax;have ay:=aG.o.below aJ;have aU:=ax.size;have aY:=aj (Qr (M (H w7)) w7).drew zu;have dw:=(gJ 3).keep bI aY.size (λb hb _=>aY.block b hb)
     cases KB with
     |true =>
      obtain⟨v',w9,bJ,dS,dU,⟨dV,dW,dX,rfl⟩,-⟩:=mV w8 (M (H w6)) (Z bE sI bF) us ay (by have h1:=aa.o;have h2:=aN.o.1;omega) aU ⟨za,zc,zx⟩ dw 30;have dz:Wl (Bw w6 w9):=ax.trans (dU.below aU (λb hb e=>by have:=(Xf ay.own e).1;omega));have az:=Zh dS;simp only[ae.val]at bJ;go_wp2_with (first|(at_builtin;refine Xy rfl (.tmp 225) (.tmp 227) 30 rfl (Z bE sI bF) (Z (O (aD (M (H w8)) 0)) 1 1) (Z dV dW dX) w9 rfl rfl bJ ?_));go_wp2;go_roundw
      case rel=>exact⟨m+1,us++[ae.mk za zc zx],by omega,by go_num,by have:=aa.o;show _<=_;simp;omega,by show _=_;rw[Ql,HU.o,aS.o,Qu rfl,Zu];rfl,az.o,dz.o⟩
      case measure=>simp[intOf];omega
     |false =>
      have az:=Zh ay;go_wp2;go_roundw
      case rel=>exact⟨m+1,us,by omega,by go_num,by have:=aa.o;show _<=_;omega,by show _=_;rw[HU.o,aS.o,QC (by simp),QN],az.o,dn.o⟩
      case measure=>simp[intOf];omega
    .obtain rfl:m=N f:=by omega
     have HF:Wl (us.map ae.xs=((t.take (k+1)).flatMap λx=>f.map λy=>jF ts q.src.xs x.xs y.xs u).filter (eP q.wh B)):=by show _=_;rw[cu.o,HU.o,Zb]
     have Ga:=Zh z;go_wp2;go_roundw
     case rel=>exact⟨k+1,us,by omega,by go_num,by have h1:=aa.o;have h2:=aN.o.2;show _<=_;omega,HF.o,aG.o,Ga.o⟩
     case measure=>simp[intOf];omega
  .obtain rfl:k=N t:=by omega
   have HE:Wl (zs.map ae.xs=(L.flatMap λa=>R.map λb=>jF ts q.src.xs a b v.sources).filter (eP q.wh B)):=by show _=_;rw[HZ.o,Zb,dQ.o,<-bu.o,<-bA.o,List.flatMap_map];simp only[Zm];rfl
   have HF:=Zh (X4 (HL.o.lower sN.o.size) (aj sN.o aF));go_wp2;go_ret;exact⟨_,zs,rfl,HE.o,HF.o.1,HF.o.2⟩
theorem Ud{w0:U}{b:Nat}{ao po:Option Addr}{cap pcap:Nat}{ts:List ag}{q:af}{pl:List ai}(D:CZ w0 ao po ts q pl)(d:Option Addr)(fB:Nat)(db:List aJ)(sP:qJ w0 d db)(hlen:N db=N ts)(hB:xH ts db=T)(sw:fH q.src.xs db<=20000)(oo:aab ts q)(qL:aM q.ord.xs (rQ q.group q.keys.xs q.sums.xs q.aH.xs)=T)
  (hl:N q.keys.xs<=4/\N q.sums.xs<=4/\N q.aH.xs<=8) (hcs:∀j,j<N q.wh->∀k,k<(E q.wh j lz).cs.length->dC ((E q.wh j lz).cs.getD k cz) (ak ts q.src.xs)=T) :
  ∀(f i:Nat) (v:bH),i<f->i<N pl->bO ts q pl i=O v->(jY pl i).Nodup->∀(W:U) (seen:List Nat) (p:KX),df W b (M (H w0)) 80 3 ao po cap pcap ts q pl seen p->Bw w0 W->
   Calls V 22 #[Y (O (aD b 0)),I J i,Z d (N db) fB] W λe R=>∃v ys,e=FR v/\ys.map ae.xs=eZ ts q pl db f i/\Listed 23 3 (M (H W)) v ys R/\Bw W R
 |0,_,_,h,_,_,_=>by omega
 |f+1,i,v,hi,hil,hv,hnd=>λW seen p z A=>by
  have ok:=D.Aq.ok;have ih:=Ud (b:=b) (cap:=cap) (pcap:=pcap) D d fB db sP hlen hB sw oo qL hl hcs f;have u:∃a m c,(Value.slice d (N db) fB)=Z a m c:=⟨_,_,_,rfl⟩;have K:∀{S:List Int},dF ts q (E pl i nz).cl.xs S=T->aM (E pl i nz).cl.xs (N q.wh)=true:=λh=>by have:=lu ok h;unfold aM;grind
  rcases lq ts q pl hv with⟨hk,h0,hs,es,eo,ho⟩|⟨k2,k10,k3,k4,k5,hl0,Uy,l,hl',hn⟩|⟨k3,k5,hl0,Uy,hr0,hri,l,r,hl',n,hn⟩
  .have e:eZ ts q pl db (f+1) i=(vQ db (E q.src.xs (E pl i nz).source.toNat 0)).map (rX (ak ts q.src.xs).toNat (ak ts (q.src.xs.take (E pl i nz).source.toNat)).toNat):=by
    conv=>lhs;unfold eZ
    rw[Qu hk]
   rw[e];exact adr D d fB db i W seen p hil z A sP hlen hB _ rfl hk (E pl i nz).source.toNat (by omega) (by omega)
  .obtain⟨_,ho,_,G,P,es,eo,rC,_⟩:=Jg ts q hn;have L:(E pl i nz).l.toNat∈nQ pl i:=by unfold nQ arity;grind
   have C:∀x,Bw W x->Calls V 22 #[Y (O (aD b 0)),I J (E pl i nz).l,Z d (N db) fB] x λe R=>∃v ys,e=FR v/\ys.map ae.xs=eZ ts q pl db f (E pl i nz).l.toNat/\Listed 23 3 (M (H x)) v ys R/\Bw x R:=λx t=>by have h:=ih (E pl i nz).l.toNat l (by omega) (by omega) hl' (wW hnd L) x seen p (z.below t) (aj A t);grind
   by_cases B:(E pl i nz).kind=10
   .have g:=ho.2 B;have y:=CV ok pl hB sw f (E pl i nz).l.toNat l (by omega) hl' g;rw[Og ok oo pl hB sw f (E pl i nz).l.toNat l (by omega) hl' g]at y;have e:eZ ts q pl db (f+1) i=fI q.ord.xs (eZ ts q pl db f (E pl i nz).l.toNat):=by
     conv=>lhs;unfold eZ
     grind
    have h:=MS D (Z d (N db) fB) i W seen p hil z A u _ rfl (by omega) _ (by omega) C (λh=>by omega) (λ_ r n=>by rw[y.2 r n];exact qL) (λh=>by omega) (λh=>by omega);rw[QC (by omega),QC (by omega),Qu B]at h;rw[e];exact h
   .have g:l.out=false:=by grind
    have y:=yO ok pl hB sw (show (E pl i nz).l.toNat<f by omega) hl' g;have X:∀{xs:List Int},aM xs (ak ts q.src.xs)=T->∀r∈eZ ts q pl db f (E pl i nz).l.toNat,aM xs (N r)=true:=λ{xs} h r n=>by rw[(y.2.2 r n).1];exact h
    by_cases au:(E pl i nz).kind=2
    .have e:eZ ts q pl db (f+1) i=(eZ ts q pl db f (E pl i nz).l.toNat).filter (eP q.wh (E pl i nz).cl.xs):=by
      conv=>lhs;unfold eZ
      grind
     rw[e];exact TU D (Z d (N db) fB) i W seen p hil z A u _ rfl au _ (by omega) C (K G) (λr n=>by rw[(y.2.2 r n).1];exact hcs)
    .have e:eZ ts q pl db (f+1) i=(if (E pl i nz).kind=6 then fI (E pl i nz).co.xs (eZ ts q pl db f (E pl i nz).l.toNat) else if (E pl i nz).kind=9 then (eZ ts q pl db f (E pl i nz).l.toNat).map (λr=>aB r q.aH.xs) else if (E pl i nz).kind=10 then fI q.ord.xs (eZ ts q pl db f (E pl i nz).l.toNat) else ed q.keys.xs q.sums.xs (eZ ts q pl db f (E pl i nz).l.toNat)):=by
      conv=>lhs;unfold eZ
      grind
     rw[e];unfold kP at P;exact MS D (Z d (N db) fB) i W seen p hil z A u _ rfl (by omega) _ (by omega) C (λh=>X (by grind)) (λh=>by omega) (λ_=>⟨hl.2.2,X oo.aH⟩) (λ_=>⟨hl.1,hl.2.1,X oo.keys,X oo.sums,λr n c _=>(y.2.2 r n).2 c.toNat⟩)
  .obtain⟨Q,ho,ah,G,P,es,eo,rC,_⟩:=Jg ts q hn;have g:l.out=false:=by grind
   have hm:(E pl i nz).l.toNat∈nQ pl i/\(E pl i nz).r.toNat∈nQ pl i:=by unfold nQ arity;grind
   have y:=yO ok pl hB sw (show (E pl i nz).l.toNat<f by omega) hl' g;have aa:=yO ok pl hB sw (show (E pl i nz).r.toNat<f by omega) n Q;have e:eZ ts q pl db (f+1) i=((eZ ts q pl db f (E pl i nz).l.toNat).flatMap λa=>(eZ ts q pl db f (E pl i nz).r.toNat).map λb=>jF ts q.src.xs a b r.sources).filter (eP q.wh (E pl i nz).cl.xs):=by
    conv=>lhs;unfold eZ
    grind
   rw[e];refine adp D (Z d (N db) fB) i W seen p hil z A u _ rfl ⟨k3,k5⟩ _ _ ⟨by omega,by omega,aj9 ok pl hB sw (by omega) hl' g (by omega) n Q ah⟩ (λx t=>?_) (λx t=>?_) (E pl i nz).r.toNat (by omega) (by omega) r _ (ui ts q pl _ _ [] r n (wW hnd hm.2) (by simp)) (λx t=>t.elim (λh=>(y.2.2 x h).1) (λh=>(aa.2.2 x h).1)) (K G) hcs
   .have h:=ih (E pl i nz).l.toNat l (by omega) (by omega) hl' (wW hnd hm.1) x seen p (z.below t) (aj A t);rw[show (((E pl i nz).l.toNat:Nat):Int)=(E pl i nz).l by omega]at h;exact h
   .have h:=ih (E pl i nz).r.toNat r (by omega) (by omega) n (wW hnd hm.2) x seen p (z.below t) (aj A t);rw[show (((E pl i nz).r.toNat:Nat):Int)=(E pl i nz).r by omega]at h;exact h
def CW(h:q.check ts=0):aab ts q/\aM q.ord.xs (rQ q.group q.keys.xs q.sums.xs q.aH.xs)=true:=by obtain⟨_,_,_,_,_,a⟩:=lG h;unfold gV at a;simp only[Qm]at a;exact⟨⟨a.1.1.1.1.1.1.1,a.1.1.1.1.1.1.2,a.1.1.1.1.1.2⟩,a.1.1.1.1.2⟩
theorem KI(co d:Option Addr)(cc fB:Nat)(ts:List ag)(q:af)(db:List aJ)(po:Option Addr)(pc:Nat)(pl:List ai)(w:U)(hts:aN w co ts)(hq:q.At w)(hkc:N q.keys.xs<=q.keys.cap)(hoc:N q.ord.xs<=q.ord.cap)(sP:Ch w d db)(hn:bT w po pl)(hsh:dS w 0)(hcap:∀i,i<N pl->(E pl i nz).co.xs.length<=(E pl i nz).co.cap)
  (OE:q.check ts=0) (hdat:ig ts q.src.xs db=T) (ds:List gz) (hlk:fQ ts q pl=O ds) :
  Calls V 7 #[Z co (N ts) cc,FN q.cells,Z po (N pl) pc,Z d (N db) fB] w λe w'=>∃(v:KX) (ys:List ae) (o:Nat->Prop) (K:U),e=FR (Ph #[v,I J 0])/\ys.map ae.xs=mi ts q pl db (N pl) (N pl-1)/\
   gI (lF 3 (M (H K))) (M (H K)) K 23 ys o w' v/\Bw w K:=by
 obtain⟨p1,p2,p3,p4,p5,p6⟩:=lG OE;have G:=wS p2;have u:=(uz OE).1;have ok:=u.ok;have b:(N db=N ts/\xH ts db=T)/\fH q.src.xs db<=20000:=by unfold ig at hdat;grind
 obtain⟨oo,aI⟩:=CW OE;obtain⟨h1,aL,W,v,X,Pd⟩:=Bj ok hlk;have z:∀i v,i<N pl->bO ts q pl i=O v->v.out=T->N (mi ts q pl db (i+1) i)<=1000000/\∀r∈mi ts q pl db (i+1) i,aM q.ord.xs (N r)=true:=λi v _ X Pd=>by have p:=CV ok pl b.1.2 b.2 (i+1) i v (by omega) X Pd;grind
 have L:=Zh λ(f:bq) (a:Option Addr) (c:Nat) (ps:List aK) (x:U) (m:Bw w x) (bC:f.At ts q x) (bD:bP x a ps) (n:ps.map aK.d=ds)=>OD f ts q po pc pl a c ps d (N db) fB (mi ts q pl db (N pl) (N pl-1)) x (hn.below m) h1 λy hy=>I4 (dc:=fB) (pc:=pc) (pac:=c) (f:=f) (po:=po) (pa:=a) (ps:=ps) (d:=d) (w0:=x) ⟨ok,G.1,u.three,λi hi c hc=>by obtain⟨k,hk,rfl⟩:=Qv hc;have h:=Cy p5 hi hk;grind,bC,hn.below m,bD,by have:=congrArg N n;rw[Q8]at this;omega,by rw[n];exact W,sP.below m,b.1.1,b.1.2,b.2⟩ oo G.2.2.2.1 G.2.2.2.2.1 G.2.2.1 z (N pl) (N pl-1) v (by omega) (by omega) X Pd y hy;have aD:Wl (N (mi ts q pl db (N pl) (N pl-1))<=1000000):=by have h:=(z (N pl-1) v (by omega) X Pd).1;rw[show N pl-1+1=N pl by omega]at h;exact h
 obtain⟨K,aO,g,aa⟩:=aX w q.cells 26;obtain⟨g0,g1,g2,g3,g4,g5,g6⟩:=aa.k7;have A:=Ap co cc ts q po pc pl K (hts.below g) (hq.below g) hkc hoc (hn.below g) (Jk g hsh) hcap;rw[OE,hlk]at A;have P:=Zh λ(x:U) (m:Bw w x)=>Ak co cc ts q d fB db x (hts.below m) (Qt m hq.src) (sP.1.below m) p3 G.1;rw[Qu hdat]at P;have aF:=Zh g;clear z W aL hlk hdat OE hts hq hkc hoc sP hn hsh hcap u ok oo aI p1 p2 p3 p4 p5 p6 G b X Pd aa g;generalize mi ts q pl db (N pl) (N pl-1)=OUT at*;obtain⟨⟨sa,sc,src⟩,dx,aP,wh,C,⟨ka,kc,ah⟩,⟨ua,uc,ak⟩,⟨ea,ec,aH⟩,⟨da,dc,aQ⟩⟩:=q;simp only[af.cells,ae.val]at*;go_enter Tryz.func7,Tryz.ntmps7;go_wp2_with fail;refine A.mono ?_;rintro e w2 ⟨D,au⟩;rcases au with⟨hc,_⟩|⟨_,hl,_⟩|⟨_,ds',hl,f,a,c,ps,rfl,hfa,hpa,n⟩
 .exact absurd rfl hc
 .cases hl
 cases hl;have t:=aj aF.out D;obtain⟨a0,a1,a3,a4,a5,a6,a7,Gp,O5,aR,n0,n1,n3,n4,n5,n6,n7,aS,aT,aU,n8,n9,c0,c1,c3,c4,c5,c6,c7,aV,aW,aY,b2,dY⟩:=WS f ts ⟨⟨sa,sc,src⟩,dx,aP,wh,C,⟨ka,kc,ah⟩,⟨ua,uc,ak⟩,⟨ea,ec,aH⟩,⟨da,dc,aQ⟩⟩;obtain⟨w3,aZ,j,av⟩:=aX w2 #[Z a0 n0 c0,Z a1 n1 c1,EP b2,Z a3 n3 c3,Z a4 n4 c4,Z a5 n5 c5,Z a6 n6 c6,Z a7 n7 c7,I Dc (n8:Int),I Dc (n9:Int),Z Gp aS aV,Z O5 aT aW,Z aR aU aY] 63;have zN:=aj t j;have B:=L.out f a c ps;rw[dY]at B;rw[dY];have aG:=Zh λ(x:U) (m:Bw w3 x)=>B x (aj zN m) (hfa.below (aj j m)) (hpa.below (aj j m)) n;obtain⟨k0,k1,k2,k3,k4,k5,k6,k7,k8,k9,ax,ay,az⟩:=av.zR;have e6:=aj D j;obtain⟨d0,d1,d2,d3,d4⟩:=ji e6 g0 g1 g2 g3 g4;obtain⟨d5,d6⟩:=gy e6 g5 g6;have Q:=P.out w3 zN;have xG:=Zh zN;clear A g0 g1 g2 g3 g4 g5 g6 B hfa hpa n dY D t zN j av e6 aO L;go_wp2_with fail;refine XO Q ?_;rintro e w4 ⟨rfl,l⟩;obtain⟨j0,j1,j2,j3,j4,j5,j6,j7⟩:=qf l k0 k1 k2 k3 k4 k5 k6 k7;obtain⟨j8,j9,bf,bg,bn⟩:=ji l k8 k9 ax ay az;have R:=aG.out w4 l;have wQ:=Zh (aj xG.out l);clear Q d0 d1 d2 d3 d4 d5 d6 k0 k1 k2 k3 k4 k5 k6 k7 k8 k9 ax ay az l aZ;go_wp2_with fail;refine R.mono ?_;rintro e w5 ⟨v5,rfl,bu,bz⟩;have Wj:=aj wQ.out bz;obtain⟨g5,bA,rfl,aA,aB⟩:=bu;have S:=vS (lF 3 (M (H w5))) (λ_=>rfl) g5 bA OUT w5 w5 (Qr _ _) aD.out aB aA;clear R j0 j1 j2 j3 j4 j5 j6 j7 j8 j9 bf bg bn aB aA;go_wp2_with fail;refine S.mono ?_;rintro e w6 ⟨v6,ys,o6,rfl,bB,aC⟩;obtain⟨va,vn,vc,rfl⟩:=Xg aC.own;clear S;go_wp2;go_ret2;exact⟨_,ys,o6,w5,rfl,bB,aC,Wj⟩
def mr(ts:List ag)(q:af)(pl:List ai)(db:List aJ):Int:=if q.check ts≠0 then q.check ts else if (fQ ts q pl).isNone=T then 5 else if ig ts q.src.xs db=T then 0 else 4
def xz(ts:List ag)(q:af)(pl:List ai)(db:List aJ):List (List Int):=if mr ts q pl db=0 then mi ts q pl db (N pl) (N pl-1) else []
theorem I5(h:mr ts q pl db=0):q.check ts=0/\ig ts q.src.xs db=T/\∃ds,fQ ts q pl=O ds:=by unfold mr at h;cases e:fQ ts q pl <;> grind
theorem OG(co d:Option Addr)(cc fB:Nat)(ts:List ag)(q:af)(db:List aJ)(po:Option Addr)(pc:Nat)(pl:List ai)(w:U)(hts:aN w co ts)(hq:q.At w)(hkc:N q.keys.xs<=q.keys.cap)(hoc:N q.ord.xs<=q.ord.cap)(sP:qJ w d db)(hn:bT w po pl)(hsh:dS w 0)(hcap:∀i,i<N pl->(E pl i nz).co.xs.length<=(E pl i nz).co.cap)(hno:mr ts q pl db≠0) :
  Cb 7 #[Z co (N ts) cc,FN q.cells,Z po (N pl) pc,Z d (N db) fB] w (Ph #[Z E5 0 0,I J (mr ts q pl db)]):=by
 obtain⟨w1,P,g,v⟩:=aX w q.cells 26;obtain⟨g0,g1,g2,g3,g4,g5,g6⟩:=v.k7;have k:=Ap co cc ts q po pc pl w1 (hts.below g) (hq.below g) hkc hoc (hn.below g) (Jk g hsh) hcap;have l:=Zh λ(h:q.check ts=0) (x:U) (hx:Bw w x)=>Ak co cc ts q d fB db x (hts.below hx) (Qt hx hq.src) (sP.below hx) (lG h).2.2.1 (wS (lG h).2.1).1;have m:Wl (mr ts q pl db=if q.check ts≠0 then q.check ts else if (fQ ts q pl).isNone=T then 5 else if ig ts q.src.xs db=T then 0 else 4):=rfl;have D:=Zh g;generalize mr ts q pl db=Ez at*;generalize q.check ts=C at*;generalize fQ ts q pl=L at*;generalize ig ts q.src.xs db=DB at*;clear hts hq hkc hoc sP hn hsh hcap v g;obtain⟨⟨sa,sc,src⟩,dx,aP,wh,p,⟨ka,kc,y⟩,⟨ua,uc,z⟩,⟨ea,ec,aH⟩,⟨da,dc,Q⟩⟩:=q;simp only[af.cells,ae.val]at*;go_enter Tryz.func7,Tryz.ntmps7;go_wp2_with fail;refine k.mono ?_;rintro e w2 ⟨j,A⟩;have b:=aj D.o j;rcases A with⟨hc,rfl⟩|⟨hc,hl,rfl⟩|⟨hc,ds',hl,f,a,c,ps,rfl,-,-,-⟩
 .have t:Ez=C:=by rw[m.o,Qu hc]
  have hz:(C==0)=false:=by simpa using hc
  subst t;have n:=Zh b;clear k l m j b hno hc;go_wp2;go_ret2;exact⟨rfl,aj n.o (bJ _ _)⟩
 .have t:Ez=5:=by rw[m.o,hc,hl];rfl
  subst t;have n:=Zh b;clear k l m j b hno hc;go_wp2;go_ret2;exact⟨rfl,aj n.o (bJ _ _)⟩
 have hd:DB=false:=by have:=m.o;grind
 have t:Ez=4:=by rw[m.o,hc,hl,hd];rfl
 subst t hd;obtain⟨a0,a1,a3,a4,a5,a6,a7,Gp,O5,R,n0,n1,n3,n4,n5,n6,n7,S,W,X,n8,n9,c0,c1,c3,c4,c5,c6,c7,aa,ah,ak,b2,dY⟩:=WS f ts ⟨⟨sa,sc,src⟩,dx,aP,wh,p,⟨ka,kc,y⟩,⟨ua,uc,z⟩,⟨ea,ec,aH⟩,⟨da,dc,Q⟩⟩;obtain⟨w3,au,r,av⟩:=aX w2 #[Z a0 n0 c0,Z a1 n1 c1,EP b2,Z a3 n3 c3,Z a4 n4 c4,Z a5 n5 c5,Z a6 n6 c6,Z a7 n7 c7,I Dc (n8:Int),I Dc (n9:Int),Z Gp S aa,Z O5 W ah,Z R X ak] 63;have G:=aj b r;rw[dY];have K:=aj j r;obtain⟨d0,d1,d2,d3,d4⟩:=ji K g0 g1 g2 g3 g4;obtain⟨d5,d6⟩:=gy K g5 g6;have u:=l.o hc w3 G;have xG:=Zh G;clear k g0 g1 g2 g3 g4 g5 g6 dY j b G r av K P l m hno hl;go_wp2_with fail;refine XO u ?_;rintro e w4 ⟨rfl,B⟩;have wQ:=Zh (aj xG.o B);clear u d0 d1 d2 d3 d4 d5 d6 B au;go_wp2;go_ret2;exact⟨rfl,wQ.o⟩
theorem KJ(co d:Option Addr)(cc fB:Nat)(ts:List ag)(q:af)(db:List aJ)(po:Option Addr)(pc:Nat)(pl:List ai)(w:U)(hts:aN w co ts)(hq:q.At w)(hkc:N q.keys.xs<=q.keys.cap)(hoc:N q.ord.xs<=q.ord.cap)(sP:Ch w d db)(hn:bT w po pl)(hsh:dS w 0)(hcap:∀i,i<N pl->(E pl i nz).co.xs.length<=(E pl i nz).co.cap) :
  Calls V 7 #[Z co (N ts) cc,FN q.cells,Z po (N pl) pc,Z d (N db) fB] w λe l=>∃(m:Option Addr) (cap:Nat) (ys:List ae),e=FR (Ph #[Z m (N ys) cap,I J (mr ts q pl db)])/\ys.map ae.xs=xz ts q pl db/\kH 3 (M (H w)) l m ys/\Bw w l:=by
 by_cases k:mr ts q pl db=0
 .obtain⟨u,a,ds,g⟩:=I5 k;have n:xz ts q pl db=mi ts q pl db (N pl) (N pl-1):=by unfold xz;rw[Qu k]
  rw[k,n];refine(KI co d cc fB ts q db po pc pl w hts hq hkc hoc sP hn hsh hcap u a ds g).mono ?_;rintro e l ⟨v,ys,o,S,rfl,j,z,b⟩;have ok:=(uz u).1.ok;have f:(N db=N ts/\xH ts db=T)/\fH q.src.xs db<=20000:=by unfold ig at a;grind
  obtain⟨W,A,B,C,D,G⟩:=Bj ok g;have r:=wS (lG u).2.1;have p:=CV ok pl f.1.2 f.2 (N pl) (N pl-1) C (by omega) D G;have t:=congrArg N j;rw[Q8]at t;obtain⟨m,cap,rfl,K⟩:=z.aka (by omega) (λy hy=>by
   have:=p.2 y.xs (by grind);have P:=r.2.2.2.1;have Q:=r.2.2.2.2.1;have R:=r.2.2.1;unfold rQ at this;split at this <;> omega)
  exact⟨m,cap,ys,rfl,j,K.lower b.size,b.trans (z.below.mono b.size)⟩
 .have n:xz ts q pl db=[]:=by unfold xz;rw[QC k]
  rw[n];refine(OG co d cc fB ts q db po pc pl w hts hq hkc hoc sP.1 hn hsh hcap k).mono ?_;rintro e l ⟨rfl,L⟩;exact⟨E5,0,[],rfl,rfl,kH.nil _ _ _,L⟩
theorem Yp(ts:List ag)(q:af)(pl:List ai)(db:List aJ):mr ts q pl db=if qV ts q pl=0 then (if ig ts q.src.xs db=T then 0 else 4) else qV ts q pl:=by rw[<-(adC ts q pl).1];unfold mr ahE;cases fQ ts q pl <;> grind
theorem Er(h:qV ts q pl=0)(hd:ig ts q.src.xs db=T) :
  Chk ts q/\1<=N pl/\N pl<=64/\(∃v,bO ts q pl (N pl-1)=O v/\v.out=T)/\(jY pl (N pl-1)).Nodup/\xH ts db=T/\N db=N ts/\fH q.src.xs db<=20000:=by
 have a:q.check ts=0:=by unfold qV at h;grind
 unfold qV at h;rw[Qu a]at h;unfold ig at hd;simp only[Qm,Qz]at hd;unfold xk at h;split at h
 .simp at h
 .rename_i hl
  cases e:fC ts q pl (N pl) (N pl-1) [] with
  |none=>rw[e]at h;simp at h
  |some x =>
   rw[e]at h;obtain⟨v,s⟩:=x;obtain⟨b,f,d,_⟩:=vL ts q pl _ _ [] v s (by simp) e;rw[qY ts q pl (by omega)]at b;refine⟨(uz a).1,by omega,by omega,⟨v,b,?_⟩,d,hd.1.2,hd.1.1,hd.2⟩;grind
theorem Uq(ao d po:Option Addr)(cap fB pcap:Nat)(ts:List ag)(q:af)(db:List aJ)(pl:List ai)(w:U)(hx:aN w ao ts)(hq:q.At w)(hd:qJ w d db)(hn:bT w po pl) :
  Calls V 8 #[Z ao (N ts) cap,FN q.cells,Z po (N pl) pcap,Z d (N db) fB] w λe w'=>∃(zo:Option Addr) (zc:Nat) (zs:List ae),e=FR (Ph #[Z zo (N zs) zc,I J (mr ts q pl db)])/\zs.map ae.xs=xz ts q pl db/\fF w' zo zs/\Bw w w':=by
 have r:∀W:U,fF W E5 []:=λW=>⟨by simp,λi hi=>absurd hi (by simp),λi hi=>absurd hi (by simp)⟩;obtain⟨w1,aK,f,au⟩:=aX w q.cells 26;obtain⟨g0,g1,g2,g3,g4,g5,g6⟩:=au.k7;have aa:=ahD ao po cap pcap ts q pl w1 (hx.below f) (hq.below f) (Jh f hn);have ah:=Zh λ(h:Chk ts q) (x:U) (hb:Bw w x)=>Yg ao d cap fB ts q db x (hx.below hb) (Qt hb hq.src) (hd.below hb) h.src h.five;have a:=Zh (Yp ts q pl db);have l:Wl (xz ts q pl db=if mr ts q pl db=0 then mi ts q pl db (N pl) (N pl-1) else []):=rfl;have aF:Wl (qV ts q pl=0->ig ts q.src.xs db=T->_):=λh C=>Er (db:=db) h C;have zh:Wl (qV ts q pl=0->q.check ts=0):=λh=>by unfold qV at h;grind
 have Ls:=Zh λ(h:qV ts q pl=0) (C:ig ts q.src.xs db=T) (b:Nat) (W:U) (hT:df W b (M (H w)) 80 3 ao po cap pcap ts q pl [] (Z E5 0 0)) (hW:Bw w W)=>by obtain⟨K,h2,h3,⟨v,L,h5⟩,h6,P,h8,Q⟩:=Er (db:=db) h C;have G:=zh.out h;have hf:=wS (lG G).2.1;exact Ud (b:=b) (cap:=cap) (pcap:=pcap) ⟨hx,hq,hn,K,h3⟩ d fB db hd h8 P Q (CW G).1 (CW G).2 ⟨hf.2.2.2.1,hf.2.2.2.2.1,hf.2.2.1⟩ (λj hj k hk=>Cy (lG G).2.2.2.2.1 hj hk) (N pl) (N pl-1) v (by omega) (by omega) L h6 W [] (Z E5 0 0) hT hW
 have zK:Wl (qV ts q pl=0->ig ts q.src.xs db=T->eZ ts q pl db (N pl) (N pl-1)=mi ts q pl db (N pl) (N pl-1)/\N (mi ts q pl db (N pl) (N pl-1))<=20001/\1<=N pl):=λh C=>by obtain⟨K,h2,h3,⟨v,L,h5⟩,h6,P,h8,Q⟩:=Er (db:=db) h C;exact⟨(Og K.ok (CW (zh.out h)).1 pl P Q _ _ v (by omega) L h5).symm,(CV K.ok pl P Q _ _ v (by omega) L h5).1,h2⟩
 obtain⟨av,y⟩:=aV f r;have aG:=hn.1;generalize qV ts q pl=Ez at*;generalize mr ts q pl db=X at*;generalize xz ts q pl db=R at*;generalize ig ts q.src.xs db=DB at*;generalize mi ts q pl db (N pl) (N pl-1)=OU at*;generalize eZ ts q pl db (N pl) (N pl-1)=RF at*;obtain⟨⟨sa,sc,src⟩,dx,aP,wh,n,⟨ka,kc,z⟩,⟨ua,uc,A⟩,⟨ea,ec,aH⟩,⟨oa,oc,ax⟩⟩:=q;simp only[af.cells,ae.val]at*;go_enter Tryz.func8,Tryz.ntmps8;go_wp2_with fail;refine aa.mono ?_;rintro e w2 ⟨⟨⟨va,vb,vc⟩,⟨vd,ve,vf⟩,⟨vg,vh,vi⟩,vj,vk,vl⟩,rfl,-,ay⟩;simp only[aW.cells,ae.val];obtain⟨w3,aL,az,aM⟩:=aX w2 #[Z va (N vc) vb,Z vd (N vf) ve,Z vg (N vi) vh,EP vj,I Dc (vk:Int),I Dc (vl:Int)] 74;have ru:=aj ay az;have m:=Zh (aj av.out ru);obtain⟨d0,d1,d2,d3,d4⟩:=ji ru g0 g1 g2 g3 g4;obtain⟨d5,d6⟩:=gy ru g5 g6;by_cases D:Ez=0
 .have ak:=ah.out (uz (zh.out D)).1 w3 m.out;subst D;go_wp2_with fail;refine XO ak ?_;rintro e w4 ⟨rfl,p⟩;obtain⟨S,HX⟩:=aV (aj m.out p) a.out
  cases DB with
  |false =>
   have g:X=4:=by rw[a.out];rfl
   have t:Wl (R=[]):=by show _=_;rw[l.out,g];rfl
   subst g;go_wp2;go_ret2;exact⟨E5,0,[],rfl,t.out.symm,y.out _,S.out⟩
  |true =>
   have g:X=0:=by rw[a.out];rfl
   obtain⟨o1,o2,o3⟩:=zK.out (by simp) (by simp);have t:Wl (R=RF):=by show _=_;rw[l.out,g,Qu rfl,o1]
   have PW:Wl (N RF<=20001):=by show _<=_;rw[o1];exact o2
   subst g;obtain⟨f0,f1,f2,f3,f4⟩:=ji p d0 d1 d2 d3 d4;obtain⟨f5,f6⟩:=gy p d5 d6;obtain⟨w5,O7,B,aA⟩:=aX w4 #[Z ao (N ts) cap,Z sa (N src) sc,Z dx (N wh) aP,EP n,Z ka (N z) kc,Z ua (N A) uc,Z ea (N aH) ec,Z oa (N ax) oc,Z po (N pl) pcap,Z E5 0 0] 80;have u:=Ls.out (by simp) (by simp) (M (H w4)) w5 ⟨aA,Xl _ _ _ _,S.out.size⟩ (aj S.out B);have jS:=Zh (aj S.out B);rw[show ((N pl-1:Nat):Int)=(N pl:Int)-1 by omega]at u;go_wp2_with fail;refine XO u ?_;rintro e w6 ⟨v,ys,rfl,aB,hL,aC⟩;have aI:N ys<=20001:=by have:=PW.out;grind
   obtain⟨zo,zc,rfl,aD⟩:=hL.ug (by omega);obtain⟨HF,HY⟩:=aV (X4 aD.1 (aj jS.out aC)) aB;go_wp2;go_ret2;exact⟨zo,zc,ys,rfl,HY.out.trans t.out.symm,HF.out.1,HF.out.2⟩
 .have g:X=Ez:=by rw[a.out,QC D]
  have t:Wl (R=[]):=by show _=_;rw[l.out,g,QC D]
  have hz:(Ez==0)=false:=by simpa using D
  subst g;go_wp2;go_ret2;exact⟨E5,0,[],rfl,t.out.symm,y.out _,m.out⟩
def Yv(h:n'.same n):cZ n' = cZ n:=by obtain⟨a,b,d,e,f,g,i⟩:=h;unfold cZ;simp only[a,b,d,e,f,g,i]
theorem fK.node(h:fK q q')(ts:List ag)(hn:n'.same n)(l r:bH):jg ts q' n' l r=jg ts q n l r:=by obtain⟨a,f,g,i,b,d,e⟩:=hn;unfold jg iK Pz dF kP rT;simp only[a,b,d,e,h.src,h.wl,h.wh,h.group,h.keys,h.ord]
theorem fK.view{q q':af}(h:fK q q')(ts:List ag){pl pl':List ai}(hn:∀i,(E pl' i nz).same (E pl i nz)):∀f i,jX ts q' pl' f i=jX ts q pl f i
 |0,_=>rfl
 |f+1,i=>by have ih:=fK.view h ts hn f;have hp:=Yv (hn i);obtain⟨e1,e2,e3,e4,e5,e6,e7⟩:=hn i;unfold jX iK Pz;simp only[hp,e1,e2,e3,e4,ih,h.node ts (hn i),h.src,h.wl,h.wh]
theorem fK.kept(h:fK q q'):eP q'.wh=eP q.wh:=by funext is xs;unfold eP;simp only[h.wh]
def fK.ref{q q':af}(h:fK q q')(hu:q'.sums.xs=q.sums.xs)(ts:List ag){pl pl':List ai}(hn:∀i,(E pl' i nz).same (E pl i nz)){db cO:List aJ}(hd:∀t,vQ cO t=vQ db t):∀f i,eZ ts q' pl' cO f i=eZ ts q pl db f i
 |0,_=>rfl
 |f+1,i=>by have ih:=fK.ref h hu ts hn hd f;obtain⟨e1,e2,e3,e4,e5,e6,e7⟩:=hn i;unfold eZ bO;simp only[e1,e2,e3,e4,e5,e7,ih,hd,h.src,h.keys,h.aH,h.ord,hu,h.kept,h.view ts hn]
def adH{cO:List aJ}(ts:List ag)(bf bk bu be bo bw:Nat)(A:Nat->Nat)(hl:N cO=N db)(hs:∀i,i<N db->(E cO i rz).rs.length=(E db i rz).rs.length/\∀j,j<(E db i rz).rs.length->((E cO i rz).rs.getD j iz).xs=((E db i rz).rs.getD j iz).xs)
  (hnl:N ns=N pl) (hn:∀i,i<N pl->(E ns i nz).same (E pl i nz)):mr ts (vE q bf bk bu be bo bw A) ns cO = mr ts q pl db/\xz ts (vE q bf bk bu be bo bw A) ns cO = xz ts q pl db:=by
 have f:=Yu q bf bk bu be bo bw A;have k:fQ ts (vE q bf bk bu be bo bw A) ns=fQ ts q pl:=(fK.look f ts ns).trans (Yo ts q hnl hn);have b:mr ts (vE q bf bk bu be bo bw A) ns cO = mr ts q pl db:=by unfold mr;rw[Uh,k,show (vE q bf bk bu be bo bw A).src.xs=q.src.xs from rfl,adD hl hs]
 refine⟨b,?_⟩;have d:∀i,(E ns i nz).same (E pl i nz):=λi=>by
  by_cases e:i<N pl
  .exact hn i e
  .have l:E pl i nz=nz:=by simp[List.getD,e]
   have m:E ns i nz=nz:=by simp[List.getD,hnl,e]
   rw[l,m];exact⟨rfl,rfl,rfl,rfl,rfl,rfl,rfl⟩
 have ok:∀{q:af} {pl:List ai} {db:List aJ},mr ts q pl db=0->mi ts q pl db (N pl) (N pl-1)=eZ ts q pl db (N pl) (N pl-1):=λ{q pl db} h=>by obtain⟨g,hd,ds,hl⟩:=I5 h;have o:=(uz g).1.ok;obtain⟨r,_,_,v,n,p⟩:=Bj o hl;unfold ig at hd;simp only[Qm,Qz]at hd;exact Og o (CW g).1 pl hd.1.2 hd.2 _ _ v (by omega) n p
 unfold xz;rw[b];by_cases a:mr ts q pl db=0
 .rw[Qu a,Qu a,ok a,ok (b.trans a),hnl];exact f.ref rfl ts d (λt=>Es hl hs t.toNat) _ _
 .rw[QC a,QC a]
def bK.aoD{W:U}{bb tB tR tI n:Nat}{es:List ae}{ms:List Int}{vi vm:KX}(h:bK W bb tB tR tI n es ms vi vm):∀b,bK.own bb es vi vm b->b<M (H W):=by
 rintro b (rfl|a|a|⟨e,d,a⟩)
 .exact h.cell.lt
 .exact(Xf h.ints a).2
 .exact(Xf h.marks a).2
 .exact(h.off e d b a).2.2.2
theorem adN(bb n:Nat)(es:List ae)(ms:List Int)(vi vm:KX)(ao d po:Option Addr)(cap fB pcap:Nat)(ts:List ag)(q:af)(db:List aJ)(pl:List ai)(W:U)(hB:bK W bb 33 23 3 n es ms vi vm)(hn:n<=30000)(hes:N es<=200000)(hbb:∀b,bK.own bb es vi vm b->bb<=b)
  (hlow:∀W',Below bb W W'->aN W' ao ts/\q.At W'/\qJ W' d db/\bT W' po pl/\dS W' 0)
  (hgv:∀x,aN x ao ts->q.At x->qJ x d db->bT x po pl->Calls V 6 #[Z ao (N ts) cap,FN q.cells,Z po (N pl) pcap,Z d (N db) fB] x λe w'=>∃G bc L S X be bo bw bp bd v vr u1 u2 A k1 k2 s1 s2 x1 x2 cO ns,e=FR (Y (O (aD G 0)))/\
   zP x w' G 43 88 86 90 3 53 50 30 23 ts q db cO pl ns bc L S X be bo bw bp bd v vr u1 u2 A k1 k2 s1 s2 x1 x2) :
  Calls V 4 #[Y (O (aD bb 0)),Z ao (N ts) cap,FN q.cells,Z po (N pl) pcap,Z d (N db) fB] W λe W'=>e=FR (EP T)/\∃n' l az uh sI,bK W' bb 33 23 3 n' l az uh sI/\n'<=n+20001/\N l<=N es+80004/\
   (∀b,bK.own bb l uh sI b->bb<=b)/\Below bb W W':=by
 have bG:bb<M (H W):=hB.cell.lt;obtain⟨D,aM,a,aO⟩:=aX W q.cells 26;obtain⟨hx,hq,hd,hp,hs⟩:=hlow W (Qr _ _);have aa:=hgv D (hx.below a) (hq.below a) (hd.below a) (Jh a hp);have m:Wl (aN D ao ts/\q.At D/\qJ D d db/\bT D po pl/\dS D 0):=⟨hx.below a,hq.below a,hd.below a,Jh a hp,Jk a hs⟩;have aA:=Zh λ(x:U) (r:Bw D x)=>Uq ao d po cap fB pcap ts q db pl x (m.o.1.below r) (m.o.2.1.below r) (m.o.2.2.1.below r) (Jh r m.o.2.2.2.1);obtain⟨u,av,HB,aQ,Cu,Yf⟩:=Dm aO a hB hbb hlow hB.aoD;have bH:=hp.1;have bz:=hx.1;clear hgv a hB hbb hx hq hd hp hs hlow;have OC:q.cells=#[Z q.src.ad (N q.src.xs) q.src.cap,Z q.dx (N q.wh) q.aP,EP q.group,Z q.keys.ad (N q.keys.xs) q.keys.cap,Z q.sums.ad (N q.sums.xs) q.sums.cap,Z q.aH.ad (N q.aH.xs) q.aH.cap,Z q.ord.ad (N q.ord.xs) q.ord.cap]:=rfl;rw[OC]at aa aA u aM ⊢;obtain⟨c0,c1,c2,c3,c4,c5,c6⟩:=u.o.k7;go_enter Tryz.func4,Tryz.ntmps4;go_wp2_with fail;refine aa.mono ?_;rintro e wg ⟨G,bc,L,S,X,be,bo,bw,bp,bd,v,vr,u1,u2,A,k1,k2,s1,s2,x1,x2,cO,ns,rfl,p⟩;clear aa c0 c1 c2 c3 c4 c5 c6 aM aO;have aB:=p.qE;have j:=p.below ((Qr _ _).drew);have y:N (ns.take (N pl))=N pl:=by rw[XK,p.plan.len];omega
 have aC:(vE q L S X be bo bw A).cells=#[Z (O (aD L 0)) (N q.src.xs) (N q.src.xs+2),Z (O (aD bw 0)) (N q.wh) (N q.wh+2),EP q.group,Z (O (aD S 0)) (N q.keys.xs) (N q.keys.xs+2),Z (O (aD X 0)) (N q.sums.xs) (N q.sums.xs+2),Z (O (aD be 0)) (N q.aH.xs) (N q.aH.xs+2),Z (O (aD bo 0)) (N q.ord.xs) (N q.ord.xs+2)]:=by unfold af.cells vE ae.val;simp only[lJ]
 have ah:=KJ (O (aD bc 0)) (O (aD bd 0)) (N ts+2) (N db+2) ts (vE q L S X be bo bw A) cO (O (aD bp 0)) (N pl+2) (ns.take (N pl)) wg.drew (ahw j.cat bz) (JN j m.o.2.1) (by show N q.keys.xs<=N q.keys.xs+2;omega) (by show N q.ord.xs<=N q.ord.xs+2;omega) (j.had m.o.2.2.1) (j.plan.nodes m.o.2.2.2.1) (Jk j.qE m.o.2.2.2.2) (λi hi=>by
  rw[y]at hi;obtain⟨P,Q,e,_⟩:=p.plan.OX i hi;rw[Br _ _ _ _ hi,e];simp)
 obtain⟨eE,eR⟩:=adH ts L S X be bo bw A p.len p.same y p.plan.same (q:=q);rw[eE,eR,p.len,y,aC]at ah;generalize mr ts q pl db=Ez at*;generalize xz ts q pl db=R at*;obtain⟨g0,g1,g2,g3,g4,g5,g6,g7,g8⟩:=p.g.k9;have g9:=p.g.at 9;obtain⟨HG,k⟩:=aV p aB;clear p aB j y aC eE eR;go_wp2_with fail;refine wH wg λC=>?_;refine FD 0 C ?_;refine wA5 10 C ?_;refine Fz 15 C ?_;refine wR 16 λK hK=>?_;go_simp;refine ah.mono ?_;rintro e w3 ⟨aR,aS,ys,rfl,aT,hC,aU⟩;refine oT hK C aU λC=>?_;clear hK K ah aU g0 g1 g2 g3 g4 g5 g6 g7 g8 g9;refine wA5 17 C ?_;refine wD ?_;have ru:=aj k.o C;obtain⟨e0,e1,e2,e3,e4,e5,e6⟩:=(u.o.of (ru.block _ u.o.lt)).k7;have aF:=aA.o w3 ru;obtain⟨DY,G5,HC⟩:=fe C aT hC;clear aT hC C;go_wp2_with fail;refine XO aF ?_;rintro e w4 ⟨bD,dV,zs,rfl,aW,aY,t⟩;clear aF e0 e1 e2 e3 e4 e5 e6;have Io:=aj ru t;obtain⟨e0,e1,e2,e3,e4,e5,e6⟩:=(u.o.of (Io.block _ u.o.lt)).k7;have Ml:=Fx D w4 G ao d po cap fB pcap ts q db cO pl ns bc L S X be bo bw bp bd v vr u1 u2 A k1 k2 s1 s2 x1 x2 (HG.o.below (aj DY.o t)) (m.o.1.below Io) (m.o.2.1.below Io) (m.o.2.2.1.below Io) (Jh Io m.o.2.2.2.1);rw[OC]at Ml;obtain⟨bL,bE,wQ,aZ,ax⟩:=J5 Io aY (aj DY.o t) (HC.o.below t) aW;clear ru Io t aY aW HC;go_wp2_with fail;refine XO Ml ?_;rintro e w5 ⟨rfl,z⟩;clear Ml e0 e1 e2 e3 e4 e5 e6;have zX:=Av aR bD aS dV ys zs w5 (aZ.o.below z).anX (bE.o.below z) (by have h1:=congrArg N (G5.o.trans ax.o.symm);grind) (λi hi=>by
  have h1:E (ys.map ae.xs) i []=E (zs.map ae.xs) i []:=by rw[G5.o,ax.o]
  have h2:=congrArg N (G5.o.trans ax.o.symm);rw[Q8,Q8]at h2;have bA:i<N zs:=by omega
  simpa [List.getD,hi,bA] using h1)
 have jS:=Zh z;clear z;go_wp2_with fail;refine XO zX ?_;rintro e w6 ⟨rfl,ay⟩;clear zX;have f:=aZ.o.below (aj jS.o ay);have aG:=aj jS.o ay;have OV:=aj wQ.o aG;have ak:Bw W w6:=aj av.o (aj k.o OV);have bB:M (H W)<=M (H wg):=Q6 av.o.size k.o.size;have aI:=adM bb n es ms vi vm aR aS (M (H wg)) ys w6 (HB.o.below ak) (λb r=>by have:=Yf.o b r;omega) OV.size f.cells (by have:=f.len;omega) f.at' f.new f.apart f.list hn hes f.wide;have bI:=f.len;obtain⟨Un,Hz⟩:=aV OV ak;clear f aG OV ak ay;go_wp2_with fail;refine XO aI ?_;rintro e w7 ⟨rfl,l,az,uh,sI,bg,bn,B,bq⟩;clear aI;have au:Below bb W w7:=⟨B.os.trans Hz.o.os,B.tape.trans Hz.o.tape,B.output.trans Hz.o.output,Q6 Hz.o.size B.size,λb r=>(B.block b (by have:=Hz.o.size;omega) ⟨by omega,λh=>by have:=aQ.o b h;omega⟩).trans (Hz.o.block b (by omega))⟩;have aK:=HG.o.later (w'':=w7) (Q6 Un.o.size B.size) (λb hl r=>(B.block b (by have:=Un.o.size;omega) ⟨r,λh=>by have:=Yf.o b h;have:=av.o.size;omega⟩).trans (Un.o.block b r));obtain⟨t7,q7,d7,p7,-⟩:=Cu.o w7 au;have Ml:=Fx (JK w7) w7 G ao d po cap fB pcap ts q db cO pl ns bc L S X be bo bw bp bd v vr u1 u2 A k1 k2 s1 s2 x1 x2 aK t7 q7 d7 p7;rw[OC]at Ml;obtain⟨e0,e1,e2,e3,e4,e5,e6⟩:=(u.o.of ((B.block _ (by have h1:=u.o.lt;have h2:=Below.size k.o;have h3:=Un.o.size;omega) ⟨by have h1:=u.o.lt;have h2:=Below.size k.o;omega,λh=>by have:=Yf.o _ h;omega⟩).trans ((aj k.o Un.o).block _ u.o.lt))).k7;obtain⟨Df,bF⟩:=aV bg bn;have bC:Wl (∀b,bK.own bb l uh sI b->bb<=b):=λb r=>by
  rcases bq b r with h|h
  .exact aQ.o b h
  .omega
 have Od:=Zh au;clear aK t7 q7 d7 p7 bg bn B bq au bB;go_wp2_with fail;refine XO Ml ?_;rintro e w8 ⟨rfl,zu⟩;clear Ml e0 e1 e2 e3 e4 e5 e6;have aL:=ahG Ez w8;go_wp2_with fail;refine XO aL ?_;rintro e w9 ⟨rfl,rfl⟩;clear aL;have bJ:(Ez==Ez)=true:=by simp
 go_wp2;go_ret;exact⟨rfl,n+N ys,l,az,uh,sI,Df.o.below zu,by omega,by have:=bF.o;omega,bC.o,Od.o.trans (zu.mono (by have:=Od.o.size;omega))⟩
def adO(ao d po:Option Addr)(cap fB pcap:Nat)(ts:List ag)(q:af)(db:List aJ)(pl:List ai)(w:U)(hx:aN w ao ts)(hq:q.At w)(hd:qJ w d db)(hp:bT w po pl)(hsh:dS w 0)(hsz:N ts*48<=140737488351232)
  (z1:N q.src.xs*8<=140737488351232) (z2:N q.keys.xs*8<=140737488351232) (z3:N q.sums.xs*8<=140737488351232) (z4:N q.aH.xs*8<=140737488351232) (z5:N q.ord.xs*8<=140737488351232)
  (z6:N q.wh*24<=140737488351232) (z7:∀i,i<N q.wh->(E q.wh i lz).cs.length*40<=140737488351232)
  (y1:N db*24<=140737488351232) (y2:∀i,i<N db->(E db i rz).rs.length*24<=140737488351232) (y3:∀i,i<N db->∀j,j<(E db i rz).rs.length->((E db i rz).rs.getD j iz).xs.length*8<=140737488351232)
  (p1:N pl*88<=140737488351232) (p2:∀i,i<N pl->(E pl i nz).cl.xs.length*8<=140737488351232/\(E pl i nz).co.xs.length*8<=140737488351232) :
  Cb 3 #[Z ao (N ts) cap,FN q.cells,Z po (N pl) pcap,Z d (N db) fB] w (EP T):=by
 obtain⟨f,z,g,r⟩:=aX w q.cells 26;obtain⟨t,D,l,hG⟩:=aX f #[I J 0,Z E5 0 0,Z E5 0 0,Z E5 0 0,Z E5 0 0] 33;have S:bK t (M (H f)) 33 23 3 0 [] [] (Z E5 0 0) (Z E5 0 0):=⟨hG,Xl _ _ _ _,Xl _ _ _ _,rfl,λk hk=>absurd hk (by simp),λe he=>by cases he⟩;have p:∀b,bK.own (M (H f)) [] (Z E5 0 0) (Z E5 0 0) b->M (H f)<=b:=by
  rintro b (rfl|h|h|⟨e,he,-⟩)
  .exact Qs _
  .cases h
  .cases h
  .cases he
 have Cu:Wl (∀x,Below (M (H f)) t x->aN x ao ts/\q.At x/\qJ x d db/\bT x po pl/\dS x 0):=λx R=>by have h:=Below.trans (aj g l) (R.mono g.size);exact⟨hx.below h,hq.below h,hd.below h,Jh h hp,Jk h hsh⟩
 have u:=Zh λ(n:Nat) (W:List ae) (ms:List Int) (vi vm:KX) (x:U) (R:Below (M (H f)) t x) (S:bK x (M (H f)) 33 23 3 n W ms vi vm) (hn:n<=30000) (aF:N W<=200000) (p:∀b,bK.own (M (H f)) W vi vm b->M (H f)<=b)=>
  adN (M (H f)) n W ms vi vm ao d po cap fB pcap ts q db pl x S hn aF p (λy hy=>Cu.o y (Below.trans R hy)) (λy a b c e=>adG ao d po cap fB pcap ts q db pl y a b c e hsz z1 z2 z3 z4 z5 z6 z7 y1 y2 y3 p1 p2)
 have v:=u.o 0 [] [] (Z E5 0 0) (Z E5 0 0) t (Qr _ _) S (by omega) (by simp) p;have X:=Zh λ(x:U) (R:Below (M (H f)) t x)=>(r.of ((R.block _ r.lt).trans (l.block _ r.lt))).k7;have aa:=Zh (aj g l);have HS:Wl (M (H w)<=M (H f)/\M (H f)<=M (H t)):=⟨g.size,l.size⟩;have OC:q.cells=#[Z q.src.ad (N q.src.xs) q.src.cap,Z q.dx (N q.wh) q.aP,EP q.group,Z q.keys.ad (N q.keys.xs) q.keys.cap,Z q.sums.ad (N q.sums.xs) q.sums.cap,Z q.aH.ad (N q.aH.xs) q.aH.cap,Z q.ord.ad (N q.ord.xs) q.ord.cap]:=rfl;rw[OC]at z v u ⊢;simp only[ae.val]at X;obtain⟨ah,ak⟩:=aV z D;clear hx hq hd hp hsh hsz z1 z2 z3 z4 z5 z6 z7 y1 y2 y3 p1 p2 g l z D hG S p r OC;obtain⟨c0,c1,c2,c3,c4,c5,c6⟩:=X.o t (Qr _ _);go_enter Tryz.func3,Tryz.ntmps3;go_upto_region 1 with fail;rw[ah.o];go_upto_region 2 with fail;rw[ak.o];go_wp2_with fail;refine XO v ?_;rintro e w3 ⟨rfl,n3,au,av,ax,ay,G,Ae,K,L,m⟩;clear v c0 c1 c2 c3 c4 c5 c6;have B:=u.o n3 au av ax ay w3 m G (by omega) (by simp at K;omega) L;obtain⟨c0,c1,c2,c3,c4,c5,c6⟩:=X.o w3 m;clear G L;go_wp2_with fail;refine XO B ?_;rintro e w4 ⟨rfl,n4,az,aA,aB,aC,P,NS,aG,aD,A⟩;clear B c0 c1 c2 c3 c4 c5 c6;have C:=Yx (M (H f)) n4 az aA aB aC w4 P (by simp at K;omega);clear P aD;go_wp2_with fail;refine XO C ?_;rintro e w5 ⟨rfl,Q⟩;clear C;have HF:Wl (Bw w w5):=by obtain⟨s1,s2⟩:=HS.o;have h1:Below (M (H f)) t w5:=Below.trans (Below.trans m A) (Q.mono (by have:=m.size;have:=A.size;omega));exact aa.o.trans (h1.mono s1)
 clear m A Q;go_wp2;go_ret;exact⟨rfl,HF.o⟩
