import Derived.Test.YtnjbikdhpnopjaaGreatDoorA09
set_option linter.all false
set_option maxRecDepth 100000
set_option maxHeartbeats 0
namespace Go.Proofs.Zz
open Go.RowKit Go.Shelf
open List renaming length->N,getD->E
open Go.Value renaming slice->Z,int->I,pointer->Y,bool->Wl,agg->FL
open Go.Proofs.Tryz renaming prog->V
open Option renaming some->O,none->xn
open Go.IntKind renaming i64->J,u64->Vo
open Go renaming World->U,Value->X3
open Go.World renaming heap->H,setCell->UC,cell?->UK
open _root_.Array renaming size->M
open Go.RowKit renaming Hid->Y3
open Go.Obj renaming cells->EP
variable {W:U}
def fe.rows{Ez:El ae (List Int)}{n0:Nat}{w:U}{e:TypeId}{ys:List ae}{o:Nat->Prop}{v:X3}(h:fe Ez n0 w e ys o W v)(hat:∀y,Ez.At y W->ae.At y W)(hl:N ys<=1000000):∃d cap,v=Z d (N ys) cap/\jk W d ys:=by obtain⟨d,cap,f⟩:=xy h.own;refine⟨d,cap,f,by omega,λi b=>?_,λi b=>hat _ (h.at' _ (BM b))⟩;obtain⟨g,j,a,k⟩:=qP h.own b;rw[f]at a;rw[Value.slice.injEq]at a;refine⟨g,0,a.1,?_⟩;rw[ZK,k,ZA,ZB b];simp[List.getD,b]
def abL(ao:Option Addr)(cap:Nat)(ys:List ae)(n:Nat)(w:U)(h:jk w ao ys)(hl:N ys<=1000000)(hall:∀y∈ys,N y.xs=n) :
  Ce 20 #[Z ao (N ys) cap,I J n] w (Wl true):=by
 have j:Y3 _:=h;have l:Y3 _:=hall;clear h hall;go_enter Tryz.func20,Tryz.ntmps20;go_wp2;go_loopw [5] (λi wr=>∃k:Nat,k<=N ys/\i=I J k/\w=wr) (λi _=>N ys-(intOf i).toNat)
 case atStart=>exact⟨0,QW _,rfl,rfl⟩
 case round=>
  obtain⟨k,r,rfl,rfl⟩:=hrel;by_cases e:k<N ys
  .obtain⟨b,off,rfl,g⟩:=j.o.2.1.get e;have f:=g k e;have a:=l.o _ (BM (d:=iz) e);generalize E ys k iz=y at*;obtain⟨p,q,t⟩:=y;simp only at a;have m:UK w (aD b (off+k))=O (Z p n q):=by rw[<-a];exact f
   clear f g a;go_wp2;go_roundw
   case rel=>exact⟨k+1,by omega,by go_num,trivial⟩
   case measure=>simp[intOf];omega
  .obtain rfl:k=N ys:=by omega
   go_wp2;go_ret;exact⟨rfl,rfl⟩
def Tryz.ajp:(V.info? 141).map (λi=>(i.zero,i.size,i.bytes))=O (O (FL #[I J 0,I Vo 0]),2,16):=by kernel_rfl
def Tryz.ajq:(V.info? 37).map (λi=>(i.zero,i.size,i.bytes))=O (O (I Vo 0),1,8):=by kernel_rfl
def Tryz.ajr:(V.info? 86).map (λi=>(i.zero,i.size,i.bytes))=O (O (I Vo 0),1,8):=by kernel_rfl
def Tryz.aaD:141≠90:=by decide
def Tryz.Tj:37≠90:=by decide
def Tryz.akZ:86≠90:=by decide
def Tryz.ak0:141≠37:=by decide
def Tryz.ak1:86≠37:=by decide
def Tryz.arU:141≠49:=by decide
def Tk(W:U)(base:Nat)(v:X3)(xs:List Nat)(hown:W.ownsRow base 37 1 v (N xs) (xs.map λ(x:Nat)=>I Vo (x:Int)))(hl:N xs<=1000)(hb:base<=M (H W))(x:Nat)(ty:TypeId) :
  ∃d e,(Builtin.append_ #[87,87] ty #[v,Z (O (aD (M (H W)) 0)) 1 1]).run V (W.alloc (EP #[I Vo (x:Int)] 37))=.ok d e/\
   e.ownsRow base 37 1 d (N (xs++[x])) ((xs++[x]).map λ(x:Nat)=>.int Vo (x:Int))/\Kept (λb=>v.ownBlock≠O b) W e/\(∃a m c,d = .slice a m c)/\(d.ownBlock=v.ownBlock∨d.ownBlock=O (M (H W)+1)):=by obtain⟨l,n,f,g,i⟩:=Zj Tryz.ajq;obtain⟨d,e,p,q,r,t,j⟩:=iI (P:=V) W base 87 ty 37 l (.int Vo 0) 1 8 Tryz.underlying87 n f g i rfl (by decide) v (N xs) _ hown hb [.int Vo (x:Int)] rfl (λu k=>by rw[Zg]at k;rw[k];rfl) hl (by decide);exact⟨d,e,p,by rw[Zn,Qi];exact q,r,t,j⟩
def af1(W:U)(base:Nat)(v:X3)(xs:List Nat)(hown:W.ownsRow base 86 1 v (N xs) (xs.map λ(x:Nat)=>I Vo (x:Int)))(hl:N xs<=1000)(hb:base<=M (H W))(x:Nat)(ty:TypeId) :
  ∃d e,(Builtin.append_ #[88,88] ty #[v,Z (O (aD (M (H W)) 0)) 1 1]).run V (W.alloc (EP #[I Vo (x:Int)] 86))=.ok d e/\
   e.ownsRow base 86 1 d (N (xs++[x])) ((xs++[x]).map λ(x:Nat)=>.int Vo (x:Int))/\Kept (λb=>v.ownBlock≠O b) W e/\(∃a m c,d = .slice a m c)/\(d.ownBlock=v.ownBlock∨d.ownBlock=O (M (H W)+1)):=by obtain⟨l,n,f,g,i⟩:=Zj Tryz.ajr;obtain⟨d,e,p,q,r,t,j⟩:=iI (P:=V) W base 88 ty 86 l (.int Vo 0) 1 8 Tryz.underlying88 n f g i rfl (by decide) v (N xs) _ hown hb [.int Vo (x:Int)] rfl (λu k=>by rw[Zg]at k;rw[k];rfl) hl (by decide);exact⟨d,e,p,by rw[Zn,Qi];exact q,r,t,j⟩
def af2(W:U)(base:Nat)(v:X3)(n:Nat)(xs:List X3)(hown:W.ownsRow base 141 2 v n xs)(hl:n<=1000)(hb:base<=M (H W))(s:Nat)(k:Int)(ty:TypeId) :
  ∃d i,(Builtin.append_ #[84,84] ty #[v,Z (O (aD (M (H W)) 0)) 1 1]).run V (W.alloc (EP #[I J (s:Int),I Vo k] 141))=.ok d i/\
   i.ownsRow base 141 2 d (n+1) (xs++kW (s,k))/\Kept (λb=>v.ownBlock≠O b) W i/\(∃a m c,d = .slice a m c)/\(d.ownBlock=v.ownBlock∨d.ownBlock=O (M (H W)+1)):=by obtain⟨l,p,e,f,g⟩:=Zj Tryz.ajp;exact iI (P:=V) W base 84 ty 141 l (FL #[.int J 0,.int Vo 0]) 2 16 Tryz.underlying84 p e f g rfl (by decide) v n _ hown hb [.int J (s:Int),.int Vo k] rfl (λu j=>by simp at j;rcases j with rfl|rfl <;> rfl) hl (by decide)
def arV{b:Nat}{ty:TypeId}{a0 a1:X3}{t:ah}(h:GB W b ty #[a0,a1,I J t.k0,I J t.k1,I J t.k2,I J t.k3]){m:Nat}(hm:m<4):UK W (aD b (2+m))=O (I J (t.kd m)):=by
 rcases (by omega:m=0∨m=1∨m=2∨m=3) with rfl|rfl|rfl|rfl
 .exact h.cell 2
 .exact h.cell 3
 .exact h.cell 4
 .exact h.cell 5
def Mm{l:List Nat}{i:Nat}(hi:i<N l):l.take (i+1)=l.take i++[E l i 0]:=by
 have e:E l i 0=l[i]:=by simp[List.getD,hi]
 rw[Qh hi,e]
def Mo{B:Nat}{v0 v1 v2 v3 v4 v5 v6 v7 v8 v9 v10 v11 v12:X3}(h:GB W B 90 #[v0,v1,v2,v3,v4,v5,v6,v7,v8,v9,v10,v11,v12]):(loadVar 90 (aD B 0)).run V W=.ok (FL #[v0,v1,v2,v3,v4,v5,v6,v7,v8,v9,v10,v11,v12]) W:=by obtain⟨e,f,g,i,j,k,l,m,n,p,a,b,d⟩:=h.oh;simp[go_sem,e,f,g,i,j,k,l,m,n,p,a,b,d]
theorem Fa(ao:Option Addr)(cap:Nat)(ts:List ah)(q:af)(w:U)(hx:bu w ao ts)(hq:q.At w)(ok:Ok ts q) :
  Calls V 35 #[Z ao (N ts) cap,FL q.cells] w λe w'=>∃f:aF,e=.returned (FL (f.cells ts q))/\f.At ts q w'/\f.New (M (H w))/\Bw w w':=by
 obtain⟨w1,fU,dm,dn⟩:=aL w q.cells 26;obtain⟨r,fV,dZ,ed⟩:=aL w1 #[Z xn 0 0,Z xn 0 0,Wl false,Z xn 0 0,Z xn 0 0,Z xn 0 0,Z xn 0 0,Z xn 0 0,I Vo 0,I Vo 0,Z xn 0 0,Z xn 0 0,Z xn 0 0] 90;have aX:=dZ;have aY:=az dm aX;have jJ:=dn.of (aX.block _ dn.lt);obtain⟨fZ,iy,jd,iK,iL,je,jf⟩:=jJ.k7;have qU:=ed;have bU:=ok.small;have fq:=ok.wm;obtain⟨S,y⟩:∃S,S=2 ^ (N q.src.xs)-1:=⟨_,rfl⟩;obtain⟨C,hC⟩:∃C,C=2 ^ (N q.wh)-1:=⟨_,rfl⟩;obtain⟨HS,dw⟩:=aJ y hC;have dJ:Y3 (∀x,Ce 63 #[I J (N q.src.xs:Int)] x (I Vo (S:Int))):=λx=>by rw[y];exact zQ (N q.src.xs) bU x
 have dK:Y3 (∀x,Ce 63 #[I J (N q.wh:Int)] x (I Vo (C:Int))):=λx=>by rw[hC];exact zQ (N q.wh) fq x
 clear y hC;have HX:Y3 _:=hx.below aY;obtain⟨HQ,gm,gp,Me,Sv,iA⟩:=MP (hq.below aY) hq dm.size ok aY aX;have ib:=hq.src.1;have ic:=hq.wh.1;clear hx hq ok aY aX dm dZ dn ed jJ;have nO:Y3 _:=qU;clear qU;obtain⟨⟨sa,sc,src⟩,gI,bP,wh,group,⟨L,kc,d⟩,⟨P,Q,j⟩,⟨W,X,bE⟩,⟨da,dc,ord⟩⟩:=q;unfold af.cells ae.val at*;simp only at*;go_enter Tryz.func35,Tryz.ntmps35;go_upto_region 1 with fail;go_cut [5] from 13 to 22 (λc wx=>c=Y (O (aD (M (H r)) 0))/\GB wx (M (H r)) 90 #[Z sa (N src) sc,Z gI (N wh) bP,Wl group,Z L (N d) kc,Z P (N j) Q,Z W (N bE) X,Z da (N ord) dc,Z xn 0 0,I Vo (S:Int),I Vo (C:Int),Z xn 0 0,Z xn 0 0,Z xn 0 0]/\Bw r wx)
 case first=>
  refine wH r λy=>?_;refine wT 0 (FL #[Z sa (N src) sc,Z gI (N wh) bP,Wl group,Z L (N d) kc,Z P (N j) Q,Z W (N bE) X,Z da (N ord) dc]) y (λx hx=>?_) ?_
  .have e0:=tO hx fZ iy jd iK iL je jf;go_simp
  refine wt 1 (Y (O (aD (M (H w)) 0))) y ?_;refine wtc 2 (Z sa (N src) sc) y fZ ?_;refine wt 3 (I J (N src:Int)) y ?_;refine wt 5 (Y (O (aD (M (H w)) 1))) y ?_;refine wtc 6 (Z gI (N wh) bP) y iy ?_;refine wt 7 (I J (N wh:Int)) y ?_
  repeat' first
   |(first|refine kJ 4 10 (λK u=>?_) λK u=>?_|refine kJ 8 10 (λK u=>?_) λK u=>?_|refine kR 4 λK u=>?_|refine kR 8 λK u=>?_|refine kR 10 λK u=>?_|refine kR 11 λK u=>?_) <;> (first|(go_simp;(first|refine oA u y λy=>?_|refine u.o _ _ ((dN _ _).drew) λy=>?_|((first|refine XX (dJ.o _) ?_|refine XX (dK.o _) ?_);rintro e wz ⟨rfl,rfl⟩;refine u.o _ _ y λy=>?_));clear u K))
   |refine kG 9 ?_;refine wt 9 (FL #[Z sa (N src) sc,Z gI (N wh) bP,Wl group,Z L (N d) kc,Z P (N j) Q,Z W (N bE) X,Z da (N ord) dc,Z xn 0 0,I Vo (S:Int),I Vo (C:Int),Z xn 0 0,Z xn 0 0,Z xn 0 0]) y ?_
   |refine kD ?_;(try simp only[pU]);go_wp2_with fail;go_meet;exact⟨rfl,pR r _,y⟩
 case rest=>
 obtain⟨rfl,dx,bB⟩:=hcut;obtain⟨w3,gq⟩:∃x,x=wc:=⟨_,rfl⟩;subst gq;have JN:Y3 (∀x,Kept (λb=>b≠M (H r)) w3 x->Bw r x):=λx hk=>bB.trans (hk.below bB.size (λb G=>Nat.ne_of_lt G));have fu:Y3 _:=dx;have gX:=dx.lt;have n0:=cB bB fZ;clear dx bB fU fV dJ dK;go_wp2;go_loopw [26] (λiv wr=>∃k:Nat,k<=N src/\iv=I J k/\∃cv rv,Y3 (GB wr (M (H r)) 90 #[Z sa (N src) sc,Z gI (N wh) bP,Wl group,Z L (N d) kc,Z P (N j) Q,Z W (N bE) X,Z da (N ord) dc,cv,I Vo (S:Int),I Vo (C:Int),rv,Z xn 0 0,Z xn 0 0])/\Y3 (wr.ownsRow (M (H w3)) 141 2 cv (N (dD ts src k)) ((dD ts src k).flatMap kW))/\Y3 (wr.ownsRow (M (H w3)) 37 1 rv (N (qF ts src k)) ((qF ts src k).map λ(x:Nat)=>I Vo (x:Int)))/\Y3 (Kept (λb=>b≠M (H r)) w3 wr)) (λiv _=>N src-(intOf iv).toNat)
 case atStart=>exact⟨0,QW _,rfl,Z xn 0 0,Z xn 0 0,fu.o,Zk _ _ _ _,Zk _ _ _ _,Qy _ _⟩
 case round=>
  obtain⟨k,hk,rfl,cv,rv,HG,ry,PE,wG⟩:=hrel;have aI:=JN.o wr wG.o;have q0:=cB aI fZ;by_cases bS:k<N src
  .obtain⟨sb,so,rfl,ek⟩:=Qg (Qo aI HQ.o.src) bS;have fw:=ek k bS;obtain⟨eu,eB⟩:=Cg Me.o.src bS;obtain⟨n,hn⟩:=XT eu;have ik:UK wr (aD sb (so+k))=O (I J (n:Int)):=by grind
   have dL:n<N ts:=by have h:E src k 0<(N ts:Int):=eB;rw[hn]at h;omega
   obtain⟨tb,iB,rfl,c0,c1,c2,c3,c4,c5⟩:=(bu.below aI HX.o).2 n dL;have bV:=Ca Me.o.cat dL;have bW:Y3 (qF ts src (k+1)=qF ts src k++[(E ts n tz).rows.toNat]):=by show _=_;rw[Ti];unfold mV;rw[Xk,show (E src k 0).toNat=n by rw[hn];rfl]
   have FJ:Y3 (dD ts src (k+1)=dD ts src k++(List.range (E ts n tz).cols.toNat).map λm=>(k,(E ts n tz).kd m)):=by show _=_;rw[iE,show (E src k 0).toNat=n by rw[hn];rfl]
   have dM:Y3 (∀m,(dD ts src k++((List.range (m+1)).map λm=>(k,(E ts n tz).kd m))).flatMap kW=(dD ts src k++((List.range m).map λm=>(k,(E ts n tz).kd m))).flatMap kW++kW (k,(E ts n tz).kd m)):=λm=>by have:=acG ts src k m;rw[show (E src k 0).toNat=n by rw[hn];rfl]at this;exact this
   have Al:Y3 (N (dD ts src k)<=4*k):=Ef Me.o.cat Me.o.src bU k (by omega);have fA:=Zh (sD ts src k);unfold mK at bV;rw[ZW]at bV;obtain⟨gu,gy,eD,gz,eG⟩:=bV;have Wn:=Zh eG;clear ek fw eu eB hn eG;generalize dD ts src k=CK at*;generalize E ts n tz=t at*;obtain⟨R,hR⟩:=XT eD;obtain⟨cn,dz⟩:=XT (show 0<=t.cols by omega);rw[hR]at c1 gz;rw[dz]at c0 gu gy;rw[hR,Xk]at bW;rw[dz,Xk]at FJ Wn;obtain⟨wb,dA,A,dB⟩:=aL wr #[I J (cn:Int),I J (R:Int),I J t.k0,I J t.k1,I J t.k2,I J t.k3] 49;have b1:=dB.at 1;clear hR dz eD;obtain⟨ra,rm,rc,rfl⟩:=Zc PE.o;have aZ:=HG.o.of (A.block _ HG.o.lt);have fB:=aZ.at 10;have bf:=XU PE.o A;have dO:=Qz wG.o.size A.size;obtain⟨v',w5,oU,yK,aS,⟨va,vm,vc,rfl⟩,aa⟩:=Tk wb (M (H w3)) (Z ra rm rc) (qF ts src k) bf (by rw[fA.o];omega) dO R 87;rw[<-bW.o]at yK;obtain⟨g5,gY,oY,kY⟩:=CP Tryz.Tj aZ bf yK aS aa 10;have f5:=g5.at 10;have z5:=g5.frozen 10;obtain⟨Yq,hY⟩:=eX (UC w5 (aD (M (H r)) 10) (Z va vm vc));rw[hY]at gY oY kY;have dP:GB Yq (M (H r)) 90 #[Z (O (aD sb so)) (N src) sc,Z gI (N wh) bP,Wl group,Z L (N d) kc,Z P (N j) Q,Z W (N bE) X,Z da (N ord) dc,cv,I Vo (S:Int),I Vo (C:Int),Z va vm vc,Z xn 0 0,Z xn 0 0]:=gY;have bX:M (H wr)≠M (H r):=by have:=HG.o.lt;omega
   have bY:∀b,(Value.slice ra rm rc).ownBlock=O b->M (H w3)<=b/\b<M (H wr):=λb h=>Zb PE.o h;have bZ:=dB.keep kY ⟨bX,λe=>by have:=(bY _ e).2;omega⟩;obtain⟨dC,dE⟩:=aJ ((wG.o.trans (QB A (λb G _=>G))).trans' kY (λb G h=>⟨h,λe=>by have:=(bY _ e).1;omega⟩)) (Za (XU ry.o A) kY (λg hg=>⟨λe=>qX Tryz.aaD (XU ry.o A) aZ (by rw[hg,e]),CJ Tryz.ak0 (XU ry.o A) bf hg⟩));have y0:=bZ.at 0;have cu:=hd bZ;have cz:Y3 _:=dP;have cK:Y3 _:=oY;have fC:Y3 _:=bX;clear gY dP oY kY bZ bY yK aS aa bf aZ g5 dB PE ry HG bW dO wG bX;go_wp2_with (first|(at_builtin;refine Xm rfl (.tmp 36) (.tmp 40) 87 rfl (Z ra rm rc) (Z (O (aD (M (H wb)) 0)) 1 1) (Z va vm vc) w5 rfl rfl oU ?_));clear oU;go_wp2;clear hY dA f5 z5 fB b1 A;obtain⟨w9,gB⟩:∃x,x=wr:=⟨_,rfl⟩;subst gB;go_loopw [48] (λjv wx=>∃m:Nat,m<=cn/\jv=I J m/\∃cx,Y3 (GB wx (M (H r)) 90 #[Z (O (aD sb so)) (N src) sc,Z gI (N wh) bP,Wl group,Z L (N d) kc,Z P (N j) Q,Z W (N bE) X,Z da (N ord) dc,cx,I Vo (S:Int),I Vo (C:Int),Z va vm vc,Z xn 0 0,Z xn 0 0])/\Y3 (wx.ownsRow (M (H w3)) 141 2 cx (N CK+m) ((CK++((List.range m).map λm=>(k,t.kd m))).flatMap kW))/\Y3 (wx.ownsRow (M (H w3)) 37 1 (Z va vm vc) (N (qF ts src (k+1))) ((qF ts src (k+1)).map λ(x:Nat)=>I Vo (x:Int)))/\Y3 (Kept (λb=>b≠M (H r)) w3 wx)/\Y3 (GB wx (M (H w9)) 49 #[I J (cn:Int),I J (R:Int),I J t.k0,I J t.k1,I J t.k2,I J t.k3])) (λjv _=>cn-(intOf jv).toNat)
   case atStart=>exact⟨0,QW _,rfl,cv,cz.o,by show Y3 _;rw[List.range_zero,List.map_nil,Xd];exact dE.o,cK.o,dC.o,cu.o⟩
   case round=>
    obtain⟨m,hm,rfl,cx,aT,Dv,aU,JS,bC⟩:=hrel;by_cases gW:m<cn
    .obtain⟨gD,eH⟩:=Wn.o m gW;have fD:=arV bC.o (m:=m) (by omega);obtain⟨kn,eO⟩:=XT (show 0<=t.kd m by omega);have JQ:=Zh (dM.o m);rw[eO]at fD eH JQ;clear gD eO;obtain⟨ca,cm,cc,rfl⟩:=Zc Dv.o;have f7:=aT.o.at 7;have fE:=JS.o.size;obtain⟨v',w5,oU,yK,aS,⟨na,nm,nc,rfl⟩,aa⟩:=af2 wr (M (H w3)) (Z ca cm cc) (N CK+m) _ Dv.o (by have:=Al.o;omega) fE k (kn:Int) 84;rw[<-JQ.o]at yK;obtain⟨g5,gZ,oZ,kZ⟩:=CP Tryz.aaD aT.o Dv.o yK aS aa 7;have f5:=g5.at 7;have z5:=g5.frozen 7;obtain⟨Zq,hZ⟩:=eX (UC w5 (aD (M (H r)) 7) (Z na nm nc))
     rw[hZ]at gZ oZ kZ;have fF:=hd gZ;have fG:Y3 _:=oZ;have dR:=λb h=>Zb Dv.o (g:=b) h;obtain⟨gF,gG,gH⟩:=dQ (bC.o.keep kZ ⟨fC.o,qX Tryz.arU Dv.o bC.o⟩) (Za aU.o kZ (λg hg=>⟨λe=>qX Tryz.Tj aU.o aT.o (by rw[hg,e]),λe=>CJ Tryz.ak0 Dv.o aU.o e hg⟩)) (JS.o.trans' kZ (λb G h=>⟨h,λe=>by have:=(dR _ e).1;omega⟩));clear gZ oZ kZ aS aa g5 yK dR JQ aT Dv aU JS bC cz dE cK dC cu FJ;go_wp2_with (first|(at_builtin;refine Xm rfl (.tmp 53) (.tmp 58) 84 rfl (Z ca cm cc) (Z (O (aD (M (H wr)) 0)) 1 1) (Z na nm nc) w5 rfl rfl oU ?_));clear oU;go_wp2;go_roundw
     case rel=>exact⟨m+1,by omega,by go_num,Z na nm nc,fF.o,fG.o,gG.o,gH.o,gF.o⟩
     case measure=>simp[intOf];omega
    .obtain rfl:m=cn:=by omega
     clear cz dE cK dC cu dM;go_wp2;go_roundw
     case rel=>
      refine⟨k+1,by omega,by go_num,cx,Z va vm vc,aT.o,?_,aU.o,JS.o⟩;have h:=Dv.o;have e:=Zh FJ.o;show Y3 _;rw[e.o,Zn,Zm,ZP];exact h
     case measure=>simp[intOf];omega
  .obtain rfl:k=N src:=by omega
   obtain⟨w4,gJ⟩:∃x,x=wr:=⟨_,rfl⟩;subst gJ;have Al:Y3 (N (dD ts src (N src))<=4*N src):=Ef Me.o.cat Me.o.src bU (N src) (Qn _);obtain⟨ca,cc,rfl,-⟩:=GY ry.o (by have:=Al.o;omega);obtain⟨ra,rc,rfl,-⟩:=uB PE.o (by rw[sD];omega);rw[sD]at HG PE;obtain⟨CL,dF⟩:=eY (bT ts ⟨⟨sa,sc,src⟩,gI,bP,wh,group,⟨L,kc,d⟩,⟨P,Q,j⟩,⟨W,X,bE⟩,⟨da,dc,ord⟩⟩);obtain⟨PL,dG⟩:=eY (zF ts ⟨⟨sa,sc,src⟩,gI,bP,wh,group,⟨L,kc,d⟩,⟨P,Q,j⟩,⟨W,X,bE⟩,⟨da,dc,ord⟩⟩);obtain⟨eP,eQ⟩:=aJ dF dG;have aA:Y3 (N CL=N wh):=by rw[dF];exact kI ts ⟨⟨sa,sc,src⟩,gI,bP,wh,group,⟨L,kc,d⟩,⟨P,Q,j⟩,⟨W,X,bE⟩,⟨da,dc,ord⟩⟩
   have aC:Y3 (N PL=N wh):=by rw[dG];exact Lx ts ⟨⟨sa,sc,src⟩,gI,bP,wh,group,⟨L,kc,d⟩,⟨P,Q,j⟩,⟨W,X,bE⟩,⟨da,dc,ord⟩⟩
   clear dF dG;have cO:Y3 (∀x,Kept (λb=>b≠M (H r)) w4 x->iU x ca (dD ts src (N src))):=λx hk=>by obtain⟨a,c,e,h⟩:=GY (Za ry.o hk (λg hg e=>qX Tryz.aaD ry.o HG.o (by rw[hg,e]))) (by have:=Al.o;omega);cases e;exact h
   have n1:=cB aI iy;clear aI q0 hk bS;go_wp2;go_loopw [66] (λiv wr=>∃i:Nat,i<=N wh/\iv=I J i/\∃nv pv,Y3 (GB wr (M (H r)) 90 #[Z sa (N src) sc,Z gI (N wh) bP,Wl group,Z L (N d) kc,Z P (N j) Q,Z W (N bE) X,Z da (N ord) dc,Z ca (N (dD ts src (N src))) cc,I Vo (S:Int),I Vo (C:Int),Z ra (N src) rc,nv,pv])/\Y3 (wr.ownsRow (M (H w4)) 86 1 (nv) (N (CL.take i)) ((CL.take i).map λ(x:Nat)=>I Vo (x:Int)))/\Y3 (wr.ownsRow (M (H w4)) 37 1 (pv) (N (PL.take i)) ((PL.take i).map λ(x:Nat)=>I Vo (x:Int)))/\Y3 (Kept (λb=>b≠M (H r)) w4 wr)) (λiv _=>N wh-(intOf iv).toNat)
   case atStart=>exact⟨0,QW _,rfl,Z xn 0 0,Z xn 0 0,HG.o,Zk _ _ _ _,Zk _ _ _ _,Qy _ _⟩
   case round=>
    obtain⟨i,hi,rfl,nv,pv,aG,Du,ag,aH⟩:=hrel;have aK:=JN.o wr (wG.o.trans aH.o);by_cases Kw:i<N wh
    .obtain⟨cb,co,gK,eT⟩:=Qf (HQ.o.below aK).wh.2.1 Kw;have bg:UK wr (aD cb (co+i))=O ((E wh i lz).val):=eT i Kw;obtain⟨ai,Tm⟩:∃x,x=E wh i lz:=⟨_,rfl⟩
     have cZ:aW wr ai.ad ai.cs:=by rw[Tm];exact(HQ.o.below aK).wh.2.2 i Kw
     have aM:aW r ai.ad ai.cs:=by rw[Tm];exact HQ.o.wh.2.2 i Kw
     have kU:jI ts ⟨⟨sa,sc,src⟩,gI,bP,wh,group,⟨L,kc,d⟩,⟨P,Q,j⟩,⟨W,X,bE⟩,⟨da,dc,ord⟩⟩ (aN ai.cs):=by rw[Tm];exact Me.o.cols i Kw
     have au:0<N ai.cs:=by rw[Tm];exact Me.o.some i Kw
     have dS:Y3 (E CL i 0=aO (eF ts src ai.cs)):=by show _=_;rw[eP.o,Tm];exact DR ts ⟨⟨sa,sc,src⟩,gI,bP,wh,group,⟨L,kc,d⟩,⟨P,Q,j⟩,⟨W,X,bE⟩,⟨da,dc,ord⟩⟩ Kw
     have dU:Y3 (E PL i 0=kQ ts src ai.cs):=by show _=_;rw[eQ.o,Tm];exact DT ts ⟨⟨sa,sc,src⟩,gI,bP,wh,group,⟨L,kc,d⟩,⟨P,Q,j⟩,⟨W,X,bE⟩,⟨da,dc,ord⟩⟩ Kw
     rw[<-Tm]at bg;clear Tm eT;subst gK;obtain⟨ad,aj,cs⟩:=ai;unfold aB.val at bg;simp only at bg cZ aM kU au dS dU;obtain⟨w8,gL⟩:∃x,x=wr:=⟨_,rfl⟩;subst gL;obtain⟨xa,xm,xc,rfl⟩:=Zc Du.o;obtain⟨pa,pm,pc,rfl⟩:=Zc ag.o;obtain⟨wb,dA,A,eU⟩:=aL w8 #[Z ad (N cs) aj] 73;have aP:=eU.at 0;obtain⟨ak,av,ax,dH⟩:=om (aG.o.of (A.block _ aG.o.lt)) (XU Du.o A) (XU ag.o A) (aH.o.trans (QB A (λb G _=>G)));have dV:Y3 (M (H w8)≠M (H r)):=λe=>by have:=aG.o.lt;omega
     have aQ:Y3 (M (H w8)≠M (H r)/\(Value.slice xa xm xc).ownBlock≠O (M (H w8))):=⟨dV.o,λe=>by have:=(Zb Du.o e).2;omega⟩;have fH:Y3 ((Value.slice pa pm pc).ownBlock≠O (M (H w8))):=λe=>by have:=(Zb ag.o e).2;omega
     have fI:Y3 _:=aW.below A cZ;have fJ:=hd aM;have dW:Y3 _:=kU;obtain⟨gM,gN,gP⟩:=dQ au (Mm (by rw[aA.o];exact Kw)) (Mm (by rw[aC.o];exact Kw));generalize E CL i 0=cgi at*;generalize E PL i 0=pgi at*;have dX:Y3 (∀x,Bw wb x->Cb 64 #[FL #[Z sa (N src) sc,Z (O (aD cb co)) (N wh) bP,Wl group,Z L (N d) kc,Z P (N j) Q,Z W (N bE) X,Z da (N ord) dc,Z ca (N (dD ts src (N src))) cc,I Vo (S:Int),I Vo (C:Int),Z ra (N src) rc,Z xa xm xc,Z pa pm pc],FL #[Z ad (N cs) aj]] x (I Vo ((cgi:Nat):Int))):=λx hx=>by have h:=OB ⟨ca,cc,ra,rc,xa,xm,xc,pa,pm,pc⟩ ts ⟨⟨sa,sc,src⟩,O (aD cb co),bP,wh,group,⟨L,kc,d⟩,⟨P,Q,j⟩,⟨W,X,bE⟩,⟨da,dc,ord⟩⟩ ad aj cs x Me.o (cO.o x (dH.o.trans (QB hx (λb G _=>G)))) (aW.below hx (fI.o)) dW.o;simp only[aF.cells,ae.val,jm]at h;rw[<-HS.o,<-dw.o]at h;rw[dS.o];exact h
     have bn:Y3 (∀w6,Bw wb w6->∃ya ym yc D,(Builtin.append_ #[88,88] 88 #[Z xa xm xc,Z (O (aD (M (H w6)) 0)) 1 1]).run V (w6.alloc (EP #[I Vo ((cgi:Nat):Int)] 86))=.ok (Z ya ym yc) D/\Kept (λb=>b≠M (H r)/\(Value.slice xa xm xc).ownBlock≠O b) wb D/\
       UK D (aD (M (H r)) 11)=O (Z xa xm xc)/\D.frozen? (aD (M (H r)) 11)=false/\Kept (λb=>b≠M (H r)/\(Value.slice xa xm xc).ownBlock≠O b) wb (UC D (aD (M (H r)) 11) (Z ya ym yc))/\∃nx,GB (UC D (aD (M (H r)) 11) (Z ya ym yc)) (M (H r)) 90 #[Z sa (N src) sc,Z (O (aD cb co)) (N wh) bP,Wl group,Z L (N d) kc,Z P (N j) Q,Z W (N bE) X,Z da (N ord) dc,Z ca (N (dD ts src (N src))) cc,I Vo (S:Int),I Vo (C:Int),Z ra (N src) rc,nx,Z pa pm pc]/\(UC D (aD (M (H r)) 11) (Z ya ym yc)).ownsRow (M (H w4)) 86 1 (nx) (N (CL.take (i+1))) ((CL.take (i+1)).map λ(x:Nat)=>I Vo (x:Int))/\(UC D (aD (M (H r)) 11) (Z ya ym yc)).ownsRow (M (H w4)) 37 1 (Z pa pm pc) (N (PL.take i)) ((PL.take i).map λ(x:Nat)=>I Vo (x:Int))/\Kept (λb=>b≠M (H r)) w4 (UC D (aD (M (H r)) 11) (Z ya ym yc))/\UK (UC D (aD (M (H r)) 11) (Z ya ym yc)) (aD (M (H w8)) 0)=O (Z ad (N cs) aj)):=λw6 l=>by have g6:=ak.o.of (l.block _ ak.o.lt);have o6:=XU av.o l;have k6:Kept (λ_=>True) wb w6:=QB l (λb G _=>G);obtain⟨v',D,Ky,aV,wM,⟨ya,ym,yc,rfl⟩,aa⟩:=af1 w6 (M (H w4)) (Z xa xm xc) (CL.take i) o6 (by rw[Xu];have:=aA.o;omega) (Qz dH.o.size l.size) cgi 88;rw[<-gN.o]at aV;obtain⟨g7,gZ,oZ,kZ⟩:=CP Tryz.akZ g6 o6 aV wM aa 11;refine⟨ya,ym,yc,D,Ky,(k6.mono λ_ _ _=>trivial).trans (wM.mono λ_ _ h=>h.2),g7.cell 11,g7.frozen 11,(k6.mono λ_ _ _=>trivial).trans kZ,Z ya ym yc,gZ,oZ,Za (XU ax.o l) kZ (λg hg=>⟨λe=>qX Tryz.Tj (XU ax.o l) g6 (by rw[hg,e]),λe=>CJ Tryz.ak1 o6 (XU ax.o l) e hg⟩),dH.o.trans' ((k6.mono λ_ _ _=>trivial).trans kZ) (λb G h=>⟨h,λe=>by have:=(Zb av.o e).1;omega⟩),Q0 (cB l aP) kZ aQ.o⟩
     obtain⟨bD,bF,bG,bH,bI,bJ,bK,bL,bM,bN,bO,fL,eZ⟩:=ak.o.oh;clear eU A cZ aM kU au aG Du ag aH aK HG ry PE;go_upto_region 16 with fail;clear dA bg;go_cut [66] from 66 to 86 (λiv wx=>iv=I J (i:Int)/\∃nv,GB wx (M (H r)) 90 #[Z sa (N src) sc,Z (O (aD cb co)) (N wh) bP,Wl group,Z L (N d) kc,Z P (N j) Q,Z W (N bE) X,Z da (N ord) dc,Z ca (N (dD ts src (N src))) cc,I Vo (S:Int),I Vo (C:Int),Z ra (N src) rc,nv,Z pa pm pc]/\wx.ownsRow (M (H w4)) 86 1 (nv) (N (CL.take (i+1))) ((CL.take (i+1)).map λ(x:Nat)=>I Vo (x:Int))/\wx.ownsRow (M (H w4)) 37 1 (Z pa pm pc) (N (PL.take i)) ((PL.take i).map λ(x:Nat)=>I Vo (x:Int))/\Kept (λb=>b≠M (H r)) w4 wx/\UK wx (aD (M (H w8)) 0)=O (Z ad (N cs) aj))
     case first=>
      refine Qv (S:=λx=>Kept (λb=>b≠M (H r)/\(Value.slice xa xm xc).ownBlock≠O b) wb x) (by kernel_rfl) (QB ((Qm _ _).drew) (λb G _=>G)) (λy=>?_);refine wt 0 (Y (O (aD (M (H r)) 11))) y ?_;refine wT 3 (FL #[Z ad (N cs) aj]) y (λx hx=>?_) ?_
      .have e0:=Q0 aP hx aQ.o;go_simp
      repeat' first
       |(first|refine kJ 1 2 (λK u=>?_) λK u=>?_|refine kJ 1 4 (λK u=>?_) λK u=>?_|refine kJ 1 5 (λK u=>?_) λK u=>?_|refine kR 1 λK u=>?_|refine kR 2 λK u=>?_|refine kR 4 λK u=>?_|refine kR 5 λK u=>?_|refine kR 6 λK u=>?_|refine kR 7 λK u=>?_|refine kR 8 λK u=>?_) <;> (first|(obtain⟨ya,ym,yc,D,Ky,bQ,f7,z7,bR,dI⟩:=bn.o w6 l;refine XJ (by rfl) _ _ _ (by rfl) (Z xa xm xc) (Z (O (aD (M (H w6)) 0)) 1 1) (Z ya ym yc) D (by rfl) (by rfl) Ky ?_;refine u.o _ _ bQ λy=>?_;clear u K Ky)|(go_simp;(first|refine u.o _ _ y λy=>?_|refine u.o _ _ bR λy=>?_|(have fK:UK (w6.alloc (EP #[I Vo (cgi:Int)] 86)) (aD (M (H r)) 11)=O (Z xa xm xc):=cB (dN _ _) f6;refine u.o _ _ (y.trans (QE _ _)) λy=>?_)|(refine XX (dX.o _ ((Qm _ _).drew)) ?_;rintro e w6 ⟨rfl,l⟩;have l:Bw wb w6:=((Qm _ _).drew).trans l;have f6:=cB l fL;refine u.o _ _ (QB l (λb G _=>G)) λy=>?_));clear u K))
       |refine kD ?_;(try simp only[pU]);go_wp2_with fail;go_meet;exact⟨rfl,dI⟩
     case rest=>
      obtain⟨rfl,nv,h1,h2,h3,h4,h5⟩:=hcut;obtain⟨wd,gQ⟩:∃x,x=wc:=⟨_,rfl⟩;subst gQ;clear bn dX ak av ax bD bF bG bH bI bJ bK bL bM bN bO eZ fL aQ;obtain⟨na,nm,nc,rfl⟩:=Zc h2;have ak:=hd h1;have av:=hd h2;have ax:=hd h3;have aP:=h5;have bq:=hd h4;clear h1 h2 h3 h4 h5;obtain⟨gT,gU⟩:=aJ (aW.below (JN.o wd (wG.o.trans bq.o)) fJ.o) fH.o;obtain⟨xa,ha⟩:∃x,x=pa:=⟨_,rfl⟩;obtain⟨xm,hm⟩:∃x,x=pm:=⟨_,rfl⟩;obtain⟨xc,hc⟩:∃x,x=pc:=⟨_,rfl⟩;subst ha hm hc;have fM:Y3 (∀x,Bw wd x->Cb 65 #[FL #[Z sa (N src) sc,Z (O (aD cb co)) (N wh) bP,Wl group,Z L (N d) kc,Z P (N j) Q,Z W (N bE) X,Z da (N ord) dc,Z ca (N (dD ts src (N src))) cc,I Vo (S:Int),I Vo (C:Int),Z ra (N src) rc,Z na nm nc,Z xa xm xc],FL #[Z ad (N cs) aj]] x (I Vo ((pgi:Nat):Int))):=λx hx=>by have h:=WI ⟨ca,cc,ra,rc,na,nm,nc,xa,xm,xc⟩ ts ⟨⟨sa,sc,src⟩,O (aD cb co),bP,wh,group,⟨L,kc,d⟩,⟨P,Q,j⟩,⟨W,X,bE⟩,⟨da,dc,ord⟩⟩ ad aj cs x Me.o (cO.o x (bq.o.trans (QB hx (λb G _=>G)))) (aW.below hx (gT.o)) gM.o dW.o;simp only[aF.cells,ae.val,jm]at h;rw[<-HS.o,<-dw.o]at h;rw[dU.o];exact h
      have bn:Y3 (∀w6,Bw wd w6->∃ya ym yc D,(Builtin.append_ #[87,87] 87 #[Z xa xm xc,Z (O (aD (M (H w6)) 0)) 1 1]).run V (w6.alloc (EP #[I Vo ((pgi:Nat):Int)] 37))=.ok (Z ya ym yc) D/\Kept (λb=>b≠M (H r)/\(Value.slice xa xm xc).ownBlock≠O b) wd D/\
        UK D (aD (M (H r)) 12)=O (Z xa xm xc)/\D.frozen? (aD (M (H r)) 12)=false/\Kept (λb=>b≠M (H r)/\(Value.slice xa xm xc).ownBlock≠O b) wd (UC D (aD (M (H r)) 12) (Z ya ym yc))/\∃nx,GB (UC D (aD (M (H r)) 12) (Z ya ym yc)) (M (H r)) 90 #[Z sa (N src) sc,Z (O (aD cb co)) (N wh) bP,Wl group,Z L (N d) kc,Z P (N j) Q,Z W (N bE) X,Z da (N ord) dc,Z ca (N (dD ts src (N src))) cc,I Vo (S:Int),I Vo (C:Int),Z ra (N src) rc,Z na nm nc,nx]/\(UC D (aD (M (H r)) 12) (Z ya ym yc)).ownsRow (M (H w4)) 86 1 (Z na nm nc) (N (CL.take (i+1))) ((CL.take (i+1)).map λ(x:Nat)=>I Vo (x:Int))/\(UC D (aD (M (H r)) 12) (Z ya ym yc)).ownsRow (M (H w4)) 37 1 (nx) (N (PL.take (i+1))) ((PL.take (i+1)).map λ(x:Nat)=>I Vo (x:Int))/\Kept (λb=>b≠M (H r)) w4 (UC D (aD (M (H r)) 12) (Z ya ym yc))):=λw6 l=>by have g6:=ak.o.of (l.block _ ak.o.lt);have o6:=XU ax.o l;have k6:Kept (λ_=>True) wd w6:=QB l (λb G _=>G);obtain⟨v',D,Ky,aV,wM,⟨ya,ym,yc,rfl⟩,aa⟩:=Tk w6 (M (H w4)) (Z xa xm xc) (PL.take i) o6 (by rw[Xu];have:=aC.o;omega) (Qz bq.o.size l.size) pgi 87;rw[<-gP.o]at aV;obtain⟨g7,gZ,oZ,kZ⟩:=CP Tryz.Tj g6 o6 aV wM aa 12;refine⟨ya,ym,yc,D,Ky,(k6.mono λ_ _ _=>trivial).trans (wM.mono λ_ _ h=>h.2),g7.cell 12,g7.frozen 12,(k6.mono λ_ _ _=>trivial).trans kZ,Z ya ym yc,gZ,Za (XU av.o l) kZ (λg hg=>⟨λe=>qX Tryz.akZ (XU av.o l) g6 (by rw[hg,e]),λe=>CJ Tryz.ak1 (XU av.o l) o6 hg e⟩),oZ,bq.o.trans' ((k6.mono λ_ _ _=>trivial).trans kZ) (λb G h=>⟨h,λe=>by have:=(Zb ax.o e).1;omega⟩)⟩
      have aQ:Y3 (M (H w8)≠M (H r)/\(Value.slice xa xm xc).ownBlock≠O (M (H w8))):=⟨dV.o,gU.o⟩;obtain⟨bD,bF,bG,bH,bI,bJ,bK,bL,bM,bN,bO,fe,fL⟩:=ak.o.oh;go_upto_region 17 with fail;refine Qv (S:=λx=>Kept (λb=>b≠M (H r)/\(Value.slice xa xm xc).ownBlock≠O b) wd x) (by kernel_rfl) (QB ((Qm _ _).drew) (λb G _=>G)) (λy=>?_);refine wt 0 (Y (O (aD (M (H r)) 12))) y ?_;refine wT 3 (FL #[Z ad (N cs) aj]) y (λx hx=>?_) ?_
      .have e0:=Q0 aP hx aQ.o;go_simp
      repeat' first
       |(first|refine kJ 1 2 (λK u=>?_) λK u=>?_|refine kJ 1 4 (λK u=>?_) λK u=>?_|refine kJ 1 5 (λK u=>?_) λK u=>?_|refine kR 1 λK u=>?_|refine kR 2 λK u=>?_|refine kR 4 λK u=>?_|refine kR 5 λK u=>?_|refine kR 6 λK u=>?_|refine kR 7 λK u=>?_|refine kR 8 λK u=>?_) <;> (first|(obtain⟨ya,ym,yc,D,Ky,bQ,f7,z7,bR,dI⟩:=bn.o w6 l;refine XJ (by rfl) _ _ _ (by rfl) (Z xa xm xc) (Z (O (aD (M (H w6)) 0)) 1 1) (Z ya ym yc) D (by rfl) (by rfl) Ky ?_;refine u.o _ _ bQ λy=>?_;clear u K Ky)|(go_simp;(first|refine u.o _ _ y λy=>?_|refine u.o _ _ bR λy=>?_|(have fK:UK (w6.alloc (EP #[I Vo (pgi:Int)] 37)) (aD (M (H r)) 12)=O (Z xa xm xc):=cB (dN _ _) f6;refine u.o _ _ (y.trans (QE _ _)) λy=>?_)|(refine XX (fM.o _ ((Qm _ _).drew)) ?_;rintro e w6 ⟨rfl,l⟩;have l:Bw wd w6:=((Qm _ _).drew).trans l;have f6:=cB l fL;refine u.o _ _ (QB l (λb G _=>G)) λy=>?_));clear u K))
       |refine kD ?_;(try simp only[pU])
        obtain⟨nx,r1,r2,r3,r4⟩:=dI;have fO:Y3 _:=r1;have fP:Y3 _:=r2;have fQ:Y3 _:=r3;have fT:=Zh r4;clear r1 r2 r3 r4 f7 z7 bR bQ f6 aP y fL bD bF bG bH bI bJ bK bL bM bN bO fe;go_wp2;go_roundw
        case rel=>exact⟨i+1,by omega,by go_num,Z na nm nc,nx,fO.o,fP.o,fQ.o,fT.o⟩
        case measure=>simp[intOf];omega
    .obtain rfl:i=N wh:=by omega
     obtain⟨w5,vT⟩:∃x,x=wr:=⟨_,rfl⟩;subst vT;rw[Xi (by rw[aA.o];exact Qn _)]at Du;rw[Xi (by rw[aC.o];exact Qn _)]at ag;obtain⟨na,nc,rfl,gV⟩:=uB Du.o (by rw[aA.o];omega);obtain⟨pa,pc,rfl,Lv⟩:=uB ag.o (by rw[aC.o];omega);have dY:=aG.o;have bz:GB r (M (H w1)) 90 #[Z xn 0 0,Z xn 0 0,Wl false,Z xn 0 0,Z xn 0 0,Z xn 0 0,Z xn 0 0,Z xn 0 0,I Vo 0,I Vo 0,Z xn 0 0,Z xn 0 0,Z xn 0 0]:=nO.o;have bA:=bz.of (aK.block _ bz.lt);have il:=bz.lt;obtain⟨vs,fo⟩:∃vs:List X3,vs=[Z sa (N src) sc,Z gI (N wh) bP,Wl group,Z L (N d) kc,Z P (N j) Q,Z W (N bE) X,Z da (N ord) dc,Z ca (N (dD ts src (N src))) cc,I Vo (S:Int),I Vo (C:Int),Z ra (N src) rc,Z na (N CL) nc,Z pa (N PL) pc]:=⟨_,rfl⟩;have aR:=kF (B:=M (H w1)) vs 0 w5;have df:=pG (vs:=vs) (o:=0) bA;have ay:∀{e:TypeId} {base sz n:Nat} {v:X3} {xs:List X3},M (H r)<=base->w5.ownsRow base e sz v n xs->(ig (M (H w1)) 0 vs w5).ownsRow base e sz v n xs:=λG h=>Za h aR (λg hg e=>by have:=(Zb h hg).1;omega);have iq:=wG.o.size;have iw:=gp.o;have dh:Bw w (ig (M (H w1)) 0 vs w5):=by have h1:=Sv.o.trans (aK.mono Sv.o.size);exact h1.trans (aR.below h1.size (λb G=>by omega))
     have rY:Y3 (∃f:aF,Ending.returned (FL vs.toArray)=.returned (FL (f.cells ts ⟨⟨sa,sc,src⟩,gI,bP,wh,group,⟨L,kc,d⟩,⟨P,Q,j⟩,⟨W,X,bE⟩,⟨da,dc,ord⟩⟩))/\f.At ts ⟨⟨sa,sc,src⟩,gI,bP,wh,group,⟨L,kc,d⟩,⟨P,Q,j⟩,⟨W,X,bE⟩,⟨da,dc,ord⟩⟩ (ig (M (H w1)) 0 vs w5)/\f.New (M (H w))/\Bw w (ig (M (H w1)) 0 vs w5)):=by
      refine⟨⟨ca,cc,ra,rc,na,N CL,nc,pa,N PL,pc⟩,?_,⟨?_,?_,?_,?_,?_,?_,?_⟩,⟨?_,?_,?_,?_⟩,dh⟩
      .rw[fo];simp only[aF.cells,ae.val,jm];rw[<-HS.o,<-dw.o]
      .exact gm.o.below dh
      .have di:Kept (λb=>b≠M (H r)/\b≠M (H w1)) w4 (ig (M (H w1)) 0 vs w5):=(aH.o.mono λ_ _ h=>h.1).trans (aR.mono λ_ _ h=>h.2);obtain⟨a,c,e,h⟩:=GY (Za ry.o di (λg hg=>⟨λe=>qX Tryz.aaD ry.o HG.o (by rw[hg,e]),by have:=(Zb ry.o hg).1;omega⟩)) (by have:=Al.o;omega)
       cases e;exact h
      .have di:Kept (λb=>b≠M (H r)/\b≠M (H w1)) w4 (ig (M (H w1)) 0 vs w5):=(aH.o.mono λ_ _ h=>h.1).trans (aR.mono λ_ _ h=>h.2);obtain⟨a,c,e,h⟩:=uB (Za PE.o di (λg hg=>⟨λe=>qX Tryz.Tj PE.o HG.o (by rw[hg,e]),by have:=(Zb PE.o hg).1;omega⟩)) (by rw[sD];omega);rw[sD]at e
       cases e;exact h
      .obtain⟨a,c,e,h⟩:=uB (ay (by omega) Du.o) (by rw[aA.o];omega)
       cases e;rw[<-eP.o];exact h
      .obtain⟨a,c,e,h⟩:=uB (ay (by omega) ag.o) (by rw[aC.o];omega)
       cases e;rw[<-eQ.o];exact h
      .exact aA.o
      .exact aC.o
      .rintro a rfl;have:=(Zb ry.o (g:=a.block) rfl).1;omega
      .rintro a rfl;have:=(Zb PE.o (g:=a.block) rfl).1;omega
      .rintro a rfl;have:=(Zb Du.o (g:=a.block) rfl).1;omega
      .rintro a rfl;have:=(Zb ag.o (g:=a.block) rfl).1;omega
     subst fo;simp only[uk,Qu,Qb,Qc]at df;have JR:=Zh (Mo df);have z:=λi=>bA.frozen i;obtain⟨bD,bF,bG,bH,bI,bJ,bK,bL,bM,bN,bO,fe,eZ⟩:=dY.oh;obtain⟨iC,iD,iF,iG,iH,iI,iJ,iM,iN,iO,iP,iQ,iR⟩:=bA.oh;clear dY bA bz df aR ay dh aG Du ag aH HG ry PE gV Lv cO;go_wp2;exact Zw (kL (p:=4) rfl rfl JR.o) rfl rY.o
