import Derived.Test.YtkfenjgalicikaaGreatDoorS07
import Derived.Test.YtkfenjgalicikaaGreatDoorS09
set_option linter.all false
set_option maxRecDepth 100000
set_option maxHeartbeats 0
namespace Go.Proofs.Zz
open Go.RowKit Go.Shelf Go.Proofs.Tryz
open List renaming length->N,getD->E
open Go.Value renaming slice->Z,int->I,pointer->Y,bool->Qq,agg->Qt
open Go.Proofs.Tryz renaming prog->V
open Option renaming some->O,none->Qr
open Go.IntKind renaming i64->J,u64->Qp
open Bool renaming false->F
open Go renaming World->U,Value->Ql
open Go.World renaming heap->H,setCell->Qn,cell?->Qo
open _root_.Array renaming size->M
open Go.RowKit renaming Hid->Qm
open Go.Obj renaming cells->Qs
open Go.Ending renaming returned->Qu
variable {W w:U} {Fq:Pm}
def Vw{q:ae}{ts:JK af}(h:gV ts=F):(1:Int)=q.check ts:=ae.Rt h
def Oi{q:ae}{ts:JK af}(hc:gV ts=true)(hf:mD q.au.xs q.qU q.aC.xs q.aM.xs q.bA.xs q.ord.xs=F) :
  q.check ts=if Ij ts q.au.xs q.qU q.aF q.aC.xs q.aM.xs q.bA.xs q.ord.xs then 0 else 3:=aa6 hc hf
def checkQ_any(ao:LM)(cap:Nat)(ts:JK af)(q:ae)(w:U)(hx:aZ w ao ts)(hq:q.At w)(FJ:N q.aC.xs<=q.aC.cap)(Ao:N q.ord.xs<=q.ord.cap) :
  Cb 47 #[Z ao (N ts) cap,Qt q.cells] w (I J (q.check ts)):=by
 have k:=λx (h:Bw w x)=>Na ao cap ts x (hx.aj h);have g:=λx (h:Bw w x)=>aej q x (hq.wh.aj h);have l:=λ(u:gV ts=true) (v:mD q.au.xs q.qU q.aC.xs q.aM.xs q.bA.xs q.ord.xs=F) x (h:Bw w x)=>aa7 ao cap ts q x (hx.aj h) (hq.aj h) u v FJ Ao;have n:=@Vw q ts;have p:=@ae.DR q ts;have r:=@Oi q ts;generalize q.check ts=R,mD q.au.xs q.qU q.aC.xs q.aM.xs q.bA.xs q.ord.xs=FB,Ij ts q.au.xs q.qU q.aF q.aC.xs q.aM.xs q.bA.xs q.ord.xs=QB,gV ts=CB at*;obtain⟨z,A,B,C,aF,D,G,K,ord⟩:=q;unfold ae.cells aA.val at*;simp only at*;cases CB
 .have f:=Zh (n rfl);go_enter func47,ntmps47;go_wp2_with fail;refine mR (k _ (fo _ _)) λj a=>?_
  go_wp2;go_ret;exact⟨Q0 f.o,aO (fo _ _) a⟩
 .cases FB
  .obtain⟨m,f⟩:=bH (l rfl rfl) (r rfl rfl);go_enter func47,ntmps47;go_wp2_with fail;refine mR (k _ (fo _ _)) λj a=>?_
   have hz:M (H w)<M (H j):=by have:=a.size;simp at this;omega
   have b:=zR a;simp at b;have k2:=aO (fo _ _) a;go_wp2_with fail;refine mR (g _ k2) λy d=>?_;have t:=zR d;have k3:=aO k2 d;go_wp2_with fail;refine mR (m.o _ k3) λL i=>?_;cases QB
   .have e:Qm ((3:Int)=R):=f.o.symm;go_wp2;go_ret;exact⟨Q0 e.o,aO k3 i⟩
   .have e:Qm ((0:Int)=R):=f.o.symm;go_wp2;go_ret;exact⟨Q0 e.o,aO k3 i⟩
  .have f:=Zh (p rfl rfl);go_enter func47,ntmps47;go_wp2_with fail;refine mR (k _ (fo _ _)) λj a=>?_
   have hz:M (H w)<M (H j):=by have:=a.size;simp at this;omega
   have b:=zR a;simp at b;have k2:=aO (fo _ _) a;go_wp2_with fail;refine mR (g _ k2) λy d=>?_;go_wp2;go_ret;exact⟨Q0 f.o,aO k2 d⟩
def Tryz.ap9:(V.info? 168).map (λi=>(i.zero,i.size,i.bytes))=O (O (Qt #[I J 0,I Qp 0]),2,16):=Qd
def Tryz.aqa:(V.info? 45).map (λi=>(i.zero,i.size,i.bytes))=O (O (I Qp 0),1,8):=Qd
def Tryz.aqb:(V.info? 114).map (λi=>(i.zero,i.size,i.bytes))=O (O (I Qp 0),1,8):=Qd
def Tryz.afO:168≠118:=Qc
def Tryz.aa0:45≠118:=Qc
def Tryz.ar5:114≠118:=Qc
def Tryz.ar6:168≠45:=Qc
def Tryz.ar7:114≠45:=Qc
def Tryz.azo:168≠54:=Qc
def aa1(W:U)(base:Nat)(v:Ql)(xs:JK Nat)(bG:W.ownsRow base 45 1 v (N xs) (xs.map λ(x:Nat)=>I Qp (x:Int)))(hl:N xs<=1000)(hb:base<=M (H W))(x:Nat)(ty:TypeId) :
  ∃d e,(Builtin.append_ #[115,115] ty #[v,Z (O (aD (M (H W)) 0)) 1 1]).run V (W.alloc (Qs #[I Qp (x:Int)] 45))=.ok d e/\
   e.ownsRow base 45 1 d (N (xs++[x])) ((xs++[x]).map λ(x:Nat)=>.int Qp (x:Int))/\aB (λb=>v.ownBlock≠O b) W e/\(∃a m c,d = .slice a m c)/\(d.ownBlock=v.ownBlock∨d.ownBlock=O (M (H W)+1)):=by obtain⟨i0,k,f,g,i⟩:=XB Tryz.aqa;obtain⟨d,e,l,n,p,q,r⟩:=lg (P:=V) W base 115 ty 45 i0 (.int Qp 0) 1 8 underlying115 k f g i rfl Qc v (N xs) _ bG hb [.int Qp (x:Int)] rfl (λu j=>by rw[XH]at j;rw[j];rfl) hl Qc;exact⟨d,e,l,by rw[Zt,Q7];exact n,p,q,r⟩
def amt(W:U)(base:Nat)(v:Ql)(xs:JK Nat)(bG:W.ownsRow base 114 1 v (N xs) (xs.map λ(x:Nat)=>I Qp (x:Int)))(hl:N xs<=1000)(hb:base<=M (H W))(x:Nat)(ty:TypeId) :
  ∃d e,(Builtin.append_ #[116,116] ty #[v,Z (O (aD (M (H W)) 0)) 1 1]).run V (W.alloc (Qs #[I Qp (x:Int)] 114))=.ok d e/\
   e.ownsRow base 114 1 d (N (xs++[x])) ((xs++[x]).map λ(x:Nat)=>.int Qp (x:Int))/\aB (λb=>v.ownBlock≠O b) W e/\(∃a m c,d = .slice a m c)/\(d.ownBlock=v.ownBlock∨d.ownBlock=O (M (H W)+1)):=by obtain⟨i0,k,f,g,i⟩:=XB Tryz.aqb;obtain⟨d,e,l,n,p,q,r⟩:=lg (P:=V) W base 116 ty 114 i0 (.int Qp 0) 1 8 underlying116 k f g i rfl Qc v (N xs) _ bG hb [.int Qp (x:Int)] rfl (λu j=>by rw[XH]at j;rw[j];rfl) hl Qc;exact⟨d,e,l,by rw[Zt,Q7];exact n,p,q,r⟩
def amu(W:U)(base:Nat)(v:Ql)(n:Nat)(xs:JK Ql)(bG:W.ownsRow base 168 2 v n xs)(hl:n<=1000)(hb:base<=M (H W))(s:Nat)(k:Int)(ty:TypeId) :
  ∃d i,(Builtin.append_ #[112,112] ty #[v,Z (O (aD (M (H W)) 0)) 1 1]).run V (W.alloc (Qs #[I J (s:Int),I Qp k] 168))=.ok d i/\
   i.ownsRow base 168 2 d (n+1) (xs++mV (s,k))/\aB (λb=>v.ownBlock≠O b) W i/\(∃a m c,d = .slice a m c)/\(d.ownBlock=v.ownBlock∨d.ownBlock=O (M (H W)+1)):=by obtain⟨i0,l,e,f,g⟩:=XB Tryz.ap9;exact lg (P:=V) W base 112 ty 168 i0 (Qt #[.int J 0,.int Qp 0]) 2 16 underlying112 l e f g rfl Qc v n _ bG hb [.int J (s:Int),.int Qp k] rfl (λu j=>by simp at j;rcases j with rfl|rfl <;> rfl) hl Qc
def azp{b:Nat}{ty:TypeId}{a0 a1:Ql}{t:af}(h:GB W b ty #[a0,a1,I J t.k0,I J t.k1,I J t.k2,I J t.k3]){m:Nat}(hm:m<4):Qo W (aD b (2+m))=O (I J (t.kd m)):=by
 rcases (by omega:m=0∨m=1∨m=2∨m=3) with rfl|rfl|rfl|rfl
 .exact h.cell 2
 .exact h.cell 3
 .exact h.cell 4
 .exact h.cell 5
def Tz{l:JK Nat}{i:Nat}(hi:i<N l):l.take (i+1)=l.take i++[E l i 0]:=by
 have e:E l i 0=l[i]:=by simp[List.getD,hi]
 rw[Q5 hi,e]
def aiB{B:Nat}{v0 v1 v2 v3 v4 v5 v6 v7 v8 v9 fO fP fQ:Ql}(h:GB W B 118 #[v0,v1,v2,v3,v4,v5,v6,v7,v8,v9,fO,fP,fQ]):(loadVar 118 (aD B 0)).run V W=.ok (Qt #[v0,v1,v2,v3,v4,v5,v6,v7,v8,v9,fO,fP,fQ]) W:=by obtain⟨c0,d,c2,c3,c4,c5,e,f,g,c9,i,a,b⟩:=h.vV;simp[go_sem,c0,d,c2,c3,c4,c5,e,f,g,c9,i,a,b]
theorem aa3(ao:LM)(cap:Nat)(ts:JK af)(q:ae)(w:U)(hx:aZ w ao ts)(hq:q.At w)(ok:Ok ts q) :
  Calls V 51 #[Z ao (N ts) cap,Qt q.cells] w λe w'=>∃f:bC,e=Qu (Qt (f.cells ts q))/\f.At ts q w'/\f.New (M (H w))/\Bw w w':=by
 obtain⟨w1,dB,dP,ek⟩:=bI w q.cells 35;obtain⟨l,gp,jf,eu⟩:=bI w1 #[Z Qr 0 0,Z Qr 0 0,Qq F,Z Qr 0 0,Z Qr 0 0,Z Qr 0 0,Z Qr 0 0,Z Qr 0 0,I Qp 0,I Qp 0,Z Qr 0 0,Z Qr 0 0,Z Qr 0 0] 118;have aY:=jf;have oq:=aO dP aY;have Ho:=ek.up aY;obtain⟨Dg,MW,Ym,Py,Pv,Yn,Yo⟩:=Ho.k7;have UB:=eu;have zT:=ok.ig;have fq:=ok.qU;obtain⟨S,u⟩:∃S,S=2 ^ (N q.au.xs)-1:=⟨_,rfl⟩;obtain⟨C,hC⟩:∃C,C=2 ^ (N q.wh)-1:=⟨_,rfl⟩;obtain⟨HS,dD⟩:=bH u hC;have dN:Qm (∀x,Ce 93 #[I J (N q.au.xs:Int)] x (I Qp (S:Int))):=λx=>by rw[u];exact Dz (N q.au.xs) zT x
 have dO:Qm (∀x,Ce 93 #[I J (N q.wh:Int)] x (I Qp (C:Int))):=λx=>by rw[hC];exact Dz (N q.wh) fq x
 clear u hC;have HX:Qm _:=hx.aj oq;obtain⟨HQ,gq,gu,Ae,eB,V9⟩:=asK (hq.aj oq) hq dP.size ok oq aY;have il:=hq.au.1;have iq:=hq.wh.1;clear hx hq ok oq aY dP jf ek eu Ho;have fu:Qm _:=UB;clear UB;obtain⟨⟨sa,G,d⟩,iF,L,y,aF,⟨Q,W,aC⟩,⟨ua,uc,aM⟩,⟨ea,ec,bA⟩,⟨da,dc,ord⟩⟩:=q;unfold ae.cells aA.val at*;simp only at*;go_enter func51,ntmps51;go_upto_region 1 with fail;go_cut [5] from 13 to 22 (λc wx=>c=Y (O (aD (M (H l)) 0))/\GB wx (M (H l)) 118 #[Z sa (N d) G,Z iF (N y) L,Qq aF,Z Q (N aC) W,Z ua (N aM) uc,Z ea (N bA) ec,Z da (N ord) dc,Z Qr 0 0,I Qp (S:Int),I Qp (C:Int),Z Qr 0 0,Z Qr 0 0,Z Qr 0 0]/\Bw l wx)
 case first=>
  refine wH l λu=>?_;refine wT 0 (Qt #[Z sa (N d) G,Z iF (N y) L,Qq aF,Z Q (N aC) W,Z ua (N aM) uc,Z ea (N bA) ec,Z da (N ord) dc]) u (λx hx=>?_) ?_
  .have e0:=aou hx Dg MW Ym Py Pv Yn Yo;go_simp
  refine wt 1 (Y (O (aD (M (H w)) 0))) u ?_;refine wtc 2 (Z sa (N d) G) u Dg ?_;refine wt 3 (I J (N d:Int)) u ?_;refine wt 5 (Y (O (aD (M (H w)) 1))) u ?_;refine wtc 6 (Z iF (N y) L) u MW ?_;refine wt 7 (I J (N y:Int)) u ?_
  repeat' first
   |(first|refine kJ 4 10 (λK r=>?_) λK r=>?_|refine kJ 8 10 (λK r=>?_) λK r=>?_|refine kR 4 λK r=>?_|refine kR 8 λK r=>?_|refine kR 10 λK r=>?_|refine kR 11 λK r=>?_) <;> (first|(go_simp;(first|refine oA r u λu=>?_|refine r.o _ _ ((fo _ _).drew) λu=>?_|((first|refine Jg (dN.o _) ?_|refine Jg (dO.o _) ?_);rintro e wz ⟨rfl,rfl⟩;refine r.o _ _ u λu=>?_));clear r K))
   |refine kG 9 ?_;refine wt 9 (Qt #[Z sa (N d) G,Z iF (N y) L,Qq aF,Z Q (N aC) W,Z ua (N aM) uc,Z ea (N bA) ec,Z da (N ord) dc,Z Qr 0 0,I Qp (S:Int),I Qp (C:Int),Z Qr 0 0,Z Qr 0 0,Z Qr 0 0]) u ?_
   |refine kD ?_;(try simp only[pU]);go_wp2_with fail;go_meet;exact⟨rfl,qj l _,u⟩
 case rest=>
 obtain⟨rfl,dE,bF⟩:=hcut;obtain⟨w3,gy⟩:=eY (wc);subst gy;have bY:Qm (∀x,aB (λb=>b≠M (H l)) w3 x->Bw l x):=λx hk=>bF.trans (hk.aj bF.size (λb hb=>Jo hb));have fw:Qm _:=dE;have ik:=dE.lt;have n0:=cB bF Dg;clear dE bF dB gp dN dO;go_wp2;go_loopw [26] (λiv wr=>∃k:Nat,k<=N d/\iv=I J k/\∃cv rv,Qm (GB wr (M (H l)) 118 #[Z sa (N d) G,Z iF (N y) L,Qq aF,Z Q (N aC) W,Z ua (N aM) uc,Z ea (N bA) ec,Z da (N ord) dc,cv,I Qp (S:Int),I Qp (C:Int),rv,Z Qr 0 0,Z Qr 0 0])/\Qm (wr.ownsRow (M (H w3)) 168 2 cv (N (fV ts d k)) ((fV ts d k).flatMap mV))/\Qm (wr.ownsRow (M (H w3)) 45 1 rv (N (uy ts d k)) ((uy ts d k).map λ(x:Nat)=>I Qp (x:Int)))/\Qm (aB (λb=>b≠M (H l)) w3 wr)) (λiv _=>N d-(intOf iv).toNat)
 case atStart=>exact⟨0,ZR _,rfl,Z Qr 0 0,Z Qr 0 0,fw.o,XC _ _ _ _,XC _ _ _ _,Xj _ _⟩
 case round=>
  obtain⟨k,hk,rfl,cv,rv,HG,vY,P,Ke⟩:=hrel;have aK:=bY.o wr Ke.o;have q0:=cB aK Dg;by_cases aT:k<N d
  .obtain⟨sb,so,rfl,EW⟩:=Q4 (Zc aK HQ.o.au) aT;have fA:=EW k aT;obtain⟨VX,sK⟩:=A9 Ae.o.au aT;obtain⟨n,hn⟩:=XX VX;have iw:Qo wr (aD sb (so+k))=O (I J (n:Int)):=Qb
   have dQ:n<N ts:=by have h:E d k 0<(N ts:Int):=sK;rw[hn]at h;omega
   obtain⟨tb,iC,rfl,c0,c1,c2,c3,c4,c5⟩:=(aZ.aj aK HX.o).2 n dQ;have cu:=A7 Ae.o.qP dQ;have cz:Qm (uy ts d (k+1)=uy ts d k++[(E ts n tz).rows.toNat]):=by show _=_;rw[Yr];unfold jZ;rw[XY,show (E d k 0).toNat=n by rw[hn];rfl]
   have cK:=Zh (by rw[qB,show (E d k 0).toNat=n by rw[hn];rfl]:fV ts d (k+1)=fV ts d k++(List.range (E ts n tz).bU.toNat).map λm=>(k,(E ts n tz).kd m))
   have dR:Qm (∀m,(fV ts d k++((List.range (m+1)).map λm=>(k,(E ts n tz).kd m))).flatMap mV=(fV ts d k++((List.range m).map λm=>(k,(E ts n tz).kd m))).flatMap mV++mV (k,(E ts n tz).kd m)):=λm=>by have:=ahl ts d k m;rw[show (E d k 0).toNat=n by rw[hn];rfl]at this;exact this
   have Ad:Qm (N (fV ts d k)<=4*k):=Hr Ae.o.qP Ae.o.au zT k X;have fB:=Zh (vE ts d k);unfold fI at cu;rw[Zi]at cu;obtain⟨gz,gB,eD,gD,eF⟩:=cu;have uO:=Zh eF;clear EW fA VX sK hn eF;generalize fV ts d k=CK,E ts n tz=t at*;obtain⟨R,hR⟩:=XX eD;obtain⟨cn,nU⟩:=XX (show 0<=t.bU by omega);rw[hR]at c1 gD;rw[nU]at c0 gz gB;rw[hR,XY]at cz;rw[nU,XY]at cK uO;obtain⟨wb,dF,A,dG⟩:=bI wr #[I J (cn:Int),I J (R:Int),I J t.k0,I J t.k1,I J t.k2,I J t.k3] 54;have b1:=dG.at 1;clear hR nU eD;obtain⟨ra,rm,rc,rfl⟩:=Xz P.o;have bf:=HG.o.up A;have fC:=bf.at 10;have bg:=Ja P.o A;have dS:=ZU Ke.o.size A.size;obtain⟨v',w5,sF,mW,kC,⟨va,vm,vc,rfl⟩,jl⟩:=aa1 wb (M (H w3)) (Z ra rm rc) (uy ts d k) bg (by rw[fB.o];omega) dS R 115;rw[<-cz.o]at mW;obtain⟨g5,gY,oY,kY⟩:=FU Tryz.aa0 bf bg mW kC jl 10;have f5:=g5.at 10;have z5:=g5.frozen 10;obtain⟨Yq,hY⟩:=eX (Qn w5 (aD (M (H l)) 10) (Z va vm vc));rw[hY]at gY oY kY;have dU:GB Yq (M (H l)) 118 #[Z (O (aD sb so)) (N d) G,Z iF (N y) L,Qq aF,Z Q (N aC) W,Z ua (N aM) uc,Z ea (N bA) ec,Z da (N ord) dc,cv,I Qp (S:Int),I Qp (C:Int),Z va vm vc,Z Qr 0 0,Z Qr 0 0]:=gY;have cO:M (H wr)≠M (H l):=Qj HG.o.lt;have df:∀b,(Value.slice ra rm rc).ownBlock=O b->M (H w3)<=b/\b<M (H wr):=λb h=>Xy P.o h;have dh:=dG.bT kY ⟨cO,λe=>Qj ((df _ e).2)⟩;obtain⟨dH,dI⟩:=bH ((Ke.o.trans (Xl A)).dL kY (λb hb h=>⟨h,λe=>Qj ((df _ e).1)⟩)) (Xw (Ja vY.o A) kY (λg hg=>⟨λe=>rA Tryz.afO (Ja vY.o A) bf (by rw[hg,e]),FR Tryz.ar6 (Ja vY.o A) bg hg⟩));have y0:=dh.at 0;have di:=hd dh;have dm:Qm _:=dU;have dn:Qm _:=oY;have fD:Qm _:=cO;clear gY dU oY kY dh df mW kC jl bg bf g5 dG P vY HG cz dS Ke cO;go_wp2_with (first|(at_builtin;refine XJ rfl (.tmp 36) (.tmp 40) 115 rfl (Z ra rm rc) (Z (O (aD (M (H wb)) 0)) 1 1) (Z va vm vc) w5 rfl rfl sF ?_));clear sF;go_wp2;clear hY dF f5 z5 fC b1 A;obtain⟨w9,gF⟩:=eY (wr)
   subst gF;go_loopw [48] (λjv wx=>∃m:Nat,m<=cn/\jv=I J m/\∃cx,Qm (GB wx (M (H l)) 118 #[Z (O (aD sb so)) (N d) G,Z iF (N y) L,Qq aF,Z Q (N aC) W,Z ua (N aM) uc,Z ea (N bA) ec,Z da (N ord) dc,cx,I Qp (S:Int),I Qp (C:Int),Z va vm vc,Z Qr 0 0,Z Qr 0 0])/\Qm (wx.ownsRow (M (H w3)) 168 2 cx (N CK+m) ((CK++((List.range m).map λm=>(k,t.kd m))).flatMap mV))/\Qm (wx.ownsRow (M (H w3)) 45 1 (Z va vm vc) (N (uy ts d (k+1))) ((uy ts d (k+1)).map λ(x:Nat)=>I Qp (x:Int)))/\Qm (aB (λb=>b≠M (H l)) w3 wx)/\Qm (GB wx (M (H w9)) 54 #[I J (cn:Int),I J (R:Int),I J t.k0,I J t.k1,I J t.k2,I J t.k3])) (λjv _=>cn-(intOf jv).toNat)
   case atStart=>exact⟨0,ZR _,rfl,cv,dm.o,by show Qm _;rw[List.range_zero,List.map_nil,Zy];exact dI.o,dn.o,dH.o,di.o⟩
   case round=>
    obtain⟨m,hm,rfl,cx,aU,ai,aV,We,bG⟩:=hrel;by_cases ic:m<cn
    .obtain⟨gG,eG⟩:=uO.o m ic;have fE:=azp bG.o (m:=m) X;obtain⟨kn,eH⟩:=XX (show 0<=t.kd m by omega);have Nt:=Zh (dR.o m);rw[eH]at fE eG Nt;clear gG eH;obtain⟨ca,cm,cc,rfl⟩:=Xz ai.o;have f7:=aU.o.at 7;have fF:=We.o.size;obtain⟨v',w5,sF,mW,kC,⟨na,nm,nc,rfl⟩,jl⟩:=amu wr (M (H w3)) (Z ca cm cc) (N CK+m) _ ai.o (Qj Ad.o) fF k (kn:Int) 112;rw[<-Nt.o]at mW;obtain⟨g5,gZ,oZ,kZ⟩:=FU Tryz.afO aU.o ai.o mW kC jl 7;have f5:=g5.at 7;have z5:=g5.frozen 7;obtain⟨Zq,hZ⟩:=eX (Qn w5 (aD (M (H l)) 7) (Z na nm nc))
     rw[hZ]at gZ oZ kZ;have fG:=hd gZ;have fH:Qm _:=oZ;have Aw:=λb h=>Xy ai.o (g:=b) h;obtain⟨gH,gI,gK⟩:=lX (bG.o.bT kZ ⟨fD.o,rA Tryz.azo ai.o bG.o⟩) (Xw aV.o kZ (λg hg=>⟨λe=>rA Tryz.aa0 aV.o aU.o (by rw[hg,e]),λe=>FR Tryz.ar6 ai.o aV.o e hg⟩)) (We.o.dL kZ (λb hb h=>⟨h,λe=>Qj ((Aw _ e).1)⟩));clear gZ oZ kZ kC jl g5 mW Aw Nt aU ai aV We bG dm dI dn dH di cK;go_wp2_with (first|(at_builtin;refine XJ rfl (.tmp 53) (.tmp 58) 112 rfl (Z ca cm cc) (Z (O (aD (M (H wr)) 0)) 1 1) (Z na nm nc) w5 rfl rfl sF ?_));clear sF;refine gQ ?_;exact⟨m+1,X,Qe,Z na nm nc,fG.o,fH.o,gI.o,gK.o,gH.o⟩
    .obtain rfl:m=cn:=X
     clear dm dI dn dH di dR;go_wp2;go_roundw
     case rel=>
      refine⟨k+1,X,Qe,cx,Z va vm vc,aU.o,?_,aV.o,We.o⟩;have h:=ai.o;have e:=Zh cK.o;show Qm _;rw[e.o,Zt,ZX,ZY];exact h
     case measure=>exact XK
  .obtain rfl:k=N d:=X
   obtain⟨w4,gL⟩:=eY (wr);subst gL;have Ad:Qm (N (fV ts d (N d))<=4*N d):=Hr Ae.o.qP Ae.o.au zT (N d) (Zb _);obtain⟨ca,cc,rfl,-⟩:=MF vY.o (Qj Ad.o);obtain⟨ra,rc,rfl,-⟩:=xL P.o (by rw[vE];omega);rw[vE]at HG P;obtain⟨CL,dJ⟩:=eY (bE ts ⟨⟨sa,G,d⟩,iF,L,y,aF,⟨Q,W,aC⟩,⟨ua,uc,aM⟩,⟨ea,ec,bA⟩,⟨da,dc,ord⟩⟩);obtain⟨PL,Gf⟩:=eY (Dt ts ⟨⟨sa,G,d⟩,iF,L,y,aF,⟨Q,W,aC⟩,⟨ua,uc,aM⟩,⟨ea,ec,bA⟩,⟨da,dc,ord⟩⟩);obtain⟨eO,eP⟩:=bH dJ Gf;have aG:Qm (N CL=N y):=by rw[dJ];exact XN ts ⟨⟨sa,G,d⟩,iF,L,y,aF,⟨Q,W,aC⟩,⟨ua,uc,aM⟩,⟨ea,ec,bA⟩,⟨da,dc,ord⟩⟩
   have aH:Qm (N PL=N y):=by rw[Gf];exact RP ts ⟨⟨sa,G,d⟩,iF,L,y,aF,⟨Q,W,aC⟩,⟨ua,uc,aM⟩,⟨ea,ec,bA⟩,⟨da,dc,ord⟩⟩
   clear dJ Gf;have dw:Qm (∀x,aB (λb=>b≠M (H l)) w4 x->oQ x ca (fV ts d (N d))):=λx hk=>by obtain⟨a,c,e,h⟩:=MF (Xw vY.o hk (λg hg e=>rA Tryz.afO vY.o HG.o (by rw[hg,e]))) (Qj Ad.o);cases e;exact h
   have n1:=cB aK MW;clear aK q0 hk aT;go_wp2;go_loopw [66] (λiv wr=>∃i:Nat,i<=N y/\iv=I J i/\∃nv pv,Qm (GB wr (M (H l)) 118 #[Z sa (N d) G,Z iF (N y) L,Qq aF,Z Q (N aC) W,Z ua (N aM) uc,Z ea (N bA) ec,Z da (N ord) dc,Z ca (N (fV ts d (N d))) cc,I Qp (S:Int),I Qp (C:Int),Z ra (N d) rc,nv,pv])/\Qm (wr.ownsRow (M (H w4)) 114 1 (nv) (N (CL.take i)) ((CL.take i).map λ(x:Nat)=>I Qp (x:Int)))/\Qm (wr.ownsRow (M (H w4)) 45 1 (pv) (N (PL.take i)) ((PL.take i).map λ(x:Nat)=>I Qp (x:Int)))/\Qm (aB (λb=>b≠M (H l)) w4 wr)) (λiv _=>N y-(intOf iv).toNat)
   case atStart=>exact⟨0,ZR _,rfl,Z Qr 0 0,Z Qr 0 0,HG.o,XC _ _ _ _,XC _ _ _ _,Xj _ _⟩
   case round=>
    obtain⟨i,hi,rfl,nv,pv,aW,zI,YR,aJ⟩:=hrel;have aL:=bY.o wr (Ke.o.trans aJ.o);by_cases Rb:i<N y
    .obtain⟨cb,co,Pq,eQ⟩:=Q3 (HQ.o.aj aL).wh.2.1 Rb;have bq:Qo wr (aD cb (co+i))=O ((E y i lz).val):=eQ i Rb;obtain⟨aa,ak⟩:=eY (E y i lz)
     have lH:bZ wr aa.ad aa.cs:=by rw[ak];exact(HQ.o.aj aL).wh.2.2 i Rb
     have aN:bZ l aa.ad aa.cs:=by rw[ak];exact HQ.o.wh.2.2 i Rb
     have mE:lT ts ⟨⟨sa,G,d⟩,iF,L,y,aF,⟨Q,W,aC⟩,⟨ua,uc,aM⟩,⟨ea,ec,bA⟩,⟨da,dc,ord⟩⟩ (bD aa.cs):=by rw[ak];exact Ae.o.bU i Rb
     have av:0<N aa.cs:=by rw[ak];exact Ae.o.some i Rb
     have dV:=Zh (by  rw[eO.o,ak];exact RU ts ⟨⟨sa,G,d⟩,iF,L,y,aF,⟨Q,W,aC⟩,⟨ua,uc,aM⟩,⟨ea,ec,bA⟩,⟨da,dc,ord⟩⟩ Rb:E CL i 0=bn (iO ts d aa.cs))
     have dW:=Zh (by  rw[eP.o,ak];exact He ts ⟨⟨sa,G,d⟩,iF,L,y,aF,⟨Q,W,aC⟩,⟨ua,uc,aM⟩,⟨ea,ec,bA⟩,⟨da,dc,ord⟩⟩ Rb:E PL i 0=fJ ts d aa.cs)
     rw[<-ak]at bq;clear ak eQ;subst Pq;obtain⟨ad,ag,cs⟩:=aa;unfold aQ.val at bq;simp only at bq lH aN mE av dV dW;obtain⟨w8,gM⟩:=eY (wr);subst gM;obtain⟨xa,xm,xc,rfl⟩:=Xz zI.o;obtain⟨pa,pm,pc,rfl⟩:=Xz YR.o;obtain⟨wb,dF,A,eT⟩:=bI w8 #[Z ad (N cs) ag] 59;have aP:=eT.at 0;obtain⟨aI,ax,ay,dK⟩:=De (aW.o.up A) (Ja zI.o A) (Ja YR.o A) (aJ.o.trans (Xl A));have dX:Qm (M (H w8)≠M (H l)):=λe=>Qj aW.o.lt;have aR:Qm (M (H w8)≠M (H l)/\(Value.slice xa xm xc).ownBlock≠O (M (H w8))):=⟨dX.o,λe=>Qj ((Xy zI.o e).2)⟩;have fK:Qm ((Value.slice pa pm pc).ownBlock≠O (M (H w8))):=λe=>Qj ((Xy YR.o e).2);have fM:Qm _:=bZ.aj A lH;have fO:=hd aN;have dY:Qm _:=mE;obtain⟨gN,gP,gT⟩:=lX av (Tz (by rw[aG.o];exact Rb)) (Tz (by rw[aH.o];exact Rb));generalize E CL i 0=cgi,E PL i 0=pgi at*;have dZ:Qm (∀x,Bw wb x->Cb 94 #[Qt #[Z sa (N d) G,Z (O (aD cb co)) (N y) L,Qq aF,Z Q (N aC) W,Z ua (N aM) uc,Z ea (N bA) ec,Z da (N ord) dc,Z ca (N (fV ts d (N d))) cc,I Qp (S:Int),I Qp (C:Int),Z ra (N d) rc,Z xa xm xc,Z pa pm pc],Qt #[Z ad (N cs) ag]] x (I Qp ((cgi:Nat):Int))):=λx hx=>by have h:=UG ⟨ca,cc,ra,rc,xa,xm,xc,pa,pm,pc⟩ ts ⟨⟨sa,G,d⟩,O (aD cb co),L,y,aF,⟨Q,W,aC⟩,⟨ua,uc,aM⟩,⟨ea,ec,bA⟩,⟨da,dc,ord⟩⟩ ad ag cs x Ae.o (dw.o x (dK.o.trans (Xl hx))) (bZ.aj hx (fM.o)) dY.o;simp only[bC.cells,aA.val,qZ]at h;rw[<-HS.o,<-dD.o]at h;rw[dV.o];exact h
     have bu:Qm (∀w6,Bw wb w6->∃ya ym yc D,(Builtin.append_ #[116,116] 116 #[Z xa xm xc,Z (O (aD (M (H w6)) 0)) 1 1]).run V (w6.alloc (Qs #[I Qp ((cgi:Nat):Int)] 114))=.ok (Z ya ym yc) D/\aB (λb=>b≠M (H l)/\(Value.slice xa xm xc).ownBlock≠O b) wb D/\
       Qo D (aD (M (H l)) 11)=O (Z xa xm xc)/\D.frozen? (aD (M (H l)) 11)=F/\aB (λb=>b≠M (H l)/\(Value.slice xa xm xc).ownBlock≠O b) wb (Qn D (aD (M (H l)) 11) (Z ya ym yc))/\∃nx,GB (Qn D (aD (M (H l)) 11) (Z ya ym yc)) (M (H l)) 118 #[Z sa (N d) G,Z (O (aD cb co)) (N y) L,Qq aF,Z Q (N aC) W,Z ua (N aM) uc,Z ea (N bA) ec,Z da (N ord) dc,Z ca (N (fV ts d (N d))) cc,I Qp (S:Int),I Qp (C:Int),Z ra (N d) rc,nx,Z pa pm pc]/\(Qn D (aD (M (H l)) 11) (Z ya ym yc)).ownsRow (M (H w4)) 114 1 (nx) (N (CL.take (i+1))) ((CL.take (i+1)).map λ(x:Nat)=>I Qp (x:Int))/\(Qn D (aD (M (H l)) 11) (Z ya ym yc)).ownsRow (M (H w4)) 45 1 (Z pa pm pc) (N (PL.take i)) ((PL.take i).map λ(x:Nat)=>I Qp (x:Int))/\aB (λb=>b≠M (H l)) w4 (Qn D (aD (M (H l)) 11) (Z ya ym yc))/\Qo (Qn D (aD (M (H l)) 11) (Z ya ym yc)) (aD (M (H w8)) 0)=O (Z ad (N cs) ag)):=λw6 j=>by have g6:=aI.o.up j;have o6:=Ja ax.o j;have k6:aB (λ_=>True) wb w6:=Xl j;obtain⟨v',D,ah,aX,KZ,⟨ya,ym,yc,rfl⟩,jl⟩:=amt w6 (M (H w4)) (Z xa xm xc) (CL.take i) o6 (by rw[Jb];have:=aG.o;omega) (ZU dK.o.size j.size) cgi 116;rw[<-gP.o]at aX;obtain⟨g7,gZ,oZ,kZ⟩:=FU Tryz.ar5 g6 o6 aX KZ jl 11;refine⟨ya,ym,yc,D,ah,(k6.mono λ_ _ _=>trivial).trans (KZ.mono λ_ _ h=>h.2),g7.cell 11,g7.frozen 11,(k6.mono λ_ _ _=>trivial).trans kZ,Z ya ym yc,gZ,oZ,Xw (Ja ay.o j) kZ (λg hg=>⟨λe=>rA Tryz.aa0 (Ja ay.o j) g6 (by rw[hg,e]),λe=>FR Tryz.ar7 o6 (Ja ay.o j) e hg⟩),dK.o.dL ((k6.mono λ_ _ _=>trivial).trans kZ) (λb hb h=>⟨h,λe=>Qj ((Xy ax.o e).1)⟩),Xt (cB j aP) kZ aR.o⟩
     obtain⟨bJ,bK,bL,bM,bN,bO,bP,bQ,bR,bS,bV,fL,eU⟩:=aI.o.vV;clear eT A lH aN mE av aW zI YR aJ aL HG vY P;go_upto_region 16 with fail;clear dF bq;go_cut [66] from 66 to 86 (λiv wx=>iv=I J (i:Int)/\∃nv,GB wx (M (H l)) 118 #[Z sa (N d) G,Z (O (aD cb co)) (N y) L,Qq aF,Z Q (N aC) W,Z ua (N aM) uc,Z ea (N bA) ec,Z da (N ord) dc,Z ca (N (fV ts d (N d))) cc,I Qp (S:Int),I Qp (C:Int),Z ra (N d) rc,nv,Z pa pm pc]/\wx.ownsRow (M (H w4)) 114 1 (nv) (N (CL.take (i+1))) ((CL.take (i+1)).map λ(x:Nat)=>I Qp (x:Int))/\wx.ownsRow (M (H w4)) 45 1 (Z pa pm pc) (N (PL.take i)) ((PL.take i).map λ(x:Nat)=>I Qp (x:Int))/\aB (λb=>b≠M (H l)) w4 wx/\Qo wx (aD (M (H w8)) 0)=O (Z ad (N cs) ag))
     case first=>
      refine ZI (S:=λx=>aB (λb=>b≠M (H l)/\(Value.slice xa xm xc).ownBlock≠O b) wb x) Qd (Xl ((Za _ _).drew)) (λu=>?_);refine wt 0 (Y (O (aD (M (H l)) 11))) u ?_;refine wT 3 (Qt #[Z ad (N cs) ag]) u (λx hx=>?_) ?_
      .have e0:=Xt aP hx aR.o;go_simp
      repeat' first
       |(first|refine kJ 1 2 (λK r=>?_) λK r=>?_|refine kJ 1 4 (λK r=>?_) λK r=>?_|refine kJ 1 5 (λK r=>?_) λK r=>?_|refine kR 1 λK r=>?_|refine kR 2 λK r=>?_|refine kR 4 λK r=>?_|refine kR 5 λK r=>?_|refine kR 6 λK r=>?_|refine kR 7 λK r=>?_|refine kR 8 λK r=>?_) <;> (first|(obtain⟨ya,ym,yc,D,ah,bW,f7,z7,bX,dM⟩:=bu.o w6 j;refine nM Qh _ _ _ Qh (Z xa xm xc) (Z (O (aD (M (H w6)) 0)) 1 1) (Z ya ym yc) D Qh Qh ah ?_;refine r.o _ _ bW λu=>?_;clear r K ah)|(go_simp;(first|refine r.o _ _ u λu=>?_|refine r.o _ _ bX λu=>?_|(have fP:Qo (w6.alloc (Qs #[I Qp (cgi:Int)] 114)) (aD (M (H l)) 11)=O (Z xa xm xc):=cB (fo _ _) f6;refine r.o _ _ (u.trans (Xo _ _)) λu=>?_)|(refine Jg (dZ.o _ ((Za _ _).drew)) ?_;rintro e w6 ⟨rfl,j⟩;have j:Bw wb w6:=((Za _ _).drew).trans j;have f6:=cB j fL;refine r.o _ _ (Xl j) λu=>?_));clear r K))
       |refine kD ?_;(try simp only[pU]);go_wp2_with fail;go_meet;exact⟨rfl,dM⟩
     case rest=>
      obtain⟨rfl,nv,h1,h2,h3,h4,h5⟩:=hcut;obtain⟨wd,gU⟩:=eY (wc);subst gU;clear bu dZ aI ax ay bJ bK bL bM bN bO bP bQ bR bS bV eU fL aR;obtain⟨na,nm,nc,rfl⟩:=Xz h2;have aI:=hd h1;have ax:=hd h2;have ay:=hd h3;have aP:=h5;have bz:=hd h4;clear h1 h2 h3 h4 h5;obtain⟨gV,gW⟩:=bH (bZ.aj (bY.o wd (Ke.o.trans bz.o)) fO.o) fK.o;obtain⟨xa,ha⟩:=eY (pa);obtain⟨xm,hm⟩:=eY (pm);obtain⟨xc,hc⟩:=eY (pc);subst ha hm hc;have fQ:Qm (∀x,Bw wd x->Cb 95 #[Qt #[Z sa (N d) G,Z (O (aD cb co)) (N y) L,Qq aF,Z Q (N aC) W,Z ua (N aM) uc,Z ea (N bA) ec,Z da (N ord) dc,Z ca (N (fV ts d (N d))) cc,I Qp (S:Int),I Qp (C:Int),Z ra (N d) rc,Z na nm nc,Z xa xm xc],Qt #[Z ad (N cs) ag]] x (I Qp ((pgi:Nat):Int))):=λx hx=>by have h:=ac5 ⟨ca,cc,ra,rc,na,nm,nc,xa,xm,xc⟩ ts ⟨⟨sa,G,d⟩,O (aD cb co),L,y,aF,⟨Q,W,aC⟩,⟨ua,uc,aM⟩,⟨ea,ec,bA⟩,⟨da,dc,ord⟩⟩ ad ag cs x Ae.o (dw.o x (bz.o.trans (Xl hx))) (bZ.aj hx (gV.o)) gN.o dY.o;simp only[bC.cells,aA.val,qZ]at h;rw[<-HS.o,<-dD.o]at h;rw[dW.o];exact h
      have bu:Qm (∀w6,Bw wd w6->∃ya ym yc D,(Builtin.append_ #[115,115] 115 #[Z xa xm xc,Z (O (aD (M (H w6)) 0)) 1 1]).run V (w6.alloc (Qs #[I Qp ((pgi:Nat):Int)] 45))=.ok (Z ya ym yc) D/\aB (λb=>b≠M (H l)/\(Value.slice xa xm xc).ownBlock≠O b) wd D/\
        Qo D (aD (M (H l)) 12)=O (Z xa xm xc)/\D.frozen? (aD (M (H l)) 12)=F/\aB (λb=>b≠M (H l)/\(Value.slice xa xm xc).ownBlock≠O b) wd (Qn D (aD (M (H l)) 12) (Z ya ym yc))/\∃nx,GB (Qn D (aD (M (H l)) 12) (Z ya ym yc)) (M (H l)) 118 #[Z sa (N d) G,Z (O (aD cb co)) (N y) L,Qq aF,Z Q (N aC) W,Z ua (N aM) uc,Z ea (N bA) ec,Z da (N ord) dc,Z ca (N (fV ts d (N d))) cc,I Qp (S:Int),I Qp (C:Int),Z ra (N d) rc,Z na nm nc,nx]/\(Qn D (aD (M (H l)) 12) (Z ya ym yc)).ownsRow (M (H w4)) 114 1 (Z na nm nc) (N (CL.take (i+1))) ((CL.take (i+1)).map λ(x:Nat)=>I Qp (x:Int))/\(Qn D (aD (M (H l)) 12) (Z ya ym yc)).ownsRow (M (H w4)) 45 1 (nx) (N (PL.take (i+1))) ((PL.take (i+1)).map λ(x:Nat)=>I Qp (x:Int))/\aB (λb=>b≠M (H l)) w4 (Qn D (aD (M (H l)) 12) (Z ya ym yc))):=λw6 j=>by have g6:=aI.o.up j;have o6:=Ja ay.o j;have k6:aB (λ_=>True) wd w6:=Xl j;obtain⟨v',D,ah,aX,KZ,⟨ya,ym,yc,rfl⟩,jl⟩:=aa1 w6 (M (H w4)) (Z xa xm xc) (PL.take i) o6 (by rw[Jb];have:=aH.o;omega) (ZU bz.o.size j.size) pgi 115;rw[<-gT.o]at aX;obtain⟨g7,gZ,oZ,kZ⟩:=FU Tryz.aa0 g6 o6 aX KZ jl 12;refine⟨ya,ym,yc,D,ah,(k6.mono λ_ _ _=>trivial).trans (KZ.mono λ_ _ h=>h.2),g7.cell 12,g7.frozen 12,(k6.mono λ_ _ _=>trivial).trans kZ,Z ya ym yc,gZ,Xw (Ja ax.o j) kZ (λg hg=>⟨λe=>rA Tryz.ar5 (Ja ax.o j) g6 (by rw[hg,e]),λe=>FR Tryz.ar7 (Ja ax.o j) o6 hg e⟩),oZ,bz.o.dL ((k6.mono λ_ _ _=>trivial).trans kZ) (λb hb h=>⟨h,λe=>Qj ((Xy ay.o e).1)⟩)⟩
      have aR:Qm (M (H w8)≠M (H l)/\(Value.slice xa xm xc).ownBlock≠O (M (H w8))):=⟨dX.o,gW.o⟩;obtain⟨bJ,bK,bL,bM,bN,bO,bP,bQ,bR,bS,bV,eZ,fL⟩:=aI.o.vV;go_upto_region 17 with fail;refine ZI (S:=λx=>aB (λb=>b≠M (H l)/\(Value.slice xa xm xc).ownBlock≠O b) wd x) Qd (Xl ((Za _ _).drew)) (λu=>?_);refine wt 0 (Y (O (aD (M (H l)) 12))) u ?_;refine wT 3 (Qt #[Z ad (N cs) ag]) u (λx hx=>?_) ?_
      .have e0:=Xt aP hx aR.o;go_simp
      repeat' first
       |(first|refine kJ 1 2 (λK r=>?_) λK r=>?_|refine kJ 1 4 (λK r=>?_) λK r=>?_|refine kJ 1 5 (λK r=>?_) λK r=>?_|refine kR 1 λK r=>?_|refine kR 2 λK r=>?_|refine kR 4 λK r=>?_|refine kR 5 λK r=>?_|refine kR 6 λK r=>?_|refine kR 7 λK r=>?_|refine kR 8 λK r=>?_) <;> (first|(obtain⟨ya,ym,yc,D,ah,bW,f7,z7,bX,dM⟩:=bu.o w6 j;refine nM Qh _ _ _ Qh (Z xa xm xc) (Z (O (aD (M (H w6)) 0)) 1 1) (Z ya ym yc) D Qh Qh ah ?_;refine r.o _ _ bW λu=>?_;clear r K ah)|(go_simp;(first|refine r.o _ _ u λu=>?_|refine r.o _ _ bX λu=>?_|(have fP:Qo (w6.alloc (Qs #[I Qp (pgi:Int)] 45)) (aD (M (H l)) 12)=O (Z xa xm xc):=cB (fo _ _) f6;refine r.o _ _ (u.trans (Xo _ _)) λu=>?_)|(refine Jg (fQ.o _ ((Za _ _).drew)) ?_;rintro e w6 ⟨rfl,j⟩;have j:Bw wd w6:=((Za _ _).drew).trans j;have f6:=cB j fL;refine r.o _ _ (Xl j) λu=>?_));clear r K))
       |refine kD ?_;(try simp only[pU])
        obtain⟨nx,r1,r2,r3,r4⟩:=dM;have fT:Qm _:=r1;have fU:Qm _:=r2;have fZ:Qm _:=r3;have gm:=Zh r4;clear r1 r2 r3 r4 f7 z7 bX bW f6 aP u fL bJ bK bL bM bN bO bP bQ bR bS bV eZ;refine gQ ?_;exact⟨i+1,X,Qe,Z na nm nc,nx,fT.o,fU.o,fZ.o,gm.o⟩
    .obtain rfl:i=N y:=X
     obtain⟨w5,zg⟩:=eY (wr);subst zg;rw[XW (by rw[aG.o];exact Zb _)]at zI;rw[XW (by rw[aH.o];exact Zb _)]at YR;obtain⟨na,nc,rfl,gX⟩:=xL zI.o (by rw[aG.o];omega);obtain⟨pa,pc,rfl,ib⟩:=xL YR.o (by rw[aH.o];omega);have ed:=aW.o;have dx:GB l (M (H w1)) 118 #[Z Qr 0 0,Z Qr 0 0,Qq F,Z Qr 0 0,Z Qr 0 0,Z Qr 0 0,Z Qr 0 0,Z Qr 0 0,I Qp 0,I Qp 0,Z Qr 0 0,Z Qr 0 0,Z Qr 0 0]:=fu.o;have bB:=dx.up aL;have iy:=dx.lt;obtain⟨vs,fe⟩:=eY ([Z sa (N d) G,Z iF (N y) L,Qq aF,Z Q (N aC) W,Z ua (N aM) uc,Z ea (N bA) ec,Z da (N ord) dc,Z ca (N (fV ts d (N d))) cc,I Qp (S:Int),I Qp (C:Int),Z ra (N d) rc,Z na (N CL) nc,Z pa (N PL) pc]:JK Ql);have aS:=lI (B:=M (H w1)) vs 0 w5;have dz:=yM (vs:=vs) (o:=0) bB;have az:∀{e:TypeId} {base sz n:Nat} {v:Ql} {xs:JK Ql},M (H l)<=base->w5.ownsRow base e sz v n xs->(lS (M (H w1)) 0 vs w5).ownsRow base e sz v n xs:=λhb h=>Xw h aS (λg hg e=>Qj ((Xy h hg).1));have iA:=Ke.o.size;have iB:=gu.o;have dA:Bw w (lS (M (H w1)) 0 vs w5):=by have h1:=eB.o.trans (aL.mono eB.o.size);exact h1.trans (aS.aj h1.size (λb hb=>X))
     have gJ:Qm (∃f:bC,Ending.returned (Qt vs.toArray)=Qu (Qt (f.cells ts ⟨⟨sa,G,d⟩,iF,L,y,aF,⟨Q,W,aC⟩,⟨ua,uc,aM⟩,⟨ea,ec,bA⟩,⟨da,dc,ord⟩⟩))/\f.At ts ⟨⟨sa,G,d⟩,iF,L,y,aF,⟨Q,W,aC⟩,⟨ua,uc,aM⟩,⟨ea,ec,bA⟩,⟨da,dc,ord⟩⟩ (lS (M (H w1)) 0 vs w5)/\f.New (M (H w))/\Bw w (lS (M (H w1)) 0 vs w5)):=by
      refine⟨⟨ca,cc,ra,rc,na,N CL,nc,pa,N PL,pc⟩,?_,⟨?_,?_,?_,?_,?_,?_,?_⟩,⟨?_,?_,?_,?_⟩,dA⟩
      .rw[fe];simp only[bC.cells,aA.val,qZ];rw[<-HS.o,<-dD.o]
      .exact gq.o.aj dA
      .have dC:aB (λb=>b≠M (H l)/\b≠M (H w1)) w4 (lS (M (H w1)) 0 vs w5):=(aJ.o.mono λ_ _ h=>h.1).trans (aS.mono λ_ _ h=>h.2);obtain⟨a,c,e,h⟩:=MF (Xw vY.o dC (λg hg=>⟨λe=>rA Tryz.afO vY.o HG.o (by rw[hg,e]),Qj ((Xy vY.o hg).1)⟩)) (Qj Ad.o)
       cases e;exact h
      .have dC:aB (λb=>b≠M (H l)/\b≠M (H w1)) w4 (lS (M (H w1)) 0 vs w5):=(aJ.o.mono λ_ _ h=>h.1).trans (aS.mono λ_ _ h=>h.2);obtain⟨a,c,e,h⟩:=xL (Xw P.o dC (λg hg=>⟨λe=>rA Tryz.aa0 P.o HG.o (by rw[hg,e]),Qj ((Xy P.o hg).1)⟩)) (by rw[vE];omega);rw[vE]at e
       cases e;exact h
      .obtain⟨a,c,e,h⟩:=xL (az X zI.o) (by rw[aG.o];omega)
       cases e;rw[<-eO.o];exact h
      .obtain⟨a,c,e,h⟩:=xL (az X YR.o) (by rw[aH.o];omega)
       cases e;rw[<-eP.o];exact h
      .exact aG.o
      .exact aH.o
      .rintro a rfl;have:=(Xy vY.o (g:=a.block) rfl).1;omega
      .rintro a rfl;have:=(Xy P.o (g:=a.block) rfl).1;omega
      .rintro a rfl;have:=(Xy zI.o (g:=a.block) rfl).1;omega
      .rintro a rfl;have:=(Xy YR.o (g:=a.block) rfl).1;omega
     subst fe;simp only[I6,Zp,QX,QY]at dz;have rT:=Zh (aiB dz);have z:=λi=>bB.frozen i;obtain⟨bJ,bK,bL,bM,bN,bO,bP,bQ,bR,bS,bV,eZ,eU⟩:=ed.vV;obtain⟨iD,iE,iG,iH,iI,iJ,iK,iL,iM,iN,iP,iQ,iR⟩:=bB.vV;clear ed bB dx dz aS az dA aW zI YR aJ HG vY P gX ib dw;go_wp2;exact Jr (uV (p:=4) rfl rfl rT.o) rfl gJ.o
def zH(o:aA):JK Value:=[o.val,Y Qr]
theorem aiu{Tq Tp:TypeId}{base:Nat}{v:Ql}{os:JK aA}(h:w.ownsRow base Tp 2 v (N os) (os.flatMap zH))(h0:0<N os)(ho:∀o∈os,gP Fq w o/\N o.xs<=1000)(A:Nat->Nat) :
  ∃gb cap,v=Z (O (aD gb 0)) (N os) cap/\base<=gb/\gb<M (H w)/\N os<=cap/\cap<=9223372036854775807/\dJ Tq Tp Fq w gb A os (fw (os.map aA.xs)):=by
 rcases h.2 with⟨_,h1⟩|⟨g,cap,iw,rfl,hb,hh,hc,hm,hs,ht⟩
 .omega
 have k:N (fw (os.map aA.xs))=N os:=by unfold fw;simp
 have m:∀i,i<N os->E os i iU∈os:=λi d=>Qb;have l:∀i,i<N os->E (fw (os.map aA.xs)) i sJ=((E os i iU).xs,Qr):=λi d=>by unfold fw;grind
 have a:∀i j u,i<N os->j<2->(zH (E os i iU))[j]? = O u->iw[i*2+j]? = O u:=λi j u d n t=>by have r:=XO zH 2 (λ_=>rfl) iU os i j d n;grind
 have b:∀p∈fw (os.map aA.xs),p.2=none:=λp e=>by unfold fw at e;grind
 refine⟨g,cap,rfl,hb,(Xx.1 hh).1,hc,(by unfold maxLen at hm;omega),⟨iw,hh,λi d=>?_⟩,λi d=>?_,λp e x f=>?_,λp e y q x z f=>?_⟩
 .rw[k]at d;rw[l i d];exact⟨a i 0 _ d X rfl,a i 1 _ d X rfl⟩
 .grind
 .rw[b p e]at f
  cases f
 .rw[b p e]at f
  cases f
def Tryz.aiv:(V.info? 206).map (λi=>(i.zero,i.size,i.bytes))=O (O (Qt #[Z Qr 0 0,Y Qr]),2,32):=Qd
theorem aee(W:U)(base:Nat)(v:Ql)(os:JK aA)(bG:W.ownsRow base 206 2 v (N os) (os.flatMap zH))(hl:N os<=1000)(hb:base<=M (H W))(o:aA)(ty:TypeId) :
  ∃d e,(Builtin.append_ #[159,159] ty #[v,Z (O (aD (M (H W)) 0)) 1 1]).run V (W.alloc (Qs #[o.val,Y Qr] 206))=.ok d e/\
   e.ownsRow base 206 2 d (N (os++[o])) ((os++[o]).flatMap zH)/\aB (λb=>v.ownBlock≠O b) W e/\(∃a m c,d = Z a m c):=by
 obtain⟨i0,k,f,g,i⟩:=XB Tryz.aiv;obtain⟨d,e,l,q,n,p,r⟩:=lg (P:=V) W base 159 ty 206 i0 _ 2 32 underlying159 k f g i rfl Qc v (N os) _ bG hb (zH o) rfl (λu j=>by
  unfold zH aA.val at j;simp at j;rcases j with rfl|rfl <;> rfl) hl Qc
 exact⟨d,e,l,Qb,n,p⟩
theorem PZ(os:JK aA)(io:LM)(ic:Nat)(PG:dC w io (N os) (λi=>(E os i iU).val))(ho:∀o∈os,gP Fq w o/\N o.xs<=1000)(h0:0<N os)(hl:N os<=1000)(A:Nat->Nat) :
  Calls V 89 #[Z io (N os) ic] w λe r=>∃gb cap,e=Qu (Z (O (aD gb 0)) (N os) cap)/\M (H w)<=gb/\gb<M (H r)/\N os<=cap/\cap<=9223372036854775807/\dJ 144 206 Fq r gb A os (fw (os.map aA.xs))/\Bw w r:=by
 have g:Qm _:=PG;have K:Qm (∀x v,Bw w x->x.ownsRow (M (H w)) 206 2 v (N os) (os.flatMap zH)->∃gb cap,v=Z (O (aD gb 0)) (N os) cap/\M (H w)<=gb/\gb<M (H x)/\N os<=cap/\cap<=9223372036854775807/\dJ 144 206 Fq x gb A os (fw (os.map aA.xs))):=λx v D hv=>aiu hv h0 (λo G=>⟨(ho o G).1.aj D,(ho o G).2⟩) A;have L:Qm (∀k,k<N os->os.take (k+1)=os.take k++[E os k iU]):=λk z=>Jt os iU z;have P:Qm (os.take (N os)=os):=Z0;generalize fw (os.map aA.xs)=R at*;clear PG ho;go_enter func89,ntmps89;go_wp2;go_loopw [3,8] (λpv t wr=>∃k:Nat,k<=N os/\t=I J (k:Int)/\Qm (wr.ownsRow (M (H w)) 206 2 pv (N (os.take k)) ((os.take k).flatMap zH))/\Qm (Bw w wr)) (λ_ t _=>N os-(intOf t).toNat)
 case atStart=>exact⟨0,ZR _,rfl,XC _ _ _ _,Za _ _⟩
 case round=>
  obtain⟨k,z,rfl,d,a⟩:=hrel;obtain⟨m,n,p,rfl⟩:=Xz d.o;by_cases u:k<N os
  .obtain⟨bb,aa,rfl,f⟩:=Q3 (dC.aj a.o g.o) u;have j:=f k u;have y:=Zh (L.o k u);obtain⟨v',w5,B,q,C,⟨za,zm,zc,rfl⟩⟩:=aee wr (M (H w)) (Z m n p) (os.take k) d.o (by rw[Jb];omega) a.o.size (E os k iU) 159;rw[<-y.o]at q;have Q:Qm _:=q;have S:=Zh (a.o.trans (C.aj a.o.size (λb D e=>Qj ((Xy d.o e).1))));generalize E os k iU=o at*;obtain⟨oa,oc,ox⟩:=o;simp only[aA.val]at*;clear f q C y d;go_wp2_with (first|(at_builtin;refine XJ rfl (.tmp 12) (.tmp 15) 159 rfl (Z m n p) (Z (O (aD (M (H wr)) 0)) 1 1) (Z za zm zc) w5 rfl rfl B ?_));clear B j;refine gQ ?_;exact⟨k+1,X,Qe,Q.o,S.o⟩
  .have l:N os=k:=X
   have W:Qm _:=K.o wr (Z m n p) a.o (by
    have:=d.o;grind)
   clear l;go_wp2;go_ret;obtain⟨gb,cap,e,h1,h2,h3,h4,h5⟩:=W.o;exact⟨gb,cap,by rw[<-e];rfl,h1,h2,h3,h4,h5,a.o⟩
