import Derived.Test.YtpcfbajdeipgbaaGreatDoorX20
set_option linter.all false
set_option maxRecDepth 100000
set_option maxHeartbeats 0
namespace Go.Proofs.Zz
open Go.RowKit Go.Shelf
open List renaming length->N,getD->E
open Go.Value renaming slice->Z,int->I,pointer->Y,agg->FN
open Go.Proofs.Tryz renaming prog->V
open Option renaming some->O,none->E5
open Go.IntKind renaming i64->J
open Bool renaming true->T
open Go renaming World->U,Value->KX
open Go.World renaming heap->H
open _root_.Array renaming size->M
open Go.Obj renaming cells->FL
open Go.Ending renaming returned->FR
def acB(f:bq)(ts:List ag)(q:af)(ok:Ok ts q)(po:Option Addr)(pc:Nat)(pl:List ai)(pa:Option Addr)(pac:Nat)(ps:List aK)(vd:KX)(n:ai)(li ri:Nat)(w0 w:U)(Nq:Int)(hw:Bw w0 w)(hf:f.At ts q w0)(hn:bT w0 po pl)(hp:bP w0 pa ps)(hps:N ps=N pl)(hcl:n.cl.At w0)(hco:n.co.At w0)(el:n.l=li)(hll:li<N pl)(er:n.r=ri)(hrl:ri<N pl)
  (h3:∀i,i<N q.wh->(E q.wh i lz).cs.length<=3) (hcond:∀i,i<N q.wh->∀d∈(E q.wh i lz).cs,dC d Nq=T) (XL X:List (List Int) × List Int)
  (hl:∀x,Bw w0 x->Calls V 60 #[FN (jH f ts q (Z po (N pl) pc) (Z pa (N ps) pac) vd),FN (E pl li nz).cells] x (qA V w0 XL x))
  (XR:List (List Int) × List Int) (hr:∀x,Bw w0 x->Calls V 60 #[FN (jH f ts q (Z po (N pl) pc) (Z pa (N ps) pac) vd),FN (E pl ri nz).cells] x (qA V w0 XR x))
  (hk3:3<=n.kind) (hk5:n.kind<=5) (K1 K2:Int) (hkey:n.kind≠3->∃b,nR ts q n (E ps li bz).sources (E ps ri bz).sources=(K1,K2,b)/\K1∈XL.2/\K2∈XR.2) (hRL:Mt XL.2 XL.1) (hRR:Mt XR.2 XR.1)
  (hX:X=((su n.kind (XL.2.idxOf K1) (XR.2.idxOf K2) XL.1 XR.1).filter (jo q.wh (XL.2++XR.2) n.cl.xs),XL.2++XR.2)) (hKO:agn q.wh (XL.2++XR.2) (su n.kind (XL.2.idxOf K1) (XR.2.idxOf K2) XL.1 XR.1) n.cl.xs) :
  Calls V 60 #[FN (jH f ts q (Z po (N pl) pc) (Z pa (N ps) pac) vd),FN n.cells] w (qA V w0 X w):=by
 obtain⟨v0,v1,v2,v3,v4,v5,v6,v7,v8,v9,ak,au,av,dY,-,bU,-⟩:=Jf f ts q;obtain⟨nb,no,dL,Sy,Sz,SC,SE,SF,SG,SH,-,-⟩:=hn.2 li hll;subst dL;obtain⟨fo,fq,dN,aG,aH,aI,aJ,aL,aM,aN,-,-⟩:=hn.2 ri hrl;cases dN;have uE:jH f ts q (Z (O (aD nb no)) (N pl) pc) (Z pa (N ps) pac) vd=#[v0,v1,v2,v3,v4,v5,v6,v7,v8,v9,ak,au,av,Z (O (aD nb no)) (N pl) pc,Z pa (N ps) pac,vd]:=by unfold jH;rw[dY];rfl
 have nT:n.cells=#[I J n.kind,I J n.l,I J n.r,I J n.source,n.cl.val,I J n.key,n.co.val]:=rfl;have V9:(E pl li nz).cells=#[I J (E pl li nz).kind,I J (E pl li nz).l,I J (E pl li nz).r,I J (E pl li nz).source,(E pl li nz).cl.val,I J (E pl li nz).key,(E pl li nz).co.val]:=rfl;have bL:(E pl ri nz).cells=#[I J (E pl ri nz).kind,I J (E pl ri nz).l,I J (E pl ri nz).r,I J (E pl ri nz).source,(E pl ri nz).cl.val,I J (E pl ri nz).key,(E pl ri nz).co.val]:=rfl;have bM:Hid (∀(x:U) (gl gr:Nat) (qp ql:Array KX) (cl cr:ae),Bw w0 x->cl.xs=XL.2->cr.xs=XR.2->cl.At x->cr.At x->Calls V 121 #[FN (jH f ts q (Z (O (aD nb no)) (N pl) pc) (Z pa (N ps) pac) vd),FN n.cells,FN #[.func (.func gl) #[] qp,cl.val],FN #[.func (.func gr) #[] ql,cr.val]] x λe w'=>∃v,e=FR v/\Bw x w'/\∀W,Nw x w' W->eT ah V (.func (.func gl) #[] qp) XL.1 W->eT ah V (.func (.func gr) #[] ql) XR.1 W->eT ah V v (su n.kind (XL.2.idxOf K1) (XR.2.idxOf K2) XL.1 XR.1) W):=λx gl gr qp ql cl cr A e1 e2 h1 h2=>by have h:=Su f ts q ok (Z (O (aD nb no)) (N pl) pc) vd pa pac ps n li ri gl gr qp ql cl cr XL.1 XR.1 x (hf.below A) (hp.below A) (Qt A hcl) el (by omega) er (by omega) h1 h2 hk3 hk5 K1 K2 (by rw[e1,e2];exact hkey) (by rw[e1];exact hRL) (by rw[e2];exact hRR);rw[e1,e2]at h;exact h
 rw[uE,nT,el,er]at bM;rw[uE,V9]at hl;rw[uE,bL]at hr;rw[uE,nT,el,er];obtain⟨w1,dO,bE,aY⟩:=aX w #[v0,v1,v2,v3,v4,v5,v6,v7,v8,v9,ak,au,av,Z (O (aD nb no)) (N pl) pc,Z pa (N ps) pac,vd] 98;obtain⟨w2,dP,aZ,bf⟩:=aX w1 #[I J n.kind,I J (li:Int),I J (ri:Int),I J n.source,n.cl.val,I J n.key,n.co.val] 50;obtain⟨w3,dS,hk3,bF⟩:=aX w2 #[Value.nilFunc,Z E5 0 0] 129;have bA:=aj aZ hk3;have bB:=aj bE bA;have aU:=aj hw bB;have fG:=aY.of (bA.block _ aY.lt);have jA:=bf.of (hk3.block _ bf.lt);obtain⟨dM,dX,dQ,dR,eu,eU,eH,gq,gm,gp,bY,dw,bZ⟩:=fG.zR;have nN:=fG.at 13;have oL:=fG.at 14;have oM:=fG.at 15;obtain⟨jr,jO,jP,kM,jQ,mf,mh⟩:=jA.k7;obtain⟨aG,aH,aI,aJ,aL,aM,aN,Sy⟩:=qf aU aG aH aI aJ aL aM aN Sy;obtain⟨Sz,SC,SE,SF,SG,SH⟩:=Dh aU Sz SC SE SF SG SH;have eQ:(li:Int)<(N pl:Int):=by omega
 have eP:(ri:Int)<(N pl:Int):=by omega
 obtain⟨HL,HR,az,Oe,Ig,bV,bW⟩:=Dn hl hr aU bB bF fG jA;obtain⟨Q,HF,sO,pE,H3,dU,HX⟩:=Dn (show M (H w)<=M (H w2)/\M (H w)≠M (H w2)/\M (H w1)≠M (H w2)/\M (H w2)<M (H w3) from ⟨Q6 bE.size aZ.size,by have:=aY.lt;have:=aZ.size;omega,by have:=bf.lt;omega,bF.lt⟩) hf hcl hco h3 hcond hX;obtain⟨bg,PW,bX,Bh⟩:=xA hKO hRL hRR (show #[v0,v1,v2,v3,v4,v5,v6,v7,v8,v9,ak,au,av,Z (O (aD nb no)) (N pl) pc,Z pa (N ps) pac,vd][1]? = O (Z q.dx (N q.wh) q.aP) from congrArg O bU);clear hkey hRL hRR hX hKO hr bL er hl bE aZ hk3 aY bf bF fG jA bB bA aU hn hp hcl hco hf hw h3 hcond dY uE nT V9 bU el ok hps;obtain⟨nk,nl,nr,ns,dV,key,dW⟩:=n;simp only at*;generalize (E pl li nz).kind=l0 at*;generalize (E pl li nz).l=l1 at*;generalize (E pl li nz).r=l2 at*;generalize (E pl li nz).source=l3 at*;generalize (E pl li nz).cl.val=l4 at*;generalize (E pl li nz).key=l5 at*;generalize (E pl li nz).co.val=l6 at*;generalize (E pl ri nz).kind=r0 at*;generalize (E pl ri nz).l=r1 at*;generalize (E pl ri nz).r=r2 at*;generalize (E pl ri nz).source=r3 at*;generalize (E pl ri nz).cl.val=r4 at*;generalize (E pl ri nz).key=r5 at*;generalize (E pl ri nz).co.val=r6 at*;obtain⟨Iy,Iz,qR⟩:=dV;obtain⟨D7,D8,rO⟩:=dW;simp only[ae.val]at*;have eX:(nk==1)=false:=by
  have:nk≠1:=by omega
  simpa using this
 have eY:(nk==2)=false:=by
  have:nk≠2:=by omega
  simpa using this
 have eZ:(nk==6)=false:=by
  have:nk≠6:=by omega
  simpa using this
 go_enter Tryz.func60,Tryz.ntmps60;go_upto_region 4 with fail;go_cut [6] from 32 to 39 (λc wx=>∃(bl g:Nat) (lb:Array KX) (cv:ae),c=Y (O (aD bl 0))/\M (H w3)<=bl/\GB wx bl 129 #[.func (.func g) #[] lb,cv.val]/\D5 V w0 XL w3 g lb cv wx)
 case first=>
  refine wH w3 λj=>?_;refine wT 0 (FN #[v0,v1,v2,v3,v4,v5,v6,v7,v8,v9,ak,au,av,Z (O (aD nb no)) (N pl) pc,Z pa (N ps) pac,vd]) j (λx A=>?_) ?_
  .have e0:=K4 A dM dX dQ dR eu eU eH gq gm gp bY dw bZ;have e1:=J3 A nN oL oM;go_simp
  refine wt 1 (Y (O (aD (M (H w)) 13))) j ?_;refine wtc 2 (Z (O (aD nb no)) (N pl) pc) j nN ?_;refine wt 3 (Y (O (aD (M (H w1)) 1))) j ?_;refine wtc 4 (I J (li:Int)) j jO ?_;refine wt 5 (Y (O (aD nb (no+li*7)))) j ?_;refine wT 6 (FN #[I J l0,I J l1,I J l2,I J l3,l4,I J l5,l6]) j (λx A=>?_) ?_
  .have e0:=Pk A Sy Sz SC SE SF SG SH;go_simp
  refine wJ 7 8 (λK t=>?_) λK t=>?_
  .skip;go_simp;refine(HL.o _ (aj az.o j)).mono ?_;rintro e y ⟨g,lb,⟨ng,dK,gK⟩,rfl,aa,C,k⟩;simp only[ae.val];refine oT t j aa λj=>?_
   clear t K;refine wR 8 λK t=>?_;go_simp;refine oA t j λaT=>?_;clear t K;obtain⟨y2,u⟩:∃z,y.alloc (FL #[Value.nilFunc,Z E5 0 0] 129)=z:=⟨_,rfl⟩;have aR:=bJ y (FL #[Value.nilFunc,Z E5 0 0] 129);have IA:=GB.alloc y #[Value.nilFunc,Z E5 0 0] 129;rw[u]at aR IA aT;rw[u];clear u;have B:=j.size;have D:=IA;have ax:=jT (P:=V) (w0:=w0) (w:=w3) (y:=y2) (R:=M (H y)) (g:=g) (lb:=lb) (c:=⟨ng,dK,gK⟩) (X:=XL) aT B D C (λW h0 hW=>k W h0 (Zy (ZA aR λ_ h _=>h) hW λb hb hs=>⟨hs,by show b≠_;omega⟩));obtain⟨kE,gE,m⟩:=ax;obtain⟨z0,z1⟩:=D.k2;have y0:=D.frozen 0;have y1:=D.frozen 1;have aW:=λ(a:Addr) (c:Array KX) (w:U)=>run_store V w a (.func (.func g) #[] c) .plain rfl;obtain⟨zL,xC⟩:=aV m gE;clear m gE D k C;refine wR 9 λK t=>?_;go_simp;refine t.o _ _ zL.o.1 (λj=>?_);clear t K;refine wD ?_;try simp only[pU]
   go_wp2_with fail;go_meet;exact⟨M (H y),g,lb,⟨ng,dK,gK⟩,rfl,B,xC.o,zL.o⟩
  .skip;go_simp;refine oA t j λj=>?_
   clear t K;obtain⟨y2,u⟩:∃z,w3.drew.alloc (FL #[Value.nilFunc,Z E5 0 0] 129)=z:=⟨_,rfl⟩;have dG:M (H y2)=M (H w3)+1:=by rw[<-u];simp
   have IA:GB y2 (M (H w3)) 129 #[Value.nilFunc,Z E5 0 0]:=by rw[<-u];exact GB.alloc w3.drew _ _
   have aS:Bw w3 y2:=by rw[<-u];exact j
   rw[u];clear u j;refine wR 7 λK t=>?_;go_simp;refine(HL.o _ (aj az.o aS)).mono ?_;rintro e y ⟨g,lb,⟨ng,dK,gK⟩,rfl,aa,C,k⟩;simp only[ae.val];refine oT t aS aa λj=>?_;clear t K;have B:M (H w3)<=M (H w3):=(Qs _);have D:=IA.of (aa.block _ IA.lt);have ax:=jT (P:=V) (w0:=w0) (w:=w3) (y:=y) (R:=M (H w3)) (g:=g) (lb:=lb) (c:=⟨ng,dK,gK⟩) (X:=XL) j B D C (λW h0 hW=>k W h0 (Kept.mono hW λb _ h=>⟨by have h':=h;omega,by have h':=h;omega⟩));obtain⟨kE,gE,m⟩:=ax;obtain⟨z0,z1⟩:=D.k2;have y0:=D.frozen 0;have y1:=D.frozen 1;have aW:=λ(a:Addr) (c:Array KX) (w:U)=>run_store V w a (.func (.func g) #[] c) .plain rfl;obtain⟨zL,xC⟩:=aV m gE;clear m gE D k C;refine wR 9 λK t=>?_;go_simp;refine t.o _ _ zL.o.1 (λj=>?_);clear t K;refine wD ?_;try simp only[pU]
   go_wp2_with fail;go_meet;exact⟨M (H w3),g,lb,⟨ng,dK,gK⟩,rfl,B,xC.o,zL.o⟩
 case rest=>
 obtain⟨bl,g,lb,cv,rfl,B,cu,aO,C,k⟩:=hcut;obtain⟨w4,dZ⟩:∃x,x=wc:=⟨_,rfl⟩;subst dZ;have bN:=aO;obtain⟨aG,aH,aI,aJ,aL⟩:=ji bN aG aH aI aJ aL;obtain⟨aM,aN⟩:=gy bN aM aN;clear dO dP dS Sy Sz SC SE SF SG SH dM dX dQ dR eu eU eH gq gm gp bY dw bZ nN oL oM jr jO jP kM jQ mf mh;have fG:=bV.o.of (aO.block _ bV.o.lt);have jA:=bW.o.of (aO.block _ bW.o.lt);obtain⟨dM,dX,dQ,dR,eu,eU,eH,gq,gm,gp,bY,dw,bZ⟩:=fG.zR;have nN:=fG.at 13;have oL:=fG.at 14;have oM:=fG.at 15;obtain⟨jr,jO,jP,kM,jQ,mf,mh⟩:=jA.k7;obtain⟨f0,f1⟩:=cu.k2;have sU:=Zh (aj az.o aO);obtain⟨fu,Kq,Dg,wQ,Od⟩:=J5 (k w4 sU.o (Zx _ _)).2.1 k C aO B;obtain⟨JY,JZ,D9⟩:=cv;simp only[ae.val]at*;clear fG jA cu k C aO B;go_upto_region 10 with fail;go_cut [7] from 61 to 68 (λc wx=>∃(bl g:Nat) (lb:Array KX) (cv:ae),c=Y (O (aD bl 0))/\M (H w4)<=bl/\GB wx bl 129 #[.func (.func g) #[] lb,cv.val]/\D5 V w0 XR w4 g lb cv wx)
 case first=>
  refine wH w4 λj=>?_;refine wT 0 (FN #[v0,v1,v2,v3,v4,v5,v6,v7,v8,v9,ak,au,av,Z (O (aD nb no)) (N pl) pc,Z pa (N ps) pac,vd]) j (λx A=>?_) ?_
  .have e0:=K4 A dM dX dQ dR eu eU eH gq gm gp bY dw bZ;have e1:=J3 A nN oL oM;go_simp
  refine wt 1 (Y (O (aD (M (H w)) 13))) j ?_;refine wtc 2 (Z (O (aD nb no)) (N pl) pc) j nN ?_;refine wt 3 (Y (O (aD (M (H w1)) 2))) j ?_;refine wtc 4 (I J (ri:Int)) j jP ?_;refine wt 5 (Y (O (aD nb (no+ri*7)))) j ?_;refine wT 6 (FN #[I J r0,I J r1,I J r2,I J r3,r4,I J r5,r6]) j (λx A=>?_) ?_
  .have e0:=Pk A aG aH aI aJ aL aM aN;go_simp
  refine wJ 7 8 (λK t=>?_) λK t=>?_
  .skip;go_simp;refine(HR.o _ (aj sU.o j)).mono ?_;rintro e y ⟨g,lb,⟨ng,dK,gK⟩,rfl,aa,C,k⟩;simp only[ae.val];refine oT t j aa λj=>?_
   clear t K;refine wR 8 λK t=>?_;go_simp;refine oA t j λaT=>?_;clear t K;obtain⟨y2,u⟩:∃z,y.alloc (FL #[Value.nilFunc,Z E5 0 0] 129)=z:=⟨_,rfl⟩;have aR:=bJ y (FL #[Value.nilFunc,Z E5 0 0] 129);have IA:=GB.alloc y #[Value.nilFunc,Z E5 0 0] 129;rw[u]at aR IA aT;rw[u];clear u;have B:=j.size;have D:=IA;have ax:=jT (P:=V) (w0:=w0) (w:=w4) (y:=y2) (R:=M (H y)) (g:=g) (lb:=lb) (c:=⟨ng,dK,gK⟩) (X:=XR) aT B D C (λW h0 hW=>k W h0 (Zy (ZA aR λ_ h _=>h) hW λb hb hs=>⟨hs,by show b≠_;omega⟩));obtain⟨kE,gE,m⟩:=ax;obtain⟨z0,z1⟩:=D.k2;have y0:=D.frozen 0;have y1:=D.frozen 1;have aW:=λ(a:Addr) (c:Array KX) (w:U)=>run_store V w a (.func (.func g) #[] c) .plain rfl;obtain⟨zL,xC⟩:=aV m gE;clear m gE D k C;refine wR 9 λK t=>?_;go_simp;refine t.o _ _ zL.o.1 (λj=>?_);clear t K;refine wD ?_;try simp only[pU]
   go_wp2_with fail;go_meet;exact⟨M (H y),g,lb,⟨ng,dK,gK⟩,rfl,B,xC.o,zL.o⟩
  .skip;go_simp;refine oA t j λj=>?_
   clear t K;obtain⟨y2,u⟩:∃z,w4.drew.alloc (FL #[Value.nilFunc,Z E5 0 0] 129)=z:=⟨_,rfl⟩;have dG:M (H y2)=M (H w4)+1:=by rw[<-u];simp
   have IA:GB y2 (M (H w4)) 129 #[Value.nilFunc,Z E5 0 0]:=by rw[<-u];exact GB.alloc w4.drew _ _
   have aS:Bw w4 y2:=by rw[<-u];exact j
   rw[u];clear u j;refine wR 7 λK t=>?_;go_simp;refine(HR.o _ (aj sU.o aS)).mono ?_;rintro e y ⟨g,lb,⟨ng,dK,gK⟩,rfl,aa,C,k⟩;simp only[ae.val];refine oT t aS aa λj=>?_;clear t K;have B:M (H w4)<=M (H w4):=(Qs _);have D:=IA.of (aa.block _ IA.lt);have ax:=jT (P:=V) (w0:=w0) (w:=w4) (y:=y) (R:=M (H w4)) (g:=g) (lb:=lb) (c:=⟨ng,dK,gK⟩) (X:=XR) j B D C (λW h0 hW=>k W h0 (Kept.mono hW λb _ h=>⟨by have h':=h;omega,by have h':=h;omega⟩));obtain⟨kE,gE,m⟩:=ax;obtain⟨z0,z1⟩:=D.k2;have y0:=D.frozen 0;have y1:=D.frozen 1;have aW:=λ(a:Addr) (c:Array KX) (w:U)=>run_store V w a (.func (.func g) #[] c) .plain rfl;obtain⟨zL,xC⟩:=aV m gE;clear m gE D k C;refine wR 9 λK t=>?_;go_simp;refine t.o _ _ zL.o.1 (λj=>?_);clear t K;refine wD ?_;try simp only[pU]
   go_wp2_with fail;go_meet;exact⟨M (H w4),g,lb,⟨ng,dK,gK⟩,rfl,B,xC.o,zL.o⟩
 case rest=>
 obtain⟨br,g',cz,cw,rfl,cK,cO,aA,bn,xy⟩:=hcut;obtain⟨w5,O7⟩:∃x,x=wc:=⟨_,rfl⟩;subst O7;have hcl:=(Kq.o w4 sU.o (Zx _ _)).2;obtain⟨bG,bH⟩:=aV (ah.keep hcl aA.size λb hb dF=>aA.block b hb) (xy w5 (aj sU.o aA) (Zx _ _)).2;obtain⟨w6,Pf,vZ,bI⟩:=aX w5 #[Z JY (N D9) JZ,cw.val] 23;have e6:=aj aA vZ;have bO:fF w6 (O (aD (M (H w5)) 0)) [⟨JY,JZ,D9⟩,cw]:=⟨by simp,λi hi=>⟨M (H w5),0,rfl,by
   match i,hi with
   |0,_=>exact bI.cell 0
   |1,_=>exact bI.cell 1⟩,λi hi=>by
   match i,hi with
   |0,_=>exact Qt vZ bG.o.1
   |1,_=>exact Qt vZ bH.o.1⟩
 have bC:Calls V 120 #[Z (O (aD (M (H w5)) 0)) 2 2] w6 _:=AX (O (aD (M (H w5)) 0)) 2 [⟨JY,JZ,D9⟩,cw] w6 bO (by simp) (λi hi=>by
   match i,hi with
   |0,_=>exact bG.o.2.2
   |1,_=>exact bH.o.2.2) (by have h1:=PW.o.wide;have h2:=bX.o.wide;rw[<-Dg.o]at h1;rw[<-bn]at h2;simp[fU];omega)
 have bQ:fU [⟨JY,JZ,D9⟩,cw]=XL.2++XR.2:=by rw[<-Dg.o,<-bn];simp[fU]
 rw[bQ]at bC;obtain⟨ed,ek,jS,sN,nV⟩:=J5 bn xy aA vZ cK;obtain⟨cZ,df⟩:=gy e6 f0 f1;have dH:=cB aA f1;obtain⟨q0,q1⟩:=cO.k2;obtain⟨dh,di⟩:=gy vZ q0 q1;obtain⟨dm,dn,dz⟩:=cw;simp only[ae.val]at*;obtain⟨HG,Mh,eB⟩:=fe (X4 nN (X4 oL oM)) (X4 dM (X4 dX (X4 dQ (X4 dR (X4 eu (X4 eU (X4 eH (X4 gq (X4 gm (X4 gp (X4 bY (X4 dw bZ)))))))))))) (X4 jr (X4 jO (X4 jP (X4 kM (X4 jQ (X4 mf mh))))));clear xy bn aA cK cO vZ bI bO hcl bQ f0 f1 aG aH aI aJ aL aM aN dM dX dQ dR eu eU eH gq gm gp bY dw bZ nN oL oM jr jO jP kM jQ mf mh;go_wp2_with fail;refine bC.mono ?_;rintro e w7 ⟨v,rfl,dA,nW⟩;obtain⟨iv,rfl,dB,dD,dE⟩:=oC dA (by have h1:=PW.o.wide;have h2:=bX.o.wide;simp;omega);have ay:=aj (aj jS.o sN.o) nW;have aF:=aj wQ.o ay;have hJ:=bM.o w7.drew g g' lb cz ⟨JY,JZ,D9⟩ ⟨dm,dn,dz⟩ (aj az.o (aF.drew)) Dg.o ed.o (Qt ((aj sN.o nW).drew) bG.o.1) (Qt ((aj sN.o nW).drew) bH.o.1);simp only[ae.val]at hJ;obtain⟨dM,dX,dQ,dR,eu,eU,eH,gq,gm,gp,bY,dw,bZ⟩:=Mh.o;obtain⟨nN,oL,oM⟩:=HG.o;obtain⟨jr,jO,jP,kM,jQ,mf,mh⟩:=eB.o;obtain⟨u0,u1,u2,u3⟩:=aej nW cZ df dh di;obtain⟨dM,dX,dQ,dR,eu,eU,eH,gq⟩:=qf ay dM dX dQ dR eu eU eH gq;obtain⟨gm,gp,bY,dw,bZ,nN,oL,oM⟩:=qf ay gm gp bY dw bZ nN oL oM;have jr:=cB ay jr;obtain⟨jO,jP,kM,jQ,mf,mh⟩:=Dh ay jO jP kM jQ mf mh;obtain⟨Mo,bu,Uw,eD,Df,eF⟩:=Dm (show bl≠M (H w2)/\br≠M (H w2) by have:=Od.o;have:=nV.o;have:=wQ.o.size;have:=Q.o.2.2.2;omega) dB dD dE ay nW;clear dB dD dE dA nW ay cZ df dH q0 q1 dh di bC;go_upto_region 12 with fail;refine QW (S:=λx=>Kept (λb=>b≠M (H w2)) w7 x) (by kernel_rfl) (ZA ((Qr _ _).drew) λ_ h _=>h) (λj=>?_);refine wT 0 (FN #[v0,v1,v2,v3,v4,v5,v6,v7,v8,v9,ak,au,av,Z (O (aD nb no)) (N pl) pc,Z pa (N ps) pac,vd]) j (λx A=>?_) ?_
 .have e0:=anb A Q.o.2.1 dM dX dQ dR eu eU eH gq gm gp bY dw bZ;have e1:=ZY nN A Q.o.2.1;have e2:=ZY oL A Q.o.2.1;have e3:=ZY oM A Q.o.2.1;go_simp
 refine wT 1 (FN #[v0,v1,v2,v3,v4,v5,v6,v7,v8,v9,ak,au,av,Z (O (aD nb no)) (N pl) pc,Z pa (N ps) pac,vd]) j (λx A=>?_) ?_
 .have e0:=anb A Q.o.2.1 dM dX dQ dR eu eU eH gq gm gp bY dw bZ;have e1:=ZY nN A Q.o.2.1;have e2:=ZY oL A Q.o.2.1;have e3:=ZY oM A Q.o.2.1;go_simp
 refine wT 2 (FN #[I J nk,I J (li:Int),I J (ri:Int),I J ns,Z Iy (N qR) Iz,I J key,Z D7 (N rO) D8]) j (λx A=>?_) ?_
 .have e0:=ZY jr A Q.o.2.2.1;have e1:=ZY jO A Q.o.2.2.1;have e2:=ZY jP A Q.o.2.2.1;have e3:=ZY kM A Q.o.2.2.1;have e4:=ZY jQ A Q.o.2.2.1;have e5:=ZY mf A Q.o.2.2.1;have e6:=ZY mh A Q.o.2.2.1;go_simp
 refine wT 3 (FN #[.func (.func g) #[] lb,Z JY (N D9) JZ]) j (λx A=>?_) ?_
 .have e0:=ZY u0 A Mo.o.1;have e1:=ZY u1 A Mo.o.1;go_simp
 refine wT 4 (FN #[.func (.func g') #[] cz,Z dm (N dz) dn]) j (λx A=>?_) ?_
 .have e0:=ZY u2 A Mo.o.2;have e1:=ZY u3 A Mo.o.2;go_simp
 obtain⟨aB,aC,G⟩:=iv;simp only[ae.val]at*;refine wt 6 (Z aB (N G) aC) j ?_;refine wt 8 (Y (O (aD (M (H w1)) 4))) j ?_;refine wtk 9 (Z Iy (N qR) Iz) j jQ Q.o.2.2.1 ?_;refine wR 5 λK t=>?_;go_simp;refine hJ.mono ?_;rintro e w8 ⟨v,rfl,zu,eG⟩;refine oK t j zu λj=>?_;clear t K hJ;have L:Bw w7 w8:=(Qr _ _).drew.trans zu;have bR:∀W,Bw w0 W->Nw w3 w8 W->eT ah V v (su nk (XL.2.idxOf K1) (XR.2.idxOf K2) XL.1 XR.1) W:=λW h0 hN=>by have hz:=wQ.o.size;have dI:=Df.o.size;have bS:=hN.back L;exact eG W (hN.more (Q6 hz (Q6 dI (by simp)))) (Kq.o W h0 (bS.back Df.o)).1 (ek.o W h0 ((bS.back (aj sN.o eF.o)).more hz)).1
 obtain⟨g2,aQ,rfl⟩:∃g2 aQ,v=.func (.func g2) #[] aQ:=by obtain⟨g2,aQ,h,_⟩:=bR w8 (aj az.o (aj aF L)) (Zx _ _);exact⟨g2,aQ,h⟩
 refine wt 7 (FN #[.func (.func g2) #[] aQ,Z aB (N G) aC]) j ?_;have bD:=Sd #[v0,v1,v2,v3,v4,v5,v6,v7,v8,v9,ak,au,av,Z (O (aD nb no)) (N pl) pc,Z pa (N ps) pac,vd] q.dx q.aP q.wh Bh.o g2 aQ ⟨aB,aC,G⟩ ⟨Iy,Iz,qR⟩ (su nk (XL.2.idxOf K1) (XR.2.idxOf K2) XL.1 XR.1) Nq w8 (HF.o.below (aj az.o (aj aF L))).query.wh (Qt L Uw.o.1) (Qt (aj az.o (aj aF L)) sO.o) bg.o.few bg.o.num (λi hi x A=>by show x∈G;rw[bu.o];exact bg.o.iC i hi x A) H3.o dU.o (λr hr=>by show N r=N G;rw[bu.o];exact bg.o.lens r hr);simp only[ae.val]at bD;refine wR 10 λK t=>?_;go_simp;refine bD.mono ?_;rintro e w9 ⟨g3,bK,rfl,VA,eO⟩;refine oK t j VA λj=>?_;clear t K bD;have SQ:ae.xs ⟨aB,aC,G⟩=X.2:=by rw[HX.o];exact bu.o
 have Gf:=aj (aj aF L) VA;have xy:∀W,Bw w0 W->Kept (λb=>M (H w)<=b/\b≠M (H w2)) w9 W->eT ah V (.func (.func g3) #[] bK) X.1 W/\ah.At ⟨aB,aC,G⟩ W:=λW h0 hW=>by
  have hz:=Q.o;have hN:=hW.agp hz.1 hz.2.2.2;have dJ:=(aj aF L).size;refine⟨?_,ah.keep Uw.o ((hN.back VA).back L).size λb hb dF=>((hN.back VA).back L).block b hb ?_⟩
  .have h:=eO W (hN.more dJ) (bR W h0 (hN.back VA));rw[HX.o];rw[show jo q.wh (XL.2++XR.2) qR=jo q.wh G qR by rw[bu.o]];exact h
  .have h1:=eD.o b dF;have h2:=wQ.o.size;have h3:=jS.o.size;have h4:=sN.o.size;omega
 have g5:=Ig.o.of (Gf.block _ Ig.o.lt);obtain⟨kE,gE,m⟩:=jT (P:=V) (w0:=w0) (w:=w) (y:=w9) (g:=g3) (lb:=bK) (c:=⟨aB,aC,G⟩) (X:=X) (aj Oe.o Gf) Q.o.1 g5 SQ xy;obtain⟨zL,mG⟩:=aV m (yA gE);obtain⟨z0,z1⟩:=g5.k2;have y0:=g5.frozen 0;have y1:=g5.frozen 1;have aW:=λ(a:Addr) (c:Array KX) (w:U)=>run_store V w a (.func (.func g3) #[] c) .plain rfl;clear m gE g5 SQ xy Gf;refine wR 11 λK t=>?_;go_simp;refine t.o _ _ (j.trans kE) (λj=>?_);clear t K;refine wD ?_;try simp only[pU]
 go_wp2_with fail;exact X0 (nK (p:=4) rfl rfl mG.o) rfl ⟨g3,bK,⟨aB,aC,G⟩,rfl,zL.o⟩
structure Oh(f:bq)(ts:List ag)(q:af)(po:Option Addr)(pl:List ai)(pa:Option Addr)(ps:List aK)(d:Option Addr)(db:List aJ)(w:U):Prop where
 ok:Ok ts q
 five:N q.src.xs<=5
 three:∀i,i<N q.wh->(E q.wh i lz).cs.length<=3
 conds:∀i,i<N q.wh->∀d∈(E q.wh i lz).cs,dC d (ak ts q.src.xs)=T
 facts:f.At ts q w
 nodes:bT w po pl
 parts:bP w pa ps
 ang:N ps=N pl
 known:EJ ts q pl (ps.map aK.d)
 data:Ch w d db
 axM:N db=N ts
 We:xH ts db=T
 many:fH q.src.xs db<=20000
theorem Oh.aZ{f:bq}{ts:List ag}{q:af}{po:Option Addr}{pl:List ai}{pa:Option Addr}{ps:List aK}{d:Option Addr}{db:List aJ}{w:U}(h:Oh f ts q po pl pa ps d db w){i:Nat}{v:bH}(hi:i<N pl)(hv:bO ts q pl i=O v):(E ps i bz).sources=aZ v.sources/\bM (N q.src.xs) v.sources:=by
 have a:i<N ps:=by rw[h.ang];exact hi
 obtain⟨u,g,b,_⟩:=h.known i (by rw[Q8];exact a);rw[hv]at g;cases g;have e:E (ps.map aK.d) i pz=(E ps i bz).d:=by simp[List.getD,a]
 rw[e]at b;exact⟨b.sources,b.fo⟩
theorem Cv{f:bq}{ts:List ag}{q:af}{po:Option Addr}{pc:Nat}{pl:List ai}{pa:Option Addr}{pac:Nat}{ps:List aK}{d:Option Addr}{dc:Nat}{db:List aJ}{w0:U}(Hq:Oh f ts q po pl pa ps d db w0):∀(Fq i:Nat) (v:bH),i<Fq->i<N pl->bO ts q pl i=O v->v.out=false->∀w,Bw w0 w->
  Calls V 60 #[FN (jH f ts q (Z po (N pl) pc) (Z pa (N ps) pac) (Z d (N db) dc)),FN (E pl i nz).cells] w (qA V w0 (bU ts q pl db Fq i) w)
 |0,_,_,h,_,_,_=>by omega
 |Fq+1,i,v,hi,hil,hv,hout=>λw hw=>by
  have ok:=Hq.ok;obtain⟨-,-,-,-,-,-,-,-,-,-,X,aa⟩:=Hq.nodes.2 i hil;rcases lq ts q pl hv with⟨P,h0,hs,es,eo,_⟩|⟨k2,k10,k3,k4,k5,hl0,Uy,l,hl,hn⟩|⟨k3,k5,hl0,Uy,A,hri,l,r,hl,hr,hn⟩
  .obtain⟨s,aj⟩:∃s:Nat,(E pl i nz).source=(s:Int):=⟨_,(Zg h0).symm⟩
   have D:s<N q.src.xs:=by omega
   have z:=Qo ok.src (k:=s) D;have e:E q.src.xs s 0=q.src.xs[s]:=by simp[List.getD,D]
   obtain⟨t,ak⟩:∃t:Nat,E q.src.xs s 0=(t:Int):=⟨q.src.xs[s].toNat,by omega⟩;have ef:bU ts q pl db (Fq+1) i=(vQ db (t:Int),iE ts q.src.xs (s:Int)):=by unfold bU;grind
   rw[ef];exact acx f ts q _ _ d dc db (E pl i nz) s t w0 w hw Hq.facts Hq.data P aj D ak (by rw[Hq.axM];omega)
  .obtain⟨_,ho,_,g,m,es,eo,rC,_⟩:=Jg ts q hn;rw[Sw]at g;rw[hout]at rC;have h6:¬7<=(E pl i nz).kind:=λh=>by grind
   have u:l.out=false:=by
    cases e:l.out with
    |false=>rfl
    |true=>have:=ho.1 e;omega
   have Q:=kF ok pl Hq.We Fq (E pl i nz).l.toNat l (by omega) hl u;have hL:=λx p=>Cv (pc:=pc) (pac:=pac) (dc:=dc) Hq Fq (E pl i nz).l.toNat l (by omega) (by omega) hl u x p;have A:=Q.aad ok Hq.five Hq.many;refine acA f ts q ok po pc pl pa pac ps _ (E pl i nz) (E pl i nz).l.toNat w0 w _ hw Hq.facts Hq.nodes Hq.parts Hq.ang X aa (by omega) (by omega) Hq.three Hq.conds _ _ hL (λP=>⟨?_,?_⟩) (λP=>?_) (by omega)
   .conv=>lhs;unfold bU
    rw[QC (by omega),Qu P]
   .have y:=lu ok g;exact⟨Q6 (IB g) ok.qX,λj G=>(y j G).1,λj G x p=>(Q.cols x).2 ((y j G).2 x p),Q.lens⟩
   .unfold kP at m;rw[QC (by omega),QC (by omega),Qu P]at m;simp only[Qm,Qn,Qz]at m;obtain⟨⟨C,au⟩,av⟩:=m;have hW:=zB ok;have ah:∀c∈(E pl i nz).co.xs,c∈(bU ts q pl db Fq (E pl i nz).l.toNat).2:=λc hc=>(Q.cols c).2 (by
     unfold aM at C;grind)
    have hp:cZ (E pl i nz)=true:=by
     cases e:cZ (E pl i nz) with
     |true=>rfl
     |false=>rw[zf ts q pl i rfl e]at hv;cases hv
    unfold cZ at hp;rw[Qz]at hp;refine⟨?_,ah,by have:=hp.2.2.2.2.2.1 P;omega,?_,A.1,A.2.1,Q.lens,A.2.2⟩
    .conv=>lhs;unfold bU
     grind
    .exact agw ok Hq.five C au
  .obtain⟨ae,ho,ax,g,m,es,eo,rC,_⟩:=Jg ts q hn;have u:l.out=false:=by grind
   have K:=kF ok pl Hq.We Fq (E pl i nz).l.toNat l (by omega) hl u;have L:=kF ok pl Hq.We Fq (E pl i nz).r.toNat r (by omega) hr ae;have hL:=λx p=>Cv (pc:=pc) (pac:=pac) (dc:=dc) Hq Fq (E pl i nz).l.toNat l (by omega) (by omega) hl u x p;have hR:=λx p=>Cv (pc:=pc) (pac:=pac) (dc:=dc) Hq Fq (E pl i nz).r.toNat r (by omega) (by omega) hr ae x p;have l0:=K.aad ok Hq.five Hq.many;have r0:=L.aad ok Hq.five Hq.many;have B:=SS (plan:=pl) (n:=E pl i nz) ok hl hr k3 k5 m K L;have y:=lu ok g;have R:=Hq.aZ (show (E pl i nz).l.toNat<N pl by omega) hl;have S:=Hq.aZ (show (E pl i nz).r.toNat<N pl by omega) hr;refine acB f ts q ok po pc pl pa pac ps _ (E pl i nz) (E pl i nz).l.toNat (E pl i nz).r.toNat w0 w _ hw Hq.facts Hq.nodes Hq.parts Hq.ang X aa (by omega) (by omega) (by omega) (by omega) Hq.three Hq.conds _ _ hL _ hR k3 k5 (keyOf ts q pl (E pl i nz)).1 (keyOf ts q pl (E pl i nz)).2.1 (λh3=>?_) ⟨l0.1,l0.2.1,K.lens,l0.2.2⟩ ⟨r0.1,r0.2.1,L.lens,r0.2.2⟩ ?_ ⟨Q6 (IB g) ok.qX,λj G=>(y j G).1,λj G x p=>?_,λx p=>?_⟩
   .obtain⟨c1,c2,c3,c4⟩:=agv ok (show (E pl i nz).kind=4∨(E pl i nz).kind=5 by omega) m g K L;have ek:keyOf ts q pl (E pl i nz)=eG ts q.src.xs (E q.wh (E pl i nz).key.toNat lz).cs l.sources r.sources:=by unfold keyOf;rw[hl,hr];rfl
    have z:=PI ok (E pl i nz) R.2 S.2 g;have W:=z.2 (by rw[z.1,QD c1,c2];rfl);rw[R.1,S.1,W,ek];exact⟨_,rfl,c3,c4⟩
   .conv=>lhs;unfold bU
    rw[QC (by omega),QC (by omega),QC (by omega)];unfold su;unfold bI at B;rw[B]
   .have z:=(y j G).2 x p;rcases nH.1 z.2.2 with W|W
    .exact Ji _ ((K.cols x).2 ⟨z.1,z.2.1,W⟩)
    .exact List.mem_append_right _ ((L.cols x).2 ⟨z.1,z.2.1,W⟩)
   .unfold su at p;unfold bI at B;rw[B]at p;obtain⟨a,ha,b,hb,rfl⟩:=SV p;rw[QI,QI,K.lens a ha,L.lens b hb]
theorem agC(f:bq)(ts:List ag)(q:af)(po:Option Addr)(pc:Nat)(pl:List ai)(pa:Option Addr)(pac:Nat)(ps:List aK)(vd:KX)(n:ai)(li:Nat)(w0 w:U)(hw:Bw w0 w)(hf:f.At ts q w0)(hn:bT w0 po pl)(el:n.l=li)(hll:li<N pl)(XL:List (List Int) × List Int)(X Yq:List (List Int))
  (hl:n.kind≠10->∀x,Bw w0 x->Calls V 60 #[FN (jH f ts q (Z po (N pl) pc) (Z pa (N ps) pac) vd),FN (E pl li nz).cells] x (qA V w0 XL x))
  (h0:n.kind=10->∀x,Bw w0 x->Calls V 34 #[FN (jH f ts q (Z po (N pl) pc) (Z pa (N ps) pac) vd),FN (E pl li nz).cells] x λe w'=>∃v,e=FR v/\yJ V 3 v Yq w'/\Bw x w')
  (c0:n.kind=10->X=fI q.ord.xs Yq/\0<N q.ord.xs/\N Yq<=1000000/\∀r∈Yq,aM q.ord.xs (N r)=T)
  (c8:n.kind=8->l7 (aO XL.2 q.keys.xs) (aO XL.2 q.sums.xs) XL.1=fq (aO XL.2 q.keys.xs) (aO XL.2 q.sums.xs) XL.1)
  (c7:n.kind=7∨n.kind=8->X=(fq (aO XL.2 q.keys.xs) (aO XL.2 q.sums.xs) XL.1).map Gr.row/\(∀x∈q.keys.xs,x∈XL.2)/\(∀x∈q.sums.xs,x∈XL.2)/\N q.keys.xs<=4/\N q.sums.xs<=4)
  (c9:n.kind=9->X=(XL.1.map λr=>aB r (aO XL.2 q.aH.xs))/\(∀x∈q.aH.xs,x∈XL.2)/\N q.aH.xs<=8)
  (hR0:n.kind≠10->Mt XL.2 XL.1) (hk:7<=n.kind/\n.kind<=10) :
  Calls V 34 #[FN (jH f ts q (Z po (N pl) pc) (Z pa (N ps) pac) vd),FN n.cells] w λe w'=>∃v,e=FR v/\yJ V 3 v X w'/\Bw w w':=by
 obtain⟨⟨ak,au,av⟩,dx,aP,wh,u,⟨ka,kc,m⟩,⟨ua,uc,p⟩,⟨ea,ec,aH⟩,⟨da,dc,S⟩⟩:=q;obtain⟨v0,v1,v2,v3,v4,v5,v6,v7,v8,v9,bz,bA,bB,dY,bC,bD,bE,bF,bG,bH,bI,-⟩:=Jf f ts ⟨⟨ak,au,av⟩,dx,aP,wh,u,⟨ka,kc,m⟩,⟨ua,uc,p⟩,⟨ea,ec,aH⟩,⟨da,dc,S⟩⟩;simp only[ae.val]at bC bD bE bF bG bH bI;subst bC bD bE bF bG bH bI;obtain⟨nb,no,cO,Sy,Sz,SC,SE,SF,SG,SH,-,-⟩:=hn.2 li hll;subst cO;have uE:jH f ts ⟨⟨ak,au,av⟩,dx,aP,wh,u,⟨ka,kc,m⟩,⟨ua,uc,p⟩,⟨ea,ec,aH⟩,⟨da,dc,S⟩⟩ (Z (O (aD nb no)) (N pl) pc) (Z pa (N ps) pac) vd=#[Z ak (N av) au,Z dx (N wh) aP,.bool u,Z ka (N m) kc,Z ua (N p) uc,Z ea (N aH) ec,Z da (N S) dc,v7,v8,v9,bz,bA,bB,Z (O (aD nb no)) (N pl) pc,Z pa (N ps) pac,vd]:=by unfold jH;rw[dY];rfl
 have nT:n.cells=#[I J n.kind,I J n.l,I J n.r,I J n.source,n.cl.val,I J n.key,n.co.val]:=rfl;have V9:(E pl li nz).cells=#[I J (E pl li nz).kind,I J (E pl li nz).l,I J (E pl li nz).r,I J (E pl li nz).source,(E pl li nz).cl.val,I J (E pl li nz).key,(E pl li nz).co.val]:=rfl;rw[uE,V9]at hl h0;rw[uE,nT,el];obtain⟨w1,bK,bL,ax⟩:=aX w #[Z ak (N av) au,Z dx (N wh) aP,.bool u,Z ka (N m) kc,Z ua (N p) uc,Z ea (N aH) ec,Z da (N S) dc,v7,v8,v9,bz,bA,bB,Z (O (aD nb no)) (N pl) pc,Z pa (N ps) pac,vd] 98;obtain⟨w2,bM,aU,aW⟩:=aX w1 #[I J n.kind,I J (li:Int),I J n.r,I J n.source,n.cl.val,I J n.key,n.co.val] 50;obtain⟨C,bN,aY,bO⟩:=aX w2 #[Z ak (N av) au,Z dx (N wh) aP,.bool u,Z ka (N m) kc,Z ua (N p) uc,Z ea (N aH) ec,Z da (N S) dc] 26;obtain⟨b0,b1,b2,b3,b4,b5,b6⟩:=(ax.of (aU.block _ ax.lt)).k7;have aN:=aj aU aY;have aQ:=aj bL aN;have aG:=aj hw aQ;have fG:=ax.of (aN.block _ ax.lt);have jA:=aW.of (aY.block _ aW.lt);obtain⟨dM,dX,dQ,dR,eu,eU,eH,gq,gm,gp,bY,dw,bZ⟩:=fG.zR;have nN:=fG.at 13;have oL:=fG.at 14;have oM:=fG.at 15;obtain⟨jr,jO,jP,kM,jQ,mf,mh⟩:=jA.k7;obtain⟨-,-,-,bP,bQ,bR,cZ⟩:=bO.k7;obtain⟨Sy,Sz,SC,SE,SF⟩:=ji aG Sy Sz SC SE SF;obtain⟨SG,SH⟩:=gy aG SG SH;have dA:=hn.1;have dB:(li:Int)<(N pl:Int):=by omega
 obtain⟨ay,Oe,HQ,HC,aI,az,aJ⟩:=Dn aG aQ hf.query c0 c7 c8 c9;obtain⟨Nl,aZ,H0⟩:=fe hR0 hl h0;clear hl h0 bL aU aY ax aW bO fG jA aQ aN aG hn hf hw c0 c7 c8 c9 hR0 dY uE nT V9 el;obtain⟨nk,nl,nr,ns,df,key,dh⟩:=n;simp only at*;generalize (E pl li nz).kind=l0 at*;generalize (E pl li nz).l=l1 at*;generalize (E pl li nz).r=l2 at*;generalize (E pl li nz).source=l3 at*;generalize (E pl li nz).cl.val=l4 at*;generalize (E pl li nz).key=l5 at*;generalize (E pl li nz).co.val=l6 at*;generalize df.val=NCL at*;generalize dh.val=NCO at*;by_cases A:nk=10
 .have hC:=HC.o A;obtain⟨di,dm⟩:=aV (H0.o A) hC;clear hC HC H0 aZ aI az aJ Nl;subst A;go_enter Tryz.func34,Tryz.ntmps34;go_upto_region 3 with fail;clear bK bM bN b0 b1 b2 b3 b4 b5 b6;refine wH C λd=>?_
  refine wA6 0 d ?_;refine Fz 6 d ?_;refine wA2 8 d ?_;refine wR 7 λK i=>?_;go_simp;refine(di.o _ (aj ay.o d)).mono ?_;rintro e w4 ⟨v,rfl,hv,aa⟩;refine oT i d aa λd=>?_;clear i K;obtain⟨eX,h1,h2,h3⟩:=dm.o;have aR:=Wi v ⟨da,dc,S⟩ Yq w4 hv (Qt (aj ay.o d) HQ.o.ord) h1 h2 h3;simp only[ae.val]at aR;refine wR 10 λK i=>?_;go_simp;refine aR.mono ?_;rintro e w5 ⟨v',rfl,D,aA⟩;refine oT i d aA λd=>?_;clear i K;obtain⟨HV,HS,HX⟩:=fe D d eX;clear aR hv D h2 h3 eX;refine Fz 11 d ?_;refine wD ?_;try simp only[pU]
  go_wp2_with fail;go_ret;exact⟨v',rfl,by rw[HX.o];exact HV.o,aj Oe.o HS.o⟩
 obtain⟨HL,HR⟩:=aV (aZ.o A) (Nl.o A);have dC:(nk==10)=false:=by simpa using A
 clear aZ H0 HC Nl;go_enter Tryz.func34,Tryz.ntmps34;go_upto_region 4 with fail;go_cut [6] from 24 to 31 (λc wx=>∃(bl g:Nat) (lb:Array KX) (cv:ae),c=Y (O (aD bl 0))/\M (H C)<=bl/\GB wx bl 129 #[.func (.func g) #[] lb,cv.val]/\D5 V w0 XL C g lb cv wx)
 case first=>
  refine wH C λd=>?_;refine wA6 0 d ?_;refine Fz 6 d ?_;refine wJ 7 8 (λK i=>?_) λK i=>?_
  .skip;go_simp;refine(HL.o _ (aj ay.o d)).mono ?_;rintro e y ⟨g,lb,⟨ng,dK,gK⟩,rfl,aL,G,t⟩;simp only[ae.val];refine oT i d aL λd=>?_
   clear i K;refine wR 8 λK i=>?_;go_simp;refine oA i d λbX=>?_;clear i K;obtain⟨y2,B⟩:∃z,y.alloc (FL #[Value.nilFunc,Z E5 0 0] 129)=z:=⟨_,rfl⟩;have bf:=bJ y (FL #[Value.nilFunc,Z E5 0 0] 129);have IA:=GB.alloc y #[Value.nilFunc,Z E5 0 0] 129;rw[B]at bf IA bX;rw[B];clear B;have Q:M (H C)<=M (H y):=d.size;have gn:GB y2 (M (H y)) 129 #[Value.nilFunc,Z E5 0 0]:=IA;have aS:=jT (P:=V) (w0:=w0) (w:=C) (y:=y2) (R:=M (H y)) (g:=g) (lb:=lb) (c:=⟨ng,dK,gK⟩) (X:=XL) bX Q gn G (λW h0 hW=>t W h0 (Zy (ZA bf λ_ h _=>h) hW λb hb hs=>⟨hs,by show b≠_;omega⟩));obtain⟨kE,gE,L⟩:=aS;obtain⟨z0,z1⟩:=gn.k2;have y0:=gn.frozen 0;have y1:=gn.frozen 1;have cz:=λ(a:Addr) (c:Array KX) (w:U)=>run_store V w a (.func (.func g) #[] c) .plain rfl;obtain⟨zL,xC⟩:=aV L gE;clear L gE gn t G;refine wR 9 λK i=>?_;go_simp;refine i.o _ _ zL.o.1 (λd=>?_);clear i K;refine wD ?_;try simp only[pU]
   go_wp2_with fail;go_meet;exact⟨M (H y),g,lb,⟨ng,dK,gK⟩,rfl,Q,xC.o,zL.o⟩
  .skip;go_simp;refine oA i d λd=>?_
   clear i K;obtain⟨y2,B⟩:∃z,C.drew.alloc (FL #[Value.nilFunc,Z E5 0 0] 129)=z:=⟨_,rfl⟩;have dD:M (H y2)=M (H C)+1:=by rw[<-B];simp
   have IA:GB y2 (M (H C)) 129 #[Value.nilFunc,Z E5 0 0]:=by rw[<-B];exact GB.alloc C.drew _ _
   have bg:Bw C y2:=by rw[<-B];exact d
   rw[B];clear B d;refine wR 7 λK i=>?_;go_simp;refine(HL.o _ (aj ay.o bg)).mono ?_;rintro e y ⟨g,lb,⟨ng,dK,gK⟩,rfl,aL,G,t⟩;simp only[ae.val];refine oT i bg aL λd=>?_;clear i K;have Q:M (H C)<=M (H C):=(Qs _);have gn:GB y (M (H C)) 129 #[Value.nilFunc,Z E5 0 0]:=IA.of (aL.block _ IA.lt);have aS:=jT (P:=V) (w0:=w0) (w:=C) (y:=y) (R:=M (H C)) (g:=g) (lb:=lb) (c:=⟨ng,dK,gK⟩) (X:=XL) d Q gn G (λW h0 hW=>t W h0 (Kept.mono hW λb _ h=>⟨by omega,by have h':M (H y2)<=b:=h;omega⟩));obtain⟨kE,gE,L⟩:=aS;obtain⟨z0,z1⟩:=gn.k2;have y0:=gn.frozen 0;have y1:=gn.frozen 1;have cz:=λ(a:Addr) (c:Array KX) (w:U)=>run_store V w a (.func (.func g) #[] c) .plain rfl;obtain⟨zL,xC⟩:=aV L gE;clear L gE gn t G;refine wR 9 λK i=>?_;go_simp;refine i.o _ _ zL.o.1 (λd=>?_);clear i K;refine wD ?_;try simp only[pU]
   go_wp2_with fail;go_meet;exact⟨M (H C),g,lb,⟨ng,dK,gK⟩,rfl,Q,xC.o,zL.o⟩
 case rest=>
 obtain⟨bl,g,lb,cv,rfl,Q,bS,aa,G,t⟩:=hcut;obtain⟨w4,dn⟩:∃x,x=wc:=⟨_,rfl⟩;subst dn;obtain⟨k3,k4,k5,k0⟩:=aej aa bP bQ bR jr;clear bK bM bN b0 b1 b2 b3 b4 b5 b6 Sy Sz SC SE SF SG SH dM dX dQ dR eu eU eH gq gm gp bY dw bZ nN oL oM jr jO jP kM jQ mf mh bP bQ bR cZ;obtain⟨f0,f1⟩:=bS.k2;obtain⟨sU,bU⟩:=aV (aj ay.o aa) (aj Oe.o aa);obtain⟨Kq,Dg⟩:=aV (t w4 sU.o (Zx _ _)) G;obtain⟨JY,JZ,D9⟩:=cv;simp only[ae.val]at*;have hR:=HR.o;have Bt:=Zh λ(x:U) (cs:ae) (hx:Bw w4 x) (hc:cs.At x) (cu:∀y∈cs.xs,y∈XL.2) (hl:N cs.xs<=1000)=>EW (.func (.func g) #[] lb) ⟨JY,JZ,D9⟩ cs x ⟨g,lb,rfl⟩ (Qt hx Kq.o.2.1) hc (λy hy=>by grind) hl;have F8:=Zh λ(cs:List Int) (cu:∀y∈cs,y∈XL.2) (r:List Int) (hr:r∈XL.1)=>show aM (aO D9 cs) (N r)=T by rw[Dg.o,HR.o.lens r hr];exact Iw rfl cu
 simp only[ae.val]at Bt;clear t G aa Q bS hR;by_cases h9:nk=9
 .have H9:=Zh (aJ.o h9);clear aI az aJ;subst h9;go_upto_region 10 with fail;refine wH w4 λd=>?_
  refine wA5 0 d ?_;obtain⟨eX,h1,h2⟩:=H9.o;have ah:=Bt.o w4.drew ⟨ea,ec,aH⟩ d (Qt (aj sU.o d) HQ.o.aH) h1 (by show N aH<=1000;omega);refine wR 5 λK i=>?_;go_simp;refine ah.mono ?_;rintro e w5 ⟨⟨ia,ic,ix⟩,rfl,j,aC,aA,-⟩;simp only[ae.val];refine oT i d aA λd=>?_;clear i K ah;simp only at j;have hg:=Kr (.func (.func g) #[] lb) ⟨ia,ic,ix⟩ XL.1 w5 (eT.later Kq.o.1 d) aC.1 (by show N ix<=1000;rw[j];simp[aO];omega) (λr hr=>by show aM ix _=T;rw[j];exact F8.o aH h1 r hr);simp only[ae.val]at hg;have aT:=Zh j;clear j;refine wR 6 λK i=>?_;go_simp;refine hg.mono ?_;rintro e w7 ⟨v',rfl,D,nW⟩;refine oT i d nW λd=>?_;clear i K hg;obtain⟨HV,HS,HX⟩:=fe D d eX;clear D eX aC;refine Fz 7 d ?_;refine wD ?_;try simp only[pU]
  go_wp2_with fail;go_ret;refine⟨v',rfl,?_,aj bU.o HS.o⟩;have h:=HV.o;rw[aT.o,Dg.o]at h;rw[HX.o];exact h
 have bn:nk=7∨nk=8:=by omega
 have H7:=Zh (aI.o bn);clear aI aJ hk;rcases bn with rfl|rfl
 case' inl=>
  have HM:=Zh λ(k s:ae) (x:U) (hx:Bw w4 x)=>SX (.func (.func g) #[] lb) k s XL.1 x (eT.later Kq.o.1 hx);have HE:=Zh (Eq.refl (fq (aO XL.2 m) (aO XL.2 p) XL.1));clear az;go_upto_region 7 with fail
 case' inr=>
  have HM:=Zh λ(k s:ae) (x:U) (hx:Bw w4 x)=>Oj (.func (.func g) #[] lb) k s XL.1 x (eT.later Kq.o.1 hx);have HE:=Zh (az.o rfl);clear az;go_upto_region 9 with fail
 all_goals
  refine wH w4 λd=>?_;refine wA5 0 d ?_;refine wA3 6 d ?_;obtain⟨eX,h1,h2,h3,h4⟩:=H7.o;have ah:=Bt.o w4.drew ⟨ka,kc,m⟩ d (Qt (aj sU.o d) HQ.o.keys) h1 (by show N m<=1000;omega);refine wR 5 λK i=>?_;go_simp;refine ah.mono ?_;rintro e w5 ⟨⟨ia,ic,ix⟩,rfl,j,aC,aA,-⟩;simp only[ae.val];refine oT i d aA λd=>?_;clear i K ah;have cK:=Zh j;clear j;have bu:=Bt.o w5 ⟨ua,uc,p⟩ d (Qt (aj sU.o d) HQ.o.sums) h2 (by show N p<=1000;omega);refine wR 9 λK i=>?_;go_simp;refine bu.mono ?_;rintro e w6 ⟨⟨ja,jc,jx⟩,rfl,aF,bV,bW,-⟩;simp only[ae.val];refine oT i d bW λd=>?_;clear i K bu;have j:=cK.o;simp only at j aF;have hg:=HM.o ⟨ia,ic,ix⟩ ⟨ja,jc,jx⟩ w6 d (Qt bW aC.1) bV.1 (by show N ix<=4;rw[j];simpa [aO] using h3) (by show N jx<=4;rw[aF];simpa [aO] using h4) HR.o.few (λr hr=>by show aM ix _=T;rw[j];exact F8.o m h1 r hr) (λr hr=>by show aM jx _=T;rw[aF];exact F8.o p h2 r hr) HR.o.small;simp only[ae.val]at hg;obtain⟨aT,dz⟩:=aV j aF;clear j aF;refine wR 10 λK i=>?_;go_simp;refine hg.mono ?_;rintro e w7 ⟨v',rfl,D,nW⟩;refine oT i d nW λd=>?_;clear i K hg;obtain⟨HV,HS,HX⟩:=fe D d eX;clear D eX aC bV;refine Fz 11 d ?_;refine wD ?_;try simp only[pU]
  go_wp2_with fail;go_ret;refine⟨v',rfl,?_,aj bU.o HS.o⟩;have h:=HV.o;rw[aT.o,dz.o,Dg.o]at h;rw[HX.o]
  first|exact h|(rw[<-HE.o];exact h)
