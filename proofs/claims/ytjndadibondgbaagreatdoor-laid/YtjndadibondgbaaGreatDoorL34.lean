import Derived.Test.YtjndadibondgbaaGreatDoorL33
set_option linter.all false
set_option maxRecDepth 100000
set_option maxHeartbeats 16000000
namespace Go.Proofs.Zz
open Go.RowKit Go.Shelf
theorem Y7(f:aS)(ts:List af)(q:ae)(ok:Ok ts q)(po:Option Addr)(pc:Nat)(pl:List ah)(pa:Option Addr)(pac:Nat)(ps:List aB)(vd:Value)(n:ah)(li ri:Nat)(w0 w:World)(N:Int)(hw:Bw w0 w)(hf:f.At ts q w0)(hn:fq w0 po pl)(hp:PartsAt w0 pa ps)(hps:ps.length=pl.length)(hcl:n.cl.At w0)(hco:n.co.At w0)(el:n.l=li)(hll:li<pl.length)(er:n.r=ri)(hrl:ri<pl.length)
  (h3:∀ i,i<q.wh.length->(q.wh.getD i lz).cs.length<=3) (hcond:∀ i,i<q.wh.length->∀ d∈(q.wh.getD i lz).cs,df d N=true) (XL X:List (List Int) × List Int)
  (hl:∀ x,Bw w0 x->Calls Tryz.prog 83 #[.agg (iM f ts q (.slice po pl.length pc) (.slice pa ps.length pac) vd),.agg (pl.getD li nz).cells] x (mK Tryz.prog w0 XL x))
  (XR:List (List Int) × List Int) (hr:∀ x,Bw w0 x->Calls Tryz.prog 83 #[.agg (iM f ts q (.slice po pl.length pc) (.slice pa ps.length pac) vd),.agg (pl.getD ri nz).cells] x (mK Tryz.prog w0 XR x))
  (hk3:3<=n.kind) (hk5:n.kind<=5) (K1 K2:Int) (hkey:n.kind≠3->∃ b,lH ts q n (ps.getD li aT).sources (ps.getD ri aT).sources=(K1,K2,b)/\K1∈XL.2/\K2∈XR.2) (hRL:JF XL.2 XL.1) (hRR:JF XR.2 XR.1)
  (hX:X=((oC n.kind (XL.2.idxOf K1) (XR.2.idxOf K2) XL.1 XR.1).filter (iC q.wh (XL.2++XR.2) n.cl.xs),XL.2++XR.2)) (hKO:adk q.wh (XL.2++XR.2) (oC n.kind (XL.2.idxOf K1) (XR.2.idxOf K2) XL.1 XR.1) n.cl.xs) :
  Calls Tryz.prog 83 #[.agg (iM f ts q (.slice po pl.length pc) (.slice pa ps.length pac) vd),.agg n.cells] w (mK Tryz.prog w0 X w):=by
 obtain⟨v0,v1,v2,v3,v4,v5,v6,v7,v8,v9,O,Q,T,dQ,-,bW,-⟩:=Ju f ts q;obtain⟨U,V,dP,JG,JH,JI,JJ,JK,JL,JM,-,-⟩:=hn.2 li hll;subst dP;obtain⟨eH,eO,dR,au,av,ax,ay,az,aA,aG,-,-⟩:=hn.2 ri hrl
 cases dR
 have zG:iM f ts q (.slice (some (aD U V)) pl.length pc) (.slice pa ps.length pac) vd=#[v0,v1,v2,v3,v4,v5,v6,v7,v8,v9,O,Q,T,.slice (some (aD U V)) pl.length pc,.slice pa ps.length pac,vd]:=by unfold iM; rw[dQ]; rfl
 have jP:n.cells=#[.int .i64 n.kind,.int .i64 n.l,.int .i64 n.r,.int .i64 n.source,n.cl.val,.int .i64 n.key,n.co.val]:=rfl;have Mw:(pl.getD li nz).cells=#[.int .i64 (pl.getD li nz).kind,.int .i64 (pl.getD li nz).l,.int .i64 (pl.getD li nz).r,.int .i64 (pl.getD li nz).source,(pl.getD li nz).cl.val,.int .i64 (pl.getD li nz).key,(pl.getD li nz).co.val]:=rfl;have bC:(pl.getD ri nz).cells=#[.int .i64 (pl.getD ri nz).kind,.int .i64 (pl.getD ri nz).l,.int .i64 (pl.getD ri nz).r,.int .i64 (pl.getD ri nz).source,(pl.getD ri nz).cl.val,.int .i64 (pl.getD ri nz).key,(pl.getD ri nz).co.val]:=rfl;have bF:Hid (∀ (x:World) (gl gr:Nat) (kQ lg:Array Value) (cl cr:aa),Bw w0 x->cl.xs=XL.2->cr.xs=XR.2->cl.At x->cr.At x->Calls Tryz.prog 127 #[.agg (iM f ts q (.slice (some (aD U V)) pl.length pc) (.slice pa ps.length pac) vd),.agg n.cells,.agg #[.func (.func gl) #[] kQ,cl.val],.agg #[.func (.func gr) #[] lg,cr.val]] x fun e w'=>∃ v,e=.returned v/\Bw x w'/\∀ W,Nw x w' W->dw ag Tryz.prog (.func (.func gl) #[] kQ) XL.1 W->dw ag Tryz.prog (.func (.func gr) #[] lg) XR.1 W->dw ag Tryz.prog v (oC n.kind (XL.2.idxOf K1) (XR.2.idxOf K2) XL.1 XR.1) W):=fun x gl gr kQ lg cl cr t e1 e2 h1 h2=>by
  have h:=O4 f ts q ok (.slice (some (aD U V)) pl.length pc) vd pa pac ps n li ri gl gr kQ lg cl cr XL.1 XR.1 x (hf.below t) (hp.below t) (Qt t hcl) el (by omega) er (by omega) h1 h2 hk3 hk5 K1 K2 (by rw[e1,e2]; exact hkey) (by rw[e1]; exact hRL) (by rw[e2]; exact hRR);rw[e1,e2]at h;exact h
 rw[zG,jP,el,er]at bF;rw[zG,Mw]at hl;rw[zG,bC]at hr;rw[zG,jP,el,er];obtain⟨w1,dS,bq,aO⟩:=aR w #[v0,v1,v2,v3,v4,v5,v6,v7,v8,v9,O,Q,T,.slice (some (aD U V)) pl.length pc,.slice pa ps.length pac,vd] 112;obtain⟨w2,dU,aP,aQ⟩:=aR w1 #[.int .i64 n.kind,.int .i64 (li:Int),.int .i64 (ri:Int),.int .i64 n.source,n.cl.val,.int .i64 n.key,n.co.val] 36;obtain⟨F,dV,hk3,bu⟩:=aR w2 #[Value.nilFunc,.slice none 0 0] 139;have aX:=aC aP hk3;have aY:=aC bq aX;have A:=aC hw aY;have cK:=aO.of (aX.block _ aO.lt);have ig:=aQ.of (hk3.block _ aQ.lt);obtain⟨bD,bN,bA,bG,bO,bT,bQ,dF,dD,dE,aU,aZ,aV⟩:=cK.k13;have iH:F.cell? (aD w.heap.size 13)=some (.slice (some (aD U V)) pl.length pc):=cK.cell 13;have iX:F.cell? (aD w.heap.size 14)=some (.slice pa ps.length pac):=cK.cell 14;have jA:F.cell? (aD w.heap.size 15)=some vd:=cK.cell 15;obtain⟨eT,fK,gy,gV,fM,iG,ik⟩:=ig.k7;have au:=cB A au;have av:=cB A av;have ax:=cB A ax;have ay:=cB A ay;have az:=cB A az;have aA:=cB A aA;have aG:=cB A aG;have JG:=cB A JG;have JH:=cB A JH;have JI:=cB A JI;have JJ:=cB A JJ;have JK:=cB A JK;have JL:=cB A JL;have JM:=cB A JM;have ek:=hn.1;have eu:(li:Int)<(pl.length:Int):=by omega
 have ed:(ri:Int)<(pl.length:Int):=by omega
 have HL:=Zh hl;have HR:=Zh hr;have Y:=Zh A;have Ua:=Zh aY;have Co:=Zh bu;have bH:=Zh cK;have bI:=Zh ig;have J:=Zh (show w.heap.size<=w2.heap.size/\w.heap.size≠w2.heap.size/\w1.heap.size≠w2.heap.size/\w2.heap.size<F.heap.size from ⟨QS bq.size aP.size,by have:=aO.lt; have:=aP.size; omega,by have:=aQ.lt; omega,bu.lt⟩);have HF:=Zh hf;have uz:=Zh hcl;have l9:=Zh hco;have H3:=Zh h3;have dB:=Zh hcond;have HX:=Zh hX;have aM:=Zh hKO;have VS:=Zh hRL;have bJ:=Zh hRR;have vT:=Zh (show #[v0,v1,v2,v3,v4,v5,v6,v7,v8,v9,O,Q,T,.slice (some (aD U V)) pl.length pc,.slice pa ps.length pac,vd][1]? = some (.slice q.bE q.wh.length q.aF) from congrArg some bW);clear hkey hRL hRR hX hKO hr bC er hl bq aP hk3 aO aQ bu cK ig aY aX A hn hp hcl hco hf hw h3 hcond dQ zG jP Mw bW el ok hps;obtain⟨nk,nl,nr,ns,dW,key,dX⟩:=n;simp only at *;generalize (pl.getD li nz).kind=l0 at *;generalize (pl.getD li nz).l=l1 at *;generalize (pl.getD li nz).r=l2 at *;generalize (pl.getD li nz).source=l3 at *;generalize (pl.getD li nz).cl.val=l4 at *;generalize (pl.getD li nz).key=l5 at *;generalize (pl.getD li nz).co.val=l6 at *;generalize (pl.getD ri nz).kind=r0 at *;generalize (pl.getD ri nz).l=r1 at *;generalize (pl.getD ri nz).r=r2 at *;generalize (pl.getD ri nz).source=r3 at *;generalize (pl.getD ri nz).cl.val=r4 at *;generalize (pl.getD ri nz).key=r5 at *;generalize (pl.getD ri nz).co.val=r6 at *;obtain⟨Kw,Ky,Fz⟩:=dW;obtain⟨NI,NJ,Mq⟩:=dX;simp only[aa.val]at *;have eB:(nk==1)=false:=by
  have:nk≠1:=by omega
  simpa using this
 have eD:(nk==2)=false:=by
  have:nk≠2:=by omega
  simpa using this
 have eF:(nk==6)=false:=by
  have:nk≠6:=by omega
  simpa using this
 go_enter Tryz.func83,Tryz.ntmps83;go_upto_region 4 with fail;go_cut [6] from 32 to 39 (fun c wx=>∃ (bl g:Nat) (lb:Array Value) (cv:aa),c=.pointer (some (aD bl 0))/\F.heap.size<=bl/\GB wx bl 139 #[.func (.func g) #[] lb,cv.val]/\AZ Tryz.prog w0 XL F g lb cv wx)
 case first=>
  refine wH F fun j=>?_
  refine wT 0 (.agg #[v0,v1,v2,v3,v4,v5,v6,v7,v8,v9,O,Q,T,.slice (some (aD U V)) pl.length pc,.slice pa ps.length pac,vd]) j (fun x t=>?_) ?_
  ·have e0:=mi t bD bN bA bG bO bT bQ dF dD dE aU aZ aV;have e1:=cB t iH;have e2:=cB t iX;have e3:=cB t jA;go_simp
  refine wt 1 (.pointer (some (aD w.heap.size 13))) j ?_;refine nN 2 (.slice (some (aD U V)) pl.length pc) j iH ?_;refine wt 3 (.pointer (some (aD w1.heap.size 1))) j ?_;refine nN 4 (.int .i64 (li:Int)) j fK ?_;refine wt 5 (.pointer (some (aD U (V+li*7)))) j ?_;refine wT 6 (.agg #[.int .i64 l0,.int .i64 l1,.int .i64 l2,.int .i64 l3,l4,.int .i64 l5,l6]) j (fun x t=>?_) ?_
  ·have e0:=J7 t JG JH JI JJ JK JL JM;go_simp
  refine wJ 7 8 (fun K s=>?_) fun K s=>?_
  ·skip;go_simp;refine(HL.o _ (aC Y.o j)).mono ?_;rintro e y ⟨g,lb,⟨iZ,di,fe⟩,rfl,M,C,k⟩;simp only[aa.val];refine oT s j M fun j=>?_
   clear s K;refine wR 8 fun K s=>?_
   go_simp;refine oA s j fun aL=>?_
   clear s K;obtain⟨H,u⟩:∃ z,y.alloc (.cells #[Value.nilFunc,.slice none 0 0] 139)=z:=⟨_,rfl⟩
   have aJ:=bV y (.cells #[Value.nilFunc,.slice none 0 0] 139);have EI:=ZG y #[Value.nilFunc,.slice none 0 0] 139;rw[u]at aJ EI aL;rw[u];clear u;have B:F.heap.size<=y.heap.size:=j.size;have D:GB H y.heap.size 139 #[Value.nilFunc,.slice none 0 0]:=EI;have Z:=iY (P:=Tryz.prog) (w0:=w0) (w:=F) (y:=H) (R:=y.heap.size) (g:=g) (lb:=lb) (c:=⟨iZ,di,fe⟩) (X:=XL) aL B D C (fun W h0 hW=>k W h0 (Kept.trans' (QU aJ fun _ h _=>h) hW fun b hb hs=>⟨hs,by show b≠_; omega⟩));obtain⟨kE,gE,m⟩:=Z;have z0:H.cell? (aD y.heap.size 0)=some Value.nilFunc:=D.cell 0;have z1:H.cell? (aD y.heap.size 1)=some (.slice none 0 0):=D.cell 1;have y0:=D.frozen 0;have y1:=D.frozen 1;have NM:=fun (a:Addr) (c:Array Value) (w:World)=>run_store Tryz.prog w a (.func (.func g) #[] c) .plain rfl
   have uF:=Zh m;have qQ:=Zh gE;clear m gE D k C;refine wR 9 fun K s=>?_
   go_simp;refine s.o _ _ uF.o.1 (fun j=>?_);clear s K;refine wD ?_
   try simp only[pU]
   go_wp2_with fail;go_meet;exact⟨y.heap.size,g,lb,⟨iZ,di,fe⟩,rfl,B,qQ.o,uF.o⟩
  ·skip;go_simp;refine oA s j fun j=>?_
   clear s K;obtain⟨H,u⟩:∃ z,F.drew.alloc (.cells #[Value.nilFunc,.slice none 0 0] 139)=z:=⟨_,rfl⟩
   have dC:H.heap.size=F.heap.size+1:=by rw[<- u]; simp
   have EI:GB H F.heap.size 139 #[Value.nilFunc,.slice none 0 0]:=by rw[<- u]; exact ZG F.drew _ _
   have aK:Bw F H:=by rw[<- u]; exact j
   rw[u];clear u j;refine wR 7 fun K s=>?_
   go_simp;refine(HL.o _ (aC Y.o aK)).mono ?_;rintro e y ⟨g,lb,⟨iZ,di,fe⟩,rfl,M,C,k⟩;simp only[aa.val];refine oT s aK M fun j=>?_
   clear s K;have B:F.heap.size<=F.heap.size:=(Qs _)
   have D:GB y F.heap.size 139 #[Value.nilFunc,.slice none 0 0]:=EI.of (M.block _ EI.lt);have Z:=iY (P:=Tryz.prog) (w0:=w0) (w:=F) (y:=y) (R:=F.heap.size) (g:=g) (lb:=lb) (c:=⟨iZ,di,fe⟩) (X:=XL) j B D C (fun W h0 hW=>k W h0 (Kept.mono hW fun b _ h=>⟨by have h':H.heap.size<=b:=h; omega,by have h':H.heap.size<=b:=h; omega⟩));obtain⟨kE,gE,m⟩:=Z;have z0:y.cell? (aD F.heap.size 0)=some Value.nilFunc:=D.cell 0;have z1:y.cell? (aD F.heap.size 1)=some (.slice none 0 0):=D.cell 1;have y0:=D.frozen 0;have y1:=D.frozen 1;have NM:=fun (a:Addr) (c:Array Value) (w:World)=>run_store Tryz.prog w a (.func (.func g) #[] c) .plain rfl
   have uF:=Zh m;have qQ:=Zh gE;clear m gE D k C;refine wR 9 fun K s=>?_
   go_simp;refine s.o _ _ uF.o.1 (fun j=>?_);clear s K;refine wD ?_
   try simp only[pU]
   go_wp2_with fail;go_meet;exact⟨F.heap.size,g,lb,⟨iZ,di,fe⟩,rfl,B,qQ.o,uF.o⟩
 case rest=>
 obtain⟨bl,g,lb,cv,rfl,B,bX,aH,C,k⟩:=hcut;obtain⟨G,dY⟩:∃ x,x=wc:=⟨_,rfl⟩
 subst dY;have EJ:=aH;have au:=cB EJ au;have av:=cB EJ av;have ax:=cB EJ ax;have ay:=cB EJ ay;have az:=cB EJ az;have aA:=cB EJ aA;have aG:=cB EJ aG;clear dS dU dV JG JH JI JJ JK JL JM bD bN bA bG bO bT bQ dF dD dE aU aZ aV iH iX jA eT fK gy gV fM iG ik;have cK:=bH.o.of (aH.block _ bH.o.lt);have ig:=bI.o.of (aH.block _ bI.o.lt);obtain⟨bD,bN,bA,bG,bO,bT,bQ,dF,dD,dE,aU,aZ,aV⟩:=cK.k13;have iH:G.cell? (aD w.heap.size 13)=some (.slice (some (aD U V)) pl.length pc):=cK.cell 13;have iX:G.cell? (aD w.heap.size 14)=some (.slice pa ps.length pac):=cK.cell 14;have jA:G.cell? (aD w.heap.size 15)=some vd:=cK.cell 15;obtain⟨eT,fK,gy,gV,fM,iG,ik⟩:=ig.k7;obtain⟨f0,f1⟩:=bX.k2;have pF:=Zh (aC Y.o aH);have eG:=Zh (k G pF.o (QR _ _)).2.1;have LB:=Zh k;have zP:=Zh C;have qy:=Zh aH;have dG:=Zh B;obtain⟨Cu,Cv,yz⟩:=cv;simp only[aa.val]at *;clear cK ig bX k C aH B;go_upto_region 10 with fail;go_cut [7] from 61 to 68 (fun c wx=>∃ (bl g:Nat) (lb:Array Value) (cv:aa),c=.pointer (some (aD bl 0))/\G.heap.size<=bl/\GB wx bl 139 #[.func (.func g) #[] lb,cv.val]/\AZ Tryz.prog w0 XR G g lb cv wx)
 case first=>
  refine wH G fun j=>?_
  refine wT 0 (.agg #[v0,v1,v2,v3,v4,v5,v6,v7,v8,v9,O,Q,T,.slice (some (aD U V)) pl.length pc,.slice pa ps.length pac,vd]) j (fun x t=>?_) ?_
  ·have e0:=mi t bD bN bA bG bO bT bQ dF dD dE aU aZ aV;have e1:=cB t iH;have e2:=cB t iX;have e3:=cB t jA;go_simp
  refine wt 1 (.pointer (some (aD w.heap.size 13))) j ?_;refine nN 2 (.slice (some (aD U V)) pl.length pc) j iH ?_;refine wt 3 (.pointer (some (aD w1.heap.size 2))) j ?_;refine nN 4 (.int .i64 (ri:Int)) j gy ?_;refine wt 5 (.pointer (some (aD U (V+ri*7)))) j ?_;refine wT 6 (.agg #[.int .i64 r0,.int .i64 r1,.int .i64 r2,.int .i64 r3,r4,.int .i64 r5,r6]) j (fun x t=>?_) ?_
  ·have e0:=J7 t au av ax ay az aA aG;go_simp
  refine wJ 7 8 (fun K s=>?_) fun K s=>?_
  ·skip;go_simp;refine(HR.o _ (aC pF.o j)).mono ?_;rintro e y ⟨g,lb,⟨iZ,di,fe⟩,rfl,M,C,k⟩;simp only[aa.val];refine oT s j M fun j=>?_
   clear s K;refine wR 8 fun K s=>?_
   go_simp;refine oA s j fun aL=>?_
   clear s K;obtain⟨H,u⟩:∃ z,y.alloc (.cells #[Value.nilFunc,.slice none 0 0] 139)=z:=⟨_,rfl⟩
   have aJ:=bV y (.cells #[Value.nilFunc,.slice none 0 0] 139);have EI:=ZG y #[Value.nilFunc,.slice none 0 0] 139;rw[u]at aJ EI aL;rw[u];clear u;have B:G.heap.size<=y.heap.size:=j.size;have D:GB H y.heap.size 139 #[Value.nilFunc,.slice none 0 0]:=EI;have Z:=iY (P:=Tryz.prog) (w0:=w0) (w:=G) (y:=H) (R:=y.heap.size) (g:=g) (lb:=lb) (c:=⟨iZ,di,fe⟩) (X:=XR) aL B D C (fun W h0 hW=>k W h0 (Kept.trans' (QU aJ fun _ h _=>h) hW fun b hb hs=>⟨hs,by show b≠_; omega⟩));obtain⟨kE,gE,m⟩:=Z;have z0:H.cell? (aD y.heap.size 0)=some Value.nilFunc:=D.cell 0;have z1:H.cell? (aD y.heap.size 1)=some (.slice none 0 0):=D.cell 1;have y0:=D.frozen 0;have y1:=D.frozen 1;have NM:=fun (a:Addr) (c:Array Value) (w:World)=>run_store Tryz.prog w a (.func (.func g) #[] c) .plain rfl
   have uF:=Zh m;have qQ:=Zh gE;clear m gE D k C;refine wR 9 fun K s=>?_
   go_simp;refine s.o _ _ uF.o.1 (fun j=>?_);clear s K;refine wD ?_
   try simp only[pU]
   go_wp2_with fail;go_meet;exact⟨y.heap.size,g,lb,⟨iZ,di,fe⟩,rfl,B,qQ.o,uF.o⟩
  ·skip;go_simp;refine oA s j fun j=>?_
   clear s K;obtain⟨H,u⟩:∃ z,G.drew.alloc (.cells #[Value.nilFunc,.slice none 0 0] 139)=z:=⟨_,rfl⟩
   have dC:H.heap.size=G.heap.size+1:=by rw[<- u]; simp
   have EI:GB H G.heap.size 139 #[Value.nilFunc,.slice none 0 0]:=by rw[<- u]; exact ZG G.drew _ _
   have aK:Bw G H:=by rw[<- u]; exact j
   rw[u];clear u j;refine wR 7 fun K s=>?_
   go_simp;refine(HR.o _ (aC pF.o aK)).mono ?_;rintro e y ⟨g,lb,⟨iZ,di,fe⟩,rfl,M,C,k⟩;simp only[aa.val];refine oT s aK M fun j=>?_
   clear s K;have B:G.heap.size<=G.heap.size:=(Qs _)
   have D:GB y G.heap.size 139 #[Value.nilFunc,.slice none 0 0]:=EI.of (M.block _ EI.lt);have Z:=iY (P:=Tryz.prog) (w0:=w0) (w:=G) (y:=y) (R:=G.heap.size) (g:=g) (lb:=lb) (c:=⟨iZ,di,fe⟩) (X:=XR) j B D C (fun W h0 hW=>k W h0 (Kept.mono hW fun b _ h=>⟨by have h':H.heap.size<=b:=h; omega,by have h':H.heap.size<=b:=h; omega⟩));obtain⟨kE,gE,m⟩:=Z;have z0:y.cell? (aD G.heap.size 0)=some Value.nilFunc:=D.cell 0;have z1:y.cell? (aD G.heap.size 1)=some (.slice none 0 0):=D.cell 1;have y0:=D.frozen 0;have y1:=D.frozen 1;have NM:=fun (a:Addr) (c:Array Value) (w:World)=>run_store Tryz.prog w a (.func (.func g) #[] c) .plain rfl
   have uF:=Zh m;have qQ:=Zh gE;clear m gE D k C;refine wR 9 fun K s=>?_
   go_simp;refine s.o _ _ uF.o.1 (fun j=>?_);clear s K;refine wD ?_
   try simp only[pU]
   go_wp2_with fail;go_meet;exact⟨G.heap.size,g,lb,⟨iZ,di,fe⟩,rfl,B,qQ.o,uF.o⟩
 case rest=>
 obtain⟨br,g',bY,cw,rfl,bZ,cu,ai,aW,sU⟩:=hcut;obtain⟨w5,NL⟩:∃ x,x=wc:=⟨_,rfl⟩
 subst NL;have hcl:=(LB.o G pF.o (QR _ _)).2;have bf:=Zh (ag.keep hcl ai.size fun b hb dz=>ai.block b hb);have bg:=Zh (sU w5 (aC pF.o ai) (QR _ _)).2;obtain⟨w6,II,jY,bz⟩:=aR w5 #[.slice Cu yz.length Cv,cw.val] 22;have e6:=aC ai jY;have bK:iA w6 (some (aD w5.heap.size 0)) [⟨Cu,Cv,yz⟩,cw]:=⟨by simp,fun i hi=>⟨w5.heap.size,0,rfl,by
   match i,hi with
   | 0,_ => exact bz.cell 0
   | 1,_ => exact bz.cell 1⟩,fun i hi => by
   match i,hi with
   | 0,_ => exact Qt jY bf.o.1
   | 1,_ => exact Qt jY bg.o.1⟩
 have bn:Calls Tryz.prog 126 #[.slice (some (aD w5.heap.size 0)) 2 2] w6 _:=xH (some (aD w5.heap.size 0)) 2 [⟨Cu,Cv,yz⟩,cw] w6 bK (by simp) (fun i hi=>by
   match i,hi with
   | 0,_ => exact bf.o.2.2
   | 1,_ => exact bg.o.2.2) (by have h1:=VS.o.wide; have h2:=bJ.o.wide; rw[<- zP.o]at h1; rw[<- aW]at h2; simp[fw]; omega)
 have bL:fw [⟨Cu,Cv,yz⟩,cw]=XL.2++XR.2:=by rw[<- zP.o,<- aW]; simp[fw]
 rw[bL]at bn;have dH:=Zh aW;have dI:=Zh sU;have lD:=Zh ai;have tX:=Zh jY;have gX:=Zh bZ;have bM:=cB e6 f0;have bP:=cB e6 f1;have dJ:=cB ai f1;obtain⟨q0,q1⟩:=cu.k2;have bR:=cB jY q0;have bS:=cB jY q1;obtain⟨cz,cO,cZ⟩:=cw;simp only[aa.val]at *;have HG:=Zh (XX iH (XX iX jA));have dK:=Zh (XX bD (XX bN (XX bA (XX bG (XX bO (XX bT (XX bQ (XX dF (XX dD (XX dE (XX aU (XX aZ aV))))))))))));have dL:=Zh (XX eT (XX fK (XX gy (XX gV (XX fM (XX iG ik))))));clear sU aW ai bZ cu jY bz bK hcl bL f0 f1 au av ax ay az aA aG bD bN bA bG bO bT bQ dF dD dE aU aZ aV iH iX jA eT fK gy gV fM iG ik;go_wp2_with fail;refine bn.mono ?_;rintro e w7 ⟨v,rfl,dh,gD⟩;obtain⟨iv,rfl,dm,dn,dx⟩:=ZV dh (by have h1:=VS.o.wide; have h2:=bJ.o.wide; simp; omega);have E:Bw G w7:=aC (aC lD.o tX.o) gD;have Y8:=aC qy.o E;have hJ:=bF.o w7.drew g g' lb bY ⟨Cu,Cv,yz⟩ ⟨cz,cO,cZ⟩ (aC Y.o (Y8.drew)) zP.o dH.o (Qt ((aC tX.o gD).drew) bf.o.1) (Qt ((aC tX.o gD).drew) bg.o.1);simp only[aa.val]at hJ;obtain⟨bD,bN,bA,bG,bO,bT,bQ,dF,dD,dE,aU,aZ,aV⟩:=dK.o;obtain⟨iH,iX,jA⟩:=HG.o;obtain⟨eT,fK,gy,gV,fM,iG,ik⟩:=dL.o;have u0:=cB gD bM;have u1:=cB gD bP;have u2:=cB gD bR;have u3:=cB gD bS;have bD:=cB E bD;have bN:=cB E bN;have bA:=cB E bA;have bG:=cB E bG;have bO:=cB E bO;have bT:=cB E bT;have bQ:=cB E bQ;have dF:=cB E dF;have dD:=cB E dD;have dE:=cB E dE;have aU:=cB E aU;have aZ:=cB E aZ;have aV:=cB E aV;have iH:=cB E iH;have iX:=cB E iX;have jA:=cB E jA
 have eT:=cB E eT;have fK:=cB E fK;have gy:=cB E gy;have gV:=cB E gV;have fM:=cB E fM;have iG:=cB E iG;have ik:=cB E ik;have Vw:=Zh (show bl≠w2.heap.size/\br≠w2.heap.size by have:=dG.o; have:=gX.o; have:=qy.o.size; have:=J.o.2.2.2; omega);have aN:=Zh dm;have Kb:=Zh dn;have Mr:=Zh dx;have Ms:=Zh E;have dM:=Zh gD;clear dm dn dx dh gD E bM bP dJ q0 q1 bR bS bn;go_upto_region 12 with fail;refine QQ (S:=fun x=>Kept (fun b=>b≠w2.heap.size) w7 x) (by kernel_rfl) (QU ((Qr _ _).drew) fun _ h _=>h) (fun j=>?_);refine wT 0 (.agg #[v0,v1,v2,v3,v4,v5,v6,v7,v8,v9,O,Q,T,.slice (some (aD U V)) pl.length pc,.slice pa ps.length pac,vd]) j (fun x t=>?_) ?_
 ·have e0:=akc t J.o.2.1 bD bN bA bG bO bT bQ dF dD dE aU aZ aV;have e1:=Zj iH t J.o.2.1;have e2:=Zj iX t J.o.2.1;have e3:=Zj jA t J.o.2.1;go_simp
 refine wT 1 (.agg #[v0,v1,v2,v3,v4,v5,v6,v7,v8,v9,O,Q,T,.slice (some (aD U V)) pl.length pc,.slice pa ps.length pac,vd]) j (fun x t=>?_) ?_
 ·have e0:=akc t J.o.2.1 bD bN bA bG bO bT bQ dF dD dE aU aZ aV;have e1:=Zj iH t J.o.2.1;have e2:=Zj iX t J.o.2.1;have e3:=Zj jA t J.o.2.1;go_simp
 refine wT 2 (.agg #[.int .i64 nk,.int .i64 (li:Int),.int .i64 (ri:Int),.int .i64 ns,.slice Kw Fz.length Ky,.int .i64 key,.slice NI Mq.length NJ]) j (fun x t=>?_) ?_
 ·have e0:=Zj eT t J.o.2.2.1;have e1:=Zj fK t J.o.2.2.1;have e2:=Zj gy t J.o.2.2.1;have e3:=Zj gV t J.o.2.2.1;have e4:=Zj fM t J.o.2.2.1;have e5:=Zj iG t J.o.2.2.1;have e6:=Zj ik t J.o.2.2.1;go_simp
 refine wT 3 (.agg #[.func (.func g) #[] lb,.slice Cu yz.length Cv]) j (fun x t=>?_) ?_
 ·have e0:=Zj u0 t Vw.o.1;have e1:=Zj u1 t Vw.o.1;go_simp
 refine wT 4 (.agg #[.func (.func g') #[] bY,.slice cz cZ.length cO]) j (fun x t=>?_) ?_
 ·have e0:=Zj u2 t Vw.o.2;have e1:=Zj u3 t Vw.o.2;go_simp
 obtain⟨aj,ak,I⟩:=iv;simp only[aa.val]at *;refine wt 6 (.slice aj I.length ak) j ?_;refine wt 8 (.pointer (some (aD w1.heap.size 4))) j ?_;refine wtk 9 (.slice Kw Fz.length Ky) j fM J.o.2.2.1 ?_;refine wR 5 fun K s=>?_
 go_simp;refine hJ.mono ?_;rintro e w8 ⟨v,rfl,Ew,mQ⟩;refine oK s j Ew fun j=>?_
 clear s K hJ;have L:Bw w7 w8:=(Qr _ _).drew.trans Ew;have bU:∀ W,Bw w0 W->Nw F w8 W->dw ag Tryz.prog v (oC nk (XL.2.idxOf K1) (XR.2.idxOf K2) XL.1 XR.1) W:=fun W h0 hN=>by
  have hz:=qy.o.size;have dN:=Ms.o.size;have rR:=hN.back L;exact mQ W (hN.more (QS hz (QS dN (by simp)))) (LB.o W h0 (rR.back Ms.o)).1 (dI.o W h0 ((rR.back (aC tX.o dM.o)).more hz)).1
 obtain⟨g2,aI,rfl⟩:∃ g2 aI,v=.func (.func g2) #[] aI:=by
  obtain⟨g2,aI,h,_⟩:=bU w8 (aC Y.o (aC Y8 L)) (QR _ _);exact⟨g2,aI,h⟩
 refine wt 7 (.agg #[.func (.func g2) #[] aI,.slice aj I.length ak]) j ?_;have CJ:=OY #[v0,v1,v2,v3,v4,v5,v6,v7,v8,v9,O,Q,T,.slice (some (aD U V)) pl.length pc,.slice pa ps.length pac,vd] q.bE q.aF q.wh vT.o g2 aI ⟨aj,ak,I⟩ ⟨Kw,Ky,Fz⟩ (oC nk (XL.2.idxOf K1) (XR.2.idxOf K2) XL.1 XR.1) N w8 (HF.o.below (aC Y.o (aC Y8 L))).query.wh (Qt L Kb.o.1) (Qt (aC Y.o (aC Y8 L)) uz.o) aM.o.few aM.o.num (fun i hi x t=>by show x∈I; rw[aN.o]; exact aM.o.dA i hi x t) H3.o dB.o (fun r hr=>by show r.length=I.length; rw[aN.o]; exact aM.o.lens r hr);simp only[aa.val]at CJ;refine wR 10 fun K s=>?_
 go_simp;refine CJ.mono ?_;rintro e w9 ⟨g3,bB,rfl,qR,dZ⟩;refine oK s j qR fun j=>?_
 clear s K CJ;have O5:aa.xs ⟨aj,ak,I⟩=X.2:=by rw[HX.o]; exact aN.o
 have CV:Bw F w9:=aC (aC Y8 L) qR;have sU:∀ W,Bw w0 W->Kept (fun b=>w.heap.size<=b/\b≠w2.heap.size) w9 W->dw ag Tryz.prog (.func (.func g3) #[] bB) X.1 W/\ag.At ⟨aj,ak,I⟩ W:=fun W h0 hW=>by
  have hz:=J.o;have hN:=hW.adl hz.1 hz.2.2.2;have dO:=(aC Y8 L).size;refine⟨?_,ag.keep Kb.o ((hN.back qR).back L).size fun b hb dz=>((hN.back qR).back L).block b hb ?_⟩
  ·have h:=dZ W (hN.more dO) (bU W h0 (hN.back qR));rw[HX.o];rw[show iC q.wh (XL.2++XR.2) Fz=iC q.wh I Fz by rw[aN.o]];exact h
  ·have h1:=Mr.o b dz;have h2:=qy.o.size;have h3:=lD.o.size;have h4:=tX.o.size;omega
 have g5:=Co.o.of (CV.block _ Co.o.lt);obtain⟨kE,gE,m⟩:=iY (P:=Tryz.prog) (w0:=w0) (w:=w) (y:=w9) (g:=g3) (lb:=bB) (c:=⟨aj,ak,I⟩) (X:=X) (aC Ua.o CV) J.o.1 g5 O5 sU;have uF:=Zh m;have qV:=Zh (uI gE);have z0:w9.cell? (aD w2.heap.size 0)=some Value.nilFunc:=g5.cell 0;have z1:w9.cell? (aD w2.heap.size 1)=some (.slice none 0 0):=g5.cell 1;have y0:=g5.frozen 0;have y1:=g5.frozen 1;have NM:=fun (a:Addr) (c:Array Value) (w:World)=>run_store Tryz.prog w a (.func (.func g3) #[] c) .plain rfl
 clear m gE g5 O5 sU CV;refine wR 11 fun K s=>?_
 go_simp;refine s.o _ _ (j.trans kE) (fun j=>?_);clear s K;refine wD ?_
 try simp only[pU]
 go_wp2_with fail;exact ZN (Jk (p:=4) rfl rfl qV.o) rfl ⟨g3,bB,⟨aj,ak,I⟩,rfl,uF.o⟩
