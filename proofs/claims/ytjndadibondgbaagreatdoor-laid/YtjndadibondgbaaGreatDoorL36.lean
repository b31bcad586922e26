import Derived.Test.YtjndadibondgbaaGreatDoorL35
set_option linter.all false
set_option maxRecDepth 100000
set_option maxHeartbeats 16000000
namespace Go.Proofs.Zz
open Go.RowKit Go.Shelf
theorem adq(f:aS)(ts:List af)(q:ae)(po:Option Addr)(pc:Nat)(pl:List ah)(pa:Option Addr)(pac:Nat)(ps:List aB)(vd:Value)(n:ah)(li:Nat)(w0 w:World)(hw:Bw w0 w)(hf:f.At ts q w0)(hn:fq w0 po pl)(el:n.l=li)(hll:li<pl.length)(XL:List (List Int) × List Int)(X Y:List (List Int))
  (hl:n.kind≠10->∀ x,Bw w0 x->Calls Tryz.prog 83 #[.agg (iM f ts q (.slice po pl.length pc) (.slice pa ps.length pac) vd),.agg (pl.getD li nz).cells] x (mK Tryz.prog w0 XL x))
  (h0:n.kind=10->∀ x,Bw w0 x->Calls Tryz.prog 52 #[.agg (iM f ts q (.slice po pl.length pc) (.slice pa ps.length pac) vd),.agg (pl.getD li nz).cells] x fun e w'=>∃ v,e=.returned v/\nE Tryz.prog 3 v Y w'/\Bw x w')
  (c0:n.kind=10->X=eU q.ord.xs Y/\0<q.ord.xs.length/\Y.length<=1000000/\∀ r∈Y,aM q.ord.xs r.length=true)
  (c7:n.kind=7->X=(fu (aO XL.2 q.keys.xs) (aO XL.2 q.sums.xs) XL.1).map Gr.row/\(∀ x∈q.keys.xs,x∈XL.2)/\(∀ x∈q.sums.xs,x∈XL.2)/\q.keys.xs.length<=4/\q.sums.xs.length<=4)
  (c9:n.kind=9->X=(XL.1.map fun r=>au r (aO XL.2 q.aK.xs))/\(∀ x∈q.aK.xs,x∈XL.2)/\q.aK.xs.length<=8)
  (hR0:n.kind≠10->JF XL.2 XL.1) (hk:n.kind=7∨n.kind=9∨n.kind=10) :
  Calls Tryz.prog 52 #[.agg (iM f ts q (.slice po pl.length pc) (.slice pa ps.length pac) vd),.agg n.cells] w fun e w'=>∃ v,e=.returned v/\nE Tryz.prog 3 v X w'/\Bw w w':=by
 obtain⟨⟨J,Uc,L⟩,bE,aF,wh,m,⟨ka,kc,j⟩,⟨ua,uc,k⟩,⟨ea,ec,Q⟩,⟨da,dc,C⟩⟩:=q;obtain⟨v0,v1,v2,v3,v4,v5,v6,v7,v8,v9,aj,ak,av,dQ,aY,bf,bg,bn,bq,bu,bz,-⟩:=Ju f ts ⟨⟨J,Uc,L⟩,bE,aF,wh,m,⟨ka,kc,j⟩,⟨ua,uc,k⟩,⟨ea,ec,Q⟩,⟨da,dc,C⟩⟩;simp only[aa.val]at aY bf bg bn bq bu bz;subst aY bf bg bn bq bu bz;obtain⟨Z,no,cu,JG,JH,JI,JJ,JK,JL,JM,-,-⟩:=hn.2 li hll;subst cu;have zG:iM f ts ⟨⟨J,Uc,L⟩,bE,aF,wh,m,⟨ka,kc,j⟩,⟨ua,uc,k⟩,⟨ea,ec,Q⟩,⟨da,dc,C⟩⟩ (.slice (some (aD Z no)) pl.length pc) (.slice pa ps.length pac) vd=#[.slice J L.length Uc,.slice bE wh.length aF,.bool m,.slice ka j.length kc,.slice ua k.length uc,.slice ea Q.length ec,.slice da C.length dc,v7,v8,v9,aj,ak,av,.slice (some (aD Z no)) pl.length pc,.slice pa ps.length pac,vd]:=by unfold iM; rw[dQ]; rfl
 have jP:n.cells=#[.int .i64 n.kind,.int .i64 n.l,.int .i64 n.r,.int .i64 n.source,n.cl.val,.int .i64 n.key,n.co.val]:=rfl;have Mw:(pl.getD li nz).cells=#[.int .i64 (pl.getD li nz).kind,.int .i64 (pl.getD li nz).l,.int .i64 (pl.getD li nz).r,.int .i64 (pl.getD li nz).source,(pl.getD li nz).cl.val,.int .i64 (pl.getD li nz).key,(pl.getD li nz).co.val]:=rfl;rw[zG,Mw]at hl h0;rw[zG,jP,el];obtain⟨w1,bB,bC,S⟩:=aR w #[.slice J L.length Uc,.slice bE wh.length aF,.bool m,.slice ka j.length kc,.slice ua k.length uc,.slice ea Q.length ec,.slice da C.length dc,v7,v8,v9,aj,ak,av,.slice (some (aD Z no)) pl.length pc,.slice pa ps.length pac,vd] 112;obtain⟨w2,bF,aJ,aL⟩:=aR w1 #[.int .i64 n.kind,.int .i64 (li:Int),.int .i64 n.r,.int .i64 n.source,n.cl.val,.int .i64 n.key,n.co.val] 36;obtain⟨u,bH,aN,bI⟩:=aR w2 #[.slice J L.length Uc,.slice bE wh.length aF,.bool m,.slice ka j.length kc,.slice ua k.length uc,.slice ea Q.length ec,.slice da C.length dc] 26;obtain⟨b0,b1,b2,b3,b4,b5,b6⟩:=(S.of (aJ.block _ S.lt)).k7;have ay:=aC aJ aN;have az:=aC bC ay;have B:=aC hw az;have cK:=S.of (ay.block _ S.lt);have ig:=aL.of (aN.block _ aL.lt);obtain⟨bD,bN,bA,bG,bO,bT,bQ,dF,dD,dE,aU,aZ,aV⟩:=cK.k13;have iH:u.cell? (aD w.heap.size 13)=some (.slice (some (aD Z no)) pl.length pc):=cK.cell 13;have iX:u.cell? (aD w.heap.size 14)=some (.slice pa ps.length pac):=cK.cell 14;have jA:u.cell? (aD w.heap.size 15)=some vd:=cK.cell 15;obtain⟨eT,fK,gy,gV,fM,iG,ik⟩:=ig.k7;obtain⟨-,-,-,bJ,bK,bL,bM⟩:=bI.k7;have JG:=cB B JG;have JH:=cB B JH;have JI:=cB B JI;have JJ:=cB B JJ;have JK:=cB B JK;have JL:=cB B JL;have JM:=cB B JM;have df:=hn.1;have dh:(li:Int)<(pl.length:Int):=by omega
 have N:=Zh B;have Ua:=Zh az;have HQ:=Zh hf.query;have HC:=Zh c0;have ag:=Zh c7;have ai:=Zh c9;have VJ:=Zh hR0;have aA:=Zh hl;have H0:=Zh h0;clear hl h0 bC aJ aN S aL bI cK ig az ay B hn hf hw c0 c7 c9 hR0 dQ zG jP Mw el;obtain⟨nk,nl,nr,ns,cz,key,cO⟩:=n;simp only at *;generalize (pl.getD li nz).kind=l0 at *;generalize (pl.getD li nz).l=l1 at *;generalize (pl.getD li nz).r=l2 at *;generalize (pl.getD li nz).source=l3 at *;generalize (pl.getD li nz).cl.val=l4 at *;generalize (pl.getD li nz).key=l5 at *;generalize (pl.getD li nz).co.val=l6 at *;generalize cz.val=NCL at *;generalize cO.val=NCO at *;by_cases A:nk=10
 ·have hC:=HC.o A;have bW:=Zh (H0.o A);have bX:=Zh hC;clear hC HC H0 aA ag ai VJ;subst A;go_enter Tryz.func52,Tryz.ntmps52;go_upto_region 3 with fail;clear bB bF bH b0 b1 b2 b3 b4 b5 b6;refine wH u fun d=>?_
  refine wT 0 (.agg #[.slice J L.length Uc,.slice bE wh.length aF,.bool m,.slice ka j.length kc,.slice ua k.length uc,.slice ea Q.length ec,.slice da C.length dc,v7,v8,v9,aj,ak,av,.slice (some (aD Z no)) pl.length pc,.slice pa ps.length pac,vd]) d (fun x t=>?_) ?_
  ·have e0:=mi t bD bN bA bG bO bT bQ dF dD dE aU aZ aV;have e1:=cB t iH;have e2:=cB t iX;have e3:=cB t jA;go_simp
  refine wt 1 (.pointer (some (aD w.heap.size 13))) d ?_;refine nN 2 (.slice (some (aD Z no)) pl.length pc) d iH ?_;refine wt 3 (.pointer (some (aD w1.heap.size 1))) d ?_;refine nN 4 (.int .i64 (li:Int)) d fK ?_;refine wt 5 (.pointer (some (aD Z (no+li*7)))) d ?_;refine wT 6 (.agg #[.int .i64 l0,.int .i64 l1,.int .i64 l2,.int .i64 l3,l4,.int .i64 l5,l6]) d (fun x t=>?_) ?_
  ·have e0:=J7 t JG JH JI JJ JK JL JM;go_simp
  refine wt 8 (.pointer (some (aD w2.heap.size 6))) d ?_;refine nN 9 (.slice da C.length dc) d bM ?_;refine wR 7 fun K i=>?_
  go_simp;refine(bW.o _ (aC N.o d)).mono ?_;rintro e w4 ⟨v,rfl,hv,D⟩;refine oT i d D fun d=>?_
  clear i K;obtain⟨eX,h1,h2,h3⟩:=bX.o;have aG:=EK v ⟨da,dc,C⟩ Y w4 hv (Qt (aC N.o d) HQ.o.ord) h1 h2 h3;simp only[aa.val]at aG;refine wR 10 fun K i=>?_
  go_simp;refine aG.mono ?_;rintro e w5 ⟨v',rfl,F,T⟩;refine oT i d T fun d=>?_
  clear i K;have HV:=Zh F;have HS:=Zh d;have HX:=Zh eX;clear aG hv F h2 h3 eX;refine wt 11 v' d ?_;refine wD ?_
  try simp only[pU]
  go_wp2_with fail;go_ret;exact⟨v',rfl,by rw[HX.o]; exact HV.o,aC Ua.o HS.o⟩
 have HL:=Zh (aA.o A);have HR:=Zh (VJ.o A);have dm:(nk==10)=false:=by simpa using A
 clear aA H0 HC VJ;go_enter Tryz.func52,Tryz.ntmps52;go_upto_region 4 with fail;go_cut [6] from 24 to 31 (fun c wx=>∃ (bl g:Nat) (lb:Array Value) (cv:aa),c=.pointer (some (aD bl 0))/\u.heap.size<=bl/\GB wx bl 139 #[.func (.func g) #[] lb,cv.val]/\AZ Tryz.prog w0 XL u g lb cv wx)
 case first=>
  refine wH u fun d=>?_
  refine wT 0 (.agg #[.slice J L.length Uc,.slice bE wh.length aF,.bool m,.slice ka j.length kc,.slice ua k.length uc,.slice ea Q.length ec,.slice da C.length dc,v7,v8,v9,aj,ak,av,.slice (some (aD Z no)) pl.length pc,.slice pa ps.length pac,vd]) d (fun x t=>?_) ?_
  ·have e0:=mi t bD bN bA bG bO bT bQ dF dD dE aU aZ aV;have e1:=cB t iH;have e2:=cB t iX;have e3:=cB t jA;go_simp
  refine wt 1 (.pointer (some (aD w.heap.size 13))) d ?_;refine nN 2 (.slice (some (aD Z no)) pl.length pc) d iH ?_;refine wt 3 (.pointer (some (aD w1.heap.size 1))) d ?_;refine nN 4 (.int .i64 (li:Int)) d fK ?_;refine wt 5 (.pointer (some (aD Z (no+li*7)))) d ?_;refine wT 6 (.agg #[.int .i64 l0,.int .i64 l1,.int .i64 l2,.int .i64 l3,l4,.int .i64 l5,l6]) d (fun x t=>?_) ?_
  ·have e0:=J7 t JG JH JI JJ JK JL JM;go_simp
  refine wJ 7 8 (fun K i=>?_) fun K i=>?_
  ·skip;go_simp;refine(HL.o _ (aC N.o d)).mono ?_;rintro e y ⟨g,lb,⟨iZ,di,fe⟩,rfl,ax,G,s⟩;simp only[aa.val];refine oT i d ax fun d=>?_
   clear i K;refine wR 8 fun K i=>?_
   go_simp;refine oA i d fun bU=>?_
   clear i K;obtain⟨y2,E⟩:∃ z,y.alloc (.cells #[Value.nilFunc,.slice none 0 0] 139)=z:=⟨_,rfl⟩
   have aQ:=bV y (.cells #[Value.nilFunc,.slice none 0 0] 139);have EI:=ZG y #[Value.nilFunc,.slice none 0 0] 139;rw[E]at aQ EI bU;rw[E];clear E;have I:u.heap.size<=y.heap.size:=d.size;have M:GB y2 y.heap.size 139 #[Value.nilFunc,.slice none 0 0]:=EI;have aH:=iY (P:=Tryz.prog) (w0:=w0) (w:=u) (y:=y2) (R:=y.heap.size) (g:=g) (lb:=lb) (c:=⟨iZ,di,fe⟩) (X:=XL) bU I M G (fun W h0 hW=>s W h0 (Kept.trans' (QU aQ fun _ h _=>h) hW fun b hb hs=>⟨hs,by show b≠_; omega⟩));obtain⟨kE,gE,H⟩:=aH;have z0:y2.cell? (aD y.heap.size 0)=some Value.nilFunc:=M.cell 0;have z1:y2.cell? (aD y.heap.size 1)=some (.slice none 0 0):=M.cell 1;have y0:=M.frozen 0;have y1:=M.frozen 1;have NM:=fun (a:Addr) (c:Array Value) (w:World)=>run_store Tryz.prog w a (.func (.func g) #[] c) .plain rfl
   have uF:=Zh H;have qQ:=Zh gE;clear H gE M s G;refine wR 9 fun K i=>?_
   go_simp;refine i.o _ _ uF.o.1 (fun d=>?_);clear i K;refine wD ?_
   try simp only[pU]
   go_wp2_with fail;go_meet;exact⟨y.heap.size,g,lb,⟨iZ,di,fe⟩,rfl,I,qQ.o,uF.o⟩
  ·skip;go_simp;refine oA i d fun d=>?_
   clear i K;obtain⟨y2,E⟩:∃ z,u.drew.alloc (.cells #[Value.nilFunc,.slice none 0 0] 139)=z:=⟨_,rfl⟩
   have dn:y2.heap.size=u.heap.size+1:=by rw[<- E]; simp
   have EI:GB y2 u.heap.size 139 #[Value.nilFunc,.slice none 0 0]:=by rw[<- E]; exact ZG u.drew _ _
   have aT:Bw u y2:=by rw[<- E]; exact d
   rw[E];clear E d;refine wR 7 fun K i=>?_
   go_simp;refine(HL.o _ (aC N.o aT)).mono ?_;rintro e y ⟨g,lb,⟨iZ,di,fe⟩,rfl,ax,G,s⟩;simp only[aa.val];refine oT i aT ax fun d=>?_
   clear i K;have I:u.heap.size<=u.heap.size:=(Qs _)
   have M:GB y u.heap.size 139 #[Value.nilFunc,.slice none 0 0]:=EI.of (ax.block _ EI.lt);have aH:=iY (P:=Tryz.prog) (w0:=w0) (w:=u) (y:=y) (R:=u.heap.size) (g:=g) (lb:=lb) (c:=⟨iZ,di,fe⟩) (X:=XL) d I M G (fun W h0 hW=>s W h0 (Kept.mono hW fun b _ h=>⟨by have h':y2.heap.size<=b:=h; omega,by have h':y2.heap.size<=b:=h; omega⟩));obtain⟨kE,gE,H⟩:=aH;have z0:y.cell? (aD u.heap.size 0)=some Value.nilFunc:=M.cell 0;have z1:y.cell? (aD u.heap.size 1)=some (.slice none 0 0):=M.cell 1;have y0:=M.frozen 0;have y1:=M.frozen 1;have NM:=fun (a:Addr) (c:Array Value) (w:World)=>run_store Tryz.prog w a (.func (.func g) #[] c) .plain rfl
   have uF:=Zh H;have qQ:=Zh gE;clear H gE M s G;refine wR 9 fun K i=>?_
   go_simp;refine i.o _ _ uF.o.1 (fun d=>?_);clear i K;refine wD ?_
   try simp only[pU]
   go_wp2_with fail;go_meet;exact⟨u.heap.size,g,lb,⟨iZ,di,fe⟩,rfl,I,qQ.o,uF.o⟩
 case rest=>
 obtain⟨bl,g,lb,cv,rfl,I,bP,D,G,s⟩:=hcut;obtain⟨w4,cZ⟩:∃ x,x=wc:=⟨_,rfl⟩
 subst cZ;have k3:=cB D bJ;have k4:=cB D bK;have k5:=cB D bL;have k0:=cB D eT;clear bB bF bH b0 b1 b2 b3 b4 b5 b6 JG JH JI JJ JK JL JM bD bN bA bG bO bT bQ dF dD dE aU aZ aV iH iX jA eT fK gy gV fM iG ik bJ bK bL bM;obtain⟨f0,f1⟩:=bP.k2;have pF:=Zh (aC N.o D);have aW:=Zh (aC Ua.o D);have LB:=Zh (s w4 pF.o (QR _ _));have zP:=Zh G;obtain⟨Cu,Cv,yz⟩:=cv;simp only[aa.val]at *;have hR:=HR.o;have yF:=Zh fun (x:World) (cs:aa) (t:Bw w4 x) (hc:cs.At x) (aP:∀ y∈cs.xs,y∈XL.2) (hl:cs.xs.length<=1000)=>BC (.func (.func g) #[] lb) ⟨Cu,Cv,yz⟩ cs x ⟨g,lb,rfl⟩ (Qt t LB.o.2.1) hc (fun y hy=>by show y∈yz; rw[zP.o]; exact aP y hy) hl
 have JE:=Zh fun (cs:List Int) (aP:∀ y∈cs,y∈XL.2) (r:List Int) (hr:r∈XL.1)=>show aM (aO yz cs) r.length=true by rw[zP.o,HR.o.lens r hr]; exact Ea rfl aP
 simp only[aa.val]at yF;clear s G D I bP hR;rcases (show nk=7∨nk=9 by omega) with h7 | h9
 ·have H7:=Zh (ag.o h7);clear ag ai;subst h7;go_upto_region 7 with fail;refine wH w4 fun d=>?_
  refine wt 0 (.pointer (some (aD bl 0))) d ?_;refine nN 1 (.func (.func g) #[] lb) d f0 ?_;refine wT 2 (.agg #[.func (.func g) #[] lb,.slice Cu yz.length Cv]) d (fun x t=>?_) ?_
  ·have e0:=cB t f0;have e1:=cB t f1;go_simp
  refine wt 3 (.pointer (some (aD w2.heap.size 3))) d ?_;refine nN 4 (.slice ka j.length kc) d k3 ?_;refine wT 6 (.agg #[.func (.func g) #[] lb,.slice Cu yz.length Cv]) d (fun x t=>?_) ?_
  ·have e0:=cB t f0;have e1:=cB t f1;go_simp
  refine wt 7 (.pointer (some (aD w2.heap.size 4))) d ?_;refine nN 8 (.slice ua k.length uc) d k4 ?_;obtain⟨eX,h1,h2,h3,h4⟩:=H7.o;have O:=yF.o w4.drew ⟨ka,kc,j⟩ d (Qt (aC pF.o d) HQ.o.keys) h1 (by show j.length<=1000; omega);refine wR 5 fun K i=>?_
  go_simp;refine O.mono ?_;rintro e w5 ⟨⟨ia,ic,ix⟩,rfl,p,U,T,-⟩;simp only[aa.val];refine oT i d T fun d=>?_
  clear i K O;have bY:=Zh p;clear p;have aX:=yF.o w5 ⟨ua,uc,k⟩ d (Qt (aC pF.o d) HQ.o.sums) h2 (by show k.length<=1000; omega);refine wR 9 fun K i=>?_
  go_simp;refine aX.mono ?_;rintro e w6 ⟨⟨ja,jc,jx⟩,rfl,V,bR,bS,-⟩;simp only[aa.val];refine oT i d bS fun d=>?_
  clear i K aX;have p:=bY.o;simp only at p V;have hg:=BH (.func (.func g) #[] lb) ⟨ia,ic,ix⟩ ⟨ja,jc,jx⟩ XL.1 w6 (dw.later LB.o.1 d) (Qt bS U.1) bR.1 (by show ix.length<=4; rw[p]; simpa [aO] using h3) (by show jx.length<=4; rw[V]; simpa [aO] using h4) HR.o.few (fun r hr=>by show aM ix _=true; rw[p]; exact JE.o j h1 r hr) (fun r hr=>by show aM jx _=true; rw[V]; exact JE.o k h2 r hr) HR.o.small;simp only[aa.val]at hg;have aI:=Zh p;have bZ:=Zh V;clear p V;refine wR 10 fun K i=>?_
  go_simp;refine hg.mono ?_;rintro e w7 ⟨v',rfl,F,gD⟩;refine oT i d gD fun d=>?_
  clear i K hg;have HV:=Zh F;have HS:=Zh d;have HX:=Zh eX;clear F eX U bR;refine wt 11 v' d ?_;refine wD ?_
  try simp only[pU]
  go_wp2_with fail;go_ret;refine⟨v',rfl,?_,aC aW.o HS.o⟩;have h:=HV.o;rw[aI.o,bZ.o,zP.o]at h;rw[HX.o];exact h
 ·have H9:=Zh (ai.o h9);clear ag ai;subst h9;go_upto_region 10 with fail;refine wH w4 fun d=>?_
  refine wt 0 (.pointer (some (aD bl 0))) d ?_;refine nN 1 (.func (.func g) #[] lb) d f0 ?_;refine wT 2 (.agg #[.func (.func g) #[] lb,.slice Cu yz.length Cv]) d (fun x t=>?_) ?_
  ·have e0:=cB t f0;have e1:=cB t f1;go_simp
  refine wt 3 (.pointer (some (aD w2.heap.size 5))) d ?_;refine nN 4 (.slice ea Q.length ec) d k5 ?_;obtain⟨eX,h1,h2⟩:=H9.o;have O:=yF.o w4.drew ⟨ea,ec,Q⟩ d (Qt (aC pF.o d) HQ.o.aK) h1 (by show Q.length<=1000; omega);refine wR 5 fun K i=>?_
  go_simp;refine O.mono ?_;rintro e w5 ⟨⟨ia,ic,ix⟩,rfl,p,U,T,-⟩;simp only[aa.val];refine oT i d T fun d=>?_
  clear i K O;simp only at p;have hg:=xu (.func (.func g) #[] lb) ⟨ia,ic,ix⟩ XL.1 w5 (dw.later LB.o.1 d) U.1 (by show ix.length<=1000; rw[p]; simp[aO]; omega) (fun r hr=>by show aM ix _=true; rw[p]; exact JE.o Q h1 r hr);simp only[aa.val]at hg;have aI:=Zh p;clear p;refine wR 6 fun K i=>?_
  go_simp;refine hg.mono ?_;rintro e w7 ⟨v',rfl,F,gD⟩;refine oT i d gD fun d=>?_
  clear i K hg;have HV:=Zh F;have HS:=Zh d;have HX:=Zh eX;clear F eX U;refine wt 7 v' d ?_;refine wD ?_
  try simp only[pU]
  go_wp2_with fail;go_ret;refine⟨v',rfl,?_,aC aW.o HS.o⟩;have h:=HV.o;rw[aI.o,zP.o]at h;rw[HX.o];exact h
