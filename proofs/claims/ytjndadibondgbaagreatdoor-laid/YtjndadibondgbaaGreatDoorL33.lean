import Derived.Test.YtjndadibondgbaaGreatDoorL32
set_option linter.all false
set_option maxRecDepth 100000
set_option maxHeartbeats 16000000
namespace Go.Proofs.Zz
open Go.RowKit Go.Shelf
structure adk(wh:List az)(C:List Int)(rows:List (List Int))(nums:List Int):Prop where
 few:nums.length<=64
 num:∀ i∈nums,0<=i/\i<wh.length
 dA:∀ i∈nums,∀ x∈aG (wh.getD i.toNat lz).cs,x∈C
 lens:∀ r∈rows,r.length=C.length
theorem Kept.adl{w w3 y W:World}{R:Nat}(h:Kept (fun b=>w.heap.size<=b/\b≠R) y W)(h1:w.heap.size<=R)(h2:R<w3.heap.size):Nw w3 y W:=Kept.mono h fun b _ a=>⟨by omega,by omega⟩
theorem Y6(f:aS)(ts:List af)(q:ae)(ok:Ok ts q)(po:Option Addr)(pc:Nat)(pl:List ah)(pa:Option Addr)(pac:Nat)(ps:List aB)(vd:Value)(n:ah)(li:Nat)(w0 w:World)(N:Int)(hw:Bw w0 w)(hf:f.At ts q w0)(hn:fq w0 po pl)(hp:PartsAt w0 pa ps)(hps:ps.length=pl.length)(hcl:n.cl.At w0)(hco:n.co.At w0)(el:n.l=li)(hll:li<pl.length)
  (h3:∀ i,i<q.wh.length->(q.wh.getD i lz).cs.length<=3) (hcond:∀ i,i<q.wh.length->∀ d∈(q.wh.getD i lz).cs,df d N=true) (XL X:List (List Int) × List Int)
  (hl:∀ x,Bw w0 x->Calls Tryz.prog 83 #[.agg (iM f ts q (.slice po pl.length pc) (.slice pa ps.length pac) vd),.agg (pl.getD li nz).cells] x (mK Tryz.prog w0 XL x))
  (c2:n.kind=2->X=(XL.1.filter (iC q.wh XL.2 n.cl.xs),XL.2)/\adk q.wh XL.2 XL.1 n.cl.xs)
  (c6:n.kind=6->X=(eU (aO XL.2 n.co.xs) XL.1,XL.2)/\(∀ x∈n.co.xs,x∈XL.2)/\0<n.co.xs.length/\n.co.xs.length<=1000/\JF XL.2 XL.1)
  (hk:n.kind=2∨n.kind=6) :
  Calls Tryz.prog 83 #[.agg (iM f ts q (.slice po pl.length pc) (.slice pa ps.length pac) vd),.agg n.cells] w (mK Tryz.prog w0 X w):=by
 obtain⟨v0,v1,v2,v3,v4,v5,v6,v7,v8,v9,U,V,Y,dQ,-,bu,-⟩:=Ju f ts q;obtain⟨nb,no,bL,JG,JH,JI,JJ,JK,JL,JM,-,-⟩:=hn.2 li hll;subst bL;have zG:iM f ts q (.slice (some (aD nb no)) pl.length pc) (.slice pa ps.length pac) vd=#[v0,v1,v2,v3,v4,v5,v6,v7,v8,v9,U,V,Y,.slice (some (aD nb no)) pl.length pc,.slice pa ps.length pac,vd]:=by unfold iM; rw[dQ]; rfl
 have jP:n.cells=#[.int .i64 n.kind,.int .i64 n.l,.int .i64 n.r,.int .i64 n.source,n.cl.val,.int .i64 n.key,n.co.val]:=rfl;have Mw:(pl.getD li nz).cells=#[.int .i64 (pl.getD li nz).kind,.int .i64 (pl.getD li nz).l,.int .i64 (pl.getD li nz).r,.int .i64 (pl.getD li nz).source,(pl.getD li nz).cl.val,.int .i64 (pl.getD li nz).key,(pl.getD li nz).co.val]:=rfl;rw[zG,Mw]at hl;rw[zG,jP,el];obtain⟨w1,bM,aN,ax⟩:=aR w #[v0,v1,v2,v3,v4,v5,v6,v7,v8,v9,U,V,Y,.slice (some (aD nb no)) pl.length pc,.slice pa ps.length pac,vd] 112;obtain⟨J,bP,F,ay⟩:=aR w1 #[.int .i64 n.kind,.int .i64 (li:Int),.int .i64 n.r,.int .i64 n.source,n.cl.val,.int .i64 n.key,n.co.val] 36;obtain⟨u,bR,aP,aQ⟩:=aR J #[Value.nilFunc,.slice none 0 0] 139;have aG:=aC F aP;have aH:=aC aN aG;have A:=aC hw aH;have Q:=ax.of (aG.block _ ax.lt);have ig:=ay.of (aP.block _ ay.lt);obtain⟨bD,bN,bA,bG,bO,bT,bQ,dF,dD,dE,aU,aZ,aV⟩:=Q.k13;have iH:u.cell? (aD w.heap.size 13)=some (.slice (some (aD nb no)) pl.length pc):=Q.cell 13;have iX:u.cell? (aD w.heap.size 14)=some (.slice pa ps.length pac):=Q.cell 14;have jA:u.cell? (aD w.heap.size 15)=some vd:=Q.cell 15;obtain⟨eT,fK,gy,gV,fM,iG,ik⟩:=ig.k7;have JG:=cB A JG;have JH:=cB A JH;have JI:=cB A JI;have JJ:=cB A JJ;have JK:=cB A JK;have JL:=cB A JL;have JM:=cB A JM;have cO:=hn.1;have cZ:(li:Int)<(pl.length:Int):=by omega
 have HL:=Zh hl;have au:=Zh A;have Ua:=Zh aH;have Co:=Zh aQ;have aT:=Zh Q;have aW:=Zh ig;have HZ:=Zh (show w.heap.size<=J.heap.size/\w.heap.size≠J.heap.size/\w1.heap.size≠J.heap.size/\J.heap.size<u.heap.size from ⟨QS aN.size F.size,by have:=ax.lt; have:=F.size; omega,by have:=ay.lt; omega,aQ.lt⟩);have HF:=Zh hf;have uz:=Zh hcl;have l9:=Zh hco;have H3:=Zh h3;have bH:=Zh hcond;have aI:=Zh c2;have aJ:=Zh c6;have vT:=Zh (show #[v0,v1,v2,v3,v4,v5,v6,v7,v8,v9,U,V,Y,.slice (some (aD nb no)) pl.length pc,.slice pa ps.length pac,vd][1]? = some (.slice q.bE q.wh.length q.aF) from congrArg some bu);clear hl aN F aP ax ay aQ Q ig aH aG A hn hp hcl hco hf hw h3 hcond c2 c6 dQ zG jP Mw bu el ok hps;obtain⟨nk,nl,nr,ns,bS,key,bU⟩:=n;simp only at *;generalize (pl.getD li nz).kind=l0 at *;generalize (pl.getD li nz).l=l1 at *;generalize (pl.getD li nz).r=l2 at *;generalize (pl.getD li nz).source=l3 at *;generalize (pl.getD li nz).cl.val=l4 at *;generalize (pl.getD li nz).key=l5 at *;generalize (pl.getD li nz).co.val=l6 at *;obtain⟨Kw,Ky,Fz⟩:=bS;obtain⟨NI,NJ,Mq⟩:=bU;simp only[aa.val]at *;have dh:(nk==1)=false:=by rcases hk with h | h <;> simp[h]
 go_enter Tryz.func83,Tryz.ntmps83;go_upto_region 4 with fail;go_cut [6] from 32 to 39 (fun c wx=>∃ (bl g:Nat) (lb:Array Value) (cv:aa),c=.pointer (some (aD bl 0))/\u.heap.size<=bl/\GB wx bl 139 #[.func (.func g) #[] lb,cv.val]/\AZ Tryz.prog w0 XL u g lb cv wx)
 case first=>
  refine wH u fun k=>?_
  refine wT 0 (.agg #[v0,v1,v2,v3,v4,v5,v6,v7,v8,v9,U,V,Y,.slice (some (aD nb no)) pl.length pc,.slice pa ps.length pac,vd]) k (fun x G=>?_) ?_
  ·have e0:=mi G bD bN bA bG bO bT bQ dF dD dE aU aZ aV;have e1:=cB G iH;have e2:=cB G iX;have e3:=cB G jA;go_simp
  refine wt 1 (.pointer (some (aD w.heap.size 13))) k ?_;refine nN 2 (.slice (some (aD nb no)) pl.length pc) k iH ?_;refine wt 3 (.pointer (some (aD w1.heap.size 1))) k ?_;refine nN 4 (.int .i64 (li:Int)) k fK ?_;refine wt 5 (.pointer (some (aD nb (no+li*7)))) k ?_;refine wT 6 (.agg #[.int .i64 l0,.int .i64 l1,.int .i64 l2,.int .i64 l3,l4,.int .i64 l5,l6]) k (fun x G=>?_) ?_
  ·have e0:=J7 G JG JH JI JJ JK JL JM;go_simp
  refine wJ 7 8 (fun K s=>?_) fun K s=>?_
  ·skip;go_simp;refine(HL.o _ (aC au.o k)).mono ?_;rintro e y ⟨g,lb,⟨iZ,di,fe⟩,rfl,az,D,m⟩;simp only[aa.val];refine oT s k az fun k=>?_
   clear s K;refine wR 8 fun K s=>?_
   go_simp;refine oA s k fun bF=>?_
   clear s K;obtain⟨y2,B⟩:∃ z,y.alloc (.cells #[Value.nilFunc,.slice none 0 0] 139)=z:=⟨_,rfl⟩
   have aX:=bV y (.cells #[Value.nilFunc,.slice none 0 0] 139);have EI:=ZG y #[Value.nilFunc,.slice none 0 0] 139;rw[B]at aX EI bF;rw[B];clear B;have C:u.heap.size<=y.heap.size:=k.size;have H:GB y2 y.heap.size 139 #[Value.nilFunc,.slice none 0 0]:=EI;have aK:=iY (P:=Tryz.prog) (w0:=w0) (w:=u) (y:=y2) (R:=y.heap.size) (g:=g) (lb:=lb) (c:=⟨iZ,di,fe⟩) (X:=XL) bF C H D (fun W h0 hW=>m W h0 (Kept.trans' (QU aX fun _ h _=>h) hW fun b hb hs=>⟨hs,by show b≠_; omega⟩));obtain⟨kE,Z,j⟩:=aK;have z0:y2.cell? (aD y.heap.size 0)=some Value.nilFunc:=H.cell 0;have z1:y2.cell? (aD y.heap.size 1)=some (.slice none 0 0):=H.cell 1;have y0:=H.frozen 0;have y1:=H.frozen 1;have NM:=fun (a:Addr) (c:Array Value) (w:World)=>run_store Tryz.prog w a (.func (.func g) #[] c) .plain rfl
   have uF:=Zh j;have qQ:=Zh Z;clear j Z H m D;refine wR 9 fun K s=>?_
   go_simp;refine s.o _ _ uF.o.1 (fun k=>?_);clear s K;refine wD ?_
   try simp only[pU]
   go_wp2_with fail;go_meet;exact⟨y.heap.size,g,lb,⟨iZ,di,fe⟩,rfl,C,qQ.o,uF.o⟩
  ·skip;go_simp;refine oA s k fun k=>?_
   clear s K;obtain⟨y2,B⟩:∃ z,u.drew.alloc (.cells #[Value.nilFunc,.slice none 0 0] 139)=z:=⟨_,rfl⟩
   have dm:y2.heap.size=u.heap.size+1:=by rw[<- B]; simp
   have EI:GB y2 u.heap.size 139 #[Value.nilFunc,.slice none 0 0]:=by rw[<- B]; exact ZG u.drew _ _
   have aY:Bw u y2:=by rw[<- B]; exact k
   rw[B];clear B k;refine wR 7 fun K s=>?_
   go_simp;refine(HL.o _ (aC au.o aY)).mono ?_;rintro e y ⟨g,lb,⟨iZ,di,fe⟩,rfl,az,D,m⟩;simp only[aa.val];refine oT s aY az fun k=>?_
   clear s K;have C:u.heap.size<=u.heap.size:=(Qs _)
   have H:GB y u.heap.size 139 #[Value.nilFunc,.slice none 0 0]:=EI.of (az.block _ EI.lt);have aK:=iY (P:=Tryz.prog) (w0:=w0) (w:=u) (y:=y) (R:=u.heap.size) (g:=g) (lb:=lb) (c:=⟨iZ,di,fe⟩) (X:=XL) k C H D (fun W h0 hW=>m W h0 (Kept.mono hW fun b _ h=>⟨by have h':y2.heap.size<=b:=h; omega,by have h':y2.heap.size<=b:=h; omega⟩));obtain⟨kE,Z,j⟩:=aK;have z0:y.cell? (aD u.heap.size 0)=some Value.nilFunc:=H.cell 0;have z1:y.cell? (aD u.heap.size 1)=some (.slice none 0 0):=H.cell 1;have y0:=H.frozen 0;have y1:=H.frozen 1;have NM:=fun (a:Addr) (c:Array Value) (w:World)=>run_store Tryz.prog w a (.func (.func g) #[] c) .plain rfl
   have uF:=Zh j;have qQ:=Zh Z;clear j Z H m D;refine wR 9 fun K s=>?_
   go_simp;refine s.o _ _ uF.o.1 (fun k=>?_);clear s K;refine wD ?_
   try simp only[pU]
   go_wp2_with fail;go_meet;exact⟨u.heap.size,g,lb,⟨iZ,di,fe⟩,rfl,C,qQ.o,uF.o⟩
 case rest=>
 obtain⟨bl,g,lb,cv,rfl,C,bz,ai,D,m⟩:=hcut;obtain⟨w4,bW⟩:∃ x,x=wc:=⟨_,rfl⟩
 subst bW;clear bM bP bR JG JH JI JJ JK JL JM bD bN bA bG bO bT bQ dF dD dE aU aZ aV iH iX jA eT fK gy gV fM iG ik;have Q:=aT.o.of (ai.block _ aT.o.lt);have ig:=aW.o.of (ai.block _ aW.o.lt);obtain⟨bD,bN,bA,bG,bO,bT,bQ,dF,dD,dE,aU,aZ,aV⟩:=Q.k13;have iH:w4.cell? (aD w.heap.size 13)=some (.slice (some (aD nb no)) pl.length pc):=Q.cell 13;have iX:w4.cell? (aD w.heap.size 14)=some (.slice pa ps.length pac):=Q.cell 14;have jA:w4.cell? (aD w.heap.size 15)=some vd:=Q.cell 15;obtain⟨eT,fK,gy,gV,fM,iG,ik⟩:=ig.k7;obtain⟨f0,f1⟩:=bz.k2;have pF:=Zh (aC au.o ai);have bf:=Zh (m w4 pF.o (QR _ _)).2.1;have LB:=Zh m;have zP:=Zh D;have qy:=Zh ai;have bI:=Zh C;obtain⟨L,M,E⟩:=cv;simp only[aa.val]at *;clear Q ig bz m D ai C;rcases hk with hk | hk
 ·have H2:=Zh (aI.o hk);clear aI aJ;subst hk;have F:=OY #[v0,v1,v2,v3,v4,v5,v6,v7,v8,v9,U,V,Y,.slice (some (aD nb no)) pl.length pc,.slice pa ps.length pac,vd] q.bE q.aF q.wh vT.o g lb ⟨L,M,E⟩ ⟨Kw,Ky,Fz⟩ XL.1 N w4 (HF.o.below pF.o).query.wh bf.o (Qt pF.o uz.o) H2.o.2.few H2.o.2.num (fun i hi x G=>by show x∈E; rw[zP.o]; exact H2.o.2.dA i hi x G) H3.o bH.o (fun r hr=>by show r.length=E.length; rw[zP.o]; exact H2.o.2.lens r hr);simp only[aa.val]at F;go_wp2_with fail;refine F.mono ?_;rintro e w5 ⟨O,t,rfl,aj,bX⟩;have T:=aC qy.o aj;obtain⟨eX,-⟩:=H2.o;have O5:aa.xs ⟨L,M,E⟩=X.2:=by rw[eX]; exact zP.o
  have sU:∀ W,Bw w0 W->Kept (fun b=>w.heap.size<=b/\b≠J.heap.size) w5 W->dw ag Tryz.prog (.func (.func O) #[] t) X.1 W/\ag.At ⟨L,M,E⟩ W:=fun W h0 hW=>by
   have hz:=HZ.o;have av:=qy.o.size;have hN:=hW.adl hz.1 hz.2.2.2;have hA:=LB.o W h0 (hN.back aj);refine⟨?_,hA.2⟩;have:=bX W (hN.more av) hA.1;rw[eX];rw[show iC q.wh XL.2 Fz=iC q.wh E Fz by rw[zP.o]];exact this
  have I:=Co.o.of (T.block _ Co.o.lt);obtain⟨kE,Z,j⟩:=iY (P:=Tryz.prog) (w0:=w0) (w:=w) (y:=w5) (g:=O) (lb:=t) (c:=⟨L,M,E⟩) (X:=X) (aC Ua.o T) HZ.o.1 I O5 sU;have uF:=Zh j;have qV:=Zh (uI Z);have z0:w5.cell? (aD J.heap.size 0)=some Value.nilFunc:=I.cell 0;have z1:w5.cell? (aD J.heap.size 1)=some (.slice none 0 0):=I.cell 1;have y0:=I.frozen 0;have y1:=I.frozen 1;have NM:=fun (a:Addr) (c:Array Value) (w:World)=>run_store Tryz.prog w a (.func (.func O) #[] c) .plain rfl
  clear j Z I O5 sU T;go_wp2_with fail;exact ZN (Jk (p:=4) rfl rfl qV.o) rfl ⟨O,t,⟨L,M,E⟩,rfl,uF.o⟩
 ·skip;have H6:=Zh (aJ.o hk);clear aI aJ;subst hk;have yF:=Zh fun x (G:Bw w4 x)=>BC (.func (.func g) #[] lb) ⟨L,M,E⟩ ⟨NI,NJ,Mq⟩ x ⟨g,lb,rfl⟩ (Qt G bf.o) (Qt (aC pF.o G) l9.o) (fun y hy=>by show y∈E; rw[zP.o]; exact H6.o.2.1 y hy) H6.o.2.2.2.1
  simp only[aa.val]at yF;go_upto_region 9 with fail;refine QQ (S:=fun x=>Kept (fun b=>b≠J.heap.size) w4 x) (by kernel_rfl) (QU ((Qr _ _).drew) fun _ h _=>h) (fun k=>?_);have Vw:=Zh (show bl≠J.heap.size by have:=bI.o; have:=HZ.o.2.2.2; omega);refine wt 0 (.pointer (some (aD bl 0))) k ?_;refine wtk 1 (.func (.func g) #[] lb) k f0 Vw.o ?_;refine wT 2 (.agg #[.func (.func g) #[] lb,.slice L E.length M]) k (fun x G=>?_) ?_
  ·have e0:=Zj f0 G Vw.o;have e1:=Zj f1 G Vw.o;go_simp
  refine wt 3 (.pointer (some (aD w1.heap.size 6))) k ?_;refine wtk 4 (.slice NI Mq.length NJ) k ik HZ.o.2.2.1 ?_;refine wt 7 (.pointer (some (aD bl 1))) k ?_;refine wtk 8 (.slice L E.length M) k f1 Vw.o ?_;refine wR 5 fun K s=>?_
  go_simp;refine(yF.o _ ((Qr _ _).drew)).mono ?_;rintro e w5 ⟨iv,rfl,aA,bB,aj,bC⟩;refine oK s k aj fun k=>?_
  clear s K;have T:Bw w4 w5:=(Qr _ _).drew.trans aj;have bg:=H6.o.2.2.2.2;have bn:iv.xs.length=Mq.length:=by rw[aA]; unfold aO; simp
  refine wR 6 fun K s=>?_
  have bq:=afY g lb iv XL.1 w5 (by rw[bn]; exact H6.o.2.2.1) bg.few (fun r hr=>by rw[aA,bg.lens r hr]; exact Ea (by rw[zP.o]) (fun y hy=>by rw[zP.o]; exact H6.o.2.1 y hy));have bJ:=Zh aA;have Kb:=Zh bB;have Mr:=Zh bC;obtain⟨bY,bZ,cu⟩:=iv;simp only[aa.val]at *;clear aA bB bC bn;go_simp;refine bq.mono ?_;rintro e w6 ⟨v,rfl,ak,jY⟩;refine oK s k ak fun k=>?_
  clear s K;obtain⟨eX,-⟩:=H6.o;have O5:aa.xs ⟨L,M,E⟩=X.2:=by rw[eX]; exact zP.o
  have aL:=aC qy.o (aC T ak);have aM:∀ W,Bw w0 W->Kept (fun b=>w.heap.size<=b/\b≠J.heap.size) w6 W->dw ag Tryz.prog v X.1 W/\ag.At ⟨L,M,E⟩ W:=fun W h0 hW=>by
   have hz:=HZ.o;have av:=qy.o.size;have bK:=T.size;have hN:=hW.adl hz.1 hz.2.2.2;have hA:=LB.o W h0 ((hN.back ak).back T);refine⟨?_,hA.2⟩;rw[eX];have h:=jY W (hN.more (QS av bK)) hA.1 (ag.keep (x:=⟨bY,bZ,cu⟩) Kb.o (hN.back ak).size fun b hb cz=>(hN.back ak).block b hb (QS av (Mr.o b cz))).1;rw[<- zP.o,<- bJ.o];exact h
  obtain⟨O,t,rfl⟩:∃ O t,v=.func (.func O) #[] t:=by
   obtain⟨h1,-⟩:=aM w6 (aC au.o aL) (QR _ _);obtain⟨O,t,h,_⟩:=h1;exact⟨O,t,h⟩
  have sU:=aM;have T:=aL;clear aM aL jY bq;have I:=Co.o.of (T.block _ Co.o.lt);obtain⟨kE,Z,j⟩:=iY (P:=Tryz.prog) (w0:=w0) (w:=w) (y:=w6) (g:=O) (lb:=t) (c:=⟨L,M,E⟩) (X:=X) (aC Ua.o T) HZ.o.1 I O5 sU;have uF:=Zh j;have qV:=Zh (uI Z);have z0:w6.cell? (aD J.heap.size 0)=some Value.nilFunc:=I.cell 0;have z1:w6.cell? (aD J.heap.size 1)=some (.slice none 0 0):=I.cell 1;have y0:=I.frozen 0;have y1:=I.frozen 1;have NM:=fun (a:Addr) (c:Array Value) (w:World)=>run_store Tryz.prog w a (.func (.func O) #[] c) .plain rfl
  clear j Z I O5 sU T;refine wt 9 (.agg #[.func (.func O) #[] t,.slice L E.length M]) k ?_;refine wR 10 fun K s=>?_
  go_simp;refine s.o _ _ (k.trans kE) (fun k=>?_);clear s K;refine wD ?_
  try simp only[pU]
  go_wp2_with fail;exact ZN (Jk (p:=4) rfl rfl qV.o) rfl ⟨O,t,⟨L,M,E⟩,rfl,uF.o⟩
