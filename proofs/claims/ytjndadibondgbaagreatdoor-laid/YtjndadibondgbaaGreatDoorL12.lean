import Derived.Test.YtjndadibondgbaaGreatDoorL11
set_option linter.all false
set_option maxRecDepth 100000
set_option maxHeartbeats 16000000
namespace Go.Proofs.Zz
open Go.RowKit Go.Shelf
theorem xe(f:aS)(ts:List af)(q:ae)(b:Nat)(c:Int)(w:World)(ok:Ok ts q)(hf:iQ w f.ca (fZ ts q))(h0:w.cell? (aD b 0)=some (.int .i64 c))(hc:qU ts q [c]) :
  Cb 87 #[.agg (f.cells ts q),.slice (some (aD b 0)) 1 1] w (.int .u64 ((2 ^ aj ts q.src.xs c:Nat):Int)):=by
 have h:=wY f ts q (some (aD b 0)) 1 [c] w ok hf ⟨by simp,fun i d=>⟨b,0,rfl,by
  have a:i<1:=d;obtain rfl:i=0:=by omega
  exact h0⟩⟩ hc
 have e:aL (kP ts q [c])=2 ^ aj ts q.src.xs c:=uf _;rw[e]at h;exact h
theorem oz(f:aS)(ts:List af)(q:ae)(n:ah)(l r:aB)(w:World)(ok:Ok ts q)(hf:f.At ts q w)(hn:n.cl.At w)(hl:l.sources<=bB)(hr:r.sources<=bB) :
  Cb 92 #[.agg (f.cells ts q),.agg n.cells,.agg l.cells,.agg r.cells] w (.tuple #[.int .i64 (lH ts q n l.sources r.sources).1,.int .i64 (lH ts q n l.sources r.sources).2.1,.bool (lH ts q n l.sources r.sources).2.2]):=by
 obtain⟨v0,v1,v2,v3,v4,v5,v6,v7,v8,v9,t,u,v,dQ,-,bK,-⟩:=Ju f ts q;obtain⟨w1,aI,bg,aJ⟩:=aR w ((f.cells ts q)) 70;obtain⟨w2,bL,bn,aK⟩:=aR w1 n.cells 36;obtain⟨w3,bM,bq,aL⟩:=aR w2 l.cells 75;obtain⟨w4,bP,bu,bz⟩:=aR w3 r.cells 75;have L:=bu;have M:=aC bq L;have N:=aC bn M;have z:=aC bg N;have cK:=aJ.of (N.block _ aJ.lt);have ig:=aK.of (M.block _ aK.lt);have fM:=ig.at 4;have iG:=ig.at 5;have YZ:=aL.of (L.block _ aL.lt);have Gg:=YZ.at 1;have aP:=bz;have Gh:=aP.at 1;obtain⟨bD,bN,bA,bG,bO,bT,bQ,dF,dD,dE,aU,aZ,aV⟩:=cK.k13 (by rw[dQ]; rfl);have aQ:l.sources<18446744073709551616:=by unfold bB at hl; omega
 have aT:r.sources<18446744073709551616:=by unfold bB at hr; omega
 have T9:Hid _:=zD n.cl.ad n.cl.cap n.cl.xs n.key w4 (Qt z hn);have G:Hid (lH ts q n l.sources r.sources=if n.key∈n.cl.xs/\0<=n.key/\n.key<q.wh.length then Dq ts q.src.xs (q.wh.getD n.key.toNat lz).cs l.sources r.sources else (0,0,false)):=rfl;have E:Hid (∀ x b c,Bw w4 x->x.cell? (aD b 0)=some (.int .i64 c)->qU ts q [c]->Cb 87 #[.agg (f.cells ts q),.slice (some (aD b 0)) 1 1] x (.int .u64 ((2 ^ aj ts q.src.xs c:Nat):Int))):=
  fun x b c hb I hc=>xe f ts q b c x ok (hf.cols.below (aC z hb)) I hc
 have O:Hid (∀ c,qU ts q [c]->2 ^ aj ts q.src.xs c<18446744073709551616):=fun c hc=>by
  obtain⟨I,h1⟩:=hc c (by simp);exact Jg (n:=64) (by omega) (QT (Eu ok I h1) ok.small)
 have P:Hid (∀ x m,m<18446744073709551616->_):=fun x m hm=>rY l.sources m aQ hm x
 have Q:Hid (∀ x m,m<18446744073709551616->_):=fun x m hm=>rY r.sources m aT hm x
 have vT:Hid (∀ k,k<q.wh.length->(∃ b off,q.bE=some (aD b off)/\w4.cell? (aD b (off+k))=some (.slice (q.wh.getD k lz).ad (q.wh.getD k lz).cs.length (q.wh.getD k lz).cap))/\bH w4 (q.wh.getD k lz).ad (q.wh.getD k lz).cs/\0<(q.wh.getD k lz).cs.length):=fun k H=>by
  have hW:=hf.query.wh.below z;obtain⟨b,off,e,hc⟩:=hW.2.1 k H;exact⟨⟨b,off,e,hc⟩,hW.2.2 k H,ok.some k H⟩
 have A:Hid (∀ k,k<q.wh.length->_):=fun k H=>@Y0 ts q ok k H
 have bV:=hf.query.wh.1;have HC:=Zh z;rw[dQ]at E aI ⊢;subst bK;obtain⟨nk,nl,nr,ns,⟨na,nc,nx⟩,ny,no⟩:=n;unfold aa.val at *;simp only at *;generalize bS:lH ts q _ l.sources r.sources=KV at *;clear bS;generalize ah.cells _=NC at *;generalize l.cells=LC at *;generalize r.cells=RC at *;generalize l.sources=a at *;generalize r.sources=b at *;clear z N M L bg bn bq bu aJ aK aL bz cK ig YZ aP hf ok hn hl hr aQ aT dQ;have y:=T9.o;clear T9;by_cases D:ny∈nx
 ·rw[Qy D]at y;by_cases I:ny<0
  ·obtain rfl:KV=(0,0,false):=by rw[G.o,Qv (fun h=>absurd h.2.1 (by omega))]
   clear G E P Q vT A O;go_enter Tryz.func92,Tryz.ntmps92;go_wp2_with fail;refine Jj y ?_;clear y;rintro e w5 ⟨rfl,rfl⟩;go_wp2;go_ret3;exact⟨rfl,HC.o⟩
  by_cases h1:(q.wh.length:Int)<=ny
  ·obtain rfl:KV=(0,0,false):=by rw[G.o,Qv (fun h=>absurd h.2.2 (by omega))]
   clear G E P Q vT A O;go_enter Tryz.func92,Tryz.ntmps92;go_wp2_with fail;refine Jj y ?_;clear y;rintro e w5 ⟨rfl,rfl⟩;go_wp2;go_ret3;exact⟨rfl,HC.o⟩
  obtain⟨k,rfl⟩:=Jh (show 0<=ny by omega);have H:k<q.wh.length:=by omega
  have s:=Zh G.o;rw[Qu ⟨D,by omega,by omega⟩,ZY,ada]at s;obtain⟨⟨qb,qo,bC,bR⟩,B,J⟩:=vT.o k H;have R:=Zh (A.o k H);rw[bC]at bN E aI ⊢;have F:=AY (q.wh.getD k lz).ad (q.wh.getD k lz).cap (q.wh.getD k lz).cs w4 B J;clear G vT A B J bC D;generalize (q.wh.getD k lz).cap=di at *;generalize (q.wh.getD k lz).ad=iZ at *;generalize (q.wh.getD k lz).cs=cs at *;generalize iF cs=EC at *;obtain⟨EL,ER,EB⟩:=EC;simp only at *;generalize bU:q.wh.length=nw at *;clear bU
  cases EB with
  | false =>
   obtain rfl:KV=(0,0,false):=by rw[s.o,Qu rfl]
   clear s E P Q R O;go_enter Tryz.func92,Tryz.ntmps92;go_wp2_with fail;refine Jj y ?_;clear y;rintro e w5 ⟨rfl,rfl⟩;go_wp2_with fail;refine Jj F ?_;clear F;rintro e w6 ⟨rfl,i⟩;have S:=Zh (aC HC.o i);clear i;go_wp2;go_ret3;exact⟨rfl,S.o⟩
  | true =>
   obtain⟨aM,aN⟩:=R.o rfl;have T:=O.o EL aM;have U:=O.o ER aN;have Ev:Hid (∀ x b,_->_->_):=fun x b hb I=>E.o x b EL hb I aM
   have V:Hid (∀ x b,_->_->_):=fun x b hb I=>E.o x b ER hb I aN
   rw[Qv (by simp)]at s;generalize 2 ^ aj ts q.src.xs EL=SL at *;generalize 2 ^ aj ts q.src.xs ER=SR at *;have aW:Hid (∀ x,_):=fun x=>P.o x SL T
   have aX:Hid (∀ x,_):=fun x=>P.o x SR U
   have bF:Hid (∀ x,_):=fun x=>Q.o x SL T
   have gX:Hid (∀ x,_):=fun x=>Q.o x SR U
   generalize dG a SL=AL at *;generalize dG a SR=AR at *;generalize dG b SL=BL at *;generalize dG b SR=BR at *;clear R O E P Q aM aN T U;go_enter Tryz.func92,Tryz.ntmps92;go_wp2_with fail;refine Jj y ?_;clear y;rintro e w5 ⟨rfl,rfl⟩;go_wp2_with fail;refine Jj F ?_;clear F aI bL bM bP;rintro e w6 ⟨rfl,i⟩;have Y4:=cB i Gg;have W:=cB i Gh;have Gi:=cB i bD;have Gj:=cB i bN;have Gl:=cB i bA;have Gm:=cB i bG;have Gn:=cB i bO;have Gp:=cB i bT;have Gq:=cB i bQ;have Gs:=cB i dF;have Gt:=cB i dD;have Gu:=cB i dE;have xg:=cB i aU;have xh:=cB i aZ;have xq:=cB i aV;have S:=Zh i;have X:=Zh (aC HC.o i);clear i bR fM iG Gg Gh bD bN bA bG bO bT bQ dF dD dE aU aZ aV;go_upto_region 6 with fail;go_cut [48] from 49 to 64 (fun c wx=>c=.bool (AL&&BR)/\Bw w6 wx)
   case first=>
    cases AL with
    | true =>
     refine wH w6 fun d=>?_
     refine wt 0 (.pointer (some (aD w2.heap.size 1))) d ?_;refine nN 1 (.int .u64 (a:Int)) d Y4 ?_;refine wT 2 (.agg #[v0,.slice (some (aD qb qo)) nw q.aF,v2,v3,v4,v5,v6,v7,v8,v9,t,u,v]) d (fun x C=>?_) ?_
     ·have e0:=mi C Gi Gj Gl Gm Gn Gp Gq Gs Gt Gu xg xh xq;go_simp
     refine wt 3 (.int .i64 EL) d ?_;refine wR 4 fun K g=>?_
     go_simp;refine oA g d fun d=>?_
     clear g K;refine wR 5 fun K g=>?_
     go_simp;refine Jj (Ev.o _ w6.heap.size (aC S.o d) (by simp)) ?_;rintro e wy ⟨rfl,p⟩;refine oT g d p fun d=>?_
     clear g K;refine wR 6 fun K g=>?_
     go_simp;refine Jj (aW.o _) ?_;rintro e wz ⟨rfl,rfl⟩;refine g.o _ _ d fun d=>?_
     clear g K;refine wR 7 fun K g=>?_
     go_simp;refine g.o _ _ d fun d=>?_
     clear g K;refine wt 8 (.pointer (some (aD w3.heap.size 1))) d ?_;refine nN 9 (.int .u64 (b:Int)) d W ?_;refine wT 10 (.agg #[v0,.slice (some (aD qb qo)) nw q.aF,v2,v3,v4,v5,v6,v7,v8,v9,t,u,v]) d (fun x C=>?_) ?_
     ·have e0:=mi C Gi Gj Gl Gm Gn Gp Gq Gs Gt Gu xg xh xq;go_simp
     refine wt 11 (.int .i64 ER) d ?_;refine wR 12 fun K g=>?_
     go_simp;refine oA g d fun d=>?_
     clear g K;refine wR 13 fun K g=>?_
     go_simp;refine Jj (V.o _ wz.heap.size (aC S.o d) (by simp)) ?_;rintro e wu ⟨rfl,aO⟩;refine oT g d aO fun d=>?_
     clear g K;refine wR 14 fun K g=>?_
     go_simp;refine Jj (gX.o _) ?_;rintro e wv ⟨rfl,rfl⟩;refine g.o _ _ d fun d=>?_
     clear g K;refine wR 15 fun K g=>?_
     go_simp;refine g.o _ _ d fun d=>?_
     clear g K;refine wR 16 fun K g=>?_
     go_simp;refine g.o _ _ d fun d=>?_
     clear g K;refine wD ?_
     try simp only[pU]
     go_wp2_with fail;go_meet;exact⟨rfl,d⟩
    | false =>
     refine wH w6 fun d=>?_
     refine wt 0 (.pointer (some (aD w2.heap.size 1))) d ?_;refine nN 1 (.int .u64 (a:Int)) d Y4 ?_;refine wT 2 (.agg #[v0,.slice (some (aD qb qo)) nw q.aF,v2,v3,v4,v5,v6,v7,v8,v9,t,u,v]) d (fun x C=>?_) ?_
     ·have e0:=mi C Gi Gj Gl Gm Gn Gp Gq Gs Gt Gu xg xh xq;go_simp
     refine wt 3 (.int .i64 EL) d ?_;refine wR 4 fun K g=>?_
     go_simp;refine oA g d fun d=>?_
     clear g K;refine wR 5 fun K g=>?_
     go_simp;refine Jj (Ev.o _ w6.heap.size (aC S.o d) (by simp)) ?_;rintro e wy ⟨rfl,p⟩;refine oT g d p fun d=>?_
     clear g K;refine wR 6 fun K g=>?_
     go_simp;refine Jj (aW.o _) ?_;rintro e wz ⟨rfl,rfl⟩;refine g.o _ _ d fun d=>?_
     clear g K;refine wR 7 fun K g=>?_
     go_simp;refine g.o _ _ d fun d=>?_
     clear g K;refine wV 8 d ?_;refine wV 9 d ?_;refine wV 10 d ?_;refine wV 11 d ?_;refine wV 12 d ?_;refine wV 13 d ?_;refine wV 14 d ?_;refine wR 15 fun K g=>?_
     go_simp;refine g.o _ _ d fun d=>?_
     clear g K;refine wR 16 fun K g=>?_
     go_simp;refine g.o _ _ d fun d=>?_
     clear g K;refine wD ?_
     try simp only[pU]
     go_wp2_with fail;go_meet;exact⟨rfl,d⟩
   case rest=>
   obtain⟨rfl,j⟩:=hcut
   cases Wu:(AL&&BR) with
   | true =>
    rw[Wu,Qu rfl]at s;obtain rfl:=s.o;have Ms:=Zh (aC X.o j);clear j s;go_wp2;go_ret3;exact⟨rfl,Ms.o⟩
   | false =>
   rw[Wu,Qv (by simp)]at s;have Ms:=Zh (aC S.o j);have bI:=Zh (aC X.o j);have aY:=cB j Y4;have bJ:=cB j W;have Y:=cB j Gi;have Z:=cB j Gj;have ag:=cB j Gl;have ai:=cB j Gm;have ak:=cB j Gn;have au:=cB j Gp;have av:=cB j Gq;have ax:=cB j Gs;have ay:=cB j Gt;have az:=cB j Gu;have aA:=cB j xg;have aG:=cB j xh;have aH:=cB j xq;clear j Wu S X Y4 W Gi Gj Gl Gm Gn Gp Gq Gs Gt Gu xg xh xq;go_upto_region 8 with fail;go_cut [67] from 68 to 83 (fun c wy=>c=.bool (AR&&BL)/\Bw wc wy)
   case first=>
    cases AR with
    | true =>
     refine wH wc fun d=>?_
     refine wt 0 (.pointer (some (aD w2.heap.size 1))) d ?_;refine nN 1 (.int .u64 (a:Int)) d aY ?_;refine wT 2 (.agg #[v0,.slice (some (aD qb qo)) nw q.aF,v2,v3,v4,v5,v6,v7,v8,v9,t,u,v]) d (fun x C=>?_) ?_
     ·have e0:=mi C Y Z ag ai ak au av ax ay az aA aG aH;go_simp
     refine wt 3 (.int .i64 ER) d ?_;refine wR 4 fun K g=>?_
     go_simp;refine oA g d fun d=>?_
     clear g K;refine wR 5 fun K g=>?_
     go_simp;refine Jj (V.o _ wc.heap.size (aC Ms.o d) (by simp)) ?_;rintro e wy ⟨rfl,p⟩;refine oT g d p fun d=>?_
     clear g K;refine wR 6 fun K g=>?_
     go_simp;refine Jj (aX.o _) ?_;rintro e wz ⟨rfl,rfl⟩;refine g.o _ _ d fun d=>?_
     clear g K;refine wR 7 fun K g=>?_
     go_simp;refine g.o _ _ d fun d=>?_
     clear g K;refine wt 8 (.pointer (some (aD w3.heap.size 1))) d ?_;refine nN 9 (.int .u64 (b:Int)) d bJ ?_;refine wT 10 (.agg #[v0,.slice (some (aD qb qo)) nw q.aF,v2,v3,v4,v5,v6,v7,v8,v9,t,u,v]) d (fun x C=>?_) ?_
     ·have e0:=mi C Y Z ag ai ak au av ax ay az aA aG aH;go_simp
     refine wt 11 (.int .i64 EL) d ?_;refine wR 12 fun K g=>?_
     go_simp;refine oA g d fun d=>?_
     clear g K;refine wR 13 fun K g=>?_
     go_simp;refine Jj (Ev.o _ wz.heap.size (aC Ms.o d) (by simp)) ?_;rintro e wu ⟨rfl,aO⟩;refine oT g d aO fun d=>?_
     clear g K;refine wR 14 fun K g=>?_
     go_simp;refine Jj (bF.o _) ?_;rintro e wv ⟨rfl,rfl⟩;refine g.o _ _ d fun d=>?_
     clear g K;refine wR 15 fun K g=>?_
     go_simp;refine g.o _ _ d fun d=>?_
     clear g K;refine wR 16 fun K g=>?_
     go_simp;refine g.o _ _ d fun d=>?_
     clear g K;refine wD ?_
     try simp only[pU]
     go_wp2_with fail;go_meet;exact⟨rfl,d⟩
    | false =>
     refine wH wc fun d=>?_
     refine wt 0 (.pointer (some (aD w2.heap.size 1))) d ?_;refine nN 1 (.int .u64 (a:Int)) d aY ?_;refine wT 2 (.agg #[v0,.slice (some (aD qb qo)) nw q.aF,v2,v3,v4,v5,v6,v7,v8,v9,t,u,v]) d (fun x C=>?_) ?_
     ·have e0:=mi C Y Z ag ai ak au av ax ay az aA aG aH;go_simp
     refine wt 3 (.int .i64 ER) d ?_;refine wR 4 fun K g=>?_
     go_simp;refine oA g d fun d=>?_
     clear g K;refine wR 5 fun K g=>?_
     go_simp;refine Jj (V.o _ wc.heap.size (aC Ms.o d) (by simp)) ?_;rintro e wy ⟨rfl,p⟩;refine oT g d p fun d=>?_
     clear g K;refine wR 6 fun K g=>?_
     go_simp;refine Jj (aX.o _) ?_;rintro e wz ⟨rfl,rfl⟩;refine g.o _ _ d fun d=>?_
     clear g K;refine wR 7 fun K g=>?_
     go_simp;refine g.o _ _ d fun d=>?_
     clear g K;refine wV 8 d ?_;refine wV 9 d ?_;refine wV 10 d ?_;refine wV 11 d ?_;refine wV 12 d ?_;refine wV 13 d ?_;refine wV 14 d ?_;refine wR 15 fun K g=>?_
     go_simp;refine g.o _ _ d fun d=>?_
     clear g K;refine wR 16 fun K g=>?_
     go_simp;refine g.o _ _ d fun d=>?_
     clear g K;refine wD ?_
     try simp only[pU]
     go_wp2_with fail;go_meet;exact⟨rfl,d⟩
   case rest=>
   obtain⟨rfl,Ew⟩:=hcut;have bf:=Zh (aC bI.o Ew)
   cases Wu:(AR&&BL) with
   | true =>
    rw[Wu,Qu rfl]at s;obtain rfl:=s.o;clear Ew s;go_wp2;go_ret3;exact⟨rfl,bf.o⟩
   | false =>
    rw[Wu,Qv (by simp)]at s;obtain rfl:=s.o;clear Ew s;go_wp2;go_ret3;exact⟨rfl,bf.o⟩
 ·rw[Qg D]at y;obtain rfl:KV=(0,0,false):=by rw[G.o,Qv (fun h=>D h.1)]
  clear G E P Q vT A O;go_enter Tryz.func92,Tryz.ntmps92;go_wp2_with fail;refine Jj y ?_;clear y;rintro e w5 ⟨rfl,rfl⟩;go_wp2;go_ret3;exact⟨rfl,HC.o⟩
