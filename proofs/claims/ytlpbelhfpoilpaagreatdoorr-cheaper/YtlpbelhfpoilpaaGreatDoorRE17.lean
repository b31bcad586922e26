import Derived.Test.YtlpbelhfpoilpaaGreatDoorRE16
set_option linter.all false
set_option maxRecDepth 100000
set_option maxHeartbeats 16000000
namespace Go.Proofs.Zz
open Go.RowKit Go.Shelf
theorem uX(f:au)(ts:List af)(q:ae)(b:Nat)(c:Int)(w:World)(ok:Ok ts q)(hf:iF w f.ca (iP ts q))(h0:w.cell? (aD b 0)=some (.int .i64 c))(hc:gB ts q [c]) :
  Cb 196 #[.agg (f.cells ts q),.slice (some (aD b 0)) 1 1] w (.int .u64 ((2 ^ aY ts q.src.xs c:Nat):Int)):=by
 have h:=pg f ts q (some (aD b 0)) 1 [c] w ok hf ⟨by simp,fun i hi=>⟨b,0,rfl,by
  have hi':i<1:=hi;obtain rfl:i=0:=by omega
  exact h0⟩⟩ hc
 have e:bE (fo ts q [c])=2 ^ aY ts q.src.xs c:=Br _;rw[e]at h;exact h
theorem nS(f:au)(ts:List af)(q:ae)(n:ai)(l r:az)(w:World)(ok:Ok ts q)(hf:f.At ts q w)(hn:n.cl.At w)(hl:l.sources<=bV)(hr:r.sources<=bV) :
  Cb 201 #[.agg (f.cells ts q),.agg n.cells,.agg l.cells,.agg r.cells] w (.tuple #[.int .i64 (iM ts q n l.sources r.sources).1,.int .i64 (iM ts q n l.sources r.sources).2.1,.bool (iM ts q n l.sources r.sources).2.2]):=by
 obtain⟨v0,v1,v2,v3,v4,v5,v6,v7,v8,v9,v10,v11,v12,bB,-,hv1,-⟩:=Xu f ts q;obtain⟨w1,hw1,hk1,hg1⟩:=aU w ((f.cells ts q)) 90;obtain⟨w2,hw2,hk2,hg2⟩:=aU w1 n.cells 58;obtain⟨w3,hw3,hk3,hg3⟩:=aU w2 l.cells 95;obtain⟨w4,hw4,hk4,hg4⟩:=aU w3 r.cells 95;have hc3:=hk4;have hc2:=aA hk3 hc3;have hc1:=aA hk2 hc2;have hc0:=aA hk1 hc1;have iq:=hg1.of (hc1.block _ hg1.lt);have kI:=hg2.of (hc2.block _ hg2.lt);have kr:=kI.at 4;have ng:=kI.at 5;have gg3:=hg3.of (hc3.block _ hg3.lt);have NP:=gg3.at 1;have gg4:=hg4;have NQ:=gg4.at 1;obtain⟨dJ,dY,dH,dW,dZ,eU,eH,gy,fV,fZ,dz,dE,dA⟩:=iq.k13 (by rw[bB]; rfl);have hla:l.sources<18446744073709551616:=by unfold bV at hl; omega
 have hra:r.sources<18446744073709551616:=by unfold bV at hr; omega
 have J5:Hid _:=xA n.cl.ad n.cl.cap n.cl.xs n.key w4 (Qv hc0 hn);have MM:Hid (iM ts q n l.sources r.sources=if n.key∈n.cl.xs/\0<=n.key/\n.key<q.wh.length then RF ts q.src.xs (q.wh.getD n.key.toNat lz).cs l.sources r.sources else (0,0,false)):=rfl;have uS:Hid (∀ x b c,Bw w4 x->x.cell? (aD b 0)=some (.int .i64 c)->gB ts q [c]->Cb 196 #[.agg (f.cells ts q),.slice (some (aD b 0)) 1 1] x (.int .u64 ((2 ^ aY ts q.src.xs c:Nat):Int))):=
  fun x b c hb h0 hc=>uX f ts q b c x ok (hf.aO.below (aA hc0 hb)) h0 hc
 have HP:Hid (∀ c,gB ts q [c]->2 ^ aY ts q.src.xs c<18446744073709551616):=fun c hc=>by
  obtain⟨h0,h1⟩:=hc c (by simp);exact Xi (n:=64) (by omega) (Q6 (BN ok h0 h1) ok.small)
 have FP:Hid (∀ x m,m<18446744073709551616->_):=fun x m hm=>lN l.sources m hla hm x
 have qX:Hid (∀ x m,m<18446744073709551616->_):=fun x m hm=>lN r.sources m hra hm x
 have yS:Hid (∀ k,k<q.wh.length->(∃ b off,q.bY=some (aD b off)/\w4.cell? (aD b (off+k))=some (.slice (q.wh.getD k lz).ad (q.wh.getD k lz).cs.length (q.wh.getD k lz).cap))/\bH w4 (q.wh.getD k lz).ad (q.wh.getD k lz).cs/\0<(q.wh.getD k lz).cs.length):=fun k hk=>by
  have hW:=hf.query.wh.below hc0;obtain⟨b,off,e,hc⟩:=hW.2.1 k hk;exact⟨⟨b,off,e,hc⟩,hW.2.2 k hk,ok.some k hk⟩
 have HEO:Hid (∀ k,k<q.wh.length->_):=fun k hk=>@FO ts q ok k hk
 have hwl:=hf.query.wh.1;have HC:=Zh hc0;rw[bB]at uS hw1 ⊢;subst hv1;obtain⟨nk,nl,nr,ns,⟨na,nc,nx⟩,ny,no⟩:=n;unfold ah.val at *;simp only at *;generalize hKV:iM ts q _ l.sources r.sources=KV at *;clear hKV;generalize ai.cells _=NC at *;generalize l.cells=LC at *;generalize r.cells=RC at *;generalize l.sources=a at *;generalize r.sources=b at *;clear hc0 hc1 hc2 hc3 hk1 hk2 hk3 hk4 hg1 hg2 hg3 hg4 iq kI gg3 gg4 hf ok hn hl hr hla hra bB;have wW:=J5.o;clear J5;by_cases hin:ny∈nx
 ·rw[QD hin]at wW;by_cases h0:ny<0
  ·obtain rfl:KV=(0,0,false):=by rw[MM.o,Qz (fun h=>absurd h.2.1 (by omega))]
   clear MM uS FP qX yS HEO HP;go_enter Tryz.func201,Tryz.ntmps201;go_wp2_with fail;refine Xt wW ?_;clear wW;rintro e w5 ⟨rfl,rfl⟩;go_wp2;go_ret3;exact⟨rfl,HC.o⟩
  by_cases h1:(q.wh.length:Int)<=ny
  ·obtain rfl:KV=(0,0,false):=by rw[MM.o,Qz (fun h=>absurd h.2.2 (by omega))]
   clear MM uS FP qX yS HEO HP;go_enter Tryz.func201,Tryz.ntmps201;go_wp2_with fail;refine Xt wW ?_;clear wW;rintro e w5 ⟨rfl,rfl⟩;go_wp2;go_ret3;exact⟨rfl,HC.o⟩
  obtain⟨k,rfl⟩:=Xo (show 0<=ny by omega);have hk:k<q.wh.length:=by omega
  have rQ:=Zh MM.o;rw[Qy ⟨hin,by omega,by omega⟩,Zj,YI]at rQ;obtain⟨⟨qb,qo,hqw,hqc⟩,hcond,hpos⟩:=yS.o k hk;have agM:=Zh (HEO.o k hk);rw[hqw]at dY uS hw1 ⊢;have hEC:=qh (q.wh.getD k lz).ad (q.wh.getD k lz).cap (q.wh.getD k lz).cs w4 hcond hpos;clear MM yS HEO hcond hpos hqw hin;generalize (q.wh.getD k lz).cap=NG at *;generalize (q.wh.getD k lz).ad=cad at *;generalize (q.wh.getD k lz).cs=cs at *;generalize bF cs=EC at *;obtain⟨EL,ER,EB⟩:=EC;simp only at *;generalize hNW:q.wh.length=nw at *;clear hNW
  cases EB with
  | false =>
   obtain rfl:KV=(0,0,false):=by rw[rQ.o,Qy rfl]
   clear rQ uS FP qX agM HP;go_enter Tryz.func201,Tryz.ntmps201;go_wp2_with fail;refine Xt wW ?_;clear wW;rintro e w5 ⟨rfl,rfl⟩;go_wp2_with fail;refine Xt hEC ?_;clear hEC;rintro e w6 ⟨rfl,hb6⟩;have Af:=Zh (aA HC.o hb6);clear hb6;go_wp2;go_ret3;exact⟨rfl,Af.o⟩
  | true =>
   obtain⟨hoL,hoR⟩:=agM.o rfl;have hpL:=HP.o EL hoL;have hpR:=HP.o ER hoR;have Fu:Hid (∀ x b,_->_->_):=fun x b hb h0=>uS.o x b EL hb h0 hoL
   have HSR:Hid (∀ x b,_->_->_):=fun x b hb h0=>uS.o x b ER hb h0 hoR
   rw[Qz (by simp)]at rQ;generalize 2 ^ aY ts q.src.xs EL=SL at *;generalize 2 ^ aY ts q.src.xs ER=SR at *;have Yy:Hid (∀ x,_):=fun x=>FP.o x SL hpL
   have HAR:Hid (∀ x,_):=fun x=>FP.o x SR hpR
   have OO:Hid (∀ x,_):=fun x=>qX.o x SL hpL
   have DI:Hid (∀ x,_):=fun x=>qX.o x SR hpR
   generalize aS a SL=AL at *;generalize aS a SR=AR at *;generalize aS b SL=BL at *;generalize aS b SR=BR at *;clear agM HP uS FP qX hoL hoR hpL hpR;go_enter Tryz.func201,Tryz.ntmps201;go_wp2_with fail;refine Xt wW ?_;clear wW;rintro e w5 ⟨rfl,rfl⟩;go_wp2_with fail;refine Xt hEC ?_;clear hEC hw1 hw2 hw3 hw4;rintro e w6 ⟨rfl,hb6⟩;have Ux:=cB hb6 NP;have YJ:=cB hb6 NQ;have Ee:=cB hb6 dJ;have Ef:=cB hb6 dY;have Eg:=cB hb6 dH;have Eh:=cB hb6 dW;have Ei:=cB hb6 dZ;have Ej:=cB hb6 eU;have Em:=cB hb6 eH;have En:=cB hb6 gy;have Eo:=cB hb6 fV;have Ep:=cB hb6 fZ;have uY:=cB hb6 dz;have uZ:=cB hb6 dE;have ve:=cB hb6 dA;have Af:=Zh hb6;have HC6:=Zh (aA HC.o hb6);clear hb6 hqc kr ng NP NQ dJ dY dH dW dZ eU eH gy fV fZ dz dE dA;go_upto_region 6 with fail;go_cut [48] from 49 to 64 (fun c wx=>c=.bool (AL&&BR)/\Bw w6 wx)
   case first=>
    cases AL with
    | true =>
     refine wH w6 fun hS=>?_
     refine wt 0 (.pointer (some (aD w2.heap.size 1))) hS ?_;refine lH 1 (.int .u64 (a:Int)) hS Ux ?_;refine wT 2 (.agg #[v0,.slice (some (aD qb qo)) nw q.aI,v2,v3,v4,v5,v6,v7,v8,v9,v10,v11,v12]) hS (fun x hx=>?_) ?_
     ·have e0:=lI hx Ee Ef Eg Eh Ei Ej Em En Eo Ep uY uZ ve;go_simp
     refine wt 3 (.int .i64 EL) hS ?_;refine wR 4 fun K hK=>?_
     go_simp;refine oA hK hS fun hS=>?_
     clear hK K;refine wR 5 fun K hK=>?_
     go_simp;refine Xt (Fu.o _ w6.heap.size (aA Af.o hS) (by simp)) ?_;rintro e wy ⟨rfl,hby⟩;refine oT hK hS hby fun hS=>?_
     clear hK K;refine wR 6 fun K hK=>?_
     go_simp;refine Xt (Yy.o _) ?_;rintro e wz ⟨rfl,rfl⟩;refine hK.o _ _ hS fun hS=>?_
     clear hK K;refine wR 7 fun K hK=>?_
     go_simp;refine hK.o _ _ hS fun hS=>?_
     clear hK K;refine wt 8 (.pointer (some (aD w3.heap.size 1))) hS ?_;refine lH 9 (.int .u64 (b:Int)) hS YJ ?_;refine wT 10 (.agg #[v0,.slice (some (aD qb qo)) nw q.aI,v2,v3,v4,v5,v6,v7,v8,v9,v10,v11,v12]) hS (fun x hx=>?_) ?_
     ·have e0:=lI hx Ee Ef Eg Eh Ei Ej Em En Eo Ep uY uZ ve;go_simp
     refine wt 11 (.int .i64 ER) hS ?_;refine wR 12 fun K hK=>?_
     go_simp;refine oA hK hS fun hS=>?_
     clear hK K;refine wR 13 fun K hK=>?_
     go_simp;refine Xt (HSR.o _ wz.heap.size (aA Af.o hS) (by simp)) ?_;rintro e wu ⟨rfl,hbu⟩;refine oT hK hS hbu fun hS=>?_
     clear hK K;refine wR 14 fun K hK=>?_
     go_simp;refine Xt (DI.o _) ?_;rintro e wv ⟨rfl,rfl⟩;refine hK.o _ _ hS fun hS=>?_
     clear hK K;refine wR 15 fun K hK=>?_
     go_simp;refine hK.o _ _ hS fun hS=>?_
     clear hK K;refine wR 16 fun K hK=>?_
     go_simp;refine hK.o _ _ hS fun hS=>?_
     clear hK K;refine wD ?_
     try simp only[pU]
     go_wp2_with fail;go_meet;exact⟨rfl,hS⟩
    | false =>
     refine wH w6 fun hS=>?_
     refine wt 0 (.pointer (some (aD w2.heap.size 1))) hS ?_;refine lH 1 (.int .u64 (a:Int)) hS Ux ?_;refine wT 2 (.agg #[v0,.slice (some (aD qb qo)) nw q.aI,v2,v3,v4,v5,v6,v7,v8,v9,v10,v11,v12]) hS (fun x hx=>?_) ?_
     ·have e0:=lI hx Ee Ef Eg Eh Ei Ej Em En Eo Ep uY uZ ve;go_simp
     refine wt 3 (.int .i64 EL) hS ?_;refine wR 4 fun K hK=>?_
     go_simp;refine oA hK hS fun hS=>?_
     clear hK K;refine wR 5 fun K hK=>?_
     go_simp;refine Xt (Fu.o _ w6.heap.size (aA Af.o hS) (by simp)) ?_;rintro e wy ⟨rfl,hby⟩;refine oT hK hS hby fun hS=>?_
     clear hK K;refine wR 6 fun K hK=>?_
     go_simp;refine Xt (Yy.o _) ?_;rintro e wz ⟨rfl,rfl⟩;refine hK.o _ _ hS fun hS=>?_
     clear hK K;refine wR 7 fun K hK=>?_
     go_simp;refine hK.o _ _ hS fun hS=>?_
     clear hK K;refine wV 8 hS ?_;refine wV 9 hS ?_;refine wV 10 hS ?_;refine wV 11 hS ?_;refine wV 12 hS ?_;refine wV 13 hS ?_;refine wV 14 hS ?_;refine wR 15 fun K hK=>?_
     go_simp;refine hK.o _ _ hS fun hS=>?_
     clear hK K;refine wR 16 fun K hK=>?_
     go_simp;refine hK.o _ _ hS fun hS=>?_
     clear hK K;refine wD ?_
     try simp only[pU]
     go_wp2_with fail;go_meet;exact⟨rfl,hS⟩
   case rest=>
   obtain⟨rfl,iZ⟩:=hcut
   cases hAB:(AL&&BR) with
   | true =>
    rw[hAB,Qy rfl]at rQ;obtain rfl:=rQ.o;have Yc:=Zh (aA HC6.o iZ);clear iZ rQ;go_wp2;go_ret3;exact⟨rfl,Yc.o⟩
   | false =>
   rw[hAB,Qz (by simp)]at rQ;have Yc:=Zh (aA Af.o iZ);have HC7:=Zh (aA HC6.o iZ);have ak1:=cB iZ Ux;have aq9:=cB iZ YJ;have agO:=cB iZ Ee;have agP:=cB iZ Ef;have agQ:=cB iZ Eg;have agR:=cB iZ Eh;have agS:=cB iZ Ei;have agT:=cB iZ Ej;have agU:=cB iZ Em;have agV:=cB iZ En;have agW:=cB iZ Eo;have agX:=cB iZ Ep;have YK:=cB iZ uY;have YL:=cB iZ uZ;have YM:=cB iZ ve;clear iZ hAB Af HC6 Ux YJ Ee Ef Eg Eh Ei Ej Em En Eo Ep uY uZ ve;go_upto_region 8 with fail;go_cut [67] from 68 to 83 (fun c wy=>c=.bool (AR&&BL)/\Bw wc wy)
   case first=>
    cases AR with
    | true =>
     refine wH wc fun hS=>?_
     refine wt 0 (.pointer (some (aD w2.heap.size 1))) hS ?_;refine lH 1 (.int .u64 (a:Int)) hS ak1 ?_;refine wT 2 (.agg #[v0,.slice (some (aD qb qo)) nw q.aI,v2,v3,v4,v5,v6,v7,v8,v9,v10,v11,v12]) hS (fun x hx=>?_) ?_
     ·have e0:=lI hx agO agP agQ agR agS agT agU agV agW agX YK YL YM;go_simp
     refine wt 3 (.int .i64 ER) hS ?_;refine wR 4 fun K hK=>?_
     go_simp;refine oA hK hS fun hS=>?_
     clear hK K;refine wR 5 fun K hK=>?_
     go_simp;refine Xt (HSR.o _ wc.heap.size (aA Yc.o hS) (by simp)) ?_;rintro e wy ⟨rfl,hby⟩;refine oT hK hS hby fun hS=>?_
     clear hK K;refine wR 6 fun K hK=>?_
     go_simp;refine Xt (HAR.o _) ?_;rintro e wz ⟨rfl,rfl⟩;refine hK.o _ _ hS fun hS=>?_
     clear hK K;refine wR 7 fun K hK=>?_
     go_simp;refine hK.o _ _ hS fun hS=>?_
     clear hK K;refine wt 8 (.pointer (some (aD w3.heap.size 1))) hS ?_;refine lH 9 (.int .u64 (b:Int)) hS aq9 ?_;refine wT 10 (.agg #[v0,.slice (some (aD qb qo)) nw q.aI,v2,v3,v4,v5,v6,v7,v8,v9,v10,v11,v12]) hS (fun x hx=>?_) ?_
     ·have e0:=lI hx agO agP agQ agR agS agT agU agV agW agX YK YL YM;go_simp
     refine wt 11 (.int .i64 EL) hS ?_;refine wR 12 fun K hK=>?_
     go_simp;refine oA hK hS fun hS=>?_
     clear hK K;refine wR 13 fun K hK=>?_
     go_simp;refine Xt (Fu.o _ wz.heap.size (aA Yc.o hS) (by simp)) ?_;rintro e wu ⟨rfl,hbu⟩;refine oT hK hS hbu fun hS=>?_
     clear hK K;refine wR 14 fun K hK=>?_
     go_simp;refine Xt (OO.o _) ?_;rintro e wv ⟨rfl,rfl⟩;refine hK.o _ _ hS fun hS=>?_
     clear hK K;refine wR 15 fun K hK=>?_
     go_simp;refine hK.o _ _ hS fun hS=>?_
     clear hK K;refine wR 16 fun K hK=>?_
     go_simp;refine hK.o _ _ hS fun hS=>?_
     clear hK K;refine wD ?_
     try simp only[pU]
     go_wp2_with fail;go_meet;exact⟨rfl,hS⟩
    | false =>
     refine wH wc fun hS=>?_
     refine wt 0 (.pointer (some (aD w2.heap.size 1))) hS ?_;refine lH 1 (.int .u64 (a:Int)) hS ak1 ?_;refine wT 2 (.agg #[v0,.slice (some (aD qb qo)) nw q.aI,v2,v3,v4,v5,v6,v7,v8,v9,v10,v11,v12]) hS (fun x hx=>?_) ?_
     ·have e0:=lI hx agO agP agQ agR agS agT agU agV agW agX YK YL YM;go_simp
     refine wt 3 (.int .i64 ER) hS ?_;refine wR 4 fun K hK=>?_
     go_simp;refine oA hK hS fun hS=>?_
     clear hK K;refine wR 5 fun K hK=>?_
     go_simp;refine Xt (HSR.o _ wc.heap.size (aA Yc.o hS) (by simp)) ?_;rintro e wy ⟨rfl,hby⟩;refine oT hK hS hby fun hS=>?_
     clear hK K;refine wR 6 fun K hK=>?_
     go_simp;refine Xt (HAR.o _) ?_;rintro e wz ⟨rfl,rfl⟩;refine hK.o _ _ hS fun hS=>?_
     clear hK K;refine wR 7 fun K hK=>?_
     go_simp;refine hK.o _ _ hS fun hS=>?_
     clear hK K;refine wV 8 hS ?_;refine wV 9 hS ?_;refine wV 10 hS ?_;refine wV 11 hS ?_;refine wV 12 hS ?_;refine wV 13 hS ?_;refine wV 14 hS ?_;refine wR 15 fun K hK=>?_
     go_simp;refine hK.o _ _ hS fun hS=>?_
     clear hK K;refine wR 16 fun K hK=>?_
     go_simp;refine hK.o _ _ hS fun hS=>?_
     clear hK K;refine wD ?_
     try simp only[pU]
     go_wp2_with fail;go_meet;exact⟨rfl,hS⟩
   case rest=>
   obtain⟨rfl,Ag⟩:=hcut;have Uy:=Zh (aA HC7.o Ag)
   cases hAB:(AR&&BL) with
   | true =>
    rw[hAB,Qy rfl]at rQ;obtain rfl:=rQ.o;clear Ag rQ;go_wp2;go_ret3;exact⟨rfl,Uy.o⟩
   | false =>
    rw[hAB,Qz (by simp)]at rQ;obtain rfl:=rQ.o;clear Ag rQ;go_wp2;go_ret3;exact⟨rfl,Uy.o⟩
 ·rw[Ql hin]at wW;obtain rfl:KV=(0,0,false):=by rw[MM.o,Qz (fun h=>hin h.1)]
  clear MM uS FP qX yS HEO HP;go_enter Tryz.func201,Tryz.ntmps201;go_wp2_with fail;refine Xt wW ?_;clear wW;rintro e w5 ⟨rfl,rfl⟩;go_wp2;go_ret3;exact⟨rfl,HC.o⟩
