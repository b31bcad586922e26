import Derived.Test.YtbcgekghfgcakaaGreatDoorF14
set_option linter.all false
set_option maxRecDepth 100000
set_option maxHeartbeats 16000000
namespace Go.Proofs.Zz
open Go.RowKit Go.Shelf
theorem Co (f:aB) (ts:List af) (q:ae) (b:Nat) (c:Int) (w:World) (ok:Ok ts q) (hf:jd w f.ca (jI ts q)) (h0:w.cell? (aD b 0)=some (.int .i64 c)) (hc:eT ts q [c]) :
  Calls Tryz.prog 117 #[.agg (f.cells ts q),.slice (some (aD b 0)) 1 1] w fun e w'=>e=.returned (.int .u64 ((2 ^ bD ts q.src.xs c:Nat):Int))/\Below w.heap.size w w':=by
 have h:=nC f ts q (some (aD b 0)) 1 [c] w ok hf ⟨by simp,fun i hi=>⟨b,0,rfl,by
  have hi':i<1:=hi;obtain rfl:i=0:=by omega
  exact h0⟩⟩ hc
 have e:bT (dS ts q [c])=2 ^ bD ts q.src.xs c:=zw _;rw[e] at h;exact h
theorem Bb (f:aB) (ts:List af) (q:ae) (n:az) (l r:bK) (w:World) (ok:Ok ts q) (hf:f.At ts q w) (hn:n.cl.At w) (hl:l.sources<=bR) (hr:r.sources<=bR) :
  Calls Tryz.prog 227 #[.agg (f.cells ts q),.agg n.cells,.agg l.cells,.agg r.cells] w fun e w'=>e=.returned (.tuple #[.int .i64 (si ts q n l.sources r.sources).1,.int .i64 (si ts q n l.sources r.sources).2.1,.bool (si ts q n l.sources r.sources).2.2])/\Below w.heap.size w w':=by
 obtain⟨v0,v1,v2,v3,v4,v5,v6,v7,v8,v9,v10,v11,v12,dw,-,hv1,-⟩:=Z8 f ts q;obtain⟨w1,hw1,hk1,hg1⟩:=bu w ((f.cells ts q)) 94;obtain⟨w2,hw2,hk2,hg2⟩:=bu w1 n.cells 71;obtain⟨w3,hw3,hk3,hg3⟩:=bu w2 l.cells 117;obtain⟨w4,hw4,hk4,hg4⟩:=bu w3 r.cells 117;have hc3:=hk4;have hc2:=aG hk3 hc3;have hc1:=aG hk2 hc2;have hc0:=aG hk1 hc1;have wI:=hg1.of (hc1.block _ hg1.lt);have Et:=hg2.of (hc2.block _ hg2.lt);have U2:=Et.at 4;have adY:=Et.at 5;have gg3:=hg3.of (hc3.block _ hg3.lt);have aje:=gg3.at 1;have gg4:=hg4;have ajf:=gg4.at 1;obtain⟨mJ,sw,xq,uf,sj,xu,xw,zV,zW,zX,l7,qL,l8⟩:=wI.k13 (by rw[dw]; rfl);have hla:l.sources<18446744073709551616:=by unfold bR at hl; omega
 have hra:r.sources<18446744073709551616:=by unfold bR at hr; omega
 have Ex:Hid _:=Ef n.cl.ad n.cl.cap n.cl.xs n.key w4 (Qo hc0 hn);have J7:Hid (si ts q n l.sources r.sources=if n.key∈n.cl.xs/\0<=n.key/\n.key<q.wh.length then N7 ts q.src.xs (q.wh.getD n.key.toNat lz).cs l.sources r.sources else (0,0,false)):=rfl;have yu:Hid (∀ x b c,Below w4.heap.size w4 x->x.cell? (aD b 0)=some (.int .i64 c)->eT ts q [c]->Calls Tryz.prog 117 #[.agg (f.cells ts q),.slice (some (aD b 0)) 1 1] x fun e w'=>e=.returned (.int .u64 ((2 ^ bD ts q.src.xs c:Nat):Int))/\Below x.heap.size x w'):=
  fun x b c hb h0 hc=>Co f ts q b c x ok (hf.aH.below (aG hc0 hb)) h0 hc
 have HP:Hid (∀ c,eT ts q [c]->2 ^ bD ts q.src.xs c<18446744073709551616):=fun c hc=>by
  obtain⟨h0,h1⟩:=hc c (by simp);exact ZW (n:=64) (by omega) (Q8 (GN ok h0 h1) ok.small)
 have HCA:Hid (∀ x m,m<18446744073709551616->_):=fun x m hm=>oF l.sources m hla hm x
 have uK:Hid (∀ x m,m<18446744073709551616->_):=fun x m hm=>oF r.sources m hra hm x
 have RI:Hid (∀ k,k<q.wh.length->(∃ b off,q.bY=some (aD b off)/\w4.cell? (aD b (off+k))=some (.slice (q.wh.getD k lz).ad (q.wh.getD k lz).cs.length (q.wh.getD k lz).cap))/\aR w4 (q.wh.getD k lz).ad (q.wh.getD k lz).cs/\0<(q.wh.getD k lz).cs.length):=fun k hk=>by
  have hW:=hf.query.wh.below hc0;obtain⟨b,off,e,hc⟩:=hW.2.1 k hk;exact⟨⟨b,off,e,hc⟩,hW.2.2 k hk,ok.some k hk⟩
 have YW:Hid (∀ k,k<q.wh.length->_):=fun k hk=>@Du ts q ok k hk
 have hwl:=hf.query.wh.1;have HC:=Zh hc0;rw[dw] at yu hw1 ⊢;subst hv1;obtain⟨nk,nl,nr,ns,⟨na,nc,nx⟩,ny,no⟩:=n;unfold ah.val at *;simp only at *;generalize hKV:si ts q _ l.sources r.sources=KV at *;clear hKV;generalize az.cells _=NC at *;generalize l.cells=LC at *;generalize r.cells=RC at *;generalize l.sources=a at *;generalize r.sources=b at *;clear hc0 hc1 hc2 hc3 hk1 hk2 hk3 hk4 hg1 hg2 hg3 hg4 wI Et gg3 gg4 hf ok hn hl hr hla hra dw;have uM:=Ex.out;clear Ex;by_cases hin:ny∈nx
 ·rw[Qu hin] at uM;by_cases h0:ny<0
  ·obtain rfl:KV=(0,0,false):=by rw[J7.out,Qs (fun h=>absurd h.2.1 (by omega))]
   clear J7 yu HCA uK RI YW HP;go_enter Tryz.func227,Tryz.ntmps227;go_wp2_with fail;refine Z7 uM ?_;clear uM;rintro e w5 ⟨rfl,rfl⟩;go_wp2;go_ret3;exact⟨rfl,HC.out⟩
  by_cases h1:(q.wh.length:Int)<=ny
  ·obtain rfl:KV=(0,0,false):=by rw[J7.out,Qs (fun h=>absurd h.2.2 (by omega))]
   clear J7 yu HCA uK RI YW HP;go_enter Tryz.func227,Tryz.ntmps227;go_wp2_with fail;refine Z7 uM ?_;clear uM;rintro e w5 ⟨rfl,rfl⟩;go_wp2;go_ret3;exact⟨rfl,HC.out⟩
  obtain⟨k,rfl⟩:=ZZ (show 0<=ny by omega);have hk:k<q.wh.length:=by omega
  have nK:=Zh J7.out;rw[Qr ⟨hin,by omega,by omega⟩,Q3,VP] at nK;obtain⟨⟨qb,qo,hqw,hqc⟩,hcond,hpos⟩:=RI.out k hk;have afm:=Zh (YW.out k hk);rw[hqw] at sw yu hw1 ⊢;have YY:=nV (q.wh.getD k lz).ad (q.wh.getD k lz).cap (q.wh.getD k lz).cs w4 hcond hpos;clear J7 RI YW hcond hpos hqw hin;generalize (q.wh.getD k lz).cap=GD at *;generalize (q.wh.getD k lz).ad=Y8 at *;generalize (q.wh.getD k lz).cs=cs at *;generalize bE cs=EC at *;obtain⟨EL,ER,EB⟩:=EC;simp only at *;generalize hNW:q.wh.length=nw at *;clear hNW
  cases EB with
  | false =>
   obtain rfl:KV=(0,0,false):=by rw[nK.out,Qr rfl]
   clear nK yu HCA uK afm HP;go_enter Tryz.func227,Tryz.ntmps227;go_wp2_with fail;refine Z7 uM ?_;clear uM;rintro e w5 ⟨rfl,rfl⟩;go_wp2_with fail;refine Z7 YY ?_;clear YY;rintro e w6 ⟨rfl,hb6⟩;have yE:=Zh (aG HC.out hb6);clear hb6;go_wp2;go_ret3;exact⟨rfl,yE.out⟩
  | true =>
   obtain⟨hoL,hoR⟩:=afm.out rfl;have hpL:=HP.out EL hoL;have hpR:=HP.out ER hoR;have Da:Hid (∀ x b,_->_->_):=fun x b hb h0=>yu.out x b EL hb h0 hoL
   have HSR:Hid (∀ x b,_->_->_):=fun x b hb h0=>yu.out x b ER hb h0 hoR
   rw[Qs (by simp)] at nK;generalize 2 ^ bD ts q.src.xs EL=SL at *;generalize 2 ^ bD ts q.src.xs ER=SR at *;have Vi:Hid (∀ x,_):=fun x=>HCA.out x SL hpL
   have HAR:Hid (∀ x,_):=fun x=>HCA.out x SR hpR
   have VW:Hid (∀ x,_):=fun x=>uK.out x SL hpL
   have HBR:Hid (∀ x,_):=fun x=>uK.out x SR hpR
   generalize bP a SL=AL at *;generalize bP a SR=AR at *;generalize bP b SL=BL at *;generalize bP b SR=BR at *;clear afm HP yu HCA uK hoL hoR hpL hpR;go_enter Tryz.func227,Tryz.ntmps227;go_wp2_with fail;refine Z7 uM ?_;clear uM;rintro e w5 ⟨rfl,rfl⟩;go_wp2_with fail;refine Z7 YY ?_;clear YY hw1 hw2 hw3 hw4;rintro e w6 ⟨rfl,hb6⟩;have abp:=cB hb6 aje;have afn:=cB hb6 ajf;have VZ:=cB hb6 mJ;have V3:=cB hb6 sw;have V4:=cB hb6 xq;have V5:=cB hb6 uf;have V6:=cB hb6 sj;have V7:=cB hb6 xu;have V8:=cB hb6 xw;have V9:=cB hb6 zV;have Wd:=cB hb6 zW;have We:=cB hb6 zX;have Jl:=cB hb6 l7;have Jm:=cB hb6 qL;have Jn:=cB hb6 l8;have yE:=Zh hb6;have HC6:=Zh (aG HC.out hb6);clear hb6 hqc U2 adY aje ajf mJ sw xq uf sj xu xw zV zW zX l7 qL l8;go_upto_region 6 with fail;go_cut [48] from 49 to 64 (fun c wx=>c=.bool (AL&&BR)/\Below w6.heap.size w6 wx)
   case first=>
    cases AL with
    | true =>
     refine wH w6 fun hS=>?_
     refine wt 0 (.pointer (some (aD w2.heap.size 1))) hS ?_;refine iB 1 (.int .u64 (a:Int)) hS abp ?_;refine wT 2 (.agg #[v0,.slice (some (aD qb qo)) nw q.aI,v2,v3,v4,v5,v6,v7,v8,v9,v10,v11,v12]) hS (fun x hx=>?_) ?_
     ·have e0:=qd hx VZ V3 V4 V5 V6 V7 V8 V9 Wd We Jl Jm Jn;go_simp
     refine wt 3 (.int .i64 EL) hS ?_;refine wR 4 fun K hK=>?_
     go_simp;refine oA hK hS fun hS=>?_
     clear hK K;refine wR 5 fun K hK=>?_
     go_simp;refine Z7 (Da.out _ w6.heap.size (aG yE.out hS) (by simp)) ?_;rintro e wy ⟨rfl,hby⟩;refine oT hK hS hby fun hS=>?_
     clear hK K;refine wR 6 fun K hK=>?_
     go_simp;refine Z7 (Vi.out _) ?_;rintro e wz ⟨rfl,rfl⟩;refine hK.out _ _ hS fun hS=>?_
     clear hK K;refine wR 7 fun K hK=>?_
     go_simp;refine hK.out _ _ hS fun hS=>?_
     clear hK K;refine wt 8 (.pointer (some (aD w3.heap.size 1))) hS ?_;refine iB 9 (.int .u64 (b:Int)) hS afn ?_;refine wT 10 (.agg #[v0,.slice (some (aD qb qo)) nw q.aI,v2,v3,v4,v5,v6,v7,v8,v9,v10,v11,v12]) hS (fun x hx=>?_) ?_
     ·have e0:=qd hx VZ V3 V4 V5 V6 V7 V8 V9 Wd We Jl Jm Jn;go_simp
     refine wt 11 (.int .i64 ER) hS ?_;refine wR 12 fun K hK=>?_
     go_simp;refine oA hK hS fun hS=>?_
     clear hK K;refine wR 13 fun K hK=>?_
     go_simp;refine Z7 (HSR.out _ wz.heap.size (aG yE.out hS) (by simp)) ?_;rintro e wu ⟨rfl,hbu⟩;refine oT hK hS hbu fun hS=>?_
     clear hK K;refine wR 14 fun K hK=>?_
     go_simp;refine Z7 (HBR.out _) ?_;rintro e wv ⟨rfl,rfl⟩;refine hK.out _ _ hS fun hS=>?_
     clear hK K;refine wR 15 fun K hK=>?_
     go_simp;refine hK.out _ _ hS fun hS=>?_
     clear hK K;refine wR 16 fun K hK=>?_
     go_simp;refine hK.out _ _ hS fun hS=>?_
     clear hK K;refine wD ?_
     try simp only[pU]
     go_wp2_with fail;go_meet;exact⟨rfl,hS⟩
    | false =>
     refine wH w6 fun hS=>?_
     refine wt 0 (.pointer (some (aD w2.heap.size 1))) hS ?_;refine iB 1 (.int .u64 (a:Int)) hS abp ?_;refine wT 2 (.agg #[v0,.slice (some (aD qb qo)) nw q.aI,v2,v3,v4,v5,v6,v7,v8,v9,v10,v11,v12]) hS (fun x hx=>?_) ?_
     ·have e0:=qd hx VZ V3 V4 V5 V6 V7 V8 V9 Wd We Jl Jm Jn;go_simp
     refine wt 3 (.int .i64 EL) hS ?_;refine wR 4 fun K hK=>?_
     go_simp;refine oA hK hS fun hS=>?_
     clear hK K;refine wR 5 fun K hK=>?_
     go_simp;refine Z7 (Da.out _ w6.heap.size (aG yE.out hS) (by simp)) ?_;rintro e wy ⟨rfl,hby⟩;refine oT hK hS hby fun hS=>?_
     clear hK K;refine wR 6 fun K hK=>?_
     go_simp;refine Z7 (Vi.out _) ?_;rintro e wz ⟨rfl,rfl⟩;refine hK.out _ _ hS fun hS=>?_
     clear hK K;refine wR 7 fun K hK=>?_
     go_simp;refine hK.out _ _ hS fun hS=>?_
     clear hK K;refine wV 8 hS ?_;refine wV 9 hS ?_;refine wV 10 hS ?_;refine wV 11 hS ?_;refine wV 12 hS ?_;refine wV 13 hS ?_;refine wV 14 hS ?_;refine wR 15 fun K hK=>?_
     go_simp;refine hK.out _ _ hS fun hS=>?_
     clear hK K;refine wR 16 fun K hK=>?_
     go_simp;refine hK.out _ _ hS fun hS=>?_
     clear hK K;refine wD ?_
     try simp only[pU]
     go_wp2_with fail;go_meet;exact⟨rfl,hS⟩
   case rest=>
   obtain⟨rfl,jh⟩:=hcut
   cases hAB:(AL&&BR) with
   | true =>
    rw[hAB,Qr rfl] at nK;obtain rfl:=nK.out;have HB7:=Zh (aG HC6.out jh);clear jh nK;go_wp2;go_ret3;exact⟨rfl,HB7.out⟩
   | false =>
   rw[hAB,Qs (by simp)] at nK;have HB7:=Zh (aG yE.out jh);have HC7:=Zh (aG HC6.out jh);have ajg:=cB jh abp;have aoD:=cB jh afn;have afp:=cB jh VZ;have afq:=cB jh V3;have afr:=cB jh V4;have afs:=cB jh V5;have aft:=cB jh V6;have afu:=cB jh V7;have afv:=cB jh V8;have afw:=cB jh V9;have afx:=cB jh Wd;have afy:=cB jh We;have Wh:=cB jh Jl;have Wi:=cB jh Jm;have Wj:=cB jh Jn;clear jh hAB yE HC6 abp afn VZ V3 V4 V5 V6 V7 V8 V9 Wd We Jl Jm Jn;go_upto_region 8 with fail;go_cut [67] from 68 to 83 (fun c wy=>c=.bool (AR&&BL)/\Below wc.heap.size wc wy)
   case first=>
    cases AR with
    | true =>
     refine wH wc fun hS=>?_
     refine wt 0 (.pointer (some (aD w2.heap.size 1))) hS ?_;refine iB 1 (.int .u64 (a:Int)) hS ajg ?_;refine wT 2 (.agg #[v0,.slice (some (aD qb qo)) nw q.aI,v2,v3,v4,v5,v6,v7,v8,v9,v10,v11,v12]) hS (fun x hx=>?_) ?_
     ·have e0:=qd hx afp afq afr afs aft afu afv afw afx afy Wh Wi Wj;go_simp
     refine wt 3 (.int .i64 ER) hS ?_;refine wR 4 fun K hK=>?_
     go_simp;refine oA hK hS fun hS=>?_
     clear hK K;refine wR 5 fun K hK=>?_
     go_simp;refine Z7 (HSR.out _ wc.heap.size (aG HB7.out hS) (by simp)) ?_;rintro e wy ⟨rfl,hby⟩;refine oT hK hS hby fun hS=>?_
     clear hK K;refine wR 6 fun K hK=>?_
     go_simp;refine Z7 (HAR.out _) ?_;rintro e wz ⟨rfl,rfl⟩;refine hK.out _ _ hS fun hS=>?_
     clear hK K;refine wR 7 fun K hK=>?_
     go_simp;refine hK.out _ _ hS fun hS=>?_
     clear hK K;refine wt 8 (.pointer (some (aD w3.heap.size 1))) hS ?_;refine iB 9 (.int .u64 (b:Int)) hS aoD ?_;refine wT 10 (.agg #[v0,.slice (some (aD qb qo)) nw q.aI,v2,v3,v4,v5,v6,v7,v8,v9,v10,v11,v12]) hS (fun x hx=>?_) ?_
     ·have e0:=qd hx afp afq afr afs aft afu afv afw afx afy Wh Wi Wj;go_simp
     refine wt 11 (.int .i64 EL) hS ?_;refine wR 12 fun K hK=>?_
     go_simp;refine oA hK hS fun hS=>?_
     clear hK K;refine wR 13 fun K hK=>?_
     go_simp;refine Z7 (Da.out _ wz.heap.size (aG HB7.out hS) (by simp)) ?_;rintro e wu ⟨rfl,hbu⟩;refine oT hK hS hbu fun hS=>?_
     clear hK K;refine wR 14 fun K hK=>?_
     go_simp;refine Z7 (VW.out _) ?_;rintro e wv ⟨rfl,rfl⟩;refine hK.out _ _ hS fun hS=>?_
     clear hK K;refine wR 15 fun K hK=>?_
     go_simp;refine hK.out _ _ hS fun hS=>?_
     clear hK K;refine wR 16 fun K hK=>?_
     go_simp;refine hK.out _ _ hS fun hS=>?_
     clear hK K;refine wD ?_
     try simp only[pU]
     go_wp2_with fail;go_meet;exact⟨rfl,hS⟩
    | false =>
     refine wH wc fun hS=>?_
     refine wt 0 (.pointer (some (aD w2.heap.size 1))) hS ?_;refine iB 1 (.int .u64 (a:Int)) hS ajg ?_;refine wT 2 (.agg #[v0,.slice (some (aD qb qo)) nw q.aI,v2,v3,v4,v5,v6,v7,v8,v9,v10,v11,v12]) hS (fun x hx=>?_) ?_
     ·have e0:=qd hx afp afq afr afs aft afu afv afw afx afy Wh Wi Wj;go_simp
     refine wt 3 (.int .i64 ER) hS ?_;refine wR 4 fun K hK=>?_
     go_simp;refine oA hK hS fun hS=>?_
     clear hK K;refine wR 5 fun K hK=>?_
     go_simp;refine Z7 (HSR.out _ wc.heap.size (aG HB7.out hS) (by simp)) ?_;rintro e wy ⟨rfl,hby⟩;refine oT hK hS hby fun hS=>?_
     clear hK K;refine wR 6 fun K hK=>?_
     go_simp;refine Z7 (HAR.out _) ?_;rintro e wz ⟨rfl,rfl⟩;refine hK.out _ _ hS fun hS=>?_
     clear hK K;refine wR 7 fun K hK=>?_
     go_simp;refine hK.out _ _ hS fun hS=>?_
     clear hK K;refine wV 8 hS ?_;refine wV 9 hS ?_;refine wV 10 hS ?_;refine wV 11 hS ?_;refine wV 12 hS ?_;refine wV 13 hS ?_;refine wV 14 hS ?_;refine wR 15 fun K hK=>?_
     go_simp;refine hK.out _ _ hS fun hS=>?_
     clear hK K;refine wR 16 fun K hK=>?_
     go_simp;refine hK.out _ _ hS fun hS=>?_
     clear hK K;refine wD ?_
     try simp only[pU]
     go_wp2_with fail;go_meet;exact⟨rfl,hS⟩
   case rest=>
   obtain⟨rfl,hb8⟩:=hcut;have Si:=Zh (aG HC7.out hb8)
   cases hAB:(AR&&BL) with
   | true =>
    rw[hAB,Qr rfl] at nK;obtain rfl:=nK.out;clear hb8 nK;go_wp2;go_ret3;exact⟨rfl,Si.out⟩
   | false =>
    rw[hAB,Qs (by simp)] at nK;obtain rfl:=nK.out;clear hb8 nK;go_wp2;go_ret3;exact⟨rfl,Si.out⟩
 ·rw[Qh hin] at uM;obtain rfl:KV=(0,0,false):=by rw[J7.out,Qs (fun h=>hin h.1)]
  clear J7 yu HCA uK RI YW HP;go_enter Tryz.func227,Tryz.ntmps227;go_wp2_with fail;refine Z7 uM ?_;clear uM;rintro e w5 ⟨rfl,rfl⟩;go_wp2;go_ret3;exact⟨rfl,HC.out⟩
