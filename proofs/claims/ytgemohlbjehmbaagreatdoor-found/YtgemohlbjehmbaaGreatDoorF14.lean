import Derived.Test.YtgemohlbjehmbaaGreatDoorF13
set_option linter.all false
set_option maxRecDepth 100000
set_option maxHeartbeats 16000000
namespace Go.Proofs.Zz
open Go.RowKit Go.Shelf
theorem xJ(f:aC)(ts:List af)(q:ae)(b:Nat)(c:Int)(w:World)(ok:Ok ts q)(hf:jf w f.ca (jK ts q))(h0:w.cell? (aD b 0)=some (.int .i64 c))(hc:iM ts q [c]) :
  Cb 84 #[.agg (f.cells ts q),.slice (some (aD b 0)) 1 1] w (.int .u64 ((2 ^ aA ts q.src.xs c:Nat):Int)):=by
 have h:=qX f ts q (some (aD b 0)) 1 [c] w ok hf ⟨by simp,λi a=>⟨b,0,rfl,by
  grind⟩⟩ hc
 have e:aB (fC ts q [c])=2 ^ aA ts q.src.xs c:=rP _;rw[e]at h;exact h
theorem qg(f:aC)(ts:List af)(q:ae)(n:ah)(l r:aH)(w:World)(ok:Ok ts q)(hf:f.At ts q w)(hn:n.cl.At w)(hl:l.sources<=dA)(hr:r.sources<=dA) :
  Cb 103 #[.agg (f.cells ts q),.agg n.cells,.agg l.cells,.agg r.cells] w (.tuple #[.int .i64 (fP ts q n l.sources r.sources).1,.int .i64 (fP ts q n l.sources r.sources).2.1,.bool (fP ts q n l.sources r.sources).2.2]):=by
 obtain⟨v0,v1,v2,v3,v4,v5,v6,v7,v8,v9,t,u,v,bR,-,bE,-⟩:=Z6 f ts q;obtain⟨w1,aK,bg,aL⟩:=bn w ((f.cells ts q)) 68;obtain⟨w2,bF,bq,aM⟩:=bn w1 n.cells 75;obtain⟨w3,bH,bu,aN⟩:=bn w2 l.cells 73;obtain⟨w4,bI,bz,bA⟩:=bn w3 r.cells 73;have N:=bz;have O:=aF bu N;have P:=aF bq O;have z:=aF bg P;have fH:=aL.of (P.block _ aL.lt);have lM:=aM.of (O.block _ aM.lt);have lI:=lM.at 4;have oO:=lM.at 5;have aR:=aN.of (N.block _ aN.lt);have Re:=aR.at 1;have aT:=bA;have Rf:=aT.at 1;obtain⟨eT,fI,eQ,fD,fJ,fQ,fM,iK,iI,iJ,dR,eH,dS⟩:=fH.k13 (by rw[bR]; rfl);have aV:l.sources<18446744073709551616:=by unfold dA at hl; omega
 have aW:r.sources<18446744073709551616:=by unfold dA at hr; omega
 have Mt:Hid _:=zF n.cl.ad n.cl.cap n.cl.xs n.key w4 (Ql z hn);have I:Hid (fP ts q n l.sources r.sources=if n.key∈n.cl.xs/\0<=n.key/\n.key<q.wh.length then xz ts q.src.xs (q.wh.getD n.key.toNat lz).cs l.sources r.sources else (0,0,false)):=rfl;have F:Hid (∀ x b c,Bw w4 x->x.cell? (aD b 0)=some (.int .i64 c)->iM ts q [c]->Cb 84 #[.agg (f.cells ts q),.slice (some (aD b 0)) 1 1] x (.int .u64 ((2 ^ aA ts q.src.xs c:Nat):Int))):=
  λx b c hb L hc=>xJ f ts q b c x ok (hf.aX.below (aF z hb)) L hc
 have Q:Hid (∀ c,iM ts q [c]->2 ^ aA ts q.src.xs c<18446744073709551616):=λc hc=>by obtain⟨L,h1⟩:=hc c (by simp);exact ZN (n:=64) (by omega) (QH (Ei ok L h1) ok.small)
 have R:Hid (∀ x m,m<18446744073709551616->_):=λx m hm=>mQ l.sources m aV hm x;have S:Hid (∀ x m,m<18446744073709551616->_):=λx m hm=>mQ r.sources m aW hm x;have Bf:Hid (∀ k,k<q.wh.length->(∃ b H,q.dD=some (aD b H)/\w4.cell? (aD b (H+k))=some (.slice (q.wh.getD k lz).ad (q.wh.getD k lz).cs.length (q.wh.getD k lz).cap))/\bZ w4 (q.wh.getD k lz).ad (q.wh.getD k lz).cs/\0<(q.wh.getD k lz).cs.length):=λk J=>by have hW:=hf.query.wh.below z;obtain⟨b,H,e,hc⟩:=hW.2.1 k J;exact⟨⟨b,H,e,hc⟩,hW.2.2 k J,ok.some k J⟩
 have A:Hid (∀ k,k<q.wh.length->_):=λk J=>@I9 ts q ok k J;have bM:=hf.query.wh.1;have HC:=Zh z;rw[bR]at F aK ⊢;subst bE;obtain⟨nk,nl,nr,ns,⟨na,nc,nx⟩,ny,no⟩:=n;unfold ai.val at *;simp only at *;generalize bK:fP ts q _ l.sources r.sources=KV at *;clear bK;generalize ah.cells _=NC at *;generalize l.cells=LC at *;generalize r.cells=RC at *;generalize l.sources=a at *;generalize r.sources=b at *;clear z P O N bg bq bu bz aL aM aN bA fH lM aR aT hf ok hn hl hr aV aW bR;have y:=Mt.o;clear Mt;by_cases E:ny∈nx
 ·rw[Qv E]at y;by_cases L:ny<0
  ·obtain rfl:KV=(0,0,false):=by rw[I.o,Qu (λh=>absurd h.2.1 (by omega))]
   clear I F R S Bf A Q;go_enter Tryz.func103,Tryz.ntmps103;go_wp2_with fail;refine Z5 y ?_;clear y;rintro e w5 ⟨rfl,rfl⟩;go_wp2;go_ret3;exact⟨rfl,HC.o⟩
  by_cases h1:(q.wh.length:Int)<=ny
  ·obtain rfl:KV=(0,0,false):=by rw[I.o,Qu (λh=>absurd h.2.2 (by omega))]
   clear I F R S Bf A Q;go_enter Tryz.func103,Tryz.ntmps103;go_wp2_with fail;refine Z5 y ?_;clear y;rintro e w5 ⟨rfl,rfl⟩;go_wp2;go_ret3;exact⟨rfl,HC.o⟩
  obtain⟨k,rfl⟩:=ZV (show 0<=ny by omega);have J:k<q.wh.length:=by omega
  have s:=Zh I.o;rw[Qo ⟨E,by omega,by omega⟩,ZY,acB]at s;obtain⟨⟨qb,qo,bB,bJ⟩,C,M⟩:=Bf.o k J;have T:=Zh (A.o k J);rw[bB]at fI F aK ⊢;have G:=rX (q.wh.getD k lz).ad (q.wh.getD k lz).cap (q.wh.getD k lz).cs w4 C M;clear I Bf A C M bB E;generalize (q.wh.getD k lz).cap=acC at *;generalize (q.wh.getD k lz).ad=cad at *;generalize (q.wh.getD k lz).cs=cs at *;generalize bG cs=EC at *;obtain⟨EL,ER,EB⟩:=EC;simp only at *;generalize bL:q.wh.length=nw at *;clear bL
  cases EB with
  | false =>
   obtain rfl:KV=(0,0,false):=by rw[s.o,Qo rfl]
   clear s F R S T Q;go_enter Tryz.func103,Tryz.ntmps103;go_wp2_with fail;refine Z5 y ?_;clear y;rintro e w5 ⟨rfl,rfl⟩;go_wp2_with fail;refine Z5 G ?_;clear G;rintro e w6 ⟨rfl,i⟩;have U:=Zh (aF HC.o i);clear i;go_wp2;go_ret3;exact⟨rfl,U.o⟩
  | true =>
   obtain⟨aO,aP⟩:=T.o rfl;have V:=Q.o EL aO;have W:=Q.o ER aP;have UA:Hid (∀ x b,_->_->_):=λx b hb L=>F.o x b EL hb L aO;have X:Hid (∀ x b,_->_->_):=λx b hb L=>F.o x b ER hb L aP;rw[Qu (by simp)]at s;generalize 2 ^ aA ts q.src.xs EL=SL at *;generalize 2 ^ aA ts q.src.xs ER=SR at *;have aY:Hid (∀ x,_):=λx=>R.o x SL V;have aZ:Hid (∀ x,_):=λx=>R.o x SR W;have R9:Hid (∀ x,_):=λx=>S.o x SL V;have oU:Hid (∀ x,_):=λx=>S.o x SR W;generalize aU a SL=AL at *;generalize aU a SR=AR at *;generalize aU b SL=BL at *;generalize aU b SR=BR at *;clear T Q F R S aO aP V W;go_enter Tryz.func103,Tryz.ntmps103;go_wp2_with fail;refine Z5 y ?_;clear y;rintro e w5 ⟨rfl,rfl⟩;go_wp2_with fail;refine Z5 G ?_;clear G aK bF bH bI;rintro e w6 ⟨rfl,i⟩;have X8:=cB i Re;have Y:=cB i Rf;have GZ:=cB i eT;have G7:=cB i fI;have G9:=cB i eQ;have Ha:=cB i fD;have Hd:=cB i fJ;have He:=cB i fQ;have Hf:=cB i fM;have Hg:=cB i iK;have Hl:=cB i iI;have Hm:=cB i iJ;have xK:=cB i dR;have xL:=cB i eH;have xM:=cB i dS;have U:=Zh i;have Z:=Zh (aF HC.o i);clear i bJ lI oO Re Rf eT fI eQ fD fJ fQ fM iK iI iJ dR eH dS;go_upto_region 6 with fail;go_cut [48] from 49 to 64 (λc wx=>c=.bool (AL&&BR)/\Bw w6 wx)
   case first=>
    cases AL with
    | true =>
     refine wH w6 λd=>?_;refine wt 0 (.pointer (some (aD w2.heap.size 1))) d ?_;refine l8 1 (.int .u64 (a:Int)) d X8 ?_;refine wT 2 (.agg #[v0,.slice (some (aD qb qo)) nw q.aS,v2,v3,v4,v5,v6,v7,v8,v9,t,u,v]) d (λx D=>?_) ?_
     ·have e0:=l7 D GZ G7 G9 Ha Hd He Hf Hg Hl Hm xK xL xM;go_simp
     refine wt 3 (.int .i64 EL) d ?_;refine wR 4 λK g=>?_;go_simp;refine oA g d λd=>?_;clear g K;refine wR 5 λK g=>?_;go_simp;refine Z5 (UA.o _ w6.heap.size (aF U.o d) (by simp)) ?_;rintro e wy ⟨rfl,p⟩;refine oT g d p λd=>?_;clear g K;refine wR 6 λK g=>?_;go_simp;refine Z5 (aY.o _) ?_;rintro e wz ⟨rfl,rfl⟩;refine g.o _ _ d λd=>?_;clear g K;refine wR 7 λK g=>?_;go_simp;refine g.o _ _ d λd=>?_;clear g K;refine wt 8 (.pointer (some (aD w3.heap.size 1))) d ?_;refine l8 9 (.int .u64 (b:Int)) d Y ?_;refine wT 10 (.agg #[v0,.slice (some (aD qb qo)) nw q.aS,v2,v3,v4,v5,v6,v7,v8,v9,t,u,v]) d (λx D=>?_) ?_
     ·have e0:=l7 D GZ G7 G9 Ha Hd He Hf Hg Hl Hm xK xL xM;go_simp
     refine wt 11 (.int .i64 ER) d ?_;refine wR 12 λK g=>?_;go_simp;refine oA g d λd=>?_;clear g K;refine wR 13 λK g=>?_;go_simp;refine Z5 (X.o _ wz.heap.size (aF U.o d) (by simp)) ?_;rintro e wu ⟨rfl,aQ⟩;refine oT g d aQ λd=>?_;clear g K;refine wR 14 λK g=>?_;go_simp;refine Z5 (oU.o _) ?_;rintro e wv ⟨rfl,rfl⟩;refine g.o _ _ d λd=>?_;clear g K;refine wR 15 λK g=>?_;go_simp;refine g.o _ _ d λd=>?_;clear g K;refine wR 16 λK g=>?_;go_simp;refine g.o _ _ d λd=>?_;clear g K;refine wD ?_;try simp only[pU]
     go_wp2_with fail;go_meet;exact⟨rfl,d⟩
    | false =>
     refine wH w6 λd=>?_;refine wt 0 (.pointer (some (aD w2.heap.size 1))) d ?_;refine l8 1 (.int .u64 (a:Int)) d X8 ?_;refine wT 2 (.agg #[v0,.slice (some (aD qb qo)) nw q.aS,v2,v3,v4,v5,v6,v7,v8,v9,t,u,v]) d (λx D=>?_) ?_
     ·have e0:=l7 D GZ G7 G9 Ha Hd He Hf Hg Hl Hm xK xL xM;go_simp
     refine wt 3 (.int .i64 EL) d ?_;refine wR 4 λK g=>?_;go_simp;refine oA g d λd=>?_;clear g K;refine wR 5 λK g=>?_;go_simp;refine Z5 (UA.o _ w6.heap.size (aF U.o d) (by simp)) ?_;rintro e wy ⟨rfl,p⟩;refine oT g d p λd=>?_;clear g K;refine wR 6 λK g=>?_;go_simp;refine Z5 (aY.o _) ?_;rintro e wz ⟨rfl,rfl⟩;refine g.o _ _ d λd=>?_;clear g K;refine wR 7 λK g=>?_;go_simp;refine g.o _ _ d λd=>?_;clear g K;refine wV 8 d ?_;refine wV 9 d ?_;refine wV 10 d ?_;refine wV 11 d ?_;refine wV 12 d ?_;refine wV 13 d ?_;refine wV 14 d ?_;refine wR 15 λK g=>?_;go_simp;refine g.o _ _ d λd=>?_;clear g K;refine wR 16 λK g=>?_;go_simp;refine g.o _ _ d λd=>?_;clear g K;refine wD ?_;try simp only[pU]
     go_wp2_with fail;go_meet;exact⟨rfl,d⟩
   case rest=>
   obtain⟨rfl,j⟩:=hcut
   cases LD:(AL&&BR) with
   | true =>
    rw[LD,Qo rfl]at s;obtain rfl:=s.o;have B:=Zh (aF Z.o j);clear j s;go_wp2;go_ret3;exact⟨rfl,B.o⟩
   | false =>
   rw[LD,Qu (by simp)]at s;have B:=Zh (aF U.o j);have bC:=Zh (aF Z.o j);have bf:=cB j X8;have bD:=cB j Y;have aa:=cB j GZ;have ag:=cB j G7;have aj:=cB j G9;have ak:=cB j Ha;have au:=cB j Hd;have av:=cB j He;have ax:=cB j Hf;have ay:=cB j Hg;have az:=cB j Hl;have aB:=cB j Hm;have aG:=cB j xK;have aI:=cB j xL;have aJ:=cB j xM;clear j LD U Z X8 Y GZ G7 G9 Ha Hd He Hf Hg Hl Hm xK xL xM;go_upto_region 8 with fail;go_cut [67] from 68 to 83 (λc wy=>c=.bool (AR&&BL)/\Bw wc wy)
   case first=>
    cases AR with
    | true =>
     refine wH wc λd=>?_;refine wt 0 (.pointer (some (aD w2.heap.size 1))) d ?_;refine l8 1 (.int .u64 (a:Int)) d bf ?_;refine wT 2 (.agg #[v0,.slice (some (aD qb qo)) nw q.aS,v2,v3,v4,v5,v6,v7,v8,v9,t,u,v]) d (λx D=>?_) ?_
     ·have e0:=l7 D aa ag aj ak au av ax ay az aB aG aI aJ;go_simp
     refine wt 3 (.int .i64 ER) d ?_;refine wR 4 λK g=>?_;go_simp;refine oA g d λd=>?_;clear g K;refine wR 5 λK g=>?_;go_simp;refine Z5 (X.o _ wc.heap.size (aF B.o d) (by simp)) ?_;rintro e wy ⟨rfl,p⟩;refine oT g d p λd=>?_;clear g K;refine wR 6 λK g=>?_;go_simp;refine Z5 (aZ.o _) ?_;rintro e wz ⟨rfl,rfl⟩;refine g.o _ _ d λd=>?_;clear g K;refine wR 7 λK g=>?_;go_simp;refine g.o _ _ d λd=>?_;clear g K;refine wt 8 (.pointer (some (aD w3.heap.size 1))) d ?_;refine l8 9 (.int .u64 (b:Int)) d bD ?_;refine wT 10 (.agg #[v0,.slice (some (aD qb qo)) nw q.aS,v2,v3,v4,v5,v6,v7,v8,v9,t,u,v]) d (λx D=>?_) ?_
     ·have e0:=l7 D aa ag aj ak au av ax ay az aB aG aI aJ;go_simp
     refine wt 11 (.int .i64 EL) d ?_;refine wR 12 λK g=>?_;go_simp;refine oA g d λd=>?_;clear g K;refine wR 13 λK g=>?_;go_simp;refine Z5 (UA.o _ wz.heap.size (aF B.o d) (by simp)) ?_;rintro e wu ⟨rfl,aQ⟩;refine oT g d aQ λd=>?_;clear g K;refine wR 14 λK g=>?_;go_simp;refine Z5 (R9.o _) ?_;rintro e wv ⟨rfl,rfl⟩;refine g.o _ _ d λd=>?_;clear g K;refine wR 15 λK g=>?_;go_simp;refine g.o _ _ d λd=>?_;clear g K;refine wR 16 λK g=>?_;go_simp;refine g.o _ _ d λd=>?_;clear g K;refine wD ?_;try simp only[pU]
     go_wp2_with fail;go_meet;exact⟨rfl,d⟩
    | false =>
     refine wH wc λd=>?_;refine wt 0 (.pointer (some (aD w2.heap.size 1))) d ?_;refine l8 1 (.int .u64 (a:Int)) d bf ?_;refine wT 2 (.agg #[v0,.slice (some (aD qb qo)) nw q.aS,v2,v3,v4,v5,v6,v7,v8,v9,t,u,v]) d (λx D=>?_) ?_
     ·have e0:=l7 D aa ag aj ak au av ax ay az aB aG aI aJ;go_simp
     refine wt 3 (.int .i64 ER) d ?_;refine wR 4 λK g=>?_;go_simp;refine oA g d λd=>?_;clear g K;refine wR 5 λK g=>?_;go_simp;refine Z5 (X.o _ wc.heap.size (aF B.o d) (by simp)) ?_;rintro e wy ⟨rfl,p⟩;refine oT g d p λd=>?_;clear g K;refine wR 6 λK g=>?_;go_simp;refine Z5 (aZ.o _) ?_;rintro e wz ⟨rfl,rfl⟩;refine g.o _ _ d λd=>?_;clear g K;refine wR 7 λK g=>?_;go_simp;refine g.o _ _ d λd=>?_;clear g K;refine wV 8 d ?_;refine wV 9 d ?_;refine wV 10 d ?_;refine wV 11 d ?_;refine wV 12 d ?_;refine wV 13 d ?_;refine wV 14 d ?_;refine wR 15 λK g=>?_;go_simp;refine g.o _ _ d λd=>?_;clear g K;refine wR 16 λK g=>?_;go_simp;refine g.o _ _ d λd=>?_;clear g K;refine wD ?_;try simp only[pU]
     go_wp2_with fail;go_meet;exact⟨rfl,d⟩
   case rest=>
   obtain⟨rfl,Nf⟩:=hcut;have X9:=Zh (aF bC.o Nf)
   cases LD:(AR&&BL) with
   | true =>
    rw[LD,Qo rfl]at s;obtain rfl:=s.o;clear Nf s;go_wp2;go_ret3;exact⟨rfl,X9.o⟩
   | false =>
    rw[LD,Qu (by simp)]at s;obtain rfl:=s.o;clear Nf s;go_wp2;go_ret3;exact⟨rfl,X9.o⟩
 ·rw[ZW E]at y;obtain rfl:KV=(0,0,false):=by rw[I.o,Qu (λh=>E h.1)]
  clear I F R S Bf A Q;go_enter Tryz.func103,Tryz.ntmps103;go_wp2_with fail;refine Z5 y ?_;clear y;rintro e w5 ⟨rfl,rfl⟩;go_wp2;go_ret3;exact⟨rfl,HC.o⟩
