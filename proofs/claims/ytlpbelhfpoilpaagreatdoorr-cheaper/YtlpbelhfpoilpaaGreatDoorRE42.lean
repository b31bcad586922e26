import Derived.Test.YtlpbelhfpoilpaaGreatDoorRE19
import Derived.Test.YtlpbelhfpoilpaaGreatDoorRE39
import Derived.Test.YtlpbelhfpoilpaaGreatDoorRE41
set_option linter.all false
set_option maxRecDepth 100000
set_option maxHeartbeats 16000000
namespace Go.Proofs.Zz
open Go.RowKit Go.Shelf
variable {ts:List af} {R:Ending->World->Prop}
theorem Po{ls:List (List Int)}{p:aj}(h:p∈dC ls):p.2=none:=by
 unfold dC at h;obtain⟨o,_,rfl⟩:=Zi.1 h;rfl
theorem Lg{rk:Nat->Int}{Q:bG->Prop}:∀ (l:List Nat) (acc:List bG),(∀ t∈acc,Q t)->(∀ i∈l,Q (2 ^ i,0))->∀ t∈l.foldl (fun a (i:Nat)=>jl rk a (2 ^ i,0)) acc,Q t
 | [],_,h,_ => h
 | i::l,acc,h,hl => Lg l _ (fun t ht => by
   rcases yf ht with ht | rfl
   ·exact h t ht
   ·exact hl i Xg) (fun j hj=>hl j (Xf _ hj))
theorem U1(rk:Nat->Int)(a:List bG)(t:bG):a.length<=(jl rk a t).length/\(jl rk a t).length<=a.length+1:=by
 unfold jl;split
 ·omega
 ·rw[Zb,Zg,Zm,XT];omega
theorem aal(rk:Nat->Int)(t:bG):0<(jl rk [] t).length:=by
 unfold jl;split
 ·rename_i h
  exact absurd h (by simp[nV])
 ·simp
theorem zF(rk:Nat->Int):∀ (l:List Nat) (acc:List bG),acc.length<=(l.foldl (fun a (i:Nat)=>jl rk a (2 ^ i,0)) acc).length/\(l.foldl (fun a (i:Nat)=>jl rk a (2 ^ i,0)) acc).length<=acc.length+l.length
 | [],acc => by simp
 | i::l,acc => by
  have h1:=U1 rk acc (2 ^ i,0);have h2:=zF rk l (jl rk acc (2 ^ i,0));simp only[Q0,Zg];omega
theorem zG(rk:Nat->Int)(ts:List af)(q:ae)(room:Nat)(h1:1<=q.src.xs.length)(h5:q.src.xs.length<=5)(h8:q.wh.length<=8)(hr:1<=room):Es q (fA rk ts q room):=by
 have hp:=Ub ts q h1;have hg:=zF rk (List.range q.src.xs.length) [];rw[Zd]at hg;refine⟨⟨by unfold fA; simp,fun s hs=>?_,fun t ht=>?_,hp.1,?_⟩,fun _=>?_,?_⟩
 ·have hs':s<2 ^ q.src.xs.length-1:=by
   unfold fA at hs
   simpa using hs
  have e:(fA rk ts q room).groups.getD s []=dC ((dU ts q s).take room):=by
   unfold fA;rw[XH,Ze,ZX (by simpa using hs')];simp
  rw[e];obtain⟨⟨r,hu⟩,hl⟩:=CQ ts q s h8;refine⟨fun p hp x hx=>?_,?_,?_⟩
  ·rw[Po hp]at hx
   cases hx
  ·rw[hu];obtain⟨n,rfl⟩:∃ n,room=n+1:=⟨room-1,by omega⟩
   exact⟨none,dC (r.take n),rfl,fun x hx=>by cases hx⟩
  ·unfold dC;rw[Zc,Zm];omega
 ·exact Lg (rk:=rk) (Q:=lZ q.src.xs.length (fA rk ts q room).groups) (List.range q.src.xs.length) [] (fun t ht=>by cases ht) (fun i hi=>.inl ⟨rfl,i,Xq.1 hi,rfl⟩) t ht
 ·show (fQ ts q).ns.length<=800
  omega
 ·show 0<((List.range q.src.xs.length).foldl (fun a (i:Nat)=>jl rk a (2 ^ i,0)) []).length
  obtain⟨n,hn⟩:∃ n,q.src.xs.length=n+1:=⟨q.src.xs.length-1,by omega⟩
  rw[hn,List.range_succ_eq_map,Q0];exact Q6 (aal rk _) (zF rk _ _).1
 ·show ((List.range q.src.xs.length).foldl (fun a (i:Nat)=>jl rk a (2 ^ i,0)) []).length<=64*(0+1)
  have:=hg.2;simp only[ZA]at this;omega
structure Si where
 W:World
 f:au
 q:ae
 pb:Nat
 sb:Nat
structure rJ(ts:List af)(N:Nat->Prop)(q:ae)(room:Nat)(w:World)(P:Si)(M:Nat->Prop)(w':World):Prop where
 env:Env P.f ts P.q P.W
 same:bu q P.q
 se:∃ L,dQ P.W P.f ts P.q (fun b=>(N b∨b=P.pb)∨M b) M w' P.sb L (fA bA ts P.q room)
 cell:w'.cell? (aD P.pb 9)=some (.pointer (some (aD P.sb 0)))
 new:∀ b,M b->w.heap.size<=b
 pb:w.heap.size<=P.pb
 npb:¬ M P.pb
 below:Bw w w'
theorem rJ.elder{N:Nat->Prop}{q:ae}{room:Nat}{w x:World}{P:Si}{M:Nat->Prop}{w':World}(h:rJ ts N q room x P M w')(hb:Bw w x):rJ ts N q room w P M w':=
 ⟨h.env,h.same,h.se,h.cell,fun b hm=>Zl hb.size (h.new b hm),Zl hb.size h.pb,h.npb,hb.trans (h.below.mono hb.size)⟩
def PlK(w:World)(pb:Nat)(T:TypeId)(c:List Value)(x:World):Prop:=Kept (fun b=>b≠pb) w x/\∃ u,GB x pb T (c++[u]).toArray
theorem PlK.below{w:World}{pb:Nat}{T:TypeId}{c:List Value}{x y:World}(h:PlK w pb T c x)(hb:Bw x y):PlK w pb T c y:=by
 obtain⟨hk,u,hg⟩:=h;exact⟨hk.trans (Zo hb (fun _ h _=>h)),u,hg.keep (Zo (s:=fun b=>b<x.heap.size) hb (fun _ h _=>h)) hg.lt⟩
theorem PlK.set{w:World}{pb:Nat}{T:TypeId}{c:List Value}{x:World}(h:PlK w pb T c x)(v:Value):PlK w pb T c (x.setCell (aD pb c.length) v):=by
 obtain⟨hk,u,hg⟩:=h;refine⟨hk.trans (ZL _ _ _ (fun h=>h rfl)),v,?_⟩;have:=hg.set c.length v;rw[ZZ,Z0 _ _ (Qx _),Z4]at this;exact this
theorem U4(h:gI ts=true):ts.length<=1000:=by
 unfold gI at h;simp only[Qt,QJ]at h;omega
theorem U5(ao:Option Addr)(cap:Nat)(ts:List af)(q:ae)(room:Nat)(N:Nat->Prop)(w:World)(hx:aZ w ao ts)(hn:ao=none->cap=0)(hq:q.At w)(hkc:q.keys.xs.length<=q.keys.cap)(hoc:q.ord.xs.length<=q.ord.cap)(ht:YC q)(hs:bQ w 0)(CV:q.check ts=0)(h1:1<=room)(h2:room<=1000)(hN:∀ b,N b->b<w.heap.size)(h0:¬ N 0)(hw0:0<w.heap.size) :
  Calls Tryz.prog 59 #[.slice ao ts.length cap,.agg q.cells,.int .i64 (room:Int)] w fun e w'=>∃ P M,e=.returned (.tuple #[.pointer (some (aD P.pb 0)),.int .i64 0])/\rJ ts N q room w P M w':=by
 have hlt:=U4 (zu CV).1.cat;obtain⟨v0,v1,v2,v3,v4,v5,v6,uW⟩:∃ v0 v1 v2 v3 v4 v5 v6,q.cells=#[v0,v1,v2,v3,v4,v5,v6]:=⟨_,_,_,_,_,_,_,rfl⟩
 obtain⟨w1,hw1,hb1,hg1⟩:=aU w #[v0,v1,v2,v3,v4,v5,v6] 26;have hCH:=wI ao cap ts q w1 (hx.below hb1) (hq.below hb1) hkc hoc;rw[CV]at hCH;have J5:Hid (∀ x,Bw w x->Calls Tryz.prog 105 #[.slice ao ts.length cap] x fun e w'=>∃ ca cc,e=.returned (.slice ca ts.length cc)/\aZ w' ca ts/\Bw x w'):=fun x hb=>by
  refine(AQ ao cap ts x (hx.below hb) hn hlt).mono ?_;rintro e w' ⟨v,rfl,ho,hb'⟩;obtain⟨ad,cp,rfl,Wn⟩:=Oq ho hlt;exact⟨ad,cp,rfl,Wn,hb'⟩
 have HCQ:Hid (∀ x,Bw w x->Calls Tryz.prog 106 #[.agg q.cells] x fun e w'=>∃ p:ae,e=.returned (.agg p.cells)/\p.At w'/\bu q p/\p.New x.heap.size/\(p.keys.ad=none->p.keys.cap=0)/\p.keys.xs.length<=p.keys.cap/\Bw x w'):=fun x hb=>OH q x (hq.below hb) ht
 rw[uW]at hCH HCQ ⊢;have HSH:=Zh hs;have HCK:=Zh CV;have HN:Hid ((∀ b,N b->b<w.heap.size)/\¬ N 0/\0<w.heap.size):=⟨hN,h0,hw0⟩
 have HR:Hid (1<=room/\room<=1000):=⟨h1,h2⟩
 have HB1:=Zh hb1;have r1:¬ ((room:Int)<1):=by omega
 have r2:¬ ((room:Int) > 1000):=by omega
 have r3:¬ ((1000:Int)<(room:Int)):=by omega
 obtain⟨a0,a1,a2,a3,a4,a5,a6⟩:=hg1.k7;clear hx hn hq hkc hoc ht hs CV h1 h2 hN h0 hw0 hlt uW hb1 hg1;go_enter Tryz.func59,Tryz.ntmps59;go_wp2_with fail;refine hCH.mono ?_;rintro e w2 ⟨rfl,hb2⟩;clear hCH hw1;have d0:=cB hb2 a0;have d1:=cB hb2 a1;have d2:=cB hb2 a2;have d3:=cB hb2 a3;have d4:=cB hb2 a4;have d5:=cB hb2 a5;have d6:=cB hb2 a6;have HB2:=Zh (aA HB1.o hb2);clear hb2 a0 a1 a2 a3 a4 a5 a6;go_wp2_with fail;have hB0:Bw w2 w2.drew:=(Qw _ _).drew;refine wH w2 fun hS=>?_
 refine wt 0 (.slice ao ts.length cap) hS ?_;refine wT 2 (.agg #[v0,v1,v2,v3,v4,v5,v6]) hS (fun x hx=>?_) ?_
 ·have e0:=IJ hx d0 d1 d2 d3 d4 d5 d6;go_simp
 refine wt 4 (.int .i64 (room:Int)) hS ?_;refine wR 1 fun K hK=>?_
 go_simp;refine Xt (J5.o _ (aA HB2.o hB0)) ?_;rintro e s1 ⟨ca,cc,rfl,Wn,hb⟩;have G9:=aA hB0 hb;have MX:=Zh Wn;clear Wn;refine hK.o _ _ (aA hS hb) (fun hS=>?_);clear hK K;refine wR 3 fun K hK=>?_
 go_simp;refine Xt (HCQ.o _ (aA HB2.o G9)) ?_;rintro e s2 ⟨p,rfl,Tm,hsm,hnew,hkn,hkc,hb2⟩;have OJ:=aA G9 hb2;have asC:=Zh (MX.o.below hb2);have HP:Hid (p.At s2/\bu q p/\p.New s1.heap.size/\(p.keys.ad=none->p.keys.cap=0)/\p.keys.xs.length<=p.keys.cap):=⟨Tm,hsm,hnew,hkn,hkc⟩
 clear Tm hsm hnew hkn hkc MX;obtain⟨p0,p1,p2,p3,p4,p5,p6,hPC⟩:∃ p0 p1 p2 p3 p4 p5 p6,p.cells=#[p0,p1,p2,p3,p4,p5,p6]:=⟨_,_,_,_,_,_,_,rfl⟩
 rw[hPC];refine hK.o _ _ (aA hS hb2) (fun hS=>?_);clear hK K;refine wt 5 (.agg #[.slice ca ts.length cc,p0,p1,p2,p3,p4,p5,p6,.int .i64 (room:Int),.pointer none]) hS ?_;refine wR 6 fun K hK=>?_
 go_simp;refine oA hK hS fun hS=>?_
 clear hK K;refine wt 7 (.pointer (some (aD s2.heap.size 0))) hS ?_;refine wD ?_
 try simp only[pV]
 obtain⟨w3,hw3,hb3,hg3⟩:=aU s2 #[.slice ca ts.length cc,p0,p1,p2,p3,p4,p5,p6,.int .i64 (room:Int),.pointer none] 124;have HB3:=Zh hb3;have jV:=Zh (aA HB2.o OJ);have pO:=Zh ((aA HB2.o G9).size);have xU:=Zh hg3.lt;have HFO:Hid (∀ x,Bw s2 x->Calls Tryz.prog 71 #[.slice ca ts.length cc,.agg p.cells] x fun e w'=>∃ f:au,e=.returned (.agg (f.cells ts p))/\f.At ts p w'/\f.New x.heap.size/\Bw x w'):=fun x hb=>Am ca cc ts p x (asC.o.below hb) (HP.o.1.below hb) (zu (ts:=ts) (q:=p) (by rw[HP.o.2.1.check ts]; exact HCK.o)).1.ok
 rw[hPC]at HFO;obtain⟨pb,hpb⟩:∃ n,n=s2.heap.size:=⟨_,rfl⟩
 clear hS G9 OJ hB0 hb hb2 hb3 d0 d1 d2 d3 d4 d5 d6;go_upto_region 7 with fail;rw[hw3];rw[<- hpb];rw[<- hpb]at hg3 xU;have HPB:=Zh hpb;clear hpb;have hB3:Bw w3 w3.drew:=(Qw _ _).drew;refine QX (S:=PlK w3 pb 124 [.slice ca ts.length cc,p0,p1,p2,p3,p4,p5,p6,.int .i64 (room:Int)]) (by kernel_rfl) ⟨Zo hB3 (fun _ h _=>h),.pointer none,hg3⟩ (fun hS=>?_);refine wt 0 (.pointer (some (aD pb 0))) hS ?_;refine wt 1 (.pointer (some (aD pb 0))) hS ?_;refine wt 2 (.pointer (some (aD pb 0))) hS ?_;refine wt 3 (.pointer (some (aD pb 0))) hS ?_;refine wT 4 (.slice ca ts.length cc) hS (fun x hx=>?_) ?_
 ·obtain⟨_,u,hg⟩:=hx;have e0:=hg.at 0;go_simp
 refine wt 5 (.pointer (some (aD pb 0))) hS ?_;refine wt 6 (.pointer (some (aD pb 0))) hS ?_;refine wt 7 (.pointer (some (aD pb 1))) hS ?_;refine wT 8 (.agg #[p0,p1,p2,p3,p4,p5,p6]) hS (fun x hx=>?_) ?_
 ·obtain⟨_,u,hg⟩:=hx;have e0:=hg.at 1;have e1:=hg.at 2;have e2:=hg.at 3;have e3:=hg.at 4;have e4:=hg.at 5;have e5:=hg.at 6;have e6:=hg.at 7;go_simp
 refine wt 10 (.int .i64 (room:Int)) hS ?_;refine wR 9 fun K hK=>?_
 go_simp;refine Xt (HFO.o _ (aA HB3.o hB3)) ?_;rintro e w4 ⟨f,rfl,hf,hfn,hb4⟩;have hB4:=aA hB3 hb4;have adC:=aA HB3.o hB4;have hl4:=Q6 xU.o hB4.size;have hwl:=jV.o.size;have hpb:=HPB.o;have hE0:=agG (by rw[HP.o.2.1.check ts]; exact HCK.o) hf (XJ (aA jV.o adC) HSH.o) HP.o.2.2.2.2 HP.o.2.2.2.1;obtain⟨W0,HKL⟩:=Us (fun b=>N b∨b=pb) w4;have hE:=Env.kill HKL hE0 (W':=s2) (n:=s1.heap.size) (m:=w3.drew.heap.size) (fun h=>by
  have g1:=HN.o.2.2;rcases h with h | h
  ·exact HN.o.2.1 h
  ·omega) (fun b h=>by
  show b<w3.heap.size
  have g1:=xU.o;rcases h with h | h
  ·have:=HN.o.1 b h;omega
  ·omega) hfn (fun b h=>by
  rcases h with h | h
  ·have g2:=HN.o.1 b h;have g3:=pO.o;exact .inl (by omega)
  ·exact .inr (by omega)) adC HP.o.1 HP.o.2.2.1
 have hz:Fz (fun b=>¬ (fun b=>N b∨b=pb) b) W0 w4:=Fz.kill HKL (Qw _ _) (fun b h=>by
  rcases h with h | h
  ·have:=HN.o.1 b h;have:=adC.size;omega
  ·omega)
 have jk:=UZ hE hz room HR.o.1 HR.o.2;have HE:=Zh hE;have mH:Hid (Bw s2 w4/\pb<w4.heap.size):=⟨adC,hl4⟩
 have hg4:=hg3.keep (Zo (s:=fun b=>b<w3.heap.size) hB4 (fun _ h _=>h)) xU.o;clear hE0 hE hz hf hfn hpb hwl hl4 HKL;refine hK.o _ _ (hS.below hb4) (fun hS=>?_);clear hK K;refine wR 11 fun K hK=>?_
 go_simp;refine Xt (jk) ?_;rintro e w5 ⟨sb,L,M,rfl,hse,hmn,hb5⟩;have xC:=Zh (X5 hse (X5 hmn hb5));have hg5:=hg4.keep (Zo (s:=fun b=>b<w4.heap.size) hb5 (fun _ h _=>h)) mH.o.2;clear hse hmn jk;refine hK.o _ _ (hS.below hb5) (fun hS=>?_);clear hK K;refine wt 12 (.pointer (some (aD pb 0))) hS ?_;refine wt 13 (.pointer (some (aD pb 9))) hS ?_;have c9:=hg5.at 9;have f9:=hg5.frozen 9;refine wR 14 fun K hK=>?_
 go_simp;refine hK.o _ _ (hS.set _) (fun hS=>?_);clear hK K;refine wD ?_
 try simp only[pV]
 obtain⟨w6,lS⟩:∃ x,w5.setCell (aD pb 9) (.pointer (some (aD sb 0)))=x:=⟨_,rfl⟩
 have gz:Hid (rJ ts N q room w ⟨W0,f,p,pb,sb⟩ M w6):=by
  obtain⟨hse,hmn,hb5⟩:=xC.o;have hk:Kept (fun b=>¬ b=pb) w5 w6:=by rw[<- lS]; exact ZL _ _ _ (fun h=>h rfl)
  have hg6:=hg5.set 9 (.pointer (some (aD sb 0)));rw[lS]at hg6;have hl:=mH.o.2;have hpb:=HPB.o;have hw2:=jV.o.size;have hnp:¬ M pb:=fun h=>by
   have:=hmn pb h;omega
  refine⟨HE.o,HP.o.2.1,⟨L,hse.other (N:=fun b=>b=pb) (N':=fun _=>False) (fun b h=>.inl (.inr h)) (fun b hb e=>hnp (e ▸ hb)) hk (fun b h=>h.elim) (fun b=>⟨fun h=>.inl h,fun h=>by
   rcases h with h | h
   ·exact h
   ·exact h.elim⟩) (fun b h=>h.elim) (fun b h=>h.elim)⟩,hg6.cell 9,fun b hb=>?_,?_,hnp,?_⟩
  ·have:=hmn b hb;omega
  ·show w.heap.size<=pb
   omega
  ·have h5:=aA (aA jV.o mH.o.1) hb5;exact h5.trans (hk.below h5.size (fun b hb e=>by omega))
 clear hS hg3 hg4 hg5 c9 f9 xC HE mH HN;go_upto_region 8 with fail;rw[lS];go_wp2;go_ret2;exact⟨_,M,rfl,gz.o⟩
theorem P5(pb sb:Nat)(w:World)(hc:w.cell? (aD pb 9)=some (.pointer (some (aD sb 0))))(hC:Calls Tryz.prog 60 #[.pointer (some (aD sb 0))] w R)(hR:∀ e w',R e w'->∃ v1 v2,e=.returned (.tuple #[v1,v2])) :
  Calls Tryz.prog 25 #[.pointer (some (aD pb 0))] w R:=by
 have HR:=Zh hR;clear hR;go_enter Tryz.func25,Tryz.ntmps25;go_wp2_with fail;refine hC.mono ?_;intro e w2 hr;obtain⟨v1,v2,rfl⟩:=HR.o e w2 hr;have HRR:=Zh hr;clear hr hc hC;go_wp2;exact HRR.o
theorem Vv(pb sb:Nat)(n k:Int)(ad:Option Addr)(m cp:Nat)(w:World)(hc:w.cell? (aD pb 9)=some (.pointer (some (aD sb 0))))(hC:Calls Tryz.prog 61 #[.pointer (some (aD sb 0)),.int .i64 n,.int .i64 k,.slice ad m cp] w R)(hR:∀ e w',R e w'->∃ v,e=.returned (v)) :
  Calls Tryz.prog 26 #[.pointer (some (aD pb 0)),.int .i64 n,.int .i64 k,.slice ad m cp] w R:=by
 have HR:=Zh hR;clear hR;go_enter Tryz.func26,Tryz.ntmps26;go_wp2_with fail;refine hC.mono ?_;intro e w2 hr;obtain⟨v,rfl⟩:=HR.o e w2 hr;have HRR:=Zh hr;clear hr hc hC;go_wp2;exact HRR.o
theorem LY(pb sb:Nat)(w:World)(hc:w.cell? (aD pb 9)=some (.pointer (some (aD sb 0))))(hC:Calls Tryz.prog 62 #[.pointer (some (aD sb 0))] w R)(hR:∀ e w',R e w'->∃ v,e=.returned (v)) :
  Calls Tryz.prog 28 #[.pointer (some (aD pb 0))] w R:=by
 have HR:=Zh hR;clear hR;go_enter Tryz.func28,Tryz.ntmps28;go_wp2_with fail;refine hC.mono ?_;intro e w2 hr;obtain⟨v,rfl⟩:=HR.o e w2 hr;have HRR:=Zh hr;clear hr hc hC;go_wp2;exact HRR.o
