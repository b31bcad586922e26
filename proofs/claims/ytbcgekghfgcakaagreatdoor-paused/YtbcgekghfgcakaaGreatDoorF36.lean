import Derived.Test.YtbcgekghfgcakaaGreatDoorF17
import Derived.Test.YtbcgekghfgcakaaGreatDoorF33
import Derived.Test.YtbcgekghfgcakaaGreatDoorF35
set_option linter.all false
set_option maxRecDepth 100000
set_option maxHeartbeats 16000000
namespace Go.Proofs.Zz
open Go.RowKit Go.Shelf
structure Bl where
 W:World
 f:aB
 q:ae
 pb:Nat
 sb:Nat
 ca:Option Addr
 cc:Nat
structure mE (ts:List af) (room:Nat) (P:Bl) (w:World):Prop where
 blk:GB w P.pb 63 (#[.slice P.ca ts.length P.cc]++P.q.cells ++ #[.int .i64 (room:Int),.pointer (some (aD P.sb 0))])
 tabs:aJ P.W P.ca ts
 qat:P.q.At P.W
 nil:RG P.q
structure p9 (ts:List af) (N:Nat->Prop) (q:ae) (room:Nat) (w:World) (P:Bl) (M:Nat->Prop) (w':World):Prop where
 env:Env P.f ts P.q P.W
 same:aL q P.q
 se:∃ L,dn P.W P.f ts P.q (fun b=>(N b∨b=P.pb)∨M b) M w' P.sb L (dK aV ts P.q room)
 cell:w'.cell? (aD P.pb 9)=some (.pointer (some (aD P.sb 0)))
 new:∀ b,M b->w.heap.size<=b
 pb:w.heap.size<=P.pb
 Tg:¬ M P.pb
 below:Below w.heap.size w w'
 keep:mE ts room P w'
theorem p9.elder {ts:List af} {N:Nat->Prop} {q:ae} {room:Nat} {w x:World} {P:Bl} {M:Nat->Prop} {w':World} (h:p9 ts N q room x P M w') (hb:Below w.heap.size w x):p9 ts N q room w P M w':=
 ⟨h.env,h.same,h.se,h.cell,fun b hm=>Q4 hb.size (h.new b hm),Q4 hb.size h.pb,h.Tg,hb.trans (h.below.mono hb.size),h.keep⟩
def PlK (w:World) (pb:Nat) (T:TypeId) (c:List Value) (x:World):Prop:=Kept (fun b=>b≠pb) w x/\∃ u,GB x pb T (c++[u]).toArray
theorem PlK.below {w:World} {pb:Nat} {T:TypeId} {c:List Value} {x y:World} (h:PlK w pb T c x) (hb:Below x.heap.size x y):PlK w pb T c y:=by
 obtain⟨hk,u,hg⟩:=h;exact⟨hk.trans (Q9 hb (fun _ h _=>h)),u,hg.keep (Q9 (s:=fun b=>b<x.heap.size) hb (fun _ h _=>h)) hg.lt⟩
theorem PlK.set {w:World} {pb:Nat} {T:TypeId} {c:List Value} {x:World} (h:PlK w pb T c x) (v:Value):PlK w pb T c (x.setCell (aD pb c.length) v):=by
 obtain⟨hk,u,hg⟩:=h;refine⟨hk.trans (Zv _ _ _ (fun h=>h rfl)),v,?_⟩;have:=hg.set c.length v;rw[QK,ZI _ _ (Qq _),ZJ] at this;exact this
theorem Ti {ts:List af} (h:fo ts=true):ts.length<=1000:=by
 unfold fo at h;simp only[Qm,Qx] at h;omega
theorem DF (ao:Option Addr) (cap:Nat) (ts:List af) (q:ae) (room:Nat) (N:Nat->Prop) (w:World) (hx:aJ w ao ts) (hn:ao=none->cap=0) (hq:q.At w) (hkc:q.keys.xs.length<=q.keys.cap) (hoc:q.ord.xs.length<=q.ord.cap) (ht:Oz q) (hs:cZ w 0) (Cw:q.check ts=0) (h1:1<=room) (h2:room<=1000) (hN:∀ b,N b->b<w.heap.size) (h0:¬ N 0) (hw0:0<w.heap.size) :
  Calls Tryz.prog 19 #[.slice ao ts.length cap,.agg q.cells,.int .i64 (room:Int)] w fun e w'=>∃ P M,e=.returned (.tuple #[.pointer (some (aD P.pb 0)),.int .i64 0])/\p9 ts N q room w P M w':=by
 have hlt:=Ti (Mv Cw).1.cat;obtain⟨v0,v1,v2,v3,v4,v5,v6,sV⟩:∃ v0 v1 v2 v3 v4 v5 v6,q.cells=#[v0,v1,v2,v3,v4,v5,v6]:=⟨_,_,_,_,_,_,_,rfl⟩
 obtain⟨w1,hw1,hb1,hg1⟩:=bu w #[v0,v1,v2,v3,v4,v5,v6] 26;have hCH:=Bj ao cap ts q w1 (hx.below hb1) (hq.below hb1) hkc hoc;rw[Cw] at hCH;have Ex:Hid (∀ x,Below w.heap.size w x->Calls Tryz.prog 36 #[.slice ao ts.length cap] x fun e w'=>∃ ca cc,e=.returned (.slice ca ts.length cc)/\aJ w' ca ts/\(∀ a,ca=some a->x.heap.size<=a.block)/\Below x.heap.size x w'):=fun x hb=>by
  refine (yV ao cap ts x (hx.below hb) hn hlt).mono ?_;rintro e w' ⟨v,rfl,ho,hb'⟩;obtain⟨ad,cp,rfl,OC⟩:=Aj ho hlt;exact⟨ad,cp,rfl,OC,fun a ea=>(Zy ho (g:=a.block) (by rw[ea]; rfl)).1,hb'⟩
 have HCQ:Hid (∀ x,Below w.heap.size w x->Calls Tryz.prog 37 #[.agg q.cells] x fun e w'=>∃ p:ae,e=.returned (.agg p.cells)/\p.At w'/\aL q p/\p.New x.heap.size/\RG p/\p.keys.xs.length<=p.keys.cap/\Below x.heap.size x w'):=fun x hb=>Ml q x (hq.below hb) ht
 rw[sV] at hCH HCQ ⊢;have HSH:=Zh hs;have HCK:=Zh Cw;have HN:Hid ((∀ b,N b->b<w.heap.size)/\¬ N 0/\0<w.heap.size):=⟨hN,h0,hw0⟩
 have HR:Hid (1<=room/\room<=1000):=⟨h1,h2⟩
 have HB1:=Zh hb1;have r1:¬ ((room:Int)<1):=by omega
 have r2:¬ ((room:Int) > 1000):=by omega
 have r3:¬ ((1000:Int)<(room:Int)):=by omega
 obtain⟨a0,a1,a2,a3,a4,a5,a6⟩:=hg1.k7;clear hx hn hq hkc hoc ht hs Cw h1 h2 hN h0 hw0 hlt sV hb1 hg1;go_enter Tryz.func19,Tryz.ntmps19;go_wp2_with fail;refine hCH.mono ?_;rintro e w2 ⟨rfl,hb2⟩;clear hCH hw1;have d0:=cB hb2 a0;have d1:=cB hb2 a1;have d2:=cB hb2 a2;have d3:=cB hb2 a3;have d4:=cB hb2 a4;have d5:=cB hb2 a5;have d6:=cB hb2 a6;have HB2:=Zh (aG HB1.out hb2);clear hb2 a0 a1 a2 a3 a4 a5 a6;go_wp2_with fail;have hB0:Below w2.heap.size w2 w2.drew:=(Qp _ _).drew;refine wH w2 fun hS=>?_
 refine wt 0 (.slice ao ts.length cap) hS ?_;refine wT 2 (.agg #[v0,v1,v2,v3,v4,v5,v6]) hS (fun x hx=>?_) ?_
 ·have e0:=TP hx d0 d1 d2 d3 d4 d5 d6;go_simp
 refine wt 4 (.int .i64 (room:Int)) hS ?_;refine wR 1 fun K hK=>?_
 go_simp;refine Z7 (Ex.out _ (aG HB2.out hB0)) ?_;rintro e s1 ⟨ca,cc,rfl,OC,hcn,hb⟩;have T9:Hid (∀ a,ca=some a->w.heap.size<=a.block):=fun a ea=>Q4 (aG HB2.out hB0).size (hcn a ea)
 clear hcn;have ET:=aG hB0 hb;have Kh:=Zh OC;clear OC;refine hK.out _ _ (aG hS hb) (fun hS=>?_);clear hK K;refine wR 3 fun K hK=>?_
 go_simp;refine Z7 (HCQ.out _ (aG HB2.out ET)) ?_;rintro e s2 ⟨p,rfl,Oc,hsm,hnew,hkn,hkc,hb2⟩;have Mo:=aG ET hb2;have akj:=Zh (Kh.out.below hb2);have HP:Hid (p.At s2/\aL q p/\p.New s1.heap.size/\RG p/\p.keys.xs.length<=p.keys.cap):=⟨Oc,hsm,hnew,hkn,hkc⟩
 clear Oc hsm hnew hkn hkc Kh;obtain⟨p0,p1,p2,p3,p4,p5,p6,Re⟩:∃ p0 p1 p2 p3 p4 p5 p6,p.cells=#[p0,p1,p2,p3,p4,p5,p6]:=⟨_,_,_,_,_,_,_,rfl⟩
 rw[Re];refine hK.out _ _ (aG hS hb2) (fun hS=>?_);clear hK K;refine wt 5 (.agg #[.slice ca ts.length cc,p0,p1,p2,p3,p4,p5,p6,.int .i64 (room:Int),.pointer none]) hS ?_;refine wR 6 fun K hK=>?_
 go_simp;refine oA hK hS fun hS=>?_
 clear hK K;refine wt 7 (.pointer (some (aD s2.heap.size 0))) hS ?_;refine wD ?_
 try simp only[pV]
 obtain⟨w3,hw3,hb3,hg3⟩:=bu s2 #[.slice ca ts.length cc,p0,p1,p2,p3,p4,p5,p6,.int .i64 (room:Int),.pointer none] 63;have HB3:=Zh hb3;have jV:=Zh (aG HB2.out Mo);have nR:=Zh ((aG HB2.out ET).size);have vH:=Zh hg3.lt;have HFO:Hid (∀ x,Below s2.heap.size s2 x->Calls Tryz.prog 39 #[.slice ca ts.length cc,.agg p.cells] x fun e w'=>∃ f:aB,e=.returned (.agg (f.cells ts p))/\f.At ts p w'/\f.New x.heap.size/\Below x.heap.size x w'):=fun x hb=>Jz ca cc ts p x (akj.out.below hb) (HP.out.1.below hb) (Mv (ts:=ts) (q:=p) (by rw[HP.out.2.1.check ts]; exact HCK.out)).1.ok
 rw[Re] at HFO;obtain⟨pb,hpb⟩:∃ n,n=s2.heap.size:=⟨_,rfl⟩
 clear hS ET Mo hB0 hb hb2 hb3 d0 d1 d2 d3 d4 d5 d6;go_upto_region 7 with fail;rw[hw3];rw[<- hpb];rw[<- hpb] at hg3 vH;have YH:=Zh hpb;clear hpb;have hB3:Below w3.heap.size w3 w3.drew:=(Qp _ _).drew;refine QL (S:=PlK w3 pb 63 [.slice ca ts.length cc,p0,p1,p2,p3,p4,p5,p6,.int .i64 (room:Int)]) (by kernel_rfl) ⟨Q9 hB3 (fun _ h _=>h),.pointer none,hg3⟩ (fun hS=>?_);refine wt 0 (.pointer (some (aD pb 0))) hS ?_;refine wt 1 (.pointer (some (aD pb 0))) hS ?_;refine wt 2 (.pointer (some (aD pb 0))) hS ?_;refine wt 3 (.pointer (some (aD pb 0))) hS ?_;refine wT 4 (.slice ca ts.length cc) hS (fun x hx=>?_) ?_
 ·obtain⟨_,u,hg⟩:=hx;have e0:=hg.at 0;go_simp
 refine wt 5 (.pointer (some (aD pb 0))) hS ?_;refine wt 6 (.pointer (some (aD pb 0))) hS ?_;refine wt 7 (.pointer (some (aD pb 1))) hS ?_;refine wT 8 (.agg #[p0,p1,p2,p3,p4,p5,p6]) hS (fun x hx=>?_) ?_
 ·obtain⟨_,u,hg⟩:=hx;have e0:=hg.at 1;have e1:=hg.at 2;have e2:=hg.at 3;have e3:=hg.at 4;have e4:=hg.at 5;have e5:=hg.at 6;have e6:=hg.at 7;go_simp
 refine wt 10 (.int .i64 (room:Int)) hS ?_;refine wR 9 fun K hK=>?_
 go_simp;refine Z7 (HFO.out _ (aG HB3.out hB3)) ?_;rintro e w4 ⟨f,rfl,hf,hfn,hb4⟩;have hB4:=aG hB3 hb4;have Tj:=aG HB3.out hB4;have hl4:=Q8 vH.out hB4.size;have hwl:=jV.out.size;have hpb:=YH.out;have hE0:=aeL (by rw[HP.out.2.1.check ts]; exact HCK.out) hf (Z9 (aG jV.out Tj) HSH.out) HP.out.2.2.2.2 HP.out.2.2.2.1.keys;obtain⟨W0,HKL⟩:=RV (fun b=>N b∨b=pb) w4;have hE:=Env.kill HKL hE0 (W':=s2) (n:=s1.heap.size) (m:=w3.drew.heap.size) (fun h=>by
  have g1:=HN.out.2.2;rcases h with h | h
  ·exact HN.out.2.1 h
  ·omega) (fun b h=>by
  show b<w3.heap.size
  have g1:=vH.out;rcases h with h | h
  ·have:=HN.out.1 b h;omega
  ·omega) hfn (fun b h=>by
  rcases h with h | h
  ·have g2:=HN.out.1 b h;have g3:=nR.out;exact .inl (by omega)
  ·exact .inr (by omega)) Tj HP.out.1 HP.out.2.2.1
 have hz:Fz (fun b=>¬ (fun b=>N b∨b=pb) b) W0 w4:=Fz.kill HKL (Qp _ _) (fun b h=>by
  rcases h with h | h
  ·have:=HN.out.1 b h;have:=Tj.size;omega
  ·omega)
 have HKT:Hid (aJ W0 ca ts/\p.At W0):=by
  have g1:=HN.out.1;have g3:=nR.out;refine⟨Fe HKL (n:=w.heap.size) (fun b h=>?_) Tj akj.out T9.out,yF HKL (n:=s1.heap.size) (fun b h=>?_) Tj HP.out.1 HP.out.2.2.1⟩
  ·rcases h with h | h
   ·exact .inl (g1 b h)
   ·exact .inr (by omega)
  ·rcases h with h | h
   ·have:=g1 b h;exact .inl (by omega)
   ·exact .inr (by omega)
 have nQ:=Ta hE hz room HR.out.1 HR.out.2;have HE:=Zh hE;have jE:Hid (Below s2.heap.size s2 w4/\pb<w4.heap.size):=⟨Tj,hl4⟩
 have hg4:=hg3.keep (Q9 (s:=fun b=>b<w3.heap.size) hB4 (fun _ h _=>h)) vH.out;clear hE0 hE hz hf hfn hpb hwl hl4 HKL;refine hK.out _ _ (hS.below hb4) (fun hS=>?_);clear hK K;refine wR 11 fun K hK=>?_
 go_simp;refine Z7 (nQ) ?_;rintro e w5 ⟨sb,L,M,rfl,hse,hmn,hb5⟩;have TU:=Zh (XQ hse (XQ hmn hb5));have hg5:=hg4.keep (Q9 (s:=fun b=>b<w4.heap.size) hb5 (fun _ h _=>h)) jE.out.2;clear hse hmn nQ;refine hK.out _ _ (hS.below hb5) (fun hS=>?_);clear hK K;refine wt 12 (.pointer (some (aD pb 0))) hS ?_;refine wt 13 (.pointer (some (aD pb 9))) hS ?_;have c9:=hg5.at 9;have f9:=hg5.frozen 9;refine wR 14 fun K hK=>?_
 go_simp;refine hK.out _ _ (hS.set _) (fun hS=>?_);clear hK K;refine wD ?_
 try simp only[pV]
 obtain⟨w6,kC⟩:∃ x,w5.setCell (aD pb 9) (.pointer (some (aD sb 0)))=x:=⟨_,rfl⟩
 have gQ:Hid (p9 ts N q room w ⟨W0,f,p,pb,sb,ca,cc⟩ M w6):=by
  obtain⟨hse,hmn,hb5⟩:=TU.out;have hk:Kept (fun b=>¬ b=pb) w5 w6:=by rw[<- kC]; exact Zv _ _ _ (fun h=>h rfl)
  have BA:=hg5.set 9 (.pointer (some (aD sb 0)));rw[kC] at BA;have hl:=jE.out.2;have hpb:=YH.out;have hw2:=jV.out.size;have hnp:¬ M pb:=fun h=>by
   have:=hmn pb h;omega
  refine⟨HE.out,HP.out.2.1,⟨L,hse.other (N:=fun b=>b=pb) (N':=fun _=>False) (fun b h=>.inl (.inr h)) (fun b hb e=>hnp (e ▸ hb)) hk (fun b h=>h.elim) (fun b=>⟨fun h=>.inl h,fun h=>by
   rcases h with h | h
   ·exact h
   ·exact h.elim⟩) (fun b h=>h.elim) (fun b h=>h.elim)⟩,BA.cell 9,fun b hb=>?_,?_,hnp,?_,⟨?_,HKT.out.1,HKT.out.2,HP.out.2.2.2.1⟩⟩
  ·have:=hmn b hb;omega
  ·show w.heap.size<=pb
   omega
  ·have h5:=aG (aG jV.out jE.out.1) hb5;exact h5.trans (hk.below h5.size (fun b hb e=>by omega))
  ·show GB w6 pb _ (#[.slice ca ts.length cc]++p.cells ++ #[.int .i64 (room:Int),.pointer (some (aD sb 0))])
   rw[Re];exact BA
 clear hS hg3 hg4 hg5 c9 f9 TU HE jE HN;go_upto_region 8 with fail;rw[kC];go_wp2;go_ret2;exact⟨_,M,rfl,gQ.out⟩
theorem NB (pb sb:Nat) (w:World) (hc:w.cell? (aD pb 9)=some (.pointer (some (aD sb 0)))) {R:Ending->World->Prop} (hC:Calls Tryz.prog 26 #[.pointer (some (aD sb 0))] w R) (hR:∀ e w',R e w'->∃ v1 v2,e=.returned (.tuple #[v1,v2])) :
  Calls Tryz.prog 11 #[.pointer (some (aD pb 0))] w R:=by
 have HR:=Zh hR;clear hR;go_enter Tryz.func11,Tryz.ntmps11;go_wp2_with fail;refine hC.mono ?_;intro e w2 hr;obtain⟨v1,v2,rfl⟩:=HR.out e w2 hr;have HRR:=Zh hr;clear hr hc hC;go_wp2;exact HRR.out
theorem DL (pb sb:Nat) (n k:Int) (ad:Option Addr) (m cp:Nat) (w:World) (hc:w.cell? (aD pb 9)=some (.pointer (some (aD sb 0)))) {R:Ending->World->Prop} (hC:Calls Tryz.prog 20 #[.pointer (some (aD sb 0)),.int .i64 n,.int .i64 k,.slice ad m cp] w R) (hR:∀ e w',R e w'->∃ v,e=.returned (v)) :
  Calls Tryz.prog 8 #[.pointer (some (aD pb 0)),.int .i64 n,.int .i64 k,.slice ad m cp] w R:=by
 have HR:=Zh hR;clear hR;go_enter Tryz.func8,Tryz.ntmps8;go_wp2_with fail;refine hC.mono ?_;intro e w2 hr;obtain⟨v,rfl⟩:=HR.out e w2 hr;have HRR:=Zh hr;clear hr hc hC;go_wp2;exact HRR.out
theorem JG (pb sb:Nat) (w:World) (hc:w.cell? (aD pb 9)=some (.pointer (some (aD sb 0)))) {R:Ending->World->Prop} (hC:Calls Tryz.prog 28 #[.pointer (some (aD sb 0))] w R) (hR:∀ e w',R e w'->∃ v,e=.returned (v)) :
  Calls Tryz.prog 13 #[.pointer (some (aD pb 0))] w R:=by
 have HR:=Zh hR;clear hR;go_enter Tryz.func13,Tryz.ntmps13;go_wp2_with fail;refine hC.mono ?_;intro e w2 hr;obtain⟨v,rfl⟩:=HR.out e w2 hr;have HRR:=Zh hr;clear hr hc hC;go_wp2;exact HRR.out
