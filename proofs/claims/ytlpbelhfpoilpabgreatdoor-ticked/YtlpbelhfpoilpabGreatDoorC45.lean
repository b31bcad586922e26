import Derived.Test.YtlpbelhfpoilpabGreatDoorC40
import Derived.Test.YtlpbelhfpoilpabGreatDoorC44
set_option linter.all false
set_option maxRecDepth 100000
set_option maxHeartbeats 16000000
namespace Go.Proofs.YtlpbelhfpoilpabGreatDoor
open Go.RowKit Go.Scout Go.Shelf
theorem Duo.lt {ts:List TableD} {w0:World} {a b:PlS} {Ma Mb:Nat->Prop} {σ τ:SeD} {w:World} (h:Duo ts w0 a b Ma Mb σ τ w) {c:Nat} (hc:Ma c):c<w.heap.size:=by
 obtain⟨X,L,s,_⟩:=h.sa;exact (s.lt (s.sub c hc)).2
structure Both (ts:List TableD) (w0:World) (po:Option Addr) (ps:List Int) (q:QueryV) (a b:PlS):Prop where
 ea:Env a.f ts a.q a.W
 eb:Env b.f ts b.q b.W
 qa:QSame q a.q
 qb:QSame q b.q
 ps:IntsAt w0 po ps
 pb:∀ c,po=some c->c.block<w0.heap.size
theorem Began.lt {ts:List TableD} {N:Nat->Prop} {q:QueryV} {room:Nat} {w:World} {P:PlS} {M:Nat->Prop} {w':World} (h:Began ts N q room w P M w') {c:Nat} (hc:c=P.pb∨M c):c<w'.heap.size:=by
 rcases hc with rfl | hc
 ·exact cell_lt h.cell
 ·obtain⟨L,s⟩:=h.se;exact (s.lt (s.sub c hc)).2
theorem kept_plan {Ma Ma':Nat->Prop} {Tn:TypeId} {x y y1 y2:World} {base:Nat} {v:Value} {nv:List NodeV} (h:NodesK Tn (fun c=>x.heap.size<=c) base y v nv) (hl:∀ c,Ma c->c<x.heap.size) (k1:Kept (fun c=>¬ Ma c) y y1) (hm:∀ c,Ma' c->Ma c∨y.heap.size<=c) (k2:Kept (fun c=>¬ Ma' c) y1 y2):NodesK Tn (fun c=>x.heap.size<=c/\c<y.heap.size) base y2 v nv:=by
 have h1:=h.mono (G:=fun c=>x.heap.size<=c/\c<y.heap.size) (fun c hc hx=>⟨hx,hc⟩);refine (h1.keptF (k1.mono fun c _ hc hM=>?_)).keptF (k2.mono fun c _ hc hM=>?_)
 ·have:=hl c hM;omega
 ·rcases hm c hM with hM | hM
  ·have:=hl c hM;omega
  ·omega
theorem ticked_any (lo:Option Addr) (lc:Nat) (l:List Int) (n1 n2:Int) (po:Option Addr) (pc:Nat) (ps:List Int) (n4:Int) (W:World) (hI:IntsAt W lo l) (hR:∀ x∈l,-9223372036854775808<=x/\x<=9223372036854775807) (hB:∀ a,lo=some a->a.block<W.heap.size) (hP:IntsAt W po ps) (hPB:∀ a,po=some a->a.block<W.heap.size) (hS:ShapesAt W 0)
  (h1:-9223372036854775808<=n1/\n1<=9223372036854775807) (h2:-9223372036854775808<=n2/\n2<=9223372036854775807) (h4:-9223372036854775808<=n4/\n4<=9223372036854775807) :
  Calls Tryz.prog 3 #[.slice lo l.length lc,.int .i64 n1,.int .i64 n2,.slice po ps.length pc,.int .i64 n4] W fun e W'=>e=.returned (.bool true)/\Below W.heap.size W W':=by
 have hm:=made_any lo lc l W hI hR hB;have HP:Hid (IntsAt W po ps/\∀ a,po=some a->a.block<W.heap.size):=⟨hP,hPB⟩
 have HS:Hid (ShapesAt W 0/\0<W.heap.size):=⟨hS,cell_lt (hS 0 _ rfl)⟩
 have HK1:Hid (∀ x:World,Calls Tryz.prog 6 #[.int .i64 n1,.int .i64 100] x fun e w'=>e=.returned (.int .i64 (pickI n1 100))/\w' = x):=fun x=>pick1_any n1 100 x (by omega) h1
 have HK2:Hid (∀ x:World,Calls Tryz.prog 6 #[.int .i64 n2,.int .i64 100] x fun e w'=>e=.returned (.int .i64 (pickI n2 100))/\w' = x):=fun x=>pick1_any n2 100 x (by omega) h2
 obtain⟨n,hn,hn1⟩:∃ n:Nat,pickI n1 100=(n:Int)/\n<100:=by
  have:=pickI_range (c:=n1) (n:=100) (by omega);exact⟨(pickI n1 100).toNat,by omega,by omega⟩
 obtain⟨k,hk,hk1⟩:∃ n:Nat,pickI n2 100=(n:Int)/\n<100:=by
  have:=pickI_range (c:=n2) (n:=100) (by omega);exact⟨(pickI n2 100).toNat,by omega,by omega⟩
 rw[hn] at HK1;rw[hk] at HK2;have HNK:Hid (n<100/\k<100):=⟨hn1,hk1⟩
 clear hI hR hB hP hPB hS h1 h2 h4 hn hk hn1 hk1;go_enter Tryz.func3,Tryz.ntmps3;go_wp2_with fail;refine hm.mono ?_;rintro e w1 ⟨ts,q,db,co,d,cc,dc,rfl,hok,hts,hco,hcc,hls,hdb,hb1⟩;obtain⟨x0,y0,z0,x1,y1,z1,g0,x3,y3,z3,x4,y4,z4,x5,y5,z5,x6,y6,z6,hQC⟩:∃ x0 y0 z0 x1 y1 z1 g0 x3 y3 z3 x4 y4 z4 x5 y5 z5 x6 y6 z6,q.cells=#[(.slice x0 y0 z0),(.slice x1 y1 z1),(.bool g0),(.slice x3 y3 z3),(.slice x4 y4 z4),(.slice x5 y5 z5),(.slice x6 y6 z6)]:=⟨_,_,_,_,_,_,_,_,_,_,_,_,_,_,_,_,_,_,_,rfl⟩
 have hCA:caseA (.slice co ts.length cc) q (.slice d db.length dc)=#[.slice co ts.length cc,(.slice x0 y0 z0),(.slice x1 y1 z1),(.bool g0),(.slice x3 y3 z3),(.slice x4 y4 z4),(.slice x5 y5 z5),(.slice x6 y6 z6),.slice d db.length dc]:=by
  have:caseA (.slice co ts.length cc) q (.slice d db.length dc)=#[.slice co ts.length cc]++q.cells ++ #[.slice d db.length dc]:=rfl;rw[this,hQC];rfl
 obtain⟨W2,hW2,hb2,hg2⟩:=newB w1 #[.slice co ts.length cc,(.slice x0 y0 z0),(.slice x1 y1 z1),(.bool g0),(.slice x3 y3 z3),(.slice x4 y4 z4),(.slice x5 y5 z5),(.slice x6 y6 z6),.slice d db.length dc] 29;have hB2:Below W.heap.size W W2:=bQ1 hb1 hb2;have hls2:ListsIn W.heap.size q W2:=hls.keep (Kept.of_below (s:=fun _=>True) hb2 (fun b hb _=>hb)) (fun _ _=>trivial);have HBG:Hid (∀ x N,Below W2.heap.size W2 x->(∀ b,N b->b<x.heap.size)->¬ N 0->Calls Tryz.prog 5 #[.agg #[.slice co ts.length cc,(.slice x0 y0 z0),(.slice x1 y1 z1),(.bool g0),(.slice x3 y3 z3),(.slice x4 y4 z4),(.slice x5 y5 z5),(.slice x6 y6 z6),.slice d db.length dc],.int .i64 1000] x fun e w'=>∃ P M,e=.returned (.tuple #[.pointer (some (aD P.pb 0)),.bool true])/\Began ts N q 1000 x P M w'):=fun x N hb hN h0=>by
  rw[<- hCA];exact keepBegin_any co cc (.slice d db.length dc) ts q db 1000 W.heap.size N x ((hts.below hb2).below hb) (hls2.keep (Kept.of_below (s:=fun _=>True) hb (fun b hb _=>hb)) (fun _ _=>trivial)) hok (ShapesAt.below (bQ1 hB2 hb) HS.out.1) (by omega) (by omega) hN h0 (Nat.lt_of_lt_of_le HS.out.2 (bQ1 hB2 hb).size)
 have hSO:1<=q.src.xs.length/\q.src.xs.length<=5/\q.wh.length<=8:=by
  have g1:=hok.qry.src;have g2:=hok.qry.wh.1;exact⟨g1.2.1,by omega,by omega⟩
 have HSO:Hid (1<=q.src.xs.length/\q.src.xs.length<=5/\q.wh.length<=8):=hSO;have HB2:Hid (Below W.heap.size W W2):=hB2;have HG2:Hid (GB W2 w1.heap.size 29 #[.slice co ts.length cc,(.slice x0 y0 z0),(.slice x1 y1 z1),(.bool g0),(.slice x3 y3 z3),(.slice x4 y4 z4),(.slice x5 y5 z5),(.slice x6 y6 z6),.slice d db.length dc]):=hg2;have c0:W2.cell? (aD w1.heap.size 0)=some (.slice co ts.length cc):=hg2.cell 0;have c1:W2.cell? (aD w1.heap.size 1)=some ((.slice x0 y0 z0)):=hg2.cell 1;have c2:W2.cell? (aD w1.heap.size 2)=some ((.slice x1 y1 z1)):=hg2.cell 2;have c3:W2.cell? (aD w1.heap.size 3)=some ((.bool g0)):=hg2.cell 3;have c4:W2.cell? (aD w1.heap.size 4)=some ((.slice x3 y3 z3)):=hg2.cell 4;have c5:W2.cell? (aD w1.heap.size 5)=some ((.slice x4 y4 z4)):=hg2.cell 5;have c6:W2.cell? (aD w1.heap.size 6)=some ((.slice x5 y5 z5)):=hg2.cell 6;have c7:W2.cell? (aD w1.heap.size 7)=some ((.slice x6 y6 z6)):=hg2.cell 7;have c8:W2.cell? (aD w1.heap.size 8)=some (.slice d db.length dc):=hg2.cell 8;clear hm hok hts hco hcc hls hdb hb1 hb2 hg2 hB2 hls2 hSO hQC;rw[hCA];clear hCA;go_upto_region 2 with fail
 try rw[hW2]
 clear hW2;have hBg:=HBG.out W2 (fun _=>False) (Below.refl _ _) (fun _ h=>h.elim) (fun h=>h);go_wp2_with fail;refine hBg.mono ?_;rintro e w3 ⟨a,Ma,rfl,hA⟩;clear hBg;have hBg:=HBG.out w3 (fun c=>c=a.pb∨Ma c) hA.below (fun c hc=>hA.lt hc) (fun h=>by
  have g0:=HS.out.2;have g1:=HB2.out.size;rcases h with h | h
  ·have:=hA.pb;omega
  ·have:=hA.new 0 h;omega)
 have HA:Hid (Began ts (fun _=>False) q 1000 W2 a Ma w3):=hA;have d0:=cB hA.below c0;have d1:=cB hA.below c1;have d2:=cB hA.below c2;have d3:=cB hA.below c3;have d4:=cB hA.below c4;have d5:=cB hA.below c5;have d6:=cB hA.below c6;have d7:=cB hA.below c7;have d8:=cB hA.below c8;clear hA c0 c1 c2 c3 c4 c5 c6 c7 c8;go_wp2_with fail;refine hBg.mono ?_;rintro e w4 ⟨b,Mb,rfl,hB⟩;have hduo:=Duo.make (HA.out.elder HB2.out) hB;obtain⟨σ,hσ⟩:∃ σ,σ=beginN rkN ts q 1000:=⟨_,rfl⟩
 rw[HA.out.same.beginN rkN ts 1000,hB.same.beginN rkN ts 1000,<- hσ] at hduo;have HDU:Hid (Duo ts W a b Ma Mb σ σ w4):=hduo;have HBO:Hid (Both ts W po ps q a b):=⟨HA.out.env,hB.env,HA.out.same,hB.same,HP.out.1,HP.out.2⟩
 have HSOK:Hid (SOk a.q σ/\SOk b.q σ/\σ.picks=[]):=by
  refine⟨?_,?_,by rw[hσ]; rfl⟩
  ·rw[hσ,<- HA.out.same.beginN rkN ts 1000];exact beginN_ok rkN ts a.q 1000 (by rw[HA.out.same.src]; exact HSO.out.1) (by rw[HA.out.same.src]; exact HSO.out.2.1) (by rw[HA.out.same.len]; exact HSO.out.2.2) (by omega)
  ·rw[hσ,<- hB.same.beginN rkN ts 1000];exact beginN_ok rkN ts b.q 1000 (by rw[hB.same.src]; exact HSO.out.1) (by rw[hB.same.src]; exact HSO.out.2.1) (by rw[hB.same.len]; exact HSO.out.2.2) (by omega)
 clear hduo hB hBg HA HBG HP HS HG2 d0 d1 d2 d3 d4 d5 d6 d7 d8 hσ;go_wp2_with fail;refine (HK1.out w4).mono ?_;rintro e w4' ⟨rfl,hw⟩;rw[hw];clear hw w4';go_wp2_with fail;refine (HK2.out w4).mono ?_;rintro e w4' ⟨rfl,hw⟩;rw[hw];clear hw w4';have hRun:=HDU.out.run HBO.out.ea HSOK.out.1 n (by rw[HSOK.out.2.2]; have:=HNK.out.1; simp; omega) (k:Int) po pc ps HBO.out.ps HBO.out.pb;go_wp2_with fail;refine hRun.mono ?_;rintro e w5 ⟨Ma1,σ1,hσ1,rfl,hd1,hk1,hm1⟩;rw[HBO.out.qa.goT rkN ts,HBO.out.qa.conc ts] at hσ1;have HD1:Hid (Duo ts W a b Ma1 Mb σ1 σ w5):=hd1;have HQ1:Hid (σ1=goT rkN ts q (concL ts q) ps n (k:Int) σ):=hσ1;clear hRun hσ1 hd1 hk1 hm1 HDU;obtain⟨m,hm⟩:∃ m,m=(if k<n then k else n):=⟨_,rfl⟩
 have HM:Hid (m=(if k<n then k else n)):=hm;have hRun:=HD1.out.swap.run HBO.out.eb HSOK.out.2.1 m (by rw[HSOK.out.2.2]; have:=HNK.out; rw[hm]; split <;> simp <;> omega) (-1) po pc ps HBO.out.ps HBO.out.pb;rw[HBO.out.qb.goT rkN ts,HBO.out.qb.conc ts] at hRun;have HL:Hid (∀ τ1,τ1=goT rkN ts q (concL ts q) ps m (-1) σ->SameS σ1 τ1/\σ1.status=if τ1.status=1/\k<n then 4 else τ1.status):=fun τ1 h=>by
  rw[h,hm,HQ1.out];exact goT_least n k
 by_cases hkn:k<n
 ·have hm0:m=k:=by rw[hm,if_pos hkn]
  rw[hm0] at hRun;clear hm;go_wp2_with fail;refine hRun.mono ?_;rintro e w6 ⟨Mb1,τ1,hτ1,rfl,hd2,hk2,hm2⟩;rw[<- hm0] at hτ1;have HD2:Hid (Duo ts W a b Ma1 Mb1 σ1 τ1 w6):=hd2.swap;obtain⟨hsm,hst⟩:=HL.out τ1 hτ1;have HSM:Hid (SameS σ1 τ1):=hsm;have HO1:Hid (SOk a.q σ1/\SOk b.q τ1/\σ1.picks.length<=100):=by
   refine⟨?_,?_,?_⟩
   ·rw[HQ1.out,<- HBO.out.qa.goT rkN ts,<- HBO.out.qa.conc ts];exact (goT_ok (concL_len ts a.q) HBO.out.ea.five ps HSOK.out.1 n _).1
   ·rw[hτ1,<- HBO.out.qb.goT rkN ts,<- HBO.out.qb.conc ts];exact (goT_ok (concL_len ts b.q) HBO.out.eb.five ps HSOK.out.2.1 m _).1
   ·have g:=(goT_ok (rk:=rkN) (ts:=ts) (concL_len ts a.q) HBO.out.ea.five ps HSOK.out.1 n (k:Int)).2;rw[HBO.out.qa.goT rkN ts,HBO.out.qa.conc ts,<- HQ1.out,HSOK.out.2.2] at g;have:=HNK.out.1;simp at g;omega
  clear hRun hd2 hk2 hm2 hsm hτ1 hm0 HD1 HQ1 HL;by_cases hs1:τ1.status=1
  ·rw[hs1] at hst ⊢;have hs4:σ1.status=4:=by rw[hst,if_pos ⟨rfl,hkn⟩]
   clear hst;rw[hs4];have hBest:=HD2.out.best HBO.out.ea HO1.out.1;go_wp2_with fail;refine hBest.mono ?_;rintro e w7 ⟨aa,ac,av,rfl,hav,hak,hal,hb7⟩;clear hBest;have HD3:Hid (Duo ts W a b Ma1 Mb1 σ1 τ1 w7):=HD2.out.step hb7;have hBest:=HD3.out.swap.best HBO.out.eb HO1.out.2.1;rw[<- HSM.out.best] at hBest;have HAK:Hid _:=hak;have HAV:Hid (av.map pureN=σ1.best.ns/\av.length<=1000):=⟨hav,hal⟩
   have HLM:Hid (∀ c,Ma1 c->c<w6.heap.size):=fun c hc=>HD2.out.lt hc
   clear hav hak hal hb7 HD2;go_wp2_with fail;refine hBest.mono ?_;rintro e w8 ⟨ba,bc,bv,rfl,hbv,hbk,hbl,hb8⟩;clear hBest;have HD4:Hid (Duo ts W a b Ma1 Mb1 σ1 τ1 w8):=HD3.out.step hb8;have HAK4:=HAK.out.below hb8;have hps:=pures_same (HAV.out.1.trans hbv.symm);obtain⟨_,_,ev1,hna⟩:=HAK4.plan HAV.out.2;obtain⟨_,_,ev2,hnb⟩:=hbk.plan hbl;injection ev1 with ev11 ev12 ev13;subst ev11;injection ev2 with ev21 ev22 ev23;subst ev21;clear ev12 ev13 ev22 ev23;have hSame:=keepPlan_any aa ba ac bc av bv w8 hna hnb hps.1 hps.2;have HAK8:Hid _:=HAK4;clear HAK4 HAK hbv hbk hbl hb8 hps hna hnb HD3;go_wp2_with fail;refine hSame.mono ?_;rintro e w9 ⟨rfl,hb9⟩;clear hSame;have HD5:Hid (Duo ts W a b Ma1 Mb1 σ1 τ1 w9):=HD4.out.step hb9;have HAK9:Hid _:=HAK8.out.below hb9;clear hb9 HD4 HAK8;go_wp2_with fail;refine HD5.out.steps.mono ?_;rintro e w9' ⟨rfl,hw⟩;rw[hw];clear hw w9';go_wp2_with fail;refine HD5.out.swap.steps.mono ?_;rintro e w9' ⟨rfl,hw⟩;rw[hw,<- HSM.out.picks];clear hw w9';obtain⟨C,hC⟩:∃ C:Nat,C=σ1.best.d.cost:=⟨_,rfl⟩
   obtain⟨K,hK⟩:∃ K:Nat,K=σ1.picks.length:=⟨_,rfl⟩
   rw[<- hC,<- hK];have HC:Hid (C=σ1.best.d.cost/\K=σ1.picks.length):=⟨hC,hK⟩
   clear hC hK;have t1:((C:Int) != (C:Int))=false:=by simp
   have t2:((K:Int) != (K:Int))=false:=by simp
   have hOne:=HD5.out.one HBO.out.ea HO1.out.1 (by have:=HO1.out.2.2; omega) n4;have hne:¬ σ1.status=1:=by rw[hs4]; decide
   rw[if_neg hne] at hOne;go_wp2_with fail;refine hOne.mono ?_;rintro e w10 ⟨Ma2,σ2,hσ2,rfl,hd6,hk6,hm6⟩;subst hσ2;have HD6:Hid (Duo ts W a b Ma2 Mb1 σ2 τ1 w10):=hd6;have HK6:Hid _:=hk6;have HM6:Hid _:=hm6;clear hOne hd6 hk6 hm6;rw[hs4];have hRun:=HD6.out.run HBO.out.ea HO1.out.1 5 (by have:=HO1.out.2.2; omega) (-1) po pc ps HBO.out.ps HBO.out.pb;rw[goT_ended (rk:=rkN) (ts:=ts) (q:=a.q) (conc:=concL ts a.q) (picks:=ps) hne 5 (-1) (by omega)] at hRun;clear hne;go_wp2_with fail;refine hRun.mono ?_;rintro e w11 ⟨Ma3,σ3,hσ3,rfl,hd7,hk7,hm7⟩;subst hσ3;have HD7:Hid (Duo ts W a b Ma3 Mb1 σ3 τ1 w11):=hd7;have HAK11:Hid _:=kept_plan HAK9.out HLM.out HK6.out HM6.out hk7;clear hRun hd7 hk7 hm7 HK6 HM6 HAK9;rw[hs4];go_wp2_with fail;refine HD7.out.steps.mono ?_;rintro e w11' ⟨rfl,hw⟩;rw[hw,<- HC.out.2];clear hw w11';have hBest:=HD7.out.best HBO.out.ea HO1.out.1;rw[<- HC.out.1] at hBest;go_wp2_with fail;refine hBest.mono ?_;rintro e w12 ⟨da,dc2,dv,rfl,hdv,hdk,hdl,hb12⟩;clear hBest;have HAK12:=HAK11.out.below hb12;have hps:=pures_same (HAV.out.1.trans hdv.symm);obtain⟨_,_,ev1,hna⟩:=HAK12.plan HAV.out.2;obtain⟨_,_,ev2,hnb⟩:=hdk.plan hdl;injection ev1 with ev11 ev12 ev13;subst ev11;injection ev2 with ev21 ev22 ev23;subst ev21;clear ev12 ev13 ev22 ev23;have hSame:=keepPlan_any aa da ac dc2 av dv w12 hna hnb hps.1 hps.2;have HBE:Hid (Below W.heap.size W w12):=(HD7.out.step hb12).below;clear HAK12 hdv hdk hdl hb12 hps hna hnb HAK11;go_wp2_with fail;refine hSame.mono ?_;rintro e w13 ⟨rfl,hb13⟩;clear hSame;have HBE2:Hid (Below W.heap.size W w13):=bQ1 HBE.out hb13;clear hb13;have t3:((C:Int)==(C:Int))=true:=by simp
   have t4:((K:Int)==(K:Int))=true:=by simp
   go_wp2;go_ret;exact⟨rfl,HBE2.out⟩
  ·have hs4:σ1.status=τ1.status:=by rw[hst,if_neg (fun h=>hs1 h.1)]
   clear hst;rw[hs4];obtain⟨S,hS⟩:∃ S,S=τ1.status:=⟨_,rfl⟩
   rw[<- hS] at hs1 hs4 ⊢;clear hS;have hb1:(S==1)=false:=by rw[beq_eq_false_iff_ne]; exact hs1
   have hb2:(S != S)=false:=by simp
   have hBest:=HD2.out.best HBO.out.ea HO1.out.1;go_wp2_with fail;refine hBest.mono ?_;rintro e w7 ⟨aa,ac,av,rfl,hav,hak,hal,hb7⟩;clear hBest;have HD3:Hid (Duo ts W a b Ma1 Mb1 σ1 τ1 w7):=HD2.out.step hb7;have hBest:=HD3.out.swap.best HBO.out.eb HO1.out.2.1;rw[<- HSM.out.best] at hBest;have HAK:Hid _:=hak;have HAV:Hid (av.map pureN=σ1.best.ns/\av.length<=1000):=⟨hav,hal⟩
   have HLM:Hid (∀ c,Ma1 c->c<w6.heap.size):=fun c hc=>HD2.out.lt hc
   clear hav hak hal hb7 HD2;go_wp2_with fail;refine hBest.mono ?_;rintro e w8 ⟨ba,bc,bv,rfl,hbv,hbk,hbl,hb8⟩;clear hBest;have HD4:Hid (Duo ts W a b Ma1 Mb1 σ1 τ1 w8):=HD3.out.step hb8;have HAK4:=HAK.out.below hb8;have hps:=pures_same (HAV.out.1.trans hbv.symm);obtain⟨_,_,ev1,hna⟩:=HAK4.plan HAV.out.2;obtain⟨_,_,ev2,hnb⟩:=hbk.plan hbl;injection ev1 with ev11 ev12 ev13;subst ev11;injection ev2 with ev21 ev22 ev23;subst ev21;clear ev12 ev13 ev22 ev23;have hSame:=keepPlan_any aa ba ac bc av bv w8 hna hnb hps.1 hps.2;have HAK8:Hid _:=HAK4;clear HAK4 HAK hbv hbk hbl hb8 hps hna hnb HD3;go_wp2_with fail;refine hSame.mono ?_;rintro e w9 ⟨rfl,hb9⟩;clear hSame;have HD5:Hid (Duo ts W a b Ma1 Mb1 σ1 τ1 w9):=HD4.out.step hb9;have HAK9:Hid _:=HAK8.out.below hb9;clear hb9 HD4 HAK8;go_wp2_with fail;refine HD5.out.steps.mono ?_;rintro e w9' ⟨rfl,hw⟩;rw[hw];clear hw w9';go_wp2_with fail;refine HD5.out.swap.steps.mono ?_;rintro e w9' ⟨rfl,hw⟩;rw[hw,<- HSM.out.picks];clear hw w9';obtain⟨C,hC⟩:∃ C:Nat,C=σ1.best.d.cost:=⟨_,rfl⟩
   obtain⟨K,hK⟩:∃ K:Nat,K=σ1.picks.length:=⟨_,rfl⟩
   rw[<- hC,<- hK];have HC:Hid (C=σ1.best.d.cost/\K=σ1.picks.length):=⟨hC,hK⟩
   clear hC hK;have t1:((C:Int) != (C:Int))=false:=by simp
   have t2:((K:Int) != (K:Int))=false:=by simp
   by_cases hs5:S=4
   ·subst hs5;have hOne:=HD5.out.one HBO.out.ea HO1.out.1 (by have:=HO1.out.2.2; omega) n4;have hne:¬ σ1.status=1:=by rw[hs4]; decide
    rw[if_neg hne] at hOne;go_wp2_with fail;refine hOne.mono ?_;rintro e w10 ⟨Ma2,σ2,hσ2,rfl,hd6,hk6,hm6⟩;subst hσ2;have HD6:Hid (Duo ts W a b Ma2 Mb1 σ2 τ1 w10):=hd6;have HK6:Hid _:=hk6;have HM6:Hid _:=hm6;clear hOne hd6 hk6 hm6;rw[hs4];have hRun:=HD6.out.run HBO.out.ea HO1.out.1 5 (by have:=HO1.out.2.2; omega) (-1) po pc ps HBO.out.ps HBO.out.pb;rw[goT_ended (rk:=rkN) (ts:=ts) (q:=a.q) (conc:=concL ts a.q) (picks:=ps) hne 5 (-1) (by omega)] at hRun;clear hne;go_wp2_with fail;refine hRun.mono ?_;rintro e w11 ⟨Ma3,σ3,hσ3,rfl,hd7,hk7,hm7⟩;subst hσ3;have HD7:Hid (Duo ts W a b Ma3 Mb1 σ3 τ1 w11):=hd7;have HAK11:Hid _:=kept_plan HAK9.out HLM.out HK6.out HM6.out hk7;clear hRun hd7 hk7 hm7 HK6 HM6 HAK9;rw[hs4];go_wp2_with fail;refine HD7.out.steps.mono ?_;rintro e w11' ⟨rfl,hw⟩;rw[hw,<- HC.out.2];clear hw w11';have hBest:=HD7.out.best HBO.out.ea HO1.out.1;rw[<- HC.out.1] at hBest;go_wp2_with fail;refine hBest.mono ?_;rintro e w12 ⟨da,dc2,dv,rfl,hdv,hdk,hdl,hb12⟩;clear hBest;have HAK12:=HAK11.out.below hb12;have hps:=pures_same (HAV.out.1.trans hdv.symm);obtain⟨_,_,ev1,hna⟩:=HAK12.plan HAV.out.2;obtain⟨_,_,ev2,hnb⟩:=hdk.plan hdl;injection ev1 with ev11 ev12 ev13;subst ev11;injection ev2 with ev21 ev22 ev23;subst ev21;clear ev12 ev13 ev22 ev23;have hSame:=keepPlan_any aa da ac dc2 av dv w12 hna hnb hps.1 hps.2;have HBE:Hid (Below W.heap.size W w12):=(HD7.out.step hb12).below;clear HAK12 hdv hdk hdl hb12 hps hna hnb HAK11;go_wp2_with fail;refine hSame.mono ?_;rintro e w13 ⟨rfl,hb13⟩;clear hSame;have HBE2:Hid (Below W.heap.size W w13):=bQ1 HBE.out hb13;clear hb13;have t3:((C:Int)==(C:Int))=true:=by simp
    have t4:((K:Int)==(K:Int))=true:=by simp
    go_wp2;go_ret;exact⟨rfl,HBE2.out⟩
   ·have hb3:(S != 4)=true:=by rw[bne_iff_ne]; exact hs5
    go_wp2;go_ret;exact⟨rfl,HD5.out.below⟩
 ·have hm0:m=n:=by rw[hm,if_neg hkn]
  rw[hm0] at hRun;clear hm;go_wp2_with fail;refine hRun.mono ?_;rintro e w6 ⟨Mb1,τ1,hτ1,rfl,hd2,hk2,hm2⟩;rw[<- hm0] at hτ1;have HD2:Hid (Duo ts W a b Ma1 Mb1 σ1 τ1 w6):=hd2.swap;obtain⟨hsm,hst⟩:=HL.out τ1 hτ1;have HSM:Hid (SameS σ1 τ1):=hsm;have HO1:Hid (SOk a.q σ1/\SOk b.q τ1/\σ1.picks.length<=100):=by
   refine⟨?_,?_,?_⟩
   ·rw[HQ1.out,<- HBO.out.qa.goT rkN ts,<- HBO.out.qa.conc ts];exact (goT_ok (concL_len ts a.q) HBO.out.ea.five ps HSOK.out.1 n _).1
   ·rw[hτ1,<- HBO.out.qb.goT rkN ts,<- HBO.out.qb.conc ts];exact (goT_ok (concL_len ts b.q) HBO.out.eb.five ps HSOK.out.2.1 m _).1
   ·have g:=(goT_ok (rk:=rkN) (ts:=ts) (concL_len ts a.q) HBO.out.ea.five ps HSOK.out.1 n (k:Int)).2;rw[HBO.out.qa.goT rkN ts,HBO.out.qa.conc ts,<- HQ1.out,HSOK.out.2.2] at g;have:=HNK.out.1;simp at g;omega
  clear hRun hd2 hk2 hm2 hsm hτ1 hm0 HD1 HQ1 HL;by_cases hs1:τ1.status=1
  ·rw[hs1] at hst ⊢;have hs4:σ1.status=1:=by rw[hst,if_neg (fun h=>hkn h.2)]
   clear hst;rw[hs4];have hBest:=HD2.out.best HBO.out.ea HO1.out.1;go_wp2_with fail;refine hBest.mono ?_;rintro e w7 ⟨aa,ac,av,rfl,hav,hak,hal,hb7⟩;clear hBest;have HD3:Hid (Duo ts W a b Ma1 Mb1 σ1 τ1 w7):=HD2.out.step hb7;have hBest:=HD3.out.swap.best HBO.out.eb HO1.out.2.1;rw[<- HSM.out.best] at hBest;have HAK:Hid _:=hak;have HAV:Hid (av.map pureN=σ1.best.ns/\av.length<=1000):=⟨hav,hal⟩
   have HLM:Hid (∀ c,Ma1 c->c<w6.heap.size):=fun c hc=>HD2.out.lt hc
   clear hav hak hal hb7 HD2;go_wp2_with fail;refine hBest.mono ?_;rintro e w8 ⟨ba,bc,bv,rfl,hbv,hbk,hbl,hb8⟩;clear hBest;have HD4:Hid (Duo ts W a b Ma1 Mb1 σ1 τ1 w8):=HD3.out.step hb8;have HAK4:=HAK.out.below hb8;have hps:=pures_same (HAV.out.1.trans hbv.symm);obtain⟨_,_,ev1,hna⟩:=HAK4.plan HAV.out.2;obtain⟨_,_,ev2,hnb⟩:=hbk.plan hbl;injection ev1 with ev11 ev12 ev13;subst ev11;injection ev2 with ev21 ev22 ev23;subst ev21;clear ev12 ev13 ev22 ev23;have hSame:=keepPlan_any aa ba ac bc av bv w8 hna hnb hps.1 hps.2;have HAK8:Hid _:=HAK4;clear HAK4 HAK hbv hbk hbl hb8 hps hna hnb HD3;go_wp2_with fail;refine hSame.mono ?_;rintro e w9 ⟨rfl,hb9⟩;clear hSame;have HD5:Hid (Duo ts W a b Ma1 Mb1 σ1 τ1 w9):=HD4.out.step hb9;have HAK9:Hid _:=HAK8.out.below hb9;clear hb9 HD4 HAK8;go_wp2_with fail;refine HD5.out.steps.mono ?_;rintro e w9' ⟨rfl,hw⟩;rw[hw];clear hw w9';go_wp2_with fail;refine HD5.out.swap.steps.mono ?_;rintro e w9' ⟨rfl,hw⟩;rw[hw,<- HSM.out.picks];clear hw w9';obtain⟨C,hC⟩:∃ C:Nat,C=σ1.best.d.cost:=⟨_,rfl⟩
   obtain⟨K,hK⟩:∃ K:Nat,K=σ1.picks.length:=⟨_,rfl⟩
   rw[<- hC,<- hK];have HC:Hid (C=σ1.best.d.cost/\K=σ1.picks.length):=⟨hC,hK⟩
   clear hC hK;have t1:((C:Int) != (C:Int))=false:=by simp
   have t2:((K:Int) != (K:Int))=false:=by simp
   go_wp2;go_ret;exact⟨rfl,HD5.out.below⟩
  ·have hs4:σ1.status=τ1.status:=by rw[hst,if_neg (fun h=>hs1 h.1)]
   clear hst;rw[hs4];obtain⟨S,hS⟩:∃ S,S=τ1.status:=⟨_,rfl⟩
   rw[<- hS] at hs1 hs4 ⊢;clear hS;have hb1:(S==1)=false:=by rw[beq_eq_false_iff_ne]; exact hs1
   have hb2:(S != S)=false:=by simp
   have hBest:=HD2.out.best HBO.out.ea HO1.out.1;go_wp2_with fail;refine hBest.mono ?_;rintro e w7 ⟨aa,ac,av,rfl,hav,hak,hal,hb7⟩;clear hBest;have HD3:Hid (Duo ts W a b Ma1 Mb1 σ1 τ1 w7):=HD2.out.step hb7;have hBest:=HD3.out.swap.best HBO.out.eb HO1.out.2.1;rw[<- HSM.out.best] at hBest;have HAK:Hid _:=hak;have HAV:Hid (av.map pureN=σ1.best.ns/\av.length<=1000):=⟨hav,hal⟩
   have HLM:Hid (∀ c,Ma1 c->c<w6.heap.size):=fun c hc=>HD2.out.lt hc
   clear hav hak hal hb7 HD2;go_wp2_with fail;refine hBest.mono ?_;rintro e w8 ⟨ba,bc,bv,rfl,hbv,hbk,hbl,hb8⟩;clear hBest;have HD4:Hid (Duo ts W a b Ma1 Mb1 σ1 τ1 w8):=HD3.out.step hb8;have HAK4:=HAK.out.below hb8;have hps:=pures_same (HAV.out.1.trans hbv.symm);obtain⟨_,_,ev1,hna⟩:=HAK4.plan HAV.out.2;obtain⟨_,_,ev2,hnb⟩:=hbk.plan hbl;injection ev1 with ev11 ev12 ev13;subst ev11;injection ev2 with ev21 ev22 ev23;subst ev21;clear ev12 ev13 ev22 ev23;have hSame:=keepPlan_any aa ba ac bc av bv w8 hna hnb hps.1 hps.2;have HAK8:Hid _:=HAK4;clear HAK4 HAK hbv hbk hbl hb8 hps hna hnb HD3;go_wp2_with fail;refine hSame.mono ?_;rintro e w9 ⟨rfl,hb9⟩;clear hSame;have HD5:Hid (Duo ts W a b Ma1 Mb1 σ1 τ1 w9):=HD4.out.step hb9;have HAK9:Hid _:=HAK8.out.below hb9;clear hb9 HD4 HAK8;go_wp2_with fail;refine HD5.out.steps.mono ?_;rintro e w9' ⟨rfl,hw⟩;rw[hw];clear hw w9';go_wp2_with fail;refine HD5.out.swap.steps.mono ?_;rintro e w9' ⟨rfl,hw⟩;rw[hw,<- HSM.out.picks];clear hw w9';obtain⟨C,hC⟩:∃ C:Nat,C=σ1.best.d.cost:=⟨_,rfl⟩
   obtain⟨K,hK⟩:∃ K:Nat,K=σ1.picks.length:=⟨_,rfl⟩
   rw[<- hC,<- hK];have HC:Hid (C=σ1.best.d.cost/\K=σ1.picks.length):=⟨hC,hK⟩
   clear hC hK;have t1:((C:Int) != (C:Int))=false:=by simp
   have t2:((K:Int) != (K:Int))=false:=by simp
   by_cases hs5:S=4
   ·subst hs5;have hOne:=HD5.out.one HBO.out.ea HO1.out.1 (by have:=HO1.out.2.2; omega) n4;have hne:¬ σ1.status=1:=by rw[hs4]; decide
    rw[if_neg hne] at hOne;go_wp2_with fail;refine hOne.mono ?_;rintro e w10 ⟨Ma2,σ2,hσ2,rfl,hd6,hk6,hm6⟩;subst hσ2;have HD6:Hid (Duo ts W a b Ma2 Mb1 σ2 τ1 w10):=hd6;have HK6:Hid _:=hk6;have HM6:Hid _:=hm6;clear hOne hd6 hk6 hm6;rw[hs4];have hRun:=HD6.out.run HBO.out.ea HO1.out.1 5 (by have:=HO1.out.2.2; omega) (-1) po pc ps HBO.out.ps HBO.out.pb;rw[goT_ended (rk:=rkN) (ts:=ts) (q:=a.q) (conc:=concL ts a.q) (picks:=ps) hne 5 (-1) (by omega)] at hRun;clear hne;go_wp2_with fail;refine hRun.mono ?_;rintro e w11 ⟨Ma3,σ3,hσ3,rfl,hd7,hk7,hm7⟩;subst hσ3;have HD7:Hid (Duo ts W a b Ma3 Mb1 σ3 τ1 w11):=hd7;have HAK11:Hid _:=kept_plan HAK9.out HLM.out HK6.out HM6.out hk7;clear hRun hd7 hk7 hm7 HK6 HM6 HAK9;rw[hs4];go_wp2_with fail;refine HD7.out.steps.mono ?_;rintro e w11' ⟨rfl,hw⟩;rw[hw,<- HC.out.2];clear hw w11';have hBest:=HD7.out.best HBO.out.ea HO1.out.1;rw[<- HC.out.1] at hBest;go_wp2_with fail;refine hBest.mono ?_;rintro e w12 ⟨da,dc2,dv,rfl,hdv,hdk,hdl,hb12⟩;clear hBest;have HAK12:=HAK11.out.below hb12;have hps:=pures_same (HAV.out.1.trans hdv.symm);obtain⟨_,_,ev1,hna⟩:=HAK12.plan HAV.out.2;obtain⟨_,_,ev2,hnb⟩:=hdk.plan hdl;injection ev1 with ev11 ev12 ev13;subst ev11;injection ev2 with ev21 ev22 ev23;subst ev21;clear ev12 ev13 ev22 ev23;have hSame:=keepPlan_any aa da ac dc2 av dv w12 hna hnb hps.1 hps.2;have HBE:Hid (Below W.heap.size W w12):=(HD7.out.step hb12).below;clear HAK12 hdv hdk hdl hb12 hps hna hnb HAK11;go_wp2_with fail;refine hSame.mono ?_;rintro e w13 ⟨rfl,hb13⟩;clear hSame;have HBE2:Hid (Below W.heap.size W w13):=bQ1 HBE.out hb13;clear hb13;have t3:((C:Int)==(C:Int))=true:=by simp
    have t4:((K:Int)==(K:Int))=true:=by simp
    go_wp2;go_ret;exact⟨rfl,HBE2.out⟩
   ·have hb3:(S != 4)=true:=by rw[bne_iff_ne]; exact hs5
    go_wp2;go_ret;exact⟨rfl,HD5.out.below⟩
end Go.Proofs.YtlpbelhfpoilpabGreatDoor
