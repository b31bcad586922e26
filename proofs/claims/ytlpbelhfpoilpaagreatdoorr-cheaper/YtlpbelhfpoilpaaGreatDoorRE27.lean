import Derived.Test.YtlpbelhfpoilpaaGreatDoorRE25
set_option linter.all false
set_option maxRecDepth 100000
set_option maxHeartbeats 16000000
namespace Go.Proofs.Zz
open Go.RowKit Go.Shelf
theorem Hr{F:Nat->Prop}{W0 w:World}{f:au}{ts:List af}{q:ae}(E:Env f ts q W0)(hz:Fz F W0 w):Calls Tryz.prog 159 #[.agg (f.cells ts q)] w (bR 178 F w (fQ ts q)):=by
 obtain⟨v0,v1,v2,v3,v4,v5,v6,v7,v8,v9,v10,v11,v12,bB,hv0,-,hv2,-,-,-,hv6,-,-,hv9,-⟩:=Xu f ts q;have hone:=E.one;have h5:=E.five;have hc:2 ^ q.wh.length-1<2 ^ q.wh.length:=by have:0<2 ^ q.wh.length:=Xm (by omega); omega
 have wC:Hid (∀ x (k:Nat),Bw w x->k<q.src.xs.length->Calls Tryz.prog 228 #[.agg #[v0,v1,v2,v3,v4,v5,v6,v7,v8,v9,v10,v11,v12],.agg #[.int .i64 1,.int .i64 0,.int .i64 0,.int .i64 (k:Int),.slice none 0 0,.int .i64 0,.slice none 0 0],.slice none 0 0] x (bR 178 F x (ay ts q (iD (k:Int)) []))):=fun x k hx hk=>by
  rw[<- bB];exact FE E (hz.next hx) k (by omega) (by omega)
 have R3:Hid (∀ x b r r' (k:Nat),Bw w x->k+1<q.src.xs.length->aG 178 F x r (bT ts q k)->aG 178 F x r' (ay ts q (iD ((k+1:Nat):Int)) [])->x.cell? (aD b 0)=some (.pointer (some (aD r 0)))->x.cell? (aD b 1)=some (.pointer (some (aD r' 0)))->Calls Tryz.prog 228 #[.agg #[v0,v1,v2,v3,v4,v5,v6,v7,v8,v9,v10,v11,v12],.agg #[.int .i64 3,.int .i64 0,.int .i64 0,.int .i64 0,.slice none 0 0,.int .i64 0,.slice none 0 0],.slice (some (aD b 0)) 2 2] x (bR 178 F x (bT ts q (k+1)))):=fun x b r r' k hx hk hr hr' h0 h1=>by
  rw[<- bB];exact Kb E (hz.next hx) ⟨3,0,0,0,fC,0,fC⟩ ⟨jd x,oq.nil _ _,fun _=>rfl,jd x,oq.nil _ _,fun _=>rfl,Qx _,Q8 _,Q8 _⟩ r r' b _ _ hr (nR ts q k (by omega)).1 hr' (GJ ts (by omega) (by omega)) h0 h1 (by decide:(3:Int)<=3) (by decide:(3:Int)<=5) (XI _)
 have Ut:Hid (∀ x r,Bw w x->aG 178 F x r (bT ts q (q.src.xs.length-1))->r<x.heap.size->Calls Tryz.prog 229 #[.agg #[v0,v1,v2,v3,v4,v5,v6,v7,v8,v9,v10,v11,v12],.pointer (some (aD r 0)),.int .u64 ((2 ^ q.wh.length-1:Nat):Int)] x fun e w'=>∃ r',e=.returned (.pointer (some (aD r' 0)))/\aG 178 F w' r' (bM ts q (bT ts q (q.src.xs.length-1)) (2 ^ q.wh.length-1))/\(r' = r∨x.heap.size<=r')/\r'<w'.heap.size/\Bw x w'):=fun x r hx hr hl=>by
  rw[<- bB];exact xS E (hz.next hx) r _ hr (nR ts q _ (by omega)).1 _ hc hl
 have qU:Hid (∀ x b r t (k:Int),Bw w x->7<=k->k<=10->jB q t->aG 178 F x r t->x.cell? (aD b 0)=some (.pointer (some (aD r 0)))->Calls Tryz.prog 228 #[.agg #[v0,v1,v2,v3,v4,v5,v6,v7,v8,v9,v10,v11,v12],.agg #[.int .i64 k,.int .i64 0,.int .i64 0,.int .i64 0,.slice none 0 0,.int .i64 0,.slice none 0 0],.slice (some (aD b 0)) 1 1] x (bR 178 F x (ay ts q (dI k) [t]))):=fun x b r t k hx h7 h10 ht hr h0=>by
  rw[<- bB];exact sM E (hz.next hx) ⟨k,0,0,0,fC,0,fC⟩ ⟨jd x,oq.nil _ _,fun _=>rfl,jd x,oq.nil _ _,fun _=>rfl,Qx _,Q8 _,Q8 _⟩ r b t hr ht h0 (by show arity k=1; unfold arity; rw[Qz (by omega),Qz (by omega)]) (by show 2<=k; omega) h10 (XI _)
 obtain⟨T1,hT1⟩:∃ t,bM ts q (bT ts q (q.src.xs.length-1)) (2 ^ q.wh.length-1)=t:=⟨_,rfl⟩
 have oG:Hid (jB q T1):=by rw[<- hT1]; exact qR (nR ts q _ (by omega)).1 hc
 obtain⟨T2,Cw⟩:∃ t,ay ts q (dI (if q.group=true then 7 else 9)) [T1]=t:=⟨_,rfl⟩
 have rQ:Hid (jB q T2):=by rw[<- Cw]; exact(zn ts (by split <;> omega) (by split <;> omega) oG.o).1
 have hR:fQ ts q=if 0<q.ord.xs.length then ay ts q (dI 10) [T2] else T2:=by unfold fQ; simp only; rw[hT1,Cw]
 obtain⟨R,hRR⟩:=eY (fQ ts q)
 rw[<- hRR,bB];obtain⟨T3,Cx⟩:∃ t,ay ts q (dI 10) [T2]=t:=⟨_,rfl⟩
 have HRR:Hid (R=if 0<q.ord.xs.length then T3 else T2):=by show _=_; rw[hRR,hR,Cx]
 rw[hT1]at Ut;have HGA:Hid (∀ x b r,Bw w x->aG 178 F x r T1->x.cell? (aD b 0)=some (.pointer (some (aD r 0)))->Calls Tryz.prog 228 #[.agg #[v0,v1,v2,v3,v4,v5,v6,v7,v8,v9,v10,v11,v12],.agg #[.int .i64 (if q.group=true then 7 else 9),.int .i64 0,.int .i64 0,.int .i64 0,.slice none 0 0,.int .i64 0,.slice none 0 0],.slice (some (aD b 0)) 1 1] x (bR 178 F x T2)):=fun x b r hx hr h0=>by
  rw[<- Cw];exact qU.o x b r T1 _ hx (by split <;> omega) (by split <;> omega) oG.o hr h0
 have qN:Hid (∀ x b r,Bw w x->aG 178 F x r T2->x.cell? (aD b 0)=some (.pointer (some (aD r 0)))->Calls Tryz.prog 228 #[.agg #[v0,v1,v2,v3,v4,v5,v6,v7,v8,v9,v10,v11,v12],.agg #[.int .i64 10,.int .i64 0,.int .i64 0,.int .i64 0,.slice none 0 0,.int .i64 0,.slice none 0 0],.slice (some (aD b 0)) 1 1] x (bR 178 F x T3)):=fun x b r hx hr h0=>by
  rw[<- Cx];exact qU.o x b r T2 10 hx (by omega) (by omega) rQ.o hr h0
 have HPZ:Hid (ay ts q (iD ((0:Nat):Int)) []=bT ts q 0):=rfl;clear hR hRR hT1 Cw Cx bB E hz qU oG rQ hc;generalize ay ts q=GT at *;generalize bT ts q=PT at *;generalize 2 ^ q.wh.length-1=CN at *;unfold ah.val at hv0 hv6;generalize q.src.xs.length=n at *;generalize q.src.ad=sa at *;generalize q.src.cap=sc at *;generalize q.ord.xs.length=ol at *;generalize q.ord.ad=oa at *;generalize q.ord.cap=oc at *;generalize q.group=gr at *;obtain⟨w1,hw1,hb1,hg1⟩:=aU w #[v0,v1,v2,v3,v4,v5,v6,v7,v8,v9,v10,v11,v12] 90;obtain⟨a0,a1,a2,a3,a4,a5,a6,a7,a8,a9,iy,iL,a12⟩:=hg1.k13;rw[hv0]at a0;rw[hv2]at a2;rw[hv6]at a6;rw[hv9]at a9;have HV:Hid (v0=_/\v2=_/\v6=_/\v9=_):=⟨hv0,hv2,hv6,hv9⟩
 have HB1:=Zh hb1;have hGN:=wC.o w1 0 hb1 (by omega);rw[HPZ.o]at hGN;clear hb1 hg1 HPZ;rw[hv0,hv2,hv6,hv9]at wC R3 Ut HGA qN hGN hw1 ⊢;clear hv0 hv2 hv6 hv9 HV;go_enter Tryz.func159,Tryz.ntmps159;go_wp2_with fail;refine hGN.mono ?_;rintro e w2 ⟨r0,rfl,hT,hr1,hr2,hb2⟩;have b0:=cB hb2 a0;have b1:=cB hb2 a1;have b2:=cB hb2 a2;have b3:=cB hb2 a3;have b4:=cB hb2 a4;have b5:=cB hb2 a5;have b6:=cB hb2 a6;have b7:=cB hb2 a7;have b8:=cB hb2 a8;have b9:=cB hb2 a9;have b10:=cB hb2 iy;have b11:=cB hb2 iL;have b12:=cB hb2 a12;clear a0 a1 a2 a3 a4 a5 a6 a7 a8 a9 iy iL a12;have HT0:=Zh hT;have JH:Hid (w.heap.size<=r0/\r0<w2.heap.size):=⟨Zl HB1.o.size hr1,hr2⟩
 have HB2:=Zh (aA HB1.o hb2);clear hGN hT hr1 hr2 hb2 hw1;go_wp2;go_loopw [3,4] (fun pv sv wr=>∃ m k r:Nat,m<=n/\Hid (m=k+1)/\sv=.int .i64 (m:Int)/\pv=.pointer (some (aD r 0))/\Hid (aG 178 F wr r (PT k))/\Hid (w.heap.size<=r/\r<wr.heap.size)/\Hid (Bw w2 wr)) (fun _ sv _=>n-(intOf sv).toNat)
 case atStart=>exact⟨1,0,r0,hone,rfl,rfl,rfl,HT0.o,JH.o,Qw _ _⟩
 case round=>
  obtain⟨m,k,r,hm,HMK,rfl,rfl,HT,HR,ou⟩:=hrel;have c0:=cB ou.o b0;have c1:=cB ou.o b1;have c2:=cB ou.o b2;have c3:=cB ou.o b3;have c4:=cB ou.o b4;have c5:=cB ou.o b5;have c6:=cB ou.o b6;have c7:=cB ou.o b7;have c8:=cB ou.o b8;have c9:=cB ou.o b9;have c10:=cB ou.o b10;have c11:=cB ou.o b11;have c12:=cB ou.o b12;by_cases hlt:m<n
  ·have hGN:=wC.o wr m (aA HB2.o ou.o) hlt;have YE:=R3.o;clear Ut HGA qN;go_wp2_with fail;refine hGN.mono ?_;rintro e w3 ⟨r',rfl,hT',hr1',hr2',hb3⟩;have d0:=cB hb3 c0;have d1:=cB hb3 c1;have d2:=cB hb3 c2;have d3:=cB hb3 c3;have d4:=cB hb3 c4;have d5:=cB hb3 c5;have d6:=cB hb3 c6;have d7:=cB hb3 c7;have d8:=cB hb3 c8;have d9:=cB hb3 c9;have d10:=cB hb3 c10;have d11:=cB hb3 c11;have d12:=cB hb3 c12;clear c0 c1 c2 c3 c4 c5 c6 c7 c8 c9 c10 c11 c12;have Cx:=HT.o.below hb3;obtain⟨w4,hw4⟩:∃ x,w3.alloc (.cells #[.pointer (some (aD r 0)),.pointer (some (aD r' 0))] 172)=x:=⟨_,rfl⟩
   have hb4:Bw w3 w4:=by rw[<- hw4]; exact dn _ _
   have mo:=aA ou.o (aA hb3 hb4);have hmk:=HMK.o;have hGT:=YE w4 w3.heap.size r r' k (aA HB2.o mo) (by omega) (Cx.below hb4) (by rw[<- hmk]; exact hT'.below hb4) (by rw[<- hw4]; simp) (by rw[<- hw4]; simp);have alY:=Zh mo;clear YE hGN hT' hr1' hr2' hb3 Cx hb4 mo hmk;go_wp2_with fail;refine hGT.mono ?_;rintro e w5 ⟨r2,rfl,Wo,hr1,hr2,hb5⟩;have HT5:=Zh Wo;have kF:=Zh (aA alY.o hb5);have HR5:Hid (w.heap.size<=r2/\r2<w5.heap.size):=⟨Zl HB2.o.size (Zl alY.o.size hr1),hr2⟩
   clear hGT Wo hr1 hr2 hb5 hw4;go_wp2;go_roundw
   case rel=>exact⟨m+1,k+1,r2,by omega,by show _=_; rw[HMK.o],by go_num,rfl,HT5.o,HR5.o,kF.o⟩
   case measure=>simp[intOf]; omega
  ·have hmn:n=m:=by omega
   subst hmn;have hkn:k=n-1:=by have:=HMK.o; omega
   subst hkn;have hFI:=Ut.o wr r (aA HB2.o ou.o) HT.o HR.o.2;clear wC R3 Ut hlt hm;go_wp2_with fail;refine hFI.mono ?_;rintro e w3 ⟨r3,rfl,Cx,ar7,ar8,hb3⟩;have d0:=cB hb3 c0;have d1:=cB hb3 c1;have d2:=cB hb3 c2;have d3:=cB hb3 c3;have d4:=cB hb3 c4;have d5:=cB hb3 c5;have d6:=cB hb3 c6;have d7:=cB hb3 c7;have d8:=cB hb3 c8;have d9:=cB hb3 c9;have d10:=cB hb3 c10;have d11:=cB hb3 c11;have d12:=cB hb3 c12;clear c0 c1 c2 c3 c4 c5 c6 c7 c8 c9 c10 c11 c12;have HB3:=Zh (aA HB2.o (aA ou.o hb3));have HT3:=Zh Cx;obtain⟨w4,hw4⟩:∃ x,w3.alloc (.cells #[.pointer (some (aD r3 0))] 172)=x:=⟨_,rfl⟩
   have hb4:Bw w3 w4:=by rw[<- hw4]; exact dn _ _
   have hGA:=HGA.o w4 w3.heap.size r3 (aA HB3.o hb4) (HT3.o.below hb4) (by rw[<- hw4]; simp);have mH:=Zh hb4;clear hFI Cx ar7 ar8 hb3 hb4 HGA HT HR ou
   cases gr with
   | true =>
    rw[Qy rfl]at hGA;go_wp2_with fail;refine hGA.mono ?_;rintro e w5 ⟨r5,rfl,Wo,hr1,hr2,hb5⟩;have iN:=aA mH.o hb5;have e0:=cB iN d0;have e1:=cB iN d1;have e2:=cB iN d2;have e3:=cB iN d3;have e4:=cB iN d4;have e5:=cB iN d5;have e6:=cB iN d6;have e7:=cB iN d7;have e8:=cB iN d8;have e9:=cB iN d9;have e10:=cB iN d10;have e11:=cB iN d11;have e12:=cB iN d12;clear d0 d1 d2 d3 d4 d5 d6 d7 d8 d9 d10 d11 d12;have kF:=Zh (aA HB3.o iN);have HT5:=Zh Wo;have HR5:Hid (w.heap.size<=r5/\r5<w5.heap.size):=⟨Zl HB3.o.size (Zl mH.o.size hr1),hr2⟩
    clear hGA Wo hr1 hr2 hb5 iN hw4;by_cases ho:0<ol
    ·have A7:=QD ho;have M0:Hid (R=T3):=by show _=_; rw[HRR.o,Qy ho]
     obtain⟨w6,lS⟩:∃ x,w5.alloc (.cells #[.pointer (some (aD r5 0))] 172)=x:=⟨_,rfl⟩
     have hb6:Bw w5 w6:=by rw[<- lS]; exact dn _ _
     have hGB:=qN.o w6 w5.heap.size r5 (aA kF.o hb6) (HT5.o.below hb6) (by rw[<- lS]; simp);have Af:=Zh (aA kF.o hb6);clear hb6 qN HRR;go_wp2_with fail;refine hGB.mono ?_;rintro e w7 ⟨r7,rfl,hT7,hr1,hr2,iZ⟩;have HP:Hid (bR 178 F w T3 (.returned (.pointer (some (aD r7 0)))) w7):=⟨r7,rfl,hT7,Zl Af.o.size hr1,hr2,aA Af.o iZ⟩
     clear hGB hT7 hr1 hr2 iZ lS;go_wp2;go_ret;rw[M0.o];exact HP.o
    ·have A7:=Ql ho;have M0:Hid (R=T2):=by show _=_; rw[HRR.o,Qz ho]
     obtain rfl:ol=0:=by omega
     clear qN HRR ho A7;go_wp2;go_ret;rw[M0.o];exact⟨r5,rfl,HT5.o,HR5.o.1,HR5.o.2,kF.o⟩
   | false =>
    rw[Qz (by decide)]at hGA;go_wp2_with fail;refine hGA.mono ?_;rintro e w5 ⟨r5,rfl,Wo,hr1,hr2,hb5⟩;have iN:=aA mH.o hb5;have e0:=cB iN d0;have e1:=cB iN d1;have e2:=cB iN d2;have e3:=cB iN d3;have e4:=cB iN d4;have e5:=cB iN d5;have e6:=cB iN d6;have e7:=cB iN d7;have e8:=cB iN d8;have e9:=cB iN d9;have e10:=cB iN d10;have e11:=cB iN d11;have e12:=cB iN d12;clear d0 d1 d2 d3 d4 d5 d6 d7 d8 d9 d10 d11 d12;have kF:=Zh (aA HB3.o iN);have HT5:=Zh Wo;have HR5:Hid (w.heap.size<=r5/\r5<w5.heap.size):=⟨Zl HB3.o.size (Zl mH.o.size hr1),hr2⟩
    clear hGA Wo hr1 hr2 hb5 iN hw4;by_cases ho:0<ol
    ·have A7:=QD ho;have M0:Hid (R=T3):=by show _=_; rw[HRR.o,Qy ho]
     obtain⟨w6,lS⟩:∃ x,w5.alloc (.cells #[.pointer (some (aD r5 0))] 172)=x:=⟨_,rfl⟩
     have hb6:Bw w5 w6:=by rw[<- lS]; exact dn _ _
     have hGB:=qN.o w6 w5.heap.size r5 (aA kF.o hb6) (HT5.o.below hb6) (by rw[<- lS]; simp);have Af:=Zh (aA kF.o hb6);clear hb6 qN HRR;go_wp2_with fail;refine hGB.mono ?_;rintro e w7 ⟨r7,rfl,hT7,hr1,hr2,iZ⟩;have HP:Hid (bR 178 F w T3 (.returned (.pointer (some (aD r7 0)))) w7):=⟨r7,rfl,hT7,Zl Af.o.size hr1,hr2,aA Af.o iZ⟩
     clear hGB hT7 hr1 hr2 iZ lS;go_wp2;go_ret;rw[M0.o];exact HP.o
    ·have A7:=Ql ho;have M0:Hid (R=T2):=by show _=_; rw[HRR.o,Qz ho]
     obtain rfl:ol=0:=by omega
     clear qN HRR ho A7;go_wp2;go_ret;rw[M0.o];exact⟨r5,rfl,HT5.o,HR5.o.1,HR5.o.2,kF.o⟩
