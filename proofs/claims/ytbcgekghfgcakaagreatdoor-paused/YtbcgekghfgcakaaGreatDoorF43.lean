import Derived.Test.YtbcgekghfgcakaaGreatDoorF38
import Derived.Test.YtbcgekghfgcakaaGreatDoorF42
set_option linter.all false
set_option maxRecDepth 100000
set_option maxHeartbeats 16000000
namespace Go.Proofs.Zz
open Go.RowKit Go.Shelf
theorem JW {ts:List af} {q:ae} (h1:1<=q.src.xs.length) (h5:q.src.xs.length<=5) (h8:q.wh.length<=8) {room:Nat} (hr:1<=room) (ps ms:List Int) {d e:Nat} (hd:d<200) (he:e<200) {σ1 σ2:fe} (e1:σ1=goT aV ts q (aA ts q) ps d (-1) (dK aV ts q room)) (e2:σ2=goT aV ts q (aA ts q) ms e (-1) σ1) :
  (goT aV ts q (aA ts q) σ1.picks σ1.picks.length (-1) (dK aV ts q room)=σ1/\σ1.picks.length+e<=900)/\iK 400 σ1.picks/\iK 400 σ2.picks/\(1<=σ1.status/\σ1.status<=3)/\(1<=σ2.status/\σ2.status<=3):=by
 have hok:=Dw aV ts q room h1 h5 h8 hr;have hp0:(dK aV ts q room).picks=[]:=rfl;rw[Fb (by omega)] at e1 e2;obtain⟨k1,l1⟩:=mW (rk:=aV) (ts:=ts) (ZQ ts q) h5 ps hok d;have s1:=uF (rk:=aV) (ts:=ts) (ZQ ts q) h5 ps hok (by rw[hp0]; exact iK.nil) d (by rw[hp0]; simp; omega);have t1:=ni (rk:=aV) (ts:=ts) (q:=q) (conc:=aA ts q) (picks:=ps) (σ:=dK aV ts q room) ⟨show (1:Int)<=1 by decide,show (1:Int)<=3 by decide⟩ d;have r1:=replay (rk:=aV) (ts:=ts) (ZQ ts q) h5 ps hok hp0 d (runN aV ts q (aA ts q) ps d 0 (dK aV ts q room)).picks (List.prefix_refl _);rw[<- e1] at k1 l1 s1 t1 r1;rw[hp0,Zk] at l1;obtain⟨k2,l2⟩:=mW (rk:=aV) (ts:=ts) (ZQ ts q) h5 ms k1 e;have s2:=uF (rk:=aV) (ts:=ts) (ZQ ts q) h5 ms k1 ⟨Qq _,s1⟩ e (by omega);have t2:=ni (rk:=aV) (ts:=ts) (q:=q) (conc:=aA ts q) (picks:=ms) t1 e;rw[<- e2] at k2 l2 s2 t2;refine⟨⟨?_,by omega⟩,⟨by omega,s1⟩,⟨by omega,s2⟩,t1,t2⟩;rw[Fb (by omega)];exact r1
theorem Duo.of {ts:List af} {q:ae} {room:Nat} {w0 w1 w2:World} {a b:Bl} {Ma Mb:Nat->Prop} {σ τ:fe} (ha:Has ts (fun _=>False) q room w0 a Ma σ w1) (hb:Has ts (fun c=>c=a.pb∨Ma c) q room w1 b Mb τ w2):Duo ts w0 a b Ma Mb σ τ w2:=by
 obtain⟨X,L,s,hX⟩:=ha.se;obtain⟨Y,K,t,hY⟩:=hb.se;have hl1:∀ c,Ma c->c<w1.heap.size:=fun c hc=>(s.lt (s.sub c hc)).2
 have hl2:∀ c,Mb c->c<w2.heap.size:=fun c hc=>(t.lt (t.sub c hc)).2
 have hW:=s.hz.below.size;have hs:=s.other (N:=fun _=>False) (N':=Mb) (X':=fun c=>X c∨Mb c) (w':=w2) (fun c h=>h.elim) (fun c _ h=>h) (Q9 hb.below (fun _ h _=>h)) (fun c h=>.inr (hb.new c h)) (fun c=>Iff.rfl) hl2 (fun c h=>Q4 hW (hb.new c h));have Oc:a.pb<w1.heap.size:=Zf ha.cell;refine⟨⟨_,L,hs,fun c hc=>.inr hc⟩,⟨Y,K,t,fun c hc=>hY c (.inl (.inr hc))⟩,cB hb.below ha.cell,hb.cell,⟨ha.Tg,fun h=>?_⟩,⟨fun h=>?_,hb.Tg⟩,fun c h1 h2=>?_,ha.new,fun c hc=>Q4 ha.below.size (hb.new c hc),aG ha.below hb.below⟩
 ·have:=hb.new _ h;omega
 ·have:=hl1 _ h;have:=hb.pb;omega
 ·have:=hl1 c h1;have:=hb.new c h2;omega
theorem Duo.save {ts:List af} {w0:World} {a b:Bl} {Ma Mb:Nat->Prop} {σ τ:fe} {w:World} (h:Duo ts w0 a b Ma Mb σ τ w) {q:ae} {room:Nat} (hk:mE ts room a w) (hq:aL q a.q) (hj:Dx ts q) (hI:qZ w0) (hr:room<=1000) (hp:iK 400 σ.picks) (hst:1<=σ.status/\σ.status<=3) :
  Calls Tryz.prog 10 #[.pointer (some (aD a.pb 0))] w fun e w'=>e=.returned (.string ⟨(fH (bS ts q room σ.picks σ.status)).toArray⟩)/\Below w.heap.size w w':=by
 obtain⟨X,L,s,_⟩:=h.sa;have:=JI hk s (hj.same hq) (hI.below h.below) hr hp (by omega);rw[hq.VV] at this;exact this
theorem NU (lo:Option Addr) (lc:Nat) (l:List Int) (n1 n2 n3:Int) (po:Option Addr) (pc:Nat) (ps:List Int) (mo:Option Addr) (mc:Nat) (ms:List Int) (W:World) (hI:au W lo l) (hR:∀ x∈l,-9223372036854775808<=x/\x<=9223372036854775807) (hB:∀ a,lo=some a->a.block<W.heap.size) (hP:au W po ps) (hPB:∀ a,po=some a->a.block<W.heap.size) (hM:au W mo ms) (hMB:∀ a,mo=some a->a.block<W.heap.size) (hS:cZ W 0) (hIT:qZ W) (hCF:FR W)
  (h1:-9223372036854775808<=n1/\n1<=9223372036854775807) (h2:-9223372036854775808<=n2/\n2<=9223372036854775807) (h3:-9223372036854775808<=n3/\n3<=9223372036854775807) :
  Calls Tryz.prog 3 #[.slice lo l.length lc,.int .i64 n1,.int .i64 n2,.int .i64 n3,.slice po ps.length pc,.slice mo ms.length mc] W fun e W'=>e=.returned (.bool true)/\Below W.heap.size W W':=by
 have hm:=Yn lo lc l W hI hR hB;have HP:Hid (au W po ps/\∀ a,po=some a->a.block<W.heap.size):=⟨hP,hPB⟩
 have HMO:Hid (au W mo ms/\∀ a,mo=some a->a.block<W.heap.size):=⟨hM,hMB⟩
 have HS:Hid (cZ W 0/\0<W.heap.size):=⟨hS,Zf (hS 0 _ rfl)⟩
 have HIC:Hid (qZ W/\FR W):=⟨hIT,hCF⟩
 have lK:Hid (∀ x:World,Calls Tryz.prog 7 #[.int .i64 n1,.int .i64 1000] x fun e w'=>e=.returned (.int .i64 (kJ n1 1000))/\w' = x):=fun x=>rR n1 1000 x (by omega) h1
 have nK:Hid (∀ x:World,Calls Tryz.prog 7 #[.int .i64 n2,.int .i64 200] x fun e w'=>e=.returned (.int .i64 (kJ n2 200))/\w' = x):=fun x=>rR n2 200 x (by omega) h2
 have pK:Hid (∀ x:World,Calls Tryz.prog 7 #[.int .i64 n3,.int .i64 200] x fun e w'=>e=.returned (.int .i64 (kJ n3 200))/\w' = x):=fun x=>rR n3 200 x (by omega) h3
 obtain⟨r,hr,hr1⟩:∃ n:Nat,kJ n1 1000=(n:Int)/\n<1000:=by
  have:=mP (c:=n1) (n:=1000) (by omega);exact⟨(kJ n1 1000).toNat,by omega,by omega⟩
 obtain⟨n,hn,hn1⟩:∃ n:Nat,kJ n2 200=(n:Int)/\n<200:=by
  have:=mP (c:=n2) (n:=200) (by omega);exact⟨(kJ n2 200).toNat,by omega,by omega⟩
 obtain⟨k,hk,hk1⟩:∃ n:Nat,kJ n3 200=(n:Int)/\n<200:=by
  have:=mP (c:=n3) (n:=200) (by omega);exact⟨(kJ n3 200).toNat,by omega,by omega⟩
 rw[hr] at lK;rw[hn] at nK;rw[hk] at pK;obtain⟨R,hRe⟩:∃ R:Nat,R=1+r:=⟨_,rfl⟩
 have HRR:Hid (1<=R/\R<=1000):=⟨by omega,by omega⟩
 have hRW:IntKind.i64.wrap (1+(r:Int))=(R:Int):=by rw[IntKind.wrap_i64]; omega
 have Y3:Hid (n<200/\k<200):=⟨hn1,hk1⟩
 clear hI hR hB hP hPB hM hMB hS hIT hCF h1 h2 h3 hr hn hk hr1 hn1 hk1 hRe;go_enter Tryz.func3,Tryz.ntmps3;go_wp2_with fail;refine hm.mono ?_;rintro e w1 ⟨ts,q,db,co,d,cc,dc,rfl,hok,hts,hco,hcc,hls,JS,hb1⟩;obtain⟨x0,y0,z0,x1,y1,z1,g0,x3,y3,z3,x4,y4,z4,x5,y5,z5,x6,y6,z6,sV⟩:∃ x0 y0 z0 x1 y1 z1 g0 x3 y3 z3 x4 y4 z4 x5 y5 z5 x6 y6 z6,q.cells=#[(.slice x0 y0 z0),(.slice x1 y1 z1),(.bool g0),(.slice x3 y3 z3),(.slice x4 y4 z4),(.slice x5 y5 z5),(.slice x6 y6 z6)]:=⟨_,_,_,_,_,_,_,_,_,_,_,_,_,_,_,_,_,_,_,rfl⟩
 have hCA:caseA (.slice co ts.length cc) q (.slice d db.length dc)=#[.slice co ts.length cc,(.slice x0 y0 z0),(.slice x1 y1 z1),(.bool g0),(.slice x3 y3 z3),(.slice x4 y4 z4),(.slice x5 y5 z5),(.slice x6 y6 z6),.slice d db.length dc]:=by
  have:caseA (.slice co ts.length cc) q (.slice d db.length dc)=#[.slice co ts.length cc]++q.cells ++ #[.slice d db.length dc]:=rfl;rw[this,sV];rfl
 obtain⟨W2,hW2,hb2,hg2⟩:=bu w1 #[.slice co ts.length cc,(.slice x0 y0 z0),(.slice x1 y1 z1),(.bool g0),(.slice x3 y3 z3),(.slice x4 y4 z4),(.slice x5 y5 z5),(.slice x6 y6 z6),.slice d db.length dc] 29;have hB2:=aG hb1 hb2;have R8:=hls.keep (Q9 (s:=fun _=>True) hb2 (fun b hb _=>hb)) (fun _ _=>trivial);have akX:=hts.below hb2;have Uc:Hid (∀ x,Below W2.heap.size W2 x->Calls Tryz.prog 6 #[.agg #[.slice co ts.length cc,(.slice x0 y0 z0),(.slice x1 y1 z1),(.bool g0),(.slice x3 y3 z3),(.slice x4 y4 z4),(.slice x5 y5 z5),(.slice x6 y6 z6),.slice d db.length dc],.int .i64 (R:Int)] x fun e w'=>∃ P M,e=.returned (.tuple #[.pointer (some (aD P.pb 0)),.bool true])/\p9 ts (fun _=>False) q R x P M w'):=fun x hb=>by
  rw[<- hCA];exact Cz co cc (.slice d db.length dc) ts q db R W.heap.size (fun _=>False) x (akX.below hb) (R8.keep (Q9 (s:=fun _=>True) hb (fun b hb _=>hb)) (fun _ _=>trivial)) hok (Z9 (aG hB2 hb) HS.out.1) HRR.out.1 HRR.out.2 (fun b h=>h.elim) (fun h=>h) (Q8 HS.out.2 (aG hB2 hb).size)
 have yu:Hid (1<=q.src.xs.length/\q.src.xs.length<=5/\q.wh.length<=8):=by
  have g1:=hok.VL.src;have g2:=hok.VL.wh.1;exact⟨g1.2.1,by omega,by omega⟩
 have HJK:Hid (Dx ts q/\q.check ts=0):=⟨VU hok,AZ hok⟩
 have HB2:=Zh hB2;obtain⟨c0,c1,c2,c3,c4,c5,c6,c7,c8⟩:=hg2.k9;clear hm hok hts akX hco hcc hls JS hb1 hb2 hg2 hB2 R8 sV;rw[hCA];clear hCA;go_upto_region 2 with fail
 try rw[hW2]
 clear hW2;go_wp2_with fail;refine (TJ W2).mono ?_;rintro e w3 ⟨rfl,hb3⟩;have HB3:=Zh (aG HB2.out hb3);have d0:=cB hb3 c0;have d1:=cB hb3 c1;have d2:=cB hb3 c2;have d3:=cB hb3 c3;have d4:=cB hb3 c4;have d5:=cB hb3 c5;have d6:=cB hb3 c6;have d7:=cB hb3 c7;have d8:=cB hb3 c8;have Sk:=Zh hb3;clear hb3 c0 c1 c2 c3 c4 c5 c6 c7 c8;go_wp2_with fail;refine wH w3 fun hS=>?_
 refine wT 0 (.agg #[.slice co ts.length cc,(.slice x0 y0 z0),(.slice x1 y1 z1),(.bool g0),(.slice x3 y3 z3),(.slice x4 y4 z4),(.slice x5 y5 z5),(.slice x6 y6 z6),.slice d db.length dc]) hS (fun x hx=>?_) ?_
 ·have e0:=TP hx d0 d1 d2 d3 d4 d5 d6;have e7:=cB hx d7;have e8:=cB hx d8;go_simp
 refine wt 1 (.int .i64 n1) hS ?_;refine wR 2 fun K hK=>?_
 go_simp;refine (lK.out _).mono ?_;rintro e x2 ⟨rfl,rfl⟩;refine hK.out _ _ hS fun hS=>?_
 clear hK K;refine wt 3 (.int .i64 (R:Int)) hS ?_;refine wR 4 fun K hK=>?_
 go_simp;refine Z7 (Uc.out _ (aG Sk.out hS)) ?_;rintro e w4 ⟨a,Ma,rfl,hA⟩;have HA:=Zh ((hA.has HRR.out.1).elder (aG HB3.out hS));obtain⟨apb,agy⟩:∃ n,n=a.pb:=⟨_,rfl⟩
 rw[<- agy];have Oy:=Zh agy;clear agy;refine oT hK hS hA.below fun hS=>?_
 clear hK K hA;refine wt 5 (.tuple #[.pointer (some (aD apb 0)),.bool true]) hS ?_;refine wt 6 (.pointer (some (aD apb 0))) hS ?_;refine wt 7 (.bool true) hS ?_;refine wt 8 (.pointer (some (aD apb 0))) hS ?_;refine wt 9 (.bool true) hS ?_;refine wD ?_
 try simp only[pV]
 clear hS d0 d1 d2 d3 d4 d5 d6 d7 d8 Uc Sk;obtain⟨σ1,hσ1⟩:∃ σ,σ=goT aV ts q (aA ts q) ps n (-1) (dK aV ts q R):=⟨_,rfl⟩
 obtain⟨σ2,hσ2⟩:∃ σ,σ=goT aV ts q (aA ts q) ms k (-1) σ1:=⟨_,rfl⟩
 have su:=Zh (JW yu.out.1 yu.out.2.1 yu.out.2.2 HRR.out.1 ps ms Y3.out.1 Y3.out.2 hσ1 hσ2);have Br:=HA.out.run n (by show 0+n<=900; have:=Y3.out.1; omega) (-1) po pc ps (Qo HA.out.below HP.out.1) (fun c hc hm=>by
  have:=HP.out.2 c hc;have:=HA.out.new _ hm;omega)
 rw[HA.out.same.goT,HA.out.same.conc,HA.out.same.dK,<- hσ1,<- Oy.out] at Br;have ach:Hid (σ1=goT aV ts q (aA ts q) ps n (-1) (dK aV ts q R)/\σ2=goT aV ts q (aA ts q) ms k (-1) σ1):=⟨hσ1,hσ2⟩
 clear hσ1 hσ2;go_wp2_with fail;refine (nK.out w4).mono ?_;rintro e w4' ⟨rfl,hw⟩;rw[hw];clear hw w4';go_wp2_with fail;refine Br.mono ?_;rintro e w5 ⟨Ma1,v5,rfl,-,hA1,-⟩;have HA1:=Zh hA1;clear Br hA1 HA;have hSv:=HA1.out.save HJK.out.1 (HIC.out.1.below HA1.out.below) HRR.out.2 su.out.2.1 (by have:=su.out.2.2.2.1; omega);have HLD:Hid (∀ x,Below w5.heap.size w5 x->Calls Tryz.prog 9 #[.string ⟨(fH (bS ts q R σ1.picks σ1.status)).toArray⟩] x fun e w'=>∃ P M,e=.returned (.tuple #[.pointer (some (aD P.pb 0)),.int .i64 0])/\Has ts (fun c=>c=a.pb∨Ma1 c) q R x P M σ1 w'):=fun x hx=>by
  have hWx:=aG HA1.out.below hx;obtain⟨X,L,s,_⟩:=HA1.out.se;refine Yk HJK.out.1 R _ σ1 (HIC.out.2.below hWx) (HIC.out.1.below hWx) (Z9 hWx HS.out.1) HJK.out.2 HRR.out.1 HRR.out.2 (fun b hb=>Q8 ?_ hx.size) (fun h=>?_) (Q8 HS.out.2 hWx.size) su.out.2.2.2.1 su.out.2.1 su.out.1.1
  ·rcases hb with rfl | hb
   ·exact Zf HA1.out.cell
   ·exact (s.lt (s.sub b hb)).2
  ·have:=HS.out.2;rcases h with h | h
   ·have:=HA1.out.pb;omega
   ·have:=HA1.out.new 0 h;omega
 obtain⟨T1,hT1⟩:∃ T:ByteArray,T=⟨(fH (bS ts q R σ1.picks σ1.status)).toArray⟩:=⟨_,rfl⟩
 rw[<- hT1] at HLD hSv;rw[<- Oy.out] at hSv;clear hT1;go_wp2_with fail;refine hSv.mono ?_;rintro e w6 ⟨rfl,hb6⟩;have HA2:=Zh (HA1.out.step hb6);have hLd:=HLD.out w6 hb6;clear hSv hb6 HLD HA1;go_wp2_with fail;refine hLd.mono ?_;rintro e w7 ⟨b,Mb,rfl,hBh⟩;have HDU:=Zh (Duo.of HA2.out hBh);have J8:Hid (mE ts R a w7/\mE ts R b w7):=⟨(HA2.out.step hBh.below).keep,hBh.keep⟩
 have ql:Hid (Env a.f ts a.q a.W/\Env b.f ts b.q b.W/\aL q a.q/\aL q b.q/\E5 a.q σ1/\E5 b.q σ1):=⟨HA2.out.env,hBh.env,HA2.out.same,hBh.same,HA2.out.ok,hBh.ok⟩
 obtain⟨bpb,agA⟩:∃ n,n=b.pb:=⟨_,rfl⟩
 rw[<- agA];have HBP:=Zh agA;clear hLd hBh HA2 agA;have Br:=HDU.out.run ql.out.1 ql.out.2.2.2.2.1 k su.out.1.2 (-1) mo mc ms HMO.out.1 HMO.out.2;rw[ql.out.2.2.1.goT,ql.out.2.2.1.conc,<- ach.out.2,<- Oy.out] at Br;go_wp2_with fail;refine (pK.out w7).mono ?_;rintro e w7' ⟨rfl,hw⟩;rw[hw];clear hw w7';go_wp2_with fail;refine Br.mono ?_;rintro e w8 ⟨Ma2,τ,hτ,rfl,hD2,Og,-⟩;rw[hτ] at hD2 ⊢;clear hτ τ;have HD2:=Zh hD2;have agB:Hid (mE ts R a w8/\mE ts R b w8):=⟨J8.out.1.kept Og HDU.out.na.1,J8.out.2.kept Og HDU.out.nb.1⟩
 clear Br hD2 Og HDU J8;have Br:=HD2.out.swap.run ql.out.2.1 ql.out.2.2.2.2.2 k su.out.1.2 (-1) mo mc ms HMO.out.1 HMO.out.2;rw[ql.out.2.2.2.1.goT,ql.out.2.2.2.1.conc,<- ach.out.2,<- HBP.out] at Br;go_wp2_with fail;refine (pK.out w8).mono ?_;rintro e w8' ⟨rfl,hw⟩;rw[hw];clear hw w8';go_wp2_with fail;refine Br.mono ?_;rintro e w9 ⟨Mb2,τ,hτ,rfl,hD3,Gg,-⟩;rw[hτ] at hD3 ⊢;clear hτ τ;have HD3:=Zh hD3.swap;have agC:Hid (mE ts R a w9/\mE ts R b w9):=⟨agB.out.1.kept Gg HD2.out.na.2,agB.out.2.kept Gg HD2.out.nb.2⟩
 have HO2:Hid (E5 a.q σ2/\E5 b.q σ2):=by
  refine⟨?_,?_⟩
  ·rw[ach.out.2,<- ql.out.2.2.1.goT aV ts,<- ql.out.2.2.1.conc ts];exact (MQ (ZQ ts a.q) ql.out.1.five ms ql.out.2.2.2.2.1 k (-1)).1
  ·rw[ach.out.2,<- ql.out.2.2.2.1.goT aV ts,<- ql.out.2.2.2.1.conc ts];exact (MQ (ZQ ts b.q) ql.out.2.1.five ms ql.out.2.2.2.2.2 k (-1)).1
 clear Br hD3 Gg HD2 agB;obtain⟨C,hC⟩:∃ C:Nat,C=σ2.bM.d.cost:=⟨_,rfl⟩
 obtain⟨S,hSt⟩:∃ S:Int,S=σ2.status:=⟨_,rfl⟩
 obtain⟨PL,Sy⟩:∃ n:Nat,n=σ2.picks.length:=⟨_,rfl⟩
 obtain⟨T2,zq⟩:∃ T:ByteArray,T=⟨(fH (bS ts q R σ2.picks σ2.status)).toArray⟩:=⟨_,rfl⟩
 have Bt:=HD3.out.bM ql.out.1 HO2.out.1;rw[<- Oy.out,<- hC] at Bt;have Yl:Hid (∀ x Xa Xb,Duo ts W a b Xa Xb σ2 σ2 x->mE ts R a x/\mE ts R b x->(Calls Tryz.prog 10 #[.pointer (some (aD apb 0))] x fun e w'=>e=.returned (.string T2)/\Below x.heap.size x w')/\Calls Tryz.prog 10 #[.pointer (some (aD bpb 0))] x fun e w'=>e=.returned (.string T2)/\Below x.heap.size x w'):=fun x Xa Xb hd hp=>by
  rw[Oy.out,HBP.out,zq];exact⟨hd.save hp.1 ql.out.2.2.1 HJK.out.1 HIC.out.1 HRR.out.2 su.out.2.2.1 su.out.2.2.2.2,hd.swap.save hp.2 ql.out.2.2.2.1 HJK.out.1 HIC.out.1 HRR.out.2 su.out.2.2.1 su.out.2.2.2.2⟩
 have YJ:Hid (0<σ2.bM.ns.length/\C=σ2.bM.d.cost/\PL=σ2.picks.length):=⟨HO2.out.1.core.bM.pos,hC,Sy⟩
 rw[<- hSt];clear hC Sy zq hSt;go_wp2_with fail;refine Bt.mono ?_;rintro e w10 ⟨aa,ac,av,rfl,OB,hak,hal,aci⟩;clear Bt;have HD4:=Zh (HD3.out.step aci);have agD:Hid (mE ts R a w10/\mE ts R b w10):=⟨agC.out.1.kept (Q9 (s:=fun b=>b<w9.heap.size) aci (fun _ h _=>h)) (Zf HD3.out.ca),agC.out.2.kept (Q9 (s:=fun b=>b<w9.heap.size) aci (fun _ h _=>h)) (Zf HD3.out.cb)⟩
 have Bt:=HD4.out.swap.bM ql.out.2.1 HO2.out.2;rw[<- HBP.out,<- YJ.out.2.1] at Bt;have HAK:=Zh hak;have HAV:Hid (av.map fK=σ2.bM.ns/\av.length<=1000):=⟨OB,hal⟩
 have hpos:decide (0<av.length)=true:=by
  have h1:=congrArg List.length OB;have h2:=YJ.out.1;rw[QU] at h1;rw[Qx];omega
 clear OB hak hal aci HD3 agC;go_wp2_with fail;refine Bt.mono ?_;rintro e w11 ⟨ba,bc,bv,rfl,hbv,hbk,hbl,Yx⟩;clear Bt;have HD5:=Zh (HD4.out.step Yx);have agE:Hid (mE ts R a w11/\mE ts R b w11):=⟨agD.out.1.kept (Q9 (s:=fun b=>b<w10.heap.size) Yx (fun _ h _=>h)) (Zf HD4.out.ca),agD.out.2.kept (Q9 (s:=fun b=>b<w10.heap.size) Yx (fun _ h _=>h)) (Zf HD4.out.cb)⟩
 have ak0:=HAK.out.below Yx;have hps:=Nc (HAV.out.1.trans hbv.symm);obtain⟨_,_,ev1,hna⟩:=ak0.plan HAV.out.2;obtain⟨_,_,ev2,hnb⟩:=hbk.plan hbl;injection ev1 with aqF aqG aqH;subst aqF;injection ev2 with aqI aqJ aqK;subst aqI;clear aqG aqH aqJ aqK;have adm:=FH aa ba ac bc av bv w11 hna hnb hps.1 hps.2;clear ak0 HAK hbv hbk hbl Yx hps hna hnb HD4 agD;go_wp2_with fail;refine adm.mono ?_;rintro e w12 ⟨rfl,uH⟩;clear adm;have HD6:=Zh (HD5.out.step uH);have acj:Hid (mE ts R a w12/\mE ts R b w12):=⟨agE.out.1.kept (Q9 (s:=fun b=>b<w11.heap.size) uH (fun _ h _=>h)) (Zf HD5.out.ca),agE.out.2.kept (Q9 (s:=fun b=>b<w11.heap.size) uH (fun _ h _=>h)) (Zf HD5.out.cb)⟩
 have hs1:=HD6.out.steps;have hs2:=HD6.out.swap.steps;rw[<- Oy.out,<- YJ.out.2.2] at hs1;rw[<- HBP.out,<- YJ.out.2.2] at hs2;have HS2:=Zh hs2;clear uH HD5 agE hs2;go_wp2_with fail;refine hs1.mono ?_;rintro e agF ⟨rfl,hw⟩;rw[hw];clear hw agF hs1;go_wp2_with fail;refine HS2.out.mono ?_;rintro e agF ⟨rfl,hw⟩;rw[hw];clear hw agF HS2;have hv1:=(Yl.out w12 _ _ HD6.out acj.out).1;go_wp2_with fail;refine hv1.mono ?_;rintro e w13 ⟨rfl,iY⟩;have HD7:=Zh (HD6.out.step iY);have ak2:Hid (mE ts R a w13/\mE ts R b w13):=⟨acj.out.1.kept (Q9 (s:=fun b=>b<w12.heap.size) iY (fun _ h _=>h)) (Zf HD6.out.ca),acj.out.2.kept (Q9 (s:=fun b=>b<w12.heap.size) iY (fun _ h _=>h)) (Zf HD6.out.cb)⟩
 have hv2:=(Yl.out w13 _ _ HD7.out ak2.out).2;clear hv1 iY HD6 acj;go_wp2_with fail;refine hv2.mono ?_;rintro e w14 ⟨rfl,ak3⟩;have nQ:=Zh (aG HD7.out.below ak3);clear hv2 ak3 HD7 ak2 Yl;have t1:((C:Int)==(C:Int))=true:=by simp
 have t2:((PL:Int)==(PL:Int))=true:=by simp
 have t3:(S==S)=true:=by simp
 go_wp2;go_ret;exact⟨rfl,nQ.out⟩
