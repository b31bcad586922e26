import Derived.Test.YtlpbelhfpoilpabGreatDoorC12
import Derived.Test.YtlpbelhfpoilpabGreatDoorC23
import Derived.Test.YtlpbelhfpoilpabGreatDoorC32
import Derived.Test.YtlpbelhfpoilpabGreatDoorC34
import Derived.Test.YtlpbelhfpoilpabGreatDoorC42
import Derived.Test.YtlpbelhfpoilpabGreatDoorC43
set_option linter.all false
set_option maxRecDepth 100000
set_option maxHeartbeats 16000000
namespace Go.Proofs.YtlpbelhfpoilpabGreatDoor
open Go.RowKit Go.Scout Go.Shelf Go.Conc
theorem set17 (f:FactsV) (ts:List TableD) (q:QueryV) (L:SeL) (σ:SeD) (pv:Value):(f.cells ts q++tailC L σ).setIfInBounds 17 pv=f.cells ts q++tailC { L with pv:=pv } σ:=by
 obtain⟨v0,v1,v2,v3,v4,v5,v6,v7,v8,v9,v10,v11,v12,hFC,-⟩:=factsCells f ts q;rw[hFC];rfl
theorem push_pick (W:World) (base:Nat) (v:Value) (xs:List Int) (hown:W.ownsRow base 3 1 v xs.length (xs.map (Value.int .i64))) (hl:xs.length<=1000) (hb:base<=W.heap.size) (a:Int) (ty:TypeId) :
  ∃ v' w',(Builtin.append_ #[22,22] ty #[v,.slice (some (aD W.heap.size 0)) 1 1]).run Tryz.prog (W.alloc (.cells #[.int .i64 a] 3))=.ok v' w'/\
   w'.ownsRow base 3 1 v' (xs++[a]).length ((xs++[a]).map (Value.int .i64))/\Kept (fun b=>v.ownBlock≠some b) W w'/\(∃ a m c,v' = .slice a m c)/\(v'.ownBlock=v.ownBlock∨v'.ownBlock=some (W.heap.size+1)):=by
 obtain⟨i0,hi,hz0,hz1,hz2⟩:=info_parts Tryz.infoInt;obtain⟨v',w',hr,ho,hk,hs,hat⟩:=push_own (P:=Tryz.prog) W base 22 ty 3 i0 _ 1 8 Tryz.underlying22 hi hz0 hz1 hz2 rfl (by decide) v xs.length _ hown hb [.int .i64 a] rfl (fun u hu=>by
  rw[List.mem_singleton] at hu;rw[hu];rfl) hl (by decide)
 exact⟨v',w',hr,by rw[List.length_append,List.map_append]; exact ho,hk,hs,hat⟩
theorem SeAt.picked {W0:World} {f:FactsV} {ts:List TableD} {q:QueryV} {X M:Nat->Prop} {w w1:World} {sb:Nat} {L:SeL} {σ:SeD} (h:SeAt W0 f ts q X M w sb L σ) {pv:Value} {p:Int} (ho:w1.ownsRow W0.heap.size 3 1 pv (σ.picks++[p]).length ((σ.picks++[p]).map (Value.int .i64))) (hk:Kept (fun b=>L.pv.ownBlock≠some b) w w1) (hat:pv.ownBlock=L.pv.ownBlock∨pv.ownBlock=some (w.heap.size+1)) :
  SePostL W0 f ts q X M w sb { L with pv:=pv } { σ with picks:=σ.picks++[p] } (w1.setCell (aD sb 17) pv):=by
 have hne:=h.ne;have hg1:GB w1 sb 87 (f.cells ts q++tailC L σ):=h.blk.keep hk hne.2.1;have hk2:Kept (fun b=>b≠sb) w1 (w1.setCell (aD sb 17) pv):=Kept.setCell _ _ _ (fun h=>h rfl);refine h.next ((hk.mono fun b _ hb=>hb.2.2).trans (hk2.mono fun b _ hb=>hb.1)) (av:=L.av) (pv:=pv) (ag:=σ.agenda) (pk:=σ.picks++[p]) (st:=σ.status) ?_ ?_ (.inl rfl) ?_ ?_
 ·have:=hg1.set 17 pv;rw[set17] at this;exact this
 ·exact ownsRow_keep (ownsRow_keep h.ag hk (fun g e=>hne.2.2.1 g e)) hk2 (fun g e hg=>hne.1 (hg ▸ e))
 ·exact ownsRow_keep ho hk2 (fun g e hg=>own_not ho hg1 (by decide) (hg ▸ e))
 ·rcases hat with h1 | h1
  ·exact .inl h1
  ·exact .inr ⟨_,h1,by omega⟩
theorem SeAt.taken {W0:World} {f:FactsV} {ts:List TableD} {q:QueryV} {X M:Nat->Prop} {w w1:World} {sb:Nat} {L:SeL} {σ:SeD} (h:SeAt W0 f ts q X M w sb L σ) {av:Value} {ag:List TaskD} (hg:GB w1 sb 87 ((f.cells ts q++tailC L σ).setIfInBounds 14 av)) (ho:w1.ownsRow W0.heap.size 111 2 av ag.length (ag.flatMap taskL)) (hk:Kept (fun b=>b≠sb/\L.av.ownBlock≠some b) w w1) (hat:av.ownBlock=L.av.ownBlock) :
  SePostL W0 f ts q X M w sb { L with av:=av } { σ with agenda:=ag } w1:=by
 have hne:=h.ne;refine h.next (hk.mono fun b _ hb=>⟨hb.1,hb.2.1⟩) (av:=av) (pv:=L.pv) (ag:=ag) (pk:=σ.picks) (st:=σ.status) ?_ ho (.inl hat) ?_ (.inl rfl)
 ·rw[set14] at hg;exact hg
 ·exact ownsRow_keep h.pk hk (fun g e=>⟨fun e'=>hne.2.1 (e' ▸ e),fun e'=>hne.2.2.1 g e' e⟩)
theorem SeAt.settled {W0:World} {f:FactsV} {ts:List TableD} {q:QueryV} {X M:Nat->Prop} {w:World} {sb:Nat} {L:SeL} {σ:SeD} (h:SeAt W0 f ts q X M w sb L σ) (hal:σ.agenda.length<=1000000):Calls Tryz.prog 51 #[.pointer (some (aD sb 0))] w fun e w'=>(∃ v,e=.returned v)/\SePost W0 f ts q X M w sb (settleN σ) w':=by
 obtain⟨v0,v1,v2,v3,v4,v5,v6,v7,v8,v9,v10,v11,v12,hFC,-⟩:=factsCells f ts q;have hgb:=h.cells hFC;obtain⟨aa,ac,hav,-⟩:=tasks_own h.ag hal;have hgb2:=hgb;rw[hav] at hgb2;have hne:=h.ne;refine (settle_any sb v0 v1 v2 v3 v4 v5 v6 v7 v8 v9 v10 v11 v12 _ _ _ aa σ.agenda.length ac σ.cut σ.status w hgb2).mono ?_;rintro e w' ⟨hv,hk,hg⟩;refine⟨hv,?_⟩;have hs:settleN σ = { σ with agenda:=σ.agenda,picks:=σ.picks,status:=if 0<σ.agenda.length then σ.status else if σ.cut=true then 3 else 2 }:=by
  unfold settleN;split <;> rfl
 rw[hs];refine⟨_,h.next (hk.mono fun b _ hb=>hb.1) (av:=L.av) (pv:=L.pv) (ag:=σ.agenda) (pk:=σ.picks) (st:=if 0<σ.agenda.length then σ.status else if σ.cut=true then 3 else 2) ?_ (ownsRow_keep h.ag hk (fun g e hg=>hne.1 (hg ▸ e))) (.inl rfl) (ownsRow_keep h.pk hk (fun g e hg=>hne.2.1 (hg ▸ e))) (.inl rfl)⟩;rw[hFC];rw[<- hav] at hg;exact hg
theorem stepN_any {W0:World} {f:FactsV} {ts:List TableD} {q:QueryV} (E:Env f ts q W0) {X M:Nat->Prop} {w:World} {sb:Nat} {L:SeL} {σ:SeD} (h:SeAt W0 f ts q X M w sb L σ) (hok:SOk q σ) (h1:σ.status=1) (hpl:σ.picks.length<=900) (pick:Int) :
  Calls Tryz.prog 30 #[.pointer (some (aD sb 0)),.chan none,.int .i64 pick] w fun e w'=>(∃ v,e=.returned v)/\SePost W0 f ts q X M w sb (stepN rkN ts q (concL ts q) pick σ) w':=by
 obtain⟨v0,v1,v2,v3,v4,v5,v6,v7,v8,v9,v10,v11,v12,hFC,-⟩:=factsCells f ts q;have hgb:=h.cells hFC;have hn:=hok.stat h1;have hal:=hok.alen;have hal2:σ.agenda.length<=60000:=by omega
 obtain⟨aa,ac,hav,-⟩:=tasks_own h.ag (by omega);obtain⟨pa,pm,pc,hpv⟩:=ownsRow_slice h.pk;have hp:=placeI_lt hn pick;obtain⟨P,hP⟩:∃ P,P=placeI σ.agenda.length pick:=⟨_,rfl⟩
 obtain⟨pi,hpi⟩:∃ pi:Nat,P=(pi:Int):=⟨P.toNat,by rw[hP]; omega⟩
 have hpil:pi<σ.agenda.length:=by rw[<- hP,hpi] at hp; omega
 have hPL:=placeA_any aa σ.agenda.length ac pick w hn (by omega);rw[<- hP,hpi] at hPL;obtain⟨v',w1,hr1,ho1,hk1,⟨za,zm,zc,rfl⟩,hat1⟩:=push_pick w W0.heap.size L.pv σ.picks h.pk (by omega) h.hz.below.size P 22;rw[hpv,hpi] at hr1;obtain⟨X2,M2,hA2,hk2,g21,g22,g23⟩:=h.picked ho1 hk1 hat1;have HA2:Hid (SeAt W0 f ts q X2 M2 (w1.setCell (aD sb 17) (.slice za zm zc)) sb { L with pv:=.slice za zm zc } { σ with picks:=σ.picks++[P] }):=hA2;have HP2:Hid (Kept (fun b=>¬ M b) w (w1.setCell (aD sb 17) (.slice za zm zc))/\(∀ b,M b->M2 b)/\(∀ b,M2 b->M b∨w.heap.size<=b)/\(∀ b,X2 b↔X b∨M2 b)):=⟨hk2,g21,g22,g23⟩
 have hg1:GB w1 sb 87 (f.cells ts q++tailC L σ):=h.blk.keep hk1 h.ne.2.1;rw[hFC] at hg1;have d17:w1.cell? (aD sb 17)=some L.pv:=hg1.cell 17;rw[hpv] at d17;have f17:=hg1.frozen 17;have c14:w.cell? (aD sb 14)=some L.av:=hgb.cell 14;rw[hav] at c14;have c17:w.cell? (aD sb 17)=some L.pv:=hgb.cell 17;rw[hpv] at c17;have HTK:Hid (∀ x,x=w1.setCell (aD sb 17) (.slice za zm zc)->Calls Tryz.prog 50 #[.pointer (some (aD sb 14)),.int .i64 (pi:Int)] x fun e w'=>e=.returned (.agg #[.int .u64 ((σ.agenda.getD pi (0,0)).1:Int),.int .u64 ((σ.agenda.getD pi (0,0)).2:Int)])/\∃ L3,SePostL W0 f ts q X M w sb L3 { σ with picks:=σ.picks++[P],agenda:=σ.agenda.eraseIdx pi } w'):=fun x hx=>by
  rw[hx];refine (takeT_any sb W0.heap.size pi _ L.av σ.agenda _ hA2.blk (arr14 f ts q _ _) hA2.ag (by omega) hpil).mono ?_;rintro e w' ⟨rfl,av',hg',ho',hk',hat'⟩;exact⟨rfl,_,SePostL.trans hk2 g21 g22 g23 (hA2.taken hg' ho' hk' hat')⟩
 have hcore:=hok.core.erase pi (σ.picks++[P]);have htask:TaskOk q.src.xs.length σ.groups (σ.agenda.getD pi (0,0)):=hok.core.task _ (getD_memR hpil);have hdo:=doN_ok (rk:=rkN) (ts:=ts) (conc:=concL ts q) (concL_len ts q) (t:=σ.agenda.getD pi (0,0)) hcore E.five htask;have HDO:Hid (∀ x X3 M3 L3,SeAt W0 f ts q X3 M3 x sb L3 { σ with picks:=σ.picks++[P],agenda:=σ.agenda.eraseIdx pi }->Calls Tryz.prog 49 #[.pointer (some (aD sb 0)),.agg #[.int .u64 ((σ.agenda.getD pi (0,0)).1:Int),.int .u64 ((σ.agenda.getD pi (0,0)).2:Int)]] x fun e w'=>(∃ v,e=.returned v)/\SePost W0 f ts q X3 M3 x sb (doN rkN ts q (concL ts q) (σ.agenda.getD pi (0,0)) { σ with picks:=σ.picks++[P],agenda:=σ.agenda.eraseIdx pi }) w'):=fun x X3 M3 L3 hx=>
  do_any E hx hcore (by show (σ.agenda.eraseIdx pi).length<=900000; rw[List.length_eraseIdx_of_lt hpil]; omega) _ htask
 have hdl:(doN rkN ts q (concL ts q) (σ.agenda.getD pi (0,0)) { σ with picks:=σ.picks++[P],agenda:=σ.agenda.eraseIdx pi }).agenda.length<=1000000:=by
  have h2:=hdo.2.1;have h3:(σ.agenda.eraseIdx pi).length=σ.agenda.length-1:=List.length_eraseIdx_of_lt hpil;simp only at h2;omega
 have HR:Hid (stepN rkN ts q (concL ts q) pick σ=settleN (doN rkN ts q (concL ts q) (σ.agenda.getD pi (0,0)) { σ with picks:=σ.picks++[P],agenda:=σ.agenda.eraseIdx pi })):=by
  show _=_
  unfold stepN;simp only;rw[<- hP,hpi];rfl
 generalize stepN rkN ts q (concL ts q) pick σ=SN at *;generalize doN rkN ts q (concL ts q) (σ.agenda.getD pi (0,0)) { σ with picks:=σ.picks++[P],agenda:=σ.agenda.eraseIdx pi } = DN at *;have HDL:Hid _:=hdl;generalize (σ.agenda.getD pi (0,0)).1=tl at *;generalize (σ.agenda.getD pi (0,0)).2=tr at *;generalize σ.agenda.length=an at *;clear h hok h1 hpl hFC hgb hn hal hal2 hav hpv hp hP hpi hpil ho1 hk1 hat1 hA2 hk2 g21 g22 g23 hg1 hcore htask hdo hdl E;go_enter Tryz.func30,Tryz.ntmps30;go_upto_region 1 with fail;refine wp_select (rest:=[1,2]) (c:=rcaseNil (.agg #[])) (v:=.tuple #[goInt (-1),.bool false,.agg #[]]) (by kernel_rfl) rfl (by kernel_rfl) (by simp[go_sem,execOp,rcase,rcaseNil,Act.eval]) (fun fr cs es hes=>step_lone_select_recv_nil hes) ?_;refine wpOps_value (v:=.int .i64 (-1)) rfl (by kernel_rfl) (by simp[go_sem,execOp,Act.eval,Act.put,goInt]) ?_;refine wpOps_value (v:=.bool false) rfl (by kernel_rfl) (by simp[go_sem,execOp,Act.eval,Act.put,goInt]) ?_
 show Exit.then _ _ Exit.normal _ _
 simp only[Act.put,List.getElem_toArray,List.getElem_cons_succ,List.getElem_cons_zero,List.setIfInBounds_toArray,List.set_cons_succ,List.set_cons_zero];go_wp2_with fail;refine hPL.mono ?_;rintro e wz ⟨rfl,hwz⟩;have hwz':=hwz.symm;subst hwz';clear hPL;go_wp2_with (first | (at_builtin; refine wpList_append_run rfl (.tmp 21) (.tmp 23) 22 rfl (.slice pa pm pc) (.slice (some (aD w.heap.size 0)) 1 1) (.slice za zm zc) w1 rfl rfl hr1 ?_));clear hr1 c14 c17;go_upto_region 4 with fail;obtain⟨w2,hw2⟩:∃ x,x=w1.setCell (aD sb 17) (.slice za zm zc):=⟨_,rfl⟩
 rw[<- hw2];have hTK:=HTK.out w2 hw2;clear hw2 d17 f17;go_wp2_with fail;refine hTK.mono ?_;rintro e w3 ⟨rfl,L3,X3,M3,hA3,hk3,g31,g32,g33⟩;have hDO:=HDO.out w3 X3 M3 L3 hA3;have HK3:Hid (Kept (fun b=>¬ M b) w w3/\(∀ b,M b->M3 b)/\(∀ b,M3 b->M b∨w.heap.size<=b)/\(∀ b,X3 b↔X b∨M3 b)):=⟨hk3,g31,g32,g33⟩
 clear hTK hA3 hk3 g31 g32 g33;go_wp2_with fail;refine hDO.mono ?_;rintro e w4 ⟨⟨rv,rfl⟩,hp4⟩;obtain⟨L4,X4,M4,hA4,hk4,g41,g42,g43⟩:=SePost.trans HK3.out.1 HK3.out.2.1 HK3.out.2.2.1 HK3.out.2.2.2 hp4;have hST:=hA4.settled HDL.out;have HK4:Hid (Kept (fun b=>¬ M b) w w4/\(∀ b,M b->M4 b)/\(∀ b,M4 b->M b∨w.heap.size<=b)/\(∀ b,X4 b↔X b∨M4 b)):=⟨hk4,g41,g42,g43⟩
 clear hDO hp4 hA4 hk4 g41 g42 g43;go_wp2_with fail;refine hST.mono ?_;rintro e w5 ⟨⟨rv2,rfl⟩,hp5⟩;have HF:Hid (SePost W0 f ts q X M w sb SN w5):=by
  rw[HR.out];exact SePost.trans HK4.out.1 HK4.out.2.1 HK4.out.2.2.1 HK4.out.2.2.2 hp5
 clear hST hp5;go_wp2;go_end0;exact⟨⟨_,rfl⟩,HF.out⟩
theorem stepO_any {W0:World} {f:FactsV} {ts:List TableD} {q:QueryV} (E:Env f ts q W0) {X M:Nat->Prop} {w:World} {sb:Nat} {L:SeL} {σ:SeD} (h:SeAt W0 f ts q X M w sb L σ) (hok:SOk q σ) (h1:σ.status=1) (hpl:σ.picks.length<=900) (c s r:Nat) (tm:Bool) (hc:w.heap[c]? = some (.chan 0 #[] false s r tm)) (pick:Int) :
  Calls Tryz.prog 30 #[.pointer (some (aD sb 0)),.chan (some c),.int .i64 pick] w fun e w'=>(∃ v,e=.returned v)/\SePost W0 f ts q X M w sb (stepN rkN ts q (concL ts q) pick σ) w':=by
 obtain⟨v0,v1,v2,v3,v4,v5,v6,v7,v8,v9,v10,v11,v12,hFC,-⟩:=factsCells f ts q;have hgb:=h.cells hFC;have hn:=hok.stat h1;have hal:=hok.alen;have hal2:σ.agenda.length<=60000:=by omega
 obtain⟨aa,ac,hav,-⟩:=tasks_own h.ag (by omega);obtain⟨pa,pm,pc,hpv⟩:=ownsRow_slice h.pk;have hp:=placeI_lt hn pick;obtain⟨P,hP⟩:∃ P,P=placeI σ.agenda.length pick:=⟨_,rfl⟩
 obtain⟨pi,hpi⟩:∃ pi:Nat,P=(pi:Int):=⟨P.toNat,by rw[hP]; omega⟩
 have hpil:pi<σ.agenda.length:=by rw[<- hP,hpi] at hp; omega
 have hPL:=placeA_any aa σ.agenda.length ac pick w hn (by omega);rw[<- hP,hpi] at hPL;obtain⟨v',w1,hr1,ho1,hk1,⟨za,zm,zc,rfl⟩,hat1⟩:=push_pick w W0.heap.size L.pv σ.picks h.pk (by omega) h.hz.below.size P 22;rw[hpv,hpi] at hr1;obtain⟨X2,M2,hA2,hk2,g21,g22,g23⟩:=h.picked ho1 hk1 hat1;have HA2:Hid (SeAt W0 f ts q X2 M2 (w1.setCell (aD sb 17) (.slice za zm zc)) sb { L with pv:=.slice za zm zc } { σ with picks:=σ.picks++[P] }):=hA2;have HP2:Hid (Kept (fun b=>¬ M b) w (w1.setCell (aD sb 17) (.slice za zm zc))/\(∀ b,M b->M2 b)/\(∀ b,M2 b->M b∨w.heap.size<=b)/\(∀ b,X2 b↔X b∨M2 b)):=⟨hk2,g21,g22,g23⟩
 have hg1:GB w1 sb 87 (f.cells ts q++tailC L σ):=h.blk.keep hk1 h.ne.2.1;rw[hFC] at hg1;have d17:w1.cell? (aD sb 17)=some L.pv:=hg1.cell 17;rw[hpv] at d17;have f17:=hg1.frozen 17;have c14:w.cell? (aD sb 14)=some L.av:=hgb.cell 14;rw[hav] at c14;have c17:w.cell? (aD sb 17)=some L.pv:=hgb.cell 17;rw[hpv] at c17;have HTK:Hid (∀ x,x=w1.setCell (aD sb 17) (.slice za zm zc)->Calls Tryz.prog 50 #[.pointer (some (aD sb 14)),.int .i64 (pi:Int)] x fun e w'=>e=.returned (.agg #[.int .u64 ((σ.agenda.getD pi (0,0)).1:Int),.int .u64 ((σ.agenda.getD pi (0,0)).2:Int)])/\∃ L3,SePostL W0 f ts q X M w sb L3 { σ with picks:=σ.picks++[P],agenda:=σ.agenda.eraseIdx pi } w'):=fun x hx=>by
  rw[hx];refine (takeT_any sb W0.heap.size pi _ L.av σ.agenda _ hA2.blk (arr14 f ts q _ _) hA2.ag (by omega) hpil).mono ?_;rintro e w' ⟨rfl,av',hg',ho',hk',hat'⟩;exact⟨rfl,_,SePostL.trans hk2 g21 g22 g23 (hA2.taken hg' ho' hk' hat')⟩
 have hcore:=hok.core.erase pi (σ.picks++[P]);have htask:TaskOk q.src.xs.length σ.groups (σ.agenda.getD pi (0,0)):=hok.core.task _ (getD_memR hpil);have hdo:=doN_ok (rk:=rkN) (ts:=ts) (conc:=concL ts q) (concL_len ts q) (t:=σ.agenda.getD pi (0,0)) hcore E.five htask;have HDO:Hid (∀ x X3 M3 L3,SeAt W0 f ts q X3 M3 x sb L3 { σ with picks:=σ.picks++[P],agenda:=σ.agenda.eraseIdx pi }->Calls Tryz.prog 49 #[.pointer (some (aD sb 0)),.agg #[.int .u64 ((σ.agenda.getD pi (0,0)).1:Int),.int .u64 ((σ.agenda.getD pi (0,0)).2:Int)]] x fun e w'=>(∃ v,e=.returned v)/\SePost W0 f ts q X3 M3 x sb (doN rkN ts q (concL ts q) (σ.agenda.getD pi (0,0)) { σ with picks:=σ.picks++[P],agenda:=σ.agenda.eraseIdx pi }) w'):=fun x X3 M3 L3 hx=>
  do_any E hx hcore (by show (σ.agenda.eraseIdx pi).length<=900000; rw[List.length_eraseIdx_of_lt hpil]; omega) _ htask
 have hdl:(doN rkN ts q (concL ts q) (σ.agenda.getD pi (0,0)) { σ with picks:=σ.picks++[P],agenda:=σ.agenda.eraseIdx pi }).agenda.length<=1000000:=by
  have h2:=hdo.2.1;have h3:(σ.agenda.eraseIdx pi).length=σ.agenda.length-1:=List.length_eraseIdx_of_lt hpil;simp only at h2;omega
 have HR:Hid (stepN rkN ts q (concL ts q) pick σ=settleN (doN rkN ts q (concL ts q) (σ.agenda.getD pi (0,0)) { σ with picks:=σ.picks++[P],agenda:=σ.agenda.eraseIdx pi })):=by
  show _=_
  unfold stepN;simp only;rw[<- hP,hpi];rfl
 generalize stepN rkN ts q (concL ts q) pick σ=SN at *;generalize doN rkN ts q (concL ts q) (σ.agenda.getD pi (0,0)) { σ with picks:=σ.picks++[P],agenda:=σ.agenda.eraseIdx pi } = DN at *;have HDL:Hid _:=hdl;generalize (σ.agenda.getD pi (0,0)).1=tl at *;generalize (σ.agenda.getD pi (0,0)).2=tr at *;generalize σ.agenda.length=an at *;have HC:Hid _:=hc;clear hc;clear h hok h1 hpl hFC hgb hn hal hal2 hav hpv hp hP hpi hpil ho1 hk1 hat1 hA2 hk2 g21 g22 g23 hg1 hcore htask hdo hdl E;go_enter Tryz.func30,Tryz.ntmps30;go_upto_region 1 with fail;refine wp_select (rest:=[1,2]) (c:=rcase c (.agg #[])) (v:=.tuple #[goInt (-1),.bool false,.agg #[]]) (by kernel_rfl) rfl (by kernel_rfl) (by simp[go_sem,execOp,rcase,rcaseNil,Act.eval]) (fun fr cs es hes=>step_lone_select_default hes HC.out) ?_;refine wpOps_value (v:=.int .i64 (-1)) rfl (by kernel_rfl) (by simp[go_sem,execOp,Act.eval,Act.put,goInt]) ?_;refine wpOps_value (v:=.bool false) rfl (by kernel_rfl) (by simp[go_sem,execOp,Act.eval,Act.put,goInt]) ?_
 show Exit.then _ _ Exit.normal _ _
 simp only[Act.put,List.getElem_toArray,List.getElem_cons_succ,List.getElem_cons_zero,List.setIfInBounds_toArray,List.set_cons_succ,List.set_cons_zero];go_wp2_with fail;refine hPL.mono ?_;rintro e wz ⟨rfl,hwz⟩;have hwz':=hwz.symm;subst hwz';clear hPL;go_wp2_with (first | (at_builtin; refine wpList_append_run rfl (.tmp 21) (.tmp 23) 22 rfl (.slice pa pm pc) (.slice (some (aD w.heap.size 0)) 1 1) (.slice za zm zc) w1 rfl rfl hr1 ?_));clear hr1 c14 c17;go_upto_region 4 with fail;obtain⟨w2,hw2⟩:∃ x,x=w1.setCell (aD sb 17) (.slice za zm zc):=⟨_,rfl⟩
 rw[<- hw2];have hTK:=HTK.out w2 hw2;clear hw2 d17 f17;go_wp2_with fail;refine hTK.mono ?_;rintro e w3 ⟨rfl,L3,X3,M3,hA3,hk3,g31,g32,g33⟩;have hDO:=HDO.out w3 X3 M3 L3 hA3;have HK3:Hid (Kept (fun b=>¬ M b) w w3/\(∀ b,M b->M3 b)/\(∀ b,M3 b->M b∨w.heap.size<=b)/\(∀ b,X3 b↔X b∨M3 b)):=⟨hk3,g31,g32,g33⟩
 clear hTK hA3 hk3 g31 g32 g33;go_wp2_with fail;refine hDO.mono ?_;rintro e w4 ⟨⟨rv,rfl⟩,hp4⟩;obtain⟨L4,X4,M4,hA4,hk4,g41,g42,g43⟩:=SePost.trans HK3.out.1 HK3.out.2.1 HK3.out.2.2.1 HK3.out.2.2.2 hp4;have hST:=hA4.settled HDL.out;have HK4:Hid (Kept (fun b=>¬ M b) w w4/\(∀ b,M b->M4 b)/\(∀ b,M4 b->M b∨w.heap.size<=b)/\(∀ b,X4 b↔X b∨M4 b)):=⟨hk4,g41,g42,g43⟩
 clear hDO hp4 hA4 hk4 g41 g42 g43;go_wp2_with fail;refine hST.mono ?_;rintro e w5 ⟨⟨rv2,rfl⟩,hp5⟩;have HF:Hid (SePost W0 f ts q X M w sb SN w5):=by
  rw[HR.out];exact SePost.trans HK4.out.1 HK4.out.2.1 HK4.out.2.2.1 HK4.out.2.2.2 hp5
 clear hST hp5;go_wp2;go_end0;exact⟨⟨_,rfl⟩,HF.out⟩
open Go.RowKit Go.Scout Go.Shelf
theorem pickAt_any (x:IntsV) (k:Nat) (w:World) (hx:x.At w) (hk:k<4611686018427387904) :
  Calls Tryz.prog 31 #[x.val,.int .i64 (k:Int)] w fun e w'=>e=.returned (.int .i64 (pickN' x.xs k))/\w' = w:=by
 obtain⟨ad,cap,xs⟩:=x;have hl:=hx.1;simp only at hl;by_cases h0:xs.length=0
 ·have hR:pickN' xs k=0:=by unfold pickN'; rw[if_pos h0]
  simp only[hR,IntsV.val];rw[h0];clear hR hx h0 hl;go_enter Tryz.func31,Tryz.ntmps31;go_wp2;go_ret;exact⟨rfl,rfl⟩
 ·have hR:pickN' xs k=xs.getD (k % xs.length) 0:=by unfold pickN'; rw[if_neg h0]
  have hlt:k % xs.length<xs.length:=Nat.mod_lt _ (by omega);obtain⟨b,off,e,hc⟩:=IntsAt.get hx hlt;have hcc:=hc _ hlt;simp only at e;subst e;simp only[hR,IntsV.val];generalize xs.getD (k % xs.length) 0=v at *;have hmod:Int.tmod (k:Int) (xs.length:Int)=((k % xs.length:Nat):Int):=by
   rw[Int.tmod_eq_emod_of_nonneg (by omega)];rfl
  have hne:((xs.length:Int)==0)=false:=by rw[Bool.eq_false_iff]; intro h; exact h0 (by have:=eq_of_beq h; omega)
  have hne2:¬ (xs.length:Int)=0:=by omega
  generalize k % xs.length=m at *;have hm1:(m:Int)<(xs.length:Int):=by omega
  clear hR hc hx;go_enter Tryz.func31,Tryz.ntmps31;go_wp2;go_ret;exact⟨rfl,rfl⟩
theorem SeAt.monoM {W0:World} {f:FactsV} {ts:List TableD} {q:QueryV} {X M M':Nat->Prop} {w:World} {sb:Nat} {L:SeL} {σ:SeD} (h:SeAt W0 f ts q X M w sb L σ) (h1:∀ b,M b->M' b) (h2:∀ b,M' b->X b):SeAt W0 f ts q X M' w sb L σ:=
 ⟨h.hz,h2,h1 _ h.msb,h.blk,h.gsx,h.gsl,h.gcell,fun k hk=>⟨(h.grp k hk).1,h1 _ (h.grp k hk).2.1,(h.grp k hk).2.2⟩,h.apart,h.ag,fun b e=>h1 b (h.agm b e),h.best,h.pk,fun b e=>h1 b (h.pkm b e)⟩
theorem step1_any {W0:World} {f:FactsV} {ts:List TableD} {q:QueryV} (E:Env f ts q W0) {X M:Nat->Prop} {w:World} {sb:Nat} {L:SeL} {σ:SeD} (h:SeAt W0 f ts q X M w sb L σ) (hok:SOk q σ) (hpl:σ.picks.length<=900) (pick:Int) :
  Calls Tryz.prog 21 #[.pointer (some (aD sb 0)),.int .i64 pick] w fun e w'=>∃ τ,τ=(if σ.status=1 then stepN rkN ts q (concL ts q) pick σ else σ)/\e=.returned (.int .i64 τ.status)/\SePost W0 f ts q X M w sb τ w':=by
 obtain⟨v0,v1,v2,v3,v4,v5,v6,v7,v8,v9,v10,v11,v12,hFC,-⟩:=factsCells f ts q;have hgb:=h.cells hFC;have c18:w.cell? (aD sb 18)=some (.int .i64 σ.status):=hgb.cell 18;by_cases h1:σ.status=1
 ·rw[if_pos h1];have hSN:=stepN_any E h hok h1 hpl pick;rw[h1] at c18;have HFC:Hid _:=hFC;clear hgb hFC h hok h1 hpl E;generalize stepN rkN ts q (concL ts q) pick σ=SN at *;go_enter Tryz.func21,Tryz.ntmps21;go_wp2_with fail;refine hSN.mono ?_;rintro e w2 ⟨⟨rv,rfl⟩,hp2⟩;have HP:Hid (SePost W0 f ts q X M w sb SN w2):=hp2;obtain⟨L2,X2,M2,hA2,-⟩:=hp2;have d18:w2.cell? (aD sb 18)=some (.int .i64 SN.status):=(hA2.cells HFC.out).cell 18;clear hSN hA2;go_wp2;go_ret;exact⟨SN,rfl,rfl,HP.out⟩
 ·rw[if_neg h1];have HP:Hid (SePost W0 f ts q X M w sb σ w):=⟨_,h.post (Kept.refl _ _)⟩
  clear hgb hFC h hok hpl E;go_enter Tryz.func21,Tryz.ntmps21;go_wp2;go_ret;exact⟨σ,rfl,rfl,HP.out⟩
theorem Tryz.infoUnit:(Tryz.prog.info? 118).map (·.bytes)=some 0:=by kernel_rfl
theorem mkc (w:World):(Instr.makeChan 81 (.int .i64 0)).run Tryz.prog w=.ok (.chan (some w.heap.size)) (w.alloc (.chan 0 #[] false 0 0 false)):=by
 obtain⟨i,hi,hb⟩:=Option.map_eq_some_iff.1 Tryz.infoUnit
 simpa using run_makeChan (P:=Tryz.prog) (w:=w) Tryz.underlying81 hi .i64 0 (by omega) (by rw[hb]; omega)
theorem run_any {W0:World} {f:FactsV} {ts:List TableD} {q:QueryV} (E:Env f ts q W0) {X M:Nat->Prop} {w:World} {sb:Nat} {L:SeL} {σ:SeD} (h:SeAt W0 f ts q X M w sb L σ) (hok:SOk q σ) (n:Nat) (hpl:σ.picks.length+n<=900) (tick:Int) (x:IntsV) (hx:x.At w) (hxm:∀ a,x.ad=some a->¬ M a.block) :
  Calls Tryz.prog 17 #[.pointer (some (aD sb 0)),.int .i64 (n:Int),.int .i64 tick,x.val] w fun e w'=>∃ τ,τ=goT rkN ts q (concL ts q) x.xs n tick σ/\e=.returned (.int .i64 τ.status)/\SePost W0 f ts q X M w sb τ w':=by
 obtain⟨v0,v1,v2,v3,v4,v5,v6,v7,v8,v9,v10,v11,v12,hFC,-⟩:=factsCells f ts q;have HFC:Hid _:=hFC;obtain⟨RK,hRK⟩:∃ R:Nat->SeD,R=fun d=>Scout.runN rkN ts q (concL ts q) x.xs d 0 σ:=⟨_,rfl⟩
 have HOK:Hid (∀ d,SOk q (RK d)/\(RK d).picks.length<=σ.picks.length+d):=fun d=>by rw[hRK]; exact runN_ok (concL_len ts q) E.five x.xs hok d
 have HST:Hid (∀ d,(RK d).status=1->RK (d+1)=stepN rkN ts q (concL ts q) (pickN' x.xs d) (RK d)):=fun d hs=>by
  rw[hRK] at hs ⊢
  show Scout.runN rkN ts q (concL ts q) x.xs (d+1) 0 σ=_
  rw[runN_snoc,if_pos hs,Nat.zero_add]
 have HR0:Hid (RK 0=σ):=by show _=_; rw[hRK]; rfl
 have HTS:Hid (∀ d,(RK d).status≠1->d<=n->(tick<0∨(d:Int)<=tick)->goT rkN ts q (concL ts q) x.xs n tick σ=RK d):=fun d hs hd ht=>by rw[hRK] at hs ⊢; exact goT_stop hs hd ht
 have HTE:Hid ((tick<0∨(n:Int)<=tick)->goT rkN ts q (concL ts q) x.xs n tick σ=RK n):=fun ht=>by rw[hRK]; exact goT_end ht
 have HTT:Hid (∀ d:Nat,tick=(d:Int)->d<n->(RK d).status=1->goT rkN ts q (concL ts q) x.xs n tick σ = { RK d with status:=4 }):=fun d e hd hs=>by rw[e]; rw[hRK] at hs ⊢; exact goT_tick hd hs
 generalize goT rkN ts q (concL ts q) x.xs n tick σ=RT at *;obtain⟨w1,hw1⟩:∃ y,w.alloc (.chan 0 #[] false 0 0 false)=y:=⟨_,rfl⟩
 have hmk:=mkc w;rw[hw1] at hmk;have hb1:Below w.heap.size w w1:=by rw[<- hw1]; exact (Below.refl _ _).alloc (Nat.le_refl _) _
 obtain⟨c,hcw⟩:∃ c,c=w.heap.size:=⟨_,rfl⟩
 have hch1:w1.heap[c]? = some (.chan 0 #[] false 0 0 false):=by rw[<- hw1,hcw]; exact bQ3 _ _
 have hc1:c<w1.heap.size:=(Array.getElem?_eq_some_iff.1 hch1).1;have hMc:¬ M c:=fun hm=>by have:=(h.lt (h.sub _ hm)).2; omega
 have hA1:SeAt W0 f ts q (fun b=>X b∨b=c) M w1 sb L σ:=h.other (N:=fun _=>False) (N':=fun b=>b=c) (fun _ h=>h.elim) (fun _ _ h=>h) (Kept.of_below hb1 (fun _ h _=>h)) (fun b e=>.inr (by omega)) (fun b=>Iff.rfl) (fun b e=>by rw[e]; exact hc1) (fun b e=>by have:=h.hz.below.size; omega);have HP0:Hid (SePost W0 f ts q (fun b=>X b∨b=c) M w1 sb (RK 0) w1):=by rw[HR0.out]; exact⟨L,hA1.post (Kept.refl _ _)⟩
 have HCH1:Hid (w1.heap[c]? = some (.chan 0 #[] false 0 0 false)):=hch1;have HC1:Hid (c<w1.heap.size/\¬ M c/\w.heap.size<=c):=⟨hc1,hMc,by omega⟩
 have HWC:Hid (W0.heap.size<=c):=by
  have:=h.hz.below.size
  show _<=_
  omega
 have HB1:Hid (Below w.heap.size w w1):=hb1;have HSTO:Hid (∀ (y:World) (X' M':Nat->Prop) (L':SeL) (d:Nat),SeAt W0 f ts q X' M' y sb L' (RK d)->(RK d).status=1->d<n->y.heap[c]? = some (.chan 0 #[] false 0 0 false)->Calls Tryz.prog 30 #[.pointer (some (aD sb 0)),.chan (some c),.int .i64 (pickN' x.xs d)] y fun e w'=>(∃ v,e=.returned v)/\SePost W0 f ts q X' M' y sb (RK (d+1)) w'):=fun y X' M' L' d hA hs hd hch=>by
  rw[HST.out d hs];exact stepO_any E hA (HOK.out d).1 hs (by have:=(HOK.out d).2; omega) c 0 0 false hch (pickN' x.xs d)
 have HX:Hid (∀ y,Kept (fun b=>¬ M b) w1 y->x.At y):=fun y hy=>IntsAt.keptF (IntsAt.below hb1 hx) hy (fun _ a e=>hxm a e)
 have HXL:Hid (∀ a,0<x.xs.length->x.ad=some a->a.block<w.heap.size):=fun a h0 e=>hx.2.lt h0 a e
 have HPK:Hid (∀ (y:World) (d:Nat),x.At y->d<n->Calls Tryz.prog 31 #[x.val,.int .i64 (d:Int)] y fun e w'=>e=.returned (.int .i64 (pickN' x.xs d))/\w' = y):=fun y d hy hd=>pickAt_any x d y hy (by omega)
 have HEND:Hid (∀ (y:World) (τ:SeD) (X' M':Nat->Prop) (L':SeL),SeAt W0 f ts q X' M' y sb L' τ->Kept (fun b=>¬ M b) w y->(∀ b,M b->M' b)->(∀ b,M' b->M b∨w.heap.size<=b)->(∀ b,X' b↔(X b∨b=c)∨M' b)->SePost W0 f ts q X M w sb τ y/\y.cell? (aD sb 18)=some (.int .i64 τ.status)):=fun y τ X' M' L' hA hk g1 g2 g3=>by
  refine⟨⟨L',X',fun b=>M' b∨b=c,hA.monoM (fun b hb=>.inl hb) (fun b hb=>?_),hk,fun b hb=>.inl (g1 b hb),fun b hb=>?_,fun b=>?_⟩,(hA.cells hFC).cell 18⟩
  ·rcases hb with hb | hb
   ·exact hA.sub b hb
   ·exact (g3 b).2 (.inl (.inr hb))
  ·rcases hb with hb | hb
   ·exact g2 b hb
   ·exact .inr (by omega)
  ·rw[g3];exact⟨fun h0=>by
    rcases h0 with (h0 | h0) | h0
    ·exact .inl h0
    ·exact .inr (.inr h0)
    ·exact .inr (.inl h0),fun h0=>by
    rcases h0 with h0 | h0 | h0
    ·exact .inl (.inl h0)
    ·exact .inr h0
    ·exact .inl (.inr h0)⟩
 have HWL:Hid (w.heap.size<=w1.heap.size):=hb1.size;have HKW:Hid (∀ y,Kept (fun b=>¬ M b) w1 y->Kept (fun b=>¬ M b) w y):=fun y hy=>(Kept.of_below hb1 (fun _ h _=>h)).trans hy
 have hn63:n<=900:=by omega
 obtain⟨xa,xc,xx⟩:=x;simp only[IntsV.val] at *;obtain⟨xl,hxl⟩:∃ l,l=xx.length:=⟨_,rfl⟩
 have HXL2:Hid (xl=xx.length):=hxl;rw[<- hxl] at HPK ⊢;clear h hok hpl hx hxm hFC hRK hb1 hch1 hc1 hMc hA1 hxl E;rw[<- hcw] at hmk;clear hcw;go_enter Tryz.func17,Tryz.ntmps17;go_wp2;clear hmk hw1;go_loopw [10] (fun iv wr=>∃ d:Nat,iv=.int .i64 (d:Int)/\d<=n/\Hid ((((tick<0∨(d:Int)<=tick)/\SePost W0 f ts q (fun b=>X b∨b=c) M w1 sb (RK d) wr/\wr.heap[c]? = some (.chan 0 #[] false 0 0 false))∨(RT.status=4/\SePost W0 f ts q X M w sb RT wr/\wr.cell? (aD sb 18)=some (.int .i64 4))))) (fun iv _=>n-(intOf iv).toNat)
 case atStart=>exact⟨0,rfl,Nat.zero_le _,.inl ⟨by omega,HP0.out,HCH1.out⟩⟩
 case round=>
  obtain⟨d,rfl,hdn,HI⟩:=hrel;rcases HI.out with⟨htk,hp,hch⟩ | ⟨hs4,hp,c18⟩
  ·obtain⟨L',X',M',hA,hk,g1,g2,g3⟩:=hp;obtain⟨hp2,c18⟩:=HEND.out wr _ X' M' L' hA (HKW.out wr hk) g1 (fun b hb=>by
    rcases g2 b hb with h0 | h0
    ·exact .inl h0
    ·exact .inr (Nat.le_trans HWL.out h0)) g3
   have HP2:Hid (SePost W0 f ts q X M w sb (RK d) wr):=hp2;clear hp2;by_cases hlt:d<n
   ·by_cases hs:(RK d).status=1
    ·rw[hs] at c18;have hcM':¬ M' c:=fun hm=>by
      rcases g2 c hm with h0 | h0
      ·exact HC1.out.2.1 h0
      ·have:=HC1.out.1; omega
     have hcX':X' c:=(g3 c).2 (.inl (.inr rfl));have HK:Hid (Kept (fun b=>¬ M b) w1 wr/\(∀ b,M b->M' b)/\(∀ b,M' b->M b∨w1.heap.size<=b)/\(∀ b,X' b↔(X b∨b=c)∨M' b)):=⟨hk,g1,g2,g3⟩
     by_cases htd:tick=(d:Int)
     ·have HRT:Hid _:=HTT.out d htd hlt hs;obtain⟨w2,hw2⟩:∃ y,y = { wr with heap:=wr.heap.setIfInBounds c (.chan 0 #[] true 0 0 false) }:=⟨_,rfl⟩
      have hcl:(Builtin.close_ #[81] 0 #[.chan (some c)]).run Tryz.prog wr=.ok (.tuple #[]) w2:=by rw[hw2]; exact run_close_open _ _ hch
      have hk2:Kept (fun b=>b≠c) wr w2:=by
       rw[hw2];exact⟨rfl,rfl,rfl,by simp,fun k _ hkc=>by simp only; rw[Array.getElem?_setIfInBounds_ne (fun e=>hkc e.symm)]⟩
      have hch2:w2.heap[c]? = some (.chan 0 #[] true 0 0 false):=by
       rw[hw2];have hl:c<wr.heap.size:=(Array.getElem?_eq_some_iff.1 hch).1;simp[hl]
      have hA2:SeAt W0 f ts q X' M' w2 sb L' (RK d):=hA.other (N:=fun b=>b=c) (N':=fun b=>b=c) (fun b e=>by rw[e]; exact hcX') (fun b hm e=>hcM' (e ▸ hm)) (hk2.mono fun b _ hb=>hb) (fun b e=>.inl e) (fun b=>⟨fun h0=>.inl h0,fun h0=>by
       rcases h0 with h0 | h0
       ·exact h0
       ·rw[h0]; exact hcX'⟩) (fun b e=>by rw[e]; exact (Array.getElem?_eq_some_iff.1 hch2).1) (fun b e=>by rw[e]; exact HWC.out)
      have hx2:IntsAt w2 xa xx:=IntsAt.keptF (HX.out wr hk) (hk2.mono fun b _ hb=>hb) (fun h0 a e e'=>by have h1:=HXL.out a h0 e; have:=HC1.out.2.2; omega);have hPK:=HPK.out w2 d hx2 hlt;have hSC:=stepC_any hA2 c (pickN' xx d) 0 0 false hch2;have HK2:Hid (Kept (fun b=>b≠c) wr w2):=hk2;subst htd;clear hA hk g1 g2 g3 hch hk2 hch2 hA2 hx2 hw2 htk hs;generalize RK d=RD at *;go_wp2_with fail;refine hPK.mono ?_;rintro e wz ⟨rfl,hwz⟩;have hwz':=hwz.symm;subst hwz';clear hPK hcl c18;go_wp2_with fail;refine hSC.mono ?_;rintro e w3 ⟨⟨rv,rfl⟩,L3,X3,M3,hA3,hk3,g31,g32,g33⟩;have hfin:=HEND.out w3 RT X3 M3 L3 (by rw[HRT.out]; exact hA3) (((HKW.out wr HK.out.1).trans' HK2.out (fun b hb _ e=>by have:=HC1.out.2.2; omega)).trans' hk3 (fun b hb hm h0=>by
       rcases HK.out.2.2.1 b h0 with h1 | h1
       ·exact hm h1
       ·have:=HWL.out; omega)) (fun b hb=>g31 b (HK.out.2.1 b hb)) (fun b hb=>by
       rcases g32 b hb with h1 | h1
       ·rcases HK.out.2.2.1 b h1 with h2 | h2
        ·exact .inl h2
        ·exact .inr (Nat.le_trans HWL.out h2)
       ·exact .inr (Nat.le_trans HWL.out (Nat.le_trans HK.out.1.size (Nat.le_trans HK2.out.size h1)))) (fun b=>by
       rw[g33,HK.out.2.2.2];exact⟨fun h0=>by
        rcases h0 with (h0 | h0) | h0
        ·exact .inl h0
        ·exact .inr (g31 b h0)
        ·exact .inr h0,fun h0=>by
        rcases h0 with h0 | h0
        ·exact .inl (.inl h0)
        ·exact .inr h0⟩)
      have HRS:Hid (RT.status=4):=by show _=_; rw[HRT.out]
      have HF:Hid (RT.status=4/\SePost W0 f ts q X M w sb RT w3/\w3.cell? (aD sb 18)=some (.int .i64 4)):=⟨HRS.out,hfin.1,by rw[<- HRS.out]; exact hfin.2⟩
      clear hSC hA3 hk3 g31 g32 g33 hfin;go_wp2;go_roundw
      case rel=>exact⟨d+1,by go_num,by omega,.inr HF.out⟩
      case measure=>simp[intOf]; omega
     ·have hPK:=HPK.out wr d (HX.out wr hk) hlt;have hSO:=HSTO.out wr X' M' L' d hA hs hlt hch;have HCH:Hid _:=hch;have HTK:Hid (tick<0∨((d+1:Nat):Int)<=tick):=by show _∨_; omega
      have htd':¬ ((d:Int)=tick):=fun e=>htd e.symm
      clear hA hk g1 g2 g3 hch htk hs htd;go_wp2_with fail;refine hPK.mono ?_;rintro e wz ⟨rfl,hwz⟩;have hwz':=hwz.symm;subst hwz';clear hPK c18;go_wp2_with fail;refine hSO.mono ?_;rintro e w3 ⟨⟨rv,rfl⟩,hp3⟩;have hch3:w3.heap[c]? = some (.chan 0 #[] false 0 0 false):=by
       obtain⟨_,_,_,_,hk3,-⟩:=hp3;rw[hk3.block c (Array.getElem?_eq_some_iff.1 HCH.out).1 hcM'];exact HCH.out
      have HF:Hid ((tick<0∨((d+1:Nat):Int)<=tick)/\SePost W0 f ts q (fun b=>X b∨b=c) M w1 sb (RK (d+1)) w3/\w3.heap[c]? = some (.chan 0 #[] false 0 0 false)):=⟨HTK.out,SePost.trans HK.out.1 HK.out.2.1 HK.out.2.2.1 HK.out.2.2.2 hp3,hch3⟩
      clear hSO hp3 hch3;go_wp2;go_roundw
      case rel=>exact⟨d+1,by go_num,by omega,.inl HF.out⟩
      case measure=>simp[intOf]; omega
    ·have HRT:Hid _:=HTS.out d hs hdn htk;have hs':¬ ((RK d).status=1):=hs;clear hA hk g1 g2 g3 hch htk;generalize RK d=RD at *;go_wp2;go_ret;exact⟨RT,rfl,by rw[HRT.out]; rfl,by rw[HRT.out]; exact HP2.out⟩
   ·have hdn':n=d:=by omega
    have HRT:Hid (RT=RK d):=by show _=_; rw[<- hdn']; exact HTE.out (by omega)
    clear hA hk g1 g2 g3 hch htk hdn';generalize RK d=RD at *;go_wp2;go_ret;exact⟨RT,rfl,by rw[HRT.out]; rfl,by rw[HRT.out]; exact HP2.out⟩
  ·have HF:Hid (RT.status=4/\SePost W0 f ts q X M w sb RT wr):=⟨hs4,hp⟩
   clear hs4 hp;by_cases hlt:d<n
   ·go_wp2;go_ret;exact⟨RT,rfl,by rw[HF.out.1]; rfl,HF.out.2⟩
   ·go_wp2;go_ret;exact⟨RT,rfl,by rw[HF.out.1]; rfl,HF.out.2⟩
open Go.RowKit Go.Scout Go.Shelf
theorem plBest_any (pb sb:Nat) (w:World) (hc:w.cell? (aD pb 9)=some (.pointer (some (aD sb 0)))) {R:Ending->World->Prop} (hC:Calls Tryz.prog 18 #[.pointer (some (aD sb 0))] w R) (hR:∀ e w',R e w'->∃ v1 v2,e=.returned (.tuple #[v1,v2])) :
  Calls Tryz.prog 8 #[.pointer (some (aD pb 0))] w R:=by
 have HR:Hid (∀ e w',R e w'->∃ v1 v2,e=.returned (.tuple #[v1,v2])):=hR;clear hR;go_enter Tryz.func8,Tryz.ntmps8;go_wp2_with fail;refine hC.mono ?_;intro e w2 hr;obtain⟨v1,v2,rfl⟩:=HR.out e w2 hr;have HRR:Hid _:=hr;clear hr hc hC;go_wp2;exact HRR.out
theorem plRun_any (pb sb:Nat) (n k:Int) (ad:Option Addr) (m cp:Nat) (w:World) (hc:w.cell? (aD pb 9)=some (.pointer (some (aD sb 0)))) {R:Ending->World->Prop} (hC:Calls Tryz.prog 17 #[.pointer (some (aD sb 0)),.int .i64 n,.int .i64 k,.slice ad m cp] w R) (hR:∀ e w',R e w'->∃ v,e=.returned (v)) :
  Calls Tryz.prog 7 #[.pointer (some (aD pb 0)),.int .i64 n,.int .i64 k,.slice ad m cp] w R:=by
 have HR:Hid (∀ e w',R e w'->∃ v,e=.returned (v)):=hR;clear hR;go_enter Tryz.func7,Tryz.ntmps7;go_wp2_with fail;refine hC.mono ?_;intro e w2 hr;obtain⟨v,rfl⟩:=HR.out e w2 hr;have HRR:Hid _:=hr;clear hr hc hC;go_wp2;exact HRR.out
theorem plSteps_any (pb sb:Nat) (w:World) (hc:w.cell? (aD pb 9)=some (.pointer (some (aD sb 0)))) {R:Ending->World->Prop} (hC:Calls Tryz.prog 20 #[.pointer (some (aD sb 0))] w R) (hR:∀ e w',R e w'->∃ v,e=.returned (v)) :
  Calls Tryz.prog 10 #[.pointer (some (aD pb 0))] w R:=by
 have HR:Hid (∀ e w',R e w'->∃ v,e=.returned (v)):=hR;clear hR;go_enter Tryz.func10,Tryz.ntmps10;go_wp2_with fail;refine hC.mono ?_;intro e w2 hr;obtain⟨v,rfl⟩:=HR.out e w2 hr;have HRR:Hid _:=hr;clear hr hc hC;go_wp2;exact HRR.out
theorem plStep_any (pb sb:Nat) (n:Int) (w:World) (hc:w.cell? (aD pb 9)=some (.pointer (some (aD sb 0)))) {R:Ending->World->Prop} (hC:Calls Tryz.prog 21 #[.pointer (some (aD sb 0)),.int .i64 n] w R) (hR:∀ e w',R e w'->∃ v,e=.returned (v)) :
  Calls Tryz.prog 11 #[.pointer (some (aD pb 0)),.int .i64 n] w R:=by
 have HR:Hid (∀ e w',R e w'->∃ v,e=.returned (v)):=hR;clear hR;go_enter Tryz.func11,Tryz.ntmps11;go_wp2_with fail;refine hC.mono ?_;intro e w2 hr;obtain⟨v,rfl⟩:=HR.out e w2 hr;have HRR:Hid _:=hr;clear hr hc hC;go_wp2;exact HRR.out
end Go.Proofs.YtlpbelhfpoilpabGreatDoor
namespace Go.Scout
open Go.RowKit
structure SameS (σ τ:SeD):Prop where
 best:σ.best=τ.best
 picks:σ.picks=τ.picks
theorem goT_least {rk:Nat->Int} {ts:List TableD} {q:QueryV} {conc:List Nat} {picks:List Int} {σ:SeD} (n k:Nat) :
  SameS (goT rk ts q conc picks n (k:Int) σ) (goT rk ts q conc picks (if k<n then k else n) (-1) σ)/\(goT rk ts q conc picks n (k:Int) σ).status=(if (goT rk ts q conc picks (if k<n then k else n) (-1) σ).status=1/\k<n then 4 else (goT rk ts q conc picks (if k<n then k else n) (-1) σ).status):=by
 rw[goT_end (n:=if k<n then k else n) (tick:=-1) (by omega)];by_cases h:k<n
 ·rw[if_pos h];by_cases h1:(runN rk ts q conc picks k 0 σ).status=1
  ·rw[goT_tick h h1,if_pos ⟨h1,h⟩];exact⟨⟨rfl,rfl⟩,rfl⟩
  ·rw[goT_stop h1 (by omega) (by omega),if_neg (by simp[h1])];exact⟨⟨rfl,rfl⟩,rfl⟩
 ·rw[if_neg h,goT_end (by omega),if_neg (by simp[h])];exact⟨⟨rfl,rfl⟩,rfl⟩
theorem goT_ended {rk:Nat->Int} {ts:List TableD} {q:QueryV} {conc:List Nat} {picks:List Int} {σ:SeD} (h:σ.status≠1) (n:Nat) (tick:Int) (ht:tick<0):goT rk ts q conc picks n tick σ=σ:=goT_stop (d:=0) (h:=h) (by omega) (by omega)
theorem goT_ok {rk:Nat->Int} {ts:List TableD} {q:QueryV} {conc:List Nat} (hcn:conc.length=q.wh.length) (h5:q.src.xs.length<=5) (picks:List Int) {σ:SeD} (h:SOk q σ) (n:Nat) (tick:Int):SOk q (goT rk ts q conc picks n tick σ)/\(goT rk ts q conc picks n tick σ).picks.length<=σ.picks.length+n:=by
 unfold goT;split
 ·rename_i hc
  obtain⟨h1,h2⟩:=runN_ok (rk:=rk) (ts:=ts) hcn h5 picks h tick.toNat;split
  ·exact⟨⟨⟨h1.core.glen,h1.core.grp,h1.core.task,h1.core.best,h1.core.small⟩,fun e=>absurd (show (4:Int)=1 from e) (by omega),h1.alen⟩,by show (runN rk ts q conc picks tick.toNat 0 σ).picks.length<=_; omega⟩
  ·exact⟨h1,by omega⟩
 ·exact runN_ok hcn h5 picks h n
end Go.Scout
namespace Go.Proofs.YtlpbelhfpoilpabGreatDoor
open Go.RowKit Go.Scout Go.Shelf
structure Duo (ts:List TableD) (w0:World) (a b:PlS) (Ma Mb:Nat->Prop) (σ τ:SeD) (w:World):Prop where
 sa:∃ X L,SeAt a.W a.f ts a.q X Ma w a.sb L σ/\∀ c,Mb c->X c
 sb:∃ X L,SeAt b.W b.f ts b.q X Mb w b.sb L τ/\∀ c,Ma c->X c
 ca:w.cell? (aD a.pb 9)=some (.pointer (some (aD a.sb 0)))
 cb:w.cell? (aD b.pb 9)=some (.pointer (some (aD b.sb 0)))
 na:¬ Ma a.pb/\¬ Mb a.pb
 nb:¬ Ma b.pb/\¬ Mb b.pb
 apart:∀ c,Ma c->¬ Mb c
 la:∀ c,Ma c->w0.heap.size<=c
 lb:∀ c,Mb c->w0.heap.size<=c
 below:Below w0.heap.size w0 w
theorem Duo.swap {ts:List TableD} {w0:World} {a b:PlS} {Ma Mb:Nat->Prop} {σ τ:SeD} {w:World} (h:Duo ts w0 a b Ma Mb σ τ w):Duo ts w0 b a Mb Ma τ σ w:=
 ⟨h.sb,h.sa,h.cb,h.ca,h.nb.symm,h.na.symm,fun c hb ha=>h.apart c ha hb,h.lb,h.la,h.below⟩
theorem Duo.step {ts:List TableD} {w0:World} {a b:PlS} {Ma Mb:Nat->Prop} {σ τ:SeD} {w:World} (h:Duo ts w0 a b Ma Mb σ τ w) {w':World} (hb:Below w.heap.size w w'):Duo ts w0 a b Ma Mb σ τ w':=by
 obtain⟨X,L,s1,s2⟩:=h.sa;obtain⟨Y,K,t1,t2⟩:=h.sb;exact⟨⟨X,L,s1.below hb,s2⟩,⟨Y,K,t1.below hb,t2⟩,cB hb h.ca,cB hb h.cb,h.na,h.nb,h.apart,h.la,h.lb,h.below.trans (hb.mono h.below.size)⟩
theorem Duo.went {ts:List TableD} {w0:World} {a b:PlS} {Ma Mb:Nat->Prop} {σ σ' τ:SeD} {w w':World} (h:Duo ts w0 a b Ma Mb σ τ w) {X:Nat->Prop} (hX:∀ c,Mb c->X c) (hp:SePost a.W a.f ts a.q X Ma w a.sb σ' w'):∃ Ma',Duo ts w0 a b Ma' Mb σ' τ w'/\Kept (fun c=>¬ Ma c) w w'/\∀ c,Ma' c->Ma c∨w.heap.size<=c:=by
 obtain⟨L',X',M',hs,hk,h1,h2,h3⟩:=hp;obtain⟨Y,K,t1,t2⟩:=h.sb;have hMb:∀ c,Mb c->c<w.heap.size:=fun c hc=>(t1.lt (t1.sub c hc)).2
 have hW:b.W.heap.size<=w.heap.size:=t1.hz.below.size;have ht:SeAt b.W b.f ts b.q (fun c=>Y c∨(M' c/\w.heap.size<=c)) Mb w' b.sb K τ:=t1.other (N:=Ma) (N':=fun c=>M' c/\w.heap.size<=c) t2 (fun c hc ha=>h.apart c ha hc) hk (fun c hc=>.inr hc.2) (fun c=>Iff.rfl) (fun c hc=>(hs.lt (hs.sub c hc.1)).2) (fun c hc=>Nat.le_trans hW hc.2);have hpa:a.pb<w.heap.size:=cell_lt h.ca;have hpb:b.pb<w.heap.size:=cell_lt h.cb;refine⟨M',⟨⟨X',L',hs,fun c hc=>(h3 c).2 (.inl (hX c hc))⟩,⟨_,K,ht,fun c hc=>?_⟩,?_,?_,⟨fun hc=>?_,h.na.2⟩,⟨fun hc=>?_,h.nb.2⟩,fun c hc hb=>?_,fun c hc=>?_,h.lb,?_⟩,hk,h2⟩
 ·rcases h2 c hc with h0 | h0
  ·exact .inl (t2 c h0)
  ·exact .inr ⟨hc,h0⟩
 ·exact cell_keepP hk h.ca h.na.1
 ·exact cell_keepP hk h.cb h.nb.1
 ·rcases h2 _ hc with h0 | h0
  ·exact h.na.1 h0
  ·omega
 ·rcases h2 _ hc with h0 | h0
  ·exact h.nb.1 h0
  ·omega
 ·rcases h2 _ hc with h0 | h0
  ·exact h.apart c h0 hb
  ·have:=hMb c hb; omega
 ·rcases h2 _ hc with h0 | h0
  ·exact h.la c h0
  ·exact Nat.le_trans h.below.size h0
 ·exact h.below.trans (hk.below h.below.size fun c hc h0=>by have:=h.la c h0; omega)
theorem Duo.make {ts:List TableD} {q:QueryV} {room:Nat} {w0 w1 w2:World} {a b:PlS} {Ma Mb:Nat->Prop} (ha:Began ts (fun _=>False) q room w0 a Ma w1) (hb:Began ts (fun c=>c=a.pb∨Ma c) q room w1 b Mb w2):Duo ts w0 a b Ma Mb (beginN rkN ts a.q room) (beginN rkN ts b.q room) w2:=by
 obtain⟨L,s⟩:=ha.se;obtain⟨K,t⟩:=hb.se;have hl1:∀ c,Ma c->c<w1.heap.size:=fun c hc=>(s.lt (s.sub c hc)).2
 have hl2:∀ c,Mb c->c<w2.heap.size:=fun c hc=>(t.lt (t.sub c hc)).2
 have hW:a.W.heap.size<=w1.heap.size:=s.hz.below.size;have hs:=s.other (N:=fun _=>False) (N':=Mb) (X':=fun c=>((False∨c=a.pb)∨Ma c)∨Mb c) (w':=w2) (fun c h=>h.elim) (fun c _ h=>h) (Kept.of_below hb.below (fun _ h _=>h)) (fun c h=>.inr (hb.new c h)) (fun c=>Iff.rfl) hl2 (fun c h=>Nat.le_trans hW (hb.new c h));have hpa:a.pb<w1.heap.size:=cell_lt ha.cell;refine⟨⟨_,L,hs,fun c hc=>.inr hc⟩,⟨_,K,t,fun c hc=>.inl (.inl (.inr hc))⟩,cB hb.below ha.cell,hb.cell,⟨ha.npb,fun h=>?_⟩,⟨fun h=>?_,hb.npb⟩,fun c h1 h2=>?_,ha.new,fun c hc=>Nat.le_trans ha.below.size (hb.new c hc),ha.below.trans (hb.below.mono ha.below.size)⟩
 ·have:=hb.new _ h;omega
 ·have:=hl1 _ h;have:=hb.pb;omega
 ·have:=hl1 c h1;have:=hb.new c h2;omega
theorem Duo.run {ts:List TableD} {w0:World} {a b:PlS} {Ma Mb:Nat->Prop} {σ τ:SeD} {w:World} (E:Env a.f ts a.q a.W) (h:Duo ts w0 a b Ma Mb σ τ w) (hok:SOk a.q σ) (n:Nat) (hpl:σ.picks.length+n<=900) (tick:Int) (po:Option Addr) (pc:Nat) (ps:List Int) (hp:IntsAt w0 po ps) (hpb:∀ c,po=some c->c.block<w0.heap.size) :
  Calls Tryz.prog 7 #[.pointer (some (aD a.pb 0)),.int .i64 (n:Int),.int .i64 tick,.slice po ps.length pc] w fun e w'=>∃ Ma' σ',σ' = goT rkN ts a.q (concL ts a.q) ps n tick σ/\e=.returned (.int .i64 σ'.status)/\Duo ts w0 a b Ma' Mb σ' τ w'/\Kept (fun c=>¬ Ma c) w w'/\∀ c,Ma' c->Ma c∨w.heap.size<=c:=by
 obtain⟨X,L,s,hX⟩:=h.sa;have hr:=run_any E s hok n hpl tick ⟨po,pc,ps⟩ (IntsAt.below h.below hp) (fun c ec hm=>by
  have h1:=hpb c ec;have h2:=h.la _ hm;omega)
 refine (plRun_any a.pb a.sb n tick po ps.length pc w h.ca hr (fun e w' hr=>by
  obtain⟨σ',_,e1,_⟩:=hr;exact⟨_,e1⟩)).mono ?_
 rintro e w' ⟨σ',h1,rfl,h3⟩;obtain⟨Ma',hd,hk,hm⟩:=h.went hX h3;exact⟨Ma',σ',h1,rfl,hd,hk,hm⟩
theorem Duo.one {ts:List TableD} {w0:World} {a b:PlS} {Ma Mb:Nat->Prop} {σ τ:SeD} {w:World} (E:Env a.f ts a.q a.W) (h:Duo ts w0 a b Ma Mb σ τ w) (hok:SOk a.q σ) (hpl:σ.picks.length<=900) (pick:Int) :
  Calls Tryz.prog 11 #[.pointer (some (aD a.pb 0)),.int .i64 pick] w fun e w'=>∃ Ma' σ',σ' = (if σ.status=1 then stepN rkN ts a.q (concL ts a.q) pick σ else σ)/\e=.returned (.int .i64 σ'.status)/\Duo ts w0 a b Ma' Mb σ' τ w'/\Kept (fun c=>¬ Ma c) w w'/\∀ c,Ma' c->Ma c∨w.heap.size<=c:=by
 obtain⟨X,L,s,hX⟩:=h.sa;refine (plStep_any a.pb a.sb pick w h.ca (step1_any E s hok hpl pick) (fun e w' hr=>by
  obtain⟨σ',_,e1,_⟩:=hr;exact⟨_,e1⟩)).mono ?_
 rintro e w' ⟨σ',h1,rfl,h3⟩;obtain⟨Ma',hd,hk,hm⟩:=h.went hX h3;exact⟨Ma',σ',h1,rfl,hd,hk,hm⟩
theorem Duo.best {ts:List TableD} {w0:World} {a b:PlS} {Ma Mb:Nat->Prop} {σ τ:SeD} {w:World} (E:Env a.f ts a.q a.W) (h:Duo ts w0 a b Ma Mb σ τ w) (hok:SOk a.q σ) :
  Calls Tryz.prog 8 #[.pointer (some (aD a.pb 0))] w fun e w'=>∃ ao cap nv,e=.returned (.tuple #[.slice ao nv.length cap,.int .u64 (σ.best.d.cost:Int)])/\nv.map pureN=σ.best.ns/\NodesK 61 (fun c=>w.heap.size<=c) w.heap.size w' (.slice ao nv.length cap) nv/\nv.length<=1000/\Below w.heap.size w w':=by
 obtain⟨X,L,s,hX⟩:=h.sa;refine (plBest_any a.pb a.sb w h.ca (bestS_any E s hok.core.best hok.core.small (F:=fun c=>w.heap.size<=c) (fun _ h=>h)) (fun e w' hr=>by
  obtain⟨v,nv,e1,_⟩:=hr;exact⟨_,_,e1⟩)).mono ?_
 rintro e w' ⟨v,nv,rfl,h1,h2,h3⟩;have hl:nv.length<=1000:=by
  have e1:=congrArg List.length h1;rw[List.length_map] at e1;have:=hok.core.small;omega
 obtain⟨ao,cap,rfl,_⟩:=h2.plan hl;exact⟨ao,cap,nv,rfl,h1,h2,hl,h3⟩
theorem Duo.steps {ts:List TableD} {w0:World} {a b:PlS} {Ma Mb:Nat->Prop} {σ τ:SeD} {w:World} (h:Duo ts w0 a b Ma Mb σ τ w) :
  Calls Tryz.prog 10 #[.pointer (some (aD a.pb 0))] w fun e w'=>e=.returned (.int .i64 (σ.picks.length:Int))/\w' = w:=by
 obtain⟨X,L,s,hX⟩:=h.sa;obtain⟨v0,v1,v2,v3,v4,v5,v6,v7,v8,v9,v10,v11,v12,hFC,-⟩:=factsCells a.f ts a.q;have hpv:∃ ao cap,L.pv=.slice ao σ.picks.length cap:=by
  rcases s.pk.2 with⟨e,h0⟩ | ⟨g,cap,cur,e,_⟩
  ·exact⟨none,0,by rw[e,h0]⟩
  ·exact⟨_,_,e⟩
 obtain⟨ao,cap,hpv⟩:=hpv;have hgb:=s.cells hFC;have c17:w.cell? (aD a.sb 17)=some L.pv:=hgb.cell 17;rw[hpv] at c17;exact plSteps_any a.pb a.sb w h.ca (stepsS_any a.sb ao σ.picks.length cap w c17) (fun e w' hr=>⟨_,hr.1⟩)
end Go.Proofs.YtlpbelhfpoilpabGreatDoor
