import Derived.Test.YtbcgekghfgcakaaGreatDoorF24
import Derived.Test.YtbcgekghfgcakaaGreatDoorF32
set_option linter.all false
set_option maxRecDepth 100000
set_option maxHeartbeats 16000000
namespace Go.Proofs.Zz
open Go.RowKit Go.Shelf
def Bg (F:Nat->Prop) (w:World) (t:aW) (e:Ending) (w':World):Prop:=∃ v nv,e=.returned (.tuple #[v,.int .u64 (t.d.cost:Int)])/\nv.map fK=t.ns/\eZ 71 F w.heap.size w' v nv/\Below w.heap.size w w'
theorem SH {W0:World} {f:aB} {ts:List af} {q:ae} (E:Env f ts q W0) {X M:Nat->Prop} {w:World} {sb:Nat} {L:qj} {σ:fe} (h:dn W0 f ts q X M w sb L σ) (hok:iC q σ.bM) (hl:σ.bM.ns.length<=800) {F:Nat->Prop} (hF:∀ b,w.heap.size<=b->F b) :
  Calls Tryz.prog 26 #[.pointer (some (aD sb 0))] w (Bg F w σ.bM):=by
 obtain⟨v0,v1,v2,v3,v4,v5,v6,v7,v8,v9,v10,v11,v12,dw,-⟩:=Z8 f ts q;have c16:w.cell? (aD sb 16)=some (.pointer (some (aD L.bM 0))):=by
  have:=h.blk;rw[dw] at this;exact this.cell 16
 obtain⟨p,hP,yU⟩:=h.bM.jP;have ec:p.cost=σ.bM.d.cost:=congrArg iG.cost yU;have c5:w.cell? (aD L.bM 5)=some (.int .u64 (σ.bM.d.cost:Int)):=by rw[<- ec]; exact hP.c5
 have hsh:cZ w 0:=fun j u hj=>h.hz.below.cell _ _ _ (E.shapes j u hj)
 have HN:Hid (∀ x,x=w.drew->Calls Tryz.prog 52 #[.pointer (some (aD L.bM 0))] x (gW 71 F x σ.bM.ns)):=fun x hx=>by
  rw[hx];exact SG (h.bM.below ((Qp _ _).drew)) (Z9 ((Qp _ _).drew) hsh) hok (by omega) hF
 have hN:=HN.out w.drew rfl;generalize L.bM=bp at *;generalize σ.bM=B at *;clear h hok hl dw hP yU ec hsh HN E p;obtain⟨B1,B2⟩:=B;simp only at *;obtain⟨cost,WL⟩:∃ n,n=B1.cost:=⟨_,rfl⟩
 have HR:Hid (∀ v nv w',nv.map fK=B2->eZ 71 F w.heap.size w' v nv->Below w.heap.size w w'->Bg F w ⟨B1,B2⟩ (.returned (.tuple #[v,.int .u64 (cost:Int)])) w'):=fun v nv w' h1 h2 h3=>⟨v,nv,by rw[WL],h1,h2,h3⟩
 rw[<- WL] at c5;clear WL;generalize Bg F w ⟨B1,B2⟩=BP at *;go_enter Tryz.func26,Tryz.ntmps26;go_wp2_with fail;refine wH w fun hS=>?_
 refine wt 0 (.pointer (some (aD sb 0))) hS ?_;refine wt 1 (.pointer (some (aD sb 0))) hS ?_;refine wt 2 (.pointer (some (aD sb 16))) hS ?_;refine iB 3 (.pointer (some (aD bp 0))) hS c16 ?_;refine wt 5 (.pointer (some (aD sb 0))) hS ?_;refine wt 6 (.pointer (some (aD sb 0))) hS ?_;refine wt 7 (.pointer (some (aD sb 16))) hS ?_;refine iB 8 (.pointer (some (aD bp 0))) hS c16 ?_;refine wt 9 (.pointer (some (aD bp 0))) hS ?_;refine wt 10 (.pointer (some (aD bp 0))) hS ?_;refine wt 11 (.pointer (some (aD bp 5))) hS ?_;refine iB 12 (.int .u64 (cost:Int)) hS c5 ?_;refine wR 4 fun K hK=>?_
 go_simp;refine Z7 hN ?_;rintro e w2 ⟨v,nv,rfl,hnv,hnk,hb2⟩;obtain⟨na,nm,nc,rfl⟩:=ZA hnk.own;refine hK.out _ _ ((Qp w.heap.size w).drew.trans hb2) (fun hS=>?_);clear hK K;refine wR 13 fun K hK=>?_
 go_simp;refine hK.out _ _ hS fun hS=>?_
 clear hK K;refine wR 14 fun K hK=>?_
 go_simp;refine hK.out _ _ hS fun hS=>?_
 clear hK K;refine wD ?_
 try simp only[pV]
 try simp only[pV]
 have HF:=Zh (HR.out _ nv w2 hnv hnk hS);clear hS hnk hN c16 c5;go_wp2;exact HF.out
section
open Go.Conc
theorem Tq {P:Program} {b:Frame} {a:Act} {k:List Go.Item} {cs:List Frame} {w w':World} {ops:Array Oper} {i:Nat} {rest:List Nat} {o:Oper} {cases:Array CommCase} {blocking:Bool} {shape:CommShape} (ho:ops[i]? = some o) (hw:Region.wanted o (yielded ops a.tmps)=true) (hr:(execOp a.eval o).run P w=.ok (.comm cases blocking shape) w') :
  ∃ es,Go.stepG P true (Go.Conc.G (b.at a (.inRegion ops (i::rest)::k)) cs) w=.comm (Go.Conc.G (b.at a (.inRegion ops (i::rest)::k)) cs) cases blocking shape w' es:=by
 by_cases hk:b.kind=.early
 ·have hk':(b.kind==CallKind.early)=true:=by simpa using hk
  rw[stepG_oper ho hw];simp[Go.stepG.apply,hr,Go.Conc.G,Frame.at,hk',GStep.after]
 ·exact⟨_,stepG_comm ho hw hk hr⟩
theorem DJ {P:Program} {id:Nat} {ops:Array Oper} {Q:Exit->Act->World->Prop} {a:Act} {w:World} {o:Oper} {rest:List Nat} {c:CommCase} {v:Value} (hrg:List.range ops.size=0::rest) (ho:ops[0]? = some o) (hw:Region.wanted o (yielded ops a.tmps)=true) (hr:(execOp a.eval o).run P w=.ok (.comm #[c] false .select) w)
  (hs:∀ (fr:Frame) (cs:List Frame) (es:Array Event),Go.stepG P true (Go.Conc.G fr cs) w=.comm (Go.Conc.G fr cs) #[c] false .select w es->Go.step P (solo (Go.Conc.G fr cs) w)=.next (solo (Go.Conc.G (fr.finish v) cs) w)) (h:wpOps P ops Q rest (a.put o.dst v) w):(Code.region id ops false).wp P Q a w:=by
 intro b k cs;obtain⟨e,a',w',hq,harr⟩:=wp_ops rest _ _ h b k cs;obtain⟨es,hes⟩:=Tq (P:=P) (b:=b) (k:=k) (cs:=cs) (rest:=rest) ho hw hr;have h1:Go.step P (lone (b.at a (.inRegion ops (0::rest)::k)) cs w)=.next (lone (b.at (a.put o.dst v) (.inRegion ops rest::k)) cs w):=by
  have h2:=hs _ _ _ hes;rw[Frame.finish_at,ho] at h2;exact h2
 refine⟨e,a',w',hq,.of_steps (.head ?_ (.one h1)) harr⟩;have:=step_region (P:=P) (b:=b) (a:=a) (k:=k) (cs:=cs) (w:=w) (ops:=ops) (id:=id);rw[hrg] at this;exact this
theorem mZ {P:Program} {ops:Array Oper} {Q:Exit->Act->World->Prop} {a:Act} {w:World} {i:Nat} {rest:List Nat} {o:Oper} {v:Value} (ho:ops[i]? = some o) (hw:Region.wanted o (yielded ops a.tmps)=true) (hr:(execOp a.eval o).run P w=.ok (.value v) w) (h:wpOps P ops Q rest (a.put o.dst v) w):wpOps P ops Q (i::rest) a w:=by
 simp only[wpOps,ho,hw,if_true];left;unfold Oper.wp;rw[hr];exact h
theorem Tt {W0:World} {f:aB} {ts:List af} {q:ae} {X M:Nat->Prop} {w:World} {sb:Nat} {L:qj} {σ:fe} (h:dn W0 f ts q X M w sb L σ) (c:Nat) (pick:Int) (s r:Nat) (tm:Bool) (hc:w.heap[c]? = some (.chan 0 #[] true s r tm)) :
  Calls Tryz.prog 40 #[.pointer (some (aD sb 0)),.chan (some c),.int .i64 pick] w fun e w'=>(∃ v,e=.returned v)/\bQ W0 f ts q X M w sb { σ with status:=4 } w':=by
 obtain⟨v0,v1,v2,v3,v4,v5,v6,v7,v8,v9,v10,v11,v12,dw,-⟩:=Z8 f ts q;have hgb:=h.cells dw;have c18:=hgb.at 18;have f18:=hgb.frozen 18;have HC:=Zh hc;have HF:Hid (bQ W0 f ts q X M w sb { σ with status:=4 } (w.setCell (aD sb 18) (.int .i64 4))):=by
  have hne:=h.ne;have hk:Kept (fun b=>b≠sb) w (w.setCell (aD sb 18) (.int .i64 4)):=Zv _ _ _ (fun h=>h rfl);refine⟨_,h.next (hk.mono fun b _ hb=>hb.1) (av:=L.av) (pv:=L.pv) (ag:=σ.ak) (pk:=σ.picks) (st:=4) ?_ (Zx h.ag hk (fun g e hg=>hne.1 (hg ▸ e))) (.inl rfl) (Zx h.pk hk (fun g e hg=>hne.2.1 (hg ▸ e))) (.inl rfl)⟩;rw[dw];exact hgb.set 18 (.int .i64 4)
 clear hc h hgb dw;go_enter Tryz.func40,Tryz.ntmps40;go_upto_region 1 with fail;refine DJ (rest:=[1,2]) (c:=rcase c (.agg #[])) (v:=.tuple #[goInt (0),.bool false,.agg #[]]) (by kernel_rfl) rfl (by kernel_rfl) (by simp[go_sem,execOp,rcase,rcaseNil,Act.eval]) (fun fr cs es hes=>step_lone_select_recv_shut hes HC.out) ?_;refine mZ (v:=.int .i64 (0)) rfl (by kernel_rfl) (by simp[go_sem,execOp,Act.eval,Act.put,goInt]) ?_;refine mZ (v:=.bool true) rfl (by kernel_rfl) (by simp[go_sem,execOp,Act.eval,Act.put,goInt]) ?_
 show Exit.then _ _ Exit.normal _ _
 simp only[Act.put,XM,XN,XO,QK,Qb,Qc];go_wp2;go_end0;exact⟨⟨_,rfl⟩,HF.out⟩
end
section
open Go.Conc
theorem aks (f:aB) (ts:List af) (q:ae) (L:qj) (σ:fe) (pv:Value):(f.cells ts q++kM L σ).setIfInBounds 17 pv=f.cells ts q++kM { L with pv:=pv } σ:=by
 obtain⟨v0,v1,v2,v3,v4,v5,v6,v7,v8,v9,v10,v11,v12,dw,-⟩:=Z8 f ts q;rw[dw];rfl
theorem DK (W:World) (base:Nat) (v:Value) (xs:List Int) (hown:W.ownsRow base 3 1 v xs.length (xs.map (Value.int .i64))) (hl:xs.length<=1000) (hb:base<=W.heap.size) (a:Int) (ty:TypeId) :
  ∃ v' w',(Builtin.append_ #[22,22] ty #[v,.slice (some (aD W.heap.size 0)) 1 1]).run Tryz.prog (W.alloc (.cells #[.int .i64 a] 3))=.ok v' w'/\
   w'.ownsRow base 3 1 v' (xs++[a]).length ((xs++[a]).map (Value.int .i64))/\Kept (fun b=>v.ownBlock≠some b) W w'/\(∃ a m c,v' = .slice a m c)/\(v'.ownBlock=v.ownBlock∨v'.ownBlock=some (W.heap.size+1)):=by
 obtain⟨i0,hi,hz0,hz1,hz2⟩:=ZC Tryz.iZ;obtain⟨v',w',hr,ho,hk,hs,hat⟩:=ZV (P:=Tryz.prog) W base 22 ty 3 i0 _ 1 8 Tryz.underlying22 hi hz0 hz1 hz2 rfl (by decide) v xs.length _ hown hb [.int .i64 a] rfl (fun u hu=>by
  rw[QY] at hu;rw[hu];rfl) hl (by decide)
 exact⟨v',w',hr,by rw[QT,Ql]; exact ho,hk,hs,hat⟩
theorem dn.picked {W0:World} {f:aB} {ts:List af} {q:ae} {X M:Nat->Prop} {w w1:World} {sb:Nat} {L:qj} {σ:fe} (h:dn W0 f ts q X M w sb L σ) {pv:Value} {p:Int} (ho:w1.ownsRow W0.heap.size 3 1 pv (σ.picks++[p]).length ((σ.picks++[p]).map (Value.int .i64))) (hk:Kept (fun b=>L.pv.ownBlock≠some b) w w1) (hat:pv.ownBlock=L.pv.ownBlock∨pv.ownBlock=some (w.heap.size+1)) :
  fC W0 f ts q X M w sb { L with pv:=pv } { σ with picks:=σ.picks++[p] } (w1.setCell (aD sb 17) pv):=by
 have hne:=h.ne;have hg1:=h.blk.keep hk hne.2.1;have hk2:Kept (fun b=>b≠sb) w1 (w1.setCell (aD sb 17) pv):=Zv _ _ _ (fun h=>h rfl);refine h.next ((hk.mono fun b _ hb=>hb.2.2).trans (hk2.mono fun b _ hb=>hb.1)) (av:=L.av) (pv:=pv) (ag:=σ.ak) (pk:=σ.picks++[p]) (st:=σ.status) ?_ ?_ (.inl rfl) ?_ ?_
 ·have:=hg1.set 17 pv;rw[aks] at this;exact this
 ·exact Zx (Zx h.ag hk (fun g e=>hne.2.2.1 g e)) hk2 (fun g e hg=>hne.1 (hg ▸ e))
 ·exact Zx ho hk2 (fun g e hg=>XR ho hg1 (by decide) (hg ▸ e))
 ·rcases hat with h1 | h1
  ·exact .inl h1
  ·exact .inr ⟨_,h1,by omega⟩
theorem dn.taken {W0:World} {f:aB} {ts:List af} {q:ae} {X M:Nat->Prop} {w w1:World} {sb:Nat} {L:qj} {σ:fe} (h:dn W0 f ts q X M w sb L σ) {av:Value} {ag:List bg} (hg:GB w1 sb 102 ((f.cells ts q++kM L σ).setIfInBounds 14 av)) (ho:w1.ownsRow W0.heap.size 143 2 av ag.length (ag.flatMap dA)) (hk:Kept (fun b=>b≠sb/\L.av.ownBlock≠some b) w w1) (hat:av.ownBlock=L.av.ownBlock) :
  fC W0 f ts q X M w sb { L with av:=av } { σ with ak:=ag } w1:=by
 have hne:=h.ne;refine h.next (hk.mono fun b _ hb=>⟨hb.1,hb.2.1⟩) (av:=av) (pv:=L.pv) (ag:=ag) (pk:=σ.picks) (st:=σ.status) ?_ ho (.inl hat) ?_ (.inl rfl)
 ·rw[WQ] at hg;exact hg
 ·exact Zx h.pk hk (fun g e=>⟨fun e'=>hne.2.1 (e' ▸ e),fun e'=>hne.2.2.1 g e' e⟩)
theorem dn.settled {W0:World} {f:aB} {ts:List af} {q:ae} {X M:Nat->Prop} {w:World} {sb:Nat} {L:qj} {σ:fe} (h:dn W0 f ts q X M w sb L σ) (hal:σ.ak.length<=1000000):Calls Tryz.prog 78 #[.pointer (some (aD sb 0))] w fun e w'=>(∃ v,e=.returned v)/\bQ W0 f ts q X M w sb (lG σ) w':=by
 obtain⟨v0,v1,v2,v3,v4,v5,v6,v7,v8,v9,v10,v11,v12,dw,-⟩:=Z8 f ts q;have hgb:=h.cells dw;obtain⟨aa,ac,OB,-⟩:=rX h.ag hal;have abM:=hgb;rw[OB] at abM;have hne:=h.ne;refine (MR sb v0 v1 v2 v3 v4 v5 v6 v7 v8 v9 v10 v11 v12 _ _ _ aa σ.ak.length ac σ.cut σ.status w abM).mono ?_;rintro e w' ⟨hv,hk,hg⟩;refine⟨hv,?_⟩;have hs:lG σ = { σ with ak:=σ.ak,picks:=σ.picks,status:=if 0<σ.ak.length then σ.status else if σ.cut=true then 3 else 2 }:=by
  unfold lG;split <;> rfl
 rw[hs];refine⟨_,h.next (hk.mono fun b _ hb=>hb.1) (av:=L.av) (pv:=L.pv) (ag:=σ.ak) (pk:=σ.picks) (st:=if 0<σ.ak.length then σ.status else if σ.cut=true then 3 else 2) ?_ (Zx h.ag hk (fun g e hg=>hne.1 (hg ▸ e))) (.inl rfl) (Zx h.pk hk (fun g e hg=>hne.2.1 (hg ▸ e))) (.inl rfl)⟩;rw[dw];rw[<- OB] at hg;exact hg
theorem Tu {W0:World} {f:aB} {ts:List af} {q:ae} (E:Env f ts q W0) {X M:Nat->Prop} {w:World} {sb:Nat} {L:qj} {σ:fe} (h:dn W0 f ts q X M w sb L σ) (hok:E5 q σ) (h1:σ.status=1) (hpl:σ.picks.length<=900) (c s r:Nat) (tm:Bool) (hc:w.heap[c]? = some (.chan 0 #[] false s r tm)) (pick:Int) :
  Calls Tryz.prog 40 #[.pointer (some (aD sb 0)),.chan (some c),.int .i64 pick] w fun e w'=>(∃ v,e=.returned v)/\bQ W0 f ts q X M w sb (fP aV ts q (aA ts q) pick σ) w':=by
 obtain⟨v0,v1,v2,v3,v4,v5,v6,v7,v8,v9,v10,v11,v12,dw,-⟩:=Z8 f ts q;have hgb:=h.cells dw;have hn:=hok.stat h1;have hal:=hok.aaU;have apY:σ.ak.length<=60000:=by omega
 obtain⟨aa,ac,OB,-⟩:=rX h.ag (by omega);obtain⟨pa,pm,pc,hpv⟩:=ZA h.pk;have hp:=Dr hn pick;obtain⟨P,hP⟩:∃ P,P=ek σ.ak.length pick:=⟨_,rfl⟩
 obtain⟨pi,hpi⟩:∃ pi:Nat,P=(pi:Int):=⟨P.toNat,by rw[hP]; omega⟩
 have Ye:pi<σ.ak.length:=by rw[<- hP,hpi] at hp; omega
 have Sy:=Nz aa σ.ak.length ac pick w hn (by omega);rw[<- hP,hpi] at Sy;obtain⟨v',w1,hr1,ho1,hk1,⟨za,zm,zc,rfl⟩,akt⟩:=DK w W0.heap.size L.pv σ.picks h.pk (by omega) h.hz.below.size P 22;rw[hpv,hpi] at hr1;obtain⟨X2,M2,hA2,hk2,g21,g22,g23⟩:=h.picked ho1 hk1 akt;have HA2:=Zh hA2;have HP2:Hid (Kept (fun b=>¬ M b) w (w1.setCell (aD sb 17) (.slice za zm zc))/\(∀ b,M b->M2 b)/\(∀ b,M2 b->M b∨w.heap.size<=b)/\(∀ b,X2 b↔X b∨M2 b)):=⟨hk2,g21,g22,g23⟩
 have hg1:=h.blk.keep hk1 h.ne.2.1;rw[dw] at hg1;have d17:w1.cell? (aD sb 17)=some L.pv:=hg1.cell 17;rw[hpv] at d17;have f17:=hg1.frozen 17;have c14:w.cell? (aD sb 14)=some L.av:=hgb.cell 14;rw[OB] at c14;have c17:w.cell? (aD sb 17)=some L.pv:=hgb.cell 17;rw[hpv] at c17;have yl:Hid (∀ x,x=w1.setCell (aD sb 17) (.slice za zm zc)->Calls Tryz.prog 77 #[.pointer (some (aD sb 14)),.int .i64 (pi:Int)] x fun e w'=>e=.returned (.agg #[.int .u64 ((σ.ak.getD pi (0,0)).1:Int),.int .u64 ((σ.ak.getD pi (0,0)).2:Int)])/\∃ L3,fC W0 f ts q X M w sb L3 { σ with picks:=σ.picks++[P],ak:=σ.ak.eraseIdx pi } w'):=fun x hx=>by
  rw[hx];refine (SA sb W0.heap.size pi _ L.av σ.ak _ hA2.blk (ade f ts q _ _) hA2.ag (by omega) Ye).mono ?_;rintro e w' ⟨rfl,av',hg',ho',hk',hat'⟩;exact⟨rfl,_,fC.trans hk2 g21 g22 g23 (hA2.taken hg' ho' hk' hat')⟩
 have hcore:=hok.core.erase pi (σ.picks++[P]);have Yf:kT q.src.xs.length σ.groups (σ.ak.getD pi (0,0)):=hok.core.task _ (ZM Ye);have hdo:=Vw (rk:=aV) (ts:=ts) (conc:=aA ts q) (ZQ ts q) (t:=σ.ak.getD pi (0,0)) hcore E.five Yf;have HDO:Hid (∀ x X3 M3 L3,dn W0 f ts q X3 M3 x sb L3 { σ with picks:=σ.picks++[P],ak:=σ.ak.eraseIdx pi }->Calls Tryz.prog 76 #[.pointer (some (aD sb 0)),.agg #[.int .u64 ((σ.ak.getD pi (0,0)).1:Int),.int .u64 ((σ.ak.getD pi (0,0)).2:Int)]] x fun e w'=>(∃ v,e=.returned v)/\bQ W0 f ts q X3 M3 x sb (sW aV ts q (aA ts q) (σ.ak.getD pi (0,0)) { σ with picks:=σ.picks++[P],ak:=σ.ak.eraseIdx pi }) w'):=fun x X3 M3 L3 hx=>
  agk E hx hcore (by show (σ.ak.eraseIdx pi).length<=900000; rw[List.length_eraseIdx_of_lt Ye]; omega) _ Yf
 have hdl:(sW aV ts q (aA ts q) (σ.ak.getD pi (0,0)) { σ with picks:=σ.picks++[P],ak:=σ.ak.eraseIdx pi }).ak.length<=1000000:=by
  have h2:=hdo.2.1;have h3:=List.length_eraseIdx_of_lt Ye;simp only at h2;omega
 have HR:Hid (fP aV ts q (aA ts q) pick σ=lG (sW aV ts q (aA ts q) (σ.ak.getD pi (0,0)) { σ with picks:=σ.picks++[P],ak:=σ.ak.eraseIdx pi })):=by
  show _=_
  unfold fP;simp only;rw[<- hP,hpi];rfl
 generalize fP aV ts q (aA ts q) pick σ=SN at *;generalize sW aV ts q (aA ts q) (σ.ak.getD pi (0,0)) { σ with picks:=σ.picks++[P],ak:=σ.ak.eraseIdx pi } = DN at *;have HDL:=Zh hdl;generalize (σ.ak.getD pi (0,0)).1=tl at *;generalize (σ.ak.getD pi (0,0)).2=tr at *;generalize σ.ak.length=an at *;have HC:=Zh hc;clear hc;clear h hok h1 hpl dw hgb hn hal apY OB hpv hp hP hpi Ye ho1 hk1 akt hA2 hk2 g21 g22 g23 hg1 hcore Yf hdo hdl E;go_enter Tryz.func40,Tryz.ntmps40;go_upto_region 1 with fail;refine DJ (rest:=[1,2]) (c:=rcase c (.agg #[])) (v:=.tuple #[goInt (-1),.bool false,.agg #[]]) (by kernel_rfl) rfl (by kernel_rfl) (by simp[go_sem,execOp,rcase,rcaseNil,Act.eval]) (fun fr cs es hes=>step_lone_select_default hes HC.out) ?_;refine mZ (v:=.int .i64 (-1)) rfl (by kernel_rfl) (by simp[go_sem,execOp,Act.eval,Act.put,goInt]) ?_;refine mZ (v:=.bool false) rfl (by kernel_rfl) (by simp[go_sem,execOp,Act.eval,Act.put,goInt]) ?_
 show Exit.then _ _ Exit.normal _ _
 simp only[Act.put,XM,XN,XO,QK,Qb,Qc];go_wp2_with fail;refine Sy.mono ?_;rintro e wz ⟨rfl,hwz⟩;have nI:=hwz.symm;subst nI;clear Sy;go_wp2_with (first | (at_builtin; refine ZN rfl (.tmp 21) (.tmp 23) 22 rfl (.slice pa pm pc) (.slice (some (aD w.heap.size 0)) 1 1) (.slice za zm zc) w1 rfl rfl hr1 ?_));clear hr1 c14 c17;go_upto_region 4 with fail;obtain⟨w2,hw2⟩:∃ x,x=w1.setCell (aD sb 17) (.slice za zm zc):=⟨_,rfl⟩
 rw[<- hw2];have hTK:=yl.out w2 hw2;clear hw2 d17 f17;go_wp2_with fail;refine hTK.mono ?_;rintro e w3 ⟨rfl,L3,X3,M3,hA3,hk3,g31,g32,g33⟩;have hDO:=HDO.out w3 X3 M3 L3 hA3;have pK:Hid (Kept (fun b=>¬ M b) w w3/\(∀ b,M b->M3 b)/\(∀ b,M3 b->M b∨w.heap.size<=b)/\(∀ b,X3 b↔X b∨M3 b)):=⟨hk3,g31,g32,g33⟩
 clear hTK hA3 hk3 g31 g32 g33;go_wp2_with fail;refine hDO.mono ?_;rintro e w4 ⟨⟨rv,rfl⟩,hp4⟩;obtain⟨L4,X4,M4,hA4,hk4,g41,g42,g43⟩:=bQ.trans pK.out.1 pK.out.2.1 pK.out.2.2.1 pK.out.2.2.2 hp4;have hST:=hA4.settled HDL.out;have JF:Hid (Kept (fun b=>¬ M b) w w4/\(∀ b,M b->M4 b)/\(∀ b,M4 b->M b∨w.heap.size<=b)/\(∀ b,X4 b↔X b∨M4 b)):=⟨hk4,g41,g42,g43⟩
 clear hDO hp4 hA4 hk4 g41 g42 g43;go_wp2_with fail;refine hST.mono ?_;rintro e w5 ⟨⟨rv2,rfl⟩,hp5⟩;have HF:Hid (bQ W0 f ts q X M w sb SN w5):=by
  rw[HR.out];exact bQ.trans JF.out.1 JF.out.2.1 JF.out.2.2.1 JF.out.2.2.2 hp5
 clear hST hp5;go_wp2;go_end0;exact⟨⟨_,rfl⟩,HF.out⟩
end
section
open Go.Conc
theorem dn.akw {W0:World} {f:aB} {ts:List af} {q:ae} {X M M':Nat->Prop} {w:World} {sb:Nat} {L:qj} {σ:fe} (h:dn W0 f ts q X M w sb L σ) (h1:∀ b,M b->M' b) (h2:∀ b,M' b->X b):dn W0 f ts q X M' w sb L σ:=
 ⟨h.hz,h2,h1 _ h.msb,h.blk,h.OE,h.gsl,h.rC,fun k hk=>⟨(h.kU k hk).1,h1 _ (h.kU k hk).2.1,(h.kU k hk).2.2⟩,h.apart,h.ag,fun b e=>h1 b (h.OG b e),h.bM,h.pk,fun b e=>h1 b (h.OH b e)⟩
theorem Tryz.Yg:(Tryz.prog.info? 150).map (·.bytes)=some 0:=by kernel_rfl
theorem mkc (w:World):(Instr.makeChan 96 (.int .i64 0)).run Tryz.prog w=.ok (.chan (some w.heap.size)) (w.alloc (.chan 0 #[] false 0 0 false)):=by
 obtain⟨i,hi,hb⟩:=Option.map_eq_some_iff.1 Tryz.Yg
 simpa using run_makeChan (P:=Tryz.prog) (w:=w) Tryz.underlying96 hi .i64 0 (by omega) (by rw[hb]; omega)
theorem OU {W0:World} {f:aB} {ts:List af} {q:ae} (E:Env f ts q W0) {X M:Nat->Prop} {w:World} {sb:Nat} {L:qj} {σ:fe} (h:dn W0 f ts q X M w sb L σ) (hok:E5 q σ) (n:Nat) (hpl:σ.picks.length+n<=900) (tick:Int) (x:ah) (hx:x.At w) (hxm:∀ a,x.ad=some a->¬ M a.block) :
  Calls Tryz.prog 20 #[.pointer (some (aD sb 0)),.int .i64 (n:Int),.int .i64 tick,x.val] w fun e w'=>∃ τ,τ=goT aV ts q (aA ts q) x.xs n tick σ/\e=.returned (.int .i64 τ.status)/\bQ W0 f ts q X M w sb τ w':=by
 obtain⟨v0,v1,v2,v3,v4,v5,v6,v7,v8,v9,v10,v11,v12,dw,-⟩:=Z8 f ts q;obtain⟨RK,Rz⟩:∃ R:Nat->fe,R=fun d=>runN aV ts q (aA ts q) x.xs d 0 σ:=⟨_,rfl⟩
 have Bz:Hid (∀ d,E5 q (RK d)/\(RK d).picks.length<=σ.picks.length+d):=fun d=>by rw[Rz]; exact mW (ZQ ts q) E.five x.xs hok d
 have HST:Hid (∀ d,(RK d).status=1->RK (d+1)=fP aV ts q (aA ts q) (fG x.xs d) (RK d)):=fun d hs=>by
  rw[Rz] at hs ⊢
  show runN aV ts q (aA ts q) x.xs (d+1) 0 σ=_
  rw[jD,Qr hs,QE]
 have Ob:Hid (RK 0=σ):=by show _=_; rw[Rz]; rfl
 have Iq:Hid (∀ d,(RK d).status≠1->d<=n->(tick<0∨(d:Int)<=tick)->goT aV ts q (aA ts q) x.xs n tick σ=RK d):=fun d hs hd ht=>by rw[Rz] at hs ⊢; exact VC hs hd ht
 have HTE:Hid ((tick<0∨(n:Int)<=tick)->goT aV ts q (aA ts q) x.xs n tick σ=RK n):=fun ht=>by rw[Rz]; exact Fb ht
 have HTT:Hid (∀ d:Nat,tick=(d:Int)->d<n->(RK d).status=1->goT aV ts q (aA ts q) x.xs n tick σ = { RK d with status:=4 }):=fun d e hd hs=>by rw[e]; rw[Rz] at hs ⊢; exact VD hd hs
 generalize goT aV ts q (aA ts q) x.xs n tick σ=RT at *;obtain⟨w1,hw1⟩:∃ y,w.alloc (.chan 0 #[] false 0 0 false)=y:=⟨_,rfl⟩
 have hmk:=mkc w;rw[hw1] at hmk;have hb1:Below w.heap.size w w1:=by rw[<- hw1]; exact (Qp _ _).alloc (Qq _) _
 obtain⟨c,hcw⟩:∃ c,c=w.heap.size:=⟨_,rfl⟩
 have agl:w1.heap[c]? = some (.chan 0 #[] false 0 0 false):=by rw[<- hw1,hcw]; exact kG _ _
 have hc1:=(QI.1 agl).1;have YT:¬ M c:=fun hm=>by have:=(h.lt (h.sub _ hm)).2; omega
 have hA1:=h.other (N:=fun _=>False) (N':=fun b=>b=c) (fun _ h=>h.elim) (fun _ _ h=>h) (Q9 hb1 (fun _ h _=>h)) (fun b e=>.inr (by omega)) (fun b=>Iff.rfl) (fun b e=>by rw[e]; exact hc1) (fun b e=>by have:=h.hz.below.size; omega);have HP0:Hid (bQ W0 f ts q (fun b=>X b∨b=c) M w1 sb (RK 0) w1):=by rw[Ob.out]; exact⟨L,hA1.post (Q7 _ _)⟩
 have apZ:=Zh agl;have wO:Hid (c<w1.heap.size/\¬ M c/\w.heap.size<=c):=⟨hc1,YT,by omega⟩
 have HWC:Hid (W0.heap.size<=c):=by
  have:=h.hz.below.size
  show _<=_
  omega
 have HB1:=Zh hb1;have ap0:Hid (∀ (y:World) (X' M':Nat->Prop) (L':qj) (d:Nat),dn W0 f ts q X' M' y sb L' (RK d)->(RK d).status=1->d<n->y.heap[c]? = some (.chan 0 #[] false 0 0 false)->Calls Tryz.prog 40 #[.pointer (some (aD sb 0)),.chan (some c),.int .i64 (fG x.xs d)] y fun e w'=>(∃ v,e=.returned v)/\bQ W0 f ts q X' M' y sb (RK (d+1)) w'):=fun y X' M' L' d hA hs hd hch=>by
  rw[HST.out d hs];exact Tu E hA (Bz.out d).1 hs (by have:=(Bz.out d).2; omega) c 0 0 false hch (fG x.xs d)
 have HX:Hid (∀ y,Kept (fun b=>¬ M b) w1 y->x.At y):=fun y hy=>Xu (Qo hb1 hx) hy (fun _ a e=>hxm a e)
 have HXL:Hid (∀ a,0<x.xs.length->x.ad=some a->a.block<w.heap.size):=fun a h0 e=>hx.2.lt h0 a e
 have HPK:Hid (∀ (y:World) (d:Nat),x.At y->d<n->Calls Tryz.prog 41 #[x.val,.int .i64 (d:Int)] y fun e w'=>e=.returned (.int .i64 (fG x.xs d))/\w' = y):=fun y d hy hd=>NA x d y hy (by omega)
 have gQ:Hid (∀ (y:World) (τ:fe) (X' M':Nat->Prop) (L':qj),dn W0 f ts q X' M' y sb L' τ->Kept (fun b=>¬ M b) w y->(∀ b,M b->M' b)->(∀ b,M' b->M b∨w.heap.size<=b)->(∀ b,X' b↔(X b∨b=c)∨M' b)->bQ W0 f ts q X M w sb τ y/\y.cell? (aD sb 18)=some (.int .i64 τ.status)):=fun y τ X' M' L' hA hk g1 g2 g3=>by
  refine⟨⟨L',X',fun b=>M' b∨b=c,hA.akw (fun b hb=>.inl hb) (fun b hb=>?_),hk,fun b hb=>.inl (g1 b hb),fun b hb=>?_,fun b=>?_⟩,(hA.cells dw).cell 18⟩
  ·rcases hb with hb | hb
   ·exact hA.sub b hb
   ·exact (g3 b).2 (.inl (.inr hb))
  ·rcases hb with hb | hb
   ·exact g2 b hb
   ·exact .inr (by omega)
  ·rw[g3];exact⟨fun h0=>by
    rcases h0 with (h0 | h0) | h0
    ·exact .inl h0
    ·exact .inr (.inr h0)
    ·exact .inr (.inl h0),fun h0=>by
    rcases h0 with h0 | h0 | h0
    ·exact .inl (.inl h0)
    ·exact .inr h0
    ·exact .inl (.inr h0)⟩
 have GM:=Zh hb1.size;have nZ:Hid (∀ y,Kept (fun b=>¬ M b) w1 y->Kept (fun b=>¬ M b) w y):=fun y hy=>(Q9 hb1 (fun _ h _=>h)).trans hy
 have hn63:n<=900:=by omega
 obtain⟨xa,xc,xx⟩:=x;simp only[ah.val] at *;obtain⟨xl,hxl⟩:∃ l,l=xx.length:=⟨_,rfl⟩
 have aw3:=Zh hxl;rw[<- hxl] at HPK ⊢;clear h hok hpl hx hxm dw Rz hb1 agl hc1 YT hA1 hxl E;rw[<- hcw] at hmk;clear hcw;go_enter Tryz.func20,Tryz.ntmps20;go_wp2;clear hmk hw1;go_loopw [10] (fun iv wr=>∃ d:Nat,iv=.int .i64 (d:Int)/\d<=n/\Hid ((((tick<0∨(d:Int)<=tick)/\bQ W0 f ts q (fun b=>X b∨b=c) M w1 sb (RK d) wr/\wr.heap[c]? = some (.chan 0 #[] false 0 0 false))∨(RT.status=4/\bQ W0 f ts q X M w sb RT wr/\wr.cell? (aD sb 18)=some (.int .i64 4))))) (fun iv _=>n-(intOf iv).toNat)
 case atStart=>exact⟨0,rfl,QQ _,.inl ⟨by omega,HP0.out,apZ.out⟩⟩
 case round=>
  obtain⟨d,rfl,hdn,HI⟩:=hrel;rcases HI.out with⟨htk,hp,hch⟩ | ⟨hs4,hp,c18⟩
  ·obtain⟨L',X',M',hA,hk,g1,g2,g3⟩:=hp;obtain⟨hp2,c18⟩:=gQ.out wr _ X' M' L' hA (nZ.out wr hk) g1 (fun b hb=>by
    rcases g2 b hb with h0 | h0
    ·exact .inl h0
    ·exact .inr (Q4 GM.out h0)) g3
   have HP2:=Zh hp2;clear hp2;by_cases hlt:d<n
   ·by_cases hs:(RK d).status=1
    ·rw[hs] at c18;have akx:¬ M' c:=fun hm=>by
      rcases g2 c hm with h0 | h0
      ·exact wO.out.2.1 h0
      ·have:=wO.out.1; omega
     have aky:=(g3 c).2 (.inl (.inr rfl));have HK:Hid (Kept (fun b=>¬ M b) w1 wr/\(∀ b,M b->M' b)/\(∀ b,M' b->M b∨w1.heap.size<=b)/\(∀ b,X' b↔(X b∨b=c)∨M' b)):=⟨hk,g1,g2,g3⟩
     by_cases htd:tick=(d:Int)
     ·have Ki:=Zh (HTT.out d htd hlt hs);obtain⟨w2,hw2⟩:∃ y,y = { wr with heap:=wr.heap.setIfInBounds c (.chan 0 #[] true 0 0 false) }:=⟨_,rfl⟩
      have hcl:(Builtin.close_ #[96] 0 #[.chan (some c)]).run Tryz.prog wr=.ok (.tuple #[]) w2:=by rw[hw2]; exact run_close_open _ _ hch
      have hk2:Kept (fun b=>b≠c) wr w2:=by
       rw[hw2];exact⟨rfl,rfl,rfl,by simp,fun k _ hkc=>by simp only; rw[Array.getElem?_setIfInBounds_ne (fun e=>hkc e.symm)]⟩
      have agn:w2.heap[c]? = some (.chan 0 #[] true 0 0 false):=by
       rw[hw2];have hl:=(QI.1 hch).1;simp[hl]
      have hA2:=hA.other (N:=fun b=>b=c) (N':=fun b=>b=c) (fun b e=>by rw[e]; exact aky) (fun b hm e=>akx (e ▸ hm)) (hk2.mono fun b _ hb=>hb) (fun b e=>.inl e) (fun b=>⟨fun h0=>.inl h0,fun h0=>by
       rcases h0 with h0 | h0
       ·exact h0
       ·rw[h0]; exact aky⟩) (fun b e=>by rw[e]; exact (QI.1 agn).1) (fun b e=>by rw[e]; exact HWC.out)
      have hx2:au w2 xa xx:=Xu (HX.out wr hk) (hk2.mono fun b _ hb=>hb) (fun h0 a e e'=>by have h1:=HXL.out a h0 e; have:=wO.out.2.2; omega);have hPK:=HPK.out w2 d hx2 hlt;have hSC:=Tt hA2 c (fG xx d) 0 0 false agn;have nK:=Zh hk2;subst htd;clear hA hk g1 g2 g3 hch hk2 agn hA2 hx2 hw2 htk hs;generalize RK d=RD at *;go_wp2_with fail;refine hPK.mono ?_;rintro e wz ⟨rfl,hwz⟩;have nI:=hwz.symm;subst nI;clear hPK hcl c18;go_wp2_with fail;refine hSC.mono ?_;rintro e w3 ⟨⟨rv,rfl⟩,L3,X3,M3,hA3,hk3,g31,g32,g33⟩;have hfin:=gQ.out w3 RT X3 M3 L3 (by rw[Ki.out]; exact hA3) (((nZ.out wr HK.out.1).trans' nK.out (fun b hb _ e=>by have:=wO.out.2.2; omega)).trans' hk3 (fun b hb hm h0=>by
       rcases HK.out.2.2.1 b h0 with h1 | h1
       ·exact hm h1
       ·have:=GM.out; omega)) (fun b hb=>g31 b (HK.out.2.1 b hb)) (fun b hb=>by
       rcases g32 b hb with h1 | h1
       ·rcases HK.out.2.2.1 b h1 with h2 | h2
        ·exact .inl h2
        ·exact .inr (Q4 GM.out h2)
       ·exact .inr (Q4 GM.out (Q4 HK.out.1.size (Q4 nK.out.size h1)))) (fun b=>by
       rw[g33,HK.out.2.2.2];exact⟨fun h0=>by
        rcases h0 with (h0 | h0) | h0
        ·exact .inl h0
        ·exact .inr (g31 b h0)
        ·exact .inr h0,fun h0=>by
        rcases h0 with h0 | h0
        ·exact .inl (.inl h0)
        ·exact .inr h0⟩)
      have WV:Hid (RT.status=4):=by show _=_; rw[Ki.out]
      have HF:Hid (RT.status=4/\bQ W0 f ts q X M w sb RT w3/\w3.cell? (aD sb 18)=some (.int .i64 4)):=⟨WV.out,hfin.1,by rw[<- WV.out]; exact hfin.2⟩
      clear hSC hA3 hk3 g31 g32 g33 hfin;go_wp2;go_roundw
      case rel=>exact⟨d+1,by go_num,by omega,.inr HF.out⟩
      case measure=>simp[intOf]; omega
     ·have hPK:=HPK.out wr d (HX.out wr hk) hlt;have Le:=ap0.out wr X' M' L' d hA hs hlt hch;have HCH:=Zh hch;have yl:Hid (tick<0∨((d+1:Nat):Int)<=tick):=by show _∨_; omega
      have aw4:¬ ((d:Int)=tick):=fun e=>htd e.symm
      clear hA hk g1 g2 g3 hch htk hs htd;go_wp2_with fail;refine hPK.mono ?_;rintro e wz ⟨rfl,hwz⟩;have nI:=hwz.symm;subst nI;clear hPK c18;go_wp2_with fail;refine Le.mono ?_;rintro e w3 ⟨⟨rv,rfl⟩,hp3⟩;have akA:w3.heap[c]? = some (.chan 0 #[] false 0 0 false):=by
       obtain⟨_,_,_,_,hk3,-⟩:=hp3;rw[hk3.block c (QI.1 HCH.out).1 akx];exact HCH.out
      have HF:Hid ((tick<0∨((d+1:Nat):Int)<=tick)/\bQ W0 f ts q (fun b=>X b∨b=c) M w1 sb (RK (d+1)) w3/\w3.heap[c]? = some (.chan 0 #[] false 0 0 false)):=⟨yl.out,bQ.trans HK.out.1 HK.out.2.1 HK.out.2.2.1 HK.out.2.2.2 hp3,akA⟩
      clear Le hp3 akA;go_wp2;go_roundw
      case rel=>exact⟨d+1,by go_num,by omega,.inl HF.out⟩
      case measure=>simp[intOf]; omega
    ·have Ki:=Zh (Iq.out d hs hdn htk);have hs':=hs;clear hA hk g1 g2 g3 hch htk;generalize RK d=RD at *;go_wp2;go_ret;exact⟨RT,rfl,by rw[Ki.out]; rfl,by rw[Ki.out]; exact HP2.out⟩
   ·have akB:n=d:=by omega
    have Ki:Hid (RT=RK d):=by show _=_; rw[<- akB]; exact HTE.out (by omega)
    clear hA hk g1 g2 g3 hch htk akB;generalize RK d=RD at *;go_wp2;go_ret;exact⟨RT,rfl,by rw[Ki.out]; rfl,by rw[Ki.out]; exact HP2.out⟩
  ·have HF:Hid (RT.status=4/\bQ W0 f ts q X M w sb RT wr):=⟨hs4,hp⟩
   clear hs4 hp;by_cases hlt:d<n
   ·go_wp2;go_ret;exact⟨RT,rfl,by rw[HF.out.1]; rfl,HF.out.2⟩
   ·go_wp2;go_ret;exact⟨RT,rfl,by rw[HF.out.1]; rfl,HF.out.2⟩
end
