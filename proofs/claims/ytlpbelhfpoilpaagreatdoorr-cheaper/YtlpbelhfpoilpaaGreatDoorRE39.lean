import Derived.Test.YtlpbelhfpoilpaaGreatDoorRE30
import Derived.Test.YtlpbelhfpoilpaaGreatDoorRE33
import Derived.Test.YtlpbelhfpoilpaaGreatDoorRE38
set_option linter.all false
set_option maxRecDepth 100000
set_option maxHeartbeats 16000000
namespace Go.Proofs.Zz
open Go.RowKit Go.Shelf
variable {W0 w w1:World} {f:au} {ts:List af} {q:ae} {M X:Nat->Prop} {i sb:Nat} {L:rV} {σ:iO} {P:Program} {a:Act} {ops:Array Oper} {rest:List Nat} {o:Oper} {Q:Exit->Act->World->Prop} {v:Value}
def Dg(F:Nat->Prop)(w:World)(t:aQ)(e:Ending)(w':World):Prop:=∃ v nv,e=.returned (.tuple #[v,.int .u64 (t.d.cost:Int)])/\nv.map eQ=t.ns/\fI 58 F w.heap.size w' v nv/\Bw w w'
theorem Vp(E:Env f ts q W0)(h:dQ W0 f ts q X M w sb L σ)(hok:jB q σ.bD)(hl:σ.bD.ns.length<=800){F:Nat->Prop}(hF:∀ b,w.heap.size<=b->F b) :
  Calls Tryz.prog 60 #[.pointer (some (aD sb 0))] w (Dg F w σ.bD):=by
 obtain⟨v0,v1,v2,v3,v4,v5,v6,v7,v8,v9,v10,v11,v12,bB,-⟩:=Xu f ts q;have c16:w.cell? (aD sb 16)=some (.pointer (some (aD L.bD 0))):=by
  have:=h.blk;rw[bB]at this;exact this.cell 16
 obtain⟨p,hP,yQ⟩:=h.bD.lh;have ec:p.cost=σ.bD.d.cost:=congrArg bZ.cost yQ;have c5:w.cell? (aD L.bD 5)=some (.int .u64 (σ.bD.d.cost:Int)):=by rw[<- ec]; exact hP.c5
 have hsh:bQ w 0:=fun j u hj=>h.hz.below.cell _ _ _ (E.shapes j u hj)
 have HN:Hid (∀ x,x=w.drew->Calls Tryz.prog 108 #[.pointer (some (aD L.bD 0))] x (jm 58 F x σ.bD.ns)):=fun x hx=>by
  rw[hx];exact Vo (h.bD.below ((Qw _ _).drew)) (XJ ((Qw _ _).drew) hsh) hok (by omega) hF
 have hN:=HN.o w.drew rfl;generalize L.bD=bp at *;generalize σ.bD=B at *;clear h hok hl bB hP yQ ec hsh HN E p;obtain⟨B1,B2⟩:=B;simp only at *;obtain⟨cost,aaS⟩:∃ n,n=B1.cost:=⟨_,rfl⟩
 have HR:Hid (∀ v nv w',nv.map eQ=B2->fI 58 F w.heap.size w' v nv->Bw w w'->Dg F w ⟨B1,B2⟩ (.returned (.tuple #[v,.int .u64 (cost:Int)])) w'):=fun v nv w' h1 h2 h3=>⟨v,nv,by rw[aaS],h1,h2,h3⟩
 rw[<- aaS]at c5;clear aaS;generalize Dg F w ⟨B1,B2⟩=BP at *;go_enter Tryz.func60,Tryz.ntmps60;go_wp2_with fail;refine wH w fun hS=>?_
 refine wt 0 (.pointer (some (aD sb 0))) hS ?_;refine wt 1 (.pointer (some (aD sb 0))) hS ?_;refine wt 2 (.pointer (some (aD sb 16))) hS ?_;refine lH 3 (.pointer (some (aD bp 0))) hS c16 ?_;refine wt 5 (.pointer (some (aD sb 0))) hS ?_;refine wt 6 (.pointer (some (aD sb 0))) hS ?_;refine wt 7 (.pointer (some (aD sb 16))) hS ?_;refine lH 8 (.pointer (some (aD bp 0))) hS c16 ?_;refine wt 9 (.pointer (some (aD bp 0))) hS ?_;refine wt 10 (.pointer (some (aD bp 0))) hS ?_;refine wt 11 (.pointer (some (aD bp 5))) hS ?_;refine lH 12 (.int .u64 (cost:Int)) hS c5 ?_;refine wR 4 fun K hK=>?_
 go_simp;refine Xt hN ?_;rintro e w2 ⟨v,nv,rfl,hnv,hnk,hb2⟩;obtain⟨na,nm,nc,rfl⟩:=ZP hnk.own;refine hK.o _ _ ((Qw w.heap.size w).drew.trans hb2) (fun hS=>?_);clear hK K;refine wR 13 fun K hK=>?_
 go_simp;refine hK.o _ _ hS fun hS=>?_
 clear hK K;refine wR 14 fun K hK=>?_
 go_simp;refine hK.o _ _ hS fun hS=>?_
 clear hK K;refine wD ?_
 try simp only[pV]
 try simp only[pV]
 have HF:=Zh (HR.o _ nv w2 hnv hnk hS);clear hS hnk hN c16 c5;go_wp2;exact HF.o
section
open Go.Conc
theorem Vr{b:Frame}{k:List Go.Item}{cs:List Frame}{w':World}{cases:Array CommCase}{blocking:Bool}{shape:CommShape}(ho:ops[i]? = some o)(hw:Region.wanted o (yielded ops a.tmps)=true)(hr:(execOp a.eval o).run P w=.ok (.comm cases blocking shape) w') :
  ∃ es,Go.stepG P true (Go.Conc.G (b.at a (.inRegion ops (i::rest)::k)) cs) w=.comm (Go.Conc.G (b.at a (.inRegion ops (i::rest)::k)) cs) cases blocking shape w' es:=by
 by_cases hk:b.kind=.early
 ·have hk':(b.kind==CallKind.early)=true:=by simpa using hk
  rw[stepG_oper ho hw];simp[Go.stepG.apply,hr,Go.Conc.G,Frame.at,hk',GStep.after]
 ·exact⟨_,stepG_comm ho hw hk hr⟩
theorem F3{id:Nat}{c:CommCase}(hrg:List.range ops.size=0::rest)(ho:ops[0]? = some o)(hw:Region.wanted o (yielded ops a.tmps)=true)(hr:(execOp a.eval o).run P w=.ok (.comm #[c] false .select) w)
  (hs:∀ (fr:Frame) (cs:List Frame) (es:Array Event),Go.stepG P true (Go.Conc.G fr cs) w=.comm (Go.Conc.G fr cs) #[c] false .select w es->Go.step P (solo (Go.Conc.G fr cs) w)=.next (solo (Go.Conc.G (fr.finish v) cs) w)) (h:wpOps P ops Q rest (a.put o.dst v) w):(Code.region id ops false).wp P Q a w:=by
 intro b k cs;obtain⟨e,a',w',hq,harr⟩:=wp_ops rest _ _ h b k cs;obtain⟨es,hes⟩:=Vr (P:=P) (b:=b) (k:=k) (cs:=cs) (rest:=rest) ho hw hr;have h1:Go.step P (lone (b.at a (.inRegion ops (0::rest)::k)) cs w)=.next (lone (b.at (a.put o.dst v) (.inRegion ops rest::k)) cs w):=by
  have h2:=hs _ _ _ hes;rw[Frame.finish_at,ho]at h2;exact h2
 refine⟨e,a',w',hq,.of_steps (.head ?_ (.one h1)) harr⟩;have:=step_region (P:=P) (b:=b) (a:=a) (k:=k) (cs:=cs) (w:=w) (ops:=ops) (id:=id);rw[hrg]at this;exact this
theorem oN(ho:ops[i]? = some o)(hw:Region.wanted o (yielded ops a.tmps)=true)(hr:(execOp a.eval o).run P w=.ok (.value v) w)(h:wpOps P ops Q rest (a.put o.dst v) w):wpOps P ops Q (i::rest) a w:=by
 simp only[wpOps,ho,hw,if_true];left;unfold Oper.wp;rw[hr];exact h
theorem Vs(h:dQ W0 f ts q X M w sb L σ)(c:Nat)(pick:Int)(s r:Nat)(tm:Bool)(hc:w.heap[c]? = some (.chan 0 #[] true s r tm)) :
  Calls Tryz.prog 109 #[.pointer (some (aD sb 0)),.chan (some c),.int .i64 pick] w fun e w'=>(∃ v,e=.returned v)/\bX W0 f ts q X M w sb { σ with status:=4 } w':=by
 obtain⟨v0,v1,v2,v3,v4,v5,v6,v7,v8,v9,v10,v11,v12,bB,-⟩:=Xu f ts q;have hgb:=h.cells bB;have c18:=hgb.at 18;have f18:=hgb.frozen 18;have HC:=Zh hc;have HF:Hid (bX W0 f ts q X M w sb { σ with status:=4 } (w.setCell (aD sb 18) (.int .i64 4))):=by
  have hne:=h.ne;have hk:Kept (fun b=>b≠sb) w (w.setCell (aD sb 18) (.int .i64 4)):=ZL _ _ _ (fun h=>h rfl);refine⟨_,h.next (hk.mono fun b _ hb=>hb.1) (av:=L.av) (pv:=L.pv) (ag:=σ.ak) (pk:=σ.picks) (st:=4) ?_ (ZN h.ag hk (fun g e hg=>hne.1 (hg ▸ e))) (.inl rfl) (ZN h.pk hk (fun g e hg=>hne.2.1 (hg ▸ e))) (.inl rfl)⟩;rw[bB];exact hgb.set 18 (.int .i64 4)
 clear hc h hgb bB;go_enter Tryz.func109,Tryz.ntmps109;go_upto_region 1 with fail;refine F3 (rest:=[1,2]) (c:=rcase c (.agg #[])) (v:=.tuple #[goInt (0),.bool false,.agg #[]]) (by kernel_rfl) rfl (by kernel_rfl) (by simp[go_sem,execOp,rcase,rcaseNil,Act.eval]) (fun fr cs es hes=>step_lone_select_recv_shut hes HC.o) ?_;refine oN (v:=.int .i64 (0)) rfl (by kernel_rfl) (by simp[go_sem,execOp,Act.eval,Act.put,goInt]) ?_;refine oN (v:=.bool true) rfl (by kernel_rfl) (by simp[go_sem,execOp,Act.eval,Act.put,goInt]) ?_
 show Exit.then _ _ Exit.normal _ _
 simp only[Act.put,XX,XY,XZ,ZZ,Qe,Qf];go_wp2;go_end0;exact⟨⟨_,rfl⟩,HF.o⟩
end
section
open Go.Conc
theorem ant(f:au)(ts:List af)(q:ae)(L:rV)(σ:iO)(pv:Value):(f.cells ts q++mq L σ).setIfInBounds 17 pv=f.cells ts q++mq { L with pv:=pv } σ:=by
 obtain⟨v0,v1,v2,v3,v4,v5,v6,v7,v8,v9,v10,v11,v12,bB,-⟩:=Xu f ts q;rw[bB];rfl
theorem Vt(W:World)(base:Nat)(v:Value)(xs:List Int)(hown:W.ownsRow base 3 1 v xs.length (xs.map (Value.int .i64)))(hl:xs.length<=1000)(hb:base<=W.heap.size)(a:Int)(ty:TypeId) :
  ∃ v' w',(Builtin.append_ #[23,23] ty #[v,.slice (some (aD W.heap.size 0)) 1 1]).run Tryz.prog (W.alloc (.cells #[.int .i64 a] 3))=.ok v' w'/\
   w'.ownsRow base 3 1 v' (xs++[a]).length ((xs++[a]).map (Value.int .i64))/\Kept (fun b=>v.ownBlock≠some b) W w'/\(∃ a m c,v' = .slice a m c)/\(v'.ownBlock=v.ownBlock∨v'.ownBlock=some (W.heap.size+1)):=by
 obtain⟨i0,hi,hz0,hz1,hz2⟩:=ZU Tryz.kV;obtain⟨v',w',hr,ho,hk,hs,hat⟩:=iG (P:=Tryz.prog) W base 23 ty 3 i0 _ 1 8 Tryz.underlying23 hi hz0 hz1 hz2 rfl (by decide) v xs.length _ hown hb [.int .i64 a] rfl (fun u hu=>by
  rw[ZR]at hu;rw[hu];rfl) hl (by decide)
 exact⟨v',w',hr,by rw[Zb,Qs]; exact ho,hk,hs,hat⟩
theorem dQ.picked(h:dQ W0 f ts q X M w sb L σ){pv:Value}{p:Int}(ho:w1.ownsRow W0.heap.size 3 1 pv (σ.picks++[p]).length ((σ.picks++[p]).map (Value.int .i64)))(hk:Kept (fun b=>L.pv.ownBlock≠some b) w w1)(hat:pv.ownBlock=L.pv.ownBlock∨pv.ownBlock=some (w.heap.size+1)) :
  gP W0 f ts q X M w sb { L with pv:=pv } { σ with picks:=σ.picks++[p] } (w1.setCell (aD sb 17) pv):=by
 have hne:=h.ne;have hg1:=h.blk.keep hk hne.2.1;have hk2:Kept (fun b=>b≠sb) w1 (w1.setCell (aD sb 17) pv):=ZL _ _ _ (fun h=>h rfl);refine h.next ((hk.mono fun b _ hb=>hb.2.2).trans (hk2.mono fun b _ hb=>hb.1)) (av:=L.av) (pv:=pv) (ag:=σ.ak) (pk:=σ.picks++[p]) (st:=σ.status) ?_ ?_ (.inl rfl) ?_ ?_
 ·have:=hg1.set 17 pv;rw[ant]at this;exact this
 ·exact ZN (ZN h.ag hk (fun g e=>hne.2.2.1 g e)) hk2 (fun g e hg=>hne.1 (hg ▸ e))
 ·exact ZN ho hk2 (fun g e hg=>iB ho hg1 (by decide) (hg ▸ e))
 ·rcases hat with h1 | h1
  ·exact .inl h1
  ·exact .inr ⟨_,h1,by omega⟩
theorem dQ.taken(h:dQ W0 f ts q X M w sb L σ){av:Value}{ag:List bG}(hg:GB w1 sb 174 ((f.cells ts q++mq L σ).setIfInBounds 14 av))(ho:w1.ownsRow W0.heap.size 236 2 av ag.length (ag.flatMap dN))(hk:Kept (fun b=>b≠sb/\L.av.ownBlock≠some b) w w1)(hat:av.ownBlock=L.av.ownBlock) :
  gP W0 f ts q X M w sb { L with av:=av } { σ with ak:=ag } w1:=by
 have hne:=h.ne;refine h.next (hk.mono fun b _ hb=>⟨hb.1,hb.2.1⟩) (av:=av) (pv:=L.pv) (ag:=ag) (pk:=σ.picks) (st:=σ.status) ?_ ho (.inl hat) ?_ (.inl rfl)
 ·rw[aag]at hg;exact hg
 ·exact ZN h.pk hk (fun g e=>⟨fun e'=>hne.2.1 (e' ▸ e),fun e'=>hne.2.2.1 g e' e⟩)
theorem dQ.settled(h:dQ W0 f ts q X M w sb L σ)(hal:σ.ak.length<=1000000):Calls Tryz.prog 169 #[.pointer (some (aD sb 0))] w fun e w'=>(∃ v,e=.returned v)/\bX W0 f ts q X M w sb (nu σ) w':=by
 obtain⟨v0,v1,v2,v3,v4,v5,v6,v7,v8,v9,v10,v11,v12,bB,-⟩:=Xu f ts q;have hgb:=h.cells bB;obtain⟨aa,ac,hav,-⟩:=uz h.ag hal;have adr:=hgb;rw[hav]at adr;have hne:=h.ne;refine(O0 sb v0 v1 v2 v3 v4 v5 v6 v7 v8 v9 v10 v11 v12 _ _ _ aa σ.ak.length ac σ.cut σ.status w adr).mono ?_;rintro e w' ⟨hv,hk,hg⟩;refine⟨hv,?_⟩;have hs:nu σ = { σ with ak:=σ.ak,picks:=σ.picks,status:=if 0<σ.ak.length then σ.status else if σ.cut=true then 3 else 2 }:=by
  unfold nu;split <;> rfl
 rw[hs];refine⟨_,h.next (hk.mono fun b _ hb=>hb.1) (av:=L.av) (pv:=L.pv) (ag:=σ.ak) (pk:=σ.picks) (st:=if 0<σ.ak.length then σ.status else if σ.cut=true then 3 else 2) ?_ (ZN h.ag hk (fun g e hg=>hne.1 (hg ▸ e))) (.inl rfl) (ZN h.pk hk (fun g e hg=>hne.2.1 (hg ▸ e))) (.inl rfl)⟩;rw[bB];rw[<- hav]at hg;exact hg
theorem Vu(E:Env f ts q W0)(h:dQ W0 f ts q X M w sb L σ)(hok:Es q σ)(h1:σ.status=1)(hpl:σ.picks.length<=900)(c s r:Nat)(tm:Bool)(hc:w.heap[c]? = some (.chan 0 #[] false s r tm))(pick:Int) :
  Calls Tryz.prog 109 #[.pointer (some (aD sb 0)),.chan (some c),.int .i64 pick] w fun e w'=>(∃ v,e=.returned v)/\bX W0 f ts q X M w sb (jA bA ts q (aF ts q) pick σ) w':=by
 obtain⟨v0,v1,v2,v3,v4,v5,v6,v7,v8,v9,v10,v11,v12,bB,-⟩:=Xu f ts q;have hgb:=h.cells bB;have hn:=hok.stat h1;have hal:=hok.alh;have atK:σ.ak.length<=60000:=by omega
 obtain⟨aa,ac,hav,-⟩:=uz h.ag (by omega);obtain⟨pa,pm,pc,hpv⟩:=ZP h.pk;have hp:=zy hn pick;obtain⟨P,hP⟩:=eY (iH σ.ak.length pick)
 obtain⟨pi,hpi⟩:∃ pi:Nat,P=(pi:Int):=⟨P.toNat,by rw[hP]; omega⟩
 have aa0:pi<σ.ak.length:=by rw[<- hP,hpi]at hp; omega
 have hPL:=PY aa σ.ak.length ac pick w hn (by omega);rw[<- hP,hpi]at hPL;obtain⟨v',w1,hr1,ho1,hk1,⟨za,zm,zc,rfl⟩,anu⟩:=Vt w W0.heap.size L.pv σ.picks h.pk (by omega) h.hz.below.size P 23;rw[hpv,hpi]at hr1;obtain⟨X2,M2,hA2,hk2,g21,g22,g23⟩:=h.picked ho1 hk1 anu;have HA2:=Zh hA2;have HP2:Hid (Kept (fun b=>¬ M b) w (w1.setCell (aD sb 17) (.slice za zm zc))/\(∀ b,M b->M2 b)/\(∀ b,M2 b->M b∨w.heap.size<=b)/\(∀ b,X2 b↔X b∨M2 b)):=⟨hk2,g21,g22,g23⟩
 have hg1:=h.blk.keep hk1 h.ne.2.1;rw[bB]at hg1;have d17:w1.cell? (aD sb 17)=some L.pv:=hg1.cell 17;rw[hpv]at d17;have f17:=hg1.frozen 17;have c14:w.cell? (aD sb 14)=some L.av:=hgb.cell 14;rw[hav]at c14;have c17:w.cell? (aD sb 17)=some L.pv:=hgb.cell 17;rw[hpv]at c17;have HTK:Hid (∀ x,x=w1.setCell (aD sb 17) (.slice za zm zc)->Calls Tryz.prog 168 #[.pointer (some (aD sb 14)),.int .i64 (pi:Int)] x fun e w'=>e=.returned (.agg #[.int .u64 ((σ.ak.getD pi (0,0)).1:Int),.int .u64 ((σ.ak.getD pi (0,0)).2:Int)])/\∃ L3,gP W0 f ts q X M w sb L3 { σ with picks:=σ.picks++[P],ak:=σ.ak.eraseIdx pi } w'):=fun x hx=>by
  rw[hx];refine(UO sb W0.heap.size pi _ L.av σ.ak _ hA2.blk (afq f ts q _ _) hA2.ag (by omega) aa0).mono ?_;rintro e w' ⟨rfl,av',hg',ho',hk',hat'⟩;exact⟨rfl,_,gP.trans hk2 g21 g22 g23 (hA2.taken hg' ho' hk' hat')⟩
 have hcore:=hok.core.erase pi (σ.picks++[P]);have aa1:lZ q.src.xs.length σ.groups (σ.ak.getD pi (0,0)):=hok.core.task _ (Z7 aa0);have hdo:=YU (rk:=bA) (ts:=ts) (conc:=aF ts q) (Xa ts q) (t:=σ.ak.getD pi (0,0)) hcore E.five aa1;have HDO:Hid (∀ x X3 M3 L3,dQ W0 f ts q X3 M3 x sb L3 { σ with picks:=σ.picks++[P],ak:=σ.ak.eraseIdx pi }->Calls Tryz.prog 167 #[.pointer (some (aD sb 0)),.agg #[.int .u64 ((σ.ak.getD pi (0,0)).1:Int),.int .u64 ((σ.ak.getD pi (0,0)).2:Int)]] x fun e w'=>(∃ v,e=.returned v)/\bX W0 f ts q X3 M3 x sb (sV bA ts q (aF ts q) (σ.ak.getD pi (0,0)) { σ with picks:=σ.picks++[P],ak:=σ.ak.eraseIdx pi }) w'):=fun x X3 M3 L3 hx=>
  aiW E hx hcore (by show (σ.ak.eraseIdx pi).length<=900000; rw[List.length_eraseIdx_of_lt aa0]; omega) _ aa1
 have hdl:(sV bA ts q (aF ts q) (σ.ak.getD pi (0,0)) { σ with picks:=σ.picks++[P],ak:=σ.ak.eraseIdx pi }).ak.length<=1000000:=by
  have h2:=hdo.2.1;have h3:=List.length_eraseIdx_of_lt aa0;simp only at h2;omega
 have HR:Hid (jA bA ts q (aF ts q) pick σ=nu (sV bA ts q (aF ts q) (σ.ak.getD pi (0,0)) { σ with picks:=σ.picks++[P],ak:=σ.ak.eraseIdx pi })):=by
  show _=_
  unfold jA;simp only;rw[<- hP,hpi];rfl
 generalize jA bA ts q (aF ts q) pick σ=SN at *;generalize sV bA ts q (aF ts q) (σ.ak.getD pi (0,0)) { σ with picks:=σ.picks++[P],ak:=σ.ak.eraseIdx pi } = DN at *;have HDL:=Zh hdl;generalize (σ.ak.getD pi (0,0)).1=tl at *;generalize (σ.ak.getD pi (0,0)).2=tr at *;generalize σ.ak.length=an at *;have HC:=Zh hc;clear hc;clear h hok h1 hpl bB hgb hn hal atK hav hpv hp hP hpi aa0 ho1 hk1 anu hA2 hk2 g21 g22 g23 hg1 hcore aa1 hdo hdl E;go_enter Tryz.func109,Tryz.ntmps109;go_upto_region 1 with fail;refine F3 (rest:=[1,2]) (c:=rcase c (.agg #[])) (v:=.tuple #[goInt (-1),.bool false,.agg #[]]) (by kernel_rfl) rfl (by kernel_rfl) (by simp[go_sem,execOp,rcase,rcaseNil,Act.eval]) (fun fr cs es hes=>step_lone_select_default hes HC.o) ?_;refine oN (v:=.int .i64 (-1)) rfl (by kernel_rfl) (by simp[go_sem,execOp,Act.eval,Act.put,goInt]) ?_;refine oN (v:=.bool false) rfl (by kernel_rfl) (by simp[go_sem,execOp,Act.eval,Act.put,goInt]) ?_
 show Exit.then _ _ Exit.normal _ _
 simp only[Act.put,XX,XY,XZ,ZZ,Qe,Qf];go_wp2_with fail;refine hPL.mono ?_;rintro e wz ⟨rfl,hwz⟩;have pI:=hwz.symm;subst pI;clear hPL;go_wp2_with (first | (at_builtin; refine Z8 rfl (.tmp 21) (.tmp 23) 23 rfl (.slice pa pm pc) (.slice (some (aD w.heap.size 0)) 1 1) (.slice za zm zc) w1 rfl rfl hr1 ?_));clear hr1 c14 c17;go_upto_region 4 with fail;obtain⟨w2,hw2⟩:∃ x,x=w1.setCell (aD sb 17) (.slice za zm zc):=⟨_,rfl⟩
 rw[<- hw2];have hTK:=HTK.o w2 hw2;clear hw2 d17 f17;go_wp2_with fail;refine hTK.mono ?_;rintro e w3 ⟨rfl,L3,X3,M3,hA3,hk3,g31,g32,g33⟩;have hDO:=HDO.o w3 X3 M3 L3 hA3;have rU:Hid (Kept (fun b=>¬ M b) w w3/\(∀ b,M b->M3 b)/\(∀ b,M3 b->M b∨w.heap.size<=b)/\(∀ b,X3 b↔X b∨M3 b)):=⟨hk3,g31,g32,g33⟩
 clear hTK hA3 hk3 g31 g32 g33;go_wp2_with fail;refine hDO.mono ?_;rintro e w4 ⟨⟨rv,rfl⟩,hp4⟩;obtain⟨L4,X4,M4,hA4,hk4,g41,g42,g43⟩:=bX.trans rU.o.1 rU.o.2.1 rU.o.2.2.1 rU.o.2.2.2 hp4;have hST:=hA4.settled HDL.o;have PM:Hid (Kept (fun b=>¬ M b) w w4/\(∀ b,M b->M4 b)/\(∀ b,M4 b->M b∨w.heap.size<=b)/\(∀ b,X4 b↔X b∨M4 b)):=⟨hk4,g41,g42,g43⟩
 clear hDO hp4 hA4 hk4 g41 g42 g43;go_wp2_with fail;refine hST.mono ?_;rintro e w5 ⟨⟨rv2,rfl⟩,hp5⟩;have HF:Hid (bX W0 f ts q X M w sb SN w5):=by
  rw[HR.o];exact bX.trans PM.o.1 PM.o.2.1 PM.o.2.2.1 PM.o.2.2.2 hp5
 clear hST hp5;go_wp2;go_end0;exact⟨⟨_,rfl⟩,HF.o⟩
end
section
open Go.Conc
theorem dQ.anx{M':Nat->Prop}(h:dQ W0 f ts q X M w sb L σ)(h1:∀ b,M b->M' b)(h2:∀ b,M' b->X b):dQ W0 f ts q X M' w sb L σ:=
 ⟨h.hz,h2,h1 _ h.msb,h.blk,h.Sa,h.gsl,h.tH,fun k hk=>⟨(h.kT k hk).1,h1 _ (h.kT k hk).2.1,(h.kT k hk).2.2⟩,h.apart,h.ag,fun b e=>h1 b (h.Sb b e),h.bD,h.pk,fun b e=>h1 b (h.Sc b e)⟩
theorem Tryz.aa2:(Tryz.prog.info? 239).map (·.bytes)=some 0:=by kernel_rfl
theorem mkc(w:World):(Instr.makeChan 179 (.int .i64 0)).run Tryz.prog w=.ok (.chan (some w.heap.size)) (w.alloc (.chan 0 #[] false 0 0 false)):=by
 obtain⟨i,hi,hb⟩:=Option.map_eq_some_iff.1 Tryz.aa2
 simpa using run_makeChan (P:=Tryz.prog) (w:=w) Tryz.underlying179 hi .i64 0 (by omega) (by rw[hb]; omega)
theorem aeg(E:Env f ts q W0)(h:dQ W0 f ts q X M w sb L σ)(hok:Es q σ)(n:Nat)(hpl:σ.picks.length+n<=900)(tick:Int)(x:ah)(hx:x.At w)(hxm:∀ a,x.ad=some a->¬ M a.block) :
  Calls Tryz.prog 61 #[.pointer (some (aD sb 0)),.int .i64 (n:Int),.int .i64 tick,x.val] w fun e w'=>∃ τ,τ=goT bA ts q (aF ts q) x.xs n tick σ/\e=.returned (.int .i64 τ.status)/\bX W0 f ts q X M w sb τ w':=by
 obtain⟨v0,v1,v2,v3,v4,v5,v6,v7,v8,v9,v10,v11,v12,bB,-⟩:=Xu f ts q;obtain⟨RK,Un⟩:∃ R:Nat->iO,R=fun d=>runN bA ts q (aF ts q) x.xs d 0 σ:=⟨_,rfl⟩
 have AX:Hid (∀ d,Es q (RK d)/\(RK d).picks.length<=σ.picks.length+d):=fun d=>by rw[Un]; exact uD (Xa ts q) E.five x.xs hok d
 have HST:Hid (∀ d,(RK d).status=1->RK (d+1)=jA bA ts q (aF ts q) (jL x.xs d) (RK d)):=fun d hs=>by
  rw[Un]at hs ⊢
  show runN bA ts q (aF ts q) x.xs (d+1) 0 σ=_
  rw[nI,Qy hs,QQ]
 have JH:Hid (RK 0=σ):=by show _=_; rw[Un]; rfl
 have Kz:Hid (∀ d,(RK d).status≠1->d<=n->(tick<0∨(d:Int)<=tick)->goT bA ts q (aF ts q) x.xs n tick σ=RK d):=fun d hs hd ht=>by rw[Un]at hs ⊢; exact aaT hs hd ht
 have HTE:Hid ((tick<0∨(n:Int)<=tick)->goT bA ts q (aF ts q) x.xs n tick σ=RK n):=fun ht=>by rw[Un]; exact Ij ht
 have HTT:Hid (∀ d:Nat,tick=(d:Int)->d<n->(RK d).status=1->goT bA ts q (aF ts q) x.xs n tick σ = { RK d with status:=4 }):=fun d e hd hs=>by rw[e]; rw[Un]at hs ⊢; exact aaU hd hs
 generalize goT bA ts q (aF ts q) x.xs n tick σ=RT at *;obtain⟨w1,hw1⟩:∃ y,w.alloc (.chan 0 #[] false 0 0 false)=y:=⟨_,rfl⟩
 have hmk:=mkc w;rw[hw1]at hmk;have hb1:Bw w w1:=by rw[<- hw1]; exact(Qw _ _).alloc (Qx _) _
 obtain⟨c,hcw⟩:=eY (w.heap.size)
 have aiX:w1.heap[c]? = some (.chan 0 #[] false 0 0 false):=by rw[<- hw1,hcw]; exact l6 _ _
 have hc1:=(QV.1 aiX).1;have hMc:¬ M c:=fun hm=>by have:=(h.lt (h.sub _ hm)).2; omega
 have hA1:=h.other (N:=fun _=>False) (N':=fun b=>b=c) (fun _ h=>h.elim) (fun _ _ h=>h) (Zo hb1 (fun _ h _=>h)) (fun b e=>.inr (by omega)) (fun b=>Iff.rfl) (fun b e=>by rw[e]; exact hc1) (fun b e=>by have:=h.hz.below.size; omega);have HP0:Hid (bX W0 f ts q (fun b=>X b∨b=c) M w1 sb (RK 0) w1):=by rw[JH.o]; exact⟨L,hA1.post (Zn _ _)⟩
 have atL:=Zh aiX;have yT:Hid (c<w1.heap.size/\¬ M c/\w.heap.size<=c):=⟨hc1,hMc,by omega⟩
 have HWC:Hid (W0.heap.size<=c):=by
  have:=h.hz.below.size
  show _<=_
  omega
 have HB1:=Zh hb1;have atM:Hid (∀ (y:World) (X' M':Nat->Prop) (L':rV) (d:Nat),dQ W0 f ts q X' M' y sb L' (RK d)->(RK d).status=1->d<n->y.heap[c]? = some (.chan 0 #[] false 0 0 false)->Calls Tryz.prog 109 #[.pointer (some (aD sb 0)),.chan (some c),.int .i64 (jL x.xs d)] y fun e w'=>(∃ v,e=.returned v)/\bX W0 f ts q X' M' y sb (RK (d+1)) w'):=fun y X' M' L' d hA hs hd hch=>by
  rw[HST.o d hs];exact Vu E hA (AX.o d).1 hs (by have:=(AX.o d).2; omega) c 0 0 false hch (jL x.xs d)
 have HX:Hid (∀ y,Kept (fun b=>¬ M b) w1 y->x.At y):=fun y hy=>Xe (Qv hb1 hx) hy (fun _ a e=>hxm a e)
 have HXL:Hid (∀ a,0<x.xs.length->x.ad=some a->a.block<w.heap.size):=fun a h0 e=>hx.2.lt h0 a e
 have HPK:Hid (∀ (y:World) (d:Nat),x.At y->d<n->Ce 110 #[x.val,.int .i64 (d:Int)] y (.int .i64 (jL x.xs d))):=fun y d hy hd=>PZ x d y hy (by omega)
 have gz:Hid (∀ (y:World) (τ:iO) (X' M':Nat->Prop) (L':rV),dQ W0 f ts q X' M' y sb L' τ->Kept (fun b=>¬ M b) w y->(∀ b,M b->M' b)->(∀ b,M' b->M b∨w.heap.size<=b)->(∀ b,X' b↔(X b∨b=c)∨M' b)->bX W0 f ts q X M w sb τ y/\y.cell? (aD sb 18)=some (.int .i64 τ.status)):=fun y τ X' M' L' hA hk g1 g2 g3=>by
  refine⟨⟨L',X',fun b=>M' b∨b=c,hA.anx (fun b hb=>.inl hb) (fun b hb=>?_),hk,fun b hb=>.inl (g1 b hb),fun b hb=>?_,fun b=>?_⟩,(hA.cells bB).cell 18⟩
  ·rcases hb with hb | hb
   ·exact hA.sub b hb
   ·exact(g3 b).2 (.inl (.inr hb))
  ·rcases hb with hb | hb
   ·exact g2 b hb
   ·exact .inr (by omega)
  ·rw[g3];exact⟨fun h0=>by
    rcases h0 with (h0 | h0) | h0
    ·exact .inl h0
    ·exact .inr (.inr h0)
    ·exact .inr (.inl h0),fun h0=>by
    rcases h0 with h0 | h0 | h0
    ·exact .inl (.inl h0)
    ·exact .inr h0
    ·exact .inl (.inr h0)⟩
 have JU:=Zh hb1.size;have qG:Hid (∀ y,Kept (fun b=>¬ M b) w1 y->Kept (fun b=>¬ M b) w y):=fun y hy=>(Zo hb1 (fun _ h _=>h)).trans hy
 have hn63:n<=900:=by omega
 obtain⟨xa,xc,xx⟩:=x;simp only[ah.val]at *;obtain⟨xl,hxl⟩:∃ l,l=xx.length:=⟨_,rfl⟩
 have aAK:=Zh hxl;rw[<- hxl]at HPK ⊢;clear h hok hpl hx hxm bB Un hb1 aiX hc1 hMc hA1 hxl E;rw[<- hcw]at hmk;clear hcw;go_enter Tryz.func61,Tryz.ntmps61;go_wp2;clear hmk hw1;go_loopw [10] (fun iv wr=>∃ d:Nat,iv=.int .i64 (d:Int)/\d<=n/\Hid ((((tick<0∨(d:Int)<=tick)/\bX W0 f ts q (fun b=>X b∨b=c) M w1 sb (RK d) wr/\wr.heap[c]? = some (.chan 0 #[] false 0 0 false))∨(RT.status=4/\bX W0 f ts q X M w sb RT wr/\wr.cell? (aD sb 18)=some (.int .i64 4))))) (fun iv _=>n-(intOf iv).toNat)
 case atStart=>exact⟨0,rfl,Q8 _,.inl ⟨by omega,HP0.o,atL.o⟩⟩
 case round=>
  obtain⟨d,rfl,hdn,HI⟩:=hrel;rcases HI.o with⟨htk,hp,hch⟩ | ⟨hs4,hp,c18⟩
  ·obtain⟨L',X',M',hA,hk,g1,g2,g3⟩:=hp;obtain⟨hp2,c18⟩:=gz.o wr _ X' M' L' hA (qG.o wr hk) g1 (fun b hb=>by
    rcases g2 b hb with h0 | h0
    ·exact .inl h0
    ·exact .inr (Zl JU.o h0)) g3
   have HP2:=Zh hp2;clear hp2;by_cases hlt:d<n
   ·by_cases hs:(RK d).status=1
    ·rw[hs]at c18;have anz:¬ M' c:=fun hm=>by
      rcases g2 c hm with h0 | h0
      ·exact yT.o.2.1 h0
      ·have:=yT.o.1; omega
     have anA:=(g3 c).2 (.inl (.inr rfl));have HK:Hid (Kept (fun b=>¬ M b) w1 wr/\(∀ b,M b->M' b)/\(∀ b,M' b->M b∨w1.heap.size<=b)/\(∀ b,X' b↔(X b∨b=c)∨M' b)):=⟨hk,g1,g2,g3⟩
     by_cases htd:tick=(d:Int)
     ·have M0:=Zh (HTT.o d htd hlt hs);obtain⟨w2,hw2⟩:∃ y,y = { wr with heap:=wr.heap.setIfInBounds c (.chan 0 #[] true 0 0 false) }:=⟨_,rfl⟩
      have hcl:(Builtin.close_ #[179] 0 #[.chan (some c)]).run Tryz.prog wr=.ok (.tuple #[]) w2:=by rw[hw2]; exact run_close_open _ _ hch
      have hk2:Kept (fun b=>b≠c) wr w2:=by
       rw[hw2];exact⟨rfl,rfl,rfl,by simp,fun k _ hkc=>by simp only; rw[Array.getElem?_setIfInBounds_ne (fun e=>hkc e.symm)]⟩
      have aiY:w2.heap[c]? = some (.chan 0 #[] true 0 0 false):=by
       rw[hw2];have hl:=(QV.1 hch).1;simp[hl]
      have hA2:=hA.other (N:=fun b=>b=c) (N':=fun b=>b=c) (fun b e=>by rw[e]; exact anA) (fun b hm e=>anz (e ▸ hm)) (hk2.mono fun b _ hb=>hb) (fun b e=>.inl e) (fun b=>⟨fun h0=>.inl h0,fun h0=>by
       rcases h0 with h0 | h0
       ·exact h0
       ·rw[h0]; exact anA⟩) (fun b e=>by rw[e]; exact(QV.1 aiY).1) (fun b e=>by rw[e]; exact HWC.o)
      have hx2:aB w2 xa xx:=Xe (HX.o wr hk) (hk2.mono fun b _ hb=>hb) (fun h0 a e e'=>by have h1:=HXL.o a h0 e; have:=yT.o.2.2; omega);have hPK:=HPK.o w2 d hx2 hlt;have hSC:=Vs hA2 c (jL xx d) 0 0 false aiY;have rQ:=Zh hk2;subst htd;clear hA hk g1 g2 g3 hch hk2 aiY hA2 hx2 hw2 htk hs;generalize RK d=RD at *;go_wp2_with fail;refine hPK.mono ?_;rintro e wz ⟨rfl,hwz⟩;have pI:=hwz.symm;subst pI;clear hPK hcl c18;go_wp2_with fail;refine hSC.mono ?_;rintro e w3 ⟨⟨rv,rfl⟩,L3,X3,M3,hA3,hk3,g31,g32,g33⟩;have hfin:=gz.o w3 RT X3 M3 L3 (by rw[M0.o]; exact hA3) (((qG.o wr HK.o.1).trans' rQ.o (fun b hb _ e=>by have:=yT.o.2.2; omega)).trans' hk3 (fun b hb hm h0=>by
       rcases HK.o.2.2.1 b h0 with h1 | h1
       ·exact hm h1
       ·have:=JU.o; omega)) (fun b hb=>g31 b (HK.o.2.1 b hb)) (fun b hb=>by
       rcases g32 b hb with h1 | h1
       ·rcases HK.o.2.2.1 b h1 with h2 | h2
        ·exact .inl h2
        ·exact .inr (Zl JU.o h2)
       ·exact .inr (Zl JU.o (Zl HK.o.1.size (Zl rQ.o.size h1)))) (fun b=>by
       rw[g33,HK.o.2.2.2];exact⟨fun h0=>by
        rcases h0 with (h0 | h0) | h0
        ·exact .inl h0
        ·exact .inr (g31 b h0)
        ·exact .inr h0,fun h0=>by
        rcases h0 with h0 | h0
        ·exact .inl (.inl h0)
        ·exact .inr h0⟩)
      have HRS:Hid (RT.status=4):=by show _=_; rw[M0.o]
      have HF:Hid (RT.status=4/\bX W0 f ts q X M w sb RT w3/\w3.cell? (aD sb 18)=some (.int .i64 4)):=⟨HRS.o,hfin.1,by rw[<- HRS.o]; exact hfin.2⟩
      clear hSC hA3 hk3 g31 g32 g33 hfin;go_wp2;go_roundw
      case rel=>exact⟨d+1,by go_num,by omega,.inr HF.o⟩
      case measure=>simp[intOf]; omega
     ·have hPK:=HPK.o wr d (HX.o wr hk) hlt;have Fw:=atM.o wr X' M' L' d hA hs hlt hch;have HCH:=Zh hch;have HTK:Hid (tick<0∨((d+1:Nat):Int)<=tick):=by show _∨_; omega
      have aAL:¬ ((d:Int)=tick):=fun e=>htd e.symm
      clear hA hk g1 g2 g3 hch htk hs htd;go_wp2_with fail;refine hPK.mono ?_;rintro e wz ⟨rfl,hwz⟩;have pI:=hwz.symm;subst pI;clear hPK c18;go_wp2_with fail;refine Fw.mono ?_;rintro e w3 ⟨⟨rv,rfl⟩,hp3⟩;have anC:w3.heap[c]? = some (.chan 0 #[] false 0 0 false):=by
       obtain⟨_,_,_,_,hk3,-⟩:=hp3;rw[hk3.block c (QV.1 HCH.o).1 anz];exact HCH.o
      have HF:Hid ((tick<0∨((d+1:Nat):Int)<=tick)/\bX W0 f ts q (fun b=>X b∨b=c) M w1 sb (RK (d+1)) w3/\w3.heap[c]? = some (.chan 0 #[] false 0 0 false)):=⟨HTK.o,bX.trans HK.o.1 HK.o.2.1 HK.o.2.2.1 HK.o.2.2.2 hp3,anC⟩
      clear Fw hp3 anC;go_wp2;go_roundw
      case rel=>exact⟨d+1,by go_num,by omega,.inl HF.o⟩
      case measure=>simp[intOf]; omega
    ·have M0:=Zh (Kz.o d hs hdn htk);have hs':=hs;clear hA hk g1 g2 g3 hch htk;generalize RK d=RD at *;go_wp2;go_ret;exact⟨RT,rfl,by rw[M0.o]; rfl,by rw[M0.o]; exact HP2.o⟩
   ·have anD:n=d:=by omega
    have M0:Hid (RT=RK d):=by show _=_; rw[<- anD]; exact HTE.o (by omega)
    clear hA hk g1 g2 g3 hch htk anD;generalize RK d=RD at *;go_wp2;go_ret;exact⟨RT,rfl,by rw[M0.o]; rfl,by rw[M0.o]; exact HP2.o⟩
  ·have HF:Hid (RT.status=4/\bX W0 f ts q X M w sb RT wr):=⟨hs4,hp⟩
   clear hs4 hp;by_cases hlt:d<n
   ·go_wp2;go_ret;exact⟨RT,rfl,by rw[HF.o.1]; rfl,HF.o.2⟩
   ·go_wp2;go_ret;exact⟨RT,rfl,by rw[HF.o.1]; rfl,HF.o.2⟩
end
