import Derived.Test.YtgemohlbjehmbaaGreatDoorF33
set_option linter.all false
set_option maxRecDepth 100000
set_option maxHeartbeats 16000000
namespace Go.Proofs.Zz
open Go.RowKit Go.Shelf
variable {W0 w w1:World} {f:aC} {ts:List af} {q:ae} {M X:Nat->Prop} {i sb:Nat} {L:tJ} {σ:eF} {P:Program} {a:Act} {ops:Array Oper} {rest:List Nat} {o:Oper} {Q:Exit->Act->World->Prop} {v:Value}
def FJ(F:Nat->Prop)(w:World)(t:aQ)(e:Ending)(w':World):Prop:=∃ v nv,e=.returned (.tuple #[v,.int .u64 (t.d.cost:Int)])/\nv.map bL=t.ns/\iq 75 F w.heap.size w' v nv/\Bw w w'
theorem Y3(E:Env f ts q W0)(h:fe W0 f ts q X M w sb L σ)(hok:kN q σ.bq)(hl:σ.bq.ns.length<=800){F:Nat->Prop}(hF:∀ b,w.heap.size<=b->F b) :
  Calls Tryz.prog 35 #[.pointer (some (aD sb 0))] w (FJ F w σ.bq):=by
 obtain⟨v0,Z,v2,v3,v4,v5,v6,v7,v8,v9,P,Q,R,H,-⟩:=Z6 f ts q;have i:w.cell? (aD sb 16)=some (.pointer (some (aD L.bq 0))):=by have:=h.blk;rw[H]at this;exact this.cell 16
 obtain⟨p,I,J⟩:=h.bq.mg;have C:p.cost=σ.bq.d.cost:=congrArg bK.cost J;have r:w.cell? (aD L.bq 5)=some (.int .u64 (σ.bq.d.cost:Int)):=by rw[<- C]; exact I.c5
 have m:dn w 0:=λj u T=>h.hz.below.cell _ _ _ (E.shapes j u T);have D:Hid (∀ x,x=w.drew->Calls Tryz.prog 61 #[.pointer (some (aD L.bq 0))] x (jZ 75 F x σ.bq.ns)):=λx U=>by rw[U];exact Y2 (h.bq.below ((Qm _ _).drew)) (Xm ((Qm _ _).drew) m) hok (by omega) hF
 have G:=D.o w.drew rfl;generalize L.bq=bp at *;generalize σ.bq=B at *;clear h hok hl H I J C m D E p;obtain⟨s,t⟩:=B;simp only at *;obtain⟨cost,y⟩:∃ n,n=s.cost:=⟨_,rfl⟩;have N:Hid (∀ v l w',l.map bL=t->iq 75 F w.heap.size w' v l->Bw w w'->FJ F w ⟨s,t⟩ (.returned (.tuple #[v,.int .u64 (cost:Int)])) w'):=λv l w' V W Y=>⟨v,l,by rw[y],V,W,Y⟩;rw[<- y]at r;clear y;generalize FJ F w ⟨s,t⟩=BP at *;go_enter Tryz.func35,Tryz.ntmps35;go_wp2_with fail;refine wH w λa=>?_;refine wt 0 (.pointer (some (aD sb 0))) a ?_;refine wt 1 (.pointer (some (aD sb 0))) a ?_;refine wt 2 (.pointer (some (aD sb 16))) a ?_;refine l8 3 (.pointer (some (aD bp 0))) a i ?_;refine wt 5 (.pointer (some (aD sb 0))) a ?_;refine wt 6 (.pointer (some (aD sb 0))) a ?_;refine wt 7 (.pointer (some (aD sb 16))) a ?_;refine l8 8 (.pointer (some (aD bp 0))) a i ?_;refine wt 9 (.pointer (some (aD bp 0))) a ?_;refine wt 10 (.pointer (some (aD bp 0))) a ?_;refine wt 11 (.pointer (some (aD bp 5))) a ?_;refine l8 12 (.int .u64 (cost:Int)) a r ?_;refine wR 4 λK g=>?_;go_simp;refine Z5 G ?_;rintro e S ⟨v,l,rfl,z,k,A⟩;obtain⟨na,nm,nc,rfl⟩:=Zk k.own;refine g.o _ _ ((Qm w.heap.size w).drew.trans A) (λa=>?_);clear g K;refine wR 13 λK g=>?_;go_simp;refine g.o _ _ a λa=>?_;clear g K;refine wR 14 λK g=>?_;go_simp;refine g.o _ _ a λa=>?_;clear g K;refine wD ?_;try simp only[pV]
 try simp only[pV]
 have O:=Zh (N.o _ l S z k a);clear a k G i r;go_wp2;exact O.o
section
open Go.Conc
theorem Y5{b:Frame}{k:List Go.Item}{cs:List Frame}{w':World}{cases:Array CommCase}{blocking:Bool}{shape:CommShape}(ho:ops[i]? = some o)(hw:Region.wanted o (yielded ops a.tmps)=true)(hr:(execOp a.eval o).run P w=.ok (.comm cases blocking shape) w') :
  ∃ f,Go.stepG P true (Go.Conc.G (b.at a (.inRegion ops (i::rest)::k)) cs) w=.comm (Go.Conc.G (b.at a (.inRegion ops (i::rest)::k)) cs) cases blocking shape w' f:=by
 by_cases e:b.kind=.early
 ·have d:(b.kind==CallKind.early)=true:=by simpa using e
  rw[stepG_oper ho hw];simp[Go.stepG.apply,hr,Go.Conc.G,Frame.at,d,GStep.after]
 ·exact⟨_,stepG_comm ho hw e hr⟩
theorem Jh{id:Nat}{c:CommCase}(hrg:List.range ops.size=0::rest)(ho:ops[0]? = some o)(hw:Region.wanted o (yielded ops a.tmps)=true)(hr:(execOp a.eval o).run P w=.ok (.comm #[c] false .select) w)
  (hs:∀ (fr:Frame) (cs:List Frame) (i:Array Event),Go.stepG P true (Go.Conc.G fr cs) w=.comm (Go.Conc.G fr cs) #[c] false .select w i->Go.step P (solo (Go.Conc.G fr cs) w)=.next (solo (Go.Conc.G (fr.finish v) cs) w)) (h:wpOps P ops Q rest (a.put o.dst v) w):(Code.region id ops false).wp P Q a w:=by
 intro b k cs;obtain⟨e,l,w',m,d⟩:=wp_ops rest _ _ h b k cs;obtain⟨i,f⟩:=Y5 (P:=P) (b:=b) (k:=k) (cs:=cs) (rest:=rest) ho hw hr;have j:Go.step P (lone (b.at a (.inRegion ops (0::rest)::k)) cs w)=.next (lone (b.at (a.put o.dst v) (.inRegion ops rest::k)) cs w):=by have g:=hs _ _ _ f;rw[Frame.finish_at,ho]at g;exact g
 refine⟨e,l,w',m,.of_steps (.head ?_ (.one j)) d⟩;have:=step_region (P:=P) (b:=b) (a:=a) (k:=k) (cs:=cs) (w:=w) (ops:=ops) (id:=id);rw[hrg]at this;exact this
theorem qP(ho:ops[i]? = some o)(hw:Region.wanted o (yielded ops a.tmps)=true)(hr:(execOp a.eval o).run P w=.ok (.value v) w)(h:wpOps P ops Q rest (a.put o.dst v) w):wpOps P ops Q (i::rest) a w:=by simp only[wpOps,ho,hw,if_true];left;unfold Oper.wp;rw[hr];exact h
theorem Y6(h:fe W0 f ts q X M w sb L σ)(c:Nat)(pick:Int)(s r:Nat)(tm:Bool)(hc:w.heap[c]? = some (.chan 0 #[] true s r tm)) :
  Calls Tryz.prog 33 #[.pointer (some (aD sb 0)),.chan (some c),.int .i64 pick] w λe w'=>(∃ v,e=.returned v)/\dz W0 f ts q X M w sb { σ with status:=4 } w':=by
 obtain⟨v0,B,C,v3,v4,v5,D,E,F,v9,u,y,z,j,-⟩:=Z6 f ts q;have a:=h.cells j;have m:=a.at 18;have n:=a.frozen 18;have p:=Zh hc;have t:Hid (dz W0 f ts q X M w sb { σ with status:=4 } (w.setCell (aD sb 18) (.int .i64 4))):=by have d:=h.ne;have i:Kept (λb=>b≠sb) w (w.setCell (aD sb 18) (.int .i64 4)):=Zf _ _ _ (λh=>h rfl);refine⟨_,h.next (i.mono λb _ A=>A.1) (av:=L.av) (pv:=L.pv) (ag:=σ.ak) (pk:=σ.picks) (st:=4) ?_ (Zi h.ag i (λg e k=>d.1 (k ▸ e))) (.inl rfl) (Zi h.pk i (λg e k=>d.2.1 (k ▸ e))) (.inl rfl)⟩;rw[j];exact a.set 18 (.int .i64 4)
 clear hc h a j;go_enter Tryz.func33,Tryz.ntmps33;go_upto_region 1 with fail;refine Jh (rest:=[1,2]) (c:=rcase c (.agg #[])) (v:=.tuple #[goInt (0),.bool false,.agg #[]]) (by kernel_rfl) rfl (by kernel_rfl) (by simp[go_sem,execOp,rcase,rcaseNil,Act.eval]) (λfr cs G l=>step_lone_select_recv_shut l p.o) ?_;refine qP (v:=.int .i64 (0)) rfl (by kernel_rfl) (by simp[go_sem,execOp,Act.eval,Act.put,goInt]) ?_;refine qP (v:=.bool true) rfl (by kernel_rfl) (by simp[go_sem,execOp,Act.eval,Act.put,goInt]) ?_;show Exit.then _ _ Exit.normal _ _;simp only[Act.put,XC,XD,XE,QA,Qb,Qc];go_wp2;go_end0;exact⟨⟨_,rfl⟩,t.o⟩
end
section
open Go.Conc
theorem aqZ(f:aC)(ts:List af)(q:ae)(L:tJ)(σ:eF)(pv:Value):(f.cells ts q++jA L σ).setIfInBounds 17 pv=f.cells ts q++jA { L with pv:=pv } σ:=by obtain⟨v0,g,i,v3,v4,v5,j,k,l,v9,a,b,d,e,-⟩:=Z6 f ts q;rw[e];rfl
theorem Y7(W:World)(base:Nat)(t ty e:TypeId)(i:TypeInfo)(z:Value)(size bytes:Nat)(ht:P.underlying t=some (.slice e))(hi:P.info? e=some i)(hz:i.zero=some z)(hsize:i.size=size)(hby:i.bytes=bytes)(hzs:z.cells.size=size)(hsz:0<size)
  (v:Value) (n:Nat) (xs:List Value) (hown:W.ownsRow base e size v n xs) (hb:base<=W.heap.size) (news:List Value) (hl:news.length=size) (h1:∀ u∈news,u.oneCell' = true) (hn:n<=8000) (hbb:bytes<=1000) :
  ∃ d w',(Builtin.append_ #[t,t] ty #[v,.slice (some (aD W.heap.size 0)) 1 1]).run P (W.alloc (.cells news.toArray e))=.ok d w'/\w'.ownsRow base e size d (n+1) (xs++news)/\Kept (λb=>v.ownBlock≠some b) W w'/\(∃ a m c,d = .slice a m c)/\(d.ownBlock=v.ownBlock∨d.ownBlock=some (W.heap.size+1)):=by
 obtain⟨d,w',g,k,l,_,f⟩:=Zw (P:=P) (W.alloc (.cells news.toArray e)) base t ty e i z size bytes ht hi hz hsize hby hzs hsz v n xs (hown.alloc _) (aD W.heap.size 0) 1 1 news (by rw[hl,Nat.one_mul])
  (λj u o=>by
   rw[Qx,QL];simp only[World.cell?,qH W _];simpa using o) h1 (by unfold maxLen; omega) (by have:(n+1)*bytes<=8001*1000:=Nat.mul_le_mul (by omega) hbb; omega) (by rw[ZA]; omega)
 exact⟨d,w',g,k,(Q9 _ _).trans (Zg l (λr e g=>g e)),Zk k,by rw[ZA]at f; exact f⟩
theorem Y8(W:World)(base:Nat)(v:Value)(xs:List Int)(hown:W.ownsRow base 3 1 v xs.length (xs.map (Value.int .i64)))(hl:xs.length<=8000)(hb:base<=W.heap.size)(a:Int)(ty:TypeId) :
  ∃ d w',(Builtin.append_ #[22,22] ty #[v,.slice (some (aD W.heap.size 0)) 1 1]).run Tryz.prog (W.alloc (.cells #[.int .i64 a] 3))=.ok d w'/\
   w'.ownsRow base 3 1 d (xs++[a]).length ((xs++[a]).map (Value.int .i64))/\Kept (λb=>v.ownBlock≠some b) W w'/\(∃ a m c,d = .slice a m c)/\(d.ownBlock=v.ownBlock∨d.ownBlock=some (W.heap.size+1)):=by
 obtain⟨j,k,e,f,g⟩:=Zv Tryz.nG;obtain⟨d,w',n,o,p,q,l⟩:=Y7 (P:=Tryz.prog) W base 22 ty 3 j _ 1 8 Tryz.underlying22 k e f g rfl (by decide) v xs.length _ hown hb [.int .i64 a] rfl (λu i=>by
  rw[Zy]at i;rw[i];rfl) hl (by decide)
 grind
theorem fe.picked(h:fe W0 f ts q X M w sb L σ){pv:Value}{p:Int}(ho:w1.ownsRow W0.heap.size 3 1 pv (σ.picks++[p]).length ((σ.picks++[p]).map (Value.int .i64)))(hk:Kept (λb=>L.pv.ownBlock≠some b) w w1)(hat:pv.ownBlock=L.pv.ownBlock∨pv.ownBlock=some (w.heap.size+1)) :
  jV W0 f ts q X M w sb { L with pv:=pv } { σ with picks:=σ.picks++[p] } (w1.setCell (aD sb 17) pv):=by
 have a:=h.ne;have i:=h.blk.keep hk a.2.1;have d:Kept (λb=>b≠sb) w1 (w1.setCell (aD sb 17) pv):=Zf _ _ _ (λh=>h rfl);refine h.next ((hk.mono λb _ j=>j.2.2).trans (d.mono λb _ j=>j.1)) (av:=L.av) (pv:=pv) (ag:=σ.ak) (pk:=σ.picks++[p]) (st:=σ.status) ?_ ?_ (.inl rfl) ?_ ?_
 ·have:=i.set 17 pv;rw[aqZ]at this;exact this
 ·exact Zi (Zi h.ag hk (λg e=>a.2.2.1 g e)) d (λg e k=>a.1 (k ▸ e))
 ·exact Zi ho d (λg e k=>jq ho i (by decide) (k ▸ e))
 grind
theorem fe.taken(h:fe W0 f ts q X M w sb L σ){av:Value}{ag:List aO}(hg:GB w1 sb 97 ((f.cells ts q++jA L σ).setIfInBounds 14 av))(ho:w1.ownsRow W0.heap.size 122 2 av ag.length (ag.flatMap fw))(hk:Kept (λb=>b≠sb/\L.av.ownBlock≠some b) w w1)(hat:av.ownBlock=L.av.ownBlock) :
  jV W0 f ts q X M w sb { L with av:=av } { σ with ak:=ag } w1:=by
 have a:=h.ne;refine h.next (hk.mono λb _ i=>⟨i.1,i.2.1⟩) (av:=av) (pv:=L.pv) (ag:=ag) (pk:=σ.picks) (st:=σ.status) ?_ ho (.inl hat) ?_ (.inl rfl)
 ·rw[ada]at hg;exact hg
 ·exact Zi h.pk hk (λg e=>⟨λd=>a.2.1 (d ▸ e),λd=>a.2.2.1 g d e⟩)
theorem fe.settled(h:fe W0 f ts q X M w sb L σ)(hal:σ.ak.length<=1000000):Calls Tryz.prog 60 #[.pointer (some (aD sb 0))] w λe w'=>(∃ v,e=.returned v)/\dz W0 f ts q X M w sb (iA σ) w':=by
 obtain⟨v0,s,t,v3,v4,v5,u,y,z,v9,k,l,m,o,-⟩:=Z6 f ts q;have j:=h.cells o;obtain⟨A,B,p,-⟩:=wK h.ag hal;have d:=j;rw[p]at d;have i:=h.ne;refine(Sn sb v0 s t v3 v4 v5 u y z v9 k l m _ _ _ A σ.ak.length B σ.cut σ.status w d).mono ?_;rintro e w' ⟨hv,n,a⟩;refine⟨hv,?_⟩;have r:iA σ = { σ with ak:=σ.ak,picks:=σ.picks,status:=if 0<σ.ak.length then σ.status else if σ.cut=true then 3 else 2 }:=by unfold iA;split <;> rfl
 rw[r];refine⟨_,h.next (n.mono λb _ C=>C.1) (av:=L.av) (pv:=L.pv) (ag:=σ.ak) (pk:=σ.picks) (st:=if 0<σ.ak.length then σ.status else if σ.cut=true then 3 else 2) ?_ (Zi h.ag n (λg e a=>i.1 (a ▸ e))) (.inl rfl) (Zi h.pk n (λg e a=>i.2.1 (a ▸ e))) (.inl rfl)⟩;rw[o];rw[<- p]at a;exact a
theorem Ji(E:Env f ts q W0)(h:fe W0 f ts q X M w sb L σ)(hok:uu q σ)(h1:σ.status=1)(hpl:σ.picks.length<=8000)(c:Option Nat)(hc:∀ n,c=some n->∃ s r tm,w.heap[n]? = some (.chan 0 #[] false s r tm))(pick:Int) :
  Calls Tryz.prog 33 #[.pointer (some (aD sb 0)),.chan c,.int .i64 pick] w λe w'=>(∃ v,e=.returned v)/\dz W0 f ts q X M w sb (fu bJ ts q (aN ts q) pick σ) w':=by
 obtain⟨v0,v1,v2,v3,v4,v5,v6,v7,v8,v9,aX,aY,aZ,bR,-⟩:=Z6 f ts q;have p:=h.cells bR;have hn:=hok.stat h1;have aJ:=hok.aoN;have aK:σ.ak.length<=520000:=by omega
 obtain⟨aa,ac,Pw,-⟩:=wK h.ag (by omega);obtain⟨pa,pm,pc,l⟩:=Zk h.pk;have hp:=pJ hn pick;obtain⟨P,U⟩:=eY (dP σ.ak.length pick);obtain⟨a,g⟩:∃ a:Nat,P=(a:Int):=⟨P.toNat,by rw[U]; omega⟩;have u:a<σ.ak.length:=by rw[<- U,g]at hp; omega
 have y:=TI aa σ.ak.length ac pick w hn (by omega);rw[<- U,g]at y;obtain⟨v',V,A,W,B,⟨za,zm,zc,rfl⟩,Y⟩:=Y8 w W0.heap.size L.pv σ.picks h.pk (by omega) h.hz.below.size P 22;rw[l,g]at A;obtain⟨X2,M2,i,C,D,F,G⟩:=h.picked W B Y;have aV:=Zh i;have aW:Hid (Kept (λb=>¬ M b) w (V.setCell (aD sb 17) (.slice za zm zc))/\(∀ b,M b->M2 b)/\(∀ b,M2 b->M b∨w.heap.size<=b)/\(∀ b,X2 b↔X b∨M2 b)):=⟨C,D,F,G⟩;have j:=h.blk.keep B h.ne.2.1;rw[bR]at j;have K:V.cell? (aD sb 17)=some L.pv:=j.cell 17;rw[l]at K;have aL:=j.frozen 17;have N:w.cell? (aD sb 14)=some L.av:=p.cell 14;rw[Pw]at N;have O:w.cell? (aD sb 17)=some L.pv:=p.cell 17;rw[l]at O;have aM:Hid (∀ x,x=V.setCell (aD sb 17) (.slice za zm zc)->Calls Tryz.prog 59 #[.pointer (some (aD sb 14)),.int .i64 (a:Int)] x λe w'=>e=.returned (.agg #[.int .u64 ((σ.ak.getD a (0,0)).1:Int),.int .u64 ((σ.ak.getD a (0,0)).2:Int)])/\∃ I,jV W0 f ts q X M w sb I { σ with picks:=σ.picks++[P],ak:=σ.ak.eraseIdx a } w'):=λx hx=>by rw[hx];refine(Yp sb W0.heap.size a _ L.av σ.ak _ i.blk (aiu f ts q _ _) i.ag (by omega) u).mono ?_;rintro e w' ⟨rfl,bf,aR,aS,aT,Z⟩;exact⟨rfl,_,jV.trans C D F G (i.taken aR aS aT Z)⟩
 have d:=hok.core.erase a (σ.picks++[P]);have z:mX q.src.xs.length σ.groups (σ.ak.getD a (0,0)):=hok.core.task _ (Zr u);have aO:=acO (rk:=bJ) (ts:=ts) (conc:=aN ts q) (ZB ts q) (t:=σ.ak.getD a (0,0)) d E.five z;have aP:Hid (∀ x J m I,fe W0 f ts q J m x sb I { σ with picks:=σ.picks++[P],ak:=σ.ak.eraseIdx a }->Calls Tryz.prog 58 #[.pointer (some (aD sb 0)),.agg #[.int .u64 ((σ.ak.getD a (0,0)).1:Int),.int .u64 ((σ.ak.getD a (0,0)).2:Int)]] x λe w'=>(∃ v,e=.returned v)/\dz W0 f ts q J m x sb (qM bJ ts q (aN ts q) (σ.ak.getD a (0,0)) { σ with picks:=σ.picks++[P],ak:=σ.ak.eraseIdx a }) w'):=λx J m I hx=>
  al2 E hx d (by grind) _ z
 have Q:(qM bJ ts q (aN ts q) (σ.ak.getD a (0,0)) { σ with picks:=σ.picks++[P],ak:=σ.ak.eraseIdx a }).ak.length<=1000000:=by grind
 have HR:Hid (fu bJ ts q (aN ts q) pick σ=iA (qM bJ ts q (aN ts q) (σ.ak.getD a (0,0)) { σ with picks:=σ.picks++[P],ak:=σ.ak.eraseIdx a })):=by show _=_;unfold fu;simp only;rw[<- U,g];rfl
 generalize fu bJ ts q (aN ts q) pick σ=SN at *;generalize qM bJ ts q (aN ts q) (σ.ak.getD a (0,0)) { σ with picks:=σ.picks++[P],ak:=σ.ak.eraseIdx a } = DN at *;have aQ:=Zh Q;generalize (σ.ak.getD a (0,0)).1=tl at *;generalize (σ.ak.getD a (0,0)).2=tr at *;generalize σ.ak.length=an at *;have HC:=Zh hc;clear hc;clear h hok h1 hpl bR p hn aJ aK Pw l hp U g u W B Y i C D F G j d z aO Q E;go_enter Tryz.func33,Tryz.ntmps33;go_upto_region 1 with fail;refine Jh (rest:=[1,2]) (c:=match c with | none=>rcaseNil (.agg #[]) | some n=>rcase n (.agg #[])) (v:=.tuple #[goInt (-1),.bool false,.agg #[]]) (by kernel_rfl) rfl (by kernel_rfl) (by cases c <;> simp[go_sem,execOp,rcase,rcaseNil,Act.eval]) (λfr cs es aI=>by
  cases c with
  | none => exact step_lone_select_recv_nil aI
  | some n =>
   obtain⟨_,_,_,h⟩:=HC.o n rfl;exact step_lone_select_default aI h) ?_
 refine qP (v:=.int .i64 (-1)) rfl (by kernel_rfl) (by simp[go_sem,execOp,Act.eval,Act.put,goInt]) ?_;refine qP (v:=.bool false) rfl (by kernel_rfl) (by simp[go_sem,execOp,Act.eval,Act.put,goInt]) ?_;show Exit.then _ _ Exit.normal _ _;simp only[Act.put,XC,XD,XE,QA,Qb,Qc];go_wp2_with fail;refine y.mono ?_;rintro e wz ⟨rfl,aU⟩;have rA:=aU.symm;subst rA;clear y;go_wp2_with (first | (at_builtin; refine Zt rfl (.tmp 21) (.tmp 23) 22 rfl (.slice pa pm pc) (.slice (some (aD w.heap.size 0)) 1 1) (.slice za zm zc) V rfl rfl A ?_));clear A N O;go_upto_region 4 with fail;obtain⟨w2,H⟩:∃ x,x=V.setCell (aD sb 17) (.slice za zm zc):=⟨_,rfl⟩;rw[<- H];have R:=aM.o w2 H;clear H K aL;go_wp2_with fail;refine R.mono ?_;rintro e w3 ⟨rfl,I,J,m,ah,ai,aj,au,ax⟩;have S:=aP.o w3 J m I ah;have xE:Hid (Kept (λb=>¬ M b) w w3/\(∀ b,M b->m b)/\(∀ b,m b->M b∨w.heap.size<=b)/\(∀ b,J b↔X b∨m b)):=⟨ai,aj,au,ax⟩;clear R ah ai aj au ax;go_wp2_with fail;refine S.mono ?_;rintro e w4 ⟨⟨rv,rfl⟩,ay⟩;obtain⟨L4,X4,M4,az,aA,aB,aF,aG⟩:=dz.trans xE.o.1 xE.o.2.1 xE.o.2.2.1 xE.o.2.2.2 ay;have T:=az.settled aQ.o;have k:Hid (Kept (λb=>¬ M b) w w4/\(∀ b,M b->M4 b)/\(∀ b,M4 b->M b∨w.heap.size<=b)/\(∀ b,X4 b↔X b∨M4 b)):=⟨aA,aB,aF,aG⟩;clear S ay az aA aB aF aG;go_wp2_with fail;refine T.mono ?_;rintro e w5 ⟨⟨bg,rfl⟩,aH⟩;have HF:Hid (dz W0 f ts q X M w sb SN w5):=by rw[HR.o];exact dz.trans k.o.1 k.o.2.1 k.o.2.2.1 k.o.2.2.2 aH
 clear T aH;go_wp2;go_end0;exact⟨⟨_,rfl⟩,HF.o⟩
theorem Y9(E:Env f ts q W0)(h:fe W0 f ts q X M w sb L σ)(hok:uu q σ)(h1:σ.status=1)(hpl:σ.picks.length<=8000)(pick:Int) :
  Calls Tryz.prog 33 #[.pointer (some (aD sb 0)),.chan none,.int .i64 pick] w λe w'=>(∃ v,e=.returned v)/\dz W0 f ts q X M w sb (fu bJ ts q (aN ts q) pick σ) w':=Ji E h hok h1 hpl none (λ_ e=>by cases e) pick
theorem aaa(E:Env f ts q W0)(h:fe W0 f ts q X M w sb L σ)(hok:uu q σ)(h1:σ.status=1)(hpl:σ.picks.length<=8000)(c s r:Nat)(tm:Bool)(hc:w.heap[c]? = some (.chan 0 #[] false s r tm))(pick:Int) :
  Calls Tryz.prog 33 #[.pointer (some (aD sb 0)),.chan (some c),.int .i64 pick] w λe w'=>(∃ v,e=.returned v)/\dz W0 f ts q X M w sb (fu bJ ts q (aN ts q) pick σ) w':=Ji E h hok h1 hpl (some c) (λn e=>by cases e; exact⟨s,r,tm,hc⟩) pick
end
section
open Go.Conc
theorem fe.aq3{M':Nat->Prop}(h:fe W0 f ts q X M w sb L σ)(h1:∀ b,M b->M' b)(h2:∀ b,M' b->X b):fe W0 f ts q X M' w sb L σ:=
 ⟨h.hz,h2,h1 _ h.msb,h.blk,h.UW,h.gsl,h.vH,λk a=>⟨(h.jd k a).1,h1 _ (h.jd k a).2.1,(h.jd k a).2.2⟩,h.apart,h.ag,λb e=>h1 b (h.UX b e),h.bq,h.pk,λb e=>h1 b (h.UY b e)⟩
theorem aab(E:Env f ts q W0)(h:fe W0 f ts q X M w sb L σ)(hok:uu q σ)(hpl:σ.picks.length<=8000)(pick:Int) :
  Calls Tryz.prog 20 #[.pointer (some (aD sb 0)),.int .i64 pick] w λe w'=>∃ τ,τ=(if σ.status=1 then fu bJ ts q (aN ts q) pick σ else σ)/\e=.returned (.int .i64 τ.status)/\dz W0 f ts q X M w sb τ w':=by
 obtain⟨v0,u,v,v3,v4,v5,y,z,A,v9,p,r,s,j,-⟩:=Z6 f ts q;have a:=h.cells j;have k:=a.at 18;by_cases i:σ.status=1
 ·rw[Qo i];have b:=Y9 E h hok i hpl pick;rw[i]at k;have m:=Zh j;clear a j h hok i hpl E;generalize fu bJ ts q (aN ts q) pick σ=SN at *;go_enter Tryz.func20,Tryz.ntmps20;go_wp2_with fail;refine b.mono ?_;rintro e t ⟨⟨B,rfl⟩,d⟩;have l:=Zh d;obtain⟨C,D,F,g,-⟩:=d;have n:t.cell? (aD sb 18)=some (.int .i64 SN.status):=(g.cells m.o).cell 18;clear b g;go_wp2;go_ret;exact⟨SN,rfl,rfl,l.o⟩
 ·rw[Qu i];have l:Hid (dz W0 f ts q X M w sb σ w):=⟨_,h.post (Q5 _ _)⟩
  clear a j h hok hpl E;go_enter Tryz.func20,Tryz.ntmps20;go_wp2;go_ret;exact⟨σ,rfl,rfl,l.o⟩
theorem Tryz.adX:(Tryz.prog.info? 129).map (·.bytes)=some 0:=by kernel_rfl
theorem mkc(w:World):(Instr.makeChan 91 (.int .i64 0)).run Tryz.prog w=.ok (.chan (some w.heap.size)) (w.alloc (.chan 0 #[] false 0 0 false)):=by obtain⟨i,a,b⟩:=Option.map_eq_some_iff.1 Tryz.adX;simpa using run_makeChan (P:=Tryz.prog) (w:=w) Tryz.underlying91 a .i64 0 (by omega) (by rw[b]; omega)
theorem ag2(E:Env f ts q W0)(h:fe W0 f ts q X M w sb L σ)(hok:uu q σ)(n:Nat)(hn:n<=1000000)(tick:Int)(x:ai)(hpl:∀ d,(runN bJ ts q (aN ts q) x.xs d 0 σ).status=1->d<n->σ.picks.length+d<=8000)(hx:x.At w)(hxm:∀ a,x.ad=some a->¬ M a.block) :
  Calls Tryz.prog 17 #[.pointer (some (aD sb 0)),.int .i64 (n:Int),.int .i64 tick,x.val] w λe w'=>∃ τ,τ=goT bJ ts q (aN ts q) x.xs n tick σ/\e=.returned (.int .i64 τ.status)/\dz W0 f ts q X M w sb τ w':=by
 obtain⟨v0,v1,v2,v3,v4,v5,v6,v7,v8,v9,bC,bD,bE,bR,-⟩:=Z6 f ts q;obtain⟨i,Q⟩:∃ R:Nat->eF,R=λd=>runN bJ ts q (aN ts q) x.xs d 0 σ:=⟨_,rfl⟩;have Be:Hid (∀ d,uu q (i d)/\(i d).picks.length<=σ.picks.length+d):=λd=>by rw[Q]; exact mr (ZB ts q) E.five x.xs hok d
 have CO:Hid (∀ d,(i d).status=1->d<n->σ.picks.length+d<=8000):=by rw[Q]; exact hpl
 have aQ:Hid (∀ d,(i d).status=1->i (d+1)=fu bJ ts q (aN ts q) (jU x.xs d) (i d)):=λd j=>by rw[Q]at j ⊢;show runN bJ ts q (aN ts q) x.xs (d+1) 0 σ=_;rw[iT,Qo j,QL]
 have aR:Hid (i 0=σ):=by show _=_; rw[Q]; rfl
 have MX:Hid (∀ d,(i d).status≠1->d<=n->(tick<0∨(d:Int)<=tick)->goT bJ ts q (aN ts q) x.xs n tick σ=i d):=λd j hd ht=>by rw[Q]at j ⊢; exact adQ j hd ht
 have bq:Hid ((tick<0∨(n:Int)<=tick)->goT bJ ts q (aN ts q) x.xs n tick σ=i n):=λht=>by rw[Q]; exact K4 ht
 have aS:Hid (∀ d:Nat,tick=(d:Int)->d<n->(i d).status=1->goT bJ ts q (aN ts q) x.xs n tick σ = { i d with status:=4 }):=λd e hd j=>by rw[e]; rw[Q]at j ⊢; exact adR hd j
 generalize goT bJ ts q (aN ts q) x.xs n tick σ=RT at *;obtain⟨A,G⟩:∃ y,w.alloc (.chan 0 #[] false 0 0 false)=y:=⟨_,rfl⟩;have V:=mkc w;rw[G]at V;have s:Bw w A:=by rw[<- G]; exact(Qm _ _).alloc (Qn _) _
 obtain⟨c,aa⟩:=eY (w.heap.size);have W:A.heap[c]? = some (.chan 0 #[] false 0 0 false):=by rw[<- G,aa]; exact qH _ _
 have Y:=(Zb.1 W).1;have av:¬ M c:=λhm=>by have:=(h.lt (h.sub _ hm)).2; omega
 have ax:=h.other (N:=λ_=>False) (N':=λb=>b=c) (λ_ h=>h.elim) (λ_ _ h=>h) (Q7 s (λ_ h _=>h)) (λb e=>.inr (by omega)) (λb=>Iff.rfl) (λb e=>by rw[e]; exact Y) (λb e=>by have:=h.hz.below.size; omega);have aT:Hid (dz W0 f ts q (λb=>X b∨b=c) M A sb (i 0) A):=by rw[aR.o]; exact⟨L,ax.post (Q5 _ _)⟩
 have aU:=Zh W;have BH:Hid (c<A.heap.size/\¬ M c/\w.heap.size<=c):=⟨Y,av,by omega⟩;have aV:Hid (W0.heap.size<=c):=by have:=h.hz.below.size;show _<=_;omega
 have bu:=Zh s;have aW:Hid (∀ (y:World) (X' p:Nat->Prop) (H:tJ) (d:Nat),fe W0 f ts q X' p y sb H (i d)->(i d).status=1->d<n->y.heap[c]? = some (.chan 0 #[] false 0 0 false)->Calls Tryz.prog 33 #[.pointer (some (aD sb 0)),.chan (some c),.int .i64 (jU x.xs d)] y λe w'=>(∃ v,e=.returned v)/\dz W0 f ts q X' p y sb (i (d+1)) w'):=λy X' p H d t j hd m=>by rw[aQ.o d j];exact aaa E t (Be.o d).1 j (Q6 (Be.o d).2 (CO.o d j hd)) c 0 0 false m (jU x.xs d)
 have HX:Hid (∀ y,Kept (λb=>¬ M b) A y->x.At y):=λy hy=>ZH (Ql s hx) hy (λ_ a e=>hxm a e);have aX:Hid (∀ a,0<x.xs.length->x.ad=some a->a.block<w.heap.size):=λa g e=>hx.2.lt g a e;have Z:Hid (∀ (y:World) (d:Nat),x.At y->d<n->Ce 34 #[x.val,.int .i64 (d:Int)] y (.int .i64 (jU x.xs d))):=λy d hy hd=>TJ x d y hy (by omega);have iL:Hid (∀ (y:World) (τ:eF) (X' p:Nat->Prop) (H:tJ),fe W0 f ts q X' p y sb H τ->Kept (λb=>¬ M b) w y->(∀ b,M b->p b)->(∀ b,p b->M b∨w.heap.size<=b)->(∀ b,X' b↔(X b∨b=c)∨p b)->dz W0 f ts q X M w sb τ y/\y.cell? (aD sb 18)=some (.int .i64 τ.status)):=λy τ X' p H t D S T U=>by
  refine⟨⟨H,X',λb=>p b∨b=c,t.aq3 (λb r=>.inl r) (λb r=>?_),D,λb r=>.inl (S b r),λb r=>?_,λb=>?_⟩,(t.cells bR).cell 18⟩
  ·grind
  ·grind
  grind
 have Ml:=Zh s.size;have uR:Hid (∀ y,Kept (λb=>¬ M b) A y->Kept (λb=>¬ M b) w y):=λy hy=>(Q7 s (λ_ h _=>h)).trans hy;obtain⟨xa,xc,xx⟩:=x;simp only[ai.val]at *;obtain⟨xl,ag⟩:∃ l,l=xx.length:=⟨_,rfl⟩;have bz:=Zh ag;rw[<- ag]at Z ⊢;clear h hok hpl hx hxm bR Q s W Y av ax ag E;rw[<- aa]at V;clear aa;go_enter Tryz.func17,Tryz.ntmps17;go_wp2;clear V G;go_loopw [10] (λiv wr=>∃ d:Nat,iv=.int .i64 (d:Int)/\d<=n/\Hid ((((tick<0∨(d:Int)<=tick)/\dz W0 f ts q (λb=>X b∨b=c) M A sb (i d) wr/\wr.heap[c]? = some (.chan 0 #[] false 0 0 false))∨(RT.status=4/\dz W0 f ts q X M w sb RT wr/\wr.cell? (aD sb 18)=some (.int .i64 4))))) (λiv _=>n-(intOf iv).toNat)
 case atStart=>exact⟨0,rfl,QK _,.inl ⟨by omega,aT.o,aU.o⟩⟩
 case round=>
  obtain⟨d,rfl,bn,HI⟩:=hrel;rcases HI.o with⟨htk,hp,m⟩ | ⟨hs4,hp,I⟩
  ·obtain⟨H,X',p,t,D,S,T,U⟩:=hp;obtain⟨aK,I⟩:=iL.o wr _ X' p H t (uR.o wr D) S (λb r=>by
    rcases T b r with g | g
    ·exact .inl g
    ·exact .inr (Q6 Ml.o g)) U
   have ay:=Zh aK;clear aK;by_cases B:d<n
   ·by_cases j:(i d).status=1
    ·rw[j]at I;have az:¬ p c:=λhm=>by
      rcases T c hm with g | g
      ·exact BH.o.2.1 g
      ·have:=BH.o.1; omega
     have aY:=(U c).2 (.inl (.inr rfl));have C:Hid (Kept (λb=>¬ M b) A wr/\(∀ b,M b->p b)/\(∀ b,p b->M b∨A.heap.size<=b)/\(∀ b,X' b↔(X b∨b=c)∨p b)):=⟨D,S,T,U⟩;by_cases K:tick=(d:Int)
     ·have O:=Zh (aS.o d K B j);obtain⟨w2,ah⟩:∃ y,y = { wr with heap:=wr.heap.setIfInBounds c (.chan 0 #[] true 0 0 false) }:=⟨_,rfl⟩
      have aZ:(Builtin.close_ #[91] 0 #[.chan (some c)]).run Tryz.prog wr=.ok (.tuple #[]) w2:=by rw[ah]; exact run_close_open _ _ m
      have F:Kept (λb=>b≠c) wr w2:=by rw[ah];exact⟨rfl,rfl,rfl,by simp,λk _ bF=>by grind⟩
      have aA:w2.heap[c]? = some (.chan 0 #[] true 0 0 false):=by grind
      have aB:=t.other (N:=λb=>b=c) (N':=λb=>b=c) (λb e=>by rw[e]; exact aY) (λb hm e=>az (e ▸ hm)) (F.mono λb _ r=>r) (λb e=>.inl e) (λb=>⟨λg=>.inl g,λg=>by
       grind⟩) (λb e=>by grind) (λb e=>by rw[e]; exact aV.o)
      have aF:aM w2 xa xx:=ZH (HX.o wr D) (F.mono λb _ r=>r) (λg a e e'=>by have h1:=aX.o a g e; have:=BH.o.2.2; omega);have u:=Z.o w2 d aF B;have aG:=Y6 aB c (jU xx d) 0 0 false aA;have xg:=Zh F;subst K;clear t D S T U m F aA aB aF ah htk j;generalize i d=RD at *;go_wp2_with fail;refine u.mono ?_;rintro e wz ⟨rfl,aj⟩;have rA:=aj.symm;subst rA;clear u aZ I;go_wp2_with fail;refine aG.mono ?_;rintro e w3 ⟨⟨rv,rfl⟩,L3,X3,M3,aL,J,ak,aO,aP⟩;have z:=iL.o w3 RT X3 M3 L3 (by rw[O.o]; exact aL) (((uR.o wr C.o.1).trans' xg.o (λb r _ e=>by have:=BH.o.2.2; omega)).trans' J (λb r hm g=>by
       rcases C.o.2.2.1 b g with h1 | h1
       ·exact hm h1
       ·have:=Ml.o; omega)) (λb r=>ak b (C.o.2.1 b r)) (λb r=>by
       rcases aO b r with h1 | h1
       ·rcases C.o.2.2.1 b h1 with h2 | h2
        ·exact .inl h2
        ·exact .inr (Q6 Ml.o h2)
       ·exact .inr (Q6 Ml.o (Q6 C.o.1.size (Q6 xg.o.size h1)))) (λb=>by
       rw[aP,C.o.2.2.2];exact⟨λg=>by
        rcases g with (g | g) | g
        ·exact .inl g
        ·exact .inr (ak b g)
        ·exact .inr g,λg=>by
        rcases g with g | g
        ·exact .inl (.inl g)
        ·exact .inr g⟩)
      have aH:Hid (RT.status=4):=by show _=_; rw[O.o]
      have P:Hid (RT.status=4/\dz W0 f ts q X M w sb RT w3/\w3.cell? (aD sb 18)=some (.int .i64 4)):=⟨aH.o,z.1,by rw[<- aH.o]; exact z.2⟩;clear aG aL J ak aO aP z;go_wp2;go_roundw
      case rel=>exact⟨d+1,by go_num,by omega,.inr P.o⟩
      case measure=>simp[intOf]; omega
     ·have u:=Z.o wr d (HX.o wr D) B;have IJ:=aW.o wr X' p H d t j B m;have aI:=Zh m;have bf:Hid (tick<0∨((d+1:Nat):Int)<=tick):=by show _∨_; omega
      have bA:¬ ((d:Int)=tick):=λe=>K e.symm;clear t D S T U m htk j K;go_wp2_with fail;refine u.mono ?_;rintro e wz ⟨rfl,aj⟩;have rA:=aj.symm;subst rA;clear u I;go_wp2_with fail;refine IJ.mono ?_;rintro e w3 ⟨⟨rv,rfl⟩,au⟩;have aJ:w3.heap[c]? = some (.chan 0 #[] false 0 0 false):=by obtain⟨_,_,_,_,J,-⟩:=au;rw[J.block c (Zb.1 aI.o).1 az];exact aI.o
      have P:Hid ((tick<0∨((d+1:Nat):Int)<=tick)/\dz W0 f ts q (λb=>X b∨b=c) M A sb (i (d+1)) w3/\w3.heap[c]? = some (.chan 0 #[] false 0 0 false)):=⟨bf.o,dz.trans C.o.1 C.o.2.1 C.o.2.2.1 C.o.2.2.2 au,aJ⟩;clear IJ au aJ;go_wp2;go_roundw
      case rel=>exact⟨d+1,by go_num,by omega,.inl P.o⟩
      case measure=>simp[intOf]; omega
    ·have O:=Zh (MX.o d j bn htk);have bB:=j;clear t D S T U m htk;generalize i d=RD at *;go_wp2;go_ret;exact⟨RT,rfl,by rw[O.o]; rfl,by rw[O.o]; exact ay.o⟩
   ·have bg:n=d:=by omega
    have O:Hid (RT=i d):=by grind
    clear t D S T U m htk bg;generalize i d=RD at *;go_wp2;go_ret;exact⟨RT,rfl,by rw[O.o]; rfl,by rw[O.o]; exact ay.o⟩
  ·have P:Hid (RT.status=4/\dz W0 f ts q X M w sb RT wr):=⟨hs4,hp⟩
   clear hs4 hp;by_cases B:d<n
   ·go_wp2;go_ret;exact⟨RT,rfl,by rw[P.o.1]; rfl,P.o.2⟩
   ·go_wp2;go_ret;exact⟨RT,rfl,by rw[P.o.1]; rfl,P.o.2⟩
end
