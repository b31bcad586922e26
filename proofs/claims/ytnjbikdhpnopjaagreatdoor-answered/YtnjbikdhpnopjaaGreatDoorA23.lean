import Derived.Test.YtnjbikdhpnopjaaGreatDoorA21
set_option linter.all false
set_option maxRecDepth 100000
set_option maxHeartbeats 0
namespace Go.Proofs.Zz
open Go.RowKit Go.Shelf
open List renaming length->N,getD->E
open Go.Value renaming slice->Z,int->I,pointer->Y,bool->Wl,agg->FL,tuple->MV
open Go.Proofs.Tryz renaming prog->V
open Option renaming some->O
open Go.IntKind renaming i64->J,u64->Vo
open Bool renaming false->F,true->T
open Go renaming World->U,Value->X3
open Go.World renaming heap->H,setCell->UC,cell?->UK
open _root_.Array renaming size->M
open Go.Ending renaming returned->FN
variable {P:Program} {a:Act} {w:U} {ops:Array Oper} {i:Nat} {rest:List Nat} {o:Oper} {Q:Exit->Act->U->Prop} {v:X3} {R:Ending->U->Prop} {q:af} {Fq:Nat->Prop}
section
open Go.Conc
def adM{b:Frame}{k:List Go.Item}{cs:List Frame}{w':U}{cases:Array CommCase}{blocking:Bool}{shape:CommShape}(ho:ops[i]? = O o)(hw:Region.wanted o (yielded ops a.tmps)=T)(hr:(execOp a.eval o).run P w=.ok (.comm cases blocking shape) w') :
  ∃f,Go.stepG P T (Go.Conc.G (b.at a (.inRegion ops (i::rest)::k)) cs) w=.comm (Go.Conc.G (b.at a (.inRegion ops (i::rest)::k)) cs) cases blocking shape w' f:=by
 by_cases e:b.kind=.early
 .have d:(b.kind==CallKind.early)=true:=by simpa using e
  rw[stepG_oper ho hw];simp[Go.stepG.apply,hr,Go.Conc.G,Frame.at,d,GStep.after]
 .exact⟨_,stepG_comm ho hw e hr⟩
def MM{id:Nat}{c:CommCase}(hrg:List.range ops.size=0::rest)(ho:ops[0]? = O o)(hw:Region.wanted o (yielded ops a.tmps)=T)(hr:(execOp a.eval o).run P w=.ok (.comm #[c] F .select) w)
  (hs:∀(fr:Frame) (cs:List Frame) (i:Array Event),Go.stepG P T (Go.Conc.G fr cs) w=.comm (Go.Conc.G fr cs) #[c] F .select w i->Go.step P (solo (Go.Conc.G fr cs) w)=.next (solo (Go.Conc.G (fr.finish v) cs) w)) (h:wpOps P ops Q rest (a.put o.dst v) w):(Code.region id ops F).wp P Q a w:=by
 intro b k cs;obtain⟨e,a',l,m,d⟩:=wp_ops rest _ _ h b k cs;obtain⟨i,f⟩:=adM (P:=P) (b:=b) (k:=k) (cs:=cs) (rest:=rest) ho hw hr;have j:Go.step P (lone (b.at a (.inRegion ops (0::rest)::k)) cs w)=.next (lone (b.at (a.put o.dst v) (.inRegion ops rest::k)) cs w):=by have g:=hs _ _ _ f;rw[Frame.finish_at,ho]at g;exact g
 refine⟨e,a',l,m,.of_steps (.head ?_ (.one j)) d⟩;have:=step_region (P:=P) (b:=b) (a:=a) (k:=k) (cs:=cs) (w:=w) (ops:=ops) (id:=id);rw[hrg]at this;exact this
def tK(ho:ops[i]? = O o)(hw:Region.wanted o (yielded ops a.tmps)=T)(hr:(execOp a.eval o).run P w=.ok (.value v) w)(h:wpOps P ops Q rest (a.put o.dst v) w):wpOps P ops Q (i::rest) a w:=by simp only[wpOps,ho,hw,if_true];left;unfold Oper.wp;rw[hr];exact h
end
section
open Go.Conc
def adN(W:U)(base:Nat)(t ty e:TypeId)(i:TypeInfo)(z:X3)(size bytes:Nat)(ht:P.underlying t=O (.slice e))(hi:P.info? e=O i)(hz:i.zero=O z)(hsize:i.size=size)(hby:i.bytes=bytes)(hzs:z.cells.size=size)(hsz:0<size)
  (v:X3) (n:Nat) (xs:List X3) (hown:W.ownsRow base e size v n xs) (hb:base<=M (H W)) (news:List X3) (hl:N news=size) (h1:∀u∈news,u.oneCell' = T) (hn:n<=8000) (hbb:bytes<=1000) :
  ∃d f,(Builtin.append_ #[t,t] ty #[v,Z (O (aD (M (H W)) 0)) 1 1]).run P (W.alloc (.cells news.toArray e))=.ok d f/\f.ownsRow base e size d (n+1) (xs++news)/\Kept (λb=>v.ownBlock≠O b) W f/\(∃a m c,d = Z a m c)/\(d.ownBlock=v.ownBlock∨d.ownBlock=O (M (H W)+1)):=by
 obtain⟨d,f,k,l,p,_,g⟩:=Xo (P:=P) (W.alloc (.cells news.toArray e)) base t ty e i z size bytes ht hi hz hsize hby hzs hsz v n xs (hown.alloc _) (aD (M (H W)) 0) 1 1 news (by rw[hl,Nat.one_mul])
  (λj u q=>by
   rw[iB,ZK];simp only[World.cell?,pR W _];simpa using q) h1 (by unfold maxLen;omega) (by have:(n+1)*bytes<=8001*1000:=ZL (by omega) hbb;omega) (by rw[Zo];omega)
 exact⟨d,f,k,l,(QE _ _).trans (Q9 p (λr e k=>k e)),Zc l,by rw[Zo]at g;exact g⟩
theorem adO(W:U)(base:Nat)(v:X3)(xs:List Int)(hown:W.ownsRow base 3 1 v (N xs) (xs.map (Value.int J)))(hl:N xs<=8000)(hb:base<=M (H W))(a:Int)(ty:TypeId) :
  ∃d e,(Builtin.append_ #[22,22] ty #[v,Z (O (aD (M (H W)) 0)) 1 1]).run V (W.alloc (.cells #[I J a] 3))=.ok d e/\
   e.ownsRow base 3 1 d (N (xs++[a])) ((xs++[a]).map (Value.int J))/\Kept (λb=>v.ownBlock≠O b) W e/\(∃a m c,d = Z a m c)/\(d.ownBlock=v.ownBlock∨d.ownBlock=O (M (H W)+1)):=by
 obtain⟨k,l,f,g,i⟩:=Zj Tryz.lK;obtain⟨d,e,p,q,r,t,n⟩:=adN (P:=V) W base 22 ty 3 k _ 1 8 Tryz.underlying22 l f g i rfl (by decide) v (N xs) _ hown hb [.int J a] rfl (λu j=>by
  rw[Zg]at j;rw[j];rfl) hl (by decide)
 grind
end
section
open Go.Conc
def Tryz.ahy:(V.info? 153).map (·.bytes)=O 0:=by kernel_rfl
def mkc(w:U):(Instr.makeChan 112 (.int J 0)).run V w=.ok (.chan (O (M (H w)))) (w.alloc (.chan 0 #[] F 0 0 F)):=by obtain⟨i,a,b⟩:=Option.map_eq_some_iff.1 Tryz.ahy;simpa using run_makeChan (P:=V) (w:=w) Tryz.underlying112 a J 0 (by omega) (by rw[b];omega)
end
def YU(pb sb:Nat)(w:U)(hc:UK w (aD pb 9)=O (Y (O (aD sb 0))))(hC:Calls V 17 #[Y (O (aD sb 0))] w R)(hR:∀e w',R e w'->∃d f,e=FN (MV #[d,f])) :
  Calls V 8 #[Y (O (aD pb 0))] w R:=by have g:=Zh hR;clear hR;go_enter Tryz.func8,Tryz.ntmps8;go_wp2_with fail;refine hC.mono ?_;intro e i b;obtain⟨d,f,rfl⟩:=g.o e i b;have a:=Zh b;clear b hc hC;go_wp2;exact a.o
def adP(pb sb:Nat)(n k:Int)(ad:Option Addr)(m cp:Nat)(w:U)(hc:UK w (aD pb 9)=O (Y (O (aD sb 0))))(hC:Calls V 24 #[Y (O (aD sb 0)),I J n,I J k,Z ad m cp] w R)(hR:∀e w',R e w'->∃v,e=FN (v)) :
  Calls V 10 #[Y (O (aD pb 0)),I J n,I J k,Z ad m cp] w R:=by have d:=Zh hR;clear hR;go_enter Tryz.func10,Tryz.ntmps10;go_wp2_with fail;refine hC.mono ?_;intro e f b;obtain⟨v,rfl⟩:=d.o e f b;have a:=Zh b;clear b hc hC;go_wp2;exact a.o
def aob{W0:U}{f:aF}{ts:List ah}(Ez:Env f ts q W0){sb:Nat}{L:JA}(h:qw W0 f ts q sb L w)(hF:∀b,M (H w)<=b->Fq b) :
  ∃t,Bp ts q t/\Calls V 17 #[Y (O (aD sb 0))] w (JK Fq w t):=by
 obtain⟨B,D,g⟩:=h.fO;refine⟨B,g,?_⟩;have y:=g.2;have hl:=g.1.len;obtain⟨v0,v1,v2,v3,v4,v5,v6,v7,v8,v9,aa,ae,ag,W,-⟩:=X9 f ts q;have k:UK w (aD sb 16)=O (Y (O (aD L.fO 0))):=by have:=h.blk;rw[W]at this;exact this.cell 16
 obtain⟨p,X,Dw⟩:=D.nW;have Q:p.cost=B.d.cost:=congrArg bN.cost Dw;have C:UK w (aD L.fO 5)=O (I Vo (B.d.cost:Int)):=by rw[<-Q];exact X.c5
 have z:bR w 0:=λj u hj=>h.hz.below.cell _ _ _ (Ez.shapes j u hj);have R:Hid (∀x,x=w.drew->Calls V 36 #[Y (O (aD L.fO 0))] x (kM 102 Fq x B.ns)):=λx hx=>by rw[hx];exact adJ (D.below ((Qm _ _).drew)) (Ja ((Qm _ _).drew) z) y (by omega) hF
 have S:=R.o w.drew rfl;generalize L.fO=bp at*;clear h y hl W X Dw Q z R Ez p D g;obtain⟨B1,B2⟩:=B;simp only at*;obtain⟨cost,l⟩:∃n,n=B1.cost:=⟨_,rfl⟩;have HR:Hid (∀v r A,r.map fJ=B2->iY 102 Fq (M (H w)) A v r->Bw w A->JK Fq w ⟨B1,B2⟩ (FN (MV #[v,I Vo (cost:Int)])) A):=λv r A h1 h2 h3=>⟨v,r,by rw[l],h1,h2,h3⟩;rw[<-l]at C;clear l;generalize JK Fq w ⟨B1,B2⟩=BP at*;go_enter Tryz.func17,Tryz.ntmps17;go_wp2_with fail;refine wH w λa=>?_;refine wt 0 (Y (O (aD sb 0))) a ?_;refine wt 1 (Y (O (aD sb 0))) a ?_;refine wt 2 (Y (O (aD sb 16))) a ?_;refine wtc 3 (Y (O (aD bp 0))) a k ?_;refine wt 5 (Y (O (aD sb 0))) a ?_;refine wt 6 (Y (O (aD sb 0))) a ?_;refine wt 7 (Y (O (aD sb 16))) a ?_;refine wtc 8 (Y (O (aD bp 0))) a k ?_;refine wt 9 (Y (O (aD bp 0))) a ?_;refine wt 10 (Y (O (aD bp 0))) a ?_;refine wt 11 (Y (O (aD bp 5))) a ?_;refine wtc 12 (I Vo (cost:Int)) a C ?_;refine wR 4 λK i=>?_;go_simp;refine XX S ?_;rintro e w2 ⟨v,r,rfl,G,m,P⟩;obtain⟨na,nm,nc,rfl⟩:=Zc m.own;refine i.o _ _ ((Qm (M (H w)) w).drew.trans P) (λa=>?_);clear i K;refine wR 13 λK i=>?_;go_simp;refine i.o _ _ a λa=>?_;clear i K;refine wR 14 λK i=>?_;go_simp;refine i.o _ _ a λa=>?_;clear i K;refine wD ?_;try simp only[pV]
 try simp only[pV]
 have HF:=Zh (HR.o _ r w2 G m a);clear a m S k C;go_wp2;exact HF.o
section
open Go.Conc
variable {W0 w w':U} {f:aF} {ts:List ah} {q:af} {sb:Nat} {L:JA}
def aBC(f:aF)(ts:List ah)(q:af)(L:JA)(pv:X3):(f.cells ts q++swC q L).setIfInBounds 17 pv=f.cells ts q++swC q { L with pv:=pv }:=by obtain⟨v0,g,i,v3,v4,v5,j,k,l,v9,a,b,d,e,-⟩:=X9 f ts q;rw[e];rfl
theorem qw.aod(h:qw W0 f ts q sb L w){w1:U}{pv:X3}{p:Int}(ho:w1.ownsRow (M (H W0)) 3 1 pv (N (L.pk++[p])) ((L.pk++[p]).map (Value.int J)))(hk:Kept (λb=>L.pv.ownBlock≠O b) w w1)(hat:pv.ownBlock=L.pv.ownBlock∨pv.ownBlock=O (M (H w)+1)) :
  gG W0 f ts q sb L w { L with pv:=pv,pk:=L.pk++[p] } (UC w1 (aD sb 17) pv):=by
 have a:=h.ne;have i:=h.blk.keep hk a.2.1;have d:Kept (λb=>b≠sb) w1 (UC w1 (aD sb 17) pv):=Q8 _ _ _ (λh=>h rfl);refine h.next ((hk.mono λb _ j=>j.2.2).trans (d.mono λb _ j=>j.1)) (pv:=pv) (pk:=L.pk++[p]) ?_ ?_ (.inl rfl) h.task ?_ ?_
 .have:=i.set 17 pv;rw[aBC]at this;exact this
 .exact Za (Za h.ag hk (λg e=>a.2.2.1 g e)) d (λg e k=>a.1 (k ▸ e))
 .exact Za ho d (λg e k=>jh ho i (by decide) (k ▸ e))
 grind
def qw.taken(h:qw W0 f ts q sb L w){av:X3}{ag:List dP}(hg:GB w' sb 97 ((f.cells ts q++swC q L).setIfInBounds 14 av))(ho:w'.ownsRow (M (H W0)) 138 2 av (N ag) (ag.flatMap eT))(hk:Kept (λb=>b≠sb/\L.av.ownBlock≠O b) w w')(hat:av.ownBlock=L.av.ownBlock)(htk:∀t∈ag,t∈L.ag) :
  gG W0 f ts q sb L w { L with av:=av,ag:=ag } w':=by have a:=h.ne;rw[(adx f ts q L av).2]at hg;exact h.next (hk.mono λb _ i=>⟨i.1,i.2.1⟩) hg ho (.inl hat) (λt j=>h.task t (htk t j)) (Za h.pk hk (λg e=>⟨λd=>a.2.1 (d ▸ e),λd=>a.2.2.1 g d e⟩)) (.inl rfl)
def qw.status(h:qw W0 f ts q sb L w){v0 v1 v2 v3 v4 v5 v6 v7 v8 v9 v10 v11 v12:X3}(hF:f.cells ts q=#[v0,v1,v2,v3,v4,v5,v6,v7,v8,v9,v10,v11,v12])(st:Int)(hk:Kept (λb=>b≠sb) w w')(hg:GB w' sb 97 #[v0,v1,v2,v3,v4,v5,v6,v7,v8,v9,v10,v11,v12,Z (O (aD L.gs 0)) (nG q) L.sI,L.av,Wl L.cut,Y (O (aD L.fO 0)),L.pv,I J st]):gG W0 f ts q sb L w { L with st:=st } w':=by have a:=h.ne;exact h.next (hk.mono λb _ d=>d.1) (st:=st) (by rw[hF];exact hg) (Za h.ag hk (λg e hg=>a.1 (hg ▸ e))) (.inl rfl) h.task (Za h.pk hk (λg e hg=>a.2.1 (hg ▸ e))) (.inl rfl)
def akr(h:qw W0 f ts q sb L w)(c:Nat)(pick:Int)(s r:Nat)(tm:Bool)(hc:w.heap[c]? = O (.chan 0 #[] T s r tm)) :
  Calls V 41 #[Y (O (aD sb 0)),.chan (O c),I J pick] w λe p=>(∃v,e=FN v)/\gG W0 f ts q sb L w { L with st:=4 } p:=by obtain⟨v0,t,u,v3,v4,v5,y,z,A,v9,j,k,l,b,-⟩:=X9 f ts q;have a:=h.arr b;have g:=a.at 18;have i:=a.frozen 18;obtain⟨m,n⟩:=aJ hc (h.status b 4 (Q8 w (aD sb 18) (I J 4) (λh=>h rfl)) (a.set 18 (I J 4)));clear hc h a b;go_enter Tryz.func41,Tryz.ntmps41;go_upto_region 1 with fail;refine MM (rest:=[1,2]) (c:=rcase c (FL #[])) (v:=MV #[goInt (0),Wl F,FL #[]]) (by kernel_rfl) rfl (by kernel_rfl) (by simp[go_sem,execOp,rcase,rcaseNil,Act.eval]) (λfr cs B d=>step_lone_select_recv_shut d m.o) ?_;refine tK (v:=I J (0)) rfl (by kernel_rfl) (by simp[go_sem,execOp,Act.eval,Act.put,goInt]) ?_;refine tK (v:=Wl T) rfl (by kernel_rfl) (by simp[go_sem,execOp,Act.eval,Act.put,goInt]) ?_;show Exit.then _ _ Exit.normal _ _;simp only[Act.put,List.getElem_toArray,List.getElem_cons_succ,List.getElem_cons_zero,Qu,Qb,Qc];go_wp2;go_end0;exact⟨⟨_,rfl⟩,n.o⟩
def StR(L L':JA):Prop:=N L'.pk=N L.pk+1/\N L'.ag<=N L.ag+62/\(L'.st=1->0<N L'.ag)/\L'.ch=L.ch
def aoe(Ez:Env f ts q W0)(hq:QF ts q)(h:qw W0 f ts q sb L w)(hn:0<N L.ag)(hal:N L.ag<=520000)(hpl:N L.pk<=8000)(c:Nat)(s r:Nat)(tm:Bool)(hc:w.heap[c]? = O (.chan 0 #[] F s r tm))(pick:Int) :
  Calls V 41 #[Y (O (aD sb 0)),.chan (O c),I J pick] w λe p=>(∃v,e=FN v)/\∃L',gG W0 f ts q sb L w L' p/\StR L L':=by
 obtain⟨v0,v1,v2,v3,v4,v5,v6,v7,v8,v9,au,ax,ay,K,-⟩:=X9 f ts q;have j:=h.arr K;obtain⟨aa,ac,P,-⟩:=yT h.ag (by omega);obtain⟨pa,pm,pc,Q⟩:=Zc h.pk;have hp:=adb hn pick;have k:=YS aa (N L.ag) ac pick w hn (by omega);obtain⟨b,R⟩:∃b:Nat,xV (N L.ag) pick=(b:Int):=⟨(xV (N L.ag) pick).toNat,by omega⟩;rw[R]at hp k;obtain⟨v',w1,m,S,n,⟨za,zm,zc,rfl⟩,W⟩:=adO w (M (H W0)) L.pv L.pk h.pk hpl h.hz.below.size (b:Int) 22;have g:=h.aod S n W;have i:=h.blk.keep n h.ne.2.1;rw[K]at i;have u:UK w1 (aD sb 17)=O L.pv:=i.cell 17;have aj:=i.frozen 17;have y:UK w (aD sb 14)=O L.av:=j.cell 14;have z:UK w (aD sb 17)=O L.pv:=j.cell 17;rw[Q]at m u z;rw[P]at y;have A:TkW q L.hd (E L.ag b (0,0)):=h.task _ (Xl (by omega));have B:Hid (Calls V 72 #[Y (O (aD sb 14)),I J (b:Int)] (UC w1 (aD sb 17) (Z za zm zc)) λe p=>e=FN (FL #[I Vo ((E L.ag b (0,0)).1:Int),I Vo ((E L.ag b (0,0)).2:Int)])/\Calls V 71 #[Y (O (aD sb 0)),FL #[I Vo ((E L.ag b (0,0)).1:Int),I Vo ((E L.ag b (0,0)).2:Int)]] p λe p=>(∃v,e=FN v)/\Calls V 73 #[Y (O (aD sb 0))] p λe p=>(∃v,e=FN v)/\∃L',gG W0 f ts q sb L w L' p/\StR L L'):=by
  refine(adk sb (M (H W0)) b _ L.av L.ag _ g.1.blk (adx f ts q _ L.av).1 g.1.ag (by omega) (by omega)).mono ?_;rintro e w3 ⟨rfl,aM,az,aA,aB,X⟩;have C:=g.trans (g.1.taken az aA aB X λt ht=>List.mem_of_mem_eraseIdx ht);have aL:N (L.ag.eraseIdx b)=N L.ag-1:=List.length_eraseIdx_of_lt (by omega);refine⟨rfl,(aBB Ez hq C.1 (by show N (L.ag.eraseIdx b)<=_;omega) _ A).mono ?_⟩;rintro e w4 ⟨aC,aF,a,aN,b4,d,D⟩;have d:=C.trans d;have D:N a<=N (L.ag.eraseIdx b)+62:=D;obtain⟨ae,af,l,-⟩:=yT d.1.ag (by show N a<=_;omega);have ak:=d.1.arr K;have l:aF=Z ae (N a) af:=l;subst l;refine⟨aC,(Yo sb v0 v1 v2 v3 v4 v5 v6 v7 v8 v9 au ax ay _ _ _ ae (N a) af L.cut L.st w4 ak).mono ?_⟩;rintro e w5 ⟨aG,aH,aI⟩;refine⟨aG,_,d.trans (d.1.status K _ aH aI),by show N (L.pk++[(b:Int)])=_;simp,by show N a<=_;omega,λe=>?_,rfl⟩;have e:(if 0<N a then L.st else if L.cut=T then 3 else 2)=1:=e;show 0<N a;by_cases h0:0<N a
  .exact h0
  .rw[ZU h0]at e;split at e <;> cases e
 generalize (E L.ag b (0,0)).1=tl at*;generalize (E L.ag b (0,0)).2=tr at*;generalize N L.ag=an at*;have HC:=Zh hc;clear hc h hpl K j hal P Q hp R S n W g i A Ez;go_enter Tryz.func41,Tryz.ntmps41;go_upto_region 1 with fail;refine MM (rest:=[1,2]) (c:=rcase c (FL #[])) (v:=MV #[goInt (-1),Wl F,FL #[]]) (by kernel_rfl) rfl (by kernel_rfl) (by simp[go_sem,execOp,rcase,rcaseNil,Act.eval]) (λfr cs es aK=>step_lone_select_default aK HC.o) ?_;refine tK (v:=I J (-1)) rfl (by kernel_rfl) (by simp[go_sem,execOp,Act.eval,Act.put,goInt]) ?_;refine tK (v:=Wl F) rfl (by kernel_rfl) (by simp[go_sem,execOp,Act.eval,Act.put,goInt]) ?_;show Exit.then _ _ Exit.normal _ _;simp only[Act.put,List.getElem_toArray,List.getElem_cons_succ,List.getElem_cons_zero,Qu,Qb,Qc];go_wp2_with fail;refine k.mono ?_;rintro e wz ⟨rfl,aJ⟩;have uh:=aJ.symm;subst uh;clear k;go_wp2_with (first|(at_builtin;refine Xm rfl (.tmp 21) (.tmp 23) 22 rfl (Z pa pm pc) (Z (O (aD (M (H w)) 0)) 1 1) (Z za zm zc) w1 rfl rfl m ?_));clear m y z;go_upto_region 4 with fail;have G:=B.o;clear B;generalize UC w1 (aD sb 17) (Z za zm zc)=w2 at*;clear u aj;go_wp2_with fail;refine G.mono ?_;rintro e w3 ⟨rfl,ah⟩;clear G;go_wp2_with fail;refine ah.mono ?_;rintro e w4 ⟨⟨rv,rfl⟩,ai⟩;clear ah;go_wp2_with fail;refine ai.mono ?_;rintro e w5 ⟨⟨rv,rfl⟩,hF⟩;have HF:=Zh hF;clear ai hF;go_wp2;go_end0;exact⟨⟨_,rfl⟩,HF.o⟩
end
section
open Go.Conc
variable {W0 w w':U} {f:aF} {ts:List ah} {q:af} {sb:Nat} {L:JA}
def RnI(W0:U)(f:aF)(ts:List ah)(q:af)(sb:Nat)(L:JA)(w:U)(c d:Nat)(x:U):Prop:=
 ∃L',qw W0 f ts q sb L' x/\L'.ch=O c/\c<M (H x)/\¬Mu q sb L' c/\Kept (λb=>¬Mu q sb L b) w x/\(∀b,Mu q sb L' b->Mu q sb L b∨M (H w)<=b)/\
  ((x.heap[c]? = O (.chan 0 #[] F 0 0 F)/\N L'.pk<=N L.pk+d/\N L'.ag<=N L.ag+62*d/\(L'.st=1->0<N L'.ag))∨L'.st=4)
theorem aua(Ez:Env f ts q W0)(hq:QF ts q)(h:qw W0 f ts q sb L w)(hst:L.st=1->0<N L.ag)(n:Nat)(hpl:N L.pk+n<=8000)(hal:N L.ag+62*n<=520000)(tick:Int)(x:ae)(hx:x.At w)(hxm:∀a,x.ad=O a->¬Mu q sb L a.block) :
  Calls V 24 #[Y (O (aD sb 0)),I J (n:Int),I J tick,x.val] w λe A=>(∃s,e=FN (I J s))/\∃g,qw W0 f ts q sb g A/\Kept (λb=>¬Mu q sb L b) w A:=by
 obtain⟨v0,v1,v2,v3,v4,v5,v6,v7,v8,v9,aI,aJ,aK,cK,-⟩:=X9 f ts q;obtain⟨w1,P⟩:∃y,w.alloc (.chan 0 #[] F 0 0 F)=y:=⟨_,rfl⟩;have av:=mkc w;rw[P]at av;have aa:Bw w w1:=by rw[<-P];exact(Qm _ _).alloc (Qn _) _
 have af:w1.heap[M (H w)]? = O (.chan 0 #[] F 0 0 F):=by rw[<-P];exact pR _ _
 have ah:=(QI.1 af).1;have ax:¬Mu q sb L (M (H w)):=λj=>by have:=(h.mu j).2;omega
 have ay:Hid (RnI W0 f ts q sb L w (M (H w)) 0 w1):=⟨_,h.chan aa ah,rfl,ah,ax,QB aa (λ_ h _=>h),λb C=>.inl C,.inl ⟨af,by show N L.pk<=_;omega,by show N L.ag<=_;omega,hst⟩⟩;have xz:Hid (∀(y:U) (d:Nat) (p:Int) (g:JA),d<n->g.st=1->qw W0 f ts q sb g y->g.ch=O (M (H w))->M (H w)<M (H y)->¬Mu q sb g (M (H w))->Kept (λb=>¬Mu q sb L b) w y->(∀b,Mu q sb g b->Mu q sb L b∨M (H w)<=b)->y.heap[M (H w)]? = O (.chan 0 #[] F 0 0 F)/\N g.pk<=N L.pk+d/\N g.ag<=N L.ag+62*d/\(g.st=1->0<N g.ag)->Calls V 41 #[Y (O (aD sb 0)),.chan (O (M (H w))),I J p] y λe A=>(∃v,e=FN v)/\RnI W0 f ts q sb L w (M (H w)) (d+1) A):=λy d p g hd hs t B Q j l i ⟨u,g1,g2,g3⟩=>by refine(aoe Ez hq t (g3 hs) (by omega) (by omega) _ 0 0 F u p).mono ?_;rintro e A ⟨hv,L2,⟨k1,k2,k3⟩,r1,r2,r3,r4⟩;refine⟨hv,L2,k1,r4.trans B,QA Q k2.size,λm=>(k3 _ m).elim j (by omega),l.trans' k2 λb C h1 m=>(i b m).elim h1 (by omega),λb C=>(k3 b C).elim (i b) λm=>.inr (by have:=l.size;omega),.inl ⟨?_,by omega,by omega,r3⟩⟩;rw[k2.block _ Q j];exact u
 have UR:Hid (∀(y z:U) (d:Nat) (p:Int) (g:JA),qw W0 f ts q sb g y->g.ch=O (M (H w))->M (H w)<M (H y)->¬Mu q sb g (M (H w))->Kept (λb=>¬Mu q sb L b) w y->(∀b,Mu q sb g b->Mu q sb L b∨M (H w)<=b)->Kept (λb=>b≠M (H w)) y z->z.heap[M (H w)]? = O (.chan 0 #[] T 0 0 F)->Calls V 41 #[Y (O (aD sb 0)),.chan (O (M (H w))),I J p] z λe A=>(∃v,e=FN v)/\RnI W0 f ts q sb L w (M (H w)) (d+1) A):=λy z d p g t B Q j l i W u=>by refine(akr (t.other B j W) _ p 0 0 F u).mono ?_;rintro e A ⟨hv,k1,k2,k3⟩;exact⟨hv,_,k1,B,QA Q (Qz W.size k2.size),j,(l.trans' W λb C _=>by omega).trans' k2 λb C h1 m=>(i b m).elim h1 (by omega),i,.inr rfl⟩
 have HX:Hid (∀y,Kept (λb=>¬Mu q sb L b) w y->x.At y):=λy hy=>Jc hx hy (λ_ a e=>hxm a e);have az:Hid (∀a,0<N x.xs->x.ad=O a->a.block<M (H w)):=λa m e=>hx.2.lt m a e;have D:Hid (∀(y:U) (d:Nat),x.At y->d<n->Ce 42 #[x.val,I J (d:Int)] y (I J (xW x.xs d))):=λy d hy hd=>YT x d y hy (by omega);have UW:=Zh cK;obtain⟨xa,xc,xx⟩:=x;simp only[ae.val]at*;generalize N xx=xl at D ⊢;generalize aG:M (H w)=c at*;have aA:=Zh aG;go_enter Tryz.func24,Tryz.ntmps24;go_wp2;go_loopw [10] (λiv wr=>∃d:Nat,iv=I J (d:Int)/\d<=n/\Hid (RnI W0 f ts q sb L w c d wr)) (λiv _=>n-(intOf iv).toNat)
 case atStart=>exact⟨0,rfl,QW _,ay.o⟩
 case round=>
  obtain⟨d,rfl,aL,HI⟩:=hrel;obtain⟨g,t,B,Q,j,l,i,ak⟩:=HI.o;rw[aA.o]at i;have ai:=(t.arr UW.o).at 18;have rY:Hid (∃g,qw W0 f ts q sb g wr/\Kept (λb=>¬Mu q sb L b) w wr):=⟨g,t,l⟩;by_cases X:d<n
  .by_cases hs:g.st=1
   .have G:=ak.resolve_right (by rw[hs];decide);rw[hs]at ai;by_cases au:tick=(d:Int)
    .obtain⟨w2,R⟩:∃y,y = { wr with heap:=wr.heap.setIfInBounds c (.chan 0 #[] T 0 0 F) }:=⟨_,rfl⟩
     have aB:(Builtin.close_ #[112] 0 #[.chan (O c)]).run V wr=.ok (MV #[]) w2:=by rw[R];exact run_close_open _ _ G.1
     have K:Kept (λb=>b≠c) wr w2:=by rw[R];exact⟨rfl,rfl,rfl,by simp,λk _ aM=>by grind⟩
     have aj:w2.heap[c]? = O (.chan 0 #[] T 0 0 F):=by grind
     have r:=D.o w2 d (Jc (HX.o wr l) (K.mono λb _ C=>C) (λm a e e'=>by have:=az.o a m e;omega)) X;have aC:=UR.o wr w2 d (xW xx d) g t B Q j l i K aj;subst au;clear t B j l i ak G K aj R hs HI;go_wp2_with fail;refine r.mono ?_;rintro e wz ⟨rfl,S⟩;have uh:=S.symm;subst uh;clear r aB ai;go_wp2_with fail;refine aC.mono ?_;rintro e w3 ⟨⟨rv,rfl⟩,hF⟩;have HF:=Zh hF;go_wp2;go_roundw
     case rel=>exact⟨d+1,by go_num,by omega,HF.o⟩
     case measure=>simp[intOf];omega
    .have r:=D.o wr d (HX.o wr l) X;have aF:=xz.o wr d (xW xx d) g X hs t B Q j l i G;have aH:¬((d:Int)=tick):=λe=>au e.symm
     go_wp2_with fail;refine r.mono ?_;rintro e wz ⟨rfl,S⟩;have uh:=S.symm;subst uh;go_wp2_with fail;refine aF.mono ?_;rintro e w3 ⟨⟨rv,rfl⟩,hF⟩;have HF:=Zh hF;go_wp2;go_roundw
     case rel=>exact⟨d+1,by go_num,by omega,HF.o⟩
     case measure=>simp[intOf];omega
   .generalize g.st=st at*;go_wp2;go_ret;exact⟨⟨_,rfl⟩,rY.o⟩
  .generalize g.st=st at*;go_wp2;go_ret;exact⟨⟨_,rfl⟩,rY.o⟩
end
theorem iY.plan{Tn:TypeId}{base:Nat}{nv:List ai}(h:iY Tn Fq base w v nv)(hl:N nv<=1000):∃b cap,v=Z b (N nv) cap/\fP w b nv:=by
 have f:∃b cap,v=Z b (N nv) cap:=by
  rcases h.own.2 with⟨rfl,h0⟩|⟨g,cap,cur,rfl,_⟩
  .exact⟨none,0,by rw[h0]⟩
  .exact⟨_,_,rfl⟩
 obtain⟨b,cap,rfl⟩:=f;refine⟨b,cap,rfl,by omega,λi n=>?_⟩;obtain⟨g,d,e,p,k,a⟩:=TN h.own n;injection e with e1 e2 e3;subst e1;have j:E nv i nz∈nv:=by grind
 obtain⟨l,_,m,_,_⟩:=h.lists _ j;exact⟨g,0,rfl,by rw[ZK];exact a 0 _ (by omega) rfl,by rw[ZK];exact a 1 _ (by omega) rfl,by rw[ZK];exact a 2 _ (by omega) rfl,by rw[ZK];exact a 3 _ (by omega) rfl,by rw[ZK];exact a 4 _ (by omega) rfl,by rw[ZK];exact a 5 _ (by omega) rfl,by rw[ZK];exact a 6 _ (by omega) rfl,l,m⟩
def UH(co:Option Addr)(cc:Nat)(dv:X3)(ts:List ah)(q:af)(db:List aP)(room n:Nat)(w:U)(hts:bu w co ts)(hls:eu n q w)(hok:Bc ts q db)(hs:bR w 0)(h1:1<=room)(h2:room<=1000)(hw0:0<M (H w)) :
  Calls V 6 #[FL (jX (Z co (N ts) cc) q dv),I J (room:Int)] w λe y=>∃f r,e=FN (MV #[Y (O (aD f 0)),Wl T])/\Dj ts q w f r y:=by
 have g:co=none->cc=0:=λe=>by obtain⟨b,off,z,_⟩:=hts.2 0 (by have:=hok.ako.1;omega);rw[e]at z;cases z
 have a:Hid (∀x,Bw w x->Calls V 16 #[Z co (N ts) cc,FL q.cells,I J (room:Int)] x λe y=>∃f r,e=FN (MV #[Y (O (aD f 0)),I J 0])/\Dj ts q x f r y):=λx t=>
  akm co cc ts q room x (hts.below t) g (hls.at'.below t) hls.keys.2.2 hls.ord.2.2 (adD hok hls) (Ja t hs) (JE hok) h1 h2 (QA hw0 t.size)
 obtain⟨v0,l,m,v3,v4,v5,p,v⟩:∃v0 l m v3 v4 v5 p,q.cells=#[v0,l,m,v3,v4,v5,p]:=⟨_,_,_,_,_,_,_,rfl⟩;have i:jX (Z co (N ts) cc) q dv=#[Z co (N ts) cc,v0,l,m,v3,v4,v5,p,dv]:=by have:jX (Z co (N ts) cc) q dv=#[Z co (N ts) cc]++q.cells ++ #[dv]:=rfl;rw[this,v];rfl
 rw[i];rw[v]at a;obtain⟨C,D,d,k⟩:=aL w #[Z co (N ts) cc,v0,l,m,v3,v4,v5,p,dv] 29;obtain⟨a0,G,K,a3,a4,a5,L,P⟩:=k.k8;have u:=Zh d;have j:=a.o C d;clear hts hls hok hs h1 h2 hw0 g a v i d k;go_enter Tryz.func6,Tryz.ntmps6;go_wp2_with fail;refine j.mono ?_;rintro e Q ⟨f,r,rfl,A⟩;have B:=Zh (A.elder u.o);clear j A a0 G K a3 a4 a5 L P;go_wp2;go_ret2;exact⟨_,_,rfl,B.o⟩
section
def jM.look{p:af}(h:jM q p)(ts:List ah)(l:List ai):jD ts p l=jD ts q l:=by
 have a:kT ts p=kT ts q:=by funext l s;unfold kT;simp only[h.src,h.clause,h.len]
 have b:∀n,fG ts p l n=fG ts q l n:=λn=>by
  induction n with
  |zero=>rfl
  |succ n ih =>
   unfold fG;rw[ih];congr 1;funext ps;unfold pY iG pX qE;simp only[h.src,h.key ts,a,h.group,h.keys,h.ord,h.len,h.part ts]
 unfold jD;rw[b,h.ends]
variable {ts:List ah} {q:af} {w0 w w':U} {pb sb:Nat}
def aks(ts:List ah)(q:af)(pb:Nat)(w:U):Prop:=
 ∃W0 f p sb L,Env f ts p W0/\jM q p/\qw W0 f ts p sb L w/\UK w (aD pb 9)=O (Y (O (aD sb 0)))
def Dj.has(h:Dj ts q w0 pb sb w):aks ts q pb w:=by obtain⟨a,f,p,L,b,d,e,-⟩:=h.ex;exact⟨a,f,p,sb,L,b,d,e,h.cell⟩
def Dj.step(h:Dj ts q w0 pb sb w)(hb:Bw w w'):Dj ts q w0 pb sb w':=by obtain⟨a,f,p,L,b,d,e,g⟩:=h.ex;exact⟨⟨a,f,p,L,b,d,e.below hb,g⟩,cB hb h.cell,h.pb,az h.below hb⟩
theorem aks.fO(h:aks ts q pb w):Calls V 8 #[Y (O (aD pb 0))] w λe d=>∃g cap a l c,e=FN (MV #[Z g (N a) cap,I Vo c])/\fP d g a/\(∀i,i<N a->(E a i nz).co.xs.length<=(E a i nz).co.cap)/\jD ts q a=O l/\Bw w d:=by
 obtain⟨K,f,p,u,L,y,z,A,B⟩:=h;obtain⟨t,b,C⟩:=aob y A (Fq:=λc=>M (H w)<=c) (λ_ h=>h);refine(YU pb u w B C (λe d G=>by
  obtain⟨v,a,j,_⟩:=G;exact⟨_,_,j⟩)).mono ?_
 rintro e d ⟨v,a,rfl,m,n,D⟩;have r:N a<=1000:=by have j:=congrArg N m;rw[Zm]at j;have:=b.1.len;omega
 obtain⟨g,cap,rfl,k⟩:=n.plan r;obtain⟨l,hd,-⟩:=b.1.look;rw[z.look,<-m,adt]at hd;exact⟨g,cap,a,l,_,rfl,k,λi P=>(n.lists _ (by grind)).2.2.2.2,hd,D⟩
def Dj.run(h:Dj ts q w0 pb sb w)(hq:q.check ts=0)(n:Nat)(hn:n<=400)(tick:Int)(po:Option Addr)(pc:Nat)(ps:List Int)(hp:IntsAt w0 po ps)(hpb:∀a,po=O a->a.block<M (H w0)) :
  Calls V 10 #[Y (O (aD pb 0)),I J (n:Int),I J tick,Z po (N ps) pc] w λe i=>∃s,e=FN (I J s)/\aks ts q pb i/\Bw w0 i:=by
 obtain⟨u,f,p,L,r,t,v,k,l,y,d⟩:=h.ex;refine(adP pb sb n tick po (N ps) pc w h.cell (aua r (alj (by rw[t.check ts];exact hq)) v k n (by rw[l];simp;omega) (by omega) tick ⟨po,pc,ps⟩ (Qo h.below hp) (λa B g=>by
  have m:=hpb a B;have j:=(d _ g).1;omega)) (λe i C=>by
  obtain⟨⟨s,z⟩,_⟩:=C;exact⟨_,z⟩)).mono ?_
 rintro e i ⟨⟨s,rfl⟩,A,m,j⟩;exact⟨s,rfl,⟨u,f,p,sb,A,r,t,m,Jk j h.cell λg=>(d _ g).2 rfl⟩,h.below.trans (j.below h.below.size λb D g=>by have:=(d _ g).1;omega)⟩
end
theorem aaK{ts:List ah}{q:af}(ok:Ok ts q)(plan:List ai){db:List aP}(mX:zC ts db=T)(Hr:gL q.src.xs db<=20000):∀(f i:Nat) (v:dX),i<f->dw ts q plan i=O v->v.out=T->
  N (nC ts q plan db f i)<=20001/\∀r∈nC ts q plan db f i,(N r:Int)=tN q.group q.keys.xs q.sums.xs q.bE.xs
 |0,_,_,h,_,_=>by omega
 |f+1,i,v,hi,hv,hout=>by
  rcases iV ts q plan hv with⟨b,h0,hs,A,B,p⟩|⟨k2,k10,k3,k4,k5,hl0,Kg,l,hl,hn⟩|⟨k3,k5,hl0,Kg,hr0,hri,l,r,hl,a,hn⟩
  .simp_all
  .obtain⟨_,p,_,z,g,A,B,j,_⟩:=XM ts q hn;rw[hout]at j;have D:7<=(E plan i nz).kind:=Xa j.symm;by_cases b:(E plan i nz).kind=10
   .have m:=aaK ok plan mX Hr f (E plan i nz).l.toNat l (by omega) hl (p.2 b);unfold nC;rw[Zt b,DK];exact⟨m.1,λr a=>m.2 r (DJ.1 a)⟩
   .have d:l.out=false:=by simp_all
    have u:=jQ ok plan mX f (E plan i nz).l.toNat l (by omega) hl d;have y:=BO (cnt:=BQ q.src.xs db) (n:=N q.src.xs) (λk=>by unfold BQ;omega) l.sources;rw[<-BS]at y;have G:=u.many;unfold oF at g;unfold nC tN;rw[ZU b];by_cases t:(E plan i nz).kind=9
    .have e:q.group=false:=by grind
     rw[Zt t,e];refine⟨by rw[Zm];omega,λr a=>?_⟩;obtain⟨x,_,rfl⟩:=ZC.1 a;simp[au,aK]
    .have e:q.group=true:=by grind
     rw[ZU t,e];refine⟨by rw[Zm];have:=EY (aK (bI ts q plan db f (E plan i nz).l.toNat).2 q.keys.xs) (aK (bI ts q plan db f (E plan i nz).l.toNat).2 q.sums.xs) (bI ts q plan db f (E plan i nz).l.toNat).1;omega,λr a=>?_⟩;obtain⟨x,C,rfl⟩:=ZC.1 a;have:=CF x C;simp[aK]at this;simp;omega
  .obtain⟨_,_,_,_,_,_,_,j,_⟩:=XM ts q hn
   grind
