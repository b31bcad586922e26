import Derived.Test.YtlpbelhfpoilpaaGreatDoorRE25
set_option linter.all false
set_option maxRecDepth 100000
set_option maxHeartbeats 16000000
namespace Go.Proofs.Zz
open Go.RowKit Go.Shelf
variable {gb k:Nat} {g:List aj} {x:Nat × aQ} {T Tp:TypeId} {F:Nat->Prop} {w:World} {A:Nat->Nat} {os:List ah}
theorem xW(g:List aj)(hk:k<g.length):dw (g.take (k+1))=mF (dw (g.take k)) (g.getD k oh):=by
 unfold dw;exact iR mF [] g oh hk
theorem Cy(h:x∈dw (g.take k)):∃ p∈g,p.2=some x:=by
 rcases lU _ [] x h with h | ⟨p,hp,e⟩
 ·cases h
 ·exact⟨p,Xj hp,e⟩
theorem sU(g:List aj)(k:Nat):(dw (g.take k)).length<=g.length:=by
 have:=vR (g.take k) [];rw[Zm]at this;unfold dw;simp at this;omega
theorem bz.there(h:bz T Tp F w gb A os g){p:aj}(hp:p∈g)(hx:p.2=some x) :
  decide (A x.1∈(dw (g.take k)).map fun y=>A y.1)=(dw (g.take k)).any (fun y=>y.1==x.1):=by
 rw[QI,QJ,List.any_eq_true,Zi];constructor
 ·rintro⟨y,hy,e⟩;obtain⟨p',hp',e'⟩:=Cy hy;exact⟨y,hy,by rw[beq_iff_eq]; exact h.inj p' hp' p hp y x e' hx e⟩
 ·rintro⟨y,hy,e⟩;rw[beq_iff_eq]at e;exact⟨y,hy,by rw[e]⟩
theorem Cz(h:bz 178 297 F w gb A os g)(hl:g.length<=20)(gc:Nat) :
  Calls Tryz.prog 309 #[.slice (some (aD gb 0)) g.length gc] w fun e w'=>∃ v,e=.returned v/\w'.ownsRow w.heap.size 172 1 v ((dw g).map fun x=>A x.1).length (((dw g).map fun x=>A x.1).map fun x=>Value.pointer (some (aD x 0)))/\Bw w w':=by
 have HG:=Zh h;obtain⟨QN,hQN⟩:∃ P:Nat->List Nat,P=fun k=>(dw (g.take k)).map fun x=>A x.1:=⟨_,rfl⟩
 have HSN:Hid (∀ k,k<g.length->(g.getD k oh).2=none->QN (k+1)=QN k):=fun k hk e=>by
  rw[hQN];simp only;rw[xW g hk];unfold mF;rw[e]
 have Gy:Hid (∀ k x,k<g.length->(g.getD k oh).2=some x->QN (k+1)=if A x.1∈QN k then QN k else QN k++[A x.1]):=fun k x hk e=>by
  have ht:=h.there (k:=k) (lW hk) e;have e1:QN (k+1)=(if (dw (g.take k)).any (fun y=>y.1==x.1)=true then dw (g.take k) else dw (g.take k)++[x]).map fun x=>A x.1:=by
   rw[hQN];simp only;rw[xW g hk];unfold mF;rw[e]
  have e2:QN k=(dw (g.take k)).map fun x=>A x.1:=by rw[hQN]
  rw[e1,<- ht,e2];by_cases hm:A x.1∈(dw (g.take k)).map fun x=>A x.1
  ·rw[Qy (QD hm),Qy hm]
  ·rw[Qz (by rw[Ql hm]; decide),Qz hm,Qs];rfl
 have HQL:Hid (∀ k,(QN k).length<=20):=fun k=>by rw[hQN]; simp only; rw[Zc]; exact Zl (sU g k) hl
 have HQE:Hid (QN g.length=(dw g).map fun x=>A x.1):=by rw[hQN]; show (dw (g.take g.length)).map _=_; rw[QA]
 have HQ0:Hid (QN 0=[]):=by rw[hQN]; rfl
 have OO:Hid (∀ k,∀ a∈QN k,∃ c t,w.heap[a]? = some (Obj.cells c t (0,0))):=fun k a ha=>by
  rw[hQN]at ha;obtain⟨y,hy,rfl⟩:=Zi.1 ha;obtain⟨p,hp,e⟩:=Cy hy;obtain⟨c,hc⟩:=(h.tree p hp y e).blk;exact⟨c,_,hc⟩
 have ou:Hid (∀ k x,k<g.length->(g.getD k oh).2=some x->∃ c t,w.heap[A x.1]? = some (Obj.cells c t (0,0))):=fun k x hk hx=>by
  obtain⟨c,hc⟩:=(h.tree _ (lW hk) x hx).blk;exact⟨c,_,hc⟩
 clear h hQN;generalize (dw g).map (fun x=>A x.1)=R at *;go_enter Tryz.func309,Tryz.ntmps309;go_wp2;go_loopw [3,8] (fun pv iv wr=>∃ k:Nat,k<=g.length/\iv=.int .i64 (k:Int)/\Hid (wr.ownsRow w.heap.size 172 1 pv (QN k).length ((QN k).map fun x=>Value.pointer (some (aD x 0))))/\Hid (Bw w wr)) (fun _ iv _=>g.length-(intOf iv).toNat)
 case atStart=>exact⟨0,Q8 _,rfl,by rw[HQ0.o]; exact ZV _ _ _ _,Qw _ _⟩
 case round=>
  obtain⟨k,hk,rfl,HO,HB⟩:=hrel;obtain⟨xa,xm,xc,rfl⟩:=ZP HO.o;by_cases hlt:k<g.length
  ·obtain⟨c0,c1⟩:=(HG.o.below HB.o).cells hlt;have agJ:=Zh (HSN.o k hlt);have agK:Hid _:=fun x=>Gy.o k x hlt
   have agL:Hid _:=fun x=>ou.o k x hlt
   generalize os.getD k fC=ov at *;obtain⟨oa,oc,ox⟩:=ov;simp only[ah.val]at c0;generalize (g.getD k oh).2=pp at *
   cases pp with
   | none =>
    have HN:=Zh (agJ.o rfl);simp only[GV]at c1;have hb3:Bw wr (wr.alloc (.cells #[.slice oa ox.length oc,.pointer none] 297)):=dn _ _;have Ua:Hid ((wr.alloc (.cells #[.slice oa ox.length oc,.pointer none] 297)).ownsRow w.heap.size 172 1 (.slice xa xm xc) (QN (k+1)).length ((QN (k+1)).map fun x=>Value.pointer (some (aD x 0)))):=by
     rw[HN.o];exact ZN HO.o (Zo (s:=fun b=>b<wr.heap.size) hb3 (fun b _ h=>h)) (fun g hg=>(ZO HO.o hg).2)
    have HB3:=Zh (HB.o.trans (hb3.mono HB.o.size));clear agJ agK agL HO hb3;go_wp2;go_roundw
    case rel=>exact⟨k+1,by omega,by go_num,Ua.o,HB3.o⟩
    case measure=>simp[intOf]; omega
   | some x =>
    simp only[GV]at c1;obtain⟨w3,hw3⟩:∃ x',wr.alloc (.cells #[.slice oa ox.length oc,.pointer (some (aD (A x.1) 0))] 297)=x':=⟨_,rfl⟩
    have hb3:Bw wr w3:=by rw[<- hw3]; exact dn _ _
    have xX:=HB.o.trans (hb3.mono HB.o.size);have d1:w3.cell? (aD wr.heap.size 1)=some (.pointer (some (aD (A x.1) 0))):=by rw[<- hw3]; simp
    have ho3:=ZN HO.o (Zo (s:=fun b=>b<wr.heap.size) hb3 (fun b _ h=>h)) (fun g hg=>(ZO HO.o hg).2);have hlk:=HQL.o k;obtain⟨ya,yc,hy,hpt,-⟩:=mi ho3 (by omega);simp only[Value.slice.injEq]at hy;obtain⟨rfl,rfl,rfl⟩:=hy;have hup:∀ a,(∃ c t,w.heap[a]? = some (Obj.cells c t (0,0)))->∃ c t,w3.heap[a]? = some (Obj.cells c t (0,0)):=fun a ⟨c,t,e⟩=>⟨c,t,(xX.block _ (QV.1 e).1).trans e⟩
    have DX:=AV xa xc (QN k) (A x.1) w3 hpt (hup _ (agL.o x rfl)) (fun a ha=>hup _ (OO.o k a ha));have RO:=Zh (agK.o x rfl);have Ua:=Zh ho3;have HB3:=Zh xX;have hsz:=xX.size;clear hup hpt ho3 hb3 xX agJ agK agL HO;generalize A x.1=xa' at *;by_cases hm:xa'∈QN k
    ·have HN:=Zh (RO.o.trans (Qy hm));rw[QD hm]at DX;have HO4:Hid (w3.ownsRow w.heap.size 172 1 (.slice xa (QN k).length xc) (QN (k+1)).length ((QN (k+1)).map fun x=>Value.pointer (some (aD x 0)))):=by rw[HN.o]; exact Ua.o
     clear RO hm Ua HN;go_wp2_with fail;refine DX.mono ?_;rintro e w4 ⟨rfl,hw4⟩;have hw4:=hw4.symm;subst hw4;clear DX;go_wp2;go_roundw
     case rel=>exact⟨k+1,by omega,by go_num,HO4.o,HB3.o⟩
     case measure=>simp[intOf]; omega
    ·have HN:=Zh (RO.o.trans (Qz hm));rw[Ql hm]at DX;obtain⟨v',w5,vE,ug,hk5,⟨za,zm,zc,rfl⟩,hat⟩:=xN w3 w.heap.size (.slice xa (QN k).length xc) (QN k) Ua.o (by omega) hsz xa' 176;have BM:Hid (w5.ownsRow w.heap.size 172 1 (.slice za zm zc) (QN (k+1)).length ((QN (k+1)).map fun x=>Value.pointer (some (aD x 0)))):=by
      rw[HN.o];exact ug
     have kF:=Zh (HB3.o.trans (hk5.below hsz (fun b hb e=>by have:=(ZO Ua.o e).1; omega)));clear RO hm ug hk5 hat HN;go_wp2_with fail;refine DX.mono ?_;rintro e w4 ⟨rfl,hw4⟩;have hw4:=hw4.symm;subst hw4;clear DX;go_wp2_with (first | (at_builtin; refine Z8 rfl (.tmp 22) (.tmp 25) 176 rfl (.slice xa (QN k).length xc) (.slice (some (aD w3.heap.size 0)) 1 1) (.slice za zm zc) w5 rfl rfl vE ?_));clear vE;go_wp2;go_roundw
     case rel=>exact⟨k+1,by omega,by go_num,BM.o,kF.o⟩
     case measure=>simp[intOf]; omega
  ·have hkg:g.length=k:=by omega
   have HF:Hid (wr.ownsRow w.heap.size 172 1 (.slice xa xm xc) R.length (R.map fun x=>Value.pointer (some (aD x 0)))):=by
    rw[<- HQE.o,hkg];exact HO.o
   clear hkg;go_wp2;go_ret;exact⟨_,rfl,HF.o,HB.o⟩
def PtrTo(T:TypeId)(F:Nat->Prop)(w:World)(pv:Value)(o:Option aQ):Prop:=(o=none/\pv=.pointer none)∨∃ t a,o=some t/\pv=.pointer (some (aD a 0))/\aG T F w a t
theorem Hd(h:bz 178 297 F w gb A os g)(hl:g.length<=20)(gc:Nat)(ig:Int) :
  Calls Tryz.prog 352 #[.slice (some (aD gb 0)) g.length gc,.int .i64 ig] w fun e w'=>∃ pv,e=.returned pv/\PtrTo 178 F w' pv (rY g ig)/\Bw w w':=by
 have hPI:=Cz h hl gc;obtain⟨PN,YG⟩:∃ P,P=dw g:=⟨_,rfl⟩
 have YH:Hid (∀ k,k<PN.length->aG 178 F w ((PN.map fun x=>A x.1).getD k 0) (PN.getD k (0,mR)).2):=fun k hk=>by
  have e1:(PN.map fun x=>A x.1).getD k 0=A (PN[k]).1:=by rw[XH,Ze,ZX hk]; rfl
  have e2:PN.getD k (0,mR)=PN[k]:=by rw[XH,ZX hk]; rfl
  rw[e1,e2];have hm:PN[k]∈dw g:=by rw[<- YG]; exact Qp hk
  rcases lU g [] _ hm with h0 | ⟨p,hp,e⟩
  ·cases h0
  ·exact h.tree p hp _ e
 have HST:Hid (∀ k,k<PN.length->(PN.take (k+1)).foldl (oF ig) none=oF ig ((PN.take k).foldl (oF ig) none) (PN.getD k (0,mR))):=fun k hk=>iR _ _ PN (0,mR) hk
 have OM:Hid ((PN.take PN.length).foldl (oF ig) none=rY g ig):=by show _=_; rw[QA,YG]; rfl
 have Be:Hid (PN.length<=20):=by
  show _<=_
  rw[YG];have:=sU g g.length;rw[QA]at this;omega
 have HLM:Hid ((PN.map fun x=>A x.1).length=PN.length):=Zc _;rw[<- YG]at hPI;clear h YG;generalize rY g ig=R at *;obtain⟨MT,hMT⟩:∃ M:Nat->Option aQ,M=fun k=>(PN.take k).foldl (oF ig) none:=⟨_,rfl⟩
 obtain⟨BD,OG⟩:∃ M:Nat->aQ,M=fun k=>(PN.getD k (0,mR)).2:=⟨_,rfl⟩
 have aq1:Hid (∀ k,k<PN.length->aG 178 F w ((PN.map fun x=>A x.1).getD k 0) (BD k)):=by rw[OG]; exact YH.o
 have OL:Hid (∀ k,k<PN.length->MT (k+1)=if (aP (BD k).d.order [ig]&&(match MT k with | none=>true | some y=>decide ((BD k).d.cost<y.d.cost)))=true then some (BD k) else MT k):=fun k hk=>by
  have:=HST.o k hk;rw[hMT,OG];exact this
 have aq2:Hid (MT PN.length=R):=by rw[hMT]; exact OM.o
 have HM0:Hid (MT 0=none):=by rw[hMT]; rfl
 clear hMT OG YH HST OM;generalize (PN.map fun x=>A x.1)=xs at *;generalize PN.length=pl at *;clear PN;go_enter Tryz.func352,Tryz.ntmps352;go_wp2_with fail;refine hPI.mono ?_;rintro e w1 ⟨v1,rfl,ho1,hb1⟩;clear hPI;have hpl:=Be.o;obtain⟨xa,xc,rfl,hpt,-⟩:=mi ho1 (by rw[HLM.o]; omega);rw[HLM.o];have RX:=Zh hpt;have HB1:=Zh hb1;clear ho1 hpt hb1;go_wp2;go_loopw [5,11] (fun pv iv wr=>∃ k:Nat,k<=pl/\iv=.int .i64 (k:Int)/\Hid (PtrTo 178 F w pv (MT k))/\Hid (Bw w1 wr)) (fun _ iv _=>pl-(intOf iv).toNat)
 case atStart=>exact⟨0,Q8 _,rfl,.inl ⟨HM0.o,rfl⟩,Qw _ _⟩
 case round=>
  obtain⟨k,hk,rfl,HP,HB⟩:=hrel;have hbw:=HB1.o.trans (HB.o.mono HB1.o.size);by_cases hlt:k<pl
  ·obtain⟨bb,Ol,rfl,hbc⟩:=dB.get (RX.o.below HB.o) (i:=k) (by rw[HLM.o]; exact hlt);have hck:=hbc k (by rw[HLM.o]; exact hlt);have HTk:=aq1.o k hlt;obtain⟨p,hP,yQ⟩:=(HTk.below hbw).lh;have G7:=OL.o k hlt;obtain⟨x,hx⟩:=eY (xs.getD k 0)
   rw[<- hx]at hck hP HTk;have HX:=Zh HTk;have eo:p.order.xs=(BD k).d.order:=congrArg bZ.order yQ;have ec:p.cost=(BD k).d.cost:=congrArg bZ.cost yQ;rw[<- eo,<- ec]at G7;have jk:Hid (∀ y c,Bw wr y->y.cell? (aD c 0)=some (.int .i64 ig)->Cb 205 #[.slice p.order.ad p.order.xs.length p.order.cap,.slice (some (aD c 0)) 1 1] y (.bool (aP p.order.xs [ig]))):=fun y c hy hc=>
    jI p.order.ad (some (aD c 0)) p.order.cap 1 p.order.xs [ig] y (Qv hy hP.ok.order) ⟨by simp,fun i hi=>⟨c,0,rfl,by
     have:i=0:=by simpa using hi
     subst this;exact hc⟩⟩ hP.ok.cap
   have c3:wr.cell? (aD x 3)=some (.slice p.order.ad p.order.xs.length p.order.cap):=hP.c3;have c5:=hP.c5;generalize p.order.xs.length=R4 at *;generalize p.order.ad=R5 at *;generalize p.order.cap=R6 at *;generalize aP p.order.xs [ig]=SB at *;generalize p.cost=cx at *;have HS:=Zh G7;have jV:=Zh hbw;clear hbc hx hP yQ HTk eo ec G7 hbw p;obtain⟨wq,hwq⟩:∃ x,x=wr:=⟨_,rfl⟩
   subst hwq
   cases SB with
   | false =>
    have HN:Hid (MT (k+1)=MT k):=HS.o;rw[<- HN.o]at HP;rcases HP.o with⟨-,rfl⟩ | ⟨t0,r,-,rfl,-⟩
    ·go_wp2_with fail;refine wH wq fun hS=>?_
     refine wT 0 (.pointer (some (aD x 0))) hS (fun x hx=>?_) ?_
     ·go_simp
     refine wT 1 (.pointer (some (aD x 0))) hS (fun x hx=>?_) ?_
     ·go_simp
     refine wT 2 (.pointer (some (aD x 0))) hS (fun x hx=>?_) ?_
     ·go_simp
     refine wT 3 (.pointer (some (aD x 3))) hS (fun x hx=>?_) ?_
     ·go_simp
     refine wT 4 (.slice R5 R4 R6) hS (fun x hx=>?_) ?_
     ·have e0:=cB hx c3;go_simp
     refine wT 5 (.int .i64 ig) hS (fun x hx=>?_) ?_
     ·go_simp
     refine wR 6 fun K hK=>?_
     go_simp;refine oA hK hS fun hS=>?_
     clear hK K;refine wR 7 fun K hK=>?_
     go_simp;refine Xt (jk.o _ _ hS (by simp)) ?_;rintro e w2 ⟨rfl,hb⟩;refine oT hK hS hb fun hS=>?_
     clear hK K;refine wT 8 (.bool false) hS (fun x hx=>?_) ?_
     ·go_simp
     simp only[Act.put,XX,XY,XZ,ZZ,Qe,Qf];refine wU 9 hS ?_;refine wU 10 hS ?_;refine wU 11 hS ?_;refine wU 12 hS ?_;refine wU 13 hS ?_;refine wU 14 hS ?_;refine wU 15 hS ?_;refine wU 16 hS ?_;refine wU 17 hS ?_;refine wU 18 hS ?_;refine wU 19 hS ?_;refine wU 20 hS ?_;refine wU 21 hS ?_;refine wU 22 hS ?_;refine wU 23 hS ?_;refine wG 24 (.bool false) hS (fun x hx=>?_) ?_
     ·go_simp
     refine wD ?_
     try simp only[Act.put,XX,XY,XZ,ZZ,Qe,Qf]
     try simp only[Act.put,XX,XY,XZ,ZZ,Qe,Qf]
     have HB2:=Zh (HB.o.trans (hS.mono HB.o.size));clear hS;clear c3 c5 hck jk
     try clear r5
     go_wp2;go_roundw
     case rel=>exact⟨k+1,by omega,by go_num,HP.o,HB2.o⟩
     case measure=>simp[intOf]; omega
    ·go_wp2_with fail;refine wH wq fun hS=>?_
     refine wT 0 (.pointer (some (aD x 0))) hS (fun x hx=>?_) ?_
     ·go_simp
     refine wT 1 (.pointer (some (aD x 0))) hS (fun x hx=>?_) ?_
     ·go_simp
     refine wT 2 (.pointer (some (aD x 0))) hS (fun x hx=>?_) ?_
     ·go_simp
     refine wT 3 (.pointer (some (aD x 3))) hS (fun x hx=>?_) ?_
     ·go_simp
     refine wT 4 (.slice R5 R4 R6) hS (fun x hx=>?_) ?_
     ·have e0:=cB hx c3;go_simp
     refine wT 5 (.int .i64 ig) hS (fun x hx=>?_) ?_
     ·go_simp
     refine wR 6 fun K hK=>?_
     go_simp;refine oA hK hS fun hS=>?_
     clear hK K;refine wR 7 fun K hK=>?_
     go_simp;refine Xt (jk.o _ _ hS (by simp)) ?_;rintro e w2 ⟨rfl,hb⟩;refine oT hK hS hb fun hS=>?_
     clear hK K;refine wT 8 (.bool false) hS (fun x hx=>?_) ?_
     ·go_simp
     simp only[Act.put,XX,XY,XZ,ZZ,Qe,Qf];refine wU 9 hS ?_;refine wU 10 hS ?_;refine wU 11 hS ?_;refine wU 12 hS ?_;refine wU 13 hS ?_;refine wU 14 hS ?_;refine wU 15 hS ?_;refine wU 16 hS ?_;refine wU 17 hS ?_;refine wU 18 hS ?_;refine wU 19 hS ?_;refine wU 20 hS ?_;refine wU 21 hS ?_;refine wU 22 hS ?_;refine wU 23 hS ?_;refine wG 24 (.bool false) hS (fun x hx=>?_) ?_
     ·go_simp
     refine wD ?_
     try simp only[Act.put,XX,XY,XZ,ZZ,Qe,Qf]
     try simp only[Act.put,XX,XY,XZ,ZZ,Qe,Qf]
     have HB2:=Zh (HB.o.trans (hS.mono HB.o.size));clear hS;clear c3 c5 hck jk
     try clear r5
     go_wp2;go_roundw
     case rel=>exact⟨k+1,by omega,by go_num,HP.o,HB2.o⟩
     case measure=>simp[intOf]; omega
   | true =>
    rcases HP.o with⟨hm,rfl⟩ | ⟨t0,r,hm,rfl,hr⟩
    ·have HN:Hid (MT (k+1)=some (BD k)):=by
      have:=HS.o;rw[hm]at this;exact this
     have HP2:Hid (PtrTo 178 F w (.pointer (some (aD x 0))) (MT (k+1))):=.inr ⟨BD k,x,HN.o,rfl,HX.o⟩;clear hm HS HN HP;go_wp2_with fail;refine wH wq fun hS=>?_
     refine wT 0 (.pointer (some (aD x 0))) hS (fun x hx=>?_) ?_
     ·go_simp
     refine wT 1 (.pointer (some (aD x 0))) hS (fun x hx=>?_) ?_
     ·go_simp
     refine wT 2 (.pointer (some (aD x 0))) hS (fun x hx=>?_) ?_
     ·go_simp
     refine wT 3 (.pointer (some (aD x 3))) hS (fun x hx=>?_) ?_
     ·go_simp
     refine wT 4 (.slice R5 R4 R6) hS (fun x hx=>?_) ?_
     ·have e0:=cB hx c3;go_simp
     refine wT 5 (.int .i64 ig) hS (fun x hx=>?_) ?_
     ·go_simp
     refine wR 6 fun K hK=>?_
     go_simp;refine oA hK hS fun hS=>?_
     clear hK K;refine wR 7 fun K hK=>?_
     go_simp;refine Xt (jk.o _ _ hS (by simp)) ?_;rintro e w2 ⟨rfl,hb⟩;refine oT hK hS hb fun hS=>?_
     clear hK K;refine wT 8 (.bool true) hS (fun x hx=>?_) ?_
     ·go_simp
     simp only[Act.put,XX,XY,XZ,ZZ,Qe,Qf];refine wG 9 (.pointer none) hS (fun x hx=>?_) ?_
     ·go_simp
     refine wG 10 (.bool true) hS (fun x hx=>?_) ?_
     ·go_simp
     refine wG 11 (.bool true) hS (fun x hx=>?_) ?_
     ·go_simp
     simp only[Act.put,XX,XY,XZ,ZZ,Qe,Qf];refine wU 12 hS ?_;refine wU 13 hS ?_;refine wU 14 hS ?_;refine wU 15 hS ?_;refine wU 16 hS ?_;refine wU 17 hS ?_;refine wU 18 hS ?_;refine wU 19 hS ?_;refine wU 20 hS ?_;refine wU 21 hS ?_;refine wU 22 hS ?_;refine wG 23 (.bool true) hS (fun x hx=>?_) ?_
     ·go_simp
     refine wG 24 (.bool true) hS (fun x hx=>?_) ?_
     ·go_simp
     refine wD ?_
     try simp only[Act.put,XX,XY,XZ,ZZ,Qe,Qf]
     try simp only[Act.put,XX,XY,XZ,ZZ,Qe,Qf]
     have HB2:=Zh (HB.o.trans (hS.mono HB.o.size));clear hS;clear c3 c5 hck jk
     try clear r5
     go_wp2;go_roundw
     case rel=>exact⟨k+1,by omega,by go_num,HP2.o,HB2.o⟩
     case measure=>simp[intOf]; omega
    ·obtain⟨pr,Uw,hrd⟩:=(hr.below jV.o).lh;have er:pr.cost=t0.d.cost:=congrArg bZ.cost hrd;have HN:Hid (MT (k+1)=if cx<pr.cost then some (BD k) else MT k):=by
      have:=HS.o;rw[hm]at this;rw[hm,er];simp only[QE,QJ]at this;exact this
     have r5:=Uw.c5;generalize pr.cost=cr at *;clear Uw hrd er hm HS hr pr;by_cases hc:cx<cr
     ·have HC:=Zh hc;have HP2:Hid (PtrTo 178 F w (.pointer (some (aD x 0))) (MT (k+1))):=.inr ⟨BD k,x,by rw[HN.o,Qy hc],rfl,HX.o⟩;clear hc HN HP;go_wp2_with fail;refine wH wq fun hS=>?_
      refine wT 0 (.pointer (some (aD x 0))) hS (fun x hx=>?_) ?_
      ·go_simp
      refine wT 1 (.pointer (some (aD x 0))) hS (fun x hx=>?_) ?_
      ·go_simp
      refine wT 2 (.pointer (some (aD x 0))) hS (fun x hx=>?_) ?_
      ·go_simp
      refine wT 3 (.pointer (some (aD x 3))) hS (fun x hx=>?_) ?_
      ·go_simp
      refine wT 4 (.slice R5 R4 R6) hS (fun x hx=>?_) ?_
      ·have e0:=cB hx c3;go_simp
      refine wT 5 (.int .i64 ig) hS (fun x hx=>?_) ?_
      ·go_simp
      refine wR 6 fun K hK=>?_
      go_simp;refine oA hK hS fun hS=>?_
      clear hK K;refine wR 7 fun K hK=>?_
      go_simp;refine Xt (jk.o _ _ hS (by simp)) ?_;rintro e w2 ⟨rfl,hb⟩;refine oT hK hS hb fun hS=>?_
      clear hK K;refine wT 8 (.bool true) hS (fun x hx=>?_) ?_
      ·go_simp
      simp only[Act.put,XX,XY,XZ,ZZ,Qe,Qf];refine wG 9 (.pointer (some (aD r 0))) hS (fun x hx=>?_) ?_
      ·go_simp
      refine wG 10 (.bool false) hS (fun x hx=>?_) ?_
      ·go_simp
      refine wG 11 (.bool false) hS (fun x hx=>?_) ?_
      ·go_simp
      simp only[Act.put,XX,XY,XZ,ZZ,Qe,Qf];refine wG 12 (.pointer (some (aD x 0))) hS (fun x hx=>?_) ?_
      ·go_simp
      refine wG 13 (.pointer (some (aD x 0))) hS (fun x hx=>?_) ?_
      ·go_simp
      refine wG 14 (.pointer (some (aD x 0))) hS (fun x hx=>?_) ?_
      ·go_simp
      refine wG 15 (.pointer (some (aD x 5))) hS (fun x hx=>?_) ?_
      ·go_simp
      refine wG 16 (.int .u64 (cx:Int)) hS (fun x hx=>?_) ?_
      ·have e0:=cB hx c5;go_simp
      refine wG 17 (.pointer (some (aD r 0))) hS (fun x hx=>?_) ?_
      ·go_simp
      refine wG 18 (.pointer (some (aD r 0))) hS (fun x hx=>?_) ?_
      ·go_simp
      refine wG 19 (.pointer (some (aD r 0))) hS (fun x hx=>?_) ?_
      ·go_simp
      refine wG 20 (.pointer (some (aD r 5))) hS (fun x hx=>?_) ?_
      ·go_simp
      refine wG 21 (.int .u64 (cr:Int)) hS (fun x hx=>?_) ?_
      ·have e0:=cB hx r5;go_simp
      refine wG 22 (.bool true) hS (fun x hx=>?_) ?_
      ·go_simp;exact HC.o
      refine wG 23 (.bool true) hS (fun x hx=>?_) ?_
      ·go_simp
      refine wG 24 (.bool true) hS (fun x hx=>?_) ?_
      ·go_simp
      refine wD ?_
      try simp only[Act.put,XX,XY,XZ,ZZ,Qe,Qf]
      try simp only[Act.put,XX,XY,XZ,ZZ,Qe,Qf]
      have HB2:=Zh (HB.o.trans (hS.mono HB.o.size));clear hS;clear c3 c5 hck jk
      try clear r5
      go_wp2;go_roundw
      case rel=>exact⟨k+1,by omega,by go_num,HP2.o,HB2.o⟩
      case measure=>simp[intOf]; omega
     ·have HC:=Zh (Nat.le_of_not_lt hc);have HP2:Hid (PtrTo 178 F w (.pointer (some (aD r 0))) (MT (k+1))):=by
       show PtrTo _ _ _ _ _
       rw[HN.o,Qz hc];exact HP.o
      clear hc HN HP;go_wp2_with fail;refine wH wq fun hS=>?_
      refine wT 0 (.pointer (some (aD x 0))) hS (fun x hx=>?_) ?_
      ·go_simp
      refine wT 1 (.pointer (some (aD x 0))) hS (fun x hx=>?_) ?_
      ·go_simp
      refine wT 2 (.pointer (some (aD x 0))) hS (fun x hx=>?_) ?_
      ·go_simp
      refine wT 3 (.pointer (some (aD x 3))) hS (fun x hx=>?_) ?_
      ·go_simp
      refine wT 4 (.slice R5 R4 R6) hS (fun x hx=>?_) ?_
      ·have e0:=cB hx c3;go_simp
      refine wT 5 (.int .i64 ig) hS (fun x hx=>?_) ?_
      ·go_simp
      refine wR 6 fun K hK=>?_
      go_simp;refine oA hK hS fun hS=>?_
      clear hK K;refine wR 7 fun K hK=>?_
      go_simp;refine Xt (jk.o _ _ hS (by simp)) ?_;rintro e w2 ⟨rfl,hb⟩;refine oT hK hS hb fun hS=>?_
      clear hK K;refine wT 8 (.bool true) hS (fun x hx=>?_) ?_
      ·go_simp
      simp only[Act.put,XX,XY,XZ,ZZ,Qe,Qf];refine wG 9 (.pointer (some (aD r 0))) hS (fun x hx=>?_) ?_
      ·go_simp
      refine wG 10 (.bool false) hS (fun x hx=>?_) ?_
      ·go_simp
      refine wG 11 (.bool false) hS (fun x hx=>?_) ?_
      ·go_simp
      simp only[Act.put,XX,XY,XZ,ZZ,Qe,Qf];refine wG 12 (.pointer (some (aD x 0))) hS (fun x hx=>?_) ?_
      ·go_simp
      refine wG 13 (.pointer (some (aD x 0))) hS (fun x hx=>?_) ?_
      ·go_simp
      refine wG 14 (.pointer (some (aD x 0))) hS (fun x hx=>?_) ?_
      ·go_simp
      refine wG 15 (.pointer (some (aD x 5))) hS (fun x hx=>?_) ?_
      ·go_simp
      refine wG 16 (.int .u64 (cx:Int)) hS (fun x hx=>?_) ?_
      ·have e0:=cB hx c5;go_simp
      refine wG 17 (.pointer (some (aD r 0))) hS (fun x hx=>?_) ?_
      ·go_simp
      refine wG 18 (.pointer (some (aD r 0))) hS (fun x hx=>?_) ?_
      ·go_simp
      refine wG 19 (.pointer (some (aD r 0))) hS (fun x hx=>?_) ?_
      ·go_simp
      refine wG 20 (.pointer (some (aD r 5))) hS (fun x hx=>?_) ?_
      ·go_simp
      refine wG 21 (.int .u64 (cr:Int)) hS (fun x hx=>?_) ?_
      ·have e0:=cB hx r5;go_simp
      refine wG 22 (.bool false) hS (fun x hx=>?_) ?_
      ·go_simp;exact HC.o
      refine wG 23 (.bool false) hS (fun x hx=>?_) ?_
      ·go_simp
      refine wG 24 (.bool false) hS (fun x hx=>?_) ?_
      ·go_simp
      refine wD ?_
      try simp only[Act.put,XX,XY,XZ,ZZ,Qe,Qf]
      try simp only[Act.put,XX,XY,XZ,ZZ,Qe,Qf]
      have HB2:=Zh (HB.o.trans (hS.mono HB.o.size));clear hS;clear c3 c5 hck jk
      try clear r5
      go_wp2;go_roundw
      case rel=>exact⟨k+1,by omega,by go_num,HP2.o,HB2.o⟩
      case measure=>simp[intOf]; omega
  ·have hkp:pl=k:=by omega
   rw[<- hkp,aq2.o]at HP;have HF:=Zh hbw;clear hkp hbw;rcases HP.o with⟨hm,rfl⟩ | ⟨t0,r,hm,rfl,hr⟩
   ·have HM:=Zh hm;clear hm;go_wp2;go_ret;exact⟨_,rfl,.inl ⟨HM.o,rfl⟩,HF.o⟩
   ·have HM:=Zh hm;have HR:=Zh hr;clear hm hr;go_wp2;go_ret;exact⟨_,rfl,.inr ⟨t0,r,HM.o,rfl,HR.o.below HF.o⟩,HF.o⟩
theorem KJ{W0:World}{f:au}{ts:List af}{q:ae}(E:Env f ts q W0)(hz:Fz F W0 w)(a b:Nat)(ha:a<2 ^ q.src.xs.length)(hb:b<2 ^ q.src.xs.length) :
  Cb 351 #[.agg (f.cells ts q),.int .u64 (a:Int),.int .u64 (b:Int)] w (.int .u64 ((bP (aF ts q) a b:Nat):Int)):=by
 obtain⟨v0,v1,v2,v3,v4,v5,v6,v7,v8,v9,v10,v11,v12,bB,-⟩:=Xu f ts q;have h64:2 ^ q.src.xs.length<=18446744073709551616:=Q7 (n:=2) (by omega) E.ok.small;have hw64:∀ s,aW (aF ts q) s<18446744073709551616:=fun s=>Q6 (iQ _ _ (aF ts q).length) (Q7 (n:=2) (by omega) (show (aF ts q).length<=64 by rw[Xa]; exact E.ok.mP))
 have hab:=sJ ha hb;have HWI:Hid (∀ (x:World) (s:Nat),s<18446744073709551616->Bw w x->Cb 307 #[.agg #[v0,v1,v2,v3,v4,v5,v6,v7,v8,v9,v10,v11,v12],.int .u64 (s:Int)] x (.int .u64 ((aW (aF ts q) s:Nat):Int))):=fun x s hs hx=>by
  rw[<- bB];exact Ad f ts q s x E.ok ((E.at' hz).below hx) hs
 have hR:bP (aF ts q) a b=aW (aF ts q) (a|||b) &&& (18446744073709551615-(aW (aF ts q) a|||aW (aF ts q) b)):=rfl;rw[hR,bB];have HH:Hid (a<18446744073709551616/\b<18446744073709551616/\a|||b<18446744073709551616):=⟨by omega,by omega,by omega⟩
 have h1:=hw64 (a|||b);have h2:=hw64 a;have h3:=hw64 b;have HWA:Hid (∀ x,Bw w x->Cb 307 #[.agg #[v0,v1,v2,v3,v4,v5,v6,v7,v8,v9,v10,v11,v12],.int .u64 ((a|||b:Nat):Int)] x (.int .u64 ((aW (aF ts q) (a|||b):Nat):Int))):=fun x hx=>HWI.o x _ HH.o.2.2 hx
 have yP:Hid (∀ x,Bw w x->Cb 307 #[.agg #[v0,v1,v2,v3,v4,v5,v6,v7,v8,v9,v10,v11,v12],.int .u64 (a:Int)] x (.int .u64 ((aW (aF ts q) a:Nat):Int))):=fun x hx=>HWI.o x _ HH.o.1 hx
 have HWC:Hid (∀ x,Bw w x->Cb 307 #[.agg #[v0,v1,v2,v3,v4,v5,v6,v7,v8,v9,v10,v11,v12],.int .u64 (b:Int)] x (.int .u64 ((aW (aF ts q) b:Nat):Int))):=fun x hx=>HWI.o x _ HH.o.2.1 hx
 generalize aW (aF ts q) (a|||b)=A1 at *;generalize aW (aF ts q) a=A2 at *;generalize aW (aF ts q) b=A3 at *;have h4:A2|||A3<18446744073709551616:=sJ (n:=64) h2 h3
 have HAN:=u64_andNot_nat A1 (A2|||A3) h1 h4;have HUA:Hid (∀ (x:World) (c:Nat),x.cell? (aD c 0)=some (.int .u64 (a:Int))->x.cell? (aD c 1)=some (.int .u64 (b:Int))->Ce 195 #[.slice (some (aD c 0)) 2 2] x (.int .u64 ((a|||b:Nat):Int))):=fun x c e0 e1=>jM c a b x e0 e1 HH.o.1 HH.o.2.1
 have HUB:Hid (∀ (x:World) (c:Nat),x.cell? (aD c 0)=some (.int .u64 (A2:Int))->x.cell? (aD c 1)=some (.int .u64 (A3:Int))->Ce 195 #[.slice (some (aD c 0)) 2 2] x (.int .u64 ((A2|||A3:Nat):Int))):=fun x c e0 e1=>jM c A2 A3 x e0 e1 h2 h3
 generalize a|||b=ab at *
 generalize A2|||A3=A23 at *
 generalize A1 &&& (18446744073709551615-A23)=RR at *;obtain⟨w1,hw1,hb1,hg1⟩:=aU w #[v0,v1,v2,v3,v4,v5,v6,v7,v8,v9,v10,v11,v12] 90;obtain⟨a0,a1,a2,a3,a4,a5,a6,a7,a8,a9,iy,iL,a12⟩:=hg1.k13;have HB1:=Zh hb1;go_enter Tryz.func351,Tryz.ntmps351;go_wp2_with fail;refine wH w1 fun hS=>?_
 refine wT 0 (.agg #[v0,v1,v2,v3,v4,v5,v6,v7,v8,v9,v10,v11,v12]) hS (fun x hx=>?_) ?_
 ·have e0:=lI hx a0 a1 a2 a3 a4 a5 a6 a7 a8 a9 iy iL a12;go_simp
 refine wt 1 (.int .u64 (a:Int)) hS ?_;refine wt 2 (.int .u64 (b:Int)) hS ?_;refine wT 6 (.agg #[v0,v1,v2,v3,v4,v5,v6,v7,v8,v9,v10,v11,v12]) hS (fun x hx=>?_) ?_
 ·have e0:=lI hx a0 a1 a2 a3 a4 a5 a6 a7 a8 a9 iy iL a12;go_simp
 refine wt 7 (.int .u64 (a:Int)) hS ?_;refine wT 9 (.agg #[v0,v1,v2,v3,v4,v5,v6,v7,v8,v9,v10,v11,v12]) hS (fun x hx=>?_) ?_
 ·have e0:=lI hx a0 a1 a2 a3 a4 a5 a6 a7 a8 a9 iy iL a12;go_simp
 refine wt 10 (.int .u64 (b:Int)) hS ?_;refine wR 3 fun K hK=>?_
 go_simp;refine oA hK hS fun hS=>?_
 refine wR 4 fun K hK=>?_
 go_simp;refine Xt (HUA.o _ _ (by simp) (by simp)) ?_;rintro e w2 ⟨rfl,hw2⟩;have hw2:=hw2.symm;subst hw2;refine hK.o _ _ hS fun hS=>?_
 refine wR 5 fun K hK=>?_
 go_simp;refine Xt (HWA.o _ (aA HB1.o hS)) ?_;rintro e w3 ⟨rfl,hb⟩;refine oT hK hS hb fun hS=>?_
 refine wR 8 fun K hK=>?_
 go_simp;refine Xt (yP.o _ (aA HB1.o hS)) ?_;rintro e w4 ⟨rfl,hb⟩;refine oT hK hS hb fun hS=>?_
 refine wR 11 fun K hK=>?_
 go_simp;refine Xt (HWC.o _ (aA HB1.o hS)) ?_;rintro e w5 ⟨rfl,hb⟩;refine oT hK hS hb fun hS=>?_
 refine wR 12 fun K hK=>?_
 go_simp;refine oA hK hS fun hS=>?_
 refine wR 13 fun K hK=>?_
 go_simp;refine Xt (HUB.o _ _ (by simp) (by simp)) ?_;rintro e w6 ⟨rfl,lS⟩;have lS:=lS.symm;subst lS;refine hK.o _ _ hS fun hS=>?_
 refine wR 14 fun K hK=>?_
 go_simp;refine hK.o _ _ hS fun hS=>?_
 refine wR 15 fun K hK=>?_
 go_simp;refine hK.o _ _ hS fun hS=>?_
 refine wD ?_
 try simp only[pU]
 have HF:=Zh (aA HB1.o hS);go_wp2;go_ret;refine⟨Qh ?_,HF.o⟩
 first | rfl | simp
structure iT where
 ad:Addr
 cap:Nat
 xs:List Nat
def Ev:iT:=⟨(aD 0 0),0,[]⟩
def iT.val(x:iT):Value:=.slice (some x.ad) x.xs.length x.cap
def fD(ls:List iT):List Nat:=(ls.map (·.xs)).flatten
theorem CO{ls:List iT}(hk:k<ls.length):fD (ls.take (k+1))=fD (ls.take k)++(ls.getD k Ev).xs:=by
 unfold fD;rw[XL ls Ev hk,Qs,List.flatten_append];simp
theorem K7{ls:List iT}:(fD (ls.take k)).length<=(fD ls).length:=by
 have h:fD ls=fD (ls.take k)++fD (ls.drop k):=by
  unfold fD;rw[<- List.flatten_append,<- Qs,List.take_append_drop]
 rw[h,Zb];omega
structure Y3(w:World)(ao:Option Addr)(ls:List iT):Prop where
 cells:bC w ao ls.length (fun i=>(ls.getD i Ev).val)
 each:∀ i,i<ls.length->dB w (some (ls.getD i Ev).ad) (ls.getD i Ev).xs
def Tryz.UG:Go.Shelf.Ren:=⟨fun | 4=>353 | n=>n,fun | 22=>176 | 25=>172 | 3=>3 | 4=>4 | 9=>9 | 20=>20 | 0=>0 | n=>n,fun | n=>n⟩
theorem Tryz.ay:Go.Proofs.Lays8.n4 Tryz.prog Tryz.UG:={
 mixed:=by kernel_rfl
 f4:=⟨Tryz.f353.name,by decide,Tryz.func353.trans (congrArg some (by kernel_rfl))⟩
 t0:=Tryz.underlying0
 a0:=Tryz.isAgg0
 z0:=Tryz.sizeOf0
 v0:=Tryz.zeroValue0
 t3:=Tryz.underlying3
 a3:=Tryz.isAgg3
 z3:=Tryz.sizeOf3
 v3:=Tryz.zeroValue3
 t4:=Tryz.underlying4
 a4:=Tryz.isAgg4
 z4:=Tryz.sizeOf4
 v4:=Tryz.zeroValue4
 t9:=Tryz.underlying9
 a9:=Tryz.isAgg9
 z9:=Tryz.sizeOf9
 v9:=Tryz.zeroValue9
 t20:=Tryz.underlying20
 a20:=Tryz.isAgg20
 z20:=Tryz.sizeOf20
 v20:=Tryz.zeroValue20
 t22:=Tryz.underlying176
 a22:=Tryz.isAgg176
 z22:=Tryz.sizeOf176
 v22:=Tryz.zeroValue176 }
theorem UH(n:Nat)(w:World)(hn:n<=1000000) :
  Calls Tryz.prog 353 #[.slice none 0 0,.int .i64 n] w fun e w'=>∃ v,e=.returned v/\w'.ownsRow w.heap.size 172 1 v 0 []/\Bw w w':=by
 obtain⟨i0,hi,hz0,hz1,hz2⟩:=ZU Tryz.qf;by_cases h0:n=0
 ·subst h0;have h:=Any8.slices_Grow_room Tryz.ay none 0 0 0 w (Qx _) (by omega) (by omega) (by omega);change Calls Tryz.prog 353 _ _ _ at h;refine h.mono ?_;rintro e w' ⟨rfl,rfl⟩;exact⟨_,rfl,ZV _ _ _ _,Qw _ _⟩
 ·have h:=Any8.slices_Grow_grow Tryz.ay i0 (.pointer none) hi hz0 (by rw[hz1]; decide) none 0 0 n [] w (Qx _) (by omega) (by rw[hz2]; omega) (by omega) (by simp) (fun _=>rfl) (fun a e=>by cases e);change Calls Tryz.prog 353 _ _ _ at h;refine h.mono ?_;rintro e w' ⟨rfl,rfl⟩;refine⟨_,rfl,⟨by simp,.inr ⟨w.heap.size,_,_,rfl,Qx _,l6 w.drew _,Q8 _,?_,?_,by simp⟩⟩,?_⟩
  ·exact grownCap_le_maxLen _ _ _ _ (by unfold maxLen; omega)
  ·have hge:=grownCap_ge w (0+n) 0 172;have hz:(Value.pointer none).cells.size=1:=rfl;simp only[Array.size_append,size_zeroCells,hz,Zy,ZA]
   show 0+(0+n-0)*1+(grownCap w (0+n) 0 172-(0+n))*1=grownCap w (0+n) 0 172*1
   omega
  ·exact(Qw _ w).drew.alloc (Qx _) _
theorem UI(W:World)(base:Nat)(v:Value)(fk:List Nat)(hown:W.ownsRow base 172 1 v fk.length (fk.map fun x=>Value.pointer (some (aD x 0))))(xa:Addr)(xc:Nat)(xs:List Nat)(hx:dB W (some xa) xs)(hl:fk.length+xs.length<=1000)(hb:base<=W.heap.size)(ty:TypeId) :
  ∃ v' w',(Builtin.append_ #[176,176] ty #[v,.slice (some xa) xs.length xc]).run Tryz.prog W=.ok v' w'/\w'.ownsRow base 172 1 v' (fk++xs).length ((fk++xs).map fun x=>Value.pointer (some (aD x 0)))/\Kept (fun b=>v.ownBlock≠some b) W w'/\∃ a m c,v' = .slice a m c:=by
 obtain⟨i0,hi,hz0,hz1,hz2⟩:=ZU Tryz.qf;obtain⟨v',w',hr,ho,hg,_⟩:=run_append_own_at (P:=Tryz.prog) W base 176 ty 172 i0 _ 1 8 Tryz.underlying176 hi hz0 hz1 hz2 rfl (by decide) v fk.length _ hown xa xs.length xc (xs.map fun x=>Value.pointer (some (aD x 0))) (by simp)
  (fun j u hj=>by
   by_cases hjl:j<xs.length
   ·obtain⟨b',off',e,hc⟩:=hx.2 j hjl
    cases e
    rw[addr_add];have hu:u=.pointer (some (aD (xs.getD j 0) 0)):=by
     rw[Ze,ZX hjl]at hj;rw[XH,ZX hjl];exact(Option.some.inj hj).symm
    rw[hu];exact hc
   ·rw[Zk (by simp; omega)]at hj; cases hj) (fun u hu=>by obtain⟨x,_,rfl⟩:=Zi.1 hu; rfl) (by unfold maxLen; omega) (by omega) hb
 exact⟨v',w',hr,by rw[Zb,Qs]; exact ho,ZM hg (fun r e hr=>hr e),ZP ho⟩
theorem K9(ao:Option Addr)(cap:Nat)(ls:List iT)(w:World)(hr:Y3 w ao ls)(hn:ls.length<=1000)(ht:(fD ls).length<=1000) :
  Calls Tryz.prog 311 #[.slice ao ls.length cap] w fun e w'=>∃ v,e=.returned v/\w'.ownsRow w.heap.size 172 1 v (fD ls).length ((fD ls).map fun x=>Value.pointer (some (aD x 0)))/\Bw w w':=by
 obtain⟨i0,hi,hz0,hz1,hz2⟩:=ZU Tryz.qf;have HR:=Zh hr;have HT:=Zh ht;clear hr ht;go_enter Tryz.func311,Tryz.ntmps311;go_wp2;go_loopw [3,11] (fun s i wr=>∃ k:Nat,k<=ls.length/\i=.int .i64 k/\s=.int .i64 (fD (ls.take k)).length/\w=wr) (fun _ i _=>ls.length-(intOf i).toNat)
 case atStart=>exact⟨0,Q8 _,rfl,rfl,rfl⟩
 case round=>
  obtain⟨k,hk,rfl,rfl,rfl⟩:=hrel;by_cases hlt:k<ls.length
  ·obtain⟨b,off,rfl,hcs⟩:=Qi HR.o.cells hlt;have hck:=hcs k hlt;have hle:(fD (ls.take (k+1))).length<=1000:=Zl K7 HT.o;have hsc:(fD (ls.take (k+1))).length=(fD (ls.take k)).length+(ls.getD k Ev).xs.length:=by rw[CO hlt,Zb]
   have HS:=Zh hsc;generalize ls.getD k Ev=x at *;obtain⟨Bc,mW,vC⟩:=x;have Tk:w.cell? (aD b (off+k))=some (.slice (some Bc) vC.length mW):=hck;have hw:wrap64 (((fD (ls.take k)).length:Int)+(vC.length:Int))=(((fD (ls.take k)).length+vC.length:Nat):Int):=by
    simp only at hsc;unfold wrap64; omega
   have hng:¬ ((((fD (ls.take k)).length+vC.length:Nat):Int)<0):=by omega
   have HWr:=Zh hw;clear hck hcs hle hsc;generalize (fD (ls.take k)).length=a at *;go_wp2;go_roundw
   case rel=>exact⟨k+1,by omega,by go_num,by rw[HS.o]; exact congrArg (Value.int .i64) HWr.o,trivial⟩
   case measure=>simp[intOf]; omega
  ·have hkk:k=ls.length:=by omega
   subst hkk;rw[QA];have ht:=HT.o;generalize hfl:fD ls=fl at *;have HF:=Zh hfl;clear hfl;go_wp2_with fail;refine(UH fl.length w (by omega)).mono ?_;rintro e w2 ⟨v0,rfl,hown0,hb0⟩;have HO0:=Zh hown0;have HB0:=Zh hb0;clear hown0 hb0;go_wp2;go_loopw [6,27] (fun v i wr=>∃ k:Nat,k<=ls.length/\i=.int .i64 k/\Hid (wr.ownsRow w.heap.size 172 1 v (fD (ls.take k)).length ((fD (ls.take k)).map fun x=>Value.pointer (some (aD x 0))))/\Hid (Bw w wr)) (fun _ i _=>ls.length-(intOf i).toNat)
   case atStart=>exact⟨0,Q8 _,rfl,HO0.o,HB0.o⟩
   case round=>
    obtain⟨k,hk,rfl,HOW,zw⟩:=hrel;obtain⟨xa0,xm0,xc0,rfl⟩:=ZP HOW.o;by_cases hlt:k<ls.length
    ·obtain⟨b,off,rfl,hcs⟩:=Qi HR.o.cells hlt;have hck:=cB zw.o (hcs k hlt);have hat:=(HR.o.each k hlt).below zw.o;have hle:(fD (ls.take (k+1))).length<=1000:=by
      have h1:(fD (ls.take (k+1))).length<=(fD ls).length:=K7;rw[HF.o]at h1;omega
     have hfs:=CO hlt;have HFS:=Zh hfs;rw[hfs,Zb]at hle;generalize ls.getD k Ev=x at *;obtain⟨Bc,mW,vC⟩:=x;simp only at hat hle;have Tk:wr.cell? (aD b (off+k))=some (.slice (some Bc) vC.length mW):=hck;have HA:=Zh hat;clear hck hcs hfs hat;generalize fD (ls.take k)=fk at *;have hsz:=zw.o.size;obtain⟨v',w1,hr1,ho1,hk1,⟨za,zm,zc,rfl⟩⟩:=UI wr w.heap.size (.slice xa0 xm0 xc0) fk HOW.o Bc mW vC HA.o hle hsz 176;have HO:Hid (w1.ownsRow w.heap.size 172 1 (.slice za zm zc) (fD (ls.take (k+1))).length ((fD (ls.take (k+1))).map fun x=>Value.pointer (some (aD x 0)))):=by
      show World.ownsRow _ _ _ _ _ _ _
      rw[HFS.o];exact ho1
     have HB:=Zh (zw.o.trans (hk1.below zw.o.size (fun b hb e=>by have:=(ZO HOW.o e).1; omega)));clear ho1 hk1 hle hsz;go_wp2_with (first | (at_builtin; refine Z8 rfl (.tmp 31) (.tmp 32) 176 rfl (.slice xa0 xm0 xc0) (.slice (some Bc) vC.length mW) (.slice za zm zc) w1 rfl rfl hr1 ?_));clear hr1 Tk;go_wp2;go_roundw
     case rel=>exact⟨k+1,by omega,by go_num,HO.o,HB.o⟩
     case measure=>simp[intOf]; omega
    ·have hkk:k=ls.length:=by omega
     subst hkk;rw[QA,HF.o]at HOW;go_wp2;go_ret;refine⟨_,rfl,?_,zw.o⟩;rw[HF.o];exact HOW.o
def qZ(o:ah):List Value:=[o.val,.pointer none]
theorem UQ{base:Nat}{v:Value}(h:w.ownsRow base Tp 2 v os.length (os.flatMap qZ))(h0:0<os.length)(ho:∀ o∈os,IntsIn F w o/\o.xs.length<=1000)(A:Nat->Nat) :
  ∃ gb cap,v=.slice (some (aD gb 0)) os.length cap/\base<=gb/\gb<w.heap.size/\os.length<=cap/\cap<=9223372036854775807/\bz T Tp F w gb A os (dC (os.map ah.xs)):=by
 rcases h.2 with⟨_,h1⟩ | ⟨g,cap,cur,rfl,hb,hh,hc,hm,hs,ht⟩
 ·omega
 have hln:(dC (os.map ah.xs)).length=os.length:=by unfold dC; simp
 have hget:∀ i,i<os.length->os.getD i fC∈os:=fun i hi=>by rw[XH,ZX hi]; exact Qp hi
 have hng:∀ i,i<os.length->(dC (os.map ah.xs)).getD i oh=((os.getD i fC).xs,none):=fun i hi=>by
  unfold dC;rw[XH,Ze,Ze,ZX hi,XH,ZX hi];rfl
 have hcell:∀ i j u,i<os.length->j<2->(qZ (os.getD i fC))[j]? = some u->cur[i*2+j]? = some u:=fun i j u hi hj hu=>by
  have h2:=Xc qZ 2 (fun _=>rfl) fC os i j hi hj;rw[hu,<- ht,ZY]at h2;split at h2
  ·simpa using h2
  ·cases h2
 have hnone:∀ p∈dC (os.map ah.xs),p.2=none:=fun p hp=>by
  unfold dC at hp;obtain⟨o,_,rfl⟩:=Zi.1 hp;rfl
 refine⟨g,cap,rfl,hb,(QV.1 hh).1,hc,(by unfold maxLen at hm; omega),⟨cur,hh,fun i hi=>?_⟩,fun i hi=>?_,fun p hp x hx=>?_,fun p hp p' hp' x x' hx=>?_⟩
 ·rw[hln]at hi;rw[hng i hi];exact⟨hcell i 0 _ hi (by omega) rfl,hcell i 1 _ hi (by omega) rfl⟩
 ·rw[hln]at hi;rw[hng i hi];exact⟨rfl,(ho _ (hget i hi)).1,(ho _ (hget i hi)).2⟩
 ·rw[hnone p hp]at hx
  cases hx
 ·rw[hnone p hp]at hx
  cases hx
theorem Tryz.UR:(Tryz.prog.info? 297).map (fun i=>(i.zero,i.size,i.bytes))=some (some (.agg #[.slice none 0 0,.pointer none]),2,32):=by kernel_rfl
theorem O5(W:World)(base:Nat)(v:Value)(os:List ah)(hown:W.ownsRow base 297 2 v os.length (os.flatMap qZ))(hl:os.length<=1000)(hb:base<=W.heap.size)(o:ah)(ty:TypeId) :
  ∃ v' w',(Builtin.append_ #[230,230] ty #[v,.slice (some (aD W.heap.size 0)) 1 1]).run Tryz.prog (W.alloc (.cells #[o.val,.pointer none] 297))=.ok v' w'/\
   w'.ownsRow base 297 2 v' (os++[o]).length ((os++[o]).flatMap qZ)/\Kept (fun b=>v.ownBlock≠some b) W w'/\(∃ a m c,v' = .slice a m c):=by
 obtain⟨i0,hi,hz0,hz1,hz2⟩:=ZU Tryz.UR;obtain⟨v',w',hr,ho,hk,hs,hat⟩:=iG (P:=Tryz.prog) W base 230 ty 297 i0 _ 2 32 Tryz.underlying230 hi hz0 hz1 hz2 rfl (by decide) v os.length _ hown hb (qZ o) rfl (fun u hu=>by
  unfold qZ ah.val at hu;simp at hu;rcases hu with rfl | rfl <;> rfl) hl (by decide)
 exact⟨v',w',hr,by rw[Zb,Za]; simpa using ho,hk,hs⟩
theorem Ew(os:List ah)(io:Option Addr)(ic:Nat)(uV:bC w io os.length (fun i=>(os.getD i fC).val))(ho:∀ o∈os,IntsIn F w o/\o.xs.length<=1000)(h0:0<os.length)(hl:os.length<=1000)(A:Nat->Nat) :
  Calls Tryz.prog 161 #[.slice io os.length ic] w fun e w'=>∃ gb cap,e=.returned (.slice (some (aD gb 0)) os.length cap)/\w.heap.size<=gb/\gb<w'.heap.size/\os.length<=cap/\cap<=9223372036854775807/\bz 178 297 F w' gb A os (dC (os.map ah.xs))/\Bw w w':=by
 have Om:Hid _:=uV;have kX:Hid (∀ x v,Bw w x->x.ownsRow w.heap.size 297 2 v os.length (os.flatMap qZ)->∃ gb cap,v=.slice (some (aD gb 0)) os.length cap/\w.heap.size<=gb/\gb<x.heap.size/\os.length<=cap/\cap<=9223372036854775807/\bz 178 297 F x gb A os (dC (os.map ah.xs))):=fun x v hb hv=>UQ hv h0 (fun o hm=>⟨(ho o hm).1.below hb,(ho o hm).2⟩) A
 have HTK:Hid (∀ k,k<os.length->os.take (k+1)=os.take k++[os.getD k fC]):=fun k hk=>XL os fC hk
 have MX:Hid (os.take os.length=os):=QA;generalize dC (os.map ah.xs)=R at *;clear uV ho;go_enter Tryz.func161,Tryz.ntmps161;go_wp2;go_loopw [3,8] (fun pv iv wr=>∃ k:Nat,k<=os.length/\iv=.int .i64 (k:Int)/\Hid (wr.ownsRow w.heap.size 297 2 pv (os.take k).length ((os.take k).flatMap qZ))/\Hid (Bw w wr)) (fun _ iv _=>os.length-(intOf iv).toNat)
 case atStart=>exact⟨0,Q8 _,rfl,ZV _ _ _ _,Qw _ _⟩
 case round=>
  obtain⟨k,hk,rfl,HO,HB⟩:=hrel;obtain⟨xa,xm,xc,rfl⟩:=ZP HO.o;by_cases hlt:k<os.length
  ·obtain⟨bb,Ol,rfl,hbc⟩:=Qi (bC.below HB.o Om.o) hlt;have hck:=hbc k hlt;have HT:=Zh (HTK.o k hlt);obtain⟨v',w5,vE,ug,hk5,⟨za,zm,zc,rfl⟩⟩:=O5 wr w.heap.size (.slice xa xm xc) (os.take k) HO.o (by rw[Zm]; omega) HB.o.size (os.getD k fC) 230;rw[<- HT.o]at ug;have BM:Hid _:=ug;have kF:=Zh (HB.o.trans (hk5.below HB.o.size (fun b hb e=>by have:=(ZO HO.o e).1; omega)));generalize os.getD k fC=o at *;obtain⟨oa,oc,ox⟩:=o;simp only[ah.val]at *;clear hbc ug hk5 HT HO;go_wp2_with (first | (at_builtin; refine Z8 rfl (.tmp 12) (.tmp 15) 230 rfl (.slice xa xm xc) (.slice (some (aD wr.heap.size 0)) 1 1) (.slice za zm zc) w5 rfl rfl vE ?_));clear vE hck;go_wp2;go_roundw
   case rel=>exact⟨k+1,by omega,by go_num,BM.o,kF.o⟩
   case measure=>simp[intOf]; omega
  ·have hko:os.length=k:=by omega
   have HF:Hid _:=kX.o wr (.slice xa xm xc) HB.o (by
    have:=HO.o;rw[<- hko,MX.o]at this;exact this)
   clear hko;go_wp2;go_ret;obtain⟨gb,cap,e,h1,h2,h3,h4,h5⟩:=HF.o;exact⟨gb,cap,by rw[<- e]; rfl,h1,h2,h3,h4,h5,HB.o⟩
