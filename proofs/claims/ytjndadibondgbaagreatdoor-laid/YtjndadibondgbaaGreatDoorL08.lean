import Derived.Test.YtjndadibondgbaaGreatDoorL07
set_option linter.all false
set_option maxRecDepth 100000
set_option maxHeartbeats 16000000
namespace Go.Proofs.Zz
open Go.RowKit Go.Shelf
variable {e:TypeId} {A A1 B W W0 w:World} {v v':Value} {ts:List af}
theorem aaA(mb:Nat)(lo:Option Addr)(lc:Nat)(l:List Int)(co:Option Addr)(cc:Nat)(ts:List af)(W:World)(hm:aH mb lo lc l W)(hl:∀ x∈l,-9223372036854775808<=x/\x<=9223372036854775807)(hlo:∀ a,lo=some a->a.block<W.heap.size)
  (hts:bu W co ts) (hcb:∀ a,co=some a->a.block≠mb) (tH:fo ts=true) :
  Calls Tryz.prog 13 #[.pointer (some (aD mb 0)),.agg (caseA (.slice co ts.length cc) qz (.slice none 0 0))] W fun e W'=>∃ q:ae,e=.returned (.agg q.cells)/\CY ts q/\eH W.heap.size q W'/\aH mb lo lc l W'/\Kept (fun b=>b≠mb) W W':=by
 obtain⟨i0,hi,dO,dP,dQ⟩:=Zy Tryz.kT;obtain⟨ic,ky,kz,kC,kD⟩:=Zy Tryz.Es;obtain⟨il,kE,kF,kH,kI⟩:=Zy Tryz.Et;have lh:=hm.lt;have bX:=((hm.alloc (.cells (caseA (.slice co ts.length cc) qz (.slice none 0 0)) 29)).alloc (.cells qz.cells 26)).alloc (.cells qz.cells 26);have bZ:∀ s,Kept s W (((W.alloc (.cells (caseA (.slice co ts.length cc) qz (.slice none 0 0)) 29)).alloc (.cells qz.cells 26)).alloc (.cells qz.cells 26)):=fun s=>((QX _ _).trans (QX _ _)).trans (QX _ _)
 have Mg:GB (((W.alloc (.cells (caseA (.slice co ts.length cc) qz (.slice none 0 0)) 29)).alloc (.cells qz.cells 26)).alloc (.cells qz.cells 26)) W.heap.size 29 (caseA (.slice co ts.length cc) qz (.slice none 0 0)):=
  ((ZG _ _ _).keep (QX (s:=fun _=>True) _ _) trivial).keep (QX (s:=fun _=>True) _ _) trivial
 have xE:GB (((W.alloc (.cells (caseA (.slice co ts.length cc) qz (.slice none 0 0)) 29)).alloc (.cells qz.cells 26)).alloc (.cells qz.cells 26)) (W.heap.size+1) 26 qz.cells:=by
  have:=ZG (W.alloc (.cells (caseA (.slice co ts.length cc) qz (.slice none 0 0)) 29)) qz.cells 26;rw[QY]at this;exact this.keep (QX (s:=fun _=>True) _ _) trivial
 have cu:GB (((W.alloc (.cells (caseA (.slice co ts.length cc) qz (.slice none 0 0)) 29)).alloc (.cells qz.cells 26)).alloc (.cells qz.cells 26)) (W.heap.size+2) 26 qz.cells:=by
  have:=ZG ((W.alloc (.cells (caseA (.slice co ts.length cc) qz (.slice none 0 0)) 29)).alloc (.cells qz.cells 26)) qz.cells 26
  rwa [QY,QY]at this
 have aS:(((W.alloc (.cells (caseA (.slice co ts.length cc) qz (.slice none 0 0)) 29)).alloc (.cells qz.cells 26)).alloc (.cells qz.cells 26)).heap.size=W.heap.size+3:=by simp
 obtain⟨W1,aA⟩:∃ W1,(((W.alloc (.cells (caseA (.slice co ts.length cc) qz (.slice none 0 0)) 29)).alloc (.cells qz.cells 26)).alloc (.cells qz.cells 26))=W1:=⟨_,rfl⟩
 rw[aA]at bX bZ Mg xE cu aS;have eP:=ZJ mb lo lc l 4 W1 bX (by omega) hl;have HL:=Zh hl;have rA:=Zh hlo;have Mm:=Zh aS;have eQ:=Zh aA;have pI:=Zh bZ;have iY:Hid _:=Mg;have ja:Hid _:=xE;have jb:Hid _:=cu;have jc:Hid _:=hts;have pJ:=Zh hcb;have eT:=Zh tH;have ll:=hts.1;have lq:=ad1 tH;clear hl hlo hm aS aA bZ Mg xE cu bX hts hcb tH;unfold caseA qz jI aa.val;simp only;go_enter Tryz.func13,Tryz.ntmps13;go_wp2_with fail;have aA:=eQ.o;unfold caseA qz jI aa.val ae.cells at aA;simp only at aA;rw[show (((W.alloc (.cells #[.slice co ts.length cc,.slice none 0 0,.slice none 0 0,.bool false,.slice none 0 0,.slice none 0 0,.slice none 0 0,.slice none 0 0,.slice none 0 0] 29)).alloc (.cells #[.slice none 0 0,.slice none 0 0,.bool false,.slice none 0 0,.slice none 0 0,.slice none 0 0,.slice none 0 0] 26)).alloc (.cells #[.slice none 0 0,.slice none 0 0,.bool false,.slice none 0 0,.slice none 0 0,.slice none 0 0,.slice none 0 0] 26))=W1 from eQ.o];clear aA;refine eP.mono ?_;rintro e W2 ⟨r1,rfl,lJ,kZ,iA,aP⟩;clear eP;obtain⟨k1,rfl⟩:∃ k:Nat,r1=(k:Int):=⟨r1.toNat,by omega⟩
 have je:=aP.size;have aS:=Mm.o;have w:W.heap.size+2≠mb:=by omega
 have eU:=ZH ja.o aP (show W.heap.size+1≠mb by omega);have cz:=ZH iY.o aP (show W.heap.size≠mb by omega);have eY:=ZH jb.o aP w;have MO:=(pI.o _).trans aP;have eZ:fD mb (W.heap.size+2) lo lc l 3 26 W2 (fun v=>#[v,.slice none 0 0,.bool false,.slice none 0 0,.slice none 0 0,.slice none 0 0,.slice none 0 0]) W2 (.slice none 0 0) []:=
  ⟨eY,ZA _ _ _ _,iA,QR _ _⟩
 have c0:=cz.at 0;have YJ:=Zh eZ;have fe:Hid _:=cz;have fq:Hid _:=eU;have RJ:=Zh MO;have aI:Hid (W.heap.size+3<=W2.heap.size):=show _<=_ by omega
 have fu:Hid (W.heap.size+2<W2.heap.size):=show _<_ by omega
 have jf:Hid (W.heap.size<W2.heap.size):=show _<_ by omega
 have PU:Hid (∀ a,lo=some a->a.block<W2.heap.size/\a.block≠W.heap.size+2):=fun a D=>by have:=rA.o a D; omega
 clear eZ cz eU MO eY aP iA aS je;go_wp2;go_loopw [6] (fun i wr=>∃ (k:Nat) (xs:List Int) (v:Value),i=.int .i64 k/\xs.length+k<=4/\1<=xs.length+k/\Hid (aM xs ts.length=true)/\fD mb (W.heap.size+2) lo lc l 3 26 W2 (fun v=>#[v,.slice none 0 0,.bool false,.slice none 0 0,.slice none 0 0,.slice none 0 0,.slice none 0 0]) wr v xs) (fun i _=>(intOf i).toNat)
 case atStart=>exact⟨1+k1,[],_,congrArg (Value.int .i64) (by omega),by simp; omega,by simp,rfl,YJ.o⟩
 case round=>
  obtain⟨k,xs,v,rfl,lK,lL,bn,d⟩:=hrel;by_cases h0:0<k
  ·
   --Mh l1 begin
   have jh:((k:Int) > 0):=by omega
   obtain⟨va,vn,vc,rfl⟩:=Zr d.own;have ah:=d.gb.at 0;have fw:=Zj c0 d.kept (show W.heap.size≠mb/\W.heap.size≠W.heap.size+2 by omega);have R:fD mb (W.heap.size+2) lo lc l 3 26 W2 (fun v=>#[v,.slice none 0 0,.bool false,.slice none 0 0,.slice none 0 0,.slice none 0 0,.slice none 0 0]) wr.drew (.slice va vn vc) xs:=d.keep (ZE wr 1) (d.Mx.keep (ZE wr 1)) w (by have:=aI.o; omega);have fA:=ZJ mb lo lc l (ts.length:Int) wr.drew R.Mx (by omega) HL.o;have Od:=Zh R;clear d R;go_wp2;go_region_law
    ((first
     | (refine step_append_lies _ (by rfl) _ _ _ (by rfl) W2.heap.size 3 i0 (.int .i64 0) 1 8 Tryz.underlying22 hi dO dP dQ rfl (by omega) (.slice va vn vc) xs.length (xs.map (Value.int .i64)) (by rfl) (y.own.alloc _) (aD L.heap.size 0) 1 1 [.int .i64 p] (by rfl) (by rfl) (X7 (cs:=#[.int .i64 p]) (t:=3) (fr:=(0,0)) (lZ L _)) (by simp[Value.oneCell']) (by omega) (by unfold maxLen; omega) (by omega) (by have:=y.kept.size; simp; omega) (L.heap.size+1) (by simp) ?_; intro gg iQ w5 E fC Fu iW; have Aj:=y.more (f:=0) (p:=p) (QX L _) E fC rfl w (by have:=aI.o; omega) (by have:=aI.o; omega) PU.o; have Cx:=y.far (QX L _) fC; have aT:w5.cell? (aD (W.heap.size+1+1) 0)=some (.slice va vn vc):=Zj S Cx fu.o; have aU:w5.frozen? (aD (W.heap.size+1+1) 0)=false:=(y.gb.keep Cx fu.o).frozen 0; have jk:=Zj fB Cx jf.o)
     | (go_simp; go_at_call 11; refine fA.mono ?_; rintro e L ⟨p,rfl,bq,bz,sM,Q⟩; have y:=fD.keep Od.o Q sM w (by have:=aI.o; omega); have S:=ZI (gU ah (ZE wr 1)) Q w; have fB:=ZI (gU fw (ZE wr 1)) Q (show W.heap.size≠mb by omega); have fE:=gU S (QX L (.cells #[.int .i64 p] 3)))))
   all_goals
    have RI:=Zh Aj;have aj:Hid (0<=p/\p<(ts.length:Int)):=⟨bq,bz⟩
    clear Aj aT aU jk Cx y S fB E fC Fu Q sM fA ah fw;go_wp2;go_roundw
    case rel=>exact⟨k-1,xs++[p],_,congrArg (Value.int .i64) (show _=((k-1:Nat):Int) by omega),by rw[ZC,ZX]; omega,by rw[ZC,ZX]; omega,yM bn.o aj.o.1 aj.o.2,RI.o⟩
    case measure=>simp[intOf]; omega
   --Mh l1 end
  ·have aB:k=0:=by omega
   subst aB;obtain⟨iv,FP,vO,mq,Ak⟩:=ZV d.own (by omega);obtain⟨A,B,m⟩:=iv;simp only at vO;subst vO;unfold aa.val at FP;simp only at FP;subst FP;have GZ:Kept (fun b=>b≠mb/\b<W.heap.size) W wr:=(RJ.o.mono fun b _ h=>h.1).trans (d.kept.mono fun b _ h=>⟨h.1,by have:=h.2; omega⟩);have uV:=ZH fe.o d.kept (show W.heap.size≠mb/\W.heap.size≠W.heap.size+2 by omega);have PW:=ZH fq.o d.kept (show W.heap.size+1≠mb/\W.heap.size+1≠W.heap.size+2 by omega);have T:=d.gb;obtain⟨q0,q1,q2,q3,q4,q5,q6⟩:=T.k7;have b1:=uV.at 1;have b2:=uV.at 2;have b3:=uV.at 3;have b4:=uV.at 4;have b5:=uV.at 5;have b6:=uV.at 6;have b7:=uV.at 7;have b0:=uV.at 0;have b8:=uV.at 8;have z1:=uV.frozen 1;have z2:=uV.frozen 2;have z3:=uV.frozen 3;have z4:=uV.frozen 4;have z5:=uV.frozen 5;have z6:=uV.frozen 6;have z7:=uV.frozen 7;have aJ:Hid _:=T;have aL:Hid _:=PW;have tY:=Zh d;have aN:=Zh GZ;have jl:=Zh mq;have jm:=Zh Ak;clear T uV PW d GZ mq Ak;go_wp2_with fail;have au:Kept (fun b=>b≠W.heap.size) wr (((((((wr.setCell (aD W.heap.size 1) (.slice A m.length B)).setCell (aD W.heap.size 2) (.slice none 0 0)).setCell (aD W.heap.size 3) (.bool false)).setCell (aD W.heap.size 4) (.slice none 0 0)).setCell (aD W.heap.size 5) (.slice none 0 0)).setCell (aD W.heap.size 6) (.slice none 0 0)).setCell (aD W.heap.size 7) (.slice none 0 0)):=
    ((((((Zn _ _ _ (fun h=>h rfl)).trans (Zn _ _ _ (fun h=>h rfl))).trans (Zn _ _ _ (fun h=>h rfl))).trans (Zn _ _ _ (fun h=>h rfl))).trans (Zn _ _ _ (fun h=>h rfl))).trans (Zn _ _ _ (fun h=>h rfl))).trans (Zn _ _ _ (fun h=>h rfl))
   obtain⟨L,dR⟩:∃ L,(((((((wr.setCell (aD W.heap.size 1) (.slice A m.length B)).setCell (aD W.heap.size 2) (.slice none 0 0)).setCell (aD W.heap.size 3) (.bool false)).setCell (aD W.heap.size 4) (.slice none 0 0)).setCell (aD W.heap.size 5) (.slice none 0 0)).setCell (aD W.heap.size 6) (.slice none 0 0)).setCell (aD W.heap.size 7) (.slice none 0 0))=L:=⟨_,rfl⟩
   rw[dR]at au;rw[dR];clear dR q0 q1 q2 q3 q4 q5 q6 b0 b1 b2 b3 b4 b5 b6 b7 b8 z1 z2 z3 z4 z5 z6 z7 c0;have qw:=((aN.o).trans (au.mono fun b _ h=>by have:=h.2; omega)).mono fun b I h=>⟨h,I⟩
   have sM:=tY.o.Mx.Dk au (by omega) (fun a D=>by have:=rA.o a D; omega);have fF:GB L (W.heap.size+2) 26 (⟨⟨A,B,m⟩,none,0,[],false,jI,jI,jI,jI⟩:ae).cells:=ZH aJ.o au (by omega);have fG:=ZH aL.o au (show W.heap.size+1≠W.heap.size by omega);have fH:=bu.keep jc.o (fun a D kW=>qw.block _ kW (pJ.o a D));obtain⟨iB,dS,dU,dV⟩:=jd (n:=W.heap.size+3) tY.o.own (by omega) aI.o;have fI:iB=⟨A,B,m⟩:=by
    obtain⟨a2,c2,x2⟩:=iB;simp only at dU;subst dU;unfold aa.val at dS;injection dS with h1 h2 h3;rw[h1,h3]
   rw[fI]at dV;have cK:eH (W.heap.size+3) ⟨⟨A,B,m⟩,none,0,[],false,jI,jI,jI,jI⟩ L:=
    ⟨dV.keep au (fun b I=>by omega),⟨⟨by simp,fun i hi=>absurd hi (by simp),fun i hi=>absurd hi (by simp)⟩,(fun a D=>by cases D),fun i hi=>absurd hi (by simp)⟩,jg.nil _ _,jg.nil _ _,jg.nil _ _,jg.nil _ _,fun _=>rfl⟩
   clear fI dS dU dV;have iV:=yN co cc ts ⟨⟨A,B,m⟩,none,0,[],false,jI,jI,jI,jI⟩ (.slice none 0 0) ⟨_,_,_,rfl⟩ L fH eT.o cK.src.1.1 (by show m.length<=5; omega) bn.o;refine Jj iV ?_;rintro e W4 ⟨rfl,dW⟩;have ru:∀ s,Kept s L W4:=fun s=>QU dW (fun b I _=>I)
   have fJ:=qw.trans (ru _);have fK:=sM.keep (ru _);have fM:=fF.keep (ru (fun _=>True)) trivial;have VQ:=fG.keep (ru (fun _=>True)) trivial;have fO:=cK.keep (ru (fun _=>True)) (fun _ _=>trivial);have Yc:W.heap.size+3<=W4.heap.size:=by have:=dW.size; have:=au.size; have:=tY.o.kept.size; have:=aI.o; omega
   have jo:=Fs eT.o bn.o (by omega) (by omega);have fP:Hid (aM m ts.length=true/\1<=m.length/\m.length<=4):=⟨bn.o,by omega,by omega⟩
   obtain⟨nn,dX⟩:∃ nn:Nat,ai ts m=(nn:Int):=⟨(ai ts m).toNat,by omega⟩
   have qF:=Zh dX;have lu:1<=nn/\nn<=20:=by omega
   simp only at iV ⊢;rw[dX];clear iV dW ru qw sM fF fG fH cK au jo aJ aL tY aN jl jm bn YJ fe fq RJ dX;have oN:=ZJ mb lo lc l 5 W4 fK (by omega) HL.o;have fQ:=Zh Yc;have fT:=Zh fJ;have fU:Hid _:=fM;have fV:Hid _:=VQ;have fZ:=Zh fO;clear Yc fJ fM VQ fO fK;go_wp2_with fail;refine oN.mono ?_;rintro e W5 ⟨r2,rfl,lM,lg,Aj,aQ⟩;clear oN;obtain⟨k2,rfl⟩:∃ k:Nat,r2=(k:Int):=⟨r2.toNat,by omega⟩
   have mP:Hid _:=ZH fV.o aQ (show W.heap.size+1≠mb by omega);have gm:=Zh (Jy fZ.o aQ (fun b I=>by omega));have gq:=Zh (Kept.trans fT.o aQ);have OV:Hid (W.heap.size+3<=W5.heap.size):=show _<=_ by have:=fQ.o; have:=aQ.size; omega
   have gu:Hid (kG mb (W.heap.size+2) lo lc l 81 26 W5 (fun v=>#[.slice A m.length B,v,.bool false,.slice none 0 0,.slice none 0 0,.slice none 0 0,.slice none 0 0]) W5 (.slice none 0 0) []):=
    ⟨ZH fU.o aQ w,ZA _ _ _ _,fun x hx=>by simp at hx,Aj,QR _ _⟩
   have bG:Hid (∀ a,lo=some a->a.block<W5.heap.size/\a.block≠W.heap.size+2):=fun a D=>by have:=rA.o a D; have:=OV.o; omega
   clear Aj aQ fU fV fZ fT fQ;go_wp2;go_loopw [8] (fun i wr=>∃ (k:Nat) (C:List az) (v:Value),i=.int .i64 k/\C.length+k<=4/\Hid (∀ x∈C,Ad nn x)/\kG mb (W.heap.size+2) lo lc l 81 26 W5 (fun v=>#[.slice A m.length B,v,.bool false,.slice none 0 0,.slice none 0 0,.slice none 0 0,.slice none 0 0]) wr v C) (fun i _=>(intOf i).toNat)
   case atStart=>exact⟨k2,[],_,rfl,by simp; omega,(fun x hx=>by simp at hx),gu.o⟩
   case round=>
    obtain⟨wo,rfl⟩:∃ wo,wo=wr:=⟨wr,rfl⟩
    obtain⟨k,C,v,rfl,lN,bA,Lp⟩:=hrel;by_cases h0:0<k
    ·
     --Mh l2 begin
     have jh:((k:Int) > 0):=by omega
     have gy:=MR mb lo lc l (nn:Int) wo Lp.Mx HL.o (fun a D=>by have:=(bG.o a D).1; have:=Lp.kept.size; omega) (by omega);have vT:=Zh Lp;clear Lp;go_wp2_with fail;refine gy.mono ?_;rintro e W6 ⟨c1,rfl,iC,Df,jY⟩;clear gy;have sN:=ZJ mb lo lc l 6 _ (Df.alloc (.cells c1.arr 77)) (by omega) HL.o;have gz:Hid _:=PT W6 c1 77;have jq:=Zh iC;have aC:=Zh jY;have cO:Kept (fun b=>b≠mb) W6 (W6.alloc (.cells c1.arr 77)):=QX _ _;have gB:=Df.lt;have cZ:=Zh gB;obtain⟨W7,bR⟩:=eX (W6.alloc (.cells c1.arr 77))
     rw[bR]at sN gz cO;have jr:=Zh cO;obtain⟨kJ,kK,kL,kM,kN⟩:=c1;unfold ak.arr at bR ⊢;simp only at bR ⊢;clear iC Df jY cO gB;go_wp2_with fail;refine sN.mono ?_;rintro e W8 ⟨r3,rfl,lQ,lS,VN,mQ⟩;clear sN bR;obtain⟨jn,rfl⟩:∃ k:Nat,r3=(k:Int):=⟨r3.toNat,by omega⟩
     have gD:=Zp gz.o mQ (fun g hg=>by cases hg; have:=cZ.o; show W6.heap.size≠mb; omega);have aG:=Zh (jr.o.trans mQ);go_wp2;go_loopw [9,10] (fun v2 jv ws=>∃ (j:Nat) (cs:List ak),jv=.int .i64 j/\j<=5/\1<=cs.length/\cs.length+(j-3)<=3/\Hid (∀ c∈cs,df c nn=true)/\ws.ownsRow W6.heap.size 77 5 v2 cs.length (cs.flatMap ak.vals)/\aH mb lo lc l ws/\Kept (fun b=>b≠mb) W6 ws) (fun _ jv _=>(intOf jv).toNat)
     case atStart=>exact⟨jn,[⟨kJ,kK,kL,kM,kN⟩],rfl,by omega,by simp,by simp; omega,(fun c hc=>by rw[Zw]at hc; rw[hc]; exact jq.o),gD,VN,aG.o⟩
     case round=>
      obtain⟨j,cs,rfl,lT,xU,lU,iD,PX,bS,bT⟩:=hrel;clear gD VN mQ;by_cases MM:3<j
      ·have gG:((j:Int) > 3):=by omega
       have gH:=MR mb lo lc l (nn:Int) wr bS HL.o (fun a D=>by have:=(bG.o a D).1; have:=vT.o.kept.size; have:=aC.o.size; have:=bT.size; omega) (by omega);obtain⟨bU,bV,bW,rfl⟩:=Zr PX;have dh:Hid _:=PX;clear PX bS;go_wp2_with fail;refine gH.mono ?_;rintro e Wa ⟨c2,rfl,iE,iF,aR⟩;clear gH;have dm:=Zp dh.o aR (fun g hg=>by have:=(Zq dh.o hg).1; have:=cZ.o; omega);have dn:=bT.trans aR;have lv:=dn.size;have jw:=Zh iE;have jy:=Zh iF;obtain⟨ca,ax,ay,cd,ce⟩:=c2;unfold ak.arr;simp only;clear iE iF aR dh;go_wp2_with (first | (at_builtin; refine wpList_append_own _ rfl _ _ 79 rfl W6.heap.size 77 ic (.agg #[.bool false,.int .i64 0,.int .i64 0,.bool false,.int .i64 0]) 5 40 Tryz.underlying79 ky kz kC kD rfl (by decide) _ _ _ rfl (dm.alloc _) (aD Wa.heap.size 0) 1 1 (⟨ca,ax,ay,cd,ce⟩:ak).vals rfl rfl ?q1 ?q2 ?q3 ?q4 ?q5 ?_))
       case q1=>exact X7 (cs:=(⟨ca,ax,ay,cd,ce⟩:ak).arr) (t:=77) (fr:=(0,0)) (lZ Wa _)
       case q2=>intro u hu; simp[ak.vals]at hu; rcases hu with rfl | rfl | rfl | rfl | rfl <;> rfl
       case q3=>unfold maxLen; omega
       case q4=>omega
       case q5=>simp; omega
       intro v' w1 bF ag _;have Rc:∀ g,(Value.slice bU bV bW).ownBlock=some g->W6.heap.size<=g:=fun g hg=>(Zq dm hg).1
       have jA:=Zh ((aH.alloc jy.o (.cells (⟨ca,ax,ay,cd,ce⟩:ak).arr 77)).grown ag (fun e=>by have:=Rc _ e; have:=cZ.o; omega) (fun a D e=>by have:=Rc _ e; have:=(bG.o a D).1; have:=vT.o.kept.size; have:=aC.o.size; omega));have gI:Kept (fun b=>b≠mb) W6 w1:=by
        have h1:Kept (fun b=>b≠mb) W6 (Wa.alloc (.cells (⟨ca,ax,ay,cd,ce⟩:ak).arr 77)):=dn.trans (QX _ _);exact((h1.mono (t:=fun b=>b≠mb/\b<W6.heap.size) (fun b _ h=>h.1)).trans (Zo ag (fun r e h=>by have:=Rc r e; have:=h.2; omega))).mono (fun b I h=>⟨h,I⟩)
       have jB:=Zh gI;have jC:Hid _:=bF;clear bF ag dm gI dn;go_wp2;go_roundw
       case rel=>exact⟨j-1,cs++[⟨ca,ax,ay,cd,ce⟩],congrArg (Value.int .i64) (show _=((j-1:Nat):Int) by omega),by omega,by rw[ZC,ZX]; omega,by rw[ZC,ZX]; omega,(fun c hc=>by
        rcases Zx.1 hc with hc | hc
        ·exact iD.o c hc
        ·rw[Zw]at hc; rw[hc]; exact jw.o),by rw[show (cs++[(⟨ca,ax,ay,cd,ce⟩:ak)]).length=cs.length+1 from by simp,show (cs++[(⟨ca,ax,ay,cd,ce⟩:ak)]).flatMap ak.vals=cs.flatMap ak.vals++(⟨ca,ax,ay,cd,ce⟩:ak).vals from by simp]; exact jC.o,jA.o,jB.o⟩
       case measure=>simp[intOf]; omega
      ·have lC:¬ ((j:Int) > 3):=by omega
       obtain⟨iZ,di,rfl,iG,iH⟩:=zH PX (by omega);have gK:=aC.o.trans bT;have aO:=kG.keep vT.o gK bS w (by have:=OV.o; omega);obtain⟨bU,bV,bW,rfl⟩:=Zr aO.own;have gL:=aO.gb.at 1;have gM:=aO.own;have lD:=aO.kept.size;have dw:=Zh aO;have FD:Hid _:=iG;have jD:Hid (∀ a,iZ=some a->W5.heap.size<=a.block/\a.block<wr.heap.size/\(Value.slice bU bV bW).ownBlock≠some a.block):=fun a D=>by
        have h1:=iH a D;have h2:=vT.o.kept.size;have h3:=aC.o.size;refine⟨by omega,h1.2.1,fun e=>?_⟩;have h4:=e;have h5:=(Zq vT.o.own h4).2;omega
       clear PX bS bT iG iH gK aO;go_wp2_with (first | (at_builtin; refine wpList_append_own_at _ rfl _ _ 24 rfl W5.heap.size 81 il (.agg #[.slice none 0 0]) 1 24 Tryz.underlying24 kE kF kH kI rfl (by decide) _ _ _ rfl (gM.alloc _) (aD wr.heap.size 0) 1 1 [.slice iZ cs.length di] rfl rfl (X7 (cs:=#[.slice iZ cs.length di]) (t:=81) (fr:=(0,0)) (lZ wr _)) (fun u hu=>by rw[Zw]at hu; rw[hu]; rfl) (by unfold maxLen; omega) (by omega) (by rw[QY]; omega) ?_));intro v' w9 eO UK _ iX;obtain⟨lV,lW,lX,rfl⟩:=Zr eO;have jE:=Zh (kG.more dw.o (f:=1) (x:=⟨iZ,di,cs⟩) FD.o jD.o (QX wr _) (by simp) eO UK (by rw[QY]; exact iX) rfl w (by have:=OV.o; omega) (by have:=OV.o; omega) bG.o);have dz:=kG.far dw.o (QX wr _) UK;have lF:w9.cell? (aD (W.heap.size+1+1) 1)=some (.slice bU bV bW):=Zj gL dz (show W.heap.size+1+1<W5.heap.size by have:=OV.o; omega);have lG:w9.frozen? (aD (W.heap.size+1+1) 1)=false:=(ZH dw.o.gb dz (show W.heap.size+2<W5.heap.size by have:=OV.o; omega)).frozen 1;clear eO UK iX gM dz gL;go_wp2;go_roundw
       case rel=>exact⟨k-1,C++[⟨iZ,di,cs⟩],_,congrArg (Value.int .i64) (show _=((k-1:Nat):Int) by omega),by rw[ZC,ZX]; omega,(fun x hx=>by
        rcases Zx.1 hx with hx | hx
        ·exact bA.o x hx
        ·rw[Zw]at hx; rw[hx]; exact⟨xU,by show cs.length<=3; omega,iD.o⟩),jE.o⟩
       case measure=>simp[intOf]; omega
     --Mh l2 end
    ·have aB:k=0:=by omega
     subst aB;obtain⟨F,G,rfl,iI,iJ⟩:=Lp.avH (n:=W.heap.size+3) (by omega) OV.o;have gN:=((gq.o.mono (t:=fun b=>b≠mb/\b<W.heap.size) (fun b _ h=>h.1)).trans (Lp.kept.mono fun b _ h=>⟨h.1,by have:=h.2; omega⟩)).mono (fun b I h=>⟨h,I⟩);have gP:eH (W.heap.size+3) ⟨⟨A,B,m⟩,F,G,C,false,jI,jI,jI,jI⟩ wo:=by
      have h5:=Jy gm.o Lp.kept (fun b I=>by omega);exact⟨h5.src,iI,h5.keys,h5.sums,h5.aK,h5.ord,iJ⟩
     have Dh:=ZH mP.o Lp.kept (show W.heap.size+1≠mb/\W.heap.size+1≠W.heap.size+2 by omega);have gQ:=Lp.gb;have gT:=ZJ mb lo lc l 3 wo Lp.Mx (by omega) HL.o;have gV:Hid (W.heap.size+3<=wo.heap.size):=show _<=_ by have:=OV.o; have:=Lp.kept.size; omega
     have bH:Hid (C.length<=4/\∀ x∈C,Ad nn x):=⟨by omega,bA.o⟩
     have gW:=Zh gP;have gX:Hid _:=Dh;have gY:Hid _:=gQ;have aC:=Zh gN;clear iI iJ gN gP Dh gQ Lp bA gu gm mP gq;go_wp2_with fail;refine gT.mono ?_;rintro e W7 ⟨r5,rfl,pW,lY,MQ,iU⟩;clear gT;obtain⟨gp,l5⟩:∃ g,(r5==1)=g:=⟨_,rfl⟩
     have bI:=ZH gY.o iU w;have Dg:=ZH gX.o iU (show W.heap.size+1≠mb by omega);have gZ:=Jy gW.o iU (fun b I=>by omega);have ib:=Kept.trans aC.o iU;have lH:=bI.at 2;have lI:W7.frozen? (aD (W.heap.size+1+1) 2)=false:=bI.frozen 2;have dA:Kept (fun b=>b≠W.heap.size+2) W7 (W7.setCell (aD (W.heap.size+1+1) 2) (.bool gp)):=Zn _ _ _ (fun h=>h rfl);have bJ:GB (W7.setCell (aD (W.heap.size+1+1) 2) (.bool gp)) (W.heap.size+2) 26 (⟨⟨A,B,m⟩,F,G,C,gp,jI,jI,jI,jI⟩:ae).cells:=bI.set 2 _;have Ka:=Dg.keep dA (by omega);have dB:eH (W.heap.size+3) ⟨⟨A,B,m⟩,F,G,C,gp,jI,jI,jI,jI⟩ (W7.setCell (aD (W.heap.size+1+1) 2) (.bool gp)):=by
      have J:=gZ.keep dA (fun b I=>by omega);exact⟨J.src,J.wh,J.keys,J.sums,J.aK,J.ord,J.nil⟩
     have dC:Kept (fun b=>b≠mb) W (W7.setCell (aD (W.heap.size+1+1) 2) (.bool gp)):=ib.bY (by omega) _;have VN:aH mb lo lc l (W7.setCell (aD (W.heap.size+1+1) 2) (.bool gp)):=MQ.set _ (by omega) (fun a D=>by have:=rA.o a D; omega);obtain⟨W8,iK⟩:=eX (W7.setCell (aD (W.heap.size+1+1) 2) (.bool gp))
     have dD:Hid (W.heap.size+3<=W8.heap.size):=show _<=_ by rw[<- iK]; have:=gV.o; have:=iU.size; simp[World.setCell]; omega
     rw[iK]at bJ Ka dB dC VN;have ig:=bJ.at 2;have bK:Hid _:=bJ;have bL:Hid _:=Ka;have bM:=Zh dB;have aG:=Zh dC;have bN:=Zh VN;clear bI Dg gZ ib dA bJ Ka dB dC VN iU MQ gW gX gY aC gV;have bO:Hid (∀ (Wx:World) (q:ae),GB Wx (W.heap.size+1) 26 qz.cells->aH mb lo lc l Wx->Kept (fun b=>b≠mb) W Wx->eH (W.heap.size+3) q Wx->
       GB (((((((Wx.setCell (aD (W.heap.size+1) 0) q.src.val).setCell (aD (W.heap.size+1) 1) (.slice q.bE q.wh.length q.aF)).setCell (aD (W.heap.size+1) 2) (.bool q.group)).setCell (aD (W.heap.size+1) 3) q.keys.val).setCell (aD (W.heap.size+1) 4) q.sums.val).setCell (aD (W.heap.size+1) 5) q.aK.val).setCell (aD (W.heap.size+1) 6) q.ord.val) (W.heap.size+1) 26 q.cells/\aH mb lo lc l (((((((Wx.setCell (aD (W.heap.size+1) 0) q.src.val).setCell (aD (W.heap.size+1) 1) (.slice q.bE q.wh.length q.aF)).setCell (aD (W.heap.size+1) 2) (.bool q.group)).setCell (aD (W.heap.size+1) 3) q.keys.val).setCell (aD (W.heap.size+1) 4) q.sums.val).setCell (aD (W.heap.size+1) 5) q.aK.val).setCell (aD (W.heap.size+1) 6) q.ord.val)/\Kept (fun b=>b≠mb) W (((((((Wx.setCell (aD (W.heap.size+1) 0) q.src.val).setCell (aD (W.heap.size+1) 1) (.slice q.bE q.wh.length q.aF)).setCell (aD (W.heap.size+1) 2) (.bool q.group)).setCell (aD (W.heap.size+1) 3) q.keys.val).setCell (aD (W.heap.size+1) 4) q.sums.val).setCell (aD (W.heap.size+1) 5) q.aK.val).setCell (aD (W.heap.size+1) 6) q.ord.val)/\eH W.heap.size q (((((((Wx.setCell (aD (W.heap.size+1) 0) q.src.val).setCell (aD (W.heap.size+1) 1) (.slice q.bE q.wh.length q.aF)).setCell (aD (W.heap.size+1) 2) (.bool q.group)).setCell (aD (W.heap.size+1) 3) q.keys.val).setCell (aD (W.heap.size+1) 4) q.sums.val).setCell (aD (W.heap.size+1) 5) q.aK.val).setCell (aD (W.heap.size+1) 6) q.ord.val)):=fun Wx q hG hM hK kX=>by
      have h1:W.heap.size+1≠mb:=by omega
      have h2:∀ a,lo=some a->a.block≠W.heap.size+1:=fun a D=>by have:=rA.o a D; omega
      have av:Kept (fun b=>b≠W.heap.size+1) Wx (((((((Wx.setCell (aD (W.heap.size+1) 0) q.src.val).setCell (aD (W.heap.size+1) 1) (.slice q.bE q.wh.length q.aF)).setCell (aD (W.heap.size+1) 2) (.bool q.group)).setCell (aD (W.heap.size+1) 3) q.keys.val).setCell (aD (W.heap.size+1) 4) q.sums.val).setCell (aD (W.heap.size+1) 5) q.aK.val).setCell (aD (W.heap.size+1) 6) q.ord.val):=((((((Zn _ _ _ (fun h=>h rfl)).trans (Zn _ _ _ (fun h=>h rfl))).trans (Zn _ _ _ (fun h=>h rfl))).trans (Zn _ _ _ (fun h=>h rfl))).trans (Zn _ _ _ (fun h=>h rfl))).trans (Zn _ _ _ (fun h=>h rfl))).trans (Zn _ _ _ (fun h=>h rfl));have jF:=kX.keep av (fun b I=>by omega);refine⟨((((((hG.set 0 _).set 1 _).set 2 _).set 3 _).set 4 _).set 5 _).set 6 _,((((((hM.set _ h1 h2).set _ h1 h2).set _ h1 h2).set _ h1 h2).set _ h1 h2).set _ h1 h2).set _ h1 h2,((((((hK.bY (by omega) _).bY (by omega) _).bY (by omega) _).bY (by omega) _).bY (by omega) _).bY (by omega) _).bY (by omega) _,jF.lower (by omega)⟩
     cases gp with
     | true =>
      --Mh bt begin
      have ik:=xI mb lo lc l (nn:Int) 3 W8 bN.o HL.o (fun a D=>by have:=rA.o a D; have:=aG.o.size; omega) (by omega) (by omega);go_wp2_with fail;refine ik.mono ?_;rintro e Wk ⟨kv,l6,rfl,iL,aR,iM,kP,iN,av⟩;clear ik;obtain⟨kQ,dY,iO,iP⟩:=jd (n:=W.heap.size+3) iL (by omega) dD.o;obtain⟨Z,dL,P⟩:=kQ;simp only at iO;subst iO;unfold aa.val at dY;simp only at dY;subst dY;have bP:=ZH bK.o av w;have iq:=ZH bL.o av (show W.heap.size+1≠mb by omega);have iw:=Jy bM.o av (fun b I=>by omega);have iy:=Kept.trans aG.o av;have p3:=bP.at 3;have jG:Wk.frozen? (aD (W.heap.size+1+1) 3)=false:=bP.frozen 3;have bQ:Kept (fun b=>b≠W.heap.size+2) Wk (Wk.setCell (aD (W.heap.size+1+1) 3) (.slice Z P.length dL)):=Zn _ _ _ (fun h=>h rfl);have U:GB (Wk.setCell (aD (W.heap.size+1+1) 3) (.slice Z P.length dL)) (W.heap.size+2) 26 (⟨⟨A,B,m⟩,F,G,C,true,⟨Z,dL,P⟩,jI,jI,jI⟩:ae).cells:=bP.set 3 _;have z:=iq.keep bQ (by omega);have O3:eH (W.heap.size+3) (⟨⟨A,B,m⟩,F,G,C,true,⟨Z,dL,P⟩,jI,jI,jI⟩:ae) (Wk.setCell (aD (W.heap.size+1+1) 3) (.slice Z P.length dL)):=by
       have J:=iw.keep bQ (fun b I=>by omega);exact⟨J.src,J.wh,iP.keep bQ (fun b I=>by omega),J.sums,J.aK,J.ord,J.nil⟩
      have V:Kept (fun b=>b≠mb) W (Wk.setCell (aD (W.heap.size+1+1) 3) (.slice Z P.length dL)):=iy.bY (by omega) _;have X:aH mb lo lc l (Wk.setCell (aD (W.heap.size+1+1) 3) (.slice Z P.length dL)):=iN.set _ (by omega) (fun a D=>by have:=rA.o a D; omega);obtain⟨Ws,dZ⟩:=eX (Wk.setCell (aD (W.heap.size+1+1) 3) (.slice Z P.length dL))
      have jH:Hid (W.heap.size+3<=Ws.heap.size):=show _<=_ by rw[<- dZ]; have:=dD.o; have:=av.size; simp[World.setCell]; omega
      rw[dZ]at U z O3 V X;have aV:=ZJ mb lo lc l 3 Ws X (by omega) HL.o;have dE:Hid (aM P nn=true/\dJ P=true/\P.length<=3):=⟨aR,iM,kP⟩
      clear X bP iq iw iy bQ av iN aR iM iL iP;go_wp2_with fail;refine aV.mono ?_;rintro e W9 ⟨r6,rfl,kR,kS,bB,CJ⟩;clear aV dZ;obtain⟨k6,rfl⟩:∃ k:Nat,r6=(k:Int):=⟨r6.toNat,by omega⟩
      have dF:=Zh (Jy O3 CJ (fun b I=>by omega));have dG:Hid _:=ZH z CJ (show W.heap.size+1≠mb by omega);have dH:=Zh (Kept.trans V CJ);have Mi:Hid (W.heap.size+3<=W9.heap.size):=show _<=_ by have:=jH.o; have:=CJ.size; omega
      have dI:Hid (∀ a,lo=some a->a.block<W9.heap.size/\a.block≠W.heap.size+2):=fun a D=>by have:=rA.o a D; have:=Mi.o; omega
      have dK:Hid (fD mb (W.heap.size+2) lo lc l 3 26 W9 (fun v=>#[.slice A m.length B,.slice F C.length G,.bool true,.slice Z P.length dL,v,.slice none 0 0,.slice none 0 0]) W9 (.slice none 0 0) []):=⟨ZH U CJ w,ZA _ _ _ _,bB,QR _ _⟩
      clear CJ bB bM bL aG bN bK ig U z O3 V p3 jG;go_wp2;go_loopw [11] (fun i wr=>∃ (k:Nat) (xs:List Int) (v:Value),i=.int .i64 k/\xs.length+k<=2/\Hid (aM xs nn=true)/\fD mb (W.heap.size+2) lo lc l 3 26 W9 (fun v=>#[.slice A m.length B,.slice F C.length G,.bool true,.slice Z P.length dL,v,.slice none 0 0,.slice none 0 0]) wr v xs) (fun i _=>(intOf i).toNat)
      case atStart=>exact⟨k6,[],_,rfl,by simp; omega,rfl,dK.o⟩
      case round=>
       obtain⟨k,xs,v,rfl,kU,bC,d⟩:=hrel;by_cases kY:0<k
       ·
        --Mh l11 begin
        have gG:((k:Int) > 0):=by omega
        obtain⟨va,vn,vc,rfl⟩:=Zr d.own;have ah:=d.gb.at 4;have R:fD mb (W.heap.size+2) lo lc l 3 26 W9 (fun v=>#[.slice A m.length B,.slice F C.length G,.bool true,.slice Z P.length dL,v,.slice none 0 0,.slice none 0 0]) wr.drew (.slice va vn vc) xs:=d.keep (ZE wr 1) (d.Mx.keep (ZE wr 1)) w (by have:=Mi.o; omega);have tQ:=ZJ mb lo lc l (nn:Int) wr.drew R.Mx (by omega) HL.o;have Od:=Zh R;clear d R;go_wp2;go_region_law
         ((first
          | (refine step_append_lies _ (by rfl) _ _ _ (by rfl) W9.heap.size 3 i0 (.int .i64 0) 1 8 Tryz.underlying22 hi dO dP dQ rfl (by omega) (.slice va vn vc) xs.length (xs.map (Value.int .i64)) (by rfl) (y.own.alloc _) (aD L.heap.size 0) 1 1 [.int .i64 p] (by rfl) (by rfl) (X7 (cs:=#[.int .i64 p]) (t:=3) (fr:=(0,0)) (lZ L _)) (by simp[Value.oneCell']) (by omega) (by unfold maxLen; omega) (by omega) (by have:=y.kept.size; simp; omega) (L.heap.size+1) (by simp) ?_; intro gg iQ w5 E fC Fu iW; have Aj:=y.more (f:=4) (p:=p) (QX L _) E fC rfl w (by have:=Mi.o; omega) (by have:=Mi.o; omega) dI.o; have Cx:=y.far (QX L _) fC; have aT:w5.cell? (aD (W.heap.size+1+1) 4)=some (.slice va vn vc):=Zj S Cx (show W.heap.size+1+1<W9.heap.size by have:=Mi.o; omega); have aU:w5.frozen? (aD (W.heap.size+1+1) 4)=false:=(y.gb.keep Cx (show W.heap.size+2<W9.heap.size by have:=Mi.o; omega)).frozen 4)
          | (go_simp; go_at_call 11; refine tQ.mono ?_; rintro e L ⟨p,rfl,bq,bz,sM,Q⟩; have y:=fD.keep Od.o Q sM w (by have:=Mi.o; omega); have S:=ZI (gU ah (ZE wr 1)) Q w; have fE:=gU S (QX L (.cells #[.int .i64 p] 3)))))
        all_goals
         have RI:=Zh Aj;have aj:Hid (0<=p/\p<(nn:Int)):=⟨bq,bz⟩
         clear Aj aT aU Cx y S E fC Fu Q sM tQ ah;go_wp2;go_roundw
         case rel=>exact⟨k-1,xs++[p],_,congrArg (Value.int .i64) (show _=((k-1:Nat):Int) by omega),by rw[ZC,ZX]; omega,yM bC.o aj.o.1 aj.o.2,RI.o⟩
         case measure=>simp[intOf]; omega
        --Mh l11 end
       ·have aB:k=0:=by omega
        subst aB;obtain⟨ed,UL,PY,ek⟩:=jd (n:=W.heap.size+3) d.own (by omega) Mi.o;obtain⟨G5,qE,K⟩:=ed;simp only at PY;subst PY;unfold aa.val at UL;simp only at UL;subst UL;have GZ:=((dH.o.mono (t:=fun b=>b≠mb/\b<W.heap.size) (fun b _ h=>h.1)).trans (d.kept.mono fun b _ h=>⟨h.1,by have:=h.2; omega⟩)).mono (fun b I h=>⟨h,I⟩);have aW:eH (W.heap.size+3) (⟨⟨A,B,m⟩,F,G,C,true,⟨Z,dL,P⟩,⟨G5,qE,K⟩,jI,jI⟩:ae) wr:=by
         have h5:=Jy dF.o d.kept (fun b I=>by omega);exact⟨h5.src,h5.wh,h5.keys,ek,h5.aK,h5.ord,h5.nil⟩
        have PW:=ZH dG.o d.kept (show W.heap.size+1≠mb/\W.heap.size+1≠W.heap.size+2 by omega);have T:GB wr (W.heap.size+2) 26 (⟨⟨A,B,m⟩,F,G,C,true,⟨Z,dL,P⟩,⟨G5,qE,K⟩,jI,jI⟩:ae).cells:=d.gb;have aX:=d.Mx;have jJ:=d.kept.size;clear d;have aY:=xI mb lo lc l ((P.length:Int)+1+(K.length:Int)) 2 wr aX HL.o (fun a D=>by have:=rA.o a D; have:=GZ.size; omega) (by omega) (by omega);have q0:wr.cell? (aD (W.heap.size+1+1) 0)=some (.slice A m.length B):=QM T 0;have q1:wr.cell? (aD (W.heap.size+1+1) 1)=some (.slice F C.length G):=QM T 1;have q2:wr.cell? (aD (W.heap.size+1+1) 2)=some (.bool true):=QM T 2;have q3:wr.cell? (aD (W.heap.size+1+1) 3)=some (.slice Z P.length dL):=QM T 3;have q4:wr.cell? (aD (W.heap.size+1+1) 4)=some (.slice G5 K.length qE):=QM T 4;have q5:wr.cell? (aD (W.heap.size+1+1) 5)=some (.slice none 0 0):=QM T 5;have q6:wr.cell? (aD (W.heap.size+1+1) 6)=some (.slice none 0 0):=QM T 6;have aJ:Hid _:=T;have aL:Hid _:=PW;have dM:=Zh aW;have aN:=Zh GZ;clear T PW aW GZ aX;go_wp2_with fail;refine aY.mono ?_;rintro e Wp ⟨ov,kV,rfl,bD,eu,Rc,eB,Rs,Y⟩;clear aY q0 q1 q2 q3 q4 q5 q6;obtain⟨eD,UM,PZ,eF⟩:=jd (n:=W.heap.size+3) bD (by omega) (by have:=Mi.o; omega);obtain⟨M,N,O⟩:=eD;simp only at PZ;subst PZ;unfold aa.val at UM;simp only at UM;subst UM;have Mj:=ZH aJ.o Y w;have aZ:=ZH aL.o Y (show W.heap.size+1≠mb by omega);have bg:=Jy dM.o Y (fun b I=>by omega);have OZ:=Kept.trans aN.o Y;have p6:=Mj.at 6;have jK:Wp.frozen? (aD (W.heap.size+1+1) 6)=false:=Mj.frozen 6;have Mk:Kept (fun b=>b≠W.heap.size+2) Wp (Wp.setCell (aD (W.heap.size+1+1) 6) (.slice M O.length N)):=Zn _ _ _ (fun h=>h rfl);have U:GB (Wp.setCell (aD (W.heap.size+1+1) 6) (.slice M O.length N)) (W.heap.size+2) 26 (⟨⟨A,B,m⟩,F,G,C,true,⟨Z,dL,P⟩,⟨G5,qE,K⟩,jI,⟨M,N,O⟩⟩:ae).cells:=Mj.set 6 _
        have z:=aZ.keep Mk (by omega);have O3:eH (W.heap.size+3) (⟨⟨A,B,m⟩,F,G,C,true,⟨Z,dL,P⟩,⟨G5,qE,K⟩,jI,⟨M,N,O⟩⟩:ae) (Wp.setCell (aD (W.heap.size+1+1) 6) (.slice M O.length N)):=by
         have J:=bg.keep Mk (fun b I=>by omega);exact⟨J.src,J.wh,J.keys,J.sums,J.aK,eF.keep Mk (fun b I=>by omega),J.nil⟩
        have V:Kept (fun b=>b≠mb) W (Wp.setCell (aD (W.heap.size+1+1) 6) (.slice M O.length N)):=OZ.bY (by omega) _;have X:aH mb lo lc l (Wp.setCell (aD (W.heap.size+1+1) 6) (.slice M O.length N)):=Rs.set _ (by omega) (fun a D=>by have:=rA.o a D; omega);obtain⟨H,eG⟩:=eX (Wp.setCell (aD (W.heap.size+1+1) 6) (.slice M O.length N))
        rw[eG]at U z O3 V X;have jL:H.cell? (aD (W.heap.size+1+1) 0)=some (.slice A m.length B):=QM U 0;have jN:H.cell? (aD (W.heap.size+1+1) 1)=some (.slice F C.length G):=QM U 1;have jO:H.cell? (aD (W.heap.size+1+1) 2)=some (.bool true):=QM U 2;have jP:H.cell? (aD (W.heap.size+1+1) 3)=some (.slice Z P.length dL):=QM U 3;have jQ:H.cell? (aD (W.heap.size+1+1) 4)=some (.slice G5 K.length qE):=QM U 4;have jR:H.cell? (aD (W.heap.size+1+1) 5)=some (.slice none 0 0):=QM U 5;have jS:H.cell? (aD (W.heap.size+1+1) 6)=some (.slice M O.length N):=QM U 6;have jT:H.cell? (aD (W.heap.size+1) 0)=some (.slice none 0 0):=QM z 0;have jU:=QN z 0;have jV:H.cell? (aD (W.heap.size+1) 1)=some (.slice none 0 0):=QM z 1;have jW:=QN z 1;have jX:H.cell? (aD (W.heap.size+1) 2)=some (.bool false):=QM z 2;have jZ:=QN z 2;have j3:H.cell? (aD (W.heap.size+1) 3)=some (.slice none 0 0):=QM z 3;have j4:=QN z 3;have j5:H.cell? (aD (W.heap.size+1) 4)=some (.slice none 0 0):=QM z 4;have j6:=QN z 4;have kg:H.cell? (aD (W.heap.size+1) 5)=some (.slice none 0 0):=QM z 5;have ko:=QN z 5;have kr:H.cell? (aD (W.heap.size+1) 6)=some (.slice none 0 0):=QM z 6;have ku:=QN z 6;have HF:=Zh (bO.o H (⟨⟨A,B,m⟩,F,G,C,true,⟨Z,dL,P⟩,⟨G5,qE,K⟩,jI,⟨M,N,O⟩⟩:ae) z X V O3);have dN:Hid (CY ts (⟨⟨A,B,m⟩,F,G,C,true,⟨Z,dL,P⟩,⟨G5,qE,K⟩,jI,⟨M,N,O⟩⟩:ae)):=⟨fP.o,⟨bH.o.1,fun x hx=>by have:=bH.o.2 x hx; rw[qF.o]; exact this⟩,.inl ⟨rfl,rfl,dE.o.2.2,by show aM P (ai ts m)=true; rw[qF.o]; exact dE.o.1,dE.o.2.1,by show K.length<=2; omega,by show aM K (ai ts m)=true; rw[qF.o]; exact bC.o,eB,eu,Rc⟩⟩
        clear U z O3 V X Mj aZ bg OZ Mk Rs Y bO;go_wp2;refine ZN (ZO rfl _ _ (W.heap.size+1) 26 (⟨⟨A,B,m⟩,F,G,C,true,⟨Z,dL,P⟩,⟨G5,qE,K⟩,jI,⟨M,N,O⟩⟩:ae).cells (0,0) _ rfl HF.o.1 Tryz.underlying26 rfl (by kernel_rfl)) rfl ?_;exact⟨(⟨⟨A,B,m⟩,F,G,C,true,⟨Z,dL,P⟩,⟨G5,qE,K⟩,jI,⟨M,N,O⟩⟩:ae),rfl,dN.o,HF.o.2.2.2,HF.o.2.1,HF.o.2.2.1⟩
      --Mh bt end
     | false =>
      --Mh bf begin
      have aV:=ZJ mb lo lc l 4 W8 bN.o (by omega) HL.o;go_wp2_with fail;refine aV.mono ?_;rintro e W9 ⟨r6,rfl,kR,kS,bB,CJ⟩;clear aV;obtain⟨k6,rfl⟩:∃ k:Nat,r6=(k:Int):=⟨r6.toNat,by omega⟩
      have dF:=Zh (Jy bM.o CJ (fun b I=>by omega));have dG:Hid _:=ZH bL.o CJ (show W.heap.size+1≠mb by omega);have dH:=Zh (Kept.trans aG.o CJ);have Mi:Hid (W.heap.size+3<=W9.heap.size):=show _<=_ by have:=dD.o; have:=CJ.size; omega
      have dI:Hid (∀ a,lo=some a->a.block<W9.heap.size/\a.block≠W.heap.size+2):=fun a D=>by have:=rA.o a D; have:=Mi.o; omega
      have dK:Hid (fD mb (W.heap.size+2) lo lc l 3 26 W9 (fun v=>#[.slice A m.length B,.slice F C.length G,.bool false,.slice none 0 0,.slice none 0 0,v,.slice none 0 0]) W9 (.slice none 0 0) []):=⟨ZH bK.o CJ w,ZA _ _ _ _,bB,QR _ _⟩
      clear CJ bB bM bL aG bN bK ig;go_wp2;go_loopw [12] (fun i wr=>∃ (k:Nat) (xs:List Int) (v:Value),i=.int .i64 k/\xs.length+k<=4/\1<=xs.length+k/\Hid (aM xs nn=true)/\fD mb (W.heap.size+2) lo lc l 3 26 W9 (fun v=>#[.slice A m.length B,.slice F C.length G,.bool false,.slice none 0 0,.slice none 0 0,v,.slice none 0 0]) wr v xs) (fun i _=>(intOf i).toNat)
      case atStart=>exact⟨1+k6,[],_,congrArg (Value.int .i64) (by omega),by simp; omega,by simp,rfl,dK.o⟩
      case round=>
       obtain⟨k,xs,v,rfl,kU,l7,bC,d⟩:=hrel;by_cases kY:0<k
       ·
        --Mh l12 begin
        have gG:((k:Int) > 0):=by omega
        obtain⟨va,vn,vc,rfl⟩:=Zr d.own;have ah:=d.gb.at 5;have R:fD mb (W.heap.size+2) lo lc l 3 26 W9 (fun v=>#[.slice A m.length B,.slice F C.length G,.bool false,.slice none 0 0,.slice none 0 0,v,.slice none 0 0]) wr.drew (.slice va vn vc) xs:=d.keep (ZE wr 1) (d.Mx.keep (ZE wr 1)) w (by have:=Mi.o; omega);have tQ:=ZJ mb lo lc l (nn:Int) wr.drew R.Mx (by omega) HL.o;have Od:=Zh R;clear d R;go_wp2;go_region_law
         ((first
          | (refine step_append_lies _ (by rfl) _ _ _ (by rfl) W9.heap.size 3 i0 (.int .i64 0) 1 8 Tryz.underlying22 hi dO dP dQ rfl (by omega) (.slice va vn vc) xs.length (xs.map (Value.int .i64)) (by rfl) (y.own.alloc _) (aD L.heap.size 0) 1 1 [.int .i64 p] (by rfl) (by rfl) (X7 (cs:=#[.int .i64 p]) (t:=3) (fr:=(0,0)) (lZ L _)) (by simp[Value.oneCell']) (by omega) (by unfold maxLen; omega) (by omega) (by have:=y.kept.size; simp; omega) (L.heap.size+1) (by simp) ?_; intro gg iQ w5 E fC Fu iW; have Aj:=y.more (f:=5) (p:=p) (QX L _) E fC rfl w (by have:=Mi.o; omega) (by have:=Mi.o; omega) dI.o; have Cx:=y.far (QX L _) fC; have aT:w5.cell? (aD (W.heap.size+1+1) 5)=some (.slice va vn vc):=Zj S Cx (show W.heap.size+1+1<W9.heap.size by have:=Mi.o; omega); have aU:w5.frozen? (aD (W.heap.size+1+1) 5)=false:=(y.gb.keep Cx (show W.heap.size+2<W9.heap.size by have:=Mi.o; omega)).frozen 5)
          | (go_simp; go_at_call 11; refine tQ.mono ?_; rintro e L ⟨p,rfl,bq,bz,sM,Q⟩; have y:=fD.keep Od.o Q sM w (by have:=Mi.o; omega); have S:=ZI (gU ah (ZE wr 1)) Q w; have fE:=gU S (QX L (.cells #[.int .i64 p] 3)))))
        all_goals
         have RI:=Zh Aj;have aj:Hid (0<=p/\p<(nn:Int)):=⟨bq,bz⟩
         clear Aj aT aU Cx y S E fC Fu Q sM tQ ah;go_wp2;go_roundw
         case rel=>exact⟨k-1,xs++[p],_,congrArg (Value.int .i64) (show _=((k-1:Nat):Int) by omega),by rw[ZC,ZX]; omega,by rw[ZC,ZX]; omega,yM bC.o aj.o.1 aj.o.2,RI.o⟩
         case measure=>simp[intOf]; omega
        --Mh l12 end
       ·have aB:k=0:=by omega
        subst aB;obtain⟨ed,UL,PY,ek⟩:=jd (n:=W.heap.size+3) d.own (by omega) Mi.o;obtain⟨G5,qE,K⟩:=ed;simp only at PY;subst PY;unfold aa.val at UL;simp only at UL;subst UL;have GZ:=((dH.o.mono (t:=fun b=>b≠mb/\b<W.heap.size) (fun b _ h=>h.1)).trans (d.kept.mono fun b _ h=>⟨h.1,by have:=h.2; omega⟩)).mono (fun b I h=>⟨h,I⟩);have aW:eH (W.heap.size+3) (⟨⟨A,B,m⟩,F,G,C,false,jI,jI,⟨G5,qE,K⟩,jI⟩:ae) wr:=by
         have h5:=Jy dF.o d.kept (fun b I=>by omega);exact⟨h5.src,h5.wh,h5.keys,h5.sums,ek,h5.ord,h5.nil⟩
        have PW:=ZH dG.o d.kept (show W.heap.size+1≠mb/\W.heap.size+1≠W.heap.size+2 by omega);have T:GB wr (W.heap.size+2) 26 (⟨⟨A,B,m⟩,F,G,C,false,jI,jI,⟨G5,qE,K⟩,jI⟩:ae).cells:=d.gb;have aX:=d.Mx;have jJ:=d.kept.size;clear d;have aY:=xI mb lo lc l (K.length:Int) 3 wr aX HL.o (fun a D=>by have:=rA.o a D; have:=GZ.size; omega) (by omega) (by omega);have q0:wr.cell? (aD (W.heap.size+1+1) 0)=some (.slice A m.length B):=QM T 0;have q1:wr.cell? (aD (W.heap.size+1+1) 1)=some (.slice F C.length G):=QM T 1;have q2:wr.cell? (aD (W.heap.size+1+1) 2)=some (.bool false):=QM T 2;have q3:wr.cell? (aD (W.heap.size+1+1) 3)=some (.slice none 0 0):=QM T 3;have q4:wr.cell? (aD (W.heap.size+1+1) 4)=some (.slice none 0 0):=QM T 4;have q5:wr.cell? (aD (W.heap.size+1+1) 5)=some (.slice G5 K.length qE):=QM T 5;have q6:wr.cell? (aD (W.heap.size+1+1) 6)=some (.slice none 0 0):=QM T 6;have aJ:Hid _:=T;have aL:Hid _:=PW;have dM:=Zh aW;have aN:=Zh GZ;clear T PW aW GZ aX;go_wp2_with fail;refine aY.mono ?_;rintro e Wp ⟨ov,kV,rfl,bD,eu,Rc,eB,Rs,Y⟩;clear aY q0 q1 q2 q3 q4 q5 q6;obtain⟨eD,UM,PZ,eF⟩:=jd (n:=W.heap.size+3) bD (by omega) (by have:=Mi.o; omega);obtain⟨M,N,O⟩:=eD;simp only at PZ;subst PZ;unfold aa.val at UM;simp only at UM;subst UM;have Mj:=ZH aJ.o Y w;have aZ:=ZH aL.o Y (show W.heap.size+1≠mb by omega);have bg:=Jy dM.o Y (fun b I=>by omega);have OZ:=Kept.trans aN.o Y;have p6:=Mj.at 6;have jK:Wp.frozen? (aD (W.heap.size+1+1) 6)=false:=Mj.frozen 6;have Mk:Kept (fun b=>b≠W.heap.size+2) Wp (Wp.setCell (aD (W.heap.size+1+1) 6) (.slice M O.length N)):=Zn _ _ _ (fun h=>h rfl);have U:GB (Wp.setCell (aD (W.heap.size+1+1) 6) (.slice M O.length N)) (W.heap.size+2) 26 (⟨⟨A,B,m⟩,F,G,C,false,jI,jI,⟨G5,qE,K⟩,⟨M,N,O⟩⟩:ae).cells:=Mj.set 6 _
        have z:=aZ.keep Mk (by omega);have O3:eH (W.heap.size+3) (⟨⟨A,B,m⟩,F,G,C,false,jI,jI,⟨G5,qE,K⟩,⟨M,N,O⟩⟩:ae) (Wp.setCell (aD (W.heap.size+1+1) 6) (.slice M O.length N)):=by
         have J:=bg.keep Mk (fun b I=>by omega);exact⟨J.src,J.wh,J.keys,J.sums,J.aK,eF.keep Mk (fun b I=>by omega),J.nil⟩
        have V:Kept (fun b=>b≠mb) W (Wp.setCell (aD (W.heap.size+1+1) 6) (.slice M O.length N)):=OZ.bY (by omega) _;have X:aH mb lo lc l (Wp.setCell (aD (W.heap.size+1+1) 6) (.slice M O.length N)):=Rs.set _ (by omega) (fun a D=>by have:=rA.o a D; omega);obtain⟨H,eG⟩:=eX (Wp.setCell (aD (W.heap.size+1+1) 6) (.slice M O.length N))
        rw[eG]at U z O3 V X;have jL:H.cell? (aD (W.heap.size+1+1) 0)=some (.slice A m.length B):=QM U 0;have jN:H.cell? (aD (W.heap.size+1+1) 1)=some (.slice F C.length G):=QM U 1;have jO:H.cell? (aD (W.heap.size+1+1) 2)=some (.bool false):=QM U 2;have jP:H.cell? (aD (W.heap.size+1+1) 3)=some (.slice none 0 0):=QM U 3;have jQ:H.cell? (aD (W.heap.size+1+1) 4)=some (.slice none 0 0):=QM U 4;have jR:H.cell? (aD (W.heap.size+1+1) 5)=some (.slice G5 K.length qE):=QM U 5;have jS:H.cell? (aD (W.heap.size+1+1) 6)=some (.slice M O.length N):=QM U 6;have jT:H.cell? (aD (W.heap.size+1) 0)=some (.slice none 0 0):=QM z 0;have jU:=QN z 0;have jV:H.cell? (aD (W.heap.size+1) 1)=some (.slice none 0 0):=QM z 1;have jW:=QN z 1;have jX:H.cell? (aD (W.heap.size+1) 2)=some (.bool false):=QM z 2;have jZ:=QN z 2;have j3:H.cell? (aD (W.heap.size+1) 3)=some (.slice none 0 0):=QM z 3;have j4:=QN z 3;have j5:H.cell? (aD (W.heap.size+1) 4)=some (.slice none 0 0):=QM z 4;have j6:=QN z 4;have kg:H.cell? (aD (W.heap.size+1) 5)=some (.slice none 0 0):=QM z 5;have ko:=QN z 5;have kr:H.cell? (aD (W.heap.size+1) 6)=some (.slice none 0 0):=QM z 6;have ku:=QN z 6;have HF:=Zh (bO.o H (⟨⟨A,B,m⟩,F,G,C,false,jI,jI,⟨G5,qE,K⟩,⟨M,N,O⟩⟩:ae) z X V O3);have dN:Hid (CY ts (⟨⟨A,B,m⟩,F,G,C,false,jI,jI,⟨G5,qE,K⟩,⟨M,N,O⟩⟩:ae)):=⟨fP.o,⟨bH.o.1,fun x hx=>by have:=bH.o.2 x hx; rw[qF.o]; exact this⟩,.inr ⟨rfl,rfl,rfl,by show 1<=K.length; omega,by show K.length<=4; omega,by show aM K (ai ts m)=true; rw[qF.o]; exact bC.o,eB,eu,Rc⟩⟩
        clear U z O3 V X Mj aZ bg OZ Mk Rs Y bO;go_wp2;refine ZN (ZO rfl _ _ (W.heap.size+1) 26 (⟨⟨A,B,m⟩,F,G,C,false,jI,jI,⟨G5,qE,K⟩,⟨M,N,O⟩⟩:ae).cells (0,0) _ rfl HF.o.1 Tryz.underlying26 rfl (by kernel_rfl)) rfl ?_;exact⟨(⟨⟨A,B,m⟩,F,G,C,false,jI,jI,⟨G5,qE,K⟩,⟨M,N,O⟩⟩:ae),rfl,dN.o,HF.o.2.2.2,HF.o.2.1,HF.o.2.2.1⟩
      --Mh bf end
structure Item(α:Type) where
 val:α->Value
 At:α->World->Prop
 blk:α->Nat->Prop
 keep:∀ {x A B},At x A->A.heap.size<=B.heap.size->(∀ b,blk x b->b<A.heap.size->B.heap[b]? = A.heap[b]?)->At x B
structure oL{α:Type}(T:Item α)(e:TypeId)(W0 W:World)(v:Value)(xs:List α):Prop where
 own:W.ownsRow W0.heap.size e 1 v xs.length (xs.map T.val)
 itm:∀ x∈xs,T.At x W/\∀ b,T.blk x b->W0.heap.size<=b/\b<W.heap.size/\v.ownBlock≠some b
theorem oL.nil{α:Type}(T:Item α)(e:TypeId)(W0 W:World):oL T e W0 W (.slice none 0 0) []:=⟨ZA _ _ _ _,fun x a=>by simp at a⟩
theorem oL.keep{α:Type}{T:Item α}{e:TypeId}{W0 A B:World}{v:Value}{xs:List α}{s:Nat->Prop}(h:oL T e W0 A v xs)(hk:Kept s A B)(hs:∀ b,W0.heap.size<=b->s b):oL T e W0 B v xs:=
 ⟨Zp h.own hk (fun g i=>hs g (Zq h.own i).1),fun x a=>⟨T.keep (h.itm x a).1 hk.size (fun b d f=>hk.block b f (hs b ((h.itm x a).2 b d).1)),fun b d=>⟨((h.itm x a).2 b d).1,by have:=((h.itm x a).2 b d).2.1; have:=hk.size; omega,((h.itm x a).2 b d).2.2⟩⟩⟩
theorem oL.more{α:Type}{T:Item α}{xs:List α}(h:oL T e W0 A v xs){x:α}(hx:T.At x A)(hxb:∀ b,T.blk x b->W0.heap.size<=b/\b<A.heap.size/\v.ownBlock≠some b)
  (ha:Kept (fun _=>True) A A1) (hs1:A1.heap.size=A.heap.size+1) (hown:B.ownsRow W0.heap.size e 1 v' (xs.length+1) (xs.map T.val++[T.val x])) (hg:A1.grownBy B v.ownBlock) (hat:v'.ownBlock=v.ownBlock∨v'.ownBlock=some A1.heap.size) :
  oL T e W0 B v' (xs++[x])/\Kept (fun b=>b<W0.heap.size) A B:=by
 have l:∀ g,v.ownBlock=some g->W0.heap.size<=g:=fun g hg=>(Zq h.own hg).1
 have d:Kept (fun b=>v.ownBlock≠some b) A B:=(ha.mono fun _ _ _=>trivial).trans (Zo hg (fun r e n=>n e));have k:∀ b,b<A.heap.size->v.ownBlock≠some b->v'.ownBlock≠some b:=fun b j o e=>by
  rcases hat with h | h
  ·exact o (h ▸ e)
  ·rw[h]at e; cases e; omega
 have i:∀ y:α,T.At y A->(∀ b,T.blk y b->W0.heap.size<=b/\b<A.heap.size/\v.ownBlock≠some b)->T.At y B/\∀ b,T.blk y b->W0.heap.size<=b/\b<B.heap.size/\v'.ownBlock≠some b:=fun y f a=>
  ⟨T.keep f d.size (fun b j m=>d.block b m (a b j).2.2),fun b j=>⟨(a b j).1,by have:=(a b j).2.1; have:=d.size; omega,k b (a b j).2.1 (a b j).2.2⟩⟩
 refine⟨⟨by simpa using hown,fun y f=>?_⟩,d.mono fun b _ j e=>by have:=l b e; omega⟩;rcases Zx.1 f with f | f
 ·exact i y (h.itm y f).1 (h.itm y f).2
 ·rw[Zw]at f;subst f;exact i y hx hxb
def CZ:Item aa where
 val:=aa.val
 At:=ag.At
 blk x b:=ag.blk x=some b
 keep:=fun h hs hb=>ag.keep h hs (fun b hlt hx=>hb b hx hlt)
def sJ:Item aN where
 val:=aN.val
 At t W:=aX W t.ad t.rs
 blk t b:=(∃ a,t.ad=some a/\a.block=b)∨∃ i,i<t.rs.length/\ag.blk (t.rs.getD i iz)=some b
 keep:=by
  intro t A B h hs hb;exact aX.keep h hs (fun a ha=>hb _ (.inl ⟨a,ha,rfl⟩) (h.2.1 a ha)) (fun i hi b hbx=>hb b (.inr ⟨i,hi,hbx⟩) (ag.sV (h.2.2 i hi) hbx))
theorem oL.table{rs:List aa}(h:oL CZ e W0 W v rs)(hl:rs.length<=1000):∃ t:aN,v=t.val/\t.rs=rs/\sJ.At t W/\∀ b,sJ.blk t b->W0.heap.size<=b/\b<W.heap.size:=by
 have f:∀ i,i<rs.length->rs.getD i iz∈rs:=fun i d=>by simp[List.getD,d]
 rcases h.own.2 with⟨hv,h0⟩ | ⟨g,cap,cur,hv,hb,hh,hc,_,hcs,ht⟩
 ·have:=QF h0;subst this;refine⟨⟨none,0,[]⟩,hv,rfl,⟨⟨by simp,fun i d=>absurd d (by simp),fun i d=>absurd d (by simp)⟩,(fun a j=>by cases j),fun i d=>absurd d (by simp)⟩,?_⟩;rintro b (⟨a,j,_⟩ | ⟨i,d,_⟩)
  ·cases j
  ·simp at d
 ·have k:∀ i,i<rs.length->ag.At (rs.getD i iz) W:=fun i d=>(h.itm _ (f i d)).1
  refine⟨⟨some (aD g 0),cap,rs⟩,hv,rfl,⟨⟨by show rs.length<=_; omega,fun i d=>⟨g,0,rfl,?_⟩,fun i d=>(k i d).1⟩,fun a j=>?_,k⟩,?_⟩
  ·have m:i<rs.length:=d;have l:(cur.toList.take (rs.length*1))[i]? = some (rs.getD i iz).val:=by
    rw[ht];simp[List.getD,m,CZ]
   have o:cur[i]? = some (rs.getD i iz).val:=by
    rw[ZW]at l;split at l
    ·simpa using l
    ·cases l
   simp only[World.cell?,hh]
   simpa using o
  ·cases j; exact(QO.1 hh).1
  ·rintro b (⟨a,j,rfl⟩ | ⟨i,d,n⟩)
   ·cases j; exact⟨hb,(QO.1 hh).1⟩
   ·have:=(h.itm _ (f i d)).2 b n;exact⟨this.1,this.2.1⟩
theorem oL.db{e:TypeId}{W0 W:World}{v:Value}{db:List aN}(h:oL sJ e W0 W v db)(hl:db.length<=1000):∃ k b,v=.slice k db.length b/\qi W k db:=by
 have d:∀ i,i<db.length->db.getD i rz∈db:=fun i a=>by simp[List.getD,a]
 have f:∀ i,i<db.length->aX W (db.getD i rz).ad (db.getD i rz).rs:=fun i a=>(h.itm _ (d i a)).1
 rcases h.own.2 with⟨hv,h0⟩ | ⟨g,b,cur,hv,hb,hh,hc,_,hcs,ht⟩
 ·have:=QF h0;subst this;exact⟨none,0,hv,⟨by simp,fun i a=>absurd a (by simp),fun i a=>absurd a (by simp)⟩,fun i a=>absurd a (by simp)⟩
 ·refine⟨some (aD g 0),b,hv,⟨by omega,fun i a=>⟨g,0,rfl,?_⟩,fun i a=>(f i a).1⟩,f⟩;have j:(cur.toList.take (db.length*1))[i]? = some (db.getD i rz).val:=by
   rw[ht];simp[List.getD,a,sJ]
  have l:cur[i]? = some (db.getD i rz).val:=by
   rw[ZW]at j;split at j
   ·simpa using j
   ·cases j
  simp only[World.cell?,hh]
  simpa using l
theorem oL.db2{d:Option Addr}{dc:Nat}{db:List aN}(h:oL sJ e W0 W (.slice d db.length dc) db)(hl:db.length<=1000):qi W d db:=by
 obtain⟨g,a,b,f⟩:=h.db hl;injection b with h1 h2 h3;rw[h1];exact f
def af.list(t:af):List Value:=[.int .i64 t.cols,.int .i64 t.rows,.int .i64 t.k0,.int .i64 t.k1,.int .i64 t.k2,.int .i64 t.k3]
theorem G7(t:af):t.list.length=6:=rfl
theorem G9{base:Nat}(h:w.ownsRow base e 6 v ts.length (ts.flatMap af.list))(hl:ts.length<=100) :
  ∃ l d,v=.slice l ts.length d/\bu w l ts/\∀ a,l=some a->base<=a.block/\a.block<w.heap.size:=by
 rcases h.2 with⟨rfl,h0⟩ | ⟨g,d,cur,rfl,hb,hh,hc,_,hcs,ht⟩
 ·have:=QF h0;subst this;exact⟨none,0,rfl,⟨by simp,fun i f=>absurd f (by simp)⟩,fun a k=>by cases k⟩
 ·refine⟨some (aD g 0),d,rfl,⟨by omega,fun i f=>⟨g,0,rfl,?_⟩⟩,fun a k=>by cases k; exact⟨hb,(QO.1 hh).1⟩⟩;have b:∀ j,j<6->w.cell? (aD g (0+i*6+j))=((ts.getD i tz).list)[j]?:=fun j n=>by
   have m:=J6 af.list 6 G7 tz ts [] i j f n;rw[XB]at m;rw[<- m,<- ht,ZW,Qu (by have:=f; omega)];simp[World.cell?,hh]
  exact⟨b 0 (by omega),b 1 (by omega),b 2 (by omega),b 3 (by omega),b 4 (by omega),b 5 (by omega)⟩
theorem GB.av4{G:Nat}{t:TypeId}{a0 a1 a2 a3 a4 a5 a6 a7 a8:Value}(h:GB w G t #[a0,a1,a2,a3,a4,a5,a6,a7,a8])(v0 v1 v2 v3 v4 v5 v6 v7 v8:Value):GB (((((((((w.setCell (aD G 0) v0).setCell (aD G 1) v1).setCell (aD G 2) v2).setCell (aD G 3) v3).setCell (aD G 4) v4).setCell (aD G 5) v5).setCell (aD G 6) v6).setCell (aD G 7) v7).setCell (aD G 8) v8) G t #[v0,v1,v2,v3,v4,v5,v6,v7,v8]:=by
 have a:GB (w.setCell (aD G 0) v0) G t #[v0,a1,a2,a3,a4,a5,a6,a7,a8]:=h.set 0 v0;have b:GB ((w.setCell (aD G 0) v0).setCell (aD G 1) v1) G t #[v0,v1,a2,a3,a4,a5,a6,a7,a8]:=a.set 1 v1;have d:GB (((w.setCell (aD G 0) v0).setCell (aD G 1) v1).setCell (aD G 2) v2) G t #[v0,v1,v2,a3,a4,a5,a6,a7,a8]:=b.set 2 v2;have e:GB ((((w.setCell (aD G 0) v0).setCell (aD G 1) v1).setCell (aD G 2) v2).setCell (aD G 3) v3) G t #[v0,v1,v2,v3,a4,a5,a6,a7,a8]:=d.set 3 v3;have f:GB (((((w.setCell (aD G 0) v0).setCell (aD G 1) v1).setCell (aD G 2) v2).setCell (aD G 3) v3).setCell (aD G 4) v4) G t #[v0,v1,v2,v3,v4,a5,a6,a7,a8]:=e.set 4 v4;have g:GB ((((((w.setCell (aD G 0) v0).setCell (aD G 1) v1).setCell (aD G 2) v2).setCell (aD G 3) v3).setCell (aD G 4) v4).setCell (aD G 5) v5) G t #[v0,v1,v2,v3,v4,v5,a6,a7,a8]:=f.set 5 v5;have i:GB (((((((w.setCell (aD G 0) v0).setCell (aD G 1) v1).setCell (aD G 2) v2).setCell (aD G 3) v3).setCell (aD G 4) v4).setCell (aD G 5) v5).setCell (aD G 6) v6) G t #[v0,v1,v2,v3,v4,v5,v6,a7,a8]:=g.set 6 v6;have j:GB ((((((((w.setCell (aD G 0) v0).setCell (aD G 1) v1).setCell (aD G 2) v2).setCell (aD G 3) v3).setCell (aD G 4) v4).setCell (aD G 5) v5).setCell (aD G 6) v6).setCell (aD G 7) v7) G t #[v0,v1,v2,v3,v4,v5,v6,v7,a8]:=i.set 7 v7;have k:GB (((((((((w.setCell (aD G 0) v0).setCell (aD G 1) v1).setCell (aD G 2) v2).setCell (aD G 3) v3).setCell (aD G 4) v4).setCell (aD G 5) v5).setCell (aD G 6) v6).setCell (aD G 7) v7).setCell (aD G 8) v8) G t #[v0,v1,v2,v3,v4,v5,v6,v7,v8]:=j.set 8 v8;exact k
structure CaseOk(ts:List af)(q:ae)(db:List aN):Prop where
 tabs:1<=ts.length/\ts.length<=3/\∀ t∈ts,De t t.cols.toNat
 Iu:CY ts q
 len:db.length=ts.length
 rows:∀ i,i<db.length->(db.getD i rz).rs.length<=4/\∀ r∈(db.getD i rz).rs,(r.xs.length:Int)=(ts.getD i tz).cols/\∀ x∈r.xs,x=1073741824∨(-1<=x/\x<=3)
theorem BP(h1:1<=ts.length)(h3:ts.length<=3)(h:∀ t∈ts,De t t.cols.toNat):fo ts=true:=by
 unfold fo;simp only[Qo,QE];refine⟨⟨h1,by omega⟩,?_⟩;rw[Qp];intro t a;have k:=h t a;unfold dX;rw[QE];exact⟨k.c1,by have:=k.c3; omega,k.r0,k.r1,k.kd⟩
structure Fv(mb qb:Nat)(lo:Option Addr)(lc:Nat)(l:List Int)(e tq:TypeId)(W0:World)(c:Value->Array Value)(W:World)(v:Value)(ts:List af):Prop where
 gb:GB W qb tq (c v)
 own:W.ownsRow W0.heap.size e 6 v ts.length (ts.flatMap af.list)
 Mx:aH mb lo lc l W
 kept:Kept (fun b=>b≠mb/\b≠qb) W0 W
theorem Fv.keep{mb qb:Nat}{lo:Option Addr}{lc:Nat}{l:List Int}{e tq:TypeId}{W0:World}{c:Value->Array Value}{A B:World}{v:Value}{ts:List af}(h:Fv mb qb lo lc l e tq W0 c A v ts)(hk:Kept (fun b=>b≠mb) A B)(hm:aH mb lo lc l B)
  (hq:qb≠mb) (hmb:mb<W0.heap.size):Fv mb qb lo lc l e tq W0 c B v ts:=
 ⟨h.gb.keep hk hq,Zp h.own hk (fun g a=>by have:=(Zq h.own a).1; omega),hm,h.kept.trans (hk.mono fun b _ h=>h.1)⟩
theorem Fv.more{mb qb:Nat}{lo:Option Addr}{lc:Nat}{l:List Int}{tq:TypeId}{c:Value->Array Value}(h:Fv mb qb lo lc l e tq W0 c A v ts){f:Nat}{t:af}
  (ha:Kept (fun _=>True) A A1) (hown:B.ownsRow W0.heap.size e 6 v' (ts.length+1) (ts.flatMap af.list++t.list)) (hg:A1.grownBy B v.ownBlock) (hc:(c v).setIfInBounds f v' = c v')
  (hq:qb≠mb) (hmb:mb<W0.heap.size) (hqb:qb<W0.heap.size) (hlo:∀ a,lo=some a->a.block<W0.heap.size/\a.block≠qb) :
  Fv mb qb lo lc l e tq W0 c (B.setCell (aD qb f) v') v' (ts++[t])/\Kept (fun b=>b<W0.heap.size) A B:=by
 have d:∀ g,v.ownBlock=some g->W0.heap.size<=g:=fun g hg=>(Zq h.own hg).1
 have n:∀ g,v'.ownBlock=some g->W0.heap.size<=g:=fun g hg=>(Zq hown hg).1
 have i:Kept (fun b=>v.ownBlock≠some b) A B:=(ha.mono fun _ _ _=>trivial).trans (Zo hg (fun r e o=>o e));have j:Kept (fun b=>v.ownBlock≠some b/\b≠qb) A (B.setCell (aD qb f) v'):=(i.mono fun _ _ h=>h.1).trans (Zn _ _ _ (fun h=>h.2 rfl));refine⟨⟨?_,?_,?_,?_⟩,i.mono fun b _ m e=>by have:=d b e; omega⟩
 ·have k:=h.gb.keep i (fun e=>by have:=d _ e; omega);have:=k.set f v'
  rwa [hc]at this
 ·have:=Zp hown (s:=fun b=>b≠qb) (Zn B (aD qb f) v' (fun h=>h rfl)) (fun g hg=>by have:=n g hg; omega);rw[show (ts++[t]).length=ts.length+1 from by simp,show (ts++[t]).flatMap af.list=ts.flatMap af.list++t.list from by simp];exact this
 ·exact h.Mx.Dk j ⟨fun e=>by have:=d _ e; omega,Ne.symm hq⟩ (fun a ha=>⟨fun e=>by have:=d _ e; have:=(hlo a ha).1; omega,(hlo a ha).2⟩)
 ·exact((h.kept.mono (t:=fun b=>(b≠mb/\b≠qb)/\b<W0.heap.size) (fun b _ h=>h.1)).trans (j.mono fun b _ h=>⟨fun e=>by have:=d _ e; have:=h.2; omega,h.1.2⟩)).mono (fun b m h=>⟨h,m⟩)
