import Derived.Test.YtgemohlbjehmbaaGreatDoorF27
import Derived.Test.YtgemohlbjehmbaaGreatDoorF43
set_option linter.all false
set_option maxRecDepth 100000
set_option maxHeartbeats 16000000
namespace Go.Proofs.Zz
open Go.RowKit Go.Shelf
def qx(k:Nat):List Int:=(List.range k).map λ(i:Nat)=>(i:Int)
theorem OZ(k:Nat):qx (k+1)=qx k++[(k:Int)]:=by unfold qx; rw[QM,Qi]; rfl
theorem Gb(k:Nat):(qx k).length=k:=by simp[qx]
structure tY(n:Nat)(hv rs:List Int):Prop where
 sum:hv.length+rs.length=n
 sm:∀ x∈rs,0<=x/\x<(n:Int)
 off:∀ x∈rs,x ∉ hv
 nod:rs.Nodup
theorem tY.start(n:Nat):tY n [] (qx n):=⟨by simp[qx],λx b=>by
  obtain⟨k,a,rfl⟩:=QZ.1 b;rw[Q0]at a;omega,λx _=>by simp,by unfold qx; exact(List.pairwise_map.2 ((List.pairwise_lt_range (n:=n)).imp λh=>by omega))⟩
theorem tY.take{n:Nat}{hv rs:List Int}(h:tY n hv rs){k:Nat}(hk:k<rs.length):tY n (hv++[rs.getD k 0]) (rs.take k++rs.drop (k+1)):=by
 have e:rs.getD k 0=rs[k]:=by simp[List.getD,hk]
 have f:rs=rs.take k++rs[k]::rs.drop (k+1):=by simp
 have d:(rs.take k++rs.drop (k+1)).Sublist rs:=by grind
 have g:=h.nod;rw[f,List.nodup_append]at g;rw[e];refine⟨by simp; have:=h.sum; omega,λx b=>h.sm x (d.mem b),λx b a=>?_,d.nodup h.nod⟩;rcases ZK.1 a with a | a
 ·exact h.off x (d.mem b) a
 ·rw[Zy]at a;subst a;rcases ZK.1 b with b | b
  ·grind
  grind
structure amu(tN:TypeId)(ts:List af)(q:ae)(v:Value)(w w':World):Prop where
 plan:∃ ns ms hv us,ns.map bL=ms++qV q ms.length/\Rv ts q hv us ms/\hv.length=q.src.xs.length/\jm tN (λ_=>True) v ns w'
 below:Bw w w'
theorem aax(co:Option Addr)(cc:Nat)(ts:List af)(dv:Value)(q:ae)(lo:Option Addr)(lc:Nat)(l:List Int)(w:World)(hdv:∃ a m c,dv=.slice a m c)(H:AU co ts q w)(ok:Ok ts q)(h8:q.wh.length<=8)(h0:0<q.src.xs.length)(hI:aM w lo l)(hR:∀ x∈l,-9223372036854775808<=x/\x<=9223372036854775807)(hlo:∀ a,lo=some a->a.block<w.heap.size) :
  Calls Tryz.prog 11 #[.agg (caseA (.slice co ts.length cc) q dv),.slice lo l.length lc] w λe w'=>∃ v,e=.returned v/\amu 75 ts q v w w':=by
 obtain⟨d,aT,U,cZ⟩:=bn w (caseA (.slice co ts.length cc) q dv) 29;obtain⟨w2,eP,df,aU⟩:=bn d #[.slice lo l.length lc,.int .i64 0] 48;have dO:=Ql U hI;have bJ:Hid (aP d.heap.size lo lc l w2):=⟨⟨0,QK _,aU.cell 1⟩,aU.cell 0,aU.frozen 1,Ql df dO,λa ha=>by have:=hlo a ha; have:=U.size; omega⟩;have bK:=Zh (show ∀ a,lo=some a->a.block<d.heap.size from λa ha=>QH (hlo a ha) U.size);have HG:=Zh λ(x:World) (hx:Bw d x)=>cZ.of (hx.block _ cZ.lt);have aH:=Zh λ(x:World) (ss us:ai) (hx:Bw d x) (hs:ss.At x) (hu:us.At x)=>Il co cc ts q dv hdv ss us x (H.below (aF U hx)) hs hu h8;have pQ:=Zh λ(x:World) (n:Int) (hm:aP d.heap.size lo lc l x) (hn:0<n)=>XN d.heap.size lo lc l n x hm hn hR;have yC:=Zh λ(x:World) (base:Nat->Prop) (v:Value) (ns:List ah) (n:ah) (kind s:Int) (first:Bool) (hx:Bw d x) (ax:∀ i∈n.cl.xs,0<=i/\i<q.wh.length) (h:jm 75 base v ns x) (hl:ns.length<=800) (f:∀ b,x.heap.size<=b->base b) (hn:lT base v n x) (hkd:0<=kind/\kind<3) (hpn:bL n=nd 3 n.l n.r 0 n.cl.xs 0 []) (a b x' y:Int) (aC:(a,b)=Uj ts q.src.xs ((q.wh.getD (eD q.wh n.cl.xs).toNat lz).cs.getD 0 cz) s) (aG:(x',y)=if first=true then (a,b) else (b,a))=>Uk co cc ts dv q base v ns n kind s first x hdv (H.below (aF U hx)) ax h hl f hn hkd hpn ok.some a b x' y aC aG;have Be:=Zh ok;have Yf:=Zh (show 0<q.src.xs.length/\q.src.xs.length<=5/\q.wh.length<=8 from ⟨h0,H.five,h8⟩);have dP:=Zh U;have aI:=Zh df;obtain⟨N,hN⟩:=eY (q.src.xs.length);have C9:=Zh hN;obtain⟨x0,y0,x1,y1,z1,g0,x3,y3,z3,x4,y4,z4,x5,y5,z5,x6,z6,da,dm,dc,eQ⟩:∃ x0 y0 x1 y1 z1 g0 x3 y3 z3 x4 y4 z4 x5 y5 z5 x6 z6 da dm dc,caseA (.slice co ts.length cc) q dv=#[.slice co ts.length cc,(.slice x0 N y0),(.slice x1 y1 z1),(.bool q.group),(.slice x3 y3 z3),(.slice x4 y4 z4),(.slice x5 y5 z5),(.slice x6 q.ord.xs.length z6),.slice da dm dc]:=by obtain⟨da,dm,dc,rfl⟩:=hdv;rw[hN];exact⟨_,_,_,_,_,true,_,_,_,_,_,_,_,_,_,_,_,_,_,_,rfl⟩
 rw[eQ]at aT HG aH yC ⊢;obtain⟨OL,dh⟩:=eY (q.ord.xs.length);obtain⟨GR,WS⟩:=eY (q.group);have aJ:=Zh (XI dh WS);rw[<- dh,<- WS]at aT HG aH yC ⊢;clear eQ H ok h8 h0 hI hR hlo U df cZ aU dO hdv hN dh WS;go_enter Tryz.func11,Tryz.ntmps11;go_wp2;try rw[aT]
 try rw[eP]
 clear aT eP;go_loopw [6,7] (λv iv wr=>∃ k:Nat,k<=N/\iv=.int .i64 k/\Hid (wr.ownsRow w2.heap.size 3 1 v (qx k).length ((qx k).map (Value.int .i64)))/\Hid (Bw w2 wr)) (λ_ iv _=>N-(intOf iv).toNat)
 case atStart=>exact⟨0,QK _,rfl,Zu _ _ _ _,Qm _ _⟩
 case round=>
  obtain⟨k,hk,rfl,HO,oU⟩:=hrel;obtain⟨ra,rm,rc,rfl⟩:=Zk HO.out;have dQ:=aF aI.out oU.out;obtain⟨d0,d1,d2,d3,d4,d5,d6,d7,d8⟩:=(HG.out wr dQ).k9;clear dQ;by_cases T:k<N
  ·have dR:N<=5:=by rw[C9.out]; exact Yf.out.2.1
   have gq:=C9.out;obtain⟨v',w5,qA,pF,D,⟨va,vm,vc,rfl⟩,-⟩:=Ee wr w2.heap.size (.slice ra rm rc) (qx k) HO.out (by rw[Gb]; omega) oU.out.size (k:Int) 22;rw[<- OZ]at pF;have xY:=Zh pF;have jl:Hid (Bw w2 w5):=oU.out.trans (D.below oU.out.size (λb f e=>by have:=(Zj HO.out e).1; omega));clear pF D gq;go_wp2_with (first | (at_builtin; refine Zt rfl (.tmp 31) (.tmp 33) 22 rfl (.slice ra rm rc) (.slice (some (aD wr.heap.size 0)) 1 1) (.slice va vm vc) w5 rfl rfl qA ?_));clear qA;go_wp2;go_roundw
   case rel=>exact⟨k+1,by omega,by go_num,xY.out,jl.out⟩
   case measure=>simp[intOf]; omega
  ·obtain rfl:N=k:=by omega
   obtain⟨rs,qd,eT,eU,di⟩:=jR HO.out (by rw[Gb]; have:=Yf.out.2.1; have:=C9.out; omega);rw[qd];have g:Hid (qU 3 75 d.heap.size d.heap.size lo lc l (λb=>if b=d.heap.size then 1 else 0) [rs] (.slice none 0 0) (.slice none 0 0) (.slice none 0 0) [] [] [] wr):=by have aK:=oU.out.size;have aL:=aI.out.size;have bM:=Za (p:=(aD d.heap.size 0)) bJ.out.YH;have gu:aP d.heap.size lo lc l wr:=bJ.out.aeq (P:=λb=>b<w2.heap.size) (Q7 oU.out λb _ h=>h) (by show _<_; omega) (λa ha=>by have:=bK.out a ha; show _<_; omega);refine⟨by omega,λb f=>Qu (by show b≠_; have:d.heap.size<w2.heap.size:=bM; omega),λb f=>Qu (by omega),Qo rfl,bK.out,λ_ h2=>gu.aeq h2 (.inr (Qo rfl)) (λa ha=>.inl (Qu (by have:=bK.out a ha; omega))),λiv B _ h2=>(by rw[Zy]at B; subst B; exact bU.keep eU h2.size λb f e=>h2.block b f (Qu (by have:=di b e; have:d.heap.size<w2.heap.size:=bM; omega))),λiv B b e=>(by rw[Zy]at B; subst B; exact Qu (by have:=di b e; have:d.heap.size<w2.heap.size:=bM; omega)),λ_ _=>Zu _ _ _ _,λ_ _=>Zu _ _ _ _,λ_ _=>jm.nil _ _ _,λb e=>(by cases e),λb e=>(by cases e),λb e=>(by cases e)⟩
   have jo:Hid (Bw d wr):=aF aI.out oU.out;have BJ:Hid (tY N [] rs.xs):=by rw[eT]; exact tY.start N
   have aa:=Zh (Vf HO.out qd);obtain⟨ra,rc,z⟩:=rs;simp only[ai.val]at *;clear qd eT eU di HO bJ oU aI;go_wp2;clear d0 d1 d2 d3 d4 d5 d6 d7 d8 T;go_loopw [6,8,9,10,11] (λrv o h u lv wr=>∃ (rs:ai) (bS:Nat->Nat) (ns:List ah) (hv us:List Int),rv=rs.val/\Hid (rs.xs.length<=rs.cap)/\lv=.int .i64 ((ns.length:Int)-1)/\Hid (qU 3 75 d.heap.size d.heap.size lo lc l bS [rs] o h u ns hv us wr)/\Hid (Bw d wr)/\Hid (tY N hv rs.xs)/\Hid (Rv ts q hv us (ns.map bL))) (λrv _ _ _ _ _=>ayy rv)
   case atStart=>exact⟨⟨ra,rc,z⟩,_,[],[],[],rfl,aa.out,rfl,g.out,jo.out,BJ.out,Rv.nil ts q⟩
   case round=>
    clear g jo BJ aa;obtain⟨⟨ra,rc,z⟩,bS,ns,hv,us,rfl,aa,rfl,g,jo,BJ,Dv⟩:=hrel;obtain⟨oa,oc,rfl⟩:=g.out.out.now.slice;obtain⟨ha,hc,rfl⟩:=nY g.out.Pw.now;obtain⟨ua,uc,rfl⟩:=nY g.out.use.now;simp only[ai.val];by_cases T:0<z.length
    ·have j:=pQ.out wr (z.length:Int) g.out.mak.now (by omega);go_wp2_with fail;refine j.mono ?_;rintro e w3 ⟨k',rfl,gJ,gK,eX,av⟩;obtain⟨k,rfl⟩:∃ k:Nat,k' = (k:Int):=⟨k'.toNat,by omega⟩
     have E:k<z.length:=by omega
     have dS:Hid (Bw d w3):=jo.out.trans (av.below jo.out.size λb f=>by show b≠_; omega);have O:=Zh (g.out.next eX av);obtain⟨s,hs,eZ⟩:∃ s:Nat,z.getD k 0=(s:Int)/\s<N:=by have:=BJ.out.sm (z.getD k 0) (by simp[List.getD,E]);exact⟨(z.getD k 0).toNat,by omega,by omega⟩
     clear j eX av g jo gJ gK;obtain⟨rb,rf,e,ax⟩:=(O.out.rest _ (Zy.2 rfl)).now.1.2 k E;dsimp only at e ax;subst e;rw[hs]at ax;have dR:N<=5:=by rw[C9.out]; exact Yf.out.2.1
     have qA:z.length<=5:=by have:=BJ.out.sum; omega
     have aL:=ayw rb rf z.length rc k (Q6 (Nat.le_of_lt E) aa.out);obtain⟨A,hA,aK⟩:=ayx rb rf z.length rc k E aa.out;obtain⟨na,nc,w4,ay,yL,dn,fe,dw⟩:=amt w3.drew rb rf z (Ql ((Qm _ _).drew) (O.out.rest _ (Zy.2 rfl)).now.1) ((O.out.rest _ (Zy.2 rfl)).now.2.1 _ rfl) k E qA A (rc-(k+1)) hA;obtain⟨nx,j⟩:=eY (z.take k++z.drop (k+1));rw[<- j]at ay yL dn dw;have BO:=Zh j;clear j hA;generalize z.length-(k+1)=m2 at aK ay;generalize rc-(k+1)=c2 at aK ay;have aN:=Zh (XI yL (XI dn dw));have nH:=Zh fe;clear yL dn dw fe;have gZ:IntKind.i64.wrap ((k:Int)+1)=(k:Int)+1:=by rw[IntKind.wrap_i64]; omega
     go_upto_region 14 with fail;refine wH w3 λhS=>?_;refine wt 0 (.slice (some (aD rb rf)) z.length rc) hS ?_;refine wt 1 (.int .i64 (k:Int)) hS ?_;refine wt 2 (.int .i64 (k:Int)) hS ?_;refine wt 3 (.slice (some (aD rb rf)) k k) hS ?_;refine wt 4 (.slice (some (aD rb rf)) z.length rc) hS ?_;refine wt 5 (.int .i64 (k:Int)) hS ?_;refine wt 6 (.int .i64 ((k:Int)+1)) hS ?_;refine wt 7 (.slice (some A) m2 c2) hS ?_;refine wR 8 λK hK=>?_;refine Xc (by rfl) _ _ _ (by rfl) (.slice (some (aD rb rf)) k k) (.slice (some A) m2 c2) (.slice na nx.length nc) w4 (by kernel_rfl) (by kernel_rfl) ay ?_;refine oT hK hS nH.out λhS=>?_;clear hK K;refine wR 9 λK hK=>?_;go_simp;refine hK.out _ _ hS λhS=>?_;clear hK K;refine wD ?_;try simp only[pU]
     have bN:=(Qm w3.heap.size w3).drew;have Cg:Bw w3 w4:=bN.trans (nH.out.mono bN.size);have aO:=Zh ((O.out.below Cg).left (gz:=[⟨na,nc,nx⟩]) λiv B=>by
      rw[Zy]at B;subst B;refine .inr ⟨aN.out.1,λb f=>?_⟩;rcases aN.out.2.2 b f with e | e
      ·rw[e];exact O.out.rc _ (Zy.2 rfl) rb rfl
      ·exact O.out.fresh b e)
     have bO:Hid (Bw d w4):=aF dS.out Cg;have dU:=Zh aN.out.2.1;have X6:Hid ((s:Int) ∉ hv/\tY N (hv++[(s:Int)]) nx):=by have C:=BJ.out.take E;rw[hs,<- BO.out]at C;refine⟨?_,C⟩;rw[<- hs];exact BJ.out.off _ (by simp[List.getD,E])
     have ib:hv.length<=5:=by have:=BJ.out.sum; omega
     have gy:ns.length<=25:=by have:=Dv.out.few; rw[QQ]at this; omega
     have ig:us.length<=8:=Q6 (Iw Dv.out.usm Dv.out.arQ) Yf.out.2.2;have dV:Hid (nx.length<z.length):=by show _<_; rw[BO.out]; simp; omega
     clear hS bN Cg aN nH O dS ax ay aL aK BJ E hs BO qA T aa;obtain⟨V,W,w5,qA,dx⟩:=qR.one aO.out.out.now (by omega) ⟨1,0,0,(s:Int),⟨none,0,[]⟩,0,⟨none,0,[]⟩⟩ (λl hl=>by rcases hl with rfl | rfl <;> exact F8 _ _);obtain⟨⟨dz,e5,G⟩,D,pF⟩:=dx;simp only[ah.cells,ai.val,Xa]at qA;obtain⟨J,Lp⟩:∃ x,x=ns++dz:=⟨_,rfl⟩
     rw[<- Lp]at G;have Z:Hid (J.map bL=ns.map bL++[nd 1 0 0 (s:Int) [] 0 []]/\J.length=ns.length+1):=⟨by rw[Lp,Qi,e5]; rfl,by have:=congrArg List.length e5; simp at this; rw[Lp]; simp; omega⟩;obtain⟨c5,UT⟩:=(aO.out.outs G D pF).ex;have aQ:Hid (Bw d w5):=bO.out.trans (D.below bO.out.size λb f=>aO.out.aer f);clear e5 G D pF Lp aO bO;obtain⟨w6,mE,aV,fo⟩:=bn w5 #[.int .i64 (s:Int)] 3;have Q:=aH.out w6 ⟨some (aD w5.heap.size 0),1,[(s:Int)]⟩ ⟨ua,uc,us⟩ (aF aQ.out aV) (ai2 fo).1 (amo (UT.out.below aV).use.now (by omega)).1;simp only[ai.val,XU]at Q;obtain⟨d0,d1,d2,d3,d4,d5,d6,d7,d8⟩:=(HG.out w5 aQ.out).k9;have vo:=Zh aV;clear aV fo;go_wp2_with (first | (at_builtin; refine Zt rfl (.tmp 55) (.tmp 58) 43 rfl (.slice oa ns.length oc) (.slice (some (aD w4.heap.size 0)) 1 1) (.slice V (ns.length+1) W) w5 rfl rfl qA ?_));refine Q.mono ?_;rintro e w7 ⟨⟨wa,wq,I⟩,rfl,fq,aW,jD,fu,fw⟩;have bP:=aF vo.out jD;have aR:=Zh ((UT.out.below bP).left (gz:=[⟨na,nc,nx⟩,⟨wa,wq,I⟩]) λiv B=>by
      rcases Zq.1 B with e | e
      ·exact .inl (Zy.2 e)
      ·rw[Zy]at e;subst e;exact .inr ⟨aW,λb f=>UT.out.fresh b (Q6 vo.out.size (fu b f))⟩)
     have bQ:Hid (I=gU ts q [(s:Int)] us):=fq;have gB:Hid (I.length<=wq):=fw;have ik:I.length<=8:=by rw[bQ.out]; exact Q6 (yV ..) Yf.out.2.2
     have bR:Hid (Bw d w7):=aF aQ.out bP;obtain⟨v',w8,fA,wP,oW,-,fB⟩:=aes w7 (.slice ua us.length uc) us aR.out.use.now wa wq I aW.1 aW.2.2 (by omega);obtain⟨Vl,aX⟩:∃ x,x=us++I:=⟨_,rfl⟩;rw[<- aX]at wP;obtain⟨va,vc,rfl⟩:=nY wP;have il:Vl.length<=16:=by rw[aX,QP]; omega
     obtain⟨c8,aj⟩:=(aR.out.used wP oW fB).ex;have aS:Hid (Bw d w8):=bR.out.trans (oW.below bR.out.size λb f=>aR.out.arN f);have bT:=Zh aX;clear fq aW jD fu fw bP aR bR wP oW fB aX Q qA d0 d1 d2 d3 d4 d5 d6 d7 d8 UT vo mE aQ;go_upto_if 70 with (first | (at_builtin; refine Zt rfl (.tmp 65) (.tmp 66) 22 rfl (.slice ua us.length uc) (.slice wa I.length wq) (.slice va Vl.length vc) w8 rfl rfl fA ?_));clear fA;go_cut [8] from 35 to 118 (λo wx=>∃ (oa:Option Addr) (oc:Nat) (n1:List ah) (c:Nat->Nat),o=.slice oa n1.length oc/\Hid (qU 3 75 d.heap.size d.heap.size lo lc l c [⟨na,nc,nx⟩,⟨wa,wq,I⟩] (.slice oa n1.length oc) (.slice ha hv.length hc) (.slice va Vl.length vc) n1 hv Vl wx)/\Hid (Bw d wx)/\Hid (n1.map bL=ns.map bL++[nd 1 0 0 (s:Int) [] 0 []]++(if I=[] then [] else [nd 2 ns.length 0 0 I 0 []])))
     case first=>
      by_cases hz:I=[]
      ·have h0:I.length=0:=by rw[hz]; rfl
       go_wp2;go_meet
       case rel=>exact⟨V,W,J,c8,by rw[Z.out.2],by have:=Z.out.2; rw[this]; exact aj.out,aS.out,by show _=_; rw[Qo hz,Xb]; exact Z.out.1⟩
      ·have h0:0<I.length:=List.length_pos_iff.2 hz;have dW:=aj.out.lists (iv:=⟨wa,wq,I⟩) (by simp) gB.out 2 (ns.length:Int) 0 0 0;obtain⟨az,aA,w9,aY,gL⟩:=qR.one aj.out.out.now (by rw[Z.out.2]; omega) ⟨2,(ns.length:Int),0,0,⟨wa,wq,I⟩,0,⟨none,0,[]⟩⟩ dW;obtain⟨⟨aZ,e9,fC⟩,LG,fD⟩:=gL;simp only[ah.cells,ai.val,Xa]at aY;have dX:Hid (∃ c,qU 3 75 d.heap.size d.heap.size lo lc l c [⟨na,nc,nx⟩,⟨wa,wq,I⟩] (.slice az (J.length+1) aA) (.slice ha hv.length hc) (.slice va Vl.length vc) (J++aZ) hv Vl w9/\Bw d w9/\(J++aZ).length=J.length+1/\(J++aZ).map bL=ns.map bL++[nd 1 0 0 (s:Int) [] 0 []]++[nd 2 ns.length 0 0 I 0 []]):=⟨_,aj.out.outs fC LG fD,aS.out.trans (LG.below aS.out.size λb f=>aj.out.aer f),by have:=congrArg List.length e9; simp at this; simp; omega,by rw[Qi,e9,Z.out.1]; rfl⟩
       have dY:wrap64 ((ns.length:Int)+1-1)=(ns.length:Int):=by unfold wrap64; omega
       rw[Z.out.2]at aY dX;clear dW e9 fC LG fD;go_wp2_with (first | (at_builtin; refine Zt rfl (.tmp 71) (.tmp 77) 43 rfl (.slice V (ns.length+1) W) (.slice (some (aD w8.heap.size 0)) 1 1) (.slice az (ns.length+1+1) aA) w9 rfl rfl aY ?_));clear aY;go_wp2;go_meet
       case rel=>
        obtain⟨c,g1,g2,g3,g4⟩:=dX.out;exact⟨az,aA,J++aZ,c,by rw[g3],by rw[g3]; exact g1,g2,by show _=_; rw[Qu hz]; exact g4⟩
     case rest=>
      clear aj aS Z;obtain⟨az,aA,n1,c9,rfl,bf,fE,dA⟩:=hcut;have iq:ns.length<n1.length/\n1.length<=ns.length+2:=by have:=congrArg List.length dA.out;simp only[QP,QQ,XU]at this;split at this <;> simp at this <;> omega
      obtain⟨wA,gM,bg,fF⟩:=bn wc #[.int .i64 (s:Int)] 3;obtain⟨v',wB,aB,bq,dB,-,fG⟩:=aes wA (.slice ha hv.length hc) hv (bf.out.below bg).Pw.now (some (aD wc.heap.size 0)) 1 [(s:Int)] (ai2 fF).1 (λe=>by cases e) (by simp; omega);obtain⟨t,bu⟩:∃ x,x=hv++[(s:Int)]:=⟨_,rfl⟩;rw[<- bu]at bq X6;obtain⟨dC,dD,rfl⟩:=nY bq;simp only[XU]at aB;obtain⟨cB,Gt⟩:=((bf.out.below bg).haves bq dB fG).ex;have Ot:Hid (Bw d wA):=aF fE.out bg;have CR:Hid (Bw d wB):=Ot.out.trans (dB.below Ot.out.size λb f=>bf.out.ayu f);have dY:wrap64 ((n1.length:Int)-1)=(n1.length:Int)-1:=by unfold wrap64; omega
      have bV:=Zh bu;have iw:t.length<=6:=by rw[bu,QP,XU]; omega
      clear bg fF bq dB fG bu bf fE Ot;by_cases gp:ns.length=0
      ·have bW:¬ (ns.length:Int)-1 ≥ 0:=by omega
       go_wp2_with (first | (at_builtin; refine Zt rfl (.tmp 82) (.tmp 84) 22 rfl (.slice ha hv.length hc) (.slice (some (aD wc.heap.size 0)) 1 1) (.slice dC t.length dD) wB rfl rfl aB ?_));clear aB;go_wp2;go_roundw
       case rel=>
        refine⟨⟨na,nc,nx⟩,cB,n1,t,Vl,rfl,dU.out,rfl,Gt.out.left λiv B=>.inl (by rw[Zy]at B; rw[B]; simp),CR.out,X6.out.2,?_⟩;show Rv ts q t Vl (n1.map bL);rw[bV.out,bT.out];exact Dv.out.first Be.out (by rw[<- C9.out]; exact eZ) (Dv.out.zero.1 (by rw[QQ]; exact gp)) bQ.out (by rw[dA.out,QQ])
       case measure=>exact dV.out
      ·have bW:(ns.length:Int)-1 ≥ 0:=by omega
       have Q:=aH.out wB ⟨dC,dD,t⟩ ⟨va,vc,Vl⟩ CR.out (amo Gt.out.Pw.now (by omega)).1 (amo Gt.out.use.now (by omega)).1;simp only[ai.val]at Q;obtain⟨d0,d1,d2,d3,d4,d5,d6,d7,d8⟩:=(HG.out wB CR.out).k9;go_wp2_with (first | (at_builtin; refine Zt rfl (.tmp 82) (.tmp 84) 22 rfl (.slice ha hv.length hc) (.slice (some (aD wc.heap.size 0)) 1 1) (.slice dC t.length dD) wB rfl rfl aB ?_));refine Q.mono ?_;rintro e wC ⟨⟨fa,fc,fr⟩,rfl,fH,fI,dE,fJ,fK⟩;obtain⟨wD,fM,dF,TC⟩:=bn wC #[.int .i64 3,.int .i64 ((ns.length:Int)-1),.int .i64 ((n1.length:Int)-1),.int .i64 0,.slice fa fr.length fc,.int .i64 0,.slice none 0 0] 75;have bX:Hid (fr=gU ts q t Vl):=fH;have gD:Hid (fr.length<=fc):=fK;have iy:fr.length<=8:=by rw[bX.out]; exact Q6 (yV ..) Yf.out.2.2
       obtain⟨cD,ak,bz⟩:=(((Gt.out.below dE).left (gz:=[⟨na,nc,nx⟩,⟨fa,fc,fr⟩]) λiv B=>by
        rcases Zq.1 B with e | e
        ·exact .inl (by rw[e]; simp)
        ·rw[Zy]at e;subst e;exact .inr ⟨fI,λb f=>Gt.out.fresh b (fJ b f)⟩).box dF TC.lt).ex5 (nu rfl)
       have bY:Hid (Bw d wD):=aF CR.out (aF dE dF);have bZ:=Zh TC;have dZ:=Zh fM;have j:=pQ.out wD 2 bz.out.mak.now (by omega);clear Q fH fI dE fJ fK dF TC fM Gt CR d0 d1 d2 d3 d4 d5 d6 d7 d8 aB gM;go_upto_region 24 with fail;rw[dZ.out];clear dZ;go_wp2_with fail;refine j.mono ?_;rintro e wE ⟨k1,rfl,fO,gN,fP,bA⟩;have ed:wC.heap.size≠d.heap.size:=λe=>by have C:=bz.out.mb1; rw[<- e,ak.out]at C; cases C
       have lY:=Zh (bz.out.next fP bA);have uY:=Zh (bZ.out.of (bA.block _ bZ.out.lt ed));have jF:Hid (Bw d wE):=bY.out.trans (bA.below bY.out.size λb f=>by show b≠_; omega);obtain⟨F,hF⟩:∃ F:Bool,(k1==1)=F:=⟨_,rfl⟩;obtain⟨L,R,dG⟩:∃ L R:Int,Hid ((L,R)=if F=true then ((n1.length:Int)-1,(ns.length:Int)-1) else ((ns.length:Int)-1,(n1.length:Int)-1)):=⟨_,_,rfl⟩;clear j fP bA ed bz bZ bY;go_upto_if 98 with fail;clear hF fO gN;go_cut [] from 35 to 118 (λwx=>Hid (GB wx wC.heap.size 75 #[.int .i64 3,.int .i64 L,.int .i64 R,.int .i64 0,.slice fa fr.length fc,.int .i64 0,.slice none 0 0])/\Hid (Kept (λb=>b≠wC.heap.size) wE wx))
       case first=>
        cases F with
        | true =>
         have y1:=uY.out.frozen 1;have y2:=uY.out.frozen 2;have k1:=uY.out.cell 1;have k2:=uY.out.cell 2;simp only[XO,XQ,XP]at k1 k2;go_wp2;go_meet
         case rel=>
          obtain⟨rfl,rfl⟩:L=(n1.length:Int)-1/\R=(ns.length:Int)-1:=by have e:=dG.out; simpa using e
          exact⟨(uY.out.set 1 _).set 2 _,(Zf _ _ _ (λh=>h rfl)).trans (Zf _ _ _ (λh=>h rfl))⟩
        | false =>
         go_wp2;go_meet
         case rel=>
          obtain⟨rfl,rfl⟩:L=(ns.length:Int)-1/\R=(n1.length:Int)-1:=by have e:=dG.out; simpa using e
          exact⟨uY.out,Q5 _ _⟩
       case rest=>
        obtain⟨bB,dH⟩:=hcut;have S:=Zh (lY.out.put ak.out dH.out);have cu:Hid (Bw d wc):=jF.out.trans (dH.out.below jF.out.size λb f e=>by have C:=lY.out.low b f; rw[e,ak.out]at C; cases C);have cK:=(S.out.rest ⟨fa,fc,fr⟩ (by simp)).now;obtain⟨v',wG,fQ,bC,bD,-,fT⟩:=aes wc (.slice va Vl.length vc) Vl S.out.use.now fa fc fr cK.1 cK.2.2 (by omega);obtain⟨bE,dI⟩:∃ x,x=Vl++fr:=⟨_,rfl⟩;rw[<- dI]at bC;obtain⟨ga,gc,rfl⟩:=nY bC;obtain⟨cG,dJ⟩:=(S.out.used bC bD fT).ex;have ek:Hid (wC.heap.size≠d.heap.size):=λe=>by have C:=S.out.mb1; rw[<- e,ak.out]at C; cases C
        have Sk:Hid (Bw d wG):=cu.out.trans (bD.below cu.out.size λb f=>S.out.arN f);have cO:=Zh (bB.out.of (bD.block _ bB.out.lt (λe=>by have C:=S.out.uc _ e; rw[ak.out]at C; cases C)));have gF:=Zh dI;have eu:=bB.out.cell 4;simp only[XO,XQ,XP]at eu;have j:=pQ.out wG 3 dJ.out.mak.now (by omega);clear lY uY jF dH cK bC bD fT dI S cu bB ak;go_wp2_with (first | (at_builtin; refine Zt rfl (.tmp 103) (.tmp 105) 22 rfl (.slice va Vl.length vc) (.slice fa fr.length fc) (.slice ga bE.length gc) wG rfl rfl fQ ?_));refine j.mono ?_;rintro e dK ⟨k3,rfl,fU,bI,fV,bF⟩;have ag:=Zh (dJ.out.next fV bF);have eB:=cO.out.of (bF.block _ cO.out.lt ek.out);have au:Hid (Bw d dK):=Sk.out.trans (bF.below Sk.out.size λb f=>by show b≠_; omega);obtain⟨d0,d1,d2,d3,d4,d5,d6,d7,d8⟩:=(HG.out dK au.out).k9;obtain⟨m0,m1,gP,m3,m4,m5,m6⟩:=eB.k7;obtain⟨a,b,aC⟩:∃ a b,(a,b)=Uj ts q.src.xs ((q.wh.getD (eD q.wh fr).toNat lz).cs.getD 0 cz) (s:Int):=⟨_,_,rfl⟩;obtain⟨X,Y,aG⟩:∃ X Y:Int,(X,Y)=if F=true then (a,b) else (b,a):=⟨_,_,rfl⟩;have T:=yC.out dK (λb=>cG b=0) (.slice az n1.length aA) n1 ⟨3,L,R,0,⟨fa,fc,fr⟩,0,⟨none,0,[]⟩⟩ k3 (s:Int) F au.out (λi B=>by
         have eF:i∈fr:=B;rw[bX.out]at eF;exact(XZ.1 eF).1) ag.out.out.now (by omega) ag.out.fresh (ag.out.lists (by simp) gD.out 3 L R 0 0) ⟨fU,bI⟩ rfl a b X Y aC aG
        simp only[ah.cells,ai.val,Xa]at T;have eG:=Zh (XI aC aG);clear j fV bF eB cO dJ Sk ek fQ fU bI aC aG eu;go_wp2_with fail;refine T.mono ?_;rintro e wI ⟨v',rfl,hL⟩;obtain⟨⟨gQ,eI,bG⟩,dL,dM⟩:=hL;obtain⟨ia,ic,rfl⟩:=bG.slice;obtain⟨nI,bH⟩:∃ x,x=n1++gQ:=⟨_,rfl⟩;rw[<- bH]at bG dM;obtain⟨cI,gT⟩:=(ag.out.outs bG dL dM).ex;have gG:Hid (Bw d wI):=au.out.trans (dL.below au.out.size λb f=>ag.out.aer f);have zW:Hid (Rv ts q t bE (nI.map bL)):=by
         show Rv ts q t bE (nI.map bL);rw[bH,Qi,eI,gF.out,bT.out,bV.out];have hj:=Dv.out.join Be.out (by rw[<- C9.out]; exact eZ) X6.out.1 (λe=>gp (by have:=Dv.out.zero.2 e; rwa [QQ]at this)) bQ.out (n1:=n1.map bL) (by rw[dA.out,QQ]) (fr:=fr) (by rw[bX.out,bV.out,bT.out]) k3 F eG.out.1 (l:=L) (r:=R) (x:=X) (y:=Y) (by
          have C:=dG.out;have h2:=eG.out.2;rw[QQ,QQ]
          cases F with
          | true => cases C; cases h2; rfl
          | false => cases C; cases h2; rfl)
         rw[QQ]at hj;exact hj
        have iA:nI.length<=30:=by have C:=zW.out.few;rw[QQ]at C;omega
        have gY:wrap64 ((nI.length:Int)-1)=(nI.length:Int)-1:=by unfold wrap64; omega
        rw[<- bH];clear T eI bG dL dM bH ag au d0 d1 d2 d3 d4 d5 d6 d7 d8 m0 m1 gP m3 m4 m5 m6;go_wp2;go_roundw
        case rel=>exact⟨⟨na,nc,nx⟩,cI,nI,t,bE,rfl,dU.out,rfl,gT.out.left λiv B=>.inl (by rw[Zy]at B; rw[B]; simp),gG.out,X6.out.2,zW.out⟩
        case measure=>exact dV.out
    ·have iB:z.length=0:=by omega
     have eH:hv.length+z.length=N:=BJ.out.sum;have dR:N<=5:=by rw[C9.out]; exact Yf.out.2.1
     have gy:ns.length<=25:=by have:=Dv.out.few; rw[QQ]at this; omega
     obtain⟨K,hK⟩:∃ K:Int,(if GR=true then 7 else 9)=K:=⟨_,rfl⟩;obtain⟨V,W,w5,qA,dx⟩:=qR.one g.out.out.now (by omega) ⟨K,(ns.length:Int)-1,0,0,⟨none,0,[]⟩,0,⟨none,0,[]⟩⟩ (λl hl=>by rcases hl with rfl | rfl <;> exact F8 _ _);obtain⟨⟨dz,e5,G⟩,D,pF⟩:=dx;simp only[ah.cells,ai.val,Xa]at qA;obtain⟨J,Lp⟩:∃ x,x=ns++dz:=⟨_,rfl⟩
     rw[<- Lp]at G;have Z:Hid (J.map bL=ns.map bL++[nd (if q.group then 7 else 9) ((ns.length:Int)-1) 0 0 [] 0 []]/\J.length=ns.length+1):=⟨by rw[Lp,Qi,e5,<- aJ.out.2,hK]; rfl,by have:=congrArg List.length e5; simp at this; rw[Lp]; simp; omega⟩;have Uh:Bw d w5:=jo.out.trans (D.below jo.out.size λb f=>g.out.aer f);have zW:Hid (Rv ts q hv us (ns.map bL)/\hv.length=q.src.xs.length):=⟨Dv.out,by rw[<- C9.out]; omega⟩;obtain⟨gV,gW,w6,dN,gX⟩:=qR.one G (by rw[Z.out.2]; omega) ⟨10,(ns.length:Int),0,0,⟨none,0,[]⟩,0,⟨none,0,[]⟩⟩ (λl hl=>by rcases hl with rfl | rfl <;> exact F8 _ _);obtain⟨⟨fZ,e6,gm⟩,uq,Yh⟩:=gX;simp only[ah.cells,ai.val,Xa]at dN;rw[Z.out.2]at dN;have gH:Hid (OL=0->J.map bL=ns.map bL++qV q (ns.map bL).length):=λh=>by rw[Z.out.1]; unfold qV; rw[Qo (Xt.1 (by rw[<- aJ.out.1]; exact h)),QQ]
     have gI:Hid (¬ OL=0->(J++fZ).map bL=ns.map bL++qV q (ns.map bL).length):=λh=>by rw[Qi,e6,Z.out.1]; unfold qV; rw[Qu (show ¬ q.ord.xs=[] from λe=>h (by rw[aJ.out.1,e]; rfl)),QQ,List.append_assoc]; rfl
     have xY:=Zh (G.into (M:=λ_=>True) λ_ _ _ _ _ _ _ _=>trivial);have eO:=Zh (gm.into (M:=λ_=>True) λ_ _ _ _ _ _ _ _=>trivial);rw[Z.out.2]at eO;have jl:=Zh (aF dP.out Uh);have vo:Hid (Bw w w6):=jl.out.trans (uq.below jl.out.size λb f e=>by
      have aL:=dP.out.size;rcases pF with h | ⟨c,h,hc⟩
      ·exact g.out.aer (QH f aL) (h ▸ e)
      ·have h2:=jo.out.size;rw[h]at e;have:c=b:=by simpa using e
       omega)
     have dY:wrap64 ((ns.length:Int)+1-1)=(ns.length:Int):=by unfold wrap64; omega
     obtain⟨d0,d1,d2,d3,d4,d5,d6,d7,d8⟩:=(HG.out wr jo.out).k9;obtain⟨b0,b1,b2,b3,b4,b5,b6,b7,b8⟩:=(HG.out w5 Uh).k9;clear eH e5 G D pF Lp Uh g jo BJ Dv e6 gm uq Yh Z aJ;cases GR
     all_goals
      simp only[if_true,if_false,reduceCtorEq]at hK;subst hK;by_cases ho:OL=0
      ·have hz:¬ (OL:Int) > 0:=by omega
       go_wp2_with (first | (at_builtin; refine Zt rfl (.tmp 122) (.tmp 126) 43 rfl (.slice oa ns.length oc) (.slice (some (aD wr.heap.size 0)) 1 1) (.slice V (ns.length+1) W) w5 rfl rfl qA ?_));go_wp2;go_ret;exact⟨_,rfl,⟨J,ns.map bL,hv,us,gH.out ho,zW.out.1,zW.out.2,xY.out⟩,jl.out⟩
      ·have hz:(OL:Int) > 0:=by omega
       go_wp2_with (first | (at_builtin; first | refine Zt rfl (.tmp 122) (.tmp 126) 43 rfl (.slice oa ns.length oc) (.slice (some (aD wr.heap.size 0)) 1 1) (.slice V (ns.length+1) W) w5 rfl rfl qA ?_ | refine Zt rfl (.tmp 133) (.tmp 138) 43 rfl (.slice V (ns.length+1) W) (.slice (some (aD w5.heap.size 0)) 1 1) (.slice gV (ns.length+1+1) gW) w6 rfl rfl dN ?_));go_wp2;go_ret;exact⟨_,rfl,⟨J++fZ,ns.map bL,hv,us,gI.out ho,zW.out.1,zW.out.2,eO.out⟩,vo.out⟩
