import Derived.Test.YtjndadibondgbaaGreatDoorL28
import Derived.Test.YtjndadibondgbaaGreatDoorL41
set_option linter.all false
set_option maxRecDepth 100000
set_option maxHeartbeats 16000000
namespace Go.Proofs.Zz
open Go.RowKit Go.Shelf
def ou(k:Nat):List Int:=(List.range k).map fun (i:Nat)=>(i:Int)
theorem Oc(k:Nat):ou (k+1)=ou k++[(k:Int)]:=by unfold ou; rw[Xa,Qn]; rfl
theorem Ei(k:Nat):(ou k).length=k:=by simp[ou]
structure rX(n:Nat)(hv rs:List Int):Prop where
 sum:hv.length+rs.length=n
 sm:∀ x∈rs,0<=x/\x<(n:Int)
 off:∀ x∈rs,x ∉ hv
 nod:rs.Nodup
theorem rX.start(n:Nat):rX n [] (ou n):=⟨by simp[ou],fun x b=>by
  obtain⟨k,a,rfl⟩:=ZU.1 b;rw[Xm]at a;omega,fun x _=>by simp,by unfold ou; exact(List.pairwise_map.2 ((List.pairwise_lt_range (n:=n)).imp fun h=>by omega))⟩
theorem rX.take{n:Nat}{hv rs:List Int}(h:rX n hv rs){k:Nat}(hk:k<rs.length):rX n (hv++[rs.getD k 0]) (rs.take k++rs.drop (k+1)):=by
 have e:rs.getD k 0=rs[k]:=by simp[List.getD,hk]
 have g:rs=rs.take k++rs[k]::rs.drop (k+1):=by rw[List.getElem_cons_drop,ZQ]
 have d:(rs.take k++rs.drop (k+1)).Sublist rs:=by
  conv=>rhs; rw[g]
  exact List.Sublist.append_left (List.sublist_cons_self _ _) _
 have f:=h.nod;rw[g,List.nodup_append]at f;rw[e];refine⟨by simp; have:=h.sum; omega,fun x a=>h.sm x (d.mem a),fun x a b=>?_,d.nodup h.nod⟩;rcases Zx.1 b with b | b
 ·exact h.off x (d.mem a) b
 ·rw[Zw]at b;subst b;rcases Zx.1 a with a | a
  ·exact f.2.2 _ a _ List.mem_cons_self rfl
  ·exact(List.nodup_cons.1 f.2.1).1 a
structure aiO(tN:TypeId)(ts:List af)(q:ae)(v:Value)(w w':World):Prop where
 plan:∃ ns ms hv us,ns.map bU=ms++jL q ms.length/\Rv ts q hv us ms/\hv.length=q.src.xs.length/\fJ tN (fun _=>True) v ns w'
 below:Bw w w'
theorem Yg(co:Option Addr)(cc:Nat)(ts:List af)(dv:Value)(q:ae)(lo:Option Addr)(lc:Nat)(l:List Int)(w:World)(hdv:∃ a m c,dv=.slice a m c)(H:zg co ts q w)(ok:Ok ts q)(h8:q.wh.length<=8)(h0:0<q.src.xs.length)(hI:aI w lo l)(hR:∀ x∈l,-9223372036854775808<=x/\x<=9223372036854775807)(hlo:∀ a,lo=some a->a.block<w.heap.size) :
  Calls Tryz.prog 6 #[.agg (caseA (.slice co ts.length cc) q dv),.slice lo l.length lc] w fun e w'=>∃ v,e=.returned v/\aiO 36 ts q v w w':=by
 obtain⟨d,aT,W,cO⟩:=aR w (caseA (.slice co ts.length cc) q dv) 29;obtain⟨w2,eQ,cZ,aU⟩:=aR d #[.slice lo l.length lc,.int .i64 0] 46;have dQ:=Qt W hI;have bJ:Hid (aH d.heap.size lo lc l w2):=⟨⟨0,Zf _,aU.cell 1⟩,aU.cell 0,aU.frozen 1,Qt cZ dQ,fun a ha=>by have:=hlo a ha; have:=W.size; omega⟩
 have bK:=Zh (show ∀ a,lo=some a->a.block<d.heap.size from fun a ha=>QT (hlo a ha) W.size);have HG:=Zh fun (x:World) (hx:Bw d x)=>cO.of (hx.block _ cO.lt)
 have aK:=Zh fun (x:World) (ss J:aa) (hx:Bw d x) (hs:ss.At x) (hu:J.At x)=>FW co cc ts q dv hdv ss J x (H.below (aC W hx)) hs hu h8
 have KO:=Zh fun (x:World) (n:Int) (hm:aH d.heap.size lo lc l x) (hn:0<n)=>ZJ d.heap.size lo lc l n x hm hn hR
 have bL:=Zh fun (x:World) (base:Nat->Prop) (v:Value) (ns:List ah) (n:ah) (kind s:Int) (first:Bool) (hx:Bw d x) (ay:∀ i∈n.cl.xs,0<=i/\i<q.wh.length) (h:fJ 36 base v ns x) (hl:ns.length<=800) (f:∀ b,x.heap.size<=b->base b) (hn:kD base v n x) (hkd:0<=kind/\kind<3) (hpn:bU n=nd 3 n.l n.r 0 n.cl.xs 0 []) (a b x' y:Int) (aG:(a,b)=WU ts q.src.xs ((q.wh.getD (dZ q.wh n.cl.xs).toNat lz).cs.getD 0 cz) s) (aJ:(x',y)=if first=true then (a,b) else (b,a))=>Ta co cc ts dv q base v ns n kind s first x hdv (H.below (aC W hx)) ay h hl f hn hkd hpn ok.some a b x' y aG aJ
 have Ck:=Zh ok;have Q:=Zh (show 0<q.src.xs.length/\q.src.xs.length<=5/\q.wh.length<=8 from ⟨h0,H.five,h8⟩);have dR:=Zh W;have aL:=Zh cZ;obtain⟨N,hN⟩:=eY (q.src.xs.length)
 have qF:=Zh hN;obtain⟨x0,y0,x1,y1,z1,g0,x3,y3,z3,x4,y4,z4,x5,y5,z5,x6,z6,da,dm,dc,eT⟩:∃ x0 y0 x1 y1 z1 g0 x3 y3 z3 x4 y4 z4 x5 y5 z5 x6 z6 da dm dc,caseA (.slice co ts.length cc) q dv=#[.slice co ts.length cc,(.slice x0 N y0),(.slice x1 y1 z1),(.bool q.group),(.slice x3 y3 z3),(.slice x4 y4 z4),(.slice x5 y5 z5),(.slice x6 q.ord.xs.length z6),.slice da dm dc]:=by
  obtain⟨da,dm,dc,rfl⟩:=hdv;rw[hN];exact⟨_,_,_,_,_,true,_,_,_,_,_,_,_,_,_,_,_,_,_,_,rfl⟩
 rw[eT]at aT HG aK bL ⊢;obtain⟨OL,df⟩:=eY (q.ord.xs.length)
 obtain⟨GR,dh⟩:=eY (q.group)
 have aM:=Zh (XX df dh);rw[<- df,<- dh]at aT HG aK bL ⊢;clear eT H ok h8 h0 hI hR hlo W cZ cO aU dQ hdv hN df dh;go_enter Tryz.func6,Tryz.ntmps6;go_wp2
 try rw[aT]
 try rw[eQ]
 clear aT eQ;go_loopw [6,7] (fun v iv wr=>∃ k:Nat,k<=N/\iv=.int .i64 k/\Hid (wr.ownsRow w2.heap.size 3 1 v (ou k).length ((ou k).map (Value.int .i64)))/\Hid (Bw w2 wr)) (fun _ iv _=>N-(intOf iv).toNat)
 case atStart=>exact⟨0,Zf _,rfl,ZA _ _ _ _,Qr _ _⟩
 case round=>
  obtain⟨k,hk,rfl,HO,gX⟩:=hrel;obtain⟨ra,rm,rc,rfl⟩:=Zr HO.out;have dS:=aC aL.out gX.out;obtain⟨d0,d1,d2,d3,d4,d5,d6,d7,d8⟩:=(HG.out wr dS).k9;clear dS;by_cases V:k<N
  ·have dU:N<=5:=by rw[qF.out]; exact Q.out.2.1
   have gu:=qF.out;obtain⟨v',w5,pW,rQ,D,⟨va,vm,vc,rfl⟩,-⟩:=uu wr w2.heap.size (.slice ra rm rc) (ou k) HO.out (by rw[Ei]; omega) gX.out.size (k:Int) 22;rw[<- Oc]at rQ;have Iy:=Zh rQ;have lD:Hid (Bw w2 w5):=gX.out.trans (D.below gX.out.size (fun b f e=>by have:=(Zq HO.out e).1; omega));clear rQ D gu;go_wp2_with (first | (at_builtin; refine X5 rfl (.tmp 31) (.tmp 33) 22 rfl (.slice ra rm rc) (.slice (some (aD wr.heap.size 0)) 1 1) (.slice va vm vc) w5 rfl rfl pW ?_));clear pW;go_wp2;go_roundw
   case rel=>exact⟨k+1,by omega,by go_num,Iy.out,lD.out⟩
   case measure=>simp[intOf]; omega
  ·obtain rfl:N=k:=by omega
   obtain⟨rs,FP,eU,eX,di⟩:=ZV HO.out (by rw[Ei]; have:=Q.out.2.1; have:=qF.out; omega);rw[FP];have Yh:Hid (pY 3 36 d.heap.size d.heap.size lo lc l (fun b=>if b=d.heap.size then 1 else 0) [rs] (.slice none 0 0) (.slice none 0 0) (.slice none 0 0) [] [] [] wr):=by
    have aN:=gX.out.size;have aO:=aL.out.size;have bM:=Q3 (p:=(aD d.heap.size 0)) bJ.out.VL;have gy:aH d.heap.size lo lc l wr:=bJ.out.ab1 (P:=fun b=>b<w2.heap.size) (QU gX.out fun b _ h=>h) (by show _<_; omega) (fun a ha=>by have:=bK.out a ha; show _<_; omega);refine⟨by omega,fun b f=>Qv (by show b≠_; have:d.heap.size<w2.heap.size:=bM; omega),fun b f=>Qv (by omega),Qu rfl,bK.out,fun _ h2=>gy.ab1 h2 (.inr (Qu rfl)) (fun a ha=>.inl (Qv (by have:=bK.out a ha; omega))),fun iv B _ h2=>(by rw[Zw]at B; subst B; exact ag.keep eX h2.size fun b f e=>h2.block b f (Qv (by have:=di b e; have:d.heap.size<w2.heap.size:=bM; omega))),fun iv B b e=>(by rw[Zw]at B; subst B; exact Qv (by have:=di b e; have:d.heap.size<w2.heap.size:=bM; omega)),fun _ _=>ZA _ _ _ _,fun _ _=>ZA _ _ _ _,fun _ _=>fJ.nil _ _ _,fun b e=>(by cases e),fun b e=>(by cases e),fun b e=>(by cases e)⟩
   have xW:Hid (Bw d wr):=aC aL.out gX.out;have yL:Hid (rX N [] rs.xs):=by rw[eU]; exact rX.start N
   have aj:=Zh (U9 HO.out FP);obtain⟨ra,rc,z⟩:=rs;simp only[aa.val]at *;clear FP eU eX di HO bJ gX aL;go_wp2;clear d0 d1 d2 d3 d4 d5 d6 d7 d8 V;go_loopw [6,8,9,10,11] (fun rv o h u lv wr=>∃ (rs:aa) (dA:Nat->Nat) (ns:List ah) (j J:List Int),rv=rs.val/\Hid (rs.xs.length<=rs.cap)/\lv=.int .i64 ((ns.length:Int)-1)/\Hid (pY 3 36 d.heap.size d.heap.size lo lc l dA [rs] o h u ns j J wr)/\Hid (Bw d wr)/\Hid (rX N j rs.xs)/\Hid (Rv ts q j J (ns.map bU))) (fun rv _ _ _ _ _=>aiL rv)
   case atStart=>exact⟨⟨ra,rc,z⟩,_,[],[],[],rfl,aj.out,rfl,Yh.out,xW.out,yL.out,Rv.nil ts q⟩
   case round=>
    clear Yh xW yL aj;obtain⟨⟨ra,rc,z⟩,dA,ns,j,J,rfl,aj,rfl,Yh,xW,yL,FX⟩:=hrel;obtain⟨oa,oc,rfl⟩:=Yh.out.out.now.slice;obtain⟨ha,hc,rfl⟩:=iL Yh.out.hav.now;obtain⟨ua,uc,rfl⟩:=iL Yh.out.use.now;simp only[aa.val];by_cases V:0<z.length
    ·have g:=KO.out wr (z.length:Int) Yh.out.mak.now (by omega);go_wp2_with fail;refine g.mono ?_;rintro e w3 ⟨k',rfl,gL,gM,Vm,ax⟩;obtain⟨k,rfl⟩:∃ k:Nat,k' = (k:Int):=⟨k'.toNat,by omega⟩
     have E:k<z.length:=by omega
     have dV:Hid (Bw d w3):=xW.out.trans (ax.below xW.out.size fun b f=>by show b≠_; omega);have S:=Zh (Yh.out.next Vm ax);obtain⟨s,hs,eZ⟩:∃ s:Nat,z.getD k 0=(s:Int)/\s<N:=by
      have:=yL.out.sm (z.getD k 0) (by simp[List.getD,E]);exact⟨(z.getD k 0).toNat,by omega,by omega⟩
     clear g Vm ax Yh xW gL gM;obtain⟨rb,rf,e,ay⟩:=(S.out.rest _ (Zw.2 rfl)).now.1.2 k E
     dsimp only at e ay
     subst e;rw[hs]at ay;have dU:N<=5:=by rw[qF.out]; exact Q.out.2.1
     have pW:z.length<=5:=by have:=yL.out.sum; omega
     have aO:=ast rb rf z.length rc k (QS (Nat.le_of_lt E) aj.out);obtain⟨A,hA,aN⟩:=asu rb rf z.length rc k E aj.out;obtain⟨na,nc,w4,az,dn,dw,fe,dx⟩:=aiK w3.drew rb rf z (Qt ((Qr _ _).drew) (S.out.rest _ (Zw.2 rfl)).now.1) ((S.out.rest _ (Zw.2 rfl)).now.2.1 _ rfl) k E pW A (rc-(k+1)) hA;obtain⟨nx,g⟩:=eY (z.take k++z.drop (k+1))
     rw[<- g]at az dn dw dx;have bN:=Zh g;clear g hA;generalize z.length-(k+1)=m2 at aN az;generalize rc-(k+1)=c2 at aN az;have aP:=Zh (XX dn (XX dw dx));have qy:=Zh fe;clear dn dw dx fe;have ik:IntKind.i64.wrap ((k:Int)+1)=(k:Int)+1:=by rw[IntKind.wrap_i64]; omega
     go_upto_region 14 with fail;refine wH w3 fun hS=>?_
     refine wt 0 (.slice (some (aD rb rf)) z.length rc) hS ?_;refine wt 1 (.int .i64 (k:Int)) hS ?_;refine wt 2 (.int .i64 (k:Int)) hS ?_;refine wt 3 (.slice (some (aD rb rf)) k k) hS ?_;refine wt 4 (.slice (some (aD rb rf)) z.length rc) hS ?_;refine wt 5 (.int .i64 (k:Int)) hS ?_;refine wt 6 (.int .i64 ((k:Int)+1)) hS ?_;refine wt 7 (.slice (some A) m2 c2) hS ?_;refine wR 8 fun K hK=>?_
     refine Jc (by rfl) _ _ _ (by rfl) (.slice (some (aD rb rf)) k k) (.slice (some A) m2 c2) (.slice na nx.length nc) w4 (by kernel_rfl) (by kernel_rfl) az ?_;refine oT hK hS qy.out fun hS=>?_
     clear hK K;refine wR 9 fun K hK=>?_
     go_simp;refine hK.out _ _ hS fun hS=>?_
     clear hK K;refine wD ?_
     try simp only[pU]
     have bO:=(Qr w3.heap.size w3).drew;have bP:Bw w3 w4:=bO.trans (qy.out.mono bO.size);have aQ:=Zh ((S.out.below bP).left (gz:=[⟨na,nc,nx⟩]) fun iv B=>by
      rw[Zw]at B;subst B;refine .inr ⟨aP.out.1,fun b f=>?_⟩;rcases aP.out.2.2 b f with e | e
      ·rw[e];exact S.out.rc _ (Zw.2 rfl) rb rfl
      ·exact S.out.fresh b e)
     have bQ:Hid (Bw d w4):=aC dV.out bP;have dW:=Zh aP.out.2.1;have MV:Hid ((s:Int) ∉ j/\rX N (j++[(s:Int)]) nx):=by
      have C:=yL.out.take E;rw[hs,<- bN.out]at C;refine⟨?_,C⟩;rw[<- hs];exact yL.out.off _ (by simp[List.getD,E])
     have il:j.length<=5:=by have:=yL.out.sum; omega
     have gB:ns.length<=25:=by have:=FX.out.few; rw[ZB]at this; omega
     have iq:J.length<=8:=QS (vg FX.out.usm FX.out.am1) Q.out.2.2;have dX:Hid (nx.length<z.length):=by show _<_; rw[bN.out]; simp; omega
     clear hS bO bP aP qy S dV ay az aO aN yL E hs bN pW V aj;obtain⟨Z,ai,w5,pW,dz⟩:=mZ.one aQ.out.out.now (by omega) ⟨1,0,0,(s:Int),⟨none,0,[]⟩,0,⟨none,0,[]⟩⟩ (fun l hl=>by rcases hl with rfl | rfl <;> exact Av _ _);obtain⟨⟨dB,e5,G⟩,D,rQ⟩:=dz;simp only[ah.cells,aa.val,Q8]at pW;obtain⟨O,KQ⟩:∃ x,x=ns++dB:=⟨_,rfl⟩
     rw[<- KQ]at G;have Vn:Hid (O.map bU=ns.map bU++[nd 1 0 0 (s:Int) [] 0 []]/\O.length=ns.length+1):=⟨by rw[KQ,Qn,e5]; rfl,by have:=congrArg List.length e5; simp at this; rw[KQ]; simp; omega⟩
     obtain⟨c5,aV⟩:=(aQ.out.outs G D rQ).ex;have Ch:Hid (Bw d w5):=bQ.out.trans (D.below bQ.out.size fun b f=>aQ.out.ab2 f);clear e5 G D rQ KQ aQ bQ;obtain⟨w6,II,aW,fo⟩:=aR w5 #[.int .i64 (s:Int)] 3;have T:=aK.out w6 ⟨some (aD w5.heap.size 0),1,[(s:Int)]⟩ ⟨ua,uc,J⟩ (aC Ch.out aW) (ab3 fo).1 (aiH (aV.out.below aW).use.now (by omega)).1;simp only[aa.val,ZX]at T;obtain⟨d0,d1,d2,d3,d4,d5,d6,d7,d8⟩:=(HG.out w5 Ch.out).k9;have tX:=Zh aW;clear aW fo;go_wp2_with (first | (at_builtin; refine X5 rfl (.tmp 55) (.tmp 58) 32 rfl (.slice oa ns.length oc) (.slice (some (aD w4.heap.size 0)) 1 1) (.slice Z (ns.length+1) ai) w5 rfl rfl pW ?_));refine T.mono ?_;rintro e w7 ⟨⟨wa,wq,I⟩,rfl,fq,aX,gD,fu,fw⟩;have bR:=aC tX.out gD;have aS:=Zh ((aV.out.below bR).left (gz:=[⟨na,nc,nx⟩,⟨wa,wq,I⟩]) fun iv B=>by
      rcases Z5.1 B with e | e
      ·exact .inl (Zw.2 e)
      ·rw[Zw]at e;subst e;exact .inr ⟨aX,fun b f=>aV.out.fresh b (QS tX.out.size (fu b f))⟩)
     have bS:Hid (I=iO ts q [(s:Int)] J):=fq;have gF:Hid (I.length<=wq):=fw;have iw:I.length<=8:=by rw[bS.out]; exact QS (xR ..) Q.out.2.2
     have bT:Hid (Bw d w7):=aC Ch.out bR;obtain⟨v',w8,fA,uA,mQ,-,fB⟩:=ab4 w7 (.slice ua J.length uc) J aS.out.use.now wa wq I aX.1 aX.2.2 (by omega);obtain⟨Vo,aY⟩:∃ x,x=J++I:=⟨_,rfl⟩
     rw[<- aY]at uA;obtain⟨va,vc,rfl⟩:=iL uA;have iy:Vo.length<=16:=by rw[aY,ZC]; omega
     obtain⟨c8,au⟩:=(aS.out.used uA mQ fB).ex;have Yi:Hid (Bw d w8):=bT.out.trans (mQ.below bT.out.size fun b f=>aS.out.amS f);have bV:=Zh aY;clear fq aX gD fu fw bR aS bT uA mQ fB aY T pW d0 d1 d2 d3 d4 d5 d6 d7 d8 aV tX II Ch;go_upto_if 70 with (first | (at_builtin; refine X5 rfl (.tmp 65) (.tmp 66) 22 rfl (.slice ua J.length uc) (.slice wa I.length wq) (.slice va Vo.length vc) w8 rfl rfl fA ?_));clear fA;go_cut [8] from 35 to 118 (fun o wx=>∃ (oa:Option Addr) (oc:Nat) (n1:List ah) (c:Nat->Nat),o=.slice oa n1.length oc/\Hid (pY 3 36 d.heap.size d.heap.size lo lc l c [⟨na,nc,nx⟩,⟨wa,wq,I⟩] (.slice oa n1.length oc) (.slice ha j.length hc) (.slice va Vo.length vc) n1 j Vo wx)/\Hid (Bw d wx)/\Hid (n1.map bU=ns.map bU++[nd 1 0 0 (s:Int) [] 0 []]++(if I=[] then [] else [nd 2 ns.length 0 0 I 0 []])))
     case first=>
      by_cases hz:I=[]
      ·have h0:I.length=0:=by rw[hz]; rfl
       go_wp2;go_meet
       case rel=>exact⟨Z,ai,O,c8,by rw[Vn.out.2],by have:=Vn.out.2; rw[this]; exact au.out,Yi.out,by show _=_; rw[Qu hz,XB]; exact Vn.out.1⟩
      ·have h0:0<I.length:=List.length_pos_iff.2 hz;have dY:=au.out.lists (iv:=⟨wa,wq,I⟩) (by simp) gF.out 2 (ns.length:Int) 0 0 0;obtain⟨aA,aB,w9,aZ,gN⟩:=mZ.one au.out.out.now (by rw[Vn.out.2]; omega) ⟨2,(ns.length:Int),0,0,⟨wa,wq,I⟩,0,⟨none,0,[]⟩⟩ dY;obtain⟨⟨bf,e9,fC⟩,CJ,fD⟩:=gN;simp only[ah.cells,aa.val,Q8]at aZ;have ed:Hid (∃ c,pY 3 36 d.heap.size d.heap.size lo lc l c [⟨na,nc,nx⟩,⟨wa,wq,I⟩] (.slice aA (O.length+1) aB) (.slice ha j.length hc) (.slice va Vo.length vc) (O++bf) j Vo w9/\Bw d w9/\(O++bf).length=O.length+1/\(O++bf).map bU=ns.map bU++[nd 1 0 0 (s:Int) [] 0 []]++[nd 2 ns.length 0 0 I 0 []]):=⟨_,au.out.outs fC CJ fD,Yi.out.trans (CJ.below Yi.out.size fun b f=>au.out.ab2 f),by have:=congrArg List.length e9; simp at this; simp; omega,by rw[Qn,e9,Vn.out.1]; rfl⟩
       have ek:wrap64 ((ns.length:Int)+1-1)=(ns.length:Int):=by unfold wrap64; omega
       rw[Vn.out.2]at aZ ed;clear dY e9 fC CJ fD;go_wp2_with (first | (at_builtin; refine X5 rfl (.tmp 71) (.tmp 77) 32 rfl (.slice Z (ns.length+1) ai) (.slice (some (aD w8.heap.size 0)) 1 1) (.slice aA (ns.length+1+1) aB) w9 rfl rfl aZ ?_));clear aZ;go_wp2;go_meet
       case rel=>
        obtain⟨c,g1,g2,g3,g4⟩:=ed.out;exact⟨aA,aB,O++bf,c,by rw[g3],by rw[g3]; exact g1,g2,by show _=_; rw[Qv hz]; exact g4⟩
     case rest=>
      clear au Yi Vn;obtain⟨aA,aB,n1,c9,rfl,bg,fE,dC⟩:=hcut;have iA:ns.length<n1.length/\n1.length<=ns.length+2:=by
       have:=congrArg List.length dC.out;simp only[ZC,ZB,ZX]at this;split at this <;> simp at this <;> omega
      obtain⟨wA,gP,bn,fF⟩:=aR wc #[.int .i64 (s:Int)] 3;obtain⟨v',wB,aF,bq,dD,-,fG⟩:=ab4 wA (.slice ha j.length hc) j (bg.out.below bn).hav.now (some (aD wc.heap.size 0)) 1 [(s:Int)] (ab3 fF).1 (fun e=>by cases e) (by simp; omega);obtain⟨t,bu⟩:∃ x,x=j++[(s:Int)]:=⟨_,rfl⟩
      rw[<- bu]at bq MV;obtain⟨dE,tO,rfl⟩:=iL bq;simp only[ZX]at aF;obtain⟨cB,Iw⟩:=((bg.out.below bn).haves bq dD fG).ex;have Cg:Hid (Bw d wA):=aC fE.out bn;have Ca:Hid (Bw d wB):=Cg.out.trans (dD.below Cg.out.size fun b f=>bg.out.aso f);have ek:wrap64 ((n1.length:Int)-1)=(n1.length:Int)-1:=by unfold wrap64; omega
      have bW:=Zh bu;have iB:t.length<=6:=by rw[bu,ZC,ZX]; omega
      clear bn fF bq dD fG bu bg fE Cg;by_cases gq:ns.length=0
      ·have bX:¬ (ns.length:Int)-1 ≥ 0:=by omega
       go_wp2_with (first | (at_builtin; refine X5 rfl (.tmp 82) (.tmp 84) 22 rfl (.slice ha j.length hc) (.slice (some (aD wc.heap.size 0)) 1 1) (.slice dE t.length tO) wB rfl rfl aF ?_));clear aF;go_wp2;go_roundw
       case rel=>
        refine⟨⟨na,nc,nx⟩,cB,n1,t,Vo,rfl,dW.out,rfl,Iw.out.left fun iv B=>.inl (by rw[Zw]at B; rw[B]; simp),Ca.out,MV.out.2,?_⟩
        show Rv ts q t Vo (n1.map bU)
        rw[bW.out,bV.out];exact FX.out.first Ck.out (by rw[<- qF.out]; exact eZ) (FX.out.zero.1 (by rw[ZB]; exact gq)) bS.out (by rw[dC.out,ZB])
       case measure=>exact dX.out
      ·have bX:(ns.length:Int)-1 ≥ 0:=by omega
       have T:=aK.out wB ⟨dE,tO,t⟩ ⟨va,vc,Vo⟩ Ca.out (aiH Iw.out.hav.now (by omega)).1 (aiH Iw.out.use.now (by omega)).1;simp only[aa.val]at T;obtain⟨d0,d1,d2,d3,d4,d5,d6,d7,d8⟩:=(HG.out wB Ca.out).k9;go_wp2_with (first | (at_builtin; refine X5 rfl (.tmp 82) (.tmp 84) 22 rfl (.slice ha j.length hc) (.slice (some (aD wc.heap.size 0)) 1 1) (.slice dE t.length tO) wB rfl rfl aF ?_));refine T.mono ?_;rintro e wC ⟨⟨fa,fc,fr⟩,rfl,fH,fI,dF,fK,fM⟩;obtain⟨wD,fO,dG,dH⟩:=aR wC #[.int .i64 3,.int .i64 ((ns.length:Int)-1),.int .i64 ((n1.length:Int)-1),.int .i64 0,.slice fa fr.length fc,.int .i64 0,.slice none 0 0] 36;have bY:Hid (fr=iO ts q t Vo):=fH;have gG:Hid (fr.length<=fc):=fM;have iC:fr.length<=8:=by rw[bY.out]; exact QS (xR ..) Q.out.2.2
       obtain⟨cD,Yj,bz⟩:=(((Iw.out.below dF).left (gz:=[⟨na,nc,nx⟩,⟨fa,fc,fr⟩]) fun iv B=>by
        rcases Z5.1 B with e | e
        ·exact .inl (by rw[e]; simp)
        ·rw[Zw]at e;subst e;exact .inr ⟨fI,fun b f=>Iw.out.fresh b (fK b f)⟩).box dG dH.lt).ex5 (lV rfl)
       have Km:Hid (Bw d wD):=aC Ca.out (aC dF dG);have Od:=Zh dH;have eu:=Zh fO;have g:=KO.out wD 2 bz.out.mak.now (by omega);clear T fH fI dF fK fM dG dH fO Iw Ca d0 d1 d2 d3 d4 d5 d6 d7 d8 aF gP;go_upto_region 24 with fail;rw[eu.out];clear eu;go_wp2_with fail;refine g.mono ?_;rintro e wE ⟨k1,rfl,fP,gQ,fQ,bA⟩;have eB:wC.heap.size≠d.heap.size:=fun e=>by have C:=bz.out.mb1; rw[<- e,Yj.out]at C; cases C
       have lJ:=Zh (bz.out.next fQ bA);have qQ:=Zh (Od.out.of (bA.block _ Od.out.lt eB));have mU:Hid (Bw d wE):=Km.out.trans (bA.below Km.out.size fun b f=>by show b≠_; omega);obtain⟨F,hF⟩:∃ F:Bool,(k1==1)=F:=⟨_,rfl⟩
       obtain⟨L,R,dI⟩:∃ L R:Int,Hid ((L,R)=if F=true then ((n1.length:Int)-1,(ns.length:Int)-1) else ((ns.length:Int)-1,(n1.length:Int)-1)):=⟨_,_,rfl⟩
       clear g fQ bA eB bz Od Km;go_upto_if 98 with fail;clear hF fP gQ;go_cut [] from 35 to 118 (fun wx=>Hid (GB wx wC.heap.size 36 #[.int .i64 3,.int .i64 L,.int .i64 R,.int .i64 0,.slice fa fr.length fc,.int .i64 0,.slice none 0 0])/\Hid (Kept (fun b=>b≠wC.heap.size) wE wx))
       case first=>
        cases F with
        | true =>
         have y1:=qQ.out.frozen 1;have y2:=qQ.out.frozen 2;have k1:=qQ.out.cell 1;have k2:=qQ.out.cell 2;simp only[ZK,ZM,ZL]at k1 k2;go_wp2;go_meet
         case rel=>
          obtain⟨rfl,rfl⟩:L=(n1.length:Int)-1/\R=(ns.length:Int)-1:=by have e:=dI.out; simpa using e
          exact⟨(qQ.out.set 1 _).set 2 _,(Zn _ _ _ (fun h=>h rfl)).trans (Zn _ _ _ (fun h=>h rfl))⟩
        | false =>
         go_wp2;go_meet
         case rel=>
          obtain⟨rfl,rfl⟩:L=(ns.length:Int)-1/\R=(n1.length:Int)-1:=by have e:=dI.out; simpa using e
          exact⟨qQ.out,QR _ _⟩
       case rest=>
        obtain⟨bB,dJ⟩:=hcut;have U:=Zh (lJ.out.put Yj.out dJ.out);have bZ:Hid (Bw d wc):=mU.out.trans (dJ.out.below mU.out.size fun b f e=>by have C:=lJ.out.low b f; rw[e,Yj.out]at C; cases C);have cu:=(U.out.rest ⟨fa,fc,fr⟩ (by simp)).now;obtain⟨v',wG,fT,bC,bD,-,fU⟩:=ab4 wc (.slice va Vo.length vc) Vo U.out.use.now fa fc fr cu.1 cu.2.2 (by omega);obtain⟨bE,dK⟩:∃ x,x=Vo++fr:=⟨_,rfl⟩
        rw[<- dK]at bC;obtain⟨ga,gc,rfl⟩:=iL bC;obtain⟨cG,dL⟩:=(U.out.used bC bD fU).ex;have eD:Hid (wC.heap.size≠d.heap.size):=fun e=>by have C:=U.out.mb1; rw[<- e,Yj.out]at C; cases C
        have cK:Hid (Bw d wG):=bZ.out.trans (bD.below bZ.out.size fun b f=>U.out.amS f);have tK:=Zh (bB.out.of (bD.block _ bB.out.lt (fun e=>by have C:=U.out.uc _ e; rw[Yj.out]at C; cases C)));have gH:=Zh dK;have eF:=bB.out.cell 4;simp only[ZK,ZM,ZL]at eF;have g:=KO.out wG 3 dL.out.mak.now (by omega);clear lJ qQ mU dJ cu bC bD fU dK U bZ bB Yj;go_wp2_with (first | (at_builtin; refine X5 rfl (.tmp 103) (.tmp 105) 22 rfl (.slice va Vo.length vc) (.slice fa fr.length fc) (.slice ga bE.length gc) wG rfl rfl fT ?_));refine g.mono ?_;rintro e dM ⟨k3,rfl,fV,bI,fZ,bF⟩;have ak:=Zh (dL.out.next fZ bF);have eG:=tK.out.of (bF.block _ tK.out.lt eD.out);have av:Hid (Bw d dM):=cK.out.trans (bF.below cK.out.size fun b f=>by show b≠_; omega);obtain⟨d0,d1,d2,d3,d4,d5,d6,d7,d8⟩:=(HG.out dM av.out).k9;obtain⟨m0,m1,gT,m3,m4,m5,m6⟩:=eG.k7;obtain⟨a,b,aG⟩:∃ a b,(a,b)=WU ts q.src.xs ((q.wh.getD (dZ q.wh fr).toNat lz).cs.getD 0 cz) (s:Int):=⟨_,_,rfl⟩
        obtain⟨X,Y,aJ⟩:∃ X Y:Int,(X,Y)=if F=true then (a,b) else (b,a):=⟨_,_,rfl⟩
        have V:=bL.out dM (fun b=>cG b=0) (.slice aA n1.length aB) n1 ⟨3,L,R,0,⟨fa,fc,fr⟩,0,⟨none,0,[]⟩⟩ k3 (s:Int) F av.out (fun i B=>by
         have eH:i∈fr:=B;rw[bY.out]at eH;exact(jb.1 eH).1) ak.out.out.now (by omega) ak.out.fresh (ak.out.lists (by simp) gG.out 3 L R 0 0) ⟨fV,bI⟩ rfl a b X Y aG aJ
        simp only[ah.cells,aa.val,Q8]at V;have Wy:=Zh (XX aG aJ);clear g fZ bF eG tK dL cK eD fT fV bI aG aJ eF;go_wp2_with fail;refine V.mono ?_;rintro e wI ⟨v',rfl,hL⟩;obtain⟨⟨gU,eI,bG⟩,dN,dO⟩:=hL;obtain⟨ia,ic,rfl⟩:=bG.slice;obtain⟨nI,bH⟩:∃ x,x=n1++gU:=⟨_,rfl⟩
        rw[<- bH]at bG dO;obtain⟨cI,gV⟩:=(ak.out.outs bG dN dO).ex;have gI:Hid (Bw d wI):=av.out.trans (dN.below av.out.size fun b f=>ak.out.ab2 f);have Cj:Hid (Rv ts q t bE (nI.map bU)):=by
         show Rv ts q t bE (nI.map bU)
         rw[bH,Qn,eI,gH.out,bV.out,bW.out];have hj:=FX.out.join Ck.out (by rw[<- qF.out]; exact eZ) MV.out.1 (fun e=>gq (by have:=FX.out.zero.2 e; rwa [ZB]at this)) bS.out (n1:=n1.map bU) (by rw[dC.out,ZB]) (fr:=fr) (by rw[bY.out,bW.out,bV.out]) k3 F Wy.out.1 (l:=L) (r:=R) (x:=X) (y:=Y) (by
          have C:=dI.out;have h2:=Wy.out.2;rw[ZB,ZB]
          cases F with
          | true => cases C; cases h2; rfl
          | false => cases C; cases h2; rfl)
         rw[ZB]at hj;exact hj
        have iD:nI.length<=30:=by
         have C:=Cj.out.few;rw[ZB]at C;omega
        have ig:wrap64 ((nI.length:Int)-1)=(nI.length:Int)-1:=by unfold wrap64; omega
        rw[<- bH];clear V eI bG dN dO bH ak av d0 d1 d2 d3 d4 d5 d6 d7 d8 m0 m1 gT m3 m4 m5 m6;go_wp2;go_roundw
        case rel=>exact⟨⟨na,nc,nx⟩,cI,nI,t,bE,rfl,dW.out,rfl,gV.out.left fun iv B=>.inl (by rw[Zw]at B; rw[B]; simp),gI.out,MV.out.2,Cj.out⟩
        case measure=>exact dX.out
    ·have iE:z.length=0:=by omega
     have eO:j.length+z.length=N:=yL.out.sum;have dU:N<=5:=by rw[qF.out]; exact Q.out.2.1
     have gB:ns.length<=25:=by have:=FX.out.few; rw[ZB]at this; omega
     obtain⟨K,hK⟩:∃ K:Int,(if GR=true then 7 else 9)=K:=⟨_,rfl⟩
     obtain⟨Z,ai,w5,pW,dz⟩:=mZ.one Yh.out.out.now (by omega) ⟨K,(ns.length:Int)-1,0,0,⟨none,0,[]⟩,0,⟨none,0,[]⟩⟩ (fun l hl=>by rcases hl with rfl | rfl <;> exact Av _ _);obtain⟨⟨dB,e5,G⟩,D,rQ⟩:=dz;simp only[ah.cells,aa.val,Q8]at pW;obtain⟨O,KQ⟩:∃ x,x=ns++dB:=⟨_,rfl⟩
     rw[<- KQ]at G;have Vn:Hid (O.map bU=ns.map bU++[nd (if q.group then 7 else 9) ((ns.length:Int)-1) 0 0 [] 0 []]/\O.length=ns.length+1):=⟨by rw[KQ,Qn,e5,<- aM.out.2,hK]; rfl,by have:=congrArg List.length e5; simp at this; rw[KQ]; simp; omega⟩
     have KE:Bw d w5:=xW.out.trans (D.below xW.out.size fun b f=>Yh.out.ab2 f);have Cj:Hid (Rv ts q j J (ns.map bU)/\j.length=q.src.xs.length):=⟨FX.out,by rw[<- qF.out]; omega⟩
     obtain⟨gW,gY,w6,dP,gZ⟩:=mZ.one G (by rw[Vn.out.2]; omega) ⟨10,(ns.length:Int),0,0,⟨none,0,[]⟩,0,⟨none,0,[]⟩⟩ (fun l hl=>by rcases hl with rfl | rfl <;> exact Av _ _);obtain⟨⟨gm,e6,gp⟩,jY,ib⟩:=gZ;simp only[ah.cells,aa.val,Q8]at dP;rw[Vn.out.2]at dP;have gJ:Hid (OL=0->O.map bU=ns.map bU++jL q (ns.map bU).length):=fun h=>by rw[Vn.out.1]; unfold jL; rw[Qu (Xy.1 (by rw[<- aM.out.1]; exact h)),ZB]
     have gK:Hid (¬ OL=0->(O++gm).map bU=ns.map bU++jL q (ns.map bU).length):=fun h=>by rw[Qn,e6,Vn.out.1]; unfold jL; rw[Qv (show ¬ q.ord.xs=[] from fun e=>h (by rw[aM.out.1,e]; rfl)),ZB,QH]; rfl
     have Iy:=Zh (G.into (M:=fun _=>True) fun _ _ _ _ _ _ _ _=>trivial);have eP:=Zh (gp.into (M:=fun _=>True) fun _ _ _ _ _ _ _ _=>trivial);rw[Vn.out.2]at eP;have lD:=Zh (aC dR.out KE);have tX:Hid (Bw w w6):=lD.out.trans (jY.below lD.out.size fun b f e=>by
      have aO:=dR.out.size;rcases rQ with h | ⟨c,h,hc⟩
      ·exact Yh.out.ab2 (QT f aO) (h ▸ e)
      ·have h2:=xW.out.size;rw[h]at e;have:c=b:=by simpa using e
       omega)
     have ek:wrap64 ((ns.length:Int)+1-1)=(ns.length:Int):=by unfold wrap64; omega
     obtain⟨d0,d1,d2,d3,d4,d5,d6,d7,d8⟩:=(HG.out wr xW.out).k9;obtain⟨b0,b1,b2,b3,b4,b5,b6,b7,b8⟩:=(HG.out w5 KE).k9;clear eO e5 G D rQ KQ KE Yh xW yL FX e6 gp jY ib Vn aM
     cases GR
     all_goals
      simp only[if_true,if_false,reduceCtorEq]at hK;subst hK;by_cases ho:OL=0
      ·have hz:¬ (OL:Int) > 0:=by omega
       go_wp2_with (first | (at_builtin; refine X5 rfl (.tmp 122) (.tmp 126) 32 rfl (.slice oa ns.length oc) (.slice (some (aD wr.heap.size 0)) 1 1) (.slice Z (ns.length+1) ai) w5 rfl rfl pW ?_));go_wp2;go_ret;exact⟨_,rfl,⟨O,ns.map bU,j,J,gJ.out ho,Cj.out.1,Cj.out.2,Iy.out⟩,lD.out⟩
      ·have hz:(OL:Int) > 0:=by omega
       go_wp2_with (first | (at_builtin; first | refine X5 rfl (.tmp 122) (.tmp 126) 32 rfl (.slice oa ns.length oc) (.slice (some (aD wr.heap.size 0)) 1 1) (.slice Z (ns.length+1) ai) w5 rfl rfl pW ?_ | refine X5 rfl (.tmp 133) (.tmp 138) 32 rfl (.slice Z (ns.length+1) ai) (.slice (some (aD w5.heap.size 0)) 1 1) (.slice gW (ns.length+1+1) gY) w6 rfl rfl dP ?_));go_wp2;go_ret;exact⟨_,rfl,⟨O++gm,ns.map bU,j,J,gK.out ho,Cj.out.1,Cj.out.2,eP.out⟩,tX.out⟩
