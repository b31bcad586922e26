import Derived.Test.YtjndadibondgbaaGreatDoorL27
import Derived.Test.YtjndadibondgbaaGreatDoorL28
set_option linter.all false
set_option maxRecDepth 100000
set_option maxHeartbeats 16000000
namespace Go.Proofs.Zz
open Go.RowKit Go.Shelf
section
open Go.Maps Go.WideMaps
def yw(kr:Int)(ys:List aa)(κ:Int):List aa:=ys.filter fun y=>decide (aY y.xs kr=κ)
theorem YV(kr:Int)(ys:List aa)(x:aa):yw kr (ys++[x])=fun κ=>if κ=aY x.xs kr then yw kr ys κ++[x] else yw kr ys κ:=by
 funext κ
 unfold yw;rw[Zi];by_cases h:κ=aY x.xs kr
 ·rw[Qu h,h]; simp
 ·rw[Qv h];have a:¬ aY x.xs kr=κ:=fun e=>h e.symm
  simp[a]
structure YW(P:Program)(ti tE:TypeId)(J:List aa->(Nat->Prop)->World->Prop)(kr:Int)(o:Nat->Prop)(n0 N:Nat)(w3:World)(pre:List aa)(o1:Nat->Prop)(W':World)(val:Int->Value):Prop where
 Lu:tV P ti tE (N+3) (N+1) pre.length (yw kr pre) val W'
 j:J [] o W'
 iff:∀ b,o1 b↔o b∨dS (N+1) val b∨(w3.heap.size<=b/\∃ y∈pre,ag.blk y=some b)
 at':∀ y∈pre,ag.At y W'
 rows:∀ y∈pre,∀ b,ag.blk y=some b->(b<n0∨w3.heap.size<=b)/\¬ dS (N+1) val b
 kept:Kept (fun b=>¬ o b/\b≠N+1) w3 W'
theorem YW.keep{P:Program}{ti tE:TypeId}{J:List aa->(Nat->Prop)->World->Prop}{kr:Int}{o:Nat->Prop}{n0 N:Nat}{w3:World}{pre:List aa}{o1:Nat->Prop}{A B:World}{val:Int->Value}(h:YW P ti tE J kr o n0 N w3 pre o1 A val)
  (hJ:∀ pre o1 A B,J pre o1 A->Kept (fun b=>o1 b∨b<N) A B->J pre o1 B) (hN:N+3<=w3.heap.size) (hn0:n0<=N) (hk:Kept (fun b=>o1 b∨b<w3.heap.size) A B):YW P ti tE J kr o n0 N w3 pre o1 B val:=by
 refine⟨h.Lu.keep hk (fun b a=>.inl ((h.iff b).2 (.inr (.inl a)))),hJ _ _ _ _ h.j (hk.mono fun b _ a=>a.imp (fun a=>(h.iff b).2 (.inl a)) (by omega)),h.iff,fun y e=>ag.keep (h.at' y e) hk.size (fun b a d=>hk.block b a ?_),h.rows,h.kept.trans' hk (fun b a _=>.inr a)⟩;rcases (h.rows y e b d).1 with f | f
 ·exact .inr (by omega)
 ·exact .inl ((h.iff b).2 (.inr (.inr ⟨f,y,e,d⟩)))
theorem af1{W:World}{base:Nat}{e:TypeId}{v:Value}{ys:List aa}(h:W.ownsRow base e 1 v ys.length (ys.map aa.val))(hl:ys.length<=1000000)(hat:∀ y∈ys,ag.At y W) :
  ∃ l j,v=.slice l ys.length j/\aX W l ys/\∀ a,l=some a->v.ownBlock=some a.block:=by
 have d:∀ i,i<ys.length->ag.At (ys.getD i iz) W:=fun i b=>hat _ (kM b)
 rcases h.2 with⟨hv,h0⟩ | ⟨g,j,cur,hv,hb,hh,hc1,hc2,hc3,ht⟩
 ·have:ys=[]:=QF h0;subst this;exact⟨none,0,hv,⟨⟨by simp,fun i b=>absurd b (by simp),fun i b=>absurd b (by simp)⟩,(fun a f=>by cases f),fun i b=>absurd b (by simp)⟩,fun a f=>by cases f⟩
 ·refine⟨some (aD g 0),j,hv,⟨⟨by omega,fun i b=>⟨g,0,rfl,?_⟩,fun i b=>(d i b).1⟩,fun a f=>?_,d⟩,fun a f=>by cases f; rw[hv]; rfl⟩
  ·have k:(cur.toList.take (ys.length*1))[i]? = some (ys.getD i iz).val:=by
    rw[ht];simp[List.getD,b]
   have m:cur[i]? = some (ys.getD i iz).val:=by
    rw[ZW]at k;split at k
    ·simpa using k
    ·cases k
   simp only[World.cell?,hh]
   simpa using m
  ·cases f; exact(QO.1 hh).1
theorem EG{x:Int}(h:dC x):O1 x:=qO h
theorem zO(lk rk:Int)(A B R:List (List Int)):iD lk rk (A++B) R=iD lk rk A R++iD lk rk B R:=by unfold iD; rw[Xb]
theorem YX{lk rk:Int}{L L' R:List (List Int)}(h:L <+: L'):iD lk rk L R <+: iD lk rk L' R:=by
 obtain⟨t,rfl⟩:=h;rw[zO];exact List.prefix_append _ _
attribute [local go_sem] Oper.semAt_some
theorem ac7(br bl Lt CU gr gl kl kr:Nat)(lg kQ:Array Value)(L R:List (List Int))(w0:World)(hbr:br<w0.heap.size)(hbl:bl<w0.heap.size)(ac2:Lt<w0.heap.size)(ac3:CU<w0.heap.size)
  (hcr:w0.cell? (aD br 0)=some (.func (.func gr) #[] lg)) (hcl:w0.cell? (aD bl 0)=some (.func (.func gl) #[] kQ)) (ac4:w0.cell? (aD Lt 0)=some (.int .i64 kl)) (ac5:w0.cell? (aD CU 0)=some (.int .i64 kr))
  (xS:Seq ag Tryz.prog gr lg R w0) (hsl:Seq ag Tryz.prog gl kQ L w0)
  (Wv:∀ args w,(callFunc gr args).run Tryz.prog w=.ok (.enter gr args) w) (Ww:∀ args w,(callFunc gl args).run Tryz.prog w=.ok (.enter gl args) w)
  (hR:R.length<=1000000) (Ko:∀ a∈L,a.length<=1000) (hRl:∀ a∈R,a.length<=1000) (hLk:∀ a∈L,kl<a.length) (hRk:∀ a∈R,kr<a.length) (O3:∀ a∈L,∀ v∈a,dC v) (hRs:∀ a∈R,∀ v∈a,dC v) :
  Seq ag Tryz.prog 161 #[.pointer (some (aD br 0)),.pointer (some (aD CU 0)),.pointer (some (aD bl 0)),.pointer (some (aD Lt 0))] (iD kl kr L R) w0:=by
 intro l J W o hW ho hJ hY h0;obtain⟨w1,az⟩:∃ x,W.alloc (.cells #[.func (.yield l) #[] #[]] 108)=x:=⟨_,rfl⟩
 have aP:Bw W w1:=by rw[<- az]; exact bV _ _
 have s1:w1.heap.size=W.heap.size+1:=by rw[<- az]; simp
 have y1:w1.cell? (aD W.heap.size 0)=some (.func (.yield l) #[] #[]):=by rw[<- az]; simp
 obtain⟨w2,aA⟩:∃ x,w1.alloc (.map #[] 0)=x:=⟨_,rfl⟩
 have aQ:Bw w1 w2:=by rw[<- aA]; exact bV _ _
 have s2:w2.heap.size=W.heap.size+2:=by rw[<- aA]; simp[s1]
 have m2:tV Tryz.prog 3 22 (W.heap.size+3) (W.heap.size+1) 0 (fun _=>[]) (fun _=>.slice none 0 0) w2:=by
  have h:=tV.fresh Tryz.prog 3 22 w1;rw[aA,s1]at h;exact⟨h.map,fun _=>ZA _ _ _ _,h.apart,by omega⟩
 obtain⟨F,aB⟩:∃ x,w2.alloc (.cells #[.map (some (W.heap.size+1))] 203)=x:=⟨_,rfl⟩
 have aR:Bw w2 F:=by rw[<- aB]; exact bV _ _
 have s3:F.heap.size=W.heap.size+3:=by rw[<- aB]; simp[s2]
 have x3:F.cell? (aD (W.heap.size+2) 0)=some (.map (some (W.heap.size+1))):=by rw[<- aB,<- s2]; simp
 have m3:=m2.keep (QU (s:=fun _=>True) aR (fun b d _=>d)) (fun _ _=>trivial);have mI:Bw w1 F:=aQ.trans (aR.mono aQ.size);have y3:F.cell? (aD W.heap.size 0)=some (.func (.yield l) #[] #[]):=cB mI y1;have aH:Bw W F:=aP.trans (mI.mono aP.size);have DZ:Bw w0 F:=hW.trans (aH.mono hW.size);have fE:F.cell? (aD br 0)=some (.func (.func gr) #[] lg):=(DZ.cell (p:=(aD br 0)) hbr).trans hcr;have MM:J [] o F:=hJ _ _ _ _ h0 (QU aH (fun b d _=>d));have bB:YW Tryz.prog 3 22 J kr o w0.heap.size W.heap.size F [] (fun b=>o b∨dS (W.heap.size+1) (fun _=>.slice none 0 0) b∨(F.heap.size<=b/\∃ y∈([]:List aa),ag.blk y=some b)) F (fun _=>.slice none 0 0):=
  ⟨m3,MM,fun _=>Iff.rfl,fun y k=>(by cases k),fun y k=>(by cases k),QR _ _⟩
 have dG:Hid _:=bB;have HY:Hid _:=hY;have V:Hid _:=ho;have HW:Hid _:=hW;have HJ:Hid _:=hJ;have HR:Hid _:=hR;have dH:Hid _:=Ko;have dI:Hid _:=hRl;have dJ:Hid _:=hLk;have dK:Hid _:=hRk;have dL:Hid _:=O3;have dM:Hid _:=hRs;have J8:Hid (w0.cell? (aD Lt 0)=some (.int .i64 kl)/\w0.cell? (aD CU 0)=some (.int .i64 kr)/\Lt<w0.heap.size/\CU<w0.heap.size/\bl<w0.heap.size/\w0.cell? (aD bl 0)=some (.func (.func gl) #[] kQ)):=⟨ac4,ac5,ac2,ac3,hbl,hcl⟩
 have Vv:Hid _:=s3;have bC:Hid _:=x3;have dN:Hid _:=y3;have bD:Hid (Bw w0 F):=DZ;have dO:Hid (Bw W F):=aH;have dP:Hid _:=az;have dQ:Hid _:=aA;have dR:Hid _:=aB;clear hY ho hW hJ hcr hcl hR Ko hRl hLk hRk O3 hRs hbl hbr ac4 ac5 ac2 ac3 aP aQ aR mI s1 s2 s3 y1 y3 x3 m2 m3 MM h0 bB aH az aA aB;refine(QZ (n:=0)).1 (Zk Tryz.func161 rfl trivial ?_ rfl);simp only[Tryz.ntmps161,Q6,Q7,Q8,Nat.reduceAdd,Nat.reduceSub,Q9,Za,Zb,Zc,Zd,Ze];have dU:=@run_makeMap Tryz.prog
 gi_upto_region 2 with fail
 rw[dP.o,dQ.o,dR.o];clear dU
 gi_wp2_with fail
 refine mo ag (gf:=gr) (lb:=lg) rfl Wv xS DZ rfl
  (fun f C W'=>∃ val,YW Tryz.prog 3 22 J kr o w0.heap.size W.heap.size F f C W' val)
  (fun b=>o b∨dS (W.heap.size+1) (fun _=>.slice none 0 0) b∨(F.heap.size<=b/\∃ y∈([]:List aa),ag.blk y=some b)) ?_ ?_ ⟨_,dG.o⟩ (fun x=>{ tmps:=#[.func (.yield l) #[] #[],.pointer (some (aD br 0)),.pointer (some (aD CU 0)),.pointer (some (aD bl 0)),.pointer (some (aD Lt 0)),.pointer (some (aD W.heap.size 0)),.pointer (some (aD (W.heap.size+2) 0)),x.val,undef,.map (some (W.heap.size+1)),.func (.func gr) #[] lg,x.val,undef,undef,undef,undef,undef,undef,undef,undef,undef,undef,undef,undef,undef,undef,undef,undef,undef,undef,undef,undef,undef,undef,undef,undef,undef,undef,undef],defers:=[] }) ?assign ?body ?done
 ·intro b d;have h0:=HW.o.size;have h3:=Vv.o;rcases d with h | h | ⟨_,y,k,_⟩
  ·exact⟨(V.o b h).1,by have:=(V.o b h).2; omega⟩
  ·rcases h with h | ⟨κ,h⟩
   ·omega
   ·cases h
  ·cases k
 ·rintro f C A B ⟨val,h⟩ hk;exact⟨val,h.keep HJ.o (by have:=Vv.o; omega) HW.o.size hk⟩
 case assign=>
  intro l x W K H
  gi_wp2
  exact H
 case body=>
  rintro l2 f x C G ⟨val,u⟩ O m P bg;have Y:x.xs∈R:=kC O;have ak:=dK.o _ Y;have au:=HW.o.size;have h3:=Vv.o;have dV:f.length+1<=1000000:=by
   have I:=O.length_le;rw[ZB,ZC]at I;have h2:=HR.o;simp at I;omega
  have Z:∀ b,dS (W.heap.size+1) val b->b=W.heap.size+1∨W.heap.size+3<=b:=fun b d=>by
   rcases d with h | ⟨κ,h⟩
   ·exact .inl h
   ·exact .inr (Zq (u.Lu.own κ) h).1
  have bE:∀ b,b<w0.heap.size->¬ o b/\b≠W.heap.size+1:=fun b d=>⟨fun h=>by have:=(V.o b h).1; omega,by omega⟩
  have av:Bw w0 G:=DZ.trans (u.kept.below DZ.size bE);have bF:G.cell? (aD CU 0)=some (.int .i64 kr):=(av.cell (p:=(aD CU 0)) J8.o.2.2.2.1).trans J8.o.2.1;have bG:G.cell? (aD (W.heap.size+2) 0)=some (.map (some (W.heap.size+1))):=Zj bC.o u.kept ⟨fun h=>by have h':o (W.heap.size+2):=h; have:=(V.o _ h').2; omega,by show W.heap.size+2≠_; omega⟩;obtain⟨xb,xo,aC,tO⟩:=Qe m.1 ak;have bH:=tO kr ak;have Q:tV Tryz.prog 3 22 (W.heap.size+3) (W.heap.size+1) f.length (yw kr f) val G.drew:=u.Lu.keep (QU (s:=fun _=>True) ((Qr G.heap.size G).drew) (fun b d _=>d)) (fun _ _=>trivial);have ae:aY x.xs kr=x.xs.getD kr 0:=by unfold aY; rw[ZY]
  have bI:dC (x.xs.getD kr 0):=jy (dM.o _ Y) kr;have ah:=EG bI;have dW:=Q.look (t:=203) (e:=53) Tryz.underlying3 Tryz.underlying203 (Tryz.zeroValue53 _) ah;have bJ:tV Tryz.prog 3 22 (W.heap.size+3) (W.heap.size+1) f.length (yw kr f) val (G.drew.alloc (.cells #[x.val] 22)):=Q.keep (QX (s:=fun _=>True) _ _) (fun _ _=>trivial);have aS:=bJ.look (t:=203) (e:=53) Tryz.underlying3 Tryz.underlying203 (Tryz.zeroValue53 _) ah;obtain⟨vn,wa,wu,bn,fK,dz,⟨ya,ym,yc,rfl⟩,dA,dB,aN⟩:=YU G.drew (W.heap.size+3) (W.heap.size+1) f.length (yw kr f) val Q (by omega) (by show W.heap.size+3<=G.heap.size; omega) (x.xs.getD kr 0) ah (by unfold yw; exact QS (XQ _ _) (by omega)) x 53;obtain⟨va,vm,vc,aO⟩:=Zr (Q.own (x.xs.getD kr 0));rw[aO]at dW aS bn;have fF:(Instr.lookup 203 (.map (some (W.heap.size+1))) (.int .i64 (x.xs.getD kr 0)) false).run Tryz.prog (G.alloc (.cells #[x.val] 22)).drew=.ok (.slice va vm vc) (G.alloc (.cells #[x.val] 22)).drew:=aS;clear aS;have aT:Kept (fun b=>¬ dS (W.heap.size+1) val b) G.drew wa:=(QX _ _).trans dA;have aU:Kept (fun b=>¬ dS (W.heap.size+1) val b) G.drew wu:=aT.trans dB;have Lv:Kept (fun b=>¬ dS (W.heap.size+1) val b) G wu:=(QU ((Qr G.heap.size G).drew) (fun b d _=>d)).trans aU;have bK:Hid (Kept (fun b=>¬ dS (W.heap.size+1) val b) G.drew wa):=aT;have bL:Hid (Kept (fun b=>¬ dS (W.heap.size+1) val b) G.drew wu):=aU;have aI:∀ b,ag.blk x=some b->¬ dS (W.heap.size+1) val b:=fun b d h=>(P b d).1 ((u.iff b).2 (.inr (.inl h)))
  have Vw:Hid (¬ dS (W.heap.size+1) val (W.heap.size+2)/\¬ dS (W.heap.size+1) val CU):=⟨fun h=>by have:=Z _ h; omega,fun h=>by have:=Z _ h; have:=J8.o.2.2.2.1; omega⟩
  have aJ:Hid (∀ a4:Act,jl ag (fun f C W'=>∃ val,YW Tryz.prog 3 22 J kr o w0.heap.size W.heap.size F f C W' val) f x F.heap.size C G .normal a4 wu):=fun a4=>by
   have fG:=Lv.size;have bM:∀ b,dS (W.heap.size+1) (fun κ=>if κ=x.xs.getD kr 0 then .slice ya ym yc else val κ) b->dS (W.heap.size+1) val b∨(G.heap.size<b/\b<wu.heap.size):=aN;have bN:∀ b,b<G.heap.size->¬ dS (W.heap.size+1) val b->¬ dS (W.heap.size+1) (fun κ=>if κ=x.xs.getD kr 0 then .slice ya ym yc else val κ) b:=fun b d h h'=>by
    rcases bM b h' with I | I
    ·exact h I
    ·omega
   have dX:∀ b,ag.blk x=some b->b<G.heap.size:=fun b d=>ag.sV m d
   refine⟨fun b=>o b∨dS (W.heap.size+1) (fun κ=>if κ=x.xs.getD kr 0 then .slice ya ym yc else val κ) b∨(F.heap.size<=b/\∃ y∈f++[x],ag.blk y=some b),⟨_,?_,?_,fun _=>Iff.rfl,?_,?_,?_⟩,Lv.mono (fun b _ h h'=>h ((u.iff b).2 (.inr (.inl h')))),?_⟩
   ·rw[YV,ae,ZC];exact dz
   ·exact HJ.o _ _ _ _ u.j (Lv.mono fun b _ h h'=>by
     have I:=Z b h';rcases h with h | h
     ·have:=(V.o b h).2; omega
     ·omega)
   ·intro y k;rcases Zx.1 k with k | k
    ·exact ag.keep (u.at' y k) Lv.size (fun b d q=>Lv.block b d (u.rows y k b q).2)
    ·rw[Zw]at k;subst k;exact ag.keep m Lv.size (fun b d q=>Lv.block b d (aI b q))
   ·intro y k b q;rcases Zx.1 k with k | k
    ·have I:=u.rows y k b q;exact⟨I.1,bN b (ag.sV (u.at' y k) q) I.2⟩
    ·rw[Zw]at k;subst k;exact⟨(P b q).2,bN b (dX b q) (aI b q)⟩
   ·exact u.kept.trans' Lv (fun b d h h'=>by
     have I:=Z b h';rcases I with I | I
     ·exact h.2 I
     ·omega)
   ·rintro b (d | d | ⟨I,y,k,q⟩)
    ·exact .inl ((u.iff b).2 (.inl d))
    ·rcases bM b d with h | h
     ·exact .inl ((u.iff b).2 (.inr (.inl h)))
     ·exact .inr (.inl ⟨by omega,h.2⟩)
    ·rcases Zx.1 k with k | k
     ·exact .inl ((u.iff b).2 (.inr (.inr ⟨I,y,k,q⟩)))
     ·rw[Zw]at k;subst k;exact .inr (.inr ⟨q,I⟩)
  have bO:Hid (¬ dS (W.heap.size+1) val xb):=aI xb (by show Option.map _ _=_; rw[aC]; rfl);have YT:G.drew.cell? (aD (W.heap.size+2) 0)=some (.map (some (W.heap.size+1))):=bG;have bP:G.drew.cell? (aD CU 0)=some (.int .i64 kr):=bF;have aK:G.drew.cell? (aD xb (xo+kr))=some (.int .i64 (x.xs.getD kr 0)):=bH;clear u O m P bg Y aT aU Lv aI aN dz dA dB bJ Q Z bE av ae tO aO bI ah dV h3 au bG bF bH;obtain⟨jD,cO,gK⟩:=x;unfold aa.val at *;simp only at *;subst aC;generalize gK.getD kr 0=X at *
  gi_upto_region 4 with fail
  refine su (S:=fun x=>Kept (fun b=>¬ dS (W.heap.size+1) val b) G.drew x) (by kernel_rfl) (by kernel_rfl) (fun ⟨_,_,h⟩=>h) ?_;have E:Kept (fun b=>¬ dS (W.heap.size+1) val b) G.drew G.drew:=QR _ _;refine wT 0 (.map (some (W.heap.size+1))) E (fun x m=>?_) ?_
  ·have q1:=Zj YT m Vw.o.1;go_simp
  refine wT 1 (.slice (some (aD xb xo)) gK.length cO) E (fun x m=>?_) ?_
  ·go_simp
  refine wT 2 (.int .i64 kr) E (fun x m=>?_) ?_
  ·have q1:=Zj bP m Vw.o.2;go_simp
  refine wT 3 (.pointer (some (aD xb (xo+kr)))) E (fun x m=>?_) ?_
  ·go_simp
  refine wT 4 (.int .i64 X) E (fun x m=>?_) ?_
  ·have q1:=Zj aK m bO.o;go_simp
  refine wT 5 (.map (some (W.heap.size+1))) E (fun x m=>?_) ?_
  ·have q1:=Zj YT m Vw.o.1;go_simp
  refine wT 6 (.slice (some (aD xb xo)) gK.length cO) E (fun x m=>?_) ?_
  ·go_simp
  refine wT 7 (.int .i64 kr) E (fun x m=>?_) ?_
  ·have q1:=Zj bP m Vw.o.2;go_simp
  refine wT 8 (.pointer (some (aD xb (xo+kr)))) E (fun x m=>?_) ?_
  ·go_simp
  refine wT 9 (.int .i64 X) E (fun x m=>?_) ?_
  ·have q1:=Zj aK m bO.o;go_simp
  refine wT 11 (.slice (some (aD xb xo)) gK.length cO) E (fun x m=>?_) ?_
  ·go_simp
  refine wpAnyH_ready (rs:=[10,12]) (by kernel_rfl) (by simp) ?_;refine Qa rfl (fun K H=>?_) (Qa rfl (fun K H=>?_) AllReadyH.nil)
  ·go_simp;refine H.o _ _ (QR _ _) (fun E=>?_);clear H K;refine wR 12 fun K H=>?_
   go_simp;refine H.o _ _ (QX _ _) (fun E=>?_);clear H K;refine wR 13 fun K H=>?_
   refine Jc (by rfl) _ _ _ (by rfl) (.slice va vm vc) (.slice (some (aD G.heap.size 0)) 1 1) (.slice ya ym yc) wa (by rfl) (by rfl) bn ?_;refine H.o _ _ bK.o (fun E=>?_);clear H K;refine wR 14 fun K H=>?_
   go_simp;refine H.o _ _ bL.o (fun E=>?_);clear H K;refine wpAnyH_done (by kernel_rfl) ?_ _
   try simp only[Act.put,List.setIfInBounds_toArray,List.set_cons_zero,List.set_cons_succ]
   gi_wp2
   exact aJ.o _
  ·go_simp;refine H.o _ _ (QX _ _) (fun E=>?_);clear H K;refine wR 10 fun K H=>?_
   go_simp;refine H.o _ _ (QX _ _) (fun E=>?_);clear H K;refine wR 13 fun K H=>?_
   refine Jc (by rfl) _ _ _ (by rfl) (.slice va vm vc) (.slice (some (aD G.heap.size 0)) 1 1) (.slice ya ym yc) wa (by rfl) (by rfl) bn ?_;refine H.o _ _ bK.o (fun E=>?_);clear H K;refine wR 14 fun K H=>?_
   go_simp;refine H.o _ _ bL.o (fun E=>?_);clear H K;refine wpAnyH_done (by kernel_rfl) ?_ _
   try simp only[Act.put,List.setIfInBounds_toArray,List.set_cons_zero,List.set_cons_succ]
   gi_wp2
   exact aJ.o _
 case done=>
  rintro us o' W2 U8 ⟨val,u⟩ fe fo hD;have aV:us.map aa.xs=R:=U8;have h3:=Vv.o;have aW:=u.kept.size;have aX:¬ o (W.heap.size+2)/\¬ o W.heap.size:=⟨fun h=>by have:=(V.o _ h).2; omega,fun h=>by have:=(V.o _ h).2; omega⟩
  have dY:W2.cell? (aD (W.heap.size+2) 0)=some (.map (some (W.heap.size+1))):=Zj bC.o u.kept ⟨aX.1,by show W.heap.size+2≠_; omega⟩;have au:=HW.o.size;have bQ:us.length<=1000000:=by
   have:=congrArg List.length aV;rw[ZB]at this;rw[this]; exact HR.o
  have Z:∀ b,dS (W.heap.size+1) val b->b=W.heap.size+1∨(W.heap.size+3<=b/\b<W2.heap.size):=fun b d=>by
   rcases d with h | ⟨κ,h⟩
   ·exact .inl h
   ·exact .inr (Zq (u.Lu.own κ) h)
  have bR:O1 1073741824:=EG (by unfold dC; omega);obtain⟨D,dD,dE⟩:=u.Lu.map;obtain⟨z,fD,dF,aF⟩:=dD.drop (t:=203) (e:=53) (int_keyed Tryz.underlying3) Tryz.underlying203 (keyOf_int_mk Tryz.underlying3 bR) 0;have T:Kept (fun b=>b≠W.heap.size+1) W2 z:=Zo aF.grown (fun r e h=>by cases e; exact h rfl);have dZ:=T.size;have bS:tV Tryz.prog 3 22 (W.heap.size+3) (W.heap.size+1) us.length (fun κ=>if κ=1073741824 then [] else yw kr us κ) (fun κ=>if κ=1073741824 then .slice none 0 0 else val κ) z:=by
   refine⟨⟨_,dF,fun κ hκ=>?_⟩,fun κ=>?_,fun κ κ' fC b d=>?_,by omega⟩
   ·by_cases e:κ=1073741824
    ·rw[Qu e,e,atKey_del_same]
    ·rw[Qv e,atKey_del_other (fun h=>e (by injection h)),dE κ hκ]
   ·by_cases e:κ=1073741824
    ·simp only[Qu e]; exact ZA _ _ _ _
    ·simp only[Qv e];exact Zp (u.Lu.own κ) T (fun g hg=>by have:=(Zq (u.Lu.own κ) hg).1; show g≠_; omega)
   ·by_cases e:κ=1073741824
    ·simp only[Qu e]at d; cases d
    ·simp only[Qv e]at d;by_cases e':κ' = 1073741824
     ·simp only[Qu e']; intro h; cases h
     ·simp only[Qv e']; exact u.Lu.apart κ κ' fC b d
  have bT:∀ b,dS (W.heap.size+1) (fun κ=>if κ=1073741824 then .slice none 0 0 else val κ) b->¬ o b/\W.heap.size<b/\b<z.heap.size:=fun b d=>by
   have I:dS (W.heap.size+1) val b:=by
    rcases d with h | ⟨κ,h⟩
    ·exact .inl h
    ·by_cases e:κ=1073741824
     ·simp only[Qu e]at h; cases h
     ·simp only[Qv e]at h; exact .inr ⟨κ,h⟩
   have h2:=Z b I;have h4:=u.Lu.mlt;exact⟨fun h=>by have:=(V.o b h).2; omega,by omega,by omega⟩
  have Ef:Kept (fun b=>¬ o b/\b≠W.heap.size+1) F z:=u.kept.trans' T (fun b _ h=>h.2);have bU:∀ y∈us,∀ b,ag.blk y=some b->¬ o b/\b<z.heap.size:=fun y k b d=>by
   have I:=(u.rows y k b d).1;have h2:=ag.sV (u.at' y k) d;exact⟨fun h=>by have:=V.o b h; omega,by omega⟩
  have bW:∀ y∈us,ag.At y z:=fun y k=>ag.keep (u.at' y k) T.size (fun b d q=>T.block b d (fun e=>(u.rows y k b q).2 (.inl e)))
  have ax:Bw w0 z:=bD.o.trans (Ef.below bD.o.size (fun b d=>⟨fun h=>by have:=(V.o b h).1; omega,by omega⟩));have fH:z.cell? (aD bl 0)=some (.func (.func gl) #[] kQ):=(ax.cell (p:=(aD bl 0)) J8.o.2.2.2.2.1).trans J8.o.2.2.2.2.2;have bX:J [] o z:=HJ.o _ _ _ _ u.j (T.mono fun b _ h=>by
   rcases h with h | h
   ·have:=(V.o b h).2; show b≠_; omega
   ·show b≠_; omega)
  have bY:Kept (fun b=>¬ o b) W z:=(QU dO.o (fun b d _=>d)).trans' Ef (fun b d h=>⟨h,by omega⟩);have lD:Hid _:=bS;have ay:Hid (∀ b,dS (W.heap.size+1) (fun κ=>if κ=1073741824 then .slice none 0 0 else val κ) b->¬ o b/\W.heap.size<b/\b<z.heap.size):=bT;have bZ:Hid _:=bU;have ed:Hid _:=bW;have fI:Hid (Bw w0 z):=ax;have ek:Hid (z.cell? (aD (W.heap.size+2) 0)=some (.map (some (W.heap.size+1)))):=Zj dY T (by show W.heap.size+2≠_; omega);have eu:Hid (z.cell? (aD W.heap.size 0)=some (.func (.yield l) #[] #[])):=Zj dN.o Ef ⟨aX.2,by show W.heap.size≠_; omega⟩;have cu:Hid (z.heap[F.heap.size]? = some (.deferred (some []))):=(T.block _ (QO.1 hD).1 (by omega)).trans hD;have cz:Hid _:=aV;have eB:Hid _:=bQ;have eD:Hid (Kept (fun b=>¬ o b) W z):=bY;have eF:Hid _:=bX;have aL:Hid (F.heap.size<z.heap.size):=by have:=(QO.1 cu.o).1; exact this
  clear u fe fo hD U8 aV bQ Z dD dE dF aF T bS bT Ef bU bW bX bY aX aW dZ h3 au bR
  gi_wp2_with fail
  refine mo ag (gf:=gl) (lb:=kQ) rfl Ww hsl ax rfl
   (fun f C W'=>∃ zs,zs.map ag.key=iD kl kr (f.map ag.key) R/\J zs C W'/\Kept (fun b=>¬ o b) z W'/\∀ b,C b->o b∨(z.heap.size<=b/\b<W'.heap.size))
   o ?_ ?_ ?_ (fun x=>{ tmps:=#[.func (.yield l) #[] #[],.pointer (some (aD br 0)),.pointer (some (aD CU 0)),.pointer (some (aD bl 0)),.pointer (some (aD Lt 0)),.pointer (some (aD W.heap.size 0)),.pointer (some (aD (W.heap.size+2) 0)),undef,x.val,.map (some (W.heap.size+1)),.func (.func gr) #[] lg,undef,undef,undef,undef,undef,undef,undef,undef,undef,undef,undef,undef,undef,undef,undef,.map (some (W.heap.size+1)),.func (.func gl) #[] kQ,x.val,undef,undef,undef,undef,undef,undef,undef,undef,undef,undef],defers:=[] }) ?assign ?body ?done
  ·intro b d;exact⟨(V.o b d).1,by have:=(V.o b d).2; have:=aL.o; have:=Vv.o; omega⟩
  ·rintro f C A B ⟨zs,hz,hj,hk,hg⟩ bq;have I:=aL.o;have h2:=Vv.o;exact⟨zs,hz,HJ.o _ _ _ _ hj (bq.mono fun b _ h=>h.imp id (by omega)),hk.trans' bq (fun b d _=>.inr d),fun b h=>(hg b h).imp id (fun h=>⟨h.1,by have:=bq.size; omega⟩)⟩
  ·exact⟨[],rfl,eF.o,QR _ _,fun b h=>.inl h⟩
  case assign=>
   intro l x W K H
   gi_wp2
   exact H
  case body=>
   rintro l2 f x C M ⟨zs,hz,hj,hk,hg⟩ O m P bg;have h3:=Vv.o;have h5:=aL.o;have au:=HW.o.size;have eG:=hk.size;have Y:x.xs∈L:=kC O;have ak:=dJ.o _ Y;have cK:=dH.o _ Y;have Kq:∀ b,W.heap.size<=b->¬ o b:=fun b d h=>by have:=(V.o b h).2; omega
   have aZ:∀ b,b<w0.heap.size->¬ o b:=fun b d h=>by have:=(V.o b h).1; omega
   have af:∀ b,b<z.heap.size->¬ o b->¬ C b:=fun b d h h'=>by
    rcases hg b h' with h' | h'
    ·exact h h'
    ·omega
   have av:Bw w0 M:=ax.trans (hk.below ax.size aZ);have ai:Kept (fun b=>¬ o b) z M.drew:=hk.trans (QU ((Qr M.heap.size M).drew) (fun b d _=>d));have eH:M.drew.cell? (aD Lt 0)=some (.int .i64 kl):=(av.cell (p:=(aD Lt 0)) J8.o.2.2.1).trans J8.o.1;have YT:M.drew.cell? (aD (W.heap.size+2) 0)=some (.map (some (W.heap.size+1))):=Zj (s:=fun b=>¬ o b) ek.o ai (Kq (W.heap.size+2) (by omega));have eO:M.drew.cell? (aD W.heap.size 0)=some (.func (.yield l) #[] #[]):=Zj (s:=fun b=>¬ o b) eu.o ai (Kq W.heap.size (Qs _));obtain⟨xb,xo,aC,tO⟩:=Qe m.1 ak;have aK:M.drew.cell? (aD xb (xo+kl))=some (.int .i64 (x.xs.getD kl 0)):=tO kl ak;have cZ:¬ C xb:=(P xb (by show Option.map _ _=_; rw[aC]; rfl)).1;have ae:aY x.xs kl=x.xs.getD kl 0:=by unfold aY; rw[ZY]
   have ah:=EG (jy (dL.o _ Y) kl);have Q:=lD.o.keep ai (fun b d=>(ay.o b d).1);have N:∀ y∈(if x.xs.getD kl 0=1073741824 then [] else yw kr us (x.xs.getD kl 0)),y∈us:=fun y k=>by
    split at k
    ·cases k
    ·exact(Xl.1 k).1
   have hsl:(if x.xs.getD kl 0=1073741824 then [] else yw kr us (x.xs.getD kl 0)).length<=1000000:=by
    split
    ·simp
    ·exact QS (XQ _ _) eB.o
   have U:iD kl kr ((f++[x]).map ag.key) R=zs.map ag.key++(if x.xs.getD kl 0=1073741824 then [] else yw kr us (x.xs.getD kl 0)).map (fun r=>x.xs++r.xs):=by
    have e1:(f++[x]).map ag.key=f.map ag.key++[x.xs]:=by rw[Qn]; rfl
    rw[e1,zO,<- hz];congr 1;unfold iD;rw[QG,List.flatMap_nil,XB,ae,<- cz.o,Zg];by_cases e:x.xs.getD kl 0=1073741824
    ·rw[Qu e,Qy e];have:(us.filter ((fun b=>decide (aY b kr=x.xs.getD kl 0) && !true) ∘ aa.xs))=[]:=by
      rw[XJ]; intro y _; simp
     rw[this];rfl
    ·rw[Qv e,Qg e,Xv];unfold yw;have:(us.filter ((fun b=>decide (aY b kr=x.xs.getD kl 0) && !false) ∘ aa.xs))=us.filter fun y=>decide (aY y.xs kr=x.xs.getD kl 0):=by
      congr 1; funext y; simp
     rw[this];rfl
   have eP:Hid (iD kl kr ((f++[x]).map ag.key) R <+: iD kl kr L R):=YX O;have Lx:=Q.own (x.xs.getD kl 0);have bf:∀ X,Kept (fun b=>¬ C b) M.drew X->(Instr.lookup 203 (.map (some (W.heap.size+1))) (.int .i64 (x.xs.getD kl 0)) false).run Tryz.prog X=.ok (if x.xs.getD kl 0=1073741824 then .slice none 0 0 else val (x.xs.getD kl 0)) X:=fun X hX=>
    (Q.keep hX (fun b d=>af b (ay.o b d).2.2 (ay.o b d).1)).look (t:=203) (e:=53) Tryz.underlying3 Tryz.underlying203 (Tryz.zeroValue53 _) ah
   obtain⟨tw,bu⟩:∃ tw,(if x.xs.getD kl 0=1073741824 then [] else yw kr us (x.xs.getD kl 0))=tw:=⟨_,rfl⟩
   simp only[bu]at Lx;rw[bu]at N hsl U;have df:∀ y∈us,ag.At y M.drew:=fun y k=>ag.keep (ed.o y k) ai.size (fun b d q=>ai.block b d (bZ.o y k b q).1)
   obtain⟨va,vc,bz,Sn,TP⟩:=af1 Lx hsl (fun y k=>df y (N y k));rw[bz]at bf TP;have dh:∀ a,va=some a->¬ C a.block:=fun a ha=>by
    have I:dS (W.heap.size+1) (fun κ=>if κ=1073741824 then .slice none 0 0 else val κ) a.block:=.inr ⟨x.xs.getD kl 0,by simp only[bz]; exact TP a ha⟩;exact af _ (ay.o _ I).2.2 (ay.o _ I).1
   have di:J zs C M.drew:=HJ.o _ _ _ _ hj (QU ((Qr M.heap.size M).drew) (fun b d _=>d));have Wz:=Dj l W.heap.size J (iD kl kr L R) w0.heap.size x va vc tw zs C M.drew HJ.o HY.o (by show W.heap.size<=M.heap.size; omega) di (by rw[<- U]; exact eP.o) (ag.keep m (Qs _) (fun b d _=>rfl)) (fun b d=>(P b d).1) cK Sn dh
    (fun i hi a ha=>by
     have I:=bZ.o _ (N _ (kM hi)) a.block (by show Option.map _ _=_; rw[ha]; rfl);exact af _ I.2 I.1)
    (fun i hi=>dI.o _ (by rw[<- cz.o]; exact ZU.2 ⟨_,N _ (kM hi),rfl⟩))
    (fun b h=>by
     show b<M.heap.size
     rcases hg b h with h | h
     ·have:=(V.o b h).2; omega
     ·exact h.2)
   have aJ:Hid (∀ (aj:List aa) (o2:Nat->Prop) (W4:World) (a4:Act),aj.map ag.key=tw.map (fun r=>x.xs++r.xs)->J (zs++aj) o2 W4->Kept (fun b=>¬ C b) M.drew W4->(∀ b,o2 b->C b∨(M.drew.heap.size<=b/\b<W4.heap.size))->
     jl ag (fun f C W'=>∃ zs,zs.map ag.key=iD kl kr (f.map ag.key) R/\J zs C W'/\Kept (fun b=>¬ o b) z W'/\∀ b,C b->o b∨(z.heap.size<=b/\b<W'.heap.size)) f x z.heap.size C M .normal a4 W4):=fun aj o2 W4 a4 aW MN aG bA=>by
    have fJ:M.heap.size<=W4.heap.size:=aG.size;have dm:∀ b,o2 b->C b∨(M.heap.size<=b/\b<W4.heap.size):=bA;have dn:Kept (fun b=>¬ C b) M W4:=(QU ((Qr M.heap.size M).drew) (fun b d _=>d)).trans aG;refine⟨o2,⟨zs++aj,by rw[U,Qn,aW],MN,hk.trans' dn (fun b d h h'=>af b d h h'),fun b d=>?_⟩,dn,fun b d=>(dm b d).imp id .inl⟩;rcases dm b d with h | h
    ·exact(hg b h).imp id (fun h=>⟨h.1,by omega⟩)
    ·exact .inr ⟨by omega,h.2⟩
   have aM:Hid (¬ C (W.heap.size+2)/\¬ C Lt/\¬ C xb/\¬ C W.heap.size):=⟨af _ (by omega) (Kq _ (by omega)),af _ (by have:=J8.o.2.2.1; omega) (aZ _ J8.o.2.2.1),cZ,af _ (by omega) (Kq _ (Qs _))⟩
   have eQ:Hid _:=bf;have JE:Hid _:=Wz;clear hz hj hk hg O m P bg h3 h5 au eG Y cK Kq aZ af av ai tO cZ ae ah Q N hsl U Lx bf df Sn TP bz dh di Wz bu;obtain⟨jD,cO,gK⟩:=x;unfold aa.val at *;simp only at *;subst aC;generalize gK.getD kl 0=X at *
   gi_upto_region 8 with fail
   refine su (S:=fun x=>Kept (fun b=>¬ C b) M.drew x) (by kernel_rfl) (by kernel_rfl) (fun ⟨_,_,h⟩=>h) ?_;have E:Kept (fun b=>¬ C b) M.drew M.drew:=QR _ _;refine wT 0 (.slice (some (aD xb xo)) gK.length cO) E (fun x m=>?_) ?_
   ·go_simp
   refine wT 1 (.map (some (W.heap.size+1))) E (fun x m=>?_) ?_
   ·have q1:=Zj YT m aM.o.1;go_simp
   refine wT 2 (.slice (some (aD xb xo)) gK.length cO) E (fun x m=>?_) ?_
   ·go_simp
   refine wT 3 (.int .i64 kl) E (fun x m=>?_) ?_
   ·have q1:=Zj eH m aM.o.2.1;go_simp
   refine wT 4 (.pointer (some (aD xb (xo+kl)))) E (fun x m=>?_) ?_
   ·go_simp
   refine wT 5 (.int .i64 X) E (fun x m=>?_) ?_
   ·have q1:=Zj aK m aM.o.2.2.1;go_simp
   refine wT 6 (.slice va tw.length vc) E (fun x m=>?_) ?_
   ·have q1:=eQ.o x m;go_simp
   refine wT 7 (.func (.yield l) #[] #[]) E (fun x m=>?_) ?_
   ·have q1:=Zj eO m aM.o.2.2.2;go_simp
   refine wR 8 fun K H=>?_
   go_simp;refine Jj JE.o ?_;rintro e W4 ⟨rfl,aj,o2,fq,MN,aG,bA⟩;refine H.o _ _ aG (fun E=>?_);clear H K;refine wT 9 (.bool false) E (fun x m=>?_) ?_
   ·go_simp
   refine wpAnyH_done (by kernel_rfl) ?_ _
   try simp only[Act.put,List.setIfInBounds_toArray,List.set_cons_zero,List.set_cons_succ]
   gi_wp2
   exact aJ.o aj o2 W4 _ fq MN aG bA
  case done=>
   rintro fu o2 W6 fw ⟨zs,hz,hj,hk,hg⟩ jY fA fB;have h5:=aL.o;have h3:=Vv.o
   gi_wp2
   have eT:¬ o2 z.heap.size:=fun h=>by
    rcases fA _ h with h | h
    ·have:=(V.o _ h).2; omega
    ·omega
   have oN:¬ o F.heap.size:=fun h=>by have:=(V.o _ h).2; omega
   have eU:¬ o2 F.heap.size:=fun h=>by
    rcases hg _ h with h | h
    ·exact oN h
    ·omega
   have dw:W6.heap[F.heap.size]? = some (.deferred (some [])):=(hk.block _ h5 oN).trans cu.o;have UW:Kept (fun b=>b≠z.heap.size) W6 (W6.putObj z.heap.size (.deferred none)):=QV _ _ (fun h=>h rfl);have eX:=(QO.1 dw).1;have eY:(W6.putObj z.heap.size (.deferred none)).heap[F.heap.size]? = some (.deferred (some [])):=(UW.block _ eX (by omega)).trans dw;have eZ:Kept (fun b=>b≠F.heap.size) (W6.putObj z.heap.size (.deferred none)) ((W6.putObj z.heap.size (.deferred none)).putObj F.heap.size (.deferred none)):=QV _ _ (fun h=>h rfl);have dx:Kept (fun b=>b≠z.heap.size/\b≠F.heap.size) W6 ((W6.putObj z.heap.size (.deferred none)).putObj F.heap.size (.deferred none)):=(UW.mono fun _ _ h=>h.1).trans (eZ.mono fun _ _ h=>h.2);refine⟨by simp,.inl ⟨_,_,rfl,Zm fB,?_⟩⟩;refine⟨by simp,.inl ⟨_,_,rfl,Zm eY,?_⟩⟩;refine⟨_,results_none rfl _ _ _,⟨_,rfl⟩,zs,o2,?_,HJ.o _ _ _ _ hj (dx.mono fun b _ h=>?_),(eD.o.trans' hk (fun b _ h=>h)).trans' dx (fun b d _=>by omega),fun b h=>(hg b h).imp id (fun h=>⟨by omega,by rw[Q0,Q0]; omega⟩)⟩
   ·rw[hz];have I:fu.map ag.key=L:=fw;rw[I]
   ·rcases h with h | h
    ·exact⟨fun e=>eT (e ▸ h),fun e=>eU (e ▸ h)⟩
    ·omega
end
