import Derived.Test.YtbcgekghfgcakaaGreatDoorF22
set_option linter.all false
set_option maxRecDepth 100000
set_option maxHeartbeats 16000000
namespace Go.Proofs.Zz
open Go.RowKit Go.Shelf
theorem xP (ls:List (List az)):(jf ls).map fK=jf (ls.map fun l=>l.map fK):=by
 unfold jf
 suffices h:∀ (ls:List (List az)) (acc:List az),(ls.foldl (fun acc l=>acc++l.map (gM acc.length)) acc).map fK=(ls.map fun l=>l.map fK).foldl (fun acc l=>acc++l.map (gM acc.length)) (acc.map fK) from h ls []
 intro ls
 induction ls with
 | nil => intro acc; rfl
 | cons l ls ih =>
  intro acc;rw[QO,ih,List.map_cons,QO,Ql,List.map_map,List.map_map,QU];rfl
theorem SC (ls:List (List az)) {i:Nat} (hi:i<ls.length):jf (ls.take (i+1))=jf (ls.take i)++(ls.getD i []).map (gM (jf (ls.take i)).length):=by
 rw[XB ls [] hi,P8]
theorem WG {ls:List (List az)}:∀ m∈jf ls,∃ l∈ls,∃ x∈l,m.cl=x.cl/\m.co=x.co:=by
 suffices h:∀ (ls:List (List az)) (acc:List az),∀ m∈ls.foldl (fun acc l=>acc++l.map (gM acc.length)) acc,m∈acc∨∃ l∈ls,∃ x∈l,m.cl=x.cl/\m.co=x.co by
  intro m hm;rcases h ls [] m hm with h | h
  ·cases h
  ·exact h
 intro ls
 induction ls with
 | nil => intro acc m h; exact .inl h
 | cons l ls ih =>
  intro acc m h;rcases ih _ m h with h | ⟨l',h1,h2⟩
  ·rcases QX.1 h with h | h
   ·exact .inl h
   ·obtain⟨x,hx,rfl⟩:=Q0.1 h;exact .inr ⟨l,Xo,x,hx,rfl,rfl⟩
  ·exact .inr ⟨l',Xm _ h1,h2⟩
theorem Cr (ls:List (List az)) (h2:ls.length<=2) (i:Nat):(jf (ls.take i)).length<=(jf ls).length:=by
 rw[zT _ (by rw[Q6]; omega),zT _ h2]
 match ls,h2,i with
 | [],_,_ => simp
 | [a],_,0 => simp
 | [a],_,i+1 => simp
 | [a,b],_,0 => simp
 | [a,b],_,1 => simp
 | [a,b],_,i+2 => simp
 | _::_::_::_,h,_ => simp at h
theorem vX {w:World} {base base':Nat} {e:TypeId} {sz:Nat} {v:Value} {n:Nat} {xs:List Value} (h:w.ownsRow base e sz v n xs) (hb:base'<=base):w.ownsRow base' e sz v n xs:=
 ⟨h.1,h.2.imp id fun ⟨g,cap,cur,e,h1,h2⟩=>⟨g,cap,cur,e,Q4 hb h1,h2⟩⟩
def Bf (w:World) (ao:Option Addr) (vs:List Value):Prop:=aY w ao vs.length (fun i=>vs.getD i (.slice none 0 0))
theorem Na (W:World) (base ajO:Nat) (v v2:Value) (acc ms:List az) (hown:W.ownsRow base 71 7 v acc.length (acc.flatMap az.list)) (h2:W.ownsRow ajO 71 7 v2 ms.length (ms.flatMap az.list)) (hl:acc.length+ms.length<=1000) (hb:base<=W.heap.size) (ty:TypeId) :
  ∃ v' w',(Builtin.append_ #[41,41] ty #[v,v2]).run Tryz.prog W=.ok v' w'/\
   w'.ownsRow base 71 7 v' (acc++ms).length ((acc++ms).flatMap az.list)/\Kept (fun b=>v.ownBlock≠some b) W w'/\(∃ a m c,v' = .slice a m c):=by
 obtain⟨i0,hi,hz0,hz1,hz2⟩:=ZC Tryz.Bd;rcases ZT h2 with⟨rfl,h1⟩ | ⟨g,cap,rfl,_,hlt,hc⟩
 ·have h0:=List.length_eq_zero_iff.1 h1;subst h0;refine⟨v,W,run_append_owned_none (P:=Tryz.prog) (w:=W) base 41 ty 71 i0 7 Tryz.underlying41 hi v acc.length _ hown,by rw[Xl]; exact hown,Q7 _ _,ZA hown⟩
 ·obtain⟨v',w',hr,ho,hg,_,_⟩:=ZO (P:=Tryz.prog) W base 41 ty 71 i0 _ 7 88 Tryz.underlying41 hi hz0 hz1 hz2 rfl (by decide) v acc.length _ hown (aD g 0) ms.length cap (ms.flatMap az.list) (iV az.list 7 (fun _=>rfl) ms)
   (fun j u hj=>by rw[addr_add,QE]; exact hc j u hj) Dz (by unfold maxLen; omega) (by omega) hb
  exact⟨v',w',hr,by rw[QT,QS]; exact ho,Zw hg (fun r e hr=>hr e),ZA ho⟩
theorem xQ (W:World) (base:Nat) (v:Value) (acc:List az) (hown:W.ownsRow base 71 7 v acc.length (acc.flatMap az.list)) (hl:acc.length<=1000) (hb:base<=W.heap.size) (n:az) (ty:TypeId) :
  ∃ v' w',(Builtin.append_ #[41,41] ty #[v,.slice (some (aD W.heap.size 0)) 1 1]).run Tryz.prog (W.alloc (.cells n.cells 71))=.ok v' w'/\
   w'.ownsRow base 71 7 v' (acc++[n]).length ((acc++[n]).flatMap az.list)/\Kept (fun b=>v.ownBlock≠some b) W w'/\(∃ a m c,v' = .slice a m c):=by
 obtain⟨i0,hi,hz0,hz1,hz2⟩:=ZC Tryz.Bd;obtain⟨v',w',hr,ho,hk,hs,hat⟩:=ZV (P:=Tryz.prog) W base 41 ty 71 i0 _ 7 88 Tryz.underlying41 hi hz0 hz1 hz2 rfl (by decide) v acc.length _ hown hb n.list rfl (fun u hu=>by
  unfold az.list ah.val at hu;simp at hu;rcases hu with rfl | rfl | rfl | rfl | rfl | rfl | rfl <;> rfl) hl (by decide)
 exact⟨v',w',hr,by rw[QT,QS]; simpa using ho,hk,hs⟩
theorem WH {F:Nat->Prop} {w:World} (hF:∀ b,w.heap.size<=b->F b) (hs:cZ w 0) (n:az) (hcl:n.cl.At w) (hcn:n.cl.ad=none->n.cl.cap=0) (hco:n.co.At w) (hdn:n.co.ad=none->n.co.cap=0) (hll:n.cl.xs.length<=1000/\n.co.xs.length<=1000)
  (io:Option Addr) (ic:Nat) (ls:List (Value × List az)) (sU:Bf w io (ls.map Prod.fst)) (hls:∀ x∈ls,(∃ base,eZ 71 F base w x.1 x.2)/\∀ m∈x.2,1<=m.kind/\m.kind<=10) (h2:ls.length<=2) (hlen:(jf (ls.map Prod.snd)).length<=900) :
  Calls Tryz.prog 93 #[.agg n.cells,.slice io ls.length ic] w (gW 71 F w (oI n (ls.map fun x=>x.2.map fK))):=by
 obtain⟨LS,hLS⟩:∃ LS,LS=ls.map Prod.snd:=⟨_,rfl⟩
 have hLl:LS.length=ls.length:=by rw[hLS,QU]
 obtain⟨AC,hAC⟩:∃ AC:Nat->List az,AC=fun i=>jf (LS.take i):=⟨_,rfl⟩
 have HA0:Hid (AC 0=[]):=by rw[hAC]; rfl
 have HAS:Hid (∀ i,i<ls.length->AC (i+1)=AC i++(LS.getD i []).map (gM (AC i).length)):=fun i hi=>by rw[hAC]; exact SC LS (by omega)
 have Vi:Hid (∀ i,(AC i).length<=900):=fun i=>by rw[hAC]; exact Q4 (Cr LS (by omega) i) (by rw[hLS]; exact hlen)
 have HEL:Hid (∀ i,i<ls.length->∃ base,(w.ownsRow base 71 7 ((ls.map Prod.fst).getD i (.slice none 0 0)) (LS.getD i []).length ((LS.getD i []).flatMap az.list))/\∀ m∈LS.getD i [],1<=m.kind/\m.kind<=10):=fun i hi=>by
  have e1:(ls.map Prod.fst).getD i (.slice none 0 0)=(ls[i]).1:=by rw[Xq,QW,ZG hi]; rfl
  have e2:LS.getD i []=(ls[i]).2:=by rw[hLS,Xq,QW,ZG hi]; rfl
  obtain⟨⟨base,hK⟩,hk⟩:=hls _ (Qj hi);rw[e1,e2];exact⟨base,hK.own,hk⟩
 have jO:Hid (∀ (x:World) (v:Value) (y z:ah),Below w.heap.size w x->x.ownsRow w.heap.size 71 7 v (AC ls.length++[(⟨n.kind,qB LS 0,qB LS 1,n.source,y,n.key,z⟩:az)]).length ((AC ls.length++[(⟨n.kind,qB LS 0,qB LS 1,n.source,y,n.key,z⟩:az)]).flatMap az.list)->y.xs=n.cl.xs->z.xs=n.co.xs->IntsIn F x y->IntsIn F x z->
   gW 71 F w (oI n (ls.map fun x=>x.2.map fK)) (.returned v) x):=by
  intro x v y z hbx hv hy hz WI hiz;have hAA:AC ls.length=jf LS:=by rw[hAC]; simp only; rw[ZY (by omega)]
  refine⟨v,_,rfl,?_,⟨hv,fun g hg=>hF g (Zy hv hg).1,fun m hm=>?_⟩,hbx⟩
  ·rw[Ql,hAA,xP];unfold oI;have e1:(LS.map fun l=>l.map fK)=ls.map fun x=>x.2.map fK:=by rw[hLS,List.map_map]; rfl
   have e2:∀ i,qB LS i=qB (ls.map fun x=>x.2.map fK) i:=fun i=>by
    unfold qB;rw[<- e1,QU,<- List.map_take,<- xP,QU]
   rw[e1];congr 1;rw[List.map_singleton]
   show [(⟨n.kind,qB LS 0,qB LS 1,n.source,⟨none,0,y.xs⟩,n.key,⟨none,0,z.xs⟩⟩:az)]=_
   rw[hy,hz,e2,e2]
  ·rcases QX.1 hm with hm | hm
   ·rw[hAA] at hm;obtain⟨l,hl,u,hu,e1,e2⟩:=WG m hm;rw[hLS] at hl;obtain⟨x0,hx0,rfl⟩:=Q0.1 hl;obtain⟨⟨base,hK⟩,_⟩:=hls x0 hx0;obtain⟨h1,h2,h3,h4,h5⟩:=(hK.below hbx).lists u hu;rw[e1,e2];exact⟨h1,h2,h3,h4,h5⟩
   ·rw[QY] at hm;rw[hm];exact⟨WI.at',WI.inf,hiz.at',hiz.inf,hiz.cap⟩
 have ql:Hid (∀ j,j<2->qB LS j=if j<ls.length then ((AC (j+1)).length:Int)-1 else 0):=fun j _=>by unfold qB; rw[hAC,hLl]
 have YL:=hd sU;have HSH:=hd hs;have HFL:Hid ((ls.map Prod.fst).length=ls.length):=QU _;have wO:Hid (∀ x,Below w.heap.size w x->Calls Tryz.prog 48 #[n.cl.val] x fun e w'=>∃ v,e=.returned v/\w'.ownsRow x.heap.size 3 1 v n.cl.xs.length (n.cl.xs.map (Value.int .i64))/\Below x.heap.size x w'):=fun x hx=>kI n.cl x (Qo hx hcl) hcn (by omega)
 have tY:Hid (∀ x,Below w.heap.size w x->Calls Tryz.prog 48 #[n.co.val] x fun e w'=>∃ v,e=.returned v/\w'.ownsRow x.heap.size 3 1 v n.co.xs.length (n.co.xs.map (Value.int .i64))/\Below x.heap.size x w'):=fun x hx=>kI n.co x (Qo hx hco) hdn (by omega)
 have Mk:=Zh hll;have vE:=Zh hF;clear hlen hls sU hs hcl hcn hco hdn hll hAC hLl hLS hF;generalize oI n (ls.map fun x=>x.2.map fK)=R at *;generalize ls.map Prod.fst=vs at *;generalize ls.length=sl at *;clear ls;obtain⟨kind,nl,nr,src,⟨ca,cc,cl⟩,key,⟨da,dc,co⟩⟩:=n;simp only[az.cells,ah.val] at *;obtain⟨w1,hw1,hb1,hg1⟩:=bu w #[.int .i64 kind,.int .i64 nl,.int .i64 nr,.int .i64 src,.slice ca cl.length cc,.int .i64 key,.slice da co.length dc] 71;obtain⟨w2,hw2,hb2,hg2⟩:=bu w1 #[.int .i64 0,.int .i64 0] 217;have pR:=Zh (hg1.of (hb2.block _ hg1.lt));have HG2:=hd hg2;have HB2:=Zh (aG hb1 hb2);have nR:Hid (w1.heap.size=w.heap.size+1):=by show _=_; rw[<- hw1]; simp
 have HS2:Hid (w2.heap.size=w.heap.size+2):=by show _=_; rw[<- hw2]; simp; exact nR.out
 clear hb1 hb2 hg1 hg2;go_enter Tryz.func93,Tryz.ntmps93;go_wp2;clear hw1 hw2;go_loopw [5,11] (fun nv iv wr=>∃ k:Nat,k<=sl/\iv=.int .i64 (k:Int)/\Hid (wr.ownsRow w2.heap.size 71 7 nv (AC k).length ((AC k).flatMap az.list))/\Hid (GB wr w.heap.size 71 #[.int .i64 kind,.int .i64 nl,.int .i64 nr,.int .i64 src,.slice ca cl.length cc,.int .i64 key,.slice da co.length dc])/\
   Hid (GB wr w1.heap.size 217 #[.int .i64 (if 0<k then ((AC 1).length:Int)-1 else 0),.int .i64 (if 1<k then ((AC 2).length:Int)-1 else 0)])/\Hid (Below w.heap.size w wr)/\Hid (w2.heap.size<=wr.heap.size)) (fun _ iv _=>sl-(intOf iv).toNat)
 case atStart=>exact⟨0,QQ _,rfl,by rw[HA0.out]; exact ZE _ _ _ _,pR.out,HG2.out,HB2.out,Qq _⟩
 case round=>
  obtain⟨k,hk,rfl,HO,M0,pW,HB,ug⟩:=hrel;obtain⟨xa,xm,xc,rfl⟩:=ZA HO.out;have hxm:xm=(AC k).length:=by
   rcases HO.out.2 with⟨h,h1⟩ | ⟨g,c,cur,h,_⟩
   ·injection h with _ h _; omega
   ·injection h with _ h _
  subst hxm;by_cases hlt:k<sl
  ·obtain⟨bb,LW,api,hbc⟩:=Qf (aY.below HB.out YL.out) (i:=k) (by rw[HFL.out]; exact hlt);subst api;have hck:=hbc k (by rw[HFL.out]; exact hlt);obtain⟨base,hown,hkd⟩:=HEL.out k hlt;have Iq:=Zh (HAS.out k hlt);have hA1:=Vi.out (k+1);have hA0:=Vi.out k;rw[Iq.out,QT,QU] at hA1;obtain⟨L,hL⟩:∃ L,L=LS.getD k []:=⟨_,rfl⟩
   obtain⟨lv,hlv⟩:∃ L,L=vs.getD k (.slice none 0 0):=⟨_,rfl⟩
   rw[<- hL,<- hlv] at hown;rw[<- hL] at hkd Iq hA1;rw[<- hlv] at hck;have hMV:=M8 lv base L (AC k).length wr (Zx hown (Q9 (s:=fun b=>b<w.heap.size) HB.out (fun b _ h=>h)) (fun g hg=>(Zy hown hg).2)) (by omega) (Z9 HB.out HSH.out) hkd;obtain⟨la,lm,lc,rfl⟩:=ZA hown;have apj:L.length=(L.map (gM (AC k).length)).length:=by rw[QU]
   clear hbc hown hkd hL hlv;go_wp2_with fail;refine hMV.mono ?_;rintro e w3 ⟨v3,rfl,ho3,hb3⟩;clear hMV;have ajP:=Zx HO.out (Q9 (s:=fun b=>b<wr.heap.size) hb3 (fun b _ h=>h)) (fun g hg=>(Zy HO.out hg).2);rw[apj] at ho3;obtain⟨v4,w4,hr4,mU,hk4,⟨ya,ym,yc,rfl⟩⟩:=Na w3 w2.heap.size wr.heap.size (.slice xa (AC k).length xc) v3 (AC k) (L.map (gM (AC k).length)) ajP ho3 (by rw[QU]; omega) (Q4 ug.out hb3.size) 41;rw[<- Iq.out] at mU;have hym:ym=(AC (k+1)).length:=by
    rcases mU.2 with⟨h,h1⟩ | ⟨g,c,cur,h,_⟩
    ·injection h with _ h _; omega
    ·injection h with _ h _
   subst hym;obtain⟨ta,tm,tc,rfl⟩:=ZA ho3;have hnb:∀ b,b<w2.heap.size->(Value.slice xa (AC k).length xc).ownBlock≠some b:=fun b hb e=>by have:=(Zy HO.out e).1; omega
   have FD:=hk4.below (Q4 ug.out hb3.size) hnb;have hb4:=(hb3.mono ug.out).trans FD;have ajQ:w.heap.size<w2.heap.size/\w1.heap.size<w2.heap.size:=by have:=nR.out; have:=HS2.out; omega
   have hg1:=M0.out.of (hb4.block _ ajQ.1);have hg2:=pW.out.of (hb4.block _ ajQ.2);have yR:Hid _:=mU;have HG4:=hd hg1;have HE4:=hd hg2;have jE:=Zh (HB.out.trans (hb4.mono HB2.out.size));have HZ4:=Zh (Q4 ug.out hb4.size);have hfz:=fun j=>QH HE4.out j
   have awg:=Vi.out (k+1);have hk2:k<2:=by omega
   have hsub:wrap64 (((AC (k+1)).length:Int)-1)=((AC (k+1)).length:Int)-1:=by unfold wrap64; omega
   obtain⟨w5,uL⟩:∃ x,w4.setCell (aD w1.heap.size k) (.int .i64 (((AC (k+1)).length:Int)-1))=x:=⟨_,rfl⟩
   have qw:Hid (w5.ownsRow w2.heap.size 71 7 (.slice ya (AC (k+1)).length yc) (AC (k+1)).length ((AC (k+1)).flatMap az.list)):=by
    rw[<- uL];exact Zx mU (XG (g:=w1.heap.size) _) (fun g hg=>by have:=(Zy mU hg).1; omega)
   have Lm:Hid (GB w5 w.heap.size 71 #[.int .i64 kind,.int .i64 nl,.int .i64 nr,.int .i64 src,.slice ca cl.length cc,.int .i64 key,.slice da co.length dc]):=by
    rw[<- uL];exact ZL HG4.out (XG (g:=w1.heap.size) _) (by have:=nR.out; omega)
   have HE5:Hid (GB w5 w1.heap.size 217 #[.int .i64 (if 0<k+1 then ((AC 1).length:Int)-1 else 0),.int .i64 (if 1<k+1 then ((AC 2).length:Int)-1 else 0)]):=by
    show GB _ _ _ _
    have:=GB.set HE4.out k (.int .i64 (((AC (k+1)).length:Int)-1));rw[<- uL]
    match k,hk2,this with
    | 0,_,h => exact h
    | 1,_,h => exact h
   have jZ:Hid (Below w.heap.size w w5):=by
    show Below _ _ _
    rw[<- uL];exact jE.out.trans ((XG (g:=w1.heap.size) _).below jE.out.size (fun b hb=>by have:=nR.out; omega))
   have HZ5:Hid (w2.heap.size<=w5.heap.size):=by show _<=_; rw[<- uL]; simpa using HZ4.out
   have hce:∃ u,w4.cell? (aD w1.heap.size k)=some u:=by
    match k,hk2 with
    | 0,_ => exact⟨_,HE4.out.cell 0⟩
    | 1,_ => exact⟨_,HE4.out.cell 1⟩
   obtain⟨cu,hce⟩:=hce;have hfk:=hfz k;clear FD hb4 hg1 hg2 mU hk4 ho3 ajP hnb hb3 hfz HO M0 pW Iq hA0 hA1;go_wp2_with (first | (at_builtin; refine ZN rfl (.tmp 16) (.tmp 20) 41 rfl (.slice xa (AC k).length xc) (.slice ta tm tc) (.slice ya (AC (k+1)).length yc) w4 rfl rfl hr4 ?_));clear hr4 hck;go_wp2;go_roundw
   case rel=>exact⟨k+1,by omega,by go_num,qw.out,Lm.out,HE5.out,jZ.out,HZ5.out⟩
   case measure=>simp[intOf]; omega
  ·have hks:sl=k:=by omega
   subst hks;have h0:(if 0<sl then ((AC 1).length:Int)-1 else 0)=qB LS 0:=(ql.out 0 (by omega)).symm;have h1:(if 1<sl then ((AC 2).length:Int)-1 else 0)=qB LS 1:=(ql.out 1 (by omega)).symm;rw[h0,h1] at pW;obtain⟨e0,he0⟩:∃ e,e=qB LS 0:=⟨_,rfl⟩
   obtain⟨e1,he1⟩:∃ e,e=qB LS 1:=⟨_,rfl⟩
   rw[<- he0,<- he1] at pW jO;obtain⟨w3,hw3⟩:∃ x,x=wr:=⟨_,rfl⟩
   subst hw3;clear h0 h1 he0 he1 ql HEL HAS hlt hk HA0;have vH:Hid (w.heap.size<w2.heap.size/\w1.heap.size<w2.heap.size/\w.heap.size<w1.heap.size):=by have:=nR.out; have:=HS2.out; show _/\_; omega
   have hne:w1.heap.size≠w.heap.size:=by have:=vH.out; omega
   obtain⟨z0,z1⟩:=pW.out.k2;have hgd:=M0.out.of (((Qp w3.heap.size w3).drew).block _ M0.out.lt);have d1:=hgd.at 1;have f1:=hgd.frozen 1;have hge:=M0.out.set 1 (.int .i64 e0);have hge':=hge.of (((Qp _ _).drew).block _ hge.lt);have d2:(w3.setCell (aD w.heap.size 1) (.int .i64 e0)).drew.cell? (aD w.heap.size 2)=some (.int .i64 nr):=hge'.cell 2;have f2:=hge'.frozen 2;have hgf:=hge.set 2 (.int .i64 e1);have afP:=hgf.of (((Qp _ _).drew).block _ hgf.lt);obtain⟨w5,uL⟩:∃ x,((w3.setCell (aD w.heap.size 1) (.int .i64 e0)).setCell (aD w.heap.size 2) (.int .i64 e1)).drew=x:=⟨_,rfl⟩
   rw[uL] at afP;have Lm:=hd afP;have WJ:Kept (fun b=>b≠w.heap.size) w3 w5:=by
    rw[<- uL];exact ((XG (g:=w.heap.size) _).trans (XG (g:=w.heap.size) _)).trans (Q9 ((Qp _ _).drew) (fun _ hl _=>hl))
   have qw:=Zh (Zx HO.out WJ (fun g hg=>by have:=(Zy HO.out hg).1; have:=vH.out; omega));have jZ:=Zh (HB.out.trans (WJ.below HB.out.size (fun b hb=>by have:=vH.out; omega)));have HZ5:=Zh (Q4 ug.out WJ.size);clear hge hge' hgf afP hgd;go_wp2_with fail;refine QL (S:=fun x=>Kept (fun b=>b≠w.heap.size) w3 x) (by kernel_rfl) (Q9 ((Qp w3.heap.size w3).drew) (fun _ hl _=>hl)) (fun hS=>?_);refine wt 0 (.pointer (some (aD w1.heap.size 0))) hS ?_;refine wT 1 (.int .i64 e0) hS (fun x hx=>?_) ?_
   ·have e0:=Zr z0 hx hne;go_simp
   refine wt 2 (.pointer (some (aD w1.heap.size 1))) hS ?_;refine wT 3 (.int .i64 e1) hS (fun x hx=>?_) ?_
   ·have e0:=Zr z1 hx hne;go_simp
   refine wt 4 (.pointer (some (aD w.heap.size 1))) hS ?_;refine wR 5 fun K hK=>?_
   go_simp;refine hK.out _ _ (hS.trans (Zv _ _ _ (fun h=>h rfl))) (fun hS=>?_);clear hK K;refine wt 6 (.pointer (some (aD w.heap.size 2))) hS ?_;refine wR 7 fun K hK=>?_
   go_simp;refine hK.out _ _ WJ fun hS=>?_
   clear hK K;refine wD ?_
   try simp only[pU]
   try rw[uL]
   clear WJ;have n4:=Lm.out.at 4;have n6:=Lm.out.at 6;clear hS z0 z1 d1 d2 f1 f2 uL HO M0 pW HB ug;go_wp2_with fail;refine QL (S:=fun x=>Kept (fun b=>b≠w.heap.size) w5 x) (by kernel_rfl) (Q9 ((Qp w5.heap.size w5).drew) (fun _ hl _=>hl)) (fun hS=>?_);refine wt 0 (.pointer (some (aD w.heap.size 4))) hS ?_;refine wt 3 (.pointer (some (aD w.heap.size 6))) hS ?_;have hB:=(Qp w5.heap.size w5).drew;refine wJ 1 4 (fun K hK=>?_) fun K hK=>?_
   ·skip;have lo:=cB hB n4;go_simp;refine hK.out _ _ hS fun hS=>?_
    clear hK K lo;refine wJ 2 4 (fun K hK=>?_) fun K hK=>?_
    ·skip;go_simp;refine Z7 (wO.out _ (jZ.out.trans (hB.mono jZ.out.size))) ?_;rintro e wA ⟨vv,rfl,hvv,hbb⟩;obtain⟨ivy,oh,hxy,vY⟩:=oU (F:=fun b=>F b/\w5.heap.size<=b) hvv (by have:=Mk.out; omega) (fun b hb=>⟨vE.out b (Q4 jZ.out.size (Q4 hB.size hb)),Q4 hB.size hb⟩);obtain⟨ya,yc,yx⟩:=ivy;simp only[ah.val] at oh hxy;subst oh;have hxy:=hxy.symm;subst hxy;have hB:=hB.trans (hbb.mono hB.size);refine hK.out _ _ (Q9 hB (fun b hb _=>hb)) (fun hS=>?_);clear hK K;refine wR 4 fun K hK=>?_
     have lo:=cB hB n6;go_simp;refine hK.out _ _ hS fun hS=>?_
     clear hK K lo;refine wt 6 (.pointer (some (aD w.heap.size 4))) hS ?_;refine wR 5 fun K hK=>?_
     go_simp;refine Z7 (tY.out _ (jZ.out.trans (hB.mono jZ.out.size))) ?_;rintro e wB ⟨vv,rfl,hvv,hbb⟩;obtain⟨ivz,oh,hxz,Js⟩:=oU (F:=fun b=>F b/\w5.heap.size<=b) hvv (by have:=Mk.out; omega) (fun b hb=>⟨vE.out b (Q4 jZ.out.size (Q4 hB.size hb)),Q4 hB.size hb⟩);obtain⟨za,zc,zx⟩:=ivz;simp only[ah.val] at oh hxz;subst oh;have hxz:=hxz.symm;subst hxz;have hB:=hB.trans (hbb.mono hB.size);have vY:=vY.below hbb;refine hK.out _ _ (Q9 hB (fun b hb _=>hb)) (fun hS=>?_);clear hK K;have hgB:GB wB w.heap.size 71 #[.int .i64 kind,.int .i64 e0,.int .i64 e1,.int .i64 src,.slice ca cl.length cc,.int .i64 key,.slice da co.length dc]:=Lm.out.of (hB.block _ Lm.out.lt);have m4:=hgB.at 4;have f4:=hgB.frozen 4;have OO:=hgB.set 4 (.slice ya cl.length yc);have m6:(wB.setCell (aD w.heap.size 4) (.slice ya cl.length yc)).cell? (aD w.heap.size 6)=some (.slice da co.length dc):=OO.cell 6;have f6:=OO.frozen 6;have WK:=OO.set 6 (.slice za co.length zc);refine wR 7 fun K hK=>?_
     go_simp;refine hK.out _ _ (hS.trans (XG (g:=w.heap.size) (j:=4) (.slice ya cl.length yc))) (fun hS=>?_);clear hK K;refine wt 8 (.pointer (some (aD w.heap.size 6))) hS ?_;refine wR 9 fun K hK=>?_
     go_simp;refine hK.out _ _ (hS.trans (XG (g:=w.heap.size) (j:=6) (.slice za co.length zc))) (fun hS=>?_);clear hK K;refine wD ?_
     try simp only[pU]
     obtain⟨w6,kC⟩:∃ x,(wB.setCell (aD w.heap.size 4) (.slice ya cl.length yc)).setCell (aD w.heap.size 6) (.slice za co.length zc)=x:=⟨_,rfl⟩
     rw[kC] at WK ⊢;have hkB:Kept (fun b=>b≠w.heap.size) wB w6:=by
      rw[<- kC];exact (XG (g:=w.heap.size) _).trans (XG (g:=w.heap.size) _)
     have pE:=(Q9 hB (fun b hb _=>hb)).trans hkB;have Wv:=Zx qw.out pE (fun g hg=>by have:=(Zy qw.out hg).1; have:=vH.out; omega);have hb6:=jZ.out.trans (pE.below jZ.out.size (fun b hb=>by have:=vH.out; omega));obtain⟨v7,w7,nL,Cn,jL,⟨qa,qm,qc,rfl⟩⟩:=xQ w6 w2.heap.size (.slice xa (AC sl).length xc) (AC sl) Wv (by have:=Vi.out sl; omega) (Q4 HZ5.out pE.size) ⟨kind,e0,e1,src,⟨ya,yc,cl⟩,key,⟨za,zc,co⟩⟩ 41;simp only[az.cells,ah.val] at nL;have IZ:=Lm.out.lt;have hown5:∀ b,(Value.slice xa (AC sl).length xc).ownBlock=some b->w2.heap.size<=b/\b<w5.heap.size:=fun b e=>Zy qw.out e
     have WI:=((vY.aT (hkB.mono fun b _ h=>by have:=h.2; omega)).aT (jL.mono fun b _ h e=>by have:=(hown5 b e).2; have:=h.2; omega)).mono fun b _ h=>h.1
     have hiz:=((Js.aT (hkB.mono fun b _ h=>by have:=h.2; omega)).aT (jL.mono fun b _ h e=>by have:=(hown5 b e).2; have:=h.2; omega)).mono fun b _ h=>h.1
     have jh:=hb6.trans (jL.below hb6.size (fun b hb e=>by have:=(hown5 b e).1; have:=vH.out; omega));have HF:Hid _:=jO.out w7 (.slice qa qm qc) ⟨ya,yc,cl⟩ ⟨za,zc,co⟩ jh (vX Cn (by have:=vH.out; omega)) rfl rfl WI hiz;obtain⟨t0,t1,t2,t3,t4,t5,t6⟩:=WK.k7;clear hgB OO WK hkB pE Wv hb6 Cn jL IZ hown5 WI hiz jh vY Js hS hB m4 m6 f4 f6 kC;go_wp2_with (first | (at_builtin; refine ZN rfl (.tmp 42) (.tmp 44) 41 rfl (.slice xa (AC sl).length xc) (.slice (some (aD w6.heap.size 0)) 1 1) (.slice qa qm qc) w7 rfl rfl nL ?_));clear nL;go_wp2;go_ret;exact HF.out
    ·skip;have lo:=cB hB n6;go_simp;refine hK.out _ _ hS fun hS=>?_
     clear hK K lo;refine wR 2 fun K hK=>?_
     go_simp;refine Z7 (wO.out _ (jZ.out.trans (hB.mono jZ.out.size))) ?_;rintro e wA ⟨vv,rfl,hvv,hbb⟩;obtain⟨ivy,oh,hxy,vY⟩:=oU (F:=fun b=>F b/\w5.heap.size<=b) hvv (by have:=Mk.out; omega) (fun b hb=>⟨vE.out b (Q4 jZ.out.size (Q4 hB.size hb)),Q4 hB.size hb⟩);obtain⟨ya,yc,yx⟩:=ivy;simp only[ah.val] at oh hxy;subst oh;have hxy:=hxy.symm;subst hxy;have hB:=hB.trans (hbb.mono hB.size);refine hK.out _ _ (Q9 hB (fun b hb _=>hb)) (fun hS=>?_);clear hK K;refine wt 6 (.pointer (some (aD w.heap.size 4))) hS ?_;refine wR 5 fun K hK=>?_
     go_simp;refine Z7 (tY.out _ (jZ.out.trans (hB.mono jZ.out.size))) ?_;rintro e wB ⟨vv,rfl,hvv,hbb⟩;obtain⟨ivz,oh,hxz,Js⟩:=oU (F:=fun b=>F b/\w5.heap.size<=b) hvv (by have:=Mk.out; omega) (fun b hb=>⟨vE.out b (Q4 jZ.out.size (Q4 hB.size hb)),Q4 hB.size hb⟩);obtain⟨za,zc,zx⟩:=ivz;simp only[ah.val] at oh hxz;subst oh;have hxz:=hxz.symm;subst hxz;have hB:=hB.trans (hbb.mono hB.size);have vY:=vY.below hbb;refine hK.out _ _ (Q9 hB (fun b hb _=>hb)) (fun hS=>?_);clear hK K;have hgB:GB wB w.heap.size 71 #[.int .i64 kind,.int .i64 e0,.int .i64 e1,.int .i64 src,.slice ca cl.length cc,.int .i64 key,.slice da co.length dc]:=Lm.out.of (hB.block _ Lm.out.lt);have m4:=hgB.at 4;have f4:=hgB.frozen 4;have OO:=hgB.set 4 (.slice ya cl.length yc);have m6:(wB.setCell (aD w.heap.size 4) (.slice ya cl.length yc)).cell? (aD w.heap.size 6)=some (.slice da co.length dc):=OO.cell 6;have f6:=OO.frozen 6;have WK:=OO.set 6 (.slice za co.length zc);refine wR 7 fun K hK=>?_
     go_simp;refine hK.out _ _ (hS.trans (XG (g:=w.heap.size) (j:=4) (.slice ya cl.length yc))) (fun hS=>?_);clear hK K;refine wt 8 (.pointer (some (aD w.heap.size 6))) hS ?_;refine wR 9 fun K hK=>?_
     go_simp;refine hK.out _ _ (hS.trans (XG (g:=w.heap.size) (j:=6) (.slice za co.length zc))) (fun hS=>?_);clear hK K;refine wD ?_
     try simp only[pU]
     obtain⟨w6,kC⟩:∃ x,(wB.setCell (aD w.heap.size 4) (.slice ya cl.length yc)).setCell (aD w.heap.size 6) (.slice za co.length zc)=x:=⟨_,rfl⟩
     rw[kC] at WK ⊢;have hkB:Kept (fun b=>b≠w.heap.size) wB w6:=by
      rw[<- kC];exact (XG (g:=w.heap.size) _).trans (XG (g:=w.heap.size) _)
     have pE:=(Q9 hB (fun b hb _=>hb)).trans hkB;have Wv:=Zx qw.out pE (fun g hg=>by have:=(Zy qw.out hg).1; have:=vH.out; omega);have hb6:=jZ.out.trans (pE.below jZ.out.size (fun b hb=>by have:=vH.out; omega));obtain⟨v7,w7,nL,Cn,jL,⟨qa,qm,qc,rfl⟩⟩:=xQ w6 w2.heap.size (.slice xa (AC sl).length xc) (AC sl) Wv (by have:=Vi.out sl; omega) (Q4 HZ5.out pE.size) ⟨kind,e0,e1,src,⟨ya,yc,cl⟩,key,⟨za,zc,co⟩⟩ 41;simp only[az.cells,ah.val] at nL;have IZ:=Lm.out.lt;have hown5:∀ b,(Value.slice xa (AC sl).length xc).ownBlock=some b->w2.heap.size<=b/\b<w5.heap.size:=fun b e=>Zy qw.out e
     have WI:=((vY.aT (hkB.mono fun b _ h=>by have:=h.2; omega)).aT (jL.mono fun b _ h e=>by have:=(hown5 b e).2; have:=h.2; omega)).mono fun b _ h=>h.1
     have hiz:=((Js.aT (hkB.mono fun b _ h=>by have:=h.2; omega)).aT (jL.mono fun b _ h e=>by have:=(hown5 b e).2; have:=h.2; omega)).mono fun b _ h=>h.1
     have jh:=hb6.trans (jL.below hb6.size (fun b hb e=>by have:=(hown5 b e).1; have:=vH.out; omega));have HF:Hid _:=jO.out w7 (.slice qa qm qc) ⟨ya,yc,cl⟩ ⟨za,zc,co⟩ jh (vX Cn (by have:=vH.out; omega)) rfl rfl WI hiz;obtain⟨t0,t1,t2,t3,t4,t5,t6⟩:=WK.k7;clear hgB OO WK hkB pE Wv hb6 Cn jL IZ hown5 WI hiz jh vY Js hS hB m4 m6 f4 f6 kC;go_wp2_with (first | (at_builtin; refine ZN rfl (.tmp 42) (.tmp 44) 41 rfl (.slice xa (AC sl).length xc) (.slice (some (aD w6.heap.size 0)) 1 1) (.slice qa qm qc) w7 rfl rfl nL ?_));clear nL;go_wp2;go_ret;exact HF.out
   ·skip;have lo:=cB hB n6;go_simp;refine hK.out _ _ hS fun hS=>?_
    clear hK K lo;refine wR 1 fun K hK=>?_
    have lo:=cB hB n4;go_simp;refine hK.out _ _ hS fun hS=>?_
    clear hK K lo;refine wR 2 fun K hK=>?_
    go_simp;refine Z7 (wO.out _ (jZ.out.trans (hB.mono jZ.out.size))) ?_;rintro e wA ⟨vv,rfl,hvv,hbb⟩;obtain⟨ivy,oh,hxy,vY⟩:=oU (F:=fun b=>F b/\w5.heap.size<=b) hvv (by have:=Mk.out; omega) (fun b hb=>⟨vE.out b (Q4 jZ.out.size (Q4 hB.size hb)),Q4 hB.size hb⟩);obtain⟨ya,yc,yx⟩:=ivy;simp only[ah.val] at oh hxy;subst oh;have hxy:=hxy.symm;subst hxy;have hB:=hB.trans (hbb.mono hB.size);refine hK.out _ _ (Q9 hB (fun b hb _=>hb)) (fun hS=>?_);clear hK K;refine wt 6 (.pointer (some (aD w.heap.size 4))) hS ?_;refine wR 5 fun K hK=>?_
    go_simp;refine Z7 (tY.out _ (jZ.out.trans (hB.mono jZ.out.size))) ?_;rintro e wB ⟨vv,rfl,hvv,hbb⟩;obtain⟨ivz,oh,hxz,Js⟩:=oU (F:=fun b=>F b/\w5.heap.size<=b) hvv (by have:=Mk.out; omega) (fun b hb=>⟨vE.out b (Q4 jZ.out.size (Q4 hB.size hb)),Q4 hB.size hb⟩);obtain⟨za,zc,zx⟩:=ivz;simp only[ah.val] at oh hxz;subst oh;have hxz:=hxz.symm;subst hxz;have hB:=hB.trans (hbb.mono hB.size);have vY:=vY.below hbb;refine hK.out _ _ (Q9 hB (fun b hb _=>hb)) (fun hS=>?_);clear hK K;have hgB:GB wB w.heap.size 71 #[.int .i64 kind,.int .i64 e0,.int .i64 e1,.int .i64 src,.slice ca cl.length cc,.int .i64 key,.slice da co.length dc]:=Lm.out.of (hB.block _ Lm.out.lt);have m4:=hgB.at 4;have f4:=hgB.frozen 4;have OO:=hgB.set 4 (.slice ya cl.length yc);have m6:(wB.setCell (aD w.heap.size 4) (.slice ya cl.length yc)).cell? (aD w.heap.size 6)=some (.slice da co.length dc):=OO.cell 6;have f6:=OO.frozen 6;have WK:=OO.set 6 (.slice za co.length zc);refine wR 7 fun K hK=>?_
    go_simp;refine hK.out _ _ (hS.trans (XG (g:=w.heap.size) (j:=4) (.slice ya cl.length yc))) (fun hS=>?_);clear hK K;refine wt 8 (.pointer (some (aD w.heap.size 6))) hS ?_;refine wR 9 fun K hK=>?_
    go_simp;refine hK.out _ _ (hS.trans (XG (g:=w.heap.size) (j:=6) (.slice za co.length zc))) (fun hS=>?_);clear hK K;refine wD ?_
    try simp only[pU]
    obtain⟨w6,kC⟩:∃ x,(wB.setCell (aD w.heap.size 4) (.slice ya cl.length yc)).setCell (aD w.heap.size 6) (.slice za co.length zc)=x:=⟨_,rfl⟩
    rw[kC] at WK ⊢;have hkB:Kept (fun b=>b≠w.heap.size) wB w6:=by
     rw[<- kC];exact (XG (g:=w.heap.size) _).trans (XG (g:=w.heap.size) _)
    have pE:=(Q9 hB (fun b hb _=>hb)).trans hkB;have Wv:=Zx qw.out pE (fun g hg=>by have:=(Zy qw.out hg).1; have:=vH.out; omega);have hb6:=jZ.out.trans (pE.below jZ.out.size (fun b hb=>by have:=vH.out; omega));obtain⟨v7,w7,nL,Cn,jL,⟨qa,qm,qc,rfl⟩⟩:=xQ w6 w2.heap.size (.slice xa (AC sl).length xc) (AC sl) Wv (by have:=Vi.out sl; omega) (Q4 HZ5.out pE.size) ⟨kind,e0,e1,src,⟨ya,yc,cl⟩,key,⟨za,zc,co⟩⟩ 41;simp only[az.cells,ah.val] at nL;have IZ:=Lm.out.lt;have hown5:∀ b,(Value.slice xa (AC sl).length xc).ownBlock=some b->w2.heap.size<=b/\b<w5.heap.size:=fun b e=>Zy qw.out e
    have WI:=((vY.aT (hkB.mono fun b _ h=>by have:=h.2; omega)).aT (jL.mono fun b _ h e=>by have:=(hown5 b e).2; have:=h.2; omega)).mono fun b _ h=>h.1
    have hiz:=((Js.aT (hkB.mono fun b _ h=>by have:=h.2; omega)).aT (jL.mono fun b _ h e=>by have:=(hown5 b e).2; have:=h.2; omega)).mono fun b _ h=>h.1
    have jh:=hb6.trans (jL.below hb6.size (fun b hb e=>by have:=(hown5 b e).1; have:=vH.out; omega));have HF:Hid _:=jO.out w7 (.slice qa qm qc) ⟨ya,yc,cl⟩ ⟨za,zc,co⟩ jh (vX Cn (by have:=vH.out; omega)) rfl rfl WI hiz;obtain⟨t0,t1,t2,t3,t4,t5,t6⟩:=WK.k7;clear hgB OO WK hkB pE Wv hb6 Cn jL IZ hown5 WI hiz jh vY Js hS hB m4 m6 f4 f6 kC;go_wp2_with (first | (at_builtin; refine ZN rfl (.tmp 42) (.tmp 44) 41 rfl (.slice xa (AC sl).length xc) (.slice (some (aD w6.heap.size 0)) 1 1) (.slice qa qm qc) w7 rfl rfl nL ?_));clear nL;go_wp2;go_ret;exact HF.out
