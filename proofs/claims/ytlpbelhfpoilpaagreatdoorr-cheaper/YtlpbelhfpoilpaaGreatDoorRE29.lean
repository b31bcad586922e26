import Derived.Test.YtlpbelhfpoilpaaGreatDoorRE25
import Derived.Test.YtlpbelhfpoilpaaGreatDoorRE28
set_option linter.all false
set_option maxRecDepth 100000
set_option maxHeartbeats 16000000
namespace Go.Proofs.Zz
open Go.RowKit Go.Shelf
variable {w:World}
theorem zM(ls:List (List ai)):(fU ls).map eQ=fU (ls.map fun l=>l.map eQ):=by
 unfold fU
 suffices h:∀ (ls:List (List ai)) (acc:List ai),(ls.foldl (fun acc l=>acc++l.map (bJ acc.length)) acc).map eQ=(ls.map fun l=>l.map eQ).foldl (fun acc l=>acc++l.map (bJ acc.length)) (acc.map eQ) from h ls []
 intro ls
 induction ls with
 | nil => intro acc; rfl
 | cons l ls ih =>
  intro acc;rw[Q0,ih,List.map_cons,Q0,Qs,XM,XM,Zc];rfl
theorem Vl(ls:List (List ai)){i:Nat}(hi:i<ls.length):fU (ls.take (i+1))=fU (ls.take i)++(ls.getD i []).map (bJ (fU (ls.take i)).length):=by
 rw[XL ls [] hi,TY]
theorem aaO{ls:List (List ai)}:∀ m∈fU ls,∃ l∈ls,∃ x∈l,m.cl=x.cl/\m.co=x.co:=by
 suffices h:∀ (ls:List (List ai)) (acc:List ai),∀ m∈ls.foldl (fun acc l=>acc++l.map (bJ acc.length)) acc,m∈acc∨∃ l∈ls,∃ x∈l,m.cl=x.cl/\m.co=x.co by
  intro m hm;rcases h ls [] m hm with h | h
  ·cases h
  ·exact h
 intro ls
 induction ls with
 | nil => intro acc m h; exact .inl h
 | cons l ls ih =>
  intro acc m h;rcases ih _ m h with h | ⟨l',h1,h2⟩
  ·rcases ZT.1 h with h | h
   ·exact .inl h
   ·obtain⟨x,hx,rfl⟩:=Zi.1 h;exact .inr ⟨l,Xg,x,hx,rfl,rfl⟩
  ·exact .inr ⟨l',Xf _ h1,h2⟩
theorem EI(ls:List (List ai))(h2:ls.length<=2)(i:Nat):(fU (ls.take i)).length<=(fU ls).length:=by
 rw[Cc _ (by rw[Zm]; omega),Cc _ h2]
 match ls,h2,i with
 | [],_,_ => simp
 | [a],_,0 => simp
 | [a],_,i+1 => simp
 | [a,b],_,0 => simp
 | [a,b],_,1 => simp
 | [a,b],_,i+2 => simp
 | _::_::_::_,h,_ => simp at h
theorem yE{base base':Nat}{e:TypeId}{sz:Nat}{v:Value}{n:Nat}{xs:List Value}(h:w.ownsRow base e sz v n xs)(hb:base'<=base):w.ownsRow base' e sz v n xs:=
 ⟨h.1,h.2.imp id fun ⟨g,cap,cur,e,h1,h2⟩=>⟨g,cap,cur,e,Zl hb h1,h2⟩⟩
def Df(w:World)(ao:Option Addr)(vs:List Value):Prop:=bC w ao vs.length (fun i=>vs.getD i (.slice none 0 0))
theorem PS(W:World)(base ane:Nat)(v v2:Value)(acc ms:List ai)(hown:W.ownsRow base 58 7 v acc.length (acc.flatMap ai.list))(h2:W.ownsRow ane 58 7 v2 ms.length (ms.flatMap ai.list))(hl:acc.length+ms.length<=1000)(hb:base<=W.heap.size)(ty:TypeId) :
  ∃ v' w',(Builtin.append_ #[27,27] ty #[v,v2]).run Tryz.prog W=.ok v' w'/\
   w'.ownsRow base 58 7 v' (acc++ms).length ((acc++ms).flatMap ai.list)/\Kept (fun b=>v.ownBlock≠some b) W w'/\(∃ a m c,v' = .slice a m c):=by
 obtain⟨i0,hi,hz0,hz1,hz2⟩:=ZU Tryz.Dc;rcases Xd h2 with⟨rfl,h1⟩ | ⟨g,cap,rfl,_,hlt,hc⟩
 ·have h0:=Xw.1 h1;subst h0;refine⟨v,W,run_append_owned_none (P:=Tryz.prog) (w:=W) base 27 ty 58 i0 7 Tryz.underlying27 hi v acc.length _ hown,by rw[Xx]; exact hown,Zn _ _,ZP hown⟩
 ·obtain⟨v',w',hr,ho,hg,_,_⟩:=run_append_own_at (P:=Tryz.prog) W base 27 ty 58 i0 _ 7 88 Tryz.underlying27 hi hz0 hz1 hz2 rfl (by decide) v acc.length _ hown (aD g 0) ms.length cap (ms.flatMap ai.list) (ko ai.list 7 (fun _=>rfl) ms)
   (fun j u hj=>by rw[addr_add,QQ]; exact hc j u hj) FY (by unfold maxLen; omega) (by omega) hb
  exact⟨v',w',hr,by rw[Zb,Za]; exact ho,ZM hg (fun r e hr=>hr e),ZP ho⟩
theorem zN(W:World)(base:Nat)(v:Value)(acc:List ai)(hown:W.ownsRow base 58 7 v acc.length (acc.flatMap ai.list))(hl:acc.length<=1000)(hb:base<=W.heap.size)(n:ai)(ty:TypeId) :
  ∃ v' w',(Builtin.append_ #[27,27] ty #[v,.slice (some (aD W.heap.size 0)) 1 1]).run Tryz.prog (W.alloc (.cells n.cells 58))=.ok v' w'/\
   w'.ownsRow base 58 7 v' (acc++[n]).length ((acc++[n]).flatMap ai.list)/\Kept (fun b=>v.ownBlock≠some b) W w'/\(∃ a m c,v' = .slice a m c):=by
 obtain⟨i0,hi,hz0,hz1,hz2⟩:=ZU Tryz.Dc;obtain⟨v',w',hr,ho,hk,hs,hat⟩:=iG (P:=Tryz.prog) W base 27 ty 58 i0 _ 7 88 Tryz.underlying27 hi hz0 hz1 hz2 rfl (by decide) v acc.length _ hown hb n.list rfl (fun u hu=>by
  unfold ai.list ah.val at hu;simp at hu;rcases hu with rfl | rfl | rfl | rfl | rfl | rfl | rfl <;> rfl) hl (by decide)
 exact⟨v',w',hr,by rw[Zb,Za]; simpa using ho,hk,hs⟩
theorem aaP{F:Nat->Prop}(hF:∀ b,w.heap.size<=b->F b)(hs:bQ w 0)(n:ai)(hcl:n.cl.At w)(hcn:n.cl.ad=none->n.cl.cap=0)(hco:n.co.At w)(hdn:n.co.ad=none->n.co.cap=0)(hll:n.cl.xs.length<=1000/\n.co.xs.length<=1000)
  (io:Option Addr) (ic:Nat) (ls:List (Value × List ai)) (uV:Df w io (ls.map Prod.fst)) (hls:∀ x∈ls,(∃ base,fI 58 F base w x.1 x.2)/\∀ m∈x.2,1<=m.kind/\m.kind<=10) (h2:ls.length<=2) (hlen:(fU (ls.map Prod.snd)).length<=900) :
  Calls Tryz.prog 165 #[.agg n.cells,.slice io ls.length ic] w (jm 58 F w (qE n (ls.map fun x=>x.2.map eQ))):=by
 obtain⟨LS,hLS⟩:=eY (ls.map Prod.snd)
 have hLl:LS.length=ls.length:=by rw[hLS,Zc]
 obtain⟨AC,hAC⟩:∃ AC:Nat->List ai,AC=fun i=>fU (LS.take i):=⟨_,rfl⟩
 have HA0:Hid (AC 0=[]):=by rw[hAC]; rfl
 have HAS:Hid (∀ i,i<ls.length->AC (i+1)=AC i++(LS.getD i []).map (bJ (AC i).length)):=fun i hi=>by rw[hAC]; exact Vl LS (by omega)
 have Yy:Hid (∀ i,(AC i).length<=900):=fun i=>by rw[hAC]; exact Zl (EI LS (by omega) i) (by rw[hLS]; exact hlen)
 have HEL:Hid (∀ i,i<ls.length->∃ base,(w.ownsRow base 58 7 ((ls.map Prod.fst).getD i (.slice none 0 0)) (LS.getD i []).length ((LS.getD i []).flatMap ai.list))/\∀ m∈LS.getD i [],1<=m.kind/\m.kind<=10):=fun i hi=>by
  have e1:(ls.map Prod.fst).getD i (.slice none 0 0)=(ls[i]).1:=by rw[XH,Ze,ZX hi]; rfl
  have e2:LS.getD i []=(ls[i]).2:=by rw[hLS,XH,Ze,ZX hi]; rfl
  obtain⟨⟨base,hK⟩,hk⟩:=hls _ (Qp hi);rw[e1,e2];exact⟨base,hK.own,hk⟩
 have kX:Hid (∀ (x:World) (v:Value) (y z:ah),Bw w x->x.ownsRow w.heap.size 58 7 v (AC ls.length++[(⟨n.kind,rX LS 0,rX LS 1,n.source,y,n.key,z⟩:ai)]).length ((AC ls.length++[(⟨n.kind,rX LS 0,rX LS 1,n.source,y,n.key,z⟩:ai)]).flatMap ai.list)->y.xs=n.cl.xs->z.xs=n.co.xs->IntsIn F x y->IntsIn F x z->
   jm 58 F w (qE n (ls.map fun x=>x.2.map eQ)) (.returned v) x):=by
  intro x v y z hbx hv hy hz hiy hiz;have hAA:AC ls.length=fU LS:=by rw[hAC]; simp only; rw[Xl (by omega)]
  refine⟨v,_,rfl,?_,⟨hv,fun g hg=>hF g (ZO hv hg).1,fun m hm=>?_⟩,hbx⟩
  ·rw[Qs,hAA,zM];unfold qE;have e1:(LS.map fun l=>l.map eQ)=ls.map fun x=>x.2.map eQ:=by rw[hLS,XM]; rfl
   have e2:∀ i,rX LS i=rX (ls.map fun x=>x.2.map eQ) i:=fun i=>by
    unfold rX;rw[<- e1,Zc,<- List.map_take,<- zM,Zc]
   rw[e1];congr 1;rw[List.map_singleton]
   show [(⟨n.kind,rX LS 0,rX LS 1,n.source,⟨none,0,y.xs⟩,n.key,⟨none,0,z.xs⟩⟩:ai)]=_
   rw[hy,hz,e2,e2]
  ·rcases ZT.1 hm with hm | hm
   ·rw[hAA]at hm;obtain⟨l,hl,u,hu,e1,e2⟩:=aaO m hm;rw[hLS]at hl;obtain⟨x0,hx0,rfl⟩:=Zi.1 hl;obtain⟨⟨base,hK⟩,_⟩:=hls x0 hx0;obtain⟨h1,h2,h3,h4,h5⟩:=(hK.below hbx).lists u hu;rw[e1,e2];exact⟨h1,h2,h3,h4,h5⟩
   ·rw[ZR]at hm;rw[hm];exact⟨hiy.at',hiy.inf,hiz.at',hiz.inf,hiz.cap⟩
 have OM:Hid (∀ j,j<2->rX LS j=if j<ls.length then ((AC (j+1)).length:Int)-1 else 0):=fun j _=>by unfold rX; rw[hAC,hLl]
 have Om:=hd uV;have HSH:=hd hs;have HFL:Hid ((ls.map Prod.fst).length=ls.length):=Zc _;have yT:Hid (∀ x,Bw w x->Calls Tryz.prog 117 #[n.cl.val] x fun e w'=>∃ v,e=.returned v/\w'.ownsRow x.heap.size 3 1 v n.cl.xs.length (n.cl.xs.map (Value.int .i64))/\Bw x w'):=fun x hx=>pE n.cl x (Qv hx hcl) hcn (by omega)
 have xE:Hid (∀ x,Bw w x->Calls Tryz.prog 117 #[n.co.val] x fun e w'=>∃ v,e=.returned v/\w'.ownsRow x.heap.size 3 1 v n.co.xs.length (n.co.xs.map (Value.int .i64))/\Bw x w'):=fun x hx=>pE n.co x (Qv hx hco) hdn (by omega)
 have Um:=Zh hll;have xQ:=Zh hF;clear hlen hls uV hs hcl hcn hco hdn hll hAC hLl hLS hF;generalize qE n (ls.map fun x=>x.2.map eQ)=R at *;generalize ls.map Prod.fst=vs at *;generalize ls.length=sl at *;clear ls;obtain⟨kind,nl,nr,src,⟨ca,cc,cl⟩,key,⟨da,dc,co⟩⟩:=n;simp only[ai.cells,ah.val]at *;obtain⟨w1,hw1,hb1,hg1⟩:=aU w #[.int .i64 kind,.int .i64 nl,.int .i64 nr,.int .i64 src,.slice ca cl.length cc,.int .i64 key,.slice da co.length dc] 58;obtain⟨w2,hw2,hb2,hg2⟩:=aU w1 #[.int .i64 0,.int .i64 0] 303;have qU:=Zh (hg1.of (hb2.block _ hg1.lt));have HG2:=hd hg2;have HB2:=Zh (aA hb1 hb2);have pO:Hid (w1.heap.size=w.heap.size+1):=by show _=_; rw[<- hw1]; simp
 have HS2:Hid (w2.heap.size=w.heap.size+2):=by show _=_; rw[<- hw2]; simp; exact pO.o
 clear hb1 hb2 hg1 hg2;go_enter Tryz.func165,Tryz.ntmps165;go_wp2;clear hw1 hw2;go_loopw [5,11] (fun nv iv wr=>∃ k:Nat,k<=sl/\iv=.int .i64 (k:Int)/\Hid (wr.ownsRow w2.heap.size 58 7 nv (AC k).length ((AC k).flatMap ai.list))/\Hid (GB wr w.heap.size 58 #[.int .i64 kind,.int .i64 nl,.int .i64 nr,.int .i64 src,.slice ca cl.length cc,.int .i64 key,.slice da co.length dc])/\
   Hid (GB wr w1.heap.size 303 #[.int .i64 (if 0<k then ((AC 1).length:Int)-1 else 0),.int .i64 (if 1<k then ((AC 2).length:Int)-1 else 0)])/\Hid (Bw w wr)/\Hid (w2.heap.size<=wr.heap.size)) (fun _ iv _=>sl-(intOf iv).toNat)
 case atStart=>exact⟨0,Q8 _,rfl,by rw[HA0.o]; exact ZV _ _ _ _,qU.o,HG2.o,HB2.o,Qx _⟩
 case round=>
  obtain⟨k,hk,rfl,HO,wC,yR,HB,vJ⟩:=hrel;obtain⟨xa,xm,xc,rfl⟩:=ZP HO.o;have hxm:xm=(AC k).length:=by
   rcases HO.o.2 with⟨h,h1⟩ | ⟨g,c,cur,h,_⟩
   ·injection h with _ h _; omega
   ·injection h with _ h _
  subst hxm;by_cases hlt:k<sl
  ·obtain⟨bb,Ol,atC,hbc⟩:=Qi (bC.below HB.o Om.o) (i:=k) (by rw[HFL.o]; exact hlt);subst atC;have hck:=hbc k (by rw[HFL.o]; exact hlt);obtain⟨base,hown,hkd⟩:=HEL.o k hlt;have Kz:=Zh (HAS.o k hlt);have hA1:=Yy.o (k+1);have hA0:=Yy.o k;rw[Kz.o,Zb,Zc]at hA1;obtain⟨L,hL⟩:=eY (LS.getD k [])
   obtain⟨lv,hlv⟩:∃ L,L=vs.getD k (.slice none 0 0):=⟨_,rfl⟩
   rw[<- hL,<- hlv]at hown;rw[<- hL]at hkd Kz hA1;rw[<- hlv]at hck;have hMV:=PQ lv base L (AC k).length wr (ZN hown (Zo (s:=fun b=>b<w.heap.size) HB.o (fun b _ h=>h)) (fun g hg=>(ZO hown hg).2)) (by omega) (XJ HB.o HSH.o) hkd;obtain⟨la,lm,lc,rfl⟩:=ZP hown;have atD:L.length=(L.map (bJ (AC k).length)).length:=by rw[Zc]
   clear hbc hown hkd hL hlv;go_wp2_with fail;refine hMV.mono ?_;rintro e w3 ⟨v3,rfl,ho3,hb3⟩;clear hMV;have anf:=ZN HO.o (Zo (s:=fun b=>b<wr.heap.size) hb3 (fun b _ h=>h)) (fun g hg=>(ZO HO.o hg).2);rw[atD]at ho3;obtain⟨v4,w4,hr4,zA,hk4,⟨ya,ym,yc,rfl⟩⟩:=PS w3 w2.heap.size wr.heap.size (.slice xa (AC k).length xc) v3 (AC k) (L.map (bJ (AC k).length)) anf ho3 (by rw[Zc]; omega) (Zl vJ.o hb3.size) 27;rw[<- Kz.o]at zA;have hym:ym=(AC (k+1)).length:=by
    rcases zA.2 with⟨h,h1⟩ | ⟨g,c,cur,h,_⟩
    ·injection h with _ h _; omega
    ·injection h with _ h _
   subst hym;obtain⟨ta,tm,tc,rfl⟩:=ZP ho3;have hnb:∀ b,b<w2.heap.size->(Value.slice xa (AC k).length xc).ownBlock≠some b:=fun b hb e=>by have:=(ZO HO.o e).1; omega
   have Ii:=hk4.below (Zl vJ.o hb3.size) hnb;have hb4:=(hb3.mono vJ.o).trans Ii;have ang:w.heap.size<w2.heap.size/\w1.heap.size<w2.heap.size:=by have:=pO.o; have:=HS2.o; omega
   have hg1:=wC.o.of (hb4.block _ ang.1);have hg2:=yR.o.of (hb4.block _ ang.2);have HO4:Hid _:=zA;have HG4:=hd hg1;have HE4:=hd hg2;have mH:=Zh (HB.o.trans (hb4.mono HB2.o.size));have HZ4:=Zh (Zl vJ.o hb4.size);have hfz:=fun j=>QU HE4.o j
   have aAD:=Yy.o (k+1);have hk2:k<2:=by omega
   have hsub:wrap64 (((AC (k+1)).length:Int)-1)=((AC (k+1)).length:Int)-1:=by unfold wrap64; omega
   obtain⟨w5,uT⟩:∃ x,w4.setCell (aD w1.heap.size k) (.int .i64 (((AC (k+1)).length:Int)-1))=x:=⟨_,rfl⟩
   have BM:Hid (w5.ownsRow w2.heap.size 58 7 (.slice ya (AC (k+1)).length yc) (AC (k+1)).length ((AC (k+1)).flatMap ai.list)):=by
    rw[<- uT];exact ZN zA (XP (g:=w1.heap.size) _) (fun g hg=>by have:=(ZO zA hg).1; omega)
   have FW:Hid (GB w5 w.heap.size 58 #[.int .i64 kind,.int .i64 nl,.int .i64 nr,.int .i64 src,.slice ca cl.length cc,.int .i64 key,.slice da co.length dc]):=by
    rw[<- uT];exact Z6 HG4.o (XP (g:=w1.heap.size) _) (by have:=pO.o; omega)
   have HE5:Hid (GB w5 w1.heap.size 303 #[.int .i64 (if 0<k+1 then ((AC 1).length:Int)-1 else 0),.int .i64 (if 1<k+1 then ((AC 2).length:Int)-1 else 0)]):=by
    show GB _ _ _ _
    have:=GB.set HE4.o k (.int .i64 (((AC (k+1)).length:Int)-1));rw[<- uT]
    match k,hk2,this with
    | 0,_,h => exact h
    | 1,_,h => exact h
   have kF:Hid (Bw w w5):=by
    show Below _ _ _
    rw[<- uT];exact mH.o.trans ((XP (g:=w1.heap.size) _).below mH.o.size (fun b hb=>by have:=pO.o; omega))
   have HZ5:Hid (w2.heap.size<=w5.heap.size):=by show _<=_; rw[<- uT]; simpa using HZ4.o
   have hce:∃ u,w4.cell? (aD w1.heap.size k)=some u:=by
    match k,hk2 with
    | 0,_ => exact⟨_,HE4.o.cell 0⟩
    | 1,_ => exact⟨_,HE4.o.cell 1⟩
   obtain⟨cu,hce⟩:=hce;have hfk:=hfz k;clear Ii hb4 hg1 hg2 zA hk4 ho3 anf hnb hb3 hfz HO wC yR Kz hA0 hA1;go_wp2_with (first | (at_builtin; refine Z8 rfl (.tmp 16) (.tmp 20) 27 rfl (.slice xa (AC k).length xc) (.slice ta tm tc) (.slice ya (AC (k+1)).length yc) w4 rfl rfl hr4 ?_));clear hr4 hck;go_wp2;go_roundw
   case rel=>exact⟨k+1,by omega,by go_num,BM.o,FW.o,HE5.o,kF.o,HZ5.o⟩
   case measure=>simp[intOf]; omega
  ·have hks:sl=k:=by omega
   subst hks;have h0:(if 0<sl then ((AC 1).length:Int)-1 else 0)=rX LS 0:=(OM.o 0 (by omega)).symm;have h1:(if 1<sl then ((AC 2).length:Int)-1 else 0)=rX LS 1:=(OM.o 1 (by omega)).symm;rw[h0,h1]at yR;obtain⟨e0,he0⟩:∃ e,e=rX LS 0:=⟨_,rfl⟩
   obtain⟨e1,he1⟩:∃ e,e=rX LS 1:=⟨_,rfl⟩
   rw[<- he0,<- he1]at yR kX;obtain⟨w3,hw3⟩:∃ x,x=wr:=⟨_,rfl⟩
   subst hw3;clear h0 h1 he0 he1 OM HEL HAS hlt hk HA0;have xU:Hid (w.heap.size<w2.heap.size/\w1.heap.size<w2.heap.size/\w.heap.size<w1.heap.size):=by have:=pO.o; have:=HS2.o; show _/\_; omega
   have hne:w1.heap.size≠w.heap.size:=by have:=xU.o; omega
   obtain⟨z0,z1⟩:=yR.o.k2;have hgd:=wC.o.of (((Qw w3.heap.size w3).drew).block _ wC.o.lt);have d1:=hgd.at 1;have f1:=hgd.frozen 1;have hge:=wC.o.set 1 (.int .i64 e0);have hge':=hge.of (((Qw _ _).drew).block _ hge.lt);have d2:(w3.setCell (aD w.heap.size 1) (.int .i64 e0)).drew.cell? (aD w.heap.size 2)=some (.int .i64 nr):=hge'.cell 2;have f2:=hge'.frozen 2;have hgf:=hge.set 2 (.int .i64 e1);have aiL:=hgf.of (((Qw _ _).drew).block _ hgf.lt);obtain⟨w5,uT⟩:∃ x,((w3.setCell (aD w.heap.size 1) (.int .i64 e0)).setCell (aD w.heap.size 2) (.int .i64 e1)).drew=x:=⟨_,rfl⟩
   rw[uT]at aiL;have FW:=hd aiL;have LU:Kept (fun b=>b≠w.heap.size) w3 w5:=by
    rw[<- uT];exact((XP (g:=w.heap.size) _).trans (XP (g:=w.heap.size) _)).trans (Zo ((Qw _ _).drew) (fun _ hl _=>hl))
   have BM:=Zh (ZN HO.o LU (fun g hg=>by have:=(ZO HO.o hg).1; have:=xU.o; omega));have kF:=Zh (HB.o.trans (LU.below HB.o.size (fun b hb=>by have:=xU.o; omega)));have HZ5:=Zh (Zl vJ.o LU.size);clear hge hge' hgf aiL hgd;go_wp2_with fail;refine QX (S:=fun x=>Kept (fun b=>b≠w.heap.size) w3 x) (by kernel_rfl) (Zo ((Qw w3.heap.size w3).drew) (fun _ hl _=>hl)) (fun hS=>?_);refine wt 0 (.pointer (some (aD w1.heap.size 0))) hS ?_;refine wT 1 (.int .i64 e0) hS (fun x hx=>?_) ?_
   ·have e0:=ZI z0 hx hne;go_simp
   refine wt 2 (.pointer (some (aD w1.heap.size 1))) hS ?_;refine wT 3 (.int .i64 e1) hS (fun x hx=>?_) ?_
   ·have e0:=ZI z1 hx hne;go_simp
   refine wt 4 (.pointer (some (aD w.heap.size 1))) hS ?_;refine wR 5 fun K hK=>?_
   go_simp;refine hK.o _ _ (hS.trans (ZL _ _ _ (fun h=>h rfl))) (fun hS=>?_);clear hK K;refine wt 6 (.pointer (some (aD w.heap.size 2))) hS ?_;refine wR 7 fun K hK=>?_
   go_simp;refine hK.o _ _ LU fun hS=>?_
   clear hK K;refine wD ?_
   try simp only[pU]
   try rw[uT]
   clear LU;have n4:=FW.o.at 4;have n6:=FW.o.at 6;clear hS z0 z1 d1 d2 f1 f2 uT HO wC yR HB vJ;go_wp2_with fail;refine QX (S:=fun x=>Kept (fun b=>b≠w.heap.size) w5 x) (by kernel_rfl) (Zo ((Qw w5.heap.size w5).drew) (fun _ hl _=>hl)) (fun hS=>?_);refine wt 0 (.pointer (some (aD w.heap.size 4))) hS ?_;refine wt 3 (.pointer (some (aD w.heap.size 6))) hS ?_;have hB:=(Qw w5.heap.size w5).drew;refine wJ 1 4 (fun K hK=>?_) fun K hK=>?_
   ·skip;have lo:=cB hB n4;go_simp;refine hK.o _ _ hS fun hS=>?_
    clear hK K lo;refine wJ 2 4 (fun K hK=>?_) fun K hK=>?_
    ·skip;go_simp;refine Xt (yT.o _ (kF.o.trans (hB.mono kF.o.size))) ?_;rintro e wA ⟨vv,rfl,hvv,hbb⟩;obtain⟨ivy,qw,hxy,yF⟩:=qV (F:=fun b=>F b/\w5.heap.size<=b) hvv (by have:=Um.o; omega) (fun b hb=>⟨xQ.o b (Zl kF.o.size (Zl hB.size hb)),Zl hB.size hb⟩);obtain⟨ya,yc,yx⟩:=ivy;simp only[ah.val]at qw hxy;subst qw;have hxy:=hxy.symm;subst hxy;have hB:=hB.trans (hbb.mono hB.size);refine hK.o _ _ (Zo hB (fun b hb _=>hb)) (fun hS=>?_);clear hK K;refine wR 4 fun K hK=>?_
     have lo:=cB hB n6;go_simp;refine hK.o _ _ hS fun hS=>?_
     clear hK K lo;refine wt 6 (.pointer (some (aD w.heap.size 4))) hS ?_;refine wR 5 fun K hK=>?_
     go_simp;refine Xt (xE.o _ (kF.o.trans (hB.mono kF.o.size))) ?_;rintro e wB ⟨vv,rfl,hvv,hbb⟩;obtain⟨ivz,qw,hxz,LV⟩:=qV (F:=fun b=>F b/\w5.heap.size<=b) hvv (by have:=Um.o; omega) (fun b hb=>⟨xQ.o b (Zl kF.o.size (Zl hB.size hb)),Zl hB.size hb⟩);obtain⟨za,zc,zx⟩:=ivz;simp only[ah.val]at qw hxz;subst qw;have hxz:=hxz.symm;subst hxz;have hB:=hB.trans (hbb.mono hB.size);have yF:=yF.below hbb;refine hK.o _ _ (Zo hB (fun b hb _=>hb)) (fun hS=>?_);clear hK K;have hgB:GB wB w.heap.size 58 #[.int .i64 kind,.int .i64 e0,.int .i64 e1,.int .i64 src,.slice ca cl.length cc,.int .i64 key,.slice da co.length dc]:=FW.o.of (hB.block _ FW.o.lt);have m4:=hgB.at 4;have f4:=hgB.frozen 4;have Sl:=hgB.set 4 (.slice ya cl.length yc);have m6:(wB.setCell (aD w.heap.size 4) (.slice ya cl.length yc)).cell? (aD w.heap.size 6)=some (.slice da co.length dc):=Sl.cell 6;have f6:=Sl.frozen 6;have hgD:=Sl.set 6 (.slice za co.length zc);refine wR 7 fun K hK=>?_
     go_simp;refine hK.o _ _ (hS.trans (XP (g:=w.heap.size) (j:=4) (.slice ya cl.length yc))) (fun hS=>?_);clear hK K;refine wt 8 (.pointer (some (aD w.heap.size 6))) hS ?_;refine wR 9 fun K hK=>?_
     go_simp;refine hK.o _ _ (hS.trans (XP (g:=w.heap.size) (j:=6) (.slice za co.length zc))) (fun hS=>?_);clear hK K;refine wD ?_
     try simp only[pU]
     obtain⟨w6,lS⟩:∃ x,(wB.setCell (aD w.heap.size 4) (.slice ya cl.length yc)).setCell (aD w.heap.size 6) (.slice za co.length zc)=x:=⟨_,rfl⟩
     rw[lS]at hgD ⊢;have hkB:Kept (fun b=>b≠w.heap.size) wB w6:=by
      rw[<- lS];exact(XP (g:=w.heap.size) _).trans (XP (g:=w.heap.size) _)
     have rA:=(Zo hB (fun b hb _=>hb)).trans hkB;have Y2:=ZN BM.o rA (fun g hg=>by have:=(ZO BM.o hg).1; have:=xU.o; omega);have hb6:=kF.o.trans (rA.below kF.o.size (fun b hb=>by have:=xU.o; omega));obtain⟨v7,w7,pQ,KI,lu,⟨qa,qm,qc,rfl⟩⟩:=zN w6 w2.heap.size (.slice xa (AC sl).length xc) (AC sl) Y2 (by have:=Yy.o sl; omega) (Zl HZ5.o rA.size) ⟨kind,e0,e1,src,⟨ya,yc,cl⟩,key,⟨za,zc,co⟩⟩ 27;simp only[ai.cells,ah.val]at pQ;have LD:=FW.o.lt;have hown5:∀ b,(Value.slice xa (AC sl).length xc).ownBlock=some b->w2.heap.size<=b/\b<w5.heap.size:=fun b e=>ZO BM.o e
     have hiy:=((yF.aX (hkB.mono fun b _ h=>by have:=h.2; omega)).aX (lu.mono fun b _ h e=>by have:=(hown5 b e).2; have:=h.2; omega)).mono fun b _ h=>h.1
     have hiz:=((LV.aX (hkB.mono fun b _ h=>by have:=h.2; omega)).aX (lu.mono fun b _ h e=>by have:=(hown5 b e).2; have:=h.2; omega)).mono fun b _ h=>h.1
     have iZ:=hb6.trans (lu.below hb6.size (fun b hb e=>by have:=(hown5 b e).1; have:=xU.o; omega));have HF:Hid _:=kX.o w7 (.slice qa qm qc) ⟨ya,yc,cl⟩ ⟨za,zc,co⟩ iZ (yE KI (by have:=xU.o; omega)) rfl rfl hiy hiz;obtain⟨t0,t1,t2,t3,t4,t5,t6⟩:=hgD.k7;clear hgB Sl hgD hkB rA Y2 hb6 KI lu LD hown5 hiy hiz iZ yF LV hS hB m4 m6 f4 f6 lS;go_wp2_with (first | (at_builtin; refine Z8 rfl (.tmp 42) (.tmp 44) 27 rfl (.slice xa (AC sl).length xc) (.slice (some (aD w6.heap.size 0)) 1 1) (.slice qa qm qc) w7 rfl rfl pQ ?_));clear pQ;go_wp2;go_ret;exact HF.o
    ·skip;have lo:=cB hB n6;go_simp;refine hK.o _ _ hS fun hS=>?_
     clear hK K lo;refine wR 2 fun K hK=>?_
     go_simp;refine Xt (yT.o _ (kF.o.trans (hB.mono kF.o.size))) ?_;rintro e wA ⟨vv,rfl,hvv,hbb⟩;obtain⟨ivy,qw,hxy,yF⟩:=qV (F:=fun b=>F b/\w5.heap.size<=b) hvv (by have:=Um.o; omega) (fun b hb=>⟨xQ.o b (Zl kF.o.size (Zl hB.size hb)),Zl hB.size hb⟩);obtain⟨ya,yc,yx⟩:=ivy;simp only[ah.val]at qw hxy;subst qw;have hxy:=hxy.symm;subst hxy;have hB:=hB.trans (hbb.mono hB.size);refine hK.o _ _ (Zo hB (fun b hb _=>hb)) (fun hS=>?_);clear hK K;refine wt 6 (.pointer (some (aD w.heap.size 4))) hS ?_;refine wR 5 fun K hK=>?_
     go_simp;refine Xt (xE.o _ (kF.o.trans (hB.mono kF.o.size))) ?_;rintro e wB ⟨vv,rfl,hvv,hbb⟩;obtain⟨ivz,qw,hxz,LV⟩:=qV (F:=fun b=>F b/\w5.heap.size<=b) hvv (by have:=Um.o; omega) (fun b hb=>⟨xQ.o b (Zl kF.o.size (Zl hB.size hb)),Zl hB.size hb⟩);obtain⟨za,zc,zx⟩:=ivz;simp only[ah.val]at qw hxz;subst qw;have hxz:=hxz.symm;subst hxz;have hB:=hB.trans (hbb.mono hB.size);have yF:=yF.below hbb;refine hK.o _ _ (Zo hB (fun b hb _=>hb)) (fun hS=>?_);clear hK K;have hgB:GB wB w.heap.size 58 #[.int .i64 kind,.int .i64 e0,.int .i64 e1,.int .i64 src,.slice ca cl.length cc,.int .i64 key,.slice da co.length dc]:=FW.o.of (hB.block _ FW.o.lt);have m4:=hgB.at 4;have f4:=hgB.frozen 4;have Sl:=hgB.set 4 (.slice ya cl.length yc);have m6:(wB.setCell (aD w.heap.size 4) (.slice ya cl.length yc)).cell? (aD w.heap.size 6)=some (.slice da co.length dc):=Sl.cell 6;have f6:=Sl.frozen 6;have hgD:=Sl.set 6 (.slice za co.length zc);refine wR 7 fun K hK=>?_
     go_simp;refine hK.o _ _ (hS.trans (XP (g:=w.heap.size) (j:=4) (.slice ya cl.length yc))) (fun hS=>?_);clear hK K;refine wt 8 (.pointer (some (aD w.heap.size 6))) hS ?_;refine wR 9 fun K hK=>?_
     go_simp;refine hK.o _ _ (hS.trans (XP (g:=w.heap.size) (j:=6) (.slice za co.length zc))) (fun hS=>?_);clear hK K;refine wD ?_
     try simp only[pU]
     obtain⟨w6,lS⟩:∃ x,(wB.setCell (aD w.heap.size 4) (.slice ya cl.length yc)).setCell (aD w.heap.size 6) (.slice za co.length zc)=x:=⟨_,rfl⟩
     rw[lS]at hgD ⊢;have hkB:Kept (fun b=>b≠w.heap.size) wB w6:=by
      rw[<- lS];exact(XP (g:=w.heap.size) _).trans (XP (g:=w.heap.size) _)
     have rA:=(Zo hB (fun b hb _=>hb)).trans hkB;have Y2:=ZN BM.o rA (fun g hg=>by have:=(ZO BM.o hg).1; have:=xU.o; omega);have hb6:=kF.o.trans (rA.below kF.o.size (fun b hb=>by have:=xU.o; omega));obtain⟨v7,w7,pQ,KI,lu,⟨qa,qm,qc,rfl⟩⟩:=zN w6 w2.heap.size (.slice xa (AC sl).length xc) (AC sl) Y2 (by have:=Yy.o sl; omega) (Zl HZ5.o rA.size) ⟨kind,e0,e1,src,⟨ya,yc,cl⟩,key,⟨za,zc,co⟩⟩ 27;simp only[ai.cells,ah.val]at pQ;have LD:=FW.o.lt;have hown5:∀ b,(Value.slice xa (AC sl).length xc).ownBlock=some b->w2.heap.size<=b/\b<w5.heap.size:=fun b e=>ZO BM.o e
     have hiy:=((yF.aX (hkB.mono fun b _ h=>by have:=h.2; omega)).aX (lu.mono fun b _ h e=>by have:=(hown5 b e).2; have:=h.2; omega)).mono fun b _ h=>h.1
     have hiz:=((LV.aX (hkB.mono fun b _ h=>by have:=h.2; omega)).aX (lu.mono fun b _ h e=>by have:=(hown5 b e).2; have:=h.2; omega)).mono fun b _ h=>h.1
     have iZ:=hb6.trans (lu.below hb6.size (fun b hb e=>by have:=(hown5 b e).1; have:=xU.o; omega));have HF:Hid _:=kX.o w7 (.slice qa qm qc) ⟨ya,yc,cl⟩ ⟨za,zc,co⟩ iZ (yE KI (by have:=xU.o; omega)) rfl rfl hiy hiz;obtain⟨t0,t1,t2,t3,t4,t5,t6⟩:=hgD.k7;clear hgB Sl hgD hkB rA Y2 hb6 KI lu LD hown5 hiy hiz iZ yF LV hS hB m4 m6 f4 f6 lS;go_wp2_with (first | (at_builtin; refine Z8 rfl (.tmp 42) (.tmp 44) 27 rfl (.slice xa (AC sl).length xc) (.slice (some (aD w6.heap.size 0)) 1 1) (.slice qa qm qc) w7 rfl rfl pQ ?_));clear pQ;go_wp2;go_ret;exact HF.o
   ·skip;have lo:=cB hB n6;go_simp;refine hK.o _ _ hS fun hS=>?_
    clear hK K lo;refine wR 1 fun K hK=>?_
    have lo:=cB hB n4;go_simp;refine hK.o _ _ hS fun hS=>?_
    clear hK K lo;refine wR 2 fun K hK=>?_
    go_simp;refine Xt (yT.o _ (kF.o.trans (hB.mono kF.o.size))) ?_;rintro e wA ⟨vv,rfl,hvv,hbb⟩;obtain⟨ivy,qw,hxy,yF⟩:=qV (F:=fun b=>F b/\w5.heap.size<=b) hvv (by have:=Um.o; omega) (fun b hb=>⟨xQ.o b (Zl kF.o.size (Zl hB.size hb)),Zl hB.size hb⟩);obtain⟨ya,yc,yx⟩:=ivy;simp only[ah.val]at qw hxy;subst qw;have hxy:=hxy.symm;subst hxy;have hB:=hB.trans (hbb.mono hB.size);refine hK.o _ _ (Zo hB (fun b hb _=>hb)) (fun hS=>?_);clear hK K;refine wt 6 (.pointer (some (aD w.heap.size 4))) hS ?_;refine wR 5 fun K hK=>?_
    go_simp;refine Xt (xE.o _ (kF.o.trans (hB.mono kF.o.size))) ?_;rintro e wB ⟨vv,rfl,hvv,hbb⟩;obtain⟨ivz,qw,hxz,LV⟩:=qV (F:=fun b=>F b/\w5.heap.size<=b) hvv (by have:=Um.o; omega) (fun b hb=>⟨xQ.o b (Zl kF.o.size (Zl hB.size hb)),Zl hB.size hb⟩);obtain⟨za,zc,zx⟩:=ivz;simp only[ah.val]at qw hxz;subst qw;have hxz:=hxz.symm;subst hxz;have hB:=hB.trans (hbb.mono hB.size);have yF:=yF.below hbb;refine hK.o _ _ (Zo hB (fun b hb _=>hb)) (fun hS=>?_);clear hK K;have hgB:GB wB w.heap.size 58 #[.int .i64 kind,.int .i64 e0,.int .i64 e1,.int .i64 src,.slice ca cl.length cc,.int .i64 key,.slice da co.length dc]:=FW.o.of (hB.block _ FW.o.lt);have m4:=hgB.at 4;have f4:=hgB.frozen 4;have Sl:=hgB.set 4 (.slice ya cl.length yc);have m6:(wB.setCell (aD w.heap.size 4) (.slice ya cl.length yc)).cell? (aD w.heap.size 6)=some (.slice da co.length dc):=Sl.cell 6;have f6:=Sl.frozen 6;have hgD:=Sl.set 6 (.slice za co.length zc);refine wR 7 fun K hK=>?_
    go_simp;refine hK.o _ _ (hS.trans (XP (g:=w.heap.size) (j:=4) (.slice ya cl.length yc))) (fun hS=>?_);clear hK K;refine wt 8 (.pointer (some (aD w.heap.size 6))) hS ?_;refine wR 9 fun K hK=>?_
    go_simp;refine hK.o _ _ (hS.trans (XP (g:=w.heap.size) (j:=6) (.slice za co.length zc))) (fun hS=>?_);clear hK K;refine wD ?_
    try simp only[pU]
    obtain⟨w6,lS⟩:∃ x,(wB.setCell (aD w.heap.size 4) (.slice ya cl.length yc)).setCell (aD w.heap.size 6) (.slice za co.length zc)=x:=⟨_,rfl⟩
    rw[lS]at hgD ⊢;have hkB:Kept (fun b=>b≠w.heap.size) wB w6:=by
     rw[<- lS];exact(XP (g:=w.heap.size) _).trans (XP (g:=w.heap.size) _)
    have rA:=(Zo hB (fun b hb _=>hb)).trans hkB;have Y2:=ZN BM.o rA (fun g hg=>by have:=(ZO BM.o hg).1; have:=xU.o; omega);have hb6:=kF.o.trans (rA.below kF.o.size (fun b hb=>by have:=xU.o; omega));obtain⟨v7,w7,pQ,KI,lu,⟨qa,qm,qc,rfl⟩⟩:=zN w6 w2.heap.size (.slice xa (AC sl).length xc) (AC sl) Y2 (by have:=Yy.o sl; omega) (Zl HZ5.o rA.size) ⟨kind,e0,e1,src,⟨ya,yc,cl⟩,key,⟨za,zc,co⟩⟩ 27;simp only[ai.cells,ah.val]at pQ;have LD:=FW.o.lt;have hown5:∀ b,(Value.slice xa (AC sl).length xc).ownBlock=some b->w2.heap.size<=b/\b<w5.heap.size:=fun b e=>ZO BM.o e
    have hiy:=((yF.aX (hkB.mono fun b _ h=>by have:=h.2; omega)).aX (lu.mono fun b _ h e=>by have:=(hown5 b e).2; have:=h.2; omega)).mono fun b _ h=>h.1
    have hiz:=((LV.aX (hkB.mono fun b _ h=>by have:=h.2; omega)).aX (lu.mono fun b _ h e=>by have:=(hown5 b e).2; have:=h.2; omega)).mono fun b _ h=>h.1
    have iZ:=hb6.trans (lu.below hb6.size (fun b hb e=>by have:=(hown5 b e).1; have:=xU.o; omega));have HF:Hid _:=kX.o w7 (.slice qa qm qc) ⟨ya,yc,cl⟩ ⟨za,zc,co⟩ iZ (yE KI (by have:=xU.o; omega)) rfl rfl hiy hiz;obtain⟨t0,t1,t2,t3,t4,t5,t6⟩:=hgD.k7;clear hgB Sl hgD hkB rA Y2 hb6 KI lu LD hown5 hiy hiz iZ yF LV hS hB m4 m6 f4 f6 lS;go_wp2_with (first | (at_builtin; refine Z8 rfl (.tmp 42) (.tmp 44) 27 rfl (.slice xa (AC sl).length xc) (.slice (some (aD w6.heap.size 0)) 1 1) (.slice qa qm qc) w7 rfl rfl pQ ?_));clear pQ;go_wp2;go_ret;exact HF.o
