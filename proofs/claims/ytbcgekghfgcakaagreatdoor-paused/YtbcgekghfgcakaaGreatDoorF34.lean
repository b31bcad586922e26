import Derived.Test.YtbcgekghfgcakaaGreatDoorF31
set_option linter.all false
set_option maxRecDepth 100000
set_option maxHeartbeats 16000000
namespace Go.Proofs.Zz
open Go.RowKit Go.Shelf
def oQ (t:af):List Value:=[.int .i64 t.aH,.int .i64 t.rows,.int .i64 t.k0,.int .i64 t.k1,.int .i64 t.k2,.int .i64 t.k3]
theorem Aj {w:World} {base:Nat} {e:TypeId} {v:Value} {ts:List af} (h:w.ownsRow base e 6 v ts.length (ts.flatMap oQ)) (hl:ts.length<=1000) :
  ∃ ad cap,v=.slice ad ts.length cap/\aJ w ad ts:=by
 rcases h.2 with⟨rfl,h0⟩ | ⟨g,cap,cur,rfl,hb,hh,hc,_,hcs,ht⟩
 ·have:=Qz h0;subst this;exact⟨none,0,rfl,by simp,fun i hi=>absurd hi (by simp)⟩
 ·refine⟨some (aD g 0),cap,rfl,by omega,fun i hi=>⟨g,0,rfl,?_⟩⟩;have hcell:∀ j u,j<6->(oQ (ts.getD i tz))[j]? = some u->w.cell? (aD g (0+i*6+j))=some u:=fun j u hj hu=>by
   have h1:=ZR oQ 6 (fun _=>rfl) tz ts i j hi hj;rw[hu,<- ht,ZH] at h1;split at h1
   ·rw[QE,QG (show GB w g _ cur from hh)]
    simpa using h1
   ·cases h1
  exact⟨hcell 0 _ (by omega) rfl,hcell 1 _ (by omega) rfl,hcell 2 _ (by omega) rfl,hcell 3 _ (by omega) rfl,hcell 4 _ (by omega) rfl,hcell 5 _ (by omega) rfl⟩
theorem H7 {w:World} {a:Addr} {xs:List af} (h:aJ w (some a) xs):∀ j u,(xs.flatMap oQ)[j]? = some u->∃ b off,some a=some (aD b off)/\w.cell? (aD b (off+j))=some u:=by
 intro j u hj;have hjl:j<xs.length*6:=by
  have:=(ZF.1 hj).1;rw[iV oQ 6 (fun _=>rfl)] at this;exact this
 have hi:j / 6<xs.length:=by omega
 obtain⟨b,off,e,c0,c1,c2,c3,c4,c5⟩:=h.2 (j / 6) hi;refine⟨b,off,e,?_⟩;have hr:j % 6<6:=by omega
 have hg:=ZR oQ 6 (fun _=>rfl) tz xs (j / 6) (j % 6) hi hr;have hj2:j / 6*6+j % 6=j:=by omega
 rw[hj2,hj] at hg;rw[<- hj2];generalize j / 6=i at *;generalize j % 6=r at *
 match r,hr,hg with
 | 0,_,hg =>
  injection hg with hg;rw[hg,ZU];exact c0
 | 1,_,hg =>
  injection hg with hg;rw[hg,<- XE];exact c1
 | 2,_,hg =>
  injection hg with hg;rw[hg,<- XE];exact c2
 | 3,_,hg =>
  injection hg with hg;rw[hg,<- XE];exact c3
 | 4,_,hg =>
  injection hg with hg;rw[hg,<- XE];exact c4
 | 5,_,hg =>
  injection hg with hg;rw[hg,<- XE];exact c5
theorem LZ {w:World} {a:Addr} {xs:List aj} (h:aR w (some a) xs):∀ j u,(xs.flatMap aj.vals)[j]? = some u->∃ b off,some a=some (aD b off)/\w.cell? (aD b (off+j))=some u:=by
 intro j u hj;have hjl:j<xs.length*5:=by
  have:=(ZF.1 hj).1;rw[iV aj.vals 5 (fun _=>rfl)] at this;exact this
 have hi:j / 5<xs.length:=by omega
 obtain⟨b,off,e,c0,c1,c2,c3,c4⟩:=h.2 (j / 5) hi;refine⟨b,off,e,?_⟩;have hr:j % 5<5:=by omega
 have hg:=ZR aj.vals 5 (fun _=>rfl) cz xs (j / 5) (j % 5) hi hr;have hj2:j / 5*5+j % 5=j:=by omega
 rw[hj2,hj] at hg;rw[<- hj2];generalize j / 5=i at *;generalize j % 5=r at *
 match r,hr,hg with
 | 0,_,hg =>
  injection hg with hg;rw[hg,ZU];exact c0
 | 1,_,hg =>
  injection hg with hg;rw[hg,<- XE];exact c1
 | 2,_,hg =>
  injection hg with hg;rw[hg,<- XE];exact c2
 | 3,_,hg =>
  injection hg with hg;rw[hg,<- XE];exact c3
 | 4,_,hg =>
  injection hg with hg;rw[hg,<- XE];exact c4
theorem Tryz.Oq:(Tryz.prog.info? 54).map (fun i=>(i.zero,i.size,i.bytes))=some (some (.agg #[.int .i64 0,.int .i64 0,.int .i64 0,.int .i64 0,.int .i64 0,.int .i64 0]),6,48):=by kernel_rfl
theorem yV (ao:Option Addr) (cap:Nat) (xs:List af) (w:World) (hx:aJ w ao xs) (hn:ao=none->cap=0) (hl:xs.length<=1000) :
  Calls Tryz.prog 36 #[.slice ao xs.length cap] w fun e w'=>∃ v,e=.returned v/\w'.ownsRow w.heap.size 54 6 v xs.length (xs.flatMap oQ)/\Below w.heap.size w w':=by
 obtain⟨i0,hi,hz0,hz1,hz2⟩:=ZC Tryz.Oq
 cases ao with
 | none =>
  obtain rfl:cap=0:=hn rfl;have h0:xs=[]:=by
   cases xs with
   | nil => rfl
   | cons x xs => obtain⟨b,off,e,_⟩:=hx.2 0 (by simp); cases e
  subst h0;have hnil:∀ W,(binOp .eql 23 (.slice none 0 0) (.slice none 0 0)).run Tryz.prog W=.ok (.bool true) W:=fun W=>XC W 23 _ none _ _ _ _ Tryz.underlying23
  go_enter Tryz.func36,Tryz.ntmps36;go_wp2;go_ret;exact⟨_,rfl,ZE _ _ _ _,Qp _ _⟩
 | some a =>
  obtain⟨v',w',hr,ho,hbw,⟨va,vm,vc,rfl⟩⟩:=lL (P:=Tryz.prog) w 23 23 54 i0 _ 6 48 Tryz.underlying23 hi hz0 hz1 hz2 rfl (by decide) a xs.length cap (xs.flatMap oQ) (iV oQ 6 (fun _=>rfl) xs) (H7 hx) (fun u hu=>by
   obtain⟨x,_,hx⟩:=Xz.1 hu;simp[oQ] at hx;rcases hx with rfl | rfl | rfl | rfl | rfl | rfl <;> rfl) (by omega) (by decide)
  have hnil:∀ W,(binOp .eql 23 (.slice (some a) xs.length cap) (.slice none 0 0)).run Tryz.prog W=.ok (.bool false) W:=fun W=>XC W 23 _ (some a) _ _ _ _ Tryz.underlying23
  have HO:Hid _:=ho;have HB:=Zh hbw;go_enter Tryz.func36,Tryz.ntmps36;go_wp2_with (first | (at_builtin; refine ZN rfl (.tmp 5) (.tmp 6) 23 rfl (.slice (some (aD w.heap.size 0)) 0 0) (.slice (some a) xs.length cap) (.slice va vm vc) w' rfl rfl hr ?_));go_wp2;go_ret;exact⟨_,rfl,HO.out,HB.out⟩
theorem Al (ao:Option Addr) (cap:Nat) (xs:List aj) (w:World) (hx:aR w ao xs) (hn:ao=none->cap=0) (hl:xs.length<=1000) :
  Calls Tryz.prog 65 #[.slice ao xs.length cap] w fun e w'=>∃ v,e=.returned v/\w'.ownsRow w.heap.size 73 5 v xs.length (xs.flatMap aj.vals)/\Below w.heap.size w w':=by
 obtain⟨i0,hi,hz0,hz1,hz2⟩:=ZC Tryz.Ai
 cases ao with
 | none =>
  obtain rfl:cap=0:=hn rfl;have h0:xs=[]:=by
   cases xs with
   | nil => rfl
   | cons x xs => obtain⟨b,off,e,_⟩:=hx.2 0 (by simp); cases e
  subst h0;have hnil:∀ W,(binOp .eql 75 (.slice none 0 0) (.slice none 0 0)).run Tryz.prog W=.ok (.bool true) W:=fun W=>XC W 75 _ none _ _ _ _ Tryz.underlying75
  go_enter Tryz.func65,Tryz.ntmps65;go_wp2;go_ret;exact⟨_,rfl,ZE _ _ _ _,Qp _ _⟩
 | some a =>
  obtain⟨v',w',hr,ho,hbw,⟨va,vm,vc,rfl⟩⟩:=lL (P:=Tryz.prog) w 75 75 73 i0 _ 5 40 Tryz.underlying75 hi hz0 hz1 hz2 rfl (by decide) a xs.length cap (xs.flatMap aj.vals) (iV aj.vals 5 (fun _=>rfl) xs) (LZ hx) (fun u hu=>by
   obtain⟨x,_,hx⟩:=Xz.1 hu;simp[aj.vals] at hx;rcases hx with rfl | rfl | rfl | rfl | rfl <;> rfl) (by omega) (by decide)
  have hnil:∀ W,(binOp .eql 75 (.slice (some a) xs.length cap) (.slice none 0 0)).run Tryz.prog W=.ok (.bool false) W:=fun W=>XC W 75 _ (some a) _ _ _ _ Tryz.underlying75
  have HO:Hid _:=ho;have HB:=Zh hbw;go_enter Tryz.func65,Tryz.ntmps65;go_wp2_with (first | (at_builtin; refine ZN rfl (.tmp 5) (.tmp 6) 75 rfl (.slice (some (aD w.heap.size 0)) 0 0) (.slice (some a) xs.length cap) (.slice va vm vc) w' rfl rfl hr ?_));go_wp2;go_ret;exact⟨_,rfl,HO.out,HB.out⟩
theorem xB (ao:Option Addr) (cap:Nat) (xs:List ay) (w:World) (hx:xs.length<=1152921504606846976/\aY w ao xs.length (fun i=>(xs.getD i lz).val)) (hn:ao=none->cap=0) (hl:xs.length<=1000) :
  Calls Tryz.prog 64 #[.slice ao xs.length cap] w fun e w'=>∃ v,e=.returned v/\w'.ownsRow w.heap.size 77 1 v xs.length (xs.map ay.val)/\Below w.heap.size w w':=by
 obtain⟨i0,hi,hz0,hz1,hz2⟩:=ZC Tryz.ui
 cases ao with
 | none =>
  obtain rfl:cap=0:=hn rfl;have h0:xs=[]:=by
   cases xs with
   | nil => rfl
   | cons x xs => obtain⟨b,off,e,_⟩:=hx.2 0 (by simp); cases e
  subst h0;have hnil:∀ W,(binOp .eql 24 (.slice none 0 0) (.slice none 0 0)).run Tryz.prog W=.ok (.bool true) W:=fun W=>XC W 24 _ none _ _ _ _ Tryz.underlying24
  go_enter Tryz.func64,Tryz.ntmps64;go_wp2;go_ret;exact⟨_,rfl,ZE _ _ _ _,Qp _ _⟩
 | some a =>
  obtain⟨v',w',hr,ho,hbw,⟨va,vm,vc,rfl⟩⟩:=lL (P:=Tryz.prog) w 24 24 77 i0 _ 1 24 Tryz.underlying24 hi hz0 hz1 hz2 rfl (by decide) a xs.length cap (xs.map ay.val) (by simp) (fun j u hj=>by
   rw[QW] at hj;by_cases hjl:j<xs.length
   ·obtain⟨b',off',e,hc⟩:=hx.2 j hjl;refine⟨b',off',e,?_⟩;rw[hc];simp[List.getD,hjl] at hj ⊢;exact hj
   ·rw[Xr (by omega)] at hj; cases hj) (fun u hu=>by obtain⟨x,_,rfl⟩:=Q0.1 hu; rfl) (by omega) (by decide)
  have hnil:∀ W,(binOp .eql 24 (.slice (some a) xs.length cap) (.slice none 0 0)).run Tryz.prog W=.ok (.bool false) W:=fun W=>XC W 24 _ (some a) _ _ _ _ Tryz.underlying24
  have HO:Hid _:=ho;have HB:=Zh hbw;go_enter Tryz.func64,Tryz.ntmps64;go_wp2_with (first | (at_builtin; refine ZN rfl (.tmp 5) (.tmp 6) 24 rfl (.slice (some (aD w.heap.size 0)) 0 0) (.slice (some a) xs.length cap) (.slice va vm vc) w' rfl rfl hr ?_));go_wp2;go_ret;exact⟨_,rfl,HO.out,HB.out⟩
theorem aR.aT {w w':World} {ao:Option Addr} {cs:List aj} {s:Nat->Prop} (h:aR w ao cs) (hk:Kept s w w') (hs:0<cs.length->∀ a,ao=some a->s a.block):aR w' ao cs:=⟨h.1,fun i hi=>by
 obtain⟨b,off,e,c0,c1,c2,c3,c4⟩:=h.2 i hi;have hb:s b:=hs (by omega) (aD b off) e;have key:∀ {o:Nat} {v:Value},w.cell? (aD b o)=some v->w'.cell? (aD b o)=some v:=fun {o v} hc=>by
  rw[Zg (hk.block b (Zf hc) hb)];exact hc
 exact⟨b,off,e,key c0,key c1,key c2,key c3,key c4⟩⟩
structure U9 (e:TypeId) (w:World) (wh:List ay) (k:Nat) (v:Value) (ls:List ay) (x:World):Prop where
 own:x.ownsRow w.heap.size e 1 v ls.length (ls.map ay.val)
 len:ls.length=wh.length
 cs:∀ i,i<ls.length->(ls.getD i lz).cs=(wh.getD i lz).cs/\aR x (ls.getD i lz).ad (ls.getD i lz).cs
 new:∀ i,i<k->i<ls.length->∀ a,(ls.getD i lz).ad=some a->w.heap.size<=a.block
 old:∀ i,k<=i->i<ls.length->ls.getD i lz=wh.getD i lz
 off:∀ i,i<ls.length->0<(ls.getD i lz).cs.length->∀ a,(ls.getD i lz).ad=some a->v.ownBlock≠some a.block
 below:Below w.heap.size w x
theorem U9.start {e:TypeId} {w x:World} {wh:List ay} {v:Value} {ao:Option Addr} (h:eF w ao wh) (ho:x.ownsRow w.heap.size e 1 v wh.length (wh.map ay.val)) (hb:Below w.heap.size w x):U9 e w wh 0 v wh x:=
 ⟨ho,rfl,fun i hi=>⟨rfl,(h.2.2 i hi).below hb⟩,fun i hi=>absurd hi (Nat.not_lt_zero _),fun i _ _=>rfl,fun i hi hc a ea e2=>by
  obtain⟨b,off,e3,c0,_⟩:=(h.2.2 i hi).2 0 hc;rw[ea] at e3;injection e3 with e3;have h1:b<w.heap.size:=Zf c0;have h2:=(Zy ho e2).1;rw[e3] at h2;have h3:w.heap.size<=b:=h2;omega,hb⟩
theorem U9.step {e:TypeId} {w x y:World} {wh:List ay} {k:Nat} {v:Value} {ls:List ay} (h:U9 e w wh k v ls x) (hb:Below x.heap.size x y):U9 e w wh k v ls y:=
 ⟨Z0 h.own hb,h.len,fun i hi=>⟨(h.cs i hi).1,(h.cs i hi).2.below hb⟩,h.new,h.old,h.off,h.below.trans (hb.mono h.below.size)⟩
theorem rW (ls:List ay) (k i:Nat) (u:ay) (hk:k<ls.length):(ls.set k u).getD i lz=if i=k then u else ls.getD i lz:=by
 rw[Xq,List.getElem?_set];by_cases e:k=i
 ·subst e;simp[hk]
 ·rw[Qs e,Qs (fun h=>e h.symm)];rfl
theorem U9.next {e:TypeId} {w x y:World} {wh:List ay} {k:Nat} {v:Value} {ls:List ay} (h:U9 e w wh k v ls x) (hk:k<ls.length) (hb:Below x.heap.size x y) {ad:Option Addr} {cap:Nat} (hc:aR y ad (wh.getD k lz).cs) (hn:∀ a,ad=some a->x.heap.size<=a.block) :
  ∃ g cp,v=.slice (some (aD g 0)) ls.length cp/\U9 e w wh (k+1) v (ls.set k ⟨ad,cap,(wh.getD k lz).cs⟩) (y.setCell (aD g k) (.slice ad (wh.getD k lz).cs.length cap)):=by
 have hy:=h.step hb;rcases h.own.2 with⟨_,h1⟩ | ⟨g,cp,cur,hv,hbg,hh,hcp,hm,hs,ht⟩
 ·omega
 refine⟨g,cp,hv,?_⟩;have hvb:v.ownBlock=some g:=by rw[hv]; rfl
 have hgx:=(Zy h.own hvb).2;have hk1:Kept (fun b=>b≠g) y (y.setCell (aD g k) (.slice ad (wh.getD k lz).cs.length cap)):=Zv _ _ _ (fun h=>h rfl);have hls:(ls.set k ⟨ad,cap,(wh.getD k lz).cs⟩).length=ls.length:=XF ..;refine⟨?_,hls.trans h.len,fun i hi=>?_,fun i hi hl=>?_,fun i hi hl=>?_,fun i hi=>?_,h.below.trans ((hb.mono h.below.size).trans (hk1.below (Q4 h.below.size hb.size) fun b hb=>by omega))⟩
 ·have h2:=fw hvb [.slice ad (wh.getD k lz).cs.length cap] k hy.own (by simp; omega);have e1:(ls.map ay.val).take k++[.slice ad (wh.getD k lz).cs.length cap]++(ls.map ay.val).drop (k+[Value.slice ad (wh.getD k lz).cs.length cap].length)=(ls.set k ⟨ad,cap,(wh.getD k lz).cs⟩).map ay.val:=by
   rw[List.map_set,List.set_eq_take_append_cons_drop,Qr (by rw[QU]; exact hk)];simp[ay.val]
  rw[e1] at h2;rw[hls];exact h2
 ·rw[hls] at hi;rw[rW ls k i _ hk];split
  ·rename_i e1
   subst e1;refine⟨rfl,aR.aT hc hk1 fun _ a ea=>?_⟩;have:=hn a ea;omega
  ·refine⟨(h.cs i hi).1,aR.aT (hy.cs i hi).2 hk1 fun h0 a ea e1=>h.off i hi h0 a ea (by rw[hvb,e1])⟩
 ·rw[hls] at hl;rw[rW ls k i _ hk];split
  ·intro a ea;exact Q4 h.below.size (hn a ea)
  ·exact h.new i (by omega) hl
 ·rw[hls] at hl;rw[rW ls k i _ hk,Qs (by omega)];exact h.old i (by omega) hl
 ·rw[hls] at hi;rw[rW ls k i _ hk];split
  ·intro _ a ea e2;have:=hn a ea;rw[hvb] at e2;injection e2 with e2;omega
  ·exact h.off i hi
def World.Iw (W:World) (B:Nat) (v0 v1 v2 v3 v4 v5 v6:Value):World:=(((((((W.setCell (aD B 0) v0).setCell (aD B 1) v1).setCell (aD B 2) v2).setCell (aD B 3) v3).setCell (aD B 4) v4).setCell (aD B 5) v5).setCell (aD B 6) v6)
theorem World.aaF {W:World} {B:Nat} {t:TypeId} {a0 a1 a2 a3 a4 a5 a6:Value} (h:GB W B t #[a0,a1,a2,a3,a4,a5,a6]) (v0 v1 v2 v3 v4 v5 v6:Value):GB (World.Iw W B v0 v1 v2 v3 v4 v5 v6) B t #[v0,v1,v2,v3,v4,v5,v6]:=by
 unfold World.Iw;have h0:GB (W.setCell (aD B 0) v0) B t #[v0,a1,a2,a3,a4,a5,a6]:=h.set 0 v0;have h1:GB ((W.setCell (aD B 0) v0).setCell (aD B 1) v1) B t #[v0,v1,a2,a3,a4,a5,a6]:=h0.set 1 v1;have h2:GB (((W.setCell (aD B 0) v0).setCell (aD B 1) v1).setCell (aD B 2) v2) B t #[v0,v1,v2,a3,a4,a5,a6]:=h1.set 2 v2;have h3:GB ((((W.setCell (aD B 0) v0).setCell (aD B 1) v1).setCell (aD B 2) v2).setCell (aD B 3) v3) B t #[v0,v1,v2,v3,a4,a5,a6]:=h2.set 3 v3;have h4:GB (((((W.setCell (aD B 0) v0).setCell (aD B 1) v1).setCell (aD B 2) v2).setCell (aD B 3) v3).setCell (aD B 4) v4) B t #[v0,v1,v2,v3,v4,a5,a6]:=h3.set 4 v4;have h5:GB ((((((W.setCell (aD B 0) v0).setCell (aD B 1) v1).setCell (aD B 2) v2).setCell (aD B 3) v3).setCell (aD B 4) v4).setCell (aD B 5) v5) B t #[v0,v1,v2,v3,v4,v5,a6]:=h4.set 5 v5;have h6:GB (((((((W.setCell (aD B 0) v0).setCell (aD B 1) v1).setCell (aD B 2) v2).setCell (aD B 3) v3).setCell (aD B 4) v4).setCell (aD B 5) v5).setCell (aD B 6) v6) B t #[v0,v1,v2,v3,v4,v5,v6]:=h5.set 6 v6;exact h6
theorem World.RF (W:World) (B:Nat) (v0 v1 v2 v3 v4 v5 v6:Value):Kept (fun x=>x≠B) W (World.Iw W B v0 v1 v2 v3 v4 v5 v6):=by
 unfold World.Iw;exact (((((((Zv _ (aD B 0) _ (fun h=>h rfl)).trans (Zv _ (aD B 1) _ (fun h=>h rfl))).trans (Zv _ (aD B 2) _ (fun h=>h rfl))).trans (Zv _ (aD B 3) _ (fun h=>h rfl))).trans (Zv _ (aD B 4) _ (fun h=>h rfl))).trans (Zv _ (aD B 5) _ (fun h=>h rfl))).trans (Zv _ (aD B 6) _ (fun h=>h rfl)))
structure ae.New (q:ae) (n:Nat):Prop where
 src:∀ a,q.src.ad=some a->n<=a.block
 wh:∀ a,q.bY=some a->n<=a.block
 cl:∀ i,i<q.wh.length->∀ a,(q.wh.getD i lz).ad=some a->n<=a.block
 keys:∀ a,q.keys.ad=some a->n<=a.block
 sums:∀ a,q.sums.ad=some a->n<=a.block
 aQ:∀ a,q.aQ.ad=some a->n<=a.block
 ord:∀ a,q.ord.ad=some a->n<=a.block
structure aL (q p:ae):Prop where
 src:p.src.xs=q.src.xs
 len:p.wh.length=q.wh.length
 cs:∀ i,i<p.wh.length->(p.wh.getD i lz).cs=(q.wh.getD i lz).cs
 group:p.group=q.group
 keys:p.keys.xs=q.keys.xs
 sums:p.sums.xs=q.sums.xs
 aQ:p.aQ.xs=q.aQ.xs
 ord:p.ord.xs=q.ord.xs
structure Oz (q:ae):Prop where
 src:(q.src.ad=none->q.src.cap=0)/\q.src.xs.length<=1000
 wh:(q.bY=none->q.aI=0)/\q.wh.length<=100
 cl:∀ i,i<q.wh.length->((q.wh.getD i lz).ad=none->(q.wh.getD i lz).cap=0)/\(q.wh.getD i lz).cs.length<=100
 keys:(q.keys.ad=none->q.keys.cap=0)/\q.keys.xs.length<=1000
 sums:(q.sums.ad=none->q.sums.cap=0)/\q.sums.xs.length<=1000
 aQ:(q.aQ.ad=none->q.aQ.cap=0)/\q.aQ.xs.length<=1000
 ord:(q.ord.ad=none->q.ord.cap=0)/\q.ord.xs.length<=1000
structure RG (q:ae):Prop where
 src:q.src.ad=none->q.src.cap=0
 keys:q.keys.ad=none->q.keys.cap=0
 sums:q.sums.ad=none->q.sums.cap=0
 aQ:q.aQ.ad=none->q.aQ.cap=0
 ord:q.ord.ad=none->q.ord.cap=0
theorem RH {W:World} {B:Nat} {v0 v1 v2 v3 v4 v5 v6:Value} (h:GB W B 26 #[v0,v1,v2,v3,v4,v5,v6]):(loadVar 26 (aD B 0)).run Tryz.prog W=.ok (.agg #[v0,v1,v2,v3,v4,v5,v6]) W:=by
 obtain⟨c0,c1,c2,c3,c4,c5,c6⟩:=h.k7;simp[go_sem,c0,c1,c2,c3,c4,c5,c6]
theorem Ml (q:ae) (w:World) (hq:q.At w) (ht:Oz q) :
  Calls Tryz.prog 37 #[.agg q.cells] w fun e w'=>∃ p:ae,e=.returned (.agg p.cells)/\p.At w'/\aL q p/\p.New w.heap.size/\RG p/\p.keys.xs.length<=p.keys.cap/\Below w.heap.size w w':=by
 have sV:q.cells=#[q.src.val,.slice q.bY q.wh.length q.aI,.bool q.group,q.keys.val,q.sums.val,q.aQ.val,q.ord.val]:=rfl;rw[sV];clear sV;obtain⟨w1,hw1,hb1,hg1⟩:=bu w #[q.src.val,.slice q.bY q.wh.length q.aI,.bool q.group,q.keys.val,q.sums.val,q.aQ.val,q.ord.val] 26;obtain⟨w2,hw2,hb2,hg2⟩:=bu w1 #[.slice none 0 0,.slice none 0 0,.bool false,.slice none 0 0,.slice none 0 0,.slice none 0 0,.slice none 0 0] 26;have xG:=aG hb1 hb2;have sD:=hg1.keep (Q9 (s:=fun b=>b<w1.heap.size) hb2 (fun _ h _=>h)) hg1.lt;have HQ:=Zh hq;have HT:=Zh ht;have HB2:=Zh xG;have HG2:=Zh hg2;have pR:=Zh sD;have Dp:=hq.wh.below xG;have Mm:=xB q.bY q.aI q.wh w2 ⟨Dp.1,Dp.2.1⟩ ht.wh.1 (by have:=ht.wh.2; omega);have RI:=Zh Dp;have c1:=sD.at 1;have HCS:Hid (∀ (x:World) (i:Nat) (l:ay),i<q.wh.length->l=q.wh.getD i lz->aR x l.ad l.cs->Calls Tryz.prog 65 #[.slice l.ad l.cs.length l.cap] x fun e w'=>∃ ad cap,e=.returned (.slice ad l.cs.length cap)/\aR w' ad l.cs/\(∀ a,ad=some a->x.heap.size<=a.block)/\Below x.heap.size x w'):=fun x i l hi hl hc=>by
  have hti:=ht.cl i hi;rw[<- hl] at hti;refine (Al l.ad l.cap l.cs x hc hti.1 (by omega)).mono ?_;rintro e w' ⟨v,rfl,ho,hb⟩;obtain⟨ad,cap,rfl,YF,hnew⟩:=oP ho hti.2;exact⟨ad,cap,rfl,YF,fun a ea=>(hnew a ea).1,hb⟩
 have qA:=Zh (Nat.ne_of_lt hg1.lt);have HWW:=Zh hb1.size;have HCI:Hid (∀ (x:World) (iv:ah),Below w.heap.size w x->iv.At w->((iv.ad=none->iv.cap=0)/\iv.xs.length<=1000)->Calls Tryz.prog 48 #[iv.val] x fun e w'=>∃ jv:ah,e=.returned jv.val/\jv.xs=iv.xs/\jv.At w'/\(∀ a,jv.ad=some a->x.heap.size<=a.block)/\(jv.ad=none->jv.cap=0)/\jv.xs.length<=jv.cap/\Below x.heap.size x w'):=fun x iv hx hi ht=>by
  refine (kI iv x (Qo hx hi) ht.1 (by omega)).mono ?_;rintro e w' ⟨v,rfl,ho,hb⟩;obtain⟨jv,rfl,h1,h2,h3,h4,h5⟩:=fO ho (by omega);exact⟨jv,rfl,h1,h2,h3,h4,h5,hb⟩
 clear hq ht hb1 hg1 hb2 hg2 xG sD Dp;go_enter Tryz.func37,Tryz.ntmps37;go_wp2_with fail;refine Mm.mono ?_;rintro e w3 ⟨v,rfl,ho3,hb3⟩;have Vm:=Zh (U9.start RI.out ho3 hb3);obtain⟨va,vn,vc,rfl⟩:=ZA ho3;obtain rfl:vn=q.wh.length:=by
  rcases ho3.2 with⟨e,h0⟩ | ⟨g,cap,cur,e,_⟩
  ·injection e with e1 e2 e3;omega
  ·injection e with e1 e2 e3
 clear Mm c1 hw1 hw2 ho3 hb3;have ary:=HT.out.wh.2;go_wp2;go_loopw [11] (fun iv wr=>∃ k:Nat,k<=q.wh.length/\iv=.int .i64 (k:Int)/\Hid (∃ ls,U9 77 w2 q.wh k (.slice va q.wh.length vc) ls wr)) (fun iv _=>q.wh.length-(intOf iv).toNat)
 case atStart=>exact⟨0,QQ _,rfl,_,Vm.out⟩
 case round=>
  obtain⟨k,hk,rfl,HJ⟩:=hrel;obtain⟨ls,hJ⟩:=HJ.out;by_cases hlt:k<q.wh.length
  ·have hlk:k<ls.length:=by rw[hJ.len]; exact hlt
   obtain⟨g,cp,hv,hcell⟩:∃ g cp,(Value.slice va q.wh.length vc)=.slice (some (aD g 0)) ls.length cp/\wr.cell? (aD g k)=some (ls.getD k lz).val:=by
    rcases ZT hJ.own with⟨_,h1⟩ | ⟨g,cap,e,_,_,hc⟩
    ·omega
    ·refine⟨g,cap,e,hc k _ ?_⟩;rw[QW,ZG hlk,Xq,ZG hlk];rfl
   injection hv with hv1 hv2 hv3;subst hv1;have hlz:=hJ.old k (Qq _) hlk;obtain⟨l,hl⟩:∃ l,l=q.wh.getD k lz:=⟨_,rfl⟩
   have hcd:=(hJ.cs k hlk).2;rw[hlz,<- hl] at hcell hcd;have HJ1:=Zh hJ;obtain⟨cur,aaG⟩:=iJ hJ.own (b:=g) rfl;have oO:Hid (GB wr g 77 cur):=aaG;obtain⟨y1,hy1⟩:∃ z,wr.alloc (.cells #[.slice none 0 0] 77)=z:=⟨_,rfl⟩
   have hn1:GB y1 wr.heap.size 77 #[.slice none 0 0]:=by rw[<- hy1]; exact kG _ _
   have hB1:Below wr.heap.size wr y1:=by rw[<- hy1]; exact bU _ _
   obtain⟨la,lc,lx⟩:=l;simp only[ay.val] at hcell hcd;have anE:=hn1.at 0;have anF:=hn1.frozen 0;obtain⟨y2,hy2⟩:∃ z,y1.setCell (aD wr.heap.size 0) (.slice la lx.length lc)=z:=⟨_,rfl⟩
   have hn2:y2.cell? (aD wr.heap.size 0)=some (.slice la lx.length lc):=by rw[<- hy2]; exact (hn1.set 0 _).cell 0
   have hB2:Below wr.heap.size wr y2:=by
    rw[<- hy2];exact hB1.trans ((Zv (s:=fun b=>b≠wr.heap.size) _ _ _ (fun h=>h rfl)).below hB1.size (fun b hb=>Nat.ne_of_lt hb))
   have Oi:=HCS.out y2 k ⟨la,lc,lx⟩ hlt hl (hcd.below hB2);change Calls Tryz.prog 65 #[.slice la lx.length lc] y2 (fun e w'=>∃ ad cap,e=.returned (.slice ad lx.length cap)/\aR w' ad lx/\(∀ a,ad=some a->y2.heap.size<=a.block)/\Below y2.heap.size y2 w') at Oi;have HBB:=Zh hB2;have HL:=Zh hl;clear hJ HJ aaG hcd hB1 hB2 hn1 hlz hl hv2 hv3 Vm;go_wp2_with fail;refine Oi.mono ?_;rintro e y3 ⟨ad,cap,rfl,YF,hnew,hb3⟩;have hB3:=HBB.out.trans (hb3.mono HBB.out.size);have hcs:lx=(q.wh.getD k lz).cs:=by rw[<- HL.out]
   have pX:Hid (U9 77 w2 q.wh (k+1) (.slice (some (aD g 0)) q.wh.length vc) (ls.set k ⟨ad,cap,(q.wh.getD k lz).cs⟩) (y3.setCell (aD g k) (.slice ad lx.length cap))):=by
    obtain⟨g',cp',e,h⟩:=HJ1.out.next hlk hB3 (cap:=cap) (by rw[<- hcs]; exact YF) (fun a ea=>Q4 HBB.out.size (hnew a ea));injection e with e1;injection e1 with e1;injection e1 with e1;rw[<- hcs,<- e1] at h;rw[<- hcs];exact h
   have Vn:=cB hB3 hcell;have hf3:=(oO.out.keep (Q9 (s:=fun b=>b<wr.heap.size) hB3 (fun _ h _=>h)) oO.out.lt).frozen k;clear Oi hy1 hy2 hcell anE anF hn2 YF hnew hb3 hB3 hcs;go_wp2;go_roundw
   case rel=>exact⟨k+1,by omega,by go_num,_,pX.out⟩
   case measure=>simp[intOf]; omega
  ·have hkn:k=q.wh.length:=by omega
   have hgq:=pR.out.keep (Q9 (s:=fun b=>b<w2.heap.size) hJ.below (fun _ h _=>h)) pR.out.lt;have hgr:=HG2.out.keep (Q9 (s:=fun b=>b<w2.heap.size) hJ.below (fun _ h _=>h)) HG2.out.lt;have d0:=hgq.at 0;have d2:=hgq.at 2;have d3:=hgq.at 3;have d4:=hgq.at 4;have d5:=hgq.at 5;have d6:=hgq.at 6;have hne:=qA.out;have HJ1:=Zh hJ;have HKN:=Zh hkn;have vz:=Zh hgr;have jV:=Zh (aG HB2.out hJ.below);clear hJ HJ hgq hgr hkn Vm;go_wp2_with fail;refine QL (S:=fun x=>Kept (fun b=>b≠w1.heap.size) wr x) (by kernel_rfl) (Q9 ((Qp _ _).drew) (fun _ h _=>h)) (fun hS=>?_);refine wt 0 (.pointer (some (aD w.heap.size 0))) hS ?_;refine wT 1 (q.src.val) hS (fun x hx=>?_) ?_
   ·have e0:=XP hx d0 hne;go_simp
   refine wt 3 (.slice va q.wh.length vc) hS ?_;refine wt 4 (.pointer (some (aD w.heap.size 2))) hS ?_;refine wT 5 (.bool q.group) hS (fun x hx=>?_) ?_
   ·have e0:=XP hx d2 hne;go_simp
   refine wt 6 (.pointer (some (aD w.heap.size 3))) hS ?_;refine wT 7 (q.keys.val) hS (fun x hx=>?_) ?_
   ·have e0:=XP hx d3 hne;go_simp
   refine wt 9 (.pointer (some (aD w.heap.size 4))) hS ?_;refine wT 10 (q.sums.val) hS (fun x hx=>?_) ?_
   ·have e0:=XP hx d4 hne;go_simp
   refine wt 12 (.pointer (some (aD w.heap.size 5))) hS ?_;refine wT 13 (q.aQ.val) hS (fun x hx=>?_) ?_
   ·have e0:=XP hx d5 hne;go_simp
   refine wt 15 (.pointer (some (aD w.heap.size 6))) hS ?_;refine wT 16 (q.ord.val) hS (fun x hx=>?_) ?_
   ·have e0:=XP hx d6 hne;go_simp
   have aic:Below wr.heap.size wr wr.drew:=(Qp _ _).drew;refine wR 2 fun K hK=>?_
   go_simp;refine Z7 (HCI.out _ q.src (aG jV.out aic) HQ.out.src HT.out.src) ?_;rintro e s1 ⟨iv,rfl,hx,hat,hnew,hnil,hcap,hb⟩;obtain⟨aa,ac,ax⟩:=iv;simp only[ah.val];have ET:=aG aic hb;clear hb;have Hs1:=Zh (XQ hx (XQ hat (XQ hnew (XQ hnil hcap))));clear hx hat hnew hnil hcap;refine hK.out _ _ (Q9 ET (fun _ h _=>h)) (fun hS=>?_);clear hK K;refine wR 8 fun K hK=>?_
   go_simp;refine Z7 (HCI.out _ q.keys (aG jV.out ET) HQ.out.keys HT.out.keys) ?_;rintro e s2 ⟨iv,rfl,hx,hat,hnew,hnil,hcap,hb⟩;obtain⟨ba,bc,bx⟩:=iv;simp only[ah.val];have Mo:=aG ET hb;have anH:=Zh hb;clear hb;have Hs2:=Zh (XQ hx (XQ hat (XQ hnew (XQ hnil hcap))));clear hx hat hnew hnil hcap;refine hK.out _ _ (Q9 Mo (fun _ h _=>h)) (fun hS=>?_);clear hK K;refine wR 11 fun K hK=>?_
   go_simp;refine Z7 (HCI.out _ q.sums (aG jV.out Mo) HQ.out.sums HT.out.sums) ?_;rintro e s3 ⟨iv,rfl,hx,hat,hnew,hnil,hcap,hb⟩;obtain⟨ca,cc,cx⟩:=iv;simp only[ah.val];have aaH:=aG Mo hb;have aie:=Zh hb;clear hb;have Hs3:=Zh (XQ hx (XQ hat (XQ hnew (XQ hnil hcap))));clear hx hat hnew hnil hcap;refine hK.out _ _ (Q9 aaH (fun _ h _=>h)) (fun hS=>?_);clear hK K;refine wR 14 fun K hK=>?_
   go_simp;refine Z7 (HCI.out _ q.aQ (aG jV.out aaH) HQ.out.aQ HT.out.aQ) ?_;rintro e s4 ⟨iv,rfl,hx,hat,hnew,hnil,hcap,hb⟩;obtain⟨da,dc,dx⟩:=iv;simp only[ah.val];have aaI:=aG aaH hb;have aej:=Zh hb;clear hb;have Hs4:=Zh (XQ hx (XQ hat (XQ hnew (XQ hnil hcap))));clear hx hat hnew hnil hcap;refine hK.out _ _ (Q9 aaI (fun _ h _=>h)) (fun hS=>?_);clear hK K;refine wR 17 fun K hK=>?_
   go_simp;refine Z7 (HCI.out _ q.ord (aG jV.out aaI) HQ.out.ord HT.out.ord) ?_;rintro e s5 ⟨iv,rfl,hx,hat,hnew,hnil,hcap,hb⟩;obtain⟨fa,fc,fx⟩:=iv;simp only[ah.val];have RJ:=aG aaI hb;have aaJ:=Zh hb;clear hb;have Hs5:=Zh (XQ hx (XQ hat (XQ hnew (XQ hnil hcap))));clear hx hat hnew hnil hcap;refine hK.out _ _ (Q9 RJ (fun _ h _=>h)) (fun hS=>?_);clear hK K;refine wt 18 (.agg #[.slice aa ax.length ac,.slice va q.wh.length vc,.bool q.group,.slice ba bx.length bc,.slice ca cx.length cc,.slice da dx.length dc,.slice fa fx.length fc]) hS ?_;have hgr5:=vz.out.keep (Q9 (s:=fun b=>b<wr.heap.size) RJ (fun _ h _=>h)) vz.out.lt;have yT:=Zh (RH (World.aaF hgr5 (.slice aa ax.length ac) (.slice va q.wh.length vc) (.bool q.group) (.slice ba bx.length bc) (.slice ca cx.length cc) (.slice da dx.length dc) (.slice fa fx.length fc)));have hkz:=World.RF s5 w1.heap.size (.slice aa ax.length ac) (.slice va q.wh.length vc) (.bool q.group) (.slice ba bx.length bc) (.slice ca cx.length cc) (.slice da dx.length dc) (.slice fa fx.length fc);have r0:=hgr5.at 0;have z0:=hgr5.frozen 0;have r1:=hgr5.at 1;have z1:=hgr5.frozen 1;have r2:=hgr5.at 2;have z2:=hgr5.frozen 2;have r3:=hgr5.at 3;have z3:=hgr5.frozen 3;have r4:=hgr5.at 4;have z4:=hgr5.frozen 4;have r5:=hgr5.at 5;have z5:=hgr5.frozen 5;have r6:=hgr5.at 6;have z6:=hgr5.frozen 6;have gQ:Hid (∃ p:ae,Ending.returned (.agg #[.slice aa ax.length ac,.slice va q.wh.length vc,.bool q.group,.slice ba bx.length bc,.slice ca cx.length cc,.slice da dx.length dc,.slice fa fx.length fc])=.returned (.agg p.cells)/\p.At (World.Iw s5 w1.heap.size (.slice aa ax.length ac) (.slice va q.wh.length vc) (.bool q.group) (.slice ba bx.length bc) (.slice ca cx.length cc) (.slice da dx.length dc) (.slice fa fx.length fc))/\aL q p/\p.New w.heap.size/\RG p/\p.keys.xs.length<=p.keys.cap/\Below w.heap.size w (World.Iw s5 w1.heap.size (.slice aa ax.length ac) (.slice va q.wh.length vc) (.bool q.group) (.slice ba bx.length bc) (.slice ca cx.length cc) (.slice da dx.length dc) (.slice fa fx.length fc))):=by
    have hrb:=HG2.out.lt;have hz5:=HJ1.out.step RJ;have hll:=hz5.len;have hww:=HJ1.out.below.size;have hw0:=HB2.out.size;generalize hZ:World.Iw s5 w1.heap.size (.slice aa ax.length ac) (.slice va q.wh.length vc) (.bool q.group) (.slice ba bx.length bc) (.slice ca cx.length cc) (.slice da dx.length dc) (.slice fa fx.length fc)=Z at *;have hown:=Zx hz5.own hkz (fun g e e2=>by have h1:=(Zy hz5.own e).1; omega);have hcs:∀ i,i<ls.length->aR Z (ls.getD i lz).ad (ls.getD i lz).cs:=fun i hi=>aR.aT (hz5.cs i hi).2 hkz fun _ a ea e2=>by
     have h1:=hz5.new i (by rw[HKN.out,<- hll]; exact hi) hi a ea;omega
    obtain⟨ad2,cp2,e2,hcl⟩:=qP hown (fun x hx=>by
     obtain⟨i,hi,rfl⟩:=List.mem_iff_getElem.1 hx;have:=hcs i hi;rw[Xq,ZG hi] at this;exact this) (by omega)
    injection e2 with e21 e22 e23;subst e21;have key:∀ {ad:Option Addr} {xs:List Int},au s5 ad xs->(∀ a,ad=some a->wr.heap.size<=a.block)->au Z ad xs:=fun {ad xs} h1 h2=>Xu h1 hkz fun _ a ea e3=>by
     have:=h2 a ea;omega
    have na:∀ a,aa=some a->wr.heap.size<=a.block:=fun a ea=>Q4 (Qq _) (Hs1.out.2.2.1 a ea)
    have i_a:au Z aa ax:=key (Qo aaJ.out (Qo aej.out (Qo aie.out (Qo anH.out (Hs1.out.2.1))))) na;have nb:∀ a,ba=some a->wr.heap.size<=a.block:=fun a ea=>Q4 ET.size (Hs2.out.2.2.1 a ea)
    have i_b:au Z ba bx:=key (Qo aaJ.out (Qo aej.out (Qo aie.out (Hs2.out.2.1)))) nb;have nc:∀ a,ca=some a->wr.heap.size<=a.block:=fun a ea=>Q4 Mo.size (Hs3.out.2.2.1 a ea)
    have i_c:au Z ca cx:=key (Qo aaJ.out (Qo aej.out (Hs3.out.2.1))) nc;have nd:∀ a,da=some a->wr.heap.size<=a.block:=fun a ea=>Q4 aaH.size (Hs4.out.2.2.1 a ea)
    have i_d:au Z da dx:=key (Qo aaJ.out (Hs4.out.2.1)) nd;have nf:∀ a,fa=some a->wr.heap.size<=a.block:=fun a ea=>Q4 aaI.size (Hs5.out.2.2.1 a ea)
    have i_f:au Z fa fx:=key (Hs5.out.2.1) nf;refine⟨⟨⟨aa,ac,ax⟩,va,vc,ls,q.group,⟨ba,bc,bx⟩,⟨ca,cc,cx⟩,⟨da,dc,dx⟩,⟨fa,fc,fx⟩⟩,?_,⟨i_a,hcl,i_b,i_c,i_d,i_f⟩,⟨Hs1.out.1,hll,fun i hi=>(hz5.cs i hi).1,rfl,Hs2.out.1,Hs3.out.1,Hs4.out.1,Hs5.out.1⟩,⟨fun a ea=>?_,fun a ea=>?_,fun i hi a ea=>?_,fun a ea=>?_,fun a ea=>?_,fun a ea=>?_,fun a ea=>?_⟩,⟨Hs1.out.2.2.2.1,Hs2.out.2.2.2.1,Hs3.out.2.2.2.1,Hs4.out.2.2.2.1,Hs5.out.2.2.2.1⟩,Hs2.out.2.2.2.2,jV.out.trans ((RJ.mono jV.out.size).trans (hkz.below (Q4 jV.out.size RJ.size) fun b hb=>by have:=HWW.out; omega))⟩
    ·unfold ae.cells;simp only[ah.val];rw[hll]
    ·have:=na a ea;omega
    ·have h1:=(Zy hown (g:=a.block) (by rw[show va=some a from ea]; rfl)).1;omega
    ·have h1:=hz5.new i (by rw[HKN.out,<- hll]; exact hi) hi a ea;omega
    ·have:=nb a ea;omega
    ·have:=nc a ea;omega
    ·have:=nd a ea;omega
    ·have:=nf a ea;omega
   have HKZ:=Zh ((Q9 (s:=fun b=>b≠w1.heap.size) RJ (fun _ h _=>h)).trans hkz);unfold World.Iw at gQ yT HKZ;clear hkz hgr5;refine wR 19 fun K hK=>?_
   go_simp;refine hK.out _ _ (HKZ.out) (fun hS=>?_);clear hK K;refine wD ?_
   try simp only[pV]
   go_wp2;exact Xi (iL (p:=2) rfl rfl yT.out) rfl gQ.out
structure jT (N:Nat->Prop) (W W0:World):Prop where
 size:W0.heap.size=W.heap.size
 block:∀ b,¬ N b->W0.heap[b]? = W.heap[b]?
 dead:∀ b o v,W0.cell? (aD b o)=some v->¬ N b
theorem RV (N:Nat->Prop) (W:World):∃ W0,jT N W W0:=by
 classical
 have hs:({ W with heap:=W.heap.mapIdx fun i o=>if N i then .deferred none else o }:World).heap.size=W.heap.size:=by simp
 refine⟨{ W with heap:=W.heap.mapIdx fun i o=>if N i then .deferred none else o },hs,fun b h=>?_,fun b o v hc h=>?_⟩
 ·simp only[Array.getElem?_mapIdx]
  cases W.heap[b]? with
  | none => rfl
  | some o => simp[h]
 ·have hl:=Zf hc;rw[hs] at hl;have e:({ W with heap:=W.heap.mapIdx fun i o=>if N i then .deferred none else o }:World).heap[b]? = some (.deferred none):=by
   simp only[Array.getElem?_mapIdx];rw[Array.getElem?_eq_getElem hl];simp[h]
  simp[World.cell?,e] at hc
theorem jT.cell {N:Nat->Prop} {W W0:World} (K:jT N W W0) {b o:Nat} {v:Value} (h:¬ N b) (hc:W.cell? (aD b o)=some v):W0.cell? (aD b o)=some v:=by
 rw[Zg (K.block b h)];exact hc
theorem jT.under {N:Nat->Prop} {W W0:World} (K:jT N W W0):Under W0 W:=
 ⟨by rw[K.size]; exact Qq _,fun b o v hc=>by
  have h:=K.dead _ _ _ hc;rw[Zg (K.block b h)] at hc;exact hc⟩
theorem jT.live {N:Nat->Prop} {W W0:World} (K:jT N W W0) {b:Nat} (h:Live W0 b):¬ N b:=by
 obtain⟨o,v,hc⟩:=h;exact K.dead _ _ _ hc
theorem rf {N:Nat->Prop} {W W0:World} (K:jT N W W0) {ao:Option Addr} {n:Nat} {g:Nat->Value} (h:aY W ao n g) (hn:∀ a,ao=some a->¬ N a.block):aY W0 ao n g:=fun i hi=>by
 obtain⟨b,off,e,hc⟩:=h i hi;exact⟨b,off,e,K.cell (hn _ e) hc⟩
theorem iN {N:Nat->Prop} {W W' W0:World} (K:jT N W W0) {ao:Option Addr} {k n:Nat} {g:Nat->Value} (hN:∀ b,N b->b<n∨W'.heap.size<=b) (hb:Below W'.heap.size W' W) (h:aY W' ao k g) (hn:∀ a,ao=some a->n<=a.block):aY W0 ao k g:=fun i hi=>by
 obtain⟨b,off,e,hc⟩:=h i hi;have h1:n<=b:=hn _ e;have h2:b<W'.heap.size:=Zf hc;exact⟨b,off,e,K.cell (fun hx=>by rcases hN b hx with h | h <;> omega) (cB hb hc)⟩
theorem Fe {N:Nat->Prop} {W W' W0:World} (K:jT N W W0) {ao:Option Addr} {ts:List af} {n:Nat} (hN:∀ b,N b->b<n∨W'.heap.size<=b) (hb:Below W'.heap.size W' W) (h:aJ W' ao ts) (hn:∀ a,ao=some a->n<=a.block):aJ W0 ao ts:=⟨h.1,fun i hi=>by
 obtain⟨b,off,e,c0,c1,c2,c3,c4,c5⟩:=h.2 i hi;have h1:n<=b:=hn _ e;have h2:b<W'.heap.size:=Zf c0;have hb':¬ N b:=fun hx=>by rcases hN b hx with h | h <;> omega
 exact⟨b,off,e,K.cell hb' (cB hb c0),K.cell hb' (cB hb c1),K.cell hb' (cB hb c2),K.cell hb' (cB hb c3),K.cell hb' (cB hb c4),K.cell hb' (cB hb c5)⟩⟩
theorem yF {N:Nat->Prop} {W W' W0:World} (K:jT N W W0) {q:ae} {n:Nat} (hN:∀ b,N b->b<n∨W'.heap.size<=b) (hb:Below W'.heap.size W' W) (h:q.At W') (hn:q.New n):q.At W0:=by
 refine⟨⟨h.src.1,iN K hN hb h.src.2 hn.src⟩,⟨h.wh.1,iN K hN hb h.wh.2.1 hn.wh,fun i hi=>⟨(h.wh.2.2 i hi).1,fun j hj=>?_⟩⟩,⟨h.keys.1,iN K hN hb h.keys.2 hn.keys⟩,⟨h.sums.1,iN K hN hb h.sums.2 hn.sums⟩,⟨h.aQ.1,iN K hN hb h.aQ.2 hn.aQ⟩,⟨h.ord.1,iN K hN hb h.ord.2 hn.ord⟩⟩;obtain⟨b,off,e,c0,c1,c2,c3,c4⟩:=(h.wh.2.2 i hi).2 j hj;have h1:n<=b:=hn.cl i hi _ e;have h2:b<W'.heap.size:=Zf c0;have hb':¬ N b:=fun hx=>by rcases hN b hx with h | h <;> omega
 exact⟨b,off,e,K.cell hb' (cB hb c0),K.cell hb' (cB hb c1),K.cell hb' (cB hb c2),K.cell hb' (cB hb c3),K.cell hb' (cB hb c4)⟩
theorem IW {N:Nat->Prop} {W W0:World} (K:jT N W W0) {f:aB} {ts:List af} {q:ae} {m:Nat} (hN:∀ b,N b->b<m) (h:f.At ts q W) (hf:f.New m) (hq:q.At W0):f.At ts q W0:=by
 have key:∀ {ao:Option Addr},(∀ a,ao=some a->m<=a.block)->∀ a,ao=some a->¬ N a.block:=fun h a e hx=>by
  have h1:=h a e;have h2:=hN _ hx;omega
 refine⟨hq,⟨h.aH.1,fun i hi=>?_⟩,⟨h.rows.1,rf K h.rows.2 (key hf.ra)⟩,⟨h.conc.1,rf K h.conc.2 (key hf.na)⟩,⟨h.parts.1,rf K h.parts.2 (key hf.pa)⟩,h.nl,h.pl⟩;obtain⟨b,off,e,c0,c1⟩:=h.aH.2 i hi;have hb:¬ N b:=key hf.ca _ e;exact⟨b,off,e,K.cell hb c0,K.cell hb c1⟩
theorem Env.kill {N:Nat->Prop} {W W' W0:World} (K:jT N W W0) {f:aB} {ts:List af} {q:ae} {n m:Nat} (E:Env f ts q W) (h0:¬ N 0) (hNf:∀ b,N b->b<m) (hf:f.New m) (hNq:∀ b,N b->b<n∨W'.heap.size<=b) (hb:Below W'.heap.size W' W) (hq:q.At W') (hn:q.New n):Env f ts q W0:=
 ⟨E.ok,IW K hNf E.facts hf (yF K hNq hb hq hn),fun j u hj=>K.cell h0 (E.shapes j u hj),E.one,E.five,E.eight,E.ord,E.few,E.keys,E.want,E.ahZ,E.dJ,E.ah0⟩
theorem Fz.kill {N:Nat->Prop} {W w W0:World} (K:jT N W W0) (hb:Below W.heap.size W w) (hN:∀ b,N b->b<w.heap.size):Fz (fun b=>¬ N b) W0 w:=
 ⟨⟨by rw[K.size]; exact hb.size,fun b o v hc=>cB hb (K.under.cell b o v hc)⟩,fun b h=>K.live h,fun b h hn=>by have:=hN b hn; omega⟩
theorem aL.lh {q p:ae} (h:aL q p):p.lh=q.lh:=by
 unfold ae.lh;apply List.ext_getElem
 ·rw[QU,QU,h.len]
 ·intro i h1 h2;rw[QU] at h1 h2;have:=h.cs i h1;rw[Xq,Xq,ZG h1,ZG h2] at this;rw[List.getElem_map,List.getElem_map];exact this
theorem aL.check {q p:ae} (h:aL q p) (ts:List af):p.check ts=q.check ts:=by
 unfold ae.check;rw[h.src,h.lh,h.group,h.keys,h.sums,h.aQ,h.ord]
theorem AQ {ts:List af} {q:ae} {xs:List Int} (h:bG xs (aO ts q.src.xs)=true):eT ts q xs:=fun c hc=>by
 unfold bG at h;rw[Qn] at h;have:=h c hc;simp only[Qm,Qx] at this;exact this
theorem aeL {ts:List af} {q:ae} {f:aB} {W:World} (hc:q.check ts=0) (hf:f.At ts q W) (hs:cZ W 0) (hk:q.keys.xs.length<=q.keys.cap) (hn:q.keys.ad=none->q.keys.cap=0):Env f ts q W:=by
 obtain⟨c1,c2,c3,c4,c5⟩:=Mv hc;have hK:bG q.keys.xs (aO ts q.src.xs)=true/\q.keys.xs.length<=4:=by
  unfold ae.check checkN at hc;split at hc
  ·omega
  ·split at hc
   ·omega
   ·rename_i _ hf
    split at hc
    ·rename_i hr
     have h4:=hr.2.2.2;unfold uO at h4;simp only[Qm] at h4;obtain⟨⟨⟨⟨⟨⟨⟨_,r2⟩,_⟩,_⟩,_⟩,_⟩,_⟩,_⟩:=h4;unfold lg at hf;rw[Bool.or_eq_true,not_or,Qx] at hf;exact⟨r2,by omega⟩
    ·omega
 refine⟨c1.ok,hf,hs,c2,c1.five,c1.eight,c3,c4,AQ hK.1,fun hg=>?_,hK.2,hk,hn⟩;intro c hm;unfold iH at hm;rw[Q0] at hm;obtain⟨p,hp,rfl⟩:=hm;have ho:=c3 hg;unfold bG at ho;rw[Qn] at ho;have h1:=ho p hp;simp only[Qm,Qx] at h1;have hl:p.toNat<q.aQ.xs.length:=by omega
 refine AQ c5 _ ?_;rw[Xq,ZG hl];exact Qj hl
theorem MP {ls:List (List Int)} {p:ai} (h:p∈dz ls):p.2=none:=by
 unfold dz at h;obtain⟨o,_,rfl⟩:=Q0.1 h;rfl
theorem Jj {rk:Nat->Int} {Q:bg->Prop}:∀ (l:List Nat) (acc:List bg),(∀ t∈acc,Q t)->(∀ i∈l,Q (2 ^ i,0))->∀ t∈l.foldl (fun a (i:Nat)=>gU rk a (2 ^ i,0)) acc,Q t
 | [],_,h,_ => h
 | i::l,acc,h,hl => Jj l _ (fun t ht => by
   rcases vM ht with ht | rfl
   ·exact h t ht
   ·exact hl i Xo) (fun j hj=>hl j (Xm _ hj))
theorem Sg (rk:Nat->Int) (a:List bg) (t:bg):a.length<=(gU rk a t).length/\(gU rk a t).length<=a.length+1:=by
 unfold gU;split
 ·omega
 ·rw[QT,Q5,Q6,XI];omega
theorem VT (rk:Nat->Int) (t:bg):0<(gU rk [] t).length:=by
 unfold gU;split
 ·rename_i h
  exact absurd h (by simp[mi])
 ·simp
theorem xN (rk:Nat->Int):∀ (l:List Nat) (acc:List bg),acc.length<=(l.foldl (fun a (i:Nat)=>gU rk a (2 ^ i,0)) acc).length/\(l.foldl (fun a (i:Nat)=>gU rk a (2 ^ i,0)) acc).length<=acc.length+l.length
 | [],acc => by simp
 | i::l,acc => by
  have h1:=Sg rk acc (2 ^ i,0);have h2:=xN rk l (gU rk acc (2 ^ i,0));simp only[QO,Q5];omega
theorem Dw (rk:Nat->Int) (ts:List af) (q:ae) (room:Nat) (h1:1<=q.src.xs.length) (h5:q.src.xs.length<=5) (h8:q.wh.length<=8) (hr:1<=room):E5 q (dK rk ts q room):=by
 have hp:=Rn ts q h1;have hg:=xN rk (List.range q.src.xs.length) [];rw[QV] at hg;refine⟨⟨by unfold dK; simp,fun s hs=>?_,fun t ht=>?_,hp.1,?_⟩,fun _=>?_,?_⟩
 ·have hs':s<2 ^ q.src.xs.length-1:=by
   unfold dK at hs
   simpa using hs
  have e:(dK rk ts q room).groups.getD s []=dz ((fA ts q s).take room):=by
   unfold dK;rw[Xq,QW,ZG (by simpa using hs')];simp
  rw[e];obtain⟨⟨r,hu⟩,hl⟩:=A8 ts q s h8;refine⟨fun p hp x hx=>?_,?_,?_⟩
  ·rw[MP hp] at hx
   cases hx
  ·rw[hu];obtain⟨n,rfl⟩:∃ n,room=n+1:=⟨room-1,by omega⟩
   exact⟨none,dz (r.take n),rfl,fun x hx=>by cases hx⟩
  ·unfold dz;rw[QU,Q6];omega
 ·exact Jj (rk:=rk) (Q:=kT q.src.xs.length (dK rk ts q room).groups) (List.range q.src.xs.length) [] (fun t ht=>by cases ht) (fun i hi=>.inl ⟨rfl,i,Z4.1 hi,rfl⟩) t ht
 ·show (fF ts q).ns.length<=800
  omega
 ·show 0<((List.range q.src.xs.length).foldl (fun a (i:Nat)=>gU rk a (2 ^ i,0)) []).length
  obtain⟨n,hn⟩:∃ n,q.src.xs.length=n+1:=⟨q.src.xs.length-1,by omega⟩
  rw[hn,List.range_succ_eq_map,QO];exact Q8 (VT rk _) (xN rk _ _).1
 ·show ((List.range q.src.xs.length).foldl (fun a (i:Nat)=>gU rk a (2 ^ i,0)) []).length<=64*(0+1)
  have:=hg.2;simp only[Zk] at this;omega
section
theorem Ng {P:Program} {c:Code} {Q J:Exit->Act->World->Prop} {a:Act} {w:World} (h:c.wp P J a w) (hQ:∀ e a w,J e a w->Q e a w):c.wp P Q a w:=fun b k cs=>by
 obtain⟨e,a',w',hq,hr⟩:=h b k cs;exact⟨e,a',w',hQ _ _ _ hq,hr⟩
def GX (X:Nat->Prop) (sb k:Nat) (gv:Value) (gb:Nat->Nat):Nat->Prop:=fun b=>¬ X b/\b≠sb/\gv.ownBlock≠some b/\∀ j,j<k->b≠gb j
theorem WM {Tl:TypeId} {F:Nat->Prop} {base:Nat} {w:World} {v:Value} {os:List ah} (h:fQ Tl F base w v os) (h0:0<os.length) :
  ∃ ob oc,v=.slice (some (aD ob 0)) os.length oc/\os.length<=oc/\oc<=9223372036854775807/\base<=ob/\∀ m,m<=os.length->aY w (some (aD ob 0)) m (fun i=>((os.take m).getD i dU).val):=by
 rcases h.own.2 with⟨_,h1⟩ | ⟨g,cap,cur,rfl,hb,hh,hc,hm,hs,ht⟩
 ·omega
 refine⟨g,cap,rfl,hc,by unfold maxLen at hm; omega,hb,fun m hm i hi=>⟨g,0,rfl,?_⟩⟩;rw[QE,QG (show GB w g _ cur from hh) i];have h2:(cur.toList.take (os.length*1))[i]? = some ((os.take m).getD i dU).val:=by
  rw[ht,QW,ZG (by omega),Xq,ZH,Qr hi,ZG (by omega)];rfl
 rw[ZH] at h2;split at h2
 ·simpa using h2
 ·cases h2
def xR (ts:List af) (q:ae) (room j:Nat):List (List Int):=(fA ts q j).take room
def kW (ts:List af) (q:ae) (room k:Nat):Bool:=(List.range k).any fun s=>decide (room<(fA ts q s).length)
theorem SX (ts:List af) (q:ae) (room k:Nat):kW ts q room (k+1)=(kW ts q room k || decide (room<(fA ts q k).length)):=by
 unfold kW;rw[QR,List.any_append];simp
def Jt (gv:Value) (cu:Bool) (bt:Nat):Array Value:=#[gv,.slice none 0 0,.bool cu,.pointer (some (aD bt 0)),.slice none 0 0,.int .i64 1]
structure kX (W0:World) (f:aB) (ts:List af) (q:ae) (X:Nat->Prop) (room:Nat) (w0:World) (vb sb k:Nat) (cu:Bool) (gv:Value) (gb cp:Nat->Nat) (os:Nat->List ah) (bt:Nat) (x:World):Prop where
 hz:Fz (fun b=>¬ X b) W0 x
 old:Below w0.heap.size w0 x
 root:W0.heap.size<=w0.heap.size
 xlt:∀ b,X b->b<w0.heap.size
 Nh:w0.heap.size<sb/\w0.heap.size<vb/\vb≠sb
 fbg:GB x w0.heap.size 94 (f.cells ts q)
 var:GB x vb 61 #[.pointer (some (aD sb 0))]
 blk:GB x sb 102 (f.cells ts q++Jt gv cu bt)
 own:x.ownsRow w0.heap.size 137 1 gv k ((List.range k).map fun j=>Value.slice (some (aD (gb j) 0)) (dz (xR ts q room j)).length (cp j))
 kU:∀ j,j<k->aX 120 195 (GX X sb k gv gb) x (gb j) (fun _=>0) (os j) (dz (xR ts q room j))/\w0.heap.size<=gb j/\(dz (xR ts q room j)).length<=cp j/\cp j<=9223372036854775807
 apart:∀ i j,i<k->j<k->gb i=gb j->i=j
 bM:aC 120 (GX X sb k gv gb) x bt (fF ts q)
variable {W0:World} {f:aB} {ts:List af} {q:ae} {X:Nat->Prop} {room:Nat} {w0:World} {vb sb k:Nat} {cu:Bool} {gv:Value} {gb cp:Nat->Nat} {os:Nat->List ah} {bt:Nat} {x:World}
theorem kX.ne (h:kX W0 f ts q X room w0 vb sb k cu gv gb cp os bt x):gv.ownBlock≠some sb/\gv.ownBlock≠some vb/\gv.ownBlock≠some w0.heap.size/\∀ j,j<k->gv.ownBlock≠some (gb j)/\gb j≠sb/\gb j≠vb/\gb j≠w0.heap.size:=by
 refine⟨XR h.own h.blk (by decide),XR h.own h.var (by decide),XR h.own h.fbg (by decide),fun j hj=>?_⟩;obtain⟨c,hc⟩:=(h.kU j hj).1.tp;exact⟨XR h.own hc (by decide),fun e=>absurd (GB.tp hc (e ▸ h.blk)) (by decide),fun e=>absurd (GB.tp hc (e ▸ h.var)) (by decide),fun e=>absurd (GB.tp hc (e ▸ h.fbg)) (by decide)⟩
theorem kX.below (h:kX W0 f ts q X room w0 vb sb k cu gv gb cp os bt x) {y:World} (hb:Below x.heap.size x y):kX W0 f ts q X room w0 vb sb k cu gv gb cp os bt y:=by
 have hk:Kept (fun b=>b<x.heap.size) x y:=Q9 hb (fun _ h _=>h);exact⟨h.hz.next hb,h.old.trans (hb.mono h.old.size),h.root,h.xlt,h.Nh,h.fbg.keep hk h.fbg.lt,h.var.keep hk h.var.lt,h.blk.keep hk h.blk.lt,Z0 h.own hb,fun j hj=>⟨(h.kU j hj).1.below hb,(h.kU j hj).2⟩,h.apart,h.bM.below hb⟩
theorem kX.flag (h:kX W0 f ts q X room w0 vb sb k cu gv gb cp os bt x) {y:World} {c2:Bool} (hk:Kept (fun b=>b≠sb) x y) (hblk:GB y sb 102 (f.cells ts q++Jt gv c2 bt)):kX W0 f ts q X room w0 vb sb k c2 gv gb cp os bt y:=by
 have hn:=h.ne;refine⟨⟨h.hz.below.kept hk fun b hb e=>?_,h.hz.low,fun b hb=>h.hz.high b (Q4 hk.size hb)⟩,h.old.trans (hk.below h.old.size fun b hb=>?_),h.root,h.xlt,h.Nh,h.fbg.keep hk ?_,h.var.keep hk h.Nh.2.2,hblk,Zx h.own hk fun g e e2=>hn.1 (e2 ▸ e),fun j hj=>⟨(h.kU j hj).1.aT (hk.mono fun b _ hb=>?_),(h.kU j hj).2⟩,h.apart,h.bM.aT (hk.mono fun b _ hb=>hb.2.1)⟩
 ·have:=hb.lt;have:=h.root;have:=h.Nh.1;omega
 ·have:=h.Nh.1;omega
 ·have:=h.Nh.1;omega
 ·rcases hb with hb | hb
  ·exact hb.2.1
  ·rw[hb];exact (hn.2.2.2 j hj).2.1
theorem kX.fz (h:kX W0 f ts q X room w0 vb sb k cu gv gb cp os bt x):Fz (GX X sb k gv gb) W0 x:=by
 refine⟨h.hz.below,fun b hb=>⟨h.hz.low b hb,?_,fun e=>?_,fun j hj e=>?_⟩,fun b hb=>⟨h.hz.high b hb,?_,fun e=>?_,fun j hj e=>?_⟩⟩
 ·have:=hb.lt;have:=h.root;have:=h.Nh.1;omega
 ·have:=hb.lt;have:=(Zy h.own e).1;have:=h.root;omega
 ·have:=hb.lt;have:=(h.kU j hj).2.1;have:=h.root;omega
 ·have:=h.blk.lt;omega
 ·have:=(Zy h.own e).2;omega
 ·obtain⟨c,hc⟩:=(h.kU j hj).1.tp;have:=hc.lt;omega
theorem kX.push (h:kX W0 f ts q X room w0 vb sb k cu gv gb cp os bt x) {y1 y2 y5:World} (hb1:Below x.heap.size x y1) (hb2:Below y1.heap.size y1 y2) {gn cn:Nat} {on:List ah} (hg:aX 120 195 (fun b=>GX X sb k gv gb b/\b<y1.heap.size) y2 gn (fun _=>0) on (dz (xR ts q room k))) (hgn:y1.heap.size<=gn/\gn<y2.heap.size) (hcn:(dz (xR ts q room k)).length<=cn/\cn<=9223372036854775807) {WO:Value} (ho:y5.ownsRow w0.heap.size 137 1 WO (k+1) (((List.range k).map fun j=>Value.slice (some (aD (gb j) 0)) (dz (xR ts q room j)).length (cp j))++[Value.slice (some (aD gn 0)) (dz (xR ts q room k)).length cn])) (hk:Kept (fun b=>b≠sb/\gv.ownBlock≠some b) y2 y5) (hat:WO.ownBlock=gv.ownBlock∨WO.ownBlock=some (y2.heap.size+1)) (hblk:GB y5 sb 102 (f.cells ts q++Jt WO cu bt)) :
  kX W0 f ts q X room w0 vb sb (k+1) cu WO (fun j=>if j=k then gn else gb j) (fun j=>if j=k then cn else cp j) (fun j=>if j=k then on else os j) bt y5:=by
 have hn:=h.ne;have uH:=aG hb1 hb2;have hs1:=hb1.size;have hs2:=hb2.size;have hsx:=h.old.size;have hgl:∀ j,j<k->gb j<x.heap.size:=fun j hj=>by
  obtain⟨c,hc⟩:=(h.kU j hj).1.tp;exact hc.lt
 have hown:∀ b,gv.ownBlock=some b->b<x.heap.size:=fun b e=>(Zy h.own e).2
 have hkx:=(Q9 (s:=fun b=>b≠sb/\gv.ownBlock≠some b) uH (fun b hl _=>hl)).trans hk;have hmono:∀ b,b<y1.heap.size->GX X sb k gv gb b->GX X sb (k+1) WO (fun j=>if j=k then gn else gb j) b:=fun b hl hb=>by
  refine⟨hb.1,hb.2.1,fun e=>?_,fun j hj=>?_⟩
  ·rcases hat with h1 | h1
   ·exact hb.2.2.1 (h1 ▸ e)
   ·rw[h1] at e;injection e with e;omega
  ·show b≠if j=k then gn else gb j
   split
   ·omega
   ·exact hb.2.2.2 j (by omega)
 have hap:∀ i,i<k->gn≠gb i:=fun i hi e=>by have:=hgl i hi; omega
 have hxm:∀ b,b<x.heap.size->GX X sb k gv gb b->GX X sb (k+1) WO (fun j=>if j=k then gn else gb j) b:=fun b hl=>hmono b (by omega)
 have hnX:∀ b,GX X sb (k+1) WO (fun j=>if j=k then gn else gb j) b->WO.ownBlock≠some b:=fun b hb=>hb.2.2.1
 have hnw:∀ b,GX X sb (k+1) WO (fun j=>if j=k then gn else gb j) b->b<x.heap.size->WO.ownBlock=gv.ownBlock->gv.ownBlock≠some b:=fun b hb _ e=>e ▸ hb.2.2.1
 -- trees and orders of before lie outside of the old list too: they are first kept,then read with the wider names
 have hkG:Kept (GX X sb k gv gb) x y5:=hkx.mono fun b _ hb=>⟨hb.2.1,hb.2.2.1⟩
 refine⟨⟨h.hz.below.kept hkx fun b hb=>⟨fun e=>?_,fun e=>?_⟩,h.hz.low,fun b hb=>h.hz.high b (Q4 hkx.size hb)⟩,h.old.trans (hkx.below h.old.size fun b hb=>⟨?_,fun e=>?_⟩),h.root,h.xlt,h.Nh,h.fbg.keep hkx ⟨?_,hn.2.2.1⟩,h.var.keep hkx ⟨h.Nh.2.2,hn.2.1⟩,hblk,?_,fun j hj=>?_,fun i j hi hj e=>?_,?_⟩
 ·have:=hb.lt;have:=h.root;have:=h.Nh.1;omega
 ·have:=hb.lt;have:=(Zy h.own e).1;have:=h.root;omega
 ·have:=h.Nh.1;omega
 ·have:=(Zy h.own e).1;omega
 ·have:=h.Nh.1;omega
 ·have e:(List.range (k+1)).map (fun j=>Value.slice (some ⟨if j=k then gn else gb j,0,none⟩) (dz (xR ts q room j)).length (if j=k then cn else cp j))=((List.range k).map fun j=>Value.slice (some (aD (gb j) 0)) (dz (xR ts q room j)).length (cp j))++[Value.slice (some (aD gn 0)) (dz (xR ts q room k)).length cn]:=by
   rw[QR,Ql];congr 1
   ·refine List.map_congr_left fun j hj=>?_
    have:j≠k:=by have:=Z4.1 hj; omega
    rw[Qs this,Qs this]
   ·simp
  rw[e];exact ho
 ·by_cases e:j=k
  ·subst e;simp only[Qr];refine⟨aX.mono (hg.aT (hk.mono fun b _ hb=>?_)) fun b _ hb=>hmono b hb.2 hb.1,by omega,hcn⟩;rcases hb with hb | hb
   ·exact⟨hb.1.2.1,hb.1.2.2.1⟩
   ·rw[hb];refine⟨fun e=>?_,fun e=>?_⟩
    ·have:=h.blk.lt;omega
    ·have:=hown _ e;omega
  ·simp only[Qs e];have hj':j<k:=by omega
   refine⟨((h.kU j hj').1.mono (G:=fun b=>GX X sb k gv gb b/\b<x.heap.size) (fun b hl hb=>⟨hb,hl⟩) |>.aT (hkx.mono fun b _ hb=>?_)).mono fun b _ hb=>hxm b hb.2 hb.1,(h.kU j hj').2⟩;rcases hb with hb | hb
   ·exact⟨hb.1.2.1,hb.1.2.2.1⟩
   ·rw[hb];exact⟨(hn.2.2.2 j hj').2.1,(hn.2.2.2 j hj').1⟩
 ·have e':=e;by_cases h1:i=k
  ·by_cases h2:j=k
   ·omega
   ·rw[Qr h1,Qs h2] at e';exact absurd e' (hap j (by omega))
  ·by_cases h2:j=k
   ·rw[Qs h1,Qr h2] at e';exact absurd e'.symm (hap i (by omega))
   ·rw[Qs h1,Qs h2] at e';exact h.apart i j (by omega) (by omega) e'
 ·exact ((h.bM.mono (G:=fun b=>GX X sb k gv gb b/\b<x.heap.size) (fun b hl hb=>⟨hb,hl⟩)).aT (hkx.mono fun b _ hb=>⟨hb.1.2.1,hb.1.2.2.1⟩)).mono fun b _ hb=>hxm b hb.2 hb.1
theorem kX.search (h:kX W0 f ts q X room w0 vb sb k cu gv gb cp os bt x) (h0:0<k) :
  ∃ L:qj,L.av=.slice none 0 0/\L.pv=.slice none 0 0/\dn W0 f ts q (fun b=>X b∨(b=sb∨∃ j,j<k/\b=gb j)) (fun b=>b=sb∨∃ j,j<k/\b=gb j) x sb L ⟨(List.range k).map fun s=>dz (xR ts q room s),[],cu,fF ts q,[],1⟩:=by
 have hn:=h.ne;have hG:∀ b,GX X sb k gv gb b->¬ (X b∨(b=sb∨∃ j,j<k/\b=gb j)):=fun b hb h0=>by
  rcases h0 with h0 | h0 | ⟨j,hj,h0⟩
  ·exact hb.1 h0
  ·exact hb.2.1 h0
  ·exact hb.2.2.2 j hj h0
 have hge:∀ j,j<k->((List.range k).map fun s=>dz (xR ts q room s)).getD j []=dz (xR ts q room j):=fun j hj=>by
  rw[Xq,QW,ZG (by simpa using hj)];simp
 have hfz:=h.fz;have hown:=h.own;rcases hown.2 with⟨_,h1⟩ | ⟨g,cap,cur,rfl,hb,hh,hc,hm,hs,ht⟩
 ·omega
 have hcell:∀ j,j<k->x.cell? (aD g j)=some (.slice (some (aD (gb j) 0)) (dz (xR ts q room j)).length (cp j)):=fun j hj=>by
  rw[QG (show GB x g _ cur from hh) j];have h2:(cur.toList.take (k*1))[j]? = some (.slice (some (aD (gb j) 0)) (dz (xR ts q room j)).length (cp j)):=by
   rw[ht,QW,ZG (by simpa using hj)];simp
  rw[ZH] at h2;split at h2
  ·simpa using h2
  ·cases h2
 refine⟨⟨g,cap,gb,cp,fun _ _=>0,os,.slice none 0 0,bt,.slice none 0 0⟩,rfl,rfl,⟨h.hz.below,fun b hb=>hG b (hfz.low b hb),fun b hb=>hG b (hfz.high b hb)⟩,fun b hb=>.inr hb,.inl rfl,?_,?_,(QI.1 hh).1,fun j hj=>?_,fun j hj=>?_,fun i j hi hj e=>?_,ZE _ _ _ _,(fun b e=>by cases e),h.bM.mono fun b _ hb=>hG b hb,ZE _ _ _ _,(fun b e=>by cases e)⟩
 ·have e:kM ⟨g,cap,gb,cp,fun _ _=>0,os,.slice none 0 0,bt,.slice none 0 0⟩ ⟨(List.range k).map fun s=>dz (xR ts q room s),[],cu,fF ts q,[],1⟩=Jt (.slice (some (aD g 0)) k cap) cu bt:=by
   unfold kM Jt;simp
  rw[e];exact h.blk
 ·show ¬ (X g∨(g=sb∨∃ j,j<k/\g=gb j))
  rintro (h0 | h0 | ⟨j,hj,h0⟩)
  ·have:=h.xlt g h0;omega
  ·exact hn.1 (by rw[h0]; rfl)
  ·exact (hn.2.2.2 j hj).1 (by rw[h0]; rfl)
 ·have hj':j<k:=by simpa using hj
  show x.cell? (aD g j)=some (.slice (some (aD (gb j) 0)) (((List.range k).map fun s=>dz (xR ts q room s)).getD j []).length (cp j))
  rw[hge j hj'];exact hcell j hj'
 ·have hj':j<k:=by simpa using hj
  show aX _ _ _ _ (gb j) (fun _=>0) (os j) (((List.range k).map fun s=>dz (xR ts q room s)).getD j [])/\(gb j=sb∨∃ i,i<k/\gb j=gb i)/\(((List.range k).map fun s=>dz (xR ts q room s)).getD j []).length<=cp j/\cp j<=9223372036854775807
  rw[hge j hj'];exact⟨(h.kU j hj').1.mono fun b _ hb=>hG b hb,.inr ⟨j,hj',rfl⟩,(h.kU j hj').2.2⟩
 ·exact h.apart i j (by simpa using hi) (by simpa using hj) e
theorem Tryz.SY:(Tryz.prog.info? 137).map (fun i=>(i.zero,i.size,i.bytes))=some (some (.slice none 0 0),1,24):=by kernel_rfl
theorem Ju (W:World) (base:Nat) (v:Value) (n:Nat) (xs:List Value) (hown:W.ownsRow base 137 1 v n xs) (hl:n<=1000) (hb:base<=W.heap.size) (ga:Option Addr) (gl gc:Nat) (ty:TypeId) :
  ∃ v' w',(Builtin.append_ #[97,97] ty #[v,.slice (some (aD W.heap.size 0)) 1 1]).run Tryz.prog (W.alloc (.cells #[.slice ga gl gc] 137))=.ok v' w'/\
   w'.ownsRow base 137 1 v' (n+1) (xs++[.slice ga gl gc])/\Kept (fun b=>v.ownBlock≠some b) W w'/\(∃ a m c,v' = .slice a m c)/\(v'.ownBlock=v.ownBlock∨v'.ownBlock=some (W.heap.size+1)):=by
 obtain⟨i0,hi,hz0,hz1,hz2⟩:=ZC Tryz.SY;obtain⟨v',w',hr,ho,hk,hs,hat⟩:=ZV (P:=Tryz.prog) W base 97 ty 137 i0 _ 1 24 Tryz.underlying97 hi hz0 hz1 hz2 rfl (by decide) v n _ hown hb [.slice ga gl gc] rfl (fun u hu=>by
  rw[QY] at hu;rw[hu];rfl) hl (by decide)
 exact⟨v',w',hr,ho,hk,hs,hat⟩
end
