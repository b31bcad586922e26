import Derived.Test.YtlpbelhfpoilpaaGreatDoorRE33
import Derived.Test.YtlpbelhfpoilpaaGreatDoorRE37
set_option linter.all false
set_option maxRecDepth 100000
set_option maxHeartbeats 16000000
namespace Go.Proofs.Zz
open Go.RowKit Go.Shelf
variable {W W' W0 w x y:World} {B base k m n:Nat} {e:TypeId} {v:Value} {ts:List af} {a:Addr} {ls wh:List aH} {ao:Option Addr} {N:Nat->Prop} {g:Nat->Value} {q:ae} {f:au}
def D8(t:af):List Value:=[.int .i64 t.aO,.int .i64 t.rows,.int .i64 t.k0,.int .i64 t.k1,.int .i64 t.k2,.int .i64 t.k3]
theorem Oq(h:w.ownsRow base e 6 v ts.length (ts.flatMap D8))(hl:ts.length<=1000) :
  ∃ ad cap,v=.slice ad ts.length cap/\aZ w ad ts:=by
 rcases h.2 with⟨rfl,h0⟩ | ⟨g,cap,cur,rfl,hb,hh,hc,_,hcs,ht⟩
 ·have:=QL h0;subst this;exact⟨none,0,rfl,by simp,fun i hi=>absurd hi (by simp)⟩
 ·refine⟨some (aD g 0),cap,rfl,by omega,fun i hi=>⟨g,0,rfl,?_⟩⟩;have hcell:∀ j u,j<6->(D8 (ts.getD i tz))[j]? = some u->w.cell? (aD g (0+i*6+j))=some u:=fun j u hj hu=>by
   have h1:=Xc D8 6 (fun _=>rfl) tz ts i j hi hj;rw[hu,<- ht,ZY]at h1;split at h1
   ·rw[QQ,QT (show GB w g _ cur from hh)]
    simpa using h1
   ·cases h1
  exact⟨hcell 0 _ (by omega) rfl,hcell 1 _ (by omega) rfl,hcell 2 _ (by omega) rfl,hcell 3 _ (by omega) rfl,hcell 4 _ (by omega) rfl,hcell 5 _ (by omega) rfl⟩
theorem Ke{xs:List af}(h:aZ w (some a) xs):∀ j u,(xs.flatMap D8)[j]? = some u->∃ b off,some a=some (aD b off)/\w.cell? (aD b (off+j))=some u:=by
 intro j u hj;have hjl:j<xs.length*6:=by
  have:=(ZW.1 hj).1;rw[ko D8 6 (fun _=>rfl)]at this;exact this
 have hi:j / 6<xs.length:=by omega
 obtain⟨b,off,e,c0,c1,c2,c3,c4,c5⟩:=h.2 (j / 6) hi;refine⟨b,off,e,?_⟩;have hr:j % 6<6:=by omega
 have hg:=Xc D8 6 (fun _=>rfl) tz xs (j / 6) (j % 6) hi hr;have hj2:j / 6*6+j % 6=j:=by omega
 rw[hj2,hj]at hg;rw[<- hj2];generalize j / 6=i at *;generalize j % 6=r at *
 match r,hr,hg with
 | 0,_,hg =>
  injection hg with hg;rw[hg,Zf];exact c0
 | 1,_,hg =>
  injection hg with hg;rw[hg,<- XN];exact c1
 | 2,_,hg =>
  injection hg with hg;rw[hg,<- XN];exact c2
 | 3,_,hg =>
  injection hg with hg;rw[hg,<- XN];exact c3
 | 4,_,hg =>
  injection hg with hg;rw[hg,<- XN];exact c4
 | 5,_,hg =>
  injection hg with hg;rw[hg,<- XN];exact c5
theorem Ot{xs:List aC}(h:bH w (some a) xs):∀ j u,(xs.flatMap aC.vals)[j]? = some u->∃ b off,some a=some (aD b off)/\w.cell? (aD b (off+j))=some u:=by
 intro j u hj;have hjl:j<xs.length*5:=by
  have:=(ZW.1 hj).1;rw[ko aC.vals 5 (fun _=>rfl)]at this;exact this
 have hi:j / 5<xs.length:=by omega
 obtain⟨b,off,e,c0,c1,c2,c3,c4⟩:=h.2 (j / 5) hi;refine⟨b,off,e,?_⟩;have hr:j % 5<5:=by omega
 have hg:=Xc aC.vals 5 (fun _=>rfl) cz xs (j / 5) (j % 5) hi hr;have hj2:j / 5*5+j % 5=j:=by omega
 rw[hj2,hj]at hg;rw[<- hj2];generalize j / 5=i at *;generalize j % 5=r at *
 match r,hr,hg with
 | 0,_,hg =>
  injection hg with hg;rw[hg,Zf];exact c0
 | 1,_,hg =>
  injection hg with hg;rw[hg,<- XN];exact c1
 | 2,_,hg =>
  injection hg with hg;rw[hg,<- XN];exact c2
 | 3,_,hg =>
  injection hg with hg;rw[hg,<- XN];exact c3
 | 4,_,hg =>
  injection hg with hg;rw[hg,<- XN];exact c4
theorem Tryz.acC:(Tryz.prog.info? 80).map (fun i=>(i.zero,i.size,i.bytes))=some (some (.agg #[.int .i64 0,.int .i64 0,.int .i64 0,.int .i64 0,.int .i64 0,.int .i64 0]),6,48):=by kernel_rfl
theorem AQ(ao:Option Addr)(cap:Nat)(xs:List af)(w:World)(hx:aZ w ao xs)(hn:ao=none->cap=0)(hl:xs.length<=1000) :
  Calls Tryz.prog 105 #[.slice ao xs.length cap] w fun e w'=>∃ v,e=.returned v/\w'.ownsRow w.heap.size 80 6 v xs.length (xs.flatMap D8)/\Bw w w':=by
 obtain⟨i0,hi,hz0,hz1,hz2⟩:=ZU Tryz.acC
 cases ao with
 | none =>
  obtain rfl:cap=0:=hn rfl;have h0:xs=[]:=by
   cases xs with
   | nil => rfl
   | cons x xs => obtain⟨b,off,e,_⟩:=hx.2 0 (by simp); cases e
  subst h0;have hnil:∀ W,(binOp .eql 22 (.slice none 0 0) (.slice none 0 0)).run Tryz.prog W=.ok (.bool true) W:=fun W=>XF W 22 _ none _ _ _ _ Tryz.underlying22
  go_enter Tryz.func105,Tryz.ntmps105;go_wp2;go_ret;exact⟨_,rfl,ZV _ _ _ _,Qw _ _⟩
 | some a =>
  obtain⟨v',w',hr,ho,hbw,⟨va,vm,vc,rfl⟩⟩:=nE (P:=Tryz.prog) w 22 22 80 i0 _ 6 48 Tryz.underlying22 hi hz0 hz1 hz2 rfl (by decide) a xs.length cap (xs.flatMap D8) (ko D8 6 (fun _=>rfl) xs) (Ke hx) (fun u hu=>by
   obtain⟨x,_,hx⟩:=XC.1 hu;simp[D8]at hx;rcases hx with rfl | rfl | rfl | rfl | rfl | rfl <;> rfl) (by omega) (by decide)
  have hnil:∀ W,(binOp .eql 22 (.slice (some a) xs.length cap) (.slice none 0 0)).run Tryz.prog W=.ok (.bool false) W:=fun W=>XF W 22 _ (some a) _ _ _ _ Tryz.underlying22
  have HO:Hid _:=ho;have HB:=Zh hbw;go_enter Tryz.func105,Tryz.ntmps105;go_wp2_with (first | (at_builtin; refine Z8 rfl (.tmp 5) (.tmp 6) 22 rfl (.slice (some (aD w.heap.size 0)) 0 0) (.slice (some a) xs.length cap) (.slice va vm vc) w' rfl rfl hr ?_));go_wp2;go_ret;exact⟨_,rfl,HO.o,HB.o⟩
theorem Cm(ao:Option Addr)(cap:Nat)(xs:List aC)(w:World)(hx:bH w ao xs)(hn:ao=none->cap=0)(hl:xs.length<=1000) :
  Calls Tryz.prog 158 #[.slice ao xs.length cap] w fun e w'=>∃ v,e=.returned v/\w'.ownsRow w.heap.size 134 5 v xs.length (xs.flatMap aC.vals)/\Bw w w':=by
 obtain⟨i0,hi,hz0,hz1,hz2⟩:=ZU Tryz.Kc
 cases ao with
 | none =>
  obtain rfl:cap=0:=hn rfl;have h0:xs=[]:=by
   cases xs with
   | nil => rfl
   | cons x xs => obtain⟨b,off,e,_⟩:=hx.2 0 (by simp); cases e
  subst h0;have hnil:∀ W,(binOp .eql 130 (.slice none 0 0) (.slice none 0 0)).run Tryz.prog W=.ok (.bool true) W:=fun W=>XF W 130 _ none _ _ _ _ Tryz.underlying130
  go_enter Tryz.func158,Tryz.ntmps158;go_wp2;go_ret;exact⟨_,rfl,ZV _ _ _ _,Qw _ _⟩
 | some a =>
  obtain⟨v',w',hr,ho,hbw,⟨va,vm,vc,rfl⟩⟩:=nE (P:=Tryz.prog) w 130 130 134 i0 _ 5 40 Tryz.underlying130 hi hz0 hz1 hz2 rfl (by decide) a xs.length cap (xs.flatMap aC.vals) (ko aC.vals 5 (fun _=>rfl) xs) (Ot hx) (fun u hu=>by
   obtain⟨x,_,hx⟩:=XC.1 hu;simp[aC.vals]at hx;rcases hx with rfl | rfl | rfl | rfl | rfl <;> rfl) (by omega) (by decide)
  have hnil:∀ W,(binOp .eql 130 (.slice (some a) xs.length cap) (.slice none 0 0)).run Tryz.prog W=.ok (.bool false) W:=fun W=>XF W 130 _ (some a) _ _ _ _ Tryz.underlying130
  have HO:Hid _:=ho;have HB:=Zh hbw;go_enter Tryz.func158,Tryz.ntmps158;go_wp2_with (first | (at_builtin; refine Z8 rfl (.tmp 5) (.tmp 6) 130 rfl (.slice (some (aD w.heap.size 0)) 0 0) (.slice (some a) xs.length cap) (.slice va vm vc) w' rfl rfl hr ?_));go_wp2;go_ret;exact⟨_,rfl,HO.o,HB.o⟩
theorem zl(ao:Option Addr)(cap:Nat)(xs:List aH)(w:World)(hx:xs.length<=1152921504606846976/\bC w ao xs.length (fun i=>(xs.getD i lz).val))(hn:ao=none->cap=0)(hl:xs.length<=1000) :
  Calls Tryz.prog 157 #[.slice ao xs.length cap] w fun e w'=>∃ v,e=.returned v/\w'.ownsRow w.heap.size 132 1 v xs.length (xs.map aH.val)/\Bw w w':=by
 obtain⟨i0,hi,hz0,hz1,hz2⟩:=ZU Tryz.Ck
 cases ao with
 | none =>
  obtain rfl:cap=0:=hn rfl;have h0:xs=[]:=by
   cases xs with
   | nil => rfl
   | cons x xs => obtain⟨b,off,e,_⟩:=hx.2 0 (by simp); cases e
  subst h0;have hnil:∀ W,(binOp .eql 24 (.slice none 0 0) (.slice none 0 0)).run Tryz.prog W=.ok (.bool true) W:=fun W=>XF W 24 _ none _ _ _ _ Tryz.underlying24
  go_enter Tryz.func157,Tryz.ntmps157;go_wp2;go_ret;exact⟨_,rfl,ZV _ _ _ _,Qw _ _⟩
 | some a =>
  obtain⟨v',w',hr,ho,hbw,⟨va,vm,vc,rfl⟩⟩:=nE (P:=Tryz.prog) w 24 24 132 i0 _ 1 24 Tryz.underlying24 hi hz0 hz1 hz2 rfl (by decide) a xs.length cap (xs.map aH.val) (by simp) (fun j u hj=>by
   rw[Ze]at hj;by_cases hjl:j<xs.length
   ·obtain⟨b',off',e,hc⟩:=hx.2 j hjl;refine⟨b',off',e,?_⟩;rw[hc];simp[List.getD,hjl]at hj ⊢;exact hj
   ·rw[Zk (by omega)]at hj; cases hj) (fun u hu=>by obtain⟨x,_,rfl⟩:=Zi.1 hu; rfl) (by omega) (by decide)
  have hnil:∀ W,(binOp .eql 24 (.slice (some a) xs.length cap) (.slice none 0 0)).run Tryz.prog W=.ok (.bool false) W:=fun W=>XF W 24 _ (some a) _ _ _ _ Tryz.underlying24
  have HO:Hid _:=ho;have HB:=Zh hbw;go_enter Tryz.func157,Tryz.ntmps157;go_wp2_with (first | (at_builtin; refine Z8 rfl (.tmp 5) (.tmp 6) 24 rfl (.slice (some (aD w.heap.size 0)) 0 0) (.slice (some a) xs.length cap) (.slice va vm vc) w' rfl rfl hr ?_));go_wp2;go_ret;exact⟨_,rfl,HO.o,HB.o⟩
theorem bH.aX{w w':World}{ao:Option Addr}{cs:List aC}{s:Nat->Prop}(h:bH w ao cs)(hk:Kept s w w')(hs:0<cs.length->∀ a,ao=some a->s a.block):bH w' ao cs:=⟨h.1,fun i hi=>by
 obtain⟨b,off,e,c0,c1,c2,c3,c4⟩:=h.2 i hi;have hb:s b:=hs (by omega) (aD b off) e;have key:∀ {o:Nat} {v:Value},w.cell? (aD b o)=some v->w'.cell? (aD b o)=some v:=fun {o v} hc=>by
  rw[Zw (hk.block b (Zv hc) hb)];exact hc
 exact⟨b,off,e,key c0,key c1,key c2,key c3,key c4⟩⟩
structure Yq(e:TypeId)(w:World)(wh:List aH)(k:Nat)(v:Value)(ls:List aH)(x:World):Prop where
 own:x.ownsRow w.heap.size e 1 v ls.length (ls.map aH.val)
 len:ls.length=wh.length
 cs:∀ i,i<ls.length->(ls.getD i lz).cs=(wh.getD i lz).cs/\bH x (ls.getD i lz).ad (ls.getD i lz).cs
 new:∀ i,i<k->i<ls.length->∀ a,(ls.getD i lz).ad=some a->w.heap.size<=a.block
 old:∀ i,k<=i->i<ls.length->ls.getD i lz=wh.getD i lz
 off:∀ i,i<ls.length->0<(ls.getD i lz).cs.length->∀ a,(ls.getD i lz).ad=some a->v.ownBlock≠some a.block
 below:Bw w x
theorem Yq.start(h:gH w ao wh)(ho:x.ownsRow w.heap.size e 1 v wh.length (wh.map aH.val))(hb:Bw w x):Yq e w wh 0 v wh x:=
 ⟨ho,rfl,fun i hi=>⟨rfl,(h.2.2 i hi).below hb⟩,fun i hi=>absurd hi (Nat.not_lt_zero _),fun i _ _=>rfl,fun i hi hc a ea e2=>by
  obtain⟨b,off,e3,c0,_⟩:=(h.2.2 i hi).2 0 hc;rw[ea]at e3;injection e3 with e3;have h1:b<w.heap.size:=Zv c0;have h2:=(ZO ho e2).1;rw[e3]at h2;have h3:w.heap.size<=b:=h2;omega,hb⟩
theorem Yq.step(h:Yq e w wh k v ls x)(hb:Bw x y):Yq e w wh k v ls y:=
 ⟨Xh h.own hb,h.len,fun i hi=>⟨(h.cs i hi).1,(h.cs i hi).2.below hb⟩,h.new,h.old,h.off,h.below.trans (hb.mono h.below.size)⟩
theorem uu(ls:List aH)(k i:Nat)(u:aH)(hk:k<ls.length):(ls.set k u).getD i lz=if i=k then u else ls.getD i lz:=by
 rw[XH,List.getElem?_set];by_cases e:k=i
 ·subst e;simp[hk]
 ·rw[Qz e,Qz (fun h=>e h.symm)];rfl
theorem Yq.next(h:Yq e w wh k v ls x)(hk:k<ls.length)(hb:Bw x y){ad:Option Addr}{cap:Nat}(hc:bH y ad (wh.getD k lz).cs)(hn:∀ a,ad=some a->x.heap.size<=a.block) :
  ∃ g cp,v=.slice (some (aD g 0)) ls.length cp/\Yq e w wh (k+1) v (ls.set k ⟨ad,cap,(wh.getD k lz).cs⟩) (y.setCell (aD g k) (.slice ad (wh.getD k lz).cs.length cap)):=by
 have hy:=h.step hb;rcases h.own.2 with⟨_,h1⟩ | ⟨g,cp,cur,hv,hbg,hh,hcp,hm,hs,ht⟩
 ·omega
 refine⟨g,cp,hv,?_⟩;have hvb:v.ownBlock=some g:=by rw[hv]; rfl
 have hgx:=(ZO h.own hvb).2;have hk1:Kept (fun b=>b≠g) y (y.setCell (aD g k) (.slice ad (wh.getD k lz).cs.length cap)):=ZL _ _ _ (fun h=>h rfl);have hls:(ls.set k ⟨ad,cap,(wh.getD k lz).cs⟩).length=ls.length:=XO ..;refine⟨?_,hls.trans h.len,fun i hi=>?_,fun i hi hl=>?_,fun i hi hl=>?_,fun i hi=>?_,h.below.trans ((hb.mono h.below.size).trans (hk1.below (Zl h.below.size hb.size) fun b hb=>by omega))⟩
 ·have h2:=gM hvb [.slice ad (wh.getD k lz).cs.length cap] k hy.own (by simp; omega);have e1:(ls.map aH.val).take k++[.slice ad (wh.getD k lz).cs.length cap]++(ls.map aH.val).drop (k+[Value.slice ad (wh.getD k lz).cs.length cap].length)=(ls.set k ⟨ad,cap,(wh.getD k lz).cs⟩).map aH.val:=by
   rw[List.map_set,List.set_eq_take_append_cons_drop,Qy (by rw[Zc]; exact hk)];simp[aH.val]
  rw[e1]at h2;rw[hls];exact h2
 ·rw[hls]at hi;rw[uu ls k i _ hk];split
  ·rename_i e1
   subst e1;refine⟨rfl,bH.aX hc hk1 fun _ a ea=>?_⟩;have:=hn a ea;omega
  ·refine⟨(h.cs i hi).1,bH.aX (hy.cs i hi).2 hk1 fun h0 a ea e1=>h.off i hi h0 a ea (by rw[hvb,e1])⟩
 ·rw[hls]at hl;rw[uu ls k i _ hk];split
  ·intro a ea;exact Zl h.below.size (hn a ea)
  ·exact h.new i (by omega) hl
 ·rw[hls]at hl;rw[uu ls k i _ hk,Qz (by omega)];exact h.old i (by omega) hl
 ·rw[hls]at hi;rw[uu ls k i _ hk];split
  ·intro _ a ea e2;have:=hn a ea;rw[hvb]at e2;injection e2 with e2;omega
  ·exact h.off i hi
def World.KC(W:World)(B:Nat)(v0 v1 v2 v3 v4 v5 v6:Value):World:=(((((((W.setCell (aD B 0) v0).setCell (aD B 1) v1).setCell (aD B 2) v2).setCell (aD B 3) v3).setCell (aD B 4) v4).setCell (aD B 5) v5).setCell (aD B 6) v6)
theorem World.acL{t:TypeId}{a0 a1 a2 a3 a4 a5 a6:Value}(h:GB W B t #[a0,a1,a2,a3,a4,a5,a6])(v0 v1 v2 v3 v4 v5 v6:Value):GB (World.KC W B v0 v1 v2 v3 v4 v5 v6) B t #[v0,v1,v2,v3,v4,v5,v6]:=by
 unfold World.KC;have h0:GB (W.setCell (aD B 0) v0) B t #[v0,a1,a2,a3,a4,a5,a6]:=h.set 0 v0;have h1:GB ((W.setCell (aD B 0) v0).setCell (aD B 1) v1) B t #[v0,v1,a2,a3,a4,a5,a6]:=h0.set 1 v1;have h2:GB (((W.setCell (aD B 0) v0).setCell (aD B 1) v1).setCell (aD B 2) v2) B t #[v0,v1,v2,a3,a4,a5,a6]:=h1.set 2 v2;have h3:GB ((((W.setCell (aD B 0) v0).setCell (aD B 1) v1).setCell (aD B 2) v2).setCell (aD B 3) v3) B t #[v0,v1,v2,v3,a4,a5,a6]:=h2.set 3 v3;have h4:GB (((((W.setCell (aD B 0) v0).setCell (aD B 1) v1).setCell (aD B 2) v2).setCell (aD B 3) v3).setCell (aD B 4) v4) B t #[v0,v1,v2,v3,v4,a5,a6]:=h3.set 4 v4;have h5:GB ((((((W.setCell (aD B 0) v0).setCell (aD B 1) v1).setCell (aD B 2) v2).setCell (aD B 3) v3).setCell (aD B 4) v4).setCell (aD B 5) v5) B t #[v0,v1,v2,v3,v4,v5,a6]:=h4.set 5 v5;have h6:GB (((((((W.setCell (aD B 0) v0).setCell (aD B 1) v1).setCell (aD B 2) v2).setCell (aD B 3) v3).setCell (aD B 4) v4).setCell (aD B 5) v5).setCell (aD B 6) v6) B t #[v0,v1,v2,v3,v4,v5,v6]:=h5.set 6 v6;exact h6
theorem World.Uo(W:World)(B:Nat)(v0 v1 v2 v3 v4 v5 v6:Value):Kept (fun x=>x≠B) W (World.KC W B v0 v1 v2 v3 v4 v5 v6):=by
 unfold World.KC;exact(((((((ZL _ (aD B 0) _ (fun h=>h rfl)).trans (ZL _ (aD B 1) _ (fun h=>h rfl))).trans (ZL _ (aD B 2) _ (fun h=>h rfl))).trans (ZL _ (aD B 3) _ (fun h=>h rfl))).trans (ZL _ (aD B 4) _ (fun h=>h rfl))).trans (ZL _ (aD B 5) _ (fun h=>h rfl))).trans (ZL _ (aD B 6) _ (fun h=>h rfl)))
structure ae.New(q:ae)(n:Nat):Prop where
 src:∀ a,q.src.ad=some a->n<=a.block
 wh:∀ a,q.bY=some a->n<=a.block
 cl:∀ i,i<q.wh.length->∀ a,(q.wh.getD i lz).ad=some a->n<=a.block
 keys:∀ a,q.keys.ad=some a->n<=a.block
 sums:∀ a,q.sums.ad=some a->n<=a.block
 aV:∀ a,q.aV.ad=some a->n<=a.block
 ord:∀ a,q.ord.ad=some a->n<=a.block
structure bu(q p:ae):Prop where
 src:p.src.xs=q.src.xs
 len:p.wh.length=q.wh.length
 cs:∀ i,i<p.wh.length->(p.wh.getD i lz).cs=(q.wh.getD i lz).cs
 group:p.group=q.group
 keys:p.keys.xs=q.keys.xs
 sums:p.sums.xs=q.sums.xs
 aV:p.aV.xs=q.aV.xs
 ord:p.ord.xs=q.ord.xs
structure YC(q:ae):Prop where
 src:(q.src.ad=none->q.src.cap=0)/\q.src.xs.length<=1000
 wh:(q.bY=none->q.aI=0)/\q.wh.length<=100
 cl:∀ i,i<q.wh.length->((q.wh.getD i lz).ad=none->(q.wh.getD i lz).cap=0)/\(q.wh.getD i lz).cs.length<=100
 keys:(q.keys.ad=none->q.keys.cap=0)/\q.keys.xs.length<=1000
 sums:(q.sums.ad=none->q.sums.cap=0)/\q.sums.xs.length<=1000
 aV:(q.aV.ad=none->q.aV.cap=0)/\q.aV.xs.length<=1000
 ord:(q.ord.ad=none->q.ord.cap=0)/\q.ord.xs.length<=1000
theorem Uq{v0 v1 v2 v3 v4 v5 v6:Value}(h:GB W B 26 #[v0,v1,v2,v3,v4,v5,v6]):(loadVar 26 (aD B 0)).run Tryz.prog W=.ok (.agg #[v0,v1,v2,v3,v4,v5,v6]) W:=by
 obtain⟨c0,c1,c2,c3,c4,c5,c6⟩:=h.k7;simp[go_sem,c0,c1,c2,c3,c4,c5,c6]
theorem OH(q:ae)(w:World)(hq:q.At w)(ht:YC q) :
  Calls Tryz.prog 106 #[.agg q.cells] w fun e w'=>∃ p:ae,e=.returned (.agg p.cells)/\p.At w'/\bu q p/\p.New w.heap.size/\(p.keys.ad=none->p.keys.cap=0)/\p.keys.xs.length<=p.keys.cap/\Bw w w':=by
 have uW:q.cells=#[q.src.val,.slice q.bY q.wh.length q.aI,.bool q.group,q.keys.val,q.sums.val,q.aV.val,q.ord.val]:=rfl;rw[uW];clear uW;obtain⟨w1,hw1,hb1,hg1⟩:=aU w #[q.src.val,.slice q.bY q.wh.length q.aI,.bool q.group,q.keys.val,q.sums.val,q.aV.val,q.ord.val] 26;obtain⟨w2,hw2,hb2,hg2⟩:=aU w1 #[.slice none 0 0,.slice none 0 0,.bool false,.slice none 0 0,.slice none 0 0,.slice none 0 0,.slice none 0 0] 26;have zt:=aA hb1 hb2;have agC:=hg1.keep (Zo (s:=fun b=>b<w1.heap.size) hb2 (fun _ h _=>h)) hg1.lt;have HQ:=Zh hq;have HT:=Zh ht;have HB2:=Zh zt;have HG2:=Zh hg2;have qU:=Zh agC;have FL:=hq.wh.below zt;have OI:=zl q.bY q.aI q.wh w2 ⟨FL.1,FL.2.1⟩ ht.wh.1 (by have:=ht.wh.2; omega);have yS:=Zh FL;have c1:=agC.at 1;have Oc:Hid (∀ (x:World) (i:Nat) (l:aH),i<q.wh.length->l=q.wh.getD i lz->bH x l.ad l.cs->Calls Tryz.prog 158 #[.slice l.ad l.cs.length l.cap] x fun e w'=>∃ ad cap,e=.returned (.slice ad l.cs.length cap)/\bH w' ad l.cs/\(∀ a,ad=some a->x.heap.size<=a.block)/\Bw x w'):=fun x i l hi hl hc=>by
  have hti:=ht.cl i hi;rw[<- hl]at hti;refine(Cm l.ad l.cap l.cs x hc hti.1 (by omega)).mono ?_;rintro e w' ⟨v,rfl,ho,hb⟩;obtain⟨ad,cap,rfl,hca,hnew⟩:=xO ho hti.2;exact⟨ad,cap,rfl,hca,fun a ea=>(hnew a ea).1,hb⟩
 have vS:=Zh (Nat.ne_of_lt hg1.lt);have HWW:=Zh hb1.size;have HCI:Hid (∀ (x:World) (iv:ah),Bw w x->iv.At w->((iv.ad=none->iv.cap=0)/\iv.xs.length<=1000)->Calls Tryz.prog 117 #[iv.val] x fun e w'=>∃ jv:ah,e=.returned jv.val/\jv.xs=iv.xs/\jv.At w'/\(∀ a,jv.ad=some a->x.heap.size<=a.block)/\(jv.ad=none->jv.cap=0)/\jv.xs.length<=jv.cap/\Bw x w'):=fun x iv hx hi ht=>by
  refine(pE iv x (Qv hx hi) ht.1 (by omega)).mono ?_;rintro e w' ⟨v,rfl,ho,hb⟩;obtain⟨jv,rfl,h1,h2,h3,h4,h5⟩:=nH ho (by omega);exact⟨jv,rfl,h1,h2,h3,h4,h5,hb⟩
 clear hq ht hb1 hg1 hb2 hg2 zt agC FL;go_enter Tryz.func106,Tryz.ntmps106;go_wp2_with fail;refine OI.mono ?_;rintro e w3 ⟨v,rfl,ho3,hb3⟩;have HC0:=Zh (Yq.start yS.o ho3 hb3);obtain⟨va,vn,vc,rfl⟩:=ZP ho3;obtain rfl:vn=q.wh.length:=by
  rcases ho3.2 with⟨e,h0⟩ | ⟨g,cap,cur,e,_⟩
  ·injection e with e1 e2 e3;omega
  ·injection e with e1 e2 e3
 clear OI c1 hw1 hw2 ho3 hb3;have avc:=HT.o.wh.2;go_wp2;go_loopw [11] (fun iv wr=>∃ k:Nat,k<=q.wh.length/\iv=.int .i64 (k:Int)/\Hid (∃ ls,Yq 132 w2 q.wh k (.slice va q.wh.length vc) ls wr)) (fun iv _=>q.wh.length-(intOf iv).toNat)
 case atStart=>exact⟨0,Q8 _,rfl,_,HC0.o⟩
 case round=>
  obtain⟨k,hk,rfl,HJ⟩:=hrel;obtain⟨ls,hJ⟩:=HJ.o;by_cases hlt:k<q.wh.length
  ·have hlk:k<ls.length:=by rw[hJ.len]; exact hlt
   obtain⟨g,cp,hv,hcell⟩:∃ g cp,(Value.slice va q.wh.length vc)=.slice (some (aD g 0)) ls.length cp/\wr.cell? (aD g k)=some (ls.getD k lz).val:=by
    rcases Xd hJ.own with⟨_,h1⟩ | ⟨g,cap,e,_,_,hc⟩
    ·omega
    ·refine⟨g,cap,e,hc k _ ?_⟩;rw[Ze,ZX hlk,XH,ZX hlk];rfl
   injection hv with hv1 hv2 hv3;subst hv1;have hlz:=hJ.old k (Qx _) hlk;obtain⟨l,hl⟩:=eY (q.wh.getD k lz)
   have hcd:=(hJ.cs k hlk).2;rw[hlz,<- hl]at hcell hcd;have HJ1:=Zh hJ;obtain⟨cur,akQ⟩:=lQ hJ.own (b:=g) rfl;have qN:Hid (GB wr g 132 cur):=akQ;obtain⟨y1,hy1⟩:∃ z,wr.alloc (.cells #[.slice none 0 0] 132)=z:=⟨_,rfl⟩
   have hn1:GB y1 wr.heap.size 132 #[.slice none 0 0]:=by rw[<- hy1]; exact l6 _ _
   have hB1:Bw wr y1:=by rw[<- hy1]; exact dn _ _
   obtain⟨la,lc,lx⟩:=l;simp only[aH.val]at hcell hcd;have aqP:=hn1.at 0;have aqQ:=hn1.frozen 0;obtain⟨y2,hy2⟩:∃ z,y1.setCell (aD wr.heap.size 0) (.slice la lx.length lc)=z:=⟨_,rfl⟩
   have hn2:y2.cell? (aD wr.heap.size 0)=some (.slice la lx.length lc):=by rw[<- hy2]; exact(hn1.set 0 _).cell 0
   have hB2:Bw wr y2:=by
    rw[<- hy2];exact hB1.trans ((ZL (s:=fun b=>b≠wr.heap.size) _ _ _ (fun h=>h rfl)).below hB1.size (fun b hb=>Nat.ne_of_lt hb))
   have RP:=Oc.o y2 k ⟨la,lc,lx⟩ hlt hl (hcd.below hB2);change Calls Tryz.prog 158 #[.slice la lx.length lc] y2 (fun e w'=>∃ ad cap,e=.returned (.slice ad lx.length cap)/\bH w' ad lx/\(∀ a,ad=some a->y2.heap.size<=a.block)/\Bw y2 w') at RP;have HBB:=Zh hB2;have HL:=Zh hl;clear hJ HJ akQ hcd hB1 hB2 hn1 hlz hl hv2 hv3 HC0;go_wp2_with fail;refine RP.mono ?_;rintro e y3 ⟨ad,cap,rfl,hca,hnew,hb3⟩;have hB3:=HBB.o.trans (hb3.mono HBB.o.size);have hcs:lx=(q.wh.getD k lz).cs:=by rw[<- HL.o]
   have oz:Hid (Yq 132 w2 q.wh (k+1) (.slice (some (aD g 0)) q.wh.length vc) (ls.set k ⟨ad,cap,(q.wh.getD k lz).cs⟩) (y3.setCell (aD g k) (.slice ad lx.length cap))):=by
    obtain⟨g',cp',e,h⟩:=HJ1.o.next hlk hB3 (cap:=cap) (by rw[<- hcs]; exact hca) (fun a ea=>Zl HBB.o.size (hnew a ea));injection e with e1;injection e1 with e1;injection e1 with e1;rw[<- hcs,<- e1]at h;rw[<- hcs];exact h
   have YD:=cB hB3 hcell;have hf3:=(qN.o.keep (Zo (s:=fun b=>b<wr.heap.size) hB3 (fun _ h _=>h)) qN.o.lt).frozen k;clear RP hy1 hy2 hcell aqP aqQ hn2 hca hnew hb3 hB3 hcs;go_wp2;go_roundw
   case rel=>exact⟨k+1,by omega,by go_num,_,oz.o⟩
   case measure=>simp[intOf]; omega
  ·have hkn:k=q.wh.length:=by omega
   have hgq:=qU.o.keep (Zo (s:=fun b=>b<w2.heap.size) hJ.below (fun _ h _=>h)) qU.o.lt;have hgr:=HG2.o.keep (Zo (s:=fun b=>b<w2.heap.size) hJ.below (fun _ h _=>h)) HG2.o.lt;have d0:=hgq.at 0;have d2:=hgq.at 2;have d3:=hgq.at 3;have d4:=hgq.at 4;have d5:=hgq.at 5;have d6:=hgq.at 6;have hne:=vS.o;have HJ1:=Zh hJ;have HKN:=Zh hkn;have qp:=Zh hgr;have jV:=Zh (aA HB2.o hJ.below);clear hJ HJ hgq hgr hkn HC0;go_wp2_with fail;refine QX (S:=fun x=>Kept (fun b=>b≠w1.heap.size) wr x) (by kernel_rfl) (Zo ((Qw _ _).drew) (fun _ h _=>h)) (fun hS=>?_);refine wt 0 (.pointer (some (aD w.heap.size 0))) hS ?_;refine wT 1 (q.src.val) hS (fun x hx=>?_) ?_
   ·have e0:=X0 hx d0 hne;go_simp
   refine wt 3 (.slice va q.wh.length vc) hS ?_;refine wt 4 (.pointer (some (aD w.heap.size 2))) hS ?_;refine wT 5 (.bool q.group) hS (fun x hx=>?_) ?_
   ·have e0:=X0 hx d2 hne;go_simp
   refine wt 6 (.pointer (some (aD w.heap.size 3))) hS ?_;refine wT 7 (q.keys.val) hS (fun x hx=>?_) ?_
   ·have e0:=X0 hx d3 hne;go_simp
   refine wt 9 (.pointer (some (aD w.heap.size 4))) hS ?_;refine wT 10 (q.sums.val) hS (fun x hx=>?_) ?_
   ·have e0:=X0 hx d4 hne;go_simp
   refine wt 12 (.pointer (some (aD w.heap.size 5))) hS ?_;refine wT 13 (q.aV.val) hS (fun x hx=>?_) ?_
   ·have e0:=X0 hx d5 hne;go_simp
   refine wt 15 (.pointer (some (aD w.heap.size 6))) hS ?_;refine wT 16 (q.ord.val) hS (fun x hx=>?_) ?_
   ·have e0:=X0 hx d6 hne;go_simp
   have akR:Bw wr wr.drew:=(Qw _ _).drew;refine wR 2 fun K hK=>?_
   go_simp;refine Xt (HCI.o _ q.src (aA jV.o akR) HQ.o.src HT.o.src) ?_;rintro e s1 ⟨iv,rfl,hx,hat,hnew,hnil,hcap,hb⟩;obtain⟨aa,ac,ax⟩:=iv;simp only[ah.val];have G9:=aA akR hb;clear hb;have Hs1:=Zh (X5 hx (X5 hat (X5 hnew (X5 hnil hcap))));clear hx hat hnew hnil hcap;refine hK.o _ _ (Zo G9 (fun _ h _=>h)) (fun hS=>?_);clear hK K;refine wR 8 fun K hK=>?_
   go_simp;refine Xt (HCI.o _ q.keys (aA jV.o G9) HQ.o.keys HT.o.keys) ?_;rintro e s2 ⟨iv,rfl,hx,hat,hnew,hnil,hcap,hb⟩;obtain⟨ba,bc,bx⟩:=iv;simp only[ah.val];have OJ:=aA G9 hb;have aqS:=Zh hb;clear hb;have Hs2:=Zh (X5 hx (X5 hat (X5 hnew (X5 hnil hcap))));clear hx hat hnew hnil hcap;refine hK.o _ _ (Zo OJ (fun _ h _=>h)) (fun hS=>?_);clear hK K;refine wR 11 fun K hK=>?_
   go_simp;refine Xt (HCI.o _ q.sums (aA jV.o OJ) HQ.o.sums HT.o.sums) ?_;rintro e s3 ⟨iv,rfl,hx,hat,hnew,hnil,hcap,hb⟩;obtain⟨ca,cc,cx⟩:=iv;simp only[ah.val];have acN:=aA OJ hb;have akT:=Zh hb;clear hb;have Hs3:=Zh (X5 hx (X5 hat (X5 hnew (X5 hnil hcap))));clear hx hat hnew hnil hcap;refine hK.o _ _ (Zo acN (fun _ h _=>h)) (fun hS=>?_);clear hK K;refine wR 14 fun K hK=>?_
   go_simp;refine Xt (HCI.o _ q.aV (aA jV.o acN) HQ.o.aV HT.o.aV) ?_;rintro e s4 ⟨iv,rfl,hx,hat,hnew,hnil,hcap,hb⟩;obtain⟨da,dc,dx⟩:=iv;simp only[ah.val];have acO:=aA acN hb;have agE:=Zh hb;clear hb;have Hs4:=Zh (X5 hx (X5 hat (X5 hnew (X5 hnil hcap))));clear hx hat hnew hnil hcap;refine hK.o _ _ (Zo acO (fun _ h _=>h)) (fun hS=>?_);clear hK K;refine wR 17 fun K hK=>?_
   go_simp;refine Xt (HCI.o _ q.ord (aA jV.o acO) HQ.o.ord HT.o.ord) ?_;rintro e s5 ⟨iv,rfl,hx,hat,hnew,hnil,hcap,hb⟩;obtain⟨fa,fc,fx⟩:=iv;simp only[ah.val];have Ur:=aA acO hb;have acP:=Zh hb;clear hb;have Hs5:=Zh (X5 hx (X5 hat (X5 hnew (X5 hnil hcap))));clear hx hat hnew hnil hcap;refine hK.o _ _ (Zo Ur (fun _ h _=>h)) (fun hS=>?_);clear hK K;refine wt 18 (.agg #[.slice aa ax.length ac,.slice va q.wh.length vc,.bool q.group,.slice ba bx.length bc,.slice ca cx.length cc,.slice da dx.length dc,.slice fa fx.length fc]) hS ?_;have hgr5:=qp.o.keep (Zo (s:=fun b=>b<wr.heap.size) Ur (fun _ h _=>h)) qp.o.lt;have ui:=Zh (Uq (World.acL hgr5 (.slice aa ax.length ac) (.slice va q.wh.length vc) (.bool q.group) (.slice ba bx.length bc) (.slice ca cx.length cc) (.slice da dx.length dc) (.slice fa fx.length fc)));have hkz:=World.Uo s5 w1.heap.size (.slice aa ax.length ac) (.slice va q.wh.length vc) (.bool q.group) (.slice ba bx.length bc) (.slice ca cx.length cc) (.slice da dx.length dc) (.slice fa fx.length fc);have r0:=hgr5.at 0;have z0:=hgr5.frozen 0;have r1:=hgr5.at 1;have z1:=hgr5.frozen 1;have r2:=hgr5.at 2;have z2:=hgr5.frozen 2;have r3:=hgr5.at 3;have z3:=hgr5.frozen 3;have r4:=hgr5.at 4;have z4:=hgr5.frozen 4;have r5:=hgr5.at 5;have z5:=hgr5.frozen 5;have r6:=hgr5.at 6;have z6:=hgr5.frozen 6;have gz:Hid (∃ p:ae,Ending.returned (.agg #[.slice aa ax.length ac,.slice va q.wh.length vc,.bool q.group,.slice ba bx.length bc,.slice ca cx.length cc,.slice da dx.length dc,.slice fa fx.length fc])=.returned (.agg p.cells)/\p.At (World.KC s5 w1.heap.size (.slice aa ax.length ac) (.slice va q.wh.length vc) (.bool q.group) (.slice ba bx.length bc) (.slice ca cx.length cc) (.slice da dx.length dc) (.slice fa fx.length fc))/\bu q p/\p.New w.heap.size/\(p.keys.ad=none->p.keys.cap=0)/\p.keys.xs.length<=p.keys.cap/\Bw w (World.KC s5 w1.heap.size (.slice aa ax.length ac) (.slice va q.wh.length vc) (.bool q.group) (.slice ba bx.length bc) (.slice ca cx.length cc) (.slice da dx.length dc) (.slice fa fx.length fc))):=by
    have hrb:=HG2.o.lt;have hz5:=HJ1.o.step Ur;have hll:=hz5.len;have hww:=HJ1.o.below.size;have hw0:=HB2.o.size;generalize hZ:World.KC s5 w1.heap.size (.slice aa ax.length ac) (.slice va q.wh.length vc) (.bool q.group) (.slice ba bx.length bc) (.slice ca cx.length cc) (.slice da dx.length dc) (.slice fa fx.length fc)=Z at *;have hown:=ZN hz5.own hkz (fun g e e2=>by have h1:=(ZO hz5.own e).1; omega);have hcs:∀ i,i<ls.length->bH Z (ls.getD i lz).ad (ls.getD i lz).cs:=fun i hi=>bH.aX (hz5.cs i hi).2 hkz fun _ a ea e2=>by
     have h1:=hz5.new i (by rw[HKN.o,<- hll]; exact hi) hi a ea;omega
    obtain⟨ad2,cp2,e2,hcl⟩:=Cj hown (fun x hx=>by
     obtain⟨i,hi,rfl⟩:=List.mem_iff_getElem.1 hx;have:=hcs i hi;rw[XH,ZX hi]at this;exact this) (by omega)
    injection e2 with e21 e22 e23;subst e21;have key:∀ {ad:Option Addr} {xs:List Int},aB s5 ad xs->(∀ a,ad=some a->wr.heap.size<=a.block)->aB Z ad xs:=fun {ad xs} h1 h2=>Xe h1 hkz fun _ a ea e3=>by
     have:=h2 a ea;omega
    have na:∀ a,aa=some a->wr.heap.size<=a.block:=fun a ea=>Zl (Qx _) (Hs1.o.2.2.1 a ea)
    have i_a:aB Z aa ax:=key (Qv acP.o (Qv agE.o (Qv akT.o (Qv aqS.o (Hs1.o.2.1))))) na;have nb:∀ a,ba=some a->wr.heap.size<=a.block:=fun a ea=>Zl G9.size (Hs2.o.2.2.1 a ea)
    have i_b:aB Z ba bx:=key (Qv acP.o (Qv agE.o (Qv akT.o (Hs2.o.2.1)))) nb;have nc:∀ a,ca=some a->wr.heap.size<=a.block:=fun a ea=>Zl OJ.size (Hs3.o.2.2.1 a ea)
    have i_c:aB Z ca cx:=key (Qv acP.o (Qv agE.o (Hs3.o.2.1))) nc;have nd:∀ a,da=some a->wr.heap.size<=a.block:=fun a ea=>Zl acN.size (Hs4.o.2.2.1 a ea)
    have i_d:aB Z da dx:=key (Qv acP.o (Hs4.o.2.1)) nd;have nf:∀ a,fa=some a->wr.heap.size<=a.block:=fun a ea=>Zl acO.size (Hs5.o.2.2.1 a ea)
    have i_f:aB Z fa fx:=key (Hs5.o.2.1) nf;refine⟨⟨⟨aa,ac,ax⟩,va,vc,ls,q.group,⟨ba,bc,bx⟩,⟨ca,cc,cx⟩,⟨da,dc,dx⟩,⟨fa,fc,fx⟩⟩,?_,⟨i_a,hcl,i_b,i_c,i_d,i_f⟩,⟨Hs1.o.1,hll,fun i hi=>(hz5.cs i hi).1,rfl,Hs2.o.1,Hs3.o.1,Hs4.o.1,Hs5.o.1⟩,⟨fun a ea=>?_,fun a ea=>?_,fun i hi a ea=>?_,fun a ea=>?_,fun a ea=>?_,fun a ea=>?_,fun a ea=>?_⟩,Hs2.o.2.2.2.1,Hs2.o.2.2.2.2,jV.o.trans ((Ur.mono jV.o.size).trans (hkz.below (Zl jV.o.size Ur.size) fun b hb=>by have:=HWW.o; omega))⟩
    ·unfold ae.cells;simp only[ah.val];rw[hll]
    ·have:=na a ea;omega
    ·have h1:=(ZO hown (g:=a.block) (by rw[show va=some a from ea]; rfl)).1;omega
    ·have h1:=hz5.new i (by rw[HKN.o,<- hll]; exact hi) hi a ea;omega
    ·have:=nb a ea;omega
    ·have:=nc a ea;omega
    ·have:=nd a ea;omega
    ·have:=nf a ea;omega
   have HKZ:=Zh ((Zo (s:=fun b=>b≠w1.heap.size) Ur (fun _ h _=>h)).trans hkz);unfold World.KC at gz ui HKZ;clear hkz hgr5;refine wR 19 fun K hK=>?_
   go_simp;refine hK.o _ _ (HKZ.o) (fun hS=>?_);clear hK K;refine wD ?_
   try simp only[pV]
   go_wp2;exact XE (jN (p:=2) rfl rfl ui.o) rfl gz.o
structure lX(N:Nat->Prop)(W W0:World):Prop where
 size:W0.heap.size=W.heap.size
 block:∀ b,¬ N b->W0.heap[b]? = W.heap[b]?
 dead:∀ b o v,W0.cell? (aD b o)=some v->¬ N b
theorem Us(N:Nat->Prop)(W:World):∃ W0,lX N W W0:=by
 classical
 have hs:({ W with heap:=W.heap.mapIdx fun i o=>if N i then .deferred none else o }:World).heap.size=W.heap.size:=by simp
 refine⟨{ W with heap:=W.heap.mapIdx fun i o=>if N i then .deferred none else o },hs,fun b h=>?_,fun b o v hc h=>?_⟩
 ·simp only[Array.getElem?_mapIdx]
  cases W.heap[b]? with
  | none => rfl
  | some o => simp[h]
 ·have hl:=Zv hc;rw[hs]at hl;have e:({ W with heap:=W.heap.mapIdx fun i o=>if N i then .deferred none else o }:World).heap[b]? = some (.deferred none):=by
   simp only[Array.getElem?_mapIdx];rw[Array.getElem?_eq_getElem hl];simp[h]
  simp[World.cell?,e]at hc
theorem lX.cell{N:Nat->Prop}{W W0:World}(K:lX N W W0){b o:Nat}{v:Value}(h:¬ N b)(hc:W.cell? (aD b o)=some v):W0.cell? (aD b o)=some v:=by
 rw[Zw (K.block b h)];exact hc
theorem lX.under(K:lX N W W0):Under W0 W:=
 ⟨by rw[K.size]; exact Qx _,fun b o v hc=>by
  have h:=K.dead _ _ _ hc;rw[Zw (K.block b h)]at hc;exact hc⟩
theorem lX.live(K:lX N W W0){b:Nat}(h:Live W0 b):¬ N b:=by
 obtain⟨o,v,hc⟩:=h;exact K.dead _ _ _ hc
theorem sS(K:lX N W W0)(h:bC W ao n g)(hn:∀ a,ao=some a->¬ N a.block):bC W0 ao n g:=fun i hi=>by
 obtain⟨b,off,e,hc⟩:=h i hi;exact⟨b,off,e,K.cell (hn _ e) hc⟩
theorem jO(K:lX N W W0)(hN:∀ b,N b->b<n∨W'.heap.size<=b)(hb:Bw W' W)(h:bC W' ao k g)(hn:∀ a,ao=some a->n<=a.block):bC W0 ao k g:=fun i hi=>by
 obtain⟨b,off,e,hc⟩:=h i hi;have h1:n<=b:=hn _ e;have h2:b<W'.heap.size:=Zv hc;exact⟨b,off,e,K.cell (fun hx=>by rcases hN b hx with h | h <;> omega) (cB hb hc)⟩
theorem KD(K:lX N W W0)(hN:∀ b,N b->b<n∨W'.heap.size<=b)(hb:Bw W' W)(h:q.At W')(hn:q.New n):q.At W0:=by
 refine⟨⟨h.src.1,jO K hN hb h.src.2 hn.src⟩,⟨h.wh.1,jO K hN hb h.wh.2.1 hn.wh,fun i hi=>⟨(h.wh.2.2 i hi).1,fun j hj=>?_⟩⟩,⟨h.keys.1,jO K hN hb h.keys.2 hn.keys⟩,⟨h.sums.1,jO K hN hb h.sums.2 hn.sums⟩,⟨h.aV.1,jO K hN hb h.aV.2 hn.aV⟩,⟨h.ord.1,jO K hN hb h.ord.2 hn.ord⟩⟩;obtain⟨b,off,e,c0,c1,c2,c3,c4⟩:=(h.wh.2.2 i hi).2 j hj;have h1:n<=b:=hn.cl i hi _ e;have h2:b<W'.heap.size:=Zv c0;have hb':¬ N b:=fun hx=>by rcases hN b hx with h | h <;> omega
 exact⟨b,off,e,K.cell hb' (cB hb c0),K.cell hb' (cB hb c1),K.cell hb' (cB hb c2),K.cell hb' (cB hb c3),K.cell hb' (cB hb c4)⟩
theorem KE(K:lX N W W0)(hN:∀ b,N b->b<m)(h:f.At ts q W)(hf:f.New m)(hq:q.At W0):f.At ts q W0:=by
 have key:∀ {ao:Option Addr},(∀ a,ao=some a->m<=a.block)->∀ a,ao=some a->¬ N a.block:=fun h a e hx=>by
  have h1:=h a e;have h2:=hN _ hx;omega
 refine⟨hq,⟨h.aO.1,fun i hi=>?_⟩,⟨h.rows.1,sS K h.rows.2 (key hf.ra)⟩,⟨h.conc.1,sS K h.conc.2 (key hf.na)⟩,⟨h.parts.1,sS K h.parts.2 (key hf.pa)⟩,h.nl,h.pl⟩;obtain⟨b,off,e,c0,c1⟩:=h.aO.2 i hi;have hb:¬ N b:=key hf.ca _ e;exact⟨b,off,e,K.cell hb c0,K.cell hb c1⟩
theorem Env.kill(K:lX N W W0)(E:Env f ts q W)(h0:¬ N 0)(hNf:∀ b,N b->b<m)(hf:f.New m)(hNq:∀ b,N b->b<n∨W'.heap.size<=b)(hb:Bw W' W)(hq:q.At W')(hn:q.New n):Env f ts q W0:=
 ⟨E.ok,KE K hNf E.facts hf (KD K hNq hb hq hn),fun j u hj=>K.cell h0 (E.shapes j u hj),E.one,E.five,E.eight,E.ord,E.few,E.keys,E.want,E.akF,E.eO,E.akG⟩
theorem Fz.kill(K:lX N W W0)(hb:Bw W w)(hN:∀ b,N b->b<w.heap.size):Fz (fun b=>¬ N b) W0 w:=
 ⟨⟨by rw[K.size]; exact hb.size,fun b o v hc=>cB hb (K.under.cell b o v hc)⟩,fun b h=>K.live h,fun b h hn=>by have:=hN b hn; omega⟩
theorem bu.mP{q p:ae}(h:bu q p):p.mP=q.mP:=by
 unfold ae.mP;apply List.ext_getElem
 ·rw[Zc,Zc,h.len]
 ·intro i h1 h2;rw[Zc]at h1 h2;have:=h.cs i h1;rw[XH,XH,ZX h1,ZX h2]at this;rw[List.getElem_map,List.getElem_map];exact this
theorem bu.check{q p:ae}(h:bu q p)(ts:List af):p.check ts=q.check ts:=by
 unfold ae.check;rw[h.src,h.mP,h.group,h.keys,h.sums,h.aV,h.ord]
theorem Ct{xs:List Int}(h:bN xs (aJ ts q.src.xs)=true):gB ts q xs:=fun c hc=>by
 unfold bN at h;rw[Qu]at h;have:=h c hc;simp only[Qt,QJ]at this;exact this
theorem agG(hc:q.check ts=0)(hf:f.At ts q W)(hs:bQ W 0)(hk:q.keys.xs.length<=q.keys.cap)(hn:q.keys.ad=none->q.keys.cap=0):Env f ts q W:=by
 obtain⟨c1,c2,c3,c4,c5⟩:=zu hc;have hK:bN q.keys.xs (aJ ts q.src.xs)=true/\q.keys.xs.length<=4:=by
  unfold ae.check checkN at hc;split at hc
  ·omega
  ·split at hc
   ·omega
   ·rename_i _ hf
    split at hc
    ·rename_i hr
     have h4:=hr.2.2.2;unfold uM at h4;simp only[Qt]at h4;obtain⟨⟨⟨⟨⟨⟨⟨_,r2⟩,_⟩,_⟩,_⟩,_⟩,_⟩,_⟩:=h4;unfold mO at hf;rw[Bool.or_eq_true,not_or,QJ]at hf;exact⟨r2,by omega⟩
    ·omega
 refine⟨c1.ok,hf,hs,c2,c1.five,c1.eight,c3,c4,Ct hK.1,fun hg=>?_,hK.2,hk,hn⟩;intro c hm;unfold jg at hm;rw[Zi]at hm;obtain⟨p,hp,rfl⟩:=hm;have ho:=c3 hg;unfold bN at ho;rw[Qu]at ho;have h1:=ho p hp;simp only[Qt,QJ]at h1;have hl:p.toNat<q.aV.xs.length:=by omega
 refine Ct c5 _ ?_;rw[XH,ZX hl];exact Qp hl
section
theorem Pg{P:Program}{c:Code}{Q J:Exit->Act->World->Prop}{a:Act}(h:c.wp P J a w)(hQ:∀ e a w,J e a w->Q e a w):c.wp P Q a w:=fun b k cs=>by
 obtain⟨e,a',w',hq,hr⟩:=h b k cs;exact⟨e,a',w',hQ _ _ _ hq,hr⟩
def GX(X:Nat->Prop)(sb k:Nat)(gv:Value)(gb:Nat->Nat):Nat->Prop:=fun b=>¬ X b/\b≠sb/\gv.ownBlock≠some b/\∀ j,j<k->b≠gb j
theorem aae{Tl:TypeId}{F:Nat->Prop}{os:List ah}(h:iI Tl F base w v os)(h0:0<os.length) :
  ∃ ob oc,v=.slice (some (aD ob 0)) os.length oc/\os.length<=oc/\oc<=9223372036854775807/\base<=ob/\∀ m,m<=os.length->bC w (some (aD ob 0)) m (fun i=>((os.take m).getD i fC).val):=by
 rcases h.own.2 with⟨_,h1⟩ | ⟨g,cap,cur,rfl,hb,hh,hc,hm,hs,ht⟩
 ·omega
 refine⟨g,cap,rfl,hc,by unfold maxLen at hm; omega,hb,fun m hm i hi=>⟨g,0,rfl,?_⟩⟩;rw[QQ,QT (show GB w g _ cur from hh) i];have h2:(cur.toList.take (os.length*1))[i]? = some ((os.take m).getD i fC).val:=by
  rw[ht,Ze,ZX (by omega),XH,ZY,Qy hi,ZX (by omega)];rfl
 rw[ZY]at h2;split at h2
 ·simpa using h2
 ·cases h2
def zD(ts:List af)(q:ae)(room j:Nat):List (List Int):=(dU ts q j).take room
def jX(ts:List af)(q:ae)(room k:Nat):Bool:=(List.range k).any fun s=>decide (room<(dU ts q s).length)
theorem UW(ts:List af)(q:ae)(room k:Nat):jX ts q room (k+1)=(jX ts q room k || decide (room<(dU ts q k).length)):=by
 unfold jX;rw[Q9,List.any_append];simp
def Ld(gv:Value)(cu:Bool)(bt:Nat):Array Value:=#[gv,.slice none 0 0,.bool cu,.pointer (some (aD bt 0)),.slice none 0 0,.int .i64 1]
structure jY(W0:World)(f:au)(ts:List af)(q:ae)(X:Nat->Prop)(room:Nat)(w0:World)(vb sb k:Nat)(cu:Bool)(gv:Value)(gb cp:Nat->Nat)(os:Nat->List ah)(bt:Nat)(x:World):Prop where
 hz:Fz (fun b=>¬ X b) W0 x
 old:Bw w0 x
 root:W0.heap.size<=w0.heap.size
 xlt:∀ b,X b->b<w0.heap.size
 Ph:w0.heap.size<sb/\w0.heap.size<vb/\vb≠sb
 fbg:GB x w0.heap.size 90 (f.cells ts q)
 var:GB x vb 122 #[.pointer (some (aD sb 0))]
 blk:GB x sb 174 (f.cells ts q++Ld gv cu bt)
 own:x.ownsRow w0.heap.size 230 1 gv k ((List.range k).map fun j=>Value.slice (some (aD (gb j) 0)) (dC (zD ts q room j)).length (cp j))
 kT:∀ j,j<k->bz 178 297 (GX X sb k gv gb) x (gb j) (fun _=>0) (os j) (dC (zD ts q room j))/\w0.heap.size<=gb j/\(dC (zD ts q room j)).length<=cp j/\cp j<=9223372036854775807
 apart:∀ i j,i<k->j<k->gb i=gb j->i=j
 bD:aG 178 (GX X sb k gv gb) x bt (fQ ts q)
variable {W0:World} {f:au} {ts:List af} {q:ae} {X:Nat->Prop} {room:Nat} {w0:World} {vb sb k:Nat} {cu:Bool} {gv:Value} {gb cp:Nat->Nat} {os:Nat->List ah} {bt:Nat} {x:World}
theorem jY.ne(h:jY W0 f ts q X room w0 vb sb k cu gv gb cp os bt x):gv.ownBlock≠some sb/\gv.ownBlock≠some vb/\gv.ownBlock≠some w0.heap.size/\∀ j,j<k->gv.ownBlock≠some (gb j)/\gb j≠sb/\gb j≠vb/\gb j≠w0.heap.size:=by
 refine⟨iB h.own h.blk (by decide),iB h.own h.var (by decide),iB h.own h.fbg (by decide),fun j hj=>?_⟩;obtain⟨c,hc⟩:=(h.kT j hj).1.tp;exact⟨iB h.own hc (by decide),fun e=>absurd (GB.tp hc (e ▸ h.blk)) (by decide),fun e=>absurd (GB.tp hc (e ▸ h.var)) (by decide),fun e=>absurd (GB.tp hc (e ▸ h.fbg)) (by decide)⟩
theorem jY.below(h:jY W0 f ts q X room w0 vb sb k cu gv gb cp os bt x){y:World}(hb:Bw x y):jY W0 f ts q X room w0 vb sb k cu gv gb cp os bt y:=by
 have hk:Kept (fun b=>b<x.heap.size) x y:=Zo hb (fun _ h _=>h);exact⟨h.hz.next hb,h.old.trans (hb.mono h.old.size),h.root,h.xlt,h.Ph,h.fbg.keep hk h.fbg.lt,h.var.keep hk h.var.lt,h.blk.keep hk h.blk.lt,Xh h.own hb,fun j hj=>⟨(h.kT j hj).1.below hb,(h.kT j hj).2⟩,h.apart,h.bD.below hb⟩
theorem jY.flag(h:jY W0 f ts q X room w0 vb sb k cu gv gb cp os bt x){c2:Bool}(hk:Kept (fun b=>b≠sb) x y)(hblk:GB y sb 174 (f.cells ts q++Ld gv c2 bt)):jY W0 f ts q X room w0 vb sb k c2 gv gb cp os bt y:=by
 have hn:=h.ne;refine⟨⟨h.hz.below.kept hk fun b hb e=>?_,h.hz.low,fun b hb=>h.hz.high b (Zl hk.size hb)⟩,h.old.trans (hk.below h.old.size fun b hb=>?_),h.root,h.xlt,h.Ph,h.fbg.keep hk ?_,h.var.keep hk h.Ph.2.2,hblk,ZN h.own hk fun g e e2=>hn.1 (e2 ▸ e),fun j hj=>⟨(h.kT j hj).1.aX (hk.mono fun b _ hb=>?_),(h.kT j hj).2⟩,h.apart,h.bD.aX (hk.mono fun b _ hb=>hb.2.1)⟩
 ·have:=hb.lt;have:=h.root;have:=h.Ph.1;omega
 ·have:=h.Ph.1;omega
 ·have:=h.Ph.1;omega
 ·rcases hb with hb | hb
  ·exact hb.2.1
  ·rw[hb];exact(hn.2.2.2 j hj).2.1
theorem jY.fz(h:jY W0 f ts q X room w0 vb sb k cu gv gb cp os bt x):Fz (GX X sb k gv gb) W0 x:=by
 refine⟨h.hz.below,fun b hb=>⟨h.hz.low b hb,?_,fun e=>?_,fun j hj e=>?_⟩,fun b hb=>⟨h.hz.high b hb,?_,fun e=>?_,fun j hj e=>?_⟩⟩
 ·have:=hb.lt;have:=h.root;have:=h.Ph.1;omega
 ·have:=hb.lt;have:=(ZO h.own e).1;have:=h.root;omega
 ·have:=hb.lt;have:=(h.kT j hj).2.1;have:=h.root;omega
 ·have:=h.blk.lt;omega
 ·have:=(ZO h.own e).2;omega
 ·obtain⟨c,hc⟩:=(h.kT j hj).1.tp;have:=hc.lt;omega
theorem jY.push(h:jY W0 f ts q X room w0 vb sb k cu gv gb cp os bt x){y1 y2 y5:World}(hb1:Bw x y1)(hb2:Bw y1 y2){gn cn:Nat}{on:List ah}(hg:bz 178 297 (fun b=>GX X sb k gv gb b/\b<y1.heap.size) y2 gn (fun _=>0) on (dC (zD ts q room k)))(hgn:y1.heap.size<=gn/\gn<y2.heap.size)(hcn:(dC (zD ts q room k)).length<=cn/\cn<=9223372036854775807){gv':Value}(ho:y5.ownsRow w0.heap.size 230 1 gv' (k+1) (((List.range k).map fun j=>Value.slice (some (aD (gb j) 0)) (dC (zD ts q room j)).length (cp j))++[Value.slice (some (aD gn 0)) (dC (zD ts q room k)).length cn]))(hk:Kept (fun b=>b≠sb/\gv.ownBlock≠some b) y2 y5)(hat:gv'.ownBlock=gv.ownBlock∨gv'.ownBlock=some (y2.heap.size+1))(hblk:GB y5 sb 174 (f.cells ts q++Ld gv' cu bt)) :
  jY W0 f ts q X room w0 vb sb (k+1) cu gv' (fun j=>if j=k then gn else gb j) (fun j=>if j=k then cn else cp j) (fun j=>if j=k then on else os j) bt y5:=by
 have hn:=h.ne;have Eu:=aA hb1 hb2;have hs1:=hb1.size;have hs2:=hb2.size;have hsx:=h.old.size;have hgl:∀ j,j<k->gb j<x.heap.size:=fun j hj=>by
  obtain⟨c,hc⟩:=(h.kT j hj).1.tp;exact hc.lt
 have hown:∀ b,gv.ownBlock=some b->b<x.heap.size:=fun b e=>(ZO h.own e).2
 have hkx:=(Zo (s:=fun b=>b≠sb/\gv.ownBlock≠some b) Eu (fun b hl _=>hl)).trans hk;have hmono:∀ b,b<y1.heap.size->GX X sb k gv gb b->GX X sb (k+1) gv' (fun j=>if j=k then gn else gb j) b:=fun b hl hb=>by
  refine⟨hb.1,hb.2.1,fun e=>?_,fun j hj=>?_⟩
  ·rcases hat with h1 | h1
   ·exact hb.2.2.1 (h1 ▸ e)
   ·rw[h1]at e;injection e with e;omega
  ·show b≠if j=k then gn else gb j
   split
   ·omega
   ·exact hb.2.2.2 j (by omega)
 have hap:∀ i,i<k->gn≠gb i:=fun i hi e=>by have:=hgl i hi; omega
 have hxm:∀ b,b<x.heap.size->GX X sb k gv gb b->GX X sb (k+1) gv' (fun j=>if j=k then gn else gb j) b:=fun b hl=>hmono b (by omega)
 have hnX:∀ b,GX X sb (k+1) gv' (fun j=>if j=k then gn else gb j) b->gv'.ownBlock≠some b:=fun b hb=>hb.2.2.1
 have hnw:∀ b,GX X sb (k+1) gv' (fun j=>if j=k then gn else gb j) b->b<x.heap.size->gv'.ownBlock=gv.ownBlock->gv.ownBlock≠some b:=fun b hb _ e=>e ▸ hb.2.2.1
 -- trees and orders of before lie outside of the old list too: they are first kept,then read with the wider names
 have hkG:Kept (GX X sb k gv gb) x y5:=hkx.mono fun b _ hb=>⟨hb.2.1,hb.2.2.1⟩
 refine⟨⟨h.hz.below.kept hkx fun b hb=>⟨fun e=>?_,fun e=>?_⟩,h.hz.low,fun b hb=>h.hz.high b (Zl hkx.size hb)⟩,h.old.trans (hkx.below h.old.size fun b hb=>⟨?_,fun e=>?_⟩),h.root,h.xlt,h.Ph,h.fbg.keep hkx ⟨?_,hn.2.2.1⟩,h.var.keep hkx ⟨h.Ph.2.2,hn.2.1⟩,hblk,?_,fun j hj=>?_,fun i j hi hj e=>?_,?_⟩
 ·have:=hb.lt;have:=h.root;have:=h.Ph.1;omega
 ·have:=hb.lt;have:=(ZO h.own e).1;have:=h.root;omega
 ·have:=h.Ph.1;omega
 ·have:=(ZO h.own e).1;omega
 ·have:=h.Ph.1;omega
 ·have e:(List.range (k+1)).map (fun j=>Value.slice (some ⟨if j=k then gn else gb j,0,none⟩) (dC (zD ts q room j)).length (if j=k then cn else cp j))=((List.range k).map fun j=>Value.slice (some (aD (gb j) 0)) (dC (zD ts q room j)).length (cp j))++[Value.slice (some (aD gn 0)) (dC (zD ts q room k)).length cn]:=by
   rw[Q9,Qs];congr 1
   ·refine List.map_congr_left fun j hj=>?_
    have:j≠k:=by have:=Xq.1 hj; omega
    rw[Qz this,Qz this]
   ·simp
  rw[e];exact ho
 ·by_cases e:j=k
  ·subst e;simp only[Qy];refine⟨bz.mono (hg.aX (hk.mono fun b _ hb=>?_)) fun b _ hb=>hmono b hb.2 hb.1,by omega,hcn⟩;rcases hb with hb | hb
   ·exact⟨hb.1.2.1,hb.1.2.2.1⟩
   ·rw[hb];refine⟨fun e=>?_,fun e=>?_⟩
    ·have:=h.blk.lt;omega
    ·have:=hown _ e;omega
  ·simp only[Qz e];have hj':j<k:=by omega
   refine⟨((h.kT j hj').1.mono (G:=fun b=>GX X sb k gv gb b/\b<x.heap.size) (fun b hl hb=>⟨hb,hl⟩) |>.aX (hkx.mono fun b _ hb=>?_)).mono fun b _ hb=>hxm b hb.2 hb.1,(h.kT j hj').2⟩;rcases hb with hb | hb
   ·exact⟨hb.1.2.1,hb.1.2.2.1⟩
   ·rw[hb];exact⟨(hn.2.2.2 j hj').2.1,(hn.2.2.2 j hj').1⟩
 ·have e':=e;by_cases h1:i=k
  ·by_cases h2:j=k
   ·omega
   ·rw[Qy h1,Qz h2]at e';exact absurd e' (hap j (by omega))
  ·by_cases h2:j=k
   ·rw[Qz h1,Qy h2]at e';exact absurd e'.symm (hap i (by omega))
   ·rw[Qz h1,Qz h2]at e';exact h.apart i j (by omega) (by omega) e'
 ·exact((h.bD.mono (G:=fun b=>GX X sb k gv gb b/\b<x.heap.size) (fun b hl hb=>⟨hb,hl⟩)).aX (hkx.mono fun b _ hb=>⟨hb.1.2.1,hb.1.2.2.1⟩)).mono fun b _ hb=>hxm b hb.2 hb.1
theorem jY.search(h:jY W0 f ts q X room w0 vb sb k cu gv gb cp os bt x)(h0:0<k) :
  ∃ L:rV,L.av=.slice none 0 0/\L.pv=.slice none 0 0/\dQ W0 f ts q (fun b=>X b∨(b=sb∨∃ j,j<k/\b=gb j)) (fun b=>b=sb∨∃ j,j<k/\b=gb j) x sb L ⟨(List.range k).map fun s=>dC (zD ts q room s),[],cu,fQ ts q,[],1⟩:=by
 have hn:=h.ne;have hG:∀ b,GX X sb k gv gb b->¬ (X b∨(b=sb∨∃ j,j<k/\b=gb j)):=fun b hb h0=>by
  rcases h0 with h0 | h0 | ⟨j,hj,h0⟩
  ·exact hb.1 h0
  ·exact hb.2.1 h0
  ·exact hb.2.2.2 j hj h0
 have hge:∀ j,j<k->((List.range k).map fun s=>dC (zD ts q room s)).getD j []=dC (zD ts q room j):=fun j hj=>by
  rw[XH,Ze,ZX (by simpa using hj)];simp
 have hfz:=h.fz;have hown:=h.own;rcases hown.2 with⟨_,h1⟩ | ⟨g,cap,cur,rfl,hb,hh,hc,hm,hs,ht⟩
 ·omega
 have hcell:∀ j,j<k->x.cell? (aD g j)=some (.slice (some (aD (gb j) 0)) (dC (zD ts q room j)).length (cp j)):=fun j hj=>by
  rw[QT (show GB x g _ cur from hh) j];have h2:(cur.toList.take (k*1))[j]? = some (.slice (some (aD (gb j) 0)) (dC (zD ts q room j)).length (cp j)):=by
   rw[ht,Ze,ZX (by simpa using hj)];simp
  rw[ZY]at h2;split at h2
  ·simpa using h2
  ·cases h2
 refine⟨⟨g,cap,gb,cp,fun _ _=>0,os,.slice none 0 0,bt,.slice none 0 0⟩,rfl,rfl,⟨h.hz.below,fun b hb=>hG b (hfz.low b hb),fun b hb=>hG b (hfz.high b hb)⟩,fun b hb=>.inr hb,.inl rfl,?_,?_,(QV.1 hh).1,fun j hj=>?_,fun j hj=>?_,fun i j hi hj e=>?_,ZV _ _ _ _,(fun b e=>by cases e),h.bD.mono fun b _ hb=>hG b hb,ZV _ _ _ _,(fun b e=>by cases e)⟩
 ·have e:mq ⟨g,cap,gb,cp,fun _ _=>0,os,.slice none 0 0,bt,.slice none 0 0⟩ ⟨(List.range k).map fun s=>dC (zD ts q room s),[],cu,fQ ts q,[],1⟩=Ld (.slice (some (aD g 0)) k cap) cu bt:=by
   unfold mq Ld;simp
  rw[e];exact h.blk
 ·show ¬ (X g∨(g=sb∨∃ j,j<k/\g=gb j))
  rintro (h0 | h0 | ⟨j,hj,h0⟩)
  ·have:=h.xlt g h0;omega
  ·exact hn.1 (by rw[h0]; rfl)
  ·exact(hn.2.2.2 j hj).1 (by rw[h0]; rfl)
 ·have hj':j<k:=by simpa using hj
  show x.cell? (aD g j)=some (.slice (some (aD (gb j) 0)) (((List.range k).map fun s=>dC (zD ts q room s)).getD j []).length (cp j))
  rw[hge j hj'];exact hcell j hj'
 ·have hj':j<k:=by simpa using hj
  show bz _ _ _ _ (gb j) (fun _=>0) (os j) (((List.range k).map fun s=>dC (zD ts q room s)).getD j [])/\(gb j=sb∨∃ i,i<k/\gb j=gb i)/\(((List.range k).map fun s=>dC (zD ts q room s)).getD j []).length<=cp j/\cp j<=9223372036854775807
  rw[hge j hj'];exact⟨(h.kT j hj').1.mono fun b _ hb=>hG b hb,.inr ⟨j,hj',rfl⟩,(h.kT j hj').2.2⟩
 ·exact h.apart i j (by simpa using hi) (by simpa using hj) e
theorem Tryz.UX:(Tryz.prog.info? 230).map (fun i=>(i.zero,i.size,i.bytes))=some (some (.slice none 0 0),1,24):=by kernel_rfl
theorem Le(W:World)(base:Nat)(v:Value)(n:Nat)(xs:List Value)(hown:W.ownsRow base 230 1 v n xs)(hl:n<=1000)(hb:base<=W.heap.size)(ga:Option Addr)(gl gc:Nat)(ty:TypeId) :
  ∃ v' w',(Builtin.append_ #[169,169] ty #[v,.slice (some (aD W.heap.size 0)) 1 1]).run Tryz.prog (W.alloc (.cells #[.slice ga gl gc] 230))=.ok v' w'/\
   w'.ownsRow base 230 1 v' (n+1) (xs++[.slice ga gl gc])/\Kept (fun b=>v.ownBlock≠some b) W w'/\(∃ a m c,v' = .slice a m c)/\(v'.ownBlock=v.ownBlock∨v'.ownBlock=some (W.heap.size+1)):=by
 obtain⟨i0,hi,hz0,hz1,hz2⟩:=ZU Tryz.UX;obtain⟨v',w',hr,ho,hk,hs,hat⟩:=iG (P:=Tryz.prog) W base 169 ty 230 i0 _ 1 24 Tryz.underlying169 hi hz0 hz1 hz2 rfl (by decide) v n _ hown hb [.slice ga gl gc] rfl (fun u hu=>by
  rw[ZR]at hu;rw[hu];rfl) hl (by decide)
 exact⟨v',w',hr,ho,hk,hs,hat⟩
end
