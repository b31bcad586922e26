import Derived.Test.YtbcgekghfgcakaaGreatDoorF08
set_option linter.all false
set_option maxRecDepth 100000
set_option maxHeartbeats 16000000
namespace Go.Proofs.Zz
open Go.RowKit Go.Shelf
structure Item (α:Type) where
 val:α->Value
 At:α->World->Prop
 blk:α->Nat->Prop
 keep:∀ {x A B},At x A->A.heap.size<=B.heap.size->(∀ b,blk x b->b<A.heap.size->B.heap[b]? = A.heap[b]?)->At x B
structure mD {α:Type} (T:Item α) (e:TypeId) (W0 W:World) (v:Value) (xs:List α):Prop where
 own:W.ownsRow W0.heap.size e 1 v xs.length (xs.map T.val)
 YU:∀ x∈xs,T.At x W/\∀ b,T.blk x b->W0.heap.size<=b/\b<W.heap.size/\v.ownBlock≠some b
theorem mD.nil {α:Type} (T:Item α) (e:TypeId) (W0 W:World):mD T e W0 W (.slice none 0 0) []:=⟨ZE _ _ _ _,fun x hx=>by simp at hx⟩
theorem mD.keep {α:Type} {T:Item α} {e:TypeId} {W0 A B:World} {v:Value} {xs:List α} {s:Nat->Prop} (h:mD T e W0 A v xs) (hk:Kept s A B) (hs:∀ b,W0.heap.size<=b->s b):mD T e W0 B v xs:=
 ⟨Zx h.own hk (fun g hg=>hs g (Zy h.own hg).1),fun x hx=>⟨T.keep (h.YU x hx).1 hk.size (fun b hb hlt=>hk.block b hlt (hs b ((h.YU x hx).2 b hb).1)),fun b hb=>⟨((h.YU x hx).2 b hb).1,by have:=((h.YU x hx).2 b hb).2.1; have:=hk.size; omega,((h.YU x hx).2 b hb).2.2⟩⟩⟩
theorem mD.more {α:Type} {T:Item α} {e:TypeId} {W0 A A1 B:World} {v v':Value} {xs:List α} (h:mD T e W0 A v xs) {x:α} (hx:T.At x A) (hxb:∀ b,T.blk x b->W0.heap.size<=b/\b<A.heap.size/\v.ownBlock≠some b)
  (ha:Kept (fun _=>True) A A1) (hs1:A1.heap.size=A.heap.size+1) (hown:B.ownsRow W0.heap.size e 1 v' (xs.length+1) (xs.map T.val++[T.val x])) (hg:A1.grownBy B v.ownBlock) (hat:v'.ownBlock=v.ownBlock∨v'.ownBlock=some A1.heap.size) :
  mD T e W0 B v' (xs++[x])/\Kept (fun b=>b<W0.heap.size) A B:=by
 have hvb:∀ g,v.ownBlock=some g->W0.heap.size<=g:=fun g hg=>(Zy h.own hg).1
 have hk1:Kept (fun b=>v.ownBlock≠some b) A B:=(ha.mono fun _ _ _=>trivial).trans (Zw hg (fun r e hr=>hr e));have hnew:∀ b,b<A.heap.size->v.ownBlock≠some b->v'.ownBlock≠some b:=fun b hb hn e=>by
  rcases hat with h | h
  ·exact hn (h ▸ e)
  ·rw[h] at e; cases e; omega
 have hone:∀ y:α,T.At y A->(∀ b,T.blk y b->W0.heap.size<=b/\b<A.heap.size/\v.ownBlock≠some b)->T.At y B/\∀ b,T.blk y b->W0.heap.size<=b/\b<B.heap.size/\v'.ownBlock≠some b:=fun y hy hyb=>
  ⟨T.keep hy hk1.size (fun b hb hlt=>hk1.block b hlt (hyb b hb).2.2),fun b hb=>⟨(hyb b hb).1,by have:=(hyb b hb).2.1; have:=hk1.size; omega,hnew b (hyb b hb).2.1 (hyb b hb).2.2⟩⟩
 refine⟨⟨by simpa using hown,fun y hy=>?_⟩,hk1.mono fun b _ hb e=>by have:=hvb b e; omega⟩;rcases QX.1 hy with hy | hy
 ·exact hone y (h.YU y hy).1 (h.YU y hy).2
 ·rw[QY] at hy;subst hy;exact hone y hx hxb
def zn:Item ah where
 val:=ah.val
 At:=bC.At
 blk x b:=bC.blk x=some b
 keep:=fun h hs hb=>bC.keep h hs (fun b hlt hx=>hb b hx hlt)
def pg:Item cO where
 val:=cO.val
 At t W:=gF W t.ad t.rs
 blk t b:=(∃ a,t.ad=some a/\a.block=b)∨∃ i,i<t.rs.length/\bC.blk (t.rs.getD i iz)=some b
 keep:=by
  intro t A B h hs hb;exact gF.keep h hs (fun a ha=>hb _ (.inl ⟨a,ha,rfl⟩) (h.2.1 a ha)) (fun i hi b hbx=>hb b (.inr ⟨i,hi,hbx⟩) (bC.YD (h.2.2 i hi) hbx))
theorem mD.table {e:TypeId} {W0 W:World} {v:Value} {rs:List ah} (h:mD zn e W0 W v rs) (hl:rs.length<=1000):∃ t:cO,v=t.val/\t.rs=rs/\pg.At t W/\∀ b,pg.blk t b->W0.heap.size<=b/\b<W.heap.size:=by
 have hmem:∀ i,i<rs.length->rs.getD i iz∈rs:=fun i hi=>by simp[List.getD,hi]
 rcases h.own.2 with⟨hv,h0⟩ | ⟨g,cap,cur,hv,hb,hh,hc,_,hcs,ht⟩
 ·have:=Qz h0;subst this;refine⟨⟨none,0,[]⟩,hv,rfl,⟨⟨by simp,fun i hi=>absurd hi (by simp),fun i hi=>absurd hi (by simp)⟩,(fun a ha=>by cases ha),fun i hi=>absurd hi (by simp)⟩,?_⟩;rintro b (⟨a,ha,_⟩ | ⟨i,hi,_⟩)
  ·cases ha
  ·simp at hi
 ·have hat:∀ i,i<rs.length->bC.At (rs.getD i iz) W:=fun i hi=>(h.YU _ (hmem i hi)).1
  refine⟨⟨some (aD g 0),cap,rs⟩,hv,rfl,⟨⟨by show rs.length<=_; omega,fun i hi=>⟨g,0,rfl,?_⟩,fun i hi=>(hat i hi).1⟩,fun a ha=>?_,hat⟩,?_⟩
  ·have hi':i<rs.length:=hi;have h2:(cur.toList.take (rs.length*1))[i]? = some (rs.getD i iz).val:=by
    rw[ht];simp[List.getD,hi',zn]
   have h3:cur[i]? = some (rs.getD i iz).val:=by
    rw[ZH] at h2;split at h2
    ·simpa using h2
    ·cases h2
   simp only[World.cell?,hh]
   simpa using h3
  ·cases ha; exact (QI.1 hh).1
  ·rintro b (⟨a,ha,rfl⟩ | ⟨i,hi,hbx⟩)
   ·cases ha; exact⟨hb,(QI.1 hh).1⟩
   ·have:=(h.YU _ (hmem i hi)).2 b hbx;exact⟨this.1,this.2.1⟩
theorem mD.db {e:TypeId} {W0 W:World} {v:Value} {db:List cO} (h:mD pg e W0 W v db) (hl:db.length<=1000):∃ ad cap,v=.slice ad db.length cap/\Ic W ad db:=by
 have hmem:∀ i,i<db.length->db.getD i rz∈db:=fun i hi=>by simp[List.getD,hi]
 have hat:∀ i,i<db.length->gF W (db.getD i rz).ad (db.getD i rz).rs:=fun i hi=>(h.YU _ (hmem i hi)).1
 rcases h.own.2 with⟨hv,h0⟩ | ⟨g,cap,cur,hv,hb,hh,hc,_,hcs,ht⟩
 ·have:=Qz h0;subst this;exact⟨none,0,hv,⟨by simp,fun i hi=>absurd hi (by simp),fun i hi=>absurd hi (by simp)⟩,fun i hi=>absurd hi (by simp)⟩
 ·refine⟨some (aD g 0),cap,hv,⟨by omega,fun i hi=>⟨g,0,rfl,?_⟩,fun i hi=>(hat i hi).1⟩,hat⟩;have h2:(cur.toList.take (db.length*1))[i]? = some (db.getD i rz).val:=by
   rw[ht];simp[List.getD,hi,pg]
  have h3:cur[i]? = some (db.getD i rz).val:=by
   rw[ZH] at h2;split at h2
   ·simpa using h2
   ·cases h2
  simp only[World.cell?,hh]
  simpa using h3
theorem mD.db2 {e:TypeId} {W0 W:World} {d:Option Addr} {dc:Nat} {db:List cO} (h:mD pg e W0 W (.slice d db.length dc) db) (hl:db.length<=1000):Ic W d db:=by
 obtain⟨d2,dc2,hv,hd⟩:=h.db hl;injection hv with h1 h2 h3;rw[h1];exact hd
def af.list (t:af):List Value:=[.int .i64 t.aH,.int .i64 t.rows,.int .i64 t.k0,.int .i64 t.k1,.int .i64 t.k2,.int .i64 t.k3]
theorem Ck (t:af):t.list.length=6:=rfl
theorem Cm {w:World} {base:Nat} {e:TypeId} {v:Value} {ts:List af} (h:w.ownsRow base e 6 v ts.length (ts.flatMap af.list)) (hl:ts.length<=100) :
  ∃ ad cap,v=.slice ad ts.length cap/\aJ w ad ts/\∀ a,ad=some a->base<=a.block/\a.block<w.heap.size:=by
 rcases h.2 with⟨rfl,h0⟩ | ⟨g,cap,cur,rfl,hb,hh,hc,_,hcs,ht⟩
 ·have:=Qz h0;subst this;exact⟨none,0,rfl,⟨by simp,fun i hi=>absurd hi (by simp)⟩,fun a ha=>by cases ha⟩
 ·refine⟨some (aD g 0),cap,rfl,⟨by omega,fun i hi=>⟨g,0,rfl,?_⟩⟩,fun a ha=>by cases ha; exact⟨hb,(QI.1 hh).1⟩⟩;have hcell:∀ j,j<6->w.cell? (aD g (0+i*6+j))=((ts.getD i tz).list)[j]?:=fun j hj=>by
   have h1:=DY af.list 6 Ck tz ts [] i j hi hj;rw[Xl] at h1;rw[<- h1,<- ht,ZH,Qr (by have:=hi; omega)];simp[World.cell?,hh]
  exact⟨hcell 0 (by omega),hcell 1 (by omega),hcell 2 (by omega),hcell 3 (by omega),hcell 4 (by omega),hcell 5 (by omega)⟩
theorem GB.aoi {w:World} {G:Nat} {t:TypeId} {a0 a1 a2 a3 a4 a5 a6 a7 a8:Value} (h:GB w G t #[a0,a1,a2,a3,a4,a5,a6,a7,a8]) (v0 v1 v2 v3 v4 v5 v6 v7 v8:Value):GB (((((((((w.setCell (aD G 0) v0).setCell (aD G 1) v1).setCell (aD G 2) v2).setCell (aD G 3) v3).setCell (aD G 4) v4).setCell (aD G 5) v5).setCell (aD G 6) v6).setCell (aD G 7) v7).setCell (aD G 8) v8) G t #[v0,v1,v2,v3,v4,v5,v6,v7,v8]:=by
 have h0:GB (w.setCell (aD G 0) v0) G t #[v0,a1,a2,a3,a4,a5,a6,a7,a8]:=h.set 0 v0;have h1:GB ((w.setCell (aD G 0) v0).setCell (aD G 1) v1) G t #[v0,v1,a2,a3,a4,a5,a6,a7,a8]:=h0.set 1 v1;have h2:GB (((w.setCell (aD G 0) v0).setCell (aD G 1) v1).setCell (aD G 2) v2) G t #[v0,v1,v2,a3,a4,a5,a6,a7,a8]:=h1.set 2 v2;have h3:GB ((((w.setCell (aD G 0) v0).setCell (aD G 1) v1).setCell (aD G 2) v2).setCell (aD G 3) v3) G t #[v0,v1,v2,v3,a4,a5,a6,a7,a8]:=h2.set 3 v3;have h4:GB (((((w.setCell (aD G 0) v0).setCell (aD G 1) v1).setCell (aD G 2) v2).setCell (aD G 3) v3).setCell (aD G 4) v4) G t #[v0,v1,v2,v3,v4,a5,a6,a7,a8]:=h3.set 4 v4;have h5:GB ((((((w.setCell (aD G 0) v0).setCell (aD G 1) v1).setCell (aD G 2) v2).setCell (aD G 3) v3).setCell (aD G 4) v4).setCell (aD G 5) v5) G t #[v0,v1,v2,v3,v4,v5,a6,a7,a8]:=h4.set 5 v5;have h6:GB (((((((w.setCell (aD G 0) v0).setCell (aD G 1) v1).setCell (aD G 2) v2).setCell (aD G 3) v3).setCell (aD G 4) v4).setCell (aD G 5) v5).setCell (aD G 6) v6) G t #[v0,v1,v2,v3,v4,v5,v6,a7,a8]:=h5.set 6 v6;have h7:GB ((((((((w.setCell (aD G 0) v0).setCell (aD G 1) v1).setCell (aD G 2) v2).setCell (aD G 3) v3).setCell (aD G 4) v4).setCell (aD G 5) v5).setCell (aD G 6) v6).setCell (aD G 7) v7) G t #[v0,v1,v2,v3,v4,v5,v6,v7,a8]:=h6.set 7 v7;have h8:GB (((((((((w.setCell (aD G 0) v0).setCell (aD G 1) v1).setCell (aD G 2) v2).setCell (aD G 3) v3).setCell (aD G 4) v4).setCell (aD G 5) v5).setCell (aD G 6) v6).setCell (aD G 7) v7).setCell (aD G 8) v8) G t #[v0,v1,v2,v3,v4,v5,v6,v7,v8]:=h7.set 8 v8;exact h8
structure CaseOk (ts:List af) (q:ae) (db:List cO):Prop where
 tabs:1<=ts.length/\ts.length<=3/\∀ t∈ts,qy t t.aH.toNat
 VL:zl ts q
 len:db.length=ts.length
 rows:∀ i,i<db.length->(db.getD i rz).rs.length<=4/\∀ r∈(db.getD i rz).rs,(r.xs.length:Int)=(ts.getD i tz).aH/\∀ x∈r.xs,x=1073741824∨(-1<=x/\x<=3)
theorem ry {ts:List af} (h1:1<=ts.length) (h3:ts.length<=3) (h:∀ t∈ts,qy t t.aH.toNat):fo ts=true:=by
 unfold fo;simp only[Qm,Qx];refine⟨⟨h1,by omega⟩,?_⟩;rw[Qn];intro t ht;have k:=h t ht;unfold dC;rw[Qx];exact⟨k.c1,by have:=k.c3; omega,k.r0,k.r1,k.kd⟩
structure AX (mb qb:Nat) (lo:Option Addr) (lc:Nat) (l:List Int) (e tq:TypeId) (W0:World) (c:Value->Array Value) (W:World) (v:Value) (ts:List af):Prop where
 gb:GB W qb tq (c v)
 own:W.ownsRow W0.heap.size e 6 v ts.length (ts.flatMap af.list)
 Gf:aF mb lo lc l W
 kept:Kept (fun b=>b≠mb/\b≠qb) W0 W
theorem AX.keep {mb qb:Nat} {lo:Option Addr} {lc:Nat} {l:List Int} {e tq:TypeId} {W0:World} {c:Value->Array Value} {A B:World} {v:Value} {ts:List af} (h:AX mb qb lo lc l e tq W0 c A v ts) (hk:Kept (fun b=>b≠mb) A B) (hm:aF mb lo lc l B)
  (hq:qb≠mb) (hmb:mb<W0.heap.size):AX mb qb lo lc l e tq W0 c B v ts:=
 ⟨h.gb.keep hk hq,Zx h.own hk (fun g hg=>by have:=(Zy h.own hg).1; omega),hm,h.kept.trans (hk.mono fun b _ h=>h.1)⟩
theorem AX.more {mb qb:Nat} {lo:Option Addr} {lc:Nat} {l:List Int} {e tq:TypeId} {W0:World} {c:Value->Array Value} {A A1 B:World} {v v':Value} {ts:List af} (h:AX mb qb lo lc l e tq W0 c A v ts) {f:Nat} {t:af}
  (ha:Kept (fun _=>True) A A1) (hown:B.ownsRow W0.heap.size e 6 v' (ts.length+1) (ts.flatMap af.list++t.list)) (hg:A1.grownBy B v.ownBlock) (hc:(c v).setIfInBounds f v' = c v')
  (hq:qb≠mb) (hmb:mb<W0.heap.size) (hqb:qb<W0.heap.size) (hlo:∀ a,lo=some a->a.block<W0.heap.size/\a.block≠qb) :
  AX mb qb lo lc l e tq W0 c (B.setCell (aD qb f) v') v' (ts++[t])/\Kept (fun b=>b<W0.heap.size) A B:=by
 have hvb:∀ g,v.ownBlock=some g->W0.heap.size<=g:=fun g hg=>(Zy h.own hg).1
 have Gw:∀ g,v'.ownBlock=some g->W0.heap.size<=g:=fun g hg=>(Zy hown hg).1
 have hk1:Kept (fun b=>v.ownBlock≠some b) A B:=(ha.mono fun _ _ _=>trivial).trans (Zw hg (fun r e hr=>hr e));have hk2:Kept (fun b=>v.ownBlock≠some b/\b≠qb) A (B.setCell (aD qb f) v'):=(hk1.mono fun _ _ h=>h.1).trans (Zv _ _ _ (fun h=>h.2 rfl));refine⟨⟨?_,?_,?_,?_⟩,hk1.mono fun b _ hb e=>by have:=hvb b e; omega⟩
 ·have hgB:=h.gb.keep hk1 (fun e=>by have:=hvb _ e; omega);have:=hgB.set f v'
  rwa [hc] at this
 ·have:=Zx hown (s:=fun b=>b≠qb) (Zv B (aD qb f) v' (fun h=>h rfl)) (fun g hg=>by have:=Gw g hg; omega);rw[show (ts++[t]).length=ts.length+1 from by simp,show (ts++[t]).flatMap af.list=ts.flatMap af.list++t.list from by simp];exact this
 ·exact h.Gf.eH hk2 ⟨fun e=>by have:=hvb _ e; omega,Ne.symm hq⟩ (fun a ha=>⟨fun e=>by have:=hvb _ e; have:=(hlo a ha).1; omega,(hlo a ha).2⟩)
 ·exact ((h.kept.mono (t:=fun b=>(b≠mb/\b≠qb)/\b<W0.heap.size) (fun b _ h=>h.1)).trans (hk2.mono fun b _ h=>⟨fun e=>by have:=hvb _ e; have:=h.2; omega,h.1.2⟩)).mono (fun b hb h=>⟨h,hb⟩)
theorem Tryz.TC:(Tryz.prog.info? 54).map (fun i=>(i.zero,i.size,i.bytes))=some (some (.agg #[.int .i64 0,.int .i64 0,.int .i64 0,.int .i64 0,.int .i64 0,.int .i64 0]),6,48):=by kernel_rfl
theorem Tryz.Ym:(Tryz.prog.info? 57).map (fun i=>(i.zero,i.size,i.bytes))=some (some (.slice none 0 0),1,24):=by kernel_rfl
theorem Yn (lo:Option Addr) (lc:Nat) (l:List Int) (W:World) (hx:au W lo l) (hl:∀ x∈l,-9223372036854775808<=x/\x<=9223372036854775807) (hlo:∀ a,lo=some a->a.block<W.heap.size) :
  Calls Tryz.prog 4 #[.slice lo l.length lc] W fun e W'=>∃ (ts:List af) (q:ae) (db:List cO) (co d:Option Addr) (cc dc:Nat),e=.returned (.agg (caseA (.slice co ts.length cc) q (.slice d db.length dc)))/\CaseOk ts q db/\
   aJ W' co ts/\(∀ a,co=some a->W.heap.size<=a.block)/\ts.length<=cc/\di W.heap.size q W'/\Ic W' d db/\Below W.heap.size W W':=by
 obtain⟨it,hit,ap8,ap9,aqa⟩:=ZC Tryz.TC;obtain⟨i0,hi,hz0,hz1,hz2⟩:=ZC Tryz.iZ;obtain⟨ir,hir,aqb,aqc,aqd⟩:=ZC Tryz.zF;obtain⟨iw,hiw,aqe,aqf,aqg⟩:=ZC Tryz.Ym;have hll:=hx.1;have hk1:∀ s,Kept s W (((W.alloc (.cells (caseA (.slice none 0 0) qz (.slice none 0 0)) 29)).alloc (.cells #[.slice lo l.length lc,.int .i64 0] 50)).alloc (.cells (caseA (.slice none 0 0) qz (.slice none 0 0)) 29)):=fun s=>((Zc _ _).trans (Zc _ _)).trans (Zc _ _)
 have wZ:GB (((W.alloc (.cells (caseA (.slice none 0 0) qz (.slice none 0 0)) 29)).alloc (.cells #[.slice lo l.length lc,.int .i64 0] 50)).alloc (.cells (caseA (.slice none 0 0) qz (.slice none 0 0)) 29)) W.heap.size 29 (caseA (.slice none 0 0) qz (.slice none 0 0)):=
  ((GB.alloc _ _ _).keep (Zc (s:=fun _=>True) _ _) trivial).keep (Zc (s:=fun _=>True) _ _) trivial
 have hGm:GB (((W.alloc (.cells (caseA (.slice none 0 0) qz (.slice none 0 0)) 29)).alloc (.cells #[.slice lo l.length lc,.int .i64 0] 50)).alloc (.cells (caseA (.slice none 0 0) qz (.slice none 0 0)) 29)) (W.heap.size+1) 50 #[.slice lo l.length lc,.int .i64 0]:=by
  have:=GB.alloc (W.alloc (.cells (caseA (.slice none 0 0) qz (.slice none 0 0)) 29)) #[.slice lo l.length lc,.int .i64 0] 50;rw[Zd] at this;exact this.keep (Zc (s:=fun _=>True) _ _) trivial
 have Fg:GB (((W.alloc (.cells (caseA (.slice none 0 0) qz (.slice none 0 0)) 29)).alloc (.cells #[.slice lo l.length lc,.int .i64 0] 50)).alloc (.cells (caseA (.slice none 0 0) qz (.slice none 0 0)) 29)) (W.heap.size+2) 29 (caseA (.slice none 0 0) qz (.slice none 0 0)):=by
  have:=GB.alloc ((W.alloc (.cells (caseA (.slice none 0 0) qz (.slice none 0 0)) 29)).alloc (.cells #[.slice lo l.length lc,.int .i64 0] 50)) (caseA (.slice none 0 0) qz (.slice none 0 0)) 29
  rwa [Zd,Zd] at this
 have hs1:(((W.alloc (.cells (caseA (.slice none 0 0) qz (.slice none 0 0)) 29)).alloc (.cells #[.slice lo l.length lc,.int .i64 0] 50)).alloc (.cells (caseA (.slice none 0 0) qz (.slice none 0 0)) 29)).heap.size=W.heap.size+3:=by simp
 obtain⟨W1,hW1⟩:∃ W1,(((W.alloc (.cells (caseA (.slice none 0 0) qz (.slice none 0 0)) 29)).alloc (.cells #[.slice lo l.length lc,.int .i64 0] 50)).alloc (.cells (caseA (.slice none 0 0) qz (.slice none 0 0)) 29))=W1:=⟨_,rfl⟩
 rw[hW1] at hk1 wZ hGm Fg hs1;have hM1:aF (W.heap.size+1) lo lc l W1:=⟨⟨0,QQ _,hGm.cell 1⟩,hGm.cell 0,hGm.frozen 1,au.keep hx (fun a ha hlt=>(hk1 (fun _=>True)).block _ hlt trivial),fun a ha=>by have:=hlo a ha; omega⟩
 have hn1:=Xh (W.heap.size+1) lo lc l 3 W1 hM1 (by omega) hl;have HL:=Zh hl;have uJ:=Zh hlo;have nR:=Zh hs1;have HW1:=Zh hW1;have lK:=Zh hk1;have HGr:Hid _:=wZ;have HGc:Hid _:=Fg;clear hl hlo hs1 hW1 hk1 Fg wZ hGm hM1 hx;go_enter Tryz.func4,Tryz.ntmps4;go_wp2_with fail;rw[show (((W.alloc (.cells #[.slice none 0 0,.slice none 0 0,.slice none 0 0,.bool false,.slice none 0 0,.slice none 0 0,.slice none 0 0,.slice none 0 0,.slice none 0 0] 29)).alloc (.cells #[.slice lo l.length lc,.int .i64 0] 50)).alloc (.cells #[.slice none 0 0,.slice none 0 0,.slice none 0 0,.bool false,.slice none 0 0,.slice none 0 0,.slice none 0 0,.slice none 0 0,.slice none 0 0] 29))=W1 from HW1.out];refine hn1.mono ?_;rintro e W2 ⟨r1,rfl,hr1,hr1',hM2,hk2⟩;clear hn1;obtain⟨k1,rfl⟩:∃ k:Nat,r1=(k:Int):=⟨r1.toNat,by omega⟩
 have hs1:=nR.out;have hcm:W.heap.size+2≠W.heap.size+1:=by omega
 have HCM:Hid _:=hcm;have aa4:Hid _:=ZL HGr.out hk2 (show W.heap.size≠W.heap.size+1 by omega);have Lp:=Zh (((lK.out (fun _=>True)).trans' (hk2.mono (t:=fun b=>b≠W.heap.size+1) (fun b _ h=>h)) (fun b hb _=>by omega)));have HS2:Hid (W.heap.size+3<=W2.heap.size):=show _<=_ by have:=hk2.size; omega
 have IY:Hid (∀ a,lo=some a->a.block<W2.heap.size/\a.block≠W.heap.size+2):=fun a ha=>by have:=uJ.out a ha; have:=HS2.out; omega
 have HT0:Hid (AX (W.heap.size+1) (W.heap.size+2) lo lc l 54 29 W2 (fun v=>caseA v qz (.slice none 0 0)) W2 (.slice none 0 0) []):=⟨ZL HGc.out hk2 hcm,ZE _ _ _ _,hM2,Q7 _ _⟩
 clear hM2 hk2 lK HGr HGc HW1 hs1 hcm;go_wp2;go_loopw [5] (fun i wr=>∃ (k:Nat) (ts:List af) (v:Value),i=.int .i64 k/\ts.length+k<=3/\1<=ts.length+k/\Hid (∀ t∈ts,qy t t.aH.toNat)/\AX (W.heap.size+1) (W.heap.size+2) lo lc l 54 29 W2 (fun v=>caseA v qz (.slice none 0 0)) wr v ts) (fun i _=>(intOf i).toNat)
 case atStart=>exact⟨1+k1,[],_,congrArg (Value.int .i64) (by omega),by simp; omega,by simp,(fun t ht=>by simp at ht),HT0.out⟩
 case round=>
  obtain⟨k,ts,v,rfl,hkm,an1,hok,htb⟩:=hrel;by_cases h0:0<k
  ·
   --Fh m1 begin
   have hgt:((k:Int) > 0):=by omega
   have htab:=PX (W.heap.size+1) lo lc l wr htb.Gf HL.out (fun a ha=>by have:=(IY.out a ha).1; have:=htb.kept.size; omega);have HTB:=Zh htb;clear htb;go_wp2_with fail;refine htab.mono ?_;rintro e W3 ⟨t,rfl,hto,wY,hk3⟩;clear htab;have ab2:=AX.keep HTB.out hk3 wY HCM.out (by have:=HS2.out; omega);obtain⟨va,vn,vc,rfl⟩:=ZA ab2.own;have hka:∀ s,Kept s W3 (W3.alloc (.cells t.vals 54)):=fun s=>Zc _ _
   have ab3:=AX.keep ab2 (hka _) (wY.alloc (.cells t.vals 54)) HCM.out (by have:=HS2.out; omega);have hcv:(W3.alloc (.cells t.vals 54)).cell? (aD (W.heap.size+1+1) 0)=some (.slice va vn vc):=ab3.gb.cell 0;have yK:=ab3.own;have aa5:=ab2.kept.size;have HT4:=Zh ab3;have HTO:=Zh hto;obtain⟨t0,t1,t2,t3,t4,t5⟩:=t;unfold af.vals at *;simp only at *;have HW4:Hid (∃ W4,W3.alloc (.cells #[.int .i64 t0,.int .i64 t1,.int .i64 t2,.int .i64 t3,.int .i64 t4,.int .i64 t5] 54)=W4):=⟨_,rfl⟩
   clear wY hk3 ab2 ab3 hto hka;go_wp2_with (first | (at_builtin; refine wpList_append_own _ rfl _ _ 23 rfl W2.heap.size 54 it (.agg #[.int .i64 0,.int .i64 0,.int .i64 0,.int .i64 0,.int .i64 0,.int .i64 0]) 6 48 Tryz.underlying23 hit ap8 ap9 aqa rfl (by decide) _ _ _ rfl (yK.alloc _) (aD (W3.heap.size+1) 0) 1 1 (⟨t0,t1,t2,t3,t4,t5⟩:af).list rfl rfl ?q1 ?q2 ?q3 ?q4 ?q5 ?_))
   case q1=>
    have hn:=kG (W3.alloc (.cells #[.int .i64 t0,.int .i64 t1,.int .i64 t2,.int .i64 t3,.int .i64 t4,.int .i64 t5] 54)) (.cells #[.int .i64 t0,.int .i64 t1,.int .i64 t2,.int .i64 t3,.int .i64 t4,.int .i64 t5] 54);rw[Zd] at hn;exact ZP (cs:=#[.int .i64 t0,.int .i64 t1,.int .i64 t2,.int .i64 t3,.int .i64 t4,.int .i64 t5]) (t:=54) (fr:=(0,0)) hn
   case q2=>intro u hu; simp[af.list] at hu; rcases hu with rfl | rfl | rfl | rfl | rfl | rfl <;> rfl
   case q3=>unfold maxLen; omega
   case q4=>omega
   case q5=>simp; omega
   intro v' w5 hown5 dR _;obtain⟨Pk,TQ,Pm,rfl⟩:=ZA hown5;have M:=AX.more HT4.out (f:=0) (t:=⟨t0,t1,t2,t3,t4,t5⟩) (Zc _ _) hown5 dR rfl HCM.out (by have:=HS2.out; omega) (by have:=HS2.out; omega) IY.out;have hc5:=Zr hcv M.2 (show W.heap.size+1+1<W2.heap.size by have:=HS2.out; omega);have Fj:w5.frozen? (aD (W.heap.size+1+1) 0)=false:=(ZL HT4.out.gb M.2 (show W.heap.size+2<W2.heap.size by have:=HS2.out; omega)).frozen 0;have PY:=Zh M.1;clear M hown5 dR yK hcv;go_wp2;go_roundw
   case rel=>exact⟨k-1,ts++[⟨t0,t1,t2,t3,t4,t5⟩],_,congrArg (Value.int .i64) (show _=((k-1:Nat):Int) by omega),by rw[QT,XU]; omega,by rw[QT,XU]; omega,(fun t ht=>by
    rcases QX.1 ht with ht | ht
    ·exact hok.out t ht
    ·rw[QY] at ht; rw[ht]; exact HTO.out),PY.out⟩
   case measure=>simp[intOf]; omega
   --Fh m1 end
  ·have hk0:k=0:=by omega
   subst hk0;rw[show (((0:Nat):Int))=(0:Int) from rfl];obtain⟨co,cc,rfl,TD,agr⟩:=Cm htb.own (by omega);have akF:ts.length<=cc:=by
    rcases htb.own.2 with⟨hv,h0⟩ | ⟨g,cap,cur,hv,_,_,hc,_⟩
    ·omega
    ·injection hv with h1 h2 h3; omega
   have jM:=ry (by omega) (by omega) hok.out;have hqy:=RX (W.heap.size+1) lo lc l co cc ts wr htb.Gf HL.out (fun a ha=>by have:=(IY.out a ha).1; have:=htb.kept.size; omega) TD (fun a ha=>by have:=(agr a ha).1; have:=HS2.out; omega) jM;have Fg:=htb.gb;have HGc:Hid _:=Fg;have Kh:Hid _:=TD;have mO:=Zh agr;have HKr:=Zh htb.kept;have ab4:Hid (1<=ts.length/\ts.length<=3/\∀ t∈ts,qy t t.aH.toNat):=⟨by omega,by omega,hok.out⟩
   have aa3:=Zh jM;have akG:Hid _:=ZL aa4.out htb.kept (show W.heap.size≠W.heap.size+1/\W.heap.size≠W.heap.size+2 by omega);have ai4:=htb.kept.size;have aqh:=Zh akF;have b0:wr.cell? (aD (W.heap.size+1+1) 0)=some (.slice co ts.length cc):=Fg.cell 0;have b1:wr.cell? (aD (W.heap.size+1+1) 1)=some (.slice none 0 0):=Fg.cell 1;have b2:wr.cell? (aD (W.heap.size+1+1) 2)=some (.slice none 0 0):=Fg.cell 2;have b3:wr.cell? (aD (W.heap.size+1+1) 3)=some (.bool false):=Fg.cell 3;have b4:wr.cell? (aD (W.heap.size+1+1) 4)=some (.slice none 0 0):=Fg.cell 4;have b5:wr.cell? (aD (W.heap.size+1+1) 5)=some (.slice none 0 0):=Fg.cell 5;have b6:wr.cell? (aD (W.heap.size+1+1) 6)=some (.slice none 0 0):=Fg.cell 6;have b7:wr.cell? (aD (W.heap.size+1+1) 7)=some (.slice none 0 0):=Fg.cell 7;have b8:wr.cell? (aD (W.heap.size+1+1) 8)=some (.slice none 0 0):=Fg.cell 8;clear Fg TD agr htb hok jM akF HT0;go_wp2_with fail;refine Z7 hqy ?_;rintro e W3 ⟨q,rfl,akH,hql,wY,hk3⟩;clear hqy b0 b1 b2 b3 b4 b5 b6 b7 b8;have hG3:=ZL HGc.out hk3 HCM.out;obtain⟨⟨pY,ig,pG⟩,bY,aI,wh,gp,⟨kH,dJ,jK⟩,⟨DD,nW,Gi⟩,⟨Kk,sG,Kl⟩,⟨mX,fB,mY⟩⟩:=q;have b0:W3.cell? (aD (W.heap.size+1+1) 0)=some (.slice co ts.length cc):=hG3.cell 0;have b1:W3.cell? (aD (W.heap.size+1+1) 1)=some (.slice none 0 0):=hG3.cell 1;have b2:W3.cell? (aD (W.heap.size+1+1) 2)=some (.slice none 0 0):=hG3.cell 2;have b3:W3.cell? (aD (W.heap.size+1+1) 3)=some (.bool false):=hG3.cell 3;have b4:W3.cell? (aD (W.heap.size+1+1) 4)=some (.slice none 0 0):=hG3.cell 4;have b5:W3.cell? (aD (W.heap.size+1+1) 5)=some (.slice none 0 0):=hG3.cell 5;have b6:W3.cell? (aD (W.heap.size+1+1) 6)=some (.slice none 0 0):=hG3.cell 6;have b7:W3.cell? (aD (W.heap.size+1+1) 7)=some (.slice none 0 0):=hG3.cell 7;have b8:W3.cell? (aD (W.heap.size+1+1) 8)=some (.slice none 0 0):=hG3.cell 8;have f1:W3.frozen? (aD (W.heap.size+1+1) 1)=false:=hG3.frozen 1;have f2:W3.frozen? (aD (W.heap.size+1+1) 2)=false:=hG3.frozen 2;have f3:W3.frozen? (aD (W.heap.size+1+1) 3)=false:=hG3.frozen 3
   have f4:W3.frozen? (aD (W.heap.size+1+1) 4)=false:=hG3.frozen 4;have f5:W3.frozen? (aD (W.heap.size+1+1) 5)=false:=hG3.frozen 5;have f6:W3.frozen? (aD (W.heap.size+1+1) 6)=false:=hG3.frozen 6;have f7:W3.frozen? (aD (W.heap.size+1+1) 7)=false:=hG3.frozen 7;have lT:Kept (fun b=>b≠W.heap.size+2) W3 (((((((W3.setCell (aD (W.heap.size+1+1) 1) (.slice pY pG.length ig)).setCell (aD (W.heap.size+1+1) 2) (.slice bY wh.length aI)).setCell (aD (W.heap.size+1+1) 3) (.bool gp)).setCell (aD (W.heap.size+1+1) 4) (.slice kH jK.length dJ)).setCell (aD (W.heap.size+1+1) 5) (.slice DD Gi.length nW)).setCell (aD (W.heap.size+1+1) 6) (.slice Kk Kl.length sG)).setCell (aD (W.heap.size+1+1) 7) (.slice mX mY.length fB)):=(((((((Zv _ _ _ (fun h=>h rfl)).trans (Zv _ _ _ (fun h=>h rfl))).trans (Zv _ _ _ (fun h=>h rfl))).trans (Zv _ _ _ (fun h=>h rfl))).trans (Zv _ _ _ (fun h=>h rfl))).trans (Zv _ _ _ (fun h=>h rfl))).trans (Zv _ _ _ (fun h=>h rfl)))
   have hG4:GB (((((((W3.setCell (aD (W.heap.size+1+1) 1) (.slice pY pG.length ig)).setCell (aD (W.heap.size+1+1) 2) (.slice bY wh.length aI)).setCell (aD (W.heap.size+1+1) 3) (.bool gp)).setCell (aD (W.heap.size+1+1) 4) (.slice kH jK.length dJ)).setCell (aD (W.heap.size+1+1) 5) (.slice DD Gi.length nW)).setCell (aD (W.heap.size+1+1) 6) (.slice Kk Kl.length sG)).setCell (aD (W.heap.size+1+1) 7) (.slice mX mY.length fB)) (W.heap.size+2) 29 (caseA (.slice co ts.length cc) (⟨⟨pY,ig,pG⟩,bY,aI,wh,gp,⟨kH,dJ,jK⟩,⟨DD,nW,Gi⟩,⟨Kk,sG,Kl⟩,⟨mX,fB,mY⟩⟩:ae) (.slice none 0 0)):=(((((((hG3.set 1 _).set 2 _).set 3 _).set 4 _).set 5 _).set 6 _).set 7 _)
   obtain⟨W4,hW4⟩:∃ W4,(((((((W3.setCell (aD (W.heap.size+1+1) 1) (.slice pY pG.length ig)).setCell (aD (W.heap.size+1+1) 2) (.slice bY wh.length aI)).setCell (aD (W.heap.size+1+1) 3) (.bool gp)).setCell (aD (W.heap.size+1+1) 4) (.slice kH jK.length dJ)).setCell (aD (W.heap.size+1+1) 5) (.slice DD Gi.length nW)).setCell (aD (W.heap.size+1+1) 6) (.slice Kk Kl.length sG)).setCell (aD (W.heap.size+1+1) 7) (.slice mX mY.length fB))=W4:=⟨_,rfl⟩
   rw[hW4] at lT hG4;have OD:Hid (wr.heap.size<=W4.heap.size):=show _<=_ by have:=hk3.size; have:=lT.size; omega
   have HQL:Hid (di (W.heap.size+3) (⟨⟨pY,ig,pG⟩,bY,aI,wh,gp,⟨kH,dJ,jK⟩,⟨DD,nW,Gi⟩,⟨Kk,sG,Kl⟩,⟨mX,fB,mY⟩⟩:ae) W4):=(hql.keep lT (fun b hb=>by have:=HS2.out; omega)).lower (by have:=HS2.out; omega);have aqj:=Zh (hql.keep lT (fun b hb=>by have:=HS2.out; omega));have aqk:=Zh akH;have TV:=wY.eH lT (by omega) (fun a ha=>by have:=uJ.out a ha; omega);have aa6:Hid _:=(ZL akG.out hk3 (show W.heap.size≠W.heap.size+1 by omega)).keep lT (by omega);have hT4:=aJ.keep (aJ.keep Kh.out (fun a ha hlt=>hk3.block _ hlt (by have:=(mO.out a ha).1; have:=HS2.out; omega))) (fun a ha hlt=>lT.block _ hlt (by have:=(mO.out a ha).1; have:=HS2.out; omega));have HT4:Hid _:=hT4;have JF:=Zh ((HKr.out.trans (hk3.mono fun b _ h=>h.1)).trans (lT.mono fun b _ h=>h.2));have HG4:Hid _:=hG4;have HM4:=Zh TV;clear hql akH wY hk3 hG3 lT hG4 TV hT4 HGc Kh HKr akG aqj;unfold ae.cells ah.val;simp only;go_wp2;go_loopw [7] (fun iv wr=>∃ (i:Nat) (db:List cO) (v:Value),iv=.int .i64 i/\i<=ts.length/\Hid (db.length=i/\∀ j,j<db.length->(db.getD j rz).rs.length<=4/\∀ r∈(db.getD j rz).rs,(r.xs.length:Int)=(ts.getD j tz).aH/\∀ x∈r.xs,x=1073741824∨(-1<=x/\x<=3))/\
  GB wr (W.heap.size+2) 29 (caseA (.slice co ts.length cc) (⟨⟨pY,ig,pG⟩,bY,aI,wh,gp,⟨kH,dJ,jK⟩,⟨DD,nW,Gi⟩,⟨Kk,sG,Kl⟩,⟨mX,fB,mY⟩⟩:ae) v)/\mD pg 57 W4 wr v db/\aF (W.heap.size+1) lo lc l wr/\Kept (fun b=>b≠W.heap.size+1/\b≠W.heap.size+2) W4 wr) (fun iv _=>ts.length-(intOf iv).toNat)
   case atStart=>exact⟨0,[],_,rfl,QQ _,⟨rfl,fun j hj=>by simp at hj⟩,HG4.out,mD.nil _ _ _ _,HM4.out,Q7 _ _⟩
   case round=>
    obtain⟨w2,rfl⟩:∃ w2,w2=wr:=⟨wr,rfl⟩
    obtain⟨i,db,v,rfl,hil,JO,hgc,hns,hmk,hkp⟩:=hrel;obtain⟨va,vn,vc,rfl⟩:=ZA hns.own;have c0:w2.cell? (aD (W.heap.size+1+1) 0)=some (.slice co ts.length cc):=hgc.cell 0;have hsz2:=hkp.size;by_cases hlt:i<ts.length
    ·have TW:=Xh (W.heap.size+1) lo lc l 5 w2 hmk (by omega) HL.out;have zq:=aJ.keep HT4.out (fun a ha hlt2=>hkp.block _ hlt2 (by have:=(mO.out a ha).1; have:=HS2.out; omega));obtain⟨ctb,cto,rfl,ctc,-⟩:=zq.2 i hlt;have atr:=om aa3.out hlt;have ags:Hid (ctb≠W.heap.size+1):=show _≠_ by have:=(mO.out _ rfl).1; have h:W2.heap.size<=ctb:=this; have:=HS2.out; omega
     generalize hcl:(ts.getD i tz).aH=cl at *;have Eo:=Zh hcl;obtain⟨cn,rfl⟩:∃ cn:Nat,cl=(cn:Int):=⟨cl.toNat,by omega⟩
     have HGC:Hid _:=hgc;have YP:=Zh hns;have HKP:=Zh hkp;clear hgc hns hmk hkp zq hcl;go_wp2_with fail;refine TW.mono ?_;rintro e Wa ⟨r3,rfl,hr3,adJ,hMa,hka⟩;clear TW;obtain⟨k3,rfl⟩:∃ k:Nat,r3=(k:Int):=⟨r3.toNat,by omega⟩
     have hsa:=hka.size;have aqm:=Xf ctc hka ags.out;have c0a:=Xf c0 hka HCM.out;have HKA:=Zh hka;have HMa:=Zh hMa;have akI:=hMa.lt;have ab5:=Zh akI;clear ctc c0 hMa hka akI;go_wp2;go_loopw [8,9] (fun v8 kv wr=>∃ (k:Nat) (rs:List ah),kv=.int .i64 k/\rs.length+k<=4/\Hid (∀ r∈rs,(r.xs.length:Int)=(cn:Int)/\∀ x∈r.xs,x=1073741824∨(-1<=x/\x<=3))/\mD zn 22 Wa wr v8 rs/\aF (W.heap.size+1) lo lc l wr/\Kept (fun b=>b≠W.heap.size+1) Wa wr) (fun _ kv _=>(intOf kv).toNat)
     case atStart=>exact⟨k3,[],rfl,by simp; omega,(fun r hr=>by simp at hr),mD.nil _ _ _ _,HMa.out,Q7 _ _⟩
     case round=>
      obtain⟨w3,rfl⟩:∃ w3,w3=wr:=⟨wr,rfl⟩
      obtain⟨k,rs,rfl,ai1,akJ,hnr,ab6,hkp3⟩:=hrel;obtain⟨ra,rn,rc,rfl⟩:=ZA hnr.own;have axj:=hkp3.size;by_cases TY:0<k
      ·
       --Fh m3 begin
       have aeT:((k:Int) > 0):=by omega
       have HNR:=Zh hnr;have aqn:=Zh ab6;have aqo:=Zh hkp3;have aqp:=Xf aqm hkp3 ags.out;have c03:=Xf c0a hkp3 HCM.out;clear hnr ab6 hkp3;go_wp2;go_loopw [10,11] (fun v10 mv wr=>∃ (m:Nat) (xs:List Int),mv=.int .i64 m/\m<=cn/\Hid (xs.length=m/\∀ x∈xs,x=1073741824∨(-1<=x/\x<=3))/\wr.ownsRow w3.heap.size 3 1 v10 m (xs.map (Value.int .i64))/\aF (W.heap.size+1) lo lc l wr/\Kept (fun b=>b≠W.heap.size+1) w3 wr) (fun _ mv _=>cn-(intOf mv).toNat)
       case atStart=>exact⟨0,[],rfl,QQ _,⟨rfl,fun x hx=>by simp at hx⟩,ZE _ _ _ _,aqn.out,Q7 _ _⟩
       case round=>
        obtain⟨m,xs,rfl,hmc,Yo,hox,ab7,JP⟩:=hrel;have aqr:=Xf aqp JP ags.out;have c04:=Xf c03 JP HCM.out;have aa5:=JP.size;by_cases Hw:m<cn
        ·have hval:=P6 (W.heap.size+1) lo lc l wr ab7 HL.out;have HOX:Hid _:=hox;clear hox ab7;go_wp2_with fail;refine hval.mono ?_;rintro e Wc ⟨x,rfl,hxv,YT,hkc⟩;clear hval;have agt:=Zx HOX.out hkc (fun g hg=>by have:=(Zy HOX.out hg).1; have:=ab5.out; omega);have hKc:=JP.trans hkc;have hsc:=hKc.size;have HXL:=Zh Yo.out.1;have HMc:=Zh YT;clear YT hkc JP aqr c04;go_wp2_with (first | (at_builtin; refine wpList_append_own _ rfl _ _ 22 rfl w3.heap.size 3 i0 (.int .i64 0) 1 8 Tryz.underlying22 hi hz0 hz1 hz2 rfl (by decide) _ _ _ rfl (agt.alloc _) (aD Wc.heap.size 0) 1 1 [.int .i64 x] rfl rfl (ZP (cs:=#[.int .i64 x]) (t:=3) (fr:=(0,0)) (kG Wc _)) (fun u hu=>by rw[QY] at hu; rw[hu]; rfl) (by unfold maxLen; omega) (by omega) (by rw[Zd]; omega) ?_));intro v' w5 hown5 dR _;have zb:∀ g,Value.ownBlock _=some g->w3.heap.size<=g:=fun g hg=>(Zy agt hg).1
         have PY:=Zh ((aF.alloc HMc.out (.cells #[.int .i64 x] 3)).grown dR (fun e=>by have:=zb _ e; have:=ab5.out; omega) (fun a ha e=>by have:=zb _ e; have:=(IY.out a ha).1; have:=JF.out.size; omega));have hK5:Kept (fun b=>b≠W.heap.size+1) w3 w5:=by
          have h1:Kept (fun b=>b≠W.heap.size+1) w3 (Wc.alloc (.cells #[.int .i64 x] 3)):=hKc.trans (Zc _ _);exact ((h1.mono (t:=fun b=>b≠W.heap.size+1/\b<w3.heap.size) (fun b _ h=>h.1)).trans (Zw dR (fun r e h=>by have:=zb r e; have:=h.2; omega))).mono (fun b hb h=>⟨h,hb⟩)
         have qw:Hid _:=hown5;have HK5:=Zh hK5;clear hown5 dR agt zb hK5 hKc;go_wp2;go_roundw
         case rel=>exact⟨m+1,xs++[x],by go_num,by omega,⟨by rw[QT,XU,HXL.out],(fun y hy=>by
          rcases QX.1 hy with hy | hy
          ·exact Yo.out.2 y hy
          ·rw[QY] at hy; rw[hy]; exact hxv)⟩,by rw[Ql]; exact qw.out,PY.out,HK5.out⟩
         case measure=>simp[intOf]; omega
        ·have hme:m=cn:=by omega
         subst hme;obtain⟨iv,oh,nG,iX,Ch⟩:=jH hox (by have:=Yo.out.1; omega);have agu:=mD.keep HNR.out JP (fun b hb=>by have:=ab5.out; omega);have yK:=agu.own;have hK4:=aqo.out.trans JP;have akL:∀ b,zn.blk iv b->Wa.heap.size<=b/\b<wr.heap.size/\(Value.slice ra rn rc).ownBlock≠some b:=fun b hb=>by
          have h1:=Ch b hb;refine⟨by omega,bC.YD iX hb,fun e=>?_⟩;have h2:=(Zy HNR.out.own e).2;omega
         have HXB:=Zh akL;have HIA:=Zh iX;have HN4:=Zh agu;have aqs:=Zh hK4;have aqt:=Zh ab7;have HIX:=Zh nG;have HXK:=Zh Yo.out;rw[oh];obtain⟨lq,ed,iD⟩:=iv;unfold ah.val;simp only;clear hox iX Ch agu hK4 akL ab7 JP oh nG Yo;go_wp2_with (first | (at_builtin; refine wpList_append_own_at _ rfl _ _ 57 rfl Wa.heap.size 22 ir (.slice none 0 0) 1 24 Tryz.underlying57 hir aqb aqc aqd rfl (by decide) _ _ _ rfl (yK.alloc _) (aD wr.heap.size 0) 1 1 [.slice lq iD.length ed] rfl rfl (ZP (cs:=#[.slice lq iD.length ed]) (t:=22) (fr:=(0,0)) (kG wr _)) (fun u hu=>by rw[QY] at hu; rw[hu]; rfl) (by unfold maxLen; omega) (by omega) (by rw[Zd]; omega) ?_));intro v' w5 hown5 dR _ rq;have M:=mD.more HN4.out (x:=⟨lq,ed,iD⟩) HIA.out HXB.out (Zc wr _) (by simp) hown5 dR (by rw[Zd]; exact rq);have hvb:∀ g,(Value.slice ra rn rc).ownBlock=some g->Wa.heap.size<=g:=fun g hg=>(Zy HN4.out.own hg).1
         have PY:=Zh ((aF.alloc aqt.out (.cells #[.slice lq iD.length ed] 22)).grown dR (fun e=>by have:=hvb _ e; have:=ab5.out; omega) (fun a ha e=>by have:=hvb _ e; have:=(IY.out a ha).1; have:=JF.out.size; omega));have hK5:=((aqs.out.mono (t:=fun b=>b≠W.heap.size+1/\b<Wa.heap.size) (fun b _ h=>h.1)).trans (M.2.mono fun b _ h=>h.2)).mono (fun b hb h=>⟨h,hb⟩);have HK5:=Zh hK5;have HM1:=Zh M.1;clear M hown5 dR rq yK hvb hK5;go_wp2;go_roundw
         case rel=>exact⟨k-1,rs++[⟨lq,ed,iD⟩],congrArg (Value.int .i64) (show _=((k-1:Nat):Int) by omega),by rw[QT,XU]; omega,(fun r hr=>by
          rcases QX.1 hr with hr | hr
          ·exact akJ.out r hr
          ·rw[QY] at hr;have hix:=HIX.out;rw[hr]
           show (iD.length:Int)=_/\∀ x∈iD,_
           rw[hix];exact⟨by rw[HXK.out.1],HXK.out.2⟩),HM1.out,PY.out,HK5.out⟩
         case measure=>simp[intOf]; omega
       --Fh m3 end
      ·
       --Fh m4 begin
       have hk0:k=0:=by omega
       subst hk0;obtain⟨tb,htv,akM,TD,adj⟩:=hnr.table (by omega);have ab8:=HKA.out.trans hkp3;have hg3:=ZL HGC.out ab8 HCM.out;have agv:=mD.keep YP.out ab8 (fun b hb=>by have:=HS2.out; have:=JF.out.size; omega);have hown3:=agv.own;have c83:w3.cell? (aD (W.heap.size+1+1) 8)=some (.slice va vn vc):=hg3.cell 8;have HXB:Hid (∀ b,pg.blk tb b->W4.heap.size<=b/\b<w3.heap.size/\(Value.slice va vn vc).ownBlock≠some b):=fun b hb=>by
        have h1:=adj b hb;refine⟨by omega,h1.2,fun e=>?_⟩;have h2:=(Zy YP.out.own e).2;omega
       have Kh:=Zh TD;have VY:=Zh akM;have YZ:=Zh agv;have wK:Hid _:=hg3;have HM3:=Zh ab6;have pK:=Zh (HKP.out.trans (ab8.mono fun b _ h=>h.1));have axm:db.length<=3:=by have:=JO.out.1; have:=ab4.out.2.1; omega
       have HDL:=Zh JO.out.1;have aty:=pK.out.size;obtain⟨tad,FY,Yp⟩:=tb;have akN:Value.slice ra rn rc=.slice tad Yp.length FY:=htv;rw[akN];clear htv akN TD adj akM ab8 hg3 agv hnr ab6 hkp3;go_wp2_with (first | (at_builtin; refine wpList_append_own_at _ rfl _ _ 27 rfl W4.heap.size 57 iw (.slice none 0 0) 1 24 Tryz.underlying27 hiw aqe aqf aqg rfl (by decide) _ _ _ rfl (hown3.alloc _) (aD w3.heap.size 0) 1 1 [.slice tad Yp.length FY] rfl rfl (ZP (cs:=#[.slice tad Yp.length FY]) (t:=57) (fr:=(0,0)) (kG w3 _)) (fun u hu=>by rw[QY] at hu; rw[hu]; rfl) (by unfold maxLen; omega) (by omega) (by rw[Zd]; omega) ?_));intro v' w5 hown5 dR _ rq;obtain⟨Pk,TQ,Pm,rfl⟩:=ZA hown5;have M:=mD.more YZ.out (x:=⟨tad,FY,Yp⟩) Kh.out HXB.out (Zc w3 _) (by simp) hown5 dR (by rw[Zd]; exact rq);have hvb:∀ g,(Value.slice va vn vc).ownBlock=some g->W4.heap.size<=g:=fun g hg=>(Zy YZ.out.own hg).1
       have hcw:W.heap.size+2<W4.heap.size:=by have:=HS2.out; have:=JF.out.size; omega
       have hc5:=Zr c83 M.2 hcw;have hg5:=ZL wK.out M.2 hcw;have Fj:w5.frozen? (aD (W.heap.size+1+1) 8)=false:=hg5.frozen 8;have pE:Kept (fun b=>b≠W.heap.size+2) w5 (w5.setCell (aD (W.heap.size+1+1) 8) (.slice Pk TQ Pm)):=Zv _ _ _ (fun h=>h rfl);have HG6:Hid (GB (w5.setCell (aD (W.heap.size+1+1) 8) (.slice Pk TQ Pm)) (W.heap.size+2) 29 (caseA (.slice (some (aD ctb cto)) ts.length cc) (⟨⟨pY,ig,pG⟩,bY,aI,wh,gp,⟨kH,dJ,jK⟩,⟨DD,nW,Gi⟩,⟨Kk,sG,Kl⟩,⟨mX,fB,mY⟩⟩:ae) (.slice Pk TQ Pm))):=hg5.set 8 _;have HM6:=Zh (((aF.alloc HM3.out (.cells #[.slice tad Yp.length FY] 57)).grown dR (fun e=>by have:=hvb _ e; omega) (fun a ha e=>by have:=hvb _ e; have:=(IY.out a ha).1; have:=JF.out.size; omega)).eH pE (by omega) (fun a ha=>by have:=uJ.out a ha; omega));have HN6:=Zh (M.1.keep pE (fun b hb=>by omega));have HK6:=Zh ((((pK.out.mono (t:=fun b=>(b≠W.heap.size+1/\b≠W.heap.size+2)/\b<W4.heap.size) (fun b _ h=>h.1)).trans (M.2.mono fun b _ h=>h.2)).trans (pE.mono fun b _ h=>h.1.2)).mono (fun b hb h=>⟨h,hb⟩));clear M hown5 dR rq hown3 hvb pE hg5 c83;go_wp2;go_roundw
       case rel=>exact⟨i+1,db++[⟨tad,FY,Yp⟩],_,by go_num,by omega,⟨by rw[QT,XU,HDL.out],fun j hj=>by
        rw[QT,XU] at hj;by_cases hjl:j<db.length
        ·have e1:(db++[(⟨tad,FY,Yp⟩:cO)]).getD j rz=db.getD j rz:=by simp[List.getD,List.getElem?_append,hjl]
         rw[e1];exact JO.out.2 j hjl
        ·have hje:j=db.length:=by omega
         have e1:(db++[(⟨tad,FY,Yp⟩:cO)]).getD j rz=⟨tad,FY,Yp⟩:=by rw[hje]; simp[List.getD]
         rw[e1];have e2:=VY.out;have e3:j=i:=by rw[hje,HDL.out]
         show Yp.length<=4/\∀ r∈Yp,_
         rw[e2,e3,Eo.out];exact⟨by omega,akJ.out⟩⟩,HG6.out,HN6.out,HM6.out,HK6.out⟩
       case measure=>simp[intOf]; omega
       --Fh m4 end
    ·
     --Fh m5 begin
     have hie:i=ts.length:=by omega
     obtain⟨d,dc,hdv,hdh⟩:=hns.db (by have:=JO.out.1; have:=ab4.out.2.1; omega);rw[hdv] at hgc hns;clear hdh;have q0:w2.cell? (aD (W.heap.size+1+1) 0)=some (.slice co ts.length cc):=hgc.cell 0;have q1:w2.cell? (aD (W.heap.size+1+1) 1)=some (.slice pY pG.length ig):=hgc.cell 1;have q2:w2.cell? (aD (W.heap.size+1+1) 2)=some (.slice bY wh.length aI):=hgc.cell 2;have q3:w2.cell? (aD (W.heap.size+1+1) 3)=some (.bool gp):=hgc.cell 3;have q4:w2.cell? (aD (W.heap.size+1+1) 4)=some (.slice kH jK.length dJ):=hgc.cell 4;have q5:w2.cell? (aD (W.heap.size+1+1) 5)=some (.slice DD Gi.length nW):=hgc.cell 5;have q6:w2.cell? (aD (W.heap.size+1+1) 6)=some (.slice Kk Kl.length sG):=hgc.cell 6;have q7:w2.cell? (aD (W.heap.size+1+1) 7)=some (.slice mX mY.length fB):=hgc.cell 7;have q8:w2.cell? (aD (W.heap.size+1+1) 8)=some (.slice d db.length dc):=hgc.cell 8;have kP:Hid _:=ZL aa6.out hkp (show W.heap.size≠W.heap.size+1/\W.heap.size≠W.heap.size+2 by omega);have r0:w2.cell? (aD W.heap.size 0)=some (.slice none 0 0):=QG kP.out 0;have y0:=QH kP.out 0;have r1:w2.cell? (aD W.heap.size 1)=some (.slice none 0 0):=QG kP.out 1;have y1:=QH kP.out 1;have r2:w2.cell? (aD W.heap.size 2)=some (.slice none 0 0):=QG kP.out 2;have y2:=QH kP.out 2;have r3:w2.cell? (aD W.heap.size 3)=some (.bool false):=QG kP.out 3;have y3:=QH kP.out 3;have r4:w2.cell? (aD W.heap.size 4)=some (.slice none 0 0):=QG kP.out 4;have y4:=QH kP.out 4;have r5:w2.cell? (aD W.heap.size 5)=some (.slice none 0 0):=QG kP.out 5;have y5:=QH kP.out 5;have r6:w2.cell? (aD W.heap.size 6)=some (.slice none 0 0):=QG kP.out 6;have y6:=QH kP.out 6;have r7:w2.cell? (aD W.heap.size 7)=some (.slice none 0 0):=QG kP.out 7;have y7:=QH kP.out 7;have r8:w2.cell? (aD W.heap.size 8)=some (.slice none 0 0):=QG kP.out 8;have y8:=QH kP.out 8;have Ue:Kept (fun b=>b≠W.heap.size) w2 (((((((((w2.setCell (aD W.heap.size 0) (.slice co ts.length cc)).setCell (aD W.heap.size 1) (.slice pY pG.length ig)).setCell (aD W.heap.size 2) (.slice bY wh.length aI)).setCell (aD W.heap.size 3) (.bool gp)).setCell (aD W.heap.size 4) (.slice kH jK.length dJ)).setCell (aD W.heap.size 5) (.slice DD Gi.length nW)).setCell (aD W.heap.size 6) (.slice Kk Kl.length sG)).setCell (aD W.heap.size 7) (.slice mX mY.length fB)).setCell (aD W.heap.size 8) (.slice d db.length dc)):=(((((((((Zv _ _ _ (fun h=>h rfl)).trans (Zv _ _ _ (fun h=>h rfl))).trans (Zv _ _ _ (fun h=>h rfl))).trans (Zv _ _ _ (fun h=>h rfl))).trans (Zv _ _ _ (fun h=>h rfl))).trans (Zv _ _ _ (fun h=>h rfl))).trans (Zv _ _ _ (fun h=>h rfl))).trans (Zv _ _ _ (fun h=>h rfl))).trans (Zv _ _ _ (fun h=>h rfl)))
     have HGf:Hid (GB (((((((((w2.setCell (aD W.heap.size 0) (.slice co ts.length cc)).setCell (aD W.heap.size 1) (.slice pY pG.length ig)).setCell (aD W.heap.size 2) (.slice bY wh.length aI)).setCell (aD W.heap.size 3) (.bool gp)).setCell (aD W.heap.size 4) (.slice kH jK.length dJ)).setCell (aD W.heap.size 5) (.slice DD Gi.length nW)).setCell (aD W.heap.size 6) (.slice Kk Kl.length sG)).setCell (aD W.heap.size 7) (.slice mX mY.length fB)).setCell (aD W.heap.size 8) (.slice d db.length dc)) W.heap.size 29 (caseA (.slice co ts.length cc) (⟨⟨pY,ig,pG⟩,bY,aI,wh,gp,⟨kH,dJ,jK⟩,⟨DD,nW,Gi⟩,⟨Kk,sG,Kl⟩,⟨mX,fB,mY⟩⟩:ae) (.slice d db.length dc))):=GB.aoi (show GB w2 W.heap.size 29 #[.slice none 0 0,.slice none 0 0,.slice none 0 0,.bool false,.slice none 0 0,.slice none 0 0,.slice none 0 0,.slice none 0 0,.slice none 0 0] from kP.out) _ _ _ _ _ _ _ _ _;have HTf:=Zh (aJ.keep (aJ.keep HT4.out (fun a ha hlt2=>hkp.block _ hlt2 (by have:=(mO.out a ha).1; have:=HS2.out; omega))) (fun a ha hlt2=>Ue.block _ hlt2 (by have:=(mO.out a ha).1; have:=HS2.out; omega)));have HLf:Hid (di W.heap.size (⟨⟨pY,ig,pG⟩,bY,aI,wh,gp,⟨kH,dJ,jK⟩,⟨DD,nW,Gi⟩,⟨Kk,sG,Kl⟩,⟨mX,fB,mY⟩⟩:ae) (((((((((w2.setCell (aD W.heap.size 0) (.slice co ts.length cc)).setCell (aD W.heap.size 1) (.slice pY pG.length ig)).setCell (aD W.heap.size 2) (.slice bY wh.length aI)).setCell (aD W.heap.size 3) (.bool gp)).setCell (aD W.heap.size 4) (.slice kH jK.length dJ)).setCell (aD W.heap.size 5) (.slice DD Gi.length nW)).setCell (aD W.heap.size 6) (.slice Kk Kl.length sG)).setCell (aD W.heap.size 7) (.slice mX mY.length fB)).setCell (aD W.heap.size 8) (.slice d db.length dc))):=((XV HQL.out hkp (fun b hb=>by omega)).keep Ue (fun b hb=>by omega)).lower (by omega);have aqu:db.length<=1000:=by have:=JO.out.1; have:=ab4.out.2.1; omega
     have hnf:=hns.keep Ue (fun b hb=>by have:=HS2.out; have:=JF.out.size; omega);have HDf:Hid _:=mD.db2 hnf aqu;have hbf:=((((Lp.out.mono (t:=fun b=>b<W.heap.size) (fun _ _ _=>trivial)).trans (JF.out.mono fun b _ h=>by omega)).trans (hkp.mono fun b _ h=>by omega)).trans (Ue.mono fun b _ h=>by omega)).below (Qq _) (fun b hb=>hb);have HBf:=Zh hbf;have Bz:Hid (CaseOk ts (⟨⟨pY,ig,pG⟩,bY,aI,wh,gp,⟨kH,dJ,jK⟩,⟨DD,nW,Gi⟩,⟨Kk,sG,Kl⟩,⟨mX,fB,mY⟩⟩:ae) db):=⟨ab4.out,aqk.out,by rw[JO.out.1]; exact hie,JO.out.2⟩
     have HIE:=Zh hie;have axu:¬ (i:Int)<(ts.length:Int):=by omega
     clear hgc hns hmk hkp Ue hnf hbf hie hdv kP JO;go_wp2;refine Xi (Xj rfl _ _ W.heap.size 29 (caseA (.slice co ts.length cc) (⟨⟨pY,ig,pG⟩,bY,aI,wh,gp,⟨kH,dJ,jK⟩,⟨DD,nW,Gi⟩,⟨Kk,sG,Kl⟩,⟨mX,fB,mY⟩⟩:ae) (.slice d db.length dc)) (0,0) _ rfl HGf.out Tryz.underlying29 rfl (by kernel_rfl)) rfl ?_;exact⟨ts,(⟨⟨pY,ig,pG⟩,bY,aI,wh,gp,⟨kH,dJ,jK⟩,⟨DD,nW,Gi⟩,⟨Kk,sG,Kl⟩,⟨mX,fB,mY⟩⟩:ae),db,co,d,cc,⟨dc,rfl⟩,Bz.out,HTf.out,fun a ha=>by have:=(mO.out a ha).1; have:=HS2.out; omega,aqh.out,HLf.out,HDf.out,HBf.out⟩
     --Fh m5 end
