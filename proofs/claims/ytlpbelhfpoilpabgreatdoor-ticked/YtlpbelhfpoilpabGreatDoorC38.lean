import Derived.Test.YtlpbelhfpoilpabGreatDoorC04
import Derived.Test.YtlpbelhfpoilpabGreatDoorC13
import Derived.Test.YtlpbelhfpoilpabGreatDoorC18
import Derived.Test.YtlpbelhfpoilpabGreatDoorC37
set_option linter.all false
set_option maxRecDepth 100000
set_option maxHeartbeats 16000000
namespace Go.Scout
open Go.RowKit
structure Item (α:Type) where
 val:α->Value
 At:α->World->Prop
 blk:α->Nat->Prop
 keep:∀ {x A B},At x A->A.heap.size<=B.heap.size->(∀ b,blk x b->b<A.heap.size->B.heap[b]? = A.heap[b]?)->At x B
structure Nest {α:Type} (T:Item α) (e:TypeId) (W0 W:World) (v:Value) (xs:List α):Prop where
 own:W.ownsRow W0.heap.size e 1 v xs.length (xs.map T.val)
 itm:∀ x∈xs,T.At x W/\∀ b,T.blk x b->W0.heap.size<=b/\b<W.heap.size/\v.ownBlock≠some b
theorem Nest.nil {α:Type} (T:Item α) (e:TypeId) (W0 W:World):Nest T e W0 W (.slice none 0 0) []:=⟨World.ownsRow_nil _ _ _ _,fun x hx=>by simp at hx⟩
theorem Nest.keep {α:Type} {T:Item α} {e:TypeId} {W0 A B:World} {v:Value} {xs:List α} {s:Nat->Prop} (h:Nest T e W0 A v xs) (hk:Kept s A B) (hs:∀ b,W0.heap.size<=b->s b):Nest T e W0 B v xs:=
 ⟨ownsRow_keep h.own hk (fun g hg=>hs g (ownsRow_lt h.own hg).1),fun x hx=>⟨T.keep (h.itm x hx).1 hk.size (fun b hb hlt=>hk.block b hlt (hs b ((h.itm x hx).2 b hb).1)),fun b hb=>⟨((h.itm x hx).2 b hb).1,by have:=((h.itm x hx).2 b hb).2.1; have:=hk.size; omega,((h.itm x hx).2 b hb).2.2⟩⟩⟩
theorem Nest.more {α:Type} {T:Item α} {e:TypeId} {W0 A A1 B:World} {v v':Value} {xs:List α} (h:Nest T e W0 A v xs) {x:α} (hx:T.At x A) (hxb:∀ b,T.blk x b->W0.heap.size<=b/\b<A.heap.size/\v.ownBlock≠some b)
  (ha:Kept (fun _=>True) A A1) (hs1:A1.heap.size=A.heap.size+1) (hown:B.ownsRow W0.heap.size e 1 v' (xs.length+1) (xs.map T.val++[T.val x])) (hg:A1.grownBy B v.ownBlock) (hat:v'.ownBlock=v.ownBlock∨v'.ownBlock=some A1.heap.size) :
  Nest T e W0 B v' (xs++[x])/\Kept (fun b=>b<W0.heap.size) A B:=by
 have hvb:∀ g,v.ownBlock=some g->W0.heap.size<=g:=fun g hg=>(ownsRow_lt h.own hg).1
 have hk1:Kept (fun b=>v.ownBlock≠some b) A B:=(ha.mono fun _ _ _=>trivial).trans (Kept.grown hg (fun r e hr=>hr e));have hnew:∀ b,b<A.heap.size->v.ownBlock≠some b->v'.ownBlock≠some b:=fun b hb hn e=>by
  rcases hat with h | h
  ·exact hn (h ▸ e)
  ·rw[h] at e; cases e; omega
 have hone:∀ y:α,T.At y A->(∀ b,T.blk y b->W0.heap.size<=b/\b<A.heap.size/\v.ownBlock≠some b)->T.At y B/\∀ b,T.blk y b->W0.heap.size<=b/\b<B.heap.size/\v'.ownBlock≠some b:=fun y hy hyb=>
  ⟨T.keep hy hk1.size (fun b hb hlt=>hk1.block b hlt (hyb b hb).2.2),fun b hb=>⟨(hyb b hb).1,by have:=(hyb b hb).2.1; have:=hk1.size; omega,hnew b (hyb b hb).2.1 (hyb b hb).2.2⟩⟩
 refine⟨⟨by simpa using hown,fun y hy=>?_⟩,hk1.mono fun b _ hb e=>by have:=hvb b e; omega⟩;rcases List.mem_append.1 hy with hy | hy
 ·exact hone y (h.itm y hy).1 (h.itm y hy).2
 ·rw[List.mem_singleton] at hy;subst hy;exact hone y hx hxb
def rowItem:Item IntsV where
 val:=IntsV.val
 At:=rowEl.At
 blk x b:=rowEl.blk x=some b
 keep:=fun h hs hb=>rowEl.keep h hs (fun b hlt hx=>hb b hx hlt)
def tabItem:Item RowsV where
 val:=RowsV.val
 At t W:=RowsHad W t.ad t.rs
 blk t b:=(∃ a,t.ad=some a/\a.block=b)∨∃ i,i<t.rs.length/\rowEl.blk (t.rs.getD i iz)=some b
 keep:=by
  intro t A B h hs hb;exact RowsHad.keep h hs (fun a ha=>hb _ (.inl ⟨a,ha,rfl⟩) (h.2.1 a ha)) (fun i hi b hbx=>hb b (.inr ⟨i,hi,hbx⟩) (rowEl.inn (h.2.2 i hi) hbx))
theorem Nest.table {e:TypeId} {W0 W:World} {v:Value} {rs:List IntsV} (h:Nest rowItem e W0 W v rs) (hl:rs.length<=1000):∃ t:RowsV,v=t.val/\t.rs=rs/\tabItem.At t W/\∀ b,tabItem.blk t b->W0.heap.size<=b/\b<W.heap.size:=by
 have hmem:∀ i,i<rs.length->rs.getD i iz∈rs:=fun i hi=>by simp[List.getD,hi]
 rcases h.own.2 with⟨hv,h0⟩ | ⟨g,cap,cur,hv,hb,hh,hc,_,hcs,ht⟩
 ·have:rs=[]:=List.eq_nil_of_length_eq_zero h0;subst this;refine⟨⟨none,0,[]⟩,hv,rfl,⟨⟨by simp,fun i hi=>absurd hi (by simp),fun i hi=>absurd hi (by simp)⟩,(fun a ha=>by cases ha),fun i hi=>absurd hi (by simp)⟩,?_⟩;rintro b (⟨a,ha,_⟩ | ⟨i,hi,_⟩)
  ·cases ha
  ·simp at hi
 ·have hat:∀ i,i<rs.length->rowEl.At (rs.getD i iz) W:=fun i hi=>(h.itm _ (hmem i hi)).1
  refine⟨⟨some (aD g 0),cap,rs⟩,hv,rfl,⟨⟨by show rs.length<=_; omega,fun i hi=>⟨g,0,rfl,?_⟩,fun i hi=>(hat i hi).1⟩,fun a ha=>?_,hat⟩,?_⟩
  ·have hi':i<rs.length:=hi;have h2:(cur.toList.take (rs.length*1))[i]? = some (rs.getD i iz).val:=by
    rw[ht];simp[List.getD,hi',rowItem]
   have h3:cur[i]? = some (rs.getD i iz).val:=by
    rw[List.getElem?_take] at h2;split at h2
    ·simpa using h2
    ·cases h2
   simp only[World.cell?,hh]
   simpa using h3
  ·cases ha; exact (Array.getElem?_eq_some_iff.1 hh).1
  ·rintro b (⟨a,ha,rfl⟩ | ⟨i,hi,hbx⟩)
   ·cases ha; exact⟨hb,(Array.getElem?_eq_some_iff.1 hh).1⟩
   ·have:=(h.itm _ (hmem i hi)).2 b hbx;exact⟨this.1,this.2.1⟩
theorem Nest.db {e:TypeId} {W0 W:World} {v:Value} {db:List RowsV} (h:Nest tabItem e W0 W v db) (hl:db.length<=1000):∃ ad cap,v=.slice ad db.length cap/\DbHad W ad db:=by
 have hmem:∀ i,i<db.length->db.getD i rz∈db:=fun i hi=>by simp[List.getD,hi]
 have hat:∀ i,i<db.length->RowsHad W (db.getD i rz).ad (db.getD i rz).rs:=fun i hi=>(h.itm _ (hmem i hi)).1
 rcases h.own.2 with⟨hv,h0⟩ | ⟨g,cap,cur,hv,hb,hh,hc,_,hcs,ht⟩
 ·have:db=[]:=List.eq_nil_of_length_eq_zero h0;subst this;exact⟨none,0,hv,⟨by simp,fun i hi=>absurd hi (by simp),fun i hi=>absurd hi (by simp)⟩,fun i hi=>absurd hi (by simp)⟩
 ·refine⟨some (aD g 0),cap,hv,⟨by omega,fun i hi=>⟨g,0,rfl,?_⟩,fun i hi=>(hat i hi).1⟩,hat⟩;have h2:(cur.toList.take (db.length*1))[i]? = some (db.getD i rz).val:=by
   rw[ht];simp[List.getD,hi,tabItem]
  have h3:cur[i]? = some (db.getD i rz).val:=by
   rw[List.getElem?_take] at h2;split at h2
   ·simpa using h2
   ·cases h2
  simp only[World.cell?,hh]
  simpa using h3
theorem Nest.db2 {e:TypeId} {W0 W:World} {d:Option Addr} {dc:Nat} {db:List RowsV} (h:Nest tabItem e W0 W (.slice d db.length dc) db) (hl:db.length<=1000):DbHad W d db:=by
 obtain⟨d2,dc2,hv,hd⟩:=h.db hl;injection hv with h1 h2 h3;rw[h1];exact hd
def TableD.list (t:TableD):List Value:=[.int .i64 t.cols,.int .i64 t.rows,.int .i64 t.k0,.int .i64 t.k1,.int .i64 t.k2,.int .i64 t.k3]
theorem tableList_len (t:TableD):t.list.length=6:=rfl
theorem tables_of_own {w:World} {base:Nat} {e:TypeId} {v:Value} {ts:List TableD} (h:w.ownsRow base e 6 v ts.length (ts.flatMap TableD.list)) (hl:ts.length<=100) :
  ∃ ad cap,v=.slice ad ts.length cap/\TablesAt w ad ts/\∀ a,ad=some a->base<=a.block/\a.block<w.heap.size:=by
 rcases h.2 with⟨rfl,h0⟩ | ⟨g,cap,cur,rfl,hb,hh,hc,_,hcs,ht⟩
 ·have:ts=[]:=List.eq_nil_of_length_eq_zero h0;subst this;exact⟨none,0,rfl,⟨by simp,fun i hi=>absurd hi (by simp)⟩,fun a ha=>by cases ha⟩
 ·refine⟨some (aD g 0),cap,rfl,⟨by omega,fun i hi=>⟨g,0,rfl,?_⟩⟩,fun a ha=>by cases ha; exact⟨hb,(Array.getElem?_eq_some_iff.1 hh).1⟩⟩;have hcell:∀ j,j<6->w.cell? (aD g (0+i*6+j))=((ts.getD i tz).list)[j]?:=fun j hj=>by
   have h1:=flat_at TableD.list 6 tableList_len tz ts [] i j hi hj;rw[List.append_nil] at h1;rw[<- h1,<- ht,List.getElem?_take,if_pos (by have:=hi; omega)];simp[World.cell?,hh]
  exact⟨hcell 0 (by omega),hcell 1 (by omega),hcell 2 (by omega),hcell 3 (by omega),hcell 4 (by omega),hcell 5 (by omega)⟩
theorem GB.set9 {w:World} {G:Nat} {t:TypeId} {a0 a1 a2 a3 a4 a5 a6 a7 a8:Value} (h:GB w G t #[a0,a1,a2,a3,a4,a5,a6,a7,a8]) (v0 v1 v2 v3 v4 v5 v6 v7 v8:Value):GB (((((((((w.setCell (aD G 0) v0).setCell (aD G 1) v1).setCell (aD G 2) v2).setCell (aD G 3) v3).setCell (aD G 4) v4).setCell (aD G 5) v5).setCell (aD G 6) v6).setCell (aD G 7) v7).setCell (aD G 8) v8) G t #[v0,v1,v2,v3,v4,v5,v6,v7,v8]:=by
 have h0:GB (w.setCell (aD G 0) v0) G t #[v0,a1,a2,a3,a4,a5,a6,a7,a8]:=h.set 0 v0;have h1:GB ((w.setCell (aD G 0) v0).setCell (aD G 1) v1) G t #[v0,v1,a2,a3,a4,a5,a6,a7,a8]:=h0.set 1 v1;have h2:GB (((w.setCell (aD G 0) v0).setCell (aD G 1) v1).setCell (aD G 2) v2) G t #[v0,v1,v2,a3,a4,a5,a6,a7,a8]:=h1.set 2 v2;have h3:GB ((((w.setCell (aD G 0) v0).setCell (aD G 1) v1).setCell (aD G 2) v2).setCell (aD G 3) v3) G t #[v0,v1,v2,v3,a4,a5,a6,a7,a8]:=h2.set 3 v3;have h4:GB (((((w.setCell (aD G 0) v0).setCell (aD G 1) v1).setCell (aD G 2) v2).setCell (aD G 3) v3).setCell (aD G 4) v4) G t #[v0,v1,v2,v3,v4,a5,a6,a7,a8]:=h3.set 4 v4;have h5:GB ((((((w.setCell (aD G 0) v0).setCell (aD G 1) v1).setCell (aD G 2) v2).setCell (aD G 3) v3).setCell (aD G 4) v4).setCell (aD G 5) v5) G t #[v0,v1,v2,v3,v4,v5,a6,a7,a8]:=h4.set 5 v5;have h6:GB (((((((w.setCell (aD G 0) v0).setCell (aD G 1) v1).setCell (aD G 2) v2).setCell (aD G 3) v3).setCell (aD G 4) v4).setCell (aD G 5) v5).setCell (aD G 6) v6) G t #[v0,v1,v2,v3,v4,v5,v6,a7,a8]:=h5.set 6 v6;have h7:GB ((((((((w.setCell (aD G 0) v0).setCell (aD G 1) v1).setCell (aD G 2) v2).setCell (aD G 3) v3).setCell (aD G 4) v4).setCell (aD G 5) v5).setCell (aD G 6) v6).setCell (aD G 7) v7) G t #[v0,v1,v2,v3,v4,v5,v6,v7,a8]:=h6.set 7 v7;have h8:GB (((((((((w.setCell (aD G 0) v0).setCell (aD G 1) v1).setCell (aD G 2) v2).setCell (aD G 3) v3).setCell (aD G 4) v4).setCell (aD G 5) v5).setCell (aD G 6) v6).setCell (aD G 7) v7).setCell (aD G 8) v8) G t #[v0,v1,v2,v3,v4,v5,v6,v7,v8]:=h7.set 8 v8;exact h8
structure CaseOk (ts:List TableD) (q:QueryV) (db:List RowsV):Prop where
 tabs:1<=ts.length/\ts.length<=3/\∀ t∈ts,TabOk t t.cols.toNat
 qry:QueryOk ts q
 len:db.length=ts.length
 rows:∀ i,i<db.length->(db.getD i rz).rs.length<=4/\∀ r∈(db.getD i rz).rs,(r.xs.length:Int)=(ts.getD i tz).cols/\∀ x∈r.xs,x=1073741824∨(-1<=x/\x<=3)
theorem cat_of_tabs {ts:List TableD} (h1:1<=ts.length) (h3:ts.length<=3) (h:∀ t∈ts,TabOk t t.cols.toNat):catB ts=true:=by
 unfold catB;simp only[Bool.and_eq_true,decide_eq_true_eq];refine⟨⟨h1,by omega⟩,?_⟩;rw[List.all_eq_true];intro t ht;have k:=h t ht;unfold tableB;rw[decide_eq_true_eq];exact⟨k.c1,by have:=k.c3; omega,k.r0,k.r1,k.kd⟩
structure Tabs (mb qb:Nat) (lo:Option Addr) (lc:Nat) (l:List Int) (e tq:TypeId) (W0:World) (c:Value->Array Value) (W:World) (v:Value) (ts:List TableD):Prop where
 gb:GB W qb tq (c v)
 own:W.ownsRow W0.heap.size e 6 v ts.length (ts.flatMap TableD.list)
 mkr:MakerAt mb lo lc l W
 kept:Kept (fun b=>b≠mb/\b≠qb) W0 W
theorem Tabs.keep {mb qb:Nat} {lo:Option Addr} {lc:Nat} {l:List Int} {e tq:TypeId} {W0:World} {c:Value->Array Value} {A B:World} {v:Value} {ts:List TableD} (h:Tabs mb qb lo lc l e tq W0 c A v ts) (hk:Kept (fun b=>b≠mb) A B) (hm:MakerAt mb lo lc l B)
  (hq:qb≠mb) (hmb:mb<W0.heap.size):Tabs mb qb lo lc l e tq W0 c B v ts:=
 ⟨h.gb.keep hk hq,ownsRow_keep h.own hk (fun g hg=>by have:=(ownsRow_lt h.own hg).1; omega),hm,h.kept.trans (hk.mono fun b _ h=>h.1)⟩
theorem Tabs.more {mb qb:Nat} {lo:Option Addr} {lc:Nat} {l:List Int} {e tq:TypeId} {W0:World} {c:Value->Array Value} {A A1 B:World} {v v':Value} {ts:List TableD} (h:Tabs mb qb lo lc l e tq W0 c A v ts) {f:Nat} {t:TableD}
  (ha:Kept (fun _=>True) A A1) (hown:B.ownsRow W0.heap.size e 6 v' (ts.length+1) (ts.flatMap TableD.list++t.list)) (hg:A1.grownBy B v.ownBlock) (hc:(c v).setIfInBounds f v' = c v')
  (hq:qb≠mb) (hmb:mb<W0.heap.size) (hqb:qb<W0.heap.size) (hlo:∀ a,lo=some a->a.block<W0.heap.size/\a.block≠qb) :
  Tabs mb qb lo lc l e tq W0 c (B.setCell (aD qb f) v') v' (ts++[t])/\Kept (fun b=>b<W0.heap.size) A B:=by
 have hvb:∀ g,v.ownBlock=some g->W0.heap.size<=g:=fun g hg=>(ownsRow_lt h.own hg).1
 have hvb':∀ g,v'.ownBlock=some g->W0.heap.size<=g:=fun g hg=>(ownsRow_lt hown hg).1
 have hk1:Kept (fun b=>v.ownBlock≠some b) A B:=(ha.mono fun _ _ _=>trivial).trans (Kept.grown hg (fun r e hr=>hr e));have hk2:Kept (fun b=>v.ownBlock≠some b/\b≠qb) A (B.setCell (aD qb f) v'):=(hk1.mono fun _ _ h=>h.1).trans (Kept.setCell _ _ _ (fun h=>h.2 rfl));refine⟨⟨?_,?_,?_,?_⟩,hk1.mono fun b _ hb e=>by have:=hvb b e; omega⟩
 ·have hgB:GB B qb tq (c v):=h.gb.keep hk1 (fun e=>by have:=hvb _ e; omega);have:=hgB.set f v'
  rwa [hc] at this
 ·have:=ownsRow_keep hown (s:=fun b=>b≠qb) (Kept.setCell B (aD qb f) v' (fun h=>h rfl)) (fun g hg=>by have:=hvb' g hg; omega);rw[show (ts++[t]).length=ts.length+1 from by simp,show (ts++[t]).flatMap TableD.list=ts.flatMap TableD.list++t.list from by simp];exact this
 ·exact h.mkr.keepN hk2 ⟨fun e=>by have:=hvb _ e; omega,Ne.symm hq⟩ (fun a ha=>⟨fun e=>by have:=hvb _ e; have:=(hlo a ha).1; omega,(hlo a ha).2⟩)
 ·exact ((h.kept.mono (t:=fun b=>(b≠mb/\b≠qb)/\b<W0.heap.size) (fun b _ h=>h.1)).trans (hk2.mono fun b _ h=>⟨fun e=>by have:=hvb _ e; have:=h.2; omega,h.1.2⟩)).mono (fun b hb h=>⟨h,hb⟩)
theorem check_zero {q:QueryV} {ts:List TableD} (hcat:catB ts=true) (hs:allB q.src.xs ts.length=true/\1<=q.src.xs.length/\q.src.xs.length<=5) (hw:q.wh.length<=8/\∀ x∈q.wh,ClauseOk (widthN ts q.src.xs) x)
  (hl:q.sel.xs.length<=8/\q.keys.xs.length<=4/\q.sums.xs.length<=4/\q.ord.xs.length<=4) (hr:restB (widthN ts q.src.xs) q.group q.keys.xs q.sums.xs q.sel.xs q.ord.xs=true):q.check ts=0:=by
 unfold QueryV.check checkN;have h1:¬ catB ts=false:=by rw[hcat]; simp
 have h2:¬ fullB q.src.xs q.whs q.keys.xs q.sums.xs q.sel.xs q.ord.xs=true:=by
  unfold fullB;rw[Bool.or_eq_true,not_or];refine⟨?_,?_⟩
  ·rw[decide_eq_true_eq];have:q.whs.length=q.wh.length:=by simp[QueryV.whs]
   omega
  ·rw[List.any_eq_true];rintro⟨c,hc,h3⟩;unfold QueryV.whs at hc;obtain⟨x,hx,rfl⟩:=List.mem_map.1 hc;have:=(hw.2 x hx).2.1;simp at h3;omega
 have h3:clausesB q.whs (widthN ts q.src.xs)=true:=by
  unfold clausesB QueryV.whs;rw[List.all_map,List.all_eq_true];intro x hx;have:=hw.2 x hx;simp only[Function.comp];unfold clauseB;rw[Bool.and_eq_true,decide_eq_true_eq,List.all_eq_true];exact⟨this.1,this.2.2⟩
 rw[if_neg h1,if_neg h2,if_pos ⟨hs.1,by omega,h3,hr⟩]
theorem case_check {ts:List TableD} {q:QueryV} {db:List RowsV} (h:CaseOk ts q db):q.check ts=0:=by
 have hcat:=cat_of_tabs h.tabs.1 h.tabs.2.1 h.tabs.2.2;have hs:=h.qry.src;have hw:=h.qry.wh;rcases h.qry.out with⟨g,l0,k1,k2,k3,s1,s2,o1,o2,o3⟩ | ⟨g,k0,s0,l1,l2,l3,o1,o2,o3⟩
 ·refine check_zero hcat ⟨hs.1,hs.2.1,by omega⟩ ⟨by omega,hw.2⟩ ⟨by rw[l0]; exact Nat.zero_le _,by omega,by omega,by omega⟩ ?_;unfold restB outN;rw[g,l0,k2,k3,s2,o3,if_pos rfl,o2];rfl
 ·refine check_zero hcat ⟨hs.1,hs.2.1,by omega⟩ ⟨by omega,hw.2⟩ ⟨by omega,by rw[k0]; exact Nat.zero_le _,by rw[s0]; exact Nat.zero_le _,by omega⟩ ?_;unfold restB outN;rw[g,k0,s0,l3,o3,if_neg (by simp),o2,decide_eq_false (show ¬ q.sel.xs.length=0 by omega)];rfl
theorem case_tidy {ts:List TableD} {q:QueryV} {db:List RowsV} {n:Nat} {S:World} (h:CaseOk ts q db) (hl:ListsIn n q S):QTidy q:=by
 have hs:=h.qry.src;have hw:=h.qry.wh;have hb:q.keys.xs.length<=4/\q.sums.xs.length<=4/\q.sel.xs.length<=4/\q.ord.xs.length<=4:=by
  rcases h.qry.out with⟨g,l0,k1,k2,k3,s1,s2,o1,o2,o3⟩ | ⟨g,k0,s0,l1,l2,l3,o1,o2,o3⟩
  ·exact⟨by omega,by omega,by rw[l0]; exact Nat.zero_le _,by omega⟩
  ·exact⟨by rw[k0]; exact Nat.zero_le _,by rw[s0]; exact Nat.zero_le _,by omega,by omega⟩
 refine⟨⟨hl.src.1.2.2,by omega⟩,⟨hl.nil,by omega⟩,fun i hi=>?_,⟨hl.keys.1.2.2,by omega⟩,⟨hl.sums.1.2.2,by omega⟩,⟨hl.sel.1.2.2,by omega⟩,⟨hl.ord.1.2.2,by omega⟩⟩;have hm:q.wh.getD i lz∈q.wh:=by
  rw[List.getD_eq_getElem?_getD,List.getElem?_eq_getElem hi];exact List.getElem_mem hi
 have hc:=hw.2 _ hm;refine⟨fun e=>?_,by have:=hc.2.1; omega⟩;obtain⟨b,off,e2,_⟩:=(hl.wh.1.2.2 i hi).2 0 (by have:=hc.1; omega);rw[e] at e2
 cases e2
end Go.Scout
