import Derived.Deep.RegionHeld3
import Derived.Deep.RegionLaw
import Derived.Deep.AppendLies
import Derived.Deep.DrawnRows
import Derived.Test.YtlpbelhfpoilpabGreatDoorC13
import Derived.Test.YtlpbelhfpoilpabGreatDoorC35
set_option linter.all false
set_option maxRecDepth 100000
set_option maxHeartbeats 16000000
namespace Go.Scout
open Go.RowKit
theorem catB_len {ts:List TableD} (h:catB ts=true):1<=ts.length/\ts.length<=8:=by
 unfold catB at h;simp only[Bool.and_eq_true,decide_eq_true_eq] at h;exact h.1
theorem widthN_pos {ts:List TableD} {xs:List Int} (hc:catB ts=true) (ha:allB xs ts.length=true) (h1:1<=xs.length) (h5:xs.length<=5):1<=widthN ts xs/\widthN ts xs<=20:=by
 have hcol:∀ t∈xs,1<=(ts.getD t.toNat tz).cols/\(ts.getD t.toNat tz).cols<=4:=fun t ht=>by
  unfold allB at ha;rw[List.all_eq_true] at ha;have:=ha t ht;simp only[Bool.and_eq_true,decide_eq_true_eq] at this;exact cols_of hc (i:=t.toNat) (by omega)
 have hg:∀ l:List Int,(∀ t∈l,1<=(ts.getD t.toNat tz).cols/\(ts.getD t.toNat tz).cols<=4)->(l.length:Int)<=widthN ts l/\widthN ts l<=4*l.length:=by
  intro l
  induction l with
  | nil => intro _; simp[widthN]
  | cons a l ih =>
   intro h;have h1:=ih (fun t ht=>h t (by simp[ht]));have h2:=h a (by simp);have h3:widthN ts (a::l)=(ts.getD a.toNat tz).cols+widthN ts l:=by simp[widthN]
   rw[h3,List.length_cons];omega
 have:=hg xs hcol;omega
def vzI:IntsV:=⟨none,0,[]⟩
def qz:QueryV:=⟨vzI,none,0,[],false,vzI,vzI,vzI,vzI⟩
structure Growing (mb qb:Nat) (lo:Option Addr) (lc:Nat) (l:List Int) (e tq:TypeId) (W0:World) (c:Value->Array Value) (W:World) (v:Value) (xs:List Int):Prop where
 gb:GB W qb tq (c v)
 own:W.ownsRow W0.heap.size e 1 v xs.length (xs.map (Value.int .i64))
 mkr:MakerAt mb lo lc l W
 kept:Kept (fun b=>b≠mb/\b≠qb) W0 W
theorem Growing.keep {mb qb:Nat} {lo:Option Addr} {lc:Nat} {l:List Int} {e tq:TypeId} {W0:World} {c:Value->Array Value} {A B:World} {v:Value} {xs:List Int} (h:Growing mb qb lo lc l e tq W0 c A v xs) (hk:Kept (fun b=>b≠mb) A B) (hm:MakerAt mb lo lc l B)
  (hq:qb≠mb) (hmb:mb<W0.heap.size):Growing mb qb lo lc l e tq W0 c B v xs:=
 ⟨h.gb.keep hk hq,ownsRow_keep h.own hk (fun g hg=>by have:=(ownsRow_lt h.own hg).1; omega),hm,h.kept.trans (hk.mono fun b _ h=>h.1)⟩
theorem Growing.more {mb qb:Nat} {lo:Option Addr} {lc:Nat} {l:List Int} {e tq:TypeId} {W0:World} {c:Value->Array Value} {A A1 B:World} {v v':Value} {xs:List Int} (h:Growing mb qb lo lc l e tq W0 c A v xs) {f:Nat} {p:Int}
  (ha:Kept (fun _=>True) A A1) (hown:B.ownsRow W0.heap.size e 1 v' (xs.length+1) (xs.map (Value.int .i64)++[.int .i64 p])) (hg:A1.grownBy B v.ownBlock) (hc:(c v).setIfInBounds f v' = c v')
  (hq:qb≠mb) (hmb:mb<W0.heap.size) (hqb:qb<W0.heap.size) (hlo:∀ a,lo=some a->a.block<W0.heap.size/\a.block≠qb) :
  Growing mb qb lo lc l e tq W0 c (B.setCell (aD qb f) v') v' (xs++[p]):=by
 have hvb:∀ g,v.ownBlock=some g->W0.heap.size<=g:=fun g hg=>(ownsRow_lt h.own hg).1
 have hvb':∀ g,v'.ownBlock=some g->W0.heap.size<=g:=fun g hg=>(ownsRow_lt hown hg).1
 have hk1:Kept (fun b=>v.ownBlock≠some b) A B:=(ha.mono fun _ _ _=>trivial).trans (Kept.grown hg (fun r e hr=>hr e));have hk2:Kept (fun b=>v.ownBlock≠some b/\b≠qb) A (B.setCell (aD qb f) v'):=(hk1.mono fun _ _ h=>h.1).trans (Kept.setCell _ _ _ (fun h=>h.2 rfl));refine⟨?_,?_,?_,?_⟩
 ·have hgB:GB B qb tq (c v):=h.gb.keep hk1 (fun e=>by have:=hvb _ e; omega);have:=hgB.set f v'
  rwa [hc] at this
 ·have:=ownsRow_keep hown (s:=fun b=>b≠qb) (Kept.setCell B (aD qb f) v' (fun h=>h rfl)) (fun g hg=>by have:=hvb' g hg; omega)
  simpa using this
 ·exact h.mkr.keepN hk2 ⟨fun e=>by have:=hvb _ e; omega,Ne.symm hq⟩ (fun a ha=>⟨fun e=>by have:=hvb _ e; have:=(hlo a ha).1; omega,(hlo a ha).2⟩)
 ·exact ((h.kept.mono (t:=fun b=>(b≠mb/\b≠qb)/\b<W0.heap.size) (fun b _ h=>h.1)).trans (hk2.mono fun b _ h=>⟨fun e=>by have:=hvb _ e; have:=h.2; omega,h.1.2⟩)).mono (fun b hb h=>⟨h,hb⟩)
theorem Growing.far {mb qb:Nat} {lo:Option Addr} {lc:Nat} {l:List Int} {e tq:TypeId} {W0:World} {c:Value->Array Value} {A A1 B:World} {v:Value} {xs:List Int} (h:Growing mb qb lo lc l e tq W0 c A v xs)
  (ha:Kept (fun _=>True) A A1) (hg:A1.grownBy B v.ownBlock):Kept (fun b=>b<W0.heap.size) A B:=
 (ha.mono fun _ _ _=>trivial).trans (Kept.grown hg (fun r e hr=>by have:=(ownsRow_lt h.own e).1; omega))
theorem TablesAt.keep {A B:World} {ao:Option Addr} {ts:List TableD} (h:TablesAt A ao ts) (hb:∀ a,ao=some a->a.block<A.heap.size->B.heap[a.block]? = A.heap[a.block]?):TablesAt B ao ts:=by
 refine⟨h.1,fun i hi=>?_⟩;obtain⟨b,off,rfl,h0,h1,h2,h3,h4,h5⟩:=h.2 i hi;have hl:b<A.heap.size:=cell_lt (p:=(aD b (off+i*6))) h0;have hbk:=hb (aD b off) rfl hl;exact⟨b,off,rfl,(World.cell?_of_block (a:=(aD b (off+i*6))) hbk).trans h0,(World.cell?_of_block (a:=(aD b (off+i*6+1))) hbk).trans h1,(World.cell?_of_block (a:=(aD b (off+i*6+2))) hbk).trans h2,
  (World.cell?_of_block (a:=(aD b (off+i*6+3))) hbk).trans h3,(World.cell?_of_block (a:=(aD b (off+i*6+4))) hbk).trans h4,(World.cell?_of_block (a:=(aD b (off+i*6+5))) hbk).trans h5⟩
theorem CondsAt.keep {A B:World} {ao:Option Addr} {cs:List CondD} (h:CondsAt A ao cs) (hb:∀ a,ao=some a->a.block<A.heap.size->B.heap[a.block]? = A.heap[a.block]?):CondsAt B ao cs:=by
 refine⟨h.1,fun i hi=>?_⟩;obtain⟨b,off,rfl,h0,h1,h2,h3,h4⟩:=h.2 i hi;have hl:b<A.heap.size:=cell_lt (p:=(aD b (off+i*5))) h0;have hbk:=hb (aD b off) rfl hl;exact⟨b,off,rfl,(World.cell?_of_block (a:=(aD b (off+i*5))) hbk).trans h0,(World.cell?_of_block (a:=(aD b (off+i*5+1))) hbk).trans h1,(World.cell?_of_block (a:=(aD b (off+i*5+2))) hbk).trans h2,
  (World.cell?_of_block (a:=(aD b (off+i*5+3))) hbk).trans h3,(World.cell?_of_block (a:=(aD b (off+i*5+4))) hbk).trans h4⟩
def ListIn (n:Nat) (x:IntsV) (S:World):Prop:=rowEl.At x S/\(∀ b,rowEl.blk x=some b->n<=b)/\x.xs.length<=x.cap
theorem ListIn.keep {n:Nat} {x:IntsV} {A B:World} {s:Nat->Prop} (h:ListIn n x A) (hk:Kept s A B) (hs:∀ b,n<=b->s b):ListIn n x B:=
 ⟨rowEl.keep h.1 hk.size (fun b hb hx=>hk.block b hb (hs b (h.2.1 b hx))),h.2.1,h.2.2⟩
theorem ListIn.nil (n:Nat) (S:World):ListIn n vzI S:=
 ⟨⟨⟨by simp[vzI],fun i hi=>absurd hi (by simp[vzI])⟩,(fun a ha=>by cases ha),fun _=>rfl⟩,(fun b hb=>by cases hb),by simp[vzI]⟩
theorem listIn_of_own {w:World} {base n:Nat} {e:TypeId} {v:Value} {k:Nat} {xs:List Int} (h:w.ownsRow base e 1 v k (xs.map (Value.int .i64))) (hl:xs.length<=1000) (hb:n<=base):∃ iv:IntsV,v=iv.val/\iv.xs=xs/\ListIn n iv w:=by
 obtain⟨iv,hv,hx,hat,hbb⟩:=rowEl_of_own h (by omega);refine⟨iv,hv,hx,hat,fun b hb'=>Nat.le_trans hb (hbb b hb'),?_⟩;have hn:xs.length=k:=by have:=h.1; simpa using this
 rcases h.2 with⟨hv',h0⟩ | ⟨g,cap,cur,hv',_,_,hc,_⟩
 ·rw[hx]; omega
 ·rw[hv] at hv';unfold IntsV.val at hv';injection hv' with h1 h2 h3;omega
def WhereIn (n:Nat) (ad:Option Addr) (ls:List ClauseV) (S:World):Prop:=
 ClausesAt S ad ls/\(∀ a,ad=some a->n<=a.block)/\∀ i,i<ls.length->∀ a,(ls.getD i lz).ad=some a->n<=a.block
theorem WhereIn.keep {n:Nat} {ad:Option Addr} {ls:List ClauseV} {A B:World} {s:Nat->Prop} (h:WhereIn n ad ls A) (hk:Kept s A B) (hs:∀ b,n<=b->s b):WhereIn n ad ls B:=
 ⟨⟨h.1.1,h.1.2.1.keep fun a ha hlt=>hk.block _ hlt (hs _ (h.2.1 a ha)),fun i hi=>(h.1.2.2 i hi).keep fun a ha hlt=>hk.block _ hlt (hs _ (h.2.2 i hi a ha))⟩,h.2.1,h.2.2⟩
structure ListsIn (n:Nat) (q:QueryV) (S:World):Prop where
 src:ListIn n q.src S
 wh:WhereIn n q.wad q.wh S
 keys:ListIn n q.keys S
 sums:ListIn n q.sums S
 sel:ListIn n q.sel S
 ord:ListIn n q.ord S
 nil:q.wad=none->q.wcap=0
theorem ListsIn.keep {n:Nat} {q:QueryV} {A B:World} {s:Nat->Prop} (h:ListsIn n q A) (hk:Kept s A B) (hs:∀ b,n<=b->s b):ListsIn n q B:=
 ⟨h.src.keep hk hs,h.wh.keep hk hs,h.keys.keep hk hs,h.sums.keep hk hs,h.sel.keep hk hs,h.ord.keep hk hs,h.nil⟩
theorem ListIn.lower {n m:Nat} {x:IntsV} {S:World} (h:ListIn n x S) (hm:m<=n):ListIn m x S:=⟨h.1,fun b hb=>Nat.le_trans hm (h.2.1 b hb),h.2.2⟩
theorem ListsIn.lower {n m:Nat} {q:QueryV} {S:World} (h:ListsIn n q S) (hm:m<=n):ListsIn m q S:=
 ⟨h.src.lower hm,⟨h.wh.1,fun a ha=>Nat.le_trans hm (h.wh.2.1 a ha),fun i hi a ha=>Nat.le_trans hm (h.wh.2.2 i hi a ha)⟩,h.keys.lower hm,h.sums.lower hm,h.sel.lower hm,h.ord.lower hm,h.nil⟩
theorem ListsIn.at' {n:Nat} {q:QueryV} {S:World} (h:ListsIn n q S):q.At S:=⟨h.src.1.1,h.wh.1,h.keys.1.1,h.sums.1.1,h.sel.1.1,h.ord.1.1⟩
structure Wheres (mb qb:Nat) (lo:Option Addr) (lc:Nat) (l:List Int) (e tq:TypeId) (W0:World) (c:Value->Array Value) (W:World) (v:Value) (ls:List ClauseV):Prop where
 gb:GB W qb tq (c v)
 own:W.ownsRow W0.heap.size e 1 v ls.length (ls.map ClauseV.val)
 cnd:∀ x∈ls,CondsAt W x.ad x.cs/\∀ a,x.ad=some a->W0.heap.size<=a.block/\a.block<W.heap.size/\v.ownBlock≠some a.block
 mkr:MakerAt mb lo lc l W
 kept:Kept (fun b=>b≠mb/\b≠qb) W0 W
theorem Wheres.keep {mb qb:Nat} {lo:Option Addr} {lc:Nat} {l:List Int} {e tq:TypeId} {W0:World} {c:Value->Array Value} {A B:World} {v:Value} {ls:List ClauseV} (h:Wheres mb qb lo lc l e tq W0 c A v ls) (hk:Kept (fun b=>b≠mb) A B) (hm:MakerAt mb lo lc l B)
  (hq:qb≠mb) (hmb:mb<W0.heap.size):Wheres mb qb lo lc l e tq W0 c B v ls:=
 ⟨h.gb.keep hk hq,ownsRow_keep h.own hk (fun g hg=>by have:=(ownsRow_lt h.own hg).1; omega),fun x hx=>⟨(h.cnd x hx).1.keep (fun a ha hlt=>hk.block _ hlt (by have:=((h.cnd x hx).2 a ha).1; omega)),fun a ha=>⟨((h.cnd x hx).2 a ha).1,by have:=((h.cnd x hx).2 a ha).2.1; have:=hk.size; omega,((h.cnd x hx).2 a ha).2.2⟩⟩,hm,h.kept.trans (hk.mono fun b _ h=>h.1)⟩
theorem Wheres.more {mb qb:Nat} {lo:Option Addr} {lc:Nat} {l:List Int} {e tq:TypeId} {W0:World} {c:Value->Array Value} {A A1 B:World} {v v':Value} {ls:List ClauseV} (h:Wheres mb qb lo lc l e tq W0 c A v ls) {f:Nat} {x:ClauseV}
  (hx:CondsAt A x.ad x.cs) (hxb:∀ a,x.ad=some a->W0.heap.size<=a.block/\a.block<A.heap.size/\v.ownBlock≠some a.block)
  (ha:Kept (fun _=>True) A A1) (hs1:A1.heap.size=A.heap.size+1) (hown:B.ownsRow W0.heap.size e 1 v' (ls.length+1) (ls.map ClauseV.val++[x.val])) (hg:A1.grownBy B v.ownBlock) (hat:v'.ownBlock=v.ownBlock∨v'.ownBlock=some A1.heap.size) (hc:(c v).setIfInBounds f v' = c v')
  (hq:qb≠mb) (hmb:mb<W0.heap.size) (hqb:qb<W0.heap.size) (hlo:∀ a,lo=some a->a.block<W0.heap.size/\a.block≠qb) :
  Wheres mb qb lo lc l e tq W0 c (B.setCell (aD qb f) v') v' (ls++[x]):=by
 have hvb:∀ g,v.ownBlock=some g->W0.heap.size<=g:=fun g hg=>(ownsRow_lt h.own hg).1
 have hvb':∀ g,v'.ownBlock=some g->W0.heap.size<=g:=fun g hg=>(ownsRow_lt hown hg).1
 have hk1:Kept (fun b=>v.ownBlock≠some b) A B:=(ha.mono fun _ _ _=>trivial).trans (Kept.grown hg (fun r e hr=>hr e));have hk2:Kept (fun b=>v.ownBlock≠some b/\b≠qb) A (B.setCell (aD qb f) v'):=(hk1.mono fun _ _ h=>h.1).trans (Kept.setCell _ _ _ (fun h=>h.2 rfl));have hnew:∀ b,b<A.heap.size->v.ownBlock≠some b->v'.ownBlock≠some b:=fun b hb hn e=>by
  rcases hat with h | h
  ·exact hn (h ▸ e)
  ·rw[h] at e; cases e; omega
 have hone:∀ y:ClauseV,CondsAt A y.ad y.cs->(∀ a,y.ad=some a->W0.heap.size<=a.block/\a.block<A.heap.size/\v.ownBlock≠some a.block)->CondsAt (B.setCell (aD qb f) v') y.ad y.cs/\∀ a,y.ad=some a->W0.heap.size<=a.block/\a.block<(B.setCell (aD qb f) v').heap.size/\v'.ownBlock≠some a.block:=fun y hy hyb=>
  ⟨hy.keep (fun a ha hlt=>hk2.block _ hlt ⟨(hyb a ha).2.2,by have:=(hyb a ha).1; omega⟩),fun a ha=>⟨(hyb a ha).1,by have:=(hyb a ha).2.1; have:=hk2.size; omega,hnew _ (hyb a ha).2.1 (hyb a ha).2.2⟩⟩
 refine⟨?_,?_,?_,?_,?_⟩
 ·have hgB:GB B qb tq (c v):=h.gb.keep hk1 (fun e=>by have:=hvb _ e; omega);have:=hgB.set f v'
  rwa [hc] at this
 ·have:=ownsRow_keep hown (s:=fun b=>b≠qb) (Kept.setCell B (aD qb f) v' (fun h=>h rfl)) (fun g hg=>by have:=hvb' g hg; omega)
  simpa using this
 ·intro y hy;rcases List.mem_append.1 hy with hy | hy
  ·exact hone y (h.cnd y hy).1 (h.cnd y hy).2
  ·rw[List.mem_singleton] at hy;subst hy;exact hone y hx hxb
 ·exact h.mkr.keepN hk2 ⟨fun e=>by have:=hvb _ e; omega,Ne.symm hq⟩ (fun a ha=>⟨fun e=>by have:=hvb _ e; have:=(hlo a ha).1; omega,(hlo a ha).2⟩)
 ·exact ((h.kept.mono (t:=fun b=>(b≠mb/\b≠qb)/\b<W0.heap.size) (fun b _ h=>h.1)).trans (hk2.mono fun b _ h=>⟨fun e=>by have:=hvb _ e; have:=h.2; omega,h.1.2⟩)).mono (fun b hb h=>⟨h,hb⟩)
theorem Wheres.far {mb qb:Nat} {lo:Option Addr} {lc:Nat} {l:List Int} {e tq:TypeId} {W0:World} {c:Value->Array Value} {A A1 B:World} {v:Value} {ls:List ClauseV} (h:Wheres mb qb lo lc l e tq W0 c A v ls)
  (ha:Kept (fun _=>True) A A1) (hg:A1.grownBy B v.ownBlock):Kept (fun b=>b<W0.heap.size) A B:=
 (ha.mono fun _ _ _=>trivial).trans (Kept.grown hg (fun r e hr=>by have:=(ownsRow_lt h.own e).1; omega))
theorem own_of_cond (w:World) (c:CondD) (e:TypeId):(w.alloc (.cells c.arr e)).ownsRow w.heap.size e 5 (.slice (some (aD w.heap.size 0)) 1 1) 1 ([c].flatMap CondD.vals):=
 ⟨rfl,.inr ⟨w.heap.size,1,_,rfl,Nat.le_refl _,bQ3 w _,Nat.le_refl _,by unfold maxLen; omega,rfl,rfl⟩⟩
def ClauseOk (n:Int) (x:ClauseV):Prop:=1<=x.cs.length/\x.cs.length<=3/\∀ c∈x.cs,condB c n=true
structure QueryOk (ts:List TableD) (q:QueryV):Prop where
 src:allB q.src.xs ts.length=true/\1<=q.src.xs.length/\q.src.xs.length<=4
 wh:q.wh.length<=4/\∀ x∈q.wh,ClauseOk (widthN ts q.src.xs) x
 out:(q.group=true/\q.sel.xs=[]/\q.keys.xs.length<=3/\allB q.keys.xs (widthN ts q.src.xs)=true/\apartB q.keys.xs=true/\q.sums.xs.length<=2/\allB q.sums.xs (widthN ts q.src.xs)=true/\q.ord.xs.length<=2/\allB q.ord.xs ((q.keys.xs.length:Int)+1+q.sums.xs.length)=true/\apartB q.ord.xs=true)∨
  (q.group=false/\q.keys.xs=[]/\q.sums.xs=[]/\1<=q.sel.xs.length/\q.sel.xs.length<=4/\allB q.sel.xs (widthN ts q.src.xs)=true/\q.ord.xs.length<=3/\allB q.ord.xs q.sel.xs.length=true/\apartB q.ord.xs=true)
theorem Wheres.isIn {mb qb:Nat} {lo:Option Addr} {lc:Nat} {l:List Int} {e tq:TypeId} {W0:World} {c:Value->Array Value} {W:World} {v:Value} {ls:List ClauseV} (h:Wheres mb qb lo lc l e tq W0 c W v ls) (hl:ls.length<=100) {n:Nat} (hn:n<=W0.heap.size) :
  ∃ ad cap,v=.slice ad ls.length cap/\WhereIn n ad ls W/\(ad=none->cap=0):=by
 have hmem:∀ i,i<ls.length->ls.getD i lz∈ls:=fun i hi=>by simp[List.getD,hi]
 rcases h.own.2 with⟨rfl,h0⟩ | ⟨g,cap,cur,rfl,hb,hh,hc,_,hcs,ht⟩
 ·have:ls=[]:=List.eq_nil_of_length_eq_zero h0;subst this;exact⟨none,0,rfl,⟨⟨by simp,fun i hi=>absurd hi (by simp),fun i hi=>absurd hi (by simp)⟩,(fun a ha=>by cases ha),fun i hi=>absurd hi (by simp)⟩,fun _=>rfl⟩
 ·refine⟨some (aD g 0),cap,rfl,⟨⟨by omega,fun i hi=>⟨g,0,rfl,?_⟩,fun i hi=>(h.cnd _ (hmem i hi)).1⟩,(fun a ha=>by cases ha; exact Nat.le_trans hn hb),fun i hi a ha=>Nat.le_trans hn ((h.cnd _ (hmem i hi)).2 a ha).1⟩,fun e=>by cases e⟩;have h2:(cur.toList.take (ls.length*1))[i]? = some (ls.getD i lz).val:=by
   rw[ht];simp[List.getD,hi]
  have h3:cur[i]? = some (ls.getD i lz).val:=by
   rw[List.getElem?_take] at h2;split at h2
   ·simpa using h2
   ·cases h2
  simp only[World.cell?,hh]
  simpa using h3
end Go.Scout
