import Derived.Test.YtlpbelhfpoilpaaGreatDoorRE08
set_option linter.all false
set_option maxRecDepth 100000
set_option maxHeartbeats 16000000
namespace Go.Proofs.Zz
open Go.RowKit Go.Shelf
variable {lc mb qb:Nat} {lo:Option Addr} {l:List Int} {e tq:TypeId} {A A1 B W0:World} {c:Value->Array Value} {v:Value} {ls:List aH}
structure kL(mb qb:Nat)(lo:Option Addr)(lc:Nat)(l:List Int)(e tq:TypeId)(W0:World)(c:Value->Array Value)(W:World)(v:Value)(ls:List aH):Prop where
 gb:GB W qb tq (c v)
 own:W.ownsRow W0.heap.size e 1 v ls.length (ls.map aH.val)
 cnd:∀ x∈ls,bH W x.ad x.cs/\∀ a,x.ad=some a->W0.heap.size<=a.block/\a.block<W.heap.size/\v.ownBlock≠some a.block
 IQ:aL mb lo lc l W
 kept:Kept (fun b=>b≠mb/\b≠qb) W0 W
theorem kL.keep{mb qb:Nat}{lo:Option Addr}{lc:Nat}{l:List Int}{e tq:TypeId}{W0:World}{c:Value->Array Value}{A B:World}{v:Value}{ls:List aH}(h:kL mb qb lo lc l e tq W0 c A v ls)(hk:Kept (fun b=>b≠mb) A B)(hm:aL mb lo lc l B)
  (hq:qb≠mb) (hmb:mb<W0.heap.size):kL mb qb lo lc l e tq W0 c B v ls:=
 ⟨h.gb.keep hk hq,ZN h.own hk (fun g hg=>by have:=(ZO h.own hg).1; omega),fun x hx=>⟨(h.cnd x hx).1.keep (fun a ha hlt=>hk.block _ hlt (by have:=((h.cnd x hx).2 a ha).1; omega)),fun a ha=>⟨((h.cnd x hx).2 a ha).1,by have:=((h.cnd x hx).2 a ha).2.1; have:=hk.size; omega,((h.cnd x hx).2 a ha).2.2⟩⟩,hm,h.kept.trans (hk.mono fun b _ h=>h.1)⟩
theorem kL.more{v':Value}(h:kL mb qb lo lc l e tq W0 c A v ls){f:Nat}{x:aH}
  (hx:bH A x.ad x.cs) (hxb:∀ a,x.ad=some a->W0.heap.size<=a.block/\a.block<A.heap.size/\v.ownBlock≠some a.block)
  (ha:Kept (fun _=>True) A A1) (hs1:A1.heap.size=A.heap.size+1) (hown:B.ownsRow W0.heap.size e 1 v' (ls.length+1) (ls.map aH.val++[x.val])) (hg:A1.grownBy B v.ownBlock) (hat:v'.ownBlock=v.ownBlock∨v'.ownBlock=some A1.heap.size) (hc:(c v).setIfInBounds f v' = c v')
  (hq:qb≠mb) (hmb:mb<W0.heap.size) (hqb:qb<W0.heap.size) (hlo:∀ a,lo=some a->a.block<W0.heap.size/\a.block≠qb) :
  kL mb qb lo lc l e tq W0 c (B.setCell (aD qb f) v') v' (ls++[x]):=by
 have hvb:∀ g,v.ownBlock=some g->W0.heap.size<=g:=fun g hg=>(ZO h.own hg).1
 have JI:∀ g,v'.ownBlock=some g->W0.heap.size<=g:=fun g hg=>(ZO hown hg).1
 have hk1:Kept (fun b=>v.ownBlock≠some b) A B:=(ha.mono fun _ _ _=>trivial).trans (ZM hg (fun r e hr=>hr e));have hk2:Kept (fun b=>v.ownBlock≠some b/\b≠qb) A (B.setCell (aD qb f) v'):=(hk1.mono fun _ _ h=>h.1).trans (ZL _ _ _ (fun h=>h.2 rfl));have hnew:∀ b,b<A.heap.size->v.ownBlock≠some b->v'.ownBlock≠some b:=fun b hb hn e=>by
  rcases hat with h | h
  ·exact hn (h ▸ e)
  ·rw[h]at e; cases e; omega
 have hone:∀ y:aH,bH A y.ad y.cs->(∀ a,y.ad=some a->W0.heap.size<=a.block/\a.block<A.heap.size/\v.ownBlock≠some a.block)->bH (B.setCell (aD qb f) v') y.ad y.cs/\∀ a,y.ad=some a->W0.heap.size<=a.block/\a.block<(B.setCell (aD qb f) v').heap.size/\v'.ownBlock≠some a.block:=fun y hy hyb=>
  ⟨hy.keep (fun a ha hlt=>hk2.block _ hlt ⟨(hyb a ha).2.2,by have:=(hyb a ha).1; omega⟩),fun a ha=>⟨(hyb a ha).1,by have:=(hyb a ha).2.1; have:=hk2.size; omega,hnew _ (hyb a ha).2.1 (hyb a ha).2.2⟩⟩
 refine⟨?_,?_,?_,?_,?_⟩
 ·have hgB:=h.gb.keep hk1 (fun e=>by have:=hvb _ e; omega);have:=hgB.set f v'
  rwa [hc]at this
 ·have:=ZN hown (s:=fun b=>b≠qb) (ZL B (aD qb f) v' (fun h=>h rfl)) (fun g hg=>by have:=JI g hg; omega)
  simpa using this
 ·intro y hy;rcases ZT.1 hy with hy | hy
  ·exact hone y (h.cnd y hy).1 (h.cnd y hy).2
  ·rw[ZR]at hy;subst hy;exact hone y hx hxb
 ·exact h.IQ.fG hk2 ⟨fun e=>by have:=hvb _ e; omega,Ne.symm hq⟩ (fun a ha=>⟨fun e=>by have:=hvb _ e; have:=(hlo a ha).1; omega,(hlo a ha).2⟩)
 ·exact((h.kept.mono (t:=fun b=>(b≠mb/\b≠qb)/\b<W0.heap.size) (fun b _ h=>h.1)).trans (hk2.mono fun b _ h=>⟨fun e=>by have:=hvb _ e; have:=h.2; omega,h.1.2⟩)).mono (fun b hb h=>⟨h,hb⟩)
theorem kL.far(h:kL mb qb lo lc l e tq W0 c A v ls)
  (ha:Kept (fun _=>True) A A1) (hg:A1.grownBy B v.ownBlock):Kept (fun b=>b<W0.heap.size) A B:=
 (ha.mono fun _ _ _=>trivial).trans (ZM hg (fun r e hr=>by have:=(ZO h.own e).1; omega))
theorem LA(w:World)(c:aC)(e:TypeId):(w.alloc (.cells c.arr e)).ownsRow w.heap.size e 5 (.slice (some (aD w.heap.size 0)) 1 1) 1 ([c].flatMap aC.vals):=
 ⟨rfl,.inr ⟨w.heap.size,1,_,rfl,Qx _,l6 w _,Qx _,by unfold maxLen; omega,rfl,rfl⟩⟩
def yC(n:Int)(x:aH):Prop:=1<=x.cs.length/\x.cs.length<=3/\∀ c∈x.cs,fu c n=true
structure Bh(ts:List af)(q:ae):Prop where
 src:bN q.src.xs ts.length=true/\1<=q.src.xs.length/\q.src.xs.length<=4
 wh:q.wh.length<=4/\∀ x∈q.wh,yC (aJ ts q.src.xs) x
 out:(q.group=true/\q.aV.xs=[]/\q.keys.xs.length<=3/\bN q.keys.xs (aJ ts q.src.xs)=true/\di q.keys.xs=true/\q.sums.xs.length<=2/\bN q.sums.xs (aJ ts q.src.xs)=true/\q.ord.xs.length<=2/\bN q.ord.xs ((q.keys.xs.length:Int)+1+q.sums.xs.length)=true/\di q.ord.xs=true)∨
  (q.group=false/\q.keys.xs=[]/\q.sums.xs=[]/\1<=q.aV.xs.length/\q.aV.xs.length<=4/\bN q.aV.xs (aJ ts q.src.xs)=true/\q.ord.xs.length<=3/\bN q.ord.xs q.aV.xs.length=true/\di q.ord.xs=true)
theorem kL.asM{W:World}(h:kL mb qb lo lc l e tq W0 c W v ls)(hl:ls.length<=100){n:Nat}(hn:n<=W0.heap.size) :
  ∃ ad cap,v=.slice ad ls.length cap/\yB n ad ls W/\(ad=none->cap=0):=by
 have hmem:∀ i,i<ls.length->ls.getD i lz∈ls:=fun i hi=>by simp[List.getD,hi]
 rcases h.own.2 with⟨rfl,h0⟩ | ⟨g,cap,cur,rfl,hb,hh,hc,_,hcs,ht⟩
 ·have:=QL h0;subst this;exact⟨none,0,rfl,⟨⟨by simp,fun i hi=>absurd hi (by simp),fun i hi=>absurd hi (by simp)⟩,(fun a ha=>by cases ha),fun i hi=>absurd hi (by simp)⟩,fun _=>rfl⟩
 ·refine⟨some (aD g 0),cap,rfl,⟨⟨by omega,fun i hi=>⟨g,0,rfl,?_⟩,fun i hi=>(h.cnd _ (hmem i hi)).1⟩,(fun a ha=>by cases ha; exact Zl hn hb),fun i hi a ha=>Zl hn ((h.cnd _ (hmem i hi)).2 a ha).1⟩,fun e=>by cases e⟩;have h2:(cur.toList.take (ls.length*1))[i]? = some (ls.getD i lz).val:=by
   rw[ht];simp[List.getD,hi]
  have h3:cur[i]? = some (ls.getD i lz).val:=by
   rw[ZY]at h2;split at h2
   ·simpa using h2
   ·cases h2
  simp only[World.cell?,hh]
  simpa using h3
