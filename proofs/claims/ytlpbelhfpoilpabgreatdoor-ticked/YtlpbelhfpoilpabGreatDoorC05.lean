import Derived.Deep.OwnRows
import Derived.Laws.AppendOwnNone
import Derived.Maps.AppendAt
import Derived.Deep.AppendLies
import Derived.RegionTactic
import Derived.Test.YtlpbelhfpoilpabGreatDoorC03
import Derived.Test.YtlpbelhfpoilpabGreatDoorC04
set_option linter.all false
set_option maxRecDepth 100000
set_option maxHeartbeats 16000000
namespace Go.Scout
open Go.RowKit
def ownEl (e:TypeId):El IntsV (List Int) where
 enc:=IntsV.val
 At x W:=rowEl.At x W/\W.ownsRow 0 e 1 x.val x.xs.length (x.xs.map (Value.int .i64))
 blk:=rowEl.blk
 key:=IntsV.xs
 keep:=by
  rintro x A B ⟨h,ho⟩ hs hb;refine⟨rowEl.keep h hs hb,ho.1,?_⟩;rcases ho.2 with h | ⟨g,cap,cur,hv,hb',hg,h1,h2,h3,h4⟩
  ·exact .inl h
  ·refine .inr ⟨g,cap,cur,hv,hb',(hb g (Array.getElem?_eq_some_iff.1 hg).1 ?_).trans hg,h1,h2,h3,h4⟩;have:x.ad=some (aD g 0):=by
    have h:=hv;unfold IntsV.val at h;injection h
   show Option.map _ x.ad=_
   rw[this];rfl
 inn:=fun h hb=>rowEl.inn h.1 hb
end Go.Scout
namespace Go.Proofs.YtlpbelhfpoilpabGreatDoor
open Go.RowKit Go.Scout
end Go.Proofs.YtlpbelhfpoilpabGreatDoor
namespace Go.Scout
open Go.RowKit
theorem flat_at {α:Type} (f:α->List Value) (s:Nat) (hf:∀ x,(f x).length=s) (z:α):∀ (xs:List α) (rest:List Value) (i j:Nat),i<xs.length->j<s->(xs.flatMap f++rest)[i*s+j]? = (f (xs.getD i z))[j]?
 | [],_,i,_,hi,_ => absurd hi (by simp)
 | x::xs,rest,0,j,_,hj => by
  rw[List.flatMap_cons,List.append_assoc,Nat.zero_mul,Nat.zero_add,List.getElem?_append_left (by rw[hf]; exact hj)];rfl
 | x::xs,rest,i+1,j,hi,hj => by
  have ih:=flat_at f s hf z xs rest i j (by simpa using hi) hj;rw[List.flatMap_cons,List.append_assoc,List.getElem?_append_right (by rw[hf,Nat.add_mul]; omega),hf];rw[show (i+1)*s+j-s=i*s+j by rw[Nat.add_mul]; omega,ih];rfl
def CondD.vals (c:CondD):List Value:=[.bool c.not,.int .i64 c.op,.int .i64 c.left,.bool c.const,.int .i64 c.right]
def zc:List Value:=[.bool false,.int .i64 0,.int .i64 0,.bool false,.int .i64 0]
def ic:List Value:=[.bool false,.int .i64 77777,.int .i64 0,.bool false,.int .i64 0]
def lentConds (cs:List CondD):Array Value:=(cs.flatMap CondD.vals++(ic++ic)).toArray
def it:List Value:=[.int .i64 77777,.int .i64 0,.int .i64 0,.int .i64 0,.int .i64 0,.int .i64 0]
def GB (w:World) (G:Nat) (t:TypeId) (c:Array Value):Prop:=w.heap[G]? = some (.cells c t (0,0))
theorem newB (w:World) (c:Array Value) (t:TypeId):∃ x,w.alloc (.cells c t)=x/\Below w.heap.size w x/\GB x w.heap.size t c:=⟨_,rfl,bQ2 _ _,bQ3 _ _⟩
theorem GB.cell {w:World} {G:Nat} {t:TypeId} {c:Array Value} (h:GB w G t c) (i:Nat):w.cell? (aD G i)=c[i]?:=by
 unfold GB at h;simp[World.cell?,h]
theorem GB.frozen {w:World} {G:Nat} {t:TypeId} {c:Array Value} (h:GB w G t c) (i:Nat):w.frozen? (aD G i)=false:=by
 unfold GB at h;simp[World.frozen?,h]
theorem GB.lt {w:World} {G:Nat} {t:TypeId} {c:Array Value} (h:GB w G t c):G<w.heap.size:=by
 unfold GB at h;exact (Array.getElem?_eq_some_iff.1 h).1
theorem GB.set {w:World} {G:Nat} {t:TypeId} {c:Array Value} (h:GB w G t c) (i:Nat) (v:Value):GB (w.setCell (aD G i) v) G t (c.setIfInBounds i v):=by
 unfold GB at *;rw[setCell_eq_setRow w G i c t (0,0) v h];exact setRow_heap w G c _ t _ h
theorem GB.of {w w':World} {G:Nat} {t:TypeId} {c:Array Value} (h:GB w G t c) (e:w'.heap[G]? = w.heap[G]?):GB w' G t c:=by
 unfold GB at *;rw[e];exact h
theorem heap_setCell {w:World} {a:Addr} {v:Value} {k:Nat} (h:k≠a.block):(w.setCell a v).heap[k]? = w.heap[k]?:=Below.heap_setCell _ _ _ _ h
theorem heap_alloc {w:World} {o:Obj} {k:Nat} (h:k<w.heap.size):(w.alloc o).heap[k]? = w.heap[k]?:=Below.heap_alloc _ _ _ h
structure CState (w00 w0 wr:World) (G tG tC tA tS n:Nat) (gc:Value->Value->Array Value) (ls:List ClauseV) (k:Nat) (v:Value) (A:Nat->Nat):Prop where
 bel:Below w00.heap.size w00 wr
 oth:∀ j,j<w0.heap.size->j≠G->wr.heap[j]? = w0.heap[j]?
 siz:w0.heap.size<wr.heap.size
 g:GB wr G tG (gc (.slice (some (aD w0.heap.size 0)) (n+2) (n+2)) v)
 row:wr.rowIs w0.heap.size tC (n+2) (fun i=>if i<k then .slice (some (aD (A i) 0)) (ls.getD i lz).cs.length ((ls.getD i lz).cs.length+2) else .slice none 0 0)
 al:∀ i,i<k->w0.heap.size<A i/\GB wr (A i) tS (lentConds (ls.getD i lz).cs)
 own:wr.ownsRow w0.heap.size tA 1 v k ((List.range k).map fun i=>.slice (some (aD (A i) 0)) ((ls.getD i lz).cs.length+2) ((ls.getD i lz).cs.length+2))
structure CMid (w00 w0 wr w1:World) (G tG tC tS n:Nat) (gc:Value->Value->Array Value) (ls:List ClauseV) (k:Nat) (v v':Value) (A:Nat->Nat) (cs:List CondD):Prop where
 bel:Below w00.heap.size w00 w1
 oth:∀ j,j<w0.heap.size->j≠G->w1.heap[j]? = w0.heap[j]?
 siz:w0.heap.size<w1.heap.size
 siz':w0.heap.size<wr.heap.size
 g:GB w1 G tG (gc (.slice (some (aD w0.heap.size 0)) (n+2) (n+2)) v)
 row:w1.rowIs w0.heap.size tC (n+2) (fun i=>if i<k then .slice (some (aD (A i) 0)) (ls.getD i lz).cs.length ((ls.getD i lz).cs.length+2) else .slice none 0 0)
 al:∀ i,i<k->w0.heap.size<A i/\GB w1 (A i) tS (lentConds (ls.getD i lz).cs)
 new:GB w1 wr.heap.size tS (lentConds cs)
 sh:∃ g cap,v' = .slice (some (aD g 0)) (k+1) cap
theorem CMid.next {w00 w0 wr w1:World} {G tG tC tA tS n:Nat} {gc:Value->Value->Array Value} {ls:List ClauseV} {k:Nat} {v v':Value} {A:Nat->Nat} {cs:List CondD}
  (M:CMid w00 w0 wr w1 G tG tC tS n gc ls k v v' A cs) (hgc:∀ x y y',(gc x y).setIfInBounds 12 y' = gc x y') (hG:G<w0.heap.size) (hGo:w00.heap.size<=G) (hcs:(ls.getD k lz).cs=cs)
  (hAC:tA≠tC) (_hAS:tA≠tS) (_hAG:tA≠tG)
  (hown:w1.ownsRow w0.heap.size tA 1 v' (k+1) (((List.range k).map fun i=>Value.slice (some (aD (A i) 0)) ((ls.getD i lz).cs.length+2) ((ls.getD i lz).cs.length+2))++[Value.slice (some (aD wr.heap.size 0)) (cs.length+2) (cs.length+2)])) :
  CState w00 w0 ((w1.setCell (aD G 12) v').setCell (aD w0.heap.size k) (.slice (some (aD wr.heap.size 0)) cs.length (cs.length+2))).drew G tG tC tA tS n gc ls (k+1) v' (fun i=>if i=k then wr.heap.size else A i):=by
 have hs':=M.siz';have hs1:=M.siz;have hAne:∀ i,i<k->A i≠wr.heap.size∨True:=fun _ _=>.inr trivial
 have hblk:∀ j,j≠G->j≠w0.heap.size->(((w1.setCell (aD G 12) v').setCell (aD w0.heap.size k) (.slice (some (aD wr.heap.size 0)) cs.length (cs.length+2))).drew).heap[j]? = w1.heap[j]?:=fun j h1 h2=>by
  show ((w1.setCell (aD G 12) v').setCell (aD w0.heap.size k) _).heap[j]? = _
  rw[heap_setCell h2,heap_setCell h1]
 refine⟨?_,fun j hj hne=>?_,?_,?_,?_,fun i hi=>?_,?_⟩
 ·have hb0:=M.bel.size;exact ((M.bel.setCell (p:=(aD G 12)) hGo v').setCell (p:=(aD w0.heap.size k)) (by show w00.heap.size<=w0.heap.size; omega) _).drew
 ·rw[hblk j hne (by omega)];exact M.oth j hj hne
 ·simpa using hs1
 ·have h1:=M.g.set 12 v';rw[hgc] at h1;exact h1.of (by show ((w1.setCell (aD G 12) v').setCell (aD w0.heap.size k) _).heap[G]? = _; rw[heap_setCell (by show G≠w0.heap.size; omega)])
 ·have h1:=(M.row.setOther (a:=(aD G 12)) (by show w0.heap.size≠G; omega) v').set k (.slice (some (aD wr.heap.size 0)) cs.length (cs.length+2));refine (h1.drew).congr fun i hi=>?_
  by_cases hik:i=k
  ·subst hik;simp only[if_true,show i<i+1 by omega];rw[hcs]
  ·simp only[hik,if_false];by_cases h2:i<k
   ·rw[if_pos h2,if_pos (by omega)]
   ·rw[if_neg h2,if_neg (by omega)]
 ·by_cases hik:i=k
  ·subst hik;simp only[if_true];refine⟨hs',?_⟩;rw[hcs];exact M.new.of (hblk _ (by omega) (by omega))
  ·simp only[hik,if_false];have hA:=M.al i (by omega);exact⟨hA.1,hA.2.of (hblk _ (by omega) (by omega))⟩
 ·have e:((List.range (k+1)).map fun i=>Value.slice (some ⟨(fun i=>if i=k then wr.heap.size else A i) i,0,none⟩) ((ls.getD i lz).cs.length+2) ((ls.getD i lz).cs.length+2)) =
    (((List.range k).map fun i=>Value.slice (some (aD (A i) 0)) ((ls.getD i lz).cs.length+2) ((ls.getD i lz).cs.length+2))++[Value.slice (some (aD wr.heap.size 0)) (cs.length+2) (cs.length+2)]):=by
   rw[List.range_succ,List.map_append];congr 1
   ·apply List.map_congr_left;intro i hi;have:i<k:=List.mem_range.1 hi;have hne:¬ i=k:=by omega
    simp[hne]
   ·simp[<- hcs]
  rw[e];have n1:v'.ownBlock≠some G:=fun he=>by have:=hown.lt _ he; omega
  have n2:v'.ownBlock≠some w0.heap.size:=fun he=>by
   obtain⟨c,hc,_⟩:=M.row;rcases hown.2 with⟨rfl,_⟩ | ⟨g,cap,cur,rfl,_,hh,_⟩
   ·simp[Value.ownBlock] at he
   ·simp[Value.ownBlock] at he;subst he;rw[hh] at hc;simp at hc;exact hAC hc.2
  exact (ownsRow_setCell_other (ownsRow_setCell_other hown n1 v') n2 _).drew
theorem Kept.drewN {s:Nat->Prop} (W:World) (n:Nat):Kept s W (W.drewN n):=Kept.of_below (below_drewN (Below.refl W.heap.size W) n) (fun _ hb _=>hb)
theorem GB.alloc (w:World) (c:Array Value) (t:TypeId):GB (w.alloc (.cells c t)) w.heap.size t c:=bQ3 w _
theorem GB.keep {w w':World} {G:Nat} {t:TypeId} {c:Array Value} {s:Nat->Prop} (h:GB w G t c) (hk:Kept s w w') (hs:s G):GB w' G t c:=h.of (hk.block G h.lt hs)
theorem Kept.set_new {s:Nat->Prop} {A B:World} (h:Kept s A B) {G i:Nat} (hG:A.heap.size<=G) (v:Value):Kept s A (B.setCell (aD G i) v):=
 ⟨h.os,h.tape,h.output,by have:=h.size; simp[World.setCell]; omega,fun k hk hs=>(Below.heap_setCell B _ _ k (by show k≠G; omega)).trans (h.block k hk hs)⟩
theorem CState.start {w00 w:World} {G tG tC tA tS n:Nat} {c:Array Value} {gc:Value->Value->Array Value} {ls:List ClauseV}
  (hb:Below w00.heap.size w00 w) (hGo:w00.heap.size<=G) (hG:GB w G tG c) (hgc:c.setIfInBounds 11 (.slice (some (aD w.heap.size 0)) (n+2) (n+2))=gc (.slice (some (aD w.heap.size 0)) (n+2) (n+2)) (.slice none 0 0)) :
  CState w00 w ((w.setCell (aD G 11) (.slice (some (aD w.heap.size 0)) (n+2) (n+2))).alloc (.cells (madeCells #[.slice none 0 0] (n+2)) tC)) G tG tC tA tS n gc ls 0 (.slice none 0 0) (fun _=>0):=by
 have hlt:=hG.lt;have hb1:=hb.setCell (p:=(aD G 11)) hGo (.slice (some (aD w.heap.size 0)) (n+2) (n+2));refine⟨hb1.alloc hb1.size _,fun j hj hne=>?_,by simp,?_,?_,fun i hi=>absurd hi (by omega),World.ownsRow_nil _ _ _ _⟩
 ·rw[heap_alloc (by simpa using hj),heap_setCell hne]
 ·have h1:=hG.set 11 (.slice (some (aD w.heap.size 0)) (n+2) (n+2));rw[hgc] at h1;exact h1.of (heap_alloc (by simpa using hlt))
 ·have h1:=World.rowIs_made (w.setCell (aD G 11) (.slice (some (aD w.heap.size 0)) (n+2) (n+2))) (.slice none 0 0) (n+2) tC;rw[World.size_setCell] at h1;exact h1.congr fun i hi=>by simp
structure Pre (w w2:World) (G tG:Nat) (c:Array Value) (bs:List (Nat × Obj)):Prop where
 bel:Below w.heap.size w w2
 lo:w.heap.size<=G
 g:GB w2 G tG c
 bs:∀ p,p∈bs->p.1≠G/\w.heap.size<=p.1/\w2.heap[p.1]? = some p.2
theorem Pre.store {w w2:World} {G tG:Nat} {c:Array Value} {bs:List (Nat × Obj)} (h:Pre w w2 G tG c bs) (i:Nat) (v:Value):Pre w (w2.setCell (aD G i) v) G tG (c.setIfInBounds i v) bs:=
 ⟨h.bel.setCell (p:=(aD G i)) h.lo v,h.lo,h.g.set i v,fun p hp=>⟨(h.bs p hp).1,(h.bs p hp).2.1,(heap_setCell (h.bs p hp).1).trans (h.bs p hp).2.2⟩⟩
theorem Pre.alloc {w w2:World} {G tG:Nat} {c:Array Value} {bs:List (Nat × Obj)} (h:Pre w w2 G tG c bs) (o:Obj):Pre w (w2.alloc o) G tG c ((w2.heap.size,o)::bs):=by
 have hG:=h.g.lt;refine⟨h.bel.alloc h.bel.size o,h.lo,h.g.of (heap_alloc hG),fun p hp=>?_⟩;rcases List.mem_cons.1 hp with rfl | hp
 ·exact⟨by show w2.heap.size≠G; omega,h.bel.size,bQ3 w2 o⟩
 ·have hb:=h.bs p hp;exact⟨hb.1,hb.2.1,(heap_alloc (Array.getElem?_eq_some_iff.1 hb.2.2).1).trans hb.2.2⟩
theorem Pre.drop {w w2:World} {G tG:Nat} {c:Array Value} {bs bs':List (Nat × Obj)} (h:Pre w w2 G tG c bs) (hs:∀ p,p∈bs'->p∈bs):Pre w w2 G tG c bs':=⟨h.bel,h.lo,h.g,fun p hp=>h.bs p (hs p hp)⟩
theorem Pre.at {w w2:World} {G tG:Nat} {c:Array Value} {bs:List (Nat × Obj)} (h:Pre w w2 G tG c bs) {b t:Nat} {d:Array Value} (hm:(b,Obj.cells d t (0,0))∈bs):GB w2 b t d:=(h.bs _ hm).2.2
theorem Pre.start (w:World) (o:Obj) (c:Array Value) (tG:Nat) (k:Obj):Pre w (((w.alloc o).alloc (.cells c tG)).alloc k) (w.heap.size+1) tG c [(w.heap.size+2,k),(w.heap.size,o)]:=by
 have e1:(w.alloc o).heap.size=w.heap.size+1:=by simp
 have h0:Pre w ((w.alloc o).alloc (.cells c tG)) (w.heap.size+1) tG c [(w.heap.size,o)]:=by
  refine⟨bQ1 (bQ2 _ _) (bQ2 _ _),by omega,?_,fun p hp=>?_⟩
  ·show ((w.alloc o).alloc (.cells c tG)).heap[w.heap.size+1]? = _
   rw[<- e1,bQ3]
  ·rw[List.mem_singleton] at hp;subst hp;exact⟨by show w.heap.size≠w.heap.size+1; omega,Nat.le_refl _,(heap_alloc (by omega)).trans (bQ3 w o)⟩
 have h1:=h0.alloc k;have e2:((w.alloc o).alloc (.cells c tG)).heap.size=w.heap.size+2:=by simp
 rw[e2] at h1;exact h1
theorem ownsRow_move {w w':World} {base base':Nat} {e:TypeId} {size:Nat} {v:Value} {n:Nat} {xs:List Value} (h:w.ownsRow base e size v n xs) (hb:base'<=base) (ho:∀ j,base<=j->j<w.heap.size->w'.heap[j]? = w.heap[j]?):w'.ownsRow base' e size v n xs:=by
 obtain⟨h1,h2⟩:=h;refine⟨h1,?_⟩;rcases h2 with h2 | ⟨g,cap,cur,hv,hg,hh,r⟩
 ·exact Or.inl h2
 ·exact Or.inr ⟨g,cap,cur,hv,Nat.le_trans hb hg,(ho g hg (Array.getElem?_eq_some_iff.1 hh).1).trans hh,r⟩
def nk:List Value:=[.int .i64 77777,.int .i64 0,.int .i64 0,.int .i64 0,.slice none 0 0,.int .i64 0,.slice none 0 0]
theorem getD_memR {α:Type} {l:List α} {d:α} {k:Nat} (hk:k<l.length):l.getD k d∈l:=by
 have e:l.getD k d=l[k]:=by simp[List.getD,hk]
 rw[e];exact List.getElem_mem hk
theorem wpList_append_run {P:Program} {w:World} {ops:Array Oper} {rest:List Oper} {o:Oper} {a:Act} {Q:Exit->Act->World->Prop} (hgd:o.guard=none) (s x:Operand) (t:TypeId)
  (ho:o.op=.call { callee:=.builtin .append,args:=#[s,x],argTypes:=#[t,t] }) (v u v':Value) (w':World) (hs:a.eval s=v) (hx:a.eval x=u)
  (hrun:(Builtin.append_ #[t,t] o.type #[v,u]).run P w=.ok v' w') (h:wpList P ops Q rest (a.put o.dst v') w'):wpList P ops Q (o::rest) a w:=by
 refine wpList_plain hgd fun K hK=>?_
 unfold Oper.wp execOp;simp only[ho,resolve,invoke,builtin,Sem.run_bind,Sem.run_pure,Result.andThen_ok,List.map_toArray,List.map_cons,List.map_nil,hs,hx,hrun];exact hK _ _ h
structure Listed (tI tE:TypeId) (base:Nat) (v:Value) (ys:List IntsV) (W:World):Prop where
 own:W.ownsRow base tI 1 v ys.length (ys.map IntsV.val)
 at':∀ y∈ys,(ownEl tE).At y W
theorem Listed.nil (tI tE:TypeId) (base:Nat) (W:World):Listed tI tE base (.slice none 0 0) [] W:=⟨World.ownsRow_nil _ _ _ _,fun y hy=>by cases hy⟩
theorem Listed.below {tI tE:TypeId} {base:Nat} {v:Value} {ys:List IntsV} {W W':World} (h:Listed tI tE base v ys W) (hb:Below W.heap.size W W'):Listed tI tE base v ys W':=
 ⟨ownsRow_move h.own (Nat.le_refl _) (fun j _ hj=>hb.block j hj),fun y hy=>(ownEl tE).keep (h.at' y hy) hb.size (fun b hb' _=>hb.block b hb')⟩
theorem Listed.lower {tI tE:TypeId} {base base':Nat} {v:Value} {ys:List IntsV} {W:World} (h:Listed tI tE base v ys W) (hb:base'<=base):Listed tI tE base' v ys W:=
 ⟨ownsRow_move h.own hb (fun j _ _=>rfl),h.at'⟩
theorem Listed.rows {tI tE:TypeId} {base:Nat} {v:Value} {ys:List IntsV} {W:World} (h:Listed tI tE base v ys W) (hl:ys.length<=1000000):∃ ao cap,v=.slice ao ys.length cap/\RowsAt W ao ys:=by
 rcases h.own.2 with⟨h1,h2⟩ | ⟨g,cap,cur,h1,h2,h3,h4,h5,h6,h7⟩
 ·have:ys=[]:=List.eq_nil_of_length_eq_zero (by omega);subst this;exact⟨none,0,h1,⟨by simp,fun i hi=>absurd hi (by simp),fun i hi=>absurd hi (by simp)⟩⟩
 ·refine⟨some (aD g 0),cap,h1,by omega,fun i hi=>⟨g,0,rfl,?_⟩,fun i hi=>?_⟩
  ·have hi':i<ys.length:=hi;have h8:(cur.toList.take (ys.length*1))[i]? = some (ys.getD i iz).val:=by
    rw[h7,List.getElem?_map];simp[List.getD,hi']
   rw[List.getElem?_take_of_lt (by omega)] at h8;rw[Nat.zero_add];simp only[World.cell?,h3]
   simpa using h8
  ·exact (h.at' _ (getD_memR hi)).1.1
end Go.Scout
namespace Go.Proofs.YtlpbelhfpoilpabGreatDoor
open Go.RowKit Go.Scout
theorem push_int (W:World) (base:Nat) (v:Value) (xs:List Int) (hown:W.ownsRow base 3 1 v xs.length (xs.map (Value.int .i64))) (hl:xs.length<=1000000) (hb:base<=W.heap.size) (x:Int) (ty:TypeId) :
  ∃ v' w',(Builtin.append_ #[22,22] ty #[v,.slice (some (aD W.heap.size 0)) 1 1]).run Tryz.prog (W.alloc (.cells #[.int .i64 x] 3))=.ok v' w'/\
   w'.ownsRow base 3 1 v' (xs++[x]).length ((xs++[x]).map (Value.int .i64))/\Kept (fun b=>v.ownBlock≠some b) W w'/\(∃ a m c,v' = .slice a m c)/\(v'.ownBlock=v.ownBlock∨v'.ownBlock=some (W.heap.size+1)):=by
 obtain⟨i0,hi,hz0,hz1,hz2⟩:=info_parts Tryz.infoInt;obtain⟨v',w',hr,ho,hg,_,hat⟩:=run_append_own_at (P:=Tryz.prog) (W.alloc (.cells #[.int .i64 x] 3)) base 22 ty 3 i0 (.int .i64 0) 1 8 Tryz.underlying22 hi hz0 hz1 hz2 rfl (by decide) v xs.length (xs.map (Value.int .i64)) (hown.alloc _) (aD W.heap.size 0) 1 1 [.int .i64 x] rfl
  (World.news_of_block (cs:=#[.int .i64 x]) (t:=3) (fr:=(0,0)) (bQ3 W _)) (fun u hu=>by rw[List.mem_singleton] at hu; rw[hu]; rfl) (by unfold maxLen; omega) (by omega) (by rw[World.size_alloc]; omega)
 refine⟨v',w',hr,by rw[List.length_append,List.map_append]; exact ho,(Kept.alloc _ _).trans (Kept.grown hg (fun r e hr=>hr e)),ownsRow_slice ho,by rw[World.size_alloc] at hat; exact hat⟩
end Go.Proofs.YtlpbelhfpoilpabGreatDoor
namespace Go.Scout
open Go.RowKit
def NatsAt (w:World) (ao:Option Addr) (xs:List Nat):Prop:=
 xs.length<=1000/\CellsAt w ao xs.length (fun i=>.int .u64 ((xs.getD i 0:Nat):Int))
theorem NatsAt.get {w:World} {ao:Option Addr} {xs:List Nat} (h:NatsAt w ao xs) {i:Nat} (hi:i<xs.length) :
  ∃ b off,ao=some (aD b off)/\∀ j,j<xs.length->w.cell? (aD b (off+j))=some (.int .u64 ((xs.getD j 0:Nat):Int)):=
 CellsAt.get h.2 hi
theorem NatsAt.below {w w':World} (hb:Below w.heap.size w w') {ao:Option Addr} {xs:List Nat} (h:NatsAt w ao xs):NatsAt w' ao xs:=⟨h.1,h.2.below hb⟩
def ColsAt (w:World) (ao:Option Addr) (cs:List (Nat × Int)):Prop:=
 cs.length<=1000/\∀ i,i<cs.length->∃ b off,ao=some (aD b off)/\
  w.cell? (aD b (off+i*2))=some (.int .i64 ((cs.getD i (0,0)).1:Nat))/\w.cell? (aD b (off+i*2+1))=some (.int .u64 (cs.getD i (0,0)).2)
theorem ColsAt.below {w w':World} (hb:Below w.heap.size w w') {ao:Option Addr} {cs:List (Nat × Int)} (h:ColsAt w ao cs):ColsAt w' ao cs:=⟨h.1,fun i hi=>by
 obtain⟨b,off,e,c0,c1⟩:=h.2 i hi;exact⟨b,off,e,cB hb c0,cB hb c1⟩⟩
structure FactsV where
 ca:Option Addr
 cc:Nat
 ra:Option Addr
 rc:Nat
 na:Option Addr
 nl:Nat
 nc:Nat
 pa:Option Addr
 pl:Nat
 pc:Nat
def colsN (ts:List TableD) (q:QueryV):List (Nat × Int):=colsTo ts q.src.xs q.src.xs.length
def rowsL (ts:List TableD) (q:QueryV):List Nat:=(List.range q.src.xs.length).map fun (k:Nat)=>rowsN ts q.src.xs (k:Int)
def concL (ts:List TableD) (q:QueryV):List Nat:=q.wh.map fun c=>setN (concernN ts q.src.xs c.cs)
def partL (ts:List TableD) (q:QueryV):List Nat:=q.wh.map fun c=>partsN ts q.src.xs c.cs
def FactsV.cells (f:FactsV) (ts:List TableD) (q:QueryV):Array Value:=
 #[q.src.val,.slice q.wad q.wh.length q.wcap,.bool q.group,q.keys.val,q.sums.val,q.sel.val,q.ord.val,.slice f.ca (colsN ts q).length f.cc,.int .u64 ((2 ^ q.src.xs.length-1:Nat):Int),.int .u64 ((2 ^ q.wh.length-1:Nat):Int),
  .slice f.ra q.src.xs.length f.rc,.slice f.na f.nl f.nc,.slice f.pa f.pl f.pc]
structure FactsV.At (f:FactsV) (ts:List TableD) (q:QueryV) (w:World):Prop where
 query:q.At w
 cols:ColsAt w f.ca (colsN ts q)
 rows:NatsAt w f.ra (rowsL ts q)
 conc:NatsAt w f.na (concL ts q)
 parts:NatsAt w f.pa (partL ts q)
 nl:f.nl=q.wh.length
 pl:f.pl=q.wh.length
theorem FactsV.At.below {w w':World} (hb:Below w.heap.size w w') {f:FactsV} {ts:List TableD} {q:QueryV} (h:f.At ts q w):f.At ts q w':=
 ⟨h.query.below hb,h.cols.below hb,h.rows.below hb,h.conc.below hb,h.parts.below hb,h.nl,h.pl⟩
theorem rowsL_len (ts:List TableD) (q:QueryV):(rowsL ts q).length=q.src.xs.length:=by unfold rowsL; simp
theorem concL_len (ts:List TableD) (q:QueryV):(concL ts q).length=q.wh.length:=by unfold concL; simp
theorem partL_len (ts:List TableD) (q:QueryV):(partL ts q).length=q.wh.length:=by unfold partL; simp
theorem rowsL_get (ts:List TableD) (q:QueryV) {k:Nat} (hk:k<q.src.xs.length):(rowsL ts q).getD k 0=rowsN ts q.src.xs (k:Int):=by unfold rowsL; simp[List.getD,hk]
theorem concL_get (ts:List TableD) (q:QueryV) {k:Nat} (hk:k<q.wh.length):(concL ts q).getD k 0=setN (concernN ts q.src.xs (q.wh.getD k lz).cs):=by unfold concL; simp[List.getD,hk]
theorem partL_get (ts:List TableD) (q:QueryV) {k:Nat} (hk:k<q.wh.length):(partL ts q).getD k 0=partsN ts q.src.xs (q.wh.getD k lz).cs:=by unfold partL; simp[List.getD,hk]
structure PartV where
 kind:Int
 sources:Nat
 clauses:Nat
 order:IntsV
 size:Nat
 cost:Nat
def pvz:PartV:=⟨0,0,0,⟨none,0,[]⟩,0,0⟩
def PartV.cells (p:PartV):Array Value:=#[.int .i64 p.kind,.int .u64 (p.sources:Int),.int .u64 (p.clauses:Int),p.order.val,.int .u64 (p.size:Int),.int .u64 (p.cost:Int)]
def PartV.list (p:PartV):List Value:=[.int .i64 p.kind,.int .u64 (p.sources:Int),.int .u64 (p.clauses:Int),p.order.val,.int .u64 (p.size:Int),.int .u64 (p.cost:Int)]
def PartV.d (p:PartV):PartD:=⟨p.kind,p.sources,p.clauses,p.order.xs,p.size,p.cost⟩
structure PartV.Ok (p:PartV) (w:World):Prop where
 order:p.order.At w
 cap:p.order.xs.length<=p.order.cap
 sources:p.sources<=topN
 clauses:p.clauses<=topN
 size:p.size<=topN
 cost:p.cost<=topN
theorem PartV.Ok.below {w w':World} (hb:Below w.heap.size w w') {p:PartV} (h:p.Ok w):p.Ok w':=⟨IntsAt.below hb h.order,h.cap,h.sources,h.clauses,h.size,h.cost⟩
def PartsAt (w:World) (ao:Option Addr) (ps:List PartV):Prop:=
 ps.length<=1000/\∀ i,i<ps.length->(∃ b off,ao=some (aD b off)/\
  w.cell? (aD b (off+i*6))=some (.int .i64 (ps.getD i pvz).kind)/\w.cell? (aD b (off+i*6+1))=some (.int .u64 ((ps.getD i pvz).sources:Int))/\
  w.cell? (aD b (off+i*6+2))=some (.int .u64 ((ps.getD i pvz).clauses:Int))/\w.cell? (aD b (off+i*6+3))=some (ps.getD i pvz).order.val/\
  w.cell? (aD b (off+i*6+4))=some (.int .u64 ((ps.getD i pvz).size:Int))/\w.cell? (aD b (off+i*6+5))=some (.int .u64 ((ps.getD i pvz).cost:Int)))/\(ps.getD i pvz).Ok w
theorem PartsAt.below {w w':World} (hb:Below w.heap.size w w') {ao:Option Addr} {ps:List PartV} (h:PartsAt w ao ps):PartsAt w' ao ps:=⟨h.1,fun i hi=>by
 obtain⟨⟨b,off,e,c0,c1,c2,c3,c4,c5⟩,ho⟩:=h.2 i hi;exact⟨⟨b,off,e,cB hb c0,cB hb c1,cB hb c2,cB hb c3,cB hb c4,cB hb c5⟩,ho.below hb⟩⟩
theorem flat_get {α:Type} (f:α->List Value) (k:Nat) (hk:∀ a,(f a).length=k) (d:α):∀ (l:List α) (i j:Nat),i<l.length->j<k->(l.flatMap f)[i*k+j]? = (f (l.getD i d))[j]?
 | [],i,j,h,_ => absurd h (by simp)
 | a::l,0,j,_,hj => by
  rw[List.flatMap_cons,Nat.zero_mul,Nat.zero_add,List.getElem?_append_left (by rw[hk]; exact hj)];rfl
 | a::l,i+1,j,h,hj => by
  have e:(i+1)*k+j=(f a).length+(i*k+j):=by rw[hk,Nat.succ_mul]; omega
  rw[List.flatMap_cons,e,List.getElem?_append_right (Nat.le_add_right _ _),Nat.add_sub_cancel_left,flat_get f k hk d l i j (by simpa using h) hj];rfl
theorem flat_len {α:Type} (f:α->List Value) (k:Nat) (hk:∀ a,(f a).length=k):∀ l:List α,(l.flatMap f).length=l.length*k
 | [] => by simp
 | a::l => by rw[List.flatMap_cons,List.length_append,hk,flat_len f k hk l,List.length_cons,Nat.succ_mul]; omega
theorem own_newsN {w:World} {base:Nat} {e:TypeId} {size:Nat} {v:Value} {n:Nat} {xs:List Value} (h:w.ownsRow base e size v n xs) :
  (v=.slice none 0 0/\n=0)∨∃ g cap,v=.slice (some (aD g 0)) n cap/\base<=g/\g<w.heap.size/\∀ j u,xs[j]? = some u->w.cell? (aD g j)=some u:=by
 rcases h.2 with⟨rfl,h1⟩ | ⟨g,cap,cur,rfl,hb,hh,_,_,_,ht⟩
 ·exact .inl ⟨rfl,h1⟩
 ·refine .inr ⟨g,cap,rfl,hb,(Array.getElem?_eq_some_iff.1 hh).1,fun j u hj=>?_⟩;rw[<- ht,List.getElem?_take] at hj;split at hj
  ·simp only[World.cell?,hh]
   simpa using hj
  ·cases hj
theorem nats_own {w:World} {base:Nat} {e:TypeId} {v:Value} {n:Nat} {xs:List Nat} (h:w.ownsRow base e 1 v n (xs.map fun (x:Nat)=>.int .u64 (x:Int))) (hl:xs.length<=1000):∃ ao cap,v=.slice ao xs.length cap/\NatsAt w ao xs:=by
 have hn:xs.length=n:=by have:=h.1; simpa using this
 rcases own_newsN h with⟨rfl,h0⟩ | ⟨g,cap,rfl,_,_,hc⟩
 ·have:xs=[]:=List.eq_nil_of_length_eq_zero (by omega);subst this;exact⟨none,0,rfl,⟨by simp,fun i hi=>absurd hi (by simp)⟩⟩
 ·refine⟨some (aD g 0),cap,by rw[hn],⟨hl,fun i hi=>⟨g,0,rfl,?_⟩⟩⟩;rw[Nat.zero_add];exact hc i _ (by rw[List.getElem?_map]; simp[List.getD,hi])
def colList (c:Nat × Int):List Value:=[.int .i64 (c.1:Int),.int .u64 c.2]
theorem cols_own {w:World} {base:Nat} {e:TypeId} {v:Value} {n:Nat} {cs:List (Nat × Int)} (h:w.ownsRow base e 2 v n (cs.flatMap colList)) (hl:cs.length<=1000):∃ ao cap,v=.slice ao cs.length cap/\ColsAt w ao cs:=by
 have hk:∀ a,(colList a).length=2:=fun _=>rfl
 have hn:cs.length=n:=by have:=h.1; rw[flat_len colList 2 hk] at this; omega
 rcases own_newsN h with⟨rfl,h0⟩ | ⟨g,cap,rfl,_,_,hc⟩
 ·have:cs=[]:=List.eq_nil_of_length_eq_zero (by omega);subst this;exact⟨none,0,rfl,⟨by simp,fun i hi=>absurd hi (by simp)⟩⟩
 ·refine⟨some (aD g 0),cap,by rw[hn],⟨hl,fun i hi=>⟨g,0,rfl,?_,?_⟩⟩⟩
  ·rw[Nat.zero_add];exact hc (i*2) _ (by have:=flat_get colList 2 hk (0,0) cs i 0 hi (by omega); rw[Nat.add_zero] at this; rw[this]; rfl)
  ·rw[Nat.zero_add];exact hc (i*2+1) _ (by rw[flat_get colList 2 hk (0,0) cs i 1 hi (by omega)]; rfl)
theorem parts_own {w:World} {base:Nat} {e:TypeId} {v:Value} {n:Nat} {ps:List PartV} (h:w.ownsRow base e 6 v n (ps.flatMap PartV.list)) (hl:ps.length<=1000) (hp:∀ i,i<ps.length->(ps.getD i pvz).Ok w):∃ ao cap,v=.slice ao ps.length cap/\PartsAt w ao ps:=by
 have hk:∀ a:PartV,a.list.length=6:=fun _=>rfl
 have hn:ps.length=n:=by have:=h.1; rw[flat_len PartV.list 6 hk] at this; omega
 rcases own_newsN h with⟨rfl,h0⟩ | ⟨g,cap,rfl,_,_,hc⟩
 ·have:ps=[]:=List.eq_nil_of_length_eq_zero (by omega);subst this;exact⟨none,0,rfl,⟨by simp,fun i hi=>absurd hi (by simp)⟩⟩
 ·refine⟨some (aD g 0),cap,by rw[hn],⟨hl,fun i hi=>⟨⟨g,0,rfl,?_,?_,?_,?_,?_,?_⟩,hp i hi⟩⟩⟩ <;> rw[Nat.zero_add]
  ·exact hc (i*6) _ (by have:=flat_get PartV.list 6 hk pvz ps i 0 hi (by omega); rw[Nat.add_zero] at this; rw[this]; rfl)
  ·exact hc (i*6+1) _ (by rw[flat_get PartV.list 6 hk pvz ps i 1 hi (by omega)]; rfl)
  ·exact hc (i*6+2) _ (by rw[flat_get PartV.list 6 hk pvz ps i 2 hi (by omega)]; rfl)
  ·exact hc (i*6+3) _ (by rw[flat_get PartV.list 6 hk pvz ps i 3 hi (by omega)]; rfl)
  ·exact hc (i*6+4) _ (by rw[flat_get PartV.list 6 hk pvz ps i 4 hi (by omega)]; rfl)
  ·exact hc (i*6+5) _ (by rw[flat_get PartV.list 6 hk pvz ps i 5 hi (by omega)]; rfl)
theorem push_own {P:Program} (W:World) (base:Nat) (t ty e:TypeId) (i:TypeInfo) (z:Value) (size bytes:Nat) (ht:P.underlying t=some (.slice e)) (hi:P.info? e=some i) (hz:i.zero=some z) (hsize:i.size=size) (hby:i.bytes=bytes) (hzs:z.cells.size=size) (hsz:0<size)
  (v:Value) (n:Nat) (xs:List Value) (hown:W.ownsRow base e size v n xs) (hb:base<=W.heap.size) (news:List Value) (hl:news.length=size) (h1:∀ u∈news,u.oneCell' = true) (hn:n<=1000) (hbb:bytes<=1000) :
  ∃ v' w',(Builtin.append_ #[t,t] ty #[v,.slice (some (aD W.heap.size 0)) 1 1]).run P (W.alloc (.cells news.toArray e))=.ok v' w'/\w'.ownsRow base e size v' (n+1) (xs++news)/\Kept (fun b=>v.ownBlock≠some b) W w'/\(∃ a m c,v' = .slice a m c)/\(v'.ownBlock=v.ownBlock∨v'.ownBlock=some (W.heap.size+1)):=by
 obtain⟨v',w',hr,ho,hg,_,hat⟩:=run_append_own_at (P:=P) (W.alloc (.cells news.toArray e)) base t ty e i z size bytes ht hi hz hsize hby hzs hsz v n xs (hown.alloc _) (aD W.heap.size 0) 1 1 news (by rw[hl,Nat.one_mul])
  (fun j u hj=>by
   rw[addr_add,Nat.zero_add];simp only[World.cell?,bQ3 W _]
   simpa using hj) h1 (by unfold maxLen; omega) (by have:(n+1)*bytes<=1001*1000:=Nat.mul_le_mul (by omega) hbb; omega) (by rw[World.size_alloc]; omega)
 exact⟨v',w',hr,ho,(Kept.alloc _ _).trans (Kept.grown hg (fun r e hr=>hr e)),ownsRow_slice ho,by rw[World.size_alloc] at hat; exact hat⟩
theorem setN_foldl (l:List Int):∀ m:Nat,l.foldl (fun m n=>m|||2 ^ n.toNat) m=m|||setN l:=by
 unfold setN
 induction l with
 | nil => intro m; simp
 | cons a l ih => intro m; rw[List.foldl_cons,List.foldl_cons,ih,ih (0|||_),Nat.zero_or,Nat.or_assoc]
theorem setN_append (a b:List Int):setN (a++b)=setN a|||setN b:=by
 show (a++b).foldl _ 0=_
 rw[List.foldl_append,setN_foldl];rfl
def InF (F:Nat->Prop) (ao:Option Addr) (n:Nat):Prop:=0<n->∀ a,ao=some a->F a.block
def PtrsAt (w:World) (ao:Option Addr) (xs:List Nat):Prop:=
 xs.length<=1000000/\CellsAt w ao xs.length (fun i=>.pointer (some (aD (xs.getD i 0) 0)))
theorem PtrsAt.get {w:World} {ao:Option Addr} {xs:List Nat} (h:PtrsAt w ao xs) {i:Nat} (hi:i<xs.length) :
  ∃ b off,ao=some (aD b off)/\∀ j,j<xs.length->w.cell? (aD b (off+j))=some (.pointer (some (aD (xs.getD j 0) 0))):=
 CellsAt.get h.2 hi
theorem PtrsAt.below {w w':World} (hb:Below w.heap.size w w') {ao:Option Addr} {xs:List Nat} (h:PtrsAt w ao xs):PtrsAt w' ao xs:=⟨h.1,h.2.below hb⟩
theorem CellsAt.keptF {A B:World} {F:Nat->Prop} {ao:Option Addr} {n:Nat} {f:Nat->Value} (h:CellsAt A ao n f) (hk:Kept F A B) (hF:InF F ao n):CellsAt B ao n f:=by
 cases n with
 | zero => intro i hi; omega
 | succ m => exact h.keep (fun a ha hl => hk.block _ hl (hF (by omega) a ha))
theorem IntsAt.keptF {A B:World} {F:Nat->Prop} {ao:Option Addr} {xs:List Int} (h:IntsAt A ao xs) (hk:Kept F A B) (hF:InF F ao xs.length):IntsAt B ao xs:=⟨h.1,h.2.keptF hk hF⟩
theorem PtrsAt.keptF {A B:World} {F:Nat->Prop} {ao:Option Addr} {xs:List Nat} (h:PtrsAt A ao xs) (hk:Kept F A B) (hF:InF F ao xs.length):PtrsAt B ao xs:=⟨h.1,h.2.keptF hk hF⟩
theorem CellsAt.lt {w:World} {ao:Option Addr} {n:Nat} {f:Nat->Value} (h:CellsAt w ao n f) (hn:0<n):∀ a,ao=some a->a.block<w.heap.size:=by
 intro a ha;obtain⟨b,off,e,hc⟩:=h 0 hn;rw[ha] at e;injection e with e;rw[e];exact cell_lt hc
theorem InF.mono {F G:Nat->Prop} {w:World} {ao:Option Addr} {n:Nat} {f:Nat->Value} (hc:CellsAt w ao n f) (h:InF F ao n) (hs:∀ b,b<w.heap.size->F b->G b):InF G ao n:=
 fun hn a ha=>hs _ (hc.lt hn a ha) (h hn a ha)
theorem InF.new {F:Nat->Prop} {base:Nat} (hF:∀ b,base<=b->F b) {ao:Option Addr} {n:Nat} (h:∀ a,ao=some a->base<=a.block):InF F ao n:=fun _ a ha=>hF _ (h a ha)
def treeC (p:PartV) (n:NodeV) (v:Value):Array Value:=
 #[.int .i64 p.kind,.int .u64 (p.sources:Int),.int .u64 (p.clauses:Int),p.order.val,.int .u64 (p.size:Int),.int .u64 (p.cost:Int),
  .int .i64 n.kind,.int .i64 n.l,.int .i64 n.r,.int .i64 n.source,n.cl.val,.int .i64 n.key,n.co.val,v]
structure TreeB (T:TypeId) (F:Nat->Prop) (w:World) (a:Nat) (t:TrD) (p:PartV) (n:NodeV) (bo:Option Addr) (bc:Nat) (bs:List (Nat × TrD)):Prop where
 blk:F a
 gb:GB w a T (treeC p n (.slice bo bs.length bc))
 part:p.d=t.d
 ok:p.Ok w
 ord:InF F p.order.ad p.order.xs.length
 cl:n.cl.At w
 clf:InF F n.cl.ad n.cl.xs.length
 cln:n.cl.ad=none->n.cl.cap=0
 co:n.co.At w
 cof:InF F n.co.ad n.co.xs.length
 con:n.co.ad=none->n.co.cap=0
 ptrs:PtrsAt w bo (bs.map Prod.fst)
 ptf:InF F bo bs.length
 bcap:bs.length<=bc
 nil:bo=none->bc=0
 lay:t.ns=layN n (bs.map fun x=>x.2.ns)
 two:bs.length<=2
 kind:1<=n.kind/\n.kind<=10
 lens:n.cl.xs.length<=1000/\n.co.xs.length<=1000
def TreeK (T:TypeId) (F:Nat->Prop):Nat->World->Nat->TrD->Prop
 | 0,_,_,_ => False
 | k+1,w,a,t => ∃ p n bo bc bs,TreeB T F w a t p n bo bc bs/\∀ x∈bs,TreeK T F k w x.1 x.2
theorem TreeB.keptF {T:TypeId} {F:Nat->Prop} {w w':World} {a:Nat} {t:TrD} {p:PartV} {n:NodeV} {bo:Option Addr} {bc:Nat} {bs:List (Nat × TrD)} (h:TreeB T F w a t p n bo bc bs) (hk:Kept F w w'):TreeB T F w' a t p n bo bc bs where
 blk:=h.blk
 gb:=h.gb.keep hk h.blk
 part:=h.part
 ok:=⟨IntsAt.keptF h.ok.order hk h.ord,h.ok.cap,h.ok.sources,h.ok.clauses,h.ok.size,h.ok.cost⟩
 ord:=h.ord
 cl:=IntsAt.keptF h.cl hk h.clf
 clf:=h.clf
 cln:=h.cln
 co:=IntsAt.keptF h.co hk h.cof
 cof:=h.cof
 con:=h.con
 ptrs:=h.ptrs.keptF hk (by rw[List.length_map]; exact h.ptf)
 ptf:=h.ptf
 bcap:=h.bcap
 nil:=h.nil
 lay:=h.lay
 two:=h.two
 kind:=h.kind
 lens:=h.lens
theorem TreeB.mono {T:TypeId} {F G:Nat->Prop} {w:World} {a:Nat} {t:TrD} {p:PartV} {n:NodeV} {bo:Option Addr} {bc:Nat} {bs:List (Nat × TrD)} (h:TreeB T F w a t p n bo bc bs) (hs:∀ b,b<w.heap.size->F b->G b):TreeB T G w a t p n bo bc bs where
 blk:=hs _ h.gb.lt h.blk
 gb:=h.gb
 part:=h.part
 ok:=h.ok
 ord:=InF.mono h.ok.order.2 h.ord hs
 cl:=h.cl
 clf:=InF.mono h.cl.2 h.clf hs
 cln:=h.cln
 co:=h.co
 cof:=InF.mono h.co.2 h.cof hs
 con:=h.con
 ptrs:=h.ptrs
 ptf:=by
  have:=InF.mono h.ptrs.2 (by rw[List.length_map]; exact h.ptf) hs
  rwa [List.length_map] at this
 bcap:=h.bcap
 nil:=h.nil
 lay:=h.lay
 two:=h.two
 kind:=h.kind
 lens:=h.lens
theorem TreeK.keptF {T:TypeId} {F:Nat->Prop} {w w':World} (hk:Kept F w w'):∀ {k a:Nat} {t:TrD},TreeK T F k w a t->TreeK T F k w' a t
 | 0,_,_,h => h
 | _+1,_,_,⟨p,n,bo,bc,bs,hb,hs⟩ => ⟨p,n,bo,bc,bs,hb.keptF hk,fun x hx => (hs x hx).keptF hk⟩
theorem TreeK.mono {T:TypeId} {F G:Nat->Prop} {w:World} (hs:∀ b,b<w.heap.size->F b->G b):∀ {k a:Nat} {t:TrD},TreeK T F k w a t->TreeK T G k w a t
 | 0,_,_,h => h
 | _+1,_,_,⟨p,n,bo,bc,bs,hb,hx⟩ => ⟨p,n,bo,bc,bs,hb.mono hs,fun x h => (hx x h).mono hs⟩
theorem TreeK.more {T:TypeId} {F:Nat->Prop} {w:World}:∀ {k m a:Nat} {t:TrD},TreeK T F k w a t->k<=m->TreeK T F m w a t
 | 0,_,_,_,h,_ => h.elim
 | _+1,0,_,_,_,h => by omega
 | _+1,_+1,_,_,⟨p,n,bo,bc,bs,hb,hx⟩,h => ⟨p,n,bo,bc,bs,hb,fun x hm => (hx x hm).more (by omega)⟩
def TreeF (T:TypeId) (F:Nat->Prop) (w:World) (a:Nat) (t:TrD):Prop:=∃ k,TreeK T F k w a t
theorem TreeF.keptF {T:TypeId} {F:Nat->Prop} {w w':World} {a:Nat} {t:TrD} (h:TreeF T F w a t) (hk:Kept F w w'):TreeF T F w' a t:=h.imp fun _ h=>h.keptF hk
theorem TreeF.mono {T:TypeId} {F G:Nat->Prop} {w:World} {a:Nat} {t:TrD} (h:TreeF T F w a t) (hs:∀ b,b<w.heap.size->F b->G b):TreeF T G w a t:=h.imp fun _ h=>h.mono hs
theorem TreeF.below {T:TypeId} {F:Nat->Prop} {w w':World} {a:Nat} {t:TrD} (h:TreeF T F w a t) (hb:Below w.heap.size w w'):TreeF T F w' a t:=h.keptF (Kept.of_below hb fun _ h _=>h)
theorem TreeF.get {T:TypeId} {F:Nat->Prop} {w:World} {a:Nat} {t:TrD} (h:TreeF T F w a t):∃ p n bo bc bs,TreeB T F w a t p n bo bc bs/\∀ x∈bs,TreeF T F w x.1 x.2:=by
 obtain⟨k,h⟩:=h
 cases k with
 | zero => exact h.elim
 | succ k =>
  obtain⟨p,n,bo,bc,bs,hb,hx⟩:=h;exact⟨p,n,bo,bc,bs,hb,fun x hm=>⟨k,hx x hm⟩⟩
theorem trees_one {T:TypeId} {F:Nat->Prop} {w:World}:∀ {bs:List (Nat × TrD)},(∀ x∈bs,TreeF T F w x.1 x.2)->∃ k,∀ x∈bs,TreeK T F k w x.1 x.2
 | [],_ => ⟨0,fun x h => by cases h⟩
 | y::bs,h => by
  obtain⟨k,hk⟩:=trees_one fun x hx=>h x (List.mem_cons_of_mem _ hx)
  obtain⟨m,hm⟩:=h y List.mem_cons_self;refine⟨max k m,fun x hx=>?_⟩;rcases List.mem_cons.1 hx with rfl | hx
  ·exact hm.more (Nat.le_max_right _ _)
  ·exact (hk x hx).more (Nat.le_max_left _ _)
theorem TreeF.intro {T:TypeId} {F:Nat->Prop} {w:World} {a:Nat} {t:TrD} {p:PartV} {n:NodeV} {bo:Option Addr} {bc:Nat} {bs:List (Nat × TrD)} (h:TreeB T F w a t p n bo bc bs) (hx:∀ x∈bs,TreeF T F w x.1 x.2):TreeF T F w a t:=by
 obtain⟨k,hk⟩:=trees_one hx;exact⟨k+1,p,n,bo,bc,bs,h,hk⟩
end Go.Scout
