import Derived.Test.YtlpbelhfpoilpaaGreatDoorC06
import Derived.Test.YtlpbelhfpoilpaaGreatDoorC07
set_option linter.all false
set_option maxRecDepth 100000
set_option maxHeartbeats 16000000
namespace Go.Scout
open Go.RowKit
theorem length_flat {α:Type} (f:α->List Value) (s:Nat) (hf:∀ x,(f x).length=s):∀ xs:List α,(xs.flatMap f).length=xs.length*s
 | [] => by simp
 | x::xs => by
  rw[List.flatMap_cons,List.length_append,hf,length_flat f s hf xs,List.length_cons,Nat.add_mul,Nat.one_mul,Nat.add_comm]
theorem flat_at {α:Type} (f:α->List Value) (s:Nat) (hf:∀ x,(f x).length=s) (z:α):∀ (xs:List α) (rest:List Value) (i j:Nat),i<xs.length->j<s->(xs.flatMap f++rest)[i*s+j]? = (f (xs.getD i z))[j]?
 | [],_,i,_,hi,_ => absurd hi (by simp)
 | x::xs,rest,0,j,_,hj => by
  rw[List.flatMap_cons,List.append_assoc,Nat.zero_mul,Nat.zero_add,List.getElem?_append_left (by rw[hf]; exact hj)];rfl
 | x::xs,rest,i+1,j,hi,hj => by
  have ih:=flat_at f s hf z xs rest i j (by simpa using hi) hj;rw[List.flatMap_cons,List.append_assoc,List.getElem?_append_right (by rw[hf,Nat.add_mul]; omega),hf];rw[show (i+1)*s+j-s=i*s+j by rw[Nat.add_mul]; omega,ih];rfl
theorem flat_tail {α:Type} (f:α->List Value) (s:Nat) (hf:∀ x,(f x).length=s) (xs:List α) (rest:List Value) (j:Nat):(xs.flatMap f++rest)[xs.length*s+j]? = rest[j]?:=by
 have hl:=length_flat f s hf xs;rw[List.getElem?_append_right (by omega),hl];congr 1;omega
theorem flat_set {α:Type} (f:α->List Value) (s:Nat) (hf:∀ x,(f x).length=s) (xs:List α) (rest:List Value) (j:Nat) (v:Value):(xs.flatMap f++rest).set (xs.length*s+j) v=xs.flatMap f++rest.set j v:=by
 have hl:=length_flat f s hf xs;rw[List.set_append_right _ _ (by omega),hl];congr 2;omega
theorem made_drop (z:Array Value) (s n:Nat) (hs:z.size=s) (_h0:0<s):(madeCells z ((n+2)*s)).toList.drop (n*s)=z.toList++z.toList:=by
 apply List.ext_getElem?;intro i;rw[List.getElem?_drop];unfold madeCells;rw[Array.toList_map,Array.toList_range,List.getElem?_map];have e2:(n+2)*s=n*s+2*s:=by rw[Nat.add_mul]
 have hmod:∀ i,(n*s+i) % s=i % s:=fun i=>by rw[Nat.add_comm,Nat.add_mul_mod_self_right]
 by_cases hi:i<2*s
 ·rw[List.getElem?_range (by omega),Option.map_some,hs,hmod];by_cases h1:i<s
  ·rw[List.getElem?_append_left (by simpa [hs] using h1),Nat.mod_eq_of_lt h1];rw[getElem!_pos z i (by omega)];simp[hs,h1]
  ·rw[List.getElem?_append_right (by simp[hs]; omega)];have:i % s=i-s:=by rw[Nat.mod_eq_sub_mod (by omega),Nat.mod_eq_of_lt (by omega)]
   rw[this,getElem!_pos z (i-s) (by omega)];simp[hs,show i-s<s by omega]
 ·have h2:¬ n*s+i<(n+2)*s:=by omega
  simp[h2];rw[hs];omega
def CondD.vals (c:CondD):List Value:=[.bool c.not,.int .i64 c.op,.int .i64 c.left,.bool c.const,.int .i64 c.right]
def zc:List Value:=[.bool false,.int .i64 0,.int .i64 0,.bool false,.int .i64 0]
def ic:List Value:=[.bool false,.int .i64 77777,.int .i64 0,.bool false,.int .i64 0]
def conds1 (cs:List CondD):Array Value:=(cs.flatMap CondD.vals++(zc++zc)).toArray
def conds2 (cs:List CondD):Array Value:=(cs.flatMap CondD.vals++(ic++zc)).toArray
def lentConds (cs:List CondD):Array Value:=(cs.flatMap CondD.vals++(ic++ic)).toArray
theorem cvals_len (c:CondD):c.vals.length=5:=rfl
theorem conds1_at (cs:List CondD):(conds1 cs)[cs.length*5+1]? = some (.int .i64 0):=by
 unfold conds1;rw[List.getElem?_toArray,flat_tail _ 5 cvals_len];rfl
theorem conds2_at (cs:List CondD):(conds2 cs)[(cs.length+1)*5+1]? = some (.int .i64 0):=by
 unfold conds2;rw[List.getElem?_toArray,show (cs.length+1)*5+1=cs.length*5+6 by omega,flat_tail _ 5 cvals_len];rfl
theorem conds1_set (cs:List CondD):(conds1 cs).setIfInBounds (cs.length*5+1) (.int .i64 77777)=conds2 cs:=by
 unfold conds1 conds2;rw[List.setIfInBounds_toArray,flat_set _ 5 cvals_len];rfl
theorem conds2_set (cs:List CondD):(conds2 cs).setIfInBounds ((cs.length+1)*5+1) (.int .i64 77777)=lentConds cs:=by
 unfold conds2 lentConds;rw[List.setIfInBounds_toArray,show (cs.length+1)*5+1=cs.length*5+6 by omega,flat_set _ 5 cvals_len];rfl
theorem setCell_conds1 (w:World) (cs:List CondD) (t:TypeId):(w.alloc (.cells (conds1 cs) t)).setCell (aD w.heap.size (cs.length*5+1)) (.int .i64 77777)=w.alloc (.cells (conds2 cs) t):=by rw[setCell_alloc,conds1_set]
theorem setCell_conds2 (w:World) (cs:List CondD) (t:TypeId):(w.alloc (.cells (conds2 cs) t)).setCell (aD w.heap.size ((cs.length+1)*5+1)) (.int .i64 77777)=w.alloc (.cells (lentConds cs) t):=by rw[setCell_alloc,conds2_set]
def tabVals (t:TableD):List Value:=[.int .i64 t.cols,.int .i64 t.rows,.int .i64 t.k0,.int .i64 t.k1,.int .i64 t.k2,.int .i64 t.k3]
def zt:List Value:=[.int .i64 0,.int .i64 0,.int .i64 0,.int .i64 0,.int .i64 0,.int .i64 0]
def it:List Value:=[.int .i64 77777,.int .i64 0,.int .i64 0,.int .i64 0,.int .i64 0,.int .i64 0]
def tabs1 (ts:List TableD):Array Value:=(ts.flatMap tabVals++(zt++zt)).toArray
def tabs2 (ts:List TableD):Array Value:=(ts.flatMap tabVals++(it++zt)).toArray
def lentTabs (ts:List TableD):Array Value:=(ts.flatMap tabVals++(it++it)).toArray
theorem tvals_len (t:TableD):(tabVals t).length=6:=rfl
theorem tabs1_at (ts:List TableD):(tabs1 ts)[ts.length*6]? = some (.int .i64 0):=by
 unfold tabs1;rw[List.getElem?_toArray,show ts.length*6=ts.length*6+0 by omega,flat_tail _ 6 tvals_len];rfl
theorem tabs2_at (ts:List TableD):(tabs2 ts)[(ts.length+1)*6]? = some (.int .i64 0):=by
 unfold tabs2;rw[List.getElem?_toArray,show (ts.length+1)*6=ts.length*6+6 by omega,flat_tail _ 6 tvals_len];rfl
theorem tabs1_set (ts:List TableD):(tabs1 ts).setIfInBounds (ts.length*6) (.int .i64 77777)=tabs2 ts:=by
 unfold tabs1 tabs2;rw[List.setIfInBounds_toArray,show ts.length*6=ts.length*6+0 by omega,flat_set _ 6 tvals_len];rfl
theorem tabs2_set (ts:List TableD):(tabs2 ts).setIfInBounds ((ts.length+1)*6) (.int .i64 77777)=lentTabs ts:=by
 unfold tabs2 lentTabs;rw[List.setIfInBounds_toArray,show (ts.length+1)*6=ts.length*6+6 by omega,flat_set _ 6 tvals_len];rfl
theorem run_copy_new {P:Program} (w:World) (dT elem:TypeId) (s:Nat) (z:Array Value) (ao:Option Addr) (n cap:Nat) (cs:List Value) (hs0:0<s) (hz:z.size=s) (hn:cs.length=n*s)
  (hc:∀ j,j<n*s->∃ b off,ao=some (aD b off)/\w.cell? (aD b (off+j))=cs[j]?) (h1:∀ v∈cs,v.oneCell' = true)
  (hu:P.underlying dT=some (.slice elem)) (hs:(P.info? elem).map (·.size)=some s) (ty:TypeId) :
  (Builtin.copy_ #[dT,dT] ty #[.slice (some (aD w.heap.size 0)) (n+2) (n+2),.slice ao n cap]).run P (w.alloc (.cells (madeCells z ((n+2)*s)) elem)) =
   .ok (goInt n) (w.alloc (.cells (cs++(z.toList++z.toList)).toArray elem)):=by
 have hsz:(madeCells z ((n+2)*s)).size=(n+2)*s:=size_madeCells z _;rw[run_copy_wide (w.alloc (.cells (madeCells z ((n+2)*s)) elem)) dT dT ty elem s w.heap.size (n+2) (n+2) ao n cap (madeCells z ((n+2)*s)) elem cs hu hs
  (bQ3 _ _) (by omega) hn ?_ (by rw[hsz,hn,Nat.add_mul]; omega) h1,setRow_alloc,hn,made_drop z s n hz hs0]
 intro h0;obtain⟨b,off,rfl,_⟩:=hc 0 (by omega);refine⟨(aD b off),rfl,fun j v hj=>?_⟩;have hjl:j<n*s:=by
  have:=(List.getElem?_eq_some_iff.1 hj).1;omega
 obtain⟨b',off',e,hcell⟩:=hc j hjl
 cases e
 rw[addr_add];exact cell_alloc (hcell.trans hj) _
theorem conds_src {w:World} {ao:Option Addr} {cs:List CondD} (h:CondsAt w ao cs):∀ j,j<cs.length*5->∃ b off,ao=some (aD b off)/\w.cell? (aD b (off+j))=(cs.flatMap CondD.vals)[j]?:=by
 intro j hj;obtain⟨b,off,e,c0,c1,c2,c3,c4⟩:=h.2 (j / 5) (by omega);refine⟨b,off,e,?_⟩;have hf:=flat_at CondD.vals 5 cvals_len cz cs [] (j / 5) (j % 5) (by omega) (by omega);rw[List.append_nil,show j / 5*5+j % 5=j by omega] at hf;rw[hf];generalize hd:cs.getD (j / 5) cz=d at *;have hm:j % 5<5:=Nat.mod_lt _ (by omega);rcases (by omega:j % 5=0∨j % 5=1∨j % 5=2∨j % 5=3∨j % 5=4) with h5 | h5 | h5 | h5 | h5
 ·rw[show off+j=off+j / 5*5 by omega,c0,h5]; rfl
 ·rw[show off+j=off+j / 5*5+1 by omega,c1,h5]; rfl
 ·rw[show off+j=off+j / 5*5+2 by omega,c2,h5]; rfl
 ·rw[show off+j=off+j / 5*5+3 by omega,c3,h5]; rfl
 ·rw[show off+j=off+j / 5*5+4 by omega,c4,h5]; rfl
theorem conds_one (cs:List CondD):∀ v∈cs.flatMap CondD.vals,v.oneCell' = true:=by
 intro v hv;rw[List.mem_flatMap] at hv;obtain⟨c,_,hc⟩:=hv;simp only[CondD.vals,List.mem_cons,List.mem_nil_iff,or_false] at hc;rcases hc with rfl | rfl | rfl | rfl | rfl <;> rfl
theorem tabs_src {w:World} {ao:Option Addr} {ts:List TableD} (h:TablesAt w ao ts):∀ j,j<ts.length*6->∃ b off,ao=some (aD b off)/\w.cell? (aD b (off+j))=(ts.flatMap tabVals)[j]?:=by
 intro j hj;obtain⟨b,off,e,c0,c1,c2,c3,c4,c5⟩:=h.2 (j / 6) (by omega);refine⟨b,off,e,?_⟩;have hf:=flat_at tabVals 6 tvals_len tz ts [] (j / 6) (j % 6) (by omega) (by omega);rw[List.append_nil,show j / 6*6+j % 6=j by omega] at hf;rw[hf];generalize hd:ts.getD (j / 6) tz=d at *;have hm:j % 6<6:=Nat.mod_lt _ (by omega);rcases (by omega:j % 6=0∨j % 6=1∨j % 6=2∨j % 6=3∨j % 6=4∨j % 6=5) with h5 | h5 | h5 | h5 | h5 | h5
 ·rw[show off+j=off+j / 6*6 by omega,c0,h5]; rfl
 ·rw[show off+j=off+j / 6*6+1 by omega,c1,h5]; rfl
 ·rw[show off+j=off+j / 6*6+2 by omega,c2,h5]; rfl
 ·rw[show off+j=off+j / 6*6+3 by omega,c3,h5]; rfl
 ·rw[show off+j=off+j / 6*6+4 by omega,c4,h5]; rfl
 ·rw[show off+j=off+j / 6*6+5 by omega,c5,h5]; rfl
theorem tabs_one (ts:List TableD):∀ v∈ts.flatMap tabVals,v.oneCell' = true:=by
 intro v hv;rw[List.mem_flatMap] at hv;obtain⟨c,_,hc⟩:=hv;simp only[tabVals,List.mem_cons,List.mem_nil_iff,or_false] at hc;rcases hc with rfl | rfl | rfl | rfl | rfl | rfl <;> rfl
def GB (w:World) (G:Nat) (t:TypeId) (c:Array Value):Prop:=w.heap[G]? = some (.cells c t (0,0))
theorem GB.cell {w:World} {G:Nat} {t:TypeId} {c:Array Value} (h:GB w G t c) (i:Nat):w.cell? (aD G i)=c[i]?:=by
 unfold GB at h;simp[World.cell?,h]
theorem GB.frozen {w:World} {G:Nat} {t:TypeId} {c:Array Value} (h:GB w G t c) (i:Nat):w.frozen? (aD G i)=false:=by
 unfold GB at h;simp[World.frozen?,h]
theorem GB.lt {w:World} {G:Nat} {t:TypeId} {c:Array Value} (h:GB w G t c):G<w.heap.size:=by
 unfold GB at h;exact (Array.getElem?_eq_some_iff.1 h).1
theorem GB.set {w:World} {G:Nat} {t:TypeId} {c:Array Value} (h:GB w G t c) (i:Nat) (v:Value):GB (w.setCell (aD G i) v) G t (c.setIfInBounds i v):=by
 unfold GB at *;rw[setCell_eq_setRow w G i c t (0,0) v h];exact setRow_heap w G c _ t _ h
theorem GB.of {w w':World} {G:Nat} {t:TypeId} {c:Array Value} (h:GB w G t c) (e:w'.heap[G]? = w.heap[G]?):GB w' G t c:=by
 unfold GB at *;rw[e];exact h
theorem heap_setCell {w:World} {a:Addr} {v:Value} {k:Nat} (h:k≠a.block):(w.setCell a v).heap[k]? = w.heap[k]?:=Below.heap_setCell _ _ _ _ h
theorem heap_alloc {w:World} {o:Obj} {k:Nat} (h:k<w.heap.size):(w.alloc o).heap[k]? = w.heap[k]?:=Below.heap_alloc _ _ _ h
structure CState (w00 w0 wr:World) (G tG tC tA tS n:Nat) (gc:Value->Value->Array Value) (ls:List ClauseV) (k:Nat) (v:Value) (A:Nat->Nat):Prop where
 bel:Below w00.heap.size w00 wr
 oth:∀ j,j<w0.heap.size->j≠G->wr.heap[j]? = w0.heap[j]?
 siz:w0.heap.size<wr.heap.size
 g:GB wr G tG (gc (.slice (some (aD w0.heap.size 0)) (n+2) (n+2)) v)
 row:wr.rowIs w0.heap.size tC (n+2) (fun i=>if i<k then .slice (some (aD (A i) 0)) (ls.getD i lz).cs.length ((ls.getD i lz).cs.length+2) else .slice none 0 0)
 al:∀ i,i<k->w0.heap.size<A i/\GB wr (A i) tS (lentConds (ls.getD i lz).cs)
 own:wr.ownsRow w0.heap.size tA 1 v k ((List.range k).map fun i=>.slice (some (aD (A i) 0)) ((ls.getD i lz).cs.length+2) ((ls.getD i lz).cs.length+2))
structure CMid (w00 w0 wr w1:World) (G tG tC tS n:Nat) (gc:Value->Value->Array Value) (ls:List ClauseV) (k:Nat) (v v':Value) (A:Nat->Nat) (cs:List CondD):Prop where
 bel:Below w00.heap.size w00 w1
 oth:∀ j,j<w0.heap.size->j≠G->w1.heap[j]? = w0.heap[j]?
 siz:w0.heap.size<w1.heap.size
 siz':w0.heap.size<wr.heap.size
 g:GB w1 G tG (gc (.slice (some (aD w0.heap.size 0)) (n+2) (n+2)) v)
 row:w1.rowIs w0.heap.size tC (n+2) (fun i=>if i<k then .slice (some (aD (A i) 0)) (ls.getD i lz).cs.length ((ls.getD i lz).cs.length+2) else .slice none 0 0)
 al:∀ i,i<k->w0.heap.size<A i/\GB w1 (A i) tS (lentConds (ls.getD i lz).cs)
 new:GB w1 wr.heap.size tS (lentConds cs)
 sh:∃ g cap,v' = .slice (some (aD g 0)) (k+1) cap
theorem CState.mid {w00 w0 wr w1:World} {G tG tC tA tS n:Nat} {gc:Value->Value->Array Value} {ls:List ClauseV} {k:Nat} {v v':Value} {A:Nat->Nat} {cs:List CondD} {Y:Obj} {xs:List Value}
  (h:CState w00 w0 wr G tG tC tA tS n gc ls k v A) (hAC:tA≠tC) (hAS:tA≠tS) (hG:G<w0.heap.size) (hGo:w00.heap.size<=G)
  (hown:w1.ownsRow w0.heap.size tA 1 v' (k+1) xs) (_hx:xs.length=k+1) (hgr:((wr.alloc (.cells (lentConds cs) tS)).alloc Y).grownBy w1 v.ownBlock) :
  CMid w00 w0 wr w1 G tG tC tS n gc ls k v v' A cs:=by
 have hlt:=h.own.lt;have hsz:=h.siz;have hblk:∀ j,j<wr.heap.size->some j≠v.ownBlock->w1.heap[j]? = wr.heap[j]?:=fun j hj hne=>by
  rw[hgr.block j (by simp; omega) hne,heap_alloc (by simp; omega),heap_alloc hj]
 have hty:∀ j c t,wr.heap[j]? = some (.cells c t (0,0))->t≠tA->some j≠v.ownBlock:=fun j c t hj ht he=>by
  rcases h.own.2 with⟨rfl,_⟩ | ⟨g,cap,cur,rfl,_,hh,_⟩
  ·simp[Value.ownBlock] at he
  ·simp[Value.ownBlock] at he;subst he;rw[hh] at hj;simp at hj;exact ht hj.2.symm
 have hlow:∀ j,j<w0.heap.size->some j≠v.ownBlock:=fun j hj he=>by
  have:=hlt j he.symm;omega
 refine⟨?_,fun j hj hne=>?_,?_,hsz,?_,?_,fun i hi=>⟨(h.al i hi).1,?_⟩,?_,?_⟩
 ·have b1:=(h.bel.alloc h.bel.size (.cells (lentConds cs) tS))
  have b2:=b1.alloc b1.size Y;exact b2.grown hgr (by have:=h.bel.size; simp; omega) (fun j hj=>by have:=hlt j hj; omega)
 ·rw[hblk j (by omega) (hlow j hj)];exact h.oth j hj hne
 ·have:=hgr.size;simp at this;omega
 ·exact h.g.of (hblk G (by omega) (hlow G hG))
 ·obtain⟨c,hc,hs,hv⟩:=h.row;exact⟨c,(hblk _ hsz (hty _ _ _ hc (Ne.symm hAC))).trans hc,hs,hv⟩
 ·have hA:=(h.al i hi).2;exact hA.of (hblk _ hA.lt (hty _ _ _ hA (Ne.symm hAS)))
 ·show w1.heap[wr.heap.size]? = _
  rw[hgr.block wr.heap.size (by simp; omega) (fun he=>by have:=hlt _ he.symm; omega),heap_alloc (by simp),bQ3]
 ·rcases hown.2 with⟨_,hnil⟩ | ⟨g,cap,cur,hv,_⟩
  ·omega
  ·exact⟨g,cap,hv⟩
theorem CMid.next {w00 w0 wr w1:World} {G tG tC tA tS n:Nat} {gc:Value->Value->Array Value} {ls:List ClauseV} {k:Nat} {v v':Value} {A:Nat->Nat} {cs:List CondD}
  (M:CMid w00 w0 wr w1 G tG tC tS n gc ls k v v' A cs) (hgc:∀ x y y',(gc x y).setIfInBounds 12 y' = gc x y') (hG:G<w0.heap.size) (hGo:w00.heap.size<=G) (hcs:(ls.getD k lz).cs=cs)
  (hAC:tA≠tC) (_hAS:tA≠tS) (_hAG:tA≠tG)
  (hown:w1.ownsRow w0.heap.size tA 1 v' (k+1) (((List.range k).map fun i=>Value.slice (some (aD (A i) 0)) ((ls.getD i lz).cs.length+2) ((ls.getD i lz).cs.length+2))++[Value.slice (some (aD wr.heap.size 0)) (cs.length+2) (cs.length+2)])) :
  CState w00 w0 ((w1.setCell (aD G 12) v').setCell (aD w0.heap.size k) (.slice (some (aD wr.heap.size 0)) cs.length (cs.length+2))).drew G tG tC tA tS n gc ls (k+1) v' (fun i=>if i=k then wr.heap.size else A i):=by
 have hs':=M.siz';have hs1:=M.siz;have hAne:∀ i,i<k->A i≠wr.heap.size∨True:=fun _ _=>.inr trivial
 have hblk:∀ j,j≠G->j≠w0.heap.size->(((w1.setCell (aD G 12) v').setCell (aD w0.heap.size k) (.slice (some (aD wr.heap.size 0)) cs.length (cs.length+2))).drew).heap[j]? = w1.heap[j]?:=fun j h1 h2=>by
  show ((w1.setCell (aD G 12) v').setCell (aD w0.heap.size k) _).heap[j]? = _
  rw[heap_setCell h2,heap_setCell h1]
 refine⟨?_,fun j hj hne=>?_,?_,?_,?_,fun i hi=>?_,?_⟩
 ·have hb0:=M.bel.size;exact ((M.bel.setCell (p:=(aD G 12)) hGo v').setCell (p:=(aD w0.heap.size k)) (by show w00.heap.size<=w0.heap.size; omega) _).drew
 ·rw[hblk j hne (by omega)];exact M.oth j hj hne
 ·simpa using hs1
 ·have h1:=M.g.set 12 v';rw[hgc] at h1;exact h1.of (by show ((w1.setCell (aD G 12) v').setCell (aD w0.heap.size k) _).heap[G]? = _; rw[heap_setCell (by show G≠w0.heap.size; omega)])
 ·have h1:=(M.row.setOther (a:=(aD G 12)) (by show w0.heap.size≠G; omega) v').set k (.slice (some (aD wr.heap.size 0)) cs.length (cs.length+2));refine (h1.drew).congr fun i hi=>?_
  by_cases hik:i=k
  ·subst hik;simp only[if_true,show i<i+1 by omega];rw[hcs]
  ·simp only[hik,if_false];by_cases h2:i<k
   ·rw[if_pos h2,if_pos (by omega)]
   ·rw[if_neg h2,if_neg (by omega)]
 ·by_cases hik:i=k
  ·subst hik;simp only[if_true];refine⟨hs',?_⟩;rw[hcs];exact M.new.of (hblk _ (by omega) (by omega))
  ·simp only[hik,if_false];have hA:=M.al i (by omega);exact⟨hA.1,hA.2.of (hblk _ (by omega) (by omega))⟩
 ·have e:((List.range (k+1)).map fun i=>Value.slice (some ⟨(fun i=>if i=k then wr.heap.size else A i) i,0,none⟩) ((ls.getD i lz).cs.length+2) ((ls.getD i lz).cs.length+2)) =
    (((List.range k).map fun i=>Value.slice (some (aD (A i) 0)) ((ls.getD i lz).cs.length+2) ((ls.getD i lz).cs.length+2))++[Value.slice (some (aD wr.heap.size 0)) (cs.length+2) (cs.length+2)]):=by
   rw[List.range_succ,List.map_append];congr 1
   ·apply List.map_congr_left;intro i hi;have:i<k:=List.mem_range.1 hi;have hne:¬ i=k:=by omega
    simp[hne]
   ·simp[<- hcs]
  rw[e];have n1:v'.ownBlock≠some G:=fun he=>by have:=hown.lt _ he; omega
  have n2:v'.ownBlock≠some w0.heap.size:=fun he=>by
   obtain⟨c,hc,_⟩:=M.row;rcases hown.2 with⟨rfl,_⟩ | ⟨g,cap,cur,rfl,_,hh,_⟩
   ·simp[Value.ownBlock] at he
   ·simp[Value.ownBlock] at he;subst he;rw[hh] at hc;simp at hc;exact hAC hc.2
  exact (ownsRow_setCell_other (ownsRow_setCell_other hown n1 v') n2 _).drew
theorem Kept.drewN {s:Nat->Prop} (W:World) (n:Nat):Kept s W (W.drewN n):=Kept.of_below (below_drewN (Below.refl W.heap.size W) n) (fun _ hb _=>hb)
theorem GB.alloc (w:World) (c:Array Value) (t:TypeId):GB (w.alloc (.cells c t)) w.heap.size t c:=bQ3 w _
theorem GB.keep {w w':World} {G:Nat} {t:TypeId} {c:Array Value} {s:Nat->Prop} (h:GB w G t c) (hk:Kept s w w') (hs:s G):GB w' G t c:=h.of (hk.block G h.lt hs)
structure CLent (w00 w0 w':World) (G tG tC tA tS n:Nat) (gc:Value->Value->Value->Array Value) (ls:List ClauseV) (v:Value) (A:Nat->Nat) (b1 b2:Nat):Prop where
 bel:Below w00.heap.size w00 w'
 oth:∀ j,j<w0.heap.size->j≠G->w'.heap[j]? = w0.heap[j]?
 siz:w0.heap.size<w'.heap.size
 g:GB w' G tG (gc (.slice (some (aD w0.heap.size 0)) n (n+2)) (.slice (some (aD w0.heap.size 0)) (n+2) (n+2)) v)
 row:w'.rowIs w0.heap.size tC (n+2) (fun i=>if i<n then .slice (some (aD (A i) 0)) (ls.getD i lz).cs.length ((ls.getD i lz).cs.length+2) else if i=n then .slice (some (aD b1 0)) 1 1 else .slice (some (aD b2 0)) 1 1)
 al:∀ i,i<n->w0.heap.size<A i/\GB w' (A i) tS (lentConds (ls.getD i lz).cs)
 own:w'.ownsRow w0.heap.size tA 1 v n ((List.range n).map fun i=>.slice (some (aD (A i) 0)) ((ls.getD i lz).cs.length+2) ((ls.getD i lz).cs.length+2))
 k1:w0.heap.size<b1/\GB w' b1 tS ic.toArray
 k2:w0.heap.size<b2/\GB w' b2 tS ic.toArray
theorem CState.fin {w00 w0 wr:World} {G tG tC tA tS n:Nat} {gc:Value->Value->Array Value} {gc':Value->Value->Value->Array Value} {ls:List ClauseV} {v:Value} {A:Nat->Nat}
  (h:CState w00 w0 wr G tG tC tA tS n gc ls n v A) (hgc:∀ x y z,(gc y z).setIfInBounds 2 x=gc' x y z) (hG:G<w0.heap.size) (hGo:w00.heap.size<=G) (hAC:tA≠tC) :
  CLent w00 w0 (((((wr.setCell (aD w0.heap.size n) (.slice (some (aD wr.heap.size 0)) 1 1)).setCell (aD w0.heap.size (n+1)) (.slice (some (aD (wr.heap.size+1) 0)) 1 1)).setCell (aD G 2) (.slice (some (aD w0.heap.size 0)) n (n+2))).alloc
   (.cells ic.toArray tS)).alloc (.cells ic.toArray tS)) G tG tC tA tS n gc' ls v A wr.heap.size (wr.heap.size+1):=by
 have hs:=h.siz;have hb0:=h.bel.size
 let w1:=((wr.setCell (aD w0.heap.size n) (.slice (some (aD wr.heap.size 0)) 1 1)).setCell (aD w0.heap.size (n+1)) (.slice (some (aD (wr.heap.size+1) 0)) 1 1)).setCell (aD G 2) (.slice (some (aD w0.heap.size 0)) n (n+2))
 have hw1:w1.heap.size=wr.heap.size:=by simp[w1]
 have hblk1:∀ j,j≠G->j≠w0.heap.size->w1.heap[j]? = wr.heap[j]?:=fun j h1 h2=>by
  show (((wr.setCell (aD w0.heap.size n) _).setCell (aD w0.heap.size (n+1)) _).setCell (aD G 2) _).heap[j]? = _
  rw[heap_setCell h1,heap_setCell h2,heap_setCell h2]
 have hup:∀ j,j<wr.heap.size->((w1.alloc (.cells ic.toArray tS)).alloc (.cells ic.toArray tS)).heap[j]? = w1.heap[j]?:=fun j hj=>by
  rw[heap_alloc (by simp[hw1]; omega),heap_alloc (by omega)]
 have hblk:∀ j,j<wr.heap.size->j≠G->j≠w0.heap.size->((w1.alloc (.cells ic.toArray tS)).alloc (.cells ic.toArray tS)).heap[j]? = wr.heap[j]?:=fun j hj h1 h2=>(hup j hj).trans (hblk1 j h1 h2)
 show CLent w00 w0 ((w1.alloc (.cells ic.toArray tS)).alloc (.cells ic.toArray tS)) G tG tC tA tS n gc' ls v A wr.heap.size (wr.heap.size+1)
 have hbel1:Below w00.heap.size w00 w1:=((h.bel.setCell (p:=(aD w0.heap.size n)) (by show w00.heap.size<=w0.heap.size; omega) _).setCell (p:=(aD w0.heap.size (n+1))) (by show w00.heap.size<=w0.heap.size; omega) _).setCell (p:=(aD G 2)) hGo _;refine⟨?_,fun j hj hne=>?_,?_,?_,?_,fun i hi=>?_,?_,⟨by omega,?_⟩,⟨by omega,?_⟩⟩
 ·have b1:=hbel1.alloc hbel1.size (.cells ic.toArray tS);exact b1.alloc b1.size _
 ·rw[hblk j (by omega) hne (by omega)];exact h.oth j hj hne
 ·simp[hw1]; omega
 ·have h1:GB ((wr.setCell (aD w0.heap.size n) (.slice (some (aD wr.heap.size 0)) 1 1)).setCell (aD w0.heap.size (n+1)) (.slice (some (aD (wr.heap.size+1) 0)) 1 1)) G tG (gc (.slice (some (aD w0.heap.size 0)) (n+2) (n+2)) v):=
   h.g.of (by rw[heap_setCell (by show G≠w0.heap.size; omega),heap_setCell (by show G≠w0.heap.size; omega)])
  have h2:=h1.set 2 (.slice (some (aD w0.heap.size 0)) n (n+2));rw[hgc] at h2;exact GB.of (w:=w1) h2 (hup G (by omega))
 ·have h1:=((h.row.set n (.slice (some (aD wr.heap.size 0)) 1 1)).set (n+1) (.slice (some (aD (wr.heap.size+1) 0)) 1 1)).setOther (a:=(aD G 2)) (by show w0.heap.size≠G; omega) (.slice (some (aD w0.heap.size 0)) n (n+2));refine ((h1.alloc _).alloc _).congr fun i hi=>?_
  by_cases h3:i<n
  ·simp only[if_neg (show ¬ i=n+1 by omega),if_neg (show ¬ i=n by omega),if_pos h3]
  ·by_cases h4:i=n
   ·subst h4;simp
   ·have h5:i=n+1:=by omega
    subst h5;simp
 ·have hA:=h.al i hi;exact⟨hA.1,hA.2.of (hblk _ hA.2.lt (by omega) (by omega))⟩
 ·have n1:v.ownBlock≠some G:=fun he=>by have:=h.own.lt _ he; omega
  have n2:v.ownBlock≠some w0.heap.size:=fun he=>by
   obtain⟨c,hc,_⟩:=h.row;rcases h.own.2 with⟨rfl,_⟩ | ⟨g,cap,cur,rfl,_,hh,_⟩
   ·simp[Value.ownBlock] at he
   ·simp[Value.ownBlock] at he;subst he;rw[hh] at hc;simp at hc;exact hAC hc.2
  exact ((ownsRow_setCell_other (ownsRow_setCell_other (ownsRow_setCell_other h.own n2 _) n2 _) n1 _).alloc _).alloc _
 ·show ((w1.alloc (.cells ic.toArray tS)).alloc (.cells ic.toArray tS)).heap[wr.heap.size]? = _
  rw[heap_alloc (by simp[hw1]),<- hw1,bQ3]
 ·show ((w1.alloc (.cells ic.toArray tS)).alloc (.cells ic.toArray tS)).heap[wr.heap.size+1]? = _
  have:wr.heap.size+1=(w1.alloc (.cells ic.toArray tS)).heap.size:=by simp[hw1]
  rw[this,bQ3]
theorem CState.start {w00 w:World} {G tG tC tA tS n:Nat} {c:Array Value} {gc:Value->Value->Array Value} {ls:List ClauseV}
  (hb:Below w00.heap.size w00 w) (hGo:w00.heap.size<=G) (hG:GB w G tG c) (hgc:c.setIfInBounds 11 (.slice (some (aD w.heap.size 0)) (n+2) (n+2))=gc (.slice (some (aD w.heap.size 0)) (n+2) (n+2)) (.slice none 0 0)) :
  CState w00 w ((w.setCell (aD G 11) (.slice (some (aD w.heap.size 0)) (n+2) (n+2))).alloc (.cells (madeCells #[.slice none 0 0] (n+2)) tC)) G tG tC tA tS n gc ls 0 (.slice none 0 0) (fun _=>0):=by
 have hlt:=hG.lt;have hb1:=hb.setCell (p:=(aD G 11)) hGo (.slice (some (aD w.heap.size 0)) (n+2) (n+2));refine⟨hb1.alloc hb1.size _,fun j hj hne=>?_,by simp,?_,?_,fun i hi=>absurd hi (by omega),World.ownsRow_nil _ _ _ _⟩
 ·rw[heap_alloc (by simpa using hj),heap_setCell hne]
 ·have h1:=hG.set 11 (.slice (some (aD w.heap.size 0)) (n+2) (n+2));rw[hgc] at h1;exact h1.of (heap_alloc (by simpa using hlt))
 ·have h1:=World.rowIs_made (w.setCell (aD G 11) (.slice (some (aD w.heap.size 0)) (n+2) (n+2))) (.slice none 0 0) (n+2) tC;rw[World.size_setCell] at h1;exact h1.congr fun i hi=>by simp
structure Pre (w w2:World) (G tG:Nat) (c:Array Value) (bs:List (Nat × Obj)):Prop where
 bel:Below w.heap.size w w2
 lo:w.heap.size<=G
 g:GB w2 G tG c
 bs:∀ p,p∈bs->p.1≠G/\w.heap.size<=p.1/\w2.heap[p.1]? = some p.2
theorem Pre.store {w w2:World} {G tG:Nat} {c:Array Value} {bs:List (Nat × Obj)} (h:Pre w w2 G tG c bs) (i:Nat) (v:Value):Pre w (w2.setCell (aD G i) v) G tG (c.setIfInBounds i v) bs:=
 ⟨h.bel.setCell (p:=(aD G i)) h.lo v,h.lo,h.g.set i v,fun p hp=>⟨(h.bs p hp).1,(h.bs p hp).2.1,(heap_setCell (h.bs p hp).1).trans (h.bs p hp).2.2⟩⟩
theorem Pre.alloc {w w2:World} {G tG:Nat} {c:Array Value} {bs:List (Nat × Obj)} (h:Pre w w2 G tG c bs) (o:Obj):Pre w (w2.alloc o) G tG c ((w2.heap.size,o)::bs):=by
 have hG:=h.g.lt;refine⟨h.bel.alloc h.bel.size o,h.lo,h.g.of (heap_alloc hG),fun p hp=>?_⟩;rcases List.mem_cons.1 hp with rfl | hp
 ·exact⟨by show w2.heap.size≠G; omega,h.bel.size,bQ3 w2 o⟩
 ·have hb:=h.bs p hp;exact⟨hb.1,hb.2.1,(heap_alloc (Array.getElem?_eq_some_iff.1 hb.2.2).1).trans hb.2.2⟩
theorem Pre.move {w w2 w3:World} {G tG:Nat} {c c':Array Value} {bs:List (Nat × Obj)} (h:Pre w w2 G tG c bs) (hb:Below w.heap.size w w3) (ho:∀ j,j<w2.heap.size->j≠G->w3.heap[j]? = w2.heap[j]?) (hg:GB w3 G tG c'):Pre w w3 G tG c' bs:=
 ⟨hb,h.lo,hg,fun p hp=>⟨(h.bs p hp).1,(h.bs p hp).2.1,(ho p.1 (Array.getElem?_eq_some_iff.1 (h.bs p hp).2.2).1 (h.bs p hp).1).trans (h.bs p hp).2.2⟩⟩
theorem Pre.drop {w w2:World} {G tG:Nat} {c:Array Value} {bs bs':List (Nat × Obj)} (h:Pre w w2 G tG c bs) (hs:∀ p,p∈bs'->p∈bs):Pre w w2 G tG c bs':=⟨h.bel,h.lo,h.g,fun p hp=>h.bs p (hs p hp)⟩
theorem Pre.at {w w2:World} {G tG:Nat} {c:Array Value} {bs:List (Nat × Obj)} (h:Pre w w2 G tG c bs) {b t:Nat} {d:Array Value} (hm:(b,Obj.cells d t (0,0))∈bs):GB w2 b t d:=(h.bs _ hm).2.2
theorem Pre.start (w:World) (o:Obj) (c:Array Value) (tG:Nat) (k:Obj):Pre w (((w.alloc o).alloc (.cells c tG)).alloc k) (w.heap.size+1) tG c [(w.heap.size+2,k),(w.heap.size,o)]:=by
 have e1:(w.alloc o).heap.size=w.heap.size+1:=by simp
 have h0:Pre w ((w.alloc o).alloc (.cells c tG)) (w.heap.size+1) tG c [(w.heap.size,o)]:=by
  refine⟨bQ1 (bQ2 _ _) (bQ2 _ _),by omega,?_,fun p hp=>?_⟩
  ·show ((w.alloc o).alloc (.cells c tG)).heap[w.heap.size+1]? = _
   rw[<- e1,bQ3]
  ·rw[List.mem_singleton] at hp;subst hp;exact⟨by show w.heap.size≠w.heap.size+1; omega,Nat.le_refl _,(heap_alloc (by omega)).trans (bQ3 w o)⟩
 have h1:=h0.alloc k;have e2:((w.alloc o).alloc (.cells c tG)).heap.size=w.heap.size+2:=by simp
 rw[e2] at h1;exact h1
theorem ownsRow_move {w w':World} {base base':Nat} {e:TypeId} {size:Nat} {v:Value} {n:Nat} {xs:List Value} (h:w.ownsRow base e size v n xs) (hb:base'<=base) (ho:∀ j,base<=j->j<w.heap.size->w'.heap[j]? = w.heap[j]?):w'.ownsRow base' e size v n xs:=by
 obtain⟨h1,h2⟩:=h;refine⟨h1,?_⟩;rcases h2 with h2 | ⟨g,cap,cur,hv,hg,hh,r⟩
 ·exact Or.inl h2
 ·exact Or.inr ⟨g,cap,cur,hv,Nat.le_trans hb hg,(ho g hg (Array.getElem?_eq_some_iff.1 hh).1).trans hh,r⟩
def zn:List Value:=[.int .i64 0,.int .i64 0,.int .i64 0,.int .i64 0,.slice none 0 0,.int .i64 0,.slice none 0 0]
def nk:List Value:=[.int .i64 77777,.int .i64 0,.int .i64 0,.int .i64 0,.slice none 0 0,.int .i64 0,.slice none 0 0]
end Go.Scout
