import Derived.Shelf.Spec.SlicesGrow
import Derived.Laws.AppendOwnNone
import Derived.Laws.CopyOwn
import Derived.Deep.OwnRows
import Derived.Test.YtlpbelhfpoilpaaGreatDoorC01
import Derived.Test.YtlpbelhfpoilpaaGreatDoorC06
set_option linter.all false
set_option maxRecDepth 100000
set_option maxHeartbeats 16000000
namespace Go.Scout
open Go.RowKit
theorem IntsAt.keep {A B:World} {ao:Option Addr} {xs:List Int} (h:IntsAt A ao xs) (hb:∀ a,ao=some a->a.block<A.heap.size->B.heap[a.block]? = A.heap[a.block]?):IntsAt B ao xs:=⟨h.1,h.2.keep hb⟩
end Go.Scout
namespace Go.Proofs.YtlpbelhfpoilpaaGreatDoor
open Go.RowKit Go.Scout Go.Shelf
theorem Tryz.infoInt:(Tryz.prog.info? 3).map (fun i=>(i.zero,i.size,i.bytes))=some (some (.int .i64 0),1,8):=by kernel_rfl
end Go.Proofs.YtlpbelhfpoilpaaGreatDoor
namespace Go.Scout
open Go.RowKit
theorem Gathered.had {n0:Nat} {w:World} {e:TypeId} {ys:List IntsV} {o:Nat->Prop} {W:World} {v:Value} (h:Gathered rowEl n0 w e ys o W v) (hl:ys.length<=1000000) :
  ∃ ad cap,v=.slice ad ys.length cap/\RowsHad W ad ys/\∀ a,ad=some a->w.heap.size<a.block:=by
 have hat:∀ i,i<ys.length->rowEl.At (ys.getD i iz) W:=fun i hi=>by
  have:ys.getD i iz∈ys:=by simp[List.getD,hi]
  exact h.at' _ this
 have hrn:ys.map IntsV.val=ys.map IntsV.val:=rfl;rcases h.own.2 with⟨hv,h0⟩ | ⟨g,cap,cur,hv,hb,hh,hc1,hc2,hc3,ht⟩
 ·have:ys=[]:=List.eq_nil_of_length_eq_zero h0;subst this;exact⟨none,0,hv,⟨⟨by simp,fun i hi=>absurd hi (by simp),fun i hi=>absurd hi (by simp)⟩,(fun a ha=>by cases ha),fun i hi=>absurd hi (by simp)⟩,fun a ha=>by cases ha⟩
 ·refine⟨some (aD g 0),cap,hv,⟨⟨by omega,fun i hi=>⟨g,0,rfl,?_⟩,fun i hi=>(hat i hi).1⟩,fun a ha=>?_,hat⟩,fun a ha=>by cases ha; exact hb⟩
  ·have h2:(cur.toList.take (ys.length*1))[i]? = some (ys.getD i iz).val:=by
    rw[ht];simp[List.getD,hi]
   have h3:cur[i]? = some (ys.getD i iz).val:=by
    rw[List.getElem?_take] at h2;split at h2
    ·simpa using h2
    ·cases h2
   simp only[World.cell?,hh]
   simpa using h3
  ·cases ha; exact (Array.getElem?_eq_some_iff.1 hh).1
theorem RowsHad.keep {A B:World} {ao:Option Addr} {rs:List IntsV} (h:RowsHad A ao rs) (hs:A.heap.size<=B.heap.size) (h1:∀ a,ao=some a->B.heap[a.block]? = A.heap[a.block]?) (h2:∀ i,i<rs.length->∀ b,rowEl.blk (rs.getD i iz)=some b->B.heap[b]? = A.heap[b]?):RowsHad B ao rs:=by
 have hat:∀ i,i<rs.length->rowEl.At (rs.getD i iz) B:=fun i hi=>rowEl.keep (h.2.2 i hi) hs (fun b _ hb=>h2 i hi b hb)
 exact⟨⟨h.1.1,h.1.2.1.keep (fun a ha _=>h1 a ha),fun i hi=>(hat i hi).1⟩,fun a ha=>Nat.lt_of_lt_of_le (h.2.1 a ha) hs,hat⟩
end Go.Scout
namespace Go.Proofs.YtlpbelhfpoilpaaGreatDoor
open Go.RowKit Go.Scout Go.Shelf
attribute [local go_sem] Oper.semAt_some
end Go.Proofs.YtlpbelhfpoilpaaGreatDoor
namespace Go.Scout
open Go.RowKit
theorem bQ3 (w:World) (o:Obj):(w.alloc o).heap[w.heap.size]? = some o:=by
 show (w.heap.push o)[w.heap.size]? = _
 simp
theorem setRow_alloc (w:World) (c cs:Array Value) (t:TypeId):(w.alloc (.cells c t)).setRow w.heap.size cs=w.alloc (.cells cs t):=by
 unfold World.setRow World.alloc;simp only[World.mk.injEq,and_true];apply Array.ext_getElem?;intro i;rw[Array.getElem?_modify,Array.getElem?_push,Array.getElem?_push];by_cases h:i=w.heap.size
 ·subst h;simp
 ·have:¬ w.heap.size=i:=fun e=>h e.symm
  simp[h,this]
theorem setCell_alloc (w:World) (c:Array Value) (t:TypeId) (i:Nat) (v:Value):(w.alloc (.cells c t)).setCell (aD w.heap.size i) v=w.alloc (.cells (c.setIfInBounds i v) t):=by
 rw[setCell_eq_setRow (w.alloc (.cells c t)) w.heap.size i c t (0,0) v (bQ3 w _),setRow_alloc]
theorem addr_add (b off j:Nat):((aD b off):Addr).add j=(aD b (off+j)):=by unfold Addr.add; split <;> simp_all
theorem run_copy_wide {P:Program} (w:World) (dT sT ty elem:TypeId) (size g dLen dCap:Nat) (sp:Option Addr) (sLen sCap:Nat) (cur:Array Value) (t:TypeId) (cs:List Value)
  (hu:P.underlying dT=some (.slice elem)) (hs:(P.info? elem).map (·.size)=some size) (hg:w.heap[g]? = some (.cells cur t (0,0))) (hle:sLen<=dLen) (hn:cs.length=sLen*size)
  (hsrc:0<cs.length->∃ a,sp=some a/\∀ j v,cs[j]? = some v->w.cell? (a.add j)=some v) (hfit:cs.length<=cur.size) (h1:∀ v∈cs,v.oneCell' = true) :
  (Builtin.copy_ #[dT,sT] ty #[.slice (some (aD g 0)) dLen dCap,.slice sp sLen sCap]).run P w=.ok (goInt sLen) (w.setRow g (cs++cur.toList.drop cs.length).toArray):=by
 have hst:=run_storeCells_at P g 0 t cs 0 cur w hg (by simpa using hfit) h1;have hmin:Nat.min sLen dLen=sLen:=Nat.min_eq_left hle
 cases hq:P.info? elem with
 | none => simp[hq] at hs
 | some i =>
  have hi:i.size=size:=by simpa [hq] using hs
  by_cases h0:cs.length=0
  ·obtain rfl:cs=[]:=List.eq_nil_of_length_eq_zero h0;have hself:w.setRow g cur=w:=setRow_self w g cur t (0,0) hg;have hl:∀ (x:Addr),(loadCells x (sLen*size)).run P w=.ok #[] w:=fun x=>by
    rw[<- hn]
    simpa using run_loadCells_list (P:=P) w x [] (by simp)
   cases sp <;> simp[Builtin.copy_,run_underlying hu,Builtin.lenOf,Builtin.firstCells,sizeOf,typeInfo,hq,hi,hmin,storeCells,hl,hself]
  ·obtain⟨a,rfl,hc⟩:=hsrc (by omega);have hl:=run_loadCells_list (P:=P) w a cs hc;rw[hn] at hl;simp[Builtin.copy_,run_underlying hu,Builtin.lenOf,Builtin.firstCells,sizeOf,typeInfo,hq,hi,hmin,hl,hst]
def lentCells (xs:List Int):Array Value:=(xs.map (Value.int .i64)++[Value.int .i64 77777,Value.int .i64 77777]).toArray
theorem madeCells_one (z:Value) (n:Nat):madeCells #[z] n=(List.replicate n z).toArray:=by
 apply Array.ext_getElem?;intro i;by_cases hi:i<n
 ·simp[madeCells,hi];simp[Nat.mod_one]
 ·simp[madeCells,hi]
def lend1 (xs:List Int):Array Value:=(xs.map (Value.int .i64)++[Value.int .i64 0,Value.int .i64 0]).toArray
def lend2 (xs:List Int):Array Value:=(xs.map (Value.int .i64)++[Value.int .i64 77777,Value.int .i64 0]).toArray
theorem lend1_at (xs:List Int):(lend1 xs)[xs.length]? = some (.int .i64 0):=by simp[lend1]
theorem lend2_at (xs:List Int):(lend2 xs)[xs.length+1]? = some (.int .i64 0):=by simp[lend2]
theorem lend1_set (xs:List Int):(lend1 xs).setIfInBounds xs.length (.int .i64 77777)=lend2 xs:=by
 simp only[lend1,lend2,List.setIfInBounds_toArray];rw[List.set_append_right _ _ (by simp)];simp
theorem lend2_set (xs:List Int):(lend2 xs).setIfInBounds (xs.length+1) (.int .i64 77777)=lentCells xs:=by
 simp only[lend2,lentCells,List.setIfInBounds_toArray];rw[List.set_append_right _ _ (by simp)];simp
theorem setCell_alloc_lend1 (w:World) (xs:List Int) (t:TypeId):(w.alloc (.cells (lend1 xs) t)).setCell (aD w.heap.size xs.length) (.int .i64 77777)=w.alloc (.cells (lend2 xs) t):=by rw[setCell_alloc,lend1_set]
theorem setCell_alloc_lend2 (w:World) (xs:List Int) (t:TypeId):(w.alloc (.cells (lend2 xs) t)).setCell (aD w.heap.size (xs.length+1)) (.int .i64 77777)=w.alloc (.cells (lentCells xs) t):=by rw[setCell_alloc,lend2_set]
theorem run_copy_lend {P:Program} (w:World) (dT elem:TypeId) (ao:Option Addr) (cap:Nat) (xs:List Int) (hx:IntsAt w ao xs) (hu:P.underlying dT=some (.slice elem)) (hs:(P.info? elem).map (·.size)=some 1) (ty:TypeId) :
  (Builtin.copy_ #[dT,dT] ty #[.slice (some (aD w.heap.size 0)) (xs.length+2) (xs.length+2),.slice ao xs.length cap]).run P (w.alloc (.cells (madeCells #[.int .i64 0] (xs.length+2)) elem)) =
   .ok (goInt xs.length) (w.alloc (.cells (lend1 xs) elem)):=by
 rw[run_copy_wide (w.alloc (.cells (madeCells #[.int .i64 0] (xs.length+2)) elem)) dT dT ty elem 1 w.heap.size (xs.length+2) (xs.length+2) ao xs.length cap (madeCells #[.int .i64 0] (xs.length+2)) elem (xs.map (Value.int .i64)) hu hs
  (bQ3 _ _) (by omega) (by simp) ?_ (by simp[size_madeCells]) ?_,setRow_alloc]
 ·congr 3;rw[madeCells_one];unfold lend1;congr 2;rw[List.length_map,List.drop_replicate,show xs.length+2-xs.length=2 by omega];rfl
 ·intro h0;have h0':0<xs.length:=by simpa using h0
  obtain⟨b,off,rfl,hc⟩:=hx.get h0';refine⟨(aD b off),rfl,fun j v hj=>?_⟩;have hjl:j<xs.length:=by
   have:=(List.getElem?_eq_some_iff.1 hj).1
   simpa using this
  have e:=cell_alloc (hc j hjl) (.cells (madeCells #[.int .i64 0] (xs.length+2)) elem);simp[hjl] at hj;subst hj;rw[addr_add]
  simpa [hjl] using e
 ·intro v hv;simp at hv;obtain⟨a,_,rfl⟩:=hv;rfl
def ownEl (e:TypeId):El IntsV (List Int) where
 enc:=IntsV.val
 At x W:=rowEl.At x W/\W.ownsRow 0 e 1 x.val x.xs.length (x.xs.map (Value.int .i64))
 blk:=rowEl.blk
 key:=IntsV.xs
 keep:=by
  rintro x A B ⟨h,ho⟩ hs hb;refine⟨rowEl.keep h hs hb,ho.1,?_⟩;rcases ho.2 with h | ⟨g,cap,cur,hv,hb',hg,h1,h2,h3,h4⟩
  ·exact .inl h
  ·refine .inr ⟨g,cap,cur,hv,hb',(hb g (Array.getElem?_eq_some_iff.1 hg).1 ?_).trans hg,h1,h2,h3,h4⟩;have:x.ad=some (aD g 0):=by
    have h:=hv;unfold IntsV.val at h;injection h
   show Option.map _ x.ad=_
   rw[this];rfl
 inn:=fun h hb=>rowEl.inn h.1 hb
end Go.Scout
namespace Go.Proofs.YtlpbelhfpoilpaaGreatDoor
open Go.RowKit Go.Scout
end Go.Proofs.YtlpbelhfpoilpaaGreatDoor
