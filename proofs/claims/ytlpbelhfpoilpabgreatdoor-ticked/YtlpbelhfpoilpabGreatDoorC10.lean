import Derived.Laws.ResultCell
import Derived.Deep.CutRange
import Derived.Test.YtlpbelhfpoilpabGreatDoorC09
set_option linter.all false
set_option maxRecDepth 100000
set_option maxHeartbeats 16000000
namespace Go.Scout
open Go.RowKit
theorem own_cellsN {e:TypeId} {base n sz:Nat} {v:Value} {xs:List Value} {W:World} (h:W.ownsRow base e sz v n xs) {b:Nat} (hb:v.ownBlock=some b):∃ cur,W.heap[b]? = some (.cells cur e (0,0)):=by
 rcases h.2 with⟨rfl,_⟩ | ⟨g,cap,cur,rfl,_,h3,_⟩
 ·cases hb
 ·cases hb
  exact⟨cur,h3⟩
theorem ownf_ne {e t:TypeId} (ht:e≠t) {base n sz:Nat} {v:Value} {xs:List Value} {W:World} (h:W.ownsRow base e sz v n xs) {b:Nat} {c:Array Value} (hg:GB W b t c):v.ownBlock≠some b:=fun hb=>by
 obtain⟨cur,hc⟩:=own_cellsN h hb;unfold GB at hg;rw[hc] at hg;injection hg with hg;injection hg with _ hg;exact ht hg
theorem ownf_ne2 {e t:TypeId} (ht:e≠t) {base base' n n' sz sz':Nat} {v v':Value} {xs xs':List Value} {W:World} (h:W.ownsRow base e sz v n xs) (h':W.ownsRow base' t sz' v' n' xs') {b:Nat} (hb:v.ownBlock=some b):v'.ownBlock≠some b:=fun hb'=>by
 obtain⟨cur,hc⟩:=own_cellsN h hb;obtain⟨cur',hc'⟩:=own_cellsN h' hb';rw[hc] at hc';injection hc' with hg;injection hg with _ hg;exact ht hg
theorem grown_in {W w5:World} {bf:Nat} {tF e:TypeId} (ht:e≠tF) {cells:Array Value} (hg:GB W bf tF cells) {base sz n n':Nat} {v v':Value} {xs xs':List Value} (ho:W.ownsRow base e sz v n xs) (ho5:w5.ownsRow base e sz v' n' xs') (hk:Kept (fun b=>v.ownBlock≠some b) W w5)
  (hat:v'.ownBlock=v.ownBlock∨v'.ownBlock=some (W.heap.size+1)) (i:Nat) :
  GB w5 bf tF cells/\GB (w5.setCell (aD bf i) v') bf tF (cells.setIfInBounds i v')/\(w5.setCell (aD bf i) v').ownsRow base e sz v' n' xs'/\Kept (fun b=>b≠bf/\v.ownBlock≠some b) W (w5.setCell (aD bf i) v'):=by
 have hne:=ownf_ne ht ho hg;have hg5:GB w5 bf tF cells:=hg.keep hk hne;have hlt:=hg.lt;have hne':v'.ownBlock≠some bf:=fun e=>by
  rcases hat with h | h
  ·rw[h] at e; exact hne e
  ·rw[h] at e; injection e with e; omega
 refine⟨hg5,hg5.set i v',?_,(hk.mono fun _ _ h=>h.2).trans (Kept.setCell _ _ _ (fun h=>h.1 rfl))⟩;exact ownsRow_keep ho5 (s:=fun b=>b≠bf) (Kept.setCell _ _ _ (fun h=>h rfl)) (fun g hg' e=>hne' (by rw[hg',e]))
theorem cols_next (ts:List TableD) (src:List Int) (k m:Nat):(colsTo ts src k++((List.range (m+1)).map fun m=>(k,(ts.getD (src.getD k 0).toNat tz).kd m))).flatMap colList=(colsTo ts src k++((List.range m).map fun m=>(k,(ts.getD (src.getD k 0).toNat tz).kd m))).flatMap colList++colList (k,(ts.getD (src.getD k 0).toNat tz).kd m):=by
 rw[List.range_succ,List.map_append,<- List.append_assoc,List.flatMap_append];simp
def rowsTo (ts:List TableD) (src:List Int) (k:Nat):List Nat:=(List.range k).map fun (k:Nat)=>rowsN ts src (k:Int)
theorem rowsTo_succ (ts:List TableD) (src:List Int) (k:Nat):rowsTo ts src (k+1)=rowsTo ts src k++[rowsN ts src (k:Int)]:=by
 unfold rowsTo;rw[List.range_succ,List.map_append];rfl
theorem rowsTo_len (ts:List TableD) (src:List Int) (k:Nat):(rowsTo ts src k).length=k:=by unfold rowsTo; simp
theorem colsTo_le {ts:List TableD} {src:List Int} (hc:catB ts=true) (ha:allB src ts.length=true) (h:src.length<=64):∀ k,k<=src.length->(colsTo ts src k).length<=4*k
 | 0,_ => by simp[colsTo]
 | k+1,hk => by
  have ih:=colsTo_le hc ha h k (by omega);rw[colsTo_succ,List.length_append,List.length_map,List.length_range];obtain⟨h0,h1⟩:=allB_get ha (k:=k) (by omega);have ht:=table_of hc (i:=(src.getD k 0).toNat) (by omega);unfold tableB at ht;rw[decide_eq_true_eq] at ht;omega
end Go.Scout
