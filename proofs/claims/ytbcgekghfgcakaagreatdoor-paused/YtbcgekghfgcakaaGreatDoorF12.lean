import Derived.Test.YtbcgekghfgcakaaGreatDoorF11
set_option linter.all false
set_option maxRecDepth 100000
set_option maxHeartbeats 16000000
namespace Go.Proofs.Zz
open Go.RowKit Go.Shelf
theorem iJ {e:TypeId} {base n sz:Nat} {v:Value} {xs:List Value} {W:World} (h:W.ownsRow base e sz v n xs) {b:Nat} (hb:v.ownBlock=some b):∃ cur,W.heap[b]? = some (.cells cur e (0,0)):=by
 rcases h.2 with⟨rfl,_⟩ | ⟨g,cap,cur,rfl,_,h3,_⟩
 ·cases hb
 ·cases hb
  exact⟨cur,h3⟩
theorem lF {e t:TypeId} (ht:e≠t) {base n sz:Nat} {v:Value} {xs:List Value} {W:World} (h:W.ownsRow base e sz v n xs) {b:Nat} {c:Array Value} (hg:GB W b t c):v.ownBlock≠some b:=fun hb=>by
 obtain⟨cur,hc⟩:=iJ h hb;unfold GB at hg;rw[hc] at hg;injection hg with hg;injection hg with _ hg;exact ht hg
theorem vo {e t:TypeId} (ht:e≠t) {base base' n n' sz sz':Nat} {v v':Value} {xs xs':List Value} {W:World} (h:W.ownsRow base e sz v n xs) (h':W.ownsRow base' t sz' v' n' xs') {b:Nat} (hb:v.ownBlock=some b):v'.ownBlock≠some b:=fun hb'=>by
 obtain⟨cur,hc⟩:=iJ h hb;obtain⟨cur',hc'⟩:=iJ h' hb';rw[hc] at hc';injection hc' with hg;injection hg with _ hg;exact ht hg
theorem vw {W w5:World} {bf:Nat} {tF e:TypeId} (ht:e≠tF) {cells:Array Value} (hg:GB W bf tF cells) {base sz n n':Nat} {v v':Value} {xs xs':List Value} (ho:W.ownsRow base e sz v n xs) (lD:w5.ownsRow base e sz v' n' xs') (hk:Kept (fun b=>v.ownBlock≠some b) W w5)
  (hat:v'.ownBlock=v.ownBlock∨v'.ownBlock=some (W.heap.size+1)) (i:Nat) :
  GB w5 bf tF cells/\GB (w5.setCell (aD bf i) v') bf tF (cells.setIfInBounds i v')/\(w5.setCell (aD bf i) v').ownsRow base e sz v' n' xs'/\Kept (fun b=>b≠bf/\v.ownBlock≠some b) W (w5.setCell (aD bf i) v'):=by
 have hne:=lF ht ho hg;have hg5:=hg.keep hk hne;have hlt:=hg.lt;have hne':v'.ownBlock≠some bf:=fun e=>by
  rcases hat with h | h
  ·rw[h] at e; exact hne e
  ·rw[h] at e; injection e with e; omega
 refine⟨hg5,hg5.set i v',?_,(hk.mono fun _ _ h=>h.2).trans (Zv _ _ _ (fun h=>h.1 rfl))⟩;exact Zx lD (s:=fun b=>b≠bf) (Zv _ _ _ (fun h=>h rfl)) (fun g hg' e=>hne' (by rw[hg',e]))
theorem Rj (ts:List af) (src:List Int) (k m:Nat):(bH ts src k++((List.range (m+1)).map fun m=>(k,(ts.getD (src.getD k 0).toNat tz).kd m))).flatMap iq=(bH ts src k++((List.range m).map fun m=>(k,(ts.getD (src.getD k 0).toNat tz).kd m))).flatMap iq++iq (k,(ts.getD (src.getD k 0).toNat tz).kd m):=by
 rw[QR,Ql,<- QC,QS];simp
def kS (ts:List af) (src:List Int) (k:Nat):List Nat:=(List.range k).map fun (k:Nat)=>pJ ts src (k:Int)
theorem Hq (ts:List af) (src:List Int) (k:Nat):kS ts src (k+1)=kS ts src k++[pJ ts src (k:Int)]:=by
 unfold kS;rw[QR,Ql];rfl
theorem l9 (ts:List af) (src:List Int) (k:Nat):(kS ts src k).length=k:=by unfold kS; simp
theorem xy {ts:List af} {src:List Int} (hc:fo ts=true) (ha:bG src ts.length=true) (h:src.length<=64):∀ k,k<=src.length->(bH ts src k).length<=4*k
 | 0,_ => by simp[bH]
 | k+1,hk => by
  have ih:=xy hc ha h k (by omega);rw[jo,QT,QU,QV];obtain⟨h0,h1⟩:=uX ha (k:=k) (by omega);have ht:=uU hc (i:=(src.getD k 0).toNat) (by omega);unfold dC at ht;rw[Qx] at ht;omega
