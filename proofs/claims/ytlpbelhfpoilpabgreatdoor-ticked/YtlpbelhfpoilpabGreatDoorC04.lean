import Derived.RangeFuncRecord
import Derived.RangeFuncBound
import Derived.RangeFuncCalls
import Derived.RangeFuncLeaves
import Derived.Below
import Derived.RangeFuncNested
import Derived.Shelf.Abstract
import Derived.WalkKit
import Derived.OwnWalkIn
import Derived.TacticsInMore
import Derived.LoopNIn
import Derived.LoopIn
import Derived.Test.YtlpbelhfpoilpabGreatDoorProg
import Derived.Maps.OwnIn
import Derived.Maps.AppendAt
import Derived.OwnWalk
import Derived.Shelf.Spec.SlicesGrow
import Derived.Laws.AppendOwnNone
import Derived.Laws.CopyOwn
import Derived.Deep.OwnRows
import Derived.Test.YtlpbelhfpoilpabGreatDoorC01
import Derived.Test.YtlpbelhfpoilpabGreatDoorC03
set_option linter.all false
set_option maxRecDepth 100000
set_option maxHeartbeats 16000000
namespace Go.Scout
open Go.RowKit
section
variable {α β:Type} {lt:α->α->Bool} {lt':β->β->Bool} {f:α->β}
end
def pickN (xs cols:List Int):List Int:=cols.map fun c=>xs.getD c.toNat 0
def addV (s v:Int):Int:=if v=1073741824 then s else if s=1073741824 then v else s+v
def addsN (ss row cols:List Int):List Int:=List.zipWith (fun s c=>addV s (row.getD c.toNat 0)) ss cols
structure Gr where
 key:List Int
 cnt:Nat
 ss:List Int
def addG (row sc:List Int) (g:Gr):Gr:=⟨g.key,g.cnt+1,addsN g.ss row sc⟩
def newG (key:List Int) (n:Nat):Gr:=⟨key,0,List.replicate n 1073741824⟩
def findK (ks:List (List Int)) (key:List Int):Option Nat:=ks.findIdx? (fun k=>decide (k=key))
def stepG (kc sc:List Int) (gs:List Gr) (row:List Int):List Gr:=
 match findK (gs.map Gr.key) (pickN row kc) with
 | some i => gs.modify i (addG row sc)
 | none => gs++[addG row sc (newG (pickN row kc) sc.length)]
def Gr.row (g:Gr):List Int:=g.key++[(g.cnt:Int)]++g.ss
structure Kept (s:Nat->Prop) (A B:World):Prop where
 os:B.os=A.os
 tape:B.tape=A.tape
 output:B.output=A.output
 size:A.heap.size<=B.heap.size
 block:∀ k,k<A.heap.size->s k->B.heap[k]? = A.heap[k]?
theorem Kept.refl (s:Nat->Prop) (A:World):Kept s A A:=⟨rfl,rfl,rfl,Nat.le_refl _,fun _ _ _=>rfl⟩
theorem Kept.trans {s:Nat->Prop} {A B C:World} (h:Kept s A B) (k:Kept s B C):Kept s A C:=
 ⟨k.os.trans h.os,k.tape.trans h.tape,k.output.trans h.output,Nat.le_trans h.size k.size,fun i hi hs=>(k.block i (Nat.lt_of_lt_of_le hi h.size) hs).trans (h.block i hi hs)⟩
theorem Kept.mono {s t:Nat->Prop} {A B:World} (h:Kept s A B) (hs:∀ b,b<A.heap.size->t b->s b):Kept t A B:=
 ⟨h.os,h.tape,h.output,h.size,fun i hi ht=>h.block i hi (hs i hi ht)⟩
theorem Kept.trans' {s t:Nat->Prop} {A B C:World} (h:Kept s A B) (k:Kept t B C) (hs:∀ b,b<A.heap.size->s b->t b):Kept s A C:=
 ⟨k.os.trans h.os,k.tape.trans h.tape,k.output.trans h.output,Nat.le_trans h.size k.size,fun i hi hi'=>(k.block i (Nat.lt_of_lt_of_le hi h.size) (hs i hi hi')).trans (h.block i hi hi')⟩
theorem Kept.of_below {s:Nat->Prop} {B:Nat} {w w':World} (h:Below B w w') (hs:∀ b,b<w.heap.size->s b->b<B):Kept s w w':=
 ⟨h.os,h.tape,h.output,h.size,fun k hk hk'=>h.block k (hs k hk hk')⟩
theorem Kept.below {s:Nat->Prop} {B:Nat} {w w':World} (h:Kept s w w') (hB:B<=w.heap.size) (hs:∀ b,b<B->s b):Below B w w':=
 ⟨h.os,h.tape,h.output,h.size,fun k hk=>h.block k (Nat.lt_of_lt_of_le hk hB) (hs k hk)⟩
theorem Kept.putObj {s:Nat->Prop} (W:World) {r:Nat} (o:Obj) (hr:¬ s r):Kept s W (W.putObj r o):=
 ⟨rfl,rfl,rfl,by simp,fun k _ hs=>World.putObj_heap_other (fun e=>hr (e ▸ hs))⟩
theorem Kept.alloc {s:Nat->Prop} (W:World) (o:Obj):Kept s W (W.alloc o):=
 ⟨rfl,rfl,rfl,by simp,fun k hk _=>Below.heap_alloc W o k hk⟩
structure El (α κ:Type) where
 enc:α->Value
 At:α->World->Prop
 blk:α->Option Nat
 key:α->κ
 keep:∀ {x A B},At x A->A.heap.size<=B.heap.size->(∀ b,b<A.heap.size->blk x=some b->B.heap[b]? = A.heap[b]?)->At x B
 inn:∀ {x A b},At x A->blk x=some b->b<A.heap.size
variable {α κ:Type} (E:El α κ)
def Seq (P:Program) (g:Nat) (lb:Array Value) (rows:List κ) (w0:World):Prop:=
 ∀ (l:Nat) (J:List α->(Nat->Prop)->World->Prop) (W:World) (o:Nat->Prop),
  Below w0.heap.size w0 W->(∀ b,o b->w0.heap.size<=b/\b<W.heap.size)->
  (∀ pre o1 A B,J pre o1 A->Kept (fun b=>o1 b∨b<W.heap.size) A B->J pre o1 B)->
  (∀ pre x o1 W1,J pre o1 W1->(pre++[x]).map E.key <+: rows->E.At x W1->(∀ b,E.blk x=some b->¬ o1 b/\(b<w0.heap.size∨W.heap.size<=b))->W.heap.size<=W1.heap.size->
   YieldAt Fence.wide 0 P l #[E.enc x] W1 fun e W'=>e=.returned (.bool true)/\∃ o2,J (pre++[x]) o2 W'/\Kept (fun b=>¬ o1 b) W1 W'/\
    ∀ b,o2 b->o1 b∨(W1.heap.size<=b/\b<W'.heap.size)∨(E.blk x=some b/\W.heap.size<=b))->
  J [] o W->
  Calls P g (#[.func (.yield l) #[] #[]]++lb) W fun e W'=>(∃ v,e=.returned v)/\∃ ys o',ys.map E.key=rows/\J ys o' W'/\Kept (fun b=>¬ o b) W W'/\
   ∀ b,o' b->o b∨(W.heap.size<=b/\b<W'.heap.size)
def roundKeeps (I:List α->(Nat->Prop)->World->Prop) (pre:List α) (x:α) (n:Nat) (o1:Nat->Prop) (W:World):Exit->Act->World->Prop
 | .normal,_,W' => ∃ o2,I (pre++[x]) o2 W'/\Kept (fun b => ¬ o1 b) W W'/\∀ b,o2 b->o1 b∨(W.heap.size<=b/\b<W'.heap.size)∨(E.blk x=some b/\n<=b)
 | _,_,_ => False
theorem Seq.later {P:Program} {g:Nat} {lb:Array Value} {rows:List κ} {w0 w1:World} (h:Seq E P g lb rows w0) (hb:Below w0.heap.size w0 w1):Seq E P g lb rows w1:=by
 intro l J W o hW ho hJ hY h0;refine h l J W o (hb.trans (hW.mono hb.size)) (fun b h=>⟨Nat.le_trans hb.size (ho b h).1,(ho b h).2⟩) hJ (fun pre x o1 W1 hj hp hx hoff hs=>hY pre x o1 W1 hj hp hx (fun b hb'=>⟨(hoff b hb').1,(hoff b hb').2.imp (fun h=>Nat.lt_of_lt_of_le h hb.size) id⟩) hs) h0
theorem cell_lt {w:World} {p:Addr} {v:Value} (h:w.cell? p=some v):p.block<w.heap.size:=by
 unfold World.cell? at h
 cases hb:w.heap[p.block]? with
 | none => simp[hb] at h
 | some o => exact (Array.getElem?_eq_some_iff.1 hb).1
theorem CellsAt.keep {A B:World} {ao:Option Addr} {n:Nat} {f:Nat->Value} (h:CellsAt A ao n f) (hb:∀ a,ao=some a->a.block<A.heap.size->B.heap[a.block]? = A.heap[a.block]?):CellsAt B ao n f:=by
 intro i hi;obtain⟨b,off,rfl,hc⟩:=h i hi;have hl:b<A.heap.size:=cell_lt (p:=(aD b (off+i))) hc;exact⟨b,off,rfl,(World.cell?_of_block (a:=(aD b (off+i))) (hb (aD b off) rfl hl)).trans hc⟩
def rowEl:El IntsV (List Int) where
 enc:=IntsV.val
 At x W:=x.At W/\(∀ a,x.ad=some a->a.block<W.heap.size)/\(x.ad=none->x.cap=0)
 blk x:=x.ad.map (·.block)
 key:=IntsV.xs
 keep:=by
  rintro x A B ⟨h,hl,hn⟩ hs hb;refine⟨⟨h.1,h.2.keep fun a ha hlt=>hb _ hlt (by rw[ha]; rfl)⟩,fun a ha=>Nat.lt_of_lt_of_le (hl a ha) hs,hn⟩
 inn:=by
  rintro x A b ⟨_,hl,_⟩ hb
  cases ha:x.ad with
  | none => rw[ha] at hb; cases hb
  | some a => rw[ha] at hb; cases hb; exact hl a ha
def RowsHad (w:World) (ao:Option Addr) (rs:List IntsV):Prop:=RowsAt w ao rs/\(∀ a,ao=some a->a.block<w.heap.size)/\∀ i,i<rs.length->rowEl.At (rs.getD i iz) w
theorem RowsHad.below {w w':World} (hb:Below w.heap.size w w') {ao:Option Addr} {rs:List IntsV} (h:RowsHad w ao rs):RowsHad w' ao rs:=
 ⟨h.1.below hb,fun a ha=>Nat.lt_of_lt_of_le (h.2.1 a ha) hb.size,fun i hi=>rowEl.keep (h.2.2 i hi) hb.size (fun b hb' _=>hb.block b hb')⟩
end Go.Scout
namespace Go.Proofs.YtlpbelhfpoilpabGreatDoor
open Go.RowKit Go.Scout Go.Shelf
attribute [local go_sem] Oper.semAt_some
end Go.Proofs.YtlpbelhfpoilpabGreatDoor
namespace Go.Scout
open Go.RowKit
theorem cell_keep {A B:World} {p:Addr} {v:Value} {s:Nat->Prop} (h:A.cell? p=some v) (hk:Kept s A B) (hs:s p.block):B.cell? p=some v:=
 (World.cell?_of_block (hk.block _ (cell_lt h) hs)).trans h
end Go.Scout
namespace Go.Proofs.YtlpbelhfpoilpabGreatDoor
open Go.RowKit Go.Scout Go.Shelf
attribute [local go_sem] Oper.semAt_some
end Go.Proofs.YtlpbelhfpoilpabGreatDoor
namespace Go.Scout
open Go.RowKit
theorem Kept.setCell {s:Nat->Prop} (W:World) (a:Addr) (v:Value) (hr:¬ s a.block):Kept s W (W.setCell a v):=
 ⟨rfl,rfl,rfl,by simp[World.setCell],fun k _ hs=>Below.heap_setCell W a v k (fun e=>hr (e ▸ hs))⟩
theorem Kept.grown {s:Nat->Prop} {A B:World} {row:Option Nat} (hg:A.grownBy B row) (hr:∀ r,row=some r->¬ s r):Kept s A B:=
 ⟨hg.os,hg.tape,hg.output,hg.size,fun k hk hs=>hg.block k hk (fun e=>hr k e.symm hs)⟩
theorem ownsRow_keep {A B:World} {base:Nat} {e:TypeId} {sz:Nat} {v:Value} {n:Nat} {xs:List Value} (h:A.ownsRow base e sz v n xs) {s:Nat->Prop} (hk:Kept s A B) (hs:∀ g,v.ownBlock=some g->s g):B.ownsRow base e sz v n xs:=by
 refine⟨h.1,?_⟩;rcases h.2 with h | ⟨g,cap,cur,rfl,hb,hg,h1,h2,h3,h4⟩
 ·exact .inl h
 ·exact .inr ⟨g,cap,cur,rfl,hb,(hk.block g (Array.getElem?_eq_some_iff.1 hg).1 (hs g rfl)).trans hg,h1,h2,h3,h4⟩
theorem ownsRow_lt {A:World} {base:Nat} {e:TypeId} {sz:Nat} {v:Value} {n:Nat} {xs:List Value} (h:A.ownsRow base e sz v n xs) {g:Nat} (hg:v.ownBlock=some g):base<=g/\g<A.heap.size:=by
 rcases h.2 with⟨rfl,_⟩ | ⟨g',cap,cur,rfl,hb,hg',_⟩
 ·cases hg
 ·cases hg
  exact⟨hb,(Array.getElem?_eq_some_iff.1 hg').1⟩
theorem ownsRow_slice {A:World} {base:Nat} {e:TypeId} {sz:Nat} {v:Value} {n:Nat} {xs:List Value} (h:A.ownsRow base e sz v n xs):∃ ad m cap,v=.slice ad m cap:=by
 rcases h.2 with⟨rfl,_⟩ | ⟨g',cap,cur,rfl,_⟩
 ·exact⟨_,_,_,rfl⟩
 ·exact⟨_,_,_,rfl⟩
def gatherOwn (E:El IntsV (List Int)) (n:Nat) (v:Value) (pre:List IntsV) (b:Nat):Prop:=b=n∨v.ownBlock=some b∨(n<=b/\∃ y∈pre,E.blk y=some b)
def Apart (E:El IntsV (List Int)) (n:Nat) (ys:List IntsV):Prop:=ys.Pairwise fun y z=>∀ b,E.blk y=some b->E.blk z=some b->b<n
structure Gathered (E:El IntsV (List Int)) (n0:Nat) (w:World) (e:TypeId) (pre:List IntsV) (o1:Nat->Prop) (W:World) (v:Value):Prop where
 box:W.cell? (aD w.heap.size 0)=some v
 thaw:W.frozen? (aD w.heap.size 0)=false
 own:W.ownsRow (w.heap.size+1) e 1 v pre.length (pre.map IntsV.val)
 at':∀ y∈pre,E.At y W
 off:∀ y∈pre,∀ b,E.blk y=some b->b≠w.heap.size/\v.ownBlock≠some b
 apart:Apart E w.heap.size pre
 born:∀ y∈pre,∀ b,E.blk y=some b->b<n0∨w.heap.size<=b
 below:Below w.heap.size w W
 iff:∀ b,o1 b↔gatherOwn E w.heap.size v pre b
theorem Gathered.keep {E:El IntsV (List Int)} {n0:Nat} {w:World} {e:TypeId} {pre:List IntsV} {o1:Nat->Prop} {A B:World} {v:Value} (h:Gathered E n0 w e pre o1 A v) {n:Nat} (hn:w.heap.size<=n) (hk:Kept (fun b=>o1 b∨b<n) A B):Gathered E n0 w e pre o1 B v:=by
 have ho:o1 w.heap.size:=(h.iff _).2 (.inl rfl);refine⟨cell_keep h.box hk (.inl ho),(World.frozen?_of_block (hk.block _ (cell_lt h.box) (.inl ho))).trans h.thaw,ownsRow_keep h.own hk (fun g hg=>.inl ((h.iff _).2 (.inr (.inl hg)))),fun y hy=>?_,h.off,h.apart,h.born,h.below.trans (hk.below h.below.size (fun b hb=>.inr (by omega))),h.iff⟩;refine E.keep (h.at' y hy) hk.size (fun b hb hby=>hk.block b hb ?_);by_cases hlt:b<w.heap.size
 ·exact .inr (by omega)
 ·exact .inl ((h.iff _).2 (.inr (.inr ⟨by omega,y,hy,hby⟩)))
theorem Gathered.off' {E:El IntsV (List Int)} {n0:Nat} {w:World} {e:TypeId} {pre:List IntsV} {o1:Nat->Prop} {W:World} {v:Value} (h:Gathered E n0 w e pre o1 W v) {x:IntsV} (hx:∀ b,E.blk x=some b->¬ o1 b) :
  (∀ b,E.blk x=some b->b≠w.heap.size/\v.ownBlock≠some b)/\Apart E w.heap.size (pre++[x]):=by
 refine⟨fun b hb=>⟨fun e=>hx b hb ((h.iff _).2 (.inl e)),fun e=>hx b hb ((h.iff _).2 (.inr (.inl e)))⟩,?_⟩;unfold Apart;rw[List.pairwise_append];refine⟨h.apart,List.pairwise_singleton _ _,?_⟩;intro y hy z hz b hb hb';rw[List.mem_singleton] at hz;subst hz;by_cases hlt:b<w.heap.size
 ·exact hlt
 ·exact absurd ((h.iff _).2 (.inr (.inr ⟨by omega,y,hy,hb⟩))) (hx b hb')
theorem Gathered.more {E:El IntsV (List Int)} {n0:Nat} {w:World} {e:TypeId} {pre:List IntsV} {o1:Nat->Prop} {W W1 W2:World} {v v':Value} {x:IntsV} (h:Gathered E n0 w e pre o1 W v) (hx:E.At x W) (hoff:∀ b,E.blk x=some b->¬ o1 b) (hbn:∀ b,E.blk x=some b->b<n0∨w.heap.size<=b)
  (ha:Kept (fun _=>True) W W1) (hs1:W1.heap.size=W.heap.size+1) (hown:W2.ownsRow (w.heap.size+1) e 1 v' (pre.length+1) (pre.map IntsV.val++[x.val])) (hg:W1.grownBy W2 v.ownBlock) (hat:v'.ownBlock=v.ownBlock∨v'.ownBlock=some W1.heap.size) (h1:v'.oneCell' = true) :
  Gathered E n0 w e (pre++[x]) (gatherOwn E w.heap.size v' (pre++[x])) (W2.setCell (aD w.heap.size 0) v') v'/\Kept (fun b=>¬ o1 b) W (W2.setCell (aD w.heap.size 0) v')/\
  ∀ b,gatherOwn E w.heap.size v' (pre++[x]) b->o1 b∨(W.heap.size<=b/\b<(W2.setCell (aD w.heap.size 0) v').heap.size)∨(E.blk x=some b/\w.heap.size<=b):=by
 have hw:w.heap.size<W.heap.size:=cell_lt h.box;have hsz:(W2.setCell (aD w.heap.size 0) v').heap.size=W2.heap.size:=by simp[World.setCell]
 have hvb:∀ g,v.ownBlock=some g->w.heap.size+1<=g/\g<W.heap.size:=fun g hg=>ownsRow_lt h.own hg
 have hvb':∀ g,v'.ownBlock=some g->w.heap.size+1<=g/\g<W2.heap.size:=fun g hg=>ownsRow_lt hown hg
 have hk1:Kept (fun b=>v.ownBlock≠some b) W W2:=(ha.mono fun _ _ _=>trivial).trans (Kept.grown hg (fun r e hr=>hr e));have hk2:Kept (fun b=>v.ownBlock≠some b/\b≠w.heap.size) W (W2.setCell (aD w.heap.size 0) v'):=(hk1.mono fun _ _ h=>h.1).trans (Kept.setCell _ _ _ (fun h=>h.2 rfl));obtain⟨hoffx,hap⟩:=h.off' hoff;have hnew:∀ b,b<W.heap.size->v'.ownBlock=some b->v.ownBlock=some b:=fun b hb e=>by
  rcases hat with h | h
  ·rw[<- h]; exact e
  ·rw[h] at e; cases e; omega
 have hbx:W2.cell? (aD w.heap.size 0)=some v:=cell_keep h.box hk1 (fun e=>by have:=hvb _ e; exact absurd this.1 (by show ¬ (w.heap.size+1<=w.heap.size); omega));refine⟨⟨?_,?_,?_,?_,?_,hap,fun y hy=>?_,?_,fun b=>Iff.rfl⟩,hk2.mono ?_,?_⟩
 ·exact World.cell?_setCell_same' _ _ _ (by rw[hbx]; rfl)
 ·rw[World.frozen?_setCell];exact (World.frozen?_of_block (hk1.block _ (cell_lt h.box) (fun e=>by have:=hvb _ e; exact absurd this.1 (by show ¬ (w.heap.size+1<=w.heap.size); omega)))).trans h.thaw
 ·have:=ownsRow_keep hown (s:=fun b=>b≠w.heap.size) (Kept.setCell W2 (aD w.heap.size 0) v' (fun h=>h rfl)) (fun g hg=>by have:=hvb' g hg; omega)
  simpa using this
 ·intro y hy;rcases List.mem_append.1 hy with hy | hy
  ·exact E.keep (h.at' y hy) hk2.size (fun b hb hby=>hk2.block b hb ⟨(h.off y hy b hby).2,(h.off y hy b hby).1⟩)
  ·rw[List.mem_singleton] at hy;subst hy;exact E.keep hx hk2.size (fun b hb hby=>hk2.block b hb ⟨(hoffx b hby).2,(hoffx b hby).1⟩)
 ·intro y hy b hb;have hbl:b<W.heap.size/\b≠w.heap.size/\v.ownBlock≠some b:=by
   rcases List.mem_append.1 hy with hy | hy
   ·exact⟨E.inn (h.at' y hy) hb,h.off y hy b hb⟩
   ·rw[List.mem_singleton] at hy;subst hy;exact⟨E.inn hx hb,hoffx b hb⟩
  exact⟨hbl.2.1,fun e=>hbl.2.2 (hnew b hbl.1 e)⟩
 ·rcases List.mem_append.1 hy with hy | hy
  ·exact h.born y hy
  ·rw[List.mem_singleton] at hy;subst hy;exact hbn
 ·exact h.below.trans (hk2.below (by have:=h.below.size; omega) (fun b hb=>⟨fun e=>by have:=hvb b e; omega,by omega⟩))
 ·intro b hb hb';exact⟨fun e=>hb' ((h.iff _).2 (.inr (.inl e))),fun e=>hb' ((h.iff _).2 (.inl e))⟩
 ·rintro b (hb | hb | ⟨hb,y,hy,hby⟩)
  ·exact .inl ((h.iff _).2 (.inl hb))
  ·by_cases hlt:b<W.heap.size
   ·exact .inl ((h.iff _).2 (.inr (.inl (hnew b hlt hb))))
   ·exact .inr (.inl ⟨by omega,by rw[hsz]; exact (hvb' b hb).2⟩)
  ·rcases List.mem_append.1 hy with hy | hy
   ·exact .inl ((h.iff _).2 (.inr (.inr ⟨hb,y,hy,hby⟩)))
   ·rw[List.mem_singleton] at hy;subst hy;exact .inr (.inr ⟨hby,hb⟩)
end Go.Scout
namespace Go.Proofs.YtlpbelhfpoilpabGreatDoor
open Go.RowKit Go.Scout Go.Shelf
attribute [local go_sem] Oper.semAt_some
theorem Tryz.infoInts:(Tryz.prog.info? 22).map (fun i=>(i.zero,i.size,i.bytes))=some (some (.slice none 0 0),1,24):=by kernel_rfl
end Go.Proofs.YtlpbelhfpoilpabGreatDoor
namespace Go.Scout
open Go.RowKit
theorem IntsAt.keep {A B:World} {ao:Option Addr} {xs:List Int} (h:IntsAt A ao xs) (hb:∀ a,ao=some a->a.block<A.heap.size->B.heap[a.block]? = A.heap[a.block]?):IntsAt B ao xs:=⟨h.1,h.2.keep hb⟩
end Go.Scout
namespace Go.Proofs.YtlpbelhfpoilpabGreatDoor
open Go.RowKit Go.Scout Go.Shelf
theorem Tryz.infoInt:(Tryz.prog.info? 3).map (fun i=>(i.zero,i.size,i.bytes))=some (some (.int .i64 0),1,8):=by kernel_rfl
end Go.Proofs.YtlpbelhfpoilpabGreatDoor
namespace Go.Scout
open Go.RowKit
theorem rowEl_of_own {w:World} {base:Nat} {e:TypeId} {v:Value} {n:Nat} {xs:List Int} (h:w.ownsRow base e 1 v n (xs.map (Value.int .i64))) (hl:xs.length<=1152921504606846976) :
  ∃ iv:IntsV,v=iv.val/\iv.xs=xs/\rowEl.At iv w/\∀ b,rowEl.blk iv=some b->base<=b:=by
 have hn:xs.length=n:=by have:=h.1; simpa using this
 rcases h.2 with⟨rfl,h0⟩ | ⟨g,cap,cur,rfl,hb,hh,_,_,hcs,ht⟩
 ·have:xs=[]:=List.eq_nil_of_length_eq_zero (by omega);subst this;exact⟨⟨none,0,[]⟩,rfl,rfl,⟨⟨by simp,fun i hi=>absurd hi (by simp)⟩,(fun a ha=>by cases ha),fun _=>rfl⟩,fun b hb=>by cases hb⟩
 ·refine⟨⟨some (aD g 0),cap,xs⟩,by rw[<- hn]; rfl,rfl,⟨⟨hl,fun i hi=>⟨g,0,rfl,?_⟩⟩,fun a ha=>?_,fun e=>by cases e⟩,fun b hb'=>?_⟩
  ·have h2:(cur.toList.take (n*1))[i]? = some (Value.int .i64 (xs.getD i 0)):=by
    rw[ht];have hi':i<xs.length:=hi;simp[List.getD,hi']
   have h3:cur[i]? = some (Value.int .i64 (xs.getD i 0)):=by
    rw[List.getElem?_take] at h2;split at h2
    ·simpa using h2
    ·cases h2
   simp only[World.cell?,hh]
   simpa using h3
  ·cases ha; exact (Array.getElem?_eq_some_iff.1 hh).1
  ·cases hb'; exact hb
end Go.Scout
namespace Go.Proofs.YtlpbelhfpoilpabGreatDoor
open Go.RowKit Go.Scout Go.Shelf
attribute [local go_sem] Oper.semAt_some
end Go.Proofs.YtlpbelhfpoilpabGreatDoor
namespace Go.Scout
open Go.RowKit
theorem RowsHad.keep {A B:World} {ao:Option Addr} {rs:List IntsV} (h:RowsHad A ao rs) (hs:A.heap.size<=B.heap.size) (h1:∀ a,ao=some a->B.heap[a.block]? = A.heap[a.block]?) (h2:∀ i,i<rs.length->∀ b,rowEl.blk (rs.getD i iz)=some b->B.heap[b]? = A.heap[b]?):RowsHad B ao rs:=by
 have hat:∀ i,i<rs.length->rowEl.At (rs.getD i iz) B:=fun i hi=>rowEl.keep (h.2.2 i hi) hs (fun b _ hb=>h2 i hi b hb)
 exact⟨⟨h.1.1,h.1.2.1.keep (fun a ha _=>h1 a ha),fun i hi=>(hat i hi).1⟩,fun a ha=>Nat.lt_of_lt_of_le (h.2.1 a ha) hs,hat⟩
end Go.Scout
namespace Go.Proofs.YtlpbelhfpoilpabGreatDoor
open Go.RowKit Go.Scout Go.Shelf
attribute [local go_sem] Oper.semAt_some
end Go.Proofs.YtlpbelhfpoilpabGreatDoor
namespace Go.Scout
open Go.RowKit
theorem bQ3 (w:World) (o:Obj):(w.alloc o).heap[w.heap.size]? = some o:=by
 show (w.heap.push o)[w.heap.size]? = _
 simp
theorem addr_add (b off j:Nat):((aD b off):Addr).add j=(aD b (off+j)):=by unfold Addr.add; split <;> simp_all
end Go.Scout
