import Derived.OrdersHeld
import Derived.Test.YtlpbelhfpoilpabGreatDoorC07
import Derived.Test.YtlpbelhfpoilpabGreatDoorC08
import Derived.Test.YtlpbelhfpoilpabGreatDoorC13
import Derived.Test.YtlpbelhfpoilpabGreatDoorC18
import Derived.Test.YtlpbelhfpoilpabGreatDoorC28
import Derived.Test.YtlpbelhfpoilpabGreatDoorC29
set_option linter.all false
set_option maxRecDepth 100000
set_option maxHeartbeats 16000000
namespace Go.Scout
open Go.RowKit
theorem wp_via {P:Program} {c:Code} {Q J:Exit->Act->World->Prop} {a:Act} {w:World} (h:c.wp P J a w) (hQ:∀ e a w,J e a w->Q e a w):c.wp P Q a w:=fun b k cs=>by
 obtain⟨e,a',w',hq,hr⟩:=h b k cs;exact⟨e,a',w',hQ _ _ _ hq,hr⟩
def GX (X:Nat->Prop) (sb k:Nat) (gv:Value) (gb:Nat->Nat):Nat->Prop:=fun b=>¬ X b/\b≠sb/\gv.ownBlock≠some b/\∀ j,j<k->b≠gb j
theorem own_ords {Tl:TypeId} {F:Nat->Prop} {base:Nat} {w:World} {v:Value} {os:List IntsV} (h:OrdsIn Tl F base w v os) (h0:0<os.length) :
  ∃ ob oc,v=.slice (some (aD ob 0)) os.length oc/\os.length<=oc/\oc<=9223372036854775807/\base<=ob/\∀ m,m<=os.length->CellsAt w (some (aD ob 0)) m (fun i=>((os.take m).getD i nilV).val):=by
 rcases h.own.2 with⟨_,h1⟩ | ⟨g,cap,cur,rfl,hb,hh,hc,hm,hs,ht⟩
 ·omega
 refine⟨g,cap,rfl,hc,by unfold maxLen at hm; omega,hb,fun m hm i hi=>⟨g,0,rfl,?_⟩⟩;rw[Nat.zero_add,GB.cell (show GB w g _ cur from hh) i];have h2:(cur.toList.take (os.length*1))[i]? = some ((os.take m).getD i nilV).val:=by
  rw[ht,List.getElem?_map,List.getElem?_eq_getElem (by omega),List.getD_eq_getElem?_getD,List.getElem?_take,if_pos hi,List.getElem?_eq_getElem (by omega)];rfl
 rw[List.getElem?_take] at h2;split at h2
 ·simpa using h2
 ·cases h2
def unN (ts:List TableD) (q:QueryV) (room j:Nat):List (List Int):=(usefulN ts q j).take room
def cutN (ts:List TableD) (q:QueryV) (room k:Nat):Bool:=(List.range k).any fun s=>decide (room<(usefulN ts q s).length)
theorem cutN_succ (ts:List TableD) (q:QueryV) (room k:Nat):cutN ts q room (k+1)=(cutN ts q room k || decide (room<(usefulN ts q k).length)):=by
 unfold cutN;rw[List.range_succ,List.any_append];simp
end Go.Scout
namespace Go.Proofs.YtlpbelhfpoilpabGreatDoor
open Go.RowKit Go.Scout Go.Shelf
def begT (gv:Value) (cu:Bool) (bt:Nat):Array Value:=#[gv,.slice none 0 0,.bool cu,.pointer (some (aD bt 0)),.slice none 0 0,.int .i64 1]
structure BegS (W0:World) (f:FactsV) (ts:List TableD) (q:QueryV) (X:Nat->Prop) (room:Nat) (w0:World) (vb sb k:Nat) (cu:Bool) (gv:Value) (gb cp:Nat->Nat) (os:Nat->List IntsV) (bt:Nat) (x:World):Prop where
 hz:Fz (fun b=>¬ X b) W0 x
 old:Below w0.heap.size w0 x
 root:W0.heap.size<=w0.heap.size
 xlt:∀ b,X b->b<w0.heap.size
 sbl:w0.heap.size<sb/\w0.heap.size<vb/\vb≠sb
 fbg:GB x w0.heap.size 79 (f.cells ts q)
 var:GB x vb 56 #[.pointer (some (aD sb 0))]
 blk:GB x sb 87 (f.cells ts q++begT gv cu bt)
 own:x.ownsRow w0.heap.size 105 1 gv k ((List.range k).map fun j=>Value.slice (some (aD (gb j) 0)) (newGr (unN ts q room j)).length (cp j))
 grp:∀ j,j<k->GrpAt 95 141 (GX X sb k gv gb) x (gb j) (fun _=>0) (os j) (newGr (unN ts q room j))/\w0.heap.size<=gb j/\(newGr (unN ts q room j)).length<=cp j/\cp j<=9223372036854775807
 apart:∀ i j,i<k->j<k->gb i=gb j->i=j
 best:TreeF 95 (GX X sb k gv gb) x bt (plainT ts q)
variable {W0:World} {f:FactsV} {ts:List TableD} {q:QueryV} {X:Nat->Prop} {room:Nat} {w0:World} {vb sb k:Nat} {cu:Bool} {gv:Value} {gb cp:Nat->Nat} {os:Nat->List IntsV} {bt:Nat} {x:World}
theorem BegS.ne (h:BegS W0 f ts q X room w0 vb sb k cu gv gb cp os bt x):gv.ownBlock≠some sb/\gv.ownBlock≠some vb/\gv.ownBlock≠some w0.heap.size/\∀ j,j<k->gv.ownBlock≠some (gb j)/\gb j≠sb/\gb j≠vb/\gb j≠w0.heap.size:=by
 refine⟨own_not h.own h.blk (by decide),own_not h.own h.var (by decide),own_not h.own h.fbg (by decide),fun j hj=>?_⟩;obtain⟨c,hc⟩:=(h.grp j hj).1.tp;exact⟨own_not h.own hc (by decide),fun e=>absurd (GB.tp hc (e ▸ h.blk)) (by decide),fun e=>absurd (GB.tp hc (e ▸ h.var)) (by decide),fun e=>absurd (GB.tp hc (e ▸ h.fbg)) (by decide)⟩
theorem BegS.below (h:BegS W0 f ts q X room w0 vb sb k cu gv gb cp os bt x) {y:World} (hb:Below x.heap.size x y):BegS W0 f ts q X room w0 vb sb k cu gv gb cp os bt y:=by
 have hk:Kept (fun b=>b<x.heap.size) x y:=Kept.of_below hb (fun _ h _=>h);exact⟨h.hz.next hb,h.old.trans (hb.mono h.old.size),h.root,h.xlt,h.sbl,h.fbg.keep hk h.fbg.lt,h.var.keep hk h.var.lt,h.blk.keep hk h.blk.lt,own_below h.own hb,fun j hj=>⟨(h.grp j hj).1.below hb,(h.grp j hj).2⟩,h.apart,h.best.below hb⟩
theorem BegS.flag (h:BegS W0 f ts q X room w0 vb sb k cu gv gb cp os bt x) {y:World} {c2:Bool} (hk:Kept (fun b=>b≠sb) x y) (hblk:GB y sb 87 (f.cells ts q++begT gv c2 bt)):BegS W0 f ts q X room w0 vb sb k c2 gv gb cp os bt y:=by
 have hn:=h.ne;refine⟨⟨h.hz.below.kept hk fun b hb e=>?_,h.hz.low,fun b hb=>h.hz.high b (Nat.le_trans hk.size hb)⟩,h.old.trans (hk.below h.old.size fun b hb=>?_),h.root,h.xlt,h.sbl,h.fbg.keep hk ?_,h.var.keep hk h.sbl.2.2,hblk,ownsRow_keep h.own hk fun g e e2=>hn.1 (e2 ▸ e),fun j hj=>⟨(h.grp j hj).1.keptF (hk.mono fun b _ hb=>?_),(h.grp j hj).2⟩,h.apart,h.best.keptF (hk.mono fun b _ hb=>hb.2.1)⟩
 ·have:=hb.lt;have:=h.root;have:=h.sbl.1;omega
 ·have:=h.sbl.1;omega
 ·have:=h.sbl.1;omega
 ·rcases hb with hb | hb
  ·exact hb.2.1
  ·rw[hb];exact (hn.2.2.2 j hj).2.1
theorem BegS.fz (h:BegS W0 f ts q X room w0 vb sb k cu gv gb cp os bt x):Fz (GX X sb k gv gb) W0 x:=by
 refine⟨h.hz.below,fun b hb=>⟨h.hz.low b hb,?_,fun e=>?_,fun j hj e=>?_⟩,fun b hb=>⟨h.hz.high b hb,?_,fun e=>?_,fun j hj e=>?_⟩⟩
 ·have:=hb.lt;have:=h.root;have:=h.sbl.1;omega
 ·have:=hb.lt;have:=(ownsRow_lt h.own e).1;have:=h.root;omega
 ·have:=hb.lt;have:=(h.grp j hj).2.1;have:=h.root;omega
 ·have:=h.blk.lt;omega
 ·have:=(ownsRow_lt h.own e).2;omega
 ·obtain⟨c,hc⟩:=(h.grp j hj).1.tp;have:=hc.lt;omega
theorem BegS.push (h:BegS W0 f ts q X room w0 vb sb k cu gv gb cp os bt x) {y1 y2 y5:World} (hb1:Below x.heap.size x y1) (hb2:Below y1.heap.size y1 y2) {gn cn:Nat} {on:List IntsV} (hg:GrpAt 95 141 (fun b=>GX X sb k gv gb b/\b<y1.heap.size) y2 gn (fun _=>0) on (newGr (unN ts q room k))) (hgn:y1.heap.size<=gn/\gn<y2.heap.size) (hcn:(newGr (unN ts q room k)).length<=cn/\cn<=9223372036854775807) {gv':Value} (ho:y5.ownsRow w0.heap.size 105 1 gv' (k+1) (((List.range k).map fun j=>Value.slice (some (aD (gb j) 0)) (newGr (unN ts q room j)).length (cp j))++[Value.slice (some (aD gn 0)) (newGr (unN ts q room k)).length cn])) (hk:Kept (fun b=>b≠sb/\gv.ownBlock≠some b) y2 y5) (hat:gv'.ownBlock=gv.ownBlock∨gv'.ownBlock=some (y2.heap.size+1)) (hblk:GB y5 sb 87 (f.cells ts q++begT gv' cu bt)) :
  BegS W0 f ts q X room w0 vb sb (k+1) cu gv' (fun j=>if j=k then gn else gb j) (fun j=>if j=k then cn else cp j) (fun j=>if j=k then on else os j) bt y5:=by
 have hn:=h.ne;have hb12:Below x.heap.size x y2:=bQ1 hb1 hb2;have hs1:=hb1.size;have hs2:=hb2.size;have hsx:=h.old.size;have hgl:∀ j,j<k->gb j<x.heap.size:=fun j hj=>by
  obtain⟨c,hc⟩:=(h.grp j hj).1.tp;exact hc.lt
 have hown:∀ b,gv.ownBlock=some b->b<x.heap.size:=fun b e=>(ownsRow_lt h.own e).2
 have hkx:Kept (fun b=>b≠sb/\gv.ownBlock≠some b) x y5:=(Kept.of_below (s:=fun b=>b≠sb/\gv.ownBlock≠some b) hb12 (fun b hl _=>hl)).trans hk;have hmono:∀ b,b<y1.heap.size->GX X sb k gv gb b->GX X sb (k+1) gv' (fun j=>if j=k then gn else gb j) b:=fun b hl hb=>by
  refine⟨hb.1,hb.2.1,fun e=>?_,fun j hj=>?_⟩
  ·rcases hat with h1 | h1
   ·exact hb.2.2.1 (h1 ▸ e)
   ·rw[h1] at e;injection e with e;omega
  ·show b≠if j=k then gn else gb j
   split
   ·omega
   ·exact hb.2.2.2 j (by omega)
 have hap:∀ i,i<k->gn≠gb i:=fun i hi e=>by have:=hgl i hi; omega
 have hxm:∀ b,b<x.heap.size->GX X sb k gv gb b->GX X sb (k+1) gv' (fun j=>if j=k then gn else gb j) b:=fun b hl=>hmono b (by omega)
 have hnX:∀ b,GX X sb (k+1) gv' (fun j=>if j=k then gn else gb j) b->gv'.ownBlock≠some b:=fun b hb=>hb.2.2.1
 have hnw:∀ b,GX X sb (k+1) gv' (fun j=>if j=k then gn else gb j) b->b<x.heap.size->gv'.ownBlock=gv.ownBlock->gv.ownBlock≠some b:=fun b hb _ e=>e ▸ hb.2.2.1
 -- trees and orders of before lie outside of the old list too: they are first kept,then read with the wider names
 have hkG:Kept (GX X sb k gv gb) x y5:=hkx.mono fun b _ hb=>⟨hb.2.1,hb.2.2.1⟩
 have hsz5:y2.heap.size<=y5.heap.size:=hk.size;refine⟨⟨h.hz.below.kept hkx fun b hb=>⟨fun e=>?_,fun e=>?_⟩,h.hz.low,fun b hb=>h.hz.high b (Nat.le_trans hkx.size hb)⟩,h.old.trans (hkx.below h.old.size fun b hb=>⟨?_,fun e=>?_⟩),h.root,h.xlt,h.sbl,h.fbg.keep hkx ⟨?_,hn.2.2.1⟩,h.var.keep hkx ⟨h.sbl.2.2,hn.2.1⟩,hblk,?_,fun j hj=>?_,fun i j hi hj e=>?_,?_⟩
 ·have:=hb.lt;have:=h.root;have:=h.sbl.1;omega
 ·have:=hb.lt;have:=(ownsRow_lt h.own e).1;have:=h.root;omega
 ·have:=h.sbl.1;omega
 ·have:=(ownsRow_lt h.own e).1;omega
 ·have:=h.sbl.1;omega
 ·have e:(List.range (k+1)).map (fun j=>Value.slice (some ⟨if j=k then gn else gb j,0,none⟩) (newGr (unN ts q room j)).length (if j=k then cn else cp j))=((List.range k).map fun j=>Value.slice (some (aD (gb j) 0)) (newGr (unN ts q room j)).length (cp j))++[Value.slice (some (aD gn 0)) (newGr (unN ts q room k)).length cn]:=by
   rw[List.range_succ,List.map_append];congr 1
   ·refine List.map_congr_left fun j hj=>?_
    have:j≠k:=by have:=List.mem_range.1 hj; omega
    rw[if_neg this,if_neg this]
   ·simp
  rw[e];exact ho
 ·by_cases e:j=k
  ·subst e;simp only[if_pos];refine⟨GrpAt.mono (hg.keptF (hk.mono fun b _ hb=>?_)) fun b _ hb=>hmono b hb.2 hb.1,by omega,hcn⟩;rcases hb with hb | hb
   ·exact⟨hb.1.2.1,hb.1.2.2.1⟩
   ·rw[hb];refine⟨fun e=>?_,fun e=>?_⟩
    ·have:=h.blk.lt;omega
    ·have:=hown _ e;omega
  ·simp only[if_neg e];have hj':j<k:=by omega
   refine⟨((h.grp j hj').1.mono (G:=fun b=>GX X sb k gv gb b/\b<x.heap.size) (fun b hl hb=>⟨hb,hl⟩) |>.keptF (hkx.mono fun b _ hb=>?_)).mono fun b _ hb=>hxm b hb.2 hb.1,(h.grp j hj').2⟩;rcases hb with hb | hb
   ·exact⟨hb.1.2.1,hb.1.2.2.1⟩
   ·rw[hb];exact⟨(hn.2.2.2 j hj').2.1,(hn.2.2.2 j hj').1⟩
 ·have e':(if i=k then gn else gb i)=(if j=k then gn else gb j):=e;by_cases h1:i=k
  ·by_cases h2:j=k
   ·omega
   ·rw[if_pos h1,if_neg h2] at e';exact absurd e' (hap j (by omega))
  ·by_cases h2:j=k
   ·rw[if_neg h1,if_pos h2] at e';exact absurd e'.symm (hap i (by omega))
   ·rw[if_neg h1,if_neg h2] at e';exact h.apart i j (by omega) (by omega) e'
 ·exact ((h.best.mono (G:=fun b=>GX X sb k gv gb b/\b<x.heap.size) (fun b hl hb=>⟨hb,hl⟩)).keptF (hkx.mono fun b _ hb=>⟨hb.1.2.1,hb.1.2.2.1⟩)).mono fun b _ hb=>hxm b hb.2 hb.1
theorem BegS.search (h:BegS W0 f ts q X room w0 vb sb k cu gv gb cp os bt x) (h0:0<k) :
  ∃ L:SeL,L.av=.slice none 0 0/\L.pv=.slice none 0 0/\SeAt W0 f ts q (fun b=>X b∨(b=sb∨∃ j,j<k/\b=gb j)) (fun b=>b=sb∨∃ j,j<k/\b=gb j) x sb L ⟨(List.range k).map fun s=>newGr (unN ts q room s),[],cu,plainT ts q,[],1⟩:=by
 have hn:=h.ne;have hgl:∀ j,j<k->gb j<x.heap.size:=fun j hj=>by
  obtain⟨c,hc⟩:=(h.grp j hj).1.tp;exact hc.lt
 have hG:∀ b,GX X sb k gv gb b->¬ (X b∨(b=sb∨∃ j,j<k/\b=gb j)):=fun b hb h0=>by
  rcases h0 with h0 | h0 | ⟨j,hj,h0⟩
  ·exact hb.1 h0
  ·exact hb.2.1 h0
  ·exact hb.2.2.2 j hj h0
 have hge:∀ j,j<k->((List.range k).map fun s=>newGr (unN ts q room s)).getD j []=newGr (unN ts q room j):=fun j hj=>by
  rw[List.getD_eq_getElem?_getD,List.getElem?_map,List.getElem?_eq_getElem (by simpa using hj)];simp
 have hfz:=h.fz;have hown:=h.own;rcases hown.2 with⟨_,h1⟩ | ⟨g,cap,cur,rfl,hb,hh,hc,hm,hs,ht⟩
 ·omega
 have hcell:∀ j,j<k->x.cell? (aD g j)=some (.slice (some (aD (gb j) 0)) (newGr (unN ts q room j)).length (cp j)):=fun j hj=>by
  rw[GB.cell (show GB x g _ cur from hh) j];have h2:(cur.toList.take (k*1))[j]? = some (.slice (some (aD (gb j) 0)) (newGr (unN ts q room j)).length (cp j)):=by
   rw[ht,List.getElem?_map,List.getElem?_eq_getElem (by simpa using hj)];simp
  rw[List.getElem?_take] at h2;split at h2
  ·simpa using h2
  ·cases h2
 refine⟨⟨g,cap,gb,cp,fun _ _=>0,os,.slice none 0 0,bt,.slice none 0 0⟩,rfl,rfl,⟨h.hz.below,fun b hb=>hG b (hfz.low b hb),fun b hb=>hG b (hfz.high b hb)⟩,fun b hb=>.inr hb,.inl rfl,?_,?_,(Array.getElem?_eq_some_iff.1 hh).1,fun j hj=>?_,fun j hj=>?_,fun i j hi hj e=>?_,World.ownsRow_nil _ _ _ _,(fun b e=>by cases e),h.best.mono fun b _ hb=>hG b hb,World.ownsRow_nil _ _ _ _,(fun b e=>by cases e)⟩
 ·have e:tailC ⟨g,cap,gb,cp,fun _ _=>0,os,.slice none 0 0,bt,.slice none 0 0⟩ ⟨(List.range k).map fun s=>newGr (unN ts q room s),[],cu,plainT ts q,[],1⟩=begT (.slice (some (aD g 0)) k cap) cu bt:=by
   unfold tailC begT;simp
  rw[e];exact h.blk
 ·show ¬ (X g∨(g=sb∨∃ j,j<k/\g=gb j))
  rintro (h0 | h0 | ⟨j,hj,h0⟩)
  ·have:=h.xlt g h0;omega
  ·exact hn.1 (by rw[h0]; rfl)
  ·exact (hn.2.2.2 j hj).1 (by rw[h0]; rfl)
 ·have hj':j<k:=by simpa using hj
  show x.cell? (aD g j)=some (.slice (some (aD (gb j) 0)) (((List.range k).map fun s=>newGr (unN ts q room s)).getD j []).length (cp j))
  rw[hge j hj'];exact hcell j hj'
 ·have hj':j<k:=by simpa using hj
  show GrpAt _ _ _ _ (gb j) (fun _=>0) (os j) (((List.range k).map fun s=>newGr (unN ts q room s)).getD j [])/\(gb j=sb∨∃ i,i<k/\gb j=gb i)/\(((List.range k).map fun s=>newGr (unN ts q room s)).getD j []).length<=cp j/\cp j<=9223372036854775807
  rw[hge j hj'];exact⟨(h.grp j hj').1.mono fun b _ hb=>hG b hb,.inr ⟨j,hj',rfl⟩,(h.grp j hj').2.2⟩
 ·exact h.apart i j (by simpa using hi) (by simpa using hj) e
theorem Tryz.infoGroup:(Tryz.prog.info? 105).map (fun i=>(i.zero,i.size,i.bytes))=some (some (.slice none 0 0),1,24):=by kernel_rfl
theorem push_groupL (W:World) (base:Nat) (v:Value) (n:Nat) (xs:List Value) (hown:W.ownsRow base 105 1 v n xs) (hl:n<=1000) (hb:base<=W.heap.size) (ga:Option Addr) (gl gc:Nat) (ty:TypeId) :
  ∃ v' w',(Builtin.append_ #[82,82] ty #[v,.slice (some (aD W.heap.size 0)) 1 1]).run Tryz.prog (W.alloc (.cells #[.slice ga gl gc] 105))=.ok v' w'/\
   w'.ownsRow base 105 1 v' (n+1) (xs++[.slice ga gl gc])/\Kept (fun b=>v.ownBlock≠some b) W w'/\(∃ a m c,v' = .slice a m c)/\(v'.ownBlock=v.ownBlock∨v'.ownBlock=some (W.heap.size+1)):=by
 obtain⟨i0,hi,hz0,hz1,hz2⟩:=info_parts Tryz.infoGroup;obtain⟨v',w',hr,ho,hk,hs,hat⟩:=push_own (P:=Tryz.prog) W base 82 ty 105 i0 _ 1 24 Tryz.underlying82 hi hz0 hz1 hz2 rfl (by decide) v n _ hown hb [.slice ga gl gc] rfl (fun u hu=>by
  rw[List.mem_singleton] at hu;rw[hu];rfl) hl (by decide)
 exact⟨v',w',hr,ho,hk,hs,hat⟩
end Go.Proofs.YtlpbelhfpoilpabGreatDoor
namespace Go.Scout
open Go.RowKit
theorem reopen_take (rk:Nat->Int) (s:Nat) (gs:List (List PlaceD)) (a:List TaskD) (k:Nat):(List.range (k+1)).foldl (reopenS rk s gs) a=reopenS rk s gs ((List.range k).foldl (reopenS rk s gs) a) k:=by
 rw[List.range_succ,List.foldl_append];rfl
theorem TaskOk.small {n:Nat} {gs:List (List PlaceD)} {t:TaskD} (h:TaskOk n gs t) (hn:n<=5) (hg:gs.length<=31):t.1<32/\t.2<32:=by
 rcases h with⟨h0,i,hi,e⟩ | ⟨_,h1,h2,_⟩
 ·rw[h0,e];have:i=0∨i=1∨i=2∨i=3∨i=4:=by omega
  rcases this with rfl | rfl | rfl | rfl | rfl <;> decide
 ·omega
theorem headP_none {g:List PlaceD}:(headP g).isSome=(g.getD 0 plz).2.isSome:=by
 match g with
 | [] => rfl
 | (_,none)::_ => rfl
 | (_,some _)::_ => rfl
end Go.Scout
namespace Go.Proofs.YtlpbelhfpoilpabGreatDoor
open Go.RowKit Go.Scout Go.Shelf
theorem arr14 (f:FactsV) (ts:List TableD) (q:QueryV) (L:SeL) (σ:SeD):(f.cells ts q++tailC L σ)[14]? = some L.av:=by
 obtain⟨v0,v1,v2,v3,v4,v5,v6,v7,v8,v9,v10,v11,v12,hFC,-⟩:=factsCells f ts q;rw[hFC];rfl
theorem set14 (f:FactsV) (ts:List TableD) (q:QueryV) (L:SeL) (σ:SeD) (av:Value):(f.cells ts q++tailC L σ).setIfInBounds 14 av=f.cells ts q++tailC { L with av:=av } σ:=by
 obtain⟨v0,v1,v2,v3,v4,v5,v6,v7,v8,v9,v10,v11,v12,hFC,-⟩:=factsCells f ts q;rw[hFC];rfl
theorem reopen_any {W0:World} {f:FactsV} {ts:List TableD} {q:QueryV} {X M:Nat->Prop} {w:World} {sb:Nat} {L:SeL} {σ:SeD} (h:SeAt W0 f ts q X M w sb L σ) (s:Nat) (hs:s<32) (hgl:σ.groups.length<=31) (hg0:∀ k,k<σ.groups.length->0<(σ.groups.getD k []).length) (ha:∀ t∈σ.agenda,t.1<32/\t.2<32) (hal:σ.agenda.length<=900000) :
  Calls Tryz.prog 107 #[.pointer (some (aD sb 0)),.int .u64 (s:Int)] w fun e w'=>(∃ v,e=.returned v)/\SePost W0 f ts q X M w sb { σ with agenda:=reopenN rkN s σ.groups σ.agenda } w':=by
 obtain⟨v0,v1,v2,v3,v4,v5,v6,v7,v8,v9,v10,v11,v12,hFC,-⟩:=factsCells f ts q;obtain⟨AK,hAK⟩:∃ A:Nat->List TaskD,A=fun k=>(List.range k).foldl (reopenS rkN s σ.groups) σ.agenda:=⟨_,rfl⟩
 have HST:Hid (∀ k,AK (k+1)=reopenS rkN s σ.groups (AK k) k):=fun k=>by rw[hAK]; exact reopen_take _ _ _ _ _
 have HE:Hid (AK σ.groups.length=reopenN rkN s σ.groups σ.agenda):=by show _=_; rw[hAK]; rfl
 have HOK:Hid (∀ k,k<=σ.groups.length->(∀ t∈AK k,t.1<32/\t.2<32)/\(AK k).length<=901000):=fun k hk=>by
  rw[hAK];refine⟨fun t ht=>?_,?_⟩
  ·rcases reopen_mem _ _ _ ht with h1 | ⟨j,hj,_,_,h1⟩
   ·exact ha t h1
   ·have:=List.mem_range.1 hj;rcases h1 with rfl | rfl
    ·exact⟨hs,by show j<32; omega⟩
    ·exact⟨by show j<32; omega,hs⟩
  ·refine Nat.le_trans (reopen_len _ _ _ _ _) ?_;rw[List.length_range];omega
 have HP0:Hid (SePostL W0 f ts q X M w sb { L with av:=L.av } { σ with agenda:=AK 0 } w):=by rw[hAK]; exact h.post (Kept.refl _ _)
 have c13:w.cell? (aD sb 13)=some (.slice (some (aD L.gs 0)) σ.groups.length L.gcap):=by
  have:=h.blk.cell 13;rw[hFC] at this;exact this
 have HG0:Hid (∀ k,k<σ.groups.length->0<(σ.groups.getD k []).length):=hg0;have HMT:Hid (∀ (k:Nat) (x:World),k<32->Calls Tryz.prog 129 #[.int .u64 (k:Int),.int .u64 (s:Int)] x fun e w'=>e=.returned (.bool (decide (k &&& s≠0)))/\w' = x):=fun k x hk=>meets_any k s (by omega) (by omega) x
 have HS:Hid (s<32):=hs;clear h hAK hg0 ha hal hFC;have hgn:=hgl;obtain⟨gl,hgln⟩:∃ n,n=σ.groups.length:=⟨_,rfl⟩
 rw[<- hgln] at hgl hgn HE HOK c13 HG0;have HGLN:Hid (gl=σ.groups.length):=hgln;clear hgln;go_enter Tryz.func107,Tryz.ntmps107;go_wp2;go_loopw [12] (fun iv wr=>∃ (k:Nat) (av:Value),k<=gl/\iv=.int .i64 (k:Int)/\Hid (SePostL W0 f ts q X M w sb { L with av:=av } { σ with agenda:=AK k } wr)) (fun iv _=>gl-(intOf iv).toNat)
 case atStart=>exact⟨0,L.av,Nat.zero_le _,rfl,HP0.out⟩
 case round=>
  obtain⟨k,av,hk,rfl,HP⟩:=hrel;by_cases hlt:k<gl
  ·obtain⟨X1,M1,hA1,hk1,h11,h12,h13⟩:=HP.out;have hkg:k<σ.groups.length:=by rw[<- HGLN.out]; exact hlt
   have hgc:wr.cell? (aD L.gs k)=some (.slice (some (aD (L.gb k) 0)) (σ.groups.getD k []).length (L.gcp k)):=hA1.gcell k hkg;obtain⟨hG1,-⟩:=hA1.grp k hkg;have hAP:=anyPiece_any hG1 (HG0.out k hlt) (L.gcp k);change Calls Tryz.prog 128 #[.slice (some (aD (L.gb k) 0)) (σ.groups.getD k []).length (L.gcp k)] wr (fun e w'=>e=.returned (ptrV (L.A k) ((σ.groups.getD k []).getD 0 plz).2)/\w' = wr) at hAP;have hre:=HST.out k;unfold reopenS at hre;rw[headP_none] at hre;have HA1:Hid (SeAt W0 f ts q X1 M1 wr sb { L with av:=av } { σ with agenda:=AK k }):=hA1;have HKX:Hid (Kept (fun b=>¬ M b) w wr/\(∀ b,M b->M1 b)/\(∀ b,M1 b->M b∨w.heap.size<=b)/\(∀ b,X1 b↔X b∨M1 b)):=⟨hk1,h11,h12,h13⟩
   have hMT:=HMT.out k wr (by omega);have hcv:IntKind.u64.wrap (k:Int)=(k:Int):=by rw[IntKind.wrap_u64]; omega
   generalize (σ.groups.getD k []).length=ggl at *;generalize L.gcp k=ggc at *;generalize L.gb k=ggb at *;clear hA1 hk1 h11 h12 h13 hG1 hkg
   cases hy:((σ.groups.getD k []).getD 0 plz).2 with
   | none =>
    rw[hy] at hAP hre;have HNX:Hid (AK (k+1)=AK k):=hre;change Calls _ _ _ wr (fun e w'=>e=.returned (.pointer none)/\w' = wr) at hAP;clear hy hre;go_wp2_with fail;refine hAP.mono ?_;rintro e wz ⟨rfl,hwz⟩;have hwz':=hwz.symm;subst hwz';clear hAP hMT hgc;go_wp2;go_roundw
    case rel=>exact⟨k+1,av,by omega,by go_num,by show SePostL _ _ _ _ _ _ _ _ _ _ _; rw[HNX.out]; exact HP.out⟩
    case measure=>simp[intOf]; omega
   | some y =>
    rw[hy] at hAP hre;change Calls _ _ _ wr (fun e w'=>e=.returned (.pointer (some (aD (L.A k y.1) 0)))/\w' = wr) at hAP;generalize L.A k y.1=yp at *;clear hy;by_cases hks:k &&& s=0
    ·have HNX:Hid (AK (k+1)=[(s,k),(k,s)].foldl (addA rkN) (AK k)):=by
      show _=_
      rw[hre,decide_eq_true hks];rfl
     rw[decide_eq_false (by simpa using hks)] at hMT;obtain⟨w1,hw1,hb1,hx1⟩:=newB wr #[.int .u64 (s:Int),.int .u64 (k:Int),.int .u64 (k:Int),.int .u64 (s:Int)] 111;have hA2:=HA1.out.below hb1;have hOKk:=HOK.out k hk;have hAD:=addT_any sb W0.heap.size _ av (AK k) [(s,k),(k,s)] (some (aD wr.heap.size 0)) 2 w1 hA2.blk (arr14 f ts q _ _) hA2.ag hA2.hz.below.size ⟨by simp,fun i hi=>⟨wr.heap.size,0,rfl,by
      rw[Nat.zero_add];have hi':i<2:=hi
      match i,hi' with
      | 0,_ => exact⟨hx1.cell 0,hx1.cell 1⟩
      | 1,_ => exact⟨hx1.cell 2,hx1.cell 3⟩⟩⟩ (fun a e => by
       injection e with e;rw[<- e];exact show wr.heap.size≠sb/\av.ownBlock≠some wr.heap.size from ⟨fun e'=>by have:=HA1.out.blk.lt; omega,fun e'=>by have:=(ownsRow_lt HA1.out.ag e').2; omega⟩) (by have:=hOKk.2; simp; omega) hOKk.1 (fun t ht=>by
       have hs32:=HS.out;rcases List.mem_cons.1 ht with rfl | ht
       ·exact⟨hs32,by show k<32; omega⟩
       ·rw[List.mem_singleton] at ht;rw[ht];exact⟨by show k<32; omega,hs32⟩)
     have HB1:Hid (Below wr.heap.size wr w1):=hb1;clear hre hks hb1 hx1 hA2 hOKk;go_wp2_with fail;refine hAP.mono ?_;rintro e wz ⟨rfl,hwz⟩;have hwz':=hwz.symm;subst hwz';clear hAP;go_wp2_with fail;refine hMT.mono ?_;rintro e wz ⟨rfl,hwz⟩;have hwz':=hwz.symm;subst hwz';clear hMT;go_wp2_with fail;refine hAD.mono ?_;rintro e w2 ⟨⟨rv,rfl⟩,av2,hg2,ho2,hk2,hv2⟩;have HF:Hid (SePostL W0 f ts q X M w sb { L with av:=av2 } { σ with agenda:=AK (k+1) } w2):=by
      rw[HNX.out];have hkk:Kept (fun b=>b≠sb/\av.ownBlock≠some b/\L.pv.ownBlock≠some b) wr w2:=(Kept.of_below HB1.out (fun _ h _=>h)).trans (hk2.mono (fun b _ h=>⟨h.1,h.2.1⟩));refine SePostL.trans HKX.out.1 HKX.out.2.1 HKX.out.2.2.1 HKX.out.2.2.2 (HA1.out.next hkk (av:=av2) (pv:=L.pv) (ag:=[(s,k),(k,s)].foldl (addA rkN) (AK k)) (pk:=σ.picks) (st:=σ.status) ?_ ho2 ?_ ?_ (.inl rfl))
      ·have:=hg2;rw[set14] at this;exact this
      ·rcases hv2 with h | ⟨g,h,hg⟩
       ·exact .inl h
       ·exact .inr ⟨g,h,Nat.le_trans HB1.out.size hg⟩
      ·refine ownsRow_keep HA1.out.pk ((Kept.of_below HB1.out (fun _ h _=>h)).trans hk2) (fun g e=>?_);have hne:=HA1.out.ne;exact⟨fun e'=>hne.2.1 (e' ▸ e),fun e'=>hne.2.2.1 g e' e⟩
     clear hAD hg2 ho2 hk2 hv2 hgc hw1;go_wp2;go_roundw
     case rel=>exact⟨k+1,av2,by omega,by go_num,HF.out⟩
     case measure=>simp[intOf]; omega
    ·have HNX:Hid (AK (k+1)=AK k):=by
      show _=_
      rw[hre,decide_eq_false hks];rfl
     rw[decide_eq_true (by simpa using hks)] at hMT;clear hre hks;go_wp2_with fail;refine hAP.mono ?_;rintro e wz ⟨rfl,hwz⟩;have hwz':=hwz.symm;subst hwz';clear hAP;go_wp2_with fail;refine hMT.mono ?_;rintro e wz ⟨rfl,hwz⟩;have hwz':=hwz.symm;subst hwz';clear hMT hgc;go_wp2;go_roundw
     case rel=>exact⟨k+1,av,by omega,by go_num,by show SePostL _ _ _ _ _ _ _ _ _ _ _; rw[HNX.out]; exact HP.out⟩
     case measure=>simp[intOf]; omega
  ·have hkg:gl=k:=by omega
   have HF:Hid (SePost W0 f ts q X M w sb { σ with agenda:=reopenN rkN s σ.groups σ.agenda } wr):=by
    refine⟨{ L with av:=av },?_⟩;have:=HP.out;rw[<- hkg,HE.out] at this;exact this
   clear hkg;go_wp2;go_end0;exact⟨⟨_,rfl⟩,HF.out⟩
theorem plainest_any {F:Nat->Prop} {W0 w:World} {f:FactsV} {ts:List TableD} {q:QueryV} (E:Env f ts q W0) (hz:Fz F W0 w):Calls Tryz.prog 39 #[.agg (f.cells ts q)] w (TreePost 95 F w (plainT ts q)):=by
 obtain⟨v0,v1,v2,v3,v4,v5,v6,v7,v8,v9,v10,v11,v12,hFC,hv0,-,hv2,-,-,-,hv6,-,-,hv9,-⟩:=factsCells f ts q;have hone:=E.one;have h5:=E.five;have hq4:=E.few;have hc:2 ^ q.wh.length-1<2 ^ q.wh.length:=by have:0<2 ^ q.wh.length:=Nat.pow_pos (by omega); omega
 have HGN:Hid (∀ x (k:Nat),Below w.heap.size w x->k<q.src.xs.length->Calls Tryz.prog 64 #[.agg #[v0,v1,v2,v3,v4,v5,v6,v7,v8,v9,v10,v11,v12],.agg #[.int .i64 1,.int .i64 0,.int .i64 0,.int .i64 (k:Int),.slice none 0 0,.int .i64 0,.slice none 0 0],.slice none 0 0] x (TreePost 95 F x (growT ts q (scanK (k:Int)) []))):=fun x k hx hk=>by
  rw[<- hFC];exact grow_none E (hz.next hx) k (by omega) (by omega)
 have HGT:Hid (∀ x b r r' (k:Nat),Below w.heap.size w x->k+1<q.src.xs.length->TreeF 95 F x r (plainTo ts q k)->TreeF 95 F x r' (growT ts q (scanK ((k+1:Nat):Int)) [])->x.cell? (aD b 0)=some (.pointer (some (aD r 0)))->x.cell? (aD b 1)=some (.pointer (some (aD r' 0)))->Calls Tryz.prog 64 #[.agg #[v0,v1,v2,v3,v4,v5,v6,v7,v8,v9,v10,v11,v12],.agg #[.int .i64 3,.int .i64 0,.int .i64 0,.int .i64 0,.slice none 0 0,.int .i64 0,.slice none 0 0],.slice (some (aD b 0)) 2 2] x (TreePost 95 F x (plainTo ts q (k+1)))):=fun x b r r' k hx hk hr hr' h0 h1=>by
  rw[<- hFC];exact grow_two E (hz.next hx) ⟨3,0,0,0,nilV,0,nilV⟩ ⟨nilV_at x,InF.nil _ _,fun _=>rfl,nilV_at x,InF.nil _ _,fun _=>rfl,Nat.le_refl _,Nat.zero_le _,Nat.zero_le _⟩ r r' b _ _ hr (plainTo_ok ts q k (by omega)).1 hr' (scan_ok ts (by omega) (by omega)) h0 h1 (by decide:(3:Int)<=3) (by decide:(3:Int)<=5) (smallL_nil _)
 have HFI:Hid (∀ x r,Below w.heap.size w x->TreeF 95 F x r (plainTo ts q (q.src.xs.length-1))->r<x.heap.size->Calls Tryz.prog 65 #[.agg #[v0,v1,v2,v3,v4,v5,v6,v7,v8,v9,v10,v11,v12],.pointer (some (aD r 0)),.int .u64 ((2 ^ q.wh.length-1:Nat):Int)] x fun e w'=>∃ r',e=.returned (.pointer (some (aD r' 0)))/\TreeF 95 F w' r' (filteredT ts q (plainTo ts q (q.src.xs.length-1)) (2 ^ q.wh.length-1))/\(r' = r∨x.heap.size<=r')/\r'<w'.heap.size/\Below x.heap.size x w'):=fun x r hx hr hl=>by
  rw[<- hFC];exact filtered_any E (hz.next hx) r _ hr (plainTo_ok ts q _ (by omega)).1 _ hc hl
 have HG1:Hid (∀ x b r t (k:Int),Below w.heap.size w x->7<=k->k<=10->TOk q t->TreeF 95 F x r t->x.cell? (aD b 0)=some (.pointer (some (aD r 0)))->Calls Tryz.prog 64 #[.agg #[v0,v1,v2,v3,v4,v5,v6,v7,v8,v9,v10,v11,v12],.agg #[.int .i64 k,.int .i64 0,.int .i64 0,.int .i64 0,.slice none 0 0,.int .i64 0,.slice none 0 0],.slice (some (aD b 0)) 1 1] x (TreePost 95 F x (growT ts q (nodeK k) [t]))):=fun x b r t k hx h7 h10 ht hr h0=>by
  rw[<- hFC];exact grow_one E (hz.next hx) ⟨k,0,0,0,nilV,0,nilV⟩ ⟨nilV_at x,InF.nil _ _,fun _=>rfl,nilV_at x,InF.nil _ _,fun _=>rfl,Nat.le_refl _,Nat.zero_le _,Nat.zero_le _⟩ r b t hr ht h0 (by show arity k=1; unfold arity; rw[if_neg (by omega),if_neg (by omega)]) (by show 2<=k; omega) h10 (smallL_nil _)
 obtain⟨T1,hT1⟩:∃ t,filteredT ts q (plainTo ts q (q.src.xs.length-1)) (2 ^ q.wh.length-1)=t:=⟨_,rfl⟩
 have HK1:Hid (TOk q T1):=by rw[<- hT1]; exact filteredT_ok (plainTo_ok ts q _ (by omega)).1 hc
 obtain⟨T2,hT2⟩:∃ t,growT ts q (nodeK (if q.group=true then 7 else 9)) [T1]=t:=⟨_,rfl⟩
 have HK2:Hid (TOk q T2):=by rw[<- hT2]; exact (grow_ok1' ts (by split <;> omega) (by split <;> omega) HK1.out).1
 have hR:plainT ts q=if 0<q.ord.xs.length then growT ts q (nodeK 10) [T2] else T2:=by unfold plainT; simp only; rw[hT1,hT2]
 obtain⟨R,hRR⟩:∃ R,R=plainT ts q:=⟨_,rfl⟩
 rw[<- hRR,hFC];obtain⟨T3,hT3⟩:∃ t,growT ts q (nodeK 10) [T2]=t:=⟨_,rfl⟩
 have HRR:Hid (R=if 0<q.ord.xs.length then T3 else T2):=by show _=_; rw[hRR,hR,hT3]
 rw[hT1] at HFI;have HGA:Hid (∀ x b r,Below w.heap.size w x->TreeF 95 F x r T1->x.cell? (aD b 0)=some (.pointer (some (aD r 0)))->Calls Tryz.prog 64 #[.agg #[v0,v1,v2,v3,v4,v5,v6,v7,v8,v9,v10,v11,v12],.agg #[.int .i64 (if q.group=true then 7 else 9),.int .i64 0,.int .i64 0,.int .i64 0,.slice none 0 0,.int .i64 0,.slice none 0 0],.slice (some (aD b 0)) 1 1] x (TreePost 95 F x T2)):=fun x b r hx hr h0=>by
  rw[<- hT2];exact HG1.out x b r T1 _ hx (by split <;> omega) (by split <;> omega) HK1.out hr h0
 have HGB:Hid (∀ x b r,Below w.heap.size w x->TreeF 95 F x r T2->x.cell? (aD b 0)=some (.pointer (some (aD r 0)))->Calls Tryz.prog 64 #[.agg #[v0,v1,v2,v3,v4,v5,v6,v7,v8,v9,v10,v11,v12],.agg #[.int .i64 10,.int .i64 0,.int .i64 0,.int .i64 0,.slice none 0 0,.int .i64 0,.slice none 0 0],.slice (some (aD b 0)) 1 1] x (TreePost 95 F x T3)):=fun x b r hx hr h0=>by
  rw[<- hT3];exact HG1.out x b r T2 10 hx (by omega) (by omega) HK2.out hr h0
 have HPZ:Hid (growT ts q (scanK ((0:Nat):Int)) []=plainTo ts q 0):=rfl;clear hR hRR hT1 hT2 hT3 hFC E hz HG1 HK1 HK2 hc hq4;generalize growT ts q=GT at *;generalize plainTo ts q=PT at *;generalize 2 ^ q.wh.length-1=CN at *;unfold IntsV.val at hv0 hv6;generalize q.src.xs.length=n at *;generalize q.src.ad=sa at *;generalize q.src.cap=sc at *;generalize q.ord.xs.length=ol at *;generalize q.ord.ad=oa at *;generalize q.ord.cap=oc at *;generalize q.group=gr at *;obtain⟨w1,hw1,hb1,hg1⟩:=newB w #[v0,v1,v2,v3,v4,v5,v6,v7,v8,v9,v10,v11,v12] 79;have a0:w1.cell? (aD w.heap.size 0)=some v0:=hg1.cell 0;have a1:w1.cell? (aD w.heap.size 1)=some v1:=hg1.cell 1;have a2:w1.cell? (aD w.heap.size 2)=some v2:=hg1.cell 2;have a3:w1.cell? (aD w.heap.size 3)=some v3:=hg1.cell 3;have a4:w1.cell? (aD w.heap.size 4)=some v4:=hg1.cell 4;have a5:w1.cell? (aD w.heap.size 5)=some v5:=hg1.cell 5;have a6:w1.cell? (aD w.heap.size 6)=some v6:=hg1.cell 6;have a7:w1.cell? (aD w.heap.size 7)=some v7:=hg1.cell 7;have a8:w1.cell? (aD w.heap.size 8)=some v8:=hg1.cell 8;have a9:w1.cell? (aD w.heap.size 9)=some v9:=hg1.cell 9;have a10:w1.cell? (aD w.heap.size 10)=some v10:=hg1.cell 10;have a11:w1.cell? (aD w.heap.size 11)=some v11:=hg1.cell 11;have a12:w1.cell? (aD w.heap.size 12)=some v12:=hg1.cell 12;rw[hv0] at a0;rw[hv2] at a2;rw[hv6] at a6;rw[hv9] at a9;have HV:Hid (v0=_/\v2=_/\v6=_/\v9=_):=⟨hv0,hv2,hv6,hv9⟩
 have HB1:Hid (Below w.heap.size w w1):=hb1;have hGN:=HGN.out w1 0 hb1 (by omega);rw[HPZ.out] at hGN;clear hb1 hg1 HPZ;rw[hv0,hv2,hv6,hv9] at HGN HGT HFI HGA HGB hGN hw1 ⊢;clear hv0 hv2 hv6 hv9 HV;go_enter Tryz.func39,Tryz.ntmps39;go_wp2_with fail;refine hGN.mono ?_;rintro e w2 ⟨r0,rfl,hT,hr1,hr2,hb2⟩;have b0:=cB hb2 a0;have b1:=cB hb2 a1;have b2:=cB hb2 a2;have b3:=cB hb2 a3;have b4:=cB hb2 a4;have b5:=cB hb2 a5;have b6:=cB hb2 a6;have b7:=cB hb2 a7;have b8:=cB hb2 a8;have b9:=cB hb2 a9;have b10:=cB hb2 a10;have b11:=cB hb2 a11;have b12:=cB hb2 a12;clear a0 a1 a2 a3 a4 a5 a6 a7 a8 a9 a10 a11 a12;have HT0:Hid (TreeF 95 F w2 r0 (PT 0)):=hT;have HR0:Hid (w.heap.size<=r0/\r0<w2.heap.size):=⟨Nat.le_trans HB1.out.size hr1,hr2⟩
 have HB2:Hid (Below w.heap.size w w2):=bQ1 HB1.out hb2;clear hGN hT hr1 hr2 hb2 hw1;go_wp2;go_loopw [3,4] (fun pv sv wr=>∃ m k r:Nat,m<=n/\Hid (m=k+1)/\sv=.int .i64 (m:Int)/\pv=.pointer (some (aD r 0))/\Hid (TreeF 95 F wr r (PT k))/\Hid (w.heap.size<=r/\r<wr.heap.size)/\Hid (Below w2.heap.size w2 wr)) (fun _ sv _=>n-(intOf sv).toNat)
 case atStart=>exact⟨1,0,r0,hone,rfl,rfl,rfl,HT0.out,HR0.out,Below.refl _ _⟩
 case round=>
  obtain⟨m,k,r,hm,HMK,rfl,rfl,HT,HR,HBX⟩:=hrel;have c0:=cB HBX.out b0;have c1:=cB HBX.out b1;have c2:=cB HBX.out b2;have c3:=cB HBX.out b3;have c4:=cB HBX.out b4;have c5:=cB HBX.out b5;have c6:=cB HBX.out b6;have c7:=cB HBX.out b7;have c8:=cB HBX.out b8;have c9:=cB HBX.out b9;have c10:=cB HBX.out b10;have c11:=cB HBX.out b11;have c12:=cB HBX.out b12;by_cases hlt:m<n
  ·have hGN:=HGN.out wr m (bQ1 HB2.out HBX.out) hlt;have HGT2:=HGT.out;clear HFI HGA HGB;go_wp2_with fail;refine hGN.mono ?_;rintro e w3 ⟨r',rfl,hT',hr1',hr2',hb3⟩;have d0:=cB hb3 c0;have d1:=cB hb3 c1;have d2:=cB hb3 c2;have d3:=cB hb3 c3;have d4:=cB hb3 c4;have d5:=cB hb3 c5;have d6:=cB hb3 c6;have d7:=cB hb3 c7;have d8:=cB hb3 c8;have d9:=cB hb3 c9;have d10:=cB hb3 c10;have d11:=cB hb3 c11;have d12:=cB hb3 c12;clear c0 c1 c2 c3 c4 c5 c6 c7 c8 c9 c10 c11 c12;have hT3:=HT.out.below hb3;obtain⟨w4,hw4⟩:∃ x,w3.alloc (.cells #[.pointer (some (aD r 0)),.pointer (some (aD r' 0))] 85)=x:=⟨_,rfl⟩
   have hb4:Below w3.heap.size w3 w4:=by rw[<- hw4]; exact bQ2 _ _
   have hb24:Below w2.heap.size w2 w4:=bQ1 HBX.out (bQ1 hb3 hb4);have hmk:=HMK.out;have hGT:=HGT2 w4 w3.heap.size r r' k (bQ1 HB2.out hb24) (by omega) (hT3.below hb4) (by rw[<- hmk]; exact hT'.below hb4) (by rw[<- hw4]; simp) (by rw[<- hw4]; simp);have HB24:Hid _:=hb24;clear HGT2 hGN hT' hr1' hr2' hb3 hT3 hb4 hb24 hmk;go_wp2_with fail;refine hGT.mono ?_;rintro e w5 ⟨r2,rfl,hT5,hr1,hr2,hb5⟩;have HT5:Hid (TreeF 95 F w5 r2 (PT (k+1))):=hT5;have HB5:Hid (Below w2.heap.size w2 w5):=bQ1 HB24.out hb5;have HR5:Hid (w.heap.size<=r2/\r2<w5.heap.size):=⟨Nat.le_trans HB2.out.size (Nat.le_trans HB24.out.size hr1),hr2⟩
   clear hGT hT5 hr1 hr2 hb5 hw4;go_wp2;go_roundw
   case rel=>exact⟨m+1,k+1,r2,by omega,by show _=_; rw[HMK.out],by go_num,rfl,HT5.out,HR5.out,HB5.out⟩
   case measure=>simp[intOf]; omega
  ·have hmn:n=m:=by omega
   subst hmn;have hkn:k=n-1:=by have:=HMK.out; omega
   subst hkn;have hFI:=HFI.out wr r (bQ1 HB2.out HBX.out) HT.out HR.out.2;clear HGN HGT HFI hlt hm;go_wp2_with fail;refine hFI.mono ?_;rintro e w3 ⟨r3,rfl,hT3,hr31,hr32,hb3⟩;have d0:=cB hb3 c0;have d1:=cB hb3 c1;have d2:=cB hb3 c2;have d3:=cB hb3 c3;have d4:=cB hb3 c4;have d5:=cB hb3 c5;have d6:=cB hb3 c6;have d7:=cB hb3 c7;have d8:=cB hb3 c8;have d9:=cB hb3 c9;have d10:=cB hb3 c10;have d11:=cB hb3 c11;have d12:=cB hb3 c12;clear c0 c1 c2 c3 c4 c5 c6 c7 c8 c9 c10 c11 c12;have HB3:Hid (Below w.heap.size w w3):=bQ1 HB2.out (bQ1 HBX.out hb3);have HT3:Hid (TreeF 95 F w3 r3 T1):=hT3;obtain⟨w4,hw4⟩:∃ x,w3.alloc (.cells #[.pointer (some (aD r3 0))] 85)=x:=⟨_,rfl⟩
   have hb4:Below w3.heap.size w3 w4:=by rw[<- hw4]; exact bQ2 _ _
   have hGA:=HGA.out w4 w3.heap.size r3 (bQ1 HB3.out hb4) (HT3.out.below hb4) (by rw[<- hw4]; simp);have HB4:Hid (Below w3.heap.size w3 w4):=hb4;clear hFI hT3 hr31 hr32 hb3 hb4 HGA HT HR HBX
   cases gr with
   | true =>
    rw[if_pos rfl] at hGA;go_wp2_with fail;refine hGA.mono ?_;rintro e w5 ⟨r5,rfl,hT5,hr1,hr2,hb5⟩;have hb35:Below w3.heap.size w3 w5:=bQ1 HB4.out hb5;have e0:=cB hb35 d0;have e1:=cB hb35 d1;have e2:=cB hb35 d2;have e3:=cB hb35 d3;have e4:=cB hb35 d4;have e5:=cB hb35 d5;have e6:=cB hb35 d6;have e7:=cB hb35 d7;have e8:=cB hb35 d8;have e9:=cB hb35 d9;have e10:=cB hb35 d10;have e11:=cB hb35 d11;have e12:=cB hb35 d12;clear d0 d1 d2 d3 d4 d5 d6 d7 d8 d9 d10 d11 d12;have HB5:Hid (Below w.heap.size w w5):=bQ1 HB3.out hb35;have HT5:Hid (TreeF 95 F w5 r5 T2):=hT5;have HR5:Hid (w.heap.size<=r5/\r5<w5.heap.size):=⟨Nat.le_trans HB3.out.size (Nat.le_trans HB4.out.size hr1),hr2⟩
    clear hGA hT5 hr1 hr2 hb5 hb35 hw4;by_cases ho:0<ol
    ·have hob:decide (0<ol)=true:=decide_eq_true ho;have HRT:Hid (R=T3):=by show _=_; rw[HRR.out,if_pos ho]
     obtain⟨w6,hw6⟩:∃ x,w5.alloc (.cells #[.pointer (some (aD r5 0))] 85)=x:=⟨_,rfl⟩
     have hb6:Below w5.heap.size w5 w6:=by rw[<- hw6]; exact bQ2 _ _
     have hGB:=HGB.out w6 w5.heap.size r5 (bQ1 HB5.out hb6) (HT5.out.below hb6) (by rw[<- hw6]; simp);have HB6:Hid (Below w.heap.size w w6):=bQ1 HB5.out hb6;clear hb6 HGB HRR;go_wp2_with fail;refine hGB.mono ?_;rintro e w7 ⟨r7,rfl,hT7,hr1,hr2,hb7⟩;have HP:Hid (TreePost 95 F w T3 (.returned (.pointer (some (aD r7 0)))) w7):=⟨r7,rfl,hT7,Nat.le_trans HB6.out.size hr1,hr2,bQ1 HB6.out hb7⟩
     clear hGB hT7 hr1 hr2 hb7 hw6;go_wp2;go_ret;rw[HRT.out];exact HP.out
    ·have hob:decide (0<ol)=false:=decide_eq_false ho;have HRT:Hid (R=T2):=by show _=_; rw[HRR.out,if_neg ho]
     obtain rfl:ol=0:=by omega
     clear HGB HRR ho hob;go_wp2;go_ret;rw[HRT.out];exact⟨r5,rfl,HT5.out,HR5.out.1,HR5.out.2,HB5.out⟩
   | false =>
    rw[if_neg (by decide)] at hGA;go_wp2_with fail;refine hGA.mono ?_;rintro e w5 ⟨r5,rfl,hT5,hr1,hr2,hb5⟩;have hb35:Below w3.heap.size w3 w5:=bQ1 HB4.out hb5;have e0:=cB hb35 d0;have e1:=cB hb35 d1;have e2:=cB hb35 d2;have e3:=cB hb35 d3;have e4:=cB hb35 d4;have e5:=cB hb35 d5;have e6:=cB hb35 d6;have e7:=cB hb35 d7;have e8:=cB hb35 d8;have e9:=cB hb35 d9;have e10:=cB hb35 d10;have e11:=cB hb35 d11;have e12:=cB hb35 d12;clear d0 d1 d2 d3 d4 d5 d6 d7 d8 d9 d10 d11 d12;have HB5:Hid (Below w.heap.size w w5):=bQ1 HB3.out hb35;have HT5:Hid (TreeF 95 F w5 r5 T2):=hT5;have HR5:Hid (w.heap.size<=r5/\r5<w5.heap.size):=⟨Nat.le_trans HB3.out.size (Nat.le_trans HB4.out.size hr1),hr2⟩
    clear hGA hT5 hr1 hr2 hb5 hb35 hw4;by_cases ho:0<ol
    ·have hob:decide (0<ol)=true:=decide_eq_true ho;have HRT:Hid (R=T3):=by show _=_; rw[HRR.out,if_pos ho]
     obtain⟨w6,hw6⟩:∃ x,w5.alloc (.cells #[.pointer (some (aD r5 0))] 85)=x:=⟨_,rfl⟩
     have hb6:Below w5.heap.size w5 w6:=by rw[<- hw6]; exact bQ2 _ _
     have hGB:=HGB.out w6 w5.heap.size r5 (bQ1 HB5.out hb6) (HT5.out.below hb6) (by rw[<- hw6]; simp);have HB6:Hid (Below w.heap.size w w6):=bQ1 HB5.out hb6;clear hb6 HGB HRR;go_wp2_with fail;refine hGB.mono ?_;rintro e w7 ⟨r7,rfl,hT7,hr1,hr2,hb7⟩;have HP:Hid (TreePost 95 F w T3 (.returned (.pointer (some (aD r7 0)))) w7):=⟨r7,rfl,hT7,Nat.le_trans HB6.out.size hr1,hr2,bQ1 HB6.out hb7⟩
     clear hGB hT7 hr1 hr2 hb7 hw6;go_wp2;go_ret;rw[HRT.out];exact HP.out
    ·have hob:decide (0<ol)=false:=decide_eq_false ho;have HRT:Hid (R=T2):=by show _=_; rw[HRR.out,if_neg ho]
     obtain rfl:ol=0:=by omega
     clear HGB HRR ho hob;go_wp2;go_ret;rw[HRT.out];exact⟨r5,rfl,HT5.out,HR5.out.1,HR5.out.2,HB5.out⟩
end Go.Proofs.YtlpbelhfpoilpabGreatDoor
namespace Go.Scout
open Go.RowKit
theorem opIn_plain {P:Program} {ops:Array Oper} {Q:Exit->Act->World->Prop} {l:Nat} (hd:∀ o∈ops,∀ c,o.op ≠ .defer c) (hQ:¬ LetsOut Q) {i:Nat} {K K':Act->World->Prop} (hK:∀ a w,K a w->K' a w) {a:Act} {w:World} (h:wpOp P ops Q i K a w):wpOpIn (Fence.wide.inRound l) 0 P ops Q i K' a w:=by
 unfold wpOp at h;unfold wpOpIn
 cases ho:ops[i]? with
 | none => rw[ho] at h; exact hK _ _ h
 | some o =>
  rw[ho] at h;simp only at *;have hm:o∈ops:=Array.mem_of_getElem? ho;by_cases hw:Region.wanted o (yielded ops a.tmps)=true
  ·rw[if_pos hw] at *;rcases h with h | ⟨_,h⟩
   ·unfold Oper.wp at h;unfold Oper.wpIn;refine⟨fun _ _=>trivial,?_⟩;rw[Oper.semAt_plain (Fence.wide.inRound l) _ _ (hd o hm)];generalize Sem.run P (execOp a.eval o) w=r at *;unfold Oper.upon at h;unfold Oper.uponIn;split at h
    ·exact hK _ _ h
    ·exact hK _ _ h
    ·exact hK _ _ h
    ·refine⟨fun h=>absurd h (by simp[Fence.wide,Fence.inRound]),CallsIn.inRound l (callsIn_wide.2 (h.mono fun e w' he=>?_))⟩
     cases e with
     | returned v => exact hK _ _ he
     | panicked c => exact he
     | outgrown => exact he
    ·exact⟨fun h=>absurd h (by simp[Fence.wide,Fence.inRound]),fun c cs _=>let ⟨v,w',r,s⟩:=h c cs; ⟨v,w',hK _ _ r,stepsIn_wide.2 s⟩⟩
    ·exact h
    ·exact h.elim
   ·exact absurd h hQ
  ·rw[if_neg hw] at *;exact⟨fun _ _=>trivial,hK _ _ h⟩
theorem anyIn_plain {P:Program} {md:Region.Mode} {ops:Array Oper} {Q:Exit->Act->World->Prop} {l:Nat} (hd:∀ o∈ops,∀ c,o.op ≠ .defer c) (hQ:¬ LetsOut Q):∀ (fuel:Nat) (listed:Array Bool) (a:Act) (w:World),
  wpAny P md ops Q fuel listed a w->wpAnyIn (Fence.wide.inRound l) 0 P md ops Q fuel listed a w
 | 0,_,_,_,h => h
 | fuel+1,listed,a,w,h => ⟨h.1,fun i hi => opIn_plain hd hQ (fun a' w' h' => anyIn_plain hd hQ fuel _ a' w' h') (h.2 i hi)⟩
theorem roundIn_held {P:Program} {ops:Array Oper} {Q:Exit->Act->World->Prop} {S:World->Prop} {l id:Nat} (hm:P.follows .mixedOrders=true) (hd:noDefer ops=true) (hQ:¬ LetsOut Q) {a:Act} {w:World}
  (h:wpAnyH P .any ops Q S ops.size (Array.replicate ops.size false) a w.drew):(Code.region id ops true).wpIn (Fence.wide.inRound l) 0 P Q a w:=
 wpIn_region_any hm (anyIn_plain (noDefer_spec hd) hQ _ _ _ _ (wpAny_of_held _ _ _ _ h))
end Go.Scout
