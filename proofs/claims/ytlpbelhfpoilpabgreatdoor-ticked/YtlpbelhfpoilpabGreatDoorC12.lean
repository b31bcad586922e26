import Derived.Test.YtlpbelhfpoilpabGreatDoorC01
import Derived.Test.YtlpbelhfpoilpabGreatDoorC03
import Derived.Test.YtlpbelhfpoilpabGreatDoorC05
import Derived.Test.YtlpbelhfpoilpabGreatDoorC06
import Derived.Test.YtlpbelhfpoilpabGreatDoorC08
import Derived.Test.YtlpbelhfpoilpabGreatDoorC11
set_option linter.all false
set_option maxRecDepth 100000
set_option maxHeartbeats 16000000
namespace Go.Proofs.YtlpbelhfpoilpabGreatDoor
open Go.RowKit Go.Scout Go.Shelf
theorem cloneInts_some (a:Addr) (cap:Nat) (xs:List Int) (w:World) (hx:IntsAt w (some a) xs) (hl:xs.length<=1000000) :
  Calls Tryz.prog 38 #[.slice (some a) xs.length cap] w fun e w'=>∃ v,e=.returned v/\w'.ownsRow w.heap.size 3 1 v xs.length (xs.map (Value.int .i64))/\Below w.heap.size w w':=by
 obtain⟨i0,hi,hz0,hz1,hz2⟩:=info_parts Tryz.infoInt;obtain⟨v',w',hr,ho,hb,⟨va,vm,vc,rfl⟩⟩:=clone_run (P:=Tryz.prog) w 22 22 3 i0 (.int .i64 0) 1 8 Tryz.underlying22 hi hz0 hz1 hz2 rfl (by decide) a xs.length cap (xs.map (Value.int .i64)) (by simp)
  (fun j u hj=>by
   rw[List.getElem?_map] at hj;by_cases hjl:j<xs.length
   ·obtain⟨b',off',e,hc⟩:=hx.2 j hjl;refine⟨b',off',e,?_⟩;rw[hc];simp[List.getD,hjl] at hj ⊢;exact hj
   ·rw[List.getElem?_eq_none (by omega)] at hj; cases hj) (fun u hu=>by obtain⟨x,_,rfl⟩:=List.mem_map.1 hu; rfl) hl (by decide)
 have HO:Hid _:=ho;have HB:Hid _:=hb;have hnil:∀ W,(binOp .eql 22 (.slice (some a) xs.length cap) (.slice none 0 0)).run Tryz.prog W=.ok (.bool false) W:=fun W=>Lib.run_eql_slice_nil W 22 _ (some a) _ _ _ _ Tryz.underlying22
 clear ho hb hx hi hz0 hz1 hz2;go_enter Tryz.func38,Tryz.ntmps38;go_wp2_with (first | (at_builtin; refine wpList_append_run rfl (.tmp 5) (.tmp 6) 22 rfl (.slice (some (aD w.heap.size 0)) 0 0) (.slice (some a) xs.length cap) (.slice va vm vc) w' rfl rfl hr ?_));clear hr;go_wp2;go_ret;exact⟨_,rfl,HO.out,HB.out⟩
theorem cloneInts_none (w:World):Calls Tryz.prog 38 #[.slice none 0 0] w fun e w'=>e=.returned (.slice none 0 0)/\w' = w:=by
 have hnil:∀ W,(binOp .eql 22 (.slice none 0 0) (.slice none 0 0)).run Tryz.prog W=.ok (.bool true) W:=fun W=>Lib.run_eql_slice_nil W 22 _ none _ _ _ _ Tryz.underlying22
 go_enter Tryz.func38,Tryz.ntmps38;go_wp2;go_ret;exact⟨rfl,rfl⟩
theorem cloneInts_any (x:IntsV) (w:World) (hx:x.At w) (hn:x.ad=none->x.cap=0) (hl:x.xs.length<=1000000) :
  Calls Tryz.prog 38 #[x.val] w fun e w'=>∃ v,e=.returned v/\w'.ownsRow w.heap.size 3 1 v x.xs.length (x.xs.map (Value.int .i64))/\Below w.heap.size w w':=by
 obtain⟨ad,cap,xs⟩:=x
 cases ad with
 | none =>
  obtain rfl:cap=0:=hn rfl;have h0:xs=[]:=by
   cases xs with
   | nil => rfl
   | cons x xs => obtain⟨b,off,e,_⟩:=hx.2 0 (by simp); cases e
  subst h0;refine (cloneInts_none w).mono ?_;rintro e w' ⟨rfl,rfl⟩;exact⟨_,rfl,World.ownsRow_nil _ _ _ _,Below.refl _ _⟩
 | some a => exact cloneInts_some a cap xs w hx hl
end Go.Proofs.YtlpbelhfpoilpabGreatDoor
namespace Go.Scout
open Go.RowKit
structure TOk (q:QueryV) (t:TrD):Prop where
 src:t.d.sources<2 ^ q.src.xs.length
 cls:t.d.clauses<2 ^ q.wh.length
 cost:t.d.cost<=topN
 kinds:∀ m∈t.ns,1<=m.kind/\m.kind<=10
 pos:0<t.ns.length
theorem layL_snoc (ls:List (List NodeV)) (l:List NodeV):layL (ls++[l])=layL ls++l.map (moveN (layL ls).length):=by
 unfold layL;rw[List.foldl_append];rfl
theorem layL_len:∀ ls:List (List NodeV),ls.length<=2->(layL ls).length=(ls.getD 0 []).length+(ls.getD 1 []).length
 | [],_ => rfl
 | [a],_ => by simp[layL]
 | [a,b],_ => by simp[layL]
 | _::_::_::_,h => by simp at h
theorem layL_kinds (ls:List (List NodeV)) (h:∀ l∈ls,∀ m∈l,1<=m.kind/\m.kind<=10):∀ m∈layL ls,1<=m.kind/\m.kind<=10:=by
 have key:∀ (ls:List (List NodeV)) (acc:List NodeV),(∀ l∈ls,∀ m∈l,1<=m.kind/\m.kind<=10)->(∀ m∈acc,1<=m.kind/\m.kind<=10)->
   ∀ m∈ls.foldl (fun acc l=>acc++l.map (moveN acc.length)) acc,1<=m.kind/\m.kind<=10:=by
  intro ls
  induction ls with
  | nil => intro acc _ h; exact h
  | cons l ls ih =>
   intro acc hl ha;refine ih _ (fun x hx=>hl x (List.mem_cons_of_mem _ hx)) fun m hm=>?_
   rcases List.mem_append.1 hm with hm | hm
   ·exact ha m hm
   ·obtain⟨x,hx,rfl⟩:=List.mem_map.1 hm;exact hl l List.mem_cons_self x hx
 exact key ls [] h fun m hm=>by cases hm
theorem growT_len (ts:List TableD) (q:QueryV) (n:NodeV) {bs:List TrD} (h:bs.length<=2):(growT ts q n bs).ns.length=(bs.getD 0 trz).ns.length+(bs.getD 1 trz).ns.length+1:=by
 unfold growT layN;rw[List.length_append,layL_len _ (by simpa using h)]
 match bs,h with
 | [],_ => rfl
 | [a],_ => rfl
 | [a,b],_ => rfl
 | _::_::_::_,h => simp at h
theorem sumN_leS (l:List Nat):sumN l<=topN:=by rw[sumN_eq]; exact Nat.min_le_right _ _
theorem costP_leS (kind:Int) (s lc ls rc rs:Nat):costP kind s lc ls rc rs<=topN:=by
 unfold costP;split
 ·exact sumN_leS _
 split
 ·exact sumN_leS _
 split
 ·exact sumN_leS _
 split
 ·exact sumN_leS _
 ·exact sumN_leS _
theorem or_lt {a b n:Nat} (ha:a<2 ^ n) (hb:b<2 ^ n):a|||b<2 ^ n:=Nat.or_lt_two_pow ha hb
theorem growT_ok (ts:List TableD) (q:QueryV) (n:NodeV) (bs:List TrD) (hk:1<=n.kind/\n.kind<=10) (hs:n.kind=1->0<=n.source/\n.source<q.src.xs.length) (hc:SmallL q.wh.length n.cl.xs) (hb:∀ b∈bs,TOk q b):TOk q (growT ts q n bs):=by
 have hp:∀ n:Nat,0<2 ^ n:=fun n=>Nat.pow_pos (by omega)
 have h0:∀ i,(bs.getD i trz).d.sources<2 ^ q.src.xs.length/\(bs.getD i trz).d.clauses<2 ^ q.wh.length:=by
  intro i;by_cases hi:i<bs.length
  ·have hm:bs.getD i trz∈bs:=by rw[List.getD_eq_getElem?_getD,List.getElem?_eq_getElem hi]; exact List.getElem_mem hi
   exact⟨(hb _ hm).src,(hb _ hm).cls⟩
  ·have:bs.getD i trz=trz:=by rw[List.getD_eq_getElem?_getD,List.getElem?_eq_none (by omega)]; rfl
   rw[this];exact⟨hp _,hp _⟩
 refine⟨?_,?_,?_,?_,?_⟩
 ·show (if n.kind=1 then 2 ^ n.source.toNat else 0)|||_|||_<_
  refine or_lt (or_lt ?_ (h0 0).1) (h0 1).1;split
  ·rename_i h1
   have:=hs h1;exact Nat.pow_lt_pow_right (by omega) (by omega)
  ·exact hp _
 ·show setN n.cl.xs|||_|||_<_
  exact or_lt (or_lt (setN_lt hc) (h0 0).2) (h0 1).2
 ·exact costP_leS _ _ _ _ _ _
 ·intro m hm;rcases List.mem_append.1 hm with hm | hm
  ·refine layL_kinds _ (fun l hl x hx=>?_) m hm;obtain⟨t,ht,rfl⟩:=List.mem_map.1 hl;exact (hb t ht).kinds x hx
  ·rw[List.mem_singleton] at hm;rw[hm];exact hk
 ·show 0<(layN n _).length
  unfold layN;simp
theorem growT_sources (ts:List TableD) (q:QueryV) (n:NodeV) (bs:List TrD) (hk:n.kind≠1):(growT ts q n bs).d.sources=(bs.getD 0 trz).d.sources|||(bs.getD 1 trz).d.sources:=by
 show (if n.kind=1 then 2 ^ n.source.toNat else 0)|||_|||_=_
 rw[if_neg hk,Nat.zero_or]
theorem growT_scan (ts:List TableD) (q:QueryV) (s:Int):(growT ts q (scanK s) []).d.sources=2 ^ s.toNat:=by
 show (if (1:Int)=1 then 2 ^ s.toNat else 0)|||0|||0=_
 simp
theorem costP_six (z lc ls rc rs:Nat) (h:lc<=topN):lc<=costP 6 z lc ls rc rs:=by
 unfold costP;rw[if_neg (by decide),if_neg (by decide),if_pos (by decide),sumN2];unfold plusN;exact Nat.le_min.2 ⟨Nat.le_add_right _ _,h⟩
theorem partP_cost (ts:List TableD) (q:QueryV) (n:NodeV) (l r:PartD):(partP ts q n l r).cost=costP n.kind (if outK n.kind=true then l.size else sizeP ts q ((if n.kind=1 then 2 ^ n.source.toNat else 0)|||l.sources|||r.sources) (setN n.cl.xs|||l.clauses|||r.clauses)) l.cost l.size r.cost r.size:=rfl
theorem sortedT_cost (ts:List TableD) (q:QueryV) (t:TrD) (o:List Int) (h:t.d.cost<=topN):t.d.cost<=(sortedT ts q t o).d.cost:=by
 show t.d.cost<=(partP ts q (sortK o) t.d trz.d).cost
 rw[partP_cost];exact costP_six _ _ _ _ _ h
theorem smallL_nil (n:Nat):SmallL n []:=fun x hx=>by cases hx
theorem risI_small {n s:Nat} (h:s<2 ^ n):SmallL n (risI s):=by
 intro x hx;obtain⟨k,hk,rfl⟩:=List.mem_map.1 hx;have hb:=(List.mem_filter.1 hk).2;refine⟨by omega,?_⟩;have:k<n:=by
  by_cases hkn:k<n
  ·exact hkn
  ·have h2:s<2 ^ k:=Nat.lt_of_lt_of_le h (Nat.pow_le_pow_right (by omega) (by omega));rw[Nat.testBit_lt_two_pow h2] at hb
   cases hb
 omega
theorem withinTo_lt (conc:List Nat) (s:Nat):∀ k,withinTo conc s k<2 ^ k
 | 0 => by simp[withinTo]
 | k+1 => by
  have h:=withinTo_lt conc s k;have h2:2 ^ k<2 ^ (k+1):=Nat.pow_lt_pow_right (by omega) (by omega);unfold withinTo;split
  ·exact or_lt (Nat.lt_trans h h2) h2
  ·exact Nat.lt_trans h h2
theorem between_lt (conc:List Nat) (a b:Nat):betweenP conc a b<2 ^ conc.length:=by
 unfold betweenP;exact Nat.lt_of_le_of_lt Nat.and_le_left (withinTo_lt _ _ _)
theorem filteredT_ok {ts:List TableD} {q:QueryV} {t:TrD} {c:Nat} (h:TOk q t) (hc:c<2 ^ q.wh.length):TOk q (filteredT ts q t c):=by
 unfold filteredT;split
 ·exact h
 ·exact growT_ok ts q _ _ ⟨(by decide:(1:Int)<=2),(by decide:(2:Int)<=10)⟩ (fun e=>absurd e (by decide:(2:Int)≠1)) (risI_small hc) (fun b hb=>by rw[List.mem_singleton] at hb; rw[hb]; exact h)
theorem filteredT_sources (ts:List TableD) (q:QueryV) (t:TrD) (c:Nat):(filteredT ts q t c).d.sources=t.d.sources:=by
 unfold filteredT;split
 ·rfl
 ·rw[growT_sources ts q _ _ (by decide:(2:Int)≠1)]
  show t.d.sources|||0=_
  simp
theorem filteredT_len (ts:List TableD) (q:QueryV) (t:TrD) (c:Nat):(filteredT ts q t c).ns.length<=t.ns.length+1:=by
 unfold filteredT;split
 ·omega
 ·rw[growT_len ts q _ (by simp)]
  show t.ns.length+0+1<=_
  omega
theorem sortedT_ok {ts:List TableD} {q:QueryV} {t:TrD} (o:List Int) (h:TOk q t):TOk q (sortedT ts q t o):=
 growT_ok ts q _ _ ⟨(by decide:(1:Int)<=6),(by decide:(6:Int)<=10)⟩ (fun e=>absurd e (by decide:(6:Int)≠1)) (smallL_nil _) (fun b hb=>by rw[List.mem_singleton] at hb; rw[hb]; exact h)
theorem sortedT_sources (ts:List TableD) (q:QueryV) (t:TrD) (o:List Int):(sortedT ts q t o).d.sources=t.d.sources:=by
 unfold sortedT;rw[growT_sources ts q _ _ (by decide:(6:Int)≠1)]
 show t.d.sources|||0=_
 simp
theorem sortedT_len (ts:List TableD) (q:QueryV) (t:TrD) (o:List Int):(sortedT ts q t o).ns.length=t.ns.length+1:=by
 unfold sortedT;rw[growT_len ts q _ (by simp)];rfl
theorem scannedT_ok (ts:List TableD) (q:QueryV) {conc:List Nat} (hc:conc.length=q.wh.length) {s:Int} (h0:0<=s) (h1:s<q.src.xs.length) :
  TOk q (scannedT ts q conc s)/\(scannedT ts q conc s).d.sources=2 ^ s.toNat/\(scannedT ts q conc s).ns.length<=2:=by
 have ht:TOk q (growT ts q (scanK s) []):=growT_ok ts q _ _ ⟨(by decide:(1:Int)<=1),(by decide:(1:Int)<=10)⟩ (fun _=>⟨h0,h1⟩) (smallL_nil _) (fun b hb=>by cases hb);refine⟨filteredT_ok ht (by rw[<- hc]; exact withinTo_lt _ _ _),by unfold scannedT; rw[filteredT_sources]; exact growT_scan ts q s,?_⟩;refine Nat.le_trans (filteredT_len ts q _ _) ?_;rw[growT_len ts q _ (by simp)]
 show 0+0+1+1<=2
 omega
end Go.Scout
namespace Go.Proofs.YtlpbelhfpoilpabGreatDoor
open Go.RowKit Go.Scout Go.Shelf
theorem Tryz.infoPart:(Tryz.prog.info? 92).map (fun i=>(i.zero,i.size,i.bytes))=some (some (.agg #[.int .i64 0,.int .u64 0,.int .u64 0,.slice none 0 0,.int .u64 0,.int .u64 0]),6,64):=by kernel_rfl
theorem push_part (W:World) (base:Nat) (v:Value) (ps:List PartV) (hown:W.ownsRow base 92 6 v ps.length (ps.flatMap PartV.list)) (hl:ps.length<=1000) (hb:base<=W.heap.size) (p:PartV) (ty:TypeId) :
  ∃ v' w',(Builtin.append_ #[163,163] ty #[v,.slice (some (aD W.heap.size 0)) 1 1]).run Tryz.prog (W.alloc (.cells p.cells 92))=.ok v' w'/\
   w'.ownsRow base 92 6 v' (ps++[p]).length ((ps++[p]).flatMap PartV.list)/\Kept (fun b=>v.ownBlock≠some b) W w'/\(∃ a m c,v' = .slice a m c)/\(v'.ownBlock=v.ownBlock∨v'.ownBlock=some (W.heap.size+1)):=by
 obtain⟨i0,hi,hz0,hz1,hz2⟩:=info_parts Tryz.infoPart;obtain⟨v',w',hr,ho,hk,hs,hat⟩:=push_own (P:=Tryz.prog) W base 163 ty 92 i0 _ 6 64 Tryz.underlying163 hi hz0 hz1 hz2 rfl (by decide) v ps.length _ hown hb p.list rfl (fun u hu=>by
  unfold PartV.list IntsV.val at hu;simp at hu;rcases hu with rfl | rfl | rfl | rfl | rfl | rfl <;> rfl) hl (by decide)
 exact⟨v',w',hr,by rw[List.length_append,List.flatMap_append]; simpa using ho,hk,hs,hat⟩
end Go.Proofs.YtlpbelhfpoilpabGreatDoor
namespace Go.Scout
open Go.RowKit
def shapeIn (k:Int):Int:=if k=0∨k=1 then 0 else if 3<=k/\k<=5 then 2 else 1
def shapeCells (k:Int):Array Value:=#[.int .i64 (shapeIn k),.bool (decide (k=1)),.bool (decide (2<=k/\k<=5)),.bool (decide (k=4∨k=5)),.bool (decide (k=6))]
def shapesList:List Value:=(List.range 11).flatMap fun (k:Nat)=>(shapeCells (k:Int)).toList
def ShapesAt (w:World) (g:Nat):Prop:=∀ j u,shapesList[j]? = some u->w.cell? (aD g j)=some u
theorem ShapesAt.below {w w':World} {g:Nat} (hb:Below w.heap.size w w') (h:ShapesAt w g):ShapesAt w' g:=fun j u hj=>cB hb (h j u hj)
theorem ShapesAt.get {w:World} {g:Nat} (h:ShapesAt w g) {k:Nat} (hk:k<=10) :
  w.cell? (aD g (0+k*5))=some (.int .i64 (shapeIn k))/\w.cell? (aD g (0+k*5+1))=some (.bool (decide ((k:Int)=1)))/\w.cell? (aD g (0+k*5+2))=some (.bool (decide (2<=(k:Int)/\(k:Int)<=5)))/\
   w.cell? (aD g (0+k*5+3))=some (.bool (decide ((k:Int)=4∨(k:Int)=5)))/\w.cell? (aD g (0+k*5+4))=some (.bool (decide ((k:Int)=6))):=by
 have hf:∀ j,j<5->shapesList[k*5+j]? = (shapeCells (k:Int)).toList[j]?:=fun j hj=>by
  have:=flat_get (fun (k:Nat)=>(shapeCells (k:Int)).toList) 5 (fun _=>rfl) 0 (List.range 11) k j (by simp; omega) hj;unfold shapesList;rw[this];simp[List.getD,show k<11 by omega]
 simp only[Nat.zero_add];refine⟨h (k*5) _ ?_,h (k*5+1) _ ?_,h (k*5+2) _ ?_,h (k*5+3) _ ?_,h (k*5+4) _ ?_⟩
 ·have:=hf 0 (by omega); rw[Nat.add_zero] at this; rw[this]; rfl
 ·rw[hf 1 (by omega)]; rfl
 ·rw[hf 2 (by omega)]; rfl
 ·rw[hf 3 (by omega)]; rfl
 ·rw[hf 4 (by omega)]; rfl
theorem shapeIn_arity {k:Int} (h1:1<=k):shapeIn k=(arity k:Int):=by
 unfold shapeIn arity;by_cases h:k=1
 ·rw[if_pos (.inr h),if_pos h]; rfl
 ·rw[if_neg (by omega),if_neg h];split <;> rfl
end Go.Scout
namespace Go.Proofs.YtlpbelhfpoilpabGreatDoor
open Go.RowKit Go.Scout
end Go.Proofs.YtlpbelhfpoilpabGreatDoor
namespace Go.Scout
open Go.RowKit
structure Env (f:FactsV) (ts:List TableD) (q:QueryV) (W0:World):Prop where
 ok:Ok ts q
 facts:f.At ts q W0
 shapes:ShapesAt W0 0
 one:1<=q.src.xs.length
 five:q.src.xs.length<=5
 eight:q.wh.length<=8
 ord:q.group=false->allB q.ord.xs q.sel.xs.length=true
 few:q.ord.xs.length<=4
 keys:ColOk ts q q.keys.xs
 want:q.group=false->ColOk ts q (wantN q)
 kfew:q.keys.xs.length<=4
 kcap:q.keys.xs.length<=q.keys.cap
 knil:q.keys.ad=none->q.keys.cap=0
def Live (W0:World) (b:Nat):Prop:=∃ o v,W0.cell? (aD b o)=some v
theorem Live.lt {W0:World} {b:Nat} (h:Live W0 b):b<W0.heap.size:=by
 obtain⟨o,v,h⟩:=h;exact cell_lt h
structure Under (W0 w:World):Prop where
 size:W0.heap.size<=w.heap.size
 cell:∀ b o v,W0.cell? (aD b o)=some v->w.cell? (aD b o)=some v
theorem Under.kept {W0 w w':World} (h:Under W0 w) {s:Nat->Prop} (hk:Kept s w w') (hs:∀ b,Live W0 b->s b):Under W0 w':=
 ⟨Nat.le_trans h.size hk.size,fun b o v e=>by
  have h1:=h.cell b o v e;rw[World.cell?_of_block (hk.block b (cell_lt h1) (hs b ⟨o,v,e⟩))];exact h1⟩
theorem Under.cells {W0 w:World} (h:Under W0 w) {ao:Option Addr} {n:Nat} {f:Nat->Value} (hc:CellsAt W0 ao n f):CellsAt w ao n f:=fun i hi=>by
 obtain⟨b,off,e,hc⟩:=hc i hi;exact⟨b,off,e,h.cell _ _ _ hc⟩
theorem Under.ints {W0 w:World} (h:Under W0 w) {ao:Option Addr} {xs:List Int} (hi:IntsAt W0 ao xs):IntsAt w ao xs:=⟨hi.1,h.cells hi.2⟩
theorem Under.nats {W0 w:World} (h:Under W0 w) {ao:Option Addr} {xs:List Nat} (hi:NatsAt W0 ao xs):NatsAt w ao xs:=⟨hi.1,h.cells hi.2⟩
theorem Under.cols {W0 w:World} (h:Under W0 w) {ao:Option Addr} {cs:List (Nat × Int)} (hi:ColsAt W0 ao cs):ColsAt w ao cs:=⟨hi.1,fun i hj=>by
 obtain⟨b,off,e,c0,c1⟩:=hi.2 i hj;exact⟨b,off,e,h.cell _ _ _ c0,h.cell _ _ _ c1⟩⟩
theorem Under.conds {W0 w:World} (h:Under W0 w) {ao:Option Addr} {cs:List CondD} (hi:CondsAt W0 ao cs):CondsAt w ao cs:=⟨hi.1,fun i hj=>by
 obtain⟨b,off,e,c0,c1,c2,c3,c4⟩:=hi.2 i hj;exact⟨b,off,e,h.cell _ _ _ c0,h.cell _ _ _ c1,h.cell _ _ _ c2,h.cell _ _ _ c3,h.cell _ _ _ c4⟩⟩
theorem Under.query {W0 w:World} (h:Under W0 w) {q:QueryV} (hq:q.At W0):q.At w:=
 ⟨h.ints hq.src,⟨hq.wh.1,h.cells hq.wh.2.1,fun i hi=>h.conds (hq.wh.2.2 i hi)⟩,h.ints hq.keys,h.ints hq.sums,h.ints hq.sel,h.ints hq.ord⟩
theorem Under.facts {W0 w:World} (h:Under W0 w) {f:FactsV} {ts:List TableD} {q:QueryV} (hf:f.At ts q W0):f.At ts q w:=
 ⟨h.query hf.query,h.cols hf.cols,h.nats hf.rows,h.nats hf.conc,h.nats hf.parts,hf.nl,hf.pl⟩
structure Fz (F:Nat->Prop) (W0 w:World):Prop where
 below:Under W0 w
 low:∀ b,Live W0 b->F b
 high:∀ b,w.heap.size<=b->F b
theorem Fz.next {F:Nat->Prop} {W0 w w':World} (h:Fz F W0 w) (hb:Below w.heap.size w w'):Fz F W0 w':=
 ⟨h.below.kept (Kept.of_below (s:=fun b=>b<w.heap.size) hb (fun _ h _=>h)) (fun _ hb=>Nat.lt_of_lt_of_le hb.lt h.below.size),h.low,fun b hh=>h.high b (Nat.le_trans hb.size hh)⟩
theorem Fz.kept {F:Nat->Prop} {W0 w w':World} (_:Fz F W0 w) (hb:Below w.heap.size w w'):Kept F w w':=Kept.of_below hb fun _ h _=>h
theorem Env.at' {f:FactsV} {ts:List TableD} {q:QueryV} {W0:World} (E:Env f ts q W0) {F:Nat->Prop} {w:World} (h:Fz F W0 w):f.At ts q w:=h.below.facts E.facts
structure NodeIn (F:Nat->Prop) (w:World) (n:NodeV):Prop where
 cl:n.cl.At w
 clf:InF F n.cl.ad n.cl.xs.length
 cln:n.cl.ad=none->n.cl.cap=0
 co:n.co.At w
 cof:InF F n.co.ad n.co.xs.length
 con:n.co.ad=none->n.co.cap=0
 cap:n.co.xs.length<=n.co.cap
 clb:n.cl.xs.length<=1000
 cob:n.co.xs.length<=1000
theorem NodeIn.keptF {F:Nat->Prop} {w w':World} {n:NodeV} (h:NodeIn F w n) (hk:Kept F w w'):NodeIn F w' n:=
 ⟨IntsAt.keptF h.cl hk h.clf,h.clf,h.cln,IntsAt.keptF h.co hk h.cof,h.cof,h.con,h.cap,h.clb,h.cob⟩
structure PartIn (F:Nat->Prop) (w:World) (a:Nat) (p:PartV):Prop where
 c0:w.cell? (aD a 0)=some (.int .i64 p.kind)
 c1:w.cell? (aD a 1)=some (.int .u64 (p.sources:Int))
 c2:w.cell? (aD a 2)=some (.int .u64 (p.clauses:Int))
 c3:w.cell? (aD a 3)=some p.order.val
 c4:w.cell? (aD a 4)=some (.int .u64 (p.size:Int))
 c5:w.cell? (aD a 5)=some (.int .u64 (p.cost:Int))
 ok:p.Ok w
 ord:InF F p.order.ad p.order.xs.length
theorem TreeB.partIn {T:TypeId} {F:Nat->Prop} {w:World} {a:Nat} {t:TrD} {p:PartV} {n:NodeV} {bo:Option Addr} {bc:Nat} {bs:List (Nat × TrD)} (h:TreeB T F w a t p n bo bc bs):PartIn F w a p:=
 ⟨h.gb.cell 0,h.gb.cell 1,h.gb.cell 2,h.gb.cell 3,h.gb.cell 4,h.gb.cell 5,h.ok,h.ord⟩
theorem PartIn.below {F:Nat->Prop} {w w':World} {a:Nat} {p:PartV} (h:PartIn F w a p) (hb:Below w.heap.size w w'):PartIn F w' a p:=
 ⟨cB hb h.c0,cB hb h.c1,cB hb h.c2,cB hb h.c3,cB hb h.c4,cB hb h.c5,h.ok.below hb,h.ord⟩
theorem TreeF.partIn {T:TypeId} {F:Nat->Prop} {w:World} {a:Nat} {t:TrD} (h:TreeF T F w a t):∃ p,PartIn F w a p/\p.d=t.d:=by
 obtain⟨p,n,bo,bc,bs,hb,_⟩:=h.get;exact⟨p,hb.partIn,hb.part⟩
theorem parts_of {T:TypeId} {F:Nat->Prop} {w:World}:∀ {bs:List (Nat × TrD)},(∀ x∈bs,TreeF T F w x.1 x.2)->∃ ps:List PartV,ps.length=bs.length/\∀ i,i<bs.length->PartIn F w ((bs.map Prod.fst).getD i 0) (ps.getD i pvz)/\(ps.getD i pvz).d=((bs.map Prod.snd).getD i trz).d
 | [],_ => ⟨[],rfl,fun i hi => by simp at hi⟩
 | x::bs,h => by
  obtain⟨ps,hl,hp⟩:=parts_of fun y hy=>h y (List.mem_cons_of_mem _ hy)
  obtain⟨p,hp0,hd⟩:=(h x List.mem_cons_self).partIn;refine⟨p::ps,by simp[hl],fun i hi=>?_⟩
  cases i with
  | zero => exact⟨hp0,hd⟩
  | succ i => exact hp i (by simpa using hi)
theorem getD_d {bs:List TrD} {ps:List PartV} (hl:ps.length=bs.length) (h:∀ i,i<bs.length->(ps.getD i pvz).d=(bs.getD i trz).d) (i:Nat):(ps.getD i pvz).d=(bs.getD i trz).d:=by
 by_cases hi:i<bs.length
 ·exact h i hi
 ·rw[List.getD_eq_getElem?_getD,List.getElem?_eq_none (by omega),List.getD_eq_getElem?_getD,List.getElem?_eq_none (by omega)];rfl
theorem take_snocR {α:Type} (l:List α) (d:α) {i:Nat} (hi:i<l.length):l.take (i+1)=l.take i++[l.getD i d]:=by
 rw[List.take_add_one,List.getElem?_eq_getElem hi,List.getD_eq_getElem?_getD,List.getElem?_eq_getElem hi];rfl
theorem ptrs_own {w:World} {base:Nat} {e:TypeId} {v:Value} {n:Nat} {xs:List Nat} (h:w.ownsRow base e 1 v n (xs.map fun x=>Value.pointer (some (aD x 0)))) (hl:xs.length<=1000000) :
  ∃ ao cap,v=.slice ao xs.length cap/\PtrsAt w ao xs/\xs.length<=cap/\(ao=none->cap=0)/\∀ a,ao=some a->base<=a.block:=by
 have hn:n=xs.length:=by have:=h.1; rw[List.length_map] at this; omega
 subst hn;rcases h.2 with⟨rfl,h1⟩ | ⟨g,cap,cur,rfl,hb,hh,hc,_,_,ht⟩
 ·have:xs=[]:=List.length_eq_zero_iff.1 h1;subst this;exact⟨none,0,rfl,⟨by simp,fun i hi=>by simp at hi⟩,by simp,fun _=>rfl,fun a e=>by cases e⟩
 ·refine⟨some (aD g 0),cap,rfl,⟨hl,fun i hi=>⟨g,0,rfl,?_⟩⟩,hc,(fun e=>by cases e),(fun a e=>by cases e; exact hb)⟩;have h2:(xs.map fun x=>Value.pointer (some (aD x 0)))[i]? = some (.pointer (some (aD (xs.getD i 0) 0))):=by
   rw[List.getElem?_map,List.getElem?_eq_getElem hi,List.getD_eq_getElem?_getD,List.getElem?_eq_getElem hi];rfl
  rw[<- ht,List.getElem?_take] at h2;split at h2
  ·rw[Nat.zero_add];simp only[World.cell?,hh]
   simpa using h2
  ·cases h2
end Go.Scout
namespace Go.Proofs.YtlpbelhfpoilpabGreatDoor
open Go.RowKit Go.Scout Go.Shelf
theorem Tryz.infoTreeP:(Tryz.prog.info? 85).map (fun i=>(i.zero,i.size,i.bytes))=some (some (.pointer none),1,8):=by kernel_rfl
theorem push_ptr (W:World) (base:Nat) (v:Value) (xs:List Nat) (hown:W.ownsRow base 85 1 v xs.length (xs.map fun x=>Value.pointer (some (aD x 0)))) (hl:xs.length<=1000) (hb:base<=W.heap.size) (a:Nat) (ty:TypeId) :
  ∃ v' w',(Builtin.append_ #[93,93] ty #[v,.slice (some (aD W.heap.size 0)) 1 1]).run Tryz.prog (W.alloc (.cells #[.pointer (some (aD a 0))] 85))=.ok v' w'/\
   w'.ownsRow base 85 1 v' (xs++[a]).length ((xs++[a]).map fun x=>Value.pointer (some (aD x 0)))/\Kept (fun b=>v.ownBlock≠some b) W w'/\(∃ a m c,v' = .slice a m c)/\(v'.ownBlock=v.ownBlock∨v'.ownBlock=some (W.heap.size+1)):=by
 obtain⟨i0,hi,hz0,hz1,hz2⟩:=info_parts Tryz.infoTreeP;obtain⟨v',w',hr,ho,hk,hs,hat⟩:=push_own (P:=Tryz.prog) W base 93 ty 85 i0 _ 1 8 Tryz.underlying93 hi hz0 hz1 hz2 rfl (by decide) v xs.length _ hown hb [.pointer (some (aD a 0))] rfl (fun u hu=>by
  rw[List.mem_singleton] at hu;rw[hu];rfl) hl (by decide)
 exact⟨v',w',hr,by rw[List.length_append,List.map_append]; exact ho,hk,hs,hat⟩
theorem clonePtrs_some (a:Addr) (cap:Nat) (xs:List Nat) (w:World) (hx:PtrsAt w (some a) xs) :
  Calls Tryz.prog 92 #[.slice (some a) xs.length cap] w fun e w'=>∃ v,e=.returned v/\w'.ownsRow w.heap.size 85 1 v xs.length (xs.map fun x=>Value.pointer (some (aD x 0)))/\Below w.heap.size w w':=by
 obtain⟨i0,hi,hz0,hz1,hz2⟩:=info_parts Tryz.infoTreeP;obtain⟨v',w',hr,ho,hb,⟨va,vm,vc,rfl⟩⟩:=clone_run (P:=Tryz.prog) w 93 93 85 i0 (.pointer none) 1 8 Tryz.underlying93 hi hz0 hz1 hz2 rfl (by decide) a xs.length cap (xs.map fun x=>Value.pointer (some (aD x 0))) (by simp)
  (fun j u hj=>by
   rw[List.getElem?_map] at hj;by_cases hjl:j<xs.length
   ·obtain⟨b',off',e,hc⟩:=hx.2 j hjl;refine⟨b',off',e,?_⟩;rw[hc];simp[List.getD,hjl] at hj ⊢;exact hj
   ·rw[List.getElem?_eq_none (by omega)] at hj; cases hj) (fun u hu=>by obtain⟨x,_,rfl⟩:=List.mem_map.1 hu; rfl) hx.1 (by decide)
 have HO:Hid _:=ho;have HB:Hid _:=hb;have hnil:∀ W,(binOp .eql 93 (.slice (some a) xs.length cap) (.slice none 0 0)).run Tryz.prog W=.ok (.bool false) W:=fun W=>Lib.run_eql_slice_nil W 93 _ (some a) _ _ _ _ Tryz.underlying93
 clear ho hb hx hi hz0 hz1 hz2;go_enter Tryz.func92,Tryz.ntmps92;go_wp2_with (first | (at_builtin; refine wpList_append_run rfl (.tmp 5) (.tmp 6) 93 rfl (.slice (some (aD w.heap.size 0)) 0 0) (.slice (some a) xs.length cap) (.slice va vm vc) w' rfl rfl hr ?_));clear hr;go_wp2;go_ret;exact⟨_,rfl,HO.out,HB.out⟩
theorem clonePtrs_none (w:World):Calls Tryz.prog 92 #[.slice none 0 0] w fun e w'=>e=.returned (.slice none 0 0)/\w' = w:=by
 have hnil:∀ W,(binOp .eql 93 (.slice none 0 0) (.slice none 0 0)).run Tryz.prog W=.ok (.bool true) W:=fun W=>Lib.run_eql_slice_nil W 93 _ none _ _ _ _ Tryz.underlying93
 go_enter Tryz.func92,Tryz.ntmps92;go_wp2;go_ret;exact⟨rfl,rfl⟩
theorem clonePtrs_any (bo:Option Addr) (bc:Nat) (xs:List Nat) (w:World) (hx:PtrsAt w bo xs) (hn:bo=none->bc=0) :
  Calls Tryz.prog 92 #[.slice bo xs.length bc] w fun e w'=>∃ v,e=.returned v/\w'.ownsRow w.heap.size 85 1 v xs.length (xs.map fun x=>Value.pointer (some (aD x 0)))/\Below w.heap.size w w':=by
 cases bo with
 | none =>
  obtain rfl:bc=0:=hn rfl;have h0:xs=[]:=by
   cases xs with
   | nil => rfl
   | cons x xs => obtain⟨b,off,e,_⟩:=hx.2 0 (by simp); cases e
  subst h0;refine (clonePtrs_none w).mono ?_;rintro e w' ⟨rfl,rfl⟩;exact⟨_,rfl,World.ownsRow_nil _ _ _ _,Below.refl _ _⟩
 | some a =>
  exact clonePtrs_some a bc xs w hx
theorem grow_any {F:Nat->Prop} {W0 w:World} {f:FactsV} {ts:List TableD} {q:QueryV} (E:Env f ts q W0) (hz:Fz F W0 w) (n:NodeV) (hn:NodeIn F w n) (bo:Option Addr) (bc:Nat) (bs:List (Nat × TrD)) (hp:PtrsAt w bo (bs.map Prod.fst)) (hnil:bo=none->bc=0)
  (hbs:∀ x∈bs,TreeF 95 F w x.1 x.2/\TOk q x.2) (hl:bs.length=arity n.kind) (hk1:1<=n.kind) (hk10:n.kind<=10) (hsm:SmallL q.wh.length n.cl.xs) (hsr:n.kind=1->0<=n.source/\n.source<q.src.xs.length) :
  Calls Tryz.prog 64 #[.agg (f.cells ts q),.agg n.cells,.slice bo bs.length bc] w fun e w'=>∃ a,e=.returned (.pointer (some (aD a 0)))/\TreeF 95 F w' a (growT ts q n (bs.map Prod.snd))/\w.heap.size<=a/\a<w'.heap.size/\Below w.heap.size w w':=by
 obtain⟨ps,hpl,hps⟩:=parts_of (fun x hx=>(hbs x hx).1);have har:bs.length<=2:=by rw[hl]; unfold arity; split <;> (try split) <;> omega
 have hlen:(bs.map Prod.fst).length=bs.length:=List.length_map _;have hd:=getD_d (bs:=bs.map Prod.snd) (ps:=ps) (by rw[hpl,List.length_map]) (fun i hi=>(hps i (by rw[List.length_map] at hi; exact hi)).2);have hok:∀ i,i<ps.length->(ps.getD i pvz).sources<2 ^ q.src.xs.length/\(ps.getD i pvz).clauses<2 ^ q.wh.length:=fun i hi=>by
  have e:=hd i;have hm:(bs.map Prod.snd).getD i trz∈bs.map Prod.snd:=getD_memR (by rw[List.length_map]; omega);obtain⟨x,hx,hxe⟩:=List.mem_map.1 hm;have ht:=(hbs x hx).2;rw[hxe] at ht;have e1:(ps.getD i pvz).sources=((bs.map Prod.snd).getD i trz).d.sources:=congrArg PartD.sources e;have e2:(ps.getD i pvz).clauses=((bs.map Prod.snd).getD i trz).d.clauses:=congrArg PartD.clauses e;rw[e1,e2];exact⟨ht.src,ht.cls⟩
 -- what is called
 have HPO:Hid (∀ (x:World) (a:Option Addr) (c:Nat),Below w.heap.size w x->PartsAt x a ps->Calls Tryz.prog 91 #[.agg (f.cells ts q),.agg n.cells,.slice a ps.length c] x fun e w'=>∃ p:PartV,e=.returned (.agg p.cells)/\p.d=(growT ts q n (bs.map Prod.snd)).d/\p.Ok w'/\InF F p.order.ad p.order.xs.length/\Below x.heap.size x w'):=fun x a c hx hpa=>by
  refine (partOf_any f ts q n a c ps x E.ok ((E.at' hz).below hx) (IntsAt.below hx hn.cl) (IntsAt.below hx hn.co) hn.cap hpa hk1 hk10 (by rw[hpl,hl]) hsm hsr hok).mono ?_;rintro e w' ⟨p,he,hpd,hpo,_,_,hord,hb⟩;refine⟨p,he,by rw[hpd,hd 0,hd 1]; rfl,hpo,?_,hb⟩;rcases hord with h | h | h
  ·rw[h]; exact hn.cof
  ·rw[h];by_cases h0:0<bs.length
   ·exact (hps 0 h0).1.ord
   ·have:ps.getD 0 pvz=pvz:=by rw[List.getD_eq_getElem?_getD,List.getElem?_eq_none (by omega)]; rfl
    rw[this];intro h; exact absurd h (by decide)
  ·rw[h];intro h; exact absurd h (by decide)
 have HCL:Hid (∀ x:World,Below w.heap.size w x->Calls Tryz.prog 92 #[.slice bo bs.length bc] x fun e w'=>∃ v,e=.returned v/\w'.ownsRow x.heap.size 85 1 v bs.length ((bs.map Prod.fst).map fun x=>Value.pointer (some (aD x 0)))/\Below x.heap.size x w'):=fun x hx=>by
  have:=clonePtrs_any bo bc (bs.map Prod.fst) x (hp.below hx) hnil;rw[hlen] at this;exact this
 have HFIN:Hid (∀ (x:World) (a:Nat) (p:PartV) (v:Value) (y:World),x.heap.size=a->w.heap.size<=y.heap.size->Below w.heap.size w y->Below y.heap.size y x->p.d=(growT ts q n (bs.map Prod.snd)).d->p.Ok x->InF F p.order.ad p.order.xs.length->x.ownsRow y.heap.size 85 1 v bs.length ((bs.map Prod.fst).map fun x=>Value.pointer (some (aD x 0)))->
   TreeF 95 F (x.alloc (.cells (treeC p n v) 95)) a (growT ts q n (bs.map Prod.snd))/\Below w.heap.size w (x.alloc (.cells (treeC p n v) 95))):=by
  intro x a p v y rfl' hwy hby hbx hpd hpo hpf hv;subst rfl';obtain⟨ao,cap,rfl,hpt,hcp,hnl,hnew⟩:=ptrs_own hv (by rw[hlen]; omega);rw[hlen] at hcp ⊢;have hwx:Below w.heap.size w x:=hby.trans (hbx.mono hwy);have hba:=bQ2 x (.cells (treeC p n (.slice ao bs.length cap)) 95);have hbw:Below w.heap.size w (x.alloc (.cells (treeC p n (.slice ao bs.length cap)) 95)):=hwx.trans (hba.mono hwx.size);refine⟨TreeF.intro (p:=p) (n:=n) (bo:=ao) (bc:=cap) (bs:=bs) ?_ (fun z hz'=>(hbs z hz').1.below hbw),hbw⟩;exact { blk:=hz.high _ hwx.size,gb:=bQ3 _ _,part:=hpd,ok:=hpo.below hba,ord:=hpf,cl:=IntsAt.below hbw hn.cl,clf:=hn.clf,cln:=hn.cln,co:=IntsAt.below hbw hn.co,cof:=hn.cof,con:=hn.con,ptrs:=hpt.below hba,ptf:=fun _ a e=>hz.high _ (Nat.le_trans hwy (hnew a e)),bcap:=hcp,nil:=hnl,lay:=(by show layN n ((bs.map Prod.snd).map TrD.ns)=_; rw[List.map_map]; rfl),two:=har,kind:=⟨hk1,hk10⟩,lens:=⟨hn.clb,hn.cob⟩ }
 have HPT:Hid (PtrsAt w bo (bs.map Prod.fst)):=hp;have HPS:Hid (∀ i,i<bs.length->PartIn F w ((bs.map Prod.fst).getD i 0) (ps.getD i pvz)):=fun i hi=>(hps i hi).1
 have HTK:Hid (∀ i,i<bs.length->ps.take (i+1)=ps.take i++[ps.getD i pvz]):=fun i hi=>take_snocR ps pvz (by omega)
 have HPL:Hid (ps.length=bs.length):=hpl;have HAR:Hid (bs.length<=2):=har;have HLN:Hid ((bs.map Prod.fst).length=bs.length):=hlen;have hp1000:bs.length<=1000:=by omega
 clear hok hd hps hpl hp hnil hbs hl hk1 hk10 hsm hsr hn hz E har hlen;generalize growT ts q n (bs.map Prod.snd)=GT at *;obtain⟨kind,nl,nr,src,⟨ca,cc,cl⟩,key,⟨da,dc,co⟩⟩:=n;obtain⟨v0,v1,v2,v3,v4,v5,v6,v7,v8,v9,v10,v11,v12,hFC,-⟩:=factsCells f ts q;rw[hFC] at HPO ⊢;clear hFC;simp only[NodeV.cells,IntsV.val,treeC] at *;generalize bs.map Prod.fst=bf at *;generalize bs.length=bl at *;clear bs;obtain⟨w1,hw1,hb1,hg1⟩:=newB w #[v0,v1,v2,v3,v4,v5,v6,v7,v8,v9,v10,v11,v12] 79;obtain⟨w2,hw2,hb2,hg2⟩:=newB w1 #[.int .i64 kind,.int .i64 nl,.int .i64 nr,.int .i64 src,.slice ca cl.length cc,.int .i64 key,.slice da co.length dc] 61;have gg1:GB w2 w.heap.size 79 #[v0,v1,v2,v3,v4,v5,v6,v7,v8,v9,v10,v11,v12]:=hg1.of (hb2.block _ hg1.lt);have HG1:Hid (GB w2 w.heap.size 79 #[v0,v1,v2,v3,v4,v5,v6,v7,v8,v9,v10,v11,v12]):=gg1;have HG2:Hid (GB w2 w1.heap.size 61 #[.int .i64 kind,.int .i64 nl,.int .i64 nr,.int .i64 src,.slice ca cl.length cc,.int .i64 key,.slice da co.length dc]):=hg2;have HB2:Hid (Below w.heap.size w w2):=bQ1 hb1 hb2;clear hb1 hb2 hg1 hg2 gg1;go_enter Tryz.func64,Tryz.ntmps64;go_wp2;clear hw1 hw2;go_loopw [7,12] (fun pv iv wr=>∃ k:Nat,k<=bl/\iv=.int .i64 (k:Int)/\Hid (wr.ownsRow w2.heap.size 92 6 pv (ps.take k).length ((ps.take k).flatMap PartV.list))/\Hid (Below w2.heap.size w2 wr)) (fun _ iv _=>bl-(intOf iv).toNat)
 case atStart=>exact⟨0,Nat.zero_le _,rfl,World.ownsRow_nil _ _ _ _,Below.refl _ _⟩
 case round=>
  obtain⟨k,hk,rfl,HQ,HBX⟩:=hrel;have hbw:Below w.heap.size w wr:=bQ1 HB2.out HBX.out;by_cases hlt:k<bl
  ·obtain⟨bb,boff,rfl,hbc⟩:=PtrsAt.get (HPT.out.below hbw) (i:=k) (by rw[HLN.out]; exact hlt);have hck:=hbc k (by rw[HLN.out]; exact hlt);have hP:=(HPS.out k hlt).below hbw;have HTN:Hid _:=HTK.out k hlt;obtain⟨p,hp⟩:∃ p,p=ps.getD k pvz:=⟨_,rfl⟩
   rw[<- hp] at hP HTN;obtain⟨pa,hpa⟩:∃ a,a=bf.getD k 0:=⟨_,rfl⟩
   rw[<- hpa] at hP hck;obtain⟨c0,c1,c2,c3,c4,c5,-,-⟩:=hP;obtain⟨qa,qm,qc,rfl⟩:=ownsRow_slice HQ.out;have hw2x:w2.heap.size<=wr.heap.size:=HBX.out.size;obtain⟨v',w5,hr5,ho5,hk5,⟨xa,xm,xc,rfl⟩,hat⟩:=push_part wr w2.heap.size (.slice qa qm qc) (ps.take k) HQ.out (by rw[List.length_take]; omega) hw2x p 163;rw[<- HTN.out] at ho5;have HO5:Hid _:=ho5;have HB5:Hid (Below w2.heap.size w2 w5):=HBX.out.trans (hk5.below hw2x (fun b hb e=>by have:=(ownsRow_lt HQ.out e).1; omega));obtain⟨pk,ss,cs,⟨oa,ocp,ox⟩,pz,pt⟩:=p;simp only[PartV.cells,IntsV.val] at *;clear hp ho5 hk5 hat hbc hpa HTN HQ HBX hbw;go_wp2_with (first | (at_builtin; refine wpList_append_run rfl (.tmp 16) (.tmp 21) 163 rfl (.slice qa qm qc) (.slice (some (aD wr.heap.size 0)) 1 1) (.slice xa xm xc) w5 rfl rfl hr5 ?_));clear hr5 c0 c1 c2 c3 c4 c5 hck;go_wp2;go_roundw
   case rel=>exact⟨k+1,by omega,by go_num,HO5.out,HB5.out⟩
   case measure=>simp[intOf]; omega
  ·have hkb:bl=k:=by omega
   subst hkb;rw[List.take_of_length_le (by rw[HPL.out]; exact Nat.le_refl _)] at HQ;obtain⟨w3,hw3⟩:∃ x,x=wr:=⟨_,rfl⟩
   subst hw3;obtain⟨qa,qc,rfl,hQA⟩:=parts_own HQ.out (by rw[HPL.out]; omega) (fun i hi=>((HPS.out i (by rw[HPL.out] at hi; exact hi)).below hbw).ok);have HQA:Hid (PartsAt w3 qa ps):=hQA;have HB3:Hid _:=hbw;have gA:GB w3 w.heap.size 79 #[v0,v1,v2,v3,v4,v5,v6,v7,v8,v9,v10,v11,v12]:=HG1.out.of (HBX.out.block _ HG1.out.lt);have gN:GB w3 w1.heap.size 61 #[.int .i64 kind,.int .i64 nl,.int .i64 nr,.int .i64 src,.slice ca cl.length cc,.int .i64 key,.slice da co.length dc]:=HG2.out.of (HBX.out.block _ HG2.out.lt);have a0:w3.cell? (aD w.heap.size 0)=some v0:=gA.cell 0;have a1:w3.cell? (aD w.heap.size 1)=some v1:=gA.cell 1;have a2:w3.cell? (aD w.heap.size 2)=some v2:=gA.cell 2;have a3:w3.cell? (aD w.heap.size 3)=some v3:=gA.cell 3;have a4:w3.cell? (aD w.heap.size 4)=some v4:=gA.cell 4;have a5:w3.cell? (aD w.heap.size 5)=some v5:=gA.cell 5;have a6:w3.cell? (aD w.heap.size 6)=some v6:=gA.cell 6;have a7:w3.cell? (aD w.heap.size 7)=some v7:=gA.cell 7;have a8:w3.cell? (aD w.heap.size 8)=some v8:=gA.cell 8;have a9:w3.cell? (aD w.heap.size 9)=some v9:=gA.cell 9;have a10:w3.cell? (aD w.heap.size 10)=some v10:=gA.cell 10;have a11:w3.cell? (aD w.heap.size 11)=some v11:=gA.cell 11;have a12:w3.cell? (aD w.heap.size 12)=some v12:=gA.cell 12;have n0:w3.cell? (aD w1.heap.size 0)=some (.int .i64 kind):=gN.cell 0;have n1:w3.cell? (aD w1.heap.size 1)=some (.int .i64 nl):=gN.cell 1;have n2:w3.cell? (aD w1.heap.size 2)=some (.int .i64 nr):=gN.cell 2;have n3:w3.cell? (aD w1.heap.size 3)=some (.int .i64 src):=gN.cell 3;have n4:w3.cell? (aD w1.heap.size 4)=some (.slice ca cl.length cc):=gN.cell 4;have n5:w3.cell? (aD w1.heap.size 5)=some (.int .i64 key):=gN.cell 5;have n6:w3.cell? (aD w1.heap.size 6)=some (.slice da co.length dc):=gN.cell 6;rw[HPL.out] at HPO ⊢;clear hQA hbw HQ HBX HG1 HG2 gA gN HPS HTK HPT hlt hk;go_wp2_with fail;refine wp_region_held_drew (S:=fun x=>Below w3.heap.size w3 x) (by kernel_rfl) ((Below.refl _ _).drew) (fun hS=>?_);refine wT 0 (.agg #[v0,v1,v2,v3,v4,v5,v6,v7,v8,v9,v10,v11,v12]) hS (fun x hx=>?_) ?_
   ·have e0:=cB hx a0;have e1:=cB hx a1;have e2:=cB hx a2;have e3:=cB hx a3;have e4:=cB hx a4;have e5:=cB hx a5;have e6:=cB hx a6;have e7:=cB hx a7;have e8:=cB hx a8;have e9:=cB hx a9;have e10:=cB hx a10;have e11:=cB hx a11;have e12:=cB hx a12;go_simp
   refine wT 1 (.agg #[.int .i64 kind,.int .i64 nl,.int .i64 nr,.int .i64 src,.slice ca cl.length cc,.int .i64 key,.slice da co.length dc]) hS (fun x hx=>?_) ?_
   ·have e0:=cB hx n0;have e1:=cB hx n1;have e2:=cB hx n2;have e3:=cB hx n3;have e4:=cB hx n4;have e5:=cB hx n5;have e6:=cB hx n6;go_simp
   refine wT 2 (.slice qa bl qc) hS (fun x hx=>?_) ?_
   ·go_simp
   refine wT 4 (.agg #[.int .i64 kind,.int .i64 nl,.int .i64 nr,.int .i64 src,.slice ca cl.length cc,.int .i64 key,.slice da co.length dc]) hS (fun x hx=>?_) ?_
   ·have e0:=cB hx n0;have e1:=cB hx n1;have e2:=cB hx n2;have e3:=cB hx n3;have e4:=cB hx n4;have e5:=cB hx n5;have e6:=cB hx n6;go_simp
   refine wT 5 (.slice bo bl bc) hS (fun x hx=>?_) ?_
   ·go_simp
   refine wR 3 fun K hK=>?_
   go_simp;refine Calls.mono (HPO.out _ qa qc (HB3.out.trans (hS.mono HB3.out.size)) (PartsAt.below hS HQA.out)) ?_;rintro e w4 ⟨p,rfl,hpd,hpo,hpf,hb⟩;have hb4:=hS.trans (hb.mono hS.size);obtain⟨pk,ps',pc,⟨oa,ocp,ox⟩,pz,pt⟩:=p;simp only[PartV.cells,IntsV.val] at *;refine hK.out _ _ (hS.trans (hb.mono hS.size)) (fun hS=>?_);clear hK K;refine wR 6 fun K hK=>?_
   go_simp;refine Calls.mono (HCL.out _ (HB3.out.trans (hS.mono HB3.out.size))) ?_;rintro e w5 ⟨v,rfl,hv,hb5⟩;have hb35:=hS.trans (hb5.mono hS.size);obtain⟨va,vn,vc,rfl⟩:=ownsRow_slice hv;refine hK.out _ _ (hb35) (fun hS=>?_);clear hK K;refine wT 7 (.agg #[.int .i64 pk,.int .u64 (ps':Int),.int .u64 (pc:Int),.slice oa ox.length ocp,.int .u64 (pz:Int),.int .u64 (pt:Int),.int .i64 kind,.int .i64 nl,.int .i64 nr,.int .i64 src,.slice ca cl.length cc,.int .i64 key,.slice da co.length dc,.slice va vn vc]) hS (fun x hx=>?_) ?_
   ·go_simp
   refine wR 8 fun K hK=>?_
   go_simp;refine hK.out _ _ (hS.trans (bQ2 _ _ |>.mono hS.size)) (fun hS=>?_);clear hK K;refine wR 9 fun K hK=>?_
   go_simp;refine hK.out _ _ (hS) (fun hS=>?_);clear hK K;refine wpAnyH_done (by kernel_rfl) ?_ _
   try simp only[pA,sB,sC]
   obtain⟨hT,hbe⟩:=HFIN.out w5 w5.heap.size ⟨pk,ps',pc,⟨oa,ocp,ox⟩,pz,pt⟩ (.slice va vn vc) w4 rfl (Nat.le_trans HB3.out.size hb4.size) (HB3.out.trans (hb4.mono HB3.out.size)) hb5 hpd (hpo.below hb5) hpf hv;have HT:Hid _:=hT;have HBE:Hid _:=hbe;have HS5:Hid (w.heap.size<=w5.heap.size):=Nat.le_trans HB3.out.size hb35.size;clear hT hbe hpd hpo hpf hb hb4 hv hb5 hb35 hS;go_wp2;go_ret;exact⟨_,rfl,HT.out,HS5.out,by simp,HBE.out⟩
end Go.Proofs.YtlpbelhfpoilpabGreatDoor
namespace Go.Scout
open Go.RowKit
theorem concL_lt {ts:List TableD} {q:QueryV} (ok:Ok ts q) (k:Nat):(concL ts q).getD k 0<18446744073709551616:=by
 by_cases hk:k<q.wh.length
 ·rw[concL_get ts q hk];exact Nat.lt_of_lt_of_le (setN_lt (n:=q.src.xs.length) (concern_small ok.cat ok.src (ok.cols k hk))) (Nat.pow_le_pow_right (n:=2) (by omega) ok.small)
 ·rw[List.getD_eq_getElem?_getD,List.getElem?_eq_none (by rw[concL_len]; omega)];simp
end Go.Scout
namespace Go.Proofs.YtlpbelhfpoilpabGreatDoor
open Go.RowKit Go.Scout Go.Shelf
theorem withinF_any (f:FactsV) (ts:List TableD) (q:QueryV) (s:Nat) (w:World) (ok:Ok ts q) (hf:f.At ts q w) (hs:s<18446744073709551616) :
  Calls Tryz.prog 108 #[.agg (f.cells ts q),.int .u64 (s:Int)] w fun e w'=>e=.returned (.int .u64 ((withinP (concL ts q) s:Nat):Int))/\Below w.heap.size w w':=by
 obtain⟨w1,hw1,hk1,hg⟩:=newB w ((f.cells ts q)) 79;have q11:w1.cell? (aD w.heap.size 11)=some (.slice f.na f.nl f.nc):=hg.cell 11;have hnl:f.nl=(concL ts q).length:=by rw[concL_len]; exact hf.nl
 rw[hnl] at q11;have hco:NatsAt w1 f.na (concL ts q):=hf.conc.below hk1;have hcl:=hco.1;have HCO:Hid _:=hco;have hl64:(concL ts q).length<=64:=by rw[concL_len]; exact ok.whs
 have HCV:Hid (∀ k x,Calls Tryz.prog 67 #[.int .u64 (s:Int),.int .u64 (((concL ts q).getD k 0:Nat):Int)] x fun e w'=>e=.returned (.bool (coversB s ((concL ts q).getD k 0)))/\w' = x):=fun k x=>covers_any s _ hs (concL_lt ok k) x
 have HWL:Hid (∀ k,k<=64->withinTo (concL ts q) s k<18446744073709551616):=fun k hk=>Nat.lt_of_lt_of_le (withinTo_lt _ _ k) (Nat.pow_le_pow_right (n:=2) (by omega) hk)
 have HWS:Hid (∀ k,withinTo (concL ts q) s (k+1)=if coversB s ((concL ts q).getD k 0)=true then withinTo (concL ts q) s k|||2 ^ k else withinTo (concL ts q) s k):=fun k=>rfl
 have HW0:Hid (withinTo (concL ts q) s 0=0):=rfl;have HWE:Hid (withinTo (concL ts q) s (concL ts q).length=withinP (concL ts q) s):=rfl;have HK1:Hid (Below w.heap.size w w1):=hk1;generalize withinP (concL ts q) s=R at *;generalize withinTo (concL ts q) s=WT at *;clear hg hco hf hk1 hnl ok hs;generalize f.cells ts q=FC at *;generalize concL ts q=CN at *;obtain⟨fca,fcc,fra,frc,fna,fnl,fnc,fpa,fpl,fpc⟩:=f;simp only at *;go_enter Tryz.func108,Tryz.ntmps108;go_wp2;clear hw1;go_loopw [5,11] (fun sv iv wr=>∃ k:Nat,k<=CN.length/\iv=.int .i64 k/\(∃ m:Nat,sv=.int .u64 (m:Int)/\Hid (m=WT k))/\Below w1.heap.size w1 wr) (fun _ iv _=>CN.length-(intOf iv).toNat)
 case atStart=>exact⟨0,Nat.zero_le _,rfl,⟨0,rfl,HW0.out.symm⟩,Below.refl _ _⟩
 case round=>
  obtain⟨k,hk,rfl,⟨m,rfl,hm⟩,hbr⟩:=hrel;by_cases hlt:k<CN.length
  ·obtain⟨xb,xo,rfl,hxc⟩:=NatsAt.get HCO.out hlt;have hck:=cB hbr (hxc k hlt);have hCV:=HCV.out k wr;have HT:Hid _:=HWS.out k;have hml:m<18446744073709551616:=by rw[hm.out]; exact HWL.out k (by omega)
   rw[<- hm.out] at HT;clear hxc hm;generalize CN.getD k 0=c at *;obtain⟨B,hB⟩:∃ B,coversB s c=B:=⟨_,rfl⟩
   rw[hB] at hCV HT;clear hB;have hk64:k<64:=by omega
   cases B with
   | true =>
    have HT2:Hid (WT (k+1)=m|||2 ^ k):=HT.out;obtain⟨wa,hwa⟩:∃ x,wr.alloc (.cells #[.int .i64 (k:Int)] 3)=x:=⟨_,rfl⟩
    have hSO:=setOf_one wr.heap.size k wa (by rw[<- hwa]; simp) hk64;obtain⟨wb,hwb⟩:∃ x,wa.alloc (.cells #[.int .u64 (m:Int),.int .u64 ((2 ^ k:Nat):Int)] 75)=x:=⟨_,rfl⟩
    have hp:2 ^ k<18446744073709551616:=Nat.pow_lt_pow_right (n:=64) (by omega) hk64;have hUN:=union_two wa.heap.size m (2 ^ k) wb (by rw[<- hwb]; simp) (by rw[<- hwb]; simp) hml hp;have HBW:Hid (Below w1.heap.size w1 wb):=by
     show Below _ _ _
     rw[<- hwb,<- hwa];exact bQ1 (bQ1 hbr (bQ2 _ _)) (bQ2 _ _)
    clear HT;generalize 2 ^ k=p at *;go_wp2_with fail;refine hCV.mono ?_;clear hCV;rintro e w2 ⟨rfl,rfl⟩;go_wp2_with fail;refine hSO.mono ?_;clear hSO;rintro e w2 ⟨rfl,rfl⟩;go_wp2_with fail;refine hUN.mono ?_;clear hUN;rintro e w3 ⟨rfl,rfl⟩;clear hwa hwb;go_wp2;go_roundw
    case rel=>exact⟨k+1,by omega,by go_num,⟨m|||p,rfl,HT2.out.symm⟩,HBW.out⟩
    case measure=>simp[intOf]; omega
   | false =>
    have HT2:Hid (WT (k+1)=m):=HT.out;have HBW:Hid _:=hbr;clear HT;go_wp2_with fail;refine hCV.mono ?_;clear hCV;rintro e w2 ⟨rfl,rfl⟩;go_wp2;go_roundw
    case rel=>exact⟨k+1,by omega,by go_num,⟨m,rfl,HT2.out.symm⟩,HBW.out⟩
    case measure=>simp[intOf]; omega
  ·obtain rfl:k=CN.length:=by omega
   have HV:Hid (m=R):=hm.out.trans HWE.out;have HB:Hid _:=hbr;clear hbr hm;go_wp2;go_ret;exact⟨ret_int (by rw[HV.out]),bQ1 HK1.out HB.out⟩
end Go.Proofs.YtlpbelhfpoilpabGreatDoor
