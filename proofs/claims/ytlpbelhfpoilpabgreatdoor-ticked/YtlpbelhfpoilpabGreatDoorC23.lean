import Derived.Test.YtlpbelhfpoilpabGreatDoorC03
import Derived.Test.YtlpbelhfpoilpabGreatDoorC07
import Derived.Test.YtlpbelhfpoilpabGreatDoorC12
import Derived.Test.YtlpbelhfpoilpabGreatDoorC14
set_option linter.all false
set_option maxRecDepth 100000
set_option maxHeartbeats 16000000
namespace Go.Scout
open Go.RowKit
def usefulC (ts:List TableD) (q:QueryV) (s:Nat) (acc:List (List Int)) (col:Int):List (List Int):=
 if coversB s (setN (srcL ts q [col]))=true then addedN acc [col] else acc
def usefulS (ts:List TableD) (q:QueryV) (s:Nat) (acc:List (List Int)) (c:ClauseV):List (List Int):=
 if ((eqCols c.cs).2.2 && !coversB s (setN (srcL ts q [(eqCols c.cs).1,(eqCols c.cs).2.1])))=true then usefulC ts q s (usefulC ts q s acc (eqCols c.cs).1) (eqCols c.cs).2.1 else acc
def usefulN (ts:List TableD) (q:QueryV) (s:Nat):List (List Int):=
 q.wh.foldl (usefulS ts q s) (if coversB s (setN (srcL ts q (endOrderN q)))=true then addedN [[]] (endOrderN q) else [[]])
abbrev TaskD:=Nat × Nat
def rankN (rk:Nat->Int) (t:TaskD):Int:=if t.2=0 then 6 else rk (t.1|||t.2)
def cmpI (a b:Int):Int:=if a<b then -1 else if b<a then 1 else 0
def aheadI (rk:Nat->Int) (a b:TaskD):Int:=
 if cmpI (rankN rk b) (rankN rk a)≠0 then cmpI (rankN rk b) (rankN rk a) else if cmpI a.1 b.1≠0 then cmpI a.1 b.1 else cmpI a.2 b.2
def bsF (lt:Nat->Bool):Nat->Nat->Nat->Nat
 | 0,i,_ => i
 | f+1,i,j => if i<j then (if lt ((i+j) / 2)=true then bsF lt f ((i+j) / 2+1) j else bsF lt f i ((i+j) / 2)) else i
def findA (rk:Nat->Int) (a:List TaskD) (t:TaskD):Nat:=bsF (fun h=>decide (aheadI rk (a.getD h (0,0)) t<0)) a.length 0 a.length
def thereB (rk:Nat->Int) (a:List TaskD) (t:TaskD):Bool:=decide (findA rk a t<a.length)&&decide (aheadI rk (a.getD (findA rk a t) (0,0)) t=0)
def addA (rk:Nat->Int) (a:List TaskD) (t:TaskD):List TaskD:=if thereB rk a t=true then a else a.take (findA rk a t)++t::a.drop (findA rk a t)
structure SeD where
 groups:List (List PlaceD)
 agenda:List TaskD
 cut:Bool
 best:TrD
 picks:List Int
 status:Int
def reopenS (rk:Nat->Int) (s:Nat) (gs:List (List PlaceD)) (a:List TaskD) (k:Nat):List TaskD:=
 if ((headP (gs.getD k [])).isSome&&decide (k &&& s=0))=true then addA rk (addA rk a (s,k)) (k,s) else a
def reopenN (rk:Nat->Int) (s:Nat) (gs:List (List PlaceD)) (a:List TaskD):List TaskD:=(List.range gs.length).foldl (reopenS rk s gs) a
def bestS (ts:List TableD) (q:QueryV) (b t:TrD):TrD:=cheapestT b (endingsT ts q t)
def keepN (rk:Nat->Int) (ts:List TableD) (q:QueryV) (s:Nat) (l:List TrD) (σ:SeD):SeD:=
 if s=2 ^ q.src.xs.length-1 then { σ with best:=l.foldl (bestS ts q) σ.best }
 else
  let r:=improveN ts q (σ.groups.getD s []) l
  { σ with groups:=σ.groups.set s r.2,agenda:=if r.1=true then reopenN rk s (σ.groups.set s r.2) σ.agenda else σ.agenda }
def doN (rk:Nat->Int) (ts:List TableD) (q:QueryV) (conc:List Nat) (t:TaskD) (σ:SeD):SeD:=
 if t.2=0 then keepN rk ts q t.1 [scannedT ts q conc ((risI t.1).getD 0 0)] σ
 else keepN rk ts q (t.1|||t.2) (joinsT ts q conc (σ.groups.getD t.1 []) (σ.groups.getD t.2 [])) σ
def placeI (n:Nat) (pick:Int):Int:=(pick.tmod n+n).tmod n
def settleN (σ:SeD):SeD:=if 0<σ.agenda.length then σ else { σ with status:=if σ.cut=true then 3 else 2 }
def stepN (rk:Nat->Int) (ts:List TableD) (q:QueryV) (conc:List Nat) (pick:Int) (σ:SeD):SeD:=
 let p:=placeI σ.agenda.length pick
 settleN (doN rk ts q conc (σ.agenda.getD p.toNat (0,0)) { σ with picks:=σ.picks++[p],agenda:=σ.agenda.eraseIdx p.toNat })
def pickN' (l:List Int) (k:Nat):Int:=if l.length=0 then 0 else l.getD (k % l.length) 0
def runN (rk:Nat->Int) (ts:List TableD) (q:QueryV) (conc:List Nat) (picks:List Int):Nat->Nat->SeD->SeD
 | 0,_,σ => σ
 | n+1,k,σ => if σ.status=1 then runN rk ts q conc picks n (k+1) (stepN rk ts q conc (pickN' picks k) σ) else σ
def newGr (os:List (List Int)):List PlaceD:=os.map fun o=>(o,none)
def beginN (rk:Nat->Int) (ts:List TableD) (q:QueryV) (room:Nat):SeD:=
 ⟨(List.range (2 ^ q.src.xs.length-1)).map fun s=>newGr ((usefulN ts q s).take room),(List.range q.src.xs.length).foldl (fun a (i:Nat)=>addA rk a (2 ^ i,0)) [],
  (List.range (2 ^ q.src.xs.length-1)).any fun s=>decide (room<(usefulN ts q s).length),plainT ts q,[],1⟩
def taskL (t:TaskD):List Value:=[.int .u64 (t.1:Int),.int .u64 (t.2:Int)]
theorem append_types {P:Program} {t tx ty e:TypeId} {i:TypeInfo} (hi:P.info? e=some i) (h1:P.underlying t=some (.slice e)) (h2:P.underlying tx=some (.slice e)) (v x:Value) (w:World):(Builtin.append_ #[t,tx] ty #[v,x]).run P w=(Builtin.append_ #[t,t] ty #[v,x]).run P w:=by
 unfold Builtin.append_
 cases v <;> simp[run_underlying h1,run_underlying h2,sizeOf,typeInfo,hi]
theorem ins_list {xs ys:List Value} {n i:Nat} (l r:Value) (hx:xs.length=n*2) (hy:ys.length=2) (hi:i<n) :
  (((xs++ys).take ((i+1)*2)++xs.drop (i*2)++(xs++ys).drop ((i+1)*2+(xs.drop (i*2)).length)).take (i*2)++[l,r]++((xs++ys).take ((i+1)*2)++xs.drop (i*2)++(xs++ys).drop ((i+1)*2+(xs.drop (i*2)).length)).drop (i*2+[l,r].length))=xs.take (i*2)++[l,r]++xs.drop (i*2):=by
 have h0:(xs++ys).drop ((i+1)*2+(xs.drop (i*2)).length)=[]:=List.drop_eq_nil_of_le (by rw[List.length_append,List.length_drop]; omega);have hP:((xs++ys).take ((i+1)*2)).length=(i+1)*2:=by rw[List.length_take,List.length_append]; omega
 rw[h0,List.append_nil,List.take_append_of_le_length (by omega),List.drop_left' (by rw[hP]; simp; omega),List.take_take,Nat.min_eq_left (by omega),List.take_append_of_le_length (by omega)]
end Go.Scout
namespace Go.Proofs.YtlpbelhfpoilpabGreatDoor
open Go.RowKit Go.Scout Go.Shelf
theorem Tryz.infoTask:(Tryz.prog.info? 111).map (fun i=>(i.zero,i.size,i.bytes))=some (some (.agg #[.int .u64 0,.int .u64 0]),2,16):=by kernel_rfl
theorem insert_shift (base g n cap i vb:Nat) (l r:Value) (xs:List Value) (w:World) (hown:w.ownsRow base 111 2 (.slice (some (aD g 0)) n cap) n xs) (hx1:∀ u∈xs,u.oneCell' = true) (hl1:l.oneCell' = true) (hr1:r.oneCell' = true) (hi:i<n) (hroom:n+1<=cap) (hvb:GB w vb 111 #[l,r]) (hne:vb≠g) :
  Calls Tryz.prog 74 #[.slice (some (aD g 0)) n cap,.int .i64 i,.slice (some (aD vb 0)) 1 1] w fun e w'=>
   e=.returned (.slice (some (aD g 0)) (n+1) cap)/\w'.ownsRow base 111 2 (.slice (some (aD g 0)) (n+1) cap) (n+1) (xs.take (i*2)++[l,r]++xs.drop (i*2))/\Kept (fun b=>b≠g) w w':=by
 obtain⟨i0,hi0,hz0,hz1,hz2⟩:=info_parts Tryz.infoTask;have hsz:(Tryz.prog.info? 111).map (·.size)=some 2:=by rw[hi0]; simp[hz1]
 obtain⟨_,hcm,hcell,hsome,hfz,hsh,hlt⟩:=own_cells2 hown;have hxl:=hown.1;have hcm2:cap<=9223372036854775807:=by unfold maxLen at hcm; omega
 have hn0:¬ ((i:Int)=(n:Int)):=by omega
 have hvs:w.shape? vb=some (111,2):=by
  have h:w.heap[vb]? = some (.cells #[l,r] 111 (0,0)):=hvb;simp[World.shape?,h]
 have hov:∀ lb cb,(callFunc 101 #[.slice (some (aD vb 0)) 1 1,.slice (some (aD g ((i+1)*2))) lb cb]).run Tryz.prog w=.ok (.value (.bool false)) w:=fun lb cb=>by
  rw[run_callFunc_extern Tryz.func101 (by kernel_rfl) (by kernel_rfl) (by kernel_rfl) (e:=Extern.SlicesOverlaps.overlaps #[83,83] #[4]) (by kernel_rfl),
   Lib.run_overlaps_apart w 83 4 111 Tryz.underlying83 2 (fun W=>by simp[sizeOf,typeInfo,hi0,hz1]) (aD vb 0) (aD g ((i+1)*2)) 1 1 lb cb hne 111 111 2 (cap*2) hvs hsh (by omega) (hvb.frozen 0) (hvb.frozen 2)]
  rfl
 have hdl:(xs.drop (i*2)).length=n*2-i*2:=by rw[List.length_drop,hxl]
 have hcp1:∀ ty dc sc,(Builtin.copy_ #[84,84] ty #[.slice (some (aD g ((i+1)*2))) (n-i) dc,.slice (some (aD g (i*2))) (n+1-i) sc]).run Tryz.prog w.drew=.ok (goInt (Nat.min (n+1-i) (n-i))) (w.drew.setCells g ((i+1)*2) (xs.drop (i*2))):=fun ty dc sc=>
  run_copyN w.drew _ _ ty 111 2 g ((i+1)*2) (n-i) dc (aD g (i*2)) (n+1-i) sc (xs.drop (i*2)) Tryz.underlying84 hsz (by rw[hdl]; simp only[Nat.min_def]; split <;> omega)
   (fun j v hj=>by rw[addr_add]; exact hcell (i*2+j) v (by rwa [List.getElem?_drop] at hj))
   (fun j hj=>hsome _ (by omega)) (fun j hj=>hfz _) (fun v hv=>hx1 v (List.mem_of_mem_drop hv))
 obtain⟨W1,hW1⟩:∃ W1,W1=w.drew.setCells g ((i+1)*2) (xs.drop (i*2)):=⟨_,rfl⟩
 have hown0:w.drew.ownsRow base 111 2 (.slice (some (aD g 0)) n cap) n xs:=hown;obtain⟨ys,hyl,hown1⟩:=own_more hown0 hroom;have hown2:=own_setCells (v:=.slice (some (aD g 0)) (n+1) cap) (g:=g) rfl (xs.drop (i*2)) ((i+1)*2) hown1 (by rw[hdl]; omega);rw[<- hW1] at hown2 hcp1;have hk1:Kept (fun b=>b≠g) w W1:=by rw[hW1]; exact (Kept.drew1 w).trans (Kept.setCells (fun h=>h rfl) _ _ _)
 obtain⟨_,_,hcell1,hsome1,hfz1,_,_⟩:=own_cells2 hown2;have hvb1:GB W1 vb 111 #[l,r]:=hvb.keep hk1 hne;have hcp2:∀ ty dc,(Builtin.copy_ #[84,83] ty #[.slice (some (aD g (i*2))) (n+1-i) dc,.slice (some (aD vb 0)) 1 1]).run Tryz.prog W1=.ok (goInt (Nat.min 1 (n+1-i))) (W1.setCells g (i*2) [l,r]):=fun ty dc=>
  run_copyN W1 _ _ ty 111 2 g (i*2) (n+1-i) dc (aD vb 0) 1 1 [l,r] Tryz.underlying84 hsz (by simp only[Nat.min_def]; split <;> simp; omega)
   (fun j v hj=>by rw[addr_add,Nat.zero_add,hvb1.cell]; simpa using hj)
   (fun j hj=>hsome1 _ (by simp at hj; omega)) (fun j hj=>hfz1 _) (fun v hv=>by simp at hv; rcases hv with rfl | rfl <;> assumption)
 have hown3:=own_setCells (v:=.slice (some (aD g 0)) (n+1) cap) (g:=g) rfl [l,r] (i*2) hown2 (by simp; omega);rw[ins_list l r hxl hyl hi] at hown3;have HFIN:Hid ((W1.setCells g (i*2) [l,r]).ownsRow base 111 2 (.slice (some (aD g 0)) (n+1) cap) (n+1) (xs.take (i*2)++[l,r]++xs.drop (i*2))/\Kept (fun b=>b≠g) w (W1.setCells g (i*2) [l,r])):=⟨hown3,hk1.trans (Kept.setCells (fun h=>h rfl) _ _ _)⟩
 clear hown hown0 hown1 hown2 hown3 hk1 hcell hsome hfz hcell1 hsome1 hfz1 hvb hvb1 hyl hdl hxl hx1 hvs hsh hlt hsz hi0 hz0 hz1 hz2 hcm hW1;have hb4:¬ (cap=i+1):=by omega
 have hb5:¬ (cap=i):=by omega
 have hw1:IntKind.i64.wrap ((i:Int)+1)=(i:Int)+1:=by rw[IntKind.wrap_i64]; omega
 have hb1:(0:Int)<=(i:Int)+1:=by omega
 have hb2:(i:Int)+1<=(n:Int)+1:=by omega
 have htn:((i:Int)+1).toNat=i+1:=by omega
 have hb3:(i:Int)<=(n:Int)+1:=by omega
 go_enter Tryz.func74,Tryz.ntmps74;go_wp2_with (simp only[hov]);go_region_law (refine step_copy_runI rfl _ _ 84 84 rfl _ _ (by simp[Act.eval,Act.put]) (by simp[Act.eval,Act.put]) (hcp1 _ _ _) ?_);go_wp2_with (at_builtin; refine wpList_copy_runI _ rfl _ _ 84 83 rfl _ _ rfl rfl (hcp2 _ _) ?_);go_ret;exact⟨rfl,HFIN.out⟩
end Go.Proofs.YtlpbelhfpoilpabGreatDoor
namespace Go.Scout
open Go.RowKit
theorem grow_list {xs Z:List Value} {n i:Nat} (l r:Value) (hx:xs.length=n*2) (hZ:Z.length=(n+1)*2) (hi:i<n) (hz:Z.take (i*2)=xs.take (i*2)) :
  ((Z.take (i*2)++[l,r]++Z.drop (i*2+[l,r].length)).take ((i+1)*2)++xs.drop (i*2)++(Z.take (i*2)++[l,r]++Z.drop (i*2+[l,r].length)).drop ((i+1)*2+(xs.drop (i*2)).length))=xs.take (i*2)++[l,r]++xs.drop (i*2):=by
 have hP:(Z.take (i*2)++[l,r]).length=(i+1)*2:=by rw[List.length_append,List.length_take]; simp; omega
 have h0:(Z.take (i*2)++[l,r]++Z.drop (i*2+[l,r].length)).drop ((i+1)*2+(xs.drop (i*2)).length)=[]:=List.drop_eq_nil_of_le (by rw[List.length_append,hP,List.length_drop,List.length_drop]; simp; omega);rw[h0,List.append_nil,List.take_left' hP,hz]
end Go.Scout
namespace Go.Proofs.YtlpbelhfpoilpabGreatDoor
open Go.RowKit Go.Scout Go.Shelf
theorem insert_end (base n vb:Nat) (v l r:Value) (xs:List Value) (w:World) (hown:w.ownsRow base 111 2 v n xs) (hb:base<=w.heap.size) (hn:n<=1000000) (hl1:l.oneCell' = true) (hr1:r.oneCell' = true) (hvb:GB w vb 111 #[l,r]) :
  Calls Tryz.prog 74 #[v,.int .i64 n,.slice (some (aD vb 0)) 1 1] w fun e w'=>
   ∃ v',e=.returned v'/\w'.ownsRow base 111 2 v' (n+1) (xs++[l,r])/\Kept (fun b=>v.ownBlock≠some b) w w'/\(v'.ownBlock=v.ownBlock∨∃ g,v'.ownBlock=some g/\w.heap.size<=g):=by
 obtain⟨i0,hi0,hz0,hz1,hz2⟩:=info_parts Tryz.infoTask;obtain⟨v',w',hr,ho,hg,hat⟩:=run_append_own_at (P:=Tryz.prog) w base 84 84 111 i0 _ 2 16 Tryz.underlying84 hi0 hz0 hz1 hz2 rfl (by decide) v n xs hown (aD vb 0) 1 1 [l,r] rfl
  (fun j u hj=>by rw[addr_add,Nat.zero_add,hvb.cell]; simpa using hj) (fun u hu=>by simp at hu; rcases hu with rfl | rfl <;> assumption) (by unfold maxLen; omega) (by omega) hb
 have hrun:(Builtin.append_ #[84,83] 84 #[v,.slice (some (aD vb 0)) 1 1]).run Tryz.prog w=.ok v' w':=(append_types hi0 Tryz.underlying84 Tryz.underlying83 _ _ _).trans hr;have HFIN:Hid (∃ u,Ending.returned v' = .returned u/\w'.ownsRow base 111 2 u (n+1) (xs++[l,r])/\Kept (fun b=>v.ownBlock≠some b) w w'/\(u.ownBlock=v.ownBlock∨∃ g,u.ownBlock=some g/\w.heap.size<=g)):=⟨v',rfl,ho,Kept.grown hg (fun r e hr=>hr e),by
  rcases hat.2 with h | h
  ·exact .inl h
  ·exact .inr ⟨_,h,Nat.le_refl _⟩⟩
 obtain⟨va',vm',vc',rfl⟩:=ownsRow_slice ho;clear hr ho hg hat hvb hi0 hz0 hz1 hz2;rcases hown.2 with⟨rfl,rfl⟩ | ⟨g,cap,cur,rfl,-,-,hnc,hcm,-⟩
 ·clear hown;go_enter Tryz.func74,Tryz.ntmps74;go_wp2_with (at_builtin; refine Lib.wpList_append_run _ rfl _ _ _ _ rfl _ _ rfl rfl _ _ hrun ?_);go_ret;exact HFIN.out
 ·clear hown;have hcm2:cap<=9223372036854775807:=by unfold maxLen at hcm; omega
  go_enter Tryz.func74,Tryz.ntmps74;go_wp2_with (at_builtin; refine Lib.wpList_append_run _ rfl _ _ _ _ rfl _ _ rfl rfl _ _ hrun ?_)
  all_goals (go_ret; exact HFIN.out)
theorem insert_grow (base g n cap i vb:Nat) (l r:Value) (xs:List Value) (w:World) (hown:w.ownsRow base 111 2 (.slice (some (aD g 0)) n cap) n xs) (hb:base<=w.heap.size) (hn:n<=1000000) (hx1:∀ u∈xs,u.oneCell' = true) (hl1:l.oneCell' = true) (hr1:r.oneCell' = true) (hi:i<n) (hroom:cap<n+1) (hvb:GB w vb 111 #[l,r]) :
  Calls Tryz.prog 74 #[.slice (some (aD g 0)) n cap,.int .i64 i,.slice (some (aD vb 0)) 1 1] w fun e w'=>
   ∃ G,e=.returned (.slice (some (aD w.heap.size 0)) (n+1) G)/\w'.ownsRow base 111 2 (.slice (some (aD w.heap.size 0)) (n+1) G) (n+1) (xs.take (i*2)++[l,r]++xs.drop (i*2))/\Below w.heap.size w w':=by
 obtain⟨i0,hi0,hz0,hz1,hz2⟩:=info_parts Tryz.infoTask;have hsz:(Tryz.prog.info? 111).map (·.size)=some 2:=by rw[hi0]; simp[hz1]
 obtain⟨hnc,hcm,hcell,hsome,hfz,hsh,hlt⟩:=own_cells2 hown;have hxl:=hown.1;have hcn:cap=n:=by omega
 subst hcn;have hik:i+(cap+1-i)=cap+1:=by omega
 have hkk:(cap:Int)+1-(i:Int)=((cap+1-i:Nat):Int):=by omega
 have hold:(Builtin.firstCells i0.size i (.slice (some (aD g 0)) i cap)).run Tryz.prog w.drew=.ok (xs.take (i*2)).toArray w.drew:=by
  rw[hz1];exact run_firstCells_some w.drew 2 i (aD g 0) i cap (xs.take (i*2)) (by rw[List.length_take]; omega) (fun j v hj=>by
   rw[addr_add,Nat.zero_add];rw[List.getElem?_take] at hj;split at hj
   ·exact hcell j v hj
   ·cases hj)
 have hrz0:=Lib.run_append_grow_zeros w 84 3 84 111 i0 _ .i64 .i64 Tryz.underlying84 Tryz.underlying3 hi0 hz0 (some (aD g 0)) i cap (xs.take (i*2)) hold (cap+1-i) (by omega) (by omega) (by omega) (by omega) (by rw[hz2]; omega) (by rw[hz2,hik]; exact growslice_fits (by omega) (by omega));rw[<- hkk,hik] at hrz0;obtain⟨G,hG⟩:∃ G,G=grownCap w (cap+1) cap 111:=⟨_,rfl⟩
 obtain⟨ROW,hROW⟩:∃ ROW:Array Value,ROW=(xs.take (i*2)).toArray++Builtin.zeroCells (Value.agg #[.int .u64 0,.int .u64 0]).cells (cap+1-i)++Builtin.zeroCells (Value.agg #[.int .u64 0,.int .u64 0]).cells (G-(cap+1)):=⟨_,rfl⟩
 rw[<- hG,<- hROW] at hrz0;have hGn:cap+1<=G:=by rw[hG]; exact grownCap_ge w _ _ _
 have hGm:G<=maxLen:=by rw[hG]; exact grownCap_le_maxLen w _ _ _ (by unfold maxLen; omega)
 have hxt:(xs.take (i*2)).length=i*2:=by rw[List.length_take]; omega
 have hRl:ROW.size=G*2:=by
  rw[hROW];simp[Builtin.zeroCells,Value.cells,hxt];omega
 have hRt:ROW.toList.take (i*2)=xs.take (i*2):=by
  rw[hROW];rw[Array.append_assoc,Array.toList_append];exact List.take_left' hxt
 obtain⟨N1,hN1⟩:∃ W,W=w.drew.alloc (.cells ROW 111):=⟨_,rfl⟩
 rw[<- hN1] at hrz0;have hbl:N1.heap[w.heap.size]? = some (.cells ROW 111 (0,0)):=by rw[hN1]; exact bQ3 w.drew _
 have hB1:Below w.heap.size w N1:=by rw[hN1]; exact ((Below.refl _ _).drew).alloc (Nat.le_refl _) _
 have ho1:N1.ownsRow base 111 2 (.slice (some (aD w.heap.size 0)) (cap+1) G) (cap+1) (ROW.toList.take ((cap+1)*2)):=
  ⟨by rw[List.length_take,Array.length_toList,hRl]; omega,.inr ⟨w.heap.size,G,ROW,rfl,hb,hbl,hGn,hGm,hRl,rfl⟩⟩
 have ho2:=own_setCells (g:=w.heap.size) rfl [l,r] (i*2) ho1 (by simp; omega);have hdl:(xs.drop (i*2)).length=cap*2-i*2:=by rw[List.length_drop,hxl]
 obtain⟨_,_,_,hsome1,hfz1,_,_⟩:=own_cells2 ho1;obtain⟨_,_,_,hsome2,hfz2,_,_⟩:=own_cells2 ho2;obtain⟨N2,hN2⟩:∃ W,W=N1.setCells w.heap.size (i*2) [l,r]:=⟨_,rfl⟩
 rw[<- hN2] at ho2 hsome2 hfz2;have hB2:Below w.heap.size w N2:=by rw[hN2]; exact hB1.trans ((Kept.setCells (s:=fun b=>b<w.heap.size) (fun h=>Nat.lt_irrefl _ h) _ _ _).below hB1.size (fun _ h=>h))
 have ho2':N2.drew.ownsRow base 111 2 (.slice (some (aD w.heap.size 0)) (cap+1) G) (cap+1) _:=ho2;have ho3:=own_setCells (g:=w.heap.size) rfl (xs.drop (i*2)) ((i+1)*2) ho2' (by rw[hdl]; omega);have hvb1:GB N1 vb 111 #[l,r]:=hvb.keep (Kept.of_below (s:=fun b=>b<w.heap.size) hB1 (fun _ h _=>h)) hvb.lt;have hcpA:∀ ty dc,(Builtin.copy_ #[84,83] ty #[.slice (some (aD w.heap.size (i*2))) (cap+1-i) dc,.slice (some (aD vb 0)) 1 1]).run Tryz.prog N1=.ok (goInt (Nat.min 1 (cap+1-i))) N2:=fun ty dc=>by
  rw[hN2];exact run_copyN N1 _ _ ty 111 2 w.heap.size (i*2) (cap+1-i) dc (aD vb 0) 1 1 [l,r] Tryz.underlying84 hsz (by simp only[Nat.min_def]; split <;> simp; omega)
   (fun j v hj=>by rw[addr_add,Nat.zero_add,hvb1.cell]; simpa using hj)
   (fun j hj=>hsome1 _ (by simp at hj; omega)) (fun j hj=>hfz1 _) (fun v hv=>by simp at hv; rcases hv with rfl | rfl <;> assumption)
 obtain⟨N3,hN3⟩:∃ W,W=N2.drew.setCells w.heap.size ((i+1)*2) (xs.drop (i*2)):=⟨_,rfl⟩
 have hcpB:∀ ty dc sc,(Builtin.copy_ #[84,84] ty #[.slice (some (aD w.heap.size ((i+1)*2))) (cap-i) dc,.slice (some (aD g (i*2))) (cap-i) sc]).run Tryz.prog N2.drew=.ok (goInt (Nat.min (cap-i) (cap-i))) N3:=fun ty dc sc=>by
  rw[hN3];exact run_copyN N2.drew _ _ ty 111 2 w.heap.size ((i+1)*2) (cap-i) dc (aD g (i*2)) (cap-i) sc (xs.drop (i*2)) Tryz.underlying84 hsz (by rw[hdl]; simp only[Nat.min_def]; split <;> omega)
   (fun j v hj=>by
    rw[addr_add];have h1:=hcell (i*2+j) v (by rwa [List.getElem?_drop] at hj);exact cB hB2.drew h1)
   (fun j hj=>hsome2 _ (by omega)) (fun j hj=>hfz2 _) (fun v hv=>hx1 v (List.mem_of_mem_drop hv))
 rw[<- hN3,grow_list l r hxl (by rw[List.length_take,Array.length_toList,hRl]; omega) hi (by rw[List.take_take,Nat.min_eq_left (by omega)]; exact hRt)] at ho3;have HFIN:Hid (N3.ownsRow base 111 2 (.slice (some (aD w.heap.size 0)) (cap+1) G) (cap+1) (xs.take (i*2)++[l,r]++xs.drop (i*2))/\Below w.heap.size w N3):=⟨ho3,by rw[hN3]; exact hB2.drew.trans ((Kept.setCells (s:=fun b=>b<w.heap.size) (fun h=>Nat.lt_irrefl _ h) _ _ _).below (by exact hB2.size) (fun _ h=>h))⟩
 have hG63:G<=9223372036854775807:=by unfold maxLen at hGm; omega
 have hGi:¬ (G=i):=by omega
 have hGim:¬ (G=i+1):=by omega
 have hci:¬ (cap=i):=by omega
 have hn0:¬ ((i:Int)=(cap:Int)):=by omega
 have hw1:IntKind.i64.wrap ((i:Int)+1)=(i:Int)+1:=by rw[IntKind.wrap_i64]; omega
 have hb1:(0:Int)<=(i:Int)+1:=by omega
 have hb2:(i:Int)+1<=(cap:Int)+1:=by omega
 have htn:((i:Int)+1).toNat=i+1:=by omega
 have hb3:(i:Int)<=(cap:Int):=by omega
 have hb4:i<=cap:=by omega
 clear hown ho1 ho2 ho2' ho3 hold hROW hRl hRt hN1 hN2 hN3 hbl hB1 hB2 hsome hsome1 hsome2 hfz hfz1 hfz2 hcell hvb hvb1 hdl hxt hxl hx1 hsh hsz hi0 hz0 hz1 hz2 hG hik hkk hcm hGm;go_enter Tryz.func74,Tryz.ntmps74;go_wp2_with (first
  | (at_builtin; refine Lib.wpList_append_run _ rfl _ _ _ _ rfl _ _ rfl rfl _ _ hrz0 ?_)
  | (at_builtin; refine wpList_copy_runI _ rfl _ _ 84 83 rfl _ _ rfl rfl (hcpA _ _) ?_))
 go_region_law (refine step_copy_runI rfl _ _ 84 84 rfl _ _ (by simp[Act.eval,Act.put]) (by simp[Act.eval,Act.put]) (hcpB _ _ _) ?_);go_wp2;go_ret;exact⟨G,rfl,HFIN.out⟩
end Go.Proofs.YtlpbelhfpoilpabGreatDoor
namespace Go.Scout
open Go.RowKit
theorem del_list {xs zs:List Value} {i m:Nat} (hx:xs.length=(i+1+m)*2) :
  ((xs.take (i*2)++xs.drop ((i+1)*2)++xs.drop (i*2+(xs.drop ((i+1)*2)).length)).take ((i+m)*2)++zs++(xs.take (i*2)++xs.drop ((i+1)*2)++xs.drop (i*2+(xs.drop ((i+1)*2)).length)).drop ((i+m)*2+zs.length)).take ((i+m)*2)=xs.take (i*2)++xs.drop ((i+1)*2):=by
 have h1:(xs.take (i*2)++xs.drop ((i+1)*2)).length=(i+m)*2:=by rw[List.length_append,List.length_take,List.length_drop]; omega
 rw[List.take_left' h1,List.append_assoc (xs.take (i*2)++xs.drop ((i+1)*2)) zs,List.take_left' h1]
theorem flat_take2 (ag:List TaskD) (i:Nat):(ag.flatMap taskL).take (i*2)=(ag.take i).flatMap taskL:=by
 induction ag generalizing i with
 | nil => simp
 | cons t ag ih =>
  cases i with
  | zero => simp
  | succ i =>
   rw[List.take_succ_cons,List.flatMap_cons,List.flatMap_cons,<- ih i]
   show (taskL t++_).take _=_
   rw[show (i+1)*2=(taskL t).length+i*2 by show _=2+_; omega,List.take_length_add_append]
theorem flat_drop2 (ag:List TaskD) (i:Nat):(ag.flatMap taskL).drop (i*2)=(ag.drop i).flatMap taskL:=by
 induction ag generalizing i with
 | nil => simp
 | cons t ag ih =>
  cases i with
  | zero => simp
  | succ i =>
   rw[List.drop_succ_cons,List.flatMap_cons,<- ih i]
   show (taskL t++_).drop _=_
   rw[show (i+1)*2=(taskL t).length+i*2 by show _=2+_; omega,List.drop_length_add_append]
theorem flat_one (ag:List TaskD):∀ u∈ag.flatMap taskL,u.oneCell' = true:=by
 intro u hu;obtain⟨t,_,h⟩:=List.mem_flatMap.1 hu;unfold taskL at h;simp at h;rcases h with rfl | rfl <;> rfl
theorem flat_ins (ag:List TaskD) (i:Nat) (t:TaskD):(ag.flatMap taskL).take (i*2)++taskL t++(ag.flatMap taskL).drop (i*2)=(ag.take i++t::ag.drop i).flatMap taskL:=by
 rw[flat_take2,flat_drop2,List.flatMap_append,List.flatMap_cons,List.append_assoc]
theorem flat_del (ag:List TaskD) (i:Nat):(ag.flatMap taskL).take (i*2)++(ag.flatMap taskL).drop ((i+1)*2)=(ag.eraseIdx i).flatMap taskL:=by
 rw[flat_take2,flat_drop2,<- List.flatMap_append,List.eraseIdx_eq_take_drop_succ]
end Go.Scout
namespace Go.Proofs.YtlpbelhfpoilpabGreatDoor
open Go.RowKit Go.Scout Go.Shelf
theorem insertT_any (base i vb:Nat) (v:Value) (ag:List TaskD) (t:TaskD) (w:World) (hown:w.ownsRow base 111 2 v ag.length (ag.flatMap taskL)) (hb:base<=w.heap.size) (hl:ag.length<=1000000) (hi:i<=ag.length) (hvb:GB w vb 111 #[.int .u64 (t.1:Int),.int .u64 (t.2:Int)]) (hne:v.ownBlock≠some vb) :
  Calls Tryz.prog 74 #[v,.int .i64 (i:Int),.slice (some (aD vb 0)) 1 1] w fun e w'=>
   ∃ v',e=.returned v'/\w'.ownsRow base 111 2 v' (ag.take i++t::ag.drop i).length ((ag.take i++t::ag.drop i).flatMap taskL)/\Kept (fun b=>v.ownBlock≠some b) w w'/\(v'.ownBlock=v.ownBlock∨∃ g,v'.ownBlock=some g/\w.heap.size<=g):=by
 have hlen:(ag.take i++t::ag.drop i).length=ag.length+1:=by
  rw[List.length_append,List.length_take,List.length_cons,List.length_drop];omega
 rw[hlen,<- flat_ins];by_cases hin:i=ag.length
 ·subst hin;have hx:(ag.flatMap taskL).take (ag.length*2)++taskL t++(ag.flatMap taskL).drop (ag.length*2)=ag.flatMap taskL++[.int .u64 (t.1:Int),.int .u64 (t.2:Int)]:=by
   rw[flat_take2,flat_drop2,List.take_length,List.drop_length];simp[taskL]
  rw[hx];exact insert_end base ag.length vb v _ _ _ w hown hb hl rfl rfl hvb
 ·rcases hown.2 with⟨_,h0⟩ | ⟨g,cap,cur,rfl,-⟩
  ·omega
  by_cases hroom:ag.length+1<=cap
  ·refine (insert_shift base g ag.length cap i vb _ _ _ w hown (flat_one ag) rfl rfl (by omega) hroom hvb (fun e=>hne (by rw[e]; rfl))).mono ?_;rintro e w' ⟨rfl,h1,h2⟩;exact⟨_,rfl,h1,h2.mono (fun b _ h e=>h (by rw[e]; rfl)),.inl rfl⟩
  ·refine (insert_grow base g ag.length cap i vb _ _ _ w hown hb hl (flat_one ag) rfl rfl (by omega) (by omega) hvb).mono ?_;rintro e w' ⟨G,rfl,h1,h2⟩;exact⟨_,rfl,h1,Kept.of_below h2 (fun _ h _=>h),.inr ⟨_,rfl,Nat.le_refl _⟩⟩
theorem delete_walk (base g cap i m:Nat) (xs:List Value) (w:World) (hown:w.ownsRow base 111 2 (.slice (some (aD g 0)) (i+1+m) cap) (i+1+m) xs) (hx1:∀ u∈xs,u.oneCell' = true) (hm:i+1+m<=1000000) :
  Calls Tryz.prog 82 #[.slice (some (aD g 0)) (i+1+m) cap,.int .i64 (i:Int),.int .i64 ((i:Int)+1)] w fun e w'=>
   e=.returned (.slice (some (aD g 0)) (i+m) cap)/\w'.ownsRow base 111 2 (.slice (some (aD g 0)) (i+m) cap) (i+m) (xs.take (i*2)++xs.drop ((i+1)*2))/\Kept (fun b=>b≠g) w w':=by
 obtain⟨i0,hi0,hz0,hz1,hz2⟩:=info_parts Tryz.infoTask;obtain⟨hnc,hcm,hcell,hsome,hfz,hsh,hlt⟩:=own_cells2 hown;have hxl:=hown.1;have hcm2:cap<=9223372036854775807:=by unfold maxLen at hcm; omega
 obtain⟨news,hnews⟩:∃ news,news=xs.drop ((i+1)*2):=⟨_,rfl⟩
 have hlen:news.length=m*2:=by rw[hnews,List.length_drop,hxl]; omega
 obtain⟨A,hA,hsrc⟩:∃ A:Addr,(if cap=i+1 then some ((aD g 0):Addr) else some (aD g ((i+1)*2)))=some A/\Hid (∀ t u,news[t]? = some u->w.drew.cell? (A.add t)=some u):=by
  by_cases h:cap=i+1
  ·refine⟨(aD g 0),by simp[h],fun t u hu=>?_⟩;have h0:news=[]:=List.eq_nil_of_length_eq_zero (by rw[hlen]; omega);rw[h0] at hu;simp at hu
  ·refine⟨(aD g ((i+1)*2)),by simp[h],fun t u hu=>?_⟩;rw[hnews,List.getElem?_drop] at hu;rw[addr_add];exact hcell _ _ hu
 have s1:Hid (news.length=m*2):=hlen;have s2:Hid (∀ u∈news,u.oneCell' = true):=fun u hu=>by rw[hnews] at hu; exact hx1 u (List.mem_of_mem_drop hu)
 have s3:Hid (∀ t,t<news.length->(w.drew.cell? (aD g (0+i*2+t))).isSome=true/\w.drew.frozen? (aD g (0+i*2+t))=false):=fun t ht=>by
  rw[hlen] at ht;rw[Nat.zero_add];exact⟨hsome _ (by omega),hfz _⟩
 obtain⟨W1,hW1⟩:∃ W1,W1=w.drew.setCells g (0+i*2) news:=⟨_,rfl⟩
 have hown0:w.drew.ownsRow base 111 2 (.slice (some (aD g 0)) (i+1+m) cap) (i+1+m) xs:=hown;have ho1:=own_setCells (v:=.slice (some (aD g 0)) (i+1+m) cap) (g:=g) rfl news (0+i*2) hown0 (by rw[hlen]; omega);rw[<- hW1,Nat.zero_add] at ho1;have hk1:Kept (fun b=>b≠g) w W1:=by rw[hW1]; exact (Kept.drew1 w).trans (Kept.setCells (fun h=>h rfl) _ _ _)
 obtain⟨_,_,_,hsome1,hfz1,_,_⟩:=own_cells2 ho1;have hzv:∀ W,(zeroValue 111).run Tryz.prog W=.ok (.agg #[.int .u64 0,.int .u64 0]) W:=fun W=>by simp[zeroValue,typeInfo,hi0,hz0]
 obtain⟨zs,hzs⟩:∃ zs:List Value,zs=[.int .u64 0,.int .u64 0]:=⟨_,rfl⟩
 have hzl:zs.length=2:=by rw[hzs]; rfl
 have hcl:∀ ty c,(Builtin.clear_ #[84] ty #[.slice (some (aD g ((i+m)*2))) 1 c]).run Tryz.prog W1=.ok (.tuple #[]) (W1.setCells g ((i+m)*2) zs):=fun ty c=>
  run_clear1 W1 84 111 ty _ Tryz.underlying84 hzv zs (by rw[hzs]; kernel_rfl) (fun u hu=>by rw[hzs] at hu; simp at hu; rcases hu with rfl | rfl <;> rfl) g ((i+m)*2) c (fun j hj=>hsome1 _ (by omega)) (fun j hj=>hfz1 _)
 obtain⟨W2,hW2⟩:∃ W2,W2=W1.setCells g ((i+m)*2) zs:=⟨_,rfl⟩
 have ho2:=own_setCells (v:=.slice (some (aD g 0)) (i+1+m) cap) (g:=g) rfl zs ((i+m)*2) ho1 (by rw[hzl]; omega);rw[<- hW2] at ho2 hcl;have ho3:=own_cut ho2 (m:=i+m) (by omega);rw[hnews,del_list hxl] at ho3;have HFIN:Hid (W2.ownsRow base 111 2 (.slice (some (aD g 0)) (i+m) cap) (i+m) (xs.take (i*2)++xs.drop ((i+1)*2))/\Kept (fun b=>b≠g) w W2):=⟨ho3,hk1.trans (by rw[hW2]; exact Kept.setCells (fun h=>h rfl) _ _ _)⟩
 have HW:Hid (W1=w.drew.setCells g (0+i*2) news):=hW1;have hsb:i+1+m-(i+1)=m:=by omega
 have hsb2:i+1+m-(i+m)=1:=by omega
 have hne:¬ ((i:Int)=(i:Int)+1):=by omega
 have hic:i<=cap:=by omega
 have hjc:i+1<=cap:=by omega
 have hb1:(0:Int)<=(i:Int)+1:=by omega
 have htn:((i:Int)+1).toNat=i+1:=by omega
 have hb6:¬ (cap=i+m):=by omega
 have hb7:(i:Int)+1<=(i:Int)+1+(m:Int):=by omega
 have hb8:(i:Int)+(m:Int)<=(i:Int)+1+(m:Int):=by omega
 clear hown hown0 ho1 ho2 ho3 hk1 hW1 hW2 hsome hsome1 hfz hfz1 hcell hlen hnews hxl hx1 hzv hzs hzl hsh hlt hcm;go_enter Tryz.func82,Tryz.ntmps82;go_wp2_with fail;go_region_law (refine step_append_room rfl (.tmp 22) (.tmp 25) 84 rfl 111 i0 2 Tryz.underlying84 hi0 hz1 g 0 i cap (by simp[Act.eval,Act.put]) A m (cap-(i+1)) news (by simp[Act.eval,Act.put]) s1.out hsrc.out s2.out (by omega) s3.out ?_; rw[<- HW.out]);go_wp2;go_ret;exact⟨rfl,HFIN.out⟩
end Go.Proofs.YtlpbelhfpoilpabGreatDoor
namespace Go.Scout
open Go.RowKit
def rkN (s:Nat):Int:=((risingN s).length:Int)
end Go.Scout
namespace Go.Proofs.YtlpbelhfpoilpabGreatDoor
open Go.RowKit Go.Scout Go.Shelf
theorem isScan_any (l r:Nat) (w:World) :
  Calls Tryz.prog 77 #[.agg #[.int .u64 (l:Int),.int .u64 (r:Int)]] w fun e w'=>e=.returned (.bool (decide (r=0)))/\Below w.heap.size w w':=by
 obtain⟨w1,hw1⟩:∃ x,w.alloc (.cells #[.int .u64 (l:Int),.int .u64 (r:Int)] 111)=x:=⟨_,rfl⟩
 have HB1:Hid (Below w.heap.size w w1):=by show Below _ _ _; rw[<- hw1]; exact bQ2 _ _
 have c1:w1.cell? (aD w.heap.size 1)=some (.int .u64 (r:Int)):=by rw[<- hw1]; simp
 go_enter Tryz.func77,Tryz.ntmps77;go_wp2;go_ret;exact⟨ret_bool (by rw[Bool.eq_iff_iff,beq_iff_eq,decide_eq_true_eq]; omega),HB1.out⟩
theorem isNaNI_any (a:Int) (w:World):Calls Tryz.prog 121 #[.int .i64 a] w fun e w'=>e=.returned (.bool false)/\w' = w:=by
 have h:(a != a)=false:=by simp
 go_enter Tryz.func121,Tryz.ntmps121;go_wp2;go_ret;exact⟨ret_bool (by simp),rfl⟩
theorem isNaNU_any (a:Nat) (w:World):Calls Tryz.prog 123 #[.int .u64 (a:Int)] w fun e w'=>e=.returned (.bool false)/\w' = w:=by
 go_enter Tryz.func123,Tryz.ntmps123;go_wp2;go_ret;exact⟨ret_bool (by simp),rfl⟩
theorem compareI_any (a b:Int) (w:World):Calls Tryz.prog 98 #[.int .i64 a,.int .i64 b] w fun e w'=>e=.returned (.int .i64 (cmpI a b))/\w' = w:=by
 have h1:=isNaNI_any a w;have h2:=isNaNI_any b w;have HR:Hid (cmpI a b=if a<b then -1 else if b<a then 1 else 0):=rfl;generalize cmpI a b=R at *;go_enter Tryz.func98,Tryz.ntmps98;go_wp2_with fail;refine h1.mono ?_;rintro e w2 ⟨rfl,hw2⟩;have hw2:=hw2.symm;subst hw2;go_wp2_with fail;refine h2.mono ?_;rintro e w2 ⟨rfl,hw2⟩;have hw2:=hw2.symm;subst hw2;clear h1 h2;by_cases hlt:a<b
 ·have HV:Hid (R = -1):=by show _=_; rw[HR.out,if_pos hlt]
  have hb:decide (a<b)=true:=decide_eq_true hlt;clear HR;go_wp2;go_ret;exact⟨ret_int (by rw[HV.out]),rfl⟩
 ·by_cases hgt:b<a
  ·have HV:Hid (R=1):=by show _=_; rw[HR.out,if_neg hlt,if_pos hgt]
   have hb:decide (a<b)=false:=decide_eq_false hlt;have hb2:decide (b<a)=true:=decide_eq_true hgt;clear HR;go_wp2;go_ret;exact⟨ret_int (by rw[HV.out]),rfl⟩
  ·have HV:Hid (R=0):=by show _=_; rw[HR.out,if_neg hlt,if_neg hgt]
   have hb:decide (a<b)=false:=decide_eq_false hlt;have hb2:decide (b<a)=false:=decide_eq_false hgt;clear HR;go_wp2;go_ret;exact⟨ret_int (by rw[HV.out]),rfl⟩
theorem compareU_any (a b:Nat) (w:World):Calls Tryz.prog 100 #[.int .u64 (a:Int),.int .u64 (b:Int)] w fun e w'=>e=.returned (.int .i64 (cmpI (a:Int) (b:Int)))/\w' = w:=by
 have h1:=isNaNU_any a w;have h2:=isNaNU_any b w;have HR:Hid (cmpI (a:Int) (b:Int)=if a<b then -1 else if b<a then 1 else 0):=by
  show _=_
  unfold cmpI;simp only[Int.ofNat_lt]
 generalize cmpI (a:Int) (b:Int)=R at *;go_enter Tryz.func100,Tryz.ntmps100;go_wp2_with fail;refine h1.mono ?_;rintro e w2 ⟨rfl,hw2⟩;have hw2:=hw2.symm;subst hw2;go_wp2_with fail;refine h2.mono ?_;rintro e w2 ⟨rfl,hw2⟩;have hw2:=hw2.symm;subst hw2;clear h1 h2;by_cases hlt:a<b
 ·have HV:Hid (R = -1):=by show _=_; rw[HR.out,if_pos hlt]
  have hb:decide (a<b)=true:=decide_eq_true hlt;clear HR;go_wp2;go_ret;exact⟨ret_int (by rw[HV.out]),rfl⟩
 ·by_cases hgt:b<a
  ·have HV:Hid (R=1):=by show _=_; rw[HR.out,if_neg hlt,if_pos hgt]
   have hb:decide (a<b)=false:=decide_eq_false hlt;have hb2:decide (b<a)=true:=decide_eq_true hgt;clear HR;go_wp2;go_ret;exact⟨ret_int (by rw[HV.out]),rfl⟩
  ·have HV:Hid (R=0):=by show _=_; rw[HR.out,if_neg hlt,if_neg hgt]
   have hb:decide (a<b)=false:=decide_eq_false hlt;have hb2:decide (b<a)=false:=decide_eq_false hgt;clear HR;go_wp2;go_ret;exact⟨ret_int (by rw[HV.out]),rfl⟩
theorem one_0 (w:World):Calls Tryz.prog 150 #[.int .u64 ((0:Nat):Int)] w fun e w'=>e=.returned (.int .i64 (rkN 0))/\w' = w:=by
 have HR:Hid (rkN 0=0):=by show _=_; decide
 generalize rkN 0=R at *;go_enter Tryz.func150,Tryz.ntmps150;go_wp2;go_ret;exact⟨ret_int (by rw[HR.out]; kernel_rfl),rfl⟩
theorem one_1 (w:World):Calls Tryz.prog 150 #[.int .u64 ((1:Nat):Int)] w fun e w'=>e=.returned (.int .i64 (rkN 1))/\w' = w:=by
 have HR:Hid (rkN 1=1):=by show _=_; decide
 generalize rkN 1=R at *;go_enter Tryz.func150,Tryz.ntmps150;go_wp2;go_ret;exact⟨ret_int (by rw[HR.out]; kernel_rfl),rfl⟩
theorem one_2 (w:World):Calls Tryz.prog 150 #[.int .u64 ((2:Nat):Int)] w fun e w'=>e=.returned (.int .i64 (rkN 2))/\w' = w:=by
 have HR:Hid (rkN 2=1):=by show _=_; decide
 generalize rkN 2=R at *;go_enter Tryz.func150,Tryz.ntmps150;go_wp2;go_ret;exact⟨ret_int (by rw[HR.out]; kernel_rfl),rfl⟩
theorem one_3 (w:World):Calls Tryz.prog 150 #[.int .u64 ((3:Nat):Int)] w fun e w'=>e=.returned (.int .i64 (rkN 3))/\w' = w:=by
 have HR:Hid (rkN 3=2):=by show _=_; decide
 generalize rkN 3=R at *;go_enter Tryz.func150,Tryz.ntmps150;go_wp2;go_ret;exact⟨ret_int (by rw[HR.out]; kernel_rfl),rfl⟩
theorem one_4 (w:World):Calls Tryz.prog 150 #[.int .u64 ((4:Nat):Int)] w fun e w'=>e=.returned (.int .i64 (rkN 4))/\w' = w:=by
 have HR:Hid (rkN 4=1):=by show _=_; decide
 generalize rkN 4=R at *;go_enter Tryz.func150,Tryz.ntmps150;go_wp2;go_ret;exact⟨ret_int (by rw[HR.out]; kernel_rfl),rfl⟩
theorem one_5 (w:World):Calls Tryz.prog 150 #[.int .u64 ((5:Nat):Int)] w fun e w'=>e=.returned (.int .i64 (rkN 5))/\w' = w:=by
 have HR:Hid (rkN 5=2):=by show _=_; decide
 generalize rkN 5=R at *;go_enter Tryz.func150,Tryz.ntmps150;go_wp2;go_ret;exact⟨ret_int (by rw[HR.out]; kernel_rfl),rfl⟩
theorem one_6 (w:World):Calls Tryz.prog 150 #[.int .u64 ((6:Nat):Int)] w fun e w'=>e=.returned (.int .i64 (rkN 6))/\w' = w:=by
 have HR:Hid (rkN 6=2):=by show _=_; decide
 generalize rkN 6=R at *;go_enter Tryz.func150,Tryz.ntmps150;go_wp2;go_ret;exact⟨ret_int (by rw[HR.out]; kernel_rfl),rfl⟩
theorem one_7 (w:World):Calls Tryz.prog 150 #[.int .u64 ((7:Nat):Int)] w fun e w'=>e=.returned (.int .i64 (rkN 7))/\w' = w:=by
 have HR:Hid (rkN 7=3):=by show _=_; decide
 generalize rkN 7=R at *;go_enter Tryz.func150,Tryz.ntmps150;go_wp2;go_ret;exact⟨ret_int (by rw[HR.out]; kernel_rfl),rfl⟩
theorem one_8 (w:World):Calls Tryz.prog 150 #[.int .u64 ((8:Nat):Int)] w fun e w'=>e=.returned (.int .i64 (rkN 8))/\w' = w:=by
 have HR:Hid (rkN 8=1):=by show _=_; decide
 generalize rkN 8=R at *;go_enter Tryz.func150,Tryz.ntmps150;go_wp2;go_ret;exact⟨ret_int (by rw[HR.out]; kernel_rfl),rfl⟩
theorem one_9 (w:World):Calls Tryz.prog 150 #[.int .u64 ((9:Nat):Int)] w fun e w'=>e=.returned (.int .i64 (rkN 9))/\w' = w:=by
 have HR:Hid (rkN 9=2):=by show _=_; decide
 generalize rkN 9=R at *;go_enter Tryz.func150,Tryz.ntmps150;go_wp2;go_ret;exact⟨ret_int (by rw[HR.out]; kernel_rfl),rfl⟩
theorem one_10 (w:World):Calls Tryz.prog 150 #[.int .u64 ((10:Nat):Int)] w fun e w'=>e=.returned (.int .i64 (rkN 10))/\w' = w:=by
 have HR:Hid (rkN 10=2):=by show _=_; decide
 generalize rkN 10=R at *;go_enter Tryz.func150,Tryz.ntmps150;go_wp2;go_ret;exact⟨ret_int (by rw[HR.out]; kernel_rfl),rfl⟩
theorem one_11 (w:World):Calls Tryz.prog 150 #[.int .u64 ((11:Nat):Int)] w fun e w'=>e=.returned (.int .i64 (rkN 11))/\w' = w:=by
 have HR:Hid (rkN 11=3):=by show _=_; decide
 generalize rkN 11=R at *;go_enter Tryz.func150,Tryz.ntmps150;go_wp2;go_ret;exact⟨ret_int (by rw[HR.out]; kernel_rfl),rfl⟩
theorem one_12 (w:World):Calls Tryz.prog 150 #[.int .u64 ((12:Nat):Int)] w fun e w'=>e=.returned (.int .i64 (rkN 12))/\w' = w:=by
 have HR:Hid (rkN 12=2):=by show _=_; decide
 generalize rkN 12=R at *;go_enter Tryz.func150,Tryz.ntmps150;go_wp2;go_ret;exact⟨ret_int (by rw[HR.out]; kernel_rfl),rfl⟩
theorem one_13 (w:World):Calls Tryz.prog 150 #[.int .u64 ((13:Nat):Int)] w fun e w'=>e=.returned (.int .i64 (rkN 13))/\w' = w:=by
 have HR:Hid (rkN 13=3):=by show _=_; decide
 generalize rkN 13=R at *;go_enter Tryz.func150,Tryz.ntmps150;go_wp2;go_ret;exact⟨ret_int (by rw[HR.out]; kernel_rfl),rfl⟩
theorem one_14 (w:World):Calls Tryz.prog 150 #[.int .u64 ((14:Nat):Int)] w fun e w'=>e=.returned (.int .i64 (rkN 14))/\w' = w:=by
 have HR:Hid (rkN 14=3):=by show _=_; decide
 generalize rkN 14=R at *;go_enter Tryz.func150,Tryz.ntmps150;go_wp2;go_ret;exact⟨ret_int (by rw[HR.out]; kernel_rfl),rfl⟩
theorem one_15 (w:World):Calls Tryz.prog 150 #[.int .u64 ((15:Nat):Int)] w fun e w'=>e=.returned (.int .i64 (rkN 15))/\w' = w:=by
 have HR:Hid (rkN 15=4):=by show _=_; decide
 generalize rkN 15=R at *;go_enter Tryz.func150,Tryz.ntmps150;go_wp2;go_ret;exact⟨ret_int (by rw[HR.out]; kernel_rfl),rfl⟩
theorem one_16 (w:World):Calls Tryz.prog 150 #[.int .u64 ((16:Nat):Int)] w fun e w'=>e=.returned (.int .i64 (rkN 16))/\w' = w:=by
 have HR:Hid (rkN 16=1):=by show _=_; decide
 generalize rkN 16=R at *;go_enter Tryz.func150,Tryz.ntmps150;go_wp2;go_ret;exact⟨ret_int (by rw[HR.out]; kernel_rfl),rfl⟩
theorem one_17 (w:World):Calls Tryz.prog 150 #[.int .u64 ((17:Nat):Int)] w fun e w'=>e=.returned (.int .i64 (rkN 17))/\w' = w:=by
 have HR:Hid (rkN 17=2):=by show _=_; decide
 generalize rkN 17=R at *;go_enter Tryz.func150,Tryz.ntmps150;go_wp2;go_ret;exact⟨ret_int (by rw[HR.out]; kernel_rfl),rfl⟩
theorem one_18 (w:World):Calls Tryz.prog 150 #[.int .u64 ((18:Nat):Int)] w fun e w'=>e=.returned (.int .i64 (rkN 18))/\w' = w:=by
 have HR:Hid (rkN 18=2):=by show _=_; decide
 generalize rkN 18=R at *;go_enter Tryz.func150,Tryz.ntmps150;go_wp2;go_ret;exact⟨ret_int (by rw[HR.out]; kernel_rfl),rfl⟩
theorem one_19 (w:World):Calls Tryz.prog 150 #[.int .u64 ((19:Nat):Int)] w fun e w'=>e=.returned (.int .i64 (rkN 19))/\w' = w:=by
 have HR:Hid (rkN 19=3):=by show _=_; decide
 generalize rkN 19=R at *;go_enter Tryz.func150,Tryz.ntmps150;go_wp2;go_ret;exact⟨ret_int (by rw[HR.out]; kernel_rfl),rfl⟩
theorem one_20 (w:World):Calls Tryz.prog 150 #[.int .u64 ((20:Nat):Int)] w fun e w'=>e=.returned (.int .i64 (rkN 20))/\w' = w:=by
 have HR:Hid (rkN 20=2):=by show _=_; decide
 generalize rkN 20=R at *;go_enter Tryz.func150,Tryz.ntmps150;go_wp2;go_ret;exact⟨ret_int (by rw[HR.out]; kernel_rfl),rfl⟩
theorem one_21 (w:World):Calls Tryz.prog 150 #[.int .u64 ((21:Nat):Int)] w fun e w'=>e=.returned (.int .i64 (rkN 21))/\w' = w:=by
 have HR:Hid (rkN 21=3):=by show _=_; decide
 generalize rkN 21=R at *;go_enter Tryz.func150,Tryz.ntmps150;go_wp2;go_ret;exact⟨ret_int (by rw[HR.out]; kernel_rfl),rfl⟩
theorem one_22 (w:World):Calls Tryz.prog 150 #[.int .u64 ((22:Nat):Int)] w fun e w'=>e=.returned (.int .i64 (rkN 22))/\w' = w:=by
 have HR:Hid (rkN 22=3):=by show _=_; decide
 generalize rkN 22=R at *;go_enter Tryz.func150,Tryz.ntmps150;go_wp2;go_ret;exact⟨ret_int (by rw[HR.out]; kernel_rfl),rfl⟩
theorem one_23 (w:World):Calls Tryz.prog 150 #[.int .u64 ((23:Nat):Int)] w fun e w'=>e=.returned (.int .i64 (rkN 23))/\w' = w:=by
 have HR:Hid (rkN 23=4):=by show _=_; decide
 generalize rkN 23=R at *;go_enter Tryz.func150,Tryz.ntmps150;go_wp2;go_ret;exact⟨ret_int (by rw[HR.out]; kernel_rfl),rfl⟩
theorem one_24 (w:World):Calls Tryz.prog 150 #[.int .u64 ((24:Nat):Int)] w fun e w'=>e=.returned (.int .i64 (rkN 24))/\w' = w:=by
 have HR:Hid (rkN 24=2):=by show _=_; decide
 generalize rkN 24=R at *;go_enter Tryz.func150,Tryz.ntmps150;go_wp2;go_ret;exact⟨ret_int (by rw[HR.out]; kernel_rfl),rfl⟩
theorem one_25 (w:World):Calls Tryz.prog 150 #[.int .u64 ((25:Nat):Int)] w fun e w'=>e=.returned (.int .i64 (rkN 25))/\w' = w:=by
 have HR:Hid (rkN 25=3):=by show _=_; decide
 generalize rkN 25=R at *;go_enter Tryz.func150,Tryz.ntmps150;go_wp2;go_ret;exact⟨ret_int (by rw[HR.out]; kernel_rfl),rfl⟩
theorem one_26 (w:World):Calls Tryz.prog 150 #[.int .u64 ((26:Nat):Int)] w fun e w'=>e=.returned (.int .i64 (rkN 26))/\w' = w:=by
 have HR:Hid (rkN 26=3):=by show _=_; decide
 generalize rkN 26=R at *;go_enter Tryz.func150,Tryz.ntmps150;go_wp2;go_ret;exact⟨ret_int (by rw[HR.out]; kernel_rfl),rfl⟩
theorem one_27 (w:World):Calls Tryz.prog 150 #[.int .u64 ((27:Nat):Int)] w fun e w'=>e=.returned (.int .i64 (rkN 27))/\w' = w:=by
 have HR:Hid (rkN 27=4):=by show _=_; decide
 generalize rkN 27=R at *;go_enter Tryz.func150,Tryz.ntmps150;go_wp2;go_ret;exact⟨ret_int (by rw[HR.out]; kernel_rfl),rfl⟩
theorem one_28 (w:World):Calls Tryz.prog 150 #[.int .u64 ((28:Nat):Int)] w fun e w'=>e=.returned (.int .i64 (rkN 28))/\w' = w:=by
 have HR:Hid (rkN 28=3):=by show _=_; decide
 generalize rkN 28=R at *;go_enter Tryz.func150,Tryz.ntmps150;go_wp2;go_ret;exact⟨ret_int (by rw[HR.out]; kernel_rfl),rfl⟩
theorem one_29 (w:World):Calls Tryz.prog 150 #[.int .u64 ((29:Nat):Int)] w fun e w'=>e=.returned (.int .i64 (rkN 29))/\w' = w:=by
 have HR:Hid (rkN 29=4):=by show _=_; decide
 generalize rkN 29=R at *;go_enter Tryz.func150,Tryz.ntmps150;go_wp2;go_ret;exact⟨ret_int (by rw[HR.out]; kernel_rfl),rfl⟩
theorem one_30 (w:World):Calls Tryz.prog 150 #[.int .u64 ((30:Nat):Int)] w fun e w'=>e=.returned (.int .i64 (rkN 30))/\w' = w:=by
 have HR:Hid (rkN 30=4):=by show _=_; decide
 generalize rkN 30=R at *;go_enter Tryz.func150,Tryz.ntmps150;go_wp2;go_ret;exact⟨ret_int (by rw[HR.out]; kernel_rfl),rfl⟩
theorem one_31 (w:World):Calls Tryz.prog 150 #[.int .u64 ((31:Nat):Int)] w fun e w'=>e=.returned (.int .i64 (rkN 31))/\w' = w:=by
 have HR:Hid (rkN 31=5):=by show _=_; decide
 generalize rkN 31=R at *;go_enter Tryz.func150,Tryz.ntmps150;go_wp2;go_ret;exact⟨ret_int (by rw[HR.out]; kernel_rfl),rfl⟩
theorem onesCount64_any (s:Nat) (hs:s<32) (w:World):Calls Tryz.prog 150 #[.int .u64 (s:Int)] w fun e w'=>e=.returned (.int .i64 (rkN s))/\w' = w:=by
 have h:s=0∨s=1∨s=2∨s=3∨s=4∨s=5∨s=6∨s=7∨s=8∨s=9∨s=10∨s=11∨s=12∨s=13∨s=14∨s=15∨s=16∨s=17∨s=18∨s=19∨s=20∨s=21∨s=22∨s=23∨s=24∨s=25∨s=26∨s=27∨s=28∨s=29∨s=30∨s=31:=by omega
 rcases h with rfl | rfl | rfl | rfl | rfl | rfl | rfl | rfl | rfl | rfl | rfl | rfl | rfl | rfl | rfl | rfl | rfl | rfl | rfl | rfl | rfl | rfl | rfl | rfl | rfl | rfl | rfl | rfl | rfl | rfl | rfl | rfl
 ·exact one_0 w
 ·exact one_1 w
 ·exact one_2 w
 ·exact one_3 w
 ·exact one_4 w
 ·exact one_5 w
 ·exact one_6 w
 ·exact one_7 w
 ·exact one_8 w
 ·exact one_9 w
 ·exact one_10 w
 ·exact one_11 w
 ·exact one_12 w
 ·exact one_13 w
 ·exact one_14 w
 ·exact one_15 w
 ·exact one_16 w
 ·exact one_17 w
 ·exact one_18 w
 ·exact one_19 w
 ·exact one_20 w
 ·exact one_21 w
 ·exact one_22 w
 ·exact one_23 w
 ·exact one_24 w
 ·exact one_25 w
 ·exact one_26 w
 ·exact one_27 w
 ·exact one_28 w
 ·exact one_29 w
 ·exact one_30 w
 ·exact one_31 w
theorem count_any (s:Nat) (hs:s<32) (w:World):Calls Tryz.prog 122 #[.int .u64 (s:Int)] w fun e w'=>e=.returned (.int .i64 (rkN s))/\w' = w:=by
 have h64:=onesCount64_any s hs w;generalize rkN s=R at *;have hO:Calls Tryz.prog 142 #[.int .u64 (s:Int)] w fun e w'=>e=.returned (.int .i64 R)/\w' = w:=by
  go_enter Tryz.func142,Tryz.ntmps142;go_wp2_with fail;refine h64.mono ?_;rintro e w2 ⟨rfl,rfl⟩;clear h64;go_wp2;go_ret;exact⟨rfl,rfl⟩
 clear h64;go_enter Tryz.func122,Tryz.ntmps122;go_wp2_with fail;refine hO.mono ?_;rintro e w2 ⟨rfl,rfl⟩;clear hO;go_wp2;go_ret;exact⟨rfl,rfl⟩
theorem or3_any (b:Nat) (x y z:Int) (w:World) (h0:w.cell? (aD b 0)=some (.int .i64 x)) (h1:w.cell? (aD b 1)=some (.int .i64 y)) (h2:w.cell? (aD b 2)=some (.int .i64 z)) :
  Calls Tryz.prog 97 #[.slice (some (aD b 0)) 3 3] w fun e w'=>e=.returned (.int .i64 (if x≠0 then x else if y≠0 then y else z))/\w' = w:=by
 obtain⟨R,hR⟩:∃ R,R=if x≠0 then x else if y≠0 then y else z:=⟨_,rfl⟩
 rw[<- hR];have HR:Hid _:=hR;clear hR;obtain⟨L,hL⟩:∃ L:List Int,L=[x,y,z]:=⟨_,rfl⟩
 have HC:Hid (∀ k,k<3->w.cell? (aD b k)=some (.int .i64 (L.getD k 0))):=fun k hk=>by
  rw[hL]
  match k,hk with
  | 0,_ => exact h0
  | 1,_ => exact h1
  | 2,_ => exact h2
 have HV:Hid (∀ k,k<3->(∀ j,j<k->L.getD j 0=0)->L.getD k 0≠0->L.getD k 0=R):=fun k hk hj hn=>by
  rw[HR.out];rw[hL] at hj hn ⊢
  match k,hk with
  | 0,_ =>
   have hn:x≠0:=hn
   show x=_
   rw[if_pos hn]
  | 1,_ =>
   have e0:x=0:=hj 0 (by omega);have hn:y≠0:=hn
   show y=_
   rw[if_neg (not_not_intro e0),if_pos hn]
  | 2,_ =>
   have e0:x=0:=hj 0 (by omega);have e1:y=0:=hj 1 (by omega)
   show z=_
   rw[if_neg (not_not_intro e0),if_neg (not_not_intro e1)]
 have HZ:Hid ((∀ j,j<3->L.getD j 0=0)->R=0):=fun hj=>by
  rw[hL] at hj;have e0:x=0:=hj 0 (by omega);have e1:y=0:=hj 1 (by omega);have e2:z=0:=hj 2 (by omega);rw[HR.out,e0,e1,e2];simp
 clear h0 h1 h2 hL HR;go_enter Tryz.func97,Tryz.ntmps97;go_wp2;go_loop [8] (fun i=>∃ k:Nat,k<=3/\i=.int .i64 (k:Int)/\Hid (∀ j,j<k->L.getD j 0=0)) (fun i=>3-(intOf i).toNat)
 case atStart=>exact⟨0,by omega,rfl,fun j hj=>by omega⟩
 case round=>
  obtain⟨k,hk,rfl,HJ⟩:=hrel;by_cases hlt:k<3
  ·have hc:=HC.out k hlt;have HVk:Hid _:=HV.out k hlt HJ.out;obtain⟨v,hv⟩:∃ v,v=L.getD k 0:=⟨_,rfl⟩
   rw[<- hv] at hc HVk;have HVV:Hid _:=hv;clear hv;by_cases hv0:v=0
   ·have HV0:Hid _:=hv0;have hb:(v != 0)=false:=by simp[hv0]
    clear hv0;go_wp2;go_round
    case rel=>exact⟨k+1,by omega,by go_num,fun j hj=>by
     rcases Nat.lt_or_eq_of_le (Nat.le_of_lt_succ hj) with h | h
     ·exact HJ.out j h
     ·rw[h,<- HVV.out]; exact HV0.out⟩
    case measure=>simp[intOf]; omega
   ·have HVR:Hid (v=R):=HVk.out hv0;have hb:(v != 0)=true:=by simp[hv0]
    clear HVk;go_wp2;go_ret;exact⟨ret_int HVR.out,rfl⟩
  ·have hk3:k=3:=by omega
   have HF:Hid (R=0):=HZ.out (by rw[<- hk3]; exact HJ.out);clear hk3;go_wp2;go_ret;exact⟨ret_int HF.out.symm,rfl⟩
end Go.Proofs.YtlpbelhfpoilpabGreatDoor
