import Derived.Laws.AppendOwnNone
import Derived.Test.YtlpbelhfpoilpabGreatDoorC01
import Derived.Test.YtlpbelhfpoilpabGreatDoorC12
import Derived.Test.YtlpbelhfpoilpabGreatDoorC15
import Derived.Test.YtlpbelhfpoilpabGreatDoorC40
set_option linter.all false
set_option maxRecDepth 100000
set_option maxHeartbeats 16000000
namespace Go.Scout
open Go.RowKit
theorem layL_pure (ls:List (List NodeV)):(layL ls).map pureN=layL (ls.map fun l=>l.map pureN):=by
 unfold layL
 suffices h:∀ (ls:List (List NodeV)) (acc:List NodeV),(ls.foldl (fun acc l=>acc++l.map (moveN acc.length)) acc).map pureN=(ls.map fun l=>l.map pureN).foldl (fun acc l=>acc++l.map (moveN acc.length)) (acc.map pureN) from h ls []
 intro ls
 induction ls with
 | nil => intro acc; rfl
 | cons l ls ih =>
  intro acc;rw[List.foldl_cons,ih,List.map_cons,List.foldl_cons,List.map_append,List.map_map,List.map_map,List.length_map];rfl
theorem layL_succ (ls:List (List NodeV)) {i:Nat} (hi:i<ls.length):layL (ls.take (i+1))=layL (ls.take i)++(ls.getD i []).map (moveN (layL (ls.take i)).length):=by
 rw[take_snocR ls [] hi,layL_snoc]
theorem layL_mem {ls:List (List NodeV)}:∀ m∈layL ls,∃ l∈ls,∃ x∈l,m.cl=x.cl/\m.co=x.co:=by
 suffices h:∀ (ls:List (List NodeV)) (acc:List NodeV),∀ m∈ls.foldl (fun acc l=>acc++l.map (moveN acc.length)) acc,m∈acc∨∃ l∈ls,∃ x∈l,m.cl=x.cl/\m.co=x.co by
  intro m hm;rcases h ls [] m hm with h | h
  ·cases h
  ·exact h
 intro ls
 induction ls with
 | nil => intro acc m h; exact .inl h
 | cons l ls ih =>
  intro acc m h;rcases ih _ m h with h | ⟨l',h1,h2⟩
  ·rcases List.mem_append.1 h with h | h
   ·exact .inl h
   ·obtain⟨x,hx,rfl⟩:=List.mem_map.1 h;exact .inr ⟨l,List.mem_cons_self,x,hx,rfl,rfl⟩
  ·exact .inr ⟨l',List.mem_cons_of_mem _ h1,h2⟩
theorem layL_take_len (ls:List (List NodeV)) (h2:ls.length<=2) (i:Nat):(layL (ls.take i)).length<=(layL ls).length:=by
 rw[layL_len _ (by rw[List.length_take]; omega),layL_len _ h2]
 match ls,h2,i with
 | [],_,_ => simp
 | [a],_,0 => simp
 | [a],_,i+1 => simp
 | [a,b],_,0 => simp
 | [a,b],_,1 => simp
 | [a,b],_,i+2 => simp
 | _::_::_::_,h,_ => simp at h
theorem own_base {w:World} {base base':Nat} {e:TypeId} {sz:Nat} {v:Value} {n:Nat} {xs:List Value} (h:w.ownsRow base e sz v n xs) (hb:base'<=base):w.ownsRow base' e sz v n xs:=
 ⟨h.1,h.2.imp id fun ⟨g,cap,cur,e,h1,h2⟩=>⟨g,cap,cur,e,Nat.le_trans hb h1,h2⟩⟩
def SlicesAt (w:World) (ao:Option Addr) (vs:List Value):Prop:=CellsAt w ao vs.length (fun i=>vs.getD i (.slice none 0 0))
end Go.Scout
namespace Go.Proofs.YtlpbelhfpoilpabGreatDoor
open Go.RowKit Go.Scout Go.Shelf
theorem push_nodes (W:World) (base base2:Nat) (v v2:Value) (acc ms:List NodeV) (hown:W.ownsRow base 61 7 v acc.length (acc.flatMap NodeV.list)) (h2:W.ownsRow base2 61 7 v2 ms.length (ms.flatMap NodeV.list)) (hl:acc.length+ms.length<=1000) (hb:base<=W.heap.size) (ty:TypeId) :
  ∃ v' w',(Builtin.append_ #[36,36] ty #[v,v2]).run Tryz.prog W=.ok v' w'/\
   w'.ownsRow base 61 7 v' (acc++ms).length ((acc++ms).flatMap NodeV.list)/\Kept (fun b=>v.ownBlock≠some b) W w'/\(∃ a m c,v' = .slice a m c):=by
 obtain⟨i0,hi,hz0,hz1,hz2⟩:=info_parts Tryz.infoNode;rcases own_newsN h2 with⟨rfl,h1⟩ | ⟨g,cap,rfl,_,hlt,hc⟩
 ·have h0:ms=[]:=List.length_eq_zero_iff.1 h1;subst h0;refine⟨v,W,run_append_owned_none (P:=Tryz.prog) (w:=W) base 36 ty 61 i0 7 Tryz.underlying36 hi v acc.length _ hown,by rw[List.append_nil]; exact hown,Kept.refl _ _,ownsRow_slice hown⟩
 ·obtain⟨v',w',hr,ho,hg,_,_⟩:=run_append_own_at (P:=Tryz.prog) W base 36 ty 61 i0 _ 7 88 Tryz.underlying36 hi hz0 hz1 hz2 rfl (by decide) v acc.length _ hown (aD g 0) ms.length cap (ms.flatMap NodeV.list) (flat_len NodeV.list 7 (fun _=>rfl) ms)
   (fun j u hj=>by rw[addr_add,Nat.zero_add]; exact hc j u hj) nodes_one (by unfold maxLen; omega) (by omega) hb
  exact⟨v',w',hr,by rw[List.length_append,List.flatMap_append]; exact ho,Kept.grown hg (fun r e hr=>hr e),ownsRow_slice ho⟩
theorem push_node (W:World) (base:Nat) (v:Value) (acc:List NodeV) (hown:W.ownsRow base 61 7 v acc.length (acc.flatMap NodeV.list)) (hl:acc.length<=1000) (hb:base<=W.heap.size) (n:NodeV) (ty:TypeId) :
  ∃ v' w',(Builtin.append_ #[36,36] ty #[v,.slice (some (aD W.heap.size 0)) 1 1]).run Tryz.prog (W.alloc (.cells n.cells 61))=.ok v' w'/\
   w'.ownsRow base 61 7 v' (acc++[n]).length ((acc++[n]).flatMap NodeV.list)/\Kept (fun b=>v.ownBlock≠some b) W w'/\(∃ a m c,v' = .slice a m c):=by
 obtain⟨i0,hi,hz0,hz1,hz2⟩:=info_parts Tryz.infoNode;obtain⟨v',w',hr,ho,hk,hs,hat⟩:=push_own (P:=Tryz.prog) W base 36 ty 61 i0 _ 7 88 Tryz.underlying36 hi hz0 hz1 hz2 rfl (by decide) v acc.length _ hown hb n.list rfl (fun u hu=>by
  unfold NodeV.list IntsV.val at hu;simp at hu;rcases hu with rfl | rfl | rfl | rfl | rfl | rfl | rfl <;> rfl) hl (by decide)
 exact⟨v',w',hr,by rw[List.length_append,List.flatMap_append]; simpa using ho,hk,hs⟩
theorem laid_any {F:Nat->Prop} {w:World} (hF:∀ b,w.heap.size<=b->F b) (hs:ShapesAt w 0) (n:NodeV) (hcl:n.cl.At w) (hcn:n.cl.ad=none->n.cl.cap=0) (hco:n.co.At w) (hdn:n.co.ad=none->n.co.cap=0) (hll:n.cl.xs.length<=1000/\n.co.xs.length<=1000)
  (io:Option Addr) (ic:Nat) (ls:List (Value × List NodeV)) (hio:SlicesAt w io (ls.map Prod.fst)) (hls:∀ x∈ls,(∃ base,NodesK 61 F base w x.1 x.2)/\∀ m∈x.2,1<=m.kind/\m.kind<=10) (h2:ls.length<=2) (hlen:(layL (ls.map Prod.snd)).length<=900) :
  Calls Tryz.prog 52 #[.agg n.cells,.slice io ls.length ic] w (NodesPost 61 F w (layN n (ls.map fun x=>x.2.map pureN))):=by
 obtain⟨LS,hLS⟩:∃ LS,LS=ls.map Prod.snd:=⟨_,rfl⟩
 have hLl:LS.length=ls.length:=by rw[hLS,List.length_map]
 obtain⟨AC,hAC⟩:∃ AC:Nat->List NodeV,AC=fun i=>layL (LS.take i):=⟨_,rfl⟩
 have HA0:Hid (AC 0=[]):=by rw[hAC]; rfl
 have HAS:Hid (∀ i,i<ls.length->AC (i+1)=AC i++(LS.getD i []).map (moveN (AC i).length)):=fun i hi=>by rw[hAC]; exact layL_succ LS (by omega)
 have HAL:Hid (∀ i,(AC i).length<=900):=fun i=>by rw[hAC]; exact Nat.le_trans (layL_take_len LS (by omega) i) (by rw[hLS]; exact hlen)
 have HEL:Hid (∀ i,i<ls.length->∃ base,(w.ownsRow base 61 7 ((ls.map Prod.fst).getD i (.slice none 0 0)) (LS.getD i []).length ((LS.getD i []).flatMap NodeV.list))/\∀ m∈LS.getD i [],1<=m.kind/\m.kind<=10):=fun i hi=>by
  have e1:(ls.map Prod.fst).getD i (.slice none 0 0)=(ls[i]).1:=by rw[List.getD_eq_getElem?_getD,List.getElem?_map,List.getElem?_eq_getElem hi]; rfl
  have e2:LS.getD i []=(ls[i]).2:=by rw[hLS,List.getD_eq_getElem?_getD,List.getElem?_map,List.getElem?_eq_getElem hi]; rfl
  obtain⟨⟨base,hK⟩,hk⟩:=hls _ (List.getElem_mem hi);rw[e1,e2];exact⟨base,hK.own,hk⟩
 have HFIN:Hid (∀ (x:World) (v:Value) (y z:IntsV),Below w.heap.size w x->x.ownsRow w.heap.size 61 7 v (AC ls.length++[(⟨n.kind,endN LS 0,endN LS 1,n.source,y,n.key,z⟩:NodeV)]).length ((AC ls.length++[(⟨n.kind,endN LS 0,endN LS 1,n.source,y,n.key,z⟩:NodeV)]).flatMap NodeV.list)->y.xs=n.cl.xs->z.xs=n.co.xs->IntsIn F x y->IntsIn F x z->
   NodesPost 61 F w (layN n (ls.map fun x=>x.2.map pureN)) (.returned v) x):=by
  intro x v y z hbx hv hy hz hiy hiz;have hAA:AC ls.length=layL LS:=by rw[hAC]; simp only; rw[List.take_of_length_le (by omega)]
  refine⟨v,_,rfl,?_,⟨hv,fun g hg=>hF g (ownsRow_lt hv hg).1,fun m hm=>?_⟩,hbx⟩
  ·rw[List.map_append,hAA,layL_pure];unfold layN;have e1:(LS.map fun l=>l.map pureN)=ls.map fun x=>x.2.map pureN:=by rw[hLS,List.map_map]; rfl
   have e2:∀ i,endN LS i=endN (ls.map fun x=>x.2.map pureN) i:=fun i=>by
    unfold endN;rw[<- e1,List.length_map,<- List.map_take,<- layL_pure,List.length_map]
   rw[e1];congr 1;rw[List.map_singleton]
   show [(⟨n.kind,endN LS 0,endN LS 1,n.source,⟨none,0,y.xs⟩,n.key,⟨none,0,z.xs⟩⟩:NodeV)]=_
   rw[hy,hz,e2,e2]
  ·rcases List.mem_append.1 hm with hm | hm
   ·rw[hAA] at hm;obtain⟨l,hl,u,hu,e1,e2⟩:=layL_mem m hm;rw[hLS] at hl;obtain⟨x0,hx0,rfl⟩:=List.mem_map.1 hl;obtain⟨⟨base,hK⟩,_⟩:=hls x0 hx0;obtain⟨h1,h2,h3,h4⟩:=(hK.below hbx).lists u hu;rw[e1,e2];exact⟨h1,h2,h3,h4⟩
   ·rw[List.mem_singleton] at hm;rw[hm];exact⟨hiy.at',hiy.inf,hiz.at',hiz.inf⟩
 have HEN:Hid (∀ j,j<2->endN LS j=if j<ls.length then ((AC (j+1)).length:Int)-1 else 0):=fun j _=>by unfold endN; rw[hAC,hLl]
 have HIO:Hid (SlicesAt w io (ls.map Prod.fst)):=hio;have HSH:Hid (ShapesAt w 0):=hs;have HFL:Hid ((ls.map Prod.fst).length=ls.length):=List.length_map _;have HC1:Hid (∀ x,Below w.heap.size w x->Calls Tryz.prog 38 #[n.cl.val] x fun e w'=>∃ v,e=.returned v/\w'.ownsRow x.heap.size 3 1 v n.cl.xs.length (n.cl.xs.map (Value.int .i64))/\Below x.heap.size x w'):=fun x hx=>cloneInts_any n.cl x (IntsAt.below hx hcl) hcn (by omega)
 have HC2:Hid (∀ x,Below w.heap.size w x->Calls Tryz.prog 38 #[n.co.val] x fun e w'=>∃ v,e=.returned v/\w'.ownsRow x.heap.size 3 1 v n.co.xs.length (n.co.xs.map (Value.int .i64))/\Below x.heap.size x w'):=fun x hx=>cloneInts_any n.co x (IntsAt.below hx hco) hdn (by omega)
 have HLL:Hid _:=hll;have HNEW:Hid _:=hF;clear hlen hls hio hs hcl hcn hco hdn hll hAC hLl hLS hF;generalize layN n (ls.map fun x=>x.2.map pureN)=R at *;generalize ls.map Prod.fst=vs at *;generalize ls.length=sl at *;clear ls;obtain⟨kind,nl,nr,src,⟨ca,cc,cl⟩,key,⟨da,dc,co⟩⟩:=n;simp only[NodeV.cells,IntsV.val] at *;obtain⟨w1,hw1,hb1,hg1⟩:=newB w #[.int .i64 kind,.int .i64 nl,.int .i64 nr,.int .i64 src,.slice ca cl.length cc,.int .i64 key,.slice da co.length dc] 61;obtain⟨w2,hw2,hb2,hg2⟩:=newB w1 #[.int .i64 0,.int .i64 0] 156;have HG1:Hid (GB w2 w.heap.size 61 #[.int .i64 kind,.int .i64 nl,.int .i64 nr,.int .i64 src,.slice ca cl.length cc,.int .i64 key,.slice da co.length dc]):=hg1.of (hb2.block _ hg1.lt);have HG2:Hid (GB w2 w1.heap.size 156 #[.int .i64 0,.int .i64 0]):=hg2;have HB2:Hid (Below w.heap.size w w2):=bQ1 hb1 hb2;have HS1:Hid (w1.heap.size=w.heap.size+1):=by show _=_; rw[<- hw1]; simp
 have HS2:Hid (w2.heap.size=w.heap.size+2):=by show _=_; rw[<- hw2]; simp; exact HS1.out
 clear hb1 hb2 hg1 hg2;go_enter Tryz.func52,Tryz.ntmps52;go_wp2;clear hw1 hw2;go_loopw [5,11] (fun nv iv wr=>∃ k:Nat,k<=sl/\iv=.int .i64 (k:Int)/\Hid (wr.ownsRow w2.heap.size 61 7 nv (AC k).length ((AC k).flatMap NodeV.list))/\Hid (GB wr w.heap.size 61 #[.int .i64 kind,.int .i64 nl,.int .i64 nr,.int .i64 src,.slice ca cl.length cc,.int .i64 key,.slice da co.length dc])/\
   Hid (GB wr w1.heap.size 156 #[.int .i64 (if 0<k then ((AC 1).length:Int)-1 else 0),.int .i64 (if 1<k then ((AC 2).length:Int)-1 else 0)])/\Hid (Below w.heap.size w wr)/\Hid (w2.heap.size<=wr.heap.size)) (fun _ iv _=>sl-(intOf iv).toNat)
 case atStart=>exact⟨0,Nat.zero_le _,rfl,by rw[HA0.out]; exact World.ownsRow_nil _ _ _ _,HG1.out,HG2.out,HB2.out,Nat.le_refl _⟩
 case round=>
  obtain⟨k,hk,rfl,HO,HGN,HGE,HB,HSZ⟩:=hrel;obtain⟨xa,xm,xc,rfl⟩:=ownsRow_slice HO.out;have hxm:xm=(AC k).length:=by
   rcases HO.out.2 with⟨h,h1⟩ | ⟨g,c,cur,h,_⟩
   ·injection h with _ h _; omega
   ·injection h with _ h _
  subst hxm;by_cases hlt:k<sl
  ·obtain⟨bb,boff,hioe,hbc⟩:=CellsAt.get (CellsAt.below HB.out HIO.out) (i:=k) (by rw[HFL.out]; exact hlt);subst hioe;have hck:=hbc k (by rw[HFL.out]; exact hlt);obtain⟨base,hown,hkd⟩:=HEL.out k hlt;have HTS:Hid _:=HAS.out k hlt;have hA1:=HAL.out (k+1);have hA0:=HAL.out k;rw[HTS.out,List.length_append,List.length_map] at hA1;obtain⟨L,hL⟩:∃ L,L=LS.getD k []:=⟨_,rfl⟩
   obtain⟨lv,hlv⟩:∃ L,L=vs.getD k (.slice none 0 0):=⟨_,rfl⟩
   rw[<- hL,<- hlv] at hown;rw[<- hL] at hkd HTS hA1;rw[<- hlv] at hck;have hMV:=movedP_any lv base L (AC k).length wr (ownsRow_keep hown (Kept.of_below (s:=fun b=>b<w.heap.size) HB.out (fun b _ h=>h)) (fun g hg=>(ownsRow_lt hown hg).2)) (by omega) (ShapesAt.below HB.out HSH.out) hkd;obtain⟨la,lm,lc,rfl⟩:=ownsRow_slice hown;have hll':L.length=(L.map (moveN (AC k).length)).length:=by rw[List.length_map]
   clear hbc hown hkd hL hlv;go_wp2_with fail;refine hMV.mono ?_;rintro e w3 ⟨v3,rfl,ho3,hb3⟩;clear hMV;have ho3':w3.ownsRow w2.heap.size 61 7 (.slice xa (AC k).length xc) (AC k).length ((AC k).flatMap NodeV.list):=ownsRow_keep HO.out (Kept.of_below (s:=fun b=>b<wr.heap.size) hb3 (fun b _ h=>h)) (fun g hg=>(ownsRow_lt HO.out hg).2);rw[hll'] at ho3;obtain⟨v4,w4,hr4,ho4,hk4,⟨ya,ym,yc,rfl⟩⟩:=push_nodes w3 w2.heap.size wr.heap.size (.slice xa (AC k).length xc) v3 (AC k) (L.map (moveN (AC k).length)) ho3' ho3 (by rw[List.length_map]; omega) (Nat.le_trans HSZ.out hb3.size) 36;rw[<- HTS.out] at ho4;have hym:ym=(AC (k+1)).length:=by
    rcases ho4.2 with⟨h,h1⟩ | ⟨g,c,cur,h,_⟩
    ·injection h with _ h _; omega
    ·injection h with _ h _
   subst hym;obtain⟨ta,tm,tc,rfl⟩:=ownsRow_slice ho3;have hnb:∀ b,b<w2.heap.size->(Value.slice xa (AC k).length xc).ownBlock≠some b:=fun b hb e=>by have:=(ownsRow_lt HO.out e).1; omega
   have hb34:Below w2.heap.size w3 w4:=hk4.below (Nat.le_trans HSZ.out hb3.size) hnb;have hb4:Below w2.heap.size wr w4:=(hb3.mono HSZ.out).trans hb34;have hs12:w.heap.size<w2.heap.size/\w1.heap.size<w2.heap.size:=by have:=HS1.out; have:=HS2.out; omega
   have hg1:GB w4 w.heap.size 61 #[.int .i64 kind,.int .i64 nl,.int .i64 nr,.int .i64 src,.slice ca cl.length cc,.int .i64 key,.slice da co.length dc]:=HGN.out.of (hb4.block _ hs12.1);have hg2:=HGE.out.of (hb4.block _ hs12.2);have HO4:Hid _:=ho4;have HG4:Hid (GB w4 w.heap.size 61 #[.int .i64 kind,.int .i64 nl,.int .i64 nr,.int .i64 src,.slice ca cl.length cc,.int .i64 key,.slice da co.length dc]):=hg1;have HE4:Hid (GB w4 w1.heap.size 156 #[.int .i64 (if 0<k then ((AC 1).length:Int)-1 else 0),.int .i64 (if 1<k then ((AC 2).length:Int)-1 else 0)]):=hg2;have HB4:Hid (Below w.heap.size w w4):=HB.out.trans (hb4.mono HB2.out.size);have HZ4:Hid (w2.heap.size<=w4.heap.size):=Nat.le_trans HSZ.out hb4.size;have hfz:=fun j=>GB.frozen HE4.out j
   have hA1':=HAL.out (k+1);have hk2:k<2:=by omega
   have hsub:wrap64 (((AC (k+1)).length:Int)-1)=((AC (k+1)).length:Int)-1:=by unfold wrap64; omega
   obtain⟨w5,hw5⟩:∃ x,w4.setCell (aD w1.heap.size k) (.int .i64 (((AC (k+1)).length:Int)-1))=x:=⟨_,rfl⟩
   have HO5:Hid (w5.ownsRow w2.heap.size 61 7 (.slice ya (AC (k+1)).length yc) (AC (k+1)).length ((AC (k+1)).flatMap NodeV.list)):=by
    rw[<- hw5];exact ownsRow_keep ho4 (own_kept_set (g:=w1.heap.size) _) (fun g hg=>by have:=(ownsRow_lt ho4 hg).1; omega)
   have HG5:Hid (GB w5 w.heap.size 61 #[.int .i64 kind,.int .i64 nl,.int .i64 nr,.int .i64 src,.slice ca cl.length cc,.int .i64 key,.slice da co.length dc]):=by
    rw[<- hw5];exact GB.keep HG4.out (own_kept_set (g:=w1.heap.size) _) (by have:=HS1.out; omega)
   have HE5:Hid (GB w5 w1.heap.size 156 #[.int .i64 (if 0<k+1 then ((AC 1).length:Int)-1 else 0),.int .i64 (if 1<k+1 then ((AC 2).length:Int)-1 else 0)]):=by
    show GB _ _ _ _
    have:=GB.set HE4.out k (.int .i64 (((AC (k+1)).length:Int)-1));rw[<- hw5]
    match k,hk2,this with
    | 0,_,h => exact h
    | 1,_,h => exact h
   have HB5:Hid (Below w.heap.size w w5):=by
    show Below _ _ _
    rw[<- hw5];exact HB4.out.trans ((own_kept_set (g:=w1.heap.size) _).below HB4.out.size (fun b hb=>by have:=HS1.out; omega))
   have HZ5:Hid (w2.heap.size<=w5.heap.size):=by show _<=_; rw[<- hw5]; simpa using HZ4.out
   have hce:∃ u,w4.cell? (aD w1.heap.size k)=some u:=by
    match k,hk2 with
    | 0,_ => exact⟨_,HE4.out.cell 0⟩
    | 1,_ => exact⟨_,HE4.out.cell 1⟩
   obtain⟨cu,hce⟩:=hce;have hfk:=hfz k;clear hb34 hb4 hg1 hg2 ho4 hk4 ho3 ho3' hnb hb3 hfz HO HGN HGE HTS hA0 hA1;go_wp2_with (first | (at_builtin; refine wpList_append_run rfl (.tmp 16) (.tmp 20) 36 rfl (.slice xa (AC k).length xc) (.slice ta tm tc) (.slice ya (AC (k+1)).length yc) w4 rfl rfl hr4 ?_));clear hr4 hck;go_wp2;go_roundw
   case rel=>exact⟨k+1,by omega,by go_num,HO5.out,HG5.out,HE5.out,HB5.out,HZ5.out⟩
   case measure=>simp[intOf]; omega
  ·have hks:sl=k:=by omega
   subst hks;have h0:(if 0<sl then ((AC 1).length:Int)-1 else 0)=endN LS 0:=(HEN.out 0 (by omega)).symm;have h1:(if 1<sl then ((AC 2).length:Int)-1 else 0)=endN LS 1:=(HEN.out 1 (by omega)).symm;rw[h0,h1] at HGE;obtain⟨e0,he0⟩:∃ e,e=endN LS 0:=⟨_,rfl⟩
   obtain⟨e1,he1⟩:∃ e,e=endN LS 1:=⟨_,rfl⟩
   rw[<- he0,<- he1] at HGE HFIN;obtain⟨w3,hw3⟩:∃ x,x=wr:=⟨_,rfl⟩
   subst hw3;clear h0 h1 he0 he1 HEN HEL HAS hlt hk HA0;have HLT:Hid (w.heap.size<w2.heap.size/\w1.heap.size<w2.heap.size/\w.heap.size<w1.heap.size):=by have:=HS1.out; have:=HS2.out; show _/\_; omega
   have hne:w1.heap.size≠w.heap.size:=by have:=HLT.out; omega
   have z0:w3.cell? (aD w1.heap.size 0)=some (.int .i64 e0):=HGE.out.cell 0;have z1:w3.cell? (aD w1.heap.size 1)=some (.int .i64 e1):=HGE.out.cell 1;have hgd:GB w3.drew w.heap.size 61 #[.int .i64 kind,.int .i64 nl,.int .i64 nr,.int .i64 src,.slice ca cl.length cc,.int .i64 key,.slice da co.length dc]:=HGN.out.of (((Below.refl w3.heap.size w3).drew).block _ HGN.out.lt);have d1:w3.drew.cell? (aD w.heap.size 1)=some (.int .i64 nl):=hgd.cell 1;have f1:=hgd.frozen 1;have hge:=HGN.out.set 1 (.int .i64 e0);have hge':=hge.of (((Below.refl _ _).drew).block _ hge.lt);have d2:(w3.setCell (aD w.heap.size 1) (.int .i64 e0)).drew.cell? (aD w.heap.size 2)=some (.int .i64 nr):=hge'.cell 2;have f2:=hge'.frozen 2;have hgf:=hge.set 2 (.int .i64 e1);have hgf':=hgf.of (((Below.refl _ _).drew).block _ hgf.lt);obtain⟨w5,hw5⟩:∃ x,((w3.setCell (aD w.heap.size 1) (.int .i64 e0)).setCell (aD w.heap.size 2) (.int .i64 e1)).drew=x:=⟨_,rfl⟩
   rw[hw5] at hgf';have HG5:Hid (GB w5 w.heap.size 61 #[.int .i64 kind,.int .i64 e0,.int .i64 e1,.int .i64 src,.slice ca cl.length cc,.int .i64 key,.slice da co.length dc]):=hgf';have hk35:Kept (fun b=>b≠w.heap.size) w3 w5:=by
    rw[<- hw5];exact ((own_kept_set (g:=w.heap.size) _).trans (own_kept_set (g:=w.heap.size) _)).trans (Kept.of_below ((Below.refl _ _).drew) (fun _ hl _=>hl))
   have HO5:Hid (w5.ownsRow w2.heap.size 61 7 (.slice xa (AC sl).length xc) (AC sl).length ((AC sl).flatMap NodeV.list)):=ownsRow_keep HO.out hk35 (fun g hg=>by have:=(ownsRow_lt HO.out hg).1; have:=HLT.out; omega);have HB5:Hid (Below w.heap.size w w5):=HB.out.trans (hk35.below HB.out.size (fun b hb=>by have:=HLT.out; omega));have HZ5:Hid (w2.heap.size<=w5.heap.size):=Nat.le_trans HSZ.out hk35.size;clear hge hge' hgf hgf' hgd;go_wp2_with fail;refine wp_region_held_drew (S:=fun x=>Kept (fun b=>b≠w.heap.size) w3 x) (by kernel_rfl) (Kept.of_below ((Below.refl w3.heap.size w3).drew) (fun _ hl _=>hl)) (fun hS=>?_);refine wT 0 (.pointer (some (aD w1.heap.size 0))) hS (fun x hx=>?_) ?_
   ·go_simp
   refine wT 1 (.int .i64 e0) hS (fun x hx=>?_) ?_
   ·have e0:=cell_keep z0 hx hne;go_simp
   refine wT 2 (.pointer (some (aD w1.heap.size 1))) hS (fun x hx=>?_) ?_
   ·go_simp
   refine wT 3 (.int .i64 e1) hS (fun x hx=>?_) ?_
   ·have e0:=cell_keep z1 hx hne;go_simp
   refine wT 4 (.pointer (some (aD w.heap.size 1))) hS (fun x hx=>?_) ?_
   ·go_simp
   refine wR 5 fun K hK=>?_
   go_simp;refine hK.out _ _ (hS.trans (Kept.setCell _ _ _ (fun h=>h rfl))) (fun hS=>?_);clear hK K;refine wT 6 (.pointer (some (aD w.heap.size 2))) hS (fun x hx=>?_) ?_
   ·go_simp
   refine wR 7 fun K hK=>?_
   go_simp;refine hK.out _ _ (hk35) (fun hS=>?_);clear hK K;refine wpAnyH_done (by kernel_rfl) ?_ _
   try simp only[pA,sB,sC]
   try rw[hw5]
   clear hk35;have n4:w5.cell? (aD w.heap.size 4)=some (.slice ca cl.length cc):=HG5.out.cell 4;have n6:w5.cell? (aD w.heap.size 6)=some (.slice da co.length dc):=HG5.out.cell 6;clear hS z0 z1 d1 d2 f1 f2 hw5 HO HGN HGE HB HSZ;go_wp2_with fail;refine wp_region_held_drew (S:=fun x=>Kept (fun b=>b≠w.heap.size) w5 x) (by kernel_rfl) (Kept.of_below ((Below.refl w5.heap.size w5).drew) (fun _ hl _=>hl)) (fun hS=>?_);refine wT 0 (.pointer (some (aD w.heap.size 4))) hS (fun x hx=>?_) ?_
   ·go_simp
   refine wT 3 (.pointer (some (aD w.heap.size 6))) hS (fun x hx=>?_) ?_
   ·go_simp
   have hB:=(Below.refl w5.heap.size w5).drew;refine wpAnyH_ready (rs:=[1,4]) (by kernel_rfl) (by simp) ?_;refine AllReadyH.cons rfl (fun K hK=>?_) (AllReadyH.cons rfl (fun K hK=>?_) AllReadyH.nil)
   ·skip;have lo:=cB hB n4;go_simp;refine hK.out _ _ hS (fun hS=>?_);clear hK K lo;refine wpAnyH_ready (rs:=[2,4]) (by kernel_rfl) (by simp) ?_;refine AllReadyH.cons rfl (fun K hK=>?_) (AllReadyH.cons rfl (fun K hK=>?_) AllReadyH.nil)
    ·skip;go_simp;refine Calls.mono (HC1.out _ (HB5.out.trans (hB.mono HB5.out.size))) ?_;rintro e wA ⟨vv,rfl,hvv,hbb⟩;obtain⟨ivy,hiv,hxy,hiny⟩:=ints_in (F:=fun b=>F b/\w5.heap.size<=b) hvv (by have:=HLL.out; omega) (fun b hb=>⟨HNEW.out b (Nat.le_trans HB5.out.size (Nat.le_trans hB.size hb)),Nat.le_trans hB.size hb⟩);obtain⟨ya,yc,yx⟩:=ivy;simp only[IntsV.val] at hiv hxy;subst hiv;have hxy:=hxy.symm;subst hxy;have hB:=hB.trans (hbb.mono hB.size);refine hK.out _ _ (Kept.of_below hB (fun b hb _=>hb)) (fun hS=>?_);clear hK K;refine wR 4 fun K hK=>?_
     have lo:=cB hB n6;go_simp;refine hK.out _ _ hS (fun hS=>?_);clear hK K lo;refine wT 6 (.pointer (some (aD w.heap.size 4))) hS (fun x hx=>?_) ?_
     ·go_simp
     refine wR 5 fun K hK=>?_
     go_simp;refine Calls.mono (HC2.out _ (HB5.out.trans (hB.mono HB5.out.size))) ?_;rintro e wB ⟨vv,rfl,hvv,hbb⟩;obtain⟨ivz,hiv,hxz,hinz⟩:=ints_in (F:=fun b=>F b/\w5.heap.size<=b) hvv (by have:=HLL.out; omega) (fun b hb=>⟨HNEW.out b (Nat.le_trans HB5.out.size (Nat.le_trans hB.size hb)),Nat.le_trans hB.size hb⟩);obtain⟨za,zc,zx⟩:=ivz;simp only[IntsV.val] at hiv hxz;subst hiv;have hxz:=hxz.symm;subst hxz;have hB:=hB.trans (hbb.mono hB.size);have hiny:=hiny.below hbb;refine hK.out _ _ (Kept.of_below hB (fun b hb _=>hb)) (fun hS=>?_);clear hK K;have hgB:GB wB w.heap.size 61 #[.int .i64 kind,.int .i64 e0,.int .i64 e1,.int .i64 src,.slice ca cl.length cc,.int .i64 key,.slice da co.length dc]:=HG5.out.of (hB.block _ HG5.out.lt);have m4:wB.cell? (aD w.heap.size 4)=some (.slice ca cl.length cc):=hgB.cell 4;have f4:=hgB.frozen 4;have hgC:=hgB.set 4 (.slice ya cl.length yc);have m6:(wB.setCell (aD w.heap.size 4) (.slice ya cl.length yc)).cell? (aD w.heap.size 6)=some (.slice da co.length dc):=hgC.cell 6;have f6:=hgC.frozen 6;have hgD:=hgC.set 6 (.slice za co.length zc);refine wR 7 fun K hK=>?_
     go_simp;refine hK.out _ _ (hS.trans (own_kept_set (g:=w.heap.size) (j:=4) (.slice ya cl.length yc))) (fun hS=>?_);clear hK K;refine wT 8 (.pointer (some (aD w.heap.size 6))) hS (fun x hx=>?_) ?_
     ·go_simp
     refine wR 9 fun K hK=>?_
     go_simp;refine hK.out _ _ (hS.trans (own_kept_set (g:=w.heap.size) (j:=6) (.slice za co.length zc))) (fun hS=>?_);clear hK K;refine wpAnyH_done (by kernel_rfl) ?_ _
     try simp only[pA,sB,sC]
     obtain⟨w6,hw6⟩:∃ x,(wB.setCell (aD w.heap.size 4) (.slice ya cl.length yc)).setCell (aD w.heap.size 6) (.slice za co.length zc)=x:=⟨_,rfl⟩
     rw[hw6] at hgD ⊢;have hkB:Kept (fun b=>b≠w.heap.size) wB w6:=by
      rw[<- hw6];exact (own_kept_set (g:=w.heap.size) _).trans (own_kept_set (g:=w.heap.size) _)
     have hk56:Kept (fun b=>b≠w.heap.size) w5 w6:=(Kept.of_below hB (fun b hb _=>hb)).trans hkB;have ho6:w6.ownsRow w2.heap.size 61 7 (.slice xa (AC sl).length xc) (AC sl).length ((AC sl).flatMap NodeV.list):=ownsRow_keep HO5.out hk56 (fun g hg=>by have:=(ownsRow_lt HO5.out hg).1; have:=HLT.out; omega);have hb6:Below w.heap.size w w6:=HB5.out.trans (hk56.below HB5.out.size (fun b hb=>by have:=HLT.out; omega));obtain⟨v7,w7,hr7,ho7,hk7,⟨qa,qm,qc,rfl⟩⟩:=push_node w6 w2.heap.size (.slice xa (AC sl).length xc) (AC sl) ho6 (by have:=HAL.out sl; omega) (Nat.le_trans HZ5.out hk56.size) ⟨kind,e0,e1,src,⟨ya,yc,cl⟩,key,⟨za,zc,co⟩⟩ 36;simp only[NodeV.cells,IntsV.val] at hr7;have hlt5:w.heap.size<w5.heap.size:=HG5.out.lt;have hown5:∀ b,(Value.slice xa (AC sl).length xc).ownBlock=some b->w2.heap.size<=b/\b<w5.heap.size:=fun b e=>ownsRow_lt HO5.out e
     have hiy:IntsIn F w7 ⟨ya,yc,cl⟩:=((hiny.keptF (hkB.mono fun b _ h=>by have:=h.2; omega)).keptF (hk7.mono fun b _ h e=>by have:=(hown5 b e).2; have:=h.2; omega)).mono fun b _ h=>h.1
     have hiz:IntsIn F w7 ⟨za,zc,co⟩:=((hinz.keptF (hkB.mono fun b _ h=>by have:=h.2; omega)).keptF (hk7.mono fun b _ h e=>by have:=(hown5 b e).2; have:=h.2; omega)).mono fun b _ h=>h.1
     have hb7:Below w.heap.size w w7:=hb6.trans (hk7.below hb6.size (fun b hb e=>by have:=(hown5 b e).1; have:=HLT.out; omega));have HF:Hid _:=HFIN.out w7 (.slice qa qm qc) ⟨ya,yc,cl⟩ ⟨za,zc,co⟩ hb7 (own_base ho7 (by have:=HLT.out; omega)) rfl rfl hiy hiz;have t0:w6.cell? (aD w.heap.size 0)=some (.int .i64 kind):=hgD.cell 0;have t1:w6.cell? (aD w.heap.size 1)=some (.int .i64 e0):=hgD.cell 1;have t2:w6.cell? (aD w.heap.size 2)=some (.int .i64 e1):=hgD.cell 2;have t3:w6.cell? (aD w.heap.size 3)=some (.int .i64 src):=hgD.cell 3;have t4:w6.cell? (aD w.heap.size 4)=some (.slice ya cl.length yc):=hgD.cell 4;have t5:w6.cell? (aD w.heap.size 5)=some (.int .i64 key):=hgD.cell 5;have t6:w6.cell? (aD w.heap.size 6)=some (.slice za co.length zc):=hgD.cell 6;clear hgB hgC hgD hkB hk56 ho6 hb6 ho7 hk7 hlt5 hown5 hiy hiz hb7 hiny hinz hS hB m4 m6 f4 f6 hw6;go_wp2_with (first | (at_builtin; refine wpList_append_run rfl (.tmp 42) (.tmp 44) 36 rfl (.slice xa (AC sl).length xc) (.slice (some (aD w6.heap.size 0)) 1 1) (.slice qa qm qc) w7 rfl rfl hr7 ?_));clear hr7;go_wp2;go_ret;exact HF.out
    ·skip;have lo:=cB hB n6;go_simp;refine hK.out _ _ hS (fun hS=>?_);clear hK K lo;refine wR 2 fun K hK=>?_
     go_simp;refine Calls.mono (HC1.out _ (HB5.out.trans (hB.mono HB5.out.size))) ?_;rintro e wA ⟨vv,rfl,hvv,hbb⟩;obtain⟨ivy,hiv,hxy,hiny⟩:=ints_in (F:=fun b=>F b/\w5.heap.size<=b) hvv (by have:=HLL.out; omega) (fun b hb=>⟨HNEW.out b (Nat.le_trans HB5.out.size (Nat.le_trans hB.size hb)),Nat.le_trans hB.size hb⟩);obtain⟨ya,yc,yx⟩:=ivy;simp only[IntsV.val] at hiv hxy;subst hiv;have hxy:=hxy.symm;subst hxy;have hB:=hB.trans (hbb.mono hB.size);refine hK.out _ _ (Kept.of_below hB (fun b hb _=>hb)) (fun hS=>?_);clear hK K;refine wT 6 (.pointer (some (aD w.heap.size 4))) hS (fun x hx=>?_) ?_
     ·go_simp
     refine wR 5 fun K hK=>?_
     go_simp;refine Calls.mono (HC2.out _ (HB5.out.trans (hB.mono HB5.out.size))) ?_;rintro e wB ⟨vv,rfl,hvv,hbb⟩;obtain⟨ivz,hiv,hxz,hinz⟩:=ints_in (F:=fun b=>F b/\w5.heap.size<=b) hvv (by have:=HLL.out; omega) (fun b hb=>⟨HNEW.out b (Nat.le_trans HB5.out.size (Nat.le_trans hB.size hb)),Nat.le_trans hB.size hb⟩);obtain⟨za,zc,zx⟩:=ivz;simp only[IntsV.val] at hiv hxz;subst hiv;have hxz:=hxz.symm;subst hxz;have hB:=hB.trans (hbb.mono hB.size);have hiny:=hiny.below hbb;refine hK.out _ _ (Kept.of_below hB (fun b hb _=>hb)) (fun hS=>?_);clear hK K;have hgB:GB wB w.heap.size 61 #[.int .i64 kind,.int .i64 e0,.int .i64 e1,.int .i64 src,.slice ca cl.length cc,.int .i64 key,.slice da co.length dc]:=HG5.out.of (hB.block _ HG5.out.lt);have m4:wB.cell? (aD w.heap.size 4)=some (.slice ca cl.length cc):=hgB.cell 4;have f4:=hgB.frozen 4;have hgC:=hgB.set 4 (.slice ya cl.length yc);have m6:(wB.setCell (aD w.heap.size 4) (.slice ya cl.length yc)).cell? (aD w.heap.size 6)=some (.slice da co.length dc):=hgC.cell 6;have f6:=hgC.frozen 6;have hgD:=hgC.set 6 (.slice za co.length zc);refine wR 7 fun K hK=>?_
     go_simp;refine hK.out _ _ (hS.trans (own_kept_set (g:=w.heap.size) (j:=4) (.slice ya cl.length yc))) (fun hS=>?_);clear hK K;refine wT 8 (.pointer (some (aD w.heap.size 6))) hS (fun x hx=>?_) ?_
     ·go_simp
     refine wR 9 fun K hK=>?_
     go_simp;refine hK.out _ _ (hS.trans (own_kept_set (g:=w.heap.size) (j:=6) (.slice za co.length zc))) (fun hS=>?_);clear hK K;refine wpAnyH_done (by kernel_rfl) ?_ _
     try simp only[pA,sB,sC]
     obtain⟨w6,hw6⟩:∃ x,(wB.setCell (aD w.heap.size 4) (.slice ya cl.length yc)).setCell (aD w.heap.size 6) (.slice za co.length zc)=x:=⟨_,rfl⟩
     rw[hw6] at hgD ⊢;have hkB:Kept (fun b=>b≠w.heap.size) wB w6:=by
      rw[<- hw6];exact (own_kept_set (g:=w.heap.size) _).trans (own_kept_set (g:=w.heap.size) _)
     have hk56:Kept (fun b=>b≠w.heap.size) w5 w6:=(Kept.of_below hB (fun b hb _=>hb)).trans hkB;have ho6:w6.ownsRow w2.heap.size 61 7 (.slice xa (AC sl).length xc) (AC sl).length ((AC sl).flatMap NodeV.list):=ownsRow_keep HO5.out hk56 (fun g hg=>by have:=(ownsRow_lt HO5.out hg).1; have:=HLT.out; omega);have hb6:Below w.heap.size w w6:=HB5.out.trans (hk56.below HB5.out.size (fun b hb=>by have:=HLT.out; omega));obtain⟨v7,w7,hr7,ho7,hk7,⟨qa,qm,qc,rfl⟩⟩:=push_node w6 w2.heap.size (.slice xa (AC sl).length xc) (AC sl) ho6 (by have:=HAL.out sl; omega) (Nat.le_trans HZ5.out hk56.size) ⟨kind,e0,e1,src,⟨ya,yc,cl⟩,key,⟨za,zc,co⟩⟩ 36;simp only[NodeV.cells,IntsV.val] at hr7;have hlt5:w.heap.size<w5.heap.size:=HG5.out.lt;have hown5:∀ b,(Value.slice xa (AC sl).length xc).ownBlock=some b->w2.heap.size<=b/\b<w5.heap.size:=fun b e=>ownsRow_lt HO5.out e
     have hiy:IntsIn F w7 ⟨ya,yc,cl⟩:=((hiny.keptF (hkB.mono fun b _ h=>by have:=h.2; omega)).keptF (hk7.mono fun b _ h e=>by have:=(hown5 b e).2; have:=h.2; omega)).mono fun b _ h=>h.1
     have hiz:IntsIn F w7 ⟨za,zc,co⟩:=((hinz.keptF (hkB.mono fun b _ h=>by have:=h.2; omega)).keptF (hk7.mono fun b _ h e=>by have:=(hown5 b e).2; have:=h.2; omega)).mono fun b _ h=>h.1
     have hb7:Below w.heap.size w w7:=hb6.trans (hk7.below hb6.size (fun b hb e=>by have:=(hown5 b e).1; have:=HLT.out; omega));have HF:Hid _:=HFIN.out w7 (.slice qa qm qc) ⟨ya,yc,cl⟩ ⟨za,zc,co⟩ hb7 (own_base ho7 (by have:=HLT.out; omega)) rfl rfl hiy hiz;have t0:w6.cell? (aD w.heap.size 0)=some (.int .i64 kind):=hgD.cell 0;have t1:w6.cell? (aD w.heap.size 1)=some (.int .i64 e0):=hgD.cell 1;have t2:w6.cell? (aD w.heap.size 2)=some (.int .i64 e1):=hgD.cell 2;have t3:w6.cell? (aD w.heap.size 3)=some (.int .i64 src):=hgD.cell 3;have t4:w6.cell? (aD w.heap.size 4)=some (.slice ya cl.length yc):=hgD.cell 4;have t5:w6.cell? (aD w.heap.size 5)=some (.int .i64 key):=hgD.cell 5;have t6:w6.cell? (aD w.heap.size 6)=some (.slice za co.length zc):=hgD.cell 6;clear hgB hgC hgD hkB hk56 ho6 hb6 ho7 hk7 hlt5 hown5 hiy hiz hb7 hiny hinz hS hB m4 m6 f4 f6 hw6;go_wp2_with (first | (at_builtin; refine wpList_append_run rfl (.tmp 42) (.tmp 44) 36 rfl (.slice xa (AC sl).length xc) (.slice (some (aD w6.heap.size 0)) 1 1) (.slice qa qm qc) w7 rfl rfl hr7 ?_));clear hr7;go_wp2;go_ret;exact HF.out
   ·skip;have lo:=cB hB n6;go_simp;refine hK.out _ _ hS (fun hS=>?_);clear hK K lo;refine wR 1 fun K hK=>?_
    have lo:=cB hB n4;go_simp;refine hK.out _ _ hS (fun hS=>?_);clear hK K lo;refine wR 2 fun K hK=>?_
    go_simp;refine Calls.mono (HC1.out _ (HB5.out.trans (hB.mono HB5.out.size))) ?_;rintro e wA ⟨vv,rfl,hvv,hbb⟩;obtain⟨ivy,hiv,hxy,hiny⟩:=ints_in (F:=fun b=>F b/\w5.heap.size<=b) hvv (by have:=HLL.out; omega) (fun b hb=>⟨HNEW.out b (Nat.le_trans HB5.out.size (Nat.le_trans hB.size hb)),Nat.le_trans hB.size hb⟩);obtain⟨ya,yc,yx⟩:=ivy;simp only[IntsV.val] at hiv hxy;subst hiv;have hxy:=hxy.symm;subst hxy;have hB:=hB.trans (hbb.mono hB.size);refine hK.out _ _ (Kept.of_below hB (fun b hb _=>hb)) (fun hS=>?_);clear hK K;refine wT 6 (.pointer (some (aD w.heap.size 4))) hS (fun x hx=>?_) ?_
    ·go_simp
    refine wR 5 fun K hK=>?_
    go_simp;refine Calls.mono (HC2.out _ (HB5.out.trans (hB.mono HB5.out.size))) ?_;rintro e wB ⟨vv,rfl,hvv,hbb⟩;obtain⟨ivz,hiv,hxz,hinz⟩:=ints_in (F:=fun b=>F b/\w5.heap.size<=b) hvv (by have:=HLL.out; omega) (fun b hb=>⟨HNEW.out b (Nat.le_trans HB5.out.size (Nat.le_trans hB.size hb)),Nat.le_trans hB.size hb⟩);obtain⟨za,zc,zx⟩:=ivz;simp only[IntsV.val] at hiv hxz;subst hiv;have hxz:=hxz.symm;subst hxz;have hB:=hB.trans (hbb.mono hB.size);have hiny:=hiny.below hbb;refine hK.out _ _ (Kept.of_below hB (fun b hb _=>hb)) (fun hS=>?_);clear hK K;have hgB:GB wB w.heap.size 61 #[.int .i64 kind,.int .i64 e0,.int .i64 e1,.int .i64 src,.slice ca cl.length cc,.int .i64 key,.slice da co.length dc]:=HG5.out.of (hB.block _ HG5.out.lt);have m4:wB.cell? (aD w.heap.size 4)=some (.slice ca cl.length cc):=hgB.cell 4;have f4:=hgB.frozen 4;have hgC:=hgB.set 4 (.slice ya cl.length yc);have m6:(wB.setCell (aD w.heap.size 4) (.slice ya cl.length yc)).cell? (aD w.heap.size 6)=some (.slice da co.length dc):=hgC.cell 6;have f6:=hgC.frozen 6;have hgD:=hgC.set 6 (.slice za co.length zc);refine wR 7 fun K hK=>?_
    go_simp;refine hK.out _ _ (hS.trans (own_kept_set (g:=w.heap.size) (j:=4) (.slice ya cl.length yc))) (fun hS=>?_);clear hK K;refine wT 8 (.pointer (some (aD w.heap.size 6))) hS (fun x hx=>?_) ?_
    ·go_simp
    refine wR 9 fun K hK=>?_
    go_simp;refine hK.out _ _ (hS.trans (own_kept_set (g:=w.heap.size) (j:=6) (.slice za co.length zc))) (fun hS=>?_);clear hK K;refine wpAnyH_done (by kernel_rfl) ?_ _
    try simp only[pA,sB,sC]
    obtain⟨w6,hw6⟩:∃ x,(wB.setCell (aD w.heap.size 4) (.slice ya cl.length yc)).setCell (aD w.heap.size 6) (.slice za co.length zc)=x:=⟨_,rfl⟩
    rw[hw6] at hgD ⊢;have hkB:Kept (fun b=>b≠w.heap.size) wB w6:=by
     rw[<- hw6];exact (own_kept_set (g:=w.heap.size) _).trans (own_kept_set (g:=w.heap.size) _)
    have hk56:Kept (fun b=>b≠w.heap.size) w5 w6:=(Kept.of_below hB (fun b hb _=>hb)).trans hkB;have ho6:w6.ownsRow w2.heap.size 61 7 (.slice xa (AC sl).length xc) (AC sl).length ((AC sl).flatMap NodeV.list):=ownsRow_keep HO5.out hk56 (fun g hg=>by have:=(ownsRow_lt HO5.out hg).1; have:=HLT.out; omega);have hb6:Below w.heap.size w w6:=HB5.out.trans (hk56.below HB5.out.size (fun b hb=>by have:=HLT.out; omega));obtain⟨v7,w7,hr7,ho7,hk7,⟨qa,qm,qc,rfl⟩⟩:=push_node w6 w2.heap.size (.slice xa (AC sl).length xc) (AC sl) ho6 (by have:=HAL.out sl; omega) (Nat.le_trans HZ5.out hk56.size) ⟨kind,e0,e1,src,⟨ya,yc,cl⟩,key,⟨za,zc,co⟩⟩ 36;simp only[NodeV.cells,IntsV.val] at hr7;have hlt5:w.heap.size<w5.heap.size:=HG5.out.lt;have hown5:∀ b,(Value.slice xa (AC sl).length xc).ownBlock=some b->w2.heap.size<=b/\b<w5.heap.size:=fun b e=>ownsRow_lt HO5.out e
    have hiy:IntsIn F w7 ⟨ya,yc,cl⟩:=((hiny.keptF (hkB.mono fun b _ h=>by have:=h.2; omega)).keptF (hk7.mono fun b _ h e=>by have:=(hown5 b e).2; have:=h.2; omega)).mono fun b _ h=>h.1
    have hiz:IntsIn F w7 ⟨za,zc,co⟩:=((hinz.keptF (hkB.mono fun b _ h=>by have:=h.2; omega)).keptF (hk7.mono fun b _ h e=>by have:=(hown5 b e).2; have:=h.2; omega)).mono fun b _ h=>h.1
    have hb7:Below w.heap.size w w7:=hb6.trans (hk7.below hb6.size (fun b hb e=>by have:=(hown5 b e).1; have:=HLT.out; omega));have HF:Hid _:=HFIN.out w7 (.slice qa qm qc) ⟨ya,yc,cl⟩ ⟨za,zc,co⟩ hb7 (own_base ho7 (by have:=HLT.out; omega)) rfl rfl hiy hiz;have t0:w6.cell? (aD w.heap.size 0)=some (.int .i64 kind):=hgD.cell 0;have t1:w6.cell? (aD w.heap.size 1)=some (.int .i64 e0):=hgD.cell 1;have t2:w6.cell? (aD w.heap.size 2)=some (.int .i64 e1):=hgD.cell 2;have t3:w6.cell? (aD w.heap.size 3)=some (.int .i64 src):=hgD.cell 3;have t4:w6.cell? (aD w.heap.size 4)=some (.slice ya cl.length yc):=hgD.cell 4;have t5:w6.cell? (aD w.heap.size 5)=some (.int .i64 key):=hgD.cell 5;have t6:w6.cell? (aD w.heap.size 6)=some (.slice za co.length zc):=hgD.cell 6;clear hgB hgC hgD hkB hk56 ho6 hb6 ho7 hk7 hlt5 hown5 hiy hiz hb7 hiny hinz hS hB m4 m6 f4 f6 hw6;go_wp2_with (first | (at_builtin; refine wpList_append_run rfl (.tmp 42) (.tmp 44) 36 rfl (.slice xa (AC sl).length xc) (.slice (some (aD w6.heap.size 0)) 1 1) (.slice qa qm qc) w7 rfl rfl hr7 ?_));clear hr7;go_wp2;go_ret;exact HF.out
end Go.Proofs.YtlpbelhfpoilpabGreatDoor
