import Derived.LaidEqlPtr
import Derived.Test.YtlpbelhfpoilpabGreatDoorC07
import Derived.Test.YtlpbelhfpoilpabGreatDoorC12
import Derived.Test.YtlpbelhfpoilpabGreatDoorC13
import Derived.Test.YtlpbelhfpoilpabGreatDoorC14
set_option linter.all false
set_option maxRecDepth 100000
set_option maxHeartbeats 16000000
namespace Go.Scout
open Go.RowKit
structure IntsIn (F:Nat->Prop) (w:World) (iv:IntsV):Prop where
 at':iv.At w
 inf:InF F iv.ad iv.xs.length
 nil:iv.ad=none->iv.cap=0
 cap:iv.xs.length<=iv.cap
theorem IntsIn.keptF {F:Nat->Prop} {w w':World} {iv:IntsV} (h:IntsIn F w iv) (hk:Kept F w w'):IntsIn F w' iv:=⟨IntsAt.keptF h.at' hk h.inf,h.inf,h.nil,h.cap⟩
theorem IntsIn.below {F:Nat->Prop} {w w':World} {iv:IntsV} (h:IntsIn F w iv) (hb:Below w.heap.size w w'):IntsIn F w' iv:=⟨IntsAt.below hb h.at',h.inf,h.nil,h.cap⟩
theorem IntsIn.nilV (F:Nat->Prop) (w:World):IntsIn F w nilV:=⟨nilV_at w,InF.nil _ _,fun _=>rfl,Nat.le_refl _⟩
theorem IntsIn.mono {F G:Nat->Prop} {w:World} {iv:IntsV} (h:IntsIn F w iv) (hs:∀ b,b<w.heap.size->F b->G b):IntsIn G w iv:=⟨h.at',InF.mono h.at'.2 h.inf hs,h.nil,h.cap⟩
theorem ints_in {F:Nat->Prop} {w:World} {base:Nat} {e:TypeId} {v:Value} {n:Nat} {xs:List Int} (h:w.ownsRow base e 1 v n (xs.map (Value.int .i64))) (hl:xs.length<=1000000) (hF:∀ b,base<=b->F b) :
  ∃ iv:IntsV,v=iv.val/\iv.xs=xs/\IntsIn F w iv:=by
 obtain⟨iv,h1,h2,h3,h4,h5,h6⟩:=ints_ownR h hl;exact⟨iv,h1,h2,h3,fun _ a e=>hF _ (h4 a e),h5,h6⟩
def IntsPost (F:Nat->Prop) (w:World) (xs:List Int) (e:Ending) (w':World):Prop:=∃ iv:IntsV,e=.returned iv.val/\iv.xs=xs/\IntsIn F w' iv/\Below w.heap.size w w'
theorem Env.endLen {f:FactsV} {ts:List TableD} {q:QueryV} {W0:World} (E:Env f ts q W0):(endOrderN q).length<=4:=by
 unfold endOrderN;split
 ·exact E.kfew
 ·split
  ·unfold wantN;rw[List.length_map];exact E.few
  ·simp
theorem Env.keysIn {f:FactsV} {ts:List TableD} {q:QueryV} {W0:World} (E:Env f ts q W0) {F:Nat->Prop} {w:World} (h:Fz F W0 w):IntsIn F w q.keys:=
 ⟨h.below.ints E.facts.query.keys,fun hn a e=>h.low _ (by
  obtain⟨b,off,e2,hc⟩:=E.facts.query.keys.2 0 hn;rw[e] at e2;injection e2 with e2;rw[e2];exact⟨_,_,hc⟩),E.knil,E.kcap⟩
end Go.Scout
namespace Go.Proofs.YtlpbelhfpoilpabGreatDoor
open Go.RowKit Go.Scout Go.Shelf
theorem endOrder_any {F:Nat->Prop} {W0 w:World} {f:FactsV} {ts:List TableD} {q:QueryV} (E:Env f ts q W0) (hz:Fz F W0 w):Calls Tryz.prog 66 #[.agg q.cells] w (IntsPost F w (endOrderN q)):=by
 have hq:q.At w:=(E.at' hz).query
 cases hg:q.group with
 | true =>
  have HR:Hid (endOrderN q=q.keys.xs):=by show _=_; unfold endOrderN; rw[if_pos hg]
  have HK:Hid (IntsIn F w q.keys):=E.keysIn hz;clear hq E hz;generalize endOrderN q=R at *;obtain⟨⟨sa,sc,sx⟩,wad,wcap,wh,group,⟨ka,kc,kx⟩,⟨ma,mc,mx⟩,⟨la,lc,lx⟩,⟨oa,oc,ox⟩⟩:=q;simp only[QueryV.cells,IntsV.val] at *;subst hg;obtain⟨w1,hw1,hb1,hg1⟩:=newB w #[.slice sa sx.length sc,.slice wad wh.length wcap,.bool true,.slice ka kx.length kc,.slice ma mx.length mc,.slice la lx.length lc,.slice oa ox.length oc] 26;have a0:w1.cell? (aD w.heap.size 0)=some (.slice sa sx.length sc):=hg1.cell 0;have a1:w1.cell? (aD w.heap.size 1)=some (.slice wad wh.length wcap):=hg1.cell 1;have a2:w1.cell? (aD w.heap.size 2)=some (.bool true):=hg1.cell 2;have a3:w1.cell? (aD w.heap.size 3)=some (.slice ka kx.length kc):=hg1.cell 3;have a4:w1.cell? (aD w.heap.size 4)=some (.slice ma mx.length mc):=hg1.cell 4;have a5:w1.cell? (aD w.heap.size 5)=some (.slice la lx.length lc):=hg1.cell 5;have a6:w1.cell? (aD w.heap.size 6)=some (.slice oa ox.length oc):=hg1.cell 6;have HB1:Hid _:=hb1;clear hb1 hg1;go_enter Tryz.func66,Tryz.ntmps66;go_wp2;go_ret;exact⟨⟨ka,kc,kx⟩,rfl,HR.out.symm,HK.out.below HB1.out,HB1.out⟩
 | false =>
  have HCO:Hid (∀ x,Below w.heap.size w x->Calls Tryz.prog 93 #[.agg q.cells] x fun e w'=>∃ v,e=.returned v/\w'.ownsRow x.heap.size 3 1 v (wantN q).length ((wantN q).map (Value.int .i64))/\Below x.heap.size x w'):=fun x hx=>columnsOfOrder_any q x (hq.below hx) (E.ord hg) (by have:=E.few; omega)
  have HR:Hid (endOrderN q=if apartB (wantN q)=true then wantN q else []):=by show _=_; unfold endOrderN; rw[if_neg (by rw[hg]; decide)]
  have HWL:Hid ((wantN q).length<=4):=by show _<=_; unfold wantN; rw[List.length_map]; exact E.few
  have HNEW:Hid (∀ b,w.heap.size<=b->F b):=hz.high;clear hq E hz;generalize endOrderN q=R at *;generalize wantN q=WN at *;obtain⟨⟨sa,sc,sx⟩,wad,wcap,wh,group,⟨ka,kc,kx⟩,⟨ma,mc,mx⟩,⟨la,lc,lx⟩,⟨oa,oc,ox⟩⟩:=q;simp only[QueryV.cells,IntsV.val] at *;subst hg;obtain⟨w1,hw1,hb1,hg1⟩:=newB w #[.slice sa sx.length sc,.slice wad wh.length wcap,.bool false,.slice ka kx.length kc,.slice ma mx.length mc,.slice la lx.length lc,.slice oa ox.length oc] 26;have a0:w1.cell? (aD w.heap.size 0)=some (.slice sa sx.length sc):=hg1.cell 0;have a1:w1.cell? (aD w.heap.size 1)=some (.slice wad wh.length wcap):=hg1.cell 1;have a2:w1.cell? (aD w.heap.size 2)=some (.bool false):=hg1.cell 2;have a3:w1.cell? (aD w.heap.size 3)=some (.slice ka kx.length kc):=hg1.cell 3;have a4:w1.cell? (aD w.heap.size 4)=some (.slice ma mx.length mc):=hg1.cell 4;have a5:w1.cell? (aD w.heap.size 5)=some (.slice la lx.length lc):=hg1.cell 5;have a6:w1.cell? (aD w.heap.size 6)=some (.slice oa ox.length oc):=hg1.cell 6;have HB1:Hid _:=hb1;have hCO:=HCO.out w1 hb1;clear hb1 hg1 HCO;go_enter Tryz.func66,Tryz.ntmps66;go_wp2_with fail;refine hCO.mono ?_;rintro e w2 ⟨v,rfl,hv,hb2⟩;clear hCO hw1 a0 a1 a2 a3 a4 a5 a6;obtain⟨iv,rfl,hx,hin⟩:=ints_in (F:=F) hv (by have:=HWL.out; omega) (fun b hb=>HNEW.out b (Nat.le_trans HB1.out.size hb));have HB2:Hid _:=bQ1 HB1.out hb2;have hAD:=allDifferent_any iv.ad iv.cap iv.xs w2 hin.at' hin.cap;have HIN:Hid _:=hin;rw[hx] at hAD;have HX:Hid (iv.xs=WN):=hx;clear hv hb2 hin
  cases hap:apartB WN with
  | true =>
   have HR2:Hid (R=WN):=by show _=_; rw[HR.out,if_pos hap]
   rw[hap] at hAD;clear HR hap;obtain⟨ia,ic,ix⟩:=iv;simp only at hx;subst hx;simp only[IntsV.val] at *;go_wp2_with fail;refine hAD.mono ?_;rintro e w3 ⟨rfl,hw3⟩;have hw3:=hw3.symm;subst hw3;clear hAD;go_wp2;go_ret;exact⟨⟨ia,ic,ix⟩,rfl,HR2.out.symm,HIN.out,HB2.out⟩
  | false =>
   have HR2:Hid (R=[]):=by show _=_; rw[HR.out,if_neg (by rw[hap]; decide)]
   rw[hap] at hAD;clear HR hap;obtain⟨ia,ic,ix⟩:=iv;simp only at hx;subst hx;simp only[IntsV.val] at *;go_wp2_with fail;refine hAD.mono ?_;rintro e w3 ⟨rfl,hw3⟩;have hw3:=hw3.symm;subst hw3;clear hAD;go_wp2;go_ret;exact⟨nilV,rfl,HR2.out.symm,IntsIn.nilV _ _,HB2.out⟩
theorem endKind_any (q:QueryV) (o:IntsV) (w:World) (hk:q.keys.At w) (ho:o.At w) (hoc:o.xs.length<=o.cap) :
  Calls Tryz.prog 144 #[.agg q.cells,o.val] w fun e w'=>e=.returned (.int .i64 (endKindN q o.xs))/\Below w.heap.size w w':=by
 cases hg:q.group with
 | false =>
  have hR:endKindN q o.xs=9:=by unfold endKindN; rw[if_pos hg]
  rw[hR];clear hR hk ho hoc;generalize o.val=ov;obtain⟨⟨sa,sc,sx⟩,wad,wcap,wh,group,⟨ka,kc,kx⟩,⟨ma,mc,mx⟩,⟨la,lc,lx⟩,⟨oa,oc,ox⟩⟩:=q;simp only[QueryV.cells,IntsV.val] at *;subst hg;obtain⟨w1,hw1,hb1,hg1⟩:=newB w #[.slice sa sx.length sc,.slice wad wh.length wcap,.bool false,.slice ka kx.length kc,.slice ma mx.length mc,.slice la lx.length lc,.slice oa ox.length oc] 26;have a0:w1.cell? (aD w.heap.size 0)=some (.slice sa sx.length sc):=hg1.cell 0;have a1:w1.cell? (aD w.heap.size 1)=some (.slice wad wh.length wcap):=hg1.cell 1;have a2:w1.cell? (aD w.heap.size 2)=some (.bool false):=hg1.cell 2;have a3:w1.cell? (aD w.heap.size 3)=some (.slice ka kx.length kc):=hg1.cell 3;have a4:w1.cell? (aD w.heap.size 4)=some (.slice ma mx.length mc):=hg1.cell 4;have a5:w1.cell? (aD w.heap.size 5)=some (.slice la lx.length lc):=hg1.cell 5;have a6:w1.cell? (aD w.heap.size 6)=some (.slice oa ox.length oc):=hg1.cell 6;have HB1:Hid _:=hb1;clear hb1 hg1;go_enter Tryz.func144,Tryz.ntmps144;go_wp2;go_ret;exact⟨rfl,HB1.out⟩
 | true =>
  have hR:endKindN q o.xs=if startsB o.xs q.keys.xs=true then 8 else 7:=by unfold endKindN; rw[if_neg (by rw[hg]; decide)]
  rw[hR];have HBE:Hid (∀ x,Below w.heap.size w x->Calls Tryz.prog 135 #[.slice o.ad o.xs.length o.cap,.slice q.keys.ad q.keys.xs.length q.keys.cap] x fun e w'=>e=.returned (.bool (startsB o.xs q.keys.xs))/\Below x.heap.size x w'):=fun x hx=>begins_any o.ad q.keys.ad o.cap q.keys.cap o.xs q.keys.xs x (IntsAt.below hx ho) (IntsAt.below hx hk) hoc
  clear hR hk ho hoc;obtain⟨ia,ic,ix⟩:=o;obtain⟨⟨sa,sc,sx⟩,wad,wcap,wh,group,⟨ka,kc,kx⟩,⟨ma,mc,mx⟩,⟨la,lc,lx⟩,⟨oa,oc,ox⟩⟩:=q;simp only[QueryV.cells,IntsV.val] at *;subst hg;obtain⟨w1,hw1,hb1,hg1⟩:=newB w #[.slice sa sx.length sc,.slice wad wh.length wcap,.bool true,.slice ka kx.length kc,.slice ma mx.length mc,.slice la lx.length lc,.slice oa ox.length oc] 26;have a0:w1.cell? (aD w.heap.size 0)=some (.slice sa sx.length sc):=hg1.cell 0;have a1:w1.cell? (aD w.heap.size 1)=some (.slice wad wh.length wcap):=hg1.cell 1;have a2:w1.cell? (aD w.heap.size 2)=some (.bool true):=hg1.cell 2;have a3:w1.cell? (aD w.heap.size 3)=some (.slice ka kx.length kc):=hg1.cell 3;have a4:w1.cell? (aD w.heap.size 4)=some (.slice ma mx.length mc):=hg1.cell 4;have a5:w1.cell? (aD w.heap.size 5)=some (.slice la lx.length lc):=hg1.cell 5;have a6:w1.cell? (aD w.heap.size 6)=some (.slice oa ox.length oc):=hg1.cell 6;have HB1:Hid _:=hb1;have hBE:=HBE.out w1 hb1;clear hb1 hg1 HBE;generalize startsB ix kx=B at *;go_enter Tryz.func144,Tryz.ntmps144;go_wp2_with fail;refine hBE.mono ?_;rintro e w2 ⟨rfl,hb2⟩;have HB2:Hid _:=bQ1 HB1.out hb2;clear hBE hb2 hw1
  cases B with
  | true =>
   go_wp2;go_ret;exact⟨rfl,HB2.out⟩
  | false =>
   go_wp2;go_ret;exact⟨rfl,HB2.out⟩
end Go.Proofs.YtlpbelhfpoilpabGreatDoor
namespace Go.Scout
open Go.RowKit
def ptrV (A:Nat->Nat):Option (Nat × TrD)->Value
 | none => .pointer none
 | some x => .pointer (some (aD (A x.1) 0))
def plz:PlaceD:=([],none)
structure GrpAt (T Tp:TypeId) (F:Nat->Prop) (w:World) (gb:Nat) (A:Nat->Nat) (os:List IntsV) (g:List PlaceD):Prop where
 blk:∃ c,GB w gb Tp c/\∀ i,i<g.length->c[i*2]? = some (os.getD i nilV).val/\c[i*2+1]? = some (ptrV A (g.getD i plz).2)
 ord:∀ i,i<g.length->(os.getD i nilV).xs=(g.getD i plz).1/\IntsIn F w (os.getD i nilV)/\(os.getD i nilV).xs.length<=1000
 tree:∀ p∈g,∀ x,p.2=some x->TreeF T F w (A x.1) x.2
 inj:∀ p∈g,∀ p'∈g,∀ x x',p.2=some x->p'.2=some x'->A x.1=A x'.1->x.1=x'.1
theorem GrpAt.keptF {T Tp:TypeId} {F:Nat->Prop} {w w':World} {gb:Nat} {A:Nat->Nat} {os:List IntsV} {g:List PlaceD} (h:GrpAt T Tp F w gb A os g) (hk:Kept (fun b=>F b∨b=gb) w w'):GrpAt T Tp F w' gb A os g:=by
 obtain⟨c,hc,hi⟩:=h.blk;have hkF:Kept F w w':=hk.mono fun b _ h=>.inl h
 exact⟨⟨c,hc.keep hk (.inr rfl),hi⟩,fun i hi=>⟨(h.ord i hi).1,(h.ord i hi).2.1.keptF hkF,(h.ord i hi).2.2⟩,fun p hp x hx=>(h.tree p hp x hx).keptF hkF,h.inj⟩
theorem GrpAt.below {T Tp:TypeId} {F:Nat->Prop} {w w':World} {gb:Nat} {A:Nat->Nat} {os:List IntsV} {g:List PlaceD} (h:GrpAt T Tp F w gb A os g) (hb:Below w.heap.size w w'):GrpAt T Tp F w' gb A os g:=h.keptF (Kept.of_below hb fun _ h _=>h)
theorem GrpAt.mono {T Tp:TypeId} {F G:Nat->Prop} {w:World} {gb:Nat} {A:Nat->Nat} {os:List IntsV} {g:List PlaceD} (h:GrpAt T Tp F w gb A os g) (hs:∀ b,b<w.heap.size->F b->G b):GrpAt T Tp G w gb A os g:=
 ⟨h.blk,fun i hi=>⟨(h.ord i hi).1,(h.ord i hi).2.1.mono hs,(h.ord i hi).2.2⟩,fun p hp x hx=>(h.tree p hp x hx).mono hs,h.inj⟩
theorem GrpAt.cells {T Tp:TypeId} {F:Nat->Prop} {w:World} {gb:Nat} {A:Nat->Nat} {os:List IntsV} {g:List PlaceD} (h:GrpAt T Tp F w gb A os g) {i:Nat} (hi:i<g.length) :
  w.cell? (aD gb (i*2))=some (os.getD i nilV).val/\w.cell? (aD gb (i*2+1))=some (ptrV A (g.getD i plz).2):=by
 obtain⟨c,hc,hcc⟩:=h.blk;exact⟨(hc.cell _).trans (hcc i hi).1,(hc.cell _).trans (hcc i hi).2⟩
theorem getD_memP {g:List PlaceD} {i:Nat} (hi:i<g.length):g.getD i plz∈g:=by
 rw[List.getD_eq_getElem?_getD,List.getElem?_eq_getElem hi];exact List.getElem_mem hi
theorem TreeF.blk {T:TypeId} {F:Nat->Prop} {w:World} {a:Nat} {t:TrD} (h:TreeF T F w a t):∃ c,w.heap[a]? = some (.cells c T (0,0)):=by
 obtain⟨p,n,bo,bc,bs,hb,_⟩:=h.get;exact⟨_,hb.gb⟩
theorem foldl_takeR {α β:Type} (f:β->α->β) (b:β) (l:List α) (d:α) {k:Nat} (hk:k<l.length):(l.take (k+1)).foldl f b=f ((l.take k).foldl f b) (l.getD k d):=by
 rw[take_snocR l d hk,List.foldl_append];rfl
theorem tagOf_lt:∀ {g:List PlaceD} {p:PlaceD} {x:Nat × TrD},p∈g->p.2=some x->x.1<tagOf g
 | (o,none)::g,p,x,hp,hx => by
  rcases List.mem_cons.1 hp with rfl | hp
  ·cases hx
  ·exact tagOf_lt (g:=g) hp hx
 | (o,some y)::g,p,x,hp,hx => by
  rcases List.mem_cons.1 hp with rfl | hp
  ·injection hx with hx;rw[<- hx]
   show y.1<max (y.1+1) (tagOf g)
   omega
  ·have:=tagOf_lt (g:=g) hp hx
   show x.1<max (y.1+1) (tagOf g)
   omega
def tagA (A:Nat->Nat) (n a:Nat):Nat->Nat:=fun m=>if m=n then a else A m
def mixP (n:Nat) (t:TrD) (i:Nat) (g:List PlaceD):List PlaceD:=(g.take i).map (putP n t)++g.drop i
theorem mixP_len (n:Nat) (t:TrD) (i:Nat) (g:List PlaceD):(mixP n t i g).length=g.length:=by
 unfold mixP;rw[List.length_append,List.length_map,List.length_take,List.length_drop];omega
theorem mixP_get (n:Nat) (t:TrD) {i:Nat} {g:List PlaceD} (hi:i<g.length):(mixP n t i g).getD i plz=g.getD i plz:=by
 unfold mixP;rw[List.getD_eq_getElem?_getD,List.getElem?_append_right (by rw[List.length_map,List.length_take]; omega),List.length_map,List.length_take,Nat.min_eq_left (by omega),Nat.sub_self,List.getElem?_drop,Nat.add_zero,List.getD_eq_getElem?_getD]
theorem mixP_zero (n:Nat) (t:TrD) (g:List PlaceD):mixP n t 0 g=g:=by unfold mixP; simp
theorem mixP_all (t:TrD) (g:List PlaceD):mixP (tagOf g) t g.length g=offer1 g t:=by unfold mixP offer1; simp
theorem mixP_succ (n:Nat) (t:TrD) {i:Nat} {g:List PlaceD} (hi:i<g.length):mixP n t (i+1) g=(mixP n t i g).set i (putP n t (g.getD i plz)):=by
 unfold mixP;rw[take_snocR g plz hi,List.map_append,List.set_append_right _ _ (by rw[List.length_map,List.length_take]; omega),List.length_map,List.length_take,Nat.min_eq_left (by omega),Nat.sub_self];have h2:g.drop i=g.getD i plz::g.drop (i+1):=by rw[List.drop_eq_getElem_cons hi,List.getD_eq_getElem?_getD,List.getElem?_eq_getElem hi]; rfl
 rw[h2];simp
theorem set_sameP (l:List PlaceD) {k:Nat} (hk:k<l.length):l.set k (l.getD k plz)=l:=by
 rw[List.getD_eq_getElem?_getD,List.getElem?_eq_getElem hk];exact List.set_getElem_self hk
theorem mixP_no (n:Nat) (t:TrD) {i:Nat} {g:List PlaceD} (hi:i<g.length) (h:takesB t (g.getD i plz)=false):mixP n t (i+1) g=mixP n t i g:=by
 rw[mixP_succ n t hi];have:putP n t (g.getD i plz)=(mixP n t i g).getD i plz:=by rw[mixP_get n t hi]; unfold putP; rw[h]; rfl
 rw[this];exact set_sameP _ (by rw[mixP_len]; exact hi)
theorem mixP_yes (n:Nat) (t:TrD) {i:Nat} {g:List PlaceD} (hi:i<g.length) (h:takesB t (g.getD i plz)=true):mixP n t (i+1) g=(mixP n t i g).set i ((g.getD i plz).1,some (n,t)):=by
 rw[mixP_succ n t hi];unfold putP;rw[if_pos h]
theorem mixP_mem {n:Nat} {t:TrD} {i:Nat} {g:List PlaceD} {p:PlaceD} {x:Nat × TrD} (hp:p∈mixP n t i g) (hx:p.2=some x):x=(n,t)∨∃ p'∈g,p'.2=some x:=by
 unfold mixP at hp;rcases List.mem_append.1 hp with hp | hp
 ·obtain⟨p0,hp0,rfl⟩:=List.mem_map.1 hp;rcases putP_snd hx with h | h
  ·exact .inl h
  ·exact .inr ⟨p0,List.mem_of_mem_take hp0,h⟩
 ·exact .inr ⟨p,List.mem_of_mem_drop hp,hx⟩
theorem any_takeP (t:TrD) {i:Nat} {g:List PlaceD} (hi:i<g.length):(g.take (i+1)).any (takesB t)=((g.take i).any (takesB t) || takesB t (g.getD i plz)):=by
 rw[take_snocR g plz hi,List.any_append];simp
theorem GrpAt.retag {T Tp:TypeId} {F:Nat->Prop} {w:World} {gb:Nat} {A:Nat->Nat} {os:List IntsV} {g:List PlaceD} (h:GrpAt T Tp F w gb A os g) (a:Nat):GrpAt T Tp F w gb (tagA A (tagOf g) a) os g:=by
 have hA:∀ p∈g,∀ x,p.2=some x->tagA A (tagOf g) a x.1=A x.1:=fun p hp x hx=>by
  unfold tagA;rw[if_neg (by have:=tagOf_lt hp hx; omega)]
 obtain⟨c,hc,hi⟩:=h.blk;refine⟨⟨c,hc,fun i hil=>⟨(hi i hil).1,?_⟩⟩,h.ord,fun p hp x hx=>by rw[hA p hp x hx]; exact h.tree p hp x hx,fun p hp p' hp' x x' hx hx' e=>?_⟩
 ·rw[(hi i hil).2]
  cases hx:(g.getD i plz).2 with
  | none => rfl
  | some x =>
   show some (Value.pointer (some (aD (A x.1) 0)))=some (.pointer (some (aD (tagA A (tagOf g) a x.1) 0)))
   rw[hA _ (getD_memP hil) x hx]
 ·rw[hA p hp x hx,hA p' hp' x' hx'] at e;exact h.inj p hp p' hp' x x' hx hx' e
theorem GrpAt.put {T Tp:TypeId} {F:Nat->Prop} {w:World} {gb:Nat} {A:Nat->Nat} {os:List IntsV} {g:List PlaceD} (h:GrpAt T Tp F w gb A os g) (hF:¬ F gb) {i n:Nat} {t:TrD} (hi:i<g.length) (ht:TreeF T F w (A n) t) (hn:∀ p∈g,∀ x,p.2=some x->A x.1=A n->x.1=n) :
  GrpAt T Tp F (w.setCell (aD gb (i*2+1)) (.pointer (some (aD (A n) 0)))) gb A os (g.set i ((g.getD i plz).1,some (n,t))):=by
 obtain⟨c,hc,hcc⟩:=h.blk;have hk:Kept F w (w.setCell (aD gb (i*2+1)) (.pointer (some (aD (A n) 0)))):=Kept.setCell _ _ _ hF;have hgd:∀ j,(g.set i ((g.getD i plz).1,some (n,t))).getD j plz=if i=j then ((g.getD i plz).1,some (n,t)) else g.getD j plz:=fun j=>by
  rw[List.getD_eq_getElem?_getD,List.getElem?_set,List.getD_eq_getElem?_getD];by_cases e:i=j
  ·rw[if_pos e,if_pos e];subst e;rw[if_pos hi];rfl
  ·rw[if_neg e,if_neg e];rfl
 have hmem:∀ p∈g.set i ((g.getD i plz).1,some (n,t)),∀ x,p.2=some x->x=(n,t)∨∃ p'∈g,p'.2=some x:=fun p hp x hx=>by
  rcases List.mem_or_eq_of_mem_set hp with hp | rfl
  ·exact .inr ⟨p,hp,hx⟩
  ·injection hx with hx;exact .inl hx.symm
 have hsz:i*2+1<c.size:=by
  have:=(hcc i hi).2;exact (Array.getElem?_eq_some_iff.1 this).1
 refine⟨⟨c.setIfInBounds (i*2+1) (.pointer (some (aD (A n) 0))),hc.set _ _,fun j hj=>?_⟩,fun j hj=>?_,fun p hp x hx=>?_,fun p hp p' hp' x x' hx hx' e=>?_⟩
 ·rw[List.length_set] at hj;rw[Array.getElem?_setIfInBounds,Array.getElem?_setIfInBounds,if_neg (by omega),hgd j];refine⟨(hcc j hj).1,?_⟩;by_cases e:i=j
  ·subst e;rw[if_pos rfl,if_pos hsz,if_pos rfl];rfl
  ·rw[if_neg (by omega),if_neg e];exact (hcc j hj).2
 ·rw[List.length_set] at hj;have:=h.ord j hj;refine⟨?_,this.2.1.keptF hk,this.2.2⟩;rw[hgd j];by_cases e:i=j
  ·subst e;rw[if_pos rfl];exact this.1
  ·rw[if_neg e];exact this.1
 ·rcases hmem p hp x hx with rfl | ⟨p',hp',hx'⟩
  ·exact ht.keptF hk
  ·exact (h.tree p' hp' x hx').keptF hk
 ·rcases hmem p hp x hx with rfl | ⟨q,hq,hqx⟩
  ·rcases hmem p' hp' x' hx' with rfl | ⟨q',hq',hqx'⟩
   ·rfl
   ·exact (hn q' hq' x' hqx' e.symm).symm
  ·rcases hmem p' hp' x' hx' with rfl | ⟨q',hq',hqx'⟩
   ·exact hn q hq x hqx e
   ·exact h.inj q hq q' hq' x x' hqx hqx' e
theorem GrpAt.frozen {T Tp:TypeId} {F:Nat->Prop} {w:World} {gb:Nat} {A:Nat->Nat} {os:List IntsV} {g:List PlaceD} (h:GrpAt T Tp F w gb A os g) (j:Nat):w.frozen? (aD gb j)=false:=by
 obtain⟨c,hc,_⟩:=h.blk;exact hc.frozen j
theorem GrpAt.lt {T Tp:TypeId} {F:Nat->Prop} {w:World} {gb:Nat} {A:Nat->Nat} {os:List IntsV} {g:List PlaceD} (h:GrpAt T Tp F w gb A os g):gb<w.heap.size:=by
 obtain⟨c,hc,_⟩:=h.blk;exact hc.lt
theorem TreeF.lt {T:TypeId} {F:Nat->Prop} {w:World} {a:Nat} {t:TrD} (h:TreeF T F w a t):a<w.heap.size:=by
 obtain⟨c,hc⟩:=h.blk;exact (Array.getElem?_eq_some_iff.1 hc).1
end Go.Scout
namespace Go.Proofs.YtlpbelhfpoilpabGreatDoor
open Go.RowKit Go.Scout Go.Shelf
theorem Tryz.infoTree0:(Tryz.prog.info? 95).map (fun i=>i.size)=some 14:=by kernel_rfl
theorem Tryz.infoTree:∃ j,Tryz.prog.info? 95=some j/\j.size≠0:=by
 have h:=Tryz.infoTree0
 cases hi:Tryz.prog.info? 95 with
 | none => rw[hi] at h; cases h
 | some j =>
  rw[hi] at h;injection h with h;have h:j.size=14:=h;exact⟨j,rfl,by rw[h]; decide⟩
theorem indexPtr_any (ao:Option Addr) (cap:Nat) (xs:List Nat) (v:Nat) (w:World) (hx:PtrsAt w ao xs) (hv:∃ c t,w.heap[v]? = some (.cells c t (0,0))) (hxs:∀ x∈xs,∃ c t,w.heap[x]? = some (.cells c t (0,0))) :
  Calls Tryz.prog 146 #[.slice ao xs.length cap,.pointer (some (aD v 0))] w fun e w'=>∃ r:Int,e=.returned (.int .i64 r)/\Hid (0<=r↔v∈xs)/\w' = w:=by
 have hl:=hx.1;have HEQ:Hid (∀ x∈xs,(binOp .eql 85 (.pointer (some (aD v 0))) (.pointer (some (aD x 0)))).run Tryz.prog w=.ok (.bool (decide (v=x))) w):=fun x hm=>by
  obtain⟨j,hj,hj0⟩:=Tryz.infoTree;by_cases e:v=x
  ·subst e;rw[run_eql_ptr_same w (aD v 0) Tryz.underlying85 hj];simp
  ·obtain⟨cv,tv,hcv⟩:=hv;obtain⟨cx,tx,hcx⟩:=hxs x hm;rw[run_eql_ptr_other w Tryz.underlying85 hj hj0 (by intro h; injection h with h; exact e h) hcv hcx];simp[e]
 have HX:Hid (PtrsAt w ao xs):=hx;clear hx hv hxs;go_enter Tryz.func146,Tryz.ntmps146;go_wp2;go_loop [8] (fun i=>∃ k:Nat,k<=xs.length/\i=.int .i64 k/\Hid (v ∉ xs.take k)) (fun i=>xs.length-(intOf i).toNat)
 case atStart=>exact⟨0,Nat.zero_le _,rfl,by show _ ∉ _; simp⟩
 case round=>
  obtain⟨k,hk,rfl,HN⟩:=hrel;by_cases hlt:k<xs.length
  ·obtain⟨b,off,rfl,hc⟩:=PtrsAt.get HX.out hlt;have h1:=hc k hlt;have hm:xs.getD k 0∈xs:=getD_memR hlt;have HE:=HEQ.out _ hm;have HT:Hid (xs.take (k+1)=xs.take k++[xs.getD k 0]):=take_snocR xs 0 hlt;have HG:Hid _:=hm;obtain⟨x,hxe⟩:∃ x,x=xs.getD k 0:=⟨_,rfl⟩
   rw[<- hxe] at h1 HE HT HG;clear hc hm hxe;by_cases hvx:v=x
   ·have HV:Hid _:=hvx;rw[decide_eq_true hvx] at HE;clear hvx;go_wp2;go_ret;exact⟨k,rfl,⟨fun _=>by rw[HV.out]; exact HG.out,fun _=>by omega⟩,rfl⟩
   ·have HV:Hid _:=hvx;rw[decide_eq_false hvx] at HE;clear hvx;go_wp2;go_round
    case rel=>exact⟨k+1,by omega,by go_num,by
     show _ ∉ _
     rw[HT.out,List.mem_append,List.mem_singleton];rintro (h | h)
     ·exact HN.out h
     ·exact HV.out h⟩
    case measure=>simp[intOf]; omega
  ·have e:xs.length=k:=by omega
   have HN2:Hid (v ∉ xs):=by
    have:=HN.out;rw[<- e,List.take_length] at this;exact this
   go_wp2;go_ret;exact⟨-1,rfl,⟨fun h=>absurd h (by omega),fun h=>absurd h HN2.out⟩,rfl⟩
theorem containsPtr_any (ao:Option Addr) (cap:Nat) (xs:List Nat) (v:Nat) (w:World) (hx:PtrsAt w ao xs) (hv:∃ c t,w.heap[v]? = some (.cells c t (0,0))) (hxs:∀ x∈xs,∃ c t,w.heap[x]? = some (.cells c t (0,0))) :
  Calls Tryz.prog 131 #[.slice ao xs.length cap,.pointer (some (aD v 0))] w fun e w'=>e=.returned (.bool (decide (v∈xs)))/\w' = w:=by
 have h:=indexPtr_any ao cap xs v w hx hv hxs;clear hx hv hxs;go_enter Tryz.func131,Tryz.ntmps131;go_wp2_with fail;refine h.mono ?_;clear h;rintro e w2 ⟨r,rfl,HB,rfl⟩;go_wp2;go_ret;exact⟨ret_bool (by rw[Bool.eq_iff_iff,decide_eq_true_eq,decide_eq_true_eq]; exact HB.out),rfl⟩
theorem anyPiece_any {F:Nat->Prop} {w:World} {gb:Nat} {A:Nat->Nat} {os:List IntsV} {g:List PlaceD} (h:GrpAt 95 141 F w gb A os g) (h0:0<g.length) (gc:Nat) :
  Calls Tryz.prog 128 #[.slice (some (aD gb 0)) g.length gc] w fun e w'=>e=.returned (ptrV A (g.getD 0 plz).2)/\w' = w:=by
 obtain⟨-,c1⟩:=h.cells h0;clear h;rw[Nat.zero_mul,Nat.zero_add] at c1;generalize ptrV A (g.getD 0 plz).2=pv at *;have h1:(0:Int)<(g.length:Int):=by omega
 go_enter Tryz.func128,Tryz.ntmps128;go_wp2;go_ret;exact⟨rfl,rfl⟩
end Go.Proofs.YtlpbelhfpoilpabGreatDoor
