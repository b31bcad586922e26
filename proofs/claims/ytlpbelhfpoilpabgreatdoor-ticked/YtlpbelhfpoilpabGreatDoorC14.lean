import Derived.Laws.IdiomCopy
import Derived.Lib.AppendZerosOnto
import Derived.Lib.Overlaps
import Derived.Shelf.Spec.SlicesInsert
import Derived.Lib.SliceRun
import Derived.Laws.Externs
import Derived.Test.YtlpbelhfpoilpabGreatDoorProg
import Derived.Test.YtlpbelhfpoilpabGreatDoorC01
import Derived.Test.YtlpbelhfpoilpabGreatDoorC12
import Derived.Test.YtlpbelhfpoilpabGreatDoorC13
set_option linter.all false
set_option maxRecDepth 100000
set_option maxHeartbeats 16000000
namespace Go.Scout
open Go.RowKit
theorem take_setV (xs:List Value) (o:Nat) (u:Value) (h:o<xs.length):(xs.set o u).take (o+1)=xs.take o++[u]:=by
 rw[List.set_eq_take_append_cons_drop,if_pos h];have:xs.take o++u::xs.drop (o+1)=(xs.take o++[u])++xs.drop (o+1):=by simp
 rw[this,List.take_left' (by simp; omega)]
theorem drop_setV (xs:List Value) (o k:Nat) (u:Value) (h:o<k):(xs.set o u).drop k=xs.drop k:=List.drop_set_of_lt h
theorem own_setCells {base:Nat} {e:TypeId} {sz:Nat} {v:Value} {n g:Nat} (hg:v.ownBlock=some g):∀ (vs:List Value) (o:Nat) {w:World} {xs:List Value},w.ownsRow base e sz v n xs->o+vs.length<=n*sz->
  (w.setCells g o vs).ownsRow base e sz v n (xs.take o++vs++xs.drop (o+vs.length))
 | [],o,w,xs,h,_ => by simpa [World.setCells] using h
 | u::r,o,w,xs,h,hl => by
  have hx:=h.1;simp only[List.length_cons] at hl;have h1:=own_setCells hg r (o+1) (own_set h hg (j:=o) (by omega) u) (by omega);rw[take_setV xs o u (by omega),drop_setV xs o _ u (by omega)] at h1;have e1:xs.take o++u::r++xs.drop (o+(u::r).length)=xs.take o++[u]++r++xs.drop (o+1+r.length):=by
   rw[List.length_cons,show o+(r.length+1)=o+1+r.length by omega];simp
  rw[e1];exact h1
theorem Kept.setCells {s:Nat->Prop} {g:Nat} (hg:¬ s g):∀ (vs:List Value) (o:Nat) (W:World),Kept s W (W.setCells g o vs)
 | [],_,W => Kept.refl _ W
 | u::r,o,W => (Kept.setCell W (aD g o) u hg).trans (Kept.setCells hg r (o+1) (W.setCell (aD g o) u))
theorem own_more {w:World} {base:Nat} {e:TypeId} {sz g n cap:Nat} {xs:List Value} (h:w.ownsRow base e sz (.slice (some (aD g 0)) n cap) n xs) (hc:n+1<=cap):∃ ys,ys.length=sz/\w.ownsRow base e sz (.slice (some (aD g 0)) (n+1) cap) (n+1) (xs++ys):=by
 rcases h.2 with⟨h0,_⟩ | ⟨g',cap',cur,e1,hb,hh,hn,hm,hs,ht⟩
 ·cases h0
 injection e1 with e1 _ e2;injection e1 with e1;injection e1 with e1;subst e1 e2;have h1:(n+1)*sz<=cap*sz:=Nat.mul_le_mul_right _ hc;have h2:(n+1)*sz=n*sz+sz:=Nat.succ_mul n sz;have hcl:cur.toList.length=cap*sz:=by rw[Array.length_toList]; exact hs
 have hyl:((cur.toList.drop (n*sz)).take sz).length=sz:=by rw[List.length_take,List.length_drop]; omega
 refine⟨(cur.toList.drop (n*sz)).take sz,hyl,⟨by rw[List.length_append,h.1,hyl,h2],.inr ⟨g,cap,cur,rfl,hb,hh,hc,hm,hs,?_⟩⟩⟩;rw[h2,List.take_add,ht]
theorem own_cut {w:World} {base:Nat} {e:TypeId} {sz g n cap:Nat} {xs:List Value} (h:w.ownsRow base e sz (.slice (some (aD g 0)) n cap) n xs) {m:Nat} (hm:m<=n):w.ownsRow base e sz (.slice (some (aD g 0)) m cap) m (xs.take (m*sz)):=by
 rcases h.2 with⟨h0,_⟩ | ⟨g',cap',cur,e1,hb,hh,hn,hmx,hs,ht⟩
 ·cases h0
 injection e1 with e1 _ e2;injection e1 with e1;injection e1 with e1;subst e1 e2;have h1:m*sz<=n*sz:=Nat.mul_le_mul_right _ hm;refine⟨by rw[List.length_take,h.1]; omega,.inr ⟨g,cap,cur,rfl,hb,hh,by omega,hmx,hs,?_⟩⟩;rw[<- ht,List.take_take,Nat.min_eq_left h1]
theorem own_cells2 {w:World} {base:Nat} {e:TypeId} {sz g n cap:Nat} {xs:List Value} (h:w.ownsRow base e sz (.slice (some (aD g 0)) n cap) n xs):n<=cap/\cap<=maxLen/\(∀ j u,xs[j]? = some u->w.cell? (aD g j)=some u)/\(∀ j,j<cap*sz->(w.cell? (aD g j)).isSome=true)/\(∀ j,w.frozen? (aD g j)=false)/\w.shape? g=some (e,cap*sz)/\g<w.heap.size:=by
 rcases h.2 with⟨h0,_⟩ | ⟨g',cap',cur,e1,hb,hh,hn,hmx,hs,ht⟩
 ·cases h0
 injection e1 with e1 _ e2;injection e1 with e1;injection e1 with e1;subst e1 e2;have hlt:g<w.heap.size:=(Array.getElem?_eq_some_iff.1 hh).1;refine⟨hn,hmx,fun j u hj=>?_,fun j hj=>?_,fun j=>?_,?_,hlt⟩
 ·rw[<- ht,List.getElem?_take] at hj;split at hj
  ·simp only[World.cell?,hh]
   simpa using hj
  ·cases hj
 ·simp only[World.cell?,hh];rw[<- hs] at hj;simp[hj]
 ·simp[World.frozen?,hh]
 ·simp[World.shape?,hh,hs]
theorem run_copyN {P:Program} (w:World) (dT sT ty elem:TypeId) (size b o dLen dCap:Nat) (a:Addr) (sLen sCap:Nat) (cs:List Value)
  (hu:P.underlying dT=some (.slice elem)) (hs:(P.info? elem).map (·.size)=some size) (hn:cs.length=Nat.min sLen dLen*size)
  (hsrc:∀ j v,cs[j]? = some v->w.cell? (a.add j)=some v) (hc:∀ j,j<cs.length->(w.cell? (aD b (o+j))).isSome=true) (hf:∀ j,j<cs.length->w.frozen? (aD b (o+j))=false) (h1:∀ v∈cs,v.oneCell' = true) :
  (Builtin.copy_ #[dT,sT] ty #[.slice (some (aD b o)) dLen dCap,.slice (some a) sLen sCap]).run P w=.ok (goInt (Nat.min sLen dLen)) (w.setCells b o cs):=by
 have hl:=run_loadCells_list (P:=P) w a cs hsrc;have hst:=run_storeCells_cells (P:=P) b o cs 0 w (by simpa using hc) (by simpa using hf) h1
 cases hq:P.info? elem with
 | none => simp[hq] at hs
 | some i =>
  have hi:i.size=size:=by simpa [hq] using hs
  simp[Builtin.copy_,run_underlying hu,Builtin.lenOf,Builtin.firstCells,sizeOf,typeInfo,hq,hi,<- hn,hl,hst]
theorem run_clear1 {P:Program} (w:World) (t e ty:TypeId) (z:Value) (ht:P.underlying t=some (.slice e)) (hv:∀ w,(zeroValue e).run P w=.ok z w) (zs:List Value) (hz:(Builtin.zeroCells z.cells 1).toList=zs) (h1:∀ v∈zs,v.oneCell' = true) (b o c:Nat)
  (hc:∀ j,j<zs.length->(w.cell? (aD b (o+j))).isSome=true) (hf:∀ j,j<zs.length->w.frozen? (aD b (o+j))=false) :
  (Builtin.clear_ #[t] ty #[.slice (some (aD b o)) 1 c]).run P w=.ok (.tuple #[]) (w.setCells b o zs):=by
 have hst:=run_storeCells_cells (P:=P) b o zs 0 w (by simpa using hc) (by simpa using hf) h1;simp only[Nat.add_zero] at hst;simp[Builtin.clear_,run_underlying ht,hv,hz,hst]
theorem CondsAt.keptF {w w':World} {ao:Option Addr} {cs:List CondD} {s:Nat->Prop} (h:CondsAt w ao cs) (hk:Kept s w w') (hs:0<cs.length->∀ a,ao=some a->s a.block):CondsAt w' ao cs:=⟨h.1,fun i hi=>by
 obtain⟨b,off,e,c0,c1,c2,c3,c4⟩:=h.2 i hi;have hb:s b:=hs (by omega) (aD b off) e;have key:∀ {o:Nat} {v:Value},w.cell? (aD b o)=some v->w'.cell? (aD b o)=some v:=fun {o v} hc=>by
  rw[World.cell?_of_block (hk.block b (cell_lt hc) hb)];exact hc
 exact⟨b,off,e,key c0,key c1,key c2,key c3,key c4⟩⟩
structure CpS (e:TypeId) (w:World) (wh:List ClauseV) (k:Nat) (v:Value) (ls:List ClauseV) (x:World):Prop where
 own:x.ownsRow w.heap.size e 1 v ls.length (ls.map ClauseV.val)
 len:ls.length=wh.length
 cs:∀ i,i<ls.length->(ls.getD i lz).cs=(wh.getD i lz).cs/\CondsAt x (ls.getD i lz).ad (ls.getD i lz).cs
 new:∀ i,i<k->i<ls.length->∀ a,(ls.getD i lz).ad=some a->w.heap.size<=a.block
 old:∀ i,k<=i->i<ls.length->ls.getD i lz=wh.getD i lz
 off:∀ i,i<ls.length->0<(ls.getD i lz).cs.length->∀ a,(ls.getD i lz).ad=some a->v.ownBlock≠some a.block
 below:Below w.heap.size w x
theorem CpS.start {e:TypeId} {w x:World} {wh:List ClauseV} {v:Value} {ao:Option Addr} (h:ClausesAt w ao wh) (ho:x.ownsRow w.heap.size e 1 v wh.length (wh.map ClauseV.val)) (hb:Below w.heap.size w x):CpS e w wh 0 v wh x:=
 ⟨ho,rfl,fun i hi=>⟨rfl,(h.2.2 i hi).below hb⟩,fun i hi=>absurd hi (Nat.not_lt_zero _),fun i _ _=>rfl,fun i hi hc a ea e2=>by
  obtain⟨b,off,e3,c0,_⟩:=(h.2.2 i hi).2 0 hc;rw[ea] at e3;injection e3 with e3;have h1:b<w.heap.size:=cell_lt c0;have h2:=(ownsRow_lt ho e2).1;rw[e3] at h2;have h3:w.heap.size<=b:=h2;omega,hb⟩
theorem CpS.step {e:TypeId} {w x y:World} {wh:List ClauseV} {k:Nat} {v:Value} {ls:List ClauseV} (h:CpS e w wh k v ls x) (hb:Below x.heap.size x y):CpS e w wh k v ls y:=
 ⟨own_below h.own hb,h.len,fun i hi=>⟨(h.cs i hi).1,(h.cs i hi).2.below hb⟩,h.new,h.old,h.off,h.below.trans (hb.mono h.below.size)⟩
theorem getD_setC (ls:List ClauseV) (k i:Nat) (u:ClauseV) (hk:k<ls.length):(ls.set k u).getD i lz=if i=k then u else ls.getD i lz:=by
 rw[List.getD_eq_getElem?_getD,List.getElem?_set];by_cases e:k=i
 ·subst e;simp[hk]
 ·rw[if_neg e,if_neg (fun h=>e h.symm)];rfl
theorem CpS.next {e:TypeId} {w x y:World} {wh:List ClauseV} {k:Nat} {v:Value} {ls:List ClauseV} (h:CpS e w wh k v ls x) (hk:k<ls.length) (hb:Below x.heap.size x y) {ad:Option Addr} {cap:Nat} (hc:CondsAt y ad (wh.getD k lz).cs) (hn:∀ a,ad=some a->x.heap.size<=a.block) :
  ∃ g cp,v=.slice (some (aD g 0)) ls.length cp/\CpS e w wh (k+1) v (ls.set k ⟨ad,cap,(wh.getD k lz).cs⟩) (y.setCell (aD g k) (.slice ad (wh.getD k lz).cs.length cap)):=by
 have hy:=h.step hb;rcases h.own.2 with⟨_,h1⟩ | ⟨g,cp,cur,hv,hbg,hh,hcp,hm,hs,ht⟩
 ·omega
 refine⟨g,cp,hv,?_⟩;have hvb:v.ownBlock=some g:=by rw[hv]; rfl
 have hgx:g<x.heap.size:=(ownsRow_lt h.own hvb).2;have hk1:Kept (fun b=>b≠g) y (y.setCell (aD g k) (.slice ad (wh.getD k lz).cs.length cap)):=Kept.setCell _ _ _ (fun h=>h rfl);have hls:(ls.set k ⟨ad,cap,(wh.getD k lz).cs⟩).length=ls.length:=List.length_set ..;refine⟨?_,hls.trans h.len,fun i hi=>?_,fun i hi hl=>?_,fun i hi hl=>?_,fun i hi=>?_,h.below.trans ((hb.mono h.below.size).trans (hk1.below (Nat.le_trans h.below.size hb.size) fun b hb=>by omega))⟩
 ·have h2:=own_setCells hvb [.slice ad (wh.getD k lz).cs.length cap] k hy.own (by simp; omega);have e1:(ls.map ClauseV.val).take k++[.slice ad (wh.getD k lz).cs.length cap]++(ls.map ClauseV.val).drop (k+[Value.slice ad (wh.getD k lz).cs.length cap].length)=(ls.set k ⟨ad,cap,(wh.getD k lz).cs⟩).map ClauseV.val:=by
   rw[List.map_set,List.set_eq_take_append_cons_drop,if_pos (by rw[List.length_map]; exact hk)];simp[ClauseV.val]
  rw[e1] at h2;rw[hls];exact h2
 ·rw[hls] at hi;rw[getD_setC ls k i _ hk];split
  ·rename_i e1
   subst e1;refine⟨rfl,CondsAt.keptF hc hk1 fun _ a ea=>?_⟩;have:=hn a ea;omega
  ·refine⟨(h.cs i hi).1,CondsAt.keptF (hy.cs i hi).2 hk1 fun h0 a ea e1=>h.off i hi h0 a ea (by rw[hvb,e1])⟩
 ·rw[hls] at hl;rw[getD_setC ls k i _ hk];split
  ·intro a ea;exact Nat.le_trans h.below.size (hn a ea)
  ·exact h.new i (by omega) hl
 ·rw[hls] at hl;rw[getD_setC ls k i _ hk,if_neg (by omega)];exact h.old i (by omega) hl
 ·rw[hls] at hi;rw[getD_setC ls k i _ hk];split
  ·intro _ a ea e2;have:=hn a ea;rw[hvb] at e2;injection e2 with e2;omega
  ·exact h.off i hi
structure GOk (q:QueryV) (s:Nat) (g:List PlaceD):Prop where
 all:∀ p∈g,∀ x,p.2=some x->TOk q x.2/\x.2.d.sources=s/\x.2.ns.length+2<=5*s
 head:∃ h r,g=([],h)::r/\∀ x,h=some x->x.2.ns.length+3<=5*s
 short:g.length<=20
theorem starts_nil (l:List Int):startsB l []=true:=by unfold startsB; simp
theorem putP_fst (n:Nat) (t:TrD) (p:PlaceD):(putP n t p).1=p.1:=by unfold putP; split <;> rfl
theorem offer1_len (g:List PlaceD) (t:TrD):(offer1 g t).length=g.length:=by unfold offer1; simp
theorem offer1_fst (g:List PlaceD) (t:TrD):(offer1 g t).map Prod.fst=g.map Prod.fst:=by
 unfold offer1;rw[List.map_map];exact List.map_congr_left fun p _=>putP_fst _ _ p
theorem putP_snd {n:Nat} {t:TrD} {p:PlaceD} {x:Nat × TrD} (h:(putP n t p).2=some x):x=(n,t)∨p.2=some x:=by
 unfold putP at h;split at h
 ·injection h with h; exact .inl h.symm
 ·exact .inr h
structure TIn (q:QueryV) (s:Nat) (t:TrD):Prop where
 ok:TOk q t
 src:t.d.sources=s
 len:t.ns.length+3<=5*s
theorem GOk.offer {q:QueryV} {s:Nat} {g:List PlaceD} {t:TrD} (h:GOk q s g) (ht:TIn q s t):GOk q s (offer1 g t)/\(headP (offer1 g t)).isSome=true:=by
 obtain⟨hh,r,rfl,hx⟩:=h.head;refine⟨⟨fun p hp x hx=>?_,?_,by rw[offer1_len]; exact h.short⟩,?_⟩
 ·obtain⟨p0,hp0,rfl⟩:=List.mem_map.1 hp;rcases putP_snd hx with rfl | h0
  ·exact⟨ht.ok,ht.src,Nat.le_of_succ_le ht.len⟩
  ·exact h.all p0 hp0 x h0
 ·refine⟨(putP (tagOf (([],hh)::r)) t ([],hh)).2,r.map (putP (tagOf (([],hh)::r)) t),?_,fun x hx'=>?_⟩
  ·show putP _ t ([],hh)::_=_
   rw[show putP (tagOf (([],hh)::r)) t ([],hh)=([],(putP (tagOf (([],hh)::r)) t ([],hh)).2) from Prod.ext (putP_fst _ _ _) rfl]
  ·rcases putP_snd hx' with rfl | h0
   ·exact ht.len
   ·exact hx x h0
 ·show (headP (putP _ t ([],hh)::_)).isSome=true
  unfold putP takesB;rw[starts_nil,Bool.true_and]
  cases hh with
  | none => rfl
  | some y =>
   by_cases hc:t.d.cost<y.2.d.cost
   ·rw[if_pos (by simpa using hc)]; rfl
   ·rw[if_neg (by simpa using hc)]; rfl
theorem GOk.resort {ts:List TableD} {q:QueryV} {s:Nat} {g:List PlaceD} (h:GOk q s g) (hs:(headP g).isSome=true) (o:List Int):GOk q s (resortS ts q g o)/\(headP (resortS ts q g o)).isSome=true:=by
 obtain⟨hh,r,rfl,hx⟩:=h.head
 cases hh with
 | none => cases hs
 | some y =>
  have hy:=h.all ([],some y) List.mem_cons_self y rfl;have hT:sortedT ts q ((headP (([],some y)::r)).getD trz) o=sortedT ts q y.2 o:=rfl;have hc:=sortedT_cost ts q y.2 o hy.1.cost;unfold resortS;rw[hT];have hput:putP (tagOf (([],some y)::r)) (sortedT ts q y.2 o) ([],some y)=([],some y):=by
   unfold putP takesB;rw[if_neg];simp only[Bool.and_eq_true,decide_eq_true_eq,not_and];intro _;omega
  refine⟨⟨fun p hp x hx=>?_,?_,by rw[offer1_len]; exact h.short⟩,?_⟩
  ·obtain⟨p0,hp0,rfl⟩:=List.mem_map.1 hp;rcases putP_snd hx with rfl | h0
   ·refine⟨sortedT_ok o hy.1,by rw[sortedT_sources]; exact hy.2.1,?_⟩;obtain⟨h1,r1,e1,hl⟩:=h.head;injection e1 with e1 e2;have e3:some y=h1:=congrArg Prod.snd e1;have:=hl y e3.symm
    show (sortedT ts q y.2 o).ns.length+2<=5*s
    rw[sortedT_len];omega
   ·exact h.all p0 hp0 x h0
  ·refine⟨some y,r.map (putP (tagOf (([],some y)::r)) (sortedT ts q y.2 o)),?_,hx⟩
   show putP _ _ ([],some y)::_=_
   rw[hput]
  ·show (headP (putP _ _ ([],some y)::_)).isSome=true
   rw[hput];rfl
theorem resort_fst (ts:List TableD) (q:QueryV) (g:List PlaceD) (o:List Int):(resortS ts q g o).map Prod.fst=g.map Prod.fst:=offer1_fst _ _
theorem offerN_fst (g:List PlaceD) (l:List TrD):(offerN g l).2.map Prod.fst=g.map Prod.fst:=by
 unfold offerN
 suffices h:∀ (l:List TrD) (x:Bool × List PlaceD),(l.foldl offerS x).2.map Prod.fst=x.2.map Prod.fst from h l (false,g)
 intro l
 induction l with
 | nil => intro x; rfl
 | cons t l ih => intro x; rw[List.foldl_cons,ih]; exact offer1_fst _ _
theorem offerN_ok {q:QueryV} {s:Nat}:∀ {l:List TrD} {x:Bool × List PlaceD},GOk q s x.2->(∀ t∈l,TIn q s t)->(x.1=true->(headP x.2).isSome=true)->GOk q s (l.foldl offerS x).2/\((l.foldl offerS x).1=true->(headP (l.foldl offerS x).2).isSome=true)
 | [],_,h,_,hx => ⟨h,hx⟩
 | t::l,x,h,hl,hx => by
  have:=h.offer (hl t List.mem_cons_self);exact offerN_ok (l:=l) (x:=offerS x t) this.1 (fun u hu=>hl u (List.mem_cons_of_mem _ hu)) (fun _=>this.2)
theorem resorts_ok {ts:List TableD} {q:QueryV} {s:Nat}:∀ {os:List (List Int)} {g:List PlaceD},GOk q s g->(headP g).isSome=true->GOk q s (os.foldl (resortS ts q) g)/\(headP (os.foldl (resortS ts q) g)).isSome=true
 | [],_,h,hs => ⟨h,hs⟩
 | o::os,g,h,hs => by
  have:=h.resort (ts:=ts) hs o;exact resorts_ok (os:=os) this.1 this.2
theorem resorts_fst (ts:List TableD) (q:QueryV):∀ (os:List (List Int)) (g:List PlaceD),(os.foldl (resortS ts q) g).map Prod.fst=g.map Prod.fst
 | [],_ => rfl
 | o::os,g => by rw[List.foldl_cons,resorts_fst ts q os,resort_fst]
theorem improveN_ok {ts:List TableD} {q:QueryV} {s:Nat} {g:List PlaceD} {l:List TrD} (h:GOk q s g) (hl:∀ t∈l,TIn q s t) :
  GOk q s (improveN ts q g l).2/\((improveN ts q g l).1=true->(headP (improveN ts q g l).2).isSome=true)/\(improveN ts q g l).2.map Prod.fst=g.map Prod.fst:=by
 have h1:=offerN_ok (l:=l) (x:=(false,g)) h hl (fun e=>by cases e);unfold improveN;split
 ·rename_i hc
  have h2:=resorts_ok (ts:=ts) (os:=(g.map Prod.fst).drop 1) h1.1 (h1.2 hc);exact⟨h2.1,fun _=>h2.2,by rw[resorts_fst]; exact offerN_fst g l⟩
 ·exact⟨h1.1,fun (e:false=true)=>(by cases e),offerN_fst g l⟩
theorem pieces_in:∀ (g:List PlaceD) (acc:List (Nat × TrD)) (x:Nat × TrD),x∈g.foldl pieceS acc->x∈acc∨∃ p∈g,p.2=some x
 | [],_,_,h => .inl h
 | p::g,acc,x,h => by
  rcases pieces_in g (pieceS acc p) x h with h | ⟨p',hp,e⟩
  ·unfold pieceS at h;split at h
   ·exact .inl h
   ·rename_i y e
    split at h
    ·exact .inl h
    ·rcases List.mem_append.1 h with h | h
     ·exact .inl h
     ·rw[List.mem_singleton] at h;rw[h];exact .inr ⟨p,List.mem_cons_self,e⟩
  ·exact .inr ⟨p',List.mem_cons_of_mem _ hp,e⟩
theorem pieces_len:∀ (g:List PlaceD) (acc:List (Nat × TrD)),(g.foldl pieceS acc).length<=acc.length+g.length
 | [],_ => Nat.le_refl _
 | p::g,acc => by
  refine Nat.le_trans (pieces_len g (pieceS acc p)) ?_;have:(pieceS acc p).length<=acc.length+1:=by
   unfold pieceS;split
   ·omega
   ·split
    ·omega
    ·simp
  simp only[List.length_cons];omega
theorem mateS_or (col:Int) (m:Option TrD) (x:Nat × TrD):mateS col m x=some x.2∨mateS col m x=m:=by
 unfold mateS;generalize (startsB x.2.d.order [col]&&_)=c
 cases c
 ·exact .inr rfl
 ·exact .inl rfl
theorem mate_in (col:Int):∀ (l:List (Nat × TrD)) (m:Option TrD) (t:TrD),l.foldl (mateS col) m=some t->m=some t∨∃ n,(n,t)∈l
 | [],_,_,h => .inl h
 | x::l,m,t,h => by
  rcases mate_in col l (mateS col m x) t h with h | ⟨n,h⟩
  ·rcases mateS_or col m x with e | e
   ·rw[e] at h;injection h with h;exact .inr ⟨x.1,by rw[<- h]; exact List.mem_cons_self⟩
   ·rw[e] at h;exact .inl h
  ·exact .inr ⟨n,List.mem_cons_of_mem _ h⟩
theorem GOk.piece {q:QueryV} {s:Nat} {g:List PlaceD} (h:GOk q s g) {x:Nat × TrD} (hx:x∈piecesN g):TOk q x.2/\x.2.d.sources=s/\x.2.ns.length+2<=5*s:=by
 rcases pieces_in g [] x hx with h0 | ⟨p,hp,e⟩
 ·cases h0
 ·exact h.all p hp x e
theorem GOk.first {q:QueryV} {s:Nat} {g:List PlaceD} (h:GOk q s g) {t:TrD} (ht:headP g=some t):TOk q t/\t.d.sources=s/\t.ns.length+2<=5*s:=by
 obtain⟨hh,r,rfl,hx⟩:=h.head
 cases hh with
 | none => cases ht
 | some y =>
  injection ht with ht;rw[<- ht];exact h.all _ List.mem_cons_self y rfl
theorem GOk.mate {q:QueryV} {s:Nat} {g:List PlaceD} (h:GOk q s g) {col:Int} {t:TrD} (ht:mateN g col=some t):TOk q t/\t.d.sources=s/\t.ns.length+2<=5*s:=by
 rcases mate_in col _ none t ht with h0 | ⟨n,hn⟩
 ·cases h0
 ·exact h.piece hn
theorem or_apart {a b:Nat} (h:a &&& b=0):a|||b=a+b:=by
 have h1:a<2 ^ (a+b):=Nat.lt_of_lt_of_le Nat.lt_two_pow_self (Nat.pow_le_pow_right (by omega) (by omega));have h2:b<2 ^ (a+b):=Nat.lt_of_lt_of_le Nat.lt_two_pow_self (Nat.pow_le_pow_right (by omega) (by omega));have h3:a+b<2 ^ (a+b):=Nat.lt_two_pow_self;have hx:BitVec.ofNat (a+b) a &&& BitVec.ofNat (a+b) b=0#(a+b):=by
  apply BitVec.eq_of_toNat_eq;simp[Nat.mod_eq_of_lt h1,Nat.mod_eq_of_lt h2,h]
 have:=congrArg BitVec.toNat (BitVec.add_eq_or_of_and_eq_zero _ _ hx);simp[Nat.mod_eq_of_lt h1,Nat.mod_eq_of_lt h2,Nat.mod_eq_of_lt h3] at this;exact this.symm
theorem join_in {ts:List TableD} {q:QueryV} {a b:Nat} (hab:a &&& b=0) {l r:TrD} (hl:TOk q l/\l.d.sources=a/\l.ns.length+2<=5*a) (hr:TOk q r/\r.d.sources=b/\r.ns.length+2<=5*b) {kind:Int} (h3:3<=kind) (h5:kind<=5) {cl:List Int} (hc:SmallL q.wh.length cl) (key:Int) :
  TIn q (a|||b) (growT ts q (joinK kind cl key) [l,r]):=by
 have e1:(joinK kind cl key).kind=kind:=rfl;refine⟨growT_ok ts q _ _ ⟨by rw[e1]; omega,by rw[e1]; omega⟩ (fun e=>by rw[e1] at e; omega) hc (fun x hx=>?_),?_,?_⟩
 ·rcases List.mem_cons.1 hx with rfl | hx
  ·exact hl.1
  ·rw[List.mem_singleton] at hx;rw[hx];exact hr.1
 ·rw[growT_sources ts q _ _ (by rw[e1]; omega),<- hl.2.1,<- hr.2.1];rfl
 ·rw[growT_len ts q _ (by simp),or_apart hab]
  show l.ns.length+r.ns.length+1+3<=_
  omega
theorem joinS_in {ts:List TableD} {q:QueryV} {a b:Nat} (hab:a &&& b=0) {l r:TrD} {g:List PlaceD} (hl:TOk q l/\l.d.sources=a/\l.ns.length+2<=5*a) (hr:TOk q r/\r.d.sources=b/\r.ns.length+2<=5*b) (hg:GOk q b g) {cl:List Int} (hc:SmallL q.wh.length cl) :
  ∀ (ks:List Int) (acc:List TrD),(∀ t∈acc,TIn q (a|||b) t)->(∀ t∈ks.foldl (joinS ts q l r g cl) acc,TIn q (a|||b) t)/\(ks.foldl (joinS ts q l r g cl) acc).length<=acc.length+2*ks.length
 | [],_,h => ⟨h,by simp⟩
 | k::ks,acc,h => by
  have hs:(∀ t∈joinS ts q l r g cl acc k,TIn q (a|||b) t)/\(joinS ts q l r g cl acc k).length<=acc.length+2:=by
   have h4:=join_in (ts:=ts) hab hl hr (kind:=4) (by omega) (by omega) hc k;have hA:∀ t∈acc++[growT ts q (joinK 4 cl k) [l,r]],TIn q (a|||b) t:=fun t ht=>by
    rcases List.mem_append.1 ht with ht | ht
    ·exact h t ht
    ·rw[List.mem_singleton] at ht;rw[ht];exact h4
   unfold joinS;simp only;split
   ·split
    ·exact⟨hA,by simp⟩
    ·rename_i m hm
     split
     ·refine⟨fun t ht=>?_,by simp⟩;rcases List.mem_append.1 ht with ht | ht
      ·exact hA t ht
      ·rw[List.mem_singleton] at ht;rw[ht];exact join_in (ts:=ts) hab hl (hg.mate hm) (kind:=5) (by omega) (by omega) hc k
     ·exact⟨hA,by simp⟩
   ·exact⟨h,by omega⟩
  have:=joinS_in (ts:=ts) hab hl hr hg hc ks (joinS ts q l r g cl acc k) hs.1;refine⟨this.1,Nat.le_trans this.2 ?_⟩;have:=hs.2;simp only[List.length_cons];omega
theorem joinedT_in {ts:List TableD} {q:QueryV} {conc:List Nat} (hcn:conc.length=q.wh.length) {a b:Nat} (hab:a &&& b=0) {l:TrD} {g:List PlaceD} (hl:TOk q l/\l.d.sources=a/\l.ns.length+2<=5*a) (hg:GOk q b g) (hs:(headP g).isSome=true) :
  (∀ t∈joinedT ts q conc l g,TIn q (a|||b) t)/\(joinedT ts q conc l g).length<=1+2*(risI (betweenP conc l.d.sources ((headP g).getD trz).d.sources)).length:=by
 obtain⟨r,hr⟩:=Option.isSome_iff_exists.1 hs;have hr':=hg.first hr
 have e:(headP g).getD trz=r:=by rw[hr]; rfl
 have hc:SmallL q.wh.length (risI (betweenP conc l.d.sources r.d.sources)):=risI_small (by rw[<- hcn]; exact between_lt _ _ _);unfold joinedT;simp only;rw[e];exact joinS_in hab hl hr' hg hc _ _ fun t ht=>by
  rw[List.mem_singleton] at ht;rw[ht];exact join_in (ts:=ts) hab hl hr' (kind:=3) (by omega) (by omega) hc 0
theorem joinsT_in {ts:List TableD} {q:QueryV} {conc:List Nat} (hcn:conc.length=q.wh.length) {a b:Nat} (hab:a &&& b=0) {f g:List PlaceD} (hf:GOk q a f) (hg:GOk q b g) (hs:(headP g).isSome=true) :
  ∀ t∈joinsT ts q conc f g,TIn q (a|||b) t:=by
 intro t ht;obtain⟨x,hx,ht⟩:=List.mem_flatMap.1 ht;exact (joinedT_in hcn hab (hf.piece hx) hg hs).1 t ht
end Go.Scout
namespace Go.Proofs.YtlpbelhfpoilpabGreatDoor
open Go.RowKit Go.Scout
theorem sliceAt4 (a:Addr) (x:World) (c:Int) (h0:0<=c) (h4:c<=4) :
  (Instr.sliceAt 47 (.pointer (some a)) none (some (.int .i64 c)) none).run Tryz.prog x=.ok (.slice (some a) c.toNat 4) x:=by
 have hal:Tryz.prog.arrayLen 47=4:=by kernel_rfl
 have hel:Tryz.prog.elem 47=3:=by kernel_rfl
 rw[run_sliceAt_array_h x 47 a (by rw[hal,hel]; exact Tryz.underlying47) .i64 c h0 (by rw[hal]; omega),hal,hel];simp[slicedAt,Addr.add]
theorem isTable_any (t:TableD) (w:World) :
  Calls Tryz.prog 55 #[.agg t.vals] w fun e w'=>e=.returned (.bool (tableB t))/\Below w.heap.size w w':=by
 have HBAD:=@tableB_bad t;have HBK:=@tableB_badk t;have HG:=@tableB_good t;have hkd:=fun m hm=>TableD.kd_cell w t 49 m hm
 generalize tableB t=B at *;unfold TableD.vals;by_cases h1:t.cols<1∨4<t.cols∨t.rows<0∨1000000<t.rows
 ·have HF:Hid (false=B):=(HBAD h1).symm;clear HBAD HBK HG hkd;go_enter Tryz.func55,Tryz.ntmps55;go_wp2
  all_goals
   go_ret;exact⟨ret_bool HF.out,bQ2 _ _⟩
 ·have l1:1<=t.cols:=by omega
  have l2:t.cols<=4:=by omega
  have l3:0<=t.rows:=by omega
  have l4:t.rows<=1000000:=by omega
  have HBK':Hid _:=HBK;have HG':Hid _:=HG;have HK:Hid _:=hkd;clear HBAD HBK HG h1 hkd;have hsl:=fun (a:Addr) (x:World)=>sliceAt4 a x t.cols (by omega) (by omega)
  go_enter Tryz.func55,Tryz.ntmps55;go_wp2;go_loop [28] (fun i=>∃ m:Nat,m<=t.cols.toNat/\i=.int .i64 m/\Hid (∀ j,j<m->1<=t.kd j/\t.kd j<=1000000)) (fun i=>t.cols.toNat-(intOf i).toNat)
  case atStart=>exact⟨0,Nat.zero_le _,rfl,fun j hj=>absurd hj (by omega)⟩
  case round=>
   obtain⟨m,hm,rfl,HM⟩:=hrel;by_cases hml:m<t.cols.toNat
   ·have hml':(m:Int)<t.cols:=by omega
    have hkm:=HK.out m (by omega);by_cases hk1:t.kd m<1
    ·have HF:Hid (false=B):=(HBK'.out m hml (by omega)).symm;go_wp2;go_ret;exact⟨ret_bool HF.out,bQ2 _ _⟩
    ·by_cases hk2:1000000<t.kd m
     ·have HF:Hid (false=B):=(HBK'.out m hml (by omega)).symm;go_wp2;go_ret;exact⟨ret_bool HF.out,bQ2 _ _⟩
     ·go_wp2;go_round
      case rel=>
       refine⟨m+1,by omega,by go_num,fun j hj=>?_⟩;by_cases hjm:j=m
       ·subst hjm; omega
       ·exact HM.out j (by omega)
      case measure=>simp[intOf]; omega
   ·have hml':¬ (m:Int)<t.cols:=by omega
    have HF:Hid (true=B):=(HG'.out l1 l2 l3 l4 (fun j hj=>HM.out j (by omega))).symm;go_wp2;go_ret;exact⟨ret_bool HF.out,bQ2 _ _⟩
theorem isCat1_any (t:TableD) (w:World) :
  Calls Tryz.prog 54 #[.agg t.vals] w fun e w'=>e=.returned (.bool (!tableB t))/\Below w.heap.size w w':=by
 have hC:=fun x=>isTable_any t x
 generalize tableB t=B at *;unfold TableD.vals at *;go_enter Tryz.func54,Tryz.ntmps54;go_wp2_with (go_at_call 55; refine (hC _).mono ?_; rintro e w' ⟨rfl,hb⟩);go_ret;exact⟨ret_bool rfl,bQ1 (bQ2 _ _) hb⟩
theorem indexT_any (ao:Option Addr) (cap:Nat) (ts:List TableD) (w:World) (hx:TablesAt w ao ts) :
  Calls Tryz.prog 84 #[.slice ao ts.length cap,.func (.func 54) #[] #[]] w fun e w'=>∃ r,e=.returned (.int .i64 r)/\foundAt r (ts.any fun t=>!tableB t)/\Below w.heap.size w w':=by
 have hl:=hx.1;go_enter Tryz.func84,Tryz.ntmps84;go_wp2;go_loopw [8] (fun i wr=>∃ k:Nat,k<=ts.length/\i=.int .i64 k/\Hid (∀ j,j<k->(!tableB (ts.getD j tz))=false)/\Below w.heap.size w wr) (fun i _=>ts.length-(intOf i).toNat)
 case atStart=>exact⟨0,Nat.zero_le _,rfl,fun j hj=>absurd hj (by omega),Below.refl _ _⟩
 case round=>
  obtain⟨k,hk,rfl,HP,hb⟩:=hrel;by_cases hlt:k<ts.length
  ·obtain⟨b,off,rfl,c0,c1,c2,c3,c4,c5⟩:=hx.2 k hlt;have e0:=cB hb c0;have e1:=cB hb c1;have e2:=cB hb c2;have e3:=cB hb c3;have e4:=cB hb c4;have e5:=cB hb c5;clear c0 c1 c2 c3 c4 c5 hx;have HA:Hid ((!tableB (ts.getD k tz))=true->(ts.any fun t=>!tableB t)=true):=fun h=>any_at (z:=tz) hlt h
   have hC:=isCat1_any (ts.getD k tz) wr;unfold TableD.vals at hC;generalize hge:ts.getD k tz=t at *;have HGE:Hid (ts.getD k tz=t):=hge;clear hge;go_wp2_with fail;refine hC.mono ?_;clear hC;rintro e w2 ⟨rfl,hb2⟩
   cases hB:tableB t
   ·rw[hB] at HA;go_wp2;go_ret;exact⟨_,ret_int rfl,⟨by omega,by rw[HA.out rfl]; simp⟩,bQ1 hb hb2⟩
   ·have HB:Hid (tableB t=true):=hB;clear hB;go_wp2;go_roundw
    case rel=>
     refine⟨k+1,by omega,by go_num,fun j hj=>?_,bQ1 hb hb2⟩;by_cases hjk:j=k
     ·subst hjk; rw[HGE.out,HB.out]; rfl
     ·exact HP.out j (by omega)
    case measure=>simp[intOf]; omega
  ·have HA:Hid ((ts.any fun t=>!tableB t)=false):=any_none (z:=tz) (fun j hj=>HP.out j (by omega));go_wp2;go_ret;exact⟨_,ret_int rfl,⟨by omega,by rw[HA.out]; rfl⟩,hb⟩
theorem containsT_any (ao:Option Addr) (cap:Nat) (ts:List TableD) (w:World) (hx:TablesAt w ao ts) :
  Calls Tryz.prog 53 #[.slice ao ts.length cap,.func (.func 54) #[] #[]] w fun e w'=>e=.returned (.bool (ts.any fun t=>!tableB t))/\Below w.heap.size w w':=by
 have hC:=indexT_any ao cap ts w hx;go_enter Tryz.func53,Tryz.ntmps53;go_wp2_with fail;refine hC.mono ?_;clear hC;rintro e w2 ⟨r,rfl,hr,hb2⟩;have HR:Hid _:=hr.2;clear hr;go_wp2;go_ret;exact⟨ret_bool HR.out,hb2⟩
theorem isCatalogP_any (ao:Option Addr) (cap:Nat) (ts:List TableD) (w:World) (hx:TablesAt w ao ts) :
  Calls Tryz.prog 33 #[.slice ao ts.length cap] w fun e w'=>e=.returned (.bool (catB ts))/\Below w.heap.size w w':=by
 have hl:=hx.1;by_cases h0:ts.length<1
 ·go_enter Tryz.func33,Tryz.ntmps33;go_wp2;go_ret;exact⟨ret_bool (catB_short h0),Below.refl _ _⟩
 by_cases h8:8<ts.length
 ·go_enter Tryz.func33,Tryz.ntmps33;go_wp2;go_ret;exact⟨ret_bool (catB_long h8),Below.refl _ _⟩
 have hC:=containsT_any ao cap ts w hx;have HA:Hid _:=catB_any h0 h8;generalize (ts.any fun t=>!tableB t)=Y at *;go_enter Tryz.func33,Tryz.ntmps33;go_wp2_with fail;refine hC.mono ?_;clear hC;rintro e w2 ⟨rfl,hb2⟩;go_wp2;go_ret;exact⟨ret_bool HA.out,hb2⟩
theorem isBelow_any (n b:Int) (w:World) :
  Calls Tryz.prog 88 #[.int .i64 n,.int .i64 b] w fun e w'=>e=.returned (.bool (inB n b))/\w' = w:=by
 by_cases h1:0<=n
 ·go_enter Tryz.func88,Tryz.ntmps88;go_wp2;go_ret;exact⟨ret_bool (by simp[inB]; omega),rfl⟩
 ·go_enter Tryz.func88,Tryz.ntmps88;go_wp2;go_ret;exact⟨ret_bool (by simp[inB]; omega),rfl⟩
theorem isNumber_any (n:Int) (w:World) :
  Calls Tryz.prog 115 #[.int .i64 n] w fun e w'=>e=.returned (.bool (decide (-1000<=n)&&decide (n<=1000)))/\w' = w:=by
 by_cases h1:-1000<=n
 ·go_enter Tryz.func115,Tryz.ntmps115;go_wp2;go_ret;exact⟨ret_bool (by simp; omega),rfl⟩
 ·go_enter Tryz.func115,Tryz.ntmps115;go_wp2;go_ret;exact⟨ret_bool (by simp; omega),rfl⟩
theorem allBelow1_any (n b:Int) (p o:Nat) (w:World) (hp:w.cell? (aD p o)=some (.int .i64 b)) :
  Calls Tryz.prog 87 #[.int .i64 n,.pointer (some (aD p o))] w fun e w'=>e=.returned (.bool (!inB n b))/\w' = w:=by
 have hC:=isBelow_any n b w;generalize inB n b=Y at *;go_enter Tryz.func87,Tryz.ntmps87;go_wp2_with fail;refine hC.mono ?_;clear hC;rintro e w2 ⟨rfl,rfl⟩;go_wp2;go_ret;exact⟨ret_bool rfl,rfl⟩
theorem indexI_any (ao:Option Addr) (cap:Nat) (xs:List Int) (bd:Int) (p o:Nat) (w:World) (hx:IntsAt w ao xs) (hp:w.cell? (aD p o)=some (.int .i64 bd)) :
  Calls Tryz.prog 114 #[.slice ao xs.length cap,.func (.func 87) #[] #[.pointer (some (aD p o))]] w fun e w'=>∃ r,e=.returned (.int .i64 r)/\foundAt r (xs.any fun x=>!inB x bd)/\w' = w:=by
 have hl:=hx.1;go_enter Tryz.func114,Tryz.ntmps114;go_wp2;go_loop [8] (fun i=>∃ k:Nat,k<=xs.length/\i=.int .i64 k/\Hid (∀ j,j<k->(!inB (xs.getD j 0) bd)=false)) (fun i=>xs.length-(intOf i).toNat)
 case atStart=>exact⟨0,Nat.zero_le _,rfl,fun j hj=>absurd hj (by omega)⟩
 case round=>
  obtain⟨k,hk,rfl,HP⟩:=hrel;by_cases hlt:k<xs.length
  ·obtain⟨b,off,rfl,hc⟩:=hx.get hlt;have hck:=hc k hlt;have HA:Hid ((!inB (xs.getD k 0) bd)=true->(xs.any fun x=>!inB x bd)=true):=fun h=>any_at (z:=0) hlt h
   have hC:=allBelow1_any (xs.getD k 0) bd p o w hp;have HGE:Hid (xs.getD k 0=xs.getD k 0):=rfl;generalize hge:xs.getD k 0=x at *;have HGE:Hid (xs.getD k 0=x):=hge;clear hge hc hx hp;go_wp2_with fail;refine hC.mono ?_;clear hC;rintro e w2 ⟨rfl,rfl⟩
   cases hB:inB x bd
   ·rw[hB] at HA;go_wp2;go_ret;exact⟨_,ret_int rfl,⟨by omega,by rw[HA.out rfl]; simp⟩,rfl⟩
   ·have HB:Hid (inB x bd=true):=hB;clear hB;go_wp2;go_round
    case rel=>
     refine⟨k+1,by omega,by go_num,fun j hj=>?_⟩;by_cases hjk:j=k
     ·subst hjk; rw[HGE.out,HB.out]; rfl
     ·exact HP.out j (by omega)
    case measure=>simp[intOf]; omega
  ·have HA:Hid ((xs.any fun x=>!inB x bd)=false):=any_none (z:=0) (fun j hj=>HP.out j (by omega));go_wp2;go_ret;exact⟨_,ret_int rfl,⟨by omega,by rw[HA.out]; rfl⟩,rfl⟩
theorem containsI_any (ao:Option Addr) (cap:Nat) (xs:List Int) (bd:Int) (p o:Nat) (w:World) (hx:IntsAt w ao xs) (hp:w.cell? (aD p o)=some (.int .i64 bd)) :
  Calls Tryz.prog 86 #[.slice ao xs.length cap,.func (.func 87) #[] #[.pointer (some (aD p o))]] w fun e w'=>e=.returned (.bool (xs.any fun x=>!inB x bd))/\w' = w:=by
 have hC:=indexI_any ao cap xs bd p o w hx hp;go_enter Tryz.func86,Tryz.ntmps86;go_wp2_with fail;refine hC.mono ?_;clear hC;rintro e w2 ⟨r,rfl,hr,rfl⟩;have HR:Hid _:=hr.2;clear hr;go_wp2;go_ret;exact⟨ret_bool HR.out,rfl⟩
theorem allBelow_any (ao:Option Addr) (cap:Nat) (xs:List Int) (bd:Int) (w:World) (hx:IntsAt w ao xs) :
  Calls Tryz.prog 58 #[.slice ao xs.length cap,.int .i64 bd] w fun e w'=>e=.returned (.bool (allB xs bd))/\Below w.heap.size w w':=by
 have hC:=containsI_any ao cap xs bd w.heap.size 0 (w.alloc (.cells #[.int .i64 bd] 3)) (hx.below (bQ2 _ _)) (by simp);have HA:Hid _:=allB_any xs bd;generalize (xs.any fun x=>!inB x bd)=Y at *;have hmf:∀ (fn:Fn) (first cap:Array Value) (w:World),(Instr.makeFunc fn first cap).run Tryz.prog w=.ok (.func fn first cap) w:=fun _ _ _ _=>rfl
 go_enter Tryz.func58,Tryz.ntmps58;go_wp2_with fail;refine hC.mono ?_;clear hC;rintro e w2 ⟨rfl,rfl⟩;go_wp2;go_ret;exact⟨ret_bool HA.out,bQ2 _ _⟩
theorem eqB {a b:Int} (h:a=b):(a==b)=true:=by simpa using h
theorem neB {a b:Int} (h:¬ a=b):(a==b)=false:=by simpa using h
theorem indexQ_any (ao:Option Addr) (cap:Nat) (xs:List Int) (v:Int) (w:World) (hx:IntsAt w ao xs) :
  Calls Tryz.prog 116 #[.slice ao xs.length cap,.int .i64 v] w fun e w'=>∃ r,e=.returned (.int .i64 r)/\foundAt r (xs.any fun x=>decide (v=x))/\w' = w:=by
 have hl:=hx.1;go_enter Tryz.func116,Tryz.ntmps116;go_wp2;go_loop [8] (fun i=>∃ k:Nat,k<=xs.length/\i=.int .i64 k/\Hid (∀ j,j<k->decide (v=xs.getD j 0)=false)) (fun i=>xs.length-(intOf i).toNat)
 case atStart=>exact⟨0,Nat.zero_le _,rfl,fun j hj=>absurd hj (by omega)⟩
 case round=>
  obtain⟨k,hk,rfl,HP⟩:=hrel;by_cases hlt:k<xs.length
  ·obtain⟨b,off,rfl,hc⟩:=hx.get hlt;have hck:=hc k hlt;have HA:Hid (decide (v=xs.getD k 0)=true->(xs.any fun x=>decide (v=x))=true):=fun h=>any_at (z:=0) hlt h
   generalize hge:xs.getD k 0=x at *;have HGE:Hid (xs.getD k 0=x):=hge;clear hge hc hx;by_cases hvx:v=x
   ·have hb:=eqB hvx;have HV:Hid (v=x):=hvx;clear hvx;go_wp2;go_ret;exact⟨_,ret_int rfl,⟨by omega,by rw[HA.out (decide_eq_true HV.out)]; simp⟩,rfl⟩
   ·have hb:=neB hvx;have HV:Hid (¬ v=x):=hvx;clear hvx;go_wp2;go_round
    case rel=>
     refine⟨k+1,by omega,by go_num,fun j hj=>?_⟩;by_cases hjk:j=k
     ·subst hjk; rw[HGE.out]; exact decide_eq_false HV.out
     ·exact HP.out j (by omega)
    case measure=>simp[intOf]; omega
  ·have HA:Hid ((xs.any fun x=>decide (v=x))=false):=any_none (z:=0) (fun j hj=>HP.out j (by omega));go_wp2;go_ret;exact⟨_,ret_int rfl,⟨by omega,by rw[HA.out]; rfl⟩,rfl⟩
theorem containsQ_any (ao:Option Addr) (cap:Nat) (xs:List Int) (v:Int) (w:World) (hx:IntsAt w ao xs) :
  Calls Tryz.prog 90 #[.slice ao xs.length cap,.int .i64 v] w fun e w'=>e=.returned (.bool (xs.any fun x=>decide (v=x)))/\w' = w:=by
 have hC:=indexQ_any ao cap xs v w hx;go_enter Tryz.func90,Tryz.ntmps90;go_wp2_with fail;refine hC.mono ?_;clear hC;rintro e w2 ⟨r,rfl,hr,rfl⟩;have HR:Hid _:=hr.2;clear hr;go_wp2;go_ret;exact⟨ret_bool HR.out,rfl⟩
theorem IntsAt.front {w:World} {ao:Option Addr} {xs:List Int} (h:IntsAt w ao xs) {k:Nat} (hk:k<=xs.length):IntsAt w ao (xs.take k):=by
 have hl:(xs.take k).length=k:=by rw[List.length_take]; omega
 refine⟨by have:=h.1; omega,fun i hi=>?_⟩;obtain⟨b,off,e,hc⟩:=h.2 i (by omega);refine⟨b,off,e,?_⟩;rw[hc];simp[List.getD,show i<k by omega]
theorem allDifferent_any (ao:Option Addr) (cap:Nat) (xs:List Int) (w:World) (hx:IntsAt w ao xs) (hcap:xs.length<=cap) :
  Calls Tryz.prog 63 #[.slice ao xs.length cap] w fun e w'=>e=.returned (.bool (apartB xs))/\w' = w:=by
 have hl:=hx.1;go_enter Tryz.func63,Tryz.ntmps63;go_wp2;go_loop [7] (fun i=>∃ k:Nat,k<=xs.length/\i=.int .i64 k/\Hid (∀ i,i<k->∀ j,j<i->xs.getD i 0≠xs.getD j 0)) (fun i=>xs.length-(intOf i).toNat)
 case atStart=>exact⟨0,Nat.zero_le _,rfl,fun i hi=>absurd hi (by omega)⟩
 case round=>
  obtain⟨k,hk,rfl,HP⟩:=hrel;by_cases hlt:k<xs.length
  ·have hfr:=IntsAt.front hx hk;obtain⟨b,off,rfl,hc⟩:=hx.get hlt;have hck:=hc k hlt;have hC:=containsQ_any (some (aD b off)) cap (xs.take k) (xs.getD k 0) w hfr;have hlen:(xs.take k).length=k:=by rw[List.length_take]; omega
   rw[hlen] at hC;have HT:Hid (((xs.take k).any fun x=>decide (xs.getD k 0=x))=true->∃ j,j<k/\xs.getD k 0=xs.getD j 0):=fun h=>by
    rw[List.any_eq_true] at h;obtain⟨x,hx,hd⟩:=h;obtain⟨j,hj,rfl⟩:=List.getElem_of_mem hx;have hjk:j<k:=by omega
    have:=of_decide_eq_true hd;refine⟨j,hjk,this.trans ?_⟩;have hjl:j<xs.length:=by omega
    simp[List.getD,hjl]
   have HN:Hid (((xs.take k).any fun x=>decide (xs.getD k 0=x))=false->∀ j,j<k->xs.getD k 0≠xs.getD j 0):=fun h j hj he=>by
    rw[List.any_eq_false] at h;have hjl:j<xs.length:=by omega
    refine h ((xs.take k)[j]'(by omega)) (List.getElem_mem _) (decide_eq_true ?_);rw[he];simp[List.getD,hjl]
   generalize hY:((xs.take k).any fun x=>decide (xs.getD k 0=x))=Y at *;clear hY hlen hfr hc hx;generalize hge:xs.getD k 0=x at *;have HGE:Hid (xs.getD k 0=x):=hge;clear hge;go_wp2_with fail;refine hC.mono ?_;clear hC;rintro e w2 ⟨rfl,rfl⟩
   cases Y
   ·go_wp2;go_round
    case rel=>
     refine⟨k+1,by omega,by go_num,fun i hi=>?_⟩;by_cases hik:i=k
     ·subst hik; rw[HGE.out]; exact HN.out (by trivial)
     ·exact HP.out i (by omega)
    case measure=>simp[intOf]; omega
   ·obtain⟨j,hj,he⟩:=HT.out rfl;have HF:Hid (false=apartB xs):=apartB_bad hlt hj (by rw[HGE.out]; exact he);clear he;go_wp2;go_ret;exact⟨ret_bool HF.out,rfl⟩
  ·go_wp2;go_ret;have hkk:k=xs.length:=by omega
   subst hkk;exact⟨ret_bool (apartB_good HP.out),rfl⟩
theorem condFits_any (c:CondD) (n:Int) (w:World) :
  Calls Tryz.prog 89 #[c.val,.int .i64 n] w fun e w'=>e=.returned (.bool (condB c n))/\Below w.heap.size w w':=by
 have hin:=@condB_in c n;have h01:=@condB_eqless_const c n;have h02:=@condB_eqless_col c n;have h03:=@condB_isnil c n;have h04:=@condB_other c n;obtain⟨nt,op,left,const,right⟩:=c;unfold CondD.val;simp only at hin h01 h02 h03 h04;generalize condB ⟨nt,op,left,const,right⟩ n=B at *;have hC1:=fun x=>isBelow_any left n x
 have hC2:=fun x=>isBelow_any right n x
 have hC3:=fun x=>isNumber_any right x
 generalize inB right n=Y at *;generalize (decide (-1000<=right)&&decide (right<=1000))=Z at *
 cases hL:inB left n
 ·have HF:Hid (false=B):=hin hL;rw[hL] at hC1;clear hin h01 h02 h03 h04 hC2 hC3 hL;go_enter Tryz.func89,Tryz.ntmps89;go_wp2_with fail;refine (hC1 _).mono ?_;clear hC1;rintro e w2 ⟨rfl,rfl⟩;go_wp2;go_ret;exact⟨ret_bool HF.out,bQ2 _ _⟩
 ·rw[hL] at hC1;by_cases ho:op=0∨op=1
  ·cases const
   ·have HF:Hid (Y=B):=h02 hL ho rfl;clear hin h01 h02 h03 h04 hC3 hL;rcases ho with ho | ho
    all_goals
     subst ho;go_enter Tryz.func89,Tryz.ntmps89;go_wp2_with fail;refine (hC1 _).mono ?_;rintro e w2 ⟨rfl,rfl⟩;go_wp2_with fail;refine (hC2 _).mono ?_;rintro e w3 ⟨rfl,rfl⟩;go_wp2;go_ret;exact⟨ret_bool HF.out,bQ2 _ _⟩
   ·have HF:Hid (Z=B):=h01 hL ho rfl;clear hin h01 h02 h03 h04 hC2 hL;rcases ho with ho | ho
    all_goals
     subst ho;go_enter Tryz.func89,Tryz.ntmps89;go_wp2_with fail;refine (hC1 _).mono ?_;rintro e w2 ⟨rfl,rfl⟩;go_wp2_with fail;refine (hC3 _).mono ?_;rintro e w3 ⟨rfl,rfl⟩;go_wp2;go_ret;exact⟨ret_bool HF.out,bQ2 _ _⟩
  ·by_cases h2:op=2
   ·have HF:Hid ((!const&&decide (right=0))=B):=h03 hL h2;clear hin h01 h02 h03 h04 hC2 hC3 hL ho;subst h2
    cases const
    ·by_cases h3:right=0
     ·have HF':Hid (true=B):=show true=B by have:=HF.out; simpa [h3] using this
      have hb:=eqB h3;clear HF h3;go_enter Tryz.func89,Tryz.ntmps89;go_wp2_with fail;refine (hC1 _).mono ?_;rintro e w2 ⟨rfl,rfl⟩;go_wp2;go_ret;exact⟨ret_bool HF'.out,bQ2 _ _⟩
     ·have HF':Hid (false=B):=show false=B by have:=HF.out; simpa [h3] using this
      have hb:=neB h3;clear HF h3;go_enter Tryz.func89,Tryz.ntmps89;go_wp2_with fail;refine (hC1 _).mono ?_;rintro e w2 ⟨rfl,rfl⟩;go_wp2;go_ret;exact⟨ret_bool HF'.out,bQ2 _ _⟩
    ·have HF':Hid (false=B):=show false=B by have:=HF.out; simpa using this
     go_enter Tryz.func89,Tryz.ntmps89;go_wp2_with fail;refine (hC1 _).mono ?_;rintro e w2 ⟨rfl,rfl⟩;go_wp2;go_ret;exact⟨ret_bool HF'.out,bQ2 _ _⟩
   ·have HF:Hid (false=B):=h04 (by omega) (by omega) h2;have b0:(op==0)=false:=neB (by omega);have b1:(op==1)=false:=neB (by omega);have b2:(op==2)=false:=neB h2;clear hin h01 h02 h03 h04 hC2 hC3 hL ho h2;go_enter Tryz.func89,Tryz.ntmps89;go_wp2_with fail;refine (hC1 _).mono ?_;rintro e w2 ⟨rfl,rfl⟩;go_wp2;go_ret;exact⟨ret_bool HF.out,bQ2 _ _⟩
end Go.Proofs.YtlpbelhfpoilpabGreatDoor
