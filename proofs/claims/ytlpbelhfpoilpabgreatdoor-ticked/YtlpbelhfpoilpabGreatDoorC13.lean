import Derived.Test.YtlpbelhfpoilpabGreatDoorProg
import Derived.Shelf.RegionOpen
import Derived.BigRegion
import Derived.Test.YtlpbelhfpoilpabGreatDoorC03
import Derived.Test.YtlpbelhfpoilpabGreatDoorC04
import Derived.Test.YtlpbelhfpoilpabGreatDoorC05
import Derived.Test.YtlpbelhfpoilpabGreatDoorC06
import Derived.Test.YtlpbelhfpoilpabGreatDoorC09
import Derived.Test.YtlpbelhfpoilpabGreatDoorC12
set_option linter.all false
set_option maxRecDepth 100000
set_option maxHeartbeats 16000000
namespace Go.Scout
open Go.RowKit
structure BoxL (w2:World) (t e:TypeId) (pre:List Nat) (o1:Nat->Prop) (W:World):Prop where
 ex:∃ v,GB W w2.heap.size t #[v]/\W.ownsRow (w2.heap.size+1) e 1 v pre.length (pre.map fun n:Nat=>Value.int .i64 (n:Int))/\(∀ b,o1 b↔b=w2.heap.size∨v.ownBlock=some b)
 below:Below w2.heap.size w2 W
theorem BoxL.keep {w2:World} {t e:TypeId} {pre:List Nat} {o1:Nat->Prop} {A B:World} {n:Nat} (h:BoxL w2 t e pre o1 A) (hn:w2.heap.size<=n) (hk:Kept (fun b=>o1 b∨b<n) A B):BoxL w2 t e pre o1 B:=by
 obtain⟨v,hg,ho,hi⟩:=h.ex;exact⟨⟨v,hg.keep hk (.inl ((hi _).2 (.inl rfl))),ownsRow_keep ho hk (fun g hg=>.inl ((hi g).2 (.inr hg))),hi⟩,h.below.trans (hk.below h.below.size (fun b hb=>.inr (by omega)))⟩
end Go.Scout
namespace Go.Proofs.YtlpbelhfpoilpabGreatDoor
open Go.RowKit Go.Scout Go.Shelf
attribute [local go_sem] Oper.semAt_some
theorem appendSeq_any (s:Nat) (hs:s<18446744073709551616) (w:World) :
  Calls Tryz.prog 130 #[.slice none 0 0,.func (.func 42) #[.int .u64 (s:Int)] #[]] w fun e w'=>∃ v,e=.returned v/\w'.ownsRow w.heap.size 3 1 v (risI s).length ((risI s).map (Value.int .i64))/\Below w.heap.size w w':=by
 obtain⟨i0,hi,hz0,hz1,hz2⟩:=info_parts Tryz.infoInt;have HSQ:Hid (∀ w0,SeqB numEl Tryz.prog 42 (.int .u64 (s:Int)) (risingN s) w0):=rising_seq s hs;have HLN:Hid ((risingN s).length<=64):=by
  show _<=_
  unfold risingN;exact Nat.le_trans (List.length_filter_le _ _) (by simp)
 have HE:Hid ((risI s).map (Value.int .i64)=(risingN s).map fun n:Nat=>Value.int .i64 (n:Int)):=by
  show _=_
  unfold risI;rw[List.map_map];rfl
 have HEL:Hid ((risI s).length=(risingN s).length):=by
  show _=_
  unfold risI;rw[List.length_map]
 generalize risingN s=RS at *;obtain⟨w1,hw1,hk1,hg1⟩:=newB w #[.slice none 0 0] 22;have hs1:Hid (w1.heap.size=w.heap.size+1):=by rw[<- hw1]; show _=_; simp
 have HK1:Hid _:=hk1;have HG1:Hid _:=hg1;clear hk1 hg1;refine (callsIn_wide (n:=0)).1 (callsIn_of_wp_marks Tryz.func130 rfl trivial ?_ rfl);simp only[Tryz.ntmps130,List.size_toArray,List.length_cons,List.length_nil,Nat.reduceAdd,Nat.reduceSub,Array.replicate_succ,Array.replicate_zero,List.push_toArray,List.append_toArray,List.nil_append,List.cons_append]
 gi_wp2
 clear hw1;refine wp_rangeB numEl (gf:=42) (s:=.int .u64 (s:Int)) rfl (enters_of Tryz.func42 (by kernel_rfl) rfl) (HSQ.out w) HK1.out rfl
  (fun pre o1 W=>BoxL w 22 3 pre o1 W) (fun b=>b=w.heap.size) ?_ ?_ ⟨⟨.slice none 0 0,HG1.out,World.ownsRow_nil _ _ _ _,fun b=>by simp[Value.ownBlock]⟩,HK1.out⟩
  (fun x=>{ tmps:=#[.slice none 0 0,.func (.func 42) #[.int .u64 (s:Int)] #[],.pointer (some (aD w.heap.size 0)),undef,.slice none 0 0,.int .i64 (x:Int),.func (.func 42) #[.int .u64 (s:Int)] #[],.int .i64 (x:Int),undef,undef,undef,undef,undef],defers:=[] }) ?assign ?body ?done
 ·rintro b rfl;exact⟨Nat.le_refl _,by have:=hs1.out; omega⟩
 ·intro pre o1 A B h hk;exact h.keep (by have:=hs1.out; omega) hk
 case assign=>
  intro l x W K hK;have he:numEl.enc x=.int .i64 (x:Int):=rfl
  gi_wp2
  exact hK
 case body=>
  intro l pre x o1 W hG hpre _ _ hsz;have hpl:pre.length+1<=64:=by
   have:=hpre.length_le;rw[List.length_map,List.length_append] at this;exact Nat.le_trans this HLN.out
  obtain⟨⟨v,hgb,hown,hio⟩,hbw⟩:=hG;obtain⟨va,vn,vc,rfl⟩:=ownsRow_slice hown;have hc:W.cell? (aD w.heap.size 0)=some (.slice va vn vc):=hgb.cell 0;have hth:=hgb.frozen 0;have hbs:=hbw.size;have HGB:Hid (GB W w.heap.size 22 #[.slice va vn vc]):=hgb;have HOW:Hid _:=hown;have HIO:Hid _:=hio;have HBW:Hid _:=hbw;have hs1':=hs1.out;clear hgb hio hbw hpre
  gi_wp2_with (gi_at_builtin; refine wpListIn_append_own_at _ rfl _ _ 22 rfl (w.heap.size+1) 3 i0 (.int .i64 0) 1 8 Tryz.underlying22 hi hz0 hz1 hz2 rfl (by decide) _ _ _ rfl (hown.alloc _) (aD W.heap.size 0) 1 1 [.int .i64 (x:Int)] rfl rfl ?q1 ?q2 ?q3 ?q4 ?q5 ?_)
  case q1=>
   intro j u hj
   match j,hj with
   | 0,hj => simp at hj; subst hj; simp[Addr.add]
  case q2=>intro u hu; simp at hu; subst hu; rfl
  case q3=>unfold maxLen; omega
  case q4=>omega
  case q5=>simp; omega
  intro v' w3 hown3 hgrow3 _ hat3;obtain⟨va',vn',vc',rfl⟩:=ownsRow_slice hown3;have hk3:Kept (fun b=>(Value.slice va vn vc).ownBlock≠some b) W w3:=(Kept.alloc _ _).trans (Kept.grown hgrow3 (fun r e hr=>hr e));have hne:(Value.slice va vn vc).ownBlock≠some w.heap.size:=fun e=>by
   have:=(ownsRow_lt HOW.out e).1;omega
  have hg3:GB w3 w.heap.size 22 #[.slice va vn vc]:=HGB.out.keep hk3 hne;have hc3:w3.cell? (aD w.heap.size 0)=some (.slice va vn vc):=hg3.cell 0;have hf3:w3.frozen? (aD w.heap.size 0)=false:=hg3.frozen 0;have HG3:Hid (GB w3 w.heap.size 22 #[.slice va vn vc]):=hg3;have HK3:Hid _:=hk3;have HO3:Hid _:=hown3;have HAT:Hid _:=hat3;clear hown3 hgrow3 hat3 hown hg3 hk3 hne
  gi_wp2
  have hlt3:w.heap.size<w3.heap.size:=HG3.out.lt;have hkS:Kept (fun b=>b≠w.heap.size) w3 (w3.setCell (aD w.heap.size 0) (.slice va' vn' vc')):=Kept.setCell _ _ _ (fun h=>h rfl);have hle:w.heap.size+1<=W.heap.size:=by omega
  have hnb:∀ b,(Value.slice va' vn' vc').ownBlock=some b->w.heap.size+1<=b/\b<w3.heap.size:=fun b e=>ownsRow_lt HO3.out e
  refine⟨fun b=>b=w.heap.size∨(Value.slice va' vn' vc').ownBlock=some b,⟨⟨.slice va' vn' vc',HG3.out.set 0 _,?_,fun b=>Iff.rfl⟩,?_⟩,?_,?_⟩
  ·have:=ownsRow_keep HO3.out hkS (fun g hg=>by have:=(hnb g hg).1; omega);rw[List.length_append,List.map_append];exact this
  ·refine HBW.out.trans ((HK3.out.mono (t:=fun b=>b<w.heap.size) fun b _ hb e=>?_).trans (hkS.mono fun b _ hb=>?_) |>.below HBW.out.size (fun b hb=>hb))
   ·have:=(ownsRow_lt HOW.out e).1;omega
   ·exact Nat.ne_of_lt hb
  ·refine (HK3.out.mono fun b _ hb e=>hb ((HIO.out b).2 (.inr e))).trans (hkS.mono fun b _ hb e=>hb ((HIO.out b).2 (.inl e)))
  ·rintro b (rfl | hb)
   ·exact .inl ((HIO.out _).2 (.inl rfl))
   ·have h3:(w3.setCell (aD w.heap.size 0) (.slice va' vn' vc')).heap.size=w3.heap.size:=by simp
    rcases HAT.out with e | e
    ·rw[e] at hb;exact .inl ((HIO.out b).2 (.inr hb))
    ·rw[e] at hb;injection hb with hb;refine .inr (.inl ⟨?_,?_⟩)
     ·omega
     ·have:=(hnb b (by rw[e,hb])).2;omega
 case done=>
  rintro ys o' W hys hG hk2 hg2 hD;have hyy:ys=RS:=by simpa [numEl] using hys
  subst hyy;have hs1':=hs1.out;obtain⟨v,hgb,hown,hio⟩:=hG.ex;have hc:W.cell? (aD w.heap.size 0)=some v:=hgb.cell 0;have HIO:Hid _:=hio;have HOW:Hid _:=hown;clear hgb hio hown;obtain⟨va,vn,vc,rfl⟩:=ownsRow_slice HOW.out
  gi_wp2
  have hnD:¬ o' w1.heap.size:=fun h=>by
   rcases hg2 _ h with h | h
   ·omega
   ·omega
  refine⟨by simp,.inl ⟨_,_,rfl,run_takeDeferred hD,?_⟩⟩;have hkp:=Kept.putObj (s:=fun b=>o' b∨b<w1.heap.size) W (r:=w1.heap.size) (.deferred none) (by
   rintro (h | h)
   ·exact hnD h
   ·omega)
  refine⟨_,results_tmp rfl _ _ _,_,rfl,?_,?_⟩
  ·rw[HE.out,HEL.out];have h5:=ownsRow_keep HOW.out hkp (fun g hg=>.inl ((HIO.out g).2 (.inr hg)));exact⟨h5.1,h5.2.imp id fun ⟨g,cap,cur,e,hb,h⟩=>⟨g,cap,cur,e,by omega,h⟩⟩
  ·exact hG.below.trans (hkp.below hG.below.size (fun b hb=>.inr (by omega)))
theorem list_any (s:Nat) (hs:s<18446744073709551616) (w:World) :
  Calls Tryz.prog 80 #[.int .u64 (s:Int)] w fun e w'=>∃ v,e=.returned v/\w'.ownsRow w.heap.size 3 1 v (risI s).length ((risI s).map (Value.int .i64))/\Below w.heap.size w w':=by
 have hC:∀ x,Calls Tryz.prog 109 #[.func (.func 42) #[.int .u64 (s:Int)] #[]] x fun e w'=>∃ v,e=.returned v/\w'.ownsRow x.heap.size 3 1 v (risI s).length ((risI s).map (Value.int .i64))/\Below x.heap.size x w':=by
  intro x;have hA:=appendSeq_any s hs x;go_enter Tryz.func109,Tryz.ntmps109;go_wp2_with fail;refine hA.mono ?_;rintro e w2 ⟨v,rfl,ho,hb⟩;clear hA;obtain⟨va,vn,vc,rfl⟩:=ownsRow_slice ho;have HO:Hid _:=ho;have HB:Hid _:=hb;clear ho hb;go_wp2;go_ret;exact⟨_,rfl,HO.out,HB.out⟩
 have hA:=hC w;clear hC;go_enter Tryz.func80,Tryz.ntmps80;go_wp2_with fail;refine hA.mono ?_;rintro e w2 ⟨v,rfl,ho,hb⟩;clear hA;obtain⟨va,vn,vc,rfl⟩:=ownsRow_slice ho;have HO:Hid _:=ho;have HB:Hid _:=hb;clear ho hb;go_wp2;go_ret;exact⟨_,rfl,HO.out,HB.out⟩
end Go.Proofs.YtlpbelhfpoilpabGreatDoor
namespace Go.Scout
open Go.RowKit
def TreePost (T:TypeId) (F:Nat->Prop) (w:World) (t:TrD) (e:Ending) (w':World):Prop:=
 ∃ a,e=.returned (.pointer (some (aD a 0)))/\TreeF T F w' a t/\w.heap.size<=a/\a<w'.heap.size/\Below w.heap.size w w'
def nilV:IntsV:=⟨none,0,[]⟩
theorem nilV_at (w:World):nilV.At w:=⟨by decide,fun i hi=>absurd hi (Nat.not_lt_zero _)⟩
theorem heap_cell0 {w:World} {b:Nat} {v:Value} {t:TypeId} (h:w.heap[b]? = some (.cells #[v] t (0,0))):w.cell? (aD b 0)=some v:=by
 simp only[World.cell?,h];rfl
theorem ints_ownR {w:World} {base:Nat} {e:TypeId} {v:Value} {n:Nat} {xs:List Int} (h:w.ownsRow base e 1 v n (xs.map (Value.int .i64))) (hl:xs.length<=1000000) :
  ∃ iv:IntsV,v=iv.val/\iv.xs=xs/\iv.At w/\(∀ a,iv.ad=some a->base<=a.block)/\(iv.ad=none->iv.cap=0)/\iv.xs.length<=iv.cap:=by
 have hn:n=xs.length:=by have:=h.1; rw[List.length_map] at this; omega
 subst hn;rcases h.2 with⟨rfl,h1⟩ | ⟨g,cap,cur,rfl,hb,hh,hc,_,_,ht⟩
 ·have:xs=[]:=List.length_eq_zero_iff.1 h1;subst this;exact⟨nilV,rfl,rfl,nilV_at w,(fun a e=>by cases e),(fun _=>rfl),Nat.le_refl _⟩
 ·refine⟨⟨some (aD g 0),cap,xs⟩,rfl,rfl,⟨by simp only; omega,fun i hi=>⟨g,0,rfl,?_⟩⟩,(fun a e=>by cases e; exact hb),(fun e=>by cases e),hc⟩;have hi':i<xs.length:=hi;have h2:(xs.map (Value.int .i64))[i]? = some (.int .i64 (xs.getD i 0)):=by
   rw[List.getElem?_map,List.getElem?_eq_getElem hi',List.getD_eq_getElem?_getD,List.getElem?_eq_getElem hi'];rfl
  rw[<- ht,List.getElem?_take] at h2;split at h2
  ·rw[Nat.zero_add];simp only[World.cell?,hh]
   simpa using h2
  ·cases h2
theorem InF.nil (F:Nat->Prop) (ao:Option Addr):InF F ao 0:=fun h=>absurd h (Nat.lt_irrefl _)
end Go.Scout
namespace Go.Proofs.YtlpbelhfpoilpabGreatDoor
open Go.RowKit Go.Scout Go.Shelf
theorem grow_none {F:Nat->Prop} {W0 w:World} {f:FactsV} {ts:List TableD} {q:QueryV} (E:Env f ts q W0) (hz:Fz F W0 w) (s:Int) (h0:0<=s) (h1:s<q.src.xs.length) :
  Calls Tryz.prog 64 #[.agg (f.cells ts q),.agg #[.int .i64 1,.int .i64 0,.int .i64 0,.int .i64 s,.slice none 0 0,.int .i64 0,.slice none 0 0],.slice none 0 0] w (TreePost 95 F w (growT ts q (scanK s) [])):=
 grow_any E hz ⟨1,0,0,s,nilV,0,nilV⟩ ⟨nilV_at w,InF.nil _ _,fun _=>rfl,nilV_at w,InF.nil _ _,fun _=>rfl,Nat.le_refl _,Nat.zero_le _,Nat.zero_le _⟩ none 0 [] ⟨by decide,fun i hi=>absurd hi (Nat.not_lt_zero _)⟩ (fun _=>rfl) (fun x hx=>by cases hx) rfl (by decide:(1:Int)<=1) (by decide:(1:Int)<=10) (smallL_nil _) (fun _=>⟨h0,h1⟩)
theorem grow_one {F:Nat->Prop} {W0 w:World} {f:FactsV} {ts:List TableD} {q:QueryV} (E:Env f ts q W0) (hz:Fz F W0 w) (n:NodeV) (hn:NodeIn F w n) (a b:Nat) (t:TrD) (ht:TreeF 95 F w a t) (hto:TOk q t) (hc:w.cell? (aD b 0)=some (.pointer (some (aD a 0))))
  (har:arity n.kind=1) (hk1:2<=n.kind) (hk10:n.kind<=10) (hsm:SmallL q.wh.length n.cl.xs) :
  Calls Tryz.prog 64 #[.agg (f.cells ts q),.agg n.cells,.slice (some (aD b 0)) 1 1] w (TreePost 95 F w (growT ts q n [t])):=
 grow_any E hz n hn (some (aD b 0)) 1 [(a,t)] ⟨by simp,fun i hi=>⟨b,0,rfl,by
  have:i=0:=by simpa using hi
  subst this;exact hc⟩⟩ (fun e=>by cases e) (fun x hx=>by rw[List.mem_singleton] at hx; rw[hx]; exact⟨ht,hto⟩) (by rw[har]; rfl) (by omega) hk10 hsm (fun e=>by omega)
theorem grow_two {F:Nat->Prop} {W0 w:World} {f:FactsV} {ts:List TableD} {q:QueryV} (E:Env f ts q W0) (hz:Fz F W0 w) (n:NodeV) (hn:NodeIn F w n) (a a' b:Nat) (t t':TrD) (ht:TreeF 95 F w a t) (hto:TOk q t) (ht':TreeF 95 F w a' t') (hto':TOk q t') (hc:w.cell? (aD b 0)=some (.pointer (some (aD a 0)))) (hc':w.cell? (aD b 1)=some (.pointer (some (aD a' 0))))
  (h3:3<=n.kind) (h5:n.kind<=5) (hsm:SmallL q.wh.length n.cl.xs) :
  Calls Tryz.prog 64 #[.agg (f.cells ts q),.agg n.cells,.slice (some (aD b 0)) 2 2] w (TreePost 95 F w (growT ts q n [t,t'])):=
 grow_any E hz n hn (some (aD b 0)) 2 [(a,t),(a',t')] ⟨by simp,fun i hi=>⟨b,0,rfl,by
  have hi':i<2:=hi;rw[Nat.zero_add]
  match i,hi' with
  | 0,_ => exact hc
  | 1,_ => exact hc'⟩⟩ (fun e => by cases e) (fun x hx => by
   rcases List.mem_cons.1 hx with hx | hx
   ·rw[hx]; exact⟨ht,hto⟩
   ·rw[List.mem_singleton] at hx; rw[hx]; exact⟨ht',hto'⟩) (by unfold arity; rw[if_neg (by omega),if_pos (by omega)]; rfl) (by omega) (by omega) hsm (fun e=>by omega)
end Go.Proofs.YtlpbelhfpoilpabGreatDoor
namespace Go.Scout
open Go.RowKit
theorem condVals_len (c:CondD):c.vals.length=5:=rfl
theorem conds_of_own {w:World} {base:Nat} {e:TypeId} {v:Value} {cs:List CondD} (h:w.ownsRow base e 5 v cs.length (cs.flatMap CondD.vals)) (hl:cs.length<=100) :
  ∃ ad cap,v=.slice ad cs.length cap/\CondsAt w ad cs/\∀ a,ad=some a->base<=a.block/\a.block<w.heap.size/\v.ownBlock=some a.block:=by
 rcases h.2 with⟨rfl,h0⟩ | ⟨g,cap,cur,rfl,hb,hh,hc,_,hcs,ht⟩
 ·have:cs=[]:=List.eq_nil_of_length_eq_zero h0;subst this;exact⟨none,0,rfl,⟨by simp,fun i hi=>absurd hi (by simp)⟩,fun a ha=>by cases ha⟩
 ·refine⟨some (aD g 0),cap,rfl,⟨by omega,fun i hi=>⟨g,0,rfl,?_⟩⟩,fun a ha=>by cases ha; exact⟨hb,(Array.getElem?_eq_some_iff.1 hh).1,rfl⟩⟩;have hcell:∀ j,j<5->w.cell? (aD g (0+i*5+j))=((cs.getD i cz).vals)[j]?:=fun j hj=>by
   have h1:=flat_at CondD.vals 5 condVals_len cz cs [] i j hi hj;rw[List.append_nil] at h1;rw[<- h1,<- ht,List.getElem?_take,if_pos (by have:=hi; omega)];simp[World.cell?,hh]
  exact⟨hcell 0 (by omega),hcell 1 (by omega),hcell 2 (by omega),hcell 3 (by omega),hcell 4 (by omega)⟩
theorem clauses_of_own {W:World} {base:Nat} {e:TypeId} {v:Value} {ls:List ClauseV} (h:W.ownsRow base e 1 v ls.length (ls.map ClauseV.val)) (hc:∀ x∈ls,CondsAt W x.ad x.cs) (hl:ls.length<=100) :
  ∃ ad cap,v=.slice ad ls.length cap/\ClausesAt W ad ls:=by
 have hmem:∀ i,i<ls.length->ls.getD i lz∈ls:=fun i hi=>by simp[List.getD,hi]
 rcases h.2 with⟨rfl,h0⟩ | ⟨g,cap,cur,rfl,hb,hh,hc2,_,hcs,ht⟩
 ·have:ls=[]:=List.eq_nil_of_length_eq_zero h0;subst this;exact⟨none,0,rfl,by simp,fun i hi=>absurd hi (by simp),fun i hi=>absurd hi (by simp)⟩
 ·refine⟨some (aD g 0),cap,rfl,by omega,fun i hi=>⟨g,0,rfl,?_⟩,fun i hi=>hc _ (hmem i hi)⟩;have h2:(cur.toList.take (ls.length*1))[i]? = some (ls.getD i lz).val:=by
   rw[ht];simp[List.getD,hi]
  have h3:cur[i]? = some (ls.getD i lz).val:=by
   rw[List.getElem?_take] at h2;split at h2
   ·simpa using h2
   ·cases h2
  simp only[World.cell?,hh]
  simpa using h3
end Go.Scout
namespace Go.Proofs.YtlpbelhfpoilpabGreatDoor
open Go.RowKit Go.Scout
theorem Tryz.infoCond:(Tryz.prog.info? 63).map (fun i=>(i.zero,i.size,i.bytes))=some (some (.agg #[.bool false,.int .i64 0,.int .i64 0,.bool false,.int .i64 0]),5,40):=by kernel_rfl
theorem Tryz.infoClause:(Tryz.prog.info? 67).map (fun i=>(i.zero,i.size,i.bytes))=some (some (.agg #[.slice none 0 0]),1,24):=by kernel_rfl
end Go.Proofs.YtlpbelhfpoilpabGreatDoor
namespace Go.Scout
open Go.RowKit
def tabC (t:TableD):List Value:=[.int .i64 t.cols,.int .i64 t.rows,.int .i64 t.k0,.int .i64 t.k1,.int .i64 t.k2,.int .i64 t.k3]
theorem own_tables {w:World} {base:Nat} {e:TypeId} {v:Value} {ts:List TableD} (h:w.ownsRow base e 6 v ts.length (ts.flatMap tabC)) (hl:ts.length<=1000) :
  ∃ ad cap,v=.slice ad ts.length cap/\TablesAt w ad ts:=by
 rcases h.2 with⟨rfl,h0⟩ | ⟨g,cap,cur,rfl,hb,hh,hc,_,hcs,ht⟩
 ·have:ts=[]:=List.eq_nil_of_length_eq_zero h0;subst this;exact⟨none,0,rfl,by simp,fun i hi=>absurd hi (by simp)⟩
 ·refine⟨some (aD g 0),cap,rfl,by omega,fun i hi=>⟨g,0,rfl,?_⟩⟩;have hcell:∀ j u,j<6->(tabC (ts.getD i tz))[j]? = some u->w.cell? (aD g (0+i*6+j))=some u:=fun j u hj hu=>by
   have h1:=flat_get tabC 6 (fun _=>rfl) tz ts i j hi hj;rw[hu,<- ht,List.getElem?_take] at h1;split at h1
   ·rw[Nat.zero_add,GB.cell (show GB w g _ cur from hh)]
    simpa using h1
   ·cases h1
  exact⟨hcell 0 _ (by omega) rfl,hcell 1 _ (by omega) rfl,hcell 2 _ (by omega) rfl,hcell 3 _ (by omega) rfl,hcell 4 _ (by omega) rfl,hcell 5 _ (by omega) rfl⟩
theorem tables_news {w:World} {a:Addr} {xs:List TableD} (h:TablesAt w (some a) xs):∀ j u,(xs.flatMap tabC)[j]? = some u->∃ b off,some a=some (aD b off)/\w.cell? (aD b (off+j))=some u:=by
 intro j u hj;have hjl:j<xs.length*6:=by
  have:=(List.getElem?_eq_some_iff.1 hj).1;rw[flat_len tabC 6 (fun _=>rfl)] at this;exact this
 have hi:j / 6<xs.length:=by omega
 obtain⟨b,off,e,c0,c1,c2,c3,c4,c5⟩:=h.2 (j / 6) hi;refine⟨b,off,e,?_⟩;have hr:j % 6<6:=by omega
 have hg:=flat_get tabC 6 (fun _=>rfl) tz xs (j / 6) (j % 6) hi hr;have hj2:j / 6*6+j % 6=j:=by omega
 rw[hj2,hj] at hg;rw[<- hj2];generalize j / 6=i at *;generalize j % 6=r at *
 match r,hr,hg with
 | 0,_,hg =>
  injection hg with hg;rw[hg,Nat.add_zero];exact c0
 | 1,_,hg =>
  injection hg with hg;rw[hg,<- Nat.add_assoc];exact c1
 | 2,_,hg =>
  injection hg with hg;rw[hg,<- Nat.add_assoc];exact c2
 | 3,_,hg =>
  injection hg with hg;rw[hg,<- Nat.add_assoc];exact c3
 | 4,_,hg =>
  injection hg with hg;rw[hg,<- Nat.add_assoc];exact c4
 | 5,_,hg =>
  injection hg with hg;rw[hg,<- Nat.add_assoc];exact c5
theorem conds_news {w:World} {a:Addr} {xs:List CondD} (h:CondsAt w (some a) xs):∀ j u,(xs.flatMap CondD.vals)[j]? = some u->∃ b off,some a=some (aD b off)/\w.cell? (aD b (off+j))=some u:=by
 intro j u hj;have hjl:j<xs.length*5:=by
  have:=(List.getElem?_eq_some_iff.1 hj).1;rw[flat_len CondD.vals 5 (fun _=>rfl)] at this;exact this
 have hi:j / 5<xs.length:=by omega
 obtain⟨b,off,e,c0,c1,c2,c3,c4⟩:=h.2 (j / 5) hi;refine⟨b,off,e,?_⟩;have hr:j % 5<5:=by omega
 have hg:=flat_get CondD.vals 5 (fun _=>rfl) cz xs (j / 5) (j % 5) hi hr;have hj2:j / 5*5+j % 5=j:=by omega
 rw[hj2,hj] at hg;rw[<- hj2];generalize j / 5=i at *;generalize j % 5=r at *
 match r,hr,hg with
 | 0,_,hg =>
  injection hg with hg;rw[hg,Nat.add_zero];exact c0
 | 1,_,hg =>
  injection hg with hg;rw[hg,<- Nat.add_assoc];exact c1
 | 2,_,hg =>
  injection hg with hg;rw[hg,<- Nat.add_assoc];exact c2
 | 3,_,hg =>
  injection hg with hg;rw[hg,<- Nat.add_assoc];exact c3
 | 4,_,hg =>
  injection hg with hg;rw[hg,<- Nat.add_assoc];exact c4
end Go.Scout
namespace Go.Proofs.YtlpbelhfpoilpabGreatDoor
open Go.RowKit Go.Scout Go.Shelf
theorem Tryz.infoTab:(Tryz.prog.info? 49).map (fun i=>(i.zero,i.size,i.bytes))=some (some (.agg #[.int .i64 0,.int .i64 0,.int .i64 0,.int .i64 0,.int .i64 0,.int .i64 0]),6,48):=by kernel_rfl
theorem cloneTables_any (ao:Option Addr) (cap:Nat) (xs:List TableD) (w:World) (hx:TablesAt w ao xs) (hn:ao=none->cap=0) (hl:xs.length<=1000) :
  Calls Tryz.prog 26 #[.slice ao xs.length cap] w fun e w'=>∃ v,e=.returned v/\w'.ownsRow w.heap.size 49 6 v xs.length (xs.flatMap tabC)/\Below w.heap.size w w':=by
 obtain⟨i0,hi,hz0,hz1,hz2⟩:=info_parts Tryz.infoTab
 cases ao with
 | none =>
  obtain rfl:cap=0:=hn rfl;have h0:xs=[]:=by
   cases xs with
   | nil => rfl
   | cons x xs => obtain⟨b,off,e,_⟩:=hx.2 0 (by simp); cases e
  subst h0;have hnil:∀ W,(binOp .eql 23 (.slice none 0 0) (.slice none 0 0)).run Tryz.prog W=.ok (.bool true) W:=fun W=>Lib.run_eql_slice_nil W 23 _ none _ _ _ _ Tryz.underlying23
  clear hx;go_enter Tryz.func26,Tryz.ntmps26;go_wp2;go_ret;exact⟨_,rfl,World.ownsRow_nil _ _ _ _,Below.refl _ _⟩
 | some a =>
  obtain⟨v',w',hr,ho,hbw,⟨va,vm,vc,rfl⟩⟩:=clone_run (P:=Tryz.prog) w 23 23 49 i0 _ 6 48 Tryz.underlying23 hi hz0 hz1 hz2 rfl (by decide) a xs.length cap (xs.flatMap tabC) (flat_len tabC 6 (fun _=>rfl) xs) (tables_news hx) (fun u hu=>by
   obtain⟨x,_,hx⟩:=List.mem_flatMap.1 hu;simp[tabC] at hx;rcases hx with rfl | rfl | rfl | rfl | rfl | rfl <;> rfl) (by omega) (by decide)
  have hnil:∀ W,(binOp .eql 23 (.slice (some a) xs.length cap) (.slice none 0 0)).run Tryz.prog W=.ok (.bool false) W:=fun W=>Lib.run_eql_slice_nil W 23 _ (some a) _ _ _ _ Tryz.underlying23
  have HO:Hid _:=ho;have HB:Hid _:=hbw;clear ho hbw hx hi hz0 hz1 hz2;go_enter Tryz.func26,Tryz.ntmps26;go_wp2_with (first | (at_builtin; refine wpList_append_run rfl (.tmp 5) (.tmp 6) 23 rfl (.slice (some (aD w.heap.size 0)) 0 0) (.slice (some a) xs.length cap) (.slice va vm vc) w' rfl rfl hr ?_));clear hr;go_wp2;go_ret;exact⟨_,rfl,HO.out,HB.out⟩
theorem cloneConds_any (ao:Option Addr) (cap:Nat) (xs:List CondD) (w:World) (hx:CondsAt w ao xs) (hn:ao=none->cap=0) (hl:xs.length<=1000) :
  Calls Tryz.prog 37 #[.slice ao xs.length cap] w fun e w'=>∃ v,e=.returned v/\w'.ownsRow w.heap.size 63 5 v xs.length (xs.flatMap CondD.vals)/\Below w.heap.size w w':=by
 obtain⟨i0,hi,hz0,hz1,hz2⟩:=info_parts Tryz.infoCond
 cases ao with
 | none =>
  obtain rfl:cap=0:=hn rfl;have h0:xs=[]:=by
   cases xs with
   | nil => rfl
   | cons x xs => obtain⟨b,off,e,_⟩:=hx.2 0 (by simp); cases e
  subst h0;have hnil:∀ W,(binOp .eql 65 (.slice none 0 0) (.slice none 0 0)).run Tryz.prog W=.ok (.bool true) W:=fun W=>Lib.run_eql_slice_nil W 65 _ none _ _ _ _ Tryz.underlying65
  clear hx;go_enter Tryz.func37,Tryz.ntmps37;go_wp2;go_ret;exact⟨_,rfl,World.ownsRow_nil _ _ _ _,Below.refl _ _⟩
 | some a =>
  obtain⟨v',w',hr,ho,hbw,⟨va,vm,vc,rfl⟩⟩:=clone_run (P:=Tryz.prog) w 65 65 63 i0 _ 5 40 Tryz.underlying65 hi hz0 hz1 hz2 rfl (by decide) a xs.length cap (xs.flatMap CondD.vals) (flat_len CondD.vals 5 (fun _=>rfl) xs) (conds_news hx) (fun u hu=>by
   obtain⟨x,_,hx⟩:=List.mem_flatMap.1 hu;simp[CondD.vals] at hx;rcases hx with rfl | rfl | rfl | rfl | rfl <;> rfl) (by omega) (by decide)
  have hnil:∀ W,(binOp .eql 65 (.slice (some a) xs.length cap) (.slice none 0 0)).run Tryz.prog W=.ok (.bool false) W:=fun W=>Lib.run_eql_slice_nil W 65 _ (some a) _ _ _ _ Tryz.underlying65
  have HO:Hid _:=ho;have HB:Hid _:=hbw;clear ho hbw hx hi hz0 hz1 hz2;go_enter Tryz.func37,Tryz.ntmps37;go_wp2_with (first | (at_builtin; refine wpList_append_run rfl (.tmp 5) (.tmp 6) 65 rfl (.slice (some (aD w.heap.size 0)) 0 0) (.slice (some a) xs.length cap) (.slice va vm vc) w' rfl rfl hr ?_));clear hr;go_wp2;go_ret;exact⟨_,rfl,HO.out,HB.out⟩
theorem cloneClauses_any (ao:Option Addr) (cap:Nat) (xs:List ClauseV) (w:World) (hx:xs.length<=1152921504606846976/\CellsAt w ao xs.length (fun i=>(xs.getD i lz).val)) (hn:ao=none->cap=0) (hl:xs.length<=1000) :
  Calls Tryz.prog 36 #[.slice ao xs.length cap] w fun e w'=>∃ v,e=.returned v/\w'.ownsRow w.heap.size 67 1 v xs.length (xs.map ClauseV.val)/\Below w.heap.size w w':=by
 obtain⟨i0,hi,hz0,hz1,hz2⟩:=info_parts Tryz.infoClause
 cases ao with
 | none =>
  obtain rfl:cap=0:=hn rfl;have h0:xs=[]:=by
   cases xs with
   | nil => rfl
   | cons x xs => obtain⟨b,off,e,_⟩:=hx.2 0 (by simp); cases e
  subst h0;have hnil:∀ W,(binOp .eql 24 (.slice none 0 0) (.slice none 0 0)).run Tryz.prog W=.ok (.bool true) W:=fun W=>Lib.run_eql_slice_nil W 24 _ none _ _ _ _ Tryz.underlying24
  clear hx;go_enter Tryz.func36,Tryz.ntmps36;go_wp2;go_ret;exact⟨_,rfl,World.ownsRow_nil _ _ _ _,Below.refl _ _⟩
 | some a =>
  obtain⟨v',w',hr,ho,hbw,⟨va,vm,vc,rfl⟩⟩:=clone_run (P:=Tryz.prog) w 24 24 67 i0 _ 1 24 Tryz.underlying24 hi hz0 hz1 hz2 rfl (by decide) a xs.length cap (xs.map ClauseV.val) (by simp) (fun j u hj=>by
   rw[List.getElem?_map] at hj;by_cases hjl:j<xs.length
   ·obtain⟨b',off',e,hc⟩:=hx.2 j hjl;refine⟨b',off',e,?_⟩;rw[hc];simp[List.getD,hjl] at hj ⊢;exact hj
   ·rw[List.getElem?_eq_none (by omega)] at hj; cases hj) (fun u hu=>by obtain⟨x,_,rfl⟩:=List.mem_map.1 hu; rfl) (by omega) (by decide)
  have hnil:∀ W,(binOp .eql 24 (.slice (some a) xs.length cap) (.slice none 0 0)).run Tryz.prog W=.ok (.bool false) W:=fun W=>Lib.run_eql_slice_nil W 24 _ (some a) _ _ _ _ Tryz.underlying24
  have HO:Hid _:=ho;have HB:Hid _:=hbw;clear ho hbw hx hi hz0 hz1 hz2;go_enter Tryz.func36,Tryz.ntmps36;go_wp2_with (first | (at_builtin; refine wpList_append_run rfl (.tmp 5) (.tmp 6) 24 rfl (.slice (some (aD w.heap.size 0)) 0 0) (.slice (some a) xs.length cap) (.slice va vm vc) w' rfl rfl hr ?_));clear hr;go_wp2;go_ret;exact⟨_,rfl,HO.out,HB.out⟩
end Go.Proofs.YtlpbelhfpoilpabGreatDoor
namespace Go.Scout
open Go.RowKit
theorem grow_ok2 (ts:List TableD) {q:QueryV} {k:Int} (h1:3<=k) (h5:k<=5) {cl:List Int} {key:Int} (hc:SmallL q.wh.length cl) {t u:TrD} (h:TOk q t) (hu:TOk q u):TOk q (growT ts q (joinK k cl key) [t,u]):=
 growT_ok ts q _ _ ⟨by show (1:Int)<=k; omega,by show k<=10; omega⟩ (fun e=>by have:k=1:=e; omega) hc (fun b hb=>by
  rcases List.mem_cons.1 hb with hb | hb
  ·rw[hb]; exact h
  ·rw[List.mem_singleton] at hb; rw[hb]; exact hu)
theorem scan_ok (ts:List TableD) {q:QueryV} {s:Int} (h0:0<=s) (h1:s<q.src.xs.length):TOk q (growT ts q (scanK s) []):=
 growT_ok ts q _ _ ⟨(by decide:(1:Int)<=1),(by decide:(1:Int)<=10)⟩ (fun _=>⟨h0,h1⟩) (smallL_nil _) (fun b hb=>by cases hb)
theorem plainTo_ok (ts:List TableD) (q:QueryV):∀ k,k<q.src.xs.length->TOk q (plainTo ts q k)/\(plainTo ts q k).ns.length<=2*k+1
 | 0,h => ⟨scan_ok ts (Int.le_refl _) (by omega),by
  show (growT ts q (scanK 0) []).ns.length<=1
  rw[growT_len ts q _ (by simp)];exact Nat.le_refl _⟩
 | k+1,h => by
  obtain⟨h1,h2⟩:=plainTo_ok ts q k (by omega);refine⟨grow_ok2 ts (k:=3) (cl:=[]) (key:=0) (by decide) (by decide) (smallL_nil _) h1 (scan_ok ts (by omega) (by omega)),?_⟩
  show (growT ts q (nodeK 3) [plainTo ts q k,growT ts q (scanK ((k+1:Nat):Int)) []]).ns.length<=_
  rw[growT_len ts q _ (by simp)];have e:(growT ts q (scanK ((k+1:Nat):Int)) []).ns.length=1:=growT_len ts q _ (by simp)
  show (plainTo ts q k).ns.length+(growT ts q (scanK ((k+1:Nat):Int)) []).ns.length+1<=_
  omega
theorem grow_ok1' (ts:List TableD) {q:QueryV} {k:Int} (h1:2<=k) (h10:k<=10) {t:TrD} (h:TOk q t):TOk q (growT ts q (nodeK k) [t])/\(growT ts q (nodeK k) [t]).ns.length=t.ns.length+1:=
 ⟨growT_ok ts q _ _ ⟨by show (1:Int)<=k; omega,h10⟩ (fun e=>by have:k=1:=e; omega) (smallL_nil _) (fun b hb=>by rw[List.mem_singleton] at hb; rw[hb]; exact h),growT_len ts q _ (by simp)⟩
theorem plainT_ok (ts:List TableD) (q:QueryV) (h1:1<=q.src.xs.length):TOk q (plainT ts q)/\(plainT ts q).ns.length<=2*q.src.xs.length+3:=by
 obtain⟨ha,hb⟩:=plainTo_ok ts q (q.src.xs.length-1) (by omega);have hc:2 ^ q.wh.length-1<2 ^ q.wh.length:=by have:0<2 ^ q.wh.length:=Nat.pow_pos (by omega); omega
 have hf:=filteredT_ok (ts:=ts) ha hc;have hl:=filteredT_len ts q (plainTo ts q (q.src.xs.length-1)) (2 ^ q.wh.length-1);have hk:2<=(if q.group=true then (7:Int) else 9)/\(if q.group=true then (7:Int) else 9)<=10:=by split <;> omega
 obtain⟨h3,h4⟩:=grow_ok1' ts hk.1 hk.2 hf;unfold plainT;simp only;split
 ·obtain⟨h5,h6⟩:=grow_ok1' ts (k:=10) (by decide) (by decide) h3;exact⟨h5,by omega⟩
 ·exact⟨h3,by omega⟩
def NodeV.list (n:NodeV):List Value:=[.int .i64 n.kind,.int .i64 n.l,.int .i64 n.r,.int .i64 n.source,n.cl.val,.int .i64 n.key,n.co.val]
theorem nodeL_len (n:NodeV):n.list.length=7:=rfl
theorem flatN_set:∀ (l:List NodeV) (i j:Nat) (v:Value) (n:NodeV),i<l.length->j<7->n.list=(l.getD i nz).list.set j v->(l.flatMap NodeV.list).set (i*7+j) v=(l.set i n).flatMap NodeV.list
 | [],i,_,_,_,h,_,_ => absurd h (by simp)
 | a::l,0,j,v,n,_,hj,e => by
  rw[List.flatMap_cons,List.set_cons_zero,List.flatMap_cons,Nat.zero_mul,Nat.zero_add,List.set_append_left _ _ (by rw[nodeL_len]; exact hj),e];rfl
 | a::l,i+1,j,v,n,h,hj,e => by
  rw[List.flatMap_cons,List.set_cons_succ,List.flatMap_cons,List.set_append_right _ _ (by rw[nodeL_len]; omega),nodeL_len,show (i+1)*7+j-7=i*7+j by omega,flatN_set l i j v n (by simpa using h) hj e]
theorem own_set {w:World} {base:Nat} {e:TypeId} {sz:Nat} {v:Value} {n:Nat} {xs:List Value} (h:w.ownsRow base e sz v n xs) {g:Nat} (hg:v.ownBlock=some g) {j:Nat} (hj:j<n*sz) (u:Value):(w.setCell (aD g j) u).ownsRow base e sz v n (xs.set j u):=by
 refine⟨by rw[List.length_set]; exact h.1,?_⟩;rcases h.2 with⟨rfl,_⟩ | ⟨g',cap,cur,rfl,hb,hh,hn,hm,hs,ht⟩
 ·cases hg
 ·cases hg
  refine .inr ⟨g',cap,cur.setIfInBounds j u,rfl,hb,GB.set (show GB w g' e cur from hh) j u,hn,hm,by rw[Array.size_setIfInBounds]; exact hs,?_⟩;rw[Array.toList_setIfInBounds,List.take_set,ht]
theorem own_frozen {w:World} {base:Nat} {e:TypeId} {sz:Nat} {v:Value} {n:Nat} {xs:List Value} (h:w.ownsRow base e sz v n xs) {g:Nat} (hg:v.ownBlock=some g) (j:Nat):w.frozen? (aD g j)=false:=by
 rcases h.2 with⟨rfl,_⟩ | ⟨g',cap,cur,rfl,hb,hh,_⟩
 ·cases hg
 ·cases hg
  exact GB.frozen (show GB w g' e cur from hh) j
theorem own_kept_set {w:World} {g j:Nat} (u:Value):Kept (fun b=>b≠g) w (w.setCell (aD g j) u):=Kept.setCell _ _ _ (fun h=>h rfl)
theorem own_node {w:World} {base:Nat} {e:TypeId} {v:Value} {ns:List NodeV} {m:Nat} (h:w.ownsRow base e 7 v m (ns.flatMap NodeV.list)) {i:Nat} (hi:i<ns.length) :
  ∃ g cap,v=.slice (some (aD g 0)) m cap/\base<=g/\g<w.heap.size/\∀ j u,j<7->(ns.getD i nz).list[j]? = some u->w.cell? (aD g (i*7+j))=some u:=by
 have hl:ns.length=m:=by have:=h.1; rw[flat_len NodeV.list 7 (fun _=>rfl)] at this; omega
 rcases own_newsN h with⟨_,h1⟩ | ⟨g,cap,hv,hb,hlt,hc⟩
 ·omega
 ·exact⟨g,cap,hv,hb,hlt,fun j u hj hu=>hc _ _ (by rw[flat_get NodeV.list 7 (fun _=>rfl) nz ns i j hi hj]; exact hu)⟩
structure NodesK (Tn:TypeId) (F:Nat->Prop) (base:Nat) (w:World) (v:Value) (nv:List NodeV):Prop where
 own:w.ownsRow base Tn 7 v nv.length (nv.flatMap NodeV.list)
 blk:∀ g,v.ownBlock=some g->F g
 lists:∀ n∈nv,n.cl.At w/\InF F n.cl.ad n.cl.xs.length/\n.co.At w/\InF F n.co.ad n.co.xs.length
theorem NodesK.keptF {Tn:TypeId} {F:Nat->Prop} {base:Nat} {w w':World} {v:Value} {nv:List NodeV} (h:NodesK Tn F base w v nv) (hk:Kept F w w'):NodesK Tn F base w' v nv:=
 ⟨ownsRow_keep h.own hk h.blk,h.blk,fun n hn=>by
  obtain⟨h1,h2,h3,h4⟩:=h.lists n hn;exact⟨IntsAt.keptF h1 hk h2,h2,IntsAt.keptF h3 hk h4,h4⟩⟩
theorem NodesK.below {Tn:TypeId} {F:Nat->Prop} {base:Nat} {w w':World} {v:Value} {nv:List NodeV} (h:NodesK Tn F base w v nv) (hb:Below w.heap.size w w'):NodesK Tn F base w' v nv:=h.keptF (Kept.of_below hb fun _ h _=>h)
theorem NodesK.mono {Tn:TypeId} {F G:Nat->Prop} {base:Nat} {w:World} {v:Value} {nv:List NodeV} (h:NodesK Tn F base w v nv) (hs:∀ b,b<w.heap.size->F b->G b):NodesK Tn G base w v nv:=
 ⟨h.own,fun g hg=>hs g (ownsRow_lt h.own hg).2 (h.blk g hg),fun n hn=>by
  obtain⟨h1,h2,h3,h4⟩:=h.lists n hn;exact⟨h1,InF.mono h1.2 h2 hs,h3,InF.mono h3.2 h4 hs⟩⟩
def NodesPost (Tn:TypeId) (F:Nat->Prop) (w:World) (ns:List NodeV) (e:Ending) (w':World):Prop:=
 ∃ v nv,e=.returned v/\nv.map pureN=ns/\NodesK Tn F w.heap.size w' v nv/\Below w.heap.size w w'
def movedTo (a:Nat) (ns:List NodeV) (k:Nat):List NodeV:=(ns.take k).map (moveN a)++ns.drop k
theorem movedTo_len (a:Nat) (ns:List NodeV) (k:Nat):(movedTo a ns k).length=ns.length:=by
 unfold movedTo;rw[List.length_append,List.length_map,<- List.length_append,List.take_append_drop]
theorem movedTo_get (a:Nat) {ns:List NodeV} {k:Nat} (hk:k<ns.length):(movedTo a ns k).getD k nz=ns.getD k nz:=by
 unfold movedTo;rw[List.getD_eq_getElem?_getD,List.getD_eq_getElem?_getD,List.getElem?_append_right (by rw[List.length_map,List.length_take]; omega),List.length_map,List.length_take,Nat.min_eq_left (by omega),Nat.sub_self,List.getElem?_drop,Nat.add_zero]
theorem movedTo_succ (a:Nat) {ns:List NodeV} {k:Nat} (hk:k<ns.length):movedTo a ns (k+1)=(movedTo a ns k).set k (moveN a (ns.getD k nz)):=by
 unfold movedTo;have h1:((ns.take k).map (moveN a)).length=k:=by rw[List.length_map,List.length_take]; omega
 have h2:ns.drop k=ns.getD k nz::ns.drop (k+1):=by
  rw[List.drop_eq_getElem_cons hk,List.getD_eq_getElem?_getD,List.getElem?_eq_getElem hk];rfl
 rw[List.set_append_right _ _ (by rw[h1]; exact Nat.le_refl _),h1,Nat.sub_self,h2,List.set_cons_zero,take_snocR ns nz hk,List.map_append,List.append_assoc];rfl
theorem set_same {α:Type} (l:List α) (d:α) {k:Nat} (hk:k<l.length):l.set k (l.getD k d)=l:=by
 rw[List.getD_eq_getElem?_getD,List.getElem?_eq_getElem hk];exact List.set_getElem_self hk
theorem movedTo_zero (a:Nat) (ns:List NodeV):movedTo a ns 0=ns:=by unfold movedTo; simp
theorem movedTo_all (a:Nat) (ns:List NodeV):movedTo a ns ns.length=ns.map (moveN a):=by unfold movedTo; simp
def DbHad (w:World) (d:Option Addr) (db:List RowsV):Prop:=DbAt w d db/\∀ i,i<db.length->RowsHad w (db.getD i rz).ad (db.getD i rz).rs
theorem DbHad.below {w w':World} (hb:Below w.heap.size w w') {d:Option Addr} {db:List RowsV} (h:DbHad w d db):DbHad w' d db:=⟨h.1.below hb,fun i hi=>(h.2 i hi).below hb⟩
def SeqV (E:El IntsV (List Int)) (P:Program) (v:Value) (rows:List (List Int)) (w:World):Prop:=
 ∃ g lb,v=.func (.func g) #[] lb/\(∀ args w,(callFunc g args).run P w=.ok (.enter g args) w)/\Seq E P g lb rows w
theorem SeqV.later {E:El IntsV (List Int)} {P:Program} {v:Value} {rows:List (List Int)} {w w':World} (h:SeqV E P v rows w) (hb:Below w.heap.size w w'):SeqV E P v rows w':=by
 obtain⟨g,lb,hv,eg,hs⟩:=h;exact⟨g,lb,hv,eg,Seq.later E hs hb⟩
end Go.Scout
namespace Go.Proofs.YtlpbelhfpoilpabGreatDoor
open Go.RowKit Go.Scout Go.Shelf
end Go.Proofs.YtlpbelhfpoilpabGreatDoor
namespace Go.Scout
open Go.RowKit
theorem set_mid (A B:List Value) (x y:Value):(A++x::B).toArray.setIfInBounds A.length y=(A++y::B).toArray:=by
 rw[List.setIfInBounds_toArray,List.set_append_right _ _ (Nat.le_refl _),Nat.sub_self,List.set_cons_zero]
theorem at_mid (A B:List Value) (x:Value):(A++x::B).toArray[A.length]? = some x:=by
 rw[List.getElem?_toArray,List.getElem?_append_right (Nat.le_refl _),Nat.sub_self];rfl
structure Swap (w:World) (blk:Nat) (t:TypeId) (i1 i2:Nat) (x y:Value) (L:List Value):Prop where
 c1:w.cell? (aD blk i1)=some x
 c2:w.cell? (aD blk i2)=some y
 z1:w.frozen? (aD blk i1)=false
 z2:w.frozen? (aD blk i2)=false
 ne:i1≠i2
 up:GB (((w.setCell (aD blk i1) y).setCell (aD blk i2) x).drew) blk t L.toArray/\Kept (fun b=>b≠blk) w (((w.setCell (aD blk i1) y).setCell (aD blk i2) x).drew)
 down:GB (((w.setCell (aD blk i2) x).setCell (aD blk i1) y).drew) blk t L.toArray/\Kept (fun b=>b≠blk) w (((w.setCell (aD blk i2) x).setCell (aD blk i1) y).drew)
theorem Kept.drew1 {s:Nat->Prop} (w:World):Kept s w w.drew:=Kept.of_below ((Below.refl w.heap.size w).drew) (fun b hb _=>hb)
theorem GB.drew1 {w:World} {blk:Nat} {t:TypeId} {c:Array Value} (h:GB w blk t c):GB w.drew blk t c:=h.keep (Kept.drew1 (s:=fun _=>True) w) trivial
theorem GB.drewN {w:World} {blk:Nat} {t:TypeId} {c:Array Value} (h:GB w blk t c) (n:Nat):GB (w.drewN n) blk t c:=h.keep (Kept.drewN (s:=fun _=>True) w n) trivial
theorem GB.swap {w:World} {blk:Nat} {t:TypeId} {A B C:List Value} {x y:Value} (h:GB w blk t (A++x::B++y::C).toArray) {i1 i2:Nat} (h1:i1=A.length) (h2:i2=A.length+1+B.length):Swap w blk t i1 i2 x y (A++y::B++x::C):=by
 have hl:i2=(A++x::B).length:=by rw[h2]; simp; omega
 have hl':i2=(A++y::B).length:=by rw[h2]; simp; omega
 have e1:(A++x::B++y::C).toArray[i1]? = some x:=by
  rw[h1,List.append_assoc]; exact at_mid A _ x
 have e2:(A++x::B++y::C).toArray[i2]? = some y:=by
  rw[hl]; exact at_mid _ _ y
 have s1:(A++x::B++y::C).toArray.setIfInBounds i1 y=(A++y::B++y::C).toArray:=by
  rw[h1,List.append_assoc,List.cons_append,set_mid,List.append_assoc,List.cons_append]
 have s2:(A++y::B++y::C).toArray.setIfInBounds i2 x=(A++y::B++x::C).toArray:=by
  rw[hl']; exact set_mid _ _ _ _
 have s3:(A++x::B++y::C).toArray.setIfInBounds i2 x=(A++x::B++x::C).toArray:=by
  rw[hl]; exact set_mid _ _ _ _
 have s4:(A++x::B++x::C).toArray.setIfInBounds i1 y=(A++y::B++x::C).toArray:=by
  rw[h1,List.append_assoc,List.cons_append,set_mid,List.append_assoc,List.cons_append]
 refine⟨(h.cell i1).trans e1,(h.cell i2).trans e2,h.frozen i1,h.frozen i2,by omega,⟨?_,?_⟩,⟨?_,?_⟩⟩
 ·have:=(h.set i1 y).set i2 x;rw[s1,s2] at this;exact this.drew1
 ·exact ((Kept.setCell _ _ _ (fun h=>h rfl)).trans (Kept.setCell _ _ _ (fun h=>h rfl))).trans (Kept.drew1 _)
 ·have:=(h.set i2 x).set i1 y;rw[s3,s4] at this;exact this.drew1
 ·exact ((Kept.setCell _ _ _ (fun h=>h rfl)).trans (Kept.setCell _ _ _ (fun h=>h rfl))).trans (Kept.drew1 _)
def SL (L:List IntsV) (R:List Value):Array Value:=(L.map IntsV.val++R).toArray
end Go.Scout
namespace Go.Proofs.YtlpbelhfpoilpabGreatDoor
open Go.RowKit Go.Scout
end Go.Proofs.YtlpbelhfpoilpabGreatDoor
