import Derived.Test.YtlpbelhfpoilpabGreatDoorC13
import Derived.Test.YtlpbelhfpoilpabGreatDoorC24
import Derived.Test.YtlpbelhfpoilpabGreatDoorC29
set_option linter.all false
set_option maxRecDepth 100000
set_option maxHeartbeats 16000000
namespace Go.Scout
open Go.RowKit
theorem newGr_none {ls:List (List Int)} {p:PlaceD} (h:p∈newGr ls):p.2=none:=by
 unfold newGr at h;obtain⟨o,_,rfl⟩:=List.mem_map.1 h;rfl
theorem adds_all {rk:Nat->Int} {Q:TaskD->Prop}:∀ (l:List Nat) (acc:List TaskD),(∀ t∈acc,Q t)->(∀ i∈l,Q (2 ^ i,0))->∀ t∈l.foldl (fun a (i:Nat)=>addA rk a (2 ^ i,0)) acc,Q t
 | [],_,h,_ => h
 | i::l,acc,h,hl => adds_all l _ (fun t ht => by
   rcases addA_mem ht with ht | rfl
   ·exact h t ht
   ·exact hl i List.mem_cons_self) (fun j hj=>hl j (List.mem_cons_of_mem _ hj))
theorem addA_grow (rk:Nat->Int) (a:List TaskD) (t:TaskD):a.length<=(addA rk a t).length/\(addA rk a t).length<=a.length+1:=by
 unfold addA;split
 ·omega
 ·rw[List.length_append,List.length_cons,List.length_take,List.length_drop];omega
theorem addA_nil (rk:Nat->Int) (t:TaskD):0<(addA rk [] t).length:=by
 unfold addA;split
 ·rename_i h
  exact absurd h (by simp[thereB])
 ·simp
theorem adds_grow (rk:Nat->Int):∀ (l:List Nat) (acc:List TaskD),acc.length<=(l.foldl (fun a (i:Nat)=>addA rk a (2 ^ i,0)) acc).length/\(l.foldl (fun a (i:Nat)=>addA rk a (2 ^ i,0)) acc).length<=acc.length+l.length
 | [],acc => by simp
 | i::l,acc => by
  have h1:=addA_grow rk acc (2 ^ i,0);have h2:=adds_grow rk l (addA rk acc (2 ^ i,0));simp only[List.foldl_cons,List.length_cons];omega
theorem beginN_ok (rk:Nat->Int) (ts:List TableD) (q:QueryV) (room:Nat) (h1:1<=q.src.xs.length) (h5:q.src.xs.length<=5) (h8:q.wh.length<=8) (hr:1<=room):SOk q (beginN rk ts q room):=by
 have hp:=plainT_ok ts q h1;have hg:=adds_grow rk (List.range q.src.xs.length) [];rw[List.length_range] at hg;refine⟨⟨by unfold beginN; simp,fun s hs=>?_,fun t ht=>?_,hp.1,?_⟩,fun _=>?_,?_⟩
 ·have hs':s<2 ^ q.src.xs.length-1:=by
   unfold beginN at hs
   simpa using hs
  have e:(beginN rk ts q room).groups.getD s []=newGr ((usefulN ts q s).take room):=by
   unfold beginN;rw[List.getD_eq_getElem?_getD,List.getElem?_map,List.getElem?_eq_getElem (by simpa using hs')];simp
  rw[e];obtain⟨⟨r,hu⟩,hl⟩:=usefulN_ok ts q s h8;refine⟨fun p hp x hx=>?_,?_,?_⟩
  ·rw[newGr_none hp] at hx
   cases hx
  ·rw[hu];obtain⟨n,rfl⟩:∃ n,room=n+1:=⟨room-1,by omega⟩
   exact⟨none,newGr (r.take n),rfl,fun x hx=>by cases hx⟩
  ·unfold newGr;rw[List.length_map,List.length_take];omega
 ·exact adds_all (rk:=rk) (Q:=TaskOk q.src.xs.length (beginN rk ts q room).groups) (List.range q.src.xs.length) [] (fun t ht=>by cases ht) (fun i hi=>.inl ⟨rfl,i,List.mem_range.1 hi,rfl⟩) t ht
 ·show (plainT ts q).ns.length<=800
  omega
 ·show 0<((List.range q.src.xs.length).foldl (fun a (i:Nat)=>addA rk a (2 ^ i,0)) []).length
  obtain⟨n,hn⟩:∃ n,q.src.xs.length=n+1:=⟨q.src.xs.length-1,by omega⟩
  rw[hn,List.range_succ_eq_map,List.foldl_cons];exact Nat.lt_of_lt_of_le (addA_nil rk _) (adds_grow rk _ _).1
 ·show ((List.range q.src.xs.length).foldl (fun a (i:Nat)=>addA rk a (2 ^ i,0)) []).length<=64*(0+1)
  have:=hg.2;simp only[List.length_nil] at this;omega
end Go.Scout
