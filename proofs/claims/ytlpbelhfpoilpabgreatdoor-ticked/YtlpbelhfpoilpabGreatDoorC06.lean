import Derived.Lib.SliceRun
import Derived.Test.YtlpbelhfpoilpabGreatDoorProg
import Derived.Deep.QuietTactic
import Derived.BigQuiet
import Derived.Deep.Cut
import Derived.OwnWalk
import Derived.Test.YtlpbelhfpoilpabGreatDoorC01
import Derived.Test.YtlpbelhfpoilpabGreatDoorC03
import Derived.Test.YtlpbelhfpoilpabGreatDoorC05
set_option linter.all false
set_option maxRecDepth 100000
set_option maxHeartbeats 16000000
namespace Go.Scout
open Go.RowKit
theorem own_empty {w:World} {base b:Nat} {e:TypeId} (size:Nat) (hb:base<=b) (h:w.heap[b]? = some (.cells #[] e (0,0))):w.ownsRow base e size (.slice (some (aD b 0)) 0 0) 0 []:=
 ⟨by simp,.inr ⟨b,0,#[],rfl,hb,h,Nat.le_refl _,by unfold maxLen; omega,by simp,by simp⟩⟩
theorem clone_run {P:Program} (W:World) (t ty e:TypeId) (i:TypeInfo) (z:Value) (size bytes:Nat) (ht:P.underlying t=some (.slice e)) (hi:P.info? e=some i) (hz:i.zero=some z) (hsize:i.size=size) (hby:i.bytes=bytes) (hzs:z.cells.size=size) (hsz:0<size)
  (a:Addr) (m c:Nat) (news:List Value) (hl:news.length=m*size) (hnews:∀ j u,news[j]? = some u->∃ b off,some a=some (aD b off)/\W.cell? (aD b (off+j))=some u) (h1:∀ u∈news,u.oneCell' = true) (hm:m<=1000000) (hbb:bytes<=1000) :
  ∃ v' w',(Builtin.append_ #[t,t] ty #[.slice (some (aD W.heap.size 0)) 0 0,.slice (some a) m c]).run P (W.alloc (.cells #[] e))=.ok v' w'/\w'.ownsRow W.heap.size e size v' m news/\Below W.heap.size W w'/\(∃ a k d,v' = .slice a k d):=by
 have hb1:=bQ2 W (.cells #[] e);obtain⟨v',w',hr,ho,hg,_,_⟩:=run_append_own_at (P:=P) (W.alloc (.cells #[] e)) W.heap.size t ty e i z size bytes ht hi hz hsize hby hzs hsz (.slice (some (aD W.heap.size 0)) 0 0) 0 [] (own_empty size (Nat.le_refl _) (bQ3 W _)) a m c news hl
  (fun j u hj=>by obtain⟨b,off,e,hc⟩:=hnews j u hj; injection e with e; rw[e,addr_add]; exact cB hb1 hc) h1 (by unfold maxLen; omega) (by rw[Nat.zero_add]; have:m*bytes<=1000000*1000:=Nat.mul_le_mul hm hbb; omega) (by rw[World.size_alloc]; omega)
 rw[Nat.zero_add,List.nil_append] at ho;refine⟨v',w',hr,ho,hb1.trans ((Kept.grown (s:=fun x=>x<W.heap.size) hg (fun r e hr=>?_)).below (by rw[World.size_alloc]; omega) (fun _ h=>h)),ownsRow_slice ho⟩;simp only[Value.ownBlock] at e;injection e with e;omega
theorem wrap_u64_nat {n:Nat} (h:n<=topN):IntKind.u64.wrap (n:Int)=n:=by
 unfold topN at h;rw[IntKind.wrap_u64];omega
end Go.Scout
namespace Go.Proofs.YtlpbelhfpoilpabGreatDoor
open Go.RowKit Go.Scout
end Go.Proofs.YtlpbelhfpoilpabGreatDoor
namespace Go.Scout
open Go.RowKit
theorem mem_take_succ {xs:List Int} {k:Nat} {v:Int} (hk:k<xs.length):v∈xs.take (k+1)↔v∈xs.take k∨xs.getD k 0=v:=by
 rw[List.take_succ_eq_append_getElem hk,List.mem_append,List.mem_singleton];have e:xs.getD k 0=xs[k]:=by simp[List.getD,hk]
 rw[e];constructor
 ·rintro (h | h)
  ·exact .inl h
  ·exact .inr h.symm
 ·rintro (h | h)
  ·exact .inl h
  ·exact .inr h.symm
theorem take_eq_succ {xs ys:List Int} {k:Nat} (hx:k<xs.length) (hy:k<ys.length) (h:xs.take k=ys.take k) (e:xs.getD k 0=ys.getD k 0):xs.take (k+1)=ys.take (k+1):=by
 rw[List.take_succ_eq_append_getElem hx,List.take_succ_eq_append_getElem hy,h];have e1:xs.getD k 0=xs[k]:=by simp[List.getD,hx]
 have e2:ys.getD k 0=ys[k]:=by simp[List.getD,hy]
 rw[<- e1,<- e2,e]
end Go.Scout
namespace Go.Proofs.YtlpbelhfpoilpabGreatDoor
open Go.RowKit Go.Scout
end Go.Proofs.YtlpbelhfpoilpabGreatDoor
namespace Go.Scout
open Go.RowKit
theorem table_of {ts:List TableD} (hc:catB ts=true) {i:Nat} (hi:i<ts.length):tableB (ts.getD i tz)=true:=by
 cases h:tableB (ts.getD i tz) with
 | true => rfl
 | false => rw[<- catB_bad hi h] at hc; cases hc
theorem kinds_bd {ts:List TableD} {src:List Int} (hc:catB ts=true) (ha:allB src ts.length=true) {c:Int} (h0:0<=c) (hl:c<widthN ts src):1<=kindsN ts src c/\kindsN ts src c<=1000000:=by
 obtain⟨s1,s2,s3,s4⟩:=sourceN_at hc ha h0 hl;have hsn:=widthN_snoc ts src (sourceN ts src c) s1;have hbd:=widthN_bd hc ha (sourceN ts src c) (by omega);have hat:=allB_at ha s1;have hgd:src.getD (sourceN ts src c) 0=src[sourceN ts src c]:=by simp[List.getD,s1]
 rw[hgd] at s4;have ht:tableB (ts.getD (src[sourceN ts src c]).toNat tz)=true:=table_of hc (by omega);unfold tableB at ht;rw[decide_eq_true_eq] at ht;rw[s4];exact ht.2.2.2.2 _ (by omega)
end Go.Scout
namespace Go.Proofs.YtlpbelhfpoilpabGreatDoor
open Go.RowKit Go.Scout
end Go.Proofs.YtlpbelhfpoilpabGreatDoor
namespace Go.Scout
open Go.RowKit
theorem ints_own {w:World} {base:Nat} {e:TypeId} {v:Value} {n:Nat} {xs:List Int} (h:w.ownsRow base e 1 v n (xs.map (Value.int .i64))) (hl:xs.length<=1152921504606846976):∃ ao cap,v=.slice ao xs.length cap/\IntsAt w ao xs:=by
 have hn:xs.length=n:=by have:=h.1; simpa using this
 rcases h.2 with⟨rfl,h0⟩ | ⟨g,cap,cur,rfl,_,hh,_,_,_,ht⟩
 ·have:xs=[]:=List.eq_nil_of_length_eq_zero (by omega);subst this;exact⟨none,0,rfl,⟨by simp,fun i hi=>absurd hi (by simp)⟩⟩
 ·refine⟨some (aD g 0),cap,by rw[<- hn],⟨hl,fun i hi=>⟨g,0,rfl,?_⟩⟩⟩;have h1:(cur.toList.take (n*1))[i]? = some (.int .i64 (xs.getD i 0)):=by
   rw[ht,List.getElem?_map];simp[List.getD,hi]
  rw[List.getElem?_take_of_lt (by omega)] at h1;rw[Nat.zero_add];simp only[World.cell?,hh]
  simpa using h1
theorem columnsN_snoc {cs:List CondD} {k:Nat} (hk:k<cs.length):columnsN (cs.take (k+1))=columnsN (cs.take k)++condCols (cs.getD k cz):=by
 have e:cs.getD k cz=cs[k]:=by simp[List.getD,hk]
 rw[List.take_succ_eq_append_getElem hk,e];unfold columnsN;rw[List.flatMap_append];simp
theorem condCols_len (c:CondD):(condCols c).length<=2:=by
 unfold condCols;split <;> simp
theorem own_below {w w':World} {base:Nat} {e:TypeId} {sz:Nat} {v:Value} {n:Nat} {xs:List Value} (h:w.ownsRow base e sz v n xs) (hb:Below w.heap.size w w'):w'.ownsRow base e sz v n xs:=ownsRow_move h (Nat.le_refl _) (fun j _ hj=>hb.block j hj)
end Go.Scout
namespace Go.Proofs.YtlpbelhfpoilpabGreatDoor
open Go.RowKit Go.Scout
end Go.Proofs.YtlpbelhfpoilpabGreatDoor
