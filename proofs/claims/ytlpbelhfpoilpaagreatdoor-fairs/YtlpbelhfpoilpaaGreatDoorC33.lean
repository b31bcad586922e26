import Derived.Test.YtlpbelhfpoilpaaGreatDoorC31
set_option linter.all false
set_option maxRecDepth 100000
set_option maxHeartbeats 16000000
namespace Go.Scout
open Go.RowKit
theorem belowO_seen {ts:List TableD} {q:QueryV} {pl:List NodeV} {f i:Nat} {k:Int} {seen:List Nat} {v:ViewD} {s:List Nat} (hip:i<pl.length) (hd:seen.Nodup) (hl:∀ x∈seen,x<pl.length) (h:belowO ts q pl f i k seen=some (v,s)):s.Nodup/\∀ x∈s,x<pl.length:=by
 unfold belowO at h;split at h
 ·cases h
 ·rename_i hk
  have hk0:¬ k<0:=fun e=>hk (.inl e)
  have hki:¬ (i:Int)<=k:=fun e=>hk (.inr (.inl e))
  have hks:k.toNat ∉ seen:=fun e=>hk (.inr (.inr e))
  obtain⟨_,hs,hn,hds⟩:=readF_some ts q pl f k.toNat seen v s hks h;subst hs;refine⟨?_,fun x hx=>?_⟩
  ·rw[List.nodup_append];exact⟨hd,hn,fun x hx y hy e=>by subst e; exact hds x hy hx⟩
  ·rcases List.mem_append.1 hx with hx | hx
   ·exact hl x hx
   ·have:=treeOf_le (inpN_lt pl) k.toNat k.toNat (Nat.le_refl _) x hx;omega
theorem kept_two {Y Y3 Y4:World} {b:Nat} {sv1 sv2:Value} (hk:Kept (Rest b sv1) Y Y3) (hn:SvNext Y sv1 sv2) (hk2:Kept (Rest b sv2) Y3 Y4) {RB:Nat} (hRB:Y.heap.size<=RB) (v:ViewV):Kept (Rest b sv1) Y (World.put6 Y4 RB v):=by
 have h:=hk.trans' hk2 (fun x hx hr=>hr.next hn hx);have h6:=World.put6_kept Y4 RB v;exact⟨h6.os.trans h.os,h6.tape.trans h.tape,h6.output.trans h.output,Nat.le_trans h.size h6.size,fun x hx hr=>by
  rw[h6.block x (by have:=h.size; omega) (by omega)];exact h.block x hx hr⟩
end Go.Scout
