import Derived.Test.YtjndadibondgbaaGreatDoorCards
import Derived.Test.YtjndadibondgbaaGreatDoorTie
import Derived.Test.YtjndadibondgbaaGreatDoorL49
import Derived.Test.YtjndadibondgbaaGreatDoorL50
set_option linter.all false
set_option maxRecDepth 100000
set_option maxHeartbeats 16000000
namespace Go.Proofs.YtjndadibondgbaaGreatDoor
open Go Go.Proofs.Zz
theorem laid_proved:Rows.LaidCardSaid:=
 Claim7.holds_tied_plain_at .later [] [.data] true (true, "a7dcd1f91253e9dfe7abfe9f60107b077e1b41fa677ec380edf4210064b5e384") false
  aaN (fun _ h=>by cases h) ahn (fun _ h=>by cases h) laid_row_tie rfl ⟨rfl,rfl⟩ aaO rfl
  (fun f fn hf hfn=>by
   obtain rfl:f=3:=Option.some.inj (UQ.symm.trans hf) |>.symm
   obtain rfl:fn=Tryz.f3:=(Option.some.inj (Tryz.func3.symm.trans hfn)).symm;exact⟨UO,fun j t ht=>by
    rw[Tryz.params3]at ht;rcases j with _ | _ | _ | j
    ·obtain rfl:t=22:=by simpa using ht.symm
     exact VF
    ·obtain rfl:t=22:=by simpa using ht.symm
     exact VF
    ·obtain rfl:t=3:=by simpa using ht.symm
     exact aho
    ·simp at ht⟩)
  aaP
#print axioms laid_proved
