import Derived.Test.YtgemohlbjehmbaaGreatDoorCards
import Derived.Test.YtgemohlbjehmbaaGreatDoorTie
import Derived.Test.YtgemohlbjehmbaaGreatDoorF50
import Derived.Test.YtgemohlbjehmbaaGreatDoorF51
set_option linter.all false
set_option maxRecDepth 100000
set_option maxHeartbeats 16000000
namespace Go.Proofs.YtgemohlbjehmbaaGreatDoor
open Go Go.Proofs.Zz
theorem found_proved:Rows.FoundCardSaid:=
 Claim7.holds_tied_plain_at .later [] [.data] true (true, "ae9c79945fc6b46c4937ea3f0fa8c702b160decded009cbf2d5fb701b496046b") false
  Uu (λ_ h=>by cases h) ahO (λ_ h=>by cases h) found_row_tie rfl ⟨rfl,rfl⟩ aaP rfl
  (λf fn hf hfn=>by
   obtain rfl:f=3:=Option.some.inj (Uw.symm.trans hf) |>.symm;obtain rfl:fn=Tryz.f3:=(Option.some.inj (Tryz.func3.symm.trans hfn)).symm;exact⟨Uv,λj t ht=>by
    rw[Tryz.params3]at ht;rcases j with _ | _ | _ | _ | _ | j
    ·obtain rfl:t=22:=by simpa using ht.symm
     exact D9
    ·obtain rfl:t=22:=by simpa using ht.symm
     exact D9
    ·obtain rfl:t=22:=by simpa using ht.symm
     exact D9
    ·obtain rfl:t=22:=by simpa using ht.symm
     exact D9
    ·obtain rfl:t=3:=by simpa using ht.symm
     exact ahP
    ·simp at ht⟩)
  aaQ
#print axioms found_proved
