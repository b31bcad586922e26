import Derived.Test.YtlpbelhfpoilpaaGreatDoorCards
import Derived.Test.YtlpbelhfpoilpaaGreatDoorTie
import Derived.SevenTiedAt
import Derived.Test.YtlpbelhfpoilpaaGreatDoorC41
import Derived.Test.YtlpbelhfpoilpaaGreatDoorC42
set_option linter.all false
set_option maxRecDepth 100000
set_option maxHeartbeats 16000000
namespace Go.Proofs.YtlpbelhfpoilpaaGreatDoor
open Go
theorem fairs_proved:Rows.FairsCardSaid:=
 Claim7.holds_tied_plain_at .later [] [.data] true (true, "5c9d1aa9c7d0e9cf3f8c02cb53fac6fb2e3b38d5b88d9e0897f0ac3bb80314ce") true
  fairs_over (fun _ h=>by cases h) card_wf (fun _ h=>by cases h) fairs_row_tie rfl ⟨rfl,rfl⟩ card_main rfl
  (fun f fn hf hfn=>by
   obtain rfl:f=3:=Option.some.inj (card_named.symm.trans hf) |>.symm
   obtain rfl:fn=Tryz.f3:=(Option.some.inj (Tryz.func3.symm.trans hfn)).symm;exact⟨card_looks,fun j t ht=>by
    rw[Tryz.params3] at ht;rcases j with _ | _ | _ | j
    ·obtain rfl:t=22:=by simpa using ht.symm
     exact card_s0
    ·obtain rfl:t=26:=by simpa using ht.symm
     exact card_s1
    ·obtain rfl:t=27:=by simpa using ht.symm
     exact card_s2
    ·simp at ht⟩)
  card_goes
#print axioms fairs_proved
end Go.Proofs.YtlpbelhfpoilpaaGreatDoor
