import Derived.Test.YtlpbelhfpoilpabGreatDoorCards
import Derived.Test.YtlpbelhfpoilpabGreatDoorTie
import Derived.SevenTiedAt
import Derived.Test.YtlpbelhfpoilpabGreatDoorC48
import Derived.Test.YtlpbelhfpoilpabGreatDoorC49
set_option linter.all false
set_option maxRecDepth 100000
set_option maxHeartbeats 16000000
namespace Go.Proofs.YtlpbelhfpoilpabGreatDoor
open Go
theorem ticked_proved:Rows.TickedCardSaid:=
 Claim7.holds_tied_plain_at .later [] [.data] true (true, "31f9851a2c4f6fbafad72a06bfc624634ba5864071a84a00f3c35cd7245c2c3b") false
  ticked_over (fun _ h=>by cases h) card_wf (fun _ h=>by cases h) ticked_row_tie rfl ⟨rfl,rfl⟩ card_main rfl
  (fun f fn hf hfn=>by
   obtain rfl:f=3:=Option.some.inj (card_named.symm.trans hf) |>.symm
   obtain rfl:fn=Tryz.f3:=(Option.some.inj (Tryz.func3.symm.trans hfn)).symm;exact⟨card_looks,fun j t ht=>by
    rw[Tryz.params3] at ht;rcases j with _ | _ | _ | _ | _ | j
    ·obtain rfl:t=22:=by simpa using ht.symm
     exact card_s0
    ·obtain rfl:t=3:=by simpa using ht.symm
     exact card_s1
    ·obtain rfl:t=3:=by simpa using ht.symm
     exact card_s1
    ·obtain rfl:t=22:=by simpa using ht.symm
     exact card_s0
    ·obtain rfl:t=3:=by simpa using ht.symm
     exact card_s1
    ·simp at ht⟩)
  card_goes
#print axioms ticked_proved
end Go.Proofs.YtlpbelhfpoilpabGreatDoor
