import Derived.Test.YtlpbelhfpoilpaaGreatDoorRCards
import Derived.Test.YtlpbelhfpoilpaaGreatDoorRTie
import Derived.Test.YtlpbelhfpoilpaaGreatDoorRE49
import Derived.Test.YtlpbelhfpoilpaaGreatDoorRE50
set_option linter.all false
set_option maxRecDepth 100000
set_option maxHeartbeats 16000000
namespace Go.Proofs.YtlpbelhfpoilpaaGreatDoorR
open Go Go.Proofs.Zz
theorem cheaper_proved:Rows.CheaperCardSaid:=
 Claim7.holds_tied_plain_at .later [] [.data] true (true, "c353e673851586e04379c3425b090c6bb1642b7c97061ff9b1cedb23cd835037") true
  IG (fun _ h=>by cases h) aeU (fun _ h=>by cases h) cheaper_row_tie rfl ⟨rfl,rfl⟩ VX rfl
  (fun f fn hf hfn=>by
   obtain rfl:f=7:=Option.some.inj (Rx.symm.trans hf) |>.symm
   obtain rfl:fn=Tryz.f7:=(Option.some.inj (Tryz.func7.symm.trans hfn)).symm;exact⟨Rw,fun j t ht=>by
    rw[Tryz.params7]at ht;rcases j with _ | _ | _ | _ | _ | j
    ·obtain rfl:t=23:=by simpa using ht.symm
     exact SQ
    ·obtain rfl:t=3:=by simpa using ht.symm
     exact II
    ·obtain rfl:t=3:=by simpa using ht.symm
     exact II
    ·obtain rfl:t=3:=by simpa using ht.symm
     exact II
    ·obtain rfl:t=23:=by simpa using ht.symm
     exact SQ
    ·simp at ht⟩)
  VY
#print axioms cheaper_proved
