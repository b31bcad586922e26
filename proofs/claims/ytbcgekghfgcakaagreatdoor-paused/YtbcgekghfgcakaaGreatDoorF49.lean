import Derived.Test.YtbcgekghfgcakaaGreatDoorCards
import Derived.Test.YtbcgekghfgcakaaGreatDoorTie
import Derived.Test.YtbcgekghfgcakaaGreatDoorF47
import Derived.Test.YtbcgekghfgcakaaGreatDoorF48
set_option linter.all false
set_option maxRecDepth 100000
set_option maxHeartbeats 16000000
namespace Go.Proofs.YtbcgekghfgcakaaGreatDoor
open Go Go.Proofs.Zz
theorem paused_proved:Rows.PausedCardSaid:=
 Claim7.holds_tied_plain_at .later [] [.data, .data, .data, .data, .sentinel, .sentinel] true (true, "85bf3d274abfefb539058e197f75160dbded298537893834e5b3b05758bbc779") true
  J3 (fun _ h=>by cases h) acu (fun _ h=>by cases h) paused_row_tie rfl ⟨rfl,rfl⟩ TM rfl
  (fun f fn hf hfn=>by
   obtain rfl:f=3:=XX (NW.symm.trans hf) |>.symm
   obtain rfl:fn=Tryz.f3:=(XX (Tryz.func3.symm.trans hfn)).symm;exact⟨NV,fun j t ht=>by
    rw[Tryz.params3] at ht;rcases j with _ | _ | _ | _ | _ | _ | j
    ·obtain rfl:t=22:=by simpa using ht.symm
     exact F8
    ·obtain rfl:t=3:=by simpa using ht.symm
     exact F9
    ·obtain rfl:t=3:=by simpa using ht.symm
     exact F9
    ·obtain rfl:t=3:=by simpa using ht.symm
     exact F9
    ·obtain rfl:t=22:=by simpa using ht.symm
     exact F8
    ·obtain rfl:t=22:=by simpa using ht.symm
     exact F8
    ·simp at ht⟩)
  TN
#print axioms paused_proved
