import Derived.Test.YtpkihnafdaedoaaRefB
import Derived.Test.YtpkihnafdaedoaaRefC
import Derived.Test.YtpkihnafdaedoaaRefD
namespace Go.Proofs.Ytpkihnafdaedoaa
open Go.RowKit Go.Scout

theorem refCheck_any (ao : Option Addr) (cap : Nat) (ts : List TableD) (q : QueryV) (w : World) (hx : TablesAt w ao ts) (hq : q.At w) :
    Calls Try.prog 8 #[.slice ao ts.length cap, .agg q.cells] w fun e w' => e = .returned (.int .i64 (q.check ts)) ∧ Below w.heap.size w w' := by
  cases hc : catB ts
  · exact ref_nocat ao cap ts q w hx hc
  · by_cases hf : 5 < q.src.xs.length ∨ 8 < q.wh.length ∨ 8 < q.sel.xs.length ∨ 4 < q.keys.xs.length ∨ 4 < q.sums.xs.length ∨ 4 < q.ord.xs.length
    · exact ref_full1 ao cap ts q w hx hq hc hf
    · cases hw : wideB q.wh q.wh.length
      · exact ref_main ao cap ts q w hx hq hc hf hw
      · exact ref_full2 ao cap ts q w hx hq hc hf hw

end Go.Proofs.Ytpkihnafdaedoaa
