import Derived.Test.YtgemohlbjehmbaaGreatDoorF11
set_option linter.all false
set_option maxRecDepth 100000
set_option maxHeartbeats 16000000
namespace Go.Proofs.Zz
open Go.RowKit Go.Shelf
variable {P:Program} {ops:Array Oper} {Q:Exit->Act->World->Prop} {l:Nat} {a:Act} {w:World}
theorem Ta(hd:∀ o∈ops,∀ c,o.op ≠ .defer c)(hQ:¬ LetsOut Q){i:Nat}{K K':Act->World->Prop}(hK:∀ a w,K a w->K' a w)(h:wpOp P ops Q i K a w):wpOpIn (Fence.wide.inRound l) 0 P ops Q i K' a w:=by
 unfold wpOp at h;unfold wpOpIn
 cases ho:ops[i]? with
 | none => simp_all
 | some o =>
  rw[ho]at h;simp only at *;have d:=Array.mem_of_getElem? ho;by_cases b:Region.wanted o (yielded ops a.tmps)=true
  ·rw[Qo b]at *;rcases h with h | ⟨_,h⟩
   ·unfold Oper.wp at h;unfold Oper.wpIn;refine⟨λ_ _=>trivial,?_⟩;rw[Oper.semAt_plain (Fence.wide.inRound l) _ _ (hd o d)];generalize Sem.run P (execOp a.eval o) w=r at *;unfold Oper.upon at h;unfold Oper.uponIn;split at h
    ·simp_all
    ·simp_all
    ·simp_all
    ·refine⟨λh=>absurd h (by simp[Fence.wide,Fence.inRound]),CallsIn.inRound l (Z9.2 (h.mono λe w' f=>?_))⟩
     grind
    ·exact⟨λh=>absurd h (by simp[Fence.wide,Fence.inRound]),λc cs _=>let ⟨v,w',r,s⟩:=h c cs; ⟨v,w',hK _ _ r,stepsIn_wide.2 s⟩⟩
    ·exact h
    simp_all
   simp_all
  ·rw[Qu b]at *;exact⟨λ_ _=>trivial,hK _ _ h⟩
theorem CZ{P:Program}{md:Region.Mode}{ops:Array Oper}{Q:Exit->Act->World->Prop}{l:Nat}(hd:∀ o∈ops,∀ c,o.op ≠ .defer c)(hQ:¬ LetsOut Q):∀ (fuel:Nat) (listed:Array Bool) (a:Act) (w:World),
  wpAny P md ops Q fuel listed a w->wpAnyIn (Fence.wide.inRound l) 0 P md ops Q fuel listed a w
 | 0,_,_,_,h => h
 | fuel+1,listed,a,w,h => ⟨h.1,λi b => Ta hd hQ (λd w' e => CZ hd hQ fuel _ d w' e) (h.2 i b)⟩
theorem KF{S:World->Prop}{id:Nat}(hm:P.follows .mixedOrders=true)(hd:J5 ops=true)(hQ:¬ LetsOut Q)
  (h:wpAnyH P .any ops Q S ops.size (Array.replicate ops.size false) a w.drew):(Code.region id ops true).wpIn (Fence.wide.inRound l) 0 P Q a w:=
 wpIn_region_any hm (CZ (sP hd) hQ _ _ _ _ (wpAny_of_held _ _ _ _ h))
