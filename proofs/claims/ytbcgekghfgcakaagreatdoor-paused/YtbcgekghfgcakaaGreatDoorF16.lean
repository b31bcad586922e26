import Derived.Test.YtbcgekghfgcakaaGreatDoorF11
set_option linter.all false
set_option maxRecDepth 100000
set_option maxHeartbeats 16000000
namespace Go.Proofs.Zz
open Go.RowKit Go.Shelf
theorem Nl {P:Program} {ops:Array Oper} {Q:Exit->Act->World->Prop} {l:Nat} (hd:∀ o∈ops,∀ c,o.op ≠ .defer c) (hQ:¬ LetsOut Q) {i:Nat} {K K':Act->World->Prop} (hK:∀ a w,K a w->K' a w) {a:Act} {w:World} (h:wpOp P ops Q i K a w):wpOpIn (Fence.wide.inRound l) 0 P ops Q i K' a w:=by
 unfold wpOp at h;unfold wpOpIn
 cases ho:ops[i]? with
 | none => rw[ho] at h; exact hK _ _ h
 | some o =>
  rw[ho] at h;simp only at *;have hm:=Array.mem_of_getElem? ho;by_cases hw:Region.wanted o (yielded ops a.tmps)=true
  ·rw[Qr hw] at *;rcases h with h | ⟨_,h⟩
   ·unfold Oper.wp at h;unfold Oper.wpIn;refine⟨fun _ _=>trivial,?_⟩;rw[Oper.semAt_plain (Fence.wide.inRound l) _ _ (hd o hm)];generalize Sem.run P (execOp a.eval o) w=r at *;unfold Oper.upon at h;unfold Oper.uponIn;split at h
    ·exact hK _ _ h
    ·exact hK _ _ h
    ·exact hK _ _ h
    ·refine⟨fun h=>absurd h (by simp[Fence.wide,Fence.inRound]),CallsIn.inRound l (Ze.2 (h.mono fun e w' he=>?_))⟩
     cases e with
     | returned v => exact hK _ _ he
     | panicked c => exact he
     | outgrown => exact he
    ·exact⟨fun h=>absurd h (by simp[Fence.wide,Fence.inRound]),fun c cs _=>let ⟨v,w',r,s⟩:=h c cs; ⟨v,w',hK _ _ r,stepsIn_wide.2 s⟩⟩
    ·exact h
    ·exact h.elim
   ·exact absurd h hQ
  ·rw[Qs hw] at *;exact⟨fun _ _=>trivial,hK _ _ h⟩
theorem yJ {P:Program} {md:Region.Mode} {ops:Array Oper} {Q:Exit->Act->World->Prop} {l:Nat} (hd:∀ o∈ops,∀ c,o.op ≠ .defer c) (hQ:¬ LetsOut Q):∀ (fuel:Nat) (listed:Array Bool) (a:Act) (w:World),
  wpAny P md ops Q fuel listed a w->wpAnyIn (Fence.wide.inRound l) 0 P md ops Q fuel listed a w
 | 0,_,_,_,h => h
 | fuel+1,listed,a,w,h => ⟨h.1,fun i hi => Nl hd hQ (fun a' w' h' => yJ hd hQ fuel _ a' w' h') (h.2 i hi)⟩
theorem vZ {P:Program} {ops:Array Oper} {Q:Exit->Act->World->Prop} {S:World->Prop} {l id:Nat} (hm:P.follows .mixedOrders=true) (hd:Es ops=true) (hQ:¬ LetsOut Q) {a:Act} {w:World}
  (h:wpAnyH P .any ops Q S ops.size (Array.replicate ops.size false) a w.drew):(Code.region id ops true).wpIn (Fence.wide.inRound l) 0 P Q a w:=
 wpIn_region_any hm (yJ (oM hd) hQ _ _ _ _ (wpAny_of_held _ _ _ _ h))
