import Derived.Deep.RegionLaw
import Derived.Test.YtlpbelhfpoilpaaGreatDoorC06
import Derived.Test.YtlpbelhfpoilpaaGreatDoorC09
set_option linter.all false
set_option maxRecDepth 100000
set_option maxHeartbeats 16000000
namespace Go.Scout
open Go.RowKit
structure FactsV.New (f:FactsV) (n:Nat):Prop where
 ca:∀ a,f.ca=some a->n<=a.block
 ra:∀ a,f.ra=some a->n<=a.block
 na:∀ a,f.na=some a->n<=a.block
 pa:∀ a,f.pa=some a->n<=a.block
theorem cell_but {A B:World} {R b off:Nat} {v:Value} (h:A.cell? (aD b off)=some v) (hk:Kept (fun x=>x≠R) A B) (hb:b≠R):B.cell? (aD b off)=some v:=cell_keep h hk hb
theorem NatsAt.but {A B:World} {R:Nat} {ao:Option Addr} {xs:List Nat} (h:NatsAt A ao xs) (hk:Kept (fun x=>x≠R) A B) (hb:∀ a,ao=some a->a.block≠R):NatsAt B ao xs:=⟨h.1,fun i hi=>by
 obtain⟨b,off,e,hc⟩:=h.2 i hi;exact⟨b,off,e,cell_but hc hk (hb _ e)⟩⟩
theorem ColsAt.but {A B:World} {R:Nat} {ao:Option Addr} {cs:List (Nat × Int)} (h:ColsAt A ao cs) (hk:Kept (fun x=>x≠R) A B) (hb:∀ a,ao=some a->a.block≠R):ColsAt B ao cs:=⟨h.1,fun i hi=>by
 obtain⟨b,off,e,c0,c1⟩:=h.2 i hi;exact⟨b,off,e,cell_but c0 hk (hb _ e),cell_but c1 hk (hb _ e)⟩⟩
theorem PartsAt.but {A B w:World} {R:Nat} {ao:Option Addr} {ps:List PartV} (h:PartsAt A ao ps) (hk:Kept (fun x=>x≠R) A B) (hb:∀ a,ao=some a->a.block≠R) (ho:∀ i,i<ps.length->(ps.getD i pvz).Ok w) (hw:Below w.heap.size w B):PartsAt B ao ps:=⟨h.1,fun i hi=>by
 obtain⟨⟨b,off,e,c0,c1,c2,c3,c4,c5⟩,_⟩:=h.2 i hi;have hn:=hb _ e;exact⟨⟨b,off,e,cell_but c0 hk hn,cell_but c1 hk hn,cell_but c2 hk hn,cell_but c3 hk hn,cell_but c4 hk hn,cell_but c5 hk hn⟩,(ho i hi).below hw⟩⟩
theorem FactsV.At.but {A B:World} {R:Nat} {f:FactsV} {ts:List TableD} {q:QueryV} (h:f.At ts q A) (hk:Kept (fun x=>x≠R) A B) {n:Nat} (hn:f.New n) (hR:R<n) (hq:q.At B):f.At ts q B:=
 ⟨hq,h.cols.but hk (fun a e=>by have:=hn.ca a e; omega),h.rows.but hk (fun a e=>by have:=hn.ra a e; omega),h.conc.but hk (fun a e=>by have:=hn.na a e; omega),h.parts.but hk (fun a e=>by have:=hn.pa a e; omega),h.nl,h.pl⟩
theorem opIn_round {P:Program} {ops:Array Oper} {Q:Exit->Act->World->Prop} {l:Nat} (hd:∀ o∈ops,∀ c,o.op ≠ .defer c) {i:Nat} {K K':Act->World->Prop} (hK:∀ a w,K a w->K' a w) {a:Act} {w:World} (h:wpOpIn Fence.wide 0 P ops Q i K a w):wpOpIn (Fence.wide.inRound l) 0 P ops Q i K' a w:=by
 unfold wpOpIn at *
 cases ho:ops[i]? with
 | none => rw[ho] at h; exact hK _ _ h
 | some o =>
  rw[ho] at h;simp only at *;have hm:o∈ops:=Array.mem_of_getElem? ho;by_cases hw:Region.wanted o (yielded ops a.tmps)=true
  ·rw[if_pos hw] at *;unfold Oper.wpIn at *;refine⟨h.1,?_⟩;have h2:=h.2;rw[Oper.semAt_plain Fence.wide _ _ (hd o hm)] at h2;rw[Oper.semAt_plain (Fence.wide.inRound l) _ _ (hd o hm)];generalize Sem.run P (execOp a.eval o) w=r at *;unfold Oper.uponIn at *;split at h2
   ·exact hK _ _ h2
   ·exact hK _ _ h2
   ·exact hK _ _ h2
   ·exact⟨h2.1,h2.2.mono (fun e w' he=>by
     cases e with
     | returned v => exact hK _ _ he
     | panicked c => exact he
     | outgrown => exact he)⟩
   ·exact⟨h2.1,h2.2.mono (fun v w' he=>hK _ _ he)⟩
   ·exact⟨h2.1,h2.2.mono (fun e w' he=>by
     cases e with
     | returned v => exact hK _ _ he
     | panicked c => exact he
     | outgrown => exact he)⟩
   ·exact h2
   ·exact h2.elim
  ·rw[if_neg hw] at *;exact⟨h.1,hK _ _ h.2⟩
theorem anyIn_round {P:Program} {md:Region.Mode} {ops:Array Oper} {Q:Exit->Act->World->Prop} {l:Nat} (hd:∀ o∈ops,∀ c,o.op ≠ .defer c):∀ (fuel:Nat) (listed:Array Bool) (a:Act) (w:World),
  wpAnyIn Fence.wide 0 P md ops Q fuel listed a w->wpAnyIn (Fence.wide.inRound l) 0 P md ops Q fuel listed a w
 | 0,_,_,_,h => h
 | fuel+1,listed,a,w,h => ⟨h.1,fun i hi => opIn_round hd (fun a' w' h' => anyIn_round hd fuel _ a' w' h') (h.2 i hi)⟩
def noDefer (ops:Array Oper):Bool:=ops.all fun o=>match o.op with | .defer _=>false | _=>true
theorem noDefer_spec {ops:Array Oper} (h:noDefer ops=true):∀ o∈ops,∀ c,o.op ≠ .defer c:=by
 intro o ho c hc;unfold noDefer at h;rw[Array.all_eq_true_iff_forall_mem] at h;have:=h o ho;rw[hc] at this;simp at this
theorem step_append {P:Program} {ops:Array Oper} {o:Oper} {a:Act} {w:World} {K:Act->World->Prop} {Q:Exit->Act->World->Prop} {E:Prop} (hgd:o.guard=none) (s x:Operand) (t:TypeId)
  (ho:o.op=.call { callee:=.builtin .append,args:=#[s,x],argTypes:=#[t,t] }) (v u v':Value) (w':World) (hs:a.eval s=v) (hx:a.eval x=u)
  (hrun:(Builtin.append_ #[t,t] o.type #[v,u]).run P w=.ok v' w') (h:K (a.put o.dst v') w'):if Region.wanted o (yielded ops a.tmps)=true then Oper.wp P o a w K Q else E:=by
 have hw:Region.wanted o (yielded ops a.tmps)=true:=by simp[Region.wanted,hgd]
 rw[if_pos hw];unfold Oper.wp;simp[execOp,ho,resolve,invoke,builtin,hs,hx,hrun,Result.andThen];exact h
end Go.Scout
