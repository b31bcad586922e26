import Derived.Test.YtgemohlbjehmbaaGreatDoorF44
set_option linter.all false
set_option maxRecDepth 100000
set_option maxHeartbeats 16000000
namespace Go.Proofs.Zz
open Go.RowKit Go.Shelf
theorem jm.nodes{tn:TypeId}{L:Nat->Prop}{v:Value}{ns:List ah}{w:World}(h:jm tn L v ns w)(h0:0<ns.length)(hl:ns.length<=1000):∃ g cap,v=.slice (some (aD g 0)) ns.length cap/\ns.length<=cap/\g<w.heap.size/\kI w (some (aD g 0)) ns/\(∀ i,i<ns.length->(ns.getD i nz).co.xs.length<=(ns.getD i nz).co.cap)/\∀ j u,(ns.flatMap ah.list)[j]? = some u->w.cell? (aD g j)=some u:=by
 rcases iR h.own with⟨_,h1⟩ | ⟨g,cap,rfl,hb,hlt,hc⟩
 ·omega
 have f:∀ i,i<ns.length->ns.getD i nz∈ns:=λi a=>by rw[Xo,Xr a];exact ZQ a
 have d:ns.length<=cap:=by
  rcases h.own.2 with⟨e,_⟩ | ⟨_,_,_,e,_,_,hle,_⟩
  ·cases e
  ·cases e; exact hle
 have b:∀ i,i<ns.length->∀ j u,j<7->(ns.getD i nz).list[j]? = some u->w.cell? (aD g (0+i*7+j))=some u:=λi a j u k l=>by rw[QL];exact hc _ _ (by rw[ZE ah.list 7 (λ_=>rfl) nz ns i j a k]; exact l)
 exact⟨g,cap,rfl,d,hlt,⟨by omega,λi a=>⟨g,0,rfl,b i a 0 _ (by omega) rfl,b i a 1 _ (by omega) rfl,b i a 2 _ (by omega) rfl,b i a 3 _ (by omega) rfl,b i a 4 _ (by omega) rfl,b i a 5 _ (by omega) rfl,b i a 6 _ (by omega) rfl,(h.lists _ (f i a) _ (.inl rfl)).1.1,(h.lists _ (f i a) _ (.inr rfl)).1.1⟩⟩,λi a=>(h.lists _ (f i a) _ (.inr rfl)).2.2,hc⟩
theorem Lr{ns P:List ah}(h:ns.map bL=P)(i:Nat):(ns.getD i nz).kind=(P.getD i nz).kind:=by subst h;rw[Xo,Xo,ZL];cases ns[i]? <;> rfl
theorem aev(q:ae)(k:Nat):(qV q k).length=if q.ord.xs=[] then 1 else 2:=by unfold qV;grind
theorem Um{q:ae}{M ns:List ah}(hM:∀ n∈M,n.kind<=6)(h:ns.map bL=M++qV q M.length):M.length<ns.length/\ns.length<=M.length+2/\(∀ i,i<ns.length->(ns.getD i nz).kind≠8)/\(q.ord.xs=[]∨(ns.getD (ns.length-1) nz).kind=10)/\(∀ i,i<M.length->(ns.getD i nz).kind≠9/\(ns.getD i nz).kind≠7)/\((ns.getD M.length nz).kind=9∨(ns.getD M.length nz).kind=7):=by
 have d:ns.length=M.length+if q.ord.xs=[] then 1 else 2:=by have:=congrArg List.length h;rw[QQ,QP,aev]at this;exact this
 have a:∀ i,i<M.length->(ns.getD i nz).kind<=6:=λi b=>by rw[Lr h,XX,Qo b];simp_all
 have e:(ns.getD M.length nz).kind=if q.group then 7 else 9:=by rw[Lr h,XX,Qu (by omega),Xy];rfl
 have f:q.ord.xs≠[]->(ns.getD (M.length+1) nz).kind=10:=λg=>by rw[Lr h,XX,Qu (by omega),Nat.add_sub_cancel_left];unfold qV;simp_all
 grind
