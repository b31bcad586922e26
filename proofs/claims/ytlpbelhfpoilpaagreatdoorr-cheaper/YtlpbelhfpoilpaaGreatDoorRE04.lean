import Derived.Test.YtlpbelhfpoilpaaGreatDoorRE03
set_option linter.all false
set_option maxRecDepth 100000
set_option maxHeartbeats 16000000
namespace Go.Proofs.Zz
open Go.RowKit Go.Shelf
variable {P:Program} {w:World} {fn:Func} {p:Tmp} {e ty:TypeId} {v:Value} {base:Nat}
section
variable {α κ:Type} (E:El α κ)
def agc(P:Program)(g:Nat)(s:Value)(rows:List κ)(w0:World):Prop:=
 ∀ (l:Nat) (J:List α->(Nat->Prop)->World->Prop) (W:World) (o:Nat->Prop),
  Bw w0 W->(∀ b,o b->w0.heap.size<=b/\b<W.heap.size)->
  (∀ pre o1 A B,J pre o1 A->Kept (fun b=>o1 b∨b<W.heap.size) A B->J pre o1 B)->
  (∀ pre x o1 W1,J pre o1 W1->(pre++[x]).map E.key <+: rows->E.At x W1->(∀ b,E.blk x=some b->¬ o1 b/\(b<w0.heap.size∨W.heap.size<=b))->W.heap.size<=W1.heap.size->
   YieldAt Fence.wide 0 P l #[E.enc x] W1 fun e W'=>e=.returned (.bool true)/\∃ o2,J (pre++[x]) o2 W'/\Kept (fun b=>¬ o1 b) W1 W'/\
    ∀ b,o2 b->o1 b∨(W1.heap.size<=b/\b<W'.heap.size)∨(E.blk x=some b/\W.heap.size<=b))->
  J [] o W->
  Calls P g #[s,.func (.yield l) #[] #[]] W fun e W'=>(∃ v,e=.returned v)/\∃ ys o',ys.map E.key=rows/\J ys o' W'/\Kept (fun b=>¬ o b) W W'/\
   ∀ b,o' b->o b∨(W.heap.size<=b/\b<W'.heap.size)
theorem uh{g:Operand}{ps:Array Tmp}{assign body:Code}{Q:Exit->Act->World->Prop}{a:Act}
  {gf:Nat} {s:Value} (hg:a.eval g=.func (.func gf) #[s] #[]) (eg:∀ args w,(callFunc gf args).run P w=.ok (.enter gf args) w)
  {rows:List κ} {w0:World} (hseq:agc E P gf s rows w0) (hb0:Bw w0 w) (hps:ps.size=1)
  (I:List α->(Nat->Prop)->World->Prop) (o:Nat->Prop) (ho:∀ b,o b->w0.heap.size<=b/\b<w.heap.size)
  (hI:∀ pre o1 A B,I pre o1 A->Kept (fun b=>o1 b∨b<w.heap.size) A B->I pre o1 B) (h0:I [] o w) (a₁:α->Act)
  (hassign:∀ (l:Nat) (x:α) (W:World) (K:Act->World->Prop),K (a₁ x) W->
   assign.wpIn (Fence.wide.inRound l) 0 P (Exit.then K (fun _ _ _=>False)) { tmps:=(ps.zip #[E.enc x]).foldl (fun t (p,v)=>t.setIfInBounds p v) a.tmps,defers:=[] } W)
  (hbody:∀ (l:Nat) (pre:List α) (x:α) (o1:Nat->Prop) (W:World),I pre o1 W->(pre++[x]).map E.key <+: rows->E.At x W->
   (∀ b,E.blk x=some b->¬ o1 b/\(b<w0.heap.size∨w.heap.size<=b))->w.heap.size+2<=W.heap.size->
   body.wpIn (Fence.wide.inRound l) 0 P (qF E I pre x w.heap.size o1 W) (a₁ x) W)
  (hdone:∀ (ys:List α) (o':Nat->Prop) (W:World),ys.map E.key=rows->I ys o' W->Kept (fun b=>¬ o b) w W->(∀ b,o' b->(o b∨(w.heap.size+2<=b/\b<W.heap.size)))->
   W.heap[w.heap.size]? = some (.deferred (some []))->Q .normal { a with defers:={ target:=.collected w.heap.size,args:=#[] } :: a.defers } W) :
  (Code.rangeFunc g ps assign body).wpIn Fence.wide 0 P Q a w:=by
 refine wpIn_rangeFunc ?_;intro fn hfn;obtain⟨rec,hrec⟩:∃ rec:LoopState->Option Code->Loop,rec=fun st pe=>{ state:=st,pending:=pe,fn,tmps:=a.tmps,params:=ps,assign,body,defers:=w.heap.size }:=⟨_,rfl⟩
 obtain⟨W1,hW1⟩:∃ W1,(w.alloc (.deferred (some []))).alloc (.loop (rec .ready none))=W1:=⟨_,rfl⟩
 have hs1:W1.heap.size=w.heap.size+2:=by rw[<- hW1]; simp
 have hL1:W1.heap[w.heap.size+1]? = some (.loop (rec .ready none)):=by
  rw[<- hW1]; have:=World.alloc_heap_new (w.alloc (.deferred (some []))) (.loop (rec .ready none)); rwa [Zt]at this
 have hD1:W1.heap[w.heap.size]? = some (.deferred (some [])):=by
  rw[<- hW1]; exact(Below.heap_alloc _ _ _ (by simp)).trans (World.alloc_heap_new w _)
 have hk1:∀ s,Kept s w W1:=fun s=>by rw[<- hW1]; exact(Zr _ _).trans (Zr _ _)
 have hbw:=hb0.trans ((hk1 (fun _=>True)).below hb0.size (fun _ _=>trivial));refine⟨w.heap.size+1,[{ target:=.collected w.heap.size,args:=#[] }],W1,{ target:=.fn (.func gf) #[],args:=#[s,.func (.yield (w.heap.size+1)) #[] #[]] },W1,gf,
  #[s,.func (.yield (w.heap.size+1)) #[] #[]],W1,?_,?_,?_,?_,fun h=>by simp[Fence.wide]at h,?_⟩
 ·rw[<- hW1,hrec]; exact run_enterLoop_outer _ _ _ _ _
 ·simp only[resolve,hg];simp[go_sem]
 ·intro f' _; trivial
 ·simp[invoke,go_sem,eg]
 ·refine Zu.2 ((hseq (w.heap.size+1)
   (fun pre o' W=>∃ o1,I pre o1 W/\(∀ b,o' b↔o1 b∨b=w.heap.size∨b=w.heap.size+1)/\¬ o1 w.heap.size/\¬ o1 (w.heap.size+1)/\
    W.heap[w.heap.size+1]? = some (.loop (rec .ready none))/\W.heap[w.heap.size]? = some (.deferred (some [])))
   W1 (fun b=>o b∨b=w.heap.size∨b=w.heap.size+1) hbw ?_ ?_ ?_ ?_).mono ?_)
  ·rintro b (hb | rfl | rfl)
   ·exact⟨(ho b hb).1,by have:=(ho b hb).2; omega⟩
   ·exact⟨hb0.size,by omega⟩
   ·exact⟨by have:=hb0.size; omega,by omega⟩
  ·rintro pre o' A B ⟨o1,hi,ho',hn,hn',hl,hd⟩ hk;have hlA:=(QV.1 hl).1;have hdA:=(QV.1 hd).1;refine⟨o1,hI pre o1 A B hi (hk.mono fun b _ hb=>?_),ho',hn,hn',(hk.block _ hlA (.inl ((ho' _).2 (.inr (.inr rfl))))).trans hl,(hk.block _ hdA (.inl ((ho' _).2 (.inr (.inl rfl))))).trans hd⟩;rcases hb with hb | hb
   ·exact .inl ((ho' b).2 (.inl hb))
   ·exact .inr (by omega)
  ·rintro pre x o' W ⟨o1,hi,ho',hn,hn',hl,hd⟩ hpre hx hoff hsz;have hlt:=(QV.1 hl).1;have hlt':w.heap.size<W.heap.size:=by omega
   have hy:=run_yield (P:=P) (args:=#[E.enc x]) hl (by rw[hrec]; exact hps.symm);rw[hrec]at hy;refine⟨fn,_,assign,body,hy,roundIn_of_wpIn hfn (hassign _ x W _ ⟨_,run_beginRound hl (by rw[hrec]),?_⟩)⟩;obtain⟨W2,hW2⟩:=eX (W.putObj (w.heap.size+1) (.loop { rec .ready none with state:=.busy }))
   have hk2:Kept (fun b=>b≠w.heap.size+1) W W2:=by rw[<- hW2]; exact Zp _ _ (fun h=>h rfl)
   have hl2:W2.heap[w.heap.size+1]? = some (.loop { rec .ready none with state:=.busy }):=by rw[<- hW2]; exact World.putObj_heap_same hlt
   have hd2:=(hk2.block _ hlt' (by omega)).trans hd;have hs2:W2.heap.size=W.heap.size:=by rw[<- hW2]; simp
   have hI2:=hI pre o1 W W2 hi (hk2.mono fun b _ hb=>by
    rcases hb with hb | hb
    ·intro e; exact hn' (e ▸ hb)
    ·omega)
   have hx2:=E.keep hx hk2.size (fun b hb hbx=>hk2.block b hb (fun e=>(hoff b hbx).1 ((ho' b).2 (.inr (.inr e)))));rw[hW2];rw[hrec]at hl2;refine wpIn_mono (hbody _ pre x o1 W2 hI2 hpre hx2 (fun b hb=>⟨fun h=>(hoff b hb).1 ((ho' b).2 (.inl h)),(hoff b hb).2.imp id (by omega)⟩) (by omega)) ?_;rintro e a3 W3 hp
   cases e with
   | normal =>
    obtain⟨o2,hi3,hk3,hg3⟩:=hp;have hl3:W3.heap[w.heap.size+1]? = some (.loop { state:=.busy,pending:=none,fn,tmps:=a.tmps,params:=ps,assign,body,defers:=w.heap.size }):=(hk3.block _ (by omega) hn').trans hl2;have hlt3:=(QV.1 hl3).1;have hd3:=(hk3.block _ (by omega) hn).trans hd2;have hno:∀ b,b=w.heap.size∨b=w.heap.size+1->¬ o2 b:=fun b hb h=>by
     rcases hg3 b h with h | h | ⟨h,_⟩
     ·rcases hb with rfl | rfl
      ·exact hn h
      ·exact hn' h
     ·omega
     ·exact(hoff b h).1 ((ho' b).2 (.inr hb))
    refine⟨_,_,run_endRound none hl3,rfl,fun b=>o2 b∨b=w.heap.size∨b=w.heap.size+1,⟨o2,hI _ o2 W3 _ hi3 (Zp _ _ ?_),fun b=>Iff.rfl,hno _ (.inl rfl),hno _ (.inr rfl),?_,?_⟩,?_,?_⟩
    ·rintro (h | h)
     ·exact hno _ (.inr rfl) h
     ·omega
    ·rw[World.putObj_heap_same hlt3,hrec]; rfl
    ·exact(Zq (by omega)).trans hd3
    ·refine((hk2.mono ?_).trans' (hk3.mono ?_) (fun _ _ h=>h)).trans (Zp _ _ ?_)
     ·intro b _ h e; exact h ((ho' b).2 (.inr (.inr e)))
     ·intro b _ h h'; exact h ((ho' b).2 (.inl h'))
     ·intro h; exact h ((ho' _).2 (.inr (.inr rfl)))
    ·rintro b (h | h)
     ·rcases hg3 b h with h | h | h
      ·exact .inl ((ho' b).2 (.inl h))
      ·exact .inr (.inl ⟨by omega,by rw[World.putObj_size]; omega⟩)
      ·exact .inr (.inr ⟨h.1,by
        rcases (hoff b h.1).2 with h' | h'
        ·have:=h.2; have:=hb0.size; omega
        ·exact h'⟩)
     ·exact .inl ((ho' b).2 (.inr h))
   | ret => exact hp.elim
   | exit id => exact hp.elim
   | goto t => exact hp.elim
   | panic ch => exact hp.elim
   | outgrown => exact hp.elim
  ·have hno:∀ b,b=w.heap.size∨b=w.heap.size+1->¬ o b:=fun b hb h=>by have:=(ho b h).2; omega
   exact⟨o,hI _ _ _ _ h0 (hk1 _),fun _=>Iff.rfl,hno _ (.inl rfl),hno _ (.inr rfl),hL1,hD1⟩
  ·rintro e W2 ⟨⟨v,rfl⟩,ys,o',hys,⟨o1,hi,ho',hn,hn',hl,hd⟩,hk,hg⟩;have hlt:=(QV.1 hl).1;refine⟨none,_,by have:=run_endLoop (P:=P) hl (by rw[hrec]; simp); rw[hrec]at this; exact this,hdone ys o1 _ hys (hI _ _ _ _ hi (Zp _ _ ?_)) ?_ ?_ ((Zq (by omega)).trans hd)⟩
   ·rintro (h | h)
    ·exact hn' h
    ·omega
   ·refine(Kept.trans' (hk1 _) (hk.mono fun b _ h=>h) ?_).trans (Zp _ _ ?_) |>.mono (s:=fun b=>¬ o b/\b<w.heap.size) ?_
    ·rintro b _ ⟨h,hb⟩ (h' | h' | h')
     ·exact h h'
     ·omega
     ·omega
    ·rintro⟨_,h⟩; omega
    ·exact fun b hb h=>⟨h,hb⟩
   ·intro b hb;rcases hg b ((ho' b).2 (.inl hb)) with (h | h | h) | h
    ·exact .inl h
    ·exact absurd (h ▸ hb) hn
    ·exact absurd (h ▸ hb) hn'
    ·exact .inr ⟨by omega,by rw[World.putObj_size]; exact h.2⟩
def kz:El Nat Nat where
 enc k:=.int .i64 (k:Int)
 At _ _:=True
 blk _:=none
 key k:=k
 keep:=fun _ _ _=>trivial
 inn:=fun _ h=>by cases h
end
theorem D5(h:fn.results=#[.cell p ty])(tmps:Array Value)(P:Program)(w:World) :
  (results fn tmps).run P w=((asAddr (tmps.getD p undef)).run P w).andThen fun a w₁=>(loadVar ty a).run P w₁:=by
 simp only[results,h];simp[Sem.run_bind,Result.andThen]
theorem jN(h:fn.results=#[.cell p ty]){tmps:Array Value}{B:Nat}(hp:tmps.getD p undef=.pointer (some (aD B 0)))(hl:(loadVar ty (aD B 0)).run P w=.ok v w) :
  (results fn tmps).run P w=.ok v w:=by
 rw[D5 h,hp];simp[go_sem]at hl ⊢;simp[hl]
theorem GI(c:aC):c.vals.length=5:=rfl
theorem xO{cs:List aC}(h:w.ownsRow base e 5 v cs.length (cs.flatMap aC.vals))(hl:cs.length<=100) :
  ∃ ad cap,v=.slice ad cs.length cap/\bH w ad cs/\∀ a,ad=some a->base<=a.block/\a.block<w.heap.size/\v.ownBlock=some a.block:=by
 rcases h.2 with⟨rfl,h0⟩ | ⟨g,cap,cur,rfl,hb,hh,hc,_,hcs,ht⟩
 ·have:=QL h0;subst this;exact⟨none,0,rfl,⟨by simp,fun i hi=>absurd hi (by simp)⟩,fun a ha=>by cases ha⟩
 ·refine⟨some (aD g 0),cap,rfl,⟨by omega,fun i hi=>⟨g,0,rfl,?_⟩⟩,fun a ha=>by cases ha; exact⟨hb,(QV.1 hh).1,rfl⟩⟩;have hcell:∀ j,j<5->w.cell? (aD g (0+i*5+j))=((cs.getD i cz).vals)[j]?:=fun j hj=>by
   have h1:=Gg aC.vals 5 GI cz cs [] i j hi hj;rw[Xx]at h1;rw[<- h1,<- ht,ZY,Qy (by have:=hi; omega)];simp[World.cell?,hh]
  exact⟨hcell 0 (by omega),hcell 1 (by omega),hcell 2 (by omega),hcell 3 (by omega),hcell 4 (by omega)⟩
theorem Cj{W:World}{ls:List aH}(h:W.ownsRow base e 1 v ls.length (ls.map aH.val))(hc:∀ x∈ls,bH W x.ad x.cs)(hl:ls.length<=100) :
  ∃ ad cap,v=.slice ad ls.length cap/\gH W ad ls:=by
 have hmem:∀ i,i<ls.length->ls.getD i lz∈ls:=fun i hi=>by simp[List.getD,hi]
 rcases h.2 with⟨rfl,h0⟩ | ⟨g,cap,cur,rfl,hb,hh,hc2,_,hcs,ht⟩
 ·have:=QL h0;subst this;exact⟨none,0,rfl,by simp,fun i hi=>absurd hi (by simp),fun i hi=>absurd hi (by simp)⟩
 ·refine⟨some (aD g 0),cap,rfl,by omega,fun i hi=>⟨g,0,rfl,?_⟩,fun i hi=>hc _ (hmem i hi)⟩;have h2:(cur.toList.take (ls.length*1))[i]? = some (ls.getD i lz).val:=by
   rw[ht];simp[List.getD,hi]
  have h3:cur[i]? = some (ls.getD i lz).val:=by
   rw[ZY]at h2;split at h2
   ·simpa using h2
   ·cases h2
  simp only[World.cell?,hh]
  simpa using h3
theorem Tryz.Kc:(Tryz.prog.info? 134).map (fun i=>(i.zero,i.size,i.bytes))=some (some (.agg #[.bool false,.int .i64 0,.int .i64 0,.bool false,.int .i64 0]),5,40):=by kernel_rfl
theorem Tryz.Ck:(Tryz.prog.info? 132).map (fun i=>(i.zero,i.size,i.bytes))=some (some (.agg #[.slice none 0 0]),1,24):=by kernel_rfl
def Kk(w:World)(d:Option Addr)(db:List dF):Prop:=Ny w d db/\∀ i,i<db.length->iX w (db.getD i rz).ad (db.getD i rz).rs
theorem Tryz.info3:(Tryz.prog.info? 3).map (fun i=>(i.zero,i.size,i.bytes))=some (some (.int .i64 0),1,8):=by kernel_rfl
