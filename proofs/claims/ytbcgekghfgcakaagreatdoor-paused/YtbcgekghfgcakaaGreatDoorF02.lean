import Derived.Test.YtbcgekghfgcakaaGreatDoorF00
set_option linter.all false
set_option maxRecDepth 100000
set_option maxHeartbeats 16000000
namespace Go.Proofs.Zz
open Go.RowKit Go.Shelf
def iz:ah:=⟨none,0,[]⟩
def tC (w:World) (ao:Option Addr) (rs:List ah):Prop:=
 rs.length<=1152921504606846976/\aY w ao rs.length (fun i=>(rs.getD i iz).val)/\∀ i,i<rs.length->(rs.getD i iz).At w
theorem tC.below {w w':World} (hb:Below w.heap.size w w') {ao:Option Addr} {rs:List ah} (h:tC w ao rs):tC w' ao rs:=
 ⟨h.1,h.2.1.below hb,fun i hi=>Qo hb (h.2.2 i hi)⟩
structure cO where
 ad:Option Addr
 cap:Nat
 rs:List ah
def rz:cO:=⟨none,0,[]⟩
def cO.val (v:cO):Value:=.slice v.ad v.rs.length v.cap
def cO.At (v:cO) (w:World):Prop:=tC w v.ad v.rs
def KW (w:World) (ao:Option Addr) (db:List cO):Prop:=
 db.length<=1152921504606846976/\aY w ao db.length (fun i=>(db.getD i rz).val)/\∀ i,i<db.length->(db.getD i rz).At w
theorem KW.below {w w':World} (hb:Below w.heap.size w w') {ao:Option Addr} {db:List cO} (h:KW w ao db):KW w' ao db:=
 ⟨h.1,h.2.1.below hb,fun i hi=>tC.below hb (h.2.2 i hi)⟩
section
structure Kept (s:Nat->Prop) (A B:World):Prop where
 os:B.os=A.os
 tape:B.tape=A.tape
 output:B.output=A.output
 size:A.heap.size<=B.heap.size
 block:∀ k,k<A.heap.size->s k->B.heap[k]? = A.heap[k]?
theorem Kept.refl (s:Nat->Prop) (A:World):Kept s A A:=⟨rfl,rfl,rfl,Qq _,fun _ _ _=>rfl⟩
theorem Kept.trans {s:Nat->Prop} {A B C:World} (h:Kept s A B) (k:Kept s B C):Kept s A C:=
 ⟨k.os.trans h.os,k.tape.trans h.tape,k.output.trans h.output,Q4 h.size k.size,fun i hi hs=>(k.block i (Q8 hi h.size) hs).trans (h.block i hi hs)⟩
theorem Kept.mono {s t:Nat->Prop} {A B:World} (h:Kept s A B) (hs:∀ b,b<A.heap.size->t b->s b):Kept t A B:=
 ⟨h.os,h.tape,h.output,h.size,fun i hi ht=>h.block i hi (hs i hi ht)⟩
theorem Kept.trans' {s t:Nat->Prop} {A B C:World} (h:Kept s A B) (k:Kept t B C) (hs:∀ b,b<A.heap.size->s b->t b):Kept s A C:=
 ⟨k.os.trans h.os,k.tape.trans h.tape,k.output.trans h.output,Q4 h.size k.size,fun i hi hi'=>(k.block i (Q8 hi h.size) (hs i hi hi')).trans (h.block i hi hi')⟩
theorem Kept.of_below {s:Nat->Prop} {B:Nat} {w w':World} (h:Below B w w') (hs:∀ b,b<w.heap.size->s b->b<B):Kept s w w':=
 ⟨h.os,h.tape,h.output,h.size,fun k hk hk'=>h.block k (hs k hk hk')⟩
theorem Kept.below {s:Nat->Prop} {B:Nat} {w w':World} (h:Kept s w w') (hB:B<=w.heap.size) (hs:∀ b,b<B->s b):Below B w w':=
 ⟨h.os,h.tape,h.output,h.size,fun k hk=>h.block k (Q8 hk hB) (hs k hk)⟩
theorem Kept.putObj {s:Nat->Prop} (W:World) {r:Nat} (o:Obj) (hr:¬ s r):Kept s W (W.putObj r o):=
 ⟨rfl,rfl,rfl,by simp,fun k _ hs=>Zb (fun e=>hr (e ▸ hs))⟩
theorem Kept.alloc {s:Nat->Prop} (W:World) (o:Obj):Kept s W (W.alloc o):=
 ⟨rfl,rfl,rfl,by simp,fun k hk _=>Below.heap_alloc W o k hk⟩
structure El (α κ:Type) where
 enc:α->Value
 At:α->World->Prop
 blk:α->Option Nat
 key:α->κ
 keep:∀ {x A B},At x A->A.heap.size<=B.heap.size->(∀ b,b<A.heap.size->blk x=some b->B.heap[b]? = A.heap[b]?)->At x B
 YD:∀ {x A b},At x A->blk x=some b->b<A.heap.size
variable {α κ:Type} (E:El α κ)
def Seq (P:Program) (g:Nat) (lb:Array Value) (rows:List κ) (w0:World):Prop:=
 ∀ (l:Nat) (J:List α->(Nat->Prop)->World->Prop) (W:World) (o:Nat->Prop),
  Below w0.heap.size w0 W->(∀ b,o b->w0.heap.size<=b/\b<W.heap.size)->
  (∀ pre o1 A B,J pre o1 A->Kept (fun b=>o1 b∨b<W.heap.size) A B->J pre o1 B)->
  (∀ pre x o1 W1,J pre o1 W1->(pre++[x]).map E.key <+: rows->E.At x W1->(∀ b,E.blk x=some b->¬ o1 b/\(b<w0.heap.size∨W.heap.size<=b))->W.heap.size<=W1.heap.size->
   YieldAt Fence.wide 0 P l #[E.enc x] W1 fun e W'=>e=.returned (.bool true)/\∃ o2,J (pre++[x]) o2 W'/\Kept (fun b=>¬ o1 b) W1 W'/\
    ∀ b,o2 b->o1 b∨(W1.heap.size<=b/\b<W'.heap.size)∨(E.blk x=some b/\W.heap.size<=b))->
  J [] o W->
  Calls P g (#[.func (.yield l) #[] #[]]++lb) W fun e W'=>(∃ v,e=.returned v)/\∃ ys o',ys.map E.key=rows/\J ys o' W'/\Kept (fun b=>¬ o b) W W'/\
   ∀ b,o' b->o b∨(W.heap.size<=b/\b<W'.heap.size)
def oC (I:List α->(Nat->Prop)->World->Prop) (pre:List α) (x:α) (n:Nat) (o1:Nat->Prop) (W:World):Exit->Act->World->Prop
 | .normal,_,W' => ∃ o2,I (pre++[x]) o2 W'/\Kept (fun b => ¬ o1 b) W W'/\∀ b,o2 b->o1 b∨(W.heap.size<=b/\b<W'.heap.size)∨(E.blk x=some b/\n<=b)
 | _,_,_ => False
theorem zC {P:Program} {g:Operand} {ps:Array Tmp} {assign body:Code} {Q:Exit->Act->World->Prop} {a:Act} {w:World}
  {gf:Nat} {lb:Array Value} (hg:a.eval g=.func (.func gf) #[] lb) (eg:∀ args w,(callFunc gf args).run P w=.ok (.enter gf args) w)
  {rows:List κ} {w0:World} (hseq:Seq E P gf lb rows w0) (hb0:Below w0.heap.size w0 w) (hps:ps.size=1)
  (I:List α->(Nat->Prop)->World->Prop) (o:Nat->Prop) (ho:∀ b,o b->w0.heap.size<=b/\b<w.heap.size)
  (hI:∀ pre o1 A B,I pre o1 A->Kept (fun b=>o1 b∨b<w.heap.size) A B->I pre o1 B) (h0:I [] o w) (a₁:α->Act)
  (hassign:∀ (l:Nat) (x:α) (W:World) (K:Act->World->Prop),K (a₁ x) W->
   assign.wpIn (Fence.wide.inRound l) 0 P (Exit.then K (fun _ _ _=>False)) { tmps:=(ps.zip #[E.enc x]).foldl (fun t (p,v)=>t.setIfInBounds p v) a.tmps,defers:=[] } W)
  (hbody:∀ (l:Nat) (pre:List α) (x:α) (o1:Nat->Prop) (W:World),I pre o1 W->(pre++[x]).map E.key <+: rows->E.At x W->
   (∀ b,E.blk x=some b->¬ o1 b/\(b<w0.heap.size∨w.heap.size<=b))->w.heap.size+2<=W.heap.size->
   body.wpIn (Fence.wide.inRound l) 0 P (oC E I pre x w.heap.size o1 W) (a₁ x) W)
  (hdone:∀ (ys:List α) (o':Nat->Prop) (W:World),ys.map E.key=rows->I ys o' W->Kept (fun b=>¬ o b) w W->(∀ b,o' b->(o b∨(w.heap.size+2<=b/\b<W.heap.size)))->
   W.heap[w.heap.size]? = some (.deferred (some []))->Q .normal { a with defers:={ target:=.collected w.heap.size,args:=#[] } :: a.defers } W) :
  (Code.rangeFunc g ps assign body).wpIn Fence.wide 0 P Q a w:=by
 refine wpIn_rangeFunc ?_;intro fn hfn;obtain⟨rec,hrec⟩:∃ rec:LoopState->Option Code->Loop,rec=fun st pe=>{ state:=st,pending:=pe,fn,tmps:=a.tmps,params:=ps,assign,body,defers:=w.heap.size }:=⟨_,rfl⟩
 obtain⟨W1,hW1⟩:∃ W1,(w.alloc (.deferred (some []))).alloc (.loop (rec .ready none))=W1:=⟨_,rfl⟩
 have hs1:W1.heap.size=w.heap.size+2:=by rw[<- hW1]; simp
 have hL1:W1.heap[w.heap.size+1]? = some (.loop (rec .ready none)):=by
  rw[<- hW1]; have:=World.alloc_heap_new (w.alloc (.deferred (some []))) (.loop (rec .ready none)); rwa [Zd] at this
 have hD1:W1.heap[w.heap.size]? = some (.deferred (some [])):=by
  rw[<- hW1]; exact (Below.heap_alloc _ _ _ (by simp)).trans (World.alloc_heap_new w _)
 have hk1:∀ s,Kept s w W1:=fun s=>by rw[<- hW1]; exact (Kept.alloc _ _).trans (Kept.alloc _ _)
 have hbw:=hb0.trans ((hk1 (fun _=>True)).below hb0.size (fun _ _=>trivial));refine⟨w.heap.size+1,[{ target:=.collected w.heap.size,args:=#[] }],W1,{ target:=.fn (.func gf) lb,args:=#[.func (.yield (w.heap.size+1)) #[] #[]] },W1,gf,
  #[.func (.yield (w.heap.size+1)) #[] #[]]++lb,W1,?_,?_,?_,?_,fun h=>by simp[Fence.wide] at h,?_⟩
 ·rw[<- hW1,hrec]; exact run_enterLoop_outer _ _ _ _ _
 ·simp only[resolve,hg];simp[go_sem]
 ·intro f' _; trivial
 ·simp[invoke,go_sem,eg]
 ·refine Ze.2 ((hseq (w.heap.size+1)
   (fun pre o' W=>∃ o1,I pre o1 W/\(∀ b,o' b↔o1 b∨b=w.heap.size∨b=w.heap.size+1)/\¬ o1 w.heap.size/\¬ o1 (w.heap.size+1)/\
    W.heap[w.heap.size+1]? = some (.loop (rec .ready none))/\W.heap[w.heap.size]? = some (.deferred (some [])))
   W1 (fun b=>o b∨b=w.heap.size∨b=w.heap.size+1) hbw ?_ ?_ ?_ ?_).mono ?_)
  ·rintro b (hb | rfl | rfl)
   ·exact⟨(ho b hb).1,by have:=(ho b hb).2; omega⟩
   ·exact⟨hb0.size,by omega⟩
   ·exact⟨by have:=hb0.size; omega,by omega⟩
  ·rintro pre o' A B ⟨o1,hi,ho',hn,hn',hl,hd⟩ hk;have hlA:=(QI.1 hl).1;have hdA:=(QI.1 hd).1;refine⟨o1,hI pre o1 A B hi (hk.mono fun b _ hb=>?_),ho',hn,hn',(hk.block _ hlA (.inl ((ho' _).2 (.inr (.inr rfl))))).trans hl,(hk.block _ hdA (.inl ((ho' _).2 (.inr (.inl rfl))))).trans hd⟩;rcases hb with hb | hb
   ·exact .inl ((ho' b).2 (.inl hb))
   ·exact .inr (by omega)
  ·rintro pre x o' W ⟨o1,hi,ho',hn,hn',hl,hd⟩ hpre hx hoff hsz;have hlt:=(QI.1 hl).1;have hlt':w.heap.size<W.heap.size:=by omega
   have hy:=run_yield (P:=P) (args:=#[E.enc x]) hl (by rw[hrec]; exact hps.symm);rw[hrec] at hy;refine⟨fn,_,assign,body,hy,roundIn_of_wpIn hfn (hassign _ x W _ ⟨_,run_beginRound hl (by rw[hrec]),?_⟩)⟩;obtain⟨W2,hW2⟩:∃ W2,W.putObj (w.heap.size+1) (.loop { rec .ready none with state:=.busy })=W2:=⟨_,rfl⟩
   have hk2:Kept (fun b=>b≠w.heap.size+1) W W2:=by rw[<- hW2]; exact Kept.putObj _ _ (fun h=>h rfl)
   have hl2:W2.heap[w.heap.size+1]? = some (.loop { rec .ready none with state:=.busy }):=by rw[<- hW2]; exact World.putObj_heap_same hlt
   have hd2:=(hk2.block _ hlt' (by omega)).trans hd;have hs2:W2.heap.size=W.heap.size:=by rw[<- hW2]; simp
   have hI2:=hI pre o1 W W2 hi (hk2.mono fun b _ hb=>by
    rcases hb with hb | hb
    ·intro e; exact hn' (e ▸ hb)
    ·omega)
   have hx2:=E.keep hx hk2.size (fun b hb hbx=>hk2.block b hb (fun e=>(hoff b hbx).1 ((ho' b).2 (.inr (.inr e)))));rw[hW2];rw[hrec] at hl2;refine wpIn_mono (hbody _ pre x o1 W2 hI2 hpre hx2 (fun b hb=>⟨fun h=>(hoff b hb).1 ((ho' b).2 (.inl h)),(hoff b hb).2.imp id (by omega)⟩) (by omega)) ?_;rintro e a3 W3 hp
   cases e with
   | normal =>
    obtain⟨o2,hi3,hk3,hg3⟩:=hp;have hl3:W3.heap[w.heap.size+1]? = some (.loop { state:=.busy,pending:=none,fn,tmps:=a.tmps,params:=ps,assign,body,defers:=w.heap.size }):=(hk3.block _ (by omega) hn').trans hl2;have hlt3:=(QI.1 hl3).1;have hd3:=(hk3.block _ (by omega) hn).trans hd2;have hno:∀ b,b=w.heap.size∨b=w.heap.size+1->¬ o2 b:=fun b hb h=>by
     rcases hg3 b h with h | h | ⟨h,_⟩
     ·rcases hb with rfl | rfl
      ·exact hn h
      ·exact hn' h
     ·omega
     ·exact (hoff b h).1 ((ho' b).2 (.inr hb))
    refine⟨_,_,run_endRound none hl3,rfl,fun b=>o2 b∨b=w.heap.size∨b=w.heap.size+1,⟨o2,hI _ o2 W3 _ hi3 (Kept.putObj _ _ ?_),fun b=>Iff.rfl,hno _ (.inl rfl),hno _ (.inr rfl),?_,?_⟩,?_,?_⟩
    ·rintro (h | h)
     ·exact hno _ (.inr rfl) h
     ·omega
    ·rw[World.putObj_heap_same hlt3,hrec]; rfl
    ·exact (Zb (by omega)).trans hd3
    ·refine ((hk2.mono ?_).trans' (hk3.mono ?_) (fun _ _ h=>h)).trans (Kept.putObj _ _ ?_)
     ·intro b _ h e; exact h ((ho' b).2 (.inr (.inr e)))
     ·intro b _ h h'; exact h ((ho' b).2 (.inl h'))
     ·intro h; exact h ((ho' _).2 (.inr (.inr rfl)))
    ·rintro b (h | h)
     ·rcases hg3 b h with h | h | h
      ·exact .inl ((ho' b).2 (.inl h))
      ·exact .inr (.inl ⟨by omega,by rw[World.putObj_size]; omega⟩)
      ·exact .inr (.inr ⟨h.1,by
        rcases (hoff b h.1).2 with h' | h'
        ·have:=h.2; have:=hb0.size; omega
        ·exact h'⟩)
     ·exact .inl ((ho' b).2 (.inr h))
   | ret => exact hp.elim
   | exit id => exact hp.elim
   | goto t => exact hp.elim
   | panic ch => exact hp.elim
   | outgrown => exact hp.elim
  ·have hno:∀ b,b=w.heap.size∨b=w.heap.size+1->¬ o b:=fun b hb h=>by have:=(ho b h).2; omega
   exact⟨o,hI _ _ _ _ h0 (hk1 _),fun _=>Iff.rfl,hno _ (.inl rfl),hno _ (.inr rfl),hL1,hD1⟩
  ·rintro e W2 ⟨⟨v,rfl⟩,ys,o',hys,⟨o1,hi,ho',hn,hn',hl,hd⟩,hk,hg⟩;have hlt:=(QI.1 hl).1;refine⟨none,_,by have:=run_endLoop (P:=P) hl (by rw[hrec]; simp); rw[hrec] at this; exact this,hdone ys o1 _ hys (hI _ _ _ _ hi (Kept.putObj _ _ ?_)) ?_ ?_ ((Zb (by omega)).trans hd)⟩
   ·rintro (h | h)
    ·exact hn' h
    ·omega
   ·refine (Kept.trans' (hk1 _) (hk.mono fun b _ h=>h) ?_).trans (Kept.putObj _ _ ?_) |>.mono (s:=fun b=>¬ o b/\b<w.heap.size) ?_
    ·rintro b _ ⟨h,hb⟩ (h' | h' | h')
     ·exact h h'
     ·omega
     ·omega
    ·rintro⟨_,h⟩; omega
    ·exact fun b hb h=>⟨h,hb⟩
   ·intro b hb;rcases hg b ((ho' b).2 (.inl hb)) with (h | h | h) | h
    ·exact .inl h
    ·exact absurd (h ▸ hb) hn
    ·exact absurd (h ▸ hb) hn'
    ·exact .inr ⟨by omega,by rw[World.putObj_size]; exact h.2⟩
theorem Seq.later {P:Program} {g:Nat} {lb:Array Value} {rows:List κ} {w0 w1:World} (h:Seq E P g lb rows w0) (hb:Below w0.heap.size w0 w1):Seq E P g lb rows w1:=by
 intro l J W o hW ho hJ hY h0;refine h l J W o (hb.trans (hW.mono hb.size)) (fun b h=>⟨Q4 hb.size (ho b h).1,(ho b h).2⟩) hJ (fun pre x o1 W1 hj hp hx hoff hs=>hY pre x o1 W1 hj hp hx (fun b hb'=>⟨(hoff b hb').1,(hoff b hb').2.imp (fun h=>Q8 h hb.size) id⟩) hs) h0
end
def Q7:=@Kept.refl
def Q9:=@Kept.of_below
def Za:=@Kept.putObj
def Zc:=@Kept.alloc
section
theorem Oa {w:World} {p:Addr} {v:Value} (h:w.cell? p=some v):p.block<w.heap.size:=by
 unfold World.cell? at h
 cases hb:w.heap[p.block]? with
 | none => simp[hb] at h
 | some o => exact (QI.1 hb).1
theorem aY.keep {A B:World} {ao:Option Addr} {n:Nat} {f:Nat->Value} (h:aY A ao n f) (hb:∀ a,ao=some a->a.block<A.heap.size->B.heap[a.block]? = A.heap[a.block]?):aY B ao n f:=by
 intro i hi;obtain⟨b,off,rfl,hc⟩:=h i hi;have hl:b<A.heap.size:=Oa (p:=(aD b (off+i))) hc;exact⟨b,off,rfl,(Zg (a:=(aD b (off+i))) (hb (aD b off) rfl hl)).trans hc⟩
def bC:El ah (List Int) where
 enc:=ah.val
 At x W:=x.At W/\(∀ a,x.ad=some a->a.block<W.heap.size)/\(x.ad=none->x.cap=0)
 blk x:=x.ad.map (·.block)
 key:=ah.xs
 keep:=by
  rintro x A B ⟨h,hl,hn⟩ hs hb;refine⟨⟨h.1,h.2.keep fun a ha hlt=>hb _ hlt (by rw[ha]; rfl)⟩,fun a ha=>Q8 (hl a ha) hs,hn⟩
 YD:=by
  rintro x A b ⟨_,hl,_⟩ hb
  cases ha:x.ad with
  | none => rw[ha] at hb; cases hb
  | some a => rw[ha] at hb; cases hb; exact hl a ha
theorem Ph {x:ah} {b:Nat} (h:bC.blk x=some b):∃ a,x.ad=some a/\a.block=b:=by
 have h':x.ad.map (·.block)=some b:=h
 cases ha:x.ad with
 | none => rw[ha] at h'; cases h'
 | some a => rw[ha] at h'; cases h'; exact⟨a,rfl,rfl⟩
def gF (w:World) (ao:Option Addr) (rs:List ah):Prop:=tC w ao rs/\(∀ a,ao=some a->a.block<w.heap.size)/\∀ i,i<rs.length->bC.At (rs.getD i iz) w
theorem gF.below {w w':World} (hb:Below w.heap.size w w') {ao:Option Addr} {rs:List ah} (h:gF w ao rs):gF w' ao rs:=
 ⟨h.1.below hb,fun a ha=>Q8 (h.2.1 a ha) hb.size,fun i hi=>bC.keep (h.2.2 i hi) hb.size (fun b hb' _=>hb.block b hb')⟩
theorem rM {α:Type} (rs:List α) (d:α) {k:Nat} (hk:k<rs.length):rs.take k++[rs.getD k d]=rs.take (k+1):=by
 rw[Qk hk]; simp[List.getD,hk]
attribute [local go_sem] Oper.semAt_some
theorem Uo (bt:Nat) (ao:Option Addr) (cap:Nat) (rs:List ah) (w0:World) (hbt:bt<w0.heap.size) (hc:w0.cell? (aD bt 0)=some (.slice ao rs.length cap)) (hr:gF w0 ao rs) :
  Seq bC Tryz.prog 153 #[.pointer (some (aD bt 0))] (rs.map (·.xs)) w0:=by
 intro l J W o hW ho hJ hY h0;have hcW:=(hW.cell (p:=(aD bt 0)) hbt).trans hc;have hrW:=hr.below hW;have hlen:=hr.1.1;have HY:=Zh hY;have HO:=Zh ho;have HR:Hid _:=hrW;have HW:=Zh hW;have Ob:Hid _:=hr;clear hY ho hrW hW hr hJ;refine (Ze (n:=0)).1 (callsIn_of_wp Tryz.func153 rfl trivial ?_ rfl);simp only[Tryz.ntmps153,Zj,Q5,Zk,Nat.reduceAdd,Nat.reduceSub,Zl,Zm,Zn,Zo,Zp,Zq]
 gi_wp2
 gi_loopw [7] (fun i wr=>∃ k:Nat,k<=rs.length/\i=.int .i64 k/\∃ o1,J (rs.take k) o1 wr/\Kept (fun b=>¬ o b) W wr/\Hid (∀ b,o1 b->o b∨(W.heap.size<=b/\b<wr.heap.size)))
  (fun i _=>rs.length-(intOf i).toNat)
 case atStart=>exact⟨0,QQ _,rfl,o,h0,Q7 _ _,fun b h=>.inl h⟩
 case round=>
  obtain⟨k,hk,rfl,o1,hJs,rO,ho1⟩:=hrel;by_cases hlt:k<rs.length
  ·obtain⟨b,off,rfl,hcs⟩:=Ob.out.1.2.1.get hlt;have hb0:b<w0.heap.size:=Ob.out.2.1 _ rfl;have hbw:=HW.out.trans (rO.below HW.out.size (fun i hi h=>by have:=(HO.out i h).1; omega));have hcx:=(hbw.cell (p:=(aD b (off+k))) hb0).trans (hcs k hlt);have hrx:=bC.keep (Ob.out.2.2 k hlt) hbw.size (fun b hb' _=>hbw.block b hb');have hno:∀ b,o1 b->w0.heap.size<=b:=fun b h=>by
    rcases ho1.out b h with h | h
    ·exact (HO.out b h).1
    ·have:=HW.out.size; omega
   have hbk:∀ b,bC.blk (rs.getD k iz)=some b->b<w0.heap.size:=fun b h=>by
    obtain⟨a,ha,rfl⟩:=Ph h;exact (Ob.out.2.2 k hlt).2.1 a ha
   have HN:=Zh (rM rs iz hlt);have hpre:(rs.take k++[rs.getD k iz]).map bC.key <+: rs.map (·.xs):=by
    rw[rM rs iz hlt];exact List.IsPrefix.map _ (List.take_prefix _ _)
   obtain⟨fn,tmps,assign,body,hy,hR⟩:=HY.out _ (rs.getD k iz) o1 wr hJs hpre hrx (fun b h=>⟨fun h'=>by have:=hno b h'; have:=hbk b h; omega,.inl (hbk b h)⟩) rO.size;generalize rs.getD k iz=x at *;obtain⟨zh,lC,tH⟩:=x;have hy':(Instr.yield l #[.slice zh tH.length lC]).run Tryz.prog wr=.ok (.round l fn tmps assign body) wr:=hy;have atQ:wr.cell? (aD b (off+k))=some (.slice zh tH.length lC):=hcx;clear hy hcx hrx hpre
   gi_wp2
   refine⟨rfl,hR.mono ?_⟩;rintro e W3 ⟨rfl,o2,hJ3,hk3,hg3⟩
   gi_wp2
   go_roundw
   case rel=>
    refine⟨k+1,by omega,by simp,o2,by rw[<- HN.out]; exact hJ3,rO.trans' hk3 ?_,?_⟩
    ·intro b hb h h';rcases ho1.out b h' with h' | h'
     ·exact h h'
     ·omega
    ·intro b hb;rcases hg3 b hb with h | h | h
     ·rcases ho1.out b h with h | h
      ·exact .inl h
      ·exact .inr ⟨h.1,by have:=hk3.size; omega⟩
     ·exact .inr ⟨by have:=rO.size; omega,h.2⟩
     ·have:=hbk b h.1; have:=HW.out.size; omega
   case measure=>simp[intOf]; omega
  ·obtain rfl:k=rs.length:=by omega
   gi_wp2
   go_end0;exact⟨⟨_,rfl⟩,rs,o1,rfl,by rw[Qt] at hJs; exact hJs,rO,ho1.out⟩
end
def Zf:=@Oa
section
theorem zD {pre:List ah} {x:ah} {rows:List (List Int)} (h:(pre++[x]).map bC.key <+: rows):x.xs∈rows:=by
 have hm:x.xs∈(pre++[x]).map bC.key:=by simp[bC]
 exact h.subset hm
theorem KY {pre:List ah} {x:ah} {rows:List (List Int)} (p:List Int->Bool) (h:(pre++[x]).map bC.key <+: rows) (hp:p x.xs=true) :
  (pre.filter (fun r=>p r.xs)++[x]).map bC.key <+: rows.filter p:=by
 have h1:=List.IsPrefix.filter p h;have h2:(pre.filter (fun r=>p r.xs)++[x]).map bC.key=((pre++[x]).map bC.key).filter p:=by
  rw[List.filter_map];congr 1;rw[List.filter_append];simp[bC,Function.comp_def,hp]
 rw[h2];exact h1
theorem nN {A B:World} {p:Addr} {v:Value} {s:Nat->Prop} (h:A.cell? p=some v) (hk:Kept s A B) (hs:s p.block):B.cell? p=some v:=
 (Zg (hk.block _ (Zf h) hs)).trans h
attribute [local go_sem] Oper.semAt_some
theorem KZ (bi bk gi gk:Nat) (yM lbk:Array Value) (rows:List (List Int)) (p:List Int->Bool) (w0:World) (hbi:bi<w0.heap.size) (hbk:bk<w0.heap.size)
  (hci:w0.cell? (aD bi 0)=some (.func (.func gi) #[] yM)) (hck:w0.cell? (aD bk 0)=some (.func (.func gk) #[] lbk))
  (hseq:Seq bC Tryz.prog gi yM rows w0) (YE:∀ args w,(callFunc gi args).run Tryz.prog w=.ok (.enter gi args) w) (egk:∀ args w,(callFunc gk args).run Tryz.prog w=.ok (.enter gk args) w)
  (hkeep:∀ W x,Below w0.heap.size w0 W->ah.At x W->x.xs∈rows->Calls Tryz.prog gk (#[x.val]++lbk) W fun e W'=>e=.returned (.bool (p x.xs))/\Below W.heap.size W W') :
  Seq bC Tryz.prog 106 #[.pointer (some (aD bi 0)),.pointer (some (aD bk 0))] (rows.filter p) w0:=by
 intro l J W o hW ho hJ hY h0;have amC:=(hW.cell (p:=(aD bi 0)) hbi).trans hci;have HY:=Zh hY;have HO:=Zh ho;have HW:=Zh hW;have HJ:=Zh hJ;have HK:=Zh hkeep;have HCK:=Zh hck;have HBK:=Zh hbk;have hb1:Below W.heap.size W (W.alloc (.cells #[.func (.yield l) #[] #[]] 129)):=bU _ _;have amD:=(hb1.cell (p:=(aD bi 0)) (Q8 hbi HW.out.size)).trans amC;have aho:(W.alloc (.cells #[.func (.yield l) #[] #[]] 129)).cell? (aD W.heap.size 0)=some (.func (.yield l) #[] #[]):=by simp
 have hs1:(W.alloc (.cells #[.func (.yield l) #[] #[]] 129)).heap.size=W.heap.size+1:=by simp
 refine (Ze (n:=0)).1 (Zt Tryz.func106 rfl trivial ?_ rfl);simp only[Tryz.ntmps106,Zj,Q5,Zk,Nat.reduceAdd,Nat.reduceSub,Zl,Zm,Zn,Zo,Zp,Zq]
 gi_wp2
 obtain⟨w1,hw1⟩:∃ w1,W.alloc (.cells #[.func (.yield l) #[] #[]] 129)=w1:=⟨_,rfl⟩
 rw[hw1] at hb1 amD aho hs1;rw[hw1];have H1:=Zh hs1;have H2:=Zh hb1;refine zC bC (gf:=gi) (lb:=yM) rfl YE hseq (HW.out.trans (H2.out.mono HW.out.size)) rfl
  (fun pre o1 W'=>J (pre.filter (fun r=>p r.xs)) o1 W'/\Kept (fun b=>¬ o b) W W'/\(∀ b,o1 b->o b∨(W.heap.size<=b/\b<W'.heap.size))/\W'.cell? (aD W.heap.size 0)=some (.func (.yield l) #[] #[])/\¬ o1 W.heap.size)
  o ?_ ?_ ?_ (fun x=>{ tmps:=#[.func (.yield l) #[] #[],.pointer (some (aD bi 0)),.pointer (some (aD bk 0)),.pointer (some (aD W.heap.size 0)),x.val,.func (.func gi) #[] yM,x.val,undef,undef,undef,undef,undef,undef,undef,undef,undef],defers:=[] }) ?assign ?body ?done
 ·intro b hb;exact⟨(HO.out b hb).1,by have:=(HO.out b hb).2; have:=H1.out; omega⟩
 ·rintro pre o1 A B ⟨hj,hk,hg,hc,hn⟩ hkk;have h1:=H1.out;refine⟨HJ.out _ _ _ _ hj (hkk.mono fun b _ h=>h.imp id (by omega)),hk.trans' hkk (fun b hb _=>.inr (by omega)),fun b h=>(hg b h).imp id (fun h=>⟨h.1,by have:=hkk.size; omega⟩),nN hc hkk (.inr (by show W.heap.size<_; omega)),hn⟩
 ·have h1:=H1.out;refine⟨HJ.out _ _ _ _ h0 (Q9 H2.out fun b hb h=>by rcases h with h | h; exact (HO.out b h).2; exact h),Q9 H2.out (fun b hb _=>hb),fun b h=>.inl h,aho,fun h=>by have:=(HO.out _ h).2; omega⟩
 case assign=>
  intro l x W K hK
  gi_wp2
  exact hK
 case body=>
  rintro l2 pre x o1 W2 ⟨hj,hk,hg,hcy,hn⟩ hpre hx hoff hsz;have h1:=H1.out;have hbw:=HW.out.trans (hk.below HW.out.size (fun i hi h=>by have:=(HO.out i h).1; omega));have ahp:=(hbw.cell (p:=(aD bk 0)) HBK.out).trans HCK.out;have hkk:=HK.out W2 x hbw hx.1 (zD hpre);have HX:=Zh hx;have HF:=Zh hoff;have HP:Hid _:=hpre;have hsn:(pre++[x]).filter (fun r=>p r.xs)=pre.filter (fun r=>p r.xs)++if p x.xs then [x] else []:=by
   rw[List.filter_append]
   cases hp:p x.xs <;> simp[hp]
  by_cases hp:p x.xs=true
  ·rw[hp] at hkk;have HS:Hid ((pre++[x]).filter (fun r=>p r.xs)=pre.filter (fun r=>p r.xs)++[x]):=by rw[hsn,hp]; rfl
   have HPF:Hid _:=KY p hpre hp
   gi_wp2
   refine⟨trivial,rfl,CallsIn.inRound l2 (Ze.2 (hkk.mono ?_))⟩;rintro e W3 ⟨rfl,hb3⟩;have hk3:Kept (fun _=>True) W2 W3:=Q9 hb3 (fun b hb _=>hb);have hj3:=HJ.out _ _ _ _ hj (hk3.mono (fun _ _ _=>trivial));have adp:=nN hcy hk3 trivial;obtain⟨fn,tmps,assign,body,hy,hR⟩:=HY.out _ x o1 W3 hj3 HPF.out (bC.keep HX.out hk3.size (fun b hb _=>hk3.block b hb trivial)) (fun b h=>⟨(HF.out b h).1,(HF.out b h).2.imp id (by omega)⟩) (by have:=hk.size; have:=hk3.size; omega);have hy':(Instr.yield l #[x.val]).run Tryz.prog W3=.ok (.round l fn tmps assign body) W3:=hy;have HG:=Zh hg;have nZ:=Zh hk;have HB3:=Zh hb3
   gi_wp2
   refine⟨rfl,hR.mono ?_⟩;rintro e W4 ⟨rfl,o2,hj4,hk4,hg4⟩;have hs3:=HB3.out.size;have lT:=(Q9 HB3.out (fun b hb _=>hb)).trans hk4
   gi_wp2
   refine⟨o2,⟨by rw[HS.out]; exact hj4,nZ.out.trans' lT ?_,?_,?_,?_⟩,lT,?_⟩
   ·intro b hb h h';rcases HG.out b h' with h' | h'
    ·exact h h'
    ·omega
   ·intro b hb;have hs4:=hk4.size;rcases hg4 b hb with h | h | h
    ·exact (HG.out b h).imp id (fun h=>⟨h.1,by omega⟩)
    ·exact .inr ⟨by omega,h.2⟩
    ·exact .inr ⟨h.2,by have:=bC.YD HX.out h.1; omega⟩
   ·exact nN adp hk4 hn
   ·intro h;rcases hg4 _ h with h | h | h
    ·exact hn h
    ·omega
    ·rcases (HF.out _ h.1).2 with h' | h'
     ·have:=HW.out.size; omega
     ·omega
   ·intro b hb;rcases hg4 b hb with h | h | h
    ·exact .inl h
    ·exact .inr (.inl ⟨by omega,h.2⟩)
    ·refine .inr (.inr ⟨h.1,?_⟩);rcases (HF.out _ h.1).2 with h' | h'
     ·have:=HW.out.size; omega
     ·exact h'
  ·have hp':p x.xs=false:=by simpa using hp
   rw[hp'] at hkk;have hs0:(pre++[x]).filter (fun r=>p r.xs)=pre.filter (fun r=>p r.xs):=by rw[hsn,hp']; simp
   have HS:=Zh hs0
   gi_wp2
   refine⟨trivial,rfl,CallsIn.inRound l2 (Ze.2 (hkk.mono ?_))⟩;rintro e W3 ⟨rfl,hb3⟩;have hk3:Kept (fun _=>True) W2 W3:=Q9 hb3 (fun b hb _=>hb);have hj3:=HJ.out _ _ _ _ hj (hk3.mono (fun _ _ _=>trivial));have adp:=nN hcy hk3 trivial;have HG:=Zh hg;have nZ:=Zh hk;have pK:=Zh hk3
   gi_wp2
   refine⟨fun _ h=>(by cases h),?_⟩
   gi_wp2
   exact⟨o1,⟨by rw[HS.out]; exact hj3,nZ.out.trans (pK.out.mono fun _ _ _=>trivial),fun b h=>(HG.out b h).imp id (fun h=>⟨h.1,by have:=pK.out.size; omega⟩),adp,hn⟩,pK.out.mono (fun _ _ _=>trivial),fun b h=>.inl h⟩
 case done=>
  rintro ys o' W2 hys ⟨hj,hk,hg,hcy,hn⟩ hk2 hg2 hD;have h1:=H1.out
  gi_wp2
  have hnD:¬ o' w1.heap.size:=fun h=>by
   rcases hg2 _ h with h | h
   ·have:=(HO.out _ h).2; omega
   ·omega
  have hkD:Kept (fun b=>b≠w1.heap.size) W2 (W2.putObj w1.heap.size (.deferred none)):=Za _ _ (fun h=>h rfl);refine⟨by simp,.inl ⟨_,_,rfl,Zu hD,?_⟩⟩;refine⟨_,results_none rfl _ _ _,⟨_,rfl⟩,ys.filter (fun r=>p r.xs),o',?_,HJ.out _ _ _ _ hj (hkD.mono fun b _ h=>?_),hk.trans' hkD (fun b hb _=>by omega),fun b h=>(hg b h).imp id (fun h=>⟨h.1,by rw[World.putObj_size]; omega⟩)⟩
  ·rw[<- hys,List.filter_map];rfl
  ·rcases h with h | h
   ·intro e; exact hnD (e ▸ h)
   ·omega
end
def Zr:=@nN
section
theorem Kept.setCell {s:Nat->Prop} (W:World) (a:Addr) (v:Value) (hr:¬ s a.block):Kept s W (W.setCell a v):=
 ⟨rfl,rfl,rfl,by simp[World.setCell],fun k _ hs=>Below.heap_setCell W a v k (fun e=>hr (e ▸ hs))⟩
theorem Kept.grown {s:Nat->Prop} {A B:World} {row:Option Nat} (hg:A.grownBy B row) (hr:∀ r,row=some r->¬ s r):Kept s A B:=
 ⟨hg.os,hg.tape,hg.output,hg.size,fun k hk hs=>hg.block k hk (fun e=>hr k e.symm hs)⟩
theorem oD {A B:World} {base:Nat} {e:TypeId} {sz:Nat} {v:Value} {n:Nat} {xs:List Value} (h:A.ownsRow base e sz v n xs) {s:Nat->Prop} (hk:Kept s A B) (hs:∀ g,v.ownBlock=some g->s g):B.ownsRow base e sz v n xs:=by
 refine⟨h.1,?_⟩;rcases h.2 with h | ⟨g,cap,cur,rfl,hb,hg,h1,h2,h3,h4⟩
 ·exact .inl h
 ·exact .inr ⟨g,cap,cur,rfl,hb,(hk.block g (QI.1 hg).1 (hs g rfl)).trans hg,h1,h2,h3,h4⟩
theorem lU {A:World} {base:Nat} {e:TypeId} {sz:Nat} {v:Value} {n:Nat} {xs:List Value} (h:A.ownsRow base e sz v n xs) {g:Nat} (hg:v.ownBlock=some g):base<=g/\g<A.heap.size:=by
 rcases h.2 with⟨rfl,_⟩ | ⟨g',cap,cur,rfl,hb,hg',_⟩
 ·cases hg
 ·cases hg
  exact⟨hb,(QI.1 hg').1⟩
theorem nA {A:World} {base:Nat} {e:TypeId} {sz:Nat} {v:Value} {n:Nat} {xs:List Value} (h:A.ownsRow base e sz v n xs):∃ ad m cap,v=.slice ad m cap:=by
 rcases h.2 with⟨rfl,_⟩ | ⟨g',cap,cur,rfl,_⟩
 ·exact⟨_,_,_,rfl⟩
 ·exact⟨_,_,_,rfl⟩
def nO (E:El ah (List Int)) (n:Nat) (v:Value) (pre:List ah) (b:Nat):Prop:=b=n∨v.ownBlock=some b∨(n<=b/\∃ y∈pre,E.blk y=some b)
def Apart (E:El ah (List Int)) (n:Nat) (ys:List ah):Prop:=ys.Pairwise fun y z=>∀ b,E.blk y=some b->E.blk z=some b->b<n
structure gL (E:El ah (List Int)) (n0:Nat) (w:World) (e:TypeId) (pre:List ah) (o1:Nat->Prop) (W:World) (v:Value):Prop where
 box:W.cell? (aD w.heap.size 0)=some v
 thaw:W.frozen? (aD w.heap.size 0)=false
 own:W.ownsRow (w.heap.size+1) e 1 v pre.length (pre.map ah.val)
 at':∀ y∈pre,E.At y W
 off:∀ y∈pre,∀ b,E.blk y=some b->b≠w.heap.size/\v.ownBlock≠some b
 apart:Apart E w.heap.size pre
 born:∀ y∈pre,∀ b,E.blk y=some b->b<n0∨w.heap.size<=b
 below:Below w.heap.size w W
 iff:∀ b,o1 b↔nO E w.heap.size v pre b
theorem gL.keep {E:El ah (List Int)} {n0:Nat} {w:World} {e:TypeId} {pre:List ah} {o1:Nat->Prop} {A B:World} {v:Value} (h:gL E n0 w e pre o1 A v) {n:Nat} (hn:w.heap.size<=n) (hk:Kept (fun b=>o1 b∨b<n) A B):gL E n0 w e pre o1 B v:=by
 have ho:=(h.iff _).2 (.inl rfl);refine⟨Zr h.box hk (.inl ho),(ZB (hk.block _ (Zf h.box) (.inl ho))).trans h.thaw,oD h.own hk (fun g hg=>.inl ((h.iff _).2 (.inr (.inl hg)))),fun y hy=>?_,h.off,h.apart,h.born,h.below.trans (hk.below h.below.size (fun b hb=>.inr (by omega))),h.iff⟩;refine E.keep (h.at' y hy) hk.size (fun b hb hby=>hk.block b hb ?_);by_cases hlt:b<w.heap.size
 ·exact .inr (by omega)
 ·exact .inl ((h.iff _).2 (.inr (.inr ⟨by omega,y,hy,hby⟩)))
theorem gL.off' {E:El ah (List Int)} {n0:Nat} {w:World} {e:TypeId} {pre:List ah} {o1:Nat->Prop} {W:World} {v:Value} (h:gL E n0 w e pre o1 W v) {x:ah} (hx:∀ b,E.blk x=some b->¬ o1 b) :
  (∀ b,E.blk x=some b->b≠w.heap.size/\v.ownBlock≠some b)/\Apart E w.heap.size (pre++[x]):=by
 refine⟨fun b hb=>⟨fun e=>hx b hb ((h.iff _).2 (.inl e)),fun e=>hx b hb ((h.iff _).2 (.inr (.inl e)))⟩,?_⟩;unfold Apart;rw[List.pairwise_append];refine⟨h.apart,List.pairwise_singleton _ _,?_⟩;intro y hy z hz b hb hb';rw[QY] at hz;subst hz;by_cases hlt:b<w.heap.size
 ·exact hlt
 ·exact absurd ((h.iff _).2 (.inr (.inr ⟨by omega,y,hy,hb⟩))) (hx b hb')
theorem gL.more {E:El ah (List Int)} {n0:Nat} {w:World} {e:TypeId} {pre:List ah} {o1:Nat->Prop} {W W1 W2:World} {v v':Value} {x:ah} (h:gL E n0 w e pre o1 W v) (hx:E.At x W) (hoff:∀ b,E.blk x=some b->¬ o1 b) (hbn:∀ b,E.blk x=some b->b<n0∨w.heap.size<=b)
  (ha:Kept (fun _=>True) W W1) (hs1:W1.heap.size=W.heap.size+1) (hown:W2.ownsRow (w.heap.size+1) e 1 v' (pre.length+1) (pre.map ah.val++[x.val])) (hg:W1.grownBy W2 v.ownBlock) (hat:v'.ownBlock=v.ownBlock∨v'.ownBlock=some W1.heap.size) (h1:v'.oneCell' = true) :
  gL E n0 w e (pre++[x]) (nO E w.heap.size v' (pre++[x])) (W2.setCell (aD w.heap.size 0) v') v'/\Kept (fun b=>¬ o1 b) W (W2.setCell (aD w.heap.size 0) v')/\
  ∀ b,nO E w.heap.size v' (pre++[x]) b->o1 b∨(W.heap.size<=b/\b<(W2.setCell (aD w.heap.size 0) v').heap.size)∨(E.blk x=some b/\w.heap.size<=b):=by
 have hsz:(W2.setCell (aD w.heap.size 0) v').heap.size=W2.heap.size:=by simp[World.setCell]
 have hvb:∀ g,v.ownBlock=some g->w.heap.size+1<=g/\g<W.heap.size:=fun g hg=>lU h.own hg
 have Gw:∀ g,v'.ownBlock=some g->w.heap.size+1<=g/\g<W2.heap.size:=fun g hg=>lU hown hg
 have hk1:Kept (fun b=>v.ownBlock≠some b) W W2:=(ha.mono fun _ _ _=>trivial).trans (Kept.grown hg (fun r e hr=>hr e));have hk2:Kept (fun b=>v.ownBlock≠some b/\b≠w.heap.size) W (W2.setCell (aD w.heap.size 0) v'):=(hk1.mono fun _ _ h=>h.1).trans (Kept.setCell _ _ _ (fun h=>h.2 rfl));obtain⟨Uq,hap⟩:=h.off' hoff;have hnew:∀ b,b<W.heap.size->v'.ownBlock=some b->v.ownBlock=some b:=fun b hb e=>by
  rcases hat with h | h
  ·rw[<- h]; exact e
  ·rw[h] at e; cases e; omega
 have hbx:=Zr h.box hk1 (fun e=>by have:=hvb _ e; exact absurd this.1 (by show ¬ (w.heap.size+1<=w.heap.size); omega));refine⟨⟨?_,?_,?_,?_,?_,hap,fun y hy=>?_,?_,fun b=>Iff.rfl⟩,hk2.mono ?_,?_⟩
 ·exact World.cell?_setCell_same' _ _ _ (by rw[hbx]; rfl)
 ·rw[World.frozen?_setCell];exact (ZB (hk1.block _ (Zf h.box) (fun e=>by have:=hvb _ e; exact absurd this.1 (by show ¬ (w.heap.size+1<=w.heap.size); omega)))).trans h.thaw
 ·have:=oD hown (s:=fun b=>b≠w.heap.size) (Kept.setCell W2 (aD w.heap.size 0) v' (fun h=>h rfl)) (fun g hg=>by have:=Gw g hg; omega)
  simpa using this
 ·intro y hy;rcases QX.1 hy with hy | hy
  ·exact E.keep (h.at' y hy) hk2.size (fun b hb hby=>hk2.block b hb ⟨(h.off y hy b hby).2,(h.off y hy b hby).1⟩)
  ·rw[QY] at hy;subst hy;exact E.keep hx hk2.size (fun b hb hby=>hk2.block b hb ⟨(Uq b hby).2,(Uq b hby).1⟩)
 ·intro y hy b hb;have hbl:b<W.heap.size/\b≠w.heap.size/\v.ownBlock≠some b:=by
   rcases QX.1 hy with hy | hy
   ·exact⟨E.YD (h.at' y hy) hb,h.off y hy b hb⟩
   ·rw[QY] at hy;subst hy;exact⟨E.YD hx hb,Uq b hb⟩
  exact⟨hbl.2.1,fun e=>hbl.2.2 (hnew b hbl.1 e)⟩
 ·rcases QX.1 hy with hy | hy
  ·exact h.born y hy
  ·rw[QY] at hy;subst hy;exact hbn
 ·exact h.below.trans (hk2.below (by have:=h.below.size; omega) (fun b hb=>⟨fun e=>by have:=hvb b e; omega,by omega⟩))
 ·intro b hb hb';exact⟨fun e=>hb' ((h.iff _).2 (.inr (.inl e))),fun e=>hb' ((h.iff _).2 (.inl e))⟩
 ·rintro b (hb | hb | ⟨hb,y,hy,hby⟩)
  ·exact .inl ((h.iff _).2 (.inl hb))
  ·by_cases hlt:b<W.heap.size
   ·exact .inl ((h.iff _).2 (.inr (.inl (hnew b hlt hb))))
   ·exact .inr (.inl ⟨by omega,by rw[hsz]; exact (Gw b hb).2⟩)
  ·rcases QX.1 hy with hy | hy
   ·exact .inl ((h.iff _).2 (.inr (.inr ⟨hb,y,hy,hby⟩)))
   ·rw[QY] at hy;subst hy;exact .inr (.inr ⟨hby,hb⟩)
attribute [local go_sem] Oper.semAt_some
theorem Tryz.zF:(Tryz.prog.info? 22).map (fun i=>(i.zero,i.size,i.bytes))=some (some (.slice none 0 0),1,24):=by kernel_rfl
theorem K3 (E:El ah (List Int)) (henc:∀ x,E.enc x=x.val) (g:Nat) (lb:Array Value) (rows:List (List Int)) (w0 w:World) (hb0:Below w0.heap.size w0 w) (hlen:rows.length<=1000000) (hseq:Seq E Tryz.prog g lb rows w0) (eg:∀ args w,(callFunc g args).run Tryz.prog w=.ok (.enter g args) w) :
  Calls Tryz.prog 34 #[.func (.func g) #[] lb] w fun e w'=>∃ v ys o,e=.returned v/\ys.map E.key=rows/\gL E w0.heap.size w 22 ys o w' v:=by
 obtain⟨i0,hi,hz0,hz1,hz2⟩:=ZC Tryz.zF;have HL:=Zh hlen;have HB0:=Zh hb0;have H1:Hid ((w.alloc (.cells #[.slice none 0 0] 57)).heap.size=w.heap.size+1):=by show _=_; simp
 have H2:Hid (Below w.heap.size w (w.alloc (.cells #[.slice none 0 0] 57))):=bU _ _;refine (Ze (n:=0)).1 (Zt Tryz.func34 rfl trivial ?_ rfl);simp only[Tryz.ntmps34,Zj,Q5,Zk,Nat.reduceAdd,Nat.reduceSub,Zl,Zm,Zn,Zo,Zp,Zq]
 gi_wp2
 have hG:gL E w0.heap.size w 22 [] (nO E w.heap.size (.slice none 0 0) []) (w.alloc (.cells #[.slice none 0 0] 57)) (.slice none 0 0):=
  ⟨by simp,by simp,ZE _ _ _ _,fun _ h=>by simp at h,fun _ h=>by simp at h,List.Pairwise.nil,fun _ h=>by simp at h,H2.out,fun _=>Iff.rfl⟩
 obtain⟨w1,hw1⟩:∃ w1,w.alloc (.cells #[.slice none 0 0] 57)=w1:=⟨_,rfl⟩
 rw[hw1] at hG H1 H2;rw[hw1];refine zC E (gf:=g) (lb:=lb) rfl eg hseq (HB0.out.trans (H2.out.mono HB0.out.size)) rfl
  (fun pre o1 W=>∃ v,gL E w0.heap.size w 22 pre o1 W v) (nO E w.heap.size (.slice none 0 0) []) ?_ ?_ ⟨_,hG⟩
  (fun x=>{ tmps:=#[.func (.func g) #[] lb,undef,.slice none 0 0,.pointer (some (aD w.heap.size 0)),x.val,.func (.func g) #[] lb,x.val,undef,undef,undef,undef,undef],defers:=[] }) ?assign ?body ?done
 ·rintro b (h | h | ⟨_,y,hy,_⟩)
  ·have:=H1.out; have:=HB0.out.size; omega
  ·cases h
  ·simp at hy
 ·rintro pre o1 A B ⟨v,h⟩ hk;exact⟨v,h.keep (by have:=H1.out; omega) hk⟩
 case assign=>
  intro l x W K hK
  gi_wp2
  exact hK
 case body=>
  rintro l pre x o1 W ⟨v,hG⟩ hpre hx hoff hsz;have hpl:pre.length+1<=1000000:=by
   have:=hpre.length_le;rw[QU,QT] at this;exact Q4 this HL.out
  obtain⟨va,vn,vc,rfl⟩:=nA hG.own;have hc:=hG.box;have hown:=hG.own;have HG:=Zh hG;have HX:=Zh hx;have HF:=Zh hoff;have HP:Hid _:=hpre;have hbs:=hG.below.size;have hth:=hG.thaw;obtain⟨zh,lC,tH⟩:=x;unfold ah.val;simp only
  gi_wp2_with (gi_at_builtin; refine wpListIn_append_own_at _ rfl _ _ 57 rfl (w.heap.size+1) 22 i0 (.slice none 0 0) 1 24 Tryz.underlying57 hi hz0 hz1 hz2 rfl (by decide) _ _ _ rfl (hown.alloc _) (aD W.heap.size 0) 1 1 [.slice zh tH.length lC] rfl rfl ?q1 ?q2 ?q3 ?q4 ?q5 ?_)
  case q1=>
   intro j u hj
   match j,hj with
   | 0,hj => simp at hj; subst hj; simp[Addr.add]
  case q2=>intro u hu; simp at hu; subst hu; rfl
  case q3=>unfold maxLen; omega
  case q4=>omega
  case q5=>simp; omega
  intro v' w3 hown3 hgrow3 _ Pj;obtain⟨Pk,TQ,Pm,rfl⟩:=nA hown3;have M:=HG.out.more HX.out (fun b hb=>(HF.out b hb).1) (fun b hb=>(HF.out b hb).2.imp id (by have:=H1.out; omega)) (Zc _ _) (by simp) hown3 hgrow3 (by rw[Zd]; exact Pj) rfl;have h1:=H1.out;have hc3:w3.cell? (aD w.heap.size 0)=some (.slice va vn vc):=by
   refine Zr (Zr hc (Zc (s:=fun _=>True) W _) trivial) (Kept.grown (s:=fun b=>(Value.slice va vn vc).ownBlock≠some b) hgrow3 (fun r e hr=>hr e)) ?_;intro e;have:=(lU HG.out.own e).1;exact absurd this (by show ¬ (w.heap.size+1<=w.heap.size); omega)
  have hf3:w3.frozen? (aD w.heap.size 0)=false:=by
   refine (ZB (Eq.trans (hgrow3.block _ (by simp; omega) ?_) (Below.heap_alloc W _ _ (by show w.heap.size<_; omega)))).trans hth;intro e;have:=(lU HG.out.own e.symm).1;exact absurd this (by show ¬ (w.heap.size+1<=w.heap.size); omega)
  have HM:=Zh M
  gi_wp2
  obtain⟨m1,m2,m3⟩:=HM.out;refine⟨_,⟨_,m1⟩,m2,fun b hb=>?_⟩;rcases m3 b hb with h | h | ⟨h,h'⟩
  ·exact .inl h
  ·exact .inr (.inl h)
  ·refine .inr (.inr ⟨h,?_⟩);rcases (HF.out b h).2 with h'' | h''
   ·have:=HB0.out.size; omega
   ·exact h''
 case done=>
  rintro ys o' W2 hys ⟨v,hG⟩ hk2 hg2 hD;have hc:=hG.box;have h1:=H1.out
  gi_wp2
  have hnD:¬ o' w1.heap.size:=fun h=>by
   rcases hg2 _ h with (h | h | ⟨_,y,hy,_⟩) | h
   ·omega
   ·cases h
   ·simp at hy
   ·omega
  refine⟨by simp,.inl ⟨_,_,rfl,Zu hD,?_⟩⟩;refine⟨_,results_tmp rfl _ _ _,v,ys,o',rfl,hys,hG.keep (n:=w1.heap.size) (by omega) (Za _ _ ?_)⟩;rintro (h | h)
  ·exact hnD h
  ·omega
end
def Zv:=@Kept.setCell
def Zw:=@Kept.grown
def Zx:=@oD
def Zy:=@lU
def ZA:=@nA
def dQ (rs:List ah):List Int:=(rs.map (·.xs)).flatten
theorem zG {rs:List ah} {k:Nat} (hk:k<rs.length):dQ (rs.take (k+1))=dQ (rs.take k)++(rs.getD k iz).xs:=by
 unfold dQ;rw[<- rM rs iz hk,Ql,List.flatten_append];simp
theorem Gx {rs:List ah} {k:Nat}:(dQ (rs.take k)).length<=(dQ rs).length:=by
 have h:dQ rs=dQ (rs.take k)++dQ (rs.drop k):=by
  unfold dQ;rw[<- List.flatten_append,<- Ql,List.take_append_drop]
 rw[h,QT];omega
theorem au.keep {A B:World} {ao:Option Addr} {xs:List Int} (h:au A ao xs) (hb:∀ a,ao=some a->a.block<A.heap.size->B.heap[a.block]? = A.heap[a.block]?):au B ao xs:=⟨h.1,h.2.keep hb⟩
def Tryz.Pn:Go.Shelf.Ren:=⟨fun | 4=>137 | n=>n,fun | 22=>22 | 25=>3 | 3=>3 | 4=>4 | 9=>9 | 20=>20 | 0=>0 | n=>n,fun | n=>n⟩
theorem Tryz.acw:Go.Proofs.Lays8.n4 Tryz.prog Tryz.Pn:={
 mixed:=by kernel_rfl
 f4:=⟨Tryz.f137.name,by decide,Tryz.func137.trans (congrArg some (by kernel_rfl))⟩
 t0:=Tryz.underlying0
 a0:=Tryz.isAgg0
 z0:=Tryz.sizeOf0
 v0:=Tryz.zeroValue0
 t3:=Tryz.underlying3
 a3:=Tryz.isAgg3
 z3:=Tryz.sizeOf3
 v3:=Tryz.zeroValue3
 t4:=Tryz.underlying4
 a4:=Tryz.isAgg4
 z4:=Tryz.sizeOf4
 v4:=Tryz.zeroValue4
 t9:=Tryz.underlying9
 a9:=Tryz.isAgg9
 z9:=Tryz.sizeOf9
 v9:=Tryz.zeroValue9
 t20:=Tryz.underlying20
 a20:=Tryz.isAgg20
 z20:=Tryz.sizeOf20
 v20:=Tryz.zeroValue20
 t22:=Tryz.underlying22
 a22:=Tryz.isAgg22
 z22:=Tryz.sizeOf22
 v22:=Tryz.zeroValue22 }
theorem Tryz.iZ:(Tryz.prog.info? 3).map (fun i=>(i.zero,i.size,i.bytes))=some (some (.int .i64 0),1,8):=by kernel_rfl
theorem Ur (n:Nat) (w:World) (hn:n<=1000000) :
  Calls Tryz.prog 137 #[.slice none 0 0,.int .i64 n] w fun e w'=>∃ v,e=.returned v/\w'.ownsRow w.heap.size 3 1 v 0 []/\Below w.heap.size w w':=by
 obtain⟨i0,hi,hz0,hz1,hz2⟩:=ZC Tryz.iZ;by_cases h0:n=0
 ·subst h0;have h:=Any8.slices_Grow_room Tryz.acw none 0 0 0 w (Qq _) (by omega) (by omega) (by omega);change Calls Tryz.prog 137 _ _ _ at h;refine h.mono ?_;rintro e w' ⟨rfl,rfl⟩;exact⟨_,rfl,ZE _ _ _ _,Qp _ _⟩
 ·have h:=Any8.slices_Grow_grow Tryz.acw i0 (.int .i64 0) hi hz0 (by rw[hz1]; decide) none 0 0 n [] w (Qq _) (by omega) (by rw[hz2]; omega) (by omega) (by simp) (fun _=>rfl) (fun a e=>by cases e);change Calls Tryz.prog 137 _ _ _ at h;refine h.mono ?_;rintro e w' ⟨rfl,rfl⟩;refine⟨_,rfl,⟨by simp,.inr ⟨w.heap.size,_,_,rfl,Qq _,kG w.drew _,QQ _,?_,?_,by simp⟩⟩,?_⟩
  ·exact grownCap_le_maxLen _ _ _ _ (by unfold maxLen; omega)
  ·have hge:=grownCap_ge w (0+n) 0 3;have hz:(Value.int .i64 0).cells.size=1:=rfl;simp only[Array.size_append,size_zeroCells,hz,Zj,Zk]
   show 0+(0+n-0)*1+(grownCap w (0+n) 0 3-(0+n))*1=grownCap w (0+n) 0 3*1
   omega
  ·exact (Qp _ w).drew.alloc (Qq _) _
theorem zH (ao:Option Addr) (cap:Nat) (rs:List ah) (w:World) (hr:tC w ao rs) (hn:rs.length<=1000) (hnil:∀ i,i<rs.length->(rs.getD i iz).ad=none->(rs.getD i iz).cap=0) (ht:(dQ rs).length<=100000) :
  Calls Tryz.prog 84 #[.slice ao rs.length cap] w fun e w'=>∃ v,e=.returned v/\w'.ownsRow w.heap.size 3 1 v (dQ rs).length ((dQ rs).map (Value.int .i64))/\Below w.heap.size w w':=by
 obtain⟨i0,hi,hz0,hz1,hz2⟩:=ZC Tryz.iZ;have HR:Hid _:=hr;have HN:=Zh hnil;have HT:=Zh ht;clear hr hnil ht;go_enter Tryz.func84,Tryz.ntmps84;go_wp2;go_loopw [3,11] (fun s i wr=>∃ k:Nat,k<=rs.length/\i=.int .i64 k/\s=.int .i64 (dQ (rs.take k)).length/\w=wr) (fun _ i _=>rs.length-(intOf i).toNat)
 case atStart=>exact⟨0,QQ _,rfl,rfl,rfl⟩
 case round=>
  obtain⟨k,hk,rfl,rfl,rfl⟩:=hrel;by_cases hlt:k<rs.length
  ·obtain⟨b,off,rfl,hcs⟩:=HR.out.2.1.get hlt;have hck:=hcs k hlt;have hle:(dQ (rs.take (k+1))).length<=100000:=Q4 Gx HT.out;have hsc:(dQ (rs.take (k+1))).length=(dQ (rs.take k)).length+(rs.getD k iz).xs.length:=by rw[zG hlt,QT]
   have HS:=Zh hsc;generalize rs.getD k iz=x at *;obtain⟨zh,lC,tH⟩:=x;have Po:w.cell? (aD b (off+k))=some (.slice zh tH.length lC):=hck;have hw:wrap64 (((dQ (rs.take k)).length:Int)+(tH.length:Int))=(((dQ (rs.take k)).length+tH.length:Nat):Int):=by
    simp only at hsc;unfold wrap64; omega
   have hng:¬ ((((dQ (rs.take k)).length+tH.length:Nat):Int)<0):=by omega
   have HWr:=Zh hw;clear hck hcs hle hsc;generalize (dQ (rs.take k)).length=a at *;go_wp2;go_roundw
   case rel=>exact⟨k+1,by omega,by go_num,by rw[HS.out]; exact congrArg (Value.int .i64) HWr.out,trivial⟩
   case measure=>simp[intOf]; omega
  ·have hkk:k=rs.length:=by omega
   subst hkk;rw[Qt];have ht:=HT.out;generalize hfl:dQ rs=fl at *;have HF:=Zh hfl;clear hfl;go_wp2_with fail;refine (Ur fl.length w (by omega)).mono ?_;rintro e w2 ⟨v0,rfl,hown0,hb0⟩;go_wp2;go_loopw [6,27] (fun v i wr=>∃ k:Nat,k<=rs.length/\i=.int .i64 k/\wr.ownsRow w.heap.size 3 1 v (dQ (rs.take k)).length ((dQ (rs.take k)).map (Value.int .i64))/\Below w.heap.size w wr) (fun _ i _=>rs.length-(intOf i).toNat)
   case atStart=>exact⟨0,QQ _,rfl,hown0,hb0⟩
   case round=>
    obtain⟨k,hk,rfl,hown,hbs⟩:=hrel;by_cases hlt:k<rs.length
    ·obtain⟨b,off,rfl,hcs⟩:=HR.out.2.1.get hlt;have hck:=(cB hbs (hcs k hlt))
     have hat:(rs.getD k iz).At wr:=Qo hbs (HR.out.2.2 k hlt);have hni:=HN.out k hlt;have hle:(dQ (rs.take (k+1))).length<=100000:=by
      have h1:(dQ (rs.take (k+1))).length<=(dQ rs).length:=Gx;rw[HF.out] at h1;omega
     have hfs:=zG hlt;have HFS:=Zh hfs;rw[hfs,QT] at hle;generalize rs.getD k iz=x at *;obtain⟨zh,lC,tH⟩:=x;simp only at hni hle;have Po:wr.cell? (aD b (off+k))=some (.slice zh tH.length lC):=hck;have HA:Hid _:=hat;clear hck hcs hfs hat;generalize dQ (rs.take k)=fk at *;have hsz:=hbs.size
     cases zh with
     | none =>
      have hx0:tH=[]:=by
       cases tH with
       | nil => rfl
       | cons a l => obtain⟨b,off,e,_⟩:=HA.out.2 0 (by simp); cases e
      subst hx0;obtain rfl:=hni rfl;go_wp2_with (first | (at_builtin; refine wpList_append_own_none rfl _ _ 22 rfl w.heap.size 3 i0 1 Tryz.underlying22 hi _ _ _ rfl hown rfl ?_));go_wp2;go_roundw
      case rel=>exact⟨k+1,by omega,by go_num,by rw[HFS.out]; simpa using hown,hbs⟩
      case measure=>simp[intOf]; omega
     | some xa =>
      have HQ0:Hid ((tH.map (Value.int .i64)).length=tH.length*1):=by show _=_; simp
      have HQ:Hid (∀ j u,(tH.map (Value.int .i64))[j]? = some u->wr.cell? (xa.add j)=some u):=by
       intro j u hj;have hjl:j<tH.length:=by
        have:=(ZF.1 hj).1
        simpa using this
       obtain⟨b2,adq,e2,hc2⟩:=HA.out.2 j hjl
       cases e2
       rw[QW,ZG hjl] at hj
       cases hj
       have hc3:=hc2;simp only[List.getD,ZG hjl,Option.getD_some] at hc3;have ha:((aD b2 adq):Addr).add j=(aD b2 (adq+j)):=by
        unfold Addr.add;split
        ·simp_all
        ·rfl
       rw[ha];exact hc3
      have HQ2:Hid (∀ u∈tH.map (Value.int .i64),u.oneCell' = true):=by intro u hu; obtain⟨a,_,rfl⟩:=Q0.1 hu; rfl
      go_wp2_with (first | (at_builtin; refine wpList_append_own _ rfl _ _ 22 rfl w.heap.size 3 i0 (.int .i64 0) 1 8 Tryz.underlying22 hi hz0 hz1 hz2 rfl (by decide) _ _ _ rfl hown xa tH.length lC (tH.map (Value.int .i64)) rfl HQ0.out HQ.out HQ2.out (by unfold maxLen; omega) (by omega) hsz ?_));intro v' w1 hown1 hgrow1 _;have hb1:=hbs.grown hgrow1 hsz (fun j hj=>(hown.lt j hj).1);have HO:Hid _:=hown1;clear hown1 hgrow1 hown;go_wp2;go_roundw
      case rel=>exact⟨k+1,by omega,by go_num,by rw[HFS.out,QT,Ql]; exact HO.out,hb1⟩
      case measure=>simp[intOf]; omega
    ·have hkk:k=rs.length:=by omega
     subst hkk;rw[Qt,HF.out] at hown;go_wp2;go_ret;refine⟨_,rfl,?_,hbs⟩;rw[HF.out];exact hown
section
theorem jH {w:World} {base:Nat} {e:TypeId} {v:Value} {n:Nat} {xs:List Int} (h:w.ownsRow base e 1 v n (xs.map (Value.int .i64))) (hl:xs.length<=1152921504606846976) :
  ∃ iv:ah,v=iv.val/\iv.xs=xs/\bC.At iv w/\∀ b,bC.blk iv=some b->base<=b:=by
 have hn:xs.length=n:=by have:=h.1; simpa using this
 rcases h.2 with⟨rfl,h0⟩ | ⟨g,cap,cur,rfl,hb,hh,_,_,hcs,ht⟩
 ·have:xs=[]:=Qz (by omega);subst this;exact⟨⟨none,0,[]⟩,rfl,rfl,⟨⟨by simp,fun i hi=>absurd hi (by simp)⟩,(fun a ha=>by cases ha),fun _=>rfl⟩,fun b hb=>by cases hb⟩
 ·refine⟨⟨some (aD g 0),cap,xs⟩,by rw[<- hn]; rfl,rfl,⟨⟨hl,fun i hi=>⟨g,0,rfl,?_⟩⟩,fun a ha=>?_,fun e=>by cases e⟩,fun b hb'=>?_⟩
  ·have h2:(cur.toList.take (n*1))[i]? = some (Value.int .i64 (xs.getD i 0)):=by
    rw[ht];have hi':i<xs.length:=hi;simp[List.getD,hi']
   have h3:cur[i]? = some (Value.int .i64 (xs.getD i 0)):=by
    rw[ZH] at h2;split at h2
    ·simpa using h2
    ·cases h2
   simp only[World.cell?,hh]
   simpa using h3
  ·cases ha; exact (QI.1 hh).1
  ·cases hb'; exact hb
attribute [local go_sem] Oper.semAt_some
end
section
variable {α κ:Type} (E:El α κ)
def ahI (P:Program) (g:Nat) (s:Value) (rows:List κ) (w0:World):Prop:=
 ∀ (l:Nat) (J:List α->(Nat->Prop)->World->Prop) (W:World) (o:Nat->Prop),
  Below w0.heap.size w0 W->(∀ b,o b->w0.heap.size<=b/\b<W.heap.size)->
  (∀ pre o1 A B,J pre o1 A->Kept (fun b=>o1 b∨b<W.heap.size) A B->J pre o1 B)->
  (∀ pre x o1 W1,J pre o1 W1->(pre++[x]).map E.key <+: rows->E.At x W1->(∀ b,E.blk x=some b->¬ o1 b/\(b<w0.heap.size∨W.heap.size<=b))->W.heap.size<=W1.heap.size->
   YieldAt Fence.wide 0 P l #[E.enc x] W1 fun e W'=>e=.returned (.bool true)/\∃ o2,J (pre++[x]) o2 W'/\Kept (fun b=>¬ o1 b) W1 W'/\
    ∀ b,o2 b->o1 b∨(W1.heap.size<=b/\b<W'.heap.size)∨(E.blk x=some b/\W.heap.size<=b))->
  J [] o W->
  Calls P g #[s,.func (.yield l) #[] #[]] W fun e W'=>(∃ v,e=.returned v)/\∃ ys o',ys.map E.key=rows/\J ys o' W'/\Kept (fun b=>¬ o b) W W'/\
   ∀ b,o' b->o b∨(W.heap.size<=b/\b<W'.heap.size)
theorem rT {P:Program} {g:Operand} {ps:Array Tmp} {assign body:Code} {Q:Exit->Act->World->Prop} {a:Act} {w:World}
  {gf:Nat} {s:Value} (hg:a.eval g=.func (.func gf) #[s] #[]) (eg:∀ args w,(callFunc gf args).run P w=.ok (.enter gf args) w)
  {rows:List κ} {w0:World} (hseq:ahI E P gf s rows w0) (hb0:Below w0.heap.size w0 w) (hps:ps.size=1)
  (I:List α->(Nat->Prop)->World->Prop) (o:Nat->Prop) (ho:∀ b,o b->w0.heap.size<=b/\b<w.heap.size)
  (hI:∀ pre o1 A B,I pre o1 A->Kept (fun b=>o1 b∨b<w.heap.size) A B->I pre o1 B) (h0:I [] o w) (a₁:α->Act)
  (hassign:∀ (l:Nat) (x:α) (W:World) (K:Act->World->Prop),K (a₁ x) W->
   assign.wpIn (Fence.wide.inRound l) 0 P (Exit.then K (fun _ _ _=>False)) { tmps:=(ps.zip #[E.enc x]).foldl (fun t (p,v)=>t.setIfInBounds p v) a.tmps,defers:=[] } W)
  (hbody:∀ (l:Nat) (pre:List α) (x:α) (o1:Nat->Prop) (W:World),I pre o1 W->(pre++[x]).map E.key <+: rows->E.At x W->
   (∀ b,E.blk x=some b->¬ o1 b/\(b<w0.heap.size∨w.heap.size<=b))->w.heap.size+2<=W.heap.size->
   body.wpIn (Fence.wide.inRound l) 0 P (oC E I pre x w.heap.size o1 W) (a₁ x) W)
  (hdone:∀ (ys:List α) (o':Nat->Prop) (W:World),ys.map E.key=rows->I ys o' W->Kept (fun b=>¬ o b) w W->(∀ b,o' b->(o b∨(w.heap.size+2<=b/\b<W.heap.size)))->
   W.heap[w.heap.size]? = some (.deferred (some []))->Q .normal { a with defers:={ target:=.collected w.heap.size,args:=#[] } :: a.defers } W) :
  (Code.rangeFunc g ps assign body).wpIn Fence.wide 0 P Q a w:=by
 refine wpIn_rangeFunc ?_;intro fn hfn;obtain⟨rec,hrec⟩:∃ rec:LoopState->Option Code->Loop,rec=fun st pe=>{ state:=st,pending:=pe,fn,tmps:=a.tmps,params:=ps,assign,body,defers:=w.heap.size }:=⟨_,rfl⟩
 obtain⟨W1,hW1⟩:∃ W1,(w.alloc (.deferred (some []))).alloc (.loop (rec .ready none))=W1:=⟨_,rfl⟩
 have hs1:W1.heap.size=w.heap.size+2:=by rw[<- hW1]; simp
 have hL1:W1.heap[w.heap.size+1]? = some (.loop (rec .ready none)):=by
  rw[<- hW1]; have:=World.alloc_heap_new (w.alloc (.deferred (some []))) (.loop (rec .ready none)); rwa [Zd] at this
 have hD1:W1.heap[w.heap.size]? = some (.deferred (some [])):=by
  rw[<- hW1]; exact (Below.heap_alloc _ _ _ (by simp)).trans (World.alloc_heap_new w _)
 have hk1:∀ s,Kept s w W1:=fun s=>by rw[<- hW1]; exact (Zc _ _).trans (Zc _ _)
 have hbw:=hb0.trans ((hk1 (fun _=>True)).below hb0.size (fun _ _=>trivial));refine⟨w.heap.size+1,[{ target:=.collected w.heap.size,args:=#[] }],W1,{ target:=.fn (.func gf) #[],args:=#[s,.func (.yield (w.heap.size+1)) #[] #[]] },W1,gf,
  #[s,.func (.yield (w.heap.size+1)) #[] #[]],W1,?_,?_,?_,?_,fun h=>by simp[Fence.wide] at h,?_⟩
 ·rw[<- hW1,hrec]; exact run_enterLoop_outer _ _ _ _ _
 ·simp only[resolve,hg];simp[go_sem]
 ·intro f' _; trivial
 ·simp[invoke,go_sem,eg]
 ·refine Ze.2 ((hseq (w.heap.size+1)
   (fun pre o' W=>∃ o1,I pre o1 W/\(∀ b,o' b↔o1 b∨b=w.heap.size∨b=w.heap.size+1)/\¬ o1 w.heap.size/\¬ o1 (w.heap.size+1)/\
    W.heap[w.heap.size+1]? = some (.loop (rec .ready none))/\W.heap[w.heap.size]? = some (.deferred (some [])))
   W1 (fun b=>o b∨b=w.heap.size∨b=w.heap.size+1) hbw ?_ ?_ ?_ ?_).mono ?_)
  ·rintro b (hb | rfl | rfl)
   ·exact⟨(ho b hb).1,by have:=(ho b hb).2; omega⟩
   ·exact⟨hb0.size,by omega⟩
   ·exact⟨by have:=hb0.size; omega,by omega⟩
  ·rintro pre o' A B ⟨o1,hi,ho',hn,hn',hl,hd⟩ hk;have hlA:=(QI.1 hl).1;have hdA:=(QI.1 hd).1;refine⟨o1,hI pre o1 A B hi (hk.mono fun b _ hb=>?_),ho',hn,hn',(hk.block _ hlA (.inl ((ho' _).2 (.inr (.inr rfl))))).trans hl,(hk.block _ hdA (.inl ((ho' _).2 (.inr (.inl rfl))))).trans hd⟩;rcases hb with hb | hb
   ·exact .inl ((ho' b).2 (.inl hb))
   ·exact .inr (by omega)
  ·rintro pre x o' W ⟨o1,hi,ho',hn,hn',hl,hd⟩ hpre hx hoff hsz;have hlt:=(QI.1 hl).1;have hlt':w.heap.size<W.heap.size:=by omega
   have hy:=run_yield (P:=P) (args:=#[E.enc x]) hl (by rw[hrec]; exact hps.symm);rw[hrec] at hy;refine⟨fn,_,assign,body,hy,roundIn_of_wpIn hfn (hassign _ x W _ ⟨_,run_beginRound hl (by rw[hrec]),?_⟩)⟩;obtain⟨W2,hW2⟩:∃ W2,W.putObj (w.heap.size+1) (.loop { rec .ready none with state:=.busy })=W2:=⟨_,rfl⟩
   have hk2:Kept (fun b=>b≠w.heap.size+1) W W2:=by rw[<- hW2]; exact Za _ _ (fun h=>h rfl)
   have hl2:W2.heap[w.heap.size+1]? = some (.loop { rec .ready none with state:=.busy }):=by rw[<- hW2]; exact World.putObj_heap_same hlt
   have hd2:=(hk2.block _ hlt' (by omega)).trans hd;have hs2:W2.heap.size=W.heap.size:=by rw[<- hW2]; simp
   have hI2:=hI pre o1 W W2 hi (hk2.mono fun b _ hb=>by
    rcases hb with hb | hb
    ·intro e; exact hn' (e ▸ hb)
    ·omega)
   have hx2:=E.keep hx hk2.size (fun b hb hbx=>hk2.block b hb (fun e=>(hoff b hbx).1 ((ho' b).2 (.inr (.inr e)))));rw[hW2];rw[hrec] at hl2;refine wpIn_mono (hbody _ pre x o1 W2 hI2 hpre hx2 (fun b hb=>⟨fun h=>(hoff b hb).1 ((ho' b).2 (.inl h)),(hoff b hb).2.imp id (by omega)⟩) (by omega)) ?_;rintro e a3 W3 hp
   cases e with
   | normal =>
    obtain⟨o2,hi3,hk3,hg3⟩:=hp;have hl3:W3.heap[w.heap.size+1]? = some (.loop { state:=.busy,pending:=none,fn,tmps:=a.tmps,params:=ps,assign,body,defers:=w.heap.size }):=(hk3.block _ (by omega) hn').trans hl2;have hlt3:=(QI.1 hl3).1;have hd3:=(hk3.block _ (by omega) hn).trans hd2;have hno:∀ b,b=w.heap.size∨b=w.heap.size+1->¬ o2 b:=fun b hb h=>by
     rcases hg3 b h with h | h | ⟨h,_⟩
     ·rcases hb with rfl | rfl
      ·exact hn h
      ·exact hn' h
     ·omega
     ·exact (hoff b h).1 ((ho' b).2 (.inr hb))
    refine⟨_,_,run_endRound none hl3,rfl,fun b=>o2 b∨b=w.heap.size∨b=w.heap.size+1,⟨o2,hI _ o2 W3 _ hi3 (Za _ _ ?_),fun b=>Iff.rfl,hno _ (.inl rfl),hno _ (.inr rfl),?_,?_⟩,?_,?_⟩
    ·rintro (h | h)
     ·exact hno _ (.inr rfl) h
     ·omega
    ·rw[World.putObj_heap_same hlt3,hrec]; rfl
    ·exact (Zb (by omega)).trans hd3
    ·refine ((hk2.mono ?_).trans' (hk3.mono ?_) (fun _ _ h=>h)).trans (Za _ _ ?_)
     ·intro b _ h e; exact h ((ho' b).2 (.inr (.inr e)))
     ·intro b _ h h'; exact h ((ho' b).2 (.inl h'))
     ·intro h; exact h ((ho' _).2 (.inr (.inr rfl)))
    ·rintro b (h | h)
     ·rcases hg3 b h with h | h | h
      ·exact .inl ((ho' b).2 (.inl h))
      ·exact .inr (.inl ⟨by omega,by rw[World.putObj_size]; omega⟩)
      ·exact .inr (.inr ⟨h.1,by
        rcases (hoff b h.1).2 with h' | h'
        ·have:=h.2; have:=hb0.size; omega
        ·exact h'⟩)
     ·exact .inl ((ho' b).2 (.inr h))
   | ret => exact hp.elim
   | exit id => exact hp.elim
   | goto t => exact hp.elim
   | panic ch => exact hp.elim
   | outgrown => exact hp.elim
  ·have hno:∀ b,b=w.heap.size∨b=w.heap.size+1->¬ o b:=fun b hb h=>by have:=(ho b h).2; omega
   exact⟨o,hI _ _ _ _ h0 (hk1 _),fun _=>Iff.rfl,hno _ (.inl rfl),hno _ (.inr rfl),hL1,hD1⟩
  ·rintro e W2 ⟨⟨v,rfl⟩,ys,o',hys,⟨o1,hi,ho',hn,hn',hl,hd⟩,hk,hg⟩;have hlt:=(QI.1 hl).1;refine⟨none,_,by have:=run_endLoop (P:=P) hl (by rw[hrec]; simp); rw[hrec] at this; exact this,hdone ys o1 _ hys (hI _ _ _ _ hi (Za _ _ ?_)) ?_ ?_ ((Zb (by omega)).trans hd)⟩
   ·rintro (h | h)
    ·exact hn' h
    ·omega
   ·refine (Kept.trans' (hk1 _) (hk.mono fun b _ h=>h) ?_).trans (Za _ _ ?_) |>.mono (s:=fun b=>¬ o b/\b<w.heap.size) ?_
    ·rintro b _ ⟨h,hb⟩ (h' | h' | h')
     ·exact h h'
     ·omega
     ·omega
    ·rintro⟨_,h⟩; omega
    ·exact fun b hb h=>⟨h,hb⟩
   ·intro b hb;rcases hg b ((ho' b).2 (.inl hb)) with (h | h | h) | h
    ·exact .inl h
    ·exact absurd (h ▸ hb) hn
    ·exact absurd (h ▸ hb) hn'
    ·exact .inr ⟨by omega,by rw[World.putObj_size]; exact h.2⟩
def jA:El Nat Nat where
 enc k:=.int .i64 (k:Int)
 At _ _:=True
 blk _:=none
 key k:=k
 keep:=fun _ _ _=>trivial
 YD:=fun _ h=>by cases h
end
theorem BQ {fn:Func} {p:Tmp} {ty:TypeId} (h:fn.results=#[.cell p ty]) (tmps:Array Value) (P:Program) (w:World) :
  (results fn tmps).run P w=((asAddr (tmps.getD p undef)).run P w).andThen fun a w₁=>(loadVar ty a).run P w₁:=by
 simp only[results,h];simp[Sem.run_bind,Result.andThen]
theorem iL {fn:Func} {p:Tmp} {ty:TypeId} (h:fn.results=#[.cell p ty]) {tmps:Array Value} {P:Program} {w:World} {B:Nat} {v:Value} (hp:tmps.getD p undef=.pointer (some (aD B 0))) (hl:(loadVar ty (aD B 0)).run P w=.ok v w) :
  (results fn tmps).run P w=.ok v w:=by
 rw[BQ h,hp];simp[go_sem] at hl ⊢;simp[hl]
