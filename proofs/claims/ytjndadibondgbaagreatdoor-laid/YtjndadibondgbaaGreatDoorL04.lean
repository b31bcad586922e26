import Derived.Test.YtjndadibondgbaaGreatDoorL02
import Derived.Test.YtjndadibondgbaaGreatDoorL03
set_option linter.all false
set_option maxRecDepth 100000
set_option maxHeartbeats 16000000
namespace Go.Proofs.Zz
open Go.RowKit Go.Shelf
variable {ps src xs ys:List Int} {a b c:Int} {α:Type} {k:Nat} {p:Nat->Bool} {db:List aN} {ts:List af}
section
variable {α κ:Type} (E:El α κ)
def apu(P:Program)(g:Nat)(s:Value)(rows:List κ)(w0:World):Prop:=
 ∀ (l:Nat) (J:List α->(Nat->Prop)->World->Prop) (W:World) (o:Nat->Prop),
  Bw w0 W->(∀ b,o b->w0.heap.size<=b/\b<W.heap.size)->
  (∀ pre o1 A B,J pre o1 A->Kept (fun b=>o1 b∨b<W.heap.size) A B->J pre o1 B)->
  (∀ pre x o1 W1,J pre o1 W1->(pre++[x]).map E.key <+: rows->E.At x W1->(∀ b,E.blk x=some b->¬ o1 b/\(b<w0.heap.size∨W.heap.size<=b))->W.heap.size<=W1.heap.size->
   YieldAt Fence.wide 0 P l #[E.enc x] W1 fun e W'=>e=.returned (.bool true)/\∃ o2,J (pre++[x]) o2 W'/\Kept (fun b=>¬ o1 b) W1 W'/\
    ∀ b,o2 b->o1 b∨(W1.heap.size<=b/\b<W'.heap.size)∨(E.blk x=some b/\W.heap.size<=b))->
  J [] o W->
  Calls P g #[s,.func (.yield l) #[] #[]] W fun e W'=>(∃ v,e=.returned v)/\∃ ys o',ys.map E.key=rows/\J ys o' W'/\Kept (fun b=>¬ o b) W W'/\
   ∀ b,o' b->o b∨(W.heap.size<=b/\b<W'.heap.size)
theorem JU{P:Program}{g:Operand}{ps:Array Tmp}{assign body:Code}{Q:Exit->Act->World->Prop}{a:Act}{w:World}
  {gf:Nat} {s:Value} (hg:a.eval g=.func (.func gf) #[s] #[]) (eg:∀ args w,(callFunc gf args).run P w=.ok (.enter gf args) w)
  {rows:List κ} {w0:World} (hseq:apu E P gf s rows w0) (hb0:Bw w0 w) (hps:ps.size=1)
  (I:List α->(Nat->Prop)->World->Prop) (o:Nat->Prop) (ho:∀ b,o b->w0.heap.size<=b/\b<w.heap.size)
  (hI:∀ i k A B,I i k A->Kept (fun b=>k b∨b<w.heap.size) A B->I i k B) (h0:I [] o w) (a₁:α->Act)
  (hassign:∀ (l:Nat) (x:α) (W:World) (K:Act->World->Prop),K (a₁ x) W->
   assign.wpIn (Fence.wide.inRound l) 0 P (Exit.then K (fun _ _ _=>False)) { tmps:=(ps.zip #[E.enc x]).foldl (fun t (p,v)=>t.setIfInBounds p v) a.tmps,defers:=[] } W)
  (hbody:∀ (l:Nat) (i:List α) (x:α) (k:Nat->Prop) (W:World),I i k W->(i++[x]).map E.key <+: rows->E.At x W->
   (∀ b,E.blk x=some b->¬ k b/\(b<w0.heap.size∨w.heap.size<=b))->w.heap.size+2<=W.heap.size->
   body.wpIn (Fence.wide.inRound l) 0 P (jl E I i x w.heap.size k W) (a₁ x) W)
  (hdone:∀ (ys:List α) (H:Nat->Prop) (W:World),ys.map E.key=rows->I ys H W->Kept (fun b=>¬ o b) w W->(∀ b,H b->(o b∨(w.heap.size+2<=b/\b<W.heap.size)))->
   W.heap[w.heap.size]? = some (.deferred (some []))->Q .normal { a with defers:={ target:=.collected w.heap.size,args:=#[] } :: a.defers } W) :
  (Code.rangeFunc g ps assign body).wpIn Fence.wide 0 P Q a w:=by
 refine wpIn_rangeFunc ?_;intro fn az;obtain⟨m,j⟩:∃ m:LoopState->Option Code->Loop,m=fun st pe=>{ state:=st,pending:=pe,fn,tmps:=a.tmps,params:=ps,assign,body,defers:=w.heap.size }:=⟨_,rfl⟩
 obtain⟨z,y⟩:∃ z,(w.alloc (.deferred (some []))).alloc (.loop (m .ready none))=z:=⟨_,rfl⟩
 have aB:z.heap.size=w.heap.size+2:=by rw[<- y]; simp
 have ae:z.heap[w.heap.size+1]? = some (.loop (m .ready none)):=by
  rw[<- y]; have:=World.alloc_heap_new (w.alloc (.deferred (some []))) (.loop (m .ready none)); rwa [QY]at this
 have af:z.heap[w.heap.size]? = some (.deferred (some [])):=by
  rw[<- y]; exact(Below.heap_alloc _ _ _ (by simp)).trans (World.alloc_heap_new w _)
 have G:∀ s,Kept s w z:=fun s=>by rw[<- y]; exact(QX _ _).trans (QX _ _)
 have ag:=hb0.trans ((G (fun _=>True)).below hb0.size (fun _ _=>trivial));refine⟨w.heap.size+1,[{ target:=.collected w.heap.size,args:=#[] }],z,{ target:=.fn (.func gf) #[],args:=#[s,.func (.yield (w.heap.size+1)) #[] #[]] },z,gf,
  #[s,.func (.yield (w.heap.size+1)) #[] #[]],z,?_,?_,?_,?_,fun h=>by simp[Fence.wide]at h,?_⟩
 ·rw[<- y,j]; exact run_enterLoop_outer _ _ _ _ _
 ·simp only[resolve,hg];simp[go_sem]
 ·intro f' _; trivial
 ·simp[invoke,go_sem,eg]
 ·refine QZ.2 ((hseq (w.heap.size+1)
   (fun i H W=>∃ k,I i k W/\(∀ b,H b↔k b∨b=w.heap.size∨b=w.heap.size+1)/\¬ k w.heap.size/\¬ k (w.heap.size+1)/\
    W.heap[w.heap.size+1]? = some (.loop (m .ready none))/\W.heap[w.heap.size]? = some (.deferred (some [])))
   z (fun b=>o b∨b=w.heap.size∨b=w.heap.size+1) ag ?_ ?_ ?_ ?_).mono ?_)
  ·rintro b (f | rfl | rfl)
   ·exact⟨(ho b f).1,by have:=(ho b f).2; omega⟩
   ·exact⟨hb0.size,by omega⟩
   ·exact⟨by have:=hb0.size; omega,by omega⟩
  ·rintro i H A B ⟨k,X,d,L,n,C,M⟩ Y;have ah:=(QO.1 C).1;have ai:=(QO.1 M).1;refine⟨k,hI i k A B X (Y.mono fun b _ f=>?_),d,L,n,(Y.block _ ah (.inl ((d _).2 (.inr (.inr rfl))))).trans C,(Y.block _ ai (.inl ((d _).2 (.inr (.inl rfl))))).trans M⟩;rcases f with f | f
   ·exact .inl ((d b).2 (.inl f))
   ·exact .inr (by omega)
  ·rintro i x H W ⟨k,X,d,L,n,C,M⟩ Z hx q aD;have R:=(QO.1 C).1;have S:w.heap.size<W.heap.size:=by omega
   have hy:=run_yield (P:=P) (args:=#[E.enc x]) C (by rw[j]; exact hps.symm);rw[j]at hy;refine⟨fn,_,assign,body,hy,roundIn_of_wpIn az (hassign _ x W _ ⟨_,run_beginRound C (by rw[j]),?_⟩)⟩;obtain⟨N,D⟩:=eX (W.putObj (w.heap.size+1) (.loop { m .ready none with state:=.busy }))
   have u:Kept (fun b=>b≠w.heap.size+1) W N:=by rw[<- D]; exact QV _ _ (fun h=>h rfl)
   have T:N.heap[w.heap.size+1]? = some (.loop { m .ready none with state:=.busy }):=by rw[<- D]; exact World.putObj_heap_same R
   have aj:=(u.block _ S (by omega)).trans M;have aC:N.heap.size=W.heap.size:=by rw[<- D]; simp
   have ak:=hI i k W N X (u.mono fun b _ f=>by
    rcases f with f | f
    ·intro e; exact n (e ▸ f)
    ·omega)
   have au:=E.keep hx u.size (fun b f aA=>u.block b f (fun e=>(q b aA).1 ((d b).2 (.inr (.inr e)))));rw[D];rw[j]at T;refine wpIn_mono (hbody _ i x k N ak Z au (fun b f=>⟨fun h=>(q b f).1 ((d b).2 (.inl h)),(q b f).2.imp id (by omega)⟩) (by omega)) ?_;rintro e a3 W3 O
   cases e with
   | normal =>
    obtain⟨o2,ax,J,aa⟩:=O;have U:W3.heap[w.heap.size+1]? = some (.loop { state:=.busy,pending:=none,fn,tmps:=a.tmps,params:=ps,assign,body,defers:=w.heap.size }):=(J.block _ (by omega) n).trans T;have V:=(QO.1 U).1;have av:=(J.block _ (by omega) L).trans aj;have r:∀ b,b=w.heap.size∨b=w.heap.size+1->¬ o2 b:=fun b f h=>by
     rcases aa b h with h | h | ⟨h,_⟩
     ·rcases f with rfl | rfl
      ·exact L h
      ·exact n h
     ·omega
     ·exact(q b h).1 ((d b).2 (.inr f))
    refine⟨_,_,run_endRound none U,rfl,fun b=>o2 b∨b=w.heap.size∨b=w.heap.size+1,⟨o2,hI _ o2 W3 _ ax (QV _ _ ?_),fun b=>Iff.rfl,r _ (.inl rfl),r _ (.inr rfl),?_,?_⟩,?_,?_⟩
    ·rintro (h | h)
     ·exact r _ (.inr rfl) h
     ·omega
    ·rw[World.putObj_heap_same V,j]; rfl
    ·exact(QW (by omega)).trans av
    ·refine((u.mono ?_).trans' (J.mono ?_) (fun _ _ h=>h)).trans (QV _ _ ?_)
     ·intro b _ h e; exact h ((d b).2 (.inr (.inr e)))
     ·intro b _ h F; exact h ((d b).2 (.inl F))
     ·intro h; exact h ((d _).2 (.inr (.inr rfl)))
    ·rintro b (h | h)
     ·rcases aa b h with h | h | h
      ·exact .inl ((d b).2 (.inl h))
      ·exact .inr (.inl ⟨by omega,by rw[Q0]; omega⟩)
      ·exact .inr (.inr ⟨h.1,by
        rcases (q b h.1).2 with F | F
        ·have:=h.2; have:=hb0.size; omega
        ·exact F⟩)
     ·exact .inl ((d b).2 (.inr h))
   | ret => exact O.elim
   | exit id => exact O.elim
   | goto t => exact O.elim
   | panic ch => exact O.elim
   | outgrown => exact O.elim
  ·have r:∀ b,b=w.heap.size∨b=w.heap.size+1->¬ o b:=fun b f h=>by have:=(ho b h).2; omega
   exact⟨o,hI _ _ _ _ h0 (G _),fun _=>Iff.rfl,r _ (.inl rfl),r _ (.inr rfl),ae,af⟩
  ·rintro e N ⟨⟨v,rfl⟩,ys,H,ay,⟨k,X,d,L,n,C,M⟩,Y,hg⟩;have R:=(QO.1 C).1;refine⟨none,_,by have:=run_endLoop (P:=P) C (by rw[j]; simp); rw[j]at this; exact this,hdone ys k _ ay (hI _ _ _ _ X (QV _ _ ?_)) ?_ ?_ ((QW (by omega)).trans M)⟩
   ·rintro (h | h)
    ·exact n h
    ·omega
   ·refine(Kept.trans' (G _) (Y.mono fun b _ h=>h) ?_).trans (QV _ _ ?_) |>.mono (s:=fun b=>¬ o b/\b<w.heap.size) ?_
    ·rintro b _ ⟨h,f⟩ (F | F | F)
     ·exact h F
     ·omega
     ·omega
    ·rintro⟨_,h⟩; omega
    ·exact fun b f h=>⟨h,f⟩
   ·intro b f;rcases hg b ((d b).2 (.inl f)) with (h | h | h) | h
    ·exact .inl h
    ·exact absurd (h ▸ f) L
    ·exact absurd (h ▸ f) n
    ·exact .inr ⟨by omega,by rw[Q0]; exact h.2⟩
def qY:El Nat Nat where
 enc k:=.int .i64 (k:Int)
 At _ _:=True
 blk _:=none
 key k:=k
 keep:=fun _ _ _=>trivial
 sV:=fun _ h=>by cases h
end
theorem Kept.drewN{s:Nat->Prop}(W:World)(n:Nat):Kept s W (W.drewN n):=QU (ZF (Qr W.heap.size W) n) (fun _ a _=>a)
theorem GB.alloc(w:World)(c:Array Value)(t:TypeId):GB (w.alloc (.cells c t)) w.heap.size t c:=lZ w _
theorem GB.keep{w w':World}{G:Nat}{t:TypeId}{c:Array Value}{s:Nat->Prop}(h:GB w G t c)(hk:Kept s w w')(hs:s G):GB w' G t c:=h.of (hk.block G h.lt hs)
theorem Kept.bY{s:Nat->Prop}{A B:World}(h:Kept s A B){G i:Nat}(hG:A.heap.size<=G)(v:Value):Kept s A (B.setCell (aD G i) v):=
 ⟨h.os,h.tape,h.output,by have:=h.size; simp[World.setCell]; omega,fun k a b=>(Below.heap_setCell B _ _ k (by show k≠G; omega)).trans (h.block k a b)⟩
def ZE:=@Kept.drewN
def ZG:=@GB.alloc
def ZH:=@GB.keep
def vP(v:Int):Bool:=decide (v=1073741824) || (decide (-1000<=v)&&decide (v<=1000))
def yV(xs:List Int)(n:Int):Bool:=decide ((xs.length:Int)=n)&&xs.all vP
def Dz(rs:List aa)(n:Int):Bool:=rs.all fun r=>yV r.xs n
def xN(d:aN)(t:af):Bool:=decide (d.rs.length<=50)&&Dz d.rs t.cols
def tJ(ts:List af)(db:List aN):Bool:=(List.range db.length).all fun i=>xN (db.getD i rz) (ts.getD i tz)
def gm(src:List Int)(db:List aN):Nat:=src.foldl (fun n t=>n*max 1 (db.getD t.toNat rz).rs.length) 1
def nW(ts:List af)(src:List Int)(db:List aN):Bool:=decide (db.length=ts.length)&&tJ ts db&&decide (gm src db<=20000)
theorem Nn{p:α->Bool}{l:List α}{d:α}(hk:k<l.length)(h:p (l.getD k d)=false):l.all p=false:=by
 rw[Qj];have e:l.getD k d=l[k]:=by simp[List.getD,hk]
 rw[e]at h;exact⟨l[k],Qk hk,by rw[h]; simp⟩
theorem Ig{p:α->Bool}{l:List α}{d:α}(hk:k<l.length)(hp:(l.take k).all p=true)(h:p (l.getD k d)=true):(l.take (k+1)).all p=true:=by
 have e:l.getD k d=l[k]:=by simp[List.getD,hk]
 rw[e]at h;rw[Qm hk,List.all_append,hp,XE,List.all_nil,h];rfl
theorem ae9{n:Int}(h:yV xs n=true):(xs.length:Int)=n/\xs.all vP=true:=by
 unfold yV at h;simp only[Qo,QE]at h;exact h
theorem FT{n:Nat}(hk:k<n)(h:p k=false):(List.range n).all p=false:=by
 rw[Qj];exact⟨k,by simpa using hk,by rw[h]; simp⟩
theorem DC(hp:(List.range k).all p=true)(h:p k=true):(List.range (k+1)).all p=true:=by
 rw[Xa,List.all_append,hp,XE,List.all_nil,h];rfl
theorem DD(hk:k<src.length):gm (src.take (k+1)) db=gm (src.take k) db*max 1 (db.getD src[k].toNat rz).rs.length:=by
 unfold gm;rw[Qm hk,ZZ];rfl
theorem Kj(h:tJ ts db=true)(i:Nat):(db.getD i rz).rs.length<=50:=by
 by_cases a:i<db.length
 ·unfold tJ at h;rw[Qp]at h;have:=h i (by simpa using a);unfold xN at this;simp only[Qo,QE]at this;exact this.1
 ·have:db.getD i rz=rz:=by simp[List.getD,a]
  rw[this];decide
theorem abP(h:tJ ts db=true):gm src db<=50 ^ src.length:=by
 unfold gm;have b:∀ (l:List Int) (n:Nat),l.foldl (fun n t=>n*max 1 (db.getD t.toNat rz).rs.length) n<=n*50 ^ l.length:=by
  intro l
  induction l with
  | nil => intro n; simp
  | cons a l ih =>
   intro n;refine QS (ih _) ?_;have e:=Kj h a.toNat;have d:max 1 (db.getD a.toNat rz).rs.length<=50:=by omega
   rw[Q7,Nat.pow_succ,Nat.mul_comm (50 ^ l.length) 50,<- Nat.mul_assoc];exact Nat.mul_le_mul_right _ (Nat.mul_le_mul_left _ d)
 have:=b src 1;omega
theorem Np(h:tJ ts db=true)(hs:src.length<=5):gm src db<=312500000:=by
 have a:=abP (src:=src) h;have b:(50:Nat) ^ src.length<=50 ^ 5:=Z7 (by decide) hs;omega
theorem wL(h:tJ ts db=true)(hs:src.length<=5)(k:Nat):gm (src.take k) db<=312500000:=
 Np h (by rw[XF]; omega)
def dz(a b:Int):Int:=if a=b then 0 else if a=1073741824 then -1 else if b=1073741824 then 1 else if a<b then -1 else 1
def cmpL(xs ys:List Int):List Int->Int
 | [] => 0
 | p::ps => if dz (xs.getD p.toNat 0) (ys.getD p.toNat 0)=0 then cmpL xs ys ps else dz (xs.getD p.toNat 0) (ys.getD p.toNat 0)
def DF(ps xs ys:List Int):Bool:=decide (cmpL xs ys ps<0)
def eU(ps:List Int)(rows:List (List Int)):List (List Int):=mg (DF ps) [] rows
theorem nJ:dz a b=0↔a=b:=by
 unfold dz;constructor
 ·intro h;by_cases e:a=b
  ·exact e
  ·rw[Qv e]at h;split at h
   ·omega
   ·split at h
    ·omega
    ·split at h <;> omega
 ·intro h;rw[Qu h]
theorem uj(a b:Int):dz b a = - dz a b:=by
 unfold dz
 repeat' split
 all_goals omega
theorem U2(h1:dz a b<=0)(h2:dz b c<=0):dz a c<=0:=by
 unfold dz at *
 repeat' split at h1
 all_goals repeat' split at h2
 all_goals repeat' split
 all_goals omega
theorem Kk(h1:dz a b<=0)(h2:dz b c<=0)(h:dz a b≠0∨dz b c≠0):dz a c<0:=by
 have f:=U2 h1 h2;rcases Int.lt_or_eq_of_le f with d | d
 ·exact d
 ·have e:=nJ.1 d;subst e;have g:=uj a b;omega
theorem mr(xs ys:List Int):∀ ps,cmpL ys xs ps = - cmpL xs ys ps
 | [] => rfl
 | p::ps => by
  unfold cmpL;rw[uj,mr xs ys ps];split
  ·rename_i h
   rw[Qu (by omega)]
  ·rename_i h
   rw[Qv (by omega)]
theorem Cy{xs ys zs:List Int}:∀ {ps},cmpL xs ys ps<=0->cmpL ys zs ps<=0->cmpL xs zs ps<=0
 | [],_,_ => by unfold cmpL; omega
 | p::ps,h1,h2 => by
  unfold cmpL at h1 h2 ⊢;generalize xs.getD p.toNat 0=a at *;generalize ys.getD p.toNat 0=b at *;generalize zs.getD p.toNat 0=c at *;by_cases e1:dz a b=0
  ·by_cases e2:dz b c=0
   ·have e3:dz a c=0:=by rw[nJ]at *; omega
    rw[Qu e1]at h1;rw[Qu e2]at h2;rw[Qu e3];exact Cy h1 h2
   ·rw[Qv e2]at h2;have:=Kk (a:=a) (by omega) h2 (Or.inr e2);rw[Qv (by omega)];omega
  ·rw[Qv e1]at h1;have h3:dz b c<=0:=by
    by_cases e2:dz b c=0
    ·omega
    ·rw[Qv e2]at h2; exact h2
   have:=Kk h1 h3 (XG e1);rw[Qv (by omega)];omega
theorem afa{zs:List Int}(h1:cmpL xs ys ps<0)(h2:cmpL ys zs ps<0):cmpL xs zs ps<0:=by
 have b:=Cy (xs:=xs) (ys:=ys) (zs:=zs) (ps:=ps) (by omega) (by omega);rcases Int.lt_or_eq_of_le b with a | a
 ·exact a
 ·have d:=mr xs zs ps;have e:=Cy (xs:=ys) (ys:=zs) (zs:=xs) (ps:=ps) (by omega) (by omega);have f:=mr xs ys ps;omega
theorem Ih(ps:List Int):Ahead (DF ps):=by
 refine⟨fun {x y} h=>?_,fun {x y z} h1 h2=>?_,fun {x y z} h1 h2=>?_⟩
 ·unfold DF at *;rw[QE]at h;rw[Qf,mr];omega
 ·unfold DF at *;rw[QE]at *;exact afa h1 h2
 ·unfold DF at *;rw[Qf]at *;have a:=mr x y ps;have b:=mr y z ps;have d:=mr x z ps;have:=Cy (xs:=x) (ys:=y) (zs:=z) (ps:=ps) (by omega) (by omega);omega
section
variable {α β:Type} {lt:α->α->Bool} {lt':β->β->Bool} {f:α->β}
theorem DI(h:∀ a b,lt a b=lt' (f a) (f b))(x:α):∀ r,(bK lt x r).map f=bK lt' (f x) (r.map f)
 | [] => rfl
 | y::r => by
  show (if lt x y=true then y::bK lt x r else x::y::r).map f=(if lt' (f x) (f y)=true then f y::bK lt' (f x) (r.map f) else f x::f y::r.map f)
  rw[<- h];split
  ·rw[XH,DI h x r]
  ·rfl
theorem abQ(h:∀ a b,lt a b=lt' (f a) (f b))(x:α)(r:List α):(jk lt x r).map f=jk lt' (f x) (r.map f):=by
 unfold jk;rw[List.map_reverse,DI h,List.map_reverse]
theorem R9(h:∀ a b,lt a b=lt' (f a) (f b)):∀ (B A:List α),(mg lt A B).map f=mg lt' (A.map f) (B.map f)
 | [],A => rfl
 | b::B,A => by
  rw[pQ,R9 h B,abQ h,XH,pQ]
end
theorem Sa(rows:List (List Int)):eU [] rows=rows:=by
 unfold eU;rw[Dx (lt:=DF [])]
 ·rfl
 ·refine List.pairwise_of_forall ?_;intro a b; rfl
 ·intro b _ a d; cases d
theorem Ii{rows:List (List Int)}{r:List Int}:r∈eU ps rows↔r∈rows:=by
 unfold eU;rw[xM];simp
theorem Ij(ps:List Int)(rows:List (List Int)):(eU ps rows).length=rows.length:=by
 unfold eU;rw[nH];simp
theorem V7(hk:k<ps.length)(h:∀ j,j<k->dz (xs.getD (ps.getD j 0).toNat 0) (ys.getD (ps.getD j 0).toNat 0)=0):cmpL xs ys ps=cmpL xs ys (ps.drop k):=by
 induction k generalizing ps with
 | zero => rfl
 | succ k ih =>
  cases ps with
  | nil => simp at hk
  | cons p ps =>
   rw[List.drop_succ_cons,<- ih (by simpa using hk) (fun j b=>by have:=h (j+1) (by omega); simpa using this)];have a:=h 0 (by omega);simp only[List.getD_cons_zero]at a;exact Qu a
theorem afb(hk:k<ps.length)(h:∀ j,j<k->dz (xs.getD (ps.getD j 0).toNat 0) (ys.getD (ps.getD j 0).toNat 0)=0)(h0:dz (xs.getD (ps.getD k 0).toNat 0) (ys.getD (ps.getD k 0).toNat 0)≠0) :
  cmpL xs ys ps=dz (xs.getD (ps.getD k 0).toNat 0) (ys.getD (ps.getD k 0).toNat 0):=by
 have e:ps.getD k 0=ps[k]:=by simp[List.getD,hk]
 rw[V7 hk h,XI hk];rw[e]at h0 ⊢;exact Qv h0
theorem Nq{xs ys:List Int}:∀ {ps:List Int},(∀ j,j<ps.length->dz (xs.getD (ps.getD j 0).toNat 0) (ys.getD (ps.getD j 0).toNat 0)=0)->cmpL xs ys ps=0
 | [],_ => rfl
 | p::ps,h => by
  have h0:=h 0 (by simp);simp only[List.getD_cons_zero]at h0;have:cmpL xs ys (p::ps)=cmpL xs ys ps:=Qu h0;rw[this];exact Nq fun j hj=>by have:=h (j+1) (by simpa using hj); simpa using this
def au(xs cols:List Int):List Int:=cols.map fun c=>xs.getD c.toNat 0
def dh(L R:List (List Int)):List (List Int):=L.flatMap fun a=>R.map fun b=>a++b
theorem DJ(L R:List (List Int))(a:List Int):dh (L++[a]) R=dh L R++R.map (fun b=>a++b):=by simp[dh,Xb]
theorem V8{L L' R:List (List Int)}(h:L <+: L'):dh L R <+: dh L' R:=by
 obtain⟨t,rfl⟩:=h;exact⟨dh t R,by simp[dh,Xb]⟩
def FU(s v:Int):Int:=if v=1073741824 then s else if s=1073741824 then v else s+v
def jV(ss row cols:List Int):List Int:=List.zipWith (fun s c=>FU s (row.getD c.toNat 0)) ss cols
theorem kJ{ss row cols:List Int}(h:ss.length=cols.length):(jV ss row cols).length=cols.length:=by simp[jV,h]
structure Gr where
 key:List Int
 cnt:Nat
 ss:List Int
def rO(row sc:List Int)(g:Gr):Gr:=⟨g.key,g.cnt+1,jV g.ss row sc⟩
def oV(key:List Int)(n:Nat):Gr:=⟨key,0,List.replicate n 1073741824⟩
def jr(ks:List (List Int))(key:List Int):Option Nat:=ks.findIdx? (fun k=>decide (k=key))
def stepG(kc sc:List Int)(gs:List Gr)(row:List Int):List Gr:=
 match jr (gs.map Gr.key) (au row kc) with
 | some i => gs.modify i (rO row sc)
 | none => gs++[rO row sc (oV (au row kc) sc.length)]
def eu(kc sc:List Int):List Gr:=if kc=[] then [oV [] sc.length] else []
def fu(kc sc:List Int)(rows:List (List Int)):List Gr:=rows.foldl (stepG kc sc) (eu kc sc)
def Gr.row(g:Gr):List Int:=g.key++[(g.cnt:Int)]++g.ss
def eQ(db:List aN)(t:Int):List (List Int):=(db.getD t.toNat rz).rs.map (·.xs)
def nu:List (List (List Int))->List (List Int)
 | [] => []
 | t::ts => ts.foldl dh t
theorem Kl{t x:List (List Int)}{ts:List (List (List Int))}:nu (t::(ts++[x]))=dh (nu (t::ts)) x:=by simp[nu,ZZ]
def aW(src:List Int)(db:List aN):List (List Int):=nu (src.map (eQ db))
theorem yX(hk:k+1<src.length):aW (src.take (k+2)) db=dh (aW (src.take (k+1)) db) (eQ db src[k+1]):=by
 unfold aW;rw[Qm hk,Qn]
 cases src with
 | nil => simp at hk
 | cons a l =>
  rw[List.take_succ_cons,XH,Ze,XH,List.map_nil];exact Kl
def jE(q:ae)(rows:List (List Int)):List (List Int):=if q.group=true then (fu q.keys.xs q.sums.xs rows).map Gr.row else rows.map fun r=>au r q.aK.xs
def l7(q:ae)(db:List aN):List (List Int):=eU q.ord.xs (jE q ((aW q.src.xs db).filter (dK q.wh)))
