import Derived.Test.YtbcgekghfgcakaaGreatDoorF10
set_option linter.all false
set_option maxRecDepth 100000
set_option maxHeartbeats 16000000
namespace Go.Proofs.Zz
open Go.RowKit Go.Shelf
theorem Tryz.U3:(Tryz.prog.info? 117).map (fun i=>(i.zero,i.size,i.bytes))=some (some (.agg #[.int .i64 0,.int .u64 0,.int .u64 0,.slice none 0 0,.int .u64 0,.int .u64 0]),6,64):=by kernel_rfl
theorem Rl (W:World) (base:Nat) (v:Value) (ps:List bK) (hown:W.ownsRow base 117 6 v ps.length (ps.flatMap bK.list)) (hl:ps.length<=1000) (hb:base<=W.heap.size) (p:bK) (ty:TypeId) :
  ∃ v' w',(Builtin.append_ #[233,233] ty #[v,.slice (some (aD W.heap.size 0)) 1 1]).run Tryz.prog (W.alloc (.cells p.cells 117))=.ok v' w'/\
   w'.ownsRow base 117 6 v' (ps++[p]).length ((ps++[p]).flatMap bK.list)/\Kept (fun b=>v.ownBlock≠some b) W w'/\(∃ a m c,v' = .slice a m c)/\(v'.ownBlock=v.ownBlock∨v'.ownBlock=some (W.heap.size+1)):=by
 obtain⟨i0,hi,hz0,hz1,hz2⟩:=ZC Tryz.U3;obtain⟨v',w',hr,ho,hk,hs,hat⟩:=ZV (P:=Tryz.prog) W base 233 ty 117 i0 _ 6 64 Tryz.underlying233 hi hz0 hz1 hz2 rfl (by decide) v ps.length _ hown hb p.list rfl (fun u hu=>by
  unfold bK.list ah.val at hu;simp at hu;rcases hu with rfl | rfl | rfl | rfl | rfl | rfl <;> rfl) hl (by decide)
 exact⟨v',w',hr,by rw[QT,QS]; simpa using ho,hk,hs,hat⟩
def bB (ts:List af) (q:ae) (s:Nat) (acc:List (List Int)) (fZ:Int):List (List Int):=
 if bP s (bT (dS ts q [fZ]))=true then iI acc [fZ] else acc
def iy (ts:List af) (q:ae) (s:Nat) (acc:List (List Int)) (c:ay):List (List Int):=
 if ((bE c.cs).2.2 && !bP s (bT (dS ts q [(bE c.cs).1,(bE c.cs).2.1])))=true then bB ts q s (bB ts q s acc (bE c.cs).1) (bE c.cs).2.1 else acc
def fA (ts:List af) (q:ae) (s:Nat):List (List Int):=
 q.wh.foldl (iy ts q s) (if bP s (bT (dS ts q (aN q)))=true then iI [[]] (aN q) else [[]])
abbrev bg:=Nat × Nat
def jR (rk:Nat->Int) (t:bg):Int:=if t.2=0 then 6 else rk (t.1|||t.2)
def mg (a b:Int):Int:=if a<b then -1 else if b<a then 1 else 0
def oW (rk:Nat->Int) (a b:bg):Int:=
 if mg (jR rk b) (jR rk a)≠0 then mg (jR rk b) (jR rk a) else if mg a.1 b.1≠0 then mg a.1 b.1 else mg a.2 b.2
def RO (lt:Nat->Bool):Nat->Nat->Nat->Nat
 | 0,i,_ => i
 | f+1,i,j => if i<j then (if lt ((i+j) / 2)=true then RO lt f ((i+j) / 2+1) j else RO lt f i ((i+j) / 2)) else i
def mh (rk:Nat->Int) (a:List bg) (t:bg):Nat:=RO (fun h=>decide (oW rk (a.getD h (0,0)) t<0)) a.length 0 a.length
def mi (rk:Nat->Int) (a:List bg) (t:bg):Bool:=decide (mh rk a t<a.length)&&decide (oW rk (a.getD (mh rk a t) (0,0)) t=0)
def gU (rk:Nat->Int) (a:List bg) (t:bg):List bg:=if mi rk a t=true then a else a.take (mh rk a t)++t::a.drop (mh rk a t)
structure fe where
 groups:List (List ai)
 ak:List bg
 cut:Bool
 bM:aW
 picks:List Int
 status:Int
def iA (rk:Nat->Int) (s:Nat) (gs:List (List ai)) (a:List bg) (k:Nat):List bg:=
 if ((bZ (gs.getD k [])).isSome&&decide (k &&& s=0))=true then gU rk (gU rk a (s,k)) (k,s) else a
def mV (rk:Nat->Int) (s:Nat) (gs:List (List ai)) (a:List bg):List bg:=(List.range gs.length).foldl (iA rk s gs) a
def jX (ts:List af) (q:ae) (b t:aW):aW:=dW b (eG ts q t)
def eH (rk:Nat->Int) (ts:List af) (q:ae) (s:Nat) (l:List aW) (σ:fe):fe:=
 if s=2 ^ q.src.xs.length-1 then { σ with bM:=l.foldl (jX ts q) σ.bM }
 else
  let r:=aZ ts q (σ.groups.getD s []) l
  { σ with groups:=σ.groups.set s r.2,ak:=if r.1=true then mV rk s (σ.groups.set s r.2) σ.ak else σ.ak }
def sW (rk:Nat->Int) (ts:List af) (q:ae) (conc:List Nat) (t:bg) (σ:fe):fe:=
 if t.2=0 then eH rk ts q t.1 [dZ ts q conc ((ib t.1).getD 0 0)] σ
 else eH rk ts q (t.1|||t.2) (jg ts q conc (σ.groups.getD t.1 []) (σ.groups.getD t.2 [])) σ
def ek (n:Nat) (pick:Int):Int:=(pick.tmod n+n).tmod n
def lG (σ:fe):fe:=if 0<σ.ak.length then σ else { σ with status:=if σ.cut=true then 3 else 2 }
def fP (rk:Nat->Int) (ts:List af) (q:ae) (conc:List Nat) (pick:Int) (σ:fe):fe:=
 let p:=ek σ.ak.length pick
 lG (sW rk ts q conc (σ.ak.getD p.toNat (0,0)) { σ with picks:=σ.picks++[p],ak:=σ.ak.eraseIdx p.toNat })
def fG (l:List Int) (k:Nat):Int:=if l.length=0 then 0 else l.getD (k % l.length) 0
def runN (rk:Nat->Int) (ts:List af) (q:ae) (conc:List Nat) (picks:List Int):Nat->Nat->fe->fe
 | 0,_,σ => σ
 | n+1,k,σ => if σ.status=1 then runN rk ts q conc picks n (k+1) (fP rk ts q conc (fG picks k) σ) else σ
def dz (os:List (List Int)):List ai:=os.map fun o=>(o,none)
def dK (rk:Nat->Int) (ts:List af) (q:ae) (room:Nat):fe:=
 ⟨(List.range (2 ^ q.src.xs.length-1)).map fun s=>dz ((fA ts q s).take room),(List.range q.src.xs.length).foldl (fun a (i:Nat)=>gU rk a (2 ^ i,0)) [],
  (List.range (2 ^ q.src.xs.length-1)).any fun s=>decide (room<(fA ts q s).length),fF ts q,[],1⟩
def kT (n:Nat) (gs:List (List ai)) (t:bg):Prop:=
 (t.2=0/\∃ i,i<n/\t.1=2 ^ i)∨
 (t.2≠0/\t.1<gs.length/\t.2<gs.length/\t.1 &&& t.2=0/\(bZ (gs.getD t.1 [])).isSome=true/\(bZ (gs.getD t.2 [])).isSome=true)
structure nU (q:ae) (σ:fe):Prop where
 vL:σ.groups.length=2 ^ q.src.xs.length-1
 kU:∀ s,s<σ.groups.length->uj q s (σ.groups.getD s [])
 task:∀ t∈σ.ak,kT q.src.xs.length σ.groups t
 bM:iC q σ.bM
 small:σ.bM.ns.length<=800
structure E5 (q:ae) (σ:fe):Prop where
 core:nU q σ
 stat:σ.status=1->0<σ.ak.length
 aaU:σ.ak.length<=64*(σ.picks.length+1)
theorem vM {rk:Nat->Int} {a:List bg} {t x:bg} (h:x∈gU rk a t):x∈a∨x=t:=by
 unfold gU at h;split at h
 ·exact .inl h
 ·rcases QX.1 h with h | h
  ·exact .inl (ZX h)
  ·rcases QP.1 h with h | h
   ·exact .inr h
   ·exact .inl (List.mem_of_mem_drop h)
theorem AB (rk:Nat->Int) (a:List bg) (t:bg):(gU rk a t).length<=a.length+1:=by
 unfold gU;split
 ·omega
 ·simp only[QT,Q6,Q5,XI];omega
theorem uB {rk:Nat->Int} {s:Nat} {gs:List (List ai)}:∀ (ks:List Nat) (a:List bg) (x:bg),x∈ks.foldl (iA rk s gs) a->x∈a∨∃ k∈ks,(bZ (gs.getD k [])).isSome=true/\k &&& s=0/\(x=(s,k)∨x=(k,s))
 | [],_,_,h => .inl h
 | k::ks,a,x,h => by
  rcases uB ks (iA rk s gs a k) x h with h | ⟨k',hk,h1,h2,h3⟩
  ·unfold iA at h;split at h
   ·rename_i hc
    rw[Qm,Qx] at hc;rcases vM h with h | h
    ·rcases vM h with h | h
     ·exact .inl h
     ·exact .inr ⟨k,Xo,hc.1,hc.2,.inl h⟩
    ·exact .inr ⟨k,Xo,hc.1,hc.2,.inr h⟩
   ·exact .inl h
  ·exact .inr ⟨k',Xm _ hk,h1,h2,h3⟩
theorem uC (rk:Nat->Int) (s:Nat) (gs:List (List ai)):∀ (ks:List Nat) (a:List bg),(ks.foldl (iA rk s gs) a).length<=a.length+2*ks.length
 | [],_ => by simp
 | k::ks,a => by
  refine Q4 (uC rk s gs ks (iA rk s gs a k)) ?_;have:(iA rk s gs a k).length<=a.length+2:=by
   unfold iA;split
   ·have h1:=AB rk (gU rk a (s,k)) (k,s);have h2:=AB rk a (s,k);omega
   ·omega
  simp only[Q5];omega
theorem yD {g:List ai} {t:aW} (h:(bZ g).isSome=true):(bZ (ko g t)).isSome=true:=by
 match g,h with
 | [],h => cases h
 | (_,none)::_,h => cases h
 | (o,some y)::r,_ =>
  show (bZ (eQ _ t (o,some y)::_)).isSome=true
  unfold eQ;split <;> rfl
theorem qY:∀ {l:List aW} {x:Bool × List ai},(bZ x.2).isSome=true->(bZ (l.foldl kr x).2).isSome=true
 | [],_,h => h
 | t::l,x,h => qY (l:=l) (x:=kr x t) (yD h)
theorem vN {ts:List af} {q:ae}:∀ {os:List (List Int)} {g:List ai},(bZ g).isSome=true->(bZ (os.foldl (eP ts q) g)).isSome=true
 | [],_,h => h
 | o::os,g,h => vN (os:=os) (g:=eP ts q g o) (yD h)
theorem Cg {ts:List af} {q:ae} {g:List ai} {l:List aW} (h:(bZ g).isSome=true):(bZ (aZ ts q g l).2).isSome=true:=by
 unfold aZ;split
 ·exact vN (qY (x:=(false,g)) h)
 ·exact qY (x:=(false,g)) h
theorem jC (gs:List (List ai)) (s k:Nat) (g:List ai):(gs.set s g).getD k []=if s=k/\s<gs.length then g else gs.getD k []:=by
 rw[Xq,List.getElem?_set,Xq];by_cases h:s=k
 ·subst h;by_cases hl:s<gs.length
  ·rw[Qr rfl,Qr hl,Qr ⟨rfl,hl⟩]; rfl
  ·rw[Qr rfl,Qs hl,Qs (fun h=>hl h.2),Xr (by omega)]
 ·rw[Qs h,Qs (fun h'=>h h'.1)]
theorem kT.set {n:Nat} {gs:List (List ai)} {t:bg} (h:kT n gs t) {s:Nat} {g:List ai} (hg:(bZ (gs.getD s [])).isSome=true->(bZ g).isSome=true):kT n (gs.set s g) t:=by
 rcases h with h | ⟨h0,h1,h2,h3,h4,h5⟩
 ·exact .inl h
 ·have key:∀ k,(bZ (gs.getD k [])).isSome=true->(bZ ((gs.set s g).getD k [])).isSome=true:=fun k hk=>by
   rw[jC];split
   ·rename_i e
    rw[<- e.1] at hk;exact hg hk
   ·exact hk
  exact .inr ⟨h0,by rw[XF]; exact h1,by rw[XF]; exact h2,h3,key _ h4,key _ h5⟩
theorem uj.zero {q:ae} {g:List ai} (h:uj q 0 g):(bZ g).isSome=false:=by
 obtain⟨hh,r,rfl,hx⟩:=h.head
 cases hh with
 | none => rfl
 | some y => have:=hx y rfl; omega
theorem IJ {ts:List af} {q:ae} {t:aW} (h:iC q t):∀ x∈eG ts q t,iC q x/\x.ns.length<=t.ns.length+3:=by
 have h1:=Dq (ts:=ts) h;have h2:=Dq (ts:=ts) (tX (ts:=ts) (aN q) h);have hl:=yn ts q t (aN q);intro x hx;unfold eG at hx;split at hx
 ·rcases QP.1 hx with rfl | hx
  ·exact⟨h1.1,by omega⟩
  ·rw[QY] at hx;rw[hx];exact⟨h2.1,by omega⟩
 ·rw[QY] at hx;rw[hx];exact⟨h1.1,by omega⟩
theorem E8 (b:aW):∀ (l:List aW),dW b l=b∨dW b l∈l:=by
 intro l;unfold dW
 induction l generalizing b with
 | nil => exact .inl rfl
 | cons t l ih =>
  rw[QO];rcases ih (qD b t) with h | h
  ·rw[h];unfold qD;split
   ·exact .inr Xo
   ·exact .inl rfl
  ·exact .inr (Xm _ h)
theorem Vv {ts:List af} {q:ae} {b t:aW} (hb:iC q b/\b.ns.length<=800) (ht:iC q t/\t.ns.length<=700):iC q (jX ts q b t)/\(jX ts q b t).ns.length<=800:=by
 unfold jX;rcases E8 b (eG ts q t) with h | h
 ·rw[h]; exact hb
 ·have:=IJ (ts:=ts) ht.1 _ h;exact⟨this.1,by omega⟩
theorem IK {ts:List af} {q:ae}:∀ {l:List aW} {b:aW},(iC q b/\b.ns.length<=800)->(∀ t∈l,iC q t/\t.ns.length<=700)->iC q (l.foldl (jX ts q) b)/\(l.foldl (jX ts q) b).ns.length<=800
 | [],_,h,_ => h
 | t::l,b,h,hl => IK (l:=l) (b:=jX ts q b t) (Vv h (hl t Xo)) (fun x hx => hl x (Xm _ hx))
theorem IL {rk:Nat->Int} {ts:List af} {q:ae} {s:Nat} {l:List aW} {σ:fe} (h:nU q σ) (h5:q.src.xs.length<=5) (hs:s<2 ^ q.src.xs.length) (h0:0<s) (hl:∀ t∈l,Ot q s t) :
  nU q (eH rk ts q s l σ)/\(eH rk ts q s l σ).ak.length<=σ.ak.length+62/\(eH rk ts q s l σ).picks=σ.picks/\(eH rk ts q s l σ).status=σ.status/\(eH rk ts q s l σ).cut=σ.cut:=by
 have h32:2 ^ q.src.xs.length<=32:=QZ (n:=2) (by omega) h5;unfold eH;by_cases hc:s=2 ^ q.src.xs.length-1
 ·rw[Qr hc];have hb:=IK (ts:=ts) (l:=l) (b:=σ.bM) ⟨h.bM,h.small⟩ (fun t ht=>⟨(hl t ht).ok,by have:=(hl t ht).len; omega⟩);exact⟨⟨h.vL,h.kU,h.task,hb.1,hb.2⟩,Nat.le_add_right _ _,rfl,rfl,rfl⟩
 rw[Qs hc];have hsl:s<σ.groups.length:=by rw[h.vL]; omega
 have hg:=yB (ts:=ts) (h.kU s hsl) hl;have hgl:(σ.groups.set s (aZ ts q (σ.groups.getD s []) l).2).length=σ.groups.length:=XF ..;refine⟨⟨?_,fun k hk=>?_,fun t ht=>?_,h.bM,h.small⟩,?_,rfl,rfl,rfl⟩
 ·show (σ.groups.set s _).length=_
  rw[XF];exact h.vL
 ·show uj q k ((σ.groups.set s _).getD k [])
  rw[jC];split
  ·rename_i e
   rw[<- e.1];exact hg.1
  ·refine h.kU k ?_;have hk:k<(σ.groups.set s (aZ ts q (σ.groups.getD s []) l).2).length:=hk
   rwa [XF] at hk
 ·have ht:t∈(if (aZ ts q (σ.groups.getD s []) l).1=true then mV rk s (σ.groups.set s (aZ ts q (σ.groups.getD s []) l).2) σ.ak else σ.ak):=ht
  show kT _ (σ.groups.set s (aZ ts q (σ.groups.getD s []) l).2) t
  have old:∀ t∈σ.ak,kT q.src.xs.length (σ.groups.set s (aZ ts q (σ.groups.getD s []) l).2) t:=fun t ht=>(h.task t ht).set (fun h=>Cg h)
  split at ht
  ·rename_i hi
   rcases uB _ _ _ ht with ht | ⟨k,hk,h1,h2,h3⟩
   ·exact old t ht
   ·have hk:k<σ.groups.length:=by rw[<- hgl]; exact Z4.1 hk
    have hk0:k≠0:=fun e=>by
     rw[e,jC,Qs (fun h=>by omega)] at h1;rw[(h.kU 0 (by omega)).zero] at h1
     cases h1
    have hsome:(bZ ((σ.groups.set s (aZ ts q (σ.groups.getD s []) l).2).getD s [])).isSome=true:=by
     rw[jC,Qr ⟨rfl,hsl⟩];exact hg.2.1 hi
    rcases h3 with rfl | rfl
    ·exact .inr ⟨hk0,by rw[hgl]; exact hsl,by rw[hgl]; exact hk,by rw[Nat.and_comm]; exact h2,hsome,h1⟩
    ·exact .inr ⟨by show s≠0; omega,by rw[hgl]; exact hk,by rw[hgl]; exact hsl,h2,h1,hsome⟩
  ·exact old t ht
 ·show (if _ then mV rk s _ σ.ak else σ.ak).length<=_
  split
  ·refine Q4 (uC rk s _ _ _) ?_;rw[QV,hgl,h.vL];omega
  ·omega
theorem AJ (i:Nat) (hi:i<5):(ib (2 ^ i)).getD 0 0=(i:Int):=by
 have:i=0∨i=1∨i=2∨i=3∨i=4:=by omega
 rcases this with rfl | rfl | rfl | rfl | rfl <;> decide
theorem Vw {rk:Nat->Int} {ts:List af} {q:ae} {conc:List Nat} (hcn:conc.length=q.wh.length) {t:bg} {σ:fe} (h:nU q σ) (h5:q.src.xs.length<=5) (ht:kT q.src.xs.length σ.groups t) :
  nU q (sW rk ts q conc t σ)/\(sW rk ts q conc t σ).ak.length<=σ.ak.length+62/\(sW rk ts q conc t σ).picks=σ.picks/\(sW rk ts q conc t σ).status=σ.status/\(sW rk ts q conc t σ).cut=σ.cut:=by
 unfold sW;rcases ht with⟨h0,i,hi,e⟩ | ⟨h0,h1,h2,h3,h4,h6⟩
 ·rw[Qr h0,e,AJ i (by omega)];have hp:0<2 ^ i:=Nat.pow_pos (by omega);have hs:=yt ts q hcn (s:=(i:Int)) (by omega) (by omega);refine IL h h5 (ZW (by omega) hi) hp (fun x hx=>?_);rw[QY] at hx;rw[hx];exact⟨hs.1,hs.2.1,by have:=hs.2.2; omega⟩
 ·rw[Qs h0];rw[h.vL] at h1 h2;refine IL h h5 (sP (by omega) (by omega)) ?_ (fun x hx=>?_)
  ·rw[Ih h3]; omega
  ·exact Dj hcn h3 (h.kU _ (by rw[h.vL]; exact h1)) (h.kU _ (by rw[h.vL]; exact h2)) h6 x hx
theorem Dr {n:Nat} (hn:0<n) (pick:Int):0<=ek n pick/\ek n pick<n:=by
 unfold ek;have h1:=Int.lt_tmod_of_pos pick (show (0:Int)<n by omega);exact⟨Int.tmod_nonneg _ (by omega),Int.tmod_lt_of_pos _ (by omega)⟩
theorem nU.erase {q:ae} {σ:fe} (h:nU q σ) (k:Nat) (ps:List Int):nU q { σ with picks:=ps,ak:=σ.ak.eraseIdx k }:=
 ⟨h.vL,h.kU,fun t ht=>h.task t (List.mem_of_mem_eraseIdx ht),h.bM,h.small⟩
theorem Vx {rk:Nat->Int} {ts:List af} {q:ae} {conc:List Nat} (hcn:conc.length=q.wh.length) {σ:fe} (h:E5 q σ) (h5:q.src.xs.length<=5) (h1:σ.status=1) (pick:Int) :
  E5 q (fP rk ts q conc pick σ)/\(fP rk ts q conc pick σ).picks.length=σ.picks.length+1:=by
 have hn:=h.stat h1;have hp:=Dr hn pick;have hm:σ.ak.getD (ek σ.ak.length pick).toNat (0,0)∈σ.ak:=by
  rw[Xq,ZG (by omega)];exact Qj _
 have hd:=Vw (rk:=rk) (ts:=ts) hcn (t:=σ.ak.getD (ek σ.ak.length pick).toNat (0,0)) (h.core.erase (ek σ.ak.length pick).toNat (σ.picks++[ek σ.ak.length pick])) h5 (h.core.task _ hm);have hel:(σ.ak.eraseIdx (ek σ.ak.length pick).toNat).length=σ.ak.length-1:=List.length_eraseIdx_of_lt (by omega);unfold fP;simp only;generalize sW rk ts q conc (σ.ak.getD (ek σ.ak.length pick).toNat (0,0)) { σ with picks:=σ.picks++[ek σ.ak.length pick],ak:=σ.ak.eraseIdx (ek σ.ak.length pick).toNat } = τ at *;obtain⟨c1,c2,c3,c4,c5⟩:=hd;simp only at c2 c3 c4 c5;rw[hel] at c2;have hpl:τ.picks.length=σ.picks.length+1:=by rw[c3]; simp
 have ha:=h.aaU;unfold lG;split
 ·rename_i hz
  exact⟨⟨c1,fun _=>hz,by rw[hpl]; omega⟩,hpl⟩
 ·rename_i hz
  refine⟨⟨⟨c1.vL,c1.kU,c1.task,c1.bM,c1.small⟩,fun e=>?_,?_⟩,hpl⟩
  ·exfalso;have e:(if τ.cut=true then (3:Int) else 2)=1:=e;split at e <;> omega
  ·show τ.ak.length<=64*(τ.picks.length+1)
   omega
