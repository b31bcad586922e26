import Derived.Test.YtlpbelhfpoilpaaGreatDoorRE13
set_option linter.all false
set_option maxRecDepth 100000
set_option maxHeartbeats 16000000
namespace Go.Proofs.Zz
open Go.RowKit Go.Shelf
variable {rk:Nat->Int} {g:List aj} {t:aQ} {ts:List af} {q:ae} {l:List aQ} {conc:List Nat}
theorem Tryz.J7:(Tryz.prog.info? 95).map (fun i=>(i.zero,i.size,i.bytes))=some (some (.agg #[.int .i64 0,.int .u64 0,.int .u64 0,.slice none 0 0,.int .u64 0,.int .u64 0]),6,64):=by kernel_rfl
theorem zk(W:World)(base:Nat)(v:Value)(ps:List az)(hown:W.ownsRow base 95 6 v ps.length (ps.flatMap az.list))(hl:ps.length<=1000)(hb:base<=W.heap.size)(p:az)(ty:TypeId) :
  ∃ v' w',(Builtin.append_ #[91,91] ty #[v,.slice (some (aD W.heap.size 0)) 1 1]).run Tryz.prog (W.alloc (.cells p.cells 95))=.ok v' w'/\
   w'.ownsRow base 95 6 v' (ps++[p]).length ((ps++[p]).flatMap az.list)/\Kept (fun b=>v.ownBlock≠some b) W w'/\(∃ a m c,v' = .slice a m c)/\(v'.ownBlock=v.ownBlock∨v'.ownBlock=some (W.heap.size+1)):=by
 obtain⟨i0,hi,hz0,hz1,hz2⟩:=ZU Tryz.J7;obtain⟨v',w',hr,ho,hk,hs,hat⟩:=iG (P:=Tryz.prog) W base 91 ty 95 i0 _ 6 64 Tryz.underlying91 hi hz0 hz1 hz2 rfl (by decide) v ps.length _ hown hb p.list rfl (fun u hu=>by
  unfold az.list ah.val at hu;simp at hu;rcases hu with rfl | rfl | rfl | rfl | rfl | rfl <;> rfl) hl (by decide)
 exact⟨v',w',hr,by rw[Zb,Za]; simpa using ho,hk,hs,hat⟩
def bI(ts:List af)(q:ae)(s:Nat)(acc:List (List Int))(ig:Int):List (List Int):=
 if aS s (bE (fo ts q [ig]))=true then iE acc [ig] else acc
def iA(ts:List af)(q:ae)(s:Nat)(acc:List (List Int))(c:aH):List (List Int):=
 if ((bF c.cs).2.2 && !aS s (bE (fo ts q [(bF c.cs).1,(bF c.cs).2.1])))=true then bI ts q s (bI ts q s acc (bF c.cs).1) (bF c.cs).2.1 else acc
def dU(ts:List af)(q:ae)(s:Nat):List (List Int):=
 q.wh.foldl (iA ts q s) (if aS s (bE (fo ts q (aM q)))=true then iE [[]] (aM q) else [[]])
abbrev bG:=Nat × Nat
def lC(rk:Nat->Int)(t:bG):Int:=if t.2=0 then 6 else rk (t.1|||t.2)
def nT(a b:Int):Int:=if a<b then -1 else if b<a then 1 else 0
def qY(rk:Nat->Int)(a b:bG):Int:=
 if nT (lC rk b) (lC rk a)≠0 then nT (lC rk b) (lC rk a) else if nT a.1 b.1≠0 then nT a.1 b.1 else nT a.2 b.2
def Uz(lt:Nat->Bool):Nat->Nat->Nat->Nat
 | 0,i,_ => i
 | f+1,i,j => if i<j then (if lt ((i+j) / 2)=true then Uz lt f ((i+j) / 2+1) j else Uz lt f i ((i+j) / 2)) else i
def nU(rk:Nat->Int)(a:List bG)(t:bG):Nat:=Uz (fun h=>decide (qY rk (a.getD h (0,0)) t<0)) a.length 0 a.length
def nV(rk:Nat->Int)(a:List bG)(t:bG):Bool:=decide (nU rk a t<a.length)&&decide (qY rk (a.getD (nU rk a t) (0,0)) t=0)
def jl(rk:Nat->Int)(a:List bG)(t:bG):List bG:=if nV rk a t=true then a else a.take (nU rk a t)++t::a.drop (nU rk a t)
structure iO where
 groups:List (List aj)
 ak:List bG
 cut:Bool
 bD:aQ
 picks:List Int
 status:Int
def jy(rk:Nat->Int)(s:Nat)(gs:List (List aj))(a:List bG)(k:Nat):List bG:=
 if ((bL (gs.getD k [])).isSome&&decide (k &&& s=0))=true then jl rk (jl rk a (s,k)) (k,s) else a
def oJ(rk:Nat->Int)(s:Nat)(gs:List (List aj))(a:List bG):List bG:=(List.range gs.length).foldl (jy rk s gs) a
def jK(ts:List af)(q:ae)(b t:aQ):aQ:=fe b (eT ts q t)
def fG(rk:Nat->Int)(ts:List af)(q:ae)(s:Nat)(l:List aQ)(σ:iO):iO:=
 if s=2 ^ q.src.xs.length-1 then { σ with bD:=l.foldl (jK ts q) σ.bD }
 else
  let r:=bg ts q (σ.groups.getD s []) l
  { σ with groups:=σ.groups.set s r.2,ak:=if r.1=true then oJ rk s (σ.groups.set s r.2) σ.ak else σ.ak }
def sV(rk:Nat->Int)(ts:List af)(q:ae)(conc:List Nat)(t:bG)(σ:iO):iO:=
 if t.2=0 then fG rk ts q t.1 [dP ts q conc ((dG t.1).getD 0 0)] σ
 else fG rk ts q (t.1|||t.2) (jH ts q conc (σ.groups.getD t.1 []) (σ.groups.getD t.2 [])) σ
def iH(n:Nat)(pick:Int):Int:=(pick.tmod n+n).tmod n
def nu(σ:iO):iO:=if 0<σ.ak.length then σ else { σ with status:=if σ.cut=true then 3 else 2 }
def jA(rk:Nat->Int)(ts:List af)(q:ae)(conc:List Nat)(pick:Int)(σ:iO):iO:=
 let p:=iH σ.ak.length pick
 nu (sV rk ts q conc (σ.ak.getD p.toNat (0,0)) { σ with picks:=σ.picks++[p],ak:=σ.ak.eraseIdx p.toNat })
def jL(l:List Int)(k:Nat):Int:=if l.length=0 then 0 else l.getD (k % l.length) 0
def runN(rk:Nat->Int)(ts:List af)(q:ae)(conc:List Nat)(picks:List Int):Nat->Nat->iO->iO
 | 0,_,σ => σ
 | n+1,k,σ => if σ.status=1 then runN rk ts q conc picks n (k+1) (jA rk ts q conc (jL picks k) σ) else σ
def dC(os:List (List Int)):List aj:=os.map fun o=>(o,none)
def fA(rk:Nat->Int)(ts:List af)(q:ae)(room:Nat):iO:=
 ⟨(List.range (2 ^ q.src.xs.length-1)).map fun s=>dC ((dU ts q s).take room),(List.range q.src.xs.length).foldl (fun a (i:Nat)=>jl rk a (2 ^ i,0)) [],
  (List.range (2 ^ q.src.xs.length-1)).any fun s=>decide (room<(dU ts q s).length),fQ ts q,[],1⟩
def lZ(n:Nat)(gs:List (List aj))(t:bG):Prop:=
 (t.2=0/\∃ i,i<n/\t.1=2 ^ i)∨
 (t.2≠0/\t.1<gs.length/\t.2<gs.length/\t.1 &&& t.2=0/\(bL (gs.getD t.1 [])).isSome=true/\(bL (gs.getD t.2 [])).isSome=true)
structure nW(q:ae)(σ:iO):Prop where
 vW:σ.groups.length=2 ^ q.src.xs.length-1
 kT:∀ s,s<σ.groups.length->uw q s (σ.groups.getD s [])
 task:∀ t∈σ.ak,lZ q.src.xs.length σ.groups t
 bD:jB q σ.bD
 small:σ.bD.ns.length<=800
structure Es(q:ae)(σ:iO):Prop where
 core:nW q σ
 stat:σ.status=1->0<σ.ak.length
 alh:σ.ak.length<=64*(σ.picks.length+1)
theorem yf{a:List bG}{t x:bG}(h:x∈jl rk a t):x∈a∨x=t:=by
 unfold jl at h;split at h
 ·exact .inl h
 ·rcases ZT.1 h with h | h
  ·exact .inl (Xj h)
  ·rcases Q4.1 h with h | h
   ·exact .inr h
   ·exact .inl (List.mem_of_mem_drop h)
theorem CJ(rk:Nat->Int)(a:List bG)(t:bG):(jl rk a t).length<=a.length+1:=by
 unfold jl;split
 ·omega
 ·simp only[Zb,Zm,Zg,XT];omega
theorem vX{rk:Nat->Int}{s:Nat}{gs:List (List aj)}:∀ (ks:List Nat) (a:List bG) (x:bG),x∈ks.foldl (jy rk s gs) a->x∈a∨∃ k∈ks,(bL (gs.getD k [])).isSome=true/\k &&& s=0/\(x=(s,k)∨x=(k,s))
 | [],_,_,h => .inl h
 | k::ks,a,x,h => by
  rcases vX ks (jy rk s gs a k) x h with h | ⟨k',hk,h1,h2,h3⟩
  ·unfold jy at h;split at h
   ·rename_i hc
    rw[Qt,QJ]at hc;rcases yf h with h | h
    ·rcases yf h with h | h
     ·exact .inl h
     ·exact .inr ⟨k,Xg,hc.1,hc.2,.inl h⟩
    ·exact .inr ⟨k,Xg,hc.1,hc.2,.inr h⟩
   ·exact .inl h
  ·exact .inr ⟨k',Xf _ hk,h1,h2,h3⟩
theorem vY(rk:Nat->Int)(s:Nat)(gs:List (List aj)):∀ (ks:List Nat) (a:List bG),(ks.foldl (jy rk s gs) a).length<=a.length+2*ks.length
 | [],_ => by simp
 | k::ks,a => by
  refine Zl (vY rk s gs ks (jy rk s gs a k)) ?_;have:(jy rk s gs a k).length<=a.length+2:=by
   unfold jy;split
   ·have h1:=CJ rk (jl rk a (s,k)) (k,s);have h2:=CJ rk a (s,k);omega
   ·omega
  simp only[Zg];omega
theorem Ah(h:(bL g).isSome=true):(bL (jF g t)).isSome=true:=by
 match g,h with
 | [],h => cases h
 | (_,none)::_,h => cases h
 | (o,some y)::r,_ =>
  show (bL (eG _ t (o,some y)::_)).isSome=true
  unfold eG;split <;> rfl
theorem tu:∀ {l:List aQ} {x:Bool × List aj},(bL x.2).isSome=true->(bL (l.foldl kG x).2).isSome=true
 | [],_,h => h
 | t::l,x,h => tu (l:=l) (x:=kG x t) (Ah h)
theorem yg{ts:List af}{q:ae}:∀ {os:List (List Int)} {g:List aj},(bL g).isSome=true->(bL (os.foldl (fq ts q) g)).isSome=true
 | [],_,h => h
 | o::os,g,h => yg (os:=os) (g:=fq ts q g o) (Ah h)
theorem Et(h:(bL g).isSome=true):(bL (bg ts q g l).2).isSome=true:=by
 unfold bg;split
 ·exact yg (tu (x:=(false,g)) h)
 ·exact tu (x:=(false,g)) h
theorem jQ(gs:List (List aj))(s k:Nat)(g:List aj):(gs.set s g).getD k []=if s=k/\s<gs.length then g else gs.getD k []:=by
 rw[XH,List.getElem?_set,XH];by_cases h:s=k
 ·subst h;by_cases hl:s<gs.length
  ·rw[Qy rfl,Qy hl,Qy ⟨rfl,hl⟩]; rfl
  ·rw[Qy rfl,Qz hl,Qz (fun h=>hl h.2),Zk (by omega)]
 ·rw[Qz h,Qz (fun h'=>h h'.1)]
theorem lZ.set{n:Nat}{gs:List (List aj)}{t:bG}(h:lZ n gs t){s:Nat}{g:List aj}(hg:(bL (gs.getD s [])).isSome=true->(bL g).isSome=true):lZ n (gs.set s g) t:=by
 rcases h with h | ⟨h0,h1,h2,h3,h4,h5⟩
 ·exact .inl h
 ·have key:∀ k,(bL (gs.getD k [])).isSome=true->(bL ((gs.set s g).getD k [])).isSome=true:=fun k hk=>by
   rw[jQ];split
   ·rename_i e
    rw[<- e.1]at hk;exact hg hk
   ·exact hk
  exact .inr ⟨h0,by rw[XO]; exact h1,by rw[XO]; exact h2,h3,key _ h4,key _ h5⟩
theorem uw.zero(h:uw q 0 g):(bL g).isSome=false:=by
 obtain⟨hh,r,rfl,hx⟩:=h.head
 cases hh with
 | none => rfl
 | some y => have:=hx y rfl; omega
theorem KU(h:jB q t):∀ x∈eT ts q t,jB q x/\x.ns.length<=t.ns.length+3:=by
 have h1:=FM (ts:=ts) h;have h2:=FM (ts:=ts) (vL (ts:=ts) (aM q) h);have hl:=oH ts q t (aM q);intro x hx;unfold eT at hx;split at hx
 ·rcases Q4.1 hx with rfl | hx
  ·exact⟨h1.1,by omega⟩
  ·rw[ZR]at hx;rw[hx];exact⟨h2.1,by omega⟩
 ·rw[ZR]at hx;rw[hx];exact⟨h1.1,by omega⟩
theorem yh(b:aQ):∀ (l:List aQ),fe b l=b∨fe b l∈l:=by
 intro l;unfold fe
 induction l generalizing b with
 | nil => exact .inl rfl
 | cons t l ih =>
  rw[Q0];rcases ih (mg b t) with h | h
  ·rw[h];unfold mg;split
   ·exact .inr Xg
   ·exact .inl rfl
  ·exact .inr (Xf _ h)
theorem YT{b:aQ}(hb:jB q b/\b.ns.length<=800)(ht:jB q t/\t.ns.length<=700):jB q (jK ts q b t)/\(jK ts q b t).ns.length<=800:=by
 unfold jK;rcases yh b (eT ts q t) with h | h
 ·rw[h]; exact hb
 ·have:=KU (ts:=ts) ht.1 _ h;exact⟨this.1,by omega⟩
theorem KW{ts:List af}{q:ae}:∀ {l:List aQ} {b:aQ},(jB q b/\b.ns.length<=800)->(∀ t∈l,jB q t/\t.ns.length<=700)->jB q (l.foldl (jK ts q) b)/\(l.foldl (jK ts q) b).ns.length<=800
 | [],_,h,_ => h
 | t::l,b,h,hl => KW (l:=l) (b:=jK ts q b t) (YT h (hl t Xg)) (fun x hx => hl x (Xf _ hx))
theorem KX{s:Nat}{σ:iO}(h:nW q σ)(h5:q.src.xs.length<=5)(hs:s<2 ^ q.src.xs.length)(h0:0<s)(hl:∀ t∈l,MO q s t) :
  nW q (fG rk ts q s l σ)/\(fG rk ts q s l σ).ak.length<=σ.ak.length+62/\(fG rk ts q s l σ).picks=σ.picks/\(fG rk ts q s l σ).status=σ.status/\(fG rk ts q s l σ).cut=σ.cut:=by
 have h32:2 ^ q.src.xs.length<=32:=Q7 (n:=2) (by omega) h5;unfold fG;by_cases hc:s=2 ^ q.src.xs.length-1
 ·rw[Qy hc];have hb:=KW (ts:=ts) (l:=l) (b:=σ.bD) ⟨h.bD,h.small⟩ (fun t ht=>⟨(hl t ht).ok,by have:=(hl t ht).len; omega⟩);exact⟨⟨h.vW,h.kT,h.task,hb.1,hb.2⟩,Nat.le_add_right _ _,rfl,rfl,rfl⟩
 rw[Qz hc];have hsl:s<σ.groups.length:=by rw[h.vW]; omega
 have hg:=Ae (ts:=ts) (h.kT s hsl) hl;have hgl:(σ.groups.set s (bg ts q (σ.groups.getD s []) l).2).length=σ.groups.length:=XO ..;refine⟨⟨?_,fun k hk=>?_,fun t ht=>?_,h.bD,h.small⟩,?_,rfl,rfl,rfl⟩
 ·show (σ.groups.set s _).length=_
  rw[XO];exact h.vW
 ·show uw q k ((σ.groups.set s _).getD k [])
  rw[jQ];split
  ·rename_i e
   rw[<- e.1];exact hg.1
  ·refine h.kT k ?_;have hk:k<(σ.groups.set s (bg ts q (σ.groups.getD s []) l).2).length:=hk
   rwa [XO]at hk
 ·have ht:t∈(if (bg ts q (σ.groups.getD s []) l).1=true then oJ rk s (σ.groups.set s (bg ts q (σ.groups.getD s []) l).2) σ.ak else σ.ak):=ht
  show lZ _ (σ.groups.set s (bg ts q (σ.groups.getD s []) l).2) t
  have old:∀ t∈σ.ak,lZ q.src.xs.length (σ.groups.set s (bg ts q (σ.groups.getD s []) l).2) t:=fun t ht=>(h.task t ht).set (fun h=>Et h)
  split at ht
  ·rename_i hi
   rcases vX _ _ _ ht with ht | ⟨k,hk,h1,h2,h3⟩
   ·exact old t ht
   ·have hk:k<σ.groups.length:=by rw[<- hgl]; exact Xq.1 hk
    have hk0:k≠0:=fun e=>by
     rw[e,jQ,Qz (fun h=>by omega)]at h1;rw[(h.kT 0 (by omega)).zero]at h1
     cases h1
    have hsome:(bL ((σ.groups.set s (bg ts q (σ.groups.getD s []) l).2).getD s [])).isSome=true:=by
     rw[jQ,Qy ⟨rfl,hsl⟩];exact hg.2.1 hi
    rcases h3 with rfl | rfl
    ·exact .inr ⟨hk0,by rw[hgl]; exact hsl,by rw[hgl]; exact hk,by rw[Nat.and_comm]; exact h2,hsome,h1⟩
    ·exact .inr ⟨by show s≠0; omega,by rw[hgl]; exact hk,by rw[hgl]; exact hsl,h2,h1,hsome⟩
  ·exact old t ht
 ·show (if _ then oJ rk s _ σ.ak else σ.ak).length<=_
  split
  ·refine Zl (vY rk s _ _ _) ?_;rw[Zd,hgl,h.vW];omega
  ·omega
theorem yj(i:Nat)(hi:i<5):(dG (2 ^ i)).getD 0 0=(i:Int):=by
 have:i=0∨i=1∨i=2∨i=3∨i=4:=by omega
 rcases this with rfl | rfl | rfl | rfl | rfl <;> decide
theorem YU(hcn:conc.length=q.wh.length){t:bG}{σ:iO}(h:nW q σ)(h5:q.src.xs.length<=5)(ht:lZ q.src.xs.length σ.groups t) :
  nW q (sV rk ts q conc t σ)/\(sV rk ts q conc t σ).ak.length<=σ.ak.length+62/\(sV rk ts q conc t σ).picks=σ.picks/\(sV rk ts q conc t σ).status=σ.status/\(sV rk ts q conc t σ).cut=σ.cut:=by
 unfold sV;rcases ht with⟨h0,i,hi,e⟩ | ⟨h0,h1,h2,h3,h4,h6⟩
 ·rw[Qy h0,e,yj i (by omega)];have hp:0<2 ^ i:=Xm (by omega);have hs:=sK ts q hcn (s:=(i:Int)) (by omega) (by omega);refine KX h h5 (Xi (by omega) hi) hp (fun x hx=>?_);rw[ZR]at hx;rw[hx];exact⟨hs.1,hs.2.1,by have:=hs.2.2; omega⟩
 ·rw[Qz h0];rw[h.vW]at h1 h2;refine KX h h5 (sJ (by omega) (by omega)) ?_ (fun x hx=>?_)
  ·rw[Kn h3]; omega
  ·exact zq hcn h3 (h.kT _ (by rw[h.vW]; exact h1)) (h.kT _ (by rw[h.vW]; exact h2)) h6 x hx
theorem zy{n:Nat}(hn:0<n)(pick:Int):0<=iH n pick/\iH n pick<n:=by
 unfold iH;have h1:=Int.lt_tmod_of_pos pick (show (0:Int)<n by omega);exact⟨Int.tmod_nonneg _ (by omega),Int.tmod_lt_of_pos _ (by omega)⟩
theorem nW.erase{σ:iO}(h:nW q σ)(k:Nat)(ps:List Int):nW q { σ with picks:=ps,ak:=σ.ak.eraseIdx k }:=
 ⟨h.vW,h.kT,fun t ht=>h.task t (List.mem_of_mem_eraseIdx ht),h.bD,h.small⟩
theorem YV(hcn:conc.length=q.wh.length){σ:iO}(h:Es q σ)(h5:q.src.xs.length<=5)(h1:σ.status=1)(pick:Int) :
  Es q (jA rk ts q conc pick σ)/\(jA rk ts q conc pick σ).picks.length=σ.picks.length+1:=by
 have hn:=h.stat h1;have hp:=zy hn pick;have hm:σ.ak.getD (iH σ.ak.length pick).toNat (0,0)∈σ.ak:=by
  rw[XH,ZX (by omega)];exact Qp _
 have hd:=YU (rk:=rk) (ts:=ts) hcn (t:=σ.ak.getD (iH σ.ak.length pick).toNat (0,0)) (h.core.erase (iH σ.ak.length pick).toNat (σ.picks++[iH σ.ak.length pick])) h5 (h.core.task _ hm);have hel:(σ.ak.eraseIdx (iH σ.ak.length pick).toNat).length=σ.ak.length-1:=List.length_eraseIdx_of_lt (by omega);unfold jA;simp only;generalize sV rk ts q conc (σ.ak.getD (iH σ.ak.length pick).toNat (0,0)) { σ with picks:=σ.picks++[iH σ.ak.length pick],ak:=σ.ak.eraseIdx (iH σ.ak.length pick).toNat } = τ at *;obtain⟨c1,c2,c3,c4,c5⟩:=hd;simp only at c2 c3 c4 c5;rw[hel]at c2;have hpl:τ.picks.length=σ.picks.length+1:=by rw[c3]; simp
 have ha:=h.alh;unfold nu;split
 ·rename_i hz
  exact⟨⟨c1,fun _=>hz,by rw[hpl]; omega⟩,hpl⟩
 ·rename_i hz
  refine⟨⟨⟨c1.vW,c1.kT,c1.task,c1.bD,c1.small⟩,fun e=>?_,?_⟩,hpl⟩
  ·exfalso;have e:(if τ.cut=true then (3:Int) else 2)=1:=e;split at e <;> omega
  ·show τ.ak.length<=64*(τ.picks.length+1)
   omega
