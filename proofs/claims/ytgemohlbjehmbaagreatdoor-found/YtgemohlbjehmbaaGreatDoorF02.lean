import Derived.Test.YtgemohlbjehmbaaGreatDoorF01
set_option linter.all false
set_option maxRecDepth 100000
set_option maxHeartbeats 16000000
namespace Go.Proofs.Zz
open Go.RowKit Go.Shelf
variable {rk:Nat->Int} {t:aQ} {g:List aj} {ts:List af} {q:ae} {l:List aQ} {σ:eF} {conc:List Nat}
def mX(n:Nat)(gs:List (List aj))(t:aO):Prop:=
 (t.2=0/\∃ i,i<n/\t.1=2 ^ i)∨
 (t.2≠0/\t.1<gs.length/\t.2<gs.length/\t.1 &&& t.2=0/\(bC (gs.getD t.1 [])).isSome=true/\(bC (gs.getD t.2 [])).isSome=true)
structure mM(q:ae)(σ:eF):Prop where
 kT:σ.groups.length=2 ^ q.src.xs.length-1
 jd:∀ s,s<σ.groups.length->sJ q s (σ.groups.getD s [])
 task:∀ t∈σ.ak,mX q.src.xs.length σ.groups t
 bq:kN q σ.bq
 small:σ.bq.ns.length<=800
structure uu(q:ae)(σ:eF):Prop where
 core:mM q σ
 stat:σ.status=1->0<σ.ak.length
 aoN:σ.ak.length<=64*(σ.picks.length+1)
theorem Ae{a:List aO}{t x:aO}(h:x∈gI rk a t):x∈a∨x=t:=by unfold gI at h;grind
theorem E9(rk:Nat->Int)(a:List aO)(t:aO):(gI rk a t).length<=a.length+1:=by unfold gI;grind
theorem yI{rk:Nat->Int}{s:Nat}{gs:List (List aj)}:∀ (ks:List Nat) (a:List aO) (x:aO),x∈ks.foldl (dY rk s gs) a->x∈a∨∃ k∈ks,(bC (gs.getD k [])).isSome=true/\k &&& s=0/\(x=(s,k)∨x=(k,s))
 | [],_,_,h => .inl h
 | k::ks,a,x,h => by
  rcases yI ks (dY rk s gs a k) x h with h | ⟨k',hk,h1,h2,h3⟩
  ·unfold dY at h;split at h
   ·rename_i hc
    rw[Qj,Qs]at hc;rcases Ae h with h | h
    ·rcases Ae h with h | h
     ·exact .inl h
     simp_all
    simp_all
   simp_all
  grind
theorem yJ(rk:Nat->Int)(s:Nat)(gs:List (List aj)):∀ (ks:List Nat) (a:List aO),(ks.foldl (dY rk s gs) a).length<=a.length+2*ks.length
 | [],_ => by simp
 | k::ks,a => by
  refine Q6 (yJ rk s gs ks (dY rk s gs a k)) ?_;have:(dY rk s gs a k).length<=a.length+2:=by
   unfold dY;split
   ·have h1:=E9 rk (gI rk a (s,k)) (k,s);have h2:=E9 rk a (s,k);omega
   ·omega
  grind
theorem CV(h:(bC g).isSome=true):(bC (gD g t)).isSome=true:=by
 match g,h with
 | [],h => cases h
 | (_,none)::_,h => cases h
 | (o,some y)::r,_ =>
  show (bC (eP _ t (o,some y)::_)).isSome=true;unfold eP;split <;> rfl
theorem vD:∀ {l:List aQ} {x:Bool × List aj},(bC x.2).isSome=true->(bC (l.foldl fV x).2).isSome=true
 | [],_,h => h
 | t::l,x,h => vD (l:=l) (x:=fV x t) (CV h)
theorem Af{ts:List af}{q:ae}:∀ {os:List (List Int)} {g:List aj},(bC g).isSome=true->(bC (os.foldl (dK ts q) g)).isSome=true
 | [],_,h => h
 | o::os,g,h => Af (os:=os) (g:=dK ts q g o) (CV h)
theorem Hq(h:(bC g).isSome=true):(bC (aK ts q g l).2).isSome=true:=by
 unfold aK;split
 ·exact Af (vD (x:=(false,g)) h)
 ·exact vD (x:=(false,g)) h
theorem kC(gs:List (List aj))(s k:Nat)(g:List aj):(gs.set s g).getD k []=if s=k/\s<gs.length then g else gs.getD k []:=by grind
theorem mX.set{n:Nat}{gs:List (List aj)}{t:aO}(h:mX n gs t){s:Nat}{g:List aj}(hg:(bC (gs.getD s [])).isSome=true->(bC g).isSome=true):mX n (gs.set s g) t:=by
 rcases h with h | ⟨a,f,i,b,d,e⟩
 ·exact .inl h
 ·have key:∀ k,(bC (gs.getD k [])).isSome=true->(bC ((gs.set s g).getD k [])).isSome=true:=λk j=>by grind
  exact .inr ⟨a,by simp_all,by simp_all,b,key _ d,key _ e⟩
theorem sJ.zero(h:sJ q 0 g):(bC g).isSome=false:=by
 obtain⟨a,r,rfl,b⟩:=h.head
 cases a with
 | none => rfl
 | some y => simp_all
theorem Nn(h:kN q t):∀ x∈df ts q t,kN q x/\x.ns.length<=t.ns.length+3:=by have b:=I8 (ts:=ts) h;have d:=I8 (ts:=ts) (yl (ts:=ts) (aG q) h);have e:=qK ts q t (aG q);intro x a;unfold df at a;grind
theorem tH(b:aQ):∀ (l:List aQ),dV b l=b∨dV b l∈l:=by
 intro l;unfold dV
 induction l generalizing b with
 | nil => simp_all
 | cons t l ih =>
  rw[QD];rcases ih (jy b t) with h | h
  ·rw[h];unfold jy;split
   ·simp_all
   simp_all
  simp_all
theorem acN{b:aQ}(hb:kN q b/\b.ns.length<=800)(ht:kN q t/\t.ns.length<=700):kN q (iN ts q b t)/\(iN ts q b t).ns.length<=800:=by
 unfold iN;rcases tH b (df ts q t) with h | h
 ·simp_all
 ·have:=Nn (ts:=ts) ht.1 _ h
  grind
theorem Np{ts:List af}{q:ae}:∀ {l:List aQ} {b:aQ},(kN q b/\b.ns.length<=800)->(∀ t∈l,kN q t/\t.ns.length<=700)->kN q (l.foldl (iN ts q) b)/\(l.foldl (iN ts q) b).ns.length<=800
 | [],_,h,_ => h
 | t::l,b,h,hl => Np (l:=l) (b:=iN ts q b t) (acN h (hl t ZJ)) (λx hx => hl x (ZI _ hx))
theorem Nq{s:Nat}(h:mM q σ)(h5:q.src.xs.length<=5)(hs:s<2 ^ q.src.xs.length)(h0:0<s)(hl:∀ t∈l,IY q s t) :
  mM q (cO rk ts q s l σ)/\(cO rk ts q s l σ).ak.length<=σ.ak.length+62/\(cO rk ts q s l σ).picks=σ.picks/\(cO rk ts q s l σ).status=σ.status/\(cO rk ts q s l σ).cut=σ.cut:=by
 have r:2 ^ q.src.xs.length<=32:=QI (n:=2) (by omega) h5;unfold cO;by_cases p:s=2 ^ q.src.xs.length-1
 ·rw[Qo p];have m:=Np (ts:=ts) (l:=l) (b:=σ.bq) ⟨h.bq,h.small⟩ (λt d=>⟨(hl t d).ok,by have:=(hl t d).len; omega⟩);exact⟨⟨h.kT,h.jd,h.task,m.1,m.2⟩,Nat.le_add_right _ _,rfl,rfl,rfl⟩
 rw[Qu p];have g:s<σ.groups.length:=by rw[h.kT]; omega
 have w:=uX (ts:=ts) (h.jd s g) hl;have i:(σ.groups.set s (aK ts q (σ.groups.getD s []) l).2).length=σ.groups.length:=Xw ..;refine⟨⟨?_,λk o=>?_,λt d=>?_,h.bq,h.small⟩,?_,rfl,rfl,rfl⟩
 ·show (σ.groups.set s _).length=_
  rw[Xw];exact h.kT
 ·show sJ q k ((σ.groups.set s _).getD k [])
  rw[kC];split
  ·simp_all
  ·refine h.jd k ?_
   simp_all
 ·have d:t∈(if (aK ts q (σ.groups.getD s []) l).1=true then kM rk s (σ.groups.set s (aK ts q (σ.groups.getD s []) l).2) σ.ak else σ.ak):=d
  show mX _ (σ.groups.set s (aK ts q (σ.groups.getD s []) l).2) t;have old:∀ t∈σ.ak,mX q.src.xs.length (σ.groups.set s (aK ts q (σ.groups.getD s []) l).2) t:=λt d=>(h.task t d).set (λh=>Hq h);split at d
  ·rename_i hi
   rcases yI _ _ _ d with d | ⟨k,o,f,u,v⟩
   ·simp_all
   ·have o:k<σ.groups.length:=by simp_all
    have j:k≠0:=λe=>by rw[e,kC,Qu (λh=>by omega)]at f;rw[(h.jd 0 (by omega)).zero]at f;cases f
    have a:(bC ((σ.groups.set s (aK ts q (σ.groups.getD s []) l).2).getD s [])).isSome=true:=by simp_all
    rcases v with rfl | rfl
    ·exact .inr ⟨j,by omega,by omega,by grind,a,f⟩
    ·exact .inr ⟨by omega,by omega,by omega,u,f,a⟩
  simp_all
 ·show (if _ then kM rk s _ σ.ak else σ.ak).length<=_
  split
  ·refine Q6 (yJ rk s _ _ _) ?_;rw[QR,i,h.kT];omega
  ·omega
theorem rY(i:Nat)(hi:i<5):(cZ (2 ^ i)).getD 0 0=(i:Int):=by
 have:i=0∨i=1∨i=2∨i=3∨i=4:=by omega
 rcases this with rfl | rfl | rfl | rfl | rfl <;> decide
theorem acO(hcn:conc.length=q.wh.length){t:aO}(h:mM q σ)(h5:q.src.xs.length<=5)(ht:mX q.src.xs.length σ.groups t) :
  mM q (qM rk ts q conc t σ)/\(qM rk ts q conc t σ).ak.length<=σ.ak.length+62/\(qM rk ts q conc t σ).picks=σ.picks/\(qM rk ts q conc t σ).status=σ.status/\(qM rk ts q conc t σ).cut=σ.cut:=by
 unfold qM;rcases ht with⟨h0,i,hi,e⟩ | ⟨h0,h1,h2,h3,h4,h6⟩
 ·rw[Qo h0,e,rY i (by omega)];have d:0<2 ^ i:=ZU (by omega);have b:=nR ts q hcn (s:=(i:Int)) (by omega) (by omega);refine Nq h h5 (ZN (by omega) hi) d (λx a=>?_);rw[Zy]at a;rw[a];exact⟨b.1,b.2.1,by omega⟩
 ·rw[Qu h0];rw[h.kT]at h1 h2;refine Nq h h5 (pW (by omega) (by omega)) ?_ (λx a=>?_)
  ·grind [ML]
  ·exact rV hcn h3 (h.jd _ (by rw[h.kT]; exact h1)) (h.jd _ (by rw[h.kT]; exact h2)) h6 x a
theorem pJ{n:Nat}(hn:0<n)(pick:Int):0<=dP n pick/\dP n pick<n:=by unfold dP;have a:=Int.lt_tmod_of_pos pick (show (0:Int)<n by omega);exact⟨Int.tmod_nonneg _ (by omega),Int.tmod_lt_of_pos _ (by omega)⟩
theorem mM.erase(h:mM q σ)(k:Nat)(ps:List Int):mM q { σ with picks:=ps,ak:=σ.ak.eraseIdx k }:=
 ⟨h.kT,h.jd,λt a=>h.task t (List.mem_of_mem_eraseIdx a),h.bq,h.small⟩
theorem acP(hcn:conc.length=q.wh.length)(h:uu q σ)(h5:q.src.xs.length<=5)(h1:σ.status=1)(pick:Int) :
  uu q (fu rk ts q conc pick σ)/\(fu rk ts q conc pick σ).picks.length=σ.picks.length+1:=by
 have i:=h.stat h1;have m:=pJ i pick;have j:σ.ak.getD (dP σ.ak.length pick).toNat (0,0)∈σ.ak:=by simp_all
 have hd:=acO (rk:=rk) (ts:=ts) hcn (t:=σ.ak.getD (dP σ.ak.length pick).toNat (0,0)) (h.core.erase (dP σ.ak.length pick).toNat (σ.picks++[dP σ.ak.length pick])) h5 (h.core.task _ j);have d:(σ.ak.eraseIdx (dP σ.ak.length pick).toNat).length=σ.ak.length-1:=List.length_eraseIdx_of_lt (by omega);unfold fu;simp only;generalize qM rk ts q conc (σ.ak.getD (dP σ.ak.length pick).toNat (0,0)) { σ with picks:=σ.picks++[dP σ.ak.length pick],ak:=σ.ak.eraseIdx (dP σ.ak.length pick).toNat } = τ at *;obtain⟨a,f,g,k,l⟩:=hd;simp only at f g k l;rw[d]at f;have b:τ.picks.length=σ.picks.length+1:=by rw[g]; simp
 have n:=h.aoN;unfold iA;split
 ·rename_i hz
  exact⟨⟨a,λ_=>hz,by omega⟩,b⟩
 ·rename_i hz
  refine⟨⟨⟨a.kT,a.jd,a.task,a.bq,a.small⟩,λe=>?_,?_⟩,b⟩
  ·grind
  simp_all
theorem kI.below{w w':World}(hb:Bw w w'){ao:Option Addr}{ns:List ah}(h:kI w ao ns):kI w' ao ns:=
 ⟨h.1,λi p=>by
  obtain⟨b,a,e,d,f,g,j,k,l,m,n,o⟩:=h.2 i p;exact⟨b,a,e,cB hb d,cB hb f,cB hb g,cB hb j,cB hb k,cB hb l,cB hb m,Ql hb n,Ql hb o⟩⟩
