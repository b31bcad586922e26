import Derived.Test.YtgemohlbjehmbaaGreatDoorF35
set_option linter.all false
set_option maxRecDepth 100000
set_option maxHeartbeats 16000000
namespace Go.Proofs.Zz
open Go.RowKit Go.Shelf
variable {p q:ae}
theorem YU{ts:List af}{db:List jJ}{n:Nat}{S:World}(h:CaseOk ts q db)(hl:fo n q S):acu q:=by
 have l:=h.Je.src;have d:=h.Je.wh;have m:q.keys.xs.length<=4/\q.sums.xs.length<=4/\q.bA.xs.length<=4/\q.ord.xs.length<=4:=by
  rcases h.Je.out with⟨g,l0,k1,k2,k3,s1,s2,o1,o2,o3⟩ | ⟨g,k0,s0,l1,l2,l3,o1,o2,o3⟩
  ·grind
  grind
 refine⟨⟨hl.src.1.2.2,by omega⟩,⟨hl.nil,by omega⟩,λi k=>?_,⟨hl.keys.1.2.2,by omega⟩,⟨hl.sums.1.2.2,by omega⟩,⟨hl.bA.1.2.2,by omega⟩,⟨hl.ord.1.2.2,by omega⟩⟩;have f:q.wh.getD i lz∈q.wh:=by simp_all
 have a:=d.2 _ f;refine⟨λe=>?_,by have:=a.2.1; omega⟩;obtain⟨b,j,o,_⟩:=(hl.wh.1.2.2 i k).2 0 (by have:=a.1; omega);simp_all
theorem bN.clause(h:bN q p)(i:Nat):(p.wh.getD i lz).cs=(q.wh.getD i lz).cs:=by
 by_cases a:i<p.wh.length
 ·exact h.cs i a
 ·have b:¬ i<q.wh.length:=by rw[<- h.len]; exact a
  simp_all
theorem bN.size(h:bN q p)(ts:List af):iD ts p=iD ts q:=by funext s c;unfold iD;simp only[h.src,h.clause]
theorem bN.key(h:bN q p)(ts:List af):fP ts p=fP ts q:=by funext n a b;unfold fP;simp only[h.src,h.clause,h.len]
theorem bN.part(h:bN q p)(ts:List af):bV ts p=bV ts q:=by funext n l r;unfold bV;simp only[h.size ts]
theorem bN.grow(h:bN q p)(ts:List af):ay ts p=ay ts q:=by funext n bs;unfold ay;rw[h.part ts]
theorem bN.want(h:bN q p):jw p=jw q:=by unfold jw;rw[h.ord,h.bA]
theorem bN.ends(h:bN q p):gL p=gL q:=by funext k o;unfold gL;rw[h.ord,h.want,h.keys]
theorem bN.agU(h:bN q p):bg p=bg q:=by funext o;unfold bg;rw[h.group,h.keys]
theorem bN.Oj(h:bN q p):aG p=aG q:=by unfold aG;rw[h.group,h.keys,h.want]
theorem bN.ended(h:bN q p)(ts:List af):fG ts p=fG ts q:=by funext t;unfold fG;rw[h.grow ts,h.ends,h.agU]
theorem bN.sorted(h:bN q p)(ts:List af):bD ts p=bD ts q:=by funext t o;unfold bD;rw[h.grow ts]
theorem bN.agV(h:bN q p)(ts:List af):df ts p=df ts q:=by funext t;unfold df;rw[h.ended ts,h.sorted ts,h.Oj]
theorem bN.bq(h:bN q p)(ts:List af):iN ts p=iN ts q:=by funext b t;unfold iN;rw[h.agV ts]
theorem bN.Om(h:bN q p)(ts:List af):bY ts p=bY ts q:=by funext t c;unfold bY;rw[h.grow ts]
theorem bN.agW(h:bN q p)(ts:List af):bQ ts p=bQ ts q:=by funext c s;unfold bQ;rw[h.grow ts,h.Om ts]
theorem bN.dF{q p:ae}(h:bN q p)(ts:List af):Zz.dF ts p=Zz.dF ts q:=by
 funext k
 induction k with
 | zero => show ay ts p _ _=ay ts q _ _; rw[h.grow ts]
 | succ k ih => show ay ts p _ [Zz.dF ts p k,ay ts p _ _]=ay ts q _ [Zz.dF ts q k,ay ts q _ _]; rw[h.grow ts,ih]
theorem bN.plain(h:bN q p)(ts:List af):iE ts p=iE ts q:=by unfold iE;rw[h.grow ts,h.Om ts,h.dF ts,h.src,h.group,h.len,h.ord]
theorem bN.Kh(h:bN q p)(ts:List af):dK ts p=dK ts q:=by funext g o;unfold dK;rw[h.sorted ts]
theorem bN.pq(h:bN q p)(ts:List af):aK ts p=aK ts q:=by funext g l;unfold aK;rw[h.Kh ts]
theorem bN.fF{q p:ae}(h:bN q p)(ts:List af):Zz.fF ts p=Zz.fF ts q:=by funext l r g cl acc key;unfold Zz.fF;rw[h.grow ts,h.key ts]
theorem bN.joined(h:bN q p)(ts:List af):dX ts p=dX ts q:=by funext c l g;unfold dX;rw[h.grow ts,h.fF ts]
theorem bN.joins(h:bN q p)(ts:List af):fK ts p=fK ts q:=by funext c a b;unfold fK;rw[h.joined ts]
theorem bN.keep{q p:ae}(h:bN q p)(rk:Nat->Int)(ts:List af):cO rk ts p=cO rk ts q:=by funext s l σ;unfold cO;rw[h.src,h.bq ts,h.pq ts]
theorem bN.qM{q p:ae}(h:bN q p)(rk:Nat->Int)(ts:List af):Zz.qM rk ts p=Zz.qM rk ts q:=by funext c t σ;unfold Zz.qM;rw[h.keep rk ts,h.agW ts,h.joins ts]
theorem bN.fu{q p:ae}(h:bN q p)(rk:Nat->Int)(ts:List af):Zz.fu rk ts p=Zz.fu rk ts q:=by funext c k σ;unfold Zz.fu;rw[h.qM rk ts]
theorem bN.runN{q p:ae}(h:bN q p)(rk:Nat->Int)(ts:List af):Zz.runN rk ts p=Zz.runN rk ts q:=by
 funext c ps n
 induction n with
 | zero => rfl
 | succ n ih =>
  funext k σ;show (if σ.status=1 then Zz.runN rk ts p c ps n (k+1) (Zz.fu rk ts p c (jU ps k) σ) else σ)=(if σ.status=1 then Zz.runN rk ts q c ps n (k+1) (Zz.fu rk ts q c (jU ps k) σ) else σ);rw[ih,h.fu rk ts]
theorem bN.goT{q p:ae}(h:bN q p)(rk:Nat->Int)(ts:List af):Zz.goT rk ts p=Zz.goT rk ts q:=by funext c ps n t σ;unfold Zz.goT;rw[h.runN rk ts]
theorem bN.conc(h:bN q p)(ts:List af):aN ts p=aN ts q:=by
 have e:∀ r:ae,aN ts r=r.oG.map λc=>aB (dQ ts r.src.xs c):=λr=>by unfold aN ae.oG;simp_all
 rw[e p,e q,h.oG,h.src]
def D5(ts:List af)(q:ae)(s:Nat)(acc:List (List Int))(c:List aI):List (List Int):=
 if ((bG c).2.2 && !aU s (aB (fC ts q [(bG c).1,(bG c).2.1])))=true then bW ts q s (bW ts q s acc (bG c).1) (bG c).2.1 else acc
theorem bN.fC{q p:ae}(h:bN q p)(ts:List af):Zz.fC ts p=Zz.fC ts q:=by funext xs;unfold Zz.fC;rw[h.src]
theorem bN.bW{q p:ae}(h:bN q p)(ts:List af):Zz.bW ts p=Zz.bW ts q:=by funext s acc c;unfold Zz.bW;rw[h.fC ts]
theorem bN.alT(h:bN q p)(ts:List af):bH ts p=bH ts q:=by
 funext s;have e:∀ (r:ae) (i:List (List Int)),r.wh.foldl (iy ts r s) i=r.oG.foldl (D5 ts r s) i:=λr i=>by unfold ae.oG;rw[List.foldl_map];rfl
 have a:D5 ts p s=D5 ts q s:=by funext acc c;unfold D5;rw[h.fC ts,h.bW ts]
 unfold bH;rw[e p,e q,h.oG,a,h.fC ts,h.Oj]
theorem bN.bP{q p:ae}(h:bN q p)(rk:Nat->Int)(ts:List af)(room:Nat):Zz.bP rk ts p room=Zz.bP rk ts q room:=by unfold Zz.bP;rw[h.src,h.alT ts,h.plain ts]
