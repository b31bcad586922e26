import Derived.Test.YtgemohlbjehmbaaGreatDoorF20
set_option linter.all false
set_option maxRecDepth 100000
set_option maxHeartbeats 16000000
namespace Go.Proofs.Zz
open Go.RowKit Go.Shelf
variable {ts:List af} {k n s:Nat} {q:ae} {l:List aQ} {t u:aQ} {p:aj} {x:Nat × aQ} {g:List aj} {rk:Nat->Int} {H a:List aO} {σ τ:eF} {I conc:List Nat} {bS kind:Int} {o:List Int} {acc:List (List Int)}
theorem Ub{src:List Int}(hc:gH ts=true)(ha:di src ts.length=true){c:Int}(h0:0<=c)(hl:c<az ts src)(hs:s<src.length) :
  aA ts src c=s↔az ts (src.take s)<=c/\c<az ts (src.take (s+1)):=by
 obtain⟨a,b,d,_⟩:=QS hc ha h0 hl;constructor
 ·grind
 ·rintro⟨e,f⟩;rcases Nat.lt_trichotomy (aA ts src c) s with h | h | h
  ·have:=uJ hc ha (show aA ts src c+1<=s from h) (by omega);omega
  ·exact h
  ·have:=uJ hc ha (show s+1<=aA ts src c from h) (by omega);omega
section
variable (ts:List af) (q:ae) (plan:List ah) (db:List jJ)
def keyOf(n:ah):Int × Int × Bool:=iO ts q.src.xs (q.wh.getD n.key.toNat lz).cs ((ahU ts q plan n.l.toNat).getD vz).sources ((ahU ts q plan n.r.toNat).getD vz).sources
end
theorem OW(ok:Ok ts q){l S:List Int}(h:kJ ts q l S=true):∀ i∈l,(0<=i/\i<q.wh.length)/\∀ x∈aZ (q.wh.getD i.toNat lz).cs,0<=x/\x<(az ts q.src.xs).toNat/\((aA ts q.src.xs x:Nat):Int)∈S:=by
 intro i j;obtain⟨k,d,rfl⟩:=Qp j;unfold kJ at h;rw[Qk]at h;have a:=h k (Q0.2 d);have e:l.getD k 0=l[k]:=by simp_all
 rw[e]at a;simp only[Qj,Qs]at a;obtain⟨⟨⟨f,g⟩,_⟩,b⟩:=a;refine⟨⟨f,g⟩,λx m=>?_⟩;have n:=ok.aX _ (show (l[k]).toNat<q.wh.length by omega) x m;unfold bX at b;grind
def amq(cs:List aI):Prop:=cs.length=1/\(cs.getD 0 cz).not=false/\(cs.getD 0 cz).const=false/\(cs.getD 0 cz).op=0
theorem aaw{cs:List aI}(h:amq cs):aZ cs=[(cs.getD 0 cz).left,(cs.getD 0 cz).right]:=by
 obtain⟨a,_,b,d⟩:=h;obtain⟨c,rfl⟩:∃ c,cs=[c]:=by
  match cs,a with
  | [c],_ => simp_all
 simp only[List.getD_cons_zero]at *;unfold aZ aJ;simp_all
def uF(g:List aj)(t:aQ):Prop:=∀ p∈g,au t.d.order p.1=true->∃ x,p.2=some x/\x.2.d.cost<=t.d.cost
theorem ahF(h:p.2=some x):∃ y,(eP n t p).2=some y/\y.2.d.cost<=x.2.d.cost:=by
 unfold eP;split
 ·rename_i hc
  unfold dZ at hc;grind
 simp_all
theorem uF.offer(h:uF g u)(t:aQ):uF (gD g t) u:=λp f a=>by obtain⟨b,d,rfl⟩:=QZ.1 f;rw[uV]at a;obtain⟨x,e,i⟩:=h b d a;obtain⟨y,j,hy⟩:=ahF (n:=dJ g) (t:=t) e;grind
theorem uF.self(g:List aj)(t:aQ):uF (gD g t) t:=λp a b=>by
 obtain⟨d,e,rfl⟩:=QZ.1 a;rw[uV]at b;unfold eP;split
 ·simp_all
 ·rename_i hc
  unfold dZ at hc;grind
theorem uF.offers:∀ (l:List aQ) {x:Bool × List aj} {u:aQ},uF x.2 u->uF (l.foldl fV x).2 u
 | [],_,_,h => h
 | t::l,x,_,h => uF.offers l (x:=fV x t) (h.offer t)
theorem uF.all:∀ (l:List aQ) (x:Bool × List aj),∀ t∈l,uF (l.foldl fV x).2 t
 | [],_,_,h => by cases h
 | u::l,x,t,h => by
  rcases Zq.1 h with rfl | h
  ·exact uF.offers l (x:=fV x t) (uF.self x.2 t)
  ·exact uF.all l (fV x u) t h
theorem uF.nM{ts:List af}{q:ae}:∀ (os:List (List Int)) {g:List aj} {u:aQ},uF g u->uF (os.foldl (dK ts q) g) u
 | [],_,_,h => h
 | o::os,_,_,h => uF.nM os (h.offer _)
theorem uF.pq(h:uF g u)(l:List aQ):uF (aK ts q g l).2 u:=by
 unfold aK;split
 ·exact uF.nM _ (uF.offers l (x:=(false,g)) h)
 ·exact uF.offers l (x:=(false,g)) h
theorem uF.aew(ts:List af)(q:ae)(g:List aj)(l:List aQ):∀ t∈l,uF (aK ts q g l).2 t:=λt a=>by
 unfold aK;split
 ·exact uF.nM _ (uF.all l (false,g) t a)
 ·exact uF.all l (false,g) t a
theorem Un(h:g.any (dZ t)=false):gD g t=g:=by
 unfold gD;have key:∀ n (l:List aj),(∀ p∈l,dZ t p=false)->l.map (eP n t)=l:=by
  intro n l
  induction l with
  | nil => intro _; rfl
  | cons p l ih =>
   intro a;rw[List.map_cons,ih λp b=>a p (ZI _ b)];unfold eP;simp_all
 simp_all
theorem Di:∀ (l:List aQ) (x:Bool × List aj),(l.foldl fV x).1=false->x.1=false/\(l.foldl fV x).2=x.2
 | [],_,h => ⟨h,rfl⟩
 | t::l,x,h => by obtain⟨h1,h2⟩:=Di l (fV x t) h;have h1:(x.1 || x.2.any (dZ t))=false:=h1;rw[Bool.or_eq_false_iff]at h1;refine⟨h1.1,?_⟩;rw[QD,h2];exact Un h1.2
theorem AX(h:(aK ts q g l).1=false):(aK ts q g l).2=g:=by
 unfold aK at h ⊢;split at h
 ·cases h
 ·rename_i hc
  rw[Qu hc];exact(Di l (false,g) (Bool.not_eq_true _ ▸ hc)).2
theorem Dj{h:aQ}(e:bC g=some h)(hc:h.d.cost<=t.d.cost):bC (gD g t)=some h:=by
 match g,e with
 | [],e => cases e
 | (_,none)::_,e => cases e
 | (o,some y)::r,e =>
  have e:some y.2=some h:=e;injection e with e;show bC (eP _ t (o,some y)::_)=some h;unfold eP;rw[Qu (λa=>by
   unfold dZ at a;grind)]
  show some y.2=some h;rw[e]
theorem Dk{ts:List af}{q:ae}{h:aQ}(hs:∀ o,h.d.cost<=(bD ts q h o).d.cost):∀ (os:List (List Int)) {g:List aj},bC g=some h->bC (os.foldl (dK ts q) g)=some h/\∀ o∈os,uF (os.foldl (dK ts q) g) (bD ts q h o)
 | [],_,e => ⟨e,λ_ h => by cases h⟩
 | o::os,g,e => by
  have e1:dK ts q g o=gD g (bD ts q h o):=by unfold dK; rw[e]; rfl
  have e2:=Dj e (hs o);rw[QD,e1];obtain⟨h1,h2⟩:=Dk hs os e2;refine⟨h1,λo' ho=>?_⟩;rcases Zq.1 ho with rfl | ho
  ·grind [uF.nM,uF.self]
  simp_all
def Sor(ts:List af)(q:ae)(g:List aj):Prop:=∀ h,bC g=some h->∀ o∈(g.map Prod.fst).drop 1,uF g (bD ts q h o)
theorem Sor.pq(h:Sor ts q g)(hg:sJ q s g)(hl:∀ t∈l,IY q s t):Sor ts q (aK ts q g l).2:=by
 cases hi:(aK ts q g l).1 with
 | false => rw[AX hi]; exact h
 | true =>
  have n:=(uX (ts:=ts) hg hl).2.2;intro t a o m;rw[n]at m;have f:=pI (l:=l) (x:=(false,g)) hg hl (λe=>by cases e);unfold aK at hi a ⊢;split at hi
  ·rename_i hc
   rw[Qo hc]at a ⊢;have p:=f.2 hc;obtain⟨u,b⟩:=Xz.1 p;have v:∀ o,u.d.cost<=(bD ts q u o).d.cost:=λo=>by
    obtain⟨z,r,e,_⟩:=f.1.head;have j:=f.1.all;rw[e]at b j
    cases z with
    | none => cases b
    | some y =>
     have i:some y.2=some u:=b;injection i with i;have hy:=j ([],some y) ZJ y rfl;rw[i]at hy;exact oQ ts q u o hy.1.cost
   have k:=Dk (ts:=ts) (q:=q) v ((g.map Prod.fst).drop 1) b;have w:bC (((g.map Prod.fst).drop 1).foldl (dK ts q) (jQ g l).2)=some u:=k.1;rw[w]at a;injection a with a;rw[<- a];exact k.2 o m
  ·cases hi
def PM(ts:List af)(q:ae)(σ:eF)(s:Nat)(t:aQ):Prop:=
 if s=2 ^ q.src.xs.length-1 then ∀ e∈df ts q t,σ.bq.d.cost<=e.d.cost else uF (σ.groups.getD s []) t
structure Opt(ts:List af)(q:ae)(conc:List Nat)(σ:eF):Prop where
 scan:∀ i,i<q.src.xs.length->((2 ^ i,0):aO)∈σ.ak∨PM ts q σ (2 ^ i) (bQ ts q conc i)
 join:∀ A B,A<σ.groups.length->B<σ.groups.length->B≠0->A &&& B=0->(bC (σ.groups.getD A [])).isSome=true->(bC (σ.groups.getD B [])).isSome=true->((A,B):aO)∈σ.ak∨∀ t∈fK ts q conc (σ.groups.getD A []) (σ.groups.getD B []),PM ts q σ (A|||B) t
 sor:∀ s,s<σ.groups.length->Sor ts q (σ.groups.getD s [])
theorem ahead_zero{a b:aO}(h:qh rk a b=0):a=b:=by
 unfold qh at h;split at h
 ·omega
 ·split at h
  ·omega
  grind [oV]
theorem Ct(rk:Nat->Int)(a:List aO)(t:aO):t∈gI rk a t:=by
 unfold gI;split
 ·rename_i h
  unfold oh at h;rw[Qj,Qs,Qs]at h;have e:=ahead_zero h.2;grind
 ·simp
theorem Gc{x:aO}(h:x∈a)(t:aO):x∈gI rk a t:=by
 unfold gI;split
 ·exact h
 ·rw[<- ZX (mK rk a t) a]at h
  grind
theorem tZ{rk:Nat->Int}{s:Nat}{gs:List (List aj)}{x:aO}:∀ (ks:List Nat) {a:List aO},x∈a->x∈ks.foldl (dY rk s gs) a
 | [],_,h => h
 | k::ks,a,h => by
  refine tZ ks (a:=dY rk s gs a k) ?_;unfold dY;split
  ·grind [Gc]
  ·exact h
theorem Gd{rk:Nat->Int}{s:Nat}{gs:List (List aj)}{k:Nat}(hk:(bC (gs.getD k [])).isSome=true)(h0:k &&& s=0):∀ (ks:List Nat) (a:List aO),k∈ks->((s,k):aO)∈ks.foldl (dY rk s gs) a/\((k,s):aO)∈ks.foldl (dY rk s gs) a
 | [],_,h => by cases h
 | j::ks,a,h => by
  rcases Zq.1 h with rfl | h
  ·have e:dY rk s gs a k=gI rk (gI rk a (s,k)) (k,s):=by unfold dY;simp_all
   rw[QD,e];exact⟨tZ ks (Gc (Ct ..) _),tZ ks (Ct ..)⟩
  ·exact Gd hk h0 ks _ h
theorem aaz{x:aO}(h:x∈a)(hx:x≠a.getD k (0,0)):x∈a.eraseIdx k:=by
 by_cases b:k<a.length
 ·rw[List.eraseIdx_eq_take_drop_succ];rw[<- ZX k a,List.drop_eq_getElem_cons b]at h
  grind
 ·rw[List.eraseIdx_of_length_le (by omega)];exact h
theorem AY:∀ (l:List aQ) (b:aQ),(dV b l).d.cost<=b.d.cost/\∀ t∈l,(dV b l).d.cost<=t.d.cost
 | [],b => ⟨Qn _,λ_ h => by cases h⟩
 | t::l,b => by
  obtain⟨h1,h2⟩:=AY l (jy b t);have h3:(jy b t).d.cost<=b.d.cost/\(jy b t).d.cost<=t.d.cost:=by unfold jy;grind
  have e:dV b (t::l)=dV (jy b t) l:=rfl;grind
theorem Cu{ts:List af}{q:ae}:∀ (l:List aQ) (b:aQ),(l.foldl (iN ts q) b).d.cost<=b.d.cost/\∀ t∈l,∀ e∈df ts q t,(l.foldl (iN ts q) b).d.cost<=e.d.cost
 | [],b => ⟨Qn _,λ_ h => by cases h⟩
 | t::l,b => by obtain⟨h1,h2⟩:=Cu (ts:=ts) (q:=q) l (iN ts q b t);obtain⟨h3,h4⟩:=AY (df ts q t) b;have e0:iN ts q b t=dV b (df ts q t):=rfl;grind
theorem mD(hk:k≠s):(cO rk ts q s l σ).groups.getD k []=σ.groups.getD k []:=by unfold cO;grind
theorem wX:(cO rk ts q s l σ).groups.length=σ.groups.length:=by unfold cO;grind
theorem Jr(h:PM ts q σ k t):PM ts q (cO rk ts q s l σ) k t:=by
 unfold PM at h ⊢;unfold cO;split at h
 ·rename_i hk
  rw[Qo hk];split
  ·intro e a;have:=(Cu (ts:=ts) (q:=q) l σ.bq).1
   grind
  ·exact h
 ·rename_i hk
  rw[Qu hk];split
  ·exact h
  ·show uF ((σ.groups.set s _).getD k []) t
   rw[kC];split
   ·rename_i e
    rw[<- e.1]at h;exact h.pq l
   ·exact h
theorem Js(hs:s=2 ^ q.src.xs.length-1∨s<σ.groups.length):∀ t∈l,PM ts q (cO rk ts q s l σ) s t:=λt a=>by
 unfold PM cO;split
 ·exact(Cu (ts:=ts) (q:=q) l σ.bq).2 t a
 ·rename_i hk
  show uF ((σ.groups.set s _).getD s []) t;rw[kC,Qo ⟨rfl,hs.resolve_left hk⟩];exact uF.aew ts q _ l t a
theorem AZ{x:aO}(h:x∈σ.ak):x∈(cO rk ts q s l σ).ak:=by
 unfold cO;split
 ·exact h
 ·show x∈(if _ then kM rk s _ σ.ak else σ.ak)
  split
  ·exact tZ _ h
  ·exact h
theorem O0:(cO rk ts q s l σ).groups.getD s []=σ.groups.getD s []∨∀ k,k<σ.groups.length->(bC ((cO rk ts q s l σ).groups.getD k [])).isSome=true->k &&& s=0->((s,k):aO)∈(cO rk ts q s l σ).ak/\((k,s):aO)∈(cO rk ts q s l σ).ak:=by
 unfold cO;split
 ·simp_all
 ·cases hi:(aK ts q (σ.groups.getD s []) l).1 with
  | false =>
   refine .inl ?_;show (σ.groups.set s _).getD s []=_;rw[kC];split
   ·exact AX hi
   ·rfl
  | true =>
   refine .inr λk d a b=>?_;show _∈(if (aK ts q (σ.groups.getD s []) l).1=true then kM rk s (σ.groups.set s (aK ts q (σ.groups.getD s []) l).2) σ.ak else σ.ak)/\_∈(if (aK ts q (σ.groups.getD s []) l).1=true then kM rk s (σ.groups.set s (aK ts q (σ.groups.getD s []) l).2) σ.ak else σ.ak);rw[Qo hi];exact Gd a b _ _ (Q0.2 (by simp_all))
theorem aaA{α:Type} [BEq α] [LawfulBEq α] (Ts H:List α) (a:α):(Ts.map λt=>(a::H).count t).sum=(Ts.map λt=>H.count t).sum+Ts.count a:=by
 induction Ts with
 | nil => rfl
 | cons t Ts ih =>
  grind
theorem yY{α:Type} [BEq α] [LawfulBEq α] (p:α->Bool) (Ts:List α):∀ H:List α,(∀ t∈H,p t=true->t∈Ts)->H.countP p<=(Ts.map λt=>H.count t).sum
 | [],_ => by simp
 | a::H,h => by have ih:=yY p Ts H λt ht=>h t (ZI _ ht);rw[List.countP_cons,aaA];grind
def splits(S:Nat):List aO:=((List.range S).filter λA=>decide (0<A/\A &&& (S-A)=0)).map λA=>(A,S-A)
def Uo:Nat->Nat->Nat
 | 0,_ => 0
 | f+1,S => 1+((splits S).map λt => Uo f t.1+Uo f t.2).sum
structure O3(n:Nat)(a:List aO)(H:List aO)(I:List Nat):Prop where
 two:∀ A B,B≠0->H.count (A,B)+a.count (A,B)<=I.count A+I.count B
 one:∀ A,H.count (A,0)+a.count (A,0)<=1
 imp:∀ S,I.count S<=H.countP λt=>decide (t.1|||t.2=S)
 ok:∀ t∈H,(t.2=0∨t.1≠0/\t.2≠0/\t.1 &&& t.2=0)/\t.1|||t.2<2 ^ n
theorem ahG:∀ A,A<32->∀ B,B<32->A &&& B=0->A|||B=A+B:=by decide +kernel
theorem O3.made(h:O3 n a H I){S:Nat}(hS:S<32):H.countP (λt=>decide (t.1|||t.2=S))<=1+((splits S).map λt=>I.count t.1+I.count t.2).sum:=by
 have h1:=yY (λt:aO=>decide (t.1|||t.2=S)) ((S,0)::splits S) H λt ht hp=>by
  have hp':t.1|||t.2=S:=XA hp;rcases (h.ok t ht).1 with h0 | ⟨h1,h2,h3⟩
  ·grind
  ·have l1:t.1<=S:=hp' ▸ Nat.left_le_or;have l2:t.2<=S:=hp' ▸ Nat.right_le_or;have e:=ahG t.1 (by omega) t.2 (by omega) h3;refine ZI _ (QZ.2 ⟨t.1,List.mem_filter.2 ⟨Q0.2 (by omega),Qv ⟨by omega,?_⟩⟩,?_⟩)
   ·grind
   grind
 rw[List.map_cons,List.sum_cons]at h1;have h2:=h.one S;have h3:((splits S).map λt=>H.count t).sum<=((splits S).map λt=>I.count t.1+I.count t.2).sum:=by
  have key:∀ l:List aO,(∀ t∈l,t.2≠0)->(l.map λt=>H.count t).sum<=(l.map λt=>I.count t.1+I.count t.2).sum:=by
   intro l
   induction l with
   | nil => intro _; simp
   | cons t l ih =>
    intro hl;have:=h.two t.1 t.2 (hl t ZJ);grind
  refine key _ λt ht=>?_;obtain⟨A,hA,rfl⟩:=QZ.1 ht;grind
 omega
theorem O3.bound{n:Nat}{a H:List aO}{I:List Nat}(h:O3 n a H I):∀ f S,S<f->S<32->I.count S<=Uo f S
 | 0,_,hf,_ => by omega
 | f+1,S,hf,hS => by
  have h1:=Q6 (h.imp S) (h.made hS);have h2:((splits S).map λt=>I.count t.1+I.count t.2).sum<=((splits S).map λt=>Uo f t.1+Uo f t.2).sum:=by
   have key:∀ l:List aO,(∀ t∈l,t.1<S/\t.2<S)->(l.map λt=>I.count t.1+I.count t.2).sum<=(l.map λt=>Uo f t.1+Uo f t.2).sum:=by
    intro l
    induction l with
    | nil => intro _; simp
    | cons t l ih =>
     intro hl;have ht:=hl t ZJ;have e1:=h.bound f t.1 (by omega) (by omega);have e2:=h.bound f t.2 (by omega) (by omega);have:=ih λt ht=>hl t (ZI _ ht);grind
   refine key _ λt ht=>?_;obtain⟨A,hA,rfl⟩:=QZ.1 ht;grind
  show _<=1+_;omega
theorem amF:∀ n,n<=5->((List.range (2 ^ n)).map λS=>1+((splits S).map λt=>Uo 32 t.1+Uo 32 t.2).sum).sum<=7000:=by decide +kernel
theorem O3.len(hn:n<=5)(h:O3 n a H I):H.length<=7000:=by
 have j:2 ^ n<=32:=by have:=QI (show 0<2 by omega) hn;omega
 have f:=yY (λ_:Nat=>true) (List.range (2 ^ n)) (H.map λt=>t.1|||t.2) λS e _=>by obtain⟨t,b,rfl⟩:=QZ.1 e;grind [O3.ok]
 rw[List.countP_true,QQ]at f;refine Q6 f (Q6 ?_ (amF n hn));have key:∀ l:List Nat,(∀ S∈l,S<32)->(l.map λS=>(H.map λt=>t.1|||t.2).count S).sum<=(l.map λS=>1+((splits S).map λt=>Uo 32 t.1+Uo 32 t.2).sum).sum:=by
  intro l
  induction l with
  | nil => intro _; simp
  | cons S l ih =>
   intro d;have e:=d S ZJ;have k:(H.map λt=>t.1|||t.2).count S=H.countP λt=>decide (t.1|||t.2=S):=by rw[List.count,List.countP_map];rfl
   have g:=h.made e;have i:((splits S).map λt=>I.count t.1+I.count t.2).sum<=((splits S).map λt=>Uo 32 t.1+Uo 32 t.2).sum:=by
    have k2:∀ l:List aO,(∀ t∈l,t.1<32/\t.2<32)->(l.map λt=>I.count t.1+I.count t.2).sum<=(l.map λt=>Uo 32 t.1+Uo 32 t.2).sum:=by
     intro l
     induction l with
     | nil => intro _; simp
     | cons t l ih =>
      intro d;have b:=d t ZJ;have g:=h.bound 32 t.1 b.1 b.1;have i:=h.bound 32 t.2 b.2 b.2;have:=ih λt b=>d t (ZI _ b);grind
    refine k2 _ λt b=>?_;obtain⟨A,m,rfl⟩:=QZ.1 b;grind
   grind
 grind
theorem qy(rk:Nat->Int)(a:List aO)(t x:aO):(gI rk a t).count x<=a.count x+[t].count x:=by
 unfold gI;split
 ·omega
 ·have e:a.count x=(a.take (mK rk a t)).count x+(a.drop (mK rk a t)).count x:=by rw[<- List.count_append,ZX]
  grind
theorem O4(hk:k<a.length)(x:aO):(a.eraseIdx k).count x+[a.getD k (0,0)].count x=a.count x:=by
 have e:a=a.take k++([a.getD k (0,0)]++a.drop (k+1)):=by simp_all
 grind
theorem A7(rk:Nat->Int)(s:Nat)(gs:List (List aj))(A B:Nat):∀ (ks:List Nat) (a:List aO),(ks.foldl (dY rk s gs) a).count (A,B)<=a.count (A,B)+(if A=s then ks.count B else 0)+(if B=s then ks.count A else 0)
 | [],a => by simp
 | k::ks,a => by
  have ih:=A7 rk s gs A B ks (dY rk s gs a k);rw[QD];refine Q6 ih ?_;have h1:(dY rk s gs a k).count (A,B)<=a.count (A,B)+(if s=A/\k=B then 1 else 0)+(if k=A/\s=B then 1 else 0):=by
   unfold dY;split
   ·have e1:=qy rk (gI rk a (s,k)) (k,s) (A,B);have e2:=qy rk a (s,k) (A,B)
    grind
   ·omega
  grind
theorem Dl{rk:Nat->Int}{s:Nat}{gs:List (List aj)}(hs:s≠0)(h0:(bC (gs.getD 0 [])).isSome=false)(A:Nat):∀ (ks:List Nat) (a:List aO),(ks.foldl (dY rk s gs) a).count (A,0)<=a.count (A,0)
 | [],a => Qn _
 | k::ks,a => by
  refine Q6 (Dl hs h0 A ks (dY rk s gs a k)) ?_;unfold dY;split
  ·rename_i hc
   rw[Qj]at hc;have hk:k≠0:=λe=>by simp_all
   have e1:=qy rk (gI rk a (s,k)) (k,s) (A,0);have e2:=qy rk a (s,k) (A,0);grind
  ·omega
theorem Dm(n x:Nat):(List.range n).count x<=1:=by grind
theorem Jt{t:aO}(hs:s≠0)(e:t.1|||t.2=s)(h0:(bC (σ.groups.getD 0 [])).isSome=false)(h:O3 n σ.ak (t::H) I)(hi:∀ S,I.count S<=H.countP λt=>decide (t.1|||t.2=S)):∃ I',O3 n (cO rk ts q s l σ).ak (t::H) I':=by
 unfold cO;split
 ·grind
 show ∃ I',O3 n (if (aK ts q (σ.groups.getD s []) l).1=true then kM rk s (σ.groups.set s (aK ts q (σ.groups.getD s []) l).2) σ.ak else σ.ak) (t::H) I';split
 ·refine⟨s::I,λA B hB=>?_,λA=>?_,λS=>?_,h.ok⟩
  ·have h1:=A7 rk s (σ.groups.set s (aK ts q (σ.groups.getD s []) l).2) A B (List.range (σ.groups.set s (aK ts q (σ.groups.getD s []) l).2).length) σ.ak;have h2:=h.two A B hB;have h3:=Dm (σ.groups.set s (aK ts q (σ.groups.getD s []) l).2).length A;have h4:=Dm (σ.groups.set s (aK ts q (σ.groups.getD s []) l).2).length B;unfold kM
   grind
  ·have h1:=Dl (rk:=rk) (gs:=σ.groups.set s (aK ts q (σ.groups.getD s []) l).2) hs (by simp_all) A (List.range (σ.groups.set s (aK ts q (σ.groups.getD s []) l).2).length) σ.ak;have h2:=h.one A;unfold kM;omega
  grind
 grind
theorem aaB(h:uu q σ)(h1:σ.status=1)(h0:0<q.src.xs.length)(hn:n=q.src.xs.length)(pick:Int)(hc:O3 n σ.ak H I):∃ t v,O3 n (fu rk ts q conc pick σ).ak (t::H) v:=by
 have j:=h.stat h1;have w:=pJ j pick;have l:σ.ak.getD (dP σ.ak.length pick).toNat (0,0)∈σ.ak:=by simp_all
 have m:=h.core.task _ l;have o:=O4 (a:=σ.ak) (k:=(dP σ.ak.length pick).toNat) (by omega);have b:∀ τ:eF,(iA τ).ak=τ.ak:=λτ=>by unfold iA; split <;> rfl
 unfold fu;simp only;rw[b];generalize σ.ak.getD (dP σ.ak.length pick).toNat (0,0)=t at *;refine⟨t,?_⟩;have y:=h.core.kT;have p:1<2 ^ q.src.xs.length:=Nat.one_lt_two_pow (by omega);have hz:=(h.core.jd 0 (by omega)).zero;have r:∀ x,(t::H).count x=H.count x+[t].count x:=λx=>by grind
 have f:(t.2=0∨t.1≠0/\t.2≠0/\t.1 &&& t.2=0)/\t.1|||t.2<2 ^ n/\t.1|||t.2≠0:=by
  subst hn;rcases m with⟨e0,i,hi,e⟩ | ⟨e0,a1,a2,a3,a4,a5⟩
  ·refine⟨.inl e0,?_⟩;rw[e0,Nat.or_zero,e];exact⟨ZN (by omega) hi,by simp_all⟩
  ·have s:t.1≠0:=λe=>by simp_all
   refine⟨.inr ⟨s,e0,a3⟩,pW (by omega) (by omega),?_⟩;simp_all
 have d:O3 n (σ.ak.eraseIdx (dP σ.ak.length pick).toNat) (t::H) I:=by
  refine⟨λA B u=>?_,λA=>?_,λS=>?_,λx g=>?_⟩
  ·have:=hc.two A B u
   grind
  ·have:=hc.one A
   grind
  ·have:=hc.imp S
   grind
  ·rcases Zq.1 g with rfl | g
   ·omega
   ·exact hc.ok x g
 unfold qM;split
 ·rename_i e0
  have e:t.1|||t.2=t.1:=by simp_all
  exact Jt (by omega) e hz d hc.imp
 ·exact Jt f.2.2 rfl hz d hc.imp
theorem yZ(rk:Nat->Int)(x:aO):∀ (ks:List Nat) (a:List aO),(ks.foldl (λa (i:Nat)=>gI rk a (2 ^ i,0)) a).count x<=a.count x+(ks.map λi=>((2 ^ i,0):aO)).count x
 | [],a => by simp
 | k::ks,a => by have h1:=yZ rk x ks (gI rk a (2 ^ k,0));have h2:=qy rk a (2 ^ k,0) x;grind
theorem aaC(rk:Nat->Int)(ts:List af)(q:ae)(room:Nat)(n:Nat):O3 n (bP rk ts q room).ak [] []:=by
 refine⟨λA B o=>?_,λA=>?_,λS=>by simp,λ_ h=>by cases h⟩
 ·have b:=yZ rk (A,B) (List.range q.src.xs.length) [];rw[List.count_eq_zero_of_not_mem (l:=(List.range q.src.xs.length).map λi=>((2 ^ i,0):aO)) (λh=>by
   grind)]at b
  have d:([]:List aO).count (A,B)=0:=rfl;show _+((List.range q.src.xs.length).foldl (λa (i:Nat)=>gI rk a (2 ^ i,0)) []).count (A,B)<=_;omega
 ·have b:=yZ rk (A,0) (List.range q.src.xs.length) [];have f:∀ m,((List.range m).map λi=>((2 ^ i,0):aO)).count (A,0)<=1:=by
   intro m
   induction m with
   | zero => simp
   | succ m ih =>
    rw[QM,Qi,List.count_append];by_cases e:2 ^ m=A
    ·rw[List.count_eq_zero_of_not_mem (l:=(List.range m).map λi=>((2 ^ i,0):aO)) (λh=>by
      obtain⟨i,g,j⟩:=QZ.1 h;injection j with e1 e2;have:=ZN (a:=2) (by omega) (Q0.1 g);omega)]
     simp_all
    simp_all
  have k:=f q.src.xs.length;have d:([]:List aO).count (A,0)=0:=rfl;show ([]:List aO).count (A,0)+((List.range q.src.xs.length).foldl (λa (i:Nat)=>gI rk a (2 ^ i,0)) []).count (A,0)<=_;omega
theorem O5{rk:Nat->Int}{ts:List af}{q:ae}{conc:List Nat}(hcn:conc.length=q.wh.length)(h5:q.src.xs.length<=5)(h0:0<q.src.xs.length)(picks:List Int){σ:eF}(h:uu q σ)(hc:O3 q.src.xs.length σ.ak [] []):∀ m,∃ H I,O3 q.src.xs.length (runN rk ts q conc picks m 0 σ).ak H I/\((runN rk ts q conc picks m 0 σ).status=1->H.length=m)
 | 0 => ⟨[],[],hc,λ_ => rfl⟩
 | m+1 => by
  obtain⟨H,I,h1,h2⟩:=O5 (rk:=rk) (ts:=ts) hcn h5 h0 picks h hc m;rw[iT];split
  ·rename_i hs
   obtain⟨t,I',h3⟩:=aaB (rk:=rk) (ts:=ts) (conc:=conc) (mr hcn h5 picks h m).1 hs h0 rfl (jU picks (0+m)) h1;grind
  grind
theorem aaD(hcn:conc.length=q.wh.length)(h5:q.src.xs.length<=5)(h0:0<q.src.xs.length)(picks:List Int)(h:uu q σ)(hc:O3 q.src.xs.length σ.ak [] []):(runN rk ts q conc picks 7001 0 σ).status≠1:=λe=>by obtain⟨H,I,a,b⟩:=O5 (rk:=rk) (ts:=ts) hcn h5 h0 picks h hc 7001;have:=a.len h5;omega
theorem PM.same(h:PM ts q σ k t)(hg:τ.groups=σ.groups)(hb:τ.bq=σ.bq):PM ts q τ k t:=by unfold PM at h ⊢;simp_all
theorem Ju{t:aO}(hO:Opt ts q conc σ)(hc:mM q σ)(hag:∀ x∈σ.ak,x≠t->x∈τ.ak)(hgr:τ.groups=σ.groups)(hb:τ.bq=σ.bq)(hs:s<2 ^ q.src.xs.length)(hl:∀ x∈l,IY q s x)(hscan:∀ i:Nat,i<q.src.xs.length->t=(2 ^ i,0)->2 ^ i=s/\bQ ts q conc i∈l)
  (ar4:∀ A B,t=(A,B)->B≠0->A|||B=s/\fK ts q conc (σ.groups.getD A []) (σ.groups.getD B [])=l):Opt ts q conc (cO rk ts q s l τ):=by
 have n:s=2 ^ q.src.xs.length-1∨s<τ.groups.length:=by rw[hgr,hc.kT];omega
 refine⟨λi u=>?_,λA B o p b y d f=>?_,λk m=>?_⟩
 ·rcases hO.scan i u with a | a
  ·by_cases e:((2 ^ i,0):aO)=t
   ·obtain⟨g,j⟩:=hscan i u e.symm;refine .inr ?_
    grind [Js]
   ·exact .inl (AZ (hag _ a e))
  ·exact .inr (Jr (a.same hgr hb))
 ·rw[wX]at o p;have key:((cO rk ts q s l τ).groups.getD A []=σ.groups.getD A []/\(cO rk ts q s l τ).groups.getD B []=σ.groups.getD B [])∨((A,B):aO)∈(cO rk ts q s l τ).ak:=by
   rcases O0 (rk:=rk) (ts:=ts) (q:=q) (s:=s) (l:=l) (σ:=τ) with h | h
   ·have all:∀ k,(cO rk ts q s l τ).groups.getD k []=σ.groups.getD k []:=λk=>by
     rw[<- hgr];by_cases e:k=s
     ·simp_all
     grind [mD]
    simp_all
   ·by_cases g:A=s
    ·grind
    ·by_cases j:B=s
     ·simp_all
     ·exact .inl ⟨by rw[mD g,hgr],by rw[mD j,hgr]⟩
  rcases key with⟨g,j⟩ | h
  ·rw[g]at d ⊢;rw[j]at f ⊢;rw[hgr]at o p;rcases hO.join A B o p b y d f with a | a
   ·by_cases e:((A,B):aO)=t
    ·obtain⟨v,w⟩:=ar4 A B e.symm b;refine .inr ?_;rw[v,w];exact Js n
    ·exact .inl (AZ (hag _ a e))
   ·exact .inr λx z=>Jr ((a x z).same hgr hb)
  simp_all
 ·rw[wX,hgr]at m;have r:=hO.sor k m;by_cases e:k=s
  ·subst e;unfold cO;split
   ·simp_all
   ·show Sor ts q ((τ.groups.set k _).getD k [])
    rw[kC,hgr,Qo ⟨rfl,m⟩];exact r.pq (hc.jd k m) hl
  ·rw[mD e,hgr];exact r
theorem aaE(hcn:conc.length=q.wh.length)(h:uu q σ)(h5:q.src.xs.length<=5)(h1:σ.status=1)(pick:Int)(hO:Opt ts q conc σ):Opt ts q conc (fu rk ts q conc pick σ):=by
 have l:=h.stat h1;have m:=pJ l pick;have n:σ.ak.getD (dP σ.ak.length pick).toNat (0,0)∈σ.ak:=by simp_all
 have o:=h.core.task _ n;have d:∀ x∈σ.ak,x≠σ.ak.getD (dP σ.ak.length pick).toNat (0,0)->x∈σ.ak.eraseIdx (dP σ.ak.length pick).toNat:=λx b p=>aaz b p;have f:∀ τ:eF,Opt ts q conc τ->Opt ts q conc (iA τ):=λτ g=>by
  unfold iA;split
  ·exact g
  ·exact⟨g.scan,g.join,g.sor⟩
 unfold fu;refine f _ ?_;generalize σ.ak.getD (dP σ.ak.length pick).toNat (0,0)=t at *;have y:=h.core.kT;unfold qM;rcases o with⟨h0,i,hi,e⟩ | ⟨h0,a1,a2,a3,a4,a6⟩
 ·rw[Qo h0,e,rY i (by omega)];have m:0<2 ^ i:=ZU (by omega);have k:=nR ts q hcn (s:=(i:Int)) (by omega) (by omega);refine Ju (t:=t) hO h.core d rfl rfl (ZN (by omega) hi) (λx b=>?_) (λj r u=>?_) (λA B v w=>?_)
  ·rw[Zy]at b;rw[b];exact⟨k.1,k.2.1,by omega⟩
  ·have z:2 ^ j=2 ^ i:=by simp_all
   have C:j=i:=by
    rcases Nat.lt_trichotomy j i with c | c | c
    ·have:=ZN (a:=2) (by omega) c; omega
    ·exact c
    ·have:=ZN (a:=2) (by omega) c; omega
   simp_all
  simp_all
 ·rw[Qu h0];rw[h.core.kT]at a1 a2;refine Ju (t:=t) hO h.core d rfl rfl (pW (by omega) (by omega)) (λx b=>?_) (λj r u=>?_) (λA B v w=>?_)
  ·exact rV hcn a3 (h.core.jd _ (by omega)) (h.core.jd _ (by omega)) a6 x b
  ·simp_all
  simp_all
theorem Jv{rk:Nat->Int}{i:Nat}:∀ (ks:List Nat) (a:List aO),i∈ks∨((2 ^ i,0):aO)∈a->((2 ^ i,0):aO)∈ks.foldl (λa (i:Nat)=>gI rk a (2 ^ i,0)) a
 | [],_,h => h.elim (λh => by cases h) id
 | k::ks,a,h => by
  refine Jv ks _ ?_;rcases h with h | h
  ·rcases Zq.1 h with rfl | h
   ·exact .inr (Ct ..)
   simp_all
  ·exact .inr (Gc h _)
theorem Uq(os:List (List Int)):bC (dE os)=none:=by cases os <;> rfl
theorem aaF(rk:Nat->Int)(ts:List af)(q:ae)(conc:List Nat)(room:Nat):Opt ts q conc (bP rk ts q room):=by
 have b:∀ s,bC ((bP rk ts q room).groups.getD s [])=none:=λs=>by
  show bC (((List.range (2 ^ q.src.xs.length-1)).map λs=>dE ((bH ts q s).take room)).getD s [])=none;rw[Xo,ZL]
  cases (List.range (2 ^ q.src.xs.length-1))[s]? with
  | none => rfl
  | some k => exact Uq _
 refine⟨λi a=>.inl (Jv _ _ (.inl (Q0.2 a))),λA B _ _ _ _ d=>?_,λs _ h e=>?_⟩
 ·grind
 grind
theorem O6{rk:Nat->Int}{ts:List af}{q:ae}{conc:List Nat}(hcn:conc.length=q.wh.length)(h5:q.src.xs.length<=5)(picks:List Int){σ:eF}(h:uu q σ)(hO:Opt ts q conc σ):∀ m,Opt ts q conc (runN rk ts q conc picks m 0 σ)
 | 0 => hO
 | m+1 => by
  have ih:=O6 (rk:=rk) hcn h5 picks h hO m;rw[iT];split
  ·rename_i hs
   exact aaE hcn (mr hcn h5 picks h m).1 h5 hs _ ih
  ·exact ih
structure Fin(ts:List af)(q:ae)(conc:List Nat)(σ:eF):Prop where
 scan:∀ i:Nat,i<q.src.xs.length->PM ts q σ (2 ^ i) (bQ ts q conc i)
 join:∀ A B,A<σ.groups.length->B<σ.groups.length->B≠0->A &&& B=0->(bC (σ.groups.getD A [])).isSome=true->(bC (σ.groups.getD B [])).isSome=true->∀ t∈fK ts q conc (σ.groups.getD A []) (σ.groups.getD B []),PM ts q σ (A|||B) t
 sor:∀ s,s<σ.groups.length->Sor ts q (σ.groups.getD s [])
theorem Opt.fin(h:Opt ts q conc σ)(e:σ.ak=[]):Fin ts q conc σ:=by refine⟨λi j=>(h.scan i j).resolve_left (by rw[e]; simp),λA B a b c d f g=>(h.join A B a b c d f g).resolve_left (by rw[e]; simp),h.sor⟩
theorem Gf{rk:Nat->Int}{ts:List af}{q:ae}{conc:List Nat}(picks:List Int){σ:eF}(h:σ.status=1):∀ m,(runN rk ts q conc picks m 0 σ).status≠1->(runN rk ts q conc picks m 0 σ).ak=[]
 | 0,hs => absurd h hs
 | m+1,hs => by
  have ih:=Gf (rk:=rk) (ts:=ts) (q:=q) (conc:=conc) picks h m;rw[iT]at hs ⊢;split at hs
  ·rename_i h1
   rw[Qo h1];generalize runN rk ts q conc picks m 0 σ=τ at *;unfold fu iA at hs ⊢;simp only at hs ⊢;split at hs
   ·rename_i hz
    exfalso;apply hs;have:∀ (t:aO) (τ:eF),(qM rk ts q conc t τ).status=τ.status:=λt τ=>by unfold qM cO;grind
    simp_all
   simp_all
  simp_all
structure Tg(g:List aj):Prop where
 tag:∀ p∈g,∀ p'∈g,∀ x x':Nat × aQ,p.2=some x->p'.2=some x'->x.1=x'.1->x.2=x'.2
 ord:∀ p∈g,∀ x:Nat × aQ,p.2=some x->au x.2.d.order p.1=true
theorem wY:∀ {g:List aj} {p:aj} {x:Nat × aQ},p∈g->p.2=some x->x.1<dJ g
 | [],_,_,h,_ => by cases h
 | (o,none)::g,p,x,h,e => by
  rcases Zq.1 h with rfl | h
  ·cases e
  ·exact wY (g:=g) h e
 | (o,some y)::g,p,x,h,e => by
  show x.1<max (y.1+1) (dJ g);rcases Zq.1 h with rfl | h
  ·grind
  ·have:=wY (g:=g) h e;omega
theorem A8(h:(eP n t p).2=some x):(x=(n,t)/\au t.d.order p.1=true)∨p.2=some x:=by
 unfold eP at h;split at h
 ·rename_i hc
  unfold dZ at hc;simp_all
 simp_all
theorem Tg.offer(h:Tg g)(t:aQ):Tg (gD g t):=by
 refine⟨λp b l d x m e a n=>?_,λp b x e=>?_⟩
 ·obtain⟨i,f,rfl⟩:=QZ.1 b;obtain⟨k,j,rfl⟩:=QZ.1 d;rcases A8 e with⟨rfl,_⟩ | e
  ·rcases A8 a with⟨rfl,_⟩ | a
   ·rfl
   ·have:=wY j a;omega
  ·rcases A8 a with⟨rfl,_⟩ | a
   ·have:=wY f e;omega
   grind [Tg.tag]
 ·obtain⟨i,f,rfl⟩:=QZ.1 b;rw[uV];rcases A8 e with⟨rfl,hs⟩ | e
  ·exact hs
  grind [Tg.ord]
theorem Tg.offers:∀ (l:List aQ) {x:Bool × List aj},Tg x.2->Tg (l.foldl fV x).2
 | [],_,h => h
 | t::l,x,h => Tg.offers l (x:=fV x t) (h.offer t)
theorem Tg.nM{ts:List af}{q:ae}:∀ (os:List (List Int)) {g:List aj},Tg g->Tg (os.foldl (dK ts q) g)
 | [],_,h => h
 | _::os,_,h => Tg.nM os (h.offer _)
theorem Tg.pq(h:Tg g)(l:List aQ):Tg (aK ts q g l).2:=by
 unfold aK;split
 ·exact Tg.nM _ (Tg.offers l (x:=(false,g)) h)
 ·exact Tg.offers l (x:=(false,g)) h
theorem Tg.new(os:List (List Int)):Tg (dE os):=by
 have key:∀ p∈dE os,p.2=none:=λp a=>by obtain⟨o,_,rfl⟩:=QZ.1 a;rfl
 refine⟨λp a _ _ x _ e=>?_,λp a x e=>?_⟩ <;> (rw[key p a]at e; cases e)
theorem Dn:∀ (g:List aj) {acc:List (Nat × aQ)} {y:Nat × aQ},y∈acc->y∈g.foldl kG acc
 | [],_,_,h => h
 | p::g,acc,y,h => by refine Dn g (acc:=kG acc p) ?_;grind [kG]
theorem Gg:∀ (g:List aj) (acc:List (Nat × aQ)) {p:aj} {x:Nat × aQ},p∈g->p.2=some x->∃ y∈g.foldl kG acc,y.1=x.1
 | [],_,_,_,h,_ => by cases h
 | p0::g,acc,p,x,h,e => by
  rcases Zq.1 h with rfl | h
  ·rw[QD];have:∃ y∈kG acc p,y.1=x.1:=by grind [kG]
   obtain⟨y,hy,e2⟩:=this;exact⟨y,Dn g hy,e2⟩
  ·exact Gg g _ h e
theorem Tg.piece(h:Tg g)(hp:p∈g)(e:p.2=some x):∃ n,(n,x.2)∈dG g:=by
 obtain⟨y,hy,i⟩:=Gg g [] hp e;rcases kg g [] y hy with a | ⟨d,b,f⟩
 ·cases a
 grind [Tg.tag,dG]
theorem Gh(bS:Int):∀ (l:List (Nat × aQ)) (m:Option aQ) {t:aQ},(m=some t∨au t.d.order [bS]=true/\∃ n,(n,t)∈l)->∃ u,l.foldl (kQ bS) m=some u/\u.d.cost<=t.d.cost
 | [],m,t,h => by simp_all
 | x::l,m,t,h => by
  have trans:∀ v:aQ,(kQ bS m x=some v)->v.d.cost<=t.d.cost->∃ u,(x::l).foldl (kQ bS) m=some u/\u.d.cost<=t.d.cost:=λv e hv=>by obtain⟨u,h1,h2⟩:=Gh bS l (kQ bS m x) (.inl e);grind
  rcases h with rfl | ⟨hs,n,h⟩
  ·unfold kQ at trans;by_cases c:(au x.2.d.order [bS]&&decide (x.2.d.cost<t.d.cost))=true
   ·refine trans x.2 (Qo c) ?_
    grind
   ·exact trans t (Qu c) (Qn _)
  ·rcases Zq.1 h with rfl | h
   ·unfold kQ at trans;simp only[hs,Qw]at trans
    cases m with
    | none => exact trans t rfl (Qn _)
    | some y =>
     by_cases c:t.d.cost<y.d.cost
     ·exact trans t (Qo (Qv c)) (Qn _)
     ·exact trans y (Qu (λe=>c (XA e))) (by omega)
   ·exact Gh bS l (kQ bS m x) (.inr ⟨hs,n,h⟩)
theorem Cv(bS:Int):∀ (l:List (Nat × aQ)) (m:Option aQ),(∀ t,m=some t->au t.d.order [bS]=true)->∀ t,l.foldl (kQ bS) m=some t->au t.d.order [bS]=true
 | [],_,h => h
 | x::l,m,h => by
  refine Cv bS l (kQ bS m x) λt e=>?_;have k:∀ z:Bool,(if (au x.2.d.order [bS]&&z)=true then some x.2 else m)=some t->au t.d.order [bS]=true:=λz e=>by grind
  exact k _ e
theorem Tg.ajA(h:Tg g)(hp:p∈g)(e:p.2=some x)(hs:au x.2.d.order [bS]=true):∃ m,mJ g bS=some m/\m.d.cost<=x.2.d.cost/\au m.d.order [bS]=true:=by obtain⟨n,b⟩:=h.piece hp e;obtain⟨m,a,f⟩:=Gh bS (dG g) none (.inr ⟨hs,n,b⟩);exact⟨m,a,f,Cv bS _ none (λ_ e=>by cases e) m a⟩
theorem uf{ts:List af}{q:ae}{l r:aQ}{g:List aj}{cl:List Int}:∀ (ks:List Int) {acc:List aQ} {t:aQ},t∈acc->t∈ks.foldl (fF ts q l r g cl) acc
 | [],_,_,h => h
 | k::ks,acc,t,h => by refine uf ks (acc:=fF ts q l r g cl acc k) ?_;unfold fF;grind
theorem Jw{ts:List af}{q:ae}{l r:aQ}{g:List aj}{cl:List Int}{key:Int}{x y:Int}(hk:fP ts q (bO 4 cl key) l.d.sources r.d.sources=(x,y,true)):∀ (ks:List Int) (acc:List aQ),key∈ks->
  ay ts q (bO 4 cl key) [l,r]∈ks.foldl (fF ts q l r g cl) acc/\(au l.d.order [x]=true->∀ m,mJ g y=some m->ay ts q (bO 5 cl key) [l,m]∈ks.foldl (fF ts q l r g cl) acc)
 | [],_,h => by cases h
 | k::ks,acc,h => by
  rcases Zq.1 h with rfl | h
  ·rw[QD];have a:ay ts q (bO 4 cl key) [l,r]∈fF ts q l r g cl acc key/\(au l.d.order [x]=true->∀ m,mJ g y=some m->ay ts q (bO 5 cl key) [l,m]∈fF ts q l r g cl acc key):=by unfold fF;grind
   exact⟨uf ks a.1,λb m e=>uf ks (a.2 b m e)⟩
  ·exact Jw hk ks _ h
theorem Jy{f:List aj}{l r:aQ}(hl:(n,l)∈dG f)(hr:bC g=some r){cl:List Int}(hcl:cl=cZ (aR conc l.d.sources r.d.sources)) :
  ay ts q (bO 3 cl 0) [l,r]∈fK ts q conc f g/\∀ key∈cl,∀ x y,fP ts q (bO 4 cl key) l.d.sources r.d.sources=(x,y,true)->
   ay ts q (bO 4 cl key) [l,r]∈fK ts q conc f g/\(au l.d.order [x]=true->∀ m,mJ g y=some m->ay ts q (bO 5 cl key) [l,m]∈fK ts q conc f g):=by
 have e:dX ts q conc l g=cl.foldl (fF ts q l r g cl) [ay ts q (bO 3 cl 0) [l,r]]:=by unfold dX;simp_all
 have b:∀ t∈dX ts q conc l g,t∈fK ts q conc f g:=λt i=>Q3.2 ⟨(n,l),hl,i⟩;rw[e]at b;refine⟨b _ (uf _ (Zy.2 rfl)),λkey j x y a=>?_⟩;obtain⟨k,o⟩:=Jw (g:=g) a cl [ay ts q (bO 3 cl 0) [l,r]] j;simp_all
theorem nA{a b c d:Nat}(h:a<=c)(h':b<=d):fZ a b<=fZ c d:=by grind [fZ]
theorem lU(kind:Int)(s ls rs:Nat){lc rc lc' rc':Nat}(h:lc<=lc')(h':rc<=rc'):dL kind s lc ls rc rs<=dL kind s lc' ls rc' rs:=by
 unfold dL;simp only[Me,ahT];split
 ·omega
 split
 ·exact nA (nA h h') (Qn _)
 split
 ·exact nA h (Qn _)
 split
 ·exact nA (nA h (Qn _)) (Qn _)
 ·exact nA h (Qn _)
theorem Jz{ls:List (List Int)}{l:List Int}:o∈iQ ls l↔o∈ls∨o=l:=by grind [iQ]
theorem Dp:o∈bW ts q s acc bS↔o∈acc∨o=[bS]/\aU s (aB (fC ts q [bS]))=true:=by
 unfold bW;split
 ·rename_i h
  rw[Jz];simp_all
 simp_all
def Wanted(ts:List af)(q:ae)(s:Nat)(c:aL)(bS:Int):Prop:=
 (bG c.cs).2.2=true/\aU s (aB (fC ts q [(bG c.cs).1,(bG c.cs).2.1]))=false/\(bS=(bG c.cs).1∨bS=(bG c.cs).2.1)/\aU s (aB (fC ts q [bS]))=true
theorem O7{c:aL}:o∈iy ts q s acc c↔o∈acc∨∃ b,o=[b]/\Wanted ts q s c b:=by
 unfold iy;split
 ·rename_i h
  rw[Qj,Q4]at h;rw[Dp,Dp];constructor
  ·rintro ((e | ⟨e,a⟩) | ⟨e,a⟩)
   ·exact .inl e
   ·exact .inr ⟨_,e,h.1,h.2,.inl rfl,a⟩
   ·exact .inr ⟨_,e,h.1,h.2,.inr rfl,a⟩
  ·rintro (e | ⟨b,e,_,_,d | d,a⟩)
   ·simp_all
   ·simp_all
   simp_all
 ·rename_i h
  refine⟨.inl,λe=>e.elim id ?_⟩;rintro⟨b,e,f,g,_⟩;simp_all
theorem Dq{ts:List af}{q:ae}{s:Nat}{o:List Int}:∀ (wh:List aL) {acc:List (List Int)},o∈wh.foldl (iy ts q s) acc↔o∈acc∨∃ c∈wh,∃ bS,o=[bS]/\Wanted ts q s c bS
 | [],acc => ⟨.inl,λe => e.elim id (λ⟨_,h,_⟩ => by cases h)⟩
 | c::wh,acc => by rw[QD,Dq wh,O7];grind
theorem nC:o∈bH ts q s↔o=[]∨o=aG q/\aU s (aB (fC ts q (aG q)))=true∨∃ c∈q.wh,∃ a,o=[a]/\Wanted ts q s c a:=by
 unfold bH;rw[Dq];split
 ·rename_i h
  rw[Jz,Zy,or_assoc];simp_all
 simp_all
def CvP(g:List aj)(O:List Int)(c:Nat):Prop:=∀ p∈g,au O p.1=true->∃ x,p.2=some x/\x.2.d.cost<=c
theorem CvP.head{q:ae}{s:Nat}{g:List aj}{O:List Int}{c:Nat}(h:CvP g O c)(hg:sJ q s g):∃ r p x,bC g=some r/\p∈g/\p.2=some x/\x.2=r/\r.d.cost<=c:=by
 obtain⟨f,r,e,_⟩:=hg.head;have b:(([],f):aj)∈g:=by simp_all
 obtain⟨x,a,i⟩:=h _ b (yt O);have a:f=some x:=a;exact⟨x.2,_,x,by rw[e,a]; rfl,b,a,rfl,i⟩
structure Pcs(g:List aj)(c z:Nat):Prop where
 tg:Tg g
 cl:∀ p∈g,∀ x:Nat × aQ,p.2=some x->x.2.d.clauses=c/\x.2.d.size=z
theorem aaG(ts:List af)(q:ae)(hk:kind=3∨kind=4∨kind=5)(cl:List Int)(key:Int)(l r:aQ):(ay ts q (bO kind cl key) [l,r]).d.order=l.d.order/\(ay ts q (bO kind cl key) [l,r]).d.sources=l.d.sources|||r.d.sources/\(ay ts q (bO kind cl key) [l,r]).d.clauses=aB cl|||l.d.clauses|||r.d.clauses/\(ay ts q (bO kind cl key) [l,r]).d.size=iD ts q (l.d.sources|||r.d.sources) (aB cl|||l.d.clauses|||r.d.clauses)/\(ay ts q (bO kind cl key) [l,r]).d.cost=dL kind (ay ts q (bO kind cl key) [l,r]).d.size l.d.cost l.d.size r.d.cost r.d.size:=by
 have es:(ay ts q (bO kind cl key) [l,r]).d.sources=l.d.sources|||r.d.sources:=by show (if kind=1 then _ else 0)|||l.d.sources|||r.d.sources=_;grind
 refine⟨?_,es,rfl,?_,rfl⟩
 ·show (if kind=6 then _ else if 2<=kind/\kind<=5 then l.d.order else [])=_
  grind
 ·rw[<- es]
  show (if dW kind=true then l.d.size else _)=_;rw[Qu (by rcases hk with rfl | rfl | rfl <;> decide)];rfl
theorem O8{O u:List Int}{x:Int}(h0:o≠[])(h1:au O o=true)(h2:au O [x]=true)(h3:au u o=true):au u [x]=true:=by
 unfold au at *;simp only[Qj,Qs]at *
 match o,h0,O,u with
 | a::o,_,[],_ => simp at h1
 | a::o,_,b::O,[] => simp at h3
 | a::o,_,b::O,c::u =>
  simp_all
theorem aaH{gA gB:List aj}{A B cA cB zA zB:Nat}(hA:sJ q A gA)(hB:sJ q B gB)(pA:Pcs gA cA zA)(pB:Pcs gB cB zB){O1 O2:List Int}{c1 c2:Nat}(h1:CvP gA O1 c1)(h2:CvP gB O2 c2)(ho:∃ p∈gA,p.1=o)(hs:au O1 o=true){key:Int}
  (hk:kind=3/\key=0∨key∈cZ (aR conc A B)/\∃ x y,fP ts q (bO 4 (cZ (aR conc A B)) key) A B=(x,y,true)/\(kind=4∨kind=5/\au O1 [x]=true/\au O2 [y]=true/\(∃ p∈gA,p.1=[x])/\∃ p∈gB,p.1=[y])) {C:Nat} (hC:C=aB (cZ (aR conc A B))|||cA|||cB) :
  ∃ t∈fK ts q conc gA gB,au t.d.order o=true/\t.d.sources=A|||B/\t.d.clauses=C/\t.d.size=iD ts q (A|||B) C/\t.d.cost<=dL kind (iD ts q (A|||B) C) c1 zA c2 zB:=by
 obtain⟨r,Q,R,S,g,i,T,Y⟩:=h2.head hB;have z:kind=3∨kind=4∨kind=5:=by omega
 have fin:∀ {p p':aj} {u v:Nat × aQ},p∈gA->p.2=some u->u.2.d.cost<=c1->au u.2.d.order o=true->p'∈gB->p'.2=some v->v.2.d.cost<=c2->ay ts q (bO kind (cZ (aR conc A B)) key) [u.2,v.2]∈fK ts q conc gA gB->∃ t∈fK ts q conc gA gB,au t.d.order o=true/\t.d.sources=A|||B/\t.d.clauses=C/\t.d.size=iD ts q (A|||B) C/\t.d.cost<=dL kind (iD ts q (A|||B) C) c1 zA c2 zB:=λ{p p' u v} a b f hs hp' w hv hin=>by obtain⟨g1,U,V,I,W⟩:=aaG ts q z (cZ (aR conc A B)) key u.2 v.2;have O:=(hA.all p a u b).2.1;have P:=(hB.all p' hp' v w).2.1;have D:=pA.cl p a u b;have E:=pB.cl p' hp' v w;rw[O,P]at U;rw[D.1,E.1,<- hC]at V;rw[O,P,D.1,E.1,<- hC]at I;rw[I,D.2,E.2]at W;exact⟨_,hin,by simp_all,U,V,I,by rw[W]; exact lU _ _ _ _ f hv⟩
 by_cases h5:kind=5
 ·obtain⟨k1,x,y,k2,k3⟩:=hk.resolve_left (by omega);obtain⟨-,Z,sy,J,X,j,eb⟩:=k3.resolve_left (by omega);have f:∃ p∈gA,∃ u,p.2=some u/\u.2.d.cost<=c1/\au u.2.d.order o=true/\au u.2.d.order [x]=true:=by
   by_cases k:o=[]
   ·obtain⟨p,a,e⟩:=J;obtain⟨u,b,f⟩:=h1 p a (by grind);exact⟨p,a,u,b,f,by rw[k]; rfl,e ▸ pA.tg.ord p a u b⟩
   ·obtain⟨p,a,e⟩:=ho;obtain⟨u,b,f⟩:=h1 p a (by grind);have l:=pA.tg.ord p a u b;rw[e]at l;exact⟨p,a,u,b,f,l,O8 k hs Z l⟩
  obtain⟨p,a,u,b,f,l,ox⟩:=f;obtain⟨v,w,hv⟩:=h2 X j (by grind);obtain⟨m,hm,K,_⟩:=pB.tg.ajA j w (by rw[<- eb]; exact pB.tg.ord X j v w);obtain⟨n,L⟩:=pA.tg.piece a b;have F:∃ H∈gB,∃ M:Nat × aQ,H.2=some M/\M.2=m:=by
   rcases wF y _ none m hm with k | ⟨n',G⟩
   ·cases k
   ·rcases kg gB [] _ G with k | ⟨H,s,e'⟩
    ·cases k
    grind
  obtain⟨H,s,M,em,rfl⟩:=F;obtain⟨_,N⟩:=Jy (ts:=ts) (q:=q) (conc:=conc) L S rfl;rw[(hA.all p a u b).2.1,<- T,(hB.all Q g R i).2.1]at N;exact fin a b f l s em (Q6 K hv) (by grind)
 ·obtain⟨p,a,e⟩:=ho;obtain⟨x,ex,J⟩:=h1 p a (by grind);obtain⟨n,L⟩:=pA.tg.piece a ex;obtain⟨j1,N⟩:=Jy (ts:=ts) (q:=q) (conc:=conc) L S rfl;rw[(hA.all p a x ex).2.1,<- T,(hB.all Q g R i).2.1]at j1 N;refine fin a ex J (by rw[<- e]; exact pA.tg.ord p a x ex) g i (by grind) ?_
  grind
