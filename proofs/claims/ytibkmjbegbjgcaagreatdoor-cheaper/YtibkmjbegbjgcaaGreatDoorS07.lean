import Derived.Test.YtibkmjbegbjgcaaGreatDoorS03
set_option linter.all false
set_option maxRecDepth 100000
set_option maxHeartbeats 0
namespace Go.Proofs.Zz
open Go.RowKit Go.Shelf Go.Proofs.Tryz
open List renaming length->N,getD->E
open Go.Value renaming slice->Z,int->I,bool->Qr
open Go.Proofs.Tryz renaming prog->V
open Option renaming some->O,none->Qs
open Go.IntKind renaming i64->J,u64->Qq
open Bool renaming false->F,true->T
open Go renaming World->U,Value->Qm
open Go.World renaming heap->H,cell?->Qp
open _root_.Array renaming size->M
open Go.RowKit renaming Hid->Qn
open Go.Obj renaming cells->Qt
open Go.Ending renaming returned->Qv
variable {rk:Nat->Int} {g:Qy aj} {t:aP} {ts:Qy af} {q:ae} {l:Qy aP} {R b c fuel i j k s:Nat} {conc:Qy Nat} {n:ai} {P:Program} {ps:Qy bW} {Q:Exit->Act->U->Prop} {a:Act} {A B W w:U} {ops:Array Oper} {K:Act->U->Prop} {o p:Oper} {ao:PN} {cs:Array Qm} {α:Type} {ns:Qy ai} {Fq:Fence} {md:Region.Mode} {listed:Array Bool} {S:U->Prop}
def df(ts:Qy af)(q:ae)(s:Nat)(acc:Qy (Qx))(jg:Int):Qy (Qx):=
 if aT s (bD (dZ ts q [jg]))=T then gI acc [jg] else acc
def gP(ts:Qy af)(q:ae)(s:Nat)(acc:Qy (Qx))(c:aG):Qy (Qx):=
 if ((bF c.cs).2.2 && !aT s (bD (dZ ts q [(bF c.cs).1,(bF c.cs).2.1])))=T then df ts q s (df ts q s acc (bF c.cs).1) (bF c.cs).2.1 else acc
def dO(ts:Qy af)(q:ae)(s:Nat):Qy (Qx):=
 q.wh.foldl (gP ts q s) (if aT s (bD (dZ ts q (aI q)))=T then gI [[]] (aI q) else [[]])
abbrev bB:=Nat × Nat
def kL(rk:Nat->Int)(t:bB):Int:=if t.2=0 then 6 else rk (t.1|||t.2)
def mZ(a b:Int):Int:=if a<b then -1 else if b<a then 1 else 0
def qd(rk:Nat->Int)(a b:bB):Int:=
 if mZ (kL rk b) (kL rk a)≠0 then mZ (kL rk b) (kL rk a) else if mZ a.1 b.1≠0 then mZ a.1 b.1 else mZ a.2 b.2
def Sv(lt:Nat->Bool):Nat->Nat->Nat->Nat
 |0,i,_=>i
 |f+1,i,j=>if i<j then (if lt ((i+j) / 2)=T then Sv lt f ((i+j) / 2+1) j else Sv lt f i ((i+j) / 2)) else i
def ng(rk:Nat->Int)(a:Qy bB)(t:bB):Nat:=Sv (λh=>decide (qd rk (E a h (0,0)) t<0)) (N a) 0 (N a)
def ni(rk:Nat->Int)(a:Qy bB)(t:bB):Bool:=decide (ng rk a t<N a)&&decide (qd rk (E a (ng rk a t) (0,0)) t=0)
def iG(rk:Nat->Int)(a:Qy bB)(t:bB):Qy bB:=if ni rk a t=T then a else a.take (ng rk a t)++t::a.drop (ng rk a t)
structure fU where
 groups:Qy (Qy aj)
 ak:Qy bB
 cut:Bool
 bA:aP
 picks:Qx
 status:Int
def iN(rk:Nat->Int)(s:Nat)(gs:Qy (Qy aj))(a:Qy bB)(k:Nat):Qy bB:=
 if ((bI (E gs k [])).isSome&&decide (k &&& s=0))=T then iG rk (iG rk a (s,k)) (k,s) else a
def nM(rk:Nat->Int)(s:Nat)(gs:Qy (Qy aj))(a:Qy bB):Qy bB:=(List.range (N gs)).foldl (iN rk s gs) a
def jd(ts:Qy af)(q:ae)(b t:aP):aP:=dV b (dS ts q t)
def eP(rk:Nat->Int)(ts:Qy af)(q:ae)(s:Nat)(l:Qy aP)(σ:fU):fU:=
 if s=2 ^ (N q.src.xs)-1 then { σ with bA:=l.foldl (jd ts q) σ.bA }
 else
  let r:=bz ts q (E σ.groups s []) l
  { σ with groups:=σ.groups.set s r.2,ak:=if r.1=T then nM rk s (σ.groups.set s r.2) σ.ak else σ.ak }
def sH(rk:Nat->Int)(ts:Qy af)(q:ae)(conc:Qy Nat)(t:bB)(σ:fU):fU:=
 if t.2=0 then eP rk ts q t.1 [dN ts q conc (E (dw t.1) 0 0)] σ
 else eP rk ts q (t.1|||t.2) (jr ts q conc (E σ.groups t.1 []) (E σ.groups t.2 [])) σ
def fV(n:Nat)(pick:Int):Int:=(pick.tmod n+n).tmod n
def mE(σ:fU):fU:=if 0<N σ.ak then σ else { σ with status:=if σ.cut=T then 3 else 2 }
def iy(rk:Nat->Int)(ts:Qy af)(q:ae)(conc:Qy Nat)(pick:Int)(σ:fU):fU:=
 let p:=fV (N σ.ak) pick
 mE (sH rk ts q conc (E σ.ak p.toNat (0,0)) { σ with picks:=σ.picks++[p],ak:=σ.ak.eraseIdx p.toNat })
def je(l:Qx)(k:Nat):Int:=if (N l)=0 then 0 else E l (k % (N l)) 0
def runN(rk:Nat->Int)(ts:Qy af)(q:ae)(conc:Qy Nat)(picks:Qx):Nat->Nat->fU->fU
 |0,_,σ=>σ
 |n+1,k,σ=>if σ.status=1 then runN rk ts q conc picks n (k+1) (iy rk ts q conc (je picks k) σ) else σ
def dz(os:Qy (Qx)):Qy aj:=os.map λo=>(o,Qs)
def ed(rk:Nat->Int)(ts:Qy af)(q:ae)(room:Nat):fU:=
 ⟨(List.range (2 ^ (N q.src.xs)-1)).map λs=>dz ((dO ts q s).take room),(List.range (N q.src.xs)).foldl (λa (i:Nat)=>iG rk a (2 ^ i,0)) [],
  (List.range (2 ^ (N q.src.xs)-1)).any λs=>decide (room<N (dO ts q s)),fq ts q,[],1⟩
def lq(n:Nat)(gs:Qy (Qy aj))(t:bB):Prop:=
 (t.2=0/\∃i,i<n/\t.1=2 ^ i)∨
 (t.2≠0/\t.1<N gs/\t.2<N gs/\t.1 &&& t.2=0/\(bI (E gs t.1 [])).isSome=T/\(bI (E gs t.2 [])).isSome=T)
structure nu(q:ae)(σ:fU):Prop where
 uS:N σ.groups=2 ^ (N q.src.xs)-1
 kg:∀s,s<N σ.groups->sF q s (E σ.groups s [])
 task:∀t∈σ.ak,lq (N q.src.xs) σ.groups t
 bA:iP q σ.bA
 small:N σ.bA.ns<=800
structure Bp(q:ae)(σ:fU):Prop where
 core:nu q σ
 stat:σ.status=1->0<N σ.ak
 ajI:N σ.ak<=64*(N σ.picks+1)
theorem xe{a:Qy bB}{t x:bB}(h:x∈iG rk a t):x∈a∨x=t:=by unfold iG at h;grind
theorem Bq(rk:Nat->Int)(a:Qy bB)(t:bB):N (iG rk a t)<=N a+1:=by unfold iG;grind
theorem uT{rk:Nat->Int}{s:Nat}{gs:Qy (Qy aj)}:∀(ks:Qy Nat) (a:Qy bB) (x:bB),x∈ks.foldl (iN rk s gs) a->x∈a∨∃k∈ks,(bI (E gs k [])).isSome=T/\k &&& s=0/\(x=(s,k)∨x=(k,s))
 |[],_,_,h=>.inl h
 |k::ks,a,x,h=>by
  rcases uT ks (iN rk s gs a k) x h with h|⟨k',hk,h1,h2,h3⟩
  .unfold iN at h;split at h
   .rename_i hc
    rw[Q6,Zf]at hc;rcases xe h with h|h
    .rcases xe h with h|h
     .exact .inl h
     simp_all
    simp_all
   simp_all
  grind
theorem uU(rk:Nat->Int)(s:Nat)(gs:Qy (Qy aj)):∀(ks:Qy Nat) (a:Qy bB),N (ks.foldl (iN rk s gs) a)<=N a+2*N ks
 |[],_=>Qa
 |k::ks,a=>by
  refine ZN (uU rk s gs ks (iN rk s gs a k)) ?_;have:N (iN rk s gs a k)<=N a+2:=by
   unfold iN;split
   .have h1:=Bq rk (iG rk a (s,k)) (k,s);have h2:=Bq rk a (s,k);omega
   .omega
  grind
def zh(h:(bI g).isSome=T):(bI (iW g t)).isSome=true:=by
 match g,h with
 |[],h=>cases h
 |(_,Qs)::_,h=>cases h
 |(o,O y)::r,_ =>
  show (bI (fJ _ t (o,O y)::_)).isSome=T;unfold fJ;split <;> rfl
def rJ:∀{l:Qy aP} {x:Bool × Qy aj},(bI x.2).isSome=T->(bI (l.foldl jH x).2).isSome=T
 |[],_,h=>h
 |t::l,x,h=>rJ (l:=l) (x:=jH x t) (zh h)
def xg{ts:Qy af}{q:ae}:∀{os:Qy (Qx)} {g:Qy aj},(bI g).isSome=T->(bI (os.foldl (dW ts q) g)).isSome=T
 |[],_,h=>h
 |o::os,g,h=>xg (os:=os) (g:=dW ts q g o) (zh h)
def De(h:(bI g).isSome=T):(bI (bz ts q g l).2).isSome=true:=by
 unfold bz;split
 .exact xg (rJ (x:=(F,g)) h)
 .exact rJ (x:=(F,g)) h
theorem oM(gs:Qy (Qy aj))(s k:Nat)(g:Qy aj):E (gs.set s g) k []=if s=k/\s<N gs then g else E gs k []:=by grind
theorem lq.set{n:Nat}{gs:Qy (Qy aj)}{t:bB}(h:lq n gs t){s:Nat}{g:Qy aj}(hg:(bI (E gs s [])).isSome=T->(bI g).isSome=T):lq n (gs.set s g) t:=by
 rcases h with h|⟨a,f,i,b,d,e⟩
 .exact .inl h
 .have key:∀k,(bI (E gs k [])).isSome=T->(bI (E (gs.set s g) k [])).isSome=true:=λk j=>by grind
  exact .inr ⟨a,Qf,Qf,b,key _ d,key _ e⟩
def sF.zero(h:sF q 0 g):(bI g).isSome=false:=by
 obtain⟨a,r,rfl,b⟩:=h.head
 cases a with
 |none=>rfl
 |some y=>simp_all
theorem JV(h:iP q t):∀x∈dS ts q t,iP q x/\N x.ns<=N t.ns+3:=by have b:=Ec (ts:=ts) h;have d:=Ec (ts:=ts) (uF (ts:=ts) (aI q) h);have e:=nL ts q t (aI q);intro x a;unfold dS at a;grind
def xh(b:aP):∀(l:Qy aP),dV b l=b∨dV b l∈l:=by
 intro l;unfold dV
 induction l generalizing b with
 |nil=>simp_all
 |cons t l ih =>
  rw[Zw];rcases ih (lH b t) with h|h
  .rw[h];unfold lH;split
   .simp_all
   simp_all
  simp_all
theorem WE{b:aP}(hb:iP q b/\N b.ns<=800)(ht:iP q t/\N t.ns<=700):iP q (jd ts q b t)/\(jd ts q b t).ns.length<=800:=by
 unfold jd;rcases xh b (dS ts q t) with h|h
 .simp_all
 .have:=JV (ts:=ts) ht.1 _ h
  grind
def JW{ts:Qy af}{q:ae}:∀{l:Qy aP} {b:aP},(iP q b/\N b.ns<=800)->(∀t∈l,iP q t/\N t.ns<=700)->iP q (l.foldl (jd ts q) b)/\(l.foldl (jd ts q) b).ns.length<=800
 |[],_,h,_=>h
 |t::l,b,h,hl=>JW (l:=l) (b:=jd ts q b t) (WE h (hl t XL)) (λx hx=>hl x (XJ _ hx))
theorem JY{σ:fU}(h:nu q σ)(h5:N q.src.xs<=5)(hs:s<2 ^ (N q.src.xs))(h0:0<s)(hl:∀t∈l,Ll q s t) :
  nu q (eP rk ts q s l σ)/\(eP rk ts q s l σ).ak.length<=N σ.ak+62/\(eP rk ts q s l σ).picks=σ.picks/\(eP rk ts q s l σ).status=σ.status/\(eP rk ts q s l σ).cut=σ.cut:=by
 have u:2 ^ (N q.src.xs)<=32:=ZA (n:=2) X h5;unfold eP;by_cases r:s=2 ^ (N q.src.xs)-1
 .rw[Zb r];have m:=JW (ts:=ts) (l:=l) (b:=σ.bA) ⟨h.bA,h.small⟩ (λt d=>⟨(hl t d).ok,Qk ((hl t d).len)⟩);exact⟨⟨h.uS,h.kg,h.task,m.1,m.2⟩,Nat.le_add_right _ _,rfl,rfl,rfl⟩
 rw[Zg r];have g:s<N σ.groups:=by rw[h.uS];omega
 have z:=yZ (ts:=ts) (h.kg s g) hl;have i:N (σ.groups.set s (bz ts q (E σ.groups s []) l).2)=N σ.groups:=Jh ..;refine⟨⟨?_,λk p=>?_,λt d=>?_,h.bA,h.small⟩,?_,rfl,rfl,rfl⟩
 .show (N (σ.groups.set s _))=_
  rw[Jh];exact h.uS
 .show sF q k (E (σ.groups.set s _) k [])
  rw[oM];split
  .simp_all
  .refine h.kg k ?_
   simp_all
 .have d:t∈(if (bz ts q (E σ.groups s []) l).1=T then nM rk s (σ.groups.set s (bz ts q (E σ.groups s []) l).2) σ.ak else σ.ak):=d
  show lq _ (σ.groups.set s (bz ts q (E σ.groups s []) l).2) t;have old:∀t∈σ.ak,lq (N q.src.xs) (σ.groups.set s (bz ts q (E σ.groups s []) l).2) t:=λt d=>(h.task t d).set (λh=>De h);split at d
  .rename_i hi
   rcases uT _ _ _ d with d|⟨k,p,f,v,y⟩
   .simp_all
   .have p:k<N σ.groups:=Qf
    have j:k≠0:=λe=>by rw[e,oM,Zg (λh=>X)]at f;rw[(h.kg 0 X).zero]at f;cases f
    have a:(bI (E (σ.groups.set s (bz ts q (E σ.groups s []) l).2) s [])).isSome=true:=by simp_all
    rcases y with rfl|rfl
    .exact .inr ⟨j,X,X,Qb,a,f⟩
    .exact .inr ⟨X,X,X,v,f,a⟩
  simp_all
 .show (N (if _ then nM rk s _ σ.ak else σ.ak))<=_
  split
  .refine ZN (uU rk s _ _ _) ?_;rw[ZI,i,h.uS];omega
  .omega
def xq(i:Nat)(hi:i<5):E (dw (2 ^ i)) 0 0=(i:Int):=by have:i=0∨i=1∨i=2∨i=3∨i=4:=X;rcases this with rfl|rfl|rfl|rfl|rfl <;> decide
theorem WG(hcn:N conc=N q.wh){t:bB}{σ:fU}(h:nu q σ)(h5:N q.src.xs<=5)(ht:lq (N q.src.xs) σ.groups t) :
  nu q (sH rk ts q conc t σ)/\(sH rk ts q conc t σ).ak.length<=N σ.ak+62/\(sH rk ts q conc t σ).picks=σ.picks/\(sH rk ts q conc t σ).status=σ.status/\(sH rk ts q conc t σ).cut=σ.cut:=by
 unfold sH;rcases ht with⟨h0,i,hi,e⟩|⟨h0,h1,h2,h3,h4,h6⟩
 .rw[Zb h0,e,xq i X];have d:0<2 ^ i:=Nat.pow_pos X;have b:=ru ts q hcn (s:=(i:Int)) X X;refine JY h h5 (XN X hi) d (λx a=>?_);rw[Xj]at a;rw[a];exact⟨b.1,b.2.1,X⟩
 .rw[Zg h0];rw[h.uS]at h1 h2;refine JY h h5 (rq X X) ?_ (λx a=>?_)
  .grind [I7]
  .exact yt hcn h3 (h.kg _ (by rw[h.uS];exact h1)) (h.kg _ (by rw[h.uS];exact h2)) h6 x a
def yC{n:Nat}(hn:0<n)(pick:Int):0<=fV n pick/\fV n pick<n:=by unfold fV;have a:=Int.lt_tmod_of_pos pick (show (0:Int)<n by omega);exact⟨Int.tmod_nonneg _ X,Int.tmod_lt_of_pos _ X⟩
def nu.erase{σ:fU}(h:nu q σ)(k:Nat)(ps:Qx):nu q { σ with picks:=ps,ak:=σ.ak.eraseIdx k }:=
 ⟨h.uS,h.kg,λt a=>h.task t (List.mem_of_mem_eraseIdx a),h.bA,h.small⟩
theorem WH(hcn:N conc=N q.wh){σ:fU}(h:Bp q σ)(h5:N q.src.xs<=5)(h1:σ.status=1)(pick:Int) :
  Bp q (iy rk ts q conc pick σ)/\(iy rk ts q conc pick σ).picks.length=N σ.picks+1:=by
 have i:=h.stat h1;have m:=yC i pick;have j:E σ.ak (fV (N σ.ak) pick).toNat (0,0)∈σ.ak:=by simp_all
 have hd:=WG (rk:=rk) (ts:=ts) hcn (t:=E σ.ak (fV (N σ.ak) pick).toNat (0,0)) (h.core.erase (fV (N σ.ak) pick).toNat (σ.picks++[fV (N σ.ak) pick])) h5 (h.core.task _ j);have d:N (σ.ak.eraseIdx (fV (N σ.ak) pick).toNat)=N σ.ak-1:=List.length_eraseIdx_of_lt X;unfold iy;simp only;generalize sH rk ts q conc (E σ.ak (fV (N σ.ak) pick).toNat (0,0)) { σ with picks:=σ.picks++[fV (N σ.ak) pick],ak:=σ.ak.eraseIdx (fV (N σ.ak) pick).toNat } = τ at*;obtain⟨a,f,g,k,l⟩:=hd;simp only at f g k l;rw[d]at f;have b:N τ.picks=N σ.picks+1:=by rw[g];simp
 have n:=h.ajI;unfold mE;split
 .rename_i hz
  exact⟨⟨a,λ_=>hz,X⟩,b⟩
 .rename_i hz
  refine⟨⟨⟨a.uS,a.kg,a.task,a.bA,a.small⟩,λe=>?_,?_⟩,b⟩
  .grind
  simp_all
def jD.below{w w':U}(hb:Bw w w'){ao:PN}{ns:Qy ai}(h:jD w ao ns):jD w' ao ns:=
 ⟨h.1,λi q=>by
  obtain⟨b,a,e,d,f,g,j,k,l,m,n,p⟩:=h.2 i q;exact⟨b,a,e,cB hb d,cB hb f,cB hb g,cB hb j,cB hb k,cB hb l,cB hb m,Q8 hb n,Q8 hb p⟩⟩
section
variable {α κ:Type} (Ez:El α κ)
def aiL(P:Program)(g:Nat)(s:Qm)(rows:List κ)(w0:U):Prop:=
 ∀(l:Nat) (Jq:List α->(Qz)->U->Prop) (W:U) (o:Qz),
  Bw w0 W->(∀b,o b->M (H w0)<=b/\b<M (H W))->
  (∀pre o1 A B,Jq pre o1 A->Kept (λb=>o1 b∨b<M (H W)) A B->Jq pre o1 B)->
  (∀pre x o1 W1,Jq pre o1 W1->(pre++[x]).map Ez.key <+: rows->Ez.At x W1->(∀b,Ez.blk x=O b->¬o1 b/\(b<M (H w0)∨M (H W)<=b))->M (H W)<=M (H W1)->
   YieldAt Fence.wide 0 P l #[Ez.enc x] W1 λe W'=>e=Qv (Qr T)/\∃o2,Jq (pre++[x]) o2 W'/\Kept (λb=>¬o1 b) W1 W'/\
    ∀b,o2 b->o1 b∨(M (H W1)<=b/\b<M (H W'))∨(Ez.blk x=O b/\M (H W)<=b))->
  Jq [] o W->
  Calls P g #[s,.func (.yield l) #[] #[]] W λe W'=>(∃v,e=Qv v)/\∃ys o',ys.map Ez.key=rows/\Jq ys o' W'/\Kept (λb=>¬o b) W W'/\
   ∀b,o' b->o b∨(M (H W)<=b/\b<M (H W'))
theorem rY{g:Operand}{ps:Array Tmp}{assign body:Code}
  {gf:Nat} {s:Qm} (hg:a.eval g=.func (.func gf) #[s] #[]) (eg:∀args w,(callFunc gf args).run P w=.ok (.enter gf args) w)
  {rows:List κ} {w0:U} (hseq:aiL Ez P gf s rows w0) (hb0:Bw w0 w) (hps:ps.size=1)
  (Iq:List α->(Qz)->U->Prop) (o:Qz) (ho:∀b,o b->M (H w0)<=b/\b<M (H w))
  (hI:∀d i A B,Iq d i A->Kept (λb=>i b∨b<M (H w)) A B->Iq d i B) (h0:Iq [] o w) (a₁:α->Act)
  (hassign:∀(l:Nat) (x:α) (W:U) (K:Act->U->Prop),K (a₁ x) W->
   assign.wpIn (Fence.wide.inRound l) 0 P (Exit.then K (λ_ _ _=>False)) { tmps:=(ps.zip #[Ez.enc x]).foldl (λt (p,v)=>t.setIfInBounds p v) a.tmps,defers:=[] } W)
  (hbody:∀(l:Nat) (d:List α) (x:α) (i:Qz) (W:U),Iq d i W->(d++[x]).map Ez.key <+: rows->Ez.At x W->
   (∀b,Ez.blk x=O b->¬i b/\(b<M (H w0)∨M (H w)<=b))->M (H w)+2<=M (H W)->
   body.wpIn (Fence.wide.inRound l) 0 P (pG Ez Iq d x (M (H w)) i W) (a₁ x) W)
  (hdone:∀(ys:List α) (L:Qz) (W:U),ys.map Ez.key=rows->Iq ys L W->Kept (λb=>¬o b) w W->(∀b,L b->(o b∨(M (H w)+2<=b/\b<M (H W))))->
   W.heap[M (H w)]? = O (.deferred (O []))->Q .normal { a with defers:={ target:=.collected (M (H w)),args:=#[] } :: a.defers } W) :
  (Code.rangeFunc g ps assign body).wpIn Fence.wide 0 P Q a w:=by
 refine wpIn_rangeFunc ?_;intro fn aG;obtain⟨k,f⟩:=eY (λst pe=>{ state:=st,pending:=pe,fn,tmps:=a.tmps,params:=ps,assign,body,defers:=M (H w) }:LoopState->Option Code->Loop);obtain⟨D,q⟩:=eX ((w.alloc (.deferred (O []))).alloc (.loop (k .ready Qs)));have aI:M (H D)=M (H w)+2:=by rw[<-q];simp
 have aj:D.heap[M (H w)+1]? = O (.loop (k .ready Qs)):=by rw[<-q];have:=World.alloc_heap_new (w.alloc (.deferred (O []))) (.loop (k .ready Qs));simp_all
 have ak:D.heap[M (H w)]? = O (.deferred (O [])):=by rw[<-q];exact(Below.heap_alloc _ _ _ Qa).trans (World.alloc_heap_new w _)
 have G:∀s,Kept s w D:=λs=>by rw[<-q];exact(ZT _ _).trans (ZT _ _)
 have au:=hb0.trans ((G (λ_=>True)).below hb0.size (λ_ _=>trivial));refine⟨M (H w)+1,[{ target:=.collected (M (H w)),args:=#[] }],D,{ target:=.fn (.func gf) #[],args:=#[s,.func (.yield (M (H w)+1)) #[] #[]] },D,gf,
  #[s,.func (.yield (M (H w)+1)) #[] #[]],D,?_,?_,?_,?_,λh=>by simp[Fence.wide]at h,?_⟩
 .rw[<-q,f];exact run_enterLoop_outer _ _ _ _ _
 .simp only[resolve,hg];simp[go_sem]
 .intro f' _;trivial
 .simp[invoke,go_sem,eg]
 .refine ZU.2 ((hseq (M (H w)+1)
   (λd L W=>∃i,Iq d i W/\(∀b,L b↔i b∨b=M (H w)∨b=M (H w)+1)/\¬i (M (H w))/\¬i (M (H w)+1)/\
    W.heap[M (H w)+1]? = O (.loop (k .ready Qs))/\W.heap[M (H w)]? = O (.deferred (O [])))
   D (λb=>o b∨b=M (H w)∨b=M (H w)+1) au ?_ ?_ ?_ ?_).mono ?_)
  .rintro b (r|rfl|rfl)
   .grind
   .exact⟨hb0.size,X⟩
   .exact⟨Qk hb0.size,X⟩
  .rintro d L A B ⟨i,hi,j,hn,y,z,hd⟩ hk;have av:=(ZV.1 z).1;have ax:=(ZV.1 hd).1;refine⟨i,hI d i A B hi (hk.mono λb _ r=>?_),j,hn,y,(hk.block _ av (.inl ((j _).2 (.inr (.inr rfl))))).trans z,(hk.block _ ax (.inl ((j _).2 (.inr (.inl rfl))))).trans hd⟩
   grind
  .rintro d x L W ⟨i,hi,j,hn,y,z,hd⟩ ai hx u aK;have aa:=(ZV.1 z).1;have ae:M (H w)<M (H W):=X
   have hy:=run_yield (P:=P) (args:=#[Ez.enc x]) z Qf;rw[f]at hy;refine⟨fn,_,assign,body,hy,roundIn_of_wpIn aG (hassign _ x W _ ⟨_,run_beginRound z (by rw[f]),?_⟩)⟩;obtain⟨S,C⟩:=eX (W.putObj (M (H w)+1) (.loop { k .ready Qs with state:=.busy }));have m:Kept (λb=>b≠M (H w)+1) W S:=by rw[<-C];exact ZQ _ _ (λh=>h rfl)
   have af:S.heap[M (H w)+1]? = O (.loop { k .ready Qs with state:=.busy }):=by rw[<-C];exact World.putObj_heap_same aa
   have ay:=(m.block _ ae X).trans hd;have aJ:M (H S)=M (H W):=by rw[<-C];simp
   have az:=hI d i W S hi (m.mono λb _ r=>by
    grind)
   have aA:=Ez.keep hx m.size (λb r aH=>m.block b r (λe=>(u b aH).1 ((j b).2 (.inr (.inr e)))));rw[C];rw[f]at af;refine wpIn_mono (hbody _ d x i S az ai aA (λb r=>⟨λh=>(u b r).1 ((j b).2 (.inl h)),(u b r).2.imp id X⟩) X) ?_;rintro e a3 W3 hp
   cases e with
   |normal =>
    obtain⟨o2,aC,R,aD⟩:=hp;have ag:W3.heap[M (H w)+1]? = O (.loop { state:=.busy,pending:=Qs,fn,tmps:=a.tmps,params:=ps,assign,body,defers:=M (H w) }):=(R.block _ X y).trans af;have ah:=(ZV.1 ag).1;have aB:=(R.block _ X hn).trans ay;have n:∀b,b=M (H w)∨b=M (H w)+1->¬o2 b:=λb r h=>by grind
    refine⟨_,_,run_endRound Qs ag,rfl,λb=>o2 b∨b=M (H w)∨b=M (H w)+1,⟨o2,hI _ o2 W3 _ aC (ZQ _ _ ?_),λb=>Iff.rfl,n _ (.inl rfl),n _ (.inr rfl),?_,?_⟩,?_,?_⟩
    .simp_all
    .rw[World.putObj_heap_same ah,f];rfl
    .exact(ZR X).trans aB
    .refine((m.mono ?_).trans' (R.mono ?_) (λ_ _ h=>h)).trans (ZQ _ _ ?_)
     .simp_all
     .simp_all
     simp_all
    .rintro b (h|h)
     .rcases aD b h with h|h|h
      .simp_all
      .simp_all
      grind
     simp_all
   |ret=>exact hp.elim
   |exit id=>exact hp.elim
   |goto t=>exact hp.elim
   |panic ch=>exact hp.elim
   |outgrown=>exact hp.elim
  .have n:∀b,b=M (H w)∨b=M (H w)+1->¬o b:=λb r h=>Qb
   exact⟨o,hI _ _ _ _ h0 (G _),λ_=>Iff.rfl,n _ (.inl rfl),n _ (.inr rfl),aj,ak⟩
  .rintro e S ⟨⟨v,rfl⟩,ys,L,aF,⟨i,hi,j,hn,y,z,hd⟩,hk,hg⟩;have aa:=(ZV.1 z).1;refine⟨Qs,_,by have:=run_endLoop (P:=P) z Qf;rw[f]at this;exact this,hdone ys i _ aF (hI _ _ _ _ hi (ZQ _ _ ?_)) ?_ ?_ ((ZR X).trans hd)⟩
   .simp_all
   .refine(Kept.trans' (G _) (hk.mono λb _ h=>h) ?_).trans (ZQ _ _ ?_) |>.mono (s:=λb=>¬o b/\b<M (H w)) ?_
    .grind
    .omega
    simp_all
   .intro b r;rcases hg b ((j b).2 (.inl r)) with (h|h|h)|h
    .exact .inl h
    .simp_all
    .simp_all
    simp_all
def jS:El Nat Nat where
 enc k:=I J (k:Int)
 At _ _:=True
 blk _:=Qs
 key k:=k
 keep:=λ_ _ _=>trivial
 inn:=λ_ h=>by cases h
end
def tV(n:Nat)(hn:n<=64)(w:U) :
  Ce 48 #[I J (n:Int)] w (I Qq ((2 ^ n-1:Nat):Int)):=by
 rcases XV n 64 with h|h
 .exact Io n h w
 .obtain rfl:n=64:=X
  go_enter func48,ntmps48;go_wp2;go_ret;exact⟨rfl,rfl⟩
theorem MJ{l:Nat}(hd:∀o∈ops,∀c,o.op ≠ .defer c){K':Act->U->Prop}(hK:∀a w,K a w->K' a w)(h:wpOpIn Fence.wide 0 P ops Q i K a w):wpOpIn (Fence.wide.inRound l) 0 P ops Q i K' a w:=by
 unfold wpOpIn at*
 cases ho:ops[i]? with
 |none=>simp_all
 |some o =>
  rw[ho]at h;simp only at*;have f:=Array.mem_of_getElem? ho;by_cases g:Region.wanted o (yielded ops a.tmps)=T
  .rw[Zb g]at*;unfold Oper.wpIn at*;refine⟨h.1,?_⟩;have b:=h.2;rw[Oper.semAt_plain Fence.wide _ _ (hd o f)]at b;rw[Oper.semAt_plain (Fence.wide.inRound l) _ _ (hd o f)];generalize Sem.run P (execOp a.eval o) w=r at*;unfold Oper.uponIn at*;split at b
   .simp_all
   .simp_all
   .simp_all
   .exact⟨b.1,b.2.mono (λe w' d=>by
     grind)⟩
   .exact⟨b.1,b.2.mono (λv w' d=>hK _ _ d)⟩
   .exact⟨b.1,b.2.mono (λe w' d=>by
     grind)⟩
   .exact b
   omega
  simp_all
def qZ{P:Program}{md:Region.Mode}{ops:Array Oper}{Q:Exit->Act->U->Prop}{l:Nat}(hd:∀o∈ops,∀c,o.op ≠ .defer c):∀(fuel:Nat) (listed:Array Bool) (a:Act) (w:U),
  wpAnyIn Fence.wide 0 P md ops Q fuel listed a w->wpAnyIn (Fence.wide.inRound l) 0 P md ops Q fuel listed a w
 |0,_,_,_,h=>h
 |fuel+1,listed,a,w,h=>⟨h.1,λi b=>MJ hd (λd w' e=>qZ hd fuel _ d w' e) (h.2 i b)⟩
def Fg(ops:Array Oper):Bool:=ops.all λo=>match o.op with|.defer _=>F|_=>T
theorem pM(h:Fg ops=T):∀o∈ops,∀c,o.op ≠ .defer c:=by intro o a c b;unfold Fg at h;rw[Array.all_eq_true_iff_forall_mem]at h;grind
def step_append{Ez:Prop}(hgd:o.guard=Qs)(s x:Operand)(t:TypeId)
  (ho:o.op=.call { callee:=.builtin .append,args:=#[s,x],argTypes:=#[t,t] }) (v u v':Qm) (w':U) (hs:a.eval s=v) (hx:a.eval x=u)
  (hrun:(Builtin.append_ #[t,t] o.type #[v,u]).run P w=.ok v' w') (h:K (a.put o.dst v') w'):if Region.wanted o (yielded ops a.tmps)=T then Oper.wp P o a w K Q else Ez:=by
 have b:Region.wanted o (yielded ops a.tmps)=true:=by simp[Region.wanted,hgd]
 rw[Zb b];unfold Oper.wp;simp[execOp,ho,resolve,invoke,builtin,hs,hx,hrun,Result.andThen];exact h
structure ay.New(f:ay)(n:Nat):Prop where
 ca:∀a,f.ca=O a->n<=a.block
 ra:∀a,f.ra=O a->n<=a.block
 na:∀a,f.na=O a->n<=a.block
 pa:∀a,f.pa=O a->n<=a.block
def kK{off:Nat}{v:Qm}(h:Qp A (aD b off)=O v)(hk:Kept (λx=>x≠R) A B)(hb:b≠R):Qp B (aD b off)=O v:=Xa h hk hb
def dY.but{xs:Qy Nat}(h:dY A ao xs)(hk:Kept (λx=>x≠R) A B)(hb:∀a,ao=O a->a.block≠R):dY B ao xs:=⟨h.1,λi g=>by
 obtain⟨b,d,e,f⟩:=h.2 i g;exact⟨b,d,e,kK f hk (hb _ e)⟩⟩
def fK.but{cs:Qy (Nat × Int)}(h:fK A ao cs)(hk:Kept (λx=>x≠R) A B)(hb:∀a,ao=O a->a.block≠R):fK B ao cs:=⟨h.1,λi j=>by
 obtain⟨b,d,e,f,g⟩:=h.2 i j;exact⟨b,d,e,kK f hk (hb _ e),kK g hk (hb _ e)⟩⟩
def PartsAt.but{ps:Qy aC}(h:PartsAt A ao ps)(hk:Kept (λx=>x≠R) A B)(hb:∀a,ao=O a->a.block≠R)(ho:∀i,i<N ps->(E ps i bG).Ok w)(hw:Bw w B):PartsAt B ao ps:=⟨h.1,λi g=>by
 obtain⟨⟨b,f,e,j,k,l,m,n,p⟩,_⟩:=h.2 i g;have d:=hb _ e;exact⟨⟨b,f,e,kK j hk d,kK k hk d,kK l hk d,kK m hk d,kK n hk d,kK p hk d⟩,(ho i g).below hw⟩⟩
def ay.At.but{A B:U}{R:Nat}{f:ay}{ts:Qy af}{q:ae}(h:f.At ts q A)(hk:Kept (λx=>x≠R) A B){n:Nat}(hn:f.New n)(hR:R<n)(hq:q.At B):f.At ts q B:=
 ⟨hq,h.aL.but hk (λa e=>Qk (hn.ca a e)),h.rows.but hk (λa e=>Qk (hn.ra a e)),h.conc.but hk (λa e=>Qk (hn.na a e)),h.parts.but hk (λa e=>Qk (hn.pa a e)),h.nl,h.pl⟩
def Re{base:Nat}{e:TypeId}(size:Nat)(hb:base<=b)(h:w.heap[b]? = O (Qt #[] e (0,0))):w.ownsRow base e size (Z (O (aD b 0)) 0 0) 0 []:=
 ⟨Qa,.inr ⟨b,0,#[],rfl,hb,h,Za _,X,Qa,Qa⟩⟩
theorem mJ(W:U)(t ty e:TypeId)(i:TypeInfo)(z:Qm)(size bytes:Nat)(ht:P.underlying t=O (.slice e))(hi:P.info? e=O i)(hz:i.zero=O z)(hsize:i.size=size)(hby:i.bytes=bytes)(hzs:z.cells.size=size)(hsz:0<size)
  (a:Addr) (m c:Nat) (news:Qy Qm) (hl:N news=m*size) (hnews:∀j u,news[j]? = O u->∃b g,O a=O (aD b g)/\Qp W (aD b (g+j))=O u) (h1:∀u∈news,u.oneCell' = T) (hm:m<=1000000) (hbb:bytes<=1000) :
  ∃f w',(Builtin.append_ #[t,t] ty #[Z (O (aD (M (H W)) 0)) 0 0,Z (O a) m c]).run P (W.alloc (Qt #[] e))=.ok f w'/\w'.ownsRow (M (H W)) e size f m news/\Bw W w'/\(∃a k d,f = Z a k d):=by
 have l:=cZ W (Qt #[] e);obtain⟨f,w',p,n,q,_,_⟩:=XA (P:=P) (W.alloc (Qt #[] e)) (M (H W)) t ty e i z size bytes ht hi hz hsize hby hzs hsz (Z (O (aD (M (H W)) 0)) 0 0) 0 [] (Re size (Za _) (lT W _)) a m c news hl
  (λj u v=>by grind [addr_add,cB]) h1 (by grind [maxLen]) (by rw[ZC];have:=Nat.mul_le_mul hm hbb;omega) Qf
 rw[ZC,Z8]at n;refine⟨f,w',p,n,l.trans ((Xe (s:=λx=>x<M (H W)) q (λr e p=>?_)).below Qf (λ_ h=>h)),Xh n⟩;simp only[Value.ownBlock]at e;simp_all
def KX(c:Nat)(w:U)(hc:c<=4) :
  Ce 205 #[I Qq 1,I Qq c] w (.tuple #[I Qq 0,I Qq c]):=by
 obtain rfl|rfl|rfl|rfl|rfl:c=0∨c=1∨c=2∨c=3∨c=4:=X
 all_goals
  go_enter func205,ntmps205;go_wp2;go_ret2;exact⟨rfl,rfl⟩
def Uw(c:Nat)(w:U)(hc:c<=4) :
  Ce 210 #[I Qq 1,I Qq c] w (.tuple #[I Qq 0,I Qq c]):=by have h:=KX c w hc;go_enter func210,ntmps210;go_wp2_with fail;refine h.mono ?_;rintro e a ⟨rfl,rfl⟩;go_wp2;go_ret2;exact⟨rfl,rfl⟩
def dP(v:Int)(c k:Nat):Qy Value:=List.replicate k (Value.int J v)++List.replicate (c-k) (Value.int J 0)
def OJ(v:Int)(h:k<=c):N (dP v c k)=c:=by simp[dP];omega
def OL(v:Int)(c:Nat):dP v c c=List.replicate c (Value.int J v):=by simp[dP]
def KY(v:Int)(c:Nat):madeCells #[I J 0] c=(dP v c 0).toArray:=by rw[tK];simp[dP]
def uh(v:Int){m:Nat}(h:k+m<=c):splice (dP v c k) k (List.replicate m (Value.int J v))=dP v c (k+m):=by unfold splice dP;rw[List.take_left' Qa,Jw,List.drop_append,Jw,List.drop_eq_nil_of_le Qa,Z8,List.drop_replicate,<-X6,List.replicate_append_replicate];congr 2;omega
def KZ(v:Int)(hj:j<k):(dP v c k)[j]? = O (Value.int J v):=by unfold dP;rw[List.getElem?_append_left (by simpa using hj),List.getElem?_replicate,Zb hj]
def Tryz.zX:(V.info? 3).map (·.size)=O 1:=Qd
def Ux(w:U)(xb:Nat)(v:Int)(c:Nat)(hc:0<c)(hx:Qp w (aD xb 0)=O (I J v))(ty:TypeId) :
  (Builtin.copy_ #[22,22] ty #[Z (O (aD (M (H w)) 0)) c c,Z (O (aD xb 0)) 1 1]).run V (w.alloc (Qt (dP v c 0).toArray 3))=.ok (goInt 1) (w.alloc (Qt (dP v c 1).toArray 3)):=by
 rw[CJ (w.alloc (Qt (dP v c 0).toArray 3)) 22 22 ty 3 1 (M (H w)) c c (O (aD xb 0)) 1 1 (dP v c 0).toArray 3 [.int J v] underlying22 Tryz.zX (lT w _) hc rfl
  (λ_=>⟨_,rfl,λj u a=>by
   match j,a with
   |0,a=>cases a;exact cB (cZ w _) hx⟩) (by simp[dP];omega) (λu b=>by simp at b;subst b;rfl),vE]
 have h:splice (dP v c 0) 0 (List.replicate 1 (Value.int J v))=dP v c (0+1):=uh v X;unfold splice at h;simp only[List.take_zero,Z8,ZC,Jw,List.replicate_one]at h;exact congrArg (λl=>Result.ok (goInt 1) (w.alloc (Qt (List.toArray l) 3))) h
def Uy(W:U)(g:Nat)(v:Int)(c k m:Nat)(hg:W.heap[g]? = O (Qt (dP v c k).toArray 3))(hm:Nat.min k (c-k)=m)(hk:0<k)(hc:k<c)(ty:TypeId) :
  (Builtin.copy_ #[22,22] ty #[Z (O (aD g k)) (c-k) (c-k),Z (O (aD g 0)) k c]).run V W=.ok (I J m) (W.setRow g (dP v c (k+m)).toArray):=by
 have f:min k (c-k)=m:=hm;have a:m<=k/\k+m<=c:=X;rw[run_copy_row (P:=V) W 22 22 ty 3 g k (c-k) (c-k) (aD g 0) k c (dP v c k).toArray 3 (List.replicate m (.int J v)) underlying22 Tryz.zX hg (by rw[Jw,hm])
  (λj u e=>by
   have b:j<m:=by have:=(Xr.1 e).1;simpa using this
   rw[List.getElem?_replicate,Zb b]at e;cases e;have d:=KZ v (c:=c) (k:=k) (j:=j) X;rw[addr_add];simp[World.cell?,hg,d]) (by rw[Jw,ZZ,OJ v X];omega) (λu i=>by obtain⟨_,rfl⟩:=List.mem_replicate.1 i;rfl)]
 have h:=uh v a.2;unfold splice at h;rw[Jw]at h ⊢;rw[<-X6]at h;exact congrArg (λl=>Result.ok (goInt m) (W.setRow g (List.toArray l))) h
def OM(xb:Nat)(v:Int)(c:Nat)(w:U)(hc:c<=4)(hx:Qp w (aD xb 0)=O (I J v)) :
  Calls V 201 #[Z (O (aD xb 0)) 1 1,I J c] w λe w'=>e=Qv (Z (O (aD (M (H w)) 0)) c c)/\w'.heap[M (H w)]? = O (Qt (List.replicate c (Value.int J v)).toArray 3)/\Below (M (H w)) w w'/\M (H w')=M (H w)+1:=by
 have i:=run_make_row' (P:=V) 22 3 (.int J 0) 8 underlying22 Tryz.kE rfl J J c X X;rw[KY v c]at i;have d:=Uw c w hc;obtain⟨b,f⟩:=eX (Nat.min 1 c);have j:b<=c/\b<=1/\(b=0->c=0):=by have h:min 1 c=b:=f;omega
 have l:∀A,(Builtin.copy_ #[22,22] A #[Z (O (aD (M (H w)) 0)) c c,Z (O (aD xb 0)) 1 1]).run V (w.alloc (Qt (dP v c 0).toArray 3))=.ok (goInt b) (w.alloc (Qt (dP v c b).toArray 3)):=by
  intro A;have h:min 1 c=b:=f;by_cases h0:c=0
  .subst h0;obtain rfl:b=0:=X
   exact run_copy_none (P:=V) _ 22 22 A 3 _ _ 0 0 1 1 underlying22 Tryz.zX rfl
  .obtain rfl:b=1:=X
   exact Ux w xb v c X hx A
 have oU:=Zh j;clear f j hx;have B:∀n:Nat,goInt (n:Int)=I J n:=λ_=>rfl;rw[B]at l;go_enter func201,ntmps201;go_wp2_with fail;refine d.mono ?_;rintro e a ⟨rfl,rfl⟩;clear d;go_wp2;go_loopw [8] (λs wr=>∃k:Nat,k<=c/\s=I J k/\(k=0->c=0)/\wr.heap[M (H a)]? = O (Qt (dP v c k).toArray 3)/\Below (M (H a)) a wr/\M (H wr)=M (H a)+1) (λs _=>c-(intOf s).toNat)
 case atStart=>exact⟨b,oU.o.1,rfl,oU.o.2.2,lT _ _,cZ _ _,Qa⟩
 case round=>
  obtain⟨k,hk,rfl,G,y,K,g⟩:=hrel;by_cases W:k<c
  .obtain⟨m,L⟩:=eX (Nat.min k (c-k))
   have aa:=Uy wr.drew (M (H a)) v c k m y L X W;have C:min k (c-k)=m:=L;have p:0<m/\k+m<=c:=X;obtain⟨z,HS,HB,HG⟩:=sU p g K y;clear L C p l i G g K y;go_wp2;go_region
   all_goals
    have q:Below (M (H a)) a (wr.drew.setRow (M (H a)) (dP v c (k+m)).toArray):=below_setRow HB.o.drew (Za _) _;have r:wrap64 ((k:Int)+(m:Int))=((k+m:Nat):Int):=by have:=z.o;unfold wrap64;omega
    have t:(wr.drew.setRow (M (H a)) (dP v c (k+m)).toArray).heap[M (H a)]? = O (Qt (dP v c (k+m)).toArray 3):=setRow_heap wr.drew (M (H a)) _ _ _ _ HG.o;have u:M (H (wr.drew.setRow (M (H a)) (dP v c (k+m)).toArray))=M (H a)+1:=(setRow_size _ _ _).trans HS.o;rw[r];obtain⟨Q,R,S⟩:=jX q t u;clear q r t u;generalize wr.drew.setRow (M (H a)) (dP v c (k+m)).toArray=wf at*;go_wp2;go_roundw
    case rel=>exact⟨k+m,z.o.2,rfl,λh=>Qk z.o,R.o,Q.o,S.o⟩
    case measure=>have:=z.o;simp[intOf];omega
  .have D:k=c:=X
   subst D;rw[OL]at y;go_wp2;go_ret;exact⟨rfl,y,K,g⟩
def Gu(s v:Int)(w:U)(hs:-2305843009213693952<=s/\s<=2305843009213693952)(hv:-2305843009213693952<=v/\v<=2305843009213693952) :
  Ce 202 #[I J s,I J v] w (I J (PY s v)):=by
 have d:wrap64 (s+v)=s+v:=Qg;unfold PY;by_cases a:v=1073741824
 .rw[Zb a];subst a;go_enter func202,ntmps202;go_wp2;go_ret;exact⟨rfl,rfl⟩
 .rw[Zg a];by_cases b:s=1073741824
  .rw[Zb b];subst b;go_enter func202,ntmps202;go_wp2;go_ret;exact⟨rfl,rfl⟩
  .rw[Zg b];go_enter func202,ntmps202;go_wp2;go_ret;exact⟨rfl,rfl⟩
def Gv(k:ah)(n:Nat)(w:U)(hn:n<=4) :
  Calls V 178 #[k.val,I J n] w λe w'=>e=Qv (.pointer (O (aD (M (H w)+2) 0)))/\
   w'.heap[M (H w)+2]? = O (Qt #[k.val,I J 0,Z (O (aD (M (H w)+1) 0)) n n] 244)/\
   w'.heap[M (H w)+1]? = O (Qt (List.replicate n (Value.int J 1073741824)).toArray 3)/\Below (M (H w)) w w'/\M (H w')=M (H w)+3:=by
 obtain⟨y,z,A⟩:=k;unfold ah.val;simp only;have d:=cZ w (Qt #[I J 1073741824] 3);have l:=OM (M (H w)) 1073741824 n (w.alloc (Qt #[I J 1073741824] 3)) hn Qa;have a:M (H (w.alloc (Qt #[I J 1073741824] 3)))=M (H w)+1:=Qa;rw[a]at l;obtain⟨B,b⟩:=eX (w.alloc (Qt #[I J 1073741824] 3));obtain⟨f,C,p⟩:=jX b a d;clear a d;rw[b]at l;clear b;go_enter func178,ntmps178;go_wp2_with fail;rw[f.o];refine l.mono ?_;rintro e q ⟨rfl,g,i,j⟩;obtain⟨r,t,u⟩:=jX g i j;clear l g i j;go_wp2;go_ret;have v:M (H q)=M (H w)+2:=u.o;have m:Below (M (H w)) w q:=by have:=p.o;rw[f.o]at this;exact this.trans (t.o.mono X)
 rw[<-v];refine⟨rfl,lT _ _,?_,m.alloc X _,Qj⟩;exact(Below.heap_alloc q _ _ X).trans r.o
def OO{W:U}{b:Nat}{cs:Array Qm}{t:TypeId}(h:W.heap[b]? = O (Qt cs t)){i:Nat}{v:Qm}(hv:cs[i]? = O v):Qp W (aD b i)=O v:=by simp[World.cell?,h,hv]
def vw{t:TypeId}(h:W.heap[b]? = O (Qt cs t))(i:Nat):W.frozen? (aD b i)=false:=by simp[World.frozen?,h]
def Ey{t:TypeId}(h:W.heap[b]? = O (Qt cs t))(i:Nat)(v:Qm):(W.setCell (aD b i) v).heap[b]? = O (Qt (cs.setIfInBounds i v) t):=by rw[setCell_eq_setRow W b i cs t (0,0) v h];exact setRow_heap W b _ _ _ _ h
def K3(hne:c≠b)(i:Nat)(v:Qm):(W.setCell (aD b i) v).heap[c]? = W.heap[c]?:=Below.heap_setCell W (aD b i) v c hne
def Jy:=@OO
def K5(v:dB)(n:Int)(w:U)(hr:v.At w) :
  Ce 89 #[v.val,I J n] w (Qr (Mi v.rs n)):=by
 obtain⟨ad,cap,d⟩:=v;unfold dB.val;simp only;have hl:=hr.1;simp only at hl;have S:Qn _:=hr;clear hr;go_enter func89,ntmps89;go_wp2;go_loopw [11] (λi wr=>∃k:Nat,k<=N d/\i=I J k/\Qn (Mi (d.take k) n=T)/\w=wr) (λi _=>N d-(intOf i).toNat)
 case atStart=>exact⟨0,ZB _,rfl,rfl,rfl⟩
 case round=>
  obtain⟨k,hk,rfl,z,rfl⟩:=hrel;by_cases a:k<N d
  .obtain⟨b,Q,rfl,u⟩:=S.o.2.1.get a;have l:=u k a;have g:=S.o.2.2 k a;have j:Qn (ES (E d k iz).xs n=F->F=Mi d n):=λh=>(Ig (p:=λr:ah=>ES r.xs n) a h).symm
   have Yn:Qn (ES (E d k iz).xs n=T->Mi (d.take (k+1)) n=T):=λh=>DI (p:=λr:ah=>ES r.xs n) a z.o h;generalize E d k iz=x at*;obtain⟨zQ,mo,xs⟩:=x;simp only at*;have P8:Qp w (aD b (Q+k))=O (Z zQ (N xs) mo):=l;have C:=g.1;simp only at C;have HX:Qn _:=g;clear l u g;by_cases A:(N xs:Int)=n
   .have D:((N xs:Int) != n)=false:=by simpa using A
    go_wp2;go_loopw [21] (λi wr=>∃m:Nat,m<=N xs/\i=I J m/\Qn ((xs.take m).all zD=T)/\w=wr) (λi _=>N xs-(intOf i).toNat)
    case atStart=>exact⟨0,ZB _,rfl,rfl,rfl⟩
    case round=>
     obtain⟨m,hm,rfl,R,rfl⟩:=hrel;by_cases B:m<N xs
     .obtain⟨xb,ae,rfl,W⟩:=HX.o.get B;have aa:=W m B;have q:Qn (zD (E xs m 0)=F->xs.all zD=F):=λh=>Ig B h
      have t:Qn (zD (E xs m 0)=T->(xs.take (m+1)).all zD=T):=λh=>DI B R.o h;generalize E xs m 0=y at*;clear W;by_cases f:y=1073741824
      .have f0:(y != 1073741824)=false:=by simpa using f
       have e:Qn (zD y=T):=show _=_ by simp[zD,f]
       clear f;go_wp2;go_roundw
       case rel=>exact⟨m+1,X,Qe,t.o e.o,trivial⟩
       case measure=>exact XK
      .have f0:(y != 1073741824)=true:=by simpa using f
       by_cases y1:-1000<=y
       .by_cases y2:y<=1000
        .have e:Qn (zD y=T):=show _=_ by simp[zD,y1,y2]
         clear f;go_wp2;go_roundw
         case rel=>exact⟨m+1,X,Qe,t.o e.o,trivial⟩
         case measure=>exact XK
        .have e:=Zh (j.o (by unfold ES;rw[q.o (by simp[zD,f,y2])];simp));clear f;go_wp2;go_ret;exact⟨QY e.o,rfl⟩
       .have e:=Zh (j.o (by unfold ES;rw[q.o (by simp[zD,f,y1])];simp));clear f;go_wp2;go_ret;exact⟨QY e.o,rfl⟩
     .have G:m=N xs:=X
      subst G;rw[ZJ]at R;have K:=Zh (Yn.o (by unfold ES;rw[R.o];simp[A]));go_wp2;go_roundw
      case rel=>exact⟨k+1,X,Qe,K.o,trivial⟩
      case measure=>exact XK
   .have D:((N xs:Int) != n)=true:=by simpa using A
    have e:=Zh (j.o (by unfold ES;simp[A]));go_wp2;go_ret;exact⟨QY e.o,rfl⟩
  .have L:k=N d:=X
   subst L;rw[ZJ]at z;have P:=Zh z.o.symm;clear z;go_wp2;go_ret;exact⟨QY P.o,rfl⟩
theorem Cr(co:PN)(cc:Nat)(ts:Qy af)(d:PN)(rT:Nat)(db:Qy dB)(w:U)(hts:aQ w co ts)(K7:Mh w d db) :
  Ce 51 #[Z co (N ts) cc,Z d (N db) rT] w (Qr (decide (N db=N ts)&&Lf ts db)):=by
 have D:=hts.1;have G:Qn _:=hts;have C:Qn _:=K7;clear hts K7;by_cases r:N db=N ts
 .have v:((N db:Int) != (N ts:Int))=false:=by rw[r];simp
  have l:(decide (N db=N ts)&&Lf ts db)=Lf ts db:=by simp[r]
  rw[l];have K:=Zh r;clear l r;go_enter func51,ntmps51;go_wp2;go_loopw [14] (λi wr=>∃k:Nat,k<=N db/\i=I J k/\Qn ((List.range k).all (λi=>Ad (E db i rz) (E ts i tz))=T)/\w=wr) (λi _=>N db-(intOf i).toNat)
  case atStart=>exact⟨0,ZB _,rfl,rfl,rfl⟩
  case round=>
   obtain⟨k,hk,rfl,B,rfl⟩:=hrel;by_cases f:k<N db
   .obtain⟨b,Q,rfl,q⟩:=C.o.2.1.get f;have L:=q k f;have g:=C.o.2.2 k f;have m:k<N ts:=Qk K.o
    obtain⟨tb,R,rfl,t0,-,-,-,-,-⟩:=G.o.2 k m;have n:Qn (Ad (E db k rz) (E ts k tz)=F->F=Lf ts db):=λh=>(CP (p:=λi=>Ad (E db i rz) (E ts i tz)) f h).symm;have P:Qn (Ad (E db k rz) (E ts k tz)=T->(List.range (k+1)).all (λi=>Ad (E db i rz) (E ts i tz))=T):=λh=>Ae (p:=λi=>Ad (E db i rz) (E ts i tz)) B.o h;generalize E db k rz=x,(E ts k tz)=tt at*;have a:=K5 x tt.aL w g;obtain⟨zQ,mo,xs⟩:=x;obtain⟨aL,S,k0,k1,k2,k3⟩:=tt;unfold dB.val at*;simp only at*;have y:=g.1;simp only at y;clear q g;by_cases aa:50<N xs
    .have u:=Zh (n.o (by unfold Ad;simp;omega));go_wp2;go_ret;exact⟨QY u.o,rfl⟩
    .by_cases t:Mi xs aL=T
     .have u:=Zh (P.o (by unfold Ad;simp[t];omega));rw[t]at a;clear t;go_wp2_with fail;refine a.mono ?_;rintro e W ⟨rfl,rfl⟩;go_wp2;go_roundw
      case rel=>grind
      case measure=>exact XK
     .have j:Mi xs aL=false:=by simpa using t
      have u:=Zh (n.o (by unfold Ad;simp[j]));rw[j]at a;clear t j;go_wp2_with fail;refine a.mono ?_;rintro e W ⟨rfl,rfl⟩;go_wp2;go_ret;exact⟨QY u.o,rfl⟩
   .have z:k=N db:=X
    subst z;have A:Qn (T=Lf ts db):=B.o.symm;clear B;go_wp2;go_ret;exact⟨QY A.o,rfl⟩
 .have v:((N db:Int) != (N ts:Int))=true:=Qj
  have l:(decide (N db=N ts)&&Lf ts db)=false:=by simp[r]
  rw[l];clear l;go_enter func51,ntmps51;go_wp2;go_ret;exact⟨rfl,rfl⟩
theorem UE(s:ah)(d:PN)(rT:Nat)(db:Qy dB)(ts:Qy af)(w:U)(hs:s.At w)(K7:Mh w d db)(ha:bP s.xs (N db)=T)(hl:N s.xs<=5)(hB:Lf ts db=T) :
  Ce 52 #[s.val,Z d (N db) rT] w (I J (mQ s.xs db)):=by
 obtain⟨P,Q,src⟩:=s;unfold ah.val;simp only at*;have A:Qn _:=hs;have B:Qn _:=K7;obtain⟨G,u⟩:=aS ha hB;clear hs K7 ha hB;go_enter func52,ntmps52;go_wp2;go_loopw [5,10] (λp i wr=>∃k:Nat,k<=N src/\i=I J k/\p=I J (mQ (src.take k) db)/\w=wr) (λ_ i _=>N src-(intOf i).toNat)
 case atStart=>exact⟨0,ZB _,rfl,rfl,rfl⟩
 case round=>
  obtain⟨k,R,rfl,rfl,rfl⟩:=hrel;by_cases a:k<N src
  .have L:=mi G.o a;obtain⟨S,W,rfl,e⟩:=A.o.get a;have g:=e k a;have j:src[k].toNat<N db:=X
   obtain⟨b2,o2,rfl,f⟩:=B.o.2.1.get j;have l:=f _ j;have C:=tN u.o hl k;have m:=tN u.o hl (k+1);have D:=O5 u.o src[k].toNat;rw[Af a]at m;have n:=Zh (Af (db:=db) a);have v:E src k 0=src[k]:=by simp[List.getD,a]
   rw[v]at g;generalize E db src[k].toNat rz=x,mQ (src.take k) db=p at*;generalize K:src[k]=ck at*;clear v e f K;obtain⟨z,rfl⟩:∃z:Nat,ck=(z:Int):=⟨ck.toNat,X⟩;simp only[Xv]at j l;obtain⟨zQ,mo,xs⟩:=x;unfold dB.val at*;simp only at*;have b:((max 1 (N xs):Nat):Int)=if (1:Int)<(N xs:Int) then (N xs:Int) else 1:=by split <;> omega
   have y:wrap64 ((p:Int)*(if (1:Int)<(N xs:Int) then (N xs:Int) else 1))=((p*max 1 (N xs):Nat):Int):=by rw[<-b,<-Int.natCast_mul];unfold wrap64;omega
   have q:=Zh y;have r:Qn (wrap64 ((p:Int)*max 1 (N xs:Int))=((p*max 1 (N xs):Nat):Int)):=by grind
   clear y b;go_wp2;go_roundw
   case rel=>exact⟨k+1,X,Qe,by rw[n.o];first|exact congrArg (Value.int J) q.o|exact congrArg (Value.int J) r.o,trivial⟩
   case measure=>exact XK
  .have t:k=N src:=X
   subst t;rw[ZJ];go_wp2;go_ret;exact⟨rfl,rfl⟩
def Dx(co:PN)(cc:Nat)(ts:Qy af)(q:ae)(d:PN)(rT:Nat)(db:Qy dB)(w:U)(hts:aQ w co ts)(hq:q.src.At w)(K7:Mh w d db)(ha:bP q.src.xs (N ts)=T)(hl:N q.src.xs<=5) :
  Cb 29 #[Z co (N ts) cc,.agg q.cells,Z d (N db) rT] w (I J (if O4 ts q.src.xs db then 0 else 4)):=by
 have a:=cZ w (Qt q.cells 26);have i:=Cr co cc ts d rT db _ (hts.below a) (K7.below a);have j:=a;have l:O4 ts q.src.xs db=((decide (N db=N ts)&&Lf ts db)&&decide (mQ q.src.xs db<=20000)):=rfl;by_cases n:(decide (N db=N ts)&&Lf ts db)=T
 .have b:=n;simp only[Q6,Zf]at b;have m:=UE q.src d rT db ts _ (Q8 a hq) (K7.below a) (by rw[b.1];exact ha) hl b.2;rw[n]at i l;rw[l];have v:((mQ q.src.xs db:Nat):Int) > 20000∨¬((mQ q.src.xs db:Nat):Int) > 20000:=X
  have r:=Zh j;clear l n b a j hts K7 ha hl hq;obtain⟨⟨y,z,src⟩,A,B,C,group,f,g,t,ord⟩:=q;unfold ae.cells ah.val at*;simp only at*;generalize mQ src db=p at*;have D:Qp (w.alloc (Qt #[Z y (N src) z,Z A (N C) B,Qr group,Z f.ad (N f.xs) f.cap,Z g.ad (N g.xs) g.cap,Z t.ad (N t.xs) t.cap,Z ord.ad (N ord.xs) ord.cap] 26)) (aD (M (H w)) 0)=O (Z y (N src) z):=Qa;rcases v with v|v
  .have k:(if (T&&decide (p<=20000))=T then (0:Int) else 4)=4:=by rw[Zg];simp;omega
   rw[k];clear k;go_enter func29,ntmps29;go_wp2_with fail;refine i.mono ?_;rintro e u ⟨rfl,rfl⟩;go_wp2_with fail;refine m.mono ?_;rintro e u ⟨rfl,rfl⟩;go_wp2;go_ret;exact⟨rfl,r.o⟩
  .have k:(if (T&&decide (p<=20000))=T then (0:Int) else 4)=0:=by rw[Zb];simp;omega
   rw[k];clear k;go_enter func29,ntmps29;go_wp2_with fail;refine i.mono ?_;rintro e u ⟨rfl,rfl⟩;go_wp2_with fail;refine m.mono ?_;rintro e u ⟨rfl,rfl⟩;go_wp2;go_ret;exact⟨rfl,r.o⟩
 .have b:(decide (N db=N ts)&&Lf ts db)=false:=by simpa using n
  rw[b]at i l;have k:(if O4 ts q.src.xs db then (0:Int) else 4)=4:=by rw[l];rfl
  rw[k];have r:=Zh j;clear l n b a j hts K7 ha hl hq k;obtain⟨⟨y,z,src⟩,A,B,C,group,f,g,t,ord⟩:=q;unfold ae.cells ah.val at*;simp only at*;go_enter func29,ntmps29;go_wp2_with fail;refine i.mono ?_;rintro e u ⟨rfl,rfl⟩;go_wp2;go_ret;exact⟨rfl,r.o⟩
theorem jV(a b:List α)(d:α)(i:Nat):E (a++b) i d=if i<N a then E a i d else E b (i-N a) d:=by grind
structure dX(n:ai)(i:Nat):Prop where
 lo:1<=n.kind
 hi:n.kind<=10
 more:qQ n=T
 l:1<=arity n.kind->0<=n.l/\n.l<i
 r:2<=arity n.kind->0<=n.r/\n.r<i
def Ox(n:ai)(i:Nat):eu n i=T↔dX n i:=by
 unfold eu;simp only[Q6,Bool.or_eq_true,Zf];constructor
 .rintro⟨⟨⟨⟨a,b⟩,d⟩,e⟩,f⟩;exact⟨a,b,d,λh=>X,λh=>X⟩
 .intro h;refine⟨⟨⟨⟨h.lo,h.hi⟩,h.more⟩,?_⟩,?_⟩
  .by_cases a:1<=arity n.kind
   .exact .inr (h.l a)
   omega
  .by_cases a:2<=arity n.kind
   .exact .inr (h.r a)
   omega
theorem vg(k:Int):arity k<=2:=by grind [arity]
def xI(h:dX n i)(hk:i+k<=1000):dX (bO k n) (i+k)/\(1<=arity n.kind->(bO k n).l=n.l+k)/\(2<=arity n.kind->(bO k n).r=n.r+k):=by
 have d:1<=arity n.kind->(bO k n).l=n.l+k:=λa=>by have:=h.l a;show (if 1<=arity n.kind then wrap64 (n.l+k) else n.l)=_;rw[Zb a];unfold wrap64;omega
 have e:2<=arity n.kind->(bO k n).r=n.r+k:=λa=>by have:=h.r a;show (if 2<=arity n.kind then wrap64 (n.r+k) else n.r)=_;rw[Zb a];unfold wrap64;omega
 refine⟨⟨h.lo,h.hi,?_,λa=>?_,λa=>?_⟩,d,e⟩
 .have b:=h.more;unfold qQ at b ⊢;rw[Zf]at b ⊢;obtain⟨g,j,f⟩:=b;refine⟨?_,?_,f⟩
  .by_cases a:1<=arity n.kind
   .exact .inl a
   .right
    show (if 1<=arity n.kind then wrap64 (n.l+k) else n.l)=0;omega
  .by_cases a:2<=arity n.kind
   .exact .inl a
   .right
    show (if 2<=arity n.kind then wrap64 (n.r+k) else n.r)=0;omega
 .have:=h.l a;rw[d a];omega
 .have:=h.r a;rw[e a];omega
def ins(n:ai):Qy Nat:=if arity n.kind=0 then [] else if arity n.kind=1 then [n.l.toNat] else [n.l.toNat,n.r.toNat]
def kP(ns:Qy ai)(k:Nat):Nat:=(ns.map λn=>(ins n).count k).sum
theorem aad(h:dX (E ns i nz) i):inpN ns i=ins (E ns i nz):=by
 unfold inpN ins;simp only[];have a:=vg (E ns i nz).kind;split
 .rfl
 .split
  .rw[Zb (h.l X)]
  .have b:=h.l X;have d:=h.r X
   simp_all
theorem Oy(ns:Qy ai)(f:ai->Nat):fB (N ns) (λi=>f (E ns i nz))=(ns.map f).sum:=by unfold fB;grind [List.ext_getElem,List.length_map]
theorem aae(h:∀i,i<N ns->dX (E ns i nz) i)(k:Nat):fB (N ns) (λi=>(inpN ns i).count k)=kP ns k:=by grind [kP,Oy,vG,aad]
theorem Cf(a b:Qy ai)(k:Nat):kP (a++b) k=kP a k+kP b k:=by grind [kP]
theorem Ev(h:∀n∈ns,k ∉ ins n):kP ns k=0:=by
 unfold kP
 induction ns with
 |nil=>rfl
 |cons n ns ih =>
  grind
theorem aht(h:dX n i):∀k∈ins n,k<i:=by
 intro k a;unfold ins at a;split at a
 .cases a
 .split at a
  .have:=h.l X
   simp_all
  .have b:=vg n.kind;have d:=h.l X;have e:=h.r X
   grind
theorem KF(h:dX n i)(hk:i+k<=1000):ins (bO k n)=(ins n).map (· + k):=by
 obtain⟨_,a,b⟩:=xI h hk;unfold ins;show (if arity n.kind=0 then [] else if arity n.kind=1 then [(bO k n).l.toNat] else [(bO k n).l.toNat,(bO k n).r.toNat])=_;have d:=vg n.kind;split
 .rfl
 .split
  .have:=h.l X;rw[a X];simp;omega
  .have e:=h.l X;have f:=h.r X;rw[a X,b X];simp;omega
theorem KG(l:Qy Nat)(k j:Nat):(l.map (· + k)).count (j+k)=l.count j:=by
 induction l with
 |nil=>rfl
 |cons a l ih =>
  grind
theorem yL(h:∀i,i<N ns->dX (E ns i nz) i)(hk:N ns+k<=1000)(j:Nat):kP (ns.map (bO k)) (j+k)=kP ns j:=by unfold kP;rw[List.map_map];congr 1;apply List.map_congr_left;intro n b;obtain⟨i,a,rfl⟩:=Zc b;have d:=h i a;grind [KF,KG]
structure LQ(ts:Qy af)(q:ae)(ns:Qy ai)(ps:Qy bW):Prop where
 len:N ps=N ns
 st:∀i,i<N ns->dX (E ns i nz) i
 fit:∀i,i<N ns->(lU (E ns i nz).kind (fe (E ns i nz) ps) (fo (E ns i nz) ps)&&iK ts q (E ns i nz) (fe (E ns i nz) ps) (fo (E ns i nz) ps))=T
 part:∀i,i<N ns->E ps i pz=lG ts q (E ns i nz) (fe (E ns i nz) ps) (fo (E ns i nz) ps)
def LQ.nil(ts:Qy af)(q:ae):LQ ts q [] []:=⟨rfl,λi a=>absurd a Qa,λi a=>absurd a Qa,λi a=>absurd a Qa⟩
theorem sO(h:dX n i){a b:Qy bW}(e:∀j,j<i->E a j pz=E b j pz):fe n a=fe n b/\fo n a=fo n b:=by
 unfold fe fo;constructor
 .split
  .rename_i h1
   have:=h.l h1;simp_all
  .rfl
 .split
  .rename_i h1
   have:=h.r X;simp_all
  .rfl
theorem LQ.app{ms:Qy ai}{qs:Qy bW}(h:LQ ts q ns ps)(g:LQ ts q ms qs)(hl:N ms+N ns<=1000):LQ ts q (ns++ms.map (bO (N ns))) (ps++qs):=by
 have key:∀i,i<N (ns++ms.map (bO (N ns)))->dX (E (ns++ms.map (bO (N ns))) i nz) i/\
   ((i<N ns/\E (ns++ms.map (bO (N ns))) i nz=E ns i nz/\fe (E ns i nz) (ps++qs)=fe (E ns i nz) ps/\fo (E ns i nz) (ps++qs)=fo (E ns i nz) ps)∨
    (∃j,j<N ms/\i=N ns+j/\E (ns++ms.map (bO (N ns))) i nz=bO (N ns) (E ms j nz)/\fe (bO (N ns) (E ms j nz)) (ps++qs)=fe (E ms j nz) qs/\fo (bO (N ns) (E ms j nz)) (ps++qs)=fo (E ms j nz) qs)):=by
  intro i a;rw[ZG,ZH]at a;by_cases f:i<N ns
  .have e:E (ns++ms.map (bO (N ns))) i nz=E ns i nz:=Qf
   have d:=h.st i f;grind [sO,LQ.len]
  .obtain⟨j,rfl⟩:∃j,i=N ns+j:=⟨i-N ns,X⟩
   have b:j<N ms:=X;have e:E (ns++ms.map (bO (N ns))) (N ns+j) nz=bO (N ns) (E ms j nz):=by simp_all
   have d:=g.st j b;obtain⟨p,m,n⟩:=xI d (k:=N ns) X;refine⟨Qb,.inr ⟨j,b,rfl,e,?_,?_⟩⟩
   .unfold fe
    show (if 1<=arity (E ms j nz).kind then _ else _)=_;split
    .rename_i h1
     have:=d.l h1;rw[m h1,jV,Zg (by rw[h.len];omega),h.len];grind
    .rfl
   .unfold fo
    show (if arity (E ms j nz).kind=2 then _ else _)=_;split
    .rename_i h1
     have:=d.r X;rw[n X,jV,Zg (by rw[h.len];omega),h.len];grind
    .rfl
 refine⟨by grind [LQ.len],λi a=>(key i a).1,λi a=>?_,λi a=>?_⟩
 .rcases (key i a).2 with⟨h1,e,e1,e2⟩|⟨j,b,rfl,e,e1,e2⟩
  .rw[e,e1,e2];exact h.fit i h1
  .rw[e,e1,e2];exact g.fit j b
 .rcases (key i a).2 with⟨h1,e,e1,e2⟩|⟨j,b,rfl,e,e1,e2⟩
  .rw[e,e1,e2,jV,Zb (by grind [LQ.len])];exact h.part i h1
  .rw[e,e1,e2,jV,Zg (by grind [LQ.len]),h.len,Nat.add_sub_cancel_left];exact g.part j b
theorem LQ.snoc(h:LQ ts q ns ps)(hs:dX n (N ns))(hf:(lU n.kind (fe n ps) (fo n ps)&&iK ts q n (fe n ps) (fo n ps))=T):LQ ts q (ns++[n]) (ps++[lG ts q n (fe n ps) (fo n ps)]):=by
 have far:∀{m:ai} {i:Nat},dX m i->i<=N ns->fe m (ps++[lG ts q n (fe n ps) (fo n ps)])=fe m ps/\fo m (ps++[lG ts q n (fe n ps) (fo n ps)])=fo m ps:=λb a=>sO b λj d=>by grind [LQ.len]
 have key:∀i,i<N (ns++[n])->(i<N ns/\E (ns++[n]) i nz=E ns i nz)∨(i=N ns/\E (ns++[n]) i nz=n):=λi a=>by grind
 refine⟨by grind [LQ.len],λi a=>?_,λi a=>?_,λi a=>?_⟩
 .grind [LQ.st]
 .rcases key i a with⟨h1,e⟩|⟨rfl,e⟩
  .rw[e,(far (h.st i h1) X).1,(far (h.st i h1) X).2];exact h.fit i h1
  grind
 .rcases key i a with⟨h1,e⟩|⟨rfl,e⟩
  .rw[e,(far (h.st i h1) X).1,(far (h.st i h1) X).2,jV,Zb (by grind [LQ.len])];exact h.part i h1
  .rw[e,(far hs X).1,(far hs X).2,jV,Zg (by grind [LQ.len]),h.len,Nat.sub_self];rfl
theorem LQ.parts{ts:Qy af}{q:ae}{ns:Qy ai}{ps:Qy bW}(h:LQ ts q ns ps):∀k,k<=N ns->fH ts q ns k=O (ps.take k)
 |0,_=>rfl
 |k+1,hk=>by
  show (fH ts q ns k).bind (mg ts q (E ns k nz))=_;rw[h.parts k X];show mg ts q (E ns k nz) (ps.take k)=_;have hl:=h.len;obtain⟨e1,e2⟩:=sO (h.st k X) (a:=ps.take k) (b:=ps) (λj hj=>by
   simp_all)
  unfold mg;rw[e1,e2,Zb (h.fit k X),<-h.part k X,Q4 X];grind
structure TF(ts:Qy af)(q:ae)(t:aP):Prop where
 ex:∃ps,LQ ts q t.ns ps/\E ps (N t.ns-1) pz=t.d
 pos:0<N t.ns
 once:∀k,k+1<N t.ns->kP t.ns k=1
structure KH(n:ai):Prop where
 lo:1<=n.kind
 hi:n.kind<=10
 source:n.kind=1∨n.source=0
 key:n.kind=4∨n.kind=5∨n.key=0
 cl:n.kind=2∨3<=n.kind/\n.kind<=5∨N n.cl.xs=0
 co:n.kind=6∨N n.co.xs=0
def eZ(n:ai)(l r:Int):ai:=⟨n.kind,l,r,n.source,⟨Qs,0,n.cl.xs⟩,n.key,⟨Qs,0,n.co.xs⟩⟩
def vo(h:KH n){l r:Int}(hl:(1<=arity n.kind->0<=l/\l<i)/\(¬1<=arity n.kind->l=0))(hr:(2<=arity n.kind->0<=r/\r<i)/\(¬2<=arity n.kind->r=0)):dX (eZ n l r) i:=by
 refine⟨h.lo,h.hi,?_,hl.1,hr.1⟩;unfold qQ;rw[Zf];refine⟨?_,?_,h.source,h.key,h.cl,h.co⟩
 .by_cases a:1<=arity n.kind
  .exact .inl a
  .exact .inr (hl.2 a)
 .by_cases a:2<=arity n.kind
  .exact .inl a
  .exact .inr (hr.2 a)
def xJ(h:∀i,i<N ns->dX (E ns i nz) i)(hk:N ns<=k+1):kP ns k=0:=by refine Ev λn d e=>?_;obtain⟨i,b,rfl⟩:=Zc d;have a:=h i b;rw[Je,Xu b]at a;have:=aht (show dX ns[i] i from a) k e;omega
def KI(n:ai)(k:Nat):kP [n] k=(ins n).count k:=by rfl
theorem aaf(h:∀i,i<N ns->dX (E ns i nz) i)(hk:N ns+k<=1000)(hj:j<k):kP (ns.map (bO k)) j=0:=by refine Ev λn d f=>?_;obtain⟨m,a,rfl⟩:=ZL.1 d;obtain⟨i,b,rfl⟩:=Zc a;have e:=h i b;grind [KF]
def KJ(a:List α)(x d:α){n:Nat}(h:n=N a):E (a++[x]) n d=x:=by simp_all
def TF.al5(hn:KH n)(ha:arity n.kind=0)(hf:(lU n.kind pz pz&&iK ts q n pz pz)=T):TF ts q (au ts q n []):=by
 have e:(au ts q n []).ns=[]++[eZ n 0 0]:=rfl;have d:dX (eZ n 0 0) (N ([]:Qy ai)):=vo hn ⟨λh=>X,λ_=>rfl⟩ ⟨λh=>X,λ_=>rfl⟩;have a:fe (eZ n 0 0) []=pz:=by unfold fe;split <;> rfl
 have b:fo (eZ n 0 0) []=pz:=by unfold fo;split <;> rfl
 have h:=(LQ.nil ts q).snoc d (by rw[a,b];exact hf);refine⟨⟨_,by rw[e];exact h,?_⟩,by rw[e];simp,λk f=>?_⟩
 .rw[a,b,e];rfl
 simp_all
def TF.Px{a:aP}(hn:KH n)(ha:arity n.kind=1)(h:TF ts q a)(hl:N a.ns<=900)(hf:(lU n.kind a.d pz&&iK ts q n a.d pz)=T):TF ts q (au ts q n [a]):=by
 obtain⟨ps,f,hd⟩:=h.ex;have l:=(LQ.nil ts q).app f Qj;have v:=h.pos;have b:N ([]++a.ns.map (bO 0))=N a.ns:=Qa;have e:(au ts q n [a]).ns=([]++a.ns.map (bO 0))++[eZ n ((N a.ns:Int)-1) 0]:=by show fw [a.ns]++[_]=_;unfold fw eZ;show _++[(⟨n.kind,(N (fw [a.ns]):Int)-1,0,_,_,_,_⟩:ai)]=_;rw[show N (fw [a.ns])=N a.ns by simp[fw]];rfl
 have m:dX (eZ n ((N a.ns:Int)-1) 0) (N ([]++a.ns.map (bO 0))):=by rw[b];exact vo hn ⟨λ_=>X,λh=>X⟩ ⟨λh=>X,λ_=>rfl⟩
 have i:fe (eZ n ((N a.ns:Int)-1) 0) ([]++ps)=a.d:=by unfold fe;show (if 1<=arity n.kind then _ else _)=_;rw[Zb X,<-hd];show E ps ((N a.ns:Int)-1).toNat pz=_;simp_all
 have j:fo (eZ n ((N a.ns:Int)-1) 0) ([]++ps)=pz:=by unfold fo;show (if arity n.kind=2 then _ else _)=_;simp_all
 have p:=l.snoc m (by rw[i,j];exact hf);refine⟨⟨_,by rw[e];exact p,?_⟩,by rw[e];simp,λk u=>?_⟩
 .rw[i,j,e];exact KJ _ _ _ (by rw[ZG,Jt,Nat.add_sub_cancel,b];simp[f.len])
 .rw[e,ZG,b,Jt]at u;rw[e,Cf,KI,Z8];have r:kP (a.ns.map (bO 0)) k=kP a.ns k:=yL (k:=0) f.st X k;have t:ins (eZ n ((N a.ns:Int)-1) 0)=[N a.ns-1]:=by unfold ins;show (if arity n.kind=0 then [] else if arity n.kind=1 then [((N a.ns:Int)-1).toNat] else _)=_;simp_all
  rw[r,t,List.count_singleton];by_cases g:k+1<N a.ns
  .rw[h.once k g,Zg Qj]
  .rw[xJ f.st X,Zb Qj]
def TF.aeb{a b:aP}(hn:KH n)(ha:arity n.kind=2)(h:TF ts q a)(g:TF ts q b)(hl:N a.ns+N b.ns<=900)(hf:(lU n.kind a.d b.d&&iK ts q n a.d b.d)=T):TF ts q (au ts q n [a,b]):=by
 obtain⟨ps,p,hd⟩:=h.ex;obtain⟨t,r,Q⟩:=g.ex;have S:=h.pos;have W:=g.pos;have B:=(LQ.nil ts q).app p Qj;have u:N ([]++a.ns.map (bO (N ([]:Qy ai))))=N a.ns:=Qa;have y:=B.app r Qj;obtain⟨L,i⟩:=eY (([]++a.ns.map (bO (N ([]:Qy ai))))++b.ns.map (bO (N ([]++a.ns.map (bO (N ([]:Qy ai)))))));have f:N L=N a.ns+N b.ns:=Qf;rw[<-i]at y;have e:(au ts q n [a,b]).ns=L++[eZ n ((N a.ns:Int)-1) (((N a.ns+N b.ns:Nat):Int)-1)]:=by
  show fw [a.ns,b.ns]++[(⟨n.kind,(N (fw [a.ns]):Int)-1,(N (fw [a.ns,b.ns]):Int)-1,_,_,_,_⟩:ai)]=_;have C:fw [a.ns,b.ns]=L:=by rw[i];rfl
  rw[C,f,show (N (fw [a.ns]))=N a.ns by simp[fw]];rfl
 have D:dX (eZ n ((N a.ns:Int)-1) (((N a.ns+N b.ns:Nat):Int)-1)) (N L):=by rw[f];exact vo hn ⟨λ_=>X,λh=>X⟩ ⟨λ_=>X,λh=>X⟩
 have m:N ([]++ps)=N a.ns:=by simp[p.len]
 have z:fe (eZ n ((N a.ns:Int)-1) (((N a.ns+N b.ns:Nat):Int)-1)) (([]++ps)++t)=a.d:=by unfold fe;show (if 1<=arity n.kind then _ else _)=_;rw[Zb X,<-hd];show E (([]++ps)++t) ((N a.ns:Int)-1).toNat pz=_;rw[jV,Zb X];simp_all
 have A:fo (eZ n ((N a.ns:Int)-1) (((N a.ns+N b.ns:Nat):Int)-1)) (([]++ps)++t)=b.d:=by unfold fo;show (if arity n.kind=2 then _ else _)=_;rw[Zb ha,<-Q];show E (([]++ps)++t) (((N a.ns+N b.ns:Nat):Int)-1).toNat pz=_;rw[jV,Zg X,m];congr 1;omega
 have G:=y.snoc D (by rw[z,A];exact hf);refine⟨⟨_,by rw[e];exact G,?_⟩,by rw[e];simp,λk R=>?_⟩
 .rw[z,A,e];exact KJ _ _ _ (by rw[ZG,Jt,Nat.add_sub_cancel,f,ZG,m,r.len])
 .rw[e,ZG,f,Jt]at R;have K:ins (eZ n ((N a.ns:Int)-1) (((N a.ns+N b.ns:Nat):Int)-1))=[N a.ns-1,N a.ns+N b.ns-1]:=by
   unfold ins;show (if arity n.kind=0 then [] else if arity n.kind=1 then _ else [((N a.ns:Int)-1).toNat,(((N a.ns+N b.ns:Nat):Int)-1).toNat])=_;rw[Zg X,Zg X];congr 1
   .omega
   .congr 1;omega
  have P:kP ([]++a.ns.map (bO (N ([]:Qy ai)))) k=kP a.ns k:=yL (k:=0) p.st X k;rw[e,Cf,KI,i,Cf,P,K,List.count_cons,List.count_singleton,u];by_cases v:k<N a.ns
  .rw[aaf r.st X v,Zg Qj];by_cases l:k+1<N a.ns
   .rw[h.once k l,Zg Qj]
   .rw[xJ p.st X,Zb Qj]
  .obtain⟨j,rfl⟩:∃j,k=j+N a.ns:=⟨k-N a.ns,X⟩
   rw[xJ p.st X,yL r.st X,Zg (show ¬(N a.ns-1==j+N a.ns)=T by simp;omega)];by_cases l:j+1<N b.ns
   .rw[g.once j l,Zg Qj]
   .rw[xJ r.st X,Zb Qj]
theorem TF.look(h:TF ts q t)(hl:N t.ns<=64)(he:∀ps,LQ ts q t.ns ps->(eT (E t.ns (N t.ns-1) nz).kind&&gX q (E t.ns (N t.ns-1) nz).kind (E ps (E t.ns (N t.ns-1) nz).l.toNat pz).order)=T):∃b,jm ts q t.ns=O b/\N b=N t.ns/\E b (N b-1) pz=t.d:=by
 obtain⟨ps,a,hd⟩:=h.ex;have g:=h.pos;have e:dD t.ns=true:=by
  unfold dD;simp only[Q6,Zf];refine⟨⟨⟨X,hl⟩,?_⟩,?_⟩
  .rw[Q7];intro i j;exact(Ox _ _).2 (a.st i Qf)
  .unfold vI;rw[Q7];intro k m;rw[Zf,aae a.st];have f:k<N t.ns-1:=Qf
   exact h.once k X
 refine⟨ps,?_,a.len,by rw[a.len];exact hd⟩;unfold jm;rw[Zg Qf,a.parts _ (Za _),XQ (by rw[a.len];omega)];grind
def iT{n:Nat}{oi:Oper}(i:Nat)(v:Value)(h:wpAnyIn Fq n P md ops Q fuel (listed.setIfInBounds i true) (a.put oi.dst v) w)(hr:(Region.ready md ops listed).contains i=true:=by decide +kernel)(hi:ops[i]? = some oi:=by exact rfl)(hro:Fq.round=none:=by exact rfl)(hs:Region.noSelect ops=true:=by kernel_rfl)(hf:Region.free md ops listed i=true:=by kernel_rfl)(hQ:∀c a w,Q (.panic c) (a.put oi.dst v) w->Q (.panic c) a w:=by exact λ_ _ _ h=>h)(hy:YieldsFenced P ops oi v a:=by exact⟨Or.inl ⟨Qi,λw=>by go_simp⟩,λ_=>rfl⟩):wpAnyIn Fq n P md ops Q (fuel+1) listed a w:=
 wpAnyIn_take hro hi hs hf hr hQ hy h
@[reducible] def OpK (Fq:Fence) (n:Nat) (P:Program) (md:Region.Mode) (ops:Array Oper) (Q:Exit->Act->U->Prop) (fuel:Nat) (listed:Array Bool) (a:Act) (w:U) (i:Nat) (o:Oper):Prop:=
 ∀K:Act->U->Prop,(∀a w,wpAnyIn Fq n P md ops Q fuel (listed.setIfInBounds i T) a w->K a w)->if Region.wanted o (yielded ops a.tmps)=T then Oper.wpIn Fq n P o a w K Q else (∀f,o.about P w a.eval=O f->Fq.fn f)/\K (a.put o.dst undef) w
def iQ{n:Nat}(i:Nat)(h:OpK Fq n P md ops Q fuel listed a w i o)(hr:Region.ready md ops listed=[i]:=by decide +kernel)(hi:ops[i]? = some o:=by exact rfl):wpAnyIn Fq n P md ops Q (fuel+1) listed a w:=
 wpAnyIn_ready hr Qa (AllReadyIn.cons hi h AllReadyIn.nil)
def iJ{n:Nat}(i j:Nat)(h:OpK Fq n P md ops Q fuel listed a w i o)(k:OpK Fq n P md ops Q fuel listed a w j p)(hr:Region.ready md ops listed=[i,j]:=by decide +kernel)(hi:ops[i]? = some o:=by exact rfl)(hj:ops[j]? = some p:=by exact rfl):wpAnyIn Fq n P md ops Q (fuel+1) listed a w:=
 wpAnyIn_ready hr Qa (AllReadyIn.cons hi h (AllReadyIn.cons hj k AllReadyIn.nil))
def iD{n:Nat}(h:Q .normal a w)(hr:Region.ready md ops listed=[]:=by decide +kernel):wpAnyIn Fq n P md ops Q fuel listed a w:=
 wpAnyIn_done hr h fuel
def kR(i:Nat)(h:∀K':Act->World->Prop,Shut (∀a w,S w->(S w->wpAnyH P md ops Q S fuel (listed.setIfInBounds i true) a w)->K' a w)->if Region.wanted o (yielded ops a.tmps)=true then Oper.wp P o a w K' Q else K' (a.put o.dst undef) w)(hr:Region.ready md ops listed=[i]:=by decide +kernel)(hi:ops[i]? = some o:=by exact rfl):wpAnyH P md ops Q S (fuel+1) listed a w:=
 wR i h hi hr
def kJ(i j:Nat)(h:∀K':Act->World->Prop,Shut (∀a w,S w->(S w->wpAnyH P md ops Q S fuel (listed.setIfInBounds i true) a w)->K' a w)->if Region.wanted o (yielded ops a.tmps)=true then Oper.wp P o a w K' Q else K' (a.put o.dst undef) w)(k:∀K':Act->World->Prop,Shut (∀a w,S w->(S w->wpAnyH P md ops Q S fuel (listed.setIfInBounds j true) a w)->K' a w)->if Region.wanted p (yielded ops a.tmps)=true then Oper.wp P p a w K' Q else K' (a.put p.dst undef) w)(hr:Region.ready md ops listed=[i,j]:=by decide +kernel)(hi:ops[i]? = some o:=by exact rfl)(hj:ops[j]? = some p:=by exact rfl):wpAnyH P md ops Q S (fuel+1) listed a w:=
 wJ i j h k hi hj hr
def kD(h:Q .normal a w)(hr:Region.ready md ops listed=[]:=by decide +kernel):wpAnyH P md ops Q S fuel listed a w:=wD h hr
def kG(i:Nat)(h:wpAnyH P md ops Q S fuel listed a w)(_:(Region.ready md ops listed).contains i=true:=by decide +kernel):wpAnyH P md ops Q S fuel listed a w:=h
section
def qY(s k:Nat):Qy Nat:=(List.range k).filter λi=>s.testBit i
def IA(s k:Nat):qY s (k+1)=qY s k++if s.testBit k=T then [k] else []:=by unfold qY;rw[ZE,List.filter_append];cases h:s.testBit k <;> simp[h]
theorem MG(s:Nat){k:Nat}(hk:k<=64):qY s k <+: aR s:=by
 have e:List.range 64=List.range k++(List.range (64-k)).map (k + ·):=by rw[<-List.range_add];congr 1;omega
 unfold qY aR;grind
def MH(s:Nat){k:Nat}(hk:k<=64)(h:s / 2 ^ k=0):qY s k=aR s:=by
 symm;refine EK hk _ (λi d=>?_);have b:s<2 ^ k:=by
  rcases XV s (2 ^ k) with a|a
  .exact a
  .have:=Nat.div_pos a (Nat.pow_pos X);omega
 exact Zx (Zy b (ZA X d))
def MI(hs:s<18446744073709551616)(h:s / 2 ^ k≠0):k<64:=by
 rcases XV k 64 with a|a
 .exact a
 .exfalso;apply h;apply Nat.div_eq_of_lt;exact Zy hs (ZA (n:=2) X a)
attribute [local go_sem] Oper.semAt_some
theorem pK(s:Nat)(hs:s<18446744073709551616)(w0:U):aiL jS V 45 (I Qq (s:Int)) (aR s) w0:=by
 intro l Jq W o hW ho hJ hY h0;have P:=Zh hY;have v:Qn _:=@IA s;have y:Qn _:=@MG s;have z:Qn _:=@MH s;have Q:Qn (∀n x,n<64->_):=λn x hn=>Mr s n hs hn x;have R:Qn (∀k,s / 2 ^ k≠0->k<64):=λk h=>MI hs h;have S:Qn (qY s 0=[]):=rfl;generalize qY s=RT at*;refine(ZU (n:=0)).1 (callsIn_of_wp func45 rfl trivial ?_ rfl);simp only[ntmps45,ZZ,ZK,Z0,Nat.reduceAdd,Nat.reduceSub,Z4,Z5,Z6,Z7,Z8,Z9];gi_wp2;gi_loopw [4] (λi wr=>∃k:Nat,k<=64/\i=I J k/\∃g,Qn (Jq (RT k) g wr)/\Qn (Kept (λb=>¬o b) W wr)/\Qn (∀b,g b->o b∨(M (H W)<=b/\b<M (H wr))))
  (λi _=>64-(intOf i).toNat)
 case atStart=>exact⟨0,ZB _,rfl,o,by rw[S.o];exact h0,ZO _ _,λb h=>.inl h⟩
 case round=>
  obtain⟨k,hk,rfl,g,f,m,a⟩:=hrel;by_cases hz:s / 2 ^ k=0
  .have HE:=Zh (z.o hk hz);have A:((s:Int) / 2 ^ k != 0)=false:=by grind
   gi_wp2;go_end0;exact⟨⟨_,rfl⟩,aR s,g,by simp[jS],by rw[<-HE.o];exact f.o,m.o,a.o⟩
  .have B:=R.o k hz;have A:((s:Int) / 2 ^ k != 0)=true:=by grind
   have r:=Zh (v.o k);have HP:Qn (RT (k+1) <+: aR s):=y.o X;have t:=Q.o k wr B
   cases q:s.testBit k with
   |false =>
    rw[q]at t r;gi_wp2;refine⟨trivial,rfl,ZU.2 (t.mono ?_)⟩;rintro e K ⟨rfl,rfl⟩;gi_wp2;refine⟨(λ_ h=>by cases h),?_⟩;gi_wp2;go_roundw
    case rel=>exact⟨k+1,X,Qe,g,by have h:RT (k+1)=RT k++[]:=r.o;rw[h,X0];exact f.o,m.o,a.o⟩
    case measure=>exact XK
   |true =>
    rw[q]at t r;have j:Qn (RT (k+1)=RT k++[k]):=r.o;obtain⟨fn,tmps,d,p,hy,hR⟩:=P.o (RT k) k g wr f.o (by rw[<-j.o];simpa [jS] using HP.o) trivial (λb h=>by cases h) m.o.size;have aa:(Instr.yield l #[I J (k:Int)]).run V wr=.ok (.round l fn tmps d p) wr:=hy;gi_wp2;refine⟨trivial,rfl,ZU.2 (t.mono ?_)⟩;rintro e K ⟨rfl,rfl⟩;gi_wp2;refine⟨rfl,hR.mono ?_⟩;rintro e K ⟨rfl,o2,C,D,G⟩;obtain⟨IB,L,Aw⟩:=jX C D G;gi_wp2;go_roundw
    case rel=>
     refine⟨k+1,X,Qe,o2,by rw[j.o];exact IB.o,m.o.trans' L.o ?_,?_⟩
     .intro b q h u;rcases a.o b u with u|u
      .exact h u
      .omega
     .intro b q;have:=L.o.size;have:=m.o.size;rcases Aw.o b q with h|h|h
      .rcases a.o b h with h|h
       .exact .inl h
       .exact .inr ⟨h.1,X⟩
      .exact .inr ⟨X,h.2⟩
      .cases h.1
    case measure=>exact XK
end
def wC(k:Int):Int:=if k=0∨k=1 then 0 else if 3<=k/\k<=5 then 2 else 1
def fM(k:Int):Array Value:=#[I J (wC k),Qr (decide (k=1)),Qr (decide (2<=k/\k<=5)),Qr (decide (k=4∨k=5)),Qr (decide (k=6))]
def lh:Qy Value:=(List.range 11).flatMap λ(k:Nat)=>(fM (k:Int)).toList
def bM(w:U)(g:Nat):Prop:=∀j u,lh[j]? = O u->Qp w (aD g j)=O u
def bM.below{w w':U}{g:Nat}(hb:Bw w w')(h:bM w g):bM w' g:=λj u a=>cB hb (h j u a)
theorem bM.get{w:U}{g:Nat}(h:bM w g){k:Nat}(hk:k<=10) :
  Qp w (aD g (0+k*5))=O (I J (wC k))/\Qp w (aD g (0+k*5+1))=O (Qr (decide ((k:Int)=1)))/\Qp w (aD g (0+k*5+2))=O (Qr (decide (2<=(k:Int)/\(k:Int)<=5)))/\
   Qp w (aD g (0+k*5+3))=O (Qr (decide ((k:Int)=4∨(k:Int)=5)))/\Qp w (aD g (0+k*5+4))=O (Qr (decide ((k:Int)=6))):=by
 have a:∀j,j<5->lh[k*5+j]? = (fM (k:Int)).toList[j]?:=λj b=>by have:=XD (λ(k:Nat)=>(fM (k:Int)).toList) 5 (λ_=>rfl) 0 (List.range 11) k j Qj b;unfold lh;grind
 simp only[ZC];refine⟨h (k*5) _ ?_,h (k*5+1) _ ?_,h (k*5+2) _ ?_,h (k*5+3) _ ?_,h (k*5+4) _ ?_⟩
 .have:=a 0 X;rw[XH]at this;rw[this];rfl
 .rw[a 1 X];rfl
 .rw[a 2 X];rfl
 .rw[a 3 X];rfl
 .rw[a 4 X];rfl
theorem oh{k:Int}(h1:1<=k):wC k=(arity k:Int):=by unfold wC arity;grind
def aJ(n:ai):Qx:=[n.l,n.r].take (arity n.kind)
def wF(n:ai)(w:U)(hs:bM w 0)(h1:1<=n.kind)(h10:n.kind<=10) :
  Calls V 105 #[.agg n.cells] w λe w'=>∃b,e=Qv (Z (O (aD b 0)) (N (aJ n)) 2)/\IntsAt w' (O (aD b 0)) (aJ n)/\M (H w)<=b/\Bw w w':=by
 obtain⟨f,R,g,u⟩:=bC w n.cells 138;obtain⟨g0,g1,g2⟩:=u.k3;have d:Qn (aJ n=[n.l,n.r].take (arity n.kind)):=rfl;have p:=Zh (oh h1);have q:Qn (arity n.kind<=2):=by show _<=_;unfold arity;split <;> (try split) <;> omega
 have t:Qn (∀k:Nat,k<=10->_):=λk W=>(hs.below g).get W;have v:=Zh g;generalize n.cells=NC,aJ n=IL at*;obtain⟨nk,j,m,ns,RO,S,RP⟩:=n;simp only at*;obtain⟨k,rfl⟩:=XR (show 0<=nk by omega);obtain⟨A,-⟩:=t.o k X;rw[p.o]at A;have y:k<=10:=X;have B:1<=k:=X;generalize arity (k:Int)=ar at*;have C:=q.o;have D:Qn (∀x:U,IntsAt (x.alloc (Qt #[I J j,I J m] 3)) (O (aD (M (H x)) 0)) [j,m]):=λx=>uA x [j,m] _ Qa;rw[ZC]at A;have G:¬(11:Int)<=(k:Int):=X;have z:(ar:Int)<=2:=X;go_enter func105,ntmps105;go_wp2;refine wH f λa=>?_;refine wA4 0 a ?_;refine wA5 5 a ?_;refine wR 4 λK i=>?_;go_simp;refine oA i a λa=>?_;refine wR 10 λK i=>?_;go_simp;refine i.o _ _ a λa=>?_;refine wR 11 λK i=>?_;go_simp;refine i.o _ _ a λa=>?_;refine wD ?_;try simp only[pU]
 have L:=Zh (az v.o a);have P:Qn (IntsAt ((f.alloc (Qt #[I J j,I J m] 3)).drew) (O (aD (M (H f)) 0)) (IL)):=by show IntsAt _ _ _;rw[d.o];exact IntsAt.take (D.o f.drew) ar
 have Q:=Zh (by  rw[d.o,XT];simp;omega:N IL=ar)
 go_wp2;go_ret;exact⟨M (H f),by rw[Q.o];rfl,P.o,v.o.size,L.o⟩
def Jd:=@bM.below
