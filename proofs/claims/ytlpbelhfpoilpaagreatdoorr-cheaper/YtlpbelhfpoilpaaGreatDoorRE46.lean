import Derived.Test.YtlpbelhfpoilpaaGreatDoorRE07
import Derived.Test.YtlpbelhfpoilpaaGreatDoorRE24
import Derived.Test.YtlpbelhfpoilpaaGreatDoorRE45
set_option linter.all false
set_option maxRecDepth 100000
set_option maxHeartbeats 16000000
namespace Go.Proofs.Zz
open Go.RowKit Go.Shelf
variable {ts:List af} {q:ae} {s:Nat} {rk:Nat->Int} {σ:iO}
def EW(ts:List af)(q:ae)(s:Nat)(ls:List (List Int)):Prop:=∃ r,ls=[]::r/\∀ o∈r,lM ts q.src.xs o s=true
theorem EW.added{ls:List (List Int)}(h:EW ts q s ls){l:List Int}(hl:l≠[]->lM ts q.src.xs l s=true):EW ts q s (iE ls l):=by
 obtain⟨r,rfl,hr⟩:=h;unfold iE;split
 ·exact⟨r,rfl,hr⟩
 ·rename_i hn
  refine⟨r++[l],rfl,fun o ho=>?_⟩;rcases ZT.1 ho with ho | ho
  ·exact hr o ho
  ·rw[ZR]at ho;rw[ho];exact hl fun e=>hn (by rw[e]; exact Xg)
theorem vo(hq:QF ts q)(hs:s<2 ^ q.src.xs.length){o:List Int}(hin:∀ c∈o,0<=c/\c<aJ ts q.src.xs)(h:aS s (bE (fo ts q o))=true):∀ c∈o,aS s (2 ^ aY ts q.src.xs c)=true:=by
 intro c hc;have hsm:∀ x∈fo ts q o,0<=x/\x<(q.src.xs.length:Int):=fun x hx=>by
  obtain⟨d,hd,rfl⟩:=Zi.1 hx;have:=zU hq (hin d hd);omega
 have h1:=(kR (oQ hq.five hs) (oQ hq.five (qy hsm))).1 h;refine(kR (oQ hq.five hs) (oQ hq.five (Xi (by omega) (zU hq (hin c hc))))).2 fun j hj=>h1 j ?_
 rw[Nat.testBit_two_pow]at hj;simp only[QJ]at hj;rw[Bp (fun x hx=>(hsm x hx).1),QJ];exact Zi.2 ⟨c,hc,by rw[hj]⟩
theorem SG(hq:QF ts q)(hs:s<2 ^ q.src.xs.length){c:Int}(hc:0<=c/\c<aJ ts q.src.xs){acc:List (List Int)}(h:EW ts q s acc):EW ts q s (bI ts q s acc c):=by
 unfold bI;split
 ·rename_i aje
  have hin:∀ d∈[c],0<=d/\d<aJ ts q.src.xs:=fun d hd=>by rw[ZR]at hd; rw[hd]; exact hc
  refine h.added fun _=>Iu (by simp) hin ?_ (vo hq hs hin aje)
  unfold di;rw[QJ];intro i hi j hj;simp at hi;omega
 ·exact h
theorem aoc(hq:QF ts q){c:aH}(hc:c∈q.wh)(h:(bF c.cs).2.2=true):(0<=(bF c.cs).1/\(bF c.cs).1<aJ ts q.src.xs)/\(0<=(bF c.cs).2.1/\(bF c.cs).2.1<aJ ts q.src.xs):=by
 obtain⟨k,hk,rfl⟩:=QC hc;have h0:=hq.ok.some k hk;have kS:=hq.ok.aO k hk;rw[XH,ZX hk]at h0 kS;simp only[Option.getD_some]at h0 kS;generalize q.wh[k].cs=cs at *;unfold bF at h ⊢;by_cases hh:cs.length > 1∨(cs.getD 0 cz).op≠0∨(cs.getD 0 cz).not=true∨(cs.getD 0 cz).const=true
 ·rw[Qy hh]at h; cases h
 rw[Qz hh];have hm:∀ x,x∈aN (cs.getD 0 cz)->x∈cO cs:=fun x hx=>XC.2 ⟨_,by
  rw[XH,ZX h0];exact Qp h0,hx⟩
 have hop:(cs.getD 0 cz).op=0:=by
  rcases Int.decEq (cs.getD 0 cz).op 0 with h' | h'
  ·exact absurd (.inr (.inl h')) hh
  ·exact h'
 have hco:(cs.getD 0 cz).const=false:=by
  cases h':(cs.getD 0 cz).const with
  | false => rfl
  | true => exact absurd (.inr (.inr (.inr h'))) hh
 have hcc:aN (cs.getD 0 cz)=[(cs.getD 0 cz).left,(cs.getD 0 cz).right]:=by
  unfold aN;rw[Qy ⟨by rw[hop]; decide,hco⟩]
 rw[hcc]at hm;exact⟨kS _ (hm _ (by simp)),kS _ (hm _ (by simp))⟩
theorem Rj(hq:QF ts q)(hs:s<2 ^ q.src.xs.length):EW ts q s (dU ts q s):=by
 have h0:EW ts q s [[]]:=⟨[],rfl,fun o ho=>by (cases ho)⟩
 have h1:EW ts q s (if aS s (bE (fo ts q (aM q)))=true then iE [[]] (aM q) else [[]]):=by
  split
  ·rename_i hc
   have ho:=Aw hq;exact h0.added fun hne=>Iu (List.length_pos_iff.2 hne) ho.1 ho.2 (vo hq hs ho.1 hc)
  ·exact h0
 unfold dU;have key:∀ (l:List aH) (acc:List (List Int)),(∀ c∈l,c∈q.wh)->EW ts q s acc->EW ts q s (l.foldl (iA ts q s) acc):=by
  intro l
  induction l with
  | nil => intro acc _ h; exact h
  | cons c l ih =>
   intro acc hl h;refine ih _ (fun x hx=>hl x (Xf _ hx)) ?_;unfold iA;split
   ·rename_i hc
    rw[Qt]at hc;have he:=aoc hq (hl c Xg) hc.1;exact SG hq hs he.2 (SG hq hs he.1 h)
   ·exact h
 exact key q.wh _ (fun c hc=>hc) h1
structure SF(ts:List af)(q:ae)(σ:iO):Prop where
 kT:∀ s,s<σ.groups.length->GF ts q s (σ.groups.getD s [])
 bD:BF ts q σ.bD
theorem ajf(hq:QF ts q)(hs:s<2 ^ q.src.xs.length)(room:Nat):GF ts q s (dC ((dU ts q s).take room)):=by
 obtain⟨r,e,hr⟩:=Rj hq hs;refine⟨fun p hp x hx=>?_,fun x hx=>?_,fun o ho=>?_⟩
 ·obtain⟨o,_,rfl⟩:=Zi.1 hp
  cases hx
 ·rw[e]at hx
  cases room with
  | zero => cases hx
  | succ n => cases hx
 ·have e2:(dC ((dU ts q s).take room)).map Prod.fst=(dU ts q s).take room:=by
   unfold dC;rw[XM];exact List.map_id' _
  rw[e2,e]at ho
  cases room with
  | zero => cases ho
  | succ n =>
   rw[List.take_succ_cons,List.drop_succ_cons,List.drop_zero]at ho;exact hr o (Xj ho)
theorem Dv{ts:List af}{q:ae}(hq:QF ts q):∀ k,k<q.src.xs.length->TF ts q (bT ts q k)/\(bT ts q k).d.sources=2 ^ (k+1)-1/\(bT ts q k).d.clauses=0/\eD (bT ts q k).d.kind=false/\(bT ts q k).ns.length=2*k+1
 | 0,h => ⟨Iq (by omega) (by omega),by show (ay ts q (iD 0) []).d.sources=_; rw[qO]; rfl,by show bE []|||0|||0=0; rfl,by show eD 1=false; decide,rfl⟩
 | k+1,h => by
  obtain⟨h1,h2,h3,h4,h5⟩:=Dv hq k (by omega);have h6:=hq.five;have hs:(ay ts q (iD ((k+1:Nat):Int)) []).d.sources=2 ^ (k+1):=by rw[qO,Zj]
  have ht:=Iq (ts:=ts) (q:=q) (s:=((k+1:Nat):Int)) (by omega) (by omega);have bits:∀ m,m<6->(2 ^ m-1) &&& 2 ^ m=0/\(2 ^ m-1)|||2 ^ m=2 ^ (m+1)-1:=by decide
  have hb:=bits (k+1) (by omega);obtain⟨d1,d2,d3⟩:=Sy ts q (dI 3) (bT ts q k) (ay ts q (iD ((k+1:Nat):Int)) []) (by decide);refine⟨TF.afO (tO (by decide) (by decide)) (by decide) h1 ht (by rw[h5]; show 2*k+1+1<=900; omega) ?_,?_,?_,?_,?_⟩
  ·rw[ql (by decide) h4 (by show eD 1=false; decide),QE]
   show (if (3:Int)=1 then _ else if (3:Int)=2 then _ else if (3:Int)=3 then kg ts q (dI 3) _ _ else _)=true
   rw[Qz (by decide),Qz (by decide),Qy rfl];unfold kg;rw[h2,hs,QD hb.1];rfl
  ·show (ay ts q (dI 3) [bT ts q k,ay ts q (iD ((k+1:Nat):Int)) []]).d.sources=_
   rw[d2,h2,hs];exact hb.2
  ·show (ay ts q (dI 3) [bT ts q k,ay ts q (iD ((k+1:Nat):Int)) []]).d.clauses=0
   rw[d3,h3]
   show bE []|||0|||(bE []|||0|||0)=0
   rfl
  ·show eD 3=false
   decide
  ·show (ay ts q (dI 3) [bT ts q k,ay ts q (iD ((k+1:Nat):Int)) []]).ns.length=_
   rw[XG ts q _ (by simp)]
   show (bT ts q k).ns.length+1+1=_
   rw[h5];omega
theorem abt(hq:QF ts q):BF ts q (fQ ts q):=by
 have h1:=hq.one;have h5:=hq.five;obtain⟨p1,p2,p3,p4,p5⟩:=Dv hq (q.src.xs.length-1) (by omega);rw[show q.src.xs.length-1+1=q.src.xs.length by omega]at p2;obtain⟨f,hf⟩:=eY (bM ts q (bT ts q (q.src.xs.length-1)) (2 ^ q.wh.length-1))
 have N7:2 ^ q.wh.length-1<2 ^ 64:=Dp hq.eight (Nat.sub_lt (Xm (by omega)) (by omega));have hF:TF ts q f/\f.d.sources=2 ^ q.src.xs.length-1/\f.d.clauses=2 ^ q.wh.length-1/\eD f.d.kind=false/\f.ns.length<=12:=by
  rw[hf];unfold bM;split
  ·rename_i hz
   exact⟨p1,p2,by rw[p3,hz],p4,by omega⟩
  ·rename_i hz
   obtain⟨d1,d2,d3⟩:=Ip ts q (Bt (dG (2 ^ q.wh.length-1))) (bT ts q (q.src.xs.length-1)) (by show (2:Int)≠1; decide);refine⟨Sz p1 (by omega) p4 N7 hz (rC ts q fun i hi=>by rw[p2,Dr hq]; exact hi),by rw[d2]; exact p2,?_,by rw[d1]; show eD 2=false; decide,?_⟩
   ·rw[d3,p3]
    show bE (dG (2 ^ q.wh.length-1))|||0=_
    rw[uF N7,Nat.or_zero]
   ·rw[XG ts q _ (by simp)]
    show (bT ts q (q.src.xs.length-1)).ns.length+0+1<=12
    omega
 obtain⟨f1,f2,f3,f4,f5⟩:=hF;have hw:=Mj (q:=q) f2 f3;have hk:((if q.group=true then (7:Int) else 9)=9/\q.group=false)∨((if q.group=true then (7:Int) else 9)=8/\q.group=true/\aP f.d.order q.keys.xs=true)∨((if q.group=true then (7:Int) else 9)=7/\q.group=true):=by
  cases q.group
  ·exact .inl ⟨rfl,rfl⟩
  ·exact .inr (.inr ⟨rfl,rfl⟩)
 obtain⟨b1,b2⟩:=abr f1 (by omega) f4 (k:=if q.group=true then (7:Int) else 9) (by rcases hk with h | h | h <;> omega) (Mi hw hk);unfold fQ;simp only;rw[<- hf];split
 ·rename_i ho
  exact b2 ho
 ·rename_i ho
  refine b1 ?_;unfold jh;rw[Qy (by omega)]
theorem Ml{ts:List af}{q:ae}(hq:QF ts q):∀ {l:List aQ} {b:aQ},BF ts q b->(∀ t∈l,PF ts q (2 ^ q.src.xs.length-1) t)->BF ts q (l.foldl (jK ts q) b)
 | [],_,h,_ => h
 | t::l,b,h,hl => by
  refine Ml hq (l:=l) (b:=jK ts q b t) ?_ (fun x hx=>hl x (Xf _ hx));have ht:=hl t Xg;unfold jK;rcases yh b (eT ts q t) with e | e
  ·rw[e]; exact h
  ·exact Ri hq ht.ts' (by have:=ht.small hq; omega) ht.src _ e
theorem SH(hq:QF ts q){l:List aQ}(hC:nW q σ)(h:SF ts q σ)(hs:s<2 ^ q.src.xs.length)(hT:∀ t∈l,MO q s t)(hl:∀ t∈l,PIn ts q s t):SF ts q (fG rk ts q s l σ):=by
 unfold fG;by_cases hc:s=2 ^ q.src.xs.length-1
 ·rw[Qy hc];exact⟨h.kT,Ml hq h.bD (fun t ht=>hc ▸ (hl t ht).1)⟩
 ·rw[Qz hc];have hsl:s<σ.groups.length:=by rw[hC.vW]; omega
  refine⟨fun k hk=>?_,h.bD⟩
  show GF ts q k ((σ.groups.set s _).getD k [])
  rw[jQ];split
  ·rename_i e
   rw[<- e.1];exact Rh hq (hC.kT s hsl) hT (h.kT s hsl) hl
  ·refine h.kT k ?_;have hk:k<(σ.groups.set s (bg ts q (σ.groups.getD s []) l).2).length:=hk
   rwa [XO]at hk
theorem aod(hq:QF ts q){t:bG}(hC:nW q σ)(h:SF ts q σ)(ht:lZ q.src.xs.length σ.groups t):SF ts q (sV rk ts q (eZ ts q) t σ):=by
 have h5:=hq.five;unfold sV;rcases ht with⟨h0,i,hi,e⟩ | ⟨h0,h1,h2,h3,h4,h6⟩
 ·rw[Qy h0,e,yj i (by omega)];have hs:=sK ts q (iJ ts q) (s:=(i:Int)) (by omega) (by omega);obtain⟨g1,g2,g3⟩:=Re hq (s:=(i:Int)) (by omega) (by omega);rw[Zj]at g2;have hp:0<2 ^ i:=Xm (by omega);refine SH hq hC h (Xi (by omega) hi) (fun x hx=>?_) (fun x hx=>?_)
  ·rw[ZR]at hx;rw[hx];exact⟨hs.1,hs.2.1,by have:=hs.2.2; omega⟩
  ·rw[ZR]at hx;rw[hx];have hpc:=aeD i (by omega);exact⟨⟨g1,g2,by omega⟩,by omega⟩
 ·rw[Qz h0];have l1:=h1;have l2:=h2;rw[hC.vW]at h1 h2;refine SH hq hC h (sJ (by omega) (by omega)) (fun x hx=>?_) (fun x hx=>?_)
  ·exact zq (iJ ts q) h3 (hC.kT _ l1) (hC.kT _ l2) h6 x hx
  ·exact abq hq h3 (h.kT _ l1) (h.kT _ l2) h6 x hx
theorem aeF(hq:QF ts q)(hok:Es q σ)(h:SF ts q σ)(h1:σ.status=1)(pick:Int):SF ts q (jA rk ts q (eZ ts q) pick σ):=by
 have hn:=hok.stat h1;have hp:=zy hn pick;have hm:σ.ak.getD (iH σ.ak.length pick).toNat (0,0)∈σ.ak:=by
  rw[XH,ZX (by omega)];exact Qp _
 have hd:=aod (rk:=rk) hq (t:=σ.ak.getD (iH σ.ak.length pick).toNat (0,0)) (hok.core.erase (iH σ.ak.length pick).toNat (σ.picks++[iH σ.ak.length pick])) ⟨h.kT,h.bD⟩ (hok.core.task _ hm);unfold jA nu;simp only;split
 ·exact hd
 ·exact⟨hd.kT,hd.bD⟩
theorem Rk{rk:Nat->Int}{ts:List af}{q:ae}(hq:QF ts q)(picks:List Int){σ:iO}(hok:Es q σ)(h:SF ts q σ):∀ n,SF ts q (runN rk ts q (eZ ts q) picks n 0 σ)
 | 0 => h
 | n+1 => by
  have ih:=Rk (rk:=rk) hq picks hok h n;have ok:=(uD (rk:=rk) (ts:=ts) (iJ ts q) hq.five picks hok n).1;rw[nI];split
  ·rename_i hs
   exact aeF hq ok ih hs _
  ·exact ih
theorem abu(hq:QF ts q)(rk:Nat->Int)(room:Nat):SF ts q (fA rk ts q room):=by
 refine⟨fun s hs=>?_,abt hq⟩;have hl:(fA rk ts q room).groups.length=2 ^ q.src.xs.length-1:=by unfold fA; simp
 rw[hl]at hs;have e:(fA rk ts q room).groups.getD s []=dC ((dU ts q s).take room):=by
  unfold fA;simp[List.getD,hs]
 rw[e];exact ajf hq (by omega) room
theorem Mm(b:aQ):∀ (l:List aQ),(fe b l).d.cost<=b.d.cost:=by
 have key:∀ (l:List aQ) (b:aQ),(l.foldl mg b).d.cost<=b.d.cost:=by
  intro l
  induction l with
  | nil => intro b; exact Qx _
  | cons t l ih =>
   intro b;refine Zl (ih (mg b t)) ?_;unfold mg;split
   ·omega
   ·exact Qx _
 exact fun l=>key l b
theorem Mo{ts:List af}{q:ae}:∀ (l:List aQ) (b:aQ),(l.foldl (jK ts q) b).d.cost<=b.d.cost
 | [],_ => Qx _
 | t::l,b => Zl (Mo l (jK ts q b t)) (Mm b _)
theorem aeG(rk:Nat->Int)(ts:List af)(q:ae)(conc:List Nat)(pick:Int)(σ:iO):(jA rk ts q conc pick σ).bD.d.cost<=σ.bD.d.cost:=by
 have hk:∀ s l (τ:iO),(fG rk ts q s l τ).bD.d.cost<=τ.bD.d.cost:=fun s l τ=>by
  unfold fG;split
  ·exact Mo l τ.bD
  ·exact Qx _
 have hd:∀ t (τ:iO),(sV rk ts q conc t τ).bD.d.cost<=τ.bD.d.cost:=fun t τ=>by
  unfold sV;split
  ·exact hk _ _ _
  ·exact hk _ _ _
 unfold jA nu;simp only;split
 ·exact hd _ _
 ·exact hd _ _
theorem abv(rk:Nat->Int)(ts:List af)(q:ae)(conc:List Nat)(picks:List Int)(σ:iO)(n:Nat):∀ m,(runN rk ts q conc picks (n+m) 0 σ).bD.d.cost<=(runN rk ts q conc picks n 0 σ).bD.d.cost/\(runN rk ts q conc picks n 0 σ).picks.length<=(runN rk ts q conc picks (n+m) 0 σ).picks.length
 | 0 => ⟨Qx _,Qx _⟩
 | m+1 => by
  obtain⟨h1,h2⟩:=abv rk ts q conc picks σ n m;rw[show n+(m+1)=n+m+1 by omega,nI];split
  ·refine⟨Zl (aeG rk ts q conc _ _) h1,Zl h2 ?_⟩;have hk:∀ s l (τ:iO),(fG rk ts q s l τ).picks=τ.picks:=fun s l τ=>by
    unfold fG;split <;> rfl
   have hd:∀ t (τ:iO),(sV rk ts q conc t τ).picks=τ.picks:=fun t τ=>by
    unfold sV;split <;> exact hk _ _ _
   unfold jA nu;simp only;split
   ·rw[hd]; simp
   ·show _<=(sV rk ts q conc _ _).picks.length
    rw[hd]; simp
  ·exact⟨h1,h2⟩
theorem Dw(ts:List af)(q:ae)(l:List ai):∀ k,gU ts q (l.map eQ) k=gU ts q l k
 | 0 => rfl
 | k+1 => by
  have hg:(l.map eQ).getD k nz=eQ (l.getD k nz):=by
   rw[XH,Ze,XH]
   cases l[k]? <;> rfl
  show (gU ts q (l.map eQ) k).bind (mQ ts q ((l.map eQ).getD k nz))=(gU ts q l k).bind (mQ ts q (l.getD k nz))
  rw[Dw ts q l k,hg];rfl
theorem VM(ts:List af)(q:ae)(l:List ai):jS ts q (l.map eQ)=jS ts q l:=by
 have hg:∀ i,(l.map eQ).getD i nz=eQ (l.getD i nz):=fun i=>by
  rw[XH,Ze,XH]
  cases l[i]? <;> rfl
 have hi:∀ i,inpN (l.map eQ) i=inpN l i:=fun i=>by
  unfold inpN;simp only[hg];rfl
 have hs:∀ n i,eP (eQ n) i=eP n i:=fun _ _=>rfl
 have hk:∀ n,(eQ n).kind=n.kind:=fun _=>rfl
 have hl:∀ n,(eQ n).l=n.l:=fun _=>rfl
 have hp:dK (l.map eQ)=dK l:=by
  unfold dK xh;simp only[Zc,hg,hs,hi]
 unfold jS;simp only[hp,Zc,Dw,hg,hk,hl]
theorem BF.cost{t:aQ}(h:BF ts q t){nv:List ai}(hn:nv.map eQ=t.ns):∃ ds,jS ts q nv=some ds/\(ds.getD (ds.length-1) pz).cost=t.d.cost:=by
 obtain⟨ds,h1,h2,h3⟩:=h.look;refine⟨ds,?_,by rw[h3]⟩;rw[<- VM,hn];exact h1
theorem aoe(hc:q.check ts=0):QF ts q:=by
 obtain⟨c1,c2,c3,c4,c5⟩:=zu hc;have hK:bN q.keys.xs (aJ ts q.src.xs)=true/\di q.keys.xs=true:=by
  unfold ae.check checkN at hc;split at hc
  ·omega
  ·split at hc
   ·omega
   ·split at hc
    ·rename_i hr
     have h4:=hr.2.2.2;unfold uM at h4;simp only[Qt]at h4;obtain⟨⟨⟨⟨⟨⟨⟨_,r2⟩,_⟩,_⟩,r5⟩,_⟩,_⟩,_⟩:=h4;exact⟨r2,r5⟩
    ·omega
 have hall:∀ {l:List Int} {n:Int},bN l n=true->∀ c∈l,0<=c/\c<n:=fun {l n} h c hm=>by
  unfold bN at h;rw[Qu]at h;have:=h c hm;simp only[Qt,QJ]at this;exact this
 refine⟨c1.ok,c2,c1.five,c1.eight,hall hK.1,hK.2,fun hg c hm=>?_⟩;unfold jg at hm;rw[Zi]at hm;obtain⟨p,hp,rfl⟩:=hm;have h1:=hall (c3 hg) p hp;have hl:p.toNat<q.aV.xs.length:=by omega
 refine hall c5 _ ?_;rw[XH,ZX hl];exact Qp hl
