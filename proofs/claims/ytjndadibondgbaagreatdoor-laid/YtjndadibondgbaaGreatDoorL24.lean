import Derived.Test.YtjndadibondgbaaGreatDoorL23
set_option linter.all false
set_option maxRecDepth 100000
set_option maxHeartbeats 16000000
namespace Go.Proofs.Zz
open Go.RowKit Go.Shelf
variable {ts:List af} {q:ae} {db:List aN} {k n s:Nat} {C S a b cs kc ps r sc src x xs y:List Int} {c lk rk:Int} {ref rl rows rr:List (List Int)} {F L R:List (List Int) × List Int} {cnt:Nat->Nat} {l v:dY} {plan:List ah}
theorem UN(h:CaseOk ts q db):q.check ts=0:=by
 have b:=BP h.tabs.1 h.tabs.2.1 h.tabs.2.2;have a:=h.Iu.src;have d:=h.Iu.wh;rcases h.Iu.out with⟨g,l0,k1,k2,k3,s1,s2,o1,o2,o3⟩ | ⟨g,k0,s0,l1,l2,l3,o1,o2,o3⟩
 ·refine Fw b ⟨a.1,a.2.1,by omega⟩ ⟨by omega,d.2⟩ ⟨by rw[l0]; exact Zf _,by omega,by omega,by omega⟩ ?_;unfold sK oQ;rw[g,l0,k2,k3,s2,o3,Qu rfl,o2];rfl
 ·refine Fw b ⟨a.1,a.2.1,by omega⟩ ⟨by omega,d.2⟩ ⟨by omega,by rw[k0]; exact Zf _,by rw[s0]; exact Zf _,by omega⟩ ?_;unfold sK oQ;rw[g,k0,s0,l3,o3,Qv (by simp),o2,Qg (show ¬ q.aK.xs.length=0 by omega)];rfl
def aQ(C:List Int)(c:Int):Int:=(C.idxOf c:Int)
def aO(C cs:List Int):List Int:=cs.map (aQ C)
def dP(n:Nat)(C r:List Int):List Int:=(List.range n).map fun (c:Nat)=>if (c:Int)∈C then r.getD (C.idxOf (c:Int)) 0 else 0
def dB(C:List Int)(c:ak):ak:={ c with left:=aQ C c.left,right:=if c.op≠2/\c.const=false then aQ C c.right else c.right }
def iC(ls:List az)(C is r:List Int):Bool:=is.all fun i=>jK ((ls.getD i.toNat lz).cs.map (dB C)) r
def U6(n:Nat)(C:List Int)(c:Int):Prop:=0<=c/\c<n/\c∈C
theorem Am(n:Nat)(C r:List Int):(dP n C r).length=n:=by simp[dP]
theorem lU(h:U6 n C c):(dP n C r).getD c.toNat 0=r.getD (aQ C c).toNat 0:=by
 obtain⟨d,e,b⟩:=h;obtain⟨k,rfl⟩:∃ k:Nat,c=(k:Int):=⟨c.toNat,by omega⟩
 have a:k<n:=by omega
 unfold dP aQ;simp[List.getD,a,b]
theorem nK(h:∀ c∈cs,U6 n C c):au (dP n C r) cs=au r (aO C cs):=by
 unfold au aO;rw[Xv];exact Xw fun c a=>lU (h c a)
theorem Sd{c:ak}(h:∀ x∈aA c,U6 n C x):fT c (dP n C r)=fT (dB C c) r:=by
 unfold aA at h;unfold fT dB;simp only;by_cases b:c.op≠2/\c.const=false
 ·rw[Qu b]at h ⊢;have a:¬ (c.op=2∨c.const=true):=by
   rintro (e | e)
   ·exact b.1 e
   ·rw[b.2]at e; cases e
  rw[Qv a,Qv a,lU (h c.left (by simp)),lU (h c.right (by simp))]
 ·rw[Qv b]at h ⊢;have a:c.op=2∨c.const=true:=by
   by_cases e:c.op=2
   ·exact .inl e
   ·right
    cases e2:c.const with
    | true => rfl
    | false => exact absurd ⟨e,e2⟩ b
  rw[Qu a,Qu a,lU (h c.left (by simp))]
theorem Ik{n:Nat}{C r:List Int}:∀ {cs:List ak},(∀ x∈aG cs,U6 n C x)->jK cs (dP n C r)=jK (cs.map (dB C)) r
 | [],_ => rfl
 | c::cs,h => by
  have h1:=Sd (r:=r) (c:=c) fun x hx=>h x (by unfold aG; rw[QG]; exact List.mem_append_left _ hx)
  have h2:=Ik (r:=r) (cs:=cs) fun x hx=>h x (by unfold aG at *; rw[QG]; exact List.mem_append_right _ hx)
  unfold jK at *;rw[XH,List.any_cons,List.any_cons,h1,h2]
theorem Ao{n:Nat}{C r:List Int}{ls:List az}:∀ {is:List Int},(∀ i∈is,∀ x∈aG (ls.getD i.toNat lz).cs,U6 n C x)->jU ls is (dP n C r)=iC ls C is r
 | [],_ => rfl
 | i::is,h => by
  have h1:=Ik (r:=r) (h i (by simp));have h2:=Ao (r:=r) (is:=is) fun j hj=>h j (by simp[hj])
  unfold jU iC at *;rw[XE,XE,h1,h2]
theorem Ns{n:Nat}{C x y:List Int}:∀ {cs:List Int},(∀ c∈cs,U6 n C c)->cmpL (dP n C x) (dP n C y) cs=cmpL x y (aO C cs)
 | [],_ => rfl
 | c::cs,h => by
  have h2:=Ns (x:=x) (y:=y) (cs:=cs) fun j hj=>h j (by simp[hj])
  unfold aO at *;rw[XH];unfold cmpL;rw[lU (h c (by simp)),lU (h c (by simp)),h2]
theorem Wh(h:∀ c∈cs,U6 n C c)(rows:List (List Int)):eU cs (rows.map (dP n C))=(eU (aO C cs) rows).map (dP n C):=by
 unfold eU;have:=R9 (f:=dP n C) (lt:=DF (aO C cs)) (lt':=DF cs) (fun a b=>by unfold DF; rw[Ns h]) rows [];rw[this];rfl
theorem Il(hk:∀ c∈kc,U6 n C c)(hs:∀ c∈sc,U6 n C c)(h0:rows=[]->kc=[]):pR kc sc (rows.map (dP n C))=pR (aO C kc) (aO C sc) rows:=by
 unfold pR;rw[ZB];congr 1
 ·congr 1
  cases rows with
  | nil => rw[h0 rfl]; rfl
  | cons r rs => exact nK hk
 ·unfold aO;rw[Xv];refine Xw fun c a=>?_
  show lT _=lT _
  rw[Xv];congr 1;exact Xw fun r _=>lU (hs c a)
theorem Im{n:Nat}{C kc sc:List Int}(hk:∀ c∈kc,U6 n C c)(hs:∀ c∈sc,U6 n C c):∀ (m:Nat) (rows:List (List Int)),mD kc sc m (rows.map (dP n C))=mD (aO C kc) (aO C sc) m rows
 | 0,_ => rfl
 | _+1,[] => rfl
 | m+1,r::rs => by
  rw[XH];unfold mD;rw[<- XH (f:=dP n C),Zg,Zg];have e1:((fun x=>decide (au x kc=au (dP n C r) kc)) ∘ dP n C)=fun x=>decide (au x (aO C kc)=au r (aO C kc)):=by
   funext x
   show decide (au (dP n C x) kc=au (dP n C r) kc)=_
   rw[nK hk,nK hk]
  have e2:((fun x=>!decide (au x kc=au (dP n C r) kc)) ∘ dP n C)=fun x=>!decide (au x (aO C kc)=au r (aO C kc)):=by
   funext x
   show (!decide (au (dP n C x) kc=au (dP n C r) kc))=_
   rw[nK hk,nK hk]
  rw[e1,e2,Il hk hs,Im hk hs m];intro e;rw[XO (by simp)]at e
  cases e
theorem Nt(hk:∀ c∈kc,U6 n C c)(hs:∀ c∈sc,U6 n C c)(rows:List (List Int)):jF kc sc (rows.map (dP n C))=jF (aO C kc) (aO C sc) rows:=by
 unfold jF;by_cases h:kc=[]
 ·subst h;rw[Qu rfl,Qu (show aO C []=[] from rfl),Il hk hs (fun _=>rfl)];rfl
 ·rw[Qv h,Qv (by unfold aO; simpa using h),Im hk hs,ZB]
def mE(ts:List af)(src a b second:List Int):List Int:=(List.range a.length).map fun (c:Nat)=>if ((aj ts src (c:Int):Nat):Int)∈second then b.getD c 0 else a.getD c 0
theorem l8(h:k<a.length):(a++b).getD k 0=a.getD k 0:=by simp[List.getD,QK h]
theorem uk:(a++b).getD (a.length+k) 0=b.getD k 0:=by
 simp only[List.getD];rw[QL (by omega),Nat.add_sub_cancel_left]
theorem Wi{L R second:List Int}(hl:a.length=L.length)(hd:∀ c∈R,c ∉ L)(hs:∀ c:Nat,c<n->(((aj ts src (c:Int):Nat):Int)∈second↔(c:Int)∈R)) :
  mE ts src (dP n L a) (dP n R b) second=dP n (L++R) (a++b):=by
 unfold mE;rw[Am]
 show _=(List.range n).map _
 refine Xw fun c i=>?_
 have d:c<n:=Xm.1 i;have g:∀ C r,(dP n C r).getD c 0=if (c:Int)∈C then r.getD (C.idxOf (c:Int)) 0 else 0:=fun C r=>by
  unfold dP;simp[List.getD,d]
 rw[g,g];by_cases e:(c:Int)∈R
 ·rw[Qu ((hs c d).2 e),Qu e,Qu (List.mem_append_right _ e),List.idxOf_append,Qv (hd _ e),<- hl,Nat.add_comm,uk]
 ·rw[Qv (fun h=>e ((hs c d).1 h))];by_cases f:(c:Int)∈L
  ·have:=XT.2 f;rw[Qu f,Qu (List.mem_append_left _ f),List.idxOf_append,Qu f,l8 (by omega)]
  ·rw[Qv f,Qv (by simp[f,e])]
def aY(r:List Int)(k:Int):Int:=r.getD k.toNat 0
def iD(lk rk:Int)(L R:List (List Int)):List (List Int):=
 L.flatMap fun a=>(R.filter fun b=>decide (aY b rk=aY a lk) && !decide (aY a lk=1073741824)).map fun b=>a++b
theorem Wj{L R:List (List Int)}{p:List Int->Bool}(h:∀ a∈L,∀ b∈R,p (a++b)=true->aY b rk=aY a lk/\aY a lk≠1073741824):(iD lk rk L R).filter p=(dh L R).filter p:=by
 unfold iD dh;rw[List.filter_flatMap,List.filter_flatMap]
 induction L with
 | nil => rfl
 | cons a L ih =>
  rw[QG,QG,ih (fun x f=>h x (by simp[f]))];congr 1;rw[Zg,Zg,List.filter_filter];congr 1;refine XP fun b g=>?_
  show (p (a++b)&&_)=p (a++b)
  cases hp:p (a++b) with
  | false => rfl
  | true =>
   obtain⟨d,e⟩:=h a (by simp) b g hp;rw[Qy d,Qg e];rfl
theorem Wm(L R:List (List Int)):(dh L R).length=L.length*R.length:=by
 unfold dh
 induction L with
 | nil => simp
 | cons a L ih => rw[QG,ZC,ih,ZB,Q7,Nat.succ_mul,Nat.add_comm]
def fF(lk rk:Int):List (List Int)->List (List Int)->List (List Int)
 | [],_ => []
 | a::L,I => if aY a lk=1073741824 then fF lk rk L I else
  (((I.dropWhile fun b=>decide (dz (aY b rk) (aY a lk)<0)).takeWhile fun b=>decide (aY b rk=aY a lk)).map fun b=>a++b)++fF lk rk L (I.dropWhile fun b=>decide (dz (aY b rk) (aY a lk)<0))
def yZ(k:Int)(R:List (List Int)):Prop:=R.Pairwise fun a b=>dz (aY a k) (aY b k)<=0
theorem DL{rk k:Int}:∀ {I:List (List Int)},yZ rk I->(∀ b∈I,dz k (aY b rk)<=0)->(I.takeWhile fun b=>decide (aY b rk=k))=I.filter fun b=>decide (aY b rk=k)
 | [],_,_ => rfl
 | b::I,hs,hk => by
  obtain⟨h1,h2⟩:=XD.1 hs;have ih:=DL h2 (fun c hc=>hk c (by simp[hc]));by_cases e:aY b rk=k
  ·rw[List.takeWhile_cons_of_pos (by simpa using e),XO (by simpa using e),ih]
  ·rw[List.takeWhile_cons_of_neg (by simpa using e),Xo (by simpa using e)];symm;rw[XJ];intro c hc;rw[QE];intro ec;have hb:=hk b (by simp);have hbc:=h1 c hc;rw[ec]at hbc;have:=uj k (aY b rk);have h0:dz k (aY b rk)=0:=by omega
   exact e (nJ.1 h0).symm
theorem Io{rk k:Int}:∀ {I:List (List Int)},yZ rk I->∀ b∈I.dropWhile (fun b=>decide (dz (aY b rk) k<0)),dz k (aY b rk)<=0
 | [],_,b,hb => by cases hb
 | c::I,hs,b,hb => by
  obtain⟨h1,h2⟩:=XD.1 hs;by_cases e:dz (aY c rk) k<0
  ·rw[List.dropWhile_cons_of_pos (by simpa using e)]at hb;exact Io h2 b hb
  ·rw[List.dropWhile_cons_of_neg (by simpa using e)]at hb;have hc:dz k (aY c rk)<=0:=by have:=uj k (aY c rk); omega
   rcases Z5.1 hb with rfl | hb
   ·exact hc
   ·exact U2 hc (h1 b hb)
theorem xO{lk rk:Int}:∀ (L D I:List (List Int)),yZ lk L->yZ rk I->(∀ d∈D,∀ a∈L,aY a lk≠1073741824->aY d rk≠aY a lk)->fF lk rk L I=iD lk rk L (D++I)
 | [],_,_,_,_,_ => rfl
 | a::L,D,I,hL,hI,hD => by
  obtain⟨h1,h2⟩:=XD.1 hL;have amC:iD lk rk (a::L) (D++I)=(((D++I).filter fun b=>decide (aY b rk=aY a lk) && !decide (aY a lk=1073741824)).map fun b=>a++b)++iD lk rk L (D++I):=by
   unfold iD;rw[QG]
  rw[amC];unfold fF;by_cases hn:aY a lk=1073741824
  ·rw[Qu hn,xO L D I h2 hI (fun d hd x hx=>hD d hd x (by simp[hx]))];have:((D++I).filter fun b=>decide (aY b rk=aY a lk) && !decide (aY a lk=1073741824))=[]:=by
    rw[XJ];intro b _;rw[Qy hn];simp
   rw[this];rfl
  ·rw[Qv hn];have hsplit:=List.takeWhile_append_dropWhile (p:=fun b=>decide (dz (aY b rk) (aY a lk)<0)) (l:=I);have hpre:∀ d∈I.takeWhile (fun b=>decide (dz (aY b rk) (aY a lk)<0)),dz (aY d rk) (aY a lk)<0:=fun d hd=>by
    have:=Qp.1 (List.all_takeWhile (p:=fun b=>decide (dz (aY b rk) (aY a lk)<0)) (l:=I)) d hd
    simpa using this
   have hsort:yZ rk (I.dropWhile fun b=>decide (dz (aY b rk) (aY a lk)<0)):=hI.sublist (List.dropWhile_sublist _);have hrun:=DL hsort (Io hI);have hfil:((D++I).filter fun b=>decide (aY b rk=aY a lk) && !decide (aY a lk=1073741824))=(I.dropWhile fun b=>decide (dz (aY b rk) (aY a lk)<0)).filter fun b=>decide (aY b rk=aY a lk):=by
    have e1:(fun b:List Int=>decide (aY b rk=aY a lk) && !decide (aY a lk=1073741824))=fun b=>decide (aY b rk=aY a lk):=by
     funext b
     rw[Qg hn];simp
    rw[e1]
    conv=>lhs; rw[<- hsplit]
    rw[Zi,Zi];have z1:(D.filter fun b=>decide (aY b rk=aY a lk))=[]:=by
     rw[XJ];intro d hd;rw[QE];exact hD d hd a (by simp) hn
    have z2:((I.takeWhile fun b=>decide (dz (aY b rk) (aY a lk)<0)).filter fun b=>decide (aY b rk=aY a lk))=[]:=by
     rw[XJ];intro d hd;rw[QE];intro e;have:=hpre d hd;rw[nJ.2 e]at this;omega
    rw[z1,z2];rfl
   have hrest:=xO L (D++I.takeWhile fun b=>decide (dz (aY b rk) (aY a lk)<0)) (I.dropWhile fun b=>decide (dz (aY b rk) (aY a lk)<0)) h2 hsort (fun d hd x hx hxn=>by
    rcases Zx.1 hd with hd | hd
    ·exact hD d hd x (by simp[hx]) hxn
    ·intro e;have h3:=hpre d hd;have h4:=h1 x hx;have h5:=Kk (Int.le_of_lt h3) h4 (.inl (by omega));rw[nJ.2 e]at h5;omega)
   rw[hrest,QH,hsplit,hfil,hrun]
theorem Sg{L R:List (List Int)}(hL:yZ lk L)(hR:yZ rk R):fF lk rk L R=iD lk rk L R:=
 xO L [] R hL hR (fun d hd=>by cases hd)
theorem DN:bS (DF ps) rows↔rows.Pairwise fun a b=>cmpL a b ps<=0:=by
 unfold bS DF;constructor
 all_goals
  intro h;refine h.imp fun {a b} h=>?_
  have:=mr a b ps
  first
   | (rw[Qf]at h; omega)
   | (rw[Qf]; omega)
theorem Wn{p:Int}(h:bS (DF (p::ps)) rows):yZ p rows:=by
 refine(DN.1 h).imp fun {a b} h=>?_
 unfold cmpL at h;unfold aY;by_cases e:dz (a.getD p.toNat 0) (b.getD p.toNat 0)=0
 ·omega
 ·rw[Qv e]at h; exact h
theorem Ap{C R a a' b b':List Int}(ha:a.length=C.length)(ha':a'.length=C.length):∀ {o:List Int},(∀ c∈o,c∈C)->cmpL (a++b) (a'++b') (aO (C++R) o)=cmpL a a' (aO C o)
 | [],_ => rfl
 | c::o,h => by
  have ih:=Ap (R:=R) (b:=b) (b':=b') ha ha' (o:=o) fun x hx=>h x (by simp[hx])
  have hc:=h c (by simp);have hlt:=XT.2 hc;have e:aQ (C++R) c=aQ C c:=by unfold aQ; rw[List.idxOf_append,Qu hc]
  unfold aO at *;rw[XH,XH,e];unfold cmpL;have hp:(aQ C c).toNat<C.length:=by unfold aQ; omega
  rw[l8 (by omega),l8 (by omega),ih]
theorem Ip(a:List Int):∀ ps,cmpL a a ps=0
 | [] => rfl
 | p::ps => by unfold cmpL; rw[Qu (nJ.2 rfl),Ip a ps]
theorem Si{R o:List Int}{A B:List (List Int)}(hA:∀ a∈A,a.length=C.length)(ho:∀ c∈o,c∈C)(h:bS (DF (aO C o)) A):bS (DF (aO (C++R) o)) (dh A B):=by
 rw[DN]at h ⊢;unfold dh;rw[List.pairwise_flatMap];refine⟨fun a d=>?_,?_⟩
 ·rw[List.pairwise_map];refine List.pairwise_of_forall fun b b'=>?_
  rw[Ap (o:=o) (C:=C) (R:=R) (hA a d) (hA a d) ho,Ip];omega
 ·refine h.imp_of_mem fun {a a'} d ha' hle=>?_
  intro x e y f;obtain⟨b,_,rfl⟩:=ZU.1 e;obtain⟨b',_,rfl⟩:=ZU.1 f;rw[Ap (o:=o) (C:=C) (R:=R) (hA a d) (hA a' ha') ho];exact hle
theorem xP(ps:List Int)(rows:List (List Int)):bS (DF ps) (eU ps rows):=by
 unfold eU;exact Dy (Ih ps) rows List.Pairwise.nil
def gq:Nat->(Nat->Nat)->Nat
 | 0,_ => 1
 | n+1,f => gq n f*f n
theorem DR(f g:Nat->Nat):∀ n,gq n f*gq n g=gq n fun i=>f i*g i
 | 0 => rfl
 | n+1 => by
  show gq n f*f n*(gq n g*g n)=gq n _*(f n*g n)
  rw[<- DR f g n]
  ac_rfl
theorem Iq{f g:Nat->Nat}:∀ {n},(∀ i,i<n->f i<=g i)->gq n f<=gq n g
 | 0,_ => Qs _
 | n+1,h => Nat.mul_le_mul (Iq fun i hi => h i (by omega)) (h n (by omega))
theorem nA{f g:Nat->Nat}:∀ {n},(∀ i,i<n->f i=g i)->gq n f=gq n g
 | 0,_ => rfl
 | n+1,h => by show gq n f*f n=gq n g*g n; rw[nA fun i hi => h i (by omega),h n (by omega)]
theorem DT:∀ n,gq n (fun _=>1)=1
 | 0 => rfl
 | n+1 => by show gq n (fun _ => 1)*1=1; rw[DT n]
theorem wM(c:Nat){k:Nat}:∀ {n},k<n->gq n (fun i=>if i=k then c else 1)=c
 | 0,h => by omega
 | n+1,h => by
  show gq n (fun i=>if i=k then c else 1)*(if n=k then c else 1)=c
  by_cases e:n=k
  ·subst e;rw[Qu rfl,nA (g:=fun _=>1) (fun i hi=>Qv (by omega)),DT,Z9]
  ·rw[Qv e,wM c (show k<n by omega),Nat.mul_one]
def ze(cnt:Nat->Nat)(n:Nat)(S:List Int):Nat:=gq n fun k=>if (k:Int)∈S then cnt k else 1
theorem Sj(h:∀ x∈b,x ∉ a):ze cnt n (bC a b)=ze cnt n a*ze cnt n b:=by
 unfold ze;rw[DR];refine nA fun k _=>?_
 by_cases e:(k:Int)∈a
 ·rw[Qu e,Qu (Xh.2 (.inl e)),Qv (fun d=>h _ d e),Nat.mul_one]
 ·by_cases d:(k:Int)∈b
  ·rw[Qv e,Qu d,Qu (Xh.2 (.inr d)),Z9]
  ·rw[Qv e,Qv d,Qv (fun h=>(Xh.1 h).elim e d)]
theorem DU(h:∀ k,1<=cnt k)(S:List Int):ze cnt n S<=gq n cnt:=by
 unfold ze;refine Iq fun k _=>?_
 split
 ·exact Qs _
 ·exact h k
theorem Wo{s:Int}(h0:0<=s)(hn:s<n):ze cnt n [s]=cnt s.toNat:=by
 unfold ze;rw[nA (g:=fun k=>if k=s.toNat then cnt s.toNat else 1),wM _ (by omega)];intro k _;by_cases e:k=s.toNat
 ·rw[Qu e,Qu (by rw[Zw]; omega),e]
 ·rw[Qv e,Qv (by rw[Zw]; omega)]
def BZ(src:List Int)(db:List aN)(k:Nat):Nat:=max 1 (db.getD (src.getD k 0).toNat rz).rs.length
theorem DV(src:List Int)(db:List aN):gm src db=gq src.length (BZ src db):=by
 have h:∀ k,k<=src.length->gm (src.take k) db=gq k (BZ src db):=by
  intro k
  induction k with
  | zero => intro _; simp[gm,gq]
  | succ k ih =>
   intro a;have e:src.getD k 0=src[k]:=by simp[List.getD,show k<src.length by omega]
   show _=gq k _*BZ src db k
   rw[<- ih (by omega)];unfold gm BZ;rw[Qm (by omega),ZZ,e];rfl
 have:=h src.length (Qs _)
 rwa [Qw]at this
def eD(ts:List af)(src:List Int)(s:Int):List Int:=((List.range (bF ts src src.length).length).filter fun (c:Nat)=>decide (((aj ts src (c:Int):Nat):Int)=s)).map fun (c:Nat)=>(c:Int)
theorem nX{s:Int}:c∈eD ts src s↔0<=c/\c<(bF ts src src.length).length/\((aj ts src c:Nat):Int)=s:=by
 unfold eD;rw[ZU];constructor
 ·rintro⟨k,d,rfl⟩;obtain⟨b,a⟩:=Xl.1 d;have:=Xm.1 b;exact⟨by omega,by omega,Xk a⟩
 ·rintro⟨e,b,a⟩;refine⟨c.toNat,Xl.2 ⟨Xm.2 (by omega),?_⟩,by omega⟩;rw[show ((c.toNat:Nat):Int)=c by omega];exact Qy a
theorem zf(ts:List af)(src:List Int)(s:Int):(eD ts src s).Nodup:=by
 unfold eD;refine List.Pairwise.map _ ?_ (List.Pairwise.filter _ List.nodup_range);intro a b h;omega
theorem Sk{a:Nat}(h:a+k<=n)(p:Nat->Bool)(hp:∀ c,c<n->(p c=true↔a<=c/\c<a+k)):(List.range n).filter p=(List.range k).map (a + ·):=by
 have e:List.range n=List.range' 0 a++(List.range' a k++List.range' (a+k) (n-(a+k))):=by
  rw[List.range_eq_range'];have d:=List.range'_append (s:=a) (m:=k) (n:=n-(a+k)) (step:=1);have f:=List.range'_append (s:=0) (m:=a) (n:=k+(n-(a+k))) (step:=1);rw[Z9]at d f;rw[d,show List.range' a (k+(n-(a+k)))=List.range' (0+a) (k+(n-(a+k))) by rw[QJ],f];congr 1;omega
 rw[e,Zi,Zi,XJ.2,List.filter_eq_self.2,XJ.2]
 ·rw[Zd,XB,List.range'_eq_map_range]
 ·intro c b;rw[List.mem_range'_1]at b;rw[hp c (by omega)];omega
 ·intro c b;rw[List.mem_range'_1]at b;rw[hp c (by omega)];omega
 ·intro c b;rw[List.mem_range'_1]at b;rw[hp c (by omega)];omega
theorem xQ(hc:fo ts=true)(ha:aM src ts.length=true)(h0:0<=c)(hl:c<ai ts src)(hs:s<src.length) :
  aj ts src c=s↔ai ts (src.take s)<=c/\c<ai ts (src.take (s+1)):=by
 obtain⟨d,a,b,_⟩:=Xe hc ha h0 hl;constructor
 ·rintro rfl; exact⟨a,b⟩
 ·rintro⟨e,f⟩;rcases Nat.lt_trichotomy (aj ts src c) s with h | h | h
  ·have:=kI hc ha (show aj ts src c+1<=s from h) (by omega);omega
  ·exact h
  ·have:=kI hc ha (show s+1<=aj ts src c from h) (by omega);omega
theorem Ir(hc:fo ts=true)(ha:aM src ts.length=true)(hs:s<src.length) :
  eD ts src (s:Int)=(List.range (ts.getD (src.getD s 0).toNat tz).cols.toNat).map fun (j:Nat)=>(((ai ts (src.take s)).toNat+j:Nat):Int):=by
 have d:=Xc hc ha src.length (Qs _);rw[Qw]at d;have e:=Xc hc ha s (by omega);have b:=Xc hc ha (s+1) (by omega);have f:=kI hc ha (show s+1<=src.length by omega) (Qs _);rw[Qw]at f;rw[gL,ZC,ZB,Xd]at b;unfold eD;rw[Sk (a:=(ai ts (src.take s)).toNat) (k:=(ts.getD (src.getD s 0).toNat tz).cols.toNat) (by omega),Xv]
 ·rfl
 ·intro c g;rw[QE];have:=xQ hc ha (c:=(c:Int)) (by omega) (by omega) hs;rw[show (((aj ts src (c:Int):Nat):Int)=(s:Int))↔aj ts src (c:Int)=s by omega,this];omega
theorem Nu:∀ {C:List Int},C.Nodup->∀ {j:Nat} (hj:j<C.length),C.idxOf C[j]=j
 | [],_,j,hj => by simp at hj
 | c::C,hd,0,_ => by simp
 | c::C,hd,j+1,hj => by
  obtain⟨h1,h2⟩:=List.nodup_cons.1 hd;have hj':j<C.length:=by simpa using hj
  have ih:=Nu h2 hj';rw[List.getElem_cons_succ,List.idxOf_cons,ih];have:(c==C[j])=false:=by
   rw[XU];rintro rfl;exact h1 (Qk _)
  rw[this];rfl
def Bp(W a:Nat)(r:List Int):List Int:=List.replicate a 0++r++List.replicate (W-a-r.length) 0
theorem Aq(hc:fo ts=true)(ha:aM src ts.length=true)(hs:s<src.length)(hr:(r.length:Int)=(ts.getD (src.getD s 0).toNat tz).cols) :
  Bp (ai ts src).toNat (ai ts (src.take s)).toNat r=dP (ai ts src).toNat (eD ts src (s:Int)) r:=by
 have b:=Ir hc ha hs;have g:=zf ts src (s:Int);have i:=Xc hc ha s (by omega);have f:=Xc hc ha (s+1) (by omega);have m:=kI hc ha (show s+1<=src.length by omega) (Qs _);rw[Qw]at m;rw[gL,ZC,ZB,Xd]at f;generalize (ts.getD (src.getD s 0).toNat tz).cols=K at *;obtain⟨a,o⟩:∃ a,(ai ts (src.take s)).toNat=a:=⟨_,rfl⟩
 obtain⟨W,v⟩:∃ W,(ai ts src).toNat=W:=⟨_,rfl⟩
 have q:K.toNat=r.length:=by omega
 have t:a+r.length<=W:=by omega
 rw[o,v];rw[o,q]at b;clear i f m;have n:(eD ts src (s:Int)).length=r.length:=by rw[b]; simp
 have k:∀ j,j<r.length->(eD ts src (s:Int)).idxOf ((a+j:Nat):Int)=j:=fun j p=>by
  have:=Nu g (j:=j) (by omega);have e:(eD ts src (s:Int))[j]'(by omega)=((a+j:Nat):Int):=by simp[b]
  rwa [e]at this
 have d:∀ c:Nat,(c:Int)∈eD ts src (s:Int)↔a<=c/\c<a+r.length:=fun c=>by
  rw[b,ZU];constructor
  ·rintro⟨j,p,e⟩;have:=Xm.1 p;omega
  ·rintro⟨w,l⟩;exact⟨c-a,Xm.2 (by omega),by omega⟩
 unfold Bp;apply XK
 ·rw[Am];simp;omega
 ·intro c w l;have u:(dP W (eD ts src (s:Int)) r)[c]'l=if (c:Int)∈eD ts src (s:Int) then r.getD ((eD ts src (s:Int)).idxOf (c:Int)) 0 else 0:=by simp[dP]
  rw[u];rw[Am]at l;by_cases h:(c:Int)∈eD ts src (s:Int)
  ·rw[Qu h];rw[d]at h;have e:=k (c-a) (by omega);rw[show a+(c-a)=c by omega]at e;rw[e,XV (by simp; omega),List.getElem_append_right (by simp; omega)];simp[List.getD,show c-a<r.length by omega]
  ·rw[Qv h];rw[d]at h;by_cases y:c<a
   ·rw[XV (by simp; omega),XV (by simp; omega),List.getElem_replicate]
   ·rw[List.getElem_append_right (by simp; omega),List.getElem_replicate]
section
variable (ts:List af) (q:ae) (plan:List ah) (db:List aN)
def keyOf(n:ah):Int × Int × Bool:=eP ts q.src.xs (q.wh.getD n.key.toNat lz).cs ((dn ts q plan n.l.toNat).getD vz).sources ((dn ts q plan n.r.toNat).getD vz).sources
def qd(n:ah)(L R:List (List Int) × List Int):List (List Int):=
 if n.kind=3 then dh L.1 R.1 else iD (aQ L.2 (keyOf ts q plan n).1) (aQ R.2 (keyOf ts q plan n).2.1) L.1 R.1
def bL:Nat->Nat->List (List Int) × List Int
 | 0,_ => ([],[])
 | f+1,i =>
  if (plan.getD i nz).kind=1 then (eQ db (q.src.xs.getD (plan.getD i nz).source.toNat 0),eD ts q.src.xs (plan.getD i nz).source)
  else if (plan.getD i nz).kind=2 then ((bL f (plan.getD i nz).l.toNat).1.filter (iC q.wh (bL f (plan.getD i nz).l.toNat).2 (plan.getD i nz).cl.xs),(bL f (plan.getD i nz).l.toNat).2)
  else if (plan.getD i nz).kind=6 then (eU (aO (bL f (plan.getD i nz).l.toNat).2 (plan.getD i nz).co.xs) (bL f (plan.getD i nz).l.toNat).1,(bL f (plan.getD i nz).l.toNat).2)
  else ((qd ts q plan (plan.getD i nz) (bL f (plan.getD i nz).l.toNat) (bL f (plan.getD i nz).r.toNat)).filter (iC q.wh ((bL f (plan.getD i nz).l.toNat).2++(bL f (plan.getD i nz).r.toNat).2) (plan.getD i nz).cl.xs),
   (bL f (plan.getD i nz).l.toNat).2++(bL f (plan.getD i nz).r.toNat).2)
def mF:Nat->Nat->List (List Int)
 | 0,_ => []
 | f+1,i =>
  if (plan.getD i nz).kind=10 then eU q.ord.xs (mF f (plan.getD i nz).l.toNat)
  else if (plan.getD i nz).kind=9 then (bL ts q plan db f (plan.getD i nz).l.toNat).1.map fun r=>au r (aO (bL ts q plan db f (plan.getD i nz).l.toNat).2 q.aK.xs)
  else (fu (aO (bL ts q plan db f (plan.getD i nz).l.toNat).2 q.keys.xs) (aO (bL ts q plan db f (plan.getD i nz).l.toNat).2 q.sums.xs) (bL ts q plan db f (plan.getD i nz).l.toNat).1).map Gr.row
def gH:Nat->Nat->List (List Int)
 | 0,_ => []
 | f+1,i =>
  if (plan.getD i nz).kind=1 then (eQ db (q.src.xs.getD (plan.getD i nz).source.toNat 0)).map (Bp (ai ts q.src.xs).toNat (ai ts (q.src.xs.take (plan.getD i nz).source.toNat)).toNat)
  else if (plan.getD i nz).kind=6 then eU (plan.getD i nz).co.xs (gH f (plan.getD i nz).l.toNat)
  else if (plan.getD i nz).kind=7∨(plan.getD i nz).kind=8 then jF q.keys.xs q.sums.xs (gH f (plan.getD i nz).l.toNat)
  else if (plan.getD i nz).kind=9 then (gH f (plan.getD i nz).l.toNat).map fun r=>au r q.aK.xs
  else if (plan.getD i nz).kind=10 then eU q.ord.xs (gH f (plan.getD i nz).l.toNat)
  else if (plan.getD i nz).kind=2 then (gH f (plan.getD i nz).l.toNat).filter (jU q.wh (plan.getD i nz).cl.xs)
  else ((gH f (plan.getD i nz).l.toNat).flatMap fun a=>(gH f (plan.getD i nz).r.toNat).map fun b=>mE ts q.src.xs a b ((dn ts q plan (plan.getD i nz).r.toNat).getD vz).sources).filter (jU q.wh (plan.getD i nz).cl.xs)
theorem jw{i:Nat}(h:dn ts q plan i=some v) :
  ((plan.getD i nz).kind=1/\0<=(plan.getD i nz).source/\(plan.getD i nz).source<q.src.xs.length/\v.sources=[(plan.getD i nz).source]/\v.order=[]/\v.out=false)∨
  (2<=(plan.getD i nz).kind/\(plan.getD i nz).kind<=10/\(plan.getD i nz).kind≠3/\(plan.getD i nz).kind≠4/\(plan.getD i nz).kind≠5/\0<=(plan.getD i nz).l/\(plan.getD i nz).l<i/\
   ∃ l,dn ts q plan (plan.getD i nz).l.toNat=some l/\qI ts q (plan.getD i nz) l vz=some v)∨
  (3<=(plan.getD i nz).kind/\(plan.getD i nz).kind<=5/\0<=(plan.getD i nz).l/\(plan.getD i nz).l<i/\0<=(plan.getD i nz).r/\(plan.getD i nz).r<i/\
   ∃ l r,dn ts q plan (plan.getD i nz).l.toNat=some l/\dn ts q plan (plan.getD i nz).r.toNat=some r/\qI ts q (plan.getD i nz) l r=some v):=by
 obtain⟨n,g⟩:=eX (plan.getD i nz)
 have b:=(Bl h).1;rw[g]at b ⊢;unfold dH at b;simp only[Qo,Z4,QE]at b;obtain⟨⟨⟨⟨t,f⟩,_⟩,k⟩,s⟩:=b;have p:fP n=true:=by
  cases e:fP n with
  | true => rfl
  | false => rw[vo ts q plan i g e]at h; cases h
 by_cases m:n.kind=1
 ·left;rw[xL ts q plan i g p m]at h;split at h
  ·cases h
  ·rename_i hs
   injection h with h;subst h;exact⟨m,by omega,by omega,rfl,rfl,rfl⟩
 ·right;by_cases o:3<=n.kind/\n.kind<=5
  ·right;have j:arity n.kind=2:=by unfold arity; rw[Qv m,Qu o]
   rw[j]at k s;have a:0<=n.l/\n.l<i:=by rcases k with h | h; omega; exact h
   have d:0<=n.r/\n.r<i:=by rcases s with h | h; omega; exact h
   rw[H5 ts q plan i g p (by omega) f j a.1 a.2 d.1 d.2]at h;refine⟨o.1,o.2,a.1,a.2,d.1,d.2,?_⟩
   cases el:dn ts q plan n.l.toNat with
   | none => rw[el]at h; cases h
   | some l =>
    cases er:dn ts q plan n.r.toNat with
    | none => rw[el,er]at h; cases h
    | some r => rw[el,er]at h; exact⟨l,r,rfl,rfl,h⟩
  ·left;have j:arity n.kind=1:=by unfold arity; rw[Qv m,Qv o]
   rw[j]at k;have a:0<=n.l/\n.l<i:=by rcases k with h | h; omega; exact h
   rw[Hz ts q plan i g p (by omega) f (by omega) a.1 a.2]at h;refine⟨by omega,f,by omega,by omega,by omega,a.1,a.2,?_⟩
   cases el:dn ts q plan n.l.toNat with
   | none => rw[el]at h; cases h
   | some l => rw[el]at h; exact⟨l,rfl,h⟩
theorem SF{n:ah}{l r v:dY}(h:qI ts q n l r=some v):r.out=false/\(l.out=true↔n.kind=10)/\(bC l.sources r.sources).length=l.sources.length+r.sources.length/\
  dR ts q n.cl.xs (bC l.sources r.sources)=true/\mY ts q n l r=true/\v.sources=bC l.sources r.sources/\v.order=(if n.kind=6 then n.co.xs else l.order)/\v.out=decide (7<=n.kind)/\v.clauses=bC (bC l.clauses r.clauses) n.cl.xs:=by
 rw[nV]at h;split at h
 ·rename_i ho
  injection h with h;subst h;unfold nU at ho;simp only[Qo,QE]at ho;obtain⟨⟨⟨b,d⟩,f⟩,g⟩:=ho;have a:(r.out || (l.out != decide (n.kind=10)))=false:=by simpa using b
  rw[Bool.or_eq_false_iff]at a;refine⟨a.1,?_,d,f,g,rfl,rfl,rfl,rfl⟩;have:=a.2;by_cases e:n.kind=10
  ·rw[Qy e]at this;exact⟨fun _=>e,fun _=>by simpa using this⟩
  ·rw[Qg e]at this;exact⟨fun h=>absurd this (by rw[h]; simp),fun h=>absurd h e⟩
 ·cases h
end
def X9:=@SF
structure jO(ts:List af)(q:ae)(db:List aN)(v:dY)(F:List (List Int) × List Int)(ref:List (List Int)):Prop where
 same:ref=F.1.map (dP (ai ts q.src.xs).toNat F.2)
 nodup:F.2.Nodup
 cols:∀ c,c∈F.2↔0<=c/\c<(ai ts q.src.xs).toNat/\((aj ts q.src.xs c:Nat):Int)∈v.sources
 lens:∀ r∈F.1,r.length=F.2.length
 vals:∀ r∈F.1,∀ x∈r,okV x
 ord:∀ c∈v.order,c∈F.2
 sorted:bS (DF (aO F.2 v.order)) F.1
 kW:v.sources.Nodup
 fQ:aP q.src.xs.length v.sources
 many:F.1.length<=ze (BZ q.src.xs db) q.src.xs.length v.sources
theorem jO.inC(h:jO ts q db v F ref)(hc:c∈F.2):U6 (ai ts q.src.xs).toNat F.2 c:=by
 have:=(h.cols c).1 hc;exact⟨this.1,this.2.1,hc⟩
theorem gN(ok:Ok ts q){l:List Int}(h:dR ts q l S=true):∀ i∈l,(0<=i/\i<q.wh.length)/\∀ x∈aG (q.wh.getD i.toNat lz).cs,0<=x/\x<(ai ts q.src.xs).toNat/\((aj ts q.src.xs x:Nat):Int)∈S:=by
 intro i n;obtain⟨k,d,rfl⟩:=Qx n;unfold dR at h;rw[Qp]at h;have b:=h k (Xm.2 d);have e:l.getD k 0=l[k]:=by simp[List.getD,d]
 rw[e]at b;simp only[Qo,QE]at b;obtain⟨⟨⟨j,m⟩,_⟩,a⟩:=b;refine⟨⟨j,m⟩,fun x f=>?_⟩;have g:=ok.cols _ (show (l[k]).toNat<q.wh.length by omega) x f;unfold bI at a;rw[Qp]at a;exact⟨g.1,by omega,Xk (a x f)⟩
theorem vC(h:tJ ts db=true){t:Int}(hr:r∈eQ db t):(r.length:Int)=(ts.getD t.toNat tz).cols/\∀ x∈r,okV x:=by
 unfold eQ at hr;obtain⟨y,f,rfl⟩:=ZU.1 hr;unfold tJ at h;rw[Qp]at h;by_cases g:t.toNat<db.length
 ·have b:=h t.toNat (Xm.2 g);unfold xN Dz at b;rw[Qo,Qp]at b;have a:=b.2 y f;unfold yV at a;rw[Qo,QE,Qp]at a;refine⟨a.1,fun x j=>?_⟩;have d:=a.2 x j;unfold vP at d;unfold okV;simp only[Z4,Qo,QE]at d;exact d
 ·have e:db.getD t.toNat rz=rz:=by simp[List.getD,XA (l:=db) (i:=t.toNat) (by omega)]
  rw[e]at f
  cases f
theorem vD{L R:List (List Int)}:x∈dh L R↔∃ a∈L,∃ b∈R,x=a++b:=by
 unfold dh;rw[Xr];constructor
 ·rintro⟨a,d,f⟩;obtain⟨b,e,rfl⟩:=ZU.1 f;exact⟨a,d,b,e,rfl⟩
 ·rintro⟨a,d,b,e,rfl⟩;exact⟨a,d,ZU.2 ⟨b,e,rfl⟩⟩
theorem bS.filter{lt:List Int->List Int->Bool}{rows:List (List Int)}(p:List Int->Bool)(h:bS lt rows):bS lt (rows.filter p):=List.Pairwise.filter p h
theorem WH{c:ak}(hop:c.op=0)(hno:c.not=false)(hco:c.const=false)(h:fT c xs=1):xs.getD c.left.toNat 0=xs.getD c.right.toNat 0/\xs.getD c.left.toNat 0≠1073741824:=by
 have e:¬ (c.op=2∨c.const=true):=by rw[hop,hco]; simp
 unfold fT at h;simp only at h;rw[Qv e,Qv (by rw[hno]; simp)]at h;generalize xs.getD c.left.toNat 0=X at *;generalize xs.getD c.right.toNat 0=Y at *;unfold dM at h;rw[Qv (by omega)]at h;by_cases a:X=1073741824∨Y=1073741824
 ·rw[Qu a]at h; omega
 ·rw[Qv a]at h;split at h
  ·omega
  ·omega
theorem NP(ok:Ok ts q){n:ah}{r:dY}(hl:dn ts q plan n.l.toNat=some l)(hr:dn ts q plan n.r.toNat=some r)
  (h3:3<=n.kind) (h5:n.kind<=5) (hk:mY ts q n l r=true) (hls:dR ts q n.cl.xs (bC l.sources r.sources)=true) (HL:jO ts q db l L rl) (HR:jO ts q db r R rr) (hd:∀ c∈R.2,c ∉ L.2) :
  (qd ts q plan n L R).filter (iC q.wh (L.2++R.2) n.cl.xs)=(dh L.1 R.1).filter (iC q.wh (L.2++R.2) n.cl.xs):=by
 unfold qd;by_cases N:n.kind=3
 ·rw[Qu N]
 rw[Qv N];have O:keyOf ts q plan n=eP ts q.src.xs (q.wh.getD n.key.toNat lz).cs l.sources r.sources:=by
  unfold keyOf;rw[hl,hr];rfl
 rw[O];unfold mY at hk;rw[Qv (by omega),Qu (by omega)]at hk;simp only[Qo,QE]at hk;obtain⟨⟨j,d⟩,_⟩:=hk;have A:=(gN ok hls n.key j).2;obtain⟨cs,t⟩:∃ cs,(q.wh.getD n.key.toNat lz).cs=cs:=⟨_,rfl⟩
 rw[t]at d A ⊢;unfold eP at d ⊢;by_cases z:cs.length≠1∨(cs.getD 0 cz).not=true∨(cs.getD 0 cz).const=true∨(cs.getD 0 cz).op≠0
 ·rw[Qu z]at d; cases d
 rw[Qv z]at d ⊢;have G:cs.length=1/\(cs.getD 0 cz).not=false/\(cs.getD 0 cz).const=false/\(cs.getD 0 cz).op=0:=by
  refine⟨by omega,?_,?_,?_⟩
  ·cases e:(cs.getD 0 cz).not with
   | false => rfl
   | true => exact absurd (.inr (.inl e)) z
  ·cases e:(cs.getD 0 cz).const with
   | false => rfl
   | true => exact absurd (.inr (.inr (.inl e))) z
  ·by_cases e:(cs.getD 0 cz).op=0
   ·exact e
   ·exact absurd (.inr (.inr (.inr e))) z
 obtain⟨u,I,o,J⟩:=G;obtain⟨c,rfl⟩:∃ c,cs=[c]:=by
  match cs,u with
  | [c],_ => exact⟨c,rfl⟩
 simp only[List.getD_cons_zero]at *;have H:aG [c]=[c.left,c.right]:=by
  unfold aG aA;rw[QG,Qu ⟨by omega,o⟩];rfl
 rw[H]at A;have i:=A c.left (by simp);have K:=A c.right (by simp)
 -- what the key clause says of a row
 have s:∀ a∈L.1,∀ b∈R.1,iC q.wh (L.2++R.2) n.cl.xs (a++b)=true->(a++b).getD (aQ (L.2++R.2) c.left).toNat 0=(a++b).getD (aQ (L.2++R.2) c.right).toNat 0/\(a++b).getD (aQ (L.2++R.2) c.left).toNat 0≠1073741824:=by
  intro a _ b _ h;unfold iC at h;rw[Qp]at h;have B:=h n.key j;rw[t]at B;unfold jK at B;simp only[XH,List.map_nil,List.any_cons,List.any_nil,Bool.or_false,QE]at B;have M:=WH (c:=dB (L.2++R.2) c) J I o B;have p:(dB (L.2++R.2) c).right=aQ (L.2++R.2) c.right:=Qu ⟨by omega,o⟩;rw[p]at M;exact M
 have k:∀ x,x∈L.2->∀ a∈L.1,∀ b,(a++b).getD (aQ (L.2++R.2) x).toNat 0=aY a (aQ L.2 x):=fun x i a g b=>by
  have P:=XT.2 i;have:=HL.lens a g;unfold aY aQ;rw[List.idxOf_append,Qu i,l8 (by omega)]
 have m:∀ x,x∈R.2->∀ a∈L.1,∀ b,(a++b).getD (aQ (L.2++R.2) x).toNat 0=aY b (aQ R.2 x):=fun x i a g b=>by
  have:=HL.lens a g;unfold aY aQ;rw[List.idxOf_append,Qv (hd x i),<- this,show ((List.idxOf x R.2+a.length:Nat):Int).toNat=a.length+List.idxOf x R.2 by omega,uk];rfl
 have f:∀ x,0<=x/\x<((ai ts q.src.xs).toNat:Int)/\((aj ts q.src.xs x:Nat):Int)∈bC l.sources r.sources->∀ (v:dY) F y,jO ts q db v F y->((aj ts q.src.xs x:Nat):Int)∈v.sources->x∈F.2:=fun x i v F y Q j=>(Q.cols x).2 ⟨i.1,i.2.1,j⟩
 refine Wj fun a g b S T=>?_
 obtain⟨w,p⟩:=s a g b S T;by_cases E:((aj ts q.src.xs c.left:Nat):Int)∈l.sources/\((aj ts q.src.xs c.right:Nat):Int)∈r.sources
 ·rw[Qu E]at d ⊢;have C:=f _ i l L rl HL E.1;have D:=f _ K r R rr HR E.2;rw[k _ C a g,m _ D a g]at w;rw[k _ C a g]at p;exact⟨w.symm,p⟩
 ·rw[Qv E]at d ⊢;simp only[Qo,QE]at d;have C:=f _ K l L rl HL d.1;have D:=f _ i r R rr HR d.2;rw[k _ C a g,m _ D a g]at w;rw[m _ D a g]at p;refine⟨w,?_⟩
  show aY a (aQ L.2 c.right)≠1073741824
  rw[<- w];exact p
theorem vE(ok:Ok ts q):(((ai ts q.src.xs).toNat:Nat):Int)=ai ts q.src.xs/\(bF ts q.src.xs q.src.xs.length).length=(ai ts q.src.xs).toNat:=by
 have:=Xc ok.cat ok.src q.src.xs.length (Qs _);rw[Qw]at this;omega
theorem D7(l:List Int):bC l vz.sources=l:=rfl
theorem ko{ts:List af}{q:ae}(ok:Ok ts q)(plan:List ah){db:List aN}(lF:tJ ts db=true):∀ (f i:Nat) (v:dY),i<f->dn ts q plan i=some v->v.out=false->jO ts q db v (bL ts q plan db f i) (gH ts q plan db f i)
 | 0,_,_,h,_,_ => by omega
 | f+1,i,v,hi,hv,hout => by
  have hW:=vE ok;rcases jw ts q plan hv with⟨hk,h0,hs,es,eo,_⟩ | ⟨k2,k10,k3,k4,k5,hl0,FZ,l,hl,hn⟩ | ⟨k3,k5,hl0,FZ,hr0,hri,l,r,hl,hr,hn⟩
  ·obtain⟨s,hse⟩:∃ s:Nat,(plan.getD i nz).source=(s:Int):=⟨_,(Xj h0).symm⟩
   have hsl:s<q.src.xs.length:=by omega
   have ef:bL ts q plan db (f+1) i=(eQ db (q.src.xs.getD s 0),eD ts q.src.xs (s:Int)):=by
    unfold bL;rw[Qu hk,hse];rfl
   have er:gH ts q plan db (f+1) i=(eQ db (q.src.xs.getD s 0)).map (Bp (ai ts q.src.xs).toNat (ai ts (q.src.xs.take s)).toNat):=by
    unfold gH;rw[Qu hk,hse];rfl
   have hrow:∀ r∈eQ db (q.src.xs.getD s 0),_:=fun r hr=>vC lF hr
   have hcl:((eD ts q.src.xs (s:Int)).length:Int)=(ts.getD (q.src.xs.getD s 0).toNat tz).cols:=by
    rw[Ir ok.cat ok.src hsl,ZB,Xd];have h1:=Qq ok.src (k:=s) hsl;have e:q.src.xs.getD s 0=q.src.xs[s]:=by simp[List.getD,hsl]
    have h2:=kR ok.cat (i:=(q.src.xs[s]).toNat) (by omega);rw[e];omega
   rw[ef,er];refine⟨?_,zf _ _ _,?_,?_,fun r hr=>(hrow r hr).2,?_,?_,?_,?_,?_⟩
   ·exact Xw fun r hr=>Aq ok.cat ok.src hsl (hrow r hr).1
   ·intro c;rw[nX,es,hse,Zw,hW.2]
   ·intro r hr;have:=(hrow r hr).1
    show r.length=(eD ts q.src.xs (s:Int)).length
    omega
   ·rw[eo]; intro c hc; cases hc
   ·rw[eo];exact List.pairwise_of_forall fun _ _=>rfl
   ·rw[es]; simp
   ·rw[es];intro x hx;rw[Zw]at hx;omega
   ·rw[es,Wo h0 hs,hse]
    show (eQ db _).length<=_
    unfold eQ BZ;rw[ZB,ZY];omega
  ·obtain⟨_,ho,_,hls,hkb,es,eo,iE,_⟩:=X9 ts q hn;rw[D7]at hls es;rw[hout]at iE;have h6:¬ 7<=(plan.getD i nz).kind:=fun h=>by rw[Qy h]at iE; cases iE
   have hlo:l.out=false:=by
    cases e:l.out with
    | false => rfl
    | true => have:=ho.1 e; omega
   have H:=ko ok plan lF f (plan.getD i nz).l.toNat l (by omega) hl hlo;by_cases hk:(plan.getD i nz).kind=2
   ·have ef:bL ts q plan db (f+1) i=((bL ts q plan db f (plan.getD i nz).l.toNat).1.filter (iC q.wh (bL ts q plan db f (plan.getD i nz).l.toNat).2 (plan.getD i nz).cl.xs),(bL ts q plan db f (plan.getD i nz).l.toNat).2):=by
     conv=>lhs; unfold bL
     rw[Qv (by omega),Qu hk]
    have er:gH ts q plan db (f+1) i=(gH ts q plan db f (plan.getD i nz).l.toNat).filter (jU q.wh (plan.getD i nz).cl.xs):=by
     conv=>lhs; unfold gH
     rw[Qv (by omega),Qv (by omega),Qv (by omega),Qv (by omega),Qv (by omega),Qu hk]
    rw[Qv (by omega)]at eo;rw[ef,er];generalize bL ts q plan db f (plan.getD i nz).l.toNat=F at H ⊢;generalize gH ts q plan db f (plan.getD i nz).l.toNat=G at H ⊢;have hcl:=gN ok hls;refine⟨?_,H.nodup,?_,fun r hr=>H.lens r (Xl.1 hr).1,fun r hr=>H.vals r (Xl.1 hr).1,?_,?_,?_,?_,?_⟩
    ·rw[H.same,Zg];congr 1;refine XP fun r _=>?_
     exact Ao fun j hj x hx=>H.inC ((H.cols x).2 ((hcl j hj).2 x hx))
    ·rw[es]; exact H.cols
    ·rw[eo]; exact H.ord
    ·rw[eo]; exact H.sorted.filter _
    ·rw[es]; exact H.kW
    ·rw[es]; exact H.fQ
    ·rw[es]; exact QS (XQ _ _) H.many
   ·have jY:(plan.getD i nz).kind=6:=by omega
    have ef:bL ts q plan db (f+1) i=(eU (aO (bL ts q plan db f (plan.getD i nz).l.toNat).2 (plan.getD i nz).co.xs) (bL ts q plan db f (plan.getD i nz).l.toNat).1,(bL ts q plan db f (plan.getD i nz).l.toNat).2):=by
     conv=>lhs; unfold bL
     rw[Qv (by omega),Qv hk,Qu jY]
    have er:gH ts q plan db (f+1) i=eU (plan.getD i nz).co.xs (gH ts q plan db f (plan.getD i nz).l.toNat):=by
     conv=>lhs; unfold gH
     rw[Qv (by omega),Qu jY]
    rw[Qu jY]at eo;unfold mY at hkb;rw[Qv hk,Qv (by omega),Qu jY]at hkb;simp only[Qo,Qp,QE]at hkb;obtain⟨⟨hall,_⟩,hin⟩:=hkb;rw[ef,er];generalize bL ts q plan db f (plan.getD i nz).l.toNat=F at H ⊢;generalize gH ts q plan db f (plan.getD i nz).l.toNat=G at H ⊢;have hco:∀ c∈(plan.getD i nz).co.xs,c∈F.2:=fun c hc=>(H.cols c).2 (by
     unfold aM at hall;rw[Qp]at hall;have:=hall c hc;simp only[Qo,QE]at this;exact⟨this.1,by omega,hin c hc⟩)
    refine⟨?_,H.nodup,?_,fun r hr=>H.lens r (Ii.1 hr),fun r hr=>H.vals r (Ii.1 hr),?_,?_,?_,?_,?_⟩
    ·rw[H.same];exact Wh (fun c hc=>H.inC (hco c hc)) F.1
    ·rw[es]; exact H.cols
    ·rw[eo]; exact hco
    ·rw[eo]; exact xP _ _
    ·rw[es]; exact H.kW
    ·rw[es]; exact H.fQ
    ·rw[es]
     show (eU _ _).length<=_
     rw[Ij];exact H.many
  ·obtain⟨hro,ho,hwl,hls,hkb,es,eo,iE,_⟩:=X9 ts q hn;have hlo:l.out=false:=by
    cases e:l.out with
    | false => rfl
    | true => have:=ho.1 e; omega
   rw[Qv (by omega)]at eo;have HL:=ko ok plan lF f (plan.getD i nz).l.toNat l (by omega) hl hlo;have HR:=ko ok plan lF f (plan.getD i nz).r.toNat r (by omega) hr hro;have SG:=(uZ HR.kW).1 hwl;have ef:bL ts q plan db (f+1) i=((qd ts q plan (plan.getD i nz) (bL ts q plan db f (plan.getD i nz).l.toNat) (bL ts q plan db f (plan.getD i nz).r.toNat)).filter (iC q.wh ((bL ts q plan db f (plan.getD i nz).l.toNat).2++(bL ts q plan db f (plan.getD i nz).r.toNat).2) (plan.getD i nz).cl.xs),
     (bL ts q plan db f (plan.getD i nz).l.toNat).2++(bL ts q plan db f (plan.getD i nz).r.toNat).2):=by
    conv=>lhs; unfold bL
    rw[Qv (by omega),Qv (by omega),Qv (by omega)]
   have er:gH ts q plan db (f+1) i=((gH ts q plan db f (plan.getD i nz).l.toNat).flatMap fun a=>(gH ts q plan db f (plan.getD i nz).r.toNat).map fun b=>mE ts q.src.xs a b r.sources).filter (jU q.wh (plan.getD i nz).cl.xs):=by
    conv=>lhs; unfold gH
    rw[Qv (by omega),Qv (by omega),Qv (by omega),Qv (by omega),Qv (by omega),Qv (by omega),hr];rfl
   have hcl:=gN ok hls;have hjk:=NP (plan:=plan) (n:=plan.getD i nz) ok hl hr k3 k5 hkb hls HL HR (fun c hc h=>SG _ ((HR.cols c).1 hc).2.2 ((HL.cols c).1 h).2.2);rw[ef,er,hjk];generalize bL ts q plan db f (plan.getD i nz).l.toNat=L at HL ⊢;generalize gH ts q plan db f (plan.getD i nz).l.toNat=GL at HL ⊢;generalize bL ts q plan db f (plan.getD i nz).r.toNat=R at HR ⊢;generalize gH ts q plan db f (plan.getD i nz).r.toNat=GR at HR ⊢;have hd:∀ c∈R.2,c ∉ L.2:=fun c hc h=>SG _ ((HR.cols c).1 hc).2.2 ((HL.cols c).1 h).2.2
   have Hm:∀ c,c∈L.2++R.2↔0<=c/\c<(ai ts q.src.xs).toNat/\((aj ts q.src.xs c:Nat):Int)∈bC l.sources r.sources:=fun c=>by
    rw[Zx,HL.cols,HR.cols,Xh];constructor
    ·rintro (⟨a,b,c⟩ | ⟨a,b,c⟩)
     ·exact⟨a,b,.inl c⟩
     ·exact⟨a,b,.inr c⟩
    ·rintro⟨a,b,c | c⟩
     ·exact .inl ⟨a,b,c⟩
     ·exact .inr ⟨a,b,c⟩
   have amU:∀ x∈dh L.1 R.1,x.length=(L.2++R.2).length:=fun x hx=>by
    obtain⟨a,ha,b,hb,rfl⟩:=vD.1 hx;rw[ZC,ZC,HL.lens a ha,HR.lens b hb]
   refine⟨?_,?_,?_,fun x hx=>amU x (Xl.1 hx).1,?_,?_,?_,?_,?_,?_⟩
   ·have e1:(GL.flatMap fun a=>GR.map fun b=>mE ts q.src.xs a b r.sources)=(dh L.1 R.1).map (dP (ai ts q.src.xs).toNat (L.2++R.2)):=by
     rw[HL.same,HR.same];unfold dh;rw[List.flatMap_map,List.map_flatMap];have hone:∀ a∈L.1,(List.map (fun b=>mE ts q.src.xs (dP (ai ts q.src.xs).toNat L.2 a) b r.sources) (R.1.map (dP (ai ts q.src.xs).toNat R.2)))=List.map (dP (ai ts q.src.xs).toNat (L.2++R.2)) (R.1.map fun b=>a++b):=fun a ha=>by
      rw[Xv,Xv];refine Xw fun b _=>?_
      refine Wi (HL.lens a ha) hd fun c hc=>?_
      rw[HR.cols];constructor
      ·intro h; exact⟨by omega,by omega,h⟩
      ·intro h; exact h.2.2
     have:∀ (A:List (List Int)),(∀ a∈A,a∈L.1)->(A.flatMap fun a=>List.map (fun b=>mE ts q.src.xs (dP (ai ts q.src.xs).toNat L.2 a) b r.sources) (R.1.map (dP (ai ts q.src.xs).toNat R.2)))=A.flatMap fun a=>List.map (dP (ai ts q.src.xs).toNat (L.2++R.2)) (R.1.map fun b=>a++b):=by
      intro A
      induction A with
      | nil => intro _; rfl
      | cons a A ih =>
       intro h;rw[QG,QG,hone a (h a (by simp)),ih fun x hx=>h x (by simp[hx])]
     exact this L.1 fun _ h=>h
    rw[e1,Zg];congr 1;refine XP fun x _=>?_
    refine Ao fun j hj c hc=>?_
    have h1:=(Hm c).2 ((hcl j hj).2 c hc);have h2:=(Hm c).1 h1;exact⟨h2.1,h2.2.1,h1⟩
   ·rw[List.nodup_append];exact⟨HL.nodup,HR.nodup,fun a ha b hb e=>hd b hb (e ▸ ha)⟩
   ·rw[es]; exact Hm
   ·intro x hx y hy;obtain⟨a,ha,b,hb,rfl⟩:=vD.1 (Xl.1 hx).1;rcases Zx.1 hy with hy | hy
    ·exact HL.vals a ha y hy
    ·exact HR.vals b hb y hy
   ·rw[eo];intro c hc;exact List.mem_append_left _ (HL.ord c hc)
   ·rw[eo];exact(Si HL.lens HL.ord HL.sorted).filter _
   ·rw[es]; exact gM HL.kW
   ·rw[es]; exact HL.fQ.with HR.fQ
   ·rw[es,Sj SG];refine QS (XQ _ _) ?_;rw[Wm];exact Nat.mul_le_mul HL.many HR.many
theorem D8{l s:List Int}(h:dR ts q l s=true):l.length<=q.wh.length:=by
 have e:=rH h;unfold dR at h;rw[Qp]at h;have b:∀ i,i<l.length->(i:Int)<=l.getD i 0:=by
  intro i
  induction i with
  | zero => intro a; exact(e _ (by simp[List.getD,a])).1
  | succ i ih =>
   intro a;have d:=h (i+1) (Xm.2 a);simp only[Qo,Z4,QE]at d;have g:=ih (by omega);rcases d.1.2 with f | f
   ·omega
   ·rw[Xq]at f;omega
 by_cases j:l.length=0
 ·omega
 ·have a:l.length-1<l.length:=by omega
  have d:=b (l.length-1) a;have g:=e (l.getD (l.length-1) 0) (by simp[List.getD,a]);omega
theorem ab6(ok:Ok ts q){n:ah}{r:dY}(h45:n.kind=4∨n.kind=5)(hk:mY ts q n l r=true)(hls:dR ts q n.cl.xs (bC l.sources r.sources)=true)(HL:jO ts q db l L rl)(HR:jO ts q db r R rr) :
  n.key∈n.cl.xs/\(eP ts q.src.xs (q.wh.getD n.key.toNat lz).cs l.sources r.sources).2.2=true/\(eP ts q.src.xs (q.wh.getD n.key.toNat lz).cs l.sources r.sources).1∈L.2/\(eP ts q.src.xs (q.wh.getD n.key.toNat lz).cs l.sources r.sources).2.1∈R.2:=by
 unfold mY at hk;rw[Qv (by omega),Qu h45]at hk;simp only[Qo,QE]at hk;obtain⟨⟨d,a⟩,_⟩:=hk;refine⟨d,a,?_⟩;have k:=(gN ok hls n.key d).2;generalize (q.wh.getD n.key.toNat lz).cs=cs at *;unfold eP at a ⊢;by_cases f:cs.length≠1∨(cs.getD 0 cz).not=true∨(cs.getD 0 cz).const=true∨(cs.getD 0 cz).op≠0
 ·rw[Qu f]at a; cases a
 rw[Qv f]at a ⊢;have b:cs.length=1:=by
  by_cases e:cs.length=1
  ·exact e
  ·exact absurd (.inl e) f
 obtain⟨c,rfl⟩:∃ c,cs=[c]:=by
  match cs,b with
  | [c],_ => exact⟨c,rfl⟩
 simp only[List.getD_cons_zero]at *;have m:aG [c]=[c.left,c.right]:=by
  unfold aG aA;rw[QG,Qu ⟨fun e=>f (.inr (.inr (.inr (by omega)))),by cases e:c.const with | false=>rfl | true=>exact absurd (.inr (.inr (.inl e))) f⟩];rfl
 rw[m]at k;have g:=k c.left (by simp);have i:=k c.right (by simp);by_cases j:((aj ts q.src.xs c.left:Nat):Int)∈l.sources/\((aj ts q.src.xs c.right:Nat):Int)∈r.sources
 ·rw[Qu j];exact⟨(HL.cols _).2 ⟨g.1,g.2.1,j.1⟩,(HR.cols _).2 ⟨i.1,i.2.1,j.2⟩⟩
 ·rw[Qv j]at a ⊢;simp only[Qo,QE]at a;exact⟨(HL.cols _).2 ⟨i.1,i.2.1,a.1⟩,(HR.cols _).2 ⟨g.1,g.2.1,a.2⟩⟩
theorem ab7(ok:Ok ts q)(h5:q.src.xs.length<=5)(ha:aM xs (ai ts q.src.xs)=true)(hp:dJ xs=true):xs.length<=1000:=by
 unfold aM at ha;rw[Qp]at ha;have a:=jC ok.cat ok.src q.src.xs.length (Qs _);rw[Qw]at a;have d:=vg (n:=(ai ts q.src.xs).toNat) (s:=xs) (fun c b=>by
  have:=ha c b;simp only[Qo,QE]at this;omega) (Bj hp)
 omega
theorem jO.rise(h:jO ts q db v F ref){k:Int}(hs:bW v.order [k]=true):yZ (aQ F.2 k) F.1:=by
 have a:=h.sorted;unfold bW at hs;simp only[Qo,QE]at hs
 cases ho:v.order with
 | nil => rw[ho]at hs; simp at hs
 | cons x xs =>
  rw[ho]at hs a;have:x=k:=by simpa using hs.2
  subst this;exact Wn a
theorem jO.Vg(ok:Ok ts q)(h5:q.src.xs.length<=5)(hm:gm q.src.xs db<=20000)(h:jO ts q db v F ref):F.1.length<=1000000/\F.2.length<=1000/\∀ r∈F.1,∀ x∈r,-2147483648<=x/\x<=2147483648:=by
 refine⟨?_,?_,fun r d x e=>?_⟩
 ·have a:=DU (cnt:=BZ q.src.xs db) (n:=q.src.xs.length) (fun k=>by unfold BZ; omega) v.sources;rw[<- DV]at a;have:=h.many;omega
 ·have a:=vg (n:=(ai ts q.src.xs).toNat) (s:=F.2) (fun c f=>by have:=(h.cols c).1 f; omega) h.nodup;have b:=jC ok.cat ok.src q.src.xs.length (Qs _);rw[Qw]at b;omega
 ·have:=h.vals r d x e;unfold okV at this;omega
theorem NQ(ok:Ok ts q){n:ah}{r:dY}(hl:dn ts q plan n.l.toNat=some l)(hr:dn ts q plan n.r.toNat=some r)(h3:3<=n.kind)(h5:n.kind<=5)(hk:mY ts q n l r=true)(HL:jO ts q db l L rl)(HR:jO ts q db r R rr) :
  (if n.kind=3 then dh L.1 R.1 else if n.kind=4 then iD (aQ L.2 (keyOf ts q plan n).1) (aQ R.2 (keyOf ts q plan n).2.1) L.1 R.1 else fF (aQ L.2 (keyOf ts q plan n).1) (aQ R.2 (keyOf ts q plan n).2.1) L.1 R.1)=qd ts q plan n L R:=by
 unfold qd;by_cases b:n.kind=3
 ·rw[Qu b,Qu b]
 rw[Qv b,Qv b];by_cases d:n.kind=4
 ·rw[Qu d]
 rw[Qv d];unfold mY at hk;rw[Qv (by omega),Qu (by omega)]at hk;simp only[Qo,Z4,QE]at hk;have a:=hk.2.resolve_left d;have e:keyOf ts q plan n=eP ts q.src.xs (q.wh.getD n.key.toNat lz).cs l.sources r.sources:=by
  unfold keyOf;rw[hl,hr];rfl
 rw[e];exact Sg (HL.rise a.1) (HR.rise a.2)
theorem D9(ok:Ok ts q){pl:List ah}{ds:List bZ}(h:fV ts q pl=some ds):1<=pl.length/\ds.length=pl.length/\Dt ts q pl ds/\∃ v,dn ts q pl (pl.length-1)=some v/\v.out=true:=by
 unfold fV at h;by_cases d:dI pl=false
 ·rw[Qu d]at h; cases h
 rw[Qv d]at h;have a:dI pl=true:=by simpa using d
 unfold dI at a;simp only[Qo,QE]at a;obtain⟨⟨⟨f,_⟩,b⟩,_⟩:=a;rw[Qp]at b;rcases Du ok pl pl.length (fun i g=>b i (Xm.2 g)) with⟨h2,_⟩ | ⟨ps,h2,h3,h4⟩
 ·rw[h2]at h; cases h
 ·rw[h2]at h;simp only[Option.bind_some]at h;split at h
  ·rename_i ho
   cases h
   rw[Qo]at ho;obtain⟨v,e,_⟩:=h4 (pl.length-1) (by omega);exact⟨f,h3,h4,v,e,by rw[(Bl e).2.1]; exact ho.1⟩
  ·cases h
theorem NR{n:ah}(h:x∈qd ts q plan n L R):∃ a∈L.1,∃ b∈R.1,x=a++b:=by
 unfold qd at h;split at h
 ·exact vD.1 h
 ·unfold iD at h;obtain⟨a,d,e⟩:=Xr.1 h;obtain⟨b,f,rfl⟩:=ZU.1 e;exact⟨a,d,b,(Xl.1 f).1,rfl⟩
theorem SH(ts:List af)(q:ae)(pl:List ah)(db:List aN):∀ (i:Nat) {v:dY},dn ts q pl i=some v->v.out=false->∀ f g,i<f->i<g->bL ts q pl db f i=bL ts q pl db g i:=by
 intro i
 induction i using Nat.strongRecOn with
 | ind i ih =>
  intro v y j f g A B;obtain⟨f,rfl⟩:∃ k,f=k+1:=⟨f-1,by omega⟩
  obtain⟨g,rfl⟩:∃ k,g=k+1:=⟨g-1,by omega⟩
  rcases jw ts q pl y with⟨b,h0,hs,es,eo,_⟩ | ⟨k2,k10,k3,k4,k5,hl0,FZ,l,hl,hn⟩ | ⟨k3,k5,hl0,FZ,hr0,hri,l,r,hl,hr,hn⟩
  ·unfold bL;rw[Qu b,Qu b]
  ·obtain⟨_,o,_,_,_,_,_,m,_⟩:=X9 ts q hn;rw[j]at m;have z:¬ 7<=(pl.getD i nz).kind:=fun h=>by rw[Qy h]at m; cases m
   have a:l.out=false:=by
    cases e:l.out with
    | false => rfl
    | true => have:=o.1 e; omega
   have n:=ih (pl.getD i nz).l.toNat (by omega) hl a f g (by omega) (by omega);have d:¬ (pl.getD i nz).kind=1:=by omega
   unfold bL;rw[Qv d,Qv d,n];by_cases b:(pl.getD i nz).kind=2
   ·rw[Qu b,Qu b]
   ·have s:(pl.getD i nz).kind=6:=by omega
    rw[Qv b,Qv b,Qu s,Qu s]
  ·obtain⟨p,o,_,_,_,_,_,m,_⟩:=X9 ts q hn;have a:l.out=false:=by
    cases e:l.out with
    | false => rfl
    | true => have:=o.1 e; omega
   have n:=ih (pl.getD i nz).l.toNat (by omega) hl a f g (by omega) (by omega);have w:=ih (pl.getD i nz).r.toNat (by omega) hr p f g (by omega) (by omega);have d:¬ (pl.getD i nz).kind=1:=by omega
   have t:¬ (pl.getD i nz).kind=2:=by omega
   have u:¬ (pl.getD i nz).kind=6:=by omega
   unfold bL;rw[Qv d,Qv d,Qv t,Qv t,Qv u,Qv u,n,w]
theorem WI(ts:List af)(q:ae)(pl:List ah)(db:List aN):∀ {i:Nat} {v:dY},dn ts q pl i=some v->v.out=true->∀ f g,i<f->i<g->mF ts q pl db f i=mF ts q pl db g i:=by
 intro i
 induction i using Nat.strongRecOn with
 | ind i ih =>
  intro v n a f g o p;obtain⟨f,rfl⟩:∃ k,f=k+1:=⟨f-1,by omega⟩
  obtain⟨g,rfl⟩:∃ k,g=k+1:=⟨g-1,by omega⟩
  rcases jw ts q pl n with⟨b,h0,hs,es,eo,d⟩ | ⟨k2,k10,k3,k4,k5,hl0,FZ,l,hl,hn⟩ | ⟨k3,k5,hl0,FZ,hr0,hri,l,r,hl,hr,hn⟩
  ·rw[a]at d; cases d
  ·obtain⟨_,d,_,_,_,_,_,m,_⟩:=X9 ts q hn;by_cases b:(pl.getD i nz).kind=10
   ·unfold mF;rw[Qu b,Qu b,ih (pl.getD i nz).l.toNat (by omega) hl (d.2 b) f g (by omega) (by omega)]
   ·have j:l.out=false:=by
     cases e:l.out with
     | false => rfl
     | true => exact absurd (d.1 e) b
    unfold mF;rw[Qv b,Qv b,SH ts q pl db _ hl j f g (by omega) (by omega)]
  ·obtain⟨_,_,_,_,_,_,_,m,_⟩:=X9 ts q hn;rw[a,Qg (by omega)]at m
   cases m
def aiI(cs:List ak):Prop:=cs.length=1/\(cs.getD 0 cz).not=false/\(cs.getD 0 cz).const=false/\(cs.getD 0 cz).op=0
theorem WJ{cs:List ak}(h:aiI cs):aG cs=[(cs.getD 0 cz).left,(cs.getD 0 cz).right]:=by
 obtain⟨a,_,b,d⟩:=h;obtain⟨c,rfl⟩:∃ c,cs=[c]:=by
  match cs,a with
  | [c],_ => exact⟨c,rfl⟩
 simp only[List.getD_cons_zero]at *;unfold aG aA;rw[QG,Qu ⟨by omega,b⟩];rfl
structure Vh(ts:List af)(q:ae):Prop where
 aK:aM q.aK.xs (ai ts q.src.xs)=true
 keys:aM q.keys.xs (ai ts q.src.xs)=true
 sums:aM q.sums.xs (ai ts q.src.xs)=true
theorem WL(hs:aP q.src.xs.length v.sources)(hd:v.sources.Nodup)(hw:nR q v=true):∀ k,k<q.src.xs.length->(k:Int)∈v.sources:=fun k d=>by
 unfold nR at hw;rw[Qo,QE]at hw;have b:=(qJ hs hd).2 hw.1;have a:=Z6 (l:=v.sources) (fun x e=>(hs x e).1) k;rw[b,uW,Qy d]at a;exact Xk a.symm
theorem jO.every(ok:Ok ts q)(h:jO ts q db v F ref)(hw:nR q v=true)(hc:aM cs (ai ts q.src.xs)=true):∀ c∈cs,c∈F.2:=fun c b=>by
 unfold aM at hc;rw[Qp]at hc;have a:=hc c b;simp only[Qo,QE]at a;have d:=vE ok;exact(h.cols c).2 ⟨a.1,by omega,WL h.fQ h.kW hw _ (Xe ok.cat ok.src a.1 a.2).1⟩
theorem Ea(hn:C.length=n)(h:∀ c∈cs,c∈C):aM (aO C cs) (n:Int)=true:=by
 unfold aM aO;rw[Qp];intro x b;obtain⟨c,a,rfl⟩:=ZU.1 b;have:=XT.2 (h c a);unfold aQ;simp only[Qo,QE];omega
theorem SI{ts:List af}{q:ae}(ok:Ok ts q)(oo:Vh ts q)(plan:List ah){db:List aN}(lF:tJ ts db=true)(ab8:gm q.src.xs db<=20000):∀ (f i:Nat) (v:dY),i<f->dn ts q plan i=some v->v.out=true->
  mF ts q plan db f i=gH ts q plan db f i
 | 0,_,_,h,_,_ => by omega
 | f+1,i,v,hi,hv,hout => by
  rcases jw ts q plan hv with⟨d,h0,hs,D,E,j⟩ | ⟨k2,k10,k3,k4,k5,hl0,FZ,l,hl,hn⟩ | ⟨k3,k5,hl0,FZ,hr0,hri,l,r,hl,s,hn⟩
  ·rw[hout]at j; cases j
  ·obtain⟨_,j,_,C,a,D,E,m,_⟩:=X9 ts q hn;rw[hout]at m;have J:7<=(plan.getD i nz).kind:=Xk m.symm;by_cases d:(plan.getD i nz).kind=10
   ·have z:=SI ok oo plan lF ab8 f (plan.getD i nz).l.toNat l (by omega) hl (j.2 d);unfold mF gH;rw[Qu d,Qv (by omega),Qv (by omega),Qv (by omega),Qv (by omega),Qu d,z]
   ·have p:l.out=false:=by
     cases e:l.out with
     | false => rfl
     | true => exact absurd (j.1 e) d
    have H:=ko ok plan lF f (plan.getD i nz).l.toNat l (by omega) hl p;unfold mY at a;have o:nR q l=true:=by
     rw[Qv (by omega),Qv (by omega),Qv (by omega)]at a;by_cases w:(plan.getD i nz).kind=7
     ·rw[Qu w,Qo]at a; exact a.2
     rw[Qv w]at a;by_cases y:(plan.getD i nz).kind=8
     ·rw[Qu y,Qo,Qo]at a; exact a.1.2
     rw[Qv y,Qu (by omega),Qo]at a;exact a.2
    conv=>lhs; unfold mF; rw[Qv d]
    conv=>rhs; unfold gH; rw[Qv (by omega),Qv (by omega)]
    generalize bL ts q plan db f (plan.getD i nz).l.toNat=F at H ⊢;generalize gH ts q plan db f (plan.getD i nz).l.toNat=G at H ⊢;by_cases t:(plan.getD i nz).kind=9
    ·rw[Qu t,Qv (by omega),Qu t,H.same,Xv];refine Xw fun r _=>?_
     exact(nK fun c b=>H.inC (H.every ok o oo.aK c b)).symm
    ·rw[Qv t,Qu (by omega),H.same,Nt (fun c b=>H.inC (H.every ok o oo.keys c b)) (fun c b=>H.inC (H.every ok o oo.sums c b))];refine DK ?_ ?_
     ·have A:=DU (cnt:=BZ q.src.xs db) (n:=q.src.xs.length) (fun k=>by unfold BZ; omega) l.sources;rw[<- DV]at A;have:=H.many;omega
     ·intro r s c b;unfold aO at b;obtain⟨x,I,rfl⟩:=ZU.1 b;have B:=XT.2 (H.every ok o oo.sums x I);have u:=H.lens r s;have g:(aQ F.2 x).toNat<r.length:=by unfold aQ; omega
      have e:r.getD (aQ F.2 x).toNat 0=r[(aQ F.2 x).toNat]:=by simp[List.getD,g]
      rw[e];exact H.vals r s _ (Qk _)
  ·obtain⟨_,_,_,_,_,_,_,m,_⟩:=X9 ts q hn;rw[hout,Qg (by omega)]at m
   cases m
theorem IJ{α β:Type}(f g:α->List β):∀ l:List α,(l.flatMap f++l.flatMap g).Perm (l.flatMap fun x=>f x++g x)
 | [] => XC _
 | x::l => by
  rw[QG,QG,QG];refine List.Perm.trans ?_ (List.Perm.append_left (f x++g x) (IJ f g l));rw[QH,QH];refine List.Perm.append_left _ ?_;rw[<- QH,<- QH];exact List.Perm.append_right _ List.perm_append_comm
theorem IK{α β γ:Type}(F:α->β->List γ)(m:List β):∀ l:List α,(l.flatMap fun x=>m.flatMap fun y=>F x y).Perm (m.flatMap fun y=>l.flatMap fun x=>F x y)
 | [] => by simp
 | x::l => by
  rw[QG];refine(List.Perm.append_left _ (IK F m l)).trans ?_;refine(IJ (fun y=>F x y) (fun y=>l.flatMap fun z=>F z y) m).trans ?_;simp only[QG];exact XC _
theorem nZ{α β:Type}{f g:α->List β}:∀ {l:List α},(∀ x∈l,(f x).Perm (g x))->(l.flatMap f).Perm (l.flatMap g)
 | [],_ => XC _
 | x::l,h => by
  rw[QG,QG];exact List.Perm.append (h x (by simp)) (nZ fun y hy=>h y (by simp[hy]))
theorem KF{α β:Type}{f g:α->List β}:∀ {l:List α},(∀ x∈l,f x=g x)->l.flatMap f=l.flatMap g
 | [],_ => rfl
 | x::l,h => by
  rw[QG,QG,h x (by simp),KF fun y hy=>h y (by simp[hy])]
theorem NS{α:Type}{f g:α->Bool}:∀ {l:List α},(∀ x∈l,f x=g x)->l.any f=l.any g
 | [],_ => rfl
 | x::l,h => by rw[List.any_cons,List.any_cons,h x (by simp),NS fun y hy => h y (by simp[hy])]
theorem NT{α:Type}{f g:α->Bool}:∀ {l:List α},(∀ x∈l,f x=g x)->l.all f=l.all g
 | [],_ => rfl
 | x::l,h => by rw[XE,XE,h x (by simp),NT fun y hy => h y (by simp[hy])]
theorem WM{α β:Type}{f:α->List β}{l m:List α}(h:l.Perm m):(l.flatMap f).Perm (m.flatMap f):=List.Perm.flatMap_right f h
def oh(n:Nat)(cs r x:List Int):List Int:=(List.range n).map fun (c:Nat)=>if (c:Int)∈cs then r.getD (cs.idxOf (c:Int)) 0 else x.getD c 0
theorem lW(n:Nat)(cs r x:List Int):(oh n cs r x).length=n:=by simp[oh]
theorem kK{c:Nat}(h:c<n)(cs r x:List Int):(oh n cs r x).getD c 0=if (c:Int)∈cs then r.getD (cs.idxOf (c:Int)) 0 else x.getD c 0:=by
 unfold oh;simp[List.getD,h]
theorem CE(ha:a.length=n)(hb:b.length=n)(h:∀ c,c<n->a.getD c 0=b.getD c 0):a=b:=by
 refine XK (by omega) fun i d e=>?_
 have:=h i (by omega)
 simpa [List.getD,d,e] using this
theorem WO{A B:List Int}(hd:∀ c∈A,c ∉ B):oh n A a (oh n B b x)=oh n B b (oh n A a x):=by
 refine CE (lW ..) (lW ..) fun c e=>?_
 rw[kK e,kK e,kK e,kK e];by_cases d:(c:Int)∈A
 ·rw[Qu d,Qv (hd _ d),Qu d]
 ·rw[Qv d,Qv d]
section
variable (ts:List af) (q:ae) (db:List aN)
def jW:List Int->List (List Int)
 | [] => [List.replicate (ai ts q.src.xs).toNat 0]
 | s::S => (eQ db (q.src.xs.getD s.toNat 0)).flatMap fun r => (jW S).map (oh (ai ts q.src.xs).toNat (eD ts q.src.xs s) r)
theorem SQ{T:List Int}(h:S.Perm T):(jW ts q db S).Perm (jW ts q db T):=by
 induction h with
 | nil => exact XC _
 | cons s _ ih =>
  unfold jW;exact nZ fun r _=>ih.map _
 | swap a b S =>
  by_cases d:a=b
  ·subst d;exact XC _
  ·have key:∀ x y:Int,x≠y->jW ts q db (x::y::S)=(eQ db (q.src.xs.getD x.toNat 0)).flatMap fun r=>(eQ db (q.src.xs.getD y.toNat 0)).flatMap fun e=>(jW ts q db S).map fun z=>oh (ai ts q.src.xs).toNat (eD ts q.src.xs x) r (oh (ai ts q.src.xs).toNat (eD ts q.src.xs y) e z):=fun x y _=>by
    show (eQ db _).flatMap _=_
    congr 1
    funext r
    show List.map _ ((eQ db _).flatMap _)=_
    rw[List.map_flatMap];congr 1
    funext e
    rw[Xv];rfl
   rw[key b a (Ne.symm d),key a b d];refine(IK _ _ _).trans ?_;refine nZ fun r _=>nZ fun e _=>?_
   refine List.Perm.of_eq (Xw fun z _=>?_);exact WO fun c g f=>d ((nX.1 f).2.2.symm.trans (nX.1 g).2.2)
 | trans _ _ h1 h2 => exact h1.trans h2
theorem vF:∀ {S:List Int} {x:List Int},x∈jW ts q db S->x.length=(ai ts q.src.xs).toNat/\∀ c:Nat,c<(ai ts q.src.xs).toNat->((aj ts q.src.xs (c:Int):Nat):Int) ∉ S->x.getD c 0=0
 | [],x,h => by
  unfold jW at h;rw[Zw]at h;subst h;refine⟨by simp,fun c hc _=>by simp[List.getD,hc]⟩
 | s::S,x,h => by
  unfold jW at h;obtain⟨r,_,hx⟩:=Xr.1 h;obtain⟨y,hy,rfl⟩:=ZU.1 hx;obtain⟨_,h2⟩:=vF hy;refine⟨lW ..,fun c hc hn=>?_⟩;rw[kK hc,Qv (fun hm=>hn (by rw[(nX.1 hm).2.2]; simp))];exact h2 c hc fun hm=>hn (by simp[hm])
theorem nL{c:Nat}(h:c<a.length):(mE ts src a b S).getD c 0=if ((aj ts src (c:Int):Nat):Int)∈S then b.getD c 0 else a.getD c 0:=by
 unfold mE;simp[List.getD,h]
theorem Aw(src a b S:List Int):(mE ts src a b S).length=a.length:=by simp[mE]
theorem Ay{B:List Int}:∀ {A:List Int},(∀ s∈A,s ∉ B)->jW ts q db (A++B)=(jW ts q db A).flatMap fun a=>(jW ts q db B).map fun b=>mE ts q.src.xs a b B
 | [],_ => by
  show jW ts q db B=List.flatMap _ [_]
  rw[QG,List.flatMap_nil,XB];refine(List.map_id _).symm.trans (Xw fun b hb=>?_);obtain⟨h1,h2⟩:=vF ts q db hb;refine CE (n:=(ai ts q.src.xs).toNat) h1 (by rw[Aw]; simp) fun c hc=>?_
  rw[nL ts (by simpa using hc)];split
  ·rfl
  ·rename_i h
   show b.getD c 0=_
   rw[h2 c hc h];simp[List.getD,hc]
 | s::A,hd => by
  have ih:=Ay (B:=B) (A:=A) fun x hx=>hd x (by simp[hx])
  show (eQ db _).flatMap _=((eQ db _).flatMap _).flatMap _
  rw[List.flatMap_assoc];congr 1
  funext r
  show List.map _ (jW ts q db (A++B))=_
  rw[ih,List.map_flatMap,List.flatMap_map];refine KF fun a ha=>?_
  rw[Xv];refine Xw fun b _=>?_
  have hal:=(vF ts q db ha).1;refine CE (lW ..) (by rw[Aw,lW]) fun c hc=>?_
  show (oh _ _ r (mE ts q.src.xs a b B)).getD c 0=_
  rw[kK hc,nL ts (by omega),nL ts (by rw[lW]; exact hc),kK hc];by_cases h1:(c:Int)∈eD ts q.src.xs s
  ·rw[Qu h1,Qv (by rw[(nX.1 h1).2.2]; exact hd s (by simp)),Qu h1]
  ·rw[Qv h1,Qv h1]
end
theorem NU{c:ak}(h:∀ k∈aA c,x.getD k.toNat 0=y.getD k.toNat 0):fT c x=fT c y:=by
 unfold aA at h;unfold fT;simp only;by_cases b:c.op≠2/\c.const=false
 ·rw[Qu b]at h;have a:¬ (c.op=2∨c.const=true):=by
   rintro (e | e)
   ·exact b.1 e
   ·rw[b.2]at e; cases e
  rw[Qv a,Qv a,h c.left (by simp),h c.right (by simp)]
 ·rw[Qv b]at h;have a:c.op=2∨c.const=true:=by
   by_cases e:c.op=2
   ·exact .inl e
   ·right
    cases e2:c.const with
    | true => rfl
    | false => exact absurd ⟨e,e2⟩ b
  rw[Qu a,Qu a,h c.left (by simp)]
theorem Eb{ls:List az}{is:List Int}(h:∀ i∈is,∀ k∈aG (ls.getD i.toNat lz).cs,x.getD k.toNat 0=y.getD k.toNat 0):jU ls is x=jU ls is y:=by
 have b:∀ {cs:List ak},(∀ k∈aG cs,x.getD k.toNat 0=y.getD k.toNat 0)->jK cs x=jK cs y:=fun {cs} hk=>by
  unfold jK;refine NS fun c d=>?_
  rw[NU fun k a=>hk k (by unfold aG; exact Xr.2 ⟨c,d,a⟩)]
 unfold jU;exact NT fun i e=>b (h i e)
theorem Az(ls:List az)(a b x:List Int):jU ls (bC a b) x=(jU ls a x&&jU ls b x):=by
 unfold jU;rw[QD,Qo,Qp,Qp,Qp];exact⟨fun h=>⟨fun i d=>h i (Xh.2 (.inl d)),fun i d=>h i (Xh.2 (.inr d))⟩,fun h i d=>(Xh.1 d).elim (h.1 i) (h.2 i)⟩
