import Derived.Test.YtfnnchibngigdaaGreatDoorS00
set_option linter.all false
set_option maxRecDepth 100000
set_option maxHeartbeats 0
namespace Go.Proofs.Zz
open Go.RowKit Go.Shelf Go.Proofs.Tryz
open List renaming length->N,getD->E
open Go.Value renaming int->I
open Option renaming some->O,none->Qp
open Bool renaming false->F,true->T
open Go.IntKind renaming u64->Qn
variable {a b i k m n v:Nat} {ts:Qu af} {l s src xs:KJ} {cs:Qu aF} {q:ae}
def aL(l:KJ):Nat:=l.foldl (λm n=>m|||2 ^ n.toNat) 0
theorem FX(l:KJ)(x:Int):aL (l++[x])=aL l|||2 ^ x.toNat:=by grind [aL]
theorem FY(l:KJ):∀(m i:Nat),(∀x∈l,0<=x)->(l.foldl (λm n=>m|||2 ^ n.toNat) m).testBit i=(m.testBit i ||decide ((i:Int)∈l)):=by
 induction l with
 |nil=>simp_all
 |cons a l ih =>
  intro m i h;have ha:=h a Qb;rw[ZM,ih _ _ (λx hx=>h x (by simp[hx])),Nat.testBit_or,Nat.testBit_two_pow,Bool.or_assoc];grind
theorem zV{l:KJ}(h:∀x∈l,0<=x)(i:Nat):(aL l).testBit i=decide ((i:Int)∈l):=by grind [aL,FY]
theorem yT:∀{l:KJ},(∀x∈l,0<=x/\x<n)->aL l<2 ^ n:=λ{l} h=>by apply Nat.lt_pow_two_of_testBit;grind [zV]
theorem zW(hb:b<18446744073709551616)(i:Nat)(hi:i<64):(a &&& (18446744073709551615-b)).testBit i=(a.testBit i && !b.testBit i):=by have e:18446744073709551615-b=2 ^ 64-(b+1):=X;rw[Nat.testBit_and,e,Nat.testBit_two_pow_sub_succ X];simp[hi]
theorem Cn(ha:a<18446744073709551616)(hb:b<18446744073709551616):(b &&& (18446744073709551615-a)=0)↔∀i,b.testBit i=T->a.testBit i=true:=by
 constructor
 .intro h i f;have d:i<64:=by
   have e:b<2 ^ 64:=X;by_cases g:i<64
   .exact g
   .rw[Nat.testBit_lt_two_pow (ZC e (ZO X X))]at f
    cases f
  have j:=zW (a:=b) ha i d;simp_all
 .intro h;apply Nat.eq_of_testBit_eq;intro i;rw[Nat.zero_testBit];by_cases f:i<64
  .grind [zW]
  .have e:b<2 ^ 64:=X
   rw[Nat.testBit_and,Nat.testBit_lt_two_pow (x:=b) (ZC e (ZO X X))];rfl
theorem FZ:(a &&& b≠0)↔∃i,a.testBit i=T/\b.testBit i=true:=by
 constructor
 .intro h;by_cases d:∃i,a.testBit i=T/\b.testBit i=T
  .exact d
  .exfalso;apply h;apply Nat.eq_of_testBit_eq
   simp_all
 .rintro⟨i,f,g⟩ h;have e:(a &&& b).testBit i=true:=Qc
  simp_all
def F3(n i:Nat):(2 ^ n-1).testBit i=decide (i<n):=Nat.testBit_two_pow_sub_one n i
def ZN:=@zV
def aH:Nat:=18446744073709551615
def aN(a b:Nat):Nat:=min (a+b) aH
def az(a b:Nat):Nat:=min (a*b) aH
def kI(a b:Nat):aN a b<=aH:=Nat.min_le_right _ _
def eU(a b:Nat):az a b<=aH:=Nat.min_le_right _ _
theorem JF(hb:b<=aH):aN a b=if a > aH-b then aH else a+b:=by grind [aN]
theorem uL(a b:Nat):aN a b=aN b a:=by grind [aN]
theorem gF(a b c:Nat):aN (aN a b) c=aN a (aN b c):=by grind [aN]
def eF(l:Qu Nat):Nat:=l.foldl aN 0
theorem zX:∀(l:Qu Nat) (m:Nat),m<=aH->l.foldl aN m=min (m+l.sum) aH
 |[],m,h=>Qg
 |a::l,m,_=>by rw[ZM,zX l _ (kI _ _),List.sum_cons];grind [aN]
theorem qg(l:Qu Nat):eF l=min l.sum aH:=by unfold eF;rw[zX l 0 (ZP _),ZQ]
theorem F4(ha:a≠0):az a b=if b > aH / a then aH else a*b:=by grind [az,Nat.div_lt_iff_lt_mul]
def sK(b:Nat):az 0 b=0:=by unfold az;omega
theorem zY{x c:Nat}(hc:1<=c):min (min x aH*c) aH=min (x*c) aH:=by
 by_cases h:x<=aH
 .simp_all
 .have a:aH<=x:=X
  rw[Nat.min_eq_right a];have b:aH*1<=aH*c:=Nat.mul_le_mul_left _ hc;have d:aH*c<=x*c:=Nat.mul_le_mul_right _ a;omega
theorem zZ:∀(l:Qu Nat) (m:Nat),m<=aH->(∀x∈l,1<=x)->l.foldl az m=min (m*l.foldl (· * ·) 1) aH
 |[],m,h,_=>Qg
 |a::l,m,_,hl=>by
  have key:∀(l:Qu Nat) (k:Nat),l.foldl (· * ·) k=k*l.foldl (· * ·) 1:=by
   intro l
   induction l with
   |nil=>intro k;simp
   |cons b l ih =>
    grind
  have pos:∀(l:Qu Nat),(∀x∈l,1<=x)->1<=l.foldl (· * ·) 1:=by
   intro l
   induction l with
   |nil=>grind
   |cons b l ih =>
    intro h;rw[ZM,key,Nat.one_mul];have h1:=h b Qb;have h2:=ih (λx hx=>h x (by simp[hx]));exact ZB X (Nat.mul_le_mul h1 h2)
  have ht:=λx hx=>hl x (List.mem_cons_of_mem a hx);rw[ZM,zZ l _ (eU _ _) ht,ZM,key l (1*a),Nat.one_mul];grind [az,zY]
def dm(v:Nat):Nat:=if v=0 then 0 else dm (v / 2)+1
def iG:dm 0=0:=by rw[dm];rfl
theorem kK(h:0<v):dm v=dm (v / 2)+1:=by grind [dm.eq_1]
def aV(ts:Qu af)(src:KJ)(n:Nat):Qu (Nat × Int):=
 (List.range n).flatMap λs=>(List.range (E ts (E src s 0).toNat tz).aO.toNat).map λm=>(s,(E ts (E src s 0).toNat tz).kd m)
def gH(ts:Qu af)(src:KJ)(n:Nat):aV ts src (n+1)=aV ts src n++(List.range (E ts (E src n 0).toNat tz).aO.toNat).map λm=>(n,(E ts (E src n 0).toNat tz).kd m):=by unfold aV;rw[Zx,List.flatMap_append];simp
theorem lI{ts:Qu af}{src:KJ}(hc:bQ ts=T)(ha:aP src (N ts)=T):∀n,n<=N src->(N (aV ts src n):Int)=ax ts (src.take n)
 |0,_=>Qh
 |n+1,hn=>by have ih:=lI hc ha n X;have h1:=gU ha (k:=n) X;have h2:=jS hc (i:=(src[n]'(X)).toNat) X;have e:E src n 0=src[n]'(X):=Qc;rw[gH,dC ts src n X,Zm,ZR,ZT,e];omega
theorem xK{ts:Qu af}{src:KJ}(hc:bQ ts=T)(ha:aP src (N ts)=T):∀n,n<=N src->∀c:Nat,c<N (aV ts src n)->
  ∃s,s<n/\ax ts (src.take s)<=c/\(c:Int)<ax ts (src.take (s+1))/\E (aV ts src n) c (0,0)=(s,(E ts (E src s 0).toNat tz).kd (c-(ax ts (src.take s)).toNat))
 |0,_,c,h=>by simp[aV]at h
 |n+1,hn,c,h=>by
  have j:=lI hc ha n X;by_cases a:c<N (aV ts src n)
  .obtain⟨s,d,b,f,g⟩:=xK hc ha n X c a;refine⟨s,X,b,f,?_⟩;rw[gH,<-g]
   grind
  .have d:=gU ha (k:=n) X;have b:=jS hc (i:=(src[n]'(X)).toNat) X;have e:E src n 0=src[n]'(X):=Qc
   rw[gH,Zm,ZR,ZT]at h;refine⟨n,X,X,?_,?_⟩
   .rw[dC ts src n X,<-e];omega
   .rw[gH]
    grind
def aj(ts:Qu af)(src:KJ)(c:Int):Nat:=(E (aV ts src (N src)) c.toNat (0,0)).1
def bS(ts:Qu af)(src:KJ)(c:Int):Int:=(E (aV ts src (N src)) c.toNat (0,0)).2
theorem uM{ts:Qu af}{src:KJ}(hc:bQ ts=T)(ha:aP src (N ts)=T){c:Int}(h0:0<=c)(hl:c<ax ts src) :
  aj ts src c<N src/\ax ts (src.take (aj ts src c))<=c/\c<ax ts (src.take (aj ts src c+1))/\
   bS ts src c=(E ts (E src (aj ts src c) 0).toNat tz).kd (c.toNat-(ax ts (src.take (aj ts src c))).toNat):=by have a:=lI hc ha (N src) (Q6 _);rw[ZV]at a;obtain⟨s,b,d,e,f⟩:=xK hc ha (N src) (Q6 _) c.toNat X;grind [aj,bS]
theorem z8(hc:bQ ts=T)(ha:aP src (N ts)=T)(hab:a<=b)(hb:b<=N src):ax ts (src.take a)<=ax ts (src.take b):=by
 induction b with
 |zero =>
  simp_all
 |succ b ih =>
  by_cases h:a<=b
  .have d:=ih h X;have e:=gU ha (k:=b) X;have f:=jS hc (i:=(src[b]'(X)).toNat) X;rw[dC ts src b X];omega
  grind
theorem wX(hc:bQ ts=T)(ha:aP src (N ts)=T){c:Int}(h0:0<=c)(hl:c<ax ts src){s:Nat}(hs:s<=aj ts src c):c ≥ ax ts (src.take (s+1))↔s<aj ts src c:=by
 obtain⟨a,b,d,_⟩:=uM hc ha h0 hl;constructor
 .grind
 .intro h;have:=z8 hc ha (show s+1<=aj ts src c by omega) X;omega
def ZU:=@uM
def Aa(inp:Nat->Qu Nat):Nat->Nat->Qu Nat
 |0,_=>[]
 |f+1,i=>i::(inp i).flatMap (Aa inp f)
def bT(inp:Nat->Qu Nat)(i:Nat):Qu Nat:=Aa inp (i+1) i
section
variable {inp:Nat->Qu Nat}
theorem uN(hin:∀i,∀j∈inp i,j<i):∀(f g i:Nat),i<f->i<g->Aa inp f i=Aa inp g i
 |0,_,_,h,_=>X
 |_,0,_,_,h=>X
 |f+1,g+1,i,h1,h2=>by show i::_=i::_;congr 1;rw[List.flatMap_def,List.flatMap_def];congr 1;apply List.map_congr_left;intro j hj;have:=hin i j hj;exact uN hin f g j X X
theorem kL(hin:∀i,∀j∈inp i,j<i)(i:Nat):bT inp i=i::(inp i).flatMap (bT inp):=by grind [bT,Aa,List.map_congr_left,uN]
theorem xL(hin:∀i,∀j∈inp i,j<i):∀(n i:Nat),i<=n->∀k∈bT inp i,k<=i:=by
 intro n
 induction n with
 |zero =>
  grind [kL]
 |succ n ih =>
  grind [kL]
def aX(n:Nat)(f:Nat->Nat):Nat:=((List.range n).map f).sum
theorem dP(n:Nat)(f:Nat->Nat):aX (n+1) f=aX n f+f n:=by grind [aX,List.range_succ]
theorem oO(n:Nat)(f g:Nat->Nat):aX n (λi=>f i+g i)=aX n f+aX n g:=by
 induction n with
 |zero=>rfl
 |succ n ih=>grind [dP]
def jT(n:Nat):aX n (λ_=>0)=0:=by
 induction n with
 |zero=>rfl
 |succ n ih=>rw[dP,ih]
theorem gW{f g:Nat->Nat}(h:∀i,i<n->f i=g i):aX n f=aX n g:=by
 induction n with
 |zero=>rfl
 |succ n ih=>grind [dP]
theorem oP(hm:m<n)(f:Nat->Nat):aX n (λi=>(if i=m then 1 else 0)*f i)=f m:=by
 induction n with
 |zero=>omega
 |succ n ih =>
  rw[dP];by_cases h:m<n
  .grind
  .obtain rfl:m=n:=X
   have e:aX m (λi=>(if i=m then 1 else 0)*f i)=0:=
    (gW (g:=λ_=>0) λi a=>Qc).trans (jT m)
   simp_all
def sM(n:Nat)(f:Nat->Nat->Nat):∀l:Qu Nat,(l.map λj=>aX n (f j)).sum=aX n λi=>(l.map λj=>f j i).sum
 |[]=>(jT n).symm
 |a::l=>by rw[List.map_cons,List.sum_cons,sM n f l,<-oO];rfl
theorem yU(l:Qu Nat)(f:Nat->Nat)(c:Nat):(l.map λj=>f j*c).sum=(l.map f).sum*c:=by
 induction l with
 |nil=>simp
 |cons a l ih=>grind
theorem yV(l:Qu Nat)(f g:Nat->Nat):(l.map λj=>f j+g j).sum=(l.map f).sum+(l.map g).sum:=by
 induction l with
 |nil=>simp
 |cons a l ih=>grind
theorem yX(l:Qu Nat)(k:Nat):(l.map λj=>if k=j then 1 else 0).sum=l.count k:=by
 induction l with
 |nil=>simp
 |cons a l ih =>
  grind
theorem Co(hin:∀i,∀j∈inp i,j<i)(k:Nat):∀(b m n:Nat),m<=b->m<n->(bT inp m).count k=(if k=m then 1 else 0)+aX n λi=>(bT inp m).count i*(inp i).count k:=by
 intro b
 induction b with
 |zero =>
  intro m n p f;have e:=List.eq_nil_iff_forall_not_mem.2 λj q=>Qj (hin m j q);have r:bT inp m=[m]:=by grind [kL]
  have t:(aX n λi=>(bT inp m).count i*(inp i).count k)=(inp m).count k:=by rw[<-oP f (λi=>(inp i).count k)];grind
  grind
 |succ b ih =>
  intro m n p f;have a:∀x,(bT inp m).count x=(if x=m then 1 else 0)+((inp m).map λj=>(bT inp j).count x).sum:=λx=>by rw[kL hin m,List.count_cons,List.count_flatMap];have e:(List.count x ∘ bT inp)=λj=>(bT inp j).count x:=rfl;grind
  have d:((inp m).map λj=>(bT inp j).count k).sum=(inp m).count k+aX n λi=>((inp m).map λj=>(bT inp j).count i).sum*(inp i).count k:=by
   have g:((inp m).map λj=>(bT inp j).count k)=(inp m).map λj=>(if k=j then 1 else 0)+aX n λi=>(bT inp j).count i*(inp i).count k:=by grind [List.map_congr_left]
   rw[g,yV,yX,sM];grind [yU]
  rw[a k,d];have l:(aX n λi=>(bT inp m).count i*(inp i).count k)=(inp m).count k+aX n λi=>((inp m).map λj=>(bT inp j).count i).sum*(inp i).count k:=by rw[<-oP f (λi=>(inp i).count k),<-oO];grind
  rw[l]
end
def ZW:=@dP
theorem gX{n:Nat}:∀{l:Qu Nat},(∀k∈l,k<n)->aX n (λk=>l.count k)=N l
 |[],_=>jT n
 |a::l,h=>by have h1:=gX (n:=n) (l:=l) (λk hk=>h k (by simp[hk]));have h2:=oP (h a Qb) (λ_=>1);rw[Zn,<-h1];rw[show aX n (λk=>l.count k)+1=aX n (λk=>l.count k)+aX n (λk=>(if k=a then 1 else 0)*1) by rw[h2],<-oO];grind
theorem mH{f:Nat->Nat}:∀{n:Nat},(∀k,k<n->f k<=1)->aX n f=n->∀k,k<n->f k=1
 |0,_,_,k,hk=>X
 |n+1,h,hs,k,hk=>by
  rw[ZW]at hs;have hle:∀m,m<=n->aX m f<=m:=by
   intro m
   induction m with
   |zero=>intro _;exact Q6 _
   |succ m ih =>
    grind [dP]
  have h1:=hle n (Q6 _);have h2:=h n X;by_cases e:k=n
  .rw[e];omega
  .exact mH (n:=n) (λk hk=>h k X) X k X
section
variable {inp:Nat->Qu Nat}
theorem sN(hin:∀i,∀j∈inp i,j<i)(h:i<=k):(inp i).count k=0:=by grind [List.count_eq_zero]
theorem Ab(hin:∀i,∀j∈inp i,j<i)(last:Nat):(∀k,k<last->aX (last+1) (λi=>(inp i).count k)=1)↔∀k,k<=last->(bT inp last).count k=1:=by
 have key:=λk=>Co hin k last last (last+1) (Q6 _) (Nat.lt_succ_self _);constructor
 .intro h;have a:∀d k,k<=last->last-k<=d->(bT inp last).count k=1:=by
   intro d
   induction d with
   |zero =>
    intro k b hd;obtain rfl:k=last:=X;rw[key,Q8 rfl,(gW (g:=λ_=>0) λi m=>by rw[sN hin X,Nat.mul_zero]),jT]
   |succ d ih =>
    intro k b hd;by_cases e:k=last
    .grind
    .rw[key,Zf e,ZQ];refine(gW (g:=λi=>(inp i).count k) λi m=>?_).trans (h k X);by_cases f:i<=k
     .rw[sN hin f,Nat.mul_zero]
     grind
  exact λk b=>a last k b X
 .intro h k b;have l:=key k;rw[h k X,Zf X,ZQ]at l;refine(gW λi m=>?_).trans l.symm
  grind
theorem JG(hin:∀i,∀j∈inp i,j<i)(last:Nat):((bT inp last).Nodup/\N (bT inp last)=last+1)↔∀k,k<=last->(bT inp last).count k=1:=by
 have f:=xL hin last last (Q6 _);have a:=gX (n:=last+1) (l:=bT inp last) (λk d=>Qc);constructor
 .rintro⟨m,p⟩ k d;have g:=List.nodup_iff_count.1 m;exact mH (n:=last+1) (λk _=>g k) (by rw[a,p]) k X
 .intro h;refine⟨List.nodup_iff_count.2 λk=>?_,?_⟩
  .grind
  .rw[<-a];have e:aX (last+1) (λk=>(bT inp last).count k)=aX (last+1) (λk=>(if k=0 then 1 else 1)):=gW λk d=>Qc
   have b:∀n,aX n (λk=>(if k=0 then 1 else 1))=n:=by
    intro n
    induction n with
    |zero=>rfl
    |succ n ih=>grind [dP]
   rw[e,b]
def F5(hin:∀i,∀j∈inp i,j<i)(last:Nat):(∀k,k<last->aX (last+1) (λi=>(inp i).count k)=1)↔((bT inp last).Nodup/\N (bT inp last)=last+1):=
 (Ab hin last).trans (JG hin last).symm
end
structure bn where
 sources:KJ
 clauses:KJ
 order:KJ
 out:Bool
 size:Nat
 cost:Nat
def vz:bn:=⟨[],[],[],F,0,0⟩
def ak(l m:KJ):KJ:=m.foldl (λout x=>if x∈out then out else out++[x]) l
def au(c:aF):KJ:=if c.op≠2/\c.const=F then [c.left,c.right] else [c.left]
def av(cs:Qu aF):KJ:=cs.flatMap au
def fV(ts:Qu af)(src:KJ)(cs:Qu aF)(sources:KJ):Bool:=(av cs).all λc=>decide ((aj ts src c:Int)∈sources)
def bH(ts:Qu af)(src:KJ)(cs:Qu aF):Nat:=
 if N cs≠1∨(E cs 0 cz).not=T then 2
 else if (E cs 0 cz).op=1 then 3
 else if (E cs 0 cz).op=2 then 10
 else if (E cs 0 cz).const=T then (bS ts src (E cs 0 cz).left).toNat
 else max (bS ts src (E cs 0 cz).left).toNat (bS ts src (E cs 0 cz).right).toNat
def dF(ts:Qu af)(src:KJ)(s:Int):Nat:=(E ts (E src s.toNat 0).toNat tz).rows.toNat
def JH(ts:Qu af)(q:ae)(clauses:KJ)(n:Nat):Nat:=(List.range (N q.wh)).foldl (λ(n c:Nat)=>if (c:Int)∈clauses then n / bH ts q.src.xs (E q.wh c lz).cs else n) n
def dJ(ts:Qu af)(q:ae)(sources clauses:KJ):Nat:=
 if (sources.any λs=>decide (dF ts q.src.xs s=0))=T then 0
 else max (JH ts q clauses ((sources.map (dF ts q.src.xs)).foldl az 1)) 1
def jE(kind:Int)(s:Nat)(l r:bn):Nat:=
 if kind=1 then aN s 1
 else if kind=3 then aN (aN l.cost r.cost) (az l.size r.size)
 else if kind=4 then aN (aN l.cost r.cost) (aN (aN l.size s) (az 2 r.size))
 else if kind=5 then aN (aN l.cost r.cost) (aN (aN l.size s) r.size)
 else if kind=6∨kind=10 then aN l.cost (az l.size (dm l.size+1))
 else if kind=7 then aN l.cost (az 2 l.size)
 else aN l.cost l.size
def aM(l m:KJ):Bool:=decide (N m<=N l)&&decide (l.take (N m)=m)
def dH(ts:Qu af)(src:KJ)(cs:Qu aF)(a b:KJ):Int × Int × Bool:=
 if N cs≠1∨(E cs 0 cz).not=T∨(E cs 0 cz).const=T∨(E cs 0 cz).op≠0 then (0,0,F)
 else if (aj ts src (E cs 0 cz).left:Int)∈a/\(aj ts src (E cs 0 cz).right:Int)∈b then ((E cs 0 cz).left,(E cs 0 cz).right,T)
 else ((E cs 0 cz).right,(E cs 0 cz).left,decide ((aj ts src (E cs 0 cz).right:Int)∈a)&&decide ((aj ts src (E cs 0 cz).left:Int)∈b))
def arity(kind:Int):Nat:=if kind=1 then 0 else if 3<=kind/\kind<=5 then 2 else 1
def bI(n:ag):Bool:=
 decide ((1<=arity n.kind∨n.l=0)/\(2<=arity n.kind∨n.r=0)/\(n.kind=1∨n.source=0)/\(n.kind=4∨n.kind=5∨n.key=0)/\
  (n.kind=2∨3<=n.kind/\n.kind<=5∨N n.cl.xs=0)/\(n.kind=6↔(N n.co.xs)≠0))
def dh(ts:Qu af)(q:ae)(l sources:KJ):Bool:=
 (List.range (N l)).all λi=>decide (0<=E l i 0)&&decide (E l i 0<N q.wh)&&(decide (i=0) ||decide (E l (i-1) 0<E l i 0))&&fV ts q.src.xs (E q.wh (E l i 0).toNat lz).cs sources
def uO(q:ae)(v:bn):Bool:=decide (N v.sources=N q.src.xs)&&decide (N v.clauses=N q.wh)
def qh(ts:Qu af)(q:ae)(n:ag)(l r:bn):Bool:=
 if n.kind=2 then decide (0<N n.cl.xs)
 else if n.kind=4∨n.kind=5 then
  decide (n.key∈n.cl.xs)&&(dH ts q.src.xs (E q.wh n.key.toNat lz).cs l.sources r.sources).2.2 &&
   (decide (n.kind=4) ||(aM l.order [(dH ts q.src.xs (E q.wh n.key.toNat lz).cs l.sources r.sources).1]&&aM r.order [(dH ts q.src.xs (E q.wh n.key.toNat lz).cs l.sources r.sources).2.1]))
 else if n.kind=6 then aP n.co.xs (ax ts q.src.xs)&&bG n.co.xs&&n.co.xs.all λc=>decide ((aj ts q.src.xs c:Int)∈l.sources)
 else if n.kind=7 then q.group&&uO q l
 else if n.kind=8 then q.group&&uO q l&&aM l.order q.keys.xs
 else if n.kind=9 then !q.group&&uO q l
 else if n.kind=10 then decide (0<N q.ord.xs)
 else T
def fA(ts:Qu af)(q:ae)(n:ag)(l r:bn):Option bn:=
 if (r.out ||(l.out != decide (n.kind=10)))=T then Qp
 else if N (ak l.sources r.sources)≠N l.sources+N r.sources then Qp
 else if dh ts q n.cl.xs (ak l.sources r.sources)=F then Qp
 else if qh ts q n l r=F then Qp
 else
  let c:=ak (ak l.clauses r.clauses) n.cl.xs
  let s:=dJ ts q (ak l.sources r.sources) c
  O ⟨ak l.sources r.sources,c,if n.kind=6 then n.co.xs else l.order,decide (7<=n.kind),s,jE n.kind s l r⟩
def fJ(ts:Qu af)(q:ae)(plan:Qu ag):Nat->Nat->Option bn
 |0,_=>Qp
 |f+1,i =>
  let n:=E plan i nz
  if bI n=F∨n.kind<1∨10<n.kind then Qp
  else if n.kind=1 then
   if n.source<0∨(N q.src.xs:Int)<=n.source then Qp
   else O ⟨[n.source],[],[],F,dJ ts q [n.source] [],jE 1 (dJ ts q [n.source] []) vz vz⟩
  else if n.l<0∨(i:Int)<=n.l then Qp
  else
   match fJ ts q plan f n.l.toNat with
   |none=>Qp
   |some l =>
    if arity n.kind=2 then
     if n.r<0∨(i:Int)<=n.r then Qp
     else
      match fJ ts q plan f n.r.toNat with
      |none=>Qp
      |some r=>fA ts q n l r
    else fA ts q n l vz
def bX(ts:Qu af)(q:ae)(plan:Qu ag):Nat->Nat->Qu Nat->Option (bn × Qu Nat)
 |0,_,_=>Qp
 |f+1,i,seen =>
  let n:=E plan i nz
  if bI n=F∨n.kind<1∨10<n.kind then Qp
  else if n.kind=1 then
   if n.source<0∨(N q.src.xs:Int)<=n.source then Qp
   else O (⟨[n.source],[],[],F,dJ ts q [n.source] [],jE 1 (dJ ts q [n.source] []) vz vz⟩,seen++[i])
  else if n.l<0∨(i:Int)<=n.l∨n.l.toNat∈seen++[i] then Qp
  else
   match bX ts q plan f n.l.toNat (seen++[i]) with
   |none=>Qp
   |some (l,s) =>
    if arity n.kind=2 then
     if n.r<0∨(i:Int)<=n.r∨n.r.toNat∈s then Qp
     else
      match bX ts q plan f n.r.toNat s with
      |none=>Qp
      |some (r,s)=>(fA ts q n l r).map λv=>(v,s)
    else (fA ts q n l vz).map λv=>(v,s)
def inpN(plan:Qu ag)(i:Nat):Qu Nat:=
 let n:=E plan i nz
 if arity n.kind=0 then []
 else if arity n.kind=1 then (if 0<=n.l/\n.l<i then [n.l.toNat] else [])
 else (if 0<=n.l/\n.l<i/\0<=n.r/\n.r<i then [n.l.toNat,n.r.toNat] else [])
theorem qi(plan:Qu ag)(i:Nat):∀j∈inpN plan i,j<i:=by intro j a;unfold inpN at a;grind
def gI(plan:Qu ag)(i:Nat):Qu Nat:=bT (inpN plan) i
theorem jF(plan:Qu ag)(i:Nat):gI plan i=i::(inpN plan i).flatMap (gI plan):=kL (qi plan) i
theorem rA{k:Int}(h1:k≠1)(h2:arity k≠2):arity k=1:=by grind [arity]
theorem lJ{k:Int}(h1:k=1):arity k=0:=by grind [arity]
theorem oQ(ts:Qu af)(q:ae)(plan:Qu ag):∀(f i:Nat) (seen:Qu Nat) (v:bn) (p:Qu Nat),i ∉ seen->bX ts q plan f i seen=O (v,p)->
  fJ ts q plan f i=O v/\p = seen++gI plan i/\(gI plan i).Nodup/\∀x∈gI plan i,x ∉ seen:=by
 intro f
 induction f with
 |zero=>grind [bX]
 |succ f ih =>
  intro i seen v p hi h;unfold bX at h;unfold fJ;simp only at h ⊢;rw[jF];unfold inpN;simp only;generalize E plan i nz=n at h ⊢;by_cases S:bI n=F∨n.kind<1∨10<n.kind
  .simp_all
  rw[Zf S]at h ⊢;by_cases d:n.kind=1
  .rw[Q8 d]at h ⊢;rw[Q8 (lJ d)]
   simp_all
  rw[Zf d]at h ⊢;by_cases u:n.l<0∨(i:Int)<=n.l∨n.l.toNat∈seen++[i]
  .grind
  have g:¬(n.l<0∨(i:Int)<=n.l):=λe=>u X;have j:n.l.toNat ∉ seen++[i]:=λe=>u (.inr (.inr e));rw[Zf u]at h;rw[Zf g]
  cases hl:bX ts q plan f n.l.toNat (seen++[i]) with
  |none=>simp_all
  |some x =>
   obtain⟨l,s⟩:=x;obtain⟨K,B,L,W⟩:=ih _ _ _ _ j hl;rw[hl]at h;rw[K];simp only at h ⊢;by_cases z:arity n.kind=2
   .rw[Q8 z]at h ⊢;rw[Zf (show ¬arity n.kind=0 by omega),Zf (show ¬arity n.kind=1 by omega)];by_cases A:n.r<0∨(i:Int)<=n.r∨n.r.toNat∈s
    .grind
    have k:¬(n.r<0∨(i:Int)<=n.r):=λe=>A X;have m:n.r.toNat ∉ s:=λe=>A (.inr (.inr e));rw[Zf A]at h;rw[Zf k,Q8 X]
    cases hr:bX ts q plan f n.r.toNat s with
    |none=>grind
    |some y =>
     obtain⟨r,t⟩:=y;obtain⟨P,C,Q,R⟩:=ih _ _ _ _ m hr;rw[hr]at h;rw[P];simp only at h ⊢
     cases hv:fA ts q n l r with
     |none=>grind
     |some v0 =>
      rw[hv]at h;simp only[Option.map_some]at h;injection h with h;injection h with h1 h2;subst h1 h2;rw[B]at C R;refine⟨rfl,?_,?_,?_⟩
      .rw[C];simp
      .simp only[Zl,List.flatMap_nil,Zr];rw[List.nodup_cons,List.nodup_append];refine⟨λe=>?_,L,Q,λa ha b hb e=>?_⟩
       .grind
       grind
      .intro x D hs;simp only[Zl,List.flatMap_nil,Zr]at D;rcases List.mem_cons.1 D with e|e
       .grind
       .rcases List.mem_append.1 e with e|e
        .grind
        grind
   .rw[Zf z]at h ⊢;have G:=rA d z;rw[Zf (show ¬arity n.kind=0 by omega),Q8 G,Q8 X]
    cases hv:fA ts q n l vz with
    |none=>simp_all
    |some v0 =>
     rw[hv]at h;simp only[Option.map_some]at h;injection h with h;injection h with h1 h2;subst h1 h2;refine⟨rfl,?_,?_,?_⟩
     .rw[B];simp
     .grind
     simp_all
theorem nY(ts:Qu af)(q:ae)(plan:Qu ag):∀(f i:Nat) (seen:Qu Nat) (v:bn),fJ ts q plan f i=O v->(gI plan i).Nodup->(∀x∈gI plan i,x ∉ seen)->
  bX ts q plan f i seen=O (v,seen++gI plan i):=by
 intro f
 induction f with
 |zero=>grind [fJ]
 |succ f ih =>
  intro i seen v h a b;rw[jF]at a b ⊢;unfold fJ at h;unfold bX;unfold inpN at a b ⊢;simp only at h a b ⊢;generalize E plan i nz=n at h a b ⊢;by_cases C:bI n=F∨n.kind<1∨10<n.kind
  .simp_all
  rw[Zf C]at h ⊢;by_cases d:n.kind=1
  .rw[Q8 d]at h ⊢;rw[Q8 (lJ d)]
   grind
  rw[Zf d]at h ⊢;by_cases D:n.l<0∨(i:Int)<=n.l
  .simp_all
  rw[Zf D]at h
  cases hl:fJ ts q plan f n.l.toNat with
  |none=>simp_all
  |some l =>
   rw[hl]at h;simp only at h;by_cases g:arity n.kind=2
   .rw[Q8 g]at h;by_cases G:n.r<0∨(i:Int)<=n.r
    .simp_all
    rw[Zf G]at h;rw[Zf (show ¬arity n.kind=0 by omega),Zf (show ¬arity n.kind=1 by omega),Q8 (show 0<=n.l/\n.l<(i:Int)/\0<=n.r/\n.r<(i:Int) by omega)]at a b ⊢;simp only[Zl,List.flatMap_nil,Zr]at a b ⊢;rw[List.nodup_cons,List.nodup_append]at a;obtain⟨A,p,K,L⟩:=a;have t:n.l.toNat∈gI plan n.l.toNat:=by rw[jF];simp
    have u:n.r.toNat∈gI plan n.r.toNat:=by rw[jF];simp
    have j:∀x∈gI plan n.l.toNat,x ∉ seen++[i]:=λx B e=>by simp_all
    have y:∀x∈gI plan n.r.toNat,x ∉ seen++[i]++gI plan n.l.toNat:=λx B e=>by grind
    have k:¬(n.l<0∨(i:Int)<=n.l∨n.l.toNat∈seen++[i]):=by simp_all
    have m:¬(n.r<0∨(i:Int)<=n.r∨n.r.toNat∈seen++[i]++gI plan n.l.toNat):=by simp_all
    rw[Zf k,ih _ _ _ hl p j];simp only;rw[Q8 g,Zf m]
    cases hr:fJ ts q plan f n.r.toNat with
    |none=>simp_all
    |some r =>
     simp_all
   .rw[Zf g]at h;have z:=rA d g;rw[Zf (show ¬arity n.kind=0 by omega),Q8 z,Q8 (show 0<=n.l/\n.l<(i:Int) by omega)]at a b ⊢;simp only[Zl,List.flatMap_nil,Zr]at a b ⊢;rw[List.nodup_cons]at a;obtain⟨A,p⟩:=a;have t:n.l.toNat∈gI plan n.l.toNat:=by rw[jF];simp
    grind
theorem F6(ts:Qu af)(q:ae)(plan:Qu ag)(f last:Nat)(v:bn)(s:Qu Nat):(bX ts q plan f last []=O (v,s)/\N s=last+1)↔
  (fJ ts q plan f last=O v/\s=gI plan last/\∀k,k<last->aX (last+1) (λi=>(inpN plan i).count k)=1):=by
 have key:=F5 (qi plan) last;constructor
 .rintro⟨h,j⟩;obtain⟨a,d,b,_⟩:=oQ ts q plan f last [] v s Qb h
  grind [gI]
 .rintro⟨a,d,b⟩;obtain⟨e,l⟩:=key.1 b;have g:=nY ts q plan f last [] v a e Qb
  grind [gI]
def lK(l:KJ)(a:Int)(m:KJ):ak l (a::m)=ak (if a∈l then l else l++[a]) m:=rfl
theorem rC{x:Int}:∀{m l:KJ},x∈ak l m↔x∈l∨x∈m
 |[],l=>by grind [ak]
 |a::m,l=>by rw[lK,rC];grind
theorem dQ:∀{m l:KJ},l.Nodup->(ak l m).Nodup
 |[],l,h=>h
 |a::m,l,h=>by rw[lK];apply dQ;grind
theorem eZ:∀{m l:KJ},N (ak l m)<=N l+N m
 |[],l=>by grind [ak]
 |a::m,l=>by rw[lK];refine ZB eZ ?_;grind
theorem xM:∀{m l:KJ},m.Nodup->(N (ak l m)=N l+(N m)↔∀x∈m,x ∉ l)
 |[],l,_=>by grind [ak]
 |a::m,l,h=>by
  rw[List.nodup_cons]at h;rw[lK];by_cases ha:a∈l
  .grind [eZ]
  .rw[Zf ha];have h1:=xM (m:=m) (l:=l++[a]) h.2
   grind
def aQ(n:Nat)(l:KJ):Prop:=∀x∈l,0<=x/\x<(n:Int)
def aQ.with{n:Nat}{l m:KJ}(hl:aQ n l)(hm:aQ n m):aQ n (ak l m):=λx a=>by
 rcases rC.1 a with h|h
 .exact hl x h
 .exact hm x h
theorem aQ.lt(hn:n<=64)(h:aQ n l):aL l<18446744073709551616:=by have a:=yT (n:=n) h;have b:2 ^ n<=2 ^ 64:=ZO X hn;omega
theorem Cq(l:KJ):∀m:Nat,l.foldl (λm n=>m|||2 ^ n.toNat) m=m|||aL l:=by
 unfold aL
 induction l with
 |nil=>intro m;simp
 |cons a l ih=>grind
theorem sO(a b:KJ):aL (a++b)=aL a|||aL b:=by grind [aL,Cq]
theorem nK{m:KJ}(hl:aQ n l)(hm:aQ n m):aL (ak l m)=aL l|||aL m:=by apply Nat.eq_of_testBit_eq;intro i;rw[Nat.testBit_or,ZN (λx hx=>(hl.with hm x hx).1),ZN (λx hx=>(hl x hx).1),ZN (λx hx=>(hm x hx).1),ZX];grind [rC]
theorem sP(hn:n<=64)(hs:aQ n s)(hl:aQ n l):(aL l &&& (18446744073709551615-aL s)=0)↔∀x∈l,x∈s:=by
 rw[Cn (hs.lt hn) (hl.lt hn)];constructor
 .intro h x a;have e:=(hl x a).1;have b:=h x.toNat (by rw[ZN (λx a=>(hl x a).1),Zd];grind);rw[ZN (λx a=>(hs x a).1),Zd,Int.toNat_of_nonneg e]at b;exact b
 .intro h i d;rw[ZN (λx a=>(hl x a).1),Zd]at d;rw[ZN (λx a=>(hs x a).1),Zd];exact h _ d
theorem Cr(hs:aQ n s)(hl:aQ n l):(aL s &&& aL l≠0)↔∃x,x∈s/\x∈l:=by
 rw[FZ];constructor
 .rintro⟨i,b,d⟩;rw[ZN (λx a=>(hs x a).1),Zd]at b;rw[ZN (λx a=>(hl x a).1),Zd]at d
  grind
 .rintro⟨x,b,d⟩;have e:=(hs x b).1;refine⟨x.toNat,?_,?_⟩
  .rw[ZN (λx a=>(hs x a).1),Zd,Int.toNat_of_nonneg e];exact b
  .rw[ZN (λx a=>(hl x a).1),Zd,Int.toNat_of_nonneg e];exact d
theorem xN(hs:aQ n s)(hd:s.Nodup):aL s=2 ^ n-1↔(N s)=n:=by
 have g:∀k:Nat,k∈s.map Int.toNat↔(k:Int)∈s:=λk=>by
  rw[List.mem_map];constructor
  .rintro⟨x,f,rfl⟩;rw[Int.toNat_of_nonneg (hs x f).1];exact f
  grind
 have j:(s.map Int.toNat).Nodup:=by show List.Pairwise _ _;rw[List.pairwise_map];refine List.Pairwise.imp_of_mem ?_ hd;intro a b v y z e;have q:=(hs a v).1;have r:=(hs b y).1;omega
 have l:∀k∈s.map Int.toNat,k<n:=λk p=>by have:=(hs _ ((g k).1 p)).2;omega
 have d:=gX l;rw[ZR]at d;have t:=List.nodup_iff_count.1 j;constructor
 .intro h;rw[<-d];have e:∀k,k<n->(s.map Int.toNat).count k=1:=λk p=>by
   have q:(k:Int)∈s:=by have r:=ZN (λx f=>(hs x f).1) k;simp_all
   grind
  have u:∀m,m<=n->aX m (λk=>(s.map Int.toNat).count k)=m:=by
   intro m
   induction m with
   |zero=>intro _;rfl
   |succ m ih=>grind [dP]
  simp_all
 .intro h;have e:=mH (n:=n) (λk _=>t k) (by rw[d,h]);apply Nat.eq_of_testBit_eq;intro i;rw[ZN (λx f=>(hs x f).1),F3,ZX,Zd,Zd];constructor
  .simp_all
  grind
def aW(s:Nat):Qu Nat:=(List.range 64).filter λi=>s.testBit i
theorem Ac(hn:n<=64)(h:aQ n l)(i:Nat):i∈aW (aL l)↔(i:Int)∈l:=by
 unfold aW;rw[List.mem_filter,ZY,ZN (λx a=>(h x a).1),Zd];constructor
 .simp_all
 .intro e;have:=(h _ e).2
  grind
def wY(s:Nat):(aW s).Nodup:=List.Pairwise.filter _ List.nodup_range
theorem xO(hs:aQ n s)(hd:s.Nodup):(s.map Int.toNat).Nodup:=by show List.Pairwise _ _;rw[List.pairwise_map];refine List.Pairwise.imp_of_mem ?_ hd;intro a b d f g e;have i:=(hs a d).1;have j:=(hs b f).1;omega
theorem Ed(hs:aQ n s)(k:Nat):k∈s.map Int.toNat↔(k:Int)∈s:=by
 rw[List.mem_map];constructor
 .rintro⟨x,a,rfl⟩;rw[Int.toNat_of_nonneg (hs x a).1];exact a
 grind
theorem Ad(hn:n<=64)(hs:aQ n s)(hd:s.Nodup):(s.map Int.toNat).Perm (aW (aL s)):=
 (List.perm_ext_iff_of_nodup (xO hs hd) (wY _)).2 λk=>by grind [Ed,Ac]
theorem F7{a b:Qu Nat}(h:a.Perm b):∀m,a.foldl (· * ·) m=b.foldl (· * ·) m:=by
 induction h with
 |nil=>intro m;rfl
 |cons x _ ih=>simp_all
 |swap x y l=>grind
 |trans _ _ h1 h2=>simp_all
def kM:∀(l:Qu Nat),l.foldl az 0=0
 |[]=>rfl
 |a::l=>by rw[ZM,sK,kM l]
theorem jg:∀(l:Qu Nat) (m:Nat),0∈l->l.foldl az m=0
 |[],_,h=>by cases h
 |a::l,m,h=>by
  rw[ZM];rcases List.mem_cons.1 h with h|h
  .rw[<-h];have e:az m 0=0:=Qh
   rw[e,kM]
  .exact jg l _ h
theorem l7:∀(l:Qu Nat) (m:Nat),1<=m->(∀x∈l,1<=x)->1<=l.foldl az m
 |[],m,h,_=>h
 |a::l,m,h,hl=>by rw[ZM];refine l7 l _ ?_ (λx hx=>hl x (by simp[hx]));have h1:=Nat.mul_le_mul h (hl a Qb);grind [az,aH]
theorem Ae{a b:Qu Nat}(h:a.Perm b):a.foldl az 1=b.foldl az 1:=by grind [jg,aH,zZ,F7]
theorem qj(hnm:n<=m)(p:Nat->Bool)(h:∀i,n<=i->p i=F):(List.range m).filter p=(List.range n).filter p:=by
 induction m with
 |zero =>
  simp_all
 |succ m ih =>
  grind [List.range_succ]
def Cs(hn:n<=64)(h:aQ n l)(g:Nat->Nat)(m:Nat) :
  (aW (aL l)).foldl (λx c=>x / g c) m=(List.range n).foldl (λ(x c:Nat)=>if (c:Int)∈l then x / g c else x) m:=by unfold aW;rw[qj hn _ (λi b=>by rw[ZN (λx a=>(h x a).1),Ze];intro e;have:=(h _ e).2;omega),List.foldl_filter];congr 1;funext x c;rw[ZN (λx a=>(h x a).1)];simp_all
structure bZ where
 kind:Int
 sources:Nat
 clauses:Nat
 order:KJ
 size:Nat
 cost:Nat
def aZ(a b:Nat):Bool:=decide (b &&& (18446744073709551615-a)=0)
def cu(ts:Qu af)(src:KJ)(cs:Qu aF):KJ:=(av cs).map λc=>(aj ts src c:Int)
def dU(ts:Qu af)(q:ae)(l:KJ)(s:Nat):Bool:=
 (List.range (N l)).all λi=>decide ((if i=0 then -1 else E l (i-1) 0)<E l i 0)&&decide (E l i 0<N q.wh)&&aZ s (aL (cu ts q.src.xs (E q.wh (E l i 0).toNat lz).cs))
def nZ(hc:bQ ts=T)(ha:aP src (N ts)=T)(h:∀c∈av cs,0<=c/\c<ax ts src):aQ (N src) (cu ts src cs):=λx e=>by obtain⟨c,a,rfl⟩:=List.mem_map.1 e;obtain⟨b,d⟩:=h c a;have:=(ZU hc ha b d).1;omega
theorem og(hc:bQ ts=T)(ha:aP src (N ts)=T)(hn:N src<=64)(h:∀c∈av cs,0<=c/\c<ax ts src)(hs:aQ (N src) s) :
  aZ (aL s) (aL (cu ts src cs))=fV ts src cs s:=by unfold aZ fV;rw[ZX,Zd,Q4,sP hn hs (nZ hc ha h)];grind [cu]
def nL(ts:Qu af)(q:ae):Prop:=∀i,i<N q.wh->∀c∈av (E q.wh i lz).cs,0<=c/\c<ax ts q.src.xs
theorem ql(hc:bQ ts=T)(ha:aP q.src.xs (N ts)=T)(hn:N q.src.xs<=64)(hk:nL ts q)(hs:aQ (N q.src.xs) s)(l:KJ) :
  dU ts q l (aL s)=dh ts q l s:=by
 unfold dU dh;rw[ZX,Q4,Q4];constructor
 .intro h;have a:∀i,i<N l->0<=E l i 0:=by
   intro i
   induction i with
   |zero =>
    grind
   |succ i ih =>
    grind
  intro i d;have e:=ZY.1 d;have b:=h i d;have j:=a i e;simp only[Q3,Zd]at b;obtain⟨⟨k,g⟩,f⟩:=b;rw[og hc ha hn (hk _ X) hs]at f;grind
 .intro h i d;have b:=h i d;simp only[Q3,Bool.or_eq_true,Zd]at b;obtain⟨⟨⟨j,g⟩,k⟩,f⟩:=b;simp only[Q3,Zd];rw[og hc ha hn (hk _ X) hs];refine⟨⟨?_,g⟩,f⟩;omega
theorem mI(k:Nat):aL [(k:Int)]=2 ^ k:=by grind [aL]
def iH(hn:n<=64)(hs:aQ n s)(hk:k<n):aZ (aL s) (2 ^ k)=decide ((k:Int)∈s):=by unfold aZ;rw[<-mI,ZX,Zd,Zd,sP hn hs (λx a=>Qg)];simp_all
def uP(ts:Qu af)(src:KJ)(cs:Qu aF)(a b:Nat):Int × Int × Bool:=
 if N cs > 1∨(E cs 0 cz).op≠0∨(E cs 0 cz).not=T∨(E cs 0 cz).const=T then (0,0,F)
 else if (aZ a (2 ^ aj ts src (E cs 0 cz).left)&&aZ b (2 ^ aj ts src (E cs 0 cz).right))=T then ((E cs 0 cz).left,(E cs 0 cz).right,T)
 else if (aZ a (2 ^ aj ts src (E cs 0 cz).right)&&aZ b (2 ^ aj ts src (E cs 0 cz).left))=T then ((E cs 0 cz).right,(E cs 0 cz).left,T)
 else (0,0,F)
theorem Ct(hc:bQ ts=T)(ha:aP src (N ts)=T)(hn:N src<=64)(h0:0<N cs)(h:∀c∈av cs,0<=c/\c<ax ts src){a b:KJ}
  (hsa:aQ (N src) a) (hsb:aQ (N src) b) :
  (uP ts src cs (aL a) (aL b)).2.2=(dH ts src cs a b).2.2/\((dH ts src cs a b).2.2=T->uP ts src cs (aL a) (aL b)=dH ts src cs a b):=by
 unfold uP dH;by_cases l:N cs≠1∨(E cs 0 cz).not=T∨(E cs 0 cz).const=T∨(E cs 0 cz).op≠0
 .grind
 .have d:¬(N cs > 1∨(E cs 0 cz).op≠0∨(E cs 0 cz).not=T∨(E cs 0 cz).const=T):=by simp_all
  rw[Zf l,Zf d];have e:(E cs 0 cz).left∈av cs/\(E cs 0 cz).right∈av cs:=by
   have f:E cs 0 cz∈cs:=by simp_all
   have m:(E cs 0 cz).op≠2/\(E cs 0 cz).const=false:=by simp_all
   unfold av;refine⟨Zt.2 ⟨_,f,?_⟩,Zt.2 ⟨_,f,?_⟩⟩
   .unfold au;simp_all
   .unfold au;simp_all
  have g:=h _ e.1;have i:=h _ e.2;have j:=(ZU hc ha g.1 g.2).1;have k:=(ZU hc ha i.1 i.2).1;generalize E cs 0 cz=c at*;rw[iH hn hsa j,iH hn hsb k,iH hn hsa k,iH hn hsb j];grind
theorem rD{f:Nat->Nat}(h:∀k,f k<=1):∀n,aX n f<=n
 |0=>Q6 _
 |n+1=>by rw[ZW];have:=rD h n;grind
theorem rE(hs:aQ n s)(hd:s.Nodup):N s<=n:=by
 have a:∀k∈s.map Int.toNat,k<n:=λk d=>by have:=(hs _ ((Ed hs k).1 d)).2;omega
 have b:=gX a;grind [xO,rD]
theorem Af(h:bG xs=T):xs.Nodup:=by unfold bG at h;grind [List.pairwise_iff_getElem]
def oh(ts:Qu af)(src aO:KJ)(s:Nat):Bool:=
 decide (0<N aO)&&decide ((N aO:Int)<=ax ts src) &&
  (List.range (N aO)).all λi=>decide (0<=E aO i 0)&&decide (E aO i 0<ax ts src) && !decide (E aO i 0∈aO.take i)&&aZ s (2 ^ aj ts src (E aO i 0))
theorem qw(hi:i<N xs){x:Int}:x∈xs.take i↔∃j,j<i/\E xs j 0=x:=by
 rw[List.mem_take_iff_getElem];constructor
 .rintro⟨j,a,e⟩;refine⟨j,X,?_⟩
  grind
 grind
theorem F8(hc:bQ ts=T)(ha:aP src (N ts)=T)(hn:N src<=64)(hs:aQ (N src) s){aO:KJ}(h0:0<N aO) :
  oh ts src aO (aL s)=(aP aO (ax ts src)&&bG aO&&aO.all λc=>decide ((aj ts src c:Int)∈s)):=by
 unfold oh;rw[ZX,Zg h0,Zi,Q3,Zd,Q4,Q3,Q3,Q4];have t:∀c∈aO,∃i,i<N aO/\E aO i 0=c:=λc k=>by obtain⟨i,a,e⟩:=Q9 k;exact⟨i,a,Qg⟩
 have m:∀i,i<N aO->E aO i 0∈aO:=λi a=>by simp_all
 constructor
 .rintro⟨_,h⟩;have y:∀i,i<N aO->0<=E aO i 0/\E aO i 0<ax ts src/\E aO i 0 ∉ aO.take i/\(aj ts src (E aO i 0):Int)∈s:=λi a=>by have g:=h i (ZY.2 a);simp only[Q3,Bool.not_eq_true',Zd,Ze]at g;obtain⟨⟨⟨l,q⟩,z⟩,v⟩:=g;rw[iH hn hs (ZU hc ha l q).1,Zd]at v;simp_all
  refine⟨⟨?_,?_⟩,?_⟩
  .grind [aP]
  .grind [bG,qw]
  grind
 .rintro⟨⟨g,l⟩,q⟩;have n:=Af l;have b:aQ (ax ts src).toNat aO:=λx p=>by unfold aP at g;grind
  have r:=rE b n;have u:=ed hc ha (N src) (Q6 _);rw[ZV]at u;refine⟨X,λi a=>?_⟩;have d:=ZY.1 a;have k:=m i d;have p:=b _ k;have f:E aO i 0<ax ts src:=X;simp only[Q3,Bool.not_eq_true',Zd,Ze];rw[iH hn hs (ZU hc ha p.1 f).1];refine⟨⟨⟨p.1,f⟩,?_⟩,q _ k⟩;intro e;obtain⟨j,A,B⟩:=(qw d).1 e;unfold bG at l;grind
def fK(ts:Qu af)(q:ae)(sources clauses:Nat):Nat:=
 if ((aW sources).map λ(k:Nat)=>dF ts q.src.xs (k:Int)).foldl az 1=0 then 0
 else max ((aW clauses).foldl (λx c=>x / bH ts q.src.xs (E q.wh c lz).cs) (((aW sources).map λ(k:Nat)=>dF ts q.src.xs (k:Int)).foldl az 1)) 1
theorem xP(ts:Qu af)(q:ae)(hw:N q.wh<=64)(hn:n<=64){c:KJ}(hs:aQ n s)(hd:s.Nodup)(hc:aQ (N q.wh) c):fK ts q (aL s) (aL c)=dJ ts q s c:=by
 have d:(s.map (dF ts q.src.xs))=(s.map Int.toNat).map λ(k:Nat)=>dF ts q.src.xs (k:Int):=by rw[List.map_map];rfl
 have e:((aW (aL s)).map λ(k:Nat)=>dF ts q.src.xs (k:Int)).foldl az 1=(s.map (dF ts q.src.xs)).foldl az 1:=by rw[d];exact(Ae ((Ad hn hs hd).map _)).symm
 unfold fK dJ;rw[e];by_cases a:(s.any λx=>decide (dF ts q.src.xs x=0))=T
 .rw[Q8 a];obtain⟨x,g,i⟩:=List.any_eq_true.1 a;rw[Q8 (jg _ 1 (List.mem_map.2 ⟨x,g,ZZ i⟩))]
 .rw[Zf a];have f:∀y∈s.map (dF ts q.src.xs),1<=y:=λy j=>by grind
  have b:=l7 _ 1 (Q6 _) f;rw[Zf X];unfold JH;rw[Cs hw hc]
def mJ(kind:Int)(l r s:Nat):Nat:=if kind=4 then eF [l,r,r,s] else if kind=5 then eF [l,r,s] else az l r
def iE(kind:Int)(s lc ls rc rs:Nat):Nat:=
 if kind=1 then eF [s,1]
 else if kind=3∨kind=4∨kind=5 then eF [lc,rc,mJ kind ls rs s]
 else if kind=6∨kind=10 then eF [lc,az ls (dm ls+1)]
 else if kind=7 then eF [lc,ls,ls]
 else eF [lc,ls]
theorem JI(a b:Nat):eF [a,b]=aN a b:=by grind [aN,qg]
theorem Ag(a b c:Nat):eF [a,b,c]=aN (aN a b) c:=by grind [aN,qg]
theorem TC(a b c d:Nat):eF [a,b,c,d]=aN (aN a b) (aN c d):=by grind [aN,qg]
theorem xQ(a:Nat):az 2 a=aN a a:=by grind [az,aN]
def xR(kind:Int)(s:Nat)(l r:bn):iE kind s l.cost l.size r.cost r.size=jE kind s l r:=by
 unfold iE jE mJ;by_cases a:kind=1
 .rw[Q8 a,Q8 a,JI]
 rw[Zf a,Zf a];by_cases k3:kind=3
 .rw[Q8 (.inl k3),Q8 k3,Zf X,Zf X,Ag]
 rw[Zf k3];by_cases k4:kind=4
 .rw[Q8 (.inr (.inl k4)),Q8 k4,Q8 k4,Ag,TC,xQ];congr 1;rw[gF,gF,uL s (aN r.size r.size),gF]
 simp only[Zf k4];by_cases k5:kind=5
 .rw[Q8 (.inr (.inr k5))];simp only[Q8 k5];rw[Ag,Ag];congr 1;rw[gF,gF,uL s r.size]
 simp only[Zf k5];rw[Zf (show ¬(kind=3∨kind=4∨kind=5) by omega)];by_cases k6:kind=6∨kind=10
 .rw[Q8 k6,Q8 k6,JI]
 rw[Zf k6,Zf k6];by_cases k7:kind=7
 .rw[Q8 k7,Q8 k7,Ag,xQ,gF]
 rw[Zf k7,Zf k7,JI]
def di(k:Int):Bool:=decide (7<=k)&&decide (k<=10)
def pz:bZ:=⟨0,0,0,[],0,0⟩
def jh(ts:Qu af)(q:ae)(n:ag)(a b:Nat):Int × Int × Bool:=
 if n.key∈n.cl.xs/\0<=n.key/\n.key<N q.wh then uP ts q.src.xs (E q.wh n.key.toNat lz).cs a b else (0,0,F)
def fM(ts:Qu af)(q:ae)(n:ag)(a b:Nat):Bool:=decide (a &&& b=0)&&dU ts q n.cl.xs (a|||b)
def eG(q:ae)(l:bZ):Bool:=decide (l.sources=2 ^ (N q.src.xs)-1)&&decide (l.clauses=2 ^ (N q.wh)-1)
def oU(kind:Int)(l r:bZ):Bool:=(di l.kind==decide (kind=10)) && !di r.kind
def eB(ts:Qu af)(q:ae)(n:ag)(l r:bZ):Bool:=
 if n.kind=1 then decide (0<=n.source)&&decide (n.source<N q.src.xs)
 else if n.kind=2 then decide (0<N n.cl.xs)&&dU ts q n.cl.xs l.sources
 else if n.kind=3 then fM ts q n l.sources r.sources
 else if n.kind=4 then (jh ts q n l.sources r.sources).2.2&&fM ts q n l.sources r.sources
 else if n.kind=5 then (jh ts q n l.sources r.sources).2.2&&fM ts q n l.sources r.sources&&aM l.order [(jh ts q n l.sources r.sources).1]&&aM r.order [(jh ts q n l.sources r.sources).2.1]
 else if n.kind=6 then oh ts q.src.xs n.co.xs l.sources
 else if n.kind=7 then q.group&&eG q l
 else if n.kind=8 then q.group&&eG q l&&aM l.order q.keys.xs
 else if n.kind=9 then !q.group&&eG q l
 else decide (0<N q.ord.xs)
def mK(ts:Qu af)(q:ae)(n:ag)(l r:bZ):bZ:=
 let s:=(if n.kind=1 then 2 ^ n.source.toNat else 0)|||l.sources|||r.sources
 let c:=aL n.cl.xs|||l.clauses|||r.clauses
 let z:=if di n.kind=T then l.size else fK ts q s c
 ⟨n.kind,s,c,if n.kind=6 then n.co.xs else if 2<=n.kind/\n.kind<=5 then l.order else [],z,iE n.kind z l.cost l.size r.cost r.size⟩
structure PV(q:ae)(p:bZ)(v:bn):Prop where
 out:di p.kind=v.out
 sources:p.sources=aL v.sources
 dA:aQ (N q.src.xs) v.sources
 mM:v.sources.Nodup
 clauses:p.clauses=aL v.clauses
 ji:aQ (N q.wh) v.clauses
 rF:v.clauses.Nodup
 order:v.out=F->p.order=v.order
 size:p.size=v.size
 cost:p.cost=v.cost
def Ee(q:ae):PV q pz vz where
 out:=Qd
 sources:=rfl
 dA:=λx a=>by cases a
 mM:=Z0
 clauses:=rfl
 ji:=λx a=>by cases a
 rF:=Z0
 order:=λ_=>rfl
 size:=rfl
 cost:=rfl
def fC(ts:Qu af)(q:ae)(n:ag)(l r:bn):Bool:=
 !(r.out ||(l.out != decide (n.kind=10)))&&decide (N (ak l.sources r.sources)=N l.sources+N r.sources)&&dh ts q n.cl.xs (ak l.sources r.sources)&&qh ts q n l r
theorem fO(ts:Qu af)(q:ae)(n:ag)(l r:bn):fA ts q n l r=if fC ts q n l r=T then
  O ⟨ak l.sources r.sources,ak (ak l.clauses r.clauses) n.cl.xs,if n.kind=6 then n.co.xs else l.order,decide (7<=n.kind),dJ ts q (ak l.sources r.sources) (ak (ak l.clauses r.clauses) n.cl.xs),
   jE n.kind (dJ ts q (ak l.sources r.sources) (ak (ak l.clauses r.clauses) n.cl.xs)) l r⟩ else none:=by unfold fA fC;grind
structure Ok(ts:Qu af)(q:ae):Prop where
 cat:bQ ts=T
 src:aP q.src.xs (N ts)=T
 small:N q.src.xs<=64
 kE:N q.wh<=64
 aO:nL ts q
 some:∀i,i<N q.wh->0<(E q.wh i lz).cs.length
theorem Cu{a b:KJ}(ha:aQ n a)(hb:aQ n b)(hd:b.Nodup):decide (aL a &&& aL b=0)=decide (N (ak a b)=N a+N b):=by grind [xM,Cr]
def Cv{p:bZ}{v:bn}(h:PV q p v):eG q p=uO q v:=by
 unfold eG uO;rw[h.sources,h.clauses];congr 1
 .rw[ZX,Zd,Zd];exact xN h.dA h.mM
 .rw[ZX,Zd,Zd];exact xN h.ji h.rF
def ig(h:dh ts q l s=T):aQ (N q.wh) l:=λx b=>by obtain⟨i,a,e⟩:=Q9 b;unfold dh at h;rw[Q4]at h;have d:=h i (ZY.2 a);simp_all
def JJ(ok:Ok ts q){a b:KJ}(ha:aQ (N q.src.xs) a)(hb:aQ (N q.src.xs) b)(l:KJ):dU ts q l (aL a|||aL b)=dh ts q l (ak a b):=by rw[<-nK ha hb];exact ql ok.cat ok.src ok.small ok.aO (ha.with hb) l
def JK(ok:Ok ts q)(n:ag){a b:KJ}(ha:aQ (N q.src.xs) a)(hb:aQ (N q.src.xs) b)(hl:dh ts q n.cl.xs (ak a b)=T) :
  (jh ts q n (aL a) (aL b)).2.2=(decide (n.key∈n.cl.xs)&&(dH ts q.src.xs (E q.wh n.key.toNat lz).cs a b).2.2)/\
  ((jh ts q n (aL a) (aL b)).2.2=T->jh ts q n (aL a) (aL b)=dH ts q.src.xs (E q.wh n.key.toNat lz).cs a b):=by
 unfold jh;by_cases c:n.key∈n.cl.xs
 .have d:=ig hl _ c;rw[Q8 ⟨c,d.1,d.2⟩,Zg c,Zi];obtain⟨e,f⟩:=Ct ok.cat ok.src ok.small (cs:=(E q.wh n.key.toNat lz).cs) (ok.some _ X) (ok.aO _ X) ha hb
  simp_all
 simp_all
theorem xS(ok:Ok ts q){n:ag}(hp:bI n=T)(h2:2<=n.kind)(h10:n.kind<=10){l r:bZ}{vl vr:bn}(hl:PV q l vl)(hr:PV q r vr)
  (h1:arity n.kind≠2->r=pz/\vr=vz):(oU n.kind l r&&eB ts q n l r)=fC ts q n vl vr:=by
 unfold bI at hp;rw[Zd]at hp;obtain⟨_,_,_,_,u,g⟩:=hp;have k:oU n.kind l r = !(vr.out ||(vl.out != decide (n.kind=10))):=by unfold oU;rw[hl.out,hr.out];grind
 unfold fC;rw[k]
 cases hA:!(vr.out ||(vl.out != decide (n.kind=10))) with
 |false=>rfl
 |true =>
  rw[Zi,Zi];have b:vr.out=F/\vl.out=decide (n.kind=10):=by simp_all
  have d:arity n.kind≠2->n.cl.xs=[]->decide (N (ak vl.sources vr.sources)=N vl.sources+N vr.sources)=T/\dh ts q n.cl.xs (ak vl.sources vr.sources)=true:=by intro a B;rw[(h1 a).2,B];exact⟨Zg rfl,rfl⟩
  have m:¬(n.kind=2∨3<=n.kind/\n.kind<=5)->n.cl.xs=[]:=λe=>by grind
  have join:∀i:Bool,(fM ts q n l.sources r.sources&&i)=(decide (N (ak vl.sources vr.sources)=N vl.sources+N vr.sources)&&dh ts q n.cl.xs (ak vl.sources vr.sources)&&i):=λi=>by unfold fM;rw[hl.sources,hr.sources,Cu hl.dA hr.dA hr.mM,JJ ok hl.dA hr.dA]
  unfold eB qh;rw[Zf (show ¬n.kind=1 by omega)];by_cases k2:n.kind=2
  .have a:arity n.kind≠2:=by rw[k2];decide
   rw[Q8 k2,Q8 k2,(h1 a).2,hl.sources];have e:=ql ok.cat ok.src ok.small ok.aO hl.dA n.cl.xs;rw[e,show ak vl.sources vz.sources=vl.sources from rfl,show (N vz.sources)=0 from rfl,Z4,Zg rfl,Zi,Bool.and_comm]
  rw[Zf k2,Zf k2];by_cases k3:n.kind=3
  .simp_all
  rw[Zf k3];by_cases j:n.kind=4∨n.kind=5
  .rw[Q8 j,<-join];by_cases C:dh ts q n.cl.xs (ak vl.sources vr.sources)=T
   .obtain⟨v,y⟩:=JK ok n hl.dA hr.dA C;rw[<-hl.sources,<-hr.sources]at v y;have f:vl.out=false:=Qc
    rw[hl.order f,hr.order b.1];grind
   .have p:dh ts q n.cl.xs (ak vl.sources vr.sources)=false:=Qg
    have D:fM ts q n l.sources r.sources=false:=by simp_all
    grind
  rw[Zf j,Zf (show ¬n.kind=4 by omega),Zf (show ¬n.kind=5 by omega)];have a:arity n.kind≠2:=by unfold arity;grind
  obtain⟨z,A⟩:=d a (m X);rw[z,A,Zi,Zi];by_cases k6:n.kind=6
  .rw[Q8 k6,Q8 k6,hl.sources];have t:=Nat.pos_of_ne_zero (g.1 k6);exact F8 ok.cat ok.src ok.small hl.dA t
  rw[Zf k6,Zf k6];rw[Cv hl];by_cases k7:n.kind=7
  .simp_all
  rw[Zf k7,Zf k7];by_cases k8:n.kind=8
  .rw[Q8 k8,Q8 k8];have f:vl.out=false:=Qg
   rw[hl.order f]
  grind
def dG(h:a=b):Ending.returned (I Qn (a:Int))=.returned (I Qn (b:Int)):=by rw[h]
def lN(h:n<=aH):IntKind.u64.wrap (n:Int)=n:=by unfold aH at h;rw[IntKind.wrap_u64];omega
def Ak:∀(k v:Nat),v<2 ^ k->dm v<=k
 |0,v,h=>by
  have:v=0:=by simpa using h
  rw[this,iG];exact Q6 _
 |k+1,v,h=>by
  by_cases h0:0<v
  .rw[kK h0];have:=Ak k (v / 2) (by rw[Nat.pow_succ]at h;omega);omega
  .have:v=0:=X
   rw[this,iG];omega
def Al(h:v<=18446744073709551615):dm v<=64:=Ak 64 v X
def JS(a b:Nat)(ha:a<=aH)(hb:b<=aH)(w:World):Ce 58 #[I Qn a,I Qn b] w (I Qn (aN a b:Nat)):=by
 have d:Hid (aN a b=if a > aH-b then aH else a+b):=JF hb;unfold aH at ha hb;by_cases h:a > 18446744073709551615-b
 .go_enter func58,ntmps58;go_wp2;go_ret;refine⟨dG (a:=18446744073709551615) ?_,rfl⟩;rw[d.o,Q8 (by unfold aH;omega)];rfl
 .go_enter func58,ntmps58;go_wp2;go_ret;refine⟨?_,rfl⟩;rw[d.o,Zf (by unfold aH;omega)];rfl
def yn(a b:Nat)(ha:a<=aH)(hb:b<=aH)(w:World):Ce 55 #[I Qn a,I Qn b] w (I Qn (az a b:Nat)):=by
 by_cases g:a=0
 .subst g;rw[sK];go_enter func55,ntmps55;go_wp2;go_ret;exact⟨rfl,rfl⟩
 have f:Hid (az a b=if b > aH / a then aH else a*b):=F4 g;unfold aH at ha hb;have j:=Nat.pos_of_ne_zero g;have hd:18446744073709551615 / a<=18446744073709551615:=Nat.div_le_self _ _;have k:((18446744073709551615:Int)).tdiv (a:Int)=((18446744073709551615 / a:Nat):Int):=by rw[Int.tdiv_eq_ediv_of_nonneg X,Int.natCast_ediv];rfl
 by_cases h:b > 18446744073709551615 / a
 .have e:Hid (az a b=aH):=by show az a b=aH;rw[f.o,Q8 (by unfold aH;exact h)]
  clear f;generalize 18446744073709551615 / a=d at*;go_enter func55,ntmps55;go_wp2;go_ret;refine⟨dG (a:=18446744073709551615) ?_,rfl⟩;rw[e.o];rfl
 .have e:Hid (az a b=a*b):=by show az a b=a*b;rw[f.o,Zf (by unfold aH;exact h)]
  have i:a*b<=18446744073709551615:=by have:=eU a b;rw[e.o]at this;exact this
  have l:IntKind.u64.wrap ((a:Int)*(b:Int))=((a*b:Nat):Int):=by have:=lN (n:=a*b) i;rw[Int.natCast_mul]at this;rw[this,Int.natCast_mul]
  clear f i;generalize 18446744073709551615 / a=d at*;go_enter func55,ntmps55;go_wp2;go_ret;refine⟨?_,rfl⟩;rw[e.o,Int.natCast_mul];rfl
def JU(a:Nat)(ha:a<=aH)(w:World):Ce 59 #[I Qn a] w (I Qn (dm a:Nat)):=by
 unfold aH at ha;have f:=Zh (Al ha);go_enter func59,ntmps59;go_wp2;go_loop [0,3] (λv n=>∃x k:Nat,v=I Qn x/\n=I Qn k/\x<=18446744073709551615/\k+dm x=dm a) (λv _=>(intOf v).toNat)
 case atStart=>exact⟨a,0,rfl,rfl,ha,ZQ _⟩
 case round=>
  obtain⟨x,k,rfl,rfl,p,b⟩:=hrel;have g:=f.o;have l:=Zh b;by_cases i:0<x
  .have m:((x:Int)).tdiv 2=((x / 2:Nat):Int):=by rw[Int.tdiv_eq_ediv_of_nonneg X,Int.natCast_ediv];rfl
   have hd:x / 2<=18446744073709551615:=X;have j:x / 2<x:=X;have d:k+1<=64:=by rw[kK i]at b;omega
   have e:=Zh (by rw[kK i]at b;omega:k+1+dm (x / 2)=dm a)
   clear b g;generalize x / 2=y at*;go_wp2;go_round
   case rel=>exact⟨y,k+1,rfl,rfl,hd,e.o⟩
   case measure=>exact Qw
  .obtain rfl:x=0:=X
   rw[iG,Z4]at b;clear g;have d:k<=64:=Qj f.o;have e:=Zh b;clear b;go_wp2;go_ret;exact⟨dG e.o,rfl⟩
