import Derived.Test.YtpcfbajdeipgbaaGreatDoorX00
set_option linter.all false
set_option maxRecDepth 100000
set_option maxHeartbeats 0
namespace Go.Proofs.Zz
open Go.RowKit Go.Shelf
open List renaming length->N,getD->E
open Go.Value renaming slice->Z,int->I,pointer->Y
open Go.Proofs.Tryz renaming prog->V
open Option renaming some->O,none->E5
open Go.IntKind renaming i64->J
open Bool renaming false->F,true->T
open Go renaming World->U,Value->KX
open Go.World renaming heap->H,setCell->qw,cell?->Am
open _root_.Array renaming size->M
open Go.Obj renaming cells->FL
open Go.Ending renaming returned->FR
variable {W w w2:U} {G b fuel i k n n0 tG:Nat} {c:Array KX} {bs:List (Nat × Obj)} {l src xs:List Int} {a:Act} {ts:List ag} {cs:List aF} {x:ae} {pre:List ae} {rows:List (List Int)} {Ez:El ae (List Int)} {e:TypeId} {o1:Nat->Prop} {v:KX} {C P Q p:Prop} {ops:Array Oper} {K K':Act->U->Prop} {S:U->Prop} {md:Region.Mode} {listed:Array Bool} {oi:Oper}
structure Ka(w w2:U)(G tG:Nat)(c:Array KX)(bs:List (Nat × Obj)):Prop where
 qE:Bw w w2
 lo:M (H w)<=G
 g:GB w2 G tG c
 bs:∀p,p∈bs->p.1≠G/\M (H w)<=p.1/\w2.heap[p.1]? = O p.2
def Ka.store(h:Ka w w2 G tG c bs)(i:Nat)(v:KX):Ka w (qw w2 (aD G i) v) G tG (c.setIfInBounds i v) bs:=
 ⟨h.qE.setCell (p:=(aD G i)) h.lo v,h.lo,h.g.set i v,λp a=>⟨(h.bs p a).1,(h.bs p a).2.1,(QR (h.bs p a).1).trans (h.bs p a).2.2⟩⟩
def Ka.alloc{w w2:U}{G tG:Nat}{c:Array KX}{bs:List (Nat × Obj)}(h:Ka w w2 G tG c bs)(o:Obj):Ka w (w2.alloc o) G tG c ((M (H w2),o)::bs):=by
 have d:=h.g.lt;refine⟨h.qE.alloc h.qE.size o,h.lo,h.g.of (QS d),λp b=>?_⟩;rcases QP.1 b with rfl|b
 .exact⟨by omega,h.qE.size,iX w2 o⟩
 .have a:=h.bs p b;exact⟨a.1,a.2.1,(QS (ZH.1 a.2.2).1).trans a.2.2⟩
def Ka.move{w3:U}{c':Array KX}(h:Ka w w2 G tG c bs)(hb:Bw w w3)(ho:∀j,j<M (H w2)->j≠G->w3.heap[j]? = w2.heap[j]?)(hg:GB w3 G tG c'):Ka w w3 G tG c' bs:=
 ⟨hb,h.lo,hg,λp a=>⟨(h.bs p a).1,(h.bs p a).2.1,(ho p.1 (ZH.1 (h.bs p a).2.2).1 (h.bs p a).1).trans (h.bs p a).2.2⟩⟩
def Ka.drop{bs':List (Nat × Obj)}(h:Ka w w2 G tG c bs)(hs:∀p,p∈bs'->p∈bs):Ka w w2 G tG c bs':=⟨h.qE,h.lo,h.g,λp a=>h.bs p (hs p a)⟩
theorem Ka.at(h:Ka w w2 G tG c bs){t:Nat}{d:Array KX}(hm:(b,Obj.cells d t (0,0))∈bs):GB w2 b t d:=(h.bs _ hm).2.2
def Ka.start(w:U)(o:Obj)(c:Array KX)(tG:Nat)(k:Obj):Ka w (((w.alloc o).alloc (FL c tG)).alloc k) (M (H w)+1) tG c [(M (H w)+2,k),(M (H w),o)]:=by
 have b:M (H (w.alloc o))=M (H w)+1:=by simp
 have d:Ka w ((w.alloc o).alloc (FL c tG)) (M (H w)+1) tG c [(M (H w),o)]:=by
  refine⟨aj (bJ _ _) (bJ _ _),by omega,?_,λp a=>?_⟩
  .show ((w.alloc o).alloc (FL c tG)).heap[M (H w)+1]? = _
   rw[<-b,iX]
  .rw[Xj]at a;subst a;exact⟨by omega,Qs _,(QS (by omega)).trans (iX w o)⟩
 have e:=d.alloc k;simp_all
def Nt{w w':U}{base base':Nat}{e:TypeId}{size:Nat}{v:KX}{n:Nat}{xs:List KX}(h:w.ownsRow base e size v n xs)(hb:base'<=base)(ho:∀j,base<=j->j<M (H w)->w'.heap[j]? = w.heap[j]?):w'.ownsRow base' e size v n xs:=by
 obtain⟨k,b⟩:=h;refine⟨k,?_⟩;rcases b with b|⟨g,cap,a,i,d,f,r⟩
 .simp_all
 .exact Or.inr ⟨g,cap,a,i,Q6 hb d,(ho g d (ZH.1 f).1).trans f,r⟩
def zn:List Value:=[I J 0,I J 0,I J 0,I J 0,Z E5 0 0,I J 0,Z E5 0 0]
def nk:List Value:=[I J 77777,I J 0,I J 0,I J 0,Z E5 0 0,I J 0,Z E5 0 0]
def Xw:=@Nt
theorem ui(ts:List ag)(q:af)(plan:List ai):∀(f i:Nat) (seen:List Nat) (v:bH),jX ts q plan f i=O v->(jY plan i).Nodup->(∀x∈jY plan i,x ∉ seen)->
  fC ts q plan f i seen=O (v,seen++jY plan i):=by
 intro f
 induction f with
 |zero=>grind [jX]
 |succ f ih =>
  intro i seen v h a b;rw[qh]at a b ⊢;unfold jX at h;unfold fC;unfold nQ at a b ⊢;simp only at h a b ⊢;generalize E plan i nz=n at h a b ⊢;by_cases C:cZ n=F∨n.kind<1∨10<n.kind
  .simp_all
  rw[QC C]at h ⊢;by_cases d:n.kind=1
  .rw[Qu d]at h ⊢;rw[Qu (vK d)]
   grind
  rw[QC d]at h ⊢;by_cases D:n.l<0∨(i:Int)<=n.l
  .simp_all
  rw[QC D]at h
  cases hl:jX ts q plan f n.l.toNat with
  |none=>simp_all
  |some l =>
   rw[hl]at h;simp only at h;by_cases g:arity n.kind=2
   .rw[Qu g]at h;by_cases G:n.r<0∨(i:Int)<=n.r
    .simp_all
    rw[QC G]at h;rw[QC (show ¬arity n.kind=0 by omega),QC (show ¬arity n.kind=1 by omega),Qu (show 0<=n.l/\n.l<(i:Int)/\0<=n.r/\n.r<(i:Int) by omega)]at a b ⊢;simp only[QH,List.flatMap_nil,QN]at a b ⊢;rw[List.nodup_cons,List.nodup_append]at a;obtain⟨A,p,K,L⟩:=a;have t:n.l.toNat∈jY plan n.l.toNat:=by rw[qh];simp
    have u:n.r.toNat∈jY plan n.r.toNat:=by rw[qh];simp
    have j:∀x∈jY plan n.l.toNat,x ∉ seen++[i]:=λx B e=>by simp_all
    have y:∀x∈jY plan n.r.toNat,x ∉ seen++[i]++jY plan n.l.toNat:=λx B e=>by grind
    have k:¬(n.l<0∨(i:Int)<=n.l∨n.l.toNat∈seen++[i]):=by simp_all
    have m:¬(n.r<0∨(i:Int)<=n.r∨n.r.toNat∈seen++[i]++jY plan n.l.toNat):=by simp_all
    rw[QC k,ih _ _ _ hl p j];simp only;rw[Qu g,QC m]
    cases hr:jX ts q plan f n.r.toNat with
    |none=>simp_all
    |some r =>
     simp_all
   .rw[QC g]at h;have z:=Dp d g;rw[QC (show ¬arity n.kind=0 by omega),Qu z,Qu (show 0<=n.l/\n.l<(i:Int) by omega)]at a b ⊢;simp only[QH,List.flatMap_nil,QN]at a b ⊢;rw[List.nodup_cons]at a;obtain⟨A,p⟩:=a;have t:n.l.toNat∈jY plan n.l.toNat:=by rw[qh];simp
    grind
theorem abf(ts:List ag)(q:af)(plan:List ai)(f last:Nat)(v:bH)(s:List Nat):(fC ts q plan f last []=O (v,s)/\N s=last+1)↔
  (jX ts q plan f last=O v/\s=jY plan last/\∀k,k<last->dz (last+1) (λi=>(nQ plan i).count k)=1):=by
 have key:=abe (BG plan) last;constructor
 .rintro⟨h,j⟩;obtain⟨a,d,b,_⟩:=vL ts q plan f last [] v s (by simp) h
  grind [jY]
 .rintro⟨a,d,b⟩;obtain⟨e,l⟩:=key.1 b;have g:=ui ts q plan f last [] v a e (by simp)
  grind [jY]
def vM(l:List Int)(a:Int)(m:List Int):aC l (a::m)=aC (if a∈l then l else l++[a]) m:=rfl
theorem nH{x:Int}:∀{m l:List Int},x∈aC l m↔x∈l∨x∈m
 |[],l=>by grind [aC]
 |a::m,l=>by rw[vM,nH];grind
theorem iP:∀{m l:List Int},l.Nodup->(aC l m).Nodup
 |[],l,h=>h
 |a::m,l,h=>by rw[vM];apply iP;grind
theorem lW:∀{m l:List Int},N (aC l m)<=N l+N m
 |[],l=>by grind [aC]
 |a::m,l=>by rw[vM];refine Q6 lW ?_;grind
theorem yY:∀{m l:List Int},m.Nodup->(N (aC l m)=N l+(N m)↔∀x∈m,x ∉ l)
 |[],l,_=>by grind [aC]
 |a::m,l,h=>by
  rw[List.nodup_cons]at h;rw[vM];by_cases ha:a∈l
  .grind [lW]
  .rw[QC ha];have h1:=yY (m:=m) (l:=l++[a]) h.2
   grind
def bM(n:Nat)(l:List Int):Prop:=∀x∈l,0<=x/\x<(n:Int)
def bM.with{n:Nat}{l m:List Int}(hl:bM n l)(hm:bM n m):bM n (aC l m):=λx a=>by
 rcases nH.1 a with h|h
 .exact hl x h
 .exact hm x h
theorem bM.lt(hn:n<=64)(h:bM n l):aZ l<18446744073709551616:=by have a:=Na (n:=n) h;have b:2 ^ n<=2 ^ 64:=Q3 (by omega) hn;omega
theorem UQ(l:List Int):∀m:Nat,l.foldl (λm n=>m|||2 ^ n.toNat) m=m|||aZ l:=by
 unfold aZ
 induction l with
 |nil=>intro m;simp
 |cons a l ih=>grind
theorem EG(a b:List Int):aZ (a++b)=aZ a|||aZ b:=by grind [aZ,UQ]
theorem yZ{m:List Int}(hl:bM n l)(hm:bM n m):aZ (aC l m)=aZ l|||aZ m:=by apply Nat.eq_of_testBit_eq;intro i;rw[Nat.testBit_or,QZ (λx hx=>(hl.with hm x hx).1),QZ (λx hx=>(hl x hx).1),QZ (λx hx=>(hm x hx).1),Zf];grind [nH]
theorem EH(hn:n<=64){s:List Int}(hs:bM n s)(hl:bM n l):(aZ l &&& (18446744073709551615-aZ s)=0)↔∀x∈l,x∈s:=by
 rw[UN (hs.lt hn) (hl.lt hn)];constructor
 .intro h x a;have e:=(hl x a).1;have b:=h x.toNat (by rw[QZ (λx a=>(hl x a).1),Qz];grind);rw[QZ (λx a=>(hs x a).1),Qz,Zg e]at b;exact b
 .intro h i d;rw[QZ (λx a=>(hl x a).1),Qz]at d;rw[QZ (λx a=>(hs x a).1),Qz];exact h _ d
theorem UR{s:List Int}(hs:bM n s)(hl:bM n l):(aZ s &&& aZ l≠0)↔∃x,x∈s/\x∈l:=by
 rw[aba];constructor
 .rintro⟨i,b,d⟩;rw[QZ (λx a=>(hs x a).1),Qz]at b;rw[QZ (λx a=>(hl x a).1),Qz]at d
  grind
 .rintro⟨x,b,d⟩;have e:=(hs x b).1;refine⟨x.toNat,?_,?_⟩
  .rw[QZ (λx a=>(hs x a).1),Qz,Zg e];exact b
  .rw[QZ (λx a=>(hl x a).1),Qz,Zg e];exact d
theorem Dq{s:List Int}(hs:bM n s)(hd:s.Nodup):aZ s=2 ^ n-1↔(N s)=n:=by
 have g:∀k:Nat,k∈s.map Int.toNat↔(k:Int)∈s:=λk=>by
  rw[Zi];constructor
  .rintro⟨x,f,rfl⟩;rw[Zg (hs x f).1];exact f
  grind
 have j:(s.map Int.toNat).Nodup:=by show List.Pairwise _ _;rw[List.pairwise_map];refine List.Pairwise.imp_of_mem ?_ hd;intro a b v y z e;have q:=(hs a v).1;have r:=(hs b y).1;omega
 have l:∀k∈s.map Int.toNat,k<n:=λk p=>by have:=(hs _ ((g k).1 p)).2;omega
 have d:=oh l;rw[Q8]at d;have t:=List.nodup_iff_count.1 j;constructor
 .intro h;rw[<-d];have e:∀k,k<n->(s.map Int.toNat).count k=1:=λk p=>by
   have q:(k:Int)∈s:=by have r:=QZ (λx f=>(hs x f).1) k;simp_all
   grind
  have u:∀m,m<=n->dz m (λk=>(s.map Int.toNat).count k)=m:=by
   intro m
   induction m with
   |zero=>intro _;rfl
   |succ m ih=>grind [jD]
  simp_all
 .intro h;have e:=xM (n:=n) (λk _=>t k) (by rw[d,h]);apply Nat.eq_of_testBit_eq;intro i;rw[QZ (λx f=>(hs x f).1),abb,Zf,Qz,Qz];constructor
  .simp_all
  grind
def di(s:Nat):List Nat:=(List.range 64).filter λi=>s.testBit i
theorem PD(hn:n<=64)(h:bM n l)(i:Nat):i∈di (aZ l)↔(i:Int)∈l:=by
 unfold di;rw[Zj,Zk,QZ (λx a=>(h x a).1),Qz];constructor
 .simp_all
 .intro e;have:=(h _ e).2
  grind
def J7(s:Nat):(di s).Nodup:=List.Pairwise.filter _ List.nodup_range
theorem Lb{s:List Int}(hs:bM n s)(hd:s.Nodup):(s.map Int.toNat).Nodup:=by show List.Pairwise _ _;rw[List.pairwise_map];refine List.Pairwise.imp_of_mem ?_ hd;intro a b d f g e;have i:=(hs a d).1;have j:=(hs b f).1;omega
theorem YJ{s:List Int}(hs:bM n s)(k:Nat):k∈s.map Int.toNat↔(k:Int)∈s:=by
 rw[Zi];constructor
 .rintro⟨x,a,rfl⟩;rw[Zg (hs x a).1];exact a
 grind
theorem PE(hn:n<=64){s:List Int}(hs:bM n s)(hd:s.Nodup):(s.map Int.toNat).Perm (di (aZ s)):=
 (List.perm_ext_iff_of_nodup (Lb hs hd) (J7 _)).2 λk=>by grind [YJ,PD]
theorem abg{a b:List Nat}(h:a.Perm b):∀m,a.foldl (· * ·) m=b.foldl (· * ·) m:=by
 induction h with
 |nil=>intro m;rfl
 |cons x _ ih=>simp_all
 |swap x y l=>grind
 |trans _ _ h1 h2=>simp_all
def uL:∀(l:List Nat),l.foldl aQ 0=0
 |[]=>rfl
 |a::l=>by rw[QY,ED,uL l]
theorem qH:∀(l:List Nat) (m:Nat),0∈l->l.foldl aQ m=0
 |[],_,h=>by cases h
 |a::l,m,h=>by
  rw[QY];rcases QP.1 h with h|h
  .rw[<-h];have e:aQ m 0=0:=by rfl
   rw[e,uL]
  .exact qH l _ h
theorem xe:∀(l:List Nat) (m:Nat),1<=m->(∀x∈l,1<=x)->1<=l.foldl aQ m
 |[],m,h,_=>h
 |a::l,m,h,hl=>by rw[QY];refine xe l _ ?_ (λx hx=>hl x (by simp[hx]));have h1:=Nat.mul_le_mul h (hl a (by simp));grind [aQ,aU]
theorem PG{a b:List Nat}(h:a.Perm b):a.foldl aQ 1=b.foldl aQ 1:=by grind [qH,aU,Pw,abg]
theorem BH{m:Nat}(hnm:n<=m)(p:Nat->Bool)(h:∀i,n<=i->p i=F):(List.range m).filter p=(List.range n).filter p:=by
 induction m with
 |zero =>
  simp_all
 |succ m ih =>
  grind [List.range_succ]
def UT(hn:n<=64)(h:bM n l)(g:Nat->Nat)(m:Nat) :
  (di (aZ l)).foldl (λx c=>x / g c) m=(List.range n).foldl (λ(x c:Nat)=>if (c:Int)∈l then x / g c else x) m:=by unfold di;rw[BH hn _ (λi b=>by rw[QZ (λx a=>(h x a).1),QA];intro e;have:=(h _ e).2;omega),List.foldl_filter];congr 1;funext x c;rw[QZ (λx a=>(h x a).1)];simp_all
structure gz where
 kind:Int
 sources:Nat
 clauses:Nat
 order:List Int
 size:Nat
 cost:Nat
def dG(a b:Nat):Bool:=decide (b &&& (18446744073709551615-a)=0)
def fP(ts:List ag)(src:List Int)(cs:List aF):List Int:=(aG cs).map λc=>(au ts src c:Int)
def jm(ts:List ag)(q:af)(l:List Int)(s:Nat):Bool:=
 (List.range (N l)).all λi=>decide ((if i=0 then -1 else E l (i-1) 0)<E l i 0)&&decide (E l i 0<N q.wh)&&dG s (aZ (fP ts q.src.xs (E q.wh (E l i 0).toNat lz).cs))
def zS(hc:dL ts=T)(ha:aM src (N ts)=T)(h:∀c∈aG cs,0<=c/\c<ak ts src):bM (N src) (fP ts src cs):=λx e=>by obtain⟨c,a,rfl⟩:=Zi.1 e;obtain⟨b,d⟩:=h c a;have:=(Za hc ha b d).1;omega
theorem zT(hc:dL ts=T)(ha:aM src (N ts)=T)(hn:N src<=64)(h:∀c∈aG cs,0<=c/\c<ak ts src){s:List Int}(hs:bM (N src) s) :
  dG (aZ s) (aZ (fP ts src cs))=lV ts src cs s:=by unfold dG lV;rw[Zf,Qz,Qn,EH hn hs (zS hc ha h)];grind [fP]
def ze(ts:List ag)(q:af):Prop:=∀i,i<N q.wh->∀c∈aG (E q.wh i lz).cs,0<=c/\c<ak ts q.src.xs
theorem BI{q:af}(hc:dL ts=T)(ha:aM q.src.xs (N ts)=T)(hn:N q.src.xs<=64)(hk:ze ts q){s:List Int}(hs:bM (N q.src.xs) s)(l:List Int) :
  jm ts q l (aZ s)=dF ts q l s:=by
 unfold jm dF;rw[Zf,Qn,Qn];constructor
 .intro h;have a:∀i,i<N l->0<=E l i 0:=by
   intro i
   induction i with
   |zero =>
    grind
   |succ i ih =>
    grind
  intro i d;have e:=Zk.1 d;have b:=h i d;have j:=a i e;simp only[Qm,Qz]at b;obtain⟨⟨k,g⟩,f⟩:=b;rw[zT hc ha hn (hk _ (by omega)) hs]at f;grind
 .intro h i d;have b:=h i d;simp only[Qm,Bool.or_eq_true,Qz]at b;obtain⟨⟨⟨j,g⟩,k⟩,f⟩:=b;simp only[Qm,Qz];rw[zT hc ha hn (hk _ (by omega)) hs];refine⟨⟨?_,g⟩,f⟩;omega
theorem xN(k:Nat):aZ [(k:Int)]=2 ^ k:=by grind [aZ]
def oW(hn:n<=64){s:List Int}(hs:bM n s)(hk:k<n):dG (aZ s) (2 ^ k)=decide ((k:Int)∈s):=by unfold dG;rw[<-xN,Zf,Qz,Qz,EH hn hs (λx a=>by simp_all)];simp_all
def GA(ts:List ag)(src:List Int)(cs:List aF)(a b:Nat):Int × Int × Bool:=
 if N cs > 1∨(E cs 0 cz).op≠0∨(E cs 0 cz).not=T∨(E cs 0 cz).const=T then (0,0,F)
 else if (dG a (2 ^ au ts src (E cs 0 cz).left)&&dG b (2 ^ au ts src (E cs 0 cz).right))=T then ((E cs 0 cz).left,(E cs 0 cz).right,T)
 else if (dG a (2 ^ au ts src (E cs 0 cz).right)&&dG b (2 ^ au ts src (E cs 0 cz).left))=T then ((E cs 0 cz).right,(E cs 0 cz).left,T)
 else (0,0,F)
theorem UU(hc:dL ts=T)(ha:aM src (N ts)=T)(hn:N src<=64)(h0:0<N cs)(h:∀c∈aG cs,0<=c/\c<ak ts src){a b:List Int}
  (hsa:bM (N src) a) (hsb:bM (N src) b) :
  (GA ts src cs (aZ a) (aZ b)).2.2=(eG ts src cs a b).2.2/\((eG ts src cs a b).2.2=T->GA ts src cs (aZ a) (aZ b)=eG ts src cs a b):=by
 unfold GA eG;by_cases l:N cs≠1∨(E cs 0 cz).not=T∨(E cs 0 cz).const=T∨(E cs 0 cz).op≠0
 .grind
 .have d:¬(N cs > 1∨(E cs 0 cz).op≠0∨(E cs 0 cz).not=T∨(E cs 0 cz).const=T):=by simp_all
  rw[QC l,QC d];have e:(E cs 0 cz).left∈aG cs/\(E cs 0 cz).right∈aG cs:=by
   have f:E cs 0 cz∈cs:=by simp_all
   have m:(E cs 0 cz).op≠2/\(E cs 0 cz).const=false:=by simp_all
   unfold aG;refine⟨QO.2 ⟨_,f,?_⟩,QO.2 ⟨_,f,?_⟩⟩
   .unfold aL;simp_all
   .unfold aL;simp_all
  have g:=h _ e.1;have i:=h _ e.2;have j:=(Za hc ha g.1 g.2).1;have k:=(Za hc ha i.1 i.2).1;generalize E cs 0 cz=c at*;rw[oW hn hsa j,oW hn hsb k,oW hn hsa k,oW hn hsb j];grind
theorem Dr{f:Nat->Nat}(h:∀k,f k<=1):∀n,dz n f<=n
 |0=>Qs _
 |n+1=>by rw[Zc];have:=Dr h n;grind
theorem uM{s:List Int}(hs:bM n s)(hd:s.Nodup):N s<=n:=by
 have a:∀k∈s.map Int.toNat,k<n:=λk d=>by have:=(hs _ ((YJ hs k).1 d)).2;omega
 have b:=oh a;grind [Lb,Dr]
theorem EI(h:dI xs=T):xs.Nodup:=by unfold dI at h;grind [List.pairwise_iff_getElem]
def xO(ts:List ag)(src cols:List Int)(s:Nat):Bool:=
 decide (0<N cols)&&decide ((N cols:Int)<=ak ts src) &&
  (List.range (N cols)).all λi=>decide (0<=E cols i 0)&&decide (E cols i 0<ak ts src) && !decide (E cols i 0∈cols.take i)&&dG s (2 ^ au ts src (E cols i 0))
theorem BJ(hi:i<N xs){x:Int}:x∈xs.take i↔∃j,j<i/\E xs j 0=x:=by
 rw[List.mem_take_iff_getElem];constructor
 .rintro⟨j,a,e⟩;refine⟨j,by omega,?_⟩
  grind
 grind
theorem abh(hc:dL ts=T)(ha:aM src (N ts)=T)(hn:N src<=64){s:List Int}(hs:bM (N src) s){cols:List Int}(h0:0<N cols) :
  xO ts src cols (aZ s)=(aM cols (ak ts src)&&dI cols&&cols.all λc=>decide ((au ts src c:Int)∈s)):=by
 unfold xO;rw[Zf,QD h0,QE,Qm,Qz,Qn,Qm,Qm,Qn];have t:∀c∈cols,∃i,i<N cols/\E cols i 0=c:=λc k=>by obtain⟨i,a,e⟩:=Qv k;exact⟨i,a,by simp_all⟩
 have m:∀i,i<N cols->E cols i 0∈cols:=λi a=>by simp_all
 constructor
 .rintro⟨_,h⟩;have y:∀i,i<N cols->0<=E cols i 0/\E cols i 0<ak ts src/\E cols i 0 ∉ cols.take i/\(au ts src (E cols i 0):Int)∈s:=λi a=>by have g:=h i (Zk.2 a);simp only[Qm,Bool.not_eq_true',Qz,QA]at g;obtain⟨⟨⟨l,q⟩,z⟩,v⟩:=g;rw[oW hn hs (Za hc ha l q).1,Qz]at v;simp_all
  refine⟨⟨?_,?_⟩,?_⟩
  .grind [aM]
  .grind [dI,BJ]
  grind
 .rintro⟨⟨g,l⟩,q⟩;have n:=EI l;have b:bM (ak ts src).toNat cols:=λx p=>by unfold aM at g;grind
  have r:=uM b n;have u:=Qp hc ha (N src) (Qs _);rw[Zb]at u;refine⟨by omega,λi a=>?_⟩;have d:=Zk.1 a;have k:=m i d;have p:=b _ k;have f:E cols i 0<ak ts src:=by omega
  simp only[Qm,Bool.not_eq_true',Qz,QA];rw[oW hn hs (Za hc ha p.1 f).1];refine⟨⟨⟨p.1,f⟩,?_⟩,q _ k⟩;intro e;obtain⟨j,A,B⟩:=(BJ d).1 e;unfold dI at l;grind
def mP(ts:List ag)(q:af)(sources clauses:Nat):Nat:=
 if ((di sources).map λ(k:Nat)=>iO ts q.src.xs (k:Int)).foldl aQ 1=0 then 0
 else max ((di clauses).foldl (λx c=>x / dN ts q.src.xs (E q.wh c lz).cs) (((di sources).map λ(k:Nat)=>iO ts q.src.xs (k:Int)).foldl aQ 1)) 1
theorem Lc(ts:List ag)(q:af)(hw:N q.wh<=64)(hn:n<=64){s c:List Int}(hs:bM n s)(hd:s.Nodup)(hc:bM (N q.wh) c):mP ts q (aZ s) (aZ c)=iK ts q s c:=by
 have d:(s.map (iO ts q.src.xs))=(s.map Int.toNat).map λ(k:Nat)=>iO ts q.src.xs (k:Int):=by rw[Zm];rfl
 have e:((di (aZ s)).map λ(k:Nat)=>iO ts q.src.xs (k:Int)).foldl aQ 1=(s.map (iO ts q.src.xs)).foldl aQ 1:=by rw[d];exact(PG ((PE hn hs hd).map _)).symm
 unfold mP iK;rw[e];by_cases a:(s.any λx=>decide (iO ts q.src.xs x=0))=T
 .rw[Qu a];obtain⟨x,g,i⟩:=List.any_eq_true.1 a;rw[Qu (qH _ 1 (Zi.2 ⟨x,g,Zn i⟩))]
 .rw[QC a];have f:∀y∈s.map (iO ts q.src.xs),1<=y:=λy hy=>by grind
  have b:=xe _ 1 (Qs _) f;rw[QC (by omega)];unfold Pz;rw[UT hw hc]
def xP(kind:Int)(l r s:Nat):Nat:=if kind=4 then kL [l,r,r,s] else if kind=5 then kL [l,r,s] else aQ l r
def oU(kind:Int)(s lc ls rc rs:Nat):Nat:=
 if kind=1 then kL [s,1]
 else if kind=3∨kind=4∨kind=5 then kL [lc,rc,xP kind ls rs s]
 else if kind=6∨kind=10 then kL [lc,aQ ls (gW ls+1)]
 else if kind=7 then kL [lc,ls,ls]
 else kL [lc,ls]
theorem aeR(a b:Nat):kL [a,b]=bG a b:=by grind [bG,BF]
theorem PH(a b c:Nat):kL [a,b,c]=bG (bG a b) c:=by grind [bG,BF]
theorem apS(a b c d:Nat):kL [a,b,c,d]=bG (bG a b) (bG c d):=by grind [bG,BF]
theorem Ld(a:Nat):aQ 2 a=bG a a:=by grind [aQ,bG]
def Le(kind:Int)(s:Nat)(l r:bH):oU kind s l.cost l.size r.cost r.size=rR kind s l r:=by
 unfold oU rR xP;by_cases a:kind=1
 .rw[Qu a,Qu a,aeR]
 rw[QC a,QC a];by_cases k3:kind=3
 .rw[Qu (.inl k3),Qu k3,QC (by omega),QC (by omega),PH]
 rw[QC k3];by_cases k4:kind=4
 .rw[Qu (.inr (.inl k4)),Qu k4,Qu k4,PH,apS,Ld];congr 1;rw[nE,nE,Gx s (bG r.size r.size),nE]
 simp only[QC k4];by_cases k5:kind=5
 .rw[Qu (.inr (.inr k5))];simp only[Qu k5];rw[PH,PH];congr 1;rw[nE,nE,Gx s r.size]
 simp only[QC k5];rw[QC (show ¬(kind=3∨kind=4∨kind=5) by omega)];by_cases k6:kind=6∨kind=10
 .rw[Qu k6,Qu k6,aeR]
 rw[QC k6,QC k6];by_cases k7:kind=7
 .rw[Qu k7,Qu k7,PH,Ld,nE]
 rw[QC k7,QC k7,aeR]
@[reducible] def Cb (f:Nat) (a:Array KX) (w:U) (v:KX):Prop:=Calls V f a w λe w'=>e=FR v/\Bw w w'
@[reducible] def Ce (f:Nat) (a:Array KX) (w:U) (v:KX):Prop:=Calls V f a w λe w'=>e=FR v/\w' = w
section
theorem YN{w:U}{p:Addr}{v:KX}(h:w.cell? p=O v):p.block<M (H w):=by unfold World.cell? at h;grind
def eD.keep{A B:U}{ao:Option Addr}{f:Nat->KX}(h:eD A ao n f)(hb:∀a,ao=O a->a.block<M (H A)->B.heap[a.block]? = A.heap[a.block]?):eD B ao n f:=by intro i g;obtain⟨b,off,rfl,d⟩:=h i g;have e:b<M (H A):=YN (p:=(aD b (off+i))) d;exact⟨b,off,rfl,(ZK (a:=(aD b (off+i))) (hb (aD b off) rfl e)).trans d⟩
def ah:El ae (List Int) where
 enc:=ae.val
 At x W:=x.At W/\(∀a,x.ad=O a->a.block<M (H W))/\(x.ad=E5->x.cap=0)
 aT x:=x.ad.map (·.block)
 key:=ae.xs
 keep:=by rintro x A B ⟨h,hl,hn⟩ hs hb;refine⟨⟨h.1,h.2.keep λa ha hlt=>hb _ hlt (by rw[ha];rfl)⟩,λa ha=>Q0 (hl a ha) hs,hn⟩
 AV:=by
  rintro x A b ⟨_,hl,_⟩ hb
  cases ha:x.ad with
  |none=>rw[ha]at hb;cases hb
  |some a=>rw[ha]at hb;cases hb;exact hl a ha
def Dy(h:ah.aT x=O b):∃a,x.ad=O a/\a.block=b:=by
 have d:x.ad.map (·.block)=O b:=h
 cases ha:x.ad with
 |none=>rw[ha]at d;cases d
 |some a=>rw[ha]at d;cases d;exact⟨a,rfl,rfl⟩
def bL(w:U)(ao:Option Addr)(rs:List ae):Prop:=fF w ao rs/\(∀a,ao=O a->a.block<M (H w))/\∀i,i<N rs->ah.At (E rs i iz) w
def bL.below{w w':U}(hb:Bw w w'){ao:Option Addr}{rs:List ae}(h:bL w ao rs):bL w' ao rs:=
 ⟨h.1.below hb,λa e=>Q0 (h.2.1 a e) hb.size,λi f=>ah.keep (h.2.2 i f) hb.size (λb d _=>hb.block b d)⟩
def Dz{α:Type}(rs:List α)(d:α){k:Nat}(hk:k<N rs):rs.take k++[E rs k d]=rs.take (k+1):=by rw[Qh hk];simp[List.getD,hk]
attribute [local go_sem] Oper.semAt_some
def aeZ(bt:Nat)(ao:Option Addr)(cap:Nat)(rs:List ae)(w0:U)(hbt:bt<M (H w0))(hc:Am w0 (aD bt 0)=O (Z ao (N rs) cap))(hr:bL w0 ao rs) :
  Seq ah V 158 #[Y (O (aD bt 0))] (rs.map (·.xs)) w0:=by
 intro l Jq W o K ho hJ hY h0;have af:=(K.cell (p:=(aD bt 0)) hbt).trans hc;have v:=hr.below K;have aa:=hr.1.1;obtain⟨HY,HO⟩:=aV hY ho;have HR:Hid _:=v;have D:=Zh K;have G:Hid _:=hr;clear hY ho v K hr hJ;refine(ZG (n:=0)).1 (callsIn_of_wp Tryz.func158 rfl trivial ?_ rfl);simp only[Tryz.ntmps158,ZN,QJ,ZO,Nat.reduceAdd,Nat.reduceSub,ZP,ZQ,ZR,ZT,ZU,ZV];gi_wp2;gi_loopw [7] (λi wr=>∃k:Nat,k<=N rs/\i=I J k/\∃u,Jq (rs.take k) u wr/\Kept (λb=>¬o b) W wr/\Hid (∀b,u b->o b∨(M (H W)<=b/\b<M (H wr))))
  (λi _=>N rs-(intOf i).toNat)
 case atStart=>exact⟨0,Q4 _,rfl,o,h0,Zx _ _,λb h=>.inl h⟩
 case round=>
  obtain⟨k,hk,rfl,u,r,A,f⟩:=hrel;by_cases d:k<N rs
  .obtain⟨b,off,rfl,Q⟩:=G.o.1.2.1.get d;have L:b<M (H w0):=G.o.2.1 _ rfl;have m:=D.o.trans (A.below D.o.size (λi hi h=>by have:=(HO.o i h).1;omega));have y:=(m.cell (p:=(aD b (off+k))) L).trans (Q k d);have z:=ah.keep (G.o.2.2 k d) m.size (λb X _=>m.block b X);have P:∀b,u b->M (H w0)<=b:=λb h=>by
    rcases f.o b h with h|h
    .exact(HO.o b h).1
    .have:=D.o.size;omega
   have q:∀b,ah.aT (E rs k iz)=O b->b<M (H w0):=λb h=>by obtain⟨a,ha,rfl⟩:=Dy h;exact(G.o.2.2 k d).2.1 a ha
   have HN:=Zh (Dz rs iz d);have j:(rs.take k++[E rs k iz]).map ah.key <+: rs.map (·.xs):=by rw[Dz rs iz d];exact List.IsPrefix.map _ (List.take_prefix _ _)
   obtain⟨fn,tmps,g,B,hy,hR⟩:=HY.o _ (E rs k iz) u wr r j z (λb h=>⟨λt=>by have:=P b t;have:=q b h;omega,.inl (q b h)⟩) A.size;generalize E rs k iz=x at*;obtain⟨fO,bF,gM⟩:=x;have ag:(Instr.yield l #[Z fO (N gM) bF]).run V wr=.ok (.round l fn tmps g B) wr:=hy;have ai:Am wr (aD b (off+k))=O (Z fO (N gM) bF):=y;clear hy y z j;gi_wp2;refine⟨rfl,hR.mono ?_⟩;rintro e W3 ⟨rfl,o2,R,C,S⟩;gi_wp2;go_roundw
   case rel=>
    refine⟨k+1,by omega,by simp,o2,by rw[<-HN.o];exact R,A.trans' C ?_,?_⟩
    .intro b hb h t;rcases f.o b t with t|t
     .exact h t
     .omega
    .intro b hb;rcases S b hb with h|h|h
     .rcases f.o b h with h|h
      .exact .inl h
      .exact .inr ⟨h.1,by have:=C.size;omega⟩
     .exact .inr ⟨by have:=A.size;omega,h.2⟩
     .have:=q b h.1;have:=D.o.size;omega
   case measure=>simp[intOf];omega
  .obtain rfl:k=N rs:=by omega
   gi_wp2;go_end0;exact⟨⟨_,rfl⟩,rs,u,rfl,by rw[Zb]at r;exact r,A,f.o⟩
end
def ZJ:=@YN
def ZL:=@Dz
section
def kW(h:(pre++[x]).map ah.key <+: rows):x.xs∈rows:=by
 have a:x.xs∈(pre++[x]).map ah.key:=by simp[ah]
 exact h.subset a
def U0(p:List Int->Bool)(h:(pre++[x]).map ah.key <+: rows)(hp:p x.xs=T) :
  (pre.filter (λr=>p r.xs)++[x]).map ah.key <+: rows.filter p:=by
 have a:=List.IsPrefix.filter p h;have b:(pre.filter (λr=>p r.xs)++[x]).map ah.key=((pre++[x]).map ah.key).filter p:=by rw[ZW];congr 1;rw[ZX];simp[ah,Function.comp_def,hp]
 rw[b];exact a
def uQ{A B:U}{p:Addr}{v:KX}{s:Nat->Prop}(h:A.cell? p=O v)(hk:Kept s A B)(hs:s p.block):B.cell? p=O v:=
 (ZK (hk.block _ (ZJ h) hs)).trans h
attribute [local go_sem] Oper.semAt_some
def U1(bi bk gi gk:Nat)(jy lbk:Array KX)(rows:List (List Int))(p:List Int->Bool)(w0:U)(hbi:bi<M (H w0))(hbk:bk<M (H w0))
  (hci:Am w0 (aD bi 0)=O (.func (.func gi) #[] jy)) (hck:Am w0 (aD bk 0)=O (.func (.func gk) #[] lbk))
  (hseq:Seq ah V gi jy rows w0) (GU:∀args w,(callFunc gi args).run V w=.ok (.enter gi args) w) (egk:∀args w,(callFunc gk args).run V w=.ok (.enter gk args) w)
  (hkeep:∀W x,Bw w0 W->ae.At x W->x.xs∈rows->Calls V gk (#[x.val]++lbk) W λe W'=>e=FR (.bool (p x.xs))/\Bw W W') :
  Seq ah V 179 #[Y (O (aD bi 0)),Y (O (aD bk 0))] (rows.filter p) w0:=by
 intro l Jq W o hW ho hJ hY h0;have av:=(hW.cell (p:=(aD bi 0)) hbi).trans hci;obtain⟨HY,D,u,HJ,HK,zh,JU⟩:=Dn hY ho hW hJ hkeep hck hbk;have t:Bw W (W.alloc (FL #[.func (.yield l) #[] #[]] 108)):=bJ _ _;have ax:=(t.cell (p:=(aD bi 0)) (Q0 hbi u.o.size)).trans av;have FE:Am (W.alloc (FL #[.func (.yield l) #[] #[]] 108)) (aD (M (H W)) 0)=O (.func (.yield l) #[] #[]):=by simp
 have X:M (H (W.alloc (FL #[.func (.yield l) #[] #[]] 108)))=M (H W)+1:=by simp
 refine(ZG (n:=0)).1 (Z0 Tryz.func179 rfl trivial ?_ rfl);simp only[Tryz.ntmps179,ZN,QJ,ZO,Nat.reduceAdd,Nat.reduceSub,ZP,ZQ,ZR,ZT,ZU,ZV];gi_wp2;obtain⟨w1,aj⟩:=eX (W.alloc (FL #[.func (.yield l) #[] #[]] 108));rw[aj]at t ax FE X;rw[aj];obtain⟨H1,H2⟩:=aV X t;refine oz ah (gf:=gi) (lb:=jy) rfl GU hseq (u.o.trans (H2.o.mono u.o.size)) rfl
  (λg v W'=>Jq (g.filter (λr=>p r.xs)) v W'/\Kept (λb=>¬o b) W W'/\(∀b,v b->o b∨(M (H W)<=b/\b<M (H W')))/\Am W' (aD (M (H W)) 0)=O (.func (.yield l) #[] #[])/\¬v (M (H W)))
  o ?_ ?_ ?_ (λx=>{ tmps:=#[.func (.yield l) #[] #[],Y (O (aD bi 0)),Y (O (aD bk 0)),Y (O (aD (M (H W)) 0)),x.val,.func (.func gi) #[] jy,x.val,undef,undef,undef,undef,undef,undef,undef,undef,undef],defers:=[] }) ?assign ?body ?done
 .intro b a;exact⟨(D.o b a).1,by have:=(D.o b a).2;have:=H1.o;omega⟩
 .rintro g v A B ⟨G,q,L,hc,P⟩ d;have h1:=H1.o;refine⟨HJ.o _ _ _ _ G (d.mono λb _ h=>h.imp id (by omega)),q.trans' d (λb a _=>.inr (by omega)),λb h=>(L b h).imp id (λh=>⟨h.1,by have:=d.size;omega⟩),uQ hc d (.inr (by show M (H W)<_;omega)),P⟩
 .have h1:=H1.o;refine⟨HJ.o _ _ _ _ h0 (ZA H2.o λb a h=>by rcases h with h|h;exact(D.o b h).2;exact h),ZA H2.o (λb a _=>a),λb h=>.inl h,FE,λh=>by have:=(D.o _ h).2;omega⟩
 case assign=>
  intro l x W K hK;gi_wp2;exact hK
 case body=>
  rintro l2 g x v Q ⟨G,q,L,y,P⟩ j hx ak aJ;have h1:=H1.o;have aa:=u.o.trans (q.below u.o.size (λi hi h=>by have:=(D.o i h).1;omega));have aF:=(aa.cell (p:=(aD bk 0)) JU.o).trans zh.o;have d:=HK.o Q x aa hx.1 (kW j);obtain⟨HX,HF⟩:=aV hx ak;have HP:Hid _:=j;have af:(g++[x]).filter (λr=>p r.xs)=g.filter (λr=>p r.xs)++if p x.xs then [x] else []:=by rw[ZX];cases S:p x.xs <;> simp[S]
  by_cases S:p x.xs=T
  .rw[S]at d;have HS:Hid ((g++[x]).filter (λr=>p r.xs)=g.filter (λr=>p r.xs)++[x]):=by rw[af,S];rfl
   have ay:Hid _:=U0 p j S;gi_wp2;refine⟨trivial,rfl,Z4 l2 (ZG.2 (d.mono ?_))⟩;rintro e R ⟨rfl,m⟩;have f:Kept (λ_=>True) Q R:=ZA m (λb a _=>a);have PS:=HJ.o _ _ _ _ G (f.mono (λ_ _ _=>trivial));have GV:=uQ y f trivial;obtain⟨fn,tmps,assign,body,hy,hR⟩:=HY.o _ x v R PS ay.o (ah.keep HX.o f.size (λb a _=>f.block b a trivial)) (λb h=>⟨(HF.o b h).1,(HF.o b h).2.imp id (by omega)⟩) (by have:=q.size;have:=f.size;omega);have aG:(Instr.yield l #[x.val]).run V R=.ok (.round l fn tmps assign body) R:=hy;obtain⟨HG,xI,au⟩:=fe L q m;gi_wp2;refine⟨rfl,hR.mono ?_⟩;rintro e W4 ⟨rfl,o2,Nn,z,C⟩;have aH:=au.o.size;have ag:=(ZA au.o (λb a _=>a)).trans z;gi_wp2;refine⟨o2,⟨by rw[HS.o];exact Nn,xI.o.trans' ag ?_,?_,?_,?_⟩,ag,?_⟩
   .intro b a h k;rcases HG.o b k with k|k
    .exact h k
    .omega
   .intro b a;have aI:=z.size;rcases C b a with h|h|h
    .exact(HG.o b h).imp id (λh=>⟨h.1,by omega⟩)
    .exact .inr ⟨by omega,h.2⟩
    .exact .inr ⟨h.2,by have:=ah.AV HX.o h.1;omega⟩
   .exact uQ GV z P
   .intro h;rcases C _ h with h|h|h
    .exact P h
    .omega
    .rcases (HF.o _ h.1).2 with k|k
     .have:=u.o.size;omega
     .omega
   .intro b a;rcases C b a with h|h|h
    .exact .inl h
    .exact .inr (.inl ⟨by omega,h.2⟩)
    .refine .inr (.inr ⟨h.1,?_⟩);rcases (HF.o _ h.1).2 with k|k
     .have:=u.o.size;omega
     .exact k
  .have ai:p x.xs=false:=by simpa using S
   rw[ai]at d;have az:(g++[x]).filter (λr=>p r.xs)=g.filter (λr=>p r.xs):=by rw[af,ai];simp
   have HS:=Zh az;gi_wp2;refine⟨trivial,rfl,Z4 l2 (ZG.2 (d.mono ?_))⟩;rintro e R ⟨rfl,m⟩;have f:Kept (λ_=>True) Q R:=ZA m (λb a _=>a);have PS:=HJ.o _ _ _ _ G (f.mono (λ_ _ _=>trivial));have GV:=uQ y f trivial;obtain⟨HG,xI,F3⟩:=fe L q f;gi_wp2;refine⟨λ_ h=>(by cases h),?_⟩;gi_wp2;exact⟨v,⟨by rw[HS.o];exact PS,xI.o.trans (F3.o.mono λ_ _ _=>trivial),λb h=>(HG.o b h).imp id (λh=>⟨h.1,by have:=F3.o.size;omega⟩),GV,P⟩,F3.o.mono (λ_ _ _=>trivial),λb h=>.inl h⟩
 case done=>
  rintro ys o' Q aB ⟨G,q,L,y,P⟩ aK aC hD;have h1:=H1.o;gi_wp2;have aA:¬o' (M (H w1)):=λh=>by
   rcases aC _ h with h|h
   .have:=(D.o _ h).2;omega
   .omega
  have xn:Kept (λb=>b≠M (H w1)) Q (Q.putObj (M (H w1)) (.deferred E5)):=ZB _ _ (λh=>h rfl);refine⟨by simp,.inl ⟨_,_,rfl,Z5 hD,?_⟩⟩;refine⟨_,Xa rfl _ _ _,⟨_,rfl⟩,ys.filter (λr=>p r.xs),o',?_,HJ.o _ _ _ _ G (xn.mono λb _ h=>?_),q.trans' xn (λb a _=>by omega),λb h=>(L b h).imp id (λh=>⟨h.1,by rw[Xb];omega⟩)⟩
  .rw[<-aB,ZW];rfl
  .rcases h with h|h
   .intro e;exact aA (e ▸ h)
   .omega
end
def ZY:=@uQ
section
theorem Kept.setCell{s:Nat->Prop}(W:U)(a:Addr)(v:KX)(hr:¬s a.block):Kept s W (W.setCell a v):=
 ⟨rfl,rfl,rfl,by simp[World.setCell],λk _ b=>Below.heap_setCell W a v k (λe=>hr (e ▸ b))⟩
def Kept.grown{s:Nat->Prop}{A B:U}{row:Option Nat}(hg:A.grownBy B row)(hr:∀r,row=O r->¬s r):Kept s A B:=
 ⟨hg.os,hg.tape,hg.output,hg.size,λk a b=>hg.block k a (λe=>hr k e.symm b)⟩
def vR{A B:U}{base:Nat}{e:TypeId}{sz:Nat}{v:KX}{n:Nat}{xs:List KX}(h:A.ownsRow base e sz v n xs){s:Nat->Prop}(hk:Kept s A B)(hs:∀g,v.ownBlock=O g->s g):B.ownsRow base e sz v n xs:=by
 refine⟨h.1,?_⟩;rcases h.2 with h|⟨g,cap,a,rfl,d,b,f,i,j,k⟩
 .exact .inl h
 .exact .inr ⟨g,cap,a,rfl,d,(hk.block g (ZH.1 b).1 (hs g rfl)).trans b,f,i,j,k⟩
theorem rV{A:U}{base:Nat}{e:TypeId}{sz:Nat}{v:KX}{n:Nat}{xs:List KX}(h:A.ownsRow base e sz v n xs){g:Nat}(hg:v.ownBlock=O g):base<=g/\g<M (H A):=by
 rcases h.2 with⟨rfl,_⟩|⟨g',cap,cur,rfl,hb,hg',_⟩
 .cases hg
 .cases hg
  grind
def uj{A:U}{base:Nat}{e:TypeId}{sz:Nat}{v:KX}{n:Nat}{xs:List KX}(h:A.ownsRow base e sz v n xs):∃a m cap,v=Z a m cap:=by
 rcases h.2 with⟨rfl,_⟩|⟨g',cap,cur,rfl,_⟩
 .exact⟨_,_,_,rfl⟩
 .exact⟨_,_,_,rfl⟩
def uR(Ez:El ae (List Int))(n:Nat)(v:KX)(pre:List ae)(b:Nat):Prop:=b=n∨v.ownBlock=O b∨(n<=b/\∃y∈pre,Ez.aT y=O b)
def xX(Ez:El ae (List Int))(n:Nat)(ys:List ae):Prop:=ys.Pairwise λy z=>∀b,Ez.aT y=O b->Ez.aT z=O b->b<n
structure gI(Ez:El ae (List Int))(n0:Nat)(w:U)(e:TypeId)(pre:List ae)(o1:Nat->Prop)(W:U)(v:KX):Prop where
 box:Am W (aD (M (H w)) 0)=O v
 DC:W.frozen? (aD (M (H w)) 0)=F
 own:W.ownsRow (M (H w)+1) e 1 v (N pre) (pre.map ae.val)
 at':∀y∈pre,Ez.At y W
 off:∀y∈pre,∀b,Ez.aT y=O b->b≠M (H w)/\v.ownBlock≠O b
 apart:xX Ez (M (H w)) pre
 born:∀y∈pre,∀b,Ez.aT y=O b->b<n0∨M (H w)<=b
 below:Bw w W
 iff:∀b,o1 b↔uR Ez (M (H w)) v pre b
def gI.keep{Ez:El ae (List Int)}{n0:Nat}{w:U}{e:TypeId}{pre:List ae}{o1:Nat->Prop}{A B:U}{v:KX}(h:gI Ez n0 w e pre o1 A v){n:Nat}(hn:M (H w)<=n)(hk:Kept (λb=>o1 b∨b<n) A B):gI Ez n0 w e pre o1 B v:=by
 have d:=(h.iff _).2 (.inl rfl);refine⟨ZY h.box hk (.inl d),(Xh (hk.block _ (ZJ h.box) (.inl d))).trans h.DC,vR h.own hk (λg i=>.inl ((h.iff _).2 (.inr (.inl i)))),λy hy=>?_,h.off,h.apart,h.born,h.below.trans (hk.below h.below.size (λb f=>.inr (by omega))),h.iff⟩;refine Ez.keep (h.at' y hy) hk.size (λb f a=>hk.block b f ?_);by_cases j:b<M (H w)
 .exact .inr (by omega)
 .exact .inl ((h.iff _).2 (.inr (.inr ⟨by omega,y,hy,a⟩)))
def gI.Gi(h:gI Ez n0 w e pre o1 W v)(hx:∀b,Ez.aT x=O b->¬o1 b) :
  (∀b,Ez.aT x=O b->b≠M (H w)/\v.ownBlock≠O b)/\xX Ez (M (H w)) (pre++[x]):=by
 refine⟨λb a=>⟨λe=>hx b a ((h.iff _).2 (.inl e)),λe=>hx b a ((h.iff _).2 (.inr (.inl e)))⟩,?_⟩;unfold xX;rw[Xi];refine⟨h.apart,List.pairwise_singleton _ _,?_⟩;intro y hy z g b a d;rw[Xj]at g;subst g;by_cases f:b<M (H w)
 .exact f
 .exact absurd ((h.iff _).2 (.inr (.inr ⟨by omega,y,hy,a⟩))) (hx b d)
theorem gI.more{W1 W2:U}{v':KX}(h:gI Ez n0 w e pre o1 W v)(hx:Ez.At x W)(hoff:∀b,Ez.aT x=O b->¬o1 b)(hbn:∀b,Ez.aT x=O b->b<n0∨M (H w)<=b)
  (ha:Kept (λ_=>True) W W1) (hs1:M (H W1)=M (H W)+1) (hown:W2.ownsRow (M (H w)+1) e 1 v' (N pre+1) (pre.map ae.val++[x.val])) (hg:W1.grownBy W2 v.ownBlock) (hat:v'.ownBlock=v.ownBlock∨v'.ownBlock=O (M (H W1))) (h1:v'.oneCell' = T) :
  gI Ez n0 w e (pre++[x]) (uR Ez (M (H w)) v' (pre++[x])) (qw W2 (aD (M (H w)) 0) v') v'/\Kept (λb=>¬o1 b) W (qw W2 (aD (M (H w)) 0) v')/\
  ∀b,uR Ez (M (H w)) v' (pre++[x]) b->o1 b∨(M (H W)<=b/\b<M (H (qw W2 (aD (M (H w)) 0) v')))∨(Ez.aT x=O b/\M (H w)<=b):=by
 have u:M (H (qw W2 (aD (M (H w)) 0) v'))=M (H W2):=by simp[World.setCell]
 have m:∀g,v.ownBlock=O g->M (H w)+1<=g/\g<M (H W):=λg hg=>rV h.own hg;have n:∀g,v'.ownBlock=O g->M (H w)+1<=g/\g<M (H W2):=λg hg=>rV hown hg;have i:Kept (λb=>v.ownBlock≠O b) W W2:=(ha.mono λ_ _ _=>trivial).trans (Kept.grown hg (λr e A=>A e));have f:Kept (λb=>v.ownBlock≠O b/\b≠M (H w)) W (qw W2 (aD (M (H w)) 0) v'):=(i.mono λ_ _ h=>h.1).trans (Kept.setCell _ _ _ (λh=>h.2 rfl));obtain⟨j,q⟩:=h.Gi hoff;have k:∀b,b<M (H W)->v'.ownBlock=O b->v.ownBlock=O b:=λb a e=>by grind
 have p:=ZY h.box i (λe=>by grind);refine⟨⟨?_,?_,?_,?_,?_,q,λy hy=>?_,?_,λb=>ZI⟩,f.mono ?_,?_⟩
 .exact World.cell?_setCell_same' _ _ _ (by rw[p];rfl)
 .rw[World.frozen?_setCell];exact(Xh (i.block _ (ZJ h.box) (λe=>by grind))).trans h.DC
 .have:=vR hown (s:=λb=>b≠M (H w)) (Kept.setCell W2 (aD (M (H w)) 0) v' (λh=>h rfl)) (λg hg=>by have:=n g hg;omega)
  simpa using this
 .intro y hy;rcases Ze.1 hy with hy|hy
  .exact Ez.keep (h.at' y hy) f.size (λb a d=>f.block b a ⟨(h.off y hy b d).2,(h.off y hy b d).1⟩)
  .rw[Xj]at hy;subst hy;exact Ez.keep hx f.size (λb a d=>f.block b a ⟨(j b d).2,(j b d).1⟩)
 .intro y hy b a;have z:b<M (H W)/\b≠M (H w)/\v.ownBlock≠O b:=by
   rcases Ze.1 hy with hy|hy
   .exact⟨Ez.AV (h.at' y hy) a,h.off y hy b a⟩
   .rw[Xj]at hy;subst hy;exact⟨Ez.AV hx a,j b a⟩
  grind
 .rcases Ze.1 hy with hy|hy
  .exact h.born y hy
  grind
 .exact h.below.trans (f.below (by have:=h.below.size;omega) (λb a=>⟨λe=>by have:=m b e;omega,by omega⟩))
 .intro b a l;exact⟨λe=>l ((h.iff _).2 (.inr (.inl e))),λe=>l ((h.iff _).2 (.inl e))⟩
 .rintro b (a|a|⟨a,y,hy,d⟩)
  .exact .inl ((h.iff _).2 (.inl a))
  .by_cases t:b<M (H W)
   .exact .inl ((h.iff _).2 (.inr (.inl (k b t a))))
   grind
  .rcases Ze.1 hy with hy|hy
   .exact .inl ((h.iff _).2 (.inr (.inr ⟨a,y,hy,d⟩)))
   grind
attribute [local go_sem] Oper.semAt_some
def Tryz.xY:(V.info? 23).map (λi=>(i.zero,i.size,i.bytes))=O (O (Z E5 0 0),1,24):=by kernel_rfl
def vS(Ez:El ae (List Int))(henc:∀x,Ez.enc x=x.val)(g:Nat)(lb:Array KX)(rows:List (List Int))(w0 w:U)(hb0:Bw w0 w)(hlen:N rows<=1000000)(hseq:Seq Ez V g lb rows w0)(eg:∀args w,(callFunc g args).run V w=.ok (.enter g args) w) :
  Calls V 18 #[.func (.func g) #[] lb] w λe w'=>∃v ys o,e=FR v/\ys.map Ez.key=rows/\gI Ez (M (H w0)) w 23 ys o w' v:=by
 obtain⟨i0,hi,R,S,X⟩:=Xk Tryz.xY;obtain⟨HL,i⟩:=aV hlen hb0;have p:Hid (M (H (w.alloc (FL #[Z E5 0 0] 30)))=M (H w)+1):=by show _=_;simp
 have L:Hid (Bw w (w.alloc (FL #[Z E5 0 0] 30))):=bJ _ _;refine(ZG (n:=0)).1 (Z0 Tryz.func18 rfl trivial ?_ rfl);simp only[Tryz.ntmps18,ZN,QJ,ZO,Nat.reduceAdd,Nat.reduceSub,ZP,ZQ,ZR,ZT,ZU,ZV];gi_wp2;have d:gI Ez (M (H w0)) w 23 [] (uR Ez (M (H w)) (Z E5 0 0) []) (w.alloc (FL #[Z E5 0 0] 30)) (Z E5 0 0):=
  ⟨by simp,by simp,Xl _ _ _ _,λ_ h=>by simp at h,λ_ h=>by simp at h,List.Pairwise.nil,λ_ h=>by simp at h,L.o,λ_=>ZI⟩
 obtain⟨w1,z⟩:=eX (w.alloc (FL #[Z E5 0 0] 30));rw[z]at d p L;rw[z];refine oz Ez (gf:=g) (lb:=lb) rfl eg hseq (i.o.trans (L.o.mono i.o.size)) rfl
  (λk o1 W=>∃v,gI Ez (M (H w0)) w 23 k o1 W v) (uR Ez (M (H w)) (Z E5 0 0) []) ?_ ?_ ⟨_,d⟩
  (λx=>{ tmps:=#[.func (.func g) #[] lb,undef,Z E5 0 0,Y (O (aD (M (H w)) 0)),x.val,.func (.func g) #[] lb,x.val,undef,undef,undef,undef,undef],defers:=[] }) ?assign ?body ?done
 .rintro b (h|h|⟨_,y,hy,_⟩)
  .have:=p.o;have:=i.o.size;omega
  .cases h
  .simp at hy
 .rintro k o1 A B ⟨v,h⟩ hk;exact⟨v,h.keep (by have:=p.o;omega) hk⟩
 case assign=>
  intro l x W K hK;gi_wp2;exact hK
 case body=>
  rintro l k x o1 W ⟨v,d⟩ m hx C ak;have ag:N k+1<=1000000:=by have:=m.length_le;rw[Q8,QI]at this;exact Q6 this HL.o
  obtain⟨va,vn,vc,rfl⟩:=uj d.own;have hc:=d.box;have q:=d.own;obtain⟨HG,HX,HF⟩:=fe d hx C;have HP:Hid _:=m;have ah:=d.below.size;have P:=d.DC;obtain⟨fO,bF,gM⟩:=x;unfold ae.val;simp only;gi_wp2_with (gi_at_builtin;refine wpListIn_append_own_at _ rfl _ _ 30 rfl (M (H w)+1) 23 i0 (.slice E5 0 0) 1 24 Tryz.underlying30 hi R S X rfl (by decide) _ _ _ rfl (q.alloc _) (aD (M (H W)) 0) 1 1 [.slice fO (N gM) bF] rfl rfl ?q1 ?q2 ?q3 ?q4 ?q5 ?_)
  case q1=>
   intro j u G
   match j,G with
   |0,G=>simp at G;subst G;simp[Addr.add]
  case q2=>intro u hu;simp at hu;subst hu;rfl
  case q3=>unfold maxLen;omega
  case q4=>omega
  case q5=>simp;omega
  intro v' w3 f a _ PT;obtain⟨au,av,ax,rfl⟩:=uj f;have Mq:=HG.o.more HX.o (λb D=>(HF.o b D).1) (λb D=>(HF.o b D).2.imp id (by have:=p.o;omega)) (ZE _ _) (by simp) f a (by rw[Xm];exact PT) rfl;have h1:=p.o;have ai:Am w3 (aD (M (H w)) 0)=O (Z va vn vc):=by refine ZY (ZY hc (ZE (s:=λ_=>True) W _) trivial) (Kept.grown (s:=λb=>(Value.slice va vn vc).ownBlock≠O b) a (λr e hr=>hr e)) ?_;intro e;have:=(rV HG.o.own e).1;exact absurd this (by show ¬(M (H w)+1<=M (H w));omega)
  have aj:w3.frozen? (aD (M (H w)) 0)=false:=by refine(Xh (Eq.trans (a.block _ (by simp;omega) ?_) (Below.heap_alloc W _ _ (by show M (H w)<_;omega)))).trans P;intro e;have:=(rV HG.o.own e.symm).1;exact absurd this (by show ¬(M (H w)+1<=M (H w));omega)
  have HM:=Zh Mq;gi_wp2;obtain⟨m1,m2,m3⟩:=HM.o;refine⟨_,⟨_,m1⟩,m2,λb D=>?_⟩;rcases m3 b D with h|h|⟨h,h'⟩
  .exact .inl h
  .exact .inr (.inl h)
  .refine .inr (.inr ⟨h,?_⟩);rcases (HF.o b h).2 with t|t
   .have:=i.o.size;omega
   .exact t
 case done=>
  rintro ys o' W2 aa ⟨v,d⟩ ay af hD;have hc:=d.box;have h1:=p.o;gi_wp2;have Q:¬o' (M (H w1)):=λh=>by
   rcases af _ h with (h|h|⟨_,y,hy,_⟩)|h
   .omega
   .cases h
   .simp at hy
   .omega
  refine⟨by simp,.inl ⟨_,_,rfl,Z5 hD,?_⟩⟩;refine⟨_,results_tmp rfl _ _ _,v,ys,o',rfl,aa,d.keep (n:=M (H w1)) (by omega) (ZB _ _ ?_)⟩;rintro (h|h)
  .exact Q h
  .omega
end
def Xc:=@Kept.setCell
def Xd:=@Kept.grown
def Xe:=@vR
def Xf:=@rV
def Xg:=@uj
def Ch(w:U)(d:Option Addr)(db:List aJ):Prop:=qJ w d db/\∀i,i<N db->bL w (E db i rz).ad (E db i rz).rs
def Ch.below{w w':U}(hb:Bw w w'){d:Option Addr}{db:List aJ}(h:Ch w d db):Ch w' d db:=⟨h.1.below hb,λi a=>(h.2 i a).below hb⟩
def Kept.drewN{s:Nat->Prop}(W:U)(n:Nat):Kept s W (W.drewN n):=ZA (Qy (Qr (M (H W)) W) n) (λ_ a _=>a)
def GB.alloc(w:U)(c:Array KX)(t:TypeId):GB (w.alloc (FL c t)) (M (H w)) t c:=iX w _
def GB.keep{w':U}{t:TypeId}{s:Nat->Prop}(h:GB w G t c)(hk:Kept s w w')(hs:s G):GB w' G t c:=h.of (hk.block G h.lt hs)
def Xv:=@Kept.drewN
theorem VE{P:Program}{Q:Exit->Act->U->Prop}{l:Nat}(hd:∀o∈ops,∀c,o.op ≠ .defer c)(hK:∀a w,K a w->K' a w)(h:wpOpIn Fence.wide 0 P ops Q i K a w):wpOpIn (Fence.wide.inRound l) 0 P ops Q i K' a w:=by
 unfold wpOpIn at*
 cases ho:ops[i]? with
 |none=>simp_all
 |some o =>
  rw[ho]at h;simp only at*;have f:=Array.mem_of_getElem? ho;by_cases j:Region.wanted o (yielded ops a.tmps)=T
  .rw[Qu j]at*;unfold Oper.wpIn at*;refine⟨h.1,?_⟩;have b:=h.2;rw[Oper.semAt_plain Fence.wide _ _ (hd o f)]at b;rw[Oper.semAt_plain (Fence.wide.inRound l) _ _ (hd o f)];generalize Sem.run P (execOp a.eval o) w=r at*;unfold Oper.uponIn at*;split at b
   .simp_all
   .simp_all
   .simp_all
   .exact⟨b.1,b.2.mono (λe g d=>by
     grind)⟩
   .exact⟨b.1,b.2.mono (λv g d=>hK _ _ d)⟩
   .exact⟨b.1,b.2.mono (λe g d=>by
     grind)⟩
   .exact b
   omega
  simp_all
def nL{P:Program}{md:Region.Mode}{ops:Array Oper}{Q:Exit->Act->U->Prop}{l:Nat}(hd:∀o∈ops,∀c,o.op ≠ .defer c):∀(fuel:Nat) (listed:Array Bool) (a:Act) (w:U),
  wpAnyIn Fence.wide 0 P md ops Q fuel listed a w->wpAnyIn (Fence.wide.inRound l) 0 P md ops Q fuel listed a w
 |0,_,_,_,h=>h
 |fuel+1,listed,a,w,h=>⟨h.1,λi b=>VE hd (λd e f=>nL hd fuel _ d e f) (h.2 i b)⟩
def NR(ops:Array Oper):Bool:=ops.all λo=>match o.op with|.defer _=>F|_=>T
theorem l8(h:NR ops=T):∀o∈ops,∀c,o.op ≠ .defer c:=by intro o a c b;unfold NR at h;rw[Array.all_eq_true_iff_forall_mem]at h;grind
def Kj{Fq:Fence}{P:Program}{o:Oper}{Q:Exit->Act->U->Prop}{Ez:Prop}(hgd:o.guard=E5)(s x:Operand)(t:TypeId)
  (ho:o.op=.call { callee:=.builtin .append,args:=#[s,x],argTypes:=#[t,t] }) (v u v':KX) (w':U) (hs:a.eval s=v) (hx:a.eval x=u)
  (hrun:(Builtin.append_ #[t,t] o.type #[v,u]).run P w=.ok v' w') (h:K (a.put o.dst v') w'):if Region.wanted o (yielded ops a.tmps)=T then Oper.wpIn Fq n P o a w K Q else Ez:=by
 have b:Region.wanted o (yielded ops a.tmps)=true:=by simp[Region.wanted,hgd]
 rw[Qu b];unfold Oper.wpIn;refine⟨by simp[Oper.about,ho,resolve,Target.leads,Sem.run_pure],?_⟩;rw[Oper.semAt_plain Fq _ _ (by simp_all)];simp[execOp,ho,resolve,invoke,builtin,hs,hx,hrun,Result.andThen];exact h
def step_append{P:Program}{ops:Array Oper}{o:Oper}{a:Act}{w:U}{K:Act->U->Prop}{Q:Exit->Act->U->Prop}{Ez:Prop}(hgd:o.guard=E5)(s x:Operand)(t:TypeId)
  (ho:o.op=.call { callee:=.builtin .append,args:=#[s,x],argTypes:=#[t,t] }) (v u v':KX) (w':U) (hs:a.eval s=v) (hx:a.eval x=u)
  (hrun:(Builtin.append_ #[t,t] o.type #[v,u]).run P w=.ok v' w') (h:K (a.put o.dst v') w'):if Region.wanted o (yielded ops a.tmps)=T then Oper.wp P o a w K Q else Ez:=by
 have b:Region.wanted o (yielded ops a.tmps)=true:=by simp[Region.wanted,hgd]
 rw[Qu b];unfold Oper.wp;simp[execOp,ho,resolve,invoke,builtin,hs,hx,hrun,Result.andThen];exact h
def X6:=@step_append
theorem VZ{P:Program}{Q:Exit->Act->U->Prop}{l:Nat}(hd:∀o∈ops,∀c,o.op ≠ .defer c)(hQ:¬LetsOut Q)(hK:∀a w,K a w->K' a w)(h:wpOp P ops Q i K a w):wpOpIn (Fence.wide.inRound l) 0 P ops Q i K' a w:=by
 unfold wpOp at h;unfold wpOpIn
 cases ho:ops[i]? with
 |none=>simp_all
 |some o =>
  rw[ho]at h;simp only at*;have f:=Array.mem_of_getElem? ho;by_cases d:Region.wanted o (yielded ops a.tmps)=T
  .rw[Qu d]at*;rcases h with h|⟨_,h⟩
   .unfold Oper.wp at h;unfold Oper.wpIn;refine⟨λ_ _=>trivial,?_⟩;rw[Oper.semAt_plain (Fence.wide.inRound l) _ _ (hd o f)];generalize Sem.run P (execOp a.eval o) w=r at*;unfold Oper.upon at h;unfold Oper.uponIn;split at h
    .simp_all
    .simp_all
    .simp_all
    .refine⟨λh=>absurd h (by simp[Fence.wide,Fence.inRound]),Z4 l (ZG.2 (h.mono λe b g=>?_))⟩
     grind
    .exact⟨λh=>absurd h (by simp[Fence.wide,Fence.inRound]),λc cs _=>let ⟨v,b,r,s⟩:=h c cs;⟨v,b,hK _ _ r,stepsIn_wide.2 s⟩⟩
    .exact h
    simp_all
   simp_all
  .rw[QC d]at*;exact⟨λ_ _=>trivial,hK _ _ h⟩
def E8{P:Program}{md:Region.Mode}{ops:Array Oper}{Q:Exit->Act->U->Prop}{l:Nat}(hd:∀o∈ops,∀c,o.op ≠ .defer c)(hQ:¬LetsOut Q):∀(fuel:Nat) (listed:Array Bool) (a:Act) (w:U),
  wpAny P md ops Q fuel listed a w->wpAnyIn (Fence.wide.inRound l) 0 P md ops Q fuel listed a w
 |0,_,_,_,h=>h
 |fuel+1,listed,a,w,h=>⟨h.1,λi b=>VZ hd hQ (λd e f=>E8 hd hQ fuel _ d e f) (h.2 i b)⟩
def wO{P:Program}{Q:Exit->Act->U->Prop}{l id:Nat}(hm:P.follows .mixedOrders=T)(hd:NR ops=T)(hQ:¬LetsOut Q)
  (h:wpAnyH P .any ops Q S ops.size (Array.replicate ops.size F) a w.drew):(Code.region id ops T).wpIn (Fence.wide.inRound l) 0 P Q a w:=
 wpIn_region_any hm (E8 (l8 hd) hQ _ _ _ _ (wpAny_of_held _ _ _ _ h))
def aeM{x:U}(hx:Bw W x)(b o:Nat)(h:(Am W (aD b o)).isSome=T):Am x (aD b o)=Am W (aD b o):=by obtain⟨v,a⟩:=Option.isSome_iff_exists.1 h;rw[a,cB hx a]
def Wq(p:Prop):Prop:=p
theorem Wq.o(h:Wq p):p:=h
def al2 [Decidable p] (h:¬p) (k:Value.bool F=v):Value.bool (decide p)=v:=by rw[QX h];exact k
def al3 [Decidable p] (h:p) (k:Value.bool T=v):Value.bool (decide p)=v:=by rw[QD h];exact k
def Uu(_:Nat):Prop:=True
def Uu.s(_:Uu i):Uu (i+1):=trivial
theorem wa{P:Program}{Q:Exit->Act->World->Prop}(_:Uu i)(hS:Bw W w)(h:wpAnyH P md ops Q (λx=>Bw W x) fuel (listed.setIfInBounds i true) (a.put (some k) v) w)(hi:ops[i]? = some oi:=by exact rfl)(hk:oi.dst=some k:=by exact rfl)(hs:Region.noSelect ops=true:=by kernel_rfl)(hf:Region.free md ops listed i=true:=by kernel_rfl)(hr:(Region.ready md ops listed).contains i=true:=by kernel_rfl)(hQ:∀c a w,Q (.panic c) (a.put oi.dst v) w->Q (.panic c) a w:=by first|exact λ_ _ _ h=>h|exact λ_ _ _ h=>by cases h.1)(hg:Region.wanted oi (yielded ops a.tmps)=true:=by rfl)(hy:∀x,Bw W x->(execOp a.eval oi).run P x=.ok (.value v) x:=by intro x hx;have hc:=aeM hx;go_simp;first|done|(refine al2 ?_ rfl;omega)|(refine al3 ?_ rfl;omega)|rfl):wpAnyH P md ops Q (λx=>Bw W x) (fuel+1) listed a w:=
 Qa hi hs hf hr hQ (.inl ⟨hg,hy⟩) hS (by rw[hk];exact h)
theorem wb{P:Program}{Q:Exit->Act->World->Prop}(_:Uu i)(hS:Bw W w)(h:wpAnyH P md ops Q (λx=>Bw W x) fuel (listed.setIfInBounds i true) (a.put (some k) v) w)(hi:ops[i]? = some oi:=by exact rfl)(hk:oi.dst=some k:=by exact rfl)(hs:Region.noSelect ops=true:=by kernel_rfl)(hf:Region.free md ops listed i=true:=by kernel_rfl)(hr:(Region.ready md ops listed).contains i=true:=by kernel_rfl)(hQ:∀c a w,Q (.panic c) (a.put oi.dst v) w->Q (.panic c) a w:=by first|exact λ_ _ _ h=>h|exact λ_ _ _ h=>by cases h.1)(hg:Region.wanted oi (yielded ops a.tmps)=true:=by kernel_rfl)(hy:∀x,Bw W x->(execOp a.eval oi).run P x=.ok (.value v) x:=by intro x hx;have hc:=aeM hx;go_simp;first|done|(refine al2 ?_ rfl;omega)|(refine al3 ?_ rfl;omega)|rfl):wpAnyH P md ops Q (λx=>Bw W x) (fuel+1) listed a w:=
 Qa hi hs hf hr hQ (.inl ⟨hg,hy⟩) hS (by rw[hk];exact h)
def wu{P:Program}{Q:Exit->Act->World->Prop}(_:Uu i)(hS:S w)(h:wpAnyH P md ops Q S fuel (listed.setIfInBounds i true) (a.put (some k) undef) w)(hi:ops[i]? = some oi:=by exact rfl)(hk:oi.dst=some k:=by exact rfl)(hs:Region.noSelect ops=true:=by kernel_rfl)(hf:Region.free md ops listed i=true:=by kernel_rfl)(hr:(Region.ready md ops listed).contains i=true:=by kernel_rfl)(hQ:∀c a w,Q (.panic c) (a.put oi.dst undef) w->Q (.panic c) a w:=by first|exact λ_ _ _ h=>h|exact λ_ _ _ h=>by cases h.1)(hg:Region.wanted oi (yielded ops a.tmps)=false:=by kernel_rfl):wpAnyH P md ops Q S (fuel+1) listed a w:=
 Qa hi hs hf hr hQ (.inr ⟨hg,rfl⟩) hS (by rw[hk];exact h)
def Fz(i:Nat)(s:C)(k:Q)(h:Uu i->C->Wq Q->P:=by
  intro a b d;refine wa a b ?_;try simp only[pU]
  exact d.o):P:=h trivial s k
def wA2(i:Nat)(s:C)(k:Q)(h:Uu i->C->Wq Q->P:=by
  intro a b d;refine wa a b ?_;refine wa a.s b ?_;try simp only[pU]
  exact d.o):P:=h trivial s k
def wA3(i:Nat)(s:C)(k:Q)(h:Uu i->C->Wq Q->P:=by
  intro a b d;refine wa a b ?_;refine wa a.s b ?_;refine wa a.s.s b ?_;try simp only[pU]
  exact d.o):P:=h trivial s k
def wA4(i:Nat)(s:C)(k:Q)(h:Uu i->C->Wq Q->P:=by
  intro a b d;refine wa a b ?_;refine wa a.s b ?_;refine wa a.s.s b ?_;refine wa a.s.s.s b ?_;try simp only[pU]
  exact d.o):P:=h trivial s k
def wA5(i:Nat)(s:C)(k:Q)(h:Uu i->C->Wq Q->P:=by
  intro a b d;refine wa a b ?_;refine wa a.s b ?_;refine wa a.s.s b ?_;refine wa a.s.s.s b ?_;refine wa a.s.s.s.s b ?_;try simp only[pU]
  exact d.o):P:=h trivial s k
def wA6(i:Nat)(s:C)(k:Q)(h:Uu i->C->Wq Q->P:=by
  intro a b d;refine wa a b ?_;refine wa a.s b ?_;refine wa a.s.s b ?_;refine wa a.s.s.s b ?_;refine wa a.s.s.s.s b ?_;refine wa a.s.s.s.s.s b ?_;try simp only[pU]
  exact d.o):P:=h trivial s k
def wA8(i:Nat)(s:C)(k:Q)(h:Uu i->C->Wq Q->P:=by
  intro a b d;refine wa a b ?_;refine wa a.s b ?_;refine wa a.s.s b ?_;refine wa a.s.s.s b ?_;refine wa a.s.s.s.s b ?_;refine wa a.s.s.s.s.s b ?_;refine wa a.s.s.s.s.s.s b ?_;refine wa a.s.s.s.s.s.s.s b ?_;try simp only[pU]
  exact d.o):P:=h trivial s k
def FD(i:Nat)(s:C)(k:Q)(h:Uu i->C->Wq Q->P:=by
  intro a b d;refine wa a b ?_;refine wa a.s b ?_;refine wa a.s.s b ?_;refine wa a.s.s.s b ?_;refine wa a.s.s.s.s b ?_;refine wa a.s.s.s.s.s b ?_;refine wa a.s.s.s.s.s.s b ?_;refine wa a.s.s.s.s.s.s.s b ?_;refine wa a.s.s.s.s.s.s.s.s b ?_;refine wa a.s.s.s.s.s.s.s.s.s b ?_;try simp only[pU]
  exact d.o):P:=h trivial s k
def wB9(i:Nat)(s:C)(k:Q)(h:Uu i->C->Wq Q->P:=by
  intro a b d;refine wb a b ?_;refine wb a.s b ?_;refine wb a.s.s b ?_;refine wb a.s.s.s b ?_;refine wb a.s.s.s.s b ?_;refine wb a.s.s.s.s.s b ?_;refine wb a.s.s.s.s.s.s b ?_;refine wb a.s.s.s.s.s.s.s b ?_;refine wb a.s.s.s.s.s.s.s.s b ?_;try simp only[pU]
  exact d.o):P:=h trivial s k
def wS9(i:Nat)(s:C)(k:Q)(h:Uu i->C->Wq Q->P:=by
  intro a b d;refine wu a b ?_;refine wu a.s b ?_;refine wu a.s.s b ?_;refine wu a.s.s.s b ?_;refine wu a.s.s.s.s b ?_;refine wu a.s.s.s.s.s b ?_;refine wu a.s.s.s.s.s.s b ?_;refine wu a.s.s.s.s.s.s.s b ?_;refine wu a.s.s.s.s.s.s.s.s b ?_;try simp only[pU]
  exact d.o):P:=h trivial s k
def wE(k:Q)(h:Wq Q->P:=by
  intro a;refine wD ?_;simp only[Act.put,List.getElem_toArray,List.getElem_cons_succ,List.getElem_cons_zero,QG,Qb,Qc];exact a.o):P:=h k
def qx{p r:Value->Prop}(k:r v)(h:p v:=by intro x hx;have hc:=aeM hx;go_simp;first|done|(refine al2 ?_ rfl;omega)|(refine al3 ?_ rfl;omega)|rfl):∃v,p v/\r v:=⟨v,h,k⟩
def lQ(k:Q)(h:Wq Q->P:=by
  intro a;go_big_quiet_want;refine qx ?_;simp only[pU];go_big_quiet_on;exact a.o):P:=h k
def Gw(k:Q)(h:Wq Q->P:=by
  intro a;iterate 2
   go_big_quiet_want;refine qx ?_;simp only[pU];go_big_quiet_on
  exact a.o):P:=h k
def qA3(k:Q)(h:Wq Q->P:=by
  intro a;iterate 3
   go_big_quiet_want;refine qx ?_;simp only[pU];go_big_quiet_on
  exact a.o):P:=h k
def qA4(k:Q)(h:Wq Q->P:=by
  intro a;iterate 4
   go_big_quiet_want;refine qx ?_;simp only[pU];go_big_quiet_on
  exact a.o):P:=h k
def qA5(k:Q)(h:Wq Q->P:=by
  intro a;iterate 5
   go_big_quiet_want;refine qx ?_;simp only[pU];go_big_quiet_on
  exact a.o):P:=h k
def qA6(k:Q)(h:Wq Q->P:=by
  intro a;iterate 6
   go_big_quiet_want;refine qx ?_;simp only[pU];go_big_quiet_on
  exact a.o):P:=h k
def qA8(k:Q)(h:Wq Q->P:=by
  intro a;iterate 8
   go_big_quiet_want;refine qx ?_;simp only[pU];go_big_quiet_on
  exact a.o):P:=h k
def aio(k:Q)(h:Wq Q->P:=by
  intro a;iterate 10
   go_big_quiet_want;refine qx ?_;simp only[pU];go_big_quiet_on
  exact a.o):P:=h k
