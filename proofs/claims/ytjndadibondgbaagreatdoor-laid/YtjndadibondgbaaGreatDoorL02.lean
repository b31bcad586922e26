import Derived.Test.YtjndadibondgbaaGreatDoorL01
set_option linter.all false
set_option maxRecDepth 100000
set_option maxHeartbeats 16000000
namespace Go.Proofs.Zz
open Go.RowKit Go.Shelf
def bK{α:Type}(lt:α->α->Bool)(x:α):List α->List α
 | [] => [x]
 | y::r => if lt x y=true then y::bK lt x r else x::y::r
def jk{α:Type}(lt:α->α->Bool)(x:α)(l:List α):List α:=(bK lt x l.reverse).reverse
def mg{α:Type}(lt:α->α->Bool)(A B:List α):List α:=B.foldl (fun out x=>jk lt x out) A
structure Ahead{α:Type}(lt:α->α->Bool):Prop where
 asymm:∀ {x y},lt x y=true->lt y x=false
 trans:∀ {x y z},lt x y=true->lt y z=true->lt x z=true
 ntrans:∀ {x y z},lt y x=false->lt z y=false->lt z x=false
def bS{α:Type}(lt:α->α->Bool)(l:List α):Prop:=l.Pairwise fun a b=>lt b a=false
section
variable {α:Type} {lt:α->α->Bool}
theorem V4(x y:α)(l:List α):jk lt x (l++[y])=if lt x y=true then jk lt x l++[y] else l++[y,x]:=by
 unfold jk;rw[List.reverse_append]
 show (if lt x y=true then y::bK lt x l.reverse else x::y::l.reverse).reverse=_
 split <;> simp
theorem Bn(b:α):∀ (r s:List α),(∀ a∈r,lt b a=true)->bK lt b (r++s)=r++bK lt b s
 | [],_,_ => rfl
 | a::r,s,h => by
  show (if lt b a=true then a::bK lt b (r++s) else b::a::(r++s))=_
  rw[Qu (h a (by simp)),Bn b r s (fun x hx=>h x (by simp[hx]))];rfl
theorem Ni(b:α):∀ (s:List α),(∀ a∈s,lt b a=false)->bK lt b s=b::s
 | [],_ => rfl
 | a::s,h => by
  show (if lt b a=true then a::bK lt b s else b::a::s)=_
  rw[Qv (by rw[h a (by simp)]; simp)]
theorem yT(b:α)(s:List α)(h:∀ a∈s,lt b a=false):∀ (r:List α),bK lt b (r++s)=bK lt b r++s
 | [] => Ni b s h
 | a::r => by
  show (if lt b a=true then a::bK lt b (r++s) else b::a::(r++s))=(if lt b a=true then a::bK lt b r else b::a::r)++s
  rw[yT b s h r];split <;> rfl
theorem vw{b:α}{A1 A2:List α}(h:∀ a∈A2,lt b a=true):jk lt b (A1++A2)=jk lt b A1++A2:=by
 unfold jk;rw[List.reverse_append,Bn b _ _ (fun a d=>h a (by simpa using d))];simp
theorem Dv{b:α}{A1 A2:List α}(h:∀ a∈A1,lt b a=false):jk lt b (A1++A2)=A1++jk lt b A2:=by
 unfold jk;rw[List.reverse_append,yT b _ (fun a d=>h a (by simpa using d))];simp
theorem Ib{b:α}{A:List α}(h:∀ a∈A,lt b a=false):jk lt b A=A++[b]:=by
 have:=Dv (lt:=lt) (b:=b) (A1:=A) (A2:=[]) h
 rwa [XB]at this
theorem Ic(b:α)(A:List α):(jk lt b A).Perm (A++[b]):=by
 unfold jk;refine(List.reverse_perm _).trans ?_;have:∀ r:List α,(bK lt b r).Perm (b::r):=by
  intro r
  induction r with
  | nil => exact XC _
  | cons a r ih =>
   show (if lt b a=true then a::bK lt b r else b::a::r).Perm _
   split
   ·exact(List.Perm.cons a ih).trans (List.Perm.swap b a r)
   ·exact XC _
 refine(this _).trans ?_;refine(List.Perm.cons b (List.reverse_perm A)).trans ?_;exact(List.perm_append_comm (l₁:=[b]) (l₂:=A))
theorem abM{b x:α}{A:List α}:x∈jk lt b A↔x∈A∨x=b:=by
 rw[(Ic (lt:=lt) b A).mem_iff];simp
theorem abN(A:List α):mg lt A []=A:=rfl
theorem Dw(A B C:List α):mg lt A (B++C)=mg lt (mg lt A B) C:=by unfold mg; rw[ZZ]
theorem Kg(A:List α)(b:α):mg lt A [b]=jk lt b A:=rfl
theorem pQ(A B:List α)(b:α):mg lt A (b::B)=mg lt (jk lt b A) B:=rfl
theorem rJ:∀ (B A:List α),(mg lt A B).Perm (A++B)
 | [],A => by rw[abN,XB]
 | b::B,A => by
  rw[pQ];refine(rJ B _).trans ?_;refine(List.Perm.append_right B (Ic b A)).trans ?_;rw[QH];exact XC _
theorem xM{x:α}{A B:List α}:x∈mg lt A B↔x∈A∨x∈B:=by
 rw[(rJ (lt:=lt) B A).mem_iff,Zx]
theorem nH(A B:List α):(mg lt A B).length=A.length+B.length:=by
 rw[(rJ (lt:=lt) B A).length_eq,ZC]
theorem U1:∀ (B A1 A2:List α),(∀ b∈B,∀ a∈A2,lt b a=true)->mg lt (A1++A2) B=mg lt A1 B++A2
 | [],_,_,_ => rfl
 | b::B,A1,A2,h => by
  rw[pQ,pQ,vw (h b (by simp)),U1 B _ _ (fun x hx=>h x (by simp[hx]))]
theorem Nj:∀ (B A1 A2:List α),(∀ b∈B,∀ a∈A1,lt b a=false)->mg lt (A1++A2) B=A1++mg lt A2 B
 | [],_,_,_ => rfl
 | b::B,A1,A2,h => by
  rw[pQ,pQ,Dv (h b (by simp)),Nj B _ _ (fun x hx=>h x (by simp[hx]))]
theorem Nk{A1 A2 B1 B2:List α}(h1:∀ b∈B1,∀ a∈A2,lt b a=true)(h2:∀ b∈B2,∀ a∈A1,lt b a=false)(h3:∀ b∈B2,∀ a∈B1,lt b a=false) :
  mg lt (A1++A2) (B1++B2)=mg lt A1 B1++mg lt A2 B2:=by
 rw[Dw,U1 B1 A1 A2 h1,Nj];intro b d a e;rcases xM.1 e with h | h
 ·exact h2 b d a h
 ·exact h3 b d a h
theorem Dx:∀ {B:List α},bS lt B->∀ {A:List α},(∀ b∈B,∀ a∈A,lt b a=false)->mg lt A B=A++B
 | [],_,A,_ => by rw[abN,XB]
 | b::B,h,A,hA => by
  unfold bS at h;rw[XD]at h;rw[pQ,Ib (hA b (by simp)),Dx h.2,QH]
  ·rfl
  ·intro x hx a ha;rcases Zx.1 ha with ha | ha
   ·exact hA x (by simp[hx]) a ha
   ·rw[Zw]at ha;subst ha;exact h.1 x hx
theorem Bo(O:Ahead lt){x y:α}(h:lt x y=true):∀ r:List α,bK lt x (bK lt y r)=bK lt y (bK lt x r)
 | [] => by
  show (if lt x y=true then y::bK lt x [] else x::y::[])=(if lt y x=true then x::bK lt y [] else y::x::[])
  rw[Qu h,Qv (by rw[O.asymm h]; simp)];rfl
 | z::r => by
  by_cases hy:lt y z=true
  ·have hx:=O.trans h hy;have e1:bK lt y (z::r)=z::bK lt y r:=Qu hy;have e2:bK lt x (z::r)=z::bK lt x r:=Qu hx;rw[e1,e2]
   show (if lt x z=true then z::bK lt x (bK lt y r) else _)=(if lt y z=true then z::bK lt y (bK lt x r) else _)
   rw[Qu hx,Qu hy,Bo O h r]
  ·have e1:bK lt y (z::r)=y::z::r:=Qv hy;have e2:bK lt x (y::z::r)=y::bK lt x (z::r):=Qu h;rw[e1,e2];by_cases hx:lt x z=true
   ·have e3:bK lt x (z::r)=z::bK lt x r:=Qu hx;rw[e3];exact(Qv hy).symm
   ·have e3:bK lt x (z::r)=x::z::r:=Qv hx;rw[e3];exact(Qv (by rw[O.asymm h]; simp)).symm
theorem V5(O:Ahead lt){x y:α}(h:lt x y=true)(l:List α):jk lt x (jk lt y l)=jk lt y (jk lt x l):=by
 unfold jk;rw[List.reverse_reverse,List.reverse_reverse,Bo O h]
theorem Ie(O:Ahead lt)(L:List α)(b:α):∀ r:List α,(bK lt b r).foldr (jk lt) L=jk lt b (r.foldr (jk lt) L)
 | [] => rfl
 | s::r => by
  show (if lt b s=true then s::bK lt b r else b::s::r).foldr (jk lt) L=_
  split
  ·rename_i h
   rw[List.foldr_cons,Ie O L b r,List.foldr_cons,V5 O h]
  ·rfl
theorem V6(O:Ahead lt)(L:List α)(B:List α):mg lt L (mg lt [] B)=mg lt L B:=by
 have key:∀ r:List α,(r.foldr (bK lt) []).foldr (jk lt) L=r.foldr (jk lt) L:=by
  intro r
  induction r with
  | nil => rfl
  | cons b r ih => rw[List.foldr_cons,Ie O,ih,List.foldr_cons]
 have a:∀ X:List α,mg lt L X=X.reverse.foldr (jk lt) L:=fun X=>by
  unfold mg;rw[List.foldr_reverse]
 have e:∀ r:List α,(mg lt [] r.reverse).reverse=r.foldr (bK lt) []:=by
  intro r
  induction r with
  | nil => rfl
  | cons b r ih =>
   rw[List.reverse_cons,Dw,Kg,List.foldr_cons,<- ih];unfold jk;rw[List.reverse_reverse]
 have d:=e B.reverse;rw[List.reverse_reverse]at d;rw[a (mg lt [] B),d,key,a B]
theorem abO(O:Ahead lt){x:α}{A:List α}(h:bS lt A):bS lt (jk lt x A):=by
 unfold jk;have d:A.reverse.Pairwise (fun a b=>lt a b=false):=by rw[List.pairwise_reverse]; exact h
 unfold bS;rw[List.pairwise_reverse];generalize A.reverse=r at d
 induction r with
 | nil => exact Zv _ _
 | cons a r ih =>
  rw[XD]at d
  show (if lt x a=true then a::bK lt x r else x::a::r).Pairwise _
  split
  ·rename_i hx
   rw[XD];refine⟨fun y g=>?_,ih d.2⟩;have i:y∈(bK lt x r).reverse:=by simpa using g
   have f:y∈jk lt x r.reverse:=by unfold jk; rwa [List.reverse_reverse]
   rcases abM.1 f with h | h
   ·exact d.1 y (by simpa using h)
   ·rw[h]; exact O.asymm hx
  ·rename_i hx
   have e:lt x a=false:=by simpa using hx
   rw[XD];refine⟨fun y g=>?_,by rw[XD]; exact d⟩;rcases Z5.1 g with h | h
   ·rw[h]; exact e
   ·exact O.ntrans (d.1 y h) e
theorem Dy(O:Ahead lt):∀ (B:List α) {A:List α},bS lt A->bS lt (mg lt A B)
 | [],_,h => h
 | b::B,_,h => Dy O B (abO O h)
end
def dM(op l r:Int):Int:=
 if op=2 then (if l=1073741824 then 1 else -1) else if l=1073741824∨r=1073741824 then 0 else if (op=0/\l=r)∨(op=1/\l<r) then 1 else -1
def fT(c:ak)(xs:List Int):Int:=
 let t:=dM c.op (xs.getD c.left.toNat 0) (if c.op=2∨c.const=true then c.right else xs.getD c.right.toNat 0)
 if c.not then -t else t
def jK(cs:List ak)(xs:List Int):Bool:=cs.any fun c=>decide (fT c xs=1)
def jU(ls:List az)(is:List Int)(xs:List Int):Bool:=is.all fun i=>jK (ls.getD i.toNat lz).cs xs
theorem Nl{c:ak}{n:Nat}(h:df c n=true):(c.op=0∨c.op=1∨c.op=2)/\(0<=c.left/\c.left<n)/\(c.op=2∨c.const=true∨(0<=c.right/\c.right<n)):=by
 unfold df at h;simp only[Qo,QE]at h;obtain⟨⟨⟨⟨d,e⟩,f⟩,g⟩,a⟩:=h;refine⟨by omega,⟨d,e⟩,?_⟩;by_cases b:c.op=2
 ·exact .inl b
 ·rw[Qv b]at a
  cases hc:c.const
  ·rw[Qv (by simp[hc])]at a;simp only[Qo,QE]at a;exact .inr (.inr ⟨a.1,by omega⟩)
  ·exact .inr (.inl rfl)
def kg(cs:List ak)(xs:List Int):Int:=cs.foldl (fun m c=>max m (fT c xs+1)) 0
theorem Kh{cs:List ak}{xs:List Int}{k:Nat}(hk:k<cs.length):kg (cs.take (k+1)) xs=max (kg (cs.take k) xs) (fT (cs.getD k cz) xs+1):=by
 unfold kg;rw[Qm hk,ZZ];simp[List.getD,hk]
theorem yU(op l r:Int):dM op l r=1∨dM op l r=0∨dM op l r = -1:=by
 unfold dM;split
 ·split <;> simp
 ·split
  ·simp
  ·split <;> simp
theorem rM(c:ak)(xs:List Int):fT c xs=1∨fT c xs=0∨fT c xs = -1:=by
 unfold fT;simp only;have:=yU c.op (xs.getD c.left.toNat 0) (if c.op=2∨c.const=true then c.right else xs.getD c.right.toNat 0);split <;> omega
theorem wK(cs:List ak)(xs:List Int):0<=kg cs xs/\kg cs xs<=2:=by
 unfold kg;have h:∀ (l:List ak) (m:Int),0<=m/\m<=2->0<=l.foldl (fun m c=>max m (fT c xs+1)) m/\l.foldl (fun m c=>max m (fT c xs+1)) m<=2:=by
  intro l
  induction l with
  | nil => intro m a; exact a
  | cons c l ih =>
   intro m a;refine ih _ ?_;have:=rM c xs
   show 0<=max m (fT c xs+1)/\max m (fT c xs+1)<=2
   omega
 exact h cs 0 (by omega)
theorem Ki(cs:List ak)(xs:List Int):decide (kg cs xs=2)=jK cs xs:=by
 unfold kg jK;have h:∀ (l:List ak) (m:Int),0<=m/\m<=2->decide (l.foldl (fun m c=>max m (fT c xs+1)) m=2)=(decide (m=2) || l.any fun c=>decide (fT c xs=1)):=by
  intro l
  induction l with
  | nil => intro m _; rw[List.foldl_nil,List.any_nil,Bool.or_false]
  | cons c l ih =>
   intro m d;have b:=rM c xs;rw[Z0,ih _ (by omega),List.any_cons,<- Bool.or_assoc];congr 1;rcases b with h | h | h <;> rw[h]
   ·have:max m (1+1)=2:=by omega
    rw[this]; simp
   ·by_cases a:m=2
    ·subst a; rfl
    ·have:max m (0+1)≠2:=by omega
     rw[Qg this,Qg a]; simp
   ·by_cases a:m=2
    ·subst a; rfl
    ·have:max m (-1+1)≠2:=by omega
     rw[Qg this,Qg a]; simp
 rw[h cs 0 (by omega)];simp
def dK(ls:List az)(xs:List Int):Bool:=ls.all fun c=>jK c.cs xs
def ah.cells(n:ah):Array Value:=#[.int .i64 n.kind,.int .i64 n.l,.int .i64 n.r,.int .i64 n.source,n.cl.val,.int .i64 n.key,n.co.val]
structure zl where
 d:bZ
 ns:List ah
def trz:zl:=⟨pz,[]⟩
def bU(n:ah):ah:=⟨n.kind,n.l,n.r,n.source,⟨none,0,n.cl.xs⟩,n.key,⟨none,0,n.co.xs⟩⟩
def amI(k:Nat)(n:ah):ah:=⟨n.kind,if 1<=arity n.kind then wrap64 (n.l+k) else n.l,if 2<=arity n.kind then wrap64 (n.r+k) else n.r,n.source,n.cl,n.key,n.co⟩
def amJ(ls:List (List ah)):List ah:=ls.foldl (fun acc l=>acc++l.map (amI acc.length)) []
def amK(ls:List (List ah))(i:Nat):Int:=if i<ls.length then ((amJ (ls.take (i+1))).length:Int)-1 else 0
def asj(n:ah)(ls:List (List ah)):List ah:=
 amJ ls++[⟨n.kind,amK ls 0,amK ls 1,n.source,⟨none,0,n.cl.xs⟩,n.key,⟨none,0,n.co.xs⟩⟩]
def abS(ts:List af)(q:ae)(n:ah)(bs:List zl):zl:=
 ⟨iB ts q n (bs.getD 0 trz).d (bs.getD 1 trz).d,asj n (bs.map zl.ns)⟩
def ahz(kind:Int):ah:=⟨kind,0,0,0,⟨none,0,[]⟩,0,⟨none,0,[]⟩⟩
def amL(co:List Int):ah:=⟨6,0,0,0,⟨none,0,[]⟩,0,⟨none,0,co⟩⟩
def Va(ts:List af)(q:ae)(t:zl)(o:List Int):zl:=abS ts q (amL o) [t]
def IG(q:ae):List Int:=if q.group=true then q.keys.xs else if dJ (wm q)=true then wm q else []
def NH(q:ae)(o:List Int):Int:=if q.group=false then 9 else if bW o q.keys.xs=true then 8 else 7
def Sw(ts:List af)(q:ae)(t:zl):zl:=
 let e:=abS ts q (ahz (NH q t.d.order)) [t]
 if pO q (NH q t.d.order) t.d.order=true then e else abS ts q (ahz 10) [e]
def abT(ts:List af)(q:ae)(t:zl):List zl:=
 if 0<(IG q).length then [Sw ts q t,Sw ts q (Va ts q t (IG q))] else [Sw ts q t]
def abU(b t:zl):zl:=if t.d.cost<b.d.cost then t else b
def WE(b:zl)(l:List zl):zl:=l.foldl abU b
abbrev fG:=List Int × Option (Nat × zl)
def abV:List fG->Nat
 | [] => 0
 | (_,none)::g => abV g
 | (_,some x)::g => max (x.1+1) (abV g)
def abW(t:zl)(p:fG):Bool:=bW t.d.order p.1&&(match p.2 with | none=>true | some x=>decide (t.d.cost<x.2.d.cost))
def nY(n:Nat)(t:zl)(p:fG):fG:=if abW t p=true then (p.1,some (n,t)) else p
def abX(g:List fG)(t:zl):List fG:=g.map (nY (abV g) t)
def aiD(x:Bool × List fG)(t:zl):Bool × List fG:=(x.1 || x.2.any (abW t),abX x.2 t)
def Sy(g:List fG)(l:List zl):Bool × List fG:=l.foldl aiD (false,g)
def zm(g:List fG):Option zl:=match g with | (_,some x)::_=>some x.2 | _=>none
def afl(ts:List af)(q:ae)(g:List fG)(o:List Int):List fG:=abX g (Va ts q ((zm g).getD trz) o)
def abY(ts:List af)(q:ae)(g:List fG)(l:List zl):Bool × List fG:=
 if (Sy g l).1=true then (true,((g.map Prod.fst).drop 1).foldl (afl ts q) (Sy g l).2) else (false,(Sy g l).2)
structure TOk(q:ae)(t:zl):Prop where
 src:t.d.sources<2 ^ q.src.xs.length
 cls:t.d.clauses<2 ^ q.wh.length
 cost:t.d.cost<=bB
 kinds:∀ m∈t.ns,1<=m.kind/\m.kind<=10
 pos:0<t.ns.length
theorem uB(l:List Nat):iN l<=bB:=by rw[pK]; exact Nat.min_le_right _ _
theorem WQ(kind:Int)(s lc ls rc rs:Nat):fU kind s lc ls rc rs<=bB:=by
 unfold fU;split
 ·exact uB _
 split
 ·exact uB _
 split
 ·exact uB _
 split
 ·exact uB _
 ·exact uB _
theorem WR(z lc ls rc rs:Nat)(h:lc<=bB):lc<=fU 6 z lc ls rc rs:=by
 unfold fU;rw[Qv (by decide),Qv (by decide),Qu (by decide),UZ];unfold dU;exact Nat.le_min.2 ⟨Nat.le_add_right _ _,h⟩
structure GOk(q:ae)(s:Nat)(g:List fG):Prop where
 all:∀ p∈g,∀ x,p.2=some x->TOk q x.2/\x.2.d.sources=s/\x.2.ns.length+2<=5*s
 head:∃ h r,g=([],h)::r/\∀ x,h=some x->x.2.ns.length+3<=5*s
 short:g.length<=20
theorem GOk.first{q:ae}{s:Nat}{g:List fG}(h:GOk q s g){t:zl}(ht:zm g=some t):TOk q t/\t.d.sources=s/\t.ns.length+2<=5*s:=by
 obtain⟨a,r,rfl,b⟩:=h.head
 cases a with
 | none => cases ht
 | some y =>
  injection ht with ht;rw[<- ht];exact h.all _ List.mem_cons_self y rfl
theorem fq.below{w w':World}(hb:Bw w w'){ao:Option Addr}{ns:List ah}(h:fq w ao ns):fq w' ao ns:=
 ⟨h.1,fun i o=>by
  obtain⟨b,off,e,a,d,f,g,j,k,l,m,n⟩:=h.2 i o;exact⟨b,off,e,cB hb a,cB hb d,cB hb f,cB hb g,cB hb j,cB hb k,cB hb l,Qt hb m,Qt hb n⟩⟩
