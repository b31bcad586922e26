import Derived.Test.YtkfenjgalicikaaGreatDoorS03
import Derived.Test.YtkfenjgalicikaaGreatDoorS04
set_option linter.all false
set_option maxRecDepth 100000
set_option maxHeartbeats 0
namespace Go.Proofs.Zz
open Go.RowKit Go.Shelf Go.Proofs.Tryz
open List renaming length->N,getD->E
open Go.Value renaming slice->Z,int->I,pointer->Y,bool->Qq,agg->Qt
open Go.Proofs.Tryz renaming prog->V
open Option renaming some->O,none->Qr
open Go.IntKind renaming i64->J,u64->Qp
open Bool renaming false->F,true->T
open Go renaming World->U,Value->Ql
open Go.World renaming heap->H,setCell->Qn,cell?->Qo
open _root_.Array renaming size->M
open Go.RowKit renaming Hid->Qm
open Go.Obj renaming cells->Qs
open Go.Ending renaming returned->Qu
variable {W W0 w w' x:U} {ao:LM} {b base fuel gb i k n n' sz:Nat} {f:bC} {Tp Tq e t:TypeId} {P:Program} {Fq G s:Pm} {md:Region.Mode} {ops:Array Oper} {Q:Exit->Act->U->Prop} {aW:Array Bool} {a:Act} {o oi p:Oper} {S:U->Prop} {l xs:IC} {ts:JK af} {q:ae} {c:Int} {α:Type} {cs:JK aV} {v v':Ql} {xs':JK Ql} {A:Nat->Nat} {os:JK aA} {g:JK aK} {ns:JK ay} {C:Prop}
def ay.eT(n:ay):JK Value:=[I J n.kind,I J n.l,I J n.r,I J n.source,n.cl.val,I J n.key,n.co.val]
def Tryz.akY:(V.info? 141).map (λi=>(i.zero,i.size,i.bytes))=O (O (Qt #[I J 0,I Qp 0,I Qp 0,Z Qr 0 0,I Qp 0,I Qp 0]),6,64):=Qd
theorem ahn(W:U)(base:Nat)(v:Ql)(ps:JK eQ)(bG:W.ownsRow base 141 6 v (N ps) (ps.flatMap eQ.eT))(hl:N ps<=1000)(hb:base<=M (H W))(p:eQ)(ty:TypeId) :
  ∃d e,(Builtin.append_ #[242,242] ty #[v,Z (O (aD (M (H W)) 0)) 1 1]).run V (W.alloc (Qs p.cells 141))=.ok d e/\
   e.ownsRow base 141 6 d (N (ps++[p])) ((ps++[p]).flatMap eQ.eT)/\aB (λb=>v.ownBlock≠O b) W e/\(∃a m c,d = Z a m c)/\(d.ownBlock=v.ownBlock∨d.ownBlock=O (M (H W)+1)):=by
 obtain⟨i0,k,f,g,i⟩:=XB Tryz.akY;obtain⟨d,e,l,t,n,q,r⟩:=lg (P:=V) W base 242 ty 141 i0 _ 6 64 underlying242 k f g i rfl Qc v (N ps) _ bG hb p.eT rfl (λu j=>by
  unfold eQ.eT aA.val at j;simp at j;rcases j with rfl|rfl|rfl|rfl|rfl|rfl <;> rfl) hl Qc
 exact⟨d,e,l,Qb,n,q,r⟩
def vP(Fq:Pm)(ao:LM)(n:Nat):Prop:=0<n->∀a,ao=O a->Fq a.block
def gy(w:U)(ao:LM)(xs:JK Nat):Prop:=
 N xs<=1000000/\dC w ao (N xs) (λi=>Y (O (aD (E xs i 0) 0)))
def gy.get{w:U}{ao:LM}{xs:JK Nat}(h:gy w ao xs){i:Nat}(hi:i<N xs) :
  ∃b off,ao=O (aD b off)/\∀j,j<N xs->Qo w (aD b (off+j))=O (Y (O (aD (E xs j 0) 0))):=
 Q3 h.2 hi
theorem gy.aj{w w':U}(hb:Bw w w'){ao:LM}{xs:JK Nat}(h:gy w ao xs):gy w' ao xs:=⟨h.1,h.2.aj hb⟩
def dC.eG{A B:U}{Fq:Pm}{ao:LM}{n:Nat}{f:Nat->Ql}(h:dC A ao n f)(hk:aB Fq A B)(hF:vP Fq ao n):dC B ao n f:=by
 cases n with
 |zero=>intro i e;omega
 |succ m=>exact h.bT (λa b d=>hk.block _ d (hF X a b))
def aP.eG{A B:U}{Fq:Pm}{ao:LM}{xs:IC}(h:aP A ao xs)(hk:aB Fq A B)(hF:vP Fq ao (N xs)):aP B ao xs:=⟨h.1,h.2.eG hk hF⟩
def gy.eG{A B:U}{Fq:Pm}{ao:LM}{xs:JK Nat}(h:gy A ao xs)(hk:aB Fq A B)(hF:vP Fq ao (N xs)):gy B ao xs:=⟨h.1,h.2.eG hk hF⟩
def dC.lt{f:Nat->Ql}(h:dC w ao n f)(hn:0<n):∀a,ao=O a->a.block<M (H w):=by intro a g;obtain⟨b,off,e,d⟩:=h 0 hn;rw[g]at e;injection e with e;rw[e];exact kX d
def vP.mono{Fq G:Pm}{w:U}{ao:LM}{n:Nat}{f:Nat->Ql}(hc:dC w ao n f)(h:vP Fq ao n)(hs:∀b,b<M (H w)->Fq b->G b):vP G ao n:=
 λd a e=>hs _ (hc.lt d a e) (h d a e)
def Sb(p:eQ)(n:ay)(v:Ql):Array Value:=
 #[I J p.kind,I Qp (p.ah:Int),I Qp (p.aG:Int),p.aH.val,I Qp (p.size:Int),I Qp (p.aJ:Int),
  I J n.kind,I J n.l,I J n.r,I J n.source,n.cl.val,I J n.key,n.co.val,v]
structure xM(Tq:TypeId)(Fq:Pm)(w:U)(a:Nat)(t:bF)(p:eQ)(n:ay)(bo:LM)(bc:Nat)(bs:JK (Nat × bF)):Prop where
 blk:Fq a
 gb:GB w a Tq (Sb p n (Z bo (N bs) bc))
 part:p.d=t.d
 ok:p.Ok w
 ord:vP Fq p.aH.ad (N p.aH.xs)
 cl:n.cl.At w
 clf:vP Fq n.cl.ad (N n.cl.xs)
 cln:n.cl.ad=Qr->n.cl.cap=0
 co:n.co.At w
 cof:vP Fq n.co.ad (N n.co.xs)
 con:n.co.ad=Qr->n.co.cap=0
 ptrs:gy w bo (bs.map Prod.fst)
 ptf:vP Fq bo (N bs)
 Ux:N bs<=bc
 nil:bo=Qr->bc=0
 lay:t.ns=sI n (bs.map λx=>x.2.ns)
 two:N bs<=2
 kind:1<=n.kind/\n.kind<=10
 lens:N n.cl.xs<=1000/\N n.co.xs<=1000
def tX(Tq:TypeId)(Fq:Pm):Nat->U->Nat->bF->Prop
 |0,_,_,_=>False
 |k+1,w,a,t=>∃p n bo bc bs,xM Tq Fq w a t p n bo bc bs/\∀x∈bs,tX Tq Fq k w x.1 x.2
theorem xM.eG{Tq:TypeId}{Fq:Pm}{w w':U}{a:Nat}{t:bF}{p:eQ}{n:ay}{bo:LM}{bc:Nat}{bs:JK (Nat × bF)}(h:xM Tq Fq w a t p n bo bc bs)(hk:aB Fq w w'):xM Tq Fq w' a t p n bo bc bs where
 blk:=h.blk
 gb:=h.gb.bT hk h.blk
 part:=h.part
 ok:=⟨aP.eG h.ok.aH hk h.ord,h.ok.cap,h.ok.ah,h.ok.aG,h.ok.size,h.ok.aJ⟩
 ord:=h.ord
 cl:=aP.eG h.cl hk h.clf
 clf:=h.clf
 cln:=h.cln
 co:=aP.eG h.co hk h.cof
 cof:=h.cof
 con:=h.con
 ptrs:=h.ptrs.eG hk (by grind [xM.ptf])
 ptf:=h.ptf
 Ux:=h.Ux
 nil:=h.nil
 lay:=h.lay
 two:=h.two
 kind:=h.kind
 lens:=h.lens
theorem xM.mono{Tq:TypeId}{Fq G:Pm}{w:U}{a:Nat}{t:bF}{p:eQ}{n:ay}{bo:LM}{bc:Nat}{bs:JK (Nat × bF)}(h:xM Tq Fq w a t p n bo bc bs)(hs:∀b,b<M (H w)->Fq b->G b):xM Tq G w a t p n bo bc bs where
 blk:=hs _ h.gb.lt h.blk
 gb:=h.gb
 part:=h.part
 ok:=h.ok
 ord:=vP.mono h.ok.aH.2 h.ord hs
 cl:=h.cl
 clf:=vP.mono h.cl.2 h.clf hs
 cln:=h.cln
 co:=h.co
 cof:=vP.mono h.co.2 h.cof hs
 con:=h.con
 ptrs:=h.ptrs
 ptf:=by have:=vP.mono h.ptrs.2 (by grind [xM.ptf]) hs;simp_all
 Ux:=h.Ux
 nil:=h.nil
 lay:=h.lay
 two:=h.two
 kind:=h.kind
 lens:=h.lens
def tX.eG{Tq:TypeId}{Fq:Pm}{w w':U}(hk:aB Fq w w'):∀{k a:Nat} {t:bF},tX Tq Fq k w a t->tX Tq Fq k w' a t
 |0,_,_,h=>h
 |_+1,_,_,⟨p,n,bo,bc,bs,hb,hs⟩=>⟨p,n,bo,bc,bs,hb.eG hk,λx hx=>(hs x hx).eG hk⟩
def tX.mono{Tq:TypeId}{Fq G:Pm}{w:U}(hs:∀b,b<M (H w)->Fq b->G b):∀{k a:Nat} {t:bF},tX Tq Fq k w a t->tX Tq G k w a t
 |0,_,_,h=>h
 |_+1,_,_,⟨p,n,bo,bc,bs,hb,hx⟩=>⟨p,n,bo,bc,bs,hb.mono hs,λx h=>(hx x h).mono hs⟩
theorem tX.more{Tq:TypeId}{Fq:Pm}{w:U}:∀{k m a:Nat} {t:bF},tX Tq Fq k w a t->k<=m->tX Tq Fq m w a t
 |0,_,_,_,h,_=>h.elim
 |_+1,0,_,_,_,h=>X
 |_+1,_+1,_,_,⟨p,n,bo,bc,bs,hb,hx⟩,h=>⟨p,n,bo,bc,bs,hb,λx hm=>(hx x hm).more X⟩
def bM(Tq:TypeId)(Fq:Pm)(w:U)(a:Nat)(t:bF):Prop:=∃k,tX Tq Fq k w a t
def bM.eG{Tq:TypeId}{Fq:Pm}{w w':U}{a:Nat}{t:bF}(h:bM Tq Fq w a t)(hk:aB Fq w w'):bM Tq Fq w' a t:=h.imp λ_ h=>h.eG hk
def bM.mono{Tq:TypeId}{Fq G:Pm}{w:U}{a:Nat}{t:bF}(h:bM Tq Fq w a t)(hs:∀b,b<M (H w)->Fq b->G b):bM Tq G w a t:=h.imp λ_ h=>h.mono hs
theorem bM.aj{Tq:TypeId}{Fq:Pm}{w w':U}{a:Nat}{t:bF}(h:bM Tq Fq w a t)(hb:Bw w w'):bM Tq Fq w' a t:=h.eG (Xk hb λ_ h _=>h)
theorem bM.get{Tq:TypeId}{Fq:Pm}{w:U}{a:Nat}{t:bF}(h:bM Tq Fq w a t):∃p n bo bc bs,xM Tq Fq w a t p n bo bc bs/\∀x∈bs,bM Tq Fq w x.1 x.2:=by
 obtain⟨k,h⟩:=h
 cases k with
 |zero=>exact h.elim
 |succ k =>
  grind [tX,bM]
theorem Sc{Tq:TypeId}{Fq:Pm}{w:U}:∀{bs:JK (Nat × bF)},(∀x∈bs,bM Tq Fq w x.1 x.2)->∃k,∀x∈bs,tX Tq Fq k w x.1 x.2
 |[],_=>⟨0,λx h=>by cases h⟩
 |y::bs,h=>by obtain⟨k,hk⟩:=Sc λx hx=>h x (ZV _ hx);obtain⟨m,hm⟩:=h y Ji;refine⟨max k m,λx hx=>?_⟩;grind [tX.more]
def bM.intro{Tq:TypeId}{Fq:Pm}{w:U}{a:Nat}{t:bF}{p:eQ}{n:ay}{bo:LM}{bc:Nat}{bs:JK (Nat × bF)}(h:xM Tq Fq w a t p n bo bc bs)(hx:∀x∈bs,bM Tq Fq w x.1 x.2):bM Tq Fq w a t:=by obtain⟨k,b⟩:=Sc hx;exact⟨k+1,p,n,bo,bc,bs,h,b⟩
def Jm:=@aP.eG
def aha(size:Nat)(hb:base<=b)(h:w.heap[b]? = O (Qs #[] e (0,0))):w.ownsRow base e size (Z (O (aD b 0)) 0 0) 0 []:=
 ⟨Qa,.inr ⟨b,0,#[],rfl,hb,h,Zb _,X,Qa,Qa⟩⟩
theorem uU(W:U)(t ty e:TypeId)(i:TypeInfo)(z:Ql)(size bytes:Nat)(ht:P.underlying t=O (.slice e))(hi:P.info? e=O i)(hz:i.zero=O z)(I8:i.size=size)(hby:i.bytes=bytes)(hzs:z.cells.size=size)(ni:0<size)
  (a:Addr) (m c:Nat) (kz:JK Ql) (hl:N kz=m*size) (hnews:∀j u,kz[j]? = O u->∃b off,O a=O (aD b off)/\Qo W (aD b (off+j))=O u) (h1:∀u∈kz,u.oneCell' = T) (hm:m<=1000000) (hbb:bytes<=1000) :
  ∃f g,(Builtin.append_ #[t,t] ty #[Z (O (aD (M (H W)) 0)) 0 0,Z (O a) m c]).run P (W.alloc (Qs #[] e))=.ok f g/\g.ownsRow (M (H W)) e size f m kz/\Bw W g/\(∃a k d,f = Z a k d):=by
 have p:=fo W (Qs #[] e);obtain⟨f,g,n,l,q,_,_⟩:=XL (P:=P) (W.alloc (Qs #[] e)) (M (H W)) t ty e i z size bytes ht hi hz I8 hby hzs ni (Z (O (aD (M (H W)) 0)) 0 0) 0 [] (aha size (Zb _) (qj W _)) a m c kz hl
  (λj u v=>by grind [Fg,cB]) h1 (by grind [maxLen]) (by rw[ZT];have:=Nat.mul_le_mul hm hbb;omega) Qf
 rw[ZT,List.nil_append]at l;refine⟨f,g,n,l,p.trans ((Xv (s:=λx=>x<M (H W)) q (λr e n=>?_)).aj Qf (λ_ h=>h)),Xz l⟩;simp only[Value.ownBlock]at e;simp_all
def iT{Fq:Fence}(i:Nat)(v:Value)(h:wpAnyIn Fq n P md ops Q fuel (aW.setIfInBounds i true) (a.put oi.dst v) w)(hr:(Region.ready md ops aW).contains i=true:=by decide +kernel)(hi:ops[i]? = some oi:=by exact rfl)(hro:Fq.round=none:=by exact rfl)(hs:Region.noSelect ops=true:=by kernel_rfl)(hf:Region.free md ops aW i=true:=by kernel_rfl)(hQ:∀c a w,Q (.panic c) (a.put oi.dst v) w->Q (.panic c) a w:=by exact λ_ _ _ h=>h)(hy:YieldsFenced P ops oi v a:=by exact⟨Or.inl ⟨Qh,λw=>by go_simp⟩,λ_=>rfl⟩):wpAnyIn Fq n P md ops Q (fuel+1) aW a w:=
 wpAnyIn_take hro hi hs hf hr hQ hy h
@[reducible] def OpK (Fq:Fence) (n:Nat) (P:Program) (md:Region.Mode) (ops:Array Oper) (Q:Exit->Act->U->Prop) (fuel:Nat) (aW:Array Bool) (a:Act) (w:U) (i:Nat) (o:Oper):Prop:=
 ∀K:Act->U->Prop,(∀a w,wpAnyIn Fq n P md ops Q fuel (aW.setIfInBounds i T) a w->K a w)->if Region.wanted o (yielded ops a.tmps)=T then Oper.wpIn Fq n P o a w K Q else (∀f,o.about P w a.eval=O f->Fq.fn f)/\K (a.put o.dst undef) w
def iQ{Fq:Fence}(i:Nat)(h:OpK Fq n P md ops Q fuel aW a w i o)(hr:Region.ready md ops aW=[i]:=by decide +kernel)(hi:ops[i]? = some o:=by exact rfl):wpAnyIn Fq n P md ops Q (fuel+1) aW a w:=
 wpAnyIn_ready hr Qa (AllReadyIn.cons hi h AllReadyIn.nil)
def iJ{Fq:Fence}(i j:Nat)(h:OpK Fq n P md ops Q fuel aW a w i o)(k:OpK Fq n P md ops Q fuel aW a w j p)(hr:Region.ready md ops aW=[i,j]:=by decide +kernel)(hi:ops[i]? = some o:=by exact rfl)(hj:ops[j]? = some p:=by exact rfl):wpAnyIn Fq n P md ops Q (fuel+1) aW a w:=
 wpAnyIn_ready hr Qa (AllReadyIn.cons hi h (AllReadyIn.cons hj k AllReadyIn.nil))
def iD{Fq:Fence}(h:Q .normal a w)(hr:Region.ready md ops aW=[]:=by decide +kernel):wpAnyIn Fq n P md ops Q fuel aW a w:=
 wpAnyIn_done hr h fuel
def kR(i:Nat)(h:∀K':Act->World->Prop,Shut (∀a w,S w->(S w->wpAnyH P md ops Q S fuel (aW.setIfInBounds i true) a w)->K' a w)->if Region.wanted o (yielded ops a.tmps)=true then Oper.wp P o a w K' Q else K' (a.put o.dst undef) w)(hr:Region.ready md ops aW=[i]:=by decide +kernel)(hi:ops[i]? = some o:=by exact rfl):wpAnyH P md ops Q S (fuel+1) aW a w:=
 wR i h hi hr
def kJ(i j:Nat)(h:∀K':Act->World->Prop,Shut (∀a w,S w->(S w->wpAnyH P md ops Q S fuel (aW.setIfInBounds i true) a w)->K' a w)->if Region.wanted o (yielded ops a.tmps)=true then Oper.wp P o a w K' Q else K' (a.put o.dst undef) w)(k:∀K':Act->World->Prop,Shut (∀a w,S w->(S w->wpAnyH P md ops Q S fuel (aW.setIfInBounds j true) a w)->K' a w)->if Region.wanted p (yielded ops a.tmps)=true then Oper.wp P p a w K' Q else K' (a.put p.dst undef) w)(hr:Region.ready md ops aW=[i,j]:=by decide +kernel)(hi:ops[i]? = some o:=by exact rfl)(hj:ops[j]? = some p:=by exact rfl):wpAnyH P md ops Q S (fuel+1) aW a w:=
 wJ i j h k hi hj hr
def kD(h:Q .normal a w)(hr:Region.ready md ops aW=[]:=by decide +kernel):wpAnyH P md ops Q S fuel aW a w:=wD h hr
def kG(i:Nat)(h:wpAnyH P md ops Q S fuel aW a w)(_:(Region.ready md ops aW).contains i=true:=by decide +kernel):wpAnyH P md ops Q S fuel aW a w:=h
def akx(h:n<64):IntKind.u64.wrap ((2:Int) ^ n)=((2 ^ n:Nat):Int):=by have a:((2:Int) ^ n)=((2 ^ n:Nat):Int):=Qa;have b:2 ^ n<2 ^ 64:=XR X h;rw[a];generalize 2 ^ n=m at*;simp only[IntKind.wrap,IntKind.bits,IntKind.signed];simp;omega
def asU{s:Nat}(hs:s<18446744073709551616)(h:n<64):bits BinOp.or IntKind.u64 (s:Int) (IntKind.u64.wrap ((2:Int) ^ n))=((s|||2 ^ n:Nat):Int):=by rw[akx h];exact u64_or_nat s (2 ^ n) hs (XR X h)
def agI(hk:k<N l):bn (l.take (k+1))=bn (l.take k)|||2 ^ (E l k 0).toNat:=by
 have e:E l k 0=l[k]:=by simp[List.getD,hk]
 rw[Q5 hk,agn,e]
def Uk(h:∀x∈l,0<=x/\x<64)(k:Nat):bn (l.take k)<18446744073709551616:=uL (n:=64) (λx a=>h x (XT a))
def orL(l:JK Nat):Nat:=l.foldl (· |||·) 0
def WO{l:JK Nat}(hk:k<N l):orL (l.take (k+1))=orL (l.take k)|||E l k 0:=by
 have e:E l k 0=l[k]:=by simp[List.getD,hk]
 rw[Q5 hk,e];unfold orL;rw[XU];rfl
def asV{l:JK Nat}(h:∀x∈l,x<18446744073709551616):∀k,orL (l.take k)<18446744073709551616:=λk=>by
 induction k with
 |zero=>simp[orL]
 |succ k ih =>
  by_cases a:k<N l
  .rw[WO a];have:E l k 0<18446744073709551616:=by
    have e:E l k 0=l[k]:=by simp[List.getD,a]
    rw[e];exact h _ (Q6 a)
   exact XV (n:=64) ih this
  .rw[XW X];rw[XW X]at ih;exact ih
theorem yN(a b:Nat)(ha:a<18446744073709551616)(hb:b<18446744073709551616)(w:U) :
  Ce 131 #[I Qp (a:Int),I Qp (b:Int)] w (Qq (bV a b)):=by have d:=u64_andNot_nat b a hb ha;go_enter func131,ntmps131;go_wp2;go_ret;refine⟨QZ ?_,rfl⟩;unfold bV;grind
theorem agJ(a b:Nat)(ha:a<18446744073709551616)(hb:b<18446744073709551616)(w:U) :
  Ce 253 #[I Qp (a:Int),I Qp (b:Int)] w (Qq (decide (a &&& b≠0))):=by have d:=u64_and_nat a b ha hb;go_enter func253,ntmps253;go_wp2;go_ret;refine⟨QZ ?_,rfl⟩;grind
theorem acB(s n:Nat)(hs:s<18446744073709551616)(hn:n<64)(w:U) :
  Ce 135 #[I Qp (s:Int),I J n] w (Qq (s.testBit n)):=by go_enter func135,ntmps135;go_wp2;go_ret;refine⟨QZ ?_,rfl⟩;have b:((s:Int) / 2 ^ n)=((s / 2 ^ n:Nat):Int):=Qa;have a:s / 2 ^ n<18446744073709551616:=Nat.lt_of_le_of_lt (Nat.div_le_self _ _) hs;have d:=u64_and_nat (s / 2 ^ n) 1 a X;grind
def WQ(n:Nat)(hn:n<64)(w:U) :
  Ce 93 #[I J n] w (I Qp ((2 ^ n-1:Nat):Int)):=by go_enter func93,ntmps93;go_wp2;go_ret;refine⟨Q0 ?_,rfl⟩;have a:((2:Int) ^ n)=((2 ^ n:Nat):Int):=Qa;have b:2 ^ n<2 ^ 64:=XR X hn;have d:0<2 ^ n:=Nat.pow_pos X;rw[a];generalize 2 ^ n=m at*;simp only[IntKind.wrap,IntKind.bits,IntKind.signed];simp;omega
def RV(ao:LM)(cap:Nat)(xs:IC)(w:U)(hx:aP w ao xs)(hs:∀x∈xs,0<=x/\x<64) :
  Ce 92 #[Z ao (N xs) cap] w (I Qp ((bn xs:Nat):Int)):=by
 have v:=hx.1;have j:Qm _:=hx;have g:=Zh hs;have l:Qm (bn (xs.take (N xs))=bn xs):=by show _=_;rw[Z0]
 clear hx hs;go_enter func92,ntmps92;go_wp2;go_loopw [3,8] (λu f wr=>∃k:Nat,k<=N xs/\f=I J k/\(∃s:Nat,u=I Qp (s:Int)/\Qm (s=bn (xs.take k)))/\wr=w) (λ_ f _=>N xs-(intOf f).toNat)
 case atStart=>exact⟨0,ZR _,rfl,⟨0,rfl,rfl⟩,rfl⟩
 case round=>
  obtain⟨k,y,rfl,⟨s,rfl,hs⟩,rfl⟩:=hrel;by_cases a:k<N xs
  .obtain⟨b,off,rfl,i⟩:=Q4 j.o a;have m:=i k a;have p:=g.o _ (XI a (d:=0));have q:=Zh (agI a);have e:s<18446744073709551616:=by rw[hs.o];exact Uk g.o k
   clear i;generalize E xs k 0=x at*;obtain⟨n,rfl⟩:=XX p.1;have r:n<64:=X;refine gQ ?_;exact⟨k+1,X,Qe,⟨s|||2 ^ n,by rw[asU e r],by show _=_;rw[q.o,hs.o];rfl⟩,trivial⟩
  .obtain rfl:k=N xs:=X
   have t:=Zh (hs.o.trans l.o);clear hs;go_wp2;go_ret;exact⟨Q0 (by rw[t.o]),rfl⟩
def agK(ao:LM)(cap:Nat)(xs:JK Nat)(w:U)(hx:kT w ao xs)(hs:∀x∈xs,x<18446744073709551616) :
  Ce 139 #[Z ao (N xs) cap] w (I Qp ((orL xs:Nat):Int)):=by
 have u:=hx.1;have j:Qm _:=hx;have g:=Zh hs;have l:Qm (orL (xs.take (N xs))=orL xs):=by show _=_;rw[Z0]
 clear hx hs;go_enter func139,ntmps139;go_wp2;go_loopw [3,8] (λt f wr=>∃k:Nat,k<=N xs/\f=I J k/\(∃s:Nat,t=I Qp (s:Int)/\Qm (s=orL (xs.take k)))/\wr=w) (λ_ f _=>N xs-(intOf f).toNat)
 case atStart=>exact⟨0,ZR _,rfl,⟨0,rfl,rfl⟩,rfl⟩
 case round=>
  obtain⟨k,v,rfl,⟨s,rfl,hs⟩,rfl⟩:=hrel;by_cases a:k<N xs
  .obtain⟨b,off,rfl,i⟩:=kT.get j.o a;have m:=i k a;have n:=g.o _ (XI a (d:=0));have p:=Zh (WO a);have e:s<18446744073709551616:=by rw[hs.o];exact asV g.o k
   clear i;generalize E xs k 0=x at*;have q:=u64_or_nat s x e n;refine gQ ?_;exact⟨k+1,X,Qe,⟨s|||x,rfl,by show _=_;rw[p.o,hs.o]⟩,trivial⟩
  .obtain rfl:k=N xs:=X
   have r:=Zh (hs.o.trans l.o);clear hs;go_wp2;go_ret;exact⟨Q0 (by rw[r.o]),rfl⟩
theorem qD(b:Nat)(x y:Nat)(w:U)(h0:Qo w (aD b 0)=O (I Qp (x:Int)))(h1:Qo w (aD b 1)=O (I Qp (y:Int)))(hx:x<18446744073709551616)(hy:y<18446744073709551616) :
  Ce 139 #[Z (O (aD b 0)) 2 2] w (I Qp ((x|||y:Nat):Int)):=by
 have h:=agK (O (aD b 0)) 2 [x,y] w ⟨Qa,λi a=>⟨b,0,rfl,by
  grind⟩⟩ (λz hz=>by
  rcases ZB.1 hz with e|e
  .omega
  .rw[XH]at e;omega)
 have e:orL [x,y]=x|||y:=by unfold orL;simp
 rw[e]at h;exact h
theorem Cv(b:Nat)(n:Nat)(w:U)(h0:Qo w (aD b 0)=O (I J (n:Int)))(hn:n<64) :
  Ce 92 #[Z (O (aD b 0)) 1 1] w (I Qp ((2 ^ n:Nat):Int)):=by
 have h:=RV (O (aD b 0)) 1 [(n:Int)] w ⟨Qa,λi a=>⟨b,0,rfl,by
  grind⟩⟩ (λz hz=>by rw[XH]at hz;omega)
 rw[vk]at h;exact h
theorem WR(k:Int)(w:U):Ce 234 #[I J k] w (Qq (gI k)):=by
 have a:gI k=(decide (k=7) ||decide (k=8) ||decide (k=9) ||decide (k=10)):=by unfold gI;grind
 by_cases d:k=7
 .subst d;go_enter func234,ntmps234;go_wp2;go_ret;exact⟨rfl,rfl⟩
 by_cases e:k=8
 .subst e;go_enter func234,ntmps234;go_wp2;go_ret;exact⟨rfl,rfl⟩
 by_cases f:k=9
 .subst f;go_enter func234,ntmps234;go_wp2;go_ret;exact⟨rfl,rfl⟩
 by_cases g:k=10
 .subst g;go_enter func234,ntmps234;go_wp2;go_ret;exact⟨rfl,rfl⟩
 have b:=Zh (by  grind:gI k=F)
 clear a;go_enter func234,ntmps234;go_wp2;go_ret;exact⟨QZ b.o.symm,rfl⟩
theorem agL:∀(f x:Nat),x<=f->x<2 ^ 64->jY x=Lib.bitLen x:=by
 intro f
 induction f with
 |zero =>
  intro x a _;obtain rfl:x=0:=X;rw[sw];rfl
 |succ f ih =>
  intro x a h;by_cases b:x=0
  .grind
  .rw[xD X,Lib.bitLen_half x b h,ih (x / 2) X X,Nat.add_comm]
theorem acC(x:Nat)(h:x<2 ^ 64):jY x<=64:=by
 have key:∀(f x:Nat),x<2 ^ f->jY x<=f:=by
  intro f
  induction f with
  |zero =>
   intro x a;obtain rfl:x=0:=X;rw[sw];omega
  |succ f ih =>
   intro x a;by_cases b:x=0
   .subst b;rw[sw];omega
   .rw[xD X]
    grind
 exact key 64 x h
theorem FH(l:JK Nat):kQ l<=bO:=by rw[yH];exact Nat.min_le_right _ _
def akA{l:JK Nat}(hk:k<N l):(l.take (k+1)).sum=(l.take k).sum+E l k 0/\(l.take (k+1)).sum<=l.sum:=by
 have e:E l k 0=l[k]:=by simp[List.getD,hk]
 refine⟨by rw[Q5 hk,e,List.sum_append];simp,?_⟩;have h:l.sum=(l.take (k+1)).sum+(l.drop (k+1)).sum:=by rw[<-List.sum_append,XA]
 omega
def agM{l:JK Nat}{k:Nat}(hk:k<N l)(h:bO-kQ (l.take k)<E l k 0):kQ l=bO:=by obtain⟨a,b⟩:=akA hk;rw[yH]at h ⊢;omega
def acD{l:JK Nat}{k:Nat}(hk:k<N l)(h:¬bO-kQ (l.take k)<E l k 0):kQ (l.take (k+1))=kQ (l.take k)+E l k 0:=by
 have e:E l k 0=l[k]:=by simp[List.getD,hk]
 have a:kQ (l.take (k+1))=cO (kQ (l.take k)) (E l k 0):=by rw[Q5 hk,e];unfold kQ;rw[XU];rfl
 have:=FH (l.take k);rw[a];unfold cO;omega
def agO{a b:Nat}(h:0<a*b / 18446744073709551616):bQ a b=18446744073709551615:=by unfold bQ bO;omega
def agP{a b:Nat}(h:¬0<a*b / 18446744073709551616):bQ a b=a*b % 18446744073709551616:=by unfold bQ bO;omega
def acE(w:U)(xs:JK Nat)(t:TypeId)(hl:N xs<=1000):kT (w.alloc (Qs (xs.map λ(x:Nat)=>Value.int Qp (x:Int)).toArray t)) (O (aD (M (H w)) 0)) xs:=by refine⟨hl,λi a=>⟨M (H w),0,rfl,?_⟩⟩;simp only[World.cell?,qj w _];simp[List.getD,a]
def Tryz.WS:Go.Shelf.Ren:=⟨fun|129=>261|264=>265|n=>n,fun|3=>3|4=>4|5=>5|9=>9|46=>113|53=>45|n=>n,fun|n=>n⟩
def Tryz.aw0:Go.Proofs.Lays.n129 V Tryz.WS:={
 mixed:=Qd
 f129:=func261.trans (congrArg O Qd)
 t3:=underlying3
 a3:=isAgg3
 z3:=sizeOf3
 v3:=zeroValue3
 t4:=underlying4
 a4:=isAgg4
 z4:=sizeOf4
 v4:=zeroValue4
 t5:=underlying5
 a5:=isAgg5
 z5:=sizeOf5
 v5:=zeroValue5
 t9:=underlying9
 a9:=isAgg9
 z9:=sizeOf9
 v9:=zeroValue9
 t46:=underlying113
 a46:=isAgg113
 z46:=sizeOf113
 v46:=zeroValue113
 t53:=underlying45
 a53:=isAgg45
 z53:=sizeOf45
 v53:=zeroValue45 }
def Tryz.aw1:Go.Proofs.Lays.n264 V Tryz.WS:={
 mixed:=Qd
 f264:=func265.trans (congrArg O Qd)
 t46:=underlying113
 a46:=isAgg113
 z46:=sizeOf113
 v46:=zeroValue113
 t53:=underlying45
 a53:=isAgg45
 z53:=sizeOf45
 v53:=zeroValue45 }
def agQ(x:Nat)(w:U)(hx:x<=bO):Ce 261 #[I Qp (x:Int)] w (I J (jY x:Nat)):=by
 have h:=Go.Proofs.Any.bits_Len64 Tryz.aw0 (x:Int) w X (by unfold bO at hx;omega);have e:Lib.bitLen (x:Int).toNat=jY x:=by rw[XY];exact(agL x x (Zb _) (by unfold bO at hx;omega)).symm
 rw[e]at h;exact h
def agR(x y:Nat)(w:U)(hx:x<=bO)(hy:y<=bO):Ce 265 #[I Qp (x:Int),I Qp (y:Int)] w (.tuple #[I Qp ((x*y / 18446744073709551616:Nat):Int),I Qp ((x*y % 18446744073709551616:Nat):Int)]):=
 Go.Proofs.Any.bits_Mul64 Tryz.aw1 x y (by unfold bO at hx;omega) (by unfold bO at hy;omega) w
def DZ(a b:Nat)(w:U)(ha:a<=bO)(hb:b<=bO):Ce 235 #[I Qp (a:Int),I Qp (b:Int)] w (I Qp (bQ a b:Nat)):=by
 have d:=agR a b w ha hb;have f:Qm _:=@agO a b;have g:Qm _:=@agP a b;generalize a*b / 18446744073709551616=hi,a*b % 18446744073709551616=lo,bQ a b=t at*;clear ha hb;go_enter func235,ntmps235;go_wp2_with fail;refine d.mono ?_;clear d;rintro e i ⟨rfl,rfl⟩;by_cases h:0<hi
 .go_wp2;go_ret;exact⟨Q0 (by rw[f.o h];rfl),rfl⟩
 .go_wp2;go_ret;exact⟨Q0 (by rw[g.o h]),rfl⟩
theorem aoJ(ao:LM)(cap:Nat)(xs:JK Nat)(w:U)(hx:kT w ao xs)(hs:∀x∈xs,x<=bO) :
  Ce 236 #[Z ao (N xs) cap] w (I Qp (kQ xs:Nat)):=by
 have y:=hx.1;have n:Qm _:=hx;have p:Qm _:=hs;have q:Qm (kQ (xs.take (N xs))=kQ xs):=by show _=_;rw[Z0]
 clear hx hs;go_enter func236,ntmps236;go_wp2;go_loopw [3,8] (λv j wr=>∃k:Nat,k<=N xs/\j=I J k/\(∃s:Nat,v=I Qp (s:Int)/\Qm (s=kQ (xs.take k)))/\wr=w) (λ_ j _=>N xs-(intOf j).toNat)
 case atStart=>exact⟨0,ZR _,rfl,⟨0,rfl,rfl⟩,rfl⟩
 case round=>
  obtain⟨k,z,rfl,⟨s,rfl,hs⟩,rfl⟩:=hrel;by_cases a:k<N xs
  .obtain⟨b,off,rfl,m⟩:=kT.get n.o a;have r:=m k a;have l:=p.o _ (XI a (d:=0));have f:Qm _:=@agM xs k a;have g:Qm _:=@acD xs k a;have t:s<=18446744073709551615:=by rw[hs.o];exact FH _
   rw[<-hs.o]at f g;have u:E xs k 0<=18446744073709551615:=l;clear m l;generalize E xs k 0=x at*;by_cases e:18446744073709551615-s<x
   .have i:Qm (kQ xs=18446744073709551615):=f.o e;clear f g hs;go_wp2;go_ret;exact⟨Q0 (by rw[i.o];rfl),rfl⟩
   .have i:Qm _:=g.o e;clear f g hs;go_wp2;go_roundw
    case rel=>grind
    case measure=>exact XK
  .obtain rfl:k=N xs:=X
   have i:Qm (s=kQ xs):=hs.o.trans q.o;clear hs;go_wp2;go_ret;exact⟨Q0 (by rw[i.o]),rfl⟩
def MG(w:U)(xs:JK Nat)(hl:N xs<=1000)(hs:∀x∈xs,x<=bO) :
  Calls V 236 #[Z (O (aD (M (H w)) 0)) (N xs) (N xs)] (w.alloc (Qs (xs.map λ(x:Nat)=>Value.int Qp (x:Int)).toArray 45)) λe a=>e=Qu (I Qp (kQ xs:Nat))/\a = w.alloc (Qs (xs.map λ(x:Nat)=>Value.int Qp (x:Int)).toArray 45):=
 aoJ _ _ xs _ (acE w xs _ hl) hs
theorem asW(w:U)(a b:Nat)(ha:a<=bO)(hb:b<=bO) :
  Calls V 236 #[Z (O (aD (M (H w)) 0)) 2 2] (w.alloc (Qs #[I Qp (a:Int),I Qp (b:Int)] 45)) λe d=>e=Qu (I Qp (kQ [a,b]:Nat))/\Bw w d:=
 (MG w [a,b] Qa (λx f=>Qb)).mono λ_ _ ⟨h1,h2⟩=>⟨h1,by rw[h2];exact fo _ _⟩
theorem asX(w:U)(a b c:Nat)(ha:a<=bO)(hb:b<=bO)(hc:c<=bO) :
  Calls V 236 #[Z (O (aD (M (H w)) 0)) 3 3] (w.alloc (Qs #[I Qp (a:Int),I Qp (b:Int),I Qp (c:Int)] 45)) λe d=>e=Qu (I Qp (kQ [a,b,c]:Nat))/\Bw w d:=
 (MG w [a,b,c] Qa (λx f=>Qb)).mono λ_ _ ⟨h1,h2⟩=>⟨h1,by rw[h2];exact fo _ _⟩
theorem aDC(w:U)(a b c d:Nat)(ha:a<=bO)(hb:b<=bO)(hc:c<=bO)(hd:d<=bO) :
  Calls V 236 #[Z (O (aD (M (H w)) 0)) 4 4] (w.alloc (Qs #[I Qp (a:Int),I Qp (b:Int),I Qp (c:Int),I Qp (d:Int)] 45)) λe f=>e=Qu (I Qp (kQ [a,b,c,d]:Nat))/\Bw w f:=
 (MG w [a,b,c,d] Qa (λx g=>Qb)).mono λ_ _ ⟨h1,h2⟩=>⟨h1,by rw[h2];exact fo _ _⟩
def Ul(k:Int)(l r s:Nat)(w:U)(hl:l<=bO)(hr:r<=bO)(hs:s<=bO) :
  Cb 237 #[I J k,I Qp (l:Int),I Qp (r:Int),I Qp (s:Int)] w (I Qp (AQ k l r s:Nat)):=by
 by_cases f:k=4
 .subst f;have h:=aDC w l r r s hl hr hr hs;have a:AQ 4 l r s=kQ [l,r,r,s]:=rfl;rw[a];generalize kQ [l,r,r,s]=x at*;clear hl hr hs a;go_enter func237,ntmps237;go_wp2_with fail;refine mR h λd b=>?_
  clear h;go_wp2;go_ret;exact⟨rfl,b⟩
 by_cases g:k=5
 .subst g;have h:=asX w l r s hl hr hs;have a:AQ 5 l r s=kQ [l,r,s]:=rfl;rw[a];generalize kQ [l,r,s]=x at*;clear hl hr hs a;go_enter func237,ntmps237;go_wp2_with fail;refine mR h λd b=>?_
  clear h;go_wp2;go_ret;exact⟨rfl,b⟩
 have h:=DZ l r w hl hr;have a:AQ k l r s=bQ l r:=by unfold AQ;rw[Zk f,Zk g]
 rw[a];generalize bQ l r=x at*;clear hl hr hs a;go_enter func237,ntmps237;go_wp2_with fail;refine h.mono ?_;clear h;rintro e d ⟨rfl,rfl⟩;go_wp2;go_ret;exact⟨rfl,Za _ _⟩
def Um(l:Nat)(w:U)(hl:l<=bO) :
  Ce 238 #[I Qp (l:Int)] w (I Qp (bQ l (jY l+1):Nat)):=by have a:=agQ l w hl;have d:jY l<=64:=acC l (by unfold bO at hl;omega);have b:=DZ l (jY l+1) w hl (by unfold bO;omega);generalize jY l=n at*;generalize bQ l (n+1)=x at*;clear hl;go_enter func238,ntmps238;go_wp2_with fail;refine a.mono ?_;clear a;rintro e f ⟨rfl,rfl⟩;go_wp2_with fail;refine b.mono ?_;clear b;rintro e g ⟨rfl,rfl⟩;go_wp2;go_ret;exact⟨rfl,rfl⟩
theorem aP.take(h:aP w ao xs)(k:Nat):aP w ao (xs.take k):=by refine⟨by have:=h.1;rw[Jb];omega,λi a=>?_⟩;rw[Jb]at a;obtain⟨b,off,e,d⟩:=h.2 i X;grind
theorem Yb{l:IC}{k:Nat}(hk:k<N l)(h:E l k 0≠k):l8 l=false:=by unfold l8;grind
theorem Yc{l:IC}(h:∀i,i<N l->E l i 0=i):l8 l=true:=by unfold l8;grind
theorem agZ(ao:LM)(cap:Nat)(xs:IC)(v:Int)(w:U)(hx:aP w ao xs) :
  Calls V 202 #[Z ao (N xs) cap,I J v] w λe q=>∃r:Int,e=Qu (I J r)/\Qm (0<=r↔v∈xs)/\q = w:=by
 have t:=hx.1;go_enter func202,ntmps202;go_wp2;go_loop [8] (λi=>∃k:Nat,k<=N xs/\i=I J k/\v ∉ xs.take k) (λi=>N xs-(intOf i).toNat)
 case atStart=>grind
 case round=>
  obtain⟨k,u,rfl,a⟩:=hrel;by_cases g:k<N xs
  .obtain⟨b,off,rfl,n⟩:=hx.get g;have p:=n k g;have l:=Zh (Du (v:=v) g);have d:Qm _:=a;have m:Qm (E xs k 0∈xs):=by grind
   clear n hx a;generalize E xs k 0=x at p l m;by_cases j:v=x
   .have f:(v==x)=true:=by simp[j]
    go_wp2;go_ret;exact⟨k,rfl,⟨λ_=>m.o,λ_=>X⟩,rfl⟩
   .have f:(v==x)=false:=by simp[j]
    go_wp2;go_round
    case rel=>exact⟨k+1,X,Qe,λe=>by
     rcases l.o.1 e with e|e
     .exact d.o e
     .exact j e.symm⟩
    case measure=>exact XK
  .have e:k=N xs:=X
   rw[e,Z0]at a;have d:Qm _:=a;clear a;go_wp2;go_ret;exact⟨-1,rfl,⟨λh=>absurd h X,λh=>absurd h d.o⟩,rfl⟩
def Uo(ao:LM)(cap:Nat)(xs:IC)(v:Int)(w:U)(hx:aP w ao xs) :
  Ce 167 #[Z ao (N xs) cap,I J v] w (Qq (decide (v∈xs))):=by have h:=agZ ao cap xs v w hx;clear hx;go_enter func167,ntmps167;go_wp2_with fail;refine h.mono ?_;clear h;rintro e b ⟨r,rfl,a,rfl⟩;go_wp2;go_ret;exact⟨QZ (by rw[Xa,Zi,Zi];exact a.o),rfl⟩
def RZ(ao bo:LM)(cap pQ:Nat)(xs ys:IC)(w:U)(hx:aP w ao xs)(hy:aP w bo ys) :
  Cb 174 #[Z ao (N xs) cap,Z bo (N ys) pQ] w (Qq (decide (xs=ys))):=by
 have z:=hy.1;by_cases a:N xs=N ys
 .have d:=Zh a;have A:((N xs:Int) != (N ys:Int))=false:=by rw[a];simp
  have G:N xs<=N ys:=X;clear a;go_enter func174,ntmps174;go_wp2;go_loopw [13] (λi wr=>∃k:Nat,k<=N xs/\i=I J k/\Qm (xs.take k=ys.take k)/\∃n,wr=w.drewN n) (λi _=>N xs-(intOf i).toNat)
  case atStart=>exact⟨0,ZR _,rfl,rfl,0,rfl⟩
  case round=>
   obtain⟨k,K,rfl,q,n,rfl⟩:=hrel;by_cases p:k<N xs
   .have f:k<N ys:=X
    obtain⟨b,off,rfl,r⟩:=hx.get p;obtain⟨L,P,rfl,t⟩:=hy.get f;have B:=r k p;have C:=t k f;clear r t hx hy;obtain⟨x,g⟩:=eY (E xs k 0);obtain⟨y,j⟩:=eY (E ys k 0);rw[<-g]at B;rw[<-j]at C;obtain⟨u,v⟩:=bH g j;clear g j;by_cases l:x=y
    .have m:(x != y)=false:=by simp[l]
     go_wp2;go_quiet (fail);refine gQ ?_;exact⟨k+1,X,Qe,FI p f q.o (by rw[<-u.o,<-v.o];exact l),_,rfl⟩
    .have m:(x != y)=true:=by simp[l]
     go_wp2;go_quiet (fail);go_wp2;go_ret;exact⟨QZ (ZK (λe=>l (by rw[u.o,v.o,e]))).symm,Zg (Zg (Za _ _) _) _⟩
   .have D:=Zh (by  omega:k=N xs)
    go_wp2;go_ret;exact⟨QZ (by refine(Zl ?_).symm;have:=q.o;rw[D.o,Z0,d.o,Z0]at this;exact this),Zg (Za _ _) _⟩
 .have A:((N xs:Int) != (N ys:Int))=true:=by rw[bne_iff_ne];omega
  have d:Qm _:=a;clear a;go_enter func174,ntmps174;go_wp2;go_ret;exact⟨QZ (ZK (λe=>d.o (by rw[e]))).symm,Za _ _⟩
theorem vC(ao bo:LM)(cap pQ:Nat)(xs ys:IC)(w:U)(hx:aP w ao xs)(hy:aP w bo ys)(nu:N xs<=cap) :
  Cb 258 #[Z ao (N xs) cap,Z bo (N ys) pQ] w (Qq (aN xs ys)):=by
 have e:=hy.1;by_cases a:N ys<=N xs
 .have b:=Zh (by unfold aN;rw[Zl a,Zm]:aN xs ys=decide (xs.take (N ys)=ys))
  have d:=RZ ao bo cap pQ (xs.take (N ys)) ys w (hx.take _) hy;rw[Jb,Nat.min_eq_left a]at d;generalize aN xs ys=S,decide (xs.take (N ys)=ys)=B at*;clear hx hy;go_enter func258,ntmps258;go_wp2_with fail;refine mR d λg f=>?_;clear d;go_wp2;go_ret;exact⟨QZ b.o.symm,f⟩
 .have b:=Zh (by unfold aN;grind:aN xs ys=F)
  generalize aN xs ys=S at*;clear hx hy;go_enter func258,ntmps258;go_wp2;go_ret;exact⟨QZ b.o.symm,Za _ _⟩
def Ur(ao:LM)(cap:Nat)(xs:IC)(w:U)(hx:aP w ao xs) :
  Ce 277 #[Z ao (N xs) cap] w (Qq (l8 xs)):=by
 have v:=hx.1;have q:Qm _:=@Yb xs;have r:Qm _:=@Yc xs;generalize l8 xs=C at*;go_enter func277,ntmps277;go_wp2;go_loop [7] (λi=>∃k:Nat,k<=N xs/\i=I J k/\Qm (∀j,j<k->E xs j 0=j)) (λi=>N xs-(intOf i).toNat)
 case atStart=>exact⟨0,ZR _,rfl,λj p=>absurd p X⟩
 case round=>
  obtain⟨k,y,rfl,m⟩:=hrel;by_cases l:k<N xs
  .obtain⟨b,off,rfl,n⟩:=hx.get l;have t:=n k l;clear n hx;have d:=Zh (q.o l);obtain⟨x,a⟩:=eY (E xs k 0)
   rw[<-a]at t d;have u:=Zh a;clear a;by_cases f:x=(k:Int)
   .have g:(x != (k:Int))=false:=by simp[f]
    have e:=Zh f;clear f;go_wp2;go_round
    case rel=>exact⟨k+1,X,Qe,λj p=>by
     rcases Jd j k with h|h
     .exact m.o j h
     .obtain rfl:j=k:=X
      rw[<-u.o];exact e.o⟩
    case measure=>exact XK
   .have g:(x != (k:Int))=true:=by simp[f]
    have e:=Zh (d.o f);go_wp2;go_ret;exact⟨QZ e.o.symm,rfl⟩
  .have e:=Zh (r.o (λi z=>m.o i X));go_wp2;go_ret;exact⟨QZ e.o.symm,rfl⟩
def ag0(q:ae){k:Nat}(hk:k<N q.ord.xs):(q.ord.xs.take (k+1)).map (λp=>E q.bA.xs p.toNat 0)=(q.ord.xs.take k).map (λp=>E q.bA.xs p.toNat 0)++[E q.bA.xs (E q.ord.xs k 0).toNat 0]:=by
 have e:E q.ord.xs k 0=q.ord.xs[k]:=by simp[List.getD,hk]
 rw[Q5 hk,Q7,e];rfl
def FM{w:U}{base qY:Nat}{e:TypeId}{size:Nat}{v:Ql}{n:Nat}{xs:JK Ql}(h:w.ownsRow base e size v n xs)(hb:qY<=base):w.ownsRow qY e size v n xs:=qX h hb (λ_ _ _=>rfl)
def A9{n:Int}(h:dm xs n=T)(hk:k<N xs):0<=E xs k 0/\E xs k 0<n:=by unfold dm at h;rw[Q9]at h;have:=h _ (XI hk (d:=0));simpa using this
theorem vD(q:ae)(w:U)(hq:q.At w)(hos:dm q.ord.xs (N q.bA.xs)=T)(Lb:N q.ord.xs<=1000) :
  Calls V 171 #[Qt q.cells] w λe w'=>∃v,e=Qu v/\w'.ownsRow (M (H w)) 3 1 v (N (jk q)) ((jk q).map (Value.int J))/\Bw w w':=by
 obtain⟨i,m⟩:=eY (w.alloc (Qs q.cells 35));have u:Bw w i:=by rw[m];exact fo _ _
 have y:GB i (M (H w)) 35 q.cells:=by rw[m];exact qj _ _
 have q5:=y.at 5;have q6:=y.at 6;have O5:=m.symm;have z:Qm (aP w q.bA.ad q.bA.xs):=hq.bA;have A:Qm (aP w q.ord.ad q.ord.xs):=hq.ord;have Lc:=Zh hos;have f:Qm (∀k,k<N q.ord.xs->_):=λk r=>@ag0 q k r;have g:Qm (jk q=(q.ord.xs.take (N q.ord.xs)).map (λp=>E q.bA.xs p.toNat 0)):=by show _=_;rw[Z0];rfl
 have aa:=hq.bA.1;have R:Qm (∀k,N ((q.ord.xs.take k).map (λp=>E q.bA.xs p.toNat 0))<=1000):=λk=>Qb;clear m y hq hos;obtain⟨au,iF,cZ,wh,aF,aC,aM,⟨ea,ec,j⟩,⟨oa,oc,ord⟩⟩:=q;unfold ae.cells aA.val at*;simp only at*;generalize jk ⟨au,iF,cZ,wh,aF,aC,aM,⟨ea,ec,j⟩,⟨oa,oc,ord⟩⟩=WN at*;obtain⟨W,l⟩:=eY (λk=>(ord.take k).map (λp=>E j p.toNat 0):Nat->IC);have B:Qm (∀k,k<N ord->W (k+1)=W k++[E j (E ord k 0).toNat 0]):=λk r=>by rw[l];exact f.o k r
 have C:=Zh (by  rw[l];exact g.o:WN=W (N ord))
 have D:Qm (∀k,N (W k)<=1000):=λk=>by rw[l];exact R.o k
 have G:=Zh (by  rw[l];rfl:W 0=[])
 clear l f g R;go_enter func171,ntmps171;go_wp2;go_loopw [3,9] (λv Q wr=>∃k:Nat,k<=N ord/\Q=I J k/\Qm (wr.ownsRow (M (H i)) 3 1 v (N (W k)) ((W k).map (Value.int J)))/\Bw i wr) (λ_ Q _=>N ord-(intOf Q).toNat)
 case atStart=>exact⟨0,ZR _,rfl,by rw[G.o];exact XC _ _ _ _,Za _ _⟩
 case round=>
  obtain⟨k,r,rfl,d,a⟩:=hrel;have af:=cB a q5;by_cases t:k<N ord
  .have S:=aO u a;obtain⟨ob,oo,rfl,Ao⟩:=Q4 A.o t;have nC:=cB S (Ao k t);have AY:=A9 Lc.o t;have HT:=Zh (B.o k t);have dY:=D.o k;generalize E ord k 0=p at*;obtain⟨n,rfl⟩:=XX AY.1;have hn:n<N j:=X
   obtain⟨eb,eo,rfl,P⟩:=Q4 z.o hn;have ag:=cB S (P n hn);rw[XY]at HT;generalize E j n 0=x at*;generalize ah:W k=L at*;obtain⟨ra,rm,rc,rfl⟩:=Xz d.o;obtain⟨v',w5,sF,mW,kC,⟨ua,um,uc,rfl⟩,-⟩:=pK wr (M (H i)) (Z ra rm rc) L d.o X a.size x 26;have K:=a.trans (kC.aj a.size (λb hb e=>Qj ((Xy d.o e).1)));rw[<-HT.o]at mW;have zW:Qm _:=mW;have qd:=Zh K;go_wp2_with (first|(at_builtin;refine XJ rfl (.tmp 13) (.tmp 19) 26 rfl (Z ra rm rc) (Z (O (aD (M (H wr)) 0)) 1 1) (Z ua um uc) w5 rfl rfl sF ?_));refine gQ ?_;exact⟨k+1,X,Qe,zW.o,qd.o⟩
  .obtain rfl:k=N ord:=X
   rw[<-C.o]at d;obtain⟨HF,HB⟩:=bH (FM d.o u.size) (aO u a);clear d a;go_wp2;go_ret;exact⟨_,rfl,HF.o,HB.o⟩
structure aDH(q:ae)(kind:Int):Prop where
 places:kind=9->dm q.ord.xs (N q.bA.xs)=T
 D6:N q.ord.xs<=1000
theorem Us(q:ae)(kind:Int)(oa:LM)(oc:Nat)(aH:IC)(w:U)(hq:q.At w)(hk:aDH q kind)(ho:aP w oa aH)(nu:N aH<=oc) :
  Cb 273 #[Qt q.cells,I J kind,Z oa (N aH) oc] w (Qq (kF q kind aH)):=by
 obtain⟨n,u⟩:=eY (w.alloc (Qs q.cells 35));have l:Bw w n:=by rw[u];exact fo _ _
 have G:GB n (M (H w)) 35 q.cells:=by rw[u];exact qj _ _
 obtain⟨q0,q1,q2,q3,q4,q5,q6⟩:=G.k7;have O5:=u.symm;have Lb:=hq.ord.1;have Q:=hq.aC.1;have r:Qm (kind=9->_):=λe=>vD q n (hq.aj l) (hk.places e) hk.D6;have t:Qm (∀B bc C x,Bw n x->aP x B C->_):=λB bc C x hb hy=>vC oa B oc bc aH C x (Zc (aO l hb) ho) hy nu;have d:Qm _:=Ur q.ord.ad q.ord.cap q.ord.xs n (Zc l hq.ord);obtain⟨k,f⟩:=eY (kF q kind aH);rw[<-f];have R:Qm (N (jk q)<=1000):=by show _<=_;unfold jk;rw[ZX];exact hk.D6
 unfold kF at f;have a:=Zh f;clear f;generalize jk q=WN,l8 q.ord.xs=CB at*;have j:=Zh l;clear u G hq hk ho l;obtain⟨⟨sa,sc,au⟩,iF,cZ,wh,aF,⟨ka,kc,W⟩,⟨ua,uc,aM⟩,⟨ea,ec,bA⟩,⟨da,dc,ord⟩⟩:=q;unfold ae.cells aA.val at*;simp only at*;by_cases c0:N ord=0
 .have b:=Zh (by  rw[a.o,Zd c0]:k=T)
  have S:((N ord:Int)==0)=true:=by rw[c0];rfl
  clear a d r t c0;go_enter func273,ntmps273;go_wp2;go_ret;exact⟨QZ b.o.symm,j.o⟩
 rw[Zk c0]at a;have S:((N ord:Int)==0)=false:=by rw[Jf];omega
 clear c0;by_cases i:kind=10
 .have b:=Zh (by  rw[a.o,Zd i]:k=T)
  subst i;clear a d r t;go_enter func273,ntmps273;go_wp2;go_ret;exact⟨QZ b.o.symm,j.o⟩
 rw[Zk i]at a;by_cases k9:kind=9
 .have b:=Zh (by  rw[a.o,Zd k9]:k=aN aH WN)
  have K:=r.o k9;subst k9;clear a d r;go_enter func273,ntmps273;go_wp2_with fail;refine K.mono ?_;clear K;rintro e L ⟨v,rfl,P,g⟩;obtain⟨ya,yc,rfl,p⟩:=X9 P (Qj R.o);have m:=t.o ya yc WN L g p;rw[<-b.o]at m;have y:=Zh (aO j.o g);clear t P p g;go_wp2_with fail;refine mR m λw3 D=>?_;have z:=Zh (aO y.o D);go_wp2;go_ret;exact⟨rfl,z.o⟩
 rw[Zk k9]at a;by_cases k8:kind=8
 .rw[Zd k8]at a;subst k8;by_cases aa:N ord<=N W
  .have b:Qm (k=CB):=Qb
   have A:=d.o;go_enter func273,ntmps273;go_wp2_with fail;refine Jg A ?_;rintro e L ⟨rfl,rfl⟩;go_wp2;go_ret;exact⟨QZ b.o.symm,j.o⟩
  .have b:Qm (k=F):=Qb
   go_enter func273,ntmps273;go_wp2;go_ret;exact⟨QZ b.o.symm,j.o⟩
 .have b:=Zh (by  rw[a.o,Zk k8]:k=F)
  go_enter func273,ntmps273;go_wp2;go_ret;exact⟨QZ b.o.symm,j.o⟩
def Je:=@FM
def ag1(ts:JK af)(q:ae)(hk:k<N xs):bn (iR ts q (xs.take (k+1)))=bn (iR ts q (xs.take k))|||2 ^ aU ts q.au.xs (E xs k 0):=by
 have e:E xs k 0=xs[k]:=by simp[List.getD,hk]
 unfold iR;rw[Q5 hk,Q7,IY,e];show _|||bn [(aU ts q.au.xs xs[k]:Int)]=_;rw[vk]
def lT(ts:JK af)(q:ae)(xs:IC):Prop:=∀c∈xs,0<=c/\c<aX ts q.au.xs
def D7(ok:Ok ts q)(h:lT ts q xs):cK (N q.au.xs) (iR ts q xs):=λx e=>by obtain⟨c,a,rfl⟩:=Xc.1 e;obtain⟨b,d⟩:=h c a;have:=(ZZ ok.qP ok.au b d).1;omega
def afi(ok:Ok ts q)(h:lT ts q xs)(k:Nat):bn (iR ts q (xs.take k))<18446744073709551616:=
 (D7 ok (λc a=>h c (XT a))).lt ok.ig
def R7(ok:Ok ts q):(N (qZ ts q):Int)=aX ts q.au.xs:=by have:=yI ok.qP ok.au (N q.au.xs) (Zb _);rw[Z0]at this;exact this
def Yd(ok:Ok ts q)(h0:0<=c)(h1:c<aX ts q.au.xs):aU ts q.au.xs c<N q.au.xs:=(ZZ ok.qP ok.au h0 h1).1
theorem MJ(c:aV)(w:U) :
  Cb 181 #[c.val] w (Qq (!c.const&&decide (c.op≠2))):=by
 obtain⟨b,d,left,a,right⟩:=c;have f:=fo w (Qs #[Qq b,I J d,I J left,Qq a,I J right] 56);have e:=Zh f;have g:Qm (decide (d≠2)=(d != 2)):=by show _=_;rw[Xa];simp
 unfold aV.val
 cases a with
 |false =>
  go_enter func181,ntmps181;go_wp2;go_ret;exact⟨QZ Qb,e.o⟩
 |true =>
  go_enter func181,ntmps181;go_wp2;go_ret;exact⟨rfl,e.o⟩
def MK(w:U)(xs:IC)(t:TypeId)(hl:N xs<=1000):aP (w.alloc (Qs (xs.map (Value.int J)).toArray t)) (O (aD (M (H w)) 0)) xs:=by refine⟨X,λi a=>⟨M (H w),0,rfl,?_⟩⟩;simp only[World.cell?,qj w _];simp[List.getD,a]
theorem zX(c:aV)(w:U) :
  Calls V 140 #[c.val] w λe n=>∃b,e=Qu (Z (O (aD b 0)) (N (bz c)) (N (bz c)))/\aP n (O (aD b 0)) (bz c)/\Bw w n:=by
 have p:Qm _:=λx=>MJ c x;obtain⟨r,z,t,u⟩:=bI w #[Qq c.not,I J c.op,I J c.left,Qq c.const,I J c.right] 56;obtain⟨A,g1,m,C,v⟩:=u.k5;have j:Qm (bz c=if (!c.const&&decide (c.op≠2))=T then [c.left,c.right] else [c.left]):=by show _=_;unfold bz;grind
 have k:=p.o r;generalize (!c.const&&decide (c.op≠2))=B,bz c=CC at*;obtain⟨y,D,left,g,right⟩:=c;unfold aV.val at*;simp only at*;have l:=Zh t
 cases B with
 |true =>
  obtain rfl:CC=[left,right]:=j.o;have d:Qm (∀x:U,aP (x.alloc (Qs #[I J left,I J right] 3)) (O (aD (M (H x)) 0)) [left,right]):=λx=>MK x [left,right] _ Qa;go_enter func140,ntmps140;go_wp2_with fail;refine mR k λi a=>?_;obtain⟨q,G⟩:=kP a m v;have f:=Zh (aO (aO l.o a) (fo i (Qs #[I J left,I J right] 3)));go_wp2;go_ret;exact⟨_,rfl,d.o _,f.o⟩
 |false =>
  obtain rfl:CC=[left]:=j.o;have d:Qm (∀x:U,aP (x.alloc (Qs #[I J left] 3)) (O (aD (M (H x)) 0)) [left]):=λx=>MK x [left] _ Qa;go_enter func140,ntmps140;go_wp2_with fail;refine mR k λi a=>?_;have q:=cB a m;have f:=Zh (aO (aO l.o a) (fo i (Qs #[I J left] 3)));go_wp2;go_ret;exact⟨_,rfl,d.o _,f.o⟩
def xg(f:bC)(ts:JK af)(q:ae)(xa:LM)(xc:Nat)(xs:IC)(w:U)(ok:Ok ts q)(hf:oQ w f.ca (qZ ts q))(hx:aP w xa xs)(Uu:lT ts q xs) :
  Cb 132 #[Qt (f.cells ts q),Z xa (N xs) xc] w (I Qp ((bn (iR ts q xs):Nat):Int)):=by
 obtain⟨y,z⟩:=eY (w.alloc (Qs (f.cells ts q) 118));have v:Bw w y:=by rw[z];exact fo _ _
 have kU:GB y (M (H w)) 118 (f.cells ts q):=by rw[z];exact qj _ _
 have q7:=kU.at 7;have O5:=z.symm;have vY:Qm _:=hf.aj v;have D:Qm _:=Zc v hx;have ak:=hx.1;have iX:=hf.1;have i:Qm (∀k,k<N xs->bn (iR ts q (xs.take (k+1)))=bn (iR ts q (xs.take k))|||2 ^ aU ts q.au.xs (E xs k 0)):=λk A=>ag1 ts q A;have j:Qm (∀k,bn (iR ts q (xs.take k))<18446744073709551616):=λk=>afi ok Uu k;have l:Qm (bn (iR ts q (xs.take (N xs)))=bn (iR ts q xs)):=by show _=_;rw[Z0]
 have r:Qm (bn (iR ts q (xs.take 0))=0):=rfl;have G:Qm (∀k,k<N xs->∃n:Nat,E xs k 0=n/\n<N (qZ ts q)/\(E (qZ ts q) n (0,0)).1=aU ts q.au.xs (E xs k 0)/\aU ts q.au.xs (E xs k 0)<64):=λk A=>by obtain⟨h0,h1⟩:=Uu _ (XI A (d:=0));have h2:=R7 ok;have h3:=Yd ok h0 h1;have h4:=ok.ig;refine⟨(E xs k 0).toNat,X,X,rfl,X⟩
 have vQ:=Zh v;obtain⟨g,a⟩:=eY (λk=>bn (iR ts q (xs.take k)):Nat->Nat);have Ld:Qm (∀k,k<N xs->g (k+1)=g k|||2 ^ aU ts q.au.xs (E xs k 0)):=by rw[a];exact i.o
 have K:Qm (∀k,g k<18446744073709551616):=by rw[a];exact j.o
 have L:Qm (g (N xs)=bn (iR ts q xs)):=by rw[a];exact l.o
 have P:Qm (g 0=0):=by rw[a];exact r.o
 generalize bn (iR ts q xs)=R,aU ts q.au.xs=SN,qZ ts q=CS,f.cells ts q=FC at*;clear a i j l r z kU v ok Uu hf hx;go_enter func132,ntmps132;go_wp2;go_loopw [5,10] (λsv iv wr=>∃k:Nat,k<=N xs/\iv=I J k/\(∃s:Nat,sv=I Qp (s:Int)/\Qm (s=g k))/\Bw y wr) (λ_ iv _=>N xs-(intOf iv).toNat)
 case atStart=>exact⟨0,ZR _,rfl,⟨0,rfl,P.o.symm⟩,Za _ _⟩
 case round=>
  obtain⟨k,A,rfl,⟨s,rfl,hs⟩,B⟩:=hrel;by_cases C:k<N xs
  .obtain⟨xb,xo,rfl,aa⟩:=Q4 D.o C;have Q:=cB B (aa k C);obtain⟨n,hn,ag,nU,t⟩:=G.o k C;have HT:=Zh (Ld.o k C);have S:s<18446744073709551616:=by rw[hs.o];exact K.o k
   obtain⟨cb,co,ah,c0,_⟩:=vY.o.2 n ag;obtain⟨d0,ai⟩:=kP B c0 q7;rw[ah]at ai;rw[hn]at Q;rw[nU]at d0;rw[<-hs.o]at HT;generalize SN (E xs k 0)=m at*;obtain⟨wa,u⟩:=eX (wr.alloc (Qs #[I J (m:Int)] 3));have W9:=Cv (M (H wr)) m wa (by rw[<-u];simp) t;obtain⟨wb,b⟩:=eX (wa.alloc (Qs #[I Qp (s:Int),I Qp ((2 ^ m:Nat):Int)] 114));have hp:2 ^ m<18446744073709551616:=XR (n:=64) X t;have W:=qD (M (H wa)) s (2 ^ m) wb (by rw[<-b];simp) (by rw[<-b];simp) S hp;have zY:Qm (Bw y wb):=by show Below _ _ _;rw[<-b,<-u];exact aO (aO B (fo _ _)) (fo _ _)
   generalize 2 ^ m=p at*;go_wp2_with fail;refine W9.mono ?_;rintro e w2 ⟨rfl,rfl⟩;go_wp2_with fail;refine W.mono ?_;rintro e w3 ⟨rfl,rfl⟩;refine gQ ?_;exact⟨k+1,X,Qe,⟨s|||p,rfl,HT.o.symm⟩,zY.o⟩
  .obtain rfl:k=N xs:=X
   obtain⟨HV,HB⟩:=bH (hs.o.trans L.o) (aO vQ.o B);go_wp2;go_ret;exact⟨Q0 (by rw[HV.o]),HB.o⟩
def acN(f:bC)(ts:JK af)(q:ae):∃v0 a v2 v3 v4 v5 b d e v9 g i j,f.cells ts q=#[v0,a,v2,v3,v4,v5,b,d,e,v9,g,i,j]/\v0=q.au.val/\a=Z q.iF (N q.wh) q.cZ/\v2=Qq q.aF/\v3=q.aC.val/\v4=q.aM.val/\v5=q.bA.val/\b=q.ord.val/\
  d=Z f.ca (N (qZ ts q)) f.cc/\e=I Qp ((2 ^ (N q.au.xs)-1:Nat):Int)/\v9=I Qp ((2 ^ (N q.wh)-1:Nat):Int)/\g=Z f.ra (N q.au.xs) f.rc/\i=Z f.na f.nl f.nc/\j=Z f.pa f.pl f.pc:=
 ⟨_,_,_,_,_,_,_,_,_,_,_,_,_,rfl,rfl,rfl,rfl,rfl,rfl,rfl,rfl,rfl,rfl,rfl,rfl,rfl,rfl⟩
def Jh:=@acN
def LU(k:Int):Int:=if k=0∨k=1 then 0 else if 3<=k/\k<=5 then 2 else 1
def ql(k:Int):Array Value:=#[I J (LU k),Qq (decide (k=1)),Qq (decide (2<=k/\k<=5)),Qq (decide (k=4∨k=5)),Qq (decide (k=6))]
def sG:JK Value:=(List.range 11).flatMap λ(k:Nat)=>(ql (k:Int)).toList
def dS(w:U)(g:Nat):Prop:=∀j u,sG[j]? = O u->Qo w (aD g j)=O u
theorem dS.aj{w w':U}{g:Nat}(hb:Bw w w')(h:dS w g):dS w' g:=λj u a=>cB hb (h j u a)
theorem dS.get{w:U}{g:Nat}(h:dS w g){k:Nat}(hk:k<=10) :
  Qo w (aD g (0+k*5))=O (I J (LU k))/\Qo w (aD g (0+k*5+1))=O (Qq (decide ((k:Int)=1)))/\Qo w (aD g (0+k*5+2))=O (Qq (decide (2<=(k:Int)/\(k:Int)<=5)))/\
   Qo w (aD g (0+k*5+3))=O (Qq (decide ((k:Int)=4∨(k:Int)=5)))/\Qo w (aD g (0+k*5+4))=O (Qq (decide ((k:Int)=6))):=by
 have a:∀j,j<5->sG[k*5+j]? = (ql (k:Int)).toList[j]?:=λj b=>by have:=XO (λ(k:Nat)=>(ql (k:Int)).toList) 5 (λ_=>rfl) 0 (List.range 11) k j Qi b;unfold sG;grind
 simp only[ZT];refine⟨h (k*5) _ ?_,h (k*5+1) _ ?_,h (k*5+2) _ ?_,h (k*5+3) _ ?_,h (k*5+4) _ ?_⟩
 .have:=a 0 X;rw[Xg]at this;rw[this];rfl
 .rw[a 1 X];rfl
 .rw[a 2 X];rfl
 .rw[a 3 X];rfl
 .rw[a 4 X];rfl
theorem Pt{k:Int}(h1:1<=k):LU k=(bg k:Int):=by unfold LU bg;grind
def ahd(p:eQ):p.cells=#[I J p.kind,I Qp (p.ah:Int),I Qp (p.aG:Int),p.aH.val,I Qp (p.size:Int),I Qp (p.aJ:Int)]:=rfl
def akR(k:Int)(l r s:Nat):AQ k l r s<=bO:=by
 unfold AQ
 repeat' split
 .exact FH _
 .exact FH _
 .exact nV _ _
def acV(p:eQ)(ao:LM)(cap:Nat)(ps:JK eQ)(w:U)(hp:p9 w ao ps)(hz:p.size<=bO)(h1:p.kind≠1->0<N ps)(h2:3<=p.kind->p.kind<=5->1<N ps) :
  Cb 205 #[Qt p.cells,Z ao (N ps) cap] w (I Qp (dn p.kind p.size (E ps 0 jm).aJ (E ps 0 jm).size (E ps 1 jm).aJ (E ps 1 jm).size:Nat)):=by
 obtain⟨w1,dB,dP,C⟩:=bI w p.cells 141;have oq:=dP;have Ho:=C;have Dg:=Ho.at 0;have Pv:=Ho.at 4;have HC:=Zh oq;generalize aU:p.cells=PC at*;by_cases k1:p.kind=1
 .have d:=Zh (by  unfold dn;rw[Zd k1]:dn p.kind p.size (E ps 0 jm).aJ (E ps 0 jm).size (E ps 1 jm).aJ (E ps 1 jm).size=kQ [p.size,1])
  generalize dn p.kind p.size (E ps 0 jm).aJ (E ps 0 jm).size (E ps 1 jm).aJ (E ps 1 jm).size=R at*;have a:=asW w1 p.size 1 hz (by unfold bO;omega);rw[<-d.o]at a;have kb:(p.kind==1)=true:=by simp[k1]
  generalize p.kind=k,p.size=s at*;go_enter func205,ntmps205;go_wp2_with fail;refine mR a λw2 aa=>?_;have i:=Zh (aO HC.o aa);clear aa;go_wp2;go_ret;exact⟨rfl,i.o⟩
 have ae:=h1 k1;have AY:=hp.1;obtain⟨⟨v,y,rfl,c0,c1,c2,c3,c4,c5⟩,hl⟩:=hp.2 0 ae;rw[X8,Xg]at c0 c1 c2 c3 c4 c5;have af:Qm (1<N ps->Qo w (aD v (y+6))=O (I J (E ps 1 jm).kind)/\Qo w (aD v (y+6+1))=O (I Qp ((E ps 1 jm).ah:Int))/\
  Qo w (aD v (y+6+2))=O (I Qp ((E ps 1 jm).aG:Int))/\Qo w (aD v (y+6+3))=O (E ps 1 jm).aH.val/\
  Qo w (aD v (y+6+4))=O (I Qp ((E ps 1 jm).size:Int))/\Qo w (aD v (y+6+5))=O (I Qp ((E ps 1 jm).aJ:Int))/\(E ps 1 jm).size<=bO/\(E ps 1 jm).aJ<=bO):=λh=>by obtain⟨⟨b',o',e,d0,d1,d2,d3,d4,d5⟩,hr⟩:=hp.2 1 h;cases e;rw[Nat.one_mul]at d0 d1 d2 d3 d4 d5;exact⟨d0,d1,d2,d3,d4,d5,hr.size,hr.aJ⟩
 have f:=hl.size;have j:=hl.aJ;obtain⟨R,D⟩:=eY (dn p.kind p.size (E ps 0 jm).aJ (E ps 0 jm).size (E ps 1 jm).aJ (E ps 1 jm).size);rw[<-D];unfold dn at D;rw[Zk k1]at D;have d:=Zh D;clear D;have z:=h2;clear hp hl h1 h2 C Ho;generalize p.kind=k,p.size=s,E ps 0 jm=l,E ps 1 jm=r at*;obtain⟨lk,ls,ax,⟨la,ay,lx⟩,lz,G⟩:=l;obtain⟨rk,rs,az,⟨ra,aB,rx⟩,rz,rc⟩:=r;unfold aA.val at*;simp only at*;obtain⟨w2,aS,jf,L⟩:=bI w1 #[I J lk,I Qp (ls:Int),I Qp (ax:Int),Z la (N lx) ay,I Qp (lz:Int),I Qp (G:Int)] 141;obtain⟨d0,d1,d2,d3,d4,d5⟩:=aj3 oq c0 c1 c2 c3 c4 c5;obtain⟨m0,m4⟩:=kP jf Dg Pv;have l4:=L.at 4;have l5:=L.at 5;have ag:=Zh (aO HC.o jf);have aI:(k==1)=false:=by simp[k1]
 go_enter func205,ntmps205;go_wp2;refine Zf ?_;refine qA6 ?_;refine X6 ?_;intro S W;obtain⟨n0,n5⟩:=kP W m0 l5;have g:=Zh (aO ag.o W);have ai:Qm (1<N ps->_):=λh=>af.o h;by_cases u:k=3∨k=4∨k=5
 .rw[Zd u]at d;obtain⟨q0,q1,q2,q3,q4,q5,aC,aF⟩:=ai.o (z X X);obtain⟨e0,e1,e2,e3,e4,e5⟩:=aj3 g.o q0 q1 q2 q3 q4 q5;have aK:=z X X;obtain⟨w4,aT,P,Q⟩:=bI S #[I J rk,I Qp (rs:Int),I Qp (az:Int),Z ra (N rx) aB,I Qp (rz:Int),I Qp (rc:Int)] 141;have r4:=Q.at 4;have r5:=Q.at 5;obtain⟨t0,t5⟩:=kP P n0 n5;have aj:=Zh (aO g.o P);have ak:Qm (∀x,_):=λx=>Ul k lz rz s x f aC hz
  have Ut:Qm (AQ k lz rz s<=bO):=akR _ _ _ _;have Yj:Qm (∀(x:U) (m:Nat),m<=bO->_):=λx m hm=>asX x G rc m j aF hm;generalize AQ k lz rz s=wk at*;have HK:=Zh u;rcases HK.o with h|h|h
  all_goals
   subst h;go_wp2;refine wH w4 λa=>?_;refine GZ 0 a ?_;refine wR 10 λK b=>?_;go_simp;refine mR (ak.o _) λw5 n=>?_;refine oT b a n λa=>?_;refine wR 11 λK b=>?_;go_simp;refine oA b a λa=>?_;refine wR 12 λK b=>?_;go_simp;refine mR (Yj.o w5 wk Ut.o) λw6 q=>?_;refine b.o _ _ ((Below.trans (((Za _ _).drew).trans (n.mono Qa)) (q.mono (by have:=n.size;simp at this;omega)))) (λa=>?_);refine wR 13 λK b=>?_;go_simp;refine b.o _ _ a λa=>?_;refine wD ?_;try simp only[pU]
   have i:=Zh (aO aj.o a);rw[<-d.o];go_wp2;go_ret;exact⟨rfl,i.o⟩
 rw[Zk u]at d;have aL:(k==3)=false:=Qi;have aM:(k==4)=false:=Qi;have aN:(k==5)=false:=Qi;by_cases k6:k=6∨k=10
 .rw[Zd k6]at d;have au:Qm (∀x,_):=λx=>Um lz x f
  have Ut:Qm (bQ lz (jY lz+1)<=bO):=nV _ _;have av:Qm (∀(x:U) (m:Nat),m<=bO->_):=λx m hm=>asW x G m j hm;generalize bQ lz (jY lz+1)=wk at*;have HK:=Zh k6;rcases HK.o with h|h
  all_goals
   subst h;go_wp2;refine wH S λa=>?_;refine wA3 0 a ?_;refine wR 3 λK b=>?_;go_simp;refine Jg (au.o _) ?_;rintro e w5 ⟨rfl,rfl⟩;refine b.o _ _ a λa=>?_;refine wR 4 λK b=>?_;go_simp;refine oA b a λa=>?_;refine wR 5 λK b=>?_;go_simp;refine mR (av.o S.drew wk Ut.o) λw6 q=>?_;refine b.o _ _ ((((Za _ _).drew).trans (q.mono Qa))) (λa=>?_);refine wR 6 λK b=>?_;go_simp;refine b.o _ _ a λa=>?_;refine wD ?_;try simp only[pU]
   have i:=Zh (aO g.o a);rw[<-d.o];go_wp2;go_ret;exact⟨rfl,i.o⟩
 rw[Zk k6]at d;have aP:(k==6)=false:=Qi;have aQ:(k==10)=false:=Qi;by_cases k7:k=7
 .rw[Zd k7]at d;subst k7;have A:=asX S G lz lz j f f;rw[<-d.o]at A;go_wp2_with fail;refine mR A λw4 t=>?_
  have i:=Zh (aO g.o t);go_wp2;go_ret;exact⟨rfl,i.o⟩
 rw[Zk k7]at d;have aR:(k==7)=false:=Qi;have B:=asW S G lz j f;rw[<-d.o]at B;go_wp2_with fail;refine mR B λw4 t=>?_;have i:=Zh (aO g.o t);go_wp2;go_ret;exact⟨rfl,i.o⟩
theorem Sg{s:Nat}(h:s<2 ^ n)(hi:i∈bS s):i<n:=by unfold bS at hi;grind [Nat.testBit_lt_two_pow,Nat.lt_of_lt_of_le,Nat.pow_le_pow_right]
def Bb(g:Nat->Nat):∀(l:JK Nat) (m:Nat),l.foldl (λx c=>x / g c) m<=m
 |[],m=>Zb _
 |a::l,m=>by rw[ZL];exact ZU (Bb g l _) (Nat.div_le_self _ _)
theorem akS(ts:JK af)(q:ae)(s c:Nat):jd ts q s c<=bO:=by
 unfold jd;have a:=nK ((bS s).map λ(k:Nat)=>jZ ts q.au.xs (k:Int)) 1 (by grind [bO]);split
 .omega
 .have:=Bb (λc=>fJ ts q.au.xs (E q.wh c lz).cs) (bS c) (((bS s).map λ(k:Nat)=>jZ ts q.au.xs (k:Int)).foldl bQ 1);omega
theorem akT(k:Int)(s lc ls rc rs:Nat):dn k s lc ls rc rs<=bO:=by grind [dn,FH]
section
def Bc(s k:Nat):JK Nat:=(List.range k).filter λi=>s.testBit i
def Yk(s k:Nat):Bc s (k+1)=Bc s k++if s.testBit k=T then [k] else []:=by unfold Bc;rw[ZG,List.filter_append];cases h:s.testBit k <;> simp[h]
theorem acW(s:Nat){k:Nat}(hk:k<=64):Bc s k <+: bS s:=by
 have e:List.range 64=List.range k++(List.range (64-k)).map (k + ·):=by rw[<-List.range_add];congr 1;omega
 unfold Bc bS;grind
def acX(s:Nat){k:Nat}(hk:k<=64)(h:s / 2 ^ k=0):Bc s k=bS s:=by
 symm;refine Fw hk _ (λi d=>?_);have b:s<2 ^ k:=by
  rcases Jd s (2 ^ k) with a|a
  .exact a
  .have:=Nat.div_pos a (Nat.pow_pos X);omega
 exact ZN (ZO b (ZP X d))
def acY{s:Nat}(hs:s<18446744073709551616)(h:s / 2 ^ k≠0):k<64:=by
 rcases Jd k 64 with a|a
 .exact a
 .exfalso;apply h;apply Nat.div_eq_of_lt;exact ZO hs (ZP (n:=2) X a)
attribute [local go_sem] Oper.semAt_some
theorem yZ(s:Nat)(hs:s<18446744073709551616)(w0:U):axb rq V 90 (I Qp (s:Int)) (bS s) w0:=by
 intro l Jq W o hW ho hJ hY h0;have HY:=Zh hY;have y:Qm _:=@Yk s;have z:Qm _:=@acW s;have A:Qm _:=@acX s;have HH:Qm (∀n x,n<64->_):=λn x hn=>acB s n hs hn x;have B:Qm (∀k,s / 2 ^ k≠0->k<64):=λk h=>acY hs h;have C:Qm (Bc s 0=[]):=rfl;generalize Bc s=RT at*;refine(Jn (n:=0)).1 (callsIn_of_wp func90 rfl trivial ?_ rfl);simp only[ntmps90,XD,Zu,XE,Nat.reduceAdd,Nat.reduceSub,Array.replicate_succ,Array.replicate_zero,List.push_toArray,List.append_toArray,List.nil_append,List.cons_append];gi_wp2;gi_loopw [4] (λi wr=>∃k:Nat,k<=64/\i=I J k/\∃g,Qm (Jq (RT k) g wr)/\Qm (aB (λb=>¬o b) W wr)/\Qm (∀b,g b->o b∨(M (H W)<=b/\b<M (H wr))))
  (λi _=>64-(intOf i).toNat)
 case atStart=>exact⟨0,ZR _,rfl,o,by rw[C.o];exact h0,Xj _ _,λb h=>.inl h⟩
 case round=>
  obtain⟨k,hk,rfl,g,f,m,a⟩:=hrel;by_cases hz:s / 2 ^ k=0
  .have HE:=Zh (A.o hk hz);have D:((s:Int) / 2 ^ k != 0)=false:=by grind
   gi_wp2;go_end0;exact⟨⟨_,rfl⟩,bS s,g,by simp[rq],by rw[<-HE.o];exact f.o,m.o,a.o⟩
  .have G:=B.o k hz;have D:((s:Int) / 2 ^ k != 0)=true:=by grind
   have t:=Zh (y.o k);have HP:Qm (RT (k+1) <+: bS s):=z.o X;have u:=HH.o k wr G
   cases r:s.testBit k with
   |false =>
    rw[r]at u t;gi_wp2;refine⟨trivial,rfl,Jn.2 (u.mono ?_)⟩;rintro e S ⟨rfl,rfl⟩;gi_wp2;refine⟨(λ_ h=>by cases h),?_⟩;gi_wp2;go_roundw
    case rel=>exact⟨k+1,X,Qe,g,by have h:RT (k+1)=RT k++[]:=t.o;rw[h,Zy];exact f.o,m.o,a.o⟩
    case measure=>exact XK
   |true =>
    rw[r]at u t;have j:Qm (RT (k+1)=RT k++[k]):=t.o;obtain⟨fn,tmps,d,p,hy,hR⟩:=HY.o (RT k) k g wr f.o (by rw[<-j.o];simpa [rq] using HP.o) trivial (λb h=>by cases h) m.o.size;have aa:(Instr.yield l #[I J (k:Int)]).run V wr=.ok (.round l fn tmps d p) wr:=hy;gi_wp2;refine⟨trivial,rfl,Jn.2 (u.mono ?_)⟩;rintro e S ⟨rfl,rfl⟩;gi_wp2;refine⟨rfl,hR.mono ?_⟩;rintro e S ⟨rfl,o2,K,L,P⟩;obtain⟨Q,q,R⟩:=lX K L P;gi_wp2;go_roundw
    case rel=>
     refine⟨k+1,X,Qe,o2,by rw[j.o];exact Q.o,m.o.dL q.o ?_,?_⟩
     .intro b r h v;rcases a.o b v with v|v
      .exact h v
      .omega
     .intro b r;have:=q.o.size;have:=m.o.size;rcases R.o b r with h|h|h
      .rcases a.o b h with h|h
       .exact .inl h
       .exact .inr ⟨h.1,X⟩
      .exact .inr ⟨X,h.2⟩
      .cases h.1
    case measure=>exact XK
end
def Dz(n:Nat)(hn:n<=64)(w:U) :
  Ce 93 #[I J (n:Int)] w (I Qp ((2 ^ n-1:Nat):Int)):=by
 rcases Jd n 64 with h|h
 .exact WQ n h w
 .obtain rfl:n=64:=X
  go_enter func93,ntmps93;go_wp2;go_ret;exact⟨rfl,rfl⟩
section
def MS{pre l:List α}{x:α}(h:pre++[x] <+: l):x∈l:=h.subset Qa
structure Pw(w2:U)(t:TypeId)(Xq:Nat)(o1:Pm)(W:U):Prop where
 g:GB W (M (H w2)) t #[I Qp (Xq:Int)]
 aj:Bw w2 W
 iff:∀b,o1 b↔b=M (H w2)
def Pw.bT{w2:U}{t:TypeId}{Xq:Nat}{o1:Pm}{A B:U}{n:Nat}(h:Pw w2 t Xq o1 A)(hn:M (H w2)<=n)(hk:aB (λb=>o1 b∨b<n) A B):Pw w2 t Xq o1 B:=
 ⟨h.g.bT hk (.inl ((h.iff _).2 rfl)),h.aj.trans (hk.aj h.aj.size (λb a=>.inr X)),h.iff⟩
def Pw.step{w2:U}{Xq Yq:Nat}{o1:Pm}(h:Pw w2 t Xq o1 W):Pw w2 t Yq o1 (Qn W.drew (aD (M (H w2)) 0) (I Qp (Yq:Int)))/\aB (λb=>¬o1 b) W (Qn W.drew (aD (M (H w2)) 0) (I Qp (Yq:Int))):=by have d:aB (λb=>b≠M (H w2)) W (Qn W.drew (aD (M (H w2)) 0) (I Qp (Yq:Int))):=(Xl ((Za (M (H W)) W).drew)).trans (Xu _ _ _ (λh=>h rfl));exact⟨⟨(h.g.bT (Xl (s:=λ_=>True) ((Za (M (H W)) W).drew)) trivial).set 0 _,h.aj.trans (d.aj h.aj.size (λb a=>Jo a)),h.iff⟩,d.mono λb _ a e=>a ((h.iff b).2 e)⟩
attribute [local go_sem] Oper.semAt_some
def Yl(f:bC)(ts:JK af)(q:ae)(p:eQ)(ao:LM)(pl cap:Nat)(w:U)(ok:Ok ts q)(hf:f.At ts q w)(hs:p.ah<2 ^ (N q.au.xs))(hc:p.aG<2 ^ (N q.wh))(hk:gI p.kind=F) :
  Cb 204 #[Qt (f.cells ts q),Qt p.cells,Z ao pl cap] w (I Qp ((jd ts q p.ah p.aG:Nat):Int)):=by
 have aR:p.ah<18446744073709551616:=ZO hs (ZP (n:=2) X ok.ig);have aS:p.aG<18446744073709551616:=ZO hc (ZP (n:=2) X ok.qU);have bM:Qm (∀x∈bS p.ah,x<N q.au.xs):=λx v=>Sg hs v;have bN:Qm (∀x∈bS p.aG,x<N q.wh):=λx v=>Sg hc v;obtain⟨cZ,aY⟩:=bH (yZ p.ah aR) (yZ p.aG aS);have HR:Qm _:=hf.rows;have HP:Qm _:=hf.parts;obtain⟨aZ,UA⟩:=bH (agF ts q) (RP ts q);have Px:Qm (∀x,x<N q.au.xs->E (I7 ts q) x 0<=bO):=λx v=>by rw[RQ ts q v];obtain⟨h0,h1⟩:=A9 ok.au (k:=x) v;have ht:=A7 ok.qP (i:=(E q.au.xs x 0).toNat) X;unfold fI at ht;rw[Zi]at ht;unfold jZ bO;rw[XY];omega
 have Lf:Qm (∀x,x<N q.wh->1<=E (Dt ts q) x 0/\E (Dt ts q) x 0<=1000000):=λx v=>by rw[He ts q v];exact Yh ok.qP ok.au (ok.bU x v)
 obtain⟨z,bf,bg,r,bn⟩:∃z:JK Nat->Nat,z []=1/\(∀a x,x<N q.au.xs->z (a++[x])=bQ (z a) (E (I7 ts q) x 0))/\(∀a,z a<=bO)/\z (bS p.ah)=((bS p.ah).map λ(k:Nat)=>jZ ts q.au.xs (k:Int)).foldl bQ 1:=
  ⟨λa=>(a.map λ(k:Nat)=>jZ ts q.au.xs (k:Int)).foldl bQ 1,rfl,λa x v=>by simp only[Q7,XU];rw[RQ ts q v];rfl,λa=>nK _ 1 (by unfold bO;omega),rfl⟩
 obtain⟨D,ai⟩:=eX (z (bS p.ah));obtain⟨t,bq,bu,aB,bz⟩:∃t:JK Nat->Nat,t []=D/\(∀a x,x<N q.wh->t (a++[x])=t a / E (Dt ts q) x 0)/\(∀a,t a<=bO)/\t (bS p.aG)=(bS p.aG).foldl (λx c=>x / fJ ts q.au.xs (E q.wh c lz).cs) D:=
  ⟨λa=>a.foldl (λx c=>x / fJ ts q.au.xs (E q.wh c lz).cs) D,rfl,λa x v=>by simp only[XU];rw[He ts q v];rfl,λa=>ZU (Bb _ a D) (by rw[<-ai];exact r _),rfl⟩
 obtain⟨R,hR⟩:=eY (jd ts q p.ah p.aG);have aT:Qm (R=if D=0 then 0 else max (t (bS p.aG)) 1):=by show R=_;rw[hR];unfold jd;rw[<-bn,ai,bz]
 rw[<-hR];clear hR;obtain⟨df,dh,di,dm,bA,bB,aC⟩:=aDq bf bg r ai bq bu aB;clear bf bg r bn ai bq bu aB bz;have aU:=λx=>WR p.kind x;rw[hk]at aU;obtain⟨v0,v1,v2,v3,v4,v5,v6,v7,v8,v9,fO,fP,fQ,iq,-,-,-,-,-,-,-,-,-,-,bD,-,aF⟩:=Jh f ts q;rw[iq];rw[hf.pl]at aF;rw[ahd];clear hk hs hc aR aS iq ok hf;generalize I7 ts q=RL,Dt ts q=PL,bS p.ah=SL,bS p.aG=CL at*;obtain⟨kind,ps,pc,ord,aH,aI⟩:=p;simp only at*;generalize ord.val=od at*;obtain⟨w1,dB,dP,bE⟩:=bI w #[v0,v1,v2,v3,v4,v5,v6,v7,v8,v9,fO,fP,fQ] 118;obtain⟨w2,dM,jf,aJ⟩:=bI w1 #[I J kind,I Qp (ps:Int),I Qp (pc:Int),od,I Qp (aH:Int),I Qp (aI:Int)] 141;have ak:=jf;have oq:=aO dP ak;have Ho:=bE.up ak;have DC:=Ho.at 10;have DD:=Ho.at 12;have UB:=aJ;obtain⟨dN,bF,bG⟩:=UB.k3;rw[bD]at DC;rw[aF]at DD;clear bD aF;obtain⟨w3,dn,aK,bJ⟩:=bI w2 #[I Qp 1] 45;have Q:Qm (M (H w3)=M (H w2)+1):=by rw[<-dn];show _=_;simp
 obtain⟨d,bK⟩:=bH oq aK;have bP:Qm _:=bJ;have b1:=cB aK bF;obtain⟨dw,dx,dz⟩:=lX DC DD bG;clear dP jf bE aJ Ho UB oq ak aK bJ DC DD bG bF;refine(Jn (n:=0)).1 (callsIn_of_wp_marks func204 rfl trivial ?_ rfl);simp only[ntmps204,XD,Zu,XE,Nat.reduceAdd,Nat.reduceSub,Array.replicate_succ,Array.replicate_zero,List.push_toArray,List.append_toArray,List.nil_append,List.cons_append];gi_wp2;refine⟨trivial,rfl,Jn.2 ((aU _).mono ?_)⟩;rintro e W ⟨rfl,av⟩;have av:=av.symm;subst av;gi_wp2;refine Cy rq (gf:=90) (s:=I Qp (ps:Int)) rfl (enters_of func90 Qd rfl) (cZ.o w2) bK.o rfl
  (λa u W=>Pw w2 45 (z a) u W) (λb=>b=M (H w2)) ?_ ?_ ⟨by rw[df.o];exact bP.o,bK.o,λ_=>Iff.rfl⟩
  (λx=>{ tmps:=#[Qt #[v0,v1,v2,v3,v4,v5,v6,v7,v8,v9,fO,fP,fQ],Qt #[I J kind,I Qp (ps:Int),I Qp (pc:Int),od,I Qp (aH:Int),I Qp (aI:Int)],Z ao pl cap,Y (O (aD (M (H w)) 0)),Y (O (aD (M (H w1)) 0)),undef,I Qp 0,Y (O (aD (M (H w2)) 0)),I J (x:Int),undef,undef,Y (O (aD (M (H w1)) 0)),I J kind,Qq F,undef,undef,undef,undef,Y (O (aD (M (H w1)) 1)),I Qp (ps:Int),.func (.func 90) #[I Qp (ps:Int)] #[],I J (x:Int),undef,undef,undef,undef,undef,undef,undef,undef,undef,undef,undef,undef,undef,undef,undef,undef,undef,undef,undef,undef,undef,undef,undef],defers:=[] }) ?assign ?body ?done
 .rintro b rfl;exact⟨Zb _,Qj Q.o⟩
 .intro a u A B h hk;exact h.bT (Qj Q.o) hk
 case assign=>
  intro l x W K C;have he:rq.enc x=I J (x:Int):=rfl;gi_wp2;exact C
 case body=>
  intro l a x u W m L v nL ni;have j:=bM.o x (MS (by simpa [rq] using L));have ax:=d.o.trans (m.aj.mono d.o.size);obtain⟨rb,ro,aL,aM⟩:=kT.get (kT.aj ax HR.o) (i:=x) (by rw[aZ.o];exact j);have bR:=aM x (by rw[aZ.o];exact j);have S:=Zh (dh.o a x j);have aV:=Px.o x j;have r:=di.o a;have bV:=m.g.at 0;have bW:=m.g.frozen 0;have UD:=cB m.aj dw.o;rw[aL]at UD;have HI:=Zh m;generalize E RL x 0=rn at*;have hT:=λy=>DZ (z a) rn y r aV;rw[<-S.o]at hT;have ru:Qm (∀act,DY rq (λa u W=>Pw w2 45 (z a) u W) a x (M (H w3)) u W .normal act (Qn W.drew (aD (M (H w2)) 0) (I Qp (z (a++[x]):Int)))):=λ_=>⟨u,HI.o.step.1,HI.o.step.2,λb hb=>.inl hb⟩;generalize z (a++[x])=Xn,z a=Xp at*;gi_wp2_with fail;have ay:V.follows .mixedOrders=true:=Qd;refine wpIn_region_any ay (Bd (ze Qd) _ _ _ _ ?_);change wpAnyIn _ _ _ _ _ _ _ _ _ (World.drew _);refine iT 1 (Y (O (aD (M (H w)) 10))) ?_;refine iT 3 (I J (x:Int)) ?_
  repeat' first
   |refine iJ 0 2 ?_ ?_
   |refine iJ 0 5 ?_ ?_
   |refine iQ 0 ?_
   |refine iQ 2 ?_
   |refine iQ 5 ?_
   |refine iQ 6 ?_
   |refine iQ 7 ?_
   |refine iT 4 (Y (O (aD rb (ro+x)))) ?_
   |refine iD ?_;exact ru.o ⟨#[],[]⟩
   |intro K C;go_simp;refine C _ _ ?_;clear C K
   |intro K C;go_simp;refine⟨trivial,rfl,Jn.2 ((hT _).mono ?_)⟩;rintro e Wt ⟨rfl,rfl⟩;refine C _ _ ?_;clear C K
 case done=>
  rintro ys o' P aN m jf aJ hD;have az:ys=SL:=by simpa [rq] using aN
  subst az;rw[dm.o]at m;have bX:=m.g.at 0;have aa:=m.aj;obtain⟨dA,G⟩:=bH hD ((Xx.1 hD).1);by_cases h0:D=0
  .have bY:Qm (R=0):=by show R=0;rw[aT.o,Zd h0]
   subst h0;gi_wp2;refine⟨Qa,.inl ⟨_,_,rfl,run_takeDeferred hD,?_⟩⟩;refine⟨_,results_tmp rfl _ _ _,by rw[bY.o];rfl,?_⟩;exact d.o.trans (((aa.mono d.o.size)).trans ((Xm (s:=λb=>b<M (H w)) _ _ (Qk d.o.size Q.o)).aj (ZU d.o.size aa.size) (λ_ h=>h)))
  .have bZ:Qm (R=max (t CL) 1):=by show R=_;rw[aT.o,Zk h0]
   have dF:((D:Int)==0)=false:=by rw[Jf];omega
   obtain⟨W3,aP⟩:=eX (P.alloc (Qs #[I Qp (D:Int)] 45));have aW:Bw P W3:=by rw[<-aP];exact fo _ _
   have cu:Qm (GB W3 (M (H P)) 45 #[I Qp (D:Int)]):=by rw[<-aP];exact qj _ _
   have ag:Qm (M (H W3)=M (H P)+1):=by rw[<-aP];show _=_;simp
   have c2:=cB aW (cB aa dz.o);obtain⟨Ke,aQ⟩:=bH aW aa;gi_wp2;refine Cy rq (gf:=90) (s:=I Qp (pc:Int)) rfl (enters_of func90 Qd rfl) (aY.o P) Ke.o rfl
    (λa u W=>Pw P 45 (t a) u W) (λb=>b=M (H P)) ?_ ?_ ⟨by rw[bA.o];exact cu.o,Ke.o,λ_=>Iff.rfl⟩
    (λx=>{ tmps:=#[Qt #[v0,v1,v2,v3,v4,v5,v6,v7,v8,v9,fO,fP,fQ],Qt #[I J kind,I Qp (ps:Int),I Qp (pc:Int),od,I Qp (aH:Int),I Qp (aI:Int)],Z ao pl cap,Y (O (aD (M (H w)) 0)),Y (O (aD (M (H w1)) 0)),undef,I Qp 0,Y (O (aD (M (H w2)) 0)),undef,Y (O (aD (M (H P)) 0)),I J (x:Int),Y (O (aD (M (H w1)) 0)),I J kind,Qq F,undef,undef,undef,undef,Y (O (aD (M (H w1)) 1)),I Qp (ps:Int),.func (.func 90) #[I Qp (ps:Int)] #[],undef,undef,undef,undef,undef,undef,undef,undef,I Qp (D:Int),Qq F,I Qp (D:Int),Y (O (aD (M (H w1)) 2)),I Qp (pc:Int),.func (.func 90) #[I Qp (pc:Int)] #[],I J (x:Int),undef,undef,undef,undef,undef,undef,undef,undef,undef],defers:=[] }) ?ao1 ?axg ?axh
   .rintro b rfl;exact⟨Zb _,Qj ag.o⟩
   .intro a u A B h hk;exact h.bT (Qj ag.o) hk
   case ao1=>
    intro l x W K C;have he:rq.enc x=I J (x:Int):=rfl;gi_wp2;exact C
   case axg=>
    intro l a x u W m L v nL ni;have j:=bN.o x (MS (by simpa [rq] using L));have aX:=aQ.o.trans (m.aj.mono aQ.o.size);have ax:=d.o.trans (aX.mono d.o.size);obtain⟨rb,ro,aL,aM⟩:=kT.get (kT.aj ax HP.o) (i:=x) (by rw[UA.o];exact j);have bR:=aM x (by rw[UA.o];exact j);have S:=Zh (bB.o a x j);obtain⟨lN,aV⟩:=Lf.o x j;have r:=aC.o a;have bV:=m.g.at 0;have bW:=m.g.frozen 0;have UD:=cB aX dx.o;rw[aL]at UD;have HI:=Zh m;generalize E PL x 0=rn at*;have ru:Qm (∀act,DY rq (λa u W=>Pw P 45 (t a) u W) a x (M (H W3)) u W .normal act (Qn W.drew (aD (M (H P)) 0) (I Qp (t (a++[x]):Int)))):=λ_=>⟨u,HI.o.step.1,HI.o.step.2,λb hb=>.inl hb⟩;have HQ:Qm (t a<=18446744073709551615):=r;generalize t (a++[x])=Xn,t a=Xp at*;have dG:((Xp:Int)).tdiv (rn:Int)=(Xn:Int):=by rw[S.o,Int.tdiv_eq_ediv_of_nonneg X,Int.natCast_ediv]
    have dH:IntKind.u64.wrap (Xn:Int)=(Xn:Int):=yO (by have:=HQ.o;rw[S.o];have:=Nat.div_le_self Xp rn;omega);have dI:¬rn=0:=X;gi_wp2_with fail;have ay:V.follows .mixedOrders=true:=Qd;refine wpIn_region_any ay (Bd (ze Qd) _ _ _ _ ?_);change wpAnyIn _ _ _ _ _ _ _ _ _ (World.drew _);refine iT 1 (Y (O (aD (M (H w)) 12))) ?_;refine iT 3 (I J (x:Int)) ?_
    repeat' first
     |refine iJ 0 2 ?_ ?_
     |refine iJ 0 5 ?_ ?_
     |refine iQ 0 ?_
     |refine iQ 2 ?_
     |refine iQ 5 ?_
     |refine iQ 6 ?_
     |refine iQ 7 ?_
     |refine iT 4 (Y (O (aD rb (ro+x)))) ?_
     |refine iD ?_;exact ru.o ⟨#[],[]⟩
     |intro K C;go_simp;refine C _ _ ?_;clear C K
   case axh=>
    rintro ys o' W4 aN m dC dD dE;have az:CL=ys:=by symm;simpa [rq] using aN
    subst az;have bX:=m.g.at 0;have aA:=m.aj;have aB:=aC.o CL;have cz:Qm _:=bZ;generalize t CL=yv at*;obtain⟨rv,bL⟩:=eY (max yv 1);have dJ:max (yv:Int) 1=(rv:Int):=X;have dK:max (1:Int) (yv:Int)=(rv:Int):=X;have dL:(if (yv:Int)<1 then 1 else (yv:Int))=(rv:Int):=by split <;> omega
    have cK:Qm (R=rv):=by show R=rv;rw[bL];exact cz.o
    have cO:=(aA.block _ G.o).trans dA.o;clear bL bB aY HP Lf bA aC dC dD;gi_wp2;refine⟨Qa,.inl ⟨_,_,rfl,run_takeDeferred dE,?_⟩⟩;refine⟨Qa,.inl ⟨_,_,rfl,run_takeDeferred ((World.putObj_heap_other (Qk G.o ag.o)).trans cO),?_⟩⟩;refine⟨_,results_tmp rfl _ _ _,by rw[cK.o];rfl,?_⟩;have s0:=d.o.size;have s3:=Q.o;have s4:=ag.o;have s5:=aA.size;have s6:=G.o;refine d.o.trans (((aQ.o.mono s0)).trans ((aA.mono X).trans (((Xm (s:=λb=>b<M (H w)) _ _ X).aj X (λ_ h=>h)).trans ((Xm (s:=λb=>b<M (H w)) _ _ X).aj (by rw[World.putObj_size];omega) (λ_ h=>h)))))
end
def ac2(f:bC)(ts:JK af)(q:ae)(p:eQ)(ao:LM)(cap:Nat)(ps:JK eQ)(w:U)(hp:p9 w ao ps)(h0:0<N ps)(hk:gI p.kind=T) :
  Cb 204 #[Qt (f.cells ts q),Qt p.cells,Z ao (N ps) cap] w (I Qp (((E ps 0 jm).size:Nat):Int)):=by obtain⟨⟨A,B,rfl,c0,t,c2,c3,c4,c5⟩,-⟩:=hp.2 0 h0;rw[X8,Xg]at c4;have a:=λx=>WR p.kind x;rw[hk]at a;generalize f.cells ts q=FC at*;obtain⟨u,C,l,i⟩:=bI w FC 118;obtain⟨D,v,m,d⟩:=bI u p.cells 141;have b:=m;have g:=aO l b;have j:=d;have n:=j.at 0;have y:=cB g c4;have r:=Zh g;generalize p.kind=k,(E ps 0 jm).size=z,p.cells=PC at*;clear hk hp c0 t c2 c3 c4 c5 l m i d j g b;go_enter func204,ntmps204;go_wp2_with fail;refine(a _).mono ?_;rintro e G ⟨rfl,rfl⟩;go_wp2;go_ret;exact⟨rfl,r.o⟩
def ac3(f:bC)(ts:JK af)(q:ae)(p:eQ)(ao:LM)(cap:Nat)(ps:JK eQ)(w:U)(ok:Ok ts q)(hf:f.At ts q w)(hp:p9 w ao ps)(hs:p.ah<2 ^ (N q.au.xs))(hc:p.aG<2 ^ (N q.wh))(h0:gI p.kind=T->0<N ps) :
  Calls V 204 #[Qt (f.cells ts q),Qt p.cells,Z ao (N ps) cap] w λe a=>e=Qu (I Qp (((if gI p.kind=T then (E ps 0 jm).size else jd ts q p.ah p.aG):Nat):Int))/\Bw w a:=by
 cases hk:gI p.kind with
 |true =>
  rw[Zd rfl];exact ac2 f ts q p ao cap ps w hp (h0 hk) hk
 |false =>
  rw[Zk Qa];exact Yl f ts q p ao (N ps) cap w ok hf hs hc hk
def MU(n:ay)(w:U)(h:n.kind=1->0<=n.source/\n.source<64) :
  Cb 203 #[Qt n.cells] w (I Qp (((if n.kind=1 then 2 ^ n.source.toNat else 0):Nat):Int)):=by
 obtain⟨g,z,p,b⟩:=bI w n.cells 43;have j:=p;have d:=b;have r:=d.at 0;have t:=d.at 3;have f:=Zh j;clear b d p j;generalize n.cells=NC at*;by_cases a:n.kind=1
 .obtain⟨q,v⟩:=h a;obtain⟨s,i⟩:=XX q;rw[Zd a];have l:=Cv (M (H g)) s (g.alloc (Qs #[I J (s:Int)] 3)) Qa X;have m:2 ^ n.source.toNat=2 ^ s:=by rw[i];rfl
  rw[m];generalize 2 ^ s=R at l ⊢;clear m;rw[i]at t;rw[a]at r;have u:Qm (Bw w (g.alloc (Qs #[I J (s:Int)] 3))):=f.o.trans ((fo _ _).mono f.o.size);clear h i a q v;go_enter func203,ntmps203;go_wp2_with fail;refine l.mono ?_;rintro e A ⟨rfl,rfl⟩;go_wp2;go_ret;exact⟨rfl,u.o⟩
 .rw[Zk a];have y:(n.kind==1)=false:=by simp[a]
  generalize n.kind=k at*;go_enter func203,ntmps203;go_wp2;go_ret;exact⟨rfl,f.o⟩
def UE(ts:JK af)(q:ae)(hk:k<N cs):bn (iR ts q (bD (cs.take (k+1))))=bn (iR ts q (bD (cs.take k)))|||bn (iR ts q (bz (E cs k cz))):=by rw[Dv hk];unfold iR;rw[Q7,IY]
def UF(h:c∈bD (cs.take k)):c∈bD cs:=by obtain⟨x,a,b⟩:=ZA.1 h;exact ZA.2 ⟨x,XT a,b⟩
def UG(f:bC)(ts:JK af)(q:ae)(ca:LM)(cc:Nat)(cs:JK aV)(w:U)(ok:Ok ts q)(hf:oQ w f.ca (qZ ts q))(hx:bZ w ca cs)(mE:lT ts q (bD cs)) :
  Cb 94 #[Qt (f.cells ts q),Qt #[Z ca (N cs) cc]] w (I Qp ((bn (iO ts q.au.xs cs):Nat):Int)):=by
 obtain⟨v0,v1,v2,v3,v4,v5,v6,v7,v8,v9,fO,fP,fQ,iq,-⟩:=Jh f ts q;obtain⟨w1,dB,dP,av⟩:=bI w ((f.cells ts q)) 118;obtain⟨w2,aJ,jf,ax⟩:=bI w1 #[Z ca (N cs) cc] 59;have t:=jf;have z:=aO dP t;have Ho:=av.up t;have UB:=ax;have aI:=UB.at 0;obtain⟨Dg,MW,Ym,Py,Pv,Yn,Yo,ay,az,aA,DC,Si,DD⟩:=Ho.vV (by rw[iq];rfl);have A:=Zh ((hx.aj z).2);have Df:Qm (∀x d j k,k<N cs->Bw w2 x->aP x d (bz (E cs k cz))->Calls V 132 #[Qt (f.cells ts q),Z d (N (bz (E cs k cz))) j] x λe w'=>e=Qu (I Qp ((bn (iR ts q (bz (E cs k cz))):Nat):Int))/\Bw x w'):=
  λx d j k r hb h=>xg f ts q d j _ x ok (hf.aj (aO z hb)) h (λc u=>mE c (ZA.2 ⟨_,XI r,u⟩))
 have B:Qm (∀x c,_):=λx c=>zX c x;have C:Qm (∀k,k<N cs->bn (iR ts q (bD (cs.take (k+1))))=bn (iR ts q (bD (cs.take k)))|||bn (iR ts q (bz (E cs k cz)))):=λk r=>UE ts q r;have D:Qm (∀k,bn (iR ts q (bD (cs.take k)))<18446744073709551616):=λk=>(D7 ok (λc u=>mE c (UF u))).lt ok.ig;have EX:Qm (∀k,k<N cs->bn (iR ts q (bz (E cs k cz)))<18446744073709551616):=λk r=>(D7 ok (λc u=>mE c (ZA.2 ⟨_,XI r,u⟩))).lt ok.ig;have G:Qm (bn (iR ts q (bD (cs.take (N cs))))=bn (iO ts q.au.xs cs)):=by show _=_;rw[Z0];rfl
 have L:Qm (bn (iR ts q (bD (cs.take 0)))=0):=rfl;have iX:=hx.1;have HC:=Zh z;obtain⟨p,g⟩:=eY (λk=>bn (iR ts q (bD (cs.take k))):Nat->Nat);obtain⟨v,n⟩:=eY (λc=>bn (iR ts q (bz c)):aV->Nat);have Ld:Qm (∀k,k<N cs->p (k+1)=p k|||v (E cs k cz)):=by rw[g,n];exact C.o
 have P:Qm (∀k,p k<18446744073709551616):=by rw[g];exact D.o
 have Q:Qm (∀k,k<N cs->v (E cs k cz)<18446744073709551616):=by rw[n];exact EX.o
 have S:Qm (p (N cs)=bn (iO ts q.au.xs cs)):=by rw[g];exact G.o
 have W:Qm (p 0=0):=by rw[g];exact L.o
 have aa:Qm (∀x d j k,k<N cs->Bw w2 x->aP x d (bz (E cs k cz))->Cb 132 #[Qt #[v0,v1,v2,v3,v4,v5,v6,v7,v8,v9,fO,fP,fQ],Z d (N (bz (E cs k cz))) j] x (I Qp ((v (E cs k cz):Nat):Int))):=by rw[n,<-iq];exact Df.o
 rw[iq]at dB ⊢;generalize bn (iO ts q.au.xs cs)=R at*;go_enter func94,ntmps94;go_wp2;go_loopw [5,11] (λsv iv wr=>∃k:Nat,k<=N cs/\iv=I J k/\(∃s:Nat,sv=I Qp (s:Int)/\Qm (s=p k))/\Bw w2 wr) (λ_ iv _=>N cs-(intOf iv).toNat)
 case atStart=>exact⟨0,ZR _,rfl,⟨0,rfl,W.o.symm⟩,Za _ _⟩
 case round=>
  obtain⟨k,r,rfl,⟨s,rfl,hs⟩,eD⟩:=hrel;by_cases y:k<N cs
  .obtain⟨cb,co,rfl,c0,c1,c2,c3,c4⟩:=A.o k y;obtain⟨d0,d1,d2,d3,d4⟩:=qi eD c0 c1 c2 c3 c4;have HT:=Zh (Ld.o k y);have ag:s<18446744073709551616:=by rw[hs.o];exact P.o k
   have tq:=Q.o k y;have ah:Qm (∀x d j,_->_->_):=λx d j hb h=>aa.o x d j k y hb h;rw[<-hs.o]at HT;generalize E cs k cz=c at*;have ai:=λx=>B.o x c;generalize v c=m,bz c=CC at*;obtain⟨wb,aK,aB,aC⟩:=bI wr #[Qq c.not,I J c.op,I J c.left,Qq c.const,I J c.right] 56;obtain⟨b0,b1,b2,b3,b4⟩:=aC.k5;have l:=aO eD aB;obtain⟨j0,j1,j2,j3,j4,j5,j6,j7⟩:=Da l Dg MW Ym Py Pv Yn Yo ay;obtain⟨j8,j9,aL,aM,aN⟩:=qi l az aA DC Si DD;have zY:=Zh l;obtain⟨aQ,aR,aD,aS,aU⟩:=c;unfold aV.val at*;simp only at*;go_wp2;refine wH wb λa=>?_;refine wA3 0 a ?_;refine wR 3 λK i=>?_;go_simp;refine Jg (ai _) ?_;rintro e w3 ⟨b,rfl,aF,aG⟩;refine oT i a aG λa=>?_;refine wR 4 λK i=>?_;go_simp;refine mR (ah.o _ _ _ (aO zY.o a) aF) λw4 aH=>?_;refine oT i a aH λa=>?_;refine wR 5 λK i=>?_;go_simp;refine oA i a λa=>?_;refine wR 6 λK i=>?_;go_simp;refine Jg (qD (M (H w4)) s m _ Qa Qa ag tq) ?_;rintro e w5 ⟨rfl,rfl⟩;refine i.o _ _ a λa=>?_;refine wR 7 λK i=>?_;go_simp;refine i.o _ _ a λa=>?_;refine wD ?_;try simp only[pU]
   have ak:=Zh (aO zY.o a);refine gQ ?_;exact⟨k+1,X,Qe,⟨s|||m,rfl,HT.o.symm⟩,ak.o⟩
  .obtain rfl:k=N cs:=X
   obtain⟨HV,HB⟩:=bH (hs.o.trans S.o) (aO HC.o eD);go_wp2;go_ret;exact⟨Q0 (by rw[HV.o]),HB.o⟩
def oU(ts:JK af)(q:ae)(l:IC):Nat:=(l.map λc=>(iN ts q.au.xs c).toNat).foldl max 0
def Kg(ts:JK af)(q:ae)(hk:k<N l):oU ts q (l.take (k+1))=max (oU ts q (l.take k)) (iN ts q.au.xs (E l k 0)).toNat:=by
 have e:E l k 0=l[k]:=by simp[List.getD,hk]
 unfold oU;rw[Q5 hk,Q7,XU,e];rfl
theorem ac4(ts:JK af)(q:ae){cs:JK aV}(h1:¬1<N cs)(h0:0<N cs)(hn:(E cs 0 cz).not=F)(h2:(E cs 0 cz).op≠1)(h3:(E cs 0 cz).op≠2):fJ ts q.au.xs cs=oU ts q (bz (E cs 0 cz)):=by unfold fJ oU bz;grind
def ahk(ok:Ok ts q)(h:lT ts q l)(k:Nat):oU ts q (l.take k)<=1000000:=by
 induction k with
 |zero=>simp[oU]
 |succ k ih =>
  by_cases a:k<N l
  .rw[Kg ts q a];obtain⟨b,e⟩:=h _ (XI a (d:=0));have:=(A8 ok.qP ok.au b e).2;omega
  .rw[XW X];rw[XW X]at ih;exact ih
theorem ac5(f:bC)(ts:JK af)(q:ae)(ca:LM)(cc:Nat)(cs:JK aV)(w:U)(ok:Ok ts q)(hf:oQ w f.ca (qZ ts q))(hx:bZ w ca cs)(h0:0<N cs)(mE:lT ts q (bD cs)) :
  Cb 95 #[Qt (f.cells ts q),Qt #[Z ca (N cs) cc]] w (I Qp ((fJ ts q.au.xs cs:Nat):Int)):=by
 obtain⟨cb,co,rfl,c0,c1,c2,c3,c4⟩:=hx.2 0 h0;have iX:=hx.1;rw[X8,Xg]at c0 c1 c2 c3 c4;have y:lT ts q (bz (E cs 0 cz)):=λc hc=>mE c (ZA.2 ⟨_,XI h0,hc⟩);have G:Qm _:=@ac4 ts q cs;have aK:Qm (fJ ts q.au.xs cs=if (N cs)≠1∨(E cs 0 cz).not=T then 2 else if (E cs 0 cz).op=1 then 3 else if (E cs 0 cz).op=2 then 10 else fJ ts q.au.xs cs):=by
  show _=_;unfold fJ
  repeat' split
  all_goals rfl
 generalize fJ ts q.au.xs cs=R,E cs 0 cz=c at*;obtain⟨b,g,left,a,right⟩:=c;simp only at*;obtain⟨w1,dB,dP,aB⟩:=bI w ((f.cells ts q)) 118;obtain⟨p,aY,jf,aC⟩:=bI w1 #[Z (O (aD cb co)) (N cs) cc] 59;obtain⟨u,aZ,r,i⟩:=bI p #[Qq b,I J g,I J left,Qq a,I J right] 56;have z:=aO dP jf;have A:=aO z r;have K:=aO jf r;obtain⟨d0,d1,d2,d3,d4⟩:=qi z c0 c1 c2 c3 c4;have m0:Qo p (aD (M (H w1)) 0)=O (Z (O (aD cb co)) (N cs) cc):=aC.cell 0;have aL:=cB r m0;have b0:Qo u (aD (M (H p)) 0)=O (Qq b):=i.cell 0;have b1:Qo u (aD (M (H p)) 1)=O (I J g):=i.cell 1;have b2:Qo u (aD (M (H p)) 2)=O (I J left):=i.cell 2;have b3:Qo u (aD (M (H p)) 3)=O (Qq a):=i.cell 3;have b4:Qo u (aD (M (H p)) 4)=O (I J right):=i.cell 4;have q7:Qo w1 (aD (M (H w)) 7)=O (Z f.ca (N (qZ ts q)) f.cc):=aB.cell 7;have L:=cB K q7;have B:Qm _:=A;have vY:Qm _:=hf.aj A;have aM:=hf.1;have m:=zX ⟨b,g,left,a,right⟩ u;unfold aV.val at m;simp only at m;have P:Qm (∀k,k<N (bz ⟨b,g,left,a,right⟩)->∃n kd:Nat,E (bz ⟨b,g,left,a,right⟩) k 0=n/\n<N (qZ ts q)/\(E (qZ ts q) n (0,0)).2=(kd:Int)/\kd=(iN ts q.au.xs (E (bz ⟨b,g,left,a,right⟩) k 0)).toNat/\kd<=1000000):=λk C=>by obtain⟨h0,h1⟩:=y _ (XI C (d:=0));have h2:=R7 ok;have h3:=A8 ok.qP ok.au h0 h1;refine⟨(E (bz ⟨b,g,left,a,right⟩) k 0).toNat,(iN ts q.au.xs (E (bz ⟨b,g,left,a,right⟩) k 0)).toNat,X,X,?_,rfl,X⟩;have e:(E (qZ ts q) (E (bz ⟨b,g,left,a,right⟩) k 0).toNat (0,0)).2=iN ts q.au.xs (E (bz ⟨b,g,left,a,right⟩) k 0):=rfl;rw[e];omega
 have Q:Qm (∀k,k<N (bz ⟨b,g,left,a,right⟩)->oU ts q ((bz ⟨b,g,left,a,right⟩).take (k+1))=max (oU ts q ((bz ⟨b,g,left,a,right⟩).take k)) (iN ts q.au.xs (E (bz ⟨b,g,left,a,right⟩) k 0)).toNat):=λk C=>Kg ts q C;have S:Qm (∀k,oU ts q ((bz ⟨b,g,left,a,right⟩).take k)<=1000000):=λk=>ahk ok y k;have Yp:Qm (oU ts q ((bz ⟨b,g,left,a,right⟩).take (N (bz ⟨b,g,left,a,right⟩)))=oU ts q (bz ⟨b,g,left,a,right⟩)):=by show _=_;rw[Z0]
 have W:Qm (oU ts q ((bz ⟨b,g,left,a,right⟩).take 0)=0):=rfl;have aa:Qm (N (bz ⟨b,g,left,a,right⟩)<=2):=FL _;generalize bz ⟨b,g,left,a,right⟩=CC,f.cells ts q=FC at*;obtain⟨v,l⟩:=eY (λk=>oU ts q (CC.take k):Nat->Nat);have ag:Qm (∀k,k<N CC->v (k+1)=max (v k) (iN ts q.au.xs (E CC k 0)).toNat):=by rw[l];exact Q.o
 have ah:Qm (∀k,v k<=1000000):=by rw[l];exact S.o
 have ai:Qm (v (N CC)=oU ts q CC):=by rw[l];exact Yp.o
 have aN:Qm (v 0=0):=by rw[l];exact W.o
 by_cases h1:1<N cs
 .have j:Qm (R=2):=Qb
  go_enter func95,ntmps95;go_wp2;go_ret;exact⟨Q0 (by rw[j.o];rfl),B.o⟩
 cases b with
 |true =>
  have j:Qm (R=2):=Qb;go_enter func95,ntmps95;go_wp2;go_ret;exact⟨Q0 (by rw[j.o];rfl),B.o⟩
 |false =>
  have DF:¬(N cs≠1∨F=T):=Qb;by_cases o1:g=1
  .have j:Qm (R=3):=Qb
   subst o1;go_enter func95,ntmps95;go_wp2;go_ret;exact⟨Q0 (by rw[j.o];rfl),B.o⟩
  by_cases o2:g=2
  .have j:Qm (R=10):=Qb
   subst o2;go_enter func95,ntmps95;go_wp2;go_ret;exact⟨Q0 (by rw[j.o];rfl),B.o⟩
  have j:Qm (R=oU ts q CC):=G.o h1 h0 rfl o1 o2;have aP:(g==1)=false:=by simp[o1]
  have aQ:(g==2)=false:=by simp[o2]
  rw[<-ai.o]at j;generalize iN ts q.au.xs=KN,qZ ts q=CS at*;go_enter func95,ntmps95;go_wp2_with fail;refine m.mono ?_;rintro e w4 ⟨xb,rfl,aF,t⟩;have ak:=cB t L;have av:Qm _:=aO B.o t;have ax:Qm (oQ w4 f.ca CS):=oQ.aj t vY.o;have ay:Qm _:=aF;have aR:=aa.o;go_wp2;go_loop [6,30] (λsv iv=>∃k:Nat,k<=N CC/\iv=I J k/\(∃s:Nat,sv=I Qp (s:Int)/\Qm (s=v k))) (λ_ iv=>N CC-(intOf iv).toNat)
  case atStart=>grind
  case round=>
   obtain⟨k,C,rfl,⟨s,rfl,hs⟩⟩:=hrel;by_cases D:k<N CC
   .obtain⟨bf,xo,e,aG⟩:=Q4 ay.o D
    cases e;have az:=aG k D;obtain⟨n,kd,hn,aH,nU,aI,bg⟩:=P.o k D;have HT:Qm _:=ag.o k D;have aS:s<=1000000:=by rw[hs.o];exact ah.o k
    obtain⟨yb,yo,aJ,_,y1⟩:=(show oQ w4 f.ca CS from ax.o).2 n aH;rw[aJ]at ak;rw[hn,ZT]at az;rw[nU]at y1;rw[<-hs.o,<-aI]at HT;generalize KN (E CC k 0)=kk at*;have aU:max (s:Int) (kd:Int)=((max s kd:Nat):Int):=X;have aW:(if (s:Int)<(kd:Int) then (kd:Int) else (s:Int))=((max s kd:Nat):Int):=by split <;> omega
    have aX:(if (kd:Int)<(s:Int) then (s:Int) else (kd:Int))=((max s kd:Nat):Int):=by split <;> omega
    go_wp2;go_round
    case rel=>grind
    case measure=>exact XK
   .obtain rfl:k=N CC:=X
    have aA:=Zh (by  rw[hs.o,j.o]:s=R)
    go_wp2;go_ret;exact⟨Q0 (by rw[aA.o]),av.o⟩
def zf{e:TypeId}{base n sz:Nat}{v:Ql}{xs:JK Ql}{W:U}(h:W.ownsRow base e sz v n xs){b:Nat}(hb:v.ownBlock=O b):∃a,W.heap[b]? = O (Qs a e (0,0)):=by
 rcases h.2 with⟨rfl,_⟩|⟨g,cap,a,rfl,_,h3,_⟩
 .cases hb
 .cases hb
  simp_all
def rA(ht:e≠t){xs:JK Ql}(h:W.ownsRow base e sz v n xs){c:Array Ql}(hg:GB W b t c):v.ownBlock≠O b:=λa=>by obtain⟨d,f⟩:=zf h a;unfold GB at hg;simp_all
def FR(ht:e≠t){qY sz':Nat}{xs:JK Ql}(h:W.ownsRow base e sz v n xs)(h':W.ownsRow qY t sz' v' n' xs')(hb:v.ownBlock=O b):v'.ownBlock≠O b:=λd=>by obtain⟨f,g⟩:=zf h hb;obtain⟨a,i⟩:=zf h' d;simp_all
theorem FU{w5:U}{bf:Nat}{tF:TypeId}(ht:e≠tF){cells:Array Ql}(hg:GB W bf tF cells){xs:JK Ql}(ho:W.ownsRow base e sz v n xs)(mW:w5.ownsRow base e sz v' n' xs')(hk:aB (λb=>v.ownBlock≠O b) W w5)
  (jl:v'.ownBlock=v.ownBlock∨v'.ownBlock=O (M (H W)+1)) (i:Nat) :
  GB w5 bf tF cells/\GB (Qn w5 (aD bf i) v') bf tF (cells.setIfInBounds i v')/\(Qn w5 (aD bf i) v').ownsRow base e sz v' n' xs'/\aB (λb=>b≠bf/\v.ownBlock≠O b) W (Qn w5 (aD bf i) v'):=by
 have j:=rA ht ho hg;have a:=hg.bT hk j;have k:=hg.lt;have d:v'.ownBlock≠O bf:=λe=>by grind
 refine⟨a,a.set i v',?_,(hk.mono λ_ _ h=>h.2).trans (Xu _ _ _ (λh=>h.1 rfl))⟩;exact Xw mW (s:=λb=>b≠bf) (Xu _ _ _ (λh=>h rfl)) (λg f e=>d (by rw[f,e]))
def ahl(ts:JK af)(au:IC)(k m:Nat):(fV ts au k++((List.range (m+1)).map λm=>(k,(E ts (E au k 0).toNat tz).kd m))).flatMap mV=(fV ts au k++((List.range m).map λm=>(k,(E ts (E au k 0).toNat tz).kd m))).flatMap mV++mV (k,(E ts (E au k 0).toNat tz).kd m):=by rw[ZG,Q7,<-Jj,ZW];simp
def uy(ts:JK af)(au:IC)(k:Nat):JK Nat:=(List.range k).map λ(k:Nat)=>jZ ts au (k:Int)
theorem Yr(ts:JK af)(au:IC)(k:Nat):uy ts au (k+1)=uy ts au k++[jZ ts au (k:Int)]:=by grind [uy,List.range_succ]
theorem vE(ts:JK af)(au:IC)(k:Nat):N (uy ts au k)=k:=by grind [uy]
theorem Hr{ts:JK af}{au:IC}(hc:gV ts=T)(ha:dm au (N ts)=T)(h:N au<=64):∀k,k<=N au->N (fV ts au k)<=4*k
 |0,_=>by simp[fV]
 |k+1,hk=>by have ih:=Hr hc ha h k X;rw[qB,Zt,ZX,ZY];obtain⟨h0,h1⟩:=A9 ha (k:=k) X;have ht:=A7 hc (i:=(E au k 0).toNat) X;unfold fI at ht;grind
def Jp:=@zf
def Yt(a:Nat)(g:Nat->Nat):Nat->Nat
 |0=>a
 |k+1=>Yt a g k|||g k
def MX{a:Nat}{g:Nat->Nat}{n:Nat}(ha:a<2 ^ n):∀k,(∀i,i<k->g i<2 ^ n)->Yt a g k<2 ^ n
 |0,_=>ha
 |k+1,h=>XV (MX ha k (λi hi=>h i X)) (h k X)
def Sj(a:Nat)(g:Nat->Nat)(hk:k<=2)(h:∀i,k<=i->g i=0):Yt a g k=a|||g 0|||g 1:=by
 rcases (by omega:k=0∨k=1∨k=2) with rfl|rfl|rfl
 .rw[h 0 X,h 1 X,Nat.or_zero,Nat.or_zero];rfl
 .rw[h 1 X,Nat.or_zero];rfl
 .rfl
def akX{B:Nat}{v0 v1 v2 v3 v4 v5:Ql}(h:GB W B 141 #[v0,v1,v2,v3,v4,v5]):(loadVar 141 (aD B 0)).run V W=.ok (Qt #[v0,v1,v2,v3,v4,v5]) W:=by obtain⟨c0,a,c2,c3,c4,c5⟩:=h.k6;simp[go_sem,c0,a,c2,c3,c4,c5]
def ac6(f:bC)(ts:JK af)(q:ae)(n:ay)(ao:LM)(cap:Nat)(ps:JK eQ)(w:U)(ok:Ok ts q)(hf:f.At ts q w)(iX:n.cl.At w)(EU:n.co.At w)(nu:N n.co.xs<=n.co.cap)(hp:p9 w ao ps)(dP:1<=n.kind)(Lg:n.kind<=10)
  (hl:N ps=bg n.kind) (zT:cK (N q.wh) n.cl.xs) (hsr:n.kind=1->0<=n.source/\n.source<N q.au.xs) (hps:∀i,i<N ps->(E ps i jm).ah<2 ^ (N q.au.xs)/\(E ps i jm).aG<2 ^ (N q.wh)) :
  Calls V 168 #[Qt (f.cells ts q),Qt n.cells,Z ao (N ps) cap] w λe w'=>∃p:eQ,e=Qu (Qt p.cells)/\p.d=eP ts q n (E ps 0 jm).d (E ps 1 jm).d/\p.Ok w'/\p.ah<2 ^ (N q.au.xs)/\p.aG<2 ^ (N q.wh)/\(p.aH=n.co∨p.aH=(E ps 0 jm).aH∨p.aH=⟨Qr,0,[]⟩)/\Bw w w':=by
 have dI:bg n.kind<=2:=by unfold bg;split <;> (try split) <;> omega
 have eu:=hp.1;have aP:∀i,N ps<=i->E ps i jm=jm:=λi hi=>by simp[List.getD,hi]
 obtain⟨ow,aL⟩:∃ow,ow=(if n.kind=1 then 2 ^ n.source.toNat else 0):=⟨_,rfl⟩;have ax:=ok.ig;have az:=ok.qU;have bE:ow<2 ^ (N q.au.xs):=by
  rw[aL];split
  .rename_i h
   have:=hsr h;exact XR X X
  .exact Nat.two_pow_pos _
 obtain⟨sc,EW⟩:=eY (bn n.cl.xs);have bF:sc<2 ^ (N q.wh):=by rw[EW];exact uL zT
 obtain⟨r,ak⟩:=eY (Yt ow (λi=>(E ps i jm).ah));obtain⟨u,av⟩:=eY (Yt sc (λi=>(E ps i jm).aG));have bG:Qm (r 0=ow):=by show _=_;rw[ak];rfl
 have bJ:=Zh (by  rw[av];rfl:u 0=sc)
 have bK:Qm (∀k,r (k+1)=r k|||(E ps k jm).ah):=λk=>by rw[ak];rfl
 have bL:Qm (∀k,u (k+1)=u k|||(E ps k jm).aG):=λk=>by rw[av];rfl
 have ai:Qm (∀k,k<=N ps->r k<2 ^ (N q.au.xs)):=λk j=>by rw[ak];exact MX bE k (λi hi=>(hps i X).1)
 have Ad:Qm (∀k,k<=N ps->u k<2 ^ (N q.wh)):=λk j=>by rw[av];exact MX bF k (λi hi=>(hps i X).2)
 have V3:∀{x m:Nat},m<=64->x<2 ^ m->x<18446744073709551616:=λhm R=>ZO R (ZP (n:=2) X hm);have aN:∀{x:Nat},x<18446744073709551616->x<=bO:=λh=>by unfold bO;omega
 have bM:=Zh (by  rw[ak];exact Sj _ _ X (λi hi=>by rw[aP i hi];rfl):r (N ps)=ow|||(E ps 0 jm).ah|||(E ps 1 jm).ah)
 have bN:=Zh (by  rw[av];exact Sj _ _ X (λi hi=>by rw[aP i hi];rfl):u (N ps)=sc|||(E ps 0 jm).aG|||(E ps 1 jm).aG)
 have bP:Qm (∀(o:IC) (z:Nat),o=(if n.kind=6 then n.co.xs else if 2<=n.kind/\n.kind<=5 then (E ps 0 jm).aH.xs else [])->z=(if gI n.kind=T then (E ps 0 jm).size else jd ts q (r (N ps)) (u (N ps)))->
   dG.mk n.kind (r (N ps)) (u (N ps)) o z (dn n.kind z (E ps 0 jm).aJ (E ps 0 jm).size (E ps 1 jm).aJ (E ps 1 jm).size)=eP ts q n (E ps 0 jm).d (E ps 1 jm).d):=λo z ho hz=>by unfold eP;rw[ho,hz,bM.o,bN.o,aL,EW];rfl
 have aQ:Qm (∀x,Cb 203 #[Qt n.cells] x (I Qp ((ow:Nat):Int))):=λx=>by rw[aL];exact MU n x (λh=>⟨(hsr h).1,Qj ((hsr h).2)⟩)
 have aC:Qm (∀x,Bw w x->Ce 92 #[n.cl.val] x (I Qp ((sc:Nat):Int))):=λx R=>by rw[EW];exact RV n.cl.ad n.cl.cap n.cl.xs x (Zc R iX) (λy hy=>⟨(zT y hy).1,Qj ((zT y hy).2)⟩)
 have aR:Qm (∀(b x y:Nat) (W:U),Qo W (aD b 0)=O (I Qp (x:Int))->Qo W (aD b 1)=O (I Qp (y:Int))->x<18446744073709551616->y<18446744073709551616->Ce 139 #[Z (O (aD b 0)) 2 2] W (I Qp ((x|||y:Nat):Int))):=λb x y W h0 h1 R hy=>qD b x y W h0 h1 R hy;have EY:Qm (∀(o:aA) (x:U),Bw w x->Calls V 204 #[Qt (f.cells ts q),Qt #[I J n.kind,I Qp (r (N ps):Int),I Qp (u (N ps):Int),o.val,I Qp 0,I Qp 0],Z ao (N ps) cap] x λe w'=>e=Qu (I Qp (((if gI n.kind=T then (E ps 0 jm).size else jd ts q (r (N ps)) (u (N ps))):Nat):Int))/\Bw x w'):=λo x R=>
  ac3 f ts q ⟨n.kind,r (N ps),u (N ps),o,0,0⟩ ao cap ps x ok (hf.aj R) (hp.aj R) (ai.o _ (Zb _)) (Ad.o _ (Zb _)) (λh=>by
   have h2:7<=n.kind:=by unfold gI at h;simp at h;omega
   rw[hl];unfold bg;rw[Zk X,Zk X];omega)
 obtain⟨Zq,hZ⟩:∃Zq,Zq=(if gI n.kind=T then (E ps 0 jm).size else jd ts q (r (N ps)) (u (N ps))):=⟨_,rfl⟩;have aS:Zq<=bO:=by
  rw[hZ];split
  .rename_i h
   have h2:7<=n.kind:=by unfold gI at h;simp at h;omega
   exact(hp.2 0 (by rw[hl];unfold bg;rw[Zk X,Zk X];omega)).2.size
  .exact akS _ _ _ _
 rw[<-hZ]at EY;have bQ:Qm (∀(o:aA) (x:U),Bw w x->Cb 205 #[Qt #[I J n.kind,I Qp (r (N ps):Int),I Qp (u (N ps):Int),o.val,I Qp (Zq:Int),I Qp 0],Z ao (N ps) cap] x (I Qp (dn n.kind Zq (E ps 0 jm).aJ (E ps 0 jm).size (E ps 1 jm).aJ (E ps 1 jm).size:Nat))):=λo x R=>
  acV ⟨n.kind,r (N ps),u (N ps),o,Zq,0⟩ ao cap ps x (hp.aj R) aS (λh=>by have h:n.kind≠1:=h;rw[hl];unfold bg;rw[Zk h];split <;> omega) (λh3 h5=>by have h3:3<=n.kind:=h3;have h5:n.kind<=5:=h5;rw[hl];unfold bg;rw[Zk X,Zd ⟨h3,h5⟩];omega)
 have Un:Qm (∀(o:aA) (W:U),o.At W->N o.xs<=o.cap->o.xs=(if n.kind=6 then n.co.xs else if 2<=n.kind/\n.kind<=5 then (E ps 0 jm).aH.xs else [])->(o=n.co∨o=(E ps 0 jm).aH∨o=⟨Qr,0,[]⟩)->Bw w W->
   ∃p:eQ,Ending.returned (Qt #[I J n.kind,I Qp (r (N ps):Int),I Qp (u (N ps):Int),o.val,I Qp (Zq:Int),I Qp ((dn n.kind Zq (E ps 0 jm).aJ (E ps 0 jm).size (E ps 1 jm).aJ (E ps 1 jm).size:Nat):Int)])=Qu (Qt p.cells)/\p.d=eP ts q n (E ps 0 jm).d (E ps 1 jm).d/\p.Ok W/\p.ah<2 ^ (N q.au.xs)/\p.aG<2 ^ (N q.wh)/\(p.aH=n.co∨p.aH=(E ps 0 jm).aH∨p.aH=⟨Qr,0,[]⟩)/\Bw w W):=λo W ho Ao ed ek hb=>
  ⟨⟨n.kind,r (N ps),u (N ps),o,Zq,dn n.kind Zq (E ps 0 jm).aJ (E ps 0 jm).size (E ps 1 jm).aJ (E ps 1 jm).size⟩,rfl,bP.o o.xs Zq ed hZ,⟨ho,Ao,aN (V3 ax (ai.o _ (Zb _))),aN (V3 az (Ad.o _ (Zb _))),aS,akT _ _ _ _ _ _⟩,ai.o _ (Zb _),Ad.o _ (Zb _),ek,hb⟩
 have bR:Qm (∀k,k<=N ps->r k<18446744073709551616):=λk j=>V3 ax (ai.o k j);have bS:Qm (∀k,k<=N ps->u k<18446744073709551616):=λk j=>V3 az (Ad.o k j);have bU:Qm (∀k,k<N ps->(E ps k jm).ah<18446744073709551616/\(E ps k jm).aG<18446744073709551616):=λk j=>⟨V3 ax (hps k j).1,V3 az (hps k j).2⟩;have bV:Qm (2<=n.kind/\n.kind<=5->0<N ps):=λh=>by rw[hl];unfold bg;rw[Zk X];split <;> omega
 generalize dn n.kind Zq (E ps 0 jm).aJ (E ps 0 jm).size (E ps 1 jm).aJ (E ps 1 jm).size=CT at*;have HP:Qm _:=hp;have vY:Qm _:=EU;have bW:=Zh nu;obtain⟨v0,v1,v2,v3,v4,v5,v6,v7,v8,v9,fO,fP,fQ,iq,-⟩:=Jh f ts q;rw[iq]at EY ⊢;clear bP ai Ad bM bN hZ aS V3 hps hsr zT hl hf iX EU nu hp ok aL EW ak av bE bF iq aP dI ax az dP Lg;obtain⟨kind,nl,nr,au,⟨ca,cc,cl⟩,key,⟨da,dc,co⟩⟩:=n;unfold ay.cells aA.val at*;simp only at*;obtain⟨w1,dB,dP,dm⟩:=bI w #[v0,v1,v2,v3,v4,v5,v6,v7,v8,v9,fO,fP,fQ] 118;obtain⟨w2,dL,jf,dw⟩:=bI w1 #[I J kind,I J nl,I J nr,I J au,Z ca (N cl) cc,I J key,Z da (N co) dc] 43;obtain⟨w3,dM,dx,dz⟩:=bI w2 #[I J 0,I Qp 0,I Qp 0,Z Qr 0 0,I Qp 0,I Qp 0] 141;have aU:=dx;have aa:=aO jf aU;have oq:=aO dP aa;have Ho:=dm.up aa;obtain⟨Dg,MW,Ym,Py,Pv,Yn,Yo,dN,dO,dQ,DC,Si,DD⟩:=Ho.vV;have UB:=dw.up aU;obtain⟨dR,eD,eF,eG,eH,eO,dS⟩:=UB.k7;have bX:=dz;have A:=Zh oq;have dJ:Qm _:=bX;have dK:=Zh (ZU dP.size jf.size);clear dP jf dx dm dw dz Ho UB bX oq aa aU;go_enter func168,ntmps168;go_upto_region 1 with fail;go_cut [7] from 10 to 17 (λc wx=>∃B,c=Y (O (aD B 0))/\M (H w3)<=B/\GB wx B 141 #[I J kind,I Qp (ow:Int),I Qp (sc:Int),Z Qr 0 0,I Qp 0,I Qp 0]/\Bw w3 wx)
 case first=>
  refine wH w3 λa=>?_;refine wA3 0 a ?_;refine Co 4 a ?_;refine wJ 3 8 (λK g=>?_) λK g=>?_
  .skip;go_simp;refine mR (aQ.o _) λP aM=>?_
   refine oT g a aM λa=>?_;clear g K;have v:=a;refine wJ 6 8 (λK g=>?_) λK g=>?_
   .skip;go_simp;refine mR (aC.o _ (A.o.trans (a.mono A.o.size))) λwz l=>?_
    have l:=l.symm;subst l;refine g.o _ _ a λa=>?_;clear g K;refine rR 7 a ?_;refine wR 8 λK g=>?_;go_simp;refine oA g a λa=>?_;clear g K;refine wR 9 λK g=>?_;go_simp;refine g.o _ _ (v.trans ((fo _ _).mono v.size)) (λa=>?_);clear g K;refine wD ?_;try simp only[pU]
    go_wp2_with fail;go_meet;exact⟨M (H P),rfl,v.size,qj P _,a⟩
   .skip;go_simp;refine oA g a λa=>?_
    clear g K;refine wR 6 λK g=>?_;go_simp;refine mR (aC.o _ (A.o.trans (a.mono A.o.size))) λwz l=>?_;have l:=l.symm;subst l;refine g.o _ _ a λa=>?_;clear g K;refine rR 7 a ?_;refine wR 9 λK g=>?_;go_simp;refine g.o _ _ (v.trans ((fo _ _).mono v.size)) (λa=>?_);clear g K;refine wD ?_;try simp only[pU]
    go_wp2_with fail;go_meet;exact⟨M (H P),rfl,v.size,qj P _,a⟩
  .skip;go_simp;refine oA g a λa=>?_
   clear g K;refine wR 3 λK g=>?_;go_simp;refine mR (aQ.o _) λP aM=>?_;refine oT g a aM λa=>?_;clear g K;have v:=a;have aV:=(show GB (w3.drew.alloc (Qs #[I J 0,I Qp 0,I Qp 0,Z Qr 0 0,I Qp 0,I Qp 0] 141)) (M (H w3)) 141 #[I J 0,I Qp 0,I Qp 0,Z Qr 0 0,I Qp 0,I Qp 0] from qj w3.drew _).of (aM.block _ (by show M (H w3)<_;simp));obtain⟨z0,z1,z2,z3,z4,z5⟩:=aV.k6;have yy:=λi=>aV.frozen i;refine wR 6 λK g=>?_;go_simp;refine mR (aC.o _ (A.o.trans (a.mono A.o.size))) λwz l=>?_;have l:=l.symm;subst l;refine g.o _ _ a λa=>?_;clear g K;refine rR 7 a ?_;refine wR 9 λK g=>?_;go_simp;refine g.o _ _ (v.trans ((lI (B:=M (H w3)) [I J kind,I Qp (ow:Int),I Qp (sc:Int),Z Qr 0 0,I Qp 0,I Qp 0] 0 P).aj (B:=M (H w3)) v.size (λb hb=>Jo hb))) (λa=>?_);clear g K;refine wD ?_;try simp only[pU]
   go_wp2_with fail;go_meet;exact⟨M (H w3),rfl,Zb _,((((((aV.set 0 _).set 1 _).set 2 _).set 3 _).set 4 _).set 5 _),a⟩
 case rest=>
 obtain⟨B,rfl,hB,dA,bq⟩:=hcut;obtain⟨w4,dU⟩:=eY (wc);subst dU;have V4:=hd dA;have qO:Qm (∀x,aB (λb=>b≠B) w4 x->Bw w3 x):=λx j=>bq.trans (j.aj bq.size (λb hb=>X));have ag:Qm (∀x,aB (λb=>b≠B) w4 x->Bw w x):=λx j=>A.o.trans ((qO.o x j).mono A.o.size);clear dA bq hB aQ aC dB dL dM;go_wp2;go_loopw [20] (λiv wr=>∃k:Nat,k<=N ps/\iv=I J k/\Qm (GB wr B 141 #[I J kind,I Qp (r k:Int),I Qp (u k:Int),Z Qr 0 0,I Qp 0,I Qp 0])/\Qm (aB (λb=>b≠B) w4 wr)) (λiv _=>N ps-(intOf iv).toNat)
 case atStart=>exact⟨0,ZR _,rfl,by rw[bG.o,bJ.o];exact V4.o,Xj _ _⟩
 case round=>
  obtain⟨k,j,rfl,HG,Ke⟩:=hrel;by_cases aT:k<N ps
  .obtain⟨⟨pb,po,rfl,c0,c1,c2,c3,c4,c5⟩,-⟩:=(p9.aj (ag.o wr Ke.o) HP.o).2 k aT;obtain⟨dC,dD⟩:=bU.o k aT;have tq:=bR.o k j;have aa:=bS.o k j;obtain⟨bu,bz⟩:=bH (bK.o k) (bL.o k);obtain⟨⟨D,G,L⟩,uP⟩:∃o,o=(E ps k jm).aH:=⟨_,rfl⟩
   rw[<-uP]at c3;unfold aA.val at c3;simp only at c3;clear uP;generalize (E ps k jm).kind=pk,(E ps k jm).ah=ss,(E ps k jm).aG=cs,(E ps k jm).size=pz,(E ps k jm).aJ=pt at*;have bY:Qm (∀x,x=r (k+1)->∀y,y=u (k+1)->∀wy,GB wy B 141 #[I J kind,I Qp (x:Int),I Qp (y:Int),Z Qr 0 0,I Qp 0,I Qp 0]->aB (λb=>b≠B) wr wy->GB wy B 141 #[I J kind,I Qp (r (k+1):Int),I Qp (u (k+1):Int),Z Qr 0 0,I Qp 0,I Qp 0]/\aB (λb=>b≠B) w4 wy):=λx R y hy wy h1 h2=>⟨by rw[<-R,<-hy];exact h1,Ke.o.trans h2⟩;obtain⟨s1,bA⟩:=eY (r (k+1));obtain⟨t1,bB⟩:=eY (u (k+1));have bZ:=Zh (bY.o s1 bA t1 bB);rw[<-bA]at bu;rw[<-bB]at bz;generalize r k=s,u k=t at*;clear bY bA bB;obtain⟨wb,eT,kb,gi⟩:=bI wr #[I J pk,I Qp (ss:Int),I Qp (cs:Int),Z D (N L) G,I Qp (pz:Int),I Qp (pt:Int)] 141;have gb:=HG.o.up kb;have eB:=HG.o.lt;obtain⟨wu,eU,ku,gu⟩:=bI wb #[I Qp (s:Int),I Qp (ss:Int)] 114;have aF:=gb.up ku;have cu:=gi.up ku;have hU:=aR.o (M (H wb)) s ss wu (gu.cell 0) (gu.cell 1) tq dC;rw[<-bu.o]at hU;obtain⟨wv,dE⟩:=eX (Qn wu (aD B 1) (I Qp (s1:Int)));have kv:aB (λb=>b≠B) wu wv:=by rw[<-dE];exact Xu _ _ _ (λh=>h rfl)
   have aW:GB wv B 141 #[I J kind,I Qp (s1:Int),I Qp (t:Int),Z Qr 0 0,I Qp 0,I Qp 0]:=by rw[<-dE];exact aF.set 1 _
   have cz:=cu.bT kv (by show M (H wr)≠B;omega);obtain⟨wx,eZ,kx,gx⟩:=bI wv #[I Qp (t:Int),I Qp (cs:Int)] 114;have aI:=aW.up kx;have aX:=aR.o (M (H wv)) t cs wx (gx.cell 0) (gx.cell 1) aa dD;rw[<-bz.o]at aX;have cO:GB (Qn wx (aD B 2) (I Qp (t1:Int))) B 141 #[I J kind,I Qp (s1:Int),I Qp (t1:Int),Z Qr 0 0,I Qp 0,I Qp 0]:=aI.set 2 _;have ky:aB (λb=>b≠B) wr (Qn wx (aD B 2) (I Qp (t1:Int))):=((Xl kb).trans ((Xl ku).trans (kv.trans (Xl kx)))).trans (Xu _ _ _ (λh=>h rfl));have gJ:=Zh (bZ.o _ cO ky);have b1:=gb.at 1;have b2:=gi.at 1;have b3:=aF.at 1;have b4:=aF.frozen 1;have b5:=aW.at 2;have b6:=cz.at 2;have b7:=aI.at 2;have b8:=aI.frozen 2;clear bZ cO ky kb gi gb ku gu aF cu kv aW cz kx gx aI HG Ke bu bz dC dD tq aa;go_wp2_with fail;refine mR hU λwq Q=>?_;have Q:=Q.symm;subst Q;clear hU;go_wp2_with fail;refine mR aX λwq Q=>?_;have Q:=Q.symm;subst Q;clear aX;refine gQ ?_;exact⟨k+1,X,Qe,gJ.o.1,gJ.o.2⟩
  .obtain rfl:k=N ps:=X
   obtain⟨P,zg⟩:=eY (wr);subst zg;clear aT j bG bJ bK bL aR bR bS bU;generalize r (N ps)=S,u (N ps)=C at*;have e0:=cB (qO.o P Ke.o) dR;have b3:=HG.o.at 3;have f3:=HG.o.frozen 3;rcases (by omega:kind=6∨kind=2∨kind=3∨kind=4∨kind=5∨(¬kind=6/\¬(2<=kind/\kind<=5))) with j|j|j|j|j|j
   all_goals
    first
    |have h6:kind=6:=j
     have e6:=cB (qO.o P Ke.o) dS;have HE:=Zh (λ(W:U) (hB:Bw w W)=>Un.o ⟨da,dc,co⟩ W (Zc hB vY.o) bW.o (by rw[Zd h6]) (.inl rfl) hB);obtain⟨D,ha⟩:=eY (da);obtain⟨G,hc⟩:=eY (dc);obtain⟨L,R⟩:=eY (co);subst ha hc R;rw[j]at e0;clear h6 j;obtain⟨w6,yw⟩:=eX (Qn P (aD B 3) (Z D (N L) G));have k6:aB (λb=>b≠B) P w6:=by rw[<-yw];exact Xu _ _ _ (λh=>h rfl)
     have g6:GB w6 B 141 #[I J kind,I Qp (S:Int),I Qp (C:Int),Z D (N L) G,I Qp 0,I Qp 0]:=by rw[<-yw];exact HG.o.set 3 _
    |have aK:2<=kind/\kind<=5:=X
     obtain⟨⟨pb,po,rfl,-,-,-,c3,-,-⟩,nC⟩:=HP.o.2 0 (bV.o aK);rw[X8,Xg]at c3;have dY:=bV.o aK;obtain⟨⟨D,G,L⟩,uP⟩:∃o,o=(E ps 0 jm).aH:=⟨_,rfl⟩;have h1:=nC.aH;have h2:=nC.cap;rw[<-uP]at h1 h2 c3;have HE:=Zh (λ(W:U) (hB:Bw w W)=>Un.o ⟨D,G,L⟩ W (Zc hB h1) h2 (by rw[Zk X,Zd aK];exact congrArg aA.xs uP) (.inr (.inl uP)) hB);simp only at c3;have c3:=cB (ag.o P Ke.o) c3;rw[j]at e0;clear uP j aK nC h1 h2;obtain⟨w6,yw⟩:=eX (Qn P (aD B 3) (Z D (N L) G));have k6:aB (λb=>b≠B) P w6:=by rw[<-yw];exact Xu _ _ _ (λh=>h rfl)
     have g6:GB w6 B 141 #[I J kind,I Qp (S:Int),I Qp (C:Int),Z D (N L) G,I Qp 0,I Qp 0]:=by rw[<-yw];exact HG.o.set 3 _
    |have j2:(kind==2)=false:=by rw[Jf];omega
     have j3:(kind==3)=false:=by rw[Jf];omega
     have j4:(kind==4)=false:=by rw[Jf];omega
     have j5:(kind==5)=false:=by rw[Jf];omega
     have j6:(kind==6)=false:=by rw[Jf];omega
     have HE:=Zh (λ(W:U) (hB:Bw w W)=>Un.o ⟨Qr,0,[]⟩ W ⟨Qa,λi hi=>absurd hi Qa⟩ (Zb _) (by rw[Zk j.1,Zk j.2]) (.inr (.inr rfl)) hB);obtain⟨D,G,L,HC⟩:∃(D:LM) (G:Nat) (L:IC),Qm (D=Qr/\G=0/\L=[]):=⟨_,_,_,rfl,rfl,rfl⟩;have g6:GB P B 141 #[I J kind,I Qp (S:Int),I Qp (C:Int),Z D (N L) G,I Qp 0,I Qp 0]:=by obtain⟨rfl,rfl,rfl⟩:=HC.o;exact HG.o
     obtain⟨w6,yw⟩:=eY (P);subst yw;have k6:aB (λb=>b≠B) w6 w6:=Xj _ _;clear j b3 f3
    have K6:=Zh (Ke.o.trans k6);have cZ:=ag.o w6 K6.o;have aY:=qO.o w6 K6.o;obtain⟨d0,d1,d2,d3,d4,d5,d6,d7⟩:=Da aY Dg MW Ym Py Pv Yn Yo dN;obtain⟨d8,d9,dV,dW,dX⟩:=qi aY dO dQ DC Si DD;obtain⟨p0,p1,p2,p3,p4,p5⟩:=g6.k6;have G6:=hd g6;have df:=EY.o ⟨D,G,L⟩ w6 cZ;clear k6 g6 aY cZ EY V4;go_wp2_with fail;refine mR df λw7 uz=>?_;have g7:=G6.o.up uz;obtain⟨w8,dF⟩:=eX (Qn w7 (aD B 4) (I Qp (Zq:Int)));have g8:GB w8 B 141 #[I J kind,I Qp (S:Int),I Qp (C:Int),Z D (N L) G,I Qp (Zq:Int),I Qp 0]:=by rw[<-dF];exact g7.set 4 _
    have K8:Qm (aB (λb=>b≠B) w4 w8):=K6.o.trans ((Xl uz).trans (by rw[<-dF];exact Xu _ _ _ (λh=>h rfl)));have q4:=g7.at 4;have f4:=g7.frozen 4;obtain⟨r0,r1,r2,r3,r4,r5⟩:=g8.k6;have G8:=hd g8;have dh:=bQ.o ⟨D,G,L⟩ w8 (ag.o w8 K8.o);clear df g7 g8 uz bQ d0 d1 d2 d3 d4 d5 d6 d7 d8 d9 dV dW dX p0 p1 p2 p3 p4 p5 e0;go_wp2_with fail;refine mR dh λw9 bD=>?_;have g9:=G8.o.up bD;obtain⟨wT,dH⟩:=eX (Qn w9 (aD B 5) (I Qp (CT:Int)));have gT:GB wT B 141 #[I J kind,I Qp (S:Int),I Qp (C:Int),Z D (N L) G,I Qp (Zq:Int),I Qp (CT:Int)]:=by rw[<-dH];exact g9.set 5 _
    have KT:aB (λb=>b≠B) w4 wT:=K8.o.trans ((Xl bD).trans (by rw[<-dH];exact Xu _ _ _ (λh=>h rfl)));have q5:=g9.at 5;have f5:=g9.frozen 5;obtain⟨t0,t1,t2,t3,t4,t5⟩:=gT.k6;have aZ:GB w3 (M (H w2)) 141 #[I J 0,I Qp 0,I Qp 0,Z Qr 0 0,I Qp 0,I Qp 0]:=dJ.o;have gR:=aZ.of ((qO.o wT KT).block _ aZ.lt);obtain⟨x0,x1,x2,x3,x4,x5⟩:=gR.k6;have yy:=λi=>gR.frozen i;obtain⟨vs,dZ⟩:=eY ([I J kind,I Qp (S:Int),I Qp (C:Int),Z D (N L) G,I Qp (Zq:Int),I Qp (CT:Int)]:JK Ql);have di:Bw w (lS (M (H w2)) 0 vs wT):=(ag.o wT KT).trans ((lI vs 0 wT).aj (ag.o wT KT).size (λb hb=>Qj dK.o));have gJ:=Zh (HE.o _ di);have bf:=yM (vs:=vs) (o:=0) gR;subst dZ;simp only[I6,Zp,QX,QY]at bf;have rT:=Zh (akX bf);clear dh g9 gT KT aZ gR di bf bD Un r0 r1 r2 r3 r4 r5;go_wp2;try obtain⟨rfl,rfl,rfl⟩:=HC.o
    exact Jr (uV (p:=6) rfl rfl rT.o) rfl gJ.o
theorem alg(ts:JK af)(au:IC)(cs:JK aV)(a b:Nat):xI ts au cs a b =
  if (di cs).2.2=F then (0,0,F)
  else if (bV a (2 ^ aU ts au (di cs).1)&&bV b (2 ^ aU ts au (di cs).2.1))=T then ((di cs).1,(di cs).2.1,T)
  else if (bV a (2 ^ aU ts au (di cs).2.1)&&bV b (2 ^ aU ts au (di cs).1))=T then ((di cs).2.1,(di cs).1,T)
  else (0,0,F):=by unfold xI di;grind
theorem Sz{ts:JK af}{q:ae}(ok:Ok ts q){k:Nat}(hk:k<N q.wh)(h:(di (E q.wh k lz).cs).2.2=T):lT ts q [(di (E q.wh k lz).cs).1]/\lT ts q [(di (E q.wh k lz).cs).2.1]:=by
 have f:=ok.some k hk;have g:=ok.bU k hk;generalize (E q.wh k lz).cs=cs at*;unfold di at h ⊢;by_cases e:N cs > 1∨(E cs 0 cz).op≠0∨(E cs 0 cz).not=T∨(E cs 0 cz).const=T
 .rw[Zd e]at h;cases h
 rw[Zk e];have d:∀x,x∈bz (E cs 0 cz)->x∈bD cs:=λx a=>ZA.2 ⟨_,XI f,a⟩;have i:(E cs 0 cz).op=0:=by omega
 have j:(E cs 0 cz).const=false:=by grind
 have b:bz (E cs 0 cz)=[(E cs 0 cz).left,(E cs 0 cz).right]:=by unfold bz;grind
 rw[b]at d;refine⟨λc a=>?_,λc a=>?_⟩
 .grind
 .rw[XH]at a;rw[a];exact g _ (d _ Qa)
theorem xP(ca:LM)(cc:Nat)(cs:JK aV)(w:U)(hx:bZ w ca cs)(h0:0<N cs) :
  Cb 134 #[Qt #[Z ca (N cs) cc]] w (.tuple #[I J (di cs).1,I J (di cs).2.1,Qq (di cs).2.2]):=by
 obtain⟨t,co,rfl,c0,l,c2,c3,c4⟩:=hx.2 0 h0;have K:=hx.1;rw[X8,Xg]at c0 l c2 c3 c4;have b:Qm (di cs=if (N cs) > 1∨(E cs 0 cz).op≠0∨(E cs 0 cz).not=T∨(E cs 0 cz).const=T then (0,0,F) else ((E cs 0 cz).left,(E cs 0 cz).right,T)):=rfl;generalize di cs=EC,E cs 0 cz=c at*;obtain⟨g,j,left,a,right⟩:=c;simp only at*;obtain⟨u,Q,m,i⟩:=bI w #[Z (O (aD t co)) (N cs) cc] 59;obtain⟨R,v,y,k⟩:=bI u #[Qq g,I J j,I J left,Qq a,I J right] 56;have d:=y;have p:=aO m d;have q:=i.up d;have L:=q.at 0;have r:=k;obtain⟨z,A,B,C,D⟩:=r.k5;have P:=i.at 0;obtain⟨S,W,d2,d3,d4⟩:=qi m c0 l c2 c3 c4;have e:=Zh p;by_cases G:N cs > 1
 .obtain rfl:EC=(0,0,F):=by rw[b.o,Zd (.inl G)]
  go_enter func134,ntmps134;go_wp2;go_ret3;exact⟨rfl,e.o⟩
 by_cases n:j≠0
 .obtain rfl:EC=(0,0,F):=by rw[b.o,Zd (.inr (.inl n))]
  have f:(j != 0)=true:=by rw[bne_iff_ne];exact n
  go_enter func134,ntmps134;go_wp2;go_ret3;exact⟨rfl,e.o⟩
 have f:j=0:=X;subst f
 cases g with
 |true =>
  obtain rfl:EC=(0,0,F):=by rw[b.o,Zd (.inr (.inr (.inl rfl)))]
  go_enter func134,ntmps134;go_wp2;go_ret3;exact⟨rfl,e.o⟩
 |false =>
  cases a with
  |true =>
   obtain rfl:EC=(0,0,F):=by rw[b.o,Zd (.inr (.inr (.inr rfl)))]
   go_enter func134,ntmps134;go_wp2;go_ret3;exact⟨rfl,e.o⟩
  |false =>
   obtain rfl:EC=(left,right,T):=by rw[b.o,Zk];grind
   go_enter func134,ntmps134;go_wp2;go_quiet (fail);go_wp2;go_ret3;exact⟨rfl,Zg e.o _⟩
structure vS(f:bC)(ts:JK af)(q:ae)(W0:U):Prop where
 ok:Ok ts q
 facts:f.At ts q W0
 shapes:dS W0 0
 one:1<=N q.au.xs
 jM:N q.au.xs<=5
 ko:N q.wh<=8
 ord:q.aF=F->dm q.ord.xs (N q.bA.xs)=T
 D6:N q.ord.xs<=4
 aC:lT ts q q.aC.xs
 ac9:q.aF=F->lT ts q (jk q)
 axv:N q.aC.xs<=4
 AZ:N q.aC.xs<=q.aC.cap
 axw:q.aC.ad=Qr->q.aC.cap=0
def UH(W0:U)(b:Nat):Prop:=∃o v,Qo W0 (aD b o)=O v
def UH.lt(h:UH W0 b):b<M (H W0):=by obtain⟨o,v,h⟩:=h;exact kX h
structure mY(W0 w:U):Prop where
 size:M (H W0)<=M (H w)
 cell:∀b o v,Qo W0 (aD b o)=O v->Qo w (aD b o)=O v
def mY.fu(h:mY W0 w)(hk:aB s w w')(hs:∀b,UH W0 b->s b):mY W0 w':=
 ⟨ZU h.size hk.size,λb o v e=>by
  have a:=h.cell b o v e;rw[Xr (hk.block b (kX a) (hs b ⟨o,v,e⟩))];exact a⟩
theorem mY.cells(h:mY W0 w){f:Nat->Ql}(hc:dC W0 ao n f):dC w ao n f:=λi a=>by obtain⟨b,off,e,hc⟩:=hc i a;exact⟨b,off,e,h.cell _ _ _ hc⟩
def mY.vT(h:mY W0 w)(hi:aP W0 ao xs):aP w ao xs:=⟨hi.1,h.cells hi.2⟩
def mY.atp(h:mY W0 w){xs:JK Nat}(hi:kT W0 ao xs):kT w ao xs:=⟨hi.1,h.cells hi.2⟩
def mY.bU(h:mY W0 w){cs:JK (Nat × Int)}(hi:oQ W0 ao cs):oQ w ao cs:=⟨hi.1,λi d=>by
 obtain⟨b,off,e,c0,a⟩:=hi.2 i d;exact⟨b,off,e,h.cell _ _ _ c0,h.cell _ _ _ a⟩⟩
def mY.axx(h:mY W0 w)(hi:bZ W0 ao cs):bZ w ao cs:=⟨hi.1,λi d=>by
 obtain⟨b,off,e,c0,a,c2,c3,c4⟩:=hi.2 i d;exact⟨b,off,e,h.cell _ _ _ c0,h.cell _ _ _ a,h.cell _ _ _ c2,h.cell _ _ _ c3,h.cell _ _ _ c4⟩⟩
def mY.qC(h:mY W0 w)(hq:q.At W0):q.At w:=
 ⟨h.vT hq.au,⟨hq.wh.1,h.cells hq.wh.2.1,λi a=>h.axx (hq.wh.2.2 i a)⟩,h.vT hq.aC,h.vT hq.aM,h.vT hq.bA,h.vT hq.ord⟩
def mY.facts(h:mY W0 w)(hf:f.At ts q W0):f.At ts q w:=
 ⟨h.qC hf.qC,h.bU hf.bU,h.atp hf.rows,h.atp hf.conc,h.atp hf.parts,hf.nl,hf.pl⟩
structure Fz(Fq:Pm)(W0 w:U):Prop where
 aj:mY W0 w
 low:∀b,UH W0 b->Fq b
 high:∀b,M (H w)<=b->Fq b
def Fz.next(h:Fz Fq W0 w)(hb:Bw w w'):Fz Fq W0 w':=
 ⟨h.aj.fu (Xl (s:=λb=>b<M (H w)) hb) (λ_ hb=>ZO hb.lt h.aj.size),h.low,λb a=>h.high b (ZU hb.size a)⟩
def Fnw(Fq:Pm)(n m:Nat):Pm:=λb=>(Fq b/\b<n)∨m<=b
theorem Fz.cut(hz:Fz Fq W0 w)(hb:Bw w x):Fz (Fnw Fq (M (H w)) (M (H x))) W0 x:=
 ⟨(hz.next hb).aj,λb a=>.inl ⟨hz.low b a,ZO a.lt hz.aj.size⟩,λb h=>.inr h⟩
def vS.oO(Eq:vS f ts q W0)(h:Fz Fq W0 w):f.At ts q w:=h.aj.facts Eq.facts
structure adb(Fq:Pm)(w:U)(n:ay):Prop where
 cl:n.cl.At w
 clf:vP Fq n.cl.ad (N n.cl.xs)
 cln:n.cl.ad=Qr->n.cl.cap=0
 co:n.co.At w
 cof:vP Fq n.co.ad (N n.co.xs)
 con:n.co.ad=Qr->n.co.cap=0
 cap:N n.co.xs<=n.co.cap
 clb:N n.cl.xs<=1000
 cob:N n.co.xs<=1000
structure Ed(Fq:Pm)(w:U)(a:Nat)(p:eQ):Prop where
 c0:Qo w (aD a 0)=O (I J p.kind)
 c1:Qo w (aD a 1)=O (I Qp (p.ah:Int))
 c2:Qo w (aD a 2)=O (I Qp (p.aG:Int))
 c3:Qo w (aD a 3)=O p.aH.val
 c4:Qo w (aD a 4)=O (I Qp (p.size:Int))
 c5:Qo w (aD a 5)=O (I Qp (p.aJ:Int))
 ok:p.Ok w
 ord:vP Fq p.aH.ad (N p.aH.xs)
def xM.rC{a:Nat}{t:bF}{p:eQ}{n:ay}{bo:LM}{bc:Nat}{bs:JK (Nat × bF)}(h:xM Tq Fq w a t p n bo bc bs):Ed Fq w a p:=
 ⟨h.gb.cell 0,h.gb.cell 1,h.gb.cell 2,h.gb.cell 3,h.gb.cell 4,h.gb.cell 5,h.ok,h.ord⟩
theorem Ed.aj{Fq:Pm}{w w':U}{a:Nat}{p:eQ}(h:Ed Fq w a p)(hb:Bw w w'):Ed Fq w' a p:=
 ⟨cB hb h.c0,cB hb h.c1,cB hb h.c2,cB hb h.c3,cB hb h.c4,cB hb h.c5,h.ok.aj hb,h.ord⟩
def bM.rC{Tq:TypeId}{Fq:Pm}{w:U}{a:Nat}{t:bF}(h:bM Tq Fq w a t):∃p,Ed Fq w a p/\p.d=t.d:=by obtain⟨p,n,bo,bc,bs,b,_⟩:=h.get;exact⟨p,b.rC,b.part⟩
def Yu{Tq:TypeId}{Fq:Pm}{w:U}:∀{bs:JK (Nat × bF)},(∀x∈bs,bM Tq Fq w x.1 x.2)->∃ps:JK eQ,N ps=N bs/\∀i,i<N bs->Ed Fq w (E (bs.map Prod.fst) i 0) (E ps i jm)/\(E ps i jm).d=(E (bs.map Prod.snd) i uT).d
 |[],_=>⟨[],rfl,λi hi=>by simp at hi⟩
 |x::bs,h=>by
  obtain⟨ps,hl,hp⟩:=Yu λy hy=>h y (ZV _ hy);obtain⟨p,hp0,hd⟩:=(h x Ji).rC;refine⟨p::ps,by simp[hl],λi hi=>?_⟩
  cases i with
  |zero=>exact⟨hp0,hd⟩
  |succ i=>exact hp i (by simpa using hi)
def atq{bs:JK bF}{ps:JK eQ}(hl:N ps=N bs)(h:∀i,i<N bs->(E ps i jm).d=(E bs i uT).d)(i:Nat):(E ps i jm).d=(E bs i uT).d:=by
 by_cases a:i<N bs
 .exact h i a
 .rw[Js,Jc X,Js,Jc X];rfl
theorem MZ{α:Type}(l:List α)(d:α){i:Nat}(hi:i<N l):l.take (i+1)=l.take i++[E l i d]:=by rw[List.take_add_one,XG hi,Js,XG hi];rfl
theorem vF{xs:JK Nat}(h:w.ownsRow base e 1 v n (xs.map λx=>Value.pointer (O (aD x 0))))(hl:N xs<=1000000) :
  ∃d cap,v=Z d (N xs) cap/\gy w d xs/\N xs<=cap/\(d=Qr->cap=0)/\∀a,d=O a->base<=a.block:=by
 have j:n=N xs:=by have:=h.1;rw[ZX]at this;omega
 subst j;rcases h.2 with⟨rfl,h1⟩|⟨g,cap,iw,rfl,hb,hh,hc,_,_,ht⟩
 .have:=Ju.1 h1;subst this;exact⟨Qr,0,rfl,⟨Qa,λi f=>by simp at f⟩,Qa,λ_=>rfl,λa e=>by cases e⟩
 .refine⟨O (aD g 0),cap,rfl,⟨hl,λi f=>⟨g,0,rfl,?_⟩⟩,hc,(λe=>by cases e),(λa e=>by cases e;exact hb)⟩;have b:(xs.map λx=>Value.pointer (O (aD x 0)))[i]? = O (Y (O (aD (E xs i 0) 0))):=by grind
  rw[<-ht,XQ]at b;split at b
  .rw[ZT];simp only[World.cell?,hh]
   simpa using b
  .cases b
def Tryz.xN:(V.info? 136).map (λi=>(i.zero,i.size,i.bytes))=O (O (Y Qr),1,8):=Qd
theorem Yv(W:U)(base:Nat)(v:Ql)(xs:JK Nat)(bG:W.ownsRow base 136 1 v (N xs) (xs.map λx=>Value.pointer (O (aD x 0))))(hl:N xs<=1000)(hb:base<=M (H W))(a:Nat)(ty:TypeId) :
  ∃d e,(Builtin.append_ #[142,142] ty #[v,Z (O (aD (M (H W)) 0)) 1 1]).run V (W.alloc (Qs #[Y (O (aD a 0))] 136))=.ok d e/\
   e.ownsRow base 136 1 d (N (xs++[a])) ((xs++[a]).map λx=>Value.pointer (O (aD x 0)))/\aB (λb=>v.ownBlock≠O b) W e/\(∃a m c,d = Z a m c)/\(d.ownBlock=v.ownBlock∨d.ownBlock=O (M (H W)+1)):=by
 obtain⟨i0,k,f,g,i⟩:=XB Tryz.xN;obtain⟨d,e,l,n,p,q,r⟩:=lg (P:=V) W base 142 ty 136 i0 _ 1 8 underlying142 k f g i rfl Qc v (N xs) _ bG hb [Y (O (aD a 0))] rfl (λu j=>by
  rw[XH]at j;rw[j];rfl) hl Qc
 grind
theorem M0(a:Addr)(cap:Nat)(xs:JK Nat)(w:U)(hx:gy w (O a) xs) :
  Calls V 169 #[Z (O a) (N xs) cap] w λe b=>∃v,e=Qu v/\b.ownsRow (M (H w)) 136 1 v (N xs) (xs.map λx=>Value.pointer (O (aD x 0)))/\Bw w b:=by
 obtain⟨i0,n,d,f,g⟩:=XB Tryz.xN;obtain⟨C,b,p,q,r,⟨t,y,z,rfl⟩⟩:=uU (P:=V) w 142 142 136 i0 (Y Qr) 1 8 underlying142 n d f g rfl Qc a (N xs) cap (xs.map λx=>Value.pointer (O (aD x 0))) Qa
  (λj u i=>by
   rw[Zv]at i;by_cases k:j<N xs
   .obtain⟨D,G,e,K⟩:=hx.2 j k
    grind
   .rw[Jc X]at i;cases i) (λu A=>by obtain⟨x,_,rfl⟩:=Xc.1 A;rfl) hx.1 Qc
 have l:Qm _:=q;have m:=Zh r;have B:∀W,(binOp .eql 142 (.slice (O a) (N xs) cap) (.slice Qr 0 0)).run V W=.ok (.bool F) W:=λW=>Jv W 142 _ (O a) _ _ _ _ underlying142;go_enter func169,ntmps169;go_wp2_with (first|(at_builtin;refine XJ rfl (.tmp 5) (.tmp 6) 142 rfl (.slice (O (aD (M (H w)) 0)) 0 0) (.slice (O a) (N xs) cap) (.slice t y z) b rfl rfl p ?_));go_wp2;go_ret;exact⟨_,rfl,l.o,m.o⟩
def M5(w:U):Ce 169 #[.slice Qr 0 0] w (.slice Qr 0 0):=by have a:∀W,(binOp .eql 142 (.slice Qr 0 0) (.slice Qr 0 0)).run V W=.ok (.bool T) W:=λW=>Jv W 142 _ Qr _ _ _ _ underlying142;go_enter func169,ntmps169;go_wp2;go_ret;exact⟨rfl,rfl⟩
def PD(bo:LM)(bc:Nat)(xs:JK Nat)(w:U)(hx:gy w bo xs)(hn:bo=Qr->bc=0) :
  Calls V 169 #[Z bo (N xs) bc] w λe d=>∃v,e=Qu v/\d.ownsRow (M (H w)) 136 1 v (N xs) (xs.map λx=>Value.pointer (O (aD x 0)))/\Bw w d:=by
 cases bo with
 |none =>
  obtain rfl:bc=0:=hn rfl;have f:xs=[]:=by
   cases xs with
   |nil=>rfl
   |cons x xs=>obtain⟨b,off,e,_⟩:=hx.2 0 Qa;cases e
  subst f;refine(M5 w).mono ?_;rintro e d ⟨rfl,rfl⟩;exact⟨_,rfl,XC _ _ _ _,Za _ _⟩
 |some a =>
  exact M0 a bc xs w hx
def Jt:=@MZ
theorem M8(Eq:vS f ts q W0)(hz:Fz Fq W0 w)(n:ay)(hn:adb Fq w n)(bo:LM)(bc:Nat)(bs:JK (Nat × bF))(hp:gy w bo (bs.map Prod.fst))(jR:bo=Qr->bc=0)
  (uH:∀x∈bs,bM 144 Fq w x.1 x.2/\oK q x.2) (hl:N bs=bg n.kind) (dP:1<=n.kind) (Lg:n.kind<=10) (zT:cK (N q.wh) n.cl.xs) (hsr:n.kind=1->0<=n.source/\n.source<N q.au.xs) :
  Calls V 128 #[Qt (f.cells ts q),Qt n.cells,Z bo (N bs) bc] w λe m=>∃a,e=Qu (Y (O (aD a 0)))/\bM 144 Fq m a (aS ts q n (bs.map Prod.snd))/\M (H w)<=a/\a<M (H m)/\Bw w m:=by
 obtain⟨ps,AY,r⟩:=Yu (λx t=>(uH x t).1);have B:N bs<=2:=by rw[hl];unfold bg;split <;> (try split) <;> omega
 have dY:N (bs.map Prod.fst)=N bs:=ZX _;have hd:=atq (bs:=bs.map Prod.snd) (ps:=ps) (by rw[AY,ZX]) (λi A=>(r i (by rw[ZX]at A;exact A)).2);have nC:∀i,i<N ps->(E ps i jm).ah<2 ^ (N q.au.xs)/\(E ps i jm).aG<2 ^ (N q.wh):=λi A=>by have e:=hd i;have hm:E (bs.map Prod.snd) i uT∈bs.map Prod.snd:=XI (by rw[ZX];omega);obtain⟨x,t,aP⟩:=Xc.1 hm;have ht:=(uH x t).2;rw[aP]at ht;have e1:(E ps i jm).ah=(E (bs.map Prod.snd) i uT).d.ah:=congrArg dG.ah e;have e2:(E ps i jm).aG=(E (bs.map Prod.snd) i uT).d.aG:=congrArg dG.aG e;rw[e1,e2];exact⟨ht.au,ht.cls⟩
 -- what is called
 have C:Qm (∀(x:U) (a:LM) (c:Nat),Bw w x->p9 x a ps->Calls V 168 #[Qt (f.cells ts q),Qt n.cells,Z a (N ps) c] x λe m=>∃p:eQ,e=Qu (Qt p.cells)/\p.d=(aS ts q n (bs.map Prod.snd)).d/\p.Ok m/\vP Fq p.aH.ad (N p.aH.xs)/\Bw x m):=λx a c t bq=>by
  refine(ac6 f ts q n a c ps x Eq.ok ((Eq.oO hz).aj t) (Zc t hn.cl) (Zc t hn.co) hn.cap bq dP Lg (by rw[AY,hl]) zT hsr nC).mono ?_;rintro e m ⟨p,he,LX,Ei,_,_,uP,hb⟩;refine⟨p,he,by rw[LX,hd 0,hd 1];rfl,Ei,?_,hb⟩;rcases uP with h|h|h
  .rw[h];exact hn.cof
  .rw[h];by_cases h0:0<N bs
   .exact(r 0 h0).1.ord
   .have:E ps 0 jm=jm:=Qb
    rw[this];intro h;exact absurd h Qc
  .rw[h];intro h;exact absurd h Qc
 have Ad:Qm (∀x:U,Bw w x->Calls V 169 #[Z bo (N bs) bc] x λe m=>∃v,e=Qu v/\m.ownsRow (M (H x)) 136 1 v (N bs) ((bs.map Prod.fst).map λx=>Value.pointer (O (aD x 0)))/\Bw x m):=λx t=>by have:=PD bo bc (bs.map Prod.fst) x (hp.aj t) jR;rw[dY]at this;exact this
 have ru:Qm (∀(x:U) (a:Nat) (p:eQ) (v:Ql) (y:U),M (H x)=a->M (H w)<=M (H y)->Bw w y->Bw y x->p.d=(aS ts q n (bs.map Prod.snd)).d->p.Ok x->vP Fq p.aH.ad (N p.aH.xs)->x.ownsRow (M (H y)) 136 1 v (N bs) ((bs.map Prod.fst).map λx=>Value.pointer (O (aD x 0)))->
   bM 144 Fq (x.alloc (Qs (Sb p n v) 144)) a (aS ts q n (bs.map Prod.snd))/\Bw w (x.alloc (Qs (Sb p n v) 144))):=by intro x a p v y aB aC aZ bn LX Ei Q hv;subst aB;obtain⟨ao,cap,rfl,aQ,ak,aR,jG⟩:=vF hv (by rw[dY];omega);rw[dY]at ak ⊢;have D:Bw w x:=aZ.trans (bn.mono aC);have G:=fo x (Qs (Sb p n (Z ao (N bs) cap)) 144);have g:Bw w (x.alloc (Qs (Sb p n (Z ao (N bs) cap)) 144)):=D.trans (G.mono D.size);refine⟨bM.intro (p:=p) (n:=n) (bo:=ao) (bc:=cap) (bs:=bs) ?_ (λz bu=>(uH z bu).1.aj g),g⟩;exact { blk:=hz.high _ D.size,gb:=qj _ _,part:=LX,ok:=Ei.aj G,ord:=Q,cl:=Zc g hn.cl,clf:=hn.clf,cln:=hn.cln,co:=Zc g hn.co,cof:=hn.cof,con:=hn.con,ptrs:=aQ.aj G,ptf:=λ_ a e=>hz.high _ (ZU aC (jG a e)),Ux:=ak,nil:=aR,lay:=(by show sI n ((bs.map Prod.snd).map bF.ns)=_;rw[Xe];rfl),two:=B,kind:=⟨dP,Lg⟩,lens:=⟨hn.clb,hn.cob⟩ }
 have aF:Qm (gy w bo (bs.map Prod.fst)):=hp;have aa:Qm (∀i,i<N bs->Ed Fq w (E (bs.map Prod.fst) i 0) (E ps i jm)):=λi A=>(r i A).1;have Lh:Qm (∀i,i<N bs->ps.take (i+1)=ps.take i++[E ps i jm]):=λi A=>Jt ps jm X;have UA:Qm (N ps=N bs):=AY;have bz:Qm (N bs<=2):=B;have rP:Qm (N (bs.map Prod.fst)=N bs):=dY;have bA:N bs<=1000:=X;clear nC hd r AY hp jR uH hl dP Lg zT hsr hn hz Eq B dY;generalize aS ts q n (bs.map Prod.snd)=GT at*;obtain⟨kind,nl,nr,au,⟨ca,cc,cl⟩,key,⟨da,dc,co⟩⟩:=n;obtain⟨v0,v1,v2,v3,v4,v5,v6,v7,v8,v9,fO,fP,fQ,iq,-⟩:=Jh f ts q;rw[iq]at C ⊢;clear iq;simp only[ay.cells,aA.val,Sb]at*;generalize bs.map Prod.fst=bf,N bs=bl at*;clear bs;obtain⟨w1,dB,bL,av⟩:=bI w #[v0,v1,v2,v3,v4,v5,v6,v7,v8,v9,fO,fP,fQ] 118;obtain⟨u,aU,P,ax⟩:=bI w1 #[I J kind,I J nl,I J nr,I J au,Z ca (N cl) cc,I J key,Z da (N co) dc] 43;have Ho:GB u (M (H w)) 118 #[v0,v1,v2,v3,v4,v5,v6,v7,v8,v9,fO,fP,fQ]:=av.up P;have CE:Qm (GB u (M (H w)) 118 #[v0,v1,v2,v3,v4,v5,v6,v7,v8,v9,fO,fP,fQ]):=Ho;have aI:Qm (GB u (M (H w1)) 43 #[I J kind,I J nl,I J nr,I J au,Z ca (N cl) cc,I J key,Z da (N co) dc]):=ax;have aJ:Qm (Bw w u):=aO bL P;clear bL P av ax Ho;go_enter func128,ntmps128;go_wp2;clear dB aU;go_loopw [7,12] (λpv iv wr=>∃k:Nat,k<=bl/\iv=I J (k:Int)/\Qm (wr.ownsRow (M (H u)) 141 6 pv (N (ps.take k)) ((ps.take k).flatMap eQ.eT))/\Qm (Bw u wr)) (λ_ iv _=>bl-(intOf iv).toNat)
 case atStart=>exact⟨0,ZR _,rfl,XC _ _ _ _,Za _ _⟩
 case round=>
  obtain⟨k,hk,rfl,W,Li⟩:=hrel;have g:Bw w wr:=aO aJ.o Li.o;by_cases aT:k<bl
  .obtain⟨bb,bB,rfl,az⟩:=gy.get (aF.o.aj g) (i:=k) (by rw[rP.o];exact aT);have aK:=az k (by rw[rP.o];exact aT);have hP:=(aa.o k aT).aj g;have L:Qm _:=Lh.o k aT;generalize E ps k jm=p at hP L;generalize E bf k 0=pa at hP aK;obtain⟨c0,c1,c2,c3,c4,c5,-,-⟩:=hP;obtain⟨qa,qm,qc,rfl⟩:=Xz W.o;have ag:M (H u)<=M (H wr):=Li.o.size;obtain⟨v',w5,sF,mW,kC,⟨xa,xm,xc,rfl⟩,jl⟩:=ahn wr (M (H u)) (Z qa qm qc) (ps.take k) W.o (by rw[Jb];omega) ag p 242;rw[<-L.o]at mW;have zW:Qm _:=mW;have qd:Qm (Bw u w5):=Li.o.trans (kC.aj ag (λb hb e=>Qj ((Xy W.o e).1)));obtain⟨pk,ss,cs,⟨oa,Kh,ox⟩,pz,pt⟩:=p;simp only[eQ.cells,aA.val]at*;clear mW kC jl az L W Li g;go_wp2_with (first|(at_builtin;refine XJ rfl (.tmp 16) (.tmp 21) 242 rfl (Z qa qm qc) (Z (O (aD (M (H wr)) 0)) 1 1) (Z xa xm xc) w5 rfl rfl sF ?_));refine gQ ?_;exact⟨k+1,X,Qe,zW.o,qd.o⟩
  .have aL:bl=k:=X
   subst aL;rw[XW (by rw[UA.o];exact Zb _)]at W;obtain⟨w3,aV⟩:=eY (wr);subst aV;obtain⟨qa,qc,rfl,aW⟩:=agH W.o (by rw[UA.o];omega) (λi A=>((aa.o i (by rw[UA.o]at A;exact A)).aj g).ok);have aM:Qm (p9 w3 qa ps):=aW;have j:Qm _:=g;have gA:GB w3 (M (H w)) 118 #[v0,v1,v2,v3,v4,v5,v6,v7,v8,v9,fO,fP,fQ]:=CE.o.up Li.o;have gN:GB w3 (M (H w1)) 43 #[I J kind,I J nl,I J nr,I J au,Z ca (N cl) cc,I J key,Z da (N co) dc]:=aI.o.up Li.o;obtain⟨a0,a1,a2,a3,a4,a5,a6,a7,a8,a9,wU,yD,yE⟩:=gA.vV;obtain⟨n0,n1,n2,n3,n4,n5,n6⟩:=gN.k7;rw[UA.o]at C ⊢;go_wp2_with fail;refine wH w3 λl=>?_;refine wA3 0 l ?_;refine Co 4 l ?_;refine wR 3 λK S=>?_;go_simp;refine Jg (C.o _ qa qc (j.o.trans (l.mono j.o.size)) (p9.aj l aM.o)) ?_;rintro e w4 ⟨p,rfl,LX,Ei,Q,hb⟩;have ai:=l.trans (hb.mono l.size);obtain⟨pk,aX,pc,⟨oa,Kh,ox⟩,pz,pt⟩:=p;simp only[eQ.cells,aA.val]at*;refine oT S l hb λl=>?_;refine wR 6 λK S=>?_;go_simp;refine Jg (Ad.o _ (j.o.trans (l.mono j.o.size))) ?_;rintro e w5 ⟨v,rfl,hv,R⟩;have Dh:=l.trans (R.mono l.size);obtain⟨va,vn,vc,rfl⟩:=Xz hv;refine S.o _ _ Dh λl=>?_;refine rR 7 l ?_;refine wR 8 λK S=>?_;go_simp;refine oA S l λl=>?_;refine wR 9 λK S=>?_;go_simp;refine S.o _ _ l λl=>?_;refine wD ?_;try simp only[pU]
   obtain⟨hT,aY⟩:=ru.o w5 (M (H w5)) ⟨pk,aX,pc,⟨oa,Kh,ox⟩,pz,pt⟩ (Z va vn vc) w4 rfl (ZU j.o.size ai.size) (j.o.trans (ai.mono j.o.size)) R LX (Ei.aj R) Q hv;have HT:Qm _:=hT;have Ps:Qm _:=aY;have aN:Qm (M (H w)<=M (H w5)):=ZU j.o.size Dh.size;go_wp2;go_ret;exact⟨_,rfl,HT.o,aN.o,Qa,Ps.o⟩
def ak2(ok:Ok ts q)(k:Nat):E (bE ts q) k 0<18446744073709551616:=by
 by_cases a:k<N q.wh
 .rw[RU ts q a];exact ZO (uL (n:=N q.au.xs) (wX ok.qP ok.au (ok.bU k a))) (ZP (n:=2) X ok.ig)
 .rw[Js,Jc (by rw[XN];omega)];simp
theorem Ki(f:bC)(ts:JK af)(q:ae)(s:Nat)(w:U)(ok:Ok ts q)(hf:f.At ts q w)(hs:s<18446744073709551616) :
  Cb 222 #[Qt (f.cells ts q),I Qp (s:Int)] w (I Qp ((bJ (bE ts q) s:Nat):Int)):=by
 obtain⟨P,dB,Q,hg⟩:=bI w ((f.cells ts q)) 118;have r:=hg.at 11;have t:f.nl=N (bE ts q):=by rw[XN];exact hf.nl
 rw[t]at r;have K:=hf.conc.aj Q;have iX:=K.1;have vY:Qm _:=K;have aa:N (bE ts q)<=64:=by rw[XN];exact ok.qU
 have u:Qm (∀k x,Ce 131 #[I Qp (s:Int),I Qp ((E (bE ts q) k 0:Nat):Int)] x (Qq (bV s (E (bE ts q) k 0)))):=λk x=>yN s _ hs (ak2 ok k) x;have Ut:Qm (∀k,k<=64->jO (bE ts q) s k<18446744073709551616):=λk S=>ZO (lU _ _ k) (ZP (n:=2) X S);have v:Qm (∀k,jO (bE ts q) s (k+1)=if bV s (E (bE ts q) k 0)=T then jO (bE ts q) s k|||2 ^ k else jO (bE ts q) s k):=λk=>rfl;have y:Qm (jO (bE ts q) s 0=0):=rfl;have z:Qm (jO (bE ts q) s (N (bE ts q))=bJ (bE ts q) s):=rfl;have vQ:=Zh Q;generalize bJ (bE ts q) s=R,jO (bE ts q) s=WT,f.cells ts q=FC at*;generalize bE ts q=CN at*;obtain⟨ah,ai,ak,au,av,ax,ay,az,aA,aB⟩:=f;simp only at*;go_enter func222,ntmps222;go_wp2;go_loopw [5,11] (λsv G wr=>∃k:Nat,k<=N CN/\G=I J k/\(∃m:Nat,sv=I Qp (m:Int)/\Qm (m=WT k))/\Bw P wr) (λ_ G _=>N CN-(intOf G).toNat)
 case atStart=>exact⟨0,ZR _,rfl,⟨0,rfl,y.o.symm⟩,Za _ _⟩
 case round=>
  obtain⟨k,S,rfl,⟨m,rfl,C⟩,l⟩:=hrel;by_cases aT:k<N CN
  .obtain⟨xb,xo,rfl,D⟩:=kT.get vY.o aT;have ag:=cB l (D k aT);have a:=u.o k wr;have j:=Zh (v.o k);have O3:m<18446744073709551616:=by rw[C.o];exact Ut.o k X
   rw[<-C.o]at j;generalize E CN k 0=c at*;obtain⟨B,hB⟩:=eX (bV s c);rw[hB]at a j;have d:k<64:=X
   cases B with
   |true =>
    have g:Qm (WT (k+1)=m|||2 ^ k):=j.o;obtain⟨wa,i⟩:=eX (wr.alloc (Qs #[I J (k:Int)] 3));have W9:=Cv (M (H wr)) k wa (by rw[<-i];simp) d;obtain⟨wb,b⟩:=eX (wa.alloc (Qs #[I Qp (m:Int),I Qp ((2 ^ k:Nat):Int)] 114));have hp:2 ^ k<18446744073709551616:=XR (n:=64) X d;have A:=qD (M (H wa)) m (2 ^ k) wb (by rw[<-b];simp) (by rw[<-b];simp) O3 hp;have L:Qm (Bw P wb):=by show Below _ _ _;rw[<-b,<-i];exact aO (aO l (fo _ _)) (fo _ _)
    generalize 2 ^ k=p at*;go_wp2_with fail;refine a.mono ?_;rintro e W ⟨rfl,rfl⟩;go_wp2_with fail;refine W9.mono ?_;rintro e W ⟨rfl,rfl⟩;go_wp2_with fail;refine A.mono ?_;rintro e w3 ⟨rfl,rfl⟩;refine gQ ?_;exact⟨k+1,X,Qe,⟨m|||p,rfl,g.o.symm⟩,L.o⟩
   |false =>
    have g:Qm (WT (k+1)=m):=j.o;have L:=Zh l;go_wp2_with fail;refine a.mono ?_;rintro e W ⟨rfl,rfl⟩;go_wp2;go_roundw
    case rel=>grind
    case measure=>exact XK
  .obtain rfl:k=N CN:=X
   obtain⟨HV,HB⟩:=bH (C.o.trans z.o) l;go_wp2;go_ret;exact⟨Q0 (by rw[HV.o]),aO vQ.o HB.o⟩
section
structure ao7(w2:U)(t e:TypeId)(pre:JK Nat)(o1:Pm)(W:U):Prop where
 ex:∃v,GB W (M (H w2)) t #[v]/\W.ownsRow (M (H w2)+1) e 1 v (N pre) (pre.map λn:Nat=>Value.int J (n:Int))/\(∀b,o1 b↔b=M (H w2)∨v.ownBlock=O b)
 aj:Bw w2 W
def ao7.bT{w2:U}{t e:TypeId}{pre:JK Nat}{o1:Pm}{A B:U}{n:Nat}(h:ao7 w2 t e pre o1 A)(hn:M (H w2)<=n)(hk:aB (λb=>o1 b∨b<n) A B):ao7 w2 t e pre o1 B:=by obtain⟨v,a,f,d⟩:=h.ex;exact⟨⟨v,a.bT hk (.inl ((d _).2 (.inl rfl))),Xw f hk (λg a=>.inl ((d g).2 (.inr a))),d⟩,h.aj.trans (hk.aj h.aj.size (λb i=>.inr X))⟩
attribute [local go_sem] Oper.semAt_some
theorem PE(s:Nat)(hs:s<18446744073709551616)(w:U) :
  Calls V 239 #[Z Qr 0 0,.func (.func 90) #[I Qp (s:Int)] #[]] w λe w'=>∃v,e=Qu v/\w'.ownsRow (M (H w)) 3 1 v (N (dZ s)) ((dZ s).map (Value.int J))/\Bw w w':=by
 obtain⟨i0,hi,ak,au,av⟩:=XB Tryz.uN;have ae:=Zh (yZ s hs);have rP:Qm (N (bS s)<=64):=by show _<=_;unfold bS;grind
 have HE:=Zh (by unfold dZ;rw[Xe];rfl:(dZ s).map (Value.int J)=(bS s).map λn:Nat=>Value.int J (n:Int))
 have af:=Zh (by unfold dZ;rw[ZX]:N (dZ s)=N (bS s))
 generalize bS s=RS at*;obtain⟨w1,dB,dP,ax⟩:=bI w #[Z Qr 0 0] 26;have tq:Qm (M (H w1)=M (H w)+1):=by rw[<-dB];show _=_;simp
 have vQ:=Zh dP;have CE:Qm _:=ax;refine(Jn (n:=0)).1 (callsIn_of_wp_marks func239 rfl trivial ?_ rfl);simp only[ntmps239,XD,Zu,XE,Nat.reduceAdd,Nat.reduceSub,Array.replicate_succ,Array.replicate_zero,List.push_toArray,List.append_toArray,List.nil_append,List.cons_append];gi_wp2;refine Cy rq (gf:=90) (s:=I Qp (s:Int)) rfl (enters_of func90 Qd rfl) (ae.o w) vQ.o rfl
  (λp o1 W=>ao7 w 26 3 p o1 W) (λb=>b=M (H w)) ?_ ?_ ⟨⟨Z Qr 0 0,CE.o,XC _ _ _ _,λb=>by simp[Value.ownBlock]⟩,vQ.o⟩
  (λx=>{ tmps:=#[Z Qr 0 0,.func (.func 90) #[I Qp (s:Int)] #[],Y (O (aD (M (H w)) 0)),undef,Z Qr 0 0,I J (x:Int),.func (.func 90) #[I Qp (s:Int)] #[],I J (x:Int),undef,undef,undef,undef,undef],defers:=[] }) ?assign ?body ?done
 .rintro b rfl;exact⟨Zb _,Qj tq.o⟩
 .intro p o1 A B h hk;exact h.bT (Qj tq.o) hk
 case assign=>
  intro l x W K hK;have he:rq.enc x=I J (x:Int):=rfl;gi_wp2;exact hK
 case body=>
  intro l p x o1 W hG aa _ _ ni;have AY:N p+1<=64:=by have:=aa.length_le;rw[ZX,Zt]at this;exact ZU this rP.o
  obtain⟨⟨v,m,L,PG⟩,P⟩:=hG;obtain⟨va,vn,vc,rfl⟩:=Xz L;have hc:=m.at 0;have uH:=P.size;have V4:=Zh m;have a:Qm _:=L;obtain⟨d,zY⟩:=bH PG P;have ag:=tq.o;gi_wp2_with (gi_at_builtin;refine wpListIn_append_own_at _ rfl _ _ 26 rfl (M (H w)+1) 3 i0 (.int J 0) 1 8 underlying26 hi ak au av rfl Qc _ _ _ rfl (L.alloc _) (aD (M (H W)) 0) 1 1 [.int J (x:Int)] rfl rfl ?q1 ?q2 ?q3 ?q4 ?q5 ?_)
  case q1=>
   intro j u hj
   match j,hj with
   |0,hj=>simp at hj;subst hj;simp[Addr.add]
  case q2=>intro u hu;simp at hu;subst hu;rfl
  case q3=>unfold maxLen;omega
  case q4=>omega
  case q5=>simp;omega
  intro v' C k q _ aA;obtain⟨Q,R,f,rfl⟩:=Xz k;have D:aB (λb=>(Value.slice va vn vc).ownBlock≠O b) W C:=(Xo _ _).trans (Xv q (λr e hr=>hr e));have fG:(Value.slice va vn vc).ownBlock≠O (M (H w)):=λe=>by have:=(Xy a.o e).1;omega
  have y:=V4.o.bT D fG;have aC:=y.at 0;have aF:=y.frozen 0;obtain⟨ay,S⟩:=bH y D;have O6:Qm _:=k;have aG:=Zh aA;gi_wp2;have z:aB (λb=>b≠M (H w)) C (Qn C (aD (M (H w)) 0) (Z Q R f)):=Xu _ _ _ (λh=>h rfl);have ah:∀b,(Value.slice Q R f).ownBlock=O b->M (H w)+1<=b/\b<M (H C):=λb e=>Xy O6.o e;refine⟨λb=>b=M (H w)∨(Value.slice Q R f).ownBlock=O b,⟨⟨Z Q R f,ay.o.set 0 _,?_,λb=>Iff.rfl⟩,?_⟩,?_,?_⟩
  .have:=Xw O6.o z (λg hg=>Qj ((ah g hg).1));rw[Zt,Q7];exact this
  .refine zY.o.trans ((S.o.mono (t:=λb=>b<M (H w)) λb _ i e=>?_).trans (z.mono λb _ i=>?_) |>.aj zY.o.size (λb i=>i))
   .have:=(Xy a.o e).1;omega
   .exact Jo i
  .refine(S.o.mono λb _ i e=>i ((d.o b).2 (.inr e))).trans (z.mono λb _ i e=>i ((d.o b).2 (.inl e)))
  .rintro b (rfl|i)
   .exact .inl ((d.o _).2 (.inl rfl))
   .have h3:M (H (Qn C (aD (M (H w)) 0) (Z Q R f)))=M (H C):=Qa
    grind
 case done=>
  rintro ys o' W az hG jf aI hD;have ai:ys=RS:=by simpa [rq] using az
  subst ai;have ag:=tq.o;obtain⟨v,m,L,PG⟩:=hG.ex;have hc:=m.at 0;have d:=Zh PG;have a:Qm _:=L;obtain⟨va,vn,vc,rfl⟩:=Xz a.o;gi_wp2;have aH:¬o' (M (H w1)):=λh=>by grind
  refine⟨Qa,.inl ⟨_,_,rfl,run_takeDeferred hD,?_⟩⟩;have G:=Xm (s:=λb=>o' b∨b<M (H w1)) W (r:=M (H w1)) (.deferred Qr) (by
   grind)
  refine⟨_,results_tmp rfl _ _ _,_,rfl,?_,?_⟩
  .rw[HE.o,af.o];have h5:=Xw a.o G (λg hg=>.inl ((d.o g).2 (.inr hg)));exact⟨h5.1,h5.2.imp id λ⟨g,cap,iw,e,i,h⟩=>⟨g,cap,iw,e,X,h⟩⟩
  .exact hG.aj.trans (G.aj hG.aj.size (λb i=>.inr X))
def M9(s:Nat)(hs:s<18446744073709551616)(w:U) :
  Calls V 170 #[I Qp (s:Int)] w λe b=>∃v,e=Qu v/\b.ownsRow (M (H w)) 3 1 v (N (dZ s)) ((dZ s).map (Value.int J))/\Bw w b:=by
 have j:∀x,Calls V 206 #[.func (.func 90) #[I Qp (s:Int)] #[]] x λe b=>∃v,e=Qu v/\b.ownsRow (M (H x)) 3 1 v (N (dZ s)) ((dZ s).map (Value.int J))/\Bw x b:=by intro x;have d:=PE s hs x;go_enter func206,ntmps206;go_wp2_with fail;refine d.mono ?_;rintro e k ⟨v,rfl,a,i⟩;obtain⟨l,m,n,rfl⟩:=Xz a;have f:Qm _:=a;have g:=Zh i;go_wp2;go_ret;exact⟨_,rfl,f.o,g.o⟩
 have d:=j w;go_enter func170,ntmps170;go_wp2_with fail;refine d.mono ?_;rintro e k ⟨v,rfl,a,i⟩;obtain⟨l,m,n,rfl⟩:=Xz a;have f:Qm _:=a;have g:=Zh i;go_wp2;go_ret;exact⟨_,rfl,f.o,g.o⟩
end
def dU(Tq:TypeId)(Fq:Pm)(w:U)(t:bF)(e:Ending)(w':U):Prop:=
 ∃a,e=Qu (Y (O (aD a 0)))/\bM Tq Fq w' a t/\M (H w)<=a/\a<M (H w')/\Bw w w'
def iU:aA:=⟨Qr,0,[]⟩
def mh(w:U):iU.At w:=⟨Qc,λi a=>absurd a (Jw _)⟩
def adh(h:w.heap[b]? = O (Qs #[v] t (0,0))):Qo w (aD b 0)=O v:=by simp only[World.cell?,h];rfl
theorem lJ(h:w.ownsRow base e 1 v n (xs.map (Value.int J)))(hl:N xs<=1000000) :
  ∃iv:aA,v=iv.val/\iv.xs=xs/\iv.At w/\(∀a,iv.ad=O a->base<=a.block)/\(iv.ad=Qr->iv.cap=0)/\N iv.xs<=iv.cap:=by
 have d:n=N xs:=by have:=h.1;rw[ZX]at this;omega
 subst d;rcases h.2 with⟨rfl,h1⟩|⟨g,cap,iw,rfl,hb,hh,hc,_,_,ht⟩
 .have:=Ju.1 h1;subst this;exact⟨iU,rfl,rfl,mh w,(λa e=>by cases e),(λ_=>rfl),Zb _⟩
 .refine⟨⟨O (aD g 0),cap,xs⟩,rfl,rfl,⟨by simp only;omega,λi j=>⟨g,0,rfl,?_⟩⟩,(λa e=>by cases e;exact hb),(λe=>by cases e),hc⟩;have f:i<N xs:=j;have b:(xs.map (Value.int J))[i]? = O (I J (E xs i 0)):=by grind
  rw[<-ht,XQ]at b;split at b
  .rw[ZT];simp only[World.cell?,hh]
   simpa using b
  .cases b
theorem vP.nil(Fq:Pm)(ao:LM):vP Fq ao 0:=λh=>absurd h (Nat.lt_irrefl _)
def Sk(Eq:vS f ts q W0)(hz:Fz Fq W0 w)(s:Int)(h0:0<=s)(h1:s<N q.au.xs) :
  Calls V 128 #[Qt (f.cells ts q),Qt #[I J 1,I J 0,I J 0,I J s,Z Qr 0 0,I J 0,Z Qr 0 0],Z Qr 0 0] w (dU 144 Fq w (aS ts q (lh s) [])):=
 M8 Eq hz ⟨1,0,0,s,iU,0,iU⟩ ⟨mh w,vP.nil _ _,λ_=>rfl,mh w,vP.nil _ _,λ_=>rfl,Zb _,ZR _,ZR _⟩ Qr 0 [] ⟨Qc,λi a=>absurd a (Jw _)⟩ (λ_=>rfl) (λx b=>by cases b) rfl (by decide:(1:Int)<=1) (by decide:(1:Int)<=10) (Jl _) (λ_=>⟨h0,h1⟩)
theorem Bh(Eq:vS f ts q W0)(hz:Fz Fq W0 w)(n:ay)(hn:adb Fq w n)(a b:Nat)(t:bF)(ht:bM 144 Fq w a t)(hto:oK q t)(hc:Qo w (aD b 0)=O (Y (O (aD a 0))))
  (har:bg n.kind=1) (dP:2<=n.kind) (Lg:n.kind<=10) (zT:cK (N q.wh) n.cl.xs) :
  Calls V 128 #[Qt (f.cells ts q),Qt n.cells,Z (O (aD b 0)) 1 1] w (dU 144 Fq w (aS ts q n [t])):=
 M8 Eq hz n hn (O (aD b 0)) 1 [(a,t)] ⟨Qa,λi d=>⟨b,0,rfl,by
  grind⟩⟩ (λe=>by cases e) (λx g=>Qb) (by rw[har];rfl) X Lg zT (λe=>X)
theorem Yz(Eq:vS f ts q W0)(hz:Fz Fq W0 w)(n:ay)(hn:adb Fq w n)(a a' b:Nat)(t t':bF)(ht:bM 144 Fq w a t)(hto:oK q t)(ht':bM 144 Fq w a' t')(aL9:oK q t')(hc:Qo w (aD b 0)=O (Y (O (aD a 0))))(Hg:Qo w (aD b 1)=O (Y (O (aD a' 0))))
  (h3:3<=n.kind) (h5:n.kind<=5) (zT:cK (N q.wh) n.cl.xs) :
  Calls V 128 #[Qt (f.cells ts q),Qt n.cells,Z (O (aD b 0)) 2 2] w (dU 144 Fq w (aS ts q n [t,t'])):=
 M8 Eq hz n hn (O (aD b 0)) 2 [(a,t),(a',t')] ⟨Qa,λi g=>⟨b,0,rfl,by
  have d:i<2:=g;rw[ZT]
  match i,d with
  |0,_=>exact hc
  |1,_=>exact Hg⟩⟩ (λe=>by cases e) (λx j=>by
   grind) (by unfold bg;rw[Zk X,Zd X];rfl) X X zT (λe=>X)
structure gP(Fq:Pm)(w:U)(iv:aA):Prop where
 oO:iv.At w
 inf:vP Fq iv.ad (N iv.xs)
 nil:iv.ad=Qr->iv.cap=0
 cap:N iv.xs<=iv.cap
def gP.eG{Fq:Pm}{w w':U}{iv:aA}(h:gP Fq w iv)(hk:aB Fq w w'):gP Fq w' iv:=⟨Jm h.oO hk h.inf,h.inf,h.nil,h.cap⟩
theorem gP.aj{Fq:Pm}{w w':U}{iv:aA}(h:gP Fq w iv)(hb:Bw w w'):gP Fq w' iv:=⟨Zc hb h.oO,h.inf,h.nil,h.cap⟩
def gP.iU(Fq:Pm)(w:U):gP Fq w iU:=⟨mh w,vP.nil _ _,λ_=>rfl,Zb _⟩
def gP.mono{Fq G:Pm}{w:U}{iv:aA}(h:gP Fq w iv)(hs:∀b,b<M (H w)->Fq b->G b):gP G w iv:=⟨h.oO,vP.mono h.oO.2 h.inf hs,h.nil,h.cap⟩
def apb(h:w.ownsRow base e 1 v n (xs.map (Value.int J)))(hl:N xs<=1000000)(hF:∀b,base<=b->Fq b) :
  ∃d:aA,v=d.val/\d.xs=xs/\gP Fq w d:=by obtain⟨d,f,g,i,j,k,l⟩:=lJ h hl;exact⟨d,f,g,i,λ_ a e=>hF _ (j a e),k,l⟩
def Nb(Fq:Pm)(w:U)(xs:IC)(e:Ending)(w':U):Prop:=∃iv:aA,e=Qu iv.val/\iv.xs=xs/\gP Fq w' iv/\Bw w w'
def vS.ak4(Eq:vS f ts q W0):N (aR q)<=4:=by
 unfold aR;split
 .exact Eq.axv
 .split
  .unfold jk;rw[ZX];exact Eq.D6
  .simp
def vS.ak5(Eq:vS f ts q W0)(h:Fz Fq W0 w):gP Fq w q.aC:=
 ⟨h.aj.vT Eq.facts.qC.aC,λi a e=>h.low _ (by
  obtain⟨b,off,d,g⟩:=Eq.facts.qC.aC.2 0 i;rw[e]at d;injection d with d;rw[d];exact⟨_,_,g⟩),Eq.axw,Eq.AZ⟩
theorem FZ(Eq:vS f ts q W0)(hz:Fz Fq W0 w):Calls V 130 #[Qt q.cells] w (Nb Fq w (aR q)):=by
 have hq:=(Eq.oO hz).qC
 cases hg:q.aF with
 |true =>
  have u:=Zh (by  unfold aR;rw[Zd hg]:aR q=q.aC.xs)
  have HK:=Zh (Eq.ak5 hz);generalize aR q=R at*;obtain⟨⟨A,B,C⟩,D,G,K,aF,⟨n,p,r⟩,⟨L,P,Q⟩,⟨S,W,lx⟩,⟨oa,oc,ox⟩⟩:=q;simp only[ae.cells,aA.val]at*;subst hg;obtain⟨w1,dB,t,k⟩:=bI w #[Z A (N C) B,Z D (N K) G,Qq T,Z n (N r) p,Z L (N Q) P,Z S (N lx) W,Z oa (N ox) oc] 35;obtain⟨a0,a1,a2,a3,a4,a5,a6⟩:=k.k7;have d:=Zh t;go_enter func130,ntmps130;go_wp2;go_ret;exact⟨⟨n,p,r⟩,rfl,u.o.symm,HK.o.aj d.o,d.o⟩
 |false =>
  have vY:Qm (∀x,Bw w x->Calls V 171 #[Qt q.cells] x λe w'=>∃v,e=Qu v/\w'.ownsRow (M (H x)) 3 1 v (N (jk q)) ((jk q).map (Value.int J))/\Bw x w'):=λx i=>vD q x (hq.aj i) (Eq.ord hg) (Qj Eq.D6);have u:Qm (aR q=if dK (jk q)=T then jk q else []):=by show _=_;unfold aR;rw[Zk (by rw[hg];decide)]
  have Ut:Qm (N (jk q)<=4):=by show _<=_;unfold jk;rw[ZX];exact Eq.D6
  have y:=Zh hz.high;generalize aR q=R,jk q=WN at*;obtain⟨⟨A,B,C⟩,D,G,K,aF,⟨n,p,r⟩,⟨L,P,Q⟩,⟨S,W,lx⟩,⟨oa,oc,ox⟩⟩:=q;simp only[ae.cells,aA.val]at*;subst hg;obtain⟨w1,dB,t,k⟩:=bI w #[Z A (N C) B,Z D (N K) G,Qq F,Z n (N r) p,Z L (N Q) P,Z S (N lx) W,Z oa (N ox) oc] 35;obtain⟨a0,a1,a2,a3,a4,a5,a6⟩:=k.k7;have d:=Zh t;have MI:=vY.o w1 t;go_enter func130,ntmps130;go_wp2_with fail;refine MI.mono ?_;rintro e w2 ⟨v,rfl,hv,aa⟩;obtain⟨m,rfl,i,gH⟩:=apb (Fq:=Fq) hv (Qj Ut.o) (λb hb=>y.o b (ZU d.o.size hb));have l:=Zh (aO d.o aa);have g:=allDifferent_any m.ad m.cap m.xs w2 gH.oO gH.cap;have z:=Zh gH;rw[i]at g;have HX:=Zh i
  cases GN:dK WN with
  |true =>
   have j:=Zh (by  rw[u.o,Zd GN]:R=WN)
   rw[GN]at g;obtain⟨ia,ic,ix⟩:=m;simp only at i;subst i;simp only[aA.val]at*;go_wp2_with fail;refine mR g λw3 a=>?_;have a:=a.symm;subst a;go_wp2;go_ret;exact⟨⟨ia,ic,ix⟩,rfl,j.o.symm,z.o,l.o⟩
  |false =>
   have j:Qm (R=[]):=Qb;rw[GN]at g;obtain⟨ia,ic,ix⟩:=m;simp only at i;subst i;simp only[aA.val]at*;go_wp2_with fail;refine mR g λw3 a=>?_;have a:=a.symm;subst a;go_wp2;go_ret;exact⟨iU,rfl,j.o.symm,gP.iU _ _,l.o⟩
def YB(q:ae)(o:aA)(w:U)(hk:q.aC.At w)(ho:o.At w)(Ao:N o.xs<=o.cap) :
  Cb 272 #[Qt q.cells,o.val] w (I J (bK q o.xs)):=by
 cases hg:q.aF with
 |false =>
  have g:bK q o.xs=9:=by unfold bK;rw[Zd hg]
  rw[g];generalize o.val=ov;obtain⟨⟨j,k,l⟩,m,n,p,aF,⟨r,t,e⟩,⟨u,v,y⟩,⟨z,A,C⟩,⟨D,G,K⟩⟩:=q;simp only[ae.cells,aA.val]at*;subst hg;obtain⟨P,S,f,b⟩:=bI w #[Z j (N l) k,Z m (N p) n,Qq F,Z r (N e) t,Z u (N y) v,Z z (N C) A,Z D (N K) G] 35;obtain⟨a0,W,a2,a3,a4,a5,a6⟩:=b.k7;have a:=Zh f;go_enter func272,ntmps272;go_wp2;go_ret;exact⟨rfl,a.o⟩
 |true =>
  have g:bK q o.xs=if aN o.xs q.aC.xs=T then 8 else 7:=by unfold bK;rw[Zk (by rw[hg];decide)]
  rw[g];have R:Qm (∀x,Bw w x->Cb 258 #[Z o.ad (N o.xs) o.cap,Z q.aC.ad (N q.aC.xs) q.aC.cap] x (Qq (aN o.xs q.aC.xs))):=λx Q=>vC o.ad q.aC.ad o.cap q.aC.cap o.xs q.aC.xs x (Zc Q ho) (Zc Q hk) Ao;obtain⟨ia,ic,ix⟩:=o;obtain⟨⟨j,k,l⟩,m,n,p,aF,⟨r,t,e⟩,⟨u,v,y⟩,⟨z,A,C⟩,⟨D,G,K⟩⟩:=q;simp only[ae.cells,aA.val]at*;subst hg;obtain⟨P,S,f,b⟩:=bI w #[Z j (N l) k,Z m (N p) n,Qq T,Z r (N e) t,Z u (N y) v,Z z (N C) A,Z D (N K) G] 35;obtain⟨a0,W,a2,a3,a4,a5,a6⟩:=b.k7;have a:=Zh f;have i:=R.o P f;generalize aN ix e=B at*;go_enter func272,ntmps272;go_wp2_with fail;refine mR i λw2 L=>?_;have d:=Zh (aO a.o L)
  cases B with
  |true =>
   go_wp2;go_ret;exact⟨rfl,d.o⟩
  |false =>
   go_wp2;go_ret;exact⟨rfl,d.o⟩
def YC(A:Nat->Nat):Option (Nat × bF)->Ql
 |none=>Y Qr
 |some x=>Y (O (aD (A x.1) 0))
def sJ:aK:=([],Qr)
structure dJ(Tq Tp:TypeId)(Fq:Pm)(w:U)(gb:Nat)(A:Nat->Nat)(os:JK aA)(g:JK aK):Prop where
 blk:∃c,GB w gb Tp c/\∀i,i<N g->c[i*2]? = O (E os i iU).val/\c[i*2+1]? = O (YC A (E g i sJ).2)
 ord:∀i,i<N g->(E os i iU).xs=(E g i sJ).1/\gP Fq w (E os i iU)/\(E os i iU).xs.length<=1000
 iE:∀p∈g,∀x,p.2=O x->bM Tq Fq w (A x.1) x.2
 inj:∀p∈g,∀p'∈g,∀x x',p.2=O x->p'.2=O x'->A x.1=A x'.1->x.1=x'.1
def dJ.eG{Tq Tp:TypeId}{Fq:Pm}{w w':U}{gb:Nat}{A:Nat->Nat}{os:JK aA}{g:JK aK}(h:dJ Tq Tp Fq w gb A os g)(hk:aB (λb=>Fq b∨b=gb) w w'):dJ Tq Tp Fq w' gb A os g:=by obtain⟨c,e,d⟩:=h.blk;have a:=hk.mono λb _ h=>.inl h;exact⟨⟨c,e.bT hk (.inr rfl),d⟩,λi d=>⟨(h.ord i d).1,(h.ord i d).2.1.eG a,(h.ord i d).2.2⟩,λp f x j=>(h.iE p f x j).eG a,h.inj⟩
theorem dJ.aj{Tq Tp:TypeId}{Fq:Pm}{w w':U}{gb:Nat}{A:Nat->Nat}{os:JK aA}{g:JK aK}(h:dJ Tq Tp Fq w gb A os g)(hb:Bw w w'):dJ Tq Tp Fq w' gb A os g:=h.eG (Xk hb λ_ h _=>h)
def dJ.mono{Tq Tp:TypeId}{Fq G:Pm}{w:U}{gb:Nat}{A:Nat->Nat}{os:JK aA}{g:JK aK}(h:dJ Tq Tp Fq w gb A os g)(hs:∀b,b<M (H w)->Fq b->G b):dJ Tq Tp G w gb A os g:=
 ⟨h.blk,λi a=>⟨(h.ord i a).1,(h.ord i a).2.1.mono hs,(h.ord i a).2.2⟩,λp d x e=>(h.iE p d x e).mono hs,h.inj⟩
def bM.move{a:Nat}{t:bF}(h:bM Tq Fq w a t)(hk:aB Fq w w')(hs:∀b,b<M (H w)->Fq b->G b):bM Tq G w' a t:=
 ((h.mono (G:=λb=>Fq b/\G b) λb e d=>⟨d,hs b e d⟩).eG (hk.mono λ_ _ h=>h.1)).mono λ_ _ h=>h.2
def dJ.move(h:dJ Tq Tp Fq w gb A os g)(hk:aB (λb=>Fq b∨b=gb) w w')(hs:∀b,b<M (H w)->Fq b->G b):dJ Tq Tp G w' gb A os g:=
 ((h.mono (G:=λb=>Fq b/\G b) λb d a=>⟨a,hs b d a⟩).eG (hk.mono λ_ _ h=>h.imp And.left id)).mono λ_ _ h=>h.2
theorem dJ.cells(h:dJ Tq Tp Fq w gb A os g)(hi:i<N g) :
  Qo w (aD gb (i*2))=O (E os i iU).val/\Qo w (aD gb (i*2+1))=O (YC A (E g i sJ).2):=by obtain⟨c,b,a⟩:=h.blk;exact⟨(b.cell _).trans (a i hi).1,(b.cell _).trans (a i hi).2⟩
def uW(hi:i<N g):E g i sJ∈g:=by simp_all
def bM.blk{a:Nat}{t:bF}(h:bM Tq Fq w a t):∃c,w.heap[a]? = O (Qs c Tq (0,0)):=by obtain⟨p,n,bo,bc,bs,b,_⟩:=h.get;exact⟨_,b.gb⟩
theorem lV{β:Type}(f:β->α->β)(b:β)(l:List α)(d:α)(hk:k<N l):(l.take (k+1)).foldl f b=f ((l.take k).foldl f b) (E l k d):=by grind [MZ]
def Nc(Eq:vS f ts q W0)(hz:Fz Fq W0 w)(a:Nat)(t:bF)(ht:bM 144 Fq w a t)(hto:oK q t)(o:aA)(ho:o.At w)(hof:vP Fq o.ad (N o.xs))(hon:o.ad=Qr->o.cap=0)(Ao:N o.xs<=o.cap)(Lb:N o.xs<=1000) :
  Calls V 250 #[Qt (f.cells ts q),Y (O (aD a 0)),o.val] w (dU 144 Fq w (bW ts q t o.xs)):=by
 obtain⟨v0,u,v2,v3,v4,v5,v,y,z,v9,A,B,C,D,-⟩:=Jh f ts q;have j:Qm (∀x b,Bw w x->Qo x (aD b 0)=O (Y (O (aD a 0)))->Calls V 128 #[Qt #[v0,u,v2,v3,v4,v5,v,y,z,v9,A,B,C],Qt #[I J 6,I J 0,I J 0,I J 0,Z Qr 0 0,I J 0,o.val],Z (O (aD b 0)) 1 1] x (dU 144 Fq x (bW ts q t o.xs))):=λx b p hc=>by rw[<-D];exact Bh Eq (hz.next p) ⟨6,0,0,0,iU,0,o⟩ ⟨mh x,vP.nil _ _,λ_=>rfl,Zc p ho,hof,hon,Ao,ZR _,Lb⟩ a b t (ht.aj p) hto hc rfl (by decide:(2:Int)<=6) (by decide:(6:Int)<=10) (Jl _)
 rw[D];generalize bW ts q t o.xs=R at*;obtain⟨oa,oc,ox⟩:=o;simp only[aA.val]at*;obtain⟨G,dB,P,l⟩:=bI w #[v0,u,v2,v3,v4,v5,v,y,z,v9,A,B,C] 118;obtain⟨a0,a1,a2,a3,a4,a5,a6,a7,a8,a9,wU,yD,yE⟩:=l.vV;obtain⟨K,i⟩:=eX (G.alloc (Qs #[Y (O (aD a 0))] 136));have d:Bw w K:=aO P (by rw[<-i];exact fo _ _);have k:=j.o K (M (H G)) d (by rw[<-i];simp);have g:=Zh d;go_enter func250,ntmps250;go_wp2_with fail;refine k.mono ?_;rintro e Q ⟨r,rfl,S,W,m,n⟩;have L:Qm (dU 144 Fq w R (Qu (Y (O (aD r 0)))) Q):=⟨r,rfl,S,ZU g.o.size W,m,aO g.o n⟩;go_wp2;go_ret;exact L.o
theorem F3(Eq:vS f ts q W0)(hz:Fz Fq W0 w)(a:Nat)(t:bF)(ht:bM 144 Fq w a t)(hto:oK q t)(c:Nat)(hc:c<2 ^ (N q.wh))(xz:a<M (H w)) :
  Calls V 129 #[Qt (f.cells ts q),Y (O (aD a 0)),I Qp (c:Int)] w λe G=>∃r,e=Qu (Y (O (aD r 0)))/\bM 144 Fq G r (dz ts q t c)/\(r=a∨M (H w)<=r)/\r<M (H G)/\Bw w G:=by
 by_cases oq:c=0
 .subst oq;have HT:Qm (bM 144 Fq w a (dz ts q t 0)):=by unfold dz;rw[Zd rfl];exact ht
  generalize dz ts q t 0=R at*;obtain⟨v0,v1,v2,v3,v4,v5,v6,v7,v8,v9,fO,fP,fQ,iq,-⟩:=Jh f ts q;rw[iq];have PQ:=Zh xz;obtain⟨w1,dB⟩:=eX (w.alloc (Qs #[v0,v1,v2,v3,v4,v5,v6,v7,v8,v9,fO,fP,fQ] 118));have g:Qm (Bw w w1):=by show Below _ _ _;rw[<-dB];exact fo _ _
  go_enter func129,ntmps129;go_wp2;go_ret;exact⟨a,rfl,HT.o.aj g.o,.inl rfl,ZO PQ.o g.o.size,g.o⟩
 have hR:dz ts q t c=aS ts q (Dx (dZ c)) [t]:=by unfold dz;rw[Zk oq]
 have ah:(((c:Nat):Int)==0)=false:=by grind
 rw[hR];have aa:c<18446744073709551616:=ZO hc (ZP (n:=2) X Eq.ok.qU);obtain⟨v0,v1,v2,v3,v4,v5,v6,v7,v8,v9,fO,fP,fQ,iq,-⟩:=Jh f ts q;have Lm:Qm (∀x,Calls V 170 #[I Qp (c:Int)] x λe G=>∃v,e=Qu v/\G.ownsRow (M (H x)) 3 1 v (N (dZ c)) ((dZ c).map (Value.int J))/\Bw x G):=λx=>M9 c aa x;have Sd:Qm (N (dZ c)<=64):=by show _<=_;unfold dZ bS;grind
 have Q:Qm (∀x b (j:aA),Bw w x->(j.xs=dZ c/\j.At x/\vP Fq j.ad (N j.xs)/\(j.ad=Qr->j.cap=0))->Qo x (aD b 0)=O (Y (O (aD a 0)))->Calls V 128 #[Qt #[v0,v1,v2,v3,v4,v5,v6,v7,v8,v9,fO,fP,fQ],Qt #[I J 2,I J 0,I J 0,I J 0,j.val,I J 0,Z Qr 0 0],Z (O (aD b 0)) 1 1] x (dU 144 Fq x (aS ts q (Dx (dZ c)) [t]))):=λx b j hx P D=>by rw[<-iq,<-P.1];exact Bh Eq (hz.next hx) ⟨2,0,0,0,j,0,iU⟩ ⟨P.2.1,P.2.2.1,P.2.2.2,mh x,vP.nil _ _,λ_=>rfl,Zb _,(by rw[P.1];have:=Sd.o;omega),ZR _⟩ a b t (ht.aj hx) hto D rfl (by decide:(2:Int)<=2) (by decide:(2:Int)<=10) (by rw[P.1];exact yV hc)
 have S:=Zh hz.high;rw[iq];generalize aS ts q (Dx (dZ c)) [t]=R at*;generalize dZ c=L at*;obtain⟨w1,dB,bL,ag⟩:=bI w #[v0,v1,v2,v3,v4,v5,v6,v7,v8,v9,fO,fP,fQ] 118;obtain⟨a0,a1,a2,a3,a4,a5,a6,a7,a8,a9,wU,yD,yE⟩:=ag.vV;have g:=Zh bL;go_enter func129,ntmps129;go_wp2_with fail;refine wH w1 λd=>?_;refine Co 0 d ?_;refine rR 4 d ?_;refine wJ 2 5 (λK i=>?_) λK i=>?_
 .skip;go_simp;refine Jg (Lm.o _) ?_;rintro e w4 ⟨v,rfl,hv,hb⟩;obtain⟨j,k,W,jl,z⟩:=lJ hv (Qj Sd.o);obtain⟨la,lc,lx⟩:=j;simp only[aA.val]at k W jl z;subst W;subst k;have m:=d.trans (hb.mono d.size);have p:vP Fq la (N lx):=λ_ a' e=>S.o _ (ZU g.o.size (ZU d.size (z.1 a' e)))
  refine i.o _ _ m λd=>?_;refine rR 3 d ?_;refine wR 5 λK i=>?_;go_simp;refine oA i d λd=>?_;have u:=fo w4 (Qs #[Y (O (aD a 0))] 136);have y:=d.size;refine wR 6 λK i=>?_;go_simp;refine Jg (Q.o _ _ ⟨la,lc,lx⟩ (aO g.o d) ⟨rfl,Zc u jl,p,z.2.1⟩ Qa) ?_;rintro e A ⟨r,rfl,hT,lN,B,C⟩;refine oT i d C λd=>?_;refine wR 7 λK i=>?_;go_simp;refine i.o _ _ d λd=>?_;refine wD ?_;try simp only[pV]
  have HP:Qm (∃l,Ending.returned (Y (O (aD r 0)))=Qu (Y (O (aD l 0)))/\bM 144 Fq A l R/\(l = a∨M (H w)<=l)/\l<M (H A)/\Bw w A):=⟨r,rfl,hT,.inr (ZU g.o.size (ZU y lN)),B,aO g.o d⟩;go_wp2;go_ret;exact HP.o
 .skip;go_simp;refine oA i d λd=>?_
  refine wR 2 λK i=>?_;go_simp;refine Jg (Lm.o _) ?_;rintro e w4 ⟨v,rfl,hv,hb⟩;obtain⟨j,k,W,jl,z⟩:=lJ hv (Qj Sd.o);obtain⟨la,lc,lx⟩:=j;simp only[aA.val]at k W jl z;subst W;subst k;have m:=d.trans (hb.mono d.size);have p:vP Fq la (N lx):=λ_ a' e=>S.o _ (ZU g.o.size (ZU d.size (z.1 a' e)));have iX:=cB hb (show _=O (Value.pointer (O (aD a 0))) from (adh (qj _ (Qs #[Y (O (aD a 0))] 136))));refine i.o _ _ m λd=>?_;have u:=Za (M (H w4)) w4;have y:=d.size;refine rR 3 d ?_;refine wR 6 λK i=>?_;go_simp;refine Jg (Q.o _ _ ⟨la,lc,lx⟩ (aO g.o d) ⟨rfl,Zc u jl,p,z.2.1⟩ (iX)) ?_;rintro e A ⟨r,rfl,hT,lN,B,C⟩;refine oT i d C λd=>?_;refine wR 7 λK i=>?_;go_simp;refine i.o _ _ d λd=>?_;refine wD ?_;try simp only[pV]
  have HP:Qm (∃l,Ending.returned (Y (O (aD r 0)))=Qu (Y (O (aD l 0)))/\bM 144 Fq A l R/\(l = a∨M (H w)<=l)/\l<M (H A)/\Bw w A):=⟨r,rfl,hT,.inr (ZU g.o.size (ZU y lN)),B,aO g.o d⟩;go_wp2;go_ret;exact HP.o
theorem N9(a:Addr)(cap:Nat)(xs:IC)(w:U)(hx:aP w (O a) xs)(hl:N xs<=1000000) :
  Calls V 86 #[Z (O a) (N xs) cap] w λe b=>∃v,e=Qu v/\b.ownsRow (M (H w)) 3 1 v (N xs) (xs.map (Value.int J))/\Bw w b:=by
 obtain⟨i0,n,d,f,g⟩:=XB Tryz.uN;obtain⟨C,b,p,q,r,⟨t,y,z,rfl⟩⟩:=uU (P:=V) w 26 26 3 i0 (.int J 0) 1 8 underlying26 n d f g rfl Qc a (N xs) cap (xs.map (Value.int J)) Qa
  (λj u i=>by
   rw[Zv]at i;by_cases k:j<N xs
   .obtain⟨D,G,e,K⟩:=hx.2 j k
    grind
   .rw[Jc X]at i;cases i) (λu A=>by obtain⟨x,_,rfl⟩:=Xc.1 A;rfl) hl Qc
 have l:Qm _:=q;have m:=Zh r;have B:∀W,(binOp .eql 26 (.slice (O a) (N xs) cap) (.slice Qr 0 0)).run V W=.ok (.bool F) W:=λW=>Jv W 26 _ (O a) _ _ _ _ underlying26;go_enter func86,ntmps86;go_wp2_with (first|(at_builtin;refine XJ rfl (.tmp 5) (.tmp 6) 26 rfl (.slice (O (aD (M (H w)) 0)) 0 0) (.slice (O a) (N xs) cap) (.slice t y z) b rfl rfl p ?_));go_wp2;go_ret;exact⟨_,rfl,l.o,m.o⟩
def Oa(w:U):Ce 86 #[.slice Qr 0 0] w (.slice Qr 0 0):=by have a:∀W,(binOp .eql 26 (.slice Qr 0 0) (.slice Qr 0 0)).run V W=.ok (.bool T) W:=λW=>Jv W 26 _ Qr _ _ _ _ underlying26;go_enter func86,ntmps86;go_wp2;go_ret;exact⟨rfl,rfl⟩
def tJ(x:aA)(w:U)(hx:x.At w)(hn:x.ad=Qr->x.cap=0)(hl:N x.xs<=1000000) :
  Calls V 86 #[x.val] w λe d=>∃v,e=Qu v/\d.ownsRow (M (H w)) 3 1 v (N x.xs) (x.xs.map (Value.int J))/\Bw w d:=by
 obtain⟨g,cap,xs⟩:=x
 cases g with
 |none =>
  obtain rfl:cap=0:=hn rfl;have f:xs=[]:=by
   cases xs with
   |nil=>rfl
   |cons x xs=>obtain⟨b,off,e,_⟩:=hx.2 0 Qa;cases e
  subst f;refine(Oa w).mono ?_;rintro e d ⟨rfl,rfl⟩;exact⟨_,rfl,XC _ _ _ _,Za _ _⟩
 |some a=>exact N9 a cap xs w hx hl
theorem Hw(n:ay):N n.eT=7:=rfl
theorem CF:∀(l:JK ay) (i j:Nat) (v:Ql) (n:ay),i<N l->j<7->n.eT=(E l i nz).eT.set j v->(l.flatMap ay.eT).set (i*7+j) v=(l.set i n).flatMap ay.eT
 |[],i,_,_,_,h,_,_=>absurd h Qa
 |a::l,0,j,v,n,_,hj,e=>by rw[Zr,QY,Zr,X8,ZT,List.set_append_left _ _ (by grind [Hw]),e];rfl
 |a::l,i+1,j,v,n,h,hj,e=>by rw[Zr,QX,Zr,Jz _ _ (by grind [Hw]),Hw,show (i+1)*7+j-7=i*7+j by omega,CF l i j v n (by simpa using h) hj e]
theorem zk{xs:JK Ql}(h:w.ownsRow base e sz v n xs){g:Nat}(hg:v.ownBlock=O g){j:Nat}(hj:j<n*sz)(u:Ql):(Qn w (aD g j) u).ownsRow base e sz v n (xs.set j u):=by
 refine⟨by rw[JB];exact h.1,?_⟩;rcases h.2 with⟨rfl,_⟩|⟨g',cap,iw,rfl,hb,hh,hn,hm,hs,ht⟩
 .cases hg
 .cases hg
  refine .inr ⟨g',cap,iw.setIfInBounds j u,rfl,hb,GB.set (show GB w g' e iw from hh) j u,hn,hm,Qf,?_⟩;grind [List.take_set]
def Eo{xs:JK Ql}(h:w.ownsRow base e sz v n xs){g:Nat}(hg:v.ownBlock=O g)(j:Nat):w.frozen? (aD g j)=false:=by
 rcases h.2 with⟨rfl,_⟩|⟨g',cap,iw,rfl,hb,hh,_⟩
 .cases hg
 .cases hg
  exact GB.frozen (show GB w g' e iw from hh) j
def UU{w:U}{g j:Nat}(u:Ql):aB (λb=>b≠g) w (Qn w (aD g j) u):=Xu _ _ _ (λh=>h rfl)
def YJ{m:Nat}(h:w.ownsRow base e 7 v m (ns.flatMap ay.eT))(hi:i<N ns) :
  ∃g cap,v=Z (O (aD g 0)) m cap/\base<=g/\g<M (H w)/\∀j u,j<7->(E ns i nz).eT[j]? = O u->Qo w (aD g (i*7+j))=O u:=by
 have d:N ns=m:=by have:=h.1;rw[pO ay.eT 7 (λ_=>rfl)]at this;omega
 rcases XP h with⟨_,h1⟩|⟨g,cap,hv,hb,aT,hc⟩
 .omega
 .exact⟨g,cap,hv,hb,aT,λj u a b=>hc _ _ (by rw[XO ay.eT 7 (λ_=>rfl) nz ns i j hi a];exact b)⟩
def eZ(nv:JK ay):JK aA:=nv.flatMap λx=>[x.cl,x.co]
def ado(nv:JK ay):N (eZ nv)=2*N nv:=by
 unfold eZ
 induction nv with
 |nil=>rfl
 |cons x l ih=>rw[Zr,Zt,ih];simp;omega
def Nl:∀{nv:JK ay} {i:Nat},i<N nv->E (eZ nv) (2*i) ⟨Qr,0,[]⟩=(E nv i nz).cl/\E (eZ nv) (2*i+1) ⟨Qr,0,[]⟩=(E nv i nz).co
 |x::l,0,_=>⟨rfl,rfl⟩
 |x::l,i+1,h=>by have:=Nl (nv:=l) (i:=i) (by simpa using h);exact this
def Nn(a b:JK ay):eZ (a++b)=eZ a++eZ b:=ZW
def YK(k:Nat)(l:JK ay):eZ (l.map (dO k))=eZ l:=by unfold eZ;rw[List.flatMap_map];rfl
def Apt(x y:aA):Prop:=∀b,x.val.ownBlock=O b->y.val.ownBlock≠O b
structure oV(Tn Ti:TypeId)(base:Nat)(w:U)(v:Ql)(nv:JK ay):Prop where
 own:w.ownsRow base Tn 7 v (N nv) (nv.flatMap ay.eT)
 lists:∀x∈eZ nv,w.ownsRow base Ti 1 x.val (N x.xs) (x.xs.map (Value.int J))/\N x.xs<=1000
 apart:(eZ nv).Pairwise Apt
def oV.fu{Tn Ti:TypeId}{nv:JK ay}(h:oV Tn Ti base w v nv)(hk:aB s w w')(hs:∀b,base<=b->b<M (H w)->(∃f,GB w b Tn f∨GB w b Ti f)->s b):oV Tn Ti base w' v nv:=
 ⟨Xw h.own hk λg a=>by
  obtain⟨c,e⟩:=Jp h.own a;exact hs g (Xy h.own a).1 (Xy h.own a).2 ⟨c,.inl e⟩,λx d=>⟨Xw (h.lists x d).1 hk λg a=>by
  obtain⟨c,e⟩:=Jp (h.lists x d).1 a;exact hs g (Xy (h.lists x d).1 a).1 (Xy (h.lists x d).1 a).2 ⟨c,.inr e⟩,(h.lists x d).2⟩,h.apart⟩
theorem oV.aj{Tn Ti:TypeId}{base:Nat}{w w':U}{v:Ql}{nv:JK ay}(h:oV Tn Ti base w v nv)(hb:Bw w w'):oV Tn Ti base w' v nv:=h.fu (Xk (s:=λ_=>True) hb λ_ h _=>h) λ_ _ _ _=>trivial
def mM(Tn Ti:TypeId)(base:Nat)(w:U)(ns:JK ay)(e:Ending)(w':U):Prop:=
 ∃v nv,e=Qu v/\nv.map fA=ns/\oV Tn Ti base w' v nv/\Bw w w'
def mZ(a:Nat)(ns:JK ay)(k:Nat):JK ay:=(ns.take k).map (dO a)++ns.drop k
theorem YL(a:Nat)(ns:JK ay)(k:Nat):N (mZ a ns k)=N ns:=by grind [mZ]
theorem YM(a:Nat)(hk:k<N ns):E (mZ a ns k) k nz=E ns k nz:=by unfold mZ;grind
theorem UW(a:Nat)(hk:k<N ns):mZ a ns (k+1)=(mZ a ns k).set k (dO a (E ns k nz)):=by
 unfold mZ;have b:N ((ns.take k).map (dO a))=k:=Qb;have d:ns.drop k=E ns k nz::ns.drop (k+1):=by simp_all
 rw[Jz _ _ X,b,Nat.sub_self,d,QY,Jt ns nz hk,Q7,Jj];rfl
def alc(l:List α)(d:α)(hk:k<N l):l.set k (E l k d)=l:=by simp_all
def UX(a:Nat)(ns:JK ay):mZ a ns 0=ns:=Qh
theorem YN(a:Nat)(ns:JK ay):mZ a ns (N ns)=ns.map (dO a):=by grind [mZ]
def JC:=@UU
def axy(hx:aB s W x)(b o:Nat)(hs:s b)(h:(Qo W (aD b o)).isSome=T):Qo x (aD b o)=Qo W (aD b o):=by obtain⟨v,a⟩:=ZJ.1 h;rw[Xr (hx.block b (kX a) hs)]
def wk(_:xB i)(hS:aB s W w)(h:wpAnyH P md ops Q (λx=>aB s W x) fuel (aW.setIfInBounds i true) (a.put (some k) v) w)(hi:ops[i]? = some oi:=by exact rfl)(hk:oi.dst=some k:=by exact rfl)(hs:Region.noSelect ops=true:=by kernel_rfl)(hf:Region.free md ops aW i=true:=by kernel_rfl)(hr:(Region.ready md ops aW).contains i=true:=by kernel_rfl)(hQ:∀c a w,Q (.panic c) (a.put oi.dst v) w->Q (.panic c) a w:=by first|exact λ_ _ _ h=>h|exact λ_ _ _ h=>by cases h.1)(hg:Region.wanted oi (yielded ops a.tmps)=true:=by rfl)(hy:∀x,aB s W x->(execOp a.eval oi).run P x=.ok (.value v) x:=by intro x hx;have hc:=axy hx;go_simp;first|done|(refine aoD ?_ rfl;omega)|(refine aoE ?_ rfl;omega)|rfl):wpAnyH P md ops Q (λx=>aB s W x) (fuel+1) aW a w:=
 QW hi hs hf hr hQ (.inl ⟨hg,hy⟩) hS (by rw[hk];exact h)
def wK1{P Q:Prop}(i:Nat)(s:C)(k:Q)(h:xB i->C->Wq Q->P:=by
  intro a b d;refine wk a b ?_;try simp only[pU]
  exact d.o):P:=h trivial s k
def wK2{P Q:Prop}(i:Nat)(s:C)(k:Q)(h:xB i->C->Wq Q->P:=by
  intro a b d;refine wk a b ?_;refine wk a.s b ?_;try simp only[pU]
  exact d.o):P:=h trivial s k
def wK3{P Q:Prop}(i:Nat)(s:C)(k:Q)(h:xB i->C->Wq Q->P:=by
  intro a b d;refine wk a b ?_;refine wk a.s b ?_;refine wk a.s.s b ?_;try simp only[pU]
  exact d.o):P:=h trivial s k
def wK4{P Q:Prop}(i:Nat)(s:C)(k:Q)(h:xB i->C->Wq Q->P:=by
  intro a b d;refine wk a b ?_;refine wk a.s b ?_;refine wk a.s.s b ?_;refine wk a.s.s.s b ?_;try simp only[pU]
  exact d.o):P:=h trivial s k
def wK6{P Q:Prop}(i:Nat)(s:C)(k:Q)(h:xB i->C->Wq Q->P:=by
  intro a b d;refine wk a b ?_;refine wk a.s b ?_;refine wk a.s.s b ?_;refine wk a.s.s.s b ?_;refine wk a.s.s.s.s b ?_;refine wk a.s.s.s.s.s b ?_;try simp only[pU]
  exact d.o):P:=h trivial s k
def wx(_:xB i)(hS:S w)(h:wpAnyH P md ops Q S fuel (aW.setIfInBounds i true) (a.put (some k) v) w)(hi:ops[i]? = some oi:=by exact rfl)(hk:oi.dst=some k:=by exact rfl)(hs:Region.noSelect ops=true:=by kernel_rfl)(hf:Region.free md ops aW i=true:=by kernel_rfl)(hr:(Region.ready md ops aW).contains i=true:=by kernel_rfl)(hQ:∀c a w,Q (.panic c) (a.put oi.dst v) w->Q (.panic c) a w:=by first|exact λ_ _ _ h=>h|exact λ_ _ _ h=>by cases h.1)(hg:Region.wanted oi (yielded ops a.tmps)=true:=by rfl)(hy:∀x,(execOp a.eval oi).run P x=.ok (.value v) x:=by intro x;go_simp;first|done|rfl):wpAnyH P md ops Q S (fuel+1) aW a w:=
 QW hi hs hf hr hQ (.inl ⟨hg,λx _=>hy x⟩) hS (by rw[hk];exact h)
def wX1{P Q:Prop}(i:Nat)(s:C)(k:Q)(h:xB i->C->Wq Q->P:=by
  intro a b d;refine wx a b ?_;try simp only[pU]
  exact d.o):P:=h trivial s k
def wX2{P Q:Prop}(i:Nat)(s:C)(k:Q)(h:xB i->C->Wq Q->P:=by
  intro a b d;refine wx a b ?_;refine wx a.s b ?_;try simp only[pU]
  exact d.o):P:=h trivial s k
def wX3{P Q:Prop}(i:Nat)(s:C)(k:Q)(h:xB i->C->Wq Q->P:=by
  intro a b d;refine wx a b ?_;refine wx a.s b ?_;refine wx a.s.s b ?_;try simp only[pU]
  exact d.o):P:=h trivial s k
def wX4{P Q:Prop}(i:Nat)(s:C)(k:Q)(h:xB i->C->Wq Q->P:=by
  intro a b d;refine wx a b ?_;refine wx a.s b ?_;refine wx a.s.s b ?_;refine wx a.s.s.s b ?_;try simp only[pU]
  exact d.o):P:=h trivial s k
def wHk{id:Nat}(w:World)(s:Pm)(h:aB s w w.drew->wpAnyH P .any ops Q (λx=>aB s w x) ops.size (Array.replicate ops.size false) a w.drew)(hm:P.follows .mixedOrders=true:=by kernel_rfl):(Code.region id ops true).wp P Q a w:=
 ZI hm (Xk ((Za _ _).drew) λ_ h _=>h) h
def oKs{Xq K':Act->U->Prop}(hK:Shut (∀a w,aB s W w->(aB s W w->Xq a w)->K' a w))(hS:aB s W w)(hb:Bw w w')(h:aB s W w'->Xq a w'):K' a w':=hK.o _ _ (hS.trans (Xk hb λ_ h _=>h)) h
def F13(b:Nat)(v0 v1 v2 v3 v4 v5 v6 v7 v8 v9 fO fP fQ:Ql)(x:U):Prop:=Qo x (aD b 0)=O v0/\Qo x (aD b 1)=O v1/\Qo x (aD b 2)=O v2/\Qo x (aD b 3)=O v3/\Qo x (aD b 4)=O v4/\Qo x (aD b 5)=O v5/\Qo x (aD b 6)=O v6/\Qo x (aD b 7)=O v7/\Qo x (aD b 8)=O v8/\Qo x (aD b 9)=O v9/\Qo x (aD b 10)=O fO/\Qo x (aD b 11)=O fP/\Qo x (aD b 12)=O fQ
def wy(_:xB i)(hS:S w)(h:wpAnyH P md ops Q S fuel (aW.setIfInBounds i true) (a.put (some k) v) w)(hi:ops[i]? = some oi:=by exact rfl)(hk:oi.dst=some k:=by exact rfl)(hs:Region.noSelect ops=true:=by kernel_rfl)(hf:Region.free md ops aW i=true:=by kernel_rfl)(hr:(Region.ready md ops aW).contains i=true:=by kernel_rfl)(hQ:∀c a w,Q (.panic c) (a.put oi.dst v) w->Q (.panic c) a w:=by first|exact λ_ _ _ h=>h|exact λ_ _ _ h=>by cases h.1)(hg:Region.wanted oi (yielded ops a.tmps)=true:=by rfl)(hy:∀x,S x->(execOp a.eval oi).run P x=.ok (.value v) x:=by intro x hx;try simp only[F13]at hx;go_simp;first|done|rfl):wpAnyH P md ops Q S (fuel+1) aW a w:=
 QW hi hs hf hr hQ (.inl ⟨hg,hy⟩) hS (by rw[hk];exact h)
