import Derived.Test.YtkfenjgalicikaaGreatDoorS01
set_option linter.all false
set_option maxRecDepth 100000
set_option maxHeartbeats 0
namespace Go.Proofs.Zz
open Go.RowKit Go.Shelf Go.Proofs.Tryz
open List renaming length->N,getD->E
open Go.Value renaming slice->Z,int->I,bool->Qq,agg->Qt
open Go.Proofs.Tryz renaming prog->V
open Option renaming some->O,none->Qr
open Go.IntKind renaming i64->J,u64->Qp
open Bool renaming false->F,true->T
open Go renaming World->U,Value->Ql
open Go.World renaming heap->H,cell?->Qo
open _root_.Array renaming size->M
open Go.RowKit renaming Hid->Qm
open Go.Obj renaming cells->Qs
open Go.Ending renaming returned->Qu
variable {fn:Func} {C P Q p:Prop} {e ty:TypeId} {W w:U} {v:Ql} {base fuel i k n:Nat} {au xs ys:IC} {cs:JK aV} {ops:Array Oper} {md:Region.Mode} {aW:Array Bool} {a:Act} {oi:Oper} {ao:LM} {ts:JK af}
def Pz{p:Tmp}(h:fn.results=#[.cell p ty])(tmps:Array Ql)(P:Program)(w:U) :
  (results fn tmps).run P w=((asAddr (tmps.getD p undef)).run P w).andThen λa b=>(loadVar ty a).run P b:=by simp only[results,h];simp_all
def uV{p:Tmp}(h:fn.results=#[.cell p ty]){tmps:Array Ql}{P:Program}{B:Nat}(hp:tmps.getD p undef=.pointer (O (aD B 0)))(hl:(loadVar ty (aD B 0)).run P w=.ok v w) :
  (results fn tmps).run P w=.ok v w:=by rw[Pz h,hp];simp[go_sem]at hl ⊢;simp[hl]
def agE{α:Type}{l:List α}{d:α}{k:Nat}(hk:k<N l):E l k d∈l:=by simp_all
def XI:=@agE
def wpList_append_run{P:Program}{w:U}{ops:Array Oper}{rest:JK Oper}{o:Oper}{a:Act}{Q:Exit->Act->U->Prop}(hgd:o.guard=Qr)(s x:Operand)(t:TypeId)
  (ho:o.op=.call { callee:=.builtin .append,args:=#[s,x],argTypes:=#[t,t] }) (v u v':Ql) (w':U) (hs:a.eval s=v) (hx:a.eval x=u)
  (hrun:(Builtin.append_ #[t,t] o.type #[v,u]).run P w=.ok v' w') (h:wpList P ops Q rest (a.put o.dst v') w'):wpList P ops Q (o::rest) a w:=by refine wpList_plain hgd λK b=>?_;unfold Oper.wp execOp;simp only[ho,resolve,invoke,builtin,Sem.run_bind,Sem.run_pure,Result.andThen_ok,List.map_toArray,List.map_cons,List.map_nil,hs,hx,hrun];exact b _ _ h
def og{xs:JK Ql}(h:W.ownsRow base e 1 v n xs){b:Nat}(hb:v.ownBlock=O b):∃a,W.heap[b]? = O (Qs a e (0,0)):=by
 rcases h.2 with⟨rfl,_⟩|⟨g,cap,a,rfl,_,h3,_⟩
 .cases hb
 .cases hb
  exact⟨a,h3⟩
theorem pK(W:U)(base:Nat)(v:Ql)(xs:IC)(bG:W.ownsRow base 3 1 v (N xs) (xs.map (Value.int J)))(hl:N xs<=1000000)(hb:base<=M (H W))(x:Int)(ty:TypeId) :
  ∃d f,(Builtin.append_ #[26,26] ty #[v,Z (O (aD (M (H W)) 0)) 1 1]).run V (W.alloc (Qs #[I J x] 3))=.ok d f/\
   f.ownsRow base 3 1 d (N (xs++[x])) ((xs++[x]).map (Value.int J))/\aB (λb=>v.ownBlock≠O b) W f/\(∃a m c,d = Z a m c)/\(d.ownBlock=v.ownBlock∨d.ownBlock=O (M (H W)+1)):=by
 obtain⟨i0,p,g,i,j⟩:=XB Tryz.uN;obtain⟨d,f,k,q,y,_,l⟩:=XL (P:=V) (W.alloc (Qs #[.int J x] 3)) base 26 ty 3 i0 (.int J 0) 1 8 underlying26 p g i j rfl Qc v (N xs) (xs.map (Value.int J)) (bG.alloc _) (aD (M (H W)) 0) 1 1 [.int J x] rfl
  (World.news_of_block (cs:=#[I J x]) (t:=3) (fr:=(0,0)) (qj W _)) (λu n=>by rw[XH]at n;rw[n];rfl) Qg X (by rw[XM];omega)
 refine⟨d,f,k,Qb,(Xo _ _).trans (Xv y (λr e k=>k e)),Xz q,by rw[XM]at l;exact l⟩
def XJ:=@wpList_append_run
theorem agS{c:aV}{n:Int}(h:c.left<0∨n<=c.left∨c.op<0∨2<c.op):F=jW c n:=by unfold jW;grind
def agT{c:aV}{n:Int}(h:¬(c.left<0∨n<=c.left∨c.op<0∨2<c.op))(h2:c.op=2):(!c.const&&decide (c.right=0))=jW c n:=by unfold jW;simp_all
def WX{c:aV}{n:Int}(h:¬(c.left<0∨n<=c.left∨c.op<0∨2<c.op))(h2:¬c.op=2)(h3:c.const=T):(decide (-1000<=c.right)&&decide (c.right<=1000))=jW c n:=by unfold jW;simp_all
def acG{c:aV}{n:Int}(h:¬(c.left<0∨n<=c.left∨c.op<0∨2<c.op))(h2:¬c.op=2)(h3:c.const=F):(decide (0<=c.right)&&decide (c.right<=n-1))=jW c n:=by unfold jW;simp_all
def acH(c:aV)(n:Int)(w:U)(hn:0<=n)(LP:n<=1000) :
  Cb 59 #[c.val,I J n] w (Qq (jW c n)):=by
 have b:=@agS c n;have k:=@agT c n;have a:=@WX c n;have l:=@acG c n;obtain⟨t,g,left,d,right⟩:=c;unfold aV.val;simp only at b k a l;generalize jW ⟨t,g,left,d,right⟩ n=B at*;by_cases i:left<0∨n<=left∨g<0∨2<g
 .have f:=Zh (b i);clear b k a l;go_enter func59,ntmps59;go_wp2
  all_goals
   go_ret;exact⟨QZ f.o,(Za _ _).alloc (Zb _) _⟩
 .have v:0<=left:=X
  have y:left<n:=X;have l3:0<=g:=X;have l4:g<=2:=X;by_cases j:g=2
  .have f:Qm ((!d&&decide (right=0))=B):=k i j;clear b k a l i;subst j
   cases d
   .by_cases p:right=0
    .subst p;go_enter func59,ntmps59;go_wp2;go_ret;exact⟨QZ f.o,(Za _ _).alloc (Zb _) _⟩
    .have q:(right==0)=false:=by simpa using p
     have m:=Zh (show F=B by have:=f.o;simpa [p] using this);clear f;go_enter func59,ntmps59;go_wp2;go_ret;exact⟨QZ m.o,(Za _ _).alloc (Zb _) _⟩
   .go_enter func59,ntmps59;go_wp2;go_ret;exact⟨QZ f.o,(Za _ _).alloc (Zb _) _⟩
  .have r:(g==2)=false:=by simpa using j
   cases d
   .have f:Qm ((decide (0<=right)&&decide (right<=n-1))=B):=l i j rfl;clear b k a l i j;go_enter func59,ntmps59;go_wp2_with (go_at_call 97;refine(WW _ _ _ _).mono ?_;rintro e u ⟨rfl,rfl⟩);go_ret;exact⟨QZ f.o,(Za _ _).alloc (Zb _) _⟩
   .have f:Qm ((decide (-1000<=right)&&decide (right<=1000))=B):=a i j rfl;clear b k a l i j;go_enter func59,ntmps59;go_wp2_with (go_at_call 97;refine(WW _ _ _ _).mono ?_;rintro e u ⟨rfl,rfl⟩);go_ret;exact⟨QZ f.o,(Za _ _).alloc (Zb _) _⟩
def aoK(q:ae)(w:U)(h1:N q.aC.xs<=1000)(h2:N q.aM.xs<=1000) :
  Cb 60 #[Qt q.cells] w (I J (xA q.aF q.aC.xs q.aM.xs q.bA.xs)):=by
 obtain⟨a,b,d,e,aF,f,g,i,ord⟩:=q;simp only at h1 h2;unfold ae.cells aA.val;cases aF
 .go_enter func60,ntmps60;go_wp2;go_ret;exact⟨Q0 rfl,(Za _ _).alloc (Zb _) _⟩
 .go_enter func60,ntmps60;go_wp2;go_ret;exact⟨Q0 rfl,(Za _ _).alloc (Zb _) _⟩
def kT(w:U)(ao:LM)(xs:JK Nat):Prop:=
 N xs<=1000/\dC w ao (N xs) (λi=>I Qp ((E xs i 0:Nat):Int))
def kT.get{w:U}{ao:LM}{xs:JK Nat}(h:kT w ao xs){i:Nat}(hi:i<N xs) :
  ∃b off,ao=O (aD b off)/\∀j,j<N xs->Qo w (aD b (off+j))=O (I Qp ((E xs j 0:Nat):Int)):=
 Q3 h.2 hi
theorem kT.aj{w w':U}(hb:Bw w w'){ao:LM}{xs:JK Nat}(h:kT w ao xs):kT w' ao xs:=⟨h.1,h.2.aj hb⟩
def oQ(w:U)(ao:LM)(cs:JK (Nat × Int)):Prop:=
 N cs<=1000/\∀i,i<N cs->∃b off,ao=O (aD b off)/\
  Qo w (aD b (off+i*2))=O (I J ((E cs i (0,0)).1:Nat))/\Qo w (aD b (off+i*2+1))=O (I Qp (E cs i (0,0)).2)
theorem oQ.aj{w w':U}(hb:Bw w w'){ao:LM}{cs:JK (Nat × Int)}(h:oQ w ao cs):oQ w' ao cs:=⟨h.1,λi a=>by
 obtain⟨b,off,e,c0,d⟩:=h.2 i a;grind [cB]⟩
structure bC where
 ca:LM
 cc:Nat
 ra:LM
 rc:Nat
 na:LM
 nl:Nat
 nc:Nat
 pa:LM
 pl:Nat
 pc:Nat
def qZ(ts:JK af)(q:ae):JK (Nat × Int):=fV ts q.au.xs (N q.au.xs)
def I7(ts:JK af)(q:ae):JK Nat:=(List.range (N q.au.xs)).map λ(k:Nat)=>jZ ts q.au.xs (k:Int)
def bE(ts:JK af)(q:ae):JK Nat:=q.wh.map λc=>bn (iO ts q.au.xs c.cs)
def Dt(ts:JK af)(q:ae):JK Nat:=q.wh.map λc=>fJ ts q.au.xs c.cs
def bC.cells(f:bC)(ts:JK af)(q:ae):Array Value:=
 #[q.au.val,Z q.iF (N q.wh) q.cZ,Qq q.aF,q.aC.val,q.aM.val,q.bA.val,q.ord.val,Z f.ca (N (qZ ts q)) f.cc,I Qp ((2 ^ (N q.au.xs)-1:Nat):Int),I Qp ((2 ^ (N q.wh)-1:Nat):Int),
  Z f.ra (N q.au.xs) f.rc,Z f.na f.nl f.nc,Z f.pa f.pl f.pc]
structure bC.At(f:bC)(ts:JK af)(q:ae)(w:U):Prop where
 qC:q.At w
 bU:oQ w f.ca (qZ ts q)
 rows:kT w f.ra (I7 ts q)
 conc:kT w f.na (bE ts q)
 parts:kT w f.pa (Dt ts q)
 nl:f.nl=N q.wh
 pl:f.pl=N q.wh
theorem bC.At.aj{w w':U}(hb:Bw w w'){f:bC}{ts:JK af}{q:ae}(h:f.At ts q w):f.At ts q w':=
 ⟨h.qC.aj hb,h.bU.aj hb,h.rows.aj hb,h.conc.aj hb,h.parts.aj hb,h.nl,h.pl⟩
def agF(ts:JK af)(q:ae):N (I7 ts q)=N q.au.xs:=by unfold I7;simp
def agG(ts:JK af)(q:ae):N (bE ts q)=N q.wh:=by unfold bE;simp
def RP(ts:JK af)(q:ae):N (Dt ts q)=N q.wh:=by unfold Dt;simp
def RQ(ts:JK af)(q:ae)(hk:k<N q.au.xs):E (I7 ts q) k 0=jZ ts q.au.xs (k:Int):=by unfold I7;simp_all
def RU(ts:JK af)(q:ae)(hk:k<N q.wh):E (bE ts q) k 0=bn (iO ts q.au.xs (E q.wh k lz).cs):=by unfold bE;simp_all
def He(ts:JK af)(q:ae)(hk:k<N q.wh):E (Dt ts q) k 0=fJ ts q.au.xs (E q.wh k lz).cs:=by unfold Dt;simp_all
structure eQ where
 kind:Int
 ah:Nat
 aG:Nat
 aH:aA
 size:Nat
 aJ:Nat
def jm:eQ:=⟨0,0,0,⟨Qr,0,[]⟩,0,0⟩
def eQ.cells(p:eQ):Array Value:=#[I J p.kind,I Qp (p.ah:Int),I Qp (p.aG:Int),p.aH.val,I Qp (p.size:Int),I Qp (p.aJ:Int)]
def eQ.eT(p:eQ):JK Value:=[I J p.kind,I Qp (p.ah:Int),I Qp (p.aG:Int),p.aH.val,I Qp (p.size:Int),I Qp (p.aJ:Int)]
def eQ.d(p:eQ):dG:=⟨p.kind,p.ah,p.aG,p.aH.xs,p.size,p.aJ⟩
structure eQ.Ok(p:eQ)(w:U):Prop where
 aH:p.aH.At w
 cap:N p.aH.xs<=p.aH.cap
 ah:p.ah<=bO
 aG:p.aG<=bO
 size:p.size<=bO
 aJ:p.aJ<=bO
theorem eQ.Ok.aj{w w':U}(hb:Bw w w'){p:eQ}(h:p.Ok w):p.Ok w':=⟨Zc hb h.aH,h.cap,h.ah,h.aG,h.size,h.aJ⟩
def p9(w:U)(ao:LM)(ps:JK eQ):Prop:=
 N ps<=1000/\∀i,i<N ps->(∃b off,ao=O (aD b off)/\
  Qo w (aD b (off+i*6))=O (I J (E ps i jm).kind)/\Qo w (aD b (off+i*6+1))=O (I Qp ((E ps i jm).ah:Int))/\
  Qo w (aD b (off+i*6+2))=O (I Qp ((E ps i jm).aG:Int))/\Qo w (aD b (off+i*6+3))=O (E ps i jm).aH.val/\
  Qo w (aD b (off+i*6+4))=O (I Qp ((E ps i jm).size:Int))/\Qo w (aD b (off+i*6+5))=O (I Qp ((E ps i jm).aJ:Int)))/\(E ps i jm).Ok w
theorem p9.aj{w w':U}(hb:Bw w w'){ao:LM}{ps:JK eQ}(h:p9 w ao ps):p9 w' ao ps:=⟨h.1,λi f=>by
 obtain⟨⟨b,off,e,c0,a,c2,c3,c4,c5⟩,d⟩:=h.2 i f;exact⟨⟨b,off,e,cB hb c0,cB hb a,cB hb c2,cB hb c3,cB hb c4,cB hb c5⟩,d.aj hb⟩⟩
theorem pM{α:Type}(f:α->JK Ql)(k:Nat)(hk:∀a,N (f a)=k)(d:α):∀(l:List α) (i j:Nat),i<N l->j<k->(l.flatMap f)[i*k+j]? = (f (E l i d))[j]?
 |[],i,j,h,_=>absurd h Qa
 |a::l,0,j,_,hj=>by grind
 |a::l,i+1,j,h,hj=>by have e:(i+1)*k+j=N (f a)+(i*k+j):=Qb;rw[Zr,e,Zw (Nat.le_add_right _ _),Nat.add_sub_cancel_left,pM f k hk d l i j (by simpa using h) hj];rfl
def pO{α:Type}(f:α->JK Ql)(k:Nat)(hk:∀a,N (f a)=k):∀l:List α,N (l.flatMap f)=N l*k
 |[]=>Qa
 |a::l=>by rw[Zr,Zt,hk,pO f k hk l,Zu,Nat.succ_mul];omega
def Cu{w:U}{base:Nat}{e:TypeId}{size:Nat}{v:Ql}{n:Nat}{xs:JK Ql}(h:w.ownsRow base e size v n xs) :
  (v=Z Qr 0 0/\n=0)∨∃g cap,v=Z (O (aD g 0)) n cap/\base<=g/\g<M (H w)/\∀j u,xs[j]? = O u->Qo w (aD g j)=O u:=by
 rcases h.2 with⟨rfl,h1⟩|⟨g,cap,iw,rfl,hb,hh,_,_,_,ht⟩
 .simp_all
 .refine .inr ⟨g,cap,rfl,hb,(Xx.1 hh).1,λj u a=>?_⟩;rw[<-ht,XQ]at a;split at a
  .simp only[World.cell?,hh]
   simp_all
  .cases a
theorem xL{xs:JK Nat}(h:w.ownsRow base e 1 v n (xs.map λ(x:Nat)=>I Qp (x:Int)))(hl:N xs<=1000):∃a cap,v=Z a (N xs) cap/\kT w a xs:=by
 have b:N xs=n:=by have:=h.1;simp_all
 rcases Cu h with⟨rfl,h0⟩|⟨g,cap,rfl,_,_,hc⟩
 .grind [kT,dC]
 .refine⟨O (aD g 0),cap,by rw[b],⟨hl,λi d=>⟨g,0,rfl,?_⟩⟩⟩
  simp_all
def mV(c:Nat × Int):JK Value:=[I J (c.1:Int),I Qp c.2]
theorem MF{cs:JK (Nat × Int)}(h:w.ownsRow base e 2 v n (cs.flatMap mV))(hl:N cs<=1000):∃f cap,v=Z f (N cs) cap/\oQ w f cs:=by
 have b:∀a,N (mV a)=2:=λ_=>rfl;have j:N cs=n:=by have:=h.1;rw[pO mV 2 b]at this;omega
 rcases Cu h with⟨rfl,h0⟩|⟨g,cap,rfl,_,_,hc⟩
 .grind [oQ]
 .refine⟨O (aD g 0),cap,by rw[j],⟨hl,λi d=>⟨g,0,rfl,?_,?_⟩⟩⟩
  .rw[ZT];exact hc (i*2) _ (by have:=pM mV 2 b (0,0) cs i 0 d X;rw[Xg]at this;rw[this];rfl)
  .rw[ZT];exact hc (i*2+1) _ (by rw[pM mV 2 b (0,0) cs i 1 d X];rfl)
def agH{ps:JK eQ}(h:w.ownsRow base e 6 v n (ps.flatMap eQ.eT))(hl:N ps<=1000)(hp:∀i,i<N ps->(E ps i jm).Ok w):∃f cap,v=Z f (N ps) cap/\p9 w f ps:=by
 have d:∀a:eQ,N a.eT=6:=λ_=>rfl;have j:N ps=n:=by have:=h.1;rw[pO eQ.eT 6 d]at this;omega
 rcases Cu h with⟨rfl,h0⟩|⟨g,cap,rfl,_,_,hc⟩
 .have:ps=[]:=Zo X;subst this;exact⟨Qr,0,rfl,⟨Qa,λi b=>absurd b Qa⟩⟩
 .refine⟨O (aD g 0),cap,by rw[j],⟨hl,λi b=>⟨⟨g,0,rfl,?_,?_,?_,?_,?_,?_⟩,hp i b⟩⟩⟩ <;> rw[ZT]
  .exact hc (i*6) _ (by have:=pM eQ.eT 6 d jm ps i 0 b X;rw[Xg]at this;rw[this];rfl)
  .exact hc (i*6+1) _ (by rw[pM eQ.eT 6 d jm ps i 1 b X];rfl)
  .exact hc (i*6+2) _ (by rw[pM eQ.eT 6 d jm ps i 2 b X];rfl)
  .exact hc (i*6+3) _ (by rw[pM eQ.eT 6 d jm ps i 3 b X];rfl)
  .exact hc (i*6+4) _ (by rw[pM eQ.eT 6 d jm ps i 4 b X];rfl)
  .exact hc (i*6+5) _ (by rw[pM eQ.eT 6 d jm ps i 5 b X];rfl)
theorem lg{P:Program}(W:U)(base:Nat)(t ty e:TypeId)(i:TypeInfo)(z:Ql)(size bytes:Nat)(ht:P.underlying t=O (.slice e))(hi:P.info? e=O i)(hz:i.zero=O z)(I8:i.size=size)(hby:i.bytes=bytes)(hzs:z.cells.size=size)(ni:0<size)
  (v:Ql) (n:Nat) (xs:JK Ql) (bG:W.ownsRow base e size v n xs) (hb:base<=M (H W)) (kz:JK Ql) (hl:N kz=size) (h1:∀u∈kz,u.oneCell' = T) (hn:n<=1000) (hbb:bytes<=1000) :
  ∃d f,(Builtin.append_ #[t,t] ty #[v,Z (O (aD (M (H W)) 0)) 1 1]).run P (W.alloc (Qs kz.toArray e))=.ok d f/\f.ownsRow base e size d (n+1) (xs++kz)/\aB (λb=>v.ownBlock≠O b) W f/\(∃a m c,d = Z a m c)/\(d.ownBlock=v.ownBlock∨d.ownBlock=O (M (H W)+1)):=by
 obtain⟨d,f,g,k,l,_,p⟩:=XL (P:=P) (W.alloc (Qs kz.toArray e)) base t ty e i z size bytes ht hi hz I8 hby hzs ni v n xs (bG.alloc _) (aD (M (H W)) 0) 1 1 kz X
  (λj u q=>by
   rw[Zn,ZT];simp_all) h1 (by grind [maxLen]) (by have:(n+1)*bytes<=1001*1000:=Nat.mul_le_mul X hbb;omega) (by rw[XM];omega)
 exact⟨d,f,g,k,(Xo _ _).trans (Xv l (λr e g=>g e)),Xz k,Qf⟩
def XN:=@agG
def XO:=@pM
def XP:=@Cu
def akm{x:U}(hx:Bw W x)(b o:Nat)(h:(Qo W (aD b o)).isSome=T):Qo x (aD b o)=Qo W (aD b o):=by obtain⟨v,a⟩:=ZJ.1 h;rw[a,cB hx a]
def Wq(p:Prop):Prop:=p
def Wq.o(h:Wq p):p:=h
def aoD [Decidable p] (h:¬p) (k:Value.bool F=v):Value.bool (decide p)=v:=by rw[ZK h];exact k
def aoE [Decidable p] (h:p) (k:Value.bool T=v):Value.bool (decide p)=v:=by rw[Zl h];exact k
def xB(_:Nat):Prop:=True
def xB.s(_:xB i):xB (i+1):=trivial
def wa{P:Program}{Q:Exit->Act->World->Prop}(_:xB i)(hS:Bw W w)(h:wpAnyH P md ops Q (λx=>Bw W x) fuel (aW.setIfInBounds i true) (a.put (some k) v) w)(hi:ops[i]? = some oi:=by exact rfl)(hk:oi.dst=some k:=by exact rfl)(hs:Region.noSelect ops=true:=by kernel_rfl)(hf:Region.free md ops aW i=true:=by kernel_rfl)(hr:(Region.ready md ops aW).contains i=true:=by kernel_rfl)(hQ:∀c a w,Q (.panic c) (a.put oi.dst v) w->Q (.panic c) a w:=by first|exact λ_ _ _ h=>h|exact λ_ _ _ h=>by cases h.1)(hg:Region.wanted oi (yielded ops a.tmps)=true:=by rfl)(hy:∀x,Bw W x->(execOp a.eval oi).run P x=.ok (.value v) x:=by intro x hx;have hc:=akm hx;go_simp;first|done|(refine aoD ?_ rfl;omega)|(refine aoE ?_ rfl;omega)|rfl):wpAnyH P md ops Q (λx=>Bw W x) (fuel+1) aW a w:=
 QW hi hs hf hr hQ (.inl ⟨hg,hy⟩) hS (by rw[hk];exact h)
def wb{P:Program}{Q:Exit->Act->World->Prop}(_:xB i)(hS:Bw W w)(h:wpAnyH P md ops Q (λx=>Bw W x) fuel (aW.setIfInBounds i true) (a.put (some k) v) w)(hi:ops[i]? = some oi:=by exact rfl)(hk:oi.dst=some k:=by exact rfl)(hs:Region.noSelect ops=true:=by kernel_rfl)(hf:Region.free md ops aW i=true:=by kernel_rfl)(hr:(Region.ready md ops aW).contains i=true:=by kernel_rfl)(hQ:∀c a w,Q (.panic c) (a.put oi.dst v) w->Q (.panic c) a w:=by first|exact λ_ _ _ h=>h|exact λ_ _ _ h=>by cases h.1)(hg:Region.wanted oi (yielded ops a.tmps)=true:=by kernel_rfl)(hy:∀x,Bw W x->(execOp a.eval oi).run P x=.ok (.value v) x:=by intro x hx;have hc:=akm hx;go_simp;first|done|(refine aoD ?_ rfl;omega)|(refine aoE ?_ rfl;omega)|rfl):wpAnyH P md ops Q (λx=>Bw W x) (fuel+1) aW a w:=
 QW hi hs hf hr hQ (.inl ⟨hg,hy⟩) hS (by rw[hk];exact h)
def wu{P:Program}{Q:Exit->Act->World->Prop}{S:World->Prop}(_:xB i)(hS:S w)(h:wpAnyH P md ops Q S fuel (aW.setIfInBounds i true) (a.put (some k) undef) w)(hi:ops[i]? = some oi:=by exact rfl)(hk:oi.dst=some k:=by exact rfl)(hs:Region.noSelect ops=true:=by kernel_rfl)(hf:Region.free md ops aW i=true:=by kernel_rfl)(hr:(Region.ready md ops aW).contains i=true:=by kernel_rfl)(hQ:∀c a w,Q (.panic c) (a.put oi.dst undef) w->Q (.panic c) a w:=by first|exact λ_ _ _ h=>h|exact λ_ _ _ h=>by cases h.1)(hg:Region.wanted oi (yielded ops a.tmps)=false:=by kernel_rfl):wpAnyH P md ops Q S (fuel+1) aW a w:=
 QW hi hs hf hr hQ (.inr ⟨hg,rfl⟩) hS (by rw[hk];exact h)
def rR(i:Nat)(s:C)(k:Q)(h:xB i->C->Wq Q->P:=by
  intro a b d;refine wa a b ?_;try simp only[pU]
  exact d.o):P:=h trivial s k
def Co(i:Nat)(s:C)(k:Q)(h:xB i->C->Wq Q->P:=by
  intro a b d;refine wa a b ?_;refine wa a.s b ?_;try simp only[pU]
  exact d.o):P:=h trivial s k
def wA3(i:Nat)(s:C)(k:Q)(h:xB i->C->Wq Q->P:=by
  intro a b d;refine wa a b ?_;refine wa a.s b ?_;refine wa a.s.s b ?_;try simp only[pU]
  exact d.o):P:=h trivial s k
def IU(i:Nat)(s:C)(k:Q)(h:xB i->C->Wq Q->P:=by
  intro a b d;refine wa a b ?_;refine wa a.s b ?_;refine wa a.s.s b ?_;refine wa a.s.s.s b ?_;try simp only[pU]
  exact d.o):P:=h trivial s k
def wA5(i:Nat)(s:C)(k:Q)(h:xB i->C->Wq Q->P:=by
  intro a b d;refine wa a b ?_;refine wa a.s b ?_;refine wa a.s.s b ?_;refine wa a.s.s.s b ?_;refine wa a.s.s.s.s b ?_;try simp only[pU]
  exact d.o):P:=h trivial s k
def wA6(i:Nat)(s:C)(k:Q)(h:xB i->C->Wq Q->P:=by
  intro a b d;refine wa a b ?_;refine wa a.s b ?_;refine wa a.s.s b ?_;refine wa a.s.s.s b ?_;refine wa a.s.s.s.s b ?_;refine wa a.s.s.s.s.s b ?_;try simp only[pU]
  exact d.o):P:=h trivial s k
def wA8(i:Nat)(s:C)(k:Q)(h:xB i->C->Wq Q->P:=by
  intro a b d;refine wa a b ?_;refine wa a.s b ?_;refine wa a.s.s b ?_;refine wa a.s.s.s b ?_;refine wa a.s.s.s.s b ?_;refine wa a.s.s.s.s.s b ?_;refine wa a.s.s.s.s.s.s b ?_;refine wa a.s.s.s.s.s.s.s b ?_;try simp only[pU]
  exact d.o):P:=h trivial s k
def GZ(i:Nat)(s:C)(k:Q)(h:xB i->C->Wq Q->P:=by
  intro a b d;refine wa a b ?_;refine wa a.s b ?_;refine wa a.s.s b ?_;refine wa a.s.s.s b ?_;refine wa a.s.s.s.s b ?_;refine wa a.s.s.s.s.s b ?_;refine wa a.s.s.s.s.s.s b ?_;refine wa a.s.s.s.s.s.s.s b ?_;refine wa a.s.s.s.s.s.s.s.s b ?_;refine wa a.s.s.s.s.s.s.s.s.s b ?_;try simp only[pU]
  exact d.o):P:=h trivial s k
def wB1(i:Nat)(s:C)(k:Q)(h:xB i->C->Wq Q->P:=by
  intro a b d;refine wb a b ?_;try simp only[pU]
  exact d.o):P:=h trivial s k
def wB2(i:Nat)(s:C)(k:Q)(h:xB i->C->Wq Q->P:=by
  intro a b d;refine wb a b ?_;refine wb a.s b ?_;try simp only[pU]
  exact d.o):P:=h trivial s k
def wB3(i:Nat)(s:C)(k:Q)(h:xB i->C->Wq Q->P:=by
  intro a b d;refine wb a b ?_;refine wb a.s b ?_;refine wb a.s.s b ?_;try simp only[pU]
  exact d.o):P:=h trivial s k
def wB4(i:Nat)(s:C)(k:Q)(h:xB i->C->Wq Q->P:=by
  intro a b d;refine wb a b ?_;refine wb a.s b ?_;refine wb a.s.s b ?_;refine wb a.s.s.s b ?_;try simp only[pU]
  exact d.o):P:=h trivial s k
def wB6(i:Nat)(s:C)(k:Q)(h:xB i->C->Wq Q->P:=by
  intro a b d;refine wb a b ?_;refine wb a.s b ?_;refine wb a.s.s b ?_;refine wb a.s.s.s b ?_;refine wb a.s.s.s.s b ?_;refine wb a.s.s.s.s.s b ?_;try simp only[pU]
  exact d.o):P:=h trivial s k
def wB9(i:Nat)(s:C)(k:Q)(h:xB i->C->Wq Q->P:=by
  intro a b d;refine wb a b ?_;refine wb a.s b ?_;refine wb a.s.s b ?_;refine wb a.s.s.s b ?_;refine wb a.s.s.s.s b ?_;refine wb a.s.s.s.s.s b ?_;refine wb a.s.s.s.s.s.s b ?_;refine wb a.s.s.s.s.s.s.s b ?_;refine wb a.s.s.s.s.s.s.s.s b ?_;try simp only[pU]
  exact d.o):P:=h trivial s k
def wS1(i:Nat)(s:C)(k:Q)(h:xB i->C->Wq Q->P:=by
  intro a b d;refine wu a b ?_;try simp only[pU]
  exact d.o):P:=h trivial s k
def wS2(i:Nat)(s:C)(k:Q)(h:xB i->C->Wq Q->P:=by
  intro a b d;refine wu a b ?_;refine wu a.s b ?_;try simp only[pU]
  exact d.o):P:=h trivial s k
def wS3(i:Nat)(s:C)(k:Q)(h:xB i->C->Wq Q->P:=by
  intro a b d;refine wu a b ?_;refine wu a.s b ?_;refine wu a.s.s b ?_;try simp only[pU]
  exact d.o):P:=h trivial s k
def wS4(i:Nat)(s:C)(k:Q)(h:xB i->C->Wq Q->P:=by
  intro a b d;refine wu a b ?_;refine wu a.s b ?_;refine wu a.s.s b ?_;refine wu a.s.s.s b ?_;try simp only[pU]
  exact d.o):P:=h trivial s k
def wS5(i:Nat)(s:C)(k:Q)(h:xB i->C->Wq Q->P:=by
  intro a b d;refine wu a b ?_;refine wu a.s b ?_;refine wu a.s.s b ?_;refine wu a.s.s.s b ?_;refine wu a.s.s.s.s b ?_;try simp only[pU]
  exact d.o):P:=h trivial s k
def wS6(i:Nat)(s:C)(k:Q)(h:xB i->C->Wq Q->P:=by
  intro a b d;refine wu a b ?_;refine wu a.s b ?_;refine wu a.s.s b ?_;refine wu a.s.s.s b ?_;refine wu a.s.s.s.s b ?_;refine wu a.s.s.s.s.s b ?_;try simp only[pU]
  exact d.o):P:=h trivial s k
def wS9(i:Nat)(s:C)(k:Q)(h:xB i->C->Wq Q->P:=by
  intro a b d;refine wu a b ?_;refine wu a.s b ?_;refine wu a.s.s b ?_;refine wu a.s.s.s b ?_;refine wu a.s.s.s.s b ?_;refine wu a.s.s.s.s.s b ?_;refine wu a.s.s.s.s.s.s b ?_;refine wu a.s.s.s.s.s.s.s b ?_;refine wu a.s.s.s.s.s.s.s.s b ?_;try simp only[pU]
  exact d.o):P:=h trivial s k
def qx{p r:Value->Prop}(k:r v)(h:p v:=by intro x hx;have hc:=akm hx;go_simp;first|done|(refine aoD ?_ rfl;omega)|(refine aoE ?_ rfl;omega)|rfl):∃v,p v/\r v:=⟨v,h,k⟩
def KX(k:Q)(h:Wq Q->P:=by
  intro a;go_big_quiet_want;refine qx ?_;simp only[pU];go_big_quiet_on;exact a.o):P:=h k
def qA2(k:Q)(h:Wq Q->P:=by
  intro a;iterate 2
   go_big_quiet_want;refine qx ?_;simp only[pU];go_big_quiet_on
  exact a.o):P:=h k
def qA3(k:Q)(h:Wq Q->P:=by
  intro a;iterate 3
   go_big_quiet_want;refine qx ?_;simp only[pU];go_big_quiet_on
  exact a.o):P:=h k
def qA4(k:Q)(h:Wq Q->P:=by
  intro a;iterate 4
   go_big_quiet_want;refine qx ?_;simp only[pU];go_big_quiet_on
  exact a.o):P:=h k
def qA5(k:Q)(h:Wq Q->P:=by
  intro a;iterate 5
   go_big_quiet_want;refine qx ?_;simp only[pU];go_big_quiet_on
  exact a.o):P:=h k
def qA6(k:Q)(h:Wq Q->P:=by
  intro a;iterate 6
   go_big_quiet_want;refine qx ?_;simp only[pU];go_big_quiet_on
  exact a.o):P:=h k
def asM(k:Q)(h:Wq Q->P:=by
  intro a;iterate 10
   go_big_quiet_want;refine qx ?_;simp only[pU];go_big_quiet_on
  exact a.o):P:=h k
def qK(v:Ql)(c:C)(k:Q)(h:IsV v->C->Q->P:=by
  intro b c d;go_big_quiet_want;refine awS b ⟨λx a=>?_,?_⟩
  .have e:=Calls.Ue a (c x a);go_simp
  .simp only[pU];go_big_quiet_on;exact d):P:=h trivial c k
def qJ{p:Program}{f:Nat}{a:Array Ql}(c:∀x,Bw W x->Calls p f a x λe b=>e=Qu v/\Bw x b)(k:Q)(h:IsV v->(∀x,Bw W x->Calls p f a x λe b=>e=Qu v/\Bw x b)->Q->P:=by
  intro g c i;go_big_quiet_want;refine awS g ⟨λx d=>?_,?_⟩
  .have j:=Calls.Ue d (c x d);go_simp
  .simp only[pU];go_big_quiet_on;exact i):P:=h trivial c k
def tH(ao:LM)(cap:Nat)(ts:JK af)(w:U)(hx:aZ w ao ts) :
  Cb 56 #[Z ao (N ts) cap] w (Qq (gV ts)):=by
 have W:=hx.1;by_cases A:N ts<1
 .go_enter func56,ntmps56;go_wp2;go_ret;exact⟨QZ (Mf A),Za _ _⟩
 by_cases B:8<N ts
 .go_enter func56,ntmps56;go_wp2;go_ret;exact⟨QZ (Rs B),Za _ _⟩
 go_enter func56,ntmps56;go_wp2;go_loopw [3] (λi wr=>∃k:Nat,k<=N ts/\i=I J k/\Qm ((ts.take k).all fI=T)/\Bw w wr) (λi _=>N ts-(intOf i).toNat)
 case atStart=>exact⟨0,ZR _,rfl,rfl,Za _ _⟩
 case round=>
  obtain⟨k,P,rfl,v,d⟩:=hrel;by_cases e:k<N ts
  .obtain⟨b,off,rfl,c0,Q,c2,c3,c4,c5⟩:=hx.2 k e;have a:=lW c0;have e0:=(d.cell (p:=(aD b (off+k*6))) a).trans c0;have e1:=(d.cell (p:=(aD b (off+k*6+1))) a).trans Q;have e2:=(d.cell (p:=(aD b (off+k*6+2))) a).trans c2;have e3:=(d.cell (p:=(aD b (off+k*6+3))) a).trans c3;have e4:=(d.cell (p:=(aD b (off+k*6+4))) a).trans c4;have e5:=(d.cell (p:=(aD b (off+k*6+5))) a).trans c5;generalize S:E ts k tz=t at*;have g:=Zh S;have l:=d.size;by_cases R:t.bU<1∨4<t.bU∨t.rows<0∨1000000<t.rows
   .have f:=Zh (E9 e (by rw[g.o];exact Me R));go_wp2
    all_goals
     go_ret;exact⟨QZ f.o,d.alloc l _⟩
   .have D:1<=t.bU:=X
    have G:t.bU<=4:=X;have l3:0<=t.rows:=X;have l4:t.rows<=1000000:=X;go_wp2;go_loop [5] (λi=>∃m:Nat,m<=t.bU.toNat/\i=I J m/\Qm (∀j,j<m->1<=t.kd j/\t.kd j<=1000000)) (λi=>t.bU.toNat-(intOf i).toNat)
    case atStart=>exact⟨0,ZR _,rfl,λj r=>absurd r X⟩
    case round=>
     obtain⟨m,hm,rfl,y⟩:=hrel;by_cases C:m<t.bU.toNat
     .have n:(m:Int)<t.bU:=X
      have q:m<4:=X;have K:=af.ae8 wr t 54 m q;by_cases dP:t.kd m<1
      .have f:=Zh (E9 e (by rw[g.o];exact AA m C X));go_wp2;go_ret;exact⟨QZ f.o,d.alloc l _⟩
      .by_cases jf:1000000<t.kd m
       .have f:=Zh (E9 e (by rw[g.o];exact AA m C X));go_wp2;go_ret;exact⟨QZ f.o,d.alloc l _⟩
       .go_wp2;go_round
        case rel=>
         refine⟨m+1,X,Qe,λj r=>?_⟩;by_cases u:j=m
         .subst u;omega
         .exact y.o j X
        case measure=>exact XK
     .have n:¬(m:Int)<t.bU:=X
      have L:=Zh (IK D G l3 l4 (λj r=>y.o j X));refine gQ ?_;exact⟨k+1,X,Qe,aj2 (z:=tz) e v.o (by rw[g.o];exact L.o),d.alloc l _⟩
  .go_wp2;go_ret;exact⟨QZ (af8 A B P e v.o),d⟩
def RY(ao:LM)(cap:Nat)(ts:JK af)(q:ae)(w:U)(hx:aZ w ao ts)(hc:gV ts=T)(hq:q.au.At w)(h5:N q.au.xs<=5)(ha:dm q.au.xs (N ts)=T) :
  Cb 58 #[Z ao (N ts) cap,Qt q.cells,I J (N q.au.xs)] w (I J (aX ts q.au.xs)):=by
 obtain⟨⟨v,y,xs⟩,z,A,B,aF,C,D,G,ord⟩:=q;unfold aA.At at hq;simp only at h5 ha hq;unfold ae.cells aA.val;simp only;obtain⟨d,e⟩:=bH hc ha;go_enter func58,ntmps58;go_wp2;go_loop [7,8] (λn i=>∃k:Nat,k<=N xs/\i=I J k/\n=I J (aX ts (xs.take k))) (λ_ i=>N xs-(intOf i).toNat)
 case atStart=>exact⟨0,ZR _,rfl,rfl⟩
 case round=>
  obtain⟨k,m,rfl,rfl⟩:=hrel;have f:=mH d.o e.o k m;by_cases a:k<N xs
  .obtain⟨K,p,rfl,r⟩:=hq.get a;have g:=sj (r k a);have t:=qR e.o a;have u:=uK d.o (i:=xs[k].toNat) X;obtain⟨b,off,rfl,c0,-⟩:=hx.2 xs[k].toNat X;have j:=sj c0;have l:=Zh (kW ts xs k a);generalize (E ts xs[k].toNat tz).bU=cc,aX ts (xs.take k)=W0 at*;go_wp2;go_round
   case rel=>exact⟨k+1,X,Qe,by rw[l.o]⟩
   case measure=>exact XK
  .go_wp2;go_ret;have:k=N xs:=X
   subst this;exact⟨Q0 (by rw[Z0]),(Za _ _).alloc (Zb _) _⟩
theorem Du{v:Int}(hk:k<N xs):v∈xs.take (k+1)↔v∈xs.take k∨E xs k 0=v:=by rw[Q5 hk,Z5,XH];grind
theorem FI(hx:k<N xs)(hy:k<N ys)(h:xs.take k=ys.take k)(e:E xs k 0=E ys k 0):xs.take (k+1)=ys.take (k+1):=by rw[Q5 hx,Q5 hy,h];grind
def acI(hy:k<N ys)(e:E xs k 0≠E ys k 0):xs.take (N ys)≠ys:=λh=>e (by
 have:E (xs.take (N ys)) k 0=E ys k 0:=by rw[h]
 rw[<-this];simp[List.getD,XQ,hy])
def oh(ao:LM)(cap:Nat)(xs:IC)(v:Int)(w:U)(hx:aP w ao xs) :
  Ce 41 #[Z ao (N xs) cap,I J v] w (Qq (decide (v∈xs))):=by
 have q:=hx.1;go_enter func41,ntmps41;go_wp2;go_loop [5] (λi=>∃k:Nat,k<=N xs/\i=I J k/\v ∉ xs.take k) (λi=>N xs-(intOf i).toNat)
 case atStart=>exact⟨0,ZR _,rfl,Qa⟩
 case round=>
  obtain⟨k,r,rfl,a⟩:=hrel;by_cases d:k<N xs
  .obtain⟨b,off,rfl,n⟩:=hx.get d;have p:=n k d;have l:=Zh (Du (v:=v) d);have g:Qm _:=a;have m:Qm (E xs k 0∈xs):=by
    show _∈_;have e:E xs k 0=xs[k]:=by simp[List.getD,d]
    rw[e];exact Q6 d
   clear n hx a;generalize E xs k 0=x at p l m;by_cases f:x=v
   .have j:(x==v)=true:=by simp[f]
    go_wp2;go_ret;exact⟨QZ (Zl (by rw[<-f];exact m.o)).symm,rfl⟩
   .have j:(x==v)=false:=by simp[f]
    go_wp2;go_round
    case rel=>exact⟨k+1,X,Qe,λe=>by
     rcases l.o.1 e with e|e
     .exact g.o e
     .exact f e⟩
    case measure=>exact XK
  .have e:k=N xs:=X
   rw[e,Z0]at a;have g:Qm _:=a;clear a;go_wp2;go_ret;exact⟨QZ (ZK g.o).symm,rfl⟩
def vB(ao bo:LM)(cap pQ:Nat)(xs ys:IC)(w:U)(hx:aP w ao xs)(hy:aP w bo ys) :
  Cb 79 #[Z ao (N xs) cap,Z bo (N ys) pQ] w (Qq (aN xs ys)):=by
 have G:=hx.1;have A:=hy.1;by_cases f:N ys<=N xs
 .have g:=Zh (by unfold aN;rw[Zl f,Zm]:aN xs ys=decide (xs.take (N ys)=ys))
  go_enter func79,ntmps79;go_wp2;go_loopw [5] (λi wr=>∃k:Nat,k<=N ys/\i=I J k/\xs.take k=ys.take k/\∃n,wr=w.drewN n) (λi _=>N ys-(intOf i).toNat)
  case atStart=>exact⟨0,ZR _,rfl,rfl,0,rfl⟩
  case round=>
   obtain⟨k,K,rfl,r,n,rfl⟩:=hrel;have q:=Zh r;clear r;by_cases j:k<N ys
   .have m:k<N xs:=X
    obtain⟨b,off,rfl,t⟩:=hx.get m;obtain⟨L,P,rfl,u⟩:=hy.get j;have B:=t k m;have C:=u k j;clear t u hx hy;obtain⟨x,a⟩:=eY (E xs k 0);obtain⟨y,d⟩:=eY (E ys k 0);rw[<-a]at B;rw[<-d]at C;obtain⟨v,z⟩:=bH a d;clear a d;by_cases l:x=y
    .have p:(x != y)=false:=by simp[l]
     go_wp2;go_quiet (fail);refine gQ ?_;exact⟨k+1,X,Qe,FI m j q.o (by rw[<-v.o,<-z.o];exact l),_,rfl⟩
    .have p:(x != y)=true:=by simp[l]
     go_wp2;go_quiet (fail);go_wp2;go_ret;exact⟨QZ (by rw[g.o];exact(ZK (acI j (by rw[<-v.o,<-z.o];exact l))).symm),Zg (Zg (Za _ _) _) _⟩
   .have e:k=N ys:=X
    have D:=Zh e;clear e;go_wp2;go_ret;exact⟨QZ (by rw[g.o];refine(Zl ?_).symm;have:=q.o;rw[D.o,Z0]at this;exact this),Zg (Za _ _) _⟩
 .have g:=Zh (by unfold aN;rw[ZK f,Bool.false_and]:aN xs ys=F)
  go_enter func79,ntmps79;go_wp2;go_ret;exact⟨QZ g.o.symm,Za _ _⟩
def I9(ao:LM)(cap:Nat)(ts:JK af)(q:ae)(s:Nat)(w:U)(hx:aZ w ao ts)(hc:gV ts=T)(hq:q.au.At w)(h5:N q.au.xs<=5)(ha:dm q.au.xs (N ts)=T)(hs:s<=N q.au.xs) :
  Cb 58 #[Z ao (N ts) cap,Qt q.cells,I J s] w (I J (aX ts (q.au.xs.take s))):=by
 obtain⟨⟨y,z,xs⟩,A,B,C,aF,D,G,K,ord⟩:=q;unfold aA.At at hq;simp only at h5 ha hq hs;unfold ae.cells aA.val;simp only;have t:=hx.1;obtain⟨g,j⟩:=bH hc ha;clear hc ha;go_enter func58,ntmps58;go_wp2;go_loop [7,8] (λn i=>∃k:Nat,k<=s/\i=I J k/\n=I J (aX ts (xs.take k))) (λ_ i=>N xs-(intOf i).toNat)
 case atStart=>exact⟨0,ZR _,rfl,rfl⟩
 case round=>
  obtain⟨k,L,rfl,rfl⟩:=hrel;have f:=mH g.o j.o k X;by_cases Q:k<s
  .have d:k<N xs:=X
   obtain⟨P,r,rfl,a⟩:=hq.get d;have l:=sj (a k d);have u:=qR j.o d;have v:=uK g.o (i:=xs[k].toNat) X;obtain⟨b,off,rfl,c0,-⟩:=hx.2 xs[k].toNat X;have m:=sj c0;have p:=Zh (kW ts xs k d);generalize (E ts xs[k].toNat tz).bU=cc,aX ts (xs.take k)=W0 at*;clear a c0 hx hq;go_wp2;go_round
   case rel=>exact⟨k+1,X,Qe,by rw[p.o]⟩
   case measure=>exact XK
  .have e:k=s:=X
   subst e;clear f hx hq;go_wp2;go_ret;exact⟨rfl,(Za _ _).alloc (Zb _) _⟩
def yQ(ao:LM)(cap:Nat)(ts:JK af)(q:ae)(c:Int)(w:U)(hx:aZ w ao ts)(hc:gV ts=T)(hq:q.au.At w)(h5:N q.au.xs<=5)(ha:dm q.au.xs (N ts)=T)(h0:0<=c)(hl:c<aX ts q.au.xs) :
  Cb 115 #[Z ao (N ts) cap,Qt q.cells,I J c] w (I J (aU ts q.au.xs c:Nat)):=by
 have z:=λ(s:Nat) (i:s<=N q.au.xs) x (l:Bw w x)=>I9 ao cap ts q s x (hx.aj l) hc (Zc l hq) h5 ha i;have A:Qm (∀(s:Nat),s<=aU ts q.au.xs c->(c ≥ aX ts (q.au.xs.take (s+1))↔s<aU ts q.au.xs c)):=λs i=>Ph hc ha h0 hl i;have m:=(ZZ hc ha h0 hl).1;have n:Qm (∀k,k<=N q.au.xs->0<=aX ts (q.au.xs.take k)/\aX ts (q.au.xs.take k)<=4*k):=λk hk=>mH hc ha k hk;have Pn:=hx.1;have f:q.cells=#[q.au.val,Z q.iF (N q.wh) q.cZ,Qq q.aF,q.aC.val,q.aM.val,q.bA.val,q.ord.val]:=rfl;clear hc ha hx hq;generalize aU ts q.au.xs c=S at A m ⊢;have g:=λ(s:Nat) (i:s<=N q.au.xs) x (l:Bw w x)=>z s i x l;clear z;rw[f]at g ⊢;clear f;obtain⟨a,r⟩:=eY (w.alloc (Qs #[q.au.val,Z q.iF (N q.wh) q.cZ,Qq q.aF,q.aC.val,q.aM.val,q.bA.val,q.ord.val] 35));have L:Bw w a:=by rw[r];exact fo _ _
 have b:GB a (M (H w)) 35 #[q.au.val,Z q.iF (N q.wh) q.cZ,Qq q.aF,q.aC.val,q.aM.val,q.bA.val,q.ord.val]:=by rw[r];exact qj _ _
 have B:Qm (Bw a (w.alloc (Qs #[q.au.val,Z q.iF (N q.wh) q.cZ,Qq q.aF,q.aC.val,q.aM.val,q.bA.val,q.ord.val] 35))):=show Below _ _ _ by rw[r];exact Za _ _
 obtain⟨G,t⟩:=bH L g;have P:Qo a (aD (M (H w)) 0)=O q.au.val:=b.cell 0;have Q:Qo a (aD (M (H w)) 1)=O (Z q.iF (N q.wh) q.cZ):=b.cell 1;have R:Qo a (aD (M (H w)) 2)=O (Qq q.aF):=b.cell 2;have q3:Qo a (aD (M (H w)) 3)=O q.aC.val:=b.cell 3;have q4:Qo a (aD (M (H w)) 4)=O q.aM.val:=b.cell 4;have q5:Qo a (aD (M (H w)) 5)=O q.bA.val:=b.cell 5;have q6:Qo a (aD (M (H w)) 6)=O q.ord.val:=b.cell 6;unfold aA.val at*;generalize q.au.xs=xs at*;go_enter func115,ntmps115;go_wp2;go_loopw [7] (λv wr=>∃s:Nat,s<=S/\v=I J s/\Bw a wr) (λv _=>S-(intOf v).toNat)
 case atStart=>exact⟨0,ZR _,rfl,B.o⟩
 case round=>
  clear B;obtain⟨s,u,rfl,j⟩:=hrel;obtain⟨e0,e1,e2,e3,e4⟩:=qi j P Q R q3 q4;obtain⟨e5,e6⟩:=kP j q5 q6;go_wp2_with fail;have d:((s+1:Nat):Int)=(s:Int)+1:=X;have C:=t.o (s+1) X wr (aO G.o j);rw[d]at C;refine mR C λw2 y=>?_;have aa:=n.o (s+1) X;have D:=A.o s u;have k2:=aO j y;generalize aX ts (xs.take (s+1))=W at*;by_cases K:s<S
  .have p:W<=c:=D.2 K;refine gQ ?_;exact⟨s+1,X,Qe,k2⟩
  .have p:¬W<=c:=λe=>K (D.1 e)
   have e:s=S:=X;subst e;go_wp2;go_ret;exact⟨rfl,aO G.o k2⟩
def aw4(h:aZ w ao ts)(hi:i<N ts){m:Nat}(hm:m<4) :
  ∃b off,ao=O (aD b off)/\Qo w (aD b (off+i*6+2+m))=O (I J ((E ts i tz).kd m)):=by
 obtain⟨b,off,e,_,_,a,d,f,g⟩:=h.2 i hi;refine⟨b,off,e,?_⟩;rcases (by omega:m=0∨m=1∨m=2∨m=3) with rfl|rfl|rfl|rfl
 .exact a
 .exact d
 .exact f
 .exact g
def agU(ao:LM)(cap:Nat)(ts:JK af)(q:ae)(c:Int)(w:U)(hx:aZ w ao ts)(hc:gV ts=T)(hq:q.au.At w)(h5:N q.au.xs<=5)(ha:dm q.au.xs (N ts)=T)(h0:0<=c)(hl:c<aX ts q.au.xs) :
  Cb 160 #[Z ao (N ts) cap,Qt q.cells,I J c] w (I J (iN ts q.au.xs c)):=by
 obtain⟨g,s2,s3,j⟩:=ZZ hc ha h0 hl;have z:=λx (v:Bw w x)=>yQ ao cap ts q c x (hx.aj v) hc (Zc v hq) h5 ha h0 hl;have b:=λx (v:Bw w x)=>I9 ao cap ts q (aU ts q.au.xs c) x (hx.aj v) hc (Zc v hq) h5 ha X;have k:=mH hc ha (aU ts q.au.xs c) X;have A:=kW ts q.au.xs (aU ts q.au.xs c) g;have jl:=qR ha g;have EU:=uK hc (i:=(q.au.xs[aU ts q.au.xs c]).toNat) X;have l:E q.au.xs (aU ts q.au.xs c) 0=q.au.xs[aU ts q.au.xs c]:=by simp[List.getD,g]
 obtain⟨sb,so,D,EW⟩:=hq.get g;have n:=EW _ g;rw[l]at n j;generalize aX ts (q.au.xs.take (aU ts q.au.xs c))=W at b k A s2 j;generalize q.au.xs[aU ts q.au.xs c]=Tq at A jl EU n j;obtain⟨m,hm⟩:∃m:Nat,(m:Int)=c-W:=⟨(c-W).toNat,X⟩;obtain⟨tb,aC,r,e⟩:=aw4 hx (i:=Tq.toNat) (m:=m) X X;have av:m<4:=X;have B:c.toNat-W.toNat=m:=X;rw[B]at j;have ax:=hx.1;have d:((Tq.toNat:Nat):Int)=Tq:=X;have C:Tq.toNat<N ts:=X;obtain⟨K,G⟩:=eY (iN ts q.au.xs c);rw[<-j,<-G]at e;rw[<-G];generalize aU ts q.au.xs c=S at z b n g;generalize Tq.toNat=tn at e d C;have p:=d.symm;rw[p]at n;clear G s2 s3 j A l EW jl EU B d p;obtain⟨L,y⟩:=eY (w.alloc (Qs q.cells 35));have dP:Bw w L:=by rw[y];exact fo _ _
 have kU:GB L (M (H w)) 35 q.cells:=by rw[y];exact qj _ _
 obtain⟨Df,t⟩:=bH z b;clear z b hx hq ha hc;rw[r];rw[r]at Df t;obtain⟨⟨WY,D5,xs⟩,iF,cZ,wh,aF,⟨P,AZ,Q⟩,⟨R,La,aa⟩,⟨ag,Po,ah⟩,⟨ai,Pp,ak⟩⟩:=q;unfold ae.cells aA.val at*;simp only at*;subst D;obtain⟨q0,q1,q2,q3,q4,q5,q6⟩:=kU.k7;have O5:=y.symm;clear y kU;have ay:=hm.symm;clear hm;have az:IntKind.i64.wrap (m:Int)=m:=by rw[IntKind.wrap_i64];omega
 have aB:(m:Int)<4:=X;go_enter func160,ntmps160;go_upto_region 1 with fail;clear O5;go_wp2_with fail;refine mR (Df.o L dP) λw2 f=>?_;have k2:=aO dP f;have a:=f;clear f;clear k hl;go_wp2;obtain⟨aG,aH⟩:=kP k2 n e;refine Zf ?_;refine qA2 ?_;go_big_quiet_want;refine⟨Z (O (aD sb so)) (N xs) D5,λx hx=>?_,?_⟩
 .have e0:=cB (aO a hx) q0;go_simp
 simp only[pU];go_big_quiet_on;refine qA5 ?_;go_big_quiet_want;refine⟨Qt #[Z (O (aD sb so)) (N xs) D5,Z iF (N wh) cZ,Qq aF,Z P (N Q) AZ,Z R (N aa) La,Z ag (N ah) Po,Z ai (N ak) Pp],λx hx=>?_,?_⟩
 .have e0:=cB (aO a hx) q0;have e1:=cB (aO a hx) q1;have e2:=cB (aO a hx) q2;have e3:=cB (aO a hx) q3;have B:=cB (aO a hx) q4;have e5:=cB (aO a hx) q5;have e6:=cB (aO a hx) q6;go_simp
 simp only[pU];go_big_quiet_on;refine KX ?_;refine qJ (λx hx=>t.o x (aO k2 hx)) ?_;refine qA6 ?_;refine X6 ?_;intro w3 u;have k3:=aO k2 u;clear u;go_wp2;go_ret;exact⟨rfl,k3⟩
def A7(hc:gV ts=T)(hi:i<N ts):fI (E ts i tz)=true:=by
 cases h:fI (E ts i tz) with
 |true=>rfl
 |false=>rw[<-E9 hi h]at hc;cases hc
def A8(hc:gV ts=T)(ha:dm au (N ts)=T){c:Int}(h0:0<=c)(hl:c<aX ts au):1<=iN ts au c/\iN ts au c<=1000000:=by
 obtain⟨d,j,k,e⟩:=ZZ hc ha h0 hl;have g:=kW ts au (aU ts au c) d;have f:=mH hc ha (aU ts au c) X;have i:=qR ha d;have a:E au (aU ts au c) 0=au[aU ts au c]:=by simp[List.getD,d]
 rw[a]at e;have b:fI (E ts (au[aU ts au c]).toNat tz)=true:=A7 hc X;unfold fI at b;rw[Zi]at b;rw[e];exact b.2.2.2.2 _ X
def agW(ao:LM)(cap:Nat)(ts:JK af)(q:ae)(k:Nat)(w:U)(hx:aZ w ao ts)(hc:gV ts=T)(hq:q.At w)(h5:N q.au.xs<=5)(ha:dm q.au.xs (N ts)=T)(hk:k<N q.wh)(mE:∀c∈bD (E q.wh k lz).cs,0<=c/\c<aX ts q.au.xs) :
  Cb 111 #[Z ao (N ts) cap,Qt q.cells,I J k] w (I Qp (fJ ts q.au.xs (E q.wh k lz).cs:Nat)):=by
 have j:Qm (∀c∈bD (E q.wh k lz).cs,(∀x,Bw w x->Cb 160 #[Z ao (N ts) cap,Qt q.cells,I J c] x (I J (iN ts q.au.xs c)))/\1<=iN ts q.au.xs c/\iN ts q.au.xs c<=1000000):=λc G=>
  ⟨λx hb=>agU ao cap ts q c x (hx.aj hb) hc (Zc hb hq.au) h5 ha (mE c G).1 (mE c G).2,A8 hc ha (mE c G).1 (mE c G).2⟩
 clear mE hc ha hx;have ag:=hq.wh.1;obtain⟨wb,wo,Pq,A⟩:=Q3 hq.wh.2.1 hk;have l:=A k hk;have v:=hq.wh.2.2 k hk;clear A hq;obtain⟨w1,C⟩:=eY (w.alloc (Qs q.cells 35));have i:Bw w w1:=by rw[C];exact fo _ _
 have kU:GB w1 (M (H w)) 35 q.cells:=by rw[C];exact qj _ _
 obtain⟨⟨WY,D5,xs⟩,iF,cZ,wh,aF,⟨ai,AZ,ak⟩,⟨av,La,ax⟩,⟨ay,Po,az⟩,⟨aB,Pp,aC⟩⟩:=q;unfold ae.cells aA.val at*;simp only at*;subst Pq;generalize E wh k lz=cl at*;obtain⟨ca,cc,cs⟩:=cl;unfold aQ.val at l;simp only at l v j ⊢;obtain⟨q0,q1,q2,q3,q4,q5,q6⟩:=kU.k7;have O5:=C.symm;have P:=cB i l;clear C kU l;have iX:=v.1;by_cases d:N cs=1
 .obtain⟨cb,co,rfl,c0,c1,c2,c3,c4⟩:=v.2 0 X;obtain⟨d0,d1,d2,d3,d4⟩:=qi i c0 c1 c2 c3 c4;have Q:Qm (bD cs=bz (E cs 0 cz)):=by
   show _=_
   match cs,d with
   |[c],_=>simp[bD]
  have r:Qm (fJ ts xs cs=if (E cs 0 cz).not=T then 2 else if (E cs 0 cz).op=1 then 3 else if (E cs 0 cz).op=2 then 10 else if (E cs 0 cz).const=T then (iN ts xs (E cs 0 cz).left).toNat
    else max (iN ts xs (E cs 0 cz).left).toNat (iN ts xs (E cs 0 cz).right).toNat):=by
   show _=_;unfold fJ;by_cases e:(E cs 0 cz).not=T
   .rw[Zd (.inr e),Zd e]
   .rw[Zk (λh=>h.elim (absurd d) e),Zk e]
  clear c0 c1 c2 c3 c4 v;generalize E cs 0 cz=c at*;obtain⟨aa,D,left,g,right⟩:=c;simp only[X8,Xg]at d0 d1 d2 d3 d4 Q r;rw[d]at P;have y:=j.o;rw[Q.o]at y;unfold bz at y;simp only at y;have p:=Zh y;clear y j Q iX
  cases aa with
  |true =>
   go_enter func111,ntmps111;go_wp2;go_ret;exact⟨by rw[r.o];rfl,i⟩
  |false =>
   by_cases o1:D=1
   .subst o1;go_enter func111,ntmps111;go_wp2;go_ret;exact⟨by rw[r.o];rfl,i⟩
   by_cases L:D=2
   .subst L;go_enter func111,ntmps111;go_wp2;go_ret;exact⟨by rw[r.o];rfl,i⟩
   have b1:(D==1)=false:=by simp[o1]
   have b2:(D==2)=false:=by simp[L]
   have f:=Zh (by rw[r.o,Zk Qa,Zk o1,Zk L]:fJ ts xs cs=if g=T then (iN ts xs left).toNat else max (iN ts xs left).toNat (iN ts xs right).toNat)
   clear r;have t:=p.o left (by split <;> simp);have b:=t.1;have R:=t.2;clear t;generalize iN ts xs left=K at b R f;obtain⟨n,rfl⟩:∃n:Nat,K=n:=⟨K.toNat,X⟩
   have z:=Zh b;clear b
   cases g with
   |true =>
    clear p;have u:Qm (fJ ts xs cs=n):=by show _=_;rw[f.o,Zd rfl];rfl
    clear f;go_enter func111,ntmps111;go_wp2;refine Zf ?_;refine qA6 ?_;refine qJ (λx hx=>z.o x (aO i hx)) ?_;refine KX ?_;refine X6 ?_;intro w2 a;have k2:=aO i a;have S:=cB a d3;have W:IntKind.u64.wrap (n:Int)=n:=by rw[XZ];omega
    clear a;go_wp2;go_ret;exact⟨mg u.o.symm,k2⟩
   |false =>
    have t:=p.o right (by rw[Zd ⟨L,rfl⟩];simp);have b:=t.1;have FJ:=t.2;clear t p;generalize iN ts xs right=K2 at b FJ f;obtain⟨m,rfl⟩:∃n:Nat,K2=n:=⟨K2.toNat,X⟩;have uO:=Zh b;clear b;have u:Qm (fJ ts xs cs=max n m):=by show _=_;rw[f.o,Zk Qa];rfl
    clear f;have W:IntKind.u64.wrap (n:Int)=n:=by rw[XZ];omega
    have ah:IntKind.u64.wrap (m:Int)=m:=by rw[XZ];omega
    by_cases aN:n<m
    all_goals
     go_enter func111,ntmps111;go_wp2;refine Zf ?_;refine qA6 ?_;refine qJ (λx hx=>z.o x (aO i hx)) ?_;refine KX ?_;refine X6 ?_;intro w2 a;have k2:=aO i a;have S:=cB a d3;go_wp2;obtain⟨aD,aG,aH,aI,aJ,aK,aL,aM⟩:=Da a q0 q1 q2 q3 q4 q5 q6 d4;refine Zf ?_;refine qA6 ?_;refine qJ (λx hx=>uO.o x (aO k2 hx)) ?_;refine KX ?_;refine X6 ?_;intro w3 B;have k3:=aO k2 B;clear a B k2;go_wp2;go_ret;exact⟨mg (by rw[u.o];omega),k3⟩
 .have r:=Zh (by unfold fJ;rw[Zd (.inl d)]:fJ ts xs cs=2)
  have b1:((N cs:Int) != 1)=true:=Qi;clear v j;generalize N cs=cn at*;go_enter func111,ntmps111;go_wp2;go_ret;exact⟨by rw[r.o];rfl,i⟩
theorem akF{w:U}{base:Nat}{e:TypeId}{v:Ql}{n:Nat}{xs:IC}(h:w.ownsRow base e 1 v n (xs.map (Value.int J)))(hl:N xs<=1152921504606846976):∃d cap,v=Z d (N xs) cap/\aP w d xs:=by
 have f:N xs=n:=by have:=h.1;simpa using this
 rcases h.2 with⟨rfl,h0⟩|⟨g,cap,iw,rfl,_,hh,_,_,_,ht⟩
 .have:xs=[]:=Zo X;subst this;exact⟨Qr,0,rfl,⟨Qa,λi b=>absurd b Qa⟩⟩
 .refine⟨O (aD g 0),cap,by rw[<-f],⟨hl,λi b=>⟨g,0,rfl,?_⟩⟩⟩;have a:(iw.toList.take (n*1))[i]? = O (I J (E xs i 0)):=by grind
  rw[List.getElem?_take_of_lt X]at a;rw[ZT];simp only[World.cell?,hh];simpa using a
def Dv(hk:k<N cs):bD (cs.take (k+1))=bD (cs.take k)++bz (E cs k cz):=by
 have e:E cs k cz=cs[k]:=by simp[List.getD,hk]
 rw[Q5 hk,e];unfold bD;rw[ZW];simp
def FL(c:aV):N (bz c)<=2:=by unfold bz;split <;> simp
def yR:∀(cs:JK aV),N (bD cs)<=2*N cs
 |[]=>by simp[bD]
 |c::cs=>by have h:=yR cs;have h2:=FL c;unfold bD at*;rw[Zr,Zt,Zu];omega
def agX{w w':U}{base:Nat}{e:TypeId}{sz:Nat}{v:Ql}{n:Nat}{xs:JK Ql}(h:w.ownsRow base e sz v n xs)(hb:Bw w w'):w'.ownsRow base e sz v n xs:=qX h (Zb _) (λj _ a=>hb.block j a)
def Ya(ca:LM)(cc:Nat)(cs:JK aV)(w:U)(hx:bZ w ca cs)(h3:N cs<=100) :
  Calls V 116 #[Qt #[Z ca (N cs) cc]] w λe w'=>∃v,e=Qu v/\w'.ownsRow (M (H w)) 3 1 v (N (bD cs)) ((bD cs).map (Value.int J))/\Bw w w':=by
 obtain⟨n,C⟩:=eY (w.alloc (Qs #[Z ca (N cs) cc] 59));have z:Bw w n:=by rw[C];exact fo _ _
 have kU:GB n (M (H w)) 59 #[Z ca (N cs) cc]:=by rw[C];exact qj _ _
 have q0:=kU.at 0;have tq:M (H n)=M (H w)+1:=by rw[C];simp
 have EX:=Zh tq;have O5:=C.symm;clear C kU tq;go_enter func116,ntmps116;go_wp2;clear O5;go_loopw [3,4] (λv iv wr=>∃k:Nat,k<=N cs/\iv=I J k/\Qm (wr.ownsRow (M (H n)) 3 1 v (N (bD (cs.take k))) ((bD (cs.take k)).map (Value.int J)))/\Bw n wr) (λ_ iv _=>N cs-(intOf iv).toNat)
 case atStart=>exact⟨0,ZR _,rfl,XC _ _ _ _,Za _ _⟩
 case round=>
  obtain⟨k,hk,rfl,p,j⟩:=hrel;have hq:=cB j q0;by_cases aT:k<N cs
  .obtain⟨b,off,rfl,c0,c1,c2,c3,c4⟩:=hx.2 k aT;have k1:=aO z j;obtain⟨d1,d2,d3⟩:=awQ k1 c1 c2 c3;clear c0 c1 c2 c3;have dY:N (bD (cs.take k))<=200:=by have:=yR (cs.take k);rw[Jb]at this;omega
   have g:=Zh (Dv aT);obtain⟨W,rm,rc,rfl⟩:=Xz p.o;obtain⟨v',D,t,u,kC,⟨G,K,L,rfl⟩,-⟩:=pK wr (M (H n)) (Z W rm rc) (bD (cs.take k)) p.o X j.size (E cs k cz).left 26;have a:=j.trans (kC.aj j.size (λb hb e=>Qj ((Xy p.o e).1)));have aa:=cB a q0;have e1:=cB (aO z a) (show Qo w (aD b (off+k*5+1))=_ from (hx.2 k aT).elim λb' h=>h.elim λo' h=>by obtain⟨he,_,h1,_⟩:=h;cases he;exact h1);have e3:=cB (aO z a) (show Qo w (aD b (off+k*5+3))=_ from (hx.2 k aT).elim λb' h=>h.elim λo' h=>by obtain⟨he,_,_,_,h1,_⟩:=h;cases he;exact h1);have e4:=cB (aO z a) c4;have iX:=hx.1;clear hx c4;generalize E cs k cz=c at*;obtain⟨ae,P,left,d,right⟩:=c;simp only at*;by_cases r:P≠2/\d=F
   .obtain⟨y,rfl⟩:=r;have b2:(P != 2)=true:=by simp[y]
    have f:bD (cs.take (k+1))=bD (cs.take k)++[left]++[right]:=by rw[g.o];unfold bz;rw[Zd ⟨y,rfl⟩];simp
    have l:=a.size;obtain⟨v',w6,Q,q,R,⟨ua,um,uc,rfl⟩,-⟩:=pK D (M (H n)) (Z G K L) (bD (cs.take k)++[left]) u (by rw[Zt];simp;omega) l right 26;have A:=a.trans (R.aj l (λb hb e=>Qj ((Xy u e).1)));rw[<-f]at q;have i:Qm _:=q;have S:=Zh A;clear q A R u kC a f l p dY j k1 g;go_wp2_with (first|(at_builtin;refine XJ rfl (.tmp 12) (.tmp 19) 26 rfl (Z W rm rc) (Z (O (aD (M (H wr)) 0)) 1 1) (Z G K L) D rfl rfl t ?_)|(at_builtin;refine XJ rfl (.tmp 37) (.tmp 44) 26 rfl (Z G K L) (Z (O (aD (M (H D)) 0)) 1 1) (Z ua um uc) w6 rfl rfl Q ?_));clear t Q;refine gQ ?_;exact⟨k+1,X,Qe,i.o,S.o⟩
   .have f:bD (cs.take (k+1))=bD (cs.take k)++[left]:=by rw[g.o];unfold bz;rw[Zk r]
    rw[<-f]at u;have i:Qm _:=u;have S:=Zh a;clear u kC a f p dY j k1 g;by_cases y:P=2
    .have b2:(P != 2)=false:=by simp[y]
     go_wp2_with (first|(at_builtin;refine XJ rfl (.tmp 12) (.tmp 19) 26 rfl (Z W rm rc) (Z (O (aD (M (H wr)) 0)) 1 1) (Z G K L) D rfl rfl t ?_));clear t;refine gQ ?_;exact⟨k+1,X,Qe,i.o,S.o⟩
    .have b2:(P != 2)=true:=by simp[y]
     have B:d=true:=by
      cases d with
      |true=>rfl
      |false=>exact absurd ⟨y,rfl⟩ r
     subst B;go_wp2_with (first|(at_builtin;refine XJ rfl (.tmp 12) (.tmp 19) 26 rfl (Z W rm rc) (Z (O (aD (M (H wr)) 0)) 1 1) (Z G K L) D rfl rfl t ?_));clear t;refine gQ ?_;exact⟨k+1,X,Qe,i.o,S.o⟩
  .have e:k=N cs:=X
   have m:=p.o;rw[e,Z0]at m;have O6:Qm _:=m;have iX:=hx.1;clear e p m hx;go_wp2;go_ret;exact⟨_,rfl,qX O6.o (Qj EX.o) (λ_ _ _=>rfl),aO z j⟩
def X9:=@akF
def Ja:=@agX
def acK(l m:IC)(x:Int):aY l (m++[x])=if x∈aY l m then aY l m else aY l m++[x]:=by unfold aY;rw[XU];rfl
def acL{l m:IC}(hk:k<N m):aY l (m.take (k+1))=if m.getD k 0∈aY l (m.take k) then aY l (m.take k) else aY l (m.take k)++[E m k 0]:=by
 have e:E m k 0=m[k]:=by simp[List.getD,hk]
 rw[Q5 hk,acK,e]
def agY(W:U)(base:Nat)(v:Ql)(ys:IC)(bG:W.ownsRow base 3 1 v (N ys) (ys.map (Value.int J)))(ao:LM)(cap:Nat)(xs:IC)(hx:aP W ao xs)(hn:ao=Qr->cap=0)(hl:N ys+N xs<=1000000)(hb:base<=M (H W))(ty:TypeId) :
  ∃f g,(Builtin.append_ #[26,26] ty #[v,Z ao (N xs) cap]).run V W=.ok f g/\
   g.ownsRow base 3 1 f (N (ys++xs)) ((ys++xs).map (Value.int J))/\aB (λb=>v.ownBlock≠O b) W g/\(∃a m c,f = Z a m c):=by
 obtain⟨i0,t,l,n,p⟩:=XB Tryz.uN
 cases ao with
 |none =>
  obtain rfl:cap=0:=hn rfl;have z:xs=[]:=by
   cases xs with
   |nil=>rfl
   |cons x xs=>obtain⟨b,off,e,_⟩:=hx.2 0 Qa;cases e
  subst z;refine⟨v,W,run_append_owned_none (P:=V) (w:=W) base 26 ty 3 i0 1 underlying26 t v (N ys) _ bG,by rw[Zy];exact bG,Xj _ _,Xz bG⟩
 |some a =>
  have d:∀j u,(xs.map (Value.int J))[j]? = O u->W.cell? (a.add j)=O u:=λj u i=>by
   rw[Zv]at i;by_cases k:j<N xs
   .obtain⟨b,off,e,A⟩:=hx.2 j k
    cases e;rw[Zn,A];simp[List.getD,k]at i ⊢;exact i
   .rw[Jc X]at i;cases i
  obtain⟨f,g,q,y,B,_,_⟩:=XL (P:=V) W base 26 ty 3 i0 (.int J 0) 1 8 underlying26 t l n p rfl Qc v (N ys) (ys.map (Value.int J)) bG a (N xs) cap (xs.map (Value.int J)) Qa d
   (λu C=>by obtain⟨x,_,rfl⟩:=Xc.1 C;rfl) Qg X hb
  exact⟨f,g,q,by rw[Zt,Q7];exact y,Xv B (λr e q=>q e),Xz y⟩
def MH(ao bo:LM)(cap pQ:Nat)(xs ys:IC)(w:U)(hx:aP w ao xs)(hy:aP w bo ys)(hn:ao=Qr->cap=0)(hl:N xs+N ys<=1000) :
  Calls V 76 #[Z ao (N xs) cap,Z bo (N ys) pQ] w λe S=>∃v,e=Qu v/\S.ownsRow (M (H w)) 3 1 v (N (aY xs ys)) ((aY xs ys).map (Value.int J))/\Bw w S:=by
 obtain⟨v0,w1,D,f,G,⟨va,vm,vc,rfl⟩⟩:=agY w (M (H w)) (Z Qr 0 0) [] (XC _ _ _ _) ao cap xs hx hn Qi (Zb _) 26;rw[List.nil_append]at f;have W:=G.aj (Zb _) (λb hb e=>by cases e);clear G;have q:Qm _:=f;clear f;go_enter func76,ntmps76;go_wp2_with (first|(at_builtin;refine XJ rfl (.tmp 8) (.tmp 9) 26 rfl (Z Qr 0 0) (Z ao (N xs) cap) (Z va vm vc) w1 rfl rfl D ?_));clear D;go_wp2;go_loopw [5,6] (λv A wr=>∃k:Nat,k<=N ys/\A=I J k/\Qm (wr.ownsRow (M (H w)) 3 1 v (N (aY xs (ys.take k))) ((aY xs (ys.take k)).map (Value.int J)))/\Bw w wr) (λ_ A _=>N ys-(intOf A).toNat)
 case atStart=>exact⟨0,ZR _,rfl,q.o,W⟩
 case round=>
  obtain⟨k,hk,rfl,a,g⟩:=hrel;have aa:=hy.1;by_cases B:k<N ys
  .obtain⟨b,off,rfl,K⟩:=hy.get B;have ae:=cB g (K k B);clear K;have n:=Zh (acL (l:=xs) B);have r:N (aY xs (ys.take k))<=1000:=by have:=nY (m:=ys.take k) (l:=xs);rw[Jb]at this;omega
   clear hy;generalize aY xs (ys.take k)=L at n a r;generalize E ys k 0=y at*;obtain⟨t,u,rfl,j⟩:=X9 a.o X;have C:=oh t u L y wr j;clear j;go_wp2_with fail;refine C.mono ?_;clear C;rintro e P ⟨rfl,rfl⟩;by_cases p:y∈L
   .rw[Zl p];refine gQ ?_;exact⟨k+1,X,Qe,by have e:=n.o;rw[Zd p]at e;rw[e];exact a.o,g⟩
   .rw[ZK p];obtain⟨v',w5,Q,z,R,⟨ua,um,uc,rfl⟩,-⟩:=pK P (M (H w)) (Z t (N L) u) L a.o X g.size y 26;have i:=g.trans (R.aj g.size (λb hb e=>Qj ((Xy a.o e).1)));have e:=n.o;rw[Zk p]at e;rw[<-e]at z;have zW:Qm _:=z;have qd:=Zh i;clear e z i R a n;go_wp2_with (first|(at_builtin;refine XJ rfl (.tmp 25) (.tmp 30) 26 rfl (Z t (N L) u) (Z (O (aD (M (H P)) 0)) 1 1) (Z ua um uc) w5 rfl rfl Q ?_));clear Q;refine gQ ?_;exact⟨k+1,X,Qe,zW.o,qd.o⟩
  .have e:k=N ys:=X
   have d:=a.o;rw[e,Z0]at d;have O6:Qm _:=d;clear e a d hy hx;go_wp2;go_ret;exact⟨_,rfl,O6.o,g⟩
def xn{p:Int->Bool}(hk:k<N xs)(h:(xs.take k).all p=T)(hp:p (E xs k 0)=T):(xs.take (k+1)).all p=true:=by
 have e:E xs k 0=xs[k]:=by simp[List.getD,hk]
 rw[e]at hp;rw[Q5 hk,List.all_append,h,List.all_cons,hp];rfl
def MP{p:Int->Bool}(hk:k<N xs)(hp:p (E xs k 0)=F):xs.all p=false:=by
 have e:E xs k 0=xs[k]:=by simp[List.getD,hk]
 rw[List.all_eq_false];exact⟨xs[k],Q6 hk,by rw[<-e,hp];simp⟩
def MQ(hk:k<N xs):E xs k 0∈xs:=by
 have e:E xs k 0=xs[k]:=by simp[List.getD,hk]
 rw[e];exact Q6 hk
def MR(ao so:LM)(cap Ac:Nat)(ts:JK af)(q:ae)(k:Nat)(ss:IC)(w:U)(hx:aZ w ao ts)(hc:gV ts=T)(hq:q.At w)(h5:N q.au.xs<=5)(ha:dm q.au.xs (N ts)=T)(hk:k<N q.wh)
  (mE:∀c∈bD (E q.wh k lz).cs,0<=c/\c<aX ts q.au.xs) (h3:(E q.wh k lz).cs.length<=3) (hss:aP w so ss) :
  Cb 80 #[Z ao (N ts) cap,Qt q.cells,I J k,Z so (N ss) Ac] w (Qq (jy ts q.au.xs (E q.wh k lz).cs ss)):=by
 have A:Qm (∀c∈bD (E q.wh k lz).cs,∀x,Bw w x->Cb 115 #[Z ao (N ts) cap,Qt q.cells,I J c] x (I J (aU ts q.au.xs c:Nat))):=λc hm x hb=>
  yQ ao cap ts q c x (hx.aj hb) hc (Zc hb hq.au) h5 ha (mE c hm).1 (mE c hm).2
 have aK:=hq.wh.1;obtain⟨wb,wo,Pq,W⟩:=Q3 hq.wh.2.1 hk;have b:=W k hk;have B:=hq.wh.2.2 k hk;obtain⟨w1,y⟩:=eY (w.alloc (Qs q.cells 35));have t:Bw w w1:=by rw[y];exact fo _ _
 have kU:GB w1 (M (H w)) 35 q.cells:=by rw[y];exact qj _ _
 obtain⟨⟨WY,D5,xs⟩,iF,cZ,wh,aF,⟨aa,AZ,ag⟩,⟨ah,La,ai⟩,⟨ak,Po,av⟩,⟨ax,Pp,ay⟩⟩:=q;unfold ae.cells aA.val at*;simp only at*;subst Pq;generalize E wh k lz=cl at*;obtain⟨ca,cc,cs⟩:=cl;unfold aQ.val at b;simp only at b B A h3 ⊢;obtain⟨q0,q1,q2,q3,q4,q5,q6⟩:=kU.k7;have O5:=y.symm;have C:=cB t b;have MI:=Ya ca cc cs w1 (B.aj t) X;have D:Qm _:=hss;have G:Qm (jy ts xs cs ss=(bD cs).all λc=>decide ((aU ts xs c:Int)∈ss)):=rfl;have K:=yR cs;clear y kU b B hss;go_enter func80,ntmps80;go_wp2_with fail;refine MI.mono ?_;clear MI O5;rintro e w2 ⟨v,rfl,m,d⟩;obtain⟨la,lc,rfl,n⟩:=X9 m X;have f:Qm _:=n;clear m n C;generalize bD cs=L at A f G K ⊢;have k2:=aO t d;obtain⟨az,aB,aC,aG,aH⟩:=qi d q0 q1 q2 q3 q4;obtain⟨aI,aJ⟩:=kP d q5 q6;clear q0 q1 q2 q3 q4 q5 q6 d t;go_wp2;go_loopw [10] (λiv wr=>∃i:Nat,i<=N L/\iv=I J i/\Qm (((L.take i).all λc=>decide ((aU ts xs c:Int)∈ss))=T)/\Bw w2 wr) (λiv _=>N L-(intOf iv).toNat)
 case atStart=>exact⟨0,ZR _,rfl,rfl,Za _ _⟩
 case round=>
  obtain⟨i,hi,rfl,HA,a⟩:=hrel;by_cases r:i<N L
  .have aL:=f.o.1;obtain⟨lb,lo,rfl,iX⟩:=Q4 f.o r;have P:=cB a (iX i r);have HC:=A.o (E L i 0) (MQ r);have g:=Zh HC;have u:=aO k2 a;obtain⟨HT,HF⟩:=bH (xn (p:=λc=>decide ((aU ts xs c:Int)∈ss)) r HA.o) (MP (p:=λc=>decide ((aU ts xs c:Int)∈ss)) r);generalize E L i 0=c at*;obtain⟨S,hS⟩:=eY (aU ts xs c)
   simp only[<-hS]at g HT HF;clear hS;go_wp2;refine Zf ?_;refine KX ?_;go_big_quiet_want;refine⟨Qt #[Z WY (N xs) D5,Z (O (aD wb wo)) (N wh) cZ,Qq aF,Z aa (N ag) AZ,Z ah (N ai) La,Z ak (N av) Po,Z ax (N ay) Pp],λx hx=>?_,?_⟩
   .have e0:=cB (aO a hx) az;have e1:=cB (aO a hx) aB;have e2:=cB (aO a hx) aC;have e3:=cB (aO a hx) aG;have e4:=cB (aO a hx) aH;have e5:=cB (aO a hx) aI;have e6:=cB (aO a hx) aJ;go_simp
   simp only[pU];go_big_quiet_on;refine qA4 ?_;refine qJ (λx hx=>g.o x (aO u hx)) ?_;refine KX ?_;refine X6 ?_;intro w3 l;have Q:=aO a l;have k3:=aO u l;clear l g P;have GM:=oh so Ac ss (S:Int) w3 (Zc k3 D.o);go_wp2_with fail;refine GM.mono ?_;clear GM;rintro e w4 ⟨rfl,rfl⟩;by_cases z:(S:Int)∈ss
   .rw[Zl z];refine gQ ?_;exact⟨i+1,X,Qe,HT.o (Zl z),Q⟩
   .rw[ZK z];go_wp2;go_ret;exact⟨QZ (by rw[G.o];exact(HF.o (ZK z)).symm),k3⟩
  .have e:i=N L:=X
   have j:=HA.o;rw[e,Z0]at j;have R:=Zh j;have u:=aO k2 a;clear HA j e;go_wp2;go_ret;exact⟨QZ (by rw[G.o];exact R.o.symm),u⟩
def akQ(hc:gV ts=T)(hi:i<N ts):0<=(E ts i tz).rows/\(E ts i tz).rows<=1000000:=by have a:=A7 hc hi;unfold fI at a;rw[Zi]at a;exact⟨a.2.2.1,a.2.2.2.1⟩
def ahc(h:aZ w ao ts)(hi:i<N ts):∃b off,ao=O (aD b off)/\Qo w (aD b (off+i*6+1))=O (I J (E ts i tz).rows):=by obtain⟨b,off,e,_,a,_⟩:=h.2 i hi;exact⟨b,off,e,a⟩
def aoT{WY:LM}(hx:aZ w ao ts)(hs:aP w WY xs)(hc:gV ts=T)(ha:dm xs (N ts)=T){s:Int}(h0:0<=s)(h1:s<N xs) :
  ∃(e f g a sn tn R:Nat),WY=O (aD e f)/\ao=O (aD g a)/\s=(sn:Int)/\Qo w (aD e (f+sn))=O (I J (tn:Int))/\Qo w (aD g (a+tn*6+1))=O (I J (R:Int))/\jZ ts xs s=R/\sn<N xs/\tn<N ts/\R<=1000000:=by
 have b:s.toNat<N xs:=X;obtain⟨e,f,l,m⟩:=hs.get b;have p:=qR ha b;have d:E xs s.toNat 0=xs[s.toNat]:=by simp[List.getD,b]
 have k:=m _ b;rw[d]at k;obtain⟨g,a,n,j⟩:=ahc hx (i:=(xs[s.toNat]).toNat) X;have q:=akQ hc (i:=(xs[s.toNat]).toNat) X;refine⟨e,f,g,a,s.toNat,(xs[s.toNat]).toNat,(E ts (xs[s.toNat]).toNat tz).rows.toNat,l,n,X,?_,?_,?_,b,X,X⟩
 .rw[k];congr 2;omega
 .rw[j];congr 2;omega
 .unfold jZ;rw[d]
def Le{β:Type}{f:β->Nat->β}{g:Int->Nat}(hk:k<N xs)(b:β):((xs.take (k+1)).map g).foldl f b=f (((xs.take k).map g).foldl f b) (g (E xs k 0)):=by
 have e:E xs k 0=xs[k]:=by simp[List.getD,hk]
 rw[Q5 hk,e,Q7,XU];rfl
def nK:∀(l:JK Nat) (m:Nat),m<=bO->l.foldl bQ m<=bO
 |[],_,h=>h
 |a::l,m,_=>nK l _ (nV m a)
def uw(ts:JK af)(q:ae)(aG:IC)(k n:Nat):Nat:=(List.range k).foldl (λ(n c:Nat)=>if (c:Int)∈aG then n / fJ ts q.au.xs (E q.wh c lz).cs else n) n
def Kc(ts:JK af)(q:ae)(aG:IC)(k n:Nat):uw ts q aG (k+1) n=if (k:Int)∈aG then uw ts q aG k n / fJ ts q.au.xs (E q.wh k lz).cs else uw ts q aG k n:=by unfold uw;rw[ZG,XU];rfl
def Hm(ts:JK af)(q:ae)(aG:IC)(n:Nat):∀k,uw ts q aG k n<=n
 |0=>Zb _
 |k+1=>by
  rw[Kc];have:=Hm ts q aG n k;split
  .exact ZU (Nat.div_le_self _ _) this
  .exact this
theorem Yh(hc:gV ts=T)(ha:dm au (N ts)=T)(mE:∀c∈bD cs,0<=c/\c<aX ts au):1<=fJ ts au cs/\fJ ts au cs<=1000000:=by
 unfold fJ;split
 .omega
 rename_i h1;split
 .omega
 split
 .omega
 rename_i o2;have e:N cs=1:=by omega
 have a:∀x∈bz (E cs 0 cz),x∈bD cs:=by
  match cs,e with
  |[c],_=>intro x f;simpa [bD] using f
 have b:=mE (E cs 0 cz).left (a _ (by unfold bz;split <;> simp));have g:=A8 hc ha b.1 b.2;split
 .omega
 .rename_i nU
  have d:=mE (E cs 0 cz).right (a _ (by unfold bz;grind));have i:=A8 hc ha d.1 d.2;omega
def Yi(ao so' co:LM)(cap Ac aoU:Nat)(ts:JK af)(q:ae)(ss cl:IC)(w:U)(hx:aZ w ao ts)(hc:gV ts=T)(hq:q.At w)(h5:N q.au.xs<=5)(ha:dm q.au.xs (N ts)=T)(h8:N q.wh<=8)
  (mE:Cs ts q) (hss:aP w so' ss) (zT:cK (N q.au.xs) ss) (iX:aP w co cl) :
  Cb 73 #[Z ao (N ts) cap,Qt q.cells,Z so' (N ss) Ac,Z co (N cl) aoU] w (I Qp (kM ts q ss cl:Nat)):=by
 have Un:Qm (∀k:Nat,k<N q.wh->(∀x,Bw w x->Cb 111 #[Z ao (N ts) cap,Qt q.cells,I J k] x (I Qp (fJ ts q.au.xs (E q.wh k lz).cs:Nat)))/\1<=fJ ts q.au.xs (E q.wh k lz).cs/\fJ ts q.au.xs (E q.wh k lz).cs<=1000000):=λk hk=>
  ⟨λx hb=>agW ao cap ts q k x (hx.aj hb) hc (hq.aj hb) h5 ha hk (mE k hk),Yh hc ha (mE k hk)⟩
 have HR:Qm (∀i,i<N ss->∃(sb so tb t sn tn R:Nat),q.au.ad=O (aD sb so)/\ao=O (aD tb t)/\E ss i 0=(sn:Int)/\Qo w (aD sb (so+sn))=O (I J (tn:Int))/\Qo w (aD tb (t+tn*6+1))=O (I J (R:Int))/\jZ ts q.au.xs (E ss i 0)=R/\sn<N q.au.xs/\tn<N ts/\R<=1000000):=λi hi=>by have:=zT _ (MQ hi);exact aoT hx hq.au hc ha this.1 this.2
 have K:Qm (kM ts q ss cl=if (ss.any λs=>decide (jZ ts q.au.xs s=0))=T then 0 else max (uw ts q cl (N q.wh) ((ss.map (jZ ts q.au.xs)).foldl bQ 1)) 1):=rfl;have aH:=hss.1;have Uy:Qm (∀k n,uw ts q cl (k+1) n=if (k:Int)∈cl then uw ts q cl k n / fJ ts q.au.xs (E q.wh k lz).cs else uw ts q cl k n):=λk n=>Kc ts q cl k n;have Sd:Qm (∀k n,uw ts q cl k n<=n):=λk n=>Hm ts q cl n k;have ag:Qm (∀n,uw ts q cl 0 n=n):=λn=>rfl;generalize uw ts q cl=lt at*;obtain⟨pn,aB⟩:∃pn:Nat->Nat,∀k,pn k=fJ ts q.au.xs (E q.wh k lz).cs:=⟨_,λ_=>rfl⟩;simp only[<-aB]at Un Uy;obtain⟨v,aC⟩:=eY (jZ ts q.au.xs);rw[<-aC]at HR K;generalize kM ts q ss cl=Zq at K ⊢;have Ad:Qm _:=iX;have L:Qm _:=hss;clear mE hc ha hx hq zT iX hss;obtain⟨w1,dB⟩:=eY (w.alloc (Qs q.cells 35));have dP:Bw w w1:=by rw[dB];exact fo _ _
 have kU:GB w1 (M (H w)) 35 q.cells:=by rw[dB];exact qj _ _
 obtain⟨⟨WY,D5,xs⟩,iF,cZ,wh,aF,⟨aS,AZ,aU⟩,⟨aV,La,aW⟩,⟨aX,Po,aY⟩,⟨bf,Pp,bg⟩⟩:=q;unfold ae.cells aA.val at*;simp only at*;obtain⟨q0,q1,q2,q3,q4,q5,q6⟩:=kU.k7;have O5:=dB.symm;have P:=Zh dP;clear dB kU;go_enter func73,ntmps73;go_wp2;go_loopw [10] (λr wr=>∃i:Nat,i<=N ss/\r=I J i/\Qm (((ss.take i).all λs=>decide (v s≠0))=T)/\Bw w1 wr) (λr _=>N ss-(intOf r).toNat)
 case atStart=>exact⟨0,ZR _,rfl,rfl,Za _ _⟩
 case round=>
  obtain⟨i,hi,rfl,HA,b⟩:=hrel;by_cases d:i<N ss
  .obtain⟨sb,so,tb,t,sn,tn,R,rfl,rfl,O4,c1,c2,l,b1,b2,b3⟩:=HR.o i d;obtain⟨ib,io,rfl,u⟩:=Q4 L.o d;have j:=aO P.o b;have y:=cB j (u i d);rw[O4]at y;obtain⟨d1,d2⟩:=kP j c1 c2;have G:=Zh (xn (p:=λs=>decide (v s≠0)) d HA.o);rw[l]at G;have HB:Qm (R=0->Zq=0):=λe=>by rw[K.o,Zd];rw[List.any_eq_true];exact⟨_,MQ d,by rw[l,e];rfl⟩
   have Q:=cB b q0;by_cases aa:R=0
   .subst aa;go_wp2;go_quiet (fail);go_wp2;go_ret;exact⟨mg (a:=0) (HB.o (by trivial)).symm,Zg (aO P.o b) _⟩
   .have aI:((R:Int)==0)=false:=Qi
    go_wp2;go_quiet (fail);refine gQ ?_;exact⟨i+1,X,Qe,G.o (Zl aa),Zg b _⟩
  .have e:i=N ss:=X
   have z:=HA.o;rw[e,Z0]at z;have ah:Qm (Zq=max (lt (N wh) ((ss.map v).foldl bQ 1)) 1):=by show _=_;rw[K.o,Zk];intro h;rw[List.any_eq_true]at h;obtain⟨s,hs,h1⟩:=h;have:=Q9.1 z s hs;exact Xf this (Xf h1)
   clear HA z e K;go_wp2;clear hi d;go_loopw [9,11] (λnv r wr=>∃i:Nat,i<=N ss/\r=I J i/\nv=I Qp (((ss.take i).map v).foldl bQ 1:Nat)/\Bw w1 wr) (λ_ r _=>N ss-(intOf r).toNat)
   case atStart=>exact⟨0,ZR _,rfl,rfl,b⟩
   case round=>
    clear b;obtain⟨i,hi,rfl,rfl,b⟩:=hrel;have A:((ss.take i).map v).foldl bQ 1<=bO:=nK _ _ (by unfold bO;omega);by_cases d:i<N ss
    .obtain⟨sb,so,tb,t,sn,tn,R,rfl,rfl,O4,c1,c2,l,b1,b2,b3⟩:=HR.o i d;obtain⟨ib,io,rfl,u⟩:=Q4 L.o d;have j:=aO P.o b;have y:=cB j (u i d);rw[O4]at y;obtain⟨d1,d2⟩:=kP j c1 c2;have G:=Le (f:=bQ) (g:=v) d 1;rw[l]at G;have ai:=Zh G;have Q:=cB b q0;clear O4 c1 c2 l u G;generalize ((ss.take i).map v).foldl bQ 1=n at*;have ak:Qm (∀x,Cb 110 #[I Qp n,I Qp R] x (I Qp (bQ n R:Nat))):=λx=>(RX n R A (by unfold bO;omega) x).mono (λ_ _ h=>⟨h.1,by rw[h.2];exact Za _ _⟩)
     have aJ:IntKind.u64.wrap (R:Int)=R:=by rw[XZ];omega
     go_wp2;refine Zf ?_;refine asM ?_;refine qA4 ?_;refine qJ (λx hx=>ak.o x) ?_;refine KX ?_;refine X6 ?_;intro w3 D;have B:=aO b D;refine gQ ?_;exact⟨i+1,X,Qe,by rw[ai.o],B⟩
    .have e:i=N ss:=X
     rw[e,Z0]at A ⊢;generalize (ss.map v).foldl bQ 1=Nq at*;unfold bO at A;have av:=cB b q1;have S:=ag.o Nq;go_wp2;go_loopw [9,12] (λnv r wr=>∃i:Nat,i<=N wh/\r=I J i/\nv=I Qp (lt i Nq:Nat)/\Bw w1 wr) (λ_ r _=>N wh-(intOf r).toNat)
     case atStart=>exact⟨0,ZR _,rfl,by rw[S],b⟩
     case round=>
      clear b S;obtain⟨i,hi,rfl,rfl,b⟩:=hrel;have av:=cB b q1;have aK:=Sd.o i Nq;by_cases d:i<N wh
      .have W:=Un.o i d;have ax:=W.1;have aL:=W.2;have ay:=Zh ax;have nT:=Uy.o i Nq;generalize pn i=p,lt i Nq=n at*;have j:=aO P.o b;have GM:=oh co aoU cl (i:Int) wr (Zc j Ad.o);go_wp2_with fail;refine GM.mono ?_;rintro e w2 ⟨rfl,rfl⟩;by_cases gH:(i:Int)∈cl
       .rw[Zl gH];rw[Zd gH]at nT;have C:=Zh nT;obtain⟨Q,bn,bq,bu,bz,bA⟩:=aj3 b q0 q2 q3 q4 q5 q6;go_wp2_with fail;refine mR (show Calls _ _ _ _ _ from ay.o w2 j) λw3 D=>?_
        have B:=aO b D;have aM:¬p=0:=X;have aN:((n:Int)).tdiv (p:Int)=((n / p:Nat):Int):=by rw[Int.tdiv_eq_ediv_of_nonneg X,Int.natCast_ediv]
        have az:n / p<=18446744073709551615:=Qj (Nat.div_le_self n p);have aQ:=yO az;generalize n / p=m at*;refine gQ ?_;exact⟨i+1,X,Qe,by rw[C.o],B⟩
       .rw[ZK gH];rw[Zk gH]at nT;have C:=Zh nT;refine gQ ?_;exact⟨i+1,X,Qe,by rw[C.o],b⟩
      .have e:i=N wh:=X
       have HZ:=Zh (by rw[ah.o,e]:Zq=max (lt i Nq) 1)
       generalize lt i Nq=n at*;have j:=aO P.o b;by_cases aG:n=0
       .subst aG;go_wp2;go_ret;exact⟨mg (a:=1) (by rw[HZ.o];rfl),j⟩
       .have aR:((n:Int)==0)=false:=Qi
        go_wp2;go_ret;exact⟨mg (by rw[HZ.o];omega),j⟩
