import Derived.Test.YtibkmjbegbjgcaaGreatDoorS01
import Derived.Test.YtibkmjbegbjgcaaGreatDoorS02
set_option linter.all false
set_option maxRecDepth 100000
set_option maxHeartbeats 0
namespace Go.Proofs.Zz
open Go.RowKit Go.Shelf Go.Proofs.Tryz
open List renaming length->N,getD->E
open Go.Value renaming slice->Z,int->I,pointer->Y,bool->Qr,agg->Qu
open Go.Proofs.Tryz renaming prog->V
open Option renaming some->O
open Go.IntKind renaming i64->J,u64->Qq
open Bool renaming false->F,true->T
open Go renaming World->U,Value->Qm
open Go.World renaming heap->H,cell?->Qp
open _root_.Array renaming size->M
open Go.RowKit renaming Hid->Qn
open Go.Obj renaming cells->Qt
open Go.Ending renaming returned->Qv
variable {fn:Func} {p:Tmp} {e ty:TypeId} {P:Program} {w:U} {v:Qm} {base i k n:Nat} {xs:Qx} {l:Qy Nat} {ao:PN} {ts:Qy af} {c:Int} {q:ae}
def CW(h:fn.results=#[.cell p ty])(tmps:Array Qm)(P:Program)(w:U) :
  (results fn tmps).run P w=((asAddr (tmps.getD p undef)).run P w).andThen λa b=>(loadVar ty a).run P b:=by simp only[results,h];simp_all
def rZ(h:fn.results=#[.cell p ty]){tmps:Array Qm}{B:Nat}(hp:tmps.getD p undef=Y (O (aD B 0)))(hl:(loadVar ty (aD B 0)).run P w=.ok v w) :
  (results fn tmps).run P w=.ok v w:=by rw[CW h,hp];simp[go_sem]at hl ⊢;simp[hl]
def Kept.drewN{s:Qz}(W:U)(n:Nat):Kept s W (W.drewN n):=ZP (below_drewN (Q9 (M (H W)) W) n) (λ_ a _=>a)
def GB.alloc(w:U)(c:Array Qm)(t:TypeId):GB (w.alloc (Qt c t)) (M (H w)) t c:=lT w _
def GB.keep{w w':U}{G:Nat}{t:TypeId}{c:Array Qm}{s:Qz}(h:GB w G t c)(hk:Kept s w w')(hs:s G):GB w' G t c:=h.of (hk.block G h.lt hs)
theorem Kept.bS{s:Qz}{A B:U}(h:Kept s A B){G:Nat}(hG:M (H A)<=G)(v:Qm):Kept s A (B.setCell (aD G i) v):=
 ⟨h.os,h.tape,h.output,by have:=h.size;simp_all,λk a b=>(Below.heap_setCell B _ _ k Qb).trans (h.block k a b)⟩
def Xw:=@Kept.drewN
def Xx:=@GB.keep
def Ra{α:Type}{l:List α}{d:α}{k:Nat}(hk:k<N l):E l k d∈l:=by simp_all
def Xy:=@Ra
def wpList_append_run{P:Program}{w:U}{ops:Array Oper}{rest:Qy Oper}{o:Oper}{a:Act}{Q:Exit->Act->U->Prop}(hgd:o.guard=none)(s x:Operand)(t:TypeId)
  (ho:o.op=.call { callee:=.builtin .append,args:=#[s,x],argTypes:=#[t,t] }) (v u v':Qm) (w':U) (hs:a.eval s=v) (hx:a.eval x=u)
  (hrun:(Builtin.append_ #[t,t] o.type #[v,u]).run P w=.ok v' w') (h:wpList P ops Q rest (a.put o.dst v') w'):wpList P ops Q (o::rest) a w:=by refine wpList_plain hgd λK b=>?_;unfold Oper.wp execOp;simp only[ho,resolve,invoke,builtin,Sem.run_bind,Sem.run_pure,Result.andThen_ok,List.map_toArray,List.map_cons,List.map_nil,hs,hx,hrun];exact b _ _ h
theorem VA(W:U)(base:Nat)(v:Qm)(xs:Qx)(hown:W.ownsRow base 3 1 v (N xs) (xs.map (Value.int J)))(hl:N xs<=1000000)(hb:base<=M (H W))(x:Int)(ty:TypeId) :
  ∃d w',(Builtin.append_ #[22,22] ty #[v,Z (O (aD (M (H W)) 0)) 1 1]).run V (W.alloc (Qt #[I J x] 3))=.ok d w'/\
   w'.ownsRow base 3 1 d (N (xs++[x])) ((xs++[x]).map (Value.int J))/\Kept (λb=>v.ownBlock≠O b) W w'/\(∃a m c,d = Z a m c)/\(d.ownBlock=v.ownBlock∨d.ownBlock=O (M (H W)+1)):=by
 obtain⟨n,p,g,i,j⟩:=Xl Tryz.kE;obtain⟨d,w',k,q,y,_,f⟩:=XA (P:=V) (W.alloc (Qt #[.int J x] 3)) base 22 ty 3 n (.int J 0) 1 8 underlying22 p g i j rfl Qc v (N xs) (xs.map (Value.int J)) (hown.alloc _) (aD (M (H W)) 0) 1 1 [.int J x] rfl
  (XB (cs:=#[I J x]) (t:=3) (fr:=(0,0)) (lT W _)) (λu l=>by rw[Xj]at l;rw[l];rfl) Qh X (by rw[Xo];omega)
 refine⟨d,w',k,Qb,(ZT _ _).trans (Xe y (λr e k=>k e)),Xh q,by rw[Xo]at f;exact f⟩
def Xz:=@wpList_append_run
def dY(w:U)(ao:PN)(xs:Qy Nat):Prop:=
 N xs<=1000/\bg w ao (N xs) (λi=>I Qq ((E xs i 0:Nat):Int))
def dY.get{w:U}{ao:PN}{xs:Qy Nat}(h:dY w ao xs){i:Nat}(hi:i<N xs) :
  ∃b a,ao=O (aD b a)/\∀j,j<N xs->Qp w (aD b (a+j))=O (I Qq ((E xs j 0:Nat):Int)):=
 Q0 h.2 hi
def dY.below{w w':U}(hb:Bw w w'){ao:PN}{xs:Qy Nat}(h:dY w ao xs):dY w' ao xs:=⟨h.1,h.2.below hb⟩
def fK(w:U)(ao:PN)(cs:Qy (Nat × Int)):Prop:=
 N cs<=1000/\∀i,i<N cs->∃b off,ao=O (aD b off)/\
  Qp w (aD b (off+i*2))=O (I J ((E cs i (0,0)).1:Nat))/\Qp w (aD b (off+i*2+1))=O (I Qq (E cs i (0,0)).2)
theorem fK.below{w w':U}(hb:Bw w w'){ao:PN}{cs:Qy (Nat × Int)}(h:fK w ao cs):fK w' ao cs:=⟨h.1,λi d=>by
 obtain⟨b,a,e,f,g⟩:=h.2 i d;grind [cB]⟩
structure ay where
 ca:PN
 cc:Nat
 ra:PN
 rc:Nat
 na:PN
 nl:Nat
 nc:Nat
 pa:PN
 pl:Nat
 pc:Nat
def gz(ts:Qy af)(q:ae):Qy (Nat × Int):=bT ts q.src.xs (N q.src.xs)
def yT(ts:Qy af)(q:ae):Qy Nat:=(List.range (N q.src.xs)).map λ(k:Nat)=>qp ts q.src.xs (k:Int)
def aB(ts:Qy af)(q:ae):Qy Nat:=q.wh.map λc=>bD (dn ts q.src.xs c.cs)
def tO(ts:Qy af)(q:ae):Qy Nat:=q.wh.map λc=>iV ts q.src.xs c.cs
def ay.cells(f:ay)(ts:Qy af)(q:ae):Array Value:=
 #[q.src.val,Z q.cK (N q.wh) q.aM,Qr q.group,q.keys.val,q.sums.val,q.aU.val,q.ord.val,Z f.ca (N (gz ts q)) f.cc,I Qq ((2 ^ (N q.src.xs)-1:Nat):Int),I Qq ((2 ^ (N q.wh)-1:Nat):Int),
  Z f.ra (N q.src.xs) f.rc,Z f.na f.nl f.nc,Z f.pa f.pl f.pc]
structure ay.At(f:ay)(ts:Qy af)(q:ae)(w:U):Prop where
 query:q.At w
 aL:fK w f.ca (gz ts q)
 rows:dY w f.ra (yT ts q)
 conc:dY w f.na (aB ts q)
 parts:dY w f.pa (tO ts q)
 nl:f.nl=N q.wh
 pl:f.pl=N q.wh
def ay.At.below{w w':U}(hb:Bw w w'){f:ay}{ts:Qy af}{q:ae}(h:f.At ts q w):f.At ts q w':=
 ⟨h.query.below hb,h.aL.below hb,h.rows.below hb,h.conc.below hb,h.parts.below hb,h.nl,h.pl⟩
def Rb(ts:Qy af)(q:ae):N (yT ts q)=N q.src.xs:=by unfold yT;simp
def Rc(ts:Qy af)(q:ae):N (aB ts q)=N q.wh:=by unfold aB;simp
def DJ(ts:Qy af)(q:ae):N (tO ts q)=N q.wh:=by unfold tO;simp
def DK(ts:Qy af)(q:ae)(hk:k<N q.src.xs):E (yT ts q) k 0=qp ts q.src.xs (k:Int):=by unfold yT;simp_all
def xW(ts:Qy af)(q:ae)(hk:k<N q.wh):E (aB ts q) k 0=bD (dn ts q.src.xs (E q.wh k lz).cs):=by unfold aB;simp_all
def xX(ts:Qy af)(q:ae)(hk:k<N q.wh):E (tO ts q) k 0=iV ts q.src.xs (E q.wh k lz).cs:=by unfold tO;simp_all
structure aC where
 kind:Int
 sources:Nat
 clauses:Nat
 order:ah
 size:Nat
 cost:Nat
def bG:aC:=⟨0,0,0,⟨none,0,[]⟩,0,0⟩
def aC.cells(p:aC):Array Value:=#[I J p.kind,I Qq (p.sources:Int),I Qq (p.clauses:Int),p.order.val,I Qq (p.size:Int),I Qq (p.cost:Int)]
def aC.list(p:aC):Qy Value:=[I J p.kind,I Qq (p.sources:Int),I Qq (p.clauses:Int),p.order.val,I Qq (p.size:Int),I Qq (p.cost:Int)]
def aC.d(p:aC):bW:=⟨p.kind,p.sources,p.clauses,p.order.xs,p.size,p.cost⟩
structure aC.Ok(p:aC)(w:U):Prop where
 order:p.order.At w
 cap:N p.order.xs<=p.order.cap
 sources:p.sources<=bQ
 clauses:p.clauses<=bQ
 size:p.size<=bQ
 cost:p.cost<=bQ
def aC.Ok.below{w w':U}(hb:Bw w w'){p:aC}(h:p.Ok w):p.Ok w':=⟨Q8 hb h.order,h.cap,h.sources,h.clauses,h.size,h.cost⟩
def PartsAt(w:U)(ao:PN)(ps:Qy aC):Prop:=
 N ps<=1000/\∀i,i<N ps->(∃b off,ao=O (aD b off)/\
  Qp w (aD b (off+i*6))=O (I J (E ps i bG).kind)/\Qp w (aD b (off+i*6+1))=O (I Qq ((E ps i bG).sources:Int))/\
  Qp w (aD b (off+i*6+2))=O (I Qq ((E ps i bG).clauses:Int))/\Qp w (aD b (off+i*6+3))=O (E ps i bG).order.val/\
  Qp w (aD b (off+i*6+4))=O (I Qq ((E ps i bG).size:Int))/\Qp w (aD b (off+i*6+5))=O (I Qq ((E ps i bG).cost:Int)))/\(E ps i bG).Ok w
def PartsAt.below{w w':U}(hb:Bw w w'){ao:PN}{ps:Qy aC}(h:PartsAt w ao ps):PartsAt w' ao ps:=⟨h.1,λi n=>by
 obtain⟨⟨b,a,e,d,f,g,j,k,l⟩,m⟩:=h.2 i n;exact⟨⟨b,a,e,cB hb d,cB hb f,cB hb g,cB hb j,cB hb k,cB hb l⟩,m.below hb⟩⟩
theorem flat_get{α:Type}(f:α->Qy Qm)(k:Nat)(hk:∀a,N (f a)=k)(d:α):∀(l:List α) (i j:Nat),i<N l->j<k->(l.flatMap f)[i*k+j]? = (f (E l i d))[j]?
 |[],i,j,h,_=>absurd h Qa
 |a::l,0,j,_,hj=>by grind
 |a::l,i+1,j,h,hj=>by have e:(i+1)*k+j=N (f a)+(i*k+j):=Qb;rw[XE,e,List.getElem?_append_right (Nat.le_add_right _ _),Nat.add_sub_cancel_left,flat_get f k hk d l i j (by simpa using h) hj];rfl
def jA{α:Type}(f:α->Qy Qm)(k:Nat)(hk:∀a,N (f a)=k):∀l:List α,N (l.flatMap f)=N l*k
 |[]=>Qa
 |a::l=>by rw[XE,ZG,hk,jA f k hk l,ZK,Nat.succ_mul];omega
def rW{w:U}{base:Nat}{e:TypeId}{size:Nat}{v:Qm}{n:Nat}{xs:Qy Qm}(h:w.ownsRow base e size v n xs) :
  (v=Z none 0 0/\n=0)∨∃g cap,v=Z (O (aD g 0)) n cap/\base<=g/\g<M (H w)/\∀j u,xs[j]? = O u->Qp w (aD g j)=O u:=by
 rcases h.2 with⟨rfl,h1⟩|⟨g,cap,cur,rfl,hb,hh,_,_,_,ht⟩
 .simp_all
 .refine .inr ⟨g,cap,rfl,hb,(ZV.1 hh).1,λj u a=>?_⟩;rw[<-ht,XG]at a;split at a
  .simp only[World.cell?,hh]
   simp_all
  .cases a
theorem oG{xs:Qy Nat}(h:w.ownsRow base e 1 v n (xs.map λ(x:Nat)=>I Qq (x:Int)))(hl:N xs<=1000):∃a cap,v=Z a (N xs) cap/\dY w a xs:=by
 have b:N xs=n:=by have:=h.1;simp_all
 rcases rW h with⟨rfl,h0⟩|⟨g,cap,rfl,_,_,hc⟩
 .grind [dY,bg]
 .refine⟨O (aD g 0),cap,by rw[b],⟨hl,λi d=>⟨g,0,rfl,?_⟩⟩⟩
  simp_all
def iL(c:Nat × Int):Qy Value:=[I J (c.1:Int),I Qq c.2]
theorem Al{cs:Qy (Nat × Int)}(h:w.ownsRow base e 2 v n (cs.flatMap iL))(hl:N cs<=1000):∃f cap,v=Z f (N cs) cap/\fK w f cs:=by
 have b:∀a,N (iL a)=2:=λ_=>rfl;have j:N cs=n:=by have:=h.1;rw[jA iL 2 b]at this;omega
 rcases rW h with⟨rfl,h0⟩|⟨g,cap,rfl,_,_,hc⟩
 .grind [fK]
 .refine⟨O (aD g 0),cap,by rw[j],⟨hl,λi d=>⟨g,0,rfl,?_,?_⟩⟩⟩
  .rw[ZC];exact hc (i*2) _ (by have:=flat_get iL 2 b (0,0) cs i 0 d X;rw[XH]at this;rw[this];rfl)
  .rw[ZC];exact hc (i*2+1) _ (by rw[flat_get iL 2 b (0,0) cs i 1 d X];rfl)
def xY{ps:Qy aC}(h:w.ownsRow base e 6 v n (ps.flatMap aC.list))(hl:N ps<=1000)(hp:∀i,i<N ps->(E ps i bG).Ok w):∃f cap,v=Z f (N ps) cap/\PartsAt w f ps:=by
 have d:∀a:aC,N a.list=6:=λ_=>rfl;have j:N ps=n:=by have:=h.1;rw[jA aC.list 6 d]at this;omega
 rcases rW h with⟨rfl,h0⟩|⟨g,cap,rfl,_,_,hc⟩
 .have:ps=[]:=Zk X;subst this;exact⟨none,0,rfl,⟨Qa,λi b=>absurd b Qa⟩⟩
 .refine⟨O (aD g 0),cap,by rw[j],⟨hl,λi b=>⟨⟨g,0,rfl,?_,?_,?_,?_,?_,?_⟩,hp i b⟩⟩⟩ <;> rw[ZC]
  .exact hc (i*6) _ (by have:=flat_get aC.list 6 d bG ps i 0 b X;rw[XH]at this;rw[this];rfl)
  .exact hc (i*6+1) _ (by rw[flat_get aC.list 6 d bG ps i 1 b X];rfl)
  .exact hc (i*6+2) _ (by rw[flat_get aC.list 6 d bG ps i 2 b X];rfl)
  .exact hc (i*6+3) _ (by rw[flat_get aC.list 6 d bG ps i 3 b X];rfl)
  .exact hc (i*6+4) _ (by rw[flat_get aC.list 6 d bG ps i 4 b X];rfl)
  .exact hc (i*6+5) _ (by rw[flat_get aC.list 6 d bG ps i 5 b X];rfl)
theorem iq(W:U)(base:Nat)(t ty e:TypeId)(i:TypeInfo)(z:Qm)(size bytes:Nat)(ht:P.underlying t=O (.slice e))(hi:P.info? e=O i)(hz:i.zero=O z)(hsize:i.size=size)(hby:i.bytes=bytes)(hzs:z.cells.size=size)(hsz:0<size)
  (v:Qm) (n:Nat) (xs:Qy Qm) (hown:W.ownsRow base e size v n xs) (hb:base<=M (H W)) (news:Qy Qm) (hl:N news=size) (h1:∀u∈news,u.oneCell' = T) (hn:n<=1000) (hbb:bytes<=1000) :
  ∃d w',(Builtin.append_ #[t,t] ty #[v,Z (O (aD (M (H W)) 0)) 1 1]).run P (W.alloc (Qt news.toArray e))=.ok d w'/\w'.ownsRow base e size d (n+1) (xs++news)/\Kept (λb=>v.ownBlock≠O b) W w'/\(∃a m c,d = Z a m c)/\(d.ownBlock=v.ownBlock∨d.ownBlock=O (M (H W)+1)):=by
 obtain⟨d,w',f,g,k,_,l⟩:=XA (P:=P) (W.alloc (Qt news.toArray e)) base t ty e i z size bytes ht hi hz hsize hby hzs hsz v n xs (hown.alloc _) (aD (M (H W)) 0) 1 1 news X
  (λj u p=>by
   rw[addr_add,ZC];simp_all) h1 (by grind [maxLen]) (by have:(n+1)*bytes<=1001*1000:=Nat.mul_le_mul X hbb;omega) (by rw[Xo];omega)
 exact⟨d,w',f,g,(ZT _ _).trans (Xe k (λr e f=>f e)),Xh g,Qf⟩
def XC:=@Rc
def XD:=@flat_get
def XF:=@rW
def VE(h:n<64):IntKind.u64.wrap ((2:Int) ^ n)=((2 ^ n:Nat):Int):=by have a:((2:Int) ^ n)=((2 ^ n:Nat):Int):=Qa;have b:2 ^ n<2 ^ 64:=XN X h;rw[a];generalize 2 ^ n=m at*;simp only[IntKind.wrap,IntKind.bits,IntKind.signed];simp;omega
def aeq{s:Nat}(hs:s<18446744073709551616)(h:n<64):bits BinOp.or IntKind.u64 (s:Int) (IntKind.u64.wrap ((2:Int) ^ n))=((s|||2 ^ n:Nat):Int):=by rw[VE h];exact u64_or_nat s (2 ^ n) hs (XN X h)
def Rf{l:Qx}(hk:k<N l):bD (l.take (k+1))=bD (l.take k)|||2 ^ (E l k 0).toNat:=by
 have e:E l k 0=l[k]:=by simp[List.getD,hk]
 rw[Q4 hk,PW,e]
def EY{l:Qx}(h:∀x∈l,0<=x/\x<64)(k:Nat):bD (l.take k)<18446744073709551616:=pq (n:=64) (λx a=>h x (List.mem_of_mem_take a))
def VF(l:Qy Nat):Nat:=l.foldl (· |||·) 0
def Im(hk:k<N l):VF (l.take (k+1))=VF (l.take k)|||E l k 0:=by
 have e:E l k 0=l[k]:=by simp[List.getD,hk]
 rw[Q4 hk,e];unfold VF;rw[ZM];rfl
def aer(h:∀x∈l,x<18446744073709551616):∀k,VF (l.take k)<18446744073709551616:=λk=>by
 induction k with
 |zero=>simp[VF]
 |succ k ih =>
  by_cases a:k<N l
  .rw[Im a];have:E l k 0<18446744073709551616:=by
    have e:E l k 0=l[k]:=by simp[List.getD,a]
    rw[e];exact h _ (XO a)
   exact XP (n:=64) ih this
  .rw[XQ X];rw[XQ X]at ih;exact ih
theorem kX(a b:Nat)(ha:a<18446744073709551616)(hb:b<18446744073709551616)(w:U) :
  Ce 79 #[I Qq (a:Int),I Qq (b:Int)] w (Qr (aT a b)):=by have d:=u64_andNot_nat b a hb ha;go_enter func79,ntmps79;go_wp2;go_ret;refine⟨QY ?_,rfl⟩;unfold aT;grind
theorem DT(a b:Nat)(ha:a<18446744073709551616)(hb:b<18446744073709551616)(w:U) :
  Ce 184 #[I Qq (a:Int),I Qq (b:Int)] w (Qr (decide (a &&& b≠0))):=by have d:=u64_and_nat a b ha hb;go_enter func184,ntmps184;go_wp2;go_ret;refine⟨QY ?_,rfl⟩;grind
theorem Mr(s n:Nat)(hs:s<18446744073709551616)(hn:n<64)(w:U) :
  Ce 83 #[I Qq (s:Int),I J n] w (Qr (s.testBit n)):=by go_enter func83,ntmps83;go_wp2;go_ret;refine⟨QY ?_,rfl⟩;have b:((s:Int) / 2 ^ n)=((s / 2 ^ n:Nat):Int):=Qa;have a:s / 2 ^ n<18446744073709551616:=Nat.lt_of_le_of_lt (Nat.div_le_self _ _) hs;have d:=u64_and_nat (s / 2 ^ n) 1 a X;grind
def Io(n:Nat)(hn:n<64)(w:U) :
  Ce 48 #[I J n] w (I Qq ((2 ^ n-1:Nat):Int)):=by go_enter func48,ntmps48;go_wp2;go_ret;refine⟨QZ ?_,rfl⟩;have a:((2:Int) ^ n)=((2 ^ n:Nat):Int):=Qa;have b:2 ^ n<2 ^ 64:=XN X hn;have d:0<2 ^ n:=Nat.pow_pos X;rw[a];generalize 2 ^ n=m at*;simp only[IntKind.wrap,IntKind.bits,IntKind.signed];simp;omega
def DU(ao:PN)(cap:Nat)(xs:Qx)(w:U)(hx:IntsAt w ao xs)(hs:∀x∈xs,0<=x/\x<64) :
  Ce 47 #[Z ao (N xs) cap] w (I Qq ((bD xs:Nat):Int)):=by
 have y:=hx.1;have j:Qn _:=hx;have g:=Zh hs;have l:Qn (bD (xs.take (N xs))=bD xs):=by show _=_;rw[ZJ]
 clear hx hs;go_enter func47,ntmps47;go_wp2;go_loopw [3,8] (λv f wr=>∃k:Nat,k<=N xs/\f=I J k/\(∃s:Nat,v=I Qq (s:Int)/\Qn (s=bD (xs.take k)))/\wr=w) (λ_ f _=>N xs-(intOf f).toNat)
 case atStart=>exact⟨0,ZB _,rfl,⟨0,rfl,rfl⟩,rfl⟩
 case round=>
  obtain⟨k,z,rfl,⟨s,rfl,hs⟩,rfl⟩:=hrel;by_cases a:k<N xs
  .obtain⟨b,u,rfl,i⟩:=Q3 j.o a;have m:=i k a;have p:=g.o _ (Xy a (d:=0));have q:=Zh (Rf a);have e:s<18446744073709551616:=by rw[hs.o];exact EY g.o k
   clear i;generalize E xs k 0=x at*;obtain⟨n,rfl⟩:=XR p.1;have r:n<64:=X;go_wp2;go_roundw
   case rel=>exact⟨k+1,X,Qe,⟨s|||2 ^ n,by rw[aeq e r],by show _=_;rw[q.o,hs.o];rfl⟩,trivial⟩
   case measure=>exact XK
  .obtain rfl:k=N xs:=X
   have t:=Zh (hs.o.trans l.o);clear hs;go_wp2;go_ret;exact⟨QZ (by rw[t.o]),rfl⟩
def Rh(ao:PN)(cap:Nat)(xs:Qy Nat)(w:U)(hx:dY w ao xs)(hs:∀x∈xs,x<18446744073709551616) :
  Ce 87 #[Z ao (N xs) cap] w (I Qq ((VF xs:Nat):Int)):=by
 have v:=hx.1;have j:Qn _:=hx;have g:=Zh hs;have l:Qn (VF (xs.take (N xs))=VF xs):=by show _=_;rw[ZJ]
 clear hx hs;go_enter func87,ntmps87;go_wp2;go_loopw [3,8] (λu f wr=>∃k:Nat,k<=N xs/\f=I J k/\(∃s:Nat,u=I Qq (s:Int)/\Qn (s=VF (xs.take k)))/\wr=w) (λ_ f _=>N xs-(intOf f).toNat)
 case atStart=>exact⟨0,ZB _,rfl,⟨0,rfl,rfl⟩,rfl⟩
 case round=>
  obtain⟨k,y,rfl,⟨s,rfl,hs⟩,rfl⟩:=hrel;by_cases a:k<N xs
  .obtain⟨b,t,rfl,i⟩:=dY.get j.o a;have m:=i k a;have n:=g.o _ (Xy a (d:=0));have p:=Zh (Im a);have e:s<18446744073709551616:=by rw[hs.o];exact aer g.o k
   clear i;generalize E xs k 0=x at*;have q:=u64_or_nat s x e n;go_wp2;go_roundw
   case rel=>exact⟨k+1,X,Qe,⟨s|||x,rfl,by show _=_;rw[p.o,hs.o]⟩,trivial⟩
   case measure=>exact XK
  .obtain rfl:k=N xs:=X
   have r:=Zh (hs.o.trans l.o);clear hs;go_wp2;go_ret;exact⟨QZ (by rw[r.o]),rfl⟩
theorem jh(b:Nat)(x y:Nat)(w:U)(h0:Qp w (aD b 0)=O (I Qq (x:Int)))(h1:Qp w (aD b 1)=O (I Qq (y:Int)))(hx:x<18446744073709551616)(hy:y<18446744073709551616) :
  Ce 87 #[Z (O (aD b 0)) 2 2] w (I Qq ((x|||y:Nat):Int)):=by
 have h:=Rh (O (aD b 0)) 2 [x,y] w ⟨Qa,λi a=>⟨b,0,rfl,by
  grind⟩⟩ (λz hz=>by
  rcases List.mem_cons.1 hz with e|e
  .omega
  .rw[Xj]at e;omega)
 have e:VF [x,y]=x|||y:=by unfold VF;simp
 rw[e]at h;exact h
theorem rX(b:Nat)(n:Nat)(w:U)(h0:Qp w (aD b 0)=O (I J (n:Int)))(hn:n<64) :
  Ce 47 #[Z (O (aD b 0)) 1 1] w (I Qq ((2 ^ n:Nat):Int)):=by
 have h:=DU (O (aD b 0)) 1 [(n:Int)] w ⟨Qa,λi a=>⟨b,0,rfl,by
  grind⟩⟩ (λz hz=>by rw[Xj]at hz;omega)
 rw[z8]at h;exact h
theorem vN(k:Int)(w:U):Ce 109 #[I J k] w (Qr (eT k)):=by
 have b:eT k=(decide (k=7) ||decide (k=8) ||decide (k=9) ||decide (k=10)):=by unfold eT;grind
 by_cases e:k=7
 .subst e;go_enter func109,ntmps109;go_wp2;go_ret;exact⟨rfl,rfl⟩
 by_cases f:k=8
 .subst f;go_enter func109,ntmps109;go_wp2;go_ret;exact⟨rfl,rfl⟩
 by_cases g:k=9
 .subst g;go_enter func109,ntmps109;go_wp2;go_ret;exact⟨rfl,rfl⟩
 by_cases a:k=10
 .subst a;go_enter func109,ntmps109;go_wp2;go_ret;exact⟨rfl,rfl⟩
 have d:=Zh (by  grind:eT k=F)
 clear b;go_enter func109,ntmps109;go_wp2;go_ret;exact⟨QY d.o.symm,rfl⟩
theorem Ri:∀(f x:Nat),x<=f->x<2 ^ 64->kW x=Lib.bitLen x:=by
 intro f
 induction f with
 |zero =>
  intro x a _;obtain rfl:x=0:=X;rw[uj];rfl
 |succ f ih =>
  intro x a h;by_cases b:x=0
  .grind
  .rw[Dz X,Lib.bitLen_half x b h,ih (x / 2) X X,Nat.add_comm]
theorem Ms(x:Nat)(h:x<2 ^ 64):kW x<=64:=by
 have key:∀(f x:Nat),x<2 ^ f->kW x<=f:=by
  intro f
  induction f with
  |zero =>
   intro x a;obtain rfl:x=0:=X;rw[uj];omega
  |succ f ih =>
   intro x a;by_cases b:x=0
   .subst b;rw[uj];omega
   .rw[Dz X]
    grind
 exact key 64 x h
theorem vO(l:Qy Nat):iU l<=bQ:=by rw[zP];exact Nat.min_le_right _ _
def VG(hk:k<N l):(l.take (k+1)).sum=(l.take k).sum+E l k 0/\(l.take (k+1)).sum<=l.sum:=by
 have e:E l k 0=l[k]:=by simp[List.getD,hk]
 refine⟨by rw[Q4 hk,e,List.sum_append];simp,?_⟩;have h:l.sum=(l.take (k+1)).sum+(l.drop (k+1)).sum:=by rw[<-List.sum_append,List.take_append_drop]
 omega
def Rj{l:Qy Nat}{k:Nat}(hk:k<N l)(h:bQ-iU (l.take k)<E l k 0):iU l=bQ:=by obtain⟨a,b⟩:=VG hk;rw[zP]at h ⊢;omega
def Mt{l:Qy Nat}{k:Nat}(hk:k<N l)(h:¬bQ-iU (l.take k)<E l k 0):iU (l.take (k+1))=iU (l.take k)+E l k 0:=by
 have e:E l k 0=l[k]:=by simp[List.getD,hk]
 have a:iU (l.take (k+1))=vF (iU (l.take k)) (E l k 0):=by rw[Q4 hk,e];unfold iU;rw[ZM];rfl
 have:=vO (l.take k);rw[a];unfold vF;omega
def Rk{a b:Nat}(h:0<a*b / 18446744073709551616):fA a b=18446744073709551615:=by unfold fA bQ;omega
def Rl{a b:Nat}(h:¬0<a*b / 18446744073709551616):fA a b=a*b % 18446744073709551616:=by unfold fA bQ;omega
def Mv(w:U)(xs:Qy Nat)(t:TypeId)(hl:N xs<=1000):dY (w.alloc (Qt (xs.map λ(x:Nat)=>Value.int Qq (x:Int)).toArray t)) (O (aD (M (H w)) 0)) xs:=by refine⟨hl,λi a=>⟨M (H w),0,rfl,?_⟩⟩;simp only[World.cell?,lT w _];simp[List.getD,a]
def Tryz.Ip:Go.Shelf.Ren:=⟨fun|129=>206|264=>205|n=>n,fun|3=>3|4=>4|5=>5|9=>9|46=>77|53=>37|n=>n,fun|n=>n⟩
def Tryz.aiD:Go.Proofs.Lays.n129 V Tryz.Ip:={
 mixed:=Qd
 f129:=func206.trans (congrArg O Qd)
 t3:=underlying3
 a3:=isAgg3
 z3:=sizeOf3
 v3:=zeroValue3
 t4:=underlying4
 a4:=isAgg4
 z4:=sizeOf4
 v4:=zeroValue4
 t5:=underlying5
 a5:=isAgg5
 z5:=sizeOf5
 v5:=zeroValue5
 t9:=underlying9
 a9:=isAgg9
 z9:=sizeOf9
 v9:=zeroValue9
 t46:=underlying77
 a46:=isAgg77
 z46:=sizeOf77
 v46:=zeroValue77
 t53:=underlying37
 a53:=isAgg37
 z53:=sizeOf37
 v53:=zeroValue37 }
def Tryz.aiE:Go.Proofs.Lays.n264 V Tryz.Ip:={
 mixed:=Qd
 f264:=func205.trans (congrArg O Qd)
 t46:=underlying77
 a46:=isAgg77
 z46:=sizeOf77
 v46:=zeroValue77
 t53:=underlying37
 a53:=isAgg37
 z53:=sizeOf37
 v53:=zeroValue37 }
def Rm(x:Nat)(w:U)(hx:x<=bQ):Ce 206 #[I Qq (x:Int)] w (I J (kW x:Nat)):=by
 have h:=Go.Proofs.Any.bits_Len64 Tryz.aiD (x:Int) w X (by unfold bQ at hx;omega);have e:Lib.bitLen (x:Int).toNat=kW x:=by rw[Xv];exact(Ri x x (Za _) (by unfold bQ at hx;omega)).symm
 rw[e]at h;exact h
def Rn(x y:Nat)(w:U)(hx:x<=bQ)(hy:y<=bQ):Ce 205 #[I Qq (x:Int),I Qq (y:Int)] w (.tuple #[I Qq ((x*y / 18446744073709551616:Nat):Int),I Qq ((x*y % 18446744073709551616:Nat):Int)]):=
 Go.Proofs.Any.bits_Mul64 Tryz.aiE x y (by unfold bQ at hx;omega) (by unfold bQ at hy;omega) w
def uw(a b:Nat)(w:U)(ha:a<=bQ)(hb:b<=bQ):Ce 191 #[I Qq (a:Int),I Qq (b:Int)] w (I Qq (fA a b:Nat)):=by
 have d:=Rn a b w ha hb;have f:Qn _:=@Rk a b;have g:Qn _:=@Rl a b;generalize a*b / 18446744073709551616=hi,a*b % 18446744073709551616=lo,fA a b=t at*;clear ha hb;go_enter func191,ntmps191;go_wp2_with fail;refine d.mono ?_;clear d;rintro e i ⟨rfl,rfl⟩;by_cases h:0<hi
 .go_wp2;go_ret;exact⟨QZ (by rw[f.o h];rfl),rfl⟩
 .go_wp2;go_ret;exact⟨QZ (by rw[g.o h]),rfl⟩
theorem aa4(ao:PN)(cap:Nat)(xs:Qy Nat)(w:U)(hx:dY w ao xs)(hs:∀x∈xs,x<=bQ) :
  Ce 192 #[Z ao (N xs) cap] w (I Qq (iU xs:Nat)):=by
 have z:=hx.1;have n:Qn _:=hx;have p:Qn _:=hs;have q:Qn (iU (xs.take (N xs))=iU xs):=by show _=_;rw[ZJ]
 clear hx hs;go_enter func192,ntmps192;go_wp2;go_loopw [3,8] (λy j wr=>∃k:Nat,k<=N xs/\j=I J k/\(∃s:Nat,y=I Qq (s:Int)/\Qn (s=iU (xs.take k)))/\wr=w) (λ_ j _=>N xs-(intOf j).toNat)
 case atStart=>exact⟨0,ZB _,rfl,⟨0,rfl,rfl⟩,rfl⟩
 case round=>
  obtain⟨k,A,rfl,⟨s,rfl,hs⟩,rfl⟩:=hrel;by_cases a:k<N xs
  .obtain⟨b,v,rfl,m⟩:=dY.get n.o a;have r:=m k a;have l:=p.o _ (Xy a (d:=0));have f:Qn _:=@Rj xs k a;have g:Qn _:=@Mt xs k a;have t:s<=18446744073709551615:=by rw[hs.o];exact vO _
   rw[<-hs.o]at f g;have u:E xs k 0<=18446744073709551615:=l;clear m l;generalize E xs k 0=x at*;by_cases e:18446744073709551615-s<x
   .have i:Qn (iU xs=18446744073709551615):=f.o e;clear f g hs;go_wp2;go_ret;exact⟨QZ (by rw[i.o];rfl),rfl⟩
   .have i:Qn _:=g.o e;clear f g hs;go_wp2;go_roundw
    case rel=>grind
    case measure=>exact XK
  .obtain rfl:k=N xs:=X
   have i:Qn (s=iU xs):=hs.o.trans q.o;clear hs;go_wp2;go_ret;exact⟨QZ (by rw[i.o]),rfl⟩
def Am(w:U)(xs:Qy Nat)(hl:N xs<=1000)(hs:∀x∈xs,x<=bQ) :
  Calls V 192 #[Z (O (aD (M (H w)) 0)) (N xs) (N xs)] (w.alloc (Qt (xs.map λ(x:Nat)=>Value.int Qq (x:Int)).toArray 37)) λe w'=>e=Qv (I Qq (iU xs:Nat))/\w' = w.alloc (Qt (xs.map λ(x:Nat)=>Value.int Qq (x:Int)).toArray 37):=
 aa4 _ _ xs _ (Mv w xs _ hl) hs
theorem aes(w:U)(a b:Nat)(ha:a<=bQ)(hb:b<=bQ) :
  Calls V 192 #[Z (O (aD (M (H w)) 0)) 2 2] (w.alloc (Qt #[I Qq (a:Int),I Qq (b:Int)] 37)) λe w'=>e=Qv (I Qq (iU [a,b]:Nat))/\Bw w w':=
 (Am w [a,b] Qa (λx d=>Qb)).mono λ_ _ ⟨h1,h2⟩=>⟨h1,by rw[h2];exact cZ _ _⟩
theorem aet(w:U)(a b c:Nat)(ha:a<=bQ)(hb:b<=bQ)(hc:c<=bQ) :
  Calls V 192 #[Z (O (aD (M (H w)) 0)) 3 3] (w.alloc (Qt #[I Qq (a:Int),I Qq (b:Int),I Qq (c:Int)] 37)) λe w'=>e=Qv (I Qq (iU [a,b,c]:Nat))/\Bw w w':=
 (Am w [a,b,c] Qa (λx d=>Qb)).mono λ_ _ ⟨h1,h2⟩=>⟨h1,by rw[h2];exact cZ _ _⟩
theorem aob(w:U)(a b c d:Nat)(ha:a<=bQ)(hb:b<=bQ)(hc:c<=bQ)(hd:d<=bQ) :
  Calls V 192 #[Z (O (aD (M (H w)) 0)) 4 4] (w.alloc (Qt #[I Qq (a:Int),I Qq (b:Int),I Qq (c:Int),I Qq (d:Int)] 37)) λe w'=>e=Qv (I Qq (iU [a,b,c,d]:Nat))/\Bw w w':=
 (Am w [a,b,c,d] Qa (λx f=>Qb)).mono λ_ _ ⟨h1,h2⟩=>⟨h1,by rw[h2];exact cZ _ _⟩
def EZ(k:Int)(l r s:Nat)(w:U)(hl:l<=bQ)(hr:r<=bQ)(hs:s<=bQ) :
  Cb 193 #[I J k,I Qq (l:Int),I Qq (r:Int),I Qq (s:Int)] w (I Qq (tL k l r s:Nat)):=by
 by_cases f:k=4
 .subst f;have h:=aob w l r r s hl hr hr hs;have a:tL 4 l r s=iU [l,r,r,s]:=rfl;rw[a];generalize iU [l,r,r,s]=x at*;clear hl hr hs a;go_enter func193,ntmps193;go_wp2_with fail;refine h.mono ?_;clear h;rintro e d ⟨rfl,b⟩;go_wp2;go_ret;exact⟨rfl,b⟩
 by_cases g:k=5
 .subst g;have h:=aet w l r s hl hr hs;have a:tL 5 l r s=iU [l,r,s]:=rfl;rw[a];generalize iU [l,r,s]=x at*;clear hl hr hs a;go_enter func193,ntmps193;go_wp2_with fail;refine h.mono ?_;clear h;rintro e d ⟨rfl,b⟩;go_wp2;go_ret;exact⟨rfl,b⟩
 have h:=uw l r w hl hr;have a:tL k l r s=fA l r:=by unfold tL;rw[Zg f,Zg g]
 rw[a];generalize fA l r=x at*;clear hl hr hs a;go_enter func193,ntmps193;go_wp2_with fail;refine h.mono ?_;clear h;rintro e d ⟨rfl,rfl⟩;go_wp2;go_ret;exact⟨rfl,Q9 _ _⟩
def E8(l:Nat)(w:U)(hl:l<=bQ) :
  Ce 194 #[I Qq (l:Int)] w (I Qq (fA l (kW l+1):Nat)):=by have a:=Rm l w hl;have d:kW l<=64:=Ms l (by unfold bQ at hl;omega);have b:=uw l (kW l+1) w hl (by unfold bQ;omega);generalize kW l=n at*;generalize fA l (n+1)=x at*;clear hl;go_enter func194,ntmps194;go_wp2_with fail;refine a.mono ?_;clear a;rintro e f ⟨rfl,rfl⟩;go_wp2_with fail;refine b.mono ?_;clear b;rintro e g ⟨rfl,rfl⟩;go_wp2;go_ret;exact⟨rfl,rfl⟩
def nE(Fq:Qz)(ao:PN)(n:Nat):Prop:=0<n->∀a,ao=O a->Fq a.block
def dh(w:U)(ao:PN)(xs:Qy Nat):Prop:=
 N xs<=1000000/\bg w ao (N xs) (λi=>Y (O (aD (E xs i 0) 0)))
def dh.get{w:U}{ao:PN}{xs:Qy Nat}(h:dh w ao xs){i:Nat}(hi:i<N xs) :
  ∃b a,ao=O (aD b a)/\∀j,j<N xs->Qp w (aD b (a+j))=O (Y (O (aD (E xs j 0) 0))):=
 Q0 h.2 hi
def dh.below{w w':U}(hb:Bw w w'){ao:PN}{xs:Qy Nat}(h:dh w ao xs):dh w' ao xs:=⟨h.1,h.2.below hb⟩
def bg.aV{A B:U}{Fq:Qz}{ao:PN}{n:Nat}{f:Nat->Qm}(h:bg A ao n f)(hk:Kept Fq A B)(hF:nE Fq ao n):bg B ao n f:=by
 cases n with
 |zero=>intro i e;omega
 |succ m=>exact h.keep (λa b d=>hk.block _ d (hF X a b))
def IntsAt.aV{A B:U}{Fq:Qz}{ao:PN}{xs:Qx}(h:IntsAt A ao xs)(hk:Kept Fq A B)(hF:nE Fq ao (N xs)):IntsAt B ao xs:=⟨h.1,h.2.aV hk hF⟩
def dh.aV{A B:U}{Fq:Qz}{ao:PN}{xs:Qy Nat}(h:dh A ao xs)(hk:Kept Fq A B)(hF:nE Fq ao (N xs)):dh B ao xs:=⟨h.1,h.2.aV hk hF⟩
def bg.lt{f:Nat->Qm}(h:bg w ao n f)(hn:0<n):∀a,ao=O a->a.block<M (H w):=by intro a i;obtain⟨b,d,e,g⟩:=h 0 hn;rw[i]at e;injection e with e;rw[e];exact ZW g
def nE.mono{Fq G:Qz}{w:U}{ao:PN}{n:Nat}{f:Nat->Qm}(hc:bg w ao n f)(h:nE Fq ao n)(hs:∀b,b<M (H w)->Fq b->G b):nE G ao n:=
 λd a e=>hs _ (hc.lt d a e) (h d a e)
def DL(p:aC)(n:ai)(v:Qm):Array Value:=
 #[I J p.kind,I Qq (p.sources:Int),I Qq (p.clauses:Int),p.order.val,I Qq (p.size:Int),I Qq (p.cost:Int),
  I J n.kind,I J n.l,I J n.r,I J n.source,n.cl.val,I J n.key,n.co.val,v]
structure oH(Tq:TypeId)(Fq:Qz)(w:U)(a:Nat)(t:aP)(p:aC)(n:ai)(bo:PN)(bc:Nat)(bs:Qy (Nat × aP)):Prop where
 blk:Fq a
 gb:GB w a Tq (DL p n (Z bo (N bs) bc))
 part:p.d=t.d
 ok:p.Ok w
 ord:nE Fq p.order.ad (N p.order.xs)
 cl:n.cl.At w
 clf:nE Fq n.cl.ad (N n.cl.xs)
 cln:n.cl.ad=none->n.cl.cap=0
 co:n.co.At w
 cof:nE Fq n.co.ad (N n.co.xs)
 con:n.co.ad=none->n.co.cap=0
 ptrs:dh w bo (bs.map Prod.fst)
 ptf:nE Fq bo (N bs)
 VB:N bs<=bc
 nil:bo=none->bc=0
 lay:t.ns=pF n (bs.map λx=>x.2.ns)
 two:N bs<=2
 kind:1<=n.kind/\n.kind<=10
 lens:N n.cl.xs<=1000/\N n.co.xs<=1000
def lI(Tq:TypeId)(Fq:Qz):Nat->U->Nat->aP->Prop
 |0,_,_,_=>False
 |k+1,w,a,t=>∃p n bo bc bs,oH Tq Fq w a t p n bo bc bs/\∀x∈bs,lI Tq Fq k w x.1 x.2
theorem oH.aV{Tq:TypeId}{Fq:Qz}{w w':U}{a:Nat}{t:aP}{p:aC}{n:ai}{bo:PN}{bc:Nat}{bs:Qy (Nat × aP)}(h:oH Tq Fq w a t p n bo bc bs)(hk:Kept Fq w w'):oH Tq Fq w' a t p n bo bc bs where
 blk:=h.blk
 gb:=h.gb.keep hk h.blk
 part:=h.part
 ok:=⟨IntsAt.aV h.ok.order hk h.ord,h.ok.cap,h.ok.sources,h.ok.clauses,h.ok.size,h.ok.cost⟩
 ord:=h.ord
 cl:=IntsAt.aV h.cl hk h.clf
 clf:=h.clf
 cln:=h.cln
 co:=IntsAt.aV h.co hk h.cof
 cof:=h.cof
 con:=h.con
 ptrs:=h.ptrs.aV hk (by grind [oH.ptf])
 ptf:=h.ptf
 VB:=h.VB
 nil:=h.nil
 lay:=h.lay
 two:=h.two
 kind:=h.kind
 lens:=h.lens
theorem oH.mono{Tq:TypeId}{Fq G:Qz}{w:U}{a:Nat}{t:aP}{p:aC}{n:ai}{bo:PN}{bc:Nat}{bs:Qy (Nat × aP)}(h:oH Tq Fq w a t p n bo bc bs)(hs:∀b,b<M (H w)->Fq b->G b):oH Tq G w a t p n bo bc bs where
 blk:=hs _ h.gb.lt h.blk
 gb:=h.gb
 part:=h.part
 ok:=h.ok
 ord:=nE.mono h.ok.order.2 h.ord hs
 cl:=h.cl
 clf:=nE.mono h.cl.2 h.clf hs
 cln:=h.cln
 co:=h.co
 cof:=nE.mono h.co.2 h.cof hs
 con:=h.con
 ptrs:=h.ptrs
 ptf:=by have:=nE.mono h.ptrs.2 (by grind [oH.ptf]) hs;simp_all
 VB:=h.VB
 nil:=h.nil
 lay:=h.lay
 two:=h.two
 kind:=h.kind
 lens:=h.lens
def lI.aV{Tq:TypeId}{Fq:Qz}{w w':U}(hk:Kept Fq w w'):∀{k a:Nat} {t:aP},lI Tq Fq k w a t->lI Tq Fq k w' a t
 |0,_,_,h=>h
 |_+1,_,_,⟨p,n,bo,bc,bs,hb,hs⟩=>⟨p,n,bo,bc,bs,hb.aV hk,λx hx=>(hs x hx).aV hk⟩
def lI.mono{Tq:TypeId}{Fq G:Qz}{w:U}(hs:∀b,b<M (H w)->Fq b->G b):∀{k a:Nat} {t:aP},lI Tq Fq k w a t->lI Tq G k w a t
 |0,_,_,h=>h
 |_+1,_,_,⟨p,n,bo,bc,bs,hb,hx⟩=>⟨p,n,bo,bc,bs,hb.mono hs,λx h=>(hx x h).mono hs⟩
theorem lI.more{Tq:TypeId}{Fq:Qz}{w:U}:∀{k m a:Nat} {t:aP},lI Tq Fq k w a t->k<=m->lI Tq Fq m w a t
 |0,_,_,_,h,_=>h.elim
 |_+1,0,_,_,_,h=>X
 |_+1,_+1,_,_,⟨p,n,bo,bc,bs,hb,hx⟩,h=>⟨p,n,bo,bc,bs,hb,λx hm=>(hx x hm).more X⟩
def aF(Tq:TypeId)(Fq:Qz)(w:U)(a:Nat)(t:aP):Prop:=∃k,lI Tq Fq k w a t
def aF.aV{Tq:TypeId}{Fq:Qz}{w w':U}{a:Nat}{t:aP}(h:aF Tq Fq w a t)(hk:Kept Fq w w'):aF Tq Fq w' a t:=h.imp λ_ h=>h.aV hk
def aF.mono{Tq:TypeId}{Fq G:Qz}{w:U}{a:Nat}{t:aP}(h:aF Tq Fq w a t)(hs:∀b,b<M (H w)->Fq b->G b):aF Tq G w a t:=h.imp λ_ h=>h.mono hs
def aF.below{Tq:TypeId}{Fq:Qz}{w w':U}{a:Nat}{t:aP}(h:aF Tq Fq w a t)(hb:Bw w w'):aF Tq Fq w' a t:=h.aV (ZP hb λ_ h _=>h)
theorem aF.get{Tq:TypeId}{Fq:Qz}{w:U}{a:Nat}{t:aP}(h:aF Tq Fq w a t):∃p n bo bc bs,oH Tq Fq w a t p n bo bc bs/\∀x∈bs,aF Tq Fq w x.1 x.2:=by
 obtain⟨k,h⟩:=h
 cases k with
 |zero=>exact h.elim
 |succ k =>
  grind [lI,aF]
theorem DR{Tq:TypeId}{Fq:Qz}{w:U}:∀{bs:Qy (Nat × aP)},(∀x∈bs,aF Tq Fq w x.1 x.2)->∃k,∀x∈bs,lI Tq Fq k w x.1 x.2
 |[],_=>⟨0,λx h=>by cases h⟩
 |y::bs,h=>by obtain⟨k,hk⟩:=DR λx hx=>h x (XJ _ hx);obtain⟨m,hm⟩:=h y XL;refine⟨max k m,λx hx=>?_⟩;grind [lI.more]
def aF.intro{Tq:TypeId}{Fq:Qz}{w:U}{a:Nat}{t:aP}{p:aC}{n:ai}{bo:PN}{bc:Nat}{bs:Qy (Nat × aP)}(h:oH Tq Fq w a t p n bo bc bs)(hx:∀x∈bs,aF Tq Fq w x.1 x.2):aF Tq Fq w a t:=by obtain⟨k,b⟩:=DR hx;exact⟨k+1,p,n,bo,bc,bs,h,b⟩
def XI:=@IntsAt.aV
def vL(hc:fD ts=T)(hi:i<N ts):dK (E ts i tz)=true:=by
 cases h:dK (E ts i tz) with
 |true=>rfl
 |false=>rw[<-Vk hi h]at hc;cases hc
def vM{src:Qx}(hc:fD ts=T)(ha:bP src (N ts)=T)(h0:0<=c)(hl:c<aN ts src):1<=jF ts src c/\jF ts src c<=1000000:=by
 obtain⟨d,j,k,e⟩:=mO hc ha h0 hl;have f:=jO ts src (aY ts src c) d;have g:=rU hc ha (aY ts src c) X;have i:=mi ha d;have a:E src (aY ts src c) 0=src[aY ts src c]:=by simp[List.getD,d]
 rw[a]at e;have b:dK (E ts (src[aY ts src c]).toNat tz)=true:=vL hc X;unfold dK at b;rw[Zf]at b;rw[e];exact b.2.2.2.2 _ X
theorem VC(h:w.ownsRow base e 1 v n (xs.map (Value.int J)))(hl:N xs<=1152921504606846976):∃d cap,v=Z d (N xs) cap/\IntsAt w d xs:=by
 have f:N xs=n:=by have:=h.1;simpa using this
 rcases h.2 with⟨rfl,h0⟩|⟨g,cap,cur,rfl,_,hh,_,_,_,ht⟩
 .have:xs=[]:=Zk X;subst this;exact⟨none,0,rfl,⟨Qa,λi b=>absurd b Qa⟩⟩
 .refine⟨O (aD g 0),cap,by rw[<-f],⟨hl,λi b=>⟨g,0,rfl,?_⟩⟩⟩;have a:(cur.toList.take (n*1))[i]? = O (I J (E xs i 0)):=by grind
  rw[List.getElem?_take_of_lt X]at a;rw[ZC];simp only[World.cell?,hh];simpa using a
def CR{cs:Qy aA}(hk:k<N cs):bX (cs.take (k+1))=bX (cs.take k)++aK (E cs k cz):=by
 have e:E cs k cz=cs[k]:=by simp[List.getD,hk]
 rw[Q4 hk,e];unfold bX;rw[ZF];simp
def EX(c:aA):N (aK c)<=2:=by unfold aK;split <;> simp
def own_below{w w':U}{base:Nat}{e:TypeId}{sz:Nat}{v:Qm}{n:Nat}{xs:Qy Qm}(h:w.ownsRow base e sz v n xs)(hb:Bw w w'):w'.ownsRow base e sz v n xs:=vK h (Za _) (λj _ a=>hb.block j a)
def XM:=@own_below
theorem IntsAt.take(h:IntsAt w ao xs)(k:Nat):IntsAt w ao (xs.take k):=by refine⟨by have:=h.1;rw[XT];omega,λi d=>?_⟩;rw[XT]at d;obtain⟨b,a,e,f⟩:=h.2 i X;grind
theorem Ir{l:Qx}{k:Nat}(hk:k<N l)(h:E l k 0≠k):nJ l=false:=by unfold nJ;grind
theorem Iu{l:Qx}(h:∀i,i<N l->E l i 0=i):nJ l=true:=by unfold nJ;grind
theorem Ro(ao:PN)(cap:Nat)(xs:Qx)(v:Int)(w:U)(hx:IntsAt w ao xs) :
  Calls V 167 #[Z ao (N xs) cap,I J v] w λe w'=>∃r:Int,e=Qv (I J r)/\Qn (0<=r↔v∈xs)/\w' = w:=by
 have u:=hx.1;go_enter func167,ntmps167;go_wp2;go_loop [8] (λi=>∃k:Nat,k<=N xs/\i=I J k/\v ∉ xs.take k) (λi=>N xs-(intOf i).toNat)
 case atStart=>grind
 case round=>
  obtain⟨k,y,rfl,d⟩:=hrel;by_cases a:k<N xs
  .obtain⟨b,t,rfl,p⟩:=hx.get a;have q:=p k a;have m:=Zh (CQ (v:=v) a);have g:Qn _:=d;have n:Qn (E xs k 0∈xs):=by grind
   clear p hx d;obtain⟨x,f⟩:=eY (E xs k 0);rw[<-f]at q m n;clear f;by_cases l:v=x
   .have j:(v==x)=true:=by simp[l]
    go_wp2;go_ret;exact⟨k,rfl,⟨λ_=>n.o,λ_=>X⟩,rfl⟩
   .have j:(v==x)=false:=by simp[l]
    go_wp2;go_round
    case rel=>exact⟨k+1,X,Qe,λe=>by
     rcases m.o.1 e with e|e
     .exact g.o e
     .exact l e.symm⟩
    case measure=>exact XK
  .have e:k=N xs:=X
   rw[e,ZJ]at d;have g:Qn _:=d;clear d;go_wp2;go_ret;exact⟨-1,rfl,⟨λh=>absurd h X,λh=>absurd h g.o⟩,rfl⟩
def vP(ao:PN)(cap:Nat)(xs:Qx)(v:Int)(w:U)(hx:IntsAt w ao xs) :
  Ce 117 #[Z ao (N xs) cap,I J v] w (Qr (decide (v∈xs))):=by have h:=Ro ao cap xs v w hx;clear hx;go_enter func117,ntmps117;go_wp2_with fail;refine h.mono ?_;clear h;rintro e b ⟨r,rfl,a,rfl⟩;go_wp2;go_ret;exact⟨QY (by rw[XU,Zf,Zf];exact a.o),rfl⟩
def DV(ao bo:PN)(cap cap':Nat)(xs ys:Qx)(w:U)(hx:IntsAt w ao xs)(hy:IntsAt w bo ys) :
  Cb 122 #[Z ao (N xs) cap,Z bo (N ys) cap'] w (Qr (decide (xs=ys))):=by
 have A:=hy.1;by_cases a:N xs=N ys
 .have d:=Zh a;have q:((N xs:Int) != (N ys:Int))=false:=by rw[a];simp
  have B:N xs<=N ys:=X;clear a;go_enter func122,ntmps122;go_wp2;go_loopw [13] (λi wr=>∃k:Nat,k<=N xs/\i=I J k/\Qn (xs.take k=ys.take k)/\∃n,wr=w.drewN n) (λi _=>N xs-(intOf i).toNat)
  case atStart=>exact⟨0,ZB _,rfl,rfl,0,rfl⟩
  case round=>
   obtain⟨k,L,rfl,t,n,rfl⟩:=hrel;by_cases l:k<N xs
   .have f:k<N ys:=X
    obtain⟨b,K,rfl,u⟩:=hx.get l;obtain⟨P,off',rfl,m⟩:=hy.get f;have C:=u k l;have D:=m k f;clear u m hx hy;obtain⟨x,g⟩:=eY (E xs k 0);obtain⟨y,j⟩:=eY (E ys k 0);rw[<-g]at C;rw[<-j]at D;obtain⟨v,z⟩:=aS g j;clear g j;by_cases p:x=y
    .have r:(x != y)=false:=by simp[p]
     go_wp2;go_quiet (fail);go_wp2;go_roundw
     case rel=>exact⟨k+1,X,Qe,EW l f t.o (by rw[<-v.o,<-z.o];exact p),_,rfl⟩
     case measure=>exact XK
    .have r:(x != y)=true:=by simp[p]
     go_wp2;go_quiet (fail);go_wp2;go_ret;exact⟨QY (Zr (λe=>p (by rw[v.o,z.o,e]))).symm,below_drewN (below_drewN (Q9 _ _) _) _⟩
   .have G:=Zh (by  omega:k=N xs)
    go_wp2;go_ret;exact⟨QY (by refine(Zi ?_).symm;have:=t.o;rw[G.o,ZJ,d.o,ZJ]at this;exact this),below_drewN (Q9 _ _) _⟩
 .have q:((N xs:Int) != (N ys:Int))=true:=by rw[bne_iff_ne];omega
  have d:Qn _:=a;clear a;go_enter func122,ntmps122;go_wp2;go_ret;exact⟨QY (Zr (λe=>d.o (by rw[e]))).symm,Q9 _ _⟩
theorem iY(ao bo:PN)(cap cap':Nat)(xs ys:Qx)(w:U)(hx:IntsAt w ao xs)(hy:IntsAt w bo ys)(hcap:N xs<=cap) :
  Cb 161 #[Z ao (N xs) cap,Z bo (N ys) cap'] w (Qr (aO xs ys)):=by
 have f:=hy.1;by_cases a:N ys<=N xs
 .have b:=Zh (by unfold aO;rw[Zi a,Zj]:aO xs ys=decide (xs.take (N ys)=ys))
  have d:=DV ao bo cap cap' (xs.take (N ys)) ys w (hx.take _) hy;rw[XT,Nat.min_eq_left a]at d;generalize aO xs ys=S,decide (xs.take (N ys)=ys)=B at*;clear hx hy;go_enter func161,ntmps161;go_wp2_with fail;refine d.mono ?_;clear d;rintro e i ⟨rfl,g⟩;go_wp2;go_ret;exact⟨QY b.o.symm,g⟩
 .have b:=Zh (by unfold aO;grind:aO xs ys=F)
  generalize aO xs ys=S at*;clear hx hy;go_enter func161,ntmps161;go_wp2;go_ret;exact⟨QY b.o.symm,Q9 _ _⟩
def E9(ao:PN)(cap:Nat)(xs:Qx)(w:U)(hx:IntsAt w ao xs) :
  Ce 165 #[Z ao (N xs) cap] w (Qr (nJ xs)):=by
 have y:=hx.1;have q:Qn _:=@Ir xs;have r:Qn _:=@Iu xs;generalize nJ xs=C at*;go_enter func165,ntmps165;go_wp2;go_loop [7] (λi=>∃k:Nat,k<=N xs/\i=I J k/\Qn (∀j,j<k->E xs j 0=j)) (λi=>N xs-(intOf i).toNat)
 case atStart=>exact⟨0,ZB _,rfl,λj p=>absurd p X⟩
 case round=>
  obtain⟨k,z,rfl,m⟩:=hrel;by_cases d:k<N xs
  .obtain⟨b,v,rfl,n⟩:=hx.get d;have t:=n k d;clear n hx;have l:=Zh (q.o d);obtain⟨x,a⟩:=eY (E xs k 0)
   rw[<-a]at t l;have u:=Zh a;clear a;by_cases f:x=(k:Int)
   .have g:(x != (k:Int))=false:=by simp[f]
    have e:=Zh f;clear f;go_wp2;go_round
    case rel=>exact⟨k+1,X,Qe,λj p=>by
     rcases XV j k with h|h
     .exact m.o j h
     .obtain rfl:j=k:=X
      rw[<-u.o];exact e.o⟩
    case measure=>exact XK
   .have g:(x != (k:Int))=true:=by simp[f]
    have e:=Zh (l.o f);go_wp2;go_ret;exact⟨QY e.o.symm,rfl⟩
  .have e:=Zh (r.o (λi A=>m.o i X));go_wp2;go_ret;exact⟨QY e.o.symm,rfl⟩
def Rp(q:ae){k:Nat}(hk:k<N q.ord.xs):(q.ord.xs.take (k+1)).map (λp=>E q.aU.xs p.toNat 0)=(q.ord.xs.take k).map (λp=>E q.aU.xs p.toNat 0)++[E q.aU.xs (E q.ord.xs k 0).toNat 0]:=by
 have e:E q.ord.xs k 0=q.ord.xs[k]:=by simp[List.getD,hk]
 rw[Q4 hk,Q5,e];rfl
def mr{base':Nat}{size:Nat}{xs:Qy Qm}(h:w.ownsRow base e size v n xs)(hb:base'<=base):w.ownsRow base' e size v n xs:=vK h hb (λ_ _ _=>rfl)
def vQ{n:Int}(h:bP xs n=T)(hk:k<N xs):0<=E xs k 0/\E xs k 0<n:=by unfold bP at h;rw[Q7]at h;have:=h _ (Xy hk (d:=0));simpa using this
theorem mV(q:ae)(w:U)(hq:q.At w)(hos:bP q.ord.xs (N q.aU.xs)=T)(hol:N q.ord.xs<=1000) :
  Calls V 119 #[Qu q.cells] w λe w'=>∃v,e=Qv v/\w'.ownsRow (M (H w)) 3 1 v (N (gW q)) ((gW q).map (Value.int J))/\Bw w w':=by
 obtain⟨m,d⟩:=eY (w.alloc (Qt q.cells 26));have g:Bw w m:=by rw[d];exact cZ _ _
 have A:GB m (M (H w)) 26 q.cells:=by rw[d];exact lT _ _
 have q5:=A.at 5;have q6:=A.at 6;have ai:=d.symm;have vR:Qn (IntsAt w q.aU.ad q.aU.xs):=hq.aU;have B:Qn (IntsAt w q.ord.ad q.ord.xs):=hq.ord;have C:=Zh hos;have j:Qn (∀k,k<N q.ord.xs->_):=λk z=>@Rp q k z;have l:Qn (gW q=(q.ord.xs.take (N q.ord.xs)).map (λp=>E q.aU.xs p.toNat 0)):=by show _=_;rw[ZJ];rfl
 have aj:=hq.aU.1;have HL:Qn (∀k,N ((q.ord.xs.take k).map (λp=>E q.aU.xs p.toNat 0))<=1000):=λk=>Qb;clear d A hq hos;obtain⟨src,cK,aM,wh,group,r,t,⟨ea,ec,u⟩,⟨oa,oc,ord⟩⟩:=q;unfold ae.cells ah.val at*;simp only at*;generalize gW ⟨src,cK,aM,wh,group,r,t,⟨ea,ec,u⟩,⟨oa,oc,ord⟩⟩=WN at*;obtain⟨W,y⟩:=eY (λk=>(ord.take k).map (λp=>E u p.toNat 0):Nat->Qx);have D:Qn (∀k,k<N ord->W (k+1)=W k++[E u (E ord k 0).toNat 0]):=λk z=>by rw[y];exact j.o k z
 have G:=Zh (by  rw[y];exact l.o:WN=W (N ord))
 have K:Qn (∀k,N (W k)<=1000):=λk=>by rw[y];exact HL.o k
 have P:=Zh (by  rw[y];rfl:W 0=[])
 clear y j l HL;go_enter func119,ntmps119;go_wp2;go_loopw [3,9] (λv iv wr=>∃k:Nat,k<=N ord/\iv=I J k/\Qn (wr.ownsRow (M (H m)) 3 1 v (N (W k)) ((W k).map (Value.int J)))/\Bw m wr) (λ_ iv _=>N ord-(intOf iv).toNat)
 case atStart=>exact⟨0,ZB _,rfl,by rw[P.o];exact Xm _ _ _ _,Q9 _ _⟩
 case round=>
  obtain⟨k,z,rfl,i,a⟩:=hrel;have ak:=cB a q5;by_cases f:k<N ord
  .have k1:=az g a;obtain⟨ob,oo,rfl,S⟩:=Q3 B.o f;have au:=cB k1 (S k f);have Q:=vQ C.o f;have HT:=Zh (D.o k f);have ag:=K.o k;generalize E ord k 0=p at*;obtain⟨n,rfl⟩:=XR Q.1;have hn:n<N u:=X
   obtain⟨eb,eo,rfl,aa⟩:=Q3 vR.o hn;have av:=cB k1 (aa n hn);rw[Xv]at HT;generalize E u n 0=x at*;generalize ax:W k=L at*;obtain⟨ra,rm,rc,rfl⟩:=Xh i.o;obtain⟨v',w5,xO,tQ,af,⟨ua,um,uc,rfl⟩,-⟩:=VA wr (M (H m)) (Z ra rm rc) L i.o X a.size x 22;have R:=a.trans (af.below a.size (λb hb e=>Qk ((Xg i.o e).1)));rw[<-HT.o]at tQ;have Cv:Qn _:=tQ;have ko:=Zh R;go_wp2_with (first|(at_builtin;refine Xz rfl (.tmp 13) (.tmp 19) 22 rfl (Z ra rm rc) (Z (O (aD (M (H wr)) 0)) 1 1) (Z ua um uc) w5 rfl rfl xO ?_));go_wp2;go_roundw
   case rel=>exact⟨k+1,X,Qe,Cv.o,ko.o⟩
   case measure=>exact XK
  .obtain rfl:k=N ord:=X
   rw[<-G.o]at i;obtain⟨HF,HB⟩:=aS (mr i.o g.size) (az g a);clear i a;go_wp2;go_ret;exact⟨_,rfl,HF.o,HB.o⟩
structure aog(q:ae)(kind:Int):Prop where
 places:kind=9->bP q.ord.xs (N q.aU.xs)=T
 few:N q.ord.xs<=1000
theorem vS(q:ae)(kind:Int)(oa:PN)(oc:Nat)(order:Qx)(w:U)(hq:q.At w)(hk:aog q kind)(ho:IntsAt w oa order)(hcap:N order<=oc) :
  Cb 110 #[Qu q.cells,I J kind,Z oa (N order) oc] w (Qr (gX q kind order)):=by
 obtain⟨r,g⟩:=eY (w.alloc (Qt q.cells 26));have a:Bw w r:=by rw[g];exact cZ _ _
 have P:GB r (M (H w)) 26 q.cells:=by rw[g];exact lT _ _
 obtain⟨q0,q1,q2,q3,q4,q5,q6⟩:=P.k7;have W:=g.symm;have aa:=hq.ord.1;have af:=hq.keys.1;have z:Qn (kind=9->_):=λe=>mV q r (hq.below a) (hk.places e) hk.few;have A:Qn (∀K bc L x,Bw r x->IntsAt x K L->_):=λK bc L x hb hy=>iY oa K oc bc order L x (Q8 (az a hb) ho) hy hcap;have f:Qn _:=E9 q.ord.ad q.ord.cap q.ord.xs r (Q8 a hq.ord);obtain⟨n,i⟩:=eY (gX q kind order);rw[<-i];have Iw:Qn (N (gW q)<=1000):=by show _<=_;unfold gW;rw[ZH];exact hk.few
 unfold gX at i;have b:=Zh i;clear i;generalize gW q=WN,nJ q.ord.xs=CB at*;have m:=Zh a;clear g P hq hk ho a;obtain⟨⟨sa,sc,src⟩,cK,aM,wh,group,⟨ka,kc,t⟩,⟨ua,uc,R⟩,⟨ea,ec,aU⟩,⟨da,dc,ord⟩⟩:=q;unfold ae.cells ah.val at*;simp only at*;by_cases y:N ord=0
 .have d:=Zh (by  rw[b.o,Zb y]:n=T)
  have sW:((N ord:Int)==0)=true:=by rw[y];rfl
  clear b f z A y;go_enter func110,ntmps110;go_wp2;go_ret;exact⟨QY d.o.symm,m.o⟩
 rw[Zg y]at b;have sW:((N ord:Int)==0)=false:=by rw[XW];omega
 clear y;by_cases l:kind=10
 .have d:=Zh (by  rw[b.o,Zb l]:n=T)
  subst l;clear b f z A;go_enter func110,ntmps110;go_wp2;go_ret;exact⟨QY d.o.symm,m.o⟩
 rw[Zg l]at b;by_cases k9:kind=9
 .have d:=Zh (by  rw[b.o,Zb k9]:n=aO order WN)
  have Q:=z.o k9;subst k9;clear b f z;go_enter func110,ntmps110;go_wp2_with fail;refine Q.mono ?_;clear Q;rintro e S ⟨v,rfl,j,k⟩;obtain⟨ya,yc,rfl,u⟩:=VC j (Qk Iw.o);have p:=A.o ya yc WN S k u;rw[<-d.o]at p;have B:=Zh (az m.o k);clear A j u k;go_wp2_with fail;refine p.mono ?_;rintro e w3 ⟨rfl,G⟩;have C:=Zh (az B.o G);go_wp2;go_ret;exact⟨rfl,C.o⟩
 rw[Zg k9]at b;by_cases k8:kind=8
 .rw[Zb k8]at b;subst k8;by_cases ag:N ord<=N t
  .have d:Qn (n=CB):=Qb
   have D:=f.o;go_enter func110,ntmps110;go_wp2_with fail;refine XX D ?_;rintro e S ⟨rfl,rfl⟩;go_wp2;go_ret;exact⟨QY d.o.symm,m.o⟩
  .have d:Qn (n=F):=Qb
   go_enter func110,ntmps110;go_wp2;go_ret;exact⟨QY d.o.symm,m.o⟩
 .have d:=Zh (by  rw[b.o,Zg k8]:n=F)
  go_enter func110,ntmps110;go_wp2;go_ret;exact⟨QY d.o.symm,m.o⟩
def jI(kind:Int)(ps:Qy aC):Bool:=ps.all λp=>eT p.kind==decide (kind=10)
theorem Mw{kind:Int}{ps:Qy aC}{k:Nat}(hk:k<N ps)(h:(eT (E ps k bG).kind==decide (kind=10))=F):jI kind ps=false:=by unfold jI;grind
theorem Mx{kind:Int}{ps:Qy aC}(h:∀i,i<N ps->(eT (E ps i bG).kind==decide (kind=10))=T):jI kind ps=true:=by unfold jI;rw[Q7];intro p a;obtain⟨i,b,rfl⟩:=Zc a;grind
def uy(ts:Qy af)(q:ae)(l:Qx)(s i:Nat):Bool:=
 decide ((if i=0 then -1 else E l (i-1) 0)<E l i 0)&&decide (E l i 0<N q.wh)&&aT s (bD (dn ts q.src.xs (E q.wh (E l i 0).toNat lz).cs))
theorem Fa(kind:Int)(ao:PN)(cap:Nat)(ps:Qy aC)(w:U)(hp:PartsAt w ao ps) :
  Cb 106 #[I J kind,Z ao (N ps) cap] w (Qr (jI kind ps)):=by
 have hl:=hp.1;have u:Qn _:=@Mw kind ps;have Q:Qn _:=@Mx kind ps;have HP:Qn _:=hp;generalize jI kind ps=KL at*;clear hp;go_enter func106,ntmps106;go_wp2;go_loopw [9] (λP wr=>∃k:Nat,k<=N ps/\P=I J k/\Qn (∀j,j<k->(eT (E ps j bG).kind==decide (kind=10))=T)/\Bw w wr) (λP _=>N ps-(intOf P).toNat)
 case atStart=>exact⟨0,ZB _,rfl,λj hj=>absurd hj X,Q9 _ _⟩
 case round=>
  obtain⟨k,hk,rfl,r,g⟩:=hrel;by_cases q:k<N ps
  .obtain⟨⟨b,aa,rfl,W,c1,c2,c3,c4,c5⟩,_⟩:=HP.o.2 k q;obtain⟨d0,d1,d2,d3,d4,d5⟩:=PS g W c1 c2 c3 c4 c5;have m:=Zh (u.o q);have v:Qn (∀p,p=E ps k bG->(eT p.kind==decide (kind=10))=T->∀j,j<k+1->(eT (E ps j bG).kind==decide (kind=10))=T):=λp hp h j hj=>by
    rcases XV j k with S|S
    .exact r.o j S
    grind
   clear W c1 c2 c3 c4 c5 u r;obtain⟨p,hp⟩:=eY (E ps k bG);rw[<-hp]at d0 d1 d2 d3 d4 d5 m;have y:=Zh hp;clear hp;obtain⟨pk,D,G,⟨pa,pc,px⟩,K,L⟩:=p;unfold ah.val at*;simp only at*;have z:=λx=>vN pk x;obtain⟨t,l⟩:=eY (eT pk);rw[<-l]at m z;have A:=Zh l;clear l;have n:Bw w (wr.alloc (Qt #[I J pk,I Qq (D:Int),I Qq (G:Int),Z pa (N px) pc,I Qq (K:Int),I Qq (L:Int)] 102)):=az g (cZ _ _);have R:=Zh n;clear n;have f:decide (kind=10)=(kind==10):=by rw[XU];simp
   by_cases d:(t==decide (kind=10))=T
   .have B:(!(t==(kind==10)))=false:=by rw[<-f,d];rfl
    clear f;have HN:=Zh (v.o _ y.o (by rw[<-A.o];exact d));clear d v m;go_wp2_with fail;refine(z _).mono ?_;rintro e w2 ⟨rfl,rfl⟩;go_wp2;go_roundw
    case rel=>exact⟨k+1,X,Qe,HN.o,R.o⟩
    case measure=>exact XK
   .have a:(t==decide (kind=10))=false:=by simpa using d
    have C:=Zh (m.o a);have B:(!(t==(kind==10)))=true:=by rw[<-f,a];rfl
    clear f;clear d a v m;go_wp2_with fail;refine(z _).mono ?_;rintro e w2 ⟨rfl,rfl⟩;go_wp2;go_ret;exact⟨QY C.o.symm,R.o⟩
  .have C:=Zh (Q.o (λi hi=>r.o i X));clear u Q r;go_wp2;go_ret;exact⟨QY C.o.symm,g⟩
def aa6(ok:Ok ts q)(hk:k<N q.wh):bD (dn ts q.src.xs (E q.wh k lz).cs)<18446744073709551616:=
 (nV ok.cat ok.src (ok.aL k hk)).lt ok.small
theorem Rq{ts:Qy af}{q:ae}{l:Qx}{s k:Nat}(hk:k<N l)(h:uy ts q l s k=F):iE ts q l s=false:=by show (List.range (N l)).all (uy ts q l s)=F;grind
theorem Rs{ts:Qy af}{q:ae}{l:Qx}{s:Nat}(h:∀i,i<N l->uy ts q l s i=T):iE ts q l s=true:=by show (List.range (N l)).all (uy ts q l s)=T;grind
theorem qW(f:ay)(ts:Qy af)(q:ae)(la:PN)(lc:Nat)(l:Qx)(s:Nat)(w:U)(ok:Ok ts q)(hf:f.At ts q w)(hl:IntsAt w la l)(hs:s<18446744073709551616) :
  Cb 155 #[Qu (f.cells ts q),Z la (N l) lc,I Qq (s:Int)] w (Qr (iE ts q l s)):=by
 obtain⟨B,d⟩:=eY (w.alloc (Qt (f.cells ts q) 82));have b:Bw w B:=by rw[d];exact cZ _ _
 have W:GB B (M (H w)) 82 (f.cells ts q):=by rw[d];exact lT _ _
 have q1:=W.at 1;have aa:Qp B (aD (M (H w)) 11)=O (Z f.na (N q.wh) f.nc):=by rw[<-hf.nl];exact W.cell 11
 have ag:w.alloc (Qt (f.cells ts q) 82)=B:=d.symm;have Fb:Qn _:=hf.conc.below b;have Cw:Qn _:=Q8 b hl;have aA:=hl.1;have ah:=hf.query.wh.1;have HB:Qn _:=@Rq ts q l s;have HA:Qn _:=@Rs ts q l s;have v:Qn (∀i,uy ts q l s i=(decide ((if i=0 then -1 else E l (i-1) 0)<E l i 0)&&decide (E l i 0<N q.wh)&&aT s (bD (dn ts q.src.xs (E q.wh (E l i 0).toNat lz).cs)))):=λ_=>rfl;have y:Qn (∀k,k<N q.wh->E (aB ts q) k 0=bD (dn ts q.src.xs (E q.wh k lz).cs)/\bD (dn ts q.src.xs (E q.wh k lz).cs)<18446744073709551616):=λk C=>⟨xW ts q C,aa6 ok C⟩;have pJ:Qn _:=XC ts q;have P:Qn _:=b;generalize iE ts q l s=RB at*;obtain⟨Q,VH⟩:=eY (λk=>bD (dn ts q.src.xs (E q.wh k lz).cs):Nat->Nat);have Iy:Qn (∀i,uy ts q l s i=(decide ((if i=0 then -1 else E l (i-1) 0)<E l i 0)&&decide (E l i 0<N q.wh)&&aT s (Q (E l i 0).toNat))):=λi=>by rw[VH];exact v.o i
 have ai:Qn (∀k,k<N q.wh->E (aB ts q) k 0=Q k/\Q k<18446744073709551616):=λk C=>by rw[VH];exact y.o k C
 clear VH v y;generalize uy ts q l s=RA,aB ts q=CL at*;generalize az:N q.wh=nw at*;clear az;generalize f.cells ts q=FC at*;have aC:nw<=1152921504606846976:=ah;clear d W hf hl ok b;go_enter func155,ntmps155;go_wp2;clear ag;go_loopw [7,12] (λlv iv wr=>∃k:Nat,k<=N l/\iv=I J k/\(∃last:Int,lv=I J last/\-1<=last/\Qn (last=if k=0 then -1 else E l (k-1) 0))/\Qn (∀j,j<k->RA j=T)/\wr=B) (λ_ iv _=>N l-(intOf iv).toNat)
 case atStart=>exact⟨0,ZB _,rfl,⟨-1,rfl,X,rfl⟩,λj hj=>absurd hj X,rfl⟩
 case round=>
  obtain⟨k,C,rfl,⟨last,rfl,av,Fe⟩,R,rfl⟩:=hrel;by_cases t:k<N l
  .obtain⟨lb,lo,rfl,D⟩:=Q3 Cw.o t;have aj:=D k t;have a:Qn _:=Iy.o k;have g:Qn _:=HB.o t;rw[<-Fe.o]at a;have qD:Qn (∀c,c=E l k 0->c=if k+1=0 then -1 else E l (k+1-1) 0):=λc hc=>by rw[Zg X];exact hc
   have z:Qn (RA k=T->∀j,j<k+1->RA j=T):=λh j hj=>by
    rcases XV j k with h'|h'
    .exact R.o j h'
    grind
   clear D Fe R HB HA Iy;obtain⟨c,r⟩:=eY (E l k 0);rw[<-r]at aj a;have ak:Qn _:=qD.o c r;clear r qD;by_cases h1:c<=last
   .have p:Qn (RB=F):=g.o (by rw[a.o,Zr X];rfl);clear a g z;go_wp2;go_ret;exact⟨QY p.o.symm,P.o⟩
   by_cases h2:(nw:Int)<=c
   .have p:Qn (RB=F):=g.o (by rw[a.o,Zr (show ¬c<(nw:Int) by omega),Bool.and_false];rfl);clear a g z;go_wp2;go_ret;exact⟨QY p.o.symm,P.o⟩
   obtain⟨n,rfl⟩:=XR (show 0<=c by omega);have hn:n<nw:=X;obtain⟨G,ax⟩:=ai.o n hn;obtain⟨cb,co,K,L⟩:=dY.get Fb.o (show n<N CL by rw[pJ.o];exact hn);have au:=L n (by rw[pJ.o];exact hn);rw[G]at au;rw[Xv]at a;clear L G;rw[K]at aa;clear K;generalize Q n=m at*;have u:=kX s m hs ax wr;by_cases S:aT s m=T
   .rw[S]at u a;have HT:Qn _:=z.o (by rw[a.o,Zi X,Zi X];rfl);clear a g z S;go_wp2_with fail;refine u.mono ?_;clear u;rintro e w2 ⟨rfl,rfl⟩;go_wp2;go_roundw
    case rel=>exact⟨k+1,X,Qe,⟨n,rfl,X,ak.o⟩,HT.o,trivial⟩
    case measure=>exact XK
   .have A:aT s m=false:=by simpa using S
    rw[A]at u a;have p:Qn (RB=F):=g.o (by rw[a.o,Bool.and_false]);clear a g z S A;go_wp2_with fail;refine u.mono ?_;clear u;rintro e w2 ⟨rfl,rfl⟩;go_wp2;go_ret;exact⟨QY p.o.symm,P.o⟩
  .have p:Qn (RB=T):=HA.o (λi hi=>R.o i X);clear HB HA R;go_wp2;go_ret;exact⟨QY p.o.symm,P.o⟩
def Rt(ts:Qy af)(q:ae)(hk:k<N xs):bD (dZ ts q (xs.take (k+1)))=bD (dZ ts q (xs.take k))|||2 ^ aY ts q.src.xs (E xs k 0):=by
 have e:E xs k 0=xs[k]:=by simp[List.getD,hk]
 unfold dZ;rw[Q4 hk,Q5,yR,e];show _|||bD [(aY ts q.src.xs xs[k]:Int)]=_;rw[z8]
def gB(ts:Qy af)(q:ae)(xs:Qx):Prop:=∀c∈xs,0<=c/\c<aN ts q.src.xs
def uz(ok:Ok ts q)(h:gB ts q xs):iC (N q.src.xs) (dZ ts q xs):=λx e=>by obtain⟨c,a,rfl⟩:=ZL.1 e;obtain⟨b,d⟩:=h c a;have:=(mO ok.cat ok.src b d).1;omega
def O7(ok:Ok ts q)(h:gB ts q xs)(k:Nat):bD (dZ ts q (xs.take k))<18446744073709551616:=
 (uz ok (λc a=>h c (List.mem_of_mem_take a))).lt ok.small
def xZ(ok:Ok ts q):(N (gz ts q):Int)=aN ts q.src.xs:=by have:=pE ok.cat ok.src (N q.src.xs) (Za _);rw[ZJ]at this;exact this
def Ao(ok:Ok ts q)(h0:0<=c)(h1:c<aN ts q.src.xs):aY ts q.src.xs c<N q.src.xs:=(mO ok.cat ok.src h0 h1).1
theorem Ap(c:aA)(w:U) :
  Cb 129 #[c.val] w (Qr (!c.const&&decide (c.op≠2))):=by
 obtain⟨b,d,left,a,right⟩:=c;have e:=cZ w (Qt #[Qr b,I J d,I J left,Qr a,I J right] 66);have f:=Zh e;clear e;have g:Qn (decide (d≠2)=(d != 2)):=by show _=_;rw[XU];simp
 unfold aA.val
 cases a with
 |false =>
  go_enter func129,ntmps129;go_wp2;go_ret;exact⟨QY Qb,f.o⟩
 |true =>
  go_enter func129,ntmps129;go_wp2;go_ret;exact⟨rfl,f.o⟩
def uA(w:U)(xs:Qx)(t:TypeId)(hl:N xs<=1000):IntsAt (w.alloc (Qt (xs.map (Value.int J)).toArray t)) (O (aD (M (H w)) 0)) xs:=by refine⟨X,λi a=>⟨M (H w),0,rfl,?_⟩⟩;simp only[World.cell?,lT w _];simp[List.getD,a]
theorem qw(c:aA)(w:U) :
  Calls V 88 #[c.val] w λe w'=>∃b,e=Qv (Z (O (aD b 0)) (N (aK c)) (N (aK c)))/\IntsAt w' (O (aD b 0)) (aK c)/\Bw w w':=by
 have q:Qn _:=λx=>Ap c x;obtain⟨A,f,g,t⟩:=bC w #[Qr c.not,I J c.op,I J c.left,Qr c.const,I J c.right] 66;obtain⟨u,v,k,y,m⟩:=t.k5;have i:Qn (aK c=if (!c.const&&decide (c.op≠2))=T then [c.left,c.right] else [c.left]):=by show _=_;unfold aK;grind
 have j:=q.o A;generalize (!c.const&&decide (c.op≠2))=B,aK c=CC at*;clear q t;obtain⟨C,D,left,n,right⟩:=c;unfold aA.val at*;simp only at*;have r:=Zh g;clear g
 cases B with
 |true =>
  obtain rfl:CC=[left,right]:=i.o;have l:Qn (∀x:U,IntsAt (x.alloc (Qt #[I J left,I J right] 3)) (O (aD (M (H x)) 0)) [left,right]):=λx=>uA x [left,right] _ Qa;clear i;go_enter func88,ntmps88;go_wp2_with fail;refine j.mono ?_;clear j f;rintro e p ⟨rfl,a⟩;obtain⟨z,G⟩:=jf a k m;have d:=Zh (az (az r.o a) (cZ p (Qt #[I J left,I J right] 3)));clear a u v k y m;go_wp2;go_ret;exact⟨_,rfl,l.o _,d.o⟩
 |false =>
  obtain rfl:CC=[left]:=i.o;have l:Qn (∀x:U,IntsAt (x.alloc (Qt #[I J left] 3)) (O (aD (M (H x)) 0)) [left]):=λx=>uA x [left] _ Qa;clear i;go_enter func88,ntmps88;go_wp2_with fail;refine j.mono ?_;clear j f;rintro e p ⟨rfl,a⟩;have z:=cB a k;have d:=Zh (az (az r.o a) (cZ p (Qt #[I J left] 3)));clear a u v k y m;go_wp2;go_ret;exact⟨_,rfl,l.o _,d.o⟩
def nY(f:ay)(ts:Qy af)(q:ae)(xa:PN)(xc:Nat)(xs:Qx)(w:U)(ok:Ok ts q)(hf:fK w f.ca (gz ts q))(hx:IntsAt w xa xs)(hxs:gB ts q xs) :
  Cb 80 #[Qu (f.cells ts q),Z xa (N xs) xc] w (I Qq ((bD (dZ ts q xs):Nat):Int)):=by
 obtain⟨C,i⟩:=eY (w.alloc (Qt (f.cells ts q) 82));have g:Bw w C:=by rw[i];exact cZ _ _
 have sV:GB C (M (H w)) 82 (f.cells ts q):=by rw[i];exact lT _ _
 have q7:=sV.at 7;have G:=i.symm;have nG:Qn _:=hf.below g;have K:Qn _:=Q8 g hx;have ai:=hx.1;have aj:=hf.1;have t:Qn (∀k,k<N xs->bD (dZ ts q (xs.take (k+1)))=bD (dZ ts q (xs.take k))|||2 ^ aY ts q.src.xs (E xs k 0)):=λk D=>Rt ts q D;have DY:Qn (∀k,bD (dZ ts q (xs.take k))<18446744073709551616):=λk=>O7 ok hxs k;have vR:Qn (bD (dZ ts q (xs.take (N xs)))=bD (dZ ts q xs)):=by show _=_;rw[ZJ]
 have u:Qn (bD (dZ ts q (xs.take 0))=0):=rfl;have L:Qn (∀k,k<N xs->∃n:Nat,E xs k 0=n/\n<N (gz ts q)/\(E (gz ts q) n (0,0)).1=aY ts q.src.xs (E xs k 0)/\aY ts q.src.xs (E xs k 0)<64):=λk D=>by obtain⟨h0,h1⟩:=hxs _ (Xy D (d:=0));have h2:=xZ ok;have h3:=Ao ok h0 h1;have h4:=ok.small;refine⟨(E xs k 0).toNat,X,X,rfl,X⟩
 have oU:=Zh g;obtain⟨r,a⟩:=eY (λk=>bD (dZ ts q (xs.take k)):Nat->Nat);have zG:Qn (∀k,k<N xs->r (k+1)=r k|||2 ^ aY ts q.src.xs (E xs k 0)):=by rw[a];exact t.o
 have P:Qn (∀k,r k<18446744073709551616):=by rw[a];exact DY.o
 have Q:Qn (r (N xs)=bD (dZ ts q xs)):=by rw[a];exact vR.o
 have S:Qn (r 0=0):=by rw[a];exact u.o
 generalize bD (dZ ts q xs)=R,aY ts q.src.xs=SN,gz ts q=CS,f.cells ts q=FC at*;clear a t DY vR u i sV g ok hxs hf hx;go_enter func80,ntmps80;go_wp2;clear G;go_loopw [5,10] (λsv iv wr=>∃k:Nat,k<=N xs/\iv=I J k/\(∃s:Nat,sv=I Qq (s:Int)/\Qn (s=r k))/\Bw C wr) (λ_ iv _=>N xs-(intOf iv).toNat)
 case atStart=>exact⟨0,ZB _,rfl,⟨0,rfl,S.o.symm⟩,Q9 _ _⟩
 case round=>
  obtain⟨k,D,rfl,⟨s,rfl,y⟩,b⟩:=hrel;by_cases l:k<N xs
  .obtain⟨xb,xo,rfl,Lg⟩:=Q3 K.o l;have W:=cB b (Lg k l);obtain⟨n,hn,ag,z,A⟩:=L.o k l;have HT:=Zh (zG.o k l);have aa:s<18446744073709551616:=by rw[y.o];exact P.o k
   obtain⟨cb,co,B,c0,_⟩:=nG.o.2 n ag;obtain⟨d0,ah⟩:=jf b c0 q7;rw[B]at ah;rw[hn]at W;rw[z]at d0;rw[<-y.o]at HT;clear Lg c0 B z y;generalize SN (E xs k 0)=m at*;clear hn;obtain⟨wa,MC⟩:=eX (wr.alloc (Qt #[I J (m:Int)] 3));have Lh:=rX (M (H wr)) m wa (by rw[<-MC];simp) A;obtain⟨wb,j⟩:=eX (wa.alloc (Qt #[I Qq (s:Int),I Qq ((2 ^ m:Nat):Int)] 78));have hp:2 ^ m<18446744073709551616:=XN (n:=64) X A;have v:=jh (M (H wa)) s (2 ^ m) wb (by rw[<-j];simp) (by rw[<-j];simp) aa hp;have jE:Qn (Bw C wb):=by show Below _ _ _;rw[<-j,<-MC];exact az (az b (cZ _ _)) (cZ _ _)
   generalize 2 ^ m=p at*;go_wp2_with fail;refine Lh.mono ?_;clear Lh;rintro e w2 ⟨rfl,rfl⟩;go_wp2_with fail;refine v.mono ?_;clear v;rintro e w3 ⟨rfl,rfl⟩;clear MC j;go_wp2;go_roundw
   case rel=>exact⟨k+1,X,Qe,⟨s|||p,rfl,HT.o.symm⟩,jE.o⟩
   case measure=>exact XK
  .obtain rfl:k=N xs:=X
   obtain⟨HV,HB⟩:=aS (y.o.trans Q.o) (az oU.o b);clear y b;go_wp2;go_ret;exact⟨QZ (by rw[HV.o]),HB.o⟩
def Aq(f:ay)(ts:Qy af)(q:ae):∃v0 e g v3 v4 v5 i j k v9 a b d,f.cells ts q=#[v0,e,g,v3,v4,v5,i,j,k,v9,a,b,d]/\v0=q.src.val/\e=Z q.cK (N q.wh) q.aM/\g=Qr q.group/\v3=q.keys.val/\v4=q.sums.val/\v5=q.aU.val/\i=q.ord.val/\
  j=Z f.ca (N (gz ts q)) f.cc/\k=I Qq ((2 ^ (N q.src.xs)-1:Nat):Int)/\v9=I Qq ((2 ^ (N q.wh)-1:Nat):Int)/\a=Z f.ra (N q.src.xs) f.rc/\b=Z f.na f.nl f.nc/\d=Z f.pa f.pl f.pc:=
 ⟨_,_,_,_,_,_,_,_,_,_,_,_,_,rfl,rfl,rfl,rfl,rfl,rfl,rfl,rfl,rfl,rfl,rfl,rfl,rfl,rfl⟩
theorem Iz(f:ay)(ts:Qy af)(q:ae)(p:aC)(w:U) :
  Cb 160 #[Qu (f.cells ts q),Qu p.cells] w (Qr (jG q p.d)):=by
 obtain⟨y,z,k,g⟩:=bC w ((f.cells ts q)) 82;obtain⟨P,A,l,m⟩:=bC y p.cells 102;have e:=l;have i:=az k e;have n:=g.of (e.block _ g.lt);have D:=n.at 8;have G:=n.at 9;have r:=m;have K:=r.at 1;have L:=r.at 2;have u:Qn (jG q p.d=(decide (p.sources=2 ^ (N q.src.xs)-1)&&decide (p.clauses=2 ^ (N q.wh)-1))):=rfl;have t:=Zh i;generalize jG q p.d=B,f.cells ts q=FC,p.cells=PC,2 ^ (N q.src.xs)-1=s,2 ^ (N q.wh)-1=c,p.sources=a,p.clauses=b at*;by_cases C:a=s
 .subst C;have j:Qn (B=((b:Int)==(c:Int))):=by show _=_;rw[u.o,Zi rfl,Zj,XU,Zf,beq_iff_eq];omega
  go_enter func160,ntmps160;go_wp2;go_ret;exact⟨QY j.o.symm,t.o⟩
 .have j:Qn (B=F):=Qb
  have v:((a:Int)==(s:Int))=false:=by rw[XW];omega
  go_enter func160,ntmps160;go_wp2;go_ret;exact⟨QY j.o.symm,t.o⟩
theorem vT(f:ay)(ts:Qy af)(q:ae)(n:ai)(l r:aC)(w:U)(ok:Ok ts q)(hf:f.At ts q w)(hn:n.cl.At w)(hl:l.sources<=bQ)(hr:r.sources<=bQ) :
  Cb 156 #[Qu (f.cells ts q),Qu n.cells,Qu l.cells,Qu r.cells] w (Qr (kC ts q n l.sources r.sources)):=by
 obtain⟨v0,v1,v2,v3,v4,v5,v6,v7,v8,v9,ak,au,av,bZ,-⟩:=Aq f ts q;obtain⟨w1,Q,R,z⟩:=bC w ((f.cells ts q)) 82;obtain⟨w2,ax,S,A⟩:=bC w1 n.cells 138;obtain⟨w3,aA,W,B⟩:=bC w2 l.cells 102;obtain⟨w4,aB,aa,ag⟩:=bC w3 r.cells 102;have t:=aa;have u:=az W t;have v:=az S u;have i:=az R v;have lu:=z.of (v.block _ z.lt);have tT:=A.of (u.block _ A.lt);have Av:=tT.at 4;have C:=B.of (t.block _ B.lt);have VJ:=C.at 1;have D:=ag;have VK:=D.at 1;obtain⟨iZ,jJ,kT,jY,jZ,kU,kV,qG,qE,qF,jB,lK,jC⟩:=lu.k13 (by rw[bZ];rfl);have y:Qn (∀x,Bw w4 x->∀s:Nat,s<18446744073709551616->Cb 155 #[Qu (f.cells ts q),Z n.cl.ad (N n.cl.xs) n.cl.cap,I Qq (s:Int)] x (Qr (iE ts q n.cl.xs s))):=λx hb s hs=>
  qW f ts q n.cl.ad n.cl.cap n.cl.xs s x ok (hf.below (az i hb)) (Q8 (az i hb) hn) hs
 have HV:Qn (kC ts q n l.sources r.sources=(decide (l.sources &&& r.sources=0)&&iE ts q n.cl.xs (l.sources|||r.sources))):=rfl;have j:l.sources<18446744073709551616:=by unfold bQ at hl;omega
 have k:r.sources<18446744073709551616:=by unfold bQ at hr;omega
 have g:=DT l.sources r.sources j k w4;have G:Qn (∀(x:U) (b:Nat),_->_->_):=λx b h0 h1=>jh b l.sources r.sources x h0 h1 j k;have L:l.sources|||r.sources<18446744073709551616:=XP (n:=64) j k;obtain⟨aj,HC⟩:=aS L i;rw[bZ]at y Q ⊢;obtain⟨nk,nl,nr,ns,⟨na,nc,nx⟩,ny,no⟩:=n;unfold ah.val at*;simp only at*;generalize kC ts q _ l.sources r.sources=Jq,iE ts q nx=RB,ai.cells _=NC,l.cells=LC,r.cells=RC at*;generalize l.sources=a at*;generalize r.sources=b at*;by_cases hm:a &&& b=0
 .have m:decide (a &&& b≠0)=false:=Zr (λh=>h hm);have P:Qn (Jq=RB (a|||b)):=Qb
  rw[m]at g;go_enter func156,ntmps156;go_wp2_with fail;refine g.mono ?_;rintro e w5 ⟨rfl,rfl⟩;go_wp2;refine wH w5 λd=>?_;refine wA6 0 d ?_;refine O0 6 d ?_;refine wR 7 λK p=>?_;go_simp;refine oA p d λd=>?_;refine wR 8 λK p=>?_;go_simp;refine XX (G.o _ (M (H w5)) Qa Qa) ?_;rintro e w6 ⟨rfl,rfl⟩;refine p.o _ _ d λd=>?_;refine wR 9 λK p=>?_;go_simp;refine XX (y.o _ d (a|||b) aj.o) ?_;rintro e w7 ⟨rfl,qy⟩;refine oT p d qy λd=>?_;refine wR 10 λK p=>?_;go_simp;refine p.o _ _ d λd=>?_;refine wD ?_;try simp only[pU]
  have VL:=Zh (az HC.o d);go_wp2;go_ret;exact⟨QY P.o.symm,VL.o⟩
 .have m:decide (a &&& b≠0)=true:=Zi hm;have P:Qn (Jq=F):=Qb
  rw[m]at g;go_enter func156,ntmps156;go_wp2_with fail;refine g.mono ?_;rintro e w5 ⟨rfl,rfl⟩;go_wp2;go_ret;exact⟨QY P.o.symm,HC.o⟩
def XY:=@Aq
