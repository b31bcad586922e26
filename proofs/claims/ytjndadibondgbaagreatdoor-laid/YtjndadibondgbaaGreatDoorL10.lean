import Derived.Test.YtjndadibondgbaaGreatDoorL06
set_option linter.all false
set_option maxRecDepth 100000
set_option maxHeartbeats 16000000
namespace Go.Proofs.Zz
open Go.RowKit Go.Shelf
variable {R base k n size:Nat} {A B w:World} {e:TypeId} {v:Value} {xs:List Int} {cs:List (Nat × Int)} {P:Program} {ops:Array Oper} {Q:Exit->Act->World->Prop} {l:List Nat} {K:Act->World->Prop} {a:Act} {ao:Option Addr} {ts:List af} {q:ae}
def gG(w:World)(ao:Option Addr)(xs:List Nat):Prop:=
 xs.length<=1000/\fO w ao xs.length (fun i=>.int .u64 ((xs.getD i 0:Nat):Int))
theorem gG.get{w:World}{ao:Option Addr}{xs:List Nat}(h:gG w ao xs){i:Nat}(hi:i<xs.length) :
  ∃ b off,ao=some (aD b off)/\∀ j,j<xs.length->w.cell? (aD b (off+j))=some (.int .u64 ((xs.getD j 0:Nat):Int)):=
 Qd h.2 hi
theorem gG.below{w w':World}(hb:Bw w w'){ao:Option Addr}{xs:List Nat}(h:gG w ao xs):gG w' ao xs:=⟨h.1,h.2.below hb⟩
def iQ(w:World)(ao:Option Addr)(cs:List (Nat × Int)):Prop:=
 cs.length<=1000/\∀ i,i<cs.length->∃ b off,ao=some (aD b off)/\
  w.cell? (aD b (off+i*2))=some (.int .i64 ((cs.getD i (0,0)).1:Nat))/\w.cell? (aD b (off+i*2+1))=some (.int .u64 (cs.getD i (0,0)).2)
theorem iQ.below{w w':World}(hb:Bw w w'){ao:Option Addr}{cs:List (Nat × Int)}(h:iQ w ao cs):iQ w' ao cs:=⟨h.1,fun i f=>by
 obtain⟨b,off,e,a,d⟩:=h.2 i f;exact⟨b,off,e,cB hb a,cB hb d⟩⟩
structure aS where
 ca:Option Addr
 cc:Nat
 ra:Option Addr
 rc:Nat
 na:Option Addr
 nl:Nat
 nc:Nat
 pa:Option Addr
 pl:Nat
 pc:Nat
def fZ(ts:List af)(q:ae):List (Nat × Int):=bF ts q.src.xs q.src.xs.length
def Br(ts:List af)(q:ae):List Nat:=(List.range q.src.xs.length).map fun (k:Nat)=>jm ts q.src.xs (k:Int)
def zi(ts:List af)(q:ae):List Nat:=q.wh.map fun c=>aL (fI ts q.src.xs c.cs)
def wO(ts:List af)(q:ae):List Nat:=q.wh.map fun c=>jf ts q.src.xs c.cs
def aS.cells(f:aS)(ts:List af)(q:ae):Array Value:=
 #[q.src.val,.slice q.bE q.wh.length q.aF,.bool q.group,q.keys.val,q.sums.val,q.aK.val,q.ord.val,.slice f.ca (fZ ts q).length f.cc,.int .u64 ((2 ^ q.src.xs.length-1:Nat):Int),.int .u64 ((2 ^ q.wh.length-1:Nat):Int),
  .slice f.ra q.src.xs.length f.rc,.slice f.na f.nl f.nc,.slice f.pa f.pl f.pc]
structure aS.At(f:aS)(ts:List af)(q:ae)(w:World):Prop where
 query:q.At w
 cols:iQ w f.ca (fZ ts q)
 rows:gG w f.ra (Br ts q)
 aiC:gG w f.na (zi ts q)
 parts:gG w f.pa (wO ts q)
 nl:f.nl=q.wh.length
 pl:f.pl=q.wh.length
theorem aS.At.below{w w':World}(hb:Bw w w'){f:aS}{ts:List af}{q:ae}(h:f.At ts q w):f.At ts q w':=
 ⟨h.query.below hb,h.cols.below hb,h.rows.below hb,h.aiC.below hb,h.parts.below hb,h.nl,h.pl⟩
theorem WC(ts:List af)(q:ae):(Br ts q).length=q.src.xs.length:=by unfold Br; simp
theorem Iz(ts:List af)(q:ae):(zi ts q).length=q.wh.length:=by unfold zi; simp
theorem IA(ts:List af)(q:ae):(wO ts q).length=q.wh.length:=by unfold wO; simp
theorem IB(ts:List af)(q:ae)(hk:k<q.src.xs.length):(Br ts q).getD k 0=jm ts q.src.xs (k:Int):=by unfold Br; simp[List.getD,hk]
theorem IC(ts:List af)(q:ae)(hk:k<q.wh.length):(zi ts q).getD k 0=aL (fI ts q.src.xs (q.wh.getD k lz).cs):=by unfold zi; simp[List.getD,hk]
theorem Au(ts:List af)(q:ae)(hk:k<q.wh.length):(wO ts q).getD k 0=jf ts q.src.xs (q.wh.getD k lz).cs:=by unfold wO; simp[List.getD,hk]
structure aB where
 kind:Int
 sources:Nat
 clauses:Nat
 order:aa
 size:Nat
 cost:Nat
def aT:aB:=⟨0,0,0,⟨none,0,[]⟩,0,0⟩
def aB.cells(p:aB):Array Value:=#[.int .i64 p.kind,.int .u64 (p.sources:Int),.int .u64 (p.clauses:Int),p.order.val,.int .u64 (p.size:Int),.int .u64 (p.cost:Int)]
def aB.list(p:aB):List Value:=[.int .i64 p.kind,.int .u64 (p.sources:Int),.int .u64 (p.clauses:Int),p.order.val,.int .u64 (p.size:Int),.int .u64 (p.cost:Int)]
def aB.d(p:aB):bZ:=⟨p.kind,p.sources,p.clauses,p.order.xs,p.size,p.cost⟩
structure aB.Ok(p:aB)(w:World):Prop where
 order:p.order.At w
 cap:p.order.xs.length<=p.order.cap
 sources:p.sources<=bB
 clauses:p.clauses<=bB
 size:p.size<=bB
 cost:p.cost<=bB
theorem aB.Ok.below{w w':World}(hb:Bw w w'){p:aB}(h:p.Ok w):p.Ok w':=⟨Qt hb h.order,h.cap,h.sources,h.clauses,h.size,h.cost⟩
def PartsAt(w:World)(ao:Option Addr)(ps:List aB):Prop:=
 ps.length<=1000/\∀ i,i<ps.length->(∃ b off,ao=some (aD b off)/\
  w.cell? (aD b (off+i*6))=some (.int .i64 (ps.getD i aT).kind)/\w.cell? (aD b (off+i*6+1))=some (.int .u64 ((ps.getD i aT).sources:Int))/\
  w.cell? (aD b (off+i*6+2))=some (.int .u64 ((ps.getD i aT).clauses:Int))/\w.cell? (aD b (off+i*6+3))=some (ps.getD i aT).order.val/\
  w.cell? (aD b (off+i*6+4))=some (.int .u64 ((ps.getD i aT).size:Int))/\w.cell? (aD b (off+i*6+5))=some (.int .u64 ((ps.getD i aT).cost:Int)))/\(ps.getD i aT).Ok w
theorem PartsAt.below{w w':World}(hb:Bw w w'){ao:Option Addr}{ps:List aB}(h:PartsAt w ao ps):PartsAt w' ao ps:=⟨h.1,fun i m=>by
 obtain⟨⟨b,off,e,a,d,f,g,j,k⟩,l⟩:=h.2 i m;exact⟨⟨b,off,e,cB hb a,cB hb d,cB hb f,cB hb g,cB hb j,cB hb k⟩,l.below hb⟩⟩
theorem flat_get{α:Type}(f:α->List Value)(k:Nat)(hk:∀ a,(f a).length=k)(d:α):∀ (l:List α) (i j:Nat),i<l.length->j<k->(l.flatMap f)[i*k+j]? = (f (l.getD i d))[j]?
 | [],i,j,h,_ => absurd h (by simp)
 | a::l,0,j,_,hj => by
  rw[QG,QI,QJ,QK (by rw[hk]; exact hj)];rfl
 | a::l,i+1,j,h,hj => by
  have e:(i+1)*k+j=(f a).length+(i*k+j):=by rw[hk,Nat.succ_mul]; omega
  rw[QG,e,QL (Nat.le_add_right _ _),Nat.add_sub_cancel_left,flat_get f k hk d l i j (by simpa using h) hj];rfl
theorem zk{α:Type}(f:α->List Value)(k:Nat)(hk:∀ a,(f a).length=k):∀ l:List α,(l.flatMap f).length=l.length*k
 | [] => by simp
 | a::l => by rw[QG,ZC,hk,zk f k hk l,Q7,Nat.succ_mul]; omega
theorem qL{xs:List Value}(h:w.ownsRow base e size v n xs) :
  (v=.slice none 0 0/\n=0)∨∃ g a,v=.slice (some (aD g 0)) n a/\base<=g/\g<w.heap.size/\∀ j u,xs[j]? = some u->w.cell? (aD g j)=some u:=by
 rcases h.2 with⟨rfl,h1⟩ | ⟨g,a,cur,rfl,hb,hh,_,_,_,ht⟩
 ·exact .inl ⟨rfl,h1⟩
 ·refine .inr ⟨g,a,rfl,hb,(QO.1 hh).1,fun j u b=>?_⟩;rw[<- ht,ZW]at b;split at b
  ·simp only[World.cell?,hh]
   simpa using b
  ·cases b
theorem qM{xs:List Nat}(h:w.ownsRow base e 1 v n (xs.map fun (x:Nat)=>.int .u64 (x:Int)))(hl:xs.length<=1000):∃ d a,v=.slice d xs.length a/\gG w d xs:=by
 have f:xs.length=n:=by have:=h.1; simpa using this
 rcases qL h with⟨rfl,h0⟩ | ⟨g,a,rfl,_,_,hc⟩
 ·have:xs=[]:=QF (by omega);subst this;exact⟨none,0,rfl,⟨by simp,fun i b=>absurd b (by simp)⟩⟩
 ·refine⟨some (aD g 0),a,by rw[f],⟨hl,fun i b=>⟨g,0,rfl,?_⟩⟩⟩;rw[QJ];exact hc i _ (by rw[ZR]; simp[List.getD,b])
def jh(c:Nat × Int):List Value:=[.int .i64 (c.1:Int),.int .u64 c.2]
theorem D5(h:w.ownsRow base e 2 v n (cs.flatMap jh))(hl:cs.length<=1000):∃ j b,v=.slice j cs.length b/\iQ w j cs:=by
 have f:∀ a,(jh a).length=2:=fun _=>rfl
 have k:cs.length=n:=by have:=h.1; rw[zk jh 2 f]at this; omega
 rcases qL h with⟨rfl,h0⟩ | ⟨g,b,rfl,_,_,hc⟩
 ·have:cs=[]:=QF (by omega);subst this;exact⟨none,0,rfl,⟨by simp,fun i d=>absurd d (by simp)⟩⟩
 ·refine⟨some (aD g 0),b,by rw[k],⟨hl,fun i d=>⟨g,0,rfl,?_,?_⟩⟩⟩
  ·rw[QJ];exact hc (i*2) _ (by have:=flat_get jh 2 f (0,0) cs i 0 d (by omega); rw[Xg]at this; rw[this]; rfl)
  ·rw[QJ];exact hc (i*2+1) _ (by rw[flat_get jh 2 f (0,0) cs i 1 d (by omega)]; rfl)
theorem IE{ps:List aB}(h:w.ownsRow base e 6 v n (ps.flatMap aB.list))(hl:ps.length<=1000)(hp:∀ i,i<ps.length->(ps.getD i aT).Ok w):∃ j f,v=.slice j ps.length f/\PartsAt w j ps:=by
 have d:∀ a:aB,a.list.length=6:=fun _=>rfl
 have k:ps.length=n:=by have:=h.1; rw[zk aB.list 6 d]at this; omega
 rcases qL h with⟨rfl,h0⟩ | ⟨g,f,rfl,_,_,hc⟩
 ·have:ps=[]:=QF (by omega);subst this;exact⟨none,0,rfl,⟨by simp,fun i b=>absurd b (by simp)⟩⟩
 ·refine⟨some (aD g 0),f,by rw[k],⟨hl,fun i b=>⟨⟨g,0,rfl,?_,?_,?_,?_,?_,?_⟩,hp i b⟩⟩⟩ <;> rw[QJ]
  ·exact hc (i*6) _ (by have:=flat_get aB.list 6 d aT ps i 0 b (by omega); rw[Xg]at this; rw[this]; rfl)
  ·exact hc (i*6+1) _ (by rw[flat_get aB.list 6 d aT ps i 1 b (by omega)]; rfl)
  ·exact hc (i*6+2) _ (by rw[flat_get aB.list 6 d aT ps i 2 b (by omega)]; rfl)
  ·exact hc (i*6+3) _ (by rw[flat_get aB.list 6 d aT ps i 3 b (by omega)]; rfl)
  ·exact hc (i*6+4) _ (by rw[flat_get aB.list 6 d aT ps i 4 b (by omega)]; rfl)
  ·exact hc (i*6+5) _ (by rw[flat_get aB.list 6 d aT ps i 5 b (by omega)]; rfl)
theorem qN(W:World)(base:Nat)(t ty e:TypeId)(i:TypeInfo)(z:Value)(size bytes:Nat)(ht:P.underlying t=some (.slice e))(hi:P.info? e=some i)(hz:i.zero=some z)(hsize:i.size=size)(hby:i.bytes=bytes)(hzs:z.cells.size=size)(hsz:0<size)
  (v:Value) (n:Nat) (xs:List Value) (hown:W.ownsRow base e size v n xs) (hb:base<=W.heap.size) (news:List Value) (hl:news.length=size) (h1:∀ u∈news,u.oneCell' = true) (hn:n<=1000) (hbb:bytes<=1000) :
  ∃ d w',(Builtin.append_ #[t,t] ty #[v,.slice (some (aD W.heap.size 0)) 1 1]).run P (W.alloc (.cells news.toArray e))=.ok d w'/\w'.ownsRow base e size d (n+1) (xs++news)/\Kept (fun b=>v.ownBlock≠some b) W w'/\(∃ a m c,d = .slice a m c)/\(d.ownBlock=v.ownBlock∨d.ownBlock=some (W.heap.size+1)):=by
 obtain⟨d,w',g,k,l,_,f⟩:=X6 (P:=P) (W.alloc (.cells news.toArray e)) base t ty e i z size bytes ht hi hz hsize hby hzs hsz v n xs (hown.alloc _) (aD W.heap.size 0) 1 1 news (by rw[hl,Z9])
  (fun j u o=>by
   rw[addr_add,QJ];simp only[World.cell?,lZ W _]
   simpa using o) h1 (by unfold maxLen; omega) (by have:(n+1)*bytes<=1001*1000:=Nat.mul_le_mul (by omega) hbb; omega) (by rw[QY]; omega)
 exact⟨d,w',g,k,(QX _ _).trans (Zo l (fun r e g=>g e)),Zr k,by rw[QY]at f; exact f⟩
def X8:=@PartsAt.below
def kP(ts:List af)(q:ae)(xs:List Int):List Int:=xs.map fun c=>(aj ts q.src.xs c:Int)
def iF(cs:List ak):Int × Int × Bool:=
 if cs.length > 1∨(cs.getD 0 cz).op≠0∨(cs.getD 0 cz).not=true∨(cs.getD 0 cz).const=true then (0,0,false) else ((cs.getD 0 cz).left,(cs.getD 0 cz).right,true)
theorem Td{l:Nat}(hd:∀ o∈ops,∀ c,o.op ≠ .defer c){i:Nat}{K':Act->World->Prop}(hK:∀ a w,K a w->K' a w)(h:wpOpIn Fence.wide 0 P ops Q i K a w):wpOpIn (Fence.wide.inRound l) 0 P ops Q i K' a w:=by
 unfold wpOpIn at *
 cases ho:ops[i]? with
 | none => rw[ho]at h; exact hK _ _ h
 | some o =>
  rw[ho]at h;simp only at *;have f:=Array.mem_of_getElem? ho;by_cases g:Region.wanted o (yielded ops a.tmps)=true
  ·rw[Qu g]at *;unfold Oper.wpIn at *;refine⟨h.1,?_⟩;have b:=h.2;rw[Oper.semAt_plain Fence.wide _ _ (hd o f)]at b;rw[Oper.semAt_plain (Fence.wide.inRound l) _ _ (hd o f)];generalize Sem.run P (execOp a.eval o) w=r at *;unfold Oper.uponIn at *;split at b
   ·exact hK _ _ b
   ·exact hK _ _ b
   ·exact hK _ _ b
   ·exact⟨b.1,b.2.mono (fun e w' d=>by
     cases e with
     | returned v => exact hK _ _ d
     | panicked c => exact d
     | outgrown => exact d)⟩
   ·exact⟨b.1,b.2.mono (fun v w' d=>hK _ _ d)⟩
   ·exact⟨b.1,b.2.mono (fun e w' d=>by
     cases e with
     | returned v => exact hK _ _ d
     | panicked c => exact d
     | outgrown => exact d)⟩
   ·exact b
   ·exact b.elim
  ·rw[Qv g]at *;exact⟨h.1,hK _ _ h.2⟩
theorem kL{P:Program}{md:Region.Mode}{ops:Array Oper}{Q:Exit->Act->World->Prop}{l:Nat}(hd:∀ o∈ops,∀ c,o.op ≠ .defer c):∀ (fuel:Nat) (listed:Array Bool) (a:Act) (w:World),
  wpAnyIn Fence.wide 0 P md ops Q fuel listed a w->wpAnyIn (Fence.wide.inRound l) 0 P md ops Q fuel listed a w
 | 0,_,_,_,h => h
 | fuel+1,listed,a,w,h => ⟨h.1,fun i b => Td hd (fun d w' e => kL hd fuel _ d w' e) (h.2 i b)⟩
def KH(ops:Array Oper):Bool:=ops.all fun o=>match o.op with | .defer _=>false | _=>true
theorem jG(h:KH ops=true):∀ o∈ops,∀ c,o.op ≠ .defer c:=by
 intro o a c b;unfold KH at h;rw[Array.all_eq_true_iff_forall_mem]at h;have:=h o a;rw[b]at this;simp at this
theorem ma{F:Fence}{o:Oper}{E:Prop}(hgd:o.guard=none)(s x:Operand)(t:TypeId)
  (ho:o.op=.call { callee:=.builtin .append,args:=#[s,x],argTypes:=#[t,t] }) (v u v':Value) (w':World) (hs:a.eval s=v) (hx:a.eval x=u)
  (hrun:(Builtin.append_ #[t,t] o.type #[v,u]).run P w=.ok v' w') (h:K (a.put o.dst v') w'):if Region.wanted o (yielded ops a.tmps)=true then Oper.wpIn F n P o a w K Q else E:=by
 have d:Region.wanted o (yielded ops a.tmps)=true:=by simp[Region.wanted,hgd]
 rw[Qu d];unfold Oper.wpIn;refine⟨by simp[Oper.about,ho,resolve,Target.leads,Sem.run_pure],?_⟩;rw[Oper.semAt_plain F _ _ (by rw[ho]; intro c b; cases b)];simp[execOp,ho,resolve,invoke,builtin,hs,hx,hrun,Result.andThen];exact h
theorem step_append{P:Program}{ops:Array Oper}{o:Oper}{a:Act}{w:World}{K:Act->World->Prop}{Q:Exit->Act->World->Prop}{E:Prop}(hgd:o.guard=none)(s x:Operand)(t:TypeId)
  (ho:o.op=.call { callee:=.builtin .append,args:=#[s,x],argTypes:=#[t,t] }) (v u v':Value) (w':World) (hs:a.eval s=v) (hx:a.eval x=u)
  (hrun:(Builtin.append_ #[t,t] o.type #[v,u]).run P w=.ok v' w') (h:K (a.put o.dst v') w'):if Region.wanted o (yielded ops a.tmps)=true then Oper.wp P o a w K Q else E:=by
 have b:Region.wanted o (yielded ops a.tmps)=true:=by simp[Region.wanted,hgd]
 rw[Qu b];unfold Oper.wp;simp[execOp,ho,resolve,invoke,builtin,hs,hx,hrun,Result.andThen];exact h
def Jc:=@step_append
theorem acs(h:n<64):IntKind.u64.wrap ((2:Int) ^ n)=((2 ^ n:Nat):Int):=by
 have a:((2:Int) ^ n)=((2 ^ n:Nat):Int):=by simp
 have b:2 ^ n<2 ^ 64:=Jg (by omega) h;rw[a];generalize 2 ^ n=m at *;simp only[IntKind.wrap,IntKind.bits,IntKind.signed];simp;omega
theorem ai9{s:Nat}(hs:s<18446744073709551616)(h:n<64):bits BinOp.or IntKind.u64 (s:Int) (IntKind.u64.wrap ((2:Int) ^ n))=((s|||2 ^ n:Nat):Int):=by
 rw[acs h];exact u64_or_nat s (2 ^ n) hs (Jg (by omega) h)
theorem Yo{l:List Int}(hk:k<l.length):aL (l.take (k+1))=aL (l.take k)|||2 ^ (l.getD k 0).toNat:=by
 have e:l.getD k 0=l[k]:=by simp[List.getD,hk]
 rw[Qm hk,VU,e]
theorem KU{l:List Int}(h:∀ x∈l,0<=x/\x<64)(k:Nat):aL (l.take k)<18446744073709551616:=Ke (n:=64) (fun x a=>h x (XW a))
def orL(l:List Nat):Nat:=l.foldl (· ||| ·) 0
theorem Oi(hk:k<l.length):orL (l.take (k+1))=orL (l.take k)|||l.getD k 0:=by
 have e:l.getD k 0=l[k]:=by simp[List.getD,hk]
 rw[Qm hk,e];unfold orL;rw[ZZ];rfl
theorem aja(h:∀ x∈l,x<18446744073709551616):∀ k,orL (l.take k)<18446744073709551616:=fun k=>by
 induction k with
 | zero => simp[orL]
 | succ k ih =>
  by_cases a:k<l.length
  ·rw[Oi a];have:l.getD k 0<18446744073709551616:=by
    have e:l.getD k 0=l[k]:=by simp[List.getD,a]
    rw[e]; exact h _ (Qk a)
   exact Nat.or_lt_two_pow (n:=64) ih this
  ·rw[X0 (by omega)];rw[X0 (by omega)]at ih;exact ih
theorem rY(a b:Nat)(ha:a<18446744073709551616)(hb:b<18446744073709551616)(w:World) :
  Ce 134 #[.int .u64 (a:Int),.int .u64 (b:Int)] w (.bool (dG a b)):=by
 have d:=u64_andNot_nat b a hb ha;go_enter Tryz.func134,Tryz.ntmps134;go_wp2;go_ret;refine⟨Qb ?_,rfl⟩;unfold dG;generalize b &&& 18446744073709551615-a=x;rw[QD,beq_iff_eq,QE];omega
theorem Yp(a b:Nat)(ha:a<18446744073709551616)(hb:b<18446744073709551616)(w:World) :
  Ce 135 #[.int .u64 (a:Int),.int .u64 (b:Int)] w (.bool (decide (a &&& b≠0))):=by
 have d:=u64_and_nat a b ha hb;go_enter Tryz.func135,Tryz.ntmps135;go_wp2;go_ret;refine⟨Qb ?_,rfl⟩;generalize a &&& b=x;rw[QD,bne_iff_ne,QE];omega
theorem Tv(s n:Nat)(hs:s<18446744073709551616)(hn:n<64)(w:World) :
  Ce 155 #[.int .u64 (s:Int),.int .i64 n] w (.bool (s.testBit n)):=by
 go_enter Tryz.func155,Tryz.ntmps155;go_wp2;go_ret;refine⟨Qb ?_,rfl⟩;have a:((s:Int) / 2 ^ n)=((s / 2 ^ n:Nat):Int):=by simp
 have b:s / 2 ^ n<18446744073709551616:=Nat.lt_of_le_of_lt (Nat.div_le_self _ _) hs;have d:=u64_and_nat (s / 2 ^ n) 1 b (by omega);rw[a];have e:bits BinOp.and IntKind.u64 ((s / 2 ^ n:Nat):Int) 1=((s / 2 ^ n &&& 1:Nat):Int):=d;rw[e,Nat.testBit,Nat.shiftRight_eq_div_pow,Nat.and_comm,QD,beq_iff_eq,bne_iff_ne,Nat.one_and_eq_mod_two];omega
theorem Oj(n:Nat)(hn:n<64)(w:World) :
  Ce 54 #[.int .i64 n] w (.int .u64 ((2 ^ n-1:Nat):Int)):=by
 go_enter Tryz.func54,Tryz.ntmps54;go_wp2;go_ret;refine⟨Qc ?_,rfl⟩;have a:((2:Int) ^ n)=((2 ^ n:Nat):Int):=by simp
 have b:2 ^ n<2 ^ 64:=Jg (by omega) hn;have d:0<2 ^ n:=Nat.pow_pos (by omega);rw[a];generalize 2 ^ n=m at *;simp only[IntKind.wrap,IntKind.bits,IntKind.signed];simp;omega
theorem I1(ao:Option Addr)(cap:Nat)(xs:List Int)(w:World)(hx:aI w ao xs)(hs:∀ x∈xs,0<=x/\x<64) :
  Ce 98 #[.slice ao xs.length cap] w (.int .u64 ((aL xs:Nat):Int)):=by
 have u:=hx.1;have i:Hid _:=hx;have f:=Zh hs;have j:Hid (aL (xs.take xs.length)=aL xs):=by show _=_; rw[Qw]
 clear hx hs;go_enter Tryz.func98,Tryz.ntmps98;go_wp2;go_loopw [3,8] (fun t iv wr=>∃ k:Nat,k<=xs.length/\iv=.int .i64 k/\(∃ s:Nat,t=.int .u64 (s:Int)/\Hid (s=aL (xs.take k)))/\wr=w) (fun _ iv _=>xs.length-(intOf iv).toNat)
 case atStart=>exact⟨0,Zf _,rfl,⟨0,rfl,rfl⟩,rfl⟩
 case round=>
  obtain⟨k,v,rfl,⟨s,rfl,hs⟩,rfl⟩:=hrel;by_cases a:k<xs.length
  ·obtain⟨b,off,rfl,g⟩:=Qe i.o a;have l:=g k a;have m:=f.o _ (X4 a (d:=0));have p:=Zh (Yo a);have e:s<18446744073709551616:=by rw[hs.o]; exact KU f.o k
   clear g;generalize xs.getD k 0=x at *;obtain⟨n,rfl⟩:=Jh m.1;have q:n<64:=by omega
   go_wp2;go_roundw
   case rel=>exact⟨k+1,by omega,by go_num,⟨s|||2 ^ n,by rw[ai9 e q],by show _=_; rw[p.o,hs.o]; rfl⟩,trivial⟩
   case measure=>simp[intOf]; omega
  ·obtain rfl:k=xs.length:=by omega
   have r:=Zh (hs.o.trans j.o);clear hs;go_wp2;go_ret;exact⟨Qc (by rw[r.o]),rfl⟩
theorem Yq(ao:Option Addr)(cap:Nat)(xs:List Nat)(w:World)(hx:gG w ao xs)(hs:∀ x∈xs,x<18446744073709551616) :
  Ce 86 #[.slice ao xs.length cap] w (.int .u64 ((orL xs:Nat):Int)):=by
 have t:=hx.1;have i:Hid _:=hx;have f:=Zh hs;have j:Hid (orL (xs.take xs.length)=orL xs):=by show _=_; rw[Qw]
 clear hx hs;go_enter Tryz.func86,Tryz.ntmps86;go_wp2;go_loopw [3,8] (fun r iv wr=>∃ k:Nat,k<=xs.length/\iv=.int .i64 k/\(∃ s:Nat,r=.int .u64 (s:Int)/\Hid (s=orL (xs.take k)))/\wr=w) (fun _ iv _=>xs.length-(intOf iv).toNat)
 case atStart=>exact⟨0,Zf _,rfl,⟨0,rfl,rfl⟩,rfl⟩
 case round=>
  obtain⟨k,u,rfl,⟨s,rfl,hs⟩,rfl⟩:=hrel;by_cases a:k<xs.length
  ·obtain⟨b,off,rfl,g⟩:=gG.get i.o a;have l:=g k a;have m:=f.o _ (X4 a (d:=0));have n:=Zh (Oi a);have e:s<18446744073709551616:=by rw[hs.o]; exact aja f.o k
   clear g;generalize xs.getD k 0=x at *;have p:=u64_or_nat s x e m;go_wp2;go_roundw
   case rel=>exact⟨k+1,by omega,by go_num,⟨s|||x,rfl,by show _=_; rw[n.o,hs.o]⟩,trivial⟩
   case measure=>simp[intOf]; omega
  ·obtain rfl:k=xs.length:=by omega
   have q:=Zh (hs.o.trans j.o);clear hs;go_wp2;go_ret;exact⟨Qc (by rw[q.o]),rfl⟩
theorem vI(b:Nat)(x y:Nat)(w:World)(h0:w.cell? (aD b 0)=some (.int .u64 (x:Int)))(h1:w.cell? (aD b 1)=some (.int .u64 (y:Int)))(hx:x<18446744073709551616)(hy:y<18446744073709551616) :
  Ce 86 #[.slice (some (aD b 0)) 2 2] w (.int .u64 ((x|||y:Nat):Int)):=by
 have h:=Yq (some (aD b 0)) 2 [x,y] w ⟨by simp,fun i d=>⟨b,0,rfl,by
  rw[QJ];have a:i<2:=d
  match i,a with
  | 0,_ => exact h0
  | 1,_ => exact h1⟩⟩ (fun z f => by
  rcases Z5.1 f with e | e
  ·omega
  ·rw[Zw]at e; omega)
 have e:orL [x,y]=x|||y:=by unfold orL; simp
 rw[e]at h;exact h
theorem I4(b:Nat)(n:Nat)(w:World)(h0:w.cell? (aD b 0)=some (.int .i64 (n:Int)))(hn:n<64) :
  Ce 98 #[.slice (some (aD b 0)) 1 1] w (.int .u64 ((2 ^ n:Nat):Int)):=by
 have h:=I1 (some (aD b 0)) 1 [(n:Int)] w ⟨by simp,fun i d=>⟨b,0,rfl,by
  have a:i<1:=d;obtain rfl:i=0:=by omega
  exact h0⟩⟩ (fun z e=>by rw[Zw]at e; omega)
 rw[uf]at h;exact h
theorem zz(k:Int)(w:World):Ce 62 #[.int .i64 k] w (.bool (dO k)):=by
 have b:dO k=(decide (k=7) || decide (k=8) || decide (k=9) || decide (k=10)):=by
  unfold dO;rw[QD];simp only[Qo,Z4,QE];omega
 by_cases d:k=7
 ·subst d;go_enter Tryz.func62,Tryz.ntmps62;go_wp2;go_ret;exact⟨rfl,rfl⟩
 by_cases e:k=8
 ·subst e;go_enter Tryz.func62,Tryz.ntmps62;go_wp2;go_ret;exact⟨rfl,rfl⟩
 by_cases f:k=9
 ·subst f;go_enter Tryz.func62,Tryz.ntmps62;go_wp2;go_ret;exact⟨rfl,rfl⟩
 by_cases a:k=10
 ·subst a;go_enter Tryz.func62,Tryz.ntmps62;go_wp2;go_ret;exact⟨rfl,rfl⟩
 have g:Hid (dO k=false):=by show _=_; rw[b,Qg d,Qg e,Qg f,Qg a]; rfl
 clear b;go_enter Tryz.func62,Tryz.ntmps62;go_wp2;go_ret;exact⟨Qb g.o.symm,rfl⟩
theorem Yr:∀ (f x:Nat),x<=f->x<2 ^ 64->kU x=Lib.bitLen x:=by
 intro f
 induction f with
 | zero =>
  intro x b _;obtain rfl:x=0:=by omega
  rw[rC];rfl
 | succ f ih =>
  intro x b h;by_cases a:x=0
  ·subst a;rw[rC];rfl
  ·rw[He (by omega),Lib.bitLen_half x a h,ih (x / 2) (by omega) (by omega),Nat.add_comm]
theorem Tw(x:Nat)(h:x<2 ^ 64):kU x<=64:=by
 have key:∀ (f x:Nat),x<2 ^ f->kU x<=f:=by
  intro f
  induction f with
  | zero =>
   intro x a;obtain rfl:x=0:=by omega
   rw[rC]; omega
  | succ f ih =>
   intro x a;by_cases b:x=0
   ·subst b; rw[rC]; omega
   ·rw[He (by omega)];have:=ih (x / 2) (by rw[Nat.pow_succ]at a; omega);omega
 exact key 64 x h
theorem zA(l:List Nat):iN l<=bB:=by rw[pK]; exact Nat.min_le_right _ _
theorem acv(hk:k<l.length):(l.take (k+1)).sum=(l.take k).sum+l.getD k 0/\(l.take (k+1)).sum<=l.sum:=by
 have e:l.getD k 0=l[k]:=by simp[List.getD,hk]
 refine⟨by rw[Qm hk,e,List.sum_append]; simp,?_⟩;have h:l.sum=(l.take (k+1)).sum+(l.drop (k+1)).sum:=by rw[<- List.sum_append,ZQ]
 omega
theorem Yt{l:List Nat}{k:Nat}(hk:k<l.length)(h:bB-iN (l.take k)<l.getD k 0):iN l=bB:=by
 obtain⟨a,b⟩:=acv hk;rw[pK]at h ⊢;omega
theorem Tx{l:List Nat}{k:Nat}(hk:k<l.length)(h:¬ bB-iN (l.take k)<l.getD k 0):iN (l.take (k+1))=iN (l.take k)+l.getD k 0:=by
 have e:l.getD k 0=l[k]:=by simp[List.getD,hk]
 have a:iN (l.take (k+1))=dU (iN (l.take k)) (l.getD k 0):=by
  rw[Qm hk,e];unfold iN;rw[ZZ];rfl
 have:=zA (l.take k);rw[a];unfold dU;omega
theorem Yu{a b:Nat}(h:0<a*b / 18446744073709551616):bP a b=18446744073709551615:=by
 unfold bP bB;omega
theorem Yv{a b:Nat}(h:¬ 0<a*b / 18446744073709551616):bP a b=a*b % 18446744073709551616:=by
 unfold bP bB;omega
theorem Ty(w:World)(xs:List Nat)(t:TypeId)(hl:xs.length<=1000):gG (w.alloc (.cells (xs.map fun (x:Nat)=>Value.int .u64 (x:Int)).toArray t)) (some (aD w.heap.size 0)) xs:=by
 refine⟨hl,fun i a=>⟨w.heap.size,0,rfl,?_⟩⟩;simp only[World.cell?,lZ w _];simp[List.getD,a]
def Tryz.Om:Go.Shelf.Ren:=⟨fun | 129=>157 | 264=>156 | n=>n,fun | 3=>3 | 4=>4 | 5=>5 | 9=>9 | 46=>65 | 53=>39 | n=>n,fun | n=>n⟩
theorem Tryz.anu:Go.Proofs.Lays.n129 Tryz.prog Tryz.Om:={
 mixed:=by kernel_rfl
 f129:=Tryz.func157.trans (congrArg some (by kernel_rfl))
 t3:=Tryz.underlying3
 a3:=Tryz.isAgg3
 z3:=Tryz.sizeOf3
 v3:=Tryz.zeroValue3
 t4:=Tryz.underlying4
 a4:=Tryz.isAgg4
 z4:=Tryz.sizeOf4
 v4:=Tryz.zeroValue4
 t5:=Tryz.underlying5
 a5:=Tryz.isAgg5
 z5:=Tryz.sizeOf5
 v5:=Tryz.zeroValue5
 t9:=Tryz.underlying9
 a9:=Tryz.isAgg9
 z9:=Tryz.sizeOf9
 v9:=Tryz.zeroValue9
 t46:=Tryz.underlying65
 a46:=Tryz.isAgg65
 z46:=Tryz.sizeOf65
 v46:=Tryz.zeroValue65
 t53:=Tryz.underlying39
 a53:=Tryz.isAgg39
 z53:=Tryz.sizeOf39
 v53:=Tryz.zeroValue39 }
theorem Tryz.anv:Go.Proofs.Lays.n264 Tryz.prog Tryz.Om:={
 mixed:=by kernel_rfl
 f264:=Tryz.func156.trans (congrArg some (by kernel_rfl))
 t46:=Tryz.underlying65
 a46:=Tryz.isAgg65
 z46:=Tryz.sizeOf65
 v46:=Tryz.zeroValue65
 t53:=Tryz.underlying39
 a53:=Tryz.isAgg39
 z53:=Tryz.sizeOf39
 v53:=Tryz.zeroValue39 }
theorem Yw(x:Nat)(w:World)(hx:x<=bB):Ce 157 #[.int .u64 (x:Int)] w (.int .i64 (kU x:Nat)):=by
 have h:=Go.Proofs.Any.bits_Len64 Tryz.anu (x:Int) w (by omega) (by unfold bB at hx; omega);have e:Lib.bitLen (x:Int).toNat=kU x:=by rw[ZY]; exact(Yr x x (Qs _) (by unfold bB at hx; omega)).symm
 rw[e]at h;exact h
theorem Yx(x y:Nat)(w:World)(hx:x<=bB)(hy:y<=bB):Ce 156 #[.int .u64 (x:Int),.int .u64 (y:Int)] w (.tuple #[.int .u64 ((x*y / 18446744073709551616:Nat):Int),.int .u64 ((x*y % 18446744073709551616:Nat):Int)]):=
 Go.Proofs.Any.bits_Mul64 Tryz.anv x y (by unfold bB at hx; omega) (by unfold bB at hy; omega) w
theorem xY(a b:Nat)(w:World)(ha:a<=bB)(hb:b<=bB):Ce 138 #[.int .u64 (a:Int),.int .u64 (b:Int)] w (.int .u64 (bP a b:Nat)):=by
 have d:=Yx a b w ha hb;have f:Hid _:=@Yu a b;have g:Hid _:=@Yv a b;generalize a*b / 18446744073709551616=hi at *;generalize a*b % 18446744073709551616=lo at *;generalize bP a b=t at *;clear ha hb;go_enter Tryz.func138,Tryz.ntmps138;go_wp2_with fail;refine d.mono ?_;clear d;rintro e i ⟨rfl,rfl⟩;by_cases h:0<hi
 ·go_wp2;go_ret;exact⟨Qc (by rw[f.o h]; rfl),rfl⟩
 ·go_wp2;go_ret;exact⟨Qc (by rw[g.o h]),rfl⟩
theorem afD(ao:Option Addr)(cap:Nat)(xs:List Nat)(w:World)(hx:gG w ao xs)(hs:∀ x∈xs,x<=bB) :
  Ce 139 #[.slice ao xs.length cap] w (.int .u64 (iN xs:Nat)):=by
 have v:=hx.1;have m:Hid _:=hx;have n:Hid _:=hs;have p:Hid (iN (xs.take xs.length)=iN xs):=by show _=_; rw[Qw]
 clear hx hs;go_enter Tryz.func139,Tryz.ntmps139;go_wp2;go_loopw [3,8] (fun u iv wr=>∃ k:Nat,k<=xs.length/\iv=.int .i64 k/\(∃ s:Nat,u=.int .u64 (s:Int)/\Hid (s=iN (xs.take k)))/\wr=w) (fun _ iv _=>xs.length-(intOf iv).toNat)
 case atStart=>exact⟨0,Zf _,rfl,⟨0,rfl,rfl⟩,rfl⟩
 case round=>
  obtain⟨k,y,rfl,⟨s,rfl,hs⟩,rfl⟩:=hrel;by_cases a:k<xs.length
  ·obtain⟨b,off,rfl,l⟩:=gG.get m.o a;have q:=l k a;have j:=n.o _ (X4 a (d:=0));have g:Hid _:=@Yt xs k a;have i:Hid _:=@Tx xs k a;have r:s<=18446744073709551615:=by rw[hs.o]; exact zA _
   rw[<- hs.o]at g i;have t:xs.getD k 0<=18446744073709551615:=j;clear l j;generalize xs.getD k 0=x at *;by_cases f:18446744073709551615-s<x
   ·have e:Hid (iN xs=18446744073709551615):=g.o f;clear g i hs;go_wp2;go_ret;exact⟨Qc (by rw[e.o]; rfl),rfl⟩
   ·have e:Hid _:=i.o f;clear g i hs;go_wp2;go_roundw
    case rel=>exact⟨k+1,by omega,by go_num,⟨s+x,by go_num,e.o.symm⟩,trivial⟩
    case measure=>simp[intOf]; omega
  ·obtain rfl:k=xs.length:=by omega
   have e:Hid (s=iN xs):=hs.o.trans p.o;clear hs;go_wp2;go_ret;exact⟨Qc (by rw[e.o]),rfl⟩
theorem Ep(w:World)(xs:List Nat)(hl:xs.length<=1000)(hs:∀ x∈xs,x<=bB) :
  Calls Tryz.prog 139 #[.slice (some (aD w.heap.size 0)) xs.length xs.length] (w.alloc (.cells (xs.map fun (x:Nat)=>Value.int .u64 (x:Int)).toArray 39)) fun e w'=>e=.returned (.int .u64 (iN xs:Nat))/\w' = w.alloc (.cells (xs.map fun (x:Nat)=>Value.int .u64 (x:Int)).toArray 39):=
 afD _ _ xs _ (Ty w xs _ hl) hs
theorem ajb(w:World)(a b:Nat)(ha:a<=bB)(hb:b<=bB) :
  Calls Tryz.prog 139 #[.slice (some (aD w.heap.size 0)) 2 2] (w.alloc (.cells #[.int .u64 (a:Int),.int .u64 (b:Int)] 39)) fun e w'=>e=.returned (.int .u64 (iN [a,b]:Nat))/\Bw w w':=
 (Ep w [a,b] (by simp) (fun x d=>by simp at d; rcases d with rfl | rfl <;> assumption)).mono fun _ _ ⟨h1,h2⟩=>⟨h1,by rw[h2]; exact bV _ _⟩
theorem ajc(w:World)(a b c:Nat)(ha:a<=bB)(hb:b<=bB)(hc:c<=bB) :
  Calls Tryz.prog 139 #[.slice (some (aD w.heap.size 0)) 3 3] (w.alloc (.cells #[.int .u64 (a:Int),.int .u64 (b:Int),.int .u64 (c:Int)] 39)) fun e w'=>e=.returned (.int .u64 (iN [a,b,c]:Nat))/\Bw w w':=
 (Ep w [a,b,c] (by simp) (fun x d=>by simp at d; rcases d with rfl | rfl | rfl <;> assumption)).mono fun _ _ ⟨h1,h2⟩=>⟨h1,by rw[h2]; exact bV _ _⟩
theorem asV(w:World)(a b c d:Nat)(ha:a<=bB)(hb:b<=bB)(hc:c<=bB)(hd:d<=bB) :
  Calls Tryz.prog 139 #[.slice (some (aD w.heap.size 0)) 4 4] (w.alloc (.cells #[.int .u64 (a:Int),.int .u64 (b:Int),.int .u64 (c:Int),.int .u64 (d:Int)] 39)) fun e w'=>e=.returned (.int .u64 (iN [a,b,c,d]:Nat))/\Bw w w':=
 (Ep w [a,b,c,d] (by simp) (fun x f=>by simp at f; rcases f with rfl | rfl | rfl | rfl <;> assumption)).mono fun _ _ ⟨h1,h2⟩=>⟨h1,by rw[h2]; exact bV _ _⟩
theorem KW(k:Int)(l r s:Nat)(w:World)(hl:l<=bB)(hr:r<=bB)(hs:s<=bB) :
  Cb 140 #[.int .i64 k,.int .u64 (l:Int),.int .u64 (r:Int),.int .u64 (s:Int)] w (.int .u64 (uh k l r s:Nat)):=by
 by_cases f:k=4
 ·subst f;have h:=asV w l r r s hl hr hr hs;have a:uh 4 l r s=iN [l,r,r,s]:=rfl;rw[a];generalize iN [l,r,r,s]=x at *;clear hl hr hs a;go_enter Tryz.func140,Tryz.ntmps140;go_wp2_with fail;refine h.mono ?_;clear h;rintro e d ⟨rfl,b⟩;go_wp2;go_ret;exact⟨rfl,b⟩
 by_cases g:k=5
 ·subst g;have h:=ajc w l r s hl hr hs;have a:uh 5 l r s=iN [l,r,s]:=rfl;rw[a];generalize iN [l,r,s]=x at *;clear hl hr hs a;go_enter Tryz.func140,Tryz.ntmps140;go_wp2_with fail;refine h.mono ?_;clear h;rintro e d ⟨rfl,b⟩;go_wp2;go_ret;exact⟨rfl,b⟩
 have h:=xY l r w hl hr;have a:uh k l r s=bP l r:=by unfold uh; rw[Qv f,Qv g]
 rw[a];generalize bP l r=x at *;clear hl hr hs a;go_enter Tryz.func140,Tryz.ntmps140;go_wp2_with fail;refine h.mono ?_;clear h;rintro e d ⟨rfl,rfl⟩;go_wp2;go_ret;exact⟨rfl,Qr _ _⟩
theorem KX(l:Nat)(w:World)(hl:l<=bB) :
  Ce 141 #[.int .u64 (l:Int)] w (.int .u64 (bP l (kU l+1):Nat)):=by
 have a:=Yw l w hl;have d:kU l<=64:=Tw l (by unfold bB at hl; omega);have b:=xY l (kU l+1) w hl (by unfold bB; omega);generalize kU l=n at *;generalize bP l (n+1)=x at *;clear hl;go_enter Tryz.func141,Tryz.ntmps141;go_wp2_with fail;refine a.mono ?_;clear a;rintro e f ⟨rfl,rfl⟩;go_wp2_with fail;refine b.mono ?_;clear b;rintro e g ⟨rfl,rfl⟩;go_wp2;go_ret;exact⟨rfl,rfl⟩
theorem aI.take(h:aI w ao xs)(k:Nat):aI w ao (xs.take k):=by
 refine⟨by have:=h.1; rw[XF]; omega,fun i d=>?_⟩;rw[XF]at d;obtain⟨b,off,e,a⟩:=h.2 i (by omega);refine⟨b,off,e,?_⟩;rw[a];simp[List.getD,show i<k by omega,show i<xs.length by omega]
theorem Oo{l:List Int}{k:Nat}(hk:k<l.length)(h:l.getD k 0≠k):pM l=false:=by
 unfold pM;rw[Qj];exact⟨k,Xm.2 hk,by rw[Qg h]; simp⟩
theorem Oq{l:List Int}(h:∀ i,i<l.length->l.getD i 0=i):pM l=true:=by
 unfold pM;rw[Qp];exact fun i a=>Qy (h i (Xm.1 a))
theorem Yy(ao:Option Addr)(cap:Nat)(xs:List Int)(v:Int)(w:World)(hx:aI w ao xs) :
  Calls Tryz.prog 143 #[.slice ao xs.length cap,.int .i64 v] w fun e w'=>∃ r:Int,e=.returned (.int .i64 r)/\Hid (0<=r↔v∈xs)/\w' = w:=by
 have s:=hx.1;go_enter Tryz.func143,Tryz.ntmps143;go_wp2;go_loop [8] (fun i=>∃ k:Nat,k<=xs.length/\i=.int .i64 k/\v ∉ xs.take k) (fun i=>xs.length-(intOf i).toNat)
 case atStart=>exact⟨0,Zf _,rfl,by simp⟩
 case round=>
  obtain⟨k,t,rfl,d⟩:=hrel;by_cases a:k<xs.length
  ·obtain⟨b,off,rfl,p⟩:=hx.get a;have q:=p k a;have m:=Zh (wX (v:=v) a);have g:Hid _:=d;have n:Hid (xs.getD k 0∈xs):=by
    show _∈_
    exact X4 a
   clear p hx d;obtain⟨x,f⟩:=eY (xs.getD k 0)
   rw[<- f]at q m n;clear f;by_cases l:v=x
   ·have j:(v==x)=true:=by simp[l]
    go_wp2;go_ret;exact⟨k,rfl,⟨fun _=>n.o,fun _=>by omega⟩,rfl⟩
   ·have j:(v==x)=false:=by simp[l]
    go_wp2;go_round
    case rel=>exact⟨k+1,by omega,by go_num,fun e=>by
     rcases m.o.1 e with e | e
     ·exact g.o e
     ·exact l e.symm⟩
    case measure=>simp[intOf]; omega
  ·have e:k=xs.length:=by omega
   rw[e,Qw]at d;have g:Hid _:=d;clear d;go_wp2;go_ret;exact⟨-1,rfl,⟨fun h=>absurd h (by omega),fun h=>absurd h g.o⟩,rfl⟩
theorem zD(ao:Option Addr)(cap:Nat)(xs:List Int)(v:Int)(w:World)(hx:aI w ao xs) :
  Ce 109 #[.slice ao xs.length cap,.int .i64 v] w (.bool (decide (v∈xs))):=by
 have h:=Yy ao cap xs v w hx;clear hx;go_enter Tryz.func109,Tryz.ntmps109;go_wp2_with fail;refine h.mono ?_;clear h;rintro e b ⟨r,rfl,a,rfl⟩;go_wp2;go_ret;exact⟨Qb (by rw[QD,QE,QE]; exact a.o),rfl⟩
theorem Yz(ao bo:Option Addr)(cap cap':Nat)(xs ys:List Int)(w:World)(hx:aI w ao xs)(hy:aI w bo ys) :
  Cb 131 #[.slice ao xs.length cap,.slice bo ys.length cap'] w (.bool (decide (xs=ys))):=by
 have A:=hy.1;by_cases a:xs.length=ys.length
 ·have p:=Zh a;have q:((xs.length:Int) != (ys.length:Int))=false:=by rw[a]; simp
  have B:xs.length<=ys.length:=by omega
  clear a;go_enter Tryz.func131,Tryz.ntmps131;go_wp2;go_loopw [13] (fun i wr=>∃ k:Nat,k<=xs.length/\i=.int .i64 k/\Hid (xs.take k=ys.take k)/\∃ n,wr=w.drewN n) (fun i _=>xs.length-(intOf i).toNat)
  case atStart=>exact⟨0,Zf _,rfl,rfl,0,rfl⟩
  case round=>
   obtain⟨k,F,rfl,u,n,rfl⟩:=hrel;by_cases j:k<xs.length
   ·have d:k<ys.length:=by omega
    obtain⟨b,off,rfl,v⟩:=hx.get j;obtain⟨b',z,rfl,l⟩:=hy.get d;have C:=v k j;have D:=l k d;clear v l hx hy;obtain⟨x,f⟩:=eY (xs.getD k 0)
    obtain⟨y,g⟩:=eY (ys.getD k 0)
    rw[<- f]at C;rw[<- g]at D;have s:=Zh f;have t:=Zh g;clear f g;by_cases m:x=y
    ·have r:(x != y)=false:=by simp[m]
     go_wp2;go_quiet (fail);go_wp2;go_roundw
     case rel=>exact⟨k+1,by omega,by go_num,KZ j d u.o (by rw[<- s.o,<- t.o]; exact m),_,rfl⟩
     case measure=>simp[intOf]; omega
    ·have r:(x != y)=true:=by simp[m]
     go_wp2;go_quiet (fail);go_wp2;go_ret;exact⟨Qb (Qg (fun e=>m (by rw[s.o,t.o,e]))).symm,ZF (ZF (Qr _ _) _) _⟩
   ·have E:Hid (k=xs.length):=by show _=_; omega
    go_wp2;go_ret;exact⟨Qb (by refine(Qy ?_).symm; have:=u.o; rw[E.o,Qw,p.o,Qw]at this; exact this),ZF (Qr _ _) _⟩
 ·have q:((xs.length:Int) != (ys.length:Int))=true:=by rw[bne_iff_ne]; omega
  have p:Hid _:=a;clear a;go_enter Tryz.func131,Tryz.ntmps131;go_wp2;go_ret;exact⟨Qb (Qg (fun e=>p.o (by rw[e]))).symm,Qr _ _⟩
theorem rZ(ao bo:Option Addr)(cap cap':Nat)(xs ys:List Int)(w:World)(hx:aI w ao xs)(hy:aI w bo ys)(hcap:xs.length<=cap) :
  Cb 96 #[.slice ao xs.length cap,.slice bo ys.length cap'] w (.bool (bW xs ys)):=by
 have f:=hy.1;by_cases a:ys.length<=xs.length
 ·have b:Hid (bW xs ys=decide (xs.take ys.length=ys)):=by
   show _=_
   unfold bW;rw[Qy a,Qz]
  have d:=Yz ao bo cap cap' (xs.take ys.length) ys w (hx.take _) hy;rw[XF,Nat.min_eq_left a]at d;generalize bW xs ys=S at *;generalize decide (xs.take ys.length=ys)=B at *;clear hx hy;go_enter Tryz.func96,Tryz.ntmps96;go_wp2_with fail;refine d.mono ?_;clear d;rintro e i ⟨rfl,g⟩;go_wp2;go_ret;exact⟨Qb b.o.symm,g⟩
 ·have b:Hid (bW xs ys=false):=by
   show _=_
   unfold bW;rw[Qg a,Qh]
  generalize bW xs ys=S at *;clear hx hy;go_enter Tryz.func96,Tryz.ntmps96;go_wp2;go_ret;exact⟨Qb b.o.symm,Qr _ _⟩
theorem K4(ao:Option Addr)(cap:Nat)(xs:List Int)(w:World)(hx:aI w ao xs) :
  Ce 102 #[.slice ao xs.length cap] w (.bool (pM xs)):=by
 have u:=hx.1;have q:Hid _:=@Oo xs;have r:Hid _:=@Oq xs;generalize pM xs=C at *;go_enter Tryz.func102,Tryz.ntmps102;go_wp2;go_loop [7] (fun i=>∃ k:Nat,k<=xs.length/\i=.int .i64 k/\Hid (∀ j,j<k->xs.getD j 0=j)) (fun i=>xs.length-(intOf i).toNat)
 case atStart=>exact⟨0,Zf _,rfl,fun j p=>absurd p (by omega)⟩
 case round=>
  obtain⟨k,v,rfl,m⟩:=hrel;by_cases d:k<xs.length
  ·obtain⟨b,off,rfl,n⟩:=hx.get d;have s:=n k d;clear n hx;have l:=Zh (q.o d);obtain⟨x,a⟩:=eY (xs.getD k 0)
   rw[<- a]at s l;have t:=Zh a;clear a;by_cases f:x=(k:Int)
   ·have g:(x != (k:Int))=false:=by simp[f]
    have e:=Zh f;clear f;go_wp2;go_round
    case rel=>exact⟨k+1,by omega,by go_num,fun j p=>by
     rcases Ql j k with h | h
     ·exact m.o j h
     ·obtain rfl:j=k:=by omega
      rw[<- t.o]; exact e.o⟩
    case measure=>simp[intOf]; omega
   ·have g:(x != (k:Int))=true:=by simp[f]
    have e:=Zh (l.o f);go_wp2;go_ret;exact⟨Qb e.o.symm,rfl⟩
  ·have e:=Zh (r.o (fun i y=>m.o i (by omega)));go_wp2;go_ret;exact⟨Qb e.o.symm,rfl⟩
theorem YA(q:ae){k:Nat}(hk:k<q.ord.xs.length):(q.ord.xs.take (k+1)).map (fun p=>q.aK.xs.getD p.toNat 0)=(q.ord.xs.take k).map (fun p=>q.aK.xs.getD p.toNat 0)++[q.aK.xs.getD (q.ord.xs.getD k 0).toNat 0]:=by
 have e:q.ord.xs.getD k 0=q.ord.xs[k]:=by simp[List.getD,hk]
 rw[Qm hk,Qn,e];rfl
theorem K5{base':Nat}{xs:List Value}(h:w.ownsRow base e size v n xs)(hb:base'<=base):w.ownsRow base' e size v n xs:=zh h hb (fun _ _ _=>rfl)
theorem zF{n:Int}(h:aM xs n=true)(hk:k<xs.length):0<=xs.getD k 0/\xs.getD k 0<n:=by
 unfold aM at h;rw[Qp]at h;have:=h _ (X4 hk (d:=0))
 simpa using this
theorem xZ(q:ae)(w:World)(hq:q.At w)(hos:aM q.ord.xs q.aK.xs.length=true)(hol:q.ord.xs.length<=1000) :
  Calls Tryz.prog 101 #[.agg q.cells] w fun e w'=>∃ v,e=.returned v/\w'.ownsRow w.heap.size 3 1 v (wm q).length ((wm q).map (Value.int .i64))/\Bw w w':=by
 obtain⟨t,f⟩:∃ x,x=w.alloc (.cells q.cells 26):=⟨_,rfl⟩
 have i:Bw w t:=by rw[f]; exact bV _ _
 have F:GB t w.heap.size 26 q.cells:=by rw[f]; exact lZ _ _
 have Z:=F.at 5;have q6:=F.at 6;have zG:=f.symm;have BA:Hid (aI w q.aK.ad q.aK.xs):=hq.aK;have G:Hid (aI w q.ord.ad q.ord.xs):=hq.ord;have H:=Zh hos;have m:Hid (∀ k,k<q.ord.xs.length->_):=fun k E=>@YA q k E
 have r:Hid (wm q=(q.ord.xs.take q.ord.xs.length).map (fun p=>q.aK.xs.getD p.toNat 0)):=by show _=_; rw[Qw]; rfl
 have af:=hq.aK.1;have R:Hid (∀ k,((q.ord.xs.take k).map (fun p=>q.aK.xs.getD p.toNat 0)).length<=1000):=fun k=>by rw[ZB,XF]; omega
 clear f F hq hos;obtain⟨src,bE,aF,wh,j,u,y,⟨ea,ec,z⟩,⟨oa,oc,a⟩⟩:=q;unfold ae.cells aa.val at *;simp only at *;generalize wm ⟨src,bE,aF,wh,j,u,y,⟨ea,ec,z⟩,⟨oa,oc,a⟩⟩=WN at *;obtain⟨W,A⟩:∃ W:Nat->List Int,W=fun k=>(a.take k).map (fun p=>z.getD p.toNat 0):=⟨_,rfl⟩
 have I:Hid (∀ k,k<a.length->W (k+1)=W k++[z.getD (a.getD k 0).toNat 0]):=fun k E=>by rw[A]; exact m.o k E
 have J:Hid (WN=W a.length):=by show _=_; rw[A]; exact r.o
 have K:Hid (∀ k,(W k).length<=1000):=fun k=>by rw[A]; exact R.o k
 have M:Hid (W 0=[]):=by show _=_; rw[A]; rfl
 clear A m r R;go_enter Tryz.func101,Tryz.ntmps101;go_wp2;clear zG;go_loopw [3,9] (fun v iv wr=>∃ k:Nat,k<=a.length/\iv=.int .i64 k/\Hid (wr.ownsRow t.heap.size 3 1 v (W k).length ((W k).map (Value.int .i64)))/\Bw t wr) (fun _ iv _=>a.length-(intOf iv).toNat)
 case atStart=>exact⟨0,Zf _,rfl,by rw[M.o]; exact ZA _ _ _ _,Qr _ _⟩
 case round=>
  obtain⟨k,E,rfl,l,d⟩:=hrel;have ag:=cB d Z;by_cases g:k<a.length
  ·have S:=aC i d;obtain⟨ob,oo,rfl,B⟩:=Qe G.o g;have ah:=cB S (B k g);have N:=zF H.o g;have O:=Zh (I.o k g);have T:=K.o k;clear B;generalize a.getD k 0=p at *;obtain⟨n,rfl⟩:=Jh N.1;have U:n<z.length:=by omega
   obtain⟨eb,eo,rfl,C⟩:=Qe BA.o U;have ai:=cB S (C n U);clear C;rw[ZY]at O;generalize z.getD n 0=x at *;generalize Q:W k=L at *;clear Q;obtain⟨V,X,rc,rfl⟩:=Zr l.o;obtain⟨v',w5,Y,P,D,⟨ua,um,uc,rfl⟩,-⟩:=uu wr t.heap.size (.slice V X rc) L l.o (by omega) d.size x 22;have s:=d.trans (D.below d.size (fun b hb e=>by have:=(Zq l.o e).1; omega));rw[<- O.o]at P;have Iy:Hid _:=P;have lD:=Zh s;clear P s D l O;go_wp2_with (first | (at_builtin; refine X5 rfl (.tmp 13) (.tmp 19) 22 rfl (.slice V X rc) (.slice (some (aD wr.heap.size 0)) 1 1) (.slice ua um uc) w5 rfl rfl Y ?_));clear Y;go_wp2;go_roundw
   case rel=>exact⟨k+1,by omega,by go_num,Iy.o,lD.o⟩
   case measure=>simp[intOf]; omega
  ·obtain rfl:k=a.length:=by omega
   rw[<- J.o]at l;have HF:=Zh (K5 l.o i.size);have HB:=Zh (aC i d);clear l d;go_wp2;go_ret;exact⟨_,rfl,HF.o,HB.o⟩
structure asZ(q:ae)(kind:Int):Prop where
 places:kind=9->aM q.ord.xs q.aK.xs.length=true
 few:q.ord.xs.length<=1000
theorem K7(q:ae)(kind:Int)(oa:Option Addr)(oc:Nat)(order:List Int)(w:World)(hq:q.At w)(hk:asZ q kind)(ho:aI w oa order)(hcap:order.length<=oc) :
  Cb 63 #[.agg q.cells,.int .i64 kind,.slice oa order.length oc] w (.bool (pO q kind order)):=by
 obtain⟨z,g⟩:∃ x,x=w.alloc (.cells q.cells 26):=⟨_,rfl⟩
 have d:Bw w z:=by rw[g]; exact bV _ _
 have M:GB z w.heap.size 26 q.cells:=by rw[g]; exact lZ _ _
 obtain⟨Y,Z,q2,q3,q4,q5,q6⟩:=M.k7;have X:=g.symm;have Q:=hq.ord.1;have R:=hq.keys.1;have l:Hid (kind=9->_):=fun e=>xZ q z (hq.below d) (hk.places e) hk.few
 have m:Hid (∀ K P ys x,Bw z x->aI x K ys->_):=fun K P ys x V W=>rZ oa K oc P order ys x (Qt (aC d V) ho) W hcap
 have b:Hid _:=K4 q.ord.ad q.ord.cap q.ord.xs z (Qt d hq.ord);obtain⟨t,i⟩:=eY (pO q kind order)
 rw[<- i];have G:Hid ((wm q).length<=1000):=by show _<=_; unfold wm; rw[ZB]; exact hk.few
 unfold pO at i;have a:=Zh i;clear i;generalize wm q=WN at *;generalize pM q.ord.xs=CB at *;have s:=Zh d;clear g M hq hk ho d;obtain⟨⟨sa,sc,src⟩,bE,aF,wh,J,⟨ka,kc,A⟩,⟨ua,uc,N⟩,⟨ea,ec,aK⟩,⟨da,dc,j⟩⟩:=q;unfold ae.cells aa.val at *;simp only at *;by_cases D:j.length=0
 ·have f:Hid (t=true):=by show _=_; rw[a.o,Qu D]
  have S:((j.length:Int)==0)=true:=by rw[D]; rfl
  clear a b l m D;go_enter Tryz.func63,Tryz.ntmps63;go_wp2;go_ret;exact⟨Qb f.o.symm,s.o⟩
 rw[Qv D]at a;have S:((j.length:Int)==0)=false:=by rw[XU]; omega
 clear D;by_cases r:kind=10
 ·have f:Hid (t=true):=by show _=_; rw[a.o,Qu r]
  subst r;clear a b l m;go_enter Tryz.func63,Tryz.ntmps63;go_wp2;go_ret;exact⟨Qb f.o.symm,s.o⟩
 rw[Qv r]at a;by_cases F:kind=9
 ·have f:Hid (t=bW order WN):=by show _=_; rw[a.o,Qu F]
  have u:=l.o F;subst F;clear a b l;go_enter Tryz.func63,Tryz.ntmps63;go_wp2_with fail;refine u.mono ?_;clear u;rintro e O ⟨v,rfl,k,p⟩;obtain⟨T,U,rfl,B⟩:=acw k (by have:=G.o; omega);have n:=m.o T U WN O p B;rw[<- f.o]at n;have H:=Zh (aC s.o p);clear m k B p;go_wp2_with fail;refine n.mono ?_;clear n;rintro e w3 ⟨rfl,C⟩;have I:=Zh (aC H.o C);clear C;go_wp2;go_ret;exact⟨rfl,I.o⟩
 rw[Qv F]at a;by_cases L:kind=8
 ·rw[Qu L]at a;subst L;by_cases E:j.length<=A.length
  ·have f:Hid (t=CB):=by show _=_; rw[a.o,Qy E,Qz]
   have y:=b.o;clear a b l m;go_enter Tryz.func63,Tryz.ntmps63;go_wp2_with fail;refine Jj y ?_;clear y;rintro e O ⟨rfl,rfl⟩;go_wp2;go_ret;exact⟨Qb f.o.symm,s.o⟩
  ·have f:Hid (t=false):=by show _=_; rw[a.o,Qg E,Qh]
   clear a b l m;go_enter Tryz.func63,Tryz.ntmps63;go_wp2;go_ret;exact⟨Qb f.o.symm,s.o⟩
 ·have f:Hid (t=false):=by show _=_; rw[a.o,Qv L]
  clear a b l m;go_enter Tryz.func63,Tryz.ntmps63;go_wp2;go_ret;exact⟨Qb f.o.symm,s.o⟩
structure aS.New(f:aS)(n:Nat):Prop where
 ca:∀ a,f.ca=some a->n<=a.block
 ra:∀ a,f.ra=some a->n<=a.block
 na:∀ a,f.na=some a->n<=a.block
 pa:∀ a,f.pa=some a->n<=a.block
theorem lh{b off:Nat}(h:A.cell? (aD b off)=some v)(hk:Kept (fun x=>x≠R) A B)(hb:b≠R):B.cell? (aD b off)=some v:=Zj h hk hb
theorem gG.but{xs:List Nat}(h:gG A ao xs)(hk:Kept (fun x=>x≠R) A B)(hb:∀ a,ao=some a->a.block≠R):gG B ao xs:=⟨h.1,fun i f=>by
 obtain⟨b,off,e,d⟩:=h.2 i f;exact⟨b,off,e,lh d hk (hb _ e)⟩⟩
theorem iQ.but(h:iQ A ao cs)(hk:Kept (fun x=>x≠R) A B)(hb:∀ a,ao=some a->a.block≠R):iQ B ao cs:=⟨h.1,fun i g=>by
 obtain⟨b,off,e,d,f⟩:=h.2 i g;exact⟨b,off,e,lh d hk (hb _ e),lh f hk (hb _ e)⟩⟩
theorem PartsAt.but{ps:List aB}(h:PartsAt A ao ps)(hk:Kept (fun x=>x≠R) A B)(hb:∀ a,ao=some a->a.block≠R)(ho:∀ i,i<ps.length->(ps.getD i aT).Ok w)(hw:Bw w B):PartsAt B ao ps:=⟨h.1,fun i f=>by
 obtain⟨⟨b,off,e,g,j,k,l,m,n⟩,_⟩:=h.2 i f;have d:=hb _ e;exact⟨⟨b,off,e,lh g hk d,lh j hk d,lh k hk d,lh l hk d,lh m hk d,lh n hk d⟩,(ho i f).below hw⟩⟩
theorem aS.At.but{A B:World}{R:Nat}{f:aS}{ts:List af}{q:ae}(h:f.At ts q A)(hk:Kept (fun x=>x≠R) A B){n:Nat}(hn:f.New n)(hR:R<n)(hq:q.At B):f.At ts q B:=
 ⟨hq,h.cols.but hk (fun a e=>by have:=hn.ca a e; omega),h.rows.but hk (fun a e=>by have:=hn.ra a e; omega),h.aiC.but hk (fun a e=>by have:=hn.na a e; omega),h.parts.but hk (fun a e=>by have:=hn.pa a e; omega),h.nl,h.pl⟩
def kF(kind:Int)(ps:List aB):Bool:=ps.all fun p=>dO p.kind==decide (kind=10)
theorem TB{kind:Int}{ps:List aB}{k:Nat}(hk:k<ps.length)(h:(dO (ps.getD k aT).kind==decide (kind=10))=false):kF kind ps=false:=by
 unfold kF;rw[Qj];exact⟨_,X4 hk,by rw[h]; simp⟩
theorem TC{kind:Int}{ps:List aB}(h:∀ i,i<ps.length->(dO (ps.getD i aT).kind==decide (kind=10))=true):kF kind ps=true:=by
 unfold kF;rw[Qp];intro p b;obtain⟨i,a,rfl⟩:=Qx b;have:=h i a
 simpa [List.getD,a] using this
def yf(ts:List af)(q:ae)(l:List Int)(s i:Nat):Bool:=
 decide ((if i=0 then -1 else l.getD (i-1) 0)<l.getD i 0)&&decide (l.getD i 0<q.wh.length)&&dG s (aL (fI ts q.src.xs (q.wh.getD (l.getD i 0).toNat lz).cs))
theorem Lb(kind:Int)(ao:Option Addr)(cap:Nat)(ps:List aB)(w:World)(hp:PartsAt w ao ps) :
  Cb 59 #[.int .i64 kind,.slice ao ps.length cap] w (.bool (kF kind ps)):=by
 have hl:=hp.1;have s:Hid _:=@TB kind ps;have G:Hid _:=@TC kind ps;have R:Hid _:=hp;generalize kF kind ps=KL at *;clear hp;go_enter Tryz.func59,Tryz.ntmps59;go_wp2;go_loopw [9] (fun iv wr=>∃ k:Nat,k<=ps.length/\iv=.int .i64 k/\Hid (∀ j,j<k->(dO (ps.getD j aT).kind==decide (kind=10))=true)/\Bw w wr) (fun iv _=>ps.length-(intOf iv).toNat)
 case atStart=>exact⟨0,Zf _,rfl,fun j Q=>absurd Q (by omega),Qr _ _⟩
 case round=>
  obtain⟨k,hk,rfl,r,a⟩:=hrel;by_cases q:k<ps.length
  ·obtain⟨⟨b,off,rfl,J,K,L,M,N,P⟩,_⟩:=R.o.2 k q;have S:=cB a J;have T:=cB a K;have U:=cB a L;have V:=cB a M;have W:=cB a N;have X:=cB a P;have m:=Zh (s.o q);have t:Hid (∀ p,p=ps.getD k aT->(dO p.kind==decide (kind=10))=true->∀ j,j<k+1->(dO (ps.getD j aT).kind==decide (kind=10))=true):=fun p hp h j Q=>by
    rcases Ql j k with I | I
    ·exact r.o j I
    ·obtain rfl:j=k:=by omega
     rw[<- hp]; exact h
   clear J K L M N P s r;obtain⟨p,hp⟩:=eY (ps.getD k aT)
   rw[<- hp]at S T U V W X m;have u:=Zh hp;clear hp;obtain⟨B,C,D,⟨pa,pc,Z⟩,E,F⟩:=p;unfold aa.val at *;simp only at *;have v:=fun x=>zz B x
   obtain⟨O,l⟩:=eY (dO B)
   rw[<- l]at m v;have y:=Zh l;clear l;have n:Bw w (wr.alloc (.cells #[.int .i64 B,.int .u64 (C:Int),.int .u64 (D:Int),.slice pa Z.length pc,.int .u64 (E:Int),.int .u64 (F:Int)] 75)):=aC a (bV _ _);have H:=Zh n;clear n;have g:decide (kind=10)=(kind==10):=by rw[QD]; simp
   by_cases f:(O==decide (kind=10))=true
   ·have z:(!(O==(kind==10)))=false:=by rw[<- g,f]; rfl
    clear g;have Y:=Zh (t.o _ u.o (by rw[<- y.o]; exact f));clear f t m;go_wp2_with fail;refine(v _).mono ?_;rintro e w2 ⟨rfl,rfl⟩;go_wp2;go_roundw
    case rel=>exact⟨k+1,by omega,by go_num,Y.o,H.o⟩
    case measure=>simp[intOf]; omega
   ·have d:(O==decide (kind=10))=false:=by simpa using f
    have A:=Zh (m.o d);have z:(!(O==(kind==10)))=true:=by rw[<- g,d]; rfl
    clear g;clear f d t m;go_wp2_with fail;refine(v _).mono ?_;rintro e w2 ⟨rfl,rfl⟩;go_wp2;go_ret;exact⟨Qb A.o.symm,H.o⟩
  ·have A:=Zh (G.o (fun i hi=>r.o i (by omega)));clear s G r;go_wp2;go_ret;exact⟨Qb A.o.symm,a⟩
theorem afF(ok:Ok ts q)(hk:k<q.wh.length):aL (fI ts q.src.xs (q.wh.getD k lz).cs)<18446744073709551616:=
 (vY ok.cat ok.src (ok.cols k hk)).lt ok.small
theorem YB{ts:List af}{q:ae}{l:List Int}{s k:Nat}(hk:k<l.length)(h:yf ts q l s k=false):jo ts q l s=false:=by
 show (List.range l.length).all (yf ts q l s)=false
 rw[Qj];exact⟨k,Xm.2 hk,by rw[h]; simp⟩
theorem YC{ts:List af}{q:ae}{l:List Int}{s:Nat}(h:∀ i,i<l.length->yf ts q l s i=true):jo ts q l s=true:=by
 show (List.range l.length).all (yf ts q l s)=true
 rw[Qp];exact fun i a=>h i (Xm.1 a)
theorem uG(f:aS)(ts:List af)(q:ae)(la:Option Addr)(lc:Nat)(l:List Int)(s:Nat)(w:World)(ok:Ok ts q)(hf:f.At ts q w)(hl:aI w la l)(hs:s<18446744073709551616) :
  Cb 90 #[.agg (f.cells ts q),.slice la l.length lc,.int .u64 (s:Int)] w (.bool (jo ts q l s)):=by
 obtain⟨E,p⟩:∃ x,x=w.alloc (.cells (f.cells ts q) 70):=⟨_,rfl⟩
 have g:Bw w E:=by rw[p]; exact bV _ _
 have N:GB E w.heap.size 70 (f.cells ts q):=by rw[p]; exact lZ _ _
 have q1:=N.at 1;have O:E.cell? (aD w.heap.size 11)=some (.slice f.na q.wh.length f.nc):=by rw[<- hf.nl]; exact N.cell 11
 have zG:w.alloc (.cells (f.cells ts q) 70)=E:=p.symm;have P:Hid _:=hf.aiC.below g;have Ve:Hid _:=Qt g hl;have ag:=hl.1;have Q:=hf.query.wh.1;have R:Hid _:=@YB ts q l s;have S:Hid _:=@YC ts q l s;have A:Hid (∀ i,yf ts q l s i=(decide ((if i=0 then -1 else l.getD (i-1) 0)<l.getD i 0)&&decide (l.getD i 0<q.wh.length)&&dG s (aL (fI ts q.src.xs (q.wh.getD (l.getD i 0).toNat lz).cs)))):=fun _=>rfl
 have B:Hid (∀ k,k<q.wh.length->(zi ts q).getD k 0=aL (fI ts q.src.xs (q.wh.getD k lz).cs)/\aL (fI ts q.src.xs (q.wh.getD k lz).cs)<18446744073709551616):=fun k F=>⟨IC ts q F,afF ok F⟩
 have uz:Hid _:=Iz ts q;have K:Hid _:=g;generalize jo ts q l s=RB at *;obtain⟨z,u⟩:∃ z:Nat->Nat,z=fun k=>aL (fI ts q.src.xs (q.wh.getD k lz).cs):=⟨_,rfl⟩
 have Ot:Hid (∀ i,yf ts q l s i=(decide ((if i=0 then -1 else l.getD (i-1) 0)<l.getD i 0)&&decide (l.getD i 0<q.wh.length)&&dG s (z (l.getD i 0).toNat))):=fun i=>by rw[u]; exact A.o i
 have T:Hid (∀ k,k<q.wh.length->(zi ts q).getD k 0=z k/\z k<18446744073709551616):=fun k F=>by rw[u]; exact B.o k F
 clear u A B;generalize yf ts q l s=RA at *;generalize zi ts q=CL at *;generalize aa:q.wh.length=nw at *;clear aa;generalize f.cells ts q=FC at *;have ah:nw<=1152921504606846976:=Q;clear p N hf hl ok g;go_enter Tryz.func90,Tryz.ntmps90;go_wp2;clear zG;go_loopw [7,12] (fun lv iv wr=>∃ k:Nat,k<=l.length/\iv=.int .i64 k/\(∃ a:Int,lv=.int .i64 a/\-1<=a/\Hid (a=if k=0 then -1 else l.getD (k-1) 0))/\Hid (∀ j,j<k->RA j=true)/\wr=E) (fun _ iv _=>l.length-(intOf iv).toNat)
 case atStart=>exact⟨0,Zf _,rfl,⟨-1,rfl,by omega,rfl⟩,fun j hj=>absurd hj (by omega),rfl⟩
 case round=>
  obtain⟨k,F,rfl,⟨a,rfl,Y,YD⟩,L,rfl⟩:=hrel;by_cases y:k<l.length
  ·obtain⟨lb,lo,rfl,G⟩:=Qe Ve.o y;have U:=G k y;have b:Hid _:=Ot.o k;have r:Hid _:=R.o y;rw[<- YD.o]at b;have KO:Hid (∀ c,c=l.getD k 0->c=if k+1=0 then -1 else l.getD (k+1-1) 0):=fun c hc=>by rw[Qv (by omega)]; exact hc
   have C:Hid (RA k=true->∀ j,j<k+1->RA j=true):=fun h j hj=>by
    rcases Ql j k with h' | h'
    ·exact L.o j h'
    ·obtain rfl:j=k:=by omega
     exact h
   clear G YD L R S Ot;obtain⟨c,v⟩:=eY (l.getD k 0)
   rw[<- v]at U b;have V:Hid _:=KO.o c v;clear v KO;by_cases h1:c<=a
   ·have t:Hid (RB=false):=r.o (by rw[b.o,Qg (by omega)]; rfl);clear b r C;go_wp2;go_ret;exact⟨Qb t.o.symm,K.o⟩
   by_cases h2:(nw:Int)<=c
   ·have t:Hid (RB=false):=r.o (by rw[b.o,Qg (show ¬ c<(nw:Int) by omega),Qi]; rfl);clear b r C;go_wp2;go_ret;exact⟨Qb t.o.symm,K.o⟩
   obtain⟨n,rfl⟩:=Jh (show 0<=c by omega);have W:n<nw:=by omega
   obtain⟨H,Z⟩:=T.o n W;obtain⟨cb,co,I,J⟩:=gG.get P.o (show n<CL.length by rw[uz.o]; exact W);have X:=J n (by rw[uz.o]; exact W);rw[H]at X;rw[ZY]at b;clear J H;rw[I]at O;clear I;generalize z n=m at *;have d:=rY s m hs Z wr;by_cases M:dG s m=true
   ·rw[M]at d b;have HT:Hid _:=C.o (by rw[b.o,Qy (by omega),Qy (by omega)]; rfl);clear b r C M;go_wp2_with fail;refine d.mono ?_;clear d;rintro e w2 ⟨rfl,rfl⟩;go_wp2;go_roundw
    case rel=>exact⟨k+1,by omega,by go_num,⟨n,rfl,by omega,V.o⟩,HT.o,trivial⟩
    case measure=>simp[intOf]; omega
   ·have D:dG s m=false:=by simpa using M
    rw[D]at d b;have t:Hid (RB=false):=r.o (by rw[b.o,Qi]);clear b r C M D;go_wp2_with fail;refine d.mono ?_;clear d;rintro e w2 ⟨rfl,rfl⟩;go_wp2;go_ret;exact⟨Qb t.o.symm,K.o⟩
  ·have t:Hid (RB=true):=S.o (fun i hi=>L.o i (by omega));clear R S L;go_wp2;go_ret;exact⟨Qb t.o.symm,K.o⟩
theorem YE(ts:List af)(q:ae)(hk:k<xs.length):aL (kP ts q (xs.take (k+1)))=aL (kP ts q (xs.take k))|||2 ^ aj ts q.src.xs (xs.getD k 0):=by
 have e:xs.getD k 0=xs[k]:=by simp[List.getD,hk]
 unfold kP;rw[Qm hk,Qn,Xi,e]
 show _|||aL [(aj ts q.src.xs xs[k]:Int)]=_
 rw[uf]
def qU(ts:List af)(q:ae)(xs:List Int):Prop:=∀ c∈xs,0<=c/\c<ai ts q.src.xs
theorem yg(ok:Ok ts q)(h:qU ts q xs):aP q.src.xs.length (kP ts q xs):=fun x e=>by
 obtain⟨c,a,rfl⟩:=ZU.1 e;obtain⟨b,d⟩:=h c a;have:=(Xe ok.cat ok.src b d).1;omega
theorem afH(ok:Ok ts q)(h:qU ts q xs)(k:Nat):aL (kP ts q (xs.take k))<18446744073709551616:=
 (yg ok (fun c a=>h c (XW a))).lt ok.small
theorem AQ(ok:Ok ts q):((fZ ts q).length:Int)=ai ts q.src.xs:=by
 have:=Xc ok.cat ok.src q.src.xs.length (Qs _);rw[Qw]at this;exact this
theorem Eu(ok:Ok ts q){c:Int}(h0:0<=c)(h1:c<ai ts q.src.xs):aj ts q.src.xs c<q.src.xs.length:=(Xe ok.cat ok.src h0 h1).1
theorem uH(c:ak)(w:World) :
  Cb 133 #[c.val] w (.bool (!c.const&&decide (c.op≠2))):=by
 obtain⟨d,b,left,a,right⟩:=c;have e:=bV w (.cells #[.bool d,.int .i64 b,.int .i64 left,.bool a,.int .i64 right] 77);have f:=Zh e;clear e;have g:Hid (decide (b≠2)=(b != 2)):=by show _=_; rw[QD]; simp
 unfold ak.val
 cases a with
 | false =>
  go_enter Tryz.func133,Tryz.ntmps133;go_wp2;go_ret;exact⟨Qb (by show _=(true&&decide (b≠2)); rw[g.o]; rfl),f.o⟩
 | true =>
  go_enter Tryz.func133,Tryz.ntmps133;go_wp2;go_ret;exact⟨rfl,f.o⟩
theorem yh(w:World)(xs:List Int)(t:TypeId)(hl:xs.length<=1000):aI (w.alloc (.cells (xs.map (Value.int .i64)).toArray t)) (some (aD w.heap.size 0)) xs:=by
 refine⟨by omega,fun i a=>⟨w.heap.size,0,rfl,?_⟩⟩;simp only[World.cell?,lZ w _];simp[List.getD,a]
theorem sS(c:ak)(w:World) :
  Calls Tryz.prog 88 #[c.val] w fun e w'=>∃ b,e=.returned (.slice (some (aD b 0)) (aA c).length (aA c).length)/\aI w' (some (aD b 0)) (aA c)/\Bw w w':=by
 have q:Hid _:=fun x=>uH c x
 obtain⟨z,f,g,s⟩:=aR w #[.bool c.not,.int .i64 c.op,.int .i64 c.left,.bool c.const,.int .i64 c.right] 77;obtain⟨t,u,k,v,m⟩:=s.k5;have i:Hid (aA c=if (!c.const&&decide (c.op≠2))=true then [c.left,c.right] else [c.left]):=by
  show _=_
  unfold aA
  cases c.const <;> by_cases h:c.op=2 <;> simp[h]
 have j:=q.o z;generalize (!c.const&&decide (c.op≠2))=B at *;generalize aA c=CC at *;clear q s;obtain⟨A,D,left,n,right⟩:=c;unfold ak.val at *;simp only at *;have r:=Zh g;clear g
 cases B with
 | true =>
  obtain rfl:CC=[left,right]:=i.o;have l:Hid (∀ x:World,aI (x.alloc (.cells #[.int .i64 left,.int .i64 right] 3)) (some (aD x.heap.size 0)) [left,right]):=fun x=>yh x [left,right] _ (by simp)
  clear i;go_enter Tryz.func88,Tryz.ntmps88;go_wp2_with fail;refine j.mono ?_;clear j f;rintro e p ⟨rfl,a⟩;have y:=cB a k;have C:=cB a m;have d:=Zh (aC (aC r.o a) (bV p (.cells #[.int .i64 left,.int .i64 right] 3)));clear a t u k v m;go_wp2;go_ret;exact⟨_,rfl,l.o _,d.o⟩
 | false =>
  obtain rfl:CC=[left]:=i.o;have l:Hid (∀ x:World,aI (x.alloc (.cells #[.int .i64 left] 3)) (some (aD x.heap.size 0)) [left]):=fun x=>yh x [left] _ (by simp)
  clear i;go_enter Tryz.func88,Tryz.ntmps88;go_wp2_with fail;refine j.mono ?_;clear j f;rintro e p ⟨rfl,a⟩;have y:=cB a k;have d:=Zh (aC (aC r.o a) (bV p (.cells #[.int .i64 left] 3)));clear a t u k v m;go_wp2;go_ret;exact⟨_,rfl,l.o _,d.o⟩
theorem wY(f:aS)(ts:List af)(q:ae)(xa:Option Addr)(xc:Nat)(xs:List Int)(w:World)(ok:Ok ts q)(hf:iQ w f.ca (fZ ts q))(hx:aI w xa xs)(hxs:qU ts q xs) :
  Cb 87 #[.agg (f.cells ts q),.slice xa xs.length xc] w (.int .u64 ((aL (kP ts q xs):Nat):Int)):=by
 obtain⟨C,i⟩:∃ x,x=w.alloc (.cells (f.cells ts q) 70):=⟨_,rfl⟩
 have g:Bw w C:=by rw[i]; exact bV _ _
 have Q:GB C w.heap.size 70 (f.cells ts q):=by rw[i]; exact lZ _ _
 have q7:=Q.at 7;have zG:=i.symm;have l9:Hid _:=hf.below g;have E:Hid _:=Qt g hx;have aa:=hx.1;have ag:=hf.1;have t:Hid (∀ k,k<xs.length->aL (kP ts q (xs.take (k+1)))=aL (kP ts q (xs.take k))|||2 ^ aj ts q.src.xs (xs.getD k 0)):=fun k D=>YE ts q D
 have S:Hid (∀ k,aL (kP ts q (xs.take k))<18446744073709551616):=fun k=>afH ok hxs k
 have T:Hid (aL (kP ts q (xs.take xs.length))=aL (kP ts q xs)):=by show _=_; rw[Qw]
 have u:Hid (aL (kP ts q (xs.take 0))=0):=rfl;have F:Hid (∀ k,k<xs.length->∃ n:Nat,xs.getD k 0=n/\n<(fZ ts q).length/\((fZ ts q).getD n (0,0)).1=aj ts q.src.xs (xs.getD k 0)/\aj ts q.src.xs (xs.getD k 0)<64):=fun k D=>by
  obtain⟨h0,h1⟩:=hxs _ (X4 D (d:=0));have h2:=AQ ok;have h3:=Eu ok h0 h1;have h4:=ok.small;refine⟨(xs.getD k 0).toNat,by omega,by omega,rfl,by omega⟩
 have pI:=Zh g;obtain⟨r,b⟩:∃ r:Nat->Nat,r=fun k=>aL (kP ts q (xs.take k)):=⟨_,rfl⟩
 have G:Hid (∀ k,k<xs.length->r (k+1)=r k|||2 ^ aj ts q.src.xs (xs.getD k 0)):=by rw[b]; exact t.o
 have H:Hid (∀ k,r k<18446744073709551616):=by rw[b]; exact S.o
 have I:Hid (r xs.length=aL (kP ts q xs)):=by rw[b]; exact T.o
 have J:Hid (r 0=0):=by rw[b]; exact u.o
 generalize aL (kP ts q xs)=R at *;generalize aj ts q.src.xs=SN at *;generalize fZ ts q=CS at *;generalize f.cells ts q=FC at *;clear b t S T u i Q g ok hxs hf hx;go_enter Tryz.func87,Tryz.ntmps87;go_wp2;clear zG;go_loopw [5,10] (fun sv iv wr=>∃ k:Nat,k<=xs.length/\iv=.int .i64 k/\(∃ s:Nat,sv=.int .u64 (s:Int)/\Hid (s=r k))/\Bw C wr) (fun _ iv _=>xs.length-(intOf iv).toNat)
 case atStart=>exact⟨0,Zf _,rfl,⟨0,rfl,J.o.symm⟩,Qr _ _⟩
 case round=>
  obtain⟨k,D,rfl,⟨s,rfl,z⟩,a⟩:=hrel;by_cases l:k<xs.length
  ·obtain⟨xb,xo,rfl,V⟩:=Qe E.o l;have K:=cB a (V k l);obtain⟨n,W,N,A,B⟩:=F.o k l;have U:=Zh (G.o k l);have L:s<18446744073709551616:=by rw[z.o]; exact H.o k
   obtain⟨cb,co,X,Y,_⟩:=l9.o.2 n N;have d0:=cB a Y;have M:=cB a q7;rw[X]at M;rw[W]at K;rw[A]at d0;rw[<- z.o]at U;clear V Y X A z;generalize SN (xs.getD k 0)=m at *;clear W;obtain⟨O,P⟩:∃ x,wr.alloc (.cells #[.int .i64 (m:Int)] 3)=x:=⟨_,rfl⟩
   have v:=I4 wr.heap.size m O (by rw[<- P]; simp) B;obtain⟨Z,j⟩:∃ x,O.alloc (.cells #[.int .u64 (s:Int),.int .u64 ((2 ^ m:Nat):Int)] 66)=x:=⟨_,rfl⟩
   have hp:2 ^ m<18446744073709551616:=Jg (n:=64) (by omega) B;have y:=vI O.heap.size s (2 ^ m) Z (by rw[<- j]; simp) (by rw[<- j]; simp) L hp;have xW:Hid (Bw C Z):=by
    show Below _ _ _
    rw[<- j,<- P];exact aC (aC a (bV _ _)) (bV _ _)
   generalize 2 ^ m=p at *;go_wp2_with fail;refine v.mono ?_;clear v;rintro e w2 ⟨rfl,rfl⟩;go_wp2_with fail;refine y.mono ?_;clear y;rintro e w3 ⟨rfl,rfl⟩;clear P j;go_wp2;go_roundw
   case rel=>exact⟨k+1,by omega,by go_num,⟨s|||p,rfl,U.o.symm⟩,xW.o⟩
   case measure=>simp[intOf]; omega
  ·obtain rfl:k=xs.length:=by omega
   have HV:=Zh (z.o.trans I.o);have HB:=Zh (aC pI.o a);clear z a;go_wp2;go_ret;exact⟨Qc (by rw[HV.o]),HB.o⟩
