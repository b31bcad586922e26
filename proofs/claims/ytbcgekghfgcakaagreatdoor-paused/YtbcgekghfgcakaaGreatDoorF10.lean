import Derived.Test.YtbcgekghfgcakaaGreatDoorF05
set_option linter.all false
set_option maxRecDepth 100000
set_option maxHeartbeats 16000000
namespace Go.Proofs.Zz
open Go.RowKit Go.Shelf
def fD (w:World) (ao:Option Addr) (xs:List Nat):Prop:=
 xs.length<=1000/\aY w ao xs.length (fun i=>.int .u64 ((xs.getD i 0:Nat):Int))
theorem fD.get {w:World} {ao:Option Addr} {xs:List Nat} (h:fD w ao xs) {i:Nat} (hi:i<xs.length) :
  ∃ b off,ao=some (aD b off)/\∀ j,j<xs.length->w.cell? (aD b (off+j))=some (.int .u64 ((xs.getD j 0:Nat):Int)):=
 Qf h.2 hi
theorem fD.below {w w':World} (hb:Below w.heap.size w w') {ao:Option Addr} {xs:List Nat} (h:fD w ao xs):fD w' ao xs:=⟨h.1,h.2.below hb⟩
def jd (w:World) (ao:Option Addr) (cs:List (Nat × Int)):Prop:=
 cs.length<=1000/\∀ i,i<cs.length->∃ b off,ao=some (aD b off)/\
  w.cell? (aD b (off+i*2))=some (.int .i64 ((cs.getD i (0,0)).1:Nat))/\w.cell? (aD b (off+i*2+1))=some (.int .u64 (cs.getD i (0,0)).2)
theorem jd.below {w w':World} (hb:Below w.heap.size w w') {ao:Option Addr} {cs:List (Nat × Int)} (h:jd w ao cs):jd w' ao cs:=⟨h.1,fun i hi=>by
 obtain⟨b,off,e,c0,c1⟩:=h.2 i hi;exact⟨b,off,e,cB hb c0,cB hb c1⟩⟩
structure aB where
 ca:Option Addr
 cc:Nat
 ra:Option Addr
 rc:Nat
 na:Option Addr
 nl:Nat
 nc:Nat
 pa:Option Addr
 pl:Nat
 pc:Nat
def jI (ts:List af) (q:ae):List (Nat × Int):=bH ts q.src.xs q.src.xs.length
def xZ (ts:List af) (q:ae):List Nat:=(List.range q.src.xs.length).map fun (k:Nat)=>pJ ts q.src.xs (k:Int)
def aA (ts:List af) (q:ae):List Nat:=q.wh.map fun c=>bT (jF ts q.src.xs c.cs)
def sM (ts:List af) (q:ae):List Nat:=q.wh.map fun c=>iF ts q.src.xs c.cs
def aB.cells (f:aB) (ts:List af) (q:ae):Array Value:=
 #[q.src.val,.slice q.bY q.wh.length q.aI,.bool q.group,q.keys.val,q.sums.val,q.aQ.val,q.ord.val,.slice f.ca (jI ts q).length f.cc,.int .u64 ((2 ^ q.src.xs.length-1:Nat):Int),.int .u64 ((2 ^ q.wh.length-1:Nat):Int),
  .slice f.ra q.src.xs.length f.rc,.slice f.na f.nl f.nc,.slice f.pa f.pl f.pc]
structure aB.At (f:aB) (ts:List af) (q:ae) (w:World):Prop where
 query:q.At w
 aH:jd w f.ca (jI ts q)
 rows:fD w f.ra (xZ ts q)
 conc:fD w f.na (aA ts q)
 parts:fD w f.pa (sM ts q)
 nl:f.nl=q.wh.length
 pl:f.pl=q.wh.length
theorem aB.At.below {w w':World} (hb:Below w.heap.size w w') {f:aB} {ts:List af} {q:ae} (h:f.At ts q w):f.At ts q w':=
 ⟨h.query.below hb,h.aH.below hb,h.rows.below hb,h.conc.below hb,h.parts.below hb,h.nl,h.pl⟩
theorem Pq (ts:List af) (q:ae):(xZ ts q).length=q.src.xs.length:=by unfold xZ; simp
theorem Ps (ts:List af) (q:ae):(aA ts q).length=q.wh.length:=by unfold aA; simp
theorem CW (ts:List af) (q:ae):(sM ts q).length=q.wh.length:=by unfold sM; simp
theorem CX (ts:List af) (q:ae) {k:Nat} (hk:k<q.src.xs.length):(xZ ts q).getD k 0=pJ ts q.src.xs (k:Int):=by unfold xZ; simp[List.getD,hk]
theorem CY (ts:List af) (q:ae) {k:Nat} (hk:k<q.wh.length):(aA ts q).getD k 0=bT (jF ts q.src.xs (q.wh.getD k lz).cs):=by unfold aA; simp[List.getD,hk]
theorem wX (ts:List af) (q:ae) {k:Nat} (hk:k<q.wh.length):(sM ts q).getD k 0=iF ts q.src.xs (q.wh.getD k lz).cs:=by unfold sM; simp[List.getD,hk]
structure bK where
 kind:Int
 sources:Nat
 clauses:Nat
 order:ah
 size:Nat
 cost:Nat
def dM:bK:=⟨0,0,0,⟨none,0,[]⟩,0,0⟩
def bK.cells (p:bK):Array Value:=#[.int .i64 p.kind,.int .u64 (p.sources:Int),.int .u64 (p.clauses:Int),p.order.val,.int .u64 (p.size:Int),.int .u64 (p.cost:Int)]
def bK.list (p:bK):List Value:=[.int .i64 p.kind,.int .u64 (p.sources:Int),.int .u64 (p.clauses:Int),p.order.val,.int .u64 (p.size:Int),.int .u64 (p.cost:Int)]
def bK.d (p:bK):iG:=⟨p.kind,p.sources,p.clauses,p.order.xs,p.size,p.cost⟩
structure bK.Ok (p:bK) (w:World):Prop where
 order:p.order.At w
 cap:p.order.xs.length<=p.order.cap
 sources:p.sources<=bR
 clauses:p.clauses<=bR
 size:p.size<=bR
 cost:p.cost<=bR
theorem bK.Ok.below {w w':World} (hb:Below w.heap.size w w') {p:bK} (h:p.Ok w):p.Ok w':=⟨Qo hb h.order,h.cap,h.sources,h.clauses,h.size,h.cost⟩
def PartsAt (w:World) (ao:Option Addr) (ps:List bK):Prop:=
 ps.length<=1000/\∀ i,i<ps.length->(∃ b off,ao=some (aD b off)/\
  w.cell? (aD b (off+i*6))=some (.int .i64 (ps.getD i dM).kind)/\w.cell? (aD b (off+i*6+1))=some (.int .u64 ((ps.getD i dM).sources:Int))/\
  w.cell? (aD b (off+i*6+2))=some (.int .u64 ((ps.getD i dM).clauses:Int))/\w.cell? (aD b (off+i*6+3))=some (ps.getD i dM).order.val/\
  w.cell? (aD b (off+i*6+4))=some (.int .u64 ((ps.getD i dM).size:Int))/\w.cell? (aD b (off+i*6+5))=some (.int .u64 ((ps.getD i dM).cost:Int)))/\(ps.getD i dM).Ok w
theorem PartsAt.below {w w':World} (hb:Below w.heap.size w w') {ao:Option Addr} {ps:List bK} (h:PartsAt w ao ps):PartsAt w' ao ps:=⟨h.1,fun i hi=>by
 obtain⟨⟨b,off,e,c0,c1,c2,c3,c4,c5⟩,ho⟩:=h.2 i hi;exact⟨⟨b,off,e,cB hb c0,cB hb c1,cB hb c2,cB hb c3,cB hb c4,cB hb c5⟩,ho.below hb⟩⟩
theorem flat_get {α:Type} (f:α->List Value) (k:Nat) (hk:∀ a,(f a).length=k) (d:α):∀ (l:List α) (i j:Nat),i<l.length->j<k->(l.flatMap f)[i*k+j]? = (f (l.getD i d))[j]?
 | [],i,j,h,_ => absurd h (by simp)
 | a::l,0,j,_,hj => by
  rw[QA,QD,QE,List.getElem?_append_left (by rw[hk]; exact hj)];rfl
 | a::l,i+1,j,h,hj => by
  have e:(i+1)*k+j=(f a).length+(i*k+j):=by rw[hk,Nat.succ_mul]; omega
  rw[QA,e,QF (Nat.le_add_right _ _),Nat.add_sub_cancel_left,flat_get f k hk d l i j (by simpa using h) hj];rfl
theorem iV {α:Type} (f:α->List Value) (k:Nat) (hk:∀ a,(f a).length=k):∀ l:List α,(l.flatMap f).length=l.length*k
 | [] => by simp
 | a::l => by rw[QA,QT,hk,iV f k hk l,Q5,Nat.succ_mul]; omega
theorem rP {w:World} {base:Nat} {e:TypeId} {size:Nat} {v:Value} {n:Nat} {xs:List Value} (h:w.ownsRow base e size v n xs) :
  (v=.slice none 0 0/\n=0)∨∃ g cap,v=.slice (some (aD g 0)) n cap/\base<=g/\g<w.heap.size/\∀ j u,xs[j]? = some u->w.cell? (aD g j)=some u:=by
 rcases h.2 with⟨rfl,h1⟩ | ⟨g,cap,cur,rfl,hb,hh,_,_,_,ht⟩
 ·exact .inl ⟨rfl,h1⟩
 ·refine .inr ⟨g,cap,rfl,hb,(QI.1 hh).1,fun j u hj=>?_⟩;rw[<- ht,ZH] at hj;split at hj
  ·simp only[World.cell?,hh]
   simpa using hj
  ·cases hj
theorem nP {w:World} {base:Nat} {e:TypeId} {v:Value} {n:Nat} {xs:List Nat} (h:w.ownsRow base e 1 v n (xs.map fun (x:Nat)=>.int .u64 (x:Int))) (hl:xs.length<=1000):∃ ao cap,v=.slice ao xs.length cap/\fD w ao xs:=by
 have hn:xs.length=n:=by have:=h.1; simpa using this
 rcases rP h with⟨rfl,h0⟩ | ⟨g,cap,rfl,_,_,hc⟩
 ·have:xs=[]:=Qz (by omega);subst this;exact⟨none,0,rfl,⟨by simp,fun i hi=>absurd hi (by simp)⟩⟩
 ·refine⟨some (aD g 0),cap,by rw[hn],⟨hl,fun i hi=>⟨g,0,rfl,?_⟩⟩⟩;rw[QE];exact hc i _ (by rw[QW]; simp[List.getD,hi])
def iq (c:Nat × Int):List Value:=[.int .i64 (c.1:Int),.int .u64 c.2]
theorem zI {w:World} {base:Nat} {e:TypeId} {v:Value} {n:Nat} {cs:List (Nat × Int)} (h:w.ownsRow base e 2 v n (cs.flatMap iq)) (hl:cs.length<=1000):∃ ao cap,v=.slice ao cs.length cap/\jd w ao cs:=by
 have hk:∀ a,(iq a).length=2:=fun _=>rfl
 have hn:cs.length=n:=by have:=h.1; rw[iV iq 2 hk] at this; omega
 rcases rP h with⟨rfl,h0⟩ | ⟨g,cap,rfl,_,_,hc⟩
 ·have:cs=[]:=Qz (by omega);subst this;exact⟨none,0,rfl,⟨by simp,fun i hi=>absurd hi (by simp)⟩⟩
 ·refine⟨some (aD g 0),cap,by rw[hn],⟨hl,fun i hi=>⟨g,0,rfl,?_,?_⟩⟩⟩
  ·rw[QE];exact hc (i*2) _ (by have:=flat_get iq 2 hk (0,0) cs i 0 hi (by omega); rw[ZU] at this; rw[this]; rfl)
  ·rw[QE];exact hc (i*2+1) _ (by rw[flat_get iq 2 hk (0,0) cs i 1 hi (by omega)]; rfl)
theorem Pt {w:World} {base:Nat} {e:TypeId} {v:Value} {n:Nat} {ps:List bK} (h:w.ownsRow base e 6 v n (ps.flatMap bK.list)) (hl:ps.length<=1000) (hp:∀ i,i<ps.length->(ps.getD i dM).Ok w):∃ ao cap,v=.slice ao ps.length cap/\PartsAt w ao ps:=by
 have hk:∀ a:bK,a.list.length=6:=fun _=>rfl
 have hn:ps.length=n:=by have:=h.1; rw[iV bK.list 6 hk] at this; omega
 rcases rP h with⟨rfl,h0⟩ | ⟨g,cap,rfl,_,_,hc⟩
 ·have:ps=[]:=Qz (by omega);subst this;exact⟨none,0,rfl,⟨by simp,fun i hi=>absurd hi (by simp)⟩⟩
 ·refine⟨some (aD g 0),cap,by rw[hn],⟨hl,fun i hi=>⟨⟨g,0,rfl,?_,?_,?_,?_,?_,?_⟩,hp i hi⟩⟩⟩ <;> rw[QE]
  ·exact hc (i*6) _ (by have:=flat_get bK.list 6 hk dM ps i 0 hi (by omega); rw[ZU] at this; rw[this]; rfl)
  ·exact hc (i*6+1) _ (by rw[flat_get bK.list 6 hk dM ps i 1 hi (by omega)]; rfl)
  ·exact hc (i*6+2) _ (by rw[flat_get bK.list 6 hk dM ps i 2 hi (by omega)]; rfl)
  ·exact hc (i*6+3) _ (by rw[flat_get bK.list 6 hk dM ps i 3 hi (by omega)]; rfl)
  ·exact hc (i*6+4) _ (by rw[flat_get bK.list 6 hk dM ps i 4 hi (by omega)]; rfl)
  ·exact hc (i*6+5) _ (by rw[flat_get bK.list 6 hk dM ps i 5 hi (by omega)]; rfl)
theorem Uv {P:Program} (W:World) (base:Nat) (t ty e:TypeId) (i:TypeInfo) (z:Value) (size bytes:Nat) (ht:P.underlying t=some (.slice e)) (hi:P.info? e=some i) (hz:i.zero=some z) (hsize:i.size=size) (hby:i.bytes=bytes) (hzs:z.cells.size=size) (hsz:0<size)
  (v:Value) (n:Nat) (xs:List Value) (hown:W.ownsRow base e size v n xs) (hb:base<=W.heap.size) (news:List Value) (hl:news.length=size) (h1:∀ u∈news,u.oneCell' = true) (hn:n<=1000) (hbb:bytes<=1000) :
  ∃ v' w',(Builtin.append_ #[t,t] ty #[v,.slice (some (aD W.heap.size 0)) 1 1]).run P (W.alloc (.cells news.toArray e))=.ok v' w'/\w'.ownsRow base e size v' (n+1) (xs++news)/\Kept (fun b=>v.ownBlock≠some b) W w'/\(∃ a m c,v' = .slice a m c)/\(v'.ownBlock=v.ownBlock∨v'.ownBlock=some (W.heap.size+1)):=by
 obtain⟨v',w',hr,ho,hg,_,hat⟩:=ZO (P:=P) (W.alloc (.cells news.toArray e)) base t ty e i z size bytes ht hi hz hsize hby hzs hsz v n xs (hown.alloc _) (aD W.heap.size 0) 1 1 news (by rw[hl,Nat.one_mul])
  (fun j u hj=>by
   rw[addr_add,QE];simp only[World.cell?,kG W _]
   simpa using hj) h1 (by unfold maxLen; omega) (by have:(n+1)*bytes<=1001*1000:=Nat.mul_le_mul (by omega) hbb; omega) (by rw[Zd]; omega)
 exact⟨v',w',hr,ho,(Zc _ _).trans (Zw hg (fun r e hr=>hr e)),ZA ho,by rw[Zd] at hat; exact hat⟩
theorem K9 (l:List Int):∀ m:Nat,l.foldl (fun m n=>m|||2 ^ n.toNat) m=m|||bT l:=by
 unfold bT
 induction l with
 | nil => intro m; simp
 | cons a l ih => intro m; rw[QO,QO,ih,ih (0|||_),Nat.zero_or,Nat.or_assoc]
theorem yf (a b:List Int):bT (a++b)=bT a|||bT b:=by
 show (a++b).foldl _ 0=_
 rw[QM,K9];rfl
def ZQ:=@Ps
def ZR:=@flat_get
def ZT:=@rP
def ZV:=@Uv
theorem Uw {n:Nat} (h:n<64):IntKind.u64.wrap ((2:Int) ^ n)=((2 ^ n:Nat):Int):=by
 have h1:((2:Int) ^ n)=((2 ^ n:Nat):Int):=by simp
 have h2:2 ^ n<2 ^ 64:=ZW (by omega) h;rw[h1];generalize 2 ^ n=m at *;simp only[IntKind.wrap,IntKind.bits,IntKind.signed];simp;omega
theorem ads {s n:Nat} (hs:s<18446744073709551616) (h:n<64):bits BinOp.or IntKind.u64 (s:Int) (IntKind.u64.wrap ((2:Int) ^ n))=((s|||2 ^ n:Nat):Int):=by
 rw[Uw h];exact u64_or_nat s (2 ^ n) hs (ZW (by omega) h)
theorem Pv {l:List Int} {k:Nat} (hk:k<l.length):bT (l.take (k+1))=bT (l.take k)|||2 ^ (l.getD k 0).toNat:=by
 have e:l.getD k 0=l[k]:=by simp[List.getD,hk]
 rw[Qk hk,Pe,e]
theorem D9 {l:List Int} (h:∀ x∈l,0<=x/\x<64) (k:Nat):bT (l.take k)<18446744073709551616:=uQ (n:=64) (fun x hx=>h x (ZX hx))
def Ux (l:List Nat):Nat:=l.foldl (· ||| ·) 0
theorem GG {l:List Nat} {k:Nat} (hk:k<l.length):Ux (l.take (k+1))=Ux (l.take k)|||l.getD k 0:=by
 have e:l.getD k 0=l[k]:=by simp[List.getD,hk]
 rw[Qk hk,e];unfold Ux;rw[QM];rfl
theorem adt {l:List Nat} (h:∀ x∈l,x<18446744073709551616):∀ k,Ux (l.take k)<18446744073709551616:=fun k=>by
 induction k with
 | zero => simp[Ux]
 | succ k ih =>
  by_cases hk:k<l.length
  ·rw[GG hk];have:l.getD k 0<18446744073709551616:=by
    have e:l.getD k 0=l[k]:=by simp[List.getD,hk]
    rw[e]; exact h _ (Qj hk)
   exact Nat.or_lt_two_pow (n:=64) ih this
  ·rw[ZY (by omega)];rw[ZY (by omega)] at ih;exact ih
theorem oF (a b:Nat) (ha:a<18446744073709551616) (hb:b<18446744073709551616) (w:World) :
  Calls Tryz.prog 116 #[.int .u64 (a:Int),.int .u64 (b:Int)] w fun e w'=>e=.returned (.bool (bP a b))/\w' = w:=by
 have h1:=u64_andNot_nat b a hb ha;go_enter Tryz.func116,Tryz.ntmps116;go_wp2;go_ret;refine⟨Qd ?_,rfl⟩;unfold bP;generalize b &&& 18446744073709551615-a=x;rw[Qw,beq_iff_eq,Qx];omega
theorem Pw (a b:Nat) (ha:a<18446744073709551616) (hb:b<18446744073709551616) (w:World) :
  Calls Tryz.prog 223 #[.int .u64 (a:Int),.int .u64 (b:Int)] w fun e w'=>e=.returned (.bool (decide (a &&& b≠0)))/\w' = w:=by
 have h1:=u64_and_nat a b ha hb;go_enter Tryz.func223,Tryz.ntmps223;go_wp2;go_ret;refine⟨Qd ?_,rfl⟩;generalize a &&& b=x;rw[Qw,bne_iff_ne,Qx];omega
theorem La (s n:Nat) (hs:s<18446744073709551616) (hn:n<64) (w:World) :
  Calls Tryz.prog 120 #[.int .u64 (s:Int),.int .i64 n] w fun e w'=>e=.returned (.bool (s.testBit n))/\w' = w:=by
 go_enter Tryz.func120,Tryz.ntmps120;go_wp2;go_ret;refine⟨Qd ?_,rfl⟩;have h1:((s:Int) / 2 ^ n)=((s / 2 ^ n:Nat):Int):=by simp
 have h2:s / 2 ^ n<18446744073709551616:=Nat.lt_of_le_of_lt (Nat.div_le_self _ _) hs;have h3:=u64_and_nat (s / 2 ^ n) 1 h2 (by omega);rw[h1];have h4:bits BinOp.and IntKind.u64 ((s / 2 ^ n:Nat):Int) 1=((s / 2 ^ n &&& 1:Nat):Int):=h3;rw[h4,Nat.testBit,Nat.shiftRight_eq_div_pow,Nat.and_comm,Qw,beq_iff_eq,bne_iff_ne,Nat.one_and_eq_mod_two];omega
theorem GH (n:Nat) (hn:n<64) (w:World) :
  Calls Tryz.prog 72 #[.int .i64 n] w fun e w'=>e=.returned (.int .u64 ((2 ^ n-1:Nat):Int))/\w' = w:=by
 go_enter Tryz.func72,Tryz.ntmps72;go_wp2;go_ret;refine⟨Qe ?_,rfl⟩;have h1:((2:Int) ^ n)=((2 ^ n:Nat):Int):=by simp
 have h2:2 ^ n<2 ^ 64:=ZW (by omega) hn;have h3:0<2 ^ n:=Nat.pow_pos (by omega);rw[h1];generalize 2 ^ n=m at *;simp only[IntKind.wrap,IntKind.bits,IntKind.signed];simp;omega
theorem CZ (ao:Option Addr) (cap:Nat) (xs:List Int) (w:World) (hx:au w ao xs) (hs:∀ x∈xs,0<=x/\x<64) :
  Calls Tryz.prog 71 #[.slice ao xs.length cap] w fun e w'=>e=.returned (.int .u64 ((bT xs:Nat):Int))/\w' = w:=by
 have hl:=hx.1;have HX:Hid _:=hx;have HS:=Zh hs;have HE:Hid (bT (xs.take xs.length)=bT xs):=by show _=_; rw[Qt]
 clear hx hs;go_enter Tryz.func71,Tryz.ntmps71;go_wp2;go_loopw [3,8] (fun sv iv wr=>∃ k:Nat,k<=xs.length/\iv=.int .i64 k/\(∃ s:Nat,sv=.int .u64 (s:Int)/\Hid (s=bT (xs.take k)))/\wr=w) (fun _ iv _=>xs.length-(intOf iv).toNat)
 case atStart=>exact⟨0,QQ _,rfl,⟨0,rfl,rfl⟩,rfl⟩
 case round=>
  obtain⟨k,hk,rfl,⟨s,rfl,hs⟩,rfl⟩:=hrel;by_cases hlt:k<xs.length
  ·obtain⟨b,off,rfl,hc⟩:=au.get HX.out hlt;have hck:=hc k hlt;have hm:=HS.out _ (ZM hlt (d:=0));have HT:=Zh (Pv hlt);have hsl:s<18446744073709551616:=by rw[hs.out]; exact D9 HS.out k
   clear hc;generalize xs.getD k 0=x at *;obtain⟨n,rfl⟩:=ZZ hm.1;have hn:n<64:=by omega
   go_wp2;go_roundw
   case rel=>exact⟨k+1,by omega,by go_num,⟨s|||2 ^ n,by rw[ads hsl hn],by show _=_; rw[HT.out,hs.out]; rfl⟩,trivial⟩
   case measure=>simp[intOf]; omega
  ·obtain rfl:k=xs.length:=by omega
   have HV:=Zh (hs.out.trans HE.out);clear hs;go_wp2;go_ret;exact⟨Qe (by rw[HV.out]),rfl⟩
theorem Px (ao:Option Addr) (cap:Nat) (xs:List Nat) (w:World) (hx:fD w ao xs) (hs:∀ x∈xs,x<18446744073709551616) :
  Calls Tryz.prog 124 #[.slice ao xs.length cap] w fun e w'=>e=.returned (.int .u64 ((Ux xs:Nat):Int))/\w' = w:=by
 have hl:=hx.1;have HX:Hid _:=hx;have HS:=Zh hs;have HE:Hid (Ux (xs.take xs.length)=Ux xs):=by show _=_; rw[Qt]
 clear hx hs;go_enter Tryz.func124,Tryz.ntmps124;go_wp2;go_loopw [3,8] (fun sv iv wr=>∃ k:Nat,k<=xs.length/\iv=.int .i64 k/\(∃ s:Nat,sv=.int .u64 (s:Int)/\Hid (s=Ux (xs.take k)))/\wr=w) (fun _ iv _=>xs.length-(intOf iv).toNat)
 case atStart=>exact⟨0,QQ _,rfl,⟨0,rfl,rfl⟩,rfl⟩
 case round=>
  obtain⟨k,hk,rfl,⟨s,rfl,hs⟩,rfl⟩:=hrel;by_cases hlt:k<xs.length
  ·obtain⟨b,off,rfl,hc⟩:=fD.get HX.out hlt;have hck:=hc k hlt;have hm:=HS.out _ (ZM hlt (d:=0));have HT:=Zh (GG hlt);have hsl:s<18446744073709551616:=by rw[hs.out]; exact adt HS.out k
   clear hc;generalize xs.getD k 0=x at *;have hor:=u64_or_nat s x hsl hm;go_wp2;go_roundw
   case rel=>exact⟨k+1,by omega,by go_num,⟨s|||x,rfl,by show _=_; rw[HT.out,hs.out]⟩,trivial⟩
   case measure=>simp[intOf]; omega
  ·obtain rfl:k=xs.length:=by omega
   have HV:=Zh (hs.out.trans HE.out);clear hs;go_wp2;go_ret;exact⟨Qe (by rw[HV.out]),rfl⟩
theorem jq (b:Nat) (x y:Nat) (w:World) (h0:w.cell? (aD b 0)=some (.int .u64 (x:Int))) (h1:w.cell? (aD b 1)=some (.int .u64 (y:Int))) (hx:x<18446744073709551616) (hy:y<18446744073709551616) :
  Calls Tryz.prog 124 #[.slice (some (aD b 0)) 2 2] w fun e w'=>e=.returned (.int .u64 ((x|||y:Nat):Int))/\w' = w:=by
 have h:=Px (some (aD b 0)) 2 [x,y] w ⟨by simp,fun i hi=>⟨b,0,rfl,by
  rw[QE];have hi':i<2:=hi
  match i,hi' with
  | 0,_ => exact h0
  | 1,_ => exact h1⟩⟩ (fun z hz => by
  rcases QP.1 hz with e | e
  ·omega
  ·rw[QY] at e; omega)
 have e:Ux [x,y]=x|||y:=by unfold Ux; simp
 rw[e] at h;exact h
theorem rQ (b:Nat) (n:Nat) (w:World) (h0:w.cell? (aD b 0)=some (.int .i64 (n:Int))) (hn:n<64) :
  Calls Tryz.prog 71 #[.slice (some (aD b 0)) 1 1] w fun e w'=>e=.returned (.int .u64 ((2 ^ n:Nat):Int))/\w' = w:=by
 have h:=CZ (some (aD b 0)) 1 [(n:Int)] w ⟨by simp,fun i hi=>⟨b,0,rfl,by
  have hi':i<1:=hi;obtain rfl:i=0:=by omega
  exact h0⟩⟩ (fun z hz=>by rw[QY] at hz; omega)
 rw[zw] at h;exact h
theorem GI (k:Int) (w:World):Calls Tryz.prog 248 #[.int .i64 k] w fun e w'=>e=.returned (.bool (r9 k))/\w' = w:=by
 have hO:r9 k=(decide (k=7) || decide (k=8) || decide (k=9) || decide (k=10)):=by
  unfold r9;rw[Qw];simp only[Qm,Bool.or_eq_true,Qx];omega
 by_cases h7:k=7
 ·subst h7;go_enter Tryz.func248,Tryz.ntmps248;go_wp2;go_ret;exact⟨rfl,rfl⟩
 by_cases h8:k=8
 ·subst h8;go_enter Tryz.func248,Tryz.ntmps248;go_wp2;go_ret;exact⟨rfl,rfl⟩
 by_cases h9:k=9
 ·subst h9;go_enter Tryz.func248,Tryz.ntmps248;go_wp2;go_ret;exact⟨rfl,rfl⟩
 by_cases h10:k=10
 ·subst h10;go_enter Tryz.func248,Tryz.ntmps248;go_wp2;go_ret;exact⟨rfl,rfl⟩
 have HO:Hid (r9 k=false):=by show _=_; rw[hO,Qh h7,Qh h8,Qh h9,Qh h10]; rfl
 clear hO;go_enter Tryz.func248,Tryz.ntmps248;go_wp2;go_ret;exact⟨Qd HO.out.symm,rfl⟩
theorem Py:∀ (f x:Nat),x<=f->x<2 ^ 64->jW x=Lib.bitLen x:=by
 intro f
 induction f with
 | zero =>
  intro x hx _;obtain rfl:x=0:=by omega
  rw[oq];rfl
 | succ f ih =>
  intro x hx h;by_cases h0:x=0
  ·subst h0;rw[oq];rfl
  ·rw[CP (by omega),Lib.bitLen_half x h0 h,ih (x / 2) (by omega) (by omega),Nat.add_comm]
theorem Lb (x:Nat) (h:x<2 ^ 64):jW x<=64:=by
 have key:∀ (f x:Nat),x<2 ^ f->jW x<=f:=by
  intro f
  induction f with
  | zero =>
   intro x hx;obtain rfl:x=0:=by omega
   rw[oq]; omega
  | succ f ih =>
   intro x hx;by_cases h0:x=0
   ·subst h0; rw[oq]; omega
   ·rw[CP (by omega)];have:=ih (x / 2) (by rw[Nat.pow_succ] at hx; omega);omega
 exact key 64 x h
theorem uT (l:List Nat):iE l<=bR:=by rw[zg]; exact Nat.min_le_right _ _
theorem Uy {l:List Nat} {k:Nat} (hk:k<l.length):(l.take (k+1)).sum=(l.take k).sum+l.getD k 0/\(l.take (k+1)).sum<=l.sum:=by
 have e:l.getD k 0=l[k]:=by simp[List.getD,hk]
 refine⟨by rw[Qk hk,e,List.sum_append]; simp,?_⟩;have h:l.sum=(l.take (k+1)).sum+(l.drop (k+1)).sum:=by rw[<- List.sum_append,List.take_append_drop]
 omega
theorem Pz {l:List Nat} {k:Nat} (hk:k<l.length) (h:bR-iE (l.take k)<l.getD k 0):iE l=bR:=by
 obtain⟨h1,h2⟩:=Uy hk;rw[zg] at h ⊢;omega
theorem Lc {l:List Nat} {k:Nat} (hk:k<l.length) (h:¬ bR-iE (l.take k)<l.getD k 0):iE (l.take (k+1))=iE (l.take k)+l.getD k 0:=by
 have e:l.getD k 0=l[k]:=by simp[List.getD,hk]
 have h1:iE (l.take (k+1))=uR (iE (l.take k)) (l.getD k 0):=by
  rw[Qk hk,e];unfold iE;rw[QM];rfl
 have:=uT (l.take k);rw[h1];unfold uR;omega
theorem PE {a b:Nat} (h:0<a*b / 18446744073709551616):eU a b=18446744073709551615:=by
 unfold eU bR;omega
theorem PG {a b:Nat} (h:¬ 0<a*b / 18446744073709551616):eU a b=a*b % 18446744073709551616:=by
 unfold eU bR;omega
theorem Ld (w:World) (xs:List Nat) (t:TypeId) (hl:xs.length<=1000):fD (w.alloc (.cells (xs.map fun (x:Nat)=>Value.int .u64 (x:Int)).toArray t)) (some (aD w.heap.size 0)) xs:=by
 refine⟨hl,fun i hi=>⟨w.heap.size,0,rfl,?_⟩⟩;simp only[World.cell?,kG w _];simp[List.getD,hi]
def Tryz.GJ:Go.Shelf.Ren:=⟨fun | 129=>239 | 264=>266 | n=>n,fun | 3=>3 | 4=>4 | 5=>5 | 9=>9 | 46=>89 | 53=>42 | n=>n,fun | n=>n⟩
theorem Tryz.aht:Go.Proofs.Lays.n129 Tryz.prog Tryz.GJ:={
 mixed:=by kernel_rfl
 f129:=Tryz.func239.trans (congrArg some (by kernel_rfl))
 t3:=Tryz.underlying3
 a3:=Tryz.isAgg3
 z3:=Tryz.sizeOf3
 v3:=Tryz.zeroValue3
 t4:=Tryz.underlying4
 a4:=Tryz.isAgg4
 z4:=Tryz.sizeOf4
 v4:=Tryz.zeroValue4
 t5:=Tryz.underlying5
 a5:=Tryz.isAgg5
 z5:=Tryz.sizeOf5
 v5:=Tryz.zeroValue5
 t9:=Tryz.underlying9
 a9:=Tryz.isAgg9
 z9:=Tryz.sizeOf9
 v9:=Tryz.zeroValue9
 t46:=Tryz.underlying89
 a46:=Tryz.isAgg89
 z46:=Tryz.sizeOf89
 v46:=Tryz.zeroValue89
 t53:=Tryz.underlying42
 a53:=Tryz.isAgg42
 z53:=Tryz.sizeOf42
 v53:=Tryz.zeroValue42 }
theorem Tryz.ahu:Go.Proofs.Lays.n264 Tryz.prog Tryz.GJ:={
 mixed:=by kernel_rfl
 f264:=Tryz.func266.trans (congrArg some (by kernel_rfl))
 t46:=Tryz.underlying89
 a46:=Tryz.isAgg89
 z46:=Tryz.sizeOf89
 v46:=Tryz.zeroValue89
 t53:=Tryz.underlying42
 a53:=Tryz.isAgg42
 z53:=Tryz.sizeOf42
 v53:=Tryz.zeroValue42 }
theorem PH (x:Nat) (w:World) (hx:x<=bR):Calls Tryz.prog 239 #[.int .u64 (x:Int)] w fun e w'=>e=.returned (.int .i64 (jW x:Nat))/\w' = w:=by
 have h:=Go.Proofs.Any.bits_Len64 Tryz.aht (x:Int) w (by omega) (by unfold bR at hx; omega);have e:Lib.bitLen (x:Int).toNat=jW x:=by rw[Q3]; exact (Py x x (Qq _) (by unfold bR at hx; omega)).symm
 rw[e] at h;exact h
theorem PI (x y:Nat) (w:World) (hx:x<=bR) (hy:y<=bR):Calls Tryz.prog 266 #[.int .u64 (x:Int),.int .u64 (y:Int)] w fun e w'=>e=.returned (.tuple #[.int .u64 ((x*y / 18446744073709551616:Nat):Int),.int .u64 ((x*y % 18446744073709551616:Nat):Int)])/\w' = w:=
 Go.Proofs.Any.bits_Mul64 Tryz.ahu x y (by unfold bR at hx; omega) (by unfold bR at hy; omega) w
theorem tJ (a b:Nat) (w:World) (ha:a<=bR) (hb:b<=bR):Calls Tryz.prog 249 #[.int .u64 (a:Int),.int .u64 (b:Int)] w fun e w'=>e=.returned (.int .u64 (eU a b:Nat))/\w' = w:=by
 have hm:=PI a b w ha hb;have HH:Hid _:=@PE a b;have HL:Hid _:=@PG a b;generalize a*b / 18446744073709551616=hi at *;generalize a*b % 18446744073709551616=lo at *;generalize eU a b=t at *;clear ha hb;go_enter Tryz.func249,Tryz.ntmps249;go_wp2_with fail;refine hm.mono ?_;clear hm;rintro e w2 ⟨rfl,rfl⟩;by_cases h:0<hi
 ·go_wp2;go_ret;exact⟨Qe (by rw[HH.out h]; rfl),rfl⟩
 ·go_wp2;go_ret;exact⟨Qe (by rw[HL.out h]),rfl⟩
theorem Y9 (ao:Option Addr) (cap:Nat) (xs:List Nat) (w:World) (hx:fD w ao xs) (hs:∀ x∈xs,x<=bR) :
  Calls Tryz.prog 250 #[.slice ao xs.length cap] w fun e w'=>e=.returned (.int .u64 (iE xs:Nat))/\w' = w:=by
 have hl:=hx.1;have HX:Hid _:=hx;have HS:Hid _:=hs;have HE:Hid (iE (xs.take xs.length)=iE xs):=by show _=_; rw[Qt]
 clear hx hs;go_enter Tryz.func250,Tryz.ntmps250;go_wp2;go_loopw [3,8] (fun sv iv wr=>∃ k:Nat,k<=xs.length/\iv=.int .i64 k/\(∃ s:Nat,sv=.int .u64 (s:Int)/\Hid (s=iE (xs.take k)))/\wr=w) (fun _ iv _=>xs.length-(intOf iv).toNat)
 case atStart=>exact⟨0,QQ _,rfl,⟨0,rfl,rfl⟩,rfl⟩
 case round=>
  obtain⟨k,hk,rfl,⟨s,rfl,hs⟩,rfl⟩:=hrel;by_cases hlt:k<xs.length
  ·obtain⟨b,off,rfl,hc⟩:=fD.get HX.out hlt;have hck:=hc k hlt;have hm:=HS.out _ (ZM hlt (d:=0));have HO:Hid _:=@Pz xs k hlt;have HT:Hid _:=@Lc xs k hlt;have hsl:s<=18446744073709551615:=by rw[hs.out]; exact uT _
   rw[<- hs.out] at HO HT;have hm':xs.getD k 0<=18446744073709551615:=hm;clear hc hm;generalize xs.getD k 0=x at *;by_cases hov:18446744073709551615-s<x
   ·have HV:Hid (iE xs=18446744073709551615):=HO.out hov;clear HO HT hs;go_wp2;go_ret;exact⟨Qe (by rw[HV.out]; rfl),rfl⟩
   ·have HV:Hid _:=HT.out hov;clear HO HT hs;go_wp2;go_roundw
    case rel=>exact⟨k+1,by omega,by go_num,⟨s+x,by go_num,HV.out.symm⟩,trivial⟩
    case measure=>simp[intOf]; omega
  ·obtain rfl:k=xs.length:=by omega
   have HV:Hid (s=iE xs):=hs.out.trans HE.out;clear hs;go_wp2;go_ret;exact⟨Qe (by rw[HV.out]),rfl⟩
theorem zJ (w:World) (xs:List Nat) (hl:xs.length<=1000) (hs:∀ x∈xs,x<=bR) :
  Calls Tryz.prog 250 #[.slice (some (aD w.heap.size 0)) xs.length xs.length] (w.alloc (.cells (xs.map fun (x:Nat)=>Value.int .u64 (x:Int)).toArray 42)) fun e w'=>e=.returned (.int .u64 (iE xs:Nat))/\w' = w.alloc (.cells (xs.map fun (x:Nat)=>Value.int .u64 (x:Int)).toArray 42):=
 Y9 _ _ xs _ (Ld w xs _ hl) hs
theorem adu (w:World) (a b:Nat) (ha:a<=bR) (hb:b<=bR) :
  Calls Tryz.prog 250 #[.slice (some (aD w.heap.size 0)) 2 2] (w.alloc (.cells #[.int .u64 (a:Int),.int .u64 (b:Int)] 42)) fun e w'=>e=.returned (.int .u64 (iE [a,b]:Nat))/\Below w.heap.size w w':=
 (zJ w [a,b] (by simp) (fun x hx=>by simp at hx; rcases hx with rfl | rfl <;> assumption)).mono fun _ _ ⟨h1,h2⟩=>⟨h1,by rw[h2]; exact bU _ _⟩
theorem adv (w:World) (a b c:Nat) (ha:a<=bR) (hb:b<=bR) (hc:c<=bR) :
  Calls Tryz.prog 250 #[.slice (some (aD w.heap.size 0)) 3 3] (w.alloc (.cells #[.int .u64 (a:Int),.int .u64 (b:Int),.int .u64 (c:Int)] 42)) fun e w'=>e=.returned (.int .u64 (iE [a,b,c]:Nat))/\Below w.heap.size w w':=
 (zJ w [a,b,c] (by simp) (fun x hx=>by simp at hx; rcases hx with rfl | rfl | rfl <;> assumption)).mono fun _ _ ⟨h1,h2⟩=>⟨h1,by rw[h2]; exact bU _ _⟩
theorem amG (w:World) (a b c d:Nat) (ha:a<=bR) (hb:b<=bR) (hc:c<=bR) (hd:d<=bR) :
  Calls Tryz.prog 250 #[.slice (some (aD w.heap.size 0)) 4 4] (w.alloc (.cells #[.int .u64 (a:Int),.int .u64 (b:Int),.int .u64 (c:Int),.int .u64 (d:Int)] 42)) fun e w'=>e=.returned (.int .u64 (iE [a,b,c,d]:Nat))/\Below w.heap.size w w':=
 (zJ w [a,b,c,d] (by simp) (fun x hx=>by simp at hx; rcases hx with rfl | rfl | rfl | rfl <;> assumption)).mono fun _ _ ⟨h1,h2⟩=>⟨h1,by rw[h2]; exact bU _ _⟩
theorem Ea (k:Int) (l r s:Nat) (w:World) (hl:l<=bR) (hr:r<=bR) (hs:s<=bR) :
  Calls Tryz.prog 251 #[.int .i64 k,.int .u64 (l:Int),.int .u64 (r:Int),.int .u64 (s:Int)] w fun e w'=>e=.returned (.int .u64 (sI k l r s:Nat))/\Below w.heap.size w w':=by
 by_cases h4:k=4
 ·subst h4;have h:=amG w l r r s hl hr hr hs;have hw:sI 4 l r s=iE [l,r,r,s]:=rfl;rw[hw];generalize iE [l,r,r,s]=x at *;clear hl hr hs hw;go_enter Tryz.func251,Tryz.ntmps251;go_wp2_with fail;refine h.mono ?_;clear h;rintro e w2 ⟨rfl,hb⟩;go_wp2;go_ret;exact⟨rfl,hb⟩
 by_cases h5:k=5
 ·subst h5;have h:=adv w l r s hl hr hs;have hw:sI 5 l r s=iE [l,r,s]:=rfl;rw[hw];generalize iE [l,r,s]=x at *;clear hl hr hs hw;go_enter Tryz.func251,Tryz.ntmps251;go_wp2_with fail;refine h.mono ?_;clear h;rintro e w2 ⟨rfl,hb⟩;go_wp2;go_ret;exact⟨rfl,hb⟩
 have h:=tJ l r w hl hr;have hw:sI k l r s=eU l r:=by unfold sI; rw[Qs h4,Qs h5]
 rw[hw];generalize eU l r=x at *;clear hl hr hs hw;go_enter Tryz.func251,Tryz.ntmps251;go_wp2_with fail;refine h.mono ?_;clear h;rintro e w2 ⟨rfl,rfl⟩;go_wp2;go_ret;exact⟨rfl,Qp _ _⟩
theorem Eb (l:Nat) (w:World) (hl:l<=bR) :
  Calls Tryz.prog 252 #[.int .u64 (l:Int)] w fun e w'=>e=.returned (.int .u64 (eU l (jW l+1):Nat))/\w' = w:=by
 have h1:=PH l w hl;have hb:jW l<=64:=Lb l (by unfold bR at hl; omega);have h2:=tJ l (jW l+1) w hl (by unfold bR; omega);generalize jW l=n at *;generalize eU l (n+1)=x at *;clear hl;go_enter Tryz.func252,Tryz.ntmps252;go_wp2_with fail;refine h1.mono ?_;clear h1;rintro e w2 ⟨rfl,rfl⟩;go_wp2_with fail;refine h2.mono ?_;clear h2;rintro e w3 ⟨rfl,rfl⟩;go_wp2;go_ret;exact⟨rfl,rfl⟩
theorem au.take {w:World} {ao:Option Addr} {xs:List Int} (h:au w ao xs) (k:Nat):au w ao (xs.take k):=by
 refine⟨by have:=h.1; rw[Q6]; omega,fun i hi=>?_⟩;rw[Q6] at hi;obtain⟨b,off,e,hc⟩:=h.2 i (by omega);refine⟨b,off,e,?_⟩;rw[hc];simp[List.getD,show i<k by omega,show i<xs.length by omega]
theorem GK {l:List Int} {k:Nat} (hk:k<l.length) (h:l.getD k 0≠k):mM l=false:=by
 unfold mM;rw[List.all_eq_false];exact⟨k,Z4.2 hk,by rw[Qh h]; simp⟩
theorem GL {l:List Int} (h:∀ i,i<l.length->l.getD i 0=i):mM l=true:=by
 unfold mM;rw[Qn];exact fun i hi=>Qu (h i (Z4.1 hi))
theorem PK (ao:Option Addr) (cap:Nat) (xs:List Int) (v:Int) (w:World) (hx:au w ao xs) :
  Calls Tryz.prog 204 #[.slice ao xs.length cap,.int .i64 v] w fun e w'=>∃ r:Int,e=.returned (.int .i64 r)/\Hid (0<=r↔v∈xs)/\w' = w:=by
 have hl:=hx.1;go_enter Tryz.func204,Tryz.ntmps204;go_wp2;go_loop [8] (fun i=>∃ k:Nat,k<=xs.length/\i=.int .i64 k/\v ∉ xs.take k) (fun i=>xs.length-(intOf i).toNat)
 case atStart=>exact⟨0,QQ _,rfl,by simp⟩
 case round=>
  obtain⟨k,hk,rfl,hn⟩:=hrel;by_cases hlt:k<xs.length
  ·obtain⟨b,off,rfl,hc⟩:=hx.get hlt;have h1:=hc k hlt;have HM:=Zh (BI (v:=v) hlt);have HN:Hid _:=hn;have HG:Hid (xs.getD k 0∈xs):=by
    show _∈_
    exact ZM hlt
   clear hc hx hn;obtain⟨x,hxe⟩:∃ x,x=xs.getD k 0:=⟨_,rfl⟩
   rw[<- hxe] at h1 HM HG;clear hxe;by_cases hv:v=x
   ·have hbv:(v==x)=true:=by simp[hv]
    go_wp2;go_ret;exact⟨k,rfl,⟨fun _=>HG.out,fun _=>by omega⟩,rfl⟩
   ·have hbv:(v==x)=false:=by simp[hv]
    go_wp2;go_round
    case rel=>exact⟨k+1,by omega,by go_num,fun e=>by
     rcases HM.out.1 e with e | e
     ·exact HN.out e
     ·exact hv e.symm⟩
    case measure=>simp[intOf]; omega
  ·have e:k=xs.length:=by omega
   rw[e,Qt] at hn;have HN:Hid _:=hn;clear hn;go_wp2;go_ret;exact⟨-1,rfl,⟨fun h=>absurd h (by omega),fun h=>absurd h HN.out⟩,rfl⟩
theorem Ef (ao:Option Addr) (cap:Nat) (xs:List Int) (v:Int) (w:World) (hx:au w ao xs) :
  Calls Tryz.prog 151 #[.slice ao xs.length cap,.int .i64 v] w fun e w'=>e=.returned (.bool (decide (v∈xs)))/\w' = w:=by
 have h:=PK ao cap xs v w hx;clear hx;go_enter Tryz.func151,Tryz.ntmps151;go_wp2_with fail;refine h.mono ?_;clear h;rintro e w2 ⟨r,rfl,HB,rfl⟩;go_wp2;go_ret;exact⟨Qd (by rw[Qw,Qx,Qx]; exact HB.out),rfl⟩
theorem C8 (ao bo:Option Addr) (cap cap':Nat) (xs ys:List Int) (w:World) (hx:au w ao xs) (hy:au w bo ys) :
  Calls Tryz.prog 171 #[.slice ao xs.length cap,.slice bo ys.length cap'] w fun e w'=>e=.returned (.bool (decide (xs=ys)))/\Below w.heap.size w w':=by
 have hl':=hy.1;by_cases hle:xs.length=ys.length
 ·have HLE:=Zh hle;have hne:((xs.length:Int) != (ys.length:Int))=false:=by rw[hle]; simp
  have hk':xs.length<=ys.length:=by omega
  clear hle;go_enter Tryz.func171,Tryz.ntmps171;go_wp2;go_loopw [13] (fun i wr=>∃ k:Nat,k<=xs.length/\i=.int .i64 k/\Hid (xs.take k=ys.take k)/\∃ n,wr=w.drewN n) (fun i _=>xs.length-(intOf i).toNat)
  case atStart=>exact⟨0,QQ _,rfl,rfl,0,rfl⟩
  case round=>
   obtain⟨k,hk,rfl,HE,n,rfl⟩:=hrel;by_cases hlt:k<xs.length
   ·have adw:k<ys.length:=by omega
    obtain⟨b,off,rfl,hc⟩:=hx.get hlt;obtain⟨b',off',rfl,hc'⟩:=hy.get adw;have h1:=hc k hlt;have h2:=hc' k adw;clear hc hc' hx hy;obtain⟨x,hxe⟩:∃ x,x=xs.getD k 0:=⟨_,rfl⟩
    obtain⟨y,hye⟩:∃ y,y=ys.getD k 0:=⟨_,rfl⟩
    rw[<- hxe] at h1;rw[<- hye] at h2;have HX:=Zh hxe;have HY:=Zh hye;clear hxe hye;by_cases hv:x=y
    ·have hbv:(x != y)=false:=by simp[hv]
     go_wp2;go_quiet (fail);go_wp2;go_roundw
     case rel=>exact⟨k+1,by omega,by go_num,Ed hlt adw HE.out (by rw[<- HX.out,<- HY.out]; exact hv),_,rfl⟩
     case measure=>simp[intOf]; omega
    ·have hbv:(x != y)=true:=by simp[hv]
     go_wp2;go_quiet (fail);go_wp2;go_ret;exact⟨Qd (Qh (fun e=>hv (by rw[HX.out,HY.out,e]))).symm,below_drewN (below_drewN (Qp _ _) _) _⟩
   ·have HK:Hid (k=xs.length):=by show _=_; omega
    go_wp2;go_ret;exact⟨Qd (by refine (Qu ?_).symm; have:=HE.out; rw[HK.out,Qt,HLE.out,Qt] at this; exact this),below_drewN (Qp _ _) _⟩
 ·have hne:((xs.length:Int) != (ys.length:Int))=true:=by rw[bne_iff_ne]; omega
  have HLE:Hid _:=hle;clear hle;go_enter Tryz.func171,Tryz.ntmps171;go_wp2;go_ret;exact⟨Qd (Qh (fun e=>HLE.out (by rw[e]))).symm,Qp _ _⟩
theorem lV (ao bo:Option Addr) (cap cap':Nat) (xs ys:List Int) (w:World) (hx:au w ao xs) (hy:au w bo ys) (hcap:xs.length<=cap) :
  Calls Tryz.prog 229 #[.slice ao xs.length cap,.slice bo ys.length cap'] w fun e w'=>e=.returned (.bool (bO xs ys))/\Below w.heap.size w w':=by
 have hl':=hy.1;by_cases hle:ys.length<=xs.length
 ·have HS:Hid (bO xs ys=decide (xs.take ys.length=ys)):=by
   show _=_
   unfold bO;rw[Qu hle,Qv]
  have hE:=C8 ao bo cap cap' (xs.take ys.length) ys w (hx.take _) hy;rw[Q6,Qy hle] at hE;generalize bO xs ys=S at *;generalize decide (xs.take ys.length=ys)=B at *;clear hx hy;go_enter Tryz.func229,Tryz.ntmps229;go_wp2_with fail;refine hE.mono ?_;clear hE;rintro e w2 ⟨rfl,hb⟩;go_wp2;go_ret;exact⟨Qd HS.out.symm,hb⟩
 ·have HS:Hid (bO xs ys=false):=by
   show _=_
   unfold bO;rw[Qh hle,Qi]
  generalize bO xs ys=S at *;clear hx hy;go_enter Tryz.func229,Tryz.ntmps229;go_wp2;go_ret;exact⟨Qd HS.out.symm,Qp _ _⟩
theorem Eg (ao:Option Addr) (cap:Nat) (xs:List Int) (w:World) (hx:au w ao xs) :
  Calls Tryz.prog 269 #[.slice ao xs.length cap] w fun e w'=>e=.returned (.bool (mM xs))/\w' = w:=by
 have hl:=hx.1;have HB:Hid _:=@GK xs;have HA:Hid _:=@GL xs;generalize mM xs=C at *;go_enter Tryz.func269,Tryz.ntmps269;go_wp2;go_loop [7] (fun i=>∃ k:Nat,k<=xs.length/\i=.int .i64 k/\Hid (∀ j,j<k->xs.getD j 0=j)) (fun i=>xs.length-(intOf i).toNat)
 case atStart=>exact⟨0,QQ _,rfl,fun j hj=>absurd hj (by omega)⟩
 case round=>
  obtain⟨k,hk,rfl,hn⟩:=hrel;by_cases hlt:k<xs.length
  ·obtain⟨b,off,rfl,hc⟩:=hx.get hlt;have h1:=hc k hlt;clear hc hx;have HBk:=Zh (HB.out hlt);obtain⟨x,hxe⟩:∃ x,x=xs.getD k 0:=⟨_,rfl⟩
   rw[<- hxe] at h1 HBk;have HX:=Zh hxe;clear hxe;by_cases hv:x=(k:Int)
   ·have hbv:(x != (k:Int))=false:=by simp[hv]
    have HV:=Zh hv;clear hv;go_wp2;go_round
    case rel=>exact⟨k+1,by omega,by go_num,fun j hj=>by
     rcases Nat.lt_or_ge j k with h | h
     ·exact hn.out j h
     ·obtain rfl:j=k:=by omega
      rw[<- HX.out]; exact HV.out⟩
    case measure=>simp[intOf]; omega
   ·have hbv:(x != (k:Int))=true:=by simp[hv]
    have HV:=Zh (HBk.out hv);go_wp2;go_ret;exact⟨Qd HV.out.symm,rfl⟩
  ·have HV:=Zh (HA.out (fun i hi=>hn.out i (by omega)));go_wp2;go_ret;exact⟨Qd HV.out.symm,rfl⟩
theorem PM (q:ae) {k:Nat} (hk:k<q.ord.xs.length):(q.ord.xs.take (k+1)).map (fun p=>q.aQ.xs.getD p.toNat 0)=(q.ord.xs.take k).map (fun p=>q.aQ.xs.getD p.toNat 0)++[q.aQ.xs.getD (q.ord.xs.getD k 0).toNat 0]:=by
 have e:q.ord.xs.getD k 0=q.ord.xs[k]:=by simp[List.getD,hk]
 rw[Qk hk,Ql,e];rfl
theorem uW {w:World} {base base':Nat} {e:TypeId} {size:Nat} {v:Value} {n:Nat} {xs:List Value} (h:w.ownsRow base e size v n xs) (hb:base'<=base):w.ownsRow base' e size v n xs:=uS h hb (fun _ _ _=>rfl)
theorem uX {xs:List Int} {n:Int} (h:bG xs n=true) {k:Nat} (hk:k<xs.length):0<=xs.getD k 0/\xs.getD k 0<n:=by
 unfold bG at h;rw[Qn] at h;have:=h _ (ZM hk (d:=0))
 simpa using this
theorem lW (q:ae) (w:World) (hq:q.At w) (hos:bG q.ord.xs q.aQ.xs.length=true) (hol:q.ord.xs.length<=1000) :
  Calls Tryz.prog 168 #[.agg q.cells] w fun e w'=>∃ v,e=.returned v/\w'.ownsRow w.heap.size 3 1 v (iH q).length ((iH q).map (Value.int .i64))/\Below w.heap.size w w':=by
 obtain⟨w1,hw1⟩:∃ x,x=w.alloc (.cells q.cells 26):=⟨_,rfl⟩
 have hk1:Below w.heap.size w w1:=by rw[hw1]; exact bU _ _
 have yN:GB w1 w.heap.size 26 q.cells:=by rw[hw1]; exact kG _ _
 have q5:=yN.at 5;have q6:=yN.at 6;have hWC:=hw1.symm;have TU:Hid (au w q.aQ.ad q.aQ.xs):=hq.aQ;have HOR:Hid (au w q.ord.ad q.ord.xs):=hq.ord;have HOS:=Zh hos;have HWT:Hid (∀ k,k<q.ord.xs.length->_):=fun k hk=>@PM q k hk
 have HWN:Hid (iH q=(q.ord.xs.take q.ord.xs.length).map (fun p=>q.aQ.xs.getD p.toNat 0)):=by show _=_; rw[Qt]; rfl
 have hsl:=hq.aQ.1;have HL:Hid (∀ k,((q.ord.xs.take k).map (fun p=>q.aQ.xs.getD p.toNat 0)).length<=1000):=fun k=>by rw[QU,Q6]; omega
 clear hw1 yN hq hos;obtain⟨src,bY,aI,wh,group,keys,sums,⟨ea,ec,aQ⟩,⟨oa,oc,ord⟩⟩:=q;unfold ae.cells ah.val at *;simp only at *;generalize iH ⟨src,bY,aI,wh,group,keys,sums,⟨ea,ec,aQ⟩,⟨oa,oc,ord⟩⟩=WN at *;obtain⟨W,hW⟩:∃ W:Nat->List Int,W=fun k=>(ord.take k).map (fun p=>aQ.getD p.toNat 0):=⟨_,rfl⟩
 have amJ:Hid (∀ k,k<ord.length->W (k+1)=W k++[aQ.getD (ord.getD k 0).toNat 0]):=fun k hk=>by rw[hW]; exact HWT.out k hk
 have amK:Hid (WN=W ord.length):=by show _=_; rw[hW]; exact HWN.out
 have HL':Hid (∀ k,(W k).length<=1000):=fun k=>by rw[hW]; exact HL.out k
 have HW0:Hid (W 0=[]):=by show _=_; rw[hW]; rfl
 clear hW HWT HWN HL;go_enter Tryz.func168,Tryz.ntmps168;go_wp2;clear hWC;go_loopw [3,9] (fun v iv wr=>∃ k:Nat,k<=ord.length/\iv=.int .i64 k/\Hid (wr.ownsRow w1.heap.size 3 1 v (W k).length ((W k).map (Value.int .i64)))/\Below w1.heap.size w1 wr) (fun _ iv _=>ord.length-(intOf iv).toNat)
 case atStart=>exact⟨0,QQ _,rfl,by rw[HW0.out]; exact ZE _ _ _ _,Qp _ _⟩
 case round=>
  obtain⟨k,hk,rfl,HO,hbr⟩:=hrel;have q5':=cB hbr q5;by_cases hlt:k<ord.length
  ·have k1:=aG hk1 hbr;obtain⟨ob,oo,rfl,hoc⟩:=au.get HOR.out hlt;have hok:=cB k1 (hoc k hlt);have hpl:=uX HOS.out hlt;have HT:=Zh (amJ.out k hlt);have hlen:=HL'.out k;clear hoc;generalize ord.getD k 0=p at *;obtain⟨n,rfl⟩:=ZZ hpl.1;have hn:n<aQ.length:=by omega
   obtain⟨eb,eo,rfl,hec⟩:=au.get TU.out hn;have hek:=cB k1 (hec n hn);clear hec;rw[Q3] at HT;generalize aQ.getD n 0=x at *;generalize hLk:W k=L at *;clear hLk;obtain⟨ra,rm,rc,rfl⟩:=ZA HO.out;obtain⟨v',w5,pO,lD,hk5,⟨ua,um,uc,rfl⟩,-⟩:=Uu wr w1.heap.size (.slice ra rm rc) L HO.out (by omega) hbr.size x 22;have hb5:=hbr.trans (hk5.below hbr.size (fun b hb e=>by have:=(Zy HO.out e).1; omega));rw[<- HT.out] at lD;have qw:Hid _:=lD;have jZ:=Zh hb5;clear lD hb5 hk5 HO HT;go_wp2_with (first | (at_builtin; refine ZN rfl (.tmp 13) (.tmp 19) 22 rfl (.slice ra rm rc) (.slice (some (aD wr.heap.size 0)) 1 1) (.slice ua um uc) w5 rfl rfl pO ?_));clear pO;go_wp2;go_roundw
   case rel=>exact⟨k+1,by omega,by go_num,qw.out,jZ.out⟩
   case measure=>simp[intOf]; omega
  ·obtain rfl:k=ord.length:=by omega
   rw[<- amK.out] at HO;have HF:=Zh (uW HO.out hk1.size);have HB:=Zh (aG hk1 hbr);clear HO hbr;go_wp2;go_ret;exact⟨_,rfl,HF.out,HB.out⟩
structure amL (q:ae) (kind:Int):Prop where
 places:kind=9->bG q.ord.xs q.aQ.xs.length=true
 few:q.ord.xs.length<=1000
theorem Eh (q:ae) (kind:Int) (oa:Option Addr) (oc:Nat) (order:List Int) (w:World) (hq:q.At w) (hk:amL q kind) (ho:au w oa order) (hcap:order.length<=oc) :
  Calls Tryz.prog 256 #[.agg q.cells,.int .i64 kind,.slice oa order.length oc] w fun e w'=>e=.returned (.bool (qp q kind order))/\Below w.heap.size w w':=by
 obtain⟨w1,hw1⟩:∃ x,x=w.alloc (.cells q.cells 26):=⟨_,rfl⟩
 have hk1:Below w.heap.size w w1:=by rw[hw1]; exact bU _ _
 have yN:GB w1 w.heap.size 26 q.cells:=by rw[hw1]; exact kG _ _
 obtain⟨q0,q1,q2,q3,q4,q5,q6⟩:=yN.k7;have hWC:=hw1.symm;have hol:=hq.ord.1;have hkl:=hq.keys.1;have mO:Hid (kind=9->_):=fun e=>lW q w1 (hq.below hk1) (hk.places e) hk.few
 have nQ:Hid (∀ ba bc ys x,Below w1.heap.size w1 x->au x ba ys->_):=fun ba bc ys x hb hy=>lV oa ba oc bc order ys x (Qo (aG hk1 hb) ho) hy hcap
 have HCU:Hid _:=Eg q.ord.ad q.ord.cap q.ord.xs w1 (Qo hk1 hq.ord);obtain⟨EP,hEP⟩:∃ EP,EP=qp q kind order:=⟨_,rfl⟩
 rw[<- hEP];have GM:Hid ((iH q).length<=1000):=by show _<=_; unfold iH; rw[QU]; exact hk.few
 unfold qp at hEP;have yO:=Zh hEP;clear hEP;generalize iH q=WN at *;generalize mM q.ord.xs=CB at *;have lK:=Zh hk1;clear hw1 yN hq hk ho hk1;obtain⟨⟨sa,sc,src⟩,bY,aI,wh,group,⟨ka,kc,keys⟩,⟨ua,uc,sums⟩,⟨ea,ec,aQ⟩,⟨da,dc,ord⟩⟩:=q;unfold ae.cells ah.val at *;simp only at *;by_cases c0:ord.length=0
 ·have HV:Hid (EP=true):=by show _=_; rw[yO.out,Qr c0]
  have tK:((ord.length:Int)==0)=true:=by rw[c0]; rfl
  clear yO HCU mO nQ c0;go_enter Tryz.func256,Tryz.ntmps256;go_wp2;go_ret;exact⟨Qd HV.out.symm,lK.out⟩
 rw[Qs c0] at yO;have tK:((ord.length:Int)==0)=false:=by rw[Z6]; omega
 clear c0;by_cases k10:kind=10
 ·have HV:Hid (EP=true):=by show _=_; rw[yO.out,Qr k10]
  subst k10;clear yO HCU mO nQ;go_enter Tryz.func256,Tryz.ntmps256;go_wp2;go_ret;exact⟨Qd HV.out.symm,lK.out⟩
 rw[Qs k10] at yO;by_cases k9:kind=9
 ·have HV:Hid (EP=bO order WN):=by show _=_; rw[yO.out,Qr k9]
  have Od:=mO.out k9;subst k9;clear yO HCU mO;go_enter Tryz.func256,Tryz.ntmps256;go_wp2_with fail;refine Od.mono ?_;clear Od;rintro e w2 ⟨v,rfl,hown,hb2⟩;obtain⟨ya,yc,rfl,hya⟩:=Uz hown (by have:=GM.out; omega);have hBE:=nQ.out ya yc WN w2 hb2 hya;rw[<- HV.out] at hBE;have HB2:=Zh (aG lK.out hb2);clear nQ hown hya hb2;go_wp2_with fail;refine hBE.mono ?_;clear hBE;rintro e w3 ⟨rfl,hb3⟩;have HB3:=Zh (aG HB2.out hb3);clear hb3;go_wp2;go_ret;exact⟨rfl,HB3.out⟩
 rw[Qs k9] at yO;by_cases k8:kind=8
 ·rw[Qr k8] at yO;subst k8;by_cases hle:ord.length<=keys.length
  ·have HV:Hid (EP=CB):=by show _=_; rw[yO.out,Qu hle,Qv]
   have hCU:=HCU.out;clear yO HCU mO nQ;go_enter Tryz.func256,Tryz.ntmps256;go_wp2_with fail;refine Z7 hCU ?_;clear hCU;rintro e w2 ⟨rfl,rfl⟩;go_wp2;go_ret;exact⟨Qd HV.out.symm,lK.out⟩
  ·have HV:Hid (EP=false):=by show _=_; rw[yO.out,Qh hle,Qi]
   clear yO HCU mO nQ;go_enter Tryz.func256,Tryz.ntmps256;go_wp2;go_ret;exact⟨Qd HV.out.symm,lK.out⟩
 ·have HV:Hid (EP=false):=by show _=_; rw[yO.out,Qs k8]
  clear yO HCU mO nQ;go_enter Tryz.func256,Tryz.ntmps256;go_wp2;go_ret;exact⟨Qd HV.out.symm,lK.out⟩
def Z5:=@uW
def dS (ts:List af) (q:ae) (xs:List Int):List Int:=xs.map fun c=>(bD ts q.src.xs c:Int)
def bE (cs:List aj):Int × Int × Bool:=
 if cs.length > 1∨(cs.getD 0 cz).op≠0∨(cs.getD 0 cz).not=true∨(cs.getD 0 cz).const=true then (0,0,false) else ((cs.getD 0 cz).left,(cs.getD 0 cz).right,true)
theorem PQ (ts:List af) (q:ae) {xs:List Int} {k:Nat} (hk:k<xs.length):bT (dS ts q (xs.take (k+1)))=bT (dS ts q (xs.take k))|||2 ^ bD ts q.src.xs (xs.getD k 0):=by
 have e:xs.getD k 0=xs[k]:=by simp[List.getD,hk]
 unfold dS;rw[Qk hk,Ql,yf,e]
 show _|||bT [(bD ts q.src.xs xs[k]:Int)]=_
 rw[zw]
def eT (ts:List af) (q:ae) (xs:List Int):Prop:=∀ c∈xs,0<=c/\c<aO ts q.src.xs
theorem tL {ts:List af} {q:ae} (ok:Ok ts q) {xs:List Int} (h:eT ts q xs):fJ q.src.xs.length (dS ts q xs):=fun x hx=>by
 obtain⟨c,hc,rfl⟩:=Q0.1 hx;obtain⟨h0,h1⟩:=h c hc;have:=(oz ok.cat ok.src h0 h1).1;omega
theorem Oe {ts:List af} {q:ae} (ok:Ok ts q) {xs:List Int} (h:eT ts q xs) (k:Nat):bT (dS ts q (xs.take k))<18446744073709551616:=
 (tL ok (fun c hc=>h c (ZX hc))).lt ok.small
theorem C9 {ts:List af} {q:ae} (ok:Ok ts q):((jI ts q).length:Int)=aO ts q.src.xs:=by
 have:=ou ok.cat ok.src q.src.xs.length (Qq _);rw[Qt] at this;exact this
theorem GN {ts:List af} {q:ae} (ok:Ok ts q) {c:Int} (h0:0<=c) (h1:c<aO ts q.src.xs):bD ts q.src.xs c<q.src.xs.length:=(oz ok.cat ok.src h0 h1).1
theorem zK (c:aj) (w:World) :
  Calls Tryz.prog 178 #[c.val] w fun e w'=>e=.returned (.bool (!c.const&&decide (c.op≠2)))/\Below w.heap.size w w':=by
 obtain⟨not,op,left,const,right⟩:=c;have hb:=bU w (.cells #[.bool not,.int .i64 op,.int .i64 left,.bool const,.int .i64 right] 73);have HB:=Zh hb;clear hb;have HD:Hid (decide (op≠2)=(op != 2)):=by show _=_; rw[Qw]; simp
 unfold aj.val
 cases const with
 | false =>
  go_enter Tryz.func178,Tryz.ntmps178;go_wp2;go_ret;exact⟨Qd (by show _=(true&&decide (op≠2)); rw[HD.out]; rfl),HB.out⟩
 | true =>
  go_enter Tryz.func178,Tryz.ntmps178;go_wp2;go_ret;exact⟨rfl,HB.out⟩
theorem zL (w:World) (xs:List Int) (t:TypeId) (hl:xs.length<=1000):au (w.alloc (.cells (xs.map (Value.int .i64)).toArray t)) (some (aD w.heap.size 0)) xs:=by
 refine⟨by omega,fun i hi=>⟨w.heap.size,0,rfl,?_⟩⟩;simp only[World.cell?,kG w _];simp[List.getD,hi]
theorem pQ (c:aj) (w:World) :
  Calls Tryz.prog 125 #[c.val] w fun e w'=>∃ b,e=.returned (.slice (some (aD b 0)) (aK c).length (aK c).length)/\au w' (some (aD b 0)) (aK c)/\Below w.heap.size w w':=by
 have HN:Hid _:=fun x=>zK c x
 obtain⟨w1,hw1,hk1,yN⟩:=bu w #[.bool c.not,.int .i64 c.op,.int .i64 c.left,.bool c.const,.int .i64 c.right] 73;obtain⟨g0,g1,g2,g3,g4⟩:=yN.k5;have HC:Hid (aK c=if (!c.const&&decide (c.op≠2))=true then [c.left,c.right] else [c.left]):=by
  show _=_
  unfold aK
  cases c.const <;> by_cases h:c.op=2 <;> simp[h]
 have hN:=HN.out w1;generalize (!c.const&&decide (c.op≠2))=B at *;generalize aK c=CC at *;clear HN yN;obtain⟨not,op,left,const,right⟩:=c;unfold aj.val at *;simp only at *;have lK:=Zh hk1;clear hk1
 cases B with
 | true =>
  obtain rfl:CC=[left,right]:=HC.out;have HIA:Hid (∀ x:World,au (x.alloc (.cells #[.int .i64 left,.int .i64 right] 3)) (some (aD x.heap.size 0)) [left,right]):=fun x=>zL x [left,right] _ (by simp)
  clear HC;go_enter Tryz.func125,Tryz.ntmps125;go_wp2_with fail;refine hN.mono ?_;clear hN hw1;rintro e w2 ⟨rfl,hb2⟩;have e2:=cB hb2 g2;have e4:=cB hb2 g4;have HB2:=Zh (aG (aG lK.out hb2) (bU w2 (.cells #[.int .i64 left,.int .i64 right] 3)));clear hb2 g0 g1 g2 g3 g4;go_wp2;go_ret;exact⟨_,rfl,HIA.out _,HB2.out⟩
 | false =>
  obtain rfl:CC=[left]:=HC.out;have HIA:Hid (∀ x:World,au (x.alloc (.cells #[.int .i64 left] 3)) (some (aD x.heap.size 0)) [left]):=fun x=>zL x [left] _ (by simp)
  clear HC;go_enter Tryz.func125,Tryz.ntmps125;go_wp2_with fail;refine hN.mono ?_;clear hN hw1;rintro e w2 ⟨rfl,hb2⟩;have e2:=cB hb2 g2;have HB2:=Zh (aG (aG lK.out hb2) (bU w2 (.cells #[.int .i64 left] 3)));clear hb2 g0 g1 g2 g3 g4;go_wp2;go_ret;exact⟨_,rfl,HIA.out _,HB2.out⟩
theorem nC (f:aB) (ts:List af) (q:ae) (xa:Option Addr) (xc:Nat) (xs:List Int) (w:World) (ok:Ok ts q) (hf:jd w f.ca (jI ts q)) (hx:au w xa xs) (hxs:eT ts q xs) :
  Calls Tryz.prog 117 #[.agg (f.cells ts q),.slice xa xs.length xc] w fun e w'=>e=.returned (.int .u64 ((bT (dS ts q xs):Nat):Int))/\Below w.heap.size w w':=by
 obtain⟨w1,hw1⟩:∃ x,x=w.alloc (.cells (f.cells ts q) 94):=⟨_,rfl⟩
 have hk1:Below w.heap.size w w1:=by rw[hw1]; exact bU _ _
 have yN:GB w1 w.heap.size 94 (f.cells ts q):=by rw[hw1]; exact kG _ _
 have q7:=yN.at 7;have hWC:=hw1.symm;have mO:Hid _:=hf.below hk1;have HXI:Hid _:=Qo hk1 hx;have hxl:=hx.1;have hcl:=hf.1;have HST:Hid (∀ k,k<xs.length->bT (dS ts q (xs.take (k+1)))=bT (dS ts q (xs.take k))|||2 ^ bD ts q.src.xs (xs.getD k 0)):=fun k hk=>PQ ts q hk
 have Da:Hid (∀ k,bT (dS ts q (xs.take k))<18446744073709551616):=fun k=>Oe ok hxs k
 have TU:Hid (bT (dS ts q (xs.take xs.length))=bT (dS ts q xs)):=by show _=_; rw[Qt]
 have HS0:Hid (bT (dS ts q (xs.take 0))=0):=rfl;have HXC:Hid (∀ k,k<xs.length->∃ n:Nat,xs.getD k 0=n/\n<(jI ts q).length/\((jI ts q).getD n (0,0)).1=bD ts q.src.xs (xs.getD k 0)/\bD ts q.src.xs (xs.getD k 0)<64):=fun k hk=>by
  obtain⟨h0,h1⟩:=hxs _ (ZM hk (d:=0));have h2:=C9 ok;have h3:=GN ok h0 h1;have h4:=ok.small;refine⟨(xs.getD k 0).toNat,by omega,by omega,rfl,by omega⟩
 have lK:=Zh hk1;obtain⟨ST,hST⟩:∃ ST:Nat->Nat,ST=fun k=>bT (dS ts q (xs.take k)):=⟨_,rfl⟩
 have nD:Hid (∀ k,k<xs.length->ST (k+1)=ST k|||2 ^ bD ts q.src.xs (xs.getD k 0)):=by rw[hST]; exact HST.out
 have adA:Hid (∀ k,ST k<18446744073709551616):=by rw[hST]; exact Da.out
 have adB:Hid (ST xs.length=bT (dS ts q xs)):=by rw[hST]; exact TU.out
 have adC:Hid (ST 0=0):=by rw[hST]; exact HS0.out
 generalize bT (dS ts q xs)=R at *;generalize bD ts q.src.xs=SN at *;generalize jI ts q=CS at *;generalize f.cells ts q=FC at *;clear hST HST Da TU HS0 hw1 yN hk1 ok hxs hf hx;go_enter Tryz.func117,Tryz.ntmps117;go_wp2;clear hWC;go_loopw [5,10] (fun sv iv wr=>∃ k:Nat,k<=xs.length/\iv=.int .i64 k/\(∃ s:Nat,sv=.int .u64 (s:Int)/\Hid (s=ST k))/\Below w1.heap.size w1 wr) (fun _ iv _=>xs.length-(intOf iv).toNat)
 case atStart=>exact⟨0,QQ _,rfl,⟨0,rfl,adC.out.symm⟩,Qp _ _⟩
 case round=>
  obtain⟨k,hk,rfl,⟨s,rfl,hs⟩,hbr⟩:=hrel;by_cases hlt:k<xs.length
  ·obtain⟨xb,xo,rfl,J5⟩:=au.get HXI.out hlt;have hck:=cB hbr (J5 k hlt);obtain⟨n,hn,hnl,hcn,ahx⟩:=HXC.out k hlt;have HT:=Zh (nD.out k hlt);have hsl:s<18446744073709551616:=by rw[hs.out]; exact adA.out k
   obtain⟨cb,co,YF,c0,_⟩:=mO.out.2 n hnl;have d0:=cB hbr c0;have q7':=cB hbr q7;rw[YF] at q7';rw[hn] at hck;rw[hcn] at d0;rw[<- hs.out] at HT;clear J5 c0 YF hcn hs;generalize SN (xs.getD k 0)=m at *;clear hn;obtain⟨wa,hwa⟩:∃ x,wr.alloc (.cells #[.int .i64 (m:Int)] 3)=x:=⟨_,rfl⟩
   have Le:=rQ wr.heap.size m wa (by rw[<- hwa]; simp) ahx;obtain⟨wb,hwb⟩:∃ x,wa.alloc (.cells #[.int .u64 (s:Int),.int .u64 ((2 ^ m:Nat):Int)] 90)=x:=⟨_,rfl⟩
   have hp:2 ^ m<18446744073709551616:=ZW (n:=64) (by omega) ahx;have hUN:=jq wa.heap.size s (2 ^ m) wb (by rw[<- hwb]; simp) (by rw[<- hwb]; simp) hsl hp;have jV:Hid (Below w1.heap.size w1 wb):=by
    show Below _ _ _
    rw[<- hwb,<- hwa];exact aG (aG hbr (bU _ _)) (bU _ _)
   generalize 2 ^ m=p at *;go_wp2_with fail;refine Le.mono ?_;clear Le;rintro e w2 ⟨rfl,rfl⟩;go_wp2_with fail;refine hUN.mono ?_;clear hUN;rintro e w3 ⟨rfl,rfl⟩;clear hwa hwb;go_wp2;go_roundw
   case rel=>exact⟨k+1,by omega,by go_num,⟨s|||p,rfl,HT.out.symm⟩,jV.out⟩
   case measure=>simp[intOf]; omega
  ·obtain rfl:k=xs.length:=by omega
   have HV:=Zh (hs.out.trans adB.out);have HB:=Zh (aG lK.out hbr);clear hs hbr;go_wp2;go_ret;exact⟨Qe (by rw[HV.out]),HB.out⟩
theorem Lf (f:aB) (ts:List af) (q:ae):∃ v0 v1 v2 v3 v4 v5 v6 v7 v8 v9 v10 v11 v12,f.cells ts q=#[v0,v1,v2,v3,v4,v5,v6,v7,v8,v9,v10,v11,v12]/\v0=q.src.val/\v1=.slice q.bY q.wh.length q.aI/\v2=.bool q.group/\v3=q.keys.val/\v4=q.sums.val/\v5=q.aQ.val/\v6=q.ord.val/\
  v7=.slice f.ca (jI ts q).length f.cc/\v8=.int .u64 ((2 ^ q.src.xs.length-1:Nat):Int)/\v9=.int .u64 ((2 ^ q.wh.length-1:Nat):Int)/\v10=.slice f.ra q.src.xs.length f.rc/\v11=.slice f.na f.nl f.nc/\v12=.slice f.pa f.pl f.pc:=
 ⟨_,_,_,_,_,_,_,_,_,_,_,_,_,rfl,rfl,rfl,rfl,rfl,rfl,rfl,rfl,rfl,rfl,rfl,rfl,rfl,rfl⟩
def Z8:=@Lf
def zi (k:Int):Int:=if k=0∨k=1 then 0 else if 3<=k/\k<=5 then 2 else 1
def je (k:Int):Array Value:=#[.int .i64 (zi k),.bool (decide (k=1)),.bool (decide (2<=k/\k<=5)),.bool (decide (k=4∨k=5)),.bool (decide (k=6))]
def kg:List Value:=(List.range 11).flatMap fun (k:Nat)=>(je (k:Int)).toList
def cZ (w:World) (g:Nat):Prop:=∀ j u,kg[j]? = some u->w.cell? (aD g j)=some u
theorem cZ.below {w w':World} {g:Nat} (hb:Below w.heap.size w w') (h:cZ w g):cZ w' g:=fun j u hj=>cB hb (h j u hj)
theorem cZ.get {w:World} {g:Nat} (h:cZ w g) {k:Nat} (hk:k<=10) :
  w.cell? (aD g (0+k*5))=some (.int .i64 (zi k))/\w.cell? (aD g (0+k*5+1))=some (.bool (decide ((k:Int)=1)))/\w.cell? (aD g (0+k*5+2))=some (.bool (decide (2<=(k:Int)/\(k:Int)<=5)))/\
   w.cell? (aD g (0+k*5+3))=some (.bool (decide ((k:Int)=4∨(k:Int)=5)))/\w.cell? (aD g (0+k*5+4))=some (.bool (decide ((k:Int)=6))):=by
 have hf:∀ j,j<5->kg[k*5+j]? = (je (k:Int)).toList[j]?:=fun j hj=>by
  have:=ZR (fun (k:Nat)=>(je (k:Int)).toList) 5 (fun _=>rfl) 0 (List.range 11) k j (by simp; omega) hj;unfold kg;rw[this];simp[List.getD,show k<11 by omega]
 simp only[QE];refine⟨h (k*5) _ ?_,h (k*5+1) _ ?_,h (k*5+2) _ ?_,h (k*5+3) _ ?_,h (k*5+4) _ ?_⟩
 ·have:=hf 0 (by omega); rw[ZU] at this; rw[this]; rfl
 ·rw[hf 1 (by omega)]; rfl
 ·rw[hf 2 (by omega)]; rfl
 ·rw[hf 3 (by omega)]; rfl
 ·rw[hf 4 (by omega)]; rfl
theorem BM {k:Int} (h1:1<=k):zi k=(arity k:Int):=by
 unfold zi arity;by_cases h:k=1
 ·rw[Qr (.inr h),Qr h]; rfl
 ·rw[Qs (by omega),Qs h];split <;> rfl
def Z9:=@cZ.below
