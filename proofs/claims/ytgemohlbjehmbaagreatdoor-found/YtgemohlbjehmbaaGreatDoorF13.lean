import Derived.Test.YtgemohlbjehmbaaGreatDoorF10
set_option linter.all false
set_option maxRecDepth 100000
set_option maxHeartbeats 16000000
namespace Go.Proofs.Zz
open Go.RowKit Go.Shelf
variable {A B:World} {R:Nat} {ao:Option Addr}
theorem Tryz.Mw:(Tryz.prog.info? 73).map (λi=>(i.zero,i.size,i.bytes))=some (some (.agg #[.int .i64 0,.int .u64 0,.int .u64 0,.slice none 0 0,.int .u64 0,.int .u64 0]),6,64):=by kernel_rfl
theorem Bz(W:World)(base:Nat)(v:Value)(ps:List aH)(hown:W.ownsRow base 73 6 v ps.length (ps.flatMap aH.list))(hl:ps.length<=1000)(hb:base<=W.heap.size)(p:aH)(ty:TypeId) :
  ∃ d w',(Builtin.append_ #[69,69] ty #[v,.slice (some (aD W.heap.size 0)) 1 1]).run Tryz.prog (W.alloc (.cells p.cells 73))=.ok d w'/\
   w'.ownsRow base 73 6 d (ps++[p]).length ((ps++[p]).flatMap aH.list)/\Kept (λb=>v.ownBlock≠some b) W w'/\(∃ a m c,d = .slice a m c)/\(d.ownBlock=v.ownBlock∨d.ownBlock=some (W.heap.size+1)):=by
 obtain⟨k,l,e,f,g⟩:=Zv Tryz.Mw;obtain⟨d,w',n,r,o,q,i⟩:=jX (P:=Tryz.prog) W base 69 ty 73 k _ 6 64 Tryz.underlying69 l e f g rfl (by decide) v ps.length _ hown hb p.list rfl (λu j=>by
  unfold aH.list ai.val at j;simp at j;rcases j with rfl | rfl | rfl | rfl | rfl | rfl <;> rfl) hl (by decide)
 exact⟨d,w',n,by grind,o,q,i⟩
def zO(k:Int):Int:=if k=0∨k=1 then 0 else if 3<=k/\k<=5 then 2 else 1
def jg(k:Int):Array Value:=#[.int .i64 (zO k),.bool (decide (k=1)),.bool (decide (2<=k/\k<=5)),.bool (decide (k=4∨k=5)),.bool (decide (k=6))]
def mV:List Value:=(List.range 11).flatMap λ(k:Nat)=>(jg (k:Int)).toList
def dn(w:World)(g:Nat):Prop:=∀ j u,mV[j]? = some u->w.cell? (aD g j)=some u
theorem dn.below{w w':World}{g:Nat}(hb:Bw w w')(h:dn w g):dn w' g:=λj u a=>cB hb (h j u a)
theorem dn.get{w:World}{g:Nat}(h:dn w g){k:Nat}(hk:k<=10) :
  w.cell? (aD g (0+k*5))=some (.int .i64 (zO k))/\w.cell? (aD g (0+k*5+1))=some (.bool (decide ((k:Int)=1)))/\w.cell? (aD g (0+k*5+2))=some (.bool (decide (2<=(k:Int)/\(k:Int)<=5)))/\
   w.cell? (aD g (0+k*5+3))=some (.bool (decide ((k:Int)=4∨(k:Int)=5)))/\w.cell? (aD g (0+k*5+4))=some (.bool (decide ((k:Int)=6))):=by
 have a:∀ j,j<5->mV[k*5+j]? = (jg (k:Int)).toList[j]?:=λj b=>by have:=ZE (λ(k:Nat)=>(jg (k:Int)).toList) 5 (λ_=>rfl) 0 (List.range 11) k j (by simp; omega) b;unfold mV;grind
 simp only[QL];refine⟨h (k*5) _ ?_,h (k*5+1) _ ?_,h (k*5+2) _ ?_,h (k*5+3) _ ?_,h (k*5+4) _ ?_⟩
 ·have:=a 0 (by omega); rw[ZG]at this; rw[this]; rfl
 ·rw[a 1 (by omega)]; rfl
 ·rw[a 2 (by omega)]; rfl
 ·rw[a 3 (by omega)]; rfl
 ·rw[a 4 (by omega)]; rfl
theorem ru{k:Int}(h1:1<=k):zO k=(arity k:Int):=by unfold zO arity;grind
def aV(n:ah):List Int:=[n.l,n.r].take (arity n.kind)
theorem zP(n:ah)(w:World)(hs:dn w 0)(h1:1<=n.kind)(h10:n.kind<=10) :
  Calls Tryz.prog 63 #[.agg n.cells] w λe w'=>∃ b,e=.returned (.slice (some (aD b 0)) (aV n).length 2)/\aM w' (some (aD b 0)) (aV n)/\w.heap.size<=b/\Bw w w':=by
 obtain⟨f,H,g,u⟩:=bn w n.cells 75;obtain⟨I,J,L⟩:=u.k3;have d:Hid (aV n=[n.l,n.r].take (arity n.kind)):=rfl;have p:=Zh (ru h1);have q:Hid (arity n.kind<=2):=by show _<=_; unfold arity; split <;> (try split) <;> omega
 have s:Hid (∀ k:Nat,k<=10->_):=λk N=>(hs.below g).get N;have y:=Zh g;generalize n.cells=NC at *;generalize aV n=IL at *;obtain⟨nk,i,j,ns,O,M,P⟩:=n;simp only at *;obtain⟨k,rfl⟩:=ZV (show 0<=nk by omega);obtain⟨v,-⟩:=s.o k (by omega);rw[p.o]at v;have z:k<=10:=by omega
 have B:1<=k:=by omega
 generalize arity (k:Int)=ar at *;have C:=q.o;have t:Hid (∀ x:World,aM (x.alloc (.cells #[.int .i64 i,.int .i64 j] 3)) (some (aD x.heap.size 0)) [i,j]):=λx=>yg x [i,j] _ (by simp);rw[QL]at v;have D:¬ (11:Int)<=(k:Int):=by omega
 have A:(ar:Int)<=2:=by omega
 go_enter Tryz.func63,Tryz.ntmps63;go_wp2;refine wH f λa=>?_;refine wt 0 (.pointer (some (aD w.heap.size 1))) a ?_;refine l8 1 (.int .i64 i) a J ?_;refine wt 2 (.pointer (some (aD w.heap.size 2))) a ?_;refine l8 3 (.int .i64 j) a L ?_;refine wt 5 (.pointer (some (aD w.heap.size 0))) a ?_;refine l8 6 (.int .i64 (k:Int)) a I ?_;refine wt 7 (.pointer (some (aD 0 (k*5)))) a ?_;refine wt 8 (.pointer (some (aD 0 (k*5)))) a ?_;refine l8 9 (.int .i64 (ar:Int)) a v ?_;refine wR 4 λK m=>?_;go_simp;refine oA m a λa=>?_;refine wR 10 λK m=>?_;go_simp;refine m.o _ _ a λa=>?_;refine wR 11 λK m=>?_;go_simp;refine m.o _ _ a λa=>?_;refine wD ?_;try simp only[pU]
 have E:=Zh (aF y.o a);have F:Hid (aM ((f.alloc (.cells #[.int .i64 i,.int .i64 j] 3)).drew) (some (aD f.heap.size 0)) (IL)):=by show aM _ _ _;rw[d.o];exact aM.take (t.o f.drew) ar
 have G:Hid (IL.length=ar):=by show _=_; rw[d.o,ZZ]; simp; omega
 go_wp2;go_ret;exact⟨f.heap.size,by rw[G.o]; rfl,F.o,y.o.size,E.o⟩
def Xm:=@dn.below
structure aC.New(f:aC)(n:Nat):Prop where
 ca:∀ a,f.ca=some a->n<=a.block
 ra:∀ a,f.ra=some a->n<=a.block
 na:∀ a,f.na=some a->n<=a.block
 pa:∀ a,f.pa=some a->n<=a.block
theorem mi{b off:Nat}{v:Value}(h:A.cell? (aD b off)=some v)(hk:Kept (λx=>x≠R) A B)(hb:b≠R):B.cell? (aD b off)=some v:=Ze h hk hb
theorem gF.but{xs:List Nat}(h:gF A ao xs)(hk:Kept (λx=>x≠R) A B)(hb:∀ a,ao=some a->a.block≠R):gF B ao xs:=⟨h.1,λi g=>by
 obtain⟨b,d,e,f⟩:=h.2 i g;exact⟨b,d,e,mi f hk (hb _ e)⟩⟩
theorem jf.but{cs:List (Nat × Int)}(h:jf A ao cs)(hk:Kept (λx=>x≠R) A B)(hb:∀ a,ao=some a->a.block≠R):jf B ao cs:=⟨h.1,λi j=>by
 obtain⟨b,d,e,f,g⟩:=h.2 i j;exact⟨b,d,e,mi f hk (hb _ e),mi g hk (hb _ e)⟩⟩
theorem PartsAt.but{w:World}{ps:List aH}(h:PartsAt A ao ps)(hk:Kept (λx=>x≠R) A B)(hb:∀ a,ao=some a->a.block≠R)(ho:∀ i,i<ps.length->(ps.getD i bE).Ok w)(hw:Bw w B):PartsAt B ao ps:=⟨h.1,λi g=>by
 obtain⟨⟨b,f,e,j,k,l,m,n,o⟩,_⟩:=h.2 i g;have d:=hb _ e;exact⟨⟨b,f,e,mi j hk d,mi k hk d,mi l hk d,mi m hk d,mi n hk d,mi o hk d⟩,(ho i g).below hw⟩⟩
theorem aC.At.but{A B:World}{R:Nat}{f:aC}{ts:List af}{q:ae}(h:f.At ts q A)(hk:Kept (λx=>x≠R) A B){n:Nat}(hn:f.New n)(hR:R<n)(hq:q.At B):f.At ts q B:=
 ⟨hq,h.aX.but hk (λa e=>by have:=hn.ca a e; omega),h.rows.but hk (λa e=>by have:=hn.ra a e; omega),h.conc.but hk (λa e=>by have:=hn.na a e; omega),h.parts.but hk (λa e=>by have:=hn.pa a e; omega),h.nl,h.pl⟩
theorem acB(ts:List af)(src:List Int)(cs:List aI)(a b:Nat):xz ts src cs a b =
  if (bG cs).2.2=false then (0,0,false)
  else if (aU a (2 ^ aA ts src (bG cs).1)&&aU b (2 ^ aA ts src (bG cs).2.1))=true then ((bG cs).1,(bG cs).2.1,true)
  else if (aU a (2 ^ aA ts src (bG cs).2.1)&&aU b (2 ^ aA ts src (bG cs).1))=true then ((bG cs).2.1,(bG cs).1,true)
  else (0,0,false):=by unfold xz bG;grind
theorem I9{ts:List af}{q:ae}(ok:Ok ts q){k:Nat}(hk:k<q.wh.length)(h:(bG (q.wh.getD k lz).cs).2.2=true):iM ts q [(bG (q.wh.getD k lz).cs).1]/\iM ts q [(bG (q.wh.getD k lz).cs).2.1]:=by
 have e:=ok.some k hk;have j:=ok.aX k hk;generalize (q.wh.getD k lz).cs=cs at *;unfold bG at h ⊢;by_cases d:cs.length > 1∨(cs.getD 0 cz).op≠0∨(cs.getD 0 cz).not=true∨(cs.getD 0 cz).const=true
 ·rw[Qo d]at h; cases h
 rw[Qu d];have f:∀ x,x∈aJ (cs.getD 0 cz)->x∈aZ cs:=λx b=>Q3.2 ⟨_,Zr e,b⟩;have g:(cs.getD 0 cz).op=0:=by omega
 have i:(cs.getD 0 cz).const=false:=by grind
 have a:aJ (cs.getD 0 cz)=[(cs.getD 0 cz).left,(cs.getD 0 cz).right]:=by unfold aJ;grind
 rw[a]at f;refine⟨λc b=>?_,λc b=>?_⟩
 ·grind
 grind
theorem rX(ca:Option Addr)(cc:Nat)(cs:List aI)(w:World)(hx:bZ w ca cs)(h0:0<cs.length) :
  Cb 86 #[.agg #[.slice ca cs.length cc]] w (.tuple #[.int .i64 (bG cs).1,.int .i64 (bG cs).2.1,.bool (bG cs).2.2]):=by
 obtain⟨z,co,rfl,n,p,q,r,s⟩:=hx.2 0 h0;have u:=hx.1;rw[Z7,ZG]at n p q r s;have e:Hid (bG cs=if cs.length > 1∨(cs.getD 0 cz).op≠0∨(cs.getD 0 cz).not=true∨(cs.getD 0 cz).const=true then (0,0,false) else ((cs.getD 0 cz).left,(cs.getD 0 cz).right,true)):=rfl;generalize bG cs=EC at *;generalize cs.getD 0 cz=c at *;obtain⟨j,op,left,b,right⟩:=c;simp only at *;obtain⟨A,B,a,d⟩:=bn w #[.slice (some (aD z co)) cs.length cc] 84;obtain⟨L,C,l,m⟩:=bn A #[.bool j,.int .i64 op,.int .i64 left,.bool b,.int .i64 right] 80;have f:=l;have k:=aF a f;have v:=d.of (f.block _ d.lt);have E:=v.at 0;have y:=m;obtain⟨M,N,O,P,Q⟩:=y.k5;have F:=d.at 0;have G:=cB a n;have H:=cB a p;have I:=cB a q;have J:=cB a r;have K:=cB a s;have g:=Zh k;by_cases D:cs.length > 1
 ·obtain rfl:EC=(0,0,false):=by rw[e.o,Qo (.inl D)]
  go_enter Tryz.func86,Tryz.ntmps86;go_wp2;go_ret3;exact⟨rfl,g.o⟩
 by_cases t:op≠0
 ·obtain rfl:EC=(0,0,false):=by rw[e.o,Qo (.inr (.inl t))]
  have i:(op != 0)=true:=by rw[bne_iff_ne]; exact t
  go_enter Tryz.func86,Tryz.ntmps86;go_wp2;go_ret3;exact⟨rfl,g.o⟩
 have i:op=0:=by omega
 subst i
 cases j with
 | true =>
  obtain rfl:EC=(0,0,false):=by rw[e.o,Qo (.inr (.inr (.inl rfl)))]
  go_enter Tryz.func86,Tryz.ntmps86;go_wp2;go_ret3;exact⟨rfl,g.o⟩
 | false =>
  cases b with
  | true =>
   obtain rfl:EC=(0,0,false):=by rw[e.o,Qo (.inr (.inr (.inr rfl)))]
   go_enter Tryz.func86,Tryz.ntmps86;go_wp2;go_ret3;exact⟨rfl,g.o⟩
  | false =>
   obtain rfl:EC=(left,right,true):=by rw[e.o,Qu];grind
   go_enter Tryz.func86,Tryz.ntmps86;go_wp2;go_quiet (fail);go_wp2;go_ret3;exact⟨rfl,Zo g.o _⟩
