import Derived.Test.YtgemohlbjehmbaaGreatDoorF09
import Derived.Test.YtgemohlbjehmbaaGreatDoorF19
import Derived.Test.YtgemohlbjehmbaaGreatDoorF28
import Derived.Test.YtgemohlbjehmbaaGreatDoorF36
import Derived.Test.YtgemohlbjehmbaaGreatDoorF37
set_option linter.all false
set_option maxRecDepth 100000
set_option maxHeartbeats 16000000
namespace Go.Proofs.Zz
open Go.RowKit Go.Shelf
variable {Tn:TypeId} {F Ma Mb:Nat->Prop} {base:Nat} {w w' w0:World} {v:Value} {nv:List ah} {ts:List af} {a b:NQ} {σ τ:eF} {q:ae}
theorem Ib(co:Option Addr)(cc:Nat)(dv:Value)(ts:List af)(q:ae)(db:List jJ)(room n:Nat)(N:Nat->Prop)(w:World)(hts:bF w co ts)(hls:fo n q w)(hok:CaseOk ts q db)(hs:dn w 0)(h1:1<=room)(h2:room<=1000)(hN:∀ b,N b->b<w.heap.size)(h0:¬ N 0)(hw0:0<w.heap.size) :
  Calls Tryz.prog 5 #[.agg (caseA (.slice co ts.length cc) q dv),.int .i64 (room:Int)] w λe w'=>∃ P M,e=.returned (.tuple #[.pointer (some (aD P.pb 0)),.bool true])/\vI ts N q room w P M w':=by
 have f:co=none->cc=0:=λe=>by obtain⟨b,y,t,_⟩:=hts.2 0 (by have:=hok.tabs.1; omega);rw[e]at t;cases t
 have a:Hid (∀ x,Bw w x->Calls Tryz.prog 16 #[.slice co ts.length cc,.agg q.cells,.int .i64 (room:Int)] x λe w'=>∃ P M,e=.returned (.tuple #[.pointer (some (aD P.pb 0)),.int .i64 0])/\vI ts N q room x P M w'):=λx k=>
  YF co cc ts q room N x (hts.below k) f (hls.at'.below k) hls.keys.2.2 hls.ord.2.2 (YU hok hls) (Xm k hs) (FD hok) h1 h2 (λb h=>QH (hN b h) k.size) h0 (QH hw0 k.size)
 obtain⟨v0,l,m,v3,v4,v5,p,s⟩:∃ v0 l m v3 v4 v5 p,q.cells=#[v0,l,m,v3,v4,v5,p]:=⟨_,_,_,_,_,_,_,rfl⟩;have g:caseA (.slice co ts.length cc) q dv=#[.slice co ts.length cc,v0,l,m,v3,v4,v5,p,dv]:=by have:caseA (.slice co ts.length cc) q dv=#[.slice co ts.length cc]++q.cells ++ #[dv]:=rfl;rw[this,s];rfl
 rw[g];rw[s]at a;obtain⟨z,A,d,j⟩:=bn w #[.slice co ts.length cc,v0,l,m,v3,v4,v5,p,dv] 29;obtain⟨a0,B,C,a3,a4,a5,D,E⟩:=j.k8;have r:=Zh d;have i:=a.o z d;clear hts hls hok hs h1 h2 hN h0 hw0 f a s g d j;go_enter Tryz.func5,Tryz.ntmps5;go_wp2_with fail;refine i.mono ?_;rintro e F ⟨P,M,rfl,u⟩;have v:=Zh (u.elder r.o);clear i u a0 B C a3 a4 a5 D E;go_wp2;go_ret2;exact⟨P,M,rfl,v.o⟩
theorem iq.plan(h:iq Tn F base w v nv)(hl:nv.length<=1000):∃ b cap,v=.slice b nv.length cap/\kI w b nv:=by
 have hv:∃ b cap,v=.slice b nv.length cap:=by
  rcases h.own.2 with⟨rfl,h0⟩ | ⟨g,cap,cur,rfl,_⟩
  ·exact⟨none,0,by rw[h0]⟩
  ·exact⟨_,_,rfl⟩
 obtain⟨b,cap,rfl⟩:=hv;refine⟨b,cap,rfl,by omega,λi m=>?_⟩;obtain⟨g,d,e,n,j,a⟩:=MH h.own m;injection e with e1 e2 e3;subst e1;have f:nv.getD i nz∈nv:=by grind
 obtain⟨k,_,l,_,_⟩:=h.lists _ f;exact⟨g,0,rfl,by rw[QL]; exact a 0 _ (by omega) rfl,by rw[QL]; exact a 1 _ (by omega) rfl,by rw[QL]; exact a 2 _ (by omega) rfl,by rw[QL]; exact a 3 _ (by omega) rfl,by rw[QL]; exact a 4 _ (by omega) rfl,by rw[QL]; exact a 5 _ (by omega) rfl,by rw[QL]; exact a 6 _ (by omega) rfl,k,l⟩
structure Duo(ts:List af)(w0:World)(a b:NQ)(Ma Mb:Nat->Prop)(σ τ:eF)(w:World):Prop where
 sa:∃ X L,fe a.W a.f ts a.q X Ma w a.sb L σ/\∀ c,Mb c->X c
 sb:∃ X L,fe b.W b.f ts b.q X Mb w b.sb L τ/\∀ c,Ma c->X c
 ca:w.cell? (aD a.pb 9)=some (.pointer (some (aD a.sb 0)))
 cb:w.cell? (aD b.pb 9)=some (.pointer (some (aD b.sb 0)))
 na:¬ Ma a.pb/\¬ Mb a.pb
 nb:¬ Ma b.pb/\¬ Mb b.pb
 apart:∀ c,Ma c->¬ Mb c
 la:∀ c,Ma c->w0.heap.size<=c
 lb:∀ c,Mb c->w0.heap.size<=c
 below:Bw w0 w
theorem Duo.swap(h:Duo ts w0 a b Ma Mb σ τ w):Duo ts w0 b a Mb Ma τ σ w:=
 ⟨h.sb,h.sa,h.cb,h.ca,h.nb.symm,h.na.symm,λc d e=>h.apart c e d,h.lb,h.la,h.below⟩
theorem Duo.step(h:Duo ts w0 a b Ma Mb σ τ w)(hb:Bw w w'):Duo ts w0 a b Ma Mb σ τ w':=by obtain⟨X,L,d,e⟩:=h.sa;obtain⟨Y,K,f,g⟩:=h.sb;exact⟨⟨X,L,d.below hb,e⟩,⟨Y,K,f.below hb,g⟩,cB hb h.ca,cB hb h.cb,h.na,h.nb,h.apart,h.la,h.lb,h.below.trans (hb.mono h.below.size)⟩
theorem Duo.went{σ':eF}(h:Duo ts w0 a b Ma Mb σ τ w){X:Nat->Prop}(hX:∀ c,Mb c->X c)(hp:dz a.W a.f ts a.q X Ma w a.sb σ' w'):∃ j,Duo ts w0 a b j Mb σ' τ w'/\Kept (λc=>¬ Ma c) w w'/\∀ c,j c->Ma c∨w.heap.size<=c:=by
 obtain⟨u,X',n,m,g,A,i,v⟩:=hp;obtain⟨Y,K,k,y⟩:=h.sb;have l:∀ c,Mb c->c<w.heap.size:=λc d=>(k.lt (k.sub c d)).2;have p:=k.hz.below.size;have r:=k.other (N:=Ma) (N':=λc=>n c/\w.heap.size<=c) y (λc d z=>h.apart c z d) g (λc d=>.inr d.2) (λc=>Iff.rfl) (λc d=>(m.lt (m.sub c d.1)).2) (λc d=>Q6 p d.2);have s:a.pb<w.heap.size:=Za h.ca;have t:b.pb<w.heap.size:=Za h.cb;refine⟨n,⟨⟨X',u,m,λc d=>(v c).2 (.inl (hX c d))⟩,⟨_,K,r,λc d=>?_⟩,?_,?_,⟨λd=>?_,h.na.2⟩,⟨λd=>?_,h.nb.2⟩,λc d o=>?_,λc d=>?_,h.lb,?_⟩,g,i⟩
 ·grind
 ·exact XF g h.ca h.na.1
 ·exact XF g h.cb h.nb.1
 ·rcases i _ d with e | e
  ·exact h.na.1 e
  ·omega
 ·rcases i _ d with e | e
  ·exact h.nb.1 e
  ·omega
 ·rcases i _ d with e | e
  ·exact h.apart c e o
  ·have:=l c o; omega
 ·rcases i _ d with e | e
  ·exact h.la c e
  ·exact Q6 h.below.size e
 ·exact h.below.trans (g.below h.below.size λc d e=>by have:=h.la c e; omega)
theorem Duo.make{room:Nat}{w1 w2:World}(ha:vI ts (λ_=>False) q room w0 a Ma w1)(hb:vI ts (λc=>c=a.pb∨Ma c) q room w1 b Mb w2):Duo ts w0 a b Ma Mb (bP bJ ts a.q room) (bP bJ ts b.q room) w2:=by
 obtain⟨L,s⟩:=ha.se;obtain⟨K,t⟩:=hb.se;have e:∀ c,Ma c->c<w1.heap.size:=λc d=>(s.lt (s.sub c d)).2;have f:∀ c,Mb c->c<w2.heap.size:=λc d=>(t.lt (t.sub c d)).2;have g:=s.hz.below.size;have i:=s.other (N:=λ_=>False) (N':=Mb) (X':=λc=>((False∨c=a.pb)∨Ma c)∨Mb c) (w':=w2) (λc h=>h.elim) (λc _ h=>h) (Q7 hb.below (λ_ h _=>h)) (λc h=>.inr (hb.new c h)) (λc=>Iff.rfl) f (λc h=>Q6 g (hb.new c h));have j:a.pb<w1.heap.size:=Za ha.cell;refine⟨⟨_,L,i,λc d=>.inr d⟩,⟨_,K,t,λc d=>.inl (.inl (.inr d))⟩,cB hb.below ha.cell,hb.cell,⟨ha.npb,λh=>?_⟩,⟨λh=>?_,hb.npb⟩,λc k l=>?_,ha.new,λc d=>Q6 ha.below.size (hb.new c d),ha.below.trans (hb.below.mono ha.below.size)⟩
 ·have:=hb.new _ h;omega
 ·have:=e _ h;have:=hb.pb;omega
 ·have:=e c k;have:=hb.new c l;omega
theorem Duo.runs(E:Env a.f ts a.q a.W)(h:Duo ts w0 a b Ma Mb σ τ w)(hok:uu a.q σ)(n:Nat)(hn:n<=1000000)(tick:Int)(po:Option Addr)(pc:Nat)(ps:List Int)(hpl:∀ d,(runN bJ ts a.q (aN ts a.q) ps d 0 σ).status=1->d<n->σ.picks.length+d<=8000)(hp:aM w0 po ps)(hpb:∀ c,po=some c->c.block<w0.heap.size) :
  Calls Tryz.prog 6 #[.pointer (some (aD a.pb 0)),.int .i64 (n:Int),.int .i64 tick,.slice po ps.length pc] w λe w'=>∃ g i,i = goT bJ ts a.q (aN ts a.q) ps n tick σ/\e=.returned (.int .i64 i.status)/\Duo ts w0 a b g Mb i τ w'/\Kept (λc=>¬ Ma c) w w'/\∀ c,g c->Ma c∨w.heap.size<=c:=by
 obtain⟨X,L,s,m⟩:=h.sa;have j:=ag2 E s hok n hn tick ⟨po,pc,ps⟩ hpl (Ql h.below hp) (λc p k=>by
  have l:=hpb c p;have r:=h.la _ k;omega)
 refine(aac a.pb a.sb n tick po ps.length pc w h.ca j (λe w' j=>by
  grind)).mono ?_
 rintro e w' ⟨i,l,rfl,o⟩;obtain⟨g,hd,t,k⟩:=h.went m o;grind
theorem Duo.run(E:Env a.f ts a.q a.W)(h:Duo ts w0 a b Ma Mb σ τ w)(hok:uu a.q σ)(n:Nat)(hpl:σ.picks.length+n<=900)(tick:Int)(po:Option Addr)(pc:Nat)(ps:List Int)(hp:aM w0 po ps)(hpb:∀ c,po=some c->c.block<w0.heap.size) :
  Calls Tryz.prog 6 #[.pointer (some (aD a.pb 0)),.int .i64 (n:Int),.int .i64 tick,.slice po ps.length pc] w λe w'=>∃ g i,i = goT bJ ts a.q (aN ts a.q) ps n tick σ/\e=.returned (.int .i64 i.status)/\Duo ts w0 a b g Mb i τ w'/\Kept (λc=>¬ Ma c) w w'/\∀ c,g c->Ma c∨w.heap.size<=c:=h.runs E hok n (by omega) tick po pc ps (λd _ _=>by omega) hp hpb
theorem Duo.one(E:Env a.f ts a.q a.W)(h:Duo ts w0 a b Ma Mb σ τ w)(hok:uu a.q σ)(hpl:σ.picks.length<=8000)(pick:Int) :
  Calls Tryz.prog 9 #[.pointer (some (aD a.pb 0)),.int .i64 pick] w λe w'=>∃ d g,g = (if σ.status=1 then fu bJ ts a.q (aN ts a.q) pick σ else σ)/\e=.returned (.int .i64 g.status)/\Duo ts w0 a b d Mb g τ w'/\Kept (λc=>¬ Ma c) w w'/\∀ c,d c->Ma c∨w.heap.size<=c:=by
 obtain⟨X,L,s,i⟩:=h.sa;refine(TL a.pb a.sb pick w h.ca (aab E s hok hpl pick) (λe w' n=>by
  grind)).mono ?_
 rintro e w' ⟨g,k,rfl,j⟩;obtain⟨d,hd,l,m⟩:=h.went i j;grind
theorem Duo.bq{ts:List af}{w0:World}{a b:NQ}{Ma Mb:Nat->Prop}{σ τ:eF}{w:World}(E:Env a.f ts a.q a.W)(h:Duo ts w0 a b Ma Mb σ τ w)(hok:uu a.q σ) :
  Calls Tryz.prog 18 #[.pointer (some (aD a.pb 0))] w λe w'=>∃ j cap g,e=.returned (.tuple #[.slice j g.length cap,.int .u64 (σ.bq.d.cost:Int)])/\g.map bL=σ.bq.ns/\iq 75 (λc=>w.heap.size<=c) w.heap.size w' (.slice j g.length cap) g/\g.length<=1000/\Bw w w':=by
 obtain⟨X,L,s,o⟩:=h.sa;refine(TK a.pb a.sb w h.ca (Y3 E s hok.core.bq hok.core.small (F:=λc=>w.heap.size<=c) (λ_ h=>h)) (λe w' n=>by
  obtain⟨v,g,i,_⟩:=n;exact⟨_,_,i⟩)).mono ?_
 rintro e w' ⟨v,g,rfl,l,m,p⟩;have k:g.length<=1000:=by have i:=congrArg List.length l;rw[QQ]at i;have:=hok.core.small;omega
 obtain⟨j,cap,rfl,_⟩:=m.plan k;grind
theorem Duo.steps(h:Duo ts w0 a b Ma Mb σ τ w) :
  Ce 8 #[.pointer (some (aD a.pb 0))] w (.int .i64 (σ.picks.length:Int)):=by
 obtain⟨X,L,s,r⟩:=h.sa;obtain⟨v0,t,u,v3,v4,v5,v,y,z,v9,l,m,n,o,-⟩:=Z6 a.f ts a.q;have d:∃ k cap,L.pv=.slice k σ.picks.length cap:=by
  rcases s.pk.2 with⟨e,h0⟩ | ⟨g,cap,cur,e,_⟩
  ·exact⟨none,0,by rw[e,h0]⟩
  ·exact⟨_,_,e⟩
 obtain⟨k,cap,d⟩:=d;have j:=s.cells o;have i:=j.at 17;rw[d]at i;exact Oo a.pb a.sb w h.ca (Sq a.sb k σ.picks.length cap w i) (λe w' p=>⟨_,p.1⟩)
structure Both(ts:List af)(w0:World)(po:Option Addr)(ps:List Int)(q:ae)(a b:NQ):Prop where
 ea:Env a.f ts a.q a.W
 eb:Env b.f ts b.q b.W
 qa:bN q a.q
 qb:bN q b.q
 ps:aM w0 po ps
 pb:∀ c,po=some c->c.block<w0.heap.size
theorem vI.lt{ts:List af}{N:Nat->Prop}{q:ae}{room:Nat}{w:World}{P:NQ}{M:Nat->Prop}{w':World}(h:vI ts N q room w P M w'){c:Nat}(hc:c=P.pb∨M c):c<w'.heap.size:=by
 rcases hc with rfl | hc
 ·exact Za h.cell
 ·obtain⟨L,s⟩:=h.se;exact(s.lt (s.sub c hc)).2
theorem iq.ayl(h:iq Tn F base w v nv):∀ i,i<nv.length->(nv.getD i nz).co.xs.length<=(nv.getD i nz).co.cap:=λi a=>by refine(h.lists _ ?_).2.2.2.2;grind
theorem BF.told{t:aQ}(h:BF ts q t)(hc:q.check ts=0)(hn:nv.map bL=t.ns):wQ ts q nv=t.d.cost/\Jk ts q nv=0:=by obtain⟨e,a,b⟩:=h.cost hn;unfold wQ Jk;rw[Qo hc,Qo hc,a];exact⟨b,rfl⟩
theorem Ua(E:Env a.f ts a.q a.W)(h:Duo ts w0 a b Ma Mb σ τ w)(hok:uu a.q σ)(co:Option Addr)(cc:Nat)(dv:Value)(q:ae)(hts:bF w0 co ts)(hq:q.At w0)(hkc:q.keys.xs.length<=q.keys.cap)(hoc:q.ord.xs.length<=q.ord.cap)(hs:dn w0 0)(Am:q.check ts=0)(hbf:BF ts q σ.bq) :
  Cb 7 #[.agg (caseA (.slice co ts.length cc) q dv),.pointer (some (aD a.pb 0))] w (.tuple #[.int .u64 (σ.bq.d.cost:Int),.bool true]):=by
 obtain⟨v0,A,B,v3,v4,v5,D,I⟩:∃ v0 A B v3 v4 v5 D,q.cells=#[v0,A,B,v3,v4,v5,D]:=⟨_,_,_,_,_,_,_,rfl⟩;have n:caseA (.slice co ts.length cc) q dv=#[.slice co ts.length cc,v0,A,B,v3,v4,v5,D,dv]:=by have:caseA (.slice co ts.length cc) q dv=#[.slice co ts.length cc]++q.cells ++ #[dv]:=rfl;rw[this,I];rfl
 rw[n];have F:Hid (∀ x (m:Option Addr) (cap:Nat) (j:List ah),Bw w x->kI x m j->(∀ i,i<j.length->(j.getD i nz).co.xs.length<=(j.getD i nz).co.cap)->j.map bL=σ.bq.ns->Cb 10 #[.slice co ts.length cc,.agg q.cells,.slice m j.length cap] x (.tuple #[.int .u64 (σ.bq.d.cost:Int),.int .i64 0])):=λx m cap j hb hn z hp=>by have k:=aF h.below hb;have:=xP co cc ts q m cap j x (hts.below k) (hq.below k) hkc hoc hn (Xm k hs) z;obtain⟨e1,e2⟩:=hbf.told Am hp;rw[e1,e2]at this;exact this
 rw[I]at F;obtain⟨w1,J,l,t⟩:=bn w #[.slice co ts.length cc,v0,A,B,v3,v4,v5,D,dv] 29;obtain⟨a0,L,M,a3,a4,a5,N,O⟩:=t.k8;have p:=Zh l;have r:=(h.step l).bq E hok;clear hts hq hkc hoc hs Am hbf hok E h I n l t;generalize σ.bq.d.cost=C at *;generalize σ.bq.ns=R at *;go_enter Tryz.func7,Tryz.ntmps7;go_wp2_with fail;refine r.mono ?_;rintro e w2 ⟨m,cap,j,rfl,u,K,P,g⟩;obtain⟨aa,Q,ev,v⟩:=K.plan P;injection ev with ev1 ev2 ev3;subst ev1;clear ev2 ev3;have s:=F.o w2 m cap j (aF p.o g) v K.ayl u;have S:=cB g a0;have T:=cB g L;have U:=cB g M;have V:=cB g a3;have X:=cB g a4;have Y:=cB g a5;have Z:=cB g N;have d7:=cB g O;have G:=Zh (aF p.o g);clear r u K P g v F J a0 L M a3 a4 a5 N O;go_wp2_with fail;refine s.mono ?_;rintro e w3 ⟨rfl,y⟩;have H:=Zh (aF G.o y);clear s y S T U V X Y Z d7;go_wp2;go_ret2;exact⟨rfl,H.o⟩
