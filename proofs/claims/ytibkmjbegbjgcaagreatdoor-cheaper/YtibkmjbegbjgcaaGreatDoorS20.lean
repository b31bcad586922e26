import Derived.Test.YtibkmjbegbjgcaaGreatDoorS18
import Derived.Test.YtibkmjbegbjgcaaGreatDoorS19
set_option linter.all false
set_option maxRecDepth 100000
set_option maxHeartbeats 0
namespace Go.Proofs.Zz
open Go.RowKit Go.Shelf Go.Proofs.Tryz
open List renaming length->N
open Go.Value renaming slice->Z,int->I,pointer->Y,bool->Qr,tuple->Qw
open Go.Proofs.Tryz renaming prog->V
open Option renaming some->O
open Go.IntKind renaming i64->J
open Go renaming World->U
open Go.World renaming heap->H
open _root_.Array renaming size->M
open Go.RowKit renaming Hid->Qn
open Go.Ending renaming returned->Qv
variable {ts:Qy af} {q:ae} {w w' w0:U} {a b:Lv} {Ma Mb:Qz} {σ τ:fU} {nv:Qy ai}
theorem TL{db:Qy dB}{n:Nat}{S:U}(h:CaseOk ts q db)(hl:dE n q S):We q:=by
 have l:=h.qry.src;have d:=h.qry.wh;have m:N q.keys.xs<=4/\N q.sums.xs<=4/\N q.aU.xs<=4/\N q.ord.xs<=4:=by
  rcases h.qry.out with⟨g,l0,k1,k2,k3,s1,s2,o1,o2,o3⟩|⟨g,k0,s0,l1,l2,l3,o1,o2,o3⟩
  .grind
  grind
 refine⟨⟨hl.src.1.2.2,X⟩,⟨hl.nil,X⟩,λi k=>?_,⟨hl.keys.1.2.2,X⟩,⟨hl.sums.1.2.2,X⟩,⟨hl.aU.1.2.2,X⟩,⟨hl.ord.1.2.2,X⟩⟩;have f:q.wh.getD i lz∈q.wh:=by simp_all
 have a:=d.2 _ f;refine⟨λe=>?_,Qk a.2.1⟩;obtain⟨b,j,p,_⟩:=(hl.wh.1.2.2 i k).2 0 (Qk a.1);simp_all
def Dm(co:PN)(cc:Nat)(dv:Value)(ts:Qy af)(q:ae)(db:Qy dB)(room n:Nat)(Nq:Qz)(w:U)(hts:aQ w co ts)(hls:dE n q w)(hok:CaseOk ts q db)(hs:bM w 0)(h1:1<=room)(h2:room<=1000)(hN:∀b,Nq b->b<M (H w))(h0:¬Nq 0)(hw0:0<M (H w)) :
  Calls V 6 #[.agg (caseA (Z co (N ts) cc) q dv),I J (room:Int)] w λe w'=>∃P k,e=Qv (Qw #[Y (O (aD P.pb 0)),Qr true])/\qB ts Nq q room w P k w':=by
 have f:co=none->cc=0:=λe=>by obtain⟨b,A,v,_⟩:=hts.2 0 (Qk hok.tabs.1);rw[e]at v;cases v
 have a:Qn (∀x,Bw w x->Calls V 15 #[Z co (N ts) cc,.agg q.cells,I J (room:Int)] x λe w'=>∃P k,e=Qv (Qw #[Y (O (aD P.pb 0)),I J 0])/\qB ts Nq q room x P k w'):=λx l=>
  Ty co cc ts q room Nq x (hts.below l) f (hls.at'.below l) hls.keys.2.2 hls.ord.2.2 (TL hok hls) (Jd l hs) (BJ hok) h1 h2 (λb h=>Zy (hN b h) l.size) h0 (Zy hw0 l.size)
 obtain⟨v0,m,p,v3,v4,v5,r,u⟩:∃v0 m p v3 v4 v5 r,q.cells=#[v0,m,p,v3,v4,v5,r]:=⟨_,_,_,_,_,_,_,rfl⟩;have g:caseA (Z co (N ts) cc) q dv=#[Z co (N ts) cc,v0,m,p,v3,v4,v5,r,dv]:=by have:caseA (Z co (N ts) cc) q dv=#[Z co (N ts) cc]++q.cells ++ #[dv]:=rfl;rw[this,u];rfl
 rw[g];rw[u]at a;obtain⟨B,C,d,j⟩:=bC w #[Z co (N ts) cc,v0,m,p,v3,v4,v5,r,dv] 29;obtain⟨a0,D,G,a3,a4,a5,K,L⟩:=j.k8;have t:=Zh d;have i:=a.o B d;clear hts hls hok hs h1 h2 hN h0 hw0 f a u g d j;go_enter func6,ntmps6;go_wp2_with fail;refine i.mono ?_;rintro e Q ⟨P,k,rfl,y⟩;have z:=Zh (y.elder t.o);clear i y a0 D G a3 a4 a5 K L;go_wp2;go_ret2;exact⟨P,k,rfl,z.o⟩
structure Duo(ts:Qy af)(w0:U)(a b:Lv)(Ma Mb:Qz)(σ τ:fU)(w:U):Prop where
 sa:∃Xq L,dI a.W a.f ts a.q Xq Ma w a.sb L σ/\∀c,Mb c->Xq c
 sb:∃Xq L,dI b.W b.f ts b.q Xq Mb w b.sb L τ/\∀c,Ma c->Xq c
 ca:w.cell? (aD a.pb 9)=O (Y (O (aD a.sb 0)))
 cb:w.cell? (aD b.pb 9)=O (Y (O (aD b.sb 0)))
 na:¬Ma a.pb/\¬Mb a.pb
 nb:¬Ma b.pb/\¬Mb b.pb
 apart:∀c,Ma c->¬Mb c
 la:∀c,Ma c->M (H w0)<=c
 lb:∀c,Mb c->M (H w0)<=c
 below:Bw w0 w
def Duo.swap(h:Duo ts w0 a b Ma Mb σ τ w):Duo ts w0 b a Mb Ma τ σ w:=
 ⟨h.sb,h.sa,h.cb,h.ca,h.nb.symm,h.na.symm,λc d e=>h.apart c e d,h.lb,h.la,h.below⟩
def Duo.step(h:Duo ts w0 a b Ma Mb σ τ w)(hb:Bw w w'):Duo ts w0 a b Ma Mb σ τ w':=by obtain⟨d,L,e,f⟩:=h.sa;obtain⟨g,K,i,j⟩:=h.sb;exact⟨⟨d,L,e.below hb,f⟩,⟨g,K,i.below hb,j⟩,cB hb h.ca,cB hb h.cb,h.na,h.nb,h.apart,h.la,h.lb,h.below.trans (hb.mono h.below.size)⟩
theorem Duo.went{σ':fU}(h:Duo ts w0 a b Ma Mb σ τ w){Xq:Qz}(hX:∀c,Mb c->Xq c)(hp:bU a.W a.f ts a.q Xq Ma w a.sb σ' w'):∃j,Duo ts w0 a b j Mb σ' τ w'/\Kept (λc=>¬Ma c) w w'/\∀c,j c->Ma c∨M (H w)<=c:=by
 obtain⟨v,X',n,m,g,C,i,y⟩:=hp;obtain⟨D,K,k,z⟩:=h.sb;have l:∀c,Mb c->c<M (H w):=λc d=>(k.lt (k.sub c d)).2;have r:=k.hz.below.size;have t:=k.other (Nq:=Ma) (N':=λc=>n c/\M (H w)<=c) z (λc d A=>h.apart c A d) g (λc d=>.inr d.2) (λc=>Iff.rfl) (λc d=>(m.lt (m.sub c d.1)).2) (λc d=>ZN r d.2);have B:a.pb<M (H w):=ZW h.ca;have u:b.pb<M (H w):=ZW h.cb;refine⟨n,⟨⟨X',v,m,λc d=>(y c).2 (.inl (hX c d))⟩,⟨_,K,t,λc d=>?_⟩,?_,?_,⟨λd=>?_,h.na.2⟩,⟨λd=>?_,h.nb.2⟩,λc d p=>?_,λc d=>?_,h.lb,?_⟩,g,i⟩
 .grind
 .exact Jl g h.ca h.na.1
 .exact Jl g h.cb h.nb.1
 .rcases i _ d with e|e
  .exact h.na.1 e
  .omega
 .rcases i _ d with e|e
  .exact h.nb.1 e
  .omega
 .rcases i _ d with e|e
  .exact h.apart c e p
  .have:=l c p;omega
 .rcases i _ d with e|e
  .exact h.la c e
  .exact ZN h.below.size e
 .exact h.below.trans (g.below h.below.size λc d e=>Qk (h.la c e))
def Duo.make{room:Nat}{w1 w2:U}(ha:qB ts (λ_=>False) q room w0 a Ma w1)(hb:qB ts (λc=>c=a.pb∨Ma c) q room w1 b Mb w2):Duo ts w0 a b Ma Mb (ed aZ ts a.q room) (ed aZ ts b.q room) w2:=by
 obtain⟨L,s⟩:=ha.se;obtain⟨K,t⟩:=hb.se;have e:∀c,Ma c->c<M (H w1):=λc d=>(s.lt (s.sub c d)).2;have f:∀c,Mb c->c<M (H w2):=λc d=>(t.lt (t.sub c d)).2;have g:=s.hz.below.size;have i:=s.other (Nq:=λ_=>False) (N':=Mb) (X':=λc=>((False∨c=a.pb)∨Ma c)∨Mb c) (w':=w2) (λc h=>h.elim) (λc _ h=>h) (ZP hb.below (λ_ h _=>h)) (λc h=>.inr (hb.new c h)) (λc=>Iff.rfl) f (λc h=>ZN g (hb.new c h));have l:a.pb<M (H w1):=ZW ha.cell;refine⟨⟨_,L,i,λc d=>.inr d⟩,⟨_,K,t,λc d=>.inl (.inl (.inr d))⟩,cB hb.below ha.cell,hb.cell,⟨ha.npb,λh=>?_⟩,⟨λh=>?_,hb.npb⟩,λc j k=>?_,ha.new,λc d=>ZN ha.below.size (hb.new c d),ha.below.trans (hb.below.mono ha.below.size)⟩
 .have:=hb.new _ h;omega
 .have:=e _ h;have:=hb.pb;omega
 .have:=e c j;have:=hb.new c k;omega
theorem Duo.runs(Ez:Env a.f ts a.q a.W)(h:Duo ts w0 a b Ma Mb σ τ w)(hok:Bp a.q σ)(n:Nat)(hn:n<=1000000)(tick:Int)(po:PN)(pc:Nat)(ps:Qx)(hpl:∀d,(runN aZ ts a.q (aB ts a.q) ps d 0 σ).status=1->d<n->N σ.picks+d<=8000)(hp:IntsAt w0 po ps)(hpb:∀c,po=O c->c.block<M (H w0)) :
  Calls V 8 #[Y (O (aD a.pb 0)),I J (n:Int),I J tick,Z po (N ps) pc] w λe w'=>∃g i,i = goT aZ ts a.q (aB ts a.q) ps n tick σ/\e=Qv (I J i.status)/\Duo ts w0 a b g Mb i τ w'/\Kept (λc=>¬Ma c) w w'/\∀c,g c->Ma c∨M (H w)<=c:=by
 obtain⟨v,L,s,m⟩:=h.sa;have k:=acR Ez s hok n hn tick ⟨po,pc,ps⟩ hpl (Q8 h.below hp) (λc t j=>by
  have l:=hpb c t;have u:=h.la _ j;omega)
 refine(Ud a.pb a.sb n tick po (N ps) pc w h.ca k (λe w' k=>by
  grind)).mono ?_
 rintro e w' ⟨i,l,rfl,p⟩;obtain⟨g,hd,r,j⟩:=h.went m p;exact⟨g,i,l,rfl,hd,r,j⟩
def Duo.run(Ez:Env a.f ts a.q a.W)(h:Duo ts w0 a b Ma Mb σ τ w)(hok:Bp a.q σ)(n:Nat)(hpl:N σ.picks+n<=900)(tick:Int)(po:PN)(pc:Nat)(ps:Qx)(hp:IntsAt w0 po ps)(hpb:∀c,po=O c->c.block<M (H w0)) :
  Calls V 8 #[Y (O (aD a.pb 0)),I J (n:Int),I J tick,Z po (N ps) pc] w λe w'=>∃g i,i = goT aZ ts a.q (aB ts a.q) ps n tick σ/\e=Qv (I J i.status)/\Duo ts w0 a b g Mb i τ w'/\Kept (λc=>¬Ma c) w w'/\∀c,g c->Ma c∨M (H w)<=c:=h.runs Ez hok n X tick po pc ps (λd _ _=>X) hp hpb
theorem Duo.bA{ts:Qy af}{w0:U}{a b:Lv}{Ma Mb:Qz}{σ τ:fU}{w:U}(Ez:Env a.f ts a.q a.W)(h:Duo ts w0 a b Ma Mb σ τ w)(hok:Bp a.q σ) :
  Calls V 18 #[Y (O (aD a.pb 0))] w λe w'=>∃j cap g,e=Qv (Qw #[Z j (N g) cap,I .u64 (σ.bA.d.cost:Int)])/\g.map dM=σ.bA.ns/\eU 138 (λc=>M (H w)<=c) (M (H w)) w' (Z j (N g) cap) g/\N g<=1000/\Bw w w':=by
 obtain⟨p,L,s,r⟩:=h.sa;refine(Oo a.pb a.sb w h.ca (TV Ez s hok.core.bA hok.core.small (Fq:=λc=>M (H w)<=c) (λ_ h=>h)) (λe w' n=>by
  obtain⟨v,g,i,_⟩:=n;exact⟨_,_,i⟩)).mono ?_
 rintro e w' ⟨v,g,rfl,l,m,t⟩;have k:N g<=1000:=by have i:=congrArg N l;rw[ZH]at i;have:=hok.core.small;omega
 obtain⟨j,cap,rfl,_⟩:=m.plan k;grind
def Duo.steps(h:Duo ts w0 a b Ma Mb σ τ w) :
  Ce 10 #[Y (O (aD a.pb 0))] w (I J (N σ.picks:Int)):=by
 obtain⟨t,L,s,u⟩:=h.sa;obtain⟨v0,v,y,v3,v4,v5,z,A,B,v9,l,m,n,p,-⟩:=XY a.f ts a.q;have d:∃k cap,L.pv=Z k (N σ.picks) cap:=by
  rcases s.pk.2 with⟨e,h0⟩|⟨g,cap,cur,e,_⟩
  .exact⟨none,0,by rw[e,h0]⟩
  .exact⟨_,_,e⟩
 obtain⟨k,cap,d⟩:=d;have j:=s.cells p;have i:=j.at 17;rw[d]at i;exact Ky a.pb a.sb w h.ca (NF a.sb k (N σ.picks) cap w i) (λe w' r=>⟨_,r.1⟩)
structure Both(ts:Qy af)(w0:U)(po:PN)(ps:Qx)(q:ae)(a b:Lv):Prop where
 ea:Env a.f ts a.q a.W
 eb:Env b.f ts b.q b.W
 qa:aX q a.q
 qb:aX q b.q
 ps:IntsAt w0 po ps
 pb:∀c,po=O c->c.block<M (H w0)
def qB.lt{ts:Qy af}{Nq:Qz}{q:ae}{room:Nat}{w:U}{P:Lv}{Mq:Qz}{w':U}(h:qB ts Nq q room w P Mq w'){c:Nat}(hc:c=P.pb∨Mq c):c<M (H w'):=by
 rcases hc with rfl|hc
 .exact ZW h.cell
 .obtain⟨L,s⟩:=h.se;exact(s.lt (s.sub c hc)).2
theorem eU.atd{Tn:TypeId}{Fq:Qz}{base:Nat}{v:Value}(h:eU Tn Fq base w v nv):∀i,i<N nv->(nv.getD i nz).co.xs.length<=(nv.getD i nz).co.cap:=λi a=>by refine(h.lists _ ?_).2.2.2.2;grind
def BF.told{t:aP}(h:BF ts q t)(hc:q.check ts=0)(hn:nv.map dM=t.ns):zW ts q nv=t.d.cost/\Pw ts q nv=0:=by obtain⟨e,a,b⟩:=h.cost hn;unfold zW Pw;rw[Zb hc,Zb hc,a];exact⟨b,rfl⟩
def OI(Ez:Env a.f ts a.q a.W)(h:Duo ts w0 a b Ma Mb σ τ w)(hok:Bp a.q σ)(co:PN)(cc:Nat)(dv:Value)(q:ae)(hts:aQ w0 co ts)(hq:q.At w0)(hkc:N q.keys.xs<=q.keys.cap)(hoc:N q.ord.xs<=q.ord.cap)(hs:bM w0 0)(Bz:q.check ts=0)(hbf:BF ts q σ.bA) :
  Cb 9 #[.agg (caseA (Z co (N ts) cc) q dv),Y (O (aD a.pb 0))] w (Qw #[I .u64 (σ.bA.d.cost:Int),Qr true]):=by
 obtain⟨v0,B,D,v3,v4,v5,G,Q⟩:∃v0 B D v3 v4 v5 G,q.cells=#[v0,B,D,v3,v4,v5,G]:=⟨_,_,_,_,_,_,_,rfl⟩;have n:caseA (Z co (N ts) cc) q dv=#[Z co (N ts) cc,v0,B,D,v3,v4,v5,G,dv]:=by have:caseA (Z co (N ts) cc) q dv=#[Z co (N ts) cc]++q.cells ++ #[dv]:=rfl;rw[this,Q];rfl
 rw[n];have K:Qn (∀x (m:PN) (cap:Nat) (g:Qy ai),Bw w x->jD x m g->(∀i,i<N g->(g.getD i nz).co.xs.length<=(g.getD i nz).co.cap)->g.map dM=σ.bA.ns->Cb 19 #[Z co (N ts) cc,.agg q.cells,Z m (N g) cap] x (Qw #[I .u64 (σ.bA.d.cost:Int),I J 0])):=λx m cap g hb hn A hp=>by have k:=az h.below hb;have:=Dv co cc ts q m cap g x (hts.below k) (hq.below k) hkc hoc hn (Jd k hs) A;obtain⟨e1,e2⟩:=hbf.told Bz hp;rw[e1,e2]at this;exact this
 rw[Q]at K;obtain⟨w1,S,l,u⟩:=bC w #[Z co (N ts) cc,v0,B,D,v3,v4,v5,G,dv] 29;obtain⟨a0,a1,a2,a3,a4,a5,a6,a7⟩:=u.k8;have p:=Zh l;have r:=(h.step l).bA Ez hok;clear hts hq hkc hoc hs Bz hbf hok Ez h Q n l u;generalize σ.bA.d.cost=C,σ.bA.ns=R at*;go_enter func9,ntmps9;go_wp2_with fail;refine r.mono ?_;rintro e w2 ⟨m,cap,g,rfl,v,hK,hl,j⟩;obtain⟨ag,aa,ev,y⟩:=hK.plan hl;injection ev with ev1 ev2 ev3;subst ev1;clear ev2 ev3;have t:=K.o w2 m cap g (az p.o j) y hK.atd v;obtain⟨d0,d1,d2,d3,d4,d5,d6,d7⟩:=kS j a0 a1 a2 a3 a4 a5 a6 a7;have L:=Zh (az p.o j);clear r v hK hl j y K S a0 a1 a2 a3 a4 a5 a6 a7;go_wp2_with fail;refine t.mono ?_;rintro e w3 ⟨rfl,z⟩;have P:=Zh (az L.o z);clear t z d0 d1 d2 d3 d4 d5 d6 d7;go_wp2;go_ret2;exact⟨rfl,P.o⟩
def Lb(lo:PN)(lc:Nat)(l:Qx)(n1 n2 n3:Int)(po:PN)(pc:Nat)(ps:Qx)(W:U)(hI:IntsAt W lo l)(hR:∀x∈l,-9223372036854775808<=x/\x<=9223372036854775807)(hB:∀a,lo=O a->a.block<M (H W))(hP:IntsAt W po ps)(hPB:∀a,po=O a->a.block<M (H W))(hS:bM W 0)
  (h1:-9223372036854775808<=n1/\n1<=9223372036854775807) (h2:-9223372036854775808<=n2/\n2<=9223372036854775807) (h3:-9223372036854775808<=n3/\n3<=9223372036854775807) :
  Calls V 3 #[Z lo (N l) lc,I J n1,I J n2,I J n3,Z po (N ps) pc] W λe W'=>e=Qv (Qr true)/\Bw W W':=by
 have hm:=YH lo lc l W hI hR hB;have HP:Qn (IntsAt W po ps/\∀a,po=O a->a.block<M (H W)):=⟨hP,hPB⟩;have HS:Qn (bM W 0/\0<M (H W)):=⟨hS,ZW (hS 0 _ rfl)⟩;have oU:Qn (∀x:U,Ce 5 #[I J n1,I J 1000] x (I J (lQ n1 1000))):=λx=>sM n1 1000 x X h1;have qP:Qn (∀x:U,Ce 5 #[I J n2,I J 200] x (I J (lQ n2 200))):=λx=>sM n2 200 x X h2;have qN:Qn (∀x:U,Ce 5 #[I J n3,I J 400] x (I J (lQ n3 400))):=λx=>sM n3 400 x X h3;obtain⟨r,hr,aM⟩:∃n:Nat,lQ n1 1000=(n:Int)/\n<1000:=by have:=nN (c:=n1) (n:=1000) X;exact⟨(lQ n1 1000).toNat,X,X⟩
 obtain⟨n,hn,aN⟩:∃n:Nat,lQ n2 200=(n:Int)/\n<200:=by have:=nN (c:=n2) (n:=200) X;exact⟨(lQ n2 200).toNat,X,X⟩
 obtain⟨m,aO,aP⟩:∃n:Nat,lQ n3 400=(n:Int)/\n<400:=by have:=nN (c:=n3) (n:=400) X;exact⟨(lQ n3 400).toNat,X,X⟩
 rw[hr]at oU;rw[hn]at qP;rw[aO]at qN;have aI:Qn (r<1000/\n<200/\m<400):=⟨aM,aN,aP⟩;obtain⟨R,hR⟩:=eY (r+1:Nat);obtain⟨S2,aQ⟩:=eY (n+m:Nat);have bn:Qn (wrap64 (1+(r:Int))=(R:Int)):=by show _=_;unfold wrap64;omega
 have bq:=Zh (by  unfold wrap64;omega:wrap64 ((n:Int)+(m:Int))=(S2:Int))
 have u:Qn (1<=R/\R<=1000/\S2=n+m):=⟨X,X,aQ⟩;clear hR aQ;clear hI hR hB hP hPB hS h1 h2 h3 hr hn aO aM aN aP;go_enter func3,ntmps3;go_wp2_with fail;refine hm.mono ?_;rintro e w1 ⟨ts,q,db,co,d,cc,dc,rfl,ay,aR,bu,bz,aS,K7,aT⟩;obtain⟨x0,y0,z0,x1,y1,z1,g0,x3,y3,z3,x4,y4,z4,x5,y5,z5,x6,y6,z6,uO⟩:∃x0 y0 z0 x1 y1 z1 g0 x3 y3 z3 x4 y4 z4 x5 y5 z5 x6 y6 z6,q.cells=#[(Z x0 y0 z0),(Z x1 y1 z1),(Qr g0),(Z x3 y3 z3),(Z x4 y4 z4),(Z x5 y5 z5),(Z x6 y6 z6)]:=⟨_,_,_,_,_,_,_,_,_,_,_,_,_,_,_,_,_,_,_,rfl⟩;have aa:caseA (Z co (N ts) cc) q (Z d (N db) dc)=#[Z co (N ts) cc,(Z x0 y0 z0),(Z x1 y1 z1),(Qr g0),(Z x3 y3 z3),(Z x4 y4 z4),(Z x5 y5 z5),(Z x6 y6 z6),Z d (N db) dc]:=by have:caseA (Z co (N ts) cc) q (Z d (N db) dc)=#[Z co (N ts) cc]++q.cells ++ #[Z d (N db) dc]:=rfl;rw[this,uO];rfl
 obtain⟨W2,aU,ag,aA⟩:=bC w1 #[Z co (N ts) cc,(Z x0 y0 z0),(Z x1 y1 z1),(Qr g0),(Z x3 y3 z3),(Z x4 y4 z4),(Z x5 y5 z5),(Z x6 y6 z6),Z d (N db) dc] 29;have C:=az aT ag;have Gf:=aS.keep (ZP (s:=λ_=>True) ag (λb hb _=>hb)) (λ_ _=>trivial);have Bz:=BJ ay;have ak:=aR.below ag;have FZ:Qn (∀x Nq,Bw W2 x->(∀b,Nq b->b<M (H x))->¬Nq 0->Calls V 6 #[.agg #[Z co (N ts) cc,(Z x0 y0 z0),(Z x1 y1 z1),(Qr g0),(Z x3 y3 z3),(Z x4 y4 z4),(Z x5 y5 z5),(Z x6 y6 z6),Z d (N db) dc],I J (R:Int)] x λe w'=>∃P Mq,e=Qv (Qw #[Y (O (aD P.pb 0)),Qr true])/\qB ts Nq q R x P Mq w'):=λx Nq hb hN h0=>by rw[<-aa];exact Dm co cc (Z d (N db) dc) ts q db R (M (H W)) Nq x (ak.below hb) (Gf.keep (ZP (s:=λ_=>True) hb (λb hb _=>hb)) (λ_ _=>trivial)) ay (Jd (az C hb) HS.o.1) u.o.1 u.o.2.1 hN h0 (Zy HS.o.2 (az C hb).size)
 have Ei:Qn (∀(a b:Lv) (Ma Mb:Qz) (σ τ:fU) (x:U),Env a.f ts a.q a.W->Duo ts W2 a b Ma Mb σ τ x->Bp a.q σ->BF ts q σ.bA->Cb 9 #[.agg #[Z co (N ts) cc,(Z x0 y0 z0),(Z x1 y1 z1),(Qr g0),(Z x3 y3 z3),(Z x4 y4 z4),(Z x5 y5 z5),(Z x6 y6 z6),Z d (N db) dc],Y (O (aD a.pb 0))] x (Qw #[I .u64 (σ.bA.d.cost:Int),Qr true])):=λa b Ma Mb σ τ x Ez h ok bf=>by rw[<-aa];exact OI Ez h ok co cc (Z d (N db) dc) q ak Gf.at' Gf.keys.2.2 Gf.ord.2.2 (Jd C HS.o.1) Bz bf
 obtain⟨ah,ai,t⟩:=jX (ama Bz) C aA.lt;obtain⟨c0,c1,c2,c3,c4,c5,c6,c7,c8⟩:=aA.k9;clear hm ay aR ak bu bz aS K7 aT ag aA C Gf uO Bz;rw[aa];clear aa;go_upto_region 2 with fail;try rw[aU]
 clear aU;go_wp2_with fail;refine(oU.o W2).mono ?_;rintro e Q ⟨rfl,v⟩;rw[v];clear v Q;have D:=FZ.o W2 (λ_=>False) (Q9 _ _) (λ_ h=>h.elim) (λh=>h);go_wp2_with fail;rw[bn.o];refine D.mono ?_;rintro e w3 ⟨a,Ma,rfl,z⟩;clear D;have D:=FZ.o w3 (λc=>c=a.pb∨Ma c) z.below (λc hc=>z.lt hc) (λh=>by
  have g0:=HS.o.2;have g1:=ai.o.size;rcases h with h|h
  .have:=z.pb;omega
  .have:=z.new 0 h;omega)
 have HA:=Zh z;obtain⟨d0,d1,d2,d3,d4,d5,d6,d7⟩:=kS z.below c0 c1 c2 c3 c4 c5 c6 c7;have d8:=cB z.below c8;clear z c0 c1 c2 c3 c4 c5 c6 c7 c8;go_wp2_with fail;refine D.mono ?_;rintro e w4 ⟨b,Mb,rfl,hB⟩;have au:=Duo.make HA.o hB;obtain⟨σ,hσ⟩:=eY (ed aZ ts q R);rw[HA.o.same.ed aZ ts R,hB.same.ed aZ ts R,<-hσ]at au;have aJ:=Zh au;have p:Qn (Both ts W2 po ps q a b):=⟨HA.o.env,hB.env,HA.o.same,hB.same,Q8 ai.o HP.o.1,λc hc=>Zy (HP.o.2 c hc) ai.o.size⟩;have y:Qn (Bp a.q σ/\Bp b.q σ/\Bp q σ/\SF ts q σ/\σ.picks=[]):=by
  have S:=ah.o;refine⟨?_,?_,?_,?_,by rw[hσ];rfl⟩
  .rw[hσ,<-HA.o.same.ed aZ ts R];exact yG aZ ts a.q R (by rw[HA.o.same.src];exact S.one) (by rw[HA.o.same.src];exact S.five) (by rw[HA.o.same.len];exact S.eight) u.o.1
  .rw[hσ,<-hB.same.ed aZ ts R];exact yG aZ ts b.q R (by rw[hB.same.src];exact S.one) (by rw[hB.same.src];exact S.five) (by rw[hB.same.len];exact S.eight) u.o.1
  .rw[hσ];exact yG aZ ts q R S.one S.five S.eight u.o.1
  .rw[hσ];exact aam S aZ R
 obtain⟨e0,e1,e2,e3,e4,e5,e6,e7⟩:=kS hB.below d0 d1 d2 d3 d4 d5 d6 d7;have e8:=cB hB.below d8;clear au hB D HA FZ HP HS d0 d1 d2 d3 d4 d5 d6 d7 d8 hσ;go_wp2_with fail;refine(UF w4).mono ?_;rintro e w5 ⟨rfl,aj⟩;have g:=Zh (aJ.o.step aj);obtain⟨f0,f1,f2,f3,f4,f5,f6,f7⟩:=kS aj e0 e1 e2 e3 e4 e5 e6 e7;have f8:=cB aj e8;clear aj aJ e0 e1 e2 e3 e4 e5 e6 e7 e8;go_wp2_with fail;refine(qP.o w5).mono ?_;rintro e Q ⟨rfl,v⟩;rw[v];clear v Q;have G:=g.o.run p.o.ea y.o.1 n (by rw[y.o.2.2.2.2];have:=aI.o.2.1;simp;omega) (-1) po pc ps p.o.ps p.o.pb;go_wp2_with fail;refine G.mono ?_;rintro e w6 ⟨aV,σ1,aC,rfl,aW,j,-⟩;rw[p.o.qa.goT aZ ts,p.o.qa.conc ts,Gj X]at aC;have i:=Zh aW;have L:Qn (σ1=runN aZ ts q (dU ts q) ps n 0 σ):=aC;have k0:=Jl j f0 (λh=>Ql (g.o.la _ h) t.o);have k1:=Jl j f1 (λh=>Ql (g.o.la _ h) t.o);have k2:=Jl j f2 (λh=>Ql (g.o.la _ h) t.o);have k3:=Jl j f3 (λh=>Ql (g.o.la _ h) t.o);have k4:=Jl j f4 (λh=>Ql (g.o.la _ h) t.o);have k5:=Jl j f5 (λh=>Ql (g.o.la _ h) t.o);have k6:=Jl j f6 (λh=>Ql (g.o.la _ h) t.o);have k7:=Jl j f7 (λh=>Ql (g.o.la _ h) t.o);have k8:=Jl j f8 (λh=>Ql (g.o.la _ h) t.o);clear G aC aW j g f0 f1 f2 f3 f4 f5 f6 f7 f8;go_wp2_with fail;refine(qN.o w6).mono ?_;rintro e Q ⟨rfl,v⟩;rw[v];clear v Q;have G:=i.o.swap.run p.o.eb y.o.2.1 S2 (by rw[y.o.2.2.2.2];have:=aI.o;have:=u.o;simp;omega) (-1) po pc ps p.o.ps p.o.pb;go_wp2_with fail;rw[bq.o];refine G.mono ?_;rintro e w7 ⟨aX,τ1,aF,rfl,aY,k,-⟩;rw[p.o.qb.goT aZ ts,p.o.qb.conc ts,Gj X]at aF;have av:=Zh aY.swap;have ae:Qn (τ1=runN aZ ts q (dU ts q) ps S2 0 σ):=aF;have Sz:Qn (Bp a.q σ1/\Bp b.q τ1/\BF ts q σ1.bA/\BF ts q τ1.bA):=by
  refine⟨?_,?_,?_,?_⟩
  .rw[L.o]
   show Bp a.q (runN aZ ts q (aB ts q) ps n 0 σ);rw[<-p.o.qa.runN aZ ts,<-p.o.qa.conc ts];exact(sN (XC ts a.q) p.o.ea.five ps y.o.1 n).1
  .rw[ae.o]
   show Bp b.q (runN aZ ts q (aB ts q) ps S2 0 σ);rw[<-p.o.qb.runN aZ ts,<-p.o.qb.conc ts];exact(sN (XC ts b.q) p.o.eb.five ps y.o.2.1 S2).1
  .rw[L.o];exact(OH ah.o ps y.o.2.2.1 y.o.2.2.2.1 n).bA
  .rw[ae.o];exact(OH ah.o ps y.o.2.2.1 y.o.2.2.2.1 S2).bA
 have aK:Qn (τ1.bA.d.cost<=σ1.bA.d.cost/\N σ1.picks<=n/\N σ1.picks<=N τ1.picks):=by have g1:=aan aZ ts q (dU ts q) ps σ n m;have g2:=(sN (rk:=aZ) (ts:=ts) (fZ ts q) ah.o.five ps y.o.2.2.1 n).2;rw[<-u.o.2.2,<-L.o,<-ae.o]at g1;rw[<-L.o,y.o.2.2.2.2]at g2;simp at g2;exact⟨g1.1,g2,g1.2⟩
 have m0:=Jl k k0 (λh=>Ql (i.o.lb _ h) t.o);have m1:=Jl k k1 (λh=>Ql (i.o.lb _ h) t.o);have m2:=Jl k k2 (λh=>Ql (i.o.lb _ h) t.o);have m3:=Jl k k3 (λh=>Ql (i.o.lb _ h) t.o);have m4:=Jl k k4 (λh=>Ql (i.o.lb _ h) t.o);have m5:=Jl k k5 (λh=>Ql (i.o.lb _ h) t.o);have m6:=Jl k k6 (λh=>Ql (i.o.lb _ h) t.o);have m7:=Jl k k7 (λh=>Ql (i.o.lb _ h) t.o);have m8:=Jl k k8 (λh=>Ql (i.o.lb _ h) t.o);clear G aF aY k i L ae k0 k1 k2 k3 k4 k5 k6 k7 k8;have Sr:=Ei.o a b aV aX σ1 τ1 w7 p.o.ea av.o Sz.o.1 Sz.o.2.2.1;go_wp2_with fail;refine Sr.mono ?_;rintro e w8 ⟨rfl,JN⟩;have ax:=Zh (av.o.step JN);obtain⟨p0,p1,p2,p3,p4,p5,p6,p7⟩:=kS JN m0 m1 m2 m3 m4 m5 m6 m7;have p8:=cB JN m8;clear Sr JN av m0 m1 m2 m3 m4 m5 m6 m7 m8;have Sr:=Ei.o b a aX aV τ1 σ1 w8 p.o.eb ax.o.swap Sz.o.2.1 Sz.o.2.2.2;go_wp2_with fail;refine Sr.mono ?_;rintro e w9 ⟨rfl,bg⟩;have af:=Zh (ax.o.step bg);clear Sr bg ax Ei p0 p1 p2 p3 p4 p5 p6 p7 p8;go_wp2_with fail;refine af.o.steps.mono ?_;rintro e aG ⟨rfl,v⟩;rw[v];clear v aG;go_wp2_with fail;refine af.o.swap.steps.mono ?_;rintro e aG ⟨rfl,v⟩;rw[v];clear v aG;obtain⟨A,z⟩:=eY (σ1.bA.d.cost:Nat);obtain⟨B,hB⟩:=eY (τ1.bA.d.cost:Nat);obtain⟨K,hK⟩:=eY (N σ1.picks:Nat);obtain⟨K2,aH⟩:=eY (N τ1.picks:Nat);rw[<-z,<-hB,<-hK,<-aH];have aL:=aK.o;rw[<-z,<-hB,<-hK,<-aH]at aL;obtain⟨u1,u2,u3⟩:=aL;have jK:=Zh (az ai.o af.o.below);clear z hB hK aH aK af;go_wp2;go_ret;exact⟨rfl,jK.o⟩
