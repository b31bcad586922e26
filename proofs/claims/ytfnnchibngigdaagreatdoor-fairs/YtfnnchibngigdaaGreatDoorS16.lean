import Derived.Test.YtfnnchibngigdaaGreatDoorS15
set_option linter.all false
set_option maxRecDepth 100000
set_option maxHeartbeats 0
namespace Go.Proofs.Zz
open Go.RowKit Go.Shelf
open List renaming length->N,getD->E
open Go.Value renaming slice->Z,int->I,bool->Qo
open Go.Proofs.Tryz renaming prog->V
open Option renaming some->O
open Bool renaming false->F
open Go renaming World->U
def Tryz.A8:(V.info? 65).map (λi=>(i.zero,i.size,i.bytes))=O (O (.agg #[I .i64 0,I .u64 0,I .u64 0,Z none 0 0,I .u64 0,I .u64 0]),6,64):=Qe
theorem yH(W:U)(base:Nat)(v:Value)(ps:Qu aC)(hown:W.ownsRow base 65 6 v (N ps) (ps.flatMap aC.list))(hl:N ps<=1000)(hb:base<=W.heap.size)(p:aC)(ty:TypeId) :
  ∃d e,(Builtin.append_ #[61,61] ty #[v,Z (O (aD W.heap.size 0)) 1 1]).run V (W.alloc (.cells p.cells 65))=.ok d e/\
   e.ownsRow base 65 6 d (N (ps++[p])) ((ps++[p]).flatMap aC.list)/\Kept (λb=>v.ownBlock≠O b) W e/\(∃a m c,d = Z a m c)/\(d.ownBlock=v.ownBlock∨d.ownBlock=O (W.heap.size+1)):=by
 obtain⟨l,n,f,g,i⟩:=Xe Tryz.A8;obtain⟨d,e,q,y,r,t,j⟩:=qz (P:=V) W base 61 ty 65 l _ 6 64 Tryz.underlying61 n f g i rfl Qd v (N ps) _ hown hb p.list rfl (λu k=>by
  unfold aC.list ai.val at k;simp at k;rcases k with rfl|rfl|rfl|rfl|rfl|rfl <;> rfl) hl Qd
 exact⟨d,e,q,Qc,r,t,j⟩
def qK{P Q C:Prop}(v:Value)(c:C)(k:Q)(h:Wv v->C->Q->P:=by
  intro b c d;go_big_quiet_want;refine OO b ⟨λx a=>?_,?_⟩
  .have e:=Zb a (c x a);go_simp
  .simp only[pU];go_big_quiet_on;exact d):P:=h trivial c k
def Kt(f:bq)(ts:Qu af)(q:ae)(n:ag)(ao:JW)(cap:Nat)(ps:Qu aC)(w:U)(ok:Ok ts q)(hf:f.At ts q w)(hcl:n.cl.At w)(hco:n.co.At w)(hcap:N n.co.xs<=n.co.cap)(hp:PartsAt w ao ps)(hk1:1<=n.kind)(hk10:n.kind<=10)(hl:N ps=arity n.kind) :
  Cb 50 #[.agg (f.cells ts q),.agg n.cells,Z ao (N ps) cap] w (Qo (eB ts q n (E ps 0 aR).d (E ps 1 aR).d)):=by
 obtain⟨v0,v1,v2,v3,v4,v5,v6,v7,v8,v9,aI,aJ,aK,jW,ak,au,av,ax,ay,az,aA,-⟩:=dX f ts q;obtain⟨w1,aa,aj,C⟩:=aY w (f.cells ts q) 60;obtain⟨t,aB,D,G⟩:=aY w1 n.cells 52;have k:=ah aj D;have W:=Zh k;have HG:=Zh λ(x:U) (a:Bw t x)=>And.intro (C.of ((ah D a).block _ C.lt)) (And.intro (G.of (a.block _ G.lt)) (hp.below (ah k a)));have j:=λh=>(hp.below k).2 0 h |>.2;have X6:=λh=>(hp.below k).2 1 h |>.2;have aF:=hp.1;obtain⟨b,Ho⟩:=eY (eB ts q n (E ps 0 aR).d (E ps 1 aR).d);rw[<-Ho];have Sn:=Zh λ(h:0<N ps) (x:U) (a:Bw t x)=>mY f ts q n.cl.ad n.cl.cap n.cl.xs (E ps 0 aR).sources x ok (hf.below (ah k a)) (Q7 (ah k a) hcl) (by have:=(j h).sources;unfold aH at this;omega);have v:=Zh λ(h:0<N ps) (x:U) (a:Bw t x)=>zw f ts q n.co.ad n.co.cap n.co.xs (E ps 0 aR).sources x ok (dW.below (ah k a) hf.aO) (Q7 (ah k a) hco) hcap (by have:=(j h).sources;unfold aH at this;omega);have Rb:=Zh λ(h:1<N ps) (x:U) (a:Bw t x)=>qH f ts q n (E ps 0 aR) (E ps 1 aR) x ok (hf.below (ah k a)) (Q7 (ah k a) hcl) (j X).sources (X6 h).sources;have A:=Zh λ(h:1<N ps) (x:U) (a:Bw t x)=>ng f ts q n (E ps 0 aR) (E ps 1 aR) x ok (hf.below (ah k a)) (Q7 (ah k a) hcl) (j X).sources (X6 h).sources;have B:=Zh λ(h:1<N ps) (x:U) (a:Bw t x)=>xk f ts q n (E ps 0 aR) (E ps 1 aR) x ok (hf.below (ah k a)) (Q7 (ah k a) hcl) ((j X).below a) ((X6 h).below a);have u:=Zh λ(x:U) (_:Bw t x)=>Aw f ts q (E ps 0 aR) x;have Uz:=Zh λ(h:0<N ps) (x:U) (a:Bw t x)=>lV (E ps 0 aR).order.ad q.keys.ad (E ps 0 aR).order.cap q.keys.cap (E ps 0 aR).order.xs q.keys.xs x (Q7 a (j h).order) (Q7 (ah k a) hf.query.keys) (j h).cap;have l:=Zh Ho;obtain⟨L,hL⟩:=eX (E ps 0 aR);obtain⟨R,hR⟩:=eX (E ps 1 aR);rw[hL]at Sn v u Uz;rw[hL,hR]at Rb A B l;rw[jW]at aa HG Sn v Rb A B u ⊢;clear ok hf hcl hco hcap hp k aj D C G j X6 jW Ho;obtain⟨nk,nl,nr,ns,⟨ca,cc,K⟩,key,⟨da,dc,co⟩⟩:=n;obtain⟨lk,S,aL,⟨la,aN,lx⟩,lz,aP⟩:=L;obtain⟨rk,rs,aQ,⟨ra,aS,rx⟩,rz,aT⟩:=R;obtain⟨G1,G2,P⟩:=HG.o t (Q5 _ _);obtain⟨dZ,fq,gm,fD,fE,gp,gq,mi,mg,mh,fP,jc,fQ⟩:=G1.k13;obtain⟨vB,uZ,ve,CZ,vg,Db,Hm⟩:=G2.k7;simp only[aC.cells,ag.cells,ai.val]at*;subst ak av ax aA;clear au ay az;go_enter Tryz.func50,Tryz.ntmps50;go_upto_region 2 with fail;clear aa aB;rcases (by omega:nk=1∨nk=2∨nk=3∨nk=4∨nk=5∨nk=6∨nk=7∨nk=8∨nk=9∨nk=10) with rfl|rfl|rfl|rfl|rfl|rfl|rfl|rfl|rfl|rfl
 all_goals
  clear hk1 hk10;try
   have r:0<N ps:=by rw[hl];decide
   obtain⟨⟨pb,po,rfl,c0,c1,c2,c3,c4,c5⟩,-⟩:=P.2 0 r;simp only[hL,Xr,Z4,ai.val]at c0 c1 c2 c3 c4 c5;try
    have p:1<N ps:=by rw[hl];decide
    obtain⟨⟨_,_,e,d0,d1,d2,d3,d4,d5⟩,-⟩:=P.2 1 p;cases e;have aG:(1:Int)<(N ps:Int):=X;simp only[hR,Nat.one_mul,ai.val]at d0 d1 d2 d3 d4 d5
  clear hl P G1 G2
 case' _=>
  by_cases z:0<=ns
  case' pos=>by_cases y:ns<(N q.src.xs:Int)
  all_goals
   go_wp2;go_ret;exact⟨QV (l.o.trans (by simp[eB];omega)).symm,W.o⟩
 case' _=>
  have i:=Zh (Sn.o r);have m:Hid (b=(decide (0<N K)&&dU ts q K S)):=l.o;generalize dU ts q K S=RB at*;go_upto_region 5 with fail;refine Za ?_;by_cases z:0<N K
  case' pos=>
   replace m:Hid (b=RB):=m.o.trans (by simp[z])
   refine OU ?_;refine uK ?_;refine qK (Qo RB) i.o ?_
  case' neg=>
   replace m:Hid (b=F):=m.o.trans (by simp[z])
   obtain rfl:K=[]:=Zj X;simp only[XB]at*;refine qS (.pointer (O (aD w1.heap.size 4))) ?_;refine qC (Z ca 0 cc) vg ?_;refine qS (I .i64 0) ?_;refine qS (Qo F) ?_;go_big_quiet_want;refine⟨Qo F,λx a=>?_,?_⟩
   .go_simp
   simp only[pU];go_big_quiet_on;iterate 8 (go_big_quiet_skip;try simp only[pU])
  all_goals
   clear z;refine uK ?_
 rotate_left 2
 case' _=>
  have i:=Zh (Rb.o p);have m:Hid (b=fM ts q ⟨3,nl,nr,ns,⟨ca,cc,K⟩,key,⟨da,dc,co⟩⟩ S rs):=l.o;generalize fM ts q ⟨3,nl,nr,ns,⟨ca,cc,K⟩,key,⟨da,dc,co⟩⟩ S rs=RB at*;go_upto_region 7 with fail;refine Za ?_;refine Si ?_;refine qK (Qo RB) i.o ?_;refine eT ?_
 rotate_left 1
 case' _=>
  have i:=Zh (A.o p);have m:Hid (b=((jh ts q _ _ _).2.2&&fM ts q _ _ _)):=l.o;clear l;simp only[aC.d]at m;generalize fM ts q _ _ _=RB,jh ts q _ _ _=KP at*;obtain⟨ka,kb,kc⟩:=KP;go_upto_region 9 with fail;refine Za ?_;refine Si ?_;refine qK (.tuple #[I .i64 ka,I .i64 kb,Qo kc]) i.o ?_;refine L8 ?_;refine uK ?_;refine Xo ?_;intro wE Q;clear dZ fq gm fD fE gp gq mi mg mh fP jc fQ vB uZ ve CZ vg Db Hm c0 c1 c2 c3 c4 c5 d0 d1 d2 d3 d4 d5 i;obtain⟨G1,G2,P⟩:=HG.o wE Q;obtain⟨dZ,fq,gm,fD,fE,gp,gq,mi,mg,mh,fP,jc,fQ⟩:=G1.k13;obtain⟨vB,uZ,ve,CZ,vg,Db,Hm⟩:=G2.k7;obtain⟨⟨_,_,e,c0,c1,c2,c3,c4,c5⟩,-⟩:=P.2 0 r;cases e;obtain⟨⟨_,_,e,d0,d1,d2,d3,d4,d5⟩,-⟩:=P.2 1 p;cases e;simp only[hL,hR,Xr,Z4,Nat.one_mul,ai.val]at c0 c1 c2 c3 c4 c5 d0 d1 d2 d3 d4 d5;have i:=Zh λ(x:U) (a:Bw wE x)=>Rb.o p x (ah Q a)
  replace W:=Zh (ah W.o Q)
  clear Q G1 G2 P;go_upto_region 10 with fail;refine Za ?_;cases kc
  case' true=>
   refine OU ?_;refine qK (Qo RB) i.o ?_
  case' false=>
   refine qS (Qo F) ?_;go_big_quiet_want;refine⟨Qo F,λx a=>?_,?_⟩
   .go_simp
   simp only[pU];go_big_quiet_on;iterate 9 (go_big_quiet_skip;try simp only[pU])
  all_goals refine uK ?_
 rotate_left 2
 case' _=>
  obtain⟨i,m⟩:=bV (B.o p) l.o;change Hid (b=vF ts q _ _ _) at m;generalize vF ts q _ _ _=RB at*;go_upto_region 12 with fail;refine Za ?_;refine Si ?_;refine qK (Qo RB) i.o ?_;refine eT ?_
 rotate_left 1
 case' _=>
  have i:=Zh (v.o r);have m:Hid (b=oh ts q.src.xs co S):=l.o;generalize oh ts q.src.xs co S=RB at*;go_upto_region 14 with fail;refine Za ?_;refine Lp ?_;refine eT ?_;refine qK (Qo RB) i.o ?_;refine eT ?_
 rotate_left 1
 case' _=>
  have i:=Zh u.o;have m:Hid (b=(q.group&&eG q _)):=l.o;clear l u Uz;generalize eG q _=RB,q.group=g at*;go_upto_region 16 with fail;refine Za ?_;cases g
  case' true=>
   refine Si ?_;refine qK (Qo RB) i.o ?_
  case' false=>
   refine IJ ?_;iterate 5 (go_big_quiet_skip;try simp only[pU])
  all_goals refine uK ?_
 rotate_left 2
 case' _=>
  go_upto_region 18 with fail;refine Za ?_;obtain⟨i,HY⟩:=bV u.o (Uz.o r);have m:Hid (b=(q.group&&eG q _&&aM lx q.keys.xs)):=l.o;clear l u Uz;generalize aM lx q.keys.xs=SB,eG q _=RB,q.group=g at*;cases g
  case' false=>
   refine IJ ?_;iterate 5 (go_big_quiet_skip;try simp only[pU])
  case' true=>
   refine Si ?_;refine qK (Qo RB) i.o ?_;cases RB
   rotate_left 1
   refine uK ?_;refine Lp ?_;refine eT ?_;refine qK (Qo SB) HY.o ?_;refine uK ?_
   rotate_left 1
  all_goals
   try
    refine qS (Qo F) ?_;go_big_quiet_want;refine⟨Qo F,λx a=>?_,?_⟩
    .go_simp
    simp only[pU];go_big_quiet_on;iterate 8 (go_big_quiet_skip;try simp only[pU])
    refine uK ?_
 rotate_left 3
 case' _=>
  have i:=Zh u.o;have m:Hid (b=(!q.group&&eG q _)):=l.o;clear l u Uz;generalize eG q _=RB,q.group=g at*;go_upto_region 20 with fail;refine Za ?_;cases g
  case' false=>
   refine Si ?_;refine eT ?_;refine qK (Qo RB) i.o ?_
  case' true=>
   refine L8 ?_;iterate 5 (go_big_quiet_skip;try simp only[pU])
  all_goals refine uK ?_
 rotate_left 2
 case' _=>
  by_cases z:0<N q.ord.xs
  all_goals
   go_wp2;go_ret;exact⟨QV (l.o.trans (by simp[eB,z])).symm,W.o⟩
 all_goals
  refine Xo ?_;intro wE Q;have BP:=Zh (ah W.o Q);clear Q;go_wp2;go_ret;exact⟨QV m.o.symm,BP.o⟩
