import Derived.Test.YtjndadibondgbaaGreatDoorL10
set_option linter.all false
set_option maxRecDepth 100000
set_option maxHeartbeats 16000000
namespace Go.Proofs.Zz
open Go.RowKit Go.Shelf
variable {P:Program} {ops:Array Oper} {Q:Exit->Act->World->Prop} {l:Nat} {a:Act} {w:World}
theorem TT(hd:∀ o∈ops,∀ c,o.op ≠ .defer c)(hQ:¬ LetsOut Q){i:Nat}{K K':Act->World->Prop}(hK:∀ a w,K a w->K' a w)(h:wpOp P ops Q i K a w):wpOpIn (Fence.wide.inRound l) 0 P ops Q i K' a w:=by
 unfold wpOp at h;unfold wpOpIn
 cases ho:ops[i]? with
 | none => rw[ho]at h; exact hK _ _ h
 | some o =>
  rw[ho]at h;simp only at *;have f:=Array.mem_of_getElem? ho;by_cases d:Region.wanted o (yielded ops a.tmps)=true
  ·rw[Qu d]at *;rcases h with h | ⟨_,h⟩
   ·unfold Oper.wp at h;unfold Oper.wpIn;refine⟨fun _ _=>trivial,?_⟩;rw[Oper.semAt_plain (Fence.wide.inRound l) _ _ (hd o f)];generalize Sem.run P (execOp a.eval o) w=r at *;unfold Oper.upon at h;unfold Oper.uponIn;split at h
    ·exact hK _ _ h
    ·exact hK _ _ h
    ·exact hK _ _ h
    ·refine⟨fun h=>absurd h (by simp[Fence.wide,Fence.inRound]),Zl l (QZ.2 (h.mono fun e w' b=>?_))⟩
     cases e with
     | returned v => exact hK _ _ b
     | panicked c => exact b
     | outgrown => exact b
    ·exact⟨fun h=>absurd h (by simp[Fence.wide,Fence.inRound]),fun c cs _=>let ⟨v,w',r,s⟩:=h c cs; ⟨v,w',hK _ _ r,stepsIn_wide.2 s⟩⟩
    ·exact h
    ·exact h.elim
   ·exact absurd h hQ
  ·rw[Qv d]at *;exact⟨fun _ _=>trivial,hK _ _ h⟩
theorem BF{P:Program}{md:Region.Mode}{ops:Array Oper}{Q:Exit->Act->World->Prop}{l:Nat}(hd:∀ o∈ops,∀ c,o.op ≠ .defer c)(hQ:¬ LetsOut Q):∀ (fuel:Nat) (listed:Array Bool) (a:Act) (w:World),
  wpAny P md ops Q fuel listed a w->wpAnyIn (Fence.wide.inRound l) 0 P md ops Q fuel listed a w
 | 0,_,_,_,h => h
 | fuel+1,listed,a,w,h => ⟨h.1,fun i b => TT hd hQ (fun d w' e => BF hd hQ fuel _ d w' e) (h.2 i b)⟩
theorem su{S:World->Prop}{id:Nat}(hm:P.follows .mixedOrders=true)(hd:KH ops=true)(hQ:¬ LetsOut Q)
  (h:wpAnyH P .any ops Q S ops.size (Array.replicate ops.size false) a w.drew):(Code.region id ops true).wpIn (Fence.wide.inRound l) 0 P Q a w:=
 wpIn_region_any hm (BF (jG hd) hQ _ _ _ _ (wpAny_of_held _ _ _ _ h))
theorem EH(f:aS)(ts:List af)(q:ae):∃ v0 e g v3 v4 v5 i j k v9 a b d,f.cells ts q=#[v0,e,g,v3,v4,v5,i,j,k,v9,a,b,d]/\v0=q.src.val/\e=.slice q.bE q.wh.length q.aF/\g=.bool q.group/\v3=q.keys.val/\v4=q.sums.val/\v5=q.aK.val/\i=q.ord.val/\
  j=.slice f.ca (fZ ts q).length f.cc/\k=.int .u64 ((2 ^ q.src.xs.length-1:Nat):Int)/\v9=.int .u64 ((2 ^ q.wh.length-1:Nat):Int)/\a=.slice f.ra q.src.xs.length f.rc/\b=.slice f.na f.nl f.nc/\d=.slice f.pa f.pl f.pc:=
 ⟨_,_,_,_,_,_,_,_,_,_,_,_,_,rfl,rfl,rfl,rfl,rfl,rfl,rfl,rfl,rfl,rfl,rfl,rfl,rfl,rfl⟩
theorem uK(f:aS)(ts:List af)(q:ae)(p:aB)(w:World) :
  Cb 95 #[.agg (f.cells ts q),.agg p.cells] w (.bool (jq q p.d)):=by
 obtain⟨z,A,k,g⟩:=aR w ((f.cells ts q)) 70;obtain⟨H,C,l,m⟩:=aR z p.cells 75;have e:=l;have i:=aC k e;have n:=g.of (e.block _ g.lt);have D:=n.at 8;have E:=n.at 9;have r:=m;have F:=r.at 1;have G:=r.at 2;have t:Hid (jq q p.d=(decide (p.sources=2 ^ q.src.xs.length-1)&&decide (p.clauses=2 ^ q.wh.length-1))):=rfl;have u:=Zh i;generalize jq q p.d=B at *;generalize f.cells ts q=FC at *;generalize p.cells=PC at *;generalize 2 ^ q.src.xs.length-1=s at *;generalize 2 ^ q.wh.length-1=c at *;generalize p.sources=a at *;generalize p.clauses=b at *;by_cases v:a=s
 ·subst v;have j:Hid (B=((b:Int)==(c:Int))):=by
   show _=_
   rw[t.o,Qy rfl,Qz,QD,QE,beq_iff_eq];omega
  go_enter Tryz.func95,Tryz.ntmps95;go_wp2;go_ret;exact⟨Qb j.o.symm,u.o⟩
 ·have j:Hid (B=false):=by show _=_; rw[t.o,Qg v,Qh]
  have y:((a:Int)==(s:Int))=false:=by rw[XU]; omega
  go_enter Tryz.func95,Tryz.ntmps95;go_wp2;go_ret;exact⟨Qb j.o.symm,u.o⟩
theorem sw(f:aS)(ts:List af)(q:ae)(n:ah)(l r:aB)(w:World)(ok:Ok ts q)(hf:f.At ts q w)(hn:n.cl.At w)(hl:l.sources<=bB)(hr:r.sources<=bB) :
  Cb 91 #[.agg (f.cells ts q),.agg n.cells,.agg l.cells,.agg r.cells] w (.bool (jJ ts q n l.sources r.sources)):=by
 obtain⟨v0,v1,v2,v3,v4,v5,v6,v7,v8,v9,I,L,M,W,-⟩:=EH f ts q;obtain⟨X,N,O,z⟩:=aR w ((f.cells ts q)) 70;obtain⟨Y,ag,P,A⟩:=aR X n.cells 36;obtain⟨Z,ai,Q,B⟩:=aR Y l.cells 75;obtain⟨w4,aj,R,S⟩:=aR Z r.cells 75;have t:=R;have u:=aC Q t;have v:=aC P u;have i:=aC O v;have cK:=z.of (v.block _ z.lt);have ig:=A.of (u.block _ A.lt);have fM:=ig.at 4;have YZ:=B.of (t.block _ B.lt);have Gg:=YZ.at 1;have D:=S;have Gh:=D.at 1;obtain⟨bD,bN,bA,bG,bO,bT,bQ,dF,dD,dE,aU,aZ,aV⟩:=cK.k13 (by rw[W]; rfl);have y:Hid (∀ x,Bw w4 x->∀ s:Nat,s<18446744073709551616->Cb 90 #[.agg (f.cells ts q),.slice n.cl.ad n.cl.xs.length n.cl.cap,.int .u64 (s:Int)] x (.bool (jo ts q n.cl.xs s))):=fun x hb s hs=>
  uG f ts q n.cl.ad n.cl.cap n.cl.xs s x ok (hf.below (aC i hb)) (Qt (aC i hb) hn) hs
 have U:Hid (jJ ts q n l.sources r.sources=(decide (l.sources &&& r.sources=0)&&jo ts q n.cl.xs (l.sources|||r.sources))):=rfl;have j:l.sources<18446744073709551616:=by unfold bB at hl; omega
 have k:r.sources<18446744073709551616:=by unfold bB at hr; omega
 have g:=Yp l.sources r.sources j k w4;have E:Hid (∀ (x:World) (b:Nat),_->_->_):=fun x b h0 h1=>vI b l.sources r.sources x h0 h1 j k
 have F:l.sources|||r.sources<18446744073709551616:=Nat.or_lt_two_pow (n:=64) j k
 have G:=Zh F;have V:=Zh i;rw[W]at y N ⊢;obtain⟨nk,nl,nr,ns,⟨na,nc,nx⟩,ny,no⟩:=n;unfold aa.val at *;simp only at *;generalize jJ ts q _ l.sources r.sources=J at *;generalize jo ts q nx=RB at *;generalize ah.cells _=NC at *;generalize l.cells=LC at *;generalize r.cells=RC at *;generalize l.sources=a at *;generalize r.sources=b at *;by_cases C:a &&& b=0
 ·have m:decide (a &&& b≠0)=false:=Qg (fun h=>h C);have H:Hid (J=RB (a|||b)):=by show _=_; rw[U.o,Qy C,Qz]
  rw[m]at g;go_enter Tryz.func91,Tryz.ntmps91;go_wp2_with fail;refine g.mono ?_;rintro e T ⟨rfl,rfl⟩;go_wp2;refine wH T fun d=>?_
  refine wT 0 (.agg #[v0,v1,v2,v3,v4,v5,v6,v7,v8,v9,I,L,M]) d (fun x hx=>?_) ?_
  ·have e0:=mi hx bD bN bA bG bO bT bQ dF dD dE aU aZ aV;go_simp
  refine wt 1 (.pointer (some (aD X.heap.size 4))) d ?_;refine nN 2 (.slice na nx.length nc) d fM ?_;refine wt 3 (.pointer (some (aD Y.heap.size 1))) d ?_;refine nN 4 (.int .u64 (a:Int)) d Gg ?_;refine wt 5 (.pointer (some (aD Z.heap.size 1))) d ?_;refine nN 6 (.int .u64 (b:Int)) d Gh ?_;refine wR 7 fun K p=>?_
  go_simp;refine oA p d fun d=>?_
  refine wR 8 fun K p=>?_
  go_simp;refine Jj (E.o _ T.heap.size (by simp) (by simp)) ?_;rintro e w6 ⟨rfl,rfl⟩;refine p.o _ _ d fun d=>?_
  refine wR 9 fun K p=>?_
  go_simp;refine Jj (y.o _ d (a|||b) G.o) ?_;rintro e w7 ⟨rfl,gD⟩;refine oT p d gD fun d=>?_
  refine wR 10 fun K p=>?_
  go_simp;refine p.o _ _ d fun d=>?_
  refine wD ?_
  try simp only[pU]
  have Ms:=Zh (aC V.o d);go_wp2;go_ret;exact⟨Qb H.o.symm,Ms.o⟩
 ·have m:decide (a &&& b≠0)=true:=Qy C;have H:Hid (J=false):=by show _=_; rw[U.o,Qg C,Qh]
  rw[m]at g;go_enter Tryz.func91,Tryz.ntmps91;go_wp2_with fail;refine g.mono ?_;rintro e T ⟨rfl,rfl⟩;go_wp2;go_ret;exact⟨Qb H.o.symm,V.o⟩
def Ju:=@EH
theorem ada(ts:List af)(src:List Int)(cs:List ak)(a b:Nat):Dq ts src cs a b =
  if (iF cs).2.2=false then (0,0,false)
  else if (dG a (2 ^ aj ts src (iF cs).1)&&dG b (2 ^ aj ts src (iF cs).2.1))=true then ((iF cs).1,(iF cs).2.1,true)
  else if (dG a (2 ^ aj ts src (iF cs).2.1)&&dG b (2 ^ aj ts src (iF cs).1))=true then ((iF cs).2.1,(iF cs).1,true)
  else (0,0,false):=by
 unfold Dq iF;by_cases h:cs.length > 1∨(cs.getD 0 cz).op≠0∨(cs.getD 0 cz).not=true∨(cs.getD 0 cz).const=true
 ·rw[Qu h,Qu h]; rfl
 ·rw[Qv h,Qv h]; rfl
theorem Y0{ts:List af}{q:ae}(ok:Ok ts q){k:Nat}(hk:k<q.wh.length)(h:(iF (q.wh.getD k lz).cs).2.2=true):qU ts q [(iF (q.wh.getD k lz).cs).1]/\qU ts q [(iF (q.wh.getD k lz).cs).2.1]:=by
 have l:=ok.some k hk;have j:=ok.cols k hk;generalize (q.wh.getD k lz).cs=cs at *;unfold iF at h ⊢;by_cases d:cs.length > 1∨(cs.getD 0 cz).op≠0∨(cs.getD 0 cz).not=true∨(cs.getD 0 cz).const=true
 ·rw[Qu d]at h; cases h
 rw[Qv d];have e:∀ x,x∈aA (cs.getD 0 cz)->x∈aG cs:=fun x a=>Xr.2 ⟨_,X4 l,a⟩
 have f:(cs.getD 0 cz).op=0:=by
  rcases Int.decEq (cs.getD 0 cz).op 0 with b | b
  ·exact absurd (.inr (.inl b)) d
  ·exact b
 have g:(cs.getD 0 cz).const=false:=by
  cases b:(cs.getD 0 cz).const with
  | false => rfl
  | true => exact absurd (.inr (.inr (.inr b))) d
 have i:aA (cs.getD 0 cz)=[(cs.getD 0 cz).left,(cs.getD 0 cz).right]:=by
  unfold aA;rw[Qu ⟨by rw[f]; decide,g⟩]
 rw[i]at e;refine⟨fun c a=>?_,fun c a=>?_⟩
 ·rw[Zw]at a; rw[a]; exact j _ (e _ (by simp))
 ·rw[Zw]at a; rw[a]; exact j _ (e _ (by simp))
theorem AY(ca:Option Addr)(cc:Nat)(cs:List ak)(w:World)(hx:bH w ca cs)(h0:0<cs.length) :
  Cb 136 #[.agg #[.slice ca cs.length cc]] w (.tuple #[.int .i64 (iF cs).1,.int .i64 (iF cs).2.1,.bool (iF cs).2.2]):=by
 obtain⟨B,C,rfl,p,q,r,s,t⟩:=hx.2 0 h0;have y:=hx.1;rw[QI,Xg]at p q r s t;have e:Hid (iF cs=if cs.length > 1∨(cs.getD 0 cz).op≠0∨(cs.getD 0 cz).not=true∨(cs.getD 0 cz).const=true then (0,0,false) else ((cs.getD 0 cz).left,(cs.getD 0 cz).right,true)):=rfl;generalize iF cs=EC at *;generalize cs.getD 0 cz=c at *;obtain⟨j,k,left,b,right⟩:=c;simp only at *;obtain⟨D,E,a,d⟩:=aR w #[.slice (some (aD B C)) cs.length cc] 81;obtain⟨N,F,m,n⟩:=aR D #[.bool j,.int .i64 k,.int .i64 left,.bool b,.int .i64 right] 77;have f:=m;have l:=aC a f;have z:=d.of (f.block _ d.lt);have G:=z.at 0;have A:=n;obtain⟨O,P,Q,R,S⟩:=A.k5;have H:=d.at 0;have I:=cB a p;have J:=cB a q;have K:=cB a r;have L:=cB a s;have M:=cB a t;have g:=Zh l;by_cases u:cs.length > 1
 ·obtain rfl:EC=(0,0,false):=by rw[e.o,Qu (.inl u)]
  go_enter Tryz.func136,Tryz.ntmps136;go_wp2;go_ret3;exact⟨rfl,g.o⟩
 by_cases v:k≠0
 ·obtain rfl:EC=(0,0,false):=by rw[e.o,Qu (.inr (.inl v))]
  have i:(k != 0)=true:=by rw[bne_iff_ne]; exact v
  go_enter Tryz.func136,Tryz.ntmps136;go_wp2;go_ret3;exact⟨rfl,g.o⟩
 have i:k=0:=by omega
 subst i
 cases j with
 | true =>
  obtain rfl:EC=(0,0,false):=by rw[e.o,Qu (.inr (.inr (.inl rfl)))]
  go_enter Tryz.func136,Tryz.ntmps136;go_wp2;go_ret3;exact⟨rfl,g.o⟩
 | false =>
  cases b with
  | true =>
   obtain rfl:EC=(0,0,false):=by rw[e.o,Qu (.inr (.inr (.inr rfl)))]
   go_enter Tryz.func136,Tryz.ntmps136;go_wp2;go_ret3;exact⟨rfl,g.o⟩
  | false =>
   obtain rfl:EC=(left,right,true):=by
    rw[e.o,Qv];rintro (h | h | h | h)
    ·exact u h
    ·exact h rfl
    ·cases h
    ·cases h
   go_enter Tryz.func136,Tryz.ntmps136;go_wp2;go_quiet (fail);go_wp2;go_ret3;exact⟨rfl,ZF g.o _⟩
