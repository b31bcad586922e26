import Derived.Test.YtjndadibondgbaaGreatDoorL11
set_option linter.all false
set_option maxRecDepth 100000
set_option maxHeartbeats 16000000
namespace Go.Proofs.Zz
open Go.RowKit Go.Shelf
variable {cs:List ak} {b base k n n' sz:Nat} {l:List Int} {e t:TypeId} {v v':Value} {xs xs':List Value} {W:World}
theorem L6(ts:List af)(q:ae)(hk:k<cs.length):aL (kP ts q (aG (cs.take (k+1))))=aL (kP ts q (aG (cs.take k)))|||aL (kP ts q (aA (cs.getD k cz))):=by
 rw[F5 hk];unfold kP;rw[Qn,Xi]
theorem L8{c:Int}(h:c∈aG (cs.take k)):c∈aG cs:=by
 obtain⟨x,a,b⟩:=Xr.1 h;exact Xr.2 ⟨x,XW a,b⟩
theorem L9(f:aS)(ts:List af)(q:ae)(ca:Option Addr)(cc:Nat)(cs:List ak)(w:World)(ok:Ok ts q)(hf:iQ w f.ca (fZ ts q))(hx:bH w ca cs)(iV:qU ts q (aG cs)) :
  Cb 55 #[.agg (f.cells ts q),.agg #[.slice ca cs.length cc]] w (.int .u64 ((aL (fI ts q.src.xs cs):Nat):Int)):=by
 obtain⟨v0,v1,v2,v3,v4,v5,v6,v7,v8,v9,B,C,D,Z,-⟩:=Ju f ts q;obtain⟨w1,aa,ag,E⟩:=aR w ((f.cells ts q)) 70;obtain⟨w2,aJ,ah,ai⟩:=aR w1 #[.slice ca cs.length cc] 81;have A:=ah;have t:=aC ag A;have cK:=E.of (A.block _ E.lt);have ig:=ai;have eT:=ig.at 0;obtain⟨bD,bN,bA,bG,bO,bT,bQ,dF,dD,dE,aU,aZ,aV⟩:=cK.k13 (by rw[Z]; rfl);have zP:=Zh ((hx.below t).2);have wN:Hid (∀ x i r k,k<cs.length->Bw w2 x->aI x i (aA (cs.getD k cz))->Calls Tryz.prog 87 #[.agg (f.cells ts q),.slice i (aA (cs.getD k cz)).length r] x fun e w'=>e=.returned (.int .u64 ((aL (kP ts q (aA (cs.getD k cz))):Nat):Int))/\Bw x w'):=
  fun x i r k z hb h=>wY f ts q i r _ x ok (hf.below (aC t hb)) h (fun c F=>iV c (Xr.2 ⟨_,X4 z,F⟩))
 have G:Hid (∀ x c,_):=fun x c=>sS c x
 have H:Hid (∀ k,k<cs.length->aL (kP ts q (aG (cs.take (k+1))))=aL (kP ts q (aG (cs.take k)))|||aL (kP ts q (aA (cs.getD k cz)))):=fun k z=>L6 ts q z
 have Ev:Hid (∀ k,aL (kP ts q (aG (cs.take k)))<18446744073709551616):=fun k=>(yg ok (fun c F=>iV c (L8 F))).lt ok.small
 have Mm:Hid (∀ k,k<cs.length->aL (kP ts q (aA (cs.getD k cz)))<18446744073709551616):=fun k z=>(yg ok (fun c F=>iV c (Xr.2 ⟨_,X4 z,F⟩))).lt ok.small
 have BA:Hid (aL (kP ts q (aG (cs.take cs.length)))=aL (fI ts q.src.xs cs)):=by show _=_; rw[Qw]; rfl
 have I:Hid (aL (kP ts q (aG (cs.take 0)))=0):=rfl;have aH:=hx.1;have HC:=Zh t;obtain⟨p,j⟩:∃ p:Nat->Nat,p=fun k=>aL (kP ts q (aG (cs.take k))):=⟨_,rfl⟩
 obtain⟨y,u⟩:∃ y:ak->Nat,y=fun c=>aL (kP ts q (aA c)):=⟨_,rfl⟩
 have J:Hid (∀ k,k<cs.length->p (k+1)=p k|||y (cs.getD k cz)):=by rw[j,u]; exact H.o
 have L:Hid (∀ k,p k<18446744073709551616):=by rw[j]; exact Ev.o
 have M:Hid (∀ k,k<cs.length->y (cs.getD k cz)<18446744073709551616):=by rw[u]; exact Mm.o
 have N:Hid (p cs.length=aL (fI ts q.src.xs cs)):=by rw[j]; exact BA.o
 have O:Hid (p 0=0):=by rw[j]; exact I.o
 have P:Hid (∀ x i r k,k<cs.length->Bw w2 x->aI x i (aA (cs.getD k cz))->Cb 87 #[.agg #[v0,v1,v2,v3,v4,v5,v6,v7,v8,v9,B,C,D],.slice i (aA (cs.getD k cz)).length r] x (.int .u64 ((y (cs.getD k cz):Nat):Int))):=by rw[u,<- Z]; exact wN.o
 rw[Z]at aa ⊢;generalize aL (fI ts q.src.xs cs)=R at *;go_enter Tryz.func55,Tryz.ntmps55;go_wp2;go_loopw [5,11] (fun sv iv wr=>∃ k:Nat,k<=cs.length/\iv=.int .i64 k/\(∃ s:Nat,sv=.int .u64 (s:Int)/\Hid (s=p k))/\Bw w2 wr) (fun _ iv _=>cs.length-(intOf iv).toNat)
 case atStart=>exact⟨0,Zf _,rfl,⟨0,rfl,O.o.symm⟩,Qr _ _⟩
 case round=>
  obtain⟨k,z,rfl,⟨s,rfl,hs⟩,d⟩:=hrel;by_cases n:k<cs.length
  ·obtain⟨cb,co,rfl,c0,c1,c2,c3,c4⟩:=zP.o k n;have d0:=cB d c0;have d1:=cB d c1;have d2:=cB d c2;have d3:=cB d c3;have d4:=cB d c4;have HT:=Zh (J.o k n);have Q:s<18446744073709551616:=by rw[hs.o]; exact L.o k
   have S:=M.o k n;have T:Hid (∀ x i r,_->_->_):=fun x i r hb h=>P.o x i r k n hb h
   rw[<- hs.o]at HT;generalize cs.getD k cz=c at *;have U:=fun x=>G.o x c
   generalize y c=m at *;generalize aA c=CC at *;obtain⟨wb,aK,aj,au⟩:=aR wr #[.bool c.not,.int .i64 c.op,.int .i64 c.left,.bool c.const,.int .i64 c.right] 77;obtain⟨b0,b1,b2,b3,b4⟩:=au.k5;have a:=aC d aj;have j0:=cB a bD;have j1:=cB a bN;have j2:=cB a bA;have j3:=cB a bG;have j4:=cB a bO;have j5:=cB a bT;have j6:=cB a bQ;have j7:=cB a dF;have j8:=cB a dD;have j9:=cB a dE;have V:=cB a aU;have W:=cB a aZ;have X:=cB a aV;have xW:=Zh a;obtain⟨av,ax,v,ay,az⟩:=c;unfold ak.val at *;simp only at *;go_wp2;refine wH wb fun g=>?_
   refine wt 0 (.int .u64 (s:Int)) g ?_;refine wT 1 (.agg #[v0,v1,v2,v3,v4,v5,v6,v7,v8,v9,B,C,D]) g (fun x hx=>?_) ?_
   ·have e0:=mi hx j0 j1 j2 j3 j4 j5 j6 j7 j8 j9 V W X;go_simp
   refine wT 2 (.agg #[.bool av,.int .i64 ax,.int .i64 v,.bool ay,.int .i64 az]) g (fun x hx=>?_) ?_
   ·have e0:=cR5 hx b0 b1 b2 b3 b4;go_simp
   refine wR 3 fun K l=>?_
   go_simp;refine Jj (U _) ?_;rintro e w3 ⟨b,rfl,aB,aD⟩;refine oT l g aD fun g=>?_
   refine wR 4 fun K l=>?_
   go_simp;refine Jj (T.o _ _ _ (aC xW.o g) aB) ?_;rintro e w4 ⟨rfl,aF⟩;refine oT l g aF fun g=>?_
   refine wR 5 fun K l=>?_
   go_simp;refine oA l g fun g=>?_
   refine wR 6 fun K l=>?_
   go_simp;refine Jj (vI w4.heap.size s m _ (by simp) (by simp) Q S) ?_;rintro e w5 ⟨rfl,rfl⟩;refine l.o _ _ g fun g=>?_
   refine wR 7 fun K l=>?_
   go_simp;refine l.o _ _ g fun g=>?_
   refine wD ?_
   try simp only[pU]
   have Y:=Zh (aC xW.o g);go_wp2;go_roundw
   case rel=>exact⟨k+1,by omega,by go_num,⟨s|||m,rfl,HT.o.symm⟩,Y.o⟩
   case measure=>simp[intOf]; omega
  ·obtain rfl:k=cs.length:=by omega
   have HV:=Zh (hs.o.trans N.o);have HB:=Zh (aC HC.o d);go_wp2;go_ret;exact⟨Qc (by rw[HV.o]),HB.o⟩
def jQ(ts:List af)(q:ae)(l:List Int):Nat:=(l.map fun c=>(jN ts q.src.xs c).toNat).foldl max 0
theorem BJ(ts:List af)(q:ae)(hk:k<l.length):jQ ts q (l.take (k+1))=max (jQ ts q (l.take k)) (jN ts q.src.xs (l.getD k 0)).toNat:=by
 have e:l.getD k 0=l[k]:=by simp[List.getD,hk]
 unfold jQ;rw[Qm hk,Qn,ZZ,e];rfl
theorem Um(ts:List af)(q:ae){cs:List ak}(h1:¬ 1<cs.length)(h0:0<cs.length)(hn:(cs.getD 0 cz).not=false)(h2:(cs.getD 0 cz).op≠1)(h3:(cs.getD 0 cz).op≠2):jf ts q.src.xs cs=jQ ts q (aA (cs.getD 0 cz)):=by
 unfold jf jQ aA;rw[Qv (by rw[hn]; rintro (h | h); exact h (by omega); cases h),Qv h2,Qv h3]
 cases hc:(cs.getD 0 cz).const with
 | true => rw[Qu rfl,Qv (by simp)]; simp
 | false => rw[Qv (by simp),Qu ⟨h3,rfl⟩]; simp
theorem aae{ts:List af}{q:ae}(ok:Ok ts q)(h:qU ts q l)(k:Nat):jQ ts q (l.take k)<=1000000:=by
 induction k with
 | zero => simp[jQ]
 | succ k ih =>
  by_cases a:k<l.length
  ·rw[BJ ts q a];obtain⟨b,e⟩:=h _ (X4 a (d:=0));have:=(zC ok.cat ok.src b e).2;omega
  ·rw[X0 (by omega)];rw[X0 (by omega)]at ih;exact ih
theorem Un(f:aS)(ts:List af)(q:ae)(ca:Option Addr)(cc:Nat)(cs:List ak)(w:World)(ok:Ok ts q)(hf:iQ w f.ca (fZ ts q))(hx:bH w ca cs)(h0:0<cs.length)(iV:qU ts q (aG cs)) :
  Cb 56 #[.agg (f.cells ts q),.agg #[.slice ca cs.length cc]] w (.int .u64 ((jf ts q.src.xs cs:Nat):Int)):=by
 obtain⟨cb,co,rfl,c0,c1,c2,c3,c4⟩:=hx.2 0 h0;have aH:=hx.1;rw[QI,Xg]at c0 c1 c2 c3 c4;have H:qU ts q (aA (cs.getD 0 cz)):=fun c hc=>iV c (Xr.2 ⟨_,X4 h0,hc⟩)
 have m:Hid _:=@Um ts q cs;have i:Hid (jf ts q.src.xs cs=if cs.length≠1∨(cs.getD 0 cz).not=true then 2 else if (cs.getD 0 cz).op=1 then 3 else if (cs.getD 0 cz).op=2 then 10 else jf ts q.src.xs cs):=by
  show _=_
  unfold jf
  repeat' split
  all_goals rfl
 generalize jf ts q.src.xs cs=R at *;generalize cs.getD 0 cz=c at *;obtain⟨b,g,left,a,right⟩:=c;simp only at *;obtain⟨w1,ay,U,V⟩:=aR w ((f.cells ts q)) 70;obtain⟨J,az,K,W⟩:=aR w1 #[.slice (some (aD cb co)) cs.length cc] 81;obtain⟨N,aB,D,r⟩:=aR J #[.bool b,.int .i64 g,.int .i64 left,.bool a,.int .i64 right] 77;have l:=aC U K;have I:=aC l D;have P:=aC K D;have d0:=cB l c0;have d1:=cB l c1;have d2:=cB l c2;have d3:=cB l c3;have d4:=cB l c4;have m0:J.cell? (aD w1.heap.size 0)=some (.slice (some (aD cb co)) cs.length cc):=W.cell 0;have ag:=cB D m0;have b0:N.cell? (aD J.heap.size 0)=some (.bool b):=r.cell 0;have b1:N.cell? (aD J.heap.size 1)=some (.int .i64 g):=r.cell 1;have b2:N.cell? (aD J.heap.size 2)=some (.int .i64 left):=r.cell 2;have b3:N.cell? (aD J.heap.size 3)=some (.bool a):=r.cell 3;have b4:N.cell? (aD J.heap.size 4)=some (.int .i64 right):=r.cell 4;have q7:w1.cell? (aD w.heap.size 7)=some (.slice f.ca (fZ ts q).length f.cc):=V.cell 7;have Q:=cB P q7;have L:Hid _:=I;have M:Hid _:=hf.below I;have aI:=hf.1;have j:=sS ⟨b,g,left,a,right⟩ N;unfold ak.val at j;simp only at j;have u:Hid (∀ k,k<(aA ⟨b,g,left,a,right⟩).length->∃ n t:Nat,(aA ⟨b,g,left,a,right⟩).getD k 0=n/\n<(fZ ts q).length/\((fZ ts q).getD n (0,0)).2=(t:Int)/\t=(jN ts q.src.xs ((aA ⟨b,g,left,a,right⟩).getD k 0)).toNat/\t<=1000000):=fun k hk=>by
  obtain⟨h0,h1⟩:=H _ (X4 hk (d:=0));have h2:=AQ ok;have h3:=zC ok.cat ok.src h0 h1;refine⟨((aA ⟨b,g,left,a,right⟩).getD k 0).toNat,(jN ts q.src.xs ((aA ⟨b,g,left,a,right⟩).getD k 0)).toNat,by omega,by omega,?_,rfl,by omega⟩;have e:((fZ ts q).getD ((aA ⟨b,g,left,a,right⟩).getD k 0).toNat (0,0)).2=jN ts q.src.xs ((aA ⟨b,g,left,a,right⟩).getD k 0):=rfl;rw[e];omega
 have S:Hid (∀ k,k<(aA ⟨b,g,left,a,right⟩).length->jQ ts q ((aA ⟨b,g,left,a,right⟩).take (k+1))=max (jQ ts q ((aA ⟨b,g,left,a,right⟩).take k)) (jN ts q.src.xs ((aA ⟨b,g,left,a,right⟩).getD k 0)).toNat):=fun k hk=>BJ ts q hk
 have T:Hid (∀ k,jQ ts q ((aA ⟨b,g,left,a,right⟩).take k)<=1000000):=fun k=>aae ok H k
 have Rt:Hid (jQ ts q ((aA ⟨b,g,left,a,right⟩).take (aA ⟨b,g,left,a,right⟩).length)=jQ ts q (aA ⟨b,g,left,a,right⟩)):=by show _=_; rw[Qw]
 have yu:Hid (jQ ts q ((aA ⟨b,g,left,a,right⟩).take 0)=0):=rfl;have ah:Hid ((aA ⟨b,g,left,a,right⟩).length<=2):=K3 _;generalize aA ⟨b,g,left,a,right⟩=CC at *;generalize f.cells ts q=FC at *;obtain⟨G,C⟩:∃ G:Nat->Nat,G=fun k=>jQ ts q (CC.take k):=⟨_,rfl⟩
 have v:Hid (∀ k,k<CC.length->G (k+1)=max (G k) (jN ts q.src.xs (CC.getD k 0)).toNat):=by rw[C]; exact S.o
 have y:Hid (∀ k,G k<=1000000):=by rw[C]; exact T.o
 have p:Hid (G CC.length=jQ ts q CC):=by rw[C]; exact Rt.o
 have z:Hid (G 0=0):=by rw[C]; exact yu.o
 clear C S T Rt yu c0 c1 c2 c3 c4 U K D l I P V W r hf hx iV H ok;by_cases h1:1<cs.length
 ·have A:Hid (R=2):=by show _=_; rw[i.o,Qu (.inl (by omega))]
  clear i m u v y p z M j;go_enter Tryz.func56,Tryz.ntmps56;go_wp2;go_ret;exact⟨Qc (by rw[A.o]; rfl),L.o⟩
 cases b with
 | true =>
  have A:Hid (R=2):=by show _=_; rw[i.o,Qu (.inr rfl)]
  clear i m u v y p z M j;go_enter Tryz.func56,Tryz.ntmps56;go_wp2;go_ret;exact⟨Qc (by rw[A.o]; rfl),L.o⟩
 | false =>
  have B:¬ (cs.length≠1∨false=true):=by rintro (h | h); exact h (by omega); cases h
  by_cases O:g=1
  ·have A:Hid (R=3):=by show _=_; rw[i.o,Qv B,Qu O]
   subst O;clear i m u v y p z M j B;go_enter Tryz.func56,Tryz.ntmps56;go_wp2;go_ret;exact⟨Qc (by rw[A.o]; rfl),L.o⟩
  by_cases o2:g=2
  ·have A:Hid (R=10):=by show _=_; rw[i.o,Qv B,Qv O,Qu o2]
   subst o2;clear i m u v y p z M j B;go_enter Tryz.func56,Tryz.ntmps56;go_wp2;go_ret;exact⟨Qc (by rw[A.o]; rfl),L.o⟩
  have A:Hid (R=jQ ts q CC):=m.o h1 h0 rfl O o2;have aJ:(g==1)=false:=by simp[O]
  have aK:(g==2)=false:=by simp[o2]
  rw[<- p.o]at A;clear i m B O o2 p;generalize jN ts q.src.xs=KN at *;generalize fZ ts q=CS at *;go_enter Tryz.func56,Tryz.ntmps56;go_wp2_with fail;refine j.mono ?_;clear j ay az aB;rintro e w4 ⟨xb,rfl,X,E⟩;have ai:=cB E Q;have aj:Hid _:=aC L.o E;have au:Hid (iQ w4 f.ca CS):=iQ.below E M.o;have av:Hid _:=X;have aL:=ah.o;clear E X M L m0 ag b0 b1 b2 b3 b4 q7 Q d0 d1 d2 d3 d4;go_wp2;go_loop [6,30] (fun sv iv=>∃ k:Nat,k<=CC.length/\iv=.int .i64 k/\(∃ s:Nat,sv=.int .u64 (s:Int)/\Hid (s=G k))) (fun _ iv=>CC.length-(intOf iv).toNat)
  case atStart=>exact⟨0,Zf _,rfl,⟨0,rfl,z.o.symm⟩⟩
  case round=>
   obtain⟨k,hk,rfl,⟨s,rfl,Y⟩⟩:=hrel;by_cases F:k<CC.length
   ·obtain⟨aQ,xo,e,tO⟩:=Qe av.o F
    cases e
    have ax:=tO k F;obtain⟨n,t,hn,aF,Z,aa,aT⟩:=u.o k F;have HT:Hid _:=v.o k F;have aM:s<=1000000:=by rw[Y.o]; exact y.o k
    obtain⟨yb,yo,Bq,_,y1⟩:=(show iQ w4 f.ca CS from au.o).2 n aF;rw[Bq]at ai;rw[hn,QJ]at ax;rw[Z]at y1;rw[<- Y.o,<- aa]at HT;clear tO Bq Z Y aa hn;generalize KN (CC.getD k 0)=kk at *;have aN:max (s:Int) (t:Int)=((max s t:Nat):Int):=by omega
    have aO:(if (s:Int)<(t:Int) then (t:Int) else (s:Int))=((max s t:Nat):Int):=by split <;> omega
    have aP:(if (t:Int)<(s:Int) then (s:Int) else (t:Int))=((max s t:Nat):Int):=by split <;> omega
    go_wp2;go_round
    case rel=>exact⟨k+1,by omega,by go_num,⟨max s t,rfl,HT.o.symm⟩⟩
    case measure=>simp[intOf]; omega
   ·obtain rfl:k=CC.length:=by omega
    have YY:Hid (s=R):=by show _=_; rw[Y.o,A.o]
    clear Y A;go_wp2;go_ret;exact⟨Qc (by rw[YY.o]),aj.o⟩
theorem yB(h:W.ownsRow base e sz v n xs)(hb:v.ownBlock=some b):∃ a,W.heap[b]? = some (.cells a e (0,0)):=by
 rcases h.2 with⟨rfl,_⟩ | ⟨g,cap,a,rfl,_,h3,_⟩
 ·cases hb
 ·cases hb
  exact⟨a,h3⟩
theorem nG(ht:e≠t)(h:W.ownsRow base e sz v n xs){c:Array Value}(hg:GB W b t c):v.ownBlock≠some b:=fun f=>by
 obtain⟨a,d⟩:=yB h f;unfold GB at hg;rw[d]at hg;injection hg with hg;injection hg with _ hg;exact ht hg
theorem zS(ht:e≠t){base' sz':Nat}(h:W.ownsRow base e sz v n xs)(h':W.ownsRow base' t sz' v' n' xs')(hb:v.ownBlock=some b):v'.ownBlock≠some b:=fun d=>by
 obtain⟨g,i⟩:=yB h hb;obtain⟨f,a⟩:=yB h' d;rw[i]at a;injection a with hg;injection hg with _ hg;exact ht hg
theorem zT{w5:World}{bf:Nat}{tF:TypeId}(ht:e≠tF){cells:Array Value}(hg:GB W bf tF cells)(ho:W.ownsRow base e sz v n xs)(rQ:w5.ownsRow base e sz v' n' xs')(hk:Kept (fun b=>v.ownBlock≠some b) W w5)
  (hat:v'.ownBlock=v.ownBlock∨v'.ownBlock=some (W.heap.size+1)) (i:Nat) :
  GB w5 bf tF cells/\GB (w5.setCell (aD bf i) v') bf tF (cells.setIfInBounds i v')/\(w5.setCell (aD bf i) v').ownsRow base e sz v' n' xs'/\Kept (fun b=>b≠bf/\v.ownBlock≠some b) W (w5.setCell (aD bf i) v'):=by
 have a:=nG ht ho hg;have d:=hg.keep hk a;have k:=hg.lt;have f:v'.ownBlock≠some bf:=fun e=>by
  rcases hat with h | h
  ·rw[h]at e; exact a e
  ·rw[h]at e; injection e with e; omega
 refine⟨d,d.set i v',?_,(hk.mono fun _ _ h=>h.2).trans (Zn _ _ _ (fun h=>h.1 rfl))⟩;exact Zp rQ (s:=fun b=>b≠bf) (Zn _ _ _ (fun h=>h rfl)) (fun g j e=>f (by rw[j,e]))
theorem aah(ts:List af)(src:List Int)(k m:Nat):(bF ts src k++((List.range (m+1)).map fun m=>(k,(ts.getD (src.getD k 0).toNat tz).kd m))).flatMap jh=(bF ts src k++((List.range m).map fun m=>(k,(ts.getD (src.getD k 0).toNat tz).kd m))).flatMap jh++jh (k,(ts.getD (src.getD k 0).toNat tz).kd m):=by
 rw[Xa,Qn,<- QH,Xb];simp
def mV(ts:List af)(src:List Int)(k:Nat):List Nat:=(List.range k).map fun (k:Nat)=>jm ts src (k:Int)
theorem Pm(ts:List af)(src:List Int)(k:Nat):mV ts src (k+1)=mV ts src k++[jm ts src (k:Int)]:=by
 unfold mV;rw[Xa,Qn];rfl
theorem oF(ts:List af)(src:List Int)(k:Nat):(mV ts src k).length=k:=by unfold mV; simp
theorem A9{ts:List af}{src:List Int}(hc:fo ts=true)(ha:aM src ts.length=true)(h:src.length<=64):∀ k,k<=src.length->(bF ts src k).length<=4*k
 | 0,_ => by simp[bF]
 | k+1,hk => by
  have ih:=A9 hc ha h k (by omega);rw[gL,ZC,ZB,Xd];obtain⟨h0,h1⟩:=zF ha (k:=k) (by omega);have ht:=zB hc (i:=(src.getD k 0).toNat) (by omega);unfold dX at ht;rw[QE]at ht;omega
theorem xy(n:Nat)(hn:n<=64)(w:World) :
  Ce 54 #[.int .i64 (n:Int)] w (.int .u64 ((2 ^ n-1:Nat):Int)):=by
 rcases Ql n 64 with h | h
 ·exact Oj n h w
 ·obtain rfl:n=64:=by omega
  go_enter Tryz.func54,Tryz.ntmps54;go_wp2;go_ret;exact⟨rfl,rfl⟩
