import Derived.Test.YtjndadibondgbaaGreatDoorL13
set_option linter.all false
set_option maxRecDepth 100000
set_option maxHeartbeats 16000000
namespace Go.Proofs.Zz
open Go.RowKit Go.Shelf
variable {W:World} {a0 a1:Value} {B:Nat}
theorem Tryz.agd:(Tryz.prog.info? 117).map (fun i=>(i.zero,i.size,i.bytes))=some (some (.agg #[.int .i64 0,.int .u64 0]),2,16):=by kernel_rfl
theorem Tryz.age:(Tryz.prog.info? 39).map (fun i=>(i.zero,i.size,i.bytes))=some (some (.int .u64 0),1,8):=by kernel_rfl
theorem Tryz.agf:(Tryz.prog.info? 66).map (fun i=>(i.zero,i.size,i.bytes))=some (some (.int .u64 0),1,8):=by kernel_rfl
theorem Tryz.Vy:117≠70:=by decide
theorem Tryz.Pn:39≠70:=by decide
theorem Tryz.ah4:66≠70:=by decide
theorem Tryz.ah5:117≠39:=by decide
theorem Tryz.ah6:66≠39:=by decide
theorem Tryz.ao5:117≠50:=by decide
theorem Po(W:World)(base:Nat)(v:Value)(xs:List Nat)(hown:W.ownsRow base 39 1 v xs.length (xs.map fun (x:Nat)=>.int .u64 (x:Int)))(hl:xs.length<=1000)(hb:base<=W.heap.size)(x:Nat)(ty:TypeId) :
  ∃ d w',(Builtin.append_ #[67,67] ty #[v,.slice (some (aD W.heap.size 0)) 1 1]).run Tryz.prog (W.alloc (.cells #[.int .u64 (x:Int)] 39))=.ok d w'/\
   w'.ownsRow base 39 1 d (xs++[x]).length ((xs++[x]).map fun (x:Nat)=>.int .u64 (x:Int))/\Kept (fun b=>v.ownBlock≠some b) W w'/\(∃ a m c,d = .slice a m c)/\(d.ownBlock=v.ownBlock∨d.ownBlock=some (W.heap.size+1)):=by
 obtain⟨k,l,e,f,g⟩:=Zy Tryz.age;obtain⟨d,w',n,o,p,q,i⟩:=qN (P:=Tryz.prog) W base 67 ty 39 k (.int .u64 0) 1 8 Tryz.underlying67 l e f g rfl (by decide) v xs.length _ hown hb [.int .u64 (x:Int)] rfl (fun u j=>by rw[Zw]at j; rw[j]; rfl) hl (by decide);exact⟨d,w',n,by rw[ZC,Qn]; exact o,p,q,i⟩
theorem adA(W:World)(base:Nat)(v:Value)(xs:List Nat)(hown:W.ownsRow base 66 1 v xs.length (xs.map fun (x:Nat)=>.int .u64 (x:Int)))(hl:xs.length<=1000)(hb:base<=W.heap.size)(x:Nat)(ty:TypeId) :
  ∃ d w',(Builtin.append_ #[68,68] ty #[v,.slice (some (aD W.heap.size 0)) 1 1]).run Tryz.prog (W.alloc (.cells #[.int .u64 (x:Int)] 66))=.ok d w'/\
   w'.ownsRow base 66 1 d (xs++[x]).length ((xs++[x]).map fun (x:Nat)=>.int .u64 (x:Int))/\Kept (fun b=>v.ownBlock≠some b) W w'/\(∃ a m c,d = .slice a m c)/\(d.ownBlock=v.ownBlock∨d.ownBlock=some (W.heap.size+1)):=by
 obtain⟨k,l,e,f,g⟩:=Zy Tryz.agf;obtain⟨d,w',n,o,p,q,i⟩:=qN (P:=Tryz.prog) W base 68 ty 66 k (.int .u64 0) 1 8 Tryz.underlying68 l e f g rfl (by decide) v xs.length _ hown hb [.int .u64 (x:Int)] rfl (fun u j=>by rw[Zw]at j; rw[j]; rfl) hl (by decide);exact⟨d,w',n,by rw[ZC,Qn]; exact o,p,q,i⟩
theorem adB(W:World)(base:Nat)(v:Value)(n:Nat)(xs:List Value)(hown:W.ownsRow base 117 2 v n xs)(hl:n<=1000)(hb:base<=W.heap.size)(s:Nat)(k:Int)(ty:TypeId) :
  ∃ d w',(Builtin.append_ #[64,64] ty #[v,.slice (some (aD W.heap.size 0)) 1 1]).run Tryz.prog (W.alloc (.cells #[.int .i64 (s:Int),.int .u64 k] 117))=.ok d w'/\
   w'.ownsRow base 117 2 d (n+1) (xs++jh (s,k))/\Kept (fun b=>v.ownBlock≠some b) W w'/\(∃ a m c,d = .slice a m c)/\(d.ownBlock=v.ownBlock∨d.ownBlock=some (W.heap.size+1)):=by
 obtain⟨j,l,e,f,g⟩:=Zy Tryz.agd;exact qN (P:=Tryz.prog) W base 64 ty 117 j (.agg #[.int .i64 0,.int .u64 0]) 2 16 Tryz.underlying64 l e f g rfl (by decide) v n _ hown hb [.int .i64 (s:Int),.int .u64 k] rfl (fun u i=>by simp at i; rcases i with rfl | rfl <;> rfl) hl (by decide)
theorem ao6{b:Nat}{ty:TypeId}{t:af}(h:GB W b ty #[a0,a1,.int .i64 t.k0,.int .i64 t.k1,.int .i64 t.k2,.int .i64 t.k3]){m:Nat}(hm:m<4):W.cell? (aD b (2+m))=some (.int .i64 (t.kd m)):=by
 rcases (by omega:m=0∨m=1∨m=2∨m=3) with rfl | rfl | rfl | rfl
 ·exact h.cell 2
 ·exact h.cell 3
 ·exact h.cell 4
 ·exact h.cell 5
theorem JO{l:List Nat}{i:Nat}(hi:i<l.length):l.take (i+1)=l.take i++[l.getD i 0]:=by
 have e:l.getD i 0=l[i]:=by simp[List.getD,hi]
 rw[Qm hi,e]
def World.mO(W:World)(B:Nat)(v0 v1 v2 v3 v4 v5 v6 v7 v8 v9 v10 v11 v12:Value):World:=(((((((((((((W.setCell (aD B 0) v0).setCell (aD B 1) v1).setCell (aD B 2) v2).setCell (aD B 3) v3).setCell (aD B 4) v4).setCell (aD B 5) v5).setCell (aD B 6) v6).setCell (aD B 7) v7).setCell (aD B 8) v8).setCell (aD B 9) v9).setCell (aD B 10) v10).setCell (aD B 11) v11).setCell (aD B 12) v12)
theorem World.zU{t:TypeId}{a2 a3 a4 a5 a6 a7 a8 a9 yI BS a12:Value}(h:GB W B t #[a0,a1,a2,a3,a4,a5,a6,a7,a8,a9,yI,BS,a12])(v0 v1 v2 v3 v4 v5 v6 v7 v8 v9 v10 v11 v12:Value):GB (World.mO W B v0 v1 v2 v3 v4 v5 v6 v7 v8 v9 v10 v11 v12) B t #[v0,v1,v2,v3,v4,v5,v6,v7,v8,v9,v10,v11,v12]:=by
 unfold World.mO;have e:GB (W.setCell (aD B 0) v0) B t #[v0,a1,a2,a3,a4,a5,a6,a7,a8,a9,yI,BS,a12]:=h.set 0 v0;have f:GB ((W.setCell (aD B 0) v0).setCell (aD B 1) v1) B t #[v0,v1,a2,a3,a4,a5,a6,a7,a8,a9,yI,BS,a12]:=e.set 1 v1;have g:GB (((W.setCell (aD B 0) v0).setCell (aD B 1) v1).setCell (aD B 2) v2) B t #[v0,v1,v2,a3,a4,a5,a6,a7,a8,a9,yI,BS,a12]:=f.set 2 v2;have i:GB ((((W.setCell (aD B 0) v0).setCell (aD B 1) v1).setCell (aD B 2) v2).setCell (aD B 3) v3) B t #[v0,v1,v2,v3,a4,a5,a6,a7,a8,a9,yI,BS,a12]:=g.set 3 v3;have j:GB (((((W.setCell (aD B 0) v0).setCell (aD B 1) v1).setCell (aD B 2) v2).setCell (aD B 3) v3).setCell (aD B 4) v4) B t #[v0,v1,v2,v3,v4,a5,a6,a7,a8,a9,yI,BS,a12]:=i.set 4 v4;have k:GB ((((((W.setCell (aD B 0) v0).setCell (aD B 1) v1).setCell (aD B 2) v2).setCell (aD B 3) v3).setCell (aD B 4) v4).setCell (aD B 5) v5) B t #[v0,v1,v2,v3,v4,v5,a6,a7,a8,a9,yI,BS,a12]:=j.set 5 v5;have l:GB (((((((W.setCell (aD B 0) v0).setCell (aD B 1) v1).setCell (aD B 2) v2).setCell (aD B 3) v3).setCell (aD B 4) v4).setCell (aD B 5) v5).setCell (aD B 6) v6) B t #[v0,v1,v2,v3,v4,v5,v6,a7,a8,a9,yI,BS,a12]:=k.set 6 v6;have m:GB ((((((((W.setCell (aD B 0) v0).setCell (aD B 1) v1).setCell (aD B 2) v2).setCell (aD B 3) v3).setCell (aD B 4) v4).setCell (aD B 5) v5).setCell (aD B 6) v6).setCell (aD B 7) v7) B t #[v0,v1,v2,v3,v4,v5,v6,v7,a8,a9,yI,BS,a12]:=l.set 7 v7;have n:GB (((((((((W.setCell (aD B 0) v0).setCell (aD B 1) v1).setCell (aD B 2) v2).setCell (aD B 3) v3).setCell (aD B 4) v4).setCell (aD B 5) v5).setCell (aD B 6) v6).setCell (aD B 7) v7).setCell (aD B 8) v8) B t #[v0,v1,v2,v3,v4,v5,v6,v7,v8,a9,yI,BS,a12]:=m.set 8 v8;have o:GB ((((((((((W.setCell (aD B 0) v0).setCell (aD B 1) v1).setCell (aD B 2) v2).setCell (aD B 3) v3).setCell (aD B 4) v4).setCell (aD B 5) v5).setCell (aD B 6) v6).setCell (aD B 7) v7).setCell (aD B 8) v8).setCell (aD B 9) v9) B t #[v0,v1,v2,v3,v4,v5,v6,v7,v8,v9,yI,BS,a12]:=n.set 9 v9;have a:GB (((((((((((W.setCell (aD B 0) v0).setCell (aD B 1) v1).setCell (aD B 2) v2).setCell (aD B 3) v3).setCell (aD B 4) v4).setCell (aD B 5) v5).setCell (aD B 6) v6).setCell (aD B 7) v7).setCell (aD B 8) v8).setCell (aD B 9) v9).setCell (aD B 10) v10) B t #[v0,v1,v2,v3,v4,v5,v6,v7,v8,v9,v10,BS,a12]:=o.set 10 v10
 have b:GB ((((((((((((W.setCell (aD B 0) v0).setCell (aD B 1) v1).setCell (aD B 2) v2).setCell (aD B 3) v3).setCell (aD B 4) v4).setCell (aD B 5) v5).setCell (aD B 6) v6).setCell (aD B 7) v7).setCell (aD B 8) v8).setCell (aD B 9) v9).setCell (aD B 10) v10).setCell (aD B 11) v11) B t #[v0,v1,v2,v3,v4,v5,v6,v7,v8,v9,v10,v11,a12]:=a.set 11 v11;have d:GB (((((((((((((W.setCell (aD B 0) v0).setCell (aD B 1) v1).setCell (aD B 2) v2).setCell (aD B 3) v3).setCell (aD B 4) v4).setCell (aD B 5) v5).setCell (aD B 6) v6).setCell (aD B 7) v7).setCell (aD B 8) v8).setCell (aD B 9) v9).setCell (aD B 10) v10).setCell (aD B 11) v11).setCell (aD B 12) v12) B t #[v0,v1,v2,v3,v4,v5,v6,v7,v8,v9,v10,v11,v12]:=b.set 12 v12;exact d
theorem World.sH(W:World)(B:Nat)(v0 v1 v2 v3 v4 v5 v6 v7 v8 v9 v10 v11 v12:Value):Kept (fun x=>x≠B) W (World.mO W B v0 v1 v2 v3 v4 v5 v6 v7 v8 v9 v10 v11 v12):=by
 unfold World.mO;exact(((((((((((((Zn _ (aD B 0) _ (fun h=>h rfl)).trans (Zn _ (aD B 1) _ (fun h=>h rfl))).trans (Zn _ (aD B 2) _ (fun h=>h rfl))).trans (Zn _ (aD B 3) _ (fun h=>h rfl))).trans (Zn _ (aD B 4) _ (fun h=>h rfl))).trans (Zn _ (aD B 5) _ (fun h=>h rfl))).trans (Zn _ (aD B 6) _ (fun h=>h rfl))).trans (Zn _ (aD B 7) _ (fun h=>h rfl))).trans (Zn _ (aD B 8) _ (fun h=>h rfl))).trans (Zn _ (aD B 9) _ (fun h=>h rfl))).trans (Zn _ (aD B 10) _ (fun h=>h rfl))).trans (Zn _ (aD B 11) _ (fun h=>h rfl))).trans (Zn _ (aD B 12) _ (fun h=>h rfl)))
theorem vL{v0 v1 v2 v3 v4 v5 v6 v7 v8 v9 v10 v11 v12:Value}(h:GB W B 70 #[v0,v1,v2,v3,v4,v5,v6,v7,v8,v9,v10,v11,v12]):(loadVar 70 (aD B 0)).run Tryz.prog W=.ok (.agg #[v0,v1,v2,v3,v4,v5,v6,v7,v8,v9,v10,v11,v12]) W:=by
 obtain⟨e,f,g,i,j,k,l,m,n,o,a,b,d⟩:=h.k13;simp[go_sem,e,f,g,i,j,k,l,m,n,o,a,b,d]
theorem Pp(ao:Option Addr)(cap:Nat)(ts:List af)(q:ae)(w:World)(hx:bu w ao ts)(hq:q.At w)(ok:Ok ts q) :
  Calls Tryz.prog 39 #[.slice ao ts.length cap,.agg q.cells] w fun e w'=>∃ f:aS,e=.returned (.agg (f.cells ts q))/\f.At ts q w'/\f.New w.heap.size/\Bw w w':=by
 obtain⟨w1,gm,dG,dH⟩:=aR w q.cells 26;obtain⟨z,gp,eF,eG⟩:=aR w1 #[.slice none 0 0,.slice none 0 0,.bool false,.slice none 0 0,.slice none 0 0,.slice none 0 0,.slice none 0 0,.slice none 0 0,.int .u64 0,.int .u64 0,.slice none 0 0,.slice none 0 0,.slice none 0 0] 70;have bK:=eF;have bL:=aC dG bK;have cK:=dH.of (bK.block _ dH.lt);obtain⟨bD,bN,bA,bG,bO,bT,bQ⟩:=cK.k7;have ig:=eG;have cu:=ok.small;have fq:=ok.oM;obtain⟨S,l⟩:∃ S,S=2 ^ q.src.xs.length-1:=⟨_,rfl⟩
 obtain⟨C,hC⟩:∃ C,C=2 ^ q.wh.length-1:=⟨_,rfl⟩
 have HS:=Zh l;have cz:=Zh hC;have cO:Hid (∀ x,Ce 54 #[.int .i64 (q.src.xs.length:Int)] x (.int .u64 (S:Int))):=fun x=>by rw[l]; exact xy q.src.xs.length cu x
 have bM:Hid (∀ x,Ce 54 #[.int .i64 (q.wh.length:Int)] x (.int .u64 (C:Int))):=fun x=>by rw[hC]; exact xy q.wh.length fq x
 clear l hC;have HX:Hid _:=hx.below bL;have HQ:=Zh (hq.below bL);have fu:=Zh hq;have dO:=Zh dG.size;have Ck:=Zh ok;have Ua:=Zh bL;have fw:=Zh bK;have gK:=hq.src.1;have gM:=hq.wh.1;clear hx hq ok bL bK dG eF dH eG cK;have tY:Hid _:=ig;clear ig;obtain⟨⟨U,sc,src⟩,bE,H,wh,j,⟨J,L,s⟩,⟨M,N,u⟩,⟨O,P,Q⟩,⟨T,dc,y⟩⟩:=q;unfold ae.cells aa.val at *;simp only at *;go_enter Tryz.func39,Tryz.ntmps39;go_upto_region 1 with fail;go_cut [5] from 13 to 22 (fun c wx=>c=.pointer (some (aD z.heap.size 0))/\GB wx z.heap.size 70 #[.slice U src.length sc,.slice bE wh.length H,.bool j,.slice J s.length L,.slice M u.length N,.slice O Q.length P,.slice T y.length dc,.slice none 0 0,.int .u64 (S:Int),.int .u64 (C:Int),.slice none 0 0,.slice none 0 0,.slice none 0 0]/\Bw z wx)
 case first=>
  refine wH z fun l=>?_
  refine wT 0 (.agg #[.slice U src.length sc,.slice bE wh.length H,.bool j,.slice J s.length L,.slice M u.length N,.slice O Q.length P,.slice T y.length dc]) l (fun x hx=>?_) ?_
  ·have e0:=J7 hx bD bN bA bG bO bT bQ;go_simp
  refine wt 1 (.pointer (some (aD w.heap.size 0))) l ?_;refine nN 2 (.slice U src.length sc) l bD ?_;refine wt 3 (.int .i64 (src.length:Int)) l ?_;refine wt 5 (.pointer (some (aD w.heap.size 1))) l ?_;refine nN 6 (.slice bE wh.length H) l bN ?_;refine wt 7 (.int .i64 (wh.length:Int)) l ?_;refine wJ 4 10 (fun K d=>?_) fun K d=>?_
  ·skip;go_simp;refine Jj (cO.o _) ?_;rintro e wz ⟨rfl,rfl⟩;refine d.o _ _ l fun l=>?_
   clear d K;refine wJ 8 10 (fun K d=>?_) fun K d=>?_
   ·skip;go_simp;refine Jj (bM.o _) ?_;rintro e wz ⟨rfl,rfl⟩;refine d.o _ _ l fun l=>?_
    clear d K;refine wt 9 (.agg #[.slice U src.length sc,.slice bE wh.length H,.bool j,.slice J s.length L,.slice M u.length N,.slice O Q.length P,.slice T y.length dc,.slice none 0 0,.int .u64 (S:Int),.int .u64 (C:Int),.slice none 0 0,.slice none 0 0,.slice none 0 0]) l ?_;refine wR 10 fun K d=>?_
    go_simp;refine oA d l fun l=>?_
    clear d K;refine wR 11 fun K d=>?_
    go_simp;refine d.o _ _ ((bV _ _).drew) (fun l=>?_);clear d K;refine wD ?_
    try simp only[pU]
    go_wp2_with fail;go_meet;exact⟨rfl,lZ z _,l⟩
   ·skip;go_simp;refine oA d l fun l=>?_
    clear d K;refine wR 8 fun K d=>?_
    go_simp;refine Jj (bM.o _) ?_;rintro e wz ⟨rfl,rfl⟩;refine d.o _ _ l fun l=>?_
    clear d K;refine wt 9 (.agg #[.slice U src.length sc,.slice bE wh.length H,.bool j,.slice J s.length L,.slice M u.length N,.slice O Q.length P,.slice T y.length dc,.slice none 0 0,.int .u64 (S:Int),.int .u64 (C:Int),.slice none 0 0,.slice none 0 0,.slice none 0 0]) l ?_;refine wR 11 fun K d=>?_
    go_simp;refine d.o _ _ ((bV _ _).drew) (fun l=>?_);clear d K;refine wD ?_
    try simp only[pU]
    go_wp2_with fail;go_meet;exact⟨rfl,lZ z _,l⟩
  ·skip;go_simp;refine oA d l fun l=>?_
   clear d K;refine wR 4 fun K d=>?_
   go_simp;refine Jj (cO.o _) ?_;rintro e wz ⟨rfl,rfl⟩;refine d.o _ _ l fun l=>?_
   clear d K;refine wR 8 fun K d=>?_
   go_simp;refine Jj (bM.o _) ?_;rintro e wz ⟨rfl,rfl⟩;refine d.o _ _ l fun l=>?_
   clear d K;refine wt 9 (.agg #[.slice U src.length sc,.slice bE wh.length H,.bool j,.slice J s.length L,.slice M u.length N,.slice O Q.length P,.slice T y.length dc,.slice none 0 0,.int .u64 (S:Int),.int .u64 (C:Int),.slice none 0 0,.slice none 0 0,.slice none 0 0]) l ?_;refine wR 11 fun K d=>?_
   go_simp;refine d.o _ _ ((bV _ _).drew) (fun l=>?_);clear d K;refine wD ?_
   try simp only[pU]
   go_wp2_with fail;go_meet;exact⟨rfl,lZ z _,l⟩
 case rest=>
 obtain⟨rfl,dI,bX⟩:=hcut;obtain⟨w3,gq⟩:∃ x,x=wc:=⟨_,rfl⟩
 subst gq;have rA:Hid (∀ x,Kept (fun b=>b≠z.heap.size) w3 x->Bw z x):=fun x hk=>bX.trans (hk.below bX.size (fun b I=>Nat.ne_of_lt I))
 have fA:Hid _:=dI;have gJ:=dI.lt;have n0:=cB bX bD;clear dI bX gm gp cO bM;go_wp2;go_loopw [26] (fun iv wr=>∃ k:Nat,k<=src.length/\iv=.int .i64 k/\∃ cv rv,Hid (GB wr z.heap.size 70 #[.slice U src.length sc,.slice bE wh.length H,.bool j,.slice J s.length L,.slice M u.length N,.slice O Q.length P,.slice T y.length dc,cv,.int .u64 (S:Int),.int .u64 (C:Int),rv,.slice none 0 0,.slice none 0 0])/\Hid (wr.ownsRow w3.heap.size 117 2 cv (bF ts src k).length ((bF ts src k).flatMap jh))/\Hid (wr.ownsRow w3.heap.size 39 1 rv (mV ts src k).length ((mV ts src k).map fun (x:Nat)=>.int .u64 (x:Int)))/\Hid (Kept (fun b=>b≠z.heap.size) w3 wr)) (fun iv _=>src.length-(intOf iv).toNat)
 case atStart=>exact⟨0,Zf _,rfl,.slice none 0 0,.slice none 0 0,fA.o,ZA _ _ _ _,ZA _ _ _ _,QR _ _⟩
 case round=>
  obtain⟨k,hk,rfl,cv,rv,HG,l9,yL,nO⟩:=hrel;have bg:=rA.o wr nO.o;have q0:=cB bg bD;by_cases bZ:k<src.length
  ·obtain⟨sb,so,rfl,eH⟩:=Qe (Qt bg HQ.o.src) bZ;have dP:=eH k bZ;obtain⟨eO,eP⟩:=zF Ck.o.src bZ;obtain⟨n,hn⟩:=Jh eO;have gN:wr.cell? (aD sb (so+k))=some (.int .i64 (n:Int)):=by rw[dP]; show some (Value.int .i64 (src.getD k 0))=_; rw[hn]
   have dQ:n<ts.length:=by have h:src.getD k 0<(ts.length:Int):=eP; rw[hn]at h; omega
   obtain⟨tb,iC,rfl,c0,c1,c2,c3,c4,c5⟩:=(bu.below bg HX.o).2 n dQ;have cZ:=zB Ck.o.cat dQ;have df:Hid (mV ts src (k+1)=mV ts src k++[(ts.getD n tz).rows.toNat]):=by
    show _=_
    rw[Pm];unfold jm;rw[ZY,show (src.getD k 0).toNat=n by rw[hn]; rfl]
   have CP:Hid (bF ts src (k+1)=bF ts src k++(List.range (ts.getD n tz).cols.toNat).map fun m=>(k,(ts.getD n tz).kd m)):=by
    show _=_
    rw[gL,show (src.getD k 0).toNat=n by rw[hn]; rfl]
   have dR:Hid (∀ m,(bF ts src k++((List.range (m+1)).map fun m=>(k,(ts.getD n tz).kd m))).flatMap jh=(bF ts src k++((List.range m).map fun m=>(k,(ts.getD n tz).kd m))).flatMap jh++jh (k,(ts.getD n tz).kd m)):=fun m=>by
    have:=aah ts src k m;rw[show (src.getD k 0).toNat=n by rw[hn]; rfl]at this;exact this
   have uz:Hid ((bF ts src k).length<=4*k):=A9 Ck.o.cat Ck.o.src cu k (by omega);have VS:=Zh (oF ts src k);unfold dX at cZ;rw[QE]at cZ;obtain⟨gu,gy,eQ,gz,eT⟩:=cZ;have TZ:=Zh eT;clear eH dP eO eP hn eT;generalize bF ts src k=CK at *;generalize ts.getD n tz=t at *;obtain⟨R,hR⟩:=Jh eQ;obtain⟨cn,dJ⟩:=Jh (show 0<=t.cols by omega);rw[hR]at c1 gz;rw[dJ]at c0 gu gy;rw[hR,ZY]at df;rw[dJ,ZY]at CP TZ;obtain⟨wb,dK,W,dL⟩:=aR wr #[.int .i64 (cn:Int),.int .i64 (R:Int),.int .i64 t.k0,.int .i64 t.k1,.int .i64 t.k2,.int .i64 t.k3] 50;have b1:=dL.at 1;clear hR dJ eQ;obtain⟨ra,rm,rc,rfl⟩:=Zr yL.o;have bP:=HG.o.of (W.block _ HG.o.lt);have fB:=bP.at 10;have bR:=Ji yL.o W;have dS:=QS nO.o.size W.size;obtain⟨v',w5,pW,rQ,bC,⟨va,vm,vc,rfl⟩,ag⟩:=Po wb w3.heap.size (.slice ra rm rc) (mV ts src k) bR (by rw[VS.o]; omega) dS R 67;rw[<- df.o]at rQ;obtain⟨g5,gY,oY,kY⟩:=zT Tryz.Pn bP bR rQ bC ag 10;have f5:=g5.at 10;have z5:=g5.frozen 10;obtain⟨Y,hY⟩:=eX (w5.setCell (aD z.heap.size 10) (.slice va vm vc))
   rw[hY]at gY oY kY;have dU:GB Y z.heap.size 70 #[.slice (some (aD sb so)) src.length sc,.slice bE wh.length H,.bool j,.slice J s.length L,.slice M u.length N,.slice O Q.length P,.slice T y.length dc,cv,.int .u64 (S:Int),.int .u64 (C:Int),.slice va vm vc,.slice none 0 0,.slice none 0 0]:=gY;have dh:wr.heap.size≠z.heap.size:=by have:=HG.o.lt; omega
   have di:∀ b,(Value.slice ra rm rc).ownBlock=some b->w3.heap.size<=b/\b<wr.heap.size:=fun b h=>Zq yL.o h
   have dm:=dL.keep kY ⟨dh,fun e=>by have:=(di _ e).2; omega⟩;have dn:=Zh ((nO.o.trans (QU W (fun b I _=>I))).trans' kY (fun b I h=>⟨h,fun e=>by have:=(di _ e).1; omega⟩));have dw:=Zh (Zp (Ji l9.o W) kY (fun g hg=>⟨fun e=>nG Tryz.Vy (Ji l9.o W) bP (by rw[hg,e]),zS Tryz.ah5 (Ji l9.o W) bR hg⟩));have y0:=dm.at 0;have dx:=hd dm;have dz:Hid _:=dU;have dA:Hid _:=oY;have Cs:Hid _:=dh;clear gY dU oY kY dm di rQ bC ag bR bP g5 dL yL l9 HG df dS nO dh;go_wp2_with (first | (at_builtin; refine X5 rfl (.tmp 36) (.tmp 40) 67 rfl (.slice ra rm rc) (.slice (some (aD wb.heap.size 0)) 1 1) (.slice va vm vc) w5 rfl rfl pW ?_));clear pW;go_wp2;clear hY dK f5 z5 fB b1 W;obtain⟨w9,Ci⟩:∃ x,x=wr:=⟨_,rfl⟩
   subst Ci;go_loopw [48] (fun jv wx=>∃ m:Nat,m<=cn/\jv=.int .i64 m/\∃ cx,Hid (GB wx z.heap.size 70 #[.slice (some (aD sb so)) src.length sc,.slice bE wh.length H,.bool j,.slice J s.length L,.slice M u.length N,.slice O Q.length P,.slice T y.length dc,cx,.int .u64 (S:Int),.int .u64 (C:Int),.slice va vm vc,.slice none 0 0,.slice none 0 0])/\Hid (wx.ownsRow w3.heap.size 117 2 cx (CK.length+m) ((CK++((List.range m).map fun m=>(k,t.kd m))).flatMap jh))/\Hid (wx.ownsRow w3.heap.size 39 1 (.slice va vm vc) (mV ts src (k+1)).length ((mV ts src (k+1)).map fun (x:Nat)=>.int .u64 (x:Int)))/\Hid (Kept (fun b=>b≠z.heap.size) w3 wx)/\Hid (GB wx w9.heap.size 50 #[.int .i64 (cn:Int),.int .i64 (R:Int),.int .i64 t.k0,.int .i64 t.k1,.int .i64 t.k2,.int .i64 t.k3])) (fun jv _=>cn-(intOf jv).toNat)
   case atStart=>exact⟨0,Zf _,rfl,cv,dz.o,by show Hid _; rw[List.range_zero,List.map_nil,XB]; exact dw.o,dA.o,dn.o,dx.o⟩
   case round=>
    obtain⟨m,hm,rfl,cx,bI,zP,bJ,Mv,bY⟩:=hrel;by_cases Uo:m<cn
    ·obtain⟨gB,eU⟩:=TZ.o m Uo;have fC:=ao6 bY.o (m:=m) (by omega);obtain⟨kn,eZ⟩:=Jh (show 0<=t.kd m by omega);have KO:=Zh (dR.o m);rw[eZ]at fC eU KO;clear gB eZ;obtain⟨ca,cm,cc,rfl⟩:=Zr zP.o;have f7:=bI.o.at 7;have fD:=Mv.o.size;obtain⟨v',w5,pW,rQ,bC,⟨na,nm,nc,rfl⟩,ag⟩:=adB wr w3.heap.size (.slice ca cm cc) (CK.length+m) _ zP.o (by have:=uz.o; omega) fD k (kn:Int) 64;rw[<- KO.o]at rQ;obtain⟨g5,gZ,oZ,kZ⟩:=zT Tryz.Vy bI.o zP.o rQ bC ag 7;have f5:=g5.at 7;have z5:=g5.frozen 7;obtain⟨Z,hZ⟩:=eX (w5.setCell (aD z.heap.size 7) (.slice na nm nc))
     rw[hZ]at gZ oZ kZ;have Vq:=hd gZ;have fE:Hid _:=oZ;have dV:=fun b h=>Zq zP.o (g:=b) h
     have fF:=Zh (bY.o.keep kZ ⟨Cs.o,nG Tryz.ao5 zP.o bY.o⟩);have fG:=Zh (Zp bJ.o kZ (fun g hg=>⟨fun e=>nG Tryz.Pn bJ.o bI.o (by rw[hg,e]),fun e=>zS Tryz.ah5 zP.o bJ.o e hg⟩));have fH:=Zh (Mv.o.trans' kZ (fun b I h=>⟨h,fun e=>by have:=(dV _ e).1; omega⟩));clear gZ oZ kZ bC ag g5 rQ dV KO bI zP bJ Mv bY dz dw dA dn dx CP;go_wp2_with (first | (at_builtin; refine X5 rfl (.tmp 53) (.tmp 58) 64 rfl (.slice ca cm cc) (.slice (some (aD wr.heap.size 0)) 1 1) (.slice na nm nc) w5 rfl rfl pW ?_));clear pW;go_wp2;go_roundw
     case rel=>exact⟨m+1,by omega,by go_num,.slice na nm nc,Vq.o,fE.o,fG.o,fH.o,fF.o⟩
     case measure=>simp[intOf]; omega
    ·obtain rfl:m=cn:=by omega
     clear dz dw dA dn dx dR;go_wp2;go_roundw
     case rel=>
      refine⟨k+1,by omega,by go_num,cx,.slice va vm vc,bI.o,?_,bJ.o,Mv.o⟩;have h:=zP.o;have e:=Zh CP.o
      show Hid _
      rw[e.o,ZC,ZB,Xd];exact h
     case measure=>simp[intOf]; omega
  ·obtain rfl:k=src.length:=by omega
   obtain⟨w4,gD⟩:∃ x,x=wr:=⟨_,rfl⟩
   subst gD;have uz:Hid ((bF ts src src.length).length<=4*src.length):=A9 Ck.o.cat Ck.o.src cu src.length (Qs _);obtain⟨ca,cc,rfl,-⟩:=D5 l9.o (by have:=uz.o; omega);obtain⟨ra,rc,rfl,-⟩:=qM yL.o (by rw[oF]; omega);rw[oF]at HG yL;obtain⟨CL,dM⟩:=eY (zi ts ⟨⟨U,sc,src⟩,bE,H,wh,j,⟨J,L,s⟩,⟨M,N,u⟩,⟨O,P,Q⟩,⟨T,dc,y⟩⟩)
   obtain⟨PL,dN⟩:=eY (wO ts ⟨⟨U,sc,src⟩,bE,H,wh,j,⟨J,L,s⟩,⟨M,N,u⟩,⟨O,P,Q⟩,⟨T,dc,y⟩⟩)
   have dW:=Zh dM;have dY:=Zh dN;have aX:Hid (CL.length=wh.length):=by rw[dM]; exact Iz ts ⟨⟨U,sc,src⟩,bE,H,wh,j,⟨J,L,s⟩,⟨M,N,u⟩,⟨O,P,Q⟩,⟨T,dc,y⟩⟩
   have aY:Hid (PL.length=wh.length):=by rw[dN]; exact IA ts ⟨⟨U,sc,src⟩,bE,H,wh,j,⟨J,L,s⟩,⟨M,N,u⟩,⟨O,P,Q⟩,⟨T,dc,y⟩⟩
   clear dM dN;have YN:Hid (∀ x,Kept (fun b=>b≠z.heap.size) w4 x->iQ x ca (bF ts src src.length)):=fun x hk=>by
    obtain⟨a,c,e,h⟩:=D5 (Zp l9.o hk (fun g hg e=>nG Tryz.Vy l9.o HG.o (by rw[hg,e]))) (by have:=uz.o; omega)
    cases e
    exact h
   have n1:=cB bg bN;clear bg q0 hk bZ;go_wp2;go_loopw [66] (fun iv wr=>∃ i:Nat,i<=wh.length/\iv=.int .i64 i/\∃ nv pv,Hid (GB wr z.heap.size 70 #[.slice U src.length sc,.slice bE wh.length H,.bool j,.slice J s.length L,.slice M u.length N,.slice O Q.length P,.slice T y.length dc,.slice ca (bF ts src src.length).length cc,.int .u64 (S:Int),.int .u64 (C:Int),.slice ra src.length rc,nv,pv])/\Hid (wr.ownsRow w4.heap.size 66 1 (nv) (CL.take i).length ((CL.take i).map fun (x:Nat)=>.int .u64 (x:Int)))/\Hid (wr.ownsRow w4.heap.size 39 1 (pv) (PL.take i).length ((PL.take i).map fun (x:Nat)=>.int .u64 (x:Int)))/\Hid (Kept (fun b=>b≠z.heap.size) w4 wr)) (fun iv _=>wh.length-(intOf iv).toNat)
   case atStart=>exact⟨0,Zf _,rfl,.slice none 0 0,.slice none 0 0,HG.o,ZA _ _ _ _,ZA _ _ _ _,QR _ _⟩
   case round=>
    obtain⟨i,hi,rfl,nv,pv,aZ,qF,ah,bf⟩:=hrel;have Pq:=rA.o wr (nO.o.trans bf.o);by_cases GH:i<wh.length
    ·obtain⟨cb,co,gF,fe⟩:=Qd (HQ.o.below Pq).wh.2.1 GH;have bS:wr.cell? (aD cb (co+i))=some ((wh.getD i lz).val):=fe i GH;obtain⟨ai,Ps⟩:∃ x,x=wh.getD i lz:=⟨_,rfl⟩
     have dB:bH wr ai.ad ai.cs:=by rw[Ps]; exact(HQ.o.below Pq).wh.2.2 i GH
     have bn:bH z ai.ad ai.cs:=by rw[Ps]; exact HQ.o.wh.2.2 i GH
     have iV:qU ts ⟨⟨U,sc,src⟩,bE,H,wh,j,⟨J,L,s⟩,⟨M,N,u⟩,⟨O,P,Q⟩,⟨T,dc,y⟩⟩ (aG ai.cs):=by rw[Ps]; exact Ck.o.cols i GH
     have au:0<ai.cs.length:=by rw[Ps]; exact Ck.o.some i GH
     have dZ:Hid (CL.getD i 0=aL (fI ts src ai.cs)):=by show _=_; rw[dW.o,Ps]; exact IC ts ⟨⟨U,sc,src⟩,bE,H,wh,j,⟨J,L,s⟩,⟨M,N,u⟩,⟨O,P,Q⟩,⟨T,dc,y⟩⟩ GH
     have ed:Hid (PL.getD i 0=jf ts src ai.cs):=by show _=_; rw[dY.o,Ps]; exact Au ts ⟨⟨U,sc,src⟩,bE,H,wh,j,⟨J,L,s⟩,⟨M,N,u⟩,⟨O,P,Q⟩,⟨T,dc,y⟩⟩ GH
     rw[<- Ps]at bS;clear Ps fe;subst gF;obtain⟨ad,aj,cs⟩:=ai;unfold az.val at bS;simp only at bS dB bn iV au dZ ed;obtain⟨w8,gG⟩:∃ x,x=wr:=⟨_,rfl⟩
     subst gG;obtain⟨X,xm,xc,rfl⟩:=Zr qF.o;obtain⟨pa,pm,pc,rfl⟩:=Zr ah.o;obtain⟨wb,dK,W,fo⟩:=aR w8 #[.slice ad cs.length aj] 81;have ak:=fo.at 0;have V:=Zh (aZ.o.of (W.block _ aZ.o.lt));have av:=Zh (Ji qF.o W);have ax:=Zh (Ji ah.o W);have dC:=Zh (bf.o.trans (QU W (fun b I _=>I)));have ek:Hid (w8.heap.size≠z.heap.size):=fun e=>by have:=aZ.o.lt; omega
     have bq:Hid (w8.heap.size≠z.heap.size/\(Value.slice X xm xc).ownBlock≠some w8.heap.size):=⟨ek.o,fun e=>by have:=(Zq qF.o e).2; omega⟩
     have fJ:Hid ((Value.slice pa pm pc).ownBlock≠some w8.heap.size):=fun e=>by have:=(Zq ah.o e).2; omega
     have fK:Hid _:=bH.below W dB;have fM:=hd bn;have eu:Hid _:=iV;have fO:=Zh au;have fP:=Zh (JO (by rw[aX.o]; exact GH));have fQ:=Zh (JO (by rw[aY.o]; exact GH));generalize CL.getD i 0=cgi at *;generalize PL.getD i 0=pgi at *;have bU:Hid (∀ x,Bw wb x->Cb 55 #[.agg #[.slice U src.length sc,.slice (some (aD cb co)) wh.length H,.bool j,.slice J s.length L,.slice M u.length N,.slice O Q.length P,.slice T y.length dc,.slice ca (bF ts src src.length).length cc,.int .u64 (S:Int),.int .u64 (C:Int),.slice ra src.length rc,.slice X xm xc,.slice pa pm pc],.agg #[.slice ad cs.length aj]] x (.int .u64 ((cgi:Nat):Int))):=fun x hx=>by
      have h:=L9 ⟨ca,cc,ra,rc,X,xm,xc,pa,pm,pc⟩ ts ⟨⟨U,sc,src⟩,some (aD cb co),H,wh,j,⟨J,L,s⟩,⟨M,N,u⟩,⟨O,P,Q⟩,⟨T,dc,y⟩⟩ ad aj cs x Ck.o (YN.o x (dC.o.trans (QU hx (fun b I _=>I)))) (bH.below hx (fK.o)) eu.o;simp only[aS.cells,aa.val,fZ]at h;rw[<- HS.o,<- cz.o]at h;rw[dZ.o];exact h
     have YO:Hid (∀ A,Bw wb A->∃ E F G B,(Builtin.append_ #[68,68] 68 #[.slice X xm xc,.slice (some (aD A.heap.size 0)) 1 1]).run Tryz.prog (A.alloc (.cells #[.int .u64 ((cgi:Nat):Int)] 66))=.ok (.slice E F G) B/\Kept (fun b=>b≠z.heap.size/\(Value.slice X xm xc).ownBlock≠some b) wb B/\
       B.cell? (aD z.heap.size 11)=some (.slice X xm xc)/\B.frozen? (aD z.heap.size 11)=false/\Kept (fun b=>b≠z.heap.size/\(Value.slice X xm xc).ownBlock≠some b) wb (B.setCell (aD z.heap.size 11) (.slice E F G))/\∃ nx,GB (B.setCell (aD z.heap.size 11) (.slice E F G)) z.heap.size 70 #[.slice U src.length sc,.slice (some (aD cb co)) wh.length H,.bool j,.slice J s.length L,.slice M u.length N,.slice O Q.length P,.slice T y.length dc,.slice ca (bF ts src src.length).length cc,.int .u64 (S:Int),.int .u64 (C:Int),.slice ra src.length rc,nx,.slice pa pm pc]/\(B.setCell (aD z.heap.size 11) (.slice E F G)).ownsRow w4.heap.size 66 1 (nx) (CL.take (i+1)).length ((CL.take (i+1)).map fun (x:Nat)=>.int .u64 (x:Int))/\(B.setCell (aD z.heap.size 11) (.slice E F G)).ownsRow w4.heap.size 39 1 (.slice pa pm pc) (PL.take i).length ((PL.take i).map fun (x:Nat)=>.int .u64 (x:Int))/\Kept (fun b=>b≠z.heap.size) w4 (B.setCell (aD z.heap.size 11) (.slice E F G))/\(B.setCell (aD z.heap.size 11) (.slice E F G)).cell? (aD w8.heap.size 0)=some (.slice ad cs.length aj)):=fun A r=>by
      have g6:=V.o.of (r.block _ V.o.lt);have o6:=Ji av.o r;have k6:Kept (fun _=>True) wb A:=QU r (fun b I _=>I);obtain⟨v',B,Ba,pX,iU,⟨E,F,G,rfl⟩,ag⟩:=adA A w4.heap.size (.slice X xm xc) (CL.take i) o6 (by rw[XF]; have:=aX.o; omega) (QS dC.o.size r.size) cgi 68;rw[<- fP.o]at pX;obtain⟨g7,gZ,oZ,kZ⟩:=zT Tryz.ah4 g6 o6 pX iU ag 11;refine⟨E,F,G,B,Ba,(k6.mono fun _ _ _=>trivial).trans (iU.mono fun _ _ h=>h.2),g7.cell 11,g7.frozen 11,(k6.mono fun _ _ _=>trivial).trans kZ,.slice E F G,gZ,oZ,Zp (Ji ax.o r) kZ (fun g hg=>⟨fun e=>nG Tryz.Pn (Ji ax.o r) g6 (by rw[hg,e]),fun e=>zS Tryz.ah6 o6 (Ji ax.o r) e hg⟩),dC.o.trans' ((k6.mono fun _ _ _=>trivial).trans kZ) (fun b I h=>⟨h,fun e=>by have:=(Zq av.o e).1; omega⟩),Zj (cB r ak) kZ bq.o⟩
     have fL:=V.o.at 11;have ay:=V.o.at 0;have aA:=V.o.at 1;have aB:=V.o.at 2;have aH:=V.o.at 3;have aI:=V.o.at 4;have aJ:=V.o.at 5;have aM:=V.o.at 6;have aN:=V.o.at 7;have aO:=V.o.at 8;have aP:=V.o.at 9;have Uq:=V.o.at 10;have eB:=V.o.at 12;clear fo W dB bn iV au aZ qF ah bf Pq HG l9 yL;go_upto_region 16 with fail;clear dK bS;go_cut [66] from 66 to 86 (fun iv wx=>iv=.int .i64 (i:Int)/\∃ nv,GB wx z.heap.size 70 #[.slice U src.length sc,.slice (some (aD cb co)) wh.length H,.bool j,.slice J s.length L,.slice M u.length N,.slice O Q.length P,.slice T y.length dc,.slice ca (bF ts src src.length).length cc,.int .u64 (S:Int),.int .u64 (C:Int),.slice ra src.length rc,nv,.slice pa pm pc]/\wx.ownsRow w4.heap.size 66 1 (nv) (CL.take (i+1)).length ((CL.take (i+1)).map fun (x:Nat)=>.int .u64 (x:Int))/\wx.ownsRow w4.heap.size 39 1 (.slice pa pm pc) (PL.take i).length ((PL.take i).map fun (x:Nat)=>.int .u64 (x:Int))/\Kept (fun b=>b≠z.heap.size) w4 wx/\wx.cell? (aD w8.heap.size 0)=some (.slice ad cs.length aj))
     case first=>
      refine QQ (S:=fun x=>Kept (fun b=>b≠z.heap.size/\(Value.slice X xm xc).ownBlock≠some b) wb x) (by kernel_rfl) (QU ((Qr _ _).drew) (fun b I _=>I)) (fun l=>?_);refine wt 0 (.pointer (some (aD z.heap.size 11))) l ?_;refine wT 3 (.agg #[.slice ad cs.length aj]) l (fun x hx=>?_) ?_
      ·have e0:=Zj ak hx bq.o;go_simp
      refine wJ 1 2 (fun K d=>?_) fun K d=>?_
      ·skip;go_simp;refine d.o _ _ l fun l=>?_
       clear d K;refine wR 2 fun K d=>?_
       go_simp;refine d.o _ _ l fun l=>?_
       clear d K;refine wR 4 fun K d=>?_
       go_simp;refine Jj (bU.o _ ((Qr _ _).drew)) ?_;rintro e A ⟨rfl,r⟩;have r:Bw wb A:=((Qr _ _).drew).trans r;have f6:=cB r fL;refine d.o _ _ (QU r (fun b I _=>I)) (fun l=>?_);clear d K;refine wR 5 fun K d=>?_
       go_simp;refine d.o _ _ (l.trans (QX _ _)) (fun l=>?_);clear d K;refine wR 6 fun K d=>?_
       obtain⟨E,F,G,B,Ba,D,f7,z7,Ma,Ur⟩:=YO.o A r;refine Jc (by rfl) _ _ _ (by rfl) (.slice X xm xc) (.slice (some (aD A.heap.size 0)) 1 1) (.slice E F G) B (by rfl) (by rfl) Ba ?_;refine d.o _ _ D fun l=>?_
       clear d K Ba;refine wR 7 fun K d=>?_
       go_simp;refine d.o _ _ l fun l=>?_
       clear d K;refine wR 8 fun K d=>?_
       go_simp;refine d.o _ _ Ma fun l=>?_
       clear d K;refine wD ?_
       try simp only[pU]
       go_wp2_with fail;go_meet;exact⟨rfl,Ur⟩
      ·skip;go_simp;refine d.o _ _ l fun l=>?_
       clear d K;refine wJ 1 4 (fun K d=>?_) fun K d=>?_
       ·skip;go_simp;refine d.o _ _ l fun l=>?_
        clear d K;refine wR 4 fun K d=>?_
        go_simp;refine Jj (bU.o _ ((Qr _ _).drew)) ?_;rintro e A ⟨rfl,r⟩;have r:Bw wb A:=((Qr _ _).drew).trans r;have f6:=cB r fL;refine d.o _ _ (QU r (fun b I _=>I)) (fun l=>?_);clear d K;refine wR 5 fun K d=>?_
        go_simp;refine d.o _ _ (l.trans (QX _ _)) (fun l=>?_);clear d K;refine wR 6 fun K d=>?_
        obtain⟨E,F,G,B,Ba,D,f7,z7,Ma,Ur⟩:=YO.o A r;refine Jc (by rfl) _ _ _ (by rfl) (.slice X xm xc) (.slice (some (aD A.heap.size 0)) 1 1) (.slice E F G) B (by rfl) (by rfl) Ba ?_;refine d.o _ _ D fun l=>?_
        clear d K Ba;refine wR 7 fun K d=>?_
        go_simp;refine d.o _ _ l fun l=>?_
        clear d K;refine wR 8 fun K d=>?_
        go_simp;refine d.o _ _ Ma fun l=>?_
        clear d K;refine wD ?_
        try simp only[pU]
        go_wp2_with fail;go_meet;exact⟨rfl,Ur⟩
       ·skip;go_simp;refine Jj (bU.o _ ((Qr _ _).drew)) ?_;rintro e A ⟨rfl,r⟩;have r:Bw wb A:=((Qr _ _).drew).trans r;have f6:=cB r fL;refine d.o _ _ (QU r (fun b I _=>I)) (fun l=>?_);clear d K;refine wJ 1 5 (fun K d=>?_) fun K d=>?_
        ·skip;go_simp;refine d.o _ _ l fun l=>?_
         clear d K;refine wR 5 fun K d=>?_
         go_simp;refine d.o _ _ (l.trans (QX _ _)) (fun l=>?_);clear d K;refine wR 6 fun K d=>?_
         obtain⟨E,F,G,B,Ba,D,f7,z7,Ma,Ur⟩:=YO.o A r;refine Jc (by rfl) _ _ _ (by rfl) (.slice X xm xc) (.slice (some (aD A.heap.size 0)) 1 1) (.slice E F G) B (by rfl) (by rfl) Ba ?_;refine d.o _ _ D fun l=>?_
         clear d K Ba;refine wR 7 fun K d=>?_
         go_simp;refine d.o _ _ l fun l=>?_
         clear d K;refine wR 8 fun K d=>?_
         go_simp;refine d.o _ _ Ma fun l=>?_
         clear d K;refine wD ?_
         try simp only[pU]
         go_wp2_with fail;go_meet;exact⟨rfl,Ur⟩
        ·skip;go_simp;refine d.o _ _ (l.trans (QX _ _)) (fun l=>?_);clear d K;have fT:(A.alloc (.cells #[.int .u64 (cgi:Int)] 66)).cell? (aD z.heap.size 11)=some (.slice X xm xc):=cB (bV _ _) f6;refine wR 1 fun K d=>?_
         go_simp;refine d.o _ _ l fun l=>?_
         clear d K;refine wR 6 fun K d=>?_
         obtain⟨E,F,G,B,Ba,D,f7,z7,Ma,Ur⟩:=YO.o A r;refine Jc (by rfl) _ _ _ (by rfl) (.slice X xm xc) (.slice (some (aD A.heap.size 0)) 1 1) (.slice E F G) B (by rfl) (by rfl) Ba ?_;refine d.o _ _ D fun l=>?_
         clear d K Ba;refine wR 7 fun K d=>?_
         go_simp;refine d.o _ _ l fun l=>?_
         clear d K;refine wR 8 fun K d=>?_
         go_simp;refine d.o _ _ Ma fun l=>?_
         clear d K;refine wD ?_
         try simp only[pU]
         go_wp2_with fail;go_meet;exact⟨rfl,Ur⟩
     case rest=>
      obtain⟨rfl,nv,h1,h2,h3,h4,h5⟩:=hcut;obtain⟨wd,gH⟩:∃ x,x=wc:=⟨_,rfl⟩
      subst gH;clear YO bU V av ax ay aA aB aH aI aJ aM aN aO aP Uq eB fL bq;obtain⟨na,nm,nc,rfl⟩:=Zr h2;have V:=hd h1;have av:=hd h2;have ax:=hd h3;have ak:=h5;have bW:=hd h4;clear h1 h2 h3 h4 h5;have fU:=Zh (bH.below (rA.o wd (nO.o.trans bW.o)) fM.o);have fV:=Zh fJ.o;obtain⟨X,ha⟩:∃ x,x=pa:=⟨_,rfl⟩
      obtain⟨xm,hm⟩:∃ x,x=pm:=⟨_,rfl⟩
      obtain⟨xc,hc⟩:∃ x,x=pc:=⟨_,rfl⟩
      subst ha hm hc;have dD:Hid (∀ x,Bw wd x->Cb 56 #[.agg #[.slice U src.length sc,.slice (some (aD cb co)) wh.length H,.bool j,.slice J s.length L,.slice M u.length N,.slice O Q.length P,.slice T y.length dc,.slice ca (bF ts src src.length).length cc,.int .u64 (S:Int),.int .u64 (C:Int),.slice ra src.length rc,.slice na nm nc,.slice X xm xc],.agg #[.slice ad cs.length aj]] x (.int .u64 ((pgi:Nat):Int))):=fun x hx=>by
       have h:=Un ⟨ca,cc,ra,rc,na,nm,nc,X,xm,xc⟩ ts ⟨⟨U,sc,src⟩,some (aD cb co),H,wh,j,⟨J,L,s⟩,⟨M,N,u⟩,⟨O,P,Q⟩,⟨T,dc,y⟩⟩ ad aj cs x Ck.o (YN.o x (bW.o.trans (QU hx (fun b I _=>I)))) (bH.below hx (fU.o)) fO.o eu.o;simp only[aS.cells,aa.val,fZ]at h;rw[<- HS.o,<- cz.o]at h;rw[ed.o];exact h
      have YO:Hid (∀ A,Bw wd A->∃ E F G B,(Builtin.append_ #[67,67] 67 #[.slice X xm xc,.slice (some (aD A.heap.size 0)) 1 1]).run Tryz.prog (A.alloc (.cells #[.int .u64 ((pgi:Nat):Int)] 39))=.ok (.slice E F G) B/\Kept (fun b=>b≠z.heap.size/\(Value.slice X xm xc).ownBlock≠some b) wd B/\
        B.cell? (aD z.heap.size 12)=some (.slice X xm xc)/\B.frozen? (aD z.heap.size 12)=false/\Kept (fun b=>b≠z.heap.size/\(Value.slice X xm xc).ownBlock≠some b) wd (B.setCell (aD z.heap.size 12) (.slice E F G))/\∃ nx,GB (B.setCell (aD z.heap.size 12) (.slice E F G)) z.heap.size 70 #[.slice U src.length sc,.slice (some (aD cb co)) wh.length H,.bool j,.slice J s.length L,.slice M u.length N,.slice O Q.length P,.slice T y.length dc,.slice ca (bF ts src src.length).length cc,.int .u64 (S:Int),.int .u64 (C:Int),.slice ra src.length rc,.slice na nm nc,nx]/\(B.setCell (aD z.heap.size 12) (.slice E F G)).ownsRow w4.heap.size 66 1 (.slice na nm nc) (CL.take (i+1)).length ((CL.take (i+1)).map fun (x:Nat)=>.int .u64 (x:Int))/\(B.setCell (aD z.heap.size 12) (.slice E F G)).ownsRow w4.heap.size 39 1 (nx) (PL.take (i+1)).length ((PL.take (i+1)).map fun (x:Nat)=>.int .u64 (x:Int))/\Kept (fun b=>b≠z.heap.size) w4 (B.setCell (aD z.heap.size 12) (.slice E F G))):=fun A r=>by
       have g6:=V.o.of (r.block _ V.o.lt);have o6:=Ji ax.o r;have k6:Kept (fun _=>True) wd A:=QU r (fun b I _=>I);obtain⟨v',B,Ba,pX,iU,⟨E,F,G,rfl⟩,ag⟩:=Po A w4.heap.size (.slice X xm xc) (PL.take i) o6 (by rw[XF]; have:=aY.o; omega) (QS bW.o.size r.size) pgi 67;rw[<- fQ.o]at pX;obtain⟨g7,gZ,oZ,kZ⟩:=zT Tryz.Pn g6 o6 pX iU ag 12;refine⟨E,F,G,B,Ba,(k6.mono fun _ _ _=>trivial).trans (iU.mono fun _ _ h=>h.2),g7.cell 12,g7.frozen 12,(k6.mono fun _ _ _=>trivial).trans kZ,.slice E F G,gZ,Zp (Ji av.o r) kZ (fun g hg=>⟨fun e=>nG Tryz.ah4 (Ji av.o r) g6 (by rw[hg,e]),fun e=>zS Tryz.ah6 (Ji av.o r) o6 hg e⟩),oZ,bW.o.trans' ((k6.mono fun _ _ _=>trivial).trans kZ) (fun b I h=>⟨h,fun e=>by have:=(Zq ax.o e).1; omega⟩)⟩
      have fL:=V.o.at 12;have bq:Hid (w8.heap.size≠z.heap.size/\(Value.slice X xm xc).ownBlock≠some w8.heap.size):=⟨ek.o,fV.o⟩
      have ay:=V.o.at 0;have aA:=V.o.at 1;have aB:=V.o.at 2;have aH:=V.o.at 3;have aI:=V.o.at 4;have aJ:=V.o.at 5;have aM:=V.o.at 6;have aN:=V.o.at 7;have aO:=V.o.at 8;have aP:=V.o.at 9;have Uq:=V.o.at 10;have bz:=V.o.at 11;go_upto_region 17 with fail;refine QQ (S:=fun x=>Kept (fun b=>b≠z.heap.size/\(Value.slice X xm xc).ownBlock≠some b) wd x) (by kernel_rfl) (QU ((Qr _ _).drew) (fun b I _=>I)) (fun l=>?_);refine wt 0 (.pointer (some (aD z.heap.size 12))) l ?_;refine wT 3 (.agg #[.slice ad cs.length aj]) l (fun x hx=>?_) ?_
      ·have e0:=Zj ak hx bq.o;go_simp
      refine wJ 1 2 (fun K d=>?_) fun K d=>?_
      ·skip;go_simp;refine d.o _ _ l fun l=>?_
       clear d K;refine wR 2 fun K d=>?_
       go_simp;refine d.o _ _ l fun l=>?_
       clear d K;refine wR 4 fun K d=>?_
       go_simp;refine Jj (dD.o _ ((Qr _ _).drew)) ?_;rintro e A ⟨rfl,r⟩;have r:Bw wd A:=((Qr _ _).drew).trans r;have f6:=cB r fL;refine d.o _ _ (QU r (fun b I _=>I)) (fun l=>?_);clear d K;refine wR 5 fun K d=>?_
       go_simp;refine d.o _ _ (l.trans (QX _ _)) (fun l=>?_);clear d K;refine wR 6 fun K d=>?_
       obtain⟨E,F,G,B,Ba,D,f7,z7,Ma,Ur⟩:=YO.o A r;refine Jc (by rfl) _ _ _ (by rfl) (.slice X xm xc) (.slice (some (aD A.heap.size 0)) 1 1) (.slice E F G) B (by rfl) (by rfl) Ba ?_;refine d.o _ _ D fun l=>?_
       clear d K Ba;refine wR 7 fun K d=>?_
       go_simp;refine d.o _ _ l fun l=>?_
       clear d K;refine wR 8 fun K d=>?_
       go_simp;refine d.o _ _ Ma fun l=>?_
       clear d K;refine wD ?_
       try simp only[pU]
       obtain⟨nx,r1,r2,r3,r4⟩:=Ur;have aQ:Hid _:=r1;have aT:Hid _:=r2;have aU:Hid _:=r3;have aV:=Zh r4;clear r1 r2 r3 r4 f7 z7 Ma D f6 ak l fL ay aA aB aH aI aJ aM aN aO aP Uq bz;go_wp2;go_roundw
       case rel=>exact⟨i+1,by omega,by go_num,.slice na nm nc,nx,aQ.o,aT.o,aU.o,aV.o⟩
       case measure=>simp[intOf]; omega
      ·skip;go_simp;refine d.o _ _ l fun l=>?_
       clear d K;refine wJ 1 4 (fun K d=>?_) fun K d=>?_
       ·skip;go_simp;refine d.o _ _ l fun l=>?_
        clear d K;refine wR 4 fun K d=>?_
        go_simp;refine Jj (dD.o _ ((Qr _ _).drew)) ?_;rintro e A ⟨rfl,r⟩;have r:Bw wd A:=((Qr _ _).drew).trans r;have f6:=cB r fL;refine d.o _ _ (QU r (fun b I _=>I)) (fun l=>?_);clear d K;refine wR 5 fun K d=>?_
        go_simp;refine d.o _ _ (l.trans (QX _ _)) (fun l=>?_);clear d K;refine wR 6 fun K d=>?_
        obtain⟨E,F,G,B,Ba,D,f7,z7,Ma,Ur⟩:=YO.o A r;refine Jc (by rfl) _ _ _ (by rfl) (.slice X xm xc) (.slice (some (aD A.heap.size 0)) 1 1) (.slice E F G) B (by rfl) (by rfl) Ba ?_;refine d.o _ _ D fun l=>?_
        clear d K Ba;refine wR 7 fun K d=>?_
        go_simp;refine d.o _ _ l fun l=>?_
        clear d K;refine wR 8 fun K d=>?_
        go_simp;refine d.o _ _ Ma fun l=>?_
        clear d K;refine wD ?_
        try simp only[pU]
        obtain⟨nx,r1,r2,r3,r4⟩:=Ur;have aQ:Hid _:=r1;have aT:Hid _:=r2;have aU:Hid _:=r3;have aV:=Zh r4;clear r1 r2 r3 r4 f7 z7 Ma D f6 ak l fL ay aA aB aH aI aJ aM aN aO aP Uq bz;go_wp2;go_roundw
        case rel=>exact⟨i+1,by omega,by go_num,.slice na nm nc,nx,aQ.o,aT.o,aU.o,aV.o⟩
        case measure=>simp[intOf]; omega
       ·skip;go_simp;refine Jj (dD.o _ ((Qr _ _).drew)) ?_;rintro e A ⟨rfl,r⟩;have r:Bw wd A:=((Qr _ _).drew).trans r;have f6:=cB r fL;refine d.o _ _ (QU r (fun b I _=>I)) (fun l=>?_);clear d K;refine wJ 1 5 (fun K d=>?_) fun K d=>?_
        ·skip;go_simp;refine d.o _ _ l fun l=>?_
         clear d K;refine wR 5 fun K d=>?_
         go_simp;refine d.o _ _ (l.trans (QX _ _)) (fun l=>?_);clear d K;refine wR 6 fun K d=>?_
         obtain⟨E,F,G,B,Ba,D,f7,z7,Ma,Ur⟩:=YO.o A r;refine Jc (by rfl) _ _ _ (by rfl) (.slice X xm xc) (.slice (some (aD A.heap.size 0)) 1 1) (.slice E F G) B (by rfl) (by rfl) Ba ?_;refine d.o _ _ D fun l=>?_
         clear d K Ba;refine wR 7 fun K d=>?_
         go_simp;refine d.o _ _ l fun l=>?_
         clear d K;refine wR 8 fun K d=>?_
         go_simp;refine d.o _ _ Ma fun l=>?_
         clear d K;refine wD ?_
         try simp only[pU]
         obtain⟨nx,r1,r2,r3,r4⟩:=Ur;have aQ:Hid _:=r1;have aT:Hid _:=r2;have aU:Hid _:=r3;have aV:=Zh r4;clear r1 r2 r3 r4 f7 z7 Ma D f6 ak l fL ay aA aB aH aI aJ aM aN aO aP Uq bz;go_wp2;go_roundw
         case rel=>exact⟨i+1,by omega,by go_num,.slice na nm nc,nx,aQ.o,aT.o,aU.o,aV.o⟩
         case measure=>simp[intOf]; omega
        ·skip;go_simp;refine d.o _ _ (l.trans (QX _ _)) (fun l=>?_);clear d K;have fT:(A.alloc (.cells #[.int .u64 (pgi:Int)] 39)).cell? (aD z.heap.size 12)=some (.slice X xm xc):=cB (bV _ _) f6;refine wR 1 fun K d=>?_
         go_simp;refine d.o _ _ l fun l=>?_
         clear d K;refine wR 6 fun K d=>?_
         obtain⟨E,F,G,B,Ba,D,f7,z7,Ma,Ur⟩:=YO.o A r;refine Jc (by rfl) _ _ _ (by rfl) (.slice X xm xc) (.slice (some (aD A.heap.size 0)) 1 1) (.slice E F G) B (by rfl) (by rfl) Ba ?_;refine d.o _ _ D fun l=>?_
         clear d K Ba;refine wR 7 fun K d=>?_
         go_simp;refine d.o _ _ l fun l=>?_
         clear d K;refine wR 8 fun K d=>?_
         go_simp;refine d.o _ _ Ma fun l=>?_
         clear d K;refine wD ?_
         try simp only[pU]
         obtain⟨nx,r1,r2,r3,r4⟩:=Ur;have aQ:Hid _:=r1;have aT:Hid _:=r2;have aU:Hid _:=r3;have aV:=Zh r4;clear r1 r2 r3 r4 f7 z7 Ma D f6 ak l fL ay aA aB aH aI aJ aM aN aO aP Uq bz;go_wp2;go_roundw
         case rel=>exact⟨i+1,by omega,by go_num,.slice na nm nc,nx,aQ.o,aT.o,aU.o,aV.o⟩
         case measure=>simp[intOf]; omega
    ·obtain rfl:i=wh.length:=by omega
     obtain⟨w5,NL⟩:∃ x,x=wr:=⟨_,rfl⟩
     subst NL;rw[X0 (by rw[aX.o]; exact Qs _)]at qF;rw[X0 (by rw[aY.o]; exact Qs _)]at ah;obtain⟨na,nc,rfl,gI⟩:=qM qF.o (by rw[aX.o]; omega);obtain⟨pa,pc,rfl,Wz⟩:=qM ah.o (by rw[aY.o]; omega);have eD:=aZ.o;have vU:=(show GB z w1.heap.size 70 #[.slice none 0 0,.slice none 0 0,.bool false,.slice none 0 0,.slice none 0 0,.slice none 0 0,.slice none 0 0,.slice none 0 0,.int .u64 0,.int .u64 0,.slice none 0 0,.slice none 0 0,.slice none 0 0] from tY.o).of (Pq.block _ (show GB z w1.heap.size 70 #[.slice none 0 0,.slice none 0 0,.bool false,.slice none 0 0,.slice none 0 0,.slice none 0 0,.slice none 0 0,.slice none 0 0,.int .u64 0,.int .u64 0,.slice none 0 0,.slice none 0 0,.slice none 0 0] from tY.o).lt);have gP:=(show GB z w1.heap.size 70 #[.slice none 0 0,.slice none 0 0,.bool false,.slice none 0 0,.slice none 0 0,.slice none 0 0,.slice none 0 0,.slice none 0 0,.int .u64 0,.int .u64 0,.slice none 0 0,.slice none 0 0,.slice none 0 0] from tY.o).lt;have bB:=World.sH w5 w1.heap.size (.slice U src.length sc) (.slice bE wh.length H) (.bool j) (.slice J s.length L) (.slice M u.length N) (.slice O Q.length P) (.slice T y.length dc) (.slice ca (bF ts src src.length).length cc) (.int .u64 (S:Int)) (.int .u64 (C:Int)) (.slice ra src.length rc) (.slice na CL.length nc) (.slice pa PL.length pc);have qV:=Zh (vL (World.zU vU (.slice U src.length sc) (.slice bE wh.length H) (.bool j) (.slice J s.length L) (.slice M u.length N) (.slice O Q.length P) (.slice T y.length dc) (.slice ca (bF ts src src.length).length cc) (.int .u64 (S:Int)) (.int .u64 (C:Int)) (.slice ra src.length rc) (.slice na CL.length nc) (.slice pa PL.length pc)));have aW:∀ {e:TypeId} {base sz n:Nat} {v:Value} {xs:List Value},z.heap.size<=base->w5.ownsRow base e sz v n xs->(World.mO w5 w1.heap.size (.slice U src.length sc) (.slice bE wh.length H) (.bool j) (.slice J s.length L) (.slice M u.length N) (.slice O Q.length P) (.slice T y.length dc) (.slice ca (bF ts src src.length).length cc) (.int .u64 (S:Int)) (.int .u64 (C:Int)) (.slice ra src.length rc) (.slice na CL.length nc) (.slice pa PL.length pc)).ownsRow base e sz v n xs:=fun I h=>Zp h bB (fun g hg e=>by have:=(Zq h hg).1; omega)
     have gQ:=nO.o.size;have gT:=dO.o;have dE:Bw w (World.mO w5 w1.heap.size (.slice U src.length sc) (.slice bE wh.length H) (.bool j) (.slice J s.length L) (.slice M u.length N) (.slice O Q.length P) (.slice T y.length dc) (.slice ca (bF ts src src.length).length cc) (.int .u64 (S:Int)) (.int .u64 (C:Int)) (.slice ra src.length rc) (.slice na CL.length nc) (.slice pa PL.length pc)):=by
      have h1:=Ua.o.trans (Pq.mono Ua.o.size);exact h1.trans (bB.below h1.size (fun b I=>by have:=fw.o.size; have:=dO.o; omega))
     have jH:Hid (∃ f:aS,Ending.returned (.agg #[.slice U src.length sc,.slice bE wh.length H,.bool j,.slice J s.length L,.slice M u.length N,.slice O Q.length P,.slice T y.length dc,.slice ca (bF ts src src.length).length cc,.int .u64 (S:Int),.int .u64 (C:Int),.slice ra src.length rc,.slice na CL.length nc,.slice pa PL.length pc])=.returned (.agg (f.cells ts ⟨⟨U,sc,src⟩,bE,H,wh,j,⟨J,L,s⟩,⟨M,N,u⟩,⟨O,P,Q⟩,⟨T,dc,y⟩⟩))/\f.At ts ⟨⟨U,sc,src⟩,bE,H,wh,j,⟨J,L,s⟩,⟨M,N,u⟩,⟨O,P,Q⟩,⟨T,dc,y⟩⟩ (World.mO w5 w1.heap.size (.slice U src.length sc) (.slice bE wh.length H) (.bool j) (.slice J s.length L) (.slice M u.length N) (.slice O Q.length P) (.slice T y.length dc) (.slice ca (bF ts src src.length).length cc) (.int .u64 (S:Int)) (.int .u64 (C:Int)) (.slice ra src.length rc) (.slice na CL.length nc) (.slice pa PL.length pc))/\f.New w.heap.size/\Bw w (World.mO w5 w1.heap.size (.slice U src.length sc) (.slice bE wh.length H) (.bool j) (.slice J s.length L) (.slice M u.length N) (.slice O Q.length P) (.slice T y.length dc) (.slice ca (bF ts src src.length).length cc) (.int .u64 (S:Int)) (.int .u64 (C:Int)) (.slice ra src.length rc) (.slice na CL.length nc) (.slice pa PL.length pc))):=by
      refine⟨⟨ca,cc,ra,rc,na,CL.length,nc,pa,PL.length,pc⟩,?_,⟨?_,?_,?_,?_,?_,?_,?_⟩,⟨?_,?_,?_,?_⟩,dE⟩
      ·simp only[aS.cells,aa.val,fZ];rw[<- HS.o,<- cz.o]
      ·exact fu.o.below dE
      ·have dF:Kept (fun b=>b≠z.heap.size/\b≠w1.heap.size) w4 (World.mO w5 w1.heap.size (.slice U src.length sc) (.slice bE wh.length H) (.bool j) (.slice J s.length L) (.slice M u.length N) (.slice O Q.length P) (.slice T y.length dc) (.slice ca (bF ts src src.length).length cc) (.int .u64 (S:Int)) (.int .u64 (C:Int)) (.slice ra src.length rc) (.slice na CL.length nc) (.slice pa PL.length pc)):=(bf.o.mono fun _ _ h=>h.1).trans (bB.mono fun _ _ h=>h.2);obtain⟨a,c,e,h⟩:=D5 (Zp l9.o dF (fun g hg=>⟨fun e=>nG Tryz.Vy l9.o HG.o (by rw[hg,e]),by have:=(Zq l9.o hg).1; omega⟩)) (by have:=uz.o; omega)
       cases e
       exact h
      ·have dF:Kept (fun b=>b≠z.heap.size/\b≠w1.heap.size) w4 (World.mO w5 w1.heap.size (.slice U src.length sc) (.slice bE wh.length H) (.bool j) (.slice J s.length L) (.slice M u.length N) (.slice O Q.length P) (.slice T y.length dc) (.slice ca (bF ts src src.length).length cc) (.int .u64 (S:Int)) (.int .u64 (C:Int)) (.slice ra src.length rc) (.slice na CL.length nc) (.slice pa PL.length pc)):=(bf.o.mono fun _ _ h=>h.1).trans (bB.mono fun _ _ h=>h.2);obtain⟨a,c,e,h⟩:=qM (Zp yL.o dF (fun g hg=>⟨fun e=>nG Tryz.Pn yL.o HG.o (by rw[hg,e]),by have:=(Zq yL.o hg).1; omega⟩)) (by rw[oF]; omega);rw[oF]at e
       cases e
       exact h
      ·obtain⟨a,c,e,h⟩:=qM (aW (by omega) qF.o) (by rw[aX.o]; omega)
       cases e
       rw[<- dW.o];exact h
      ·obtain⟨a,c,e,h⟩:=qM (aW (by omega) ah.o) (by rw[aY.o]; omega)
       cases e
       rw[<- dY.o];exact h
      ·exact aX.o
      ·exact aY.o
      ·rintro a rfl;have:=(Zq l9.o (g:=a.block) rfl).1;omega
      ·rintro a rfl;have:=(Zq yL.o (g:=a.block) rfl).1;omega
      ·rintro a rfl;have:=(Zq qF.o (g:=a.block) rfl).1;omega
      ·rintro a rfl;have:=(Zq ah.o (g:=a.block) rfl).1;omega
     unfold World.mO at jH qV;obtain⟨ay,aA,aB,aH,aI,aJ,aM,aN,aO,aP,Uq,bz,eB⟩:=eD.k13;obtain⟨iD,iE,iF,iG,iH,iI,iJ,iK,iL,iM,iN,iO,iP⟩:=vU.k13;have gU:=vU.frozen 0;have gV:=vU.frozen 1;have gW:=vU.frozen 2;have gX:=vU.frozen 3;have ib:=vU.frozen 4;have ic:=vU.frozen 5;have ik:=vU.frozen 6;have il:=vU.frozen 7;have iq:=vU.frozen 8;have iw:=vU.frozen 9;have iy:=vU.frozen 10;have iA:=vU.frozen 11;have iB:=vU.frozen 12;clear eD vU bB aW dE aZ qF ah bf HG l9 yL gI Wz YN;go_wp2;exact ZN (Jk (p:=4) rfl rfl qV.o) rfl jH.o
