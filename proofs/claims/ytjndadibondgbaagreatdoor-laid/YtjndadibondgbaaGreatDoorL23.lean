import Derived.Test.YtjndadibondgbaaGreatDoorL08
import Derived.Test.YtjndadibondgbaaGreatDoorL22
set_option linter.all false
set_option maxRecDepth 100000
set_option maxHeartbeats 16000000
namespace Go.Proofs.Zz
open Go.RowKit Go.Shelf
variable {dA k kc sc:List Int} {ks:List (List Int)} {q:ae} {ts:List af}
def nnV(v:Int):Int:=if v=1073741824 then 0 else v
def okV(v:Int):Prop:=v=1073741824∨(-1000<=v/\v<=1000)
def FV(dA:List Int):Nat:=(dA.filter fun v=>!decide (v=1073741824)).length
def yY(dA:List Int):Int:=(dA.map nnV).sum
def lT(dA:List Int):Int:=if FV dA=0 then 1073741824 else yY dA
theorem V9(dA:List Int)(v:Int):FV (dA++[v])=if v=1073741824 then FV dA else FV dA+1:=by
 unfold FV;rw[Zi,ZC];by_cases h:v=1073741824
 ·rw[Qu h]; simp[h]
 ·rw[Qv h]; simp[h]
theorem Wd(dA:List Int)(v:Int):yY (dA++[v])=if v=1073741824 then yY dA else yY dA+v:=by
 unfold yY;rw[Qn,List.sum_append];by_cases h:v=1073741824
 ·rw[Qu h]; simp[nnV,h]
 ·rw[Qv h]; simp[nnV,h]
theorem U3:∀ (dA:List Int),(∀ v∈dA,okV v)->-(1000*(dA.length:Int))<=yY dA/\yY dA<=1000*(dA.length:Int)
 | [],_ => by simp[yY]
 | v::dA,h => by
  have ih:=U3 dA (fun x hx=>h x (by simp[hx]));have h1:=h v (by simp);have e:yY (v::dA)=nnV v+yY dA:=by simp[yY]
  rw[e,Q7];have h2:-1000<=nnV v/\nnV v<=1000:=by
   unfold nnV okV at *;split <;> omega
  omega
theorem We(h:FV dA=0):yY dA=0:=by
 unfold FV at h;have b:=QF h;rw[XJ]at b;unfold yY;have:dA.map nnV=dA.map (fun _=>(0:Int)):=Xw fun v d=>by
  have:=b v d;simp at this;simp[nnV,this]
 rw[this];clear this h b
 induction dA with
 | nil => rfl
 | cons a l ih => rw[XH,Z8,ih]; rfl
def pR(kc sc:List Int)(rows:List (List Int)):List Int:=au (rows.headD []) kc++[(rows.length:Int)]++sc.map fun c=>lT (rows.map fun r=>r.getD c.toNat 0)
theorem Nr{v:Int}(hc:∀ x∈dA,okV x)(_hv:okV v)(hl:dA.length<=100000):FU (lT dA) v=lT (dA++[v]):=by
 unfold FU lT;rw[V9,Wd];by_cases h:v=1073741824
 ·rw[Qu h,Qu h,Qu h]
 ·rw[Qv h,Qv h,Qv h];have b:=U3 dA hc;by_cases a:FV dA=0
  ·rw[Qu a,Qu rfl,Qv (by omega),We a];omega
  ·rw[Qv a,Qv (by omega),Qv (by omega)]
theorem U4{sc:List Int}:∀ (R P:List (List Int)) (g:Gr),(∀ r∈P++R,∀ c∈sc,okV (r.getD c.toNat 0))->(P++R).length<=100000->g.cnt=P.length->g.ss=sc.map (fun c=>lT (P.map fun r=>r.getD c.toNat 0))->
  R.foldl (fun g r=>rO r sc g) g=⟨g.key,(P++R).length,sc.map fun c=>lT ((P++R).map fun r=>r.getD c.toNat 0)⟩
 | [],P,g,_,_,h1,h2 => by
  rw[XB];obtain⟨k,n,s⟩:=g;simp only at h1 h2;subst h1 h2;rfl
 | r::R,P,g,h,hl,h1,h2 => by
  rw[Z0];have e:P++r::R=(P++[r])++R:=by simp
  have:=U4 R (P++[r]) (rO r sc g) (by rw[<- e]; exact h) (by rw[<- e]; exact hl) (by show g.cnt+1=_; rw[h1]; simp) (by
   show jV g.ss r sc=_
   rw[h2];unfold jV;rw[List.zipWith_map_left];apply XK (by simp);intro i f a;have b:i<sc.length:=by simpa using a
   simp only[List.getElem_zipWith,XM,Qn,XH,List.map_nil];refine Nr (fun x j=>?_) (h r (by simp) _ (Qk b)) ?_
   ·obtain⟨p,d,rfl⟩:=ZU.1 j;exact h p (by simp[d]) _ (Qk b)
   ·rw[ZB];rw[ZC]at hl;omega)
  rw[this,e];rfl
theorem U5(R:List (List Int))(key:List Int)(h:∀ r∈R,∀ c∈sc,okV (r.getD c.toNat 0))(hl:R.length<=100000) :
  (R.foldl (fun g r=>rO r sc g) (oV key sc.length)).row=key++[(R.length:Int)]++sc.map fun c=>lT (R.map fun r=>r.getD c.toNat 0):=by
 have:=U4 (sc:=sc) R [] (oV key sc.length) (by simpa using h) (by simpa using hl) rfl (by
  show List.replicate sc.length (1073741824:Int)=_
  apply XK (by simp);intro i _ _;simp[lT,FV])
 rw[this,Zd];rfl
def mD(kc sc:List Int):Nat->List (List Int)->List (List Int)
 | 0,_ => []
 | _+1,[] => []
 | n+1,r::rs => pR kc sc ((r::rs).filter fun x => decide (au x kc=au r kc))::mD kc sc n ((r::rs).filter fun x => !decide (au x kc=au r kc))
def oW(kc:List Int)(gs:List Gr)(x:List Int):Bool:=(gs.map Gr.key).any fun k=>decide (k=au x kc)
theorem rP{r:List Int}{rs:List (List Int)}:((r::rs).filter fun x=>!decide (au x kc=au r kc))=rs.filter fun x=>!decide (au x kc=au r kc):=by
 rw[Xo (by simp)]
theorem Sb{i:Nat}(h:jr ks k=some i):∃ a:i<ks.length,ks[i]=k:=by
 unfold jr at h;rw[List.findIdx?_eq_some_iff_getElem]at h;obtain⟨a,b,_⟩:=h;exact⟨a,by simpa using b⟩
theorem Sc(h:jr ks k=none):∀ a∈ks,a≠k:=by
 unfold jr at h;rw[List.findIdx?_eq_none_iff]at h;intro a b e;have:=h a b;rw[Qf]at this;exact this e
theorem pV{kc sc:List Int}:∀ (rows:List (List Int)) (gs:List Gr) (n:Nat),(gs.map Gr.key).Pairwise (· ≠ ·)->rows.length<=n->rows.length<=100000->(∀ r∈rows,∀ c∈sc,okV (r.getD c.toNat 0))->
  (rows.foldl (stepG kc sc) gs).map Gr.row=(gs.map fun g=>((rows.filter fun x=>decide (au x kc=g.key)).foldl (fun g r=>rO r sc g) g).row)++mD kc sc n (rows.filter fun x=>!oW kc gs x)
 | [],gs,n,_,_,_,_ => by
  rw[List.foldl_nil,List.filter_nil];have e:mD kc sc n []=[]:=by cases n <;> rfl
  rw[e,XB];rfl
 | r::rows,gs,n,hp,hn,hl,hv => by
  rw[Z0]
  cases hf:jr (gs.map Gr.key) (au r kc) with
  | some i =>
   obtain⟨y,z⟩:=Sb hf;have u:i<gs.length:=by simpa using y
   have q:gs[i].key=au r kc:=by simpa using z
   have v:stepG kc sc gs r=gs.modify i (rO r sc):=by unfold stepG; rw[hf]
   have d:(gs.modify i (rO r sc)).map Gr.key=gs.map Gr.key:=by
    apply XK (by simp);intro j G B;rw[XM,XM,XN];split <;> rfl
   have l:∀ x,oW kc (gs.modify i (rO r sc)) x=oW kc gs x:=fun x=>by unfold oW; rw[d]
   have f:oW kc gs r=true:=by
    unfold oW;rw[List.any_eq_true];exact⟨gs[i].key,List.mem_map_of_mem (Qk u),by simpa using q⟩
   rw[v,pV rows _ n (by rw[d]; exact hp) (by simp at hn; omega) (by simp at hl; omega) (fun x s=>hv x (by simp[s]))];congr 1
   ·apply XK (by simp);intro j G B;have A:j<gs.length:=by simpa using B
    simp only[XM,XN];by_cases t:i=j
    ·subst t;simp only[Qu];rw[XO (by simpa using q.symm),Z0];rfl
    ·rw[Qv t];have o:¬ au r kc=gs[j].key:=by
      rw[<- q];have:=Xt.1 hp;rcases Ql i j with h | h
      ·have:=this i j (by simpa using u) (by simpa using A) h
       simpa using this
      ·have:=this j i (by simpa using A) (by simpa using u) (by omega);intro e;exact this (by simpa using e.symm)
     rw[Xo (by simpa using o)]
   ·congr 1;rw[Xo (by rw[f]; simp)];apply XP;intro x _;rw[l]
  | none =>
   have p:=Sc hf;have v:stepG kc sc gs r=gs++[rO r sc (oV (au r kc) sc.length)]:=by unfold stepG; rw[hf]
   have f:oW kc gs r=false:=by
    unfold oW;rw[List.any_eq_false];intro k q;have:=p k q
    simpa using this
   obtain⟨m,rfl⟩:∃ m,n=m+1:=⟨n-1,by simp at hn; omega⟩
   have l:∀ x,oW kc (gs++[rO r sc (oV (au r kc) sc.length)]) x=(oW kc gs x || decide (au r kc=au x kc)):=fun x=>by
    unfold oW;rw[Qn,List.any_append];simp[rO,oV]
   have w:((gs++[rO r sc (oV (au r kc) sc.length)]).map Gr.key).Pairwise (· ≠ ·):=by
    rw[Qn,Zu];refine⟨hp,Zv _ _,fun a I b C=>?_⟩;rw[List.map_singleton,Zw]at C;subst C;exact p a I
   rw[v,pV rows _ m w (by simp at hn; omega) (by simp at hl; omega) (fun x s=>hv x (by simp[s])),Qn,QH];congr 1
   ·apply Xw;intro g H;have o:¬ au r kc=g.key:=fun e=>p g.key (List.mem_map_of_mem H) e.symm
    rw[Xo (by simpa using o)]
   ·have D:(r::rows).filter (fun x=>!oW kc gs x)=r::rows.filter (fun x=>!oW kc gs x):=XO (by rw[f]; rfl);rw[D]
    show _=pR kc sc ((r::rows.filter (fun x=>!oW kc gs x)).filter fun x=>decide (au x kc=au r kc))::mD kc sc m ((r::rows.filter (fun x=>!oW kc gs x)).filter fun x=>!decide (au x kc=au r kc))
    rw[rP,List.filter_filter,List.map_singleton,List.singleton_append];have E:(r::rows.filter (fun x=>!oW kc gs x)).filter (fun x=>decide (au x kc=au r kc))=r::rows.filter (fun x=>decide (au x kc=au r kc)):=by
     rw[XO (by simp),List.filter_filter];congr 1;apply XP;intro x _;by_cases h:au x kc=au r kc
     ·have:oW kc gs x=false:=by
       rw[<- f];unfold oW;rw[h]
      simp[h,this]
     ·simp[h]
    rw[E];congr 1
    ·have F:(rO r sc (oV (au r kc) sc.length)).key=au r kc:=rfl;rw[F];have:=U5 (sc:=sc) (r::rows.filter fun x=>decide (au x kc=au r kc)) (au r kc) (fun x s=>by
      rcases Z5.1 s with h | h
      ·rw[h]; exact hv r (by simp)
      ·exact hv x (by simp[(Xl.1 h).1])) (by
      have:=XQ (fun x=>decide (au x kc=au r kc)) rows;simp at hl ⊢;omega)
     rw[Z0]at this;rw[this];rfl
    ·congr 1;apply XP;intro x _;rw[l];have:decide (au r kc=au x kc)=decide (au x kc=au r kc):=decide_eq_decide.2 ⟨Eq.symm,Eq.symm⟩;rw[this]
     cases oW kc gs x <;> cases decide (au x kc=au r kc) <;> rfl
def jF(kc sc:List Int)(rows:List (List Int)):List (List Int):=if kc=[] then [pR [] sc rows] else mD kc sc rows.length rows
theorem DK{rows:List (List Int)}(hl:rows.length<=100000)(hv:∀ r∈rows,∀ c∈sc,okV (r.getD c.toNat 0)):(fu kc sc rows).map Gr.row=jF kc sc rows:=by
 unfold fu jF eu;by_cases a:kc=[]
 ·subst a;rw[Qu rfl,Qu rfl,pV rows _ rows.length (Zv _ _) (Qs _) hl hv];have b:(rows.filter fun x=>decide (au x []=(oV [] sc.length).key))=rows:=List.filter_eq_self.2 fun x _=>by simp[au,oV]
  have d:(rows.filter fun x=>!oW [] [oV [] sc.length] x)=[]:=XJ.2 fun x _=>by simp[oW,oV,au]
  rw[d,List.map_singleton,b,U5 rows [] hv hl];have e:mD [] sc rows.length []=[]:=by cases rows.length <;> rfl
  rw[e];rfl
 ·rw[Qv a,Qv a,pV rows [] rows.length List.Pairwise.nil (Qs _) hl hv];rw[List.map_nil,Zd];congr 1;exact List.filter_eq_self.2 fun x _=>by simp[oW]
def ah.list(n:ah):List Value:=[.int .i64 n.kind,.int .i64 n.l,.int .i64 n.r,.int .i64 n.source,n.cl.val,.int .i64 n.key,n.co.val]
theorem qf(a b:Int)(w:World):Ce 147 #[.int .i64 a,.int .i64 b] w (.int .i64 (dz a b)):=by
 unfold dz;by_cases f:a=b
 ·rw[Qu f];have i:(a==b)=true:=by simpa using f
  go_enter Tryz.func147,Tryz.ntmps147;go_wp2;go_ret;exact⟨rfl,rfl⟩
 ·rw[Qv f];have i:(a==b)=false:=by simpa using f
  by_cases d:a=1073741824
  ·rw[Qu d];have j:(a==1073741824)=true:=by simpa using d
   clear d;go_enter Tryz.func147,Tryz.ntmps147;go_wp2;go_ret;exact⟨rfl,rfl⟩
  ·rw[Qv d];have j:(a==1073741824)=false:=by simpa using d
   by_cases e:b=1073741824
   ·rw[Qu e];have k:(b==1073741824)=true:=by simpa using e
    clear e;go_enter Tryz.func147,Tryz.ntmps147;go_wp2;go_ret;exact⟨rfl,rfl⟩
   ·rw[Qv e];have k:(b==1073741824)=false:=by simpa using e
    by_cases g:a<b
    ·rw[Qu g];go_enter Tryz.func147,Tryz.ntmps147;go_wp2;go_ret;exact⟨rfl,rfl⟩
    ·rw[Qv g];go_enter Tryz.func147,Tryz.ntmps147;go_wp2;go_ret;exact⟨rfl,rfl⟩
theorem eO.rows{E:El aa (List Int)}{n0:Nat}{w:World}{e:TypeId}{ys:List aa}{o:Nat->Prop}{W:World}{v:Value}(h:eO E n0 w e ys o W v)(hat:∀ y,E.At y W->aa.At y W)(hl:ys.length<=1000000):∃ f a,v=.slice f ys.length a/\iA W f ys:=by
 obtain⟨f,a,j⟩:=iL h.own;refine⟨f,a,j,by omega,fun i d=>?_,fun i d=>hat _ (h.at' _ (getD_in d))⟩;obtain⟨g,k,b,l⟩:=nD h.own d;rw[j]at b;rw[Value.slice.injEq]at b;refine⟨g,0,b.1,?_⟩;rw[QJ,l,ZR,ZT d];simp[List.getD,d]
theorem Yn(ao:Option Addr)(cap:Nat)(ys:List aa)(n:Nat)(w:World)(h:iA w ao ys)(hl:ys.length<=1000000)(hall:∀ y∈ys,y.xs.length=n) :
  Ce 20 #[.slice ao ys.length cap,.int .i64 n] w (.bool true):=by
 have j:Hid _:=h;have l:Hid _:=hall;clear h hall;go_enter Tryz.func20,Tryz.ntmps20;go_wp2;go_loopw [5] (fun i wr=>∃ k:Nat,k<=ys.length/\i=.int .i64 k/\w=wr) (fun i _=>ys.length-(intOf i).toNat)
 case atStart=>exact⟨0,Zf _,rfl,rfl⟩
 case round=>
  obtain⟨k,r,rfl,rfl⟩:=hrel;by_cases e:k<ys.length
  ·obtain⟨b,off,rfl,g⟩:=j.o.2.1.get e;have f:=g k e;have a:=l.o _ (getD_in (d:=iz) e);generalize ys.getD k iz=y at *;obtain⟨p,q,s⟩:=y;simp only at a;have m:w.cell? (aD b (off+k))=some (.slice p n q):=by rw[<- a]; exact f
   clear f g a;go_wp2;go_roundw
   case rel=>exact⟨k+1,by omega,by go_num,trivial⟩
   case measure=>simp[intOf]; omega
  ·obtain rfl:k=ys.length:=by omega
   go_wp2;go_ret;exact⟨rfl,rfl⟩
theorem Fw(tH:fo ts=true)(hs:aM q.src.xs ts.length=true/\1<=q.src.xs.length/\q.src.xs.length<=5)(hw:q.wh.length<=8/\∀ x∈q.wh,Ad (ai ts q.src.xs) x)
  (hl:q.aK.xs.length<=8/\q.keys.xs.length<=4/\q.sums.xs.length<=4/\q.ord.xs.length<=4) (hr:sK (ai ts q.src.xs) q.group q.keys.xs q.sums.xs q.aK.xs q.ord.xs=true):q.check ts=0:=by
 unfold ae.check checkN;have e:¬ fo ts=false:=by rw[tH]; simp
 have f:¬ kS q.src.xs q.oM q.keys.xs q.sums.xs q.aK.xs q.ord.xs=true:=by
  unfold kS;rw[Z4,not_or];refine⟨?_,?_⟩
  ·rw[QE];have:q.oM.length=q.wh.length:=by simp[ae.oM]
   omega
  ·rw[List.any_eq_true];rintro⟨c,d,a⟩;unfold ae.oM at d;obtain⟨x,b,rfl⟩:=ZU.1 d;have:=(hw.2 x b).2.1;simp at a;omega
 have a:dN q.oM (ai ts q.src.xs)=true:=by
  unfold dN ae.oM;rw[List.all_map,Qp];intro x b;have:=hw.2 x b;simp only[Function.comp];unfold iq;rw[Qo,QE,Qp];exact⟨this.1,this.2.2⟩
 rw[Qv e,Qv f,Qu ⟨hs.1,by omega,a,hr⟩]
theorem CaseOk.data{db:List aN}(h:CaseOk ts q db){src:List Int}(hs:src.length<=4):nW ts src db=true:=by
 have k:tJ ts db=true:=by
  unfold tJ;rw[Qp];intro i e;have f:i<db.length:=by simpa using e
  obtain⟨p,d⟩:=h.rows i f;unfold xN Dz;rw[Qo,QE,Qp];refine⟨by omega,fun r u=>?_⟩;obtain⟨g,s⟩:=d r u;unfold yV;rw[Qo,QE,Qp];refine⟨g,fun x v=>?_⟩;unfold vP;rcases s x v with j | j
  ·rw[j]; rfl
  ·rw[Z4,Qo,QE,QE,QE];right; omega
 have b:∀ t:Int,(db.getD t.toNat rz).rs.length<=4:=fun t=>by
  by_cases e:t.toNat<db.length
  ·exact(h.rows _ e).1
  ·have:db.getD t.toNat rz=rz:=by simp[List.getD,e]
   rw[this]; decide
 have m:∀ (l:List Int) (n:Nat),l.foldl (fun n t=>n*max 1 (db.getD t.toNat rz).rs.length) n<=n*4 ^ l.length:=by
  intro l
  induction l with
  | nil => intro n; simp
  | cons a l ih =>
   intro n;refine QS (ih _) ?_;have d:max 1 (db.getD a.toNat rz).rs.length<=4:=by have:=b a; omega
   rw[Q7,Nat.pow_succ,Nat.mul_comm (4 ^ l.length) 4,<- Nat.mul_assoc];exact Nat.mul_le_mul_right _ (Nat.mul_le_mul_left _ d)
 have o:gm src db<=20000:=by
  have p:=m src 1;have d:(4:Nat) ^ src.length<=4 ^ 4:=Z7 (by decide) hs;have g:(4:Nat) ^ 4=256:=by decide
  unfold gm;omega
 unfold nW;rw[Qo,Qo,QE,QE];exact⟨⟨h.len,k⟩,o⟩
