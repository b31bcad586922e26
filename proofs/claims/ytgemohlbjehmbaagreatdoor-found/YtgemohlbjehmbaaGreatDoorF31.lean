import Derived.Test.YtgemohlbjehmbaaGreatDoorF08
import Derived.Test.YtgemohlbjehmbaaGreatDoorF23
import Derived.Test.YtgemohlbjehmbaaGreatDoorF30
set_option linter.all false
set_option maxRecDepth 100000
set_option maxHeartbeats 16000000
namespace Go.Proofs.Zz
open Go.RowKit Go.Shelf
variable {q:ae} {ts:List af} {db:List jJ} {w w2 w3:World} {base cap g i m n sb sz:Nat} {TS TT e t:TypeId} {xs:List Value} {P:Program} {av v v':Value} {ag:List aO} {rk:Nat->Int} {arr:Array Value}
theorem Fy(Fw:gH ts=true)(hs:di q.src.xs ts.length=true/\1<=q.src.xs.length/\q.src.xs.length<=5)(hw:q.wh.length<=8/\∀ x∈q.wh,Aq (az ts q.src.xs) x)
  (hl:q.bA.xs.length<=8/\q.keys.xs.length<=4/\q.sums.xs.length<=4/\q.ord.xs.length<=4) (hr:xy (az ts q.src.xs) q.group q.keys.xs q.sums.xs q.bA.xs q.ord.xs=true):q.check ts=0:=by
 unfold ae.check checkN;have e:¬ gH ts=false:=by simp_all
 have f:¬ oF q.src.xs q.oG q.keys.xs q.sums.xs q.bA.xs q.ord.xs=true:=by
  unfold oF;rw[Bool.or_eq_true,not_or];refine⟨?_,?_⟩
  ·rw[Qs];have:q.oG.length=q.wh.length:=by simp[ae.oG]
   omega
  ·rw[List.any_eq_true];rintro⟨c,b,d⟩;unfold ae.oG at b;obtain⟨x,a,rfl⟩:=QZ.1 b;have:=(hw.2 x a).2.1
   grind
 have d:gW q.oG (az ts q.src.xs)=true:=by unfold gW ae.oG;rw[List.all_map,Qk];intro x a;have:=hw.2 x a;simp only[Function.comp];unfold jP;rw[Qj,Qs,Qk];exact⟨this.1,this.2.2⟩
 grind
theorem CaseOk.data(h:CaseOk ts q db){src:List Int}(hs:src.length<=4):ahV ts src db=true:=by
 have f:dbB ts db=true:=by
  unfold dbB;rw[Qk];intro i e;have g:i<db.length:=by simpa using e
  obtain⟨p,d⟩:=h.rows i g;unfold anF anE;rw[Qj,Qs,Qk];refine⟨by omega,λr u=>?_⟩;obtain⟨j,s⟩:=d r u;unfold anD;rw[Qj,Qs,Qk];refine⟨j,λx v=>?_⟩;unfold anC;rcases s x v with k | k
  ·rw[k]; rfl
  ·rw[Bool.or_eq_true,Qj,Qs,Qs,Qs];right; omega
 have b:∀ t:Int,(db.getD t.toNat rz).rs.length<=4:=λt=>by
  by_cases e:t.toNat<db.length
  ·exact(h.rows _ e).1
  ·have:db.getD t.toNat rz=rz:=by simp[List.getD,e]
   rw[this]; decide
 have m:∀ (l:List Int) (n:Nat),l.foldl (λn t=>n*max 1 (db.getD t.toNat rz).rs.length) n<=n*4 ^ l.length:=by
  intro l
  induction l with
  | nil => intro n; simp
  | cons a l ih =>
   intro n;refine Q6 (ih _) ?_;have d:max 1 (db.getD a.toNat rz).rs.length<=4:=by have:=b a; omega
   rw[QV,Nat.pow_succ,Nat.mul_comm (4 ^ l.length) 4,<- Nat.mul_assoc];exact Nat.mul_le_mul_right _ (Nat.mul_le_mul_left _ d)
 have o:abN src db<=20000:=by
  have p:=m src 1;have d:(4:Nat) ^ src.length<=4 ^ 4:=QI (by decide) hs;have j:(4:Nat) ^ 4=256:=by decide
  unfold abN;omega
 unfold ahV;rw[Qj,Qj,Qs,Qs];exact⟨⟨h.len,f⟩,o⟩
theorem FD(h:CaseOk ts q db):q.check ts=0:=by
 have b:=Dc h.tabs.1 h.tabs.2.1 h.tabs.2.2;have a:=h.Je.src;have d:=h.Je.wh;rcases h.Je.out with⟨g,l0,k1,k2,k3,s1,s2,o1,o2,o3⟩ | ⟨g,k0,s0,l1,l2,l3,o1,o2,o3⟩
 ·refine Fy b ⟨a.1,a.2.1,by omega⟩ ⟨by omega,d.2⟩ ⟨by simp_all,by omega,by omega,by omega⟩ ?_;unfold xy Gv;rw[g,l0,k2,k3,s2,o3,Qo rfl,o2];rfl
 ·refine Fy b ⟨a.1,a.2.1,by omega⟩ ⟨by omega,d.2⟩ ⟨by omega,by simp_all,by simp_all,by omega⟩ ?_;unfold xy Gv;rw[g,k0,s0,l3,o3,Qu (by simp),o2,ZW (show ¬ q.bA.xs.length=0 by omega)];rfl
theorem Kept.ah5{s:Nat->Prop}(w:World):Kept s w w.drew:=Q7 ((Qm w.heap.size w).drew) (λb a _=>a)
def SL(L:List ai)(R:List Value):Array Value:=(L.map ai.val++R).toArray
theorem WE(xs:List Value)(o:Nat)(u:Value)(h:o<xs.length):(xs.set o u).take (o+1)=xs.take o++[u]:=by rw[List.set_eq_take_append_cons_drop,Qo h];grind
theorem WG(xs:List Value)(o k:Nat)(u:Value)(h:o<k):(xs.set o u).drop k=xs.drop k:=List.drop_set_of_lt h
theorem iY{base:Nat}{e:TypeId}{sz:Nat}{v:Value}{n g:Nat}(hg:v.ownBlock=some g):∀ (vs:List Value) (o:Nat) {w:World} {xs:List Value},w.ownsRow base e sz v n xs->o+vs.length<=n*sz->
  (w.setCells g o vs).ownsRow base e sz v n (xs.take o++vs++xs.drop (o+vs.length))
 | [],o,w,xs,h,_ => by simpa [World.setCells] using h
 | u::r,o,w,xs,h,hl => by
  have d:=h.1;simp only[QV]at hl;have a:=iY hg r (o+1) (DV h hg (j:=o) (by omega) u) (by omega);rw[WE xs o u (by omega),WG xs o _ u (by omega)]at a;have b:xs.take o++u::r++xs.drop (o+(u::r).length)=xs.take o++[u]++r++xs.drop (o+1+r.length):=by grind
  rw[b];exact a
theorem Kept.setCells{s:Nat->Prop}{g:Nat}(hg:¬ s g):∀ (vs:List Value) (o:Nat) (W:World),Kept s W (W.setCells g o vs)
 | [],_,W => Q5 _ W
 | u::r,o,W => (Zf W (aD g o) u hg).trans (Kept.setCells hg r (o+1) (W.setCell (aD g o) u))
theorem acf(h:w.ownsRow base e sz (.slice (some (aD g 0)) n cap) n xs)(hc:n+1<=cap):∃ b,b.length=sz/\w.ownsRow base e sz (.slice (some (aD g 0)) (n+1) cap) (n+1) (xs++b):=by
 rcases h.2 with⟨h0,_⟩ | ⟨g',cap',cur,e1,hb,hh,hn,hm,hs,ht⟩
 ·cases h0
 injection e1 with e1 _ e2;injection e1 with e1;injection e1 with e1;subst e1 e2;have i:(n+1)*sz<=cap*sz:=Nat.mul_le_mul_right _ hc;have d:(n+1)*sz=n*sz+sz:=Nat.succ_mul n sz;have f:cur.toList.length=cap*sz:=by omega
 have a:((cur.toList.drop (n*sz)).take sz).length=sz:=by grind
 refine⟨(cur.toList.drop (n*sz)).take sz,a,⟨by grind,.inr ⟨g,cap,cur,rfl,hb,hh,hc,hm,hs,?_⟩⟩⟩;rw[d,List.take_add,ht]
theorem afy(h:w.ownsRow base e sz (.slice (some (aD g 0)) n cap) n xs)(hm:m<=n):w.ownsRow base e sz (.slice (some (aD g 0)) m cap) m (xs.take (m*sz)):=by
 rcases h.2 with⟨h0,_⟩ | ⟨g',cap',cur,e1,hb,hh,hn,hmx,hs,ht⟩
 ·cases h0
 injection e1 with e1 _ e2;injection e1 with e1;injection e1 with e1;subst e1 e2;have a:m*sz<=n*sz:=Nat.mul_le_mul_right _ hm;refine⟨by rw[ZZ,h.1]; omega,.inr ⟨g,cap,cur,rfl,hb,hh,by omega,hmx,hs,?_⟩⟩;grind
theorem lN(h:w.ownsRow base e sz (.slice (some (aD g 0)) n cap) n xs):n<=cap/\cap<=maxLen/\(∀ j u,xs[j]? = some u->w.cell? (aD g j)=some u)/\(∀ j,j<cap*sz->(w.cell? (aD g j)).isSome=true)/\(∀ j,w.frozen? (aD g j)=false)/\w.shape? g=some (e,cap*sz)/\g<w.heap.size:=by
 rcases h.2 with⟨h0,_⟩ | ⟨g',cap',cur,e1,hb,hh,hn,hmx,hs,ht⟩
 ·cases h0
 injection e1 with e1 _ e2;injection e1 with e1;injection e1 with e1;subst e1 e2;have b:=(Zb.1 hh).1;refine⟨hn,hmx,λj u a=>?_,λj a=>?_,λj=>?_,?_,b⟩
 ·rw[<- ht,Zm]at a;split at a
  ·simp only[World.cell?,hh]
   simp_all
  ·cases a
 ·simp only[World.cell?,hh]
  simp_all
 ·simp[World.frozen?,hh]
 ·simp[World.shape?,hh,hs]
theorem vY(w:World)(dT sT ty elem:TypeId)(size b o dLen dCap:Nat)(a:Addr)(sLen sCap:Nat)(cs:List Value)
  (hu:P.underlying dT=some (.slice elem)) (hs:(P.info? elem).map (·.size)=some size) (hn:cs.length=Nat.min sLen dLen*size)
  (hsrc:∀ j v,cs[j]? = some v->w.cell? (a.add j)=some v) (hc:∀ j,j<cs.length->(w.cell? (aD b (o+j))).isSome=true) (hf:∀ j,j<cs.length->w.frozen? (aD b (o+j))=false) (h1:∀ v∈cs,v.oneCell' = true) :
  (Builtin.copy_ #[dT,sT] ty #[.slice (some (aD b o)) dLen dCap,.slice (some a) sLen sCap]).run P w=.ok (goInt (Nat.min sLen dLen)) (w.setCells b o cs):=by
 have e:=run_loadCells_list (P:=P) w a cs hsrc;have d:=run_storeCells_cells (P:=P) b o cs 0 w (by omega) (by omega) h1
 cases hq:P.info? elem with
 | none => simp_all
 | some i =>
  have f:i.size=size:=by simp_all
  simp[Builtin.copy_,run_underlying hu,Builtin.lenOf,Builtin.firstCells,sizeOf,typeInfo,hq,f,<- hn,e,d]
theorem RN(w:World)(t e ty:TypeId)(z:Value)(ht:P.underlying t=some (.slice e))(hv:∀ w,(zeroValue e).run P w=.ok z w)(zs:List Value)(hz:(Builtin.zeroCells z.cells 1).toList=zs)(h1:∀ v∈zs,v.oneCell' = true)(b o c:Nat)
  (hc:∀ j,j<zs.length->(w.cell? (aD b (o+j))).isSome=true) (hf:∀ j,j<zs.length->w.frozen? (aD b (o+j))=false) :
  (Builtin.clear_ #[t] ty #[.slice (some (aD b o)) 1 c]).run P w=.ok (.tuple #[]) (w.setCells b o zs):=by have a:=run_storeCells_cells (P:=P) b o zs 0 w (by omega) (by omega) h1;simp only[ZG]at a;simp[Builtin.clear_,run_underlying ht,hv,hz,a]
def fw(t:aO):List Value:=[.int .u64 (t.1:Int),.int .u64 (t.2:Int)]
theorem Kv{tx ty:TypeId}{i:TypeInfo}(hi:P.info? e=some i)(h1:P.underlying t=some (.slice e))(h2:P.underlying tx=some (.slice e))(v x:Value)(w:World):(Builtin.append_ #[t,tx] ty #[v,x]).run P w=(Builtin.append_ #[t,t] ty #[v,x]).run P w:=by unfold Builtin.append_;cases v <;> simp[run_underlying h1,run_underlying h2,sizeOf,typeInfo,hi]
theorem acH{ys:List Value}(l r:Value)(hx:xs.length=n*2)(hy:ys.length=2)(hi:i<n) :
  (((xs++ys).take ((i+1)*2)++xs.drop (i*2)++(xs++ys).drop ((i+1)*2+(xs.drop (i*2)).length)).take (i*2)++[l,r]++((xs++ys).take ((i+1)*2)++xs.drop (i*2)++(xs++ys).drop ((i+1)*2+(xs.drop (i*2)).length)).drop (i*2+[l,r].length))=xs.take (i*2)++[l,r]++xs.drop (i*2):=by
 have a:(xs++ys).drop ((i+1)*2+(xs.drop (i*2)).length)=[]:=List.drop_eq_nil_of_le (by grind);have b:((xs++ys).take ((i+1)*2)).length=(i+1)*2:=by grind
 rw[a,Xb,List.take_append_of_le_length (by omega),List.drop_left' (by rw[b]; simp; omega),List.take_take,Nat.min_eq_left (by omega),List.take_append_of_le_length (by omega)]
theorem Tryz.Ac:(Tryz.prog.info? 122).map (λi=>(i.zero,i.size,i.bytes))=some (some (.agg #[.int .u64 0,.int .u64 0]),2,16):=by kernel_rfl
theorem Kw(base g n cap i vb:Nat)(l r:Value)(xs:List Value)(w:World)(hown:w.ownsRow base 122 2 (.slice (some (aD g 0)) n cap) n xs)(hx1:∀ u∈xs,u.oneCell' = true)(hl1:l.oneCell' = true)(hr1:r.oneCell' = true)(hi:i<n)(hroom:n+1<=cap)(hvb:GB w vb 122 #[l,r])(hne:vb≠g) :
  Calls Tryz.prog 90 #[.slice (some (aD g 0)) n cap,.int .i64 i,.slice (some (aD vb 0)) 1 1] w λe w'=>
   e=.returned (.slice (some (aD g 0)) (n+1) cap)/\w'.ownsRow base 122 2 (.slice (some (aD g 0)) (n+1) cap) (n+1) (xs.take (i*2)++[l,r]++xs.drop (i*2))/\Kept (λb=>b≠g) w w':=by
 obtain⟨i0,B,Q,C,R⟩:=Zv Tryz.Ac;have y:(Tryz.prog.info? 122).map (·.size)=some 2:=by rw[B]; simp[C]
 obtain⟨_,L,k,m,M,N,S⟩:=lN hown;have z:=hown.1;have X:cap<=9223372036854775807:=by unfold maxLen at L; omega
 have H:w.shape? vb=some (122,2):=by have h:w.heap[vb]? = some (.cells #[l,r] 122 (0,0)):=hvb;simp[World.shape?,h]
 have P:∀ T U,(callFunc 128 #[.slice (some (aD vb 0)) 1 1,.slice (some (aD g ((i+1)*2))) T U]).run Tryz.prog w=.ok (.value (.bool false)) w:=λT U=>by
  rw[run_callFunc_extern Tryz.func128 (by kernel_rfl) (by kernel_rfl) (by kernel_rfl) (e:=Extern.SlicesOverlaps.overlaps #[93,93] #[4]) (by kernel_rfl),
   Lib.run_overlaps_apart w 93 4 122 Tryz.underlying93 2 (λW=>by simp[sizeOf,typeInfo,B,C]) (aD vb 0) (aD g ((i+1)*2)) 1 1 T U hne 122 122 2 (cap*2) H N (by omega) (hvb.frozen 0) (hvb.frozen 2)]
  rfl
 have I:(xs.drop (i*2)).length=n*2-i*2:=by rw[XG,z]
 have s:∀ E F V,(Builtin.copy_ #[94,94] E #[.slice (some (aD g ((i+1)*2))) (n-i) F,.slice (some (aD g (i*2))) (n+1-i) V]).run Tryz.prog w.drew=.ok (goInt (Nat.min (n+1-i) (n-i))) (w.drew.setCells g ((i+1)*2) (xs.drop (i*2))):=λE F V=>
  vY w.drew _ _ E 122 2 g ((i+1)*2) (n-i) F (aD g (i*2)) (n+1-i) V (xs.drop (i*2)) Tryz.underlying94 y (by grind)
   (λj v t=>by rw[Qx]; exact k (i*2+j) v (by rwa [List.getElem?_drop]at t))
   (λj t=>m _ (by omega)) (λj t=>M _) (λv hv=>hx1 v (List.mem_of_mem_drop hv))
 obtain⟨G,D⟩:=eY (w.drew.setCells g ((i+1)*2) (xs.drop (i*2)));have f:w.drew.ownsRow base 122 2 (.slice (some (aD g 0)) n cap) n xs:=hown;obtain⟨ys,O,p⟩:=acf f hroom;have a:=iY (v:=.slice (some (aD g 0)) (n+1) cap) (g:=g) rfl (xs.drop (i*2)) ((i+1)*2) p (by rw[I]; omega);rw[<- D]at a s;have A:Kept (λb=>b≠g) w G:=by rw[D]; exact(Kept.ah5 w).trans (Kept.setCells (λh=>h rfl) _ _ _)
 obtain⟨_,_,q,Y,Z,_,_⟩:=lN a;have J:=hvb.keep A hne;have K:∀ E F,(Builtin.copy_ #[94,93] E #[.slice (some (aD g (i*2))) (n+1-i) F,.slice (some (aD vb 0)) 1 1]).run Tryz.prog G=.ok (goInt (Nat.min 1 (n+1-i))) (G.setCells g (i*2) [l,r]):=λE F=>
  vY G _ _ E 122 2 g (i*2) (n+1-i) F (aD vb 0) 1 1 [l,r] Tryz.underlying94 y (by simp only[Nat.min_def]; split <;> simp; omega)
   (λj v t=>by rw[Qx,QL,J.cell]; simpa using t)
   (λj t=>Y _ (by simp at t; omega)) (λj t=>Z _) (λv hv=>by simp at hv; rcases hv with rfl | rfl <;> assumption)
 have d:=iY (v:=.slice (some (aD g 0)) (n+1) cap) (g:=g) rfl [l,r] (i*2) a (by simp; omega);rw[acH l r z O hi]at d;have mR:Hid ((G.setCells g (i*2) [l,r]).ownsRow base 122 2 (.slice (some (aD g 0)) (n+1) cap) (n+1) (xs.take (i*2)++[l,r]++xs.drop (i*2))/\Kept (λb=>b≠g) w (G.setCells g (i*2) [l,r])):=⟨d,A.trans (Kept.setCells (λh=>h rfl) _ _ _)⟩;clear hown f p a d A k m M q Y Z hvb J O I z hx1 H N S y B Q C R L D;have aa:¬ (cap=i+1):=by omega
 have ae:¬ (cap=i):=by omega
 have af:IntKind.i64.wrap ((i:Int)+1)=(i:Int)+1:=by rw[IntKind.wrap_i64]; omega
 have ag:(0:Int)<=(i:Int)+1:=by omega
 have ah:(i:Int)+1<=(n:Int)+1:=by omega
 have ai:((i:Int)+1).toNat=i+1:=by omega
 have aj:(i:Int)<=(n:Int)+1:=by omega
 go_enter Tryz.func90,Tryz.ntmps90;go_wp2_with (simp only[P]);go_region_law (refine step_copy_runI rfl _ _ 94 94 rfl _ _ (by simp[Act.eval,Act.put]) (by simp[Act.eval,Act.put]) (s _ _ _) ?_);go_wp2_with (at_builtin; refine wpList_copy_runI _ rfl _ _ 94 93 rfl _ _ rfl rfl (K _ _) ?_);go_ret;exact⟨rfl,mR.o⟩
theorem Yb{Z:List Value}(l r:Value)(hx:xs.length=n*2)(hZ:Z.length=(n+1)*2)(hi:i<n)(hz:Z.take (i*2)=xs.take (i*2)) :
  ((Z.take (i*2)++[l,r]++Z.drop (i*2+[l,r].length)).take ((i+1)*2)++xs.drop (i*2)++(Z.take (i*2)++[l,r]++Z.drop (i*2+[l,r].length)).drop ((i+1)*2+(xs.drop (i*2)).length))=xs.take (i*2)++[l,r]++xs.drop (i*2):=by
 have a:(Z.take (i*2)++[l,r]).length=(i+1)*2:=by grind
 have b:(Z.take (i*2)++[l,r]++Z.drop (i*2+[l,r].length)).drop ((i+1)*2+(xs.drop (i*2)).length)=[]:=List.drop_eq_nil_of_le (by grind);grind
theorem Sa(base n vb:Nat)(v l r:Value)(xs:List Value)(w:World)(hown:w.ownsRow base 122 2 v n xs)(hb:base<=w.heap.size)(hn:n<=1000000)(hl1:l.oneCell' = true)(hr1:r.oneCell' = true)(hvb:GB w vb 122 #[l,r]) :
  Calls Tryz.prog 90 #[v,.int .i64 n,.slice (some (aD vb 0)) 1 1] w λe w'=>
   ∃ d,e=.returned d/\w'.ownsRow base 122 2 d (n+1) (xs++[l,r])/\Kept (λb=>v.ownBlock≠some b) w w'/\(d.ownBlock=v.ownBlock∨∃ g,d.ownBlock=some g/\w.heap.size<=g):=by
 obtain⟨z,f,i,k,m⟩:=Zv Tryz.Ac;obtain⟨d,w',p,q,y,s⟩:=Zw (P:=Tryz.prog) w base 94 94 122 z _ 2 16 Tryz.underlying94 f i k m rfl (by decide) v n xs hown (aD vb 0) 1 1 [l,r] rfl
  (λj u D=>by rw[Qx,QL,hvb.cell]; simpa using D) (λu E=>by grind) (by unfold maxLen; omega) (by omega) hb
 have a:(Builtin.append_ #[94,93] 94 #[v,.slice (some (aD vb 0)) 1 1]).run Tryz.prog w=.ok d w':=(Kv f Tryz.underlying94 Tryz.underlying93 _ _ _).trans p;have t:Hid (∃ u,Ending.returned d = .returned u/\w'.ownsRow base 122 2 u (n+1) (xs++[l,r])/\Kept (λb=>v.ownBlock≠some b) w w'/\(u.ownBlock=v.ownBlock∨∃ g,u.ownBlock=some g/\w.heap.size<=g)):=⟨d,rfl,q,Zg y (λr e p=>p e),by
  grind⟩
 obtain⟨A,B,C,rfl⟩:=Zk q;clear p q y s hvb f i k m;rcases hown.2 with⟨rfl,rfl⟩ | ⟨g,cap,cur,rfl,-,-,hnc,hcm,-⟩
 ·clear hown;go_enter Tryz.func90,Tryz.ntmps90;go_wp2_with (at_builtin; refine Lib.wpList_append_run _ rfl _ _ _ _ rfl _ _ rfl rfl _ _ a ?_);go_ret;exact t.o
 ·clear hown;go_enter Tryz.func90,Tryz.ntmps90;go_wp2_with (at_builtin; refine Lib.wpList_append_run _ rfl _ _ _ _ rfl _ _ rfl rfl _ _ a ?_)
  all_goals (go_ret; exact t.o)
theorem Nh(base g n cap i vb:Nat)(l r:Value)(xs:List Value)(w:World)(hown:w.ownsRow base 122 2 (.slice (some (aD g 0)) n cap) n xs)(hb:base<=w.heap.size)(hn:n<=1000000)(hx1:∀ u∈xs,u.oneCell' = true)(hl1:l.oneCell' = true)(hr1:r.oneCell' = true)(hi:i<n)(hroom:cap<n+1)(hvb:GB w vb 122 #[l,r]) :
  Calls Tryz.prog 90 #[.slice (some (aD g 0)) n cap,.int .i64 i,.slice (some (aD vb 0)) 1 1] w λe w'=>
   ∃ G,e=.returned (.slice (some (aD w.heap.size 0)) (n+1) G)/\w'.ownsRow base 122 2 (.slice (some (aD w.heap.size 0)) (n+1) G) (n+1) (xs.take (i*2)++[l,r]++xs.drop (i*2))/\Bw w w':=by
 obtain⟨i0,K,af,L,M⟩:=Zv Tryz.Ac;have D:(Tryz.prog.info? 122).map (·.size)=some 2:=by rw[K]; simp[L]
 obtain⟨aG,ai,d,N,aj,ak,aH⟩:=lN hown;have E:=hown.1;have ag:cap=n:=by omega
 subst ag;have F:i+(cap+1-i)=cap+1:=by omega
 have S:(cap:Int)+1-(i:Int)=((cap+1-i:Nat):Int):=by omega
 have C:(Builtin.firstCells i0.size i (.slice (some (aD g 0)) i cap)).run Tryz.prog w.drew=.ok (xs.take (i*2)).toArray w.drew:=by
  rw[L];exact run_firstCells_some w.drew 2 i (aD g 0) i cap (xs.take (i*2)) (by rw[ZZ]; omega) (λj v f=>by
   rw[Qx,QL];rw[Zm]at f;split at f
   ·exact d j v f
   ·cases f)
 have m:=Lib.run_append_grow_zeros w 94 3 94 122 i0 _ .i64 .i64 Tryz.underlying94 Tryz.underlying3 K af (some (aD g 0)) i cap (xs.take (i*2)) C (cap+1-i) (by omega) (by omega) (by omega) (by omega) (by rw[M]; omega) (by rw[M,F]; exact growslice_fits (by omega) (by omega));rw[<- S,F]at m;obtain⟨G,hG⟩:=eY (grownCap w (cap+1) cap 122);obtain⟨a,k⟩:∃ a:Array Value,a=(xs.take (i*2)).toArray++Builtin.zeroCells (Value.agg #[.int .u64 0,.int .u64 0]).cells (cap+1-i)++Builtin.zeroCells (Value.agg #[.int .u64 0,.int .u64 0]).cells (G-(cap+1)):=⟨_,rfl⟩;rw[<- hG,<- k]at m;have ah:cap+1<=G:=by rw[hG]; exact grownCap_ge w _ _ _
 have H:G<=maxLen:=by rw[hG]; exact grownCap_le_maxLen w _ _ _ (by unfold maxLen; omega)
 have T:(xs.take (i*2)).length=i*2:=by rw[ZZ]; omega
 have p:a.size=G*2:=by rw[k];simp[Builtin.zeroCells,Value.cells,T];omega
 have U:a.toList.take (i*2)=xs.take (i*2):=by grind
 obtain⟨Q,z⟩:∃ W,W=w.drew.alloc (.cells a 122):=⟨_,rfl⟩;rw[<- z]at m;have V:Q.heap[w.heap.size]? = some (.cells a 122 (0,0)):=by rw[z]; exact qH w.drew _
 have q:Bw w Q:=by rw[z]; exact((Qm _ _).drew).alloc (Qn _) _
 have I:Q.ownsRow base 122 2 (.slice (some (aD w.heap.size 0)) (cap+1) G) (cap+1) (a.toList.take ((cap+1)*2)):=
  ⟨by rw[ZZ,Array.length_toList,p]; omega,.inr ⟨w.heap.size,G,a,rfl,hb,V,ah,H,p,rfl⟩⟩
 have t:=iY (g:=w.heap.size) rfl [l,r] (i*2) I (by simp; omega);have X:(xs.drop (i*2)).length=cap*2-i*2:=by rw[XG,E]
 obtain⟨_,_,_,vB,Ng,_,_⟩:=lN I;obtain⟨_,_,_,Sb,vC,_,_⟩:=lN t;obtain⟨R,A⟩:∃ W,W=Q.setCells w.heap.size (i*2) [l,r]:=⟨_,rfl⟩;rw[<- A]at t Sb vC;have y:Bw w R:=by rw[A]; exact q.trans ((Kept.setCells (s:=λb=>b<w.heap.size) (λh=>Nat.lt_irrefl _ h) _ _ _).below q.size (λ_ h=>h))
 have Y:R.drew.ownsRow base 122 2 (.slice (some (aD w.heap.size 0)) (cap+1) G) (cap+1) _:=t;have J:=iY (g:=w.heap.size) rfl (xs.drop (i*2)) ((i+1)*2) Y (by rw[X]; omega);have Z:=hvb.keep (Q7 (s:=λb=>b<w.heap.size) q (λ_ h _=>h)) hvb.lt;have aa:∀ O P,(Builtin.copy_ #[94,93] O #[.slice (some (aD w.heap.size (i*2))) (cap+1-i) P,.slice (some (aD vb 0)) 1 1]).run Tryz.prog Q=.ok (goInt (Nat.min 1 (cap+1-i))) R:=λO P=>by
  rw[A];exact vY Q _ _ O 122 2 w.heap.size (i*2) (cap+1-i) P (aD vb 0) 1 1 [l,r] Tryz.underlying94 D (by simp only[Nat.min_def]; split <;> simp; omega)
   (λj v f=>by rw[Qx,QL,Z.cell]; simpa using f)
   (λj f=>vB _ (by simp at f; omega)) (λj f=>Ng _) (λv hv=>by simp at hv; rcases hv with rfl | rfl <;> assumption)
 obtain⟨N3,B⟩:∃ W,W=R.drew.setCells w.heap.size ((i+1)*2) (xs.drop (i*2)):=⟨_,rfl⟩;have ae:∀ O P sc,(Builtin.copy_ #[94,94] O #[.slice (some (aD w.heap.size ((i+1)*2))) (cap-i) P,.slice (some (aD g (i*2))) (cap-i) sc]).run Tryz.prog R.drew=.ok (goInt (Nat.min (cap-i) (cap-i))) N3:=λO P sc=>by
  rw[B];exact vY R.drew _ _ O 122 2 w.heap.size ((i+1)*2) (cap-i) P (aD g (i*2)) (cap-i) sc (xs.drop (i*2)) Tryz.underlying94 D (by grind)
   (λj v f=>by
    rw[Qx];have h1:=d (i*2+j) v (by rwa [List.getElem?_drop]at f);exact cB y.drew h1)
   (λj f=>Sb _ (by omega)) (λj f=>vC _) (λv hv=>hx1 v (List.mem_of_mem_drop hv))
 rw[<- B,Yb l r E (by rw[ZZ,Array.length_toList,p]; omega) hi (by rw[List.take_take,Nat.min_eq_left (by omega)]; exact U)]at J;have mR:Hid (N3.ownsRow base 122 2 (.slice (some (aD w.heap.size 0)) (cap+1) G) (cap+1) (xs.take (i*2)++[l,r]++xs.drop (i*2))/\Bw w N3):=⟨J,by rw[B]; exact y.drew.trans ((Kept.setCells (s:=λb=>b<w.heap.size) (λh=>Nat.lt_irrefl _ h) _ _ _).below (by exact y.size) (λ_ h=>h))⟩;have au:G<=9223372036854775807:=by unfold maxLen at H; omega
 have ax:¬ (G=i):=by omega
 have av:¬ (G=i+1):=by omega
 have ay:¬ (cap=i):=by omega
 have az:IntKind.i64.wrap ((i:Int)+1)=(i:Int)+1:=by rw[IntKind.wrap_i64]; omega
 have aA:(0:Int)<=(i:Int)+1:=by omega
 have aB:(i:Int)+1<=(cap:Int)+1:=by omega
 have aC:((i:Int)+1).toNat=i+1:=by omega
 have aF:(i:Int)<=(cap:Int):=by omega
 clear hown I t Y J C k p U z A B V q y N vB Sb aj Ng vC d hvb Z X T E hx1 ak D K af L M hG F S ai H;go_enter Tryz.func90,Tryz.ntmps90;go_wp2_with (first
  | (at_builtin; refine Lib.wpList_append_run _ rfl _ _ _ _ rfl _ _ rfl rfl _ _ m ?_)
  | (at_builtin; refine wpList_copy_runI _ rfl _ _ 94 93 rfl _ _ rfl rfl (aa _ _) ?_))
 go_region_law (refine step_copy_runI rfl _ _ 94 94 rfl _ _ (by simp[Act.eval,Act.put]) (by simp[Act.eval,Act.put]) (ae _ _ _) ?_);go_wp2;go_ret;exact⟨G,rfl,mR.o⟩
theorem acJ{zs:List Value}(hx:xs.length=(i+1+m)*2) :
  ((xs.take (i*2)++xs.drop ((i+1)*2)++xs.drop (i*2+(xs.drop ((i+1)*2)).length)).take ((i+m)*2)++zs++(xs.take (i*2)++xs.drop ((i+1)*2)++xs.drop (i*2+(xs.drop ((i+1)*2)).length)).drop ((i+m)*2+zs.length)).take ((i+m)*2)=xs.take (i*2)++xs.drop ((i+1)*2):=by
 have a:(xs.take (i*2)++xs.drop ((i+1)*2)).length=(i+m)*2:=by grind
 grind
theorem yF(ag:List aO)(i:Nat):(ag.flatMap fw).take (i*2)=(ag.take i).flatMap fw:=by
 induction ag generalizing i with
 | nil => simp
 | cons t ag ih =>
  cases i with
  | zero => simp
  | succ i =>
   rw[List.take_succ_cons,ZF,ZF,<- ih i];show (fw t++_).take _=_;rw[show (i+1)*2=(fw t).length+i*2 by show _=2+_; omega,List.take_length_add_append]
theorem yG(ag:List aO)(i:Nat):(ag.flatMap fw).drop (i*2)=(ag.drop i).flatMap fw:=by
 induction ag generalizing i with
 | nil => simp
 | cons t ag ih =>
  cases i with
  | zero => simp
  | succ i =>
   rw[List.drop_succ_cons,ZF,<- ih i];show (fw t++_).drop _=_;rw[show (i+1)*2=(fw t).length+i*2 by show _=2+_; omega,List.drop_length_add_append]
theorem EY(ag:List aO):∀ u∈ag.flatMap fw,u.oneCell' = true:=by intro u a;obtain⟨t,_,h⟩:=Q3.1 a;unfold fw at h;simp at h;rcases h with rfl | rfl <;> rfl
theorem acK(ag:List aO)(i:Nat)(t:aO):(ag.flatMap fw).take (i*2)++fw t++(ag.flatMap fw).drop (i*2)=(ag.take i++t::ag.drop i).flatMap fw:=by rw[yF,yG,QO,ZF,List.append_assoc]
theorem acL(ag:List aO)(i:Nat):(ag.flatMap fw).take (i*2)++(ag.flatMap fw).drop ((i+1)*2)=(ag.eraseIdx i).flatMap fw:=by rw[yF,yG,<- QO,List.eraseIdx_eq_take_drop_succ]
theorem Ni(base i vb:Nat)(v:Value)(ag:List aO)(t:aO)(w:World)(hown:w.ownsRow base 122 2 v ag.length (ag.flatMap fw))(hb:base<=w.heap.size)(hl:ag.length<=1000000)(hi:i<=ag.length)(hvb:GB w vb 122 #[.int .u64 (t.1:Int),.int .u64 (t.2:Int)])(hne:v.ownBlock≠some vb) :
  Calls Tryz.prog 90 #[v,.int .i64 (i:Int),.slice (some (aD vb 0)) 1 1] w λe w'=>
   ∃ f,e=.returned f/\w'.ownsRow base 122 2 f (ag.take i++t::ag.drop i).length ((ag.take i++t::ag.drop i).flatMap fw)/\Kept (λb=>v.ownBlock≠some b) w w'/\(f.ownBlock=v.ownBlock∨∃ g,f.ownBlock=some g/\w.heap.size<=g):=by
 have d:(ag.take i++t::ag.drop i).length=ag.length+1:=by grind
 rw[d,<- acK];by_cases l:i=ag.length
 ·subst l;have m:(ag.flatMap fw).take (ag.length*2)++fw t++(ag.flatMap fw).drop (ag.length*2)=ag.flatMap fw++[.int .u64 (t.1:Int),.int .u64 (t.2:Int)]:=by rw[yF,yG,QT,List.drop_length];simp[fw]
  rw[m];exact Sa base ag.length vb v _ _ _ w hown hb hl rfl rfl hvb
 ·rcases hown.2 with⟨_,h0⟩ | ⟨g,cap,cur,rfl,-⟩
  ·omega
  by_cases a:ag.length+1<=cap
  ·refine(Kw base g ag.length cap i vb _ _ _ w hown (EY ag) rfl rfl (by omega) a hvb (λe=>hne (by rw[e]; rfl))).mono ?_;rintro e w' ⟨rfl,j,k⟩;exact⟨_,rfl,j,k.mono (λb _ h e=>h (by rw[e]; rfl)),.inl rfl⟩
  ·refine(Nh base g ag.length cap i vb _ _ _ w hown hb hl (EY ag) rfl rfl (by omega) (by omega) hvb).mono ?_;rintro e w' ⟨G,rfl,j,k⟩;exact⟨_,rfl,j,Q7 k (λ_ h _=>h),.inr ⟨_,rfl,Qn _⟩⟩
theorem Nk(base g cap i m:Nat)(xs:List Value)(w:World)(hown:w.ownsRow base 122 2 (.slice (some (aD g 0)) (i+1+m) cap) (i+1+m) xs)(hx1:∀ u∈xs,u.oneCell' = true)(hm:i+1+m<=1000000) :
  Calls Tryz.prog 98 #[.slice (some (aD g 0)) (i+1+m) cap,.int .i64 (i:Int),.int .i64 ((i:Int)+1)] w λe w'=>
   e=.returned (.slice (some (aD g 0)) (i+m) cap)/\w'.ownsRow base 122 2 (.slice (some (aD g 0)) (i+m) cap) (i+m) (xs.take (i*2)++xs.drop ((i+1)*2))/\Kept (λb=>b≠g) w w':=by
 obtain⟨i0,H,N,O,aj⟩:=Zv Tryz.Ac;obtain⟨ak,I,l,n,J,P,Q⟩:=lN hown;have D:=hown.1;have S:cap<=9223372036854775807:=by unfold maxLen at I; omega
 obtain⟨a,d⟩:=eY (xs.drop ((i+1)*2));have f:a.length=m*2:=by grind
 obtain⟨A,hA,K⟩:∃ A:Addr,(if cap=i+1 then some ((aD g 0):Addr) else some (aD g ((i+1)*2)))=some A/\Hid (∀ t u,a[t]? = some u->w.drew.cell? (A.add t)=some u):=by
  by_cases h:cap=i+1
  ·refine⟨(aD g 0),by simp[h],λt u s=>?_⟩
   grind
  ·refine⟨(aD g ((i+1)*2)),by simp[h],λt u s=>?_⟩;rw[d,List.getElem?_drop]at s;rw[Qx];exact l _ _ s
 have X:=Zh f;have Y:Hid (∀ u∈a,u.oneCell' = true):=λu s=>by grind
 have Z:Hid (∀ t,t<a.length->(w.drew.cell? (aD g (0+i*2+t))).isSome=true/\w.drew.frozen? (aD g (0+i*2+t))=false):=λt ht=>by rw[f]at ht;rw[QL];exact⟨n _ (by omega),J _⟩
 obtain⟨L,q⟩:=eY (w.drew.setCells g (0+i*2) a);have k:w.drew.ownsRow base 122 2 (.slice (some (aD g 0)) (i+1+m) cap) (i+1+m) xs:=hown;have p:=iY (v:=.slice (some (aD g 0)) (i+1+m) cap) (g:=g) rfl a (0+i*2) k (by rw[f]; omega);rw[<- q,QL]at p;have E:Kept (λb=>b≠g) w L:=by rw[q]; exact(Kept.ah5 w).trans (Kept.setCells (λh=>h rfl) _ _ _)
 obtain⟨_,_,_,T,U,_,_⟩:=lN p;have F:∀ W,(zeroValue 122).run Tryz.prog W=.ok (.agg #[.int .u64 0,.int .u64 0]) W:=λW=>by simp[zeroValue,typeInfo,H,N]
 obtain⟨B,r⟩:∃ B:List Value,B=[.int .u64 0,.int .u64 0]:=⟨_,rfl⟩;have G:B.length=2:=by rw[r]; rfl
 have M:∀ R c,(Builtin.clear_ #[94] R #[.slice (some (aD g ((i+m)*2))) 1 c]).run Tryz.prog L=.ok (.tuple #[]) (L.setCells g ((i+m)*2) B):=λR c=>
  RN L 94 122 R _ Tryz.underlying94 F B (by rw[r]; kernel_rfl) (λu s=>by rw[r]at s; simp at s; rcases s with rfl | rfl <;> rfl) g ((i+m)*2) c (λj hj=>T _ (by omega)) (λj hj=>U _)
 obtain⟨V,C⟩:=eY (L.setCells g ((i+m)*2) B);have y:=iY (v:=.slice (some (aD g 0)) (i+1+m) cap) (g:=g) rfl B ((i+m)*2) p (by rw[G]; omega);rw[<- C]at y M;have z:=afy y (m:=i+m) (by omega);rw[d,acJ D]at z;have mR:Hid (V.ownsRow base 122 2 (.slice (some (aD g 0)) (i+m) cap) (i+m) (xs.take (i*2)++xs.drop ((i+1)*2))/\Kept (λb=>b≠g) w V):=⟨z,E.trans (by rw[C]; exact Kept.setCells (λh=>h rfl) _ _ _)⟩;have HW:=Zh q;have aa:i+1+m-(i+1)=m:=by omega
 have ae:i+1+m-(i+m)=1:=by omega
 have af:i<=cap:=by omega
 have ag:i+1<=cap:=by omega
 have ah:(0:Int)<=(i:Int)+1:=by omega
 have ai:((i:Int)+1).toNat=i+1:=by omega
 have jD:(i:Int)+1<=(i:Int)+1+(m:Int):=by omega
 clear hown k p y z E q C n T J U l f d D hx1 F r G P Q I;go_enter Tryz.func98,Tryz.ntmps98;go_wp2_with fail;go_region_law (refine step_append_room rfl (.tmp 22) (.tmp 25) 94 rfl 122 i0 2 Tryz.underlying94 H O g 0 i cap (by simp[Act.eval,Act.put]) A m (cap-(i+1)) a (by simp[Act.eval,Act.put]) X.o K.o Y.o (by omega) Z.o ?_; rw[<- HW.o]);go_wp2;go_ret;exact⟨rfl,mR.o⟩
theorem wK(h:w.ownsRow base e 2 v ag.length (ag.flatMap fw))(hl:ag.length<=1000000):∃ b cap,v=.slice b ag.length cap/\mq w b ag:=by
 rcases iR h with⟨rfl,h0⟩ | ⟨g,cap,rfl,_,_,hc⟩
 ·have:=Zl h0;subst this;exact⟨none,0,rfl,by simp,λi a=>absurd a (by simp)⟩
 ·refine⟨_,cap,rfl,by omega,λi a=>⟨g,0,rfl,?_,?_⟩⟩
  ·rw[QL];exact hc (i*2) _ (by have:=ZE fw 2 (λ_=>rfl) (0,0) ag i 0 a (by omega); rw[ZG]at this; rw[this]; rfl)
  ·rw[QL];exact hc (i*2+1) _ (by rw[ZE fw 2 (λ_=>rfl) (0,0) ag i 1 a (by omega)]; rfl)
theorem mq.bI{A B:World}{F:Nat->Prop}{ao:Option Addr}{ag:List aO}(h:mq A ao ag)(hk:Kept F A B)(hF:∀ a,ao=some a->F a.block):mq B ao ag:=
 ⟨h.1,λi j=>by
  obtain⟨b,d,rfl,f,g⟩:=h.2 i j;have e:=hk.block b (Za f) (hF _ rfl);exact⟨b,d,rfl,by rw[Zc e]; exact f,by rw[Zc e]; exact g⟩⟩
theorem KA{rk:Nat->Int}:∀ (l ag:List aO),(∀ a∈ag,a.1<32/\a.2<32)->(∀ a∈l,a.1<32/\a.2<32)->(∀ a∈l.foldl (gI rk) ag,a.1<32/\a.2<32)/\(l.foldl (gI rk) ag).length<=ag.length+l.length
 | [],_,h,_ => ⟨h,by simp⟩
 | t::l,ag,h,hl => by
  have:=KA (rk:=rk) l (gI rk ag t) (λa ha=>by
   rcases Ae ha with ha | rfl
   ·exact h a ha
   ·exact hl a ZJ) (λa ha=>hl a (ZI _ ha))
  refine⟨this.1,Q6 this.2 ?_⟩;have:=E9 rk ag t;simp only[QV];omega
theorem acQ{t:aO}(h:oh rk ag t=true):gI rk ag t=ag:=by unfold gI; rw[Qo h]
theorem afP{t:aO}(h:oh rk ag t=false):gI rk ag t=ag.take (mK rk ag t)++t::ag.drop (mK rk ag t):=by unfold gI; rw[h]; rfl
theorem Sc(lt:Nat->Bool):∀ f i j,i<=j->Ya lt f i j<=j
 | 0,_,_,h => h
 | f+1,i,j,h => by
  show (if i<j then _ else _)<=_;split
  ·split
   ·exact Sc lt f _ _ (by omega)
   ·exact Q6 (Sc lt f _ _ (by omega)) (by omega)
  ·exact h
theorem acR(rk:Nat->Int)(ag:List aO)(t:aO):mK rk ag t<=ag.length:=Sc _ _ _ _ (QK _)
theorem jq{G:Nat}{c:Array Value}(h:w.ownsRow base e sz v n xs)(hg:GB w G t c)(hne:e≠t):v.ownBlock≠some G:=λd=>by obtain⟨b,f⟩:=mU h d;have a:w.heap[G]? = some (.cells c t (0,0)):=hg;grind
theorem UU{wr w1 w4:World}(hsz:14<arr.size)(hg:GB w4 sb TS (arr.setIfInBounds 14 v))(ho:w4.ownsRow base TT 2 v' n xs)(hk:Kept (λb=>b≠sb/\av.ownBlock≠some b) w wr)(h1:Bw wr w1)(h2:Bw w1 w2)(h3:Bw w2 w3)(h4:Kept (λb=>v.ownBlock≠some b) w3 w4)(hv:v.ownBlock=av.ownBlock∨∃ g,v.ownBlock=some g/\w.heap.size<=g)(hv':v'.ownBlock=v.ownBlock∨∃ g,v'.ownBlock=some g/\w3.heap.size<=g)(hne:TT≠TS) :
  GB (w4.setCell (aD sb 14) v') sb TS (arr.setIfInBounds 14 v')/\(w4.setCell (aD sb 14) v').ownsRow base TT 2 v' n xs/\Kept (λb=>b≠sb/\av.ownBlock≠some b) w (w4.setCell (aD sb 14) v')/\(v'.ownBlock=av.ownBlock∨∃ g,v'.ownBlock=some g/\w.heap.size<=g):=by
 have i:=Q6 hk.size (Q6 h1.size (Q6 h2.size h3.size));have d:Kept (λb=>b<wr.heap.size) wr w3:=(Q7 h1 (λ_ h _=>h)).trans' ((Q7 h2 (λ_ h _=>h)).trans' (Q7 h3 (λ_ h _=>h)) (λb a _=>a)) (λb a _=>(QH a h1.size:b<w1.heap.size));have f:=(hk.trans' d (λb a _=>QH a hk.size)).trans' h4 (λb a h e=>by
  grind)
 refine⟨?_,?_,f.trans (Zf _ _ _ (λh=>h.1 rfl)),?_⟩
 ·have:=hg.set 14 v'
  rwa [XJ]at this
 ·exact Zi ho (s:=λb=>b≠sb) (Zf _ _ _ (λh=>h rfl)) (λg e h=>jq ho hg hne (h ▸ e))
 grind
theorem Nr(sb base:Nat)(arr:Array Value)(av:Value)(ag ts:List aO)(ta:Option Addr)(tc:Nat)(w:World)(hg:GB w sb 97 arr)(h14:arr[14]? = some av)(hown:w.ownsRow base 122 2 av ag.length (ag.flatMap fw))(hb:base<=w.heap.size)(hts:mq w ta ts)(afQ:∀ a,ta=some a->a.block≠sb/\av.ownBlock≠some a.block)(hl:ag.length+ts.length<=1000000)(ha32:∀ a∈ag,a.1<32/\a.2<32)(ako:∀ a∈ts,a.1<32/\a.2<32) :
  Calls Tryz.prog 52 #[.pointer (some (aD sb 14)),.slice ta ts.length tc] w λe w'=>(∃ v,e=.returned v)/\∃ N,GB w' sb 97 (arr.setIfInBounds 14 N)/\w'.ownsRow base 122 2 N (ts.foldl (gI bJ) ag).length ((ts.foldl (gI bJ) ag).flatMap fw)/\Kept (λb=>b≠sb/\av.ownBlock≠some b) w w'/\(N.ownBlock=av.ownBlock∨∃ g,N.ownBlock=some g/\w.heap.size<=g):=by
 have MX:=Zh hts;have aF:=Zh afQ;obtain⟨f,W⟩:∃ X:Nat->List aO,X=λk=>(ts.take k).foldl (gI bJ) ag:=⟨_,rfl⟩;have aG:Hid (∀ k,k<ts.length->f (k+1)=gI bJ (f k) (ts.getD k (0,0))):=λk hk=>by rw[W]; exact jM _ ag ts (0,0) hk
 have Be:Hid (∀ k,(∀ a∈f k,a.1<32/\a.2<32)/\(f k).length<=1000000):=λk=>by have:=KA (rk:=bJ) (ts.take k) ag ha32 (λa ha=>ako a (ZO ha));grind
 have HE:Hid (f ts.length=ts.foldl (gI bJ) ag):=by grind
 have aH:Hid (∀ k,k<ts.length->(ts.getD k (0,0)).1<32/\(ts.getD k (0,0)).2<32):=λk hk=>ako _ (Zr hk);have ak:Hid (GB w sb 97 (arr.setIfInBounds 14 av)/\w.ownsRow base 122 2 av (f 0).length ((f 0).flatMap fw)):=by
  refine⟨?_,by rw[W]; exact hown⟩;have:arr.setIfInBounds 14 av=arr:=by grind
  rw[this];exact hg
 have uG:=Zh ((Zb.1 h14).1);have DW:=Zh hb;have aU:ts.length<=1000000:=by omega
 clear hts afQ W ha32 ako hg h14 hown hl hb;generalize ts.foldl (gI bJ) ag=R at *;go_enter Tryz.func52,Tryz.ntmps52;go_wp2;go_loopw [10] (λiv wr=>∃ (k:Nat) (B:Value),k<=ts.length/\iv=.int .i64 (k:Int)/\Hid (GB wr sb 97 (arr.setIfInBounds 14 B))/\Hid (wr.ownsRow base 122 2 B (f k).length ((f k).flatMap fw))/\Hid (Kept (λb=>b≠sb/\av.ownBlock≠some b) w wr)/\Hid (B.ownBlock=av.ownBlock∨∃ g,B.ownBlock=some g/\w.heap.size<=g)) (λiv _=>ts.length-(intOf iv).toNat)
 case atStart=>exact⟨0,av,QK _,rfl,ak.o.1,ak.o.2,Q5 _ _,.inl rfl⟩
 case round=>
  obtain⟨k,B,hk,rfl,Y,Z,HK,HV⟩:=hrel;by_cases aj:k<ts.length
  ·obtain⟨tb,aV,afQ,ae,af⟩:=(MX.o.bI HK.o (λa ha=>aF.o a ha)).2 k aj;subst afQ;have Ko:=aG.o k aj;have O:=aH.o k aj;have uz:=Be.o k;obtain⟨l,m,Pw,aB⟩:=wK Z.o uz.2;subst Pw;generalize aT:ts.getD k (0,0)=t at *;obtain⟨q,r⟩:=t;simp only at ae af O;obtain⟨w1,aQ,u,ah⟩:=bn wr #[.int .u64 (q:Int),.int .u64 (r:Int)] 122;obtain⟨b0,b1⟩:=ah.k2;have E:w1.cell? (aD sb 14)=some (.slice l (f k).length m):=by refine cB u ?_;rw[Y.o.cell 14,XB,Qo rfl,Qo uG.o]
   have H:Hid (∀ x,Bw w1 x->Cb 88 #[.slice l (f k).length m,.agg #[.int .u64 (q:Int),.int .u64 (r:Int)],.func (.func 89) #[] #[]] x (.tuple #[.int .i64 (mK bJ (f k) (q,r):Int),.bool (oh bJ (f k) (q,r))])):=λx hx=>Ho l m (f k) (q,r) x (aB.below (u.trans (hx.mono u.size))) uz.1 O;have Ns:=Zh (ZM Z.o u);have uk:=Zh (Y.o.keep (Q7 (s:=λb=>b<wr.heap.size) u (λ_ h _=>h)) Y.o.lt);have au:=Zh ah;have I:=Zh u;have J:Hid (∀ x vb,x.ownsRow base 122 2 (.slice l (f k).length m) (f k).length ((f k).flatMap fw)->base<=x.heap.size->GB x vb 122 #[.int .u64 (q:Int),.int .u64 (r:Int)]->(Value.slice l (f k).length m).ownBlock≠some vb->oh bJ (f k) (q,r)=false->Calls Tryz.prog 90 #[.slice l (f k).length m,.int .i64 (mK bJ (f k) (q,r):Int),.slice (some (aD vb 0)) 1 1] x λe w'=>∃ v',e=.returned v'/\w'.ownsRow base 122 2 v' (f (k+1)).length ((f (k+1)).flatMap fw)/\Kept (λb=>(Value.slice l (f k).length m).ownBlock≠some b) x w'/\(v'.ownBlock=(Value.slice l (f k).length m).ownBlock∨∃ g,v'.ownBlock=some g/\x.heap.size<=g)):=λx vb ho hb hv aS ht=>by rw[Ko,afP ht];exact Ni base _ vb _ (f k) (q,r) x ho hb uz.2 (acR _ _ _) hv aS
   have aI:Hid (oh bJ (f k) (q,r)=true->f (k+1)=f k):=λh=>by rw[Ko]; exact acQ h
   have P:=Zh (jq Z.o Y.o (by decide));have aJ:=uz.2;generalize mK bJ (f k) (q,r)=FA at *;generalize oh bJ (f k) (q,r)=TB at *;obtain⟨C,ai⟩:∃ C,C=(f k).length:=⟨_,rfl⟩;have zk:=Zh ai.symm;rw[<- ai]at E H J P Ns uk HV aJ Y Z;clear u ah aB uz Ko O aT ai;obtain⟨wq,aR⟩:∃ x,x=wr:=⟨_,rfl⟩;subst aR;go_wp2_with fail;clear aQ;refine wH w1 λd=>?_;refine wt 0 (.pointer (some (aD sb 14))) d ?_;refine wt 1 (.pointer (some (aD sb 14))) d ?_;refine l8 2 (.slice l C m) d E ?_;refine wT 3 (.agg #[.int .u64 (q:Int),.int .u64 (r:Int)]) d (λx hx=>?_) ?_
   ·have e0:=cB hx b0;have e1:=cB hx b1;go_simp
   refine wR 4 λK i=>?_;go_simp;refine Z5 (H.o _ d) ?_;rintro e D ⟨rfl,hb⟩;refine oT i d hb λd=>?_;clear i K;refine wt 5 (.tuple #[.int .i64 (FA:Int),.bool TB]) d ?_;refine wt 6 (.int .i64 (FA:Int)) d ?_;refine wt 7 (.bool TB) d ?_;refine wt 8 (.int .i64 (FA:Int)) d ?_;refine wR 9 λK i=>?_;go_simp;refine i.o _ _ d λd=>?_;clear i K;refine wD ?_;try simp only[pV]
   try simp only[pV]
   have y:=Zh d;clear d
   cases TB with
   | true =>
    have aK:=Zh (aI.o rfl);have z:Hid (GB D sb 97 (arr.setIfInBounds 14 (.slice l C m))/\D.ownsRow base 122 2 (.slice l C m) (f (k+1)).length ((f (k+1)).flatMap fw)/\Kept (λb=>b≠sb/\av.ownBlock≠some b) w D):=⟨uk.o.keep (Q7 (s:=λb=>b<w1.heap.size) y.o (λ_ h _=>h)) uk.o.lt,by rw[aK.o,zk.o]; exact ZM Ns.o y.o,HK.o.trans ((Q7 I.o (λ_ h _=>h)).trans (Q7 y.o (λ_ h _=>h)))⟩;clear b0 b1 E H J ae af;go_wp2;go_roundw
    case rel=>exact⟨k+1,.slice l C m,by omega,by go_num,z.o.1,z.o.2.1,z.o.2.2,HV.o⟩
    case measure=>simp[intOf]; omega
   | false =>
    have A:=y.o;have Q:=cB A E;have aL:=Zh (au.o.keep (Q7 (s:=λb=>b<w1.heap.size) A (λ_ h _=>h)) au.o.lt);have ax:=Zh (ZM Ns.o A);have L:=Zh (uk.o.keep (Q7 (s:=λb=>b<w1.heap.size) A (λ_ h _=>h)) uk.o.lt);have aM:Hid ((Value.slice l C m).ownBlock≠some wq.heap.size):=λe=>by have:=(Zj Z.o e).2; omega
    have aN:Hid (wq.heap.size≠sb):=λe=>by have:=Y.o.lt; omega
    have ay:D.drew.cell? (aD sb 14)=some (.slice l C m):=Q;obtain⟨w3,aC⟩:∃ x,D.drew.alloc (.cells #[.int .u64 (q:Int),.int .u64 (r:Int)] 122)=x:=⟨_,rfl⟩;have F:Bw D w3:=by rw[<- aC]; exact((Qm _ _).drew).alloc (Qn _) _
    have az:=cB F Q;have p:=Zh F;have M:=J.o w3 D.heap.size (ZM ax.o F) (Q6 DW.o (Q6 HK.o.size (Q6 I.o.size (Q6 A.size F.size)))) (by rw[<- aC]; exact qH D.drew _) (λe=>by have:=(Zj ax.o e).2; omega) rfl;clear A F b0 b1 E H J ae af Q;go_wp2_with fail;refine QC (S:=λx=>Kept (λb=>b≠sb/\(Value.slice l C m).ownBlock≠some b) D x) (by kernel_rfl) (Q7 ((Qm D.heap.size D).drew) (λ_ hl _=>hl)) (λd=>?_);refine wt 0 (.pointer (some (aD sb 14))) d ?_;refine wt 1 (.pointer (some (aD sb 14))) d ?_;refine wt 2 (.pointer (some (aD sb 14))) d ?_;refine wt 4 (.int .i64 (FA:Int)) d ?_;refine wT 5 (.agg #[.int .u64 (q:Int),.int .u64 (r:Int)]) d (λx hx=>?_) ?_
    ·have aP:=aL.o.keep hx (show wq.heap.size≠sb/\_ from ⟨aN.o,aM.o⟩);obtain⟨e0,e1⟩:=aP.k2;go_simp
    refine wJ 3 6 (λK i=>?_) λK i=>?_
    ·go_simp;refine i.o _ _ d λd=>?_
     clear i K;refine wR 6 λK i=>?_;go_simp;refine i.o _ _ (Q7 p.o (λ_ h _=>h)) (λd=>?_);clear i K;refine wR 7 λK i=>?_;go_simp;refine Z5 M ?_;rintro e w4 ⟨v',rfl,BI,n,G⟩;obtain⟨za,zm,zc,rfl⟩:=Zk BI;have T:Kept (λb=>b≠sb/\(Value.slice l C m).ownBlock≠some b) D w4:=(Q7 p.o (λ_ h _=>h)).trans (n.mono (λb _ h=>h.2));refine i.o _ _ T λd=>?_;clear i K;refine wt 8 (.pointer (some (aD sb 14))) d ?_;have j:=L.o.keep ((Q7 (s:=λb=>b=sb) p.o (λb _ h=>by rw[h]; exact L.o.lt)).trans (n.mono (λb _ h e=>P.o (h ▸ e)))) rfl;have U:=j.frozen 14;have V:w4.cell? (aD sb 14)=some (.slice l C m):=by rw[j.cell 14,XB,Qo rfl,Qo uG.o]
     refine wR 9 λK i=>?_;go_simp;refine i.o _ _ (T.trans (Zf _ _ _ (λh=>h.1 rfl))) (λd=>?_);clear i K;refine wD ?_;try simp only[pV]
     try simp only[pV]
     have z:=Zh (UU uG.o j BI HK.o I.o y.o p.o n HV.o G (by decide));clear d U V j BI n G T ay az M;go_wp2;go_roundw
     case rel=>exact⟨k+1,.slice za zm zc,by omega,by go_num,z.o.1,z.o.2.1,z.o.2.2.1,z.o.2.2.2⟩
     case measure=>simp[intOf]; omega
    ·go_simp;refine i.o _ _ (Q7 p.o (λ_ h _=>h)) (λd=>?_);clear i K;refine wR 3 λK i=>?_
     go_simp;refine i.o _ _ d λd=>?_;clear i K;refine wR 7 λK i=>?_;go_simp;refine Z5 M ?_;rintro e w4 ⟨v',rfl,BI,n,G⟩;obtain⟨za,zm,zc,rfl⟩:=Zk BI;have T:Kept (λb=>b≠sb/\(Value.slice l C m).ownBlock≠some b) D w4:=(Q7 p.o (λ_ h _=>h)).trans (n.mono (λb _ h=>h.2));refine i.o _ _ T λd=>?_;clear i K;refine wt 8 (.pointer (some (aD sb 14))) d ?_;have j:=L.o.keep ((Q7 (s:=λb=>b=sb) p.o (λb _ h=>by rw[h]; exact L.o.lt)).trans (n.mono (λb _ h e=>P.o (h ▸ e)))) rfl;have U:=j.frozen 14;have V:w4.cell? (aD sb 14)=some (.slice l C m):=by rw[j.cell 14,XB,Qo rfl,Qo uG.o]
     refine wR 9 λK i=>?_;go_simp;refine i.o _ _ (T.trans (Zf _ _ _ (λh=>h.1 rfl))) (λd=>?_);clear i K;refine wD ?_;try simp only[pV]
     try simp only[pV]
     have z:=Zh (UU uG.o j BI HK.o I.o y.o p.o n HV.o G (by decide));clear d U V j BI n G T ay az M;go_wp2;go_roundw
     case rel=>exact⟨k+1,.slice za zm zc,by omega,by go_num,z.o.1,z.o.2.1,z.o.2.2.1,z.o.2.2.2⟩
     case measure=>simp[intOf]; omega
  ·have aA:ts.length=k:=by omega
   rw[<- aA,HE.o]at Z;clear aA;go_wp2;go_end0;exact⟨⟨_,rfl⟩,B,Y.o,Z.o,HK.o,HV.o⟩
theorem ac0(hg:GB w3 sb TS (arr.setIfInBounds 14 av))(ho:w3.ownsRow base TT 2 v' n xs)(h2:Bw w w2)(h4:Kept (λb=>av.ownBlock≠some b) w2 w3)(hne:TT≠TS) :
  GB (w3.setCell (aD sb 14) v') sb TS (arr.setIfInBounds 14 v')/\(w3.setCell (aD sb 14) v').ownsRow base TT 2 v' n xs/\Kept (λb=>b≠sb/\av.ownBlock≠some b) w (w3.setCell (aD sb 14) v'):=by
 refine⟨?_,?_,?_⟩
 ·have:=hg.set 14 v'
  rwa [XJ]at this
 ·exact Zi ho (s:=λb=>b≠sb) (Zf _ _ _ (λh=>h rfl)) (λg e h=>jq ho hg hne (h ▸ e))
 ·exact((Q7 h2 (λ_ h _=>h)).trans (h4.mono (λb _ h=>h.2))).trans (Zf _ _ _ (λh=>h.1 rfl))
theorem ac1{W:World}{B:Nat}{u:Value}(h:GB W B 122 #[v,u]):(loadVar 122 (aD B 0)).run Tryz.prog W=.ok (.agg #[v,u]) W:=by obtain⟨a,b⟩:=h.k2;simp[go_sem,a,b]
theorem Yp(sb base i:Nat)(arr:Array Value)(av:Value)(ag:List aO)(w:World)(hg:GB w sb 97 arr)(h14:arr[14]? = some av)(hown:w.ownsRow base 122 2 av ag.length (ag.flatMap fw))(hl:ag.length<=1000000)(hi:i<ag.length) :
  Calls Tryz.prog 59 #[.pointer (some (aD sb 14)),.int .i64 (i:Int)] w λe w'=>e=.returned (.agg #[.int .u64 ((ag.getD i (0,0)).1:Int),.int .u64 ((ag.getD i (0,0)).2:Int)])/\∃ B,GB w' sb 97 (arr.setIfInBounds 14 B)/\w'.ownsRow base 122 2 B (ag.eraseIdx i).length ((ag.eraseIdx i).flatMap fw)/\Kept (λb=>b≠sb/\av.ownBlock≠some b) w w'/\B.ownBlock=av.ownBlock:=by
 obtain⟨L,ak⟩:=Zb.1 h14;have t:arr.setIfInBounds 14 av=arr:=by grind
 have D:GB w sb 97 (arr.setIfInBounds 14 av):=by rw[t]; exact hg
 obtain⟨aa,C,rfl,M⟩:=wK hown hl;obtain⟨tb,az,z,N,O⟩:=M.2 i hi;rcases hown.2 with⟨_,h0⟩ | ⟨g,cap,cur,hs,hbg,-⟩
 ·omega
 injection hs with hs1 _ hs2;subst hs1 hs2;injection z with z;injection z with avQ avR;subst avQ avR;obtain⟨m,hm⟩:∃ m,ag.length=i+1+m:=⟨ag.length-(i+1),by omega⟩;have E:(ag.eraseIdx i).length=i+m:=by grind
 have W:=Zh (jq hown hg (by decide));have F:=(hg.cell 14).trans h14;have G:=(Zj hown rfl).2;obtain⟨w1,au,d,q⟩:=bn w #[.int .u64 0,.int .u64 0] 122;have v:=cB d F;rw[hm]at v;have X:=cB d N;have Y:=cB d O;rw[QL]at X Y;obtain⟨tl,P⟩:∃ x,x=(ag.getD i (0,0)).1:=⟨_,rfl⟩;obtain⟨tr,Q⟩:∃ x,x=(ag.getD i (0,0)).2:=⟨_,rfl⟩;rw[<- P]at X ⊢;rw[<- Q]at Y ⊢;obtain⟨w2,ax,r,R⟩:=bn w1 #[.int .u64 (tl:Int),.int .u64 (tr:Int)] 122;have U:=d.trans (r.mono d.size);have Z:=cB r v;have a:=ZM hown U;have y:=Nk base g C i m (ag.flatMap fw) w2 (by rw[hm]at a; exact a) (EY ag) (by omega);rw[acL]at y;have u:=q.lt;have H:=hg.lt;have ae:=Zh (D.keep (Q7 (s:=λb=>b<w.heap.size) U (λ_ h _=>h)) hg.lt);have af:=Zh R;have ah:=Zh (q.keep (Q7 (s:=λb=>b<w1.heap.size) r (λ_ h _=>h)) q.lt);have ai:=Zh U;have uG:=Zh L;have Pp:Hid (g<w.heap.size):=G;have k:Hid (sb<w.heap.size/\w.heap.size<w1.heap.size):=⟨H,u⟩;rw[E];have h1:(i:Int)<(i:Int)+1+(m:Int):=by omega
 have ay:wrap64 ((i:Int)+1)=(i:Int)+1:=by unfold wrap64; omega
 clear d r U q R hown a M N O hm E hg D t ak h14 F L hi hl G u H P Q hbg;generalize (ag.eraseIdx i).flatMap fw=FX at *;go_enter Tryz.func59,Tryz.ntmps59;go_wp2_with fail;refine y.mono ?_;rintro e w3 ⟨rfl,S,j⟩;have l:=ae.o.keep j (λe=>W.o (by rw[e]; rfl));have c3:w3.cell? (aD sb 14)=some (.slice (some (aD g 0)) ag.length C):=by rw[l.cell 14,XB,Qo rfl,Qo uG.o]
 have f3:=l.frozen 14;clear y au ax v X Y Z;go_upto_region 3 with fail;obtain⟨w4,A⟩:∃ x,x=w3.setCell (aD sb 14) (.slice (some (aD g 0)) (i+m) C):=⟨_,rfl⟩;have rZ:Kept (λb=>b≠sb) w3 w4:=by rw[A]; exact Zf _ _ _ (λh=>h rfl)
 have I:=(af.o.keep j (by have:=Pp.o; have:=k.o; omega)).keep rZ (by have:=k.o; omega);have f:=(ah.o.keep j (by have:=Pp.o; omega)).keep rZ (by have:=k.o; omega);have J:=ac0 l S ai.o (j.mono (λb _ h e=>h (by rw[e]; rfl))) (by decide:122≠97);rw[<- A]at J ⊢;obtain⟨x0,x1⟩:=I.k2;obtain⟨y0,y1⟩:=f.k2;have z0:=f.frozen 0;have z1:=f.frozen 1;obtain⟨T,V⟩:∃ x,x=(w4.setCell (aD w.heap.size 0) (.int .u64 (tl:Int))).setCell (aD w.heap.size 1) (.int .u64 (tr:Int)):=⟨_,rfl⟩;have n:Kept (λb=>b≠w.heap.size) w4 T:=by rw[V]; exact(Zf _ _ _ (λh=>h rfl)).trans (Zf _ _ _ (λh=>h rfl))
 have K:GB T w.heap.size 122 #[.int .u64 (tl:Int),.int .u64 (tr:Int)]:=by rw[V]; exact(f.set 0 _).set 1 _
 have vV:=Zh (ac1 K);have HF:Hid (GB T sb 97 (arr.setIfInBounds 14 (.slice (some (aD g 0)) (i+m) C))/\T.ownsRow base 122 2 (.slice (some (aD g 0)) (i+m) C) (i+m) FX/\Kept (λb=>b≠sb/\(Value.slice (some (aD g 0)) ag.length C).ownBlock≠some b) w T):=⟨J.1.keep n (by have:=k.o; omega),Zi J.2.1 n (λg' e=>by have e2:g=g':=Option.some.inj e; have:=Pp.o; omega),J.2.2.trans' n (λb hb _=>Nat.ne_of_lt hb)⟩;have aj:=Zh V;clear A V I f J rZ n K j S l c3 f3;go_wp2;rw[<- aj.o];exact Xh (kX (p:=4) rfl rfl vV.o) rfl ⟨rfl,_,HF.o.1,HF.o.2.1,HF.o.2.2,rfl⟩
