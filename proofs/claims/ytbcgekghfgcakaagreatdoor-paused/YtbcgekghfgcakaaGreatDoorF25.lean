import Derived.Test.YtbcgekghfgcakaaGreatDoorF22
set_option linter.all false
set_option maxRecDepth 100000
set_option maxHeartbeats 16000000
namespace Go.Proofs.Zz
open Go.RowKit Go.Shelf
theorem Rp (xs:List Value) (o:Nat) (u:Value) (h:o<xs.length):(xs.set o u).take (o+1)=xs.take o++[u]:=by
 rw[List.set_eq_take_append_cons_drop,Qr h];have:xs.take o++u::xs.drop (o+1)=(xs.take o++[u])++xs.drop (o+1):=by simp
 rw[this,List.take_left' (by simp; omega)]
theorem Rq (xs:List Value) (o k:Nat) (u:Value) (h:o<k):(xs.set o u).drop k=xs.drop k:=List.drop_set_of_lt h
theorem fw {base:Nat} {e:TypeId} {sz:Nat} {v:Value} {n g:Nat} (hg:v.ownBlock=some g):∀ (vs:List Value) (o:Nat) {w:World} {xs:List Value},w.ownsRow base e sz v n xs->o+vs.length<=n*sz->
  (w.setCells g o vs).ownsRow base e sz v n (xs.take o++vs++xs.drop (o+vs.length))
 | [],o,w,xs,h,_ => by simpa [World.setCells] using h
 | u::r,o,w,xs,h,hl => by
  have hx:=h.1;simp only[Q5] at hl;have h1:=fw hg r (o+1) (zk h hg (j:=o) (by omega) u) (by omega);rw[Rp xs o u (by omega),Rq xs o _ u (by omega)] at h1;have e1:xs.take o++u::r++xs.drop (o+(u::r).length)=xs.take o++[u]++r++xs.drop (o+1+r.length):=by
   rw[Q5,show o+(r.length+1)=o+1+r.length by omega];simp
  rw[e1];exact h1
theorem Kept.setCells {s:Nat->Prop} {g:Nat} (hg:¬ s g):∀ (vs:List Value) (o:Nat) (W:World),Kept s W (W.setCells g o vs)
 | [],_,W => Q7 _ W
 | u::r,o,W => (Zv W (aD g o) u hg).trans (Kept.setCells hg r (o+1) (W.setCell (aD g o) u))
theorem U8 {w:World} {base:Nat} {e:TypeId} {sz g n cap:Nat} {xs:List Value} (h:w.ownsRow base e sz (.slice (some (aD g 0)) n cap) n xs) (hc:n+1<=cap):∃ ys,ys.length=sz/\w.ownsRow base e sz (.slice (some (aD g 0)) (n+1) cap) (n+1) (xs++ys):=by
 rcases h.2 with⟨h0,_⟩ | ⟨g',cap',cur,e1,hb,hh,hn,hm,hs,ht⟩
 ·cases h0
 injection e1 with e1 _ e2;injection e1 with e1;injection e1 with e1;subst e1 e2;have h1:(n+1)*sz<=cap*sz:=Nat.mul_le_mul_right _ hc;have h2:(n+1)*sz=n*sz+sz:=Nat.succ_mul n sz;have hcl:cur.toList.length=cap*sz:=by rw[Array.length_toList]; exact hs
 have hyl:((cur.toList.drop (n*sz)).take sz).length=sz:=by rw[Q6,XI]; omega
 refine⟨(cur.toList.drop (n*sz)).take sz,hyl,⟨by rw[QT,h.1,hyl,h2],.inr ⟨g,cap,cur,rfl,hb,hh,hc,hm,hs,?_⟩⟩⟩;rw[h2,List.take_add,ht]
theorem aav {w:World} {base:Nat} {e:TypeId} {sz g n cap:Nat} {xs:List Value} (h:w.ownsRow base e sz (.slice (some (aD g 0)) n cap) n xs) {m:Nat} (hm:m<=n):w.ownsRow base e sz (.slice (some (aD g 0)) m cap) m (xs.take (m*sz)):=by
 rcases h.2 with⟨h0,_⟩ | ⟨g',cap',cur,e1,hb,hh,hn,hmx,hs,ht⟩
 ·cases h0
 injection e1 with e1 _ e2;injection e1 with e1;injection e1 with e1;subst e1 e2;have h1:m*sz<=n*sz:=Nat.mul_le_mul_right _ hm;refine⟨by rw[Q6,h.1]; omega,.inr ⟨g,cap,cur,rfl,hb,hh,by omega,hmx,hs,?_⟩⟩;rw[<- ht,List.take_take,Qy h1]
theorem ji {w:World} {base:Nat} {e:TypeId} {sz g n cap:Nat} {xs:List Value} (h:w.ownsRow base e sz (.slice (some (aD g 0)) n cap) n xs):n<=cap/\cap<=maxLen/\(∀ j u,xs[j]? = some u->w.cell? (aD g j)=some u)/\(∀ j,j<cap*sz->(w.cell? (aD g j)).isSome=true)/\(∀ j,w.frozen? (aD g j)=false)/\w.shape? g=some (e,cap*sz)/\g<w.heap.size:=by
 rcases h.2 with⟨h0,_⟩ | ⟨g',cap',cur,e1,hb,hh,hn,hmx,hs,ht⟩
 ·cases h0
 injection e1 with e1 _ e2;injection e1 with e1;injection e1 with e1;subst e1 e2;have hlt:=(QI.1 hh).1;refine⟨hn,hmx,fun j u hj=>?_,fun j hj=>?_,fun j=>?_,?_,hlt⟩
 ·rw[<- ht,ZH] at hj;split at hj
  ·simp only[World.cell?,hh]
   simpa using hj
  ·cases hj
 ·simp only[World.cell?,hh];rw[<- hs] at hj;simp[hj]
 ·simp[World.frozen?,hh]
 ·simp[World.shape?,hh,hs]
theorem rV {P:Program} (w:World) (dT sT ty elem:TypeId) (size b o dLen dCap:Nat) (a:Addr) (sLen sCap:Nat) (cs:List Value)
  (hu:P.underlying dT=some (.slice elem)) (hs:(P.info? elem).map (·.size)=some size) (hn:cs.length=Nat.min sLen dLen*size)
  (hsrc:∀ j v,cs[j]? = some v->w.cell? (a.add j)=some v) (hc:∀ j,j<cs.length->(w.cell? (aD b (o+j))).isSome=true) (hf:∀ j,j<cs.length->w.frozen? (aD b (o+j))=false) (h1:∀ v∈cs,v.oneCell' = true) :
  (Builtin.copy_ #[dT,sT] ty #[.slice (some (aD b o)) dLen dCap,.slice (some a) sLen sCap]).run P w=.ok (goInt (Nat.min sLen dLen)) (w.setCells b o cs):=by
 have hl:=run_loadCells_list (P:=P) w a cs hsrc;have hst:=run_storeCells_cells (P:=P) b o cs 0 w (by simpa using hc) (by simpa using hf) h1
 cases hq:P.info? elem with
 | none => simp[hq] at hs
 | some i =>
  have hi:i.size=size:=by simpa [hq] using hs
  simp[Builtin.copy_,run_underlying hu,Builtin.lenOf,Builtin.firstCells,sizeOf,typeInfo,hq,hi,<- hn,hl,hst]
theorem L6 {P:Program} (w:World) (t e ty:TypeId) (z:Value) (ht:P.underlying t=some (.slice e)) (hv:∀ w,(zeroValue e).run P w=.ok z w) (zs:List Value) (hz:(Builtin.zeroCells z.cells 1).toList=zs) (h1:∀ v∈zs,v.oneCell' = true) (b o c:Nat)
  (hc:∀ j,j<zs.length->(w.cell? (aD b (o+j))).isSome=true) (hf:∀ j,j<zs.length->w.frozen? (aD b (o+j))=false) :
  (Builtin.clear_ #[t] ty #[.slice (some (aD b o)) 1 c]).run P w=.ok (.tuple #[]) (w.setCells b o zs):=by
 have hst:=run_storeCells_cells (P:=P) b o zs 0 w (by simpa using hc) (by simpa using hf) h1;simp only[ZU] at hst;simp[Builtin.clear_,run_underlying ht,hv,hz,hst]
def dA (t:bg):List Value:=[.int .u64 (t.1:Int),.int .u64 (t.2:Int)]
theorem EW {P:Program} {t tx ty e:TypeId} {i:TypeInfo} (hi:P.info? e=some i) (h1:P.underlying t=some (.slice e)) (h2:P.underlying tx=some (.slice e)) (v x:Value) (w:World):(Builtin.append_ #[t,tx] ty #[v,x]).run P w=(Builtin.append_ #[t,t] ty #[v,x]).run P w:=by
 unfold Builtin.append_
 cases v <;> simp[run_underlying h1,run_underlying h2,sizeOf,typeInfo,hi]
theorem Vp {xs ys:List Value} {n i:Nat} (l r:Value) (hx:xs.length=n*2) (hy:ys.length=2) (hi:i<n) :
  (((xs++ys).take ((i+1)*2)++xs.drop (i*2)++(xs++ys).drop ((i+1)*2+(xs.drop (i*2)).length)).take (i*2)++[l,r]++((xs++ys).take ((i+1)*2)++xs.drop (i*2)++(xs++ys).drop ((i+1)*2+(xs.drop (i*2)).length)).drop (i*2+[l,r].length))=xs.take (i*2)++[l,r]++xs.drop (i*2):=by
 have h0:(xs++ys).drop ((i+1)*2+(xs.drop (i*2)).length)=[]:=List.drop_eq_nil_of_le (by rw[QT,XI]; omega);have hP:((xs++ys).take ((i+1)*2)).length=(i+1)*2:=by rw[Q6,QT]; omega
 rw[h0,Xl,List.take_append_of_le_length (by omega),List.drop_left' (by rw[hP]; simp; omega),List.take_take,Qy (by omega),List.take_append_of_le_length (by omega)]
theorem Tryz.vJ:(Tryz.prog.info? 143).map (fun i=>(i.zero,i.size,i.bytes))=some (some (.agg #[.int .u64 0,.int .u64 0]),2,16):=by kernel_rfl
theorem EX (base g n cap i vb:Nat) (l r:Value) (xs:List Value) (w:World) (hown:w.ownsRow base 143 2 (.slice (some (aD g 0)) n cap) n xs) (hx1:∀ u∈xs,u.oneCell' = true) (hl1:l.oneCell' = true) (hr1:r.oneCell' = true) (hi:i<n) (hroom:n+1<=cap) (hvb:GB w vb 143 #[l,r]) (hne:vb≠g) :
  Calls Tryz.prog 123 #[.slice (some (aD g 0)) n cap,.int .i64 i,.slice (some (aD vb 0)) 1 1] w fun e w'=>
   e=.returned (.slice (some (aD g 0)) (n+1) cap)/\w'.ownsRow base 143 2 (.slice (some (aD g 0)) (n+1) cap) (n+1) (xs.take (i*2)++[l,r]++xs.drop (i*2))/\Kept (fun b=>b≠g) w w':=by
 obtain⟨i0,hi0,hz0,hz1,hz2⟩:=ZC Tryz.vJ;have hsz:(Tryz.prog.info? 143).map (·.size)=some 2:=by rw[hi0]; simp[hz1]
 obtain⟨_,hcm,hcell,hsome,hfz,hsh,hlt⟩:=ji hown;have hxl:=hown.1;have hcm2:cap<=9223372036854775807:=by unfold maxLen at hcm; omega
 have hvs:w.shape? vb=some (143,2):=by
  have h:w.heap[vb]? = some (.cells #[l,r] 143 (0,0)):=hvb;simp[World.shape?,h]
 have hov:∀ lb cb,(callFunc 176 #[.slice (some (aD vb 0)) 1 1,.slice (some (aD g ((i+1)*2))) lb cb]).run Tryz.prog w=.ok (.value (.bool false)) w:=fun lb cb=>by
  rw[run_callFunc_extern Tryz.func176 (by kernel_rfl) (by kernel_rfl) (by kernel_rfl) (e:=Extern.SlicesOverlaps.overlaps #[98,98] #[4]) (by kernel_rfl),
   Lib.run_overlaps_apart w 98 4 143 Tryz.underlying98 2 (fun W=>by simp[sizeOf,typeInfo,hi0,hz1]) (aD vb 0) (aD g ((i+1)*2)) 1 1 lb cb hne 143 143 2 (cap*2) hvs hsh (by omega) (hvb.frozen 0) (hvb.frozen 2)]
  rfl
 have hdl:(xs.drop (i*2)).length=n*2-i*2:=by rw[XI,hxl]
 have hcp1:∀ ty dc sc,(Builtin.copy_ #[99,99] ty #[.slice (some (aD g ((i+1)*2))) (n-i) dc,.slice (some (aD g (i*2))) (n+1-i) sc]).run Tryz.prog w.drew=.ok (goInt (Nat.min (n+1-i) (n-i))) (w.drew.setCells g ((i+1)*2) (xs.drop (i*2))):=fun ty dc sc=>
  rV w.drew _ _ ty 143 2 g ((i+1)*2) (n-i) dc (aD g (i*2)) (n+1-i) sc (xs.drop (i*2)) Tryz.underlying99 hsz (by rw[hdl]; simp only[Nat.min_def]; split <;> omega)
   (fun j v hj=>by rw[addr_add]; exact hcell (i*2+j) v (by rwa [XH] at hj))
   (fun j hj=>hsome _ (by omega)) (fun j hj=>hfz _) (fun v hv=>hx1 v (List.mem_of_mem_drop hv))
 obtain⟨W1,hW1⟩:∃ W1,W1=w.drew.setCells g ((i+1)*2) (xs.drop (i*2)):=⟨_,rfl⟩
 have hown0:w.drew.ownsRow base 143 2 (.slice (some (aD g 0)) n cap) n xs:=hown;obtain⟨ys,hyl,hown1⟩:=U8 hown0 hroom;have hown2:=fw (v:=.slice (some (aD g 0)) (n+1) cap) (g:=g) rfl (xs.drop (i*2)) ((i+1)*2) hown1 (by rw[hdl]; omega);rw[<- hW1] at hown2 hcp1;have hk1:Kept (fun b=>b≠g) w W1:=by rw[hW1]; exact (Kept.acJ w).trans (Kept.setCells (fun h=>h rfl) _ _ _)
 obtain⟨_,_,hcell1,qW,IB,_,_⟩:=ji hown2;have Vq:=hvb.keep hk1 hne;have hcp2:∀ ty dc,(Builtin.copy_ #[99,98] ty #[.slice (some (aD g (i*2))) (n+1-i) dc,.slice (some (aD vb 0)) 1 1]).run Tryz.prog W1=.ok (goInt (Nat.min 1 (n+1-i))) (W1.setCells g (i*2) [l,r]):=fun ty dc=>
  rV W1 _ _ ty 143 2 g (i*2) (n+1-i) dc (aD vb 0) 1 1 [l,r] Tryz.underlying99 hsz (by simp only[Nat.min_def]; split <;> simp; omega)
   (fun j v hj=>by rw[addr_add,QE,Vq.cell]; simpa using hj)
   (fun j hj=>qW _ (by simp at hj; omega)) (fun j hj=>IB _) (fun v hv=>by simp at hv; rcases hv with rfl | rfl <;> assumption)
 have hown3:=fw (v:=.slice (some (aD g 0)) (n+1) cap) (g:=g) rfl [l,r] (i*2) hown2 (by simp; omega);rw[Vp l r hxl hyl hi] at hown3;have jO:Hid ((W1.setCells g (i*2) [l,r]).ownsRow base 143 2 (.slice (some (aD g 0)) (n+1) cap) (n+1) (xs.take (i*2)++[l,r]++xs.drop (i*2))/\Kept (fun b=>b≠g) w (W1.setCells g (i*2) [l,r])):=⟨hown3,hk1.trans (Kept.setCells (fun h=>h rfl) _ _ _)⟩
 clear hown hown0 hown1 hown2 hown3 hk1 hcell hsome hfz hcell1 qW IB hvb Vq hyl hdl hxl hx1 hvs hsh hlt hsz hi0 hz0 hz1 hz2 hcm hW1;have hb4:¬ (cap=i+1):=by omega
 have hb5:¬ (cap=i):=by omega
 have hw1:IntKind.i64.wrap ((i:Int)+1)=(i:Int)+1:=by rw[IntKind.wrap_i64]; omega
 have hb1:(0:Int)<=(i:Int)+1:=by omega
 have hb2:(i:Int)+1<=(n:Int)+1:=by omega
 have htn:((i:Int)+1).toNat=i+1:=by omega
 have hb3:(i:Int)<=(n:Int)+1:=by omega
 go_enter Tryz.func123,Tryz.ntmps123;go_wp2_with (simp only[hov]);go_region_law (refine step_copy_runI rfl _ _ 99 99 rfl _ _ (by simp[Act.eval,Act.put]) (by simp[Act.eval,Act.put]) (hcp1 _ _ _) ?_);go_wp2_with (at_builtin; refine wpList_copy_runI _ rfl _ _ 99 98 rfl _ _ rfl rfl (hcp2 _ _) ?_);go_ret;exact⟨rfl,jO.out⟩
theorem RP {xs Z:List Value} {n i:Nat} (l r:Value) (hx:xs.length=n*2) (hZ:Z.length=(n+1)*2) (hi:i<n) (hz:Z.take (i*2)=xs.take (i*2)) :
  ((Z.take (i*2)++[l,r]++Z.drop (i*2+[l,r].length)).take ((i+1)*2)++xs.drop (i*2)++(Z.take (i*2)++[l,r]++Z.drop (i*2+[l,r].length)).drop ((i+1)*2+(xs.drop (i*2)).length))=xs.take (i*2)++[l,r]++xs.drop (i*2):=by
 have hP:(Z.take (i*2)++[l,r]).length=(i+1)*2:=by rw[QT,Q6]; simp; omega
 have h0:(Z.take (i*2)++[l,r]++Z.drop (i*2+[l,r].length)).drop ((i+1)*2+(xs.drop (i*2)).length)=[]:=List.drop_eq_nil_of_le (by rw[QT,hP,XI,XI]; simp; omega);rw[h0,Xl,List.take_left' hP,hz]
theorem Mq (base n vb:Nat) (v l r:Value) (xs:List Value) (w:World) (hown:w.ownsRow base 143 2 v n xs) (hb:base<=w.heap.size) (hn:n<=1000000) (hl1:l.oneCell' = true) (hr1:r.oneCell' = true) (hvb:GB w vb 143 #[l,r]) :
  Calls Tryz.prog 123 #[v,.int .i64 n,.slice (some (aD vb 0)) 1 1] w fun e w'=>
   ∃ v',e=.returned v'/\w'.ownsRow base 143 2 v' (n+1) (xs++[l,r])/\Kept (fun b=>v.ownBlock≠some b) w w'/\(v'.ownBlock=v.ownBlock∨∃ g,v'.ownBlock=some g/\w.heap.size<=g):=by
 obtain⟨i0,hi0,hz0,hz1,hz2⟩:=ZC Tryz.vJ;obtain⟨v',w',hr,ho,hg,hat⟩:=ZO (P:=Tryz.prog) w base 99 99 143 i0 _ 2 16 Tryz.underlying99 hi0 hz0 hz1 hz2 rfl (by decide) v n xs hown (aD vb 0) 1 1 [l,r] rfl
  (fun j u hj=>by rw[addr_add,QE,hvb.cell]; simpa using hj) (fun u hu=>by simp at hu; rcases hu with rfl | rfl <;> assumption) (by unfold maxLen; omega) (by omega) hb
 have hrun:(Builtin.append_ #[99,98] 99 #[v,.slice (some (aD vb 0)) 1 1]).run Tryz.prog w=.ok v' w':=(EW hi0 Tryz.underlying99 Tryz.underlying98 _ _ _).trans hr;have jO:Hid (∃ u,Ending.returned v' = .returned u/\w'.ownsRow base 143 2 u (n+1) (xs++[l,r])/\Kept (fun b=>v.ownBlock≠some b) w w'/\(u.ownBlock=v.ownBlock∨∃ g,u.ownBlock=some g/\w.heap.size<=g)):=⟨v',rfl,ho,Zw hg (fun r e hr=>hr e),by
  rcases hat.2 with h | h
  ·exact .inl h
  ·exact .inr ⟨_,h,Qq _⟩⟩
 obtain⟨Pk,vm',Pm,rfl⟩:=ZA ho;clear hr ho hg hat hvb hi0 hz0 hz1 hz2;rcases hown.2 with⟨rfl,rfl⟩ | ⟨g,cap,cur,rfl,-,-,hnc,hcm,-⟩
 ·clear hown;go_enter Tryz.func123,Tryz.ntmps123;go_wp2_with (at_builtin; refine Lib.wpList_append_run _ rfl _ _ _ _ rfl _ _ rfl rfl _ _ hrun ?_);go_ret;exact jO.out
 ·clear hown;go_enter Tryz.func123,Tryz.ntmps123;go_wp2_with (at_builtin; refine Lib.wpList_append_run _ rfl _ _ _ _ rfl _ _ rfl rfl _ _ hrun ?_)
  all_goals (go_ret; exact jO.out)
theorem IC (base g n cap i vb:Nat) (l r:Value) (xs:List Value) (w:World) (hown:w.ownsRow base 143 2 (.slice (some (aD g 0)) n cap) n xs) (hb:base<=w.heap.size) (hn:n<=1000000) (hx1:∀ u∈xs,u.oneCell' = true) (hl1:l.oneCell' = true) (hr1:r.oneCell' = true) (hi:i<n) (hroom:cap<n+1) (hvb:GB w vb 143 #[l,r]) :
  Calls Tryz.prog 123 #[.slice (some (aD g 0)) n cap,.int .i64 i,.slice (some (aD vb 0)) 1 1] w fun e w'=>
   ∃ G,e=.returned (.slice (some (aD w.heap.size 0)) (n+1) G)/\w'.ownsRow base 143 2 (.slice (some (aD w.heap.size 0)) (n+1) G) (n+1) (xs.take (i*2)++[l,r]++xs.drop (i*2))/\Below w.heap.size w w':=by
 obtain⟨i0,hi0,hz0,hz1,hz2⟩:=ZC Tryz.vJ;have hsz:(Tryz.prog.info? 143).map (·.size)=some 2:=by rw[hi0]; simp[hz1]
 obtain⟨hnc,hcm,hcell,hsome,hfz,hsh,hlt⟩:=ji hown;have hxl:=hown.1;have hcn:cap=n:=by omega
 subst hcn;have hik:i+(cap+1-i)=cap+1:=by omega
 have hkk:(cap:Int)+1-(i:Int)=((cap+1-i:Nat):Int):=by omega
 have hold:(Builtin.firstCells i0.size i (.slice (some (aD g 0)) i cap)).run Tryz.prog w.drew=.ok (xs.take (i*2)).toArray w.drew:=by
  rw[hz1];exact run_firstCells_some w.drew 2 i (aD g 0) i cap (xs.take (i*2)) (by rw[Q6]; omega) (fun j v hj=>by
   rw[addr_add,QE];rw[ZH] at hj;split at hj
   ·exact hcell j v hj
   ·cases hj)
 have aaO:=Lib.run_append_grow_zeros w 99 3 99 143 i0 _ .i64 .i64 Tryz.underlying99 Tryz.underlying3 hi0 hz0 (some (aD g 0)) i cap (xs.take (i*2)) hold (cap+1-i) (by omega) (by omega) (by omega) (by omega) (by rw[hz2]; omega) (by rw[hz2,hik]; exact growslice_fits (by omega) (by omega));rw[<- hkk,hik] at aaO;obtain⟨G,hG⟩:∃ G,G=grownCap w (cap+1) cap 143:=⟨_,rfl⟩
 obtain⟨ROW,hROW⟩:∃ ROW:Array Value,ROW=(xs.take (i*2)).toArray++Builtin.zeroCells (Value.agg #[.int .u64 0,.int .u64 0]).cells (cap+1-i)++Builtin.zeroCells (Value.agg #[.int .u64 0,.int .u64 0]).cells (G-(cap+1)):=⟨_,rfl⟩
 rw[<- hG,<- hROW] at aaO;have hGn:cap+1<=G:=by rw[hG]; exact grownCap_ge w _ _ _
 have hGm:G<=maxLen:=by rw[hG]; exact grownCap_le_maxLen w _ _ _ (by unfold maxLen; omega)
 have hxt:(xs.take (i*2)).length=i*2:=by rw[Q6]; omega
 have hRl:ROW.size=G*2:=by
  rw[hROW];simp[Builtin.zeroCells,Value.cells,hxt];omega
 have hRt:ROW.toList.take (i*2)=xs.take (i*2):=by
  rw[hROW];rw[Array.append_assoc,Array.toList_append];exact List.take_left' hxt
 obtain⟨N1,hN1⟩:∃ W,W=w.drew.alloc (.cells ROW 143):=⟨_,rfl⟩
 rw[<- hN1] at aaO;have hbl:N1.heap[w.heap.size]? = some (.cells ROW 143 (0,0)):=by rw[hN1]; exact kG w.drew _
 have hB1:Below w.heap.size w N1:=by rw[hN1]; exact ((Qp _ _).drew).alloc (Qq _) _
 have ho1:N1.ownsRow base 143 2 (.slice (some (aD w.heap.size 0)) (cap+1) G) (cap+1) (ROW.toList.take ((cap+1)*2)):=
  ⟨by rw[Q6,Array.length_toList,hRl]; omega,.inr ⟨w.heap.size,G,ROW,rfl,hb,hbl,hGn,hGm,hRl,rfl⟩⟩
 have ho2:=fw (g:=w.heap.size) rfl [l,r] (i*2) ho1 (by simp; omega);have hdl:(xs.drop (i*2)).length=cap*2-i*2:=by rw[XI,hxl]
 obtain⟨_,_,_,qW,IB,_,_⟩:=ji ho1;obtain⟨_,_,_,Mr,qX,_,_⟩:=ji ho2;obtain⟨N2,hN2⟩:∃ W,W=N1.setCells w.heap.size (i*2) [l,r]:=⟨_,rfl⟩
 rw[<- hN2] at ho2 Mr qX;have hB2:Below w.heap.size w N2:=by rw[hN2]; exact hB1.trans ((Kept.setCells (s:=fun b=>b<w.heap.size) (fun h=>Nat.lt_irrefl _ h) _ _ _).below hB1.size (fun _ h=>h))
 have aii:N2.drew.ownsRow base 143 2 (.slice (some (aD w.heap.size 0)) (cap+1) G) (cap+1) _:=ho2;have ho3:=fw (g:=w.heap.size) rfl (xs.drop (i*2)) ((i+1)*2) aii (by rw[hdl]; omega);have Vq:=hvb.keep (Q9 (s:=fun b=>b<w.heap.size) hB1 (fun _ h _=>h)) hvb.lt;have hcpA:∀ ty dc,(Builtin.copy_ #[99,98] ty #[.slice (some (aD w.heap.size (i*2))) (cap+1-i) dc,.slice (some (aD vb 0)) 1 1]).run Tryz.prog N1=.ok (goInt (Nat.min 1 (cap+1-i))) N2:=fun ty dc=>by
  rw[hN2];exact rV N1 _ _ ty 143 2 w.heap.size (i*2) (cap+1-i) dc (aD vb 0) 1 1 [l,r] Tryz.underlying99 hsz (by simp only[Nat.min_def]; split <;> simp; omega)
   (fun j v hj=>by rw[addr_add,QE,Vq.cell]; simpa using hj)
   (fun j hj=>qW _ (by simp at hj; omega)) (fun j hj=>IB _) (fun v hv=>by simp at hv; rcases hv with rfl | rfl <;> assumption)
 obtain⟨N3,hN3⟩:∃ W,W=N2.drew.setCells w.heap.size ((i+1)*2) (xs.drop (i*2)):=⟨_,rfl⟩
 have hcpB:∀ ty dc sc,(Builtin.copy_ #[99,99] ty #[.slice (some (aD w.heap.size ((i+1)*2))) (cap-i) dc,.slice (some (aD g (i*2))) (cap-i) sc]).run Tryz.prog N2.drew=.ok (goInt (Nat.min (cap-i) (cap-i))) N3:=fun ty dc sc=>by
  rw[hN3];exact rV N2.drew _ _ ty 143 2 w.heap.size ((i+1)*2) (cap-i) dc (aD g (i*2)) (cap-i) sc (xs.drop (i*2)) Tryz.underlying99 hsz (by rw[hdl]; simp only[Nat.min_def]; split <;> omega)
   (fun j v hj=>by
    rw[addr_add];have h1:=hcell (i*2+j) v (by rwa [XH] at hj);exact cB hB2.drew h1)
   (fun j hj=>Mr _ (by omega)) (fun j hj=>qX _) (fun v hv=>hx1 v (List.mem_of_mem_drop hv))
 rw[<- hN3,RP l r hxl (by rw[Q6,Array.length_toList,hRl]; omega) hi (by rw[List.take_take,Qy (by omega)]; exact hRt)] at ho3;have jO:Hid (N3.ownsRow base 143 2 (.slice (some (aD w.heap.size 0)) (cap+1) G) (cap+1) (xs.take (i*2)++[l,r]++xs.drop (i*2))/\Below w.heap.size w N3):=⟨ho3,by rw[hN3]; exact hB2.drew.trans ((Kept.setCells (s:=fun b=>b<w.heap.size) (fun h=>Nat.lt_irrefl _ h) _ _ _).below (by exact hB2.size) (fun _ h=>h))⟩
 have hG63:G<=9223372036854775807:=by unfold maxLen at hGm; omega
 have hGi:¬ (G=i):=by omega
 have hGim:¬ (G=i+1):=by omega
 have hci:¬ (cap=i):=by omega
 have hw1:IntKind.i64.wrap ((i:Int)+1)=(i:Int)+1:=by rw[IntKind.wrap_i64]; omega
 have hb1:(0:Int)<=(i:Int)+1:=by omega
 have hb2:(i:Int)+1<=(cap:Int)+1:=by omega
 have htn:((i:Int)+1).toNat=i+1:=by omega
 have hb3:(i:Int)<=(cap:Int):=by omega
 clear hown ho1 ho2 aii ho3 hold hROW hRl hRt hN1 hN2 hN3 hbl hB1 hB2 hsome qW Mr hfz IB qX hcell hvb Vq hdl hxt hxl hx1 hsh hsz hi0 hz0 hz1 hz2 hG hik hkk hcm hGm;go_enter Tryz.func123,Tryz.ntmps123;go_wp2_with (first
  | (at_builtin; refine Lib.wpList_append_run _ rfl _ _ _ _ rfl _ _ rfl rfl _ _ aaO ?_)
  | (at_builtin; refine wpList_copy_runI _ rfl _ _ 99 98 rfl _ _ rfl rfl (hcpA _ _) ?_))
 go_region_law (refine step_copy_runI rfl _ _ 99 99 rfl _ _ (by simp[Act.eval,Act.put]) (by simp[Act.eval,Act.put]) (hcpB _ _ _) ?_);go_wp2;go_ret;exact⟨G,rfl,jO.out⟩
theorem Vr {xs zs:List Value} {i m:Nat} (hx:xs.length=(i+1+m)*2) :
  ((xs.take (i*2)++xs.drop ((i+1)*2)++xs.drop (i*2+(xs.drop ((i+1)*2)).length)).take ((i+m)*2)++zs++(xs.take (i*2)++xs.drop ((i+1)*2)++xs.drop (i*2+(xs.drop ((i+1)*2)).length)).drop ((i+m)*2+zs.length)).take ((i+m)*2)=xs.take (i*2)++xs.drop ((i+1)*2):=by
 have h1:(xs.take (i*2)++xs.drop ((i+1)*2)).length=(i+m)*2:=by rw[QT,Q6,XI]; omega
 rw[List.take_left' h1,QC (xs.take (i*2)++xs.drop ((i+1)*2)) zs,List.take_left' h1]
theorem uy (ag:List bg) (i:Nat):(ag.flatMap dA).take (i*2)=(ag.take i).flatMap dA:=by
 induction ag generalizing i with
 | nil => simp
 | cons t ag ih =>
  cases i with
  | zero => simp
  | succ i =>
   rw[List.take_succ_cons,QA,QA,<- ih i]
   show (dA t++_).take _=_
   rw[show (i+1)*2=(dA t).length+i*2 by show _=2+_; omega,List.take_length_add_append]
theorem uz (ag:List bg) (i:Nat):(ag.flatMap dA).drop (i*2)=(ag.drop i).flatMap dA:=by
 induction ag generalizing i with
 | nil => simp
 | cons t ag ih =>
  cases i with
  | zero => simp
  | succ i =>
   rw[List.drop_succ_cons,QA,<- ih i]
   show (dA t++_).drop _=_
   rw[show (i+1)*2=(dA t).length+i*2 by show _=2+_; omega,List.drop_length_add_append]
theorem Av (ag:List bg):∀ u∈ag.flatMap dA,u.oneCell' = true:=by
 intro u hu;obtain⟨t,_,h⟩:=Xz.1 hu;unfold dA at h;simp at h;rcases h with rfl | rfl <;> rfl
theorem Vs (ag:List bg) (i:Nat) (t:bg):(ag.flatMap dA).take (i*2)++dA t++(ag.flatMap dA).drop (i*2)=(ag.take i++t::ag.drop i).flatMap dA:=by
 rw[uy,uz,QS,QA,QC]
theorem Vt (ag:List bg) (i:Nat):(ag.flatMap dA).take (i*2)++(ag.flatMap dA).drop ((i+1)*2)=(ag.eraseIdx i).flatMap dA:=by
 rw[uy,uz,<- QS,List.eraseIdx_eq_take_drop_succ]
theorem IE (base i vb:Nat) (v:Value) (ag:List bg) (t:bg) (w:World) (hown:w.ownsRow base 143 2 v ag.length (ag.flatMap dA)) (hb:base<=w.heap.size) (hl:ag.length<=1000000) (hi:i<=ag.length) (hvb:GB w vb 143 #[.int .u64 (t.1:Int),.int .u64 (t.2:Int)]) (hne:v.ownBlock≠some vb) :
  Calls Tryz.prog 123 #[v,.int .i64 (i:Int),.slice (some (aD vb 0)) 1 1] w fun e w'=>
   ∃ v',e=.returned v'/\w'.ownsRow base 143 2 v' (ag.take i++t::ag.drop i).length ((ag.take i++t::ag.drop i).flatMap dA)/\Kept (fun b=>v.ownBlock≠some b) w w'/\(v'.ownBlock=v.ownBlock∨∃ g,v'.ownBlock=some g/\w.heap.size<=g):=by
 have hlen:(ag.take i++t::ag.drop i).length=ag.length+1:=by
  rw[QT,Q6,Q5,XI];omega
 rw[hlen,<- Vs];by_cases hin:i=ag.length
 ·subst hin;have hx:(ag.flatMap dA).take (ag.length*2)++dA t++(ag.flatMap dA).drop (ag.length*2)=ag.flatMap dA++[.int .u64 (t.1:Int),.int .u64 (t.2:Int)]:=by
   rw[uy,uz,Qt,List.drop_length];simp[dA]
  rw[hx];exact Mq base ag.length vb v _ _ _ w hown hb hl rfl rfl hvb
 ·rcases hown.2 with⟨_,h0⟩ | ⟨g,cap,cur,rfl,-⟩
  ·omega
  by_cases hroom:ag.length+1<=cap
  ·refine (EX base g ag.length cap i vb _ _ _ w hown (Av ag) rfl rfl (by omega) hroom hvb (fun e=>hne (by rw[e]; rfl))).mono ?_;rintro e w' ⟨rfl,h1,h2⟩;exact⟨_,rfl,h1,h2.mono (fun b _ h e=>h (by rw[e]; rfl)),.inl rfl⟩
  ·refine (IC base g ag.length cap i vb _ _ _ w hown hb hl (Av ag) rfl rfl (by omega) (by omega) hvb).mono ?_;rintro e w' ⟨G,rfl,h1,h2⟩;exact⟨_,rfl,h1,Q9 h2 (fun _ h _=>h),.inr ⟨_,rfl,Qq _⟩⟩
theorem IG (base g cap i m:Nat) (xs:List Value) (w:World) (hown:w.ownsRow base 143 2 (.slice (some (aD g 0)) (i+1+m) cap) (i+1+m) xs) (hx1:∀ u∈xs,u.oneCell' = true) (hm:i+1+m<=1000000) :
  Calls Tryz.prog 131 #[.slice (some (aD g 0)) (i+1+m) cap,.int .i64 (i:Int),.int .i64 ((i:Int)+1)] w fun e w'=>
   e=.returned (.slice (some (aD g 0)) (i+m) cap)/\w'.ownsRow base 143 2 (.slice (some (aD g 0)) (i+m) cap) (i+m) (xs.take (i*2)++xs.drop ((i+1)*2))/\Kept (fun b=>b≠g) w w':=by
 obtain⟨i0,hi0,hz0,hz1,hz2⟩:=ZC Tryz.vJ;obtain⟨hnc,hcm,hcell,hsome,hfz,hsh,hlt⟩:=ji hown;have hxl:=hown.1;have hcm2:cap<=9223372036854775807:=by unfold maxLen at hcm; omega
 obtain⟨news,hnews⟩:∃ news,news=xs.drop ((i+1)*2):=⟨_,rfl⟩
 have hlen:news.length=m*2:=by rw[hnews,XI,hxl]; omega
 obtain⟨A,hA,hsrc⟩:∃ A:Addr,(if cap=i+1 then some ((aD g 0):Addr) else some (aD g ((i+1)*2)))=some A/\Hid (∀ t u,news[t]? = some u->w.drew.cell? (A.add t)=some u):=by
  by_cases h:cap=i+1
  ·refine⟨(aD g 0),by simp[h],fun t u hu=>?_⟩;have h0:=Qz (by rw[hlen]; omega);rw[h0] at hu;simp at hu
  ·refine⟨(aD g ((i+1)*2)),by simp[h],fun t u hu=>?_⟩;rw[hnews,XH] at hu;rw[addr_add];exact hcell _ _ hu
 have s1:=Zh hlen;have s2:Hid (∀ u∈news,u.oneCell' = true):=fun u hu=>by rw[hnews] at hu; exact hx1 u (List.mem_of_mem_drop hu)
 have s3:Hid (∀ t,t<news.length->(w.drew.cell? (aD g (0+i*2+t))).isSome=true/\w.drew.frozen? (aD g (0+i*2+t))=false):=fun t ht=>by
  rw[hlen] at ht;rw[QE];exact⟨hsome _ (by omega),hfz _⟩
 obtain⟨W1,hW1⟩:∃ W1,W1=w.drew.setCells g (0+i*2) news:=⟨_,rfl⟩
 have hown0:w.drew.ownsRow base 143 2 (.slice (some (aD g 0)) (i+1+m) cap) (i+1+m) xs:=hown;have ho1:=fw (v:=.slice (some (aD g 0)) (i+1+m) cap) (g:=g) rfl news (0+i*2) hown0 (by rw[hlen]; omega);rw[<- hW1,QE] at ho1;have hk1:Kept (fun b=>b≠g) w W1:=by rw[hW1]; exact (Kept.acJ w).trans (Kept.setCells (fun h=>h rfl) _ _ _)
 obtain⟨_,_,_,qW,IB,_,_⟩:=ji ho1;have hzv:∀ W,(zeroValue 143).run Tryz.prog W=.ok (.agg #[.int .u64 0,.int .u64 0]) W:=fun W=>by simp[zeroValue,typeInfo,hi0,hz0]
 obtain⟨zs,hzs⟩:∃ zs:List Value,zs=[.int .u64 0,.int .u64 0]:=⟨_,rfl⟩
 have hzl:zs.length=2:=by rw[hzs]; rfl
 have hcl:∀ ty c,(Builtin.clear_ #[99] ty #[.slice (some (aD g ((i+m)*2))) 1 c]).run Tryz.prog W1=.ok (.tuple #[]) (W1.setCells g ((i+m)*2) zs):=fun ty c=>
  L6 W1 99 143 ty _ Tryz.underlying99 hzv zs (by rw[hzs]; kernel_rfl) (fun u hu=>by rw[hzs] at hu; simp at hu; rcases hu with rfl | rfl <;> rfl) g ((i+m)*2) c (fun j hj=>qW _ (by omega)) (fun j hj=>IB _)
 obtain⟨W2,hW2⟩:∃ W2,W2=W1.setCells g ((i+m)*2) zs:=⟨_,rfl⟩
 have ho2:=fw (v:=.slice (some (aD g 0)) (i+1+m) cap) (g:=g) rfl zs ((i+m)*2) ho1 (by rw[hzl]; omega);rw[<- hW2] at ho2 hcl;have ho3:=aav ho2 (m:=i+m) (by omega);rw[hnews,Vr hxl] at ho3;have jO:Hid (W2.ownsRow base 143 2 (.slice (some (aD g 0)) (i+m) cap) (i+m) (xs.take (i*2)++xs.drop ((i+1)*2))/\Kept (fun b=>b≠g) w W2):=⟨ho3,hk1.trans (by rw[hW2]; exact Kept.setCells (fun h=>h rfl) _ _ _)⟩
 have HW:=Zh hW1;have hsb:i+1+m-(i+1)=m:=by omega
 have auQ:i+1+m-(i+m)=1:=by omega
 have hic:i<=cap:=by omega
 have hjc:i+1<=cap:=by omega
 have hb1:(0:Int)<=(i:Int)+1:=by omega
 have htn:((i:Int)+1).toNat=i+1:=by omega
 have jh:(i:Int)+1<=(i:Int)+1+(m:Int):=by omega
 clear hown hown0 ho1 ho2 ho3 hk1 hW1 hW2 hsome qW hfz IB hcell hlen hnews hxl hx1 hzv hzs hzl hsh hlt hcm;go_enter Tryz.func131,Tryz.ntmps131;go_wp2_with fail;go_region_law (refine step_append_room rfl (.tmp 22) (.tmp 25) 99 rfl 143 i0 2 Tryz.underlying99 hi0 hz1 g 0 i cap (by simp[Act.eval,Act.put]) A m (cap-(i+1)) news (by simp[Act.eval,Act.put]) s1.out hsrc.out s2.out (by omega) s3.out ?_; rw[<- HW.out]);go_wp2;go_ret;exact⟨rfl,jO.out⟩
def aV (s:Nat):Int:=((bz s).length:Int)
theorem uA (l r:Nat) (w:World) :
  Calls Tryz.prog 126 #[.agg #[.int .u64 (l:Int),.int .u64 (r:Int)]] w fun e w'=>e=.returned (.bool (decide (r=0)))/\Below w.heap.size w w':=by
 obtain⟨w1,hw1⟩:∃ x,w.alloc (.cells #[.int .u64 (l:Int),.int .u64 (r:Int)] 143)=x:=⟨_,rfl⟩
 have HB1:Hid (Below w.heap.size w w1):=by show Below _ _ _; rw[<- hw1]; exact bU _ _
 have c1:w1.cell? (aD w.heap.size 1)=some (.int .u64 (r:Int)):=by rw[<- hw1]; simp
 go_enter Tryz.func126,Tryz.ntmps126;go_wp2;go_ret;exact⟨Qd (by rw[Qw,beq_iff_eq,Qx]; omega),HB1.out⟩
theorem Aw (a:Int) (w:World):Calls Tryz.prog 215 #[.int .i64 a] w fun e w'=>e=.returned (.bool false)/\w' = w:=by
 go_enter Tryz.func215,Tryz.ntmps215;go_wp2;go_ret;exact⟨Qd (by simp),rfl⟩
theorem Ay (a:Nat) (w:World):Calls Tryz.prog 217 #[.int .u64 (a:Int)] w fun e w'=>e=.returned (.bool false)/\w' = w:=by
 go_enter Tryz.func217,Tryz.ntmps217;go_wp2;go_ret;exact⟨Qd (by simp),rfl⟩
theorem EY (a b:Int) (w:World):Calls Tryz.prog 173 #[.int .i64 a,.int .i64 b] w fun e w'=>e=.returned (.int .i64 (mg a b))/\w' = w:=by
 have h1:=Aw a w;have h2:=Aw b w;have HR:Hid (mg a b=if a<b then -1 else if b<a then 1 else 0):=rfl;generalize mg a b=R at *;go_enter Tryz.func173,Tryz.ntmps173;go_wp2_with fail;refine h1.mono ?_;rintro e w2 ⟨rfl,hw2⟩;have hw2:=hw2.symm;subst hw2;go_wp2_with fail;refine h2.mono ?_;rintro e w2 ⟨rfl,hw2⟩;have hw2:=hw2.symm;subst hw2;by_cases hlt:a<b
 ·have HV:Hid (R = -1):=by show _=_; rw[HR.out,Qr hlt]
  have hb:=Qu hlt;go_wp2;go_ret;exact⟨Qe (by rw[HV.out]),rfl⟩
 ·by_cases hgt:b<a
  ·have HV:Hid (R=1):=by show _=_; rw[HR.out,Qs hlt,Qr hgt]
   have hb:=Qh hlt;have hb2:=Qu hgt;go_wp2;go_ret;exact⟨Qe (by rw[HV.out]),rfl⟩
  ·have HV:Hid (R=0):=by show _=_; rw[HR.out,Qs hlt,Qs hgt]
   have hb:=Qh hlt;have hb2:=Qh hgt;go_wp2;go_ret;exact⟨Qe (by rw[HV.out]),rfl⟩
theorem vK (a b:Nat) (w:World):Calls Tryz.prog 175 #[.int .u64 (a:Int),.int .u64 (b:Int)] w fun e w'=>e=.returned (.int .i64 (mg (a:Int) (b:Int)))/\w' = w:=by
 have h1:=Ay a w;have h2:=Ay b w;have HR:Hid (mg (a:Int) (b:Int)=if a<b then -1 else if b<a then 1 else 0):=by
  show _=_
  unfold mg;simp only[Int.ofNat_lt]
 generalize mg (a:Int) (b:Int)=R at *;go_enter Tryz.func175,Tryz.ntmps175;go_wp2_with fail;refine h1.mono ?_;rintro e w2 ⟨rfl,hw2⟩;have hw2:=hw2.symm;subst hw2;go_wp2_with fail;refine h2.mono ?_;rintro e w2 ⟨rfl,hw2⟩;have hw2:=hw2.symm;subst hw2;by_cases hlt:a<b
 ·have HV:Hid (R = -1):=by show _=_; rw[HR.out,Qr hlt]
  have hb:=Qu hlt;go_wp2;go_ret;exact⟨Qe (by rw[HV.out]),rfl⟩
 ·by_cases hgt:b<a
  ·have HV:Hid (R=1):=by show _=_; rw[HR.out,Qs hlt,Qr hgt]
   have hb:=Qh hlt;have hb2:=Qu hgt;go_wp2;go_ret;exact⟨Qe (by rw[HV.out]),rfl⟩
  ·have HV:Hid (R=0):=by show _=_; rw[HR.out,Qs hlt,Qs hgt]
   have hb:=Qh hlt;have hb2:=Qh hgt;go_wp2;go_ret;exact⟨Qe (by rw[HV.out]),rfl⟩
theorem aij (w:World):Calls Tryz.prog 268 #[.int .u64 ((0:Nat):Int)] w fun e w'=>e=.returned (.int .i64 (aV 0))/\w' = w:=by
 have HR:Hid (aV 0=0):=by show _=_; decide
 generalize aV 0=R at *;go_enter Tryz.func268,Tryz.ntmps268;go_wp2;go_ret;exact⟨Qe (by rw[HR.out]; kernel_rfl),rfl⟩
theorem aik (w:World):Calls Tryz.prog 268 #[.int .u64 ((1:Nat):Int)] w fun e w'=>e=.returned (.int .i64 (aV 1))/\w' = w:=by
 have HR:Hid (aV 1=1):=by show _=_; decide
 generalize aV 1=R at *;go_enter Tryz.func268,Tryz.ntmps268;go_wp2;go_ret;exact⟨Qe (by rw[HR.out]; kernel_rfl),rfl⟩
theorem ail (w:World):Calls Tryz.prog 268 #[.int .u64 ((2:Nat):Int)] w fun e w'=>e=.returned (.int .i64 (aV 2))/\w' = w:=by
 have HR:Hid (aV 2=1):=by show _=_; decide
 generalize aV 2=R at *;go_enter Tryz.func268,Tryz.ntmps268;go_wp2;go_ret;exact⟨Qe (by rw[HR.out]; kernel_rfl),rfl⟩
theorem aim (w:World):Calls Tryz.prog 268 #[.int .u64 ((3:Nat):Int)] w fun e w'=>e=.returned (.int .i64 (aV 3))/\w' = w:=by
 have HR:Hid (aV 3=2):=by show _=_; decide
 generalize aV 3=R at *;go_enter Tryz.func268,Tryz.ntmps268;go_wp2;go_ret;exact⟨Qe (by rw[HR.out]; kernel_rfl),rfl⟩
theorem ain (w:World):Calls Tryz.prog 268 #[.int .u64 ((4:Nat):Int)] w fun e w'=>e=.returned (.int .i64 (aV 4))/\w' = w:=by
 have HR:Hid (aV 4=1):=by show _=_; decide
 generalize aV 4=R at *;go_enter Tryz.func268,Tryz.ntmps268;go_wp2;go_ret;exact⟨Qe (by rw[HR.out]; kernel_rfl),rfl⟩
theorem aio (w:World):Calls Tryz.prog 268 #[.int .u64 ((5:Nat):Int)] w fun e w'=>e=.returned (.int .i64 (aV 5))/\w' = w:=by
 have HR:Hid (aV 5=2):=by show _=_; decide
 generalize aV 5=R at *;go_enter Tryz.func268,Tryz.ntmps268;go_wp2;go_ret;exact⟨Qe (by rw[HR.out]; kernel_rfl),rfl⟩
theorem aip (w:World):Calls Tryz.prog 268 #[.int .u64 ((6:Nat):Int)] w fun e w'=>e=.returned (.int .i64 (aV 6))/\w' = w:=by
 have HR:Hid (aV 6=2):=by show _=_; decide
 generalize aV 6=R at *;go_enter Tryz.func268,Tryz.ntmps268;go_wp2;go_ret;exact⟨Qe (by rw[HR.out]; kernel_rfl),rfl⟩
theorem aiq (w:World):Calls Tryz.prog 268 #[.int .u64 ((7:Nat):Int)] w fun e w'=>e=.returned (.int .i64 (aV 7))/\w' = w:=by
 have HR:Hid (aV 7=3):=by show _=_; decide
 generalize aV 7=R at *;go_enter Tryz.func268,Tryz.ntmps268;go_wp2;go_ret;exact⟨Qe (by rw[HR.out]; kernel_rfl),rfl⟩
theorem air (w:World):Calls Tryz.prog 268 #[.int .u64 ((8:Nat):Int)] w fun e w'=>e=.returned (.int .i64 (aV 8))/\w' = w:=by
 have HR:Hid (aV 8=1):=by show _=_; decide
 generalize aV 8=R at *;go_enter Tryz.func268,Tryz.ntmps268;go_wp2;go_ret;exact⟨Qe (by rw[HR.out]; kernel_rfl),rfl⟩
theorem ais (w:World):Calls Tryz.prog 268 #[.int .u64 ((9:Nat):Int)] w fun e w'=>e=.returned (.int .i64 (aV 9))/\w' = w:=by
 have HR:Hid (aV 9=2):=by show _=_; decide
 generalize aV 9=R at *;go_enter Tryz.func268,Tryz.ntmps268;go_wp2;go_ret;exact⟨Qe (by rw[HR.out]; kernel_rfl),rfl⟩
theorem ael (w:World):Calls Tryz.prog 268 #[.int .u64 ((10:Nat):Int)] w fun e w'=>e=.returned (.int .i64 (aV 10))/\w' = w:=by
 have HR:Hid (aV 10=2):=by show _=_; decide
 generalize aV 10=R at *;go_enter Tryz.func268,Tryz.ntmps268;go_wp2;go_ret;exact⟨Qe (by rw[HR.out]; kernel_rfl),rfl⟩
theorem aem (w:World):Calls Tryz.prog 268 #[.int .u64 ((11:Nat):Int)] w fun e w'=>e=.returned (.int .i64 (aV 11))/\w' = w:=by
 have HR:Hid (aV 11=3):=by show _=_; decide
 generalize aV 11=R at *;go_enter Tryz.func268,Tryz.ntmps268;go_wp2;go_ret;exact⟨Qe (by rw[HR.out]; kernel_rfl),rfl⟩
theorem aen (w:World):Calls Tryz.prog 268 #[.int .u64 ((12:Nat):Int)] w fun e w'=>e=.returned (.int .i64 (aV 12))/\w' = w:=by
 have HR:Hid (aV 12=2):=by show _=_; decide
 generalize aV 12=R at *;go_enter Tryz.func268,Tryz.ntmps268;go_wp2;go_ret;exact⟨Qe (by rw[HR.out]; kernel_rfl),rfl⟩
theorem aeo (w:World):Calls Tryz.prog 268 #[.int .u64 ((13:Nat):Int)] w fun e w'=>e=.returned (.int .i64 (aV 13))/\w' = w:=by
 have HR:Hid (aV 13=3):=by show _=_; decide
 generalize aV 13=R at *;go_enter Tryz.func268,Tryz.ntmps268;go_wp2;go_ret;exact⟨Qe (by rw[HR.out]; kernel_rfl),rfl⟩
theorem aep (w:World):Calls Tryz.prog 268 #[.int .u64 ((14:Nat):Int)] w fun e w'=>e=.returned (.int .i64 (aV 14))/\w' = w:=by
 have HR:Hid (aV 14=3):=by show _=_; decide
 generalize aV 14=R at *;go_enter Tryz.func268,Tryz.ntmps268;go_wp2;go_ret;exact⟨Qe (by rw[HR.out]; kernel_rfl),rfl⟩
theorem aeq (w:World):Calls Tryz.prog 268 #[.int .u64 ((15:Nat):Int)] w fun e w'=>e=.returned (.int .i64 (aV 15))/\w' = w:=by
 have HR:Hid (aV 15=4):=by show _=_; decide
 generalize aV 15=R at *;go_enter Tryz.func268,Tryz.ntmps268;go_wp2;go_ret;exact⟨Qe (by rw[HR.out]; kernel_rfl),rfl⟩
theorem aer (w:World):Calls Tryz.prog 268 #[.int .u64 ((16:Nat):Int)] w fun e w'=>e=.returned (.int .i64 (aV 16))/\w' = w:=by
 have HR:Hid (aV 16=1):=by show _=_; decide
 generalize aV 16=R at *;go_enter Tryz.func268,Tryz.ntmps268;go_wp2;go_ret;exact⟨Qe (by rw[HR.out]; kernel_rfl),rfl⟩
theorem aes (w:World):Calls Tryz.prog 268 #[.int .u64 ((17:Nat):Int)] w fun e w'=>e=.returned (.int .i64 (aV 17))/\w' = w:=by
 have HR:Hid (aV 17=2):=by show _=_; decide
 generalize aV 17=R at *;go_enter Tryz.func268,Tryz.ntmps268;go_wp2;go_ret;exact⟨Qe (by rw[HR.out]; kernel_rfl),rfl⟩
theorem aet (w:World):Calls Tryz.prog 268 #[.int .u64 ((18:Nat):Int)] w fun e w'=>e=.returned (.int .i64 (aV 18))/\w' = w:=by
 have HR:Hid (aV 18=2):=by show _=_; decide
 generalize aV 18=R at *;go_enter Tryz.func268,Tryz.ntmps268;go_wp2;go_ret;exact⟨Qe (by rw[HR.out]; kernel_rfl),rfl⟩
theorem aeu (w:World):Calls Tryz.prog 268 #[.int .u64 ((19:Nat):Int)] w fun e w'=>e=.returned (.int .i64 (aV 19))/\w' = w:=by
 have HR:Hid (aV 19=3):=by show _=_; decide
 generalize aV 19=R at *;go_enter Tryz.func268,Tryz.ntmps268;go_wp2;go_ret;exact⟨Qe (by rw[HR.out]; kernel_rfl),rfl⟩
theorem aev (w:World):Calls Tryz.prog 268 #[.int .u64 ((20:Nat):Int)] w fun e w'=>e=.returned (.int .i64 (aV 20))/\w' = w:=by
 have HR:Hid (aV 20=2):=by show _=_; decide
 generalize aV 20=R at *;go_enter Tryz.func268,Tryz.ntmps268;go_wp2;go_ret;exact⟨Qe (by rw[HR.out]; kernel_rfl),rfl⟩
theorem aew (w:World):Calls Tryz.prog 268 #[.int .u64 ((21:Nat):Int)] w fun e w'=>e=.returned (.int .i64 (aV 21))/\w' = w:=by
 have HR:Hid (aV 21=3):=by show _=_; decide
 generalize aV 21=R at *;go_enter Tryz.func268,Tryz.ntmps268;go_wp2;go_ret;exact⟨Qe (by rw[HR.out]; kernel_rfl),rfl⟩
theorem aex (w:World):Calls Tryz.prog 268 #[.int .u64 ((22:Nat):Int)] w fun e w'=>e=.returned (.int .i64 (aV 22))/\w' = w:=by
 have HR:Hid (aV 22=3):=by show _=_; decide
 generalize aV 22=R at *;go_enter Tryz.func268,Tryz.ntmps268;go_wp2;go_ret;exact⟨Qe (by rw[HR.out]; kernel_rfl),rfl⟩
theorem aey (w:World):Calls Tryz.prog 268 #[.int .u64 ((23:Nat):Int)] w fun e w'=>e=.returned (.int .i64 (aV 23))/\w' = w:=by
 have HR:Hid (aV 23=4):=by show _=_; decide
 generalize aV 23=R at *;go_enter Tryz.func268,Tryz.ntmps268;go_wp2;go_ret;exact⟨Qe (by rw[HR.out]; kernel_rfl),rfl⟩
theorem aez (w:World):Calls Tryz.prog 268 #[.int .u64 ((24:Nat):Int)] w fun e w'=>e=.returned (.int .i64 (aV 24))/\w' = w:=by
 have HR:Hid (aV 24=2):=by show _=_; decide
 generalize aV 24=R at *;go_enter Tryz.func268,Tryz.ntmps268;go_wp2;go_ret;exact⟨Qe (by rw[HR.out]; kernel_rfl),rfl⟩
theorem aeA (w:World):Calls Tryz.prog 268 #[.int .u64 ((25:Nat):Int)] w fun e w'=>e=.returned (.int .i64 (aV 25))/\w' = w:=by
 have HR:Hid (aV 25=3):=by show _=_; decide
 generalize aV 25=R at *;go_enter Tryz.func268,Tryz.ntmps268;go_wp2;go_ret;exact⟨Qe (by rw[HR.out]; kernel_rfl),rfl⟩
theorem aeB (w:World):Calls Tryz.prog 268 #[.int .u64 ((26:Nat):Int)] w fun e w'=>e=.returned (.int .i64 (aV 26))/\w' = w:=by
 have HR:Hid (aV 26=3):=by show _=_; decide
 generalize aV 26=R at *;go_enter Tryz.func268,Tryz.ntmps268;go_wp2;go_ret;exact⟨Qe (by rw[HR.out]; kernel_rfl),rfl⟩
theorem aeC (w:World):Calls Tryz.prog 268 #[.int .u64 ((27:Nat):Int)] w fun e w'=>e=.returned (.int .i64 (aV 27))/\w' = w:=by
 have HR:Hid (aV 27=4):=by show _=_; decide
 generalize aV 27=R at *;go_enter Tryz.func268,Tryz.ntmps268;go_wp2;go_ret;exact⟨Qe (by rw[HR.out]; kernel_rfl),rfl⟩
theorem aeD (w:World):Calls Tryz.prog 268 #[.int .u64 ((28:Nat):Int)] w fun e w'=>e=.returned (.int .i64 (aV 28))/\w' = w:=by
 have HR:Hid (aV 28=3):=by show _=_; decide
 generalize aV 28=R at *;go_enter Tryz.func268,Tryz.ntmps268;go_wp2;go_ret;exact⟨Qe (by rw[HR.out]; kernel_rfl),rfl⟩
theorem aeE (w:World):Calls Tryz.prog 268 #[.int .u64 ((29:Nat):Int)] w fun e w'=>e=.returned (.int .i64 (aV 29))/\w' = w:=by
 have HR:Hid (aV 29=4):=by show _=_; decide
 generalize aV 29=R at *;go_enter Tryz.func268,Tryz.ntmps268;go_wp2;go_ret;exact⟨Qe (by rw[HR.out]; kernel_rfl),rfl⟩
theorem aeF (w:World):Calls Tryz.prog 268 #[.int .u64 ((30:Nat):Int)] w fun e w'=>e=.returned (.int .i64 (aV 30))/\w' = w:=by
 have HR:Hid (aV 30=4):=by show _=_; decide
 generalize aV 30=R at *;go_enter Tryz.func268,Tryz.ntmps268;go_wp2;go_ret;exact⟨Qe (by rw[HR.out]; kernel_rfl),rfl⟩
theorem aeG (w:World):Calls Tryz.prog 268 #[.int .u64 ((31:Nat):Int)] w fun e w'=>e=.returned (.int .i64 (aV 31))/\w' = w:=by
 have HR:Hid (aV 31=5):=by show _=_; decide
 generalize aV 31=R at *;go_enter Tryz.func268,Tryz.ntmps268;go_wp2;go_ret;exact⟨Qe (by rw[HR.out]; kernel_rfl),rfl⟩
theorem yZ (s:Nat) (hs:s<32) (w:World):Calls Tryz.prog 268 #[.int .u64 (s:Int)] w fun e w'=>e=.returned (.int .i64 (aV s))/\w' = w:=by
 have h:s=0∨s=1∨s=2∨s=3∨s=4∨s=5∨s=6∨s=7∨s=8∨s=9∨s=10∨s=11∨s=12∨s=13∨s=14∨s=15∨s=16∨s=17∨s=18∨s=19∨s=20∨s=21∨s=22∨s=23∨s=24∨s=25∨s=26∨s=27∨s=28∨s=29∨s=30∨s=31:=by omega
 rcases h with rfl | rfl | rfl | rfl | rfl | rfl | rfl | rfl | rfl | rfl | rfl | rfl | rfl | rfl | rfl | rfl | rfl | rfl | rfl | rfl | rfl | rfl | rfl | rfl | rfl | rfl | rfl | rfl | rfl | rfl | rfl | rfl
 ·exact aij w
 ·exact aik w
 ·exact ail w
 ·exact aim w
 ·exact ain w
 ·exact aio w
 ·exact aip w
 ·exact aiq w
 ·exact air w
 ·exact ais w
 ·exact ael w
 ·exact aem w
 ·exact aen w
 ·exact aeo w
 ·exact aep w
 ·exact aeq w
 ·exact aer w
 ·exact aes w
 ·exact aet w
 ·exact aeu w
 ·exact aev w
 ·exact aew w
 ·exact aex w
 ·exact aey w
 ·exact aez w
 ·exact aeA w
 ·exact aeB w
 ·exact aeC w
 ·exact aeD w
 ·exact aeE w
 ·exact aeF w
 ·exact aeG w
theorem EZ (s:Nat) (hs:s<32) (w:World):Calls Tryz.prog 216 #[.int .u64 (s:Int)] w fun e w'=>e=.returned (.int .i64 (aV s))/\w' = w:=by
 have h64:=yZ s hs w;generalize aV s=R at *;have hO:Calls Tryz.prog 253 #[.int .u64 (s:Int)] w fun e w'=>e=.returned (.int .i64 R)/\w' = w:=by
  go_enter Tryz.func253,Tryz.ntmps253;go_wp2_with fail;refine h64.mono ?_;rintro e w2 ⟨rfl,rfl⟩;go_wp2;go_ret;exact⟨rfl,rfl⟩
 go_enter Tryz.func216,Tryz.ntmps216;go_wp2_with fail;refine hO.mono ?_;rintro e w2 ⟨rfl,rfl⟩;go_wp2;go_ret;exact⟨rfl,rfl⟩
theorem aaQ (b:Nat) (x y z:Int) (w:World) (h0:w.cell? (aD b 0)=some (.int .i64 x)) (h1:w.cell? (aD b 1)=some (.int .i64 y)) (h2:w.cell? (aD b 2)=some (.int .i64 z)) :
  Calls Tryz.prog 172 #[.slice (some (aD b 0)) 3 3] w fun e w'=>e=.returned (.int .i64 (if x≠0 then x else if y≠0 then y else z))/\w' = w:=by
 obtain⟨R,hR⟩:∃ R,R=if x≠0 then x else if y≠0 then y else z:=⟨_,rfl⟩
 rw[<- hR];have HR:=Zh hR;clear hR;obtain⟨L,hL⟩:∃ L:List Int,L=[x,y,z]:=⟨_,rfl⟩
 have HC:Hid (∀ k,k<3->w.cell? (aD b k)=some (.int .i64 (L.getD k 0))):=fun k hk=>by
  rw[hL]
  match k,hk with
  | 0,_ => exact h0
  | 1,_ => exact h1
  | 2,_ => exact h2
 have HV:Hid (∀ k,k<3->(∀ j,j<k->L.getD j 0=0)->L.getD k 0≠0->L.getD k 0=R):=fun k hk hj hn=>by
  rw[HR.out];rw[hL] at hj hn ⊢
  match k,hk with
  | 0,_ =>
   have hn:x≠0:=hn
   show x=_
   rw[Qr hn]
  | 1,_ =>
   have e0:x=0:=hj 0 (by omega);have hn:y≠0:=hn
   show y=_
   rw[Qs (not_not_intro e0),Qr hn]
  | 2,_ =>
   have e0:x=0:=hj 0 (by omega);have e1:y=0:=hj 1 (by omega)
   show z=_
   rw[Qs (not_not_intro e0),Qs (not_not_intro e1)]
 have HZ:Hid ((∀ j,j<3->L.getD j 0=0)->R=0):=fun hj=>by
  rw[hL] at hj;have e0:x=0:=hj 0 (by omega);have e1:y=0:=hj 1 (by omega);have e2:z=0:=hj 2 (by omega);rw[HR.out,e0,e1,e2];simp
 clear h0 h1 h2 hL HR;go_enter Tryz.func172,Tryz.ntmps172;go_wp2;go_loop [8] (fun i=>∃ k:Nat,k<=3/\i=.int .i64 (k:Int)/\Hid (∀ j,j<k->L.getD j 0=0)) (fun i=>3-(intOf i).toNat)
 case atStart=>exact⟨0,by omega,rfl,fun j hj=>by omega⟩
 case round=>
  obtain⟨k,hk,rfl,HJ⟩:=hrel;by_cases hlt:k<3
  ·have hc:=HC.out k hlt;have HVk:=Zh (HV.out k hlt HJ.out);obtain⟨v,hv⟩:∃ v,v=L.getD k 0:=⟨_,rfl⟩
   rw[<- hv] at hc HVk;have HVV:=Zh hv;clear hv;by_cases hv0:v=0
   ·have HV0:=Zh hv0;have hb:(v != 0)=false:=by simp[hv0]
    clear hv0;go_wp2;go_round
    case rel=>exact⟨k+1,by omega,by go_num,fun j hj=>by
     rcases Nat.lt_or_eq_of_le (Nat.le_of_lt_succ hj) with h | h
     ·exact HJ.out j h
     ·rw[h,<- HVV.out]; exact HV0.out⟩
    case measure=>simp[intOf]; omega
   ·have HVR:=Zh (HVk.out hv0);have hb:(v != 0)=true:=by simp[hv0]
    clear HVk;go_wp2;go_ret;exact⟨Qe HVR.out,rfl⟩
  ·have hk3:k=3:=by omega
   have HF:=Zh (HZ.out (by rw[<- hk3]; exact HJ.out));clear hk3;go_wp2;go_ret;exact⟨Qe HF.out.symm,rfl⟩
theorem II (l r:Nat) (hl:l<32) (hr:r<32) (w:World) :
  Calls Tryz.prog 174 #[.agg #[.int .u64 (l:Int),.int .u64 (r:Int)]] w fun e w'=>e=.returned (.int .i64 (jR aV (l,r)))/\Below w.heap.size w w':=by
 obtain⟨w1,hw1⟩:∃ x,w.alloc (.cells #[.int .u64 (l:Int),.int .u64 (r:Int)] 143)=x:=⟨_,rfl⟩
 have hb1:Below w.heap.size w w1:=by rw[<- hw1]; exact bU _ _
 have c0:w1.cell? (aD w.heap.size 0)=some (.int .u64 (l:Int)):=by rw[<- hw1]; simp
 have c1:w1.cell? (aD w.heap.size 1)=some (.int .u64 (r:Int)):=by rw[<- hw1]; simp
 have hSC:=uA l r w1;have HB1:=Zh hb1;have HR:Hid (jR aV (l,r)=if r=0 then 6 else aV (l|||r)):=rfl;have hor:l|||r<32:=sP (n:=5) hl hr
 generalize jR aV (l,r)=R at *;clear hb1;by_cases h0:r=0
 ·have HV:Hid (R=6):=by show _=_; rw[HR.out,Qr h0]
  rw[Qu h0] at hSC;clear h0 HR;go_enter Tryz.func174,Tryz.ntmps174;go_wp2_with fail;refine hSC.mono ?_;rintro e w2 ⟨rfl,hb2⟩;have HB2:=Zh (aG HB1.out hb2);clear hSC hb2 hw1;go_wp2;go_ret;exact⟨Qe HV.out.symm,HB2.out⟩
 ·have HV:Hid (R=aV (l|||r)):=by show _=_; rw[HR.out,Qs h0]
  rw[Qh h0] at hSC;clear h0 HR;go_enter Tryz.func174,Tryz.ntmps174;go_wp2_with fail;refine hSC.mono ?_;rintro e w2 ⟨rfl,hb2⟩;have HB2:=Zh (aG HB1.out hb2);have d0:=cB hb2 c0;have d1:=cB hb2 c1;obtain⟨w3,hw3⟩:∃ x,w2.alloc (.cells #[.int .u64 (l:Int),.int .u64 (r:Int)] 90)=x:=⟨_,rfl⟩
  have HB3:Hid (Below w.heap.size w w3):=aG HB2.out (by rw[<- hw3]; exact bU _ _);have hUN:=jq w2.heap.size l r w3 (by rw[<- hw3]; simp) (by rw[<- hw3]; simp) (by omega) (by omega);have hCN:=EZ (l|||r) hor w3;rw[<- HV.out] at hCN;generalize l|||r=lr at *
  clear hSC hb2 hw1 c0 c1 HV;go_wp2_with fail;refine hUN.mono ?_;rintro e w4 ⟨rfl,hw4⟩;have hw4:=hw4.symm;subst hw4;go_wp2_with fail;refine hCN.mono ?_;rintro e w4 ⟨rfl,hw4⟩;have hw4:=hw4.symm;subst hw4;clear hUN hCN hw3;go_wp2;go_ret;exact⟨rfl,HB3.out⟩
theorem RQ (a b:bg) (ha:a.1<32/\a.2<32) (hb:b.1<32/\b.2<32) (w:World) :
  Calls Tryz.prog 122 #[.agg #[.int .u64 (a.1:Int),.int .u64 (a.2:Int)],.agg #[.int .u64 (b.1:Int),.int .u64 (b.2:Int)]] w fun e w'=>e=.returned (.int .i64 (oW aV a b))/\Below w.heap.size w w':=by
 have HRA:Hid (∀ x,Calls Tryz.prog 174 #[.agg #[.int .u64 (a.1:Int),.int .u64 (a.2:Int)]] x fun e w'=>e=.returned (.int .i64 (jR aV a))/\Below x.heap.size x w'):=fun x=>II a.1 a.2 ha.1 ha.2 x
 have J6:Hid (∀ x,Calls Tryz.prog 174 #[.agg #[.int .u64 (b.1:Int),.int .u64 (b.2:Int)]] x fun e w'=>e=.returned (.int .i64 (jR aV b))/\Below x.heap.size x w'):=fun x=>II b.1 b.2 hb.1 hb.2 x
 have HR:Hid (oW aV a b=if mg (jR aV b) (jR aV a)≠0 then mg (jR aV b) (jR aV a) else if mg a.1 b.1≠0 then mg a.1 b.1 else mg a.2 b.2):=rfl;have wO:Hid (∀ x,Calls Tryz.prog 173 #[.int .i64 (jR aV b),.int .i64 (jR aV a)] x fun e w'=>e=.returned (.int .i64 (mg (jR aV b) (jR aV a)))/\w' = x):=fun x=>EY _ _ x
 have tY:Hid (∀ x,Calls Tryz.prog 175 #[.int .u64 (a.1:Int),.int .u64 (b.1:Int)] x fun e w'=>e=.returned (.int .i64 (mg a.1 b.1))/\w' = x):=fun x=>vK _ _ x
 have Gb:Hid (∀ x,Calls Tryz.prog 175 #[.int .u64 (a.2:Int),.int .u64 (b.2:Int)] x fun e w'=>e=.returned (.int .i64 (mg a.2 b.2))/\w' = x):=fun x=>vK _ _ x
 generalize oW aV a b=R at *;generalize jR aV a=RA at *;generalize jR aV b=RB at *;obtain⟨al,ar⟩:=a;obtain⟨bl,br⟩:=b;simp only at *;generalize mg RB RA=C1 at *;generalize mg (al:Int) (bl:Int)=C2 at *;generalize mg (ar:Int) (br:Int)=C3 at *;have HOR:Hid (∀ (x:World) (c:Nat),x.cell? (aD c 0)=some (.int .i64 C1)->x.cell? (aD c 1)=some (.int .i64 C2)->x.cell? (aD c 2)=some (.int .i64 C3)->Calls Tryz.prog 172 #[.slice (some (aD c 0)) 3 3] x fun e w'=>e=.returned (.int .i64 R)/\w' = x):=fun x c h0 h1 h2=>by
  rw[HR.out];exact aaQ c C1 C2 C3 x h0 h1 h2
 clear HR ha hb;obtain⟨w1,hw1,hb1,hg1⟩:=bu w #[.int .u64 (al:Int),.int .u64 (ar:Int)] 143;obtain⟨w2,hw2,hb2,hg2⟩:=bu w1 #[.int .u64 (bl:Int),.int .u64 (br:Int)] 143;have hg1':=hg1.of (hb2.block _ hg1.lt);obtain⟨a0,a1⟩:=hg1'.k2;obtain⟨b0,b1⟩:=hg2.k2;have HB2:=Zh (aG hb1 hb2);clear hb1 hb2 hg1 hg2 hg1';go_enter Tryz.func122,Tryz.ntmps122;go_wp2_with fail;clear hw1 hw2;refine wH w2 fun hS=>?_
 refine wT 0 (.agg #[.int .u64 (bl:Int),.int .u64 (br:Int)]) hS (fun x hx=>?_) ?_
 ·have e0:=cB hx b0;have e1:=cB hx b1;go_simp
 refine wT 2 (.agg #[.int .u64 (al:Int),.int .u64 (ar:Int)]) hS (fun x hx=>?_) ?_
 ·have e0:=cB hx a0;have e1:=cB hx a1;go_simp
 refine wt 5 (.pointer (some (aD w.heap.size 0))) hS ?_;refine iB 6 (.int .u64 (al:Int)) hS a0 ?_;refine wt 7 (.pointer (some (aD w1.heap.size 0))) hS ?_;refine iB 8 (.int .u64 (bl:Int)) hS b0 ?_;refine wt 10 (.pointer (some (aD w.heap.size 1))) hS ?_;refine iB 11 (.int .u64 (ar:Int)) hS a1 ?_;refine wt 12 (.pointer (some (aD w1.heap.size 1))) hS ?_;refine iB 13 (.int .u64 (br:Int)) hS b1 ?_;refine wR 1 fun K hK=>?_
 go_simp;refine Z7 (J6.out _) ?_;rintro e w3 ⟨rfl,hb⟩;refine oT hK hS hb fun hS=>?_
 clear hK K;refine wR 3 fun K hK=>?_
 go_simp;refine Z7 (HRA.out _) ?_;rintro e w4 ⟨rfl,hb⟩;refine oT hK hS hb fun hS=>?_
 clear hK K;refine wR 4 fun K hK=>?_
 go_simp;refine Z7 (wO.out _) ?_;rintro e w5 ⟨rfl,uL⟩;have hww:=uL.symm;subst hww;refine hK.out _ _ hS fun hS=>?_
 clear hK K;refine wR 9 fun K hK=>?_
 go_simp;refine Z7 (tY.out _) ?_;rintro e w6 ⟨rfl,kC⟩;have hww:=kC.symm;subst hww;refine hK.out _ _ hS fun hS=>?_
 clear hK K;refine wR 14 fun K hK=>?_
 go_simp;refine Z7 (Gb.out _) ?_;rintro e w7 ⟨rfl,hw7⟩;have hww:=hw7.symm;subst hww;refine hK.out _ _ hS fun hS=>?_
 clear hK K;refine wR 15 fun K hK=>?_
 go_simp;refine oA hK hS fun hS=>?_
 clear hK K;refine wR 16 fun K hK=>?_
 go_simp;refine Z7 (HOR.out _ _ (by simp) (by simp) (by simp)) ?_;rintro e w8 ⟨rfl,hw8⟩;have hww:=hw8.symm;subst hww;refine hK.out _ _ hS fun hS=>?_
 clear hK K;refine wR 17 fun K hK=>?_
 go_simp;refine hK.out _ _ hS fun hS=>?_
 clear hK K;refine wD ?_
 try simp only[pV]
 have HF:=Zh (aG HB2.out hS);clear hS;go_wp2;go_ret;exact⟨rfl,HF.out⟩
