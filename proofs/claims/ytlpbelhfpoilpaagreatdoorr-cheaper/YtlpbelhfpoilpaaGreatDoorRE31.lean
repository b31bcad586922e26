import Derived.Test.YtlpbelhfpoilpaaGreatDoorRE28
set_option linter.all false
set_option maxRecDepth 100000
set_option maxHeartbeats 16000000
namespace Go.Proofs.Zz
open Go.RowKit Go.Shelf
variable {w:World} {base cap g i m n sz:Nat} {e:TypeId} {xs:List Value} {P:Program}
theorem Ud(xs:List Value)(o:Nat)(u:Value)(h:o<xs.length):(xs.set o u).take (o+1)=xs.take o++[u]:=by
 rw[List.set_eq_take_append_cons_drop,Qy h];have:xs.take o++u::xs.drop (o+1)=(xs.take o++[u])++xs.drop (o+1):=by simp
 rw[this,List.take_left' (by simp; omega)]
theorem Ue(xs:List Value)(o k:Nat)(u:Value)(h:o<k):(xs.set o u).drop k=xs.drop k:=List.drop_set_of_lt h
theorem gM{base:Nat}{e:TypeId}{sz:Nat}{v:Value}{n g:Nat}(hg:v.ownBlock=some g):∀ (vs:List Value) (o:Nat) {w:World} {xs:List Value},w.ownsRow base e sz v n xs->o+vs.length<=n*sz->
  (w.setCells g o vs).ownsRow base e sz v n (xs.take o++vs++xs.drop (o+vs.length))
 | [],o,w,xs,h,_ => by simpa [World.setCells] using h
 | u::r,o,w,xs,h,hl => by
  have hx:=h.1;simp only[Zg]at hl;have h1:=gM hg r (o+1) (Bf h hg (j:=o) (by omega) u) (by omega);rw[Ud xs o u (by omega),Ue xs o _ u (by omega)]at h1;have e1:xs.take o++u::r++xs.drop (o+(u::r).length)=xs.take o++[u]++r++xs.drop (o+1+r.length):=by
   rw[Zg,show o+(r.length+1)=o+1+r.length by omega];simp
  rw[e1];exact h1
theorem Kept.setCells{s:Nat->Prop}{g:Nat}(hg:¬ s g):∀ (vs:List Value) (o:Nat) (W:World),Kept s W (W.setCells g o vs)
 | [],_,W => Zn _ W
 | u::r,o,W => (ZL W (aD g o) u hg).trans (Kept.setCells hg r (o+1) (W.setCell (aD g o) u))
theorem Yp(h:w.ownsRow base e sz (.slice (some (aD g 0)) n cap) n xs)(hc:n+1<=cap):∃ ys,ys.length=sz/\w.ownsRow base e sz (.slice (some (aD g 0)) (n+1) cap) (n+1) (xs++ys):=by
 rcases h.2 with⟨h0,_⟩ | ⟨g',cap',cur,e1,hb,hh,hn,hm,hs,ht⟩
 ·cases h0
 injection e1 with e1 _ e2;injection e1 with e1;injection e1 with e1;subst e1 e2;have h1:(n+1)*sz<=cap*sz:=Nat.mul_le_mul_right _ hc;have h2:(n+1)*sz=n*sz+sz:=Nat.succ_mul n sz;have hcl:cur.toList.length=cap*sz:=by rw[Array.length_toList]; exact hs
 have hyl:((cur.toList.drop (n*sz)).take sz).length=sz:=by rw[Zm,XT]; omega
 refine⟨(cur.toList.drop (n*sz)).take sz,hyl,⟨by rw[Zb,h.1,hyl,h2],.inr ⟨g,cap,cur,rfl,hb,hh,hc,hm,hs,?_⟩⟩⟩;rw[h2,List.take_add,ht]
theorem acD(h:w.ownsRow base e sz (.slice (some (aD g 0)) n cap) n xs)(hm:m<=n):w.ownsRow base e sz (.slice (some (aD g 0)) m cap) m (xs.take (m*sz)):=by
 rcases h.2 with⟨h0,_⟩ | ⟨g',cap',cur,e1,hb,hh,hn,hmx,hs,ht⟩
 ·cases h0
 injection e1 with e1 _ e2;injection e1 with e1;injection e1 with e1;subst e1 e2;have h1:m*sz<=n*sz:=Nat.mul_le_mul_right _ hm;refine⟨by rw[Zm,h.1]; omega,.inr ⟨g,cap,cur,rfl,hb,hh,by omega,hmx,hs,?_⟩⟩;rw[<- ht,List.take_take,QK h1]
theorem kK(h:w.ownsRow base e sz (.slice (some (aD g 0)) n cap) n xs):n<=cap/\cap<=maxLen/\(∀ j u,xs[j]? = some u->w.cell? (aD g j)=some u)/\(∀ j,j<cap*sz->(w.cell? (aD g j)).isSome=true)/\(∀ j,w.frozen? (aD g j)=false)/\w.shape? g=some (e,cap*sz)/\g<w.heap.size:=by
 rcases h.2 with⟨h0,_⟩ | ⟨g',cap',cur,e1,hb,hh,hn,hmx,hs,ht⟩
 ·cases h0
 injection e1 with e1 _ e2;injection e1 with e1;injection e1 with e1;subst e1 e2;have hlt:=(QV.1 hh).1;refine⟨hn,hmx,fun j u hj=>?_,fun j hj=>?_,fun j=>?_,?_,hlt⟩
 ·rw[<- ht,ZY]at hj;split at hj
  ·simp only[World.cell?,hh]
   simpa using hj
  ·cases hj
 ·simp only[World.cell?,hh];rw[<- hs]at hj;simp[hj]
 ·simp[World.frozen?,hh]
 ·simp[World.shape?,hh,hs]
theorem uq(w:World)(dT sT ty elem:TypeId)(size b o dLen dCap:Nat)(a:Addr)(sLen sCap:Nat)(cs:List Value)
  (hu:P.underlying dT=some (.slice elem)) (hs:(P.info? elem).map (·.size)=some size) (hn:cs.length=Nat.min sLen dLen*size)
  (hsrc:∀ j v,cs[j]? = some v->w.cell? (a.add j)=some v) (hc:∀ j,j<cs.length->(w.cell? (aD b (o+j))).isSome=true) (hf:∀ j,j<cs.length->w.frozen? (aD b (o+j))=false) (h1:∀ v∈cs,v.oneCell' = true) :
  (Builtin.copy_ #[dT,sT] ty #[.slice (some (aD b o)) dLen dCap,.slice (some a) sLen sCap]).run P w=.ok (goInt (Nat.min sLen dLen)) (w.setCells b o cs):=by
 have hl:=run_loadCells_list (P:=P) w a cs hsrc;have hst:=run_storeCells_cells (P:=P) b o cs 0 w (by simpa using hc) (by simpa using hf) h1
 cases hq:P.info? elem with
 | none => simp[hq]at hs
 | some i =>
  have hi:i.size=size:=by simpa [hq] using hs
  simp[Builtin.copy_,run_underlying hu,Builtin.lenOf,Builtin.firstCells,sizeOf,typeInfo,hq,hi,<- hn,hl,hst]
theorem Ou(w:World)(t e ty:TypeId)(z:Value)(ht:P.underlying t=some (.slice e))(hv:∀ w,(zeroValue e).run P w=.ok z w)(zs:List Value)(hz:(Builtin.zeroCells z.cells 1).toList=zs)(h1:∀ v∈zs,v.oneCell' = true)(b o c:Nat)
  (hc:∀ j,j<zs.length->(w.cell? (aD b (o+j))).isSome=true) (hf:∀ j,j<zs.length->w.frozen? (aD b (o+j))=false) :
  (Builtin.clear_ #[t] ty #[.slice (some (aD b o)) 1 c]).run P w=.ok (.tuple #[]) (w.setCells b o zs):=by
 have hst:=run_storeCells_cells (P:=P) b o zs 0 w (by simpa using hc) (by simpa using hf) h1;simp only[Zf]at hst;simp[Builtin.clear_,run_underlying ht,hv,hz,hst]
def dN(t:bG):List Value:=[.int .u64 (t.1:Int),.int .u64 (t.2:Int)]
theorem He{t tx ty:TypeId}{i:TypeInfo}(hi:P.info? e=some i)(h1:P.underlying t=some (.slice e))(h2:P.underlying tx=some (.slice e))(v x:Value)(w:World):(Builtin.append_ #[t,tx] ty #[v,x]).run P w=(Builtin.append_ #[t,t] ty #[v,x]).run P w:=by
 unfold Builtin.append_
 cases v <;> simp[run_underlying h1,run_underlying h2,sizeOf,typeInfo,hi]
theorem YN{ys:List Value}(l r:Value)(hx:xs.length=n*2)(hy:ys.length=2)(hi:i<n) :
  (((xs++ys).take ((i+1)*2)++xs.drop (i*2)++(xs++ys).drop ((i+1)*2+(xs.drop (i*2)).length)).take (i*2)++[l,r]++((xs++ys).take ((i+1)*2)++xs.drop (i*2)++(xs++ys).drop ((i+1)*2+(xs.drop (i*2)).length)).drop (i*2+[l,r].length))=xs.take (i*2)++[l,r]++xs.drop (i*2):=by
 have h0:(xs++ys).drop ((i+1)*2+(xs.drop (i*2)).length)=[]:=List.drop_eq_nil_of_le (by rw[Zb,XT]; omega);have hP:((xs++ys).take ((i+1)*2)).length=(i+1)*2:=by rw[Zm,Zb]; omega
 rw[h0,Xx,List.take_append_of_le_length (by omega),List.drop_left' (by rw[hP]; simp; omega),List.take_take,QK (by omega),List.take_append_of_le_length (by omega)]
theorem Tryz.xY:(Tryz.prog.info? 236).map (fun i=>(i.zero,i.size,i.bytes))=some (some (.agg #[.int .u64 0,.int .u64 0]),2,16):=by kernel_rfl
theorem Hf(base g n cap i vb:Nat)(l r:Value)(xs:List Value)(w:World)(hown:w.ownsRow base 236 2 (.slice (some (aD g 0)) n cap) n xs)(hx1:∀ u∈xs,u.oneCell' = true)(hl1:l.oneCell' = true)(hr1:r.oneCell' = true)(hi:i<n)(hroom:n+1<=cap)(hvb:GB w vb 236 #[l,r])(hne:vb≠g) :
  Calls Tryz.prog 237 #[.slice (some (aD g 0)) n cap,.int .i64 i,.slice (some (aD vb 0)) 1 1] w fun e w'=>
   e=.returned (.slice (some (aD g 0)) (n+1) cap)/\w'.ownsRow base 236 2 (.slice (some (aD g 0)) (n+1) cap) (n+1) (xs.take (i*2)++[l,r]++xs.drop (i*2))/\Kept (fun b=>b≠g) w w':=by
 obtain⟨i0,hi0,hz0,hz1,hz2⟩:=ZU Tryz.xY;have hsz:(Tryz.prog.info? 236).map (·.size)=some 2:=by rw[hi0]; simp[hz1]
 obtain⟨_,hcm,hcell,hsome,hfz,hsh,hlt⟩:=kK hown;have hxl:=hown.1;have hcm2:cap<=9223372036854775807:=by unfold maxLen at hcm; omega
 have hvs:w.shape? vb=some (236,2):=by
  have h:w.heap[vb]? = some (.cells #[l,r] 236 (0,0)):=hvb;simp[World.shape?,h]
 have hov:∀ lb cb,(callFunc 300 #[.slice (some (aD vb 0)) 1 1,.slice (some (aD g ((i+1)*2))) lb cb]).run Tryz.prog w=.ok (.value (.bool false)) w:=fun lb cb=>by
  rw[run_callFunc_extern Tryz.func300 (by kernel_rfl) (by kernel_rfl) (by kernel_rfl) (e:=Extern.SlicesOverlaps.overlaps #[170,170] #[4]) (by kernel_rfl),
   Lib.run_overlaps_apart w 170 4 236 Tryz.underlying170 2 (fun W=>by simp[sizeOf,typeInfo,hi0,hz1]) (aD vb 0) (aD g ((i+1)*2)) 1 1 lb cb hne 236 236 2 (cap*2) hvs hsh (by omega) (hvb.frozen 0) (hvb.frozen 2)]
  rfl
 have hdl:(xs.drop (i*2)).length=n*2-i*2:=by rw[XT,hxl]
 have hcp1:∀ ty dc sc,(Builtin.copy_ #[171,171] ty #[.slice (some (aD g ((i+1)*2))) (n-i) dc,.slice (some (aD g (i*2))) (n+1-i) sc]).run Tryz.prog w.drew=.ok (goInt (Nat.min (n+1-i) (n-i))) (w.drew.setCells g ((i+1)*2) (xs.drop (i*2))):=fun ty dc sc=>
  uq w.drew _ _ ty 236 2 g ((i+1)*2) (n-i) dc (aD g (i*2)) (n+1-i) sc (xs.drop (i*2)) Tryz.underlying171 hsz (by rw[hdl]; simp only[Nat.min_def]; split <;> omega)
   (fun j v hj=>by rw[addr_add]; exact hcell (i*2+j) v (by rwa [XQ]at hj))
   (fun j hj=>hsome _ (by omega)) (fun j hj=>hfz _) (fun v hv=>hx1 v (List.mem_of_mem_drop hv))
 obtain⟨W1,hW1⟩:=eY (w.drew.setCells g ((i+1)*2) (xs.drop (i*2)))
 have hown0:w.drew.ownsRow base 236 2 (.slice (some (aD g 0)) n cap) n xs:=hown;obtain⟨ys,hyl,hown1⟩:=Yp hown0 hroom;have hown2:=gM (v:=.slice (some (aD g 0)) (n+1) cap) (g:=g) rfl (xs.drop (i*2)) ((i+1)*2) hown1 (by rw[hdl]; omega);rw[<- hW1]at hown2 hcp1;have hk1:Kept (fun b=>b≠g) w W1:=by rw[hW1]; exact(Kept.ae8 w).trans (Kept.setCells (fun h=>h rfl) _ _ _)
 obtain⟨_,_,hcell1,sW,KM,_,_⟩:=kK hown2;have YO:=hvb.keep hk1 hne;have hcp2:∀ ty dc,(Builtin.copy_ #[171,170] ty #[.slice (some (aD g (i*2))) (n+1-i) dc,.slice (some (aD vb 0)) 1 1]).run Tryz.prog W1=.ok (goInt (Nat.min 1 (n+1-i))) (W1.setCells g (i*2) [l,r]):=fun ty dc=>
  uq W1 _ _ ty 236 2 g (i*2) (n+1-i) dc (aD vb 0) 1 1 [l,r] Tryz.underlying171 hsz (by simp only[Nat.min_def]; split <;> simp; omega)
   (fun j v hj=>by rw[addr_add,QQ,YO.cell]; simpa using hj)
   (fun j hj=>sW _ (by simp at hj; omega)) (fun j hj=>KM _) (fun v hv=>by simp at hv; rcases hv with rfl | rfl <;> assumption)
 have hown3:=gM (v:=.slice (some (aD g 0)) (n+1) cap) (g:=g) rfl [l,r] (i*2) hown2 (by simp; omega);rw[YN l r hxl hyl hi]at hown3;have kX:Hid ((W1.setCells g (i*2) [l,r]).ownsRow base 236 2 (.slice (some (aD g 0)) (n+1) cap) (n+1) (xs.take (i*2)++[l,r]++xs.drop (i*2))/\Kept (fun b=>b≠g) w (W1.setCells g (i*2) [l,r])):=⟨hown3,hk1.trans (Kept.setCells (fun h=>h rfl) _ _ _)⟩
 clear hown hown0 hown1 hown2 hown3 hk1 hcell hsome hfz hcell1 sW KM hvb YO hyl hdl hxl hx1 hvs hsh hlt hsz hi0 hz0 hz1 hz2 hcm hW1;have hb4:¬ (cap=i+1):=by omega
 have hb5:¬ (cap=i):=by omega
 have hw1:IntKind.i64.wrap ((i:Int)+1)=(i:Int)+1:=by rw[IntKind.wrap_i64]; omega
 have hb1:(0:Int)<=(i:Int)+1:=by omega
 have hb2:(i:Int)+1<=(n:Int)+1:=by omega
 have htn:((i:Int)+1).toNat=i+1:=by omega
 have hb3:(i:Int)<=(n:Int)+1:=by omega
 go_enter Tryz.func237,Tryz.ntmps237;go_wp2_with (simp only[hov]);go_region_law (refine step_copy_runI rfl _ _ 171 171 rfl _ _ (by simp[Act.eval,Act.put]) (by simp[Act.eval,Act.put]) (hcp1 _ _ _) ?_);go_wp2_with (at_builtin; refine wpList_copy_runI _ rfl _ _ 171 170 rfl _ _ rfl rfl (hcp2 _ _) ?_);go_ret;exact⟨rfl,kX.o⟩
theorem UA{Z:List Value}(l r:Value)(hx:xs.length=n*2)(hZ:Z.length=(n+1)*2)(hi:i<n)(hz:Z.take (i*2)=xs.take (i*2)) :
  ((Z.take (i*2)++[l,r]++Z.drop (i*2+[l,r].length)).take ((i+1)*2)++xs.drop (i*2)++(Z.take (i*2)++[l,r]++Z.drop (i*2+[l,r].length)).drop ((i+1)*2+(xs.drop (i*2)).length))=xs.take (i*2)++[l,r]++xs.drop (i*2):=by
 have hP:(Z.take (i*2)++[l,r]).length=(i+1)*2:=by rw[Zb,Zm]; simp; omega
 have h0:(Z.take (i*2)++[l,r]++Z.drop (i*2+[l,r].length)).drop ((i+1)*2+(xs.drop (i*2)).length)=[]:=List.drop_eq_nil_of_le (by rw[Zb,hP,XT,XT]; simp; omega);rw[h0,Xx,List.take_left' hP,hz]
theorem OP(base n vb:Nat)(v l r:Value)(xs:List Value)(w:World)(hown:w.ownsRow base 236 2 v n xs)(hb:base<=w.heap.size)(hn:n<=1000000)(hl1:l.oneCell' = true)(hr1:r.oneCell' = true)(hvb:GB w vb 236 #[l,r]) :
  Calls Tryz.prog 237 #[v,.int .i64 n,.slice (some (aD vb 0)) 1 1] w fun e w'=>
   ∃ v',e=.returned v'/\w'.ownsRow base 236 2 v' (n+1) (xs++[l,r])/\Kept (fun b=>v.ownBlock≠some b) w w'/\(v'.ownBlock=v.ownBlock∨∃ g,v'.ownBlock=some g/\w.heap.size<=g):=by
 obtain⟨i0,hi0,hz0,hz1,hz2⟩:=ZU Tryz.xY;obtain⟨v',w',hr,ho,hg,hat⟩:=run_append_own_at (P:=Tryz.prog) w base 171 171 236 i0 _ 2 16 Tryz.underlying171 hi0 hz0 hz1 hz2 rfl (by decide) v n xs hown (aD vb 0) 1 1 [l,r] rfl
  (fun j u hj=>by rw[addr_add,QQ,hvb.cell]; simpa using hj) (fun u hu=>by simp at hu; rcases hu with rfl | rfl <;> assumption) (by unfold maxLen; omega) (by omega) hb
 have hrun:(Builtin.append_ #[171,170] 171 #[v,.slice (some (aD vb 0)) 1 1]).run Tryz.prog w=.ok v' w':=(He hi0 Tryz.underlying171 Tryz.underlying170 _ _ _).trans hr;have kX:Hid (∃ u,Ending.returned v' = .returned u/\w'.ownsRow base 236 2 u (n+1) (xs++[l,r])/\Kept (fun b=>v.ownBlock≠some b) w w'/\(u.ownBlock=v.ownBlock∨∃ g,u.ownBlock=some g/\w.heap.size<=g)):=⟨v',rfl,ho,ZM hg (fun r e hr=>hr e),by
  rcases hat.2 with h | h
  ·exact .inl h
  ·exact .inr ⟨_,h,Qx _⟩⟩
 obtain⟨Tg,vm',Ti,rfl⟩:=ZP ho;clear hr ho hg hat hvb hi0 hz0 hz1 hz2;rcases hown.2 with⟨rfl,rfl⟩ | ⟨g,cap,cur,rfl,-,-,hnc,hcm,-⟩
 ·clear hown;go_enter Tryz.func237,Tryz.ntmps237;go_wp2_with (at_builtin; refine Lib.wpList_append_run _ rfl _ _ _ _ rfl _ _ rfl rfl _ _ hrun ?_);go_ret;exact kX.o
 ·clear hown;go_enter Tryz.func237,Tryz.ntmps237;go_wp2_with (at_builtin; refine Lib.wpList_append_run _ rfl _ _ _ _ rfl _ _ rfl rfl _ _ hrun ?_)
  all_goals (go_ret; exact kX.o)
theorem KO(base g n cap i vb:Nat)(l r:Value)(xs:List Value)(w:World)(hown:w.ownsRow base 236 2 (.slice (some (aD g 0)) n cap) n xs)(hb:base<=w.heap.size)(hn:n<=1000000)(hx1:∀ u∈xs,u.oneCell' = true)(hl1:l.oneCell' = true)(hr1:r.oneCell' = true)(hi:i<n)(hroom:cap<n+1)(hvb:GB w vb 236 #[l,r]) :
  Calls Tryz.prog 237 #[.slice (some (aD g 0)) n cap,.int .i64 i,.slice (some (aD vb 0)) 1 1] w fun e w'=>
   ∃ G,e=.returned (.slice (some (aD w.heap.size 0)) (n+1) G)/\w'.ownsRow base 236 2 (.slice (some (aD w.heap.size 0)) (n+1) G) (n+1) (xs.take (i*2)++[l,r]++xs.drop (i*2))/\Bw w w':=by
 obtain⟨i0,hi0,hz0,hz1,hz2⟩:=ZU Tryz.xY;have hsz:(Tryz.prog.info? 236).map (·.size)=some 2:=by rw[hi0]; simp[hz1]
 obtain⟨hnc,hcm,hcell,hsome,hfz,hsh,hlt⟩:=kK hown;have hxl:=hown.1;have hcn:cap=n:=by omega
 subst hcn;have hik:i+(cap+1-i)=cap+1:=by omega
 have hkk:(cap:Int)+1-(i:Int)=((cap+1-i:Nat):Int):=by omega
 have hold:(Builtin.firstCells i0.size i (.slice (some (aD g 0)) i cap)).run Tryz.prog w.drew=.ok (xs.take (i*2)).toArray w.drew:=by
  rw[hz1];exact run_firstCells_some w.drew 2 i (aD g 0) i cap (xs.take (i*2)) (by rw[Zm]; omega) (fun j v hj=>by
   rw[addr_add,QQ];rw[ZY]at hj;split at hj
   ·exact hcell j v hj
   ·cases hj)
 have acT:=Lib.run_append_grow_zeros w 171 3 171 236 i0 _ .i64 .i64 Tryz.underlying171 Tryz.underlying3 hi0 hz0 (some (aD g 0)) i cap (xs.take (i*2)) hold (cap+1-i) (by omega) (by omega) (by omega) (by omega) (by rw[hz2]; omega) (by rw[hz2,hik]; exact growslice_fits (by omega) (by omega));rw[<- hkk,hik]at acT;obtain⟨G,hG⟩:=eY (grownCap w (cap+1) cap 236)
 obtain⟨ROW,hROW⟩:∃ ROW:Array Value,ROW=(xs.take (i*2)).toArray++Builtin.zeroCells (Value.agg #[.int .u64 0,.int .u64 0]).cells (cap+1-i)++Builtin.zeroCells (Value.agg #[.int .u64 0,.int .u64 0]).cells (G-(cap+1)):=⟨_,rfl⟩
 rw[<- hG,<- hROW]at acT;have hGn:cap+1<=G:=by rw[hG]; exact grownCap_ge w _ _ _
 have hGm:G<=maxLen:=by rw[hG]; exact grownCap_le_maxLen w _ _ _ (by unfold maxLen; omega)
 have hxt:(xs.take (i*2)).length=i*2:=by rw[Zm]; omega
 have hRl:ROW.size=G*2:=by
  rw[hROW];simp[Builtin.zeroCells,Value.cells,hxt];omega
 have hRt:ROW.toList.take (i*2)=xs.take (i*2):=by
  rw[hROW];rw[Array.append_assoc,Array.toList_append];exact List.take_left' hxt
 obtain⟨N1,hN1⟩:∃ W,W=w.drew.alloc (.cells ROW 236):=⟨_,rfl⟩
 rw[<- hN1]at acT;have hbl:N1.heap[w.heap.size]? = some (.cells ROW 236 (0,0)):=by rw[hN1]; exact l6 w.drew _
 have hB1:Bw w N1:=by rw[hN1]; exact((Qw _ _).drew).alloc (Qx _) _
 have ho1:N1.ownsRow base 236 2 (.slice (some (aD w.heap.size 0)) (cap+1) G) (cap+1) (ROW.toList.take ((cap+1)*2)):=
  ⟨by rw[Zm,Array.length_toList,hRl]; omega,.inr ⟨w.heap.size,G,ROW,rfl,hb,hbl,hGn,hGm,hRl,rfl⟩⟩
 have ho2:=gM (g:=w.heap.size) rfl [l,r] (i*2) ho1 (by simp; omega);have hdl:(xs.drop (i*2)).length=cap*2-i*2:=by rw[XT,hxl]
 obtain⟨_,_,_,sW,KM,_,_⟩:=kK ho1;obtain⟨_,_,_,OQ,sZ,_,_⟩:=kK ho2;obtain⟨N2,hN2⟩:∃ W,W=N1.setCells w.heap.size (i*2) [l,r]:=⟨_,rfl⟩
 rw[<- hN2]at ho2 OQ sZ;have hB2:Bw w N2:=by rw[hN2]; exact hB1.trans ((Kept.setCells (s:=fun b=>b<w.heap.size) (fun h=>Nat.lt_irrefl _ h) _ _ _).below hB1.size (fun _ h=>h))
 have ak2:N2.drew.ownsRow base 236 2 (.slice (some (aD w.heap.size 0)) (cap+1) G) (cap+1) _:=ho2;have ho3:=gM (g:=w.heap.size) rfl (xs.drop (i*2)) ((i+1)*2) ak2 (by rw[hdl]; omega);have YO:=hvb.keep (Zo (s:=fun b=>b<w.heap.size) hB1 (fun _ h _=>h)) hvb.lt;have hcpA:∀ ty dc,(Builtin.copy_ #[171,170] ty #[.slice (some (aD w.heap.size (i*2))) (cap+1-i) dc,.slice (some (aD vb 0)) 1 1]).run Tryz.prog N1=.ok (goInt (Nat.min 1 (cap+1-i))) N2:=fun ty dc=>by
  rw[hN2];exact uq N1 _ _ ty 236 2 w.heap.size (i*2) (cap+1-i) dc (aD vb 0) 1 1 [l,r] Tryz.underlying171 hsz (by simp only[Nat.min_def]; split <;> simp; omega)
   (fun j v hj=>by rw[addr_add,QQ,YO.cell]; simpa using hj)
   (fun j hj=>sW _ (by simp at hj; omega)) (fun j hj=>KM _) (fun v hv=>by simp at hv; rcases hv with rfl | rfl <;> assumption)
 obtain⟨N3,hN3⟩:∃ W,W=N2.drew.setCells w.heap.size ((i+1)*2) (xs.drop (i*2)):=⟨_,rfl⟩
 have hcpB:∀ ty dc sc,(Builtin.copy_ #[171,171] ty #[.slice (some (aD w.heap.size ((i+1)*2))) (cap-i) dc,.slice (some (aD g (i*2))) (cap-i) sc]).run Tryz.prog N2.drew=.ok (goInt (Nat.min (cap-i) (cap-i))) N3:=fun ty dc sc=>by
  rw[hN3];exact uq N2.drew _ _ ty 236 2 w.heap.size ((i+1)*2) (cap-i) dc (aD g (i*2)) (cap-i) sc (xs.drop (i*2)) Tryz.underlying171 hsz (by rw[hdl]; simp only[Nat.min_def]; split <;> omega)
   (fun j v hj=>by
    rw[addr_add];have h1:=hcell (i*2+j) v (by rwa [XQ]at hj);exact cB hB2.drew h1)
   (fun j hj=>OQ _ (by omega)) (fun j hj=>sZ _) (fun v hv=>hx1 v (List.mem_of_mem_drop hv))
 rw[<- hN3,UA l r hxl (by rw[Zm,Array.length_toList,hRl]; omega) hi (by rw[List.take_take,QK (by omega)]; exact hRt)]at ho3;have kX:Hid (N3.ownsRow base 236 2 (.slice (some (aD w.heap.size 0)) (cap+1) G) (cap+1) (xs.take (i*2)++[l,r]++xs.drop (i*2))/\Bw w N3):=⟨ho3,by rw[hN3]; exact hB2.drew.trans ((Kept.setCells (s:=fun b=>b<w.heap.size) (fun h=>Nat.lt_irrefl _ h) _ _ _).below (by exact hB2.size) (fun _ h=>h))⟩
 have hG63:G<=9223372036854775807:=by unfold maxLen at hGm; omega
 have hGi:¬ (G=i):=by omega
 have hGim:¬ (G=i+1):=by omega
 have hci:¬ (cap=i):=by omega
 have hw1:IntKind.i64.wrap ((i:Int)+1)=(i:Int)+1:=by rw[IntKind.wrap_i64]; omega
 have hb1:(0:Int)<=(i:Int)+1:=by omega
 have hb2:(i:Int)+1<=(cap:Int)+1:=by omega
 have htn:((i:Int)+1).toNat=i+1:=by omega
 have hb3:(i:Int)<=(cap:Int):=by omega
 clear hown ho1 ho2 ak2 ho3 hold hROW hRl hRt hN1 hN2 hN3 hbl hB1 hB2 hsome sW OQ hfz KM sZ hcell hvb YO hdl hxt hxl hx1 hsh hsz hi0 hz0 hz1 hz2 hG hik hkk hcm hGm;go_enter Tryz.func237,Tryz.ntmps237;go_wp2_with (first
  | (at_builtin; refine Lib.wpList_append_run _ rfl _ _ _ _ rfl _ _ rfl rfl _ _ acT ?_)
  | (at_builtin; refine wpList_copy_runI _ rfl _ _ 171 170 rfl _ _ rfl rfl (hcpA _ _) ?_))
 go_region_law (refine step_copy_runI rfl _ _ 171 171 rfl _ _ (by simp[Act.eval,Act.put]) (by simp[Act.eval,Act.put]) (hcpB _ _ _) ?_);go_wp2;go_ret;exact⟨G,rfl,kX.o⟩
theorem YP{zs:List Value}(hx:xs.length=(i+1+m)*2) :
  ((xs.take (i*2)++xs.drop ((i+1)*2)++xs.drop (i*2+(xs.drop ((i+1)*2)).length)).take ((i+m)*2)++zs++(xs.take (i*2)++xs.drop ((i+1)*2)++xs.drop (i*2+(xs.drop ((i+1)*2)).length)).drop ((i+m)*2+zs.length)).take ((i+m)*2)=xs.take (i*2)++xs.drop ((i+1)*2):=by
 have h1:(xs.take (i*2)++xs.drop ((i+1)*2)).length=(i+m)*2:=by rw[Zb,Zm,XT]; omega
 rw[List.take_left' h1,QO (xs.take (i*2)++xs.drop ((i+1)*2)) zs,List.take_left' h1]
theorem vT(ag:List bG)(i:Nat):(ag.flatMap dN).take (i*2)=(ag.take i).flatMap dN:=by
 induction ag generalizing i with
 | nil => simp
 | cons t ag ih =>
  cases i with
  | zero => simp
  | succ i =>
   rw[List.take_succ_cons,QM,QM,<- ih i]
   show (dN t++_).take _=_
   rw[show (i+1)*2=(dN t).length+i*2 by show _=2+_; omega,List.take_length_add_append]
theorem vU(ag:List bG)(i:Nat):(ag.flatMap dN).drop (i*2)=(ag.drop i).flatMap dN:=by
 induction ag generalizing i with
 | nil => simp
 | cons t ag ih =>
  cases i with
  | zero => simp
  | succ i =>
   rw[List.drop_succ_cons,QM,<- ih i]
   show (dN t++_).drop _=_
   rw[show (i+1)*2=(dN t).length+i*2 by show _=2+_; omega,List.drop_length_add_append]
theorem CE(ag:List bG):∀ u∈ag.flatMap dN,u.oneCell' = true:=by
 intro u hu;obtain⟨t,_,h⟩:=XC.1 hu;unfold dN at h;simp at h;rcases h with rfl | rfl <;> rfl
theorem YQ(ag:List bG)(i:Nat)(t:bG):(ag.flatMap dN).take (i*2)++dN t++(ag.flatMap dN).drop (i*2)=(ag.take i++t::ag.drop i).flatMap dN:=by
 rw[vT,vU,Za,QM,QO]
theorem YR(ag:List bG)(i:Nat):(ag.flatMap dN).take (i*2)++(ag.flatMap dN).drop ((i+1)*2)=(ag.eraseIdx i).flatMap dN:=by
 rw[vT,vU,<- Za,List.eraseIdx_eq_take_drop_succ]
theorem KQ(base i vb:Nat)(v:Value)(ag:List bG)(t:bG)(w:World)(hown:w.ownsRow base 236 2 v ag.length (ag.flatMap dN))(hb:base<=w.heap.size)(hl:ag.length<=1000000)(hi:i<=ag.length)(hvb:GB w vb 236 #[.int .u64 (t.1:Int),.int .u64 (t.2:Int)])(hne:v.ownBlock≠some vb) :
  Calls Tryz.prog 237 #[v,.int .i64 (i:Int),.slice (some (aD vb 0)) 1 1] w fun e w'=>
   ∃ v',e=.returned v'/\w'.ownsRow base 236 2 v' (ag.take i++t::ag.drop i).length ((ag.take i++t::ag.drop i).flatMap dN)/\Kept (fun b=>v.ownBlock≠some b) w w'/\(v'.ownBlock=v.ownBlock∨∃ g,v'.ownBlock=some g/\w.heap.size<=g):=by
 have hlen:(ag.take i++t::ag.drop i).length=ag.length+1:=by
  rw[Zb,Zm,Zg,XT];omega
 rw[hlen,<- YQ];by_cases hin:i=ag.length
 ·subst hin;have hx:(ag.flatMap dN).take (ag.length*2)++dN t++(ag.flatMap dN).drop (ag.length*2)=ag.flatMap dN++[.int .u64 (t.1:Int),.int .u64 (t.2:Int)]:=by
   rw[vT,vU,QA,List.drop_length];simp[dN]
  rw[hx];exact OP base ag.length vb v _ _ _ w hown hb hl rfl rfl hvb
 ·rcases hown.2 with⟨_,h0⟩ | ⟨g,cap,cur,rfl,-⟩
  ·omega
  by_cases hroom:ag.length+1<=cap
  ·refine(Hf base g ag.length cap i vb _ _ _ w hown (CE ag) rfl rfl (by omega) hroom hvb (fun e=>hne (by rw[e]; rfl))).mono ?_;rintro e w' ⟨rfl,h1,h2⟩;exact⟨_,rfl,h1,h2.mono (fun b _ h e=>h (by rw[e]; rfl)),.inl rfl⟩
  ·refine(KO base g ag.length cap i vb _ _ _ w hown hb hl (CE ag) rfl rfl (by omega) (by omega) hvb).mono ?_;rintro e w' ⟨G,rfl,h1,h2⟩;exact⟨_,rfl,h1,Zo h2 (fun _ h _=>h),.inr ⟨_,rfl,Qx _⟩⟩
theorem KR(base g cap i m:Nat)(xs:List Value)(w:World)(hown:w.ownsRow base 236 2 (.slice (some (aD g 0)) (i+1+m) cap) (i+1+m) xs)(hx1:∀ u∈xs,u.oneCell' = true)(hm:i+1+m<=1000000) :
  Calls Tryz.prog 244 #[.slice (some (aD g 0)) (i+1+m) cap,.int .i64 (i:Int),.int .i64 ((i:Int)+1)] w fun e w'=>
   e=.returned (.slice (some (aD g 0)) (i+m) cap)/\w'.ownsRow base 236 2 (.slice (some (aD g 0)) (i+m) cap) (i+m) (xs.take (i*2)++xs.drop ((i+1)*2))/\Kept (fun b=>b≠g) w w':=by
 obtain⟨i0,hi0,hz0,hz1,hz2⟩:=ZU Tryz.xY;obtain⟨hnc,hcm,hcell,hsome,hfz,hsh,hlt⟩:=kK hown;have hxl:=hown.1;have hcm2:cap<=9223372036854775807:=by unfold maxLen at hcm; omega
 obtain⟨news,hnews⟩:=eY (xs.drop ((i+1)*2))
 have hlen:news.length=m*2:=by rw[hnews,XT,hxl]; omega
 obtain⟨A,hA,hsrc⟩:∃ A:Addr,(if cap=i+1 then some ((aD g 0):Addr) else some (aD g ((i+1)*2)))=some A/\Hid (∀ t u,news[t]? = some u->w.drew.cell? (A.add t)=some u):=by
  by_cases h:cap=i+1
  ·refine⟨(aD g 0),by simp[h],fun t u hu=>?_⟩;have h0:=QL (by rw[hlen]; omega);rw[h0]at hu;simp at hu
  ·refine⟨(aD g ((i+1)*2)),by simp[h],fun t u hu=>?_⟩;rw[hnews,XQ]at hu;rw[addr_add];exact hcell _ _ hu
 have s1:=Zh hlen;have s2:Hid (∀ u∈news,u.oneCell' = true):=fun u hu=>by rw[hnews]at hu; exact hx1 u (List.mem_of_mem_drop hu)
 have s3:Hid (∀ t,t<news.length->(w.drew.cell? (aD g (0+i*2+t))).isSome=true/\w.drew.frozen? (aD g (0+i*2+t))=false):=fun t ht=>by
  rw[hlen]at ht;rw[QQ];exact⟨hsome _ (by omega),hfz _⟩
 obtain⟨W1,hW1⟩:=eY (w.drew.setCells g (0+i*2) news)
 have hown0:w.drew.ownsRow base 236 2 (.slice (some (aD g 0)) (i+1+m) cap) (i+1+m) xs:=hown;have ho1:=gM (v:=.slice (some (aD g 0)) (i+1+m) cap) (g:=g) rfl news (0+i*2) hown0 (by rw[hlen]; omega);rw[<- hW1,QQ]at ho1;have hk1:Kept (fun b=>b≠g) w W1:=by rw[hW1]; exact(Kept.ae8 w).trans (Kept.setCells (fun h=>h rfl) _ _ _)
 obtain⟨_,_,_,sW,KM,_,_⟩:=kK ho1;have hzv:∀ W,(zeroValue 236).run Tryz.prog W=.ok (.agg #[.int .u64 0,.int .u64 0]) W:=fun W=>by simp[zeroValue,typeInfo,hi0,hz0]
 obtain⟨zs,hzs⟩:∃ zs:List Value,zs=[.int .u64 0,.int .u64 0]:=⟨_,rfl⟩
 have hzl:zs.length=2:=by rw[hzs]; rfl
 have hcl:∀ ty c,(Builtin.clear_ #[171] ty #[.slice (some (aD g ((i+m)*2))) 1 c]).run Tryz.prog W1=.ok (.tuple #[]) (W1.setCells g ((i+m)*2) zs):=fun ty c=>
  Ou W1 171 236 ty _ Tryz.underlying171 hzv zs (by rw[hzs]; kernel_rfl) (fun u hu=>by rw[hzs]at hu; simp at hu; rcases hu with rfl | rfl <;> rfl) g ((i+m)*2) c (fun j hj=>sW _ (by omega)) (fun j hj=>KM _)
 obtain⟨W2,hW2⟩:=eY (W1.setCells g ((i+m)*2) zs)
 have ho2:=gM (v:=.slice (some (aD g 0)) (i+1+m) cap) (g:=g) rfl zs ((i+m)*2) ho1 (by rw[hzl]; omega);rw[<- hW2]at ho2 hcl;have ho3:=acD ho2 (m:=i+m) (by omega);rw[hnews,YP hxl]at ho3;have kX:Hid (W2.ownsRow base 236 2 (.slice (some (aD g 0)) (i+m) cap) (i+m) (xs.take (i*2)++xs.drop ((i+1)*2))/\Kept (fun b=>b≠g) w W2):=⟨ho3,hk1.trans (by rw[hW2]; exact Kept.setCells (fun h=>h rfl) _ _ _)⟩
 have HW:=Zh hW1;have hsb:i+1+m-(i+1)=m:=by omega
 have ayA:i+1+m-(i+m)=1:=by omega
 have hic:i<=cap:=by omega
 have hjc:i+1<=cap:=by omega
 have hb1:(0:Int)<=(i:Int)+1:=by omega
 have htn:((i:Int)+1).toNat=i+1:=by omega
 have iZ:(i:Int)+1<=(i:Int)+1+(m:Int):=by omega
 clear hown hown0 ho1 ho2 ho3 hk1 hW1 hW2 hsome sW hfz KM hcell hlen hnews hxl hx1 hzv hzs hzl hsh hlt hcm;go_enter Tryz.func244,Tryz.ntmps244;go_wp2_with fail;go_region_law (refine step_append_room rfl (.tmp 22) (.tmp 25) 171 rfl 236 i0 2 Tryz.underlying171 hi0 hz1 g 0 i cap (by simp[Act.eval,Act.put]) A m (cap-(i+1)) news (by simp[Act.eval,Act.put]) s1.o hsrc.o s2.o (by omega) s3.o ?_; rw[<- HW.o]);go_wp2;go_ret;exact⟨rfl,kX.o⟩
def bA(s:Nat):Int:=((aR s).length:Int)
theorem vV(l r:Nat)(w:World) :
  Cb 239 #[.agg #[.int .u64 (l:Int),.int .u64 (r:Int)]] w (.bool (decide (r=0))):=by
 obtain⟨w1,hw1⟩:∃ x,w.alloc (.cells #[.int .u64 (l:Int),.int .u64 (r:Int)] 236)=x:=⟨_,rfl⟩
 have HB1:Hid (Bw w w1):=by show Below _ _ _; rw[<- hw1]; exact dn _ _
 have c1:w1.cell? (aD w.heap.size 1)=some (.int .u64 (r:Int)):=by rw[<- hw1]; simp
 go_enter Tryz.func239,Tryz.ntmps239;go_wp2;go_ret;exact⟨Qg (by rw[QI,beq_iff_eq,QJ]; omega),HB1.o⟩
theorem CF(a:Int)(w:World):Ce 341 #[.int .i64 a] w (.bool false):=by
 go_enter Tryz.func341,Tryz.ntmps341;go_wp2;go_ret;exact⟨Qg (by simp),rfl⟩
theorem CG(a:Nat)(w:World):Ce 343 #[.int .u64 (a:Int)] w (.bool false):=by
 go_enter Tryz.func343,Tryz.ntmps343;go_wp2;go_ret;exact⟨Qg (by simp),rfl⟩
theorem Hg(a b:Int)(w:World):Ce 297 #[.int .i64 a,.int .i64 b] w (.int .i64 (nT a b)):=by
 have h1:=CF a w;have h2:=CF b w;have HR:Hid (nT a b=if a<b then -1 else if b<a then 1 else 0):=rfl;generalize nT a b=R at *;go_enter Tryz.func297,Tryz.ntmps297;go_wp2_with fail;refine h1.mono ?_;rintro e w2 ⟨rfl,hw2⟩;have hw2:=hw2.symm;subst hw2;go_wp2_with fail;refine h2.mono ?_;rintro e w2 ⟨rfl,hw2⟩;have hw2:=hw2.symm;subst hw2;by_cases hlt:a<b
 ·have HV:Hid (R = -1):=by show _=_; rw[HR.o,Qy hlt]
  have hb:=QD hlt;go_wp2;go_ret;exact⟨Qh (by rw[HV.o]),rfl⟩
 ·by_cases hgt:b<a
  ·have HV:Hid (R=1):=by show _=_; rw[HR.o,Qz hlt,Qy hgt]
   have hb:=Ql hlt;have hb2:=QD hgt;go_wp2;go_ret;exact⟨Qh (by rw[HV.o]),rfl⟩
  ·have HV:Hid (R=0):=by show _=_; rw[HR.o,Qz hlt,Qz hgt]
   have hb:=Ql hlt;have hb2:=Ql hgt;go_wp2;go_ret;exact⟨Qh (by rw[HV.o]),rfl⟩
theorem xZ(a b:Nat)(w:World):Ce 299 #[.int .u64 (a:Int),.int .u64 (b:Int)] w (.int .i64 (nT (a:Int) (b:Int))):=by
 have h1:=CG a w;have h2:=CG b w;have HR:Hid (nT (a:Int) (b:Int)=if a<b then -1 else if b<a then 1 else 0):=by
  show _=_
  unfold nT;simp only[Int.ofNat_lt]
 generalize nT (a:Int) (b:Int)=R at *;go_enter Tryz.func299,Tryz.ntmps299;go_wp2_with fail;refine h1.mono ?_;rintro e w2 ⟨rfl,hw2⟩;have hw2:=hw2.symm;subst hw2;go_wp2_with fail;refine h2.mono ?_;rintro e w2 ⟨rfl,hw2⟩;have hw2:=hw2.symm;subst hw2;by_cases hlt:a<b
 ·have HV:Hid (R = -1):=by show _=_; rw[HR.o,Qy hlt]
  have hb:=QD hlt;go_wp2;go_ret;exact⟨Qh (by rw[HV.o]),rfl⟩
 ·by_cases hgt:b<a
  ·have HV:Hid (R=1):=by show _=_; rw[HR.o,Qz hlt,Qy hgt]
   have hb:=Ql hlt;have hb2:=QD hgt;go_wp2;go_ret;exact⟨Qh (by rw[HV.o]),rfl⟩
  ·have HV:Hid (R=0):=by show _=_; rw[HR.o,Qz hlt,Qz hgt]
   have hb:=Ql hlt;have hb2:=Ql hgt;go_wp2;go_ret;exact⟨Qh (by rw[HV.o]),rfl⟩
theorem ak3(w:World):Ce 386 #[.int .u64 ((0:Nat):Int)] w (.int .i64 (bA 0)):=by
 have HR:Hid (bA 0=0):=by show _=_; decide
 generalize bA 0=R at *;go_enter Tryz.func386,Tryz.ntmps386;go_wp2;go_ret;exact⟨Qh (by rw[HR.o]; kernel_rfl),rfl⟩
theorem ak4(w:World):Ce 386 #[.int .u64 ((1:Nat):Int)] w (.int .i64 (bA 1)):=by
 have HR:Hid (bA 1=1):=by show _=_; decide
 generalize bA 1=R at *;go_enter Tryz.func386,Tryz.ntmps386;go_wp2;go_ret;exact⟨Qh (by rw[HR.o]; kernel_rfl),rfl⟩
theorem ak5(w:World):Ce 386 #[.int .u64 ((2:Nat):Int)] w (.int .i64 (bA 2)):=by
 have HR:Hid (bA 2=1):=by show _=_; decide
 generalize bA 2=R at *;go_enter Tryz.func386,Tryz.ntmps386;go_wp2;go_ret;exact⟨Qh (by rw[HR.o]; kernel_rfl),rfl⟩
theorem ak6(w:World):Ce 386 #[.int .u64 ((3:Nat):Int)] w (.int .i64 (bA 3)):=by
 have HR:Hid (bA 3=2):=by show _=_; decide
 generalize bA 3=R at *;go_enter Tryz.func386,Tryz.ntmps386;go_wp2;go_ret;exact⟨Qh (by rw[HR.o]; kernel_rfl),rfl⟩
theorem ak7(w:World):Ce 386 #[.int .u64 ((4:Nat):Int)] w (.int .i64 (bA 4)):=by
 have HR:Hid (bA 4=1):=by show _=_; decide
 generalize bA 4=R at *;go_enter Tryz.func386,Tryz.ntmps386;go_wp2;go_ret;exact⟨Qh (by rw[HR.o]; kernel_rfl),rfl⟩
theorem ak8(w:World):Ce 386 #[.int .u64 ((5:Nat):Int)] w (.int .i64 (bA 5)):=by
 have HR:Hid (bA 5=2):=by show _=_; decide
 generalize bA 5=R at *;go_enter Tryz.func386,Tryz.ntmps386;go_wp2;go_ret;exact⟨Qh (by rw[HR.o]; kernel_rfl),rfl⟩
theorem ak9(w:World):Ce 386 #[.int .u64 ((6:Nat):Int)] w (.int .i64 (bA 6)):=by
 have HR:Hid (bA 6=2):=by show _=_; decide
 generalize bA 6=R at *;go_enter Tryz.func386,Tryz.ntmps386;go_wp2;go_ret;exact⟨Qh (by rw[HR.o]; kernel_rfl),rfl⟩
theorem ala(w:World):Ce 386 #[.int .u64 ((7:Nat):Int)] w (.int .i64 (bA 7)):=by
 have HR:Hid (bA 7=3):=by show _=_; decide
 generalize bA 7=R at *;go_enter Tryz.func386,Tryz.ntmps386;go_wp2;go_ret;exact⟨Qh (by rw[HR.o]; kernel_rfl),rfl⟩
theorem alb(w:World):Ce 386 #[.int .u64 ((8:Nat):Int)] w (.int .i64 (bA 8)):=by
 have HR:Hid (bA 8=1):=by show _=_; decide
 generalize bA 8=R at *;go_enter Tryz.func386,Tryz.ntmps386;go_wp2;go_ret;exact⟨Qh (by rw[HR.o]; kernel_rfl),rfl⟩
theorem alc(w:World):Ce 386 #[.int .u64 ((9:Nat):Int)] w (.int .i64 (bA 9)):=by
 have HR:Hid (bA 9=2):=by show _=_; decide
 generalize bA 9=R at *;go_enter Tryz.func386,Tryz.ntmps386;go_wp2;go_ret;exact⟨Qh (by rw[HR.o]; kernel_rfl),rfl⟩
theorem agY(w:World):Ce 386 #[.int .u64 ((10:Nat):Int)] w (.int .i64 (bA 10)):=by
 have HR:Hid (bA 10=2):=by show _=_; decide
 generalize bA 10=R at *;go_enter Tryz.func386,Tryz.ntmps386;go_wp2;go_ret;exact⟨Qh (by rw[HR.o]; kernel_rfl),rfl⟩
theorem agZ(w:World):Ce 386 #[.int .u64 ((11:Nat):Int)] w (.int .i64 (bA 11)):=by
 have HR:Hid (bA 11=3):=by show _=_; decide
 generalize bA 11=R at *;go_enter Tryz.func386,Tryz.ntmps386;go_wp2;go_ret;exact⟨Qh (by rw[HR.o]; kernel_rfl),rfl⟩
theorem ag0(w:World):Ce 386 #[.int .u64 ((12:Nat):Int)] w (.int .i64 (bA 12)):=by
 have HR:Hid (bA 12=2):=by show _=_; decide
 generalize bA 12=R at *;go_enter Tryz.func386,Tryz.ntmps386;go_wp2;go_ret;exact⟨Qh (by rw[HR.o]; kernel_rfl),rfl⟩
theorem ag1(w:World):Ce 386 #[.int .u64 ((13:Nat):Int)] w (.int .i64 (bA 13)):=by
 have HR:Hid (bA 13=3):=by show _=_; decide
 generalize bA 13=R at *;go_enter Tryz.func386,Tryz.ntmps386;go_wp2;go_ret;exact⟨Qh (by rw[HR.o]; kernel_rfl),rfl⟩
theorem ag2(w:World):Ce 386 #[.int .u64 ((14:Nat):Int)] w (.int .i64 (bA 14)):=by
 have HR:Hid (bA 14=3):=by show _=_; decide
 generalize bA 14=R at *;go_enter Tryz.func386,Tryz.ntmps386;go_wp2;go_ret;exact⟨Qh (by rw[HR.o]; kernel_rfl),rfl⟩
theorem ag3(w:World):Ce 386 #[.int .u64 ((15:Nat):Int)] w (.int .i64 (bA 15)):=by
 have HR:Hid (bA 15=4):=by show _=_; decide
 generalize bA 15=R at *;go_enter Tryz.func386,Tryz.ntmps386;go_wp2;go_ret;exact⟨Qh (by rw[HR.o]; kernel_rfl),rfl⟩
theorem ag4(w:World):Ce 386 #[.int .u64 ((16:Nat):Int)] w (.int .i64 (bA 16)):=by
 have HR:Hid (bA 16=1):=by show _=_; decide
 generalize bA 16=R at *;go_enter Tryz.func386,Tryz.ntmps386;go_wp2;go_ret;exact⟨Qh (by rw[HR.o]; kernel_rfl),rfl⟩
theorem ag5(w:World):Ce 386 #[.int .u64 ((17:Nat):Int)] w (.int .i64 (bA 17)):=by
 have HR:Hid (bA 17=2):=by show _=_; decide
 generalize bA 17=R at *;go_enter Tryz.func386,Tryz.ntmps386;go_wp2;go_ret;exact⟨Qh (by rw[HR.o]; kernel_rfl),rfl⟩
theorem ag6(w:World):Ce 386 #[.int .u64 ((18:Nat):Int)] w (.int .i64 (bA 18)):=by
 have HR:Hid (bA 18=2):=by show _=_; decide
 generalize bA 18=R at *;go_enter Tryz.func386,Tryz.ntmps386;go_wp2;go_ret;exact⟨Qh (by rw[HR.o]; kernel_rfl),rfl⟩
theorem ag7(w:World):Ce 386 #[.int .u64 ((19:Nat):Int)] w (.int .i64 (bA 19)):=by
 have HR:Hid (bA 19=3):=by show _=_; decide
 generalize bA 19=R at *;go_enter Tryz.func386,Tryz.ntmps386;go_wp2;go_ret;exact⟨Qh (by rw[HR.o]; kernel_rfl),rfl⟩
theorem ag8(w:World):Ce 386 #[.int .u64 ((20:Nat):Int)] w (.int .i64 (bA 20)):=by
 have HR:Hid (bA 20=2):=by show _=_; decide
 generalize bA 20=R at *;go_enter Tryz.func386,Tryz.ntmps386;go_wp2;go_ret;exact⟨Qh (by rw[HR.o]; kernel_rfl),rfl⟩
theorem ag9(w:World):Ce 386 #[.int .u64 ((21:Nat):Int)] w (.int .i64 (bA 21)):=by
 have HR:Hid (bA 21=3):=by show _=_; decide
 generalize bA 21=R at *;go_enter Tryz.func386,Tryz.ntmps386;go_wp2;go_ret;exact⟨Qh (by rw[HR.o]; kernel_rfl),rfl⟩
theorem aha(w:World):Ce 386 #[.int .u64 ((22:Nat):Int)] w (.int .i64 (bA 22)):=by
 have HR:Hid (bA 22=3):=by show _=_; decide
 generalize bA 22=R at *;go_enter Tryz.func386,Tryz.ntmps386;go_wp2;go_ret;exact⟨Qh (by rw[HR.o]; kernel_rfl),rfl⟩
theorem ahb(w:World):Ce 386 #[.int .u64 ((23:Nat):Int)] w (.int .i64 (bA 23)):=by
 have HR:Hid (bA 23=4):=by show _=_; decide
 generalize bA 23=R at *;go_enter Tryz.func386,Tryz.ntmps386;go_wp2;go_ret;exact⟨Qh (by rw[HR.o]; kernel_rfl),rfl⟩
theorem ahc(w:World):Ce 386 #[.int .u64 ((24:Nat):Int)] w (.int .i64 (bA 24)):=by
 have HR:Hid (bA 24=2):=by show _=_; decide
 generalize bA 24=R at *;go_enter Tryz.func386,Tryz.ntmps386;go_wp2;go_ret;exact⟨Qh (by rw[HR.o]; kernel_rfl),rfl⟩
theorem ahd(w:World):Ce 386 #[.int .u64 ((25:Nat):Int)] w (.int .i64 (bA 25)):=by
 have HR:Hid (bA 25=3):=by show _=_; decide
 generalize bA 25=R at *;go_enter Tryz.func386,Tryz.ntmps386;go_wp2;go_ret;exact⟨Qh (by rw[HR.o]; kernel_rfl),rfl⟩
theorem ahe(w:World):Ce 386 #[.int .u64 ((26:Nat):Int)] w (.int .i64 (bA 26)):=by
 have HR:Hid (bA 26=3):=by show _=_; decide
 generalize bA 26=R at *;go_enter Tryz.func386,Tryz.ntmps386;go_wp2;go_ret;exact⟨Qh (by rw[HR.o]; kernel_rfl),rfl⟩
theorem ahf(w:World):Ce 386 #[.int .u64 ((27:Nat):Int)] w (.int .i64 (bA 27)):=by
 have HR:Hid (bA 27=4):=by show _=_; decide
 generalize bA 27=R at *;go_enter Tryz.func386,Tryz.ntmps386;go_wp2;go_ret;exact⟨Qh (by rw[HR.o]; kernel_rfl),rfl⟩
theorem ahg(w:World):Ce 386 #[.int .u64 ((28:Nat):Int)] w (.int .i64 (bA 28)):=by
 have HR:Hid (bA 28=3):=by show _=_; decide
 generalize bA 28=R at *;go_enter Tryz.func386,Tryz.ntmps386;go_wp2;go_ret;exact⟨Qh (by rw[HR.o]; kernel_rfl),rfl⟩
theorem ahh(w:World):Ce 386 #[.int .u64 ((29:Nat):Int)] w (.int .i64 (bA 29)):=by
 have HR:Hid (bA 29=4):=by show _=_; decide
 generalize bA 29=R at *;go_enter Tryz.func386,Tryz.ntmps386;go_wp2;go_ret;exact⟨Qh (by rw[HR.o]; kernel_rfl),rfl⟩
theorem ahi(w:World):Ce 386 #[.int .u64 ((30:Nat):Int)] w (.int .i64 (bA 30)):=by
 have HR:Hid (bA 30=4):=by show _=_; decide
 generalize bA 30=R at *;go_enter Tryz.func386,Tryz.ntmps386;go_wp2;go_ret;exact⟨Qh (by rw[HR.o]; kernel_rfl),rfl⟩
theorem ahj(w:World):Ce 386 #[.int .u64 ((31:Nat):Int)] w (.int .i64 (bA 31)):=by
 have HR:Hid (bA 31=5):=by show _=_; decide
 generalize bA 31=R at *;go_enter Tryz.func386,Tryz.ntmps386;go_wp2;go_ret;exact⟨Qh (by rw[HR.o]; kernel_rfl),rfl⟩
theorem AY(s:Nat)(hs:s<32)(w:World):Ce 386 #[.int .u64 (s:Int)] w (.int .i64 (bA s)):=by
 have h:s=0∨s=1∨s=2∨s=3∨s=4∨s=5∨s=6∨s=7∨s=8∨s=9∨s=10∨s=11∨s=12∨s=13∨s=14∨s=15∨s=16∨s=17∨s=18∨s=19∨s=20∨s=21∨s=22∨s=23∨s=24∨s=25∨s=26∨s=27∨s=28∨s=29∨s=30∨s=31:=by omega
 rcases h with rfl | rfl | rfl | rfl | rfl | rfl | rfl | rfl | rfl | rfl | rfl | rfl | rfl | rfl | rfl | rfl | rfl | rfl | rfl | rfl | rfl | rfl | rfl | rfl | rfl | rfl | rfl | rfl | rfl | rfl | rfl | rfl
 ·exact ak3 w
 ·exact ak4 w
 ·exact ak5 w
 ·exact ak6 w
 ·exact ak7 w
 ·exact ak8 w
 ·exact ak9 w
 ·exact ala w
 ·exact alb w
 ·exact alc w
 ·exact agY w
 ·exact agZ w
 ·exact ag0 w
 ·exact ag1 w
 ·exact ag2 w
 ·exact ag3 w
 ·exact ag4 w
 ·exact ag5 w
 ·exact ag6 w
 ·exact ag7 w
 ·exact ag8 w
 ·exact ag9 w
 ·exact aha w
 ·exact ahb w
 ·exact ahc w
 ·exact ahd w
 ·exact ahe w
 ·exact ahf w
 ·exact ahg w
 ·exact ahh w
 ·exact ahi w
 ·exact ahj w
theorem Hl(s:Nat)(hs:s<32)(w:World):Ce 342 #[.int .u64 (s:Int)] w (.int .i64 (bA s)):=by
 have h64:=AY s hs w;generalize bA s=R at *;have hO:Ce 373 #[.int .u64 (s:Int)] w (.int .i64 R):=by
  go_enter Tryz.func373,Tryz.ntmps373;go_wp2_with fail;refine h64.mono ?_;rintro e w2 ⟨rfl,rfl⟩;go_wp2;go_ret;exact⟨rfl,rfl⟩
 go_enter Tryz.func342,Tryz.ntmps342;go_wp2_with fail;refine hO.mono ?_;rintro e w2 ⟨rfl,rfl⟩;go_wp2;go_ret;exact⟨rfl,rfl⟩
theorem acV(b:Nat)(x y z:Int)(w:World)(h0:w.cell? (aD b 0)=some (.int .i64 x))(h1:w.cell? (aD b 1)=some (.int .i64 y))(h2:w.cell? (aD b 2)=some (.int .i64 z)) :
  Ce 296 #[.slice (some (aD b 0)) 3 3] w (.int .i64 (if x≠0 then x else if y≠0 then y else z)):=by
 obtain⟨R,hR⟩:=eY (if x≠0 then x else if y≠0 then y else z)
 rw[<- hR];have HR:=Zh hR;clear hR;obtain⟨L,hL⟩:∃ L:List Int,L=[x,y,z]:=⟨_,rfl⟩
 have HC:Hid (∀ k,k<3->w.cell? (aD b k)=some (.int .i64 (L.getD k 0))):=fun k hk=>by
  rw[hL]
  match k,hk with
  | 0,_ => exact h0
  | 1,_ => exact h1
  | 2,_ => exact h2
 have HV:Hid (∀ k,k<3->(∀ j,j<k->L.getD j 0=0)->L.getD k 0≠0->L.getD k 0=R):=fun k hk hj hn=>by
  rw[HR.o];rw[hL]at hj hn ⊢
  match k,hk with
  | 0,_ =>
   have hn:x≠0:=hn
   show x=_
   rw[Qy hn]
  | 1,_ =>
   have e0:x=0:=hj 0 (by omega);have hn:y≠0:=hn
   show y=_
   rw[Qz (not_not_intro e0),Qy hn]
  | 2,_ =>
   have e0:x=0:=hj 0 (by omega);have e1:y=0:=hj 1 (by omega)
   show z=_
   rw[Qz (not_not_intro e0),Qz (not_not_intro e1)]
 have HZ:Hid ((∀ j,j<3->L.getD j 0=0)->R=0):=fun hj=>by
  rw[hL]at hj;have e0:x=0:=hj 0 (by omega);have e1:y=0:=hj 1 (by omega);have e2:z=0:=hj 2 (by omega);rw[HR.o,e0,e1,e2];simp
 clear h0 h1 h2 hL HR;go_enter Tryz.func296,Tryz.ntmps296;go_wp2;go_loop [8] (fun i=>∃ k:Nat,k<=3/\i=.int .i64 (k:Int)/\Hid (∀ j,j<k->L.getD j 0=0)) (fun i=>3-(intOf i).toNat)
 case atStart=>exact⟨0,by omega,rfl,fun j hj=>by omega⟩
 case round=>
  obtain⟨k,hk,rfl,HJ⟩:=hrel;by_cases hlt:k<3
  ·have hc:=HC.o k hlt;have HVk:=Zh (HV.o k hlt HJ.o);obtain⟨v,hv⟩:=eY (L.getD k 0)
   rw[<- hv]at hc HVk;have HVV:=Zh hv;clear hv;by_cases hv0:v=0
   ·have HV0:=Zh hv0;have hb:(v != 0)=false:=by simp[hv0]
    clear hv0;go_wp2;go_round
    case rel=>exact⟨k+1,by omega,by go_num,fun j hj=>by
     rcases Nat.lt_or_eq_of_le (Nat.le_of_lt_succ hj) with h | h
     ·exact HJ.o j h
     ·rw[h,<- HVV.o]; exact HV0.o⟩
    case measure=>simp[intOf]; omega
   ·have HVR:=Zh (HVk.o hv0);have hb:(v != 0)=true:=by simp[hv0]
    clear HVk;go_wp2;go_ret;exact⟨Qh HVR.o,rfl⟩
  ·have hk3:k=3:=by omega
   have HF:=Zh (HZ.o (by rw[<- hk3]; exact HJ.o));clear hk3;go_wp2;go_ret;exact⟨Qh HF.o.symm,rfl⟩
theorem KS(l r:Nat)(hl:l<32)(hr:r<32)(w:World) :
  Cb 298 #[.agg #[.int .u64 (l:Int),.int .u64 (r:Int)]] w (.int .i64 (lC bA (l,r))):=by
 obtain⟨w1,hw1⟩:∃ x,w.alloc (.cells #[.int .u64 (l:Int),.int .u64 (r:Int)] 236)=x:=⟨_,rfl⟩
 have hb1:Bw w w1:=by rw[<- hw1]; exact dn _ _
 have c0:w1.cell? (aD w.heap.size 0)=some (.int .u64 (l:Int)):=by rw[<- hw1]; simp
 have c1:w1.cell? (aD w.heap.size 1)=some (.int .u64 (r:Int)):=by rw[<- hw1]; simp
 have hSC:=vV l r w1;have HB1:=Zh hb1;have HR:Hid (lC bA (l,r)=if r=0 then 6 else bA (l|||r)):=rfl;have hor:l|||r<32:=sJ (n:=5) hl hr
 generalize lC bA (l,r)=R at *;clear hb1;by_cases h0:r=0
 ·have HV:Hid (R=6):=by show _=_; rw[HR.o,Qy h0]
  rw[QD h0]at hSC;clear h0 HR;go_enter Tryz.func298,Tryz.ntmps298;go_wp2_with fail;refine hSC.mono ?_;rintro e w2 ⟨rfl,hb2⟩;have HB2:=Zh (aA HB1.o hb2);clear hSC hb2 hw1;go_wp2;go_ret;exact⟨Qh HV.o.symm,HB2.o⟩
 ·have HV:Hid (R=bA (l|||r)):=by show _=_; rw[HR.o,Qz h0]
  rw[Ql h0]at hSC;clear h0 HR;go_enter Tryz.func298,Tryz.ntmps298;go_wp2_with fail;refine hSC.mono ?_;rintro e w2 ⟨rfl,hb2⟩;have HB2:=Zh (aA HB1.o hb2);have d0:=cB hb2 c0;have d1:=cB hb2 c1;obtain⟨w3,hw3⟩:∃ x,w2.alloc (.cells #[.int .u64 (l:Int),.int .u64 (r:Int)] 86)=x:=⟨_,rfl⟩
  have HB3:Hid (Bw w w3):=aA HB2.o (by rw[<- hw3]; exact dn _ _);have hUN:=jM w2.heap.size l r w3 (by rw[<- hw3]; simp) (by rw[<- hw3]; simp) (by omega) (by omega);have Yb:=Hl (l|||r) hor w3;rw[<- HV.o]at Yb;generalize l|||r=lr at *
  clear hSC hb2 hw1 c0 c1 HV;go_wp2_with fail;refine hUN.mono ?_;rintro e w4 ⟨rfl,hw4⟩;have hw4:=hw4.symm;subst hw4;go_wp2_with fail;refine Yb.mono ?_;rintro e w4 ⟨rfl,hw4⟩;have hw4:=hw4.symm;subst hw4;clear hUN Yb hw3;go_wp2;go_ret;exact⟨rfl,HB3.o⟩
theorem UB(a b:bG)(ha:a.1<32/\a.2<32)(hb:b.1<32/\b.2<32)(w:World) :
  Cb 236 #[.agg #[.int .u64 (a.1:Int),.int .u64 (a.2:Int)],.agg #[.int .u64 (b.1:Int),.int .u64 (b.2:Int)]] w (.int .i64 (qY bA a b)):=by
 have HRA:Hid (∀ x,Cb 298 #[.agg #[.int .u64 (a.1:Int),.int .u64 (a.2:Int)]] x (.int .i64 (lC bA a))):=fun x=>KS a.1 a.2 ha.1 ha.2 x
 have HRB:Hid (∀ x,Cb 298 #[.agg #[.int .u64 (b.1:Int),.int .u64 (b.2:Int)]] x (.int .i64 (lC bA b))):=fun x=>KS b.1 b.2 hb.1 hb.2 x
 have HR:Hid (qY bA a b=if nT (lC bA b) (lC bA a)≠0 then nT (lC bA b) (lC bA a) else if nT a.1 b.1≠0 then nT a.1 b.1 else nT a.2 b.2):=rfl;have yT:Hid (∀ x,Ce 297 #[.int .i64 (lC bA b),.int .i64 (lC bA a)] x (.int .i64 (nT (lC bA b) (lC bA a)))):=fun x=>Hg _ _ x
 have xE:Hid (∀ x,Ce 299 #[.int .u64 (a.1:Int),.int .u64 (b.1:Int)] x (.int .i64 (nT a.1 b.1))):=fun x=>xZ _ _ x
 have ML:Hid (∀ x,Ce 299 #[.int .u64 (a.2:Int),.int .u64 (b.2:Int)] x (.int .i64 (nT a.2 b.2))):=fun x=>xZ _ _ x
 generalize qY bA a b=R at *;generalize lC bA a=RA at *;generalize lC bA b=RB at *;obtain⟨al,ar⟩:=a;obtain⟨bl,br⟩:=b;simp only at *;generalize nT RB RA=C1 at *;generalize nT (al:Int) (bl:Int)=C2 at *;generalize nT (ar:Int) (br:Int)=C3 at *;have HOR:Hid (∀ (x:World) (c:Nat),x.cell? (aD c 0)=some (.int .i64 C1)->x.cell? (aD c 1)=some (.int .i64 C2)->x.cell? (aD c 2)=some (.int .i64 C3)->Ce 296 #[.slice (some (aD c 0)) 3 3] x (.int .i64 R)):=fun x c h0 h1 h2=>by
  rw[HR.o];exact acV c C1 C2 C3 x h0 h1 h2
 clear HR ha hb;obtain⟨w1,hw1,hb1,hg1⟩:=aU w #[.int .u64 (al:Int),.int .u64 (ar:Int)] 236;obtain⟨w2,hw2,hb2,hg2⟩:=aU w1 #[.int .u64 (bl:Int),.int .u64 (br:Int)] 236;have hg1':=hg1.of (hb2.block _ hg1.lt);obtain⟨a0,a1⟩:=hg1'.k2;obtain⟨b0,b1⟩:=hg2.k2;have HB2:=Zh (aA hb1 hb2);clear hb1 hb2 hg1 hg2 hg1';go_enter Tryz.func236,Tryz.ntmps236;go_wp2_with fail;clear hw1 hw2;refine wH w2 fun hS=>?_
 refine wT 0 (.agg #[.int .u64 (bl:Int),.int .u64 (br:Int)]) hS (fun x hx=>?_) ?_
 ·have e0:=cB hx b0;have e1:=cB hx b1;go_simp
 refine wT 2 (.agg #[.int .u64 (al:Int),.int .u64 (ar:Int)]) hS (fun x hx=>?_) ?_
 ·have e0:=cB hx a0;have e1:=cB hx a1;go_simp
 refine wt 5 (.pointer (some (aD w.heap.size 0))) hS ?_;refine lH 6 (.int .u64 (al:Int)) hS a0 ?_;refine wt 7 (.pointer (some (aD w1.heap.size 0))) hS ?_;refine lH 8 (.int .u64 (bl:Int)) hS b0 ?_;refine wt 10 (.pointer (some (aD w.heap.size 1))) hS ?_;refine lH 11 (.int .u64 (ar:Int)) hS a1 ?_;refine wt 12 (.pointer (some (aD w1.heap.size 1))) hS ?_;refine lH 13 (.int .u64 (br:Int)) hS b1 ?_;refine wR 1 fun K hK=>?_
 go_simp;refine Xt (HRB.o _) ?_;rintro e w3 ⟨rfl,hb⟩;refine oT hK hS hb fun hS=>?_
 clear hK K;refine wR 3 fun K hK=>?_
 go_simp;refine Xt (HRA.o _) ?_;rintro e w4 ⟨rfl,hb⟩;refine oT hK hS hb fun hS=>?_
 clear hK K;refine wR 4 fun K hK=>?_
 go_simp;refine Xt (yT.o _) ?_;rintro e w5 ⟨rfl,uT⟩;have hww:=uT.symm;subst hww;refine hK.o _ _ hS fun hS=>?_
 clear hK K;refine wR 9 fun K hK=>?_
 go_simp;refine Xt (xE.o _) ?_;rintro e w6 ⟨rfl,lS⟩;have hww:=lS.symm;subst hww;refine hK.o _ _ hS fun hS=>?_
 clear hK K;refine wR 14 fun K hK=>?_
 go_simp;refine Xt (ML.o _) ?_;rintro e w7 ⟨rfl,hw7⟩;have hww:=hw7.symm;subst hww;refine hK.o _ _ hS fun hS=>?_
 clear hK K;refine wR 15 fun K hK=>?_
 go_simp;refine oA hK hS fun hS=>?_
 clear hK K;refine wR 16 fun K hK=>?_
 go_simp;refine Xt (HOR.o _ _ (by simp) (by simp) (by simp)) ?_;rintro e w8 ⟨rfl,hw8⟩;have hww:=hw8.symm;subst hww;refine hK.o _ _ hS fun hS=>?_
 clear hK K;refine wR 17 fun K hK=>?_
 go_simp;refine hK.o _ _ hS fun hS=>?_
 clear hK K;refine wD ?_
 try simp only[pV]
 have HF:=Zh (aA HB2.o hS);clear hS;go_wp2;go_ret;exact⟨rfl,HF.o⟩
