import Derived.Test.YtbcgekghfgcakaaGreatDoorF09
import Derived.Test.YtbcgekghfgcakaaGreatDoorF36
set_option linter.all false
set_option maxRecDepth 100000
set_option maxHeartbeats 16000000
namespace Go.Proofs.Zz
open Go.RowKit Go.Shelf
theorem AY {q:ae} {ts:List af} (jM:fo ts=true) (hs:bG q.src.xs ts.length=true/\1<=q.src.xs.length/\q.src.xs.length<=5) (hw:q.wh.length<=8/\∀ x∈q.wh,vQ (aO ts q.src.xs) x)
  (hl:q.aQ.xs.length<=8/\q.keys.xs.length<=4/\q.sums.xs.length<=4/\q.ord.xs.length<=4) (hr:uO (aO ts q.src.xs) q.group q.keys.xs q.sums.xs q.aQ.xs q.ord.xs=true):q.check ts=0:=by
 unfold ae.check checkN;have h1:¬ fo ts=false:=by rw[jM]; simp
 have h2:¬ lg q.src.xs q.lh q.keys.xs q.sums.xs q.aQ.xs q.ord.xs=true:=by
  unfold lg;rw[Bool.or_eq_true,not_or];refine⟨?_,?_⟩
  ·rw[Qx];have:q.lh.length=q.wh.length:=by simp[ae.lh]
   omega
  ·rw[List.any_eq_true];rintro⟨c,hc,h3⟩;unfold ae.lh at hc;obtain⟨x,hx,rfl⟩:=Q0.1 hc;have:=(hw.2 x hx).2.1;simp at h3;omega
 have h3:dP q.lh (aO ts q.src.xs)=true:=by
  unfold dP ae.lh;rw[List.all_map,Qn];intro x hx;have:=hw.2 x hx;simp only[Function.comp];unfold gD;rw[Qm,Qx,Qn];exact⟨this.1,this.2.2⟩
 rw[Qs h1,Qs h2,Qr ⟨hs.1,by omega,h3,hr⟩]
theorem AZ {ts:List af} {q:ae} {db:List cO} (h:CaseOk ts q db):q.check ts=0:=by
 have jM:=ry h.tabs.1 h.tabs.2.1 h.tabs.2.2;have hs:=h.VL.src;have hw:=h.VL.wh;rcases h.VL.out with⟨g,l0,k1,k2,k3,s1,s2,o1,o2,o3⟩ | ⟨g,k0,s0,l1,l2,l3,o1,o2,o3⟩
 ·refine AY jM ⟨hs.1,hs.2.1,by omega⟩ ⟨by omega,hw.2⟩ ⟨by rw[l0]; exact QQ _,by omega,by omega,by omega⟩ ?_;unfold uO zu;rw[g,l0,k2,k3,s2,o3,Qr rfl,o2];rfl
 ·refine AY jM ⟨hs.1,hs.2.1,by omega⟩ ⟨by omega,hw.2⟩ ⟨by omega,by rw[k0]; exact QQ _,by rw[s0]; exact QQ _,by omega⟩ ?_;unfold uO zu;rw[g,k0,s0,l3,o3,Qs (by simp),o2,Qh (show ¬ q.aQ.xs.length=0 by omega)];rfl
theorem Sa {ts:List af} {q:ae} {db:List cO} {n:Nat} {S:World} (h:CaseOk ts q db) (hl:di n q S):Oz q:=by
 have hs:=h.VL.src;have hw:=h.VL.wh;have hb:q.keys.xs.length<=4/\q.sums.xs.length<=4/\q.aQ.xs.length<=4/\q.ord.xs.length<=4:=by
  rcases h.VL.out with⟨g,l0,k1,k2,k3,s1,s2,o1,o2,o3⟩ | ⟨g,k0,s0,l1,l2,l3,o1,o2,o3⟩
  ·exact⟨by omega,by omega,by rw[l0]; exact QQ _,by omega⟩
  ·exact⟨by rw[k0]; exact QQ _,by rw[s0]; exact QQ _,by omega,by omega⟩
 refine⟨⟨hl.src.1.2.2,by omega⟩,⟨hl.nil,by omega⟩,fun i hi=>?_,⟨hl.keys.1.2.2,by omega⟩,⟨hl.sums.1.2.2,by omega⟩,⟨hl.aQ.1.2.2,by omega⟩,⟨hl.ord.1.2.2,by omega⟩⟩;have hm:q.wh.getD i lz∈q.wh:=by
  rw[Xq,ZG hi];exact Qj hi
 have hc:=hw.2 _ hm;refine⟨fun e=>?_,by have:=hc.2.1; omega⟩;obtain⟨b,off,e2,_⟩:=(hl.wh.1.2.2 i hi).2 0 (by have:=hc.1; omega);rw[e] at e2
 cases e2
theorem aL.clause {q p:ae} (h:aL q p) (i:Nat):(p.wh.getD i lz).cs=(q.wh.getD i lz).cs:=by
 by_cases hi:i<p.wh.length
 ·exact h.cs i hi
 ·have h2:¬ i<q.wh.length:=by rw[<- h.len]; exact hi
  rw[Xq,Xq,Xr (by omega),Xr (by omega)]
theorem aL.size {q p:ae} (h:aL q p) (ts:List af):mK ts p=mK ts q:=by
 funext s c
 unfold mK;simp only[h.src,h.clause]
theorem aL.key {q p:ae} (h:aL q p) (ts:List af):si ts p=si ts q:=by
 funext n a b
 unfold si;simp only[h.src,h.clause,h.len]
theorem aL.part {q p:ae} (h:aL q p) (ts:List af):sJ ts p=sJ ts q:=by
 funext n l r
 unfold sJ;simp only[h.size ts]
theorem aL.grow {q p:ae} (h:aL q p) (ts:List af):aP ts p=aP ts q:=by
 funext n bs
 unfold aP;rw[h.part ts]
theorem aL.want {q p:ae} (h:aL q p):iH p=iH q:=by
 unfold iH;rw[h.ord,h.aQ]
theorem aL.ends {q p:ae} (h:aL q p):qp p=qp q:=by
 funext k o
 unfold qp;rw[h.ord,h.want,h.keys]
theorem aL.abk {q p:ae} (h:aL q p):dI p=dI q:=by
 funext o
 unfold dI;rw[h.group,h.keys]
theorem aL.Ja {q p:ae} (h:aL q p):aN p=aN q:=by
 unfold aN;rw[h.group,h.keys,h.want]
theorem aL.ended {q p:ae} (h:aL q p) (ts:List af):gH ts p=gH ts q:=by
 funext t
 unfold gH;rw[h.grow ts,h.ends,h.abk]
theorem aL.sorted {q p:ae} (h:aL q p) (ts:List af):bW ts p=bW ts q:=by
 funext t o
 unfold bW;rw[h.grow ts]
theorem aL.abl {q p:ae} (h:aL q p) (ts:List af):eG ts p=eG ts q:=by
 funext t
 unfold eG;rw[h.ended ts,h.sorted ts,h.Ja]
theorem aL.bM {q p:ae} (h:aL q p) (ts:List af):jX ts p=jX ts q:=by
 funext b t
 unfold jX;rw[h.abl ts]
theorem aL.Jb {q p:ae} (h:aL q p) (ts:List af):bN ts p=bN ts q:=by
 funext t c
 unfold bN;rw[h.grow ts]
theorem aL.abm {q p:ae} (h:aL q p) (ts:List af):dZ ts p=dZ ts q:=by
 funext c s
 unfold dZ;rw[h.grow ts,h.Jb ts]
theorem aL.dV {q p:ae} (h:aL q p) (ts:List af):Zz.dV ts p=Zz.dV ts q:=by
 funext k
 induction k with
 | zero => show aP ts p _ _=aP ts q _ _; rw[h.grow ts]
 | succ k ih => show aP ts p _ [Zz.dV ts p k,aP ts p _ _]=aP ts q _ [Zz.dV ts q k,aP ts q _ _]; rw[h.grow ts,ih]
theorem aL.plain {q p:ae} (h:aL q p) (ts:List af):fF ts p=fF ts q:=by
 unfold fF;rw[h.grow ts,h.Jb ts,h.dV ts,h.src,h.group,h.len,h.ord]
theorem aL.L9 {q p:ae} (h:aL q p) (ts:List af):eP ts p=eP ts q:=by
 funext g o
 unfold eP;rw[h.sorted ts]
theorem aL.abn {q p:ae} (h:aL q p) (ts:List af):aZ ts p=aZ ts q:=by
 funext g l
 unfold aZ;rw[h.L9 ts]
theorem aL.gq {q p:ae} (h:aL q p) (ts:List af):Zz.gq ts p=Zz.gq ts q:=by
 funext l r g cl acc key
 unfold Zz.gq;rw[h.grow ts,h.key ts]
theorem aL.joined {q p:ae} (h:aL q p) (ts:List af):dL ts p=dL ts q:=by
 funext c l g
 unfold dL;rw[h.grow ts,h.gq ts]
theorem aL.joins {q p:ae} (h:aL q p) (ts:List af):jg ts p=jg ts q:=by
 funext c a b
 unfold jg;rw[h.joined ts]
theorem aL.keep {q p:ae} (h:aL q p) (rk:Nat->Int) (ts:List af):eH rk ts p=eH rk ts q:=by
 funext s l σ
 unfold eH;rw[h.src,h.bM ts,h.abn ts]
theorem aL.sW {q p:ae} (h:aL q p) (rk:Nat->Int) (ts:List af):Zz.sW rk ts p=Zz.sW rk ts q:=by
 funext c t σ
 unfold Zz.sW;rw[h.keep rk ts,h.abm ts,h.joins ts]
theorem aL.fP {q p:ae} (h:aL q p) (rk:Nat->Int) (ts:List af):Zz.fP rk ts p=Zz.fP rk ts q:=by
 funext c k σ
 unfold Zz.fP;rw[h.sW rk ts]
theorem aL.runN {q p:ae} (h:aL q p) (rk:Nat->Int) (ts:List af):Zz.runN rk ts p=Zz.runN rk ts q:=by
 funext c ps n
 induction n with
 | zero => rfl
 | succ n ih =>
  funext k σ
  show (if σ.status=1 then Zz.runN rk ts p c ps n (k+1) (Zz.fP rk ts p c (fG ps k) σ) else σ)=(if σ.status=1 then Zz.runN rk ts q c ps n (k+1) (Zz.fP rk ts q c (fG ps k) σ) else σ)
  rw[ih,h.fP rk ts]
theorem aL.goT {q p:ae} (h:aL q p) (rk:Nat->Int) (ts:List af):Zz.goT rk ts p=Zz.goT rk ts q:=by
 funext c ps n t σ
 unfold Zz.goT;rw[h.runN rk ts]
theorem aL.conc {q p:ae} (h:aL q p) (ts:List af):aA ts p=aA ts q:=by
 have e:∀ r:ae,aA ts r=r.lh.map fun c=>bT (jF ts r.src.xs c):=fun r=>by
  unfold aA ae.lh;rw[List.map_map];rfl
 rw[e p,e q,h.lh,h.src]
def zo (ts:List af) (q:ae) (s:Nat) (acc:List (List Int)) (c:List aj):List (List Int):=
 if ((bE c).2.2 && !bP s (bT (dS ts q [(bE c).1,(bE c).2.1])))=true then bB ts q s (bB ts q s acc (bE c).1) (bE c).2.1 else acc
theorem aL.dS {q p:ae} (h:aL q p) (ts:List af):Zz.dS ts p=Zz.dS ts q:=by
 funext xs
 unfold Zz.dS;rw[h.src]
theorem aL.bB {q p:ae} (h:aL q p) (ts:List af):Zz.bB ts p=Zz.bB ts q:=by
 funext s acc c
 unfold Zz.bB;rw[h.dS ts]
theorem aL.ae4 {q p:ae} (h:aL q p) (ts:List af):fA ts p=fA ts q:=by
 funext s
 have e:∀ (r:ae) (i:List (List Int)),r.wh.foldl (iy ts r s) i=r.lh.foldl (zo ts r s) i:=fun r i=>by
  unfold ae.lh;rw[List.foldl_map];rfl
 have eg:zo ts p s=zo ts q s:=by
  funext acc c
  unfold zo;rw[h.dS ts,h.bB ts]
 unfold fA;rw[e p,e q,h.lh,eg,h.dS ts,h.Ja]
theorem aL.dK {q p:ae} (h:aL q p) (rk:Nat->Int) (ts:List af) (room:Nat):Zz.dK rk ts p room=Zz.dK rk ts q room:=by
 unfold Zz.dK;rw[h.src,h.ae4 ts,h.plain ts]
theorem MQ {rk:Nat->Int} {ts:List af} {q:ae} {conc:List Nat} (hcn:conc.length=q.wh.length) (h5:q.src.xs.length<=5) (picks:List Int) {σ:fe} (h:E5 q σ) (n:Nat) (tick:Int):E5 q (goT rk ts q conc picks n tick σ)/\(goT rk ts q conc picks n tick σ).picks.length<=σ.picks.length+n:=by
 unfold goT;split
 ·rename_i hc
  obtain⟨h1,h2⟩:=mW (rk:=rk) (ts:=ts) hcn h5 picks h tick.toNat;split
  ·exact⟨⟨⟨h1.core.vL,h1.core.kU,h1.core.task,h1.core.bM,h1.core.small⟩,fun e=>absurd (show (4:Int)=1 from e) (by omega),h1.aaU⟩,by show (runN rk ts q conc picks tick.toNat 0 σ).picks.length<=_; omega⟩
  ·exact⟨h1,by omega⟩
 ·exact mW hcn h5 picks h n
theorem eZ.plan {Tn:TypeId} {F:Nat->Prop} {base:Nat} {w:World} {v:Value} {nv:List az} (h:eZ Tn F base w v nv) (hl:nv.length<=1000):∃ ao cap,v=.slice ao nv.length cap/\D5 w ao nv:=by
 have hv:∃ ao cap,v=.slice ao nv.length cap:=by
  rcases h.own.2 with⟨rfl,h0⟩ | ⟨g,cap,cur,rfl,_⟩
  ·exact⟨none,0,by rw[h0]⟩
  ·exact⟨_,_,rfl⟩
 obtain⟨ao,cap,rfl⟩:=hv;refine⟨ao,cap,rfl,by omega,fun i hi=>?_⟩;obtain⟨g,cap',e,hg,hgl,hc⟩:=H8 h.own hi;injection e with e1 e2 e3;subst e1;have hm:nv.getD i nz∈nv:=by
  rw[Xq,ZG hi];exact Qj hi
 obtain⟨l1,_,l2,_,_⟩:=h.lists _ hm;exact⟨g,0,rfl,by rw[QE]; exact hc 0 _ (by omega) rfl,by rw[QE]; exact hc 1 _ (by omega) rfl,by rw[QE]; exact hc 2 _ (by omega) rfl,by rw[QE]; exact hc 3 _ (by omega) rfl,by rw[QE]; exact hc 4 _ (by omega) rfl,by rw[QE]; exact hc 5 _ (by omega) rfl,by rw[QE]; exact hc 6 _ (by omega) rfl,l1,l2⟩
theorem SI {a b:az} (h:fK a=fK b):a.same b:=by
 obtain⟨k,l,r,s,c,y,o⟩:=a;obtain⟨k',l',r',s',c',y',o'⟩:=b;unfold fK at h;simp only[az.mk.injEq,ah.mk.injEq,true_and] at h;obtain⟨h1,h2,h3,h4,h5,h6,h7⟩:=h;exact⟨h1,h2,h3,h4,h5,h6,h7⟩
theorem Nc {a b:List az} (h:a.map fK=b.map fK):a.length=b.length/\∀ i,i<a.length->(a.getD i nz).same (b.getD i nz):=by
 have hl:a.length=b.length:=by have:=congrArg List.length h; simpa using this
 refine⟨hl,fun i hi=>SI ?_⟩;have e:=congrArg (fun l=>l[i]?) h;simp only[QW] at e;rw[ZG hi,ZG (hl ▸ hi)] at e;rw[Xq,Xq,ZG hi,ZG (hl ▸ hi)];exact XX e
theorem FE (ao bo:Option Addr) (cap cap':Nat) (xs:List Int) (w:World) (hx:au w ao xs) (hy:au w bo xs) :
  Calls Tryz.prog 27 #[.slice ao xs.length cap,.slice bo xs.length cap'] w fun e w'=>e=.returned (.bool true)/\∃ n,w' = w.drewN n:=by
 have hl:=hx.1;go_enter Tryz.func27,Tryz.ntmps27;go_wp2;go_loopw [5] (fun i wr=>∃ k:Nat,k<=xs.length/\i=.int .i64 k/\∃ n,wr=w.drewN n) (fun i _=>xs.length-(intOf i).toNat)
 case atStart=>exact⟨0,QQ _,rfl,0,rfl⟩
 case round=>
  obtain⟨k,hk,rfl,n,rfl⟩:=hrel;by_cases hlt:k<xs.length
  ·obtain⟨b,off,rfl,hc⟩:=hx.get hlt;obtain⟨b',off',rfl,hc'⟩:=hy.get hlt;have h1:=hc k hlt;have h2:=hc' k hlt;clear hc hc' hx hy;generalize xs.getD k 0=x at *;go_wp2;go_quiet (fail);go_wp2;go_roundw
   case rel=>exact⟨k+1,by omega,by go_num,_,rfl⟩
   case measure=>simp[intOf]; omega
  ·go_wp2;go_ret;exact⟨rfl,_,rfl⟩
theorem yI {w:World} {ao:Option Addr} {xs:List Int} (h:au w ao xs) (n:Nat):au (w.drewN n) ao xs:=h.below (below_drewN (Qp _ _) _)
theorem rD (ao bo:Option Addr) (cap cap':Nat) (xs:List Int) (w:World) (n m:Nat) (hx:au w ao xs) (hy:au w bo xs) :
  Calls Tryz.prog 27 #[.slice ao xs.length cap,.slice bo xs.length cap'] (w.drewN (n+m)) fun e w''=>e=.returned (.bool true)/\∃ m',w'' = w.drewN (n+m'):=
 (FE ao bo cap cap' xs (w.drewN (n+m)) (yI hx _) (yI hy _)).mono fun _ _ ⟨he,k',hk'⟩=>⟨he,m+k',by rw[hk',World.drewN_drewN,XE]⟩
theorem FH (ao bo:Option Addr) (cap cap':Nat) (ns ms:List az) (w:World) (hx:D5 w ao ns) (hy:D5 w bo ms) (he:ns.length=ms.length) (hs:∀ i,i<ns.length->(ns.getD i nz).same (ms.getD i nz)) :
  Calls Tryz.prog 12 #[.slice ao ns.length cap,.slice bo ms.length cap'] w fun e w'=>e=.returned (.bool true)/\Below w.heap.size w w':=by
 have hl:=hx.1;rw[<- he];have HE:=Zh he;clear he;go_enter Tryz.func12,Tryz.ntmps12;go_wp2;go_loopw [5] (fun i wr=>∃ k:Nat,k<=ns.length/\i=.int .i64 k/\∃ n,wr=w.drewN n) (fun i _=>ns.length-(intOf i).toNat)
 case atStart=>exact⟨0,QQ _,rfl,0,rfl⟩
 case round=>
  obtain⟨k,hk,rfl,n,rfl⟩:=hrel;by_cases hlt:k<ns.length
  ·obtain⟨b,off,rfl,c0,c1,c2,c3,c4,c5,c6,i1,i2⟩:=hx.2 k hlt;obtain⟨b',off',rfl,d0,d1,d2,d3,d4,d5,d6,j1,j2⟩:=hy.2 k (by have:=HE.out; omega);obtain⟨q0,q1,q2,q3,q4,q5,q6⟩:=hs k hlt;clear hx hy hs;generalize ns.getD k nz=x1 at *;generalize ms.getD k nz=x2 at *;obtain⟨ka,la,ra,sa,⟨ad1,cp1,xs1⟩,ya,⟨ad2,cp2,xs2⟩⟩:=x1;obtain⟨kb,lb,rb,sb,⟨ad3,cp3,xs3⟩,yb,⟨ad4,cp4,xs4⟩⟩:=x2;unfold ah.At at i1 i2 j1 j2;unfold ah.val at c4 c6 d4 d6;simp only at q0 q1 q2 q3 q4 q5 q6 i1 i2 j1 j2 c0 c1 c2 c3 c4 c5 c6 d0 d1 d2 d3 d4 d5 d6;subst q0 q1 q2 q3 q4 q5 q6;go_wp2;refine wp_region_quiet_lit (by kernel_rfl) (by kernel_rfl) ?_
   repeat (go_big_quiet_step (fail))
   go_big_quiet_want;refine⟨.bool true,fun x hx=>?_,?_⟩
   ·obtain⟨m,rfl⟩:=hx;have hC:=rD ad1 ad3 cp1 cp3 xs1 w n m i1 j1;go_simp
   simp only[pU];go_big_quiet_on
   repeat (go_big_quiet_step (fail))
   refine wpQuiet_nil ?_;intro x hx;obtain⟨m,rfl⟩:=hx;rw[World.drewN_drewN];generalize n+m=n';go_wp2;refine wp_region_quiet_lit (by kernel_rfl) (by kernel_rfl) ?_
   repeat (go_big_quiet_step (fail))
   go_big_quiet_want;refine⟨.bool true,fun x hx=>?_,?_⟩
   ·obtain⟨m,rfl⟩:=hx;have hC:=rD ad2 ad4 cp2 cp4 xs2 w n' m i2 j2;go_simp
   simp only[pU];go_big_quiet_on
   repeat (go_big_quiet_step (fail))
   refine wpQuiet_nil ?_;intro x hx;obtain⟨m,rfl⟩:=hx;rw[World.drewN_drewN];generalize n'+m=n2;go_wp2;go_quiet (fail);go_wp2;go_roundw
   case rel=>exact⟨k+1,by omega,by go_num,_,rfl⟩
   case measure=>simp[intOf]; omega
  ·go_wp2;go_ret;exact⟨rfl,below_drewN (Qp _ _) _⟩
structure Duo (ts:List af) (w0:World) (a b:Bl) (Ma Mb:Nat->Prop) (σ τ:fe) (w:World):Prop where
 sa:∃ X L,dn a.W a.f ts a.q X Ma w a.sb L σ/\∀ c,Mb c->X c
 sb:∃ X L,dn b.W b.f ts b.q X Mb w b.sb L τ/\∀ c,Ma c->X c
 ca:w.cell? (aD a.pb 9)=some (.pointer (some (aD a.sb 0)))
 cb:w.cell? (aD b.pb 9)=some (.pointer (some (aD b.sb 0)))
 na:¬ Ma a.pb/\¬ Mb a.pb
 nb:¬ Ma b.pb/\¬ Mb b.pb
 apart:∀ c,Ma c->¬ Mb c
 la:∀ c,Ma c->w0.heap.size<=c
 lb:∀ c,Mb c->w0.heap.size<=c
 below:Below w0.heap.size w0 w
theorem Duo.swap {ts:List af} {w0:World} {a b:Bl} {Ma Mb:Nat->Prop} {σ τ:fe} {w:World} (h:Duo ts w0 a b Ma Mb σ τ w):Duo ts w0 b a Mb Ma τ σ w:=
 ⟨h.sb,h.sa,h.cb,h.ca,h.nb.symm,h.na.symm,fun c hb ha=>h.apart c ha hb,h.lb,h.la,h.below⟩
theorem Duo.step {ts:List af} {w0:World} {a b:Bl} {Ma Mb:Nat->Prop} {σ τ:fe} {w:World} (h:Duo ts w0 a b Ma Mb σ τ w) {w':World} (hb:Below w.heap.size w w'):Duo ts w0 a b Ma Mb σ τ w':=by
 obtain⟨X,L,s1,s2⟩:=h.sa;obtain⟨Y,K,t1,t2⟩:=h.sb;exact⟨⟨X,L,s1.below hb,s2⟩,⟨Y,K,t1.below hb,t2⟩,cB hb h.ca,cB hb h.cb,h.na,h.nb,h.apart,h.la,h.lb,h.below.trans (hb.mono h.below.size)⟩
theorem Duo.went {ts:List af} {w0:World} {a b:Bl} {Ma Mb:Nat->Prop} {σ σ' τ:fe} {w w':World} (h:Duo ts w0 a b Ma Mb σ τ w) {X:Nat->Prop} (hX:∀ c,Mb c->X c) (hp:bQ a.W a.f ts a.q X Ma w a.sb σ' w'):∃ Ma',Duo ts w0 a b Ma' Mb σ' τ w'/\Kept (fun c=>¬ Ma c) w w'/\∀ c,Ma' c->Ma c∨w.heap.size<=c:=by
 obtain⟨L',X',M',hs,hk,h1,h2,h3⟩:=hp;obtain⟨Y,K,t1,t2⟩:=h.sb;have hMb:∀ c,Mb c->c<w.heap.size:=fun c hc=>(t1.lt (t1.sub c hc)).2
 have hW:=t1.hz.below.size;have ht:=t1.other (N:=Ma) (N':=fun c=>M' c/\w.heap.size<=c) t2 (fun c hc ha=>h.apart c ha hc) hk (fun c hc=>.inr hc.2) (fun c=>Iff.rfl) (fun c hc=>(hs.lt (hs.sub c hc.1)).2) (fun c hc=>Q4 hW hc.2);have Oc:a.pb<w.heap.size:=Zf h.ca;have hpb:b.pb<w.heap.size:=Zf h.cb;refine⟨M',⟨⟨X',L',hs,fun c hc=>(h3 c).2 (.inl (hX c hc))⟩,⟨_,K,ht,fun c hc=>?_⟩,?_,?_,⟨fun hc=>?_,h.na.2⟩,⟨fun hc=>?_,h.nb.2⟩,fun c hc hb=>?_,fun c hc=>?_,h.lb,?_⟩,hk,h2⟩
 ·rcases h2 c hc with h0 | h0
  ·exact .inl (t2 c h0)
  ·exact .inr ⟨hc,h0⟩
 ·exact XP hk h.ca h.na.1
 ·exact XP hk h.cb h.nb.1
 ·rcases h2 _ hc with h0 | h0
  ·exact h.na.1 h0
  ·omega
 ·rcases h2 _ hc with h0 | h0
  ·exact h.nb.1 h0
  ·omega
 ·rcases h2 _ hc with h0 | h0
  ·exact h.apart c h0 hb
  ·have:=hMb c hb; omega
 ·rcases h2 _ hc with h0 | h0
  ·exact h.la c h0
  ·exact Q4 h.below.size h0
 ·exact h.below.trans (hk.below h.below.size fun c hc h0=>by have:=h.la c h0; omega)
theorem Duo.make {ts:List af} {q:ae} {room:Nat} {w0 w1 w2:World} {a b:Bl} {Ma Mb:Nat->Prop} (ha:p9 ts (fun _=>False) q room w0 a Ma w1) (hb:p9 ts (fun c=>c=a.pb∨Ma c) q room w1 b Mb w2):Duo ts w0 a b Ma Mb (dK aV ts a.q room) (dK aV ts b.q room) w2:=by
 obtain⟨L,s⟩:=ha.se;obtain⟨K,t⟩:=hb.se;have hl1:∀ c,Ma c->c<w1.heap.size:=fun c hc=>(s.lt (s.sub c hc)).2
 have hl2:∀ c,Mb c->c<w2.heap.size:=fun c hc=>(t.lt (t.sub c hc)).2
 have hW:=s.hz.below.size;have hs:=s.other (N:=fun _=>False) (N':=Mb) (X':=fun c=>((False∨c=a.pb)∨Ma c)∨Mb c) (w':=w2) (fun c h=>h.elim) (fun c _ h=>h) (Q9 hb.below (fun _ h _=>h)) (fun c h=>.inr (hb.new c h)) (fun c=>Iff.rfl) hl2 (fun c h=>Q4 hW (hb.new c h));have Oc:a.pb<w1.heap.size:=Zf ha.cell;refine⟨⟨_,L,hs,fun c hc=>.inr hc⟩,⟨_,K,t,fun c hc=>.inl (.inl (.inr hc))⟩,cB hb.below ha.cell,hb.cell,⟨ha.Tg,fun h=>?_⟩,⟨fun h=>?_,hb.Tg⟩,fun c h1 h2=>?_,ha.new,fun c hc=>Q4 ha.below.size (hb.new c hc),ha.below.trans (hb.below.mono ha.below.size)⟩
 ·have:=hb.new _ h;omega
 ·have:=hl1 _ h;have:=hb.pb;omega
 ·have:=hl1 c h1;have:=hb.new c h2;omega
theorem Duo.run {ts:List af} {w0:World} {a b:Bl} {Ma Mb:Nat->Prop} {σ τ:fe} {w:World} (E:Env a.f ts a.q a.W) (h:Duo ts w0 a b Ma Mb σ τ w) (hok:E5 a.q σ) (n:Nat) (hpl:σ.picks.length+n<=900) (tick:Int) (po:Option Addr) (pc:Nat) (ps:List Int) (hp:au w0 po ps) (hpb:∀ c,po=some c->c.block<w0.heap.size) :
  Calls Tryz.prog 8 #[.pointer (some (aD a.pb 0)),.int .i64 (n:Int),.int .i64 tick,.slice po ps.length pc] w fun e w'=>∃ Ma' σ',σ' = goT aV ts a.q (aA ts a.q) ps n tick σ/\e=.returned (.int .i64 σ'.status)/\Duo ts w0 a b Ma' Mb σ' τ w'/\Kept (fun c=>¬ Ma c) w w'/\∀ c,Ma' c->Ma c∨w.heap.size<=c:=by
 obtain⟨X,L,s,hX⟩:=h.sa;have hr:=OU E s hok n hpl tick ⟨po,pc,ps⟩ (Qo h.below hp) (fun c ec hm=>by
  have h1:=hpb c ec;have h2:=h.la _ hm;omega)
 refine (DL a.pb a.sb n tick po ps.length pc w h.ca hr (fun e w' hr=>by
  obtain⟨σ',_,e1,_⟩:=hr;exact⟨_,e1⟩)).mono ?_
 rintro e w' ⟨σ',h1,rfl,h3⟩;obtain⟨Ma',hd,hk,hm⟩:=h.went hX h3;exact⟨Ma',σ',h1,rfl,hd,hk,hm⟩
theorem Duo.bM {ts:List af} {w0:World} {a b:Bl} {Ma Mb:Nat->Prop} {σ τ:fe} {w:World} (E:Env a.f ts a.q a.W) (h:Duo ts w0 a b Ma Mb σ τ w) (hok:E5 a.q σ) :
  Calls Tryz.prog 11 #[.pointer (some (aD a.pb 0))] w fun e w'=>∃ ao cap nv,e=.returned (.tuple #[.slice ao nv.length cap,.int .u64 (σ.bM.d.cost:Int)])/\nv.map fK=σ.bM.ns/\eZ 71 (fun c=>w.heap.size<=c) w.heap.size w' (.slice ao nv.length cap) nv/\nv.length<=1000/\Below w.heap.size w w':=by
 obtain⟨X,L,s,hX⟩:=h.sa;refine (NB a.pb a.sb w h.ca (SH E s hok.core.bM hok.core.small (F:=fun c=>w.heap.size<=c) (fun _ h=>h)) (fun e w' hr=>by
  obtain⟨v,nv,e1,_⟩:=hr;exact⟨_,_,e1⟩)).mono ?_
 rintro e w' ⟨v,nv,rfl,h1,h2,h3⟩;have hl:nv.length<=1000:=by
  have e1:=congrArg List.length h1;rw[QU] at e1;have:=hok.core.small;omega
 obtain⟨ao,cap,rfl,_⟩:=h2.plan hl;exact⟨ao,cap,nv,rfl,h1,h2,hl,h3⟩
theorem Duo.steps {ts:List af} {w0:World} {a b:Bl} {Ma Mb:Nat->Prop} {σ τ:fe} {w:World} (h:Duo ts w0 a b Ma Mb σ τ w) :
  Calls Tryz.prog 13 #[.pointer (some (aD a.pb 0))] w fun e w'=>e=.returned (.int .i64 (σ.picks.length:Int))/\w' = w:=by
 obtain⟨X,L,s,hX⟩:=h.sa;obtain⟨v0,v1,v2,v3,v4,v5,v6,v7,v8,v9,v10,v11,v12,dw,-⟩:=Z8 a.f ts a.q;have hpv:∃ ao cap,L.pv=.slice ao σ.picks.length cap:=by
  rcases s.pk.2 with⟨e,h0⟩ | ⟨g,cap,cur,e,_⟩
  ·exact⟨none,0,by rw[e,h0]⟩
  ·exact⟨_,_,e⟩
 obtain⟨ao,cap,hpv⟩:=hpv;have hgb:=s.cells dw;have c17:=hgb.at 17;rw[hpv] at c17;exact JG a.pb a.sb w h.ca (MS a.sb ao σ.picks.length cap w c17) (fun e w' hr=>⟨_,hr.1⟩)
theorem Cz (co:Option Addr) (cc:Nat) (dv:Value) (ts:List af) (q:ae) (db:List cO) (room n:Nat) (N:Nat->Prop) (w:World) (hts:aJ w co ts) (hls:di n q w) (hok:CaseOk ts q db) (hs:cZ w 0) (h1:1<=room) (h2:room<=1000) (hN:∀ b,N b->b<w.heap.size) (h0:¬ N 0) (hw0:0<w.heap.size) :
  Calls Tryz.prog 6 #[.agg (caseA (.slice co ts.length cc) q dv),.int .i64 (room:Int)] w fun e w'=>∃ P M,e=.returned (.tuple #[.pointer (some (aD P.pb 0)),.bool true])/\p9 ts N q room w P M w':=by
 have hco:co=none->cc=0:=fun e=>by
  obtain⟨b,off,e2,_⟩:=hts.2 0 (by have:=hok.tabs.1; omega);rw[e] at e2
  cases e2
 have HST:Hid (∀ x,Below w.heap.size w x->Calls Tryz.prog 19 #[.slice co ts.length cc,.agg q.cells,.int .i64 (room:Int)] x fun e w'=>∃ P M,e=.returned (.tuple #[.pointer (some (aD P.pb 0)),.int .i64 0])/\p9 ts N q room x P M w'):=fun x hb=>
  DF co cc ts q room N x (hts.below hb) hco (hls.at'.below hb) hls.keys.2.2 hls.ord.2.2 (Sa hok hls) (Z9 hb hs) (AZ hok) h1 h2 (fun b h=>Q8 (hN b h) hb.size) h0 (Q8 hw0 hb.size)
 obtain⟨v0,v1,v2,v3,v4,v5,v6,sV⟩:∃ v0 v1 v2 v3 v4 v5 v6,q.cells=#[v0,v1,v2,v3,v4,v5,v6]:=⟨_,_,_,_,_,_,_,rfl⟩
 have hCA:caseA (.slice co ts.length cc) q dv=#[.slice co ts.length cc,v0,v1,v2,v3,v4,v5,v6,dv]:=by
  have:caseA (.slice co ts.length cc) q dv=#[.slice co ts.length cc]++q.cells ++ #[dv]:=rfl;rw[this,sV];rfl
 rw[hCA];rw[sV] at HST;obtain⟨w1,hw1,hb1,hg1⟩:=bu w #[.slice co ts.length cc,v0,v1,v2,v3,v4,v5,v6,dv] 29;obtain⟨a0,a1,a2,a3,a4,a5,a6,a7⟩:=hg1.k8;have HB1:=Zh hb1;have hST:=HST.out w1 hb1;clear hts hls hok hs h1 h2 hN h0 hw0 hco HST sV hCA hb1 hg1;go_enter Tryz.func6,Tryz.ntmps6;go_wp2_with fail;refine hST.mono ?_;rintro e w2 ⟨P,M,rfl,hB⟩;have gQ:=Zh (hB.elder HB1.out);clear hST hB a0 a1 a2 a3 a4 a5 a6 a7;go_wp2;go_ret2;exact⟨P,M,rfl,gQ.out⟩
