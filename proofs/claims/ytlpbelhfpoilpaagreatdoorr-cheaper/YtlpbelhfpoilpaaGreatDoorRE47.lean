import Derived.Test.YtlpbelhfpoilpaaGreatDoorRE11
import Derived.Test.YtlpbelhfpoilpaaGreatDoorRE23
import Derived.Test.YtlpbelhfpoilpaaGreatDoorRE42
import Derived.Test.YtlpbelhfpoilpaaGreatDoorRE44
import Derived.Test.YtlpbelhfpoilpaaGreatDoorRE46
set_option linter.all false
set_option maxRecDepth 100000
set_option maxHeartbeats 16000000
namespace Go.Proofs.Zz
open Go.RowKit Go.Shelf
variable {p q:ae} {ts:List af} {db:List dF} {Tn:TypeId} {F Ma Mb:Nat->Prop} {base:Nat} {w w' w0:World} {v:Value} {nv:List ai} {a b:Si} {σ τ:iO}
theorem Da(yD:gI ts=true)(hs:bN q.src.xs ts.length=true/\1<=q.src.xs.length/\q.src.xs.length<=5)(hw:q.wh.length<=8/\∀ x∈q.wh,yC (aJ ts q.src.xs) x)
  (hl:q.aV.xs.length<=8/\q.keys.xs.length<=4/\q.sums.xs.length<=4/\q.ord.xs.length<=4) (hr:uM (aJ ts q.src.xs) q.group q.keys.xs q.sums.xs q.aV.xs q.ord.xs=true):q.check ts=0:=by
 unfold ae.check checkN;have h1:¬ gI ts=false:=by rw[yD]; simp
 have h2:¬ mO q.src.xs q.mP q.keys.xs q.sums.xs q.aV.xs q.ord.xs=true:=by
  unfold mO;rw[Bool.or_eq_true,not_or];refine⟨?_,?_⟩
  ·rw[QJ];have:q.mP.length=q.wh.length:=by simp[ae.mP]
   omega
  ·rw[List.any_eq_true];rintro⟨c,hc,h3⟩;unfold ae.mP at hc;obtain⟨x,hx,rfl⟩:=Zi.1 hc;have:=(hw.2 x hx).2.1;simp at h3;omega
 have h3:fw q.mP (aJ ts q.src.xs)=true:=by
  unfold fw ae.mP;rw[List.all_map,Qu];intro x hx;have:=hw.2 x hx;simp only[Function.comp];unfold iV;rw[Qt,QJ,Qu];exact⟨this.1,this.2.2⟩
 rw[Qz h1,Qz h2,Qy ⟨hs.1,by omega,h3,hr⟩]
theorem Db(h:CaseOk ts q db):q.check ts=0:=by
 have yD:=Ap h.tabs.1 h.tabs.2.1 h.tabs.2.2;have hs:=h.qry.src;have hw:=h.qry.wh;rcases h.qry.out with⟨g,l0,k1,k2,k3,s1,s2,o1,o2,o3⟩ | ⟨g,k0,s0,l1,l2,l3,o1,o2,o3⟩
 ·refine Da yD ⟨hs.1,hs.2.1,by omega⟩ ⟨by omega,hw.2⟩ ⟨by rw[l0]; exact Q8 _,by omega,by omega,by omega⟩ ?_;unfold uM Bo;rw[g,l0,k2,k3,s2,o3,Qy rfl,o2];rfl
 ·refine Da yD ⟨hs.1,hs.2.1,by omega⟩ ⟨by omega,hw.2⟩ ⟨by omega,by rw[k0]; exact Q8 _,by rw[s0]; exact Q8 _,by omega⟩ ?_;unfold uM Bo;rw[g,k0,s0,l3,o3,Qz (by simp),o2,Ql (show ¬ q.aV.xs.length=0 by omega)];rfl
theorem Vi{n:Nat}{S:World}(h:CaseOk ts q db)(hl:dL n q S):YC q:=by
 have hs:=h.qry.src;have hw:=h.qry.wh;have hb:q.keys.xs.length<=4/\q.sums.xs.length<=4/\q.aV.xs.length<=4/\q.ord.xs.length<=4:=by
  rcases h.qry.out with⟨g,l0,k1,k2,k3,s1,s2,o1,o2,o3⟩ | ⟨g,k0,s0,l1,l2,l3,o1,o2,o3⟩
  ·exact⟨by omega,by omega,by rw[l0]; exact Q8 _,by omega⟩
  ·exact⟨by rw[k0]; exact Q8 _,by rw[s0]; exact Q8 _,by omega,by omega⟩
 refine⟨⟨hl.src.1.2.2,by omega⟩,⟨hl.nil,by omega⟩,fun i hi=>?_,⟨hl.keys.1.2.2,by omega⟩,⟨hl.sums.1.2.2,by omega⟩,⟨hl.aV.1.2.2,by omega⟩,⟨hl.ord.1.2.2,by omega⟩⟩;have hm:q.wh.getD i lz∈q.wh:=by
  rw[XH,ZX hi];exact Qp hi
 have hc:=hw.2 _ hm;refine⟨fun e=>?_,by have:=hc.2.1; omega⟩;obtain⟨b,off,e2,_⟩:=(hl.wh.1.2.2 i hi).2 0 (by have:=hc.1; omega);rw[e]at e2
 cases e2
theorem EH(co:Option Addr)(cc:Nat)(dv:Value)(ts:List af)(q:ae)(db:List dF)(room n:Nat)(N:Nat->Prop)(w:World)(hts:aZ w co ts)(hls:dL n q w)(hok:CaseOk ts q db)(hs:bQ w 0)(h1:1<=room)(h2:room<=1000)(hN:∀ b,N b->b<w.heap.size)(h0:¬ N 0)(hw0:0<w.heap.size) :
  Calls Tryz.prog 24 #[.agg (caseA (.slice co ts.length cc) q dv),.int .i64 (room:Int)] w fun e w'=>∃ P M,e=.returned (.tuple #[.pointer (some (aD P.pb 0)),.bool true])/\rJ ts N q room w P M w':=by
 have hco:co=none->cc=0:=fun e=>by
  obtain⟨b,off,e2,_⟩:=hts.2 0 (by have:=hok.tabs.1; omega);rw[e]at e2
  cases e2
 have HST:Hid (∀ x,Bw w x->Calls Tryz.prog 59 #[.slice co ts.length cc,.agg q.cells,.int .i64 (room:Int)] x fun e w'=>∃ P M,e=.returned (.tuple #[.pointer (some (aD P.pb 0)),.int .i64 0])/\rJ ts N q room x P M w'):=fun x hb=>
  U5 co cc ts q room N x (hts.below hb) hco (hls.at'.below hb) hls.keys.2.2 hls.ord.2.2 (Vi hok hls) (XJ hb hs) (Db hok) h1 h2 (fun b h=>Q6 (hN b h) hb.size) h0 (Q6 hw0 hb.size)
 obtain⟨v0,v1,v2,v3,v4,v5,v6,uW⟩:∃ v0 v1 v2 v3 v4 v5 v6,q.cells=#[v0,v1,v2,v3,v4,v5,v6]:=⟨_,_,_,_,_,_,_,rfl⟩
 have hCA:caseA (.slice co ts.length cc) q dv=#[.slice co ts.length cc,v0,v1,v2,v3,v4,v5,v6,dv]:=by
  have:caseA (.slice co ts.length cc) q dv=#[.slice co ts.length cc]++q.cells ++ #[dv]:=rfl;rw[this,uW];rfl
 rw[hCA];rw[uW]at HST;obtain⟨w1,hw1,hb1,hg1⟩:=aU w #[.slice co ts.length cc,v0,v1,v2,v3,v4,v5,v6,dv] 53;obtain⟨a0,a1,a2,a3,a4,a5,a6,a7⟩:=hg1.k8;have HB1:=Zh hb1;have hST:=HST.o w1 hb1;clear hts hls hok hs h1 h2 hN h0 hw0 hco HST uW hCA hb1 hg1;go_enter Tryz.func24,Tryz.ntmps24;go_wp2_with fail;refine hST.mono ?_;rintro e w2 ⟨P,M,rfl,hB⟩;have gz:=Zh (hB.elder HB1.o);clear hST hB a0 a1 a2 a3 a4 a5 a6 a7;go_wp2;go_ret2;exact⟨P,M,rfl,gz.o⟩
theorem fI.plan(h:fI Tn F base w v nv)(hl:nv.length<=1000):∃ ao cap,v=.slice ao nv.length cap/\kE w ao nv:=by
 have hv:∃ ao cap,v=.slice ao nv.length cap:=by
  rcases h.own.2 with⟨rfl,h0⟩ | ⟨g,cap,cur,rfl,_⟩
  ·exact⟨none,0,by rw[h0]⟩
  ·exact⟨_,_,rfl⟩
 obtain⟨ao,cap,rfl⟩:=hv;refine⟨ao,cap,rfl,by omega,fun i hi=>?_⟩;obtain⟨g,cap',e,hg,hgl,hc⟩:=Kg h.own hi;injection e with e1 e2 e3;subst e1;have hm:nv.getD i nz∈nv:=by
  rw[XH,ZX hi];exact Qp hi
 obtain⟨l1,_,l2,_,_⟩:=h.lists _ hm;exact⟨g,0,rfl,by rw[QQ]; exact hc 0 _ (by omega) rfl,by rw[QQ]; exact hc 1 _ (by omega) rfl,by rw[QQ]; exact hc 2 _ (by omega) rfl,by rw[QQ]; exact hc 3 _ (by omega) rfl,by rw[QQ]; exact hc 4 _ (by omega) rfl,by rw[QQ]; exact hc 5 _ (by omega) rfl,by rw[QQ]; exact hc 6 _ (by omega) rfl,l1,l2⟩
theorem bu.clause(h:bu q p)(i:Nat):(p.wh.getD i lz).cs=(q.wh.getD i lz).cs:=by
 by_cases hi:i<p.wh.length
 ·exact h.cs i hi
 ·have h2:¬ i<q.wh.length:=by rw[<- h.len]; exact hi
  rw[XH,XH,Zk (by omega),Zk (by omega)]
theorem bu.size(h:bu q p)(ts:List af):oC ts p=oC ts q:=by
 funext s c
 unfold oC;simp only[h.src,h.clause]
theorem bu.key(h:bu q p)(ts:List af):iM ts p=iM ts q:=by
 funext n a b
 unfold iM;simp only[h.src,h.clause,h.len]
theorem bu.part(h:bu q p)(ts:List af):mf ts p=mf ts q:=by
 funext n l r
 unfold mf;simp only[h.size ts]
theorem bu.grow(h:bu q p)(ts:List af):ay ts p=ay ts q:=by
 funext n bs
 unfold ay;rw[h.part ts]
theorem bu.want(h:bu q p):jg p=jg q:=by
 unfold jg;rw[h.ord,h.aV]
theorem bu.ends(h:bu q p):jh p=jh q:=by
 funext k o
 unfold jh;rw[h.ord,h.want,h.keys]
theorem bu.ad7(h:bu q p):df p=df q:=by
 funext o
 unfold df;rw[h.group,h.keys]
theorem bu.LW(h:bu q p):aM p=aM q:=by
 unfold aM;rw[h.group,h.keys,h.want]
theorem bu.ended(h:bu q p)(ts:List af):gV ts p=gV ts q:=by
 funext t
 unfold gV;rw[h.grow ts,h.ends,h.ad7]
theorem bu.sorted(h:bu q p)(ts:List af):bO ts p=bO ts q:=by
 funext t o
 unfold bO;rw[h.grow ts]
theorem bu.ad8(h:bu q p)(ts:List af):eT ts p=eT ts q:=by
 funext t
 unfold eT;rw[h.ended ts,h.sorted ts,h.LW]
theorem bu.bD(h:bu q p)(ts:List af):jK ts p=jK ts q:=by
 funext b t
 unfold jK;rw[h.ad8 ts]
theorem bu.LX(h:bu q p)(ts:List af):bM ts p=bM ts q:=by
 funext t c
 unfold bM;rw[h.grow ts]
theorem bu.ad9(h:bu q p)(ts:List af):dP ts p=dP ts q:=by
 funext c s
 unfold dP;rw[h.grow ts,h.LX ts]
theorem bu.bT{q p:ae}(h:bu q p)(ts:List af):Zz.bT ts p=Zz.bT ts q:=by
 funext k
 induction k with
 | zero => show ay ts p _ _=ay ts q _ _; rw[h.grow ts]
 | succ k ih => show ay ts p _ [Zz.bT ts p k,ay ts p _ _]=ay ts q _ [Zz.bT ts q k,ay ts q _ _]; rw[h.grow ts,ih]
theorem bu.plain(h:bu q p)(ts:List af):fQ ts p=fQ ts q:=by
 unfold fQ;rw[h.grow ts,h.LX ts,h.bT ts,h.src,h.group,h.len,h.ord]
theorem bu.GN(h:bu q p)(ts:List af):fq ts p=fq ts q:=by
 funext g o
 unfold fq;rw[h.sorted ts]
theorem bu.aea(h:bu q p)(ts:List af):bg ts p=bg ts q:=by
 funext g l
 unfold bg;rw[h.GN ts]
theorem bu.ik{q p:ae}(h:bu q p)(ts:List af):Zz.ik ts p=Zz.ik ts q:=by
 funext l r g cl acc key
 unfold Zz.ik;rw[h.grow ts,h.key ts]
theorem bu.joined(h:bu q p)(ts:List af):dS ts p=dS ts q:=by
 funext c l g
 unfold dS;rw[h.grow ts,h.ik ts]
theorem bu.joins(h:bu q p)(ts:List af):jH ts p=jH ts q:=by
 funext c a b
 unfold jH;rw[h.joined ts]
theorem bu.keep{q p:ae}(h:bu q p)(rk:Nat->Int)(ts:List af):fG rk ts p=fG rk ts q:=by
 funext s l σ
 unfold fG;rw[h.src,h.bD ts,h.aea ts]
theorem bu.sV{q p:ae}(h:bu q p)(rk:Nat->Int)(ts:List af):Zz.sV rk ts p=Zz.sV rk ts q:=by
 funext c t σ
 unfold Zz.sV;rw[h.keep rk ts,h.ad9 ts,h.joins ts]
theorem bu.jA{q p:ae}(h:bu q p)(rk:Nat->Int)(ts:List af):Zz.jA rk ts p=Zz.jA rk ts q:=by
 funext c k σ
 unfold Zz.jA;rw[h.sV rk ts]
theorem bu.runN{q p:ae}(h:bu q p)(rk:Nat->Int)(ts:List af):Zz.runN rk ts p=Zz.runN rk ts q:=by
 funext c ps n
 induction n with
 | zero => rfl
 | succ n ih =>
  funext k σ
  show (if σ.status=1 then Zz.runN rk ts p c ps n (k+1) (Zz.jA rk ts p c (jL ps k) σ) else σ)=(if σ.status=1 then Zz.runN rk ts q c ps n (k+1) (Zz.jA rk ts q c (jL ps k) σ) else σ)
  rw[ih,h.jA rk ts]
theorem bu.goT{q p:ae}(h:bu q p)(rk:Nat->Int)(ts:List af):Zz.goT rk ts p=Zz.goT rk ts q:=by
 funext c ps n t σ
 unfold Zz.goT;rw[h.runN rk ts]
theorem bu.conc(h:bu q p)(ts:List af):aF ts p=aF ts q:=by
 have e:∀ r:ae,aF ts r=r.mP.map fun c=>bE (dD ts r.src.xs c):=fun r=>by
  unfold aF ae.mP;rw[XM];rfl
 rw[e p,e q,h.mP,h.src]
def Bj(ts:List af)(q:ae)(s:Nat)(acc:List (List Int))(c:List aC):List (List Int):=
 if ((bF c).2.2 && !aS s (bE (fo ts q [(bF c).1,(bF c).2.1])))=true then bI ts q s (bI ts q s acc (bF c).1) (bF c).2.1 else acc
theorem bu.fo{q p:ae}(h:bu q p)(ts:List af):Zz.fo ts p=Zz.fo ts q:=by
 funext xs
 unfold Zz.fo;rw[h.src]
theorem bu.bI{q p:ae}(h:bu q p)(ts:List af):Zz.bI ts p=Zz.bI ts q:=by
 funext s acc c
 unfold Zz.bI;rw[h.fo ts]
theorem bu.aiN(h:bu q p)(ts:List af):dU ts p=dU ts q:=by
 funext s
 have e:∀ (r:ae) (i:List (List Int)),r.wh.foldl (iA ts r s) i=r.mP.foldl (Bj ts r s) i:=fun r i=>by
  unfold ae.mP;rw[List.foldl_map];rfl
 have eg:Bj ts p s=Bj ts q s:=by
  funext acc c
  unfold Bj;rw[h.fo ts,h.bI ts]
 unfold dU;rw[e p,e q,h.mP,eg,h.fo ts,h.LW]
theorem bu.fA{q p:ae}(h:bu q p)(rk:Nat->Int)(ts:List af)(room:Nat):Zz.fA rk ts p room=Zz.fA rk ts q room:=by
 unfold Zz.fA;rw[h.src,h.aiN ts,h.plain ts]
structure Duo(ts:List af)(w0:World)(a b:Si)(Ma Mb:Nat->Prop)(σ τ:iO)(w:World):Prop where
 sa:∃ X L,dQ a.W a.f ts a.q X Ma w a.sb L σ/\∀ c,Mb c->X c
 sb:∃ X L,dQ b.W b.f ts b.q X Mb w b.sb L τ/\∀ c,Ma c->X c
 ca:w.cell? (aD a.pb 9)=some (.pointer (some (aD a.sb 0)))
 cb:w.cell? (aD b.pb 9)=some (.pointer (some (aD b.sb 0)))
 na:¬ Ma a.pb/\¬ Mb a.pb
 nb:¬ Ma b.pb/\¬ Mb b.pb
 apart:∀ c,Ma c->¬ Mb c
 la:∀ c,Ma c->w0.heap.size<=c
 lb:∀ c,Mb c->w0.heap.size<=c
 below:Bw w0 w
theorem Duo.swap(h:Duo ts w0 a b Ma Mb σ τ w):Duo ts w0 b a Mb Ma τ σ w:=
 ⟨h.sb,h.sa,h.cb,h.ca,h.nb.symm,h.na.symm,fun c hb ha=>h.apart c ha hb,h.lb,h.la,h.below⟩
theorem Duo.step(h:Duo ts w0 a b Ma Mb σ τ w)(hb:Bw w w'):Duo ts w0 a b Ma Mb σ τ w':=by
 obtain⟨X,L,s1,s2⟩:=h.sa;obtain⟨Y,K,t1,t2⟩:=h.sb;exact⟨⟨X,L,s1.below hb,s2⟩,⟨Y,K,t1.below hb,t2⟩,cB hb h.ca,cB hb h.cb,h.na,h.nb,h.apart,h.la,h.lb,h.below.trans (hb.mono h.below.size)⟩
theorem Duo.went{σ':iO}(h:Duo ts w0 a b Ma Mb σ τ w){X:Nat->Prop}(hX:∀ c,Mb c->X c)(hp:bX a.W a.f ts a.q X Ma w a.sb σ' w'):∃ Ma',Duo ts w0 a b Ma' Mb σ' τ w'/\Kept (fun c=>¬ Ma c) w w'/\∀ c,Ma' c->Ma c∨w.heap.size<=c:=by
 obtain⟨L',X',M',hs,hk,h1,h2,h3⟩:=hp;obtain⟨Y,K,t1,t2⟩:=h.sb;have hMb:∀ c,Mb c->c<w.heap.size:=fun c hc=>(t1.lt (t1.sub c hc)).2
 have hW:=t1.hz.below.size;have ht:=t1.other (N:=Ma) (N':=fun c=>M' c/\w.heap.size<=c) t2 (fun c hc ha=>h.apart c ha hc) hk (fun c hc=>.inr hc.2) (fun c=>Iff.rfl) (fun c hc=>(hs.lt (hs.sub c hc.1)).2) (fun c hc=>Zl hW hc.2);have Tm:a.pb<w.heap.size:=Zv h.ca;have hpb:b.pb<w.heap.size:=Zv h.cb;refine⟨M',⟨⟨X',L',hs,fun c hc=>(h3 c).2 (.inl (hX c hc))⟩,⟨_,K,ht,fun c hc=>?_⟩,?_,?_,⟨fun hc=>?_,h.na.2⟩,⟨fun hc=>?_,h.nb.2⟩,fun c hc hb=>?_,fun c hc=>?_,h.lb,?_⟩,hk,h2⟩
 ·rcases h2 c hc with h0 | h0
  ·exact .inl (t2 c h0)
  ·exact .inr ⟨hc,h0⟩
 ·exact X0 hk h.ca h.na.1
 ·exact X0 hk h.cb h.nb.1
 ·rcases h2 _ hc with h0 | h0
  ·exact h.na.1 h0
  ·omega
 ·rcases h2 _ hc with h0 | h0
  ·exact h.nb.1 h0
  ·omega
 ·rcases h2 _ hc with h0 | h0
  ·exact h.apart c h0 hb
  ·have:=hMb c hb; omega
 ·rcases h2 _ hc with h0 | h0
  ·exact h.la c h0
  ·exact Zl h.below.size h0
 ·exact h.below.trans (hk.below h.below.size fun c hc h0=>by have:=h.la c h0; omega)
theorem Duo.make{room:Nat}{w1 w2:World}(ha:rJ ts (fun _=>False) q room w0 a Ma w1)(hb:rJ ts (fun c=>c=a.pb∨Ma c) q room w1 b Mb w2):Duo ts w0 a b Ma Mb (fA bA ts a.q room) (fA bA ts b.q room) w2:=by
 obtain⟨L,s⟩:=ha.se;obtain⟨K,t⟩:=hb.se;have hl1:∀ c,Ma c->c<w1.heap.size:=fun c hc=>(s.lt (s.sub c hc)).2
 have hl2:∀ c,Mb c->c<w2.heap.size:=fun c hc=>(t.lt (t.sub c hc)).2
 have hW:=s.hz.below.size;have hs:=s.other (N:=fun _=>False) (N':=Mb) (X':=fun c=>((False∨c=a.pb)∨Ma c)∨Mb c) (w':=w2) (fun c h=>h.elim) (fun c _ h=>h) (Zo hb.below (fun _ h _=>h)) (fun c h=>.inr (hb.new c h)) (fun c=>Iff.rfl) hl2 (fun c h=>Zl hW (hb.new c h));have Tm:a.pb<w1.heap.size:=Zv ha.cell;refine⟨⟨_,L,hs,fun c hc=>.inr hc⟩,⟨_,K,t,fun c hc=>.inl (.inl (.inr hc))⟩,cB hb.below ha.cell,hb.cell,⟨ha.npb,fun h=>?_⟩,⟨fun h=>?_,hb.npb⟩,fun c h1 h2=>?_,ha.new,fun c hc=>Zl ha.below.size (hb.new c hc),ha.below.trans (hb.below.mono ha.below.size)⟩
 ·have:=hb.new _ h;omega
 ·have:=hl1 _ h;have:=hb.pb;omega
 ·have:=hl1 c h1;have:=hb.new c h2;omega
theorem Duo.run(E:Env a.f ts a.q a.W)(h:Duo ts w0 a b Ma Mb σ τ w)(hok:Es a.q σ)(n:Nat)(hpl:σ.picks.length+n<=900)(tick:Int)(po:Option Addr)(pc:Nat)(ps:List Int)(hp:aB w0 po ps)(hpb:∀ c,po=some c->c.block<w0.heap.size) :
  Calls Tryz.prog 26 #[.pointer (some (aD a.pb 0)),.int .i64 (n:Int),.int .i64 tick,.slice po ps.length pc] w fun e w'=>∃ Ma' σ',σ' = goT bA ts a.q (aF ts a.q) ps n tick σ/\e=.returned (.int .i64 σ'.status)/\Duo ts w0 a b Ma' Mb σ' τ w'/\Kept (fun c=>¬ Ma c) w w'/\∀ c,Ma' c->Ma c∨w.heap.size<=c:=by
 obtain⟨X,L,s,hX⟩:=h.sa;have hr:=aeg E s hok n hpl tick ⟨po,pc,ps⟩ (Qv h.below hp) (fun c ec hm=>by
  have h1:=hpb c ec;have h2:=h.la _ hm;omega)
 refine(Vv a.pb a.sb n tick po ps.length pc w h.ca hr (fun e w' hr=>by
  obtain⟨σ',_,e1,_⟩:=hr;exact⟨_,e1⟩)).mono ?_
 rintro e w' ⟨σ',h1,rfl,h3⟩;obtain⟨Ma',hd,hk,hm⟩:=h.went hX h3;exact⟨Ma',σ',h1,rfl,hd,hk,hm⟩
theorem Duo.bD{ts:List af}{w0:World}{a b:Si}{Ma Mb:Nat->Prop}{σ τ:iO}{w:World}(E:Env a.f ts a.q a.W)(h:Duo ts w0 a b Ma Mb σ τ w)(hok:Es a.q σ) :
  Calls Tryz.prog 25 #[.pointer (some (aD a.pb 0))] w fun e w'=>∃ ao cap nv,e=.returned (.tuple #[.slice ao nv.length cap,.int .u64 (σ.bD.d.cost:Int)])/\nv.map eQ=σ.bD.ns/\fI 58 (fun c=>w.heap.size<=c) w.heap.size w' (.slice ao nv.length cap) nv/\nv.length<=1000/\Bw w w':=by
 obtain⟨X,L,s,hX⟩:=h.sa;refine(P5 a.pb a.sb w h.ca (Vp E s hok.core.bD hok.core.small (F:=fun c=>w.heap.size<=c) (fun _ h=>h)) (fun e w' hr=>by
  obtain⟨v,nv,e1,_⟩:=hr;exact⟨_,_,e1⟩)).mono ?_
 rintro e w' ⟨v,nv,rfl,h1,h2,h3⟩;have hl:nv.length<=1000:=by
  have e1:=congrArg List.length h1;rw[Zc]at e1;have:=hok.core.small;omega
 obtain⟨ao,cap,rfl,_⟩:=h2.plan hl;exact⟨ao,cap,nv,rfl,h1,h2,hl,h3⟩
theorem Duo.steps(h:Duo ts w0 a b Ma Mb σ τ w) :
  Ce 28 #[.pointer (some (aD a.pb 0))] w (.int .i64 (σ.picks.length:Int)):=by
 obtain⟨X,L,s,hX⟩:=h.sa;obtain⟨v0,v1,v2,v3,v4,v5,v6,v7,v8,v9,v10,v11,v12,bB,-⟩:=Xu a.f ts a.q;have hpv:∃ ao cap,L.pv=.slice ao σ.picks.length cap:=by
  rcases s.pk.2 with⟨e,h0⟩ | ⟨g,cap,cur,e,_⟩
  ·exact⟨none,0,by rw[e,h0]⟩
  ·exact⟨_,_,e⟩
 obtain⟨ao,cap,hpv⟩:=hpv;have hgb:=s.cells bB;have c17:=hgb.at 17;rw[hpv]at c17;exact LY a.pb a.sb w h.ca (O3 a.sb ao σ.picks.length cap w c17) (fun e w' hr=>⟨_,hr.1⟩)
structure Both(ts:List af)(w0:World)(po:Option Addr)(ps:List Int)(q:ae)(a b:Si):Prop where
 ea:Env a.f ts a.q a.W
 eb:Env b.f ts b.q b.W
 qa:bu q a.q
 qb:bu q b.q
 ps:aB w0 po ps
 pb:∀ c,po=some c->c.block<w0.heap.size
theorem rJ.lt{ts:List af}{N:Nat->Prop}{q:ae}{room:Nat}{w:World}{P:Si}{M:Nat->Prop}{w':World}(h:rJ ts N q room w P M w'){c:Nat}(hc:c=P.pb∨M c):c<w'.heap.size:=by
 rcases hc with rfl | hc
 ·exact Zv h.cell
 ·obtain⟨L,s⟩:=h.se;exact(s.lt (s.sub c hc)).2
theorem fI.aus(h:fI Tn F base w v nv):∀ i,i<nv.length->(nv.getD i nz).co.xs.length<=(nv.getD i nz).co.cap:=fun i hi=>by
 refine(h.lists _ ?_).2.2.2.2;rw[XH,ZX hi];exact Qp hi
theorem BF.told{t:aQ}(h:BF ts q t)(hc:q.check ts=0)(hn:nv.map eQ=t.ns):Bl ts q nv=t.d.cost/\Su ts q nv=0:=by
 obtain⟨ds,h1,h2⟩:=h.cost hn;unfold Bl Su;rw[Qy hc,Qy hc,h1];exact⟨h2,rfl⟩
theorem Rl(E:Env a.f ts a.q a.W)(h:Duo ts w0 a b Ma Mb σ τ w)(hok:Es a.q σ)(co:Option Addr)(cc:Nat)(dv:Value)(q:ae)(hts:aZ w0 co ts)(hq:q.At w0)(hkc:q.keys.xs.length<=q.keys.cap)(hoc:q.ord.xs.length<=q.ord.cap)(hs:bQ w0 0)(CV:q.check ts=0)(hbf:BF ts q σ.bD) :
  Cb 27 #[.agg (caseA (.slice co ts.length cc) q dv),.pointer (some (aD a.pb 0))] w (.tuple #[.int .u64 (σ.bD.d.cost:Int),.bool true]):=by
 obtain⟨v0,v1,v2,v3,v4,v5,v6,uW⟩:∃ v0 v1 v2 v3 v4 v5 v6,q.cells=#[v0,v1,v2,v3,v4,v5,v6]:=⟨_,_,_,_,_,_,_,rfl⟩
 have hCA:caseA (.slice co ts.length cc) q dv=#[.slice co ts.length cc,v0,v1,v2,v3,v4,v5,v6,dv]:=by
  have:caseA (.slice co ts.length cc) q dv=#[.slice co ts.length cc]++q.cells ++ #[dv]:=rfl;rw[this,uW];rfl
 rw[hCA];have nG:Hid (∀ x (ao:Option Addr) (cap:Nat) (nv:List ai),Bw w x->kE x ao nv->(∀ i,i<nv.length->(nv.getD i nz).co.xs.length<=(nv.getD i nz).co.cap)->nv.map eQ=σ.bD.ns->Cb 12 #[.slice co ts.length cc,.agg q.cells,.slice ao nv.length cap] x (.tuple #[.int .u64 (σ.bD.d.cost:Int),.int .i64 0])):=fun x ao cap nv hb hn hcap hp=>by
  have hbx:=aA h.below hb;have:=EU co cc ts q ao cap nv x (hts.below hbx) (hq.below hbx) hkc hoc hn (XJ hbx hs) hcap;obtain⟨e1,e2⟩:=hbf.told CV hp;rw[e1,e2]at this;exact this
 rw[uW]at nG;obtain⟨w1,hw1,hb1,hg1⟩:=aU w #[.slice co ts.length cc,v0,v1,v2,v3,v4,v5,v6,dv] 53;obtain⟨a0,a1,a2,a3,a4,a5,a6,a7⟩:=hg1.k8;have HB1:=Zh hb1;have afQ:=(h.step hb1).bD E hok;clear hts hq hkc hoc hs CV hbf hok E h uW hCA hb1 hg1;generalize σ.bD.d.cost=C at *;generalize σ.bD.ns=R at *;go_enter Tryz.func27,Tryz.ntmps27;go_wp2_with fail;refine afQ.mono ?_;rintro e w2 ⟨ao,cap,nv,rfl,hnv,hK,hl,hb2⟩;obtain⟨ao',cap',ev,hna⟩:=hK.plan hl;injection ev with ev1 ev2 ev3;subst ev1;clear ev2 ev3;have afR:=nG.o w2 ao cap nv (aA HB1.o hb2) hna hK.aus hnv;have d0:=cB hb2 a0;have d1:=cB hb2 a1;have d2:=cB hb2 a2;have d3:=cB hb2 a3;have d4:=cB hb2 a4;have d5:=cB hb2 a5;have d6:=cB hb2 a6;have d7:=cB hb2 a7;have HB2:=Zh (aA HB1.o hb2);clear afQ hnv hK hl hb2 hna nG hw1 a0 a1 a2 a3 a4 a5 a6 a7;go_wp2_with fail;refine afR.mono ?_;rintro e w3 ⟨rfl,hb3⟩;have HB3:=Zh (aA HB2.o hb3);clear afR hb3 d0 d1 d2 d3 d4 d5 d6 d7;go_wp2;go_ret2;exact⟨rfl,HB3.o⟩
theorem MF(lo:Option Addr)(lc:Nat)(l:List Int)(n1 n2 n3:Int)(po:Option Addr)(pc:Nat)(ps:List Int)(W:World)(hI:aB W lo l)(hR:∀ x∈l,-9223372036854775808<=x/\x<=9223372036854775807)(hB:∀ a,lo=some a->a.block<W.heap.size)(hP:aB W po ps)(hPB:∀ a,po=some a->a.block<W.heap.size)(hS:bQ W 0)
  (h1:-9223372036854775808<=n1/\n1<=9223372036854775807) (h2:-9223372036854775808<=n2/\n2<=9223372036854775807) (h3:-9223372036854775808<=n3/\n3<=9223372036854775807) :
  Calls Tryz.prog 7 #[.slice lo l.length lc,.int .i64 n1,.int .i64 n2,.int .i64 n3,.slice po ps.length pc] W fun e W'=>e=.returned (.bool true)/\Bw W W':=by
 have hm:=aaK lo lc l W hI hR hB;have HP:Hid (aB W po ps/\∀ a,po=some a->a.block<W.heap.size):=⟨hP,hPB⟩
 have HS:Hid (bQ W 0/\0<W.heap.size):=⟨hS,Zv (hS 0 _ rfl)⟩
 have oG:Hid (∀ x:World,Ce 22 #[.int .i64 n1,.int .i64 1000] x (.int .i64 (mD n1 1000))):=fun x=>uC n1 1000 x (by omega) h1
 have rQ:Hid (∀ x:World,Ce 22 #[.int .i64 n2,.int .i64 200] x (.int .i64 (mD n2 200))):=fun x=>uC n2 200 x (by omega) h2
 have rU:Hid (∀ x:World,Ce 22 #[.int .i64 n3,.int .i64 400] x (.int .i64 (mD n3 400))):=fun x=>uC n3 400 x (by omega) h3
 obtain⟨r,hr,hr1⟩:∃ n:Nat,mD n1 1000=(n:Int)/\n<1000:=by
  have:=oK (c:=n1) (n:=1000) (by omega);exact⟨(mD n1 1000).toNat,by omega,by omega⟩
 obtain⟨n,hn,hn1⟩:∃ n:Nat,mD n2 200=(n:Int)/\n<200:=by
  have:=oK (c:=n2) (n:=200) (by omega);exact⟨(mD n2 200).toNat,by omega,by omega⟩
 obtain⟨m,hmm,hm1⟩:∃ n:Nat,mD n3 400=(n:Int)/\n<400:=by
  have:=oK (c:=n3) (n:=400) (by omega);exact⟨(mD n3 400).toNat,by omega,by omega⟩
 rw[hr]at oG;rw[hn]at rQ;rw[hmm]at rU;have HNK:Hid (r<1000/\n<200/\m<400):=⟨hr1,hn1,hm1⟩
 obtain⟨R,hR⟩:∃ R:Nat,R=r+1:=⟨_,rfl⟩
 obtain⟨S2,hS2⟩:∃ S:Nat,S=n+m:=⟨_,rfl⟩
 have HRW:Hid (wrap64 (1+(r:Int))=(R:Int)):=by show _=_; unfold wrap64; omega
 have HNW:Hid (wrap64 ((n:Int)+(m:Int))=(S2:Int)):=by show _=_; unfold wrap64; omega
 have HRR:Hid (1<=R/\R<=1000/\S2=n+m):=⟨by omega,by omega,hS2⟩
 clear hR hS2;clear hI hR hB hP hPB hS h1 h2 h3 hr hn hmm hr1 hn1 hm1;go_enter Tryz.func7,Tryz.ntmps7;go_wp2_with fail;refine hm.mono ?_;rintro e w1 ⟨ts,q,db,co,d,cc,dc,rfl,hok,hts,hco,hcc,hls,Mx,hb1⟩;obtain⟨x0,y0,z0,x1,y1,z1,g0,x3,y3,z3,x4,y4,z4,x5,y5,z5,x6,y6,z6,uW⟩:∃ x0 y0 z0 x1 y1 z1 g0 x3 y3 z3 x4 y4 z4 x5 y5 z5 x6 y6 z6,q.cells=#[(.slice x0 y0 z0),(.slice x1 y1 z1),(.bool g0),(.slice x3 y3 z3),(.slice x4 y4 z4),(.slice x5 y5 z5),(.slice x6 y6 z6)]:=⟨_,_,_,_,_,_,_,_,_,_,_,_,_,_,_,_,_,_,_,rfl⟩
 have hCA:caseA (.slice co ts.length cc) q (.slice d db.length dc)=#[.slice co ts.length cc,(.slice x0 y0 z0),(.slice x1 y1 z1),(.bool g0),(.slice x3 y3 z3),(.slice x4 y4 z4),(.slice x5 y5 z5),(.slice x6 y6 z6),.slice d db.length dc]:=by
  have:caseA (.slice co ts.length cc) q (.slice d db.length dc)=#[.slice co ts.length cc]++q.cells ++ #[.slice d db.length dc]:=rfl;rw[this,uW];rfl
 obtain⟨W2,hW2,hb2,hg2⟩:=aU w1 #[.slice co ts.length cc,(.slice x0 y0 z0),(.slice x1 y1 z1),(.bool g0),(.slice x3 y3 z3),(.slice x4 y4 z4),(.slice x5 y5 z5),(.slice x6 y6 z6),.slice d db.length dc] 53;have hB2:=aA hb1 hb2;have Ib:=hls.keep (Zo (s:=fun _=>True) hb2 (fun b hb _=>hb)) (fun _ _=>trivial);have CV:=Db hok;have aji:=hts.below hb2;have MZ:Hid (∀ x N,Bw W2 x->(∀ b,N b->b<x.heap.size)->¬ N 0->Calls Tryz.prog 24 #[.agg #[.slice co ts.length cc,(.slice x0 y0 z0),(.slice x1 y1 z1),(.bool g0),(.slice x3 y3 z3),(.slice x4 y4 z4),(.slice x5 y5 z5),(.slice x6 y6 z6),.slice d db.length dc],.int .i64 (R:Int)] x fun e w'=>∃ P M,e=.returned (.tuple #[.pointer (some (aD P.pb 0)),.bool true])/\rJ ts N q R x P M w'):=fun x N hb hN h0=>by
  rw[<- hCA];exact EH co cc (.slice d db.length dc) ts q db R W.heap.size N x (aji.below hb) (Ib.keep (Zo (s:=fun _=>True) hb (fun b hb _=>hb)) (fun _ _=>trivial)) hok (XJ (aA hB2 hb) HS.o.1) HRR.o.1 HRR.o.2.1 hN h0 (Q6 HS.o.2 (aA hB2 hb).size)
 have FR:Hid (∀ (a b:Si) (Ma Mb:Nat->Prop) (σ τ:iO) (x:World),Env a.f ts a.q a.W->Duo ts W2 a b Ma Mb σ τ x->Es a.q σ->BF ts q σ.bD->Cb 27 #[.agg #[.slice co ts.length cc,(.slice x0 y0 z0),(.slice x1 y1 z1),(.bool g0),(.slice x3 y3 z3),(.slice x4 y4 z4),(.slice x5 y5 z5),(.slice x6 y6 z6),.slice d db.length dc],.pointer (some (aD a.pb 0))] x (.tuple #[.int .u64 (σ.bD.d.cost:Int),.bool true])):=fun a b Ma Mb σ τ x E h ok bf=>by
  rw[<- hCA];exact Rl E h ok co cc (.slice d db.length dc) q aji Ib.at' Ib.keys.2.2 Ib.ord.2.2 (XJ hB2 HS.o.1) CV bf
 have HQF:=Zh (aoe CV);have HB2:=Zh hB2;have qI:=Zh hg2.lt;obtain⟨c0,c1,c2,c3,c4,c5,c6,c7,c8⟩:=hg2.k9;clear hm hok hts aji hco hcc hls Mx hb1 hb2 hg2 hB2 Ib uW CV;rw[hCA];clear hCA;go_upto_region 2 with fail
 try rw[hW2]
 clear hW2;go_wp2_with fail;refine(oG.o W2).mono ?_;rintro e w4' ⟨rfl,hw⟩;rw[hw];clear hw w4';have hBg:=MZ.o W2 (fun _=>False) (Qw _ _) (fun _ h=>h.elim) (fun h=>h);go_wp2_with fail;rw[HRW.o];refine hBg.mono ?_;rintro e w3 ⟨a,Ma,rfl,hA⟩;clear hBg;have hBg:=MZ.o w3 (fun c=>c=a.pb∨Ma c) hA.below (fun c hc=>hA.lt hc) (fun h=>by
  have g0:=HS.o.2;have g1:=HB2.o.size;rcases h with h | h
  ·have:=hA.pb;omega
  ·have:=hA.new 0 h;omega)
 have HA:=Zh hA;have d0:=cB hA.below c0;have d1:=cB hA.below c1;have d2:=cB hA.below c2;have d3:=cB hA.below c3;have d4:=cB hA.below c4;have d5:=cB hA.below c5;have d6:=cB hA.below c6;have d7:=cB hA.below c7;have d8:=cB hA.below c8;clear hA c0 c1 c2 c3 c4 c5 c6 c7 c8;go_wp2_with fail;refine hBg.mono ?_;rintro e w4 ⟨b,Mb,rfl,hB⟩;have ajj:=Duo.make HA.o hB;obtain⟨σ,hσ⟩:=eY (fA bA ts q R)
 rw[HA.o.same.fA bA ts R,hB.same.fA bA ts R,<- hσ]at ajj;have HDU:=Zh ajj;have IX:Hid (Both ts W2 po ps q a b):=⟨HA.o.env,hB.env,HA.o.same,hB.same,Qv HB2.o HP.o.1,fun c hc=>Q6 (HP.o.2 c hc) HB2.o.size⟩
 have Ba:Hid (Es a.q σ/\Es b.q σ/\Es q σ/\SF ts q σ/\σ.picks=[]):=by
  have hq:=HQF.o;refine⟨?_,?_,?_,?_,by rw[hσ]; rfl⟩
  ·rw[hσ,<- HA.o.same.fA bA ts R];exact zG bA ts a.q R (by rw[HA.o.same.src]; exact hq.one) (by rw[HA.o.same.src]; exact hq.five) (by rw[HA.o.same.len]; exact hq.eight) HRR.o.1
  ·rw[hσ,<- hB.same.fA bA ts R];exact zG bA ts b.q R (by rw[hB.same.src]; exact hq.one) (by rw[hB.same.src]; exact hq.five) (by rw[hB.same.len]; exact hq.eight) HRR.o.1
  ·rw[hσ];exact zG bA ts q R hq.one hq.five hq.eight HRR.o.1
  ·rw[hσ];exact abu hq bA R
 have e0:=cB hB.below d0;have e1:=cB hB.below d1;have e2:=cB hB.below d2;have e3:=cB hB.below d3;have e4:=cB hB.below d4;have e5:=cB hB.below d5;have e6:=cB hB.below d6;have e7:=cB hB.below d7;have e8:=cB hB.below d8;clear ajj hB hBg HA MZ HP HS d0 d1 d2 d3 d4 d5 d6 d7 d8 hσ;go_wp2_with fail;refine(VV w4).mono ?_;rintro e w5 ⟨rfl,hb5⟩;have HD0:=Zh (HDU.o.step hb5);have f0:=cB hb5 e0;have f1:=cB hb5 e1;have f2:=cB hb5 e2;have f3:=cB hb5 e3;have f4:=cB hb5 e4;have f5:=cB hb5 e5;have f6:=cB hb5 e6;have f7:=cB hb5 e7;have f8:=cB hb5 e8;clear hb5 HDU e0 e1 e2 e3 e4 e5 e6 e7 e8;go_wp2_with fail;refine(rQ.o w5).mono ?_;rintro e w4' ⟨rfl,hw⟩;rw[hw];clear hw w4';have abC:=HD0.o.run IX.o.ea Ba.o.1 n (by rw[Ba.o.2.2.2.2]; have:=HNK.o.2.1; simp; omega) (-1) po pc ps IX.o.ps IX.o.pb;go_wp2_with fail;refine abC.mono ?_;rintro e w6 ⟨Ma1,σ1,hσ1,rfl,hd1,hk1,-⟩;rw[IX.o.qa.goT bA ts,IX.o.qa.conc ts,Ij (by omega)]at hσ1;have HD1:=Zh hd1;have HQ1:Hid (σ1=runN bA ts q (eZ ts q) ps n 0 σ):=hσ1;have k0:=X0 hk1 f0 (fun h=>by have:=HD0.o.la _ h; have:=qI.o; omega);have k1:=X0 hk1 f1 (fun h=>by have:=HD0.o.la _ h; have:=qI.o; omega);have k2:=X0 hk1 f2 (fun h=>by have:=HD0.o.la _ h; have:=qI.o; omega);have k3:=X0 hk1 f3 (fun h=>by have:=HD0.o.la _ h; have:=qI.o; omega);have k4:=X0 hk1 f4 (fun h=>by have:=HD0.o.la _ h; have:=qI.o; omega);have k5:=X0 hk1 f5 (fun h=>by have:=HD0.o.la _ h; have:=qI.o; omega);have k6:=X0 hk1 f6 (fun h=>by have:=HD0.o.la _ h; have:=qI.o; omega);have k7:=X0 hk1 f7 (fun h=>by have:=HD0.o.la _ h; have:=qI.o; omega);have k8:=X0 hk1 f8 (fun h=>by have:=HD0.o.la _ h; have:=qI.o; omega);clear abC hσ1 hd1 hk1 HD0 f0 f1 f2 f3 f4 f5 f6 f7 f8;go_wp2_with fail;refine(rU.o w6).mono ?_;rintro e w4' ⟨rfl,hw⟩;rw[hw];clear hw w4';have abC:=HD1.o.swap.run IX.o.eb Ba.o.2.1 S2 (by rw[Ba.o.2.2.2.2]; have:=HNK.o; have:=HRR.o; simp; omega) (-1) po pc ps IX.o.ps IX.o.pb
 go_wp2_with fail;rw[HNW.o];refine abC.mono ?_;rintro e w7 ⟨Mb1,τ1,hτ1,rfl,hd2,hk2,-⟩;rw[IX.o.qb.goT bA ts,IX.o.qb.conc ts,Ij (by omega)]at hτ1;have HD2:=Zh hd2.swap;have HQ2:Hid (τ1=runN bA ts q (eZ ts q) ps S2 0 σ):=hτ1;have R9:Hid (Es a.q σ1/\Es b.q τ1/\BF ts q σ1.bD/\BF ts q τ1.bD):=by
  refine⟨?_,?_,?_,?_⟩
  ·rw[HQ1.o]
   show Es a.q (runN bA ts q (aF ts q) ps n 0 σ)
   rw[<- IX.o.qa.runN bA ts,<- IX.o.qa.conc ts];exact(uD (Xa ts a.q) IX.o.ea.five ps Ba.o.1 n).1
  ·rw[HQ2.o]
   show Es b.q (runN bA ts q (aF ts q) ps S2 0 σ)
   rw[<- IX.o.qb.runN bA ts,<- IX.o.qb.conc ts];exact(uD (Xa ts b.q) IX.o.eb.five ps Ba.o.2.1 S2).1
  ·rw[HQ1.o];exact(Rk HQF.o ps Ba.o.2.2.1 Ba.o.2.2.2.1 n).bD
  ·rw[HQ2.o];exact(Rk HQF.o ps Ba.o.2.2.1 Ba.o.2.2.2.1 S2).bD
 have HNU:Hid (τ1.bD.d.cost<=σ1.bD.d.cost/\σ1.picks.length<=n/\σ1.picks.length<=τ1.picks.length):=by
  have g1:=abv bA ts q (eZ ts q) ps σ n m;have g2:=(uD (rk:=bA) (ts:=ts) (iJ ts q) HQF.o.five ps Ba.o.2.2.1 n).2;rw[<- HRR.o.2.2,<- HQ1.o,<- HQ2.o]at g1;rw[<- HQ1.o,Ba.o.2.2.2.2]at g2;simp at g2;exact⟨g1.1,g2,g1.2⟩
 have m0:=X0 hk2 k0 (fun h=>by have:=HD1.o.lb _ h; have:=qI.o; omega);have m1:=X0 hk2 k1 (fun h=>by have:=HD1.o.lb _ h; have:=qI.o; omega);have m2:=X0 hk2 k2 (fun h=>by have:=HD1.o.lb _ h; have:=qI.o; omega);have m3:=X0 hk2 k3 (fun h=>by have:=HD1.o.lb _ h; have:=qI.o; omega);have m4:=X0 hk2 k4 (fun h=>by have:=HD1.o.lb _ h; have:=qI.o; omega);have m5:=X0 hk2 k5 (fun h=>by have:=HD1.o.lb _ h; have:=qI.o; omega);have m6:=X0 hk2 k6 (fun h=>by have:=HD1.o.lb _ h; have:=qI.o; omega);have m7:=X0 hk2 k7 (fun h=>by have:=HD1.o.lb _ h; have:=qI.o; omega);have m8:=X0 hk2 k8 (fun h=>by have:=HD1.o.lb _ h; have:=qI.o; omega);clear abC hτ1 hd2 hk2 HD1 HQ1 HQ2 k0 k1 k2 k3 k4 k5 k6 k7 k8;have Uw:=FR.o a b Ma1 Mb1 σ1 τ1 w7 IX.o.ea HD2.o R9.o.1 R9.o.2.2.1;go_wp2_with fail;refine Uw.mono ?_;rintro e w8 ⟨rfl,Ag⟩;have HD3:=Zh (HD2.o.step Ag);have p0:=cB Ag m0;have p1:=cB Ag m1;have p2:=cB Ag m2;have p3:=cB Ag m3;have p4:=cB Ag m4;have p5:=cB Ag m5;have p6:=cB Ag m6;have p7:=cB Ag m7;have p8:=cB Ag m8;clear Uw Ag HD2 m0 m1 m2 m3 m4 m5 m6 m7 m8;have Uw:=FR.o b a Mb1 Ma1 τ1 σ1 w8 IX.o.eb HD3.o.swap R9.o.2.1 R9.o.2.2.2;go_wp2_with fail;refine Uw.mono ?_;rintro e w9 ⟨rfl,xI⟩;have HD4:=Zh (HD3.o.step xI);clear Uw xI HD3 FR p0 p1 p2 p3 p4 p5 p6 p7 p8;go_wp2_with fail;refine HD4.o.steps.mono ?_;rintro e w9' ⟨rfl,hw⟩;rw[hw];clear hw w9';go_wp2_with fail;refine HD4.o.swap.steps.mono ?_;rintro e w9' ⟨rfl,hw⟩;rw[hw];clear hw w9';obtain⟨A,hA⟩:∃ A:Nat,A=σ1.bD.d.cost:=⟨_,rfl⟩
 obtain⟨B,hB⟩:∃ B:Nat,B=τ1.bD.d.cost:=⟨_,rfl⟩
 obtain⟨K,hK⟩:∃ K:Nat,K=σ1.picks.length:=⟨_,rfl⟩
 obtain⟨K2,hK2⟩:∃ K:Nat,K=τ1.picks.length:=⟨_,rfl⟩
 rw[<- hA,<- hB,<- hK,<- hK2];have hnu:=HNU.o;rw[<- hA,<- hB,<- hK,<- hK2]at hnu;obtain⟨u1,u2,u3⟩:=hnu;have gz:=Zh (aA HB2.o HD4.o.below);clear hA hB hK hK2 HNU HD4;go_wp2;go_ret;exact⟨rfl,gz.o⟩
