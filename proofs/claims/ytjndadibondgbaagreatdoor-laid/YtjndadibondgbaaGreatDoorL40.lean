import Derived.Test.YtjndadibondgbaaGreatDoorL25
import Derived.Test.YtjndadibondgbaaGreatDoorL38
set_option linter.all false
set_option maxRecDepth 100000
set_option maxHeartbeats 16000000
namespace Go.Proofs.Zz
open Go.RowKit Go.Shelf
variable {ts:List af} {q:ae} {n1 ns:List ah} {ps:List bZ} {op op':List Nat} {l r s:Nat} {C Cl Cr O Ol Or S Sl Sr T cl hv ow src us:List Int} {a b key kind x y:Int} {cs:List ak}
abbrev nd (k l r s:Int) (cl:List Int) (key:Int) (co:List Int):ah:=⟨k,l,r,s,⟨none,0,cl⟩,key,⟨none,0,co⟩⟩
structure CF(ts:List af)(q:ae)(ns:List ah)(ps:List bZ)(op:List Nat):Prop where
 lq:LQ ts q ns ps
 once:∀ k,k<ns.length->uC ns k=if k∈op then 0 else 1
theorem CF.snoc{ts:List af}{q:ae}{ns:List ah}{ps:List bZ}{op op':List Nat}(h:CF ts q ns ps op){n:ah}(hs:nC n ns.length)(hf:kV n.kind (ed n ps) (dV n ps)=true/\bJ ts q n (ed n ps) (dV n ps)=true)(hi:(ins n).Nodup)(hin:∀ k∈ins n,k∈op)(ho:∀ k,k<ns.length->(k∈op'↔k∈op/\k ∉ ins n))(hl:ns.length∈op') :
  CF ts q (ns++[n]) (ps++[iB ts q n (ed n ps) (dV n ps)]) op':=by
 refine⟨h.lq.snoc hs (by rw[hf.1,hf.2]; rfl),fun k g=>?_⟩;rw[ZC,ZX]at g;have e:uC [n] k=(ins n).count k:=by simp[uC]
 rw[ace,e];by_cases a:k<ns.length
 ·rw[h.once k a];by_cases d:k∈ins n
  ·rw[Qu (hin k d),Qv (fun e=>((ho k a).1 e).2 d),hi.count,Qu d]
  ·rw[List.count_eq_zero_of_not_mem d];by_cases b:k∈op
   ·rw[Qu b,Qu ((ho k a).2 ⟨b,d⟩)]
   ·rw[Qv b,Qv (fun e=>b ((ho k a).1 e).1)]
 ·obtain rfl:k=ns.length:=by omega
  rw[Qu hl,List.count_eq_zero_of_not_mem (fun e=>Nat.lt_irrefl _ (acf hs _ e)),WT];intro m d e;obtain⟨i,f,rfl⟩:=Qx d;have:=h.lq.st i f;rw[Ja,ZT f]at this;have:=acf this _ e;omega
structure Pt(ts:List af)(q:ae)(p:bZ)(S C O:List Int):Prop where
 kind:dO p.kind=false
 src:p.sources=aL S
 cl:p.clauses=aL C
 ord:p.order=O
 size:p.size=jS ts q (aL S) (aL C)
theorem Bu(h:CF ts q ns ps op)(p:bZ){i:Nat}(hi:i<ns.length):(ps++[p]).getD i pz=ps.getD i pz/\(ps++[p]).getD ns.length pz=p:=by
 rw[Jb,Jb,Qu (by rw[h.lq.len]; exact hi),Qv (by rw[h.lq.len]; omega),h.lq.len,XZ];exact⟨rfl,rfl⟩
theorem afq(h:CF ts q ns ps op)(hop:∀ k∈op,k<ns.length)(hs:s<q.src.xs.length) :
  ∃ p,CF ts q (ns++[nd 1 0 0 s [] 0 []]) (ps++[p]) (op++[ns.length])/\Pt ts q p [(s:Int)] [] []:=by
 refine⟨_,h.snoc ⟨by simp,by simp,by simp[jT,arity],fun h=>by simp[arity]at h,fun h=>by simp[arity]at h⟩ ⟨by simp[kV,ed,dV,arity,pz,dO],by simp[bJ,hs]⟩ (by simp[ins,arity]) (fun k a=>by simp[ins,arity]at a) (fun k a=>by simp[ins,arity]; omega) (by simp),?_⟩;have e:ed (nd 1 0 0 s [] 0 []) ps=pz/\dV (nd 1 0 0 s [] 0 []) ps=pz:=⟨by simp[ed,arity],by simp[dV,arity]⟩
 rw[e.1,e.2];refine⟨by simp[iB,dO],?_,?_,?_,?_⟩
 ·simp[iB,pz,aL]
 ·simp[iB,pz,aL]
 ·simp[iB]
 ·simp[iB,dO,pz,aL]
theorem KG(h:CF ts q ns ps op)(ok:Ok ts q)(hS:aP q.src.xs.length S)(hl:l<ns.length)(ho:l∈op)(hp:Pt ts q (ps.getD l pz) S C O){n:ah}
  (hn:(∃ cl,n=nd 2 l 0 0 cl 0 []/\cl≠[]/\dR ts q cl S=true)∨∃ c,n=nd 6 l 0 0 [] 0 [c]/\0<=c/\c<ai ts q.src.xs/\(aj ts q.src.xs c:Int)∈S) (hop:∀ k,k<ns.length->(k∈op'↔k∈op/\k≠l)) (hl':ns.length∈op') :
  ∃ p,CF ts q (ns++[n]) (ps++[p]) op'/\Pt ts q p S (C++n.cl.xs) (if n.kind=6 then n.co.xs else O)/\p.cost=fU n.kind p.size (ps.getD l pz).cost (ps.getD l pz).size 0 0:=by
 have b:n.kind=2∨n.kind=6:=by rcases hn with⟨_,rfl,_⟩ | ⟨_,rfl,_⟩ <;> simp
 have i:arity n.kind=1:=by rcases b with e | e <;> rw[e] <;> decide
 have a:n.l=l/\n.r=0/\jT n=true/\n.cl.xs=n.cl.xs:=by rcases hn with⟨_,rfl,_⟩ | ⟨_,rfl,_⟩ <;> simp[jT,arity]
 have d:ed n ps=ps.getD l pz:=by unfold ed; rw[i,Qu (by omega),a.1]; rfl
 have f:dV n ps=pz:=by unfold dV; rw[i,Qv (by omega)]
 have j:ins n=[l]:=by unfold ins; rw[i,Qv (by omega),Qu rfl,a.1]; rfl
 have t:bJ ts q n (ed n ps) (dV n ps)=true:=by
  rw[d,f];rcases hn with⟨cl,rfl,h0,h1⟩ | ⟨c,rfl,h0,h1,h2⟩
  ·unfold bJ;rw[Qv (by simp),Qu rfl,hp.src,rG ok.cat ok.src ok.small ok.cols hS,h1,Xz,QE];exact List.length_pos_iff.2 h0
  ·unfold bJ;rw[Qv (by simp),Qv (by simp),Qv (by simp),Qv (by simp),Qv (by simp),Qu rfl,hp.src,Hq ok.cat ok.src ok.small hS (by simp)];simp[aM,dJ,h0,h1,h2]
 refine⟨_,h.snoc ⟨by omega,by omega,a.2.2.1,fun _=>by rw[a.1]; omega,fun e=>by omega⟩ ⟨?_,t⟩ (by rw[j]; simp) (fun k b=>by rw[j]at b; simp at b; rw[b]; exact ho) (fun k b=>by rw[j]; simpa using hop k b) hl',?_,?_⟩
 ·unfold kV;rw[d,f,hp.kind,Qg (by omega)];rfl
 ·rw[d,f];have m:dO n.kind=false:=by rcases b with e | e <;> rw[e] <;> decide
  have o:(if n.kind=1 then 2 ^ n.source.toNat else 0)|||(ps.getD l pz).sources|||pz.sources=aL S:=by rw[Qv (by omega),Nat.zero_or,hp.src]; exact Nat.or_zero _
  have s:aL n.cl.xs|||(ps.getD l pz).clauses|||pz.clauses=aL (C++n.cl.xs):=by rw[hp.cl,Xi,Nat.or_comm (aL C)]; exact Nat.or_zero _
  refine⟨m,o,s,?_,?_⟩
  ·show (if n.kind=6 then n.co.xs else if 2<=n.kind/\n.kind<=5 then _ else [])=_
   by_cases g:n.kind=6
   ·rw[Qu g,Qu g]
   ·rw[Qv g,Qv g,Qu (by omega),hp.ord]
  ·show (if dO n.kind=true then _ else jS ts q _ _)=_
   rw[Qv (by rw[m]; decide),o,s]
 ·rw[d,f];rfl
theorem acg(h:CF ts q ns ps op)(ok:Ok ts q)(hSl:aP q.src.xs.length Sl)(hSr:aP q.src.xs.length Sr)(hl:l<ns.length)(hr:r<ns.length)(hlr:l≠r)(hol:l∈op)(hor:r∈op)(hpl:Pt ts q (ps.getD l pz) Sl Cl Ol)(hpr:Pt ts q (ps.getD r pz) Sr Cr Or)
  (hap:∀ x∈Sl,x ∉ Sr) (hls:dR ts q cl (bC Sl Sr)=true) (hk:kind=3/\key=0∨(kind=4∨kind=5)/\key∈cl/\(eP ts q.src.xs (q.wh.getD key.toNat lz).cs Sl Sr).2.2=true/\(kind=5->Ol=[(eP ts q.src.xs (q.wh.getD key.toNat lz).cs Sl Sr).1]/\Or=[(eP ts q.src.xs (q.wh.getD key.toNat lz).cs Sl Sr).2.1]))
  (hop:∀ k,k<ns.length->(k∈op'↔k∈op/\k≠l/\k≠r)) (hl':ns.length∈op') :
  ∃ p,CF ts q (ns++[nd kind l r 0 cl key []]) (ps++[p]) op'/\Pt ts q p (Sl++Sr) (Cl++Cr++cl) Ol:=by
 generalize u:nd kind l r 0 cl key []=n;have m:n.kind=kind/\n.key=key/\n.l=l/\n.r=r/\n.cl.xs=cl:=by rw[<- u]; exact⟨rfl,rfl,rfl,rfl,rfl⟩
 obtain⟨E,g,b,d,a⟩:=m;have f:3<=n.kind/\n.kind<=5:=by omega
 have i:arity n.kind=2:=by unfold arity; rw[Qv (by omega),Qu f]
 have B:jT n=true:=by
  unfold jT;rw[QE,i];refine⟨.inl (by omega),.inl (by omega),.inr (by rw[<- u]),?_,.inr (.inl f),.inr (by rw[<- u]; rfl)⟩;rcases hk with e | e <;> omega
 have o:ed n ps=ps.getD l pz:=by unfold ed; rw[i,Qu (by omega),b]; rfl
 have s:dV n ps=ps.getD r pz:=by unfold dV; rw[i,Qu rfl,d]; rfl
 have t:ins n=[l,r]:=by unfold ins; rw[i,Qv (by omega),Qv (by omega),b,d]; rfl
 have C:jJ ts q n (aL Sl) (aL Sr)=true:=by
  unfold jJ;rw[Nh ok hSl hSr,a,hls,Xz,QE];by_cases e:aL Sl &&& aL Sr=0
  ·exact e
  ·obtain⟨x,F,G⟩:=(Dp hSl hSr).1 e;exact absurd G (hap x F)
 have D:bJ ts q n (ed n ps) (dV n ps)=true:=by
  rw[o,s];unfold bJ;rw[Qv (by omega),Qv (by omega),hpl.src,hpr.src,C];rcases hk with⟨e,_⟩ | ⟨e,hin,hsd,h5⟩
  ·rw[Qu (by omega)]
  ·obtain⟨j,k2⟩:=Dr ok n hSl hSr (by rw[a]; exact hls);rw[g,a,Qy hin,hsd]at j;have k3:=k2 j;rw[g]at k3;rw[Qv (by omega)];by_cases A:n.kind=4
   ·rw[Qu A,j]; rfl
   ·have v:kind=5:=by omega
    rw[Qv A,Qu (by omega),j,k3,hpl.ord,hpr.ord,(h5 v).1,(h5 v).2];simp[bW]
 refine⟨_,h.snoc ⟨by omega,by omega,B,fun _=>by rw[b]; omega,fun _=>by rw[d]; omega⟩ ⟨?_,D⟩ (by rw[t]; simpa using hlr) (fun k hk=>by rw[t]at hk; simp at hk; rcases hk with e | e <;> rw[e] <;> assumption) (fun k hk=>by rw[t]; simpa using hop k hk) hl',?_⟩
 ·unfold kV;rw[o,s,hpl.kind,hpr.kind,Qg (by omega)];rfl
 ·rw[o,s];have w:dO n.kind=false:=by unfold dO; rw[Qg (by omega)]; rfl
  have y:(if n.kind=1 then 2 ^ n.source.toNat else 0)|||(ps.getD l pz).sources|||(ps.getD r pz).sources=aL (Sl++Sr):=by rw[Qv (by omega),Nat.zero_or,hpl.src,hpr.src,Xi]
  have z:aL n.cl.xs|||(ps.getD l pz).clauses|||(ps.getD r pz).clauses=aL (Cl++Cr++cl):=by rw[a,hpl.cl,hpr.cl,Xi,Xi,Nat.or_assoc,Nat.or_comm]
  refine⟨w,y,z,?_,?_⟩
  ·show (if n.kind=6 then n.co.xs else if 2<=n.kind/\n.kind<=5 then _ else [])=_
   rw[Qv (by omega),Qu (by omega),hpl.ord]
  ·show (if dO n.kind=true then _ else jS ts q _ _)=_
   rw[Qv (by rw[w]; decide),y,z]
theorem NV(h:bI ts src cs S=true)(hs:∀ x∈S,x∈T):bI ts src cs T=true:=by
 unfold bI at *;rw[Qp]at *;exact fun c a=>Qy (hs _ (Xk (h c a)))
theorem jb{U:List Int}{i:Int}:i∈iO ts q S U↔(0<=i/\i<q.wh.length)/\bI ts q.src.xs (q.wh.getD i.toNat lz).cs S=true/\i ∉ U:=by
 unfold iO mR;simp only[ZU,Xl,Xm,Qo,Xu,Qf];constructor
 ·rintro⟨k,⟨e,a,b⟩,rfl⟩;exact⟨⟨by omega,by omega⟩,a,b⟩
 ·rintro⟨⟨d,e⟩,a,b⟩;exact⟨i.toNat,⟨by omega,a,by rwa [Xj d]⟩,Xj d⟩
theorem Ed(ts:List af)(q:ae)(S U:List Int):(iO ts q S U).Pairwise (· < ·):=by
 unfold iO mR;rw[List.pairwise_map];exact(List.pairwise_lt_range.filter _).imp fun h=>by omega
theorem Bz(ts:List af)(q:ae)(S U:List Int):(iO ts q S U).Nodup:=(Ed ts q S U).imp fun h=>by omega
theorem rT(U:List Int)(hs:∀ x∈S,x∈T):dR ts q (iO ts q S U) T=true:=by
 unfold dR;rw[Qp];intro i a;rw[Xm]at a;have e:∀ j,(h:j<(iO ts q S U).length)->(iO ts q S U).getD j 0=(iO ts q S U)[j]:=fun j h=>by simp[List.getD,h]
 obtain⟨b,d,_⟩:=jb.1 (Qk a);rw[e i a];simp only[Qo,Z4,QE];refine⟨⟨b,?_⟩,NV d hs⟩;by_cases f:i=0
 ·exact .inl f
 ·right;rw[e (i-1) (by omega)];exact Xt.1 (Ed ts q S U) (i-1) i (by omega) a (by omega)
theorem IQ{wh:List az}(h:0<=dZ wh cl):dZ wh cl∈cl/\aiI (wh.getD (dZ wh cl).toNat lz).cs:=by
 unfold dZ at *
 cases e:cl.find? (DY wh) with
 | none => rw[e]at h; simp at h
 | some k =>
  have a:=List.find?_some e;unfold DY at a;simp only[Qo,Xu,QE]at a;exact⟨List.mem_of_find?_eq_some e,a.1,a.2.2.1,a.2.2.2,a.2.1⟩
def WU(ts:List af)(src:List Int)(c:ak)(s:Int):Int × Int:=if ((aj ts src c.left:Nat):Int)=s then (c.left,c.right) else (c.right,c.left)
theorem WV{s:Int}(h:aiI cs)(hin:bI ts src cs (hv++[s])=true)(ha:¬ bI ts src cs hv=true)(hb:¬ bI ts src cs [s]=true)(hs:s ∉ hv)(e:(a,b)=WU ts src (cs.getD 0 cz) s) :
  eP ts src cs [s] hv=(a,b,true)/\eP ts src cs hv [s]=(b,a,true)/\(aj ts src a:Int)∈[s]/\(aj ts src b:Int)∈hv/\a∈aG cs/\b∈aG cs:=by
 have g:=WJ h;unfold bI at hin ha hb;rw[g]at hin ha hb ⊢;obtain⟨i,j,k,l⟩:=h;simp only[XE,List.all_nil,Xz,Qo,QE,Zx,Zw]at hin ha hb;unfold WU at e;unfold eP;simp only[Qv (show ¬ (cs.length≠1∨(cs.getD 0 cz).not=true∨(cs.getD 0 cz).const=true∨(cs.getD 0 cz).op≠0) by rw[i,j,k,l]; simp),Zw];generalize (cs.getD 0 cz).left=L at *;generalize (cs.getD 0 cz).right=R at *;by_cases c:((aj ts src L:Nat):Int)=s
 ·rw[Qu c]at e;injection e with e1 e2;subst e1 e2;have d:((aj ts src b:Nat):Int)∈hv:=hin.2.resolve_right fun e=>hb ⟨c,e⟩
  rw[Qu ⟨c,d⟩,Qv (fun e=>hs (c ▸ e.1)),Qy d,Qy c];exact⟨rfl,rfl,c,d,by simp,by simp⟩
 ·rw[Qv c]at e;injection e with e1 e2;subst e1 e2;have f:=hin.1.resolve_right c;have d:((aj ts src a:Nat):Int)=s:=hin.2.resolve_left fun e=>ha ⟨f,e⟩
  rw[Qv (fun e=>c e.1),Qu ⟨f,d⟩,Qy f,Qy d];exact⟨rfl,rfl,d,f,by simp,by simp⟩
def zt(m:Nat)(l r:Int)(fr:List Int)(key kind x y:Int):List ah:=
 if key<0∨kind=0 then [nd 3 l r 0 fr 0 []] else if kind=1 then [nd 4 l r 0 fr key []] else [bz l x,bz r y,nd 5 m (m+1) 0 fr key []]
theorem Vk(h:CF ts q ns ps [l,r])(ok:Ok ts q)(hSl:aP q.src.xs.length Sl)(hSr:aP q.src.xs.length Sr)(hl:l<ns.length)(hr:r<ns.length)(hlr:l≠r)(hpl:Pt ts q (ps.getD l pz) Sl Cl Ol)(hpr:Pt ts q (ps.getD r pz) Sr Cr Or)
  (hap:∀ x∈Sl,x ∉ Sr) (hls:dR ts q cl (bC Sl Sr)=true) (hk:0<=key->key∈cl/\eP ts q.src.xs (q.wh.getD key.toNat lz).cs Sl Sr=(x,y,true)/\(aj ts q.src.xs x:Int)∈Sl/\(aj ts q.src.xs y:Int)∈Sr/\x∈aG (q.wh.getD key.toNat lz).cs/\y∈aG (q.wh.getD key.toNat lz).cs) :
  ∃ a O,CF ts q (ns++zt ns.length l r cl key kind x y) a [(ns++zt ns.length l r cl key kind x y).length-1]/\Pt ts q (a.getD ((ns++zt ns.length l r cl key kind x y).length-1) pz) (Sl++Sr) (Cl++Cr++cl) O:=by
 have b:∀ {kd ky:Int},(kd=3/\ky=0∨kd=4/\ky=key/\0<=key)->∃ a O,CF ts q (ns++[nd kd l r 0 cl ky []]) a [(ns++[nd kd l r 0 cl ky []]).length-1]/\Pt ts q (a.getD ((ns++[nd kd l r 0 cl ky []]).length-1) pz) (Sl++Sr) (Cl++Cr++cl) O:=fun {kd ky} hkd=>by
  obtain⟨p,j,s⟩:=acg h ok hSl hSr hl hr hlr (by simp) (by simp) hpl hpr (kind:=kd) (key:=ky) (cl:=cl) hap hls (by
   rcases hkd with e | ⟨f,d,g⟩
   ·exact .inl e
   ·obtain⟨m,k2,_⟩:=hk g;exact .inr ⟨.inl f,d ▸ m,by rw[d,k2],fun e=>by omega⟩) (op':=[ns.length]) (fun k hk=>by simp; omega) (by simp)
  rw[ZC,ZX,Xq];exact⟨_,_,j,by rw[(Bu h p hl).2]; exact s⟩
 unfold zt;by_cases A:key<0∨kind=0
 ·rw[Qu A];exact b (.inl ⟨rfl,rfl⟩)
 rw[Qv A];have t:0<=key:=by omega
 by_cases B:kind=1
 ·rw[Qu B];exact b (.inr ⟨rfl,rfl,t⟩)
 rw[Qv B];obtain⟨m,k2,k3,k4,k5,k6⟩:=hk t;have I:=(gN ok hls key m)
 have u:=ok.cols key.toNat (by omega) x k5;have v:=ok.cols key.toNat (by omega) y k6;obtain⟨p,j,s,_⟩:=KG h ok hSl hl (by simp) hpl (n:=bz l x) (.inr ⟨x,rfl,u.1,u.2,k3⟩) (op':=[r,ns.length]) (fun k hk=>by simp; omega) (by simp);have f:=Bu h p hr;have C:(ns++[bz l x]).length=ns.length+1:=by simp
 obtain⟨E,w,F,_⟩:=KG j ok hSr (l:=r) (by omega) (by simp) (by rw[f.1]; exact hpr) (n:=bz r y) (.inr ⟨y,rfl,v.1,v.2,k4⟩) (op':=[ns.length,ns.length+1]) (fun k hk=>by simp; omega) (by simp);have d:=Bu j E (i:=ns.length) (by omega);have o:(ns++[bz l x]++[bz r y]).length=ns.length+2:=by simp
 rw[C]at d;obtain⟨G,H,z⟩:=acg w ok hSl hSr (l:=ns.length) (r:=ns.length+1) (by omega) (by omega) (by omega) (by simp) (by simp) (by rw[d.1,f.2]; exact s) (by rw[d.2]; exact F) (kind:=5) (key:=key) (cl:=cl) hap hls (.inr ⟨.inr rfl,m,by rw[k2],fun _=>by rw[k2]; exact⟨rfl,rfl⟩⟩) (op':=[ns.length+2]) (fun k hk=>by simp; omega) (by rw[o]; simp);have g:=Bu w G (i:=ns.length) (by omega);rw[o]at g;have D:ns++[bz l x,bz r y,nd 5 ns.length (ns.length+1) 0 cl key []]=ns++[bz l x]++[bz r y]++[nd 5 ((ns.length:Nat):Int) ((ns.length+1:Nat):Int) 0 cl key []]:=by simp
 rw[D,ZC,o];rw[show Cl++(bz l x).cl.xs++(Cr++(bz r y).cl.xs)++cl=Cl++Cr++cl by simp[bz],<- g.2]at z;exact⟨_,_,H,z⟩
theorem Pt.same{p:bZ}{D:List Int}(h:Pt ts q p S C O)(e:aL S=aL T)(f:aL C=aL D):Pt ts q p T D O:=⟨h.kind,e ▸ h.src,f ▸ h.cl,h.ord,e ▸ f ▸ h.size⟩
structure Rv(ts:List af)(q:ae)(hv us:List Int)(ns:List ah):Prop where
 parts:∃ ps O,CF ts q ns ps (if ns.length=0 then [] else [ns.length-1])/\(ns.length≠0->Pt ts q (ps.getD (ns.length-1) pz) hv us O)
 knd:∀ n∈ns,n.kind<=6
 few:ns.length<=5*hv.length
 zero:ns.length=0↔hv=[]
 ass:hv=[]->us=[]
 am0:hv.Nodup
 hsm:aP q.src.xs.length hv
 am1:us.Nodup
 usm:aP q.wh.length us
 am2:hv≠[]->∀ i:Int,0<=i->i<q.wh.length->bI ts q.src.xs (q.wh.getD i.toNat lz).cs hv=true->i∈us
theorem Rv.nil(ts:List af)(q:ae):Rv ts q [] [] []:=⟨⟨[],[],⟨LQ.nil ts q,fun k b=>absurd b (by simp)⟩,fun h=>absurd rfl h⟩,(fun n d=>absurd d (by simp)),by simp,by simp,fun _=>rfl,Xx,(fun x a=>absurd a (by simp)),Xx,(fun x a=>absurd a (by simp)),fun h=>absurd rfl h⟩
theorem AA{a b:List Int}(ha:a.Nodup)(hb:b.Nodup)(h:∀ x∈b,x ∉ a):(a++b).Nodup:=List.nodup_append.2 ⟨ha,hb,fun x d y f e=>h y f (e ▸ d)⟩
theorem Rv.own(h:Rv ts q hv us ns)(ok:Ok ts q)(hs:s<q.src.xs.length)(how:ow=iO ts q [(s:Int)] us)(hn1:n1=ns++[nd 1 0 0 s [] 0 []]++(if ow=[] then [] else [nd 2 ns.length 0 0 ow 0 []])) :
  ∃ ps O,CF ts q n1 ps ((if ns.length=0 then [] else [ns.length-1])++[n1.length-1])/\Pt ts q (ps.getD (n1.length-1) pz) [(s:Int)] ow []/\(ns.length≠0->Pt ts q (ps.getD (ns.length-1) pz) hv us O)/\ns.length<n1.length/\n1.length<=ns.length+2/\∀ n∈n1,n.kind<=6:=by
 obtain⟨ps,O,d,w⟩:=h.parts;have a:∀ k∈(if ns.length=0 then [] else [ns.length-1]),k<ns.length:=fun k g=>by
  split at g
  ·cases g
  ·simp at g; omega
 obtain⟨p,r,y⟩:=afq d a hs;have j:aP q.src.xs.length [(s:Int)]:=fun x t=>by rw[Zw]at t; omega
 have m:(ns++[nd 1 0 0 (s:Int) [] 0 []]).length=ns.length+1:=by simp
 have A:ps.length=ns.length:=d.lq.len;have v:(ps++[p]).getD ns.length pz=p:=by rw[<- A,Jb,Qv (by omega),XZ]; rfl
 by_cases c:ow=[]
 ·rw[Qu c,XB]at hn1;subst hn1 c;rw[m,Xq];refine⟨_,O,r,by rw[v]; exact y,fun u=>?_,by omega,by omega,fun n b=>?_⟩
  ·rw[(Bu d p (i:=ns.length-1) (by omega)).1]; exact w u
  ·rcases Zx.1 b with e | e
   ·exact h.knd n e
   ·simp at e; rw[e]; simp
 ·rw[Qv c]at hn1;obtain⟨C,z,D,_⟩:=KG r ok j (l:=ns.length) (by omega) (by simp) (by rw[v]; exact y) (n:=nd 2 ns.length 0 0 ow 0 []) (.inl ⟨ow,rfl,c,by rw[how]; exact rT us fun x t=>t⟩) (op':=(if ns.length=0 then [] else [ns.length-1])++[ns.length+1]) (fun k g=>by
   have:=a k;simp only[Zx,Zw];constructor
   ·rintro (e | e)
    ·exact⟨.inl e,by have:=this e; omega⟩
    ·omega
   ·rintro⟨e | e,f⟩
    ·exact .inl e
    ·omega) (by rw[m]; simp)
  have B:n1.length=ns.length+2:=by rw[hn1]; simp
  rw[B,show ns.length+2-1=ns.length+1 by omega];rw[<- hn1]at z;have o:=Bu r C (i:=ns.length-1) (by omega);rw[m]at o;refine⟨_,O,z,by rw[o.2]; exact D,fun u=>?_,by omega,by omega,fun n b=>?_⟩
  ·rw[o.1,(Bu d p (i:=ns.length-1) (by omega)).1]; exact w u
  ·rw[hn1]at b;simp only[Zx,Zw]at b;rcases b with (e | e) | e
   ·exact h.knd n e
   ·rw[e]; simp
   ·rw[e]; simp
theorem Rv.more(h:Rv ts q hv us ns)(hs:s<q.src.xs.length)(hn:(s:Int) ∉ hv)(how:ow=iO ts q [(s:Int)] us) :
  (hv++[(s:Int)]).Nodup/\aP q.src.xs.length (hv++[(s:Int)])/\(us++ow).Nodup/\aP q.wh.length (us++ow):=by
 subst how;refine⟨AA h.am0 (by simp) (fun x a=>by rw[Zw]at a; rw[a]; exact hn),fun x a=>?_,AA h.am1 (Bz ..) (fun x a=>(jb.1 a).2.2),fun x a=>?_⟩
 ·rcases Zx.1 a with e | e
  ·exact h.hsm x e
  ·rw[Zw]at e; omega
 ·rcases Zx.1 a with e | e
  ·exact h.usm x e
  ·exact(jb.1 e).1
theorem Rv.first(h:Rv ts q hv us ns)(ok:Ok ts q)(hs:s<q.src.xs.length)(h0:hv=[])(how:ow=iO ts q [(s:Int)] us)(hn1:n1=ns++[nd 1 0 0 s [] 0 []]++(if ow=[] then [] else [nd 2 ns.length 0 0 ow 0 []])):Rv ts q (hv++[(s:Int)]) (us++ow) n1:=by
 obtain⟨ps,O,a,d,_,b,p,f⟩:=h.own ok hs how hn1;obtain⟨g,j,k,l⟩:=h.more hs (by rw[h0]; simp) how;have z:=h.zero.2 h0;have u0:=h.ass h0;subst h0 u0;rw[Qu z]at a;refine⟨⟨ps,_,by rw[Qv (by omega)]; exact a,fun _=>d⟩,f,by simp; omega,by simp; exact fun e=>by rw[e]at b; simp at b,fun e=>by simp at e,g,j,k,l,fun _ i m n o=>?_⟩;rw[how];exact jb.2 ⟨⟨m,n⟩,o,by simp⟩
theorem Rv.join(h:Rv ts q hv us ns)(ok:Ok ts q)(hs:s<q.src.xs.length)(hn:(s:Int) ∉ hv)(h0:hv≠[])(how:ow=iO ts q [(s:Int)] us)(hn1:n1=ns++[nd 1 0 0 s [] 0 []]++(if ow=[] then [] else [nd 2 ns.length 0 0 ow 0 []]))
  {fr:List Int} (hfr:fr=iO ts q (hv++[(s:Int)]) (us++ow)) (kind:Int) (first:Bool) {l r:Int} (hab:(a,b)=WU ts q.src.xs ((q.wh.getD (dZ q.wh fr).toNat lz).cs.getD 0 cz) s)
  (hxy:(l,r,x,y)=if first=true then ((n1.length:Int)-1,(ns.length:Int)-1,a,b) else ((ns.length:Int)-1,(n1.length:Int)-1,b,a)) :
  Rv ts q (hv++[(s:Int)]) (us++ow++fr) (n1++zt n1.length l r fr (dZ q.wh fr) kind x y):=by
 obtain⟨ps,O,D,H,I,J,X,M⟩:=h.own ok hs how hn1;obtain⟨N,P,Q,R⟩:=h.more hs hn how;have z:ns.length≠0:=fun e=>h0 (h.zero.1 e)
 rw[Qv z]at D;have p:aP q.src.xs.length [(s:Int)]:=fun x f=>by rw[Zw]at f; omega
 have g:0<=dZ q.wh fr->dZ q.wh fr∈fr/\eP ts q.src.xs (q.wh.getD (dZ q.wh fr).toNat lz).cs [(s:Int)] hv=(a,b,true)/\eP ts q.src.xs (q.wh.getD (dZ q.wh fr).toNat lz).cs hv [(s:Int)]=(b,a,true)/\(aj ts q.src.xs a:Int)∈[(s:Int)]/\(aj ts q.src.xs b:Int)∈hv/\a∈aG (q.wh.getD (dZ q.wh fr).toNat lz).cs/\b∈aG (q.wh.getD (dZ q.wh fr).toNat lz).cs:=fun o=>by
  obtain⟨m,k2⟩:=IQ o;refine⟨m,?_⟩;generalize dZ q.wh fr=k at *;rw[hfr]at m;obtain⟨⟨K,L⟩,S,E⟩:=jb.1 m;rw[Zx,not_or]at E;exact WV k2 S (fun e=>E.1 (h.am2 h0 k K L e)) (fun e=>E.2 (by rw[how]; exact jb.2 ⟨⟨K,L⟩,e,E.1⟩)) hn hab
 have j:∀ A B:List Int,aL (A++B)=aL (B++A):=fun A B=>by rw[Xi,Xi,Nat.or_comm]
 have t:∃ d O,CF ts q (n1++zt n1.length l r fr (dZ q.wh fr) kind x y) d [(n1++zt n1.length l r fr (dZ q.wh fr) kind x y).length-1]/\Pt ts q (d.getD ((n1++zt n1.length l r fr (dZ q.wh fr) kind x y).length-1) pz) (hv++[(s:Int)]) (us++ow++fr) O:=by
  have F:((n1.length-1:Nat):Int)=(n1.length:Int)-1:=by omega
  have G:((ns.length-1:Nat):Int)=(ns.length:Int)-1:=by omega
  cases first with
  | true =>
   rw[Qu rfl,<- F,<- G]at hxy;injection hxy with e1 hxy;injection hxy with e2 hxy;injection hxy with e3 e4;subst e1 e2 e3 e4;obtain⟨d,v,w,C⟩:=Vk (l:=n1.length-1) (r:=ns.length-1) (key:=dZ q.wh fr) (kind:=kind) (x:=x) (y:=y) (cl:=fr) (by
    have e:CF ts q n1 ps [n1.length-1,ns.length-1]:=⟨D.lq,fun k o=>by rw[D.once k o]; simp[or_comm]⟩
    exact e) ok p h.hsm (by omega) (by omega) (by omega) H (I z) (fun x f=>by rw[Zw]at f; rw[f]; exact hn) (by rw[hfr]; exact rT _ fun x f=>Xh.2 (by simpa [or_comm] using f)) (fun o=>by
    obtain⟨m,k2,_,k4,k5,k6,k7⟩:=g o;exact⟨m,k2,k4,k5,k6,k7⟩)
   exact⟨d,v,w,C.same (j _ _) (by rw[Xi,j,<- Xi])⟩
  | false =>
   rw[Qv (by simp),<- F,<- G]at hxy;injection hxy with e1 hxy;injection hxy with e2 hxy;injection hxy with e3 e4;subst e1 e2 e3 e4;obtain⟨d,v,w,C⟩:=Vk (l:=ns.length-1) (r:=n1.length-1) (key:=dZ q.wh fr) (kind:=kind) (x:=x) (y:=y) (cl:=fr) D ok h.hsm p (by omega) (by omega) (by omega) (I z) H (fun x f e=>by rw[Zw]at e; exact hn (e ▸ f)) (by rw[hfr]; exact rT _ fun x f=>Xh.2 (by simpa using f)) (fun o=>by
    obtain⟨m,_,k3,k4,k5,k6,k7⟩:=g o;exact⟨m,k3,k5,k4,k7,k6⟩)
   exact⟨d,v,w,C⟩
 obtain⟨d,v,w,C⟩:=t;have u:1<=(zt n1.length l r fr (dZ q.wh fr) kind x y).length/\(zt n1.length l r fr (dZ q.wh fr) kind x y).length<=3/\∀ n∈zt n1.length l r fr (dZ q.wh fr) kind x y,n.kind<=6:=by
  unfold zt;split
  ·simp
  ·split
   ·simp
   ·simp[bz]
 have W:=h.few;refine⟨⟨d,v,by rw[Qv (by rw[ZC]; omega)]; exact w,fun _=>C⟩,fun n hn=>(Zx.1 hn).elim (M n) (u.2.2 n),by rw[ZC,ZC,ZX]; omega,?_,fun e=>by simp at e,N,P,AA Q (by rw[hfr]; exact Bz ..) (fun x f=>by rw[hfr]at f; exact(jb.1 f).2.2),fun x f=>(Zx.1 f).elim (R x) fun e=>by rw[hfr]at e; exact(jb.1 e).1,fun _ i T U V=>?_⟩
 ·rw[ZC];simp;intro e;rw[e]at J;simp at J
 ·by_cases e:i∈us++ow
  ·exact List.mem_append_left _ e
  ·exact List.mem_append_right _ (by rw[hfr]; exact jb.2 ⟨⟨T,U⟩,V,e⟩)
def jL(q:ae)(k:Nat):List ah:=nd (if q.group then 7 else 9) ((k:Int)-1) 0 0 [] 0 []::if q.ord.xs=[] then [] else [nd 10 k 0 0 [] 0 []]
def NW(q:ae)(z c:Nat):Nat:=if q.ord.xs=[] then fU (if q.group then 7 else 9) z c z 0 0 else fU 10 z (fU (if q.group then 7 else 9) z c z 0 0) z 0 0
theorem AJ{a b:Nat}(l:List Nat)(h:a<=b):iN (a::l)<=iN (b::l):=by
 rw[pK,pK,Z8,Z8];omega
theorem Tc(q:ae)(z:Nat){c d:Nat}(h:c<=d):NW q z c<=NW q z d:=by
 have a:∀ (k:Int) {c d:Nat},(k=7∨k=9∨k=10)->c<=d->fU k z c z 0 0<=fU k z d z 0 0:=fun k {c d} hk h=>by
  unfold fU;rcases hk with rfl | rfl | rfl
  ·exact AJ _ h
  ·exact AJ _ h
  ·exact AJ _ h
 have b:=a (if q.group then 7 else 9) (by split <;> simp) h;unfold NW;split
 ·exact b
 ·exact a 10 (by simp) b
theorem CF.look(h:CF ts q ns ps [ns.length-1])(h1:1<=ns.length)(h64:ns.length<=64)(ho:(dO (ns.getD (ns.length-1) nz).kind&&pO q (ns.getD (ns.length-1) nz).kind (ps.getD (ns.getD (ns.length-1) nz).l.toNat pz).order)=true):fV ts q ns=some ps:=by
 have a:dI ns=true:=by
  unfold dI;simp only[Qo,QE,Qp];refine⟨⟨⟨h1,h64⟩,fun i d=>(SY _ _).2 (h.lq.st i (Xm.1 d))⟩,?_⟩;unfold yS;rw[Qp];intro k b;rw[Xm]at b;rw[QE,acd h.lq.st,h.once k (by omega),Qv (by simp; omega)]
 unfold fV;rw[a,Qv (by simp),h.lq.parts _ (Qs _),<- h.lq.len,Qw];simp only[Option.bind_some,h.lq.len];rw[Qu ho]
theorem CF.tail(h:CF ts q ns ps [ns.length-1])(h1:1<=ns.length)(h64:ns.length<=60)(hp:Pt ts q (ps.getD (ns.length-1) pz) S C O)(hS:aL S=2 ^ q.src.xs.length-1)(hC:aL C=2 ^ q.wh.length-1) :
  ∃ p,fV ts q (ns++jL q ns.length)=some p/\(p.getD (p.length-1) pz).cost=NW q (ps.getD (ns.length-1) pz).size (ps.getD (ns.length-1) pz).cost:=by
 obtain⟨n,b⟩:=eY (nd (if q.group then 7 else 9) ((ns.length:Int)-1) 0 0 [] 0 [])
 have a:n.kind=7/\q.group=true∨n.kind=9/\q.group=false:=by rw[b]; cases q.group <;> simp
 have d:arity n.kind=1:=by rcases a with e | e <;> rw[e.1] <;> decide
 have j:ed n ps=ps.getD (ns.length-1) pz:=by unfold ed; rw[d,Qu (by omega),b]; show ps.getD ((ns.length:Int)-1).toNat pz=_; rw[show ((ns.length:Int)-1).toNat=ns.length-1 by omega]
 have r:dV n ps=pz:=by unfold dV; rw[d,Qv (by omega)]
 have m:ins n=[ns.length-1]:=by unfold ins; rw[d,Qv (by omega),Qu rfl,b]; show [((ns.length:Int)-1).toNat]=_; rw[show ((ns.length:Int)-1).toNat=ns.length-1 by omega]
 have y:jT n=true:=by
  unfold jT;rw[QE,d];rw[b];exact⟨.inl (by omega),.inr rfl,.inr rfl,.inr (.inr rfl),.inr (.inr rfl),.inr rfl⟩
 have A:jq q (ps.getD (ns.length-1) pz)=true:=by unfold jq; rw[hp.src,hp.cl,hS,hC]; simp
 have i:dO n.kind=true:=by rcases a with e | e <;> rw[e.1] <;> decide
 have B:n.l=(ns.length:Int)-1:=by rw[b]
 have g:=h.snoc (n:=n) (op':=[ns.length]) ⟨by omega,by omega,y,fun _=>by omega,fun e=>by omega⟩ ⟨by unfold kV; rw[j,r,hp.kind,Qg (by omega)]; rfl,by
  unfold bJ;rw[j,A];rcases a with⟨e,f⟩ | ⟨e,f⟩ <;> rw[e,f] <;> simp⟩ (by rw[m]; simp) (fun k a=>by rw[m]at a; exact a) (fun k a=>by rw[m]; simp; omega) (by simp)
 rw[j,r]at g;have s:∀ z,(iB ts q n (ps.getD (ns.length-1) pz) z).cost=fU n.kind (ps.getD (ns.length-1) pz).size (ps.getD (ns.length-1) pz).cost (ps.getD (ns.length-1) pz).size z.cost z.size:=fun z=>by
  show fU n.kind (if dO n.kind=true then _ else _) _ _ _ _=_
  rw[Qu i]
 have D:∀ z,(iB ts q n (ps.getD (ns.length-1) pz) z).size=(ps.getD (ns.length-1) pz).size:=fun z=>by
  show (if dO n.kind=true then _ else _)=_
  rw[Qu i]
 have E:n.kind=if q.group then 7 else 9:=by rw[b]
 unfold jL NW;rw[<- b,<- E];have o:(ns++[n]).length=ns.length+1:=by simp
 have F:ps.length=ns.length:=h.lq.len;by_cases c:q.ord.xs=[]
 ·rw[Qu c,Qu c];refine⟨_,CF.look (by rw[o]; exact g) (by omega) (by omega) ?_,?_⟩
  ·rw[o,Xq,Jb,Qv (by omega),XZ]
   show (dO n.kind&&_)=true
   rw[i,Qz];unfold pO;rw[Qu (by rw[c]; rfl)]
  ·rw[ZC,ZX,Xq,Jb,Qv (by omega),XZ];exact s pz
 ·rw[Qv c,Qv c];have t:ed (nd 10 ns.length 0 0 [] 0 []) (ps++[iB ts q n (ps.getD (ns.length-1) pz) pz])=iB ts q n (ps.getD (ns.length-1) pz) pz:=by
   show (if _ then _ else _)=_
   rw[Qu (by simp[arity]),show ((ns.length:Nat):Int).toNat=ps.length by omega,Jb,Qv (by omega),XZ];rfl
  have u:dV (nd 10 ns.length 0 0 [] 0 []) (ps++[iB ts q n (ps.getD (ns.length-1) pz) pz])=pz:=Qv (by simp[arity]);have v:=g.snoc (n:=nd 10 ns.length 0 0 [] 0 []) (op':=[ns.length+1]) ⟨by simp,by simp,by simp[jT,arity],fun _=>by simp; omega,fun e=>by simp[arity]at e⟩ ⟨by rw[t,u]; show ((dO n.kind==_)&&_)=true; rw[i]; rfl,by unfold bJ; simp[List.length_pos_iff.2 c]⟩ (by simp[ins,arity]) (fun k a=>by simpa [ins,arity] using a) (fun k a=>by simp[ins,arity]; omega) (by simp);rw[t,u]at v;have w:(ns++[n]++[nd 10 (ns.length:Int) 0 0 [] 0 []]).length=ns.length+2:=by simp
  rw[show ns++n::[nd 10 (ns.length:Int) 0 0 [] 0 []]=ns++[n]++[nd 10 (ns.length:Int) 0 0 [] 0 []] by simp];refine⟨_,CF.look (by rw[w]; exact v) (by omega) (by omega) ?_,?_⟩
  ·rw[w,show ns.length+2-1=ns.length+1 by omega,Jb,Qv (by omega),o,XZ]
   show (dO 10&&pO q 10 _)=true
   unfold pO;rw[Qv (by rw[Xy]; exact c)];rfl
  ·rw[ZC,ZC,ZX,ZX,Jb,Qv (by rw[ZC]; simp),ZC,ZX,Xq,XZ]
   show fU 10 (iB ts q n (ps.getD (ns.length-1) pz) pz).size (iB ts q n (ps.getD (ns.length-1) pz) pz).cost (iB ts q n (ps.getD (ns.length-1) pz) pz).size 0 0=_
   rw[s,D];rfl
theorem Rv.look(h:Rv ts q hv us ns)(ok:Ok ts q)(h0:0<q.src.xs.length)(h5:q.src.xs.length<=5)(hl:hv.length=q.src.xs.length){c:Int}(hc:0<=c/\c<ai ts q.src.xs) :
  ∃ g a,fV ts q (ns++jL q ns.length)=some g/\fV ts q (ns++[bz ((ns.length:Int)-1) c]++jL q (ns.length+1))=some a/\(g.getD (g.length-1) pz).cost<=(a.getD (a.length-1) pz).cost:=by
 have b:hv≠[]:=fun e=>by rw[e]at hl; simp at hl; omega
 have t:ns.length≠0:=fun e=>b (h.zero.1 e)
 have H:=h.few;obtain⟨ps,O,f,A⟩:=h.parts;have o:=A t;rw[Qv t]at f;have r:aL hv=2 ^ q.src.xs.length-1:=(qJ h.hsm h.am0).2 hl;have d:∀ s,s<q.src.xs.length->(s:Int)∈hv:=fun s G=>by
  have:=Z6 (fun x j=>(h.hsm x j).1) s;rw[r,Nat.testBit_two_pow_sub_one,Qy G]at this;exact Xk this.symm
 have u:aL us=2 ^ q.wh.length-1:=by
  apply Nat.eq_of_testBit_eq;intro i;rw[Z6 (fun x j=>(h.usm x j).1),Nat.testBit_two_pow_sub_one,decide_eq_decide];constructor
  ·intro e;have:=(h.usm _ e).2;omega
  ·intro F;refine h.am2 b i (by omega) (by omega) ?_;unfold bI;rw[Qp];intro x j;have:=ok.cols i F x j;exact Qy (d _ (Xe ok.cat ok.src this.1 this.2).1)
 obtain⟨p,B,w,C⟩:=KG f ok h.hsm (l:=ns.length-1) (by omega) (by simp) o (n:=bz ((ns.length:Int)-1) c) (.inr ⟨c,by rw[show ((ns.length-1:Nat):Int)=(ns.length:Int)-1 by omega]; rfl,hc.1,hc.2,d _ (Xe ok.cat ok.src hc.1 hc.2).1⟩) (op':=[ns.length]) (fun k I=>by simp; omega) (by simp);have m:(ns++[bz ((ns.length:Int)-1) c]).length=ns.length+1:=by simp
 obtain⟨g,D,E⟩:=f.tail (by omega) (by omega) o r u;have v:=(Bu f p (i:=ns.length-1) (by omega)).2;obtain⟨a,y,z⟩:=CF.tail (ns:=ns++[bz ((ns.length:Int)-1) c]) (by rw[m]; exact B) (by omega) (by omega) (by rw[m,Xq,v]; exact w) r (by rw[show us++(bz ((ns.length:Int)-1) c).cl.xs=us by simp[bz]]; exact u);rw[m]at y;rw[m,Xq,v]at z;refine⟨g,a,D,y,?_⟩;rw[E,z,w.size,o.size,show us++(bz ((ns.length:Int)-1) c).cl.xs=us by simp[bz],C];refine Tc q _ (WR _ _ _ _ _ ?_);rw[f.lq.part _ (by omega)];exact WQ _ _ _ _ _ _
