import Derived.Test.YtgemohlbjehmbaaGreatDoorF28
import Derived.Test.YtgemohlbjehmbaaGreatDoorF39
set_option linter.all false
set_option maxRecDepth 100000
set_option maxHeartbeats 16000000
namespace Go.Proofs.Zz
open Go.RowKit Go.Shelf
variable {ts:List af} {q:ae} {n1 ns:List ah} {ps:List bK} {op op':List Nat} {l r s:Nat} {C Cl Cr O Ol Or S Sl Sr T cl hv ow src us:List Int} {a b key kind x y:Int} {cs:List aI}
abbrev nd (k l r s:Int) (cl:List Int) (key:Int) (co:List Int):ah:=⟨k,l,r,s,⟨none,0,cl⟩,key,⟨none,0,co⟩⟩
structure DT(ts:List af)(q:ae)(ns:List ah)(ps:List bK)(op:List Nat):Prop where
 lq:LQ ts q ns ps
 once:∀ k,k<ns.length->lD ns k=if k∈op then 0 else 1
theorem DT.snoc{ts:List af}{q:ae}{ns:List ah}{ps:List bK}{op op':List Nat}(h:DT ts q ns ps op){n:ah}(hs:fO n ns.length)(hf:lF n.kind (dN n ps) (dO n ps)=true/\dh ts q n (dN n ps) (dO n ps)=true)(hi:(ins n).Nodup)(hin:∀ k∈ins n,k∈op)(ho:∀ k,k<ns.length->(k∈op'↔k∈op/\k ∉ ins n))(hl:ns.length∈op') :
  DT ts q (ns++[n]) (ps++[bV ts q n (dN n ps) (dO n ps)]) op':=by
 refine⟨h.lq.snoc hs (by simp_all),λk d=>?_⟩;rw[QP,XU]at d;have e:lD [n] k=(ins n).count k:=by simp[lD]
 rw[AA,e];by_cases f:k<ns.length
 ·grind [DT.once]
 ·obtain rfl:k=ns.length:=by omega
  rw[Qo hl,List.count_eq_zero_of_not_mem (λe=>Nat.lt_irrefl _ (TU hs _ e)),Cj];intro m b e;obtain⟨i,a,rfl⟩:=Qp b;have:=h.lq.st i a;rw[Xo,Xr a]at this;have:=TU this _ e;omega
structure Pt(ts:List af)(q:ae)(p:bK)(S C O:List Int):Prop where
 kind:dW p.kind=false
 src:p.sources=aB S
 cl:p.clauses=aB C
 ord:p.order=O
 size:p.size=iD ts q (aB S) (aB C)
theorem Jo(h:DT ts q ns ps op)(p:bK){i:Nat}(hi:i<ns.length):(ps++[p]).getD i pz=ps.getD i pz/\(ps++[p]).getD ns.length pz=p:=by rw[XX,XX,Qo (by rw[h.lq.len]; exact hi),Qu (by rw[h.lq.len]; omega),h.lq.len,Xy];simp_all
theorem ahA(h:DT ts q ns ps op)(hop:∀ k∈op,k<ns.length)(hs:s<q.src.xs.length) :
  ∃ p,DT ts q (ns++[nd 1 0 0 s [] 0 []]) (ps++[p]) (op++[ns.length])/\Pt ts q p [(s:Int)] [] []:=by
 refine⟨_,h.snoc ⟨by simp,by simp,by rfl,λh=>by simp[arity]at h,λh=>by simp[arity]at h⟩ ⟨by rfl,by simp[dh,hs]⟩ (by simp[ins,arity]) (λk a=>by simp[ins,arity]at a) (λk a=>by simp[ins,arity]; omega) (by simp),?_⟩;have e:dN (nd 1 0 0 s [] 0 []) ps=pz/\dO (nd 1 0 0 s [] 0 []) ps=pz:=⟨by rfl,by rfl⟩;rw[e.1,e.2];refine⟨by rfl,?_,?_,?_,?_⟩
 ·simp[bV,pz,aB]
 ·simp[bV,pz,aB]
 ·simp[bV]
 ·simp[bV,dW,pz,aB]
theorem Lm(h:DT ts q ns ps op)(ok:Ok ts q)(hS:bu q.src.xs.length S)(hl:l<ns.length)(ho:l∈op)(hp:Pt ts q (ps.getD l pz) S C O){n:ah}
  (hn:(∃ cl,n=nd 2 l 0 0 cl 0 []/\cl≠[]/\kJ ts q cl S=true)∨∃ c,n=nd 6 l 0 0 [] 0 [c]/\0<=c/\c<az ts q.src.xs/\(aA ts q.src.xs c:Int)∈S) (hop:∀ k,k<ns.length->(k∈op'↔k∈op/\k≠l)) (hl':ns.length∈op') :
  ∃ p,DT ts q (ns++[n]) (ps++[p]) op'/\Pt ts q p S (C++n.cl.xs) (if n.kind=6 then n.co.xs else O)/\p.cost=dL n.kind p.size (ps.getD l pz).cost (ps.getD l pz).size 0 0:=by
 have a:n.kind=2∨n.kind=6:=by grind
 have t:arity n.kind=1:=by rcases a with e | e <;> rw[e] <;> decide
 have f:n.l=l/\n.r=0/\nN n=true/\n.cl.xs=n.cl.xs:=by rcases hn with⟨_,rfl,_⟩ | ⟨_,rfl,_⟩ <;> simp[nN,arity]
 have b:dN n ps=ps.getD l pz:=by unfold dN; simp_all
 have d:dO n ps=pz:=by unfold dO; simp_all
 have i:ins n=[l]:=by unfold ins; simp_all
 have j:dh ts q n (dN n ps) (dO n ps)=true:=by
  rw[b,d];rcases hn with⟨cl,rfl,h0,h1⟩ | ⟨c,rfl,h0,h1,h2⟩
  ·unfold dh;rw[Qu (by simp),Qo rfl,hp.src,zq ok.cat ok.src ok.small ok.aX hS,h1,Bool.and_true,Qs]
   grind
  ·unfold dh;rw[Qu (by simp),Qu (by simp),Qu (by simp),Qu (by simp),Qu (by simp),Qo rfl,hp.src,VR ok.cat ok.src ok.small hS (by simp)];simp[di,cK,h0,h1,h2]
 refine⟨_,h.snoc ⟨by omega,by omega,f.2.2.1,λ_=>by omega,λe=>by omega⟩ ⟨?_,j⟩ (by rw[i]; simp) (λk a=>by simp_all) (λk a=>by simp_all) hl',?_,?_⟩
 ·unfold lF;rw[b,d,hp.kind,ZW (by omega)];rfl
 ·rw[b,d];have m:dW n.kind=false:=by rcases a with e | e <;> rw[e] <;> decide
  have o:(if n.kind=1 then 2 ^ n.source.toNat else 0)|||(ps.getD l pz).sources|||pz.sources=aB S:=by rw[Qu (by omega),Nat.zero_or,hp.src]; exact Nat.or_zero _
  have s:aB n.cl.xs|||(ps.getD l pz).clauses|||pz.clauses=aB (C++n.cl.xs):=by rw[hp.cl,QW,Nat.or_comm (aB C)]; exact Nat.or_zero _
  refine⟨m,o,s,?_,?_⟩
  ·show (if n.kind=6 then n.co.xs else if 2<=n.kind/\n.kind<=5 then _ else [])=_
   by_cases g:n.kind=6
   ·simp_all
   ·rw[Qu g,Qu g,Qo (by omega),hp.ord]
  ·show (if dW n.kind=true then _ else iD ts q _ _)=_
   simp_all
 ·rw[b,d];rfl
theorem aet(h:DT ts q ns ps op)(ok:Ok ts q)(hSl:bu q.src.xs.length Sl)(hSr:bu q.src.xs.length Sr)(hl:l<ns.length)(hr:r<ns.length)(hlr:l≠r)(hol:l∈op)(hor:r∈op)(hpl:Pt ts q (ps.getD l pz) Sl Cl Ol)(hpr:Pt ts q (ps.getD r pz) Sr Cr Or)
  (hap:∀ x∈Sl,x ∉ Sr) (hls:kJ ts q cl (oH Sl Sr)=true) (hk:kind=3/\key=0∨(kind=4∨kind=5)/\key∈cl/\(iO ts q.src.xs (q.wh.getD key.toNat lz).cs Sl Sr).2.2=true/\(kind=5->Ol=[(iO ts q.src.xs (q.wh.getD key.toNat lz).cs Sl Sr).1]/\Or=[(iO ts q.src.xs (q.wh.getD key.toNat lz).cs Sl Sr).2.1]))
  (hop:∀ k,k<ns.length->(k∈op'↔k∈op/\k≠l/\k≠r)) (hl':ns.length∈op') :
  ∃ p,DT ts q (ns++[nd kind l r 0 cl key []]) (ps++[p]) op'/\Pt ts q p (Sl++Sr) (Cl++Cr++cl) Ol:=by
 generalize G:nd kind l r 0 cl key []=n;have d:n.kind=kind/\n.key=key/\n.l=l/\n.r=r/\n.cl.xs=cl:=by grind
 obtain⟨y,b,z,A,a⟩:=d;have m:3<=n.kind/\n.kind<=5:=by omega
 have C:arity n.kind=2:=by unfold arity; grind
 have o:nN n=true:=by unfold nN;grind
 have f:dN n ps=ps.getD l pz:=by unfold dN; simp_all
 have g:dO n ps=ps.getD r pz:=by unfold dO; simp_all
 have D:ins n=[l,r]:=by unfold ins; simp_all
 have s:kP ts q n (aB Sl) (aB Sr)=true:=by
  unfold kP;rw[abK ok hSl hSr,a,hls,Bool.and_true,Qs];by_cases e:aB Sl &&& aB Sr=0
  ·exact e
  ·obtain⟨x,E,F⟩:=(Eb hSl hSr).1 e
   simp_all
 have t:dh ts q n (dN n ps) (dO n ps)=true:=by
  rw[f,g];unfold dh;rw[Qu (by omega),Qu (by omega),hpl.src,hpr.src,s];rcases hk with⟨e,_⟩ | ⟨e,hin,hsd,h5⟩
  ·simp_all
  ·obtain⟨i,k2⟩:=abL ok n hSl hSr (by simp_all);rw[b,a,Qv hin,hsd]at i;have k3:=k2 i;rw[b]at k3;rw[Qu (by omega)];by_cases B:n.kind=4
   ·simp_all
   ·have j:kind=5:=by omega
    rw[Qu B,Qo (by omega),i,k3,hpl.ord,hpr.ord,(h5 j).1,(h5 j).2];simp[au]
 refine⟨_,h.snoc ⟨by omega,by omega,o,λ_=>by omega,λ_=>by omega⟩ ⟨?_,t⟩ (by simp_all) (λk hk=>by grind) (λk hk=>by simp_all) hl',?_⟩
 ·unfold lF;rw[f,g,hpl.kind,hpr.kind,ZW (by omega)];rfl
 ·rw[f,g];have u:dW n.kind=false:=by unfold dW; grind
  have v:(if n.kind=1 then 2 ^ n.source.toNat else 0)|||(ps.getD l pz).sources|||(ps.getD r pz).sources=aB (Sl++Sr):=by rw[Qu (by omega),Nat.zero_or,hpl.src,hpr.src,QW]
  have w:aB n.cl.xs|||(ps.getD l pz).clauses|||(ps.getD r pz).clauses=aB (Cl++Cr++cl):=by rw[a,hpl.cl,hpr.cl,QW,QW,Nat.or_assoc,Nat.or_comm]
  refine⟨u,v,w,?_,?_⟩
  ·show (if n.kind=6 then n.co.xs else if 2<=n.kind/\n.kind<=5 then _ else [])=_
   rw[Qu (by omega),Qo (by omega),hpl.ord]
  ·show (if dW n.kind=true then _ else iD ts q _ _)=_
   simp_all
theorem OX(h:bX ts src cs S=true)(hs:∀ x∈S,x∈T):bX ts src cs T=true:=by grind [bX]
theorem Jp{ts:List af}{q:ae}{S U:List Int}{i:Int}:i∈gU ts q S U↔(0<=i/\i<q.wh.length)/\bX ts q.src.xs (q.wh.getD i.toNat lz).cs S=true/\i ∉ U:=by unfold gU oD;grind
theorem F9(ts:List af)(q:ae)(S U:List Int):(gU ts q S U).Pairwise (· < ·):=by unfold gU oD;rw[List.pairwise_map];exact(List.pairwise_lt_range.filter _).imp λh=>by omega
theorem Dh(ts:List af)(q:ae)(S U:List Int):(gU ts q S U).Nodup:=(F9 ts q S U).imp λh=>by omega
theorem tX(U:List Int)(hs:∀ x∈S,x∈T):kJ ts q (gU ts q S U) T=true:=by
 unfold kJ;rw[Qk];intro i a;rw[Q0]at a;have e:∀ j,(h:j<(gU ts q S U).length)->(gU ts q S U).getD j 0=(gU ts q S U)[j]:=λj h=>by simp_all
 obtain⟨b,d,_⟩:=Jp.1 (ZQ a);rw[e i a];simp only[Qj,Bool.or_eq_true,Qs];refine⟨⟨b,?_⟩,OX d hs⟩;grind [List.pairwise_iff_getElem,F9]
theorem Cn{wh:List aL}(h:0<=eD wh cl):eD wh cl∈cl/\amq (wh.getD (eD wh cl).toNat lz).cs:=by
 unfold eD at *
 cases e:cl.find? (F7 wh) with
 | none => simp_all
 | some k =>
  have a:=List.find?_some e;unfold F7 at a;simp only[Qj,Q4,Qs]at a;exact⟨List.mem_of_find?_eq_some e,a.1,a.2.2.1,a.2.2.2,a.2.1⟩
def Uj(ts:List af)(src:List Int)(c:aI)(s:Int):Int × Int:=if ((aA ts src c.left:Nat):Int)=s then (c.left,c.right) else (c.right,c.left)
theorem Jq{s:Int}(h:amq cs)(hin:bX ts src cs (hv++[s])=true)(ha:¬ bX ts src cs hv=true)(hb:¬ bX ts src cs [s]=true)(hs:s ∉ hv)(e:(a,b)=Uj ts src (cs.getD 0 cz) s) :
  iO ts src cs [s] hv=(a,b,true)/\iO ts src cs hv [s]=(b,a,true)/\(aA ts src a:Int)∈[s]/\(aA ts src b:Int)∈hv/\a∈aZ cs/\b∈aZ cs:=by have d:=aaw h;unfold bX at hin ha hb;rw[d]at hin ha hb ⊢;obtain⟨f,g,i,j⟩:=h;simp only[List.all_cons,List.all_nil,Bool.and_true,Qj,Qs,ZK,Zy]at hin ha hb;unfold Uj at e;unfold iO;grind
def uE(m:Nat)(l r:Int)(fr:List Int)(key kind x y:Int):List ah:=
 if key<0∨kind=0 then [nd 3 l r 0 fr 0 []] else if kind=1 then [nd 4 l r 0 fr key []] else [bz l x,bz r y,nd 5 m (m+1) 0 fr key []]
theorem Vi(h:DT ts q ns ps [l,r])(ok:Ok ts q)(hSl:bu q.src.xs.length Sl)(hSr:bu q.src.xs.length Sr)(hl:l<ns.length)(hr:r<ns.length)(hlr:l≠r)(hpl:Pt ts q (ps.getD l pz) Sl Cl Ol)(hpr:Pt ts q (ps.getD r pz) Sr Cr Or)
  (hap:∀ x∈Sl,x ∉ Sr) (hls:kJ ts q cl (oH Sl Sr)=true) (hk:0<=key->key∈cl/\iO ts q.src.xs (q.wh.getD key.toNat lz).cs Sl Sr=(x,y,true)/\(aA ts q.src.xs x:Int)∈Sl/\(aA ts q.src.xs y:Int)∈Sr/\x∈aZ (q.wh.getD key.toNat lz).cs/\y∈aZ (q.wh.getD key.toNat lz).cs) :
  ∃ a O,DT ts q (ns++uE ns.length l r cl key kind x y) a [(ns++uE ns.length l r cl key kind x y).length-1]/\Pt ts q (a.getD ((ns++uE ns.length l r cl key kind x y).length-1) pz) (Sl++Sr) (Cl++Cr++cl) O:=by
 have g:∀ {kd ky:Int},(kd=3/\ky=0∨kd=4/\ky=key/\0<=key)->∃ a O,DT ts q (ns++[nd kd l r 0 cl ky []]) a [(ns++[nd kd l r 0 cl ky []]).length-1]/\Pt ts q (a.getD ((ns++[nd kd l r 0 cl ky []]).length-1) pz) (Sl++Sr) (Cl++Cr++cl) O:=λ{kd ky} hkd=>by
  obtain⟨p,b,f⟩:=aet h ok hSl hSr hl hr hlr (by simp) (by simp) hpl hpr (kind:=kd) (key:=ky) (cl:=cl) hap hls (by
   grind) (op':=[ns.length]) (λk hk=>by simp; omega) (by simp)
  rw[QP,XU,XH];exact⟨_,_,b,by rw[(Jo h p hl).2]; exact f⟩
 unfold uE;by_cases D:key<0∨kind=0
 ·simp_all
 rw[Qu D];have u:0<=key:=by omega
 by_cases E:kind=1
 ·simp_all
 rw[Qu E];obtain⟨s,k2,k3,k4,k5,k6⟩:=hk u;have F:=(OW ok hls key s);have j:=ok.aX key.toNat (by omega) x k5;have hy:=ok.aX key.toNat (by omega) y k6;obtain⟨p,b,f,_⟩:=Lm h ok hSl hl (by simp) hpl (n:=bz l x) (.inr ⟨x,rfl,j.1,j.2,k3⟩) (op':=[r,ns.length]) (λk hk=>by simp; omega) (by simp);have m:=Jo h p hr;have v:(ns++[bz l x]).length=ns.length+1:=by simp
 obtain⟨z,t,A,_⟩:=Lm b ok hSr (l:=r) (by omega) (by simp) (by rw[m.1]; exact hpr) (n:=bz r y) (.inr ⟨y,rfl,hy.1,hy.2,k4⟩) (op':=[ns.length,ns.length+1]) (λk hk=>by simp; omega) (by simp);have d:=Jo b z (i:=ns.length) (by omega);have e:(ns++[bz l x]++[bz r y]).length=ns.length+2:=by simp
 rw[v]at d;obtain⟨B,G,C⟩:=aet t ok hSl hSr (l:=ns.length) (r:=ns.length+1) (by omega) (by omega) (by omega) (by simp) (by simp) (by rw[d.1,m.2]; exact f) (by rw[d.2]; exact A) (kind:=5) (key:=key) (cl:=cl) hap hls (.inr ⟨.inr rfl,s,by rw[k2],λ_=>by rw[k2]; exact⟨rfl,rfl⟩⟩) (op':=[ns.length+2]) (λk hk=>by simp; omega) (by rw[e]; simp);have o:=Jo t B (i:=ns.length) (by omega);rw[e]at o;have w:ns++[bz l x,bz r y,nd 5 ns.length (ns.length+1) 0 cl key []]=ns++[bz l x]++[bz r y]++[nd 5 ((ns.length:Nat):Int) ((ns.length+1:Nat):Int) 0 cl key []]:=by simp
 rw[w,QP,e];rw[show Cl++(bz l x).cl.xs++(Cr++(bz r y).cl.xs)++cl=Cl++Cr++cl by simp[bz],<- o.2]at C;grind
def XZ:=@Jp
theorem Pt.same{p:bK}{D:List Int}(h:Pt ts q p S C O)(e:aB S=aB T)(f:aB C=aB D):Pt ts q p T D O:=⟨h.kind,e ▸ h.src,f ▸ h.cl,h.ord,e ▸ f ▸ h.size⟩
def Ry(ts:List af)(q:ae)(hv us:List Int)(ns:List ah):Prop:=∀ R:List Int->List Int->List ah->Prop,R [] [] []->
 (∀ hv us ns (s:Nat) ow n1,R hv us ns->s<q.src.xs.length->hv=[]->ow=gU ts q [(s:Int)] us->n1=ns++[nd 1 0 0 s [] 0 []]++(if ow=[] then [] else [nd 2 ns.length 0 0 ow 0 []])->R (hv++[(s:Int)]) (us++ow) n1)->
 (∀ hv us ns (s:Nat) ow n1 fr kind first a b l r x y,R hv us ns->s<q.src.xs.length->(s:Int) ∉ hv->hv≠[]->ow=gU ts q [(s:Int)] us->n1=ns++[nd 1 0 0 s [] 0 []]++(if ow=[] then [] else [nd 2 ns.length 0 0 ow 0 []])->fr=gU ts q (hv++[(s:Int)]) (us++ow)->
  (a,b)=Uj ts q.src.xs ((q.wh.getD (eD q.wh fr).toNat lz).cs.getD 0 cz) s->(l,r,x,y)=(if first=true then ((n1.length:Int)-1,(ns.length:Int)-1,a,b) else ((ns.length:Int)-1,(n1.length:Int)-1,b,a))->R (hv++[(s:Int)]) (us++ow++fr) (n1++uE n1.length l r fr (eD q.wh fr) kind x y))->R hv us ns
structure Rv(ts:List af)(q:ae)(hv us:List Int)(ns:List ah):Prop where
 parts:∃ ps O,DT ts q ns ps (if ns.length=0 then [] else [ns.length-1])/\(ns.length≠0->Pt ts q (ps.getD (ns.length-1) pz) hv us O)
 knd:∀ n∈ns,n.kind<=6
 few:ns.length<=5*hv.length
 zero:ns.length=0↔hv=[]
 arP:hv=[]->us=[]
 amr:hv.Nodup
 hsm:bu q.src.xs.length hv
 arQ:us.Nodup
 usm:bu q.wh.length us
 ams:hv≠[]->∀ i:Int,0<=i->i<q.wh.length->bX ts q.src.xs (q.wh.getD i.toNat lz).cs hv=true->i∈us
 lay:Ry ts q hv us ns
theorem Rv.nil(ts:List af)(q:ae):Rv ts q [] [] []:=⟨⟨[],[],⟨LQ.nil ts q,λk b=>absurd b (by simp)⟩,λh=>absurd rfl h⟩,(λn d=>absurd d (by simp)),by simp,by simp,λ_=>rfl,List.nodup_nil,(λx a=>absurd a (by simp)),List.nodup_nil,(λx a=>absurd a (by simp)),λh=>absurd rfl h,λ_ h _ _=>h⟩
theorem Co{a b:List Int}(ha:a.Nodup)(hb:b.Nodup)(h:∀ x∈b,x ∉ a):(a++b).Nodup:=List.nodup_append.2 ⟨ha,hb,λx d y hy e=>h y hy (e ▸ d)⟩
theorem Rv.own(h:Rv ts q hv us ns)(ok:Ok ts q)(hs:s<q.src.xs.length)(how:ow=gU ts q [(s:Int)] us)(hn1:n1=ns++[nd 1 0 0 s [] 0 []]++(if ow=[] then [] else [nd 2 ns.length 0 0 ow 0 []])) :
  ∃ ps O,DT ts q n1 ps ((if ns.length=0 then [] else [ns.length-1])++[n1.length-1])/\Pt ts q (ps.getD (n1.length-1) pz) [(s:Int)] ow []/\(ns.length≠0->Pt ts q (ps.getD (ns.length-1) pz) hv us O)/\ns.length<n1.length/\n1.length<=ns.length+2/\∀ n∈n1,n.kind<=6:=by
 obtain⟨ps,O,j,A⟩:=h.parts;have b:∀ k∈(if ns.length=0 then [] else [ns.length-1]),k<ns.length:=λk w=>by grind
 obtain⟨p,g,u⟩:=ahA j b hs;have d:bu q.src.xs.length [(s:Int)]:=λx C=>by simp_all
 have f:(ns++[nd 1 0 0 (s:Int) [] 0 []]).length=ns.length+1:=by simp
 have z:ps.length=ns.length:=j.lq.len;have o:(ps++[p]).getD ns.length pz=p:=by simp_all
 by_cases c:ow=[]
 ·rw[Qo c,Xb]at hn1;subst hn1 c;rw[f,XH];refine⟨_,O,g,by grind,λy=>?_,by omega,by omega,λn a=>?_⟩
  ·grind
  ·rcases ZK.1 a with e | e
   ·exact h.knd n e
   grind
 ·rw[Qu c]at hn1;obtain⟨v,m,B,_⟩:=Lm g ok d (l:=ns.length) (by omega) (by simp) (by rw[o]; exact u) (n:=nd 2 ns.length 0 0 ow 0 []) (.inl ⟨ow,rfl,c,by grind [tX]⟩) (op':=(if ns.length=0 then [] else [ns.length-1])++[ns.length+1]) (λk w=>by
   grind) (by rw[f]; simp)
  have r:n1.length=ns.length+2:=by simp_all
  rw[r,show ns.length+2-1=ns.length+1 by omega];rw[<- hn1]at m;have t:=Jo g v (i:=ns.length-1) (by omega);rw[f]at t;refine⟨_,O,m,by simp_all,λy=>?_,by omega,by omega,λn a=>?_⟩
  ·grind
  ·rw[hn1]at a;simp only[ZK,Zy]at a;rcases a with (e | e) | e
   ·exact h.knd n e
   ·rw[e]; simp
   simp_all
theorem Rv.more(h:Rv ts q hv us ns)(hs:s<q.src.xs.length)(hn:(s:Int) ∉ hv)(how:ow=gU ts q [(s:Int)] us) :
  (hv++[(s:Int)]).Nodup/\bu q.src.xs.length (hv++[(s:Int)])/\(us++ow).Nodup/\bu q.wh.length (us++ow):=by
 subst how;refine⟨Co h.amr (by simp) (λx a=>by simp_all),λx a=>?_,Co h.arQ (Dh ..) (λx a=>(XZ.1 a).2.2),λx a=>?_⟩
 ·rcases ZK.1 a with e | e
  ·exact h.hsm x e
  simp_all
 ·rcases ZK.1 a with e | e
  ·exact h.usm x e
  ·exact(XZ.1 e).1
theorem Rv.first(h:Rv ts q hv us ns)(ok:Ok ts q)(hs:s<q.src.xs.length)(h0:hv=[])(how:ow=gU ts q [(s:Int)] us)(hn1:n1=ns++[nd 1 0 0 s [] 0 []]++(if ow=[] then [] else [nd 2 ns.length 0 0 ow 0 []])):Rv ts q (hv++[(s:Int)]) (us++ow) n1:=by have b:Ry ts q (hv++[(s:Int)]) (us++ow) n1:=λR n a o=>a _ _ _ _ _ _ (h.lay R n a o) hs h0 how hn1;obtain⟨ps,O,d,f,_,u,v,g⟩:=h.own ok hs how hn1;obtain⟨j,k,l,m⟩:=h.more hs (by rw[h0]; simp) how;have z:=h.zero.2 h0;have u0:=h.arP h0;subst h0 u0;rw[Qo z]at d;refine⟨⟨ps,_,by simp_all,λ_=>f⟩,g,by simp; omega,by simp_all,λe=>by simp at e,j,k,l,m,λ_ i p r t=>?_,b⟩;rw[how];exact XZ.2 ⟨⟨p,r⟩,t,by simp⟩
theorem Rv.join(h:Rv ts q hv us ns)(ok:Ok ts q)(hs:s<q.src.xs.length)(hn:(s:Int) ∉ hv)(h0:hv≠[])(how:ow=gU ts q [(s:Int)] us)(hn1:n1=ns++[nd 1 0 0 s [] 0 []]++(if ow=[] then [] else [nd 2 ns.length 0 0 ow 0 []]))
  {fr:List Int} (hfr:fr=gU ts q (hv++[(s:Int)]) (us++ow)) (kind:Int) (first:Bool) {l r:Int} (hab:(a,b)=Uj ts q.src.xs ((q.wh.getD (eD q.wh fr).toNat lz).cs.getD 0 cz) s)
  (hxy:(l,r,x,y)=if first=true then ((n1.length:Int)-1,(ns.length:Int)-1,a,b) else ((ns.length:Int)-1,(n1.length:Int)-1,b,a)) :
  Rv ts q (hv++[(s:Int)]) (us++ow++fr) (n1++uE n1.length l r fr (eD q.wh fr) kind x y):=by
 have M:Ry ts q (hv++[(s:Int)]) (us++ow++fr) (n1++uE n1.length l r fr (eD q.wh fr) kind x y):=λR V W L=>L _ _ _ _ _ _ _ kind first _ _ _ _ _ _ (h.lay R V W L) hs hn h0 how hn1 hfr hab hxy;obtain⟨ps,O,t,H,I,h4,h5,N⟩:=h.own ok hs how hn1;obtain⟨P,Q,S,T⟩:=h.more hs hn how;have z:ns.length≠0:=λe=>h0 (h.zero.1 e);rw[Qu z]at t;have g:bu q.src.xs.length [(s:Int)]:=λx f=>by simp_all
 have E:0<=eD q.wh fr->eD q.wh fr∈fr/\iO ts q.src.xs (q.wh.getD (eD q.wh fr).toNat lz).cs [(s:Int)] hv=(a,b,true)/\iO ts q.src.xs (q.wh.getD (eD q.wh fr).toNat lz).cs hv [(s:Int)]=(b,a,true)/\(aA ts q.src.xs a:Int)∈[(s:Int)]/\(aA ts q.src.xs b:Int)∈hv/\a∈aZ (q.wh.getD (eD q.wh fr).toNat lz).cs/\b∈aZ (q.wh.getD (eD q.wh fr).toNat lz).cs:=λp=>by obtain⟨C,k2⟩:=Cn p;refine⟨C,?_⟩;generalize eD q.wh fr=k at *;rw[hfr]at C;obtain⟨⟨J,K⟩,U,u⟩:=XZ.1 C;rw[ZK,not_or]at u;exact Jq k2 U (λe=>u.1 (h.ams h0 k J K e)) (λe=>u.2 (by rw[how]; exact XZ.2 ⟨⟨J,K⟩,e,u.1⟩)) hn hab
 have j:∀ A B:List Int,aB (A++B)=aB (B++A):=λA B=>by grind [uK]
 have m:∃ d O,DT ts q (n1++uE n1.length l r fr (eD q.wh fr) kind x y) d [(n1++uE n1.length l r fr (eD q.wh fr) kind x y).length-1]/\Pt ts q (d.getD ((n1++uE n1.length l r fr (eD q.wh fr) kind x y).length-1) pz) (hv++[(s:Int)]) (us++ow++fr) O:=by
  have F:((n1.length-1:Nat):Int)=(n1.length:Int)-1:=by omega
  have G:((ns.length-1:Nat):Int)=(ns.length:Int)-1:=by omega
  cases first with
  | true =>
   rw[Qo rfl,<- F,<- G]at hxy;injection hxy with e1 hxy;injection hxy with e2 hxy;injection hxy with e3 e4;subst e1 e2 e3 e4;obtain⟨d,v,D,w⟩:=Vi (l:=n1.length-1) (r:=ns.length-1) (key:=eD q.wh fr) (kind:=kind) (x:=x) (y:=y) (cl:=fr) (by
    have e:DT ts q n1 ps [n1.length-1,ns.length-1]:=⟨t.lq,λk p=>by rw[t.once k p]; grind⟩;exact e) ok g h.hsm (by omega) (by omega) (by omega) H (I z) (λx f=>by simp_all) (by rw[hfr]; exact tX _ λx f=>rO.2 (by grind)) (λp=>by
    simp_all)
   exact⟨d,v,D,w.same (j _ _) (by grind [uK])⟩
  | false =>
   rw[Qu (by simp),<- F,<- G]at hxy;injection hxy with e1 hxy;injection hxy with e2 hxy;injection hxy with e3 e4;subst e1 e2 e3 e4;obtain⟨d,v,D,w⟩:=Vi (l:=ns.length-1) (r:=n1.length-1) (key:=eD q.wh fr) (kind:=kind) (x:=x) (y:=y) (cl:=fr) t ok h.hsm g (by omega) (by omega) (by omega) (I z) H (λx f e=>by simp_all) (by rw[hfr]; exact tX _ λx f=>rO.2 (by simp_all)) (λp=>by
    simp_all)
   grind
 obtain⟨d,v,D,w⟩:=m;have o:1<=(uE n1.length l r fr (eD q.wh fr) kind x y).length/\(uE n1.length l r fr (eD q.wh fr) kind x y).length<=3/\∀ n∈uE n1.length l r fr (eD q.wh fr) kind x y,n.kind<=6:=by
  unfold uE;split
  ·simp
  ·split
   ·simp
   ·simp[bz]
 have hf:=h.few;refine⟨⟨d,v,by simp_all,λ_=>w⟩,λn hn=>(ZK.1 hn).elim (N n) (o.2.2 n),by grind,?_,λe=>by simp at e,P,Q,Co S (by grind [Dh]) (λx f=>by rw[hfr]at f; exact(XZ.1 f).2.2),λx f=>(ZK.1 f).elim (T x) λe=>by rw[hfr]at e; exact(XZ.1 e).1,λ_ i X Y Z=>?_,M⟩
 ·simp_all
 ·by_cases e:i∈us++ow
  ·grind
  ·exact List.mem_append_right _ (by rw[hfr]; exact XZ.2 ⟨⟨X,Y⟩,Z,e⟩)
def qV(q:ae)(k:Nat):List ah:=nd (if q.group then 7 else 9) ((k:Int)-1) 0 0 [] 0 []::if q.ord.xs=[] then [] else [nd 10 k 0 0 [] 0 []]
def aad(q:ae)(z c:Nat):Nat:=if q.ord.xs=[] then dL (if q.group then 7 else 9) z c z 0 0 else dL 10 z (dL (if q.group then 7 else 9) z c z 0 0) z 0 0
theorem Cq{a b:Nat}(l:List Nat)(h:a<=b):jk (a::l)<=jk (b::l):=by grind [vR]
theorem aao(q:ae)(z:Nat){c d:Nat}(h:c<=d):aad q z c<=aad q z d:=by
 have a:∀ (k:Int) {c d:Nat},(k=7∨k=9∨k=10)->c<=d->dL k z c z 0 0<=dL k z d z 0 0:=λk {c d} hk h=>by
  unfold dL;rcases hk with rfl | rfl | rfl
  ·exact Cq _ h
  ·exact Cq _ h
  ·exact Cq _ h
 have b:=a (if q.group then 7 else 9) (by omega) h;unfold aad;grind
theorem DT.look(h:DT ts q ns ps [ns.length-1])(h1:1<=ns.length)(h64:ns.length<=64)(ho:(dW (ns.getD (ns.length-1) nz).kind&&gL q (ns.getD (ns.length-1) nz).kind (ps.getD (ns.getD (ns.length-1) nz).l.toNat pz).order)=true):iU ts q ns=some ps:=by
 have a:eG ns=true:=by unfold eG;simp only[Qj,Qs,Qk];refine⟨⟨⟨h1,h64⟩,λi d=>(FR _ _).2 (h.lq.st i (Q0.1 d))⟩,?_⟩;unfold xB;rw[Qk];intro k b;rw[Q0]at b;rw[Qs,Oy h.lq.st,h.once k (by omega),Qu (by simp; omega)]
 unfold iU;rw[a,Qu (by simp),h.lq.parts _ (Qn _),<- h.lq.len,QT];simp only[Option.bind_some,h.lq.len];simp_all
theorem DT.tail(h:DT ts q ns ps [ns.length-1])(h1:1<=ns.length)(h64:ns.length<=60)(hp:Pt ts q (ps.getD (ns.length-1) pz) S C O)(hS:aB S=2 ^ q.src.xs.length-1)(hC:aB C=2 ^ q.wh.length-1) :
  ∃ f,iU ts q (ns++qV q ns.length)=some f/\(f.getD (f.length-1) pz).cost=aad q (ps.getD (ns.length-1) pz).size (ps.getD (ns.length-1) pz).cost:=by
 obtain⟨n,d⟩:=eY (nd (if q.group then 7 else 9) ((ns.length:Int)-1) 0 0 [] 0 []);have a:n.kind=7/\q.group=true∨n.kind=9/\q.group=false:=by simp_all
 have B:arity n.kind=1:=by rcases a with e | e <;> rw[e.1] <;> decide
 have i:dN n ps=ps.getD (ns.length-1) pz:=by unfold dN; simp_all
 have j:dO n ps=pz:=by unfold dO; simp_all
 have u:ins n=[ns.length-1]:=by unfold ins; simp_all
 have v:nN n=true:=by unfold nN;simp_all
 have D:kF q (ps.getD (ns.length-1) pz)=true:=by unfold kF; rw[hp.src,hp.cl,hS,hC]; simp
 have m:dW n.kind=true:=by rcases a with e | e <;> rw[e.1] <;> decide
 have w:n.l=(ns.length:Int)-1:=by rw[d]
 have g:=h.snoc (n:=n) (op':=[ns.length]) ⟨by omega,by omega,v,λ_=>by omega,λe=>by omega⟩ ⟨by unfold lF; rw[i,j,hp.kind,ZW (by omega)]; rfl,by
  unfold dh;grind⟩ (by rw[u]; simp) (λk a=>by simp_all) (λk a=>by grind) (by simp)
 rw[i,j]at g;have o:∀ z,(bV ts q n (ps.getD (ns.length-1) pz) z).cost=dL n.kind (ps.getD (ns.length-1) pz).size (ps.getD (ns.length-1) pz).cost (ps.getD (ns.length-1) pz).size z.cost z.size:=λz=>by show dL n.kind (if dW n.kind=true then _ else _) _ _ _ _=_;simp_all
 have y:∀ z,(bV ts q n (ps.getD (ns.length-1) pz) z).size=(ps.getD (ns.length-1) pz).size:=λz=>by show (if dW n.kind=true then _ else _)=_;simp_all
 have A:n.kind=if q.group then 7 else 9:=by rw[d]
 unfold qV aad;rw[<- d,<- A];have b:(ns++[n]).length=ns.length+1:=by simp
 have E:ps.length=ns.length:=h.lq.len;by_cases c:q.ord.xs=[]
 ·rw[Qo c,Qo c];refine⟨_,DT.look (by rw[b]; exact g) (by omega) (by omega) ?_,?_⟩
  ·rw[b,XH,XX,Qu (by omega),Xy]
   show (dW n.kind&&_)=true;rw[m,Qw];unfold gL;simp_all
  ·rw[QP,XU,XH,XX,Qu (by omega),Xy];exact o pz
 ·rw[Qu c,Qu c];have p:dN (nd 10 ns.length 0 0 [] 0 []) (ps++[bV ts q n (ps.getD (ns.length-1) pz) pz])=bV ts q n (ps.getD (ns.length-1) pz) pz:=by show (if _ then _ else _)=_;rw[Qo (by simp[arity]),show ((ns.length:Nat):Int).toNat=ps.length by omega,XX,Qu (by omega),Xy];rfl
  have r:dO (nd 10 ns.length 0 0 [] 0 []) (ps++[bV ts q n (ps.getD (ns.length-1) pz) pz])=pz:=Qu (by simp[arity]);have s:=g.snoc (n:=nd 10 ns.length 0 0 [] 0 []) (op':=[ns.length+1]) ⟨by simp,by simp,by rfl,λ_=>by simp; omega,λe=>by simp_all⟩ ⟨by rw[p,r]; show ((dW n.kind==_)&&_)=true; rw[m]; rfl,by unfold dh; simp[List.length_pos_iff.2 c]⟩ (by simp[ins,arity]) (λk a=>by simpa [ins,arity] using a) (λk a=>by simp[ins,arity]; omega) (by simp);rw[p,r]at s;have t:(ns++[n]++[nd 10 (ns.length:Int) 0 0 [] 0 []]).length=ns.length+2:=by simp
  rw[show ns++n::[nd 10 (ns.length:Int) 0 0 [] 0 []]=ns++[n]++[nd 10 (ns.length:Int) 0 0 [] 0 []] by simp];refine⟨_,DT.look (by rw[t]; exact s) (by omega) (by omega) ?_,?_⟩
  ·rw[t,show ns.length+2-1=ns.length+1 by omega,XX,Qu (by omega),b,Xy]
   show (dW 10&&gL q 10 _)=true;unfold gL;rw[Qu (by simp_all)];rfl
  ·rw[QP,QP,XU,XU,XX,Qu (by simp_all),QP,XU,XH,Xy]
   show dL 10 (bV ts q n (ps.getD (ns.length-1) pz) pz).size (bV ts q n (ps.getD (ns.length-1) pz) pz).cost (bV ts q n (ps.getD (ns.length-1) pz) pz).size 0 0=_;rw[o,y];rfl
theorem Rv.look(h:Rv ts q hv us ns)(ok:Ok ts q)(h0:0<q.src.xs.length)(h5:q.src.xs.length<=5)(hl:hv.length=q.src.xs.length){c:Int}(hc:0<=c/\c<az ts q.src.xs) :
  ∃ g a,iU ts q (ns++qV q ns.length)=some g/\iU ts q (ns++[bz ((ns.length:Int)-1) c]++qV q (ns.length+1))=some a/\(g.getD (g.length-1) pz).cost<=(a.getD (a.length-1) pz).cost:=by
 have b:hv≠[]:=λe=>by simp_all
 have r:ns.length≠0:=λe=>b (h.zero.1 e);have G:=h.few;obtain⟨ps,O,f,A⟩:=h.parts;have o:=A r;rw[Qu r]at f;have t:aB hv=2 ^ q.src.xs.length-1:=(Ir h.hsm h.amr).2 hl;have d:∀ s,s<q.src.xs.length->(s:Int)∈hv:=λs H=>by have:=QE (λx j=>(h.hsm x j).1) s;simp_all
 have u:aB us=2 ^ q.wh.length-1:=by
  apply QJ;intro i;rw[QE (λx j=>(h.usm x j).1),Nat.testBit_two_pow_sub_one,decide_eq_decide];constructor
  ·intro e;have:=(h.usm _ e).2;omega
  ·intro F;refine h.ams b i (by omega) (by omega) ?_;unfold bX;rw[Qk];intro x j;have:=ok.aX i F x j;exact Qv (d _ (QS ok.cat ok.src this.1 this.2).1)
 obtain⟨p,B,w,C⟩:=Lm f ok h.hsm (l:=ns.length-1) (by omega) (by simp) o (n:=bz ((ns.length:Int)-1) c) (.inr ⟨c,by rw[show ((ns.length-1:Nat):Int)=(ns.length:Int)-1 by omega]; rfl,hc.1,hc.2,d _ (QS ok.cat ok.src hc.1 hc.2).1⟩) (op':=[ns.length]) (λk I=>by simp; omega) (by simp);have m:(ns++[bz ((ns.length:Int)-1) c]).length=ns.length+1:=by simp
 obtain⟨g,D,E⟩:=f.tail (by omega) (by omega) o t u;have v:=(Jo f p (i:=ns.length-1) (by omega)).2;obtain⟨a,y,z⟩:=DT.tail (ns:=ns++[bz ((ns.length:Int)-1) c]) (by rw[m]; exact B) (by omega) (by omega) (by rw[m,XH,v]; exact w) t (by rw[show us++(bz ((ns.length:Int)-1) c).cl.xs=us by simp[bz]]; exact u);rw[m]at y;rw[m,XH,v]at z;refine⟨g,a,D,y,?_⟩;rw[E,z,w.size,o.size,show us++(bz ((ns.length:Int)-1) c).cl.xs=us by simp[bz],C];refine aao q _ (IW _ _ _ _ _ ?_);rw[f.lq.part _ (by omega)];exact IU _ _ _ _ _ _
