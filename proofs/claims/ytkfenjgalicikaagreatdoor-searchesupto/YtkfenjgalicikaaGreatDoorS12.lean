import Derived.Test.YtkfenjgalicikaaGreatDoorS06
import Derived.Test.YtkfenjgalicikaaGreatDoorS07
import Derived.Test.YtkfenjgalicikaaGreatDoorS09
set_option linter.all false
set_option maxRecDepth 100000
set_option maxHeartbeats 0
namespace Go.Proofs.Zz
open Go.RowKit Go.Shelf Go.Proofs.Tryz
open List renaming length->N,getD->E
open Go.Value renaming slice->Z,int->I,pointer->Y,bool->Qq
open Go.Proofs.Tryz renaming prog->V
open Option renaming some->O,none->Qr
open Go.IntKind renaming i64->J,u64->Qp
open Bool renaming false->F,true->T
open Go renaming World->U
open Go.World renaming heap->H,cell?->Qo
open _root_.Array renaming size->M
open Go.Obj renaming cells->Qs
open Go.Ending renaming returned->Qu
variable {ts:JK af} {q:ae} {ns:JK ay} {ps:JK dG} {n:ay} {a:JK bB} {c k:Int} {t:bF} {d:dG} {l:JK bF} {w:U} {o:IC} {b s:Nat} {rk:Nat->Int} {σ τ:fE} {x:bB} {conc:JK Nat}
theorem NR(hq:QF ts q):bJ (dh ts q) (2 ^ (N q.au.xs)-1)=2 ^ (N q.wh)-1:=by
 apply ZQ;intro i;rw[uf,Nat.testBit_two_pow_sub_one,JJ];by_cases a:i<N q.wh
 .have d:=NM hq a;have f:2 ^ (N q.au.xs)-1<2 ^ (N q.au.xs):=Nat.sub_lt (Nat.pow_pos X) X;rw[Zl a,Zm,xS a];refine(nQ (qg hq.jM f) (qg hq.jM d)).2 λj e=>?_
  rw[Nat.testBit_two_pow_sub_one,Zi];by_cases b:j<N q.au.xs
  .exact b
  .rw[ZN (ZO d (ZP X X))]at e
   cases e
 grind
def LQ.aFn{qs:JK dG}(h:LQ ts q ns ps)(g:LQ ts q ns qs):ps=qs:=by have b:=h.parts _ (Zb _);have a:=g.parts _ (Zb _);rw[b,XW (by rw[h.len];omega),XW (by rw[g.len];omega)]at a;injection a
theorem LQ.init(h:LQ ts q (ns++[n]) ps):LQ ts q ns (ps.take (N ns)):=by
 have e:∀i,i<N ns->E (ns++[n]) i nz=E ns i nz:=λi a=>Qb;have f:N (ns++[n])=N ns+1:=Qa;have b:∀i,i<N ns->gU (E ns i nz) i:=λi a=>by grind [LQ.st]
 have d:∀i,i<N ns->iK (E ns i nz) (ps.take (N ns))=iK (E ns i nz) ps/\gD (E ns i nz) (ps.take (N ns))=gD (E ns i nz) ps:=λi a=>CU (b i a) λj g=>by grind
 refine⟨by grind [LQ.len],b,λi a=>?_,λi a=>?_⟩
 .have:=h.fit i X
  simp_all
 .have:=h.part i X
  simp_all
theorem NT{a:bF}(h:TF ts q a)(hl:N a.ns<=900)(hp:LQ ts q (aS ts q n [a]).ns ps):(aS ts q n [a]).ns.getD ((aS ts q n [a]).ns.length-1) nz=jV n ((N a.ns:Int)-1) 0/\E ps (jV n ((N a.ns:Int)-1) 0).l.toNat pz=a.d:=by
 have j:=h.pos;have e:(aS ts q n [a]).ns=([]++a.ns.map (dO (N ([]:JK ay))))++[jV n ((N a.ns:Int)-1) 0]:=by show jF [a.ns]++[(⟨n.kind,(N (jF [a.ns]):Int)-1,0,_,_,_,_⟩:ay)]=_;rw[show N (jF [a.ns])=N a.ns by simp[jF]];rfl
 have b:N ([]++a.ns.map (dO (N ([]:JK ay))))=N a.ns:=Qa;obtain⟨qs,i,hd⟩:=h.ex;have f:=(LQ.nil ts q).app i Qi;rw[e]at hp;have g:=hp.init.aFn f;rw[b]at g;refine⟨?_,?_⟩
 .simp_all
 .show ps.getD ((N a.ns:Int)-1).toNat pz=a.d
  rw[<-hd,show ((N a.ns:Int)-1).toNat=N a.ns-1 by omega];grind
structure BF(ts:JK af)(q:ae)(t:bF):Prop where
 tf:TF ts q t
 len:N t.ns<=64
 fin:∀ps,LQ ts q t.ns ps->(gI (E t.ns (N t.ns-1) nz).kind&&kF q (E t.ns (N t.ns-1) nz).kind (E ps (E t.ns (N t.ns-1) nz).l.toNat pz).aH)=T
def BF.ah6{ts:JK af}{q:ae}{t:bF}(h:BF ts q t):∃a,AX ts q t.ns=O a/\N a=N t.ns/\E a (N a-1) pz=t.d:=h.tf.ah6 h.len h.fin
def Bz(h1:1<=k)(h2:k<=10):aaB (eU k):=⟨h1,h2,.inr rfl,.inr (.inr rfl),.inr (.inr rfl),.inr rfl⟩
theorem ah9(h:7<=k):bg k=1:=by grind [bg]
theorem afH(h:7<=k)(h':k<=10):gI k=true:=by grind [gI]
theorem al3(h:TF ts q t)(hl:N t.ns<=60)(ho:gI t.d.kind=F)(hk:7<=k/\k<=9)(hf:pI ts q (eU k) t.d pz=T):(kF q k t.d.aH=T->BF ts q (aS ts q (eU k) [t]))/\(0<N q.ord.xs->BF ts q (aS ts q (eU 10) [aS ts q (eU k) [t]])):=by
 have f:(eU k).kind=k:=rfl;have b:TF ts q (aS ts q (eU k) [t]):=TF.afC (Bz X X) (by rw[f];grind [ah9]) h X (by rw[xR X ho Ib,Zm];exact hf);have g:(aS ts q (eU k) [t]).ns.length=N t.ns+1:=by rw[Jk ts q _ Qa];rfl
 refine⟨λm=>⟨b,X,λps a=>?_⟩,λn=>?_⟩
 .obtain⟨g1,e⟩:=NT h X a;rw[g1,e]
  show (gI k&&kF q k t.d.aH)=T;rw[afH hk.1 X,m];rfl
 .have i:nE 10 (aS ts q (eU k) [t]).d pz=true:=by unfold nE;rw[show (aS ts q (eU k) [t]).d.kind=k from rfl,afH hk.1 X,Ib];rfl
  have j:TF ts q (aS ts q (eU 10) [aS ts q (eU k) [t]]):=TF.afC (Bz Qc Qc) Qh b X (by
   rw[show (eU 10).kind=10 from rfl,i,Zm];show (if (10:Int)=1 then _ else if (10:Int)=2 then _ else if (10:Int)=3 then _ else if (10:Int)=4 then _ else if (10:Int)=5 then _ else if (10:Int)=6 then _ else if (10:Int)=7 then _ else if (10:Int)=8 then _ else if (10:Int)=9 then _ else decide (0<N q.ord.xs))=T;simp_all)
  have l:(aS ts q (eU 10) [aS ts q (eU k) [t]]).ns.length=N t.ns+2:=by rw[Jk ts q _ Qa];show (aS ts q (eU k) [t]).ns.length+0+1=_;rw[g]
  refine⟨j,X,λps a=>?_⟩;obtain⟨g1,e⟩:=NT b X a;rw[g1,e];show (gI 10&&kF q 10 _)=T;unfold kF;rw[Zk X,Zd rfl];rfl
theorem aaE(hw:wZ q d=T)(hk:(k=9/\q.aF=F)∨(k=8/\q.aF=T/\aN d.aH q.aC.xs=T)∨(k=7/\q.aF=T)):pI ts q (eU k) d pz=true:=by unfold pI;rw[show (eU k).kind=k from rfl];grind
def aaF(h1:d.ah=2 ^ (N q.au.xs)-1)(h2:d.aG=2 ^ (N q.wh)-1):wZ q d=true:=by unfold wZ;simp_all
theorem NU(hq:QF ts q)(h:TS ts q t)(hl:N t.ns<=60)(hs:t.d.ah=2 ^ (N q.au.xs)-1):BF ts q (jg ts q t):=by
 have b:=aaF hs (by rw[h.cls,hs];exact NR hq);have e:(bK q t.d.aH=9/\q.aF=F)∨(bK q t.d.aH=8/\q.aF=T/\aN t.d.aH q.aC.xs=T)∨(bK q t.d.aH=7/\q.aF=T):=by unfold bK;grind
 have a:7<=bK q t.d.aH/\bK q t.d.aH<=9:=X;obtain⟨g,f⟩:=al3 h.tf hl h.out a (aaE b e);unfold jg;simp only;split
 .simp_all
 .rename_i he
  refine f (Nat.pos_of_ne_zero λi=>he ?_);unfold kF;simp_all
theorem aaG{l:IC}{w:Int}(h0:0<N l)(gH:∀c∈l,0<=c/\c<w)(GN:dK l=T):(N l:Int)<=w:=by
 unfold dK at GN;rw[Zi]at GN;have d:0<=w:=by
  cases l with
  |nil=>cases h0
  |cons a l=>grind [List.mem_cons_self]
 obtain⟨n,rfl⟩:=XX d;have g:(l.map Int.toNat).Nodup:=by grind [List.pairwise_iff_getElem,List.getElem_mem]
 have e:∀k∈l.map Int.toNat,k<n:=λk i=>by grind
 have b:=nX e;have f:∀m,dV m (λk=>(l.map Int.toNat).count k)<=m:=λm=>by
  induction m with
  |zero=>exact Zb _
  |succ m ih =>
   grind [jD]
 grind
theorem Vj{au:IC}(h0:0<N o)(gH:∀c∈o,0<=c/\c<aX ts au)(GN:dK o=T)(auj:∀c∈o,bV s (2 ^ aU ts au c)=T):uG ts au o s=true:=by
 unfold uG;rw[Zl h0,Zl (aaG h0 gH GN),Zm,Zm,Q9];intro i l;have a:i<N o:=Qf;have b:E o i 0∈o:=by simp_all
 obtain⟨f,g⟩:=gH _ b;rw[Zl f,Zl g,auj _ b,ZK]
 .rfl
 .intro d;rw[uM a]at d;obtain⟨j,k,e⟩:=d;unfold dK at GN
  grind
def wL(hq:QF ts q):(∀c∈aR q,0<=c/\c<aX ts q.au.xs)/\dK (aR q)=true:=by
 unfold aR;split
 .exact⟨hq.aC,hq.apart⟩
 .rename_i hg
  split
  .rename_i ha
   exact⟨hq.ac9 Qf,ha⟩
  .exact⟨λc a=>by (cases a),Qc⟩
def xV(hq:QF ts q)(h:0<=c/\c<aX ts q.au.xs):aU ts q.au.xs c<N q.au.xs:=(ZZ hq.ok.qP hq.ok.au h.1 h.2).1
theorem adW(hq:QF ts q)(h:TS ts q t)(hl:N t.ns<=50)(hs:t.d.ah=2 ^ (N q.au.xs)-1):∀x∈dQ ts q t,BF ts q x:=by
 intro x a;unfold dQ at a;split at a
 .rename_i h0
  rcases ZB.1 a with rfl|a
  .exact NU hq h X hs
  .rw[XH]at a;rw[a];have b:=wL hq;have e:2 ^ (N q.au.xs)-1<2 ^ (N q.au.xs):=Nat.sub_lt (Nat.pow_pos X) X;have f:uG ts q.au.xs (aR q) t.d.ah=true:=Vj h0 b.1 b.2 λc k=>by have g:=xV hq (b.1 c k);rw[hs];refine(nQ (qg hq.jM e) (qg hq.jM (XR X g))).2 λj l=>?_;grind
   have i:=Tt h X f;exact NU hq i (by rw[wm];omega) (by rw[uu];exact hs)
 .rw[XH]at a;rw[a];exact NU hq h X hs
def PY(ts:JK af)(q:ae)(s:Nat)(ls:JK (IC)):Prop:=∃r,ls=[]::r/\∀o∈r,uG ts q.au.xs o s=T
theorem PY.arZ{ls:JK (IC)}(h:PY ts q s ls){l:IC}(hl:l≠[]->uG ts q.au.xs l s=T):PY ts q s (lF ls l):=by
 obtain⟨r,rfl,a⟩:=h;unfold lF;split
 .exact⟨r,rfl,a⟩
 .rename_i hn
  refine⟨r++[l],rfl,λo b=>?_⟩;grind
def xw(hq:QF ts q)(hs:s<2 ^ (N q.au.xs))(gH:∀c∈o,0<=c/\c<aX ts q.au.xs)(h:bV s (bn (iR ts q o))=T):∀c∈o,bV s (2 ^ aU ts q.au.xs c)=true:=by
 intro c f;have e:∀x∈iR ts q o,0<=x/\x<(N q.au.xs:Int):=λx a=>by obtain⟨d,hd,rfl⟩:=Xc.1 a;have:=xV hq (gH d hd);omega
 have g:=(nQ (qg hq.jM hs) (qg hq.jM (uL e))).1 h;refine(nQ (qg hq.jM hs) (qg hq.jM (XR X (xV hq (gH c f))))).2 λj b=>g j ?_;rw[Nat.testBit_two_pow]at b;simp only[Zi]at b;rw[ZM (λx a=>(e x a).1),Zi];exact Xc.2 ⟨c,f,by rw[b]⟩
def afI(hq:QF ts q)(hs:s<2 ^ (N q.au.xs))(hc:0<=c/\c<aX ts q.au.xs){acc:JK (IC)}(h:PY ts q s acc):PY ts q s (fC ts q s acc c):=by
 unfold fC;split
 .rename_i auj
  have a:∀d∈[c],0<=d/\d<aX ts q.au.xs:=λd hd=>Qf;refine h.arZ λ_=>Vj Qa a ?_ (xw hq hs a auj);rfl
 .exact h
def al4(hq:QF ts q){c:aQ}(hc:c∈q.wh)(h:(di c.cs).2.2=T):(0<=(di c.cs).1/\(di c.cs).1<aX ts q.au.xs)/\(0<=(di c.cs).2.1/\(di c.cs).2.1<aX ts q.au.xs):=by
 obtain⟨k,a,rfl⟩:=Ze hc;have b:=hq.ok.some k a;have d:=hq.ok.bU k a;rw[Js,XG a]at b d;simp only[Option.getD_some]at b d;generalize q.wh[k].cs=cs at*;unfold di at h ⊢;by_cases i:N cs > 1∨(E cs 0 cz).op≠0∨(E cs 0 cz).not=T∨(E cs 0 cz).const=T
 .simp_all
 rw[Zk i];have j:∀x,x∈bz (E cs 0 cz)->x∈bD cs:=λx g=>ZA.2 ⟨_,by
  simp_all,g⟩
 have e:(E cs 0 cz).op=0:=by omega
 have l:(E cs 0 cz).const=false:=by simp_all
 have f:bz (E cs 0 cz)=[(E cs 0 cz).left,(E cs 0 cz).right]:=by unfold bz;simp_all
 simp_all
def adX(hq:QF ts q)(hs:s<2 ^ (N q.au.xs)):PY ts q s (dF ts q s):=by
 have b:PY ts q s [[]]:=⟨[],rfl,λo a=>by (cases a)⟩;have i:PY ts q s (if bV s (bn (iR ts q (aR q)))=T then lF [[]] (aR q) else [[]]):=by
  split
  .rename_i hc
   have a:=wL hq;exact b.arZ λf=>Vj (List.length_pos_iff.2 f) a.1 a.2 (xw hq hs a.1 hc)
  .exact b
 unfold dF;have key:∀(l:JK aQ) (acc:JK (IC)),(∀c∈l,c∈q.wh)->PY ts q s acc->PY ts q s (l.foldl (kL ts q s) acc):=by
  intro l
  induction l with
  |nil=>simp_all
  |cons c l ih =>
   intro acc e h;refine ih _ (λx g=>e x (ZV _ g)) ?_;unfold kL;split
   .rename_i hc
    rw[Q8]at hc;have d:=al4 hq (e c Ji) hc.1;exact afI hq hs d.2 (afI hq hs d.1 h)
   .exact h
 simp_all
structure SF(ts:JK af)(q:ae)(σ:fE):Prop where
 nN:∀s,s<N σ.az->GF ts q s (E σ.az s [])
 bP:BF ts q σ.bP
theorem auk(hq:QF ts q)(hs:s<2 ^ (N q.au.xs))(aI:Nat):GF ts q s (fw ((dF ts q s).take aI)):=by
 obtain⟨r,e,g⟩:=adX hq hs;refine⟨λp f x a=>?_,λx a=>?_,λo b=>?_⟩
 .obtain⟨o,_,rfl⟩:=Xc.1 f
  cases a
 .rw[e]at a
  cases aI with
  |zero=>cases a
  |succ n=>cases a
 .have d:(fw ((dF ts q s).take aI)).map Prod.fst=(dF ts q s).take aI:=by unfold fw;rw[Xe];exact List.map_id' _
  rw[d,e]at b
  cases aI with
  |zero=>cases b
  |succ n =>
   grind
def NV{ts:JK af}{q:ae}(hq:QF ts q):∀k,k<N q.au.xs->TF ts q (dN ts q k)/\(dN ts q k).d.ah=2 ^ (k+1)-1/\(dN ts q k).d.aG=0/\gI (dN ts q k).d.kind=F/\(dN ts q k).ns.length=2*k+1
 |0,h=>⟨Vh X X,Qh,Qh,Qh,rfl⟩
 |k+1,h=>by
  obtain⟨h1,h2,h3,h4,h5⟩:=NV hq k X;have h6:=hq.jM;have hs:(aS ts q (lh ((k+1:Nat):Int)) []).d.ah=2 ^ (k+1):=by rw[yT,XY]
  have ht:=Vh (ts:=ts) (q:=q) (s:=((k+1:Nat):Int)) X X;have bits:∀m,m<6->(2 ^ m-1) &&& 2 ^ m=0/\(2 ^ m-1)|||2 ^ m=2 ^ (m+1)-1:=Qc;have hb:=bits (k+1) X;obtain⟨d1,d2,d3⟩:=afE ts q (eU 3) (dN ts q k) (aS ts q (lh ((k+1:Nat):Int)) []) Qc;refine⟨TF.arY (Bz Qc Qc) Qc h1 ht (by rw[h5];show 2*k+1+1<=900;omega) ?_,?_,?_,?_,?_⟩
  .rw[xR Qc h4 Qh,Zm]
   show (if (3:Int)=1 then _ else if (3:Int)=2 then _ else if (3:Int)=3 then zU ts q (eU 3) _ _ else _)=T;rw[Zk Qc,Zk Qc,Zd rfl];unfold zU;rw[h2,hs,Zl hb.1];rfl
  .show (aS ts q (eU 3) [dN ts q k,aS ts q (lh ((k+1:Nat):Int)) []]).d.ah=_
   simp_all
  .show (aS ts q (eU 3) [dN ts q k,aS ts q (lh ((k+1:Nat):Int)) []]).d.aG=0
   rw[d3,h3];show bn []|||0|||(bn []|||0|||0)=0;rfl
  .rfl
  .show (aS ts q (eU 3) [dN ts q k,aS ts q (lh ((k+1:Nat):Int)) []]).ns.length=_
   rw[Jk ts q _ Qa];show (dN ts q k).ns.length+1+1=_;omega
theorem al5(hq:QF ts q):BF ts q (kI ts q):=by
 have A:=hq.one;have B:=hq.jM;obtain⟨m,b,n,p,C⟩:=NV hq (N q.au.xs-1) X;rw[show N q.au.xs-1+1=N q.au.xs by omega]at b;obtain⟨f,e⟩:=eY (dz ts q (dN ts q (N q.au.xs-1)) (2 ^ (N q.wh)-1));have a:2 ^ (N q.wh)-1<2 ^ 64:=NN hq.ko (Nat.sub_lt (Nat.pow_pos X) X);have g:TF ts q f/\f.d.ah=2 ^ (N q.au.xs)-1/\f.d.aG=2 ^ (N q.wh)-1/\gI f.d.kind=F/\N f.ns<=12:=by
  rw[e];unfold dz;split
  .grind
  .rename_i hz
   obtain⟨D,G,r⟩:=Vg ts q (Dx (dZ (2 ^ (N q.wh)-1))) (dN ts q (N q.au.xs-1)) (by show (2:Int)≠1;decide);refine⟨afF m X p a hz (zC ts q λi z=>by rw[b,NR hq];exact z),X,?_,Qh,?_⟩
   .rw[r,n]
    show bn (dZ (2 ^ (N q.wh)-1))|||0=_;rw[sP a,Nat.or_zero]
   .rw[Jk ts q _ Qa]
    show (dN ts q (N q.au.xs-1)).ns.length+0+1<=12;omega
 obtain⟨t,u,v,f4,K⟩:=g;have j:=aaF (q:=q) u v;have l:((if q.aF=T then (7:Int) else 9)=9/\q.aF=F)∨((if q.aF=T then (7:Int) else 9)=8/\q.aF=T/\aN f.d.aH q.aC.xs=T)∨((if q.aF=T then (7:Int) else 9)=7/\q.aF=T):=by grind
 obtain⟨y,L⟩:=al3 t X f4 (k:=if q.aF=T then (7:Int) else 9) X (aaE j l);unfold kI;simp only;rw[<-e];split
 .simp_all
 .rename_i ho
  refine y ?_;unfold kF;simp_all
def aaH{ts:JK af}{q:ae}(hq:QF ts q):∀{l:JK bF} {b:bF},BF ts q b->(∀t∈l,PF ts q (2 ^ (N q.au.xs)-1) t)->BF ts q (l.foldl (lK ts q) b)
 |[],_,h,_=>h
 |t::l,b,h,hl=>by
  refine aaH hq (l:=l) (b:=lK ts q b t) ?_ (λx hx=>hl x (ZV _ hx));have ht:=hl t Ji;unfold lK;rcases Gd b (dQ ts q t) with e|e
  .simp_all
  .exact adW hq ht.ts' (Qj (ht.ig hq)) ht.au _ e
def afJ(hq:QF ts q)(hC:tY q σ)(h:SF ts q σ)(hs:s<2 ^ (N q.au.xs))(hT:∀t∈l,V5 q s t)(hl:∀t∈l,PIn ts q s t):SF ts q (ed rk ts q s l σ):=by
 unfold ed;by_cases b:s=2 ^ (N q.au.xs)-1
 .rw[Zd b];exact⟨h.nN,aaH hq h.bP (λt d=>b ▸ (hl t d).1)⟩
 .rw[Zk b];have a:s<N σ.az:=by rw[hC.qw];omega
  refine⟨λk f=>?_,h.bP⟩;show GF ts q k (E (σ.az.set s _) k []);rw[oD];split
  .rename_i e
   rw[<-e.1];exact adV hq (hC.nN s a) hT (h.nN s a) hl
  .refine h.nN k ?_
   simp_all
def ay3(hq:QF ts q){t:bB}(hC:tY q σ)(h:SF ts q σ)(ht:sM (N q.au.xs) σ.az t):SF ts q (vU rk ts q (dh ts q) t σ):=by
 have k:=hq.jM;unfold vU;rcases ht with⟨h0,i,hi,e⟩|⟨h0,h1,h2,h3,h4,h6⟩
 .rw[Zd h0,e,Bq i X];have b:=wE ts q (JJ ts q) (s:=(i:Int)) X X;obtain⟨g1,g,m⟩:=zD hq (s:=(i:Int)) X X;rw[XY]at g;have l:0<2 ^ i:=Nat.pow_pos X;refine afJ hq hC h (XR X hi) (λx a=>?_) (λx a=>?_)
  .rw[XH]at a;rw[a];exact⟨b.1,b.2.1,X⟩
  .rw[XH]at a;rw[a];have j:=apN i X;exact⟨⟨g1,g,X⟩,X⟩
 .rw[Zk h0];have d:=h1;have f:=h2;rw[hC.qw]at h1 h2;refine afJ hq hC h (vZ X X) (λx a=>?_) (λx a=>?_)
  .exact Cz (JJ ts q) h3 (hC.nN _ d) (hC.nN _ f) h6 x a
  .exact al2 hq h3 (h.nN _ d) (h.nN _ f) h6 x a
theorem apR(hq:QF ts q)(nC:GQ q σ)(h:SF ts q σ)(h1:σ.status=1)(pick:Int):SF ts q (gz rk ts q (dh ts q) pick σ):=by
 have a:=nC.U5 h1;have d:=xQ a pick;have b:E σ.aL (eF (N σ.aL) pick).toNat (0,0)∈σ.aL:=by simp_all
 have hd:=ay3 (rk:=rk) hq (t:=E σ.aL (eF (N σ.aL) pick).toNat (0,0)) (nC.core.alx (eF (N σ.aL) pick).toNat (σ.picks++[eF (N σ.aL) pick])) ⟨h.nN,h.bP⟩ (nC.core.task _ b);unfold gz jT;simp only;split
 .exact hd
 .exact⟨hd.nN,hd.bP⟩
theorem adY{rk:Nat->Int}{ts:JK af}{q:ae}(hq:QF ts q)(picks:IC){σ:fE}(nC:GQ q σ)(h:SF ts q σ):∀n,SF ts q (iV rk ts q (dh ts q) picks n 0 σ)
 |0=>h
 |n+1=>by
  have ih:=adY (rk:=rk) hq picks nC h n;have ok:=(wK (rk:=rk) (ts:=ts) (JJ ts q) hq.jM picks nC n).1;rw[JI];split
  .grind [apR]
  .exact ih
def aaI(hq:QF ts q)(rk:Nat->Int)(aI:Nat):SF ts q (fF rk ts q aI):=by
 refine⟨λs b=>?_,al5 hq⟩;have a:(fF rk ts q aI).az.length=2 ^ (N q.au.xs)-1:=by unfold fF;simp
 rw[a]at b;have e:(fF rk ts q aI).az.getD s []=fw ((dF ts q s).take aI):=by unfold fF;simp_all
 rw[e];exact auk hq X aI
theorem aaJ(b:bF):∀(l:JK bF),(iY b l).d.aJ<=b.d.aJ:=by
 have key:∀(l:JK bF) (b:bF),(l.foldl nJ b).d.aJ<=b.d.aJ:=by
  intro l
  induction l with
  |nil=>simp_all
  |cons t l ih =>
   intro b;refine ZU (ih (nJ b t)) ?_;unfold nJ;grind
 exact λl=>key l b
def aaK{ts:JK af}{q:ae}:∀(l:JK bF) (b:bF),(l.foldl (lK ts q) b).d.aJ<=b.d.aJ
 |[],_=>Zb _
 |t::l,b=>ZU (aaK l (lK ts q b t)) (aaJ b _)
theorem apS(rk:Nat->Int)(ts:JK af)(q:ae)(conc:JK Nat)(pick:Int)(σ:fE):(gz rk ts q conc pick σ).bP.d.aJ<=σ.bP.d.aJ:=by
 have a:∀s l (τ:fE),(ed rk ts q s l τ).bP.d.aJ<=τ.bP.d.aJ:=λs l τ=>by
  unfold ed;split
  .exact aaK l τ.bP
  simp_all
 have hd:∀t (τ:fE),(vU rk ts q conc t τ).bP.d.aJ<=τ.bP.d.aJ:=λt τ=>by unfold vU;grind
 unfold gz jT;grind
theorem al6(rk:Nat->Int)(ts:JK af)(q:ae)(conc:JK Nat)(picks:IC)(σ:fE)(n:Nat):∀m,(iV rk ts q conc picks (n+m) 0 σ).bP.d.aJ<=(iV rk ts q conc picks n 0 σ).bP.d.aJ/\(iV rk ts q conc picks n 0 σ).picks.length<=(iV rk ts q conc picks (n+m) 0 σ).picks.length
 |0=>⟨Zb _,Zb _⟩
 |m+1=>by
  obtain⟨h1,h2⟩:=al6 rk ts q conc picks σ n m;rw[show n+(m+1)=n+m+1 by omega,JI];split
  .refine⟨ZU (apS rk ts q conc _ _) h1,ZU h2 ?_⟩;have hk:∀s l (τ:fE),(ed rk ts q s l τ).picks=τ.picks:=λs l τ=>by unfold ed;split <;> rfl
   have hd:∀t (τ:fE),(vU rk ts q conc t τ).picks=τ.picks:=λt τ=>by unfold vU;grind
   unfold gz jT;grind
  omega
theorem NY(ts:JK af)(q:ae)(l:JK ay):∀k,mO ts q (l.map fA) k=mO ts q l k
 |0=>rfl
 |k+1=>by
  have hg:E (l.map fA) k nz=fA (E l k nz):=by grind [fA,nz]
  show (mO ts q (l.map fA) k).bind (zV ts q (E (l.map fA) k nz))=(mO ts q l k).bind (zV ts q (E l k nz));rw[NY ts q l k,hg];rfl
theorem aic(ts:JK af)(q:ae)(l:JK ay):AX ts q (l.map fA)=AX ts q l:=by
 have a:∀i,E (l.map fA) i nz=fA (E l i nz):=λi=>by grind [fA,nz]
 have f:∀i,qN (l.map fA) i=qN l i:=λi=>by unfold qN;simp only[a];rfl
 have g:∀n i,p8 (fA n) i=p8 n i:=λ_ _=>rfl;have b:∀n,(fA n).kind=n.kind:=λ_=>rfl;have d:∀n,(fA n).l=n.l:=λ_=>rfl;have e:nZ (l.map fA)=nZ l:=by grind [nZ,FD]
 unfold AX;simp only[e,ZX,NY,a,b,d]
def BF.aJ(h:BF ts q t){nv:JK ay}(hn:nv.map fA=t.ns):∃a,AX ts q nv=O a/\(E a (N a-1) pz).aJ=t.d.aJ:=by obtain⟨a,b,f,e⟩:=h.ah6;refine⟨a,?_,by rw[e]⟩;rw[<-aic,hn];exact b
def Sor(ts:JK af)(q:ae)(g:JK aK):Prop:=∀h,df g=O h->∀o∈(g.map Prod.fst).drop 1,Ar g (bW ts q h o)
def Sor.zu{g:JK aK}(h:Sor ts q g)(hg:zh q s g)(hl:∀t∈l,V5 q s t):Sor ts q (bq ts q g l).2:=by
 cases hi:(bq ts q g l).1 with
 |false=>rw[Gg hi];exact h
 |true =>
  have v:=(Bg (ts:=ts) hg hl).2.2;intro t a o p;rw[v]at p;have f:=xO (l:=l) (x:=(F,g)) hg hl (λe=>by cases e);unfold bq at hi a ⊢;split at hi
  .rename_i hc
   rw[Zd hc]at a ⊢;have z:=f.2 hc;obtain⟨u,b⟩:=ZJ.1 z;have i:∀o,u.d.aJ<=(bW ts q u o).d.aJ:=λo=>by
    obtain⟨B,r,e,_⟩:=f.1.head;have k:=f.1.all;rw[e]at b k
    cases B with
    |none=>cases b
    |some y =>
     have j:O y.2=O u:=b;injection j with j;have m:=k ([],O y) Ji y rfl;rw[j]at m;exact yU ts q u o m.1.aJ
   have n:=Km (ts:=ts) (q:=q) i ((g.map Prod.fst).drop 1) b;have A:df (((g.map Prod.fst).drop 1).foldl (fT ts q) (mP g l).2)=O u:=n.1;rw[A]at a;injection a with a;rw[<-a];exact n.2 o p
  .cases hi
def Cvd(ts:JK af)(q:ae)(σ:fE)(s:Nat)(t:bF):Prop:=
 if s=2 ^ (N q.au.xs)-1 then ∀e∈dQ ts q t,σ.bP.d.aJ<=e.d.aJ else Ar (E σ.az s []) t
structure Opt(ts:JK af)(q:ae)(conc:JK Nat)(σ:fE):Prop where
 ND:∀i,i<N q.au.xs->((2 ^ i,0):bB)∈σ.aL∨Cvd ts q σ (2 ^ i) (dE ts q conc i)
 join:∀A B,A<N σ.az->B<N σ.az->B≠0->A &&& B=0->(df (E σ.az A [])).isSome=T->(df (E σ.az B [])).isSome=T->((A,B):bB)∈σ.aL∨∀t∈jo ts q conc (E σ.az A []) (E σ.az B []),Cvd ts q σ (A|||B) t
 sor:∀s,s<N σ.az->Sor ts q (E σ.az s [])
theorem adO{a b:bB}(h:vJ rk a b=0):a=b:=by
 unfold vJ at h;split at h
 .omega
 .split at h
  .omega
  grind [uR]
theorem H6(rk:Nat->Int)(a:JK bB)(t:bB):t∈jH rk a t:=by
 unfold jH;split
 .rename_i h
  unfold uA at h;rw[Q8,Zi,Zi]at h;have e:=adO h.2;grind
 .simp
theorem NF(h:x∈a)(t:bB):x∈jH rk a t:=by
 unfold jH;split
 .exact h
 .rw[<-XA (rX rk a t) a]at h
  grind
theorem zw{rk:Nat->Int}{s:Nat}{gs:JK (JK aK)}{x:bB}:∀(ks:JK Nat) {a:JK bB},x∈a->x∈ks.foldl (fU rk s gs) a
 |[],_,h=>h
 |k::ks,a,h=>by
  refine zw ks (a:=fU rk s gs a k) ?_;unfold fU;split
  .grind [NF]
  .exact h
def NG{rk:Nat->Int}{s:Nat}{gs:JK (JK aK)}{k:Nat}(hk:(df (E gs k [])).isSome=T)(h0:k &&& s=0):∀(ks:JK Nat) (a:JK bB),k∈ks->((s,k):bB)∈ks.foldl (fU rk s gs) a/\((k,s):bB)∈ks.foldl (fU rk s gs) a
 |[],_,h=>by cases h
 |j::ks,a,h=>by
  rcases ZB.1 h with rfl|h
  .have e:fU rk s gs a k=jH rk (jH rk a (s,k)) (k,s):=by unfold fU;simp_all
   rw[ZL,e];exact⟨zw ks (NF (H6 ..) _),zw ks (H6 ..)⟩
  .exact NG hk h0 ks _ h
theorem ahW{k:Nat}(h:x∈a)(hx:x≠E a k (0,0)):x∈a.eraseIdx k:=by
 by_cases b:k<N a
 .rw[List.eraseIdx_eq_take_drop_succ];rw[<-XA k a,List.drop_eq_getElem_cons b]at h
  grind
 .rw[List.eraseIdx_of_length_le X];exact h
theorem Gh:∀(l:JK bF) (b:bF),(iY b l).d.aJ<=b.d.aJ/\∀t∈l,(iY b l).d.aJ<=t.d.aJ
 |[],b=>⟨Zb _,λ_ h=>by cases h⟩
 |t::l,b=>by
  obtain⟨h1,h2⟩:=Gh l (nJ b t);have h3:(nJ b t).d.aJ<=b.d.aJ/\(nJ b t).d.aJ<=t.d.aJ:=by unfold nJ;grind
  have e:iY b (t::l)=iY (nJ b t) l:=rfl;grind
theorem H7{ts:JK af}{q:ae}:∀(l:JK bF) (b:bF),(l.foldl (lK ts q) b).d.aJ<=b.d.aJ/\∀t∈l,∀e∈dQ ts q t,(l.foldl (lK ts q) b).d.aJ<=e.d.aJ
 |[],b=>⟨Zb _,λ_ h=>by cases h⟩
 |t::l,b=>by obtain⟨h1,h2⟩:=H7 (ts:=ts) (q:=q) l (lK ts q b t);obtain⟨h3,h4⟩:=Gh (dQ ts q t) b;have e0:lK ts q b t=iY b (dQ ts q t):=rfl;grind
theorem rG{k:Nat}(hk:k≠s):(ed rk ts q s l σ).az.getD k []=E σ.az k []:=by unfold ed;grind
theorem CQ:(ed rk ts q s l σ).az.length=N σ.az:=by unfold ed;grind
theorem SY{k:Nat}(h:Cvd ts q σ k t):Cvd ts q (ed rk ts q s l σ) k t:=by
 unfold Cvd at h ⊢;unfold ed;split at h
 .rename_i hk
  rw[Zd hk];split
  .intro e a;have:=(H7 (ts:=ts) (q:=q) l σ.bP).1
   grind
  .exact h
 .rename_i hk
  rw[Zk hk];split
  .exact h
  .show Ar (E (σ.az.set s _) k []) t
   rw[oD];split
   .rename_i e
    rw[<-e.1]at h;exact h.zu l
   .exact h
theorem S9(hs:s=2 ^ (N q.au.xs)-1∨s<N σ.az):∀t∈l,Cvd ts q (ed rk ts q s l σ) s t:=λt a=>by
 unfold Cvd ed;split
 .exact(H7 (ts:=ts) (q:=q) l σ.bP).2 t a
 .rename_i hk
  show Ar (E (σ.az.set s _) s []) t;rw[oD,Zd ⟨rfl,hs.resolve_left hk⟩];exact Ar.alS ts q _ l t a
def Gi(h:x∈σ.aL):x∈(ed rk ts q s l σ).aL:=by
 unfold ed;split
 .exact h
 .show x∈(if _ then ng rk s _ σ.aL else σ.aL)
  split
  .exact zw _ h
  .exact h
def aar:(ed rk ts q s l σ).az.getD s []=E σ.az s []∨∀k,k<N σ.az->(df ((ed rk ts q s l σ).az.getD k [])).isSome=T->k &&& s=0->((s,k):bB)∈(ed rk ts q s l σ).aL/\((k,s):bB)∈(ed rk ts q s l σ).aL:=by
 unfold ed;split
 .simp_all
 .cases hi:(bq ts q (E σ.az s []) l).1 with
  |false =>
   refine .inl ?_;show E (σ.az.set s _) s []=_;rw[oD];split
   .exact Gg hi
   .rfl
  |true =>
   refine .inr λk d a b=>?_;show _∈(if (bq ts q (E σ.az s []) l).1=T then ng rk s (σ.az.set s (bq ts q (E σ.az s []) l).2) σ.aL else σ.aL)/\_∈(if (bq ts q (E σ.az s []) l).1=T then ng rk s (σ.az.set s (bq ts q (E σ.az s []) l).2) σ.aL else σ.aL);rw[Zd hi];exact NG a b _ _ (Xd.2 Qf)
def Cvd.same{k:Nat}(h:Cvd ts q σ k t)(hg:τ.az=σ.az)(hb:τ.bP=σ.bP):Cvd ts q τ k t:=by unfold Cvd at h ⊢;simp_all
theorem Tc{t:bB}(hO:Opt ts q conc σ)(hc:tY q σ)(hag:∀x∈σ.aL,x≠t->x∈τ.aL)(O0:τ.az=σ.az)(hb:τ.bP=σ.bP)(hs:s<2 ^ (N q.au.xs))(hl:∀x∈l,V5 q s x)(ayY:∀i:Nat,i<N q.au.xs->t=(2 ^ i,0)->2 ^ i=s/\dE ts q conc i∈l)
  (ayZ:∀A B,t=(A,B)->B≠0->A|||B=s/\jo ts q conc (E σ.az A []) (E σ.az B [])=l):Opt ts q conc (ed rk ts q s l τ):=by
 have n:s=2 ^ (N q.au.xs)-1∨s<N τ.az:=by rw[O0,hc.qw];omega
 refine⟨λi y=>?_,λA B p r b u d f=>?_,λk m=>?_⟩
 .rcases hO.ND i y with a|a
  .by_cases e:((2 ^ i,0):bB)=t
   .obtain⟨g,j⟩:=ayY i y e.symm;refine .inr ?_
    grind [S9]
   .exact .inl (Gi (hag _ a e))
  .exact .inr (SY (a.same O0 hb))
 .rw[CQ]at p r;have key:((ed rk ts q s l τ).az.getD A []=E σ.az A []/\(ed rk ts q s l τ).az.getD B []=E σ.az B [])∨((A,B):bB)∈(ed rk ts q s l τ).aL:=by
   rcases aar (rk:=rk) (ts:=ts) (q:=q) (s:=s) (l:=l) (σ:=τ) with h|h
   .have all:∀k,(ed rk ts q s l τ).az.getD k []=E σ.az k []:=λk=>by
     rw[<-O0];by_cases e:k=s
     .simp_all
     grind [rG]
    simp_all
   .by_cases g:A=s
    .grind
    .by_cases j:B=s
     .simp_all
     .exact .inl ⟨by rw[rG g,O0],by rw[rG j,O0]⟩
  rcases key with⟨g,j⟩|h
  .rw[g]at d ⊢;rw[j]at f ⊢;rw[O0]at p r;rcases hO.join A B p r b u d f with a|a
   .by_cases e:((A,B):bB)=t
    .obtain⟨z,C⟩:=ayZ A B e.symm b;refine .inr ?_;rw[z,C];exact S9 n
    .exact .inl (Gi (hag _ a e))
   .exact .inr λx D=>SY ((a x D).same O0 hb)
  simp_all
 .rw[CQ,O0]at m;have v:=hO.sor k m;by_cases e:k=s
  .subst e;unfold ed;split
   .simp_all
   .show Sor ts q (E (τ.az.set k _) k [])
    rw[oD,O0,Zd ⟨rfl,m⟩];exact v.zu (hc.nN k m) hl
  .rw[rG e,O0];exact v
def ah1(nU:N conc=N q.wh)(h:GQ q σ)(h5:N q.au.xs<=5)(h1:σ.status=1)(pick:Int)(hO:Opt ts q conc σ):Opt ts q conc (gz rk ts q conc pick σ):=by
 have l:=h.U5 h1;have m:=xQ l pick;have n:E σ.aL (eF (N σ.aL) pick).toNat (0,0)∈σ.aL:=by simp_all
 have p:=h.core.task _ n;have d:∀x∈σ.aL,x≠E σ.aL (eF (N σ.aL) pick).toNat (0,0)->x∈σ.aL.eraseIdx (eF (N σ.aL) pick).toNat:=λx b r=>ahW b r;have f:∀τ:fE,Opt ts q conc τ->Opt ts q conc (jT τ):=λτ g=>by
  unfold jT;split
  .exact g
  .exact⟨g.ND,g.join,g.sor⟩
 unfold gz;refine f _ ?_;generalize E σ.aL (eF (N σ.aL) pick).toNat (0,0)=t at*;have C:=h.core.qw;unfold vU;rcases p with⟨h0,i,hi,e⟩|⟨h0,a1,a2,a3,a4,a6⟩
 .rw[Zd h0,e,Bq i X];have m:0<2 ^ i:=Nat.pow_pos X;have k:=wE ts q nU (s:=(i:Int)) X X;refine Tc (t:=t) hO h.core d rfl rfl (XR X hi) (λx b=>?_) (λj u v=>?_) (λA B y z=>?_)
  .rw[XH]at b;rw[b];exact⟨k.1,k.2.1,X⟩
  .have D:2 ^ j=2 ^ i:=Qf
   have G:j=i:=by
    rcases Nat.lt_trichotomy j i with c|c|c
    .have:=XR (a:=2) X c;omega
    .exact c
    .have:=XR (a:=2) X c;omega
   simp_all
  simp_all
 .rw[Zk h0];rw[h.core.qw]at a1 a2;refine Tc (t:=t) hO h.core d rfl rfl (vZ X X) (λx b=>?_) (λj u v=>?_) (λA B y z=>?_)
  .exact Cz nU a3 (h.core.nN _ X) (h.core.nN _ X) a6 x b
  .simp_all
  simp_all
def Td{rk:Nat->Int}{i:Nat}:∀(ks:JK Nat) (a:JK bB),i∈ks∨((2 ^ i,0):bB)∈a->((2 ^ i,0):bB)∈ks.foldl (λa (i:Nat)=>jH rk a (2 ^ i,0)) a
 |[],_,h=>h.elim (λh=>by cases h) id
 |k::ks,a,h=>by
  refine Td ks _ ?_;rcases h with h|h
  .rcases ZB.1 h with rfl|h
   .exact .inr (H6 ..)
   simp_all
  .exact .inr (NF h _)
def adQ(os:JK (IC)):df (fw os)=none:=by cases os <;> rfl
theorem ah2(rk:Nat->Int)(ts:JK af)(q:ae)(conc:JK Nat)(aI:Nat):Opt ts q conc (fF rk ts q aI):=by
 have b:∀s,df ((fF rk ts q aI).az.getD s [])=none:=λs=>by
  show df (E ((List.range (2 ^ (N q.au.xs)-1)).map λs=>fw ((dF ts q s).take aI)) s [])=Qr;rw[Js,Zv]
  cases (List.range (2 ^ (N q.au.xs)-1))[s]? with
  |none=>rfl
  |some k=>exact adQ _
 refine⟨λi a=>.inl (Td _ _ (.inl (Xd.2 a))),λA B _ _ _ _ d=>?_,λs _ h e=>?_⟩
 .grind
 grind
def aav{rk:Nat->Int}{ts:JK af}{q:ae}{conc:JK Nat}(nU:N conc=N q.wh)(h5:N q.au.xs<=5)(picks:IC){σ:fE}(h:GQ q σ)(hO:Opt ts q conc σ):∀m,Opt ts q conc (iV rk ts q conc picks m 0 σ)
 |0=>hO
 |m+1=>by
  have ih:=aav (rk:=rk) nU h5 picks h hO m;rw[JI];split
  .rename_i hs
   exact ah1 nU (wK nU h5 picks h m).1 h5 hs _ ih
  .exact ih
structure Fin(ts:JK af)(q:ae)(conc:JK Nat)(σ:fE):Prop where
 ND:∀i:Nat,i<N q.au.xs->Cvd ts q σ (2 ^ i) (dE ts q conc i)
 join:∀A B,A<N σ.az->B<N σ.az->B≠0->A &&& B=0->(df (E σ.az A [])).isSome=T->(df (E σ.az B [])).isSome=T->∀t∈jo ts q conc (E σ.az A []) (E σ.az B []),Cvd ts q σ (A|||B) t
 sor:∀s,s<N σ.az->Sor ts q (E σ.az s [])
def Opt.fin(h:Opt ts q conc σ)(e:σ.aL=[]):Fin ts q conc σ:=by refine⟨λi j=>(h.ND i j).resolve_left (by rw[e];simp),λA B a b c d f g=>(h.join A B a b c d f g).resolve_left (by rw[e];simp),h.sor⟩
theorem NH{rk:Nat->Int}{ts:JK af}{q:ae}{conc:JK Nat}(picks:IC){σ:fE}(h:σ.status=1):∀m,(iV rk ts q conc picks m 0 σ).status≠1->(iV rk ts q conc picks m 0 σ).aL=[]
 |0,hs=>absurd h hs
 |m+1,hs=>by
  have ih:=NH (rk:=rk) (ts:=ts) (q:=q) (conc:=conc) picks h m;rw[JI]at hs ⊢;split at hs
  .rename_i h1
   rw[Zd h1];generalize iV rk ts q conc picks m 0 σ=τ at*;unfold gz jT at hs ⊢;simp only at hs ⊢;split at hs
   .rename_i hz
    exfalso;apply hs;have:∀(t:bB) (τ:fE),(vU rk ts q conc t τ).status=τ.status:=λt τ=>by unfold vU ed;grind
    simp_all
   simp_all
  simp_all
def aal{n:Nat}{p:Int}(h0:0<=p)(h1:p<n):eF n p=p:=by unfold eF;rw[Int.tmod_eq_emod_of_nonneg h0,Int.emod_eq_of_lt h0 h1,Int.tmod_eq_emod_of_nonneg X,Int.add_emod_right,Int.emod_eq_of_lt h0 h1]
def SX{n:Nat}(h:0<n)(pick:Int):0<=eF n pick/\eF n pick<n:=by
 unfold eF;have a:(0:Int)<n:=X;have b:-(n:Int)<pick.tmod n:=by have:=Int.tmod_lt_of_pos (-pick) a;rw[Int.neg_tmod]at this;omega
 have d:pick.tmod n<n:=Int.tmod_lt_of_pos pick a;rw[Int.tmod_eq_emod_of_nonneg X];exact⟨Int.emod_nonneg _ X,Int.emod_lt_of_pos _ a⟩
def aam(rk:Nat->Int)(ts:JK af)(q:ae)(s:Nat)(l:JK bF)(σ:fE):(ed rk ts q s l σ).picks=σ.picks:=by unfold ed;split <;> rfl
def aan(rk:Nat->Int)(ts:JK af)(q:ae)(conc:JK Nat)(pick:Int)(σ:fE):(gz rk ts q conc pick σ).picks=σ.picks++[eF (N σ.aL) pick]:=by
 have a:∀τ:fE,(jT τ).picks=τ.picks:=λτ=>by unfold jT;split <;> rfl
 have hd:∀(t:bB) (τ:fE),(vU rk ts q conc t τ).picks=τ.picks:=λt τ=>by unfold vU;split <;> exact aam ..
 unfold gz;simp only[a,hd]
def aao{pick:Int}(h:0<N σ.aL):gz rk ts q conc (eF (N σ.aL) pick) σ=gz rk ts q conc pick σ:=by obtain⟨a,b⟩:=SX h pick;unfold gz;rw[aal a b]
def yl(ts:JK af)(j:Nat)(h:j<6):(pF ts)[N ts*6+j]? = it[j]?:=by unfold pF;rw[Zx,qz _ 6 mK,List.getElem?_append_left (by simpa [it] using h)]
def yn(ts:JK af)(j:Nat)(_h:j<6):(pF ts)[(N ts+1)*6+j]? = it[j]?:=by unfold pF;rw[Zx,show (N ts+1)*6+j=N ts*6+(6+j) by omega,qz _ 6 mK,Zw (by simp[it])];simp[it]
def Cf(cs:JK aV)(j:Nat)(h:j<5):(iC cs)[N cs*5+j]? = ic[j]?:=by unfold iC;rw[Zx,qz _ 5 mJ,List.getElem?_append_left (by simpa [ic] using h)]
def Cg(cs:JK aV)(j:Nat)(_h:j<5):(iC cs)[(N cs+1)*5+j]? = ic[j]?:=by unfold iC;rw[Zx,show (N cs+1)*5+j=N cs*5+(5+j) by omega,qz _ 5 mJ,Zw (by simp[ic])];simp[ic]
def vN:ay:=⟨77777,0,0,0,⟨Qr,0,[]⟩,0,⟨Qr,0,[]⟩⟩
def IB:aV:=⟨F,77777,0,F,0⟩
def mU(w:U):aP w Qr []:=⟨Qa,λi a=>absurd a Qa⟩
def Ua{t:Nat}(h:GB w b t (nk++nk).toArray):fH w (O (aD b 0)) [vN,vN]:=by
 refine⟨Qa,λi d=>?_⟩;have a:i<2:=by simpa using d
 rcases (by omega:i=0∨i=1) with rfl|rfl
 .exact⟨b,0,rfl,h.cell _,h.cell _,h.cell _,h.cell _,h.cell _,h.cell _,h.cell _,mU w,mU w⟩
 .exact⟨b,0,rfl,h.cell _,h.cell _,h.cell _,h.cell _,h.cell _,h.cell _,h.cell _,mU w,mU w⟩
def afZ{t:Nat}(h:GB w b t ic.toArray):bZ w (O (aD b 0)) [IB]:=by
 refine⟨Qa,λi d=>?_⟩;have a:i=0:=by simpa using d
 subst a;exact⟨b,0,rfl,h.cell _,h.cell _,h.cell _,h.cell _,h.cell _⟩
def af0{o t k1 k2:Nat}(h0:Qo w (aD b o)=O (Z (O (aD k1 0)) 1 1))(h1:Qo w (aD b (o+1))=O (Z (O (aD k2 0)) 1 1))(dP:GB w k1 t ic.toArray)(jf:GB w k2 t ic.toArray) :
  fD w (O (aD b o)) [⟨O (aD k1 0),1,[IB]⟩,⟨O (aD k2 0),1,[IB]⟩]:=by
 refine⟨Qa,λi d=>?_,λi d=>?_⟩
 .have a:i<2:=by simpa using d
  rcases (by omega:i=0∨i=1) with rfl|rfl
  .exact⟨b,o,rfl,h0⟩
  .exact⟨b,o,rfl,h1⟩
 .have a:i<2:=by simpa using d
  rcases (by omega:i=0∨i=1) with rfl|rfl
  .exact afZ dP
  .exact afZ jf
theorem ant(a b c d:Nat):∀i,i<[(⟨O (aD a 0),1,[IB]⟩:aQ),⟨O (aD b 0),1,[IB]⟩].length->
  ([(⟨O (aD a 0),1,[IB]⟩:aQ),⟨O (aD b 0),1,[IB]⟩].getD i lz).cs=([(⟨O (aD c 0),1,[IB]⟩:aQ),⟨O (aD d 0),1,[IB]⟩].getD i lz).cs:=λi e=>by grind
def abE(w0 w:U)(G:Nat)(ts:JK af)(q:ae)(bc bf bk bu be bo bw bp bd:Nat)(v:Value)(A:Nat->Nat)(k1 k2 s1 i1 s2 i2:Nat)
  (h:Giv w0 w G 81 59 57 56 3 54 43 25 26 ts q bc bf bk bu be bo bw bp bd v A k1 k2 s1 i1 s2 i2)
  (Pn:N ts<=192153584101141162) (hwl:N q.wh<=1152921504606846976) (iX:∀i,i<N q.wh->(E q.wh i lz).cs.length<=230584300921369395) :
  Cb 54 #[Y (O (aD G 0))] w (Qq T):=by
 have L:=h.g.at 10;have P:=h.g.at 13;have a0:Qo w (aD bc (N ts*6))=O (I J 77777):=(h.qP.cell _).trans (yl ts 0 X);have a1:Qo w (aD bc (N ts*6+1))=O (I J 0):=(h.qP.cell _).trans (yl ts 1 X);have a2:Qo w (aD bc (N ts*6+2))=O (I J 0):=(h.qP.cell _).trans (yl ts 2 X);have a3:Qo w (aD bc (N ts*6+3))=O (I J 0):=(h.qP.cell _).trans (yl ts 3 X);have a4:Qo w (aD bc (N ts*6+4))=O (I J 0):=(h.qP.cell _).trans (yl ts 4 X);have a5:Qo w (aD bc (N ts*6+5))=O (I J 0):=(h.qP.cell _).trans (yl ts 5 X);have b0:Qo w (aD bc ((N ts+1)*6))=O (I J 77777):=(h.qP.cell _).trans (yn ts 0 X);have b1:Qo w (aD bc ((N ts+1)*6+1))=O (I J 0):=(h.qP.cell _).trans (yn ts 1 X);have b2:Qo w (aD bc ((N ts+1)*6+2))=O (I J 0):=(h.qP.cell _).trans (yn ts 2 X);have b3:Qo w (aD bc ((N ts+1)*6+3))=O (I J 0):=(h.qP.cell _).trans (yn ts 3 X);have b4:Qo w (aD bc ((N ts+1)*6+4))=O (I J 0):=(h.qP.cell _).trans (yn ts 4 X);have b5:Qo w (aD bc ((N ts+1)*6+5))=O (I J 0):=(h.qP.cell _).trans (yn ts 5 X);have Q:∀(a b c e:Int) (x:U),(Op.equalIn 9999 52 (.agg #[I J a,I J b,I J c,I J e]) (.agg #[I J a,I J b,I J c,I J e])).run V x=.ok T x:=λa b c e x=>anr 9997 a b c e x;go_enter func54,ntmps54;go_wp2_with fail;have r:GB (w.alloc (Qs (nk++nk).toArray 43)) bp 43 (nk++nk).toArray:=h.plan.of (ZF h.plan.lt);have U2:GB (w.alloc (Qs (nk++nk).toArray 43)) (M (H w)) 43 (nk++nk).toArray:=qj _ _;refine mR (tO (O (aD bp 0)) (O (aD (M (H w)) 0)) 2 2 [vN,vN] [vN,vN] _ (Ua r) (Ua U2) rfl (λi hi=>⟨rfl,rfl,rfl,rfl,rfl,rfl,rfl⟩)) λf K=>?_;have R:=aO (fo _ _) K;clear r U2 K a0 a1 a2 a3 a4 a5 b0 b1 b2 b3 b4 b5 Q;go_wp2_with fail;have j:∃p,p=((f.alloc (Qs ic.toArray 56)).alloc (Qs ic.toArray 56)).alloc (Qs #[Z (O (aD (M (H f)) 0)) 1 1,Z (O (aD (M (H f)+1) 0)) 1 1] 59):=⟨_,rfl⟩;obtain⟨p,j⟩:=j;have k3:Bw w p:=by rw[j];exact aO R (aO (fo _ _) (aO (fo _ _) (fo _ _)))
 have o0:GB p (M (H f)) 56 ic.toArray:=by show p.heap[_]? = _;rw[j,ZF (by simp only[XM];omega),ZF (by simp only[XM];omega),qj]
 have o1:GB p (M (H f)+1) 56 ic.toArray:=by show p.heap[_]? = _;rw[j,ZF (by simp only[XM];omega),show (M (H f))+1=M (H (f.alloc (Qs ic.toArray 56))) by simp,qj]
 have S:GB p (M (H f)+2) 59 #[Z (O (aD (M (H f)) 0)) 1 1,Z (O (aD (M (H f)+1) 0)) 1 1]:=by show p.heap[_]? = _;rw[j,show (M (H f))+2=M (H ((f.alloc (Qs ic.toArray 56)).alloc (Qs ic.toArray 56))) by simp,qj]
 have hO:=af0 (S.cell 0) (S.cell 1) o0 o1;have t:Qo w (aD bw (N q.wh))=O (Z (O (aD k1 0)) 1 1):=by rw[h.row.cell X,Zk X,Zd rfl]
 have u:Qo w (aD bw (N q.wh+1))=O (Z (O (aD k2 0)) 1 1):=by rw[h.row.cell X,Zk X,Zk X]
 have hI:=(af0 t u h.h1 h.h2).aj k3;have W:Qo p (aD G 11)=O (Z (O (aD bw 0)) (N q.wh+2) (N q.wh+2)):=cB k3 (h.g.cell 11);have aa:=h.g.at 12;have ag:=h.g.at 15;have y:=h.g.at 14;have bG:=h.own;have xz:=h.al;obtain⟨d0,d1⟩:=h.db.k2;have e1:=h.r1.at 0;have e2:=h.r2.at 0;have ah:=h.q1;have ai:=h.q2;clear t u L P h Pn;have z:((f.alloc (Qs #[Qq F,I J 77777,I J 0,Qq F,I J 0] 56)).alloc (Qs #[Qq F,I J 77777,I J 0,Qq F,I J 0] 56)).alloc (Qs #[Z (O (aD (M (H f)) 0)) 1 1,Z (O (aD (M (H f)+1) 0)) 1 1] 59)=p:=j.symm;rw[z];clear z j o0 o1 S;generalize hn:N q.wh=n at*;have ak:IntKind.i64.wrap (n:Int)=n:=by rw[IntKind.wrap_i64];omega
 have au:(n:Int)<=n+2:=X;refine Zf ?_;refine asM ?_;refine qA2 ?_;go_big_quiet_want;refine⟨Qq T,λx hx=>?_,?_⟩
 .have hC:Calls V 52 #[Z (O (aD bw n)) 2 2,Z (O (aD (M (H f)+2) 0)) 2 2] x λe aA=>e=Qu (Qq T)/\Bw p aA:=Calls.Ue hx (Ca (O (aD bw n)) (O (aD (M (H f)+2) 0)) 2 2 [⟨O (aD k1 0),1,[IB]⟩,⟨O (aD k2 0),1,[IB]⟩] [⟨O (aD (M (H f)) 0),1,[IB]⟩,⟨O (aD (M (H f)+1) 0),1,[IB]⟩] x (hI.aj hx) (hO.aj hx) rfl (ant _ _ _ _))
  go_simp
 simp only[pU];go_big_quiet_on;refine KX ?_;refine X6 ?_;intro w4 D;have k4:=aO k3 D;clear hO hI W D k3 ak au;obtain⟨vo,vc,hv,VO⟩:∃vo vc,v=Z vo n vc/\∀k,k<n->∃g,vo=O (aD g 0)/\Qo w (aD g k)=O (Z (O (aD (A k) 0)) ((E q.wh k lz).cs.length+2) ((E q.wh k lz).cs.length+2)):=by
  rcases bG.2 with⟨rfl,hn0⟩|⟨g,cap,iw,rfl,_,hh,_,_,_,ht⟩
  .exact⟨Qr,0,by rw[hn0],λk B=>absurd B X⟩
  .refine⟨_,_,rfl,λk B=>⟨g,rfl,?_⟩⟩;have h1:(iw.toList.take (n*1))[k]? = O (Z (O (aD (A k) 0)) ((E q.wh k lz).cs.length+2) ((E q.wh k lz).cs.length+2)):=by rw[ht,Zv,List.getElem?_range B];rfl
   rw[List.getElem?_take_of_lt X]at h1;simp only[World.cell?,hh];simpa using h1
 subst hv;clear bG;go_wp2;go_loopw [8] (λi wr=>∃k:Nat,k<=n/\i=I J k/\Bw w wr) (λi _=>n-(intOf i).toNat)
 case atStart=>exact⟨0,ZR _,rfl,k4⟩
 case round=>
  obtain⟨k,B,rfl,l⟩:=hrel;have av:=cB l aa;by_cases aT:k<n
  .obtain⟨g,rfl,az⟩:=VO k aT;have aF:=cB l az;have d:=xz k aT;have aG:=iX k aT;generalize (E q.wh k lz).cs=cs at*;have p0:Qo wr (aD (A k) (N cs*5))=O (Qq F):=cB l ((d.cell _).trans (Cf cs 0 X));have p1:Qo wr (aD (A k) (N cs*5+1))=O (I J 77777):=cB l ((d.cell _).trans (Cf cs 1 X));have p2:Qo wr (aD (A k) (N cs*5+2))=O (I J 0):=cB l ((d.cell _).trans (Cf cs 2 X));have p3:Qo wr (aD (A k) (N cs*5+3))=O (Qq F):=cB l ((d.cell _).trans (Cf cs 3 X));have p4:Qo wr (aD (A k) (N cs*5+4))=O (I J 0):=cB l ((d.cell _).trans (Cf cs 4 X));have r0:Qo wr (aD (A k) ((N cs+1)*5))=O (Qq F):=cB l ((d.cell _).trans (Cg cs 0 X));have r1:Qo wr (aD (A k) ((N cs+1)*5+1))=O (I J 77777):=cB l ((d.cell _).trans (Cg cs 1 X));have r2:Qo wr (aD (A k) ((N cs+1)*5+2))=O (I J 0):=cB l ((d.cell _).trans (Cg cs 2 X));have r3:Qo wr (aD (A k) ((N cs+1)*5+3))=O (Qq F):=cB l ((d.cell _).trans (Cg cs 3 X));have r4:Qo wr (aD (A k) ((N cs+1)*5+4))=O (I J 0):=cB l ((d.cell _).trans (Cg cs 4 X));clear d xz VO iX;refine gQ ?_;exact⟨k+1,X,Qe,l⟩
  .clear xz VO iX;go_wp2;go_loopw [10] (λi aB=>i=I J 0/\Bw w aB) (λ_ _=>0)
   case atStart=>exact⟨rfl,l⟩
   case round=>
    obtain⟨rfl,OU⟩:=hrel;obtain⟨m15,C⟩:=kP OU ag y;go_wp2;go_loopw [14] (λi aC=>∃k:Nat,k<=2/\i=I J k/\Bw w aC) (λi _=>2-(intOf i).toNat)
    case atStart=>exact⟨0,ZR _,rfl,OU⟩
    case round=>
     obtain⟨k,B,rfl,m⟩:=hrel;clear C m15 av;obtain⟨C,n0,n1,n2,n3⟩:=qi m y d0 d1 e1 e2;have Sl:=OQ i1 wr (ah.up m);have ax:=OQ i2 wr (ai.up m);by_cases jf:k<2
     .rcases (by omega:k=0∨k=1) with rfl|rfl
      .go_wp2_with fail;refine Sl.mono ?_;rintro e w9 ⟨rfl,rfl⟩;go_wp2;go_roundw
       case rel=>exact⟨1,X,rfl,m⟩
       case measure=>simp[intOf]
      .go_wp2_with fail;refine ax.mono ?_;rintro e w9 ⟨rfl,rfl⟩;go_wp2;go_roundw
       case rel=>exact⟨2,X,rfl,m⟩
       case measure=>simp[intOf]
     .have ay:k=2:=X
      subst ay;go_wp2;go_ret;exact⟨rfl,m⟩
theorem aen(x:aA)(k:Nat)(w:U)(hx:x.At w)(hk:k<4611686018427387904) :
  Ce 105 #[x.val,I J (k:Int)] w (I J (jU x.xs k)):=by
 obtain⟨q,cap,xs⟩:=x;have f:=hx.1;simp only at f;by_cases d:N xs=0
 .have a:jU xs k=0:=by unfold jU;rw[Zd d]
  simp only[a,aA.val];rw[d];clear a hx d f;go_enter func105,ntmps105;go_wp2;go_ret;exact⟨rfl,rfl⟩
 .have a:jU xs k=E xs (k % (N xs)) 0:=by unfold jU;rw[Zk d]
  have g:k % (N xs)<N xs:=Nat.mod_lt _ X;obtain⟨b,off,e,j⟩:=Q4 hx g;have l:=j _ g;simp only at e;subst e;simp only[a,aA.val];generalize E xs (k % (N xs)) 0=v at*;have i:Int.tmod (k:Int) (N xs:Int)=((k % (N xs):Nat):Int):=by grind
  have p:((N xs:Int)==0)=false:=Qb;generalize k % (N xs)=m at*;have n:(m:Int)<(N xs:Int):=X;clear a j hx;go_enter func105,ntmps105;go_wp2;go_ret;exact⟨rfl,rfl⟩
def aeS(b base:Nat)(ao po:LM)(cap dR:Nat)(ts:JK af)(q:ae)(pl:JK ay)(i:Nat)(k:Int)(W:U)(seen:JK Nat)(sv:Value)
  (hT:fe W b base 97 3 ao po cap dR ts q pl seen sv) (hsl:N seen<=1000) (h0:0<=k) (hki:k<i) (hi:i<=1000) (hk:k.toNat∈seen) :
  Calls V 75 #[Y (O (aD b 0)),I J i,I J k] W λe W'=>e=Qu (.tuple #[.agg yC.cells,Qq F])/\Bw W W':=by obtain⟨r,t,j,a⟩:=bI W #[Z Qr 0 0,Z Qr 0 0,Z Qr 0 0,Qq F,I Qp 0,I Qp 0] 67;have d:=hT.aj j;obtain⟨v,y,rfl,l⟩:=X9 d.own Qi;have t9:=d.g.at 9;have m:=oh v y _ k r l;rw[Zl ((abv h0).2 hk)]at m;have n:=Zh (uh (JY a yC));have f:Hid (Bw W (World.oI r (M (H W)) yC)):=j.trans ((JZ _ _ _).aj j.size λx D=>X);have z:=a.k6;have A:=GB.f6 a;generalize (seen.map λ(i:Nat)=>(i:Int))=sx at*;simp only[World.oI,bN.cells,yC,aA.val,XE,JW]at f n ⊢;go_enter func75,ntmps75;go_wp2_with fail;refine m.mono ?_;rintro e C ⟨rfl,rfl⟩;have B:¬k<0:=X;have c2:¬(i:Int)<=k:=X;go_wp2;exact Jr (J2 (p:=6) (u:=7) (x:=Qq F) rfl rfl rfl n.o) rfl ⟨rfl,f.o⟩
theorem ai7(w0:U)(b:Nat)(ao po:LM)(cap dR:Nat)(ts:JK af)(q:ae)(pl:JK ay)(D:OH w0 ao po ts q pl)(i:Nat)(W:U)(seen:JK Nat)(sv:Value)(hip:i<N pl)(hT:fe W b (M (H w0)) 97 3 ao po cap dR ts q pl seen sv)(hW:Bw w0 W)(xG:Sn (N pl) (seen++[i]))
  (hP:fK (E pl i nz)=T) (jf:2<=(E pl i nz).kind) (Lg:(E pl i nz).kind<=10) (hl0:0<=(E pl i nz).l) (hli:(E pl i nz).l<i) (CW:(E pl i nz).l.toNat∈seen) :
  Calls V 35 #[Y (O (aD b 0)),I J i] W λe W'=>e=Qu (.tuple #[.agg yC.cells,Qq F])/\aB (Rest b sv) W W'/\∃u,fe W' b (M (H w0)) 97 3 ao po cap dR ts q pl (seen++[i]) u/\nS W sv u:=by
 obtain⟨pb,m,rfl,c0,c1,c2,c3,c4,c5,c6,iX,EU⟩:=D.plan.2 i hip;generalize E pl i nz=n at c0 c1 c2 c3 c4 c5 c6 hP jf Lg hl0 hli CW;have aI:=D.plan.1;have aJ:=D.len;have C:=hW.size;have ax:=xG.len;rw[Zt,Xh]at ax;obtain⟨z,A,B,rfl⟩:=Xz hT.own;obtain⟨X1,P,f,g1⟩:=bI W #[Z Qr 0 0,Z Qr 0 0,Z Qr 0 0,Qq F,I Qp 0,I Qp 0] 67;obtain⟨Xq,hX,d,g2⟩:=bI X1 n.cells 43;have tq:M (H X1)=M (H W)+1:=by rw[<-P];simp
 have k:=aO f d;have az:=(hT.aj f).g.at 8;have j:=hT.aj k;obtain⟨aM,w5,sF,mW,kC,⟨Q,R,S,rfl⟩,jl⟩:=pK Xq (M (H w0)) (Z z A B) (seen.map λ(i:Nat)=>(i:Int)) (by rw[ZX];exact j.own) Qb (Qj k.size) (i:Int) 26;obtain⟨Yq,hY⟩:=eX (w5.setCell (aD b 9) (Z Q R S));obtain⟨TY,aa,v,jG⟩:=hT.push Tryz.L8 k kC mW jl hY.symm;have r:=j.g.of (kC.block b j.g.lt (hT.ne Tryz.L8));have w9:=r.at 9;have aC:=r.frozen 9;have t9:=j.g.at 9;rw[tq]at g2;have t:Vs w0 W b (Z z A B) ao (O (aD pb m)) cap dR ts q pl n.cells Yq (seen++[i]) (Z Q R S):=
  ⟨v,(g1.up d).of (jG _ (Zb _) (Qj d.size)),g2.of (jG _ X g2.lt),TY,aa,hW.trans (v.aj C (λx hx=>hT.yA x hx)),⟨hT.g.lt,C⟩,xG⟩
 have d0:=cB (aO hW f) c0;have d1:=cB (aO hW f) c1;have d2:=cB (aO hW f) c2;have d3:=cB (aO hW f) c3;have d4:=cB (aO hW f) c4;have d5:=cB (aO hW f) c5;have d6:=cB (aO hW f) c6;have Gf:=TL n Yq;rw[hP]at Gf;have YG:=Zh λ(Zq:U) (h:Vs w0 W b (Z z A B) ao (O (aD pb m)) cap dR ts q pl n.cells Zq (seen++[i]) (Z Q R S))=>aeS b (M (H w0)) ao (O (aD pb m)) cap dR ts q pl i n.l Zq (seen++[i]) (Z Q R S) h.iE Qb hl0 hli X (J3 _ CW);obtain⟨aF,EX⟩:=bH t tq;obtain⟨n0,n1,n2,n3,n4,n5,n6⟩:=t.gN.k7;obtain⟨kind,nl,nr,source,⟨KL,KM,uD⟩,key,⟨E5,E8,uJ⟩⟩:=n;unfold ay.cells aA.val at*;simp only[World.oI,bN.cells,yC,aA.val,XE,JW]at*;clear D iX EU xG kC mW jl aa v jG hT j hW TY g1 g2 f d k tq t c0 c1 c2 c3 c4 c5 c6 r hP CW hl0 hli;go_enter func35,ntmps35;go_upto_region 3 with (first|(at_builtin;refine XJ rfl (.tmp 25) (.tmp 27) 26 rfl (Z z A B) (Z (O (aD (M (H Xq)) 0)) 1 1) (Z Q R S) w5 rfl rfl sF ?_));rw[EX.o];clear sF w9 aC t9 az d0 d1 d2 d3 d4 d5 d6 hX P hY;go_wp2_with fail;refine mR Gf λY1 f=>?_;have G:=Zh (Vs.aj aF.o f);have m0:=G.o.gN.at 0;have k1:¬kind<1:=X;have aK:¬10<kind:=X;have aL:(kind==1)=false:=Qi;have K:=YG.o Y1 G.o;have m1:=G.o.gN.at 1;go_wp2_with fail;refine mR K λY2 d=>?_;clear K m1 YG;have L:=Zh (Vs.aj G.o d);obtain⟨Y3,ag,ah,aG⟩:=bI Y2 #[Z Qr 0 0,Z Qr 0 0,Z Qr 0 0,Qq F,I Qp 0,I Qp 0] 67;obtain⟨Y4,ai,ak,aH⟩:=bI Y3 #[Z Qr 0 0,Z Qr 0 0,Z Qr 0 0,Qq F,I Qp 0,I Qp 0] 67;have a:=(L.o.aj ah).aj ak;have rT:=Zh (uh (JY a.gR yC));have gJ:Hid (aB (Rest b (Z z A B)) W (World.oI Y4 (M (H W)) yC)/\∃u,fe (World.oI Y4 (M (H W)) yC) b (M (H w0)) 97 3 ao (O (aD pb m)) cap dR ts q pl (seen++[i]) u/\nS W (Z z A B) u):=by have h6:=JZ Y4 (M (H W)) yC;refine⟨a.fu.dL h6 λx hx _=>X,_,a.iE.but (h6.mono λy _ hy e=>hy ?_),a.next⟩;rw[e];exact⟨Qj a.lo.1,vO a.iE a.gR Qc⟩
 have hc:=a.gR.k6;have hf:=GB.f6 a.gR;simp only[World.oI,bN.cells,yC,aA.val,XE,JW]at rT gJ;obtain⟨au,av⟩:=bH ag ai;clear d ah ak aG aH a G L m0 ag ai;go_upto_region 13 with fail;rw[au.o,av.o];clear au av;go_wp2;exact Jr (J2 (p:=4) (u:=5) (x:=Qq F) rfl rfl rfl rT.o) rfl ⟨rfl,gJ.o⟩
theorem ajh(ao:LM)(cap:Nat)(ts:JK af)(q:ae)(w:U)(hx:aZ w ao ts)(hq:q.At w)(hc:gV ts=T)
  (hf:5<N q.au.xs∨8<N q.wh∨8<N q.bA.xs∨4<N q.aC.xs∨4<N q.aM.xs∨4<N q.ord.xs) :
  Cb 25 #[Z ao (N ts) cap,.agg q.cells] w (I J (q.check ts)):=by
 have y:Hid ((2:Int)=q.check ts):=ae.DR hc (aj4 (by simpa [ae.qU] using hf));have z:=λo=>hx.aj (fo w o);have n:=hq.wh.1;generalize q.check ts=R at*;clear hq;obtain⟨g,C,D,a,aF,r,u,m,ord⟩:=q;simp only at hf n;unfold ae.cells aA.val;simp only;have b:(5<N g.xs)∨(¬5<N g.xs/\8<N a)∨(¬5<N g.xs/\¬8<N a/\8<N m.xs)∨(¬5<N g.xs/\¬8<N a/\¬8<N m.xs/\4<N r.xs)∨
   (¬5<N g.xs/\¬8<N a/\¬8<N m.xs/\¬4<N r.xs/\4<N u.xs)∨(¬5<N g.xs/\¬8<N a/\¬8<N m.xs/\¬4<N r.xs/\¬4<N u.xs/\4<N ord.xs):=X
 clear hf;rcases b with j|⟨j,l⟩|⟨j,l,p⟩|⟨j,l,p,t⟩|⟨j,l,p,t,A⟩|⟨j,l,p,t,A,B⟩
 all_goals
  go_enter func25,ntmps25;go_wp2_with (go_at_call 56;refine(tH _ _ _ _ (z _)).mono ?_;rw[hc];rintro e G ⟨rfl,v⟩;have d:=zR v;simp at d);go_loop [6,7] (λf i=>∃k:Nat,k<=N a/\i=I J k/\f=Qq T) (λ_ i=>N a-(intOf i).toNat)
  case atStart=>exact⟨0,ZR _,rfl,by first|rfl|exact Cm Qi⟩
  case round=>
   obtain⟨k,K,rfl,rfl⟩:=hrel;by_cases L:k<N a
   .go_wp2;go_round
    case rel=>exact⟨k+1,X,Qe,rfl⟩
    case measure=>exact XK
   .go_wp2;go_ret;exact⟨Q0 y.o,aO (fo _ _) v⟩
theorem anv(ao:LM)(cap:Nat)(ts:JK af)(q:ae)(w:U)(hx:aZ w ao ts)(hq:q.At w)(hc:gV ts=T)
  (hf:¬(5<N q.au.xs∨8<N q.wh∨8<N q.bA.xs∨4<N q.aC.xs∨4<N q.aM.xs∨4<N q.ord.xs)) (hw:pE q.wh (N q.wh)=F) :
  Cb 25 #[Z ao (N ts) cap,.agg q.cells] w (I J (q.check ts)):=by
 have y:mD q.au.xs q.qU q.aC.xs q.aM.xs q.bA.xs q.ord.xs=false:=aj5 (by simpa [ae.qU] using hf) (by rw[GR];exact hw);have B:=@ae.aga q ts hc y;have Ae:=@ae.aj6 q ts hc y;have ag:=@Fa q (aX ts q.au.xs);have ah:=@Dm q (aX ts q.au.xs);have sK:=λo=>hx.aj (fo w o);have ai:=@acm q.wh;generalize hR:q.check ts=R at*;generalize bu:q.cells=C at*;have ak:=bu.symm;obtain⟨d,iF,cZ,l,aF,g,n,p,ord⟩:=q;have az:=ak;unfold ae.cells aA.val at az;subst az;simp only at hf hw B Ae ag ah ai;have D:aP w d.ad d.xs:=hq.au;have G:aP w g.ad g.xs:=hq.aC;have aL:aP w n.ad n.xs:=hq.aM;have aB:aP w p.ad p.xs:=hq.bA;have uP:aP w ord.ad ord.xs:=hq.ord;have av:fD w iF l:=hq.wh;clear hq;have h1:¬5<N d.xs:=X;have h2:¬8<N l:=X;have h3:¬8<N p.xs:=X;have h4:¬4<N g.xs:=X;have h5:¬4<N n.xs:=X;have h6:¬4<N ord.xs:=X;have HW:Hid (∀k,k<N l->(E l k lz).cs.length<=3):=λk hk=>ai hk hw;obtain⟨S,aW⟩:=bH B Ae;have aN:Hid (∀{k:Nat},k<N l->kK (E l k lz).cs (aX ts d.xs)=F->_):=ag;obtain⟨aY,bI⟩:=bH ah ak;clear hf hw ai B Ae ag ah ak y hR;go_enter func25,ntmps25;go_wp2_with (go_at_call 56;refine(tH _ _ _ _ (sK _)).mono ?_;rw[hc];rintro e w' ⟨rfl,hb⟩;have a:=zR hb;simp at a);go_loop [6,7] (λf i=>∃k:Nat,k<=N l/\i=I J k/\f=Qq F) (λ_ i=>N l-(intOf i).toNat)
 case atStart=>exact⟨0,ZR _,rfl,Cm Qi⟩
 case round=>
  obtain⟨k,hk,rfl,rfl⟩:=hrel;by_cases aT:k<N l
  .have bD:=HW.o k aT;obtain⟨b,off,rfl,iX⟩:=av.2.1.get aT;have A:=cB (aO (fo _ _) hb) (iX k aT);unfold aQ.val at A;generalize (E l k lz).ad=ad,(E l k lz).cap=cp,(E l k lz).cs.length=cl at*;have bE:¬3<cl:=X
   go_wp2;go_round
   case rel=>exact⟨k+1,X,Qe,Cm Qi⟩
   case measure=>exact XK
  .have hz:M (H w)<M (H w'):=by have:=hb.size;simp at this;omega
   have z:=aO (fo _ _) hb;by_cases ha:dm d.xs (N ts)=T
   .go_wp2_with fail;have r:=yP d.ad d.cap d.xs (N ts) w' (D.aj z);rw[ha]at r;refine r.mono ?_;rintro e w2 ⟨rfl,rfl⟩;by_cases h0:N d.xs=0
    .have HF:=Zh (S.o (λh=>Qj h.2.1));go_wp2;go_ret;exact⟨Q0 HF.o,z⟩
    .have bF:((N d.xs:Int)==0)=false:=by simpa using h0
     have hn:=mH hc ha _ (Zb (N d.xs));rw[Z0]at hn;have aR:=hn.1;have DF:aX ts d.xs<=1000:=X;have r:=RY ao cap ts ⟨d,iF,cZ,l,aF,g,n,p,ord⟩ w2 (hx.aj z) hc (D.aj z) (by simp only;omega) ha;unfold ae.cells aA.val at r;simp only at r;generalize hN:aX ts d.xs=Nq at*;go_wp2_with fail;refine mR r λW u=>?_;have En:=aO z u;have f0:Qo W (aD (M (H w)) 0)=O (Z d.ad (N d.xs) d.cap):=cB u (by rw[a _ _ X];simp);have f1:Qo W (aD (M (H w)) 1)=O (Z iF (N l) cZ):=cB u (by rw[a _ _ X];simp);have f2:Qo W (aD (M (H w)) 2)=O (Qq aF):=cB u (by rw[a _ _ X];simp);have f3:Qo W (aD (M (H w)) 3)=O (Z g.ad (N g.xs) g.cap):=cB u (by rw[a _ _ X];simp);have f4:Qo W (aD (M (H w)) 4)=O (Z n.ad (N n.xs) n.cap):=cB u (by rw[a _ _ X];simp);have f5:Qo W (aD (M (H w)) 5)=O (Z p.ad (N p.xs) p.cap):=cB u (by rw[a _ _ X];simp);have f6:Qo W (aD (M (H w)) 6)=O (Z ord.ad (N ord.xs) ord.cap):=cB u (by rw[a _ _ X];simp);go_wp2_with fail;go_loopw [10] (λi wr=>∃k:Nat,k<=N l/\i=I J k/\Hid (∀j,j<k->kK (E l j lz).cs Nq=T)/\Bw W wr) (λi _=>N l-(intOf i).toNat)
     case atStart=>exact⟨0,ZR _,rfl,λj hj=>absurd hj X,Za _ _⟩
     case round=>
      obtain⟨k,hk,rfl,HP,eD⟩:=hrel;have g1:=cB eD f1;by_cases aT:k<N l
      .obtain⟨b,off,rfl,iX⟩:=av.2.1.get aT;have A:=cB En (iX k aT);have ax:=(av.2.2 k aT).aj En;have aG:Hid (kK (E l k lz).cs Nq=F->(3:Int)=R):=λbf=>S.o (λh=>by have:=h.2.2.1;rw[aN.o aT bf]at this;cases this)
       generalize bz:E l k lz=cl at*;have Av:=Zh bz;obtain⟨ad,cp,cs⟩:=cl;unfold aQ.val at A;simp only at A ax;have bG:=ax.1;have gk:=cB eD A;go_wp2;go_loopw [11] (λi bg=>∃m:Nat,m<=N cs/\i=I J m/\Hid (∀j,j<m->jW (E cs j cz) Nq=T)/\Bw W bg) (λi _=>N cs-(intOf i).toNat)
       case atStart=>exact⟨0,ZR _,rfl,λj hj=>absurd hj X,eD⟩
       case round=>
        obtain⟨m,hm,rfl,HM,OU⟩:=hrel;obtain⟨g1,gk⟩:=kP OU f1 A;by_cases O3:m<N cs
        .obtain⟨b2,bJ,rfl,c0,c1,c2,c3,c4⟩:=ax.2 m O3;obtain⟨d0,d1,d2,d3,d4⟩:=qi OU c0 c1 c2 c3 c4;have r:=acH (E cs m cz) Nq wr aR DF;unfold aV.val at r;generalize bB:E cs m cz=cc at*;have aH:=Zh bB
         cases hcb:jW cc Nq
         .rw[hcb]at r;have HF:=Zh (aG.o (IL O3 (by rw[aH.o];exact hcb)));go_wp2_with fail;refine mR r λw4 ay=>?_
          go_wp2;go_ret;exact⟨Q0 HF.o,aO En (aO OU ay)⟩
         .rw[hcb]at r;have aS:=Zh hcb;go_wp2_with fail;refine mR r λw4 ay=>?_
          go_wp2;go_roundw
          case rel=>
           refine⟨m+1,X,Qe,λj hj=>?_,aO OU ay⟩;by_cases bn:j=m
           .subst bn;rw[aH.o];exact aS.o
           .exact HM.o j X
          case measure=>exact XK
        .by_cases oq:N cs=0
         .have HF:=Zh (aG.o (Fb X));go_wp2;go_ret;exact⟨Q0 HF.o,aO En OU⟩
         .have bC:((N cs:Int)==0)=false:=by simpa using oq
          have HG:=Zh (Fe X (λj hj=>HM.o j X));go_wp2;go_roundw
          case rel=>
           refine⟨k+1,X,Qe,λj hj=>?_,OU⟩;by_cases bq:j=k
           .subst bq;rw[Av.o];exact HG.o
           .exact HP.o j X
          case measure=>exact XK
      .have Ad:=Zh (aY.o (λj hj=>HP.o j X));obtain⟨g2,g3,g4,g5,g6⟩:=qi eD f2 f3 f4 f5 f6;have L:=aO En eD;have g0:=cB eD f0;go_wp2_with fail;refine(yP p.ad p.cap p.xs Nq wr (aB.aj L)).mono ?_;rintro e wa ⟨rfl,rfl⟩;go_wp2_with fail;refine(yP g.ad g.cap g.xs Nq wa (G.aj L)).mono ?_;rintro e wb ⟨rfl,rfl⟩;go_wp2_with fail;refine(yP n.ad n.cap n.xs Nq wb (aL.aj L)).mono ?_;rintro e wc ⟨rfl,rfl⟩;go_wp2_with fail;refine Zf ?_;refine J7 rfl (λK v=>⟨Y (O (aD (M (H w)) 6)),λx hx=>?_,v _ ?_⟩)
       .clear v K;go_simp
       refine J7 rfl (λK v=>⟨Z ord.ad (N ord.xs) ord.cap,λx hx=>?_,v _ ?_⟩)
       .have e6:=cB hx g6;clear v K;go_simp
       refine J7 rfl (λK v=>⟨.agg #[Z d.ad (N d.xs) d.cap,Z iF (N l) cZ,Qq aF,Z g.ad (N g.xs) g.cap,Z n.ad (N n.xs) n.cap,Z p.ad (N p.xs) p.cap,Z ord.ad (N ord.xs) ord.cap],λx hx=>?_,v _ ?_⟩)
       .obtain⟨e0,e1,e2,e3,e4⟩:=qi hx g0 g1 g2 g3 g4;obtain⟨e5,e6⟩:=kP hx g5 g6;clear v K;go_simp
       refine J7 rfl (λK v=>⟨I J (xA aF g.xs n.xs p.xs),λx hx=>?_,v _ ?_⟩)
       .have r:=Calls.Ue hx (aoK ⟨d,iF,cZ,l,aF,g,n,p,ord⟩ x (by simp only;omega) (by simp only;omega));unfold ae.cells aA.val at r;clear v K;go_simp
       refine J7 rfl (λK v=>⟨Qq (dm ord.xs (xA aF g.xs n.xs p.xs)),λx hx=>?_,v _ ?_⟩)
       .have r:=Calls.IP hx (yP ord.ad ord.cap ord.xs (xA aF g.xs n.xs p.xs) x ((uP.aj L).aj hx));clear v K;go_simp
       refine J7 rfl (λK v=>⟨Qq (dm ord.xs (xA aF g.xs n.xs p.xs)),λx hx=>?_,v _ ?_⟩)
       .clear v K;go_simp
       refine X6 ?_;intro wd aK;have aa:=aO L aK;obtain⟨k2,k3,k4,k5,k6⟩:=qi aK g2 g3 g4 g5 g6;go_wp2_with fail;refine mR (Calls.drawn (Hf g.ad g.cap g.xs wd (G.aj aa))) λwe P=>?_;have aI:=aO aa P;obtain⟨g2,g3,g4,g5,g6⟩:=qi P k2 k3 k4 k5 k6;go_wp2_with fail;refine mR (Calls.drawn (Hf ord.ad ord.cap ord.xs we (uP.aj aI))) λwf P=>?_;have Q:=aO aI P;obtain⟨k2,k3,k4,k5⟩:=awR P g2 g3 g4 g5;have t:Hid (jX Nq aF g.xs n.xs p.xs ord.xs=F->(3:Int)=R):=λhr=>S.o (λh=>by have:=h.2.2.2;rw[hr]at this;cases this);have aJ:Hid (jX Nq aF g.xs n.xs p.xs ord.xs=T->(0:Int)=R):=λhr=>aW.o ⟨ha,X,Ad.o,hr⟩;go_wp2
       all_goals
        go_ret
        first
        |exact⟨Q0 (t.o (aj7 ‹_›)),Q⟩
        |exact⟨Q0 (t.o (agb ‹_›)),Q⟩
        |exact⟨Q0 (t.o (agc ‹_›)),Q⟩
        |exact⟨Q0 (t.o (aj8 ‹_›)),Q⟩
        |exact⟨Q0 (t.o (aox ‹_›)),Q⟩
        |exact⟨Q0 (t.o (aoy ‹_›)),Q⟩
        |exact⟨Q0 (t.o (aj9 ‹_›)),Q⟩
        |exact⟨Q0 (t.o (aoz ‹_› ‹_›)),Q⟩
        |exact⟨Q0 (aJ.o (aka ‹_› ‹_› ‹_› ‹_› ‹_› ‹_› ‹_› ‹_›)),Q⟩
        |exact⟨Q0 (aJ.o (akb ‹_› ‹_› ‹_› ‹_› ‹_› ‹_› ‹_› ‹_›)),Q⟩
   .have aU:dm d.xs (N ts)=false:=by simpa using ha
    have HF:=Zh (S.o (λh=>ha h.1));go_wp2_with fail;have r:=yP d.ad d.cap d.xs (N ts) w' (D.aj z);rw[aU]at r;refine r.mono ?_;rintro e w2 ⟨rfl,rfl⟩;go_wp2;go_ret;exact⟨Q0 HF.o,z⟩
def NL(q:ae)(z c:Nat):Nat:=if q.ord.xs=[] then dn (if q.aF then 7 else 9) z c z 0 0 else dn 10 z (dn (if q.aF then 7 else 9) z c z 0 0) z 0 0
theorem Ia{a:Nat}(l:JK Nat)(h:a<=b):kQ (a::l)<=kQ (b::l):=by grind [yH]
theorem adT(q:ae)(z:Nat){c d:Nat}(h:c<=d):NL q z c<=NL q z d:=by
 have a:∀(k:Int) {c d:Nat},(k=7∨k=9∨k=10)->c<=d->dn k z c z 0 0<=dn k z d z 0 0:=λk {c d} hk h=>by
  unfold dn;rcases hk with rfl|rfl|rfl
  .exact Ia _ h
  .exact Ia _ h
  .exact Ia _ h
 have b:=a (if q.aF then 7 else 9) X h;unfold NL;grind
