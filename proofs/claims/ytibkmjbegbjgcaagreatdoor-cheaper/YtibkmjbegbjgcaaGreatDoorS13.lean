import Derived.Test.YtibkmjbegbjgcaaGreatDoorS06
import Derived.Test.YtibkmjbegbjgcaaGreatDoorS11
import Derived.Test.YtibkmjbegbjgcaaGreatDoorS12
set_option linter.all false
set_option maxRecDepth 100000
set_option maxHeartbeats 0
namespace Go.Proofs.Zz
open Go.RowKit Go.Shelf Go.Proofs.Tryz
open List renaming length->N,getD->E
open Go.Value renaming slice->Z,int->I,pointer->Y,bool->Qr,agg->Qu
open Go.Proofs.Tryz renaming prog->V
open Option renaming some->O,none->Qs
open Go.IntKind renaming i64->J
open Bool renaming false->F,true->T
open Go renaming World->U,Value->Qm
open Go.World renaming heap->H,setCell->Qo,cell?->Qp
open _root_.Array renaming size->M
open Go.RowKit renaming Hid->Qn
open Go.Obj renaming cells->Qt
open Go.Ending renaming returned->Qv
variable {ts:Qy af} {p q:ae} {ns:Qy ai} {ps:Qy bW} {B b base m n s:Nat} {c k:Int} {t:aP} {d:bW} {l o:Qx} {W W' W0 w w' x y:U} {acc ls:Qy (Qx)} {rk:Nat->Int} {σ:fU} {Fq Nq:Qz} {f:ay} {v v':Qm} {Tl e:TypeId} {os:Qy ah} {wh:Qy aG} {ao:PN} {g:Nat->Qm}
def Dy(g:Nat)(lb:Array Qm)(ao:PN)(cap:Nat)(w:U) :
  Ce 57 #[.func (.func g) #[] lb,Z ao 0 cap] w (.func (.func g) #[] lb):=by go_enter func57,ntmps57;go_wp2;go_ret;exact⟨rfl,rfl⟩
theorem Ci(hq:QF ts q):bu (dU ts q) (2 ^ (N q.src.xs)-1)=2 ^ (N q.wh)-1:=by
 apply Nat.eq_of_testBit_eq;intro i;rw[nS,Nat.testBit_two_pow_sub_one,fZ];by_cases a:i<N q.wh
 .have d:=KM hq a;have f:2 ^ (N q.src.xs)-1<2 ^ (N q.src.xs):=Nat.sub_lt (Nat.pow_pos X) X;rw[Zi a,Zj,yN a];refine(lS (nT hq.five f) (nT hq.five d)).2 λj e=>?_
  rw[Nat.testBit_two_pow_sub_one,Zf];by_cases b:j<N q.src.xs
  .exact b
  .rw[Zx (Zy d (ZA X X))]at e
   cases e
 grind
def LQ.uniq{qs:Qy bW}(h:LQ ts q ns ps)(g:LQ ts q ns qs):ps=qs:=by have b:=h.parts _ (Za _);have a:=g.parts _ (Za _);rw[b,XQ (by rw[h.len];omega),XQ (by rw[g.len];omega)]at a;injection a
theorem LQ.init{n:ai}(h:LQ ts q (ns++[n]) ps):LQ ts q ns (ps.take (N ns)):=by
 have e:∀i,i<N ns->E (ns++[n]) i nz=E ns i nz:=λi a=>Qb;have d:N (ns++[n])=N ns+1:=Qa;have b:∀i,i<N ns->dX (E ns i nz) i:=λi a=>by grind [LQ.st]
 have far:∀i,i<N ns->fe (E ns i nz) (ps.take (N ns))=fe (E ns i nz) ps/\fo (E ns i nz) (ps.take (N ns))=fo (E ns i nz) ps:=λi a=>sO (b i a) λj f=>by grind
 refine⟨by grind [LQ.len],b,λi a=>?_,λi a=>?_⟩
 .have:=h.fit i X
  simp_all
 .have:=h.part i X
  simp_all
theorem Cj{n:ai}{a:aP}(h:TF ts q a)(hl:N a.ns<=900)(hp:LQ ts q (au ts q n [a]).ns ps):(au ts q n [a]).ns.getD ((au ts q n [a]).ns.length-1) nz=eZ n ((N a.ns:Int)-1) 0/\E ps (eZ n ((N a.ns:Int)-1) 0).l.toNat pz=a.d:=by
 have j:=h.pos;have e:(au ts q n [a]).ns=([]++a.ns.map (bO (N ([]:Qy ai))))++[eZ n ((N a.ns:Int)-1) 0]:=by show fw [a.ns]++[(⟨n.kind,(N (fw [a.ns]):Int)-1,0,_,_,_,_⟩:ai)]=_;rw[show N (fw [a.ns])=N a.ns by simp[fw]];rfl
 have b:N ([]++a.ns.map (bO (N ([]:Qy ai))))=N a.ns:=Qa;obtain⟨k,i,hd⟩:=h.ex;have f:=(LQ.nil ts q).app i Qj;rw[e]at hp;have g:=hp.init.uniq f;rw[b]at g;refine⟨?_,?_⟩
 .simp_all
 .show ps.getD ((N a.ns:Int)-1).toNat pz=a.d
  rw[<-hd,show ((N a.ns:Int)-1).toNat=N a.ns-1 by omega];grind
structure BF(ts:Qy af)(q:ae)(t:aP):Prop where
 tf:TF ts q t
 len:N t.ns<=64
 fin:∀ps,LQ ts q t.ns ps->(eT (E t.ns (N t.ns-1) nz).kind&&gX q (E t.ns (N t.ns-1) nz).kind (E ps (E t.ns (N t.ns-1) nz).l.toNat pz).order)=T
def BF.look{ts:Qy af}{q:ae}{t:aP}(h:BF ts q t):∃a,jm ts q t.ns=O a/\N a=N t.ns/\E a (N a-1) pz=t.d:=h.tf.look h.len h.fin
def rQ(h1:1<=k)(h2:k<=10):KH (dC k):=⟨h1,h2,.inr rfl,.inr (.inr rfl),.inr (.inr rfl),.inr rfl⟩
theorem Uu(h:7<=k):arity k=1:=by grind [arity]
theorem PH(h:7<=k)(h':k<=10):eT k=true:=by grind [eT]
theorem aak(h:TF ts q t)(hl:N t.ns<=60)(ho:eT t.d.kind=F)(hk:7<=k/\k<=9)(hf:iK ts q (dC k) t.d pz=T):(gX q k t.d.order=T->BF ts q (au ts q (dC k) [t]))/\(0<N q.ord.xs->BF ts q (au ts q (dC 10) [au ts q (dC k) [t]])):=by
 have j:(dC k).kind=k:=rfl;have e:TF ts q (au ts q (dC k) [t]):=TF.Px (rQ X X) (by rw[j];grind [Uu]) h X (by rw[oQ X ho yM,Zj];exact hf);have b:(au ts q (dC k) [t]).ns.length=N t.ns+1:=by rw[Jb ts q _ Qa];rfl
 refine⟨λn=>⟨e,X,λps a=>?_⟩,λp=>?_⟩
 .obtain⟨g,i⟩:=Cj h X a;rw[g,i]
  show (eT k&&gX q k t.d.order)=T;rw[PH hk.1 X,n];rfl
 .have f:lU 10 (au ts q (dC k) [t]).d pz=true:=by unfold lU;rw[show (au ts q (dC k) [t]).d.kind=k from rfl,PH hk.1 X,yM];rfl
  have l:TF ts q (au ts q (dC 10) [au ts q (dC k) [t]]):=TF.Px (rQ Qc Qc) Qi e X (by
   rw[show (dC 10).kind=10 from rfl,f,Zj];show (if (10:Int)=1 then _ else if (10:Int)=2 then _ else if (10:Int)=3 then _ else if (10:Int)=4 then _ else if (10:Int)=5 then _ else if (10:Int)=6 then _ else if (10:Int)=7 then _ else if (10:Int)=8 then _ else if (10:Int)=9 then _ else decide (0<N q.ord.xs))=T;simp_all)
  have m:(au ts q (dC 10) [au ts q (dC k) [t]]).ns.length=N t.ns+2:=by rw[Jb ts q _ Qa];show (au ts q (dC k) [t]).ns.length+0+1=_;rw[b]
  refine⟨l,X,λps a=>?_⟩;obtain⟨g,i⟩:=Cj e X a;rw[g,i];show (eT 10&&gX q 10 _)=T;unfold gX;rw[Zg X,Zb rfl];rfl
theorem KO(hw:jG q d=T)(hk:(k=9/\q.group=F)∨(k=8/\q.group=T/\aO d.order q.keys.xs=T)∨(k=7/\q.group=T)):iK ts q (dC k) d pz=true:=by unfold iK;rw[show (dC k).kind=k from rfl];grind
def KQ(h1:d.sources=2 ^ (N q.src.xs)-1)(h2:d.clauses=2 ^ (N q.wh)-1):jG q d=true:=by unfold jG;simp_all
theorem Ck(hq:QF ts q)(h:TS ts q t)(hl:N t.ns<=60)(hs:t.d.sources=2 ^ (N q.src.xs)-1):BF ts q (fI ts q t):=by
 have b:=KQ hs (by rw[h.cls,hs];exact Ci hq);have e:(bY q t.d.order=9/\q.group=F)∨(bY q t.d.order=8/\q.group=T/\aO t.d.order q.keys.xs=T)∨(bY q t.d.order=7/\q.group=T):=by unfold bY;grind
 have a:7<=bY q t.d.order/\bY q t.d.order<=9:=X;obtain⟨g,f⟩:=aak h.tf hl h.out a (KO b e);unfold fI;simp only;split
 .simp_all
 .rename_i he
  refine f (Nat.pos_of_ne_zero λi=>he ?_);unfold gX;simp_all
theorem KR{w:Int}(h0:0<N l)(hin:∀c∈l,0<=c/\c<w)(hap:di l=T):(N l:Int)<=w:=by
 unfold di at hap;rw[Zf]at hap;have d:0<=w:=by
  cases l with
  |nil=>cases h0
  |cons a l=>grind [List.mem_cons_self]
 obtain⟨n,rfl⟩:=XR d;have e:(l.map Int.toNat).Nodup:=by grind [List.pairwise_iff_getElem,List.getElem_mem]
 have f:∀k∈l.map Int.toNat,k<n:=λk i=>by grind
 have b:=vH f;have g:∀m,fB m (λk=>(l.map Int.toNat).count k)<=m:=λm=>by
  induction m with
  |zero=>exact Za _
  |succ m ih =>
   grind [jR]
 grind
theorem Gt{src:Qx}(h0:0<N o)(hin:∀c∈o,0<=c/\c<aN ts src)(hap:di o=T)(ahw:∀c∈o,aT s (2 ^ aY ts src c)=T):lF ts src o s=true:=by
 unfold lF;rw[Zi h0,Zi (KR h0 hin hap),Zj,Zj,Q7];intro i l;have a:i<N o:=Qf;have b:E o i 0∈o:=by simp_all
 obtain⟨f,g⟩:=hin _ b;rw[Zi f,Zi g,ahw _ b,Zr]
 .rfl
 .intro d;rw[EM a]at d;obtain⟨j,k,e⟩:=d;unfold di at hap
  grind
def zA(hq:QF ts q):(∀c∈aI q,0<=c/\c<aN ts q.src.xs)/\di (aI q)=true:=by
 unfold aI;split
 .exact⟨hq.keys,hq.apart⟩
 .rename_i hg
  split
  .rename_i ha
   exact⟨hq.want Qf,ha⟩
  .exact⟨λc a=>by (cases a),Qc⟩
def yO(hq:QF ts q)(h:0<=c/\c<aN ts q.src.xs):aY ts q.src.xs c<N q.src.xs:=(mO hq.ok.cat hq.ok.src h.1 h.2).1
theorem OE(hq:QF ts q)(h:TS ts q t)(hl:N t.ns<=50)(hs:t.d.sources=2 ^ (N q.src.xs)-1):∀x∈dS ts q t,BF ts q x:=by
 intro x a;unfold dS at a;split at a
 .rename_i h0
  rcases List.mem_cons.1 a with rfl|a
  .exact Ck hq h X hs
  .rw[Xj]at a;rw[a];have b:=zA hq;have f:2 ^ (N q.src.xs)-1<2 ^ (N q.src.xs):=Nat.sub_lt (Nat.pow_pos X) X;have g:lF ts q.src.xs (aI q) t.d.sources=true:=Gt h0 b.1 b.2 λc k=>by have e:=yO hq (b.1 c k);rw[hs];refine(lS (nT hq.five f) (nT hq.five (XN X e))).2 λj l=>?_;grind
   have i:=Ew h X g;exact Ck hq i (by rw[nL];omega) (by rw[lY];exact hs)
 .rw[Xj]at a;rw[a];exact Ck hq h X hs
def Dw(ts:Qy af)(q:ae)(s:Nat)(ls:Qy (Qx)):Prop:=∃r,ls=[]::r/\∀o∈r,lF ts q.src.xs o s=T
theorem Dw.added(h:Dw ts q s ls)(hl:l≠[]->lF ts q.src.xs l s=T):Dw ts q s (gI ls l):=by
 obtain⟨r,rfl,a⟩:=h;unfold gI;split
 .exact⟨r,rfl,a⟩
 .rename_i hn
  refine⟨r++[l],rfl,λo b=>?_⟩;grind
def ug(hq:QF ts q)(hs:s<2 ^ (N q.src.xs))(hin:∀c∈o,0<=c/\c<aN ts q.src.xs)(h:aT s (bD (dZ ts q o))=T):∀c∈o,aT s (2 ^ aY ts q.src.xs c)=true:=by
 intro c f;have a:∀x∈dZ ts q o,0<=x/\x<(N q.src.xs:Int):=λx b=>by obtain⟨d,hd,rfl⟩:=ZL.1 b;have:=yO hq (hin d hd);omega
 have g:=(lS (nT hq.five hs) (nT hq.five (pq a))).1 h;refine(lS (nT hq.five hs) (nT hq.five (XN X (yO hq (hin c f))))).2 λj e=>g j ?_;rw[Nat.testBit_two_pow]at e;simp only[Zf]at e;rw[zY (λx b=>(a x b).1),Zf];exact ZL.2 ⟨c,f,by rw[e]⟩
def PI(hq:QF ts q)(hs:s<2 ^ (N q.src.xs))(hc:0<=c/\c<aN ts q.src.xs)(h:Dw ts q s acc):Dw ts q s (df ts q s acc c):=by
 unfold df;split
 .rename_i ahw
  have a:∀d∈[c],0<=d/\d<aN ts q.src.xs:=λd hd=>Qf;refine h.added λ_=>Gt Qa a ?_ (ug hq hs a ahw);rfl
 .exact h
def al8(hq:QF ts q){c:aG}(hc:c∈q.wh)(h:(bF c.cs).2.2=T):(0<=(bF c.cs).1/\(bF c.cs).1<aN ts q.src.xs)/\(0<=(bF c.cs).2.1/\(bF c.cs).2.1<aN ts q.src.xs):=by
 obtain⟨k,a,rfl⟩:=Zc hc;have b:=hq.ok.some k a;have d:=hq.ok.aL k a;rw[Je,Xu a]at b d;simp only[Option.getD_some]at b d;generalize q.wh[k].cs=cs at*;unfold bF at h ⊢;by_cases j:N cs > 1∨(E cs 0 cz).op≠0∨(E cs 0 cz).not=T∨(E cs 0 cz).const=T
 .simp_all
 rw[Zg j];have l:∀x,x∈aK (E cs 0 cz)->x∈bX cs:=λx i=>X5.2 ⟨_,by
  simp_all,i⟩
 have e:(E cs 0 cz).op=0:=by omega
 have f:(E cs 0 cz).const=false:=by simp_all
 have g:aK (E cs 0 cz)=[(E cs 0 cz).left,(E cs 0 cz).right]:=by unfold aK;simp_all
 simp_all
def OG(hq:QF ts q)(hs:s<2 ^ (N q.src.xs)):Dw ts q s (dO ts q s):=by
 have e:Dw ts q s [[]]:=⟨[],rfl,λo b=>by (cases b)⟩;have j:Dw ts q s (if aT s (bD (dZ ts q (aI q)))=T then gI [[]] (aI q) else [[]]):=by
  split
  .rename_i hc
   have b:=zA hq;exact e.added λd=>Gt (List.length_pos_iff.2 d) b.1 b.2 (ug hq hs b.1 hc)
  .exact e
 unfold dO;have key:∀(l:Qy aG) (a:Qy (Qx)),(∀c∈l,c∈q.wh)->Dw ts q s a->Dw ts q s (l.foldl (gP ts q s) a):=by
  intro l
  induction l with
  |nil=>simp_all
  |cons c l ih =>
   intro a g h;refine ih _ (λx i=>g x (XJ _ i)) ?_;unfold gP;split
   .rename_i hc
    rw[Q6]at hc;have f:=al8 hq (g c XL) hc.1;exact PI hq hs f.2 (PI hq hs f.1 h)
   .exact h
 simp_all
structure SF(ts:Qy af)(q:ae)(σ:fU):Prop where
 kg:∀s,s<N σ.groups->GF ts q s (E σ.groups s [])
 bA:BF ts q σ.bA
theorem ahx(hq:QF ts q)(hs:s<2 ^ (N q.src.xs))(room:Nat):GF ts q s (dz ((dO ts q s).take room)):=by
 obtain⟨r,e,g⟩:=OG hq hs;refine⟨λp f x a=>?_,λx a=>?_,λo b=>?_⟩
 .obtain⟨o,_,rfl⟩:=ZL.1 f
  cases a
 .rw[e]at a
  cases room with
  |zero=>cases a
  |succ n=>cases a
 .have d:(dz ((dO ts q s).take room)).map Prod.fst=(dO ts q s).take room:=by unfold dz;rw[List.map_map];exact List.map_id' _
  rw[d,e]at b
  cases room with
  |zero=>cases b
  |succ n =>
   grind
def Cm{ts:Qy af}{q:ae}(hq:QF ts q):∀k,k<N q.src.xs->TF ts q (bR ts q k)/\(bR ts q k).d.sources=2 ^ (k+1)-1/\(bR ts q k).d.clauses=0/\eT (bR ts q k).d.kind=F/\(bR ts q k).ns.length=2*k+1
 |0,h=>⟨Gq X X,Qi,Qi,Qi,rfl⟩
 |k+1,h=>by
  obtain⟨h1,h2,h3,h4,h5⟩:=Cm hq k X;have h6:=hq.five;have hs:(au ts q (ig ((k+1:Nat):Int)) []).d.sources=2 ^ (k+1):=by rw[uD,Xv]
  have ht:=Gq (ts:=ts) (q:=q) (s:=((k+1:Nat):Int)) X X;have bits:∀m,m<6->(2 ^ m-1) &&& 2 ^ m=0/\(2 ^ m-1)|||2 ^ m=2 ^ (m+1)-1:=Qc;have hb:=bits (k+1) X;obtain⟨d1,d2,d3⟩:=Pz ts q (dC 3) (bR ts q k) (au ts q (ig ((k+1:Nat):Int)) []) Qc;refine⟨TF.aeb (rQ Qc Qc) Qc h1 ht (by rw[h5];show 2*k+1+1<=900;omega) ?_,?_,?_,?_,?_⟩
  .rw[oQ Qc h4 Qi,Zj]
   show (if (3:Int)=1 then _ else if (3:Int)=2 then _ else if (3:Int)=3 then kC ts q (dC 3) _ _ else _)=T;rw[Zg Qc,Zg Qc,Zb rfl];unfold kC;rw[h2,hs,Zi hb.1];rfl
  .show (au ts q (dC 3) [bR ts q k,au ts q (ig ((k+1:Nat):Int)) []]).d.sources=_
   simp_all
  .show (au ts q (dC 3) [bR ts q k,au ts q (ig ((k+1:Nat):Int)) []]).d.clauses=0
   rw[d3,h3];show bD []|||0|||(bD []|||0|||0)=0;rfl
  .rfl
  .show (au ts q (dC 3) [bR ts q k,au ts q (ig ((k+1:Nat):Int)) []]).ns.length=_
   rw[Jb ts q _ Qa];show (bR ts q k).ns.length+1+1=_;omega
theorem aal(hq:QF ts q):BF ts q (fq ts q):=by
 have A:=hq.one;have B:=hq.five;obtain⟨m,b,n,p,C⟩:=Cm hq (N q.src.xs-1) X;rw[show N q.src.xs-1+1=N q.src.xs by omega]at b;obtain⟨f,e⟩:=eY (bJ ts q (bR ts q (N q.src.xs-1)) (2 ^ (N q.wh)-1));have a:2 ^ (N q.wh)-1<2 ^ 64:=Cg hq.eight (Nat.sub_lt (Nat.pow_pos X) X);have g:TF ts q f/\f.d.sources=2 ^ (N q.src.xs)-1/\f.d.clauses=2 ^ (N q.wh)-1/\eT f.d.kind=F/\N f.ns<=12:=by
  rw[e];unfold bJ;split
  .grind
  .rename_i hz
   obtain⟨D,G,r⟩:=Gp ts q (Ac (dw (2 ^ (N q.wh)-1))) (bR ts q (N q.src.xs-1)) (by show (2:Int)≠1;decide);refine⟨PE m X p a hz (qj ts q λi z=>by rw[b,Ci hq];exact z),X,?_,Qi,?_⟩
   .rw[r,n]
    show bD (dw (2 ^ (N q.wh)-1))|||0=_;rw[sP a,Nat.or_zero]
   .rw[Jb ts q _ Qa]
    show (bR ts q (N q.src.xs-1)).ns.length+0+1<=12;omega
 obtain⟨t,u,v,f4,K⟩:=g;have j:=KQ (q:=q) u v;have l:((if q.group=T then (7:Int) else 9)=9/\q.group=F)∨((if q.group=T then (7:Int) else 9)=8/\q.group=T/\aO f.d.order q.keys.xs=T)∨((if q.group=T then (7:Int) else 9)=7/\q.group=T):=by grind
 obtain⟨y,L⟩:=aak t X f4 (k:=if q.group=T then (7:Int) else 9) X (KO j l);unfold fq;simp only;rw[<-e];split
 .simp_all
 .rename_i ho
  refine y ?_;unfold gX;simp_all
def KS{ts:Qy af}{q:ae}(hq:QF ts q):∀{l:Qy aP} {b:aP},BF ts q b->(∀t∈l,PF ts q (2 ^ (N q.src.xs)-1) t)->BF ts q (l.foldl (jd ts q) b)
 |[],_,h,_=>h
 |t::l,b,h,hl=>by
  refine KS hq (l:=l) (b:=jd ts q b t) ?_ (λx hx=>hl x (XJ _ hx));have ht:=hl t XL;unfold jd;rcases xh b (dS ts q t) with e|e
  .simp_all
  .exact OE hq ht.ts' (Qk (ht.small hq)) ht.src _ e
def PK(hq:QF ts q){l:Qy aP}(hC:nu q σ)(h:SF ts q σ)(hs:s<2 ^ (N q.src.xs))(hT:∀t∈l,Ll q s t)(hl:∀t∈l,PIn ts q s t):SF ts q (eP rk ts q s l σ):=by
 unfold eP;by_cases b:s=2 ^ (N q.src.xs)-1
 .rw[Zb b];exact⟨h.kg,KS hq h.bA (λt d=>b ▸ (hl t d).1)⟩
 .rw[Zg b];have a:s<N σ.groups:=by rw[hC.uS];omega
  refine⟨λk f=>?_,h.bA⟩;show GF ts q k (E (σ.groups.set s _) k []);rw[oM];split
  .rename_i e
   rw[<-e.1];exact OD hq (hC.kg s a) hT (h.kg s a) hl
  .refine h.kg k ?_
   simp_all
def al9(hq:QF ts q){t:bB}(hC:nu q σ)(h:SF ts q σ)(ht:lq (N q.src.xs) σ.groups t):SF ts q (sH rk ts q (dU ts q) t σ):=by
 have l:=hq.five;unfold sH;rcases ht with⟨h0,i,hi,e⟩|⟨h0,h1,h2,h3,h4,h6⟩
 .rw[Zb h0,e,xq i X];have b:=ru ts q (fZ ts q) (s:=(i:Int)) X X;obtain⟨k,g,n⟩:=OA hq (s:=(i:Int)) X X;rw[Xv]at g;have m:0<2 ^ i:=Nat.pow_pos X;refine PK hq hC h (XN X hi) (λx a=>?_) (λx a=>?_)
  .rw[Xj]at a;rw[a];exact⟨b.1,b.2.1,X⟩
  .rw[Xj]at a;rw[a];have j:=acX i X;exact⟨⟨k,g,X⟩,X⟩
 .rw[Zg h0];have d:=h1;have f:=h2;rw[hC.uS]at h1 h2;refine PK hq hC h (rq X X) (λx a=>?_) (λx a=>?_)
  .exact yt (fZ ts q) h3 (hC.kg _ d) (hC.kg _ f) h6 x a
  .exact aaj hq h3 (h.kg _ d) (h.kg _ f) h6 x a
theorem ac0(hq:QF ts q)(hok:Bp q σ)(h:SF ts q σ)(h1:σ.status=1)(pick:Int):SF ts q (iy rk ts q (dU ts q) pick σ):=by
 have a:=hok.stat h1;have d:=yC a pick;have b:E σ.ak (fV (N σ.ak) pick).toNat (0,0)∈σ.ak:=by simp_all
 have hd:=al9 (rk:=rk) hq (t:=E σ.ak (fV (N σ.ak) pick).toNat (0,0)) (hok.core.erase (fV (N σ.ak) pick).toNat (σ.picks++[fV (N σ.ak) pick])) ⟨h.kg,h.bA⟩ (hok.core.task _ b);unfold iy mE;simp only;split
 .exact hd
 .exact⟨hd.kg,hd.bA⟩
theorem OH{rk:Nat->Int}{ts:Qy af}{q:ae}(hq:QF ts q)(picks:Qx){σ:fU}(hok:Bp q σ)(h:SF ts q σ):∀n,SF ts q (runN rk ts q (dU ts q) picks n 0 σ)
 |0=>h
 |n+1=>by
  have ih:=OH (rk:=rk) hq picks hok h n;have ok:=(sN (rk:=rk) (ts:=ts) (fZ ts q) hq.five picks hok n).1;rw[mM];split
  .grind [ac0]
  .exact ih
def aam(hq:QF ts q)(rk:Nat->Int)(room:Nat):SF ts q (ed rk ts q room):=by
 refine⟨λs b=>?_,aal hq⟩;have a:(ed rk ts q room).groups.length=2 ^ (N q.src.xs)-1:=by unfold ed;simp
 rw[a]at b;have e:(ed rk ts q room).groups.getD s []=dz ((dO ts q s).take room):=by unfold ed;simp_all
 rw[e];exact ahx hq X room
theorem KU(b:aP):∀(l:Qy aP),(dV b l).d.cost<=b.d.cost:=by
 have key:∀(l:Qy aP) (b:aP),(l.foldl lH b).d.cost<=b.d.cost:=by
  intro l
  induction l with
  |nil=>simp_all
  |cons t l ih =>
   intro b;refine ZN (ih (lH b t)) ?_;unfold lH;grind
 exact λl=>key l b
def KW{ts:Qy af}{q:ae}:∀(l:Qy aP) (b:aP),(l.foldl (jd ts q) b).d.cost<=b.d.cost
 |[],_=>Za _
 |t::l,b=>ZN (KW l (jd ts q b t)) (KU b _)
theorem ac1(rk:Nat->Int)(ts:Qy af)(q:ae)(conc:Qy Nat)(pick:Int)(σ:fU):(iy rk ts q conc pick σ).bA.d.cost<=σ.bA.d.cost:=by
 have a:∀s l (τ:fU),(eP rk ts q s l τ).bA.d.cost<=τ.bA.d.cost:=λs l τ=>by
  unfold eP;split
  .exact KW l τ.bA
  simp_all
 have hd:∀t (τ:fU),(sH rk ts q conc t τ).bA.d.cost<=τ.bA.d.cost:=λt τ=>by unfold sH;grind
 unfold iy mE;grind
theorem aan(rk:Nat->Int)(ts:Qy af)(q:ae)(conc:Qy Nat)(picks:Qx)(σ:fU)(n:Nat):∀m,(runN rk ts q conc picks (n+m) 0 σ).bA.d.cost<=(runN rk ts q conc picks n 0 σ).bA.d.cost/\(runN rk ts q conc picks n 0 σ).picks.length<=(runN rk ts q conc picks (n+m) 0 σ).picks.length
 |0=>⟨Za _,Za _⟩
 |m+1=>by
  obtain⟨h1,h2⟩:=aan rk ts q conc picks σ n m;rw[show n+(m+1)=n+m+1 by omega,mM];split
  .refine⟨ZN (ac1 rk ts q conc _ _) h1,ZN h2 ?_⟩;have hk:∀s l (τ:fU),(eP rk ts q s l τ).picks=τ.picks:=λs l τ=>by unfold eP;split <;> rfl
   have hd:∀t (τ:fU),(sH rk ts q conc t τ).picks=τ.picks:=λt τ=>by unfold sH;grind
   unfold iy mE;grind
  omega
theorem Cn(ts:Qy af)(q:ae)(l:Qy ai):∀k,fH ts q (l.map dM) k=fH ts q l k
 |0=>rfl
 |k+1=>by
  have hg:E (l.map dM) k nz=dM (E l k nz):=by grind [dM,nz]
  show (fH ts q (l.map dM) k).bind (mg ts q (E (l.map dM) k nz))=(fH ts q l k).bind (mg ts q (E l k nz));rw[Cn ts q l k,hg];rfl
theorem Uv(ts:Qy af)(q:ae)(l:Qy ai):jm ts q (l.map dM)=jm ts q l:=by
 have a:∀i,E (l.map dM) i nz=dM (E l i nz):=λi=>by grind [dM,nz]
 have f:∀i,inpN (l.map dM) i=inpN l i:=λi=>by unfold inpN;simp only[a];rfl
 have g:∀n i,eu (dM n) i=eu n i:=λ_ _=>rfl;have b:∀n,(dM n).kind=n.kind:=λ_=>rfl;have d:∀n,(dM n).l=n.l:=λ_=>rfl;have e:dD (l.map dM)=dD l:=by grind [dD,vI]
 unfold jm;simp only[e,ZH,Cn,a,b,d]
def BF.cost(h:BF ts q t){nv:Qy ai}(hn:nv.map dM=t.ns):∃a,jm ts q nv=O a/\(E a (N a-1) pz).cost=t.d.cost:=by obtain⟨a,b,f,e⟩:=h.look;refine⟨a,?_,by rw[e]⟩;rw[<-Uv,hn];exact b
def ama(hc:q.check ts=0):QF ts q:=by
 obtain⟨d,g,i,u,j⟩:=yw hc;have e:bP q.keys.xs (aN ts q.src.xs)=T/\di q.keys.xs=true:=by
  unfold ae.check checkN at hc;split at hc
  .omega
  .split at hc
   .omega
   .split at hc
    .rename_i hr
     have f:=hr.2.2.2;unfold tJ at f;simp_all
    .omega
 have a:∀{l:Qx} {n:Int},bP l n=T->∀c∈l,0<=c/\c<n:=λ{l n} h c b=>by unfold bP at h;simp_all
 refine⟨d.ok,g,d.five,d.eight,a e.1,e.2,λm c b=>?_⟩;unfold gW at b;rw[ZL]at b;obtain⟨p,k,rfl⟩:=b;have r:=a (i m) p k;have t:p.toNat<N q.aU.xs:=X;refine a j _ ?_;simp_all
theorem F6(Ez:Env f ts q W0)(hz:Fz Fq W0 w):Calls V 42 #[Qu (f.cells ts q)] w (bN 141 Fq w (fq ts q)):=by
 obtain⟨v0,v1,v2,v3,v4,v5,v6,v7,v8,v9,p,u,v,bZ,ag,-,ax,-,-,-,ai,-,-,aA,-⟩:=XY f ts q;have aL:=Ez.one;have h5:=Ez.five;have hc:2 ^ (N q.wh)-1<2 ^ (N q.wh):=Qb;have xu:Qn (∀x (k:Nat),Bw w x->k<N q.src.xs->Calls V 76 #[Qu #[v0,v1,v2,v3,v4,v5,v6,v7,v8,v9,p,u,v],Qu #[I J 1,I J 0,I J 0,I J (k:Int),Z Qs 0 0,I J 0,Z Qs 0 0],Z Qs 0 0] x (bN 141 Fq x (au ts q (ig (k:Int)) []))):=λx k Q hk=>by rw[<-bZ];exact D8 Ez (hz.next Q) k X X
 have U3:Qn (∀x b r z (k:Nat),Bw w x->k+1<N q.src.xs->aF 141 Fq x r (bR ts q k)->aF 141 Fq x z (au ts q (ig ((k+1:Nat):Int)) [])->Qp x (aD b 0)=O (Y (O (aD r 0)))->Qp x (aD b 1)=O (Y (O (aD z 0)))->Calls V 76 #[Qu #[v0,v1,v2,v3,v4,v5,v6,v7,v8,v9,p,u,v],Qu #[I J 3,I J 0,I J 0,I J 0,Z Qs 0 0,I J 0,Z Qs 0 0],Z (O (aD b 0)) 2 2] x (bN 141 Fq x (bR ts q (k+1)))):=λx b r z k Q hk hr bI h0 h1=>by rw[<-bZ];exact IP Ez (hz.next Q) ⟨3,0,0,0,eG,0,eG⟩ ⟨gL x,nE.nil _ _,λ_=>rfl,gL x,nE.nil _ _,λ_=>rfl,Za _,ZB _,ZB _⟩ r z b _ _ hr (mX ts q k X).1 bI (Fw ts X X) h0 h1 (by decide:(3:Int)<=3) (by decide:(3:Int)<=5) (Jc _)
 have ak:Qn (∀x r,Bw w x->aF 141 Fq x r (bR ts q (N q.src.xs-1))->r<M (H x)->Calls V 77 #[Qu #[v0,v1,v2,v3,v4,v5,v6,v7,v8,v9,p,u,v],Y (O (aD r 0)),I .u64 ((2 ^ (N q.wh)-1:Nat):Int)] x λe w'=>∃z,e=Qv (Y (O (aD z 0)))/\aF 141 Fq w' z (bJ ts q (bR ts q (N q.src.xs-1)) (2 ^ (N q.wh)-1))/\(z = r∨M (H x)<=z)/\z<M (H w')/\Bw x w'):=λx r Q hr hl=>by rw[<-bZ];exact wP Ez (hz.next Q) r _ hr (mX ts q _ X).1 _ hc hl
 have qO:Qn (∀x b r t (k:Int),Bw w x->7<=k->k<=10->iP q t->aF 141 Fq x r t->Qp x (aD b 0)=O (Y (O (aD r 0)))->Calls V 76 #[Qu #[v0,v1,v2,v3,v4,v5,v6,v7,v8,v9,p,u,v],Qu #[I J k,I J 0,I J 0,I J 0,Z Qs 0 0,I J 0,Z Qs 0 0],Z (O (aD b 0)) 1 1] x (bN 141 Fq x (au ts q (dC k) [t]))):=λx b r t k Q h7 bK ht hr h0=>by rw[<-bZ];exact ry Ez (hz.next Q) ⟨k,0,0,0,eG,0,eG⟩ ⟨gL x,nE.nil _ _,λ_=>rfl,gL x,nE.nil _ _,λ_=>rfl,Za _,ZB _,ZB _⟩ r b t hr ht h0 (by show arity k=1;unfold arity;grind) (by show 2<=k;omega) bK (Jc _)
 obtain⟨T1,aj⟩:=eX (bJ ts q (bR ts q (N q.src.xs-1)) (2 ^ (N q.wh)-1));have oU:Qn (iP q T1):=by rw[<-aj];exact pR (mX ts q _ X).1 hc
 obtain⟨S,C9⟩:∃t,au ts q (dC (if q.group=T then 7 else 9)) [T1]=t:=⟨_,rfl⟩;have qP:Qn (iP q S):=by rw[<-C9];exact(yl ts (by split <;> omega) (by split <;> omega) oU.o).1
 have hR:fq ts q=if 0<N q.ord.xs then au ts q (dC 10) [S] else S:=by unfold fq;simp only;rw[aj,C9]
 obtain⟨R,aB⟩:=eY (fq ts q);rw[<-aB,bZ];obtain⟨T3,FP⟩:=eX (au ts q (dC 10) [S]);have W:Qn (R=if 0<N q.ord.xs then T3 else S):=by show _=_;rw[aB,hR,FP]
 rw[aj]at ak;have aM:Qn (∀x b r,Bw w x->aF 141 Fq x r T1->Qp x (aD b 0)=O (Y (O (aD r 0)))->Calls V 76 #[Qu #[v0,v1,v2,v3,v4,v5,v6,v7,v8,v9,p,u,v],Qu #[I J (if q.group=T then 7 else 9),I J 0,I J 0,I J 0,Z Qs 0 0,I J 0,Z Qs 0 0],Z (O (aD b 0)) 1 1] x (bN 141 Fq x S)):=λx b r Q hr h0=>by rw[<-C9];exact qO.o x b r T1 _ Q (by split <;> omega) (by split <;> omega) oU.o hr h0
 have vX:Qn (∀x b r,Bw w x->aF 141 Fq x r S->Qp x (aD b 0)=O (Y (O (aD r 0)))->Calls V 76 #[Qu #[v0,v1,v2,v3,v4,v5,v6,v7,v8,v9,p,u,v],Qu #[I J 10,I J 0,I J 0,I J 0,Z Qs 0 0,I J 0,Z Qs 0 0],Z (O (aD b 0)) 1 1] x (bN 141 Fq x T3)):=λx b r Q hr h0=>by rw[<-FP];exact qO.o x b r S 10 Q X X qP.o hr h0
 have aU:Qn (au ts q (ig ((0:Nat):Int)) []=bR ts q 0):=rfl;clear hR aB aj C9 FP bZ Ez hz qO oU qP hc;generalize au ts q=GT,bR ts q=PT,2 ^ (N q.wh)-1=CN at*;unfold ah.val at ag ai;generalize N q.src.xs=n,q.src.ad=sa,q.src.cap=sc,N q.ord.xs=ol,q.ord.ad=oa,q.ord.cap=oc,q.group=gr at*;obtain⟨w1,bn,aP,bq⟩:=bC w #[v0,v1,v2,v3,v4,v5,v6,v7,v8,v9,p,u,v] 82;obtain⟨a0,a1,a2,a3,a4,a5,a6,a7,a8,a9,jq,jP,bu⟩:=bq.k13;rw[ag]at a0;rw[ax]at a2;rw[ai]at a6;rw[aA]at a9;have HV:Qn (v0=_/\v2=_/\v6=_/\v9=_):=⟨ag,ax,ai,aA⟩;have aN:=Zh aP;have B:=xu.o w1 0 aP X;rw[aU.o]at B;rw[ag,ax,ai,aA]at xu U3 ak aM vX B bn ⊢;go_enter func42,ntmps42;go_wp2_with fail;refine B.mono ?_;rintro e w2 ⟨r0,rfl,hT,a,d,aC⟩;obtain⟨b0,b1,b2,b3,b4,b5,b6,b7⟩:=kS aC a0 a1 a2 a3 a4 a5 a6 a7;obtain⟨b8,b9,bz,bA,bB⟩:=jW aC a8 a9 jq jP bu;have aV:=Zh hT;have Ii:Qn (M (H w)<=r0/\r0<M (H w2)):=⟨ZN aN.o.size a,d⟩;have C:=Zh (az aN.o aC);go_wp2;go_loopw [3,4] (λpv sv wr=>∃m k r:Nat,m<=n/\Qn (m=k+1)/\sv=I J (m:Int)/\pv=Y (O (aD r 0))/\Qn (aF 141 Fq wr r (PT k))/\Qn (M (H w)<=r/\r<M (H wr))/\Qn (Bw w2 wr)) (λ_ sv _=>n-(intOf sv).toNat)
 case atStart=>exact⟨1,0,r0,aL,rfl,rfl,rfl,aV.o,Ii.o,Q9 _ _⟩
 case round=>
  obtain⟨m,k,r,hm,aG,rfl,rfl,HT,HR,vz⟩:=hrel;obtain⟨c0,c1,c2,c3,c4,c5,c6,c7⟩:=kS vz.o b0 b1 b2 b3 b4 b5 b6 b7;obtain⟨c8,c9,aQ,aR,aT⟩:=jW vz.o b8 b9 bz bA bB;by_cases bL:m<n
  .have B:=xu.o wr m (az C.o vz.o) bL;have aW:=U3.o;go_wp2_with fail;refine B.mono ?_;rintro e w3 ⟨z,rfl,bD,bM,bO,g⟩;obtain⟨d0,d1,d2,d3,d4,d5,d6,d7⟩:=kS g c0 c1 c2 c3 c4 c5 c6 c7;obtain⟨d8,d9,aH,aI,aJ⟩:=jW g c8 c9 aQ aR aT;have FP:=HT.o.below g;obtain⟨w4,A⟩:=eX (w3.alloc (Qt #[Y (O (aD r 0)),Y (O (aD z 0))] 93))
   have i:Bw w3 w4:=by rw[<-A];exact cZ _ _
   have zK:=az vz.o (az g i);have aX:=aG.o;have aY:=aW w4 (M (H w3)) r z k (az C.o zK) X (FP.below i) (by rw[<-aX];exact bD.below i) (by rw[<-A];simp) (by rw[<-A];simp);have aO:=Zh zK;go_wp2_with fail;refine aY.mono ?_;rintro e D ⟨r2,rfl,G,a,d,K⟩;obtain⟨y,ko⟩:=aS G (az aO.o K);have j:Qn (M (H w)<=r2/\r2<M (H D)):=⟨ZN C.o.size (ZN aO.o.size a),d⟩;go_wp2;go_roundw
   case rel=>exact⟨m+1,k+1,r2,X,by show _=_;rw[aG.o],Qe,rfl,y.o,j.o,ko.o⟩
   case measure=>exact XK
  .have aZ:n=m:=X
   subst aZ;have bf:k=n-1:=Qk aG.o;subst bf;have bg:=ak.o wr r (az C.o vz.o) HT.o HR.o.2;go_wp2_with fail;refine bg.mono ?_;rintro e w3 ⟨r3,rfl,FP,bP,bQ,g⟩;obtain⟨d0,d1,d2,d3,d4,d5,d6,d7⟩:=kS g c0 c1 c2 c3 c4 c5 c6 c7;obtain⟨d8,d9,aH,aI,aJ⟩:=jW g c8 c9 aQ aR aT;obtain⟨L,bE⟩:=aS (az C.o (az vz.o g)) FP;obtain⟨w4,A⟩:=eX (w3.alloc (Qt #[Y (O (aD r3 0))] 93));have i:Bw w3 w4:=by rw[<-A];exact cZ _ _
   have aa:=aM.o w4 (M (H w3)) r3 (az L.o i) (bE.o.below i) (by rw[<-A];simp);have rf:=Zh i
   cases gr with
   |true =>
    rw[Zb rfl]at aa;go_wp2_with fail;refine aa.mono ?_;rintro e D ⟨P,rfl,G,a,d,K⟩;have uH:=az rf.o K;obtain⟨e0,e1,e2,e3,e4,e5,e6,e7⟩:=kS uH d0 d1 d2 d3 d4 d5 d6 d7;obtain⟨e8,e9,bF,bG,bH⟩:=jW uH d8 d9 aH aI aJ;obtain⟨ko,y⟩:=aS (az L.o uH) G;have j:Qn (M (H w)<=P/\P<M (H D)):=⟨ZN L.o.size (ZN rf.o.size a),d⟩;by_cases ho:0<ol
    .have Cy:=Zi ho;have Lu:Qn (R=T3):=by show _=_;rw[W.o,Zb ho]
     obtain⟨w6,oV⟩:=eX (D.alloc (Qt #[Y (O (aD P 0))] 93));have l:Bw D w6:=by rw[<-oV];exact cZ _ _
     have av:=vX.o w6 (M (H D)) P (az ko.o l) (y.o.below l) (by rw[<-oV];simp);have zg:=Zh (az ko.o l);go_wp2_with fail;refine av.mono ?_;rintro e w7 ⟨r7,rfl,aK,a,d,qy⟩;have HP:Qn (bN 141 Fq w T3 (Qv (Y (O (aD r7 0)))) w7):=⟨r7,rfl,aK,ZN zg.o.size a,d,az zg.o qy⟩;go_wp2;go_ret;rw[Lu.o];exact HP.o
    .have Cy:=Zr ho;have Lu:Qn (R=S):=by show _=_;rw[W.o,Zg ho]
     obtain rfl:ol=0:=X;go_wp2;go_ret;rw[Lu.o];exact⟨P,rfl,y.o,j.o.1,j.o.2,ko.o⟩
   |false =>
    rw[Zg Qc]at aa;go_wp2_with fail;refine aa.mono ?_;rintro e D ⟨P,rfl,G,a,d,K⟩;have uH:=az rf.o K;obtain⟨e0,e1,e2,e3,e4,e5,e6,e7⟩:=kS uH d0 d1 d2 d3 d4 d5 d6 d7;obtain⟨e8,e9,bF,bG,bH⟩:=jW uH d8 d9 aH aI aJ;obtain⟨ko,y⟩:=aS (az L.o uH) G;have j:Qn (M (H w)<=P/\P<M (H D)):=⟨ZN L.o.size (ZN rf.o.size a),d⟩;by_cases ho:0<ol
    .have Cy:=Zi ho;have Lu:Qn (R=T3):=by show _=_;rw[W.o,Zb ho]
     obtain⟨w6,oV⟩:=eX (D.alloc (Qt #[Y (O (aD P 0))] 93));have l:Bw D w6:=by rw[<-oV];exact cZ _ _
     have av:=vX.o w6 (M (H D)) P (az ko.o l) (y.o.below l) (by rw[<-oV];simp);have zg:=Zh (az ko.o l);go_wp2_with fail;refine av.mono ?_;rintro e w7 ⟨r7,rfl,aK,a,d,qy⟩;have HP:Qn (bN 141 Fq w T3 (Qv (Y (O (aD r7 0)))) w7):=⟨r7,rfl,aK,ZN zg.o.size a,d,az zg.o qy⟩;go_wp2;go_ret;rw[Lu.o];exact HP.o
    .have Cy:=Zr ho;have Lu:Qn (R=S):=by show _=_;rw[W.o,Zg ho]
     obtain rfl:ol=0:=X;go_wp2;go_ret;rw[Lu.o];exact⟨P,rfl,y.o,j.o.1,j.o.2,ko.o⟩
structure gU(Tl:TypeId)(Fq:Qz)(base:Nat)(w:U)(v:Qm)(os:Qy ah):Prop where
 own:w.ownsRow base Tl 1 v (N os) (os.map ah.val)
 each:∀o∈os,IntsIn (Fv Fq v) w o/\N o.xs<=1000
def gU.below{Tl:TypeId}{Fq:Qz}{base:Nat}{w w':U}{v:Qm}{os:Qy ah}(h:gU Tl Fq base w v os)(hb:Bw w w'):gU Tl Fq base w' v os:=
 ⟨XM h.own hb,λo a=>⟨(h.each o a).1.below hb,(h.each o a).2⟩⟩
theorem IntsIn.pushed{o:ah}(h:IntsIn (Fv Fq v) w o)(hk:Kept (λb=>v.ownBlock≠O b) w w')(hat:v'.ownBlock=v.ownBlock∨∃g,v'.ownBlock=O g/\M (H w)<=g):IntsIn (Fv Fq v') w' o:=by
 have f:=h.mono (G:=λb=>Fv Fq v b/\Fv Fq v' b) (λb d a=>⟨a,a.1,λe=>by
  rcases hat with h|⟨g,h,i⟩
  .exact a.2 (h ▸ e)
  grind⟩)
 exact(f.aV (hk.mono λb _ d=>d.1.2)).mono λ_ _ h=>h.2
def gU.push{o:ah}(h:gU Tl Fq base w v os)(ho:IntsIn (Fv Fq v) w o)(hl:N o.xs<=1000)(hn:w'.ownsRow base Tl 1 v' (N (os++[o])) ((os++[o]).map ah.val))(hk:Kept (λb=>v.ownBlock≠O b) w w')(hat:v'.ownBlock=v.ownBlock∨∃g,v'.ownBlock=O g/\M (H w)<=g):gU Tl Fq base w' v' (os++[o]):=
 ⟨hn,λx a=>by
  rcases Xk.1 a with a|a
  .exact⟨(h.each x a).1.pushed hk hat,(h.each x a).2⟩
  .rw[Xj]at a;rw[a];exact⟨ho.pushed hk hat,hl⟩⟩
theorem gU.cells(h:gU Tl Fq base w v os):∃b cap,v=Z b (N os) cap/\N os<=cap/\bg w b (N os) (λi=>(E os i eG).val):=by
 rcases h.own.2 with⟨rfl,h0⟩|⟨g,cap,cur,rfl,-,-,hc,-⟩
 .have:=Zk h0;subst this;exact⟨Qs,0,rfl,Za _,λi a=>absurd a Qa⟩
 .refine⟨_,cap,rfl,hc,λi a=>⟨g,0,rfl,?_⟩⟩;rcases XF h.own with⟨e,_⟩|⟨g',cap',e,_,_,hcc⟩
  .cases e
  grind
def Te{x:Qx}{k:Nat}(hk:k<N os):x∈(os.take (k+1)).map ah.xs↔x∈(os.take k).map ah.xs∨x=(E os k eG).xs:=by rw[Jf os eG hk,Q5,Xk];simp
theorem WX(W:U)(base:Nat)(v:Qm)(os:Qy ah)(hown:W.ownsRow base 22 1 v (N os) (os.map ah.val))(hl:N os<=1000)(hb:base<=M (H W))(o:ah)(ty:TypeId) :
  ∃d w',(Builtin.append_ #[51,51] ty #[v,Z (O (aD (M (H W)) 0)) 1 1]).run V (W.alloc (Qt #[o.val] 22))=.ok d w'/\
   w'.ownsRow base 22 1 d (N (os++[o])) ((os++[o]).map ah.val)/\Kept (λb=>v.ownBlock≠O b) W w'/\(∃a m c,d = Z a m c)/\(d.ownBlock=v.ownBlock∨d.ownBlock=O (M (H W)+1)):=by
 obtain⟨j,k,e,f,g⟩:=Xl Tryz.Ai;obtain⟨d,w',n,p,q,r,l⟩:=iq (P:=V) W base 51 ty 22 j _ 1 24 underlying51 k e f g rfl Qc v (N os) _ hown hb [o.val] rfl (λu i=>by
  rw[Xj]at i;rw[i];rfl) hl Qc
 grind
def NI(x o:ah)(bx:Nat)(w:U)(hx:x.At w)(ho:o.At w)(hc:Qp w (aD bx 0)=O o.val) :
  Calls V 121 (#[x.val] ++ #[Y (O (aD bx 0))]) w λe w'=>e=Qv (Qr (decide (x.xs=o.xs)))/\Bw w w':=by have a:=DV x.ad o.ad x.cap o.cap x.xs o.xs w hx ho;obtain⟨i,j,b⟩:=x;obtain⟨k,l,f⟩:=o;show Calls V 121 #[Z i (N b) j,Y (O (aD bx 0))] w _;simp only[ah.val]at*;generalize decide (b=f)=D,N b=xl,N f=ol at*;go_enter func121,ntmps121;go_wp2_with fail;refine a.mono ?_;rintro e m ⟨rfl,d⟩;have g:=Zh d;go_wp2;go_ret;exact⟨rfl,g.o⟩
theorem NJ(ao:PN)(cap:Nat)(os:Qy ah)(o:ah)(bx:Nat)(w:U)(hos:bg w ao (N os) (λi=>(E os i eG).val))(hat:∀x∈os,x.At w)(ho:o.At w)(hc:Qp w (aD bx 0)=O o.val)(hl:N os<=1000) :
  Calls V 168 #[Z ao (N os) cap,.func (.func 121) #[] #[Y (O (aD bx 0))]] w λe w'=>∃r:Int,e=Qv (I J r)/\Qn (0<=r↔o.xs∈os.map ah.xs)/\Bw w w':=by
 have n:=Zh hos;have A:Qn (∀(k:Nat) (y:U),k<N os->Bw w y->Calls V 121 (#[(E os k eG).val] ++ #[Y (O (aD bx 0))]) y λe w'=>e=Qv (Qr (decide ((E os k eG).xs=o.xs)))/\Bw y w'):=λk y D t=>NI _ o bx y (Q8 t (hat _ Qb)) (Q8 t ho) (cB t hc);go_enter func168,ntmps168;go_wp2;go_loopw [8] (λu wr=>∃k:Nat,k<=N os/\u=I J (k:Int)/\Qn (o.xs ∉ (os.take k).map ah.xs)/\Qn (Bw w wr)) (λu _=>N os-(intOf u).toNat)
 case atStart=>exact⟨0,ZB _,rfl,by show _ ∉ _;simp,Q9 _ _⟩
 case round=>
  obtain⟨k,D,rfl,G,m⟩:=hrel;by_cases f:k<N os
  .obtain⟨Q,R,rfl,g⟩:=Q0 (bg.below m.o n.o) f;have j:=g k f;have a:=A.o k wr f m.o;have p:=Zh (Te (x:=o.xs) f);have v:Qn (E os k eG∈os):=Qb
   generalize E os k eG=x at*;obtain⟨K,L,z⟩:=x;simp only[ah.val]at*;change Calls V 121 #[Z K (N z) L,Y (O (aD bx 0))] wr _ at a;by_cases d:z=o.xs
   .rw[Zi d]at a;have q:Qn (o.xs∈os.map ah.xs):=Qb
    clear g d v p;go_wp2_with fail;refine a.mono ?_;rintro e P ⟨rfl,b⟩;have l:=Zh (az m.o b);clear a b j;go_wp2;go_ret;exact⟨k,rfl,⟨λ_=>q.o,λ_=>X⟩,l.o⟩
   .rw[Zr d]at a;have B:Qn (o.xs ∉ (os.take (k+1)).map ah.xs):=λh=>by
     rcases p.o.1 h with h|h
     .exact G.o h
     .exact d h.symm
    clear g d v p;go_wp2_with fail;refine a.mono ?_;rintro e P ⟨rfl,b⟩;have l:=Zh (az m.o b);clear a b j;go_wp2;go_roundw
    case rel=>grind
    case measure=>exact XK
  .have C:N os=k:=X
   have q:Qn (o.xs ∉ os.map ah.xs):=by grind
   go_wp2;go_ret;exact⟨-1,rfl,⟨λh=>X,λh=>absurd h q.o⟩,m.o⟩
def NK(ao:PN)(cap:Nat)(os:Qy ah)(o:ah)(bx:Nat)(w:U)(hos:bg w ao (N os) (λi=>(E os i eG).val))(hat:∀x∈os,x.At w)(ho:o.At w)(hc:Qp w (aD bx 0)=O o.val)(hl:N os<=1000) :
  Cb 120 #[Z ao (N os) cap,.func (.func 121) #[] #[Y (O (aD bx 0))]] w (Qr (decide (o.xs∈os.map ah.xs))):=by have b:=NJ ao cap os o bx w hos hat ho hc hl;go_enter func120,ntmps120;go_wp2_with fail;refine b.mono ?_;rintro e g ⟨r,rfl,f,a⟩;have d:=Zh a;go_wp2;go_ret;exact⟨QY (by rw[XU,Zf,Zf];exact f.o),d.o⟩
theorem Tf(h:gU 22 Fq base w v os)(hb:base<=M (H w))(o:ah)(ho:IntsIn (Fv Fq v) w o)(hol:N o.xs<=1000)(hl:N os<=1000) :
  Calls V 81 #[v,o.val] w λe w'=>∃z d,e=Qv z/\gU 22 Fq base w' z d/\d.map ah.xs=gI (os.map ah.xs) o.xs/\N d<=N os+1/\Kept (λb=>v.ownBlock≠O b) w w'/\(z.ownBlock=v.ownBlock∨∃g,z.ownBlock=O g/\M (H w)<=g):=by
 obtain⟨m,cap,rfl,aa,P⟩:=h.cells;obtain⟨w1,ae,f,u⟩:=bC w #[o.val] 22;have C:=NK m cap os o (M (H w)) w1 (bg.below f P) (λx hx=>Q8 f (h.each x hx).1.at') (Q8 f ho.at') (u.cell 0) hl;obtain⟨Q,HO,y,R⟩:=sU h ho f u;by_cases G:o.xs∈os.map ah.xs
 .rw[Zi G]at C;have K:Qn (gI (os.map ah.xs) o.xs=os.map ah.xs):=by show _=_;unfold gI;rw[Zb G]
  obtain⟨k,l,i⟩:=o;simp only[ah.val]at*;go_enter func81,ntmps81;go_wp2_with fail;refine C.mono ?_;rintro e n ⟨rfl,j⟩;have r:=Zh (az y.o j);go_wp2;go_ret;exact⟨_,os,rfl,Q.o.below r.o,K.o.symm,X,ZP r.o (λ_ h _=>h),.inl rfl⟩
 .rw[Zr G]at C;have K:Qn (gI (os.map ah.xs) o.xs=os.map ah.xs++[o.xs]):=by show _=_;unfold gI;rw[Zg G]
  have L:Qn (N os<=1000/\base<=M (H w)/\N o.xs<=1000):=⟨hl,hb,hol⟩;obtain⟨k,l,i⟩:=o;simp only[ah.val]at*;go_enter func81,ntmps81;go_wp2_with fail;refine C.mono ?_;rintro e n ⟨rfl,j⟩;have a:=az y.o j;have c0:Qp n (aD (M (H w)) 0)=O (Z k (N i) l):=cB j (R.o.cell 0);obtain⟨z,D,A,S,B,⟨p,q,zc,rfl⟩,af⟩:=WX n base (Z m (N os) cap) os (XM Q.o.own a) L.o.1 (ZN L.o.2.1 a.size) ⟨k,l,i⟩ 51;have W:(Value.slice p q zc).ownBlock=(Value.slice m (N os) cap).ownBlock∨∃g,(Value.slice p q zc).ownBlock=O g/\M (H n)<=g:=by grind
  have HF:Qn (gU 22 Fq base D (Z p q zc) (os++[⟨k,l,i⟩])/\Kept (λb=>(Value.slice m (N os) cap).ownBlock≠O b) w D/\((Value.slice p q zc).ownBlock=(Value.slice m (N os) cap).ownBlock∨∃g,(Value.slice p q zc).ownBlock=O g/\M (H w)<=g)):=⟨(Q.o.below a).push (HO.o.below a) L.o.2.2 S B W,(ZP a (λ_ h _=>h)).trans B,by
   rcases W with h|⟨g,h,hg⟩
   .exact .inl h
   .exact .inr ⟨g,h,ZN a.size hg⟩⟩
  change (Builtin.append_ #[51,51] 51 #[Z m (N os) cap,Z (O (aD (M (H n)) 0)) 1 1]).run V (n.alloc (Qt #[Z k (N i) l] 22))=.ok (Z p q zc) D at A;have t:Qn ((os++[(⟨k,l,i⟩:ah)]).map ah.xs=os.map ah.xs++[i]/\N (os++[(⟨k,l,i⟩:ah)])<=N os+1):=⟨Qa,Qa⟩;generalize os++[(⟨k,l,i⟩:ah)]=d at*;go_wp2_with (first|(at_builtin;refine Xz rfl (.tmp 9) (.tmp 11) 51 rfl (Z m (N os) cap) (Z (O (aD (M (H n)) 0)) 1 1) (Z p q zc) D rfl rfl A ?_));go_wp2;go_ret;exact⟨_,d,rfl,HF.o.1,t.o.1.trans K.o.symm,t.o.2,HF.o.2⟩
def uW(ls:Qy (Qx))(l:Qx):N (gI ls l)<=N ls+1:=by unfold gI;split <;> simp
def zk(h:∃r,ls=[]::r):∃r,gI ls l=[]::r:=by
 obtain⟨r,rfl⟩:=h;unfold gI;split
 .exact⟨r,rfl⟩
 .exact⟨r++[l],rfl⟩
def jU(ts:Qy af)(q:ae)(s:Nat)(acc:Qy (Qx))(c:Int):N (df ts q s acc c)<=N acc+1:=by
 unfold df;split
 .exact uW _ _
 .omega
def xw(c:Int)(h:∃r,acc=[]::r):∃r,df ts q s acc c=[]::r:=by
 unfold df;split
 .exact zk h
 .exact h
theorem Ej(ts:Qy af)(q:ae)(s:Nat):∀(l:Qy aG) (acc:Qy (Qx)),(∃r,acc=[]::r)->(∃r,l.foldl (gP ts q s) acc=[]::r)/\N (l.foldl (gP ts q s) acc)<=N acc+2*N l
 |[],acc,h=>⟨h,Qa⟩
 |c::l,acc,h=>by
  have hs:(∃r,gP ts q s acc c=[]::r)/\N (gP ts q s acc c)<=N acc+2:=by
   unfold gP;split
   .refine⟨xw _ (xw _ h),?_⟩;have h1:=jU ts q s acc (bF c.cs).1;have h2:=jU ts q s (df ts q s acc (bF c.cs).1) (bF c.cs).2.1;omega
   .exact⟨h,X⟩
  have:=Ej ts q s l _ hs.1;grind
def Bu(ts:Qy af)(q:ae)(s:Nat)(h8:N q.wh<=8):(∃r,dO ts q s=[]::r)/\N (dO ts q s)<=18:=by
 have a:∃r,(if aT s (bD (dZ ts q (aI q)))=T then gI [[]] (aI q) else [[]])=[]::r:=by
  split
  .exact zk ⟨[],rfl⟩
  .exact⟨[],rfl⟩
 have b:N (if aT s (bD (dZ ts q (aI q)))=T then gI [[]] (aI q) else [[]])<=2:=by
  split
  .exact uW _ _
  .simp
 have:=Ej ts q s q.wh _ a;exact⟨this.1,ZN this.2 X⟩
def Env.akd(Ez:Env f ts q W0):gB ts q (aI q):=by
 unfold aI;split
 .exact Ez.keys
 .rename_i hg
  split
  .exact Ez.want (by simpa using hg)
  .intro c a;cases a
def gU.fz(h:gU Tl Fq base w v os)(hz:Fz Fq W0 w)(hb:M (H W0)<=base):Fz (Fv Fq v) W0 w:=hz.own λg e=>⟨ZN hb (Xg h.own e).1,(Xg h.own e).2⟩
theorem J6{cb:Nat}(hc:Qp w (aD cb 0)=O (I J c))(hF:Fq cb):IntsIn Fq w ⟨O (aD cb 0),1,[c]⟩:=
 ⟨⟨Qa,λi b=>⟨cb,0,rfl,by
  grind⟩⟩,λ_ a e=>by cases e;exact hF,(λe=>by cases e),Za _⟩
def Bv(hk:Kept (λb=>v.ownBlock≠O b) w w'){o:Nat}{u:Qm}(h:Qp w (aD b o)=O u)(hs:v.ownBlock≠O b):Qp w' (aD b o)=O u:=by rw[ZX (hk.block b (ZW h) hs)];exact h
def jo(Fq:Qz)(w1:U)(ls:Qy (Qx))(v:Qm)(w':U):Prop:=∃os,gU 22 Fq (M (H w1)) w' v os/\os.map ah.xs=ls/\N os<=100/\Bw w1 w'
theorem ake{w1:U}(h:jo Fq w1 ls v w)(hl:N ls<=50)(o:ah)(ho:IntsIn (Fv Fq v) w o)(hol:N o.xs<=1000) :
  Calls V 81 #[v,Z o.ad (N o.xs) o.cap] w λe w'=>∃d,e=Qv d/\(∃a m c,d = Z a m c)/\jo Fq w1 (gI ls o.xs) d w'/\Kept (λb=>v.ownBlock≠O b) w w'/\(d.ownBlock=v.ownBlock∨∃g,d.ownBlock=O g/\M (H w)<=g):=by obtain⟨os,k,p,t,f⟩:=h;have j:N os<=50:=Qb;refine(Tf k f.size o ho hol X).mono ?_;rintro e w' ⟨d,i,rfl,l,q,u,n,r⟩;exact⟨d,rfl,Xh l.own,⟨i,l,by rw[q,p],X,f.trans (n.below f.size (λb y e=>Qk ((Xg k.own e).1)))⟩,n,r⟩
def jo.below{Fq:Qz}{w1 w w':U}{ls:Qy (Qx)}{v:Qm}(h:jo Fq w1 ls v w)(hb:Bw w w'):jo Fq w1 ls v w':=by obtain⟨os,a,b,d,e⟩:=h;exact⟨os,a.below hb,b,d,az e hb⟩
theorem yE(Ez:Env f ts q W0)(hz:Fz Fq W0 w)(s:Nat)(hs:s<18446744073709551616) :
  Calls V 43 #[Qu (f.cells ts q),I .u64 (s:Int)] w λe w'=>∃v os,e=Qv v/\gU 22 Fq (M (H w)) w' v os/\os.map ah.xs=dO ts q s/\Bw w w':=by
 obtain⟨v0,v1,v2,v3,v4,v5,v6,v7,v8,v9,ag,ai,aj,bZ,bV,dM,bW,bX,bY,cu,cz,-⟩:=XY f ts q;subst dM;have uO:q.cells=#[v0,Z q.cK (N q.wh) q.aM,v2,v3,v4,v5,v6]:=by rw[bV,bW,bX,bY,cu,cz];rfl
 have dw:Qn (∀(G:Qz) x,Fz G W0 x->Calls V 78 #[Qu #[v0,Z q.cK (N q.wh) q.aM,v2,v3,v4,v5,v6]] x (Bc G x (aI q))):=λG x hx=>by rw[<-uO];exact wL Ez hx
 have vB:Qn (∀(x:U) (iv:ah),Bw w x->iv.At x->gB ts q iv.xs->Cb 80 #[Qu #[v0,Z q.cK (N q.wh) q.aM,v2,v3,v4,v5,v6,v7,v8,v9,ag,ai,aj],Z iv.ad (N iv.xs) iv.cap] x (I .u64 ((bD (dZ ts q iv.xs):Nat):Int))):=λx iv hx hi hc=>by rw[<-bZ];exact nY f ts q iv.ad iv.cap iv.xs x Ez.ok ((Ez.at' hz).below hx).aL hi hc
 have aF:Qn (∀(xs:Qx) (x:U),gB ts q xs->Ce 79 #[I .u64 (s:Int),I .u64 ((bD (dZ ts q xs):Nat):Int)] x (Qr (aT s (bD (dZ ts q xs))))):=λxs x hc=>kX s _ hs (by have:=O7 Ez.ok hc (N xs);rwa [ZJ]at this) x;have bH:Qn (∀(k:Nat) (x:U),k<N q.wh->Bw w x->Qp x ⟨(q.cK.getD (aD 0 0)).block,(q.cK.getD (aD 0 0)).off+k,Qs⟩=O (Z (E q.wh k lz).ad (E q.wh k lz).cs.length (E q.wh k lz).cap)/\(∃b aU,q.cK=O (aD b aU))/\Cb 82 #[Qu #[Z (E q.wh k lz).ad (E q.wh k lz).cs.length (E q.wh k lz).cap]] x (.tuple #[I J (bF (E q.wh k lz).cs).1,I J (bF (E q.wh k lz).cs).2.1,Qr (bF (E q.wh k lz).cs).2.2])):=λk x hk hx=>by have hq:=((Ez.at' hz).below hx).query.wh;obtain⟨b,aU,e,hc⟩:=hq.2.1 k hk;refine⟨?_,⟨b,aU,e⟩,oL _ _ _ x (hq.2.2 k hk) (Ez.ok.some k hk)⟩;rw[e];exact hc
 have dx:Qn (∀k,k<N q.wh->(bF (E q.wh k lz).cs).2.2=T->gB ts q [(bF (E q.wh k lz).cs).1]/\gB ts q [(bF (E q.wh k lz).cs).2.1]):=λk hk h=>Ee Ez.ok hk h;obtain⟨I0,aB⟩:∃Iq,Iq=(if aT s (bD (dZ ts q (aI q)))=T then gI [[]] (aI q) else [[]]):=⟨_,rfl⟩;have ed:N I0<=2:=by
  rw[aB];split
  .exact uW _ _
  .simp
 obtain⟨d,ak⟩:=eY (λk=>(q.wh.take k).foldl (gP ts q s) I0:Nat->Qy (Qx));have dz:Qn (∀k,k<N q.wh->d (k+1)=gP ts q s (d k) (E q.wh k lz)):=λk hk=>by rw[ak];exact gF _ I0 q.wh lz hk
 have dA:Qn (∀k,N (d k)<=2+2*k):=λk=>by
  have key:∀(l:Qy aG) (u:Qy (Qx)),N (l.foldl (gP ts q s) u)<=N u+2*N l:=by
   intro l
   induction l with
   |nil=>intro u;simp
   |cons c l ih =>
    intro u;refine ZN (ih _) ?_;have:N (gP ts q s u c)<=N u+2:=by
     unfold gP;split
     .have h1:=jU ts q s u (bF c.cs).1;have h2:=jU ts q s (df ts q s u (bF c.cs).1) (bF c.cs).2.1;omega
     .omega
    grind
  rw[ak];refine ZN (key _ _) ?_;rw[XT];omega
 have bI:=Zh (by  rw[ak];rfl:d 0=I0)
 have dB:=Zh (by rw[ak];show (q.wh.take (N q.wh)).foldl _ _=_;rw[ZJ,aB];rfl:d (N q.wh)=dO ts q s)
 have ek:=Ez.eight;have Np:Qn (gB ts q (aI q)/\N (aI q)<=4):=⟨Ez.akd,Ez.V3⟩;have bJ:=Zh aB;obtain⟨t,dN,au,aV⟩:=bC w #[v0,Z q.cK (N q.wh) q.aM,v2,v3,v4,v5,v6,v7,v8,v9,ag,ai,aj] 82;obtain⟨w2,dP,n,cO⟩:=bC t #[Z Qs 0 0] 22;have bK:Qn (jo Fq t [[]] (Z (O (aD (M (H t)) 0)) 1 1) w2):=⟨[eG],⟨⟨rfl,.inr ⟨M (H t),1,#[Z Qs 0 0],rfl,Za _,cO,Za _,Qh,rfl,rfl⟩⟩,λo ho=>by rw[Xj]at ho;rw[ho];exact⟨IntsIn.eG _ _,ZB _⟩⟩,rfl,Qa,n⟩;have U4:Qn (∀(x:U) (v:Qm) (ls:Qy (Qx)),jo Fq t ls v x->Fz (Fv Fq v) W0 x/\Bw w x/\Bw t x/\(∀g,v.ownBlock=O g->g<M (H x))):=λx v ls h=>by obtain⟨os,h1,h2,h3,h4⟩:=h;have bL:=az au h4;have:=h1.fz (hz.next bL) (ZN hz.below.size au.size);exact⟨this,bL,h4,λg e=>(Xg h1.own e).2⟩
 have D:Qn (∀(x:U),Bw t x->GB x (M (H w)) 82 #[v0,Z q.cK (N q.wh) q.aM,v2,v3,v4,v5,v6,v7,v8,v9,ag,ai,aj]):=λx hx=>aV.keep (ZP (s:=λb=>b<M (H t)) hx (λ_ h _=>h)) aV.lt;have aa:=D.o w2 n;obtain⟨a0,a1,a2,a3,a4,a5,a6,a7,a8,a9,jq,jP,p⟩:=aa.k13;have bM:=dw.o _ w2 (U4.o w2 _ _ bK.o).1;have dC:Qn (∀(x:U) (v:Qm) (ls:Qy (Qx)),jo Fq t ls v x->∃os,gU 22 Fq (M (H w)) x v os/\os.map ah.xs=ls/\Bw w x):=λx v ls h=>by obtain⟨os,h1,h2,h3,h4⟩:=h;exact⟨os,⟨mr h1.own au.size,h1.each⟩,h2,az au h4⟩
 rw[bZ];clear bZ uO bV bW bX bY cu cz aB ak hz au aV n cO aa Ez;generalize dO ts q s=R,aI q=EO at*;go_enter func43,ntmps43;go_wp2_with fail;refine bM.mono ?_;rintro e w3 ⟨iv,rfl,oq,aW,dh⟩;obtain⟨ea,ec,ex⟩:=iv;simp only[ah.val]at oq ⊢;subst oq;have aH:=bK.o.below dh;have aJ:=U4.o w3 _ _ aH;have bN:=D.o w3 aJ.2.2.1;clear a0 a1 a2 a3 a4 a5 a6 a7 a8 a9 jq jP p;obtain⟨a0,a1,a2,a3,a4,a5,a6,a7,a8,a9,jq,jP,p⟩:=bN.k13;have J7:=vB.o w3 ⟨ea,ec,ex⟩ aJ.2.1 aW.at' Np.o.1;have UL:=hd aH;have dD:=hd aW;have WY:=λx=>aF.o ex x Np.o.1;clear bM aH aJ bN aW dh dN dP;generalize bD (dZ ts q ex)=se at*;obtain⟨el,aX⟩:=eY (N ex);have dE:=hd aX;simp only at J7;rw[<-aX]at J7 ⊢;clear aX;go_wp2_with fail;refine J7.mono ?_;rintro e w4 ⟨rfl,S⟩;have WZ:=WY w4;obtain⟨K,dQ⟩:=aS (UL.o.below S) (dD.o.below S);clear J7 S WY;go_wp2_with fail;refine WZ.mono ?_;rintro e wz ⟨rfl,dR⟩;have om:=dR.symm;subst om;clear WZ a0 a1 a2 a3 a4 a5 a6 a7 a8 a9 jq jP p;generalize aT s se=CB0 at*;cases CB0
 case' true=>
  have Lm:=ake K.o Qa ⟨ea,ec,ex⟩ dQ.o (by show N ex<=1000;have:=Np.o.2;omega);simp only at Lm;rw[<-dE.o]at Lm;go_wp2_with fail;refine Lm.mono ?_;rintro e w5 ⟨v',rfl,⟨ra,rm,rc,rfl⟩,av,-⟩;have M6:Qn (jo Fq t (d 0) (Z ra rm rc) w5):=by show jo _ _ _ _ _;rw[bI.o,bJ.o];exact av
  have Ya:=U4.o w5 _ _ M6.o;have Pk:=D.o w5 Ya.2.2.1;clear Lm av;obtain⟨a0,a1,a2,a3,a4,a5,a6,a7,a8,a9,jq,jP,p⟩:=Pk.k13;clear Pk Ya
 case' false=>
  have M6:Qn (jo Fq t (d 0) (Z (O (aD (M (H t)) 0)) 1 1) w4):=by show jo _ _ _ _ _;rw[bI.o,bJ.o];exact K.o
  have Ya:=U4.o w4 _ _ M6.o;have Pk:=D.o w4 Ya.2.2.1;obtain⟨a0,a1,a2,a3,a4,a5,a6,a7,a8,a9,jq,jP,p⟩:=Pk.k13;clear Pk Ya
 all_goals
  go_wp2;go_loopw [5,30] (λpv xv wr=>∃k:Nat,k<=N q.wh/\xv=I J (k:Int)/\(∃a m c,pv=Z a m c)/\Qn (jo Fq t (d k) pv wr)) (λ_ xv _=>N q.wh-(intOf xv).toNat)
  case atStart=>exact⟨0,ZB _,rfl,⟨_,_,_,rfl⟩,M6.o⟩
  case round=>
   obtain⟨k,hk,rfl,⟨pa,pm,pc,rfl⟩,aY⟩:=hrel;by_cases aC:k<N q.wh
   .have A:=U4.o wr _ _ aY.o;obtain⟨C,⟨kb,Br,di⟩,dm⟩:=bH.o k wr aC A.2.1;have aK:=λx (hx:Bw w x)=>(bH.o k x aC hx).2.2
    have zG:=dz.o k aC;have ax:=dx.o k aC;have eu:=dA.o k;rw[di]at C ⊢;clear di;change wr.cell? (aD kb (Br+k))=O (Z (E q.wh k lz).ad (E q.wh k lz).cs.length (E q.wh k lz).cap) at C;unfold gP at zG;generalize bF (E q.wh k lz).cs=EC at*;obtain⟨r,y,c3⟩:=EC;simp only at aK zG ax dm;generalize (E q.wh k lz).ad=ca,(E q.wh k lz).cs.length=cl,(E q.wh k lz).cap=cc at*;obtain⟨y1,aZ⟩:=eX (wr.alloc (Qt #[Z ca cl cc] 70));have B:Bw wr y1:=by rw[<-aZ];exact cZ _ _
    have b0:Qp y1 (aD (M (H wr)) 0)=O (Z ca cl cc):=by rw[<-aZ];simp
    have bO:=aK y1 (az A.2.1 B);have oI:=Zh (aY.o.below B);clear B dm aK A;obtain⟨wl,eD⟩:=eY (N q.wh);go_wp2_with fail;refine bO.mono ?_;rintro e y2 ⟨rfl,n⟩;have aN:=Zh (oI.o.below n);clear bO aZ b0 C n
    cases c3 with
    |false =>
     have qD:=hd zG;clear zG ax;go_wp2;go_roundw
     case rel=>exact⟨k+1,X,Qe,⟨_,_,_,rfl⟩,by show jo _ _ _ _ _;rw[qD.o];exact aN.o⟩
     case measure=>exact XK
    |true =>
     obtain⟨bf,bg⟩:=ax rfl;have F5:gB ts q [r,y]:=λc hc=>by
      rcases List.mem_cons.1 hc with rfl|hc
      .exact bf _ XL
      .exact bg c hc
     have Db:=U4.o y2 _ _ aN.o;obtain⟨y3,dS,P,Q⟩:=bC y2 #[I J r,I J y] 3;have J7:=vB.o y3 ⟨O (aD (M (H y2)) 0),2,[r,y]⟩ (az Db.2.1 P) ⟨Qa,λi hi=>⟨M (H y2),0,rfl,by
      rw[ZC];have dF:i<2:=hi
      match i,dF with
      |0,_=>exact Q.cell 0
      |1,_=>exact Q.cell 1⟩⟩ F5
     change Calls V 80 #[Qu #[v0,Z q.cK (N q.wh) q.aM,v2,v3,v4,v5,v6,v7,v8,v9,ag,ai,aj],Z (O (aD (M (H y2)) 0)) 2 2] y3 _ at J7;have aa:=D.o y2 Db.2.2.1;obtain⟨a0,a1,a2,a3,a4,a5,a6,a7,a8,a9,jq,jP,p⟩:=aa.k13;have UL:=Zh (aN.o.below P);have WY:=λx=>aF.o [r,y] x F5;have oU:Qn (gB ts q [r]/\gB ts q [y]):=⟨bf,bg⟩;clear aa P Q Db bf bg F5 ax;generalize bD (dZ ts q [r,y])=s12 at*;go_wp2_with fail;refine J7.mono ?_;rintro e y4 ⟨rfl,S⟩;have K:=Zh (UL.o.below S);have WZ:=WY y4;clear J7 S dS WY a0 a1 a2 a3 a4 a5 a6 a7 a8 a9 jq jP p;go_wp2_with fail;refine WZ.mono ?_;rintro e yz ⟨rfl,dU⟩;have dG:=dU.symm;subst dG;clear WZ;generalize aT s s12=CB at*
     cases CB with
     |true =>
      have qD:=hd zG;clear zG;go_wp2;go_roundw
      case rel=>exact⟨k+1,X,Qe,⟨_,_,_,rfl⟩,by show jo _ _ _ _ _;rw[qD.o];exact K.o⟩
      case measure=>exact XK
     |false =>
      have qD:=hd zG;obtain⟨y5,dV,dn,bn⟩:=bC y4 #[I J r,I J y] 3;have bP:Qn (jo Fq t (d k) (Z pa pm pc) y5/\Qp y5 (aD (M (H y4)) 0)=O (I J r)/\Qp y5 (aD (M (H y4)) 1)=O (I J y)/\(Value.slice pa pm pc).ownBlock≠O (M (H y4))):=⟨K.o.below dn,bn.cell 0,bn.cell 1,λe=>Qk ((U4.o y4 _ _ K.o).2.2.2 _ e)⟩;obtain⟨lb,bq⟩:=eY (M (H y4));rw[<-bq]at bP;obtain⟨z,bu⟩:∃Uq:Nat->Qy (Qx),Uq=λj=>if j=0 then d k else if j=1 then df ts q s (d k) r else df ts q s (df ts q s (d k) r) y:=⟨_,rfl⟩;have HU:Qn (z 0=d k/\z 1=df ts q s (z 0) r/\z 2=df ts q s (z 1) y/\z 2=d (k+1)):=by rw[bu];exact⟨rfl,rfl,rfl,qD.o.symm⟩
      have dH:Qn (∀j,N (z j)<=40):=λj=>by
       have h1:=jU ts q s (d k) r;have h2:=jU ts q s (df ts q s (d k) r) y;rw[bu];show N (if j=0 then d k else if j=1 then df ts q s (d k) r else df ts q s (df ts q s (d k) r) y)<=40;split
       .omega
       .split <;> omega
      have eB:=Zh bq.symm;clear dn bn zG bu;go_wp2;rw[<-bq]at*;clear dV;go_loopw [5,55] (λpv xv wx=>∃j:Nat,j<=2/\xv=I J (j:Int)/\(∃a m c,pv=Z a m c)/\Qn (jo Fq t (z j) pv wx/\Qp wx (aD lb 0)=O (I J r)/\Qp wx (aD lb 1)=O (I J y)/\pv.ownBlock≠O lb)) (λ_ xv _=>2-(intOf xv).toNat)
      case atStart=>exact⟨0,X,rfl,⟨_,_,_,rfl⟩,by show jo _ _ _ _ _/\_;rw[HU.o.1];exact bP.o⟩
      case round=>
       obtain⟨j,hj,rfl,⟨qa,qm,qc,rfl⟩,HJ⟩:=hrel;by_cases eF:j<2
       .have dI:∃W,Qp wr (aD lb j)=O (I J W)/\gB ts q [W]/\z (j+1)=df ts q s (z j) W:=by
         have dJ:j=0∨j=1:=X;rcases dJ with rfl|rfl
         .exact⟨r,HJ.o.2.1,oU.o.1,HU.o.2.1⟩
         .exact⟨y,HJ.o.2.2.1,oU.o.2,HU.o.2.2.1⟩
        obtain⟨W,mq,bz,bA⟩:=dI;have L:=HJ.o;have A:=U4.o wr _ _ L.1;have hf:=D.o wr A.2.2.1;obtain⟨a0,a1,a2,a3,a4,a5,a6,a7,a8,a9,jq,jP,p⟩:=hf.k13;obtain⟨z1,bB⟩:=eX (wr.alloc (Qt #[I J W] 3));have B:Bw wr z1:=by rw[<-bB];exact cZ _ _
        have bQ:Qp z1 (aD (M (H wr)) 0)=O (I J W):=by rw[<-bB];simp
        have Lh:=vB.o z1 ⟨O (aD (M (H wr)) 0),1,[W]⟩ (az A.2.1 B) (J6 (Fq:=λ_=>True) bQ trivial).at' bz;change Calls V 80 #[Qu #[v0,Z q.cK (N q.wh) q.aM,v2,v3,v4,v5,v6,v7,v8,v9,ag,ai,aj],Z (O (aD (M (H wr)) 0)) 1 1] z1 _ at Lh;have bR:=λx=>aF.o [W] x bz;have dK:=Zh B;have aO:Qn (∀x,Bw wr x->jo Fq t (z j) (Z qa qm qc) x/\Qp x (aD lb 0)=O (I J r)/\Qp x (aD lb 1)=O (I J y)/\(Value.slice qa qm qc).ownBlock≠O lb):=λx hx=>⟨L.1.below hx,cB hx L.2.1,cB hx L.2.2.1,L.2.2.2⟩;unfold df at bA;have aA:=Zh bA;clear hf A B bQ bz bA L;generalize bD (dZ ts q [W])=sc at*;obtain⟨wq,dW⟩:=eY (wr);subst dW;go_wp2_with fail;refine Lh.mono ?_;rintro e z2 ⟨rfl,n⟩;have aP:=Zh (az dK.o n);have bS:=bR z2;clear Lh n bB bR a0 a1 a2 a3 a4 a5 a6 a7 a8 a9 jq jP p mq;go_wp2_with fail;refine bS.mono ?_;rintro e zz ⟨rfl,dX⟩;have dL:=dX.symm;subst dL;clear bS;generalize aT s sc=CB2 at*
        cases CB2 with
        |false =>
         have aQ:Qn (z (j+1)=z j):=aA.o;have HF:=Zh (aO.o z2 aP.o);clear aA;go_wp2;go_roundw
         case rel=>exact⟨j+1,X,Qe,⟨_,_,_,rfl⟩,by show jo _ _ _ _ _/\_;rw[aQ.o];exact HF.o⟩
         case measure=>exact XK
        |true =>
         have aQ:Qn (z (j+1)=gI (z j) [W]):=aA.o;obtain⟨z3,bE⟩:=eX (z2.alloc (Qt #[I J W] 3));have P:Bw z2 z3:=by rw[<-bE];exact cZ _ _
         have Q:Qp z3 (aD (M (H z2)) 0)=O (I J W):=by rw[<-bE];simp
         have aR:=aO.o z3 (az aP.o P);have bT:=aO.o z2 aP.o;have Db:=U4.o z2 _ _ bT.1;have Lm:=ake aR.1 (Qk (dH.o j)) ⟨O (aD (M (H z2)) 0),1,[W]⟩ (J6 Q (Db.1.high _ (Za _))) Qa;change Calls V 81 #[Z qa qm qc,Z (O (aD (M (H z2)) 0)) 1 1] z3 _ at Lm;have IB:=Zh aR;clear aA P Q aR bT Db;go_wp2_with fail;refine Lm.mono ?_;rintro e z4 ⟨v',rfl,⟨ra,rm,rc,rfl⟩,av,bG,NL⟩;have HF:Qn (jo Fq t (z (j+1)) (Z ra rm rc) z4/\Qp z4 (aD lb 0)=O (I J r)/\Qp z4 (aD lb 1)=O (I J y)/\(Value.slice ra rm rc).ownBlock≠O lb):=by
          refine⟨by rw[aQ.o];exact av,Bv bG IB.o.2.1 IB.o.2.2.2,Bv bG IB.o.2.2.1 IB.o.2.2.2,λe=>?_⟩;rcases NL with h|⟨g,h,hg⟩
          .exact IB.o.2.2.2 (h ▸ e)
          .rw[h]at e;injection e with e;have dY:lb<M (H z3):=ZW IB.o.2.1;omega
         clear Lm av bG NL bE;go_wp2;go_roundw
         case rel=>exact⟨j+1,X,Qe,⟨_,_,_,rfl⟩,HF.o⟩
         case measure=>exact XK
       .have bU:j=2:=X
        have HF:Qn (jo Fq t (d (k+1)) (Z qa qm qc) wr):=by have:=HJ.o.1;rw[bU,HU.o.2.2.2]at this;exact this
        clear bU;go_wp2;go_roundw
        case rel=>exact⟨k+1,X,Qe,⟨_,_,_,rfl⟩,HF.o⟩
        case measure=>exact XK
   .have uq:N q.wh=k:=X
    have HF:Qn (∃os,gU 22 Fq (M (H w)) wr (Z pa pm pc) os/\os.map ah.xs=R/\Bw w wr):=by refine dC.o wr _ _ ?_;have:=aY.o;rw[<-uq,dB.o]at this;exact this
    clear uq;go_wp2;go_ret;obtain⟨os,h1,h2,h3⟩:=HF.o;exact⟨_,os,rfl,h1,h2,h3⟩
theorem Om(x:ah)(k:Nat)(w:U)(hx:x.At w)(hk:k<4611686018427387904) :
  Ce 33 #[x.val,I J (k:Int)] w (I J (je x.xs k)):=by
 obtain⟨r,cap,xs⟩:=x;have g:=hx.1;simp only at g;by_cases f:N xs=0
 .have a:je xs k=0:=by unfold je;rw[Zb f]
  simp only[a,ah.val];rw[f];clear a hx f g;go_enter func33,ntmps33;go_wp2;go_ret;exact⟨rfl,rfl⟩
 .have a:je xs k=E xs (k % (N xs)) 0:=by unfold je;rw[Zg f]
  have d:k % (N xs)<N xs:=Nat.mod_lt _ X;obtain⟨b,q,e,j⟩:=Q3 hx d;have l:=j _ d;simp only at e;subst e;simp only[a,ah.val];generalize E xs (k % (N xs)) 0=v at*;have i:Int.tmod (k:Int) (N xs:Int)=((k % (N xs):Nat):Int):=by grind
  have n:((N xs:Int)==0)=false:=Qb;generalize k % (N xs)=m at*;have p:(m:Int)<(N xs:Int):=X;clear a j hx;go_enter func33,ntmps33;go_wp2;go_ret;exact⟨rfl,rfl⟩
theorem NU{p:aj}(h:p∈dz ls):p.2=none:=by unfold dz at h;grind
def Kb{rk:Nat->Int}{Q:bB->Prop}:∀(l:Qy Nat) (acc:Qy bB),(∀t∈acc,Q t)->(∀i∈l,Q (2 ^ i,0))->∀t∈l.foldl (λa (i:Nat)=>iG rk a (2 ^ i,0)) acc,Q t
 |[],_,h,_=>h
 |i::l,acc,h,hl=>Kb l _ (λt ht=>by
   rcases xe ht with ht|rfl
   .exact h t ht
   simp_all) (λj hj=>hl j (XJ _ hj))
theorem Tt(rk:Nat->Int)(a:Qy bB)(t:bB):N a<=N (iG rk a t)/\N (iG rk a t)<=N a+1:=by unfold iG;grind
def Yi(rk:Nat->Int)(t:bB):0<N (iG rk [] t):=by
 unfold iG;split
 .rename_i h
  exact absurd h (by simp[ni])
 .simp
theorem yF(rk:Nat->Int):∀(l:Qy Nat) (acc:Qy bB),N acc<=N (l.foldl (λa (i:Nat)=>iG rk a (2 ^ i,0)) acc)/\N (l.foldl (λa (i:Nat)=>iG rk a (2 ^ i,0)) acc)<=N acc+N l
 |[],acc=>Qa
 |i::l,acc=>by have h1:=Tt rk acc (2 ^ i,0);have h2:=yF rk l (iG rk acc (2 ^ i,0));grind
theorem yG(rk:Nat->Int)(ts:Qy af)(q:ae)(room:Nat)(h1:1<=N q.src.xs)(h5:N q.src.xs<=5)(h8:N q.wh<=8)(hr:1<=room):Bp q (ed rk ts q room):=by
 have d:=RV ts q h1;have g:=yF rk (List.range (N q.src.xs)) [];rw[ZI]at g;refine⟨⟨by unfold ed;simp,λs m=>?_,λt f=>?_,d.1,?_⟩,λ_=>?_,?_⟩
 .have j:s<2 ^ (N q.src.xs)-1:=by unfold ed at m;simp_all
  have e:(ed rk ts q room).groups.getD s []=dz ((dO ts q s).take room):=by unfold ed;simp_all
  rw[e];obtain⟨⟨r,k⟩,v⟩:=Bu ts q s h8;refine⟨λp d x b=>?_,?_,?_⟩
  .rw[NU d]at b
   cases b
  .rw[k];obtain⟨n,rfl⟩:∃n,room=n+1:=⟨room-1,X⟩
   exact⟨Qs,dz (r.take n),rfl,λx b=>by cases b⟩
  .unfold dz
   grind
 .exact Kb (rk:=rk) (Q:=lq (N q.src.xs) (ed rk ts q room).groups) (List.range (N q.src.xs)) [] (λt f=>by cases f) (λi u=>.inl ⟨rfl,i,List.mem_range.1 u,rfl⟩) t f
 .show (fq ts q).ns.length<=800
  omega
 .show 0<N ((List.range (N q.src.xs)).foldl (λa (i:Nat)=>iG rk a (2 ^ i,0)) [])
  obtain⟨n,l⟩:∃n,N q.src.xs=n+1:=⟨N q.src.xs-1,X⟩;rw[l,List.range_succ_eq_map,Zw];exact Zy (Yi rk _) (yF rk _ _).1
 .show (N ((List.range (N q.src.xs)).foldl (λa (i:Nat)=>iG rk a (2 ^ i,0)) []))<=64*(0+1)
  grind
theorem bE.aV{w w':U}{ao:PN}{cs:Qy aA}{s:Qz}(h:bE w ao cs)(hk:Kept s w w')(hs:0<N cs->∀a,ao=O a->s a.block):bE w' ao cs:=⟨h.1,λi f=>by
 obtain⟨b,d,e,j,k,l,m,n⟩:=h.2 i f;have g:s b:=hs X (aD b d) e;have key:∀{o:Nat} {v:Qm},Qp w (aD b o)=O v->Qp w' (aD b o)=O v:=λ{o v} hc=>by grind [World.cell?,Kept.block]
 grind⟩
structure R3(e:TypeId)(w:U)(wh:Qy aG)(k:Nat)(v:Qm)(ls:Qy aG)(x:U):Prop where
 own:x.ownsRow (M (H w)) e 1 v (N ls) (ls.map aG.val)
 len:N ls=N wh
 cs:∀i,i<N ls->(E ls i lz).cs=(E wh i lz).cs/\bE x (E ls i lz).ad (E ls i lz).cs
 new:∀i,i<k->i<N ls->∀a,(E ls i lz).ad=O a->M (H w)<=a.block
 old:∀i,k<=i->i<N ls->E ls i lz=E wh i lz
 off:∀i,i<N ls->0<(E ls i lz).cs.length->∀a,(E ls i lz).ad=O a->v.ownBlock≠O a.block
 below:Bw w x
theorem R3.start(h:fC w ao wh)(ho:x.ownsRow (M (H w)) e 1 v (N wh) (wh.map aG.val))(hb:Bw w x):R3 e w wh 0 v wh x:=
 ⟨ho,rfl,λi d=>⟨rfl,(h.2.2 i d).below hb⟩,λi d=>absurd d (Nat.not_lt_zero _),λi _ _=>rfl,λi d k a l m=>by
  obtain⟨b,g,f,j,_⟩:=(h.2.2 i d).2 0 k;rw[l]at f;injection f with f;have n:b<M (H w):=ZW j;have p:=(Xg ho m).1;grind,hb⟩
def R3.step{k:Nat}{ls:Qy aG}(h:R3 e w wh k v ls x)(hb:Bw x y):R3 e w wh k v ls y:=
 ⟨XM h.own hb,h.len,λi a=>⟨(h.cs i a).1,(h.cs i a).2.below hb⟩,h.new,h.old,h.off,h.below.trans (hb.mono h.below.size)⟩
theorem sD(ls:Qy aG)(k i:Nat)(u:aG)(hk:k<N ls):E (ls.set k u) i lz=if i=k then u else E ls i lz:=by grind
theorem R3.next{k:Nat}{ls:Qy aG}(h:R3 e w wh k v ls x)(hk:k<N ls)(hb:Bw x y){ad:PN}{cap:Nat}(hc:bE y ad (E wh k lz).cs)(hn:∀a,ad=O a->M (H x)<=a.block) :
  ∃g p,v=Z (O (aD g 0)) (N ls) p/\R3 e w wh (k+1) v (ls.set k ⟨ad,cap,(E wh k lz).cs⟩) (Qo y (aD g k) (Z ad (E wh k lz).cs.length cap)):=by
 have q:=h.step hb;rcases h.own.2 with⟨_,h1⟩|⟨g,p,cur,hv,hbg,hh,hcp,hm,hs,ht⟩
 .omega
 refine⟨g,p,hv,?_⟩;have j:v.ownBlock=O g:=by rw[hv];rfl
 have u:=(Xg h.own j).2;have l:Kept (λb=>b≠g) y (Qo y (aD g k) (Z ad (E wh k lz).cs.length cap)):=Xd _ _ _ (λh=>h rfl);have d:N (ls.set k ⟨ad,cap,(E wh k lz).cs⟩)=N ls:=Jh ..;refine⟨?_,d.trans h.len,λi f=>?_,λi f n=>?_,λi f n=>?_,λi f=>?_,h.below.trans ((hb.mono h.below.size).trans (l.below (ZN h.below.size hb.size) λb hb=>X))⟩
 .have r:=fF j [Z ad (E wh k lz).cs.length cap] k q.own Qj;have m:(ls.map aG.val).take k++[Z ad (E wh k lz).cs.length cap]++(ls.map aG.val).drop (k+[Value.slice ad (E wh k lz).cs.length cap].length)=(ls.set k ⟨ad,cap,(E wh k lz).cs⟩).map aG.val:=by rw[List.map_set,List.set_eq_take_append_cons_drop,Zb Qf];simp[aG.val]
  rw[m]at r;rw[d];exact r
 .rw[d]at f;rw[sD ls k i _ hk];split
  .rename_i m
   subst m;refine⟨rfl,bE.aV hc l λ_ a t=>?_⟩;grind
  .refine⟨(h.cs i f).1,bE.aV (q.cs i f).2 l λz a t m=>h.off i f z a t (by rw[j,m])⟩
 .rw[d]at n;rw[sD ls k i _ hk];split
  .grind
  .exact h.new i X n
 .rw[d]at n;rw[sD ls k i _ hk,Zg X]
  grind [R3.old]
 .rw[d]at f;rw[sD ls k i _ hk];split
  .grind
  grind [R3.off]
def World.JG(W:U)(B:Nat)(v0 v1 v2 v3 v4 v5 v6:Qm):World:=(Qo (Qo (Qo (Qo (Qo (Qo (Qo W (aD B 0) v0) (aD B 1) v1) (aD B 2) v2) (aD B 3) v3) (aD B 4) v4) (aD B 5) v5) (aD B 6) v6)
def World.aby{t:TypeId}{a0 a1 a2 a3 a4 a5 a6:Qm}(h:GB W B t #[a0,a1,a2,a3,a4,a5,a6])(v0 v1 v2 v3 v4 v5 v6:Qm):GB (World.JG W B v0 v1 v2 v3 v4 v5 v6) B t #[v0,v1,v2,v3,v4,v5,v6]:=by unfold World.JG;have a:GB (Qo W (aD B 0) v0) B t #[v0,a1,a2,a3,a4,a5,a6]:=h.set 0 v0;have b:GB (Qo (Qo W (aD B 0) v0) (aD B 1) v1) B t #[v0,v1,a2,a3,a4,a5,a6]:=a.set 1 v1;have d:GB (Qo (Qo (Qo W (aD B 0) v0) (aD B 1) v1) (aD B 2) v2) B t #[v0,v1,v2,a3,a4,a5,a6]:=b.set 2 v2;have e:GB (Qo (Qo (Qo (Qo W (aD B 0) v0) (aD B 1) v1) (aD B 2) v2) (aD B 3) v3) B t #[v0,v1,v2,v3,a4,a5,a6]:=d.set 3 v3;have f:GB (Qo (Qo (Qo (Qo (Qo W (aD B 0) v0) (aD B 1) v1) (aD B 2) v2) (aD B 3) v3) (aD B 4) v4) B t #[v0,v1,v2,v3,v4,a5,a6]:=e.set 4 v4;have g:GB (Qo (Qo (Qo (Qo (Qo (Qo W (aD B 0) v0) (aD B 1) v1) (aD B 2) v2) (aD B 3) v3) (aD B 4) v4) (aD B 5) v5) B t #[v0,v1,v2,v3,v4,v5,a6]:=f.set 5 v5;have i:GB (Qo (Qo (Qo (Qo (Qo (Qo (Qo W (aD B 0) v0) (aD B 1) v1) (aD B 2) v2) (aD B 3) v3) (aD B 4) v4) (aD B 5) v5) (aD B 6) v6) B t #[v0,v1,v2,v3,v4,v5,v6]:=g.set 6 v6;exact i
def World.Sg(W:U)(B:Nat)(v0 v1 v2 v3 v4 v5 v6:Qm):Kept (λx=>x≠B) W (World.JG W B v0 v1 v2 v3 v4 v5 v6):=by unfold World.JG;exact(((((((Xd _ (aD B 0) _ (λh=>h rfl)).trans (Xd _ (aD B 1) _ (λh=>h rfl))).trans (Xd _ (aD B 2) _ (λh=>h rfl))).trans (Xd _ (aD B 3) _ (λh=>h rfl))).trans (Xd _ (aD B 4) _ (λh=>h rfl))).trans (Xd _ (aD B 5) _ (λh=>h rfl))).trans (Xd _ (aD B 6) _ (λh=>h rfl)))
structure ae.New(q:ae)(n:Nat):Prop where
 src:∀a,q.src.ad=O a->n<=a.block
 wh:∀a,q.cK=O a->n<=a.block
 cl:∀i,i<N q.wh->∀a,(E q.wh i lz).ad=O a->n<=a.block
 keys:∀a,q.keys.ad=O a->n<=a.block
 sums:∀a,q.sums.ad=O a->n<=a.block
 aU:∀a,q.aU.ad=O a->n<=a.block
 ord:∀a,q.ord.ad=O a->n<=a.block
structure aX(q p:ae):Prop where
 src:p.src.xs=q.src.xs
 len:N p.wh=N q.wh
 cs:∀i,i<N p.wh->(E p.wh i lz).cs=(E q.wh i lz).cs
 group:p.group=q.group
 keys:p.keys.xs=q.keys.xs
 sums:p.sums.xs=q.sums.xs
 aU:p.aU.xs=q.aU.xs
 ord:p.ord.xs=q.ord.xs
structure We(q:ae):Prop where
 src:(q.src.ad=Qs->q.src.cap=0)/\N q.src.xs<=1000
 wh:(q.cK=Qs->q.aM=0)/\N q.wh<=100
 cl:∀i,i<N q.wh->((E q.wh i lz).ad=Qs->(E q.wh i lz).cap=0)/\(E q.wh i lz).cs.length<=100
 keys:(q.keys.ad=Qs->q.keys.cap=0)/\N q.keys.xs<=1000
 sums:(q.sums.ad=Qs->q.sums.cap=0)/\N q.sums.xs<=1000
 aU:(q.aU.ad=Qs->q.aU.cap=0)/\N q.aU.xs<=1000
 ord:(q.ord.ad=Qs->q.ord.cap=0)/\N q.ord.xs<=1000
structure Wh(q:ae):Prop where
 src:q.src.ad=Qs->q.src.cap=0
 keys:q.keys.ad=Qs->q.keys.cap=0
 sums:q.sums.ad=Qs->q.sums.cap=0
 aU:q.aU.ad=Qs->q.aU.cap=0
 ord:q.ord.ad=Qs->q.ord.cap=0
def Si{v0 v1 v2 v3 v4 v5 v6:Qm}(h:GB W B 26 #[v0,v1,v2,v3,v4,v5,v6]):(loadVar 26 (aD B 0)).run V W=.ok (Qu #[v0,v1,v2,v3,v4,v5,v6]) W:=by obtain⟨a,b,d,e,f,g,i⟩:=h.k7;simp[go_sem,a,b,d,e,f,g,i]
theorem Nk(q:ae)(w:U)(hq:q.At w)(ht:We q) :
  Calls V 26 #[Qu q.cells] w λe w'=>∃p:ae,e=Qv (Qu p.cells)/\p.At w'/\aX q p/\p.New (M (H w))/\Wh p/\N p.keys.xs<=p.keys.cap/\Bw w w':=by
 have uO:q.cells=#[q.src.val,Z q.cK (N q.wh) q.aM,Qr q.group,q.keys.val,q.sums.val,q.aU.val,q.ord.val]:=rfl;rw[uO];clear uO;obtain⟨w1,bX,aZ,aK⟩:=bC w #[q.src.val,Z q.cK (N q.wh) q.aM,Qr q.group,q.keys.val,q.sums.val,q.aU.val,q.ord.val] 26;obtain⟨w2,bY,bf,bI⟩:=bC w1 #[Z Qs 0 0,Z Qs 0 0,Qr F,Z Qs 0 0,Z Qs 0 0,Z Qs 0 0,Z Qs 0 0] 26;have yu:=az aZ bf;have aO:=aK.keep (ZP (s:=λb=>b<M (H w1)) bf (λ_ h _=>h)) aK.lt;obtain⟨HQ,HT,bJ,bg,qO⟩:=EI hq ht yu bI aO;have GI:=hq.wh.below yu;have Pg:=yj q.cK q.aM q.wh w2 ⟨GI.1,GI.2.1⟩ ht.wh.1 (Qk ht.wh.2);have Cx:=Zh GI;have c1:=aO.at 1;have MR:Qn (∀(x:U) (i:Nat) (l:aG),i<N q.wh->l=E q.wh i lz->bE x l.ad l.cs->Calls V 40 #[Z l.ad (N l.cs) l.cap] x λe w'=>∃C cap,e=Qv (Z C (N l.cs) cap)/\bE w' C l.cs/\(∀a,C=O a->M (H x)<=a.block)/\Bw x w'):=λx i l L hl hc=>by have aP:=ht.cl i L;rw[<-hl]at aP;refine(Ba l.ad l.cap l.cs x hc aP.1 X).mono ?_;rintro e w' ⟨v,rfl,ho,u⟩;obtain⟨C,cap,rfl,bn,d⟩:=wK ho aP.2;grind
 obtain⟨uN,bZ⟩:=aS (Nat.ne_of_lt aK.lt) aZ.size;have af:Qn (∀(x:U) (y:ah),Bw w x->y.At w->((y.ad=Qs->y.cap=0)/\N y.xs<=1000)->Calls V 41 #[y.val] x λe w'=>∃jv:ah,e=Qv jv.val/\jv.xs=y.xs/\jv.At w'/\(∀a,jv.ad=O a->M (H x)<=a.block)/\(jv.ad=Qs->jv.cap=0)/\N jv.xs<=jv.cap/\Bw x w'):=λx y n L ht=>by refine(nZ y x (Q8 n L) ht.1 X).mono ?_;rintro e w' ⟨v,rfl,ho,u⟩;obtain⟨jv,rfl,h1,h2,h3,h4,h5⟩:=mK ho X;grind
 clear hq ht aZ aK bf bI yu aO GI;go_enter func26,ntmps26;go_wp2_with fail;refine Pg.mono ?_;rintro e w3 ⟨v,rfl,aL,ai⟩;have aQ:=Zh (R3.start Cx.o aL ai);obtain⟨W,vn,vc,rfl⟩:=Xh aL;obtain rfl:vn=N q.wh:=by
  rcases aL.2 with⟨e,h0⟩|⟨g,cap,bK,e,_⟩
  .injection e with e1 e2 e3;omega
  .injection e with e1 e2 e3
 clear Pg c1 bX bY aL ai;have cz:=HT.o.wh.2;go_wp2;go_loopw [11] (λy wr=>∃k:Nat,k<=N q.wh/\y=I J (k:Int)/\Qn (∃ls,R3 70 w2 q.wh k (Z W (N q.wh) vc) ls wr)) (λy _=>N q.wh-(intOf y).toNat)
 case atStart=>exact⟨0,ZB _,rfl,_,aQ.o⟩
 case round=>
  obtain⟨k,hk,rfl,HJ⟩:=hrel;obtain⟨ls,hJ⟩:=HJ.o;by_cases bN:k<N q.wh
  .have aR:k<N ls:=by rw[hJ.len];exact bN
   obtain⟨g,cp,hv,A⟩:∃g cp,(Value.slice W (N q.wh) vc)=Z (O (aD g 0)) (N ls) cp/\Qp wr (aD g k)=O (E ls k lz).val:=by
    rcases XF hJ.own with⟨_,h1⟩|⟨g,cap,e,_,_,hc⟩
    .omega
    grind
   injection hv with hv1 hv2 hv3;subst hv1;have bA:=hJ.old k (Za _) aR;obtain⟨l,hl⟩:=eY (E q.wh k lz);have aj:=(hJ.cs k aR).2;rw[bA,<-hl]at A aj;have ak:=Zh hJ;obtain⟨bK,bL⟩:=lg hJ.own (b:=g) rfl;have vX:Qn (GB wr g 70 bK):=bL;obtain⟨y1,bq⟩:=eX (wr.alloc (Qt #[Z Qs 0 0] 70));have au:GB y1 (M (H wr)) 70 #[Z Qs 0 0]:=by rw[<-bq];exact lT _ _
   have aT:Bw wr y1:=by rw[<-bq];exact cZ _ _
   obtain⟨la,lc,lx⟩:=l;simp only[aG.val]at A aj;have bO:=au.at 0;have bP:=au.frozen 0;obtain⟨y2,bu⟩:=eX (Qo y1 (aD (M (H wr)) 0) (Z la (N lx) lc));have bQ:Qp y2 (aD (M (H wr)) 0)=O (Z la (N lx) lc):=by rw[<-bu];exact(au.set 0 _).cell 0
   have aW:Bw wr y2:=by rw[<-bu];exact aT.trans ((Xd (s:=λb=>b≠M (H wr)) _ _ _ (λh=>h rfl)).below aT.size (λb u=>Nat.ne_of_lt u))
   have O8:=MR.o y2 k ⟨la,lc,lx⟩ bN hl (aj.below aW);change Calls V 40 #[Z la (N lx) lc] y2 (λe w'=>∃C cap,e=Qv (Z C (N lx) cap)/\bE w' C lx/\(∀a,C=O a->M (H y2)<=a.block)/\Bw y2 w') at O8;obtain⟨bz,HL⟩:=aS aW hl;clear hJ HJ bL aj aT aW au bA hl hv2 hv3 aQ;go_wp2_with fail;refine O8.mono ?_;rintro e y3 ⟨C,cap,rfl,bn,d,ai⟩;have av:=bz.o.trans (ai.mono bz.o.size);have P:lx=(E q.wh k lz).cs:=by rw[<-HL.o]
   have qD:Qn (R3 70 w2 q.wh (k+1) (Z (O (aD g 0)) (N q.wh) vc) (ls.set k ⟨C,cap,(E q.wh k lz).cs⟩) (Qo y3 (aD g k) (Z C (N lx) cap))):=by obtain⟨g',dm,e,h⟩:=ak.o.next aR av (cap:=cap) (by rw[<-P];exact bn) (λa t=>ZN bz.o.size (d a t));injection e with e1;injection e1 with e1;injection e1 with e1;rw[<-P,<-e1]at h;rw[<-P];exact h
   have Wi:=cB av A;have cO:=(vX.o.keep (ZP (s:=λb=>b<M (H wr)) av (λ_ h _=>h)) vX.o.lt).frozen k;clear O8 bq bu A bO bP bQ bn d ai av P;go_wp2;go_roundw
   case rel=>exact⟨k+1,X,Qe,_,qD.o⟩
   case measure=>exact XK
  .have bB:k=N q.wh:=X
   have D:=qO.o.keep (ZP (s:=λb=>b<M (H w2)) hJ.below (λ_ h _=>h)) qO.o.lt;have bD:=bg.o.keep (ZP (s:=λb=>b<M (H w2)) hJ.below (λ_ h _=>h)) bg.o.lt;have d0:=D.at 0;have d2:=D.at 2;have d3:=D.at 3;have d4:=D.at 4;have d5:=D.at 5;have d6:=D.at 6;have Q:=uN.o;obtain⟨ak,bM,si,jE⟩:=sU hJ bB bD (az bJ.o hJ.below);clear hJ HJ D bD bB aQ;go_wp2_with fail;refine Zo (S:=λx=>Kept (λb=>b≠M (H w1)) wr x) Qd (ZP ((Q9 _ _).drew) (λ_ h _=>h)) (λz=>?_);refine wt 0 (Y (O (aD (M (H w)) 0))) z ?_;refine wT 1 (q.src.val) z (λx n=>?_) ?_
   .have e0:=Jl n d0 Q;go_simp
   refine wt 3 (Z W (N q.wh) vc) z ?_;refine wt 4 (Y (O (aD (M (H w)) 2))) z ?_;refine wT 5 (Qr q.group) z (λx n=>?_) ?_
   .have e0:=Jl n d2 Q;go_simp
   refine wt 6 (Y (O (aD (M (H w)) 3))) z ?_;refine wT 7 (q.keys.val) z (λx n=>?_) ?_
   .have e0:=Jl n d3 Q;go_simp
   refine wt 9 (Y (O (aD (M (H w)) 4))) z ?_;refine wT 10 (q.sums.val) z (λx n=>?_) ?_
   .have e0:=Jl n d4 Q;go_simp
   refine wt 12 (Y (O (aD (M (H w)) 5))) z ?_;refine wT 13 (q.aU.val) z (λx n=>?_) ?_
   .have e0:=Jl n d5 Q;go_simp
   refine wt 15 (Y (O (aD (M (H w)) 6))) z ?_;refine wT 16 (q.ord.val) z (λx n=>?_) ?_
   .have e0:=Jl n d6 Q;go_simp
   have bF:Bw wr wr.drew:=(Q9 _ _).drew;refine wR 2 λK B=>?_;go_simp;refine XX (af.o _ q.src (az jE.o bF) HQ.o.src HT.o.src) ?_;rintro e s1 ⟨y,rfl,n,r,d,j,m,u⟩;obtain⟨aa,ac,ax⟩:=y;simp only[ah.val];have FM:=az bF u;clear u;have ay:=Zh (Jm n (Jm r (Jm d (Jm j m))));clear n r d j m;refine B.o _ _ (ZP FM (λ_ h _=>h)) (λz=>?_);clear B K;refine wR 8 λK B=>?_;go_simp;refine XX (af.o _ q.keys (az jE.o FM) HQ.o.keys HT.o.keys) ?_;rintro e s2 ⟨y,rfl,n,r,d,j,m,u⟩;obtain⟨ba,bc,bx⟩:=y;simp only[ah.val];have Nl:=az FM u;have bR:=Zh u;clear u;have ag:=Zh (Jm n (Jm r (Jm d (Jm j m))));clear n r d j m;refine B.o _ _ (ZP Nl (λ_ h _=>h)) (λz=>?_);clear B K;refine wR 11 λK B=>?_;go_simp;refine XX (af.o _ q.sums (az jE.o Nl) HQ.o.sums HT.o.sums) ?_;rintro e s3 ⟨y,rfl,n,r,d,j,m,u⟩;obtain⟨ca,cc,cx⟩:=y;simp only[ah.val];have aA:=az Nl u;have bG:=Zh u;clear u;have aB:=Zh (Jm n (Jm r (Jm d (Jm j m))));clear n r d j m;refine B.o _ _ (ZP aA (λ_ h _=>h)) (λz=>?_);clear B K;refine wR 14 λK B=>?_;go_simp;refine XX (af.o _ q.aU (az jE.o aA) HQ.o.aU HT.o.aU) ?_;rintro e s4 ⟨y,rfl,n,r,d,j,m,u⟩;obtain⟨da,dc,dx⟩:=y;simp only[ah.val];have aC:=az aA u;have aY:=Zh u;clear u;have aF:=Zh (Jm n (Jm r (Jm d (Jm j m))));clear n r d j m;refine B.o _ _ (ZP aC (λ_ h _=>h)) (λz=>?_);clear B K;refine wR 17 λK B=>?_
   go_simp;refine XX (af.o _ q.ord (az jE.o aC) HQ.o.ord HT.o.ord) ?_;rintro e s5 ⟨y,rfl,n,r,d,j,m,u⟩;obtain⟨fa,fc,fx⟩:=y;simp only[ah.val];have Sj:=az aC u;have aH:=Zh u;clear u;have aI:=Zh (Jm n (Jm r (Jm d (Jm j m))));clear n r d j m;refine B.o _ _ (ZP Sj (λ_ h _=>h)) (λz=>?_);clear B K;refine wt 18 (Qu #[Z aa (N ax) ac,Z W (N q.wh) vc,Qr q.group,Z ba (N bx) bc,Z ca (N cx) cc,Z da (N dx) dc,Z fa (N fx) fc]) z ?_;have f:=si.o.keep (ZP (s:=λb=>b<M (H wr)) Sj (λ_ h _=>h)) si.o.lt;have Fs:=Zh (Si (World.aby f (Z aa (N ax) ac) (Z W (N q.wh) vc) (Qr q.group) (Z ba (N bx) bc) (Z ca (N cx) cc) (Z da (N dx) dc) (Z fa (N fx) fc)));have R:=World.Sg s5 (M (H w1)) (Z aa (N ax) ac) (Z W (N q.wh) vc) (Qr q.group) (Z ba (N bx) bc) (Z ca (N cx) cc) (Z da (N dx) dc) (Z fa (N fx) fc);have r0:=f.at 0;have z0:=f.frozen 0;have r1:=f.at 1;have z1:=f.frozen 1;have r2:=f.at 2;have z2:=f.frozen 2;have r3:=f.at 3;have z3:=f.frozen 3;have r4:=f.at 4;have z4:=f.frozen 4;have r5:=f.at 5;have z5:=f.frozen 5;have r6:=f.at 6;have z6:=f.frozen 6;have jK:Qn (∃p:ae,Ending.returned (Qu #[Z aa (N ax) ac,Z W (N q.wh) vc,Qr q.group,Z ba (N bx) bc,Z ca (N cx) cc,Z da (N dx) dc,Z fa (N fx) fc])=Qv (Qu p.cells)/\p.At (World.JG s5 (M (H w1)) (Z aa (N ax) ac) (Z W (N q.wh) vc) (Qr q.group) (Z ba (N bx) bc) (Z ca (N cx) cc) (Z da (N dx) dc) (Z fa (N fx) fc))/\aX q p/\p.New (M (H w))/\Wh p/\N p.keys.xs<=p.keys.cap/\Bw w (World.JG s5 (M (H w1)) (Z aa (N ax) ac) (Z W (N q.wh) vc) (Qr q.group) (Z ba (N bx) bc) (Z ca (N cx) cc) (Z da (N dx) dc) (Z fa (N fx) fc))):=by
    have df:=bg.o.lt;have G:=ak.o.step Sj;have aJ:=G.len;have dh:=ak.o.below.size;have di:=bJ.o.size;generalize hZ:World.JG s5 (M (H w1)) (Z aa (N ax) ac) (Z W (N q.wh) vc) (Qr q.group) (Z ba (N bx) bc) (Z ca (N cx) cc) (Z da (N dx) dc) (Z fa (N fx) fc)=Zq at*;have aN:=Xf G.own R (λg e e2=>by have h1:=(Xg G.own e).1;omega);have P:∀i,i<N ls->bE Zq (E ls i lz).ad (E ls i lz).cs:=λi L=>bE.aV (G.cs i L).2 R λ_ a t e2=>by have h1:=G.new i (by rw[bM.o,<-aJ];exact L) L a t;omega
    obtain⟨dn,dw,e2,cu⟩:=A8 aN (λx n=>by
     obtain⟨i,L,rfl⟩:=List.mem_iff_getElem.1 n;have:=P i L;rw[Je,Xu L]at this;exact this) X
    injection e2 with e21 e22 e23;subst e21;have key:∀{C:PN} {xs:Qx},IntsAt s5 C xs->(∀a,C=O a->M (H wr)<=a.block)->IntsAt Zq C xs:=λ{C xs} h1 h2=>XI h1 R λ_ a t e3=>by have:=h2 a t;omega
    have na:∀a,aa=O a->M (H wr)<=a.block:=λa t=>ZN (Za _) (ay.o.2.2.1 a t);have bS:IntsAt Zq aa ax:=key (Q8 aH.o (Q8 aY.o (Q8 bG.o (Q8 bR.o (ay.o.2.1))))) na;have nb:∀a,ba=O a->M (H wr)<=a.block:=λa t=>ZN FM.size (ag.o.2.2.1 a t);have bT:IntsAt Zq ba bx:=key (Q8 aH.o (Q8 aY.o (Q8 bG.o (ag.o.2.1)))) nb;have nc:∀a,ca=O a->M (H wr)<=a.block:=λa t=>ZN Nl.size (aB.o.2.2.1 a t);have bU:IntsAt Zq ca cx:=key (Q8 aH.o (Q8 aY.o (aB.o.2.1))) nc;have nd:∀a,da=O a->M (H wr)<=a.block:=λa t=>ZN aA.size (aF.o.2.2.1 a t);have bV:IntsAt Zq da dx:=key (Q8 aH.o (aF.o.2.1)) nd;have nf:∀a,fa=O a->M (H wr)<=a.block:=λa t=>ZN aC.size (aI.o.2.2.1 a t);have bW:IntsAt Zq fa fx:=key (aI.o.2.1) nf;refine⟨⟨⟨aa,ac,ax⟩,W,vc,ls,q.group,⟨ba,bc,bx⟩,⟨ca,cc,cx⟩,⟨da,dc,dx⟩,⟨fa,fc,fx⟩⟩,?_,⟨bS,cu,bT,bU,bV,bW⟩,⟨ay.o.1,aJ,λi L=>(G.cs i L).1,rfl,ag.o.1,aB.o.1,aF.o.1,aI.o.1⟩,⟨λa t=>?_,λa t=>?_,λi L a t=>?_,λa t=>?_,λa t=>?_,λa t=>?_,λa t=>?_⟩,⟨ay.o.2.2.2.1,ag.o.2.2.2.1,aB.o.2.2.2.1,aF.o.2.2.2.1,aI.o.2.2.2.1⟩,ag.o.2.2.2.2,jE.o.trans ((Sj.mono jE.o.size).trans (R.below (ZN jE.o.size Sj.size) λb u=>Qk bZ.o))⟩
    .unfold ae.cells;simp only[ah.val];rw[aJ]
    .have:=na a t;omega
    .have h1:=(Xg aN (g:=a.block) (by rw[show W=O a from t];rfl)).1;omega
    .have h1:=G.new i (by rw[bM.o,<-aJ];exact L) L a t;omega
    .have:=nb a t;omega
    .have:=nc a t;omega
    .have:=nd a t;omega
    .have:=nf a t;omega
   have bH:=Zh ((ZP (s:=λb=>b≠M (H w1)) Sj (λ_ h _=>h)).trans R);unfold World.JG at jK Fs bH;clear R f;refine wR 19 λK B=>?_;go_simp;refine B.o _ _ (bH.o) (λz=>?_);clear B K;refine wD ?_;try simp only[pV]
   go_wp2;exact X8 (rZ (p:=2) rfl rfl Fs.o) rfl jK.o
structure gM(Nq:Qz)(W W0:U):Prop where
 size:M (H W0)=M (H W)
 block:∀b,¬Nq b->W0.heap[b]? = W.heap[b]?
 dead:∀b o v,Qp W0 (aD b o)=O v->¬Nq b
def Sk(Nq:Qz)(W:U):∃g,gM Nq W g:=by
 classical
 have a:M (H ({ W with heap:=W.heap.mapIdx λi o=>if Nq i then .deferred Qs else o }:U))=M (H W):=Qa;refine⟨{ W with heap:=W.heap.mapIdx λi o=>if Nq i then .deferred Qs else o },a,λb h=>?_,λb o v d h=>?_⟩
 .simp_all
 .have f:=ZW d;rw[a]at f;have e:({ W with heap:=W.heap.mapIdx λi o=>if Nq i then .deferred Qs else o }:U).heap[b]? = O (.deferred Qs):=by simp_all
  simp[World.cell?,e]at d
theorem gM.cell{Nq:Qz}{W W0:U}(K:gM Nq W W0){b o:Nat}{v:Qm}(h:¬Nq b)(hc:Qp W (aD b o)=O v):Qp W0 (aD b o)=O v:=by grind [World.cell?_of_block,gM.block]
theorem gM.under(K:gM Nq W W0):Under W0 W:=
 ⟨by rw[K.size];omega,λb o v a=>by
  grind [gM.dead,World.cell?_of_block,gM.block]⟩
theorem gM.live(K:gM Nq W W0)(h:Live W0 b):¬Nq b:=by grind [Live,gM.dead]
theorem rF(K:gM Nq W W0)(h:bg W ao n g)(hn:∀a,ao=O a->¬Nq a.block):bg W0 ao n g:=λi f=>by obtain⟨b,d,e,j⟩:=h i f;grind [gM.cell]
theorem ji(K:gM Nq W W0){k:Nat}(hN:∀b,Nq b->b<n∨M (H W')<=b)(hb:Bw W' W)(h:bg W' ao k g)(hn:∀a,ao=O a->n<=a.block):bg W0 ao k g:=λi j=>by obtain⟨b,d,e,f⟩:=h i j;have l:n<=b:=hn _ e;have m:b<M (H W'):=ZW f;exact⟨b,d,e,K.cell (λp=>Qb) (cB hb f)⟩
theorem FO(K:gM Nq W W0)(hN:∀b,Nq b->b<n∨M (H W')<=b)(hb:Bw W' W)(h:aQ W' ao ts)(hn:∀a,ao=O a->n<=a.block):aQ W0 ao ts:=⟨h.1,λi q=>by
 obtain⟨b,f,e,g,j,k,l,m,p⟩:=h.2 i q;have r:n<=b:=hn _ e;have t:b<M (H W'):=ZW g;have d:¬Nq b:=λu=>Qb;exact⟨b,f,e,K.cell d (cB hb g),K.cell d (cB hb j),K.cell d (cB hb k),K.cell d (cB hb l),K.cell d (cB hb m),K.cell d (cB hb p)⟩⟩
theorem zf(K:gM Nq W W0)(hN:∀b,Nq b->b<n∨M (H W')<=b)(hb:Bw W' W)(h:q.At W')(hn:q.New n):q.At W0:=by refine⟨⟨h.src.1,ji K hN hb h.src.2 hn.src⟩,⟨h.wh.1,ji K hN hb h.wh.2.1 hn.wh,λi f=>⟨(h.wh.2.2 i f).1,λj r=>?_⟩⟩,⟨h.keys.1,ji K hN hb h.keys.2 hn.keys⟩,⟨h.sums.1,ji K hN hb h.sums.2 hn.sums⟩,⟨h.aU.1,ji K hN hb h.aU.2 hn.aU⟩,⟨h.ord.1,ji K hN hb h.ord.2 hn.ord⟩⟩;obtain⟨b,d,e,g,k,l,m,p⟩:=(h.wh.2.2 i f).2 j r;have t:n<=b:=hn.cl i f _ e;have u:b<M (H W'):=ZW g;have a:¬Nq b:=λv=>Qb;exact⟨b,d,e,K.cell a (cB hb g),K.cell a (cB hb k),K.cell a (cB hb l),K.cell a (cB hb m),K.cell a (cB hb p)⟩
theorem JH(K:gM Nq W W0)(hN:∀b,Nq b->b<m)(h:f.At ts q W)(hf:f.New m)(hq:q.At W0):f.At ts q W0:=by
 have key:∀{ao:PN},(∀a,ao=O a->m<=a.block)->∀a,ao=O a->¬Nq a.block:=λh a e n=>by grind
 refine⟨hq,⟨h.aL.1,λi l=>?_⟩,⟨h.rows.1,rF K h.rows.2 (key hf.ra)⟩,⟨h.conc.1,rF K h.conc.2 (key hf.na)⟩,⟨h.parts.1,rF K h.parts.2 (key hf.pa)⟩,h.nl,h.pl⟩;obtain⟨b,d,e,j,k⟩:=h.aL.2 i l;have g:¬Nq b:=key hf.ca _ e;exact⟨b,d,e,K.cell g j,K.cell g k⟩
def Env.kill(K:gM Nq W W0)(Ez:Env f ts q W)(h0:¬Nq 0)(hNf:∀b,Nq b->b<m)(hf:f.New m)(hNq:∀b,Nq b->b<n∨M (H W')<=b)(hb:Bw W' W)(hq:q.At W')(hn:q.New n):Env f ts q W0:=
 ⟨Ez.ok,JH K hNf Ez.facts hf (zf K hNq hb hq hn),λj u a=>K.cell h0 (Ez.shapes j u a),Ez.one,Ez.five,Ez.eight,Ez.ord,Ez.few,Ez.keys,Ez.want,Ez.ai8,Ez.dR,Ez.ai9⟩
theorem Fz.kill(K:gM Nq W W0)(hb:Bw W w)(hN:∀b,Nq b->b<M (H w)):Fz (λb=>¬Nq b) W0 w:=
 ⟨⟨by rw[K.size];exact hb.size,λb o v a=>cB hb (K.under.cell b o v a)⟩,λb h=>K.live h,λb h d=>Qb⟩
theorem aX.mf{q p:ae}(h:aX q p):p.mf=q.mf:=by
 unfold ae.mf;apply List.ext_getElem
 .rw[ZH,ZH,h.len]
 .intro i a b;rw[ZH]at a b;have:=h.cs i a
  simp_all
def aX.check{q p:ae}(h:aX q p)(ts:Qy af):p.check ts=q.check ts:=by unfold ae.check;rw[h.src,h.mf,h.group,h.keys,h.sums,h.aU,h.ord]
def Bf{xs:Qx}(h:bP xs (aN ts q.src.xs)=T):gB ts q xs:=λc a=>by unfold bP at h;simp_all
theorem ae1(hc:q.check ts=0)(hf:f.At ts q W)(hs:bM W 0)(hk:N q.keys.xs<=q.keys.cap)(hn:q.keys.ad=Qs->q.keys.cap=0):Env f ts q W:=by
 obtain⟨d,k,i,l,m⟩:=yw hc;have g:bP q.keys.xs (aN ts q.src.xs)=T/\N q.keys.xs<=4:=by
  unfold ae.check checkN at hc;split at hc
  .omega
  .split at hc
   .omega
   .rename_i _ hf
    split at hc
    .rename_i hr
     have a:=hr.2.2.2;unfold tJ at a;simp only[Q6]at a;obtain⟨⟨⟨⟨⟨⟨⟨_,u⟩,_⟩,_⟩,_⟩,_⟩,_⟩,_⟩:=a;unfold l9 at hf;simp_all
    .omega
 refine⟨d.ok,hf,hs,k,d.five,d.eight,i,l,Bf g.1,λr=>?_,g.2,hk,hn⟩;intro c e;unfold gW at e;rw[ZL]at e;obtain⟨p,n,rfl⟩:=e;have b:=i r;unfold bP at b;rw[Q7]at b;have j:=b p n;simp only[Q6,Zf]at j;have t:p.toNat<N q.aU.xs:=X;refine Bf m _ ?_;grind
theorem aX.clause(h:aX q p)(i:Nat):(E p.wh i lz).cs=(E q.wh i lz).cs:=by
 by_cases a:i<N p.wh
 .exact h.cs i a
 .have b:¬i<N q.wh:=by rw[<-h.len];exact a
  simp_all
theorem aX.size(h:aX q p)(ts:Qy af):nI ts p=nI ts q:=by funext s c;unfold nI;simp only[h.src,h.clause]
def aX.key(h:aX q p)(ts:Qy af):iF ts p=iF ts q:=by funext n a b;unfold iF;simp only[h.src,h.clause,h.len]
def aX.part(h:aX q p)(ts:Qy af):lG ts p=lG ts q:=by funext n l r;unfold lG;simp only[h.size ts]
def aX.grow(h:aX q p)(ts:Qy af):au ts p=au ts q:=by funext n bs;unfold au;rw[h.part ts]
def aX.want(h:aX q p):gW p=gW q:=by unfold gW;rw[h.ord,h.aU]
def aX.ends(h:aX q p):gX p=gX q:=by funext k o;unfold gX;rw[h.ord,h.want,h.keys]
def aX.acI(h:aX q p):bY p=bY q:=by funext o;unfold bY;rw[h.group,h.keys]
def aX.Kv(h:aX q p):aI p=aI q:=by unfold aI;rw[h.group,h.keys,h.want]
def aX.ended(h:aX q p)(ts:Qy af):fI ts p=fI ts q:=by funext t;unfold fI;rw[h.grow ts,h.ends,h.acI]
def aX.sorted(h:aX q p)(ts:Qy af):bK ts p=bK ts q:=by funext t o;unfold bK;rw[h.grow ts]
def aX.acJ(h:aX q p)(ts:Qy af):dS ts p=dS ts q:=by funext t;unfold dS;rw[h.ended ts,h.sorted ts,h.Kv]
def aX.bA(h:aX q p)(ts:Qy af):jd ts p=jd ts q:=by funext b t;unfold jd;rw[h.acJ ts]
def aX.Kw(h:aX q p)(ts:Qy af):bJ ts p=bJ ts q:=by funext t c;unfold bJ;rw[h.grow ts]
def aX.acK(h:aX q p)(ts:Qy af):dN ts p=dN ts q:=by funext c s;unfold dN;rw[h.grow ts,h.Kw ts]
def aX.bR{q p:ae}(h:aX q p)(ts:Qy af):Zz.bR ts p=Zz.bR ts q:=by
 funext k
 induction k with
 |zero=>show au ts p _ _=au ts q _ _;rw[h.grow ts]
 |succ k ih=>show au ts p _ [Zz.bR ts p k,au ts p _ _]=au ts q _ [Zz.bR ts q k,au ts q _ _];rw[h.grow ts,ih]
def aX.plain(h:aX q p)(ts:Qy af):fq ts p=fq ts q:=by unfold fq;rw[h.grow ts,h.Kw ts,h.bR ts,h.src,h.group,h.len,h.ord]
def aX.FE(h:aX q p)(ts:Qy af):dW ts p=dW ts q:=by funext g o;unfold dW;rw[h.sorted ts]
def aX.acL(h:aX q p)(ts:Qy af):bz ts p=bz ts q:=by funext g l;unfold bz;rw[h.FE ts]
def aX.fP{q p:ae}(h:aX q p)(ts:Qy af):Zz.fP ts p=Zz.fP ts q:=by funext l r g cl acc key;unfold Zz.fP;rw[h.grow ts,h.key ts]
def aX.joined(h:aX q p)(ts:Qy af):dJ ts p=dJ ts q:=by funext c l g;unfold dJ;rw[h.grow ts,h.fP ts]
def aX.joins(h:aX q p)(ts:Qy af):jr ts p=jr ts q:=by funext c a b;unfold jr;rw[h.joined ts]
def aX.keep{q p:ae}(h:aX q p)(rk:Nat->Int)(ts:Qy af):eP rk ts p=eP rk ts q:=by funext s l σ;unfold eP;rw[h.src,h.bA ts,h.acL ts]
def aX.sH{q p:ae}(h:aX q p)(rk:Nat->Int)(ts:Qy af):Zz.sH rk ts p=Zz.sH rk ts q:=by funext c t σ;unfold Zz.sH;rw[h.keep rk ts,h.acK ts,h.joins ts]
def aX.iy{q p:ae}(h:aX q p)(rk:Nat->Int)(ts:Qy af):Zz.iy rk ts p=Zz.iy rk ts q:=by funext c k σ;unfold Zz.iy;rw[h.sH rk ts]
def aX.runN{q p:ae}(h:aX q p)(rk:Nat->Int)(ts:Qy af):Zz.runN rk ts p=Zz.runN rk ts q:=by
 funext c ps n
 induction n with
 |zero=>rfl
 |succ n ih =>
  funext k σ;show (if σ.status=1 then Zz.runN rk ts p c ps n (k+1) (Zz.iy rk ts p c (je ps k) σ) else σ)=(if σ.status=1 then Zz.runN rk ts q c ps n (k+1) (Zz.iy rk ts q c (je ps k) σ) else σ);rw[ih,h.iy rk ts]
def aX.goT{q p:ae}(h:aX q p)(rk:Nat->Int)(ts:Qy af):Zz.goT rk ts p=Zz.goT rk ts q:=by funext c ps n t σ;unfold Zz.goT;rw[h.runN rk ts]
def aX.conc(h:aX q p)(ts:Qy af):aB ts p=aB ts q:=by
 have e:∀r:ae,aB ts r=r.mf.map λc=>bD (dn ts r.src.xs c):=λr=>by unfold aB ae.mf;simp_all
 rw[e p,e q,h.mf,h.src]
def zV(ts:Qy af)(q:ae)(s:Nat)(acc:Qy (Qx))(c:Qy aA):Qy (Qx):=
 if ((bF c).2.2 && !aT s (bD (dZ ts q [(bF c).1,(bF c).2.1])))=T then df ts q s (df ts q s acc (bF c).1) (bF c).2.1 else acc
def aX.dZ{q p:ae}(h:aX q p)(ts:Qy af):Zz.dZ ts p=Zz.dZ ts q:=by funext xs;unfold Zz.dZ;rw[h.src]
def aX.df{q p:ae}(h:aX q p)(ts:Qy af):Zz.df ts p=Zz.df ts q:=by funext s acc c;unfold Zz.df;rw[h.dZ ts]
def aX.ag4(h:aX q p)(ts:Qy af):dO ts p=dO ts q:=by
 funext s;have e:∀(r:ae) (i:Qy (Qx)),r.wh.foldl (gP ts r s) i=r.mf.foldl (zV ts r s) i:=λr i=>by unfold ae.mf;rw[List.foldl_map];rfl
 have a:zV ts p s=zV ts q s:=by funext acc c;unfold zV;rw[h.dZ ts,h.df ts]
 unfold dO;rw[e p,e q,h.mf,a,h.dZ ts,h.Kv]
def aX.ed{q p:ae}(h:aX q p)(rk:Nat->Int)(ts:Qy af)(room:Nat):Zz.ed rk ts p room=Zz.ed rk ts q room:=by unfold Zz.ed;rw[h.src,h.ag4 ts,h.plain ts]
