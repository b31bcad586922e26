import Derived.Test.YtpcfbajdeipgbaaGreatDoorX08
import Derived.Test.YtpcfbajdeipgbaaGreatDoorX09
import Derived.Test.YtpcfbajdeipgbaaGreatDoorX10
import Derived.Test.YtpcfbajdeipgbaaGreatDoorX12
import Derived.Test.YtpcfbajdeipgbaaGreatDoorX16
import Derived.Test.YtpcfbajdeipgbaaGreatDoorX19
set_option linter.all false
set_option maxRecDepth 100000
set_option maxHeartbeats 0
namespace Go.Proofs.Zz
open Go.RowKit Go.Shelf
open List renaming length->N,getD->E
open Go.Value renaming slice->Z,int->I,pointer->Y,bool->EP,agg->FN,tuple->Ph
open Go.Proofs.Tryz renaming prog->V
open Option renaming some->O,none->E5
open Go.IntKind renaming i64->J,u64->Dc
open Bool renaming false->F,true->T
open Go renaming World->U,Value->KX
open Go.World renaming heap->H,setCell->qw,cell?->Am
open _root_.Array renaming size->M
open Go.RowKit renaming Hid->Wl
open Go.Obj renaming cells->FL
open Go.Ending renaming returned->FR
variable {α:Type} {t tE tI ty:TypeId} {W w w0:U} {B b base cap f g i j k n pcap:Nat} {ps:List aK} {p:aK} {ts:List ag} {q:af} {pl:List ai} {fn:Func} {s u:Tmp} {v:KX} {kc sc src:List Int} {ys:List ae} {xs:List KX} {db:List aJ} {ao po:Option Addr}
def OY(ao:Option Addr)(cap:Nat)(ts:List ag)(q:af)(w:U)(hx:aN w ao ts)(hq:q.At w) :
  Cb 35 #[Z ao (N ts) cap,FN q.cells] w (I J (q.check ts)):=by
 cases hc:dL ts
 .exact ady ao cap ts q w hx hc
 .by_cases a:5<N q.src.xs∨8<N q.wh∨8<N q.aH.xs∨4<N q.keys.xs∨4<N q.sums.xs∨4<N q.ord.xs
  .exact adz ao cap ts q w hx hq hc a
  .cases hw:mM q.wh (N q.wh)
   .exact ahC ao cap ts q w hx hq hc a hw
   .exact adA ao cap ts q w hx hq hc a hw
def Ov{q:af}{ts:List ag}(h:dL ts=F):(1:Int)=q.check ts:=af.K5 h
def IG{q:af}{ts:List ag}(hc:dL ts=T)(hf:jB q.src.xs q.qX q.keys.xs q.sums.xs q.aH.xs q.ord.xs=F) :
  q.check ts=if Eb ts q.src.xs q.qX q.group q.keys.xs q.sums.xs q.aH.xs q.ord.xs then 0 else 3:=Tg hc hf
def Ww(ao:Option Addr)(cap:Nat)(ts:List ag)(q:af)(w:U)(hx:aN w ao ts)(hq:q.At w)(hkc:N q.keys.xs<=q.keys.cap)(hoc:N q.ord.xs<=q.ord.cap) :
  Cb 29 #[Z ao (N ts) cap,FN q.cells] w (I J (q.check ts)):=by
 have j:=λx (h:Bw w x)=>IC ao cap ts x (hx.below h);have d:=λx (h:Bw w x)=>Wu q x (hq.wh.below h);have f:=λ(D:dL ts=T) (G:jB q.src.xs q.qX q.keys.xs q.sums.xs q.aH.xs q.ord.xs=F) x (h:Bw w x)=>Ti ao cap ts q x (hx.below h) (hq.below h) D G hkc hoc;have n:=@Ov q ts;have p:=@af.Aw q ts;have r:=@IG q ts;generalize q.check ts=R at*;generalize jB q.src.xs q.qX q.keys.xs q.sums.xs q.aH.xs q.ord.xs=FB at*;generalize Eb ts q.src.xs q.qX q.group q.keys.xs q.sums.xs q.aH.xs q.ord.xs=QB at*;generalize dL ts=CB at*;obtain⟨src,K,L,P,u,v,y,Q,B⟩:=q;clear hx hq hkc hoc;unfold af.cells ae.val at*;simp only at*;cases CB
 .have k:=Zh (n rfl);clear d f n p r;go_enter Tryz.func29,Tryz.ntmps29;go_wp2_with fail;refine(j _ (bJ _ _)).mono ?_;clear j;rintro e t ⟨rfl,a⟩;go_wp2;go_ret;exact⟨Qe k.o,aj (bJ _ _) a⟩
 .cases FB
  .have l:=Zh (f rfl rfl);clear f;have k:=Zh (r rfl rfl);clear n p r;go_enter Tryz.func29,Tryz.ntmps29;go_wp2_with fail;refine(j _ (bJ _ _)).mono ?_;clear j;rintro e t ⟨rfl,a⟩;have z:M (H w)<M (H t):=by have:=a.size;simp at this;omega
   have b:=wZ a;simp at b;have k2:=aj (bJ _ _) a;go_wp2_with fail;refine(d _ k2).mono ?_;clear d;rintro e C ⟨rfl,g⟩;have A:=wZ g;have k3:=aj k2 g;go_wp2_with fail;refine(l.o _ k3).mono ?_;clear l;rintro e S ⟨rfl,m⟩;cases QB
   .have i:Wl ((3:Int)=R):=k.o.symm;go_wp2;go_ret;exact⟨Qe i.o,aj k3 m⟩
   .have i:Wl ((0:Int)=R):=k.o.symm;go_wp2;go_ret;exact⟨Qe i.o,aj k3 m⟩
  .have k:=Zh (p rfl rfl);clear f n p r;go_enter Tryz.func29,Tryz.ntmps29;go_wp2_with fail;refine(j _ (bJ _ _)).mono ?_;clear j;rintro e t ⟨rfl,a⟩;have z:M (H w)<M (H t):=by have:=a.size;simp at this;omega
   have b:=wZ a;simp at b;have k2:=aj (bJ _ _) a;go_wp2_with fail;refine(d _ k2).mono ?_;clear d;rintro e C ⟨rfl,g⟩;go_wp2;go_ret;exact⟨Qe k.o,aj k2 g⟩
section
def IX{pre l:List α}{x:α}(h:pre++[x] <+: l):x∈l:=h.subset (by simp)
structure KF(w2:U)(t:TypeId)(X:Nat)(o1:Nat->Prop)(W:U):Prop where
 g:GB W (M (H w2)) t #[I Dc (X:Int)]
 below:Bw w2 W
 iff:∀b,o1 b↔b=M (H w2)
def KF.keep{w2:U}{t:TypeId}{X:Nat}{o1:Nat->Prop}{A B:U}{n:Nat}(h:KF w2 t X o1 A)(hn:M (H w2)<=n)(hk:Kept (λb=>o1 b∨b<n) A B):KF w2 t X o1 B:=
 ⟨h.g.keep hk (.inl ((h.iff _).2 rfl)),h.below.trans (hk.below h.below.size (λb a=>.inr (by omega))),h.iff⟩
theorem KF.step{w2:U}{X Yq:Nat}{o1:Nat->Prop}(h:KF w2 t X o1 W):KF w2 t Yq o1 (qw W.drew (aD (M (H w2)) 0) (I Dc (Yq:Int)))/\Kept (λb=>¬o1 b) W (qw W.drew (aD (M (H w2)) 0) (I Dc (Yq:Int))):=by have d:Kept (λb=>b≠M (H w2)) W (qw W.drew (aD (M (H w2)) 0) (I Dc (Yq:Int))):=(ZA ((Qr (M (H W)) W).drew) (λb a _=>a)).trans (Xc _ _ _ (λh=>h rfl));exact⟨⟨(h.g.keep (ZA (s:=λ_=>True) ((Qr (M (H W)) W).drew) (λb a _=>a)) trivial).set 0 _,h.below.trans (d.below h.below.size (λb a=>Nat.ne_of_lt a)),h.iff⟩,d.mono λb _ a e=>a ((h.iff b).2 e)⟩
attribute [local go_sem] Oper.semAt_some
def Ty(f:bq)(ts:List ag)(q:af)(p:aK)(ao:Option Addr)(pl cap:Nat)(w:U)(ok:Ok ts q)(hf:f.At ts q w)(hs:p.sources<2 ^ (N q.src.xs))(hc:p.clauses<2 ^ (N q.wh))(hk:il p.kind=F) :
  Cb 108 #[FN (f.cells ts q),FN p.cells,Z ao pl cap] w (I Dc ((mP ts q p.sources p.clauses:Nat):Int)):=by
 have aW:p.sources<18446744073709551616:=Q0 hs (Q3 (n:=2) (by omega) ok.small);have aY:p.clauses<18446744073709551616:=Q0 hc (Q3 (n:=2) (by omega) ok.qX);have N9:Wl (∀x∈di p.sources,x<N q.src.xs):=λx v=>MF hs v;have bN:Wl (∀x∈di p.clauses,x<N q.wh):=λx v=>MF hc v;obtain⟨cz,bz⟩:=aV (IW p.sources aW) (IW p.clauses aY);have HR:Wl _:=hf.rows;have HP:Wl _:=hf.parts;obtain⟨PW,Bt⟩:=aV (abw ts q) (Lv ts q);have bO:Wl (∀x,x<N q.src.xs->E (ES ts q) x 0<=aU):=λx v=>by rw[Lx ts q v];obtain⟨h0,h1⟩:=yl ok.src (k:=x) v;have ht:=yh ok.cat (i:=(E q.src.xs x 0).toNat) (by omega);unfold dJ at ht;rw[Qz]at ht;unfold iO aU;rw[Xu];omega
 have aZ:Wl (∀x,x<N q.wh->1<=E (zY ts q) x 0/\E (zY ts q) x 0<=1000000):=λx v=>by rw[DJ ts q v];exact Tm ok.cat ok.src (ok.cols x v)
 obtain⟨X,bA,bB,r,bC⟩:∃X:List Nat->Nat,X []=1/\(∀a x,x<N q.src.xs->X (a++[x])=aQ (X a) (E (ES ts q) x 0))/\(∀a,X a<=aU)/\X (di p.sources)=((di p.sources).map λ(k:Nat)=>iO ts q.src.xs (k:Int)).foldl aQ 1:=
  ⟨λa=>(a.map λ(k:Nat)=>iO ts q.src.xs (k:Int)).foldl aQ 1,rfl,λa x v=>by simp only[Ql,Zv];rw[Lx ts q v];rfl,λa=>lH _ 1 (by unfold aU;omega),rfl⟩
 obtain⟨C,ah⟩:=eX (X (di p.sources));obtain⟨t,bD,bE,az,bF⟩:∃t:List Nat->Nat,t []=C/\(∀a x,x<N q.wh->t (a++[x])=t a / E (zY ts q) x 0)/\(∀a,t a<=aU)/\t (di p.clauses)=(di p.clauses).foldl (λx c=>x / dN ts q.src.xs (E q.wh c lz).cs) C:=
  ⟨λa=>a.foldl (λx c=>x / dN ts q.src.xs (E q.wh c lz).cs) C,rfl,λa x v=>by simp only[Zv];rw[DJ ts q v];rfl,λa=>Q6 (yM _ a C) (by rw[<-ah];exact r _),rfl⟩
 obtain⟨R,hR⟩:=eY (mP ts q p.sources p.clauses);have uf:Wl (R=if C=0 then 0 else max (t (di p.clauses)) 1):=by show R=_;rw[hR];unfold mP;rw[<-bC,ah,bF]
 rw[<-hR];clear hR;obtain⟨cK,cO,cZ,Mc,bG,G5,aA⟩:=Dn bA bB r ah bD bE az;clear bA bB r bC ah bD bE az bF;have bf:=λx=>BU p.kind x;rw[hk]at bf;obtain⟨v0,v1,v2,v3,v4,v5,v6,v7,v8,v9,aB,aC,aF,dY,-,-,-,-,-,-,-,-,-,-,bH,-,aG⟩:=Jf f ts q;rw[dY];rw[hf.pl]at aG;rw[ac3];clear hk hs hc aW aY dY ok hf;generalize ES ts q=RL at*;generalize zY ts q=PL at*;generalize di p.sources=SL at*;generalize di p.clauses=CL at*;obtain⟨j,ps,pc,df,aH,aI⟩:=p;simp only at*;generalize df.val=od at*;obtain⟨w1,dL,bI,aJ⟩:=aX w #[v0,v1,v2,v3,v4,v5,v6,v7,v8,v9,aB,aC,aF] 63;obtain⟨w2,dM,aL,aM⟩:=aX w1 #[I J j,I Dc (ps:Int),I Dc (pc:Int),od,I Dc (aH:Int),I Dc (aI:Int)] 120;have ai:=aL;have bg:=aj bI ai;have fG:=aJ.of (ai.block _ aJ.lt);have bY:=fG.at 10;have bZ:=fG.at 12;have jA:=aM;obtain⟨jr,jO,jP⟩:=jA.k3;rw[bH]at bY;rw[aG]at bZ;clear bH aG;obtain⟨w3,dh,aN,bK⟩:=aX w2 #[I Dc 1] 72;have Q:Wl (M (H w3)=M (H w2)+1):=by rw[<-dh];show _=_;simp
 obtain⟨L,F3⟩:=aV bg aN;have Ig:Wl _:=bK;have b1:=cB aN jO;obtain⟨dm,dn,dw⟩:=fe bY bZ jP;clear bI aL aJ aM fG jA bg ai aN bK bY bZ jP jO;refine(ZG (n:=0)).1 (Z0 Tryz.func108 rfl trivial ?_ rfl);simp only[Tryz.ntmps108,ZN,QJ,ZO,Nat.reduceAdd,Nat.reduceSub,ZP,ZQ,ZR,ZT,ZU,ZV];gi_wp2;refine⟨trivial,rfl,ZG.2 ((bf _).mono ?_)⟩;rintro e W ⟨rfl,ak⟩;have ak:=ak.symm;subst ak;gi_wp2;refine MG vw (gf:=151) (s:=I Dc (ps:Int)) rfl (X9 Tryz.func151 (by kernel_rfl) rfl) (cz.o w2) F3.o rfl
  (λa u W=>KF w2 72 (X a) u W) (λb=>b=M (H w2)) ?_ ?_ ⟨by rw[cK.o];exact Ig.o,F3.o,λ_=>ZI⟩
  (λx=>{ tmps:=#[FN #[v0,v1,v2,v3,v4,v5,v6,v7,v8,v9,aB,aC,aF],FN #[I J j,I Dc (ps:Int),I Dc (pc:Int),od,I Dc (aH:Int),I Dc (aI:Int)],Z ao pl cap,Y (O (aD (M (H w)) 0)),Y (O (aD (M (H w1)) 0)),undef,I Dc 0,Y (O (aD (M (H w2)) 0)),I J (x:Int),undef,undef,Y (O (aD (M (H w1)) 0)),I J j,EP F,undef,undef,undef,undef,Y (O (aD (M (H w1)) 1)),I Dc (ps:Int),.func (.func 151) #[I Dc (ps:Int)] #[],I J (x:Int),undef,undef,undef,undef,undef,undef,undef,undef,undef,undef,undef,undef,undef,undef,undef,undef,undef,undef,undef,undef,undef,undef,undef],defers:=[] }) ?assign ?body ?done
 .rintro b rfl;exact⟨Qs _,by have:=Q.o;omega⟩
 .intro a u A B h hk;exact h.keep (by have:=Q.o;omega) hk
 case assign=>
  intro l x W K z;have he:vw.enc x=I J (x:Int):=rfl;gi_wp2;exact z
 case body=>
  intro l a x u W m G v bM dC;have d:=N9.o x (IX (by simpa [vw] using G));have au:=L.o.trans (m.below.mono L.o.size);obtain⟨rb,ro,aO,aP⟩:=iB.get (iB.below au HR.o) (i:=x) (by rw[PW.o];exact d);have bP:=aP x (by rw[PW.o];exact d);have S:=Zh (cO.o a x d);have bn:=bO.o x d;have r:=cZ.o a;have bQ:=m.g.at 0;have bR:=m.g.frozen 0;have av:=cB m.below dm.o;rw[aO]at av;have HI:=Zh m;generalize E RL x 0=rn at*;have hT:=λy=>AY (X a) rn y r bn;rw[<-S.o]at hT;have xD:Wl (∀act,iy vw (λa u W=>KF w2 72 (X a) u W) a x (M (H w3)) u W .normal act (qw W.drew (aD (M (H w2)) 0) (I Dc (X (a++[x]):Int)))):=λ_=>⟨u,HI.o.step.1,HI.o.step.2,λb hb=>.inl hb⟩;generalize X (a++[x])=Xn at*;generalize X a=Xp at*;gi_wp2_with fail;have FT:V.follows .mixedOrders=true:=by kernel_rfl
  refine wpIn_region_any FT (nL (l8 (by kernel_rfl)) _ _ _ _ ?_);change wpAnyIn _ _ _ _ _ _ _ _ _ (World.drew _);refine iT 1 (Y (O (aD (M (H w)) 10))) ?_;refine iT 3 (I J (x:Int)) ?_
  repeat' first
   |refine iJ 0 2 ?_ ?_
   |refine iJ 0 5 ?_ ?_
   |refine iQ 0 ?_
   |refine iQ 2 ?_
   |refine iQ 5 ?_
   |refine iQ 6 ?_
   |refine iQ 7 ?_
   |refine iT 4 (Y (O (aD rb (ro+x)))) ?_
   |refine iD ?_;exact xD.o ⟨#[],[]⟩
   |intro K z;go_simp;refine z _ _ ?_;clear z K
   |intro K z;go_simp;refine⟨trivial,rfl,ZG.2 ((hT _).mono ?_)⟩;rintro e Wt ⟨rfl,rfl⟩;refine z _ _ ?_;clear z K
 case done=>
  rintro ys o' P aR m aL aM hD;have ax:ys=SL:=by simpa [vw] using aR
  subst ax;rw[Mc.o]at m;have bS:=m.g.at 0;have aa:=m.below;obtain⟨dx,D⟩:=aV hD ((ZH.1 hD).1);by_cases h0:C=0
  .have bT:Wl (R=0):=by show R=0;rw[uf.o,Qu h0]
   subst h0;gi_wp2;refine⟨by simp,.inl ⟨_,_,rfl,Z5 hD,?_⟩⟩;refine⟨_,results_tmp rfl _ _ _,by rw[bT.o];rfl,?_⟩;exact L.o.trans (((aa.mono L.o.size)).trans ((ZB (s:=λb=>b<M (H w)) _ _ (by have:=L.o.size;have:=Q.o;omega)).below (Q6 L.o.size aa.size) (λ_ h=>h)))
  .have bU:Wl (R=max (t CL) 1):=by show R=_;rw[uf.o,QC h0]
   have dD:((C:Int)==0)=false:=by rw[XN];omega
   obtain⟨W3,aS⟩:∃x,P.alloc (FL #[I Dc (C:Int)] 72)=x:=⟨_,rfl⟩;have DF:Bw P W3:=by rw[<-aS];exact bJ _ _
   have bV:Wl (GB W3 (M (H P)) 72 #[I Dc (C:Int)]):=by rw[<-aS];exact iX _ _
   have ae:Wl (M (H W3)=M (H P)+1):=by rw[<-aS];show _=_;simp
   have c2:=cB DF (cB aa dw.o);obtain⟨xI,aT⟩:=aV DF aa;gi_wp2;refine MG vw (gf:=151) (s:=I Dc (pc:Int)) rfl (X9 Tryz.func151 (by kernel_rfl) rfl) (bz.o P) xI.o rfl
    (λa u W=>KF P 72 (t a) u W) (λb=>b=M (H P)) ?_ ?_ ⟨by rw[bG.o];exact bV.o,xI.o,λ_=>ZI⟩
    (λx=>{ tmps:=#[FN #[v0,v1,v2,v3,v4,v5,v6,v7,v8,v9,aB,aC,aF],FN #[I J j,I Dc (ps:Int),I Dc (pc:Int),od,I Dc (aH:Int),I Dc (aI:Int)],Z ao pl cap,Y (O (aD (M (H w)) 0)),Y (O (aD (M (H w1)) 0)),undef,I Dc 0,Y (O (aD (M (H w2)) 0)),undef,Y (O (aD (M (H P)) 0)),I J (x:Int),Y (O (aD (M (H w1)) 0)),I J j,EP F,undef,undef,undef,undef,Y (O (aD (M (H w1)) 1)),I Dc (ps:Int),.func (.func 151) #[I Dc (ps:Int)] #[],undef,undef,undef,undef,undef,undef,undef,undef,I Dc (C:Int),EP F,I Dc (C:Int),Y (O (aD (M (H w1)) 2)),I Dc (pc:Int),.func (.func 151) #[I Dc (pc:Int)] #[],I J (x:Int),undef,undef,undef,undef,undef,undef,undef,undef,undef],defers:=[] }) ?aj4 ?asN ?asO
   .rintro b rfl;exact⟨Qs _,by have:=ae.o;omega⟩
   .intro a u A B h hk;exact h.keep (by have:=ae.o;omega) hk
   case aj4=>
    intro l x W K z;have he:vw.enc x=I J (x:Int):=rfl;gi_wp2;exact z
   case asN=>
    intro l a x u W m G v bM dC;have d:=bN.o x (IX (by simpa [vw] using G));have bu:=aT.o.trans (m.below.mono aT.o.size);have au:=L.o.trans (bu.mono L.o.size);obtain⟨rb,ro,aO,aP⟩:=iB.get (iB.below au HP.o) (i:=x) (by rw[Bt.o];exact d);have bP:=aP x (by rw[Bt.o];exact d);have S:=Zh (G5.o a x d);obtain⟨dO,bn⟩:=aZ.o x d;have r:=aA.o a;have bQ:=m.g.at 0;have bR:=m.g.frozen 0;have av:=cB bu dn.o;rw[aO]at av;have HI:=Zh m;generalize E PL x 0=rn at*;have xD:Wl (∀act,iy vw (λa u W=>KF P 72 (t a) u W) a x (M (H W3)) u W .normal act (qw W.drew (aD (M (H P)) 0) (I Dc (t (a++[x]):Int)))):=λ_=>⟨u,HI.o.step.1,HI.o.step.2,λb hb=>.inl hb⟩;have HQ:Wl (t a<=18446744073709551615):=r;generalize t (a++[x])=Xn at*;generalize t a=Xp at*;have dE:((Xp:Int)).tdiv (rn:Int)=(Xn:Int):=by rw[S.o,Int.tdiv_eq_ediv_of_nonneg (by omega),Int.natCast_ediv]
    have dF:IntKind.u64.wrap (Xn:Int)=(Xn:Int):=vV (by have:=HQ.o;rw[S.o];have:=Nat.div_le_self Xp rn;omega);have dG:¬rn=0:=by omega
    gi_wp2_with fail;have FT:V.follows .mixedOrders=true:=by kernel_rfl
    refine wpIn_region_any FT (nL (l8 (by kernel_rfl)) _ _ _ _ ?_);change wpAnyIn _ _ _ _ _ _ _ _ _ (World.drew _);refine iT 1 (Y (O (aD (M (H w)) 12))) ?_;refine iT 3 (I J (x:Int)) ?_
    repeat' first
     |refine iJ 0 2 ?_ ?_
     |refine iJ 0 5 ?_ ?_
     |refine iQ 0 ?_
     |refine iQ 2 ?_
     |refine iQ 5 ?_
     |refine iQ 6 ?_
     |refine iQ 7 ?_
     |refine iT 4 (Y (O (aD rb (ro+x)))) ?_
     |refine iD ?_;exact xD.o ⟨#[],[]⟩
     |intro K z;go_simp;refine z _ _ ?_;clear z K
   case asO=>
    rintro ys o' W4 aR m dz dA dB;have ax:CL=ys:=by symm;simpa [vw] using aR
    subst ax;have bS:=m.g.at 0;have ay:=m.below;have az:=aA.o CL;have bW:Wl _:=bU;generalize t CL=yv at*;obtain⟨rv,bL⟩:=eY (max yv 1);have dH:max (yv:Int) 1=(rv:Int):=by omega
    have dI:max (1:Int) (yv:Int)=(rv:Int):=by omega
    have dK:(if (yv:Int)<1 then 1 else (yv:Int))=(rv:Int):=by split <;> omega
    have bX:Wl (R=rv):=by show R=rv;rw[bL];exact bW.o
    have cu:=(ay.block _ D.o).trans dx.o;clear bL G5 bz HP aZ bG aA dz dA;gi_wp2;refine⟨by simp,.inl ⟨_,_,rfl,Z5 dB,?_⟩⟩;refine⟨by simp,.inl ⟨_,_,rfl,Z5 ((ZC (by have:=D.o;have:=ae.o;omega)).trans cu),?_⟩⟩;refine⟨_,results_tmp rfl _ _ _,by rw[bX.o];rfl,?_⟩;have s0:=L.o.size;have s3:=Q.o;have s4:=ae.o;have s5:=ay.size;have s6:=D.o;refine L.o.trans (((aT.o.mono s0)).trans ((ay.mono (by omega)).trans (((ZB (s:=λb=>b<M (H w)) _ _ (by omega)).below (by omega) (λ_ h=>h)).trans ((ZB (s:=λb=>b<M (H w)) _ _ (by omega)).below (by rw[Xb];omega) (λ_ h=>h)))))
end
def WM(f:bq)(ts:List ag)(q:af)(p:aK)(ao:Option Addr)(cap:Nat)(ps:List aK)(w:U)(hp:bP w ao ps)(h0:0<N ps)(hk:il p.kind=T) :
  Cb 108 #[FN (f.cells ts q),FN p.cells,Z ao (N ps) cap] w (I Dc (((E ps 0 bz).size:Nat):Int)):=by obtain⟨⟨L,po,rfl,t,u,v,y,l,A⟩,-⟩:=hp.2 0 h0;rw[XI,Zp]at l;have b:=λx=>BU p.kind x;rw[hk]at b;generalize f.cells ts q=FC at*;obtain⟨B,C,g,m⟩:=aX w FC 63;obtain⟨P,D,i,j⟩:=aX B p.cells 120;have d:=i;have a:=aj g d;have n:=j;have G:=n.at 0;have K:=cB a l;have r:=Zh a;generalize p.kind=k at*;generalize (E ps 0 bz).size=z at*;generalize p.cells=PC at*;clear hk hp t u v y l A g i m j n a d;go_enter Tryz.func108,Tryz.ntmps108;go_wp2_with fail;refine(b _).mono ?_;rintro e Q ⟨rfl,rfl⟩;go_wp2;go_ret;exact⟨rfl,r.o⟩
def WO(f:bq)(ts:List ag)(q:af)(p:aK)(ao:Option Addr)(cap:Nat)(ps:List aK)(w:U)(ok:Ok ts q)(hf:f.At ts q w)(hp:bP w ao ps)(hs:p.sources<2 ^ (N q.src.xs))(hc:p.clauses<2 ^ (N q.wh))(h0:il p.kind=T->0<N ps) :
  Calls V 108 #[FN (f.cells ts q),FN p.cells,Z ao (N ps) cap] w λe a=>e=FR (I Dc (((if il p.kind=T then (E ps 0 bz).size else mP ts q p.sources p.clauses):Nat):Int))/\Bw w a:=by
 cases hk:il p.kind with
 |true =>
  rw[Qu rfl];exact WM f ts q p ao cap ps w hp (h0 hk) hk
 |false =>
  rw[QC (by simp)];exact Ty f ts q p ao (N ps) cap w ok hf hs hc hk
def IY(n:ai)(w:U)(h:n.kind=1->0<=n.source/\n.source<64) :
  Cb 106 #[FN n.cells] w (I Dc (((if n.kind=1 then 2 ^ n.source.toNat else 0):Nat):Int)):=by
 obtain⟨l,y,d,f⟩:=aX w n.cells 50;have b:=d;have i:=f;have t:=i.at 0;have u:=i.at 3;have j:=Zh b;clear f i d b;generalize n.cells=NC at*;by_cases a:n.kind=1
 .obtain⟨r,z⟩:=h a;obtain⟨s,m⟩:=XD r;rw[Qu a];have p:=LH (M (H l)) s (l.alloc (FL #[I J (s:Int)] 3)) (by simp) (by omega);have q:2 ^ n.source.toNat=2 ^ s:=by rw[m];rfl
  rw[q];obtain⟨R,g⟩:∃R,R=2 ^ s:=⟨_,rfl⟩;rw[<-g]at p ⊢;clear q g;rw[m]at u;rw[a]at t;have v:Wl (Bw w (l.alloc (FL #[I J (s:Int)] 3))):=j.o.trans ((bJ _ _).mono j.o.size);clear h m a r z;go_enter Tryz.func106,Tryz.ntmps106;go_wp2_with fail;refine p.mono ?_;rintro e B ⟨rfl,rfl⟩;go_wp2;go_ret;exact⟨rfl,v.o⟩
 .rw[QC a];have A:(n.kind==1)=false:=by simp[a]
  generalize n.kind=k at*;go_enter Tryz.func106,Tryz.ntmps106;go_wp2;go_ret;exact⟨rfl,j.o⟩
def Tz(a:Nat)(g:Nat->Nat):Nat->Nat
 |0=>a
 |k+1=>Tz a g k|||g k
def IZ{a:Nat}{g:Nat->Nat}{n:Nat}(ha:a<2 ^ n):∀k,(∀i,i<k->g i<2 ^ n)->Tz a g k<2 ^ n
 |0,_=>ha
 |k+1,h=>Nat.or_lt_two_pow (IZ ha k (λi hi=>h i (by omega))) (h k (by omega))
def MH(a:Nat)(g:Nat->Nat)(hk:k<=2)(h:∀i,k<=i->g i=0):Tz a g k=a|||g 0|||g 1:=by
 rcases (by omega:k=0∨k=1∨k=2) with rfl|rfl|rfl
 .rw[h 0 (by omega),h 1 (by omega),Nat.or_zero,Nat.or_zero];rfl
 .rw[h 1 (by omega),Nat.or_zero];rfl
 .rfl
def World.ac5(W:U)(B:Nat)(v0 v1 v2 v3 v4 v5:KX):World:=
 qw (qw (qw (qw (qw (qw W (aD B 0) v0) (aD B 1) v1) (aD B 2) v2) (aD B 3) v3) (aD B 4) v4) (aD B 5) v5
def World.aaj{a0 a1 a2 a3 a4 a5:KX}(h:GB W B t #[a0,a1,a2,a3,a4,a5])(v0 v1 v2 v3 v4 v5:KX):GB (World.ac5 W B v0 v1 v2 v3 v4 v5) B t #[v0,v1,v2,v3,v4,v5]:=
 (((((h.set 0 v0).set 1 v1).set 2 v2).set 3 v3).set 4 v4).set 5 v5
def World.MI(W:U)(B:Nat)(v0 v1 v2 v3 v4 v5:KX):Kept (λx=>x≠B) W (World.ac5 W B v0 v1 v2 v3 v4 v5):=by unfold World.ac5;exact(((((Xc _ (aD B 0) _ (λh=>h rfl)).trans (Xc _ (aD B 1) _ (λh=>h rfl))).trans (Xc _ (aD B 2) _ (λh=>h rfl))).trans (Xc _ (aD B 3) _ (λh=>h rfl))).trans (Xc _ (aD B 4) _ (λh=>h rfl))).trans (Xc _ (aD B 5) _ (λh=>h rfl))
def ag0{v0 v1 v2 v3 v4 v5:KX}(h:GB W B 120 #[v0,v1,v2,v3,v4,v5]):(loadVar 120 (aD B 0)).run V W=.ok (FN #[v0,v1,v2,v3,v4,v5]) W:=by obtain⟨a,b,d,e,f,g⟩:=h.k6;simp[go_sem,a,b,d,e,f,g]
def WQ(f:bq)(ts:List ag)(q:af)(n:ai)(ao:Option Addr)(cap:Nat)(ps:List aK)(w:U)(ok:Ok ts q)(hf:f.At ts q w)(hcl:n.cl.At w)(hco:n.co.At w)(hcap:N n.co.xs<=n.co.cap)(hp:bP w ao ps)(hk1:1<=n.kind)(hk10:n.kind<=10)
  (hl:N ps=arity n.kind) (hsm:bM (N q.wh) n.cl.xs) (zX:n.kind=1->0<=n.source/\n.source<N q.src.xs) (hps:∀i,i<N ps->(E ps i bz).sources<2 ^ (N q.src.xs)/\(E ps i bz).clauses<2 ^ (N q.wh)) :
  Calls V 55 #[FN (f.cells ts q),FN n.cells,Z ao (N ps) cap] w λe w'=>∃p:aK,e=FR (FN p.cells)/\p.d=xQ ts q n (E ps 0 bz).d (E ps 1 bz).d/\p.Ok w'/\p.sources<2 ^ (N q.src.xs)/\p.clauses<2 ^ (N q.wh)/\(p.order=n.co∨p.order=(E ps 0 bz).order∨p.order=⟨E5,0,[]⟩)/\Bw w w':=by
 have dC:arity n.kind<=2:=by unfold arity;split <;> (try split) <;> omega
 have dW:=hp.1;have aL:∀i,N ps<=i->E ps i bz=bz:=λi hi=>by simp[List.getD,hi]
 obtain⟨ow,aG⟩:∃ow,ow=(if n.kind=1 then 2 ^ n.source.toNat else 0):=⟨_,rfl⟩;have ax:=ok.small;have ay:=ok.qX;have bD:ow<2 ^ (N q.src.xs):=by
  rw[aG];split
  .rename_i h
   have:=zX h;exact XB (by omega) (by omega)
  .exact Nat.two_pow_pos _
 obtain⟨sc,aH⟩:=eY (aZ n.cl.xs);have bE:sc<2 ^ (N q.wh):=by rw[aH];exact Na hsm
 obtain⟨v,au⟩:=eY (Tz ow (λi=>(E ps i bz).sources));obtain⟨A,av⟩:=eY (Tz sc (λi=>(E ps i bz).clauses));have Mc:Wl (v 0=ow):=by show _=_;rw[au];rfl
 have bF:Wl (A 0=sc):=by show _=_;rw[av];rfl
 have bG:Wl (∀k,v (k+1)=v k|||(E ps k bz).sources):=λk=>by rw[au];rfl
 have Ib:Wl (∀k,A (k+1)=A k|||(E ps k bz).clauses):=λk=>by rw[av];rfl
 have vH:Wl (∀k,k<=N ps->v k<2 ^ (N q.src.xs)):=λk l=>by rw[au];exact IZ bD k (λi hi=>(hps i (by omega)).1)
 have sO:Wl (∀k,k<=N ps->A k<2 ^ (N q.wh)):=λk l=>by rw[av];exact IZ bE k (λi hi=>(hps i (by omega)).2)
 have X:∀{x m:Nat},m<=64->x<2 ^ m->x<18446744073709551616:=λhm hx=>Q0 hx (Q3 (n:=2) (by omega) hm);have aJ:∀{x:Nat},x<18446744073709551616->x<=aU:=λh=>by unfold aU;omega
 have ET:Wl (v (N ps)=ow|||(E ps 0 bz).sources|||(E ps 1 bz).sources):=by show _=_;rw[au];exact MH _ _ (by omega) (λi hi=>by rw[aL i hi];rfl)
 have bH:Wl (A (N ps)=sc|||(E ps 0 bz).clauses|||(E ps 1 bz).clauses):=by show _=_;rw[av];exact MH _ _ (by omega) (λi hi=>by rw[aL i hi];rfl)
 have bI:Wl (∀(o:List Int) (z:Nat),o=(if n.kind=6 then n.co.xs else if 2<=n.kind/\n.kind<=5 then (E ps 0 bz).order.xs else [])->z=(if il n.kind=T then (E ps 0 bz).size else mP ts q (v (N ps)) (A (N ps)))->
   gz.mk n.kind (v (N ps)) (A (N ps)) o z (oU n.kind z (E ps 0 bz).cost (E ps 0 bz).size (E ps 1 bz).cost (E ps 1 bz).size)=xQ ts q n (E ps 0 bz).d (E ps 1 bz).d):=λo z ho hz=>by unfold xQ;rw[ho,hz,ET.o,bH.o,aG,aH];rfl
 have aM:Wl (∀x,Cb 106 #[FN n.cells] x (I Dc ((ow:Nat):Int))):=λx=>by rw[aG];exact IY n x (λh=>⟨(zX h).1,by have:=(zX h).2;omega⟩)
 have az:Wl (∀x,Bw w x->Ce 107 #[n.cl.val] x (I Dc ((sc:Nat):Int))):=λx hx=>by rw[aH];exact LG n.cl.ad n.cl.cap n.cl.xs x (Qt hx hcl) (λy hy=>⟨(hsm y hy).1,by have:=(hsm y hy).2;omega⟩)
 have aN:Wl (∀(b x y:Nat) (W:U),Am W (aD b 0)=O (I Dc (x:Int))->Am W (aD b 1)=O (I Dc (y:Int))->x<18446744073709551616->y<18446744073709551616->Ce 95 #[Z (O (aD b 0)) 2 2] W (I Dc ((x|||y:Nat):Int))):=λb x y W h0 h1 hx hy=>zi b x y W h0 h1 hx hy;have Gd:Wl (∀(o:ae) (x:U),Bw w x->Calls V 108 #[FN (f.cells ts q),FN #[I J n.kind,I Dc (v (N ps):Int),I Dc (A (N ps):Int),o.val,I Dc 0,I Dc 0],Z ao (N ps) cap] x λe w'=>e=FR (I Dc (((if il n.kind=T then (E ps 0 bz).size else mP ts q (v (N ps)) (A (N ps))):Nat):Int))/\Bw x w'):=λo x hx=>
  WO f ts q ⟨n.kind,v (N ps),A (N ps),o,0,0⟩ ao cap ps x ok (hf.below hx) (hp.below hx) (vH.o _ (Qs _)) (sO.o _ (Qs _)) (λh=>by
   have h2:7<=n.kind:=by unfold il at h;simp at h;omega
   rw[hl];unfold arity;rw[QC (by omega),QC (by omega)];omega)
 obtain⟨Zq,hZ⟩:∃Zq,Zq=(if il n.kind=T then (E ps 0 bz).size else mP ts q (v (N ps)) (A (N ps))):=⟨_,rfl⟩;have aO:Zq<=aU:=by
  rw[hZ];split
  .rename_i h
   have h2:7<=n.kind:=by unfold il at h;simp at h;omega
   exact(hp.2 0 (by rw[hl];unfold arity;rw[QC (by omega),QC (by omega)];omega)).2.size
  .exact agY _ _ _ _
 rw[<-hZ]at Gd;have bK:Wl (∀(o:ae) (x:U),Bw w x->Cb 109 #[FN #[I J n.kind,I Dc (v (N ps):Int),I Dc (A (N ps):Int),o.val,I Dc (Zq:Int),I Dc 0],Z ao (N ps) cap] x (I Dc (oU n.kind Zq (E ps 0 bz).cost (E ps 0 bz).size (E ps 1 bz).cost (E ps 1 bz).size:Nat))):=λo x hx=>
  WG ⟨n.kind,v (N ps),A (N ps),o,Zq,0⟩ ao cap ps x (hp.below hx) aO (λh=>by have h:n.kind≠1:=h;rw[hl];unfold arity;rw[QC h];split <;> omega) (λh3 h5=>by have h3:3<=n.kind:=h3;have h5:n.kind<=5:=h5;rw[hl];unfold arity;rw[QC (by omega),Qu ⟨h3,h5⟩];omega)
 have F8:Wl (∀(o:ae) (W:U),o.At W->N o.xs<=o.cap->o.xs=(if n.kind=6 then n.co.xs else if 2<=n.kind/\n.kind<=5 then (E ps 0 bz).order.xs else [])->(o=n.co∨o=(E ps 0 bz).order∨o=⟨E5,0,[]⟩)->Bw w W->
   ∃p:aK,Ending.returned (FN #[I J n.kind,I Dc (v (N ps):Int),I Dc (A (N ps):Int),o.val,I Dc (Zq:Int),I Dc ((oU n.kind Zq (E ps 0 bz).cost (E ps 0 bz).size (E ps 1 bz).cost (E ps 1 bz).size:Nat):Int)])=FR (FN p.cells)/\p.d=xQ ts q n (E ps 0 bz).d (E ps 1 bz).d/\p.Ok W/\p.sources<2 ^ (N q.src.xs)/\p.clauses<2 ^ (N q.wh)/\(p.order=n.co∨p.order=(E ps 0 bz).order∨p.order=⟨E5,0,[]⟩)/\Bw w W):=λo W ho dP dS dU hb=>
  ⟨⟨n.kind,v (N ps),A (N ps),o,Zq,oU n.kind Zq (E ps 0 bz).cost (E ps 0 bz).size (E ps 1 bz).cost (E ps 1 bz).size⟩,rfl,bI.o o.xs Zq dS hZ,⟨ho,dP,aJ (X ax (vH.o _ (Qs _))),aJ (X ay (sO.o _ (Qs _))),aO,agZ _ _ _ _ _ _⟩,vH.o _ (Qs _),sO.o _ (Qs _),dU,hb⟩
 have bL:Wl (∀k,k<=N ps->v k<18446744073709551616):=λk l=>X ax (vH.o k l);have bN:Wl (∀k,k<=N ps->A k<18446744073709551616):=λk l=>X ay (sO.o k l);have bO:Wl (∀k,k<N ps->(E ps k bz).sources<18446744073709551616/\(E ps k bz).clauses<18446744073709551616):=λk l=>⟨X ax (hps k l).1,X ay (hps k l).2⟩;have bQ:Wl (2<=n.kind/\n.kind<=5->0<N ps):=λh=>by rw[hl];unfold arity;rw[QC (by omega)];split <;> omega
 generalize oU n.kind Zq (E ps 0 bz).cost (E ps 0 bz).size (E ps 1 bz).cost (E ps 1 bz).size=CT at*;have HP:Wl _:=hp;have pE:Wl _:=hco;have bR:=Zh hcap;obtain⟨v0,v1,v2,v3,v4,v5,v6,v7,v8,v9,dE,dF,dG,dY,-⟩:=Jf f ts q;rw[dY]at Gd ⊢;clear bI vH sO ET bH hZ aO X hps zX hsm hl hf hcl hco hcap hp ok aG aH au av bD bE dY aL dC ax ay hk1 hk10;obtain⟨a,nl,nr,src,⟨ca,cc,cl⟩,key,⟨da,dc,co⟩⟩:=n;unfold ai.cells ae.val at*;simp only at*;obtain⟨w1,dH,hk1,aT⟩:=aX w #[v0,v1,v2,v3,v4,v5,v6,v7,v8,v9,dE,dF,dG] 63;obtain⟨w2,dI,aW,aY⟩:=aX w1 #[I J a,I J nl,I J nr,I J src,Z ca (N cl) cc,I J key,Z da (N co) dc] 50;obtain⟨w3,dJ,dh,di⟩:=aX w2 #[I J 0,I Dc 0,I Dc 0,Z E5 0 0,I Dc 0,I Dc 0] 120;have aP:=dh;have ah:=aj aW aP;have bS:=aj hk1 ah;have fG:=aT.of (ah.block _ aT.lt);obtain⟨dM,dX,dQ,dR,eu,eU,eH,gq,gm,gp,bY,dw,bZ⟩:=fG.zR;have jA:=aY.of (aP.block _ aY.lt);obtain⟨jr,jO,jP,kM,jQ,mf,mh⟩:=jA.k7;have bT:=di;have Q:=Zh bS;have EX:Wl _:=bT;have dD:=Zh (Q6 hk1.size aW.size);clear hk1 aW dh aT aY di fG jA bT bS ah aP;go_enter Tryz.func55,Tryz.ntmps55;go_upto_region 1 with fail;go_cut [7] from 10 to 17 (λc wx=>∃B,c=Y (O (aD B 0))/\M (H w3)<=B/\GB wx B 120 #[I J a,I Dc (ow:Int),I Dc (sc:Int),Z E5 0 0,I Dc 0,I Dc 0]/\Bw w3 wx)
 case first=>
  refine wH w3 λg=>?_;refine wA3 0 g ?_;refine wA2 4 g ?_;refine wJ 3 8 (λK j=>?_) λK j=>?_
  .skip;go_simp;refine XO (aM.o _) ?_;rintro e R ⟨rfl,aI⟩;refine oT j g aI λg=>?_
   clear j K;have D:=g;refine wJ 6 8 (λK j=>?_) λK j=>?_
   .skip;go_simp;refine XO (az.o _ (Q.o.trans (g.mono Q.o.size))) ?_;rintro e wz ⟨rfl,u⟩;have u:=u.symm;subst u;refine j.o _ _ g λg=>?_
    clear j K;refine Fz 7 g ?_;refine wR 8 λK j=>?_;go_simp;refine oA j g λg=>?_;clear j K;refine wR 9 λK j=>?_;go_simp;refine j.o _ _ (D.trans ((bJ _ _).mono D.size)) (λg=>?_);clear j K;refine wD ?_;try simp only[pU]
    go_wp2_with fail;go_meet;exact⟨M (H R),rfl,D.size,iX R _,g⟩
   .skip;go_simp;refine oA j g λg=>?_
    clear j K;refine wR 6 λK j=>?_;go_simp;refine XO (az.o _ (Q.o.trans (g.mono Q.o.size))) ?_;rintro e wz ⟨rfl,u⟩;have u:=u.symm;subst u;refine j.o _ _ g λg=>?_;clear j K;refine Fz 7 g ?_;refine wR 9 λK j=>?_;go_simp;refine j.o _ _ (D.trans ((bJ _ _).mono D.size)) (λg=>?_);clear j K;refine wD ?_;try simp only[pU]
    go_wp2_with fail;go_meet;exact⟨M (H R),rfl,D.size,iX R _,g⟩
  .skip;go_simp;refine oA j g λg=>?_
   clear j K;refine wR 3 λK j=>?_;go_simp;refine XO (aM.o _) ?_;rintro e R ⟨rfl,aI⟩;refine oT j g aI λg=>?_;clear j K;have D:=g;have r:=(show GB (w3.drew.alloc (FL #[I J 0,I Dc 0,I Dc 0,Z E5 0 0,I Dc 0,I Dc 0] 120)) (M (H w3)) 120 #[I J 0,I Dc 0,I Dc 0,Z E5 0 0,I Dc 0,I Dc 0] from iX w3.drew _).of (aI.block _ (by show M (H w3)<_;simp));have z0:=r.at 0;have y0:=r.frozen 0;have z1:=r.at 1;have y1:=r.frozen 1;have z2:=r.at 2;have y2:=r.frozen 2;have z3:=r.at 3;have y3:=r.frozen 3;have z4:=r.at 4;have y4:=r.frozen 4;have z5:=r.at 5;have y5:=r.frozen 5;refine wR 6 λK j=>?_;go_simp;refine XO (az.o _ (Q.o.trans (g.mono Q.o.size))) ?_;rintro e wz ⟨rfl,u⟩;have u:=u.symm;subst u;refine j.o _ _ g λg=>?_;clear j K;refine Fz 7 g ?_;refine wR 9 λK j=>?_;go_simp;refine j.o _ _ (D.trans ((World.MI R (M (H w3)) (I J a) (I Dc (ow:Int)) (I Dc (sc:Int)) (Z E5 0 0) (I Dc 0) (I Dc 0)).below (B:=M (H w3)) D.size (λb hb=>Nat.ne_of_lt hb))) (λg=>?_);clear j K;refine wD ?_;try simp only[pU]
   go_wp2_with fail;go_meet;exact⟨M (H w3),rfl,Qs _,World.aaj r (I J a) (I Dc (ow:Int)) (I Dc (sc:Int)) (Z E5 0 0) (I Dc 0) (I Dc 0),g⟩
 case rest=>
 obtain⟨B,rfl,hB,dm,bf⟩:=hcut;obtain⟨w4,dK⟩:∃x,x=wc:=⟨_,rfl⟩;subst dK;have bU:=hd dm;have wQ:Wl (∀x,Kept (λb=>b≠B) w4 x->Bw w3 x):=λx l=>bf.trans (l.below bf.size (λb hb=>by omega));have ak:Wl (∀x,Kept (λb=>b≠B) w4 x->Bw w x):=λx l=>Q.o.trans ((wQ.o x l).mono Q.o.size);clear dm bf hB aM az dH dI dJ;go_wp2;go_loopw [20] (λiv wr=>∃k:Nat,k<=N ps/\iv=I J k/\Wl (GB wr B 120 #[I J a,I Dc (v k:Int),I Dc (A k:Int),Z E5 0 0,I Dc 0,I Dc 0])/\Wl (Kept (λb=>b≠B) w4 wr)) (λiv _=>N ps-(intOf iv).toNat)
 case atStart=>exact⟨0,Q4 _,rfl,by rw[Mc.o,bF.o];exact bU.o,Zx _ _⟩
 case round=>
  obtain⟨k,l,rfl,HG,xI⟩:=hrel;by_cases bC:k<N ps
  .obtain⟨⟨pb,po,rfl,c0,c1,c2,c3,c4,c5⟩,-⟩:=(XA (ak.o wr xI.o) HP.o).2 k bC;obtain⟨dn,dx⟩:=bO.o k bC;have bV:=bL.o k l;have ah:=bN.o k l;obtain⟨bg,bn⟩:=aV (bG.o k) (Ib.o k);obtain⟨⟨G,L,P⟩,qL⟩:∃o,o=(E ps k bz).order:=⟨_,rfl⟩
   rw[<-qL]at c3;unfold ae.val at c3;simp only at c3;clear qL;generalize (E ps k bz).kind=pk at*;generalize (E ps k bz).sources=ss at*;generalize (E ps k bz).clauses=cs at*;generalize (E ps k bz).size=pz at*;generalize (E ps k bz).cost=pt at*;have bW:Wl (∀x,x=v (k+1)->∀y,y=A (k+1)->∀wy,GB wy B 120 #[I J a,I Dc (x:Int),I Dc (y:Int),Z E5 0 0,I Dc 0,I Dc 0]->Kept (λb=>b≠B) wr wy->GB wy B 120 #[I J a,I Dc (v (k+1):Int),I Dc (A (k+1):Int),Z E5 0 0,I Dc 0,I Dc 0]/\Kept (λb=>b≠B) w4 wy):=λx hx y hy wy h1 h2=>⟨by rw[<-hx,<-hy];exact h1,xI.o.trans h2⟩;obtain⟨s1,bu⟩:∃x,x=v (k+1):=⟨_,rfl⟩;obtain⟨t1,bA⟩:∃x,x=A (k+1):=⟨_,rfl⟩;have bX:=Zh (bW.o s1 bu t1 bA);rw[<-bu]at bg;rw[<-bA]at bn;generalize v k=s at*;generalize A k=t at*;clear bW bu bA;obtain⟨wb,ed,kb,gi⟩:=aX wr #[I J pk,I Dc (ss:Int),I Dc (cs:Int),Z G (N P) L,I Dc (pz:Int),I Dc (pt:Int)] 120;have gb:=HG.o.of (kb.block _ HG.o.lt);have dZ:=HG.o.lt;obtain⟨wu,ek,ku,gu⟩:=aX wb #[I Dc (s:Int),I Dc (ss:Int)] 59;have aA:=gb.of (ku.block _ gb.lt);have cu:=gi.of (ku.block _ gi.lt);have hU:=aN.o (M (H wb)) s ss wu (gu.cell 0) (gu.cell 1) bV dn;rw[<-bg.o]at hU;obtain⟨wv,dz⟩:∃x,qw wu (aD B 1) (I Dc (s1:Int))=x:=⟨_,rfl⟩;have kv:Kept (λb=>b≠B) wu wv:=by rw[<-dz];exact Xc _ _ _ (λh=>h rfl)
   have aB:GB wv B 120 #[I J a,I Dc (s1:Int),I Dc (t:Int),Z E5 0 0,I Dc 0,I Dc 0]:=by rw[<-dz];exact aA.set 1 _
   have cz:=cu.keep kv (by show M (H wr)≠B;omega);obtain⟨wx,eB,kx,gx⟩:=aX wv #[I Dc (t:Int),I Dc (cs:Int)] 59;have aC:=aB.of (kx.block _ aB.lt);have aQ:=aN.o (M (H wv)) t cs wx (gx.cell 0) (gx.cell 1) ah dx;rw[<-bn.o]at aQ;have cK:GB (qw wx (aD B 2) (I Dc (t1:Int))) B 120 #[I J a,I Dc (s1:Int),I Dc (t1:Int),Z E5 0 0,I Dc 0,I Dc 0]:=aC.set 2 _;have ky:Kept (λb=>b≠B) wr (qw wx (aD B 2) (I Dc (t1:Int))):=((ZA kb (λb hb _=>hb)).trans ((ZA ku (λb hb _=>hb)).trans (kv.trans (ZA kx (λb hb _=>hb))))).trans (Xc _ _ _ (λh=>h rfl));have fM:=Zh (bX.o _ cK ky);have b1:=gb.at 1;have b2:=gi.at 1;have b3:=aA.at 1;have b4:=aA.frozen 1;have b5:=aB.at 2;have b6:=cz.at 2;have b7:=aC.at 2;have b8:=aC.frozen 2;clear bX cK ky kb gi gb ku gu aA cu kv aB cz kx gx aC HG xI bg bn dn dx bV ah;go_wp2_with fail;refine hU.mono ?_;rintro e wq ⟨rfl,aa⟩;have aa:=aa.symm;subst aa;clear hU;go_wp2_with fail;refine aQ.mono ?_;rintro e wq ⟨rfl,aa⟩;have aa:=aa.symm;subst aa;clear aQ;go_wp2;go_roundw
   case rel=>exact⟨k+1,by omega,by go_num,fM.o.1,fM.o.2⟩
   case measure=>simp[intOf];omega
  .obtain rfl:k=N ps:=by omega
   obtain⟨R,O7⟩:∃x,x=wr:=⟨_,rfl⟩;subst O7;clear bC l Mc bF bG Ib aN bL bN bO;generalize v (N ps)=S at*;generalize A (N ps)=C at*;have e0:=cB (wQ.o R xI.o) jr;have b3:=HG.o.at 3;have f3:=HG.o.frozen 3;rcases (by omega:a=6∨a=2∨a=3∨a=4∨a=5∨(¬a=6/\¬(2<=a/\a<=5))) with l|l|l|l|l|l
   all_goals
    first
    |have h6:a=6:=l
     have e6:=cB (wQ.o R xI.o) mh;have HE:=Zh (λ(W:U) (hB:Bw w W)=>F8.o ⟨da,dc,co⟩ W (Qt hB pE.o) bR.o (by rw[Qu h6]) (.inl rfl) hB);obtain⟨G,ha⟩:∃x,x=da:=⟨_,rfl⟩;obtain⟨L,hc⟩:∃x,x=dc:=⟨_,rfl⟩;obtain⟨P,hx⟩:∃x,x=co:=⟨_,rfl⟩;subst ha hc hx;rw[l]at e0;clear h6 l;obtain⟨w6,Pf⟩:∃x,qw R (aD B 3) (Z G (N P) L)=x:=⟨_,rfl⟩;have k6:Kept (λb=>b≠B) R w6:=by rw[<-Pf];exact Xc _ _ _ (λh=>h rfl)
     have g6:GB w6 B 120 #[I J a,I Dc (S:Int),I Dc (C:Int),Z G (N P) L,I Dc 0,I Dc 0]:=by rw[<-Pf];exact HG.o.set 3 _
    |have aF:2<=a/\a<=5:=by omega
     obtain⟨⟨pb,po,rfl,-,-,-,c3,-,-⟩,bB⟩:=HP.o.2 0 (bQ.o aF);rw[XI,Zp]at c3;have dV:=bQ.o aF;obtain⟨⟨G,L,P⟩,qL⟩:∃o,o=(E ps 0 bz).order:=⟨_,rfl⟩;have h1:=bB.order;have h2:=bB.cap;rw[<-qL]at h1 h2 c3;have HE:=Zh (λ(W:U) (hB:Bw w W)=>F8.o ⟨G,L,P⟩ W (Qt hB h1) h2 (by rw[QC (by omega),Qu aF];exact congrArg ae.xs qL) (.inr (.inl qL)) hB);simp only at c3;have c3:=cB (ak.o R xI.o) c3;rw[l]at e0;clear qL l aF bB h1 h2;obtain⟨w6,Pf⟩:∃x,qw R (aD B 3) (Z G (N P) L)=x:=⟨_,rfl⟩;have k6:Kept (λb=>b≠B) R w6:=by rw[<-Pf];exact Xc _ _ _ (λh=>h rfl)
     have g6:GB w6 B 120 #[I J a,I Dc (S:Int),I Dc (C:Int),Z G (N P) L,I Dc 0,I Dc 0]:=by rw[<-Pf];exact HG.o.set 3 _
    |have j2:(a==2)=false:=by rw[XN];omega
     have j3:(a==3)=false:=by rw[XN];omega
     have j4:(a==4)=false:=by rw[XN];omega
     have j5:(a==5)=false:=by rw[XN];omega
     have j6:(a==6)=false:=by rw[XN];omega
     have HE:=Zh (λ(W:U) (hB:Bw w W)=>F8.o ⟨E5,0,[]⟩ W ⟨by simp,λi hi=>absurd hi (by simp)⟩ (Qs _) (by rw[QC l.1,QC l.2]) (.inr (.inr rfl)) hB);obtain⟨G,L,P,HC⟩:∃(G:Option Addr) (L:Nat) (P:List Int),Wl (G=E5/\L=0/\P=[]):=⟨_,_,_,rfl,rfl,rfl⟩;have g6:GB R B 120 #[I J a,I Dc (S:Int),I Dc (C:Int),Z G (N P) L,I Dc 0,I Dc 0]:=by obtain⟨rfl,rfl,rfl⟩:=HC.o;exact HG.o
     obtain⟨w6,Pf⟩:∃x,x=R:=⟨_,rfl⟩;subst Pf;have k6:Kept (λb=>b≠B) w6 w6:=Zx _ _;clear l b3 f3
    have K6:=Zh (xI.o.trans k6);have cO:=ak.o w6 K6.o;have aR:=wQ.o w6 K6.o;obtain⟨d0,d1,d2,d3,d4,d5,d6,d7⟩:=qf aR dM dX dQ dR eu eU eH gq;obtain⟨d8,d9,dL,dN,dO⟩:=ji aR gm gp bY dw bZ;obtain⟨p0,p1,p2,p3,p4,p5⟩:=g6.k6;have G6:=hd g6;have cZ:=Gd.o ⟨G,L,P⟩ w6 cO;clear k6 g6 aR cO Gd bU;go_wp2_with fail;refine cZ.mono ?_;rintro e w7 ⟨rfl,nW⟩;have g7:=G6.o.of (nW.block _ G6.o.lt);obtain⟨w8,dA⟩:∃x,qw w7 (aD B 4) (I Dc (Zq:Int))=x:=⟨_,rfl⟩;have g8:GB w8 B 120 #[I J a,I Dc (S:Int),I Dc (C:Int),Z G (N P) L,I Dc (Zq:Int),I Dc 0]:=by rw[<-dA];exact g7.set 4 _
    have K8:Wl (Kept (λb=>b≠B) w4 w8):=K6.o.trans ((ZA nW (λb hb _=>hb)).trans (by rw[<-dA];exact Xc _ _ _ (λh=>h rfl)));have q4:=g7.at 4;have f4:=g7.frozen 4;obtain⟨r0,r1,r2,r3,r4,r5⟩:=g8.k6;have G8:=hd g8;have V6:=bK.o ⟨G,L,P⟩ w8 (ak.o w8 K8.o);clear cZ g7 g8 nW bK d0 d1 d2 d3 d4 d5 d6 d7 d8 d9 dL dN dO p0 p1 p2 p3 p4 p5 e0;go_wp2_with fail;refine V6.mono ?_;rintro e w9 ⟨rfl,VA⟩;have g9:=G8.o.of (VA.block _ G8.o.lt);obtain⟨wT,dB⟩:∃x,qw w9 (aD B 5) (I Dc (CT:Int))=x:=⟨_,rfl⟩;have gT:GB wT B 120 #[I J a,I Dc (S:Int),I Dc (C:Int),Z G (N P) L,I Dc (Zq:Int),I Dc (CT:Int)]:=by rw[<-dB];exact g9.set 5 _
    have KT:Kept (λb=>b≠B) w4 wT:=K8.o.trans ((ZA VA (λb hb _=>hb)).trans (by rw[<-dB];exact Xc _ _ _ (λh=>h rfl)));have q5:=g9.at 5;have f5:=g9.frozen 5;obtain⟨t0,t1,t2,t3,t4,t5⟩:=gT.k6;have aS:GB w3 (M (H w2)) 120 #[I J 0,I Dc 0,I Dc 0,Z E5 0 0,I Dc 0,I Dc 0]:=EX.o;have gR:=aS.of ((wQ.o wT KT).block _ aS.lt);have x0:=gR.at 0;have y0:=gR.frozen 0;have x1:=gR.at 1;have y1:=gR.frozen 1;have x2:=gR.at 2;have y2:=gR.frozen 2;have x3:=gR.at 3;have y3:=gR.frozen 3;have x4:=gR.at 4;have y4:=gR.frozen 4;have x5:=gR.at 5;have y5:=gR.frozen 5;have df:Bw w (World.ac5 wT (M (H w2)) (I J a) (I Dc (S:Int)) (I Dc (C:Int)) (Z G (N P) L) (I Dc (Zq:Int)) (I Dc (CT:Int))):=(ak.o wT KT).trans ((World.MI _ _ _ _ _ _ _ _).below (ak.o wT KT).size (λb hb=>by have:=dD.o;omega));obtain⟨mG,fM⟩:=aV (ag0 (World.aaj gR (I J a) (I Dc (S:Int)) (I Dc (C:Int)) (Z G (N P) L) (I Dc (Zq:Int)) (I Dc (CT:Int)))) (HE.o (World.ac5 wT (M (H w2)) (I J a) (I Dc (S:Int)) (I Dc (C:Int)) (Z G (N P) L) (I Dc (Zq:Int)) (I Dc (CT:Int))) df);unfold World.ac5 at mG fM;clear V6 g9 gT KT aS gR df VA F8 r0 r1 r2 r3 r4 r5;go_wp2;try obtain⟨rfl,rfl,rfl⟩:=HC.o
    exact X0 (nK (p:=6) rfl rfl mG.o) rfl fM.o
def ajW(f:bq)(ts:List ag)(q:af)(n:ai)(ao:Option Addr)(cap:Nat)(ps:List aK)(w:U)(ok:Ok ts q)(hf:f.At ts q w)(hcl:n.cl.At w)(hco:n.co.At w)(hcap:N n.co.xs<=n.co.cap)(hp:bP w ao ps)(hk:n.kind=4)(hl:N ps=arity n.kind) :
  Cb 54 #[FN (f.cells ts q),FN n.cells,Z ao (N ps) cap] w (EP (dA ts q n (E ps 0 bz).d (E ps 1 bz).d)):=by
 obtain⟨v0,v1,v2,v3,v4,v5,v6,v7,v8,v9,bG,bH,bI,m,Q,S,W,X,aa,ah,ak,-⟩:=Jf f ts q;have B:n.cells=#[I J n.kind,I J n.l,I J n.r,I J n.source,n.cl.val,I J n.key,n.co.val]:=rfl;obtain⟨w1,au,av,u⟩:=aX w ((f.cells ts q)) 63;obtain⟨w2,ax,ay,az⟩:=aX w1 n.cells 50;have p:=ay;have b:=aj av p;have fG:=u.of (p.block _ u.lt);have jA:=az;obtain⟨jr,jO,jP,kM,jQ,mf,mh⟩:=jA.k7;obtain⟨dM,dX,dQ,dR,eu,eU,eH,gq,gm,gp,bY,dw,bZ⟩:=fG.zR (by rw[m];rfl);have bD:=hp.1;have bE:N ps=2:=by rw[hl,hk];rfl
 have HC:=Zh b;obtain⟨k,i⟩:∃R,R=dA ts q n (E ps 0 bz).d (E ps 1 bz).d:=⟨_,rfl⟩;rw[<-i];unfold dA at i;rw[QC (by rw[hk];decide),QC (by rw[hk];decide),QC (by rw[hk];decide),Qu hk]at i;have C:0<N ps:=by omega
 obtain⟨⟨pb,po,rfl,c0,c1,c2,c3,c4,c5⟩,v⟩:=(XA b hp).2 0 C;rw[XI,Zp]at c0 c1 c2 c3 c4 c5;have D:1<N ps:=by omega
 have bF:(1:Int)<(N ps:Int):=by omega
 obtain⟨⟨bJ,bK,e',d0,d1,d2,d3,d4,d5⟩,y⟩:=(XA b hp).2 1 D;cases e';rw[Nat.one_mul]at d0 d1 d2 d3 d4 d5;generalize E ps 0 bz=L at*;generalize E ps 1 bz=R at*;have t:Wl (∀x,Bw w2 x->Cb 100 #[FN (f.cells ts q),FN n.cells,FN L.cells,FN R.cells] x (EP (kQ ts q n L.sources R.sources))):=λx e=>wP f ts q n L R x ok (hf.below (aj b e)) (Qt (aj b e) hcl) v.sources y.sources;rw[m]at t;have g:Wl (∀x,Bw w2 x->Cb 101 #[FN (f.cells ts q),FN n.cells,FN L.cells,FN R.cells] x (Ph #[I J (nR ts q n L.sources R.sources).1,I J (nR ts q n L.sources R.sources).2.1,EP (nR ts q n L.sources R.sources).2.2])):=λx e=>sj f ts q n L R x ok (hf.below (aj b e)) (Qt (aj b e) hcl) v.sources y.sources;rw[m]at g;have i:k=((nR ts q n L.sources R.sources).2.2&&kQ ts q n L.sources R.sources):=i;generalize kQ ts q n L.sources R.sources=RB at*;generalize nR ts q n L.sources R.sources=KP at*;obtain⟨z,A,aA⟩:=KP;simp only at g i;have G:=Zh i;rw[m,B];rw[m]at au;rw[B]at ax;clear hf hcl hco hcap hp ok m B Q S W X aa ah ak;obtain⟨nk,nl,nr,ns,⟨ca,cc,cl⟩,key,⟨da,dc,co⟩⟩:=n;simp only at hk;subst hk;obtain⟨lk,ls,V7,⟨la,UC,lx⟩,lz,bL⟩:=L;obtain⟨rk,rs,bM,⟨ra,bN,rx⟩,rz,bO⟩:=R;simp only[aK.cells,ai.cells,ae.val]at*
 cases aA with
 |true =>
  have K:Wl (k=RB):=by show _=_;rw[G.o];rfl
  clear G;go_enter Tryz.func54,Tryz.ntmps54;go_upto_region 9 with fail;refine Qw ?_;refine qA8 ?_;go_big_quiet_want;refine⟨Ph #[I J z,I J A,EP T],λx e=>?_,?_⟩
  .have hC:=Qx e (g.o x e);go_simp
  simp only[pU];go_big_quiet_on;refine qA6 ?_;refine lQ ?_;refine XH ?_;intro w5 a;obtain⟨aB,aC,aD,aF,aG,aH,aI,aJ⟩:=qf a dM dX dQ dR eu eU eH gq;obtain⟨aL,aM,Sn,Sq,Sr,aN,aO,aP⟩:=qf a gm gp bY dw bZ jr jO jP;obtain⟨aQ,aR,aS,aT,aU,aV,aW,aY⟩:=qf a kM jQ mf mh c0 d0 c1 d1;obtain⟨aZ,bf,bg,bn,bu,bA,bB,bC⟩:=qf a c2 d2 c3 d3 c4 d4 c5 d5;have jS:=hd a;have j:=Zh (aj HC.o a);go_wp2_with fail;refine Qw ?_;refine aio ?_;go_big_quiet_want;refine⟨EP RB,λx e=>?_,?_⟩
  .have hC:=Qx e (t.o x (aj jS.o e));go_simp
  simp only[pU];go_big_quiet_on;refine Gw ?_;refine XH ?_;intro wE rZ;have P:=Zh (aj j.o rZ);go_wp2;go_ret;exact⟨Qd K.o.symm,P.o⟩
 |false =>
  have K:Wl (k=F):=by show _=_;rw[G.o];rfl
  go_enter Tryz.func54,Tryz.ntmps54;go_upto_region 9 with fail;refine Qw ?_;refine qA8 ?_;go_big_quiet_want;refine⟨Ph #[I J z,I J A,EP F],λx e=>?_,?_⟩
  .have hC:=Qx e (g.o x e);go_simp
  simp only[pU];go_big_quiet_on;refine qS (Ph #[I J z,I J A,EP F]) ?_;refine qS (I J z) ?_;refine qS (I J A) ?_;refine qS (EP F) ?_;refine qS (I J z) ?_;refine qS (I J A) ?_;refine qS (EP F) ?_;refine XH ?_;intro w5 a;obtain⟨aB,aC,aD,aF,aG,aH,aI,aJ⟩:=qf a dM dX dQ dR eu eU eH gq;obtain⟨aL,aM,Sn,Sq,Sr,aN,aO,aP⟩:=qf a gm gp bY dw bZ jr jO jP;obtain⟨aQ,aR,aS,aT,aU,aV,aW,aY⟩:=qf a kM jQ mf mh c0 d0 c1 d1;obtain⟨aZ,bf,bg,bn,bu,bA,bB,bC⟩:=qf a c2 d2 c3 d3 c4 d4 c5 d5;have jS:=hd a;have j:=Zh (aj HC.o a);go_wp2_with fail;refine Qw ?_;refine qS (EP F) ?_;go_big_quiet_want;refine⟨EP F,λx e=>?_,?_⟩
  .go_simp
  simp only[pU];go_big_quiet_on;go_big_quiet_skip;try simp only[pU]
  iterate 8 (go_big_quiet_skip;try simp only[pU])
  refine qS (EP F) ?_;refine qS (EP F) ?_;refine XH ?_;intro wE rZ;have P:=Zh (aj j.o rZ);go_wp2;go_ret;exact⟨Qd K.o.symm,P.o⟩
def ajX(f:bq)(ts:List ag)(q:af)(n:ai)(ao:Option Addr)(cap:Nat)(ps:List aK)(w:U)(ok:Ok ts q)(hf:f.At ts q w)(hcl:n.cl.At w)(hco:n.co.At w)(hcap:N n.co.xs<=n.co.cap)(hp:bP w ao ps)(hk:n.kind=5)(hl:N ps=arity n.kind) :
  Cb 54 #[FN (f.cells ts q),FN n.cells,Z ao (N ps) cap] w (EP (dA ts q n (E ps 0 bz).d (E ps 1 bz).d)):=by
 obtain⟨v0,v1,v2,v3,v4,v5,v6,v7,v8,v9,y,z,A,j,B,C,D,G,K,P,Q,-⟩:=Jf f ts q;have p:n.cells=#[I J n.kind,I J n.l,I J n.r,I J n.source,n.cl.val,I J n.key,n.co.val]:=rfl;obtain⟨w1,S,W,k⟩:=aX w ((f.cells ts q)) 63;obtain⟨w2,X,aa,ah⟩:=aX w1 n.cells 50;have g:=aa;have b:=aj W g;have fG:=k.of (g.block _ k.lt);have jA:=ah;obtain⟨jr,jO,jP,kM,jQ,mf,mh⟩:=jA.k7;obtain⟨dM,dX,dQ,dR,eu,eU,eH,gq,gm,gp,bY,dw,bZ⟩:=fG.zR (by rw[j];rfl);have aB:=hp.1;have aC:N ps=2:=by rw[hl,hk];rfl
 have HC:=Zh b;obtain⟨ak,e⟩:∃R,R=dA ts q n (E ps 0 bz).d (E ps 1 bz).d:=⟨_,rfl⟩;rw[<-e];unfold dA at e;rw[QC (by rw[hk];decide),QC (by rw[hk];decide),QC (by rw[hk];decide),QC (by rw[hk];decide),Qu hk]at e;have t:0<N ps:=by omega
 obtain⟨⟨m,po,rfl,c0,c1,c2,c3,c4,c5⟩,au⟩:=(XA b hp).2 0 t;rw[XI,Zp]at c0 c1 c2 c3 c4 c5;have u:1<N ps:=by omega
 have aF:(1:Int)<(N ps:Int):=by omega
 obtain⟨⟨aG,aH,e',d0,d1,d2,d3,d4,d5⟩,av⟩:=(XA b hp).2 1 u;cases e';rw[Nat.one_mul]at d0 d1 d2 d3 d4 d5;generalize E ps 0 bz=L at*;generalize E ps 1 bz=R at*;have i:Wl (∀x,Bw w2 x->Cb 102 #[FN (f.cells ts q),FN n.cells,FN L.cells,FN R.cells] x (EP (Ee ts q n L.d R.d))):=λx a=>KE f ts q n L R x ok (hf.below (aj b a)) (Qt (aj b a) hcl) (au.below a) (av.below a);rw[j]at i;have e:ak=Ee ts q n L.d R.d:=e;generalize Ee ts q n L.d R.d=RB at*;have uf:=Zh e;rw[j,p];rw[j]at S;rw[p]at X;clear hf hcl hco hcap hp ok j p B C D G K P Q;obtain⟨nk,nl,nr,ns,⟨ca,cc,cl⟩,key,⟨da,dc,co⟩⟩:=n;simp only at hk;subst hk;obtain⟨lk,ls,V7,⟨la,UC,lx⟩,lz,ax⟩:=L;obtain⟨rk,rs,ay,⟨ra,az,rx⟩,rz,aA⟩:=R;simp only[aK.cells,ai.cells,ae.val]at*;have HV:=Zh uf.o;clear uf;go_enter Tryz.func54,Tryz.ntmps54;go_upto_region 12 with fail;refine Qw ?_;go_big_quiet_want;refine⟨FN #[v0,v1,v2,v3,v4,v5,v6,v7,v8,v9,y,z,A],λx a=>?_,?_⟩
 .have v:=K4 a dM dX dQ dR eu eU eH gq gm gp bY dw bZ;go_simp
 simp only[pU];go_big_quiet_on;go_big_quiet_want;refine⟨FN #[I J 5,I J nl,I J nr,I J ns,Z ca (N cl) cc,I J key,Z da (N co) dc],λx a=>?_,?_⟩
 .have v:=Pk a jr jO jP kM jQ mf mh;go_simp
 simp only[pU];go_big_quiet_on;refine qS (Z (O (aD m po)) (N ps) cap) ?_;refine qS (Y (O (aD m po))) ?_;go_big_quiet_want;refine⟨FN #[I J lk,I Dc (ls:Int),I Dc (V7:Int),Z la (N lx) UC,I Dc (lz:Int),I Dc (ax:Int)],λx a=>?_,?_⟩
 .have v:=Dh a c0 c1 c2 c3 c4 c5;go_simp
 simp only[pU];go_big_quiet_on;refine qS (Z (O (aD m po)) (N ps) cap) ?_;refine qS (Y (O (aD m (po+6)))) ?_;go_big_quiet_want;refine⟨FN #[I J rk,I Dc (rs:Int),I Dc (ay:Int),Z ra (N rx) az,I Dc (rz:Int),I Dc (aA:Int)],λx a=>?_,?_⟩
 .have v:=Dh a d0 d1 d2 d3 d4 d5;go_simp
 simp only[pU];go_big_quiet_on;go_big_quiet_want;refine⟨EP RB,λx a=>?_,?_⟩
 .have hC:=Qx a (i.o x a);go_simp
 simp only[pU];go_big_quiet_on;refine qS (EP RB) ?_;refine XH ?_;intro wE rZ;have uF:=Zh (aj HC.o rZ);go_wp2;go_ret;exact⟨Qd HV.o.symm,uF.o⟩
def agW(f:bq)(ts:List ag)(q:af)(n:ai)(ao:Option Addr)(cap:Nat)(ps:List aK)(w:U)(ok:Ok ts q)(hf:f.At ts q w)(hcl:n.cl.At w)(hco:n.co.At w)(hcap:N n.co.xs<=n.co.cap)(hp:bP w ao ps)(hk1:1<=n.kind)(hk10:n.kind<=10)(hl:N ps=arity n.kind) :
  Cb 54 #[FN (f.cells ts q),FN n.cells,Z ao (N ps) cap] w (EP (dA ts q n (E ps 0 bz).d (E ps 1 bz).d)):=by
 rcases (by omega:n.kind=1∨n.kind=2∨n.kind=3∨n.kind=4∨n.kind=5∨n.kind=6∨n.kind=7∨n.kind=8∨n.kind=9∨n.kind=10) with h|h|h|h|h|h|h|h|h|h
 .exact ajT f ts q n ao cap ps w ok hf hcl hco hcap hp h hl
 .exact ajU f ts q n ao cap ps w ok hf hcl hco hcap hp h hl
 .exact ajV f ts q n ao cap ps w ok hf hcl hco hcap hp h hl
 .exact ajW f ts q n ao cap ps w ok hf hcl hco hcap hp h hl
 .exact ajX f ts q n ao cap ps w ok hf hcl hco hcap hp h hl
 .exact ajY f ts q n ao cap ps w ok hf hcl hco hcap hp h hl
 .exact ajZ f ts q n ao cap ps w ok hf hcl hco hcap hp h hl
 .exact aj0 f ts q n ao cap ps w ok hf hcl hco hcap hp h hl
 .exact aj1 f ts q n ao cap ps w ok hf hcl hco hcap hp h hl
 .exact agV f ts q n ao cap ps w ok hf hcl hco hcap hp h hl
structure jk(ts:List ag)(q:af)(pl:List ai)(w:U)(ps:List aK):Prop where
 eq:gP ts q pl (N ps)=O (ps.map aK.d)
 ok:∀i,i<N ps->(E ps i bz).Ok w
 small:∀i,i<N ps->(E ps i bz).sources<2 ^ (N q.src.xs)/\(E ps i bz).clauses<2 ^ (N q.wh)
def jk.nil(ts:List ag)(q:af)(pl:List ai)(w:U):jk ts q pl w []:=⟨rfl,λi a=>absurd a (by simp),λi a=>absurd a (by simp)⟩
theorem TB(hi:i<N (ps++[p])):(i<N ps/\E (ps++[p]) i bz=E ps i bz)∨(i=N ps/\E (ps++[p]) i bz=p):=by grind
def aam(w:U):bz.Ok w:=⟨⟨by simp[bz],λi a=>absurd a (by simp[bz])⟩,Qs _,Q4 _,Q4 _,Q4 _,Q4 _⟩
def jk.ins(h:jk ts q pl w ps)(n:ai)(hm:∀m,m<N (aS n)->0<=E (aS n) m 0/\E (aS n) m 0<(N ps:Int)) :
  ∀i,i<N (eO n ps)->(E (eO n ps) i bz).Ok w/\(E (eO n ps) i bz).sources<2 ^ (N q.src.xs)/\(E (eO n ps) i bz).clauses<2 ^ (N q.wh):=λi b=>by
 rw[yL]at b;have e:E (eO n ps) i bz=E ps (E (aS n) i 0).toNat bz:=by unfold eO;simp[List.getD,b]
 have d:=hm i b;rw[e];have a:(E (aS n) i 0).toNat<N ps:=by omega
 exact⟨h.ok _ a,h.small _ a⟩
theorem jk.step(h:jk ts q pl w ps){n:ai}(hn:E pl (N ps) nz=n)(hm:∀m,m<N (aS n)->0<=E (aS n) m 0/\E (aS n) m 0<(N ps:Int))(hf:(nA n.kind (eO n ps)&&dA ts q n (E (eO n ps) 0 bz).d (E (eO n ps) 1 bz).d)=T)
  (hd:p.d=xQ ts q n (E (eO n ps) 0 bz).d (E (eO n ps) 1 bz).d) (hs:p.sources<2 ^ (N q.src.xs)) (hc:p.clauses<2 ^ (N q.wh)) (hk:p.Ok W) (ho:p.order=n.co∨p.order=(E (eO n ps) 0 bz).order∨p.order=⟨E5,0,[]⟩) (hco:n.co.At w) (hcap:N n.co.xs<=n.co.cap) :
  jk ts q pl w (ps++[p]):=by
 have a:p.order.At w/\N p.order.xs<=p.order.cap:=by
  rcases ho with e|e|e
  .rw[e];exact⟨hco,hcap⟩
  .rw[e];by_cases f:0<N (eO n ps)
   .have:=(h.ins n hm 0 f).1;exact⟨this.order,this.cap⟩
   .have g:E (eO n ps) 0 bz=bz:=by simp[List.getD,f]
    rw[g];exact⟨(aam w).order,(aam w).cap⟩
  .rw[e];exact⟨⟨by simp,λi b=>absurd b (by simp)⟩,Qs _⟩
 refine⟨?_,λi b=>?_,λi b=>?_⟩
 .rw[QI]
  show (gP ts q pl (N ps)).bind _=_;rw[h.eq,hn];show sZ ts q n _=_;rw[step_eq,Qu hf,Ql,<-hd];rfl
 .rcases TB b with⟨hl,e⟩|⟨_,e⟩ <;> rw[e]
  .exact h.ok i hl
  .exact⟨a.1,a.2,hk.sources,hk.clauses,hk.size,hk.cost⟩
 .rcases TB b with⟨hl,e⟩|⟨_,e⟩ <;> rw[e]
  .exact h.small i hl
  .exact⟨hs,hc⟩
def jk.fail(h:jk ts q pl w ps){n:ai}(hn:E pl (N ps) nz=n)(hl:N ps<N pl)(hp:dD pl=T)(hf:(nA n.kind (eO n ps)&&dA ts q n (E (eO n ps) 0 bz).d (E (eO n ps) 1 bz).d)=F):fQ ts q pl=none:=by
 have e:gP ts q pl (N ps+1)=none:=by show (gP ts q pl (N ps)).bind _=_;rw[h.eq,hn];show sZ ts q n _=_;rw[step_eq,QC (by rw[hf];simp)]
 unfold fQ;rw[QC (by rw[hp];simp),IP e (N pl) (by omega)];rfl
def jk.last(h:jk ts q pl w ps)(hl:N ps=N pl)(hp:dD pl=T) :
  fQ ts q pl=if (il (E pl (N pl-1) nz).kind&&uO q (E pl (N pl-1) nz).kind (E ps (E pl (N pl-1) nz).l.toNat bz).order.xs)=T then O (ps.map aK.d) else none:=by unfold fQ;rw[QC (by rw[hp];simp),<-hl,h.eq];simp only[Zr];have e:(E (ps.map aK.d) (E pl (N ps-1) nz).l.toNat pz)=(E ps (E pl (N ps-1) nz).l.toNat bz).d:=sH aK.d ps _ bz;rw[e];rfl
theorem jk.nine(h:jk ts q pl w ps)(hl:N ps=N pl)(h1:1<=N pl)(hk:(E pl (N pl-1) nz).kind=9):q.group=false:=by
 have e:N ps=(N pl-1)+1:=by omega
 have g:=h.eq;rw[e]at g;have a:(gP ts q pl (N pl-1)).bind (sZ ts q (E pl (N pl-1) nz))=O (ps.map aK.d):=g
 cases h4:gP ts q pl (N pl-1) with
 |none=>rw[h4]at a;cases a
 |some ds =>
  rw[h4]at a;have f:sZ ts q (E pl (N pl-1) nz) ds=O (ps.map aK.d):=a;unfold sZ at f;split at f
  .rename_i b
   rw[Qm]at b;have b:=b.2;unfold dA at b;grind
  .cases f
def ag1(f:bq)(ts:List ag)(q:af)(po:Option Addr)(pc:Nat)(pl:List ai)(w0 w:U)(hb0:Bw w0 w)(ok:Ok ts q)(hf:f.At ts q w)(hn0:bT w0 po pl)(hsh:dS w 0)(hcap:∀i,i<N pl->(E pl i nz).co.xs.length<=(E pl i nz).co.cap)
  (hgr:q.group=F->aM q.ord.xs (N q.aH.xs)=T) (asW:N q.ord.xs<=1000) :
  Calls V 31 #[FN (f.cells ts q),Z po (N pl) pc] w (λe z=>Bw w z/\((∃ds,fQ ts q pl=O ds/\∃(ao:Option Addr) (cap:Nat) (ps:List aK),e=FR (Ph #[Z ao (N ps) cap,EP T])/\bP z ao ps/\ps.map aK.d=ds/\(∀a,ao=O a->M (H w)<=a.block)/\∀i,i<N ps->(E ps i bz).Ok w0)∨(fQ ts q pl=E5/\e=FR (Ph #[Z E5 0 0,EP F])))):=by
 obtain⟨LK,ak⟩:=eY (fQ ts q pl);rw[<-ak];obtain⟨v0,v1,v2,v3,v4,v5,v6,v7,v8,v9,df,dh,di,dY,dm,dn,dx,dz,dB,dC,dE,-⟩:=Jf f ts q;have bM:Wl (q.cells=#[v0,v1,v2,v3,v4,v5,v6]):=by show _=_;rw[dm,dn,dx,dz,dB,dC,dE];rfl
 clear dm dn dx dz dB dC dE;obtain⟨w1,dF,y,dG⟩:=aX w ((f.cells ts q)) 63;have G:=y;have fG:=dG;obtain⟨dM,dX,dQ,dR,eu,eU,eH,gq,gm,gp,bY,dw,bZ⟩:=fG.zR (by rw[dY];rfl);have K:=hn0.below hb0;have aP:=Zh hb0;have eD:=hd hn0;clear hb0 hn0;have gX:=K.1;have X:=WB po pc pl w1 (K.below G) (hsh.below G);rw[dY]at dF;rw[dY];obtain⟨bn,HC⟩:=aV dY G;clear dG fG y
 cases Ff:dD pl with
 |false =>
  have HV:Wl (LK=E5):=by show _=_;rw[ak];unfold fQ;rw[Qu Ff]
  rw[Ff]at X;clear Ff ak hf K hsh hcap hgr ok bn;go_enter Tryz.func31,Tryz.ntmps31;go_wp2_with fail;refine X.mono ?_;rintro e w2 ⟨rfl,S⟩;have HB:=Zh (aj HC.o S);clear S;go_wp2;go_ret2;exact⟨HB.o,.inr ⟨HV.o,rfl⟩⟩
 |true =>
 rw[Ff]at X;obtain⟨fJ,ic,dH⟩:=agS Ff;obtain⟨i0,hi,dI,dJ,dK⟩:=Xk Tryz.TA;have bN:Wl (∀x:U,M (H w1)<=M (H x)->∃z,(Instr.makeSlice 64 (.int J 0) (.int J (N pl:Int))).run V x=.ok (.slice (O (aD (M (H x)) 0)) 0 (N pl)) z/\z.ownsRow (M (H w1)) 120 6 (.slice (O (aD (M (H x)) 0)) 0 (N pl)) 0 []/\Bw x z):=λx k=>by obtain⟨z,h1,h2,h3⟩:=run_make_own (P:=V) x (M (H w1)) 64 120 i0 _ 6 Tryz.underlying64 hi dI dJ J J (N pl) (by rw[dK];omega) (by unfold maxLen;omega) k;exact⟨z,h1,h2,(Xd (s:=λ_=>True) h3 (λr e=>by cases e)).below (Qs _) (λ_ _=>trivial)⟩
 obtain⟨bu,bA,dL,HF⟩:=xA Ff dH ak hf;have HN:Wl _:=K;have bO:Wl _:=hsh;obtain⟨aO,EX,zK,dN⟩:=xA hcap hgr ok asW;have Q:=hd G;have eF:=Zh G.size;clear Ff dH ak hf K hsh hcap hgr ok asW dY G hi dI dJ dK;go_enter Tryz.func31,Tryz.ntmps31;go_wp2_with fail;refine X.mono ?_;rintro e w2 ⟨rfl,S⟩;clear X;obtain⟨w3,fK,au,dO⟩:=bN.o w2 S.size;have eG:=hd au;have eP:=Zh (aj S dO);clear S dO au bN dF;go_wp2;clear fK;go_loopw [6,21] (λpv iv wr=>∃ps:List aK,N ps<=N pl/\iv=I J (N ps:Int)/\Wl (wr.ownsRow (M (H w1)) 120 6 pv (N ps) (ps.flatMap aK.list))/\Wl (jk ts q pl w0 ps)/\Wl (Bw w1 wr)) (λ_ iv _=>N pl-(intOf iv).toNat)
 case atStart=>exact⟨[],Q4 _,rfl,eG.o,jk.nil _ _ _ _,eP.o⟩
 case round=>
  obtain⟨ps,fM,rfl,bB,t,Kg⟩:=hrel;have R:=aj Q.o Kg.o;obtain⟨pa,av,rfl,bC⟩:=LF bB.o (by omega) (λi hi=>(t.o.ok i hi).below (aj aP.o R));by_cases W:N ps<N pl
  .obtain⟨nb,no,bD,m0,m1,m2,m3,m4,m5,m6,dP,dU⟩:=(Jh R HN.o).2 (N ps) W;subst bD;obtain⟨-,-,-,-,-,-,-,-,-,-,B,aI⟩:=HN.o.2 (N ps) W;obtain⟨-,-,-,-,-,-,-,-,-,-,-,bE⟩:=eD.o.2 (N ps) W;have aa:=aO.o (N ps) W;have TC:=bA.o (N ps) W;obtain⟨n,K⟩:=eX (E pl (N ps) nz)
   rw[K]at m0 m1 m2 m3 m4 m5 m6 dP dU B aI bE aa TC;obtain⟨y,C,D⟩:=IQ TC;have LX:Wl (∀x,Bw w x->Calls V 52 #[FN n.cells] x λe z=>∃b,e=FR (Z (O (aD b 0)) (N (aS n)) 2)/\aA z (O (aD b 0)) (aS n)/\M (H x)<=b/\Bw x z):=λx k=>CJ n x (Jk k bO.o) y C;have aQ:=t.o.ins n D;have Uw:Wl (∀(x:U) (bs:Nat) (v:KX),Bw w x->x.ownsRow bs 120 6 v (N (eO n ps)) ((eO n ps).flatMap aK.list)->∃a c,v=Z a (N (eO n ps)) c/\bP x a (eO n ps)):=λx _ v k ho=>LF ho (by rw[yL];have:=tZ n;omega) (λi hi=>(aQ i hi).1.below (aj aP.o k));have bQ:Wl (∀(x:U) (a:Option Addr) (c:Nat),bP x a (eO n ps)->Cb 53 #[I J n.kind,Z a (N (eO n ps)) c] x (EP (nA n.kind (eO n ps)))):=λx a c h=>NL n.kind a c (eO n ps) x h;have YV:Wl (∀(x:U) (a:Option Addr) (c:Nat),Bw w x->bP x a (eO n ps)->Cb 54 #[FN #[v0,v1,v2,v3,v4,v5,v6,v7,v8,v9,df,dh,di],FN n.cells,Z a (N (eO n ps)) c] x (EP (dA ts q n (E (eO n ps) 0 bz).d (E (eO n ps) 1 bz).d))):=λx a c k h=>by rw[<-bn.o];exact agW f ts q n a c (eO n ps) x zK.o (HF.o.below k) (Qt k B) (Qt k aI) aa h y C (by rw[yL,pY])
   have aR:Wl (∀(x:U) (a:Option Addr) (c:Nat),Bw w x->bP x a (eO n ps)->dA ts q n (E (eO n ps) 0 bz).d (E (eO n ps) 1 bz).d=T->nA n.kind (eO n ps)=T->Calls V 55 #[FN #[v0,v1,v2,v3,v4,v5,v6,v7,v8,v9,df,dh,di],FN n.cells,Z a (N (eO n ps)) c] x λe z=>∃p:aK,e=FR (FN p.cells)/\jk ts q pl w0 (ps++[p])/\Bw x z):=λx a c k h eB gV=>by rw[<-bn.o];obtain⟨fO,zX⟩:=WH TC eB;refine(WQ f ts q n a c (eO n ps) x zK.o (HF.o.below k) (Qt k B) (Qt k aI) aa h y C (by rw[yL,pY]) fO zX (λi hi=>(aQ i hi).2)).mono ?_;rintro e z ⟨p,he,hd,fP,hs,hc,ho,hb⟩;exact⟨p,he,t.o.step K D (by rw[gV,eB];rfl) hd hs hc fP ho bE aa,hb⟩
   have bR:Wl (∀kb fb,kb=nA n.kind (eO n ps)->fb=dA ts q n (E (eO n ps) 0 bz).d (E (eO n ps) 1 bz).d->(kb&&fb)=F->LK=E5):=λkb fb e1 e2 h=>by rw[dL.o];exact t.o.fail K W bu.o (by rw[<-e1,<-e2];exact h)
   have eQ:Wl (∀m,m<N (aS n)->(eO n ps).take (m+1)=(eO n ps).take m++[E ps (E (aS n) m 0).toNat bz]):=λm hm=>agT hm;obtain⟨fT,fU,fV⟩:=fe (yL n ps) (tZ n) D;obtain⟨KB,bF⟩:∃x,x=nA n.kind (eO n ps):=⟨_,rfl⟩;obtain⟨FB,bG⟩:∃x,x=dA ts q n (E (eO n ps) 0 bz).d (E (eO n ps) 1 bz).d:=⟨_,rfl⟩;have bS:=Zh (bR.o KB FB bF bG);rw[<-bF]at bQ aR;rw[<-bG]at YV aR;clear bF bG bR D aQ TC y C dP dU B aI bE aa K;generalize eO n ps=IV at*;generalize aS n=L at*;obtain⟨nk,nl,nr,ns,⟨ca,cc,cl⟩,key,⟨da,dc,co⟩⟩:=n;simp only[ai.cells,ae.val]at*;obtain⟨l,bH⟩:∃x,x=wr:=⟨_,rfl⟩;subst bH;obtain⟨wb,aJ,kb,gn⟩:=aX l #[I J nk,I J nl,I J nr,I J ns,Z ca (N cl) cc,I J key,Z da (N co) dc] 50;obtain⟨n0,n1,n2,n3,n4,n5,n6⟩:=gn.k7;have eT:=LX.o wb (aj R kb);have lZ:=Zh kb;have u:=hd gn;have az:Wl _:=bC;have eZ:Wl _:=bB;go_wp2_with fail;refine eT.mono ?_;rintro e w4 ⟨ib,rfl,dV,ig,fZ⟩;have wQ:=hd fZ;have fo:Wl _:=dV;have PX:=dV.1;go_wp2;go_loopw [9,28] (λqv jv wx=>∃m:Nat,m<=N L/\jv=I J (m:Int)/\Wl (wx.ownsRow (M (H w4)) 120 6 qv (N (IV.take m)) ((IV.take m).flatMap aK.list))/\Wl (Bw w4 wx)) (λ_ jv _=>N L-(intOf jv).toNat)
   case atStart=>exact⟨0,Q4 _,rfl,Xl _ _ _ _,Qr _ _⟩
   case round=>
    obtain⟨m,hm,rfl,HQ,Ga⟩:=hrel;have VA:=aj lZ.o (aj wQ.o Ga.o);by_cases aN:m<N L
    .obtain⟨ik,iq,e',gu⟩:=Qg (Qt Ga.o fo.o) aN
     cases e';have bU:=gu m aN;rw[Q5]at bU;obtain⟨bI,dW⟩:=fV.o m aN;have aB:=Zh (eQ.o m aN);obtain⟨j,hj⟩:=XD bI;rw[hj]at bU dW aB;rw[Xu]at aB;have fq:j<N ps:=by omega
     obtain⟨⟨pb,A,bJ,c0,c1,c2,c3,c4,c5⟩,-⟩:=(XA VA az.o).2 j fq;subst bJ;obtain⟨p,hp⟩:=eY (E ps j bz);rw[<-hp]at c0 c1 c2 c3 c4 c5 aB;obtain⟨qa,qm,qc,rfl⟩:=Xg HQ.o;have bV:=Ga.o.size;obtain⟨v',w5,iW,mq,gz,⟨xa,xm,xc,rfl⟩,gB⟩:=MJ wr (M (H w4)) (Z qa qm qc) (IV.take m) HQ.o (by rw[XK];have:=fU.o;omega) bV p 64;rw[<-aB.o]at mq;have zJ:Wl _:=mq;have jS:=Zh (Ga.o.trans (gz.below bV (λb hb e=>by have:=(Xf HQ.o e).1;omega)));obtain⟨pk,ss,cs,⟨oa,Bp,ox⟩,pz,pt⟩:=p;simp only[aK.cells,ae.val]at*;go_wp2_with (first|(at_builtin;refine Xy rfl (.tmp 32) (.tmp 37) 64 rfl (Z qa qm qc) (Z (O (aD (M (H wr)) 0)) 1 1) (Z xa xm xc) w5 rfl rfl iW ?_));go_wp2;go_roundw
     case rel=>exact⟨m+1,by omega,by go_num,zJ.o,jS.o⟩
     case measure=>simp[intOf];omega
    .obtain rfl:m=N L:=by omega
     rw[Xt (by rw[fT.o];exact Qs _)]at HQ;obtain⟨w5,O7⟩:∃x,x=wr:=⟨_,rfl⟩;subst O7;have aT:=aj wQ.o Ga.o;have bW:=aj lZ.o aT;have bX:=aj Kg.o bW;obtain⟨qa,qc,rfl,dZ⟩:=Uw.o w5 _ _ (aj Q.o bX) HQ.o;have fu:=bQ.o w5 qa qc dZ;have n0:Am w5 (aD (M (H l)) 0)=O (I J nk):=cB aT (QQ u.o 0);have fw:Wl _:=dZ;obtain⟨gD,gF,gG⟩:=fe bX aT bW;go_wp2_with fail;refine fu.mono ?_;rintro e w6 ⟨rfl,aL⟩;obtain⟨ax,TD,gH⟩:=fe (aj gD.o aL) (aj gF.o aL) (aj gG.o aL);have cu:Wl _:=XA aL fw.o
     cases KB with
     |false =>
      obtain⟨HV,uF⟩:=aV (bS.o rfl) (aj Q.o ax.o);go_wp2;go_ret2;exact⟨uF.o,.inr ⟨HV.o,rfl⟩⟩
     |true =>
      have fA:=YV.o w6 qa qc (aj Q.o ax.o) cu.o;obtain⟨f0,f1,f2,f3,f4,f5,f6,f7⟩:=qf ax.o dM dX dQ dR eu eU eH gq;obtain⟨f8,f9,gI,gJ,gK⟩:=ji ax.o gm gp bY dw bZ;have n0:Am w6 (aD (M (H l)) 0)=O (I J nk):=cB TD.o (QQ u.o 0);have n1:Am w6 (aD (M (H l)) 1)=O (I J nl):=cB TD.o (QQ u.o 1);have n2:Am w6 (aD (M (H l)) 2)=O (I J nr):=cB TD.o (QQ u.o 2);have n3:Am w6 (aD (M (H l)) 3)=O (I J ns):=cB TD.o (QQ u.o 3);have n4:Am w6 (aD (M (H l)) 4)=O (Z ca (N cl) cc):=cB TD.o (QQ u.o 4);have n5:Am w6 (aD (M (H l)) 5)=O (I J key):=cB TD.o (QQ u.o 5);have n6:Am w6 (aD (M (H l)) 6)=O (Z da (N co) dc):=cB TD.o (QQ u.o 6);go_wp2_with fail;refine fA.mono ?_;rintro e w7 ⟨rfl,nW⟩;obtain⟨ay,WR,gL⟩:=fe (aj ax.o nW) (aj TD.o nW) (aj gH.o nW);have fB:Wl _:=XA nW cu.o
      cases FB with
      |false =>
       obtain⟨HV,uF⟩:=aV (bS.o rfl) (aj Q.o ay.o);go_wp2;go_ret2;exact⟨uF.o,.inr ⟨HV.o,rfl⟩⟩
      |true =>
       have fC:=aR.o w7 qa qc (aj Q.o ay.o) fB.o (by trivial) (by trivial);obtain⟨f0,f1,f2,f3,f4,f5,f6,f7⟩:=qf ay.o dM dX dQ dR eu eU eH gq;obtain⟨f8,f9,gI,gJ,gK⟩:=ji ay.o gm gp bY dw bZ;have n0:Am w7 (aD (M (H l)) 0)=O (I J nk):=cB WR.o (QQ u.o 0);have n1:Am w7 (aD (M (H l)) 1)=O (I J nl):=cB WR.o (QQ u.o 1);have n2:Am w7 (aD (M (H l)) 2)=O (I J nr):=cB WR.o (QQ u.o 2);have n3:Am w7 (aD (M (H l)) 3)=O (I J ns):=cB WR.o (QQ u.o 3);have n4:Am w7 (aD (M (H l)) 4)=O (Z ca (N cl) cc):=cB WR.o (QQ u.o 4);have n5:Am w7 (aD (M (H l)) 5)=O (I J key):=cB WR.o (QQ u.o 5);have n6:Am w7 (aD (M (H l)) 6)=O (Z da (N co) dc):=cB WR.o (QQ u.o 6);go_wp2_with fail;refine fC.mono ?_;rintro e w8 ⟨p,rfl,gM,zu⟩;have fD:=aj gL.o zu;have aU:=aj ay.o zu;have cz:=XJ eZ.o fD;obtain⟨v',wz,bK,gN,gP,⟨xa,xm,xc,rfl⟩,gB⟩:=MJ w8 (M (H w1)) (Z pa (N ps) av) ps cz (by omega) aU.size p 64;have fE:Wl _:=gN;obtain⟨gQ,gT⟩:=aV gM (aU.trans (gP.below aU.size (λb hb e=>by have:=(Xf cz e).1;omega)));have Bt:Wl (N (ps++[p])=N ps+1):=by show _=_;simp
       have gY:Wl (∀x:Int,x=(N (ps++[p]):Nat)->Value.int J x=I J (N (ps++[p]):Int)):=λx h=>by rw[h]
       obtain⟨pk,ss,cs,⟨oa,Bp,ox⟩,pz,pt⟩:=p;simp only[aK.cells,ae.val]at bK;simp only[aK.cells,ae.val];go_wp2_with (first|(at_builtin;refine Xy rfl (.tmp 52) (.tmp 57) 64 rfl (Z pa (N ps) av) (Z (O (aD (M (H w8)) 0)) 1 1) (Z xa xm xc) wz rfl rfl bK ?_));clear bK;go_wp2;go_roundw
       case rel=>
        refine⟨ps++[aK.mk pk ss cs ⟨oa,Bp,ox⟩ pz pt],by rw[Bt.o];omega,?_,fE.o,gQ.o,gT.o⟩;rw[Bt.o];go_num
       case measure=>simp[intOf];omega
  .have aW:N ps=N pl:=by omega
   obtain⟨N1,iw⟩:∃N1,N pl=N1+1:=⟨N pl-1,by omega⟩;have eN:N pl-1=N1:=by omega
   have cK:N1<N pl:=by omega
   obtain⟨nb,no,bD,m0,m1,m2,m3,m4,m5,m6,-,-⟩:=(Jh R HN.o).2 N1 cK;subst bD;have TC:=bA.o N1 cK;have aC:=t.o.last aW bu.o;have aY:Wl ((E pl N1 nz).kind=9->q.group=F):=λh9=>t.o.nine aW fJ (by rw[eN];exact h9);rw[<-dL.o,eN]at aC;obtain⟨ed,gU⟩:=aV t.o.ok t.o.ok;have fF:Wl (∀a,pa=O a->M (H w)<=a.block):=λa e=>by subst e;have:=(Xf bB.o (g:=a.block) rfl).1;have:=eF.o;omega
   obtain⟨n,K⟩:=eX (E pl N1 nz);rw[K]at m0 m1 m2 m3 m4 m5 m6 TC aY aC;have uD:Wl _:=@WE n N1 TC;obtain⟨l,bH⟩:∃x,x=wr:=⟨_,rfl⟩;subst bH;have aF:Wl (∀x,Cb 56 #[I J n.kind] x (EP (il n.kind))):=λx=>(BU n.kind x).mono (λe z h=>⟨h.1,by rw[h.2];exact Qr _ _⟩);have aZ:Wl (∀(o:ae) (x:U),Bw w x->o.At x->N o.xs<=o.cap->Cb 57 #[FN #[v0,v1,v2,v3,v4,v5,v6],I J n.kind,Z o.ad (N o.xs) o.cap] x (EP (uO q n.kind o.xs))):=λo x k ho gW=>by rw[<-bM.o];exact ND q n.kind o.ad o.cap o.xs x (HF.o.query.below k) ⟨λh9=>EX.o (aY.o h9),dN.o⟩ ho gW
   have DU:=Zh aC;have fH:Wl (N ps=N1+1):=by show _=_;omega
   have gZ:¬(N ps:Int)<(N1:Int)+1:=by omega
   have az:Wl _:=bC;clear aC K TC eN aY bC bA aO bO HF EX bu dN bM aW fM;obtain⟨nk,nl,nr,ns,⟨ca,cc,cl⟩,key,⟨da,dc,co⟩⟩:=n;simp only[ai.cells,ae.val]at*;obtain⟨wb,aJ,kb,gn⟩:=aX l #[I J nk,I J nl,I J nr,I J ns,Z ca (N cl) cc,I J key,Z da (N co) dc] 50;obtain⟨n0,n1⟩:=gn.k2;have lZ:=hd kb;have ah:=Zh (aj R kb);have bf:=aj Kg.o kb;obtain⟨h0,h1,h2,h3,h4⟩:=ji bf dM dX dQ dR eu;obtain⟨h5,h6⟩:=gy bf eU eH;clear gn kb R bf;obtain⟨OB,bL⟩:∃x,x=il nk:=⟨_,rfl⟩;rw[<-bL]at aF DU uD
   cases OB with
   |false =>
    have HV:Wl (LK=E5):=by show _=_;rw[DU.o];rfl
    clear DU aZ uD bL;go_upto_region 18 with fail;clear aJ m0 m1 m2 m3 m4 m5 m6;refine Qw ?_;refine Gw ?_;go_big_quiet_want;refine⟨EP F,λx k=>?_,?_⟩
    .have hC:=Qx k (aF.o x);go_simp
    simp only[pU];go_big_quiet_on;refine qS (EP T) ?_;go_big_quiet_want;refine⟨EP T,λx k=>?_,?_⟩
    .go_simp
    simp only[pU];go_big_quiet_on;go_big_quiet_skip;try simp only[pU]
    iterate 11 (go_big_quiet_skip;try simp only[pU])
    refine qS (EP T) ?_;refine XH ?_;intro wE rZ;have uF:=Zh (aj ah.o rZ);clear rZ;go_wp2;go_ret2;exact⟨uF.o,.inr ⟨HV.o,rfl⟩⟩
   |true =>
    obtain⟨bI,dW⟩:=uD.o rfl;obtain⟨j,hj⟩:=XD bI;subst hj;have cO:j<N ps:=by have:=fH.o;omega
    rw[Xu]at DU;obtain⟨⟨pb,A,bJ,-,-,-,c3,-,-⟩,-⟩:=(XA lZ.o az.o).2 j cO;subst bJ;have bg:=ed.o j cO;obtain⟨o,ho⟩:∃o,o=(E ps j bz).order:=⟨_,rfl⟩;have aG:∀x,Bw wb x->Cb 57 #[FN #[v0,v1,v2,v3,v4,v5,v6],I J nk,Z o.ad (N o.xs) o.cap] x (EP (uO q nk o.xs)):=λx k=>aZ.o o x (aj ah.o k) (by rw[ho];exact Qt (aj aP.o (aj ah.o k)) bg.order) (by rw[ho];exact bg.cap);rw[<-ho]at c3 DU;clear ho bg aZ uD bL ed;obtain⟨EB,ek⟩:∃x,x=uO q nk o.xs:=⟨_,rfl⟩;rw[<-ek]at aG DU;clear ek;obtain⟨oa,Bp,ox⟩:=o;simp only[ae.val]at c3 aG;have cZ:=Zh aG;clear aG
    cases EB with
    |false =>
     have HV:Wl (LK=E5):=by show _=_;rw[DU.o];rfl
     clear DU;go_upto_region 18 with fail;clear aJ m0 m1 m2 m3 m4 m5 m6;refine Qw ?_;refine qS (Y (O (aD (M (H l)) 0))) ?_;refine qC (I J nk) n0 ?_;go_big_quiet_want;refine⟨EP T,λx k=>?_,?_⟩
     .have hC:=Qx k (aF.o x);go_simp
     simp only[pU];go_big_quiet_on;refine qS (EP F) ?_;refine qS (EP F) ?_;refine qS (Y (O (aD (M (H w)) 0))) ?_;go_big_quiet_want;refine⟨FN #[v0,v1,v2,v3,v4,v5,v6],λx k=>?_,?_⟩
     .have e0:=Pk k h0 h1 h2 h3 h4 h5 h6;go_simp
     simp only[pU];go_big_quiet_on;refine qS (Y (O (aD (M (H l)) 0))) ?_;refine qC (I J nk) n0 ?_;refine qS (Z (O (aD pb A)) (N ps) av) ?_;refine qS (Y (O (aD (M (H l)) 1))) ?_;refine qC (I J (j:Int)) n1 ?_;refine qS (Y (O (aD pb (A+j*6)))) ?_;refine qS (Y (O (aD pb (A+j*6+3)))) ?_;refine qC (Z oa (N ox) Bp) c3 ?_;go_big_quiet_want;refine⟨EP F,λx k=>?_,?_⟩
     .have hC:=Qx k (cZ.o x k);go_simp
     simp only[pU];go_big_quiet_on;refine qS (EP T) ?_;refine qS (EP T) ?_;refine XH ?_;intro wE rZ;have uF:=Zh (aj ah.o rZ);clear rZ;go_wp2;go_ret2;exact⟨uF.o,.inr ⟨HV.o,rfl⟩⟩
    |true =>
     have HV:Wl (LK=O (ps.map aK.d)):=by show _=_;rw[DU.o];rfl
     clear DU;go_upto_region 18 with fail;clear aJ m0 m1 m2 m3 m4 m5 m6;refine Qw ?_;refine qS (Y (O (aD (M (H l)) 0))) ?_;refine qC (I J nk) n0 ?_;go_big_quiet_want;refine⟨EP T,λx k=>?_,?_⟩
     .have hC:=Qx k (aF.o x);go_simp
     simp only[pU];go_big_quiet_on;refine qS (EP F) ?_;refine qS (EP F) ?_;refine qS (Y (O (aD (M (H w)) 0))) ?_;go_big_quiet_want;refine⟨FN #[v0,v1,v2,v3,v4,v5,v6],λx k=>?_,?_⟩
     .have e0:=Pk k h0 h1 h2 h3 h4 h5 h6;go_simp
     simp only[pU];go_big_quiet_on;refine qS (Y (O (aD (M (H l)) 0))) ?_;refine qC (I J nk) n0 ?_;refine qS (Z (O (aD pb A)) (N ps) av) ?_;refine qS (Y (O (aD (M (H l)) 1))) ?_;refine qC (I J (j:Int)) n1 ?_;refine qS (Y (O (aD pb (A+j*6)))) ?_;refine qS (Y (O (aD pb (A+j*6+3)))) ?_;refine qC (Z oa (N ox) Bp) c3 ?_;go_big_quiet_want;refine⟨EP T,λx k=>?_,?_⟩
     .have hC:=Qx k (cZ.o x k);go_simp
     simp only[pU];go_big_quiet_on;refine qS (EP F) ?_;refine qS (EP F) ?_;refine XH ?_;intro wE rZ;have uF:=Zh (aj ah.o rZ);have fI:Wl _:=XA (aj lZ.o rZ) az.o;clear rZ;go_wp2;go_ret2;exact⟨uF.o,.inl ⟨_,HV.o,_,av,ps,rfl,fI.o,rfl,fF.o,gU.o⟩⟩
def KG{p:Tmp}(h:fn.results=#[.cell p ty,.tmp u,.tmp s])(tmps:Array KX)(P:Program)(w:U) :
  (results fn tmps).run P w=((asAddr (tmps.getD p undef)).run P w).andThen λa b=>((loadVar ty a).run P b).andThen λv d=>.ok (Ph #[v,tmps.getD u undef,tmps.getD s undef]) d:=by simp only[results,h];simp[Sem.run_bind,Result.andThen]
def Ef{p:Tmp}(h:fn.results=#[.cell p ty,.tmp u,.tmp s]){tmps:Array KX}{P:Program}{x y:KX}(hp:tmps.getD p undef=Y (O (aD B 0)))(hu:tmps.getD u undef=x)(hs:tmps.getD s undef=y)(hl:(loadVar ty (aD B 0)).run P w=.ok v w) :
  (results fn tmps).run P w=.ok (Ph #[v,x,y]) w:=by rw[KG h,hp,hu,hs];simp[go_sem]at hl ⊢;simp[hl]
def CU(MK:Int)(LK:Option (List gz))(ts:List ag)(q:af)(w:U)(e:Ending)(w':U):Prop:=Bw w w'/\((MK≠0/\e=FR (Ph #[FN #[Z E5 0 0,Z E5 0 0,EP F,Z E5 0 0,Z E5 0 0,Z E5 0 0,Z E5 0 0,Z E5 0 0,I Dc 0,I Dc 0,Z E5 0 0,Z E5 0 0,Z E5 0 0],Z E5 0 0,I J MK]))∨(MK=0/\LK=E5/\e=FR (Ph #[FN #[Z E5 0 0,Z E5 0 0,EP F,Z E5 0 0,Z E5 0 0,Z E5 0 0,Z E5 0 0,Z E5 0 0,I Dc 0,I Dc 0,Z E5 0 0,Z E5 0 0,Z E5 0 0],Z E5 0 0,I J 5]))∨(MK=0/\∃ds,LK=O ds/\∃(f:bq) (a:Option Addr) (c:Nat) (ps:List aK),e=FR (Ph #[FN (f.cells ts q),Z a (N ps) c,I J 0])/\f.At ts q w'/\bP w' a ps/\ps.map aK.d=ds))
def Ap(ao:Option Addr)(cap:Nat)(ts:List ag)(q:af)(po:Option Addr)(pc:Nat)(pl:List ai)(w:U)(hx:aN w ao ts)(hq:q.At w)(hkc:N q.keys.xs<=q.keys.cap)(hoc:N q.ord.xs<=q.ord.cap)(hn:bT w po pl)(hsh:dS w 0)(hcap:∀i,i<N pl->(E pl i nz).co.xs.length<=(E pl i nz).co.cap) :
  Calls V 16 #[Z ao (N ts) cap,FN q.cells,Z po (N pl) pc] w (CU (q.check ts) (fQ ts q pl) ts q w):=by
 obtain⟨w1,aU,az,aA⟩:=aX w q.cells 26;obtain⟨w2,bu,aW,aY⟩:=aX w1 #[Z E5 0 0,Z E5 0 0,EP F,Z E5 0 0,Z E5 0 0,Z E5 0 0,Z E5 0 0,Z E5 0 0,I Dc 0,I Dc 0,Z E5 0 0,Z E5 0 0,Z E5 0 0] 63;have ax:=aW;have ah:=aj az ax;have fG:=aA.of (ax.block _ aA.lt);obtain⟨dM,dX,dQ,dR,eu,eU,eH⟩:=fG.k7;have jA:=aY;have ak:=Ww ao cap ts q w2 (hx.below ah) (hq.below ah) hkc hoc;obtain⟨MK,KH⟩:∃c,c=q.check ts:=⟨_,rfl⟩;obtain⟨LK,aB⟩:∃c,c=fQ ts q pl:=⟨_,rfl⟩;have au:Wl (MK=0->∀x,Bw w x->Calls V 30 #[Z ao (N ts) cap,FN q.cells] x λe w'=>∃f:bq,e=FR (FN (f.cells ts q))/\f.At ts q w'/\f.New (M (H x))/\Bw x w'):=λh0 x hb=>Tv ao cap ts q x (hx.below hb) (hq.below hb) (uz (by rw[<-KH];exact h0)).1.ok;have Cu:Wl (MK=0->∀(f:bq) (x:U),Bw w x->f.At ts q x->Calls V 31 #[FN (f.cells ts q),Z po (N pl) pc] x (λe w'=>Bw x w'/\((∃ds,LK=O ds/\∃(ao:Option Addr) (cap:Nat) (ps:List aK),e=FR (Ph #[Z ao (N ps) cap,EP T])/\bP w' ao ps/\ps.map aK.d=ds/\(∀a,ao=O a->M (H x)<=a.block)/\∀i,i<N ps->(E ps i bz).Ok w)∨(LK=E5/\e=FR (Ph #[Z E5 0 0,EP F]))))):=λh0 f x hb hf=>by obtain⟨h1,_,h3,h4,_⟩:=uz (ts:=ts) (q:=q) (by rw[<-KH];exact h0);rw[aB];exact ag1 f ts q po pc pl w x hb h1.ok hf hn (Jk hb hsh) hcap h3 (by omega)
 rw[<-KH]at ak ⊢;rw[<-aB];obtain⟨HC,bA,HW⟩:=fe ah hq az.size;have EX:=hd jA;clear KH aB hx hq hkc hoc hn hsh hcap az aW aA aY fG jA ah ax;obtain⟨⟨R,sc,src⟩,W,X,wh,j,⟨ka,kc,k⟩,⟨ua,uc,l⟩,⟨ea,ec,aH⟩,⟨da,dc,m⟩⟩:=q;have OC:af.cells ⟨⟨R,sc,src⟩,W,X,wh,j,⟨ka,kc,k⟩,⟨ua,uc,l⟩,⟨ea,ec,aH⟩,⟨da,dc,m⟩⟩=#[Z R (N src) sc,Z W (N wh) X,EP j,Z ka (N k) kc,Z ua (N l) uc,Z ea (N aH) ec,Z da (N m) dc]:=rfl;rw[OC]at aU ak au ⊢;simp only[ae.val]at dM dX dQ dR eu eU eH;clear OC;go_enter Tryz.func16,Tryz.ntmps16;go_wp2_with fail;refine ak.mono ?_;rintro e w3 ⟨rfl,r⟩;clear ak aU bu;by_cases hz:MK=0
 .subst hz;have aD:=au.o (by trivial) w3 (aj HC.o r);obtain⟨d0,d1,d2,d3,d4⟩:=ji r dM dX dQ dR eu;obtain⟨d5,d6⟩:=gy r eU eH;have aF:=hd r;clear r dM dX dQ dR eu eU eH au;go_wp2_with fail;refine aD.mono ?_;rintro e w4 ⟨f,rfl,hf,aZ,aC⟩;clear aD d0 d1 d2 d3 d4 d5 d6;obtain⟨wQ,bB⟩:=aV (aj aF.o aC) aC.size;have av:=hd hf;have bg:=hd aZ;have aG:=Zh (Q0 EX.o.lt aF.o.size);clear aZ;obtain⟨t,v,y,S,C,z,A,B,D,G,K,L,P,Q,dY⟩:∃(t:Option Addr) (v y S C:Nat) (z:Option Addr) (A B:Nat) (D:Option Addr) (G K:Nat) (L:Option Addr) (P Q:Nat),f.cells ts ⟨⟨R,sc,src⟩,W,X,wh,j,⟨ka,kc,k⟩,⟨ua,uc,l⟩,⟨ea,ec,aH⟩,⟨da,dc,m⟩⟩=#[Z R (N src) sc,Z W (N wh) X,EP j,Z ka (N k) kc,Z ua (N l) uc,Z ea (N aH) ec,Z da (N m) dc,Z t v y,I Dc ((S:Nat):Int),I Dc ((C:Nat):Int),Z z A B,Z D G K,Z L P Q]:=⟨f.ca,_,f.cc,_,_,f.ra,_,f.rc,f.na,f.nl,f.nc,f.pa,f.pl,f.pc,rfl⟩
  obtain⟨w5,O7,k5,g5⟩:=aX w4 #[Z R (N src) sc,Z W (N wh) X,EP j,Z ka (N k) kc,Z ua (N l) uc,Z ea (N aH) ec,Z da (N m) dc,Z t v y,I Dc ((S:Nat):Int),I Dc ((C:Nat):Int),Z z A B,Z D G K,Z L P Q] 63;have jS:=Zh (aj wQ.o k5);have ay:=Cu.o (by trivial) f w5 (aj HC.o jS.o) (av.o.below k5);rw[dY]at ay ⊢;have bn:=Zh dY;have O8:=hd g5;have aI:=Zh k5;obtain⟨p0,p1,p2,p3,p4,p5,p6,p7,p8,p9,bE,bF,bG⟩:=g5.zR;clear aC hf k5 g5 dY Cu;go_wp2_with fail;refine ay.mono ?_;rintro e w6 ⟨aa,bf⟩;clear ay O7;have TE:=aj jS.o aa;have g6:=O8.o.of (aa.block _ O8.o.lt);rcases bf with⟨ds,hds,a,c,ps,rfl,hPA,hpd,hbk,as9⟩|⟨hds,rfl⟩
  .skip;have g:=EX.o.of (TE.block _ EX.o.lt);have mG:=Zh (zC (World.CF g (Z R (N src) sc) (Z W (N wh) X) (EP j) (Z ka (N k) kc) (Z ua (N l) uc) (Z ea (N aH) ec) (Z da (N m) dc) (Z t v y) (I Dc ((S:Nat):Int)) (I Dc ((C:Nat):Int)) (Z z A B) (Z D G K) (Z L P Q)));have n:=World.wU w6 (M (H w1)) (Z R (N src) sc) (Z W (N wh) X) (EP j) (Z ka (N k) kc) (Z ua (N l) uc) (Z ea (N aH) ec) (Z da (N m) dc) (Z t v y) (I Dc ((S:Nat):Int)) (I Dc ((C:Nat):Int)) (Z z A B) (Z D G K) (Z L P Q);have nV:=(aj HC.o TE).trans (n.below (aj HC.o TE).size (λb hb=>by have:=HW.o;omega));have x0:=g.at 0;have y0:=g.frozen 0;have x1:=g.at 1;have y1:=g.frozen 1;have x2:=g.at 2;have y2:=g.frozen 2;have x3:=g.at 3;have y3:=g.frozen 3;have x4:=g.at 4;have y4:=g.frozen 4;have x5:=g.at 5;have y5:=g.frozen 5;have x6:=g.at 6;have y6:=g.frozen 6;have x7:=g.at 7;have y7:=g.frozen 7;have x8:=g.at 8;have y8:=g.frozen 8;have x9:=g.at 9;have y9:=g.frozen 9;have aJ:=g.at 10;have aL:=g.frozen 10;have aM:=g.at 11;have aO:=g.frozen 11;have aQ:=g.at 12;have aR:=g.frozen 12;have aS:=(av.o.below (aj aI.o aa)).but n bg.o aG.o (bA.o.below nV);have bC:=Q6 bB.o aI.o.size;have aT:=hPA.but n (λad e=>by have:=hbk ad e;have:=aG.o;omega) as9 nV;have fM:Wl (CU (0:Int) LK ts ⟨⟨R,sc,src⟩,W,X,wh,j,⟨ka,kc,k⟩,⟨ua,uc,l⟩,⟨ea,ec,aH⟩,⟨da,dc,m⟩⟩ w (FR (Ph #[FN #[Z R (N src) sc,Z W (N wh) X,EP j,Z ka (N k) kc,Z ua (N l) uc,Z ea (N aH) ec,Z da (N m) dc,Z t v y,I Dc ((S:Nat):Int),I Dc ((C:Nat):Int),Z z A B,Z D G K,Z L P Q],Z a (N ps) c,I J 0])) (World.qB w6 (M (H w1)) (Z R (N src) sc) (Z W (N wh) X) (EP j) (Z ka (N k) kc) (Z ua (N l) uc) (Z ea (N aH) ec) (Z da (N m) dc) (Z t v y) (I Dc ((S:Nat):Int)) (I Dc ((C:Nat):Int)) (Z z A B) (Z D G K) (Z L P Q))):=⟨nV,.inr (.inr ⟨rfl,ds,hds,f,a,c,ps,by rw[bn.o],aS,aT,hpd⟩)⟩
   unfold World.qB at mG fM;obtain⟨r0,r1,r2,r3,r4,r5,r6,r7,r8,r9,bH,bI,bJ⟩:=g6.zR;clear g n nV TE aa g6 O8 av aS aT hPA hbk as9 hds hpd;go_wp2;exact X0 (Ef (p:=6) (u:=7) (s:=8) rfl rfl rfl rfl mG.o) rfl fM.o
  .skip;have g:=EX.o.of (TE.block _ EX.o.lt);have mG:=Zh (zC (World.CF g (Z E5 0 0) (Z E5 0 0) (EP F) (Z E5 0 0) (Z E5 0 0) (Z E5 0 0) (Z E5 0 0) (Z E5 0 0) (I Dc 0) (I Dc 0) (Z E5 0 0) (Z E5 0 0) (Z E5 0 0)));have n:=World.wU w6 (M (H w1)) (Z E5 0 0) (Z E5 0 0) (EP F) (Z E5 0 0) (Z E5 0 0) (Z E5 0 0) (Z E5 0 0) (Z E5 0 0) (I Dc 0) (I Dc 0) (Z E5 0 0) (Z E5 0 0) (Z E5 0 0);have nV:=(aj HC.o TE).trans (n.below (aj HC.o TE).size (λb hb=>by have:=HW.o;omega));have x0:=g.at 0;have y0:=g.frozen 0;have x1:=g.at 1;have y1:=g.frozen 1;have x2:=g.at 2;have y2:=g.frozen 2;have x3:=g.at 3;have y3:=g.frozen 3;have x4:=g.at 4;have y4:=g.frozen 4;have x5:=g.at 5;have y5:=g.frozen 5;have x6:=g.at 6;have y6:=g.frozen 6;have x7:=g.at 7;have y7:=g.frozen 7;have x8:=g.at 8;have y8:=g.frozen 8;have x9:=g.at 9;have y9:=g.frozen 9;have aJ:=g.at 10;have aL:=g.frozen 10;have aM:=g.at 11;have aO:=g.frozen 11;have aQ:=g.at 12;have aR:=g.frozen 12;have fM:Wl (CU (0:Int) LK ts ⟨⟨R,sc,src⟩,W,X,wh,j,⟨ka,kc,k⟩,⟨ua,uc,l⟩,⟨ea,ec,aH⟩,⟨da,dc,m⟩⟩ w (FR (Ph #[FN #[Z E5 0 0,Z E5 0 0,EP F,Z E5 0 0,Z E5 0 0,Z E5 0 0,Z E5 0 0,Z E5 0 0,I Dc 0,I Dc 0,Z E5 0 0,Z E5 0 0,Z E5 0 0],Z E5 0 0,I J 5])) (World.qB w6 (M (H w1)) (Z E5 0 0) (Z E5 0 0) (EP F) (Z E5 0 0) (Z E5 0 0) (Z E5 0 0) (Z E5 0 0) (Z E5 0 0) (I Dc 0) (I Dc 0) (Z E5 0 0) (Z E5 0 0) (Z E5 0 0))):=⟨nV,.inr (.inl ⟨rfl,hds,rfl⟩)⟩
   unfold World.qB at mG fM;clear g n nV TE aa g6 O8 av;go_wp2;exact X0 (Ef (p:=6) (u:=7) (s:=8) rfl rfl rfl rfl mG.o) rfl fM.o
 .have I1:=r;have bD:(MK != 0)=true:=by rw[bne_iff_ne];exact hz
  have HZ:Wl _:=hz;clear hz;have g:=EX.o.of (I1.block _ EX.o.lt);have mG:=Zh (zC (World.CF g (Z E5 0 0) (Z E5 0 0) (EP F) (Z E5 0 0) (Z E5 0 0) (Z E5 0 0) (Z E5 0 0) (Z E5 0 0) (I Dc 0) (I Dc 0) (Z E5 0 0) (Z E5 0 0) (Z E5 0 0)));have n:=World.wU w3 (M (H w1)) (Z E5 0 0) (Z E5 0 0) (EP F) (Z E5 0 0) (Z E5 0 0) (Z E5 0 0) (Z E5 0 0) (Z E5 0 0) (I Dc 0) (I Dc 0) (Z E5 0 0) (Z E5 0 0) (Z E5 0 0);have nV:=(aj HC.o I1).trans (n.below (aj HC.o I1).size (λb hb=>by have:=HW.o;omega));have x0:=g.at 0;have y0:=g.frozen 0;have x1:=g.at 1;have y1:=g.frozen 1;have x2:=g.at 2;have y2:=g.frozen 2;have x3:=g.at 3;have y3:=g.frozen 3;have x4:=g.at 4;have y4:=g.frozen 4;have x5:=g.at 5;have y5:=g.frozen 5;have x6:=g.at 6;have y6:=g.frozen 6;have x7:=g.at 7;have y7:=g.frozen 7;have x8:=g.at 8;have y8:=g.frozen 8;have x9:=g.at 9;have y9:=g.frozen 9;have aJ:=g.at 10;have aL:=g.frozen 10;have aM:=g.at 11;have aO:=g.frozen 11;have aQ:=g.at 12;have aR:=g.frozen 12;have fM:Wl (CU MK LK ts ⟨⟨R,sc,src⟩,W,X,wh,j,⟨ka,kc,k⟩,⟨ua,uc,l⟩,⟨ea,ec,aH⟩,⟨da,dc,m⟩⟩ w (FR (Ph #[FN #[Z E5 0 0,Z E5 0 0,EP F,Z E5 0 0,Z E5 0 0,Z E5 0 0,Z E5 0 0,Z E5 0 0,I Dc 0,I Dc 0,Z E5 0 0,Z E5 0 0,Z E5 0 0],Z E5 0 0,I J MK])) (World.qB w3 (M (H w1)) (Z E5 0 0) (Z E5 0 0) (EP F) (Z E5 0 0) (Z E5 0 0) (Z E5 0 0) (Z E5 0 0) (Z E5 0 0) (I Dc 0) (I Dc 0) (Z E5 0 0) (Z E5 0 0) (Z E5 0 0))):=⟨nV,.inl ⟨HZ.o,rfl⟩⟩;unfold World.qB at mG fM;clear g n nV I1 r au Cu;go_wp2;exact X0 (Ef (p:=6) (u:=7) (s:=8) rfl rfl rfl rfl mG.o) rfl fM.o
def ahE(ts:List ag)(q:af)(pl:List ai):Int:=if q.check ts=0 then (if (fQ ts q pl).isSome=T then 0 else 5) else q.check ts
def Uo:Option (List gz)->Nat
 |some ds=>(E ds (N ds-1) pz).cost
 |none=>0
def aau(ts:List ag)(q:af)(pl:List ai):Nat:=if q.check ts=0 then Uo (fQ ts q pl) else 0
def lG(h:q.check ts=0):dL ts=T/\jB q.src.xs q.qX q.keys.xs q.sums.xs q.aH.xs q.ord.xs=F/\aM q.src.xs (N ts)=T/\0<N q.src.xs/\dZ q.qX (ak ts q.src.xs)=T/\gV (ak ts q.src.xs) q.group q.keys.xs q.sums.xs q.aH.xs q.ord.xs=true:=by
 unfold af.check vI at h;by_cases b:dL ts=F
 .rw[Qu b]at h;omega
 .rw[QC b]at h;by_cases d:jB q.src.xs q.qX q.keys.xs q.sums.xs q.aH.xs q.ord.xs=T
  .rw[Qu d]at h;omega
  .rw[QC d]at h;by_cases a:aM q.src.xs (N ts)=T/\0<N q.src.xs/\dZ q.qX (ak ts q.src.xs)=T/\gV (ak ts q.src.xs) q.group q.keys.xs q.sums.xs q.aH.xs q.ord.xs=T
   .exact⟨by simpa using b,by simpa using d,a.1,a.2.1,a.2.2.1,a.2.2.2⟩
   .rw[QC a]at h;omega
def wS{wh:List (List aF)}{keys sums aH ord:List Int}(h:jB src wh keys sums aH ord=F):N src<=5/\N wh<=8/\N aH<=8/\N keys<=4/\N sums<=4/\N ord<=4:=by unfold jB at h;rw[Bool.or_eq_false_iff]at h;have:=of_decide_eq_false h.1;omega
def acK{l:List α}{d:α}(hk:k<N l):E l k d∈l:=by
 have e:E l k d=l[k]:=by simp[List.getD,hk]
 rw[e];exact Qi hk
def Cy{n:Int}(h:dZ q.qX n=T)(hi:i<N q.wh)(hk:k<(E q.wh i lz).cs.length):dC ((E q.wh i lz).cs.getD k cz) n=true:=by
 unfold dZ af.qX at h;rw[List.all_map,Qn]at h;have d:E q.wh i lz∈q.wh:=by simp[List.getD,hi]
 have a:=h _ d;simp only[Function.comp]at a;unfold iH at a;simp only[Qm]at a;have b:=a.2;rw[Qn]at b;exact b _ (acK hk)
def Tk(kc sc:List Int)(rows:List (List Int)):N (fq kc sc rows)<=1+N rows:=by
 have h:=Cn kc sc (rows.map λr=>(⟨E5,0,r⟩:ae)) (cK kc sc);rw[List.foldl_map,Q8]at h;have a:N (cK kc sc)<=1:=by unfold cK;split <;> simp
 have b:N (rows.foldl (stepG kc sc) (cK kc sc))<=N (cK kc sc)+N rows:=h;unfold fq;omega
def ahf:KX->Nat
 |.slice _ n _=>n
 |_=>0
def Yc(xs ys ps:List Int):pI xs ys ps=decide (aB xs ps=aB ys ps):=by unfold pI aB;rw[Zf,Qn,Qz];simp
def qd(e:TypeId)(w:U)(ao:Option Addr)(rs:List ae):Prop:=fF w ao rs/\∀r∈rs,(gJ e).At r w
def qd.below{e:TypeId}{w w':U}(hb:Bw w w'){ao:Option Addr}{rs:List ae}(h:qd e w ao rs):qd e w' ao rs:=
 ⟨h.1.below hb,λr d=>(gJ e).keep (h.2 r d) hb.size (λb a _=>hb.block b a)⟩
def Listed.ug(h:Listed tI tE base v ys W)(hl:N ys<=1000000):∃a cap,v=Z a (N ys) cap/\qd tE W a ys:=by obtain⟨a,cap,b,d⟩:=h.rows hl;exact⟨a,cap,b,d,h.at'⟩
def Listed.beside(hne:tI≠tE){atm:Nat}{u:KX}{W':U}(h:Listed tI tE base v ys W)(hu:W.ownsRow atm tI 1 u n xs)(hk:Kept (λb=>u.ownBlock≠O b) W W')(hap:∀b,v.ownBlock=O b->u.ownBlock≠O b):Listed tI tE base v ys W':=
 ⟨Xe h.own hk hap,λy hy=>kX hne hu hk (h.at' y hy)⟩
theorem Fj(p:α->Bool)(rs:List α)(d:α)(hi:i<N rs):(rs.take (i+1)).filter p=(rs.take i).filter p++(if p (E rs i d)=T then [E rs i d] else []):=by rw[<-ZL rs d hi,ZX];grind
def Ar(f:List Int->Bool)(rs:List ae):(rs.filter λr=>f r.xs).map ae.xs=(rs.map ae.xs).filter f:=by rw[ZW];rfl
theorem OT(q:af)(ao:Option Addr)(cap:Nat)(rs:List ae)(w:U)(hk:q.keys.At w)(hs:q.sums.At w)(hr:qd 3 w ao rs)(hl:N rs<=100000)(hkl:N q.keys.xs<=4)(hsl:N q.sums.xs<=4)
  (hki:∀r∈rs,aM q.keys.xs (N r.xs)=T) (hsi:∀r∈rs,aM q.sums.xs (N r.xs)=T) (hv:∀r∈rs,∀c∈q.sums.xs,Hl (E r.xs c.toNat 0)) :
  Calls V 40 #[FN q.cells,Z ao (N rs) cap] w λe w'=>∃v ys,e=FR v/\ys.map ae.xs=ed q.keys.xs q.sums.xs (rs.map ae.xs)/\Listed 23 3 (M (H w)) v ys w'/\Bw w w':=by
 have t:=bJ w (FL q.cells 26);obtain⟨w1,aJ⟩:=eX (w.alloc (FL q.cells 26));have HX:Wl (Am w1 (aD (M (H w)) 0)=O q.src.val/\Am w1 (aD (M (H w)) 1)=O (Z q.dx (N q.wh) q.aP)/\Am w1 (aD (M (H w)) 2)=O (EP q.group)/\Am w1 (aD (M (H w)) 3)=O q.keys.val/\Am w1 (aD (M (H w)) 4)=O q.sums.val/\Am w1 (aD (M (H w)) 5)=O q.aH.val/\Am w1 (aD (M (H w)) 6)=O q.ord.val):=by rw[<-aJ];unfold af.cells;refine⟨?_,?_,?_,?_,?_,?_,?_⟩ <;> simp
 have bB:=Zh aJ;rw[aJ]at t;have HR:=Zh (hr.below t);have HK:Wl (q.keys.At w1):=Qt t hk;have HS:Wl (q.sums.At w1):=Qt t hs;have HB:=Zh t;have bC:=t.size;have aS:Wl (∀(L:Option Addr) (D:Nat) (d:List ae) (W:U),Bw w1 W->fF W L d->N d<=100000->(∀r∈d,r∈rs)->(q.keys.xs=[]∨d≠[])->
   Calls V 79 #[FN q.cells,Z L (N d) D] W λe w'=>∃P:ae,e=FR P.val/\P.xs=uT q.keys.xs q.sums.xs (d.map ae.xs)/\(gJ 3).At P w'/\Bw W w'):=
  λL D d W hW dI aL az dJ=>ahe q L D d W (Qt hW HK.o) (Qt hW HS.o) dI aL hkl hsl (λr hr=>hki r (az r hr)) (λr hr=>hsi r (az r hr)) dJ (λr hr=>hv r (az r hr))
 have aT:=Zh hki;clear hk hs hr t aJ hki hsi hv hsl;obtain⟨src,dx,aP,wh,dw,⟨nU,eQ,f⟩,⟨ni,dV,k⟩,aH,dO⟩:=q;unfold af.cells ae.val at*;simp only at*;by_cases aQ:f=[]
 .have A:=aS.o ao cap rs w1 (Qr _ _) HR.o.1 hl (λr hr=>hr) (.inl aQ);subst aQ;obtain⟨c0,c1,c2,c3,c4,c5,c6⟩:=HX.o;simp only[ZO]at*;go_enter Tryz.func40,Tryz.ntmps40;go_wp2_with fail;rw[bB.o];refine A.mono ?_;rintro e w2 ⟨P,rfl,ax,ay,C⟩;have mH:=C;obtain⟨v',w5,Q,p,l,⟨va,vm,vc,rfl⟩,-⟩:=mV w2 (M (H w1)) (Z E5 0 0) [] (Listed.nil _ _ _ _) (by simp) C.size P ay 30;have B:=C.trans (l.below C.size (λb _ e=>by cases e));have HF:Wl (([P]:List ae).map ae.xs=ed [] k (rs.map ae.xs)/\Listed 23 3 (M (H w)) (Z va vm vc) [P] w5/\Bw w w5):=⟨by
   unfold ed;rw[Qu rfl,List.map_singleton,ax],p.lower bC,aj HB.o B⟩
  clear A ax ay C mH p l B c0 c1 c2 c3 c4 c5 c6;obtain⟨qF,iq,Cw⟩:=P;unfold ae.val at Q;simp only at*;go_wp2_with (first|(at_builtin;refine Xy rfl (.tmp 19) (.tmp 21) 30 rfl (Z E5 0 0) (Z (O (aD (M (H w2)) 0)) 1 1) (Z va vm vc) w5 rfl rfl Q ?_));go_wp2;go_ret;exact⟨_,_,rfl,HF.o⟩
 .have dN:((N f:Int)==0)=false:=by have h:=Je.2 aQ;grind
  have bD:Wl (ed f k (rs.map ae.xs)=oF f k (N rs) (rs.map ae.xs)):=show _=_ by unfold ed;rw[QC aQ,Q8]
  have cK:=HX.o.2.2.2.1;obtain⟨u,aK⟩:=eY (rs);rw[<-aK]at aS aT bD;have R:Wl (∀r∈rs,r∈u):=λr hr=>by rw[aK];exact hr
  have ah:Wl (([]:List ae).map ae.xs++oF f k (N rs) (rs.map ae.xs)=oF f k (N u) (u.map ae.xs)):=show _=_ by rw[aK];rfl
  have Mh:Wl (ed f k (u.map ae.xs)=ed f k (rs.map ae.xs)):=show _=_ by rw[aK]
  go_enter Tryz.func40,Tryz.ntmps40;go_wp2_with fail;rw[bB.o];go_loopw [1,5] (λrv v wr=>∃(d:List ae) (L:Option Addr) (D n:Nat) (ys:List ae),rv=Z L (N d) D/\N d<=n/\N d<=100000/\N ys+N d<=100000/\Wl (∀r∈d,r∈u)/\Wl (qd 3 wr L d)/\Wl (ys.map ae.xs++oF f k n (d.map ae.xs)=oF f k (N u) (u.map ae.xs))/\Wl (Listed 23 3 (M (H w1)) v ys wr)/\Bw w1 wr) (λrv _ _=>ahf rv)
  case atStart=>exact⟨rs,ao,cap,N rs,[],rfl,Qs _,hl,by simpa using hl,R.o,HR.o,ah.o,Listed.nil _ _ _ _,Qr _ _⟩
  case round=>
   clear HR ah R;obtain⟨d,L,D,n,ys,rfl,dP,aL,dQ,R,HR,ah,HL,y⟩:=hrel;clear hl;obtain⟨oa,om,oc,rfl⟩:=Xg HL.o.own;by_cases aR:d = []
   .subst aR;have HF:Wl (ys.map ae.xs=ed f k (rs.map ae.xs)):=show _=_ by
     rw[<-Mh.o,bD.o,<-ah.o];have e:oF f k n (([]:List ae).map ae.xs)=[]:=by cases n <;> rfl
     rw[e,QN]
    simp only[ZO]at*;go_wp2;go_ret;exact⟨_,ys,rfl,HF.o,HL.o.lower bC,aj HB.o y⟩
   .obtain⟨z,tl,aN⟩:=List.exists_cons_of_ne_nil aR;have h0:=Je.2 aR;clear aR;obtain⟨m,rfl⟩:∃m,n=m+1:=⟨n-1,by omega⟩
    obtain⟨b,off,rfl,bq⟩:=Qf HR.o.1.2.1 h0;have aU:E d 0 iz=z:=by rw[aN];rfl
    have Oe:=bq 0 h0;rw[aU]at Oe;have aW:z∈d:=by rw[aN];simp
    have aX:Wl (ae.At z wr):=by have:=HR.o.1.2.2 0 h0;rw[aU]at this;exact this
    have bE:=Zh (aT.o z (R.o z aW));obtain⟨same,K⟩:∃same:ae->Bool,same=λr=>decide (aB r.xs f=aB z.xs f):=⟨_,rfl⟩;have bG:Wl (∀r,same r=pI r.xs z.xs f):=λr=>by rw[K,Yc]
    have cO:Wl (ys.map ae.xs++(uT f k ((d.filter same).map ae.xs)::oF f k m ((d.filter λr=>!same r).map ae.xs))=oF f k (N u) (u.map ae.xs)):=show _=_ by rw[<-ah.o,K,Ar (λx=>decide (aB x f=aB z.xs f)),Ar (λx=>!decide (aB x f=aB z.xs f)),aN,Zd];rfl
    have Gd:Wl (same z=T):=show _=_ by rw[K];simp
    have cZ:Wl (N (d.filter λr=>!same r)<N d):=show _<_ from List.length_filter_lt_length_iff_exists.2 ⟨z,aW,by rw[Gd.o];simp⟩;have bH:Wl (d.filter same≠[]):=λh=>by grind
    have aY:=Zh bq;clear K aW ah bq aN aU;rw[Zp]at Oe;obtain⟨wk,bV⟩:=eY (wr);obtain⟨JU,bu⟩:=aV y Oe;rw[<-bV]at JU HL HR aY aX bu;go_wp2;rw[<-bV];obtain⟨dz,dA,zs⟩:=z;unfold ae.val ae.At at*;simp only at*;go_loopw [7,8,9] (λv7 v8 P wr=>∃(i:Nat),i<=N d/\P=I J i/\Wl (Listed 23 3 (M (H wk)) v7 ((d.take i).filter same) wr)/\Wl (Listed 23 3 (M (H wk)) v8 ((d.take i).filter λr=>!same r) wr)/\Wl (∀b,v7.ownBlock=O b->v8.ownBlock≠O b)/\Bw wk wr) (λ_ _ P _=>N d-(intOf P).toNat)
    case atStart=>exact⟨0,Q4 _,rfl,Listed.nil _ _ _ _,Listed.nil _ _ _ _,λb t=>(by cases t),Qr _ _⟩
    case round=>
     obtain⟨i,dR,rfl,H7,H8,aa,y⟩:=hrel;have G:=aj JU.o y;obtain⟨a7,m7,c7,rfl⟩:=Xg H7.o.own;obtain⟨a8,m8,c8,rfl⟩:=Xg H8.o.own;by_cases aA:i<N d
     .obtain⟨aO,bW⟩:=gy y (aY.o i aA) bu.o;have h3:=cB G cK;have bI:E d i iz∈d:=Xx aA;have bK:=qd.below y HR.o;have aZ:=bK.2 _ bI;have bL:=bK.1.2.2 i aA;have aC:=Fj same d iz aA;have aF:=Fj (λr=>!same r) d iz aA;have bf:N ((d.take i).filter same)<=1000000:=by have h1:=XP same (d.take i);rw[XK]at h1;omega
      have bM:N ((d.take i).filter λr=>!same r)<=1000000:=by have h1:=XP (λr=>!same r) (d.take i);rw[XK]at h1;omega
      have bN:=aT.o _ (R.o _ bI);have bO:=bG.o (E d i iz);have ai:=λW (hW:Bw wr W)=>adh (E d i iz).ad dz nU (E d i iz).cap dA eQ (E d i iz).xs zs f W (Qt hW bL) (Qt hW (Qt y aX.o)) (Qt hW (Qt G HK.o)) bN bE.o;rw[<-bO]at ai;obtain⟨bb,bz⟩:=eY (same (E d i iz));rw[<-bz]at ai aC;rw[<-bz]at aF;clear bO bL bN;obtain⟨xx,bX⟩:=eY (E d i iz);rw[<-bX]at aO aZ aC aF ai;clear bX bz;obtain⟨dB,bY,bZ⟩:=fe aZ aC aF;clear aZ aC aF;obtain⟨fO,bF,xs⟩:=xx;unfold ae.val at*;simp only at*;go_wp2;refine Qw ?_;refine qA8 ?_;refine lQ ?_;go_big_quiet_want;refine⟨EP bb,λx hx=>?_,?_⟩
      .have hC:=Qx hx (ai x hx);go_simp
      simp only[pU];go_big_quiet_on;refine lQ ?_;refine XH ?_;intro W hW;have bP:=cB hW aO;have ak:=aj y hW;have S:=H7.o.below hW;have X:=H8.o.below hW;have aG:=(gJ 3).keep dB.o hW.size (λb dK _=>hW.block b dK);have ag:=ak.size
      cases bb with
      |true =>
       obtain⟨v',w5,Q,p,l,⟨va,vm,vc,rfl⟩,TQ⟩:=mV W (M (H wk)) (Z a7 m7 c7) _ S bf ag (ae.mk fO bF xs) aG 30;have bg:=X.beside Tryz.iR S.own l (λb t e=>aa.o b e t);have au:∀b,(Value.slice va vm vc).ownBlock=O b->(Value.slice a8 m8 c8).ownBlock≠O b:=λb t e=>by
        rcases TQ with h|h
        .rw[h]at t;exact aa.o b t e
        .rw[h]at t;cases t
         have:=(Xf X.own e).2;omega
       have B:=ak.trans (l.below ag (λb t e=>by have:=(Xf S.own e).1;omega));have e7:(d.take i).filter same++[ae.mk fO bF xs]=(d.take (i+1)).filter same:=by rw[bY.o];rfl
       have e8:((d.take i).filter λr=>!same r)=(d.take (i+1)).filter λr=>!same r:=by rw[bZ.o];simp
       rw[e7]at p;rw[e8]at bg;obtain⟨TK,dC,bA,jS⟩:=xA p bg au B;clear p bg au B TQ l S X aG e7 e8 ai aO bW h3 G ak hW y H7 H8 aa;unfold ae.val at Q;simp only at Q;go_wp2_with (first|(at_builtin;refine Xy rfl (.tmp 43) (.tmp 48) 30 rfl (Z a7 m7 c7) (Z (O (aD (M (H W)) 0)) 1 1) (Z va vm vc) w5 rfl rfl Q ?_));clear Q bP;go_wp2;go_roundw
       case rel=>exact⟨i+1,by omega,by go_num,TK.o,dC.o,bA.o,jS.o⟩
       case measure=>simp[intOf];omega
      |false =>
       obtain⟨v',w5,Q,p,l,⟨va,vm,vc,rfl⟩,TQ⟩:=mV W (M (H wk)) (Z a8 m8 c8) _ X bM ag (ae.mk fO bF xs) aG 30;have bn:=S.beside Tryz.iR X.own l (λb t e=>aa.o b t e);have au:∀b,(Value.slice a7 m7 c7).ownBlock=O b->(Value.slice va vm vc).ownBlock≠O b:=λb t e=>by
        rcases TQ with h|h
        .rw[h]at e;exact aa.o b t e
        .rw[h]at e;cases e
         have:=(Xf S.own t).2;omega
       have B:=ak.trans (l.below ag (λb t e=>by have:=(Xf X.own e).1;omega));have e8:((d.take i).filter λr=>!same r)++[ae.mk fO bF xs]=(d.take (i+1)).filter λr=>!same r:=by rw[bZ.o];rfl
       have e7:(d.take i).filter same=(d.take (i+1)).filter same:=by rw[bY.o];simp
       rw[e8]at p;rw[e7]at bn;obtain⟨TK,dD,bA,jS⟩:=xA p bn au B;clear p bn au B TQ l S X aG e7 e8 ai aO bW h3 G ak hW y H7 H8 aa;unfold ae.val at Q;simp only at Q;go_wp2_with (first|(at_builtin;refine Xy rfl (.tmp 50) (.tmp 55) 30 rfl (Z a8 m8 c8) (Z (O (aD (M (H W)) 0)) 1 1) (Z va vm vc) w5 rfl rfl Q ?_));clear Q bP;go_wp2;go_roundw
       case rel=>exact⟨i+1,by omega,by go_num,dD.o,TK.o,bA.o,jS.o⟩
       case measure=>simp[intOf];omega
     .have bQ:d.take i=d:=Xt (by omega);rw[bQ]at H7 H8;have bf:N (d.filter same)<=100000:=Q6 (XP _ _) aL;have bM:N (d.filter λr=>!same r)<=100000:=Q6 (XP _ _) aL;obtain⟨dE,dF,dG,cu⟩:=H7.o.ug (by omega);obtain⟨dS,dU,dH,cz⟩:=H8.o.ug (by omega);have A:=aS.o dE dF (d.filter same) wr G cu.1 bf (λr hr=>R.o r (Zj.1 hr).1) (.inr bH.o);have df:Wl _:=cz;have bR:=HL.o.below y;have dh:Wl (∀a,a8=O a->M (H wk)<=a.block):=λa ha=>by
       rcases H8.o.own.2 with⟨h1,_⟩|⟨g,c,cur,h1,h2,_⟩
       .rw[ha]at h1;cases h1
       .rw[ha]at h1;cases h1;exact h2
      have di:Wl (∀b,(Value.slice oa om oc).ownBlock=O b->b<M (H wk)):=λb t=>(Xf HL.o.own t).2;have dm:Wl (∀r∈d.filter (λr=>!same r),r∈u):=λr hr=>R.o r (Zj.1 hr).1;injection dG with azP azQ azR;injection dH with azS azT azU;subst azP azQ azR azS azT azU;have bS:=cZ.o;generalize dL:d.filter same=os at*;generalize dM:(d.filter λr=>!same r)=ts at*;obtain⟨c0,c1,c2,c3,c4,c5,c6⟩:=HX.o;obtain⟨d0,d1,d2,d3,d4⟩:=ji G c0 c1 c2 c3 c4;obtain⟨d5,d6⟩:=gy G c5 c6;clear dL dM bQ cu cz H7 H8 aa c0 c1 c2 c3 c4 c5 c6 bH aY bE aX bu bG Gd;go_wp2_with fail;refine A.mono ?_;rintro e w2 ⟨P,rfl,ax,ay,C⟩;clear A d0 d1 d2 d3 d4 d5 d6;have av:=bR.below C;have mH:=aj G C;obtain⟨v',w5,Q,p,l,⟨va,vm,vc,rfl⟩,-⟩:=mV w2 (M (H w1)) (Z oa om oc) ys av (by omega) mH.size P ay 30;have bT:=mH.size;have B:=mH.trans (l.below bT (λb t e=>by have:=(Xf av.own e).1;omega));have bU:qd 3 w5 a8 ts:=by
       have aI:=qd.below C df.o;refine⟨⟨aI.1.1,aI.1.2.1.keep ?_,λj hj=>?_⟩,λr hr=>kX Tryz.iR av.own l (aI.2 r hr)⟩
       .intro a ha bS;exact l.block _ bS (λe=>by have:=di.o _ e;have:=dh.o a ha;omega)
       .exact(kX Tryz.iR av.own l (aI.2 _ (Xx hj))).1.1
      have HF:Wl ((ys++[P]).map ae.xs++oF f k m (ts.map ae.xs)=oF f k (N u) (u.map ae.xs)):=show _=_ by rw[<-cO.o,Ql,Zu,List.map_singleton,ax];rfl
      obtain⟨TK,jS⟩:=aV p B;have dn:Wl _:=bU;clear p B bU ax ay C av mH l bT G y bR;obtain⟨qF,iq,Cw⟩:=P;unfold ae.val at Q;simp only at*;go_wp2_with (first|(at_builtin;refine Xy rfl (.tmp 60) (.tmp 62) 30 rfl (Z oa om oc) (Z (O (aD (M (H w2)) 0)) 1 1) (Z va vm vc) w5 rfl rfl Q ?_));clear Q;go_wp2;go_roundw
      case rel=>exact⟨ts,a8,c8,m,ys++[ae.mk qF iq Cw],rfl,by omega,by omega,by rw[QI];simp;omega,dm.o,dn.o,HF.o,TK.o,jS.o⟩
      case measure=>simp[ahf];omega
theorem adj{a b:Int}(h:a≠b):jW a b=decide (dP a b<0):=by unfold jW dP;grind
def MO(xs ys:List Int):∀ps,kI xs ys ps=GM ps xs ys
 |[]=>rfl
 |p::ps=>by
  unfold kI GM cmpL;by_cases h:E xs p.toNat 0=E ys p.toNat 0
  .rw[Qu h,Qu (nI.2 h),MO xs ys ps];rfl
  .rw[QC h,QC (λe=>h (nI.1 e)),adj h]
def Fp{e:TypeId}{u:KX}(h:w.ownsRow base e 1 (Z (O (aD g 0)) n cap) n xs)(_hj:j<n):(qw w (aD g j) u).ownsRow base e 1 (Z (O (aD g 0)) n cap) n (xs.set j u):=by
 refine⟨by rw[Jm];exact h.1,?_⟩;rcases h.2 with⟨h1,_⟩|⟨g',cap',cur,h1,h2,h3,h4,h5,h6,h7⟩
 .cases h1
 .cases h1
  have a:GB w g e cur:=h3;have b:=a.set j u;refine .inr ⟨g,cap,_,rfl,h2,b,h4,h5,by rw[Jn];exact h6,?_⟩;rw[<-h7,Array.toList_setIfInBounds,List.take_set]
def Listed.set(hne:tI≠tE){L:List ae}{x:ae}(h:Listed tI tE base (Z (O (aD g 0)) n cap) L W)(hn:n=N L)(hj:j<n)(hx:(gJ tE).At x W):Listed tI tE base (Z (O (aD g 0)) n cap) (L.set j x) (qw W (aD g j) x.val):=by
 subst hn;have d:Kept (λb=>(Value.slice (O (aD g 0)) (N L) cap).ownBlock≠O b) W (qw W (aD g j) x.val):=Xc _ _ _ (λh=>h rfl);refine⟨?_,λy hy=>?_⟩
 .rw[Jm,List.map_set];exact Fp h.own hj
 .rcases List.mem_or_eq_of_mem_set hy with a|a
  .exact kX hne h.own d (h.at' y a)
  .rw[a];exact kX hne h.own d hx
theorem Listed.frozen{tI tE:TypeId}{base g cap n:Nat}{L:List ae}{W:U}(h:Listed tI tE base (Z (O (aD g 0)) n cap) L W)(j:Nat):W.frozen? (aD g j)=false:=by obtain⟨a,e⟩:=lY h.own (b:=g) rfl;have d:GB W g tI a:=e;exact d.frozen j
theorem Listed.cell{tI tE:TypeId}{base g cap n:Nat}{L:List ae}{W:U}(h:Listed tI tE base (Z (O (aD g 0)) n cap) L W){j:Nat}(hj:j<N L):Am W (aD g j)=O (E L j iz).val:=by
 rcases mU h.own with⟨h1,_⟩|⟨g',cap',h1,_,_,h4⟩
 .cases h1
 .cases h1
  have:=h4 j (E L j iz).val (by grind);rw[iw,Q5]at this;exact this
def ahh(e:TypeId)(W:U):(gJ e).At iz W:=⟨⟨⟨by simp[iz],λi b=>absurd b (by simp[iz])⟩,(λa d=>(by cases d)),λ_=>rfl⟩,Xl _ _ _ _⟩
def JC(zs:List ae)(c:ae)(hk:k<N zs):(zs.take (k+1)++c::zs.drop (k+1)).set (k+1) (E zs k iz)=zs.take k++E zs k iz::zs.drop k:=by
 have a:N (zs.take (k+1))=k+1:=by rw[XK];omega
 rw[List.set_append_right _ _ (by omega),a,Xr,Qc,<-ZL zs iz hk];have e:E zs k iz=zs[k]:=by simp[List.getD,hk]
 have b:zs.drop k=zs[k]::zs.drop (k+1):=Zw hk;rw[b,e,Zu];rfl
theorem zD(zs:List ae)(c:ae)(hk:k<N zs):E (zs.take (k+1)++c::zs.drop (k+1)) k iz=E zs k iz:=by grind
theorem MQ(zs:List ae)(c:ae)(k:Nat)(hk:k<=N zs):N (zs.take k++c::zs.drop k)=N zs+1:=by grind
def MR(S1 S2:List ae)(c x:ae):((S1++S2).take (N S1)++c::(S1++S2).drop (N S1)).set (N S1) x=S1++x::S2:=by simp
theorem Fs(ao:Option Addr)(cap:Nat)(rs:List ae)(c:ae)(w:U)(hr:qd 3 w ao rs)(hc:c.At w)(hl:N rs<=100000)(hin:∀r∈rs,aM c.xs (N r.xs)=T) :
  Calls V 39 #[Z ao (N rs) cap,c.val] w λe w'=>∃v ys,e=FR v/\ys.map ae.xs=fI c.xs (rs.map ae.xs)/\Listed 23 3 (M (H w)) v ys w'/\Bw w w':=by
 obtain⟨ng,dK,ps⟩:=c;unfold ae.val;simp only at*;obtain⟨lt,bD⟩:∃lt:ae->ae->Bool,lt=λx y=>GM ps x.xs y.xs:=⟨_,rfl⟩;have bH:Wl (∀x y,lt x y=kI x.xs y.xs ps):=λx y=>by rw[bD,MO]
 have uD:Wl ((mg lt [] rs).map ae.xs=fI ps (rs.map ae.xs)):=show _=_ by rw[bD];exact Nk (f:=ae.xs) (lt':=GM ps) (λ_ _=>rfl) rs []
 have HR:Wl _:=hr;have HC:Wl _:=hc;have LX:Wl _:=hin;go_enter Tryz.func39,Tryz.ntmps39;go_wp2;go_loopw [5,6] (λv iv wr=>∃(i:Nat),i<=N rs/\iv=I J i/\Wl (Listed 23 3 (M (H w)) v (mg lt [] (rs.take i)) wr)/\Bw w wr) (λ_ iv _=>N rs-(intOf iv).toNat)
 case atStart=>exact⟨0,Q4 _,rfl,Listed.nil _ _ _ _,Qr _ _⟩
 case round=>
  obtain⟨i,di,rfl,A,m⟩:=hrel;by_cases az:i<N rs
  .obtain⟨b,off,rfl,bZ⟩:=Qf HR.o.1.2.1 az;have X:Wl _:=bZ i az;have bn:E rs i iz∈rs:=Xx az;have bq:Wl _:=HR.o.2 _ bn;have bI:Wl _:=HR.o.1.2.2 i az;have bJ:Wl _:=LX.o _ bn;have bK:mg lt [] (rs.take (i+1))=jJ lt (E rs i iz) (mg lt [] (rs.take i)):=by rw[<-ZL rs iz az,Dv,GJ]
   have aa:N (mg lt [] (rs.take i))=i:=by rw[pg,XK];simp;omega
   have bu:Wl (∀z∈mg lt [] (rs.take i),aM ps (N z.xs)=T):=λz hz=>by
    rcases xV.1 hz with h|h
    .cases h
    .exact LX.o z (XC h)
   have aJ:Wl _:=bK;obtain⟨d,cu⟩:=eY (mg lt [] (rs.take i));rw[<-cu]at A bu aJ aa;generalize E rs i iz=x at*;have bL:=m.size;obtain⟨aT,D,cz,iW⟩:=A.o.ug (by omega);subst cz;rw[aa];have aK:Wl _:=iW;have aL:Wl (Listed 23 3 (M (H w)) (Z aT i D) d wr):=by grind
   have JU:Wl _:=m;obtain⟨wk,bE⟩:=eY (wr);rw[<-bE]at aK aL JU bL;go_wp2;rw[<-bE];obtain⟨Q,R,xs⟩:=x;unfold ae.val at X;simp only at X;go_loopw [7] (λav wr=>∃(S1 S2:List ae),av=I J (N S1:Nat)/\N S1<=i/\Wl (d=S1++S2/\∀s∈S2,lt ⟨Q,R,xs⟩ s=T)/\Bw wk wr) (λav _=>(intOf av).toNat)
   case atStart=>exact⟨d,[],by rw[aa],by omega,⟨by simp,λs hs=>(by cases hs)⟩,Qr _ _⟩
   case round=>
    obtain⟨S1,S2,rfl,dm,S,m⟩:=hrel;have aA:=aj JU.o m;obtain⟨C,TS⟩:=eY (N S1);have af:Wl (C=N S1/\C<=i):=⟨TS,by omega⟩;rw[<-TS];rcases XX S1 with aI|⟨S3,y,aI⟩
    .subst aI;have aN:Wl (jJ lt ⟨Q,R,xs⟩ d=[]++ae.mk Q R xs::S2):=show _=_ by rw[S.o.1];exact rG (lt:=lt) (A1:=[]) S.o.2
     have bM:C=0:=TS;have df:¬((C:Int) > 0):=by omega
     have dh:¬(0<C):=by omega
     have Td:decide ((0:Int)<(C:Int))=false:=QX (by omega);clear TS aA bM;go_wp2_with fail;go_quiet (fail);have G:=Qy m nq;have bN:=G.size;have ag:=aj JU.o G;have ah:=aL.o.below G;have ai:=ag.size;obtain⟨v',w5,iW,ay,aU,-,-⟩:=mV (wr.drewN nq) (M (H w)) (Z aT i D) d ah (by omega) ai iz (ahh _ _) 30;have aO:Bw w w5:=ag.trans (aU.below ai (λb hb e=>by have:=(Xf ah.own e).1;omega));have aP:N (d++[iz])=i+1:=by rw[QI,aa];rfl
     obtain⟨g,sS,rfl,aV⟩:∃g sS,v' = Z (O (aD g 0)) (i+1) sS/\M (H w)<=g:=by
      rcases mU ay.own with⟨_,h2⟩|⟨g,gc,h1,h2,_,_⟩
      .have:=congrArg N h2;rw[Q8]at this;simp at this
      .exact⟨g,gc,by rw[h1,aP],h2⟩
     have TK:Wl (Listed 23 3 (M (H w)) (Z (O (aD g 0)) (i+1) sS) (d.take i++iz::d.drop i) w5):=by show Listed _ _ _ _ _ _;have e1:d.take i=d:=Xt (by omega);have e2:d.drop i=[]:=List.drop_eq_nil_of_le (by omega);rw[e1,e2];exact ay
     have jS:Wl _:=aO;have ak:Wl _:=aV;simp only[iz,ae.val,ZO]at iW;go_wp2_with (first|(at_builtin;refine Xy rfl (.tmp 34) (.tmp 35) 30 rfl (Z aT i D) (Z (O (aD (M (H ((wr.drewN nq)))) 0)) 1 1) (Z (O (aD g 0)) (i+1) sS) w5 rfl rfl iW ?_));go_wp2;go_loopw [8] (λkv wr=>∃(k:Nat) (B:ae),kv=I J k/\C<=k/\k<=i/\Wl (Listed 23 3 (M (H w)) (Z (O (aD g 0)) (i+1) sS) (d.take k++B::d.drop k) wr)/\Bw w wr) (λkv _=>(intOf kv).toNat)
     case atStart=>exact⟨i,iz,by first|rfl|go_num,af.o.2,Qs _,TK.o,jS.o⟩
     case round=>
      clear TK jS;obtain⟨k,B,rfl,cK,cO,A,m⟩:=hrel;have bz:=MQ d B k (by omega);by_cases cZ:C<k
      .obtain⟨l,rfl⟩:∃l,k=l+1:=⟨k-1,by omega⟩
       have K:l<N d:=by omega
       have u:=A.o.cell (j:=l) (by omega);rw[zD d B K]at u;have aQ:=A.o.frozen (l+1);have q:=A.o.cell (j:=l+1) (by omega);have au:E d l iz∈d.take (l+1)++B::d.drop (l+1):=by rw[<-zD d B K];exact Xx (by omega)
       have a:=A.o.set Tryz.iR (j:=l+1) (by omega) (by omega) (A.o.at' _ au);rw[JC d B K]at a;have t:Bw w (qw wr (aD g (l+1)) (E d l iz).val):=m.setCell (p:=(aD g (l+1))) ak.o _;have nJ:wrap64 (((l+1:Nat):Int)-1)=(l:Int):=by unfold wrap64;omega
       have bO:((l+1:Nat):Int)-1=(l:Int):=by omega
       have bP:(l:Int)+1-1=(l:Int):=by omega
       generalize bG:E (d.take (l+1)++B::d.drop (l+1)) (l+1) iz=TT at*;generalize E d l iz=y at*;obtain⟨uk,jb,uB⟩:=y;obtain⟨aW,aX,aY⟩:=TT;unfold ae.val at u q a t;simp only at u q a t;have Km:Wl _:=a;have R9:Wl _:=t;go_wp2;go_roundw
       case rel=>exact⟨l,ae.mk uk jb uB,by first|rfl|go_num,by omega,by omega,Km.o,R9.o⟩
       case measure=>simp[intOf]
      .obtain rfl:k=C:=by omega
       have bQ:=cB m X.o;have aQ:=A.o.frozen k;have q:=A.o.cell (j:=k) (by omega);have aB:=(gJ 3).keep bq.o m.size (λb bg _=>m.block b bg);have a:=A.o.set Tryz.iR (j:=k) (by omega) (by omega) aB;have e:(d.take k++B::d.drop k).set k (ae.mk Q R xs)=mg lt [] (rs.take (i+1)):=by rw[aJ.o,aN.o,S.o.1,af.o.1];exact MR _ _ _ _
       rw[e]at a;have t:Bw w (qw wr (aD g k) (ae.mk Q R xs).val):=m.setCell (p:=(aD g k)) ak.o _;generalize E (d.take k++B::d.drop k) k iz=TT at*;obtain⟨aW,aX,aY⟩:=TT;unfold ae.val at q a t;simp only at q a t;have Km:Wl _:=a;have R9:Wl _:=t;clear a t aB e bz A m;go_wp2;go_roundw
       case rel=>exact⟨i+1,by omega,by go_num,Km.o,R9.o⟩
       case measure=>simp[intOf];omega
    .rw[XY]at aI;subst aI;obtain⟨jp,aZ⟩:∃jp,C=jp+1:=⟨N S3,by rw[TS,QI];rfl⟩
     have ax:jp=N S3:=by rw[aZ]at TS;simpa using TS
     have aC:E d jp iz=y:=by rw[S.o.1,ax];simp[List.getD]
     have aR:jp<N d:=by rw[S.o.1,ax];simp
     have aS:y∈d:=by rw[S.o.1];simp
     obtain⟨g5,o5,rfl,bf⟩:=Qf aK.o.1.2.1 aR;have P:=cB m (bf jp aR);rw[aC]at P;have bR:=cB aA X.o;have aF:=Qt m (aK.o.1.2.2 jp aR);rw[aC]at aF;have aG:=λW (hW:Bw wr W)=>Ya Q y.ad ng R y.cap dK xs y.xs ps W (Qt hW (Qt aA bI.o)) (Qt hW aF) (Qt hW (Qt aA HC.o)) bJ.o (bu.o y aS);have aH:=bH.o (ae.mk Q R xs) y;simp only at aH;rw[<-aH]at aG;have bS:wrap64 ((C:Int)-1)=(jp:Int):=by unfold wrap64;omega
     have bT:(C:Int)-1=(jp:Int):=by omega
     have bU:((C:Int) > 0):=by omega
     have bA:0<C:=by omega
     have bV:decide ((0:Int)<(C:Int))=true:=QD (by omega);have bW:jp<i:=by omega
     have L:=λn=>aG (wr.drewN n) (Qy (Qr _ _) n);have bB:Wl _:=ax;have bC:Wl _:=aZ;clear aZ TS
     cases hlv:lt (ae.mk Q R xs) y with
     |true =>
      rw[hlv]at L;have bX:Wl (d=S3++(y::S2)/\∀s∈y::S2,lt ⟨Q,R,xs⟩ s=T):=⟨by rw[S.o.1];simp,λs hs=>by
       rcases QP.1 hs with h|h
       .rw[h];exact hlv
       .exact S.o.2 s h⟩
      clear aG aH aC aS aF hlv bf ax S af;obtain⟨uk,jb,uB⟩:=y;unfold ae.val at P;simp only at P L;go_wp2_with fail;go_quiet ((go_at_call 78;exact Calls.quiet_of_same (L _)));go_wp2;go_roundw
      case rel=>exact⟨S3,ae.mk uk jb uB::S2,by rw[<-bB.o],by have:=bB.o;have:=bC.o;omega,bX.o,Qy m _⟩
      case measure=>have:=bC.o;simp[intOf];omega
     |false =>
      rw[hlv]at L;have aN:Wl (jJ lt ⟨Q,R,xs⟩ d=(S3++[y])++ae.mk Q R xs::S2):=show _=_ by rw[S.o.1,rG S.o.2,Li,QC (by rw[hlv];simp)];simp
      clear aG aH aC aS aF hlv bf ax;obtain⟨uk,jb,uB⟩:=y;unfold ae.val at P;simp only at P L;go_wp2_with fail;go_quiet ((go_at_call 78;exact Calls.quiet_of_same (L _)));have G:=Qy m nq;clear P bR L bS bT bU bA bV bW;have bN:=G.size;have ag:=aj JU.o G;have ah:=aL.o.below G;have ai:=ag.size;obtain⟨v',w5,iW,ay,aU,-,-⟩:=mV (wr.drewN nq) (M (H w)) (Z (O (aD g5 o5)) i D) d ah (by omega) ai iz (ahh _ _) 30;have aO:Bw w w5:=ag.trans (aU.below ai (λb hb e=>by have:=(Xf ah.own e).1;omega));have aP:N (d++[iz])=i+1:=by rw[QI,aa];rfl
      obtain⟨g,sS,rfl,aV⟩:∃g sS,v' = Z (O (aD g 0)) (i+1) sS/\M (H w)<=g:=by
       rcases mU ay.own with⟨_,h2⟩|⟨g,gc,h1,h2,_,_⟩
       .have:=congrArg N h2;rw[Q8]at this;simp at this
       .exact⟨g,gc,by rw[h1,aP],h2⟩
      have TK:Wl (Listed 23 3 (M (H w)) (Z (O (aD g 0)) (i+1) sS) (d.take i++iz::d.drop i) w5):=by show Listed _ _ _ _ _ _;have e1:d.take i=d:=Xt (by omega);have e2:d.drop i=[]:=List.drop_eq_nil_of_le (by omega);rw[e1,e2];exact ay
      have jS:Wl _:=aO;have ak:Wl _:=aV;simp only[iz,ae.val,ZO]at iW;go_wp2_with (first|(at_builtin;refine Xy rfl (.tmp 34) (.tmp 35) 30 rfl (Z (O (aD g5 o5)) i D) (Z (O (aD (M (H ((wr.drewN nq)))) 0)) 1 1) (Z (O (aD g 0)) (i+1) sS) w5 rfl rfl iW ?_));go_wp2;go_loopw [8] (λkv wr=>∃(k:Nat) (B:ae),kv=I J k/\C<=k/\k<=i/\Wl (Listed 23 3 (M (H w)) (Z (O (aD g 0)) (i+1) sS) (d.take k++B::d.drop k) wr)/\Bw w wr) (λkv _=>(intOf kv).toNat)
      case atStart=>exact⟨i,iz,by first|rfl|go_num,af.o.2,Qs _,TK.o,jS.o⟩
      case round=>
       clear TK jS;obtain⟨k,B,rfl,cK,cO,A,m⟩:=hrel;have bz:=MQ d B k (by omega);by_cases cZ:C<k
       .obtain⟨l,rfl⟩:∃l,k=l+1:=⟨k-1,by omega⟩
        have K:l<N d:=by omega
        have u:=A.o.cell (j:=l) (by omega);rw[zD d B K]at u;have aQ:=A.o.frozen (l+1);have q:=A.o.cell (j:=l+1) (by omega);have au:E d l iz∈d.take (l+1)++B::d.drop (l+1):=by rw[<-zD d B K];exact Xx (by omega)
        have a:=A.o.set Tryz.iR (j:=l+1) (by omega) (by omega) (A.o.at' _ au);rw[JC d B K]at a;have t:Bw w (qw wr (aD g (l+1)) (E d l iz).val):=m.setCell (p:=(aD g (l+1))) ak.o _;have nJ:wrap64 (((l+1:Nat):Int)-1)=(l:Int):=by unfold wrap64;omega
        have bO:((l+1:Nat):Int)-1=(l:Int):=by omega
        have bP:(l:Int)+1-1=(l:Int):=by omega
        generalize bG:E (d.take (l+1)++B::d.drop (l+1)) (l+1) iz=TT at*;generalize E d l iz=y at*;obtain⟨uk,jb,uB⟩:=y;obtain⟨aW,aX,aY⟩:=TT;unfold ae.val at u q a t;simp only at u q a t;have Km:Wl _:=a;have R9:Wl _:=t;go_wp2;go_roundw
        case rel=>exact⟨l,ae.mk uk jb uB,by first|rfl|go_num,by omega,by omega,Km.o,R9.o⟩
        case measure=>simp[intOf]
       .obtain rfl:k=C:=by omega
        have bQ:=cB m X.o;have aQ:=A.o.frozen k;have q:=A.o.cell (j:=k) (by omega);have aB:=(gJ 3).keep bq.o m.size (λb bg _=>m.block b bg);have a:=A.o.set Tryz.iR (j:=k) (by omega) (by omega) aB;have e:(d.take k++B::d.drop k).set k (ae.mk Q R xs)=mg lt [] (rs.take (i+1)):=by rw[aJ.o,aN.o,S.o.1,af.o.1];exact MR _ _ _ _
        rw[e]at a;have t:Bw w (qw wr (aD g k) (ae.mk Q R xs).val):=m.setCell (p:=(aD g k)) ak.o _;generalize E (d.take k++B::d.drop k) k iz=TT at*;obtain⟨aW,aX,aY⟩:=TT;unfold ae.val at q a t;simp only at q a t;have Km:Wl _:=a;have R9:Wl _:=t;go_wp2;go_roundw
        case rel=>exact⟨i+1,by omega,by go_num,Km.o,R9.o⟩
        case measure=>simp[intOf];omega
  .have bY:rs.take i=rs:=Xt (by omega);rw[bY]at A;obtain⟨oa,om,oc,rfl⟩:=Xg A.o.own;go_wp2;go_ret;exact⟨_,_,rfl,uD.o,A.o,m⟩
def Yw(W:U)(base:Nat)(v:KX)(xs:List KX)(hown:W.ownsRow base 23 1 v (N xs) xs)(hl:N xs<=1000000)(hb:base<=M (H W))(a:Option Addr)(m c:Nat)(ty:TypeId) :
  ∃d f,(Builtin.append_ #[30,30] ty #[v,Z (O (aD (M (H W)) 0)) 1 1]).run V (W.alloc (FL #[Z a m c] 23))=.ok d f/\
   f.ownsRow base 23 1 d (N xs+1) (xs++[Z a m c])/\Kept (λb=>v.ownBlock≠O b) W f/\(∃a m c,d = Z a m c)/\(d.ownBlock=v.ownBlock∨d.ownBlock=O (M (H W)+1)):=by
 obtain⟨q,y,i,j,k⟩:=Xk Tryz.xY;obtain⟨d,f,l,n,z,_,g⟩:=Xz (P:=V) (W.alloc (FL #[.slice a m c] 23)) base 30 ty 23 q (.slice E5 0 0) 1 24 Tryz.underlying30 y i j k rfl (by decide) v (N xs) xs (hown.alloc _) (aD (M (H W)) 0) 1 1 [.slice a m c] rfl
  (World.news_of_block (cs:=#[Z a m c]) (t:=23) (fr:=(0,0)) (iX W _)) (λu p=>by rw[Xj]at p;rw[p];rfl) (by unfold maxLen;omega) (by omega) (by rw[Xm];omega)
 exact⟨d,f,l,n,(ZE _ _).trans (Xd z (λr e l=>l e)),Xg n,by rw[Xm]at g;exact g⟩
theorem adL(bb n:Nat)(es:List ae)(ms:List Int)(vi vm:KX)(l:ae)(W:U)(hB:bK W bb 33 23 3 n es ms vi vm)(hl:(gJ 3).At l W)
  (hoff:∀b,ah.aT l=O b->b≠bb/\vm.ownBlock≠O b/\∀e∈es,ah.aT e≠O b) (hn:n<=100000) (hes:N es<=900000) (hll:N l.xs<=1000) :
  Calls V 28 #[Y (O (aD bb 0)),l.val] W λe W'=>e=FR (Ph #[])/\∃y aC A B,bK W' bb 33 23 3 (n+1) y aC A B/\N y=N es+4/\Kept (λb=>¬Chg bb vi vm l b) W W'/\
   ∀b,bK.own bb y A B b->bK.own bb es vi vm b∨Chg bb vi vm l b∨M (H W)<=b:=by
 obtain⟨W1,G⟩:=eY (qw W (aD bb 0) (I J ((n+1:Nat):Int)));have aF:=hB.cell.lt;obtain⟨m,hm⟩:∃m:Int,m=77777+((n+1:Nat):Int):=⟨_,rfl⟩;have D:=JQ l 3 hl;have q:Kept (λb=>b≠bb) W W1:=by rw[G];exact Xc _ _ _ (λh=>h rfl)
 have aG:=Xe hl.2 q (λb e=>(hoff b ((D b).2 e)).1);have aH:vi.ownBlock≠O bb:=λe=>by have:=(Xf hB.ints e).1;omega
 have aI:vm.ownBlock≠O bb:=λe=>by have:=(Xf hB.marks e).1;omega
 -- behind the first loop
 have aZ:Wl (∀P:U,Kept (λb=>l.val.ownBlock≠O b) W1 P->P.ownsRow 0 3 1 l.val (N l.xs) ((List.replicate (N l.xs) m).map (Value.int J))->KQ W P bb 33 23 3 (n+1) es [] ms m (N l.xs) l.val vi vm vi vm l):=by
  intro P t X;have r:Kept (λb=>b≠bb/\l.val.ownBlock≠O b) W P:=(q.mono λb _ h=>h.1).trans (t.mono λb _ h=>h.2);have Q:∀b,l.val.ownBlock=O b->b≠bb/\vm.ownBlock≠O b/\∀e∈es,ah.aT e≠O b:=λb e=>hoff b ((D b).2 e);refine⟨?_,?_,?_,X,λe C=>?_,λf hf=>(by cases hf),λe C b d=>?_,Q,?_,λb d=>?_,λf hf=>(by cases hf),aF⟩
  .have j:=hB.cell.set 0 (I J ((n+1:Nat):Int));rw[<-G]at j;exact j.of (t.block bb j.lt (λe=>(Q bb e).1 rfl))
  .rw[QN];exact Xe hB.ints r (λb e=>⟨λe'=>by subst e';exact aH e,Db Tryz.iR hB.ints hl.2 e⟩)
  .exact Xe hB.marks r (λb e=>⟨λe'=>by subst e';exact aI e,λe'=>(Q b e').2.1 e⟩)
  .obtain⟨k,hk,rfl⟩:=Qv C;have h2:=(hB.ent k hk).1;have e1:E es k iz=es[k]:=by simp[List.getD,hk]
   rw[e1]at h2;exact jf h2 (λb d bC=>r.block b bC ⟨(hB.off _ C b d).1,λe'=>(Q b e').2.2 _ C d⟩)
  .rw[QN]at C;have j:=hB.off e C b d;exact⟨j.1,j.2.1,j.2.2.1,Q0 j.2.2.2 r.size⟩
  .exact r.mono λb _ h=>⟨λe=>h (.inl e),λe=>h (.inr (.inr (.inr ((D b).2 e))))⟩
  .rcases d with d|d|d|d
   .exact .inl (.inl d)
   .exact .inl (.inr (.inl d))
   .exact .inl (.inr (.inr (.inl d)))
   .exact .inl (.inr (.inr (.inr ((D b).2 d))))
 have YV:Wl (∀(P:U) (z:List ae) (v' A B:KX) (len:Nat),N z=4->KQ W P bb 33 23 3 (n+1) es z (ms++List.replicate 4 m) m len v' A B vi vm l->∃y aC A B,bK P bb 33 23 3 (n+1) y aC A B/\N y=N es+4/\Kept (λb=>¬Chg bb vi vm l b) W P/\
   ∀b,bK.own bb y A B b->bK.own bb es vi vm b∨Chg bb vi vm l b∨M (H W)<=b):=by
  intro P z v' A B len hf h;refine⟨es++z,ms++List.replicate 4 m,A,B,h.book (by rw[hf]) hB.len (λk hk=>(hB.ent k hk).2),by rw[QI,hf],h.kept,λb d=>?_⟩;rcases d with d|d|d|⟨e,C,d⟩
  .exact .inl (.inl d)
  .exact .inr (h.J2 b (.inr (.inl d)))
  .exact .inr (h.J2 b (.inr (.inr (.inl d))))
  .rcases Ze.1 C with C|C
   .exact .inl (.inr (.inr (.inr ⟨e,C,d⟩)))
   .exact .inr (h.akA e C b d)
 have c0:=hB.cell.at 0;have z0:=hB.cell.frozen 0;have d0:Am W1 (aD bb 0)=O (I J ((n:Int)+1)):=by have j:=hB.cell.set 0 (I J ((n+1:Nat):Int));rw[<-G]at j;exact j.cell 0
 have aJ:Wl _:=aG;have af:Wl (qw W (aD bb 0) (I J ((n:Int)+1))=W1):=G.symm;have uK:=hB.len;have bf:(77777:Int)+((n:Int)+1)=m:=by rw[hm];rfl
 have bD:wrap64 (77777+((n:Int)+1))=m:=by rw[bf];unfold wrap64;omega
 clear hB hl hoff D q aG aH aI aF G hm;obtain⟨zZ,mW,p⟩:=l;unfold ae.val at*;simp only at*;go_enter Tryz.func28,Tryz.ntmps28;go_upto_region 1 with fail;rw[af.o];go_wp2;have hL:=aJ.o;go_loopw [5] (λiv wr=>∃i:Nat,i<=N p/\iv=I J i/\Wl (wr.ownsRow 0 3 1 (Z zZ (N p) mW) (N p) ((List.replicate i m++p.drop i).map (Value.int J)))/\Wl (Kept (λb=>(Value.slice zZ (N p) mW).ownBlock≠O b) W1 wr)) (λiv _=>N p-(intOf iv).toNat)
 case atStart=>exact⟨0,Q4 _,rfl,hL,Zx _ _⟩
 case round=>
  clear hL aJ;obtain⟨i,bJ,rfl,HO,HK⟩:=hrel;by_cases aB:i<N p
  .obtain⟨g,hg,bL⟩:∃g,zZ=O (aD g 0)/\g<M (H wr):=by
    rcases mU HO.o with⟨_,h2⟩|⟨g,c,j,_,h3,_⟩
    .grind
    .injection j with j;exact⟨g,j,h3⟩
   subst hg;have aa:=Fp (u:=I J m) HO.o aB;have e1:((List.replicate i m++p.drop i).map (Value.int J)).set i (I J m)=(List.replicate (i+1) m++p.drop (i+1)).map (Value.int J):=by rw[<-List.map_set,List.set_append_right _ _ (by simp),Ja,Xr,Zw aB,Qc,List.replicate_succ',Zu];rfl
   rw[e1]at aa;have bg:Am wr (aD g i)=O (I J p[i]):=by
    rcases mU HO.o with⟨j,_⟩|⟨g',c,j,_,_,h4⟩
    .cases j
    .cases j
     have h5:=h4 i (I J p[i]) (by rw[QK,QL (by simp),Ja,Xr,List.getElem?_drop,Zp,Xq aB];rfl);rw[iw,Q5]at h5;exact h5
   have bE:wr.frozen? (aD g i)=false:=by obtain⟨aO,hc⟩:=lY HO.o (b:=g) rfl;have hG:GB wr g 3 aO:=hc;exact hG.frozen i
   have r:Kept (λb=>(Value.slice (O (aD g 0)) (N p) mW).ownBlock≠O b) W1 (qw wr (aD g i) (I J m)):=HK.o.trans (Xc _ _ _ (λh=>h rfl));have HS:Wl _:=aa;have bn:=Zh r;generalize p[i]=TT at*;go_wp2;go_roundw
   case rel=>exact⟨i+1,by omega,by go_num,HS.o,bn.o⟩
   case measure=>simp[intOf];omega
  .obtain rfl:i=N p:=by omega
   have ho:=HO.o;rw[List.drop_length,QN]at ho;have hq:=aZ.o wr HK.o ho;have HQ:=Zh hq;go_wp2;go_loopw [1,6] (λv kv wr=>∃(k:Nat) (z:List ae) (A B:KX),k<=4/\kv=I J k/\N z=k/\Wl (KQ W wr bb 33 23 3 (n+1) es z (ms++List.replicate k m) m (N p+k) v A B vi vm ⟨zZ,mW,p⟩)) (λ_ kv _=>4-(intOf kv).toNat)
   case atStart=>exact⟨0,[],vi,vm,Q4 _,rfl,rfl,by rw[List.replicate_zero,QN];exact HQ.o⟩
   case round=>
    clear HQ;obtain⟨k,z,A,B,bM,rfl,aP,HQ⟩:=hrel;by_cases bN:k<4
    .have h:=HQ.o;obtain⟨f,K,aQ,S,-⟩:=jN h.cur (by rw[Ja];omega);obtain⟨ia,im,ic,rfl⟩:=Xg h.ints;obtain⟨ma,mm,mc,rfl⟩:=Xg h.marks;have ag:=h.cell.lt;have R:N ((es++z).map ae.val)=N (es++z):=by rw[Q8]
     have aK:N (es++z)<=1000000:=by rw[QI];omega
     have ai:=h.ints;rw[<-R]at ai;obtain⟨v1,w1,bq,av,q,⟨pa,pm,pc,rfl⟩,aR⟩:=Yw wr (bb+1) (Z ia im ic) ((es++z).map ae.val) ai (by rw[R];exact aK) (by omega) f.ad (N f.xs) f.cap 30;rw[R]at av;have aj:=JQ f 3 S;rw[<-K]at aj;have L:=h.auf Tryz.iR K.symm aQ S.1.1 aj (λb d=>by
      rcases S.2.2 with⟨j,_⟩|⟨g,c,aO,j,_⟩
      .have h2:f.ad=none:=by unfold ae.val at j;injection j
       have:Option.map (λa:Addr=>a.block) f.ad=O b:=d;rw[h2]at this;cases this
      .have h2:f.ad=O (aD g 0):=by unfold ae.val at j;injection j
       have:Option.map (λa:Addr=>a.block) f.ad=O b:=d;rw[h2]at this;cases this;exact h2) av q aR
     have bF:Am w1 (aD bb 1)=O (Z ia im ic):=(ZK (a:=(aD bb 1)) (q.block bb ag (λe=>by have:=(Xf h.ints e).1;omega))).trans (h.cell.cell 1);have bG:=(Xh (a:=(aD bb 1)) (q.block bb ag (λe=>by have:=(Xf h.ints e).1;omega))).trans (h.cell.frozen 1);have c1:=h.cell.at 1;obtain⟨aS,ax⟩:∃x,x=qw w1 (aD bb 1) (Z pa pm pc):=⟨_,rfl⟩;rw[<-ax]at L
     -- the mark
     have aL:N (ms++List.replicate k m)<=1000000:=by rw[QI,Ja];omega
     obtain⟨v2,w2,bu,X,t,⟨ra,rm,rc,rfl⟩,aU⟩:=iA aS (bb+1) (Z ma mm mc) (ms++List.replicate k m) L.marks aL (by have:=L.cell.lt;omega) m 23;have q2:=L.aui Tryz.iR X t aU;have c2:=L.cell.at 2;have ak:(Value.slice ma mm mc).ownBlock≠O bb:=λe=>by have:=(Xf L.marks e).1;omega
     have bH:=(ZK (a:=(aD bb 2)) (t.block bb L.cell.lt ak)).trans c2;have bI:=(Xh (a:=(aD bb 2)) (t.block bb L.cell.lt ak)).trans (L.cell.frozen 2);obtain⟨ay,az⟩:∃x,x=qw w2 (aD bb 2) (Z ra rm rc):=⟨_,rfl⟩;rw[<-az]at q2
     -- the list
     have au:N (List.replicate (N p+k) m)=N p+k:=Ja ..;have aM:ay.ownsRow 0 3 1 f.val (N (List.replicate (N p+k) m)) ((List.replicate (N p+k) m).map (Value.int J)):=by rw[au,<-K];exact q2.cur
     obtain⟨v3,w3,bz,aV,aA,⟨ta,tm,tc,rfl⟩,PT⟩:=adI ay 0 f.val (List.replicate (N p+k) m) aM (by rw[au];omega) (Q4 _) m 23;rw[<-K]at aA PT;have q3:=q2.auj Tryz.iR aV aA PT;have eM:ms++List.replicate k m++[m]=ms++List.replicate (k+1) m:=by rw[List.replicate_succ',Zu]
     rw[eM]at q3;obtain⟨bA,af,bB⟩:=fe q3 ax.symm az.symm;clear h L q2 q3 HQ ai av q aR X t aU aV aA PT aM au eM aj S aQ ax az aL aK R ak ag YV;rw[K];obtain⟨aW,aX,aY⟩:=f;unfold ae.val at*;simp only at*;go_upto_region 10 with (first|(at_builtin;refine Xy rfl (.tmp 38) (.tmp 40) 30 rfl (Z ia im ic) (Z (O (aD (M (H wr)) 0)) 1 1) (Z pa pm pc) w1 rfl rfl bq ?_));rw[af.o];go_upto_region 11 with (first|(at_builtin;refine Xy rfl (.tmp 48) (.tmp 50) 23 rfl (Z ma mm mc) (Z (O (aD (M (H aS)) 0)) 1 1) (Z ra rm rc) w2 rfl rfl bu ?_));rw[bB.o];go_wp2_with (first|(at_builtin;refine Xy rfl (.tmp 54) (.tmp 56) 23 rfl (Z aW (N aY) aX) (Z (O (aD (M (H ay)) 0)) 1 1) (Z ta tm tc) w3 rfl rfl bz ?_));go_wp2;go_roundw
     case rel=>exact⟨k+1,z++[ae.mk aW aX aY],Z pa pm pc,Z ra rm rc,by omega,by go_num,by rw[QI,aP];rfl,bA.o⟩
     case measure=>simp[intOf];omega
    .obtain rfl:k=4:=by omega
     have aN:=YV.o wr z _ A B _ aP HQ.o;have HF:=Zh aN;go_wp2;go_end0;exact⟨rfl,HF.o⟩
theorem adM(bb n:Nat)(es:List ae)(ms:List Int)(vi vm:KX)(ao:Option Addr)(cap lo:Nat)(ys:List ae)(W:U)(hB:bK W bb 33 23 3 n es ms vi vm)
  (hown:∀b,bK.own bb es vi vm b->b<lo) (hlo:lo<=M (H W)) (hcs:eD W ao (N ys) (λi=>(E ys i iz).val)) (hlen:N ys<=50000) (hat:∀y∈ys,(gJ 3).At y W) (hnew:∀y∈ys,∀b,ah.aT y=O b->lo<=b)
  (hap:ys.Pairwise λy z=>∀b,ah.aT y=O b->ah.aT z≠O b) (hao:∀a,ao=O a->lo<=a.block/\∀y∈ys,ah.aT y≠O a.block) (hn:n<=30000) (hes:N es<=200000) (hll:∀y∈ys,N y.xs<=1000) :
  Calls V 11 #[Y (O (aD bb 0)),Z ao (N ys) cap] W λe W'=>e=FR (Ph #[])/\∃f r m q,bK W' bb 33 23 3 (n+N ys) f r m q/\N f=N es+4*N ys/\
   Kept (λb=>b<lo/\¬bK.own bb es vi vm b) W W'/\∀b,bK.own bb f m q b->bK.own bb es vi vm b∨lo<=b:=by
 obtain⟨HB,HO⟩:=aV hB hown;have HC:Wl _:=hcs;obtain⟨HA,HN,HP,af,HL,Cu⟩:=Dm hat hnew hap hao hll hlo;clear hB hown hcs hat hnew hap hao hll hlo;go_enter Tryz.func11,Tryz.ntmps11;go_wp2;go_loopw [4] (λiv wr=>∃(i:Nat) (f:List ae) (r:List Int) (m q:KX),i<=N ys/\iv=I J i/\N f=N es+4*i/\Wl (bK wr bb 33 23 3 (n+i) f r m q)/\
  Wl (∀b,bK.own bb f m q b->bK.own bb es vi vm b∨(∃y∈ys.take i,ah.aT y=O b)∨M (H W)<=b)/\Wl (Kept (λb=>¬bK.own bb es vi vm b/\∀y∈ys.take i,ah.aT y≠O b) W wr)) (λiv _=>N ys-(intOf iv).toNat)
 case atStart=>exact⟨0,es,ms,vi,vm,Q4 _,rfl,rfl,HB.o,λb d=>.inl d,Zx _ _⟩
 case round=>
  obtain⟨i,f,r,m,q,aF,rfl,ax,ag,k,P⟩:=hrel;by_cases l:i<N ys
  .obtain⟨b,off,rfl,hcs⟩:=Qf HC.o l;have aj:b<M (H W):=ZJ (p:=(aD b (off+i))) (hcs i l);have G:∀y∈ys.take i,y∈ys:=λy hy=>XC hy
   have Q:¬bK.own bb es vi vm b:=λh=>by have:=HO.o b h;have:=(af.o _ rfl).1;simp at this;omega
   have R:=P.o.block b aj ⟨Q,λy hy=>(af.o _ rfl).2 y (G y hy)⟩;have K:=(ZK (a:=(aD b (off+i))) R).trans (hcs i l);have A:E ys i iz∈ys:=Xx l;have g:∀b,ah.aT (E ys i iz)=O b->¬bK.own bb es vi vm b/\∀y∈ys.take i,ah.aT y≠O b:=λb d=>by
    refine⟨λh=>by have:=HO.o b h;have:=HN.o _ A b d;omega,λy hy e=>?_⟩;have e0:ys=ys.take i++E ys i iz::ys.drop (i+1):=by
     have e1:E ys i iz=ys[i]:=by simp[List.getD,l]
     rw[e1,<-Zw l,Xo]
    have hp:=HP.o;grind
   have S:=(gJ 3).keep (HA.o _ A) P.o.size (λb aC d=>P.o.block b aC (g b d));have X:∀b,ah.aT (E ys i iz)=O b->b<M (H W):=λb d=>ah.AV (HA.o _ A).1 d;have B:∀b,ah.aT (E ys i iz)=O b->¬bK.own bb f m q b:=λb d h=>by
    rcases k.o b h with h|⟨y,hy,h⟩|h
    .exact(g b d).1 h
    .exact(g b d).2 y hy h
    .have:=X b d;omega
   have hll:=HL.o _ A;have j:=adL bb (n+i) f r m q (E ys i iz) wr ag.o S (λb d=>⟨λe=>B b d (.inl e),λe=>B b d (.inr (.inr (.inl e))),λe he h=>B b d (.inr (.inr (.inr ⟨e,he,h⟩)))⟩) (by omega) (by omega) hll;have ak:=ZL ys iz l;have aa:Wl (∀(W':U) (t:List ae) (u v:KX),Kept (λb=>¬Chg bb m q (E ys i iz) b) wr W'->(∀b,bK.own bb t u v b->bK.own bb f m q b∨Chg bb m q (E ys i iz) b∨M (H wr)<=b)->
     (∀b,bK.own bb t u v b->bK.own bb es vi vm b∨(∃y∈ys.take (i+1),ah.aT y=O b)∨M (H W)<=b)/\Kept (λb=>¬bK.own bb es vi vm b/\∀y∈ys.take (i+1),ah.aT y≠O b) W W'):=by
    intro W' t u v C D;have au:∀b,Chg bb m q (E ys i iz) b->bK.own bb es vi vm b∨(∃y∈ys.take (i+1),ah.aT y=O b)∨M (H W)<=b:=λb d=>by
     have L:(bK.own bb es vi vm b∨(∃y∈ys.take i,ah.aT y=O b)∨M (H W)<=b)->bK.own bb es vi vm b∨(∃y∈ys.take (i+1),ah.aT y=O b)∨M (H W)<=b:=λh=>by grind
     rcases d with d|d|d|d
     .exact L (k.o b (.inl d))
     .exact L (k.o b (.inr (.inl d)))
     .exact L (k.o b (.inr (.inr (.inl d))))
     grind
    refine⟨λb d=>?_,?_⟩
    .rcases D b d with h|h|h
     .rcases k.o b h with h|⟨y,hy,h⟩|h
      .exact .inl h
      .grind
      .exact .inr (.inr h)
     .exact au b h
     .exact .inr (.inr (by have:=P.o.size;omega))
    .refine Zy (P.o.mono λb _ h=>⟨h.1,λy hy=>h.2 y (by grind)⟩) C (λb d h h'=>?_)
     grind
   clear Q R g S X B ak A G hcs;generalize E ys i iz=y at*;obtain⟨uk,jb,uB⟩:=y;unfold ae.val at K j;simp only at K j;go_wp2_with fail;refine j.mono ?_;rintro e W' ⟨rfl,t,ay,u,v,ai,aG,C,D⟩;obtain⟨f1,f2⟩:=aa.o W' t u v C D;obtain⟨az,aA,aB⟩:=fe ai f1 f2;clear j ai C D f1 f2 aa K;go_wp2;go_roundw
   case rel=>exact⟨i+1,t,ay,u,v,by omega,by go_num,by omega,by rw[<-Nat.add_assoc];exact az.o,aA.o,aB.o⟩
   case measure=>simp[intOf];omega
  .obtain rfl:i=N ys:=by omega
   have HF:Wl (Kept (λb=>b<lo/\¬bK.own bb es vi vm b) W wr):=P.o.mono λb d h=>⟨h.2,λy hy e=>by
    rw[Zb]at hy;have:=HN.o y hy b e;have:=h.1;omega⟩
   have av:Wl (∀b,bK.own bb f m q b->bK.own bb es vi vm b∨lo<=b):=λb d=>by
    rcases k.o b d with h|⟨y,hy,h⟩|h
    .exact .inl h
    .exact .inr (HN.o y (XC hy) b h)
    .exact .inr (by have:=Cu.o;omega)
   clear P k;go_wp2;go_end0;exact⟨rfl,f,r,m,q,ag.o,ax,HF.o,av.o⟩
theorem Yx(bb n:Nat)(es:List ae)(ms:List Int)(vi vm:KX)(W:U)(hB:bK W bb 33 23 3 n es ms vi vm)(hes:N es<=1000000) :
  Calls V 5 #[Y (O (aD bb 0))] W λe W'=>e=FR (EP T)/\Bw W W':=by
 obtain⟨G,ic,K,d⟩:∃G ic,vi=Z G (N es) ic/\eD W G (N es) (λk=>(E es k iz).val):=by
  rcases mU hB.ints with⟨h1,h2⟩|⟨g,c,h1,_,_,h4⟩
  .have:=List.map_eq_nil_iff.1 h2;subst this;exact⟨E5,0,h1,λi y=>absurd y (by simp)⟩
  .refine⟨O (aD g 0),c,h1,λk hk=>⟨g,0,rfl,?_⟩⟩;have:=h4 k (E es k iz).val (by grind);rw[iw]at this;exact this
 obtain⟨L,mc,P,f⟩:∃L mc,vm=Z L (N ms) mc/\eD W L (N ms) (λk=>I J (E ms k 0)):=by
  rcases mU hB.marks with⟨h1,h2⟩|⟨g,c,h1,_,_,h4⟩
  .have:=List.map_eq_nil_iff.1 h2;subst this;exact⟨E5,0,h1,λi y=>absurd y (by simp)⟩
  .refine⟨O (aD g 0),c,h1,λk hk=>⟨g,0,rfl,?_⟩⟩;have:=h4 k (I J (E ms k 0)) (by grind);rw[iw]at this;exact this
 subst K P;have S:=hB.cell.at 1;have g2:=hB.cell.at 2;have X:=hB.cell.at 3;have uK:=hB.len;have HE:=Zh hB.ent;have HI:Wl _:=d;have HM:Wl _:=f;have m:=Zh uK;clear hB d f uK;go_enter Tryz.func5,Tryz.ntmps5;go_wp2;go_loopw [3] (λv wr=>∃k:Nat,k<=N es/\v=I J k/\Bw W wr) (λv _=>N es-(intOf v).toNat)
 case atStart=>exact⟨0,Q4 _,rfl,Qr _ _⟩
 case round=>
  obtain⟨k,hk,rfl,a⟩:=hrel;have z:=cB a S;by_cases q:k<N es
  .obtain⟨ib,ag,rfl,d⟩:=Qf HI.o q;obtain⟨mb,ah,rfl,f⟩:=Qf HM.o (show k<N ms by have:=m.o;omega);have p:=d k q;have A:=f k (by have:=m.o;omega);obtain⟨u,j⟩:=HE.o k q;have aa:k<N ms:=by have:=m.o;omega
   generalize E es k iz=e at*;generalize E ms k 0=mk at*;obtain⟨Q,ai,l⟩:=e;unfold ae.val at p;simp only at p j;have b:aA W Q l:=u;have af:=b.1;have B:Wl _:=b;have C:=Zh j;clear d f u b j;have nJ:=a;go_wp2;clear z a;go_loopw [4] (λR wr=>∃i:Nat,i<=N l/\R=I J i/\Bw W wr) (λR _=>N l-(intOf R).toNat)
   case atStart=>exact⟨0,Q4 _,rfl,nJ⟩
   case round=>
    clear nJ;obtain⟨i,y,rfl,a⟩:=hrel;obtain⟨z,m2,aj,ak⟩:=aej a S g2 p A;by_cases r:i<N l
    .obtain⟨xb,xo,rfl,qK⟩:=Qg B.o r;have D:=cB a (qK i r);have t:E l i 0=mk:=C.o _ (Xx r);rw[t]at D;clear qK t;go_wp2;go_region;go_wp2;go_roundw
     case rel=>exact⟨i+1,by omega,by go_num,a.drew⟩
     case measure=>simp[intOf];omega
    .go_wp2;go_roundw
     case rel=>exact⟨k+1,by omega,by go_num,a⟩
     case measure=>simp[intOf];omega
  .have m3:=cB a X;go_wp2;go_loopw [5] (λv wr=>v=I J 0/\Bw W wr) (λ_ _=>0)
   case atStart=>exact⟨rfl,a⟩
   case round=>
    clear z m3;obtain⟨rfl,mJ⟩:=hrel;have m3:=cB mJ X;go_wp2;go_ret;exact⟨rfl,mJ⟩
def Wx{a:List Gr}{row:List Int}(h:∀g∈a,N g.key=N kc/\N g.ss=N sc):∀g∈stepG kc sc a row,N g.key=N kc/\N g.ss=N sc:=by
 intro g b;unfold stepG at b;split at b
 .obtain⟨j,e,rfl⟩:=Qv b;rw[Jd]at e;rw[XV];have d:=h _ (Qi e);split
  .exact⟨d.1,by show N (ik a[j].ss row sc)=_;rw[jU];exact d.2⟩
  .exact d
 .rcases Ze.1 b with b|b
  .exact h g b
  .rw[Xj]at b;subst b;exact⟨by simp[mQ,mR,aB],by simp[mQ,mR,jU]⟩
def IJ{kc sc:List Int}:∀(rows:List (List Int)) (a:List Gr),(∀g∈a,N g.key=N kc/\N g.ss=N sc)->∀g∈rows.foldl (stepG kc sc) a,N g.key=N kc/\N g.ss=N sc
 |[],a,h=>by simpa using h
 |r::l,a,h=>by rw[QY];exact IJ l _ (Wx h)
def Ow{rows:List (List Int)}:∀g∈fq kc sc rows,N g.row=N kc+1+N sc:=by
 intro g a;unfold fq at a;have:=IJ rows (cK kc sc) (λg a=>by
  unfold cK at a;split at a
  .rename_i hk
   rw[Xj]at a;subst a;exact⟨by rw[hk];rfl,by simp[mR]⟩
  .simp at a) g a
 unfold Gr.row;rw[QI,QI,this.1,this.2];rfl
theorem CV{ts:List ag}{q:af}(ok:Ok ts q)(plan:List ai){db:List aJ}(sP:xH ts db=T)(sw:fH q.src.xs db<=20000):∀(f i:Nat) (v:bH),i<f->bO ts q plan i=O v->v.out=T->
  N (mi ts q plan db f i)<=20001/\∀r∈mi ts q plan db f i,(N r:Int)=rQ q.group q.keys.xs q.sums.xs q.aH.xs
 |0,_,_,h,_,_=>by omega
 |f+1,i,v,hi,hv,hout=>by
  rcases lq ts q plan hv with⟨b,h0,hs,A,B,p⟩|⟨k2,k10,k3,k4,k5,hl0,Uy,l,hl,hn⟩|⟨k3,k5,hl0,Uy,hr0,hri,l,r,hl,a,hn⟩
  .simp_all
  .obtain⟨_,p,_,z,g,A,B,j,_⟩:=Jg ts q hn;rw[hout]at j;have D:7<=(E plan i nz).kind:=Zn j.symm;by_cases b:(E plan i nz).kind=10
   .have m:=CV ok plan sP sw f (E plan i nz).l.toNat l (by omega) hl (p.2 b);unfold mi;rw[Qu b,Lr];exact⟨m.1,λr a=>m.2 r (Dx.1 a)⟩
   .have d:l.out=false:=by simp_all
    have u:=kF ok plan sP f (E plan i nz).l.toNat l (by omega) hl d;have y:=yt (cnt:=yu q.src.xs db) (n:=N q.src.xs) (λk=>by unfold yu;omega) l.sources;rw[<-yw]at y;have G:=u.many;unfold kP at g;unfold mi rQ;rw[QC b];by_cases t:(E plan i nz).kind=9
    .have e:q.group=false:=by grind
     rw[Qu t,e];refine⟨by rw[Q8];omega,λr a=>?_⟩;obtain⟨x,_,rfl⟩:=Zi.1 a;simp[aB,aO]
    .have e:q.group=true:=by grind
     rw[QC t,e];refine⟨by rw[Q8];have:=Tk (aO (bU ts q plan db f (E plan i nz).l.toNat).2 q.keys.xs) (aO (bU ts q plan db f (E plan i nz).l.toNat).2 q.sums.xs) (bU ts q plan db f (E plan i nz).l.toNat).1;omega,λr a=>?_⟩;obtain⟨x,C,rfl⟩:=Zi.1 a;have:=Ow x C;simp[aO]at this;simp;omega
  .obtain⟨_,_,_,_,_,_,_,j,_⟩:=Jg ts q hn
   grind
def aj8{C r:List Int}(h:∀x∈r,Hl x)(c:Nat):Hl (E (fu n C r) c 0):=by
 have a:Hl 0:=by unfold Hl;omega
 unfold fu;by_cases b:c<n
 .rw[List.getD_eq_getElem?_getD,QK,List.getElem?_range b];simp only[Option.map_some,Option.getD_some];split
  .rw[List.getD_eq_getElem?_getD]
   cases e:r[C.idxOf (c:Int)]? with
   |none=>exact a
   |some x=>exact h x (List.mem_of_getElem? e)
  .exact a
 .rw[List.getD_eq_getElem?_getD,List.getElem?_eq_none (by simp;omega)];exact a
def yO(ok:Ok ts q)(plan:List ai)(sP:xH ts db=T)(sw:fH q.src.xs db<=20000){v:bH}(hi:i<f)(hv:bO ts q plan i=O v)(hout:v.out=F) :
  N (eZ ts q plan db f i)<=20000/\N (eZ ts q plan db f i)<=Ab (yu q.src.xs db) (N q.src.xs) v.sources/\∀r∈eZ ts q plan db f i,(N r:Int)=ak ts q.src.xs/\∀c,Hl (E r c 0):=by have a:=kF ok plan sP f i v hi hv hout;have b:=yt (cnt:=yu q.src.xs db) (n:=N q.src.xs) (λk=>by unfold yu;omega) v.sources;rw[<-yw]at b;have d:=a.many;have e:=(zB ok).1;rw[a.same,Q8];refine⟨by omega,d,λr j=>?_⟩;obtain⟨x,g,rfl⟩:=Zi.1 j;exact⟨by rw[zk];exact e,aj8 (a.aI x g)⟩
def aj9(ok:Ok ts q)(plan:List ai)(sP:xH ts db=T)(sw:fH q.src.xs db<=20000){u v:bH}(hi:i<f)(hu:bO ts q plan i=O u)(huo:u.out=F)(hj:j<f)(hv:bO ts q plan j=O v)(Pd:v.out=F)(hl:N (aC u.sources v.sources)=N u.sources+N v.sources) :
  N (eZ ts q plan db f i)*N (eZ ts q plan db f j)<=1000000:=by have a:∀x∈v.sources,x ∉ u.sources:=(yY (kF ok plan sP f j v hj hv Pd).nu).1 hl;have b:=yt (cnt:=yu q.src.xs db) (n:=N q.src.xs) (λk=>by unfold yu;omega) (aC u.sources v.sources);rw[<-yw,Hu a]at b;have d:=Nat.mul_le_mul (yO ok plan sP sw hi hu huo).2.1 (yO ok plan sP sw hj hv Pd).2.1;omega
def wW{plan:List ai}(h:(jY plan i).Nodup)(hk:k∈nQ plan i):(jY plan k).Nodup:=by rw[qh,List.nodup_cons]at h;exact(List.pairwise_flatMap.1 h.2).1 k hk
def MS(D:CZ w0 ao po ts q pl)(dv:KX)(i:Nat)(W:U)(seen:List Nat)(sv:KX)(Ff:i<N pl)(hT:df W b (M (H w0)) 80 3 ao po cap pcap ts q pl seen sv)(hW:Bw w0 W)(hdv:∃a m c,dv=Z a m c)
  (n:ai) (hn:E pl i nz=n) (hk:6<=n.kind/\n.kind<=10) (RL:List (List Int)) (hr:N RL<=100000)
  (hIH:∀x,Bw W x->Calls V 22 #[Y (O (aD b 0)),I J n.l,dv] x λe w'=>∃v ys,e=FR v/\ys.map ae.xs=RL/\Listed 23 3 (M (H x)) v ys w'/\Bw x w')
  (h6:n.kind=6->∀r∈RL,aM n.co.xs (N r)=T) (h10:n.kind=10->∀r∈RL,aM q.ord.xs (N r)=T) (h9:n.kind=9->N q.aH.xs<=8/\∀r∈RL,aM q.aH.xs (N r)=T)
  (h7:n.kind=7∨n.kind=8->N q.keys.xs<=4/\N q.sums.xs<=4/\(∀r∈RL,aM q.keys.xs (N r)=T)/\(∀r∈RL,aM q.sums.xs (N r)=T)/\∀r∈RL,∀c∈q.sums.xs,Hl (E r c.toNat 0)) :
  Calls V 22 #[Y (O (aD b 0)),I J i,dv] W λe w'=>∃v ys,e=FR v/\ys.map ae.xs=(if n.kind=6 then fI n.co.xs RL else if n.kind=9 then RL.map (λr=>aB r q.aH.xs) else if n.kind=10 then fI q.ord.xs RL else ed q.keys.xs q.sums.xs RL)/\Listed 23 3 (M (H W)) v ys w'/\Bw W w':=by
 obtain⟨pb,aF,e,c0,c1,c2,c3,c4,c5,c6,X,aa⟩:=(D.plan.below hW).2 i Ff;have aC:=D.len;rw[hn]at c0 c1 c2 c3 c4 c5 c6 X aa;subst e;obtain⟨da,dm,dc,rfl⟩:=hdv;have HT:=Zh λ(x:U) (hx:Bw W x)=>(hT.below hx).g;obtain⟨RS,f⟩:∃RS,RS=(if n.kind=6 then fI n.co.xs RL else if n.kind=9 then RL.map (λr=>aB r q.aH.xs) else if n.kind=10 then fI q.ord.xs RL else ed q.keys.xs q.sums.xs RL):=⟨_,rfl⟩;rw[<-f];obtain⟨nk,nl,nr,ns,⟨ca,cc,cx⟩,key,⟨oa,oc,ox⟩⟩:=n;simp only[ae.val]at*;obtain⟨w1,ax,ah,ay⟩:=aX W #[I J nk,I J nl,I J nr,I J ns,Z ca (N cx) cc,I J key,Z oa (N ox) oc] 50;obtain⟨g0,g1,g2,g3,g4,g5,g6⟩:=ay.k7;have d:=HT.o W (Qr _ _);have t8:=d.at 8;go_enter Tryz.func22,Tryz.ntmps22;go_upto_region 2 with fail;try rw[ax]
 obtain⟨az,sO⟩:=aV ah (X4 X aa);have av:=Zh λ(x:U) (hx:Bw W x)=>(D.query.below (aj hW hx));have R:=hIH w1 ah;have n1:(nk==1)=false:=by simp;omega
 go_wp2_with fail;refine R.mono ?_;rintro e G ⟨v,ys,rfl,p,aA,ak⟩;have K:N ys<=100000:=by have:=congrArg N p;simp at this;omega
 obtain⟨ro,B,rfl,C⟩:=aA.ug (by omega);have y:=aj az.o ak;have j:∀{xs:List Int},(∀r∈RL,aM xs (N r)=T)->∀r∈ys,aM xs (N r.xs)=true:=λ{xs} h r hr=>h r.xs (by rw[<-p];exact Jj hr);have hQ:=av.o G y;have YV:=Zh λ(v:KX) (u:List ae) (A:U) (h:Listed 23 3 (M (H G)) v u A) (hb:Bw G A)=>X4 (h.lower y.size) (aj y hb);obtain⟨d0,d6⟩:=gy ak g0 g6;have d:=HT.o G y;have t1:=d.at 1;have t2:=d.at 2;have t3:=d.at 3;have t4:=d.at 4;have t5:=d.at 5;have t6:=d.at 6;have t7:=d.at 7;have OC:q.cells=#[q.src.val,Z q.dx (N q.wh) q.aP,EP q.group,q.keys.val,q.sums.val,q.aH.val,q.ord.val]:=rfl;by_cases k6:nk=6
 .subst k6;have k:=Fs ro B ys ⟨oa,oc,ox⟩ G C (Qt y sO.o.2) K (j (h6 rfl));rw[p]at k;rw[Qu rfl]at f;have L:=Zh f;simp only[ae.val]at k;go_wp2_with fail;refine k.mono ?_;rintro e A ⟨v,u,rfl,P,Q,t⟩;have z:=Zh (YV.o v u A Q t);go_wp2;go_ret;exact⟨v,u,rfl,by rw[L.o];exact P,z.o.1,z.o.2⟩
 by_cases k9:nk=9
 .subst k9;have k:=W9 q ro B ys G hQ.aH C.1 (by omega) (h9 rfl).1 (j (h9 rfl).2);rw[p]at k;rw[QC (by decide),Qu rfl]at f;have L:=Zh f;simp only[OC,ae.val]at k;go_wp2_with fail;refine k.mono ?_;rintro e A ⟨v,u,rfl,P,Q,t⟩;have z:=Zh (YV.o v u A Q t);go_wp2;go_ret;exact⟨v,u,rfl,by rw[L.o];exact P,z.o.1,z.o.2⟩
 by_cases au:nk=10
 .subst au;have k:=Fs ro B ys q.ord G C hQ.ord K (j (h10 rfl));rw[p]at k;rw[QC (by decide),QC (by decide),Qu rfl]at f;have L:=Zh f;simp only[OC,ae.val]at k;go_wp2_with fail;refine k.mono ?_;rintro e A ⟨v,u,rfl,P,Q,t⟩;have z:=Zh (YV.o v u A Q t);go_wp2;go_ret;exact⟨v,u,rfl,by rw[L.o];exact P,z.o.1,z.o.2⟩
 have S:nk=7∨nk=8:=by omega
 obtain⟨a1,a2,a3,a4,a5⟩:=h7 S;have k:=OT q ro B ys G hQ.keys hQ.sums C K a1 a2 (j a3) (j a4) (λr hr=>a5 r.xs (by rw[<-p];exact Jj hr));rw[p]at k;rw[QC k6,QC k9,QC au]at f;have L:=Zh f;simp only[OC,ae.val]at k;rcases S with rfl|rfl
 all_goals
  go_wp2_with fail;refine k.mono ?_;rintro e A ⟨v,u,rfl,P,Q,t⟩;have z:=Zh (YV.o v u A Q t);go_wp2;go_ret;exact⟨v,u,rfl,by rw[L.o];exact P,z.o.1,z.o.2⟩
def TU(D:CZ w0 ao po ts q pl)(dv:KX)(i:Nat)(W:U)(seen:List Nat)(sv:KX)(Ff:i<N pl)(hT:df W b (M (H w0)) 80 3 ao po cap pcap ts q pl seen sv)(hW:Bw w0 W)(hdv:∃a m c,dv=Z a m c)
  (n:ai) (hn:E pl i nz=n) (hk:n.kind=2) (RL:List (List Int)) (hr:N RL<=100000)
  (hIH:∀x,Bw W x->Calls V 22 #[Y (O (aD b 0)),I J n.l,dv] x λe w'=>∃v ys,e=FR v/\ys.map ae.xs=RL/\Listed 23 3 (M (H x)) v ys w'/\Bw x w')
  (hal:aM n.cl.xs (N q.wh)=T) (hcs:∀r∈RL,∀j,j<N q.wh->∀k,k<(E q.wh j lz).cs.length->dC ((E q.wh j lz).cs.getD k cz) (N r)=T) :
  Calls V 22 #[Y (O (aD b 0)),I J i,dv] W λe w'=>∃v ys,e=FR v/\ys.map ae.xs=RL.filter (eP q.wh n.cl.xs)/\Listed 23 3 (M (H W)) v ys w'/\Bw W w':=by
 obtain⟨pb,aR,e,c0,c1,c2,c3,c4,c5,c6,Q,ay⟩:=(D.plan.below hW).2 i Ff;have aJ:=D.len;rw[hn]at c0 c1 c2 c3 c4 c5 c6 Q ay;subst e;obtain⟨da,dm,dc,rfl⟩:=hdv;have HT:=Zh λ(x:U) (hx:Bw W x)=>(hT.below hx).g;obtain⟨nk,nl,nr,ns,⟨ca,cc,L⟩,key,⟨oa,oc,ox⟩⟩:=n;simp only[ae.val]at*;subst hk;obtain⟨w1,az,R,aB⟩:=aX W #[I J 2,I J nl,I J nr,I J ns,Z ca (N L) cc,I J key,Z oa (N ox) oc] 50;obtain⟨g0,g1,g2,g3,g4,g5,g6⟩:=aB.k7;have f:=HT.o W (Qr _ _);have t8:=f.at 8;clear f;go_enter Tryz.func22,Tryz.ntmps22;go_upto_region 2 with fail;try rw[az]
 clear az c0 c1 c2 c3 c4 c5 c6 t8;have aK:=Zh R;have O9:=Zh λ(x:U) (hx:Bw W x) (r:ae) (hm:r.xs∈RL) (hr:aA x r.ad r.xs)=>MU q ca r.ad cc r.cap L r.xs x (D.query.below (aj hW hx)).wh (Qt hx Q) hr hal (hcs r.xs hm);have G:=hIH w1 R;clear Q ay R aB hIH hT hW D Ff hn aJ hal hcs;go_wp2_with fail;refine G.mono ?_;rintro e w2 ⟨v,ys,rfl,S,aC,X⟩;clear G;have aQ:N ys<=100000:=by have:=congrArg N S;simp at this;omega
 obtain⟨ro,aS,rfl,aF⟩:=aC.ug (by omega);have aa:=aj aK.o X;obtain⟨Kg,Ls,G5⟩:=fe aa aF S;have OC:q.cells=#[q.src.val,Z q.dx (N q.wh) q.aP,EP q.group,q.keys.val,q.sums.val,q.aH.val,q.ord.val]:=rfl;simp only[OC,ae.val]at O9;obtain⟨d0,d4⟩:=gy X g0 g4;clear OC aC aF S aa g0 g1 g2 g3 g4 g5 g6 X;go_wp2;go_loopw [8,14] (λv kv wr=>∃(k:Nat) (A:List ae),k<=N ys/\kv=I J k/\N A<=k/\Wl (A.map ae.xs=((ys.take k).map ae.xs).filter (eP q.wh L))/\Wl (Listed 23 3 (M (H w2)) v A wr)/\Bw w2 wr) (λ_ kv _=>N ys-(intOf kv).toNat)
 case atStart=>exact⟨0,[],Q4 _,rfl,Qs _,rfl,Listed.nil _ _ _ _,Qr _ _⟩
 case round=>
  obtain⟨k,A,hk,rfl,aT,HZ,HL,p⟩:=hrel;by_cases B:k<N ys
  .have P:=aj Kg.o p;obtain⟨rb,rf,rfl,hcs⟩:=Qf (Ls.o.1.below p).2.1 B;have x1:=hcs k B;have u:=Xx (d:=iz) B;have ah:=Ls.o.2 _ u;have ak:=(Ls.o.1.below p).2.2 k B;have au:(E ys k iz).xs∈RL:=by rw[<-G5.o];exact Jj u
   have av:=ZL ys iz B;generalize E ys k iz=x at*;have Mk:=Zh λ(y:U) (hy:Bw wr y)=>O9.o y (aj P hy) x au (Qt hy ak);have C:Wl (((ys.take (k+1)).map ae.xs).filter (eP q.wh L)=if eP q.wh L x.xs=T then A.map ae.xs++[x.xs] else A.map ae.xs):=by show _=_;rw[HZ.o,<-av,Ql,ZX];cases hq:eP q.wh L x.xs <;> simp[hq]
   generalize eP q.wh L x.xs=KB at*;have aL:=Zh λ(y:U) (hy:Bw w2 y)=>(gJ 3).keep ah hy.size (λb hb _=>hy.block b hb);have aN:=Zh λ(y:U) (hy:Bw wr y)=>HT.o y (aj P hy);obtain⟨e0,e4⟩:=gy p d0 d4;obtain⟨va,vm,vc,rfl⟩:=Xg HL.o.own;have nV:=Zh p;obtain⟨xa,xc,xx⟩:=x;simp only[ae.val]at x1;clear hcs u ah p P HZ av ak au;go_wp2_with fail;refine wH wr λhS=>?_;refine wA3 0 hS ?_;refine wt 3 (FN #[Z q.src.ad (N q.src.xs) q.src.cap,Z q.dx (N q.wh) q.aP,EP q.group,Z q.keys.ad (N q.keys.xs) q.keys.cap,Z q.sums.ad (N q.sums.xs) q.sums.cap,Z q.aH.ad (N q.aH.xs) q.aH.cap,Z q.ord.ad (N q.ord.xs) q.ord.cap]) hS ?_ (hy:=λy hy=>by
    have f:=aN.o y hy;have t1:=f.at 1;have t2:=f.at 2;have t3:=f.at 3;have t4:=f.at 4;have t5:=f.at 5;have t6:=f.at 6;have t7:=f.at 7;go_simp)
   refine wA6 4 hS ?_;refine wR 10 λK hK=>?_;go_simp;refine(Mk.o _ hS).mono ?_;rintro e w3 ⟨rfl,t⟩;refine oT hK hS t λhS=>?_;clear hK K t;refine wR 11 λK hK=>?_;go_simp;refine hK.o _ _ hS λt=>?_;clear hK K;refine wD ?_;have I1:=aj nV.o t;have aO:=Zh I1;have z:=HL.o.below t;have ax:=I1.size;clear e4
   cases KB with
   |true =>
    have y1:=cB t x1;rw[Qu rfl]at C;obtain⟨v',w5,iW,aG,aI,⟨ua,um,uc,rfl⟩,-⟩:=mV w3 (M (H w2)) (Z va vm vc) A z (by omega) ax ⟨xa,xc,xx⟩ (aL.o w3 I1) 30;have jS:Wl (Bw w2 w5):=I1.trans (aI.below ax (λb hb e=>by have:=(Xf z.own e).1;omega));have TK:=Zh aG;simp only[ae.val]at iW;clear aG aI z I1 t;go_wp2_with (first|(at_builtin;refine Xy rfl (.tmp 151) (.tmp 156) 30 rfl (Z va vm vc) (Z (O (aD (M (H w3)) 0)) 1 1) (Z ua um uc) w5 rfl rfl iW ?_));clear iW;go_wp2;go_roundw
    case rel=>exact⟨k+1,A++[ae.mk xa xc xx],by omega,by go_num,by simp;omega,by rw[Ql];exact C.o.symm,TK.o,jS.o⟩
    case measure=>simp[intOf];omega
   |false =>
    rw[QC (by simp)]at C;have TK:=Zh z;clear z I1 t;go_wp2;go_roundw
    case rel=>exact⟨k+1,A,by omega,by go_num,by omega,C.o.symm,TK.o,aO.o⟩
    case measure=>simp[intOf];omega
  .obtain rfl:k=N ys:=by omega
   have HE:Wl (A.map ae.xs=RL.filter (eP q.wh L)):=by show _=_;rw[HZ.o,Zb,G5.o]
   have HF:=Zh (X4 (HL.o.lower Kg.o.size) (aj Kg.o p));clear HZ HL p;go_wp2;go_ret;exact⟨_,A,rfl,HE.o,HF.o.1,HF.o.2⟩
theorem ahp(n a:Nat)(xs:List Int)(h:a+N xs<=n):(List.replicate n (Value.int J 0)).take a++xs.map (Value.int J)++(List.replicate n (Value.int J 0)).drop (a+N xs)=(rX n a xs).map (Value.int J):=by unfold rX;simp[List.take_replicate,List.drop_replicate,Nat.sub_sub,Nat.min_eq_left (show a<=n by omega)]
theorem ahq(hc:dL ts=T)(ha:aM src (N ts)=T)(h5:N src<=5){s:Nat}(hs:s<N src) :
  0<=ak ts (src.take s)/\ak ts (src.take s)+(E ts (E src s 0).toNat tz).cols<=ak ts src/\1<=(E ts (E src s 0).toNat tz).cols/\ak ts src<=20/\0<=E src s 0/\E src s 0<N ts:=by
 have e:E src s 0=src[s]:=by simp[List.getD,hs]
 have g:=Qp hc ha s (by omega);have d:=Qp hc ha (N src) (Qs _);have b:=nG hc ha (show s+1<=N src by omega) (Qs _);have f:=Qo ha hs;rw[Zb]at b d;rw[Qk ts src s hs]at b;rw[e];have i:src[s].toNat<N ts:=by omega
 have a:dJ (E ts src[s].toNat tz)=true:=by unfold dL at hc;grind
 unfold dJ at a;simp only[Qm,Qz]at a;omega
def aoh{xs:List Int}(h:GB W g 3 (xs.map (Value.int J)).toArray)(hl:N xs<=1000):W.ownsRow 0 3 1 (Z (O (aD g 0)) (N xs) (N xs)) (N xs) (xs.map (Value.int J)):=
 ⟨by simp,.inr ⟨g,N xs,_,rfl,Q4 _,h,Qs _,by unfold maxLen;omega,by simp,by rw[Nat.mul_one];exact Xt (by simp)⟩⟩
def adq(W:U)(g n a:Nat)(x:ae)(hg:GB W g 3 (madeCells #[I J 0] n))(hx:x.At W)(h1:0<N x.xs)(hl:a+N x.xs<=n) :
  ∃W',(∀e,(Builtin.copy_ #[23,23] e #[Z (O (aD g a)) (n-a) (n-a),x.val]).run V W=.ok (I J (N x.xs)) W')/\GB W' g 3 ((rX n a x.xs).map (Value.int J)).toArray/\Kept (λb=>b≠g) W W':=by
 obtain⟨y,m,xs⟩:=x;obtain⟨p,q,rfl,r⟩:=Qg hx h1;rw[mO]at hg;have f:=λe=>run_copy_row (P:=V) W 23 23 e 3 g a (n-a) (n-a) (aD p q) (N xs) m _ 3 (xs.map (Value.int J)) Tryz.underlying23 Tryz.Cm hg (by simp only[Q8,Nat.min_def]at*;split <;> omega)
  (λj u l=>by
   rw[QK]at l;obtain⟨z,i,rfl⟩:=Option.map_eq_some_iff.1 l;have d:=(List.getElem?_eq_some_iff.1 i).1;rw[iw,r j d];simp[List.getD,i]) (by simp at*;omega) (λu t=>by obtain⟨z,_,rfl⟩:=Zi.1 t;rfl)
 simp only[Q8,ahp n a xs hl]at f;exact⟨_,f,setRow_heap W g _ _ _ _ hg,⟨rfl,rfl,rfl,by simp,λk _ v=>setRow_other W g k _ v⟩⟩
theorem adr(D:CZ w0 ao po ts q pl)(d:Option Addr)(fB:Nat)(db:List aJ)(i:Nat)(W:U)(seen:List Nat)(sv:KX)(Ff:i<N pl)(hT:df W b (M (H w0)) 80 3 ao po cap pcap ts q pl seen sv)(hW:Bw w0 W)
  (sP:qJ w0 d db) (hlen:N db=N ts) (hB:xH ts db=T) (n:ai) (hn:E pl i nz=n) (hk:n.kind=1) (s:Nat) (hs:n.source=s) (hsl:s<N q.src.xs) :
  Calls V 22 #[Y (O (aD b 0)),I J i,Z d (N db) fB] W λe w'=>∃v ys,e=FR v/\ys.map ae.xs=(vQ db (E q.src.xs s 0)).map (rX (ak ts q.src.xs).toNat (ak ts (q.src.xs.take s)).toNat)/\Listed 23 3 (M (H W)) v ys w'/\Bw W w':=by
 obtain⟨pb,bL,e,c0,c1,c2,c3,c4,c5,c6,bC,bD⟩:=(D.plan.below hW).2 i Ff;have aW:=D.len;rw[hn]at c0 c1 c2 c3 c4 c5 c6;subst e;have HT:=Zh λ(x:U) (G:Bw W x)=>(hT.below G).g;obtain⟨nk,nl,nr,ns,⟨ca,cc,cx⟩,key,⟨oa,oc,ox⟩⟩:=n;simp only[ae.val]at*;subst hk hs;obtain⟨f0,f1,f2,f3,f4,f5⟩:=ahq D.Aq.cat D.Aq.src D.Aq.five hsl;have aY:=Zh λ(x:U) (G:Bw W x)=>yg ao cap ts q s x (D.cat.below (aj hW G)) D.Aq.cat (D.query.below (aj hW G)).src D.Aq.five D.Aq.src (by omega);have aZ:=Zh λ(x:U) (G:Bw W x)=>DN ao cap ts q x (D.cat.below (aj hW G)) D.Aq.cat (D.query.below (aj hW G)).src D.Aq.five D.Aq.src;have Q:∀r∈vQ db (E q.src.xs s 0),(N r:Int)=_:=λr hr=>(aaa hB hr).1;have aB:=(D.query.below hW).src;have aa:=sP.below hW;obtain⟨⟨sa,sc,src⟩,dx,aP,wh,bE,bI,bJ,aH,bM⟩:=q;simp only[af.cells,ae.val]at*;obtain⟨qb,qo,rfl,aL⟩:=Qg aB hsl;have q1:=aL s hsl;generalize E src s 0=tt at*;obtain⟨t,rfl⟩:∃t:Nat,tt=t:=⟨tt.toNat,by omega⟩;have hj:t<N db:=by omega
 obtain⟨ub,uo,rfl,aM⟩:=Qf aa.2.1 hj;have u1:=aM t hj;have ah:=aa.2.2 t hj;have bK:((E db t rz).rs.length:Int)<=50:=by unfold xH at hB;rw[Qn]at hB;have:=hB t (Zk.2 hj);unfold qj at this;grind
 simp only[vQ,Xu]at*;generalize (E ts t tz).cols=K at*;generalize ak ts (src.take s)=wa at*;generalize ak ts src=wn at*;obtain⟨a,rfl⟩:∃a:Nat,wa=a:=⟨wa.toNat,by omega⟩;obtain⟨m,rfl⟩:∃a:Nat,wn=a:=⟨wn.toNat,by omega⟩;simp only[Xu]at*;generalize E db t rz=y at*;obtain⟨ya,yc,ys⟩:=y;simp only[aJ.val]at*;have bf:=Zh ah;have bg:Wl (∀k,k<N ys->(((E ys k iz).xs.length:Nat):Int)=K):=λk hk=>Q _ (Jj (Xx hk));obtain⟨w1,aN,u,aO⟩:=aX W #[I J 1,I J nl,I J nr,I J s,Z ca (N cx) cc,I J key,Z oa (N ox) oc] 50;obtain⟨g0,g1,g2,g3,g4,g5,g6⟩:=aO.k7;have aC:=HT.o W (Qr _ _);have t8:=aC.at 8;clear aC;go_enter Tryz.func22,Tryz.ntmps22;go_upto_region 2 with fail;try rw[aN]
 clear aN c0 c1 c2 c3 c4 c5 c6 t8;have au:=Zh u;have HX:=Zh λ(x:U) (G:Bw w1 x)=>aj u G;obtain⟨p1,p2⟩:=gy u q1 u1;have aF:=Zh (fF.below u ah);clear bC bD u aO hT hW D Ff hn aW sP hB hlen Q aB aa aL aM ah q1 u1;go_wp2_with fail;refine wH w1 λf=>?_;obtain⟨t0,t1,t2,t3,t4,t5,t6,t7,t8⟩:=(HT.o w1 au.o).k9;refine FD 0 f ?_;refine wR 10 λK l=>?_;go_simp;refine(aY.o _ (HX.o _ f)).mono ?_;rintro e w2 ⟨rfl,z⟩;refine oT l f z λf=>?_;clear l K z;refine wR 11 λK l=>?_;go_simp;refine l.o _ _ f λL=>?_;clear l K;refine wD ?_;have av:=Zh (aj au.o L);obtain⟨t1,p1,p2,g3⟩:=aej L t1 p1 p2 g3;have bn:=Zh (fF.below L aF.o);clear t0 t2 t3 t4 t5 t6 t7 t8 g0 g1 g2 g4 g5 g6 bf aF HX L au;go_wp2_with fail;refine wH w2 λf=>?_;refine FD 0 f ?_;refine wA2 10 f ?_;refine Fz 12 f ?_;refine wD ?_;have bq:=Zh f;clear f t1 p1 p2 g3;go_wp2;go_loopw [8,11] (λv kv wr=>∃(k:Nat) (C:List ae),k<=N ys/\kv=I J k/\N C=k/\Wl (C.map ae.xs=((ys.take k).map ae.xs).map (rX m a))/\Wl (Listed 23 3 (M (H w2)) v C wr)/\Bw w2 wr) (λ_ kv _=>N ys-(intOf kv).toNat)
 case atStart=>exact⟨0,[],Q4 _,rfl,rfl,rfl,Listed.nil _ _ _ _,bq.o⟩
 case round=>
  obtain⟨k,C,hk,rfl,bN,HZ,HL,p⟩:=hrel;by_cases A:k<N ys
  .have ax:=fF.below p bn.o;obtain⟨yb,yo,rfl,aQ⟩:=Qf ax.2.1 A;have x1:=aQ k A;have aG:=ax.2.2 k A;have bu:=bg.o k A;have aI:Wl (((ys.take (k+1)).map ae.xs).map (rX m a)=C.map ae.xs++[rX m a (E ys k iz).xs]):=by show _=_;rw[HZ.o,<-ZL ys iz A,Ql,Ql];rfl
   generalize E ys k iz=x at*;have ay:=aj av.o p;have az:=Zh λ(X:U) (g:Nat) (hX:Bw wr X) (hg:GB X g 3 (madeCells #[.int J 0] m))=>adq X g m a x hg (Qt hX aG) (by omega) (by omega);have aK:=Zh λ(X:U) (hX:Bw wr X)=>aZ.o X (aj ay hX);obtain⟨t0,t1,t2,t3,t4,t5,t6,t7,t8⟩:=(HT.o wr ay).k9;obtain⟨va,vm,vc,rfl⟩:=Xg HL.o.own;have nV:=Zh p;obtain⟨xa,xc,xx⟩:=x;simp only[ae.val]at x1 az bu aI;have bz:=run_make_row' (P:=V) 23 3 (.int J 0) 8 Tryz.underlying23 Tryz.tH rfl J J m (by omega) (by omega);clear ax aQ aG p ay HZ;go_wp2_with fail;refine wH wr λf=>?_;refine FD 0 f ?_;refine wA4 10 f ?_;refine wR 14 λK l=>?_;go_simp;refine(aK.o _ f).mono ?_;rintro e w3 ⟨rfl,z⟩;refine oT l f z λf=>?_;clear l K z t0 t1 t2 t3 t4 t5 t6 t7 t8;have y1:=cB f x1;obtain⟨w4,bF,j,aR⟩:=aX w3 (madeCells #[.int J 0] m) 3;refine wR 15 λK l=>?_;go_simp;refine oT l f j λbH=>?_;clear l K bF bz x1;refine Fz 16 bH ?_;refine wD ?_;obtain⟨H4,HS,bO⟩:=fe j f j.drew;obtain⟨W5,bG,aS,aT⟩:=az.o w4.drew (M (H w3)) (aj f j).drew (aR.of (Below.block (Qr _ _).drew _ aR.lt));have q1:a<=m:=by omega
   have q2:¬m=a:=by omega
   clear az aK;go_wp2_with fail;refine QW (S:=λx=>Bw w3 x) (by kernel_rfl) j.drew (λf=>?_);refine wA5 0 f ?_;refine wA2 5 f ?_;refine wR 7 λK l=>?_;go_simp;have B:Bw w3 W5:=j.drew.trans (aT.below j.size (λb hb=>by omega));refine l.o _ _ B (λ_=>?_);clear l K f;refine wD ?_;have jS:=Zh (aj nV.o (aj HS.o B));have hsl:N (rX m a xx)=m:=by simp[rX];omega
   obtain⟨iv,hv,aU,R,-⟩:=jN (aoh aS (by omega)) (by omega);rw[hsl]at hv;obtain⟨v',w6,aA,aV,vZ,⟨ua,um,uc,rfl⟩,-⟩:=mV W5 (M (H w2)) (Z va vm vc) C (HL.o.below (aj HS.o B)) (by omega) jS.o.size _ R 30;have sN:Wl (Bw w2 w6):=jS.o.trans (vZ.below jS.o.size (λb hb e=>by have:=(Xf HL.o.own e).1;omega));have bA:=Zh aV;rw[<-hv]at aA;have bB:=Zh aU;clear aV vZ B bG aS aT R hv aU;go_wp2_with (first|(at_builtin;refine Xy rfl (.tmp 87) (.tmp 89) 30 rfl (Z va vm vc) (Z (O (aD (M (H W5)) 0)) 1 1) (Z ua um uc) w6 rfl rfl aA ?_));clear aA;go_wp2;go_roundw
   case rel=>exact⟨k+1,C++[iv],by omega,by go_num,by simp;omega,by rw[Ql,aI.o,<-bB.o];rfl,bA.o,sN.o⟩
   case measure=>simp[intOf];omega
  .obtain rfl:k=N ys:=by omega
   have HE:Wl (C.map ae.xs=(ys.map ae.xs).map (rX m a)):=by show _=_;rw[HZ.o,Zb]
   have HF:=Zh (X4 (HL.o.lower av.o.size) (aj av.o p));clear HZ HL p;go_wp2;go_ret;exact⟨_,C,rfl,HE.o,HF.o.1,HF.o.2⟩
