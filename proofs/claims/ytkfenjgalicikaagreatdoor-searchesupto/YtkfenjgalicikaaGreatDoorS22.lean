import Derived.Test.YtkfenjgalicikaaGreatDoorS14
import Derived.Test.YtkfenjgalicikaaGreatDoorS15
import Derived.Test.YtkfenjgalicikaaGreatDoorS17
import Derived.Test.YtkfenjgalicikaaGreatDoorS19
set_option linter.all false
set_option maxRecDepth 100000
set_option maxHeartbeats 0
namespace Go.Proofs.Zz
open Go.RowKit Go.Shelf Go.Proofs.Tryz
open List renaming length->N,getD->E
open Go.Value renaming slice->Z,int->I,pointer->Y,bool->Qq,agg->Qt,tuple->Qv
open Go.Proofs.Tryz renaming prog->V
open Option renaming some->O,none->Qr
open Go.IntKind renaming i64->J,u64->Qp
open Bool renaming false->F,true->T
open Go renaming World->U,Value->Ql
open Go.World renaming heap->H,setCell->Qn,cell?->Qo
open _root_.Array renaming size->M
open Go.RowKit renaming Hid->Qm
open Go.Obj renaming cells->Qs
open Go.Ending renaming returned->Qu
variable {ts:JK af} {p q:ae} {a b xs:IC} {f:bC} {W W0 w w' w0 y:U} {B base k n rb:Nat} {v:Ql} {Xq:Pm} {ns s:JK UInt8} {α:Type} {ao:LM} {ls:JK aQ} {e:TypeId}
def wS(e:Int)(w:U):Calls V 26 #[I J e] w λr a=>r=Qu (I J e)/\a = w:=by go_enter func26,ntmps26;go_wp2;go_ret;exact⟨rfl,rfl⟩
theorem il.qU{q p:ae}(h:il q p):p.qU=q.qU:=by
 unfold ae.qU;apply List.ext_getElem
 .rw[ZX,ZX,h.len]
 .intro i a b;rw[ZX]at a b;have:=h.cs i a
  simp_all
theorem il.check{q p:ae}(h:il q p)(ts:JK af):p.check ts=q.check ts:=by unfold ae.check;rw[h.au,h.qU,h.aF,h.aC,h.aM,h.bA,h.ord]
def Og(h:dm xs (aX ts q.au.xs)=T):lT ts q xs:=λc a=>by unfold dm at h;simp_all
theorem aec(hc:q.check ts=0)(hf:f.At ts q W)(hs:dS W 0)(hk:N q.aC.xs<=q.aC.cap)(hn:q.aC.ad=Qr->q.aC.cap=0):vS f ts q W:=by
 obtain⟨d,c2,c3,c4,c5⟩:=sS hc;have g:dm q.aC.xs (aX ts q.au.xs)=T/\N q.aC.xs<=4:=by
  unfold ae.check uj at hc;split at hc
  .omega
  .split at hc
   .omega
   .rename_i _ hf
    split at hc
    .rename_i hr
     have a:=hr.2.2.2;unfold jX at a;simp only[Q8]at a;obtain⟨⟨⟨⟨⟨⟨⟨_,m⟩,_⟩,_⟩,_⟩,_⟩,_⟩,_⟩:=a;unfold mD at hf;simp_all
    .omega
 refine⟨d.ok,hf,hs,c2,d.jM,d.ko,c3,c4,Og g.1,λk=>?_,g.2,hk,hn⟩;intro c e;unfold jk at e;rw[Xc]at e;obtain⟨p,j,rfl⟩:=e;have b:=c3 k;unfold dm at b;rw[Q9]at b;have i:=b p j;simp only[Q8,Zi]at i;have l:p.toNat<N q.bA.xs:=X;refine Og c5 _ ?_;grind
section
def GX(Xq:Pm)(sb k:Nat)(gv:Ql)(gb:Nat->Nat):Pm:=λb=>¬Xq b/\b≠sb/\gv.ownBlock≠O b/\∀j,j<k->b≠gb j
theorem amm{Tl:TypeId}{Fq:Pm}{os:JK aA}(h:mo Tl Fq base w v os)(h0:0<N os) :
  ∃a b,v=Z (O (aD a 0)) (N os) b/\N os<=b/\b<=9223372036854775807/\base<=a/\∀m,m<=N os->dC w (O (aD a 0)) m (λi=>(E (os.take m) i iU).val):=by
 rcases h.own.2 with⟨_,h1⟩|⟨g,cap,iw,rfl,hb,hh,hc,d,hs,ht⟩
 .omega
 refine⟨g,cap,rfl,hc,by unfold maxLen at d;omega,hb,λm d i f=>⟨g,0,rfl,?_⟩⟩;rw[ZT,ZC (show GB w g _ iw from hh) i];have e:(iw.toList.take (N os*1))[i]? = O (E (os.take m) i iU).val:=by grind
 grind
def Lt(ts:JK af)(q:ae)(aI j:Nat):JK (IC):=(dF ts q j).take aI
def Lu(ts:JK af)(q:ae)(aI k:Nat):Bool:=(List.range k).any λs=>decide (aI<N (dF ts q s))
theorem aiw(ts:JK af)(q:ae)(aI k:Nat):Lu ts q aI (k+1)=(Lu ts q aI k ||decide (aI<N (dF ts q k))):=by unfold Lu;grind
def ap7(gv:Ql)(cu:Bool)(bt:Nat):Array Value:=#[gv,Z Qr 0 0,Qq cu,Y (O (aD bt 0)),Z Qr 0 0,I J 1]
structure rJ(W0:U)(f:bC)(ts:JK af)(q:ae)(Xq:Pm)(aI:Nat)(w0:U)(vb sb k:Nat)(cu:Bool)(gv:Ql)(gb cp:Nat->Nat)(os:Nat->JK aA)(bt:Nat)(x:U):Prop where
 hz:Fz (λb=>¬Xq b) W0 x
 yA:Bw w0 x
 aix:M (H W0)<=M (H w0)
 xlt:∀b,Xq b->b<M (H w0)
 sbl:M (H w0)<sb/\M (H w0)<vb/\vb≠sb
 fbg:GB x (M (H w0)) 118 (f.cells ts q)
 var:GB x vb 92 #[Y (O (aD sb 0))]
 blk:GB x sb 138 (f.cells ts q++ap7 gv cu bt)
 own:x.ownsRow (M (H w0)) 159 1 gv k ((List.range k).map λj=>Value.slice (O (aD (gb j) 0)) (N (fw (Lt ts q aI j))) (cp j))
 nN:∀j,j<k->dJ 144 206 (GX Xq sb k gv gb) x (gb j) (λ_=>0) (os j) (fw (Lt ts q aI j))/\M (H w0)<=gb j/\N (fw (Lt ts q aI j))<=cp j/\cp j<=9223372036854775807
 apart:∀i j,i<k->j<k->gb i=gb j->i=j
 bP:bM 144 (GX Xq sb k gv gb) x bt (kI ts q)
variable {W0:U} {f:bC} {ts:JK af} {q:ae} {Xq:Pm} {aI:Nat} {w0:U} {vb sb k:Nat} {cu:Bool} {gv:Ql} {gb cp:Nat->Nat} {os:Nat->JK aA} {bt:Nat} {x:U}
def rJ.ne(h:rJ W0 f ts q Xq aI w0 vb sb k cu gv gb cp os bt x):gv.ownBlock≠O sb/\gv.ownBlock≠O vb/\gv.ownBlock≠O (M (H w0))/\∀j,j<k->gv.ownBlock≠O (gb j)/\gb j≠sb/\gb j≠vb/\gb j≠M (H w0):=by refine⟨JF h.own h.blk Qc,JF h.own h.var Qc,JF h.own h.fbg Qc,λj b=>?_⟩;obtain⟨c,a⟩:=(h.nN j b).1.tp;exact⟨JF h.own a Qc,λe=>absurd (GB.tp a (e ▸ h.blk)) Qc,λe=>absurd (GB.tp a (e ▸ h.var)) Qc,λe=>absurd (GB.tp a (e ▸ h.fbg)) Qc⟩
theorem rJ.aj(h:rJ W0 f ts q Xq aI w0 vb sb k cu gv gb cp os bt x){y:U}(hb:Bw x y):rJ W0 f ts q Xq aI w0 vb sb k cu gv gb cp os bt y:=by have a:aB (λb=>b<M (H x)) x y:=Xl hb;exact⟨h.hz.next hb,h.yA.trans (hb.mono h.yA.size),h.aix,h.xlt,h.sbl,h.fbg.bT a h.fbg.lt,h.var.bT a h.var.lt,h.blk.bT a h.blk.lt,Ja h.own hb,λj d=>⟨(h.nN j d).1.aj hb,(h.nN j d).2⟩,h.apart,h.bP.aj hb⟩
def rJ.up(h:rJ W0 f ts q Xq aI w0 vb sb k cu gv gb cp os bt x):∀b,(b=sb∨gv.ownBlock=O b∨∃j,j<k/\b=gb j)->M (H w0)<=b/\b<M (H x):=by
 rintro b (rfl|d|⟨j,a,rfl⟩)
 .exact⟨JH h.sbl.1,h.blk.lt⟩
 .exact Xy h.own d
 .exact⟨(h.nN j a).2.1,(h.nN j a).1.lt⟩
theorem rJ.gw(h:rJ W0 f ts q Xq aI w0 vb sb k cu gv gb cp os bt x){b:Nat}(hp:¬Xq b)(hb:b<M (H w0)∨M (H x)<=b):GX Xq sb k gv gb b:=by have a:=h.up b;exact⟨hp,λe=>X,λe=>Qb,λj d e=>Qb⟩
def rJ.fz(h:rJ W0 f ts q Xq aI w0 vb sb k cu gv gb cp os bt x):Fz (GX Xq sb k gv gb) W0 x:=
 ⟨h.hz.aj,λb a=>h.gw (h.hz.low b a) (.inl (Qk a.lt h.aix)),λb a=>h.gw (h.hz.high b a) (.inr a)⟩
def rJ.aFM(h:rJ W0 f ts q Xq aI w0 vb sb k cu gv gb cp os bt x){c2:Bool}(hk:aB (λb=>b≠sb) x y)(ve:GB y sb 138 (f.cells ts q++ap7 gv c2 bt)):rJ W0 f ts q Xq aI w0 vb sb k c2 gv gb cp os bt y:=by have i:=h.ne;have m:=h.sbl.1;exact⟨⟨h.hz.aj.fu hk λb a e=>Qk a.lt h.aix,h.hz.low,λb a=>h.hz.high b (ZU hk.size a)⟩,h.yA.trans (hk.aj h.yA.size λb a=>X),h.aix,h.xlt,h.sbl,h.fbg.bT hk X,h.var.bT hk h.sbl.2.2,ve,Xw h.own hk λg e l=>i.1 (l ▸ e),λj d=>⟨(h.nN j d).1.eG (hk.mono λb _ a=>a.elim (λh=>h.2.1) λh=>h ▸ (i.2.2.2 j d).2.1),(h.nN j d).2⟩,h.apart,h.bP.eG (hk.mono λb _ a=>a.2.1)⟩
theorem rJ.push(h:rJ W0 f ts q Xq aI w0 vb sb k cu gv gb cp os bt x){y1 y2:U}(bL:Bw x y1){gn cn:Nat}{on:JK aA}(hg:dJ 144 206 (λb=>GX Xq sb k gv gb b/\b<M (H x)) y1 gn (λ_=>0) on (fw (Lt ts q aI k)))(hgn:M (H x)<=gn)(nU:N (fw (Lt ts q aI k))<=cn/\cn<=9223372036854775807){gv':Ql}(ho:y2.ownsRow (M (H w0)) 159 1 gv' (k+1) (((List.range k).map λj=>Value.slice (O (aD (gb j) 0)) (N (fw (Lt ts q aI j))) (cp j))++[Value.slice (O (aD gn 0)) (N (fw (Lt ts q aI k))) cn]))(hk:aB (λb=>b≠sb/\gv.ownBlock≠O b) y1 y2)(jl:gv'.ownBlock=gv.ownBlock∨∃g,gv'.ownBlock=O g/\M (H y1)<=g)(ve:GB y2 sb 138 (f.cells ts q++ap7 gv' cu bt)) :
  rJ W0 f ts q Xq aI w0 vb sb (k+1) cu gv' (λj=>if j=k then gn else gb j) (λj=>if j=k then cn else cp j) (λj=>if j=k then on else os j) bt y2:=by
 have r:=h.ne;have A:=bL.size;have y:=h.yA.size;have z:=h.up;have d:=(Xl (s:=λb=>b≠sb/\gv.ownBlock≠O b) bL).trans hk;have n:∀b,b<M (H x)->GX Xq sb k gv gb b->GX Xq sb (k+1) gv' (λj=>if j=k then gn else gb j) b:=λb C a=>by
  refine⟨a.1,a.2.1,λe=>?_,λj m=>?_⟩
  .rcases jl with v|⟨g,v,hg⟩
   .exact a.2.2.1 (v ▸ e)
   grind
  .show b≠if j=k then gn else gb j
   split
   .omega
   .exact a.2.2.2 j X
 have p:aB (GX Xq sb k gv gb) x y2:=d.mono λb _ a=>⟨a.2.1,a.2.2.1⟩;have t:∀b,b<M (H w0)->b≠sb/\gv.ownBlock≠O b:=λb a=>⟨λe=>Qb,λe=>Qb⟩;refine⟨⟨h.hz.aj.fu d λb a=>t b (Qk a.lt h.aix),h.hz.low,λb a=>h.hz.high b (ZU d.size a)⟩,h.yA.trans (d.aj h.yA.size t),h.aix,h.xlt,h.sbl,h.fbg.bT d ⟨Qj h.sbl.1,r.2.2.1⟩,h.var.bT d ⟨h.sbl.2.2,r.2.1⟩,ve,?_,λj m=>?_,λi j D m e=>?_,h.bP.move p n⟩
 .have e:(List.range (k+1)).map (λj=>Value.slice (O ⟨if j=k then gn else gb j,0,Qr⟩) (N (fw (Lt ts q aI j))) (if j=k then cn else cp j))=((List.range k).map λj=>Value.slice (O (aD (gb j) 0)) (N (fw (Lt ts q aI j))) (cp j))++[Value.slice (O (aD gn 0)) (N (fw (Lt ts q aI k))) cn]:=by
   rw[ZG,Q7];congr 1
   .refine ZH λj m=>?_
    grind
   .simp
  rw[e];exact ho
 .by_cases e:j=k
  .subst e;simp only[Zd];refine⟨hg.move (hk.mono λb _ a=>?_) λb _ a=>n b a.2 a.1,X,nU⟩;rcases a with a|rfl
   .exact⟨a.1.2.1,a.1.2.2.1⟩
   grind
  .simp only[Zk e];have l:j<k:=X
   refine⟨(h.nN j l).1.move (d.mono λb _ a=>?_) n,(h.nN j l).2⟩;rcases a with a|rfl
   .exact⟨a.2.1,a.2.2.1⟩
   simp_all
 .have B:∀j,j<k->gb j<M (H x):=λj m=>(z _ (.inr (.inr ⟨j,m,rfl⟩))).2
  have u:(if i=k then gn else gb i)=if j=k then gn else gb j:=e;split at u <;> split at u
  .omega
  .grind
  .grind
  grind [rJ.apart]
theorem rJ.search(h:rJ W0 f ts q Xq aI w0 vb sb k cu gv gb cp os bt x)(h0:0<k) :
  ∃L:yB,L.av=Z Qr 0 0/\L.pv=Z Qr 0 0/\gW W0 f ts q (λb=>Xq b∨(b=sb∨∃j,j<k/\b=gb j)) (λb=>b=sb∨∃j,j<k/\b=gb j) x sb L ⟨(List.range k).map λs=>fw (Lt ts q aI s),[],cu,kI ts q,[],1⟩:=by
 have u:=h.ne;have n:∀b,GX Xq sb k gv gb b->¬(Xq b∨(b=sb∨∃j,j<k/\b=gb j)):=λb a h0=>h0.elim a.1 λh=>h.elim a.2.1 λ⟨j,d,e⟩=>a.2.2.2 j d e;have p:N ((List.range k).map λs=>fw (Lt ts q aI s))=k:=Qa;have r:∀j,j<k->E ((List.range k).map λs=>fw (Lt ts q aI s)) j []=fw (Lt ts q aI j):=λj d=>Qb;have m:=h.fz;rcases h.own.2 with⟨_,h1⟩|⟨g,cap,iw,rfl,a,hh,hc,hm,hs,ht⟩
 .omega
 have t:∀j,j<k->Qo x (aD g j)=O (Z (O (aD (gb j) 0)) (N (fw (Lt ts q aI j))) (cp j)):=λj d=>by
  rw[ZC (show GB x g _ iw from hh) j];have y:(iw.toList.take (k*1))[j]? = O (Z (O (aD (gb j) 0)) (N (fw (Lt ts q aI j))) (cp j)):=by simp_all
  grind
 refine⟨⟨g,cap,gb,cp,λ_ _=>0,os,Z Qr 0 0,bt,Z Qr 0 0⟩,rfl,rfl,⟨h.hz.aj,λb a=>n b (m.low b a),λb a=>n b (m.high b a)⟩,λb a=>.inr a,.inl rfl,?_,?_,(Xx.1 hh).1,λj d=>?_,λj d=>?_,λi j v d e=>h.apart i j (by rwa [p]at v) (by rwa [p]at d) e,XC _ _ _ _,(λb e=>by cases e),h.bP.mono λb _ a=>n b a,XC _ _ _ _,(λb e=>by cases e)⟩
 .show GB _ _ _ (f.cells ts q ++ #[Z (O (aD g 0)) (N ((List.range k).map λs=>fw (Lt ts q aI s))) cap,_,_,_,_,_])
  rw[p];exact h.blk
 .rintro (h0|h0|⟨j,d,h0⟩)
  .have:=h.xlt g h0;omega
  .exact u.1 (congrArg O h0)
  .exact(u.2.2.2 j d).1 (congrArg O h0)
 .grind
 .have l:j<k:=by rwa [p]at d
  show dJ _ _ _ _ (gb j) (λ_=>0) (os j) (E ((List.range k).map λs=>fw (Lt ts q aI s)) j [])/\(gb j=sb∨∃i,i<k/\gb j=gb i)/\N (E ((List.range k).map λs=>fw (Lt ts q aI s)) j [])<=cp j/\cp j<=9223372036854775807;rw[r j l];exact⟨(h.nN j l).1.mono λb _ a=>n b a,.inr ⟨j,l,rfl⟩,(h.nN j l).2.2⟩
def Tryz.aiy:(V.info? 159).map (λi=>(i.zero,i.size,i.bytes))=O (O (Z Qr 0 0),1,24):=Qd
theorem aaZ(W:U)(base:Nat)(v:Ql)(n:Nat)(xs:JK Ql)(bG:W.ownsRow base 159 1 v n xs)(hl:n<=1000)(hb:base<=M (H W))(ga:LM)(gl gc:Nat)(ty:TypeId) :
  ∃d e,(Builtin.append_ #[133,133] ty #[v,Z (O (aD (M (H W)) 0)) 1 1]).run V (W.alloc (Qs #[Z ga gl gc] 159))=.ok d e/\
   e.ownsRow base 159 1 d (n+1) (xs++[Z ga gl gc])/\aB (λb=>v.ownBlock≠O b) W e/\(∃a m c,d = Z a m c)/\(d.ownBlock=v.ownBlock∨d.ownBlock=O (M (H W)+1)):=by
 obtain⟨i0,j,f,g,i⟩:=XB Tryz.aiy;obtain⟨d,e,k,l,p,q,r⟩:=lg (P:=V) W base 133 ty 159 i0 _ 1 24 underlying133 j f g i rfl Qc v n _ bG hb [.slice ga gl gc] rfl (λu t=>by
  grind [Value.oneCell']) hl Qc
 grind
end
section
attribute [local go_sem] Oper.semAt_some
def agN(pre:JK Nat):JK bB:=pre.foldl (λa (i:Nat)=>jH gK a (2 ^ i,0)) []
def amq(pre:JK Nat)(x:Nat):agN (pre++[x])=[(2 ^ x,0)].foldl (jH gK) (agN pre):=by unfold agN;rw[XU];rfl
def auA(pre:JK Nat)(h:∀y∈pre,y<5):(∀a∈agN pre,a.1<32/\a.2<32)/\N (agN pre)<=N pre:=by
 have e:agN pre=(pre.map λi=>((2 ^ i,0):bB)).foldl (jH gK) []:=by unfold agN;rw[List.foldl_map]
 have:=U6 (rk:=gK) (pre.map λi=>((2 ^ i,0):bB)) [] (λa b=>by cases b) (λa b=>by
  obtain⟨y,d,rfl⟩:=Xc.1 b;have:2 ^ y<2 ^ 5:=XR X (h y d);omega)
 rw[e];exact⟨this.1,by have:=this.2;simpa using this⟩
def aiP(h:n<=5):bS (2 ^ n-1)=List.range n:=by have:n=0∨n=1∨n=2∨n=3∨n=4∨n=5:=X;rcases this with rfl|rfl|rfl|rfl|rfl|rfl <;> rfl
structure amr(wr:U)(sb base:Nat)(CO:Array Ql)(pre:JK Nat)(o1:Pm)(W:U):Prop where
 ex:∃av,GB W sb 138 (CO.setIfInBounds 14 av)/\W.ownsRow base 165 2 av (N (agN pre)) ((agN pre).flatMap iA)/\(∀b,o1 b↔b=sb∨av.ownBlock=O b)/\(∀b,av.ownBlock=O b->M (H wr)<=b)
 fu:aB (λb=>b≠sb) wr W
def amr.bT{wr:U}{sb base:Nat}{CO:Array Ql}{pre:JK Nat}{o1:Pm}{A B:U}(h:amr wr sb base CO pre o1 A)(hk:aB (λb=>o1 b∨b<M (H wr)) A B):amr wr sb base CO pre o1 B:=by obtain⟨av,a,e,d,f⟩:=h.ex;exact⟨⟨av,a.bT hk (.inl ((d _).2 (.inl rfl))),Xw e hk (λg a=>.inl ((d g).2 (.inr a))),d,f⟩,h.fu.dL hk (λb i _=>.inr i)⟩
def aFQ(W:U)(o1 o2:Obj):Bw W ((W.drew.alloc o1).alloc o2):=((Za _ _).drew.alloc (Zb _) o1).alloc Qa o2
def rJ.start(aI:Nat)(hz:Fz (λb=>¬Xq b) W0 w){vb sb bt:Nat}(gb cp:Nat->Nat)(os:Nat->JK aA)(hb:Bw w y)(hl:M (H w)<sb/\M (H w)<vb/\vb≠sb)(h1:GB y (M (H w)) 118 (f.cells ts q))(h2:GB y vb 92 #[Y (O ⟨sb,0,Qr⟩)])(h3:GB y sb 138 (f.cells ts q++ap7 (Z Qr 0 0) F bt))(h4:bM 144 (λb=>¬Xq b/\b≠sb) y bt (kI ts q)):rJ W0 f ts q Xq aI w vb sb 0 (Lu ts q aI 0) (Z Qr 0 0) gb cp os bt y:=
 ⟨hz.next hb,hb,hz.aj.size,λb d=>Nat.lt_of_not_le λhl=>hz.high b hl d,hl,h1,h2,h3,XC _ _ _ _,λj a=>absurd a (Jw _),λi j g=>absurd g (Jw _),h4.mono λb _ hb=>⟨hb.1,hb.2,(λe=>by cases e),λj a=>absurd a (Jw _)⟩⟩
theorem aiz(Eq:vS f ts q W0)(hz:Fz (λb=>¬Xq b) W0 w)(aI:Nat)(h1:1<=aI)(h2:aI<=1000) :
  Calls V 50 #[Qt (f.cells ts q),I J (aI:Int)] w λe w'=>∃t L Mq,e=Qu (Y (O ⟨t,0,Qr⟩))/\gW W0 f ts q (λb=>Xq b∨Mq b) Mq w' t L (fF gK ts q aI)/\(∀b,Mq b->M (H w)<=b)/\Bw w w':=by
 obtain⟨v0,v1,v2,v3,v4,v5,v6,v7,v8,v9,fO,fP,fQ,iq,-,-,-,-,-,-,-,-,dO,-⟩:=Jh f ts q;subst dO;have O4:=Eq.jM;have eQ:=Eq.one;have UA:Qm (∀x,Bw w x->Calls V 87 #[Qt #[v0,v1,v2,v3,v4,v5,v6,v7,I Qp ((2 ^ (N q.au.xs)-1:Nat):Int),v9,fO,fP,fQ]] x (dU 144 (Fnw (λb=>¬Xq b) (M (H w)) (M (H x))) x (kI ts q))):=λx hx=>by rw[<-iq];exact Vq Eq (Fz.cut hz hx)
 have bq:Qm (∀x (Fq:Pm) (k:Nat),Fz Fq W0 x->k<32->Calls V 88 #[Qt #[v0,v1,v2,v3,v4,v5,v6,v7,I Qp ((2 ^ (N q.au.xs)-1:Nat):Int),v9,fO,fP,fQ],I Qp (k:Int)] x λe w'=>∃v os,e=Qu v/\mo 26 Fq (M (H x)) w' v os/\(os.map aA.xs=dF ts q k/\0<N os/\N os<=18)/\Bw x w'):=λx Fq k hx hk=>by rw[<-iq];refine(Ic Eq hx k X).mono ?_;rintro e w' ⟨v,os,rfl,h,ho,u⟩;obtain⟨⟨r,hr⟩,hl⟩:=NZ ts q k Eq.ko;have:=congrArg N ho;rw[ZX]at this;exact⟨v,os,rfl,h,⟨ho,by rw[this,hr];simp,X⟩,u⟩
 obtain⟨Q,aR⟩:∃n:Nat,n=2 ^ (N q.au.xs)-1:=⟨_,rfl⟩;have eT:Q<=31/\1<=Q:=by have h5:2 ^ (N q.au.xs)<=2 ^ 5:=ZP X O4;grind
 rw[<-aR]at iq UA bq;have cZ:=Zh (yZ Q X);have aU:Qm (bS Q=List.range (N q.au.xs)):=by show _=_;rw[aR];exact aiP O4
 obtain⟨w1,dB,bL,aa⟩:=bI w #[v0,v1,v2,v3,v4,v5,v6,v7,(I Qp (Q:Int)),v9,fO,fP,fQ] 118;have aV:Qm (∀(C t bt:Nat) (y:U),Bw w1 y->M (H w1)<=t->M (H w1)<=C->C≠t->GB y C 92 #[Y Qr]->GB y t 138 #[v0,v1,v2,v3,v4,v5,v6,v7,(I Qp (Q:Int)),v9,fO,fP,fQ,Z Qr 0 0,Z Qr 0 0,Qq F,Y (O ⟨bt,0,Qr⟩),Z Qr 0 0,I J 1]->bM 144 (λb=>¬Xq b/\b≠t/\b≠C) y bt (kI ts q)->Qo y ⟨C,0,Qr⟩=O (Y Qr)/\y.frozen? ⟨C,0,Qr⟩=F/\Bw w1 (Qn y ⟨C,0,Qr⟩ (Y (O ⟨t,0,Qr⟩)))/\rJ W0 f ts q Xq aI w C t 0 (Lu ts q aI 0) (Z Qr 0 0) (λ_=>0) (λ_=>0) (λ_=>[]) bt (Qn y ⟨C,0,Qr⟩ (Y (O ⟨t,0,Qr⟩)))):=λC t bt y hy hs hv fG g2 g3 ht=>by
  have hk:aB (λb=>b≠C) y (Qn y ⟨C,0,Qr⟩ (Y (O ⟨t,0,Qr⟩))):=Xu _ _ _ (λh=>h rfl);have aW:=hy.trans (hk.aj hy.size λb u=>X);have:=aa.lt;refine⟨g2.cell 0,g2.frozen 0,aW,rJ.start aI hz _ _ _ (aO bL aW) ⟨X,X,fG⟩ ?_ (g2.set 0 _) ?_ ((ht.eG (hk.mono λb _ u=>u.2.2)).mono λb _ u=>⟨u.1,u.2.1⟩)⟩
  .rw[iq];exact aa.up aW
  .rw[iq];exact g3.bT hk (λe=>fG e.symm)
 have F6:=aa.lt;obtain⟨a0,a1,a2,a3,a4,a5,a6,a7,a8,a9,wU,yD,yE⟩:=aa.vV;have bu:=Zh bL;have V7:Qm (∀m b,Fnw (λb=>¬Xq b) (M (H w)) m b->M (H w)<=m->¬Xq b):=λm b h hm=>h.elim And.left λh=>hz.high b X;obtain⟨ay,dP⟩:=bH iq aR;rw[iq];clear iq hz bL aa Eq aR;refine(Jn (n:=0)).1 (callsIn_of_wp_marks func50 rfl trivial (wpIn_wide.2 ?_) rfl);simp only[ntmps50,XD,Zu,XE,Nat.reduceAdd,Nat.reduceSub,Array.replicate_succ,Array.replicate_zero,List.push_toArray,List.append_toArray,List.nil_append,List.cons_append];go_upto_region 1 with fail;go_cut [5] from 9 to 13 (λc wx=>∃C t bt,c=Y (O ⟨C,0,Qr⟩)/\rJ W0 f ts q Xq aI w C t 0 (Lu ts q aI 0) (Z Qr 0 0) (λ_=>0) (λ_=>0) (λ_=>[]) bt wx)
 case first=>
  refine wp_region_noPanic (wH w1 λd=>?_);refine Co 0 d ?_;refine wJ 2 5 (λK p=>?_) λK p=>?_;go_simp;refine Jg (UA.o _ (aO bu.o d)) ?_;rintro e y0 ⟨bt,rfl,hT,-,-,u⟩;have aJ:=d.size;have df:=u.size;refine oT p d u λd=>?_;clear p K;refine rR 3 d ?_;refine wJ 4 5 (λK p=>?_) λK p=>?_;go_simp;obtain⟨y1,R,D,DF⟩:=bI y0 #[v0,v1,v2,v3,v4,v5,v6,v7,(I Qp (Q:Int)),v9,fO,fP,fQ,Z Qr 0 0,Z Qr 0 0,Qq F,Y (O ⟨bt,0,Qr⟩),Z Qr 0 0,I J 1] 138;rw[R];refine oT p d D λd=>?_;clear p K R;refine wR 5 λK p=>?_;go_simp;obtain⟨y2,ah,z,LP⟩:=bI y1 #[Y Qr] 92;rw[ah];refine oT p d z λd=>?_;clear p K ah;have aD:=aV.o (M (H y1)) (M (H y0)) bt y2 d X (Qj D.size) (Qj DF.lt) LP (DF.up z) ((hT.mono λb hl hF=>⟨V7.o _ _ hF X,X,Qj D.size⟩).aj (aO D z))
  rotate_left
  go_simp;obtain⟨y1,R,D,DF⟩:=bI y0 #[Y Qr] 92;rw[R];refine oT p d D λd=>?_;clear p K R;refine wR 4 λK p=>?_;go_simp;obtain⟨y2,ah,z,LP⟩:=bI y1 #[v0,v1,v2,v3,v4,v5,v6,v7,(I Qp (Q:Int)),v9,fO,fP,fQ,Z Qr 0 0,Z Qr 0 0,Qq F,Y (O ⟨bt,0,Qr⟩),Z Qr 0 0,I J 1] 138;rw[ah];refine oT p d z λd=>?_;clear p K ah;have aD:=aV.o (M (H y0)) (M (H y1)) bt y2 d (Qj D.size) X (Qj DF.lt) (DF.up z) LP ((hT.mono λb hl hF=>⟨V7.o _ _ hF X,Qj D.size,X⟩).aj (aO D z))
  rotate_left
  go_simp;obtain⟨y1,R⟩:=eY ((w1.alloc (Qs #[Y Qr] 92)).drew);have DF:GB y1 (M (H w1)) 92 #[Y Qr]:=by rw[R];exact qj w1 _
  have D:Bw w1 y1:=by rw[R];exact(fo _ _).drew
  have F9:=DF.lt;rw[<-R];refine p.o _ _ D λd=>?_;clear p K R;refine wR 2 λK p=>?_;go_simp;refine Jg (UA.o _ (aO bu.o d)) ?_;rintro e y0 ⟨bt,rfl,hT,-,-,u⟩;have df:=u.size;refine oT p d u λd=>?_;clear p K;refine rR 3 d ?_;refine wR 4 λK p=>?_;go_simp;obtain⟨y2,ah,z,LP⟩:=bI y0 #[v0,v1,v2,v3,v4,v5,v6,v7,(I Qp (Q:Int)),v9,fO,fP,fQ,Z Qr 0 0,Z Qr 0 0,Qq F,Y (O ⟨bt,0,Qr⟩),Z Qr 0 0,I J 1] 138;rw[ah];refine oT p d z λd=>?_;clear p K ah;have aD:=aV.o (M (H w1)) (M (H y0)) bt y2 d X X X (DF.up (aO u z)) LP ((hT.mono λb hl hF=>⟨V7.o _ _ hF X,X,λe=>by rcases hF with h|h <;> omega⟩).aj z)
  all_goals
   obtain⟨c1,f1,tq,hJ⟩:=aD;refine wR 6 λK p=>?_;go_simp;refine p.o _ _ tq λd=>?_;refine wD (NoPanic.normal ?_);try simp only[pU]
   go_wp2_with fail;go_meet;exact⟨_,_,_,rfl,hJ⟩
 case rest=>
 obtain⟨C,t,bt,rfl,hB⟩:=hcut;have dh:=Zh hB;have bz:Qo wc ⟨M (H w),8,Qr⟩=O (I Qp (Q:Int)):=by have:=hB.fbg;rw[ay.o]at this;exact this.cell 8
 go_wp2;go_loopw [17] (λiv wr=>∃k:Nat,k<=Q/\iv=I J (k:Int)/\Qm (∃gv gb cp os,rJ W0 f ts q Xq aI w C t k (Lu ts q aI k) gv gb cp os bt wr)) (λiv _=>Q-(intOf iv).toNat)
 case atStart=>exact⟨0,ZR _,rfl,_,_,_,_,dh.o⟩
 case round=>
  obtain⟨k,hk,rfl,HJ⟩:=hrel;obtain⟨gv,gb,cp,os,hB⟩:=HJ.o;have aK:=hB.fbg;rw[ay.o]at aK;by_cases aT:k<Q
  .obtain⟨a0,a1,a2,a3,a4,a5,a6,a7,a8,a9,wU,yD,yE⟩:=aK.vV;have bA:=bq.o wr _ k hB.fz X;obtain⟨ga,gm,gc,rfl⟩:=Xz hB.own;have HB:=Zh hB;go_wp2_with fail;refine bA.mono ?_;rintro e z1 ⟨v,ol,rfl,hO,Lb,bW⟩;obtain⟨ob,oc,rfl,eZ,fe,bX,Uv⟩:=amm hO Lb.2.1;obtain⟨ax,Ra⟩:=bH (HB.o.aj bW) Lb.1;have Lb:=Lb.2;obtain⟨dQ,dR,dS⟩:=lX hO.each Uv bX;clear bA hO bW bX Uv a0 a1 a2 a3 a4 a5 a6 a7 a8 a9 wU yD yE;have hv:=ax.o.var.cell 0;have di:=ax.o.sbl.2.2;have P:=ax.o.blk;rw[ay.o]at P;obtain⟨cu,bg⟩:=eY (Lu ts q aI k)
   rw[<-bg]at P ax;have dm:Qm (Lu ts q aI (k+1)=(cu ||decide (aI<N ol))):=by show _=_;rw[aiw,bg,<-Ra.o,ZX]
   clear bg;have dn:Qo z1 ⟨t,15,Qr⟩=O (Qq cu):=P.cell 15;have dw:=P.frozen 15;go_upto_region 6 with fail;go_cut [] from 24 to 36 (λwx=>rJ W0 f ts q Xq aI w C t k (Lu ts q aI (k+1)) (Z ga gm gc) gb cp os bt wx/\aB (λb=>b≠t) z1 wx)
   case first=>
    have dx:Qm (∀c2:Bool,aB (λb=>b≠t) z1 (Qn z1.drew ⟨t,15,Qr⟩ (Qq c2))->rJ W0 f ts q Xq aI w C t k c2 (Z ga gm gc) gb cp os bt (Qn z1.drew ⟨t,15,Qr⟩ (Qq c2))):=λc2 hk=>ax.o.aFM hk (by rw[ay.o];exact P.set 15 (Qq c2));clear P ax HB;refine wp_region_noPanic (wHk z1 (λb=>b≠t) λd=>?_);refine wK4 0 d ?_;refine wR 4 λK p=>?_;go_simp;refine p.o _ _ d λd=>?_;clear p K;refine wX1 5 d ?_;cases cu;refine wZ4 6 d ?_
    rotate_left
    refine wS4 6 d ?_
    all_goals
     refine wX3 10 d ?_;refine wR 13 λK p=>?_;go_simp;refine p.o _ _ (d.trans (Xu _ _ _ (λh=>h rfl))) (λd=>?_);clear p K;refine wD (NoPanic.normal ?_);try simp only[pU]
     go_wp2_with fail;go_meet;exact⟨by rw[dm.o];exact dx.o _ d,d⟩
   case rest=>
   obtain⟨z,aS⟩:=hcut;obtain⟨z2,dV⟩:=eY (wc);subst dV;have ak:=Zh z;obtain⟨m,hm⟩:=eY (min aI (N ol));have dz:1<=m/\m<=N ol/\m<=aI:=X;have dA:Qm ((if (N ol:Int)<(aI:Int) then (N ol:Int) else (aI:Int))=(m:Int)/\min (aI:Int) (N ol:Int)=(m:Int)):=⟨by split <;> omega,X⟩
   have dD:=HB.o.blk.lt;have bB:dC z2 (O ⟨ob,0,Qr⟩) m (λi=>(E (ol.take m) i iU).val):=λi hi=>by obtain⟨b,off,e,hc⟩:=dR.o m dz.2.1 i hi;cases e;exact⟨ob,0,rfl,JE aS hc (Qj dS.o)⟩
   have aX:∀o∈ol.take m,gP (λb=>GX Xq t k (Z ga gm gc) gb b/\b<M (H z2)) z2 o/\N o.xs<=1000:=λo ho=>by have h1:=dQ.o o (XT ho);have h2:=h1.1.mono (G:=λb=>GX Xq t k (Z ga gm gc) gb b/\b<M (H z1)) (λb hl u=>⟨u.1,hl⟩);exact⟨(h2.eG (aS.mono λb _ u=>u.1.2.1)).mono λb _ u=>⟨u.1,ZO u.2 aS.size⟩,h1.2⟩
   have aM:N (ol.take m)=m:=by rw[Jb];omega
   have bD:(ol.take m).map aA.xs=Lt ts q aI k:=by unfold Lt;rw[<-Ra.o,List.map_take,hm];simp
   have bE:N (fw (Lt ts q aI k))=m:=by rw[<-bD];unfold fw;rw[ZX,ZX,aM]
   have bF:Qm (∀x,Bw z2 x->Calls V 89 #[Z (O ⟨ob,0,Qr⟩) m oc] x λe w'=>∃gn cn,e=Qu (Z (O ⟨gn,0,Qr⟩) m cn)/\M (H x)<=gn/\(m<=cn/\cn<=9223372036854775807)/\dJ 144 206 (λb=>GX Xq t k (Z ga gm gc) gb b/\b<M (H z2)) w' gn (λ_=>0) (ol.take m) (fw (Lt ts q aI k))/\Bw x w'):=λx hx=>by have:=PZ (Fq:=λb=>GX Xq t k (Z ga gm gc) gb b/\b<M (H z2)) (w:=x) (ol.take m) (O ⟨ob,0,Qr⟩) oc (by rw[aM];exact dC.aj hx bB) (λo ho=>⟨(aX o ho).1.aj hx,(aX o ho).2⟩) X X (λ_=>0);rw[bD,aM]at this;refine this.mono ?_;rintro e w' ⟨gn,cn,rfl,h1,-,h3,h4,h5,h6⟩;exact⟨gn,cn,rfl,h1,⟨h3,h4⟩,h5,h6⟩
   have LP:=ak.o.ne;have P:=ak.o.blk;rw[ay.o]at P;have bJ:Qm (∀(y2:U) (gn cn:Nat),Bw z2 y2->M (H z2)<=gn->(m<=cn/\cn<=9223372036854775807)->dJ 144 206 (λb=>GX Xq t k (Z ga gm gc) gb b/\b<M (H z2)) y2 gn (λ_=>0) (ol.take m) (fw (Lt ts q aI k))->Qo y2 ⟨t,13,Qr⟩=O (Z ga gm gc)/\Qo (y2.alloc (Qs #[Z (O ⟨gn,0,Qr⟩) m cn] 159)) ⟨t,13,Qr⟩=O (Z ga gm gc)/\∃pa pm pc y4,(Builtin.append_ #[133,133] 133 #[Z ga gm gc,Z (O ⟨M (H y2),0,Qr⟩) 1 1]).run V (y2.alloc (Qs #[Z (O ⟨gn,0,Qr⟩) m cn] 159))=.ok (Z pa pm pc) y4/\Qo y4 ⟨t,13,Qr⟩=O (Z ga gm gc)/\y4.frozen? ⟨t,13,Qr⟩=F/\aB (λb=>b≠t/\(Value.slice ga gm gc).ownBlock≠O b) z2 y4/\aB (λb=>b≠t/\(Value.slice ga gm gc).ownBlock≠O b) z2 y2/\∃gv gb cp os,rJ W0 f ts q Xq aI w C t (k+1) (Lu ts q aI (k+1)) gv gb cp os bt (Qn y4 ⟨t,13,Qr⟩ (Z pa pm pc))):=λy2 gn cn aH aa nU hG=>by have aF:=P.up aH;obtain⟨v',y4,bn,wG,az,⟨pa,pm,pc,rfl⟩,dW⟩:=aaZ y2 (M (H w)) (Z ga gm gc) k _ (Ja ak.o.own aH) X (ZU ak.o.yA.size aH.size) (O ⟨gn,0,Qr⟩) m cn 133;have bK:aB (λb=>b≠t/\(Value.slice ga gm gc).ownBlock≠O b) z2 y2:=Xl aH;have bN:aB (λb=>b≠t/\(Value.slice ga gm gc).ownBlock≠O b) y2 y4:=az.mono λb _ u=>u.2;have aN:=aF.bT az LP.1;have bO:aB (λb=>b≠t) y4 (Qn y4 ⟨t,13,Qr⟩ (Z pa pm pc)):=Xu _ _ _ (λh=>h rfl);refine⟨aF.cell 13,(aF.bT (Xo (s:=λ_=>True) _ _) trivial).cell 13,pa,pm,pc,y4,bn,aN.cell 13,aN.frozen 13,bK.trans bN,bK,_,_,_,_,ak.o.push aH hG aa (by rw[bE];exact nU) (Xw (by rw[bE];exact wG) bO (λg e e2=>JF wG aN Qc (e2 ▸ e))) (bN.trans (bO.mono λb _ u=>u.1)) (dW.imp id λe=>⟨_,e,X⟩) ?_⟩;rw[ay.o];exact aN.set 13 (Z pa pm pc)
   have hv:=ak.o.var.cell 0;have aY:C≠t/\(Value.slice ga gm gc).ownBlock≠O C:=⟨di,LP.2.1⟩;have dE:Qo z2 ⟨t,13,Qr⟩=O (Z ga gm gc):=P.cell 13;clear dn dw bB aX hm z aS dD P LP HB ax ak aM;go_upto_region 7 with fail;refine wp_region_noPanic (wHk z2 (λb=>b≠t/\(Value.slice ga gm gc).ownBlock≠O b) λd=>?_);refine wK4 0 d ?_;refine wX4 5 d ?_;refine wT 9 (I J (m:Int)) d (λx hx=>?_) ?_
   .obtain⟨e1,e2⟩:=dA.o;go_simp
   refine wT 10 (Z (O ⟨ob,0,Qr⟩) m oc) d (λx hx=>?_) ?_
   .have eU:¬oc<m:=X
    go_simp
   refine wJ 4 11 (λK p=>?_) λK p=>?_;go_simp;refine p.o _ _ d λd=>?_;refine wR 11 λK p=>?_
   all_goals
    go_simp;refine Jg (bF.o _ ((Za _ _).drew)) ?_;rintro e y2 ⟨gn,cn,rfl,aa,nU,dX,dY⟩;obtain⟨fq,fu,pa,pm,pc,y4,bn,dZ,ed,az,jf,bY⟩:=bJ.o y2 gn cn (aO ((Za _ _).drew) dY) aa nU dX;refine p.o _ _ jf λd=>?_
   refine wR 12 λK p=>?_;go_simp;refine p.o _ _ (jf.trans (Xo _ _)) λd=>?_
   rotate_left
   refine wJ 4 12 (λK p=>?_) λK p=>?_;go_simp;refine p.o _ _ d λd=>?_;refine wR 12 λK p=>?_;go_simp;refine p.o _ _ (jf.trans (Xo _ _)) λd=>?_
   rotate_left
   go_simp;refine p.o _ _ (jf.trans (Xo _ _)) λd=>?_;refine wR 4 λK p=>?_;go_simp;refine p.o _ _ d λd=>?_
   all_goals
    refine wR 13 λK p=>?_;refine nM Qh _ _ _ Qh (Z ga gm gc) (Z (O ⟨M (H y2),0,Qr⟩) 1 1) (Z pa pm pc) y4 Qh Qh bn ?_;refine p.o _ _ az λd=>?_;refine wX2 14 d ?_;refine wR 16 λK p=>?_;go_simp;refine p.o _ _ (az.trans (Xu _ _ _ (λh=>h.1 rfl))) (λd=>?_);clear p K;refine wD (NoPanic.normal ?_);try simp only[pU]
    have HF:=Zh bY;clear hv dE aY bJ bF bY dZ ed az jf d;refine gQ ?_;exact⟨k+1,X,Qe,HF.o⟩
  .have bP:k=Q:=X
   have bz:Qo wr ⟨M (H w),8,Qr⟩=O (I Qp (Q:Int)):=aK.cell 8;obtain⟨L,bZ,cz,hA⟩:=hB.search X;obtain⟨HA,HL,HB,ek⟩:=De hA (JM bZ cz) hB bP;clear aK hA bZ cz hB HJ bP;go_wp2;have HV:Qm (Qo wr ⟨C,0,Qr⟩=O (Y (O ⟨t,0,Qr⟩))/\C<M (H wr)/\C≠t/\t<M (H wr)/\M (H w)<=t/\M (H W0)<=M (H wr)):=⟨HB.o.var.cell 0,HB.o.var.lt,HB.o.sbl.2.2,HB.o.blk.lt,Qj HB.o.sbl.1,HB.o.hz.aj.size⟩;obtain⟨s0,aJ⟩:=eY (⟨(List.range k).map λs=>fw (Lt ts q aI s),[],Lu ts q aI k,kI ts q,[],1⟩:fE);have aP:=Zh aJ;rw[<-aJ]at HA;have Ra:=Zh HB.o.yA;have YG:Qm (GB wr t 138 ((f.cells ts q++rY L s0).setIfInBounds 14 (Z Qr 0 0))):=by have:=aaf f ts q L s0 L.av;rw[HL.o.1]at this;show GB _ _ _ _;rw[this,aP.o];have:=HA.o.blk;rw[aP.o]at this;rw[<-HL.o.1];exact this
   clear bz aJ;refine(wpIn_wide (n:=0)).1 (Cy rq (gf:=90) (s:=I Qp (Q:Int)) rfl (enters_of func90 Qd rfl) (cZ.o w) Ra.o rfl (λai o1 W=>amr wr t (M (H W0)) (f.cells ts q++rY L s0) ai o1 W) (λb=>b=t) ?_ ?_ ⟨⟨Z Qr 0 0,YG.o,XC _ _ _ _,λb=>by simp[Value.ownBlock],λb e=>by cases e⟩,Xj _ _⟩ (λx=>{ tmps:=#[Qt #[v0,v1,v2,v3,v4,v5,v6,v7,(I Qp (Q:Int)),v9,fO,fP,fQ],I J (aI:Int),Y (O ⟨M (H w),0,Qr⟩),undef,Y Qr,Y (O ⟨C,0,Qr⟩),u6,u7,I J (x:Int),u9,u10,u11,u12,u13,Y (O ⟨M (H w),8,Qr⟩),I Qp (Q:Int),I J (Q:Int),I J (k:Int),Qq F,u19,u20,u21,u22,u23,u24,u25,u26,u27,u28,u29,u30,u31,u32,u33,u34,u35,u36,u37,u38,u39,u40,u41,u42,u43,u44,u45,u46,u47,u48,u49,u50,u51,u52,u53,Y (O ⟨M (H w),8,Qr⟩),I Qp (Q:Int),.func (.func 90) #[I Qp (Q:Int)] #[],I J (x:Int),undef,undef,undef,undef,undef,undef,undef,undef,undef,undef],defers:=[] }) ?assign ?body ?done)
   .rintro b rfl;exact⟨HV.o.2.2.2.2.1,HV.o.2.2.2.1⟩
   .intro ai o1 A B h hk;exact h.bT hk
   case assign=>
    intro l x W K p;have he:rq.enc x=I J (x:Int):=rfl;gi_wp2;exact p
   case body=>
    intro l ai x o1 W hI aG hx nL ni;have hp:∀y∈ai++[x],y<5:=λy hy=>by have h0:y∈bS Q:=aG.subset (Xc.2 ⟨y,hy,rfl⟩);rw[aU.o]at h0;have:=Xd.1 h0;omega
    have dG:N ai<=5:=by have h0:=aG.length_le;rw[aU.o,ZX,Zt,ZY]at h0;simp at h0;omega
    have dH:=hp x Qa;have nC:=auA ai λy hy=>hp y (by simp[hy]);obtain⟨⟨av,aC,bG,PG,Lj⟩,LW⟩:=hI;have aY:C≠t/\av.ownBlock≠O C:=⟨HV.o.2.2.1,λe=>Qk (Lj _ e) HV.o.2.1⟩;have hv:=JE LW HV.o.1 aY.1;have dI:Qm (∀(y:U) (tb:Nat),Bw W y->M (H W)<=tb->Qo y ⟨tb,0,Qr⟩=O (I Qp ((2 ^ x:Nat):Int))->Qo y ⟨tb,1,Qr⟩=O (I Qp 0)->Calls V 91 #[Y (O ⟨t,14,Qr⟩),Z (O ⟨tb,0,Qr⟩) 1 1] y λe w'=>(∃v,e=Qu v)/\aB (λb=>b≠t/\av.ownBlock≠O b) W w'/\∃o2,amr wr t (M (H W0)) (f.cells ts q++rY L s0) (ai++[x]) o2 w'/\aB (λb=>¬o1 b) W w'/\∀b,o2 b->o1 b∨M (H W)<=b/\b<M (H w')):=λy tb hy fB c0 c1=>by
     have dK:=aC.up hy;have dM:((f.cells ts q++rY L s0).setIfInBounds 14 av)[14]? = O av:=by rw[aaf];rfl
     refine(Y7 t (M (H W0)) _ av (agN ai) [(2 ^ x,0)] (O ⟨tb,0,Qr⟩) 1 y dK dM (Ja bG hy) (by have:=HV.o;have:=LW.size;have:=hy.size;omega) ⟨Qa,λi hi=>⟨tb,0,rfl,by
      have dN:i=0:=by simpa using hi
      subst dN;exact⟨c0,c1⟩⟩⟩ (λa e=>by
      cases e;exact⟨λe=>by have e:tb=t:=e;have:=aC.lt;omega,λe=>by have h3:tb<M (H W):=(Xy bG e).2;omega⟩) Qi nC.1 (λa ha=>by
      rw[XH]at ha;have:2 ^ x<2 ^ 5:=XR X dH;rw[ha];exact⟨X,by show 0<32;omega⟩)).mono ?_
     rintro e w3 ⟨eu,cB,g3,o3,k3,t3⟩;have aZ:=(Xl (s:=λb=>b≠t/\av.ownBlock≠O b) hy).trans k3;rw[Array.setIfInBounds_setIfInBounds]at g3;refine⟨eu,aZ,λb=>b=t∨cB.ownBlock=O b,⟨⟨cB,g3,by rw[amq];exact o3,λb=>Iff.rfl,λb e=>?_⟩,LW.dL aZ (λb hl u=>⟨u,λe=>Qj (Lj b e)⟩)⟩,aZ.mono λb _ u=>⟨λe=>u ((PG b).2 (.inl e)),λe=>u ((PG b).2 (.inr e))⟩,?_⟩
     .rcases t3 with t3|⟨g,t3,hg⟩
      .exact Lj b (t3 ▸ e)
      .have:=Jy (t3.symm.trans e);have:=LW.size;have:=hy.size;omega
     .rintro b (rfl|u)
      .exact .inl ((PG _).2 (.inl rfl))
      .rcases t3 with t3|⟨g,t3,hg⟩
       .exact .inl ((PG b).2 (.inr (t3 ▸ u)))
       .have h5:=(Xy o3 u).2;have:=Jy (t3.symm.trans u);have:=hy.size;exact .inr ⟨X,h5⟩
    clear nL ni hx aG aC bG PG Lj LW dG hp nC;gi_wp2_with fail;refine Vr (S:=λx=>aB (λb=>b≠t/\av.ownBlock≠O b) W x) Qd Qd (λ⟨_,_,h⟩=>h) ?_;have d:aB (λb=>b≠t/\av.ownBlock≠O b) W W.drew:=Xl ((Za _ _).drew);refine wK4 0 d ?_;refine wR 4 λK p=>?_;go_simp;refine p.o _ _ (d.trans (Xo _ _)) (λd=>?_);clear p K;refine wR 5 λK p=>?_;go_simp;refine Jg (Cv (M (H W)) x _ Qa X) ?_;rintro e y5 ⟨rfl,rfl⟩;refine p.o _ _ d λd=>?_;clear p K;refine wX1 6 d ?_;refine wR 7 λK p=>?_;go_simp;refine p.o _ _ (d.trans (Xo _ _)) (λd=>?_);clear p K;refine wR 8 λK p=>?_;go_simp;refine Jg (dI.o _ _ (aFQ W _ _) Qa Qa Qa) ?_;rintro e w3 ⟨⟨v,rfl⟩,eD,o2,eF,eH,eO⟩;refine p.o _ _ eD λd=>?_;clear p K;refine wD ?_;try simp only[Act.put,List.getElem_toArray,List.getElem_cons_succ,List.getElem_cons_zero,Zp,QX,QY]
    exact⟨o2,eF,eH,λb u=>(eO b u).elim .inl (λh=>.inr (.inl h))⟩
   case done=>
    rintro ys o1 W cK hI jf cO hD;have bQ:ys=bS Q:=by simpa [rq] using cK
    rw[aU.o]at bQ;subst bQ;obtain⟨⟨av,aC,bG,PG,Lj⟩,LW⟩:=hI;have hv:=JE LW HV.o.1 HV.o.2.2.1;have bR:¬o1 (M (H wr)):=λh=>by
     rcases cO _ h with h|h
     .have:=HV.o.2.2.2.1;omega
     .omega
    have aQ:=Xm (s:=λb=>o1 b∨b<M (H wr)) W (r:=M (H wr)) (.deferred Qr) (by
     rintro (h|h)
     .exact bR h
     .omega)
    have HD:=Zh hD;have ru:Qm (∃L Mq,gW W0 f ts q (λb=>Xq b∨Mq b) Mq (W.putObj (M (H wr)) (.deferred Qr)) t L (fF gK ts q aI)/\(∀b,Mq b->M (H w)<=b)/\Bw w (W.putObj (M (H wr)) (.deferred Qr))):=by
     have bU:=aC.bT aQ (.inl ((PG _).2 (.inl rfl)));have bf:=Xw bG aQ (λg hg=>.inl ((PG g).2 (.inr hg)));have bV:=LW.dL aQ (λb hl _=>.inr hl);obtain⟨X2,M2,eP,fA,g1,g2,g3⟩:=HA.o.next (bV.mono λb _ u=>u.1) (av:=av) (pv:=L.pv) (ag:=agN (List.range (N q.au.xs))) (pk:=s0.picks) (st:=s0.status) (by
      rw[aaf]at bU;exact bU) bf (by
      cases h:av.ownBlock with
      |none=>exact .inl (by rw[HL.o.1];rfl)
      |some g=>exact .inr ⟨g,rfl,Lj g h⟩) (by rw[HL.o.2,aP.o];exact XC _ _ _ _) (.inl rfl)
     have eX:X2=λb=>Xq b∨M2 b:=funext λb=>propext ((g3 b).trans ⟨λh=>h.elim (Or.imp id (g1 b)) .inr,Or.imp .inl id⟩);have eB:fF gK ts q aI = { s0 with aL:=agN (List.range (N q.au.xs)) }:=by rw[aP.o,ek.o,dP.o];rfl
     refine⟨_,M2,by rw[eB,<-eX];exact eP,λb u=>?_,Ra.o.trans (bV.aj Ra.o.size λb u=>Qj HV.o.2.2.2.2.1)⟩;rcases g2 b u with (h|⟨j,hj,h⟩)|h
     .rw[h];exact HV.o.2.2.2.2.1
     .rw[h];exact(HB.o.nN j hj).2.1
     .exact ZU Ra.o.size h
    clear aC bG PG Lj LW aQ bR cO jf cK;go_wp2;obtain⟨L2,M2,q1,q2,q3⟩:=ru.o;refine⟨Qa,.inl ⟨_,_,rfl,run_takeDeferred HD.o,?_⟩⟩;exact⟨_,results_tmp rfl _ _ _,t,L2,M2,rfl,q1,q2,q3⟩
end
structure PlS where
 W:U
 f:bC
 q:ae
 pb:Nat
 sb:Nat
 ca:LM
 cc:Nat
structure Vx(ts:JK af)(aI:Nat)(P:PlS)(w:U):Prop where
 blk:GB w P.pb 94 (#[Z P.ca (N ts) P.cc]++P.q.cells ++ #[I J (aI:Int),Y (O (aD P.sb 0))])
 Ea:aZ P.W P.ca ts
 qat:P.q.At P.W
 nil:aio P.q
structure ar9(ts:JK af)(Nq:Pm)(q:ae)(aI:Nat)(w:U)(P:PlS)(Mq:Pm)(w':U):Prop where
 O8:vS P.f ts P.q P.W
 same:il q P.q
 se:∃L,gW P.W P.f ts P.q (λb=>(Nq b∨b=P.pb)∨Mq b) Mq w' P.sb L (fF gK ts P.q aI)
 cell:Qo w' (aD P.pb 9)=O (Y (O (aD P.sb 0)))
 new:∀b,Mq b->M (H w)<=b
 pb:M (H w)<=P.pb
 npb:¬Mq P.pb
 aj:Bw w w'
 bT:Vx ts aI P w'
def PlK(w:U)(pb:Nat)(Tq:TypeId)(c:JK Ql)(x:U):Prop:=aB (λb=>b≠pb) w x/\∃u,GB x pb Tq (c++[u]).toArray
theorem PlK.aj{w:U}{pb:Nat}{Tq:TypeId}{c:JK Ql}{x y:U}(h:PlK w pb Tq c x)(hb:Bw x y):PlK w pb Tq c y:=by obtain⟨a,u,b⟩:=h;exact⟨a.trans (Xl hb),u,b.up hb⟩
theorem PlK.set{w:U}{pb:Nat}{Tq:TypeId}{c:JK Ql}{x:U}(h:PlK w pb Tq c x)(v:Ql):PlK w pb Tq c (Qn x (aD pb (N c)) v):=by obtain⟨a,u,b⟩:=h;refine⟨a.trans (Xu _ _ _ (λh=>h rfl)),v,?_⟩;have:=b.set (N c) v;grind
theorem aiE(h:gV ts=T):N ts<=1000:=by unfold gV at h;grind
theorem aiF(ao:LM)(cap:Nat)(ts:JK af)(q:ae)(aI:Nat)(Nq:Pm)(w:U)(hx:aZ w ao ts)(hn:ao=Qr->cap=0)(hq:q.At w)(FJ:N q.aC.xs<=q.aC.cap)(Ao:N q.ord.xs<=q.ord.cap)(ht:Tx q)(hs:dS w 0)(Rf:q.check ts=0)(h1:1<=aI)(h2:aI<=1000)(hN:∀b,Nq b->b<M (H w))(h0:¬Nq 0)(hw0:0<M (H w)) :
  Calls V 22 #[Z ao (N ts) cap,Qt q.cells,I J (aI:Int)] w λe A=>∃P Mq,e=Qu (Qv #[Y (O (aD P.pb 0)),I J 0])/\ar9 ts Nq q aI w P Mq A:=by
 have aT:=aiE (sS Rf).1.qP;obtain⟨v0,v1,v2,v3,v4,v5,v6,Di⟩:∃v0 v1 v2 v3 v4 v5 v6,q.cells=#[v0,v1,v2,v3,v4,v5,v6]:=⟨_,_,_,_,_,_,_,rfl⟩;obtain⟨w1,dB,bL,aL⟩:=bI w #[v0,v1,v2,v3,v4,v5,v6] 35;have Q:=checkQ_any ao cap ts q w1 (hx.aj bL) (hq.aj bL) FJ Ao;rw[Rf]at Q;have aV:Qm (∀x,Bw w x->Calls V 48 #[Z ao (N ts) cap] x λe A=>∃t cc,e=Qu (Z t (N ts) cc)/\aZ A t ts/\(∀a,t=O a->M (H x)<=a.block)/\Bw x A):=λx l=>by refine(Lr ao cap ts x (hx.aj l) hn aT).mono ?_;rintro e A ⟨v,rfl,ho,vR⟩;obtain⟨ad,cp,rfl,aa⟩:=Od ho aT;exact⟨ad,cp,rfl,aa,λa ea=>(Xy ho (g:=a.block) (by rw[ea];rfl)).1,vR⟩
 have au:Qm (∀x,Bw w x->Calls V 49 #[Qt q.cells] x λe A=>∃p:ae,e=Qu (Qt p.cells)/\p.At A/\il q p/\p.New (M (H x))/\aio p/\N p.aC.xs<=p.aC.cap/\Bw x A):=λx l=>aea q x (hq.aj l) ht;rw[Di]at Q au ⊢;obtain⟨bf,aM⟩:=bH hs Rf;have HN:Qm ((∀b,Nq b->b<M (H w))/\¬Nq 0/\0<M (H w)):=⟨hN,h0,hw0⟩;have HR:Qm (1<=aI/\aI<=1000):=⟨h1,h2⟩;have aW:=Zh bL;have r1:¬((aI:Int)<1):=X;have r2:¬((aI:Int) > 1000):=X;have r3:¬((1000:Int)<(aI:Int)):=X;obtain⟨a0,a1,a2,a3,a4,a5,a6⟩:=aL.k7;clear hx hn hq FJ Ao ht hs Rf h1 h2 hN h0 hw0 aT Di bL aL;go_enter func22,ntmps22;go_wp2_with fail;refine mR Q λw2 i=>?_;clear Q dB;obtain⟨d0,d1,d2,d3,d4⟩:=qi i a0 a1 a2 a3 a4;obtain⟨d5,d6⟩:=kP i a5 a6;have y:=Zh (aO aW.o i);clear i a0 a1 a2 a3 a4 a5 a6;go_wp2_with fail;have R:Bw w2 w2.drew:=(Za _ _).drew;refine wH w2 λd=>?_;refine rR 0 d ?_;refine rR 2 d ?_;refine rR 4 d ?_;refine wR 1 λK k=>?_;go_simp;refine Jg (aV.o _ (aO y.o R)) ?_;rintro e s1 ⟨t,cc,rfl,aa,nU,l⟩;have aX:Qm (∀a,t=O a->M (H w)<=a.block):=λa ea=>ZU (aO y.o R).size (nU a ea);clear nU;have Vm:=aO R l;have av:=Zh aa;clear aa;refine k.o _ _ (aO d l) (λd=>?_);clear k K;refine wR 3 λK k=>?_;go_simp;refine Jg (au.o _ (aO y.o Vm)) ?_;rintro e s2 ⟨p,rfl,aN,zT,jG,aP,FJ,i⟩;have ax:=aO Vm i;have ay:=Zh (av.o.aj i);have z:Qm (p.At s2/\il q p/\p.New (M (H s1))/\aio p/\N p.aC.xs<=p.aC.cap):=⟨aN,zT,jG,aP,FJ⟩;clear aN zT jG aP FJ av;obtain⟨p0,p1,p2,p3,p4,p5,p6,ak⟩:∃p0 p1 p2 p3 p4 p5 p6,p.cells=#[p0,p1,p2,p3,p4,p5,p6]:=⟨_,_,_,_,_,_,_,rfl⟩;rw[ak];refine k.o _ _ (aO d i) (λd=>?_);clear k K;refine rR 5 d ?_;refine wR 6 λK k=>?_;go_simp;refine oA k d λd=>?_;clear k K;refine rR 7 d ?_;refine wD ?_;try simp only[pV]
 obtain⟨w3,bg,aQ,B⟩:=bI s2 #[Z t (N ts) cc,p0,p1,p2,p3,p4,p5,p6,I J (aI:Int),Y Qr] 94;obtain⟨aR,zY,EX,UZ⟩:=De aQ (aO y.o ax) ((aO y.o Vm).size) B.lt;have az:Qm (∀x,Bw s2 x->Calls V 51 #[Z t (N ts) cc,Qt p.cells] x λe A=>∃f:bC,e=Qu (Qt (f.cells ts p))/\f.At ts p A/\f.New (M (H x))/\Bw x A):=λx l=>aa3 t cc ts p x (ay.o.aj l) (z.o.1.aj l) (sS (ts:=ts) (q:=p) (by rw[z.o.2.1.check ts];exact aM.o)).1.ok;rw[ak]at az;obtain⟨j,Bv⟩:=eY (M (H s2));clear d Vm ax R l i aQ d0 d1 d2 d3 d4 d5 d6;go_upto_region 7 with fail;rw[bg];rw[<-Bv];rw[<-Bv]at B UZ;have Lf:=Zh Bv;clear Bv;have ah:Bw w3 w3.drew:=(Za _ _).drew;refine ZI (S:=PlK w3 j 94 [Z t (N ts) cc,p0,p1,p2,p3,p4,p5,p6,I J (aI:Int)]) Qd ⟨Xl ah,Y Qr,B⟩ (λd=>?_);refine wt 0 (Y (O (aD j 0))) d ?_;refine wt 1 (Y (O (aD j 0))) d ?_;refine wt 2 (Y (O (aD j 0))) d ?_;refine wt 3 (Y (O (aD j 0))) d ?_;refine wT 4 (Z t (N ts) cc) d (λx hx=>?_) ?_
 .obtain⟨_,u,hg⟩:=hx;have e0:=hg.at 0;go_simp
 refine wt 5 (Y (O (aD j 0))) d ?_;refine wt 6 (Y (O (aD j 0))) d ?_;refine wt 7 (Y (O (aD j 1))) d ?_;refine wT 8 (Qt #[p0,p1,p2,p3,p4,p5,p6]) d (λx hx=>?_) ?_
 .obtain⟨_,u,hg⟩:=hx;have e0:=hg.at 1;have e1:=hg.at 2;have e2:=hg.at 3;have e3:=hg.at 4;have e4:=hg.at 5;have e5:=hg.at 6;have e6:=hg.at 7;go_simp
 refine wt 10 (I J (aI:Int)) d ?_;refine wR 9 λK k=>?_;go_simp;refine Jg (az.o _ (aO aR.o ah)) ?_;rintro e w4 ⟨f,rfl,hf,aS,aU⟩;have ai:=aO ah aU;have r:=aO aR.o ai;have aA:=ZO UZ.o ai.size;have aY:=zY.o.size;have Bv:=Lf.o;have aF:=aec (by rw[z.o.2.1.check ts];exact aM.o) hf (dS.aj (aO zY.o r) bf.o) z.o.2.2.2.2 z.o.2.2.2.1.aC;obtain⟨W0,C⟩:=ait (λb=>Nq b∨b=j) w4;have hE:=vS.auw C aF (W':=s2) (n:=M (H s1)) (m:=M (H w3.drew)) (λh=>by
  have g1:=HN.o.2.2;rcases h with h|h
  .exact HN.o.2.1 h
  .omega) (λb h=>by
  show b<M (H w3);have g1:=UZ.o;rcases h with h|h
  .have:=HN.o.1 b h;omega
  .omega) aS (λb h=>by
  rcases h with h|h
  .have g2:=HN.o.1 b h;have g3:=EX.o;exact .inl X
  .exact .inr X) r z.o.1 z.o.2.2.1
 have hz:Fz (λb=>¬(λb=>Nq b∨b=j) b) W0 w4:=Fz.auw C (Za _ _) (λb h=>by
  rcases h with h|h
  .have:=HN.o.1 b h;have:=r.size;omega
  .omega)
 have aG:Qm (aZ W0 t ts/\p.At W0):=by
  have g1:=HN.o.1;have g3:=EX.o;refine⟨Vn C (n:=M (H w)) (λb h=>?_) r ay.o aX.o,Kz C (n:=M (H s1)) (λb h=>?_) r z.o.1 z.o.2.2.1⟩
  .grind
  .rcases h with h|h
   .have:=g1 b h;exact .inl X
   .exact .inr X
 have Ps:=aiz hE hz aI HR.o.1 HR.o.2;have HE:=Zh hE;have qO:Qm (Bw s2 w4/\j<M (H w4)):=⟨r,aA⟩;have aH:=B.bT (Xl (s:=λb=>b<M (H w3)) ai) UZ.o;clear aF hE hz hf aS Bv aY aA C;refine k.o _ _ (d.aj aU) (λd=>?_);clear k K;refine wR 11 λK k=>?_;go_simp;refine Jg (Ps) ?_;rintro e w5 ⟨sb,L,Mq,rfl,ag,D,G⟩;have aJ:=Zh (JM ag (JM D G));have W:=aH.bT (Xl (s:=λb=>b<M (H w4)) G) qO.o.2;clear ag D Ps;refine k.o _ _ (d.aj G) (λd=>?_);clear k K;refine wX2 12 d ?_;have c9:=W.at 9;have f9:=W.frozen 9;refine wR 14 λK k=>?_;go_simp;refine k.o _ _ (d.set _) (λd=>?_);clear k K;refine wD ?_;try simp only[pV]
 obtain⟨w6,yw⟩:=eX (Qn w5 (aD j 9) (Y (O (aD sb 0))));have gJ:Qm (ar9 ts Nq q aI w ⟨W0,f,p,j,sb,t,cc⟩ Mq w6):=by
  obtain⟨ag,D,G⟩:=aJ.o;have hk:aB (λb=>¬b=j) w5 w6:=by rw[<-yw];exact Xu _ _ _ (λh=>h rfl)
  have Gu:=W.set 9 (Y (O (aD sb 0)));rw[yw]at Gu;have hl:=qO.o.2;have Bv:=Lf.o;have bn:=zY.o.size;have aK:¬Mq j:=λh=>by have:=D j h;omega
  refine⟨HE.o,z.o.2.1,⟨L,ag.Af (Nq:=λb=>b=j) (N':=λ_=>False) (λb h=>.inl (.inr h)) (λb l e=>aK (e ▸ l)) hk (λb h=>h.elim) (λb=>⟨λh=>.inl h,λh=>by
   grind⟩) (λb h=>h.elim) (λb h=>h.elim)⟩,Gu.cell 9,λb l=>?_,?_,aK,?_,⟨?_,aG.o.1,aG.o.2,z.o.2.2.2.1⟩⟩
  .have:=D b l;omega
  .show (M (H w))<=j
   omega
  .have h5:=aO (aO zY.o qO.o.1) G;exact h5.trans (hk.aj h5.size (λb l e=>X))
  .show GB w6 j _ (#[Z t (N ts) cc]++p.cells ++ #[I J (aI:Int),Y (O (aD sb 0))])
   rw[ak];exact Gu
 clear d B aH W c9 f9 aJ HE qO HN;go_upto_region 8 with fail;rw[yw];go_wp2;go_ret2;exact⟨_,Mq,rfl,gJ.o⟩
section
theorem il.amj(h:il q p)(i:Nat):(E p.wh i lz).cs=(E q.wh i lz).cs:=by
 by_cases a:i<N p.wh
 .exact h.cs i a
 .have b:¬i<N q.wh:=by rw[<-h.len];exact a
  simp_all
structure QS(ts:JK af)(q:ae)(us:JK af)(p:ae):Prop extends il q p where
 bU:fV us q.au.xs (N q.au.xs)=fV ts q.au.xs (N q.au.xs)
 rows:jZ us q.au.xs=jZ ts q.au.xs
variable {ts us:JK af} {q p:ae}
def il.qs(h:il q p)(ts:JK af):QS ts q ts p:=⟨h,rfl,rfl⟩
theorem QS.source(h:QS ts q us p):aU us q.au.xs=aU ts q.au.xs:=by funext c;unfold aU;rw[h.bU]
theorem QS.parts(h:QS ts q us p):fJ us q.au.xs=fJ ts q.au.xs:=by funext c;unfold fJ iN;rw[h.bU]
theorem QS.size(h:QS ts q us p):jd us p=jd ts q:=by funext s c;unfold jd;simp only[h.au,h.amj,h.rows,h.parts]
def QS.key(h:QS ts q us p):lZ us p=lZ ts q:=by funext n a b;unfold lZ xI;simp only[h.au,h.amj,h.len,h.source]
def QS.part(h:QS ts q us p):eP us p=eP ts q:=by funext n l r;unfold eP;simp only[h.size]
def QS.grow(h:QS ts q us p):aS us p=aS ts q:=by funext n bs;unfold aS;rw[h.part]
def QS.ac9(h:QS ts q us p):jk p=jk q:=by unfold jk;rw[h.ord,h.bA]
def QS.ends(h:QS ts q us p):kF p=kF q:=by funext k o;unfold kF;rw[h.ord,h.ac9,h.aC]
def QS.ap4(h:QS ts q us p):bK p=bK q:=by funext o;unfold bK;rw[h.aF,h.aC]
def QS.aaX(h:QS ts q us p):aR p=aR q:=by unfold aR;rw[h.aF,h.aC,h.ac9]
def QS.ended(h:QS ts q us p):jg us p=jg ts q:=by funext t;unfold jg;rw[h.grow,h.ends,h.ap4]
def QS.amk(h:QS ts q us p):bW us p=bW ts q:=by funext t o;unfold bW;rw[h.grow]
def QS.ap5(h:QS ts q us p):dQ us p=dQ ts q:=by funext t;unfold dQ;rw[h.ended,h.amk,h.aaX]
def QS.bP(h:QS ts q us p):lK us p=lK ts q:=by funext b t;unfold lK;rw[h.ap5]
def QS.aaY(h:QS ts q us p):dz us p=dz ts q:=by funext t c;unfold dz;rw[h.grow]
def QS.ap6(h:QS ts q us p):dE us p=dE ts q:=by funext c s;unfold dE;rw[h.grow,h.aaY]
def QS.dN(h:QS ts q us p):Zz.dN us p=Zz.dN ts q:=by
 funext k
 induction k with
 |zero=>show aS us p _ _=aS ts q _ _;rw[h.grow]
 |succ k ih=>show aS us p _ [Zz.dN us p k,aS us p _ _]=aS ts q _ [Zz.dN ts q k,aS ts q _ _];rw[h.grow,ih]
def QS.plain(h:QS ts q us p):kI us p=kI ts q:=by unfold kI;rw[h.grow,h.aaY,h.dN,h.au,h.aF,h.len,h.ord]
def QS.UI(h:QS ts q us p):fT us p=fT ts q:=by funext g o;unfold fT;rw[h.amk]
def QS.zu(h:QS ts q us p):bq us p=bq ts q:=by funext g l;unfold bq;rw[h.UI]
def QS.ll(h:QS ts q us p):Zz.ll us p=Zz.ll ts q:=by funext l r g cl acc key;unfold Zz.ll;rw[h.grow,h.key]
def QS.auy(h:QS ts q us p):jJ us p=jJ ts q:=by funext c l g;unfold jJ;rw[h.grow,h.ll]
def QS.azg(h:QS ts q us p):jo us p=jo ts q:=by funext c a b;unfold jo;rw[h.auy]
def QS.bT(h:QS ts q us p)(rk:Nat->Int):ed rk us p=ed rk ts q:=by funext s l σ;unfold ed;rw[h.au,h.bP,h.zu]
def QS.vU(h:QS ts q us p)(rk:Nat->Int):Zz.vU rk us p=Zz.vU rk ts q:=by funext c t σ;unfold Zz.vU;rw[h.bT rk,h.ap6,h.azg]
def QS.gz(h:QS ts q us p)(rk:Nat->Int):Zz.gz rk us p=Zz.gz rk ts q:=by funext c k σ;unfold Zz.gz;rw[h.vU rk]
def QS.iV(h:QS ts q us p)(rk:Nat->Int):Zz.iV rk us p=Zz.iV rk ts q:=by
 funext c ps n
 induction n with
 |zero=>rfl
 |succ n ih =>
  funext k σ;show (if σ.status=1 then Zz.iV rk us p c ps n (k+1) (Zz.gz rk us p c (jU ps k) σ) else σ)=(if σ.status=1 then Zz.iV rk ts q c ps n (k+1) (Zz.gz rk ts q c (jU ps k) σ) else σ);rw[ih,h.gz rk]
def QS.Ve(h:QS ts q us p)(rk:Nat->Int):Zz.Ve rk us p=Zz.Ve rk ts q:=by funext c ps n t σ;unfold Zz.Ve;rw[h.iV rk]
def QS.conc(h:QS ts q us p):bE us p=bE ts q:=by
 have e:∀(ts:JK af) (r:ae),bE ts r=r.qU.map λc=>bn (iO ts r.au.xs c):=λts r=>by unfold bE ae.qU;simp_all
 rw[e us,e ts,h.qU,h.au];unfold iO;rw[h.source]
def L6(ts:JK af)(q:ae)(s:Nat)(acc:JK (IC))(c:JK aV):JK (IC):=
 if ((di c).2.2 && !bV s (bn (iR ts q [(di c).1,(di c).2.1])))=T then fC ts q s (fC ts q s acc (di c).1) (di c).2.1 else acc
def QS.iR(h:QS ts q us p):Zz.iR us p=Zz.iR ts q:=by funext xs;unfold Zz.iR;rw[h.au,h.source]
def QS.fC(h:QS ts q us p):Zz.fC us p=Zz.fC ts q:=by funext s acc c;unfold Zz.fC;rw[h.iR]
def QS.auz(h:QS ts q us p):dF us p=dF ts q:=by
 funext s;have e:∀(ts:JK af) (r:ae) (i:JK (IC)),r.wh.foldl (kL ts r s) i=r.qU.foldl (L6 ts r s) i:=λts r i=>by unfold ae.qU;rw[List.foldl_map];rfl
 have a:L6 us p s=L6 ts q s:=by funext acc c;unfold L6;rw[h.iR,h.fC]
 unfold dF;rw[e us,e ts,h.qU,a,h.iR,h.aaX]
theorem QS.fF(h:QS ts q us p)(rk:Nat->Int)(aI:Nat):Zz.fF rk us p aI=Zz.fF rk ts q aI:=by unfold Zz.fF;rw[h.au,h.auz,h.plain]
end
def Tryz.NB:Go.Proofs.LaysC.n172 V Tryz.Kb:={ Tryz.aoO with
 t80:=underlying91
 a80:=isAgg91
 z80:=sizeOf91
 v80:=zeroValue91
 i0:=Qd
 i2:=Qd
 i3:=Qd
 i4:=Qd
 i5:=Qd
 i9:=Qd
 i20:=Qd
 i21:=Qd
 i37:=Qd
 i46:=Qd
 i51:=Qd
 i53:=Qd
 i75:=Qd
 i76:=Qd
 i80:=Qd
 i85:=Qd
 i127:=Qd
 i143:=Qd
 i145:=Qd
 i167:=Qd
 i168:=Qd
 i171:=Qd
 i173:=Qd
 i175:=Qd
 i210:=Qd
 i212:=Qd
 i232:=Qd
 i233:=Qd
 m15:=Qd
 m16:=Qd
 m17:=Qd
 m18:=Qd
 m19:=Qd
 c0:=Qd
 c2:=Qd
 c3:=Qd
 c4:=Qd
 c5:=Qd
 c9:=Qd
 c20:=Qd
 c21:=Qd
 c37:=Qd
 c46:=Qd
 c51:=Qd
 c53:=Qd
 c75:=Qd
 c76:=Qd
 c80:=Qd
 c85:=Qd
 c127:=Qd
 c143:=Qd
 c145:=Qd
 c167:=Qd
 c168:=Qd
 c171:=Qd
 c173:=Qd
 c175:=Qd
 c210:=Qd
 c212:=Qd
 c213:=Qd
 c232:=Qd
 c233:=Qd}
def iH(s:JK UInt8):ByteArray:=⟨s.toArray⟩
def Vd(W:U):Prop:=∀x,Bw W x->∀s:JK UInt8,N s<=2000000->(Calls V 141 #[.string (iH s),.string ⟨#[32]⟩] x λe w'=>(∃b,e=Qu (Qv #[.string (iH (uI s)),.string (iH (dw s)),Qq b]))/\Bw x w')/\
 Calls V 145 #[.string (iH s)] x λe w'=>((∃v,Lib.atoiAll s=.ok v/\e=Qu (Qv #[I J v,.nilIface]))∨((∀v,Lib.atoiAll s ≠ .ok v)/\∃v t p,e=Qu (Qv #[I J v,.iface t (Y p)])))/\Bw x w'
def apK{u:Ql}(h2:Qo W (aD 2 0)=O u)(hu:u=.nilIface∨∃t p,u=.iface t p)(h3:Qo W (aD 3 0)=O v)(hv:v=.nilIface∨∃t p,v=.iface t p)
  (hc:∀x,Bw W x->∀s:JK UInt8,N s<=2000000->Calls V 141 #[.string (iH s),.string ⟨#[32]⟩] x λe d=>(∃b,e=Qu (Qv #[.string (iH (uI s)),.string (iH (dw s)),Qq b]))/\Bw x d):Vd W:=λx a s f=>by
 refine⟨hc x a s f,?_⟩;have i:(iH s).size<=2000000:=by simpa [iH,ByteArray.size] using f
 have hd:(iH s).data.toList=s:=rfl
 cases h:Lib.atoiAll s with
 |ok n =>
  refine mR (Any.strconv_Atoi_ok Tryz.NB (iH s) X n h x) λd g=>?_;refine⟨.inl ⟨n,rfl,rfl⟩,?_⟩;rcases g with rfl|⟨t,rfl⟩
  .exact Za _ _
  .exact Lib.bytesWorld_below _ _ _
 |range =>
  refine(Any.strconv_Atoi_range Tryz.NB (iH s) X h v x (cB a h3) hv).mono ?_;simp_all
 |_ =>
  refine(Any.strconv_Atoi_syntax Tryz.NB (iH s) X h u x (cB a h2) hu).mono ?_;simp_all
structure tZ(W:U)(rb:Nat)(s:JK UInt8)(w:U):Prop where
 cut:Vd W
 lo:M (H W)<=rb
 aj:Bw W w
 blk:GB w rb 174 #[.string (iH s)]
 D6:N s<=2000000
def tZ.step(h:tZ W rb ns w)(hb:Bw w w'):tZ W rb ns w':=
 ⟨h.cut,h.lo,aO h.aj hb,h.blk.up hb,h.D6⟩
def tZ.fu(h:tZ W rb ns w){s:Pm}(hk:aB s w w')(hs:s rb)(hW:∀b,b<M (H W)->s b):tZ W rb ns w':=
 ⟨h.cut,h.lo,h.aj.trans (hk.aj h.aj.size λb a=>hW b a),h.blk.bT hk hs,h.D6⟩
def aai(h:tZ W rb s w) :
  Calls V 98 #[Y (O (aD rb 0))] w λe n=>e=Qu (.string (iH (uI s)))/\tZ W rb (dw s) n/\aB (λb=>b≠rb) w n:=by
 have i:=(h.cut w h.aj s h.D6).1;have c0:=h.blk.at 0;obtain⟨m,r⟩:=bH h (akM s);clear h;generalize iH s=S,iH (uI s)=u at*;obtain⟨v,j⟩:=eY (iH (dw s));rw[<-j]at i;have p:=Zh j;clear j;go_enter func98,ntmps98;go_wp2_with fail;refine i.mono ?_;rintro e k ⟨⟨f,rfl⟩,g⟩;have a:=(m.o.step g).blk;have t:=a.at 0;have y:=a.frozen 0;have q:Qm (tZ W rb (dw s) (Qn k (aD rb 0) (.string v))/\aB (λb=>b≠rb) w (Qn k (aD rb 0) (.string v))):=by have d:=m.o.step g;have l:=Xu (s:=λb=>b≠rb) k (aD rb 0) (.string v) (λh=>h rfl);refine⟨⟨d.cut,d.lo,d.aj.trans (l.aj d.aj.size λb g=>Qj d.lo),?_,ZU r.o d.D6⟩,(Xl g).trans l⟩;rw[<-p.o];exact a.set 0 (.string v)
 clear i c0 g a;go_wp2;go_ret;exact⟨rfl,q.o⟩
def lG(h:tZ W rb s w) :
  Calls V 102 #[Y (O (aD rb 0))] w λe d=>e=Qu (I J (iM s))/\tZ W rb (dw s) d/\aB (λb=>b≠rb) w d:=by
 have u:=aai h;have y:Qm (∀x,Bw W x->Calls V 145 #[.string (iH (uI s))] x λe d=>((∃v,Lib.atoiAll (uI s)=.ok v/\e=Qu (Qv #[I J v,.nilIface]))∨((∀v,Lib.atoiAll (uI s) ≠ .ok v)/\∃v t p,e=Qu (Qv #[I J v,.iface t (Y p)])))/\Bw x d):=λx f=>(h.cut x f (uI s) (ZU (akN s) h.D6)).2;have j:Qm ((∀v,Lib.atoiAll (uI s)=.ok v->iM s=v)/\((∀v,Lib.atoiAll (uI s) ≠ .ok v)->iM s=0)):=by unfold iM;refine⟨λv a=>by rw[a],λa=>?_⟩;simp
 clear h;generalize iH (uI s)=B,iM s=n at*;go_enter func102,ntmps102;go_wp2_with fail;refine u.mono ?_;rintro e l ⟨rfl,m,A⟩;have k:Qm (∀x,Bw l x->tZ W rb (dw s) x/\aB (λb=>b≠rb) w x):=λx f=>⟨m.step f,A.trans (Xl (s:=λb=>b≠rb) f)⟩;have z:=y.o l m.aj;go_wp2_with fail;refine z.mono ?_;rintro e q ⟨(⟨v,a,rfl⟩|⟨a,v,t,p,rfl⟩),r⟩
 .obtain⟨g,i⟩:=bH (k.o q r) (j.o.1 v a);go_wp2;go_ret;exact⟨by rw[i.o];rfl,g.o⟩
 .obtain⟨g,i⟩:=bH (k.o q r) (j.o.2 a);go_wp2;go_ret;exact⟨by rw[i.o];rfl,g.o⟩
theorem Hy(h:tZ W rb s w) :
  Calls V 144 #[Y (O (aD rb 0))] w λe d=>e=Qu (Qq (decide (iM s≠0)))/\tZ W rb (dw s) d/\aB (λb=>b≠rb) w d:=by
 have a:=lG h;generalize iM s=n,dw s=l at*;go_enter func144,ntmps144;go_wp2_with fail;refine mR a λj f=>?_;have g:=Zh f;clear a f;have i:Qm ((n != 0)=decide (n≠0)):=by show _=_;grind
 go_wp2;go_ret;exact⟨by rw[<-i.o];rfl,g.o⟩
theorem zo{next:JK UInt8->α × JK UInt8}{ys:List α}{R:List α × JK UInt8}(h:(ys++(qF next (n-k) s).1,(qF next (n-k) s).2)=R) :
  (n<=k->R=(ys,s))/\(s=[]->R=(ys,s))/\(k<n->s≠[]->(ys++[(next s).1]++(qF next (n-(k+1)) (next s).2).1,(qF next (n-(k+1)) (next s).2).2)=R):=by
 refine⟨λb=>?_,λa=>?_,λb a=>?_⟩
 .grind [qF,Nat.sub_eq_zero_of_le]
 .rw[<-h,a]
  cases n-k <;> simp[qF]
 grind [qF.eq_def]
theorem nO(s:JK UInt8):(s=[]->(iH s).toList.isEmpty=T)/\(s≠[]->(iH s).toList.isEmpty=F):=by grind [iH,ByteArray.toList_eq]
def aaj{α:Type}(next:JK UInt8->α × JK UInt8)(At:List α->Ql->U->Prop)(W:U)(rb:Nat)(w:U)(n:Nat)(R:List α × JK UInt8)(k:Nat)(v:Ql)(x:U):Prop:=
 ∃ys s,At ys v x/\N ys=k/\tZ W rb s x/\aB (λb=>b≠rb) w x/\(ys++(qF next (n-k) s).1,(qF next (n-k) s).2)=R
theorem Hz(most:Nat)(hm:most<=1000000)(h:tZ W rb s w) :
  Calls V 103 #[Y (O (aD rb 0)),I J (most:Int),.func (.func 102) #[Y (O (aD rb 0))] #[]] w λe w'=>∃v,e=Qu v/\w'.ownsRow (M (H w)) 3 1 v (dI kH most s).1.length ((dI kH most s).1.map (Value.int J))/\tZ W rb (dI kH most s).2 w'/\aB (λb=>b≠rb) w w':=by
 have hn:=lG h;have Px:=Zh h.blk.lt;clear h;obtain⟨R,u⟩:=eY (dI kH most s);rw[<-u];unfold dI at u;obtain⟨Nq,D⟩:=eY (min (iM s) (most:Int));rw[<-D]at u;have HR:=Zh u;have n:Qm (Nq.toNat<=1000000):=by show _<=_;omega
 have m1:(if (most:Int)<iM s then (most:Int) else iM s)=Nq:=by rw[D];grind
 have m2:min (iM s) (most:Int)=Nq:=D.symm;clear u D hm;generalize iM s=n0 at*;go_enter func103,ntmps103;go_wp2_with fail;refine hn.mono ?_;rintro e w2 ⟨rfl,h2,jf⟩;obtain⟨H2,Bl⟩:=bH h2 jf;clear hn h2 jf;go_wp2;clear m1 m2;go_loopw [7,12] (λv i wr=>∃k:Nat,i=I J k/\Qm (aaj kH (λd v x=>x.ownsRow (M (H w)) 3 1 v (N d) (d.map (Value.int J))) W rb w Nq.toNat R k v wr)) (λ_ i _=>Nq.toNat-(intOf i).toNat)
 case atStart=>exact⟨0,rfl,[],dw s,XC _ _ _ _,rfl,H2.o,Bl.o,HR.o.symm⟩
 case round=>
  obtain⟨k,rfl,G⟩:=hrel;obtain⟨d,l,y,j,m,K,L⟩:=G.o;obtain⟨P,Q,e3⟩:=zo L;obtain⟨z,PX,HK⟩:=lX y m K;obtain⟨va,vm,vc,rfl⟩:=Xz y;have c0:=m.blk.at 0;by_cases aT:(k:Int)<Nq
  .by_cases hs:l=[]
   .have p:=(nO l).1 hs;have q:=Zh (Q hs);generalize iH l=S at*;clear L P Q e3 G y m K;go_wp2;go_ret;refine⟨_,rfl,?_,?_,HK.o⟩
    .rw[q.o];exact z.o
    .rw[q.o];exact PX.o
   .have p:=(nO l).2 hs;have r:=e3 X hs;have a:=lG m;have t:Qm (N d=k/\k<Nq.toNat):=⟨j,X⟩
    have af:k<=1000000:=Qj n.o;have aa:=Zh r;generalize iH l=S at*;obtain⟨x0,VX⟩:=eY (iM l);rw[<-VX]at a;have ae:=Zh VX;clear L P Q e3 G y m K r VX j;go_wp2_with fail;refine a.mono ?_;rintro e w4 ⟨rfl,h4,f⟩;have Nk:Qm (w4.ownsRow (M (H w)) 3 1 (Z va vm vc) (N d) (d.map (Value.int J))):=Xw z.o f λg eg e=>JF z.o PX.o.blk Qc (e ▸ eg);obtain⟨v5,w5,sF,mW,kC,⟨A,B,C,rfl⟩,_⟩:=SH w4 (M (H w)) (Z va vm vc) _ Nk.o (Qk t.o n.o) (ZU HK.o.size f.size) x0 26;have ag:Qm (aaj kH (λd v x=>x.ownsRow (M (H w)) 3 1 v (N d) (d.map (Value.int J))) W rb w Nq.toNat R (k+1) (Z A B C) w5):=by have p:∀b,b<M (H w)->(Value.slice va vm vc).ownBlock≠O b:=λb hb e=>Qj ((Xy z.o e).1);have ah:M (H W)<=M (H w):=ZU h4.lo (JH Px.o);refine⟨d++[x0],dw l,mW,by have:=t.o.1;simp;omega,h4.fu kC (JF Nk.o h4.blk Qc) λb hb=>p b X,(HK.o.trans f).dL kC λb hb _=>p b hb,?_⟩;rw[ae.o];exact aa.o
    clear h4 f kC mW a c0 p;go_wp2_with (first|(at_builtin;refine XJ rfl (.tmp 19) (.tmp 22) 26 rfl (Z va vm vc) (Z (O (aD (M (H w4)) 0)) 1 1) (Z A B C) w5 rfl rfl sF ?_));go_roundw
    case rel=>grind
    case measure=>exact XK
  .have q:=Zh (P X);clear L P Q e3 G y m K c0 j;go_wp2;go_ret;refine⟨_,rfl,?_,?_,HK.o⟩
   .rw[q.o];exact z.o
   .rw[q.o];exact PX.o
theorem BH{n:Int}(h:dm xs n=T)(hn:n<=1000):∀x∈xs,x.natAbs<=1000000:=λx a=>by have:=Q9.1 h x a;grind
def il.whN(h:il q p):dM gM p.wh=dM gM q.wh:=by
 have e:p.wh.map gM=q.wh.map gM:=by
  refine List.ext_getElem (by simp[h.len]) λi d f=>?_;have a:i<N p.wh:=by simpa using d
  have b:i<N q.wh:=by simpa using f
  have:=h.cs i a;simp only[List.getD,XG a,XG b,Option.getD_some]at this;rw[List.getElem_map,List.getElem_map];unfold gM;rw[this]
 unfold dM;rw[h.len,List.flatMap_def,e,<-List.flatMap_def]
def il.num(h:il q p):ik p=ik q:=by unfold ik;rw[h.whN,h.au,h.aF,h.aC,h.aM,h.bA,h.ord]
def il.aml(h:il q p)(ts:JK af)(cap:Int)(picks:IC)(st:Int):ji ts p cap picks st=ji ts q cap picks st:=by unfold ji;rw[h.num]
def il.trans{q p r:ae}(h:il q p)(k:il p r):il q r:=
 ⟨k.au.trans h.au,k.len.trans h.len,λi a=>(k.cs i a).trans (h.cs i (by rw[<-k.len];exact a)),k.aF.trans h.aF,k.aC.trans h.aC,k.aM.trans h.aM,k.bA.trans h.bA,k.ord.trans h.ord⟩
def qQ(k:Nat)(ns:IC):Prop:=N ns<=k/\∀n∈ns,n.natAbs<=1000000
theorem qQ.app{j:Nat}(ha:qQ j a)(hb:qQ k b):qQ (j+k) (a++b):=⟨by have:=ha.1;have:=hb.1;grind,λn d=>(Z5.1 d).elim (ha.2 n) (hb.2 n)⟩
theorem qQ.cons{a:Int}(ha:a.natAbs<=1000000)(hb:qQ k b):qQ (k+1) (a::b):=⟨by have:=hb.1;simp_all,λn d=>(ZB.1 d).elim (λe=>e ▸ ha) (hb.2 n)⟩
theorem qQ.nil:qQ 0 []:=⟨Qa,λn h=>by cases h⟩
theorem qQ.aac{α:Type}{k:Nat}{f:α->IC}:∀{l:List α},(∀x∈l,qQ k (f x))->qQ (N l*k) (l.flatMap f)
 |[],_=>⟨Qa,λn h=>by simp at h⟩
 |x::l,h=>by have:=qQ.app (h x Qa) (qQ.aac (l:=l) λy hy=>h y (ZV _ hy));grind
def qQ.mono{j k:Nat}{a:IC}(h:qQ j a)(hk:j<=k):qQ k a:=⟨Qj h.1,h.2⟩
def qQ.count(h:qQ k xs)(hk:k<=1000000):qQ (k+1) (bR xs):=qQ.cons (Qj h.1) h
def JSm.asS(h:JSm ts q):qQ 49 (dM fM ts):=by have b:=h.Ea.1;unfold dM;exact qQ.cons (k:=48) X ((qQ.aac (k:=6) λt a=>qQ.cons (k:=5) (h.Ea.2 t a).1.1 (qQ.count (k:=4) ⟨by unfold dH;simp;omega,(h.Ea.2 t a).1.2⟩ X)).mono X)
def JSm.whN(h:JSm ts q):qQ 129 (dM gM q.wh):=by have e:=h.wh;unfold dM;refine qQ.cons (k:=128) X ((qQ.aac (k:=16) λc b=>?_).mono X);have a:=h.cl c b;unfold gM dM;exact qQ.cons (k:=15) (Qj a.1) ((qQ.aac (k:=5) λd hd=>qQ.cons (qG _) (qQ.cons (a.2 d hd).1 (qQ.cons (a.2 d hd).2.1 (qQ.cons (qG _) (qQ.cons (a.2 d hd).2.2 qQ.nil))))).mono (Qj a.1))
def JSm.azh(h:JSm ts q):qQ 160 (ik q):=by unfold ik;exact(qQ.app (qQ.count (k:=5) h.au X) (qQ.app h.whN (qQ.cons (qG _) (qQ.app (qQ.count (k:=4) h.aC X) (qQ.app (qQ.count (k:=4) h.aM X) (qQ.app (qQ.count (k:=8) h.bA X) (qQ.count (k:=4) h.ord X))))))).mono X
def JSm.aml(h:JSm ts q){cap:Int}{picks:IC}{st:Int}(hc:cap.natAbs<=1000000)(hp:qQ 8000 picks)(hs:st.natAbs<=1000000):qQ 8212 (ji ts q cap picks st):=by unfold ji;exact(qQ.app h.asS (qQ.app h.azh (qQ.cons hc (qQ.app (qQ.count hp X) (qQ.cons hs qQ.nil))))).mono X
section
open Go.Lib
def xW(n:Int):ByteArray:=⟨(itoa n).toArray⟩
def uB:ByteArray:=⟨#[115,99,111,117,116]⟩
theorem TA{ns:IC}(h:∀n∈ns,n.natAbs<100000000000000000):N (qE ns)<=5+19*N ns:=by
 have key:∀ns:IC,(∀n∈ns,n.natAbs<100000000000000000)->N (ns.flatMap λm=>32::itoa m)<=19*N ns:=λns=>by
  induction ns with
  |nil=>intro _;simp
  |cons n ns ih =>
   grind [MM]
 grind [qE]
def Oj(ns:IC):join ((uB::ns.map xW).map (·.data.toList)) [32]=qE ns:=by rw[<-ag3,List.map_cons,Xe];rfl
def Ah(W:U):Prop:=∀x,Bw W x->∀n:Int,n.natAbs<100000000000000000->Cb 107 #[I J n] x (.string (xW n))
theorem Ah.aj{W w:U}(h:Ah W)(hb:Bw W w):Ah w:=λx a=>h x (aO hb a)
def Tryz.aqm:(V.info? 9).map (λi=>(i.zero,i.size,i.bytes))=O (O (.string ⟨#[]⟩),1,16):=Qd
theorem amA(W:U)(base:Nat)(v:Ql)(xs:JK ByteArray)(bG:W.ownsRow base 9 1 v (N xs) (xs.map Value.string))(hl:N xs<=2000000)(hb:base<=M (H W))(a:ByteArray)(ty:TypeId) :
  ∃d e,(Builtin.append_ #[182,182] ty #[v,Z (O (aD (M (H W)) 0)) 1 1]).run V (W.alloc (Qs #[.string a] 9))=.ok d e/\
   e.ownsRow base 9 1 d (N (xs++[a])) ((xs++[a]).map Value.string)/\aB (λb=>v.ownBlock≠O b) W e/\(∃a m c,d = Z a m c):=by
 obtain⟨i0,j,f,g,i⟩:=XB Tryz.aqm;obtain⟨d,e,k,l,n,p,_⟩:=SG (P:=V) W base 182 ty 9 i0 _ 1 16 underlying182 j f g i rfl Qc v (N xs) _ bG hb [.string a] rfl (λu q=>by
  grind [Value.oneCell']) hl Qc
 grind
theorem amB(v0 v1 v2 v3 v4 v5 v6 v7 v8 v9 fO:Ql)(ns:IC)(w:U)(hI:Ah w)
  (hN:∀x,Bw w x->Calls V 106 #[Qt #[v0,v1,v2,v3,v4,v5,v6,v7,v8,v9,fO]] x (iW x ns))
  (hl:N ns<=10000) (hs:∀n∈ns,n.natAbs<100000000000000000) :
  Cb 70 #[Qt #[v0,v1,v2,v3,v4,v5,v6,v7,v8,v9,fO]] w (.string ⟨(qE ns).toArray⟩):=by
 obtain⟨w1,dB,bL,G⟩:=bI w #[v0,v1,v2,v3,v4,v5,v6,v7,v8,v9,fO] 130;obtain⟨w2,K,t,L⟩:=bI w1 #[.string uB] 9;have d:=G.up t;have c0:=d.at 0;have c1:=d.at 1;have c2:=d.at 2;have c3:=d.at 3;have c4:=d.at 4;have c5:=d.at 5;have c6:=d.at 6;have c7:=d.at 7;have c8:=d.at 8;have c9:=d.at 9;have O7:=d.at 10;have r:=Zh (aO bL t);have f:=hN w2 r.o;have z:Qm (w2.ownsRow (M (H w)) 9 1 (Z (O (aD (M (H w1)) 0)) 1 1) 1 ([uB].map Value.string)):=by refine⟨Qa,.inr ⟨M (H w1),1,_,rfl,bL.size,L,Zb _,Qg,Qa,Qa⟩⟩
 obtain⟨ag,ah,ai⟩:=lX hI hs (TA hs);have aB:Qm (∀W:U,(Value.string uB)=.string ⟨#[115,99,111,117,116]⟩):=λ_=>rfl;unfold uB at K;clear hI hN hs G L d bL t;go_enter func70,ntmps70;go_wp2_with fail;refine f.mono ?_;rintro e w3 ⟨v,rfl,ho,u⟩;obtain⟨na,nn,nc,rfl⟩:=Xz ho;obtain⟨iv,p,q,hv,_,_,_⟩:=lJ ho X;obtain⟨ak,au⟩:=bH (Ja z.o u) (aO r.o u);obtain⟨ia,ic,a⟩:=iv;simp only[aA.val]at p q hv;subst q;injection p with p Q e4;subst p;subst Q;subst e4;have aa:Qm (w3.ownsRow (M (H w)) 3 1 (Z na (N a) nc) (N a) (a.map (Value.int J))):=Je ho r.o.size;clear f ho u hv z dB K c0 c1 c2 c3 c4 c5 c6 c7 c8 c9 O7;go_wp2;go_loopw [3,10] (λv i wr=>∃k:Nat,k<=N a/\i=I J k/\Qm (wr.ownsRow (M (H w)) 9 1 v (N (uB::(a.take k).map xW)) ((uB::(a.take k).map xW).map Value.string))/\Qm (Bw w wr/\wr.ownsRow (M (H w)) 3 1 (Z na (N a) nc) (N a) (a.map (Value.int J)))) (λ_ i _=>N a-(RowKit.intOf i).toNat)
 case atStart=>exact⟨0,ZR _,rfl,ak.o,au.o,aa.o⟩
 case round=>
  obtain⟨k,hk,rfl,y,P⟩:=hrel;obtain⟨va,vm,vc,rfl⟩:=Xz y.o;by_cases aT:k<N a
  .obtain⟨b,off,rfl,f0⟩:∃b off,na=O (aD b off)/\Qo wr (aD b (off+k))=O (I J (E a k 0)):=by obtain⟨iv,p,q,hv,_⟩:=lJ P.o.2 X;obtain⟨b,off,Q,hc⟩:=Q4 hv (i:=k) (by rw[q];exact aT);have A:=hc k (by rw[q];exact aT);rw[q]at A;refine⟨b,off,?_,A⟩;rw[<-Q];injection p
   have Lh:=Zh (by  rw[Q5 aT,Q7];simp[List.getD,aT]:(a.take (k+1)).map xW=(a.take k).map xW++[xW (E a k 0)])
   have B:=ag.o wr P.o.1 (E a k 0) (ah.o _ (by simp[List.getD,aT]));have ae:Qm (N (uB::(a.take k).map xW)<=2000000):=by show _<=_;simp;omega
   generalize E a k 0=n at*;go_wp2_with fail;refine mR B λR l=>?_;have C:Qm (Bw w R/\R.ownsRow (M (H w)) 3 1 (Z (O (aD b off)) (N a) nc) (N a) (a.map (Value.int J))):=⟨aO P.o.1 l,Ja P.o.2 l⟩;obtain⟨v5,w5,sF,mW,kC,av,ax,ay,rfl⟩:=amA R (M (H w)) (Z va vm vc) _ (Ja y.o l) ae.o C.o.1.size (xW n) 182;have zW:=Zh mW;have af:Qm (Bw w w5/\w5.ownsRow (M (H w)) 3 1 (Z (O (aD b off)) (N a) nc) (N a) (a.map (Value.int J))):=by refine⟨C.o.1.trans (kC.aj C.o.1.size λc hc e=>Qj ((Xy y.o e).1)),Xw C.o.2 kC λg eg=>?_⟩;obtain⟨iw,az⟩:=Jp C.o.2 eg;exact JF (Ja y.o l) (show GB R g _ iw from az) Qc
   clear B l mW kC f0;go_wp2_with (first|(at_builtin;refine XJ rfl (.tmp 14) (.tmp 17) 182 rfl (Z va vm vc) (Z (O (aD (M (H R)) 0)) 1 1) (Z av ax ay) w5 rfl rfl sF ?_));go_roundw
   case rel=>exact⟨k+1,X,Qe,by show World.ownsRow _ _ _ _ _ _ _;rw[Lh.o];exact zW.o,af.o⟩
   case measure=>simp[RowKit.intOf];omega
  .obtain rfl:k=N a:=X
   rw[Z0]at y;have HJ:Qm (Cb 108 #[Z va vm vc,.string ⟨#[32]⟩] wr (.string ⟨(qE a).toArray⟩)):=by
    rcases y.o.2 with⟨_,h0⟩|⟨g,cap,iw,e,hb,hh,hc,_,_,ht⟩
    .simp at h0
    .injection e with p q Q;subst p;subst q;subst Q;have D:=Tryz.strings_Join g 0 vc (uB::a.map xW) ⟨#[32]⟩ wr (λj x D=>?_) (Xy y.o rfl).2 Qi hc (by
      have e:N (Lib.join ((uB::a.map xW).map (·.data.toList)) [32])=N (qE a):=congrArg N (Oj a);show N (Lib.join ((uB::a.map xW).map (·.data.toList)) [32])<=_;rw[e];have:=ai.o;omega)
     .refine mR D λw' vR=>?_
      refine⟨?_,vR⟩;rw[<-Oj]
     .have m:((uB::a.map xW).map Value.string)[j]? = O (.string x):=Qb
      rw[<-ht,XQ]at m;split at m
      .rw[ZT,ZC (show GB wr g _ iw from hh)]
       simpa using m
      .cases m
   have D:=HJ.o;go_wp2_with fail;refine mR D λw6 S=>?_;have yu:=Zh (aO P.o.1 S);clear D S;go_wp2;go_ret;exact⟨rfl,yu.o⟩
end
def aep(sb:Nat)(pa:LM)(pc:Nat)(xs:IC)(w:U)(hc:Qo w (aD sb 17)=O (Z pa (N xs) pc))(hv:aP w pa xs)(hn:pa=Qr->pc=0)(hl:N xs<=1000000) :
  Calls V 69 #[Y (O (aD sb 0))] w (iW w xs):=by have b:Calls V 86 #[Z pa (N xs) pc] w (iW w xs):=tJ ⟨pa,pc,xs⟩ w hv hn hl;clear hv hn hl;go_enter func69,ntmps69;go_wp2_with fail;refine b.mono ?_;rintro e i ⟨v,rfl,a,d⟩;obtain⟨j,k,l,rfl⟩:=Xz a;obtain⟨f,g⟩:=bH a d;clear b a d hc;go_wp2;go_ret;exact⟨_,rfl,f.o,g.o⟩
def KF(sb:Nat)(st:Int)(w:U)(hc:Qo w (aD sb 18)=O (I J st)) :
  Ce 42 #[Y (O (aD sb 0))] w (I J st):=by go_enter func42,ntmps42;go_wp2;go_ret;exact⟨rfl,rfl⟩
def aiK(pb sb n cc:Nat)(ca:LM)(p0 p1 p2 p3 p4 p5 p6:Ql)(aI st:Int)(pk:IC)(Tq:ByteArray)(w:U)
  (hg:GB w pb 94 #[Z ca n cc,p0,p1,p2,p3,p4,p5,p6,I J aI,Y (O (aD sb 0))])
  (hP:∀x,Bw w x->Calls V 69 #[Y (O (aD sb 0))] x (iW x pk))
  (hSt:∀x,Bw w x->Ce 42 #[Y (O (aD sb 0))] x (I J st))
  (hT:∀x a m c,Bw w x->lC pk (Z a m c) x->Cb 70 #[Qt #[Z ca n cc,p0,p1,p2,p3,p4,p5,p6,I J aI,Z a m c,I J st]] x (.string Tq))
  (hl:N pk<=1000000) :
  Cb 33 #[Y (O (aD pb 0))] w (.string Tq):=by
 have c0:=hg.at 0;have i:=hg.at 1;have c2:=hg.at 2;have c3:=hg.at 3;have c4:=hg.at 4;have c5:=hg.at 5;have j:=hg.at 6;have k:=hg.at 7;have l:=hg.at 8;have c9:=hg.at 9;obtain⟨r,t,u⟩:=lX hP hSt hT;clear hg hP hSt hT;go_enter func33,ntmps33;go_wp2_with fail;refine wH w λb=>?_;refine GZ 0 b ?_;refine wA6 10 b ?_;refine IU 17 b ?_;refine wR 16 λK d=>?_;go_simp;refine Jg (r.o _ b) ?_;rintro e B ⟨v,rfl,g,f⟩;have p:=Zh (lC.own g hl);obtain⟨y,z,A,rfl⟩:=Xz g;clear g;refine oT d b f λb=>?_;clear d K f;refine wR 21 λK d=>?_;go_simp;refine Jg (t.o _ b) ?_;rintro e C ⟨rfl,rfl⟩;refine d.o _ _ b λb=>?_;clear d K;refine rR 22 b ?_;refine wR 23 λK d=>?_;go_simp;refine mR (u.o _ y z A b p.o) λD f=>?_;refine oT d b f λb=>?_;clear d K f;refine wR 24 λK d=>?_;go_simp;refine d.o _ _ b λb=>?_;clear d K;refine wD ?_;try simp only[pV]
 have q:=Zh b;clear b c0 i c2 c3 c4 c5 j k l c9;go_wp2;go_ret;exact⟨rfl,q.o⟩
theorem aP.under(h:mY W w)(hx:aP W ao xs):aP w ao xs:=⟨hx.1,λi a=>by
 obtain⟨b,off,e,d⟩:=hx.2 i a;grind [mY.cell]⟩
def bZ.under(h:mY W w){cs:JK aV}(hx:bZ W ao cs):bZ w ao cs:=⟨hx.1,λi d=>by
 obtain⟨b,off,e,c0,a,c2,c3,c4⟩:=hx.2 i d;exact⟨b,off,e,h.cell _ _ _ c0,h.cell _ _ _ a,h.cell _ _ _ c2,h.cell _ _ _ c3,h.cell _ _ _ c4⟩⟩
def ae.At.under{W w:U}(h:mY W w){q:ae}(hq:q.At W):q.At w:=
 ⟨aP.under h hq.au,⟨hq.wh.1,λi a=>by
  obtain⟨b,off,e,d⟩:=hq.wh.2.1 i a;exact⟨b,off,e,h.cell _ _ _ d⟩,λi a=>bZ.under h (hq.wh.2.2 i a)⟩,aP.under h hq.aC,aP.under h hq.aM,aP.under h hq.bA,aP.under h hq.ord⟩
def aZ.under(h:mY W w)(hx:aZ W ao ts):aZ w ao ts:=⟨hx.1,λi d=>by
 obtain⟨b,off,e,c0,a,c2,c3,c4,c5⟩:=hx.2 i d;exact⟨b,off,e,h.cell _ _ _ c0,h.cell _ _ _ a,h.cell _ _ _ c2,h.cell _ _ _ c3,h.cell _ _ _ c4,h.cell _ _ _ c5⟩⟩
def amC{aI:Nat}{P:PlS}{Mq:Pm}{L:yB}{σ:fE}(hk:Vx ts aI P w)(s:gW P.W P.f ts P.q Xq Mq w P.sb L σ)(hj:JSm ts P.q)(hI:Ah w)(hr:aI<=1000)(hp:qQ 8000 σ.picks)(nT:σ.status.natAbs<=1000000) :
  Cb 33 #[Y (O (aD P.pb 0))] w (.string ⟨(qE (ji ts P.q aI σ.picks σ.status)).toArray⟩):=by
 have p:=s.hz.aj;have hq:=ae.At.under p hk.qat;have ht:=aZ.under p hk.Ea;obtain⟨v0,v,v2,v3,v4,v5,A,v7,v8,v9,fO,fP,fQ,iq,-⟩:=Jh P.f ts P.q;have d:=s.cells iq;have e:=d.at 17;have g:=d.at 18;obtain⟨iv,e1,B,hv,_,C,_⟩:=lJ s.pk (Qj hp.1);obtain⟨pa,pc,px⟩:=iv;simp only at B C;subst B;rw[e1]at e;have r:=hk.blk;obtain⟨D,G,K,Q,R,S,p6,Di⟩:∃v0 v v2 v3 v4 v5 A,P.q.cells=#[v0,v,v2,v3,v4,v5,A]:=⟨_,_,_,_,_,_,_,rfl⟩;have t:=hj.aml (cap:=(aI:Int)) X hp nT;have hF:=hj.asS;have hG:=hj.azh;have hW:=hj.whN;rw[Di]at r;refine aiK P.pb P.sb (N ts) P.cc P.ca D G K Q R S p6 aI σ.status σ.picks _ w r (λx b=>aep P.sb pa pc σ.picks x (cB b e) (Zc b hv) C (Qj hp.1)) (λx b=>KF P.sb σ.status x (cB b g)) (λx a m c b k=>?_) (Qj hp.1);obtain⟨jv,j,f2,f3,f4⟩:=k;obtain⟨ja,jc,jx⟩:=jv;simp only at f3 f4;subst f4;injection j with j g1 h1;subst j;subst g1;subst h1;refine amB _ D G K Q R S p6 _ _ _ _ x (hI.aj b) (λy hy=>?_) (Qj t.1) (λn hn=>Qj (t.2 n hn));have u:=aO b hy;have:=abb P.ca P.cc ts P.q aI σ.status ⟨a,c,σ.picks⟩ y (λz hz=>aba P.ca P.cc ts z (ht.aj (aO u hz)) (Qj hj.Ea.1) (λi l=>by
  have:=(hj.Ea.2 (E ts i tz) (by simp[List.getD,l])).2;omega)) (λz hz=>Im P.q z (hq.aj (aO u hz)) hk.nil ⟨Qj hj.au.1,Qj hj.wh,Qj hj.aC.1,Qj hj.aM.1,Qj hj.bA.1,Qj hj.ord.1⟩ (λi l=>Qj ((hj.cl (E P.q.wh i lz) (by simp[List.getD,l])).1)) (Qj hW.1)) (Zc hy f2) f3 ⟨Qj hF.1,Qj hG.1,by show N σ.picks<=8000;have:=hp.1;omega⟩
 simp_all
def rV(B:Nat):Nat->JK Ql->U->U
 |_,[],W=>W
 |i,v::vs,W=>rV B (i+1) vs (Qn W (aD B i) v)
theorem afQ{B:Nat}{t:TypeId}:∀(vs pre yA:JK Ql) (W:U),N yA=N vs->GB W B t (pre++yA).toArray->GB (rV B (N pre) vs W) B t (pre++vs).toArray
 |[],pre,yA,W,hl,h=>by grind [rV]
 |v::vs,pre,[],W,hl,h=>by simp at hl
 |v::vs,pre,o::yA,W,hl,h=>by have h1:=h.set (N pre) v;rw[Zp,Jz _ _ (Zb _),Nat.sub_self,QY]at h1;have h2:=afQ (B:=B) (t:=t) vs (pre++[v]) yA (Qn W (aD B (N pre)) v) (by simpa using hl) Qf;grind [rV]
def zK{t:TypeId}{a:Array Value}(vs:JK Value)(h:GB W B t a)(hl:a.size=vs.length:=by rfl):GB (rV B 0 vs W) B t vs.toArray:=afQ vs [] a.toList W (by simpa using hl) (by simpa using h)
def oH{B:Nat}:∀(vs:JK Ql) (i:Nat) (W:U),aB (λb=>b≠B) W (rV B i vs W)
 |[],_,W=>Xj _ _
 |v::vs,i,W=>(Xu _ (aD B i) _ (λh=>h rfl)).trans (oH vs (i+1) _)
theorem tZ.put{x:U}(h:tZ W rb ns x)(hk:aB (λb=>b≠rb) w x)(hr:rb<M (H w))(hB:M (H w)<=B)(vs:JK Ql):tZ W rb ns (rV B 0 vs x)/\aB (λb=>b≠rb) w (rV B 0 vs x):=by have a:=oH (B:=B) vs 0 x;have:=h.lo;exact⟨h.fu a X λb d=>X,hk.dL a λb d _=>X⟩
def aiL(h:tZ W rb s w) :
  Calls V 184 #[Y (O (aD rb 0))] w λe G=>e=Qu (Qt (rW s).1.aoQ)/\tZ W rb (rW s).2 G/\aB (λb=>b≠rb) w G:=by obtain⟨w1,dB,R,y⟩:=bI w #[.bool F,.int J 0,.int J 0,.bool F,.int J 0] 56;have H1:Qm (tZ W rb s w1):=h.step R;obtain⟨HR,HG⟩:=bH h.blk.lt y;have vQ:Qm (aB (λb=>b≠rb) w w1):=Xl R;have f:=Hy H1.o;unfold rW aV.aoQ;simp only;have g:Qm (∀x l,tZ W rb l x->Calls V 102 #[Y (O (aD rb 0))] x λe G=>e=Qu (.int J (iM l))/\tZ W rb (dw l) G/\aB (λb=>b≠rb) x G):=λx l h=>lG h;generalize decide (iM s≠0)=nt at f ⊢;generalize dw s=s1 at*;obtain⟨z,n⟩:=eY (dw s1);rw[<-n];obtain⟨A,p⟩:=eY (dw z);rw[<-p];obtain⟨B,C⟩:=eY (dw A);rw[<-C];obtain⟨s5,D⟩:=eY (dw B);obtain⟨K,j⟩:=eY (iM s1);obtain⟨L,k⟩:=eY (iM z);obtain⟨P,S⟩:=eY (decide (iM A≠0));obtain⟨Q,m⟩:=eY (iM B);rw[<-D,<-j,<-k,<-S,<-m];have d:Qm (z=dw s1/\A=dw z/\B=dw A/\s5=dw B/\K=iM s1/\L=iM z/\P=decide (iM A≠0)/\Q=iM B):=⟨n,p,C,D,j,k,S,m⟩;clear h R y S n p C D j k m;go_enter func184,ntmps184;go_wp2_with fail;refine f.mono ?_;rintro e w2 ⟨rfl,n,k2⟩;have i:=g.o _ _ n;rw[<-d.o.1,<-d.o.2.2.2.2.1]at i;clear f n dB;go_wp2_with fail;refine i.mono ?_;rintro e w3 ⟨rfl,p,k3⟩;have q:=g.o _ _ p;rw[<-d.o.2.1,<-d.o.2.2.2.2.2.1]at q;clear i p;go_wp2_with fail;refine q.mono ?_;rintro e w4 ⟨rfl,C,k4⟩;have r:=Hy C;rw[<-d.o.2.2.1,<-d.o.2.2.2.2.2.2.1]at r;go_wp2_with fail;refine r.mono ?_;rintro e w5 ⟨rfl,D,k5⟩;have t:=g.o _ _ D;rw[<-d.o.2.2.2.1,<-d.o.2.2.2.2.2.2.2]at t;go_wp2_with fail;refine t.mono ?_;rintro e w6 ⟨rfl,h6,k6⟩;have u:=k2.trans (k3.trans (k4.trans (k5.trans k6)));have a:=HG.o.bT u (Qj HR.o);have hE:=h6.put (vQ.o.trans u) HR.o (Zb (M (H w))) [.bool nt,.int J K,.int J L,.bool P,.int J Q];have v:=zK [.bool nt,.int J K,.int J L,.bool P,.int J Q] a;have d0:=a.at 0;have d1:=a.at 1;have d2:=a.at 2;have d3:=a.at 3;have d4:=a.at 4;have f0:=a.frozen 0;have f1:=a.frozen 1;have f2:=a.frozen 2;have f3:=a.frozen 3;have f4:=a.frozen 4;simp only[rV,XE,Nat.reduceAdd,ZT]at hE v;obtain⟨HE,Av⟩:=bH hE v;go_wp2;exact Jr (results_cell_row rfl _ _ (M (H w)) 56 #[.bool nt,.int J K,.int J L,.bool P,.int J Q] (0,0) _ rfl Av.o underlying56 rfl Qd) rfl ⟨rfl,HE.o⟩
def aeq(W:U)(base:Nat)(v:Ql)(cs:JK aV)(bG:W.ownsRow base 56 5 v (N cs) (cs.flatMap aV.jQ))(hl:N cs<=1000)(hb:base<=M (H W))(c:aV)(ty:TypeId) :
  ∃d e,(Builtin.append_ #[57,57] ty #[v,Z (O (aD (M (H W)) 0)) 1 1]).run V (W.alloc (Qs #[Qq c.not,I J c.op,I J c.left,Qq c.const,I J c.right] 56))=.ok d e/\
   e.ownsRow base 56 5 d (N (cs++[c])) ((cs++[c]).flatMap aV.jQ)/\aB (λb=>v.ownBlock≠O b) W e/\(∃a m c,d = Z a m c):=by
 obtain⟨i0,k,f,g,i⟩:=XB Tryz.aaU;obtain⟨d,e,l,q,n,p,_⟩:=lg (P:=V) W base 57 ty 56 i0 _ 5 40 underlying57 k f g i rfl Qc v (N cs) _ bG hb (aV.jQ c) rfl (λu j=>by
  unfold aV.jQ at j;simp only[ZB,JP,or_false]at j;rcases j with rfl|rfl|rfl|rfl|rfl <;> rfl) hl Qc
 exact⟨d,e,l,Qf,n,p⟩
theorem aiM(h:tZ W rb s w) :
  Calls V 183 #[Y (O (aD rb 0)),I J 3,.func (.func 184) #[Y (O (aD rb 0))] #[]] w λe w'=>∃v,e=Qu v/\w'.ownsRow (M (H w)) 56 5 v (dI rW 3 s).1.length ((dI rW 3 s).1.flatMap aV.jQ)/\tZ W rb (dI rW 3 s).2 w'/\aB (λb=>b≠rb) w w':=by
 have hn:=lG h;have Px:=Zh h.blk.lt;obtain⟨R,z⟩:=eY (dI rW 3 s);rw[<-z];unfold dI at z;obtain⟨Nq,L⟩:=eY (min (iM s) (3:Int));rw[<-L]at z;have HR:=Zh z;have q:Qm (Nq.toNat<=3):=by show _<=_;omega
 have m1:(if (3:Int)<iM s then (3:Int) else iM s)=Nq:=by rw[L];grind
 have m2:min (iM s) (3:Int)=Nq:=L.symm;clear z L;generalize iM s=n0 at*;go_enter func183,ntmps183;go_wp2_with fail;refine hn.mono ?_;rintro e w2 ⟨rfl,h2,jf⟩;obtain⟨H2,Bl⟩:=bH h2 jf;clear hn h2 jf;go_wp2;clear m1 m2;go_loopw [7,12] (λv i wr=>∃k:Nat,i=I J k/\Qm (aaj rW (λd v x=>x.ownsRow (M (H w)) 56 5 v (N d) (d.flatMap aV.jQ)) W rb w Nq.toNat R k v wr)) (λ_ i _=>Nq.toNat-(intOf i).toNat)
 case atStart=>exact⟨0,rfl,[],dw s,XC _ _ _ _,rfl,H2.o,Bl.o,HR.o.symm⟩
 case round=>
  obtain⟨k,rfl,P⟩:=hrel;obtain⟨d,l,m,n,p,Q,hE⟩:=P.o;obtain⟨e1,e2,e3⟩:=zo hE;obtain⟨A,PX,HK⟩:=lX m p Q;obtain⟨va,vm,vc,rfl⟩:=Xz m;have c0:=p.blk.at 0;by_cases aT:(k:Int)<Nq
  .by_cases hs:l=[]
   .have r:=(nO l).1 hs;have t:=Zh (e2 hs);generalize iH l=S at*;clear hE e1 e2 e3 P m p Q;go_wp2;go_ret;refine⟨_,rfl,?_,?_,HK.o⟩
    .rw[t.o];exact A.o
    .rw[t.o];exact PX.o
   .have r:=(nO l).2 hs;have a:=aiL p;have u:Qm (N d=k/\k<Nq.toNat):=⟨n,X⟩
    have aa:k<=1000000:=Qj q.o;have y:=Zh (e3 X hs);generalize iH l=S at*;generalize (rW l).1=x0 at a y;have j:=Zh λB m K=>aeq B (M (H w)) (Z va vm vc) d m (Qk u.o q.o) K x0 57;clear hE e1 e2 e3 P m p Q n;obtain⟨nt,op,lf,cn,rt⟩:=x0;simp only[aV.aoQ,af.jQ]at a j;go_wp2_with fail;refine a.mono ?_;rintro e B ⟨rfl,h4,f⟩;have Nk:Qm (B.ownsRow (M (H w)) 56 5 (Z va vm vc) (N d) (d.flatMap aV.jQ)):=Xw A.o f λg eg e=>JF A.o PX.o.blk Qc (e ▸ eg);obtain⟨v5,w5,sF,mW,kC,⟨C,D,G,rfl⟩⟩:=j.o B Nk.o (ZU HK.o.size f.size);have ae:Qm (aaj rW (λd v x=>x.ownsRow (M (H w)) 56 5 v (N d) (d.flatMap aV.jQ)) W rb w Nq.toNat R (k+1) (Z C D G) w5):=by have r:∀b,b<M (H w)->(Value.slice va vm vc).ownBlock≠O b:=λb K e=>Qj ((Xy A.o e).1);have ag:M (H W)<=M (H w):=ZU h4.lo (JH Px.o);exact⟨_,_,mW,by have:=u.o.1;simp;omega,h4.fu kC (JF Nk.o h4.blk Qc) λb K=>r b X,(HK.o.trans f).dL kC λb K _=>r b K,y.o⟩
    clear h4 f kC mW a c0 r j;go_wp2_with (first|(at_builtin;refine XJ rfl (.tmp 19) (.tmp 22) 57 rfl (Z va vm vc) (Z (O (aD (M (H B)) 0)) 1 1) (Z C D G) w5 rfl rfl sF ?_));go_roundw
    case rel=>grind
    case measure=>exact XK
  .have t:=Zh (e1 X);clear hE e1 e2 e3 P m p Q c0 n;go_wp2;go_ret;refine⟨_,rfl,?_,?_,HK.o⟩
   .rw[t.o];exact A.o
   .rw[t.o];exact PX.o
def abe(h:tZ W rb s w) :
  Calls V 143 #[Y (O (aD rb 0))] w λe r=>∃a m c,e=Qu (Qt #[Z a m c])/\r.ownsRow (M (H w)) 56 5 (Z a m c) (mX s).1.length ((mX s).1.flatMap aV.jQ)/\tZ W rb (mX s).2 r/\aB (λb=>b≠rb) w r:=by
 obtain⟨D,S,n,p⟩:=bI w #[Z Qr 0 0] 59;have B:=aiM (h.step n);unfold mX;generalize (dI rW 3 s).1=cs,(dI rW 3 s).2=ns at*;obtain⟨y,z⟩:=bH h.blk.lt p;have C:Qm (aB (λb=>b≠rb) w D):=Xl n;have l:=Zh n.size;go_enter func143,ntmps143;go_wp2_with fail;refine B.mono ?_;rintro e A ⟨v,rfl,q,G,k2⟩;obtain⟨f,i,j,rfl⟩:=Xz q;have d:=z.o.bT k2 (Qj y.o);have t:=G.put (C.o.trans k2) y.o (Zb (M (H w))) [Z f i j];have k:=zK [Z f i j] d;have u:Qm ((rV (M (H w)) 0 [Z f i j] A).ownsRow (M (H w)) 56 5 (Z f i j) (N cs) (cs.flatMap aV.jQ)):=Xw (Je q l.o) (oH [Z f i j] 0 A) λg P=>by have:=(Xy q P).1;have:=z.o.lt;omega
 have Q:=d.at 0;have R:=d.frozen 0;simp only[rV,XE,Nat.reduceAdd,ZT]at t k u;obtain⟨K,L⟩:=bH t k;go_wp2;exact Jr (results_cell_row rfl _ _ (M (H w)) 59 #[.slice f i j] (0,0) _ rfl L.o underlying59 rfl Qd) rfl ⟨_,_,_,rfl,u.o,K.o⟩
theorem Vy(W:U)(base:Nat)(v:Ql)(ls:JK aQ)(bG:W.ownsRow base 59 1 v (N ls) (ls.map aQ.val))(hl:N ls<=1000)(hb:base<=M (H W))(a:LM)(c:Nat)(cs:JK aV)(ty:TypeId) :
  ∃d e,(Builtin.append_ #[33,33] ty #[v,Z (O (aD (M (H W)) 0)) 1 1]).run V (W.alloc (Qs #[Z a (N cs) c] 59))=.ok d e/\
   e.ownsRow base 59 1 d (N (ls++[(⟨a,c,cs⟩:aQ)])) ((ls++[(⟨a,c,cs⟩:aQ)]).map aQ.val)/\aB (λb=>v.ownBlock≠O b) W e/\(∃a m c,d = Z a m c):=by
 obtain⟨i0,j,f,g,i⟩:=XB Tryz.Ob;obtain⟨d,e,k,l,n,p,_⟩:=lg (P:=V) W base 33 ty 59 i0 _ 1 24 underlying33 j f g i rfl Qc v (N ls) _ bG hb [.slice a (N cs) c] rfl (λu q=>by
  grind [Value.oneCell']) hl Qc
 exact⟨d,e,k,by rw[Zt,Q7];exact l,n,p⟩
def Vz(w0 w:U)(ls:JK aQ):Prop:=∀x∈ls,w.ownsRow (M (H w0)) 56 5 x.val (N x.cs) (x.cs.flatMap aV.jQ)
def Vz.fu(h:Vz w0 w ls){s:Pm}(hk:aB s w w')(hs:∀b,M (H w0)<=b->(∃a,GB w b 56 a)->s b):Vz w0 w' ls:=λx d=>Xw (h x d) hk λg e=>by obtain⟨a,f⟩:=Jp (h x d) e;exact hs g (Xy (h x d) e).1 ⟨a,f⟩
def LsC(w:U)(ys:JK (JK aV))(v:Ql)(x:U):Prop:=∃ls:JK aQ,ls.map (·.cs)=ys/\x.ownsRow (M (H w)) 59 1 v (N ls) (ls.map aQ.val)/\Vz w x ls
theorem aiN(h:tZ W rb s w) :
  Calls V 142 #[Y (O (aD rb 0)),I J 8,.func (.func 143) #[Y (O (aD rb 0))] #[]] w λe w'=>∃v ls,e=Qu v/\ls.map (·.cs)=(dI mX 8 s).1/\w'.ownsRow (M (H w)) 59 1 v (N ls) (ls.map aQ.val)/\Vz w w' ls/\tZ W rb (dI mX 8 s).2 w'/\aB (λb=>b≠rb) w w':=by
 have hn:=lG h;have Px:=Zh h.blk.lt;obtain⟨R,u⟩:=eY (dI mX 8 s);rw[<-u];unfold dI at u;obtain⟨Nq,K⟩:=eY (min (iM s) (8:Int));rw[<-K]at u;have HR:=Zh u;have n:Qm (Nq.toNat<=8):=by show _<=_;omega
 have m1:(if (8:Int)<iM s then (8:Int) else iM s)=Nq:=by rw[K];grind
 have m2:min (iM s) (8:Int)=Nq:=K.symm;clear u K;generalize iM s=n0 at*;go_enter func142,ntmps142;go_wp2_with fail;refine hn.mono ?_;rintro e w2 ⟨rfl,h2,jf⟩;obtain⟨H2,Bl⟩:=bH h2 jf;clear hn h2 jf;go_wp2;go_loopw [7,12] (λv i wr=>∃k:Nat,i=I J k/\Qm (aaj mX (LsC w) W rb w Nq.toNat R k v wr)) (λ_ i _=>Nq.toNat-(intOf i).toNat)
 case atStart=>exact⟨0,rfl,[],dw s,⟨[],rfl,XC _ _ _ _,λx f=>by cases f⟩,rfl,H2.o,Bl.o,HR.o.symm⟩
 case round=>
  obtain⟨k,rfl,HL⟩:=hrel;obtain⟨ys,l,⟨ls,L,P,Ao⟩,j,y,hk,hE⟩:=HL.o;obtain⟨e1,e2,e3⟩:=zo hE;obtain⟨Uy,z,m,PX,A⟩:=Wu L P Ao y hk;obtain⟨Q,vm,vc,rfl⟩:=Xz P;have c0:=y.blk.at 0;by_cases aT:(k:Int)<Nq
  .by_cases hs:l=[]
   .have p:=(nO l).1 hs;have q:=Zh (e2 hs);generalize iH l=S at*;go_wp2;go_ret;refine⟨_,ls,rfl,?_,z.o,m.o,?_,A.o⟩
    .rw[q.o];exact Uy.o
    .rw[q.o];exact PX.o
   .have p:=(nO l).2 hs;have a:=abe y;have aa:Qm (N ys=k/\k<Nq.toNat):=⟨j,X⟩
    have af:k<=1000000:=Qj n.o;have Sd:Qm (N ls<=1000):=by have:=congrArg N L;rw[ZX]at this;have:=n.o;show _<=_;omega
    have r:=Zh (e3 X hs);generalize iH l=S at*;generalize (mX l).1=x0 at a r;clear hE e1 e2 e3 HL P y hk j L Ao;go_wp2_with fail;refine a.mono ?_;rintro e w4 ⟨ca,cm,cc,rfl,wG,h4,d⟩;have ae:cm=N x0:=by
     rcases wG.2 with⟨e,h0⟩|⟨g,cap,iw,e,_⟩
     .grind
     grind
    subst ae;have Nk:Qm (w4.ownsRow (M (H w)) 59 1 (Z Q vm vc) (N ls) (ls.map aQ.val)):=Xw z.o d λg eg e=>JF z.o PX.o.blk Qc (e ▸ eg);have t:=m.o.fu d λb G hc e=>Qj Px.o;obtain⟨v5,w5,sF,mW,kC,B,C,D,rfl⟩:=Vy w4 (M (H w)) (Z Q vm vc) ls Nk.o Sd.o (ZU A.o.size d.size) ca cc x0 33;have ag:Qm (aaj mX (LsC w) W rb w Nq.toNat R (k+1) (Z B C D) w5):=by
     have p:∀b,b<M (H w)->(Value.slice Q vm vc).ownBlock≠O b:=λb G e=>Qj ((Xy z.o e).1);have ah:M (H W)<=M (H w):=ZU h4.lo (JH Px.o);refine⟨ys++[x0],_,⟨_,by rw[Q7,Uy.o];rfl,mW,?_⟩,by have:=aa.o.1;simp;omega,h4.fu kC (JF Nk.o h4.blk Qc) λb G=>p b X,(A.o.trans d).dL kC λb G _=>p b G,r.o⟩;have iX:Vz w w4 (ls++[⟨ca,cc,x0⟩]):=λx f=>by
      rcases Z5.1 f with f|f
      .exact t x f
      .rw[XH]at f;subst f;exact Je wG A.o.size
     exact iX.fu kC λb G ⟨iw,hc⟩=>JF Nk.o hc Qc
    clear h4 d kC mW a c0 p wG t;go_wp2_with (first|(at_builtin;refine XJ rfl (.tmp 19) (.tmp 22) 33 rfl (Z Q vm vc) (Z (O (aD (M (H w4)) 0)) 1 1) (Z B C D) w5 rfl rfl sF ?_));go_roundw
    case rel=>grind
    case measure=>exact XK
  .have q:=Zh (e1 X);clear hE e1 e2 e3 HL P y hk c0 j L Ao;go_wp2;go_ret;refine⟨_,rfl,ls,?_,z.o,m.o,?_,A.o⟩
   .rw[q.o];exact Uy.o
   .rw[q.o];exact PX.o
theorem CX{α:Type}(next:JK UInt8->α × JK UInt8):∀(n:Nat) (s:JK UInt8),(qF next n s).1.length<=n
 |0,s=>Zb _
 |n+1,s=>by unfold qF;have:=CX next n (next s).2;grind
def Tryz.afR:(V.info? 3).map (·.size)=O 1:=Qd
theorem aeu(w:U)(g:Nat)(r:Int)(ks:IC)(a:LM)(m c base:Nat)(hg:GB w g 54 #[I J 0,I J r,I J 0,I J 0,I J 0,I J 0])(h4:N ks<=4)(ho:w.ownsRow base 3 1 (Z a m c) (N ks) (ks.map (Value.int J)))(ty:TypeId) :
  ∃f,(Builtin.copy_ #[26,26] ty #[Z (O (aD g 2)) 4 4,Z a m c]).run V w=.ok (I J (N ks:Int)) f/\GB f g 54 #[I J 0,I J r,I J (E ks 0 0),I J (E ks 1 0),I J (E ks 2 0),I J (E ks 3 0)]/\aB (λb=>b≠g) w f:=by
 by_cases d:ks=[]
 .subst d;obtain⟨q,t,e⟩:=Om ho;injection e with e1 e2 e3;subst e2;refine⟨w,run_copy_none (P:=V) w 26 26 ty 3 _ _ 4 4 0 c underlying26 Tryz.afR rfl,hg,Xj _ _⟩
 have d:1<=N ks:=List.length_pos_iff.2 d;rcases XP ho with⟨e,h0⟩|⟨b,cap,e,_,_,hc⟩
 .omega
 injection e with e1 e2 e3;subst e1;subst e2;subst e3;have i:=run_copy_row (P:=V) w 26 26 ty 3 g 2 4 4 (aD b 0) (N ks) c #[.int J 0,.int J r,.int J 0,.int J 0,.int J 0,.int J 0] 54 (ks.map (Value.int J)) underlying26 Tryz.afR hg Qf (λj u n=>by
  rw[Zn,ZT];exact hc j u n) Qi (λu v=>by grind [Value.oneCell'])
 rw[ZX]at i;refine⟨_,i,?_,⟨rfl,rfl,rfl,Qa,λk _ p=>setRow_other w g k _ p⟩⟩;have l:=setRow_heap w g _ ((#[Value.int J 0,I J r,I J 0,I J 0,I J 0,I J 0]).toList.take 2++ks.map (Value.int J)++(#[Value.int J 0,I J r,I J 0,I J 0,I J 0,I J 0]).toList.drop (2+N ks)).toArray 54 (0,0) hg;have e:((#[Value.int J 0,I J r,I J 0,I J 0,I J 0,I J 0]).toList.take 2++ks.map (Value.int J)++(#[Value.int J 0,I J r,I J 0,I J 0,I J 0,I J 0]).toList.drop (2+N ks)).toArray=#[I J 0,I J r,I J (E ks 0 0),I J (E ks 1 0),I J (E ks 2 0),I J (E ks 3 0)]:=by
  match ks,d,h4 with
  |[x],_,_=>rfl
  |[x,y],_,_=>rfl
  |[x,y,z],_,_=>rfl
  |[x,y,z,u],_,_=>rfl
 rw[e]at l ⊢;exact l
def aev(h:tZ W rb s w) :
  Calls V 100 #[Y (O (aD rb 0))] w λe y=>e=Qu (Qt (nH s).1.jQ)/\tZ W rb (nH s).2 y/\aB (λb=>b≠rb) w y:=by
 obtain⟨w1,dB,G,L⟩:=bI w #[I J 0,I J 0,I J 0,I J 0,I J 0,I J 0] 54;obtain⟨P,HG⟩:=bH h.blk.lt L;have vQ:Qm (aB (λb=>b≠rb) w w1):=Xl G;have A:=lG (h.step G);have Lm:Qm (∀x,tZ W rb (dw s) x->Calls V 103 #[Y (O (aD rb 0)),I J 4,.func (.func 102) #[Y (O (aD rb 0))] #[]] x λe y=>∃v,e=Qu v/\y.ownsRow (M (H x)) 3 1 v (dI kH 4 (dw s)).1.length ((dI kH 4 (dw s)).1.map (Value.int J))/\tZ W rb (dI kH 4 (dw s)).2 y/\aB (λb=>b≠rb) x y):=λx hx=>Hz 4 X hx;have HT:Qm ((dI kH 4 (dw s)).1.length<=4):=by have:=CX kH (min (iM (dw s)) 4).toNat (dw (dw s));show (qF kH (min (iM (dw s)) 4).toNat (dw (dw s))).1.length<=4;omega
 unfold nH ag4 af.jQ;simp only;generalize (dI kH 4 (dw s)).1=ks,(dI kH 4 (dw s)).2=ns,iM s=rows at*;have aa:∀(a:Addr) (x:U),(Instr.sliceAt 52 (Y (O a)) Qr Qr Qr).run V x=.ok (.slice (O a) 4 4) x:=λa x=>by have xz:V.arrayLen 52=4:=Qd;have B:V.elem 52=3:=Qd;rw[run_sliceAt_array_all x 52 a (by rw[xz,B];exact underlying52),xz,B];simp[go_sem,slicedAt]
 generalize dw s=sl at*;clear h G L;go_enter func100,ntmps100;go_wp2_with fail;refine A.mono ?_;rintro e i ⟨rfl,h2,k2⟩;obtain⟨w3,ai,g,d⟩:=bI i #[I J 0,I J 0,I J 0,I J 0,I J 0,I J 0] 54;have hB:M (H w)<=M (H i):=ZU vQ.o.size k2.size;have l:=(h2.step g).put ((vQ.o.trans k2).trans (Xl (s:=λb=>b≠rb) g)) P.o hB [I J 0,I J rows,I J 0,I J 0,I J 0,I J 0];have j:=zK [I J 0,I J rows,I J 0,I J 0,I J 0,I J 0] d;have k:Qm (aB (λb=>b≠rb/\b≠M (H i)) w1 (rV (M (H i)) 0 [I J 0,I J rows,I J 0,I J 0,I J 0,I J 0] w3)):=((k2.mono λ_ _ h=>h.1).trans (Xl g)).trans ((oH _ 0 w3).mono λ_ _ h=>h.2);have d0:=d.at 0;have d1:=d.at 1;have d2:=d.at 2;have d3:=d.at 3;have d4:=d.at 4;have d5:=d.at 5;have f0:=d.frozen 0;have f1:=d.frozen 1;have f2:=d.frozen 2;have f3:=d.frozen 3;have f4:=d.frozen 4;have f5:=d.frozen 5;simp only[rV,XE,Nat.reduceAdd,ZT]at l j k;obtain⟨u,m⟩:=eY (M (H i));have q:=Zh m;have ae:Qm (M (H w)<M (H i)):=ZO HG.o.lt k2.size;have HB:=Zh hB;obtain⟨w4,t⟩:=eX (Qn (Qn (Qn (Qn (Qn (Qn w3 (aD (M (H i)) 0) (I J 0)) (aD (M (H i)) 1) (I J rows)) (aD (M (H i)) 2) (I J 0)) (aD (M (H i)) 3) (I J 0)) (aD (M (H i)) 4) (I J 0)) (aD (M (H i)) 5) (I J 0));rw[t]at l j k;rw[<-m]at j k;obtain⟨Q,R⟩:=bH l j;clear l j d k2 h2 A dB g hB;go_upto_region 2 with fail;try rw[t]
 rw[<-m];clear t m ai d0 d1 d2 d3 d4 d5 f0 f1 f2 f3 f4 f5;have iX:=Lm.o _ (Q.o.1.step ((Za _ _).drew));refine ZI (S:=λ_=>True) Qd trivial (λz=>?_);refine wX4 0 z ?_;refine wX1 4 z ?_;refine wR 5 λK p=>?_;go_simp;refine iX.mono ?_;rintro e w5 ⟨v,rfl,mW,h5,k5⟩;obtain⟨va,vm,vc,rfl⟩:=Xz mW;have kC:aB (λb=>b≠rb) w4 w5:=(Xl (s:=λb=>b≠rb) ((Za _ _).drew)).trans k5;have C:=R.o.bT kC (by have:=P.o;have:=HB.o;have:=q.o;omega);refine p.o _ _ trivial λz=>?_;clear p K;obtain⟨w6,aj,Gu,k6⟩:=aeu w5 u rows ks va vm vc _ C HT.o mW 3;have Ke:Qm (tZ W rb ns w6/\aB (λb=>b≠rb) w w6/\aB (λb=>b≠rb/\b≠u) w4 w6):=by have:=HB.o;have:=q.o;have:=P.o;have:=h5.lo;exact⟨h5.fu k6 X λb hb=>X,(Q.o.2.trans kC).dL k6 λb hb _=>X,(kC.mono λ_ _ h=>h.1).trans (k6.mono λ_ _ h=>h.2)⟩
 have ak:=Zh Gu;clear iX mW h5 k5 kC C k6;refine wR 6 λK p=>?_;go_simp;refine p.o _ _ trivial λz=>?_;clear p K aj;refine wX1 7 z ?_;have d0:=Gu.at 0;have f0:=Gu.frozen 0;refine wR 8 λK p=>?_;go_simp;refine p.o _ _ trivial λz=>?_;clear p K;refine wD ?_;try simp only[pV]
 obtain⟨w7,n⟩:=eX (Qn w6 (aD u 0) (I J (N ks:Int)));have D:GB w7 u 54 #[I J (N ks:Int),I J rows,I J (E ks 0 0),I J (E ks 1 0),I J (E ks 2 0),I J (E ks 3 0)]:=by rw[<-n];exact Gu.set 0 _
 have k7:aB (λb=>b≠u) w6 w7:=by rw[<-n];exact Xu _ _ _ (λh=>h rfl)
 have G:=HB.o;have ag:=q.o;have g:=P.o;have ah:=HG.o.lt;have hE:tZ W rb ns w7/\aB (λb=>b≠rb) w w7:=by have:=Ke.o.1.lo;exact⟨Ke.o.1.fu k7 X λb hb=>X,Ke.o.2.1.dL k7 λb hb _=>X⟩
 have fG:M (H w)≠u:=by have:=k.o.size;have h2:=R.o.lt;have h3:=ae.o;omega
 have f:=HG.o.bT ((k.o.trans Ke.o.2.2).trans (k7.mono λ_ _ h=>h.2)) ⟨X,fG⟩;have hF:=hE.1.put hE.2 P.o (Zb (M (H w))) [I J (N ks:Int),I J rows,I J (E ks 0 0),I J (E ks 1 0),I J (E ks 2 0),I J (E ks 3 0)];have r:=zK [I J (N ks:Int),I J rows,I J (E ks 0 0),I J (E ks 1 0),I J (E ks 2 0),I J (E ks 3 0)] f;obtain⟨e0,e1,e2,e3,e4,e5⟩:=D.k6;obtain⟨g0,g1,g2,g3,g4,g5⟩:=f.k6;have z0:=f.frozen 0;have z1:=f.frozen 1;have z2:=f.frozen 2;have z3:=f.frozen 3;have z4:=f.frozen 4;have z5:=f.frozen 5;simp only[rV,XE,Nat.reduceAdd,ZT]at hF r;obtain⟨HF,Av⟩:=bH hF r;clear hF r f hE D k7 Gu d0 f0 G ag g ah aa;go_upto_region 3 with fail;try rw[n]
 clear n;go_wp2;exact Jr (results_cell_row rfl _ _ (M (H w)) 54 #[.int J (N ks:Int),.int J rows,.int J (E ks 0 0),.int J (E ks 1 0),.int J (E ks 2 0),.int J (E ks 3 0)] (0,0) _ rfl Av.o underlying54 rfl Qd) rfl ⟨rfl,HF.o⟩
def abf(W:U)(base:Nat)(v:Ql)(ts:JK af)(bG:W.ownsRow base 54 6 v (N ts) (ts.flatMap xy))(hl:N ts<=1000)(hb:base<=M (H W))(t:af)(ty:TypeId) :
  ∃d e,(Builtin.append_ #[32,32] ty #[v,Z (O (aD (M (H W)) 0)) 1 1]).run V (W.alloc (Qs #[I J t.bU,I J t.rows,I J t.k0,I J t.k1,I J t.k2,I J t.k3] 54))=.ok d e/\
   e.ownsRow base 54 6 d (N (ts++[t])) ((ts++[t]).flatMap xy)/\aB (λb=>v.ownBlock≠O b) W e/\(∃a m c,d = Z a m c):=by
 obtain⟨i0,k,f,g,i⟩:=XB Tryz.afM;obtain⟨d,e,l,q,n,p,_⟩:=lg (P:=V) W base 32 ty 54 i0 _ 6 48 underlying32 k f g i rfl Qc v (N ts) _ bG hb (xy t) rfl (λu j=>by
  unfold xy at j;simp only[ZB,JP,or_false]at j;rcases j with rfl|rfl|rfl|rfl|rfl|rfl <;> rfl) hl Qc
 exact⟨d,e,l,Qf,n,p⟩
theorem aiQ(h:tZ W rb s w) :
  Calls V 99 #[Y (O (aD rb 0)),I J 8,.func (.func 100) #[Y (O (aD rb 0))] #[]] w λe w'=>∃v,e=Qu v/\w'.ownsRow (M (H w)) 54 6 v (dI nH 8 s).1.length ((dI nH 8 s).1.flatMap xy)/\tZ W rb (dI nH 8 s).2 w'/\aB (λb=>b≠rb) w w':=by
 have hn:=lG h;have Px:=Zh h.blk.lt;clear h;obtain⟨R,z⟩:=eY (dI nH 8 s);rw[<-z];unfold dI at z;obtain⟨Nq,L⟩:=eY (min (iM s) (8:Int));rw[<-L]at z;have HR:=Zh z;have q:Qm (Nq.toNat<=8):=by show _<=_;omega
 have m1:(if (8:Int)<iM s then (8:Int) else iM s)=Nq:=by rw[L];grind
 have m2:min (iM s) (8:Int)=Nq:=L.symm;clear z L;generalize iM s=n0 at*;go_enter func99,ntmps99;go_wp2_with fail;refine hn.mono ?_;rintro e w2 ⟨rfl,h2,jf⟩;obtain⟨H2,Bl⟩:=bH h2 jf;clear hn h2 jf;go_wp2;clear m1 m2;go_loopw [7,12] (λv i wr=>∃k:Nat,i=I J k/\Qm (aaj nH (λd v x=>x.ownsRow (M (H w)) 54 6 v (N d) (d.flatMap xy)) W rb w Nq.toNat R k v wr)) (λ_ i _=>Nq.toNat-(intOf i).toNat)
 case atStart=>exact⟨0,rfl,[],dw s,XC _ _ _ _,rfl,H2.o,Bl.o,HR.o.symm⟩
 case round=>
  obtain⟨k,rfl,P⟩:=hrel;obtain⟨d,l,m,n,p,Q,hE⟩:=P.o;obtain⟨e1,e2,e3⟩:=zo hE;obtain⟨A,PX,HK⟩:=lX m p Q;obtain⟨va,vm,vc,rfl⟩:=Xz m;have c0:=p.blk.at 0;by_cases aT:(k:Int)<Nq
  .by_cases hs:l=[]
   .have r:=(nO l).1 hs;have t:=Zh (e2 hs);generalize iH l=S at*;clear hE e1 e2 e3 P m p Q;go_wp2;go_ret;refine⟨_,rfl,?_,?_,HK.o⟩
    .rw[t.o];exact A.o
    .rw[t.o];exact PX.o
   .have r:=(nO l).2 hs;have a:=aev p;have u:Qm (N d=k/\k<Nq.toNat):=⟨n,X⟩
    have aa:k<=1000000:=Qj q.o;have y:=Zh (e3 X hs);generalize iH l=S at*;generalize (nH l).1=x0 at a y;have j:=Zh λB m K=>abf B (M (H w)) (Z va vm vc) d m (Qk u.o q.o) K x0 32;clear hE e1 e2 e3 P m p Q n;obtain⟨bU,rows,k0,k1,k2,k3⟩:=x0;simp only[aV.aoQ,af.jQ]at a j;go_wp2_with fail;refine a.mono ?_;rintro e B ⟨rfl,h4,f⟩;have Nk:Qm (B.ownsRow (M (H w)) 54 6 (Z va vm vc) (N d) (d.flatMap xy)):=Xw A.o f λg eg e=>JF A.o PX.o.blk Qc (e ▸ eg);obtain⟨v5,w5,sF,mW,kC,⟨C,D,G,rfl⟩⟩:=j.o B Nk.o (ZU HK.o.size f.size);have ae:Qm (aaj nH (λd v x=>x.ownsRow (M (H w)) 54 6 v (N d) (d.flatMap xy)) W rb w Nq.toNat R (k+1) (Z C D G) w5):=by have r:∀b,b<M (H w)->(Value.slice va vm vc).ownBlock≠O b:=λb K e=>Qj ((Xy A.o e).1);have ag:M (H W)<=M (H w):=ZU h4.lo (JH Px.o);exact⟨_,_,mW,by have:=u.o.1;simp;omega,h4.fu kC (JF Nk.o h4.blk Qc) λb K=>r b X,(HK.o.trans f).dL kC λb K _=>r b K,y.o⟩
    clear h4 f kC mW a c0 r j;go_wp2_with (first|(at_builtin;refine XJ rfl (.tmp 19) (.tmp 22) 32 rfl (Z va vm vc) (Z (O (aD (M (H B)) 0)) 1 1) (Z C D G) w5 rfl rfl sF ?_));go_roundw
    case rel=>grind
    case measure=>exact XK
  .have t:=Zh (e1 X);clear hE e1 e2 e3 P m p Q c0 n;go_wp2;go_ret;refine⟨_,rfl,?_,?_,HK.o⟩
   .rw[t.o];exact A.o
   .rw[t.o];exact PX.o
def Ot(base:Nat)(xs:IC)(v:Ql)(w:U):Prop:=∃iv:aA,v=iv.val/\iv.xs=xs/\iv.At w/\(∀a,iv.ad=O a->base<=a.block/\a.block<M (H w))/\(iv.ad=Qr->iv.cap=0)/\N iv.xs<=iv.cap
def Ot.fu(h:Ot base xs v w)(hk:aB (λb=>b≠rb) w w')(hb:rb<base):Ot base xs v w':=by obtain⟨f,g,i,j,e,k,l⟩:=h;exact⟨f,g,i,Jm j hk λ_ a d=>Qj (e a d),λa d=>⟨(e a d).1,ZO (e a d).2 hk.size⟩,k,l⟩
def Ot.sl(h:Ot base xs v w):∃a m c,v=Z a m c:=by obtain⟨b,rfl,_⟩:=h;exact⟨_,_,_,rfl⟩
def Ot.own{qY:Nat}(h:w.ownsRow base e 1 v n (xs.map (Value.int J)))(hl:N xs<=1000000)(hb:qY<=base):Ot qY xs v w:=by obtain⟨b,d,i,j,k,l,m⟩:=lJ h hl;exact⟨b,d,i,j,λa f=>⟨ZU hb (k a f),(Xy h (g:=a.block) (by rw[d];show (Value.slice b.ad _ _).ownBlock=_;rw[f];rfl)).2⟩,l,m⟩
def Ot.mono{base b:Nat}{xs:IC}{v:Ql}{w:U}(h:Ot base xs v w)(hb:b<=base):Ot b xs v w:=by obtain⟨f,g,i,j,d,k,l⟩:=h;exact⟨f,g,i,j,λa e=>⟨ZU hb (d a e).1,(d a e).2⟩,k,l⟩
structure wN(base:Nat)(q p:ae)(w:U):Prop where
 oO:p.At w
 same:il q p
 auS:Tx p
 aC:N p.aC.xs<=p.aC.cap
 ord:N p.ord.xs<=p.ord.cap
 new:p.New base
theorem wN.fu(h:wN base q p w)(hk:aB (λb=>b≠rb) w w')(hb:rb<base):wN base q p w':=by have key:∀{iv:aA},iv.At w->(∀a,iv.ad=O a->base<=a.block)->iv.At w':=λj k=>Jm j hk λ_ a f=>Qj (k a f);refine⟨⟨key h.oO.au h.new.au,⟨h.oO.wh.1,λi d=>?_,λi d=>bZ.eG (h.oO.wh.2.2 i d) hk λ_ a f=>Qj (h.new.cl i d a f)⟩,key h.oO.aC h.new.aC,key h.oO.aM h.new.aM,key h.oO.bA h.new.bA,key h.oO.ord h.new.ord⟩,h.same,h.auS,h.aC,h.ord,h.new⟩;obtain⟨b,off,e,g⟩:=h.oO.wh.2.1 i d;have:=h.new.wh _ e;exact⟨b,off,e,by rw[Xr (hk.block b (kX g) Qb)];exact g⟩
def wN.mono{base b:Nat}{q p:ae}{w:U}(h:wN base q p w)(hb:b<=base):wN b q p w:=
 ⟨h.oO,h.same,h.auS,h.aC,h.ord,⟨λa e=>ZU hb (h.new.au a e),λa e=>ZU hb (h.new.wh a e),λi d a e=>ZU hb (h.new.cl i d a e),λa e=>ZU hb (h.new.aC a e),λa e=>ZU hb (h.new.aM a e),λa e=>ZU hb (h.new.bA a e),λa e=>ZU hb (h.new.ord a e)⟩⟩
structure auT(q:ae):Prop where
 au:N q.au.xs<=1000
 wh:N q.wh<=100
 cl:∀c∈q.wh,N c.cs<=100
 aC:N q.aC.xs<=1000
 aM:N q.aM.xs<=1000
 bA:N q.bA.xs<=1000
 ord:N q.ord.xs<=1000
theorem uZ(next:JK UInt8->α × JK UInt8){m:Nat}{Mq:Int}(hm:Mq=m)(s:JK UInt8):(dI next Mq s).1.length<=m:=by grind [CX,dI]
def TE{α:Type}{p:α->Prop}{next:JK UInt8->α × JK UInt8}(h:∀s,p (next s).1):∀(n:Nat) (s:JK UInt8),∀x∈(qF next n s).1,p x
 |0,s,x,hx=>by cases hx
 |n+1,s,x,hx=>by
  unfold qF at hx;split at hx
  .cases hx
  .rcases ZB.1 hx with rfl|hx
   .exact h s
   .exact TE h n _ x hx
def aew{b:JK (JK aV)}{g:Bool}{c d e f:IC}(ha:N a<=1000)(hb:N b<=100)(vR:∀x∈b,N x<=100)(hc:N c<=1000)(hd:N d<=1000)(he:N e<=1000)(hf:N f<=1000):auT (Ba a b g c d e f):=
 ⟨ha,by show N (b.map _)<=_;simp_all,λx j=>by
  obtain⟨cs,i,rfl⟩:=Xc.1 j;exact vR cs i,hc,hd,he,hf⟩
theorem BN(Mq:Int)(hM:Mq<=1000)(s:JK UInt8):(dI kH Mq s).1.length<=1000:=by grind [CX,dI]
def aex(s:JK UInt8):auT (yS s).1:=by
 unfold yS;refine aew (BN _ X _) ?_ (λcs a=>?_) (BN _ X _) (BN _ X _) (BN _ X _) (BN _ X _)
 .exact ZU (uZ mX (m:=8) rfl _) X
 .unfold dI at a;exact TE (p:=λcs=>N cs<=100) (λs=>ZU (uZ rW (m:=3) rfl s) X) _ _ cs a
theorem amF{v0 v1 v3 v4 v5 v6:Ql}(hb:M (H w0)=base)(hj:auT q)
  (h0:Ot base q.au.xs v0 w) (h3:Ot base q.aC.xs v3 w) (h4:Ot base q.aM.xs v4 w) (h5:Ot base q.bA.xs v5 w) (h6:Ot base q.ord.xs v6 w)
  (CW:ls.map (·.cs)=q.wh.map (·.cs)) (bG:w.ownsRow base 59 1 v1 (N ls) (ls.map aQ.val)) (Ao:Vz w0 w ls) :
  ∃p:ae,p.cells=#[v0,v1,Qq q.aF,v3,v4,v5,v6]/\wN base q p w:=by
 obtain⟨i0,rfl,z,a0,A,z0,_⟩:=h0;obtain⟨i3,rfl,B,a3,C,z3,c3⟩:=h3;obtain⟨i4,rfl,D,a4,G,z4,_⟩:=h4;obtain⟨i5,rfl,K,a5,L,z5,_⟩:=h5;obtain⟨P,rfl,Q,R,S,W,c6⟩:=h6;have t:N ls=N q.wh:=by simpa using congrArg N CW
 have u:∀i,i<N ls->(E ls i lz).cs=(E q.wh i lz).cs:=λi j=>by
  have m:(ls.map (·.cs))[i]? = (q.wh.map (·.cs))[i]?:=by rw[CW]
  grind
 have d:∀i,i<N ls->E ls i lz∈ls:=λi j=>by simp[List.getD,j]
 have f:∀x∈ls,bZ w x.ad x.cs/\(∀a,x.ad=O a->base<=a.block)/\(x.ad=Qr->x.cap=0)/\N x.cs<=100:=λx l=>by
  obtain⟨i,j,rfl⟩:=JO.1 l;have h3:ls[i].cs.length<=100:=by have m:=hj.cl (E q.wh i lz) Qb;grind
  have n:=Ao _ l;obtain⟨k,cap,e,m,h2⟩:=Gt n X;have v:Value.slice ls[i].ad ls[i].cs.length ls[i].cap=Z k ls[i].cs.length cap:=e;injection v with e1 e2 e3;refine⟨by rw[e1];exact m,λa b=>Qf,λr=>?_,h3⟩;rcases n.2 with⟨e4,_⟩|⟨g,pQ,iw,e4,_⟩
  .simp_all
  grind
 obtain⟨k,cap,rfl,iX⟩:=BC bG (λx l=>(f x l).1) (Qj hj.wh);have y:k=Qr->cap=0:=λr=>by
  subst r;rcases bG.2 with⟨e4,_⟩|⟨g,pQ,iw,e4,_⟩
  .injection e4
  simp_all
 have s0:=hj.au;have s3:=hj.aC;have s4:=hj.aM;have s5:=hj.bA;have s6:=hj.ord;refine⟨⟨i0,k,cap,ls,q.aF,i3,i4,i5,P⟩,rfl,⟨a0,iX,a3,a4,a5,R⟩,⟨z,t,u,rfl,B,D,K,Q⟩,⟨⟨z0,Qf⟩,⟨y,by show N ls<=_;have:=hj.wh;omega⟩,λi j=>⟨(f _ (d i j)).2.2.1,Qb⟩,⟨z3,Qf⟩,⟨z4,Qf⟩,⟨z5,Qf⟩,⟨W,Qf⟩⟩,c3,c6,⟨λa b=>(A a b).1,λa b=>(Xy bG (g:=a.block) (by rw[show k=O a from b];rfl)).1,λi j=>(f _ (d i j)).2.1,λa b=>(C a b).1,λa b=>(G a b).1,λa b=>(L a b).1,λa b=>(S a b).1⟩⟩
def aey(h:tZ W rb s w) :
  Calls V 101 #[Y (O (aD rb 0))] w λe a=>∃p:ae,e=Qu (Qt p.cells)/\wN (M (H w)) (yS s).1 p a/\tZ W rb (yS s).2 a/\aB (λb=>b≠rb) w a:=by
 obtain⟨w1,dB,bL,S⟩:=bI w #[Z Qr 0 0,Z Qr 0 0,Qq F,Z Qr 0 0,Z Qr 0 0,Z Qr 0 0,Z Qr 0 0] 35;obtain⟨HR,HG⟩:=bH h.blk.lt S;have vQ:Qm (aB (λb=>b≠rb) w w1):=Xl bL;have rP:=Zh (aex s);obtain⟨A,hA⟩:=eY (dI kH 5 s);obtain⟨B,hB⟩:=eY (dI mX 8 A.2);obtain⟨C,hC⟩:=eY (dI kH 4 (dw B.2));obtain⟨D,hD⟩:=eY (dI kH 4 C.2);obtain⟨n,r⟩:=eY (dI kH 8 D.2);obtain⟨Fq,hF⟩:=eY (dI kH 4 n.2);obtain⟨y,O0⟩:=eY (decide (iM B.2≠0));have L:yS s=(Ba A.1 B.1 y C.1 D.1 n.1 Fq.1,Fq.2):=by rw[O0,hF,r,hD,hC,hB,hA];rfl
 rw[L]at rP ⊢;simp only at rP ⊢;obtain⟨q,hq⟩:=eY (Ba A.1 B.1 y C.1 D.1 n.1 Fq.1);have HQ:Qm (q.au.xs=A.1/\q.wh.map (·.cs)=B.1/\q.aF=y/\q.aC.xs=C.1/\q.aM.xs=D.1/\q.bA.xs=n.1/\q.ord.xs=Fq.1):=by rw[hq];refine⟨rfl,?_,rfl,rfl,rfl,rfl,rfl⟩;show (List.map _ (List.map _ B.1))=_;rw[Xe];exact List.map_id' _
 rw[<-hq]at rP ⊢;have P:Qm (∀(x:U) (m:Nat) (l:JK UInt8),m<=1000->tZ W rb l x->Calls V 103 #[Y (O (aD rb 0)),I J (m:Int),.func (.func 102) #[Y (O (aD rb 0))] #[]] x λe a=>∃v,e=Qu v/\Ot (M (H x)) (dI kH m l).1 v a/\tZ W rb (dI kH m l).2 a/\aB (λb=>b≠rb) x a):=λx m l hm K=>by refine(Hz m X K).mono ?_;rintro e a ⟨v,rfl,ho,h1,h2⟩;exact⟨v,rfl,Ot.own ho (Qj (uZ kH (m:=m) rfl l)) (Zb _),h1,h2⟩
 have Sd:Qm (∀x,tZ W rb A.2 x->Calls V 142 #[Y (O (aD rb 0)),I J 8,.func (.func 143) #[Y (O (aD rb 0))] #[]] x λe a=>∃v ls,e=Qu v/\ls.map (·.cs)=B.1/\a.ownsRow (M (H x)) 59 1 v (N ls) (ls.map aQ.val)/\Vz x a ls/\tZ W rb B.2 a/\aB (λb=>b≠rb) x a):=λx K=>by rw[hB];exact aiN K
 have ag:Qm (∀x,tZ W rb B.2 x->Calls V 144 #[Y (O (aD rb 0))] x λe a=>e=Qu (Qq y)/\tZ W rb (dw B.2) a/\aB (λb=>b≠rb) x a):=λx K=>by rw[O0];exact Hy K
 have d:Qm (A=dI kH 5 s/\C=dI kH 4 (dw B.2)/\D=dI kH 4 C.2/\n=dI kH 8 D.2/\Fq=dI kH 4 n.2):=⟨hA,hC,hD,r,hF⟩;have k:=P.o _ 5 s X (h.step bL);rw[show dI kH ((5:Nat):Int) s=A from d.o.1.symm]at k;clear h bL S hA hB hC hD r hF O0 L hq;go_enter func101,ntmps101;go_wp2_with fail;refine k.mono ?_;rintro e w2 ⟨v0,rfl,r0,h2,k2⟩;have R0:=Zh r0;obtain⟨a0,m0,c0,rfl⟩:=r0.sl;have iX:=Sd.o w2 h2;obtain⟨G,K2⟩:=bH k2.size k2;go_wp2_with fail;refine iX.mono ?_;rintro e w3 ⟨v1,ls,rfl,CW,ho,Ao,h3,k3⟩;obtain⟨Uy,R1⟩:=bH CW (Je ho G.o);have ah:Qm (Vz w1 w3 ls):=λx K=>Je (Ao x K) G.o;obtain⟨a1,m1,c1,rfl⟩:=Xz ho;have ai:=ag.o w3 h3;have K3:=Zh k3;go_wp2_with fail;refine ai.mono ?_;rintro e w4 ⟨rfl,h4,k4⟩;have k:=P.o _ 4 _ X h4;rw[show dI kH ((4:Nat):Int) (dw B.2)=C from d.o.2.1.symm]at k;obtain⟨qO,K4⟩:=bH (ZU G.o (ZU K3.o.size k4.size)) k4;go_wp2_with fail;refine k.mono ?_;rintro e w5 ⟨v3,rfl,r3,h5,k5⟩;have R3:=Zh (r3.mono qO.o);obtain⟨a3,m3,c3,rfl⟩:=r3.sl;have f:=P.o _ 4 _ X h5;rw[show dI kH ((4:Nat):Int) C.2=D from d.o.2.2.1.symm]at f;obtain⟨qd,K5⟩:=bH (ZU qO.o k5.size) k5;go_wp2_with fail;refine f.mono ?_;rintro e w6 ⟨v4,rfl,r4,h6,k6⟩;have R4:=Zh (r4.mono qd.o);obtain⟨a4,m4,c4,rfl⟩:=r4.sl;have k:=P.o _ 8 _ X h6;rw[show dI kH ((8:Nat):Int) D.2=n from d.o.2.2.2.1.symm]at k;obtain⟨yu,K6⟩:=bH (ZU qd.o k6.size) k6;go_wp2_with fail;refine k.mono ?_;rintro e w7 ⟨v5,rfl,r5,h7,k7⟩;have R5:=Zh (r5.mono yu.o);obtain⟨a5,m5,c5,rfl⟩:=r5.sl;have f:=P.o _ 4 _ X h7;rw[show dI kH ((4:Nat):Int) n.2=Fq from d.o.2.2.2.2.symm]at f;obtain⟨aj,K7⟩:=bH (ZU yu.o k7.size) k7;go_wp2_with fail;refine f.mono ?_;rintro e w8 ⟨v6,rfl,r6,h8,k8⟩;have R6:=Zh (r6.mono aj.o);obtain⟨a6,m6,c6,rfl⟩:=r6.sl;have Q:=K6.o.trans (K7.o.trans k8);have j:=K4.o.trans (K5.o.trans Q);have R:=K2.o.trans (K3.o.trans j);have hr:rb<M (H w1):=Nat.lt_trans HR.o HG.o.lt;obtain⟨g0,g1,g2,g3,g4,g5,g6⟩:=HQ.o;obtain⟨p,aa,ak⟩:=amF (q:=q) (w0:=w1) rfl rP.o (by rw[g0];exact R0.o.fu (K3.o.trans j) hr) (by rw[g3];exact R3.o.fu Q hr) (by rw[g4];exact R4.o.fu (K7.o.trans k8) hr) (by rw[g5];exact R5.o.fu k8 hr) (by rw[g6];exact R6.o) (Uy.o.trans g1.symm) (Xw R1.o j λg eg=>Qj ((Xy R1.o eg).1)) (ah.o.fu j λb hb _=>X);rw[g2]at aa;have Dk:=HG.o.bT R (Qj HR.o);obtain⟨VS,af⟩:=eY ([Z a0 m0 c0,Z a1 m1 c1,Qq y,Z a3 m3 c3,Z a4 m4 c4,Z a5 m5 c5,Z a6 m6 c6]:JK Ql)
 have r:=h8.put (vQ.o.trans R) HR.o (Zb (M (H w))) VS;have t:=zK VS Dk (by rw[af];rfl);have u:Qm (∃p:ae,Ending.returned (Qt #[.slice a0 m0 c0,.slice a1 m1 c1,.bool y,.slice a3 m3 c3,.slice a4 m4 c4,.slice a5 m5 c5,.slice a6 m6 c6])=Qu (Qt p.cells)/\wN (M (H w)) q p (rV (M (H w)) 0 VS w8)):=⟨p,by rw[aa],(ak.fu (oH _ 0 w8) HG.o.lt).mono (JH HG.o.lt)⟩;obtain⟨d0,d1,d2,d3,d4,d5,d6⟩:=Dk.k7;have z:=λi=>Dk.frozen i;rw[af]at r t u;simp only[rV,XE,Nat.reduceAdd,ZT]at r t u;obtain⟨HE,Av⟩:=bH r t;go_wp2;obtain⟨p,e1,e2⟩:=u.o;exact Jr (results_cell_row rfl _ _ (M (H w)) 35 #[.slice a0 m0 c0,.slice a1 m1 c1,.bool y,.slice a3 m3 c3,.slice a4 m4 c4,.slice a5 m5 c5,.slice a6 m6 c6] (0,0) _ rfl Av.o underlying35 rfl Qd) rfl ⟨p,e1,e2,HE.o⟩
def abg(h:w.ownsRow base e 6 v (N ts) (ts.flatMap xy))(hl:N ts<=1000):∃a cap,v=Z a (N ts) cap/\aZ w a ts/\(a=Qr->cap=0):=by
 obtain⟨a,cap,rfl,b⟩:=Od h hl;refine⟨a,cap,rfl,b,λe=>?_⟩;subst e;rcases h.2 with⟨e4,_⟩|⟨g,pQ,iw,e4,_⟩
 .injection e4
 simp_all
def amG(s:JK UInt8)(hs:N s<=2000000)(hC:Vd w) :
  Calls V 65 #[.string (iH s)] w λe f=>∃(ca:LM) (cc:Nat) (p:ae) (pv:Ql),e=Qu (Qt (#[Z ca (bY s).ts.length cc]++p.cells ++ #[I J (bY s).cap,pv,I J (bY s).st]))/\aZ f ca (bY s).ts/\(ca=Qr->cc=0)/\wN (M (H w)) (bY s).q p f/\Ot (M (H w)) (bY s).picks pv f/\Bw w f:=by
 obtain⟨d,dB,bL,aG⟩:=bI w #[Z Qr 0 0,Z Qr 0 0,Z Qr 0 0,Qq F,Z Qr 0 0,Z Qr 0 0,Z Qr 0 0,Z Qr 0 0,I J 0,Z Qr 0 0,I J 0] 130;obtain⟨w2,aT,G,K⟩:=bI d #[.string (iH s)] 174;have af:=aO bL G;have ag:=aai (W:=w) (rb:=M (H d)) (s:=s) (w:=w2) ⟨hC,bL.size,af,K,hs⟩;obtain⟨A,hA⟩:=eY (dI nH 8 (dw s));obtain⟨q,hq⟩:=eY (yS A.2);obtain⟨C,r⟩:=eY (dI kH 1000000 (dw q.2));have hJ:bY s=⟨A.1,q.1,iM q.2,C.1,iM C.2⟩:=by rw[r,hq,hA];rfl
 rw[hJ];simp only;have UZ:Qm (∀x,tZ w (M (H d)) (dw s) x->Calls V 99 #[Y (O (aD (M (H d)) 0)),I J 8,.func (.func 100) #[Y (O (aD (M (H d)) 0))] #[]] x λe f=>∃v,e=Qu v/\f.ownsRow (M (H x)) 54 6 v (N A.1) (A.1.flatMap xy)/\tZ w (M (H d)) A.2 f/\aB (λb=>b≠M (H d)) x f):=λx hx=>by rw[hA];exact aiQ hx
 have ah:Qm (∀x,tZ w (M (H d)) A.2 x->Calls V 101 #[Y (O (aD (M (H d)) 0))] x λe f=>∃p:ae,e=Qu (Qt p.cells)/\wN (M (H x)) q.1 p f/\tZ w (M (H d)) q.2 f/\aB (λb=>b≠M (H d)) x f):=λx hx=>by rw[hq];exact aey hx
 have ai:Qm (∀x,tZ w (M (H d)) (dw q.2) x->Calls V 103 #[Y (O (aD (M (H d)) 0)),I J 1000000,.func (.func 102) #[Y (O (aD (M (H d)) 0))] #[]] x λe f=>∃v,e=Qu v/\f.ownsRow (M (H x)) 3 1 v (N C.1) (C.1.map (Value.int J))/\tZ w (M (H d)) C.2 f/\aB (λb=>b≠M (H d)) x f):=λx hx=>by rw[r];exact Hz 1000000 X hx
 have PQ:Qm (N A.1<=1000/\N C.1<=1000000):=by rw[r,hA];exact⟨ZU (uZ nH (m:=8) rfl _) X,uZ kH (m:=1000000) rfl _⟩
 have ak:Qm (aB (λb=>b≠M (H d)) d w2):=Xl G;obtain⟨HG,aH,Px⟩:=lX aG bL K.lt;generalize iH s=TX,iH (uI s)=TW at*;obtain⟨cap,nu⟩:=eY (iM q.2);rw[<-nu];have au:=Zh nu;clear nu;obtain⟨st,nT⟩:=eY (iM C.2);rw[<-nT];have av:=Zh nT;clear nT;go_enter func65,ntmps65;go_wp2_with fail;refine ag.mono ?_;rintro e w3 ⟨rfl,h3,k3⟩;have hc:=UZ.o w3 h3;obtain⟨aI,Yj⟩:=bH (ak.o.trans k3) (ZO Px.o k3.size);go_wp2_with fail;refine hc.mono ?_;rintro e w4 ⟨v,rfl,wG,h4,k4⟩;obtain⟨u,tm,L,rfl⟩:=Xz wG;obtain⟨Nk,aJ,P⟩:=lX wG (aI.o.trans k4) (ZO Yj.o k4.size);have ax:=ah.o w4 h4;go_wp2_with fail;refine ax.mono ?_;rintro e w5 ⟨p,rfl,aK,h5,k5⟩;obtain⟨x0,y0,z0,x1,y1,z1,gr,x3,y3,z3,x4,y4,z4,x5,y5,z5,x6,y6,z6,Q⟩:∃x0 y0 z0 x1 y1 z1 gr x3 y3 z3 x4 y4 z4 x5 y5 z5 x6 y6 z6,p.cells=#[Z x0 y0 z0,Z x1 y1 z1,Qq gr,Z x3 y3 z3,Z x4 y4 z4,Z x5 y5 z5,Z x6 y6 z6]:=⟨_,_,_,_,_,_,_,_,_,_,_,_,_,_,_,_,_,_,_,rfl⟩;rw[Q];obtain⟨aL,aM⟩:=bH Q aK;have zW:Qm (w5.ownsRow (M (H w3)) 54 6 (Z u tm L) (N A.1) (A.1.flatMap xy)):=Xw Nk.o k5 λg eg=>Qk ((Xy Nk.o eg).1) Yj.o;obtain⟨aN,aP⟩:=bH (aJ.o.trans k5) (ZO P.o k5.size);have nU:=lG h5;rw[<-au.o]at nU;go_wp2_with fail;refine nU.mono ?_;rintro e w6 ⟨rfl,h6,k6⟩;have ay:=ai.o w6 h6;have K6:=Zh k6;go_wp2_with fail;refine ay.mono ?_;rintro e w7 ⟨v,rfl,R,h7,k7⟩;obtain⟨S,pm,pc,rfl⟩:=Xz R;obtain⟨aQ,aR⟩:=bH R (ZO aP.o K6.o.size);have lH:=lG h7;rw[<-av.o]at lH;have K7:=Zh k7;go_wp2_with fail;refine lH.mono ?_;rintro e y ⟨rfl,h8,k8⟩;have l:=K6.o.trans (K7.o.trans k8);have D:=aN.o.trans l;have fG:M (H w)≠M (H d):=Qj HG.o.lt;have j:=HG.o.bT D fG;obtain⟨t,aa⟩:=eY ([Z u tm L,Z x0 y0 z0,Z x1 y1 z1,Qq gr,Z x3 y3 z3,Z x4 y4 z4,Z x5 y5 z5,Z x6 y6 z6,I J cap,Z S pm pc,I J st]:JK Ql);have n:=zK t j (by rw[aa];rfl);have k:=oH (B:=M (H w)) t 0 y;have gJ:Qm (aZ (rV (M (H w)) 0 t y) u A.1/\tm=N A.1/\(u=Qr->L=0)/\wN (M (H w)) q.1 p (rV (M (H w)) 0 t y)/\Ot (M (H w)) C.1 (Z S pm pc) (rV (M (H w)) 0 t y)/\Bw w (rV (M (H w)) 0 t y)):=by have l0:=HG.o.lt;have l3:=Yj.o;have l4:=P.o;have l6:=aR.o;have az:=Xw (Xw zW.o l λg eg=>Qj ((Xy zW.o eg).1)) k λg eg=>Qj ((Xy zW.o eg).1);obtain⟨ad,cp,e,aS,jR⟩:=abg az PQ.o.1;injection e with e1 e2 e3;subst e1;subst e3;have aA:=((aM.o.fu l l4).fu k X).mono (b:=M (H w)) X;have aC:Ot (M (H w6)) C.1 (Z S pm pc) w7:=Ot.own aQ.o PQ.o.2 (Zb _);obtain⟨iv,i1,i2,i3,i4,i5,i6⟩:=(aC.fu k8 l6).fu k X;have aF:aB (λb=>b<M (H w)) w (rV (M (H w)) 0 t y):=((Xl aH.o).trans (D.mono λb _ hb=>X)).trans (k.mono λb _ hb=>X);exact⟨aS,e2,jR,aA,⟨iv,i1,i2,i3,λa ea=>Qj (i4 a ea),i5,i6⟩,aF.aj (Zb _) λb hb=>hb⟩
 have z:=λi=>j.frozen i;obtain⟨d0,d1,d2,d3,d4,d5,d6,d7,d8,d9,aU⟩:_/\_/\_/\_/\_/\_/\_/\_/\_/\_/\_:=⟨j.at 0,j.at 1,j.at 2,j.at 3,j.at 4,j.at 5,j.at 6,j.at 7,j.at 8,j.at 9,j.at 10⟩;rw[aa]at n gJ;simp only[rV,XE,Nat.reduceAdd,ZT]at n gJ;have Av:=Zh n;go_wp2;obtain⟨g1,g2,g3,g4,g5,g6⟩:=gJ.o;refine Jr (results_cell_row rfl _ _ (M (H w)) 130 #[.slice u tm L,.slice x0 y0 z0,.slice x1 y1 z1,.bool gr,.slice x3 y3 z3,.slice x4 y4 z4,.slice x5 y5 z5,.slice x6 y6 z6,.int J cap,.slice S pm pc,.int J st] (0,0) _ rfl Av.o underlying130 rfl Qd) rfl ⟨u,L,p,.slice S pm pc,?_,g1,g3,g4,g5,g6⟩;rw[aL.o,g2];rfl
