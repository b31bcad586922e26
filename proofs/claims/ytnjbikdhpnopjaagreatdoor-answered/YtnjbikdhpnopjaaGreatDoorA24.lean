import Derived.Test.YtnjbikdhpnopjaaGreatDoorA22
import Derived.Test.YtnjbikdhpnopjaaGreatDoorA23
set_option linter.all false
set_option maxRecDepth 100000
set_option maxHeartbeats 0
namespace Go.Proofs.Zz
open Go.RowKit Go.Shelf
open List renaming length->N,getD->E
open Go.Value renaming slice->Z,int->I,bool->Wl,agg->FL
open Go.Proofs.Tryz renaming prog->V
open Option renaming some->O,none->xn
open Go.IntKind renaming i64->J,u64->Vo
open Bool renaming true->T
open Go renaming World->U,Value->X3
open Go.World renaming heap->H
open _root_.Array renaming size->M
open Go.Obj renaming cells->EP
open Go.Ending renaming returned->FN
variable {ts:List ah} {q:af} {db:List aP} {X:List (List Int)} {pl:List ai} {ds:List bN}
theorem afP(f:aF)(ts:List ah)(q:af)(po:Option Addr)(pc:Nat)(pl:List ai)(pa:Option Addr)(pac:Nat)(ps:List aG)(vd:X3)(n:ai)(li:Nat)(w0 w:U)(hw:Bw w0 w)(hf:f.At ts q w0)(hn:fP w0 po pl)(el:n.l=li)(hll:li<N pl)(XL:List (List Int) × List Int)(X Yq:List (List Int))
  (hl:n.kind≠10->∀x,Bw w0 x->Calls V 114 #[FL (jK f ts q (Z po (N pl) pc) (Z pa (N ps) pac) vd),FL (E pl li nz).cells] x (qh V w0 XL x))
  (h0:n.kind=10->∀x,Bw w0 x->Calls V 68 #[FL (jK f ts q (Z po (N pl) pc) (Z pa (N ps) pac) vd),FL (E pl li nz).cells] x λe w'=>∃v,e=FN v/\qi V 3 v Yq w'/\Bw x w')
  (c0:n.kind=10->X=fA q.ord.xs Yq/\0<N q.ord.xs/\N Yq<=1000000/\∀r∈Yq,aS q.ord.xs (N r)=T)
  (c8:n.kind=8->lW (aK XL.2 q.keys.xs) (aK XL.2 q.sums.xs) XL.1=dW (aK XL.2 q.keys.xs) (aK XL.2 q.sums.xs) XL.1)
  (c7:n.kind=7∨n.kind=8->X=(dW (aK XL.2 q.keys.xs) (aK XL.2 q.sums.xs) XL.1).map Gr.row/\(∀x∈q.keys.xs,x∈XL.2)/\(∀x∈q.sums.xs,x∈XL.2)/\N q.keys.xs<=4/\N q.sums.xs<=4)
  (c9:n.kind=9->X=(XL.1.map λr=>au r (aK XL.2 q.bE.xs))/\(∀x∈q.bE.xs,x∈XL.2)/\N q.bE.xs<=8)
  (hR0:n.kind≠10->Mi XL.2 XL.1) (hk:7<=n.kind/\n.kind<=10) :
  Calls V 68 #[FL (jK f ts q (Z po (N pl) pc) (Z pa (N ps) pac) vd),FL n.cells] w λe w'=>∃v,e=FN v/\qi V 3 v X w'/\Bw w w':=by
 obtain⟨⟨ag,aj,ak⟩,gI,bP,wh,group,⟨ka,kc,m⟩,⟨ua,uc,p⟩,⟨ea,ec,bE⟩,⟨da,dc,ord⟩⟩:=q;obtain⟨v0,v1,v2,v3,v4,v5,v6,v7,v8,v9,bg,bn,bq,cK,bu,bz,bA,bB,bC,bD,bF,-⟩:=X9 f ts ⟨⟨ag,aj,ak⟩,gI,bP,wh,group,⟨ka,kc,m⟩,⟨ua,uc,p⟩,⟨ea,ec,bE⟩,⟨da,dc,ord⟩⟩;simp only[ae.val]at bu bz bA bB bC bD bF;subst bu bz bA bB bC bD bF;obtain⟨nb,no,bW,Sw,Sy,Sz,SA,SC,SE,SF,-,-⟩:=hn.2 li hll;subst bW;have EK:jK f ts ⟨⟨ag,aj,ak⟩,gI,bP,wh,group,⟨ka,kc,m⟩,⟨ua,uc,p⟩,⟨ea,ec,bE⟩,⟨da,dc,ord⟩⟩ (Z (O (aD nb no)) (N pl) pc) (Z pa (N ps) pac) vd=#[Z ag (N ak) aj,Z gI (N wh) bP,Wl group,Z ka (N m) kc,Z ua (N p) uc,Z ea (N bE) ec,Z da (N ord) dc,v7,v8,v9,bg,bn,bq,Z (O (aD nb no)) (N pl) pc,Z pa (N ps) pac,vd]:=by unfold jK;rw[cK];rfl
 have Om:n.cells=#[I J n.kind,I J n.l,I J n.r,I J n.source,n.cl.val,I J n.key,n.co.val]:=rfl;have Wv:(E pl li nz).cells=#[I J (E pl li nz).kind,I J (E pl li nz).l,I J (E pl li nz).r,I J (E pl li nz).source,(E pl li nz).cl.val,I J (E pl li nz).key,(E pl li nz).co.val]:=rfl;rw[EK,Wv]at hl h0;rw[EK,Om,el];obtain⟨w1,bG,bH,av⟩:=aL w #[Z ag (N ak) aj,Z gI (N wh) bP,Wl group,Z ka (N m) kc,Z ua (N p) uc,Z ea (N bE) ec,Z da (N ord) dc,v7,v8,v9,bg,bn,bq,Z (O (aD nb no)) (N pl) pc,Z pa (N ps) pac,vd] 149;obtain⟨w2,bI,aT,aU⟩:=aL w1 #[I J n.kind,I J (li:Int),I J n.r,I J n.source,n.cl.val,I J n.key,n.co.val] 102;obtain⟨B,bJ,aV,bK⟩:=aL w2 #[Z ag (N ak) aj,Z gI (N wh) bP,Wl group,Z ka (N m) kc,Z ua (N p) uc,Z ea (N bE) ec,Z da (N ord) dc] 26;obtain⟨b0,b1,b2,b3,b4,b5,b6⟩:=(av.of (aT.block _ av.lt)).k7;have aN:=az aT aV;have aO:=az bH aN;have aC:=az hw aO;have jJ:=av.of (aN.block _ av.lt);have qU:=aU.of (aV.block _ aU.lt);obtain⟨fZ,iy,jd,iK,iL,je,jf,jR,jy,jA,dS,eP,dU⟩:=jJ.oh;have mZ:=jJ.at 13;have nS:=jJ.at 14;have nT:=jJ.at 15;obtain⟨nQ,oW,pg,qV,qg,rZ,sj⟩:=qU.k7;obtain⟨-,-,-,bL,bM,bN,bX⟩:=bK.k7;obtain⟨Sw,Sy,Sz,SA,SC⟩:=qA aC Sw Sy Sz SA SC;obtain⟨SE,SF⟩:=nH aC SE SF;have cO:=hn.1;have cZ:(li:Int)<(N pl:Int):=by omega
 obtain⟨ax,Sv,HQ,HC,aH,Sr,aI⟩:=ze aC aO hf.query c0 c7 c8 c9;obtain⟨Px,aW,H0⟩:=dQ hR0 hl h0;clear hl h0 bH aT aV av aU bK jJ qU aO aN aC hn hf hw c0 c7 c8 c9 hR0 cK EK Om Wv el;obtain⟨nk,nl,nr,ns,Kq,key,Kr⟩:=n;simp only at*;generalize (E pl li nz).kind=l0 at*;generalize (E pl li nz).l=l1 at*;generalize (E pl li nz).r=l2 at*;generalize (E pl li nz).source=l3 at*;generalize (E pl li nz).cl.val=l4 at*;generalize (E pl li nz).key=l5 at*;generalize (E pl li nz).co.val=l6 at*;generalize Kq.val=NCL at*;generalize Kr.val=NCO at*;by_cases u:nk=10
 .have hC:=HC.o u;obtain⟨bY,bZ⟩:=aJ (H0.o u) hC;clear hC HC H0 aW aH Sr aI Px;subst u;go_enter Tryz.func68,Tryz.ntmps68;go_upto_region 3 with fail;clear bG bI bJ b0 b1 b2 b3 b4 b5 b6;refine wH B λd=>?_
  refine wA6 0 d ?_;refine sN 6 d ?_;refine wA2 8 d ?_;refine wR 7 λK i=>?_;go_simp;refine(bY.o _ (az ax.o d)).mono ?_;rintro e w4 ⟨v,rfl,hv,Q⟩;refine oT i d Q λd=>?_;clear i K;obtain⟨eX,h1,h2,h3⟩:=bZ.o;have aP:=Ir v ⟨da,dc,ord⟩ Yq w4 hv (Qo (az ax.o d) HQ.o.ord) h1 h2 h3;simp only[ae.val]at aP;refine wR 10 λK i=>?_;go_simp;refine aP.mono ?_;rintro e w5 ⟨v',rfl,C,ay⟩;refine oT i d ay λd=>?_;clear i K;obtain⟨HV,HS,HX⟩:=dQ C d eX;clear aP hv C h2 h3 eX;refine sN 11 d ?_;refine wD ?_;try simp only[pU]
  go_wp2_with fail;go_ret;exact⟨v',rfl,by rw[HX.o];exact HV.o,az Sv.o HS.o⟩
 obtain⟨HL,HR⟩:=aJ (aW.o u) (Px.o u);have df:(nk==10)=false:=by simpa using u
 clear aW H0 HC Px;go_enter Tryz.func68,Tryz.ntmps68;go_upto_region 4 with fail;go_cut [6] from 24 to 31 (λc wx=>∃(bl g:Nat) (lb:Array X3) (cv:ae),c=.pointer (O (aD bl 0))/\M (H B)<=bl/\GB wx bl 194 #[.func (.func g) #[] lb,cv.val]/\Ed V w0 XL B g lb cv wx)
 case first=>
  refine wH B λd=>?_;refine wA6 0 d ?_;refine sN 6 d ?_;refine wJ 7 8 (λK i=>?_) λK i=>?_
  .skip;go_simp;refine(HL.o _ (az ax.o d)).mono ?_;rintro e y ⟨g,lb,⟨lQ,dE,fM⟩,rfl,aM,D,t⟩;simp only[ae.val];refine oT i d aM λd=>?_
   clear i K;refine wR 8 λK i=>?_;go_simp;refine oA i d λbT=>?_;clear i K;obtain⟨y2,A⟩:∃z,y.alloc (EP #[Value.nilFunc,Z xn 0 0] 194)=z:=⟨_,rfl⟩;have aX:=dN y (EP #[Value.nilFunc,Z xn 0 0] 194);have Io:=GB.alloc y #[Value.nilFunc,Z xn 0 0] 194;rw[A]at aX Io bT;rw[A];clear A;have L:M (H B)<=M (H y):=d.size;have S:GB y2 (M (H y)) 194 #[Value.nilFunc,Z xn 0 0]:=Io;have aQ:=jZ (P:=V) (w0:=w0) (w:=B) (y:=y2) (R:=M (H y)) (g:=g) (lb:=lb) (c:=⟨lQ,dE,fM⟩) (X:=XL) bT L S D (λW h0 hW=>t W h0 (Kept.trans' (QB aX λ_ h _=>h) hW λb hb hs=>⟨hs,by show b≠_;omega⟩));obtain⟨kE,gE,G⟩:=aQ;obtain⟨z0,z1⟩:=S.k2;have y0:=S.frozen 0;have y1:=S.frozen 1;have Wh:=λ(a:Addr) (c:Array X3) (w:U)=>run_store V w a (.func (.func g) #[] c) .plain rfl;obtain⟨q9,zn⟩:=aJ G gE;clear G gE S t D;refine wR 9 λK i=>?_;go_simp;refine i.o _ _ q9.o.1 (λd=>?_);clear i K;refine wD ?_;try simp only[pU]
   go_wp2_with fail;go_meet;exact⟨M (H y),g,lb,⟨lQ,dE,fM⟩,rfl,L,zn.o,q9.o⟩
  .skip;go_simp;refine oA i d λd=>?_
   clear i K;obtain⟨y2,A⟩:∃z,B.drew.alloc (EP #[Value.nilFunc,Z xn 0 0] 194)=z:=⟨_,rfl⟩;have di:M (H y2)=M (H B)+1:=by rw[<-A];simp
   have Io:GB y2 (M (H B)) 194 #[Value.nilFunc,Z xn 0 0]:=by rw[<-A];exact GB.alloc B.drew _ _
   have aY:Bw B y2:=by rw[<-A];exact d
   rw[A];clear A d;refine wR 7 λK i=>?_;go_simp;refine(HL.o _ (az ax.o aY)).mono ?_;rintro e y ⟨g,lb,⟨lQ,dE,fM⟩,rfl,aM,D,t⟩;simp only[ae.val];refine oT i aY aM λd=>?_;clear i K;have L:M (H B)<=M (H B):=(Qn _);have S:GB y (M (H B)) 194 #[Value.nilFunc,Z xn 0 0]:=Io.of (aM.block _ Io.lt);have aQ:=jZ (P:=V) (w0:=w0) (w:=B) (y:=y) (R:=M (H B)) (g:=g) (lb:=lb) (c:=⟨lQ,dE,fM⟩) (X:=XL) d L S D (λW h0 hW=>t W h0 (Kept.mono hW λb _ h=>⟨by omega,by have h':M (H y2)<=b:=h;omega⟩));obtain⟨kE,gE,G⟩:=aQ;obtain⟨z0,z1⟩:=S.k2;have y0:=S.frozen 0;have y1:=S.frozen 1;have Wh:=λ(a:Addr) (c:Array X3) (w:U)=>run_store V w a (.func (.func g) #[] c) .plain rfl;obtain⟨q9,zn⟩:=aJ G gE;clear G gE S t D;refine wR 9 λK i=>?_;go_simp;refine i.o _ _ q9.o.1 (λd=>?_);clear i K;refine wD ?_;try simp only[pU]
   go_wp2_with fail;go_meet;exact⟨M (H B),g,lb,⟨lQ,dE,fM⟩,rfl,L,zn.o,q9.o⟩
 case rest=>
 obtain⟨bl,g,lb,cv,rfl,L,bO,Q,D,t⟩:=hcut;obtain⟨w4,cu⟩:∃x,x=wc:=⟨_,rfl⟩;subst cu;obtain⟨k3,k4,k5,k0⟩:=alA Q bL bM bN nQ;clear bG bI bJ b0 b1 b2 b3 b4 b5 b6 Sw Sy Sz SA SC SE SF fZ iy jd iK iL je jf jR jy jA dS eP dU mZ nS nT nQ oW pg qV qg rZ sj bL bM bN bX;obtain⟨f0,f1⟩:=bO.k2;obtain⟨sK,bQ⟩:=aJ (az ax.o Q) (az Sv.o Q);obtain⟨Kt,Dv⟩:=aJ (t w4 sK.o (Qy _ _)) D;obtain⟨JV,JW,Ee⟩:=cv;simp only[ae.val]at*;have hR:=HR.o;have vU:=Zh λ(x:U) (cs:ae) (hx:Bw w4 x) (hc:cs.At x) (bU:∀y∈cs.xs,y∈XL.2) (hl:N cs.xs<=1000)=>EN (.func (.func g) #[] lb) ⟨JV,JW,Ee⟩ cs x ⟨g,lb,rfl⟩ (Qo hx Kt.o.2.1) hc (λy hy=>by grind) hl;have aR:=Zh λ(cs:List Int) (bU:∀y∈cs,y∈XL.2) (r:List Int) (hr:r∈XL.1)=>show aS (aK Ee cs) (N r)=T by rw[Dv.o,HR.o.lens r hr];exact Ho rfl bU
 simp only[ae.val]at vU;clear t D Q L bO hR;by_cases h9:nk=9
 .have H9:=Zh (aI.o h9);clear aH Sr aI;subst h9;go_upto_region 10 with fail;refine wH w4 λd=>?_
  refine wA5 0 d ?_;obtain⟨eX,h1,h2⟩:=H9.o;have aa:=vU.o w4.drew ⟨ea,ec,bE⟩ d (Qo (az sK.o d) HQ.o.bE) h1 (by show N bE<=1000;omega);refine wR 5 λK i=>?_;go_simp;refine aa.mono ?_;rintro e w5 ⟨⟨ia,ic,ix⟩,rfl,j,aA,ay,-⟩;simp only[ae.val];refine oT i d ay λd=>?_;clear i K aa;simp only at j;have hg:=zP (.func (.func g) #[] lb) ⟨ia,ic,ix⟩ XL.1 w5 (dh.later Kt.o.1 d) aA.1 (by show N ix<=1000;rw[j];simp[aK];omega) (λr hr=>by show aS ix _=T;rw[j];exact aR.o bE h1 r hr);simp only[ae.val]at hg;have UU:=Zh j;clear j;refine wR 6 λK i=>?_;go_simp;refine hg.mono ?_;rintro e w7 ⟨v',rfl,C,mO⟩;refine oT i d mO λd=>?_;clear i K hg;obtain⟨HV,HS,HX⟩:=dQ C d eX;clear C eX aA;refine sN 7 d ?_;refine wD ?_;try simp only[pU]
  go_wp2_with fail;go_ret;refine⟨v',rfl,?_,az bQ.o HS.o⟩;have h:=HV.o;rw[UU.o,Dv.o]at h;rw[HX.o];exact h
 have aZ:nk=7∨nk=8:=by omega
 have H7:=Zh (aH.o aZ);clear aH aI hk;rcases aZ with rfl|rfl
 case' inl=>
  have HM:=Zh λ(k s:ae) (x:U) (hx:Bw w4 x)=>EW (.func (.func g) #[] lb) k s XL.1 x (dh.later Kt.o.1 hx);have HE:=Zh (Eq.refl (dW (aK XL.2 m) (aK XL.2 p) XL.1));clear Sr;go_upto_region 7 with fail
 case' inr=>
  have HM:=Zh λ(k s:ae) (x:U) (hx:Bw w4 x)=>Ox (.func (.func g) #[] lb) k s XL.1 x (dh.later Kt.o.1 hx);have HE:=Zh (Sr.o rfl);clear Sr;go_upto_region 9 with fail
 all_goals
  refine wH w4 λd=>?_;refine wA5 0 d ?_;refine wA3 6 d ?_;obtain⟨eX,h1,h2,h3,h4⟩:=H7.o;have aa:=vU.o w4.drew ⟨ka,kc,m⟩ d (Qo (az sK.o d) HQ.o.keys) h1 (by show N m<=1000;omega);refine wR 5 λK i=>?_;go_simp;refine aa.mono ?_;rintro e w5 ⟨⟨ia,ic,ix⟩,rfl,j,aA,ay,-⟩;simp only[ae.val];refine oT i d ay λd=>?_;clear i K aa;have bV:=Zh j;clear j;have bf:=vU.o w5 ⟨ua,uc,p⟩ d (Qo (az sK.o d) HQ.o.sums) h2 (by show N p<=1000;omega);refine wR 9 λK i=>?_;go_simp;refine bf.mono ?_;rintro e w6 ⟨⟨ja,jc,jx⟩,rfl,aB,bR,bS,-⟩;simp only[ae.val];refine oT i d bS λd=>?_;clear i K bf;have j:=bV.o;simp only at j aB;have hg:=HM.o ⟨ia,ic,ix⟩ ⟨ja,jc,jx⟩ w6 d (Qo bS aA.1) bR.1 (by show N ix<=4;rw[j];simpa [aK] using h3) (by show N jx<=4;rw[aB];simpa [aK] using h4) HR.o.few (λr hr=>by show aS ix _=T;rw[j];exact aR.o m h1 r hr) (λr hr=>by show aS jx _=T;rw[aB];exact aR.o p h2 r hr) HR.o.small;simp only[ae.val]at hg;obtain⟨UU,cz⟩:=aJ j aB;clear j aB;refine wR 10 λK i=>?_;go_simp;refine hg.mono ?_;rintro e w7 ⟨v',rfl,C,mO⟩;refine oT i d mO λd=>?_;clear i K hg;obtain⟨HV,HS,HX⟩:=dQ C d eX;clear C eX aA bR;refine sN 11 d ?_;refine wD ?_;try simp only[pU]
  go_wp2_with fail;go_ret;refine⟨v',rfl,?_,az bQ.o HS.o⟩;have h:=HV.o;rw[UU.o,cz.o,Dv.o]at h;rw[HX.o]
  first|exact h|(rw[<-HE.o];exact h)
theorem TD{a b m:List Int}:∀{l:List Int},dL a b (l++m)=if dL a b l=0 then dL a b m else dL a b l
 |[]=>rfl
 |p::l=>by have ih:=TD (a:=a) (b:=b) (m:=m) (l:=l);grind [dL]
theorem gM.start{v:dX}{Fq:List (List Int) × List Int}{ref:List (List Int)}(h:gM ts q db v Fq ref){ks:List Int}(hs:aQ v.order ks=T):bO (DI (aK Fq.2 ks)) Fq.1:=by unfold aQ at hs;simp only[Qj,ZW]at hs;refine h.sorted.imp λ{a b} h=>?_;rw[<-Zx (N ks) v.order,hs.2]at h;unfold aK at*;rw[Qi]at h;unfold DI at*;rw[TD]at h;grind
theorem II{f:aF}{ts:List ah}{q:af}{po:Option Addr}{pc:Nat}{pl:List ai}{pa:Option Addr}{pac:Nat}{ps:List aG}{d:Option Addr}{dc:Nat}{db:List aP}{w0:U}(Hq:Oo f ts q po pl pa ps d db w0)(oo:aam ts q)(hkl:N q.keys.xs<=4)(hul:N q.sums.xs<=4)(hel:N q.bE.xs<=8)
  (hor:∀i v,i<N pl->dw ts q pl i=O v->v.out=T->N (nC ts q pl db (i+1) i)<=1000000/\∀r∈nC ts q pl db (i+1) i,aS q.ord.xs (N r)=T):∀(Fq i:Nat) (v:dX),i<Fq->i<N pl->dw ts q pl i=O v->v.out=T->∀w,Bw w0 w->
  Calls V 68 #[FL (jK f ts q (Z po (N pl) pc) (Z pa (N ps) pac) (Z d (N db) dc)),FL (E pl i nz).cells] w λe z=>∃v,e=FN v/\qi V 3 v (nC ts q pl db Fq i) z/\Bw w z
 |0,_,_,h,_,_,_=>by omega
 |Fq+1,i,v,hi,hil,hv,hout=>λw m=>by
  have ok:=Hq.ok;rcases iV ts q pl hv with⟨g,n,hs,B,C,k⟩|⟨k2,k10,k3,k4,k5,hl0,Kg,l,hl,hn⟩|⟨k3,k5,hl0,Kg,hr0,hri,l,r,hl,hr,hn⟩
  .rw[hout]at k;cases k
  .obtain⟨_,k,_,A,b,B,C,p,_⟩:=XM ts q hn;rw[hout]at p;have D:=Xa p.symm;unfold oF at b;rw[ZU (by omega),ZU (by omega),ZU (by omega)]at b;refine afP f ts q po pc pl pa pac ps _ (E pl i nz) (E pl i nz).l.toNat w0 w m Hq.facts Hq.nodes (by omega) (by omega) (bI ts q pl db Fq (E pl i nz).l.toNat) _ (nC ts q pl db Fq (E pl i nz).l.toNat) (λg x t=>?_) (λg x t=>?_) (λg=>?_) (λg=>?_) (λg=>?_) (λg=>?_) (λg=>?_) (by omega)
   .have a:l.out=false:=by grind
    exact Cx Hq Fq _ l (by omega) (by omega) hl a x t
   .exact II Hq oo hkl hul hel hor Fq _ l (by omega) (by omega) hl (k.2 g) x t
   .have u:nC ts q pl db Fq (E pl i nz).l.toNat=nC ts q pl db ((E pl i nz).l.toNat+1) (E pl i nz).l.toNat:=acy ts q pl db hl (k.2 g) _ _ (by omega) (by omega);have y:=hor _ l (by omega) hl (k.2 g);rw[ZU (by omega),ZU (by omega),ZU (by omega),Zt g,ZW]at b;refine⟨?_,b,by rw[u];exact y.1,by rw[u];exact y.2⟩
    conv=>lhs;unfold nC
    rw[Zt g]
   .have a:l.out=false:=by grind
    rw[ZU (by omega),Zt g,Qj]at b;exact Ke ((jQ ok pl Hq.Wx Fq (E pl i nz).l.toNat l (by omega) hl a).start b.2)
   .have a:l.out=false:=by grind
    have j:=jQ ok pl Hq.Wx Fq (E pl i nz).l.toNat l (by omega) hl a;have m:qB q l=true:=by grind
    refine⟨?_,j.every ok m oo.keys,j.every ok m oo.sums,hkl,hul⟩
    conv=>lhs;unfold nC
    grind
   .have a:l.out=false:=by
     cases e:l.out with
     |false=>rfl
     |true=>have:=k.1 e;omega
    have j:=jQ ok pl Hq.Wx Fq (E pl i nz).l.toNat l (by omega) hl a;rw[ZU (by omega),ZU (by omega),Zt g,Qj]at b;refine⟨?_,j.every ok b.2 oo.bE,hel⟩
    conv=>lhs;unfold nC
    rw[ZU (by omega),Zt g]
   .have a:l.out=false:=by grind
    have j:=jQ ok pl Hq.Wx Fq (E pl i nz).l.toNat l (by omega) hl a;have n:=j.aaA ok Hq.five Hq.many;exact⟨n.1,n.2.1,j.lens,n.2.2⟩
  .obtain⟨_,_,_,_,_,_,_,p,_⟩:=XM ts q hn
   grind
def anz(f:aF)(ts:List ah)(q:af):∃(a0 a1 a3 a4 a5 a6 a7 nA oC a12:Option Addr) (n0 n1 n3 n4 n5 n6 n7 n10 n11 n12 n8 n9 c0 c1 c3 c4 c5 c6 c7 c10 c11 c12:Nat) (b2:Bool),f.cells ts q=#[Z a0 n0 c0,Z a1 n1 c1,Wl b2,Z a3 n3 c3,Z a4 n4 c4,Z a5 n5 c5,Z a6 n6 c6,Z a7 n7 c7,I Vo (n8:Int),I Vo (n9:Int),Z nA n10 c10,Z oC n11 c11,Z a12 n12 c12]:=⟨_,_,_,_,_,_,_,_,_,_,_,_,_,_,_,_,_,_,_,_,_,_,_,_,_,_,_,_,_,_,_,_,_,rfl⟩
def OE(f:aF)(ts:List ah)(q:af)(po:Option Addr)(pc:Nat)(pl:List ai)(pa:Option Addr)(pac:Nat)(ps:List aG)(d:Option Addr)(dl dc:Nat)(X:List (List Int))(w:U)(hn:fP w po pl)(h1:1<=N pl)
  (ho:∀x,Bw w x->Calls V 68 #[FL (jK f ts q (Z po (N pl) pc) (Z pa (N ps) pac) (Z d dl dc)),FL (E pl (N pl-1) nz).cells] x λe D=>∃v,e=FN v/\qi V 3 v X D/\Bw x D) :
  Calls V 38 #[FL (f.cells ts q),Z po (N pl) pc,Z pa (N ps) pac,Z d dl dc] w λe D=>∃v,e=FN v/\qi V 3 v X D/\Bw w D:=by
 obtain⟨a0,a1,a3,a4,a5,a6,a7,nA,oC,k,n0,n1,n3,n4,n5,n6,n7,m,n,p,n8,n9,c0,c1,c3,c4,c5,c6,c7,t,u,y,b2,cK⟩:=anz f ts q;obtain⟨G,L,aa,P,Q,R,S,W,SE,SF,-,-⟩:=hn.2 (N pl-1) (by omega);subst aa;have EK:jK f ts q (Z (O (aD G L)) (N pl) pc) (Z pa (N ps) pac) (Z d dl dc)=#[Z a0 n0 c0,Z a1 n1 c1,Wl b2,Z a3 n3 c3,Z a4 n4 c4,Z a5 n5 c5,Z a6 n6 c6,Z a7 n7 c7,I Vo (n8:Int),I Vo (n9:Int),Z nA m t,Z oC n u,Z k p y,Z (O (aD G L)) (N pl) pc,Z pa (N ps) pac,Z d dl dc]:=by unfold jK;rw[cK];rfl
 have Wv:(E pl (N pl-1) nz).cells=#[I J (E pl (N pl-1) nz).kind,I J (E pl (N pl-1) nz).l,I J (E pl (N pl-1) nz).r,I J (E pl (N pl-1) nz).source,(E pl (N pl-1) nz).cl.val,I J (E pl (N pl-1) nz).key,(E pl (N pl-1) nz).co.val]:=rfl;rw[EK,Wv]at ho;rw[cK];obtain⟨w1,ae,z,A⟩:=aL w #[Z a0 n0 c0,Z a1 n1 c1,Wl b2,Z a3 n3 c3,Z a4 n4 c4,Z a5 n5 c5,Z a6 n6 c6,Z a7 n7 c7,I Vo (n8:Int),I Vo (n9:Int),Z nA m t,Z oC n u,Z k p y] 90;obtain⟨w2,B,C,b⟩:=aL w1 #[Z a0 n0 c0,Z a1 n1 c1,Wl b2,Z a3 n3 c3,Z a4 n4 c4,Z a5 n5 c5,Z a6 n6 c6,Z a7 n7 c7,I Vo (n8:Int),I Vo (n9:Int),Z nA m t,Z oC n u,Z k p y,Z (O (aD G L)) (N pl) pc,Z pa (N ps) pac,Z d dl dc] 149;have i:=az z C;obtain⟨k0,k1,k2,k3,k4,k5,k6,k7,k8,k9,av,ax,ay⟩:=A.oh;obtain⟨fZ,iy,jd,iK,iL,je,jf,jR,jy,jA,dS,eP,dU⟩:=b.oh;have mZ:=b.at 13;have nS:=b.at 14;have nT:=b.at 15;obtain⟨P,Q,R,S,W⟩:=qA i P Q R S W;obtain⟨SE,SF⟩:=nH i SE SF;obtain⟨a,hN⟩:∃a:Nat,a=N pl-1:=⟨_,rfl⟩;rw[<-hN]at ho P Q R S W SE SF;have j:N pl=a+1:=by omega
 have aj:=hn.1;obtain⟨HO,HC⟩:=aJ ho i;rw[j]at B;rw[j]at HO;rw[j]at mZ;rw[j];clear ho hn cK EK Wv z C A b i hN;have ak:IntKind.i64.wrap (a:Int)=(a:Int):=by rw[XE];omega
 have au:¬((a:Int)+1<=(a:Int)):=by omega
 generalize (E pl a nz).kind=l0 at*;generalize (E pl a nz).l=l1 at*;generalize (E pl a nz).r=l2 at*;generalize (E pl a nz).source=l3 at*;generalize (E pl a nz).cl.val=l4 at*;generalize (E pl a nz).key=l5 at*;generalize (E pl a nz).co.val=l6 at*;go_enter Tryz.func38,Tryz.ntmps38;go_upto_region 2 with fail;clear ae B;refine wH w2 λg=>?_;refine wA3 0 g ?_;refine wt 3 (I J ((a+1:Nat):Int)) g ?_;refine wt 4 (I J (a:Int)) g ?_;refine wt 5 (.pointer (O (aD G (L+a*7)))) g ?_;refine wT 6 (FL #[I J l0,I J l1,I J l2,I J l3,l4,I J l5,l6]) g (λx hx=>?_) ?_
 .have e0:=tO hx P Q R S W SE SF;go_simp
 refine wR 7 λK hK=>?_;go_simp;refine(HO.out _ (az HC.out g)).mono ?_;rintro e w3 ⟨v,rfl,hv,ag⟩;refine oT hK g ag λg=>?_;clear hK K;obtain⟨HV,HS⟩:=aJ hv g;clear hv;refine sN 8 g ?_;refine wD ?_;try simp only[pU]
 go_wp2_with fail;go_ret;exact⟨v,rfl,HV.out,az HC.out HS.out⟩
def CX(h:q.check ts=0):aam ts q/\aS q.ord.xs (tN q.group q.keys.xs q.sums.xs q.bE.xs)=true:=by obtain⟨_,_,_,_,_,a⟩:=iM h;unfold rF at a;simp only[Qj]at a;exact⟨⟨a.1.1.1.1.1.1.1,a.1.1.1.1.1.1.2,a.1.1.1.1.1.2⟩,a.1.1.1.1.2⟩
theorem KF(co d:Option Addr)(cc sJ:Nat)(ts:List ah)(q:af)(db:List aP)(po:Option Addr)(pc:Nat)(pl:List ai)(w:U)(hts:bu w co ts)(hq:q.At w)(hkc:N q.keys.xs<=q.keys.cap)(hoc:N q.ord.xs<=q.ord.cap)(mX:uG w d db)(hn:fP w po pl)(hsh:bR w 0)(hcap:∀i,i<N pl->(E pl i nz).co.xs.length<=(E pl i nz).co.cap)
  (ko:q.check ts=0) (hdat:sQ ts q.src.xs db=T) (ds:List bN) (hlk:jD ts q pl=O ds) :
  Calls V 18 #[Z co (N ts) cc,FL q.cells,Z po (N pl) pc,Z d (N db) sJ] w λe w'=>∃(v:X3) (ys:List ae) (o:Nat->Prop) (G:U),e=FN (.tuple #[v,I J 0])/\ys.map ae.xs=nC ts q pl db (N pl) (N pl-1)/\
   fe (kg 3 (M (H G))) (M (H G)) G 22 ys o w' v/\Bw w G:=by
 obtain⟨p1,p2,p3,p4,p5,p6⟩:=iM ko;have D:=su p2;have u:=(xN ko).1;have ok:=u.ok;have b:(N db=N ts/\zC ts db=T)/\gL q.src.xs db<=20000:=by unfold sQ at hdat;grind
 obtain⟨oo,aI⟩:=CX ko;obtain⟨h1,aJ,S,v,W,X⟩:=Aw ok hlk;have z:∀i v,i<N pl->dw ts q pl i=O v->v.out=T->N (nC ts q pl db (i+1) i)<=1000000/\∀r∈nC ts q pl db (i+1) i,aS q.ord.xs (N r)=true:=λi v _ W X=>by have p:=aaK ok pl b.1.2 b.2 (i+1) i v (by omega) W X;grind
 have K:=Zh λ(f:aF) (a:Option Addr) (c:Nat) (ps:List aG) (x:U) (m:Bw w x) (aR:f.At ts q x) (aT:bY x a ps) (Dw:ps.map aG.d=ds)=>OE f ts q po pc pl a c ps d (N db) sJ (nC ts q pl db (N pl) (N pl-1)) x (hn.below m) h1 λy hy=>II (dc:=sJ) (pc:=pc) (pac:=c) (f:=f) (po:=po) (pa:=a) (ps:=ps) (d:=d) (w0:=x) ⟨ok,D.1,u.three,λi hi c hc=>by obtain⟨k,hk,rfl⟩:=Qq hc;have h:=CE p5 hi hk;grind,aR,hn.below m,aT,by have:=congrArg N Dw;rw[Zm]at this;omega,by rw[Dw];exact S,mX.below m,b.1.1,b.1.2,b.2⟩ oo D.2.2.2.1 D.2.2.2.2.1 D.2.2.1 z (N pl) (N pl-1) v (by omega) (by omega) W X y hy;have aB:Hid (N (nC ts q pl db (N pl) (N pl-1))<=1000000):=by have h:=(z (N pl-1) v (by omega) W X).1;rw[show N pl-1+1=N pl by omega]at h;exact h
 obtain⟨G,aK,g,aa⟩:=aL w q.cells 26;obtain⟨g0,g1,g2,g3,g4,g5,g6⟩:=aa.k7;have L:=zR co cc ts q po pc pl G (hts.below g) (hq.below g) hkc hoc (hn.below g) (Ja g hsh) hcap ko hlk;have aC:=Zh λ(x:U) (m:Bw w x)=>Iz co cc ts q d sJ db x (hts.below m) (Qo m hq.src) (mX.1.below m) p3 D.1 hdat;have aD:=Zh g;clear z S aJ hlk hdat ko hts hq hkc hoc mX hn hsh hcap u ok oo aI p1 p2 p3 p4 p5 p6 D b W X aa g;generalize nC ts q pl db (N pl) (N pl-1)=OUT at*;simp only[af.cells,ae.val]at*;go_enter Tryz.func18,Tryz.ntmps18;go_wp2_with fail;refine L.mono ?_;rintro e w2 ⟨B,f,a,c,ps,rfl,ag,Lv,Dw⟩;have t:=az aD.out B;obtain⟨a7,n7,c7,n8,n9,nA,aU,aV,oC,aW,aX,aY,aZ,bf,cK⟩:=WZ f ts q;obtain⟨w3,aj,l,C⟩:=aL w2 (f.cells ts q) 90;have Ow:=az t l;have A:=K.out f a c ps;rw[cK]at A aj C ⊢;have aH:=Zh λ(x:U) (m:Bw w3 x)=>A x (az Ow m) (ag.below (az l m)) (Lv.below (az l m)) Dw;obtain⟨k0,k1,k2,k3,k4,k5,k6,k7,k8,k9,ak,au,av⟩:=C.oh;have e6:=az B l;have d:=tO e6 g0 g1 g2 g3 g4 g5 g6;have P:=aC.out w3 Ow;have Il:=Zh Ow;clear L g0 g1 g2 g3 g4 g5 g6 A ag Lv Dw cK B t Ow l C e6 aK K;go_wp2_with fail;refine XX P ?_;rintro e w4 ⟨rfl,n⟩;have j:=vM n k0 k1 k2 k3 k4 k5 k6 k7 k8 k9 ak au av;have Q:=aH.out w4 n;have oJ:=Zh (az Il.out n);clear P d k0 k1 k2 k3 k4 k5 k6 k7 k8 k9 ak au av n aj;go_wp2_with fail;refine Q.mono ?_;rintro e w5 ⟨v5,rfl,aM,aN⟩;have WA:=az oJ.out aN;obtain⟨g5,aO,rfl,ax,ay⟩:=aM;have R:=rH (kg 3 (M (H w5))) (λ_=>rfl) g5 aO OUT w5 w5 (Qm _ _) aB.out ay ax;clear Q j ay ax;go_wp2_with fail;refine R.mono ?_;rintro e w6 ⟨v6,ys,o6,rfl,aQ,aA⟩;obtain⟨va,vn,vc,rfl⟩:=Zc aA.own;clear R;go_wp2;go_ret2;exact⟨_,ys,o6,w5,rfl,aQ,aA,WA⟩
def ajL(rows:List (List Int)):bO (DI []) rows:=List.pairwise_of_forall λ_ _=>rfl
def Mw(ko:q.check ts=0)(hdat:sQ ts q.src.xs db=T){n:Nat}(hn:tN q.group q.keys.xs q.sums.xs q.bE.xs=(n:Int))(hp:X.Perm (lN q ((bz q.src.xs db).filter (dR q.wh))))(hs:bO (DI q.ord.xs) X):Rp q n X:=by
 have a:gL q.src.xs db<=20000:=by unfold sQ at hdat;simp only[Qj,ZW]at hdat;exact hdat.2
 refine⟨?_,λr b=>?_,?_,hs⟩
 .rw[hp.length_eq];have d:=E8 q ((bz q.src.xs db).filter (dR q.wh));have e:=XN (dR q.wh) (bz q.src.xs db);have f:=Cz q.src.xs db;omega
 .have:=CG q _ r (hp.mem_iff.1 b);rw[hn]at this;omega
 .rw[<-hn];exact(CX ko).2
def CY(q:af)(db:List aP):(pK q db).Perm (lN q ((bz q.src.xs db).filter (dR q.wh))):=by unfold pK fA;exact uX _ _
def xO{w w':U}{e:Ending}(hl:N X<=1000000)(h:∃(v:X3) (ys:List ae) (o:Nat->Prop) (a:U),e=FN (.tuple #[v,I J 0])/\ys.map ae.xs=X/\fe (kg 3 (M (H a))) (M (H a)) a 22 ys o w' v/\Bw w a):Hd X w e w':=by obtain⟨v,ys,o,a,rfl,b,d,f⟩:=h;obtain⟨g,cap,rfl,i⟩:=d.rows (λy j=>j.1.1.1) (by have:=congrArg N b;rw[Zm]at this;omega);exact⟨g,cap,ys,rfl,i,b,az f d.below⟩
def Ei{a b a' b':List Int}:∀{ps ps':List Int},N ps=N ps'->(∀j,j<N ps->E a (E ps j 0).toNat 0=E a' (E ps' j 0).toNat 0/\E b (E ps j 0).toNat 0=E b' (E ps' j 0).toNat 0)->dL a b ps=dL a' b' ps'
 |[],[],_,_=>rfl
 |p::ps,p'::ps',hl,h=>by have h0:=h 0 (by simp);have ht:=Ei (ps:=ps) (ps':=ps') (by simpa using hl) (λj hj=>by simpa using h (j+1) (by simpa using hj));simp only[List.getD_cons_zero]at h0;unfold dL;rw[h0.1,h0.2,ht]
def Mx(kc sc r:List Int)(rs:List (List Int)):∃t,oI kc sc ((r::rs).filter λx=>decide (au x kc=au r kc))=au r kc++t:=by unfold oI;rw[XB (by simp),List.headD_cons,ZE];exact⟨_,rfl⟩
def TE{kc sc:List Int}:∀{n:Nat} {rows:List (List Int)} {g:List Int},g∈jY kc sc n rows->∃r∈rows,∃t,g=au r kc++t
 |0,_,_,h=>by simp[jY]at h
 |_+1,[],_,h=>by simp[jY]at h
 |n+1,r::rs,g,h=>by
  unfold jY at h;rcases Z0.1 h with h|h
  .obtain⟨t,e⟩:=Mx kc sc r rs;exact⟨r,by simp,t,h.trans e⟩
  .obtain⟨x,hx,t,e⟩:=TE h;exact⟨x,(ZY.1 hx).1,t,e⟩
theorem TG{kc sc os:List Int}(hl:N os<=N kc)(hc:pJ os=T):∀(n:Nat) {rows:List (List Int)},(rows.Pairwise λa b=>dL a b kc<=0)->(jY kc sc n rows).Pairwise λa b=>dL a b os<=0
 |0,_,_=>by simp[jY]
 |_+1,[],_=>by simp[jY]
 |n+1,r::rs,h=>by
  unfold jY;refine Xe.2 ⟨λg hg=>?_,TG hl hc n (h.filter _)⟩;obtain⟨x,hx,t,rfl⟩:=TE hg;have hle:dL r x kc<=0:=by
   rcases Z0.1 (ZY.1 hx).1 with h'|h'
   .rw[h',DY];omega
   .exact(Xe.1 h).1 x h'
  obtain⟨t',e⟩:=Mx kc sc r rs;rw[e,Ei (ps':=kc.take (N os)) (a':=r) (b':=x) (by simp;omega) (λj hj=>?_)]
  .exact Rk hle
  .unfold pJ at hc;have hj':=Xa (Qk.1 hc j (ZZ.2 hj));have hk:j<N kc:=by omega
   rw[hj'];have e2:E (kc.take (N os)) j 0=kc[j]:=by grind
   rw[e2];constructor <;> simp[au,List.getD,List.getElem?_append,hk]
theorem agk(ko:q.check ts=0)(mX:zC ts db=T)(Hr:gL q.src.xs db<=20000)(hlk:jD ts q pl=O ds):bO (DI q.ord.xs) (gJ ts q pl db (N pl) (N pl-1)):=by
 have ok:=(xN ko).1.ok;have L:=(CX ko).1;have f:=(CX ko).2;obtain⟨h1,X,t,v,D,V7⟩:=Aw ok hlk;have a:jC q (E pl (N pl-1) nz).kind (E ds (E pl (N pl-1) nz).l.toNat pz).order=true:=by
  unfold jD at hlk;split at hlk
  .cases hlk
  .cases hp:fG ts q pl (N pl) with
   |none=>rw[hp]at hlk;cases hlk
   |some ps =>
    rw[hp]at hlk;simp only[Option.bind_some]at hlk;split at hlk
    .rename_i h
     injection hlk with hlk;rw[Qj]at h;rw[<-hlk];exact h.2
    .cases hlk
 obtain⟨m,hm⟩:∃m,N pl=m+1:=⟨N pl-1,by omega⟩;by_cases K:N q.ord.xs=0
 .rw[Qs K];exact ajL _
 by_cases r:(E pl (N pl-1) nz).kind=10
 .exact(Hw ok L pl mX (iM ko).2.2.2.1 Hr (N pl) (N pl-1) v (by omega) D V7).2 r
 unfold jC at a;rw[ZU K,ZU r]at a;rcases iV ts q pl D with⟨hk1,_⟩|⟨k2,k10,k3,k4,k5,hl0,Kg,l,hl,hn⟩|⟨k3,k5,_⟩
 .simp_all
 .obtain⟨_,ho,_,aa,e,es,eo,nD,_⟩:=XM ts q hn;have g:l.out=false:=by simp_all
  rw[hm]at r a e hn hl hl0 Kg ⊢;simp only[Nat.add_sub_cancel]at r a e hn hl hl0 Kg ⊢;have d:=jQ ok pl mX m (E pl m nz).l.toNat l (by omega) hl g;have P:(E ds (E pl m nz).l.toNat pz).order=l.order:=by obtain⟨u,n,z,_⟩:=t (E pl m nz).l.toNat (by omega);rw[hl]at n;injection n with n;rw[n];exact z.order (n ▸ g)
  rw[P]at a
  conv=>rhs;unfold gJ
  generalize bI ts q pl db m (E pl m nz).l.toNat=Fq at d ⊢;generalize gJ ts q pl db m (E pl m nz).l.toNat=G at d ⊢;rw[rR];by_cases A:(E pl m nz).kind=9
  .rw[Zt A]at a;rw[ZU (by omega),ZU (by omega),ZU (by omega),Zt A,d.same,Z9,List.pairwise_map];have Q:q.group=false:=by unfold oF at e;grind
   have i:=d.start a;rw[rR]at i;refine i.imp λ{x y} h=>?_;have b:∀c∈iH q,c∈l.order:=λc p=>by unfold aQ at a;grind
   rw[<-BJ λc p=>d.inC (d.ord c (b c p))]at h;refine Int.le_trans (Int.le_of_eq (Ei (by simp[iH]) λj hj=>?_)) h;unfold aS tN at f;rw[Qk]at f;have B:=f q.ord.xs[j] (Zv hj);simp only[Q,Qj,ZW]at B;have R:(q.ord.xs[j]).toNat<N q.bE.xs:=by simp at B;omega
   have S:E q.ord.xs j 0=q.ord.xs[j]:=by grind
   have W:E (iH q) j 0=E q.bE.xs (q.ord.xs[j]).toNat 0:=by unfold iH;grind
   rw[S,W];constructor <;> simp[au,List.getD,R]
  .rw[ZU A]at a;have C:(E pl m nz).kind=8:=by grind
   rw[Zt C,Qj,ZW]at a;rw[ZU (by omega),ZU (by omega),Zt (.inr C)];unfold kK;have k:aQ l.order q.keys.xs=true:=by unfold oF at e;grind
   split
   .exact Zf _ _
   .refine TG a.1 a.2 _ ?_;have i:=d.start k;rw[rR]at i;rw[d.same,List.pairwise_map];refine i.imp λ{x y} h=>?_
    have b:∀c∈q.keys.xs,c∈l.order:=λc p=>by unfold aQ at k;grind
    rw[<-BJ λc p=>d.inC (d.ord c (b c p))]at h;exact h
 .rw[ZU (by omega),ZU (by omega)]at a
  cases a
def acQ(ko:q.check ts=0)(hdat:sQ ts q.src.xs db=T)(hlk:jD ts q pl=O ds):(nC ts q pl db (N pl) (N pl-1)).Perm (lN q ((bz q.src.xs db).filter (dR q.wh)))/\bO (DI q.ord.xs) (nC ts q pl db (N pl) (N pl-1)):=by
 have ok:=(xN ko).1.ok;have b:=(CX ko).1;have a:(N db=N ts/\zC ts db=T)/\gL q.src.xs db<=20000:=by unfold sQ at hdat;simp only[Qj,ZW]at hdat;exact hdat
 obtain⟨f,_,_,v,d,e⟩:=Aw ok hlk;rw[aeN ok b pl a.1.2 a.2 (N pl) (N pl-1) v (by omega) d e];exact⟨(Hw ok b pl a.1.2 (iM ko).2.2.2.1 a.2 (N pl) (N pl-1) v (by omega) d e).1,agk ko a.1.2 a.2 hlk⟩
def OG(co d po:Option Addr)(cc dc pc:Nat)(ts:List ah)(q:af)(db:List aP)(pl:List ai)(w:U)(hts:bu w co ts)(hq:q.At w)(hkc:N q.keys.xs<=q.keys.cap)(hoc:N q.ord.xs<=q.ord.cap)(hsc:N q.src.xs<=q.src.cap)(mX:uG w d db)(hn:fP w po pl)(hsh:bR w 0)(hcap:∀i,i<N pl->(E pl i nz).co.xs.length<=(E pl i nz).co.cap)
  (ko:q.check ts=0) (hdat:sQ ts q.src.xs db=T) (ds:List bN) (hlk:jD ts q pl=O ds) :
  Cb 9 #[FL (jX (Z co (N ts) cc) q (Z d (N db) dc)),Z po (N pl) pc] w (Wl T):=by
 have g:=su (iM ko).2.1;obtain⟨n,f⟩:∃n:Nat,tN q.group q.keys.xs q.sums.xs q.bE.xs=(n:Int):=⟨(tN q.group q.keys.xs q.sums.xs q.bE.xs).toNat,by unfold tN;split <;> omega⟩
 have b:=acQ ko hdat hlk;have j:=Mw ko hdat f (CY q db) (by unfold pK;exact Af _ _);have k:=Mw ko hdat f b.1 b.2;refine Rq co d po (N ts) cc (N db) dc (N pl) pc q (pK q db) (nC ts q pl db (N pl) (N pl-1)) n w hq.ord (by have:=g.2.2.2.1;omega) (by have:=g.2.2.2.2.1;omega) f j k ((CY q db).trans b.1.symm) (λx a=>?_) (λx a=>?_) (λx a=>?_)
 .exact(Ml co d cc dc ts q db x (hts.below a) (hq.below a) hkc hoc hsc (mX.below a) ko hdat).mono λe l h=>xO j.few h
 .exact(KF co d cc dc ts q db po pc pl x (hts.below a) (hq.below a) hkc hoc (mX.below a) (hn.below a) (Ja a hsh) hcap ko hdat ds hlk).mono λe l h=>xO k.few h
 .exact KG co cc ts q po pc pl x (hts.below a) (hq.below a) hkc hoc (hn.below a) (Ja a hsh) hcap ko hlk
def YW(w:U):Cb 5 #[] w (Wl T):=by
 obtain⟨r,t,a3⟩:=ahz w;have f:=Dn (mi (M (H w))) w;have i:=(Ml (O (aD (M (H w)) 0)) (O (aD (M (H w)+1+1+1+1+1+1+1+1+1) 0)) 1 1 Dp (Be (M (H w))) (Gn (M (H w))) _ r t (Qn _) (Qn _) (Qn _) a3 (UI _) (YV _)).mono λe R h=>xO (X:=[[4,10]]) (by simp) h;have j:=Zh f;clear r t a3 f;have k:Calls V 15 #[Z (O (aD (M (H w)) 0)) 1 1,FL #[Z (O (aD (M (H w)+1) 0)) 1 1,Z xn 0 0,Wl T,Z xn 0 0,Z (O (aD (M (H w)+1+1) 0)) 1 1,Z xn 0 0,Z xn 0 0],Z (O (aD (M (H w)+1+1+1+1+1+1+1+1+1) 0)) 1 1] (((((((((((w).alloc (EP #[I J 1,I J 10,I J 10,I J 0,I J 0,I J 0] 49)).alloc (EP #[I J 0] 3)).alloc (EP #[I J 0] 3)).alloc (EP #[Z (O (aD (M (H w)+1) 0)) 1 1,Z xn 0 0,Wl T,Z xn 0 0,Z (O (aD (M (H w)+1+1) 0)) 1 1,Z xn 0 0,Z xn 0 0] 26)).alloc (EP #[I J 4] 3)).alloc (EP #[I J 3] 3)).alloc (EP #[I J 3] 3)).alloc (EP #[I J 1073741824] 3)).alloc (EP #[Z (O (aD (M (H w)+1+1+1+1) 0)) 1 1,Z (O (aD (M (H w)+1+1+1+1+1) 0)) 1 1,Z (O (aD (M (H w)+1+1+1+1+1+1) 0)) 1 1,Z (O (aD (M (H w)+1+1+1+1+1+1+1) 0)) 1 1] 22)).alloc (EP #[Z (O (aD (M (H w)+1+1+1+1+1+1+1+1) 0)) 4 4] 52)) _:=i;clear i;go_enter Tryz.func5,Tryz.ntmps5;go_wp2_with fail;refine k.mono ?_;rintro e m ⟨Q,cap,ys,rfl,q,d,l⟩;clear k;obtain⟨y,rfl⟩:=List.length_eq_one_iff.1 (show N ys=1 by simpa using congrArg N d);obtain⟨D,G,K⟩:=y;have n:K=[4,10]:=by injection d
 subst n;obtain⟨g,L,rfl,u⟩:=q.2.1 0 (by simp);have a:IntsAt m D [4,10]:=q.2.2 0 (by simp);obtain⟨b,off,e,v⟩:=a.2 0 (by decide);obtain⟨_,_,P,z⟩:=a.2 1 (by decide);subst e;cases P;have A:m.cell? (aD g L)=O (Z (O (aD b off)) 2 G):=u;have B:m.cell? (aD b off)=O (I J 4):=v;have C:m.cell? (aD b (off+1))=O (I J 10):=z;have p:=Zh (j.o.trans (l.mono j.o.size));clear u v z a q l d;simp only[QO,QP,Nat.reduceAdd];go_wp2;go_ret;exact⟨rfl,p.o⟩
def O4(lo:Option Addr)(lc:Nat)(l:List Int)(n1 n2 n3:Int)(po:Option Addr)(pc:Nat)(ps:List Int)(W:U)(hI:IntsAt W lo l)(hR:∀x∈l,-9223372036854775808<=x/\x<=9223372036854775807)(hB:∀a,lo=O a->a.block<M (H W))(hP:IntsAt W po ps)(hPB:∀a,po=O a->a.block<M (H W))(hS:bR W 0)
  (h1:-9223372036854775808<=n1/\n1<=9223372036854775807) (h2:-9223372036854775808<=n2/\n2<=9223372036854775807) (h3:-9223372036854775808<=n3/\n3<=9223372036854775807) :
  Calls V 3 #[Z lo (N l) lc,I J n1,I J n2,I J n3,Z po (N ps) pc] W λe W'=>e=FN (Wl T)/\Bw W W':=by
 have hm:=aho lo lc l W hI hR hB;have HP:=Zh (XK hP hPB);have HS:Hid (bR W 0/\0<M (H W)):=⟨hS,QK (hS 0 _ rfl)⟩;have hk:∀{m:Int} {k:Nat},0<k->∃n:Nat,uq m k=(n:Int)/\n<k:=λ{m k} h=>by have:=Ex (c:=m) (n:=(k:Int)) (by omega);exact⟨(uq m k).toNat,by omega,by omega⟩
 obtain⟨r,hr,aH⟩:=hk (m:=n1) (k:=1000) (by omega);obtain⟨n,hn,aI⟩:=hk (m:=n2) (k:=400) (by omega);obtain⟨t,ht,aK⟩:=hk (m:=n3) (k:=500) (by omega);have qL:=Zh λ(x:U)=>yf n1 1000 x (by omega) h1;have oz:=Zh λ(x:U)=>yf n2 400 x (by omega) h2;have zX:=Zh λ(x:U)=>yf n3 500 x (by omega) h3;rw[show uq n1 1000=(r:Int) from hr]at qL;rw[show uq n2 400=(n:Int) from hn]at oz;rw[show uq n3 500=(t:Int) from ht]at zX;obtain⟨R,aM⟩:∃R:Nat,R=r+1:=⟨_,rfl⟩;have aD:Hid (IntKind.i64.wrap (1+(r:Int))=(R:Int)):=by show _=_;rw[XE];omega
 obtain⟨Tq,HT⟩:=eX (wrap64 ((t:Int)-1));have D:Hid (1<=R/\R<=1000/\n<=400):=⟨by omega,by omega,by omega⟩;clear hI hR aM hB hP hPB hS h1 h2 h3 hr hn ht aH aI aK hk;go_enter Tryz.func3,Tryz.ntmps3;go_wp2_with fail;refine hm.mono ?_;rintro e w1 ⟨ts,q,db,co,d,X,dc,rfl,v,ay,aN,aO,j,mX,aA⟩;obtain⟨x0,y0,z0,x1,y1,z1,g0,x3,y3,z3,x4,y4,z4,x5,y5,z5,x6,y6,z6,KO⟩:∃x0 y0 z0 x1 y1 z1 g0 x3 y3 z3 x4 y4 z4 x5 y5 z5 x6 y6 z6,q.cells=#[(Z x0 y0 z0),(Z x1 y1 z1),(Wl g0),(Z x3 y3 z3),(Z x4 y4 z4),(Z x5 y5 z5),(Z x6 y6 z6)]:=⟨_,_,_,_,_,_,_,_,_,_,_,_,_,_,_,_,_,_,_,rfl⟩;have aj:jX (Z co (N ts) X) q (Z d (N db) dc)=#[Z co (N ts) X,(Z x0 y0 z0),(Z x1 y1 z1),(Wl g0),(Z x3 y3 z3),(Z x4 y4 z4),(Z x5 y5 z5),(Z x6 y6 z6),Z d (N db) dc]:=by have:jX (Z co (N ts) X) q (Z d (N db) dc)=#[Z co (N ts) X]++q.cells ++ #[Z d (N db) dc]:=rfl;rw[this,KO];rfl
 obtain⟨W2,aB,p,aa⟩:=aL w1 #[Z co (N ts) X,(Z x0 y0 z0),(Z x1 y1 z1),(Wl g0),(Z x3 y3 z3),(Z x4 y4 z4),(Z x5 y5 z5),(Z x6 y6 z6),Z d (N db) dc] 29;have u:=az aA p;have ak:=j.keep (QB (s:=λ_=>True) p (λb C _=>C)) (λ_ _=>trivial);have ko:=JE v;have A:=v.data (src:=q.src.xs) v.qry.src.2.2;have G:=ay.below p;have L:=Zh λ(x:U) (C:Bw W2 x)=>UH co X (Z d (N db) dc) ts q db R (M (H W)) x (G.below C) (ak.keep (QB (s:=λ_=>True) C (λb C _=>C)) (λ_ _=>trivial)) v (Ja (az u C) HS.o.1) D.o.1 D.o.2.1 (QA HS.o.2 (az u C).size);have P:=Zh λ(x:U) (hx:Bw W2 x) (qo:Option Addr) (qc:Nat) (pl:List ai) (hn:fP x qo pl) (f:∀i,i<N pl->(E pl i nz).co.xs.length<=(E pl i nz).co.cap) (ds:List bN) (g:jD ts q pl=O ds)=>OG co d qo X dc qc ts q db pl x (G.below hx) ((j.at'.below p).below hx) j.keys.2.2 j.ord.2.2 j.src.2.2 ((mX.below p).below hx) hn (Ja (az u hx) HS.o.1) f ko A ds g;have HG:=Zh λ(x:U) (hx:Bw W2 x)=>aa.of (hx.block _ aa.lt);obtain⟨ae,F3⟩:=aJ u ko;rw[aj]at L P ⊢;clear hm v ay G aN aO j mX aA p aa u ak KO ko A aj;go_upto_region 2 with fail;try rw[aB]
 clear aB;go_wp2_with fail;refine(YW W2).mono ?_;rintro e w3 ⟨rfl,af⟩;have Q:=Zh af;obtain⟨d0,d1,d2,d3,d4,d5,d6,d7,d8⟩:=(HG.o w3 af).k9;clear af;go_upto_region 3 with fail;have aF:Bw w3 w3.drew:=(Qm _ _).drew;refine wH w3 λhS=>?_;refine sN 0 hS ?_;refine sN 1 hS ?_;refine wR 2 λK hK=>?_;go_simp;refine XX (qL.o _) ?_;rintro e y ⟨rfl,rfl⟩;refine hK.o _ _ hS λhS=>?_;clear hK K;refine sN 3 hS ?_;refine wR 4 λK hK=>?_;go_simp;rw[aD.o];refine XX (L.o _ (az Q.o hS)) ?_;rintro e w4 ⟨pb,sb,rfl,ag⟩;obtain⟨aP,Bh⟩:=aJ (az Q.o hS) (ag.elder (az Q.o hS));refine hK.o _ _ (az hS ag.below) λhS=>?_;clear hK K;refine sN 5 hS ?_;refine sN 6 hS ?_;refine sN 7 hS ?_;refine sN 8 hS ?_;refine sN 9 hS ?_;refine wD ?_;try simp only[pV]
 have UJ:=Bh.o.has.fO;clear hS aF ag d0 d1 d2 d3 d4 d5 d6 d7 d8 L;go_wp2_with fail;refine UJ.mono ?_;rintro e w5 ⟨ao,ac,nv,ds,c,rfl,z,f,g,ah⟩;have jG:=Zh (az Bh.o.below ah);have V4:=P.o w5 jG.o ao ac nv z f ds g;obtain⟨d0,d1,d2,d3,d4,d5,d6,d7,d8⟩:=(HG.o w5 jG.o).k9;have au:=Zh (Bh.o.step ah);clear UJ z f g ah Bh;go_wp2_with fail;refine V4.mono ?_;rintro e w6 ⟨rfl,aC⟩;have av:=Zh (au.o.step aC);have ax:=av.o.run F3.o n D.o.2.2 Tq po pc ps (Qo ae.o HP.o.1) (λa ha=>QA (HP.o.2 a ha) ae.o.size);clear V4 aC au jG d0 d1 d2 d3 d4 d5 d6 d7 d8;go_wp2_with fail;refine(oz.o w6).mono ?_;rintro e w' ⟨rfl,hw⟩;rw[hw];clear hw w';go_wp2_with fail;refine(zX.o w6).mono ?_;rintro e w' ⟨rfl,hw⟩;rw[hw];clear hw w';go_wp2_with fail;rw[HT];refine ax.mono ?_;rintro e w7 ⟨s,rfl,B,mO⟩;have UJ:=B.fO;have FH:=Zh mO;clear ax B mO av;go_wp2_with fail;refine UJ.mono ?_;rintro e w8 ⟨ao,ac,nv,ds,c,rfl,z,f,g,H5⟩;have S:=Zh (az FH.o H5);have V4:=P.o w8 S.o ao ac nv z f ds g;obtain⟨d0,d1,d2,d3,d4,d5,d6,d7,d8⟩:=(HG.o w8 S.o).k9;clear UJ z f g H5;go_wp2_with fail;refine V4.mono ?_;rintro e w9 ⟨rfl,JP⟩;have aG:=Zh (az ae.o (az S.o JP));clear V4 JP d0 d1 d2 d3 d4 d5 d6 d7 d8;go_wp2;go_ret;exact⟨rfl,aG.o⟩
