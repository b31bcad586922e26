import Derived.Test.YtfnnchibngigdaaGreatDoorS14
import Derived.Test.YtfnnchibngigdaaGreatDoorS16
import Derived.Test.YtfnnchibngigdaaGreatDoorS17
set_option linter.all false
set_option maxRecDepth 100000
set_option maxHeartbeats 0
namespace Go.Proofs.Zz
open Go.RowKit Go.Shelf Go.Proofs.Tryz
open List renaming length->N,getD->E
open Go.Value renaming slice->Z,int->I,pointer->Y,bool->Qo,agg->Qr,tuple->Qt
open Go.Proofs.Tryz renaming prog->V
open Option renaming some->O,none->Qp
open Go.IntKind renaming i64->J,u64->Qn
open Bool renaming false->F,true->T
open Go renaming World->U
open Go.World renaming heap->H,cell?->Qm
open _root_.Array renaming size->M
open Go.RowKit renaming Hid->Qk
open Go.Ending renaming returned->Qs
variable {ps:Qu aC} {p:aC} {ts:Qu af} {q:ae} {pl:Qu ag} {w:U} {n:ag} {fn:Func} {s u:Tmp} {ty:TypeId}
structure dL(ts:Qu af)(q:ae)(pl:Qu ag)(w:U)(ps:Qu aC):Prop where
 eq:bU ts q pl (N ps)=O (ps.map aC.d)
 ok:∀i,i<N ps->(E ps i aR).Ok w
 small:∀i,i<N ps->(E ps i aR).sources<2 ^ (N q.src.xs)/\(E ps i aR).clauses<2 ^ (N q.wh)
def dL.nil(ts:Qu af)(q:ae)(pl:Qu ag)(w:U):dL ts q pl w []:=⟨rfl,λi a=>absurd a Qb,λi a=>absurd a Qb⟩
theorem A9{i:Nat}(hi:i<N (ps++[p])):(i<N ps/\E (ps++[p]) i aR=E ps i aR)∨(i=N ps/\E (ps++[p]) i aR=p):=by grind
def Er(w:U):aR.Ok w:=⟨⟨by simp[aR],λi a=>absurd a (by simp[aR])⟩,Q6 _,ZP _,ZP _,ZP _,ZP _⟩
def dL.ins(h:dL ts q pl w ps)(n:ag)(hm:∀m,m<N (aB n)->0<=E (aB n) m 0/\E (aB n) m 0<(N ps:Int)) :
  ∀i,i<N (bP n ps)->(E (bP n ps) i aR).Ok w/\(E (bP n ps) i aR).sources<2 ^ (N q.src.xs)/\(E (bP n ps) i aR).clauses<2 ^ (N q.wh):=λi b=>by
 rw[mZ]at b;have e:E (bP n ps) i aR=E ps (E (aB n) i 0).toNat aR:=by unfold bP;simp[List.getD,b]
 have d:=hm i b;rw[e];have a:(E (aB n) i 0).toNat<N ps:=X;exact⟨h.ok _ a,h.small _ a⟩
theorem dL.step(h:dL ts q pl w ps)(hn:E pl (N ps) nz=n)(hm:∀m,m<N (aB n)->0<=E (aB n) m 0/\E (aB n) m 0<(N ps:Int))(hf:(fZ n.kind (bP n ps)&&eB ts q n (E (bP n ps) 0 aR).d (E (bP n ps) 1 aR).d)=T)
  (hd:p.d=mK ts q n (E (bP n ps) 0 aR).d (E (bP n ps) 1 aR).d) (hs:p.sources<2 ^ (N q.src.xs)) (hc:p.clauses<2 ^ (N q.wh)) {W:U} (hk:p.Ok W) (ho:p.order=n.co∨p.order=(E (bP n ps) 0 aR).order∨p.order=⟨Qp,0,[]⟩) (hco:n.co.At w) (hcap:N n.co.xs<=n.co.cap) :
  dL ts q pl w (ps++[p]):=by
 have a:p.order.At w/\N p.order.xs<=p.order.cap:=by
  rcases ho with e|e|e
  .rw[e];exact⟨hco,hcap⟩
  .rw[e];by_cases f:0<N (bP n ps)
   .have:=(h.ins n hm 0 f).1;exact⟨this.order,this.cap⟩
   .have g:E (bP n ps) 0 aR=aR:=by simp[List.getD,f]
    rw[g];exact⟨(Er w).order,(Er w).cap⟩
  .rw[e];exact⟨⟨Qb,λi b=>absurd b Qb⟩,Q6 _⟩
 refine⟨?_,λi b=>?_,λi b=>?_⟩
 .rw[Zm]
  show (bU ts q pl (N ps)).bind _=_;rw[h.eq,hn];show iY ts q n _=_;rw[step_eq,Q8 hf,Q0,<-hd];rfl
 .rcases A9 b with⟨hl,e⟩|⟨_,e⟩ <;> rw[e]
  .exact h.ok i hl
  .exact⟨a.1,a.2,hk.sources,hk.clauses,hk.size,hk.cost⟩
 .rcases A9 b with⟨hl,e⟩|⟨_,e⟩ <;> rw[e]
  .exact h.small i hl
  .exact⟨hs,hc⟩
def dL.fail(h:dL ts q pl w ps)(hn:E pl (N ps) nz=n)(hl:N ps<N pl)(hp:bg pl=T)(hf:(fZ n.kind (bP n ps)&&eB ts q n (E (bP n ps) 0 aR).d (E (bP n ps) 1 aR).d)=F):dz ts q pl=none:=by
 have e:bU ts q pl (N ps+1)=none:=by show (bU ts q pl (N ps)).bind _=_;rw[h.eq,hn];show iY ts q n _=_;rw[step_eq,Zf (by rw[hf];simp)]
 unfold dz;rw[Zf (by rw[hp];simp),vC e (N pl) X];rfl
def dL.last(h:dL ts q pl w ps)(hl:N ps=N pl)(hp:bg pl=T) :
  dz ts q pl=if (di (E pl (N pl-1) nz).kind&&jV q (E pl (N pl-1) nz).kind (E ps (E pl (N pl-1) nz).l.toNat aR).order.xs)=T then O (ps.map aC.d) else none:=by unfold dz;rw[Zf (by rw[hp];simp),<-hl,h.eq];simp only[Z5];have e:(E (ps.map aC.d) (E pl (N ps-1) nz).l.toNat pz)=(E ps (E pl (N ps-1) nz).l.toNat aR).d:=je aC.d ps _ aR;rw[e];rfl
theorem dL.nine(h:dL ts q pl w ps)(hl:N ps=N pl)(h1:1<=N pl)(hk:(E pl (N pl-1) nz).kind=9):q.group=false:=by
 have e:N ps=(N pl-1)+1:=X;have g:=h.eq;rw[e]at g;have a:(bU ts q pl (N pl-1)).bind (iY ts q (E pl (N pl-1) nz))=O (ps.map aC.d):=g
 cases h4:bU ts q pl (N pl-1) with
 |none=>rw[h4]at a;cases a
 |some ds =>
  rw[h4]at a;have f:iY ts q (E pl (N pl-1) nz) ds=O (ps.map aC.d):=a;unfold iY at f;split at f
  .rename_i b
   rw[Q3]at b;have b:=b.2;unfold eB at b;grind
  .cases f
def KA(f:bq)(ts:Qu af)(q:ae)(po:JW)(pc:Nat)(pl:Qu ag)(w0 w:U)(hb0:Bw w0 w)(ok:Ok ts q)(hf:f.At ts q w)(hn0:bL w0 po pl)(hsh:bW w 0)(hcap:∀i,i<N pl->(E pl i nz).co.xs.length<=(E pl i nz).co.cap)
  (hgr:q.group=F->aP q.ord.xs (N q.ay.xs)=T) (UY:N q.ord.xs<=1000) :
  Calls V 24 #[Qr (f.cells ts q),Z po (N pl) pc] w (λe z=>Bw w z/\((∃ds,dz ts q pl=O ds/\∃(ao:JW) (cap:Nat) (k:Qu aC),e=Qs (Qt #[Z ao (N k) cap,Qo T])/\PartsAt z ao k/\k.map aC.d=ds/\(∀a,ao=O a->M (H w)<=a.block)/\∀i,i<N k->(E k i aR).Ok w0)∨(dz ts q pl=Qp/\e=Qs (Qt #[Z Qp 0 0,Qo F])))):=by
 obtain⟨LK,xq⟩:=eY (dz ts q pl);rw[<-xq];obtain⟨v0,v1,v2,v3,v4,v5,v6,v7,v8,v9,aX,aZ,bf,jW,bn,bu,bz,bA,bB,bC,bD,-⟩:=dX f ts q;have aN:Qk (q.cells=#[v0,v1,v2,v3,v4,v5,v6]):=by show _=_;rw[bn,bu,bz,bA,bB,bC,bD];rfl
 clear bn bu bz bA bB bC bD;obtain⟨w1,bE,y,bF⟩:=aY w ((f.cells ts q)) 60;have D:=y;have iU:=bF;obtain⟨dZ,fq,gm,fD,fE,gp,gq,mi,mg,mh,fP,jc,fQ⟩:=iU.k13 (by rw[jW];rfl);have G:=hn0.below hb0;have av:=Zh hb0;have MU:=hd hn0;clear hb0 hn0;have eO:=G.1;have UZ:=C8 po pc pl w1 (G.below D) (hsh.below D);rw[jW]at bE;rw[jW];obtain⟨U0,HC⟩:=bV jW D;clear bF iU y
 cases BX:bg pl with
 |false =>
  have S:=Zh (by  rw[xq];unfold dz;rw[Q8 BX]:LK=Qp)
  rw[BX]at UZ;clear BX xq hf G hsh hcap hgr ok U0;go_enter func24,ntmps24;go_wp2_with fail;refine UZ.mono ?_;rintro e w2 ⟨rfl,Q⟩;have HB:=Zh (ah HC.o Q);clear Q;go_wp2;go_ret2;exact⟨HB.o,.inr ⟨S.o,rfl⟩⟩
 |true =>
 rw[BX]at UZ;obtain⟨dD,U1,bG⟩:=Kk BX;obtain⟨i0,hi,bH,bI,bJ⟩:=Xe Tryz.A8;have aO:Qk (∀x:U,M (H w1)<=M (H x)->∃z,(Instr.makeSlice 61 (.int J 0) (.int J (N pl:Int))).run V x=.ok (.slice (O (aD (M (H x)) 0)) 0 (N pl)) z/\z.ownsRow (M (H w1)) 65 6 (.slice (O (aD (M (H x)) 0)) 0 (N pl)) 0 []/\Bw x z):=λx l=>by obtain⟨z,h1,h2,h3⟩:=run_make_own (P:=V) x (M (H w1)) 61 65 i0 _ 6 underlying61 hi bH bI J J (N pl) (by rw[bJ];omega) (by unfold maxLen;omega) l;exact⟨z,h1,h2,(Kept.grown (s:=λ_=>True) h3 (λr e=>by cases e)).below (Q6 _) (λ_ _=>trivial)⟩
 obtain⟨aF,aG,Ye,HF⟩:=L6 BX bG xq hf;have HN:Qk _:=G;have aQ:Qk _:=hsh;obtain⟨au,BU,tJ,U2⟩:=L6 hcap hgr ok UY;have Pq:=hd D;have Lt:=Zh D.size;clear BX bG xq hf G hsh hcap hgr ok UY jW D hi bH bI bJ;go_enter func24,ntmps24;go_wp2_with fail;refine UZ.mono ?_;rintro e w2 ⟨rfl,Q⟩;clear UZ;obtain⟨w3,dE,aa,bK⟩:=aO.o w2 Q.size;have bU:=hd aa;have bX:=Zh (ah Q bK);clear Q bK aa aO bE;go_wp2;clear dE;go_loopw [6,21] (λpv iv wr=>∃k:Qu aC,N k<=N pl/\iv=I J (N k:Int)/\Qk (wr.ownsRow (M (H w1)) 65 6 pv (N k) (k.flatMap aC.list))/\Qk (dL ts q pl w0 k)/\Qk (Bw w1 wr)) (λ_ iv _=>N pl-(intOf iv).toNat)
 case atStart=>exact⟨[],ZP _,rfl,bU.o,dL.nil _ _ _ _,bX.o⟩
 case round=>
  obtain⟨k,dF,rfl,aH,Oi,CV⟩:=hrel;have K:=ah Pq.o CV.o;obtain⟨pa,U3,rfl,SS⟩:=yh aH.o X (λi hi=>(Oi.o.ok i hi).below (ah av.o K));by_cases R:N k<N pl
  .obtain⟨nb,no,aI,m0,m1,m2,m3,m4,m5,m6,bM,bN⟩:=(XA K HN.o).2 (N k) R;subst aI;obtain⟨-,-,-,-,-,-,-,-,-,-,A,MV⟩:=HN.o.2 (N k) R;obtain⟨-,-,-,-,-,-,-,-,-,-,-,KC⟩:=MU.o.2 (N k) R;have W:=au.o (N k) R;have Ba:=aG.o (N k) R;obtain⟨n,G⟩:=eX (E pl (N k) nz)
   rw[G]at m0 m1 m2 m3 m4 m5 m6 bM bN A MV KC W Ba;obtain⟨y,B,C⟩:=vD Ba;have bY:Qk (∀x,Bw w x->Calls V 48 #[Qr n.cells] x λe z=>∃b,e=Qs (Z (O (aD b 0)) (N (aB n)) 2)/\IntsAt z (O (aD b 0)) (aB n)/\M (H x)<=b/\Bw x z):=λx l=>qN n x (Xz l aQ.o) y B;have PH:=Oi.o.ins n C;have Mj:Qk (∀(x:U) (bs:Nat) (v:Value),Bw w x->x.ownsRow bs 65 6 v (N (bP n k)) ((bP n k).flatMap aC.list)->∃a c,v=Z a (N (bP n k)) c/\PartsAt x a (bP n k)):=λx _ v l ho=>yh ho (by rw[mZ];have:=jX n;omega) (λi hi=>(PH i hi).1.below (ah av.o l));have aS:Qk (∀(x:U) (a:JW) (c:Nat),PartsAt x a (bP n k)->Cb 49 #[I J n.kind,Z a (N (bP n k)) c] x (Qo (fZ n.kind (bP n k)))):=λx a c h=>zm n.kind a c (bP n k) x h;have aT:Qk (∀(x:U) (a:JW) (c:Nat),Bw w x->PartsAt x a (bP n k)->Cb 50 #[Qr #[v0,v1,v2,v3,v4,v5,v6,v7,v8,v9,aX,aZ,bf],Qr n.cells,Z a (N (bP n k)) c] x (Qo (eB ts q n (E (bP n k) 0 aR).d (E (bP n k) 1 aR).d))):=λx a c l h=>by rw[<-U0.o];exact Kt f ts q n a c (bP n k) x tJ.o (HF.o.below l) (Q7 l A) (Q7 l MV) W h y B (by rw[mZ,iV])
   have ax:Qk (∀(x:U) (a:JW) (c:Nat),Bw w x->PartsAt x a (bP n k)->eB ts q n (E (bP n k) 0 aR).d (E (bP n k) 1 aR).d=T->fZ n.kind (bP n k)=T->Calls V 51 #[Qr #[v0,v1,v2,v3,v4,v5,v6,v7,v8,v9,aX,aZ,bf],Qr n.cells,Z a (N (bP n k)) c] x λe z=>∃p:aC,e=Qs (Qr p.cells)/\dL ts q pl w0 (k++[p])/\Bw x z):=λx a c l h bT eG=>by rw[<-U0.o];obtain⟨dG,SQ⟩:=Df Ba bT;refine(Dl f ts q n a c (bP n k) x tJ.o (HF.o.below l) (Q7 l A) (Q7 l MV) W h y B (by rw[mZ,iV]) dG SQ (λi hi=>(PH i hi).2)).mono ?_;rintro e z ⟨p,he,hd,dH,hs,hc,ho,hb⟩;exact⟨p,he,Oi.o.step G C (by rw[eG,bT];rfl) hd hs hc dH ho KC W,hb⟩
   have U4:Qk (∀kb fb,kb=fZ n.kind (bP n k)->fb=eB ts q n (E (bP n k) 0 aR).d (E (bP n k) 1 aR).d->(kb&&fb)=F->LK=Qp):=λkb fb e1 e2 h=>by rw[Ye.o];exact Oi.o.fail G R aF.o (by rw[<-e1,<-e2];exact h)
   have bZ:Qk (∀m,m<N (aB n)->(bP n k).take (m+1)=(bP n k).take m++[E k (E (aB n) m 0).toNat aR]):=λm hm=>Kl hm;obtain⟨Lv,dI,dJ⟩:=kH (mZ n k) (jX n) C;obtain⟨KB,SV⟩:=eY (fZ n.kind (bP n k));obtain⟨FB,aJ⟩:=eY (eB ts q n (E (bP n k) 0 aR).d (E (bP n k) 1 aR).d);have U5:=Zh (U4.o KB FB SV aJ);rw[<-SV]at aS ax;rw[<-aJ]at aT ax;clear SV aJ U4 C PH Ba y B bM bN A MV KC W G;generalize bP n k=IV,aB n=L at*;obtain⟨nk,nl,nr,ns,⟨ca,cc,cl⟩,key,⟨da,dc,co⟩⟩:=n;simp only[ag.cells,ai.val]at*;obtain⟨t,Uc⟩:=eY (wr);subst Uc;obtain⟨wb,aj,kb,gn⟩:=aY t #[I J nk,I J nl,I J nr,I J ns,Z ca (N cl) cc,I J key,Z da (N co) dc] 52;obtain⟨n0,n1,n2,n3,n4,n5,n6⟩:=gn.k7;have cu:=bY.o wb (ah K kb);have fo:=Zh kb;have u:=hd gn;have MW:Qk _:=SS;have cz:Qk _:=aH;go_wp2_with fail;refine cu.mono ?_;rintro e w4 ⟨ib,rfl,bO,eU,dK⟩;have A7:=hd dK;have cK:Qk _:=bO;have eP:=bO.1;go_wp2;go_loopw [9,28] (λqv jv wx=>∃m:Nat,m<=N L/\jv=I J (m:Int)/\Qk (wx.ownsRow (M (H w4)) 65 6 qv (N (IV.take m)) ((IV.take m).flatMap aC.list))/\Qk (Bw w4 wx)) (λ_ jv _=>N L-(intOf jv).toNat)
   case atStart=>exact⟨0,ZP _,rfl,Xa _ _ _ _,Q5 _ _⟩
   case round=>
    obtain⟨m,hm,rfl,HQ,JX⟩:=hrel;have UX:=ah fo.o (ah A7.o JX.o);by_cases GR:m<N L
    .obtain⟨eZ,fe,e',dM⟩:=QY (Q7 JX.o cK.o) GR
     cases e';have aU:=dM m GR;rw[ZQ]at aU;obtain⟨aK,bQ⟩:=dJ.o m GR;have Yf:=Zh (bZ.o m GR);obtain⟨j,hj⟩:=Xj aK;rw[hj]at aU bQ Yf;rw[Xk]at Yf;have cO:j<N k:=X;obtain⟨⟨pb,Es,Rn,c0,c1,c2,c3,c4,c5⟩,-⟩:=(PartsAt.below UX MW.o).2 j cO;subst Rn;obtain⟨p,hp⟩:=eY (E k j aR);rw[<-hp]at c0 c1 c2 c3 c4 c5 Yf;obtain⟨qa,qm,qc,rfl⟩:=ZK HQ.o;have U6:=JX.o.size;obtain⟨v',w5,uf,l9,dN,⟨xa,xm,xc,rfl⟩,dO⟩:=yH wr (M (H w4)) (Z qa qm qc) (IV.take m) HQ.o (by rw[Xu];have:=dI.o;omega) U6 p 61;rw[<-Yf.o]at l9;have Eh:Qk _:=l9;have zK:=Zh (JX.o.trans (dN.below U6 (λb hb e=>Qj ((ZJ HQ.o e).1))));obtain⟨pk,ss,cs,⟨oa,pI,ox⟩,pz,pt⟩:=p;simp only[aC.cells,ai.val]at*;go_wp2_with (first|(at_builtin;refine Xd rfl (.tmp 32) (.tmp 37) 61 rfl (Z qa qm qc) (Z (O (aD (M (H wr)) 0)) 1 1) (Z xa xm xc) w5 rfl rfl uf ?_));go_wp2;go_roundw
     case rel=>exact⟨m+1,X,Qf,Eh.o,zK.o⟩
     case measure=>exact Qw
    .obtain rfl:m=N L:=X
     rw[Xi (by rw[Lv.o];exact Q6 _)]at HQ;obtain⟨w5,ML⟩:=eY (wr);subst ML;have Ro:=ah A7.o JX.o;have U7:=ah fo.o Ro;have U8:=ah CV.o U7;obtain⟨qa,qc,rfl,bR⟩:=Mj.o w5 _ _ (ah Pq.o U8) HQ.o;have cZ:=aS.o w5 qa qc bR;have n0:Qm w5 (aD (M (H t)) 0)=O (I J nk):=cB Ro (Zu u.o 0);have df:Qk _:=bR;obtain⟨dP,dQ,dR⟩:=kH U8 Ro U7;go_wp2_with fail;refine cZ.mono ?_;rintro e w6 ⟨rfl,ak⟩;obtain⟨KD,Bb,dS⟩:=kH (ah dP.o ak) (ah dQ.o ak) (ah dR.o ak);have U9:Qk _:=PartsAt.below ak df.o
     cases KB with
     |false =>
      obtain⟨S,BP⟩:=bV (U5.o rfl) (ah Pq.o KD.o);go_wp2;go_ret2;exact⟨BP.o,.inr ⟨S.o,rfl⟩⟩
     |true =>
      have dh:=aT.o w6 qa qc (ah Pq.o KD.o) U9.o;obtain⟨f0,f1,f2,f3,f4,f5,f6,f7⟩:=oK KD.o dZ fq gm fD fE gp gq mi;obtain⟨f8,f9,dU,dV,dW⟩:=gM KD.o mg mh fP jc fQ;have n0:Qm w6 (aD (M (H t)) 0)=O (I J nk):=cB Bb.o (Zu u.o 0);have n1:Qm w6 (aD (M (H t)) 1)=O (I J nl):=cB Bb.o (Zu u.o 1);have n2:Qm w6 (aD (M (H t)) 2)=O (I J nr):=cB Bb.o (Zu u.o 2);have n3:Qm w6 (aD (M (H t)) 3)=O (I J ns):=cB Bb.o (Zu u.o 3);have n4:Qm w6 (aD (M (H t)) 4)=O (Z ca (N cl) cc):=cB Bb.o (Zu u.o 4);have n5:Qm w6 (aD (M (H t)) 5)=O (I J key):=cB Bb.o (Zu u.o 5);have n6:Qm w6 (aD (M (H t)) 6)=O (Z da (N co) dc):=cB Bb.o (Zu u.o 6);go_wp2_with fail;refine dh.mono ?_;rintro e w7 ⟨rfl,lu⟩;obtain⟨KE,Dm,dY⟩:=kH (ah KD.o lu) (ah Bb.o lu) (ah dS.o lu);have dm:Qk _:=PartsAt.below lu U9.o
      cases FB with
      |false =>
       obtain⟨S,BP⟩:=bV (U5.o rfl) (ah Pq.o KE.o);go_wp2;go_ret2;exact⟨BP.o,.inr ⟨S.o,rfl⟩⟩
      |true =>
       have dn:=ax.o w7 qa qc (ah Pq.o KE.o) dm.o (by trivial) (by trivial);obtain⟨f0,f1,f2,f3,f4,f5,f6,f7⟩:=oK KE.o dZ fq gm fD fE gp gq mi;obtain⟨f8,f9,dU,dV,dW⟩:=gM KE.o mg mh fP jc fQ;have n0:Qm w7 (aD (M (H t)) 0)=O (I J nk):=cB Dm.o (Zu u.o 0);have n1:Qm w7 (aD (M (H t)) 1)=O (I J nl):=cB Dm.o (Zu u.o 1);have n2:Qm w7 (aD (M (H t)) 2)=O (I J nr):=cB Dm.o (Zu u.o 2);have n3:Qm w7 (aD (M (H t)) 3)=O (I J ns):=cB Dm.o (Zu u.o 3);have n4:Qm w7 (aD (M (H t)) 4)=O (Z ca (N cl) cc):=cB Dm.o (Zu u.o 4);have n5:Qm w7 (aD (M (H t)) 5)=O (I J key):=cB Dm.o (Zu u.o 5);have n6:Qm w7 (aD (M (H t)) 6)=O (Z da (N co) dc):=cB Dm.o (Zu u.o 6);go_wp2_with fail;refine dn.mono ?_;rintro e w8 ⟨p,rfl,ed,zN⟩;have dw:=ah dY.o zN;have Rp:=ah KE.o zN;have SX:=Xt cz.o dw;obtain⟨v',wz,aL,ek,eu,⟨xa,xm,xc,rfl⟩,dO⟩:=yH w8 (M (H w1)) (Z pa (N k) U3) k SX X Rp.size p 61;have dx:Qk _:=ek;obtain⟨eD,Pz⟩:=bV ed (Rp.trans (eu.below Rp.size (λb hb e=>Qj ((ZJ SX e).1))));have LM:Qk (N (k++[p])=N k+1):=by show _=_;simp
       have eQ:Qk (∀x:Int,x=(N (k++[p]):Nat)->Value.int J x=I J (N (k++[p]):Int)):=λx h=>by rw[h]
       obtain⟨pk,ss,cs,⟨oa,pI,ox⟩,pz,pt⟩:=p;simp only[aC.cells,ai.val]at aL;simp only[aC.cells,ai.val];go_wp2_with (first|(at_builtin;refine Xd rfl (.tmp 52) (.tmp 57) 61 rfl (Z pa (N k) U3) (Z (O (aD (M (H w8)) 0)) 1 1) (Z xa xm xc) wz rfl rfl aL ?_));clear aL;go_wp2;go_roundw
       case rel=>
        refine⟨k++[aC.mk pk ss cs ⟨oa,pI,ox⟩ pz pt],by rw[LM.o];omega,?_,dx.o,eD.o,Pz.o⟩;rw[LM.o];go_num
       case measure=>exact Qw
  .have az:N k=N pl:=X
   obtain⟨N1,fu⟩:∃N1,N pl=N1+1:=⟨N pl-1,X⟩;have eN:N pl-1=N1:=X;have aV:N1<N pl:=X;obtain⟨nb,no,aI,m0,m1,m2,m3,m4,m5,m6,-,-⟩:=(XA K HN.o).2 N1 aV;subst aI;have Ba:=aG.o N1 aV;have Yg:=Oi.o.last az aF.o;have LP:Qk ((E pl N1 nz).kind=9->q.group=F):=λh9=>Oi.o.nine az dD (by rw[eN];exact h9);rw[<-Ye.o,eN]at Yg;obtain⟨Va,eF⟩:=bV Oi.o.ok Oi.o.ok;have dA:Qk (∀a,pa=O a->M (H w)<=a.block):=λa e=>by subst e;have:=(ZJ aH.o (g:=a.block) rfl).1;have:=Lt.o;omega
   obtain⟨n,G⟩:=eX (E pl N1 nz);rw[G]at m0 m1 m2 m3 m4 m5 m6 Ba LP Yg;have mU:Qk _:=@Da n N1 Ba;obtain⟨t,Uc⟩:=eY (wr);subst Uc;have Sl:Qk (∀x,Cb 52 #[I J n.kind] x (Qo (di n.kind))):=λx=>(qA n.kind x).mono (λe z h=>⟨h.1,by rw[h.2];exact Q5 _ _⟩);have aA:Qk (∀(o:ai) (x:U),Bw w x->o.At x->N o.xs<=o.cap->Cb 53 #[Qr #[v0,v1,v2,v3,v4,v5,v6],I J n.kind,Z o.ad (N o.xs) o.cap] x (Qo (jV q n.kind o.xs))):=λo x l ho eH=>by rw[<-aN.o];exact zk q n.kind o.ad o.cap o.xs x (HF.o.query.below l) ⟨λh9=>BU.o (LP.o h9),U2.o⟩ ho eH
   have rM:=Zh Yg;have dB:Qk (N k=N1+1):=by show _=_;omega
   have eT:¬(N k:Int)<(N1:Int)+1:=X;have MW:Qk _:=SS;clear Yg G Ba eN LP SS aG au aQ HF BU aF U2 aN az dF;obtain⟨nk,nl,nr,ns,⟨ca,cc,cl⟩,key,⟨da,dc,co⟩⟩:=n;simp only[ag.cells,ai.val]at*;obtain⟨wb,aj,kb,gn⟩:=aY t #[I J nk,I J nl,I J nr,I J ns,Z ca (N cl) cc,I J key,Z da (N co) dc] 52;obtain⟨n0,n1⟩:=gn.k2;have fo:=hd kb;have Vd:=Zh (ah K kb);have Rq:=ah CV.o kb;obtain⟨h0,h1,h2,h3,h4⟩:=gM Rq dZ fq gm fD fE;obtain⟨h5,h6⟩:=iA Rq gp gq;clear gn kb K Rq;obtain⟨OB,aM⟩:=eY (di nk);rw[<-aM]at Sl rM mU
   cases OB with
   |false =>
    have S:=Zh (by  rw[rM.o];rfl:LK=Qp)
    clear rM aA mU aM;go_upto_region 18 with fail;clear aj m0 m1 m2 m3 m4 m5 m6;refine Za ?_;refine uK ?_;go_big_quiet_want;refine⟨Qo F,λx l=>?_,?_⟩
    .have hC:=Zb l (Sl.o x);go_simp
    simp only[pU];go_big_quiet_on;refine qS (Qo T) ?_;go_big_quiet_want;refine⟨Qo T,λx l=>?_,?_⟩
    .go_simp
    simp only[pU];go_big_quiet_on;go_big_quiet_skip;try simp only[pU]
    iterate 11 (go_big_quiet_skip;try simp only[pU])
    refine qS (Qo T) ?_;refine Xo ?_;intro wE AV;have BP:=Zh (ah Vd.o AV);clear AV;go_wp2;go_ret2;exact⟨BP.o,.inr ⟨S.o,rfl⟩⟩
   |true =>
    obtain⟨aK,bQ⟩:=mU.o rfl;obtain⟨j,hj⟩:=Xj aK;subst hj;have aW:j<N k:=Qj dB.o;rw[Xk]at rM;obtain⟨⟨pb,Es,Rn,-,-,-,c3,-,-⟩,-⟩:=(PartsAt.below fo.o MW.o).2 j aW;subst Rn;have Rs:=Va.o j aW;obtain⟨o,ho⟩:=eY ((E k j aR).order);have Yh:∀x,Bw wb x->Cb 53 #[Qr #[v0,v1,v2,v3,v4,v5,v6],I J nk,Z o.ad (N o.xs) o.cap] x (Qo (jV q nk o.xs)):=λx l=>aA.o o x (ah Vd.o l) (by rw[ho];exact Q7 (ah av.o (ah Vd.o l)) Rs.order) (by rw[ho];exact Rs.cap);rw[<-ho]at c3 rM;clear ho Rs aA mU aM Va;obtain⟨EB,bS⟩:=eY (jV q nk o.xs);rw[<-bS]at Yh rM;clear bS;obtain⟨oa,pI,ox⟩:=o;simp only[ai.val]at c3 Yh;have Ve:=Zh Yh;clear Yh
    cases EB with
    |false =>
     have S:=Zh (by  rw[rM.o];rfl:LK=Qp)
     clear rM;go_upto_region 18 with fail;clear aj m0 m1 m2 m3 m4 m5 m6;refine Za ?_;refine qS (Y (O (aD (M (H t)) 0))) ?_;refine qC (I J nk) n0 ?_;go_big_quiet_want;refine⟨Qo T,λx l=>?_,?_⟩
     .have hC:=Zb l (Sl.o x);go_simp
     simp only[pU];go_big_quiet_on;refine qS (Qo F) ?_;refine qS (Qo F) ?_;refine qS (Y (O (aD (M (H w)) 0))) ?_;go_big_quiet_want;refine⟨Qr #[v0,v1,v2,v3,v4,v5,v6],λx l=>?_,?_⟩
     .have e0:=I6 l h0 h1 h2 h3 h4 h5 h6;go_simp
     simp only[pU];go_big_quiet_on;refine qS (Y (O (aD (M (H t)) 0))) ?_;refine qC (I J nk) n0 ?_;refine qS (Z (O (aD pb Es)) (N k) U3) ?_;refine qS (Y (O (aD (M (H t)) 1))) ?_;refine qC (I J (j:Int)) n1 ?_;refine qS (Y (O (aD pb (Es+j*6)))) ?_;refine qS (Y (O (aD pb (Es+j*6+3)))) ?_;refine qC (Z oa (N ox) pI) c3 ?_;go_big_quiet_want;refine⟨Qo F,λx l=>?_,?_⟩
     .have hC:=Zb l (Ve.o x l);go_simp
     simp only[pU];go_big_quiet_on;refine qS (Qo T) ?_;refine qS (Qo T) ?_;refine Xo ?_;intro wE AV;have BP:=Zh (ah Vd.o AV);clear AV;go_wp2;go_ret2;exact⟨BP.o,.inr ⟨S.o,rfl⟩⟩
    |true =>
     have S:=Zh (by  rw[rM.o];rfl:LK=O (k.map aC.d))
     clear rM;go_upto_region 18 with fail;clear aj m0 m1 m2 m3 m4 m5 m6;refine Za ?_;refine qS (Y (O (aD (M (H t)) 0))) ?_;refine qC (I J nk) n0 ?_;go_big_quiet_want;refine⟨Qo T,λx l=>?_,?_⟩
     .have hC:=Zb l (Sl.o x);go_simp
     simp only[pU];go_big_quiet_on;refine qS (Qo F) ?_;refine qS (Qo F) ?_;refine qS (Y (O (aD (M (H w)) 0))) ?_;go_big_quiet_want;refine⟨Qr #[v0,v1,v2,v3,v4,v5,v6],λx l=>?_,?_⟩
     .have e0:=I6 l h0 h1 h2 h3 h4 h5 h6;go_simp
     simp only[pU];go_big_quiet_on;refine qS (Y (O (aD (M (H t)) 0))) ?_;refine qC (I J nk) n0 ?_;refine qS (Z (O (aD pb Es)) (N k) U3) ?_;refine qS (Y (O (aD (M (H t)) 1))) ?_;refine qC (I J (j:Int)) n1 ?_;refine qS (Y (O (aD pb (Es+j*6)))) ?_;refine qS (Y (O (aD pb (Es+j*6+3)))) ?_;refine qC (Z oa (N ox) pI) c3 ?_;go_big_quiet_want;refine⟨Qo T,λx l=>?_,?_⟩
     .have hC:=Zb l (Ve.o x l);go_simp
     simp only[pU];go_big_quiet_on;refine qS (Qo F) ?_;refine qS (Qo F) ?_;refine Xo ?_;intro wE AV;have BP:=Zh (ah Vd.o AV);have dC:Qk _:=PartsAt.below (ah fo.o AV) MW.o;clear AV;go_wp2;go_ret2;exact⟨BP.o,.inl ⟨_,S.o,_,U3,k,rfl,dC.o,rfl,dA.o,eF.o⟩⟩
def xu{p:Tmp}(h:fn.results=#[.cell p ty,.tmp u,.tmp s])(tmps:Array Value)(P:Program)(w:U) :
  (results fn tmps).run P w=((asAddr (tmps.getD p undef)).run P w).andThen λa b=>((loadVar ty a).run P b).andThen λv d=>.ok (Qt #[v,tmps.getD u undef,tmps.getD s undef]) d:=by simp only[results,h];simp[Sem.run_bind,Result.andThen]
def rT{p:Tmp}(h:fn.results=#[.cell p ty,.tmp u,.tmp s]){tmps:Array Value}{P:Program}{B:Nat}{v x y:Value}(hp:tmps.getD p undef=Y (O (aD B 0)))(hu:tmps.getD u undef=x)(hs:tmps.getD s undef=y)(hl:(loadVar ty (aD B 0)).run P w=.ok v w) :
  (results fn tmps).run P w=.ok (Qt #[v,x,y]) w:=by rw[xu h,hp,hu,hs];simp[go_sem]at hl ⊢;simp[hl]
def qQ(pJ:Int)(LK:Option (Qu bZ))(ts:Qu af)(q:ae)(w:U)(e:Ending)(w':U):Prop:=Bw w w'/\((pJ≠0/\e=Qs (Qt #[Qr #[Z Qp 0 0,Z Qp 0 0,Qo F,Z Qp 0 0,Z Qp 0 0,Z Qp 0 0,Z Qp 0 0,Z Qp 0 0,I Qn 0,I Qn 0,Z Qp 0 0,Z Qp 0 0,Z Qp 0 0],Z Qp 0 0,I J pJ]))∨(pJ=0/\LK=Qp/\e=Qs (Qt #[Qr #[Z Qp 0 0,Z Qp 0 0,Qo F,Z Qp 0 0,Z Qp 0 0,Z Qp 0 0,Z Qp 0 0,Z Qp 0 0,I Qn 0,I Qn 0,Z Qp 0 0,Z Qp 0 0,Z Qp 0 0],Z Qp 0 0,I J 5]))∨(pJ=0/\∃ds,LK=O ds/\∃(f:bq) (a:JW) (c:Nat) (ps:Qu aC),e=Qs (Qt #[Qr (f.cells ts q),Z a (N ps) c,I J 0])/\f.At ts q w'/\PartsAt w' a ps/\ps.map aC.d=ds))
def oI(ao:JW)(cap:Nat)(ts:Qu af)(q:ae)(po:JW)(pc:Nat)(pl:Qu ag)(w:U)(hx:aI w ao ts)(hq:q.At w)(hkc:N q.keys.xs<=q.keys.cap)(hoc:N q.ord.xs<=q.ord.cap)(hn:bL w po pl)(hsh:bW w 0)(hcap:∀i,i<N pl->(E pl i nz).co.xs.length<=(E pl i nz).co.cap) :
  Calls V 13 #[Z ao (N ts) cap,Qr q.cells,Z po (N pl) pc] w (qQ (q.check ts) (dz ts q pl) ts q w):=by
 obtain⟨w1,aK,ax,az⟩:=aY w q.cells 26;obtain⟨w2,aQ,aL,aM⟩:=aY w1 #[Z Qp 0 0,Z Qp 0 0,Qo F,Z Qp 0 0,Z Qp 0 0,Z Qp 0 0,Z Qp 0 0,Z Qp 0 0,I Qn 0,I Qn 0,Z Qp 0 0,Z Qp 0 0,Z Qp 0 0] 60;have au:=aL;have aj:=ah ax au;have iU:=az.of (au.block _ az.lt);obtain⟨dZ,fq,gm,fD,fE,gp,gq⟩:=iU.k7;have oC:=aM;have ak:=checkQ_any ao cap ts q w2 (hx.below aj) (hq.below aj) hkc hoc;obtain⟨pJ,jZ⟩:=eY (q.check ts);obtain⟨LK,xq⟩:=eY (dz ts q pl);have Yi:Qk (pJ=0->∀x,Bw w x->Calls V 23 #[Z ao (N ts) cap,Qr q.cells] x λe w'=>∃f:bq,e=Qs (Qr (f.cells ts q))/\f.At ts q w'/\f.New (M (H x))/\Bw x w'):=λh0 x hb=>AQ ao cap ts q x (hx.below hb) (hq.below hb) (vK (by rw[<-jZ];exact h0)).1.ok;have GN:Qk (pJ=0->∀(f:bq) (x:U),Bw w x->f.At ts q x->Calls V 24 #[Qr (f.cells ts q),Z po (N pl) pc] x (λe w'=>Bw x w'/\((∃ds,LK=O ds/\∃(ao:JW) (cap:Nat) (ps:Qu aC),e=Qs (Qt #[Z ao (N ps) cap,Qo T])/\PartsAt w' ao ps/\ps.map aC.d=ds/\(∀a,ao=O a->M (H x)<=a.block)/\∀i,i<N ps->(E ps i aR).Ok w)∨(LK=Qp/\e=Qs (Qt #[Z Qp 0 0,Qo F]))))):=λh0 f x hb hf=>by obtain⟨h1,_,h3,h4,_⟩:=vK (ts:=ts) (q:=q) (by rw[<-jZ];exact h0);rw[xq];exact KA f ts q po pc pl w x hb h1.ok hf hn (Xz hb hsh) hcap h3 X
 rw[<-jZ]at ak ⊢;rw[<-xq];obtain⟨HC,aS,HW⟩:=kH aj hq ax.size;have BU:=hd oC;clear jZ xq hx hq hkc hoc hn hsh hcap ax aL az aM iU oC aj au;obtain⟨⟨t,v,m⟩,y,z,A,j,⟨B,D,k⟩,⟨G,K,l⟩,⟨L,P,Q⟩,⟨R,W,n⟩⟩:=q;have Oj:ae.cells ⟨⟨t,v,m⟩,y,z,A,j,⟨B,D,k⟩,⟨G,K,l⟩,⟨L,P,Q⟩,⟨R,W,n⟩⟩=#[Z t (N m) v,Z y (N A) z,Qo j,Z B (N k) D,Z G (N l) K,Z L (N Q) P,Z R (N n) W]:=rfl;rw[Oj]at aK ak Yi ⊢;simp only[ai.val]at dZ fq gm fD fE gp gq;clear Oj;go_enter func13,ntmps13;go_wp2_with fail;refine ak.mono ?_;rintro e w3 ⟨rfl,r⟩;clear ak aK aQ;by_cases hz:pJ=0
 .subst hz;have Ua:=Yi.o (by trivial) w3 (ah HC.o r);obtain⟨d0,d1,d2,d3,d4⟩:=gM r dZ fq gm fD fE;obtain⟨d5,d6⟩:=iA r gp gq;have aB:=hd r;clear r dZ fq gm fD fE gp gq Yi;go_wp2_with fail;refine Ua.mono ?_;rintro e w4 ⟨f,rfl,hf,aN,aA⟩;clear Ua d0 d1 d2 d3 d4 d5 d6;obtain⟨A7,aT⟩:=bV (ah aB.o aA) aA.size;have Yj:=hd hf;have aP:=hd aN;have aD:=Zh (ZC BU.o.lt aB.o.size);clear aN;obtain⟨Et,Eu,Ev,S,C,Ew,Ex,Ey,Ez,EA,ED,EE,EF,EG,jW⟩:∃(Et:JW) (Eu Ev S C:Nat) (Ew:JW) (Ex Ey:Nat) (Ez:JW) (EA ED:Nat) (EE:JW) (EF EG:Nat),f.cells ts ⟨⟨t,v,m⟩,y,z,A,j,⟨B,D,k⟩,⟨G,K,l⟩,⟨L,P,Q⟩,⟨R,W,n⟩⟩=#[Z t (N m) v,Z y (N A) z,Qo j,Z B (N k) D,Z G (N l) K,Z L (N Q) P,Z R (N n) W,Z Et Eu Ev,I Qn ((S:Nat):Int),I Qn ((C:Nat):Int),Z Ew Ex Ey,Z Ez EA ED,Z EE EF EG]:=⟨f.ca,_,f.cc,_,_,f.ra,_,f.rc,f.na,f.nl,f.nc,f.pa,f.pl,f.pc,rfl⟩
  obtain⟨w5,ML,k5,g5⟩:=aY w4 #[Z t (N m) v,Z y (N A) z,Qo j,Z B (N k) D,Z G (N l) K,Z L (N Q) P,Z R (N n) W,Z Et Eu Ev,I Qn ((S:Nat):Int),I Qn ((C:Nat):Int),Z Ew Ex Ey,Z Ez EA ED,Z EE EF EG] 60;have zK:=Zh (ah A7.o k5);have av:=GN.o (by trivial) f w5 (ah HC.o zK.o) (Yj.o.below k5);rw[jW]at av ⊢;have U0:=Zh jW;have Hy:=hd g5;have aF:=Zh k5;obtain⟨p0,p1,p2,p3,p4,p5,p6,p7,p8,p9,aW,aX,aZ⟩:=g5.k13;clear aA hf k5 g5 jW GN;go_wp2_with fail;refine av.mono ?_;rintro e w6 ⟨aa,aO⟩;clear av ML;have Bd:=ah zK.o aa;have g6:=Hy.o.of (aa.block _ Hy.o.lt);rcases aO with⟨ds,hds,a,c,ps,rfl,SS,hpd,hbk,Vn⟩|⟨hds,rfl⟩
  .skip;have g:=BU.o.of (Bd.block _ BU.o.lt);have iK:=Zh (nO (World.qL g (Z t (N m) v) (Z y (N A) z) (Qo j) (Z B (N k) D) (Z G (N l) K) (Z L (N Q) P) (Z R (N n) W) (Z Et Eu Ev) (I Qn ((S:Nat):Int)) (I Qn ((C:Nat):Int)) (Z Ew Ex Ey) (Z Ez EA ED) (Z EE EF EG)));have LQ:=World.lW w6 (M (H w1)) (Z t (N m) v) (Z y (N A) z) (Qo j) (Z B (N k) D) (Z G (N l) K) (Z L (N Q) P) (Z R (N n) W) (Z Et Eu Ev) (I Qn ((S:Nat):Int)) (I Qn ((C:Nat):Int)) (Z Ew Ex Ey) (Z Ez EA ED) (Z EE EF EG);have mo:=(ah HC.o Bd).trans (LQ.below (ah HC.o Bd).size (λb hb=>Qj HW.o));have x0:=g.at 0;have y0:=g.frozen 0;have x1:=g.at 1;have y1:=g.frozen 1;have x2:=g.at 2;have y2:=g.frozen 2;have x3:=g.at 3;have y3:=g.frozen 3;have x4:=g.at 4;have y4:=g.frozen 4;have x5:=g.at 5;have y5:=g.frozen 5;have x6:=g.at 6;have y6:=g.frozen 6;have x7:=g.at 7;have y7:=g.frozen 7;have x8:=g.at 8;have y8:=g.frozen 8;have x9:=g.at 9;have y9:=g.frozen 9;have Ol:=g.at 10;have Tc:=g.frozen 10;have Td:=g.at 11;have Te:=g.frozen 11;have Tf:=g.at 12;have Tg:=g.frozen 12;have aH:=(Yj.o.below (ah aF.o aa)).but LQ aP.o aD.o (aS.o.below mo);have aU:=ZB aT.o aF.o.size;have aJ:=SS.but LQ (λad e=>by have:=hbk ad e;have:=aD.o;omega) Vn mo;have cK:Qk (qQ (0:Int) LK ts ⟨⟨t,v,m⟩,y,z,A,j,⟨B,D,k⟩,⟨G,K,l⟩,⟨L,P,Q⟩,⟨R,W,n⟩⟩ w (Qs (Qt #[Qr #[Z t (N m) v,Z y (N A) z,Qo j,Z B (N k) D,Z G (N l) K,Z L (N Q) P,Z R (N n) W,Z Et Eu Ev,I Qn ((S:Nat):Int),I Qn ((C:Nat):Int),Z Ew Ex Ey,Z Ez EA ED,Z EE EF EG],Z a (N ps) c,I J 0])) (World.jd w6 (M (H w1)) (Z t (N m) v) (Z y (N A) z) (Qo j) (Z B (N k) D) (Z G (N l) K) (Z L (N Q) P) (Z R (N n) W) (Z Et Eu Ev) (I Qn ((S:Nat):Int)) (I Qn ((C:Nat):Int)) (Z Ew Ex Ey) (Z Ez EA ED) (Z EE EF EG))):=⟨mo,.inr (.inr ⟨rfl,ds,hds,f,a,c,ps,by rw[U0.o],aH,aJ,hpd⟩)⟩
   unfold World.jd at iK cK;obtain⟨r0,r1,r2,r3,r4,r5,r6,r7,r8,r9,bf,bg,bn⟩:=g6.k13;clear g LQ mo Bd aa g6 Hy Yj aH aJ SS hbk Vn hds hpd;go_wp2;exact Xy (rT (p:=6) (u:=7) (s:=8) rfl rfl rfl rfl iK.o) rfl cK.o
  .skip;have g:=BU.o.of (Bd.block _ BU.o.lt);have iK:=Zh (nO (World.qL g (Z Qp 0 0) (Z Qp 0 0) (Qo F) (Z Qp 0 0) (Z Qp 0 0) (Z Qp 0 0) (Z Qp 0 0) (Z Qp 0 0) (I Qn 0) (I Qn 0) (Z Qp 0 0) (Z Qp 0 0) (Z Qp 0 0)));have LQ:=World.lW w6 (M (H w1)) (Z Qp 0 0) (Z Qp 0 0) (Qo F) (Z Qp 0 0) (Z Qp 0 0) (Z Qp 0 0) (Z Qp 0 0) (Z Qp 0 0) (I Qn 0) (I Qn 0) (Z Qp 0 0) (Z Qp 0 0) (Z Qp 0 0);have mo:=(ah HC.o Bd).trans (LQ.below (ah HC.o Bd).size (λb hb=>Qj HW.o));have x0:=g.at 0;have y0:=g.frozen 0;have x1:=g.at 1;have y1:=g.frozen 1;have x2:=g.at 2;have y2:=g.frozen 2;have x3:=g.at 3;have y3:=g.frozen 3;have x4:=g.at 4;have y4:=g.frozen 4;have x5:=g.at 5;have y5:=g.frozen 5;have x6:=g.at 6;have y6:=g.frozen 6;have x7:=g.at 7;have y7:=g.frozen 7;have x8:=g.at 8;have y8:=g.frozen 8;have x9:=g.at 9;have y9:=g.frozen 9;have Ol:=g.at 10;have Tc:=g.frozen 10;have Td:=g.at 11;have Te:=g.frozen 11;have Tf:=g.at 12;have Tg:=g.frozen 12;have cK:Qk (qQ (0:Int) LK ts ⟨⟨t,v,m⟩,y,z,A,j,⟨B,D,k⟩,⟨G,K,l⟩,⟨L,P,Q⟩,⟨R,W,n⟩⟩ w (Qs (Qt #[Qr #[Z Qp 0 0,Z Qp 0 0,Qo F,Z Qp 0 0,Z Qp 0 0,Z Qp 0 0,Z Qp 0 0,Z Qp 0 0,I Qn 0,I Qn 0,Z Qp 0 0,Z Qp 0 0,Z Qp 0 0],Z Qp 0 0,I J 5])) (World.jd w6 (M (H w1)) (Z Qp 0 0) (Z Qp 0 0) (Qo F) (Z Qp 0 0) (Z Qp 0 0) (Z Qp 0 0) (Z Qp 0 0) (Z Qp 0 0) (I Qn 0) (I Qn 0) (Z Qp 0 0) (Z Qp 0 0) (Z Qp 0 0))):=⟨mo,.inr (.inl ⟨rfl,hds,rfl⟩)⟩
   unfold World.jd at iK cK;clear g LQ mo Bd aa g6 Hy Yj;go_wp2;exact Xy (rT (p:=6) (u:=7) (s:=8) rfl rfl rfl rfl iK.o) rfl cK.o
 .have M0:=r;have aV:(pJ != 0)=true:=by rw[bne_iff_ne];exact hz
  have HZ:Qk _:=hz;clear hz;have g:=BU.o.of (M0.block _ BU.o.lt);have iK:=Zh (nO (World.qL g (Z Qp 0 0) (Z Qp 0 0) (Qo F) (Z Qp 0 0) (Z Qp 0 0) (Z Qp 0 0) (Z Qp 0 0) (Z Qp 0 0) (I Qn 0) (I Qn 0) (Z Qp 0 0) (Z Qp 0 0) (Z Qp 0 0)));have LQ:=World.lW w3 (M (H w1)) (Z Qp 0 0) (Z Qp 0 0) (Qo F) (Z Qp 0 0) (Z Qp 0 0) (Z Qp 0 0) (Z Qp 0 0) (Z Qp 0 0) (I Qn 0) (I Qn 0) (Z Qp 0 0) (Z Qp 0 0) (Z Qp 0 0);have mo:=(ah HC.o M0).trans (LQ.below (ah HC.o M0).size (λb hb=>Qj HW.o));have x0:=g.at 0;have y0:=g.frozen 0;have x1:=g.at 1;have y1:=g.frozen 1;have x2:=g.at 2;have y2:=g.frozen 2;have x3:=g.at 3;have y3:=g.frozen 3;have x4:=g.at 4;have y4:=g.frozen 4;have x5:=g.at 5;have y5:=g.frozen 5;have x6:=g.at 6;have y6:=g.frozen 6;have x7:=g.at 7;have y7:=g.frozen 7;have x8:=g.at 8;have y8:=g.frozen 8;have x9:=g.at 9;have y9:=g.frozen 9;have Ol:=g.at 10;have Tc:=g.frozen 10;have Td:=g.at 11;have Te:=g.frozen 11;have Tf:=g.at 12;have Tg:=g.frozen 12;have cK:Qk (qQ pJ LK ts ⟨⟨t,v,m⟩,y,z,A,j,⟨B,D,k⟩,⟨G,K,l⟩,⟨L,P,Q⟩,⟨R,W,n⟩⟩ w (Qs (Qt #[Qr #[Z Qp 0 0,Z Qp 0 0,Qo F,Z Qp 0 0,Z Qp 0 0,Z Qp 0 0,Z Qp 0 0,Z Qp 0 0,I Qn 0,I Qn 0,Z Qp 0 0,Z Qp 0 0,Z Qp 0 0],Z Qp 0 0,I J pJ])) (World.jd w3 (M (H w1)) (Z Qp 0 0) (Z Qp 0 0) (Qo F) (Z Qp 0 0) (Z Qp 0 0) (Z Qp 0 0) (Z Qp 0 0) (Z Qp 0 0) (I Qn 0) (I Qn 0) (Z Qp 0 0) (Z Qp 0 0) (Z Qp 0 0))):=⟨mo,.inl ⟨HZ.o,rfl⟩⟩;unfold World.jd at iK cK;clear g LQ mo M0 r Yi GN;go_wp2;exact Xy (rT (p:=6) (u:=7) (s:=8) rfl rfl rfl rfl iK.o) rfl cK.o
def kU(ts:Qu af)(q:ae)(pl:Qu ag):Int:=if q.check ts=0 then (if (dz ts q pl).isSome=T then 0 else 5) else q.check ts
def vL:Option (Qu bZ)->Nat
 |some ds=>(E ds (N ds-1) pz).cost
 |none=>0
def iW(ts:Qu af)(q:ae)(pl:Qu ag):Nat:=if q.check ts=0 then vL (dz ts q pl) else 0
def vM{ts:Qu af}{q:ae}{pl:Qu ag}:∀(k:Nat) (ps:Qu bZ),bU ts q pl k=O ps->N ps=k
 |0,ps,h=>by injection h with h;rw[<-h];rfl
 |k+1,ps,h=>by
  have h':(bU ts q pl k).bind (iY ts q (E pl k nz))=O ps:=h
  cases hp:bU ts q pl k with
  |none=>rw[hp]at h';cases h'
  |some qs =>
   rw[hp]at h';have h2:iY ts q (E pl k nz) qs=O ps:=h';unfold iY at h2;split at h2
   .injection h2 with h2;rw[<-h2,Zm,vM k qs hp];rfl
   .cases h2
theorem Hz{ds:Qu bZ}(h:dz ts q pl=O ds):1<=N ds:=by
 unfold dz at h;split at h
 .cases h
 .rename_i hp
  cases hq:bU ts q pl (N pl) with
  |none=>rw[hq]at h;cases h
  |some ps =>
   rw[hq]at h;have a:(if (di (E pl (N pl-1) nz).kind&&jV q (E pl (N pl-1) nz).kind (E ps (E pl (N pl-1) nz).l.toNat pz).order)=T then O ps else Qp)=O ds:=h;split at a
   .injection a with a;rw[<-a,vM _ _ hq];have b:bg pl=true:=by simpa using hp
    unfold bg at b;grind
   .cases a
def xw(ao:JW)(cap:Nat)(ts:Qu af)(q:ae)(po:JW)(pc:Nat)(pl:Qu ag)(w:U)(hx:aI w ao ts)(hq:q.At w)(hkc:N q.keys.xs<=q.keys.cap)(hoc:N q.ord.xs<=q.ord.cap)(hn:bL w po pl)(hsh:bW w 0)(hcap:∀i,i<N pl->(E pl i nz).co.xs.length<=(E pl i nz).co.cap) :
  Cb 5 #[Z ao (N ts) cap,Qr q.cells,Z po (N pl) pc] w (I J (kU ts q pl)):=by
 obtain⟨w1,t,u,v⟩:=aY w q.cells 26;have j:=u;have iU:=v;obtain⟨dZ,fq,gm,fD,fE,gp,gq⟩:=iU.k7;have k:=oI ao cap ts q po pc pl w1 (hx.below j) (hq.below j) hkc hoc (hn.below j) (Xz j hsh) hcap;obtain⟨pJ,A⟩:=eY (q.check ts);obtain⟨LK,B⟩:=eY (dz ts q pl);rw[<-A,<-B]at k;obtain⟨HC,aa,Ye⟩:=kH j A B;obtain⟨D,Rx⟩:=eY (kU ts q pl);rw[<-Rx];have p:Qk (D=if pJ=0 then (if LK.isSome=T then 0 else 5) else pJ):=by show _=_;rw[Rx,A,B];rfl
 clear Rx;clear A B hx hq hkc hoc hn hsh hcap u v iU j;obtain⟨⟨G,K,l⟩,L,P,Q,b,⟨R,W,d⟩,⟨ua,uc,g⟩,⟨ea,ec,ay⟩,⟨da,dc,m⟩⟩:=q;have Oj:ae.cells ⟨⟨G,K,l⟩,L,P,Q,b,⟨R,W,d⟩,⟨ua,uc,g⟩,⟨ea,ec,ay⟩,⟨da,dc,m⟩⟩=#[Z G (N l) K,Z L (N Q) P,Qo b,Z R (N d) W,Z ua (N g) uc,Z ea (N ay) ec,Z da (N m) dc]:=rfl;rw[Oj]at t k ⊢;simp only[ai.val]at dZ fq gm fD fE gp gq;clear Oj;go_enter func5,ntmps5;go_wp2_with fail;refine k.mono ?_;rintro e w2 ⟨y,z⟩;have HB:=Zh (ah HC.o y);have n:Qk (∀o,Bw w (w2.alloc o)):=λo=>HB.o.trans ((bz _ _).mono HB.o.size);clear y k t dZ fq gm fD fE gp gq;rcases z with⟨hc,rfl⟩|⟨hc,hl,rfl⟩|⟨hc,ds,hl,f,a,c,ps,rfl,hf,hp,hd⟩
 .have r:=Zh (by  rw[p.o,Zf hc]:D=pJ)
  clear p hc;go_wp2;go_ret;exact⟨by rw[r.o];rfl,n.o _⟩
 .have r:=Zh (by  rw[p.o,Q8 hc,hl];rfl:D=5)
  clear p hc hl;go_wp2;go_ret;exact⟨by rw[r.o];rfl,n.o _⟩
 .have r:=Zh (by  rw[p.o,Q8 hc,hl];rfl:D=0)
  clear p hc hl hf hp hd;obtain⟨Et,Eu,Ev,S,C,Ew,Ex,Ey,Ez,EA,ED,EE,EF,EG,jW⟩:∃(Et:JW) (Eu Ev S C:Nat) (Ew:JW) (Ex Ey:Nat) (Ez:JW) (EA ED:Nat) (EE:JW) (EF EG:Nat),f.cells ts ⟨⟨G,K,l⟩,L,P,Q,b,⟨R,W,d⟩,⟨ua,uc,g⟩,⟨ea,ec,ay⟩,⟨da,dc,m⟩⟩=#[Z G (N l) K,Z L (N Q) P,Qo b,Z R (N d) W,Z ua (N g) uc,Z ea (N ay) ec,Z da (N m) dc,Z Et Eu Ev,I Qn ((S:Nat):Int),I Qn ((C:Nat):Int),Z Ew Ex Ey,Z Ez EA ED,Z EE EF EG]:=⟨f.ca,_,f.cc,_,_,f.ra,_,f.rc,f.na,f.nl,f.nc,f.pa,f.pl,f.pc,rfl⟩;rw[jW];clear jW;go_wp2;go_ret;exact⟨by rw[r.o];rfl,n.o _⟩
theorem xx(ao:JW)(cap:Nat)(ts:Qu af)(q:ae)(po:JW)(pc:Nat)(pl:Qu ag)(w:U)(hx:aI w ao ts)(hq:q.At w)(hkc:N q.keys.xs<=q.keys.cap)(hoc:N q.ord.xs<=q.ord.cap)(hn:bL w po pl)(hsh:bW w 0)(hcap:∀i,i<N pl->(E pl i nz).co.xs.length<=(E pl i nz).co.cap) :
  Cb 6 #[Z ao (N ts) cap,Qr q.cells,Z po (N pl) pc] w (Qt #[I Qn ((iW ts q pl:Nat):Int),I J (kU ts q pl)]):=by
 obtain⟨w1,A,B,D⟩:=aY w q.cells 26;have k:=B;have iU:=D;obtain⟨dZ,fq,gm,fD,fE,gp,gq⟩:=iU.k7;have n:=oI ao cap ts q po pc pl w1 (hx.below k) (hq.below k) hkc hoc (hn.below k) (Xz k hsh) hcap;obtain⟨u,G⟩:=eY (q.check ts);obtain⟨LK,v⟩:=eY (dz ts q pl);rw[<-G,<-v]at n;obtain⟨HC,aH,Ye⟩:=kH k G v;obtain⟨M3,Rx⟩:=eY (kU ts q pl);obtain⟨Yk,Pd⟩:=eY (iW ts q pl);rw[<-Rx,<-Pd];have Ep:Qk (M3=if u=0 then (if LK.isSome=T then 0 else 5) else u):=by show _=_;rw[Rx,G,v];rfl
 have r:=Zh (by  rw[Pd,G,v];rfl:Yk=if u=0 then vL LK else 0)
 have GX:Qk (u=0->∀ds,LK=O ds->1<=N ds):=λ_ ds aA=>Hz (ts:=ts) (q:=q) (pl:=pl) (by rw[<-v];exact aA);clear Rx Pd;clear G v hx hq hkc hoc hn hsh hcap B D iU k;obtain⟨⟨K,L,l⟩,P,Q,R,b,⟨W,kc,g⟩,⟨ua,uc,j⟩,⟨ea,ec,ay⟩,⟨da,dc,m⟩⟩:=q;have Oj:ae.cells ⟨⟨K,L,l⟩,P,Q,R,b,⟨W,kc,g⟩,⟨ua,uc,j⟩,⟨ea,ec,ay⟩,⟨da,dc,m⟩⟩=#[Z K (N l) L,Z P (N R) Q,Qo b,Z W (N g) kc,Z ua (N j) uc,Z ea (N ay) ec,Z da (N m) dc]:=rfl;rw[Oj]at A n ⊢;simp only[ai.val]at dZ fq gm fD fE gp gq;clear Oj;go_enter func6,ntmps6;go_wp2_with fail;refine n.mono ?_;rintro e w2 ⟨aa,aj⟩;have HB:=Zh (ah HC.o aa);have p:Qk (∀o,Bw w (w2.alloc o)):=λo=>HB.o.trans ((bz _ _).mono HB.o.size);clear aa n A dZ fq gm fD fE gp gq;rcases aj with⟨hc,rfl⟩|⟨hc,hl,rfl⟩|⟨hc,ds,hl,f,a,c,ps,rfl,hf,hp,hd⟩
 .have z:=Zh (by  rw[Ep.o,Zf hc]:M3=u)
  have t:=Zh (by  rw[r.o,Zf hc]:Yk=0)
  have aB:(u != 0)=true:=by rw[bne_iff_ne];exact hc
  clear Ep hc r GX;go_wp2;go_ret2;exact⟨by rw[z.o,t.o];rfl,p.o _⟩
 .have z:Qk (M3=5):=Qc
  have t:=Zh (by  rw[r.o,Q8 hc,hl];rfl:Yk=0)
  clear Ep hc hl r GX;go_wp2;go_ret2;exact⟨by rw[z.o,t.o];rfl,p.o _⟩
 .have z:Qk (M3=0):=Qc
  have t:=Zh (by rw[r.o,Q8 hc,hl,<-hd];show (E (ps.map aC.d) (N (ps.map aC.d)-1) pz).cost=_;rw[ZR];exact congrArg bZ.cost (je aC.d ps (N ps-1) aR):Yk=(E ps (N ps-1) aR).cost)
  have av:1<=N ps:=by have:=GX.o hc ds hl;grind
  obtain⟨y,ak⟩:∃y,N ps=y+1:=⟨N ps-1,X⟩;rw[show N ps-1=y by omega]at t;obtain⟨⟨pb,Es,rfl,-,-,-,-,-,c5⟩,-⟩:=hp.2 y X;have ax:=hp.1;have aF:=Zh c5;generalize (E ps y aR).cost=CT at*;rw[ak]at ax ⊢;clear Ep hc hl hf hp hd r GX av ak;obtain⟨Et,Eu,Ev,S,C,Ew,Ex,Ey,Ez,EA,ED,EE,EF,EG,jW⟩:∃(Et:JW) (Eu Ev S C:Nat) (Ew:JW) (Ex Ey:Nat) (Ez:JW) (EA ED:Nat) (EE:JW) (EF EG:Nat),f.cells ts ⟨⟨K,L,l⟩,P,Q,R,b,⟨W,kc,g⟩,⟨ua,uc,j⟩,⟨ea,ec,ay⟩,⟨da,dc,m⟩⟩=#[Z K (N l) L,Z P (N R) Q,Qo b,Z W (N g) kc,Z ua (N j) uc,Z ea (N ay) ec,Z da (N m) dc,Z Et Eu Ev,I Qn ((S:Nat):Int),I Qn ((C:Nat):Int),Z Ew Ex Ey,Z Ez EA ED,Z EE EF EG]:=⟨f.ca,_,f.cc,_,_,f.ra,_,f.rc,f.na,f.nl,f.nc,f.pa,f.pl,f.pc,rfl⟩;rw[jW];clear jW;obtain⟨w3,au⟩:=eX (w2.alloc (.cells #[Z K (N l) L,Z P (N R) Q,Qo b,Z W (N g) kc,Z ua (N j) uc,Z ea (N ay) ec,Z da (N m) dc,Z Et Eu Ev,I Qn ((S:Nat):Int),I Qn ((C:Nat):Int),Z Ew Ex Ey,Z Ez EA ED,Z EE EF EG] 60));have c6:Qm w3 (aD pb (Es+y*6+5))=O (I Qn (CT:Int)):=by rw[<-au];exact cB (bz _ _) c5
  have az:Qk (Bw w w3):=by rw[<-au];exact p.o _
  clear c5;go_wp2;go_ret2;exact⟨by rw[z.o,t.o];rfl,az.o⟩
