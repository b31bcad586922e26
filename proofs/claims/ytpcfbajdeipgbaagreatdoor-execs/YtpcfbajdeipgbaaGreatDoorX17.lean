import Derived.Test.YtpcfbajdeipgbaaGreatDoorX07
import Derived.Test.YtpcfbajdeipgbaaGreatDoorX14
set_option linter.all false
set_option maxRecDepth 100000
set_option maxHeartbeats 0
namespace Go.Proofs.Zz
open Go.RowKit Go.Shelf
open List renaming length->N,getD->E
open Go.Value renaming slice->Z,int->I,pointer->Y,bool->EP
open Go.Proofs.Tryz renaming prog->V
open Option renaming some->O,none->E5
open Go.IntKind renaming i64->J
open Bool renaming false->F,true->T
open Go renaming World->U,Value->KX
open Go.World renaming heap->H,setCell->qw,cell?->Am
open _root_.Array renaming size->M
open Go.RowKit renaming Hid->Wl
open Go.Obj renaming cells->FL
open Go.Ending renaming returned->FR
variable {G b bp i k lo o t tG:Nat} {W X w w'' w7 wd:U} {tI tN:TypeId} {c c7:Array KX} {ns pl:List ai} {α:Type}
def Tryz.Ug:(V.info? 30).map (λi=>(i.zero,i.size,i.bytes))=O (O (Z E5 0 0),1,24):=by kernel_rfl
def Tryz.ne1:23≠30:=by decide
def Tryz.ne2:3≠30:=by decide
def aop(n:Nat)(h:n*24<=140737488351232)(w:U) :
  (Instr.makeSlice 28 (.int J ((n:Int)+2)) (.int J ((n:Int)+2))).run V w=.ok (.slice (O (aD (M (H w)) 0)) (n+2) (n+2)) (w.alloc (FL (oO [] (n+2)) 30)):=by obtain⟨i,e,a,b,d⟩:=Xk Tryz.Ug;have:=run_make (P:=V) w 28 30 i _ Tryz.underlying28 e a J J ((n:Int)+2) ((n:Int)+2) (by omega) (Int.le_refl _) (by rw[d];omega) (by omega);rw[b,show ((n:Int)+2).toNat=n+2 by omega]at this;rw[<-JH];simpa [Value.cells,ahr] using this
def ako(n:Nat)(h:n*24<=140737488351232)(w:U) :
  (Instr.makeSlice 30 (.int J ((n:Int)+2)) (.int J ((n:Int)+2))).run V w=.ok (.slice (O (aD (M (H w)) 0)) (n+2) (n+2)) (w.alloc (FL (oO [] (n+2)) 23)):=by obtain⟨i,e,a,b,d⟩:=Xk Tryz.xY;have:=run_make (P:=V) w 30 23 i _ Tryz.underlying30 e a J J ((n:Int)+2) ((n:Int)+2) (by omega) (Int.le_refl _) (by rw[d];omega) (by omega);rw[b,show ((n:Int)+2).toNat=n+2 by omega]at this;rw[<-JH];simpa [Value.cells,ahr] using this
def ahs(W:U)(base:Nat)(v:KX)(xs:List KX)(hown:W.ownsRow base 30 1 v (N xs) xs)(hl:N xs*24<=140737488351232)(hb:base<=M (H W))(a:Option Addr)(m c:Nat)(ty:TypeId) :
  ∃d f,(Builtin.append_ #[28,28] ty #[v,Z (O (aD (M (H W)) 0)) 1 1]).run V (W.alloc (FL #[Z a m c] 30))=.ok d f/\
   f.ownsRow base 30 1 d (N xs+1) (xs++[Z a m c])/\Kept (λb=>v.ownBlock≠O b) W f/\(∃a m c,d = Z a m c)/\(d.ownBlock=v.ownBlock∨d.ownBlock=O (M (H W)+1)):=by
 obtain⟨q,y,i,j,k⟩:=Xk Tryz.Ug;obtain⟨d,f,l,n,z,_,g⟩:=Xz (P:=V) (W.alloc (FL #[.slice a m c] 30)) base 28 ty 30 q (.slice E5 0 0) 1 24 Tryz.underlying28 y i j k rfl (by decide) v (N xs) xs (hown.alloc _) (aD (M (H W)) 0) 1 1 [.slice a m c] rfl
  (World.news_of_block (cs:=#[Z a m c]) (t:=30) (fr:=(0,0)) (iX W _)) (λu p=>by rw[Xj]at p;rw[p];rfl) (by unfold maxLen;omega) (by omega) (by rw[Xm];omega)
 exact⟨d,f,l,n,(ZE _ _).trans (Xd z (λr e l=>l e)),Xg n,by rw[Xm]at g;exact g⟩
theorem Yh(qG w:U)(G:Nat)(d:Option Addr)(fB:Nat)(db:List aJ)(c0 c1 c2 c3 c4 c5 c6 c7 c8 c9 c10 c11 c12 c13 c14:KX)
  (hx:qJ qG d db) (hsz:N db*24<=140737488351232) (aAq:∀i,i<N db->(E db i rz).rs.length*24<=140737488351232) (VY:∀i,i<N db->∀j,j<(E db i rz).rs.length->((E db i rz).rs.getD j iz).xs.length*8<=140737488351232)
  (hb:Bw qG w) (hG0:M (H qG)<=G) (hG:GB w G 43 #[c0,c1,c2,c3,c4,c5,c6,c7,c8,c9,c10,c11,c12,c13,c14,Z E5 0 0]) :
  Calls V 15 #[Y (O (aD G 0)),Z d (N db) fB] w λe w'=>e=FR (.tuple #[])/\∃m v u1 u2 s1 s2 x1 x2,alS qG w w' G 43 30 23 3 (λx y z=>#[c0,c1,c2,c3,c4,c5,c6,c7,c8,x,c10,c11,c12,c13,y,z]) db m v u1 u2 s1 s2 x1 x2:=by
 have cZ:=aop (N db) hsz;have hl:=hx.1;have KS:=hG.lt;have aH:=hG.at 14;have dF:=hG.frozen 14;have HX:Wl _:=hx;obtain⟨bR,Vv⟩:=aV aAq VY;have Mc:Wl (yP qG w ((qw w (aD G 14) (Z (O (aD (M (H w)) 0)) (N db+2) (N db+2))).alloc (FL (oO [] (N db+2)) 30)) G 43 30 23 3 (N db) (λz=>#[c0,c1,c2,c3,c4,c5,c6,c7,c8,c9,c10,c11,c12,c13,Z (O (aD (M (H w)) 0)) (N db+2) (N db+2),z]) db [] (Z E5 0 0)):=by
  have L:=hb.setCell (p:=(aD G 14)) hG0 (Z (O (aD (M (H w)) 0)) (N db+2) (N db+2));refine⟨L.alloc L.size _,λj hj aA=>?_,by simp,?_,?_,λi hi=>absurd hi (by simp),Xl _ _ _ _⟩
  .rw[QS (by simpa using hj),QR aA]
  .exact(hG.set 14 (Z (O (aD (M (H w)) 0)) (N db+2) (N db+2))).of (QS (by simpa using KS))
  .have:=iX (qw w (aD G 14) (Z (O (aD (M (H w)) 0)) (N db+2) (N db+2))) (FL (oO [] (N db+2)) 30);rw[Jr]at this;exact this
 have P:=Zh KS;go_enter Tryz.func15,Tryz.ntmps15;go_wp2;go_loopw [5] (λiv wr=>∃(i:Nat) (m:List aJ) (v:KX),iv=I J i/\i<=N db/\N m=i/\Wl (yP qG w wr G 43 30 23 3 (N db) (λz=>#[c0,c1,c2,c3,c4,c5,c6,c7,c8,c9,c10,c11,c12,c13,Z (O (aD (M (H w)) 0)) (N db+2) (N db+2),z]) db m v)) (λiv _=>N db-(intOf iv).toNat)
 case atStart=>grind
 case round=>
  clear Mc;obtain⟨i,m,v,rfl,dN,n,B⟩:=hrel;by_cases K:i<N db
  .obtain⟨b,off,rfl,bS⟩:=Qf HX.o.2.1 K;have bg:=Zh (bS i K);have aI:=HX.o.2.2 i K;have df:=bR.o i K;have bn:=Zh (Vv.o i K);have dh:Wl ((E db (N m) rz).rs=(E db i rz).rs):=show _=_ by rw[n]
   clear bS;generalize E db i rz=t at*;obtain⟨dz,dO,f⟩:=t;unfold aJ.val at*;simp only at*;have aK:Wl (fF qG dz f):=aI;have dG:N f<=1152921504606846976:=aI.1;have cZ:=ako (N f) df;have bq:=cB B.o.qE bg.o;obtain⟨l,bT⟩:=eY (wr);rw[<-bT]at B bq ⊢;clear bT aI;go_wp2;go_loopw [8] (λjv wr=>∃(j:Nat) (a:List ae),jv=I J j/\j<=N f/\N a=j/\Wl (Bw l wr)/\M (H l)<M (H wr)/\Wl (GB wr (M (H l)) 23 (oO (a.map ae.val) (N f+2-j)))/\Wl (∀k,k<j->jl (M (H l)) wr 3 (E a k iz) (E f k iz).xs)) (λjv _=>N f-(intOf jv).toNat)
   case atStart=>exact⟨0,[],rfl,Q4 _,rfl,bJ _ _,by simp,iX _ _,λk hk=>absurd hk (by omega)⟩
   case round=>
    obtain⟨j,a,rfl,dP,JI,nV,VY,O8,ay⟩:=hrel;have L:=B.o.qE.trans (nV.o.mono B.o.qE.size);by_cases aB:j<N f
    .obtain⟨rb,ro,rfl,dA⟩:=Qf aK.o.2.1 aB;obtain⟨bq,aW⟩:=gy L bg.o (dA j aB);have C:=Qt L (aK.o.2.2 j aB);have aL:=bn.o j aB;obtain⟨x,aX⟩:=eY (E f j iz)
     have Np:=Zh aX;rw[<-aX]at aW C aL;clear aX;obtain⟨fO,bF,xs⟩:=x;unfold ae.val at aW;simp only at aW C aL;have aM:=CP fO bF xs wr C aL;have bu:N f+2-j=(N f+2-(j+1))+1:=by omega
     have r:=O8.o;rw[bu]at r;have ai:GB (wr.alloc (FL (aR xs) 3)) (M (H l)) 23 _:=r.of (QS VY);have bz:Am (wr.alloc (FL (aR xs) 3)) (aD (M (H l)) j)=O (Z E5 0 0):=by rw[ai.cell];have:=vD (a.map ae.val) (N f+2-(j+1));rw[Q8,JI]at this;exact this
     have di:=ai.frozen j;have aN:=ai.set j (Z (O (aD (M (H wr)) 0)) (N xs) (N xs+2));have aO:=rP (a.map ae.val) (N f+2-(j+1)) (Z (O (aD (M (H wr)) 0)) (N xs) (N xs+2));rw[Q8,JI]at aO;rw[aO]at aN;have Ry:Wl _:=aN;have Df:Wl (Bw l (qw (wr.alloc (FL (aR xs) 3)) (aD (M (H l)) j) (Z (O (aD (M (H wr)) 0)) (N xs) (N xs+2)))):=(nV.o.alloc nV.o.size _).setCell (p:=(aD (M (H l)) j)) (Qs _) _;have bA:Wl (∀k,k<j+1->jl (M (H l)) (qw (wr.alloc (FL (aR xs) 3)) (aD (M (H l)) j) (Z (O (aD (M (H wr)) 0)) (N xs) (N xs+2))) 3 (E (a++[ae.mk (O (aD (M (H wr)) 0)) (N xs+2) xs]) k iz) (E f k iz).xs):=λk hk=>by
      by_cases dD:k<j
      .have e:E (a++[ae.mk (O (aD (M (H wr)) 0)) (N xs+2) xs]) k iz=E a k iz:=by simp only[List.getD];rw[Jb (by omega)]
       rw[e];exact(ay.o k dD).kept λb hl hb=>(QR (by show b≠M (H l);omega)).trans (QS hb)
      .obtain rfl:k=j:=by omega
       have e:E (a++[ae.mk (O (aD (M (H wr)) 0)) (N xs+2) xs]) k iz=ae.mk (O (aD (M (H wr)) 0)) (N xs+2) xs:=by simp only[List.getD];rw[QL (by omega),JI,Xr];rfl
       rw[e,<-Np.o];exact⟨M (H wr),rfl,VY,GB.of (w:=wr.alloc (FL (aR xs) 3)) (iX wr _) (QR (by show M (H wr)≠M (H l);omega))⟩
     have bB:Wl (M (H (wr.alloc (FL (aR xs) 3)))=M (H wr)+1):=show _=_ by simp
     clear r ai aN aO bu O8 nV ay C;obtain⟨wl,bU⟩:=eY (wr.alloc (FL (aR xs) 3));rw[<-bU]at aM bz di Ry Df bA bB;clear bU;go_wp2_with fail;refine aM.mono ?_;rintro e w2 ⟨rfl,rfl⟩;clear aM;go_wp2;go_roundw
     case rel=>exact⟨j+1,a++[ae.mk (O (aD (M (H wr)) 0)) (N xs+2) xs],by go_num,by omega,by rw[QI,JI];rfl,Df.o,by have:=bB.o;simp;omega,by rw[Ql];exact Ry.o,bA.o⟩
     case measure=>simp[intOf];omega
    .obtain rfl:j=N f:=by omega
     -- the two marks behind,then the lists
     have e2:N f+2-N f=1+1:=by omega
     have r:=O8.o;rw[e2]at r;have bC:=VY
     -- first mark
     obtain⟨wa,De⟩:∃wa,wa=(qw wr (aD (M (H l)) (N f)) (Value.slice (O (aD (M (H wr)) 0)) 1 1)).alloc (FL #[I J 77777] 3):=⟨_,rfl⟩;have o1:Am wr (aD (M (H l)) (N f))=O (Z E5 0 0):=by rw[r.cell];have:=vD (a.map ae.val) 1;rw[Q8,JI]at this;exact this
     have z1:=r.frozen (N f);have aj:GB wa (M (H l)) 23 (oO (a.map ae.val++[Value.slice (O (aD (M (H wr)) 0)) 1 1]) 1):=by have u:=r.set (N f) (Value.slice (O (aD (M (H wr)) 0)) 1 1);have S:=rP (a.map ae.val) 1 (Value.slice (O (aD (M (H wr)) 0)) 1 1);rw[Q8,JI]at S;rw[S]at u;rw[De];exact u.of (QS (by simpa using bC))
     have bD:Bw l wa:=by have u:=nV.o.setCell (p:=(aD (M (H l)) (N f))) (Qs _) (Value.slice (O (aD (M (H wr)) 0)) 1 1);rw[De];exact u.alloc u.size _
     have aP:M (H wa)=M (H wr)+1:=by rw[De];simp
     have bE:lI (M (H l)) wa 3 (Value.slice (O (aD (M (H wr)) 0)) 1 1):=⟨M (H wr),rfl,bC,by
      have:=iX (qw wr (aD (M (H l)) (N f)) (Value.slice (O (aD (M (H wr)) 0)) 1 1)) (FL #[I J 77777] 3);rw[Jr]at this;rw[De];exact this⟩
     have C:∀k,k<N f->jl (M (H l)) wa 3 (E a k iz) (E f k iz).xs:=λk hk=>(ay.o k hk).kept λb hl hb=>by rw[De,QS (by simpa using hb),QR (by show b≠M (H l);omega)]
     have W:=Zh De.symm;clear De;have bG:M (H l)<M (H wa):=by omega
     -- second mark
     obtain⟨wb,q⟩:∃wb,wb=(qw wa (aD (M (H l)) (N f+1)) (Value.slice (O (aD (M (H wa)) 0)) 1 1)).alloc (FL #[I J 77777] 3):=⟨_,rfl⟩;have o2:Am wa (aD (M (H l)) (N f+1))=O (Z E5 0 0):=by rw[aj.cell];have:=vD (a.map ae.val++[Value.slice (O (aD (M (H wr)) 0)) 1 1]) 0;rw[QI,Q8,JI]at this;exact this
     have z2:=aj.frozen (N f+1);have bH:GB wb (M (H l)) 23 (a.map ae.val++[Value.slice (O (aD (M (H wr)) 0)) 1 1,Value.slice (O (aD (M (H wa)) 0)) 1 1]).toArray:=by
      have u:=aj.set (N f+1) (Value.slice (O (aD (M (H wa)) 0)) 1 1);have S:=rP (a.map ae.val++[Value.slice (O (aD (M (H wr)) 0)) 1 1]) 0 (Value.slice (O (aD (M (H wa)) 0)) 1 1);rw[QI,Q8,JI]at S;have h3:(oO (a.map ae.val++[Value.slice (O (aD (M (H wr)) 0)) 1 1]) 1).setIfInBounds (N f+1) (Value.slice (O (aD (M (H wa)) 0)) 1 1)=(a.map ae.val++[Value.slice (O (aD (M (H wr)) 0)) 1 1,Value.slice (O (aD (M (H wa)) 0)) 1 1]).toArray:=by refine S.trans ?_;unfold oO;simp
      rw[h3]at u;rw[q];exact u.of (QS (by simpa using bG))
     have D:Bw l wb:=by have u:=bD.setCell (p:=(aD (M (H l)) (N f+1))) (Qs _) (Value.slice (O (aD (M (H wa)) 0)) 1 1);rw[q];exact u.alloc u.size _
     have aQ:∀b,M (H l)<b->b<M (H wa)->wb.heap[b]? = wa.heap[b]?:=λb hl hb=>by rw[q,QS (by simpa using hb),QR (by show b≠M (H l);omega)]
     have bI:lI (M (H l)) wb 3 (Value.slice (O (aD (M (H wa)) 0)) 1 1):=⟨M (H wa),rfl,bG,by
      have:=iX (qw wa (aD (M (H l)) (N f+1)) (Value.slice (O (aD (M (H wa)) 0)) 1 1)) (FL #[I J 77777] 3);rw[Jr]at this;rw[q];exact this⟩
     have X:=Zh q.symm;clear q;have ak:=B.o.K7;have dm:Wl (kK (M (H w)) wb 23 3 ⟨O (aD (M (H l)) 0),N f+2,a⟩ f (M (H l)) (Value.slice (O (aD (M (H wr)) 0)) 1 1) (Value.slice (O (aD (M (H wa)) 0)) 1 1)):=
      ⟨rfl,rfl,JI,ak,λk hk=>((C k hk).kept aQ).up (by omega),bH,(bE.kept aQ).up (by omega),bI.up (by omega)⟩
     -- the list of the longer lists
     have bK:wb.ownsRow (M (H w)+1) 30 1 v (N (m.map aJ.full)) (m.map aJ.full):=by rw[Q8];exact Xw B.o.own (Qs _) (λj _ hj=>D.block j hj)
     have dH:=D.size;obtain⟨v',w5,iW,mq,az,⟨va,vm,vc,rfl⟩,TQ⟩:=ahs wb (M (H w)+1) v (m.map aJ.full) bK (by rw[Q8];omega) (by omega) (O (aD (M (H l)) 0)) (N f+2) (N f+2) 28;rw[Q8]at mq;have bL:(aJ.mk (O (aD (M (H l)) 0)) (N f+2) a).full=Value.slice (O (aD (M (H l)) 0)) (N f+2) (N f+2):=by unfold aJ.full;simp only;rw[JI]
     rw[<-bL]at mq;have bM:∀x y:KX,(#[c0,c1,c2,c3,c4,c5,c6,c7,c8,c9,c10,c11,c12,c13,Value.slice (O (aD (M (H w)) 0)) (N db+2) (N db+2),x]:Array KX).setIfInBounds 15 y=#[c0,c1,c2,c3,c4,c5,c6,c7,c8,c9,c10,c11,c12,c13,Value.slice (O (aD (M (H w)) 0)) (N db+2) (N db+2),y]:=λ_ _=>rfl;have aC:=dm.o;rw[<-n]at K;have Nq:=B.o.next P.o hG0 K Tryz.ne1 Tryz.ne2 bM D (by rw[dh.o];exact aC) mq az TQ;have aF:(aJ.mk (O (aD (M (H l)) 0)) (N f+2) a).val=Value.slice (O (aD (M (H l)) 0)) (N f) (N f+2):=by unfold aJ.val;simp only;rw[JI]
     rw[aF]at Nq;have HN:=Zh Nq;have dn:Am wb (aD G 15)=O v:=(D.cell (p:=(aD G 15)) B.o.g.lt).trans (B.o.g.cell 15);have aa:∀b,b<=M (H w)->v.ownBlock≠O b:=λb hb e=>by have:=(Xf B.o.own e).1;omega
     have au:GB w5 G 43 _:=B.o.g.of ((az.block G (by have:=B.o.g.lt;omega) (aa G (by have:=P.o;omega))).trans (D.block G B.o.g.lt));have aH:=au.at 14;have dI:=au.at 15;have dJ:=au.frozen 15;have av:GB w5 (M (H w)) 30 _:=B.o.row.of ((az.block (M (H w)) (by omega) (aa _ (Qs _))).trans (D.block _ ak));have e3:N db+2-N m=(N db+1-N m)+1:=by omega
     rw[e3]at av;have od:Am w5 (aD (M (H w)) i)=O (Z E5 0 0):=by rw[av.cell,<-n];have:=vD (m.map aJ.val) (N db+1-N m);rw[Q8]at this;exact this
     have yd:=av.frozen i;obtain⟨aY,aZ,bf,rfl⟩:=Xg B.o.own;have bN:¬M (H w)=G:=by have:=P.o;omega
     have dw:¬G=M (H w):=by have:=P.o;omega
     rw[n]at HN;have bO:=n;have HF:Wl _:=HN;clear Nq aC bL aF bM mq az TQ bK bH D aQ bI aj bD bE C ay nV O8 r au av aa aK bn e2 e3 L HN aP;have VN:=P.o;go_upto_region 12 with fail;rw[W.o];clear o1 z1 W;go_upto_region 13 with fail;rw[X.o];clear o2 z2 X;go_wp2_with (first|(at_builtin;refine Xy rfl (.tmp 59) (.tmp 61) 28 rfl (Z aY aZ bf) (Z (O (aD (M (H wb)) 0)) 1 1) (Z va vm vc) w5 rfl rfl iW ?_));clear iW dn;go_wp2;go_region;go_wp2;go_roundw
     case rel=>exact⟨i+1,m++[aJ.mk (O (aD (M (H l)) 0)) (N f+2) a],Z va vm vc,by go_num,by omega,by rw[QI,bO];rfl,HF.o⟩
     case measure=>simp[intOf];omega
  .obtain rfl:i=N db:=by omega
   have h:=B.o;obtain⟨aY,aZ,bf,rfl⟩:=Xg h.own;have VN:=P.o;have ak:=h.K7;have aH:=h.g.at 14;have A:=h.row;rw[n,show (N db)+2-N db=1+1 by omega]at A;have o1:Am wr (aD (M (H w)) (N db))=O (Z E5 0 0):=by rw[A.cell,<-n];have:=vD (m.map aJ.val) 1;rw[Q8]at this;exact this
   have z1:=A.frozen (N db);have bN:¬M (H w)=G:=by omega
   have dw:¬G=M (H w):=by omega
   -- the first pair behind
   obtain⟨wa,De⟩:∃wa,wa=((qw wr (aD (M (H w)) (N db)) (Z (O (aD (M (H wr)+1) 0)) 1 1)).alloc (FL #[I J 77777] 3)).alloc (FL #[Z (O (aD (M (H wr)) 0)) 1 1] 23):=⟨_,rfl⟩;obtain⟨wb,q⟩:∃wb,wb=((qw wa (aD (M (H w)) (N db+1)) (Z (O (aD (M (H wa)+1) 0)) 1 1)).alloc (FL #[I J 77777] 3)).alloc (FL #[Z (O (aD (M (H wa)) 0)) 1 1] 23):=⟨_,rfl⟩;obtain⟨aP,ag,bV,bW,bX,bY⟩:=yP.pair (x:=N db) (tI:=3) (tR:=23) ak De;obtain⟨dB,ah,bZ,cu,cz,cK⟩:=yP.pair (x:=N db+1) (tI:=3) (tR:=23) (bd:=M (H w)) (by omega) q;have ax:GB wa (M (H w)) 30 (oO (m.map aJ.val++[Value.slice (O (aD (M (H wr)+1) 0)) 1 1]) 1):=by have u:=A.set (N db) (Z (O (aD (M (H wr)+1) 0)) 1 1);have S:=rP (m.map aJ.val) 1 (Z (O (aD (M (H wr)+1) 0)) 1 1);rw[Q8,n]at S;rw[S]at u;exact u.of bV
   have bP:GB wb (M (H w)) 30 (m.map aJ.val++[Value.slice (O (aD (M (H wr)+1) 0)) 1 1,Value.slice (O (aD (M (H wa)+1) 0)) 1 1]).toArray:=by
    have u:=ax.set (N db+1) (Z (O (aD (M (H wa)+1) 0)) 1 1);have S:=rP (m.map aJ.val++[Value.slice (O (aD (M (H wr)+1) 0)) 1 1]) 0 (Z (O (aD (M (H wa)+1) 0)) 1 1);rw[QI,Q8,n]at S;have h3:(oO (m.map aJ.val++[Value.slice (O (aD (M (H wr)+1) 0)) 1 1]) 1).setIfInBounds (N db+1) (Z (O (aD (M (H wa)+1) 0)) 1 1)=(m.map aJ.val++[Value.slice (O (aD (M (H wr)+1) 0)) 1 1,Value.slice (O (aD (M (H wa)+1) 0)) 1 1]).toArray:=by refine S.trans ?_;unfold oO;simp
    rw[h3]at u;exact u.of bZ
   have af:GB wb G 43 _:=h.g.of ((ah G (by omega) (by omega)).trans (ag G (by omega) (by omega)));have bQ:GB wa G 43 _:=h.g.of (ag G (by omega) (by omega));have dx:=bQ.at 14;have o2:Am wa (aD (M (H w)) (N db+1))=O (Z E5 0 0):=by rw[ax.cell];have:=vD (m.map aJ.val++[Value.slice (O (aD (M (H wr)+1) 0)) 1 1]) 0;rw[QI,Q8,n]at this;exact this
   have z2:=ax.frozen (N db+1);have dK:=af.at 14;have b9:=af.at 9;have dL:=af.frozen 9;have aG:=cK _ _ (by omega) (bY _ _ (by omega) h.qE);obtain⟨wf,R⟩:=eY (qw wb (aD G 9) (Z (O (aD (M (H w)) 0)) (N db) (N db+2)));have Q:∀b,b≠G->wf.heap[b]? = wb.heap[b]?:=λb hb=>by rw[R,QR hb]
   have aS:∀b,M (H w)<b->b<M (H wr)->wf.heap[b]? = wr.heap[b]?:=λb hl hb=>by rw[Q b (by omega),ah b (by omega) (by omega),ag b hb (by omega)]
   have aT:∀b,M (H w)<b->b<M (H wa)->wf.heap[b]? = wa.heap[b]?:=λb hl hb=>by rw[Q b (by omega),ah b hb (by omega)]
   have aU:∀b,M (H w)<b->b<M (H wb)->wf.heap[b]? = wb.heap[b]?:=λb hl hb=>Q b (by omega);have HF:Wl (alS qG w wf G 43 30 23 3 (λx y z=>#[c0,c1,c2,c3,c4,c5,c6,c7,c8,x,c10,c11,c12,c13,y,z]) db m (Z aY aZ bf) (Z (O (aD (M (H wr)+1) 0)) 1 1) (Z (O (aD (M (H wa)+1) 0)) 1 1) (M (H wr)+1) (M (H wa)+1) (Z (O (aD (M (H wr)) 0)) 1 1) (Z (O (aD (M (H wa)) 0)) 1 1)):=by
    refine⟨by rw[R];exact aG.setCell (p:=(aD G 9)) hG0 _,λj hj aA=>?_,by rw[R];simp;omega,n,?_,bP.of (Q _ bN),λi hi=>?_,?_,rfl,rfl,by omega,by omega,bW.of (aT _ (by omega) (by omega)),cu.of (aU _ (by omega) (by omega)),bX.kept aT,cz.kept aU⟩
    .rw[Q j aA,ah j (by omega) (by omega),ag j (by omega) (by omega)];exact h.Po j hj aA
    .have:=af.set 9 (Z (O (aD (M (H w)) 0)) (N db) (N db+2));rw[R];exact this
    .obtain⟨Tq,v1,v2,ht⟩:=h.tab i hi;exact⟨Tq,v1,v2,ht.kept aS⟩
    .exact Xw h.own (Qs _) (λj hj hl=>aS j (by omega) hl)
   obtain⟨W,X,dC⟩:=fe De.symm q.symm R.symm;have dE:G<M (H wr):=by omega
   have dM:M (H w)<M (H wa):=by omega
   clear h B De q R A ax bP af bQ aG Q aS aT aU aP dB ag bV bW bX bY ah bZ cu cz cK HX bR Vv;go_upto_region 16 with fail;rw[W.o];clear W o1 z1 aH;go_upto_region 17 with fail;rw[X.o];clear X o2 z2 dx;go_wp2;rw[dC.o];go_end0;exact⟨rfl,_,_,_,_,_,_,_,_,HF.o⟩
section
structure JJ(w w':U)(G tG tC tA tS tI tT tN tL tR:Nat)(ts:List ag)(q:af)(db cO:List aJ)(bc bf bk bu be bo bw bp bd:Nat)(v vr u1 u2:KX)(A:Nat->Nat)(k1 k2 s1 s2:Nat)(x1 x2:KX):Prop where
 qE:Bw w w'
 lo:M (H w)<=G
 g:GB w' G tG #[Z (O (aD bc 0)) (N ts) (N ts+2),Z (O (aD bf 0)) (N q.src.xs) (N q.src.xs+2),Z (O (aD bw 0)) (N q.wh) (N q.wh+2),EP q.group,
  Z (O (aD bk 0)) (N q.keys.xs) (N q.keys.xs+2),Z (O (aD bu 0)) (N q.sums.xs) (N q.sums.xs+2),Z (O (aD be 0)) (N q.aH.xs) (N q.aH.xs+2),Z (O (aD bo 0)) (N q.ord.xs) (N q.ord.xs+2),
  Z (O (aD bp 0)) 0 2,Z (O (aD bd 0)) (N db) (N db+2),Z (O (aD bc 0)) (N ts+2) (N ts+2),Z (O (aD bw 0)) (N q.wh+2) (N q.wh+2),v,Z (O (aD bp 0)) 2 2,Z (O (aD bd 0)) (N db+2) (N db+2),vr]
 cat:GB w' bc tT (kN ts)
 src:GB w' bf tI (aR q.src.xs)
 keys:GB w' bk tI (aR q.keys.xs)
 sums:GB w' bu tI (aR q.sums.xs)
 aH:GB w' be tI (aR q.aH.xs)
 ord:GB w' bo tI (aR q.ord.xs)
 row:w'.rowIs bw tC (N q.wh+2) (λi=>if i<N q.wh then Z (O (aD (A i) 0)) (E q.wh i lz).cs.length ((E q.wh i lz).cs.length+2) else if i=N q.wh then Z (O (aD k1 0)) 1 1 else Z (O (aD k2 0)) 1 1)
 al:∀i,i<N q.wh->GB w' (A i) tS (dO (E q.wh i lz).cs)
 own:w'.ownsRow (M (H w)) tA 1 v (N q.wh) ((List.range (N q.wh)).map λi=>Z (O (aD (A i) 0)) ((E q.wh i lz).cs.length+2) ((E q.wh i lz).cs.length+2))
 h1:GB w' k1 tS ic.toArray
 h2:GB w' k2 tS ic.toArray
 plan:GB w' bp tN (nk++nk).toArray
 len:N cO=N db
 dlo:M (H w)<=bd
 OW:GB w' bd tL (cO.map aJ.val++[u1,u2]).toArray
 tab:∀i,i<N cO->∃Tq v1 v2,kK bd w' tR tI (E cO i rz) (E db i rz).rs Tq v1 v2
 down:w'.ownsRow (M (H w)) tL 1 vr (N cO) (cO.map aJ.full)
 e1:u1=Z (O (aD s1 0)) 1 1
 e2:u2=Z (O (aD s2 0)) 1 1
 r1:GB w' s1 tR #[x1]
 r2:GB w' s2 tR #[x2]
 q1:lI bd w' tI x1
 q2:lI bd w' tI x2
 far:M (H w)<=bc/\M (H w)<=bf/\M (H w)<=bk/\M (H w)<=bu/\M (H w)<=be/\M (H w)<=bo/\M (H w)<=bw/\M (H w)<=bp/\M (H w)<=k1/\M (H w)<=k2/\M (H w)<=s1/\M (H w)<=s2
 ahx:∀i,i<N q.wh->M (H w)<=A i
theorem kK.had{tR:TypeId}{t':aJ}{rs:List ae}{Tq:Nat}{v1 v2:KX}(h:kK lo W tR tI t' rs Tq v1 v2)(hl:N rs<=1152921504606846976)(hr:∀j,j<N rs->(E rs j iz).xs.length<=1152921504606846976):bL W t'.ad t'.rs:=by
 have g:=h.len;have b:∀j,j<N t'.rs->ah.At (E t'.rs j iz) W:=λj f=>by
  obtain⟨B,e,_,k⟩:=h.rows j (by omega);rw[e];refine⟨⟨hr j (by omega),λi m=>⟨B,0,rfl,?_⟩⟩,λa d=>?_,λe=>(by cases e)⟩
  .have l:i<(E rs j iz).xs.length:=m;rw[Q5,k.cell i];unfold aR
   grind
  .cases d
   exact k.lt
 refine⟨⟨by omega,λj f=>⟨Tq,0,h.ad,?_⟩,λj f=>(b j f).1⟩,λa d=>?_,b⟩
 .rw[Q5,h.aT.cell j,QM,Jb (by simp_all),QK]
  simp_all
 .rw[h.ad]at d
  cases d;exact h.aT.lt
variable {w w':U} {G tG tC tA tS tI tT tN tL tR:Nat} {ts:List ag} {q:af} {db cO:List aJ} {bc bf bk bu be bo bw bp bd:Nat} {v vr u1 u2:KX} {A:Nat->Nat} {k1 k2 s1 s2:Nat} {x1 x2:KX}
def JJ.below(h:JJ w w' G tG tC tA tS tI tT tN tL tR ts q db cO bc bf bk bu be bo bw bp bd v vr u1 u2 A k1 k2 s1 s2 x1 x2){w'':U}(hb:Bw w' w''):JJ w w'' G tG tC tA tS tI tT tN tL tR ts q db cO bc bf bk bu be bo bw bp bd v vr u1 u2 A k1 k2 s1 s2 x1 x2:=by
 have m:∀{b t:Nat} {c:Array KX},GB w' b t c->GB w'' b t c:=λg=>g.of (hb.block _ g.lt);have d:∀b,bd<b->b<M (H w')->w''.heap[b]? = w'.heap[b]?:=λb _ n=>hb.block b n;exact⟨aj h.qE hb,h.lo,m h.g,m h.cat,m h.src,m h.keys,m h.sums,m h.aH,m h.ord,h.row.of_block (hb.block _ h.row.lt),λi e=>m (h.al i e),
  Xw h.own (Qs _) (λj _ f=>hb.block j f),m h.h1,m h.h2,m h.plan,h.len,h.dlo,m h.OW,λi e=>by
   obtain⟨k,a,b,l⟩:=h.tab i e;exact⟨k,a,b,l.kept d⟩,Xw h.down (Qs _) (λj _ f=>hb.block j f),h.e1,h.e2,m h.r1,m h.r2,h.q1.kept d,h.q2.kept d,h.far,h.ahx⟩
def JJ.had(h:JJ w w' G tG tC tA tS tI tT tN tL tR ts q db cO bc bf bk bu be bo bw bp bd v vr u1 u2 A k1 k2 s1 s2 x1 x2){d:Option Addr}{wd:U}(hd:qJ wd d db):Ch w' (O (aD bd 0)) cO:=by
 have l:=h.len;have e:∀i,i<N cO->bL w' (E cO i rz).ad (E cO i rz).rs:=λi f=>by obtain⟨m,a,b,g⟩:=h.tab i f;exact g.had (hd.2.2 i (by omega)).1 (λj k=>((hd.2.2 i (by omega)).2.2 j k).1)
 refine⟨⟨by have:=hd.1;omega,λi f=>⟨bd,0,rfl,?_⟩,λi f=>(e i f).1⟩,e⟩;rw[Q5,h.OW.cell i,QM,Jb (by simp_all),QK];simp_all
def JK(w:U):World:={ w with heap:=#[] }
def JJ.later(h:JJ w w' G tG tC tA tS tI tT tN tL tR ts q db cO bc bf bk bu be bo bw bp bd v vr u1 u2 A k1 k2 s1 s2 x1 x2)(hs:M (H w')<=M (H w''))(hk:∀b,M (H w)<=b->b<M (H w')->w''.heap[b]? = w'.heap[b]?):JJ (JK w'') w'' G tG tC tA tS tI tT tN tL tR ts q db cO bc bf bk bu be bo bw bp bd v vr u1 u2 A k1 k2 s1 s2 x1 x2:=by
 have m:∀{b t:Nat} {c:Array KX},GB w' b t c->M (H w)<=b->GB w'' b t c:=λg e=>g.of (hk _ e g.lt);have hd:=h.dlo;obtain⟨u,y,z,f4,B,f6,C,D,K,l,n,p⟩:=h.far;have d:∀b,bd<b->b<M (H w')->w''.heap[b]? = w'.heap[b]?:=λb e Q=>hk b (by omega) Q;exact⟨⟨rfl,rfl,rfl,Q4 _,λk hk=>absurd hk (by simp[JK])⟩,Q4 _,m h.g h.lo,m h.cat u,m h.src y,m h.keys z,m h.sums f4,m h.aH B,m h.ord f6,h.row.of_block (hk _ C h.row.lt),λi f=>m (h.al i f) (h.ahx i f),
  Xw h.own (Q4 _) (λj r e=>hk j r e),m h.h1 K,m h.h2 l,m h.plan D,h.len,Q4 _,m h.OW hd,λi f=>by
   obtain⟨L,a,b,P⟩:=h.tab i f;exact⟨L,a,b,P.kept d⟩,Xw h.down (Q4 _) (λj r e=>hk j r e),h.e1,h.e2,m h.r1 n,m h.r2 p,h.q1.kept d,h.q2.kept d,⟨Q4 _,Q4 _,Q4 _,Q4 _,Q4 _,Q4 _,Q4 _,Q4 _,Q4 _,Q4 _,Q4 _,Q4 _⟩,λ_ _=>Q4 _⟩
theorem JJ.same(h:JJ w w' G tG tC tA tS tI tT tN tL tR ts q db cO bc bf bk bu be bo bw bp bd v vr u1 u2 A k1 k2 s1 s2 x1 x2):∀i,i<N db->(E cO i rz).rs.length=(E db i rz).rs.length/\∀j,j<(E db i rz).rs.length->((E cO i rz).rs.getD j iz).xs=((E db i rz).rs.getD j iz).xs:=λi k=>by obtain⟨g,a,b,d⟩:=h.tab i (by grind [JJ.len]);refine⟨d.len,λj f=>?_⟩;obtain⟨B,e,_⟩:=d.rows j f;rw[e]
variable {w w':U} {G tG tC tA tS tI tT tN tL tR:Nat} {ts:List ag} {q:af} {db cO:List aJ} {bc bf bk bu be bo bw bp bd:Nat} {v vr u1 u2:KX} {A:Nat->Nat} {k1 k2 s1 s2:Nat} {x1 x2:KX}
end
def vF(ts:List ag)(j:Nat)(h:j<6):(kN ts)[N ts*6+j]? = it[j]?:=by unfold kN;rw[QM,nD _ 6 lT,Jb (by simpa [it] using h)]
def vG(ts:List ag)(j:Nat)(_h:j<6):(kN ts)[(N ts+1)*6+j]? = it[j]?:=by unfold kN;rw[QM,show (N ts+1)*6+j=N ts*6+(6+j) by omega,nD _ 6 lT,QL (by simp[it])];simp[it]
def yS(cs:List aF)(j:Nat)(h:j<5):(dO cs)[N cs*5+j]? = ic[j]?:=by unfold dO;rw[QM,nD _ 5 lS,Jb (by simpa [ic] using h)]
def yT(cs:List aF)(j:Nat)(_h:j<5):(dO cs)[(N cs+1)*5+j]? = ic[j]?:=by unfold dO;rw[QM,show (N cs+1)*5+j=N cs*5+(5+j) by omega,nD _ 5 lS,QL (by simp[ic])];simp[ic]
def sV:ai:=⟨77777,0,0,0,⟨E5,0,[]⟩,0,⟨E5,0,[]⟩⟩
def Ep:aF:=⟨F,77777,0,F,0⟩
def JM(w:U):aA w E5 []:=⟨by simp,λi a=>absurd a (by simp)⟩
def adw(h:GB w b t (nk++nk).toArray):bT w (O (aD b 0)) [sV,sV]:=by
 refine⟨by simp,λi d=>?_⟩;have a:i<2:=by simpa using d
 rcases (by omega:i=0∨i=1) with rfl|rfl
 .exact⟨b,0,rfl,h.cell _,h.cell _,h.cell _,h.cell _,h.cell _,h.cell _,h.cell _,JM w,JM w⟩
 .exact⟨b,0,rfl,h.cell _,h.cell _,h.cell _,h.cell _,h.cell _,h.cell _,h.cell _,JM w,JM w⟩
def aar(h:GB w b t ic.toArray):bS w (O (aD b 0)) [Ep]:=by
 refine⟨by simp,λi d=>?_⟩;have a:i=0:=by simpa using d
 subst a;exact⟨b,0,rfl,h.cell _,h.cell _,h.cell _,h.cell _,h.cell _⟩
def aas{k1 k2:Nat}(h0:Am w (aD b o)=O (Z (O (aD k1 0)) 1 1))(h1:Am w (aD b (o+1))=O (Z (O (aD k2 0)) 1 1))(hk1:GB w k1 t ic.toArray)(hk2:GB w k2 t ic.toArray) :
  bR w (O (aD b o)) [⟨O (aD k1 0),1,[Ep]⟩,⟨O (aD k2 0),1,[Ep]⟩]:=by
 refine⟨by simp,λi d=>?_,λi d=>?_⟩
 .have a:i<2:=by simpa using d
  rcases (by omega:i=0∨i=1) with rfl|rfl
  .exact⟨b,o,rfl,h0⟩
  .exact⟨b,o,rfl,h1⟩
 .have a:i<2:=by simpa using d
  rcases (by omega:i=0∨i=1) with rfl|rfl
  .exact aar hk1
  .exact aar hk2
theorem ahz(a b c d:Nat):∀i,i<[(⟨O (aD a 0),1,[Ep]⟩:az),⟨O (aD b 0),1,[Ep]⟩].length->
  ([(⟨O (aD a 0),1,[Ep]⟩:az),⟨O (aD b 0),1,[Ep]⟩].getD i lz).cs=([(⟨O (aD c 0),1,[Ep]⟩:az),⟨O (aD d 0),1,[Ep]⟩].getD i lz).cs:=λi e=>by grind
section
def pM(c:Array KX)(ns:List ai):Prop:=
 ∀k,k<N ns->c[k*7]? = O (I J (E ns k nz).kind)/\c[k*7+1]? = O (I J (E ns k nz).l)/\c[k*7+2]? = O (I J (E ns k nz).r)/\c[k*7+3]? = O (I J (E ns k nz).source)/\
  c[k*7+4]? = O (E ns k nz).cl.val/\c[k*7+5]? = O (I J (E ns k nz).key)/\c[k*7+6]? = O (E ns k nz).co.val
def MZ(lo:Nat)(W:U)(tI:TypeId)(m n:ai):Prop:=
 ∃P Q,m=⟨n.kind,n.l,n.r,n.source,⟨O (aD P 0),N n.cl.xs+2,n.cl.xs⟩,n.key,⟨O (aD Q 0),N n.co.xs+2,n.co.xs⟩⟩/\lo<=P/\lo<=Q/\GB W P tI (aR n.cl.xs)/\GB W Q tI (aR n.co.xs)
theorem MZ.kept{lo':Nat}{W':U}{m n:ai}(h:MZ lo W tI m n)(hl:lo'<=lo)(hk:∀b,lo<=b->b<M (H W)->W'.heap[b]? = W.heap[b]?):MZ lo' W' tI m n:=by obtain⟨P,Q,e,f,g,a,d⟩:=h;exact⟨P,Q,e,by omega,by omega,a.of (hk _ f a.lt),d.of (hk _ g d.lt)⟩
structure yU(lo:Nat)(W:U)(bp:Nat)(tN tI:TypeId)(pl ns:List ai):Prop where
 len:N ns=N pl+2
 aT:∃c,GB W bp tN c/\pM c ns
 OX:∀k,k<N pl->MZ lo W tI (E ns k nz) (E pl k nz)
 i1:E ns (N pl) nz=sV
 i2:E ns (N pl+1) nz=sV
theorem yU.kept{lo lo':Nat}{W W':U}{bp:Nat}{tN tI:TypeId}{pl ns:List ai}(h:yU lo W bp tN tI pl ns)(hl:lo'<=lo)(hb:lo<=bp)(hk:∀b,lo<=b->b<M (H W)->W'.heap[b]? = W.heap[b]?):yU lo' W' bp tN tI pl ns:=by obtain⟨c,d,e⟩:=h.aT;exact⟨h.len,⟨c,d.of (hk _ hb d.lt),e⟩,λk a=>(h.OX k a).kept hl hk,h.i1,h.i2⟩
theorem pM.at(h:pM c ns){t:TypeId}(hb:GB W b t c)(hk:k<N ns) :
  Am W (aD b (k*7))=O (I J (E ns k nz).kind)/\Am W (aD b (k*7+1))=O (I J (E ns k nz).l)/\Am W (aD b (k*7+2))=O (I J (E ns k nz).r)/\Am W (aD b (k*7+3))=O (I J (E ns k nz).source)/\
  Am W (aD b (k*7+4))=O (E ns k nz).cl.val/\Am W (aD b (k*7+5))=O (I J (E ns k nz).key)/\Am W (aD b (k*7+6))=O (E ns k nz).co.val:=by obtain⟨a,d,e,f,g,i,j⟩:=h k hk;exact⟨(hb.cell _).trans a,(hb.cell _).trans d,(hb.cell _).trans e,(hb.cell _).trans f,(hb.cell _).trans g,(hb.cell _).trans i,(hb.cell _).trans j⟩
def Br(l:List α)(n k:Nat)(z:α)(h:k<n):E (l.take n) k z=E l k z:=by simp_all
theorem M0{P:Nat}{xs:List Int}(h:GB W P tI (aR xs))(hl:N xs<=1152921504606846976):aA W (O (aD P 0)) xs:=by refine⟨hl,λi a=>⟨P,0,rfl,?_⟩⟩;rw[Q5,h.cell i];grind [aR,List.length_map]
def yU.nodes(h:yU lo W bp tN tI pl ns){ao:Option Addr}(hp:bT wd ao pl):bT W (O (aD bp 0)) (ns.take (N pl)):=by
 have r:=h.len;have a:N (ns.take (N pl))=N pl:=by simp_all
 refine⟨by rw[a];exact hp.1,λi d=>?_⟩;rw[a]at d;rw[Br _ _ _ _ d];obtain⟨c,f,g⟩:=h.aT;obtain⟨P,Q,e,_,_,j,k⟩:=h.OX i d;obtain⟨a0,l,m,a3,a4,a5,n⟩:=g.at f (show i<N ns by omega);obtain⟨b,off,_,_,_,_,_,_,_,_,p,q⟩:=hp.2 i d;refine⟨bp,0,rfl,?_⟩;rw[Q5];refine⟨a0,l,m,a3,a4,a5,n,?_,?_⟩
 .rw[e];exact M0 j p.1
 .rw[e];exact M0 k q.1
def yU.same(h:yU lo W bp tN tI pl ns):∀i,i<N pl->(E (ns.take (N pl)) i nz).same (E pl i nz):=λi a=>by obtain⟨P,Q,e,_⟩:=h.OX i a;rw[Br _ _ _ _ a,e];exact⟨rfl,rfl,rfl,rfl,rfl,rfl,rfl⟩
theorem yU.aAz(h:yU lo W bp tN tI pl ns):bT W (O (aD bp (N pl*7))) [sV,sV]:=by
 have l:=h.len;obtain⟨c,j,k⟩:=h.aT;refine⟨by simp,λi m=>?_⟩;have f:i<2:=by omega
 have e:E ns (N pl+i) nz=[sV,sV].getD i nz:=by
  rcases (by omega:i=0∨i=1) with rfl|rfl
  .exact h.i1
  .exact h.i2
 obtain⟨a0,a,b,a3,a4,a5,d⟩:=k.at j (show N pl+i<N ns by omega);rw[e]at a0 a b a3 a4 a5 d;have g:[sV,sV].getD i nz=sV:=by grind
 refine⟨bp,N pl*7,rfl,?_⟩;rw[show N pl*7+i*7=(N pl+i)*7 by omega];refine⟨a0,a,b,a3,a4,a5,d,?_,?_⟩ <;> · rw[g];exact JM W
structure zP(w w':U)(G tG tC tA tS tI tT tN tL tR:Nat)(ts:List ag)(q:af)(db cO:List aJ)(pl ns:List ai)(bc bf bk bu be bo bw bp bd:Nat)(v vr u1 u2:KX)(A:Nat->Nat)(k1 k2 s1 s2:Nat)(x1 x2:KX):Prop where
 qE:Bw w w'
 lo:M (H w)<=G
 g:GB w' G tG #[Z (O (aD bc 0)) (N ts) (N ts+2),Z (O (aD bf 0)) (N q.src.xs) (N q.src.xs+2),Z (O (aD bw 0)) (N q.wh) (N q.wh+2),EP q.group,
  Z (O (aD bk 0)) (N q.keys.xs) (N q.keys.xs+2),Z (O (aD bu 0)) (N q.sums.xs) (N q.sums.xs+2),Z (O (aD be 0)) (N q.aH.xs) (N q.aH.xs+2),Z (O (aD bo 0)) (N q.ord.xs) (N q.ord.xs+2),
  Z (O (aD bp 0)) (N pl) (N pl+2),Z (O (aD bd 0)) (N db) (N db+2),Z (O (aD bc 0)) (N ts+2) (N ts+2),Z (O (aD bw 0)) (N q.wh+2) (N q.wh+2),v,Z (O (aD bp 0)) (N pl+2) (N pl+2),Z (O (aD bd 0)) (N db+2) (N db+2),vr]
 cat:GB w' bc tT (kN ts)
 src:GB w' bf tI (aR q.src.xs)
 keys:GB w' bk tI (aR q.keys.xs)
 sums:GB w' bu tI (aR q.sums.xs)
 aH:GB w' be tI (aR q.aH.xs)
 ord:GB w' bo tI (aR q.ord.xs)
 row:w'.rowIs bw tC (N q.wh+2) (λi=>if i<N q.wh then Z (O (aD (A i) 0)) (E q.wh i lz).cs.length ((E q.wh i lz).cs.length+2) else if i=N q.wh then Z (O (aD k1 0)) 1 1 else Z (O (aD k2 0)) 1 1)
 al:∀i,i<N q.wh->GB w' (A i) tS (dO (E q.wh i lz).cs)
 own:w'.ownsRow (M (H w)) tA 1 v (N q.wh) ((List.range (N q.wh)).map λi=>Z (O (aD (A i) 0)) ((E q.wh i lz).cs.length+2) ((E q.wh i lz).cs.length+2))
 h1:GB w' k1 tS ic.toArray
 h2:GB w' k2 tS ic.toArray
 plan:yU (M (H w)) w' bp tN tI pl ns
 len:N cO=N db
 dlo:M (H w)<=bd
 OW:GB w' bd tL (cO.map aJ.val++[u1,u2]).toArray
 tab:∀i,i<N cO->∃Tq v1 v2,kK bd w' tR tI (E cO i rz) (E db i rz).rs Tq v1 v2
 down:w'.ownsRow (M (H w)) tL 1 vr (N cO) (cO.map aJ.full)
 e1:u1=Z (O (aD s1 0)) 1 1
 e2:u2=Z (O (aD s2 0)) 1 1
 r1:GB w' s1 tR #[x1]
 r2:GB w' s2 tR #[x2]
 q1:lI bd w' tI x1
 q2:lI bd w' tI x2
 far:M (H w)<=bc/\M (H w)<=bf/\M (H w)<=bk/\M (H w)<=bu/\M (H w)<=be/\M (H w)<=bo/\M (H w)<=bw/\M (H w)<=bp/\M (H w)<=k1/\M (H w)<=k2/\M (H w)<=s1/\M (H w)<=s2
 ahx:∀i,i<N q.wh->M (H w)<=A i
variable {w w':U} {G tG tC tA tS tI tT tN tL tR:Nat} {ts:List ag} {q:af} {db cO:List aJ} {pl ns:List ai} {bc bf bk bu be bo bw bp bd:Nat} {v vr u1 u2:KX} {A:Nat->Nat} {k1 k2 s1 s2:Nat} {x1 x2:KX}
def zP.below(h:zP w w' G tG tC tA tS tI tT tN tL tR ts q db cO pl ns bc bf bk bu be bo bw bp bd v vr u1 u2 A k1 k2 s1 s2 x1 x2){w'':U}(hb:Bw w' w''):zP w w'' G tG tC tA tS tI tT tN tL tR ts q db cO pl ns bc bf bk bu be bo bw bp bd v vr u1 u2 A k1 k2 s1 s2 x1 x2:=by
 have m:∀{b t:Nat} {c:Array KX},GB w' b t c->GB w'' b t c:=λg=>g.of (hb.block _ g.lt);have d:∀b,bd<b->b<M (H w')->w''.heap[b]? = w'.heap[b]?:=λb _ e=>hb.block b e;exact⟨aj h.qE hb,h.lo,m h.g,m h.cat,m h.src,m h.keys,m h.sums,m h.aH,m h.ord,h.row.of_block (hb.block _ h.row.lt),λi f=>m (h.al i f),
  Xw h.own (Qs _) (λj _ k=>hb.block j k),m h.h1,m h.h2,h.plan.kept (Qs _) h.far.2.2.2.2.2.2.2.1 (λb _ e=>hb.block b e),h.len,h.dlo,m h.OW,λi f=>by
   obtain⟨l,a,b,n⟩:=h.tab i f;exact⟨l,a,b,n.kept d⟩,Xw h.down (Qs _) (λj _ k=>hb.block j k),h.e1,h.e2,m h.r1,m h.r2,h.q1.kept d,h.q2.kept d,h.far,h.ahx⟩
def zP.had(h:zP w w' G tG tC tA tS tI tT tN tL tR ts q db cO pl ns bc bf bk bu be bo bw bp bd v vr u1 u2 A k1 k2 s1 s2 x1 x2){d:Option Addr}{wd:U}(hd:qJ wd d db):Ch w' (O (aD bd 0)) cO:=by
 have l:=h.len;have e:∀i,i<N cO->bL w' (E cO i rz).ad (E cO i rz).rs:=λi f=>by obtain⟨m,a,b,g⟩:=h.tab i f;exact g.had (hd.2.2 i (by omega)).1 (λj k=>((hd.2.2 i (by omega)).2.2 j k).1)
 refine⟨⟨by have:=hd.1;omega,λi f=>⟨bd,0,rfl,?_⟩,λi f=>(e i f).1⟩,e⟩;rw[Q5,h.OW.cell i,QM,Jb (by simp_all),QK];simp_all
def zP.later(h:zP w w' G tG tC tA tS tI tT tN tL tR ts q db cO pl ns bc bf bk bu be bo bw bp bd v vr u1 u2 A k1 k2 s1 s2 x1 x2)(hs:M (H w')<=M (H w''))(hk:∀b,M (H w)<=b->b<M (H w')->w''.heap[b]? = w'.heap[b]?):zP (JK w'') w'' G tG tC tA tS tI tT tN tL tR ts q db cO pl ns bc bf bk bu be bo bw bp bd v vr u1 u2 A k1 k2 s1 s2 x1 x2:=by
 have m:∀{b t:Nat} {c:Array KX},GB w' b t c->M (H w)<=b->GB w'' b t c:=λg e=>g.of (hk _ e g.lt);have hd:=h.dlo;obtain⟨u,y,z,f4,B,f6,C,D,K,l,n,p⟩:=h.far;have d:∀b,bd<b->b<M (H w')->w''.heap[b]? = w'.heap[b]?:=λb e Q=>hk b (by omega) Q;exact⟨⟨rfl,rfl,rfl,Q4 _,λk hk=>absurd hk (by simp[JK])⟩,Q4 _,m h.g h.lo,m h.cat u,m h.src y,m h.keys z,m h.sums f4,m h.aH B,m h.ord f6,h.row.of_block (hk _ C h.row.lt),λi f=>m (h.al i f) (h.ahx i f),
  Xw h.own (Q4 _) (λj r e=>hk j r e),m h.h1 K,m h.h2 l,h.plan.kept (Q4 _) D hk,h.len,Q4 _,m h.OW hd,λi f=>by
   obtain⟨L,a,b,P⟩:=h.tab i f;exact⟨L,a,b,P.kept d⟩,Xw h.down (Q4 _) (λj r e=>hk j r e),h.e1,h.e2,m h.r1 n,m h.r2 p,h.q1.kept d,h.q2.kept d,⟨Q4 _,Q4 _,Q4 _,Q4 _,Q4 _,Q4 _,Q4 _,Q4 _,Q4 _,Q4 _,Q4 _,Q4 _⟩,λ_ _=>Q4 _⟩
theorem zP.same(h:zP w w' G tG tC tA tS tI tT tN tL tR ts q db cO pl ns bc bf bk bu be bo bw bp bd v vr u1 u2 A k1 k2 s1 s2 x1 x2):∀i,i<N db->(E cO i rz).rs.length=(E db i rz).rs.length/\∀j,j<(E db i rz).rs.length->((E cO i rz).rs.getD j iz).xs=((E db i rz).rs.getD j iz).xs:=λi k=>by obtain⟨g,a,b,d⟩:=h.tab i (by grind [zP.len]);refine⟨d.len,λj f=>?_⟩;obtain⟨B,e,_⟩:=d.rows j f;rw[e]
variable {w w':U} {G tG tC tA tS tI tT tN tL tR:Nat} {ts:List ag} {q:af} {db cO:List aJ} {pl ns:List ai} {bc bf bk bu be bo bw bp bd:Nat} {v vr u1 u2:KX} {A:Nat->Nat} {k1 k2 s1 s2:Nat} {x1 x2:KX}
def JN(h:zP w w' G tG tC tA tS tI tT tN tL tR ts q db cO pl ns bc bf bk bu be bo bw bp bd v vr u1 u2 A k1 k2 s1 s2 x1 x2)(hq:q.At wd):(vE q bf bk bu be bo bw A).At w':=
 ⟨En h.src hq.src.1,akt rfl h.row (λi a=>by simp_all) h.al hq.wh.1 (λi a=>(hq.wh.2.2 i a).1),En h.keys hq.keys.1,En h.sums hq.sums.1,En h.aH hq.aH.1,En h.ord hq.ord.1⟩
end
def sK(c:Array KX)(o:Nat)(v0 v1 v2 v3 v4 v5 v6:KX):Array Value:=
 ((((((c.setIfInBounds o v0).setIfInBounds (o+1) v1).setIfInBounds (o+2) v2).setIfInBounds (o+3) v3).setIfInBounds (o+4) v4).setIfInBounds (o+5) v5).setIfInBounds (o+6) v6
def bX{c:Array KX}{i j:Nat}{v:KX}(h:i≠j):(c.setIfInBounds i v)[j]? = c[j]?:=by rw[Array.getElem?_setIfInBounds,QC h]
def yV{v:KX}(h:i<c.size):(c.setIfInBounds i v)[i]? = O v:=by rw[Array.getElem?_setIfInBounds,Qu rfl,Qu h]
def sM(c:Array KX)(o:Nat)(v0 v1 v2 v3 v4 v5 v6:KX){x:Nat}(h:x<o∨o+7<=x):(sK c o v0 v1 v2 v3 v4 v5 v6)[x]? = c[x]?:=by unfold sK;rw[bX (by omega),bX (by omega),bX (by omega),bX (by omega),bX (by omega),bX (by omega),bX (by omega)]
def akv(c:Array KX)(o:Nat)(v0 v1 v2 v3 v4 v5 v6:KX)(h:o+6<c.size) :
  (sK c o v0 v1 v2 v3 v4 v5 v6)[o]? = O v0/\(sK c o v0 v1 v2 v3 v4 v5 v6)[o+1]? = O v1/\(sK c o v0 v1 v2 v3 v4 v5 v6)[o+2]? = O v2/\(sK c o v0 v1 v2 v3 v4 v5 v6)[o+3]? = O v3/\
  (sK c o v0 v1 v2 v3 v4 v5 v6)[o+4]? = O v4/\(sK c o v0 v1 v2 v3 v4 v5 v6)[o+5]? = O v5/\(sK c o v0 v1 v2 v3 v4 v5 v6)[o+6]? = O v6:=by
 unfold sK;refine⟨?_,?_,?_,?_,?_,?_,?_⟩
 .rw[bX (by omega),bX (by omega),bX (by omega),bX (by omega),bX (by omega),bX (by omega),yV (by omega)]
 .rw[bX (by omega),bX (by omega),bX (by omega),bX (by omega),bX (by omega),yV (by simp only[Jn];omega)]
 .rw[bX (by omega),bX (by omega),bX (by omega),bX (by omega),yV (by simp only[Jn];omega)]
 .rw[bX (by omega),bX (by omega),bX (by omega),yV (by simp only[Jn];omega)]
 .rw[bX (by omega),bX (by omega),yV (by simp only[Jn];omega)]
 .rw[bX (by omega),yV (by simp only[Jn];omega)]
 .rw[yV (by simp only[Jn];omega)]
def World.sK(W:U)(b o:Nat)(v0 v1 v2 v3 v4 v5 v6:KX):World:=
 qw (qw (qw (qw (qw (qw (qw W (aD b o) v0) (aD b (o+1)) v1) (aD b (o+2)) v2) (aD b (o+3)) v3) (aD b (o+4)) v4) (aD b (o+5)) v5) (aD b (o+6)) v6
def World.akw{t:TypeId}(h:GB W b t c)(o:Nat)(v0 v1 v2 v3 v4 v5 v6:KX):GB (World.sK W b o v0 v1 v2 v3 v4 v5 v6) b t (Zz.sK c o v0 v1 v2 v3 v4 v5 v6):=
 ((((((h.set o v0).set (o+1) v1).set (o+2) v2).set (o+3) v3).set (o+4) v4).set (o+5) v5).set (o+6) v6
def World.akx(W:U)(b o:Nat)(v0 v1 v2 v3 v4 v5 v6:KX){j:Nat}(h:j≠b):(World.sK W b o v0 v1 v2 v3 v4 v5 v6).heap[j]? = W.heap[j]?:=by unfold World.sK;rw[QR h,QR h,QR h,QR h,QR h,QR h,QR h]
def World.adE(W:U)(b o:Nat)(v0 v1 v2 v3 v4 v5 v6:KX):M (H (World.sK W b o v0 v1 v2 v3 v4 v5 v6))=M (H W):=by unfold World.sK;simp only[Jr]
def World.Yr(h:Below lo w W)(hb:lo<=b)(v0 v1 v2 v3 v4 v5 v6:KX):Below lo w (World.sK W b o v0 v1 v2 v3 v4 v5 v6):=
 ((((((h.setCell (p:=(aD b o)) hb v0).setCell (p:=(aD b (o+1))) hb v1).setCell (p:=(aD b (o+2))) hb v2).setCell (p:=(aD b (o+3))) hb v3).setCell (p:=(aD b (o+4))) hb v4).setCell (p:=(aD b (o+5))) hb v5).setCell (p:=(aD b (o+6))) hb v6
def mY(l:List α)(k j:Nat)(x z:α)(hk:k<N l):E (l.set k x) j z=if j=k then x else E l j z:=by
 by_cases h:j=k
 .subst h;rw[Qu rfl];simp[List.getD,hk]
 .rw[QC h];simp only[List.getD,List.getElem?_set];rw[QC (λe=>h e.symm)]
theorem pM.lt(h:pM c ns)(hk:k<N ns):k*7+6<c.size:=by have:=(h k hk).2.2.2.2.2.2;exact(ZH.1 this).1
theorem pM.put(h:pM c ns)(hk:k<N ns)(n:ai) :
  pM (sK c (k*7) (I J n.kind) (I J n.l) (I J n.r) (I J n.source) n.cl.val (I J n.key) n.co.val) (ns.set k n):=by
 intro j a;rw[Jm]at a;rw[mY _ _ _ _ _ hk];by_cases e:j=k
 .rw[Qu e,e];exact akv c (k*7) _ _ _ _ _ _ _ (h.lt hk)
 .rw[QC e,sM _ _ _ _ _ _ _ _ _ (by omega),sM _ _ _ _ _ _ _ _ _ (by omega),sM _ _ _ _ _ _ _ _ _ (by omega),sM _ _ _ _ _ _ _ _ _ (by omega),sM _ _ _ _ _ _ _ _ _ (by omega),sM _ _ _ _ _ _ _ _ _ (by omega),sM _ _ _ _ _ _ _ _ _ (by omega)];exact h j a
def pM.ink(h:pM c ns)(hk:k<N ns)(hz:E ns k nz=nz):pM (c.setIfInBounds (k*7) (I J 77777)) (ns.set k sV):=by
 intro j a;rw[Jm]at a;rw[mY _ _ _ _ _ hk];by_cases e:j=k
 .rw[Qu e,e,yV (by have:=h.lt hk;omega),bX (by omega),bX (by omega),bX (by omega),bX (by omega),bX (by omega),bX (by omega)];have:=h k hk;rw[hz]at this;exact⟨rfl,this.2⟩
 .rw[QC e,bX (by omega),bX (by omega),bX (by omega),bX (by omega),bX (by omega),bX (by omega),bX (by omega)];exact h j a
def aky(z:Array KX)(n j:Nat)(hj:j<n):(madeCells z n)[j]? = O z[j % z.size]!:=by unfold madeCells;simp[hj]
def Yt(n:Nat):pM (madeCells zn.toArray (n*7)) (List.replicate n nz):=by
 intro k a;rw[Ja]at a;have e:E (List.replicate n nz) k nz=nz:=by simp[List.getD,a]
 have m:∀i,i<7->(madeCells zn.toArray (n*7))[k*7+i]? = O zn.toArray[i]!:=λi b=>by rw[aky _ _ _ (by omega),show (k*7+i) % zn.toArray.size=i by show (k*7+i) % 7=i;omega]
 rw[e];exact⟨m 0 (by omega),m 1 (by omega),m 2 (by omega),m 3 (by omega),m 4 (by omega),m 5 (by omega),m 6 (by omega)⟩
structure rF(w w7 W:U)(G tG tN tI:Nat)(c7:Array KX)(pl:List ai)(i:Nat)(ns:List ai)(c:Array KX):Prop where
 qE:Bw w W
 Po:∀j,j<M (H w7)->j≠G->W.heap[j]? = w7.heap[j]?
 K7:M (H w7)<M (H W)
 g:GB W G tG c7
 row:GB W (M (H w7)) tN c
 nodes:pM c ns
 len:N ns=N pl+2
 OX:∀k,k<i->MZ (M (H w7)+1) W tI (E ns k nz) (E pl k nz)
 rest:∀k,i<=k->E ns k nz=nz
theorem rF.put{w w7 W X:U}{G tG tN tI:Nat}{c7:Array KX}{pl:List ai}{i:Nat}{ns:List ai}{c:Array KX}(h:rF w w7 W G tG tN tI c7 pl i ns c)(hw:M (H w)<=M (H w7))(hG:G<M (H w7))(hi:i<N pl)(hb:Bw W X){m n:ai}(hn:E pl i nz=n)(hl:MZ (M (H w7)+1) X tI m n) :
  rF w w7 (World.sK X (M (H w7)) (i*7) (I J m.kind) (I J m.l) (I J m.r) (I J m.source) m.cl.val (I J m.key) m.co.val) G tG tN tI c7 pl (i+1) (ns.set i m) (sK c (i*7) (I J m.kind) (I J m.l) (I J m.r) (I J m.source) m.cl.val (I J m.key) m.co.val):=by
 have a:∀j,j≠M (H w7)->(World.sK X (M (H w7)) (i*7) (I J m.kind) (I J m.l) (I J m.r) (I J m.source) m.cl.val (I J m.key) m.co.val).heap[j]? = X.heap[j]?:=λj f=>World.akx _ _ _ _ _ _ _ _ _ _ f;have d:=h.len;have q:=h.K7;have t:=hb.size;refine⟨World.Yr (aj h.qE hb) hw _ _ _ _ _ _ _,λj f p=>?_,?_,?_,World.akw (h.row.of (hb.block _ h.row.lt)) _ _ _ _ _ _ _ _,h.nodes.put (by omega) m,by rw[Jm];exact d,λk u=>?_,λk u=>?_⟩
 .rw[a j (by omega),hb.block j (by omega)];exact h.Po j f p
 .rw[World.adE];omega
 .exact(h.g.of (hb.block _ h.g.lt)).of (a _ (by omega))
 .rw[mY _ _ _ _ _ (by omega)];by_cases e:k=i
  .rw[Qu e,e,hn];exact hl.kept (Qs _) (λb v _=>a b (by omega))
  .rw[QC e];exact(h.OX k (by omega)).kept (Qs _) (λb v y=>by rw[a b (by omega),hb.block b y])
 .rw[mY _ _ _ _ _ (by omega),QC (by omega)];exact h.rest k (by omega)
def rF.drew{tN tI:Nat}(h:rF w w7 W G tG tN tI c7 pl i ns c)(hb:Bw W X):rF w w7 X G tG tN tI c7 pl i ns c:=
 ⟨aj h.qE hb,λj a d=>(hb.block j (by have:=h.K7;omega)).trans (h.Po j a d),by have:=h.K7;have:=hb.size;omega,h.g.of (hb.block _ h.g.lt),h.row.of (hb.block _ h.row.lt),h.nodes,h.len,λk e=>(h.OX k e).kept (Qs _) (λb _ f=>hb.block b f),h.rest⟩
def rF.done{tN tI:Nat}(h:rF w w7 W G tG tN tI c7 pl (N pl) ns c)(hw:M (H w)<=M (H w7))(hG:G<M (H w7))(hwG:M (H w)<=G)(v:KX)
  (hX:X=qw (qw (qw W (aD (M (H w7)) (N pl*7)) (I J 77777)) (aD (M (H w7)) ((N pl+1)*7)) (I J 77777)) (aD G 8) v) :
  Bw w X/\(∀j,j<M (H w7)->j≠G->X.heap[j]? = w7.heap[j]?)/\GB X G tG (c7.setIfInBounds 8 v)/\M (H w7)<M (H X)/\yU (M (H w7)) X (M (H w7)) tN tI pl ((ns.set (N pl) sV).set (N pl+1) sV):=by
 have a:=h.len;have l:=h.K7;have d:∀j,j≠M (H w7)->j≠G->X.heap[j]? = W.heap[j]?:=λj e f=>by rw[hX,QR f,QR e,QR e]
 have m:M (H X)=M (H W):=by rw[hX];simp only[Jr]
 have n:=h.nodes.ink (k:=N pl) (by omega) (h.rest _ (Qs _));have q:=n.ink (k:=N pl+1) (by rw[Jm];omega) (by rw[mY _ _ _ _ _ (by omega),QC (by omega)];exact h.rest _ (by omega));refine⟨?_,λj r i=>?_,?_,by omega,?_⟩
 .rw[hX];exact((h.qE.setCell (p:=(aD (M (H w7)) (N pl*7))) hw _).setCell (p:=(aD (M (H w7)) ((N pl+1)*7))) hw _).setCell (p:=(aD G 8)) hwG _
 .rw[d j (by omega) i];exact h.Po j r i
 .rw[hX];exact GB.set (h.g.of (by rw[QR (by show G≠M (H w7);omega),QR (by show G≠M (H w7);omega)])) 8 v
 .refine⟨by rw[Jm,Jm];exact a,⟨_,?_,q⟩,λk t=>?_,?_,?_⟩
  .rw[hX];exact((h.row.set (N pl*7) (I J 77777)).set ((N pl+1)*7) (I J 77777)).of (QR (by show M (H w7)≠G;omega))
  .rw[mY _ _ _ _ _ (by rw[Jm];omega),QC (by omega),mY _ _ _ _ _ (by omega),QC (by omega)];exact(h.OX k t).kept (by omega) (λb e f=>d b (by omega) (by omega))
  .rw[mY _ _ _ _ _ (by rw[Jm];omega),QC (by omega),mY _ _ _ _ _ (by omega),Qu rfl]
  .rw[mY _ _ _ _ _ (by rw[Jm];omega),Qu rfl]
def adF(n:Nat)(h:n*88<=140737488351232)(w:U) :
  (Instr.makeSlice 27 (.int J ((n:Int)+2)) (.int J ((n:Int)+2))).run V w=.ok (.slice (O (aD (M (H w)) 0)) (n+2) (n+2)) (w.alloc (FL (madeCells zn.toArray ((n+2)*7)) 50)):=by obtain⟨i,e,a,b,d⟩:=Xk Tryz.aov;have:=run_make (P:=V) w 27 50 i _ Tryz.underlying27 e a J J ((n:Int)+2) ((n:Int)+2) (by omega) (Int.le_refl _) (by rw[d];omega) (by omega);rw[b,show ((n:Int)+2).toNat=n+2 by omega]at this;simpa [Value.cells,zn] using this
def Jt:=@bX
def adG(ao d po:Option Addr)(cap fB pcap:Nat)(ts:List ag)(q:af)(db:List aJ)(pl:List ai)(w:U)(hx:aN w ao ts)(hq:q.At w)(hd:qJ w d db)(hpl:bT w po pl)(hsz:N ts*48<=140737488351232)
  (z1:N q.src.xs*8<=140737488351232) (z2:N q.keys.xs*8<=140737488351232) (z3:N q.sums.xs*8<=140737488351232) (z4:N q.aH.xs*8<=140737488351232) (z5:N q.ord.xs*8<=140737488351232)
  (z6:N q.wh*24<=140737488351232) (z7:∀i,i<N q.wh->(E q.wh i lz).cs.length*40<=140737488351232)
  (y1:N db*24<=140737488351232) (y2:∀i,i<N db->(E db i rz).rs.length*24<=140737488351232) (y3:∀i,i<N db->∀j,j<(E db i rz).rs.length->((E db i rz).rs.getD j iz).xs.length*8<=140737488351232)
  (p1:N pl*88<=140737488351232) (p2:∀i,i<N pl->(E pl i nz).cl.xs.length*8<=140737488351232/\(E pl i nz).co.xs.length*8<=140737488351232) :
  Calls V 6 #[Z ao (N ts) cap,.agg q.cells,Z po (N pl) pcap,Z d (N db) fB] w λe w'=>∃G bc bf bk bu be bo bw bp bd v vr u1 u2 A k1 k2 s1 s2 x1 x2 cO ns,e=FR (Y (O (aD G 0)))/\
   zP w w' G 43 88 86 90 3 53 50 30 23 ts q db cO pl ns bc bf bk bu be bo bw bp bd v vr u1 u2 A k1 k2 s1 s2 x1 x2:=by
 have aC:Wl _:=X4 hd (X4 y1 (X4 y2 y3));have Bt:Wl _:=X4 hpl (X4 p1 p2);clear y1 y2 y3 hd p1 p2 hpl;have aF:=ahu (N ts) hsz;have hl:=hx.1;obtain⟨src,dx,aP,wh,bV,B,D,aH,u⟩:=q;have aK:aA w src.ad src.xs:=hq.src;have aa:aA w B.ad B.xs:=hq.keys;have aU:aA w D.ad D.xs:=hq.sums;have aL:aA w aH.ad aH.xs:=hq.aH;have qL:aA w u.ad u.xs:=hq.ord;have Ml:bR w dx wh:=hq.wh;clear hq;simp only at z1 z2 z3 z4 z5 z6 z7;unfold af.cells ae.val;simp only;have bq:=λ(o1 o2:Obj) (ty:TypeId)=>ahv w ((w.alloc o1).alloc o2) (M (H w)+1+1) ao cap ts hx (aj (bJ _ _) (bJ _ _)) (by simp) ty;have bz:=λ(o1 o2:Obj)=>KU ((w.alloc o1).alloc o2) (M (H w)+1+1) ts 53 (by simp);have bF:=λ(o1 o2:Obj)=>KW ((w.alloc o1).alloc o2) (M (H w)+1+1) ts 53 (by simp);have bG:=λ(o1 o2:Obj)=>Yi ((w.alloc o1).alloc o2) (M (H w)+1+1) ts 53 (by simp);have bH:=λ(o1 o2:Obj)=>Yj ((w.alloc o1).alloc o2) (M (H w)+1+1) ts 53 (by simp);go_enter Tryz.func6,Tryz.ntmps6;go_wp2_with fail;refine(yQ (Ka.start w _ _ _ _) src.ad src.cap src.xs aK z1).mono ?_;clear aF bq bz bF bG bH hx;have bX:¬M (H w)=M (H w)+1:=by omega
 have bY:¬M (H w)+1=M (H w):=by omega
 rintro e w1 ⟨b1,rfl,P1⟩;have p1:=P1.g.cell 1;have VV:=P1.g.frozen 1;have p2:=(P1.at (b:=M (H w)) (Ju _ (Ju _ (Jv _)))).cell 3;simp at p1 p2;go_wp2_with fail;refine(yQ (P1.store 1 _) B.ad B.cap B.xs aa z2).mono ?_;clear P1 p1 VV p2;rintro e w2 ⟨b2,rfl,P2⟩;simp only[QG,Qb,Qc]at P2;have p1:=P2.g.cell 4;have VV:=P2.g.frozen 4;have p2:=(P2.at (b:=M (H w)) (Ju _ (Ju _ (Ju _ (Jv _))))).cell 4;simp at p1 p2;go_wp2_with fail;refine(yQ (P2.store 4 _) D.ad D.cap D.xs aU z3).mono ?_;clear P2 p1 VV p2;rintro e w3 ⟨b3,rfl,P3⟩;simp only[QG,Qb,Qc]at P3;have p1:=P3.g.cell 5;have VV:=P3.g.frozen 5;have p2:=(P3.at (b:=M (H w)) (Ju _ (Ju _ (Ju _ (Ju _ (Jv _)))))).cell 5;simp at p1 p2;go_wp2_with fail;refine(yQ (P3.store 5 _) aH.ad aH.cap aH.xs aL z4).mono ?_;clear P3 p1 VV p2;rintro e w4 ⟨b4,rfl,P4⟩;simp only[QG,Qb,Qc]at P4;have p1:=P4.g.cell 6;have VV:=P4.g.frozen 6;have p2:=(P4.at (b:=M (H w)) (Ju _ (Ju _ (Ju _ (Ju _ (Ju _ (Jv _))))))).cell 6;simp at p1 p2;go_wp2_with fail;refine(yQ (P4.store 6 _) u.ad u.cap u.xs qL z5).mono ?_;clear P4 p1 VV p2;rintro e w5 ⟨b5,rfl,P5⟩;simp only[QG,Qb,Qc]at P5;have p1:=P5.g.cell 7;have VV:=P5.g.frozen 7;have p2:=(P5.at (b:=M (H w)) (Ju _ (Ju _ (Ju _ (Ju _ (Ju _ (Ju _ (Jv _)))))))).cell 1;simp at p1 p2;go_wp2_with fail;have P6:=P5.store 7 (Z (O (aD b5 0)) (N u.xs) (N u.xs+2));simp only[QG,Qb,Qc]at P6;clear P5 p1 VV p2;generalize qw w5 (aD (M (H w)+1) 7) (Z (O (aD b5 0)) (N u.xs) (N u.xs+2))=w6 at*;refine(Uf w w6 (M (H w)+1) dx aP wh _ _ _ _ _ _ _ _ _ _ _ _ _ _ _ Ml z6 z7 P6.qE P6.lo P6.g).mono ?_;rintro e f ⟨rfl,v,A,k1,k2,C⟩;have ah:=P6.g.lt;obtain⟨c7,ak,P7⟩:∃c,c=_/\Ka w f (M (H w)+1) 43 c _:=⟨_,rfl,P6.move C.qE C.Po C.g⟩;have aF:=adF (N pl) Bt.o.2.1;have bZ:=Bt.o.1.1;have KS:=P7.g.lt;have P:=P7.lo;have p1:Am f (aD (M (H w)+1) 13)=O (Z E5 0 0):=by rw[P7.g.cell 13,ak];rfl
 have VV:=P7.g.frozen 13;have aM:(c7.setIfInBounds 13 (Z (O (aD (M (H f)) 0)) (N pl+2) (N pl+2)))[13]? = O (Z (O (aD (M (H f)) 0)) (N pl+2) (N pl+2)):=by rw[ak];rfl
 have aV:(c7.setIfInBounds 13 (Z (O (aD (M (H f)) 0)) (N pl+2) (N pl+2)))[8]? = O (Z E5 0 0):=by rw[ak];rfl
 have bI:Wl _:=ak;clear P6 ak;have bK:Wl _:=C;have cu:Wl _:=P7;clear C Ml aK aa aU aL qL;go_wp2;have aW:Bw w f:=P7.qE;go_loopw [10] (λiv wr=>∃(i:Nat) (ns:List ai) (c:Array KX),i<=N pl/\iv=I J i/\rF w f wr (M (H w)+1) 43 50 3 (c7.setIfInBounds 13 (Z (O (aD (M (H f)) 0)) (N pl+2) (N pl+2))) pl i ns c) (λiv _=>N pl-(intOf iv).toNat)
 case atStart=>
  have aX:=aW.setCell (p:=(aD (M (H w)+1) 13)) P (Z (O (aD (M (H f)) 0)) (N pl+2) (N pl+2));refine⟨0,List.replicate (N pl+2) nz,_,Q4 _,rfl,⟨aX.alloc aX.size _,λj hj aI=>?_,by simp,?_,?_,Yt _,by simp,λk hk=>absurd hk (by omega),λk _=>?_⟩⟩
  .rw[QS (by simpa using hj),QR aI]
  .exact(P7.g.set 13 (Z (O (aD (M (H f)) 0)) (N pl+2) (N pl+2))).of (QS (by simpa using KS))
  .have:=iX (qw f (aD (M (H w)+1) 13) (Z (O (aD (M (H f)) 0)) (N pl+2) (N pl+2))) (FL (madeCells zn.toArray ((N pl+2)*7)) 50);rw[Jr]at this;exact this
  .simp only[List.getD,List.getElem?_replicate];split <;> rfl
 case round=>
  obtain⟨i,ns,c,hi,rfl,hL⟩:=hrel;have aG:=hL.qE;have HL:Wl _:=hL;clear hL;have aO:=aW.size;by_cases aB:i<N pl
  .obtain⟨nb,cz,bW,n0,n1,n2,n3,n4,n5,n6,au,av⟩:=Bt.o.1.2 i aB;have hz:=Bt.o.2.2 i aB;obtain⟨n,hn⟩:=eY (E pl i nz)
   rw[<-hn]at n0 n1 n2 n3 n4 n5 n6 au av hz;obtain⟨r,nl,nr,a,⟨ca,cc,t⟩,key,⟨oa,oc,L⟩⟩:=n;unfold ae.val at n4 n6;unfold ae.At at au av;simp only at n0 n1 n2 n3 n4 n5 n6 au av hz;obtain⟨m0,m1,m2,m3,m4⟩:=ji aG n0 n1 n2 n3 n4;obtain⟨m5,m6⟩:=gy aG n5 n6;clear n0 n1 n2 n3 n4 n5 n6 p1 VV aF;rw[bW];have aY:=λx (hb:Bw w x)=>Qt hb au;have aZ:=λx (hb:Bw w x)=>Qt hb av;clear au av;go_upto_region 18 with fail;clear m0 m1 m2 m3 m4 m5 m6;obtain⟨wA,ax⟩:=eY (wr.alloc (Obj.cells #[Value.int IntKind.i64 r,Value.int IntKind.i64 nl,Value.int IntKind.i64 nr,Value.int IntKind.i64 a,Value.slice ca (N t) cc,Value.int IntKind.i64 key,Value.slice oa (N L) oc] 50));rw[<-ax];have gA:GB wA (M (H wr)) 50 #[Value.int IntKind.i64 r,Value.int IntKind.i64 nl,Value.int IntKind.i64 nr,Value.int IntKind.i64 a,Value.slice ca (N t) cc,Value.int IntKind.i64 key,Value.slice oa (N L) oc]:=by rw[ax];exact iX _ _
   have bA:Bw wr wA:=by rw[ax];exact bJ _ _
   have sA:M (H wA)=M (H wr)+1:=by rw[ax];simp
   clear ax;have a4:=gA.at 4;have f4:wA.frozen? (aD (M (H wr)) 4)=false:=gA.frozen 4;go_wp2_with fail;refine(CP ca cc t wA (aY _ (aj aG bA)) hz.1).mono ?_;rintro e wB ⟨rfl,ay⟩;have gB:GB wB (M (H wr)) 50 #[Value.int IntKind.i64 r,Value.int IntKind.i64 nl,Value.int IntKind.i64 nr,Value.int IntKind.i64 a,Value.slice ca (N t) cc,Value.int IntKind.i64 key,Value.slice oa (N L) oc]:=by rw[ay];exact gA.of (QS gA.lt)
   have lB:GB wB (M (H wr)+1) 3 (aR t):=by rw[ay,<-sA];exact iX _ _
   have bB:Bw wr wB:=by rw[ay];exact aj bA (bJ _ _)
   have sB:M (H wB)=M (H wr)+2:=by rw[ay];simp[sA]
   have a4:=gB.at 4;have f4:wB.frozen? (aD (M (H wr)) 4)=false:=gB.frozen 4;clear ay gA bA;go_upto_region 19 with fail;obtain⟨wC,S⟩:=eY (qw wB (aD (M (H wr)) 4) (Z (O (aD (M (H wr)+1) 0)) (N t) (N t+2)));rw[<-S];have gC:GB wC (M (H wr)) 50 #[Value.int IntKind.i64 r,Value.int IntKind.i64 nl,Value.int IntKind.i64 nr,Value.int IntKind.i64 a,Z (O (aD (M (H wr)+1) 0)) (N t) (N t+2),Value.int IntKind.i64 key,Value.slice oa (N L) oc]:=by rw[S];exact gB.set 4 _
   have lC:GB wC (M (H wr)+1) 3 (aR t):=by rw[S];exact lB.of (QR (by simp))
   have bC:Bw wr wC:=by rw[S];exact bB.setCell (p:=(aD (M (H wr)) 4)) (Qs _) _
   have sC:M (H wC)=M (H wr)+2:=by rw[S,Jr,sB]
   clear S gB lB bB a4 f4;have a6:=gC.at 6;go_wp2_with fail;refine(CP oa oc L wC (aZ _ (aj aG bC)) hz.2).mono ?_;rintro e wD ⟨rfl,W⟩;have gD:GB wD (M (H wr)) 50 #[Value.int IntKind.i64 r,Value.int IntKind.i64 nl,Value.int IntKind.i64 nr,Value.int IntKind.i64 a,Z (O (aD (M (H wr)+1) 0)) (N t) (N t+2),Value.int IntKind.i64 key,Value.slice oa (N L) oc]:=by rw[W];exact gC.of (QS gC.lt)
   have lD:GB wD (M (H wr)+1) 3 (aR t):=by rw[W];exact lC.of (QS lC.lt)
   have mD:GB wD (M (H wr)+2) 3 (aR L):=by rw[W,<-sC];exact iX _ _
   have bD:Bw wr wD:=by rw[W];exact aj bC (bJ _ _)
   have sD:M (H wD)=M (H wr)+3:=by rw[W];simp[sC]
   have a6:=gD.at 6;have f6:wD.frozen? (aD (M (H wr)) 6)=false:=gD.frozen 6;clear W gC bC lC;go_upto_region 20 with fail;obtain⟨wE,R⟩:=eY (qw wD (aD (M (H wr)) 6) (Z (O (aD (M (H wr)+2) 0)) (N L) (N L+2)));rw[<-R];have gE:GB wE (M (H wr)) 50 #[Value.int IntKind.i64 r,Value.int IntKind.i64 nl,Value.int IntKind.i64 nr,Value.int IntKind.i64 a,Z (O (aD (M (H wr)+1) 0)) (N t) (N t+2),Value.int IntKind.i64 key,Z (O (aD (M (H wr)+2) 0)) (N L) (N L+2)]:=by rw[R];exact gD.set 6 _
   have lE:GB wE (M (H wr)+1) 3 (aR t):=by rw[R];exact lD.of (QR (by simp))
   have mE:GB wE (M (H wr)+2) 3 (aR L):=by rw[R];exact mD.of (QR (by simp))
   have bE:Bw wr wE:=by rw[R];exact bD.setCell (p:=(aD (M (H wr)) 6)) (Qs _) _
   have sE:M (H wE)=M (H wr)+3:=by rw[R,Jr,sD]
   clear R gD lD mD bD a6 f6;obtain⟨e0,e1,e2,e3,e4,e5,e6⟩:=gE.k7;have l:GB wE (M (H f)) 50 c:=HL.o.row.of (bE.block _ HL.o.row.lt);obtain⟨y0,y1,y2,y3,y4,y5,y6⟩:=HL.o.nodes.at l (show i<N ns by have:=HL.o.len;omega);rw[HL.o.rest i (Qs _)]at y0 y1 y2 y3 y4 y5 y6;have z0:=l.frozen (i*7);have bL:=l.frozen (i*7+1);have bM:=l.frozen (i*7+2);have bN:=l.frozen (i*7+3);have bO:=l.frozen (i*7+4);have bP:=l.frozen (i*7+5);have bQ:=l.frozen (i*7+6);have gG:GB wE (M (H w)+1) 43 _:=HL.o.g.of (bE.block _ HL.o.g.lt);have aQ:Am wE (aD (M (H w)+1) 13)=O (Z (O (aD (M (H f)) 0)) (N pl+2) (N pl+2)):=by rw[gG.cell 13,aM]
   have HX:Wl _:=HL.o.put (m:=⟨r,nl,nr,a,⟨O (aD (M (H wr)+1) 0),N t+2,t⟩,key,⟨O (aD (M (H wr)+2) 0),N L+2,L⟩⟩) aO KS aB bE hn.symm ⟨M (H wr)+1,M (H wr)+2,rfl,by have:=HL.o.K7;omega,by have:=HL.o.K7;omega,lE,mE⟩;clear lE mE gE gG aY aZ hz l hn;go_region_with fail
   all_goals
    have hX:=HX.o;unfold World.sK ae.val at hX;simp only at hX;clear HX e0 e1 e2 e3 e4 e5 e6 y0 y1 y2 y3 y4 y5 y6 z0 bL bM bN bO bP bQ aQ;obtain⟨X,eX⟩:∃X,X=qw (qw (qw (qw (qw (qw (qw wE (aD (M (H f)) (i*7)) (I J r)) (aD (M (H f)) (i*7+1)) (I J nl)) (aD (M (H f)) (i*7+2)) (I J nr)) (aD (M (H f)) (i*7+3)) (I J a)) (aD (M (H f)) (i*7+4)) (Z (O (aD (M (H wr)+1) 0)) (N t) (N t+2))) (aD (M (H f)) (i*7+5)) (I J key)) (aD (M (H f)) (i*7+6)) (Z (O (aD (M (H wr)+2) 0)) (N L) (N L+2)):=⟨_,rfl⟩;rw[<-eX]at hX ⊢;clear eX;have HX:Wl _:=hX;clear hX;go_wp2;go_roundw
    case rel=>exact⟨i+1,_,_,by omega,by go_num,HX.o.drew (by first|exact Qy (Qr _ _) _|exact Below.drew (Qr _ _))⟩
    case measure=>simp[intOf];omega
  .obtain rfl:i=N pl:=by omega
   have hL:=HL.o;have bg:=hL.len;have hg:=hL.g;have y:=hL.row;have aQ:Am wr (aD (M (H w)+1) 13)=O (Z (O (aD (M (H f)) 0)) (N pl+2) (N pl+2)):=by rw[hg.cell 13,aM]
   have h8:Am wr (aD (M (H w)+1) 8)=O (Z E5 0 0):=by rw[hg.cell 8,aV]
   have f8:=hg.frozen 8;have r0:Am wr (aD (M (H f)) (N pl*7))=O (I J 0):=by
    have:=(hL.nodes.at y (show N pl<N ns by omega)).1
    rwa [hL.rest _ (Qs _)]at this
   have r7:Am wr (aD (M (H f)) ((N pl+1)*7))=O (I J 0):=by
    have:=(hL.nodes.at y (show N pl+1<N ns by omega)).1
    rwa [hL.rest _ (by omega)]at this
   have e0:=y.frozen (N pl*7);have e7:=y.frozen ((N pl+1)*7);have bS:¬M (H f)=M (H w)+1:=by omega
   have bU:¬M (H w)+1=M (H f):=by omega
   clear p1 VV aM aV aF hL bg hg y;go_wp2_with fail;obtain⟨w8,aS⟩:∃w8,w8=qw (qw (qw wr (aD (M (H f)) (N pl*7)) (I J 77777)) (aD (M (H f)) ((N pl+1)*7)) (I J 77777)) (aD (M (H w)+1) 8) (Z (O (aD (M (H f)) 0)) (N pl) (N pl+2)):=⟨_,rfl⟩;rw[<-aS];obtain⟨zu,aT,az,cK,bn⟩:=HL.o.done aO KS P (Z (O (aD (M (H f)) 0)) (N pl) (N pl+2)) aS;clear aS;have C:=bK.o;rw[bI.o]at az;simp only[QG,Qb,Qc]at az;have P8:=P7.move zu aT az;refine(Yh w w8 (M (H w)+1) d fB db _ _ _ _ _ _ _ _ _ _ _ _ _ _ _ aC.o.1 aC.o.2.1 aC.o.2.2.1 aC.o.2.2.2 zu P az).mono ?_;rintro e w9 ⟨rfl,cO,vr,u1,u2,s1,s2,x1,x2,K⟩;have Q:=P8.move K.qE K.Po K.g;clear aQ h8 f8 r0 r7 e0 e7 bS bU az P8;have z:∀j,j<M (H f)->j≠M (H w)+1->w9.heap[j]? = f.heap[j]?:=λj hj aI=>(K.Po j (by omega) aI).trans (aT j hj aI);have HO:Wl _:=z;have HP:Wl _:=bn;clear aT z bn;go_wp2;go_ret;have z:=HO.o;refine⟨M (H w)+1,M (H w)+2,b1,b2,b3,b4,b5,M (H w6),M (H f),M (H w8),v,vr,u1,u2,A,k1,k2,s1,s2,x1,x2,cO,((ns.set (N pl) sV).set (N pl+1) sV),rfl,⟨Q.qE,Q.lo,Q.g,Q.at (Ju _ (Ju _ (Ju _ (Ju _ (Ju _ (Jv _)))))),Q.at (Ju _ (Ju _ (Ju _ (Ju _ (Jv _))))),Q.at (Ju _ (Ju _ (Ju _ (Jv _)))),Q.at (Ju _ (Ju _ (Jv _))),Q.at (Ju _ (Jv _)),Q.at (Jv _),?_,λi hi=>?_,?_,?_,?_,?_,K.len,zu.size,K.row,K.tab,Xw K.own (by have:=zu.size;omega) (λ_ _ _=>rfl),K.e1,K.e2,K.r1,K.r2,K.k1,K.k2,⟨(Q.bs (_,_) (Ju _ (Ju _ (Ju _ (Ju _ (Ju _ (Jv _))))))).2.1,(Q.bs (_,_) (Ju _ (Ju _ (Ju _ (Ju _ (Jv _)))))).2.1,(Q.bs (_,_) (Ju _ (Ju _ (Ju _ (Jv _))))).2.1,(Q.bs (_,_) (Ju _ (Ju _ (Jv _)))).2.1,(Q.bs (_,_) (Ju _ (Jv _))).2.1,(Q.bs (_,_) (Jv _)).2.1,by have:=ah;have:=P;omega,P7.qE.size,by have:=C.k1.1;have:=ah;have:=P;omega,by have:=C.k2.1;have:=ah;have:=P;omega,by have:=K.l1;have:=zu.size;omega,by have:=K.l2;have:=zu.size;omega⟩,λi hi=>by have:=(C.al i hi).1;have:=ah;have:=P;omega⟩⟩
   .exact C.row.of_block (z _ C.K7 (by omega))
   .have hA:=C.al i hi;exact hA.2.of (z _ hA.2.lt (by omega))
   .exact Xw C.own (by have:=P7.qE.size;have:=ah;omega) (λj h1 h2=>z j h2 (by omega))
   .exact C.k1.2.of (z _ C.k1.2.lt (by have:=C.k1.1;omega))
   .exact C.k2.2.of (z _ C.k2.2.lt (by have:=C.k2.1;omega))
   .exact HP.o.kept aO (Qs _) (λb h1 h2=>K.Po b h2 (by omega))
def OZ(w0 w:U)(G:Nat)(ts:List ag)(q:af)(db cO:List aJ)(pl ns:List ai)(bc bf bk bu be bo bw bp bd:Nat)(v vr u1 u2:KX)(A:Nat->Nat)(k1 k2 s1 s2:Nat)(x1 x2:KX)
  (h:zP w0 w G 43 88 86 90 3 53 50 30 23 ts q db cO pl ns bc bf bk bu be bo bw bp bd v vr u1 u2 A k1 k2 s1 s2 x1 x2)
  (hpl:N pl<=164703072086692425) (hdl:N db<=1152921504606846976) (hdr:∀i,i<N db->(E db i rz).rs.length<=1152921504606846976)
  (hts:N ts<=192153584101141162) (hwl:N q.wh<=1152921504606846976) (hcl:∀i,i<N q.wh->(E q.wh i lz).cs.length<=230584300921369395) :
  Cb 26 #[Y (O (aD G 0))] w (EP T):=by
 have aL:Am w (aD G 10)=O (Z (O (aD bc 0)) (N ts+2) (N ts+2)):=h.g.cell 10;have aM:Am w (aD G 13)=O (Z (O (aD bp 0)) (N pl+2) (N pl+2)):=h.g.cell 13;have a0:Am w (aD bc (N ts*6))=O (I J 77777):=(h.cat.cell _).trans (vF ts 0 (by omega));have a1:Am w (aD bc (N ts*6+1))=O (I J 0):=(h.cat.cell _).trans (vF ts 1 (by omega));have a2:Am w (aD bc (N ts*6+2))=O (I J 0):=(h.cat.cell _).trans (vF ts 2 (by omega));have a3:Am w (aD bc (N ts*6+3))=O (I J 0):=(h.cat.cell _).trans (vF ts 3 (by omega));have a4:Am w (aD bc (N ts*6+4))=O (I J 0):=(h.cat.cell _).trans (vF ts 4 (by omega));have a5:Am w (aD bc (N ts*6+5))=O (I J 0):=(h.cat.cell _).trans (vF ts 5 (by omega));have b0:Am w (aD bc ((N ts+1)*6))=O (I J 77777):=(h.cat.cell _).trans (vG ts 0 (by omega));have b1:Am w (aD bc ((N ts+1)*6+1))=O (I J 0):=(h.cat.cell _).trans (vG ts 1 (by omega));have b2:Am w (aD bc ((N ts+1)*6+2))=O (I J 0):=(h.cat.cell _).trans (vG ts 2 (by omega));have b3:Am w (aD bc ((N ts+1)*6+3))=O (I J 0):=(h.cat.cell _).trans (vG ts 3 (by omega));have b4:Am w (aD bc ((N ts+1)*6+4))=O (I J 0):=(h.cat.cell _).trans (vG ts 4 (by omega));have b5:Am w (aD bc ((N ts+1)*6+5))=O (I J 0):=(h.cat.cell _).trans (vG ts 5 (by omega));have aN:∀(a b c e:Int) (x:U),(Op.equalIn 9999 51 (.agg #[I J a,I J b,I J c,I J e]) (.agg #[I J a,I J b,I J c,I J e])).run V x=.ok T x:=λa b c e x=>ahy 9997 a b c e x;have aO:IntKind.i64.wrap (N pl:Int)=N pl:=by rw[XG];omega
 have aP:(N pl:Int)<=N pl+2:=by omega
 go_enter Tryz.func26,Tryz.ntmps26;go_wp2_with fail;have aa:bT (w.alloc (FL (nk++nk).toArray 50)) (O (aD bp (N pl*7))) [sV,sV]:=(h.plan.kept (W':=w.alloc (FL (nk++nk).toArray 50)) (Qs _) h.far.2.2.2.2.2.2.2.1 (λb _ hl=>QS hl)).aAz;have ae:GB (w.alloc (FL (nk++nk).toArray 50)) (M (H w)) 50 (nk++nk).toArray:=iX _ _;refine(Au (O (aD bp (N pl*7))) (O (aD (M (H w)) 0)) 2 2 [sV,sV] [sV,sV] _ aa (adw ae) rfl (λi hi=>⟨rfl,rfl,rfl,rfl,rfl,rfl,rfl⟩)).mono ?_;rintro e l ⟨rfl,ax⟩;have aQ:=aj (bJ _ _) ax;clear aO aP hpl aa ae ax a0 a1 a2 a3 a4 a5 b0 b1 b2 b3 b4 b5 aN;go_wp2_with fail;have r:∃u,u=((l.alloc (FL ic.toArray 90)).alloc (FL ic.toArray 90)).alloc (FL #[Z (O (aD (M (H l)) 0)) 1 1,Z (O (aD (M (H l)+1) 0)) 1 1] 88):=⟨_,rfl⟩;obtain⟨u,r⟩:=r;have k3:Bw w u:=by rw[r];exact aj aQ (aj (bJ _ _) (aj (bJ _ _) (bJ _ _)))
 have o0:GB u (M (H l)) 90 ic.toArray:=by show u.heap[_]? = _;rw[r,QS (by simp only[Xm];omega),QS (by simp only[Xm];omega),iX]
 have o1:GB u (M (H l)+1) 90 ic.toArray:=by show u.heap[_]? = _;rw[r,QS (by simp only[Xm];omega),show (M (H l))+1=M (H (l.alloc (FL ic.toArray 90))) by simp,iX]
 have o2:GB u (M (H l)+2) 88 #[Z (O (aD (M (H l)) 0)) 1 1,Z (O (aD (M (H l)+1) 0)) 1 1]:=by show u.heap[_]? = _;rw[r,show (M (H l))+2=M (H ((l.alloc (FL ic.toArray 90)).alloc (FL ic.toArray 90))) by simp,iX]
 have hO:=aas (o2.cell 0) (o2.cell 1) o0 o1;have ah:Am w (aD bw (N q.wh))=O (Z (O (aD k1 0)) 1 1):=by rw[h.row.cell (by omega),QC (by omega),Qu rfl]
 have ak:Am w (aD bw (N q.wh+1))=O (Z (O (aD k2 0)) 1 1):=by rw[h.row.cell (by omega),QC (by omega),QC (by omega)]
 have hI:=(aas ah ak h.h1 h.h2).below k3;have C:Am u (aD G 11)=O (Z (O (aD bw 0)) (N q.wh+2) (N q.wh+2)):=cB k3 (h.g.cell 11);have aR:Am w (aD G 12)=O v:=h.g.cell 12;have aS:Am w (aD G 15)=O vr:=h.g.cell 15;have au:Am w (aD G 14)=O (Z (O (aD bd 0)) (N db+2) (N db+2)):=h.g.cell 14;have z:=h.own;have D:=h.al;have d:=h.len;have d0:Am w (aD bd (N db))=O (Z (O (aD s1 0)) 1 1):=by rw[h.OW.cell,QM,QL (by simp;omega),Q8,d,Xr,h.e1];rfl
 have d1:Am w (aD bd (N db+1))=O (Z (O (aD s2 0)) 1 1):=by rw[h.OW.cell,QM,QL (by simp;omega),Q8,d,show (N db)+1-N db=1 by omega,h.e2];rfl
 obtain⟨i1,ay,_,az⟩:=h.q1;obtain⟨i2,aA,_,aB⟩:=h.q2;have e1:Am w (aD s1 0)=O (Z (O (aD i1 0)) 1 1):=by rw[<-ay];exact h.r1.cell 0
 have e2:Am w (aD s2 0)=O (Z (O (aD i2 0)) 1 1):=by rw[<-aA];exact h.r2.cell 0
 have aU:Wl (∀k,k<N db->∃X j1 j2 m,(E cO k rz).full=Z (O (aD X 0)) (m+2) (m+2)/\m<=1152921504606846976/\Am w (aD X m)=O (Z (O (aD j1 0)) 1 1)/\Am w (aD X (m+1))=O (Z (O (aD j2 0)) 1 1)/\GB w j1 3 #[I J 77777]/\GB w j2 3 #[I J 77777]):=λk y=>by
  obtain⟨X,a1,a2,t⟩:=h.tab k (by omega);obtain⟨j1,bq,_,bz⟩:=t.k1;obtain⟨j2,bA,_,bB⟩:=t.k2;refine⟨X,j1,j2,(E db k rz).rs.length,?_,hdr k y,?_,?_,bz,bB⟩
  .unfold aJ.full;rw[t.ad,t.len,t.cap]
  .rw[t.aT.cell,QM,QL (by rw[Q8,t.len];omega),Q8,t.len,Xr,bq];rfl
  .rw[t.aT.cell,QM,QL (by rw[Q8,t.len];omega),Q8,t.len,show (E db k rz).rs.length+1-(E db k rz).rs.length=1 by omega,bA];rfl
 obtain⟨ro,rc,bC,aC⟩:∃ro rc,vr=Z ro (N db) rc/\∀k,k<N db->∃g,ro=O (aD g 0)/\Am w (aD g k)=O (E cO k rz).full:=by
  rcases mU h.down with⟨W,h2⟩|⟨g,c,W,_,_,h4⟩
  .have:cO = []:=List.map_eq_nil_iff.1 h2;rw[this]at d;exact⟨E5,0,by rw[W,<-d];rfl,λk y=>absurd y (by rw[<-d];simp)⟩
  .refine⟨O (aD g 0),c,by rw[W,d],λk y=>⟨g,rfl,?_⟩⟩;have:=h4 k (E cO k rz).full (by rw[QK];simp[List.getD,show k<N cO by omega]);rw[iw,Q5]at this;exact this
 subst bC;have aV:Wl _:=aC;clear aC ay aA d hdr;clear ah ak aL aM h hts;have av:((l.alloc (FL #[EP F,I J 77777,I J 0,EP F,I J 0] 90)).alloc (FL #[EP F,I J 77777,I J 0,EP F,I J 0] 90)).alloc (FL #[Z (O (aD (M (H l)) 0)) 1 1,Z (O (aD (M (H l)+1) 0)) 1 1] 88)=u:=r.symm;rw[av];clear av r o0 o1 o2;generalize hn:N q.wh=n at*;have aW:IntKind.i64.wrap (n:Int)=n:=by rw[XG];omega
 have aX:(n:Int)<=n+2:=by omega
 refine Qw ?_;go_big_quiet_want;refine⟨Y (O (aD G 0)),λx p=>?_,?_⟩
 .go_simp
 simp only[pA,sB,sC];go_big_quiet_on;go_big_quiet_want;refine⟨Y (O (aD G 0)),λx p=>?_,?_⟩
 .go_simp
 simp only[pA,sB,sC];go_big_quiet_on;go_big_quiet_want;refine⟨Y (O (aD G 11)),λx p=>?_,?_⟩
 .go_simp
 simp only[pA,sB,sC];go_big_quiet_on;go_big_quiet_want;refine⟨Z (O (aD bw 0)) (n+2) (n+2),λx p=>?_,?_⟩
 .have aY:=cB p C;go_simp
 simp only[pA,sB,sC];go_big_quiet_on;go_big_quiet_want;refine⟨Y (O (aD G 0)),λx p=>?_,?_⟩
 .go_simp
 simp only[pA,sB,sC];go_big_quiet_on;go_big_quiet_want;refine⟨Y (O (aD G 0)),λx p=>?_,?_⟩
 .go_simp
 simp only[pA,sB,sC];go_big_quiet_on;go_big_quiet_want;refine⟨Y (O (aD G 11)),λx p=>?_,?_⟩
 .go_simp
 simp only[pA,sB,sC];go_big_quiet_on;go_big_quiet_want;refine⟨Z (O (aD bw 0)) (n+2) (n+2),λx p=>?_,?_⟩
 .have aY:=cB p C;go_simp
 simp only[pA,sB,sC];go_big_quiet_on;go_big_quiet_want;refine⟨I J ((n:Int)+2),λx p=>?_,?_⟩
 .go_simp
 simp only[pA,sB,sC];go_big_quiet_on;go_big_quiet_want;refine⟨I J n,λx p=>?_,?_⟩
 .go_simp
 simp only[pA,sB,sC];go_big_quiet_on;go_big_quiet_want;refine⟨Z (O (aD bw n)) 2 2,λx p=>?_,?_⟩
 .go_simp
 simp only[pA,sB,sC];go_big_quiet_on;go_big_quiet_want;refine⟨Z (O (aD (M (H l)+2) 0)) 2 2,λx p=>?_,?_⟩
 .go_simp
 simp only[pA,sB,sC];go_big_quiet_on;go_big_quiet_want;refine⟨EP T,λx p=>?_,?_⟩
 .have hC:Calls V 23 #[Z (O (aD bw n)) 2 2,Z (O (aD (M (H l)+2) 0)) 2 2] x λe w''=>e=FR (EP T)/\Bw u w'':=Qx p (yR (O (aD bw n)) (O (aD (M (H l)+2) 0)) 2 2 [⟨O (aD k1 0),1,[Ep]⟩,⟨O (aD k2 0),1,[Ep]⟩] [⟨O (aD (M (H l)) 0),1,[Ep]⟩,⟨O (aD (M (H l)+1) 0),1,[Ep]⟩] x (hI.below p) (hO.below p) rfl (ahz _ _ _ _))
  go_simp
 simp only[pA,sB,sC];go_big_quiet_on;go_big_quiet_want;refine⟨EP T,λx p=>?_,?_⟩
 .go_simp
 simp only[pA,sB,sC];go_big_quiet_on;refine XH ?_;intro w4 aK;have k4:=aj k3 aK;clear hO hI C aK k3 aW aX;obtain⟨vo,vc,hv,L⟩:∃vo vc,v=Z vo n vc/\∀k,k<n->∃g,vo=O (aD g 0)/\Am w (aD g k)=O (Z (O (aD (A k) 0)) ((E q.wh k lz).cs.length+2) ((E q.wh k lz).cs.length+2)):=by
  rcases z.2 with⟨rfl,hn0⟩|⟨g,cap,cur,rfl,_,hh,_,_,_,t⟩
  .exact⟨E5,0,by rw[hn0],λk y=>absurd y (by omega)⟩
  .refine⟨_,_,rfl,λk y=>⟨g,rfl,?_⟩⟩;have W:(cur.toList.take (n*1))[k]? = O (Z (O (aD (A k) 0)) ((E q.wh k lz).cs.length+2) ((E q.wh k lz).cs.length+2)):=by rw[t,QK,List.getElem?_range y];rfl
   rw[List.getElem?_take_of_lt (by omega)]at W;simp only[World.cell?,hh];simpa using W
 subst hv;clear z;go_wp2;go_loopw [8] (λi wr=>∃k:Nat,k<=n/\i=I J k/\Bw w wr) (λi _=>n-(intOf i).toNat)
 case atStart=>exact⟨0,Q4 _,rfl,k4⟩
 case round=>
  obtain⟨k,y,rfl,f⟩:=hrel;have aZ:=cB f aR;by_cases S:k<n
  .obtain⟨g,rfl,VN⟩:=L k S;have bg:=cB f VN;have j:=D k S;have bG:=hcl k S;generalize (E q.wh k lz).cs=cs at*;have p0:Am wr (aD (A k) (N cs*5))=O (EP F):=cB f ((j.cell _).trans (yS cs 0 (by omega)));have p1:Am wr (aD (A k) (N cs*5+1))=O (I J 77777):=cB f ((j.cell _).trans (yS cs 1 (by omega)));have p2:Am wr (aD (A k) (N cs*5+2))=O (I J 0):=cB f ((j.cell _).trans (yS cs 2 (by omega)));have p3:Am wr (aD (A k) (N cs*5+3))=O (EP F):=cB f ((j.cell _).trans (yS cs 3 (by omega)));have p4:Am wr (aD (A k) (N cs*5+4))=O (I J 0):=cB f ((j.cell _).trans (yS cs 4 (by omega)));have r0:Am wr (aD (A k) ((N cs+1)*5))=O (EP F):=cB f ((j.cell _).trans (yT cs 0 (by omega)));have r1:Am wr (aD (A k) ((N cs+1)*5+1))=O (I J 77777):=cB f ((j.cell _).trans (yT cs 1 (by omega)));have r2:Am wr (aD (A k) ((N cs+1)*5+2))=O (I J 0):=cB f ((j.cell _).trans (yT cs 2 (by omega)));have r3:Am wr (aD (A k) ((N cs+1)*5+3))=O (EP F):=cB f ((j.cell _).trans (yT cs 3 (by omega)));have r4:Am wr (aD (A k) ((N cs+1)*5+4))=O (I J 0):=cB f ((j.cell _).trans (yT cs 4 (by omega)));clear j D L hcl;go_wp2;go_roundw
   case rel=>exact⟨k+1,by omega,by go_num,f⟩
   case measure=>simp[intOf];omega
  .clear D L hcl;go_wp2;go_loopw [10] (λi bE=>∃k:Nat,k<=N db/\i=I J k/\Bw w bE) (λi _=>N db-(intOf i).toNat)
   case atStart=>exact⟨0,Q4 _,rfl,f⟩
   case round=>
    obtain⟨k,y,rfl,P⟩:=hrel;clear aZ f;obtain⟨bD,aF⟩:=gy P aS au;by_cases B:k<N db
    .obtain⟨g,rfl,VN⟩:=aV.o k B;obtain⟨X,j1,j2,m,aG,hm,aH,aI,Q,R⟩:=aU.o k B;rw[aG]at VN;obtain⟨bg,bR,bS⟩:=J3 P VN aH aI;have FV:=wY j1 wr (Q.of (P.block _ Q.lt));have K:=wY j2 wr (R.of (P.block _ R.lt));have bH:((m+2:Nat):Int)-1=((m+1:Nat):Int):=by omega
     have bI:((m+2:Nat):Int)-2=(m:Int):=by omega
     have bK:(m:Int)+2-1=(m:Int)+1:=by omega
     have bL:(m:Int)+2-2=(m:Int):=by omega
     have bM:IntKind.i64.wrap ((m:Int)+1)=(m:Int)+1:=by rw[XG];omega
     have bN:IntKind.i64.wrap (m:Int)=(m:Int):=by rw[XG];omega
     have bO:((m:Int)+1).toNat=m+1:=by omega
     clear aG VN aH aI Q R;go_wp2_with fail;refine K.mono ?_;rintro e w9 ⟨rfl,rfl⟩;go_wp2_with fail;refine FV.mono ?_;rintro e w9 ⟨rfl,rfl⟩;go_wp2;go_roundw
     case rel=>exact⟨k+1,by omega,by go_num,P⟩
     case measure=>simp[intOf];omega
    .have wd:((N db+2:Nat):Int)-2=(N db:Int):=by omega
     have bP:(N db:Int)+2-2=(N db:Int):=by omega
     have bQ:IntKind.i64.wrap (N db:Int)=(N db:Int):=by rw[XG];omega
     go_wp2;go_loopw [14] (λi bF=>∃k:Nat,k<=2/\i=I J ((N db+k:Nat):Int)/\Bw w bF) (λi _=>N db+2-(intOf i).toNat)
     case atStart=>exact⟨0,Q4 _,by first|rfl|simp,P⟩
     case round=>
      clear aF bD P;obtain⟨k,y,rfl,Et⟩:=hrel;obtain⟨aF,n0,n1,n2,n3⟩:=ji Et au d0 d1 e1 e2;have FV:=wY i1 wr (az.of (Et.block _ az.lt));have K:=wY i2 wr (aB.of (Et.block _ aB.lt));by_cases bU:k<2
      .rcases (by omega:k=0∨k=1) with rfl|rfl
       .go_wp2_with fail;refine FV.mono ?_;rintro e w9 ⟨rfl,rfl⟩;go_wp2;go_roundw
        case rel=>exact⟨1,by omega,by go_num,Et⟩
        case measure=>first|(simp[intOf];done)|(simp[intOf];omega)
       .go_wp2_with fail;refine K.mono ?_;rintro e w9 ⟨rfl,rfl⟩;go_wp2;go_roundw
        case rel=>exact⟨2,by omega,by go_num,Et⟩
        case measure=>first|(simp[intOf];done)|(simp[intOf];omega)
      .have bn:k=2:=by omega
       subst bn;go_wp2;go_ret;exact⟨rfl,Et⟩
def Fx(w0 w:U)(G:Nat)(ao d po:Option Addr)(cap fB pcap:Nat)(ts:List ag)(q:af)(db cO:List aJ)(pl ns:List ai)(bc bf bk bu be bo bw bp bd:Nat)(v vr u1 u2:KX)(A:Nat->Nat)(k1 k2 s1 s2:Nat)(x1' x2':KX)
  (h:zP w0 w G 43 88 86 90 3 53 50 30 23 ts q db cO pl ns bc bf bk bu be bo bw bp bd v vr u1 u2 A k1 k2 s1 s2 x1' x2') (hx:aN w ao ts) (hq:q.At w) (hd:qJ w d db) (hp:bT w po pl) :
  Cb 9 #[Y (O (aD G 0)),Z ao (N ts) cap,.agg q.cells,Z po (N pl) pcap,Z d (N db) fB] w (EP T):=by
 have aZ:=hx.1;obtain⟨f,aQ⟩:∃x,x=w.alloc (FL q.cells 26):=⟨_,rfl⟩;have L:Bw w f:=by rw[aQ];exact bJ _ _
 have fV:GB f (M (H w)) 26 q.cells:=by rw[aQ];exact iX _ _
 have p:=h.below L;have hX:aN f ao ts:=hx.below L;have hQ:q.At f:=hq.below L;have hT:aN f (O (aD bc 0)) ts:=ahw p.cat aZ;have bK:(vE q bf bk bu be bo bw A).At f:=JN p hq;have bL:=λx (m:Bw f x)=>OZ w0 x G ts q db cO pl ns bc bf bk bu be bo bw bp bd v vr u1 u2 A k1 k2 s1 s2 x1' x2' (p.below m) hp.1 hd.1 (λi S=>(hd.2.2 i S).1) aZ hq.wh.1 (λi S=>(hq.wh.2.2 i S).1);have bg:Wl (qJ f d db):=hd.below L;have bn:Wl (qJ f (O (aD bd 0)) cO):=(p.had hd).1;have N9:Wl _:=p.same;have aG:Wl _:=p.len;have bM:Wl (∀i,i<N db->∀j,j<(E db i rz).rs.length->∃B,(E cO i rz).rs.getD j iz=⟨O (aD B 0),((E db i rz).rs.getD j iz).xs.length+2,((E db i rz).rs.getD j iz).xs⟩/\GB f B 3 (aR ((E db i rz).rs.getD j iz).xs)):=λi S j hj=>by obtain⟨Tq,a,b,ht⟩:=p.tab i (by have:=p.len;omega);obtain⟨B,e,_,hB⟩:=ht.rows j hj;exact⟨B,e,hB⟩
 have dK:=hd.1;have bq:=λx (m:Bw f x)=>yR (O (aD bw 0)) q.dx (N q.wh+2) q.aP (pK q.wh A) q.wh x (bK.wh.below m) (hQ.wh.below m) (lJ _ _) (λi S=>by rw[lJ]at S;rw[Eo _ _ S]);have bN:=λx (m:Bw f x)=>nP bf q.src.ad q.src.cap q.src.xs x (p.src.of (m.block _ p.src.lt)) (Qt m hQ.src);have bO:=λx (m:Bw f x)=>nP bk q.keys.ad q.keys.cap q.keys.xs x (p.keys.of (m.block _ p.keys.lt)) (Qt m hQ.keys);have bP:=λx (m:Bw f x)=>nP bu q.sums.ad q.sums.cap q.sums.xs x (p.sums.of (m.block _ p.sums.lt)) (Qt m hQ.sums);have bQ:=λx (m:Bw f x)=>nP be q.aH.ad q.aH.cap q.aH.xs x (p.aH.of (m.block _ p.aH.lt)) (Qt m hQ.aH);have bR:=λx (m:Bw f x)=>nP bo q.ord.ad q.ord.cap q.ord.xs x (p.ord.of (m.block _ p.ord.lt)) (Qt m hQ.ord);have bz:bT f po pl:=hp.below L;have bS:=p.plan.nodes hp;have aI:N (ns.take (N pl))=N pl:=by rw[XK,p.plan.len];omega
 have bA:=λx (m:Bw f x)=>Au (O (aD bp 0)) po (N pl+2) pcap (ns.take (N pl)) pl x (bS.below m) (bz.below m) aI (λi S=>p.plan.same i (by rw[aI]at S;exact S));rw[aI]at bA;have bU:Wl (∀i,i<N pl->∃P Q,Am f (aD bp (i*7+4))=O (Z (O (aD P 0)) (E pl i nz).cl.xs.length ((E pl i nz).cl.xs.length+2))/\Am f (aD bp (i*7+6))=O (Z (O (aD Q 0)) (E pl i nz).co.xs.length ((E pl i nz).co.xs.length+2))/\
   GB f P 3 (aR (E pl i nz).cl.xs)/\GB f Q 3 (aR (E pl i nz).co.xs)):=λi S=>by obtain⟨c,hc,hn⟩:=p.plan.aT;obtain⟨P,Q,e,_,_,hP,cK⟩:=p.plan.OX i S;obtain⟨_,_,_,_,a4,_,a6⟩:=hn.at hc (show i<N ns by rw[p.plan.len];omega);rw[e]at a4 a6;exact⟨P,Q,a4,a6,hP,cK⟩
 have Rw:Wl _:=bz;have dL:=hp.1;rw[lJ]at bq;have g0:Am f (aD G 0)=O (Z (O (aD bc 0)) (N ts) (N ts+2)):=p.g.cell 0;have g1:Am f (aD G 1)=O (Z (O (aD bf 0)) (N q.src.xs) (N q.src.xs+2)):=p.g.cell 1;have g2:Am f (aD G 2)=O (Z (O (aD bw 0)) (N q.wh) (N q.wh+2)):=p.g.cell 2;have g4:Am f (aD G 4)=O (Z (O (aD bk 0)) (N q.keys.xs) (N q.keys.xs+2)):=p.g.cell 4;have g5:Am f (aD G 5)=O (Z (O (aD bu 0)) (N q.sums.xs) (N q.sums.xs+2)):=p.g.cell 5;have g6:Am f (aD G 6)=O (Z (O (aD be 0)) (N q.aH.xs) (N q.aH.xs+2)):=p.g.cell 6;have g7:Am f (aD G 7)=O (Z (O (aD bo 0)) (N q.ord.xs) (N q.ord.xs+2)):=p.g.cell 7;have g8:Am f (aD G 8)=O (Z (O (aD bp 0)) (N pl) (N pl+2)):=p.g.cell 8;have g9:Am f (aD G 9)=O (Z (O (aD bd 0)) (N db) (N db+2)):=p.g.cell 9;have dM:((N db:Int) != (N db:Int))=false:=by simp
 obtain⟨⟨sa,sc,src⟩,dx,aP,wh,aS,⟨ka,kc,u⟩,⟨ua,uc,y⟩,⟨ea,ec,aH⟩,⟨oa,oc,X⟩⟩:=q;unfold af.cells ae.val at*;simp only at*;have x0:Am f (aD (M (H w)) 0)=O (Z sa (N src) sc):=fV.cell 0;have x1:Am f (aD (M (H w)) 1)=O (Z dx (N wh) aP):=fV.cell 1;have x3:Am f (aD (M (H w)) 3)=O (Z ka (N u) kc):=fV.cell 3;have x4:Am f (aD (M (H w)) 4)=O (Z ua (N y) uc):=fV.cell 4;have x5:Am f (aD (M (H w)) 5)=O (Z ea (N aH) ec):=fV.cell 5;have x6:Am f (aD (M (H w)) 6)=O (Z oa (N X) oc):=fV.cell 6;have Kg:Wl (Bw f (w.alloc (FL #[Z sa (N src) sc,Z dx (N wh) aP,EP aS,Z ka (N u) kc,Z ua (N y) uc,Z ea (N aH) ec,Z oa (N X) oc] 26))):=show Below _ _ _ by rw[aQ];exact Qr _ _
 have rH:Wl (Bw w f):=L;have bV:∀(a b c e:Int) (x:U),(Op.equalIn 9999 51 (.agg #[I J a,I J b,I J c,I J e]) (.agg #[I J a,I J b,I J c,I J e])).run V x=.ok T x:=λa b c e x=>ahy 9997 a b c e x;go_enter Tryz.func9,Tryz.ntmps9;go_wp2;go_loopw [11] (λi wr=>∃k:Nat,k<=N ts/\i=I J k/\Bw f wr) (λi _=>N ts-(intOf i).toNat)
 case atStart=>exact⟨0,Q4 _,rfl,Kg.o⟩
 case round=>
  clear Kg;obtain⟨k,hk,rfl,D⟩:=hrel;by_cases bH:k<N ts
  .obtain⟨b,off,rfl,c0,c1,c2,c3,c4,c5⟩:=hX.2 k bH;obtain⟨b',Gi,cZ,d0,d1,d2,d3,d4,d5⟩:=hT.2 k bH
   cases cZ;generalize E ts k tz=t at*;obtain⟨m0,m1,m2,m3,m4,m5,n0,n1⟩:=qf D c0 c1 c2 c3 c4 c5 d0 d1;obtain⟨n2,n3,n4,n5,gg⟩:=ji D d2 d3 d4 d5 g0;simp only[Q5]at n0 n1 n2 n3 n4 n5;go_wp2;go_quiet (fail);go_wp2;go_roundw
   case rel=>exact⟨k+1,by omega,by go_num,Qy D _⟩
   case measure=>simp[intOf];omega
  .clear hX hT bV;go_wp2;refine Qw ?_;go_big_quiet_want;refine⟨Y (O (aD G 0)),λx hx=>?_,?_⟩
   .go_simp
   simp only[pA,sB,sC];go_big_quiet_on;go_big_quiet_want;refine⟨Y (O (aD G 0)),λx hx=>?_,?_⟩
   .go_simp
   simp only[pA,sB,sC];go_big_quiet_on;go_big_quiet_want;refine⟨Y (O (aD G 1)),λx hx=>?_,?_⟩
   .go_simp
   simp only[pA,sB,sC];go_big_quiet_on;go_big_quiet_want;refine⟨Y (O (aD G 2)),λx hx=>?_,?_⟩
   .go_simp
   simp only[pA,sB,sC];go_big_quiet_on;go_big_quiet_want;refine⟨Z (O (aD bw 0)) (N wh) (N wh+2),λx hx=>?_,?_⟩
   .have e:=cB (aj D hx) g2;go_simp
   simp only[pA,sB,sC];go_big_quiet_on;go_big_quiet_want;refine⟨Y (O (aD (M (H w)) 1)),λx hx=>?_,?_⟩
   .go_simp
   simp only[pA,sB,sC];go_big_quiet_on;go_big_quiet_want;refine⟨Z dx (N wh) aP,λx hx=>?_,?_⟩
   .have e:=cB (aj D hx) x1;go_simp
   simp only[pA,sB,sC];go_big_quiet_on;go_big_quiet_want;refine⟨EP T,λx hx=>?_,?_⟩
   .have hC:=Qx hx (bq x (aj D hx));go_simp
   simp only[pA,sB,sC];go_big_quiet_on;go_big_quiet_want;refine⟨EP T,λx hx=>?_,?_⟩
   .go_simp
   simp only[pA,sB,sC];go_big_quiet_on;refine XH ?_;intro wa dC;have ah:=aj D dC;go_wp2;refine Qw ?_;go_big_quiet_want;refine⟨Y (O (aD G 0)),λx hx=>?_,?_⟩
   .go_simp
   simp only[pA,sB,sC];go_big_quiet_on;go_big_quiet_want;refine⟨Y (O (aD G 0)),λx hx=>?_,?_⟩
   .go_simp
   simp only[pA,sB,sC];go_big_quiet_on;go_big_quiet_want;refine⟨Y (O (aD G 1)),λx hx=>?_,?_⟩
   .go_simp
   simp only[pA,sB,sC];go_big_quiet_on;go_big_quiet_want;refine⟨Y (O (aD G 1)),λx hx=>?_,?_⟩
   .go_simp
   simp only[pA,sB,sC];go_big_quiet_on;go_big_quiet_want;refine⟨Z (O (aD bf 0)) (N src) (N src+2),λx hx=>?_,?_⟩
   .have e:=cB (aj ah hx) g1;go_simp
   simp only[pA,sB,sC];go_big_quiet_on;go_big_quiet_want;refine⟨Y (O (aD (M (H w)) 0)),λx hx=>?_,?_⟩
   .go_simp
   simp only[pA,sB,sC];go_big_quiet_on;go_big_quiet_want;refine⟨Z sa (N src) sc,λx hx=>?_,?_⟩
   .have e:=cB (aj ah hx) x0;go_simp
   simp only[pA,sB,sC];go_big_quiet_on;go_big_quiet_want;refine⟨EP T,λx hx=>?_,?_⟩
   .have hC:=Qx hx (bN x (aj ah hx));go_simp
   simp only[pA,sB,sC];go_big_quiet_on;go_big_quiet_want;refine⟨EP T,λx hx=>?_,?_⟩
   .go_simp
   simp only[pA,sB,sC];go_big_quiet_on;refine XH ?_;intro wb dD;have ak:=aj ah dD;go_wp2;refine Qw ?_;go_big_quiet_want;refine⟨Y (O (aD G 0)),λx hx=>?_,?_⟩
   .go_simp
   simp only[pA,sB,sC];go_big_quiet_on;go_big_quiet_want;refine⟨Y (O (aD G 0)),λx hx=>?_,?_⟩
   .go_simp
   simp only[pA,sB,sC];go_big_quiet_on;go_big_quiet_want;refine⟨Y (O (aD G 1)),λx hx=>?_,?_⟩
   .go_simp
   simp only[pA,sB,sC];go_big_quiet_on;go_big_quiet_want;refine⟨Y (O (aD G 4)),λx hx=>?_,?_⟩
   .go_simp
   simp only[pA,sB,sC];go_big_quiet_on;go_big_quiet_want;refine⟨Z (O (aD bk 0)) (N u) (N u+2),λx hx=>?_,?_⟩
   .have e:=cB (aj ak hx) g4;go_simp
   simp only[pA,sB,sC];go_big_quiet_on;go_big_quiet_want;refine⟨Y (O (aD (M (H w)) 3)),λx hx=>?_,?_⟩
   .go_simp
   simp only[pA,sB,sC];go_big_quiet_on;go_big_quiet_want;refine⟨Z ka (N u) kc,λx hx=>?_,?_⟩
   .have e:=cB (aj ak hx) x3;go_simp
   simp only[pA,sB,sC];go_big_quiet_on;go_big_quiet_want;refine⟨EP T,λx hx=>?_,?_⟩
   .have hC:=Qx hx (bO x (aj ak hx));go_simp
   simp only[pA,sB,sC];go_big_quiet_on;go_big_quiet_want;refine⟨EP T,λx hx=>?_,?_⟩
   .go_simp
   simp only[pA,sB,sC];go_big_quiet_on;refine XH ?_;intro wc dE;have au:=aj ak dE;go_wp2;refine Qw ?_;go_big_quiet_want;refine⟨Y (O (aD G 0)),λx hx=>?_,?_⟩
   .go_simp
   simp only[pA,sB,sC];go_big_quiet_on;go_big_quiet_want;refine⟨Y (O (aD G 0)),λx hx=>?_,?_⟩
   .go_simp
   simp only[pA,sB,sC];go_big_quiet_on;go_big_quiet_want;refine⟨Y (O (aD G 1)),λx hx=>?_,?_⟩
   .go_simp
   simp only[pA,sB,sC];go_big_quiet_on;go_big_quiet_want;refine⟨Y (O (aD G 5)),λx hx=>?_,?_⟩
   .go_simp
   simp only[pA,sB,sC];go_big_quiet_on;go_big_quiet_want;refine⟨Z (O (aD bu 0)) (N y) (N y+2),λx hx=>?_,?_⟩
   .have e:=cB (aj au hx) g5;go_simp
   simp only[pA,sB,sC];go_big_quiet_on;go_big_quiet_want;refine⟨Y (O (aD (M (H w)) 4)),λx hx=>?_,?_⟩
   .go_simp
   simp only[pA,sB,sC];go_big_quiet_on;go_big_quiet_want;refine⟨Z ua (N y) uc,λx hx=>?_,?_⟩
   .have e:=cB (aj au hx) x4;go_simp
   simp only[pA,sB,sC];go_big_quiet_on;go_big_quiet_want;refine⟨EP T,λx hx=>?_,?_⟩
   .have hC:=Qx hx (bP x (aj au hx));go_simp
   simp only[pA,sB,sC];go_big_quiet_on;go_big_quiet_want;refine⟨EP T,λx hx=>?_,?_⟩
   .go_simp
   simp only[pA,sB,sC];go_big_quiet_on;refine XH ?_;intro wd dF;have av:=aj au dF;go_wp2;refine Qw ?_;go_big_quiet_want;refine⟨Y (O (aD G 0)),λx hx=>?_,?_⟩
   .go_simp
   simp only[pA,sB,sC];go_big_quiet_on;go_big_quiet_want;refine⟨Y (O (aD G 0)),λx hx=>?_,?_⟩
   .go_simp
   simp only[pA,sB,sC];go_big_quiet_on;go_big_quiet_want;refine⟨Y (O (aD G 1)),λx hx=>?_,?_⟩
   .go_simp
   simp only[pA,sB,sC];go_big_quiet_on;go_big_quiet_want;refine⟨Y (O (aD G 6)),λx hx=>?_,?_⟩
   .go_simp
   simp only[pA,sB,sC];go_big_quiet_on;go_big_quiet_want;refine⟨Z (O (aD be 0)) (N aH) (N aH+2),λx hx=>?_,?_⟩
   .have e:=cB (aj av hx) g6;go_simp
   simp only[pA,sB,sC];go_big_quiet_on;go_big_quiet_want;refine⟨Y (O (aD (M (H w)) 5)),λx hx=>?_,?_⟩
   .go_simp
   simp only[pA,sB,sC];go_big_quiet_on;go_big_quiet_want;refine⟨Z ea (N aH) ec,λx hx=>?_,?_⟩
   .have e:=cB (aj av hx) x5;go_simp
   simp only[pA,sB,sC];go_big_quiet_on;go_big_quiet_want;refine⟨EP T,λx hx=>?_,?_⟩
   .have hC:=Qx hx (bQ x (aj av hx));go_simp
   simp only[pA,sB,sC];go_big_quiet_on;go_big_quiet_want;refine⟨EP T,λx hx=>?_,?_⟩
   .go_simp
   simp only[pA,sB,sC];go_big_quiet_on;refine XH ?_;intro we dG;have ax:=aj av dG;go_wp2;refine Qw ?_;go_big_quiet_want;refine⟨Y (O (aD G 0)),λx hx=>?_,?_⟩
   .go_simp
   simp only[pA,sB,sC];go_big_quiet_on;go_big_quiet_want;refine⟨Y (O (aD G 0)),λx hx=>?_,?_⟩
   .go_simp
   simp only[pA,sB,sC];go_big_quiet_on;go_big_quiet_want;refine⟨Y (O (aD G 1)),λx hx=>?_,?_⟩
   .go_simp
   simp only[pA,sB,sC];go_big_quiet_on;go_big_quiet_want;refine⟨Y (O (aD G 7)),λx hx=>?_,?_⟩
   .go_simp
   simp only[pA,sB,sC];go_big_quiet_on;go_big_quiet_want;refine⟨Z (O (aD bo 0)) (N X) (N X+2),λx hx=>?_,?_⟩
   .have e:=cB (aj ax hx) g7;go_simp
   simp only[pA,sB,sC];go_big_quiet_on;go_big_quiet_want;refine⟨Y (O (aD (M (H w)) 6)),λx hx=>?_,?_⟩
   .go_simp
   simp only[pA,sB,sC];go_big_quiet_on;go_big_quiet_want;refine⟨Z oa (N X) oc,λx hx=>?_,?_⟩
   .have e:=cB (aj ax hx) x6;go_simp
   simp only[pA,sB,sC];go_big_quiet_on;go_big_quiet_want;refine⟨EP T,λx hx=>?_,?_⟩
   .have hC:=Qx hx (bR x (aj ax hx));go_simp
   simp only[pA,sB,sC];go_big_quiet_on;go_big_quiet_want;refine⟨EP T,λx hx=>?_,?_⟩
   .go_simp
   simp only[pA,sB,sC];go_big_quiet_on;refine XH ?_;intro wf dH;have aK:=aj ax dH;have e8:=cB aK g8;go_wp2_with fail;refine(bA _ aK).mono ?_;rintro e wg ⟨rfl,df⟩;have kg:=aj aK df;go_wp2_with fail;refine(bL _ kg).mono ?_;rintro e dQ ⟨rfl,dh⟩;have kh:=aj kg dh;have e9:=cB kh g9;go_wp2;go_loopw [20] (λiv aY=>∃i:Nat,i<=N pl/\iv=I J i/\Bw f aY) (λiv _=>N pl-(intOf iv).toNat)
   case atStart=>exact⟨0,Q4 _,rfl,kh⟩
   case round=>
   obtain⟨i,di,rfl,mJ⟩:=hrel;by_cases z:i<N pl
   .obtain⟨xb,xo,rfl,_,_,_,_,n4,_,n6,r,bD⟩:=Rw.o.2 i z;obtain⟨P,Q,l4,l6,hP,hQ⟩:=bU.o i z;generalize E pl i nz=n at*;obtain⟨dJ,nl,nr,bI,⟨ca,cc,cx⟩,key,⟨bE,bG,ox⟩⟩:=n;simp only at n4 n6 l4 l6 hP hQ r bD;have bW:=λx (m:Bw f x)=>nP P ca cc cx x (hP.of (m.block _ hP.lt)) (Qt m r)
    have bX:=λx (m:Bw f x)=>nP Q bE bG ox x (hQ.of (m.block _ hQ.lt)) (Qt m bD);go_wp2;refine Qw ?_;go_big_quiet_want;refine⟨Y (O (aD G 0)),λx hx=>?_,?_⟩
    .go_simp
    simp only[pA,sB,sC];go_big_quiet_on;go_big_quiet_want;refine⟨Y (O (aD G 0)),λx hx=>?_,?_⟩
    .go_simp
    simp only[pA,sB,sC];go_big_quiet_on;go_big_quiet_want;refine⟨Y (O (aD G 8)),λx hx=>?_,?_⟩
    .go_simp
    simp only[pA,sB,sC];go_big_quiet_on;go_big_quiet_want;refine⟨Z (O (aD bp 0)) (N pl) (N pl+2),λx hx=>?_,?_⟩
    .have e:=cB (aj mJ hx) g8;go_simp
    simp only[pA,sB,sC];go_big_quiet_on;go_big_quiet_want;refine⟨I J i,λx hx=>?_,?_⟩
    .go_simp
    simp only[pA,sB,sC];go_big_quiet_on;go_big_quiet_want;refine⟨Y (O (aD bp (i*7))),λx hx=>?_,?_⟩
    .go_simp
    simp only[pA,sB,sC];go_big_quiet_on;go_big_quiet_want;refine⟨Y (O (aD bp (i*7+4))),λx hx=>?_,?_⟩
    .go_simp
    simp only[pA,sB,sC];go_big_quiet_on;go_big_quiet_want;refine⟨Z (O (aD P 0)) (N cx) (N cx+2),λx hx=>?_,?_⟩
    .have e:=cB (aj mJ hx) l4;go_simp
    simp only[pA,sB,sC];go_big_quiet_on;go_big_quiet_want;refine⟨Z (O (aD xb xo)) (N pl) pcap,λx hx=>?_,?_⟩
    .go_simp
    simp only[pA,sB,sC];go_big_quiet_on;go_big_quiet_want;refine⟨I J i,λx hx=>?_,?_⟩
    .go_simp
    simp only[pA,sB,sC];go_big_quiet_on;go_big_quiet_want;refine⟨Y (O (aD xb (xo+i*7))),λx hx=>?_,?_⟩
    .go_simp
    simp only[pA,sB,sC];go_big_quiet_on;go_big_quiet_want;refine⟨Y (O (aD xb (xo+i*7+4))),λx hx=>?_,?_⟩
    .go_simp
    simp only[pA,sB,sC];go_big_quiet_on;go_big_quiet_want;refine⟨Z ca (N cx) cc,λx hx=>?_,?_⟩
    .have e:=cB (aj mJ hx) n4;go_simp
    simp only[pA,sB,sC];go_big_quiet_on;go_big_quiet_want;refine⟨EP T,λx hx=>?_,?_⟩
    .have hC:=Qx hx (bW x (aj mJ hx));go_simp
    simp only[pA,sB,sC];go_big_quiet_on;go_big_quiet_want;refine⟨EP T,λx hx=>?_,?_⟩
    .go_simp
    simp only[pA,sB,sC];go_big_quiet_on;refine XH ?_;intro wq aW;have kq:=aj mJ aW;go_wp2;refine Qw ?_;go_big_quiet_want;refine⟨Y (O (aD G 0)),λx hx=>?_,?_⟩
    .go_simp
    simp only[pA,sB,sC];go_big_quiet_on;go_big_quiet_want;refine⟨Y (O (aD G 0)),λx hx=>?_,?_⟩
    .go_simp
    simp only[pA,sB,sC];go_big_quiet_on;go_big_quiet_want;refine⟨Y (O (aD G 8)),λx hx=>?_,?_⟩
    .go_simp
    simp only[pA,sB,sC];go_big_quiet_on;go_big_quiet_want;refine⟨Z (O (aD bp 0)) (N pl) (N pl+2),λx hx=>?_,?_⟩
    .have e:=cB (aj kq hx) g8;go_simp
    simp only[pA,sB,sC];go_big_quiet_on;go_big_quiet_want;refine⟨I J i,λx hx=>?_,?_⟩
    .go_simp
    simp only[pA,sB,sC];go_big_quiet_on;go_big_quiet_want;refine⟨Y (O (aD bp (i*7))),λx hx=>?_,?_⟩
    .go_simp
    simp only[pA,sB,sC];go_big_quiet_on;go_big_quiet_want;refine⟨Y (O (aD bp (i*7+6))),λx hx=>?_,?_⟩
    .go_simp
    simp only[pA,sB,sC];go_big_quiet_on;go_big_quiet_want;refine⟨Z (O (aD Q 0)) (N ox) (N ox+2),λx hx=>?_,?_⟩
    .have e:=cB (aj kq hx) l6;go_simp
    simp only[pA,sB,sC];go_big_quiet_on;go_big_quiet_want;refine⟨Z (O (aD xb xo)) (N pl) pcap,λx hx=>?_,?_⟩
    .go_simp
    simp only[pA,sB,sC];go_big_quiet_on;go_big_quiet_want;refine⟨I J i,λx hx=>?_,?_⟩
    .go_simp
    simp only[pA,sB,sC];go_big_quiet_on;go_big_quiet_want;refine⟨Y (O (aD xb (xo+i*7))),λx hx=>?_,?_⟩
    .go_simp
    simp only[pA,sB,sC];go_big_quiet_on;go_big_quiet_want;refine⟨Y (O (aD xb (xo+i*7+6))),λx hx=>?_,?_⟩
    .go_simp
    simp only[pA,sB,sC];go_big_quiet_on;go_big_quiet_want;refine⟨Z bE (N ox) bG,λx hx=>?_,?_⟩
    .have e:=cB (aj kq hx) n6;go_simp
    simp only[pA,sB,sC];go_big_quiet_on;go_big_quiet_want;refine⟨EP T,λx hx=>?_,?_⟩
    .have hC:=Qx hx (bX x (aj kq hx));go_simp
    simp only[pA,sB,sC];go_big_quiet_on;go_big_quiet_want;refine⟨EP T,λx hx=>?_,?_⟩
    .go_simp
    simp only[pA,sB,sC];go_big_quiet_on;refine XH ?_;intro wz aX;have kz:=aj kq aX;go_wp2;go_roundw
    case rel=>exact⟨i+1,by omega,by go_num,kz⟩
    case measure=>simp[intOf];omega
   .obtain rfl:i=N pl:=by omega
    go_wp2;go_loopw [23] (λiv aY=>∃i:Nat,i<=N db/\iv=I J i/\Bw f aY) (λiv _=>N db-(intOf iv).toNat)
    case atStart=>exact⟨0,Q4 _,rfl,mJ⟩
    case round=>
     clear mJ;obtain⟨i,di,rfl,Et⟩:=hrel;by_cases z:i<N db
     ·
      obtain⟨xb,xo,rfl,qK⟩:=Qf bg.o.2.1 z;obtain⟨yb,yo,dm,dn⟩:=Qf bn.o.2.1 (show i<N cO by have:=aG.o;omega);cases dm;have C:=qK i z;have r:=dn i (by have:=aG.o;omega);rw[Q5]at r;have aL:=bg.o.2.2 i z;have aM:=bn.o.2.2 i (by have:=aG.o;omega);obtain⟨R,aa⟩:=N9.o i z;have ay:Wl _:=bM.o i z;obtain⟨t,ht⟩:=eY (E db i rz);obtain⟨l,hl⟩:=eY (E cO i rz);rw[<-ht]at C aL R aa ay;rw[<-hl]at r aM R aa ay;obtain⟨aU,aV,rs⟩:=t;obtain⟨zZ,mW,K⟩:=l;unfold aJ.val at C r;simp only at C r R aa ay;have az:fF f aU rs:=aL;have aO:fF f zZ K:=aM;have bY:=λx (m:Bw f x)=>Av zZ aU mW aV K rs x (aO.below m) (az.below m) R (λj hj=>aa j (by omega));have dN:N rs<=1152921504606846976:=az.1;have bB:Wl _:=az;have PW:Wl _:=aO;have vH:Wl _:=R;clear aL aM az aO aa R;go_wp2;refine Qw ?_;go_big_quiet_want;refine⟨Y (O (aD G 0)),λx hx=>?_,?_⟩
      .go_simp
      simp only[pA,sB,sC];go_big_quiet_on;go_big_quiet_want;refine⟨Y (O (aD G 0)),λx hx=>?_,?_⟩
      .go_simp
      simp only[pA,sB,sC];go_big_quiet_on;go_big_quiet_want;refine⟨Y (O (aD G 9)),λx hx=>?_,?_⟩
      .go_simp
      simp only[pA,sB,sC];go_big_quiet_on;go_big_quiet_want;refine⟨Z (O (aD bd 0)) (N db) (N db+2),λx hx=>?_,?_⟩
      .have e:=cB (aj Et hx) g9;go_simp
      simp only[pA,sB,sC];go_big_quiet_on;go_big_quiet_want;refine⟨I J i,λx hx=>?_,?_⟩
      .go_simp
      simp only[pA,sB,sC];go_big_quiet_on;go_big_quiet_want;refine⟨Y (O (aD bd i)),λx hx=>?_,?_⟩
      .go_simp
      simp only[pA,sB,sC];go_big_quiet_on;go_big_quiet_want;refine⟨Z zZ (N K) mW,λx hx=>?_,?_⟩
      .have e:=cB (aj Et hx) r;go_simp
      simp only[pA,sB,sC];go_big_quiet_on;go_big_quiet_want;refine⟨Z (O (aD xb xo)) (N db) fB,λx hx=>?_,?_⟩
      .go_simp
      simp only[pA,sB,sC];go_big_quiet_on;go_big_quiet_want;refine⟨I J i,λx hx=>?_,?_⟩
      .go_simp
      simp only[pA,sB,sC];go_big_quiet_on;go_big_quiet_want;refine⟨Y (O (aD xb (xo+i))),λx hx=>?_,?_⟩
      .go_simp
      simp only[pA,sB,sC];go_big_quiet_on;go_big_quiet_want;refine⟨Z aU (N rs) aV,λx hx=>?_,?_⟩
      .have e:=cB (aj Et hx) C;go_simp
      simp only[pA,sB,sC];go_big_quiet_on;go_big_quiet_want;refine⟨EP T,λx hx=>?_,?_⟩
      .have hC:=Qx hx (bY x (aj Et hx));go_simp
      simp only[pA,sB,sC];go_big_quiet_on;go_big_quiet_want;refine⟨EP T,λx hx=>?_,?_⟩
      .go_simp
      simp only[pA,sB,sC];go_big_quiet_on;refine XH ?_;intro wq aW;have kq:=aj Et aW;have bZ:=cB kq C;go_wp2;go_loopw [25] (λjv dI=>∃j:Nat,j<=N rs/\jv=I J j/\Bw f dI) (λjv _=>N rs-(intOf jv).toNat)
      case atStart=>exact⟨0,Q4 _,rfl,kq⟩
      case round=>
      clear kq;obtain⟨j,dR,rfl,O0⟩:=hrel;have bZ:=cB O0 C;by_cases aF:j<N rs
      .obtain⟨tb,tq,rfl,dw⟩:=Qf bB.o.2.1 aF;obtain⟨lb,lo,rfl,dz⟩:=Qf PW.o.2.1 (show j<N K by have:=vH.o;omega);have aB:=dw j aF;have W:=dz j (by have:=vH.o;omega);have bC:=bB.o.2.2 j aF;obtain⟨B,dA,aC⟩:=ay.o j aF;rw[dA]at W;obtain⟨x,dB⟩:=eY (E rs j iz)
       rw[<-dB]at aB W bC aC;obtain⟨fO,bF,xs⟩:=x;unfold ae.val at aB W;simp only at aB W aC;have cu:aA f fO xs:=bC;have cz:=λx (m:Bw f x)=>nP B fO bF xs x (aC.of (m.block _ aC.lt)) (Qt m cu);have dO:j<N K:=by have:=vH.o;omega
       have dP:N K<=1152921504606846976:=by have:=vH.o;omega
       go_wp2;refine Qw ?_;go_big_quiet_want;refine⟨Y (O (aD G 0)),λx hx=>?_,?_⟩
       .go_simp
       simp only[pA,sB,sC];go_big_quiet_on;go_big_quiet_want;refine⟨Y (O (aD G 0)),λx hx=>?_,?_⟩
       .go_simp
       simp only[pA,sB,sC];go_big_quiet_on;go_big_quiet_want;refine⟨Y (O (aD G 9)),λx hx=>?_,?_⟩
       .go_simp
       simp only[pA,sB,sC];go_big_quiet_on;go_big_quiet_want;refine⟨Z (O (aD bd 0)) (N db) (N db+2),λx hx=>?_,?_⟩
       .have e:=cB (aj O0 hx) g9;go_simp
       simp only[pA,sB,sC];go_big_quiet_on;go_big_quiet_want;refine⟨I J i,λx hx=>?_,?_⟩
       .go_simp
       simp only[pA,sB,sC];go_big_quiet_on;go_big_quiet_want;refine⟨Y (O (aD bd i)),λx hx=>?_,?_⟩
       .go_simp
       simp only[pA,sB,sC];go_big_quiet_on;go_big_quiet_want;refine⟨Z (O (aD lb lo)) (N K) mW,λx hx=>?_,?_⟩
       .have e:=cB (aj O0 hx) r;go_simp
       simp only[pA,sB,sC];go_big_quiet_on;go_big_quiet_want;refine⟨I J j,λx hx=>?_,?_⟩
       .go_simp
       simp only[pA,sB,sC];go_big_quiet_on;go_big_quiet_want;refine⟨Y (O (aD lb (lo+j))),λx hx=>?_,?_⟩
       .go_simp
       simp only[pA,sB,sC];go_big_quiet_on;go_big_quiet_want;refine⟨Z (O (aD B 0)) (N xs) (N xs+2),λx hx=>?_,?_⟩
       .have e:=cB (aj O0 hx) W;go_simp
       simp only[pA,sB,sC];go_big_quiet_on;go_big_quiet_want;refine⟨Z (O (aD xb xo)) (N db) fB,λx hx=>?_,?_⟩
       .go_simp
       simp only[pA,sB,sC];go_big_quiet_on;go_big_quiet_want;refine⟨I J i,λx hx=>?_,?_⟩
       .go_simp
       simp only[pA,sB,sC];go_big_quiet_on;go_big_quiet_want;refine⟨Y (O (aD xb (xo+i))),λx hx=>?_,?_⟩
       .go_simp
       simp only[pA,sB,sC];go_big_quiet_on;go_big_quiet_want;refine⟨Z (O (aD tb tq)) (N rs) aV,λx hx=>?_,?_⟩
       .have e:=cB (aj O0 hx) C;go_simp
       simp only[pA,sB,sC];go_big_quiet_on;go_big_quiet_want;refine⟨I J j,λx hx=>?_,?_⟩
       .go_simp
       simp only[pA,sB,sC];go_big_quiet_on;go_big_quiet_want;refine⟨Y (O (aD tb (tq+j))),λx hx=>?_,?_⟩
       .go_simp
       simp only[pA,sB,sC];go_big_quiet_on;go_big_quiet_want;refine⟨Z fO (N xs) bF,λx hx=>?_,?_⟩
       .have e:=cB (aj O0 hx) aB;go_simp
       simp only[pA,sB,sC];go_big_quiet_on;go_big_quiet_want;refine⟨EP T,λx hx=>?_,?_⟩
       .have hC:=Qx hx (cz x (aj O0 hx));go_simp
       simp only[pA,sB,sC];go_big_quiet_on;go_big_quiet_want;refine⟨EP T,λx hx=>?_,?_⟩
       .go_simp
       simp only[pA,sB,sC];go_big_quiet_on;refine XH ?_;intro wz aX;have kz:=aj O0 aX;go_wp2;go_roundw
       case rel=>exact⟨j+1,by omega,by go_num,kz⟩
       case measure=>simp[intOf];omega
      .go_wp2;go_roundw
       case rel=>exact⟨i+1,by omega,by go_num,O0⟩
       case measure=>simp[intOf];omega
     .go_wp2;go_ret;exact⟨rfl,aj rH.o Et⟩
