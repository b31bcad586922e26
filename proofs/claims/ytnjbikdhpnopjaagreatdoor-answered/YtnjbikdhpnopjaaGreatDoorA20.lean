import Derived.Test.YtnjbikdhpnopjaaGreatDoorA11
import Derived.Test.YtnjbikdhpnopjaaGreatDoorA12
import Derived.Test.YtnjbikdhpnopjaaGreatDoorA16
import Derived.Test.YtnjbikdhpnopjaaGreatDoorA18
set_option linter.all false
set_option maxRecDepth 100000
set_option maxHeartbeats 0
namespace Go.Proofs.Zz
open Go.RowKit Go.Shelf
open List renaming length->N,getD->E
open Go.Value renaming slice->Z,int->I,pointer->Y,bool->Wl,agg->FL,tuple->MV
open Go.Proofs.Tryz renaming prog->V
open Option renaming some->O,none->xn
open Go.IntKind renaming i64->J
open Bool renaming false->F,true->T
open Go renaming World->U,Value->X3
open Go.World renaming heap->H,setCell->UC,cell?->UK
open _root_.Array renaming size->M
open Go.RowKit renaming Hid->Y3
open Go.Ending renaming returned->FN
variable {ts:List ah} {p q:af} {B i k m s:Nat} {ls wh:List aB} {pl:List ai} {n:ai} {ps:List aG} {W W' W0 w x y:U} {ds:List bN} {e ty:TypeId} {v:X3} {a:Addr} {xs:List Int} {db:List aP} {ao:Option Addr} {Nq:Nat->Prop} {g:Nat->X3} {f:aF} {fn:Func} {u:Tmp}
def Tryz.adE:(V.info? 49).map (λi=>(i.zero,i.size,i.bytes))=O (O (FL #[I J 0,I J 0,I J 0,I J 0,I J 0,I J 0]),6,48):=by kernel_rfl
def Tryz.ahn:(V.info? 52).map (λi=>(i.zero,i.size,i.bytes))=O (O (Z xn 0 0),1,24):=by kernel_rfl
def aho(lo:Option Addr)(lc:Nat)(l:List Int)(W:U)(hx:IntsAt W lo l)(hl:∀x∈l,-9223372036854775808<=x/\x<=9223372036854775807)(hlo:∀a,lo=O a->a.block<M (H W)) :
  Calls V 4 #[Z lo (N l) lc] W λe W'=>∃(ts:List ah) (q:af) (db:List aP) (co d:Option Addr) (cc dc:Nat),e=FN (FL (jX (Z co (N ts) cc) q (Z d (N db) dc)))/\Bc ts q db/\
   bu W' co ts/\(∀a,co=O a->M (H W)<=a.block)/\N ts<=cc/\eu (M (H W)) q W'/\uG W' d db/\Bw W W':=by
 have dC:=hx.1;obtain⟨X1,e1,b1,g1⟩:=aL W #[Z xn 0 0,Z xn 0 0,Z xn 0 0,Wl F,Z xn 0 0,Z xn 0 0,Z xn 0 0,Z xn 0 0,Z xn 0 0] 29;obtain⟨X2,e2,b2,g2⟩:=aL X1 #[Z lo (N l) lc,I J 0] 45;obtain⟨W1,e3,b3,g3⟩:=aL X2 #[Z xn 0 0,Z xn 0 0,Z xn 0 0,Wl F,Z xn 0 0,Z xn 0 0,Z xn 0 0,Z xn 0 0,Z xn 0 0] 29;have s1:M (H X1)=M (H W)+1:=by rw[<-e1];simp
 have s2:M (H X2)=M (H W)+1+1:=by rw[<-e2];simp[s1]
 have s3:M (H W1)=M (H W)+3:=by rw[<-e3];simp[s2]
 rw[s1]at g2;rw[s2]at g3;have D:=az b1 (az b2 b3);have ay:=g2.keep (QB (s:=λ_=>True) b3 λ_ h _=>h) trivial;have aW:aV (M (H W)+1) lo lc l W1:=⟨⟨0,QW _,ay.cell 1⟩,ay.cell 0,ay.frozen 1,Qo D hx,λa p=>by have:=hlo a p;omega⟩;have aX:=Zu (M (H W)+1) lo lc l 3 W1 aW (by omega) hl;obtain⟨HR,HG,HB,HL,JN,E1,E2⟩:=ze (g1.keep (QB (s:=λ_=>True) (az b2 b3) λ_ h _=>h) trivial) g3 D hl hlo e1 e2;obtain⟨E3,HS⟩:=aJ e3 s3;clear e1 e2 e3 s1 s2 s3 b1 b2 b3 g1 g2 g3 D aW hl hlo ay hx;go_enter Tryz.func4,Tryz.ntmps4;go_wp2_with fail;rw[E1.o,E2.o,E3.o];refine aX.mono ?_;rintro e W2 ⟨r1,rfl,dP,dB,bB,ag⟩;obtain⟨k1,rfl⟩:∃k:Nat,r1=(k:Int):=⟨r1.toNat,by omega⟩;have aG:M (H W)+3<=M (H W2):=by have:=ag.size;have:=HS.o;omega
 obtain⟨aQ,bC,oz⟩:=dQ aG (HR.o.keep ag (show M (H W)≠M (H W)+1 by omega)) ((QB (s:=λb=>b<M (H W)) HB.o λ_ h _=>h).trans (ag.mono λb _ h=>by omega));have bS:Y3 (eZ (M (H W)+1) (M (H W)+1+1) lo lc l 49 29 6 W2 (λv=>jX v qz (Z xn 0 0)) W2 (Z xn 0 0) 0 []):=⟨HG.o.keep ag (show M (H W)+1+1≠_ by omega),Zk _ _ _ _,bB,Qy _ _,by omega,λa p=>by have:=JN.o a p;omega,HL.o⟩;clear aX bB ag aG HR HG;go_wp2;go_loopw [5] (λi wr=>∃(k:Nat) (ts:List ah) (v:X3),i=I J k/\N ts+k<=3/\1<=N ts+k/\Y3 (∀t∈ts,Gt t t.cols.toNat)/\eZ (M (H W)+1) (M (H W)+1+1) lo lc l 49 29 6 W2 (λv=>jX v qz (Z xn 0 0)) wr v (N ts) (ts.flatMap ah.list)) (λi _=>(intOf i).toNat)
 case atStart=>exact⟨1+k1,[],_,congrArg (Value.int J) (by omega),by simp;omega,by simp,(λt ht=>by simp at ht),bS.o⟩
 case round=>
  obtain⟨k,ts,v,rfl,dR,dS,aR,f⟩:=hrel;by_cases h0:0<k
  .have dD:((k:Int) > 0):=by omega
   have aD:=aa1 (M (H W)+1) lo lc l wr f.uR f.num (λa p=>QA (f.off a p).1 f.kept.size);have L:=Zh f;clear f;go_wp2_with fail;refine aD.mono ?_;rintro e W3 ⟨t,rfl,cu,Dq,G⟩;obtain⟨W4,e4,b4,g4⟩:=aL W3 t.aA 49;have aB:=(L.o.keep G Dq).keep (QB b4 λ_ h _=>h) (Dq.keep (QB b4 λ_ h _=>h));obtain⟨va,vn,vc,rfl⟩:=Zc aB.own;have dE:=aB.gb.at 0;obtain⟨ya,ym,yc,w5,Q,YM,cz,bD,-⟩:=aB.push (P:=V) (by omega) 0 t.list 23 23 Tryz.adE (λ_=>rfl) rfl (by intro u hu;simp[ah.list]at hu;rcases hu with rfl|rfl|rfl|rfl|rfl|rfl <;> rfl);obtain⟨zL,cK⟩:=aJ bD cu;obtain⟨t0,t1,t2,t3,t4,t5⟩:=t;obtain⟨y0,y1,y2,y3,y4,y5⟩:=g4.k6;unfold ah.aA at e4 ⊢;unfold ah.list at Q;simp only at e4 Q ⊢;clear aD Dq G b4 g4 aB bD;go_wp2_with (first|(at_builtin;refine Xm rfl (.tmp 27) (.tmp 29) 23 rfl _ _ _ w5 rfl rfl Q ?_));go_wp2;go_roundw
   case rel=>exact⟨k-1,ts++[⟨t0,t1,t2,t3,t4,t5⟩],_,congrArg (Value.int J) (show _=((k-1:Nat):Int) by omega),by rw[Zn,Xc];omega,by rw[Zn,Xc];omega,(λt ht=>(Zi.1 ht).elim (aR.o t) λh=>by rw[Zg.1 h];exact cK.o),by rw[Zn,ZN];exact zL.o⟩
   case measure=>simp[intOf];omega
  .have aH:k=0:=by omega
   subst aH;rw[show (((0:Nat):Int))=(0:Int) from rfl];obtain⟨co,cc,rfl,S,aS⟩:=KW f.own (by omega);have aY:N ts<=cc:=by
    rcases f.own.2 with⟨hv,h0⟩|⟨g,cap,cur,hv,_,_,hc,_⟩
    .omega
    .injection hv with h1 h2 h3;omega
   have wP:=Fp (by omega) (by omega) aR.o;have aZ:=adA (M (H W)+1) lo lc l co cc ts wr f.uR f.num (λa p=>QA (f.off a p).1 f.kept.size) S (λa p=>by have:=(aS a p).1;have:=aQ.o;omega) wP;have bf:Y3 _:=S;have ry:Y3 (∀a,co=O a->M (H W)+3<=a.block):=λa p=>Qz aQ.o (aS a p).1;have L:=Zh f;have aI:Y3 (1<=N ts/\N ts<=3/\∀t∈ts,Gt t t.cols.toNat):=⟨by omega,by omega,aR.o⟩;obtain⟨cO,cZ⟩:=aJ wP aY;obtain⟨b0,b1,b2,b3,b4,b5,b6,b7,b8⟩:=f.gb.k9;clear S aS f wP aY;go_wp2_with fail;refine XX aZ ?_;rintro e W3 ⟨q,rfl,bE,bF,Dq,G⟩;have A:=L.o.keep G Dq;obtain⟨d0,d1,d2,d3,d4,d5,d6,d7,d8⟩:=A.gb.k9;have z:=λi=>A.gb.frozen i;have hF:∀X,X=ig (M (H W)+1+1) 1 q.list W3->eZ (M (H W)+1) (M (H W)+1+1) lo lc l 52 29 1 X (λv=>jX (Z co (N ts) cc) q v) X (Z xn 0 0) 0 []/\eu (M (H W)+3) q X/\bu X co ts/\GB X (M (H W)) 29 (jX (Z xn 0 0) qz (Z xn 0 0))/\Kept (λb=>b<M (H W)) W X:=by
    rintro X rfl;have R:=kF (B:=M (H W)+1+1) q.list 1 W3;have hg:=pG (vs:=q.list) (o:=1) A.gb;simp only[uk,jX,af.list,Qu,Qb,Qc]at hg;have aG:=aQ.o;have dF:=A.kept.size;have dG:=R.size;have dH:=L.o.kept.size;refine⟨⟨hg,Zk _ _ _ _,Dq.LB R (by omega) (λa p=>(A.off a p).2),Qy _ _,by omega,λa p=>by have:=A.off a p;omega,A.num⟩,(bF.keep R (λb D=>by omega)).lower (by omega),bu.keep (bu.keep bf.o (λa p aa=>G.block _ aa (by have:=ry.o a p;omega))) (λa p aa=>R.block _ aa (by have:=ry.o a p;omega)),
     ((bC.o.keep L.o.kept (show M (H W)≠M (H W)+1/\M (H W)≠M (H W)+1+1 by omega)).keep G (show M (H W)≠M (H W)+1 by omega)).keep R (by omega),((oz.o.trans (L.o.kept.mono λb _ h=>by omega)).trans (G.mono λb _ h=>by omega)).trans (R.mono λb _ h=>by omega)⟩
   obtain⟨HF,df⟩:=aJ hF bE;unfold af.cells ae.val;clear aZ A Dq G bF bE hF b0 b1 b2 b3 b4 b5 b6 b7 b8;simp only;go_wp2;rw[ahi];have M4:=HF.o _ rfl;simp only[af.list,ae.val]at M4;generalize ig _ _ _ _=W4 at M4 ⊢;obtain⟨g4,l4,t4,r4,k4⟩:=M4;obtain⟨dh,di⟩:=aJ g4 l4;have bg:Y3 _:=t4;have bT:Y3 _:=r4;have bU:=Zh k4;clear g4 l4 t4 r4 k4 HF L bf bC oz d0 d1 d2 d3 d4 d5 d6 d7 d8 z;go_loopw [7] (λiv wr=>∃(i:Nat) (db:List aP) (v:X3),iv=I J i/\i<=N ts/\Y3 (N db=i/\∀j,j<N db->(E db j rz).rs.length<=4/\∀r∈(E db j rz).rs,(N r.xs:Int)=(E ts j tz).cols/\∀x∈r.xs,x=1073741824∨(-1<=x/\x<=3))/\
    eZ (M (H W)+1) (M (H W)+1+1) lo lc l 52 29 1 W4 (λv=>jX (Z co (N ts) cc) q v) wr v (N db) (db.map aP.val)/\Y3 (Itm yY (M (H W4)) wr v db)) (λiv _=>N ts-(intOf iv).toNat)
   case atStart=>exact⟨0,[],_,rfl,QW _,⟨rfl,λj hj=>by simp at hj⟩,dh.o,λx hx=>by simp at hx⟩
   case round=>
    obtain⟨w2,rfl⟩:∃w2,w2=wr:=⟨wr,rfl⟩;obtain⟨i,db,v,rfl,dU,YN,f,HI⟩:=hrel;obtain⟨va,vn,vc,rfl⟩:=Zc f.own;have c0:=f.gb.at 0;have dA:=f.kept.size;by_cases aa:i<N ts
    .have uu:=Zu (M (H W)+1) lo lc l 5 w2 f.uR (by omega) f.num;obtain⟨bG,dV,rfl,dm,-⟩:=(bu.keep bg.o (λa p K=>f.kept.block _ K (by have:=ry.o a p;omega))).2 i aa;have dI:=nE cO.o aa;have aK:Y3 (bG≠M (H W)+1):=show _≠_ by have h:M (H W)+3<=bG:=ry.o _ rfl;omega
     generalize bR:(E ts i tz).cols=cl at*;have Al:=Zh bR;obtain⟨cn,rfl⟩:∃cn:Nat,cl=(cn:Int):=⟨cl.toNat,by omega⟩;have L:=Zh f;clear f bR;go_wp2_with fail;refine uu.mono ?_;rintro e Wa ⟨r3,rfl,dW,dX,bH,ai⟩;obtain⟨k3,rfl⟩:∃k:Nat,r3=(k:Int):=⟨r3.toNat,by omega⟩;have bV:=jN dm ai aK.o;have bW:=jN c0 ai (show M (H W)+1+1≠_ by omega);obtain⟨aT,UQ⟩:=aJ ai (O7.nil 22 1 bH (λa p=>by have:=(L.o.off a p).1;have:=L.o.kept.size;have:=ai.size;omega) L.o.num);clear uu ai bH;go_wp2;go_loopw [8,9] (λv8 kv wr=>∃(k:Nat) (rs:List ae),kv=I J k/\N rs+k<=4/\Y3 (∀r∈rs,(N r.xs:Int)=(cn:Int)/\∀x∈r.xs,x=1073741824∨(-1<=x/\x<=3))/\O7 (M (H W)+1) lo lc l 22 1 Wa wr v8 (N rs) (rs.map ae.val)/\Y3 (Itm Gm (M (H Wa)) wr v8 rs)) (λ_ kv _=>(intOf kv).toNat)
     case atStart=>exact⟨k3,[],rfl,by simp;omega,(λr hr=>by simp at hr),UQ.o,λx hx=>by simp at hx⟩
     case round=>
      obtain⟨w3,rfl⟩:∃w3,w3=wr:=⟨wr,rfl⟩;obtain⟨k,rs,rfl,dY,bI,n,bJ⟩:=hrel;obtain⟨ra,rn,rc,rfl⟩:=Zc n.own;by_cases ek:0<k
      .have dJ:((k:Int) > 0):=by omega
       have bX:=jN bV n.kept aK.o;have bY:=jN bW n.kept (show M (H W)+1+1≠_ by omega);obtain⟨aM,aC⟩:=aJ (O7.nil 3 1 n.uR n.apO n.num) n;clear n;go_wp2;go_loopw [10,11] (λdz mv wr=>∃(m:Nat) (xs:List Int),mv=I J m/\m<=cn/\Y3 (N xs=m/\∀x∈xs,x=1073741824∨(-1<=x/\x<=3))/\O7 (M (H W)+1) lo lc l 3 1 w3 wr dz m (xs.map (Value.int J))) (λ_ mv _=>cn-(intOf mv).toNat)
       case atStart=>exact⟨0,[],rfl,QW _,⟨rfl,λx hx=>by simp at hx⟩,aM.o⟩
       case round=>
        obtain⟨m,xs,rfl,dZ,ak,C⟩:=hrel;have dK:=jN bX C.kept aK.o;have dL:=jN bY C.kept (show M (H W)+1+1≠_ by omega);by_cases O8:m<cn
        .have aF:=aa2 (M (H W)+1) lo lc l wr C.uR C.num;have aM:=Zh C;clear C;go_wp2_with fail;refine aF.mono ?_;rintro e Wc ⟨x,rfl,dn,bK,bL⟩;obtain⟨ya,ym,yc,w5,Q,au,-⟩:=(aM.o.keep bL bK).push (P:=V) (by omega) [I J x] 22 22 Tryz.lK (by simp[Value.oneCell']);have aN:=Zh au;clear au bK bL aF;go_wp2_with (first|(at_builtin;refine Xm rfl (.tmp 61) (.tmp 63) 22 rfl _ _ _ w5 rfl rfl Q ?_));go_wp2;go_roundw
         case rel=>exact⟨m+1,xs++[x],by go_num,by omega,⟨by rw[Zn,Xc,ak.o.1],λy hy=>(Zi.1 hy).elim (ak.o.2 y) λh=>by rw[Zg.1 h];exact dn⟩,by rw[Qi];exact aN.o⟩
         case measure=>simp[intOf];omega
        .have bZ:m=cn:=by omega
         subst bZ;obtain⟨iv,rfl,zZ,oD,Bo⟩:=iC C.own (by have:=ak.o.1;omega);have n:=aC.o.keep C.kept C.uR;obtain⟨ya,ym,yc,w5,Q,au,av,ax⟩:=n.push (P:=V) (by omega) [iv.val] 52 52 Tryz.Bn (by simp[Value.oneCell',ae.val]);have aO:=Zh ((bJ.o.keep C.kept (λb D=>by have:=aC.o.lt;omega)).more (Tq:=Gm) oD (λb D=>by
          have h1:=Bo b D;exact⟨Qz aC.o.kept.size h1,aj.zw oD D,λe=>by have:=(Zb aC.o.own e).2;omega⟩) av (λ_ _=>trivial) ax)
         obtain⟨aN,UU⟩:=aJ au zZ;clear au av ax n C oD Bo zZ;simp only[ae.val]at Q ⊢;go_wp2_with (first|(at_builtin;refine Xm rfl (.tmp 65) (.tmp 67) 52 rfl _ _ _ w5 rfl rfl Q ?_));go_wp2;go_roundw
         case rel=>exact⟨k-1,rs++[iv],congrArg (Value.int J) (show _=((k-1:Nat):Int) by omega),by rw[Zn,Xc];omega,(λr hr=>(Zi.1 hr).elim (bI.o r) λh=>by rw[Zg.1 h,UU.o,ak.o.1];exact⟨rfl,ak.o.2⟩),by rw[Zn,Qi];exact aN.o,aO⟩
         case measure=>simp[intOf];omega
      .have aH:k=0:=by omega
       subst aH;obtain⟨tb,bM,bN,S,bO⟩:=ahm n.own bJ.o (by omega);have zf:=aT.o.trans n.kept;have A:=L.o.keep zf n.uR;have dM:=A.gb.at 8;have dN:N db<=3:=by have:=YN.o.1;have:=aI.o.2.1;omega
       obtain⟨ya,ym,yc,w5,Q,YM,cz,bP,av,ax⟩:=A.push (P:=V) (by omega) 8 [tb.val] 27 27 Tryz.ahn (λ_=>rfl) rfl (by simp[Value.oneCell',aP.val]);have aO:=Zh ((HI.o.keep zf (λb D=>by have:=L.o.ne;omega)).more (Tq:=yY) S (λb D=>by
        have h1:=bO b D;exact⟨Qz (Qz L.o.kept.size aT.o.size) h1.1,h1.2,λe=>by have:=(Zb L.o.own e).2;have:=aT.o.size;omega⟩) av (λb D=>by have:=L.o.ne;omega) ax)
       obtain⟨zL,dw⟩:=aJ bP bN;rw[bM];clear bP av ax S bO zf A n bM bN;unfold aP.val at Q ⊢;go_wp2_with (first|(at_builtin;refine Xm rfl (.tmp 70) (.tmp 72) 27 rfl _ _ _ w5 rfl rfl Q ?_));go_wp2;go_roundw
       case rel=>exact⟨i+1,db++[tb],_,by go_num,by omega,⟨by rw[Zn,Xc,YN.o.1],λj hj=>by
        rw[Zn,Xc]at hj;rw[Lm];by_cases aU:j<N db
        .rw[Zt aU];exact YN.o.2 j aU
        .have bn:j=N db:=by omega
         rw[ZU aU,Zt bn,dw.o,bn,YN.o.1,Al.o];exact⟨by omega,bI.o⟩⟩,by rw[Zn,Qi];exact zL.o,aO⟩
       case measure=>simp[intOf];omega
    .have bq:i=N ts:=by omega
     have bz:=YN.o.1;have bA:N db<=1000:=by have:=aI.o.2.1;omega
     obtain⟨d,dc,bQ,-⟩:=alu f.own HI.o bA;rw[bQ]at f HI;obtain⟨q0,q1,q2,q3,q4,q5,q6,q7,q8⟩:=f.gb.k9;have Q:=GB.keep bT.o f.kept (show M (H W)≠M (H W)+1/\M (H W)≠M (H W)+1+1 by omega);obtain⟨r0,r1,r2,r3,r4,r5,r6,r7,r8⟩:=Q.k9;have z:=λi=>Q.frozen i;have R:=kF (B:=M (H W)) (UG (Z co (N ts) cc) q (Z d (N db) dc)) 0 w2;have m1:=adC Q (Z co (N ts) cc) q (Z d (N db) dc);have m2:=bu.keep (bu.keep bg.o (λa p K=>f.kept.block _ K (by have:=ry.o a p;omega))) (λa p K=>R.block _ K (by have:=ry.o a p;omega));have m3:=((di.o.keep f.kept (λb D=>by omega)).keep R (λb D=>by omega)).lower (show M (H W)<=M (H W)+3 by omega);obtain⟨d2,ed,dx,m4⟩:=alu (Za f.own R λg hg=>by have:=(Zb f.own hg).1;have:=f.ne;omega) (HI.o.keep R λb D=>by have:=f.ne;omega) bA;injection dx with h1 h2 h3;subst h1;have m5:=((bU.o.trans (f.kept.mono λb _ h=>by omega)).trans (R.mono λb _ h=>by omega)).below (Qn _) (λb D=>D);have HM:=Zh (XK m1 (XK m2 (XK m3 (XK m4 m5))));have Me:Y3 (Bc ts q db):=⟨aI.o,df.o,by rw[bz];exact bq,YN.o.2⟩;simp only[ae.val]at q1 q4 q5 q6 q7;have dO:¬(i:Int)<(N ts:Int):=by omega
     clear bz f Q bq bQ HI YN R m1 m2 m3 m4 m5 h2 h3;go_wp2;rw[an5];have Mz:=HM.o;simp only[UG,af.list,ae.val,QV,QU]at Mz;generalize ig _ _ _ _=X at Mz ⊢;refine Zw (results_cell_row rfl _ _ (M (H W)) 29 (jX (.slice co (N ts) cc) q (.slice d (N db) dc)) (0,0) _ rfl Mz.1 Tryz.underlying29 rfl (by kernel_rfl)) rfl ?_;exact⟨ts,q,db,co,d,cc,⟨dc,rfl⟩,Me.o,Mz.2.1,λa p=>by have:=ry.o a p;omega,cZ.o,Mz.2.2⟩
def zq(ts:List ah)(q:af)(s:Nat)(ls:List (List Int)):Prop:=∃r,ls=[]::r/\∀o∈r,qI ts q.src.xs o s=T
theorem zq.added{ls:List (List Int)}(h:zq ts q s ls){l:List Int}(hl:l≠[]->qI ts q.src.xs l s=T):zq ts q s (jS ls l):=by
 obtain⟨r,rfl,a⟩:=h;unfold jS;split
 .exact⟨r,rfl,a⟩
 .rename_i hn
  refine⟨r++[l],rfl,λo b=>?_⟩;grind
def zU(hq:QF ts q)(hs:s<2 ^ (N q.src.xs)){o:List Int}(hin:∀c∈o,0<=c/\c<ak ts q.src.xs)(h:aZ s (aO (iw ts q o))=T):∀c∈o,aZ s (2 ^ aC ts q.src.xs c)=true:=by
 intro c f;have a:∀x∈iw ts q o,0<=x/\x<(N q.src.xs:Int):=λx b=>by obtain⟨d,hd,rfl⟩:=ZC.1 b;have:=Eu hq (hin d hd);omega
 have g:=(qp (tJ hq.five hs) (tJ hq.five (uT a))).1 h;refine(qp (tJ hq.five hs) (tJ hq.five (XO (by omega) (Eu hq (hin c f))))).2 λj e=>g j ?_;rw[Nat.testBit_two_pow]at e;simp only[ZW]at e;rw[ZG (λx b=>(a x b).1),ZW];exact ZC.2 ⟨c,f,by rw[e]⟩
def aaR(hq:QF ts q)(hs:s<2 ^ (N q.src.xs)){c:Int}(hc:0<=c/\c<ak ts q.src.xs){acc:List (List Int)}(h:zq ts q s acc):zq ts q s (fC ts q s acc c):=by
 unfold fC;split
 .rename_i anT
  have a:∀d∈[c],0<=d/\d<ak ts q.src.xs:=λd hd=>by simp_all
  refine h.added λ_=>O3 (by simp) a ?_ (zU hq hs a anT);rfl
 .exact h
def ate(hq:QF ts q){c:aB}(hc:c∈q.wh)(h:(bQ c.cs).2.2=T):(0<=(bQ c.cs).1/\(bQ c.cs).1<ak ts q.src.xs)/\(0<=(bQ c.cs).2.1/\(bQ c.cs).2.1<ak ts q.src.xs):=by
 obtain⟨k,a,rfl⟩:=Qq hc;have b:=hq.ok.some k a;have d:=hq.ok.cols k a;rw[Jh,ZB a]at b d;simp only[Option.getD_some]at b d;generalize q.wh[k].cs=cs at*;unfold bQ at h ⊢;by_cases j:N cs > 1∨(E cs 0 cz).op≠0∨(E cs 0 cz).not=T∨(E cs 0 cz).const=T
 .simp_all
 rw[ZU j];have l:∀x,x∈aH (E cs 0 cz)->x∈aN cs:=λx i=>Z6.2 ⟨_,by
  simp_all,i⟩
 have e:(E cs 0 cz).op=0:=by omega
 have f:(E cs 0 cz).const=false:=by simp_all
 have g:aH (E cs 0 cz)=[(E cs 0 cz).left,(E cs 0 cz).right]:=by unfold aH;simp_all
 simp_all
def YE(hq:QF ts q)(hs:s<2 ^ (N q.src.xs)):zq ts q s (vI ts q s):=by
 have e:zq ts q s [[]]:=⟨[],rfl,λo b=>by (cases b)⟩;have j:zq ts q s (if aZ s (aO (iw ts q (aR q)))=T then jS [[]] (aR q) else [[]]):=by
  split
  .rename_i hc
   have b:=Fj hq;exact e.added λd=>O3 (List.length_pos_iff.2 d) b.1 b.2 (zU hq hs b.1 hc)
  .exact e
 unfold vI;have key:∀(l:List aB) (a:List (List Int)),(∀c∈l,c∈q.wh)->zq ts q s a->zq ts q s (l.foldl (lh ts q s) a):=by
  intro l
  induction l with
  |nil=>simp_all
  |cons c l ih =>
   intro a g h;refine ih _ (λx i=>g x (List.mem_cons_of_mem _ i)) ?_;unfold lh;split
   .rename_i hc
    rw[Qj]at hc;have f:=ate hq (g c Jd) hc.1;exact aaR hq hs f.2 (aaR hq hs f.1 h)
   .exact h
 simp_all
def Jy{ts:List ah}{q:af}(hq:QF ts q):∀k,k<N q.src.xs->TF ts q (dM ts q k)/\(dM ts q k).d.sources=2 ^ (k+1)-1/\(dM ts q k).d.clauses=0/\dZ (dM ts q k).d.kind=F/\(dM ts q k).ns.length=2*k+1
 |0,h=>⟨O1 (by omega) (by omega),by rfl,by rfl,by rfl,rfl⟩
 |k+1,h=>by
  obtain⟨h1,h2,h3,h4,h5⟩:=Jy hq k (by omega);have h6:=hq.five;have hs:(aM ts q (kC ((k+1:Nat):Int)) []).d.sources=2 ^ (k+1):=by rw[AJ,Xk]
  have ht:=O1 (ts:=ts) (q:=q) (s:=((k+1:Nat):Int)) (by omega) (by omega);have bits:∀m,m<6->(2 ^ m-1) &&& 2 ^ m=0/\(2 ^ m-1)|||2 ^ m=2 ^ (m+1)-1:=by decide
  have hb:=bits (k+1) (by omega);obtain⟨d1,d2,d3⟩:=aaO ts q (dV 3) (dM ts q k) (aM ts q (kC ((k+1:Nat):Int)) []) (by decide);refine⟨TF.alh (xZ (by decide) (by decide)) (by decide) h1 ht (by rw[h5];show 2*k+1+1<=900;omega) ?_,?_,?_,?_,?_⟩
  .rw[uO (by decide) h4 (by rfl),Z8]
   show (if (3:Int)=1 then _ else if (3:Int)=2 then _ else if (3:Int)=3 then pX ts q (dV 3) _ _ else _)=T;rw[ZU (by decide),ZU (by decide),Zt rfl];unfold pX;rw[h2,hs,Qx hb.1];rfl
  .show (aM ts q (dV 3) [dM ts q k,aM ts q (kC ((k+1:Nat):Int)) []]).d.sources=_
   simp_all
  .show (aM ts q (dV 3) [dM ts q k,aM ts q (kC ((k+1:Nat):Int)) []]).d.clauses=0
   rw[d3,h3];show aO []|||0|||(aO []|||0|||0)=0;rfl
  .rfl
  .show (aM ts q (dV 3) [dM ts q k,aM ts q (kC ((k+1:Nat):Int)) []]).ns.length=_
   rw[Jf ts q _ (by simp)];show (dM ts q k).ns.length+1+1=_;omega
theorem ag5(hq:QF ts q):BF ts q (qG ts q):=by
 have A:=hq.one;have B:=hq.five;obtain⟨m,b,n,p,C⟩:=Jy hq (N q.src.xs-1) (by omega);rw[show N q.src.xs-1+1=N q.src.xs by omega]at b;obtain⟨f,e⟩:=eY (df ts q (dM ts q (N q.src.xs-1)) (2 ^ (N q.wh)-1));have a:2 ^ (N q.wh)-1<2 ^ 64:=Ju hq.eight (Nat.sub_lt (Nat.pow_pos (by omega)) (by omega));have g:TF ts q f/\f.d.sources=2 ^ (N q.src.xs)-1/\f.d.clauses=2 ^ (N q.wh)-1/\dZ f.d.kind=F/\N f.ns<=12:=by
  rw[e];unfold df;split
  .grind
  .rename_i hz
   obtain⟨D,G,r⟩:=O0 ts q (IJ (ed (2 ^ (N q.wh)-1))) (dM ts q (N q.src.xs-1)) (by show (2:Int)≠1;decide);refine⟨aaP m (by omega) p a hz (vK ts q λi z=>by rw[b,Jv hq];exact z),by omega,?_,by rfl,?_⟩
   .rw[r,n]
    show aO (ed (2 ^ (N q.wh)-1))|||0=_;rw[yX a,Nat.or_zero]
   .rw[Jf ts q _ (by simp)]
    show (dM ts q (N q.src.xs-1)).ns.length+0+1<=12;omega
 obtain⟨t,u,v,f4,K⟩:=g;have j:=Uz (q:=q) u v;have l:((if q.group=T then (7:Int) else 9)=9/\q.group=F)∨((if q.group=T then (7:Int) else 9)=8/\q.group=T/\aQ f.d.order q.keys.xs=T)∨((if q.group=T then (7:Int) else 9)=7/\q.group=T):=by grind
 obtain⟨y,L⟩:=ag2 t (by omega) f4 (k:=if q.group=T then (7:Int) else 9) (by omega) (Uy j l);unfold qG;simp only;rw[<-e];split
 .simp_all
 .rename_i ho
  refine y ?_;unfold jC;simp_all
theorem Jz(ts:List ah)(q:af)(l:List ai):∀k,fG ts q (l.map fJ) k=fG ts q l k
 |0=>rfl
 |k+1=>by
  have hg:E (l.map fJ) k nz=fJ (E l k nz):=by grind [fJ,nz]
  show (fG ts q (l.map fJ) k).bind (pY ts q (E (l.map fJ) k nz))=(fG ts q l k).bind (pY ts q (E l k nz));rw[Jz ts q l k,hg];rfl
theorem adt(ts:List ah)(q:af)(l:List ai):jD ts q (l.map fJ)=jD ts q l:=by
 have a:∀i,E (l.map fJ) i nz=fJ (E l i nz):=λi=>by grind [fJ,nz]
 have f:∀i,wQ (l.map fJ) i=wQ l i:=λi=>by unfold wQ;simp only[a];rfl
 have g:∀n i,fQ (fJ n) i=fQ n i:=λ_ _=>rfl;have b:∀n,(fJ n).kind=n.kind:=λ_=>rfl;have d:∀n,(fJ n).l=n.l:=λ_=>rfl;have e:gQ (l.map fJ)=gQ l:=by grind [gQ,aab]
 unfold jD;simp only[e,Zm,Jz,a,b,d]
def alj(hc:q.check ts=0):QF ts q:=by
 obtain⟨d,g,i,u,j⟩:=xN hc;have e:aS q.keys.xs (ak ts q.src.xs)=T/\dB q.keys.xs=true:=by
  unfold af.check Dy at hc;split at hc
  .omega
  .split at hc
   .omega
   .split at hc
    .rename_i hr
     have f:=hr.2.2.2;unfold rF at f;simp_all
    .omega
 have a:∀{l:List Int} {n:Int},aS l n=T->∀c∈l,0<=c/\c<n:=λ{l n} h c b=>by unfold aS at h;simp_all
 refine⟨d.ok,g,d.five,d.eight,a e.1,e.2,λm c b=>?_⟩;unfold iH at b;rw[ZC]at b;obtain⟨p,k,rfl⟩:=b;have r:=a (i m) p k;have t:p.toNat<N q.bE.xs:=by omega
 refine a j _ ?_;simp_all
def af6(n:ai)(w:U)(h1:1<=n.kind)(h10:n.kind<=10)(hm:sO n=T)(hcl:N n.cl.xs<=1152921504606846976)(hco:N n.co.xs<=1152921504606846976) :
  Cb 157 #[FL n.cells,FL (iX n.kind)] w (Wl T):=by
 obtain⟨nk,i,j,k,⟨l,m,p⟩,q,⟨r,t,u⟩⟩:=n;simp only[ai.cells,ae.val,iX,tZ h1,sO,ZW]at hm hcl hco h1 h10 ⊢;obtain⟨a,b,d,e,f,g⟩:=hm;rcases (by omega:nk=1∨nk=2∨nk=3∨nk=4∨nk=5∨nk=6∨nk=7∨nk=8∨nk=9∨nk=10) with rfl|rfl|rfl|rfl|rfl|rfl|rfl|rfl|rfl|rfl
 all_goals
  simp[arity]at a b d e f g;go_enter Tryz.func157,Tryz.ntmps157;go_wp2;go_ret;exact⟨Qd rfl,az (dN _ _) (dN _ _)⟩
def FP(pl:List ai)(i j:Nat):Nat:=fF i λm=>(wQ pl m).count j
def Mr(pl:List ai)(i j:Nat):FP pl (i+1) j=FP pl i j+(wQ pl i).count j:=ZR _ _
theorem ajC(pl:List ai)(i:Nat):N (wQ pl i)<=2:=by unfold wQ;grind
def aaF(pl:List ai)(j:Nat):∀i,FP pl i j<=2*i
 |0=>by simp[FP,fF]
 |i+1=>by rw[Mr];have h1:=aaF pl j i;have h2:(wQ pl i).count j<=N (wQ pl i):=List.count_le_length;have h3:=ajC pl i;omega
def sF(k:Int):arity k<=2:=by unfold arity;split <;> (try split) <;> omega
def Eg(n:ai)(i:Nat):Bool:=(aU n).all λx=>decide (0<=x)&&decide (x<(i:Int))
def acK(n:ai)(i:Nat):fQ n i=(decide (1<=n.kind)&&decide (n.kind<=10)&&sO n&&Eg n i):=by
 unfold fQ Eg aU;have b:=sF n.kind;generalize arity n.kind=a at*;rw[Bool.and_assoc];congr 1
 match a,b with
 |0,_=>simp
 |1,_=>simp
 |2,_=>simp
def anf(h:Eg (E pl i nz) i=T):wQ pl i=(aU (E pl i nz)).map Int.toNat:=by
 unfold Eg aU at h;unfold wQ aU;simp only;have b:=sF (E pl i nz).kind;generalize arity (E pl i nz).kind=a at*
 match a,b with
 |0,_=>simp
 |1,_ =>
  simp at h;simp[h]
 |2,_ =>
  simp at h;simp[h]
def CV(pl:List ai)(i m j:Nat):Nat:=FP pl i j+(((aU (E pl i nz)).take m).map Int.toNat).count j
theorem acL(pl:List ai)(i:Nat)(hm:m<N (aU (E pl i nz)))(j:Nat):CV pl i (m+1) j=CV pl i m j+if j=(E (aU (E pl i nz)) m 0).toNat then 1 else 0:=by
 unfold CV;generalize aU (E pl i nz)=L at*;have e:E L m 0=L[m]:=by simp[List.getD,hm]
 rw[Qh hm,Qi,List.count_append,e];grind
def acM(pl:List ai)(i j:Nat):CV pl i 0 j=FP pl i j:=by unfold CV;simp
def af7(h:Eg (E pl i nz) i=T)(j:Nat):CV pl i (N (aU (E pl i nz))) j=FP pl (i+1) j:=by unfold CV;rw[QX,Mr,anf h]
def tu(n:ai):N (aU n)<=2:=by unfold aU;rw[Xu];simp;omega
def pO(n:ai):N (aU n)=arity n.kind:=by unfold aU;rw[Xu];have:=sF n.kind;simp;omega
def Tt(h:fQ n i=T):sO n=T/\Eg n i=true:=by rw[acK]at h;simp_all
def acN(h:gQ pl=T)(hk:k<N pl-1):FP pl (N pl) k=1:=by unfold gQ at h;rw[Qj]at h;have a:=h.2;unfold aab at a;exact Xa (Qk.1 a k (ZZ.2 hk))
def Tu(h:gQ pl=T):1<=N pl/\N pl<=64/\∀i,i<N pl->fQ (E pl i nz) i=true:=by unfold gQ at h;simp_all
theorem AA(h:fQ n i=T):1<=n.kind/\n.kind<=10/\∀m,m<N (aU n)->0<=E (aU n) m 0/\E (aU n) m 0<(i:Int):=by
 unfold fQ at h;simp only[Qj,Z5,ZW]at h;obtain⟨⟨⟨⟨b,a⟩,_⟩,j⟩,k⟩:=h;refine⟨b,a,λm d=>?_⟩;rw[pO]at d;have e:=sF n.kind;have f:0<arity n.kind->E (aU n) 0 0=n.l:=λh=>by unfold aU;simp_all
 have g:1<arity n.kind->E (aU n) 1 0=n.r:=λh=>by unfold aU;simp_all
 grind
def WJ(po:Option Addr)(pc:Nat)(pl:List ai)(w:U)(hp:fP w po pl)(hs:bR w 0)(hip:gQ pl=T) :
  Cb 107 #[Z po (N pl) pc] w (Wl T):=by
 have bz:=hp.1;obtain⟨h1,bF,aH⟩:=Tu hip;have aR:=run_make_row' (P:=V) 22 3 (.int J 0) 8 Tryz.underlying22 Tryz.asa rfl J J (N pl) (by omega) (by omega);obtain⟨w1,t⟩:∃x,w.alloc (.cells (madeCells #[.int J 0] (N pl)) 3)=x:=⟨_,rfl⟩;have af:w1.rowIs (M (H w)) 3 (N pl) (λ_=>.int J 0):=by rw[<-t];exact World.rowIs_made _ _ _ _
 have ag:Bw w w1:=by rw[<-t];exact dN _ _
 have aS:M (H w)<M (H w1):=by rw[<-t];simp
 have ah:Y3 (∀x,Kept (λb=>b≠M (H w)) w1 x->Bw w x/\fP x po pl/\bR x 0):=λx hk=>by have p:=Below.trans ag (hk.below (Nat.le_of_lt aS) (λb p=>Nat.ne_of_lt p));exact⟨p,hp.below p,hs.below p⟩
 have aj:=Zh aH;have ak:Y3 (∀k,k<N pl-1->FP pl (N pl) k=1):=λk=>acN hip;have Px:=hd af;have Al:Y3 (∀i j,FP pl i j<=2*i):=λi j=>aaF pl j i;clear hp hs af ag hip aH;go_enter Tryz.func107,Tryz.ntmps107;go_wp2;clear t aR;go_loopw [23] (λl wr=>∃k:Nat,k<=N pl/\l=I J k/\Y3 (wr.rowIs (M (H w)) 3 (N pl) (λj=>I J ((FP pl k j:Nat):Int)))/\Y3 (Kept (λb=>b≠M (H w)) w1 wr)) (λl _=>N pl-(intOf l).toNat)
 case atStart=>exact⟨0,QW _,rfl,Px.o,Qy _ _⟩
 case round=>
  obtain⟨k,hk,rfl,y,wG⟩:=hrel;obtain⟨D,G,Q⟩:=ah.o wr wG.o;by_cases aa:k<N pl
  .obtain⟨pb,bG,rfl,c0,c1,c2,c3,c4,c5,c6,i1,i2⟩:=G.2 k aa;obtain⟨n1,aI,A⟩:=AA (aj.o k aa);obtain⟨aK,aM⟩:=Tt (aj.o k aa);have FJ:Y3 (∀m,m<N (aU (E pl k nz))->∀j,CV pl k (m+1) j=CV pl k m j+if j=(E (aU (E pl k nz)) m 0).toNat then 1 else 0):=λm hm j=>acL pl k hm j
   have au:Y3 (∀j,CV pl k (N (aU (E pl k nz))) j=FP pl (k+1) j):=λj=>af7 aM j;have J8:Y3 (∀m j,CV pl k m j<=2*k+2):=λm j=>by unfold CV;have h1:=Al.o k j;have h2:(((aU (E pl k nz)).take m).map Int.toNat).count j<=N (((aU (E pl k nz)).take m).map Int.toNat):=List.count_le_length;rw[Zm,Xu]at h2;have h3:=tu (E pl k nz);omega
   have B:Y3 (wr.rowIs (M (H w)) 3 (N pl) (λj=>I J ((CV pl k 0 j:Nat):Int))):=y.o.congr (λj _=>by rw[acM]);have C:=λx=>af6 (E pl k nz) x n1 aI aK i1.1 i2.1;have Y6:=Zh λx hs=>CU (E pl k nz) x hs n1 aI;obtain⟨aX,aY⟩:=aJ A (tu (E pl k nz));clear aK aM A;generalize aU (E pl k nz)=L at*;generalize CV pl k=CI at*;generalize E pl k nz=n at*;obtain⟨nk,nl,nr,ns,⟨na,nc,nx⟩,ny,⟨oa,oc,ox⟩⟩:=n;unfold ai.cells ae.val at*;simp only at*;clear i1 i2 y G;obtain⟨wb,aZ,R,aN⟩:=aL wr #[I J nk,I J nl,I J nr,I J ns,Z na (N nx) nc,I J ny,Z oa (N ox) oc] 102;obtain⟨m0,m1,m2,m3,m4,m5,m6⟩:=aN.k7;obtain⟨Wn,S⟩:=aJ R (Q.below R);clear aN R D Q;obtain⟨K,rfl⟩:=XT (show 0<=nk by omega);have aT:K<=10:=by omega
   obtain⟨t0,t1,t2,t3,t4⟩:=bR.get S.o aT;obtain⟨s0,s1,s2,s3,s4,aO,e0,e1,e2,e3,e4⟩:∃s0 s1 s2 s3 s4,iX (K:Int)=#[s0,s1,s2,s3,s4]/\s0=I J (CQ K)/\s1=Wl (decide ((K:Int)=1))/\s2=Wl (decide (2<=(K:Int)/\(K:Int)<=5))/\s3=Wl (decide ((K:Int)=4∨(K:Int)=5))/\s4=Wl (decide ((K:Int)=6)):=⟨_,_,_,_,_,rfl,rfl,rfl,rfl,rfl,rfl⟩;rw[<-e0]at t0;rw[<-e1]at t1;rw[<-e2]at t2;rw[<-e3]at t3;rw[<-e4]at t4;rw[ZK]at t0 t1 t2 t3 t4;rw[aO]at C;have av:=Zh C;have bA:¬(11:Int)<=(K:Int):=by omega
   clear e0 e1 e2 e3 e4 aO C;go_wp2;refine Qp ?_;refine K4 ?_;refine qS (Wl F) ?_;refine qS (Wl F) ?_;refine K4 ?_;refine qS (Wl F) ?_;refine qS (Wl F) ?_;refine qS (Wl F) ?_;refine K4 ?_;refine qC (I J (K:Int)) m0 ?_;refine K4 ?_;refine qK (Wl T) (λx (_:Bw wb x)=>av.o x) ?_;refine K4 ?_;refine wpQuiet_nil ?_;intro w2 g;have q:=tO g m0 m1 m2 m3 m4 m5 m6;have ax:=Y6.o w2 (Ja g S.o);obtain⟨oz,z⟩:=aJ (wG.o.trans (QB (az Wn.o g) (λb p _=>p))) (B.o.of_block ((az Wn.o g).block _ B.o.lt));clear g av Y6 m0 m1 m2 m3 m4 m5 m6 t0 t1 t2 t3 t4 B S Wn aZ c0 c1 c2 c3 c4 c5 c6;go_wp2_with fail;refine XX ax ?_;clear ax q;rintro e w3 ⟨ib,rfl,aP,bf,W⟩;obtain⟨zX,bg⟩:=aJ (oz.o.trans (QB W (λb p _=>p))) (z.o.of_block (W.block _ z.o.lt));have aV:ib≠M (H w):=by have:=z.o.lt;omega
   have UN:Y3 _:=aP;have bB:=aY.o;clear aP bf W oz z;go_wp2;go_loopw [48] (λl wx=>∃m:Nat,m<=N L/\l=I J m/\Y3 (wx.rowIs (M (H w)) 3 (N pl) (λj=>I J ((CI m j:Nat):Int)))/\Y3 (Kept (λb=>b≠M (H w)) w3 wx)) (λl _=>N L-(intOf l).toNat)
   case atStart=>exact⟨0,QW _,rfl,bg.o,Qy _ _⟩
   case round=>
    obtain⟨m,hm,rfl,a,JS⟩:=hrel;by_cases d:m<N L
    .obtain⟨bH,io,ei,aQ⟩:=Qg UN.o d
     cases ei;have ay:=Q0 (aQ m d) JS.o aV;rw[ZK]at ay;have r:=Zh (FJ.o m d);obtain⟨x0,x1⟩:=aX.o m d;obtain⟨X,hX⟩:=XT x0;rw[hX]at ay x1 r;have hX:X<N pl:=by omega
     have aA:=a.o.cell hX;have bC:=a.o.frozen X;have aB:=J8.o m X;rw[Xk]at r;have JQ:Y3 (∀v:Nat,v=CI m X+1->(UC wr (aD (M (H w)) X) (I J (v:Int))).rowIs (M (H w)) 3 (N pl) (λj=>I J ((CI (m+1) j:Nat):Int))):=λv hv=>
      (a.o.set X (I J (v:Int))).congr (λj _=>by
       show (if j=X then _ else _)=_;rw[r.o j];by_cases hj:j=X
       .rw[Zt hj,Zt hj,hj,hv]
       .rw[ZU hj,ZU hj,Xb])
     obtain⟨u,hu⟩:=eY (CI m X);rw[<-hu]at aA aB JQ;have bD:u<=200:=by omega
     have aC:Y3 (Kept (λb=>b≠M (H w)) w3 (UC wr (aD (M (H w)) X) (I J ((u+1:Nat):Int)))):=JS.o.trans (Q8 _ _ _ (λh=>h rfl));have aF:Y3 _:=JQ.o (u+1) rfl;clear aQ hu a r JQ aB x0;have f:((u+1:Nat):Int)=(u:Int)+1:=by omega
     rw[f]at aC aF;clear f;go_wp2;go_roundw
     case rel=>exact⟨m+1,by omega,by go_num,aF.o,aC.o⟩
     case measure=>simp[intOf];omega
    .obtain rfl:m=N L:=by omega
     obtain⟨bn,bq⟩:=aJ (a.o.congr (λj _=>by rw[au.o j])) (zX.o.trans JS.o);clear au a JS FJ J8;go_wp2;go_roundw
     case rel=>exact⟨k+1,by omega,by go_num,bn.o,bq.o⟩
     case measure=>simp[intOf];omega
  .obtain rfl:k=N pl:=by omega
   have aW:=Zh D;have aG:Y3 (∀j,j<N pl-1->UK wr (aD (M (H w)) j)=O (I J 1)):=λj hj=>by
    have h:=y.o.cell (show j<N pl by omega)
    rwa [ak.o j hj]at h
   clear ak y wG D G Q ah Px;obtain⟨Nq,hN⟩:=eX (N pl-1);have bu:(N pl:Int)-1=(Nq:Int):=by omega
   have bE:Nq<=N pl:=by omega
   rw[hN]at aG;clear hN;go_wp2;go_loop [73] (λl=>∃m:Nat,m<=Nq/\l=I J m) (λl=>Nq-(intOf l).toNat)
   case atStart=>exact⟨0,QW _,rfl⟩
   case round=>
    obtain⟨m,hm,rfl⟩:=hrel;by_cases d:m<Nq
    .have aA:=aG.o m d;go_wp2;go_round
     case rel=>exact⟨m+1,by omega,by go_num⟩
     case measure=>simp[intOf];omega
    .go_wp2;go_ret;exact⟨Qd rfl,aW.o⟩
def IB{ts:List ah}{q:af}{pl:List ai}{k:Nat}(h:fG ts q pl k=xn):∀m,k<=m->fG ts q pl m=xn
 |0,hm=>by simp_all
 |m+1,hm=>by
  by_cases e:k=m+1
  .simp_all
  .show (fG ts q pl m).bind _=xn
   rw[IB h m (by omega)];rfl
def eQ(n:ai)(ps:List aG):List aG:=(aU n).map λx=>E ps x.toNat bF
theorem xK(n:ai)(ps:List aG):N (eQ n ps)=N (aU n):=by grind [eQ]
def CW{α β:Type}(f:α->β)(l:List α)(i:Nat)(z:α):E (l.map f) i (f z)=f (E l i z):=by simp_all
def ak6(n:ai)(ps:List aG):(E (eQ n ps) 0 bF).d=fo n (ps.map aG.d):=by
 unfold eQ aU fo;have a:=sF n.kind;rcases (by omega:arity n.kind=0∨arity n.kind=1∨arity n.kind=2) with h|h|h <;> rw[h]
 .rfl
 .show (E ps n.l.toNat bF).d=_
  rw[Zt (by omega)];exact(CW aG.d ps n.l.toNat bF).symm
 .show (E ps n.l.toNat bF).d=_
  rw[Zt (by omega)];exact(CW aG.d ps n.l.toNat bF).symm
def ak7(n:ai)(ps:List aG):(E (eQ n ps) 1 bF).d=eG n (ps.map aG.d):=by
 unfold eQ aU eG;have a:=sF n.kind;rcases (by omega:arity n.kind=0∨arity n.kind=1∨arity n.kind=2) with h|h|h <;> rw[h]
 .rfl
 .rfl
 .show (E ps n.r.toNat bF).d=_
  rw[Zt rfl];exact(CW aG.d ps n.r.toNat bF).symm
theorem WL(n:ai)(ps:List aG):mP n.kind (eQ n ps)=mf n.kind (fo n (ps.map aG.d)) (eG n (ps.map aG.d)):=by
 rw[<-ak6,<-ak7];have b:=sF n.kind;have e:∀{k:Int},arity k=2->decide (k=10)=false:=λ{k} h=>by unfold arity at h;grind
 have a:∀{k:Int},arity k=0->decide (k=10)=false:=λ{k} h=>by unfold arity at h;grind
 unfold eQ aU mf mP;rcases (by omega:arity n.kind=0∨arity n.kind=1∨arity n.kind=2) with h|h|h
 .rw[h,a h];rfl
 .rw[h];rfl
 .rw[h]
  show (([E ps n.l.toNat bF,E ps n.r.toNat bF]:List aG).all _)=_;simp only[List.all_cons,List.all_nil,Bool.and_true];show _=((dZ (E ps n.l.toNat bF).kind==decide (n.kind=10)) && !dZ (E ps n.r.toNat bF).kind);simp_all
def step_eq(ts:List ah)(q:af)(n:ai)(ps:List aG):pY ts q n (ps.map aG.d)=if (mP n.kind (eQ n ps)&&iG ts q n (E (eQ n ps) 0 bF).d (E (eQ n ps) 1 bF).d)=T then O (ps.map aG.d++[oH ts q n (E (eQ n ps) 0 bF).d (E (eQ n ps) 1 bF).d]) else none:=by unfold pY;rw[WL,ak6,ak7]
theorem WM{n:ai}{i:Nat}(h:fQ n i=T)(ho:dZ n.kind=T):0<=n.l/\n.l<(i:Int):=by
 obtain⟨g,b,d⟩:=AA h;have e:7<=n.kind:=by unfold dZ at ho;simp_all
 have a:arity n.kind=1:=by unfold arity;grind
 have:=d 0 (by rw[pO,a];omega);have f:E (aU n) 0 0=n.l:=by unfold aU;rw[a];rfl
 omega
theorem af8(hm:m<N (aU n)):(eQ n ps).take (m+1)=(eQ n ps).take m++[E ps (E (aU n) m 0).toNat bF]:=by grind [eQ,List.take_succ_eq_append_getElem]
structure jg(ts:List ah)(q:af)(pl:List ai)(w:U)(ps:List aG):Prop where
 eq:fG ts q pl (N ps)=O (ps.map aG.d)
 ok:∀i,i<N ps->(E ps i bF).Ok w
 small:∀i,i<N ps->(E ps i bF).sources<2 ^ (N q.src.xs)/\(E ps i bF).clauses<2 ^ (N q.wh)
def jg.nil(ts:List ah)(q:af)(pl:List ai)(w:U):jg ts q pl w []:=⟨rfl,λi a=>absurd a (by simp),λi a=>absurd a (by simp)⟩
theorem Tz{p:aG}(hi:i<N (ps++[p])):(i<N ps/\E (ps++[p]) i bF=E ps i bF)∨(i=N ps/\E (ps++[p]) i bF=p):=by grind
def aaI(w:U):bF.Ok w:=⟨⟨by simp[bF],λi a=>absurd a (by simp[bF])⟩,Qn _,QW _,QW _,QW _,QW _⟩
def jg.ins(h:jg ts q pl w ps)(n:ai)(hm:∀m,m<N (aU n)->0<=E (aU n) m 0/\E (aU n) m 0<(N ps:Int)) :
  ∀i,i<N (eQ n ps)->(E (eQ n ps) i bF).Ok w/\(E (eQ n ps) i bF).sources<2 ^ (N q.src.xs)/\(E (eQ n ps) i bF).clauses<2 ^ (N q.wh):=λi b=>by
 rw[xK]at b;have e:E (eQ n ps) i bF=E ps (E (aU n) i 0).toNat bF:=by unfold eQ;simp[List.getD,b]
 have d:=hm i b;rw[e];have a:(E (aU n) i 0).toNat<N ps:=by omega
 exact⟨h.ok _ a,h.small _ a⟩
def jg.step(h:jg ts q pl w ps)(hn:E pl (N ps) nz=n)(hm:∀m,m<N (aU n)->0<=E (aU n) m 0/\E (aU n) m 0<(N ps:Int))(hf:(mP n.kind (eQ n ps)&&iG ts q n (E (eQ n ps) 0 bF).d (E (eQ n ps) 1 bF).d)=T)
  {p:aG} (hd:p.d=oH ts q n (E (eQ n ps) 0 bF).d (E (eQ n ps) 1 bF).d) (hs:p.sources<2 ^ (N q.src.xs)) (hc:p.clauses<2 ^ (N q.wh)) (hk:p.Ok W) (ho:p.order=n.co∨p.order=(E (eQ n ps) 0 bF).order∨p.order=⟨xn,0,[]⟩) (hco:n.co.At w) (hcap:N n.co.xs<=n.co.cap) :
  jg ts q pl w (ps++[p]):=by
 have a:p.order.At w/\N p.order.xs<=p.order.cap:=by
  rcases ho with e|e|e
  .rw[e];exact⟨hco,hcap⟩
  .rw[e];by_cases f:0<N (eQ n ps)
   .have:=(h.ins n hm 0 f).1;exact⟨this.order,this.cap⟩
   .have g:E (eQ n ps) 0 bF=bF:=by simp[List.getD,f]
    rw[g];exact⟨(aaI w).order,(aaI w).cap⟩
  .rw[e];exact⟨⟨by simp,λi b=>absurd b (by simp)⟩,Qn _⟩
 refine⟨?_,λi b=>?_,λi b=>?_⟩
 .rw[Zn]
  show (fG ts q pl (N ps)).bind _=_;rw[h.eq,hn];show pY ts q n _=_;rw[step_eq,Zt hf,Qi,<-hd];rfl
 .rcases Tz b with⟨hl,e⟩|⟨_,e⟩ <;> rw[e]
  .exact h.ok i hl
  .exact⟨a.1,a.2,hk.sources,hk.clauses,hk.size,hk.cost⟩
 .rcases Tz b with⟨hl,e⟩|⟨_,e⟩ <;> rw[e]
  .exact h.small i hl
  .exact⟨hs,hc⟩
def jg.fail(h:jg ts q pl w ps)(hn:E pl (N ps) nz=n)(hl:N ps<N pl)(hp:gQ pl=T)(hf:(mP n.kind (eQ n ps)&&iG ts q n (E (eQ n ps) 0 bF).d (E (eQ n ps) 1 bF).d)=F):jD ts q pl=none:=by
 have e:fG ts q pl (N ps+1)=none:=by show (fG ts q pl (N ps)).bind _=_;rw[h.eq,hn];show pY ts q n _=_;rw[step_eq,ZU (by rw[hf];simp)]
 unfold jD;rw[ZU (by rw[hp];simp),IB e (N pl) (by omega)];rfl
def jg.last(h:jg ts q pl w ps)(hl:N ps=N pl)(hp:gQ pl=T) :
  jD ts q pl=if (dZ (E pl (N pl-1) nz).kind&&jC q (E pl (N pl-1) nz).kind (E ps (E pl (N pl-1) nz).l.toNat bF).order.xs)=T then O (ps.map aG.d) else none:=by unfold jD;rw[ZU (by rw[hp];simp),<-hl,h.eq];simp only[Option.bind_some];have e:(E (ps.map aG.d) (E pl (N ps-1) nz).l.toNat pz)=(E ps (E pl (N ps-1) nz).l.toNat bF).d:=CW aG.d ps _ bF;rw[e];rfl
theorem jg.nine(h:jg ts q pl w ps)(hl:N ps=N pl)(h1:1<=N pl)(hk:(E pl (N pl-1) nz).kind=9):q.group=false:=by
 have e:N ps=(N pl-1)+1:=by omega
 have g:=h.eq;rw[e]at g;have a:(fG ts q pl (N pl-1)).bind (pY ts q (E pl (N pl-1) nz))=O (ps.map aG.d):=g
 cases h4:fG ts q pl (N pl-1) with
 |none=>rw[h4]at a;cases a
 |some ds =>
  rw[h4]at a;have f:pY ts q (E pl (N pl-1) nz) ds=O (ps.map aG.d):=a;unfold pY at f;split at f
  .rename_i b
   rw[Qj]at b;have b:=b.2;unfold iG at b;grind
  .cases f
def agh(f:aF)(ts:List ah)(q:af)(po:Option Addr)(pc:Nat)(pl:List ai)(w0 w:U)(hb0:Bw w0 w)(ok:Ok ts q)(hf:f.At ts q w)(hn0:fP w0 po pl)(hsh:bR w 0)(hcap:∀i,i<N pl->(E pl i nz).co.xs.length<=(E pl i nz).co.cap)
  (hgr:q.group=F->aS q.ord.xs (N q.bE.xs)=T) (asB:N q.ord.xs<=1000) (hlk:jD ts q pl=O ds) :
  Calls V 67 #[FL (f.cells ts q),Z po (N pl) pc] w (λe u=>Bw w u/\∃(ao:Option Addr) (cap:Nat) (ps:List aG),e=FN (MV #[Z ao (N ps) cap,Wl T])/\bY u ao ps/\ps.map aG.d=ds/\(∀a,ao=O a->M (H w)<=a.block)/\∀i,i<N ps->(E ps i bF).Ok w0):=by
 obtain⟨v0,v1,v2,v3,v4,v5,v6,v7,v8,v9,bZ,cu,cz,cK,cO,cZ,df,dh,di,dm,dn,-⟩:=X9 f ts q;have bD:Y3 (q.cells=#[v0,v1,v2,v3,v4,v5,v6]):=by show _=_;rw[cO,cZ,df,dh,di,dm,dn];rfl
 clear cO cZ df dh di dm dn;obtain⟨w1,dw,t,dx⟩:=aL w ((f.cells ts q)) 90;have B:=t;have jJ:=dx;obtain⟨fZ,iy,jd,iK,iL,je,jf,jR,jy,jA,dS,eP,dU⟩:=jJ.oh (by rw[cK];rfl);have K:=hn0.below hb0;have aC:=Zh hb0;have dR:=hd hn0;clear hb0 hn0;have gD:=K.1;rw[cK]at dw;rw[cK];obtain⟨UW,HC⟩:=aJ cK B;clear dx jJ t;have X:gQ pl=true:=by
  cases h:gQ pl with
  |true=>rfl
  |false=>unfold jD at hlk;rw[Zt h]at hlk;cases hlk
 have bG:=WJ po pc pl w1 (K.below B) (hsh.below B) X;obtain⟨fu,gH,dz⟩:=Tu X;obtain⟨i0,hi,dA,dB,dC⟩:=Zj Tryz.Ty;have bH:Y3 (∀x:U,M (H w1)<=M (H x)->∃u,(Instr.makeSlice 106 (.int J 0) (.int J (N pl:Int))).run V x=.ok (.slice (O (aD (M (H x)) 0)) 0 (N pl)) u/\u.ownsRow (M (H w1)) 100 6 (.slice (O (aD (M (H x)) 0)) 0 (N pl)) 0 []/\Bw x u):=λx k=>by obtain⟨u,h1,h2,h3⟩:=run_make_own (P:=V) x (M (H w1)) 106 100 i0 _ 6 Tryz.underlying106 hi dA dB J J (N pl) (by rw[dC];omega) (by unfold maxLen;omega) k;exact⟨u,h1,h2,(Q9 (s:=λ_=>True) h3 (λr e=>by cases e)).below (Qn _) (λ_ _=>trivial)⟩
 obtain⟨aT,aV,dD,HF⟩:=om X dz hlk hf;have HN:Y3 _:=K;have bI:Y3 _:=hsh;obtain⟨aB,nO,Me,dE⟩:=om hcap hgr ok asB;have aa:=hd B;have JM:=Zh B.size;clear X dz hlk hf K hsh hcap hgr ok asB cK B hi dA dB dC;go_enter Tryz.func67,Tryz.ntmps67;go_wp2_with fail;refine bG.mono ?_;rintro e w2 ⟨rfl,aW⟩;clear bG;obtain⟨w3,fw,R,dF⟩:=bH.o w2 aW.size;have dV:=hd R;have dW:=Zh (az aW dF);clear aW dF R bH dw;go_wp2;clear fw;go_loopw [6,21] (λpv iv wr=>∃ps:List aG,N ps<=N pl/\iv=I J (N ps:Int)/\Y3 (wr.ownsRow (M (H w1)) 100 6 pv (N ps) (ps.flatMap aG.list))/\Y3 (jg ts q pl w0 ps)/\Y3 (Bw w1 wr)) (λ_ iv _=>N pl-(intOf iv).toNat)
 case atStart=>exact⟨[],QW _,rfl,dV.o,jg.nil _ _ _ _,dW.o⟩
 case round=>
  obtain⟨ps,fA,rfl,aX,l,Dt⟩:=hrel;have C:=az aa.o Dt.o;obtain⟨pa,aY,rfl,aZ⟩:=DU aX.o (by omega) (λi hi=>(l.o.ok i hi).below (az aC.o C));by_cases G:N ps<N pl
  .obtain⟨nb,no,bf,m0,m1,m2,m3,m4,m5,m6,dG,dH⟩:=(fP.below C HN.o).2 (N ps) G;subst bf;obtain⟨-,-,-,-,-,-,-,-,-,-,y,av⟩:=HN.o.2 (N ps) G;obtain⟨-,-,-,-,-,-,-,-,-,-,-,bg⟩:=dR.o.2 (N ps) G;have Q:=aB.o (N ps) G;have TA:=aV.o (N ps) G;obtain⟨n,K⟩:=eX (E pl (N ps) nz)
   rw[K]at m0 m1 m2 m3 m4 m5 m6 dG dH y av bg Q TA;obtain⟨t,z,A⟩:=AA TA;have Dr:Y3 (∀x,Bw w x->Calls V 108 #[FL n.cells] x λe u=>∃b,e=FN (Z (O (aD b 0)) (N (aU n)) 2)/\IntsAt u (O (aD b 0)) (aU n)/\M (H x)<=b/\Bw x u):=λx k=>CU n x (Ja k bI.o) t z;have aH:=l.o.ins n A;have UN:Y3 (∀(x:U) (bs:Nat) (v:X3),Bw w x->x.ownsRow bs 100 6 v (N (eQ n ps)) ((eQ n ps).flatMap aG.list)->∃a c,v=Z a (N (eQ n ps)) c/\bY x a (eQ n ps)):=λx _ v k W=>DU W (by rw[xK];have:=tu n;omega) (λi hi=>(aH i hi).1.below (az aC.o k));have bJ:Y3 (∀(x:U) (a:Option Addr) (c:Nat),bY x a (eQ n ps)->Cb 109 #[I J n.kind,Z a (N (eQ n ps)) c] x (Wl (mP n.kind (eQ n ps)))):=λx a c h=>N7 n.kind a c (eQ n ps) x h;have bK:(mP n.kind (eQ n ps)&&iG ts q n (E (eQ n ps) 0 bF).d (E (eQ n ps) 1 bF).d)=true:=by
    cases h:(mP n.kind (eQ n ps)&&iG ts q n (E (eQ n ps) 0 bF).d (E (eQ n ps) 1 bF).d) with
    |true=>rfl
    |false=>have e:=l.o.fail K G aT.o h;rw[dD.o]at e;cases e
   obtain⟨ax,D⟩:=Jb.1 bK;have dX:Y3 (∀(x:U) (a:Option Addr) (c:Nat),Bw w x->bY x a (eQ n ps)->Cb 110 #[FL #[v0,v1,v2,v3,v4,v5,v6,v7,v8,v9,bZ,cu,cz],FL n.cells,Z a (N (eQ n ps)) c] x (Wl T)):=λx a c k h=>by rw[<-UW.o];exact agb f ts q n a c (eQ n ps) x Me.o (HF.o.below k) (Qo k y) (Qo k av) Q h t z (by rw[xK,pO]) D
   have aI:Y3 (∀(x:U) (a:Option Addr) (c:Nat),Bw w x->bY x a (eQ n ps)->iG ts q n (E (eQ n ps) 0 bF).d (E (eQ n ps) 1 bF).d=T->mP n.kind (eQ n ps)=T->Calls V 111 #[FL #[v0,v1,v2,v3,v4,v5,v6,v7,v8,v9,bZ,cu,cz],FL n.cells,Z a (N (eQ n ps)) c] x λe u=>∃p:aG,e=FN (FL p.cells)/\jg ts q pl w0 (ps++[p])/\Bw x u):=λx a c k h D ax=>by rw[<-UW.o];obtain⟨fB,yw⟩:=WR TA D;refine(IG f ts q n a c (eQ n ps) x Me.o (HF.o.below k) (Qo k y) (Qo k av) Q h t z (by rw[xK,pO]) fB yw (λi hi=>(aH i hi).2)).mono ?_;rintro e u ⟨p,he,hd,fC,hs,hc,W,hb⟩;exact⟨p,he,l.o.step K A (by rw[ax,D];rfl) hd hs hc fC W bg Q,hb⟩
   have dY:Y3 (∀m,m<N (aU n)->(eQ n ps).take (m+1)=(eQ n ps).take m++[E ps (E (aU n) m 0).toNat bF]):=λm hm=>af8 hm;obtain⟨fD,fE,fF⟩:=dQ (xK n ps) (tu n) A;rw[ax]at bJ aI;rw[D]at aI;clear ax D bK A aH TA t z dG dH y av bg Q K;generalize eQ n ps=IV at*;generalize aU n=L at*;obtain⟨nk,nl,nr,ns,⟨ca,cc,cl⟩,key,⟨da,dc,co⟩⟩:=n;simp only[ai.cells,ae.val]at*;obtain⟨w9,bn⟩:∃x,x=wr:=⟨_,rfl⟩;subst bn;obtain⟨wb,dI,kb,gn⟩:=aL w9 #[I J nk,I J nl,I J nr,I J ns,Z ca (N cl) cc,I J key,Z da (N co) dc] 102;obtain⟨n0,n1,n2,n3,n4,n5,n6⟩:=gn.k7;have ed:=Dr.o wb (az C kb);have Wn:=Zh kb;have Mv:=hd gn;have ag:Y3 _:=aZ;have ek:Y3 _:=aX;go_wp2_with fail;refine ed.mono ?_;rintro e w4 ⟨ib,rfl,dJ,gI,fG⟩;have oJ:=hd fG;have eu:Y3 _:=dJ;have J5:=dJ.1;go_wp2;go_loopw [9,28] (λqv jv wx=>∃m:Nat,m<=N L/\jv=I J (m:Int)/\Y3 (wx.ownsRow (M (H w4)) 100 6 qv (N (IV.take m)) ((IV.take m).flatMap aG.list))/\Y3 (Bw w4 wx)) (λ_ jv _=>N L-(intOf jv).toNat)
   case atStart=>exact⟨0,QW _,rfl,Zk _ _ _ _,Qm _ _⟩
   case round=>
    obtain⟨m,hm,rfl,HQ,Bg⟩:=hrel;have JP:=az Wn.o (az oJ.o Bg.o);by_cases aA:m<N L
    .obtain⟨gJ,gK,e',fH⟩:=Qg (Qo Bg.o eu.o) aA
     cases e';have bL:=fH m aA;rw[ZK]at bL;obtain⟨bq,dK⟩:=fF.o m aA;have aj:=Zh (dY.o m aA);obtain⟨j,hj⟩:=XT bq;rw[hj]at bL dK aj;rw[Xk]at aj;have eB:j<N ps:=by omega
     obtain⟨⟨pb,fI,bu,c0,c1,c2,c3,c4,c5⟩,-⟩:=(bY.below JP ag.o).2 j eB;subst bu;obtain⟨p,hp⟩:=eY (E ps j bF);rw[<-hp]at c0 c1 c2 c3 c4 c5 aj;obtain⟨qa,qm,qc,rfl⟩:=Zc HQ.o;have bM:=Bg.o.size;obtain⟨v',w5,oU,yK,fJ,⟨xa,xm,xc,rfl⟩,fK⟩:=Eh wr (M (H w4)) (Z qa qm qc) (IV.take m) HQ.o (by rw[Xu];have:=fE.o;omega) bM p 106;rw[<-aj.o]at yK;have Fy:Y3 _:=yK;have jG:=Zh (Bg.o.trans (fJ.below bM (λb hb e=>by have:=(Zb HQ.o e).1;omega)));obtain⟨pk,ss,cs,⟨oa,Gj,ox⟩,pz,pt⟩:=p;simp only[aG.cells,ae.val]at*;go_wp2_with (first|(at_builtin;refine Xm rfl (.tmp 32) (.tmp 37) 106 rfl (Z qa qm qc) (Z (O (aD (M (H wr)) 0)) 1 1) (Z xa xm xc) w5 rfl rfl oU ?_));go_wp2;go_roundw
     case rel=>exact⟨m+1,by omega,by go_num,Fy.o,jG.o⟩
     case measure=>simp[intOf];omega
    .obtain rfl:m=N L:=by omega
     rw[Xi (by rw[fD.o];exact Qn _)]at HQ;obtain⟨w5,vT⟩:∃x,x=wr:=⟨_,rfl⟩;subst vT;have aK:=az oJ.o Bg.o;have bO:=az Wn.o aK;have bP:=az Dt.o bO;obtain⟨qa,qc,rfl,dL⟩:=UN.o w5 _ _ (az aa.o bP) HQ.o;have eD:=bJ.o w5 qa qc dL;have n0:UK w5 (aD (M (H w9)) 0)=O (I J nk):=cB aK (Qt Mv.o 0);have eF:Y3 _:=dL;obtain⟨fM,fO,fQ⟩:=dQ bP aK bO;go_wp2_with fail;refine eD.mono ?_;rintro e w6 ⟨rfl,ay⟩;obtain⟨bz,dM,fT⟩:=dQ (az fM.o ay) (az fO.o ay) (az fQ.o ay);have bQ:Y3 _:=bY.below ay eF.o;have eG:=dX.o w6 qa qc (az aa.o bz.o) bQ.o;have fx:=vM bz.o fZ iy jd iK iL je jf jR jy jA dS eP dU;obtain⟨n0,n1,n2,n3,n4,n5,n6⟩:=(Mv.o.of (dM.o.block _ Mv.o.lt)).k7;go_wp2_with fail;refine eG.mono ?_;rintro e w7 ⟨rfl,mO⟩;obtain⟨bA,fU,fV⟩:=dQ (az bz.o mO) (az dM.o mO) (az fT.o mO);have eH:Y3 _:=bY.below mO bQ.o;have eO:=aI.o w7 qa qc (az aa.o bA.o) eH.o (by trivial) (by trivial);have fx:=vM bA.o fZ iy jd iK iL je jf jR jy jA dS eP dU;obtain⟨n0,n1,n2,n3,n4,n5,n6⟩:=(Mv.o.of (fU.o.block _ Mv.o.lt)).k7;go_wp2_with fail;refine eO.mono ?_;rintro e w8 ⟨p,rfl,gm,H5⟩;have eT:=az fV.o H5;have aM:=az bA.o H5;have bS:=XU ek.o eT;obtain⟨v',wz,bB,gp,gq,⟨xa,xm,xc,rfl⟩,fK⟩:=Eh w8 (M (H w1)) (Z pa (N ps) aY) ps bS (by omega) aM.size p 106;have eU:Y3 _:=gp;obtain⟨gu,gy⟩:=aJ gm (aM.trans (gq.below aM.size (λb hb e=>by have:=(Zb bS e).1;omega)));have vU:Y3 (N (ps++[p])=N ps+1):=by show _=_;simp
     have gF:Y3 (∀x:Int,x=(N (ps++[p]):Nat)->Value.int J x=I J (N (ps++[p]):Int)):=λx h=>by rw[h]
     obtain⟨pk,ss,cs,⟨oa,Gj,ox⟩,pz,pt⟩:=p;simp only[aG.cells,ae.val]at bB;simp only[aG.cells,ae.val];go_wp2_with (first|(at_builtin;refine Xm rfl (.tmp 52) (.tmp 57) 106 rfl (Z pa (N ps) aY) (Z (O (aD (M (H w8)) 0)) 1 1) (Z xa xm xc) wz rfl rfl bB ?_));clear bB;go_wp2;go_roundw
     case rel=>
      refine⟨ps++[aG.mk pk ss cs ⟨oa,Gj,ox⟩ pz pt],by rw[vU.o];omega,?_,eU.o,gu.o,gy.o⟩;rw[vU.o];go_num
     case measure=>simp[intOf];omega
  .have aN:N ps=N pl:=by omega
   obtain⟨S,gL⟩:∃S,N pl=S+1:=⟨N pl-1,by omega⟩;have eN:N pl-1=S:=by omega
   have bT:S<N pl:=by omega
   obtain⟨nb,no,bf,m0,m1,m2,m3,m4,m5,m6,-,-⟩:=(fP.below C HN.o).2 S bT;subst bf;have TA:=aV.o S bT;have ak:=l.o.last aN aT.o;have aO:Y3 ((E pl S nz).kind=9->q.group=F):=λh9=>l.o.nine aN fu (by rw[eN];exact h9);rw[dD.o,eN]at ak;obtain⟨dN,gz⟩:=aJ l.o.ok l.o.ok;have eZ:Y3 (∀a,pa=O a->M (H w)<=a.block):=λa e=>by subst e;have:=(Zb aX.o (g:=a.block) rfl).1;have:=JM.o;omega
   obtain⟨n,K⟩:=eX (E pl S nz);rw[K]at m0 m1 m2 m3 m4 m5 m6 TA aO ak;have xz:Y3 _:=@WM n S TA;obtain⟨w9,bn⟩:∃x,x=wr:=⟨_,rfl⟩;subst bn;have bU:Y3 (∀x,Cb 112 #[I J n.kind] x (Wl (dZ n.kind))):=λx=>(BX n.kind x).mono (λe u h=>⟨h.1,by rw[h.2];exact Qm _ _⟩);have bV:Y3 (∀(o:ae) (x:U),Bw w x->o.At x->N o.xs<=o.cap->Cb 113 #[FL #[v0,v1,v2,v3,v4,v5,v6],I J n.kind,Z o.ad (N o.xs) o.cap] x (Wl (jC q n.kind o.xs))):=λo x k W gB=>by rw[<-bD.o];exact Ch q n.kind o.ad o.cap o.xs x (HF.o.query.below k) ⟨λh9=>nO.o (aO.o h9),dE.o⟩ W gB
   have UQ:=Zh ak;have fe:Y3 (N ps=S+1):=by show _=_;omega
   have gG:¬(N ps:Int)<(S:Int)+1:=by omega
   have ag:Y3 _:=aZ;clear ak K TA eN aO aZ aV aB bI HF nO aT dE bD aN fA;obtain⟨nk,nl,nr,ns,⟨ca,cc,cl⟩,key,⟨da,dc,co⟩⟩:=n;simp only[ai.cells,ae.val]at*;obtain⟨wb,dI,kb,gn⟩:=aL w9 #[I J nk,I J nl,I J nr,I J ns,Z ca (N cl) cc,I J key,Z da (N co) dc] 102;obtain⟨n0,n1⟩:=gn.k2;have Wn:=hd kb;have aP:=Zh (az C kb);have aQ:=az Dt.o kb;obtain⟨h0,h1,h2,h3,h4⟩:=qA aQ fZ iy jd iK iL;obtain⟨h5,h6⟩:=nH aQ je jf;clear gn kb C aQ;have bW:dZ nk=true:=by
    cases h:dZ nk with
    |true=>rfl
    |false=>have e:=UQ.o;rw[h]at e;cases e
   rw[bW]at bU UQ xz;obtain⟨bq,dK⟩:=xz.o rfl;obtain⟨j,hj⟩:=XT bq;subst hj;have bX:j<N ps:=by have:=fe.o;omega
   rw[Xk]at UQ;obtain⟨⟨pb,fI,bu,-,-,-,c3,-,-⟩,-⟩:=(bY.below Wn.o ag.o).2 j bX;subst bu;have aR:=dN.o j bX;obtain⟨o,W⟩:∃o,o=(E ps j bF).order:=⟨_,rfl⟩;have au:∀x,Bw wb x->Cb 113 #[FL #[v0,v1,v2,v3,v4,v5,v6],I J nk,Z o.ad (N o.xs) o.cap] x (Wl (jC q nk o.xs)):=λx k=>bV.o o x (az aP.o k) (by rw[W];exact Qo (az aC.o (az aP.o k)) aR.order) (by rw[W];exact aR.cap);rw[<-W]at c3 UQ;clear W aR bV xz bW dN;obtain⟨EB,dO⟩:∃x,x=jC q nk o.xs:=⟨_,rfl⟩;rw[<-dO]at au UQ;clear dO;obtain⟨oa,Gj,ox⟩:=o;simp only[ae.val]at c3 au;have fo:=Zh au;clear au;obtain⟨rfl,dP⟩:EB=T/\ds=ps.map aG.d:=by
    cases EB with
    |true=>have e:=UQ.o;exact⟨rfl,XY e⟩
    |false=>have e:=UQ.o;cases e
   have HV:=Zh dP;clear dP;clear UQ;go_upto_region 18 with fail;clear dI m0 m1 m2 m3 m4 m5 m6;refine Qp ?_;refine K4 ?_;refine qK (Wl T) (λx (_:Bw wb x)=>bU.o x) ?_;refine K4 ?_;refine ah9 ?_;refine qK (Wl T) fo.o ?_;refine K4 ?_;refine wpQuiet_nil ?_;intro wE bC;have Bh:=Zh (az aP.o bC);have fq:Y3 _:=bY.below (az Wn.o bC) ag.o;clear bC;go_wp2;go_ret2;exact⟨Bh.o,_,aY,ps,rfl,fq.o,HV.o.symm,eZ.o,gz.o⟩
def KM(t:ah):List Value:=[I J t.cols,I J t.rows,I J t.k0,I J t.k1,I J t.k2,I J t.k3]
def Yf{base:Nat}(h:w.ownsRow base e 6 v (N ts) (ts.flatMap KM))(hl:N ts<=1000) :
  ∃f cap,v=Z f (N ts) cap/\bu w f ts:=by
 rcases h.2 with⟨rfl,h0⟩|⟨g,cap,cur,rfl,hb,hh,hc,_,hcs,ht⟩
 .have:=Qs h0;subst this;exact⟨xn,0,rfl,by simp,λi d=>absurd d (by simp)⟩
 .refine⟨O (aD g 0),cap,rfl,by omega,λi d=>⟨g,0,rfl,?_⟩⟩;have a:∀j u,j<6->(KM (E ts i tz))[j]? = O u->UK w (aD g (0+i*6+j))=O u:=λj u k l=>by
   have b:=Xq KM 6 (λ_=>rfl) tz ts i j d k;rw[l,<-ht,Xt]at b;split at b
   .rw[ZK,Qt (show GB w g _ cur from hh)]
    simpa using b
   .cases b
  exact⟨a 0 _ (by omega) rfl,a 1 _ (by omega) rfl,a 2 _ (by omega) rfl,a 3 _ (by omega) rfl,a 4 _ (by omega) rfl,a 5 _ (by omega) rfl⟩
def TM{xs:List ah}(h:bu w (O a) xs):∀j u,(xs.flatMap KM)[j]? = O u->∃b off,O a=O (aD b off)/\UK w (aD b (off+j))=O u:=by
 intro j u l;have m:j<N xs*6:=by have:=(Zy.1 l).1;rw[mF KM 6 (λ_=>rfl)]at this;exact this
 have g:j / 6<N xs:=by omega
 obtain⟨b,off,e,n,p,q,t,v,y⟩:=h.2 (j / 6) g;refine⟨b,off,e,?_⟩;have k:j % 6<6:=by omega
 have d:=Xq KM 6 (λ_=>rfl) tz xs (j / 6) (j % 6) g k;have f:j / 6*6+j % 6=j:=by omega
 rw[f,l]at d;rw[<-f];generalize j / 6=i at*;generalize j % 6=r at*
 match r,k,d with
 |0,_,d =>
  injection d with d;rw[d,Xb];exact n
 |1,_,d =>
  injection d with d;rw[d,<-X5];exact p
 |2,_,d =>
  injection d with d;rw[d,<-X5];exact q
 |3,_,d =>
  injection d with d;rw[d,<-X5];exact t
 |4,_,d =>
  injection d with d;rw[d,<-X5];exact v
 |5,_,d =>
  injection d with d;rw[d,<-X5];exact y
def Yg{xs:List aI}(h:aW w (O a) xs):∀j u,(xs.flatMap aI.aA)[j]? = O u->∃b off,O a=O (aD b off)/\UK w (aD b (off+j))=O u:=by
 intro j u l;have m:j<N xs*5:=by have:=(Zy.1 l).1;rw[mF aI.aA 5 (λ_=>rfl)]at this;exact this
 have g:j / 5<N xs:=by omega
 obtain⟨b,off,e,n,p,q,t,v⟩:=h.2 (j / 5) g;refine⟨b,off,e,?_⟩;have k:j % 5<5:=by omega
 have d:=Xq aI.aA 5 (λ_=>rfl) cz xs (j / 5) (j % 5) g k;have f:j / 5*5+j % 5=j:=by omega
 rw[f,l]at d;rw[<-f];generalize j / 5=i at*;generalize j % 5=r at*
 match r,k,d with
 |0,_,d =>
  injection d with d;rw[d,Xb];exact n
 |1,_,d =>
  injection d with d;rw[d,<-X5];exact p
 |2,_,d =>
  injection d with d;rw[d,<-X5];exact q
 |3,_,d =>
  injection d with d;rw[d,<-X5];exact t
 |4,_,d =>
  injection d with d;rw[d,<-X5];exact v
def Tryz.ajQ:(V.info? 49).map (λi=>(i.zero,i.size,i.bytes))=O (O (FL #[I J 0,I J 0,I J 0,I J 0,I J 0,I J 0]),6,48):=by kernel_rfl
def FQ(ao:Option Addr)(cap:Nat)(xs:List ah)(w:U)(hx:bu w ao xs)(hn:ao=xn->cap=0)(hl:N xs<=1000) :
  Calls V 32 #[Z ao (N xs) cap] w λe f=>∃v,e=FN v/\f.ownsRow (M (H w)) 49 6 v (N xs) (xs.flatMap KM)/\Bw w f:=by
 obtain⟨p,q,g,i,j⟩:=Zj Tryz.ajQ
 cases ao with
 |none =>
  obtain rfl:cap=0:=hn rfl;have l:xs=[]:=by
   cases xs with
   |nil=>rfl
   |cons x xs=>obtain⟨b,off,e,_⟩:=hx.2 0 (by simp);cases e
  subst l;have d:∀W,(binOp .eql 23 (.slice xn 0 0) (.slice xn 0 0)).run V W=.ok (.bool T) W:=λW=>Je W 23 _ xn _ _ _ _ Tryz.underlying23;go_enter Tryz.func32,Tryz.ntmps32;go_wp2;go_ret;exact⟨_,rfl,Zk _ _ _ _,Qm _ _⟩
 |some a =>
  obtain⟨C,f,r,t,k,⟨y,z,A,rfl⟩⟩:=rC (P:=V) w 23 23 49 p _ 6 48 Tryz.underlying23 q g i j rfl (by decide) a (N xs) cap (xs.flatMap KM) (mF KM 6 (λ_=>rfl) xs) (TM hx) (λu B=>by
   obtain⟨x,_,hx⟩:=Z6.1 B;simp[KM]at hx;rcases hx with rfl|rfl|rfl|rfl|rfl|rfl <;> rfl) (by omega) (by decide)
  have d:∀W,(binOp .eql 23 (.slice (O a) (N xs) cap) (.slice xn 0 0)).run V W=.ok (.bool F) W:=λW=>Je W 23 _ (O a) _ _ _ _ Tryz.underlying23;have m:Y3 _:=t;have n:=Zh k;go_enter Tryz.func32,Tryz.ntmps32;go_wp2_with (first|(at_builtin;refine Xm rfl (.tmp 5) (.tmp 6) 23 rfl (.slice (O (aD (M (H w)) 0)) 0 0) (.slice (O a) (N xs) cap) (.slice y z A) f rfl rfl r ?_));go_wp2;go_ret;exact⟨_,rfl,m.o,n.o⟩
def I1(ao:Option Addr)(cap:Nat)(xs:List aI)(w:U)(hx:aW w ao xs)(hn:ao=xn->cap=0)(hl:N xs<=1000) :
  Calls V 55 #[Z ao (N xs) cap] w λe f=>∃v,e=FN v/\f.ownsRow (M (H w)) 69 5 v (N xs) (xs.flatMap aI.aA)/\Bw w f:=by
 obtain⟨p,q,g,i,j⟩:=Zj Tryz.Ci
 cases ao with
 |none =>
  obtain rfl:cap=0:=hn rfl;have l:xs=[]:=by
   cases xs with
   |nil=>rfl
   |cons x xs=>obtain⟨b,off,e,_⟩:=hx.2 0 (by simp);cases e
  subst l;have d:∀W,(binOp .eql 71 (.slice xn 0 0) (.slice xn 0 0)).run V W=.ok (.bool T) W:=λW=>Je W 71 _ xn _ _ _ _ Tryz.underlying71;go_enter Tryz.func55,Tryz.ntmps55;go_wp2;go_ret;exact⟨_,rfl,Zk _ _ _ _,Qm _ _⟩
 |some a =>
  obtain⟨C,f,r,t,k,⟨y,z,A,rfl⟩⟩:=rC (P:=V) w 71 71 69 p _ 5 40 Tryz.underlying71 q g i j rfl (by decide) a (N xs) cap (xs.flatMap aI.aA) (mF aI.aA 5 (λ_=>rfl) xs) (Yg hx) (λu B=>by
   obtain⟨x,_,hx⟩:=Z6.1 B;simp[aI.aA]at hx;rcases hx with rfl|rfl|rfl|rfl|rfl <;> rfl) (by omega) (by decide)
  have d:∀W,(binOp .eql 71 (.slice (O a) (N xs) cap) (.slice xn 0 0)).run V W=.ok (.bool F) W:=λW=>Je W 71 _ (O a) _ _ _ _ Tryz.underlying71;have m:Y3 _:=t;have n:=Zh k;go_enter Tryz.func55,Tryz.ntmps55;go_wp2_with (first|(at_builtin;refine Xm rfl (.tmp 5) (.tmp 6) 71 rfl (.slice (O (aD (M (H w)) 0)) 0 0) (.slice (O a) (N xs) cap) (.slice y z A) f rfl rfl r ?_));go_wp2;go_ret;exact⟨_,rfl,m.o,n.o⟩
theorem Ej(ao:Option Addr)(cap:Nat)(xs:List aB)(w:U)(hx:N xs<=1152921504606846976/\aX w ao (N xs) (λi=>(E xs i lz).val))(hn:ao=xn->cap=0)(hl:N xs<=1000) :
  Calls V 54 #[Z ao (N xs) cap] w λe f=>∃v,e=FN v/\f.ownsRow (M (H w)) 73 1 v (N xs) (xs.map aB.val)/\Bw w f:=by
 obtain⟨y,z,g,k,l⟩:=Zj Tryz.Ak
 cases ao with
 |none =>
  obtain rfl:cap=0:=hn rfl;have q:xs=[]:=by
   cases xs with
   |nil=>rfl
   |cons x xs=>obtain⟨b,off,e,_⟩:=hx.2 0 (by simp);cases e
  subst q;have d:∀W,(binOp .eql 24 (.slice xn 0 0) (.slice xn 0 0)).run V W=.ok (.bool T) W:=λW=>Je W 24 _ xn _ _ _ _ Tryz.underlying24;go_enter Tryz.func54,Tryz.ntmps54;go_wp2;go_ret;exact⟨_,rfl,Zk _ _ _ _,Qm _ _⟩
 |some a =>
  obtain⟨L,f,A,B,m,⟨C,D,G,rfl⟩⟩:=rC (P:=V) w 24 24 73 y _ 1 24 Tryz.underlying24 z g k l rfl (by decide) a (N xs) cap (xs.map aB.val) (by simp) (λj u n=>by
   rw[ZA]at n;by_cases p:j<N xs
   .obtain⟨b',Pf,e,Q⟩:=hx.2 j p
    grind
   .rw[XI (by omega)]at n;cases n) (λu K=>by obtain⟨x,_,rfl⟩:=ZC.1 K;rfl) (by omega) (by decide)
  have d:∀W,(binOp .eql 24 (.slice (O a) (N xs) cap) (.slice xn 0 0)).run V W=.ok (.bool F) W:=λW=>Je W 24 _ (O a) _ _ _ _ Tryz.underlying24;have r:Y3 _:=B;have t:=Zh m;go_enter Tryz.func54,Tryz.ntmps54;go_wp2_with (first|(at_builtin;refine Xm rfl (.tmp 5) (.tmp 6) 24 rfl (.slice (O (aD (M (H w)) 0)) 0 0) (.slice (O a) (N xs) cap) (.slice C D G) f rfl rfl A ?_));go_wp2;go_ret;exact⟨_,rfl,r.o,t.o⟩
def JE(h:Bc ts q db):q.check ts=0:=by
 have b:=Fp h.ako.1 h.ako.2.1 h.ako.2.2;have a:=h.qry.src;have d:=h.qry.wh;rcases h.qry.out with⟨g,l0,k1,k2,k3,s1,s2,o1,o2,o3⟩|⟨g,k0,s0,l1,l2,l3,o1,o2,o3⟩
 .refine JD b ⟨a.1,a.2.1,by omega⟩ ⟨by omega,d.2⟩ ⟨by simp_all,by omega,by omega,by omega⟩ ?_;unfold rF tN;rw[g,l0,k2,k3,s2,o3,Zt rfl,o2];rfl
 .refine JD b ⟨a.1,a.2.1,by omega⟩ ⟨by omega,d.2⟩ ⟨by omega,by simp_all,by simp_all,by omega⟩ ?_;unfold rF tN;rw[g,k0,s0,l3,o3,ZU (by simp),o2,Qw (show ¬N q.bE.xs=0 by omega)];rfl
theorem aW.bC{w w':U}{ao:Option Addr}{cs:List aI}{s:Nat->Prop}(h:aW w ao cs)(hk:Kept s w w')(hs:0<N cs->∀a,ao=O a->s a.block):aW w' ao cs:=⟨h.1,λi d=>by
 obtain⟨b,off,e,g,j,k,l,m⟩:=h.2 i d;have f:s b:=hs (by omega) (aD b off) e;have key:∀{o:Nat} {v:X3},UK w (aD b o)=O v->UK w' (aD b o)=O v:=λ{o v} hc=>by grind [World.cell?,Kept.block]
 grind⟩
structure CpS(e:TypeId)(w:U)(wh:List aB)(k:Nat)(v:X3)(ls:List aB)(x:U):Prop where
 own:x.ownsRow (M (H w)) e 1 v (N ls) (ls.map aB.val)
 len:N ls=N wh
 cs:∀i,i<N ls->(E ls i lz).cs=(E wh i lz).cs/\aW x (E ls i lz).ad (E ls i lz).cs
 new:∀i,i<k->i<N ls->∀a,(E ls i lz).ad=O a->M (H w)<=a.block
 old:∀i,k<=i->i<N ls->E ls i lz=E wh i lz
 off:∀i,i<N ls->0<(E ls i lz).cs.length->∀a,(E ls i lz).ad=O a->v.ownBlock≠O a.block
 below:Bw w x
theorem CpS.start(h:dJ w ao wh)(ho:x.ownsRow (M (H w)) e 1 v (N wh) (wh.map aB.val))(hb:Bw w x):CpS e w wh 0 v wh x:=
 ⟨ho,rfl,λi d=>⟨rfl,(h.2.2 i d).below hb⟩,λi d=>absurd d (Nat.not_lt_zero _),λi _ _=>rfl,λi d j a k l=>by
  obtain⟨b,off,f,g,_⟩:=(h.2.2 i d).2 0 j;rw[k]at f;injection f with f;have m:b<M (H w):=QK g;have n:=(Zb ho l).1;grind,hb⟩
def CpS.step(h:CpS e w wh k v ls x)(hb:Bw x y):CpS e w wh k v ls y:=
 ⟨XU h.own hb,h.len,λi a=>⟨(h.cs i a).1,(h.cs i a).2.below hb⟩,h.new,h.old,h.off,h.below.trans (hb.mono h.below.size)⟩
theorem yS(ls:List aB)(k i:Nat)(u:aB)(hk:k<N ls):E (ls.set k u) i lz=if i=k then u else E ls i lz:=by grind
theorem CpS.next(h:CpS e w wh k v ls x)(hk:k<N ls)(hb:Bw x y){ad:Option Addr}{cap:Nat}(hc:aW y ad (E wh k lz).cs)(hn:∀a,ad=O a->M (H x)<=a.block) :
  ∃g p,v=Z (O (aD g 0)) (N ls) p/\CpS e w wh (k+1) v (ls.set k ⟨ad,cap,(E wh k lz).cs⟩) (UC y (aD g k) (Z ad (E wh k lz).cs.length cap)):=by
 have q:=h.step hb;rcases h.own.2 with⟨_,h1⟩|⟨g,p,cur,hv,hbg,hh,hcp,hm,hs,ht⟩
 .omega
 refine⟨g,p,hv,?_⟩;have j:v.ownBlock=O g:=by rw[hv];rfl
 have u:=(Zb h.own j).2;have l:Kept (λb=>b≠g) y (UC y (aD g k) (Z ad (E wh k lz).cs.length cap)):=Q8 _ _ _ (λh=>h rfl);have d:N (ls.set k ⟨ad,cap,(E wh k lz).cs⟩)=N ls:=List.length_set ..;refine⟨?_,d.trans h.len,λi f=>?_,λi f n=>?_,λi f n=>?_,λi f=>?_,h.below.trans ((hb.mono h.below.size).trans (l.below (Qz h.below.size hb.size) λb hb=>by omega))⟩
 .have r:=iN j [Z ad (E wh k lz).cs.length cap] k q.own (by simp;omega);have m:(ls.map aB.val).take k++[Z ad (E wh k lz).cs.length cap]++(ls.map aB.val).drop (k+[Value.slice ad (E wh k lz).cs.length cap].length)=(ls.set k ⟨ad,cap,(E wh k lz).cs⟩).map aB.val:=by rw[List.map_set,List.set_eq_take_append_cons_drop,Zt (by simp_all)];simp[aB.val]
  rw[m]at r;rw[d];exact r
 .rw[d]at f;rw[yS ls k i _ hk];split
  .rename_i m
   subst m;refine⟨rfl,aW.bC hc l λ_ a t=>?_⟩;grind
  .refine⟨(h.cs i f).1,aW.bC (q.cs i f).2 l λz a t m=>h.off i f z a t (by rw[j,m])⟩
 .rw[d]at n;rw[yS ls k i _ hk];split
  .grind
  .exact h.new i (by omega) n
 .rw[d]at n;rw[yS ls k i _ hk,ZU (by omega)]
  grind [CpS.old]
 .rw[d]at f;rw[yS ls k i _ hk];split
  .grind
  grind [CpS.off]
def World.ac1(W:U)(B:Nat)(v0 v1 v2 v3 v4 v5 v6:X3):World:=(UC (UC (UC (UC (UC (UC (UC W (aD B 0) v0) (aD B 1) v1) (aD B 2) v2) (aD B 3) v3) (aD B 4) v4) (aD B 5) v5) (aD B 6) v6)
def World.ajT{t:TypeId}{a0 a1 a2 a3 a4 a5 a6:X3}(h:GB W B t #[a0,a1,a2,a3,a4,a5,a6])(v0 v1 v2 v3 v4 v5 v6:X3):GB (World.ac1 W B v0 v1 v2 v3 v4 v5 v6) B t #[v0,v1,v2,v3,v4,v5,v6]:=by have a:=pG (vs:=[v0,v1,v2,v3,v4,v5,v6]) (o:=0) h;simp only[uk,Qu,Qb,Qc]at a;exact a
def World.ac2(W:U)(B:Nat)(v0 v1 v2 v3 v4 v5 v6:X3):Kept (λx=>x≠B) W (World.ac1 W B v0 v1 v2 v3 v4 v5 v6):=kF [v0,v1,v2,v3,v4,v5,v6] 0 W
structure af.New(q:af)(n:Nat):Prop where
 src:∀a,q.src.ad=O a->n<=a.block
 wh:∀a,q.gI=O a->n<=a.block
 cl:∀i,i<N q.wh->∀a,(E q.wh i lz).ad=O a->n<=a.block
 keys:∀a,q.keys.ad=O a->n<=a.block
 sums:∀a,q.sums.ad=O a->n<=a.block
 bE:∀a,q.bE.ad=O a->n<=a.block
 ord:∀a,q.ord.ad=O a->n<=a.block
structure jM(q p:af):Prop where
 src:p.src.xs=q.src.xs
 len:N p.wh=N q.wh
 cs:∀i,i<N p.wh->(E p.wh i lz).cs=(E q.wh i lz).cs
 group:p.group=q.group
 keys:p.keys.xs=q.keys.xs
 sums:p.sums.xs=q.sums.xs
 bE:p.bE.xs=q.bE.xs
 ord:p.ord.xs=q.ord.xs
structure agC(q:af):Prop where
 src:(q.src.ad=xn->q.src.cap=0)/\N q.src.xs<=1000
 wh:(q.gI=xn->q.bP=0)/\N q.wh<=100
 cl:∀i,i<N q.wh->((E q.wh i lz).ad=xn->(E q.wh i lz).cap=0)/\(E q.wh i lz).cs.length<=100
 keys:(q.keys.ad=xn->q.keys.cap=0)/\N q.keys.xs<=1000
 sums:(q.sums.ad=xn->q.sums.cap=0)/\N q.sums.xs<=1000
 bE:(q.bE.ad=xn->q.bE.cap=0)/\N q.bE.xs<=1000
 ord:(q.ord.ad=xn->q.ord.cap=0)/\N q.ord.xs<=1000
structure ajU(q:af):Prop where
 src:q.src.ad=xn->q.src.cap=0
 keys:q.keys.ad=xn->q.keys.cap=0
 sums:q.sums.ad=xn->q.sums.cap=0
 bE:q.bE.ad=xn->q.bE.cap=0
 ord:q.ord.ad=xn->q.ord.cap=0
def ac3{v0 v1 v2 v3 v4 v5 v6:X3}(h:GB W B 26 #[v0,v1,v2,v3,v4,v5,v6]):(loadVar 26 (aD B 0)).run V W=.ok (FL #[v0,v1,v2,v3,v4,v5,v6]) W:=by obtain⟨a,b,d,e,f,g,i⟩:=h.k7;simp[go_sem,a,b,d,e,f,g,i]
theorem Yj(q:af)(w:U)(hq:q.At w)(ht:agC q) :
  Calls V 33 #[FL q.cells] w λe w'=>∃p:af,e=FN (FL p.cells)/\p.At w'/\jM q p/\p.New (M (H w))/\ajU p/\N p.keys.xs<=p.keys.cap/\Bw w w':=by
 have KO:q.cells=#[q.src.val,Z q.gI (N q.wh) q.bP,Wl q.group,q.keys.val,q.sums.val,q.bE.val,q.ord.val]:=rfl;rw[KO];clear KO;obtain⟨w1,bX,aY,aN⟩:=aL w #[q.src.val,Z q.gI (N q.wh) q.bP,Wl q.group,q.keys.val,q.sums.val,q.bE.val,q.ord.val] 26;obtain⟨w2,bY,aZ,bH⟩:=aL w1 #[Z xn 0 0,Z xn 0 0,Wl F,Z xn 0 0,Z xn 0 0,Z xn 0 0,Z xn 0 0] 26;have OQ:=az aY aZ;have aQ:=aN.keep (QB (s:=λb=>b<M (H w1)) aZ (λ_ h _=>h)) aN.lt;obtain⟨HQ,HT,bI,bf,wI⟩:=J2 hq ht OQ bH aQ;have aj:=hq.wh.below OQ;have bu:=Ej q.gI q.bP q.wh w2 ⟨aj.1,aj.2.1⟩ ht.wh.1 (by have:=ht.wh.2;omega);have Ii:=Zh aj;have c1:=aQ.at 1;have FJ:Y3 (∀(x:U) (i:Nat) (l:aB),i<N q.wh->l=E q.wh i lz->aW x l.ad l.cs->Calls V 55 #[Z l.ad (N l.cs) l.cap] x λe w'=>∃D cap,e=FN (Z D (N l.cs) cap)/\aW w' D l.cs/\(∀a,D=O a->M (H x)<=a.block)/\Bw x w'):=λx i l P hl hc=>by have aR:=ht.cl i P;rw[<-hl]at aR;refine(I1 l.ad l.cap l.cs x hc aR.1 (by omega)).mono ?_;rintro e w' ⟨v,rfl,ho,u⟩;obtain⟨D,cap,rfl,JO,d⟩:=vo ho aR.2;grind
 obtain⟨bZ,cu⟩:=aJ (Nat.ne_of_lt aN.lt) aY.size;have ag:Y3 (∀(x:U) (y:ae),Bw w x->y.At w->((y.ad=xn->y.cap=0)/\N y.xs<=1000)->Calls V 56 #[y.val] x λe w'=>∃jv:ae,e=FN jv.val/\jv.xs=y.xs/\jv.At w'/\(∀a,jv.ad=O a->M (H x)<=a.block)/\(jv.ad=xn->jv.cap=0)/\N jv.xs<=jv.cap/\Bw x w'):=λx y n P ht=>by refine(uf y x (Qo n P) ht.1 (by omega)).mono ?_;rintro e w' ⟨v,rfl,ho,u⟩;obtain⟨jv,rfl,h1,h2,h3,h4,h5⟩:=rD ho (by omega);grind
 clear hq ht aY aN aZ bH OQ aQ aj;go_enter Tryz.func33,Tryz.ntmps33;go_wp2_with fail;refine bu.mono ?_;rintro e w3 ⟨v,rfl,aO,ai⟩;have Sv:=Zh (CpS.start Ii.o aO ai);obtain⟨va,vn,vc,rfl⟩:=Zc aO;obtain rfl:vn=N q.wh:=by
  rcases aO.2 with⟨e,h0⟩|⟨g,cap,bJ,e,_⟩
  .injection e with e1 e2 e3;omega
  .injection e with e1 e2 e3
 clear bu c1 bX bY aO ai;have cK:=HT.o.wh.2;go_wp2;go_loopw [11] (λy wr=>∃k:Nat,k<=N q.wh/\y=I J (k:Int)/\Y3 (∃ls,CpS 73 w2 q.wh k (Z va (N q.wh) vc) ls wr)) (λy _=>N q.wh-(intOf y).toNat)
 case atStart=>exact⟨0,QW _,rfl,_,Sv.o⟩
 case round=>
  obtain⟨k,hk,rfl,HJ⟩:=hrel;obtain⟨ls,hJ⟩:=HJ.o;by_cases bM:k<N q.wh
  .have aS:k<N ls:=by rw[hJ.len];exact bM
   obtain⟨g,cp,hv,B⟩:∃g cp,(Value.slice va (N q.wh) vc)=Z (O (aD g 0)) (N ls) cp/\UK wr (aD g k)=O (E ls k lz).val:=by
    rcases jo hJ.own with⟨_,h1⟩|⟨g,cap,e,_,_,hc⟩
    .omega
    grind
   injection hv with hv1 hv2 hv3;subst hv1;have bz:=hJ.old k (Qn _) aS;obtain⟨l,hl⟩:=eY (E q.wh k lz);have ak:=(hJ.cs k aS).2;rw[bz,<-hl]at B ak;have au:=Zh hJ;obtain⟨bJ,bK⟩:=pq hJ.own (b:=g) rfl;have JX:Y3 (GB wr g 73 bJ):=bK;obtain⟨y1,bg⟩:∃z,wr.alloc (.cells #[Z xn 0 0] 73)=z:=⟨_,rfl⟩;have av:GB y1 (M (H wr)) 73 #[Z xn 0 0]:=by rw[<-bg];exact pR _ _
   have aT:Bw wr y1:=by rw[<-bg];exact dN _ _
   obtain⟨la,lc,lx⟩:=l;simp only[aB.val]at B ak;have bN:=av.at 0;have bO:=av.frozen 0;obtain⟨y2,bn⟩:∃z,UC y1 (aD (M (H wr)) 0) (Z la (N lx) lc)=z:=⟨_,rfl⟩;have bQ:UK y2 (aD (M (H wr)) 0)=O (Z la (N lx) lc):=by rw[<-bn];exact(av.set 0 _).cell 0
   have aU:Bw wr y2:=by rw[<-bn];exact aT.trans ((Q8 (s:=λb=>b≠M (H wr)) _ _ _ (λh=>h rfl)).below aT.size (λb u=>Nat.ne_of_lt u))
   have aV:=FJ.o y2 k ⟨la,lc,lx⟩ bM hl (ak.below aU);change Calls V 55 #[Z la (N lx) lc] y2 (λe w'=>∃D cap,e=FN (Z D (N lx) cap)/\aW w' D lx/\(∀a,D=O a->M (H y2)<=a.block)/\Bw y2 w') at aV;obtain⟨bq,HL⟩:=aJ aU hl;clear hJ HJ bK ak aT aU av bz hl hv2 hv3 Sv;go_wp2_with fail;refine aV.mono ?_;rintro e y3 ⟨D,cap,rfl,JO,d,ai⟩;have ay:=bq.o.trans (ai.mono bq.o.size);have Q:lx=(E q.wh k lz).cs:=by rw[<-HL.o]
   have JQ:Y3 (CpS 73 w2 q.wh (k+1) (Z (O (aD g 0)) (N q.wh) vc) (ls.set k ⟨D,cap,(E q.wh k lz).cs⟩) (UC y3 (aD g k) (Z D (N lx) cap))):=by obtain⟨g',dm,e,h⟩:=au.o.next aS ay (cap:=cap) (by rw[<-Q];exact JO) (λa t=>Qz bq.o.size (d a t));injection e with e1;injection e1 with e1;injection e1 with e1;rw[<-Q,<-e1]at h;rw[<-Q];exact h
   have cO:=cB ay B;have cZ:=(JX.o.keep (QB (s:=λb=>b<M (H wr)) ay (λ_ h _=>h)) JX.o.lt).frozen k;clear aV bg bn B bN bO bQ JO d ai ay Q;go_wp2;go_roundw
   case rel=>exact⟨k+1,by omega,by go_num,_,JQ.o⟩
   case measure=>simp[intOf];omega
  .have bA:k=N q.wh:=by omega
   have G:=wI.o.keep (QB (s:=λb=>b<M (H w2)) hJ.below (λ_ h _=>h)) wI.o.lt;have bB:=bf.o.keep (QB (s:=λb=>b<M (H w2)) hJ.below (λ_ h _=>h)) bf.o.lt;have d0:=G.at 0;have d2:=G.at 2;have d3:=G.at 3;have d4:=G.at 4;have d5:=G.at 5;have d6:=G.at 6;have R:=bZ.o;obtain⟨au,bL,nO,Dt⟩:=om hJ bA bB (az bI.o hJ.below);clear hJ HJ G bB bA Sv;go_wp2_with fail;refine Qv (S:=λx=>Kept (λb=>b≠M (H w1)) wr x) (by kernel_rfl) (QB ((Qm _ _).drew) (λ_ h _=>h)) (λA=>?_);refine wt 0 (Y (O (aD (M (H w)) 0))) A ?_;refine wT 1 (q.src.val) A (λx n=>?_) ?_
   .have e0:=Jk n d0 R;go_simp
   refine wt 3 (Z va (N q.wh) vc) A ?_;refine wt 4 (Y (O (aD (M (H w)) 2))) A ?_;refine wT 5 (Wl q.group) A (λx n=>?_) ?_
   .have e0:=Jk n d2 R;go_simp
   refine wt 6 (Y (O (aD (M (H w)) 3))) A ?_;refine wT 7 (q.keys.val) A (λx n=>?_) ?_
   .have e0:=Jk n d3 R;go_simp
   refine wt 9 (Y (O (aD (M (H w)) 4))) A ?_;refine wT 10 (q.sums.val) A (λx n=>?_) ?_
   .have e0:=Jk n d4 R;go_simp
   refine wt 12 (Y (O (aD (M (H w)) 5))) A ?_;refine wT 13 (q.bE.val) A (λx n=>?_) ?_
   .have e0:=Jk n d5 R;go_simp
   refine wt 15 (Y (O (aD (M (H w)) 6))) A ?_;refine wT 16 (q.ord.val) A (λx n=>?_) ?_
   .have e0:=Jk n d6 R;go_simp
   have bD:Bw wr wr.drew:=(Qm _ _).drew;refine wR 2 λK C=>?_;go_simp;refine XX (ag.o _ q.src (az Dt.o bD) HQ.o.src HT.o.src) ?_;rintro e s1 ⟨y,rfl,n,r,d,j,m,u⟩;obtain⟨aa,ac,ax⟩:=y;simp only[ae.val];have OT:=az bD u;clear u;have aA:=Zh (XK n (XK r (XK d (XK j m))));clear n r d j m;refine C.o _ _ (QB OT (λ_ h _=>h)) (λA=>?_);clear C K;refine wR 8 λK C=>?_;go_simp;refine XX (ag.o _ q.keys (az Dt.o OT) HQ.o.keys HT.o.keys) ?_;rintro e s2 ⟨y,rfl,n,r,d,j,m,u⟩;obtain⟨ba,bc,bx⟩:=y;simp only[ae.val];have Yk:=az OT u;have bR:=Zh u;clear u;have ah:=Zh (XK n (XK r (XK d (XK j m))));clear n r d j m;refine C.o _ _ (QB Yk (λ_ h _=>h)) (λA=>?_);clear C K;refine wR 11 λK C=>?_;go_simp;refine XX (ag.o _ q.sums (az Dt.o Yk) HQ.o.sums HT.o.sums) ?_;rintro e s3 ⟨y,rfl,n,r,d,j,m,u⟩;obtain⟨ca,cc,cx⟩:=y;simp only[ae.val];have aC:=az Yk u;have bF:=Zh u;clear u;have aF:=Zh (XK n (XK r (XK d (XK j m))));clear n r d j m;refine C.o _ _ (QB aC (λ_ h _=>h)) (λA=>?_);clear C K;refine wR 14 λK C=>?_;go_simp;refine XX (ag.o _ q.bE (az Dt.o aC) HQ.o.bE HT.o.bE) ?_;rintro e s4 ⟨y,rfl,n,r,d,j,m,u⟩;obtain⟨da,dc,dx⟩:=y;simp only[ae.val];have aG:=az aC u;have aX:=Zh u;clear u;have aH:=Zh (XK n (XK r (XK d (XK j m))));clear n r d j m;refine C.o _ _ (QB aG (λ_ h _=>h)) (λA=>?_);clear C K;refine wR 17 λK C=>?_
   go_simp;refine XX (ag.o _ q.ord (az Dt.o aG) HQ.o.ord HT.o.ord) ?_;rintro e s5 ⟨y,rfl,n,r,d,j,m,u⟩;obtain⟨fa,fc,fx⟩:=y;simp only[ae.val];have W:=az aG u;have aI:=Zh u;clear u;have aK:=Zh (XK n (XK r (XK d (XK j m))));clear n r d j m;refine C.o _ _ (QB W (λ_ h _=>h)) (λA=>?_);clear C K;refine wt 18 (FL #[Z aa (N ax) ac,Z va (N q.wh) vc,Wl q.group,Z ba (N bx) bc,Z ca (N cx) cc,Z da (N dx) dc,Z fa (N fx) fc]) A ?_;have f:=nO.o.keep (QB (s:=λb=>b<M (H wr)) W (λ_ h _=>h)) nO.o.lt;have JR:=Zh (ac3 (World.ajT f (Z aa (N ax) ac) (Z va (N q.wh) vc) (Wl q.group) (Z ba (N bx) bc) (Z ca (N cx) cc) (Z da (N dx) dc) (Z fa (N fx) fc)));have X:=World.ac2 s5 (M (H w1)) (Z aa (N ax) ac) (Z va (N q.wh) vc) (Wl q.group) (Z ba (N bx) bc) (Z ca (N cx) cc) (Z da (N dx) dc) (Z fa (N fx) fc);have r0:=f.at 0;have z0:=f.frozen 0;have r1:=f.at 1;have z1:=f.frozen 1;have r2:=f.at 2;have z2:=f.frozen 2;have r3:=f.at 3;have z3:=f.frozen 3;have r4:=f.at 4;have z4:=f.frozen 4;have r5:=f.at 5;have z5:=f.frozen 5;have r6:=f.at 6;have z6:=f.frozen 6;have rY:Y3 (∃p:af,Ending.returned (FL #[Z aa (N ax) ac,Z va (N q.wh) vc,Wl q.group,Z ba (N bx) bc,Z ca (N cx) cc,Z da (N dx) dc,Z fa (N fx) fc])=FN (FL p.cells)/\p.At (World.ac1 s5 (M (H w1)) (Z aa (N ax) ac) (Z va (N q.wh) vc) (Wl q.group) (Z ba (N bx) bc) (Z ca (N cx) cc) (Z da (N dx) dc) (Z fa (N fx) fc))/\jM q p/\p.New (M (H w))/\ajU p/\N p.keys.xs<=p.keys.cap/\Bw w (World.ac1 s5 (M (H w1)) (Z aa (N ax) ac) (Z va (N q.wh) vc) (Wl q.group) (Z ba (N bx) bc) (Z ca (N cx) cc) (Z da (N dx) dc) (Z fa (N fx) fc))):=by
    have df:=bf.o.lt;have L:=au.o.step W;have aM:=L.len;have dh:=au.o.below.size;have di:=bI.o.size;generalize hZ:World.ac1 s5 (M (H w1)) (Z aa (N ax) ac) (Z va (N q.wh) vc) (Wl q.group) (Z ba (N bx) bc) (Z ca (N cx) cc) (Z da (N dx) dc) (Z fa (N fx) fc)=Zq at*;have aP:=Za L.own X (λg e e2=>by have h1:=(Zb L.own e).1;omega);have Q:∀i,i<N ls->aW Zq (E ls i lz).ad (E ls i lz).cs:=λi P=>aW.bC (L.cs i P).2 X λ_ a t e2=>by have h1:=L.new i (by rw[bL.o,<-aM];exact P) P a t;omega
    obtain⟨dn,dw,e2,cz⟩:=xB aP (λx n=>by
     obtain⟨i,P,rfl⟩:=List.mem_iff_getElem.1 n;have:=Q i P;rw[Jh,ZB P]at this;exact this) (by omega)
    injection e2 with e21 e22 e23;subst e21;have key:∀{D:Option Addr} {xs:List Int},IntsAt s5 D xs->(∀a,D=O a->M (H wr)<=a.block)->IntsAt Zq D xs:=λ{D xs} h1 h2=>Jc h1 X λ_ a t e3=>by have:=h2 a t;omega
    have na:∀a,aa=O a->M (H wr)<=a.block:=λa t=>Qz (Qn _) (aA.o.2.2.1 a t);have bS:IntsAt Zq aa ax:=key (Qo aI.o (Qo aX.o (Qo bF.o (Qo bR.o (aA.o.2.1))))) na;have nb:∀a,ba=O a->M (H wr)<=a.block:=λa t=>Qz OT.size (ah.o.2.2.1 a t);have bT:IntsAt Zq ba bx:=key (Qo aI.o (Qo aX.o (Qo bF.o (ah.o.2.1)))) nb;have nc:∀a,ca=O a->M (H wr)<=a.block:=λa t=>Qz Yk.size (aF.o.2.2.1 a t);have bU:IntsAt Zq ca cx:=key (Qo aI.o (Qo aX.o (aF.o.2.1))) nc;have nd:∀a,da=O a->M (H wr)<=a.block:=λa t=>Qz aC.size (aH.o.2.2.1 a t);have bV:IntsAt Zq da dx:=key (Qo aI.o (aH.o.2.1)) nd;have nf:∀a,fa=O a->M (H wr)<=a.block:=λa t=>Qz aG.size (aK.o.2.2.1 a t);have bW:IntsAt Zq fa fx:=key (aK.o.2.1) nf;refine⟨⟨⟨aa,ac,ax⟩,va,vc,ls,q.group,⟨ba,bc,bx⟩,⟨ca,cc,cx⟩,⟨da,dc,dx⟩,⟨fa,fc,fx⟩⟩,?_,⟨bS,cz,bT,bU,bV,bW⟩,⟨aA.o.1,aM,λi P=>(L.cs i P).1,rfl,ah.o.1,aF.o.1,aH.o.1,aK.o.1⟩,⟨λa t=>?_,λa t=>?_,λi P a t=>?_,λa t=>?_,λa t=>?_,λa t=>?_,λa t=>?_⟩,⟨aA.o.2.2.2.1,ah.o.2.2.2.1,aF.o.2.2.2.1,aH.o.2.2.2.1,aK.o.2.2.2.1⟩,ah.o.2.2.2.2,Dt.o.trans ((W.mono Dt.o.size).trans (X.below (Qz Dt.o.size W.size) λb u=>by have:=cu.o;omega))⟩
    .unfold af.cells;simp only[ae.val];rw[aM]
    .have:=na a t;omega
    .have h1:=(Zb aP (g:=a.block) (by rw[show va=O a from t];rfl)).1;omega
    .have h1:=L.new i (by rw[bL.o,<-aM];exact P) P a t;omega
    .have:=nb a t;omega
    .have:=nc a t;omega
    .have:=nd a t;omega
    .have:=nf a t;omega
   have bG:=Zh ((QB (s:=λb=>b≠M (H w1)) W (λ_ h _=>h)).trans X);unfold World.ac1 at rY JR bG;clear X f;refine wR 19 λK C=>?_;go_simp;refine C.o _ _ (bG.o) (λA=>?_);clear C K;refine wD ?_;try simp only[pV]
   go_wp2;exact Zw (kL (p:=2) rfl rfl JR.o) rfl rY.o
structure kV(Nq:Nat->Prop)(W W0:U):Prop where
 size:M (H W0)=M (H W)
 block:∀b,¬Nq b->W0.heap[b]? = W.heap[b]?
 dead:∀b o v,UK W0 (aD b o)=O v->¬Nq b
def ac6(Nq:Nat->Prop)(W:U):∃g,kV Nq W g:=by
 classical
 have a:M (H ({ W with heap:=W.heap.mapIdx λi o=>if Nq i then .deferred xn else o }:U))=M (H W):=by simp
 refine⟨{ W with heap:=W.heap.mapIdx λi o=>if Nq i then .deferred xn else o },a,λb h=>?_,λb o v d h=>?_⟩
 .simp_all
 .have f:=QK d;rw[a]at f;have e:({ W with heap:=W.heap.mapIdx λi o=>if Nq i then .deferred xn else o }:U).heap[b]? = O (.deferred xn):=by simp_all
  simp[World.cell?,e]at d
theorem kV.cell{Nq:Nat->Prop}{W W0:U}(K:kV Nq W W0){b o:Nat}{v:X3}(h:¬Nq b)(hc:UK W (aD b o)=O v):UK W0 (aD b o)=O v:=by grind [World.cell?_of_block,kV.block]
theorem kV.under(K:kV Nq W W0):nV W0 W:=
 ⟨by rw[K.size];omega,λb o v a=>by
  grind [kV.dead,World.cell?_of_block,kV.block]⟩
theorem kV.live(K:kV Nq W W0){b:Nat}(h:Live W0 b):¬Nq b:=by grind [Live,kV.dead]
theorem xU(K:kV Nq W W0){n:Nat}(h:aX W ao n g)(hn:∀a,ao=O a->¬Nq a.block):aX W0 ao n g:=λi d=>by obtain⟨b,off,e,f⟩:=h i d;grind [kV.cell]
theorem lY(K:kV Nq W W0){n:Nat}(hN:∀b,Nq b->b<n∨M (H W')<=b)(hb:Bw W' W)(h:aX W' ao k g)(hn:∀a,ao=O a->n<=a.block):aX W0 ao k g:=λi f=>by obtain⟨b,off,e,d⟩:=h i f;have j:n<=b:=hn _ e;have l:b<M (H W'):=QK d;exact⟨b,off,e,K.cell (λm=>by grind) (cB hb d)⟩
theorem TZ(K:kV Nq W W0){n:Nat}(hN:∀b,Nq b->b<n∨M (H W')<=b)(hb:Bw W' W)(h:q.At W')(hn:q.New n):q.At W0:=by
 refine⟨⟨h.src.1,lY K hN hb h.src.2 hn.src⟩,⟨h.wh.1,lY K hN hb h.wh.2.1 hn.wh,λi d=>⟨(h.wh.2.2 i d).1,λj p=>?_⟩⟩,⟨h.keys.1,lY K hN hb h.keys.2 hn.keys⟩,⟨h.sums.1,lY K hN hb h.sums.2 hn.sums⟩,⟨h.bE.1,lY K hN hb h.bE.2 hn.bE⟩,⟨h.ord.1,lY K hN hb h.ord.2 hn.ord⟩⟩;obtain⟨b,off,e,f,g,k,l,m⟩:=(h.wh.2.2 i d).2 j p;have r:n<=b:=hn.cl i d _ e;have t:b<M (H W'):=QK f;have a:¬Nq b:=λu=>by grind
 exact⟨b,off,e,K.cell a (cB hb f),K.cell a (cB hb g),K.cell a (cB hb k),K.cell a (cB hb l),K.cell a (cB hb m)⟩
theorem T9(K:kV Nq W W0)(hN:∀b,Nq b->b<m)(h:f.At ts q W)(hf:f.New m)(hq:q.At W0):f.At ts q W0:=by
 have key:∀{ao:Option Addr},(∀a,ao=O a->m<=a.block)->∀a,ao=O a->¬Nq a.block:=λh a e l=>by grind
 refine⟨hq,⟨h.cols.1,λi k=>?_⟩,⟨h.rows.1,xU K h.rows.2 (key hf.ra)⟩,⟨h.conc.1,xU K h.conc.2 (key hf.na)⟩,⟨h.parts.1,xU K h.parts.2 (key hf.pa)⟩,h.nl,h.pl⟩;obtain⟨b,off,e,g,j⟩:=h.cols.2 i k;have d:¬Nq b:=key hf.ca _ e;exact⟨b,off,e,K.cell d g,K.cell d j⟩
def Env.kill(K:kV Nq W W0){n:Nat}(Ez:Env f ts q W)(h0:¬Nq 0)(hNf:∀b,Nq b->b<m)(hf:f.New m)(hNq:∀b,Nq b->b<n∨M (H W')<=b)(hb:Bw W' W)(hq:q.At W')(hn:q.New n):Env f ts q W0:=
 ⟨Ez.ok,T9 K hNf Ez.facts hf (TZ K hNq hb hq hn),λj u a=>K.cell h0 (Ez.shapes j u a),Ez.one,Ez.five,Ez.eight,Ez.ord,Ez.few,Ez.keys,Ez.want,Ez.asM,Ez.lT,Ez.asN⟩
theorem Fz.kill(K:kV Nq W W0)(hb:Bw W w)(hN:∀b,Nq b->b<M (H w)):Fz (λb=>¬Nq b) W0 w:=
 ⟨⟨by rw[K.size];exact hb.size,λb o v a=>cB hb (K.under.cell b o v a)⟩,λb h=>K.live h,λb h d=>by grind⟩
theorem jM.wm{q p:af}(h:jM q p):p.wm=q.wm:=by
 unfold af.wm;apply Xx
 .rw[Zm,Zm,h.len]
 .intro i a b;rw[Zm]at a b;have:=h.cs i a
  simp_all
def jM.check{q p:af}(h:jM q p)(ts:List ah):p.check ts=q.check ts:=by unfold af.check;rw[h.src,h.wm,h.group,h.keys,h.sums,h.bE,h.ord]
def I7(h:aS xs (ak ts q.src.xs)=T):jI ts q xs:=λc a=>by unfold aS at h;simp_all
theorem anG(hc:q.check ts=0)(hf:f.At ts q W)(hs:bR W 0)(hk:N q.keys.xs<=q.keys.cap)(hn:q.keys.ad=xn->q.keys.cap=0):Env f ts q W:=by
 obtain⟨d,k,i,l,m⟩:=xN hc;have g:aS q.keys.xs (ak ts q.src.xs)=T/\N q.keys.xs<=4:=by
  unfold af.check Dy at hc;split at hc
  .omega
  .split at hc
   .omega
   .rename_i _ hf
    split at hc
    .rename_i hr
     have a:=hr.2.2.2;unfold rF at a;simp only[Qj]at a;obtain⟨⟨⟨⟨⟨⟨⟨_,u⟩,_⟩,_⟩,_⟩,_⟩,_⟩,_⟩:=a;unfold vN at hf;simp_all
    .omega
 refine⟨d.ok,hf,hs,k,d.five,d.eight,i,l,I7 g.1,λr=>?_,g.2,hk,hn⟩;intro c e;unfold iH at e;rw[ZC]at e;obtain⟨p,n,rfl⟩:=e;have b:=i r;unfold aS at b;rw[Qk]at b;have j:=b p n;simp only[Qj,ZW]at j;have t:p.toNat<N q.bE.xs:=by omega
 refine I7 m _ ?_;grind
theorem adD{n:Nat}{S:U}(h:Bc ts q db)(hl:eu n q S):agC q:=by
 have k:=h.qry.src;have d:=h.qry.wh;have l:N q.keys.xs<=4/\N q.sums.xs<=4/\N q.bE.xs<=4/\N q.ord.xs<=4:=by
  rcases h.qry.out with⟨g,l0,k1,k2,k3,s1,s2,o1,o2,o3⟩|⟨g,k0,s0,l1,l2,l3,o1,o2,o3⟩
  .grind
  grind
 refine⟨⟨hl.src.1.2.2,by omega⟩,⟨hl.nil,by omega⟩,λi j=>?_,⟨hl.keys.1.2.2,by omega⟩,⟨hl.sums.1.2.2,by omega⟩,⟨hl.bE.1.2.2,by omega⟩,⟨hl.ord.1.2.2,by omega⟩⟩;have f:E q.wh i lz∈q.wh:=by simp_all
 have a:=d.2 _ f;refine⟨λe=>?_,by have:=a.2.1;omega⟩;obtain⟨b,off,m,_⟩:=(hl.wh.1.2.2 i j).2 0 (by have:=a.1;omega);simp_all
theorem jM.clause(h:jM q p)(i:Nat):(E p.wh i lz).cs=(E q.wh i lz).cs:=by
 by_cases a:i<N p.wh
 .exact h.cs i a
 .have b:¬i<N q.wh:=by rw[<-h.len];exact a
  simp_all
theorem jM.size(h:jM q p)(ts:List ah):lZ ts p=lZ ts q:=by funext s c;unfold lZ;simp only[h.src,h.clause]
theorem jM.key(h:jM q p)(ts:List ah):ll ts p=ll ts q:=by funext n a b;unfold ll;simp only[h.src,h.clause,h.len]
theorem jM.part(h:jM q p)(ts:List ah):oH ts p=oH ts q:=by funext n l r;unfold oH;simp only[h.size ts]
def jM.want(h:jM q p):iH p=iH q:=by unfold iH;rw[h.ord,h.bE]
def jM.ends(h:jM q p):jC p=jC q:=by funext k o;unfold jC;rw[h.ord,h.want,h.keys]
def afS(t:ah)(w:U)(h:mK t=T) :
  Cb 76 #[FL t.aA] w (Wl T):=by
 unfold mK at h;obtain⟨n,p,q,r,e⟩:=Xa h;have g:=Zh λm f=>ah.ah5 w t 49 m f;have b:=Zh e;have j:=λ(a:Addr) (x:U)=>sliceAt4 a x t.cols (by omega) (by omega);unfold ah.aA;clear h e;go_enter Tryz.func76,Tryz.ntmps76;go_wp2;go_loop [28] (λi=>∃m:Nat,m<=t.cols.toNat/\i=I J m) (λi=>t.cols.toNat-(intOf i).toNat)
 case atStart=>exact⟨0,QW _,rfl⟩
 case round=>
  obtain⟨m,f,rfl⟩:=hrel;by_cases l:m<t.cols.toNat
  .have d:(m:Int)<t.cols:=by omega
   have k:=g.o m (by omega);obtain⟨u,k2⟩:=b.o m l;go_wp2;go_round
   case rel=>exact⟨m+1,by omega,by go_num⟩
   case measure=>simp[intOf];omega
  .have d:¬(m:Int)<t.cols:=by omega
   go_wp2;go_ret;exact⟨Qd rfl,dN _ _⟩
def ajj(t:ah)(w:U)(h:mK t=T) :
  Cb 75 #[FL t.aA] w (Wl F):=by have a:=λx=>afS t x h;unfold ah.aA at*;go_enter Tryz.func75,Tryz.ntmps75;go_wp2_with (go_at_call 76;refine(a _).mono ?_;rintro e d ⟨rfl,b⟩);go_ret;exact⟨Qd rfl,az (dN _ _) b⟩
def ajk(ao:Option Addr)(cap:Nat)(ts:List ah)(w:U)(hx:bu w ao ts)(h:∀t∈ts,mK t=T) :
  Cb 123 #[Z ao (N ts) cap,.func (.func 75) #[] #[]] w (I J (-1)):=by
 have r:=hx.1;go_enter Tryz.func123,Tryz.ntmps123;go_wp2;go_loopw [8] (λi wr=>∃k:Nat,k<=N ts/\i=I J k/\Bw w wr) (λi _=>N ts-(intOf i).toNat)
 case atStart=>exact⟨0,QW _,rfl,Qm _ _⟩
 case round=>
  obtain⟨k,u,rfl,d⟩:=hrel;by_cases a:k<N ts
  .have g:=ajj (E ts k tz) wr (h _ (rA a));obtain⟨b,off,rfl,j,l,m,n,p,q⟩:=hx.2 k a;have e:=JY d j l m n p q;unfold ah.aA at g;generalize E ts k tz=t at*;clear j l m n p q hx h;go_wp2_with fail;refine g.mono ?_;rintro e v ⟨rfl,f⟩;go_wp2;go_roundw
   case rel=>exact⟨k+1,by omega,by go_num,az d f⟩
   case measure=>simp[intOf];omega
  .go_wp2;go_ret;exact⟨Qe rfl,d⟩
def WC(ao:Option Addr)(cap:Nat)(ts:List ah)(w:U)(hx:bu w ao ts)(h:ji ts=T) :
  Cb 43 #[Z ao (N ts) cap] w (Wl T):=by
 unfold ji at h;simp only[Qj,ZW,Qk]at h;obtain⟨⟨g,i⟩,h⟩:=h;have b:=ajk ao cap ts w hx h;have d:Cb 74 #[Z ao (N ts) cap,.func (.func 75) #[] #[]] w (Wl F):=by go_enter Tryz.func74,Tryz.ntmps74;go_wp2_with fail;refine b.mono ?_;rintro e f ⟨rfl,a⟩;go_wp2;go_ret;exact⟨Qd rfl,a⟩
 clear b hx h;go_enter Tryz.func43,Tryz.ntmps43;go_wp2_with fail;refine d.mono ?_;rintro e f ⟨rfl,a⟩;go_wp2;go_ret;exact⟨Qd rfl,a⟩
def Iy{n b:Int}(h0:0<=n)(h1:n<b)(w:U):Ce 127 #[I J n,I J b] w (Wl T):=by go_enter Tryz.func127,Tryz.ntmps127;go_wp2;go_ret;exact⟨Qd (by simp_all),rfl⟩
def uJ(ao:Option Addr)(cap:Nat)(xs:List Int)(bd:Int)(w:U)(hx:IntsAt w ao xs)(h:aS xs bd=T) :
  Cb 79 #[Z ao (N xs) cap,I J bd] w (Wl T):=by
 obtain⟨m,g,j,l⟩:=aL w #[I J bd] 3;have u:=l.at 0;have a:=hx.below j;have v:Y3 (∀k,k<N xs->0<=E xs k 0/\E xs k 0<bd):=λk r=>by have:=Qk.1 h _ (rA (d:=0) r);simpa using this
 have q:Ce 186 #[Z ao (N xs) cap,.func (.func 126) #[] #[Y (O (aD (M (H w)) 0))]] m (I J (-1)):=by
  have C:=hx.1;clear g;go_enter Tryz.func186,Tryz.ntmps186;go_wp2;go_loop [8] (λi=>∃k:Nat,k<=N xs/\i=I J k) (λi=>N xs-(intOf i).toNat)
  case atStart=>exact⟨0,QW _,rfl⟩
  case round=>
   obtain⟨k,r,rfl⟩:=hrel;by_cases f:k<N xs
   .obtain⟨b,off,rfl,t⟩:=a.get f;have y:=t k f;obtain⟨A,B⟩:=v.o k f;generalize E xs k 0=x at*;have n:Ce 126 #[I J x,Y (O (aD (M (H w)) 0))] m (Wl F):=by have z:=Iy A B m;go_enter Tryz.func126,Tryz.ntmps126;go_wp2_with fail;refine z.mono ?_;rintro e p ⟨rfl,rfl⟩;go_wp2;go_ret;exact⟨Qd rfl,rfl⟩
    clear t a;go_wp2_with fail;refine n.mono ?_;rintro e p ⟨rfl,rfl⟩;go_wp2;go_round
    case rel=>exact⟨k+1,by omega,by go_num⟩
    case measure=>simp[intOf];omega
   .go_wp2;go_ret;exact⟨Qe rfl,rfl⟩
 have n:Ce 125 #[Z ao (N xs) cap,.func (.func 126) #[] #[Y (O (aD (M (H w)) 0))]] m (Wl F):=by clear g;go_enter Tryz.func125,Tryz.ntmps125;go_wp2_with fail;refine q.mono ?_;rintro e p ⟨rfl,rfl⟩;go_wp2;go_ret;exact⟨Qd rfl,rfl⟩
 clear q hx a h l u;go_enter Tryz.func79,Tryz.ntmps79;go_wp2_with fail;refine n.mono ?_;rintro e p ⟨rfl,rfl⟩;go_wp2;go_ret;exact⟨Qd rfl,j⟩
def acD(c:aI)(n:Int)(w:U)(h:fV c n=T) :
  Cb 128 #[c.val,I J n] w (Wl T):=by
 obtain⟨p,g,left,a,right⟩:=c;unfold fV at h;simp only[Qj,ZW]at h;obtain⟨⟨⟨⟨i,j⟩,q⟩,r⟩,b⟩:=h;have d:=Iy i j;unfold aI.val;simp only;rcases (by omega:g=0∨g=1∨g=2) with rfl|rfl|rfl
 case' inr.inr=>
  simp only[if_true,Qj,ZW,Bool.not_eq_true']at b;obtain⟨rfl,rfl⟩:=b;go_enter Tryz.func128,Tryz.ntmps128;go_wp2_with fail;refine(d _).mono ?_;rintro e k ⟨rfl,rfl⟩
 case' inl|inr.inl=>
  cases a
  case' false=>
   have f:∀x,Ce 127 #[I J right,I J n] x (Wl T):=λx=>Iy (by simp at b;omega) (by simp at b;omega) x
  case' true=>
   have f:∀x,Ce 130 #[I J right] x (Wl T):=λx=>by
    have l:-1000<=right:=by simp at b;omega
    have m:right<=1000:=by simp at b;omega
    go_enter Tryz.func130,Tryz.ntmps130;go_wp2;go_ret;exact⟨Qd (by simp_all),rfl⟩
  all_goals
   go_enter Tryz.func128,Tryz.ntmps128;go_wp2_with fail;refine(d _).mono ?_;rintro e k ⟨rfl,rfl⟩;go_wp2_with fail;refine(f _).mono ?_;rintro e t ⟨rfl,rfl⟩
 all_goals
  go_wp2;go_ret;exact⟨Qd rfl,dN _ _⟩
def ajl(q:af)(w:U)(hq:dJ w q.gI q.wh)(hf:vN q.src.xs q.wm q.keys.xs q.sums.xs q.bE.xs q.ord.xs=F) :
  Cb 44 #[FL q.cells] w (Wl F):=by
 have h:=su hf;have r:Y3 (∀k,k<N q.wh->¬3<(E q.wh k lz).cs.length):=λk t n=>by unfold vN at hf;rw[Bool.or_eq_false_iff,List.any_eq_false]at hf;exact hf.2 _ (ZC.2 ⟨_,rA t,rfl⟩) (Qx n)
 have l:∀x,dJ x q.gI q.wh->Cb 124 #[Z q.gI (N q.wh) q.bP,.func (.func 78) #[] #[]] x (I J (-1)):=λx j=>by
  have z:=j.1;generalize q.gI=gI at*;generalize q.wh=ls at*;go_enter Tryz.func124,Tryz.ntmps124;go_wp2;go_loopw [8] (λi wr=>∃k:Nat,k<=N ls/\i=I J k/\Bw x wr) (λi _=>N ls-(intOf i).toNat)
  case atStart=>exact⟨0,QW _,rfl,Qm _ _⟩
  case round=>
   obtain⟨k,t,rfl,p⟩:=hrel;by_cases d:k<N ls
   .obtain⟨b,off,rfl,u⟩:=j.2.1.get d;have m:=cB p (u k d);have n:=r.o k d;unfold aB.val at m;generalize (E ls k lz).ad=ad at*;generalize (E ls k lz).cap=cp at*;generalize (E ls k lz).cs.length=cl at*;have f:Cb 78 #[FL #[Z ad cl cp]] wr (Wl F):=by go_enter Tryz.func78,Tryz.ntmps78;go_wp2;go_ret;exact⟨Qd (Qw (by omega)),dN _ _⟩
    clear u j;go_wp2_with fail;refine f.mono ?_;rintro e v ⟨rfl,a⟩;go_wp2;go_roundw
    case rel=>exact⟨k+1,by omega,by go_num,az p a⟩
    case measure=>simp[intOf];omega
   .go_wp2;go_ret;exact⟨Qe rfl,p⟩
 have f:∀x,dJ x q.gI q.wh->Cb 77 #[Z q.gI (N q.wh) q.bP,.func (.func 78) #[] #[]] x (Wl F):=λx j=>by have l:=l x j;go_enter Tryz.func77,Tryz.ntmps77;go_wp2_with fail;refine l.mono ?_;rintro e v ⟨rfl,a⟩;go_wp2;go_ret;exact⟨Qd rfl,a⟩
 have f:=λo=>f (w.alloc o) (hq.below (dN _ _));have y:=hq.1;have g:N q.wm=N q.wh:=Zm ..;rw[g]at h;obtain⟨A,B,n,C,D,G⟩:=h;unfold af.cells ae.val;clear l hq hf r g;go_enter Tryz.func44,Tryz.ntmps44;go_wp2_with fail;refine(f _).mono ?_;rintro e v ⟨rfl,a⟩;go_wp2;go_ret;exact⟨Qd rfl,az (dN _ _) a⟩
def afU(ao:Option Addr)(cap:Nat)(ls:List aB)(n:Int)(w:U)(hx:dJ w ao ls)(h:mo (ls.map aB.cs) n=T) :
  Cb 81 #[Z ao (N ls) cap,I J n] w (Wl T):=by
 have hl:=hx.1;have C:Y3 (∀k,k<N ls->0<(E ls k lz).cs.length/\∀m,m<(E ls k lz).cs.length->fV ((E ls k lz).cs.getD m cz) n=T):=λk A=>by have p:=Qk.1 h _ (ZC.2 ⟨_,rA (d:=lz) A,rfl⟩);unfold Bj at p;rw[Qj,ZW]at p;exact⟨p.1,λm l=>Qk.1 p.2 _ (rA l)⟩
 clear h;go_enter Tryz.func81,Tryz.ntmps81;go_wp2;go_loopw [11] (λi wr=>∃k:Nat,k<=N ls/\i=I J k/\Bw w wr) (λi _=>N ls-(intOf i).toNat)
 case atStart=>exact⟨0,QW _,rfl,Qm _ _⟩
 case round=>
  obtain⟨k,A,rfl,q⟩:=hrel;by_cases f:k<N ls
  .obtain⟨b,off,rfl,K⟩:=hx.2.1.get f;have j:=cB q (K k f);have g:=hx.2.2 k f;obtain⟨L,l⟩:=C.o k f;have y:=Zh l;generalize E ls k lz=cl at*;obtain⟨ad,cp,cs⟩:=cl;unfold aB.val at j;simp only at j g L y;have D:=g.1;have r:=q.size;have G:((N cs:Int)==0)=false:=by rw[XW];omega
   clear l;go_wp2;go_loopw [22] (λi v=>∃m:Nat,m<=N cs/\i=I J m/\Bw w v) (λi _=>N cs-(intOf i).toNat)
   case atStart=>exact⟨0,QW _,rfl,q.alloc r _⟩
   case round=>
    obtain⟨m,l,rfl,a⟩:=hrel;have t:=a.size;by_cases B:m<N cs
    .obtain⟨b2,P,rfl,Q,R,S,W,X⟩:=g.2 m B;have d:=qA a Q R S W X;have z:=λx=>acD (E cs m cz) n x (y.o m B)
     unfold aI.val at z;generalize E cs m cz=cc at*;go_wp2_with fail;refine(z _).mono ?_;rintro e w4 ⟨rfl,u⟩;go_wp2;go_roundw
     case rel=>exact⟨m+1,by omega,by go_num,az (a.alloc t _) u⟩
     case measure=>simp[intOf];omega
    .go_wp2;go_roundw
     case rel=>exact⟨k+1,by omega,by go_num,a⟩
     case measure=>simp[intOf];omega
  .go_wp2;go_ret;exact⟨Qd rfl,q⟩
theorem E5{n:Int}{group:Bool}{keys sums bE ord:List Int}(h:rF n group keys sums bE ord=T):aS bE n=T/\aS keys n=T/\aS sums n=T/\aS ord (tN group keys sums bE)=T/\dB keys=T/\dB ord=T/\(group=T->N bE=0)/\(group=F->0<N bE/\N keys=0/\N sums=0):=by unfold rF at h;cases group <;> grind
def Te(q:af)(n:Int)(w:U)(hk:q.keys.At w)(hs:q.sums.At w)(he:q.bE.At w)(hkc:N q.keys.xs<=q.keys.cap)(h:rF n q.group q.keys.xs q.sums.xs q.bE.xs q.ord.xs=T) :
  Cb 82 #[FL q.cells,I J n] w (Wl T):=by
 obtain⟨P,Q,a3,-,a5,-,D,G⟩:=E5 h;obtain⟨p,g,b,m⟩:=aL w q.cells 26;obtain⟨r,t,u,v,y,z,A⟩:=m.k7;have X:=he.1;have j:=uJ q.bE.ad q.bE.cap q.bE.xs n p (Qo b he) P;have k:=uJ q.sums.ad q.sums.cap q.sums.xs n p (Qo b hs) a3;have L:=Zh λx (K:Bw p x)=>uJ q.keys.ad q.keys.cap q.keys.xs n x (Qo (az b K) hk) Q;have f:=Zh λx (K:Bw p x)=>allDifferent_any q.keys.ad q.keys.cap q.keys.xs x (Qo (az b K) hk) hkc;rw[a5]at f;have l:=Zh b;simp only[af.cells,ae.val]at g r t u v y z A ⊢;clear hk hs he hkc h P Q a3 a5 b m;generalize hG:q.group=group at*;cases group
 .obtain⟨l1,R,S⟩:=G rfl;have aa:((N q.keys.xs:Int)==0)=true:=by rw[R];rfl
  have ag:((N q.sums.xs:Int)==0)=true:=by rw[S];rfl
  clear k L f D G R S;go_enter Tryz.func82,Tryz.ntmps82;go_wp2_with fail;refine j.mono ?_;rintro e W ⟨rfl,a⟩;have d:=tO a r t u v y z A;clear g;go_wp2;go_ret;exact⟨Qd (by simp_all),az l.o a⟩
 .have l0:=D rfl;have l1:¬0<N q.bE.xs:=by omega
  clear j D G l0;go_enter Tryz.func82,Tryz.ntmps82;go_wp2_with fail;refine k.mono ?_;rintro e W ⟨rfl,a⟩;have d:=tO a r t u v y z A;have B:=L.o W a;clear g;go_wp2_with fail;refine B.mono ?_;rintro e w3 ⟨rfl,i⟩;have d:=tO (az a i) r t u v y z A;have C:=f.o w3 (az a i);go_wp2_with fail;refine C.mono ?_;rintro e w4 ⟨rfl,rfl⟩;go_wp2;go_ret;exact⟨Qd rfl,az l.o (az a i)⟩
def afV(ao:Option Addr)(cap:Nat)(ts:List ah)(q:af)(w:U)(hx:bu w ao ts)(hq:q.At w)(hkc:N q.keys.xs<=q.keys.cap)(hoc:N q.ord.xs<=q.ord.cap)(h:q.check ts=0) :
  Cb 45 #[Z ao (N ts) cap,FL q.cells] w (Wl T):=by
 obtain⟨R,S,L,p4,W,P⟩:=iM h;have Q:=su S;obtain⟨-,-,-,a4,-,X,-,-⟩:=E5 P;obtain⟨w1,u,j,v⟩:=aL w q.cells 26;obtain⟨y,z,A,B,C,D,G⟩:=v.k7;have k:=uJ q.src.ad q.src.cap q.src.xs (N ts) w1 (Qo j hq.src) L;have Pb:=Zh λx (a:Bw w x)=>countColumns_any ao cap ts q.src.ad q.src.cap q.src.xs x (hx.below a) R (Qo a hq.src) Q.1 L;have Tf:=Zh λx (a:Bw w x)=>afU q.gI q.bP q.wh (ak ts q.src.xs) x (hq.wh.below a) W;have l:=Zh λx (a:Bw w x)=>Te q (ak ts q.src.xs) x (Qo a hq.keys) (Qo a hq.sums) (Qo a hq.bE) hkc P;have m:=Zh λx (_:Bw w x)=>outWidth_any q x (by omega) (by omega);have K:=Zh λx (a:Bw w x)=>uJ q.ord.ad q.ord.cap q.ord.xs (tN q.group q.keys.xs q.sums.xs q.bE.xs) x (Qo a hq.ord) a4;have n:=Zh λx (a:Bw w x)=>allDifferent_any q.ord.ad q.ord.cap q.ord.xs x (Qo a hq.ord) hoc;rw[X]at n;have f:=Zh j;have aa:((N q.src.xs:Int)==0)=false:=by rw[XW];omega
 simp only[af.cells,ae.val]at u y z A B C D G l m ⊢;generalize ak ts q.src.xs=Nq at*;generalize tN q.group q.keys.xs q.sums.xs q.bE.xs=Oq at*;clear hx hq hkc hoc h R S L p4 W P Q a4 X j v;go_enter Tryz.func45,Tryz.ntmps45;go_wp2_with fail;refine k.mono ?_;rintro e w2 ⟨rfl,i⟩;have d:=tO i y z A B C D G;have p:=Pb.o w2 (az f.o i);have r:=Tf.o w2 (az f.o i);clear u k;go_wp2_with fail;refine p.mono ?_;rintro e w3 ⟨rfl,rfl⟩;go_wp2_with fail;refine r.mono ?_;rintro e w4 ⟨rfl,b⟩;have b:=az i b;have d:=tO b y z A B C D G;have t:=l.o w4 (az f.o b);clear p r;go_wp2_with fail;refine t.mono ?_;rintro e w5 ⟨rfl,g⟩;have g:=az b g;have k5:=az f.o g;obtain⟨f0,f1,f2,f3,f4,f5,f6⟩:=tO g y z A B C D G;clear t d y z A B C D G;go_wp2_with fail;refine Qp ?_;refine qA3 ?_;refine qK (I J Oq) (λx (hx:Bw w5 x)=>m.o x (az k5 hx)) ?_;refine qK (Wl T) (λx (hx:Bw w5 x)=>K.o x (az k5 hx)) ?_;refine qA3 ?_;go_big_quiet_want;refine⟨Wl T,λx hx=>?_,?_⟩
 .have hC:=Calls.Ph hx (n.o x (az k5 hx));go_simp
 simp only[pU];go_big_quiet_on;refine K4 ?_;refine wpQuiet_nil ?_;intro x hx;go_wp2;go_ret;exact⟨Qd rfl,az k5 hx⟩
def WE(ao:Option Addr)(cap:Nat)(ts:List ah)(q:af)(w:U)(hx:bu w ao ts)(hq:q.At w)(hkc:N q.keys.xs<=q.keys.cap)(hoc:N q.ord.xs<=q.ord.cap)(h:q.check ts=0) :
  Cb 28 #[Z ao (N ts) cap,FL q.cells] w (I J 0):=by obtain⟨D,j,f,k⟩:=aL w q.cells 26;obtain⟨p,r,t,u,v,y,z⟩:=k.k7;have i:=WC ao cap ts D (hx.below f) (iM h).1;have B:=Zh λx (l:Bw w x)=>ajl q x (hq.wh.below l) (iM h).2.1;have C:=Zh λx (l:Bw w x)=>afV ao cap ts q x (hx.below l) (hq.below l) hkc hoc h;have b:=Zh f;simp only[af.cells,ae.val]at j p r t u v y z B C ⊢;clear hx hq hkc hoc h f k;go_enter Tryz.func28,Tryz.ntmps28;go_wp2_with fail;refine i.mono ?_;rintro e G ⟨rfl,g⟩;have d:=tO g p r t u v y z;have m:=B.o G (az b.o g);clear j i;go_wp2_with fail;refine m.mono ?_;rintro e K ⟨rfl,a⟩;have a:=az g a;have d:=tO a p r t u v y z;have n:=C.o K (az b.o a);go_wp2_with fail;refine n.mono ?_;rintro e L ⟨rfl,A⟩;go_wp2;go_ret;exact⟨Qe rfl,az b.o (az a A)⟩
def KE{p s:Tmp}(h:fn.results=#[.cell p ty,.tmp u,.tmp s])(tmps:Array X3)(P:Program)(w:U) :
  (results fn tmps).run P w=((asAddr (tmps.getD p undef)).run P w).andThen λa b=>((loadVar ty a).run P b).andThen λv d=>.ok (MV #[v,tmps.getD u undef,tmps.getD s undef]) d:=by simp only[results,h];simp[Sem.run_bind,Result.andThen]
def acP{p s:Tmp}(h:fn.results=#[.cell p ty,.tmp u,.tmp s]){tmps:Array X3}{P:Program}{x y:X3}(hp:tmps.getD p undef=Y (O (aD B 0)))(hu:tmps.getD u undef=x)(hs:tmps.getD s undef=y)(hl:(loadVar ty (aD B 0)).run P w=.ok v w) :
  (results fn tmps).run P w=.ok (MV #[v,x,y]) w:=by rw[KE h,hp,hu,hs];simp[go_sem]at hl ⊢;simp[hl]
def WZ(f:aF)(ts:List ah)(q:af):∃(fca:Option Addr) (fcl fcc S C:Nat) (fra:Option Addr) (frl frc:Nat) (fna:Option Addr) (fnl fnc:Nat) (fpa:Option Addr) (fpl fpc:Nat),f.cells ts q=#[Z q.src.ad (N q.src.xs) q.src.cap,Z q.gI (N q.wh) q.bP,Wl q.group,Z q.keys.ad (N q.keys.xs) q.keys.cap,Z q.sums.ad (N q.sums.xs) q.sums.cap,Z q.bE.ad (N q.bE.xs) q.bE.cap,Z q.ord.ad (N q.ord.xs) q.ord.cap,Z fca fcl fcc,I .u64 ((S:Nat):Int),I .u64 ((C:Nat):Int),Z fra frl frc,Z fna fnl fnc,Z fpa fpl fpc]:=⟨f.ca,_,f.cc,_,_,f.ra,_,f.rc,f.na,f.nl,f.nc,f.pa,f.pl,f.pc,rfl⟩
def TC(ds:List bN)(ts:List ah)(q:af)(w:U)(e:Ending)(w':U):Prop:=Bw w w'/\∃(f:aF) (a:Option Addr) (c:Nat) (ps:List aG),e=FN (MV #[FL (f.cells ts q),Z a (N ps) c,I J 0])/\f.At ts q w'/\bY w' a ps/\ps.map aG.d=ds
def zR(ao:Option Addr)(cap:Nat)(ts:List ah)(q:af)(po:Option Addr)(pc:Nat)(pl:List ai)(w:U)(hx:bu w ao ts)(hq:q.At w)(hkc:N q.keys.xs<=q.keys.cap)(hoc:N q.ord.xs<=q.ord.cap)(hn:fP w po pl)(hsh:bR w 0)(hcap:∀i,i<N pl->(E pl i nz).co.xs.length<=(E pl i nz).co.cap)(hck:q.check ts=0)(hlk:jD ts q pl=O ds) :
  Calls V 37 #[Z ao (N ts) cap,FL q.cells,Z po (N pl) pc] w (TC ds ts q w):=by obtain⟨w1,Q,D,G⟩:=aL w q.cells 26;obtain⟨w2,ax,K,R⟩:=aL w1 #[Z xn 0 0,Z xn 0 0,Wl F,Z xn 0 0,Z xn 0 0,Z xn 0 0,Z xn 0 0,Z xn 0 0,I .u64 0,I .u64 0,Z xn 0 0,Z xn 0 0,Z xn 0 0] 90;have g:=az D K;obtain⟨g0,g1,g2,g3,g4,r,g6⟩:=(G.of (K.block _ G.lt)).k7;have t:=WE ao cap ts q w2 (hx.below g) (hq.below g) hkc hoc hck;obtain⟨h1,_,h3,h4,_⟩:=xN hck;have v:Y3 (∀x,Bw w x->Calls V 35 #[Z ao (N ts) cap,FL q.cells] x λe w'=>∃f:aF,e=FN (FL (f.cells ts q))/\f.At ts q w'/\f.New (M (H x))/\Bw x w'):=λx L=>Fa ao cap ts q x (hx.below L) (hq.below L) h1.ok;have JN:=Zh λ(f:aF) (x:U) (L:Bw w x) (W:f.At ts q x)=>agh f ts q po pc pl w x L h1.ok W hn (Ja L hsh) hcap h3 (by omega) hlk;obtain⟨HC,ay,HW⟩:=dQ g hq D.size;have nO:=hd R;simp only[af.cells,ae.val]at Q t v g0 g1 g2 g3 g4 r g6 ⊢;clear hx hq hkc hoc hn hsh hcap D K G R g h1 h3 h4 hck hlk;go_enter Tryz.func37,Tryz.ntmps37;go_wp2_with fail;refine t.mono ?_;rintro e w3 ⟨rfl,l⟩;have P:=v.o w3 (az HC.o l);have d:=tO l g0 g1 g2 g3 g4 r g6;have y:=hd l;clear t Q ax l g0 g1 g2 g3 g4 r g6 v;go_wp2_with fail;refine P.mono ?_;rintro e w4 ⟨f,rfl,W,X,m⟩;obtain⟨aG,aH,aI,S,C,aK,aM,aN,aO,aP,aQ,aR,aS,aT,cK⟩:=WZ f ts q;obtain⟨w5,vT,k5,r⟩:=aL w4 (f.cells ts q) 90;have A:=JN.o f w5 (az HC.o (az (az y.o m) k5)) (W.below k5);rw[cK]at A vT r ⊢;obtain⟨jG,aA,aa⟩:=dQ (az (az y.o m) k5) (Qz m.size k5.size) (W.below k5);have av:=hd X;obtain⟨ag,UW⟩:=aJ (QA nO.o.lt y.o.size) cK;have zL:=hd r;obtain⟨p0,p1,p2,p3,p4,p5,p6,p7,p8,p9,aB,aC,aD⟩:=r.oh;clear m W k5 r cK JN X P d;go_wp2_with fail;refine A.mono ?_;rintro e w6 ⟨n,a,c,ps,rfl,aj,Dw,ak,au⟩;clear A vT p0 p1 p2 p3 p4 p5 p6 p7 p8 p9 aB aC aD;have OD:=az jG.o n;obtain⟨r0,r1,r2,r3,r4,r5,r6,r7,r8,r9,aU,aV,aW⟩:=(zL.o.of (n.block _ zL.o.lt)).oh;have gR:=nO.o.of (OD.block _ nO.o.lt);obtain⟨x0,x1,x2,x3,x4,x5,x6,x7,x8,x9,aX,aY,aZ⟩:=gR.oh;have z:=λi=>gR.frozen i;have j:=kF (B:=M (H w1)) (f.cells ts q).toList 0 w6;have k:=pG (vs:=(f.cells ts q).toList) (o:=0) gR;have vR:=(az HC.o OD).trans (j.below (az HC.o OD).size (λb L=>by have:=HW.o;omega));have rY:TC ds ts q w _ _:=⟨vR,f,a,c,ps,rfl,(aa.o.below n).but j av.o ag.o (ay.o.below vR),aj.but j (λad e=>by have:=ak ad e;have:=ag.o;have:=aA.o;omega) au vR,Dw⟩;rw[UW.o]at k rY;simp only[uk,Qu,Qb,Qc]at k;obtain⟨JR,rY⟩:=aJ (Mo k) rY;clear gR j vR OD n k zL aa aj ak au Dw;go_wp2;exact Zw (acP (p:=6) (u:=7) (s:=8) rfl rfl rfl rfl JR.o) rfl rY.o
def KG(ao:Option Addr)(cap:Nat)(ts:List ah)(q:af)(po:Option Addr)(pc:Nat)(pl:List ai)(w:U)(hx:bu w ao ts)(hq:q.At w)(hkc:N q.keys.xs<=q.keys.cap)(hoc:N q.ord.xs<=q.ord.cap)(hn:fP w po pl)(hsh:bR w 0)(hcap:∀i,i<N pl->(E pl i nz).co.xs.length<=(E pl i nz).co.cap)(hck:q.check ts=0)(hlk:jD ts q pl=O ds) :
  Cb 19 #[Z ao (N ts) cap,FL q.cells,Z po (N pl) pc] w (I J 0):=by obtain⟨A,j,b,k⟩:=aL w q.cells 26;obtain⟨n,p,r,t,u,v,y⟩:=k.k7;have d:=zR ao cap ts q po pc pl A (hx.below b) (hq.below b) hkc hoc (hn.below b) (Ja b hsh) hcap hck hlk;have m:=Zh b;simp only[af.cells,ae.val]at j d n p r t u v y ⊢;clear hx hq hkc hoc hn hsh hcap b k hck hlk;go_enter Tryz.func19,Tryz.ntmps19;go_wp2_with fail;refine d.mono ?_;rintro e B ⟨g,f,a,c,ps,rfl,-⟩;have l:Y3 (∀o,Bw w (B.alloc o)):=λo=>(az m.o g).trans ((dN _ _).mono (az m.o g).size);obtain⟨D,G,K,S,C,L,P,Q,R,W,X,aa,ag,aj,z⟩:=WZ f ts q;rw[z];clear g d j n p r t u v y z;go_wp2;go_ret;exact⟨rfl,l.o _⟩
def abt{ys:List Int}(hl:N xs=N ys)(hk:k<N xs):xs.take (k+1)=ys.take (k+1)↔xs.take k=ys.take k/\E xs k 0=E ys k 0:=by
 have a:k<N ys:=by omega
 rw[Qh hk,Qh a];have b:E xs k 0=xs[k]:=by simp[List.getD,hk]
 have d:E ys k 0=ys[k]:=by simp[List.getD,a]
 rw[b,d];constructor
 .intro h;have:=List.append_inj h (by simp;omega);exact⟨this.1,by simpa using this.2⟩
 .rintro⟨e,f⟩;rw[e,f]
def abu(ao bo:Option Addr)(cap cap':Nat)(xs ys:List Int)(w:U)(hx:IntsAt w ao xs)(hy:IntsAt w bo ys) :
  Cb 69 #[Z ao (N xs) cap,Z bo (N ys) cap'] w (Wl (decide (xs=ys))):=by
 have K:=hx.1;have A:=hy.1;obtain⟨B,r⟩:∃b,b=decide (xs=ys):=⟨_,rfl⟩;rw[<-r];have g:=Zh r;clear r;by_cases a:N xs=N ys
 .have C:=Zh λ(k:Nat) (u:k<N xs)=>abt a u
  obtain⟨G,t⟩:=aJ (show xs.take (N xs)=ys.take (N xs)->xs=ys from λh=>by rw[QX,a,QX]at h;exact h) (show ∀k,¬xs.take k=ys.take k->¬xs=ys from λk h e=>h (by rw[e]));rw[<-a];go_enter Tryz.func69,Tryz.ntmps69;go_wp2;go_loopw [5] (λi wr=>∃k:Nat,k<=N xs/\i=I J k/\Y3 (xs.take k=ys.take k)/\∃n,wr=w.drewN n) (λi _=>N xs-(intOf i).toNat)
  case atStart=>exact⟨0,QW _,rfl,rfl,0,rfl⟩
  case round=>
   obtain⟨k,u,rfl,v,n,rfl⟩:=hrel;by_cases f:k<N xs
   .obtain⟨b,off,rfl,z⟩:=hx.get f;obtain⟨b',Pf,rfl,m⟩:=hy.get (i:=k) (by omega);have L:=z k f;have D:=m k (by omega);have d:=C.o k f;clear z m hx hy a;by_cases j:E xs k 0=E ys k 0
    .have p:=Zh (d.2 ⟨v.o,j⟩);rw[<-j]at D;generalize E xs k 0=x at*;clear j d;go_wp2;go_quiet (fail);go_wp2;go_roundw
     case rel=>exact⟨k+1,by omega,by go_num,p.o,_,rfl⟩
     case measure=>simp[intOf];omega
    .have l:Y3 (B=F):=by show B=F;rw[g.o];exact Qw (t.o (k+1) λh=>j (d.1 h).2)
     have q:(E xs k 0==E ys k 0)=false:=by simpa using j
     generalize E xs k 0=x at*;generalize E ys k 0=y at*;clear j d g;go_wp2;go_quiet (fail);go_wp2;go_ret;exact⟨by rw[l.o];rfl,Zr (Zr (Qm _ _) _) _⟩
   .obtain rfl:k=N xs:=by omega
    have l:Y3 (B=T):=by show B=T;rw[g.o];exact Qx (G.o v.o)
    clear g;go_wp2;go_ret;exact⟨by rw[l.o];rfl,Zr (Qm _ _) _⟩
 .have l:Y3 (B=F):=by show B=F;rw[g.o];exact Qw λe=>a (by rw[e])
  have q:(((N xs:Nat):Int)==((N ys:Nat):Int))=false:=by
   have:¬((N xs:Nat):Int)=((N ys:Nat):Int):=by omega
   simpa using this
  clear a g hx hy;go_enter Tryz.func69,Tryz.ntmps69;go_wp2;go_ret;exact⟨by rw[l.o];rfl,Qm _ _⟩
def J6(a b:Int)(w:U):Ce 39 #[I J a,I J b] w (Wl (decide (dK a b<0))):=by
 obtain⟨B,d⟩:∃x,x=decide (dK a b<0):=⟨_,rfl⟩;rw[<-d];unfold dK at d;by_cases i:a=1073741824
 .subst i;by_cases f:b=1073741824
  .subst f;have g:Y3 (B=F):=by show B=F;rw[d];rfl
   clear d;go_enter Tryz.func39,Tryz.ntmps39;go_wp2;go_ret;exact⟨by rw[g.o];rfl,rfl⟩
  .have g:Y3 (B=T):=by show B=T;rw[d,ZU (λe=>f e.symm),Zt rfl];rfl
   have j:(b==1073741824)=false:=by simpa using f
   have k:Y3 ((b != 1073741824)=T):=by show (b != 1073741824)=T;simp[bne,j]
   clear d f;go_enter Tryz.func39,Tryz.ntmps39;go_wp2;go_ret;exact⟨by rw[g.o,<-k.o];rfl,rfl⟩
 .have m:(a==1073741824)=false:=by simpa using i
  by_cases f:b=1073741824
  .subst f;have g:Y3 (B=F):=by show B=F;rw[d,ZU i,ZU i,Zt rfl];rfl
   clear d i;go_enter Tryz.func39,Tryz.ntmps39;go_wp2;go_ret;exact⟨by rw[g.o];rfl,rfl⟩
  .have j:(b==1073741824)=false:=by simpa using f
   have g:Y3 (B=decide (a<b)):=by
    show B=_;rw[d];by_cases e:a=b
    .rw[Zt e,e];simp
    .rw[ZU e,ZU i,ZU f];by_cases l:a<b
     .rw[Zt l,Qx l];rfl
     .rw[ZU l,Qw l];rfl
   clear d i f;go_enter Tryz.func39,Tryz.ntmps39;go_wp2;go_ret;exact⟨by rw[g.o];rfl,rfl⟩
def J7(q:af)(w:U)(h1:N q.keys.xs<=1000)(h2:N q.sums.xs<=1000):Cb 21 #[FL q.cells] w (I J (tN q.group q.keys.xs q.sums.xs q.bE.xs)):=by
 obtain⟨k,j,d,e⟩:=aL w q.cells 26;have f:=Zh d;obtain⟨l,m,n,p,r,t,u⟩:=e.k7;obtain⟨src,v,bP,wh,group,⟨y,kc,a⟩,⟨z,A,b⟩,⟨B,C,D⟩,ord⟩:=q;simp only[af.cells,ae.val]at*;unfold tN
 cases group with
 |true =>
  have g:wrap64 ((N a:Int)+1)=(N a:Int)+1:=by unfold wrap64;omega
  have i:Y3 (wrap64 ((N a:Int)+1+N b)=(N a:Int)+1+N b):=by show wrap64 _=_;unfold wrap64;omega
  clear d e;go_enter Tryz.func21,Tryz.ntmps21;go_wp2;go_ret;exact⟨by first|rfl|(rw[<-i.o];rfl),f.o⟩
 |false =>
  clear d e;go_enter Tryz.func21,Tryz.ntmps21;go_wp2;go_ret;exact⟨rfl,f.o⟩
def BH(ao:Option Addr)(cap:Nat)(rs:List ae)(r:ae)(w:U)(hr:jk w ao rs)(hx:r.At w)(hl:N rs<=1000000) :
  Cb 40 #[Z ao (N rs) cap,r.val] w (I J (((rs.map ae.xs).count r.xs:Nat):Int)):=by
 obtain⟨g,q⟩:∃g:Nat->Nat,g=λk=>((rs.take k).map ae.xs).count r.xs:=⟨_,rfl⟩;have y:Y3 (g 0=0):=by rw[q];rfl
 have z:Y3 (∀k,k<N rs->g (k+1)=if (E rs k iz).xs=r.xs then g k+1 else g k):=λk t=>by
  rw[q];simp only;rw[Qh t,Qi,List.count_append];have e:E rs k iz=rs[k]:=by simp[List.getD,t]
  rw[e];by_cases h:rs[k].xs=r.xs
  .rw[Zt h];simp[h]
  .rw[ZU h];simp[h]
 have A:Y3 (g (N rs)=(rs.map ae.xs).count r.xs):=by rw[q];show List.count _ (List.map _ (rs.take (N rs)))=_;rw[QX]
 have B:Y3 (∀k,g k<=N rs):=λk=>by rw[q];refine Qz List.count_le_length ?_;rw[Zm,Xu];omega
 generalize (rs.map ae.xs).count r.xs=MC at*;have C:=Zh λ(x:U) (k:Nat) (u:Bw w x) (t:k<N rs)=>abu (E rs k iz).ad r.ad (E rs k iz).cap r.cap (E rs k iz).xs r.xs x (Qo u (hr.2.2 k t)) (Qo u hx);have K:=Zh hr.2.1;obtain⟨S,W,L⟩:=r;simp only[ae.val]at*;clear q hr hx;go_enter Tryz.func40,Tryz.ntmps40;go_wp2;go_loopw [5,6] (λn i wr=>∃k:Nat,k<=N rs/\i=I J k/\n=I J (g k:Int)/\Bw w wr) (λ_ i _=>N rs-(intOf i).toNat)
 case atStart=>exact⟨0,QW _,rfl,by rw[y.o];rfl,Qm _ _⟩
 case round=>
  obtain⟨k,t,rfl,rfl,f⟩:=hrel;by_cases j:k<N rs
  .obtain⟨b,off,rfl,G⟩:=Qf K.o j;have D:=cB f (G k j);have a:=C.o wr k f j;have d:=z.o k j;have R:=B.o k;have v:=Zh f;clear G f;generalize E rs k iz=x at*;obtain⟨X,xc,P⟩:=x;simp only[ae.val]at*;by_cases p:P=L
   .rw[Zt p]at d;rw[Qx p]at a;have l:=Zh d;clear p d;go_wp2_with fail;refine a.mono ?_;rintro e Q ⟨rfl,m⟩;clear a D;generalize g k=mk at*;go_wp2;go_roundw
    case rel=>exact⟨k+1,by omega,by go_num,by rw[l.o];go_num,az v.o m⟩
    case measure=>simp[intOf];omega
   .rw[ZU p]at d;rw[Qw p]at a;have l:=Zh d;clear p d;go_wp2_with fail;refine a.mono ?_;rintro e Q ⟨rfl,m⟩;clear a D;go_wp2;go_roundw
    case rel=>exact⟨k+1,by omega,by go_num,by rw[l.o],az v.o m⟩
    case measure=>simp[intOf];omega
  .obtain rfl:k=N rs:=by omega
   have v:=Zh f;clear f;rw[A.o];go_wp2;go_ret;exact⟨rfl,v.o⟩
def Rh(ao bo:Option Addr)(cap cap':Nat)(ra rb:List ae)(w:U)(ha:jk w ao ra)(hb:jk w bo rb)(hl:N ra<=1000000)(hp:(ra.map ae.xs).Perm (rb.map ae.xs)) :
  Cb 23 #[Z ao (N ra) cap,Z bo (N rb) cap'] w (Wl T):=by
 have g:N rb=N ra:=by have:=hp.length_eq;rw[Zm,Zm]at this;omega
 have r:=Zh λ(x:U) (k:Nat) (j:Bw w x) (q:k<N ra)=>BH ao cap ra (E ra k iz) x (ha.below j) (Qo j (ha.2.2 k q)) hl;have l:=Zh λ(x:U) (k:Nat) (j:Bw w x) (q:k<N ra)=>BH bo cap' rb (E ra k iz) x (hb.below j) (Qo j (ha.2.2 k q)) (by omega);have B:=Zh λ(k:Nat)=>hp.count_eq (E ra k iz).xs;rw[g]at l ⊢;have C:=Zh ha.2.1;have D:=ha.1;clear ha hb hp g;go_enter Tryz.func23,Tryz.ntmps23;go_wp2;go_loopw [5] (λi wr=>∃k:Nat,k<=N ra/\i=I J k/\Bw w wr) (λi _=>N ra-(intOf i).toNat)
 case atStart=>exact⟨0,QW _,rfl,Qm _ _⟩
 case round=>
  obtain⟨k,q,rfl,a⟩:=hrel;by_cases f:k<N ra
  .obtain⟨b,off,rfl,A⟩:=Qf C.o f;have v:=cB a (A k f);have y:=r.o wr k a f;have z:=Zh λ(x:U) (j:Bw w x)=>l.o x k j f
   rw[<-B.o k]at z;have p:=Zh a;clear A a;generalize ((ra.map ae.xs).count (E ra k iz).xs:Nat)=Mz at*;generalize E ra k iz=x at*;obtain⟨L,P,Q⟩:=x;simp only[ae.val]at*;go_wp2_with fail;refine y.mono ?_;rintro e K ⟨rfl,d⟩;have m:=z.o K (az p.o d);have G:=cB d v;have t:=Zh (az p.o d);clear y v d;go_wp2_with fail;refine m.mono ?_;rintro e R ⟨rfl,n⟩;have u:=Zh (az t.o n);clear m G n;go_wp2;go_roundw
   case rel=>exact⟨k+1,by omega,by go_num,u.o⟩
   case measure=>simp[intOf];omega
  .obtain rfl:k=N ra:=by omega
   have p:=Zh a;clear a;go_wp2;go_ret;exact⟨rfl,p.o⟩
def LJ{a b ps:List Int}(h:dL a b ps<=0):∀k,(∀j,j<k->j<N ps->E a (E ps j 0).toNat 0=E b (E ps j 0).toNat 0)->dL a b (ps.drop k)<=0
 |0,_=>h
 |k+1,he=>by
  have ih:=LJ h k λj hj hl=>he j (by omega) hl;by_cases hk:k<N ps
  .rw[Xh hk]at ih;unfold dL at ih;have e:E ps k 0=ps[k]:=by simp[List.getD,hk]
   have:=he k (by omega) hk;rw[e]at this;rw[Zt (by rw[this];unfold dK;rw[Zt rfl])]at ih;exact ih
  .rw[List.drop_eq_nil_of_le (by omega)];unfold dL;omega
def aip{a b ps:List Int}(h:dL a b ps<=0)(hk:k<N ps)(he:∀j,j<k->j<N ps->E a (E ps j 0).toNat 0=E b (E ps j 0).toNat 0):¬dK (E b (E ps k 0).toNat 0) (E a (E ps k 0).toNat 0)<0:=by
 have d:=LJ h k he;rw[Xh hk]at d;unfold dL at d;have e:E ps k 0=ps[k]:=by simp[List.getD,hk]
 rw[e,wY];by_cases f:dK (E a ps[k].toNat 0) (E b ps[k].toNat 0)=0
 .omega
 .rw[ZU f]at d;omega
def G7(ao:Option Addr)(cap:Nat)(rs:List ae)(ps:ae)(w:U)(hr:jk w ao rs)(hp:ps.At w)(hl:N rs<=1000000)(hin:∀r∈rs,aS ps.xs (N r.xs)=T)(hs:bO (DI ps.xs) (rs.map ae.xs)) :
  Cb 22 #[Z ao (N rs) cap,ps.val] w (Wl T):=by
 have NJ:Y3 (∀i,i+1<N rs->dL (E rs i iz).xs (E rs (i+1) iz).xs ps.xs<=0):=λi hi=>by
  have h:=rR.1 hs;rw[Z7]at h;have h1:=h i (i+1) (by rw[Zm];omega) (by rw[Zm];omega) (by omega);have e1:E rs i iz=rs[i]:=by simp[List.getD,show i<N rs by omega]
  have e2:E rs (i+1) iz=rs[i+1]:=by simp[List.getD,hi]
  rw[e1,e2];simpa using h1
 obtain⟨S,HP,Dr⟩:=dQ hr hp hin;have aA:=hp.1;clear hs hr hp hin;obtain⟨pa,pc,d⟩:=ps;simp only[ae.val]at*;go_enter Tryz.func22,Tryz.ntmps22;go_wp2;go_loopw [5] (λi wr=>∃k:Nat,1<=k/\(k<=N rs∨k=1)/\i=I J k/\Bw w wr) (λi _=>N rs-(intOf i).toNat)
 case atStart=>exact⟨1,Qn _,.inr rfl,rfl,Qm _ _⟩
 case round=>
  obtain⟨i,aN,hi,rfl,p⟩:=hrel;by_cases g:i<N rs
  .have vR:=Zh p;clear p;obtain⟨a,rfl⟩:∃a,i=a+1:=⟨i-1,by omega⟩
   have HC:=Zh (NJ.o a g);have hI:(a:Int)+1<(N rs:Int):=by omega
   go_wp2;go_loopw [6] (λkv wq=>∃k:Nat,k<=N d/\kv=I J k/\Y3 (∀j,j<k->j<N d->(E rs a iz).xs.getD (E d j 0).toNat 0=(E rs (a+1) iz).xs.getD (E d j 0).toNat 0)/\Bw w wq) (λkv _=>N d-(intOf kv).toNat)
   case atStart=>exact⟨0,QW _,rfl,λj hj=>absurd hj (by omega),vR.o⟩
   case round=>
    obtain⟨k,hk,rfl,HE,b⟩:=hrel;by_cases l:k<N d
    .obtain⟨pb,po,rfl,W⟩:=Qg (Qo b HP.o) l;have aj:=W k l;obtain⟨rb,ro,av,B⟩:=Qf (S.o.below b).2.1 g;subst av;have q:=B (a+1) g;have t:=B a (by omega);have G:E rs (a+1) iz∈rs:=by simp[List.getD,g]
     have K:E rs a iz∈rs:=by simp[List.getD,show a<N rs by omega]
     have L:=Ql (Dr.o _ G) l;have P:=Ql (Dr.o _ K) l;have ep:E d k 0=d[k]:=by simp[List.getD,l]
     rw[<-ep]at L P;obtain⟨f,C⟩:∃f:Nat,E d k 0=(f:Int):=⟨(E d k 0).toNat,by omega⟩;have m:=Zh (aip HC.o l HE.o);rw[C]at aj L P m;rw[Xk]at m;obtain⟨cb,aa,JO,af⟩:=Qg ((S.o.below b).2.2 (a+1) g) (i:=f) (by omega);obtain⟨db,ag,ax,ah⟩:=Qg ((S.o.below b).2.2 a (by omega)) (i:=f) (by omega);have u:=af f (by omega);have v:=ah f (by omega);have y:Y3 ((E rs a iz).xs.getD f 0=(E rs (a+1) iz).xs.getD f 0->∀j,j<k+1->j<N d->(E rs a iz).xs.getD (E d j 0).toNat 0=(E rs (a+1) iz).xs.getD (E d j 0).toNat 0):=λh j hj hl=>by
      by_cases ay:j<k
      .exact HE.o j ay hl
      .obtain rfl:j=k:=by omega
       rw[C,Xk];exact h
     have n:=Zh b;have aB:=((S.o.below b).2.2 (a+1) g).1;have aC:=((S.o.below b).2.2 a (by omega)).1;clear W B af ah G K ep C b HE;generalize E rs (a+1) iz=X at*;generalize E rs a iz=Yq at*;obtain⟨xa,xc,xx⟩:=X;obtain⟨ya,yc,yx⟩:=Yq;simp only[ae.val]at*;subst JO;subst ax;have aF:wrap64 ((a:Int)+1-1)=(a:Int):=by unfold wrap64;omega
     have aG:(k:Int)<(N d:Int):=by omega
     have aH:(a:Int)<(N rs:Int):=by omega
     generalize E xx f 0=xv at*;generalize E yx f 0=yv at*;by_cases he:yv=xv
     .have ak:=Zh (y.o he);subst he;clear y m;go_wp2;go_quiet (fail);go_wp2;go_roundw
      case rel=>exact⟨k+1,by omega,by go_num,ak.o,Zr n.o _⟩
      case measure=>simp[intOf];omega
     .have aI:(xv==yv)=false:=by simpa using λe=>he e.symm
      have Q:=λx=>(J6 xv yv x).mono λe w' h=>show e=FN (Wl F)/\Bw x w' from ⟨by rw[h.1,Qw m.o],h.2 ▸ Qm _ _⟩;have R:=Zh Q;have aJ:(0:Int)<=(a:Int)+1:=by omega
      have aK:IntKind.i64.wrap (a:Int)=(a:Int):=by rw[XE];omega
      clear y m he Q;go_wp2;go_quiet (fail);go_upto_region 9 with fail;obtain⟨wz,D⟩:∃z,wr.drewN nq=z:=⟨_,rfl⟩;have A:Bw wr wz:=by rw[<-D];exact Zr (Qm _ _) _
      have au:=Zh (az n.o A);obtain⟨q,t,u,v⟩:=alA A q t u v;rw[D];clear D A;refine Qp ?_;refine qS (Z (O (aD rb ro)) (N rs) cap) ?_;refine qS (I J ((a:Int)+1)) ?_;refine qS (Y (O (aD rb (ro+(a+1))))) ?_;refine qC (Z (O (aD cb aa)) (N xx) xc) q ?_;refine qS (I J (f:Int)) ?_;refine qS (Y (O (aD cb (aa+f)))) ?_;refine qC (I J xv) u ?_;refine qS (Z (O (aD rb ro)) (N rs) cap) ?_;refine qS (I J ((a:Int)+1)) ?_;refine qS (I J (a:Int)) ?_;refine qS (Y (O (aD rb (ro+a)))) ?_;refine qC (Z (O (aD db ag)) (N yx) yc) t ?_;refine qS (I J (f:Int)) ?_;refine qS (Y (O (aD db (ag+f)))) ?_;refine qC (I J yv) v ?_;go_big_quiet_want;refine⟨Wl F,λx hx=>?_,?_⟩
      .have hC:=Calls.within hx (R.o x);go_simp
      simp only[pU];go_big_quiet_on;refine wpQuiet_nil ?_;intro w5 ai;have jG:=Zh (az au.o ai);clear ai R;go_wp2;go_roundw
      case rel=>exact⟨a+1+1,by omega,by omega,by go_num,jG.o⟩
      case measure=>simp[intOf];omega
    .have aL:¬((k:Int)<(N d:Int)):=by omega
     have n:=Zh b;clear b;go_wp2;go_roundw
     case rel=>exact⟨a+1+1,by omega,by omega,by go_num,n.o⟩
     case measure=>simp[intOf];omega
  .have vR:=Zh p;have aM:¬((i:Int)<(N rs:Int)):=by omega
   clear p;go_wp2;go_ret;exact⟨rfl,vR.o⟩
def Hd(X:List (List Int))(w:U)(e:Ending)(w':U):Prop:=∃(ao:Option Addr) (cap:Nat) (ys:List ae),e=FN (MV #[Z ao (N ys) cap,I J 0])/\jk w' ao ys/\ys.map ae.xs=X/\Bw w w'
structure Rp(q:af)(n:Nat)(X:List (List Int)):Prop where
 few:N X<=1000000
 lens:∀r∈X,N r=n
 ord:aS q.ord.xs (n:Int)=T
 sorted:bO (DI q.ord.xs) X
def Rq(co d po:Option Addr)(cm cc dm dc pm pc:Nat)(q:af)(A B:List (List Int))(n:Nat)(w:U)(hq:q.ord.At w)(hk:N q.keys.xs<=1000)(hu:N q.sums.xs<=1000)(hn:tN q.group q.keys.xs q.sums.xs q.bE.xs=(n:Int))(hA:Rp q n A)(hB:Rp q n B)(hp:A.Perm B)
  (he:∀x,Bw w x->Calls V 15 #[Z co cm cc,FL q.cells,Z d dm dc] x (Hd A x))
  (hx:∀x,Bw w x->Calls V 18 #[Z co cm cc,FL q.cells,Z po pm pc,Z d dm dc] x (Hd B x))
  (hf:∀x,Bw w x->Cb 19 #[Z co cm cc,FL q.cells,Z po pm pc] x (I J 0)) :
  Cb 9 #[FL (jX (Z co cm cc) q (Z d dm dc)),Z po pm pc] w (Wl T):=by
 obtain⟨w1,aS,aj,hg⟩:=aL w (jX (Z co cm cc) q (Z d dm dc)) 29;obtain⟨ak,au,av⟩:=dQ he hx hf;have f:=Zh λx=>J7 q x hk hu;rw[hn]at f;have vR:=Zh λ(x:U) (b:Option Addr) (cap:Nat) (ys:List ae) (X:List (List Int)) (h:jk x b ys) (e:ys.map ae.xs=X) (ok:Rp q n X)=>abL b cap ys n x h (by have:=ok.few;rw[<-e,Zm]at this;exact this) (λy hy=>ok.lens _ (by rw[<-e];exact ZC.2 ⟨y,hy,rfl⟩));have xz:=Zh λ(x:U) (b:Option Addr) (cap:Nat) (ys:List ae) (X:List (List Int)) (hx:Bw w x) (h:jk x b ys) (e:ys.map ae.xs=X) (ok:Rp q n X)=>G7 b cap ys q.ord x h (Qo hx hq) (by have:=ok.few;rw[<-e,Zm]at this;exact this) (λy hy=>by rw[ok.lens y.xs (by rw[<-e];exact ZC.2 ⟨y,hy,rfl⟩)];exact ok.ord) (by rw[e];exact ok.sorted);have aa:=Zh λ(x:U) (b bo:Option Addr) (cap S:Nat) (ys i:List ae) (h:jk x b ys) (h':jk x bo i) (e:ys.map ae.xs=A) (e':i.map ae.xs=B)=>Rh b bo cap S ys i x h h' (by have:=hA.few;rw[<-e,Zm]at this;exact this) (by rw[e,e'];exact hp);obtain⟨HA,HB,a⟩:=dQ hA hB aj;have g:=Zh λ(x:U) (hx:Bw w1 x)=>GB.k9 (hg.of (hx.block _ hg.lt))
 obtain⟨src,gI,bP,wh,group,aQ,aR,bE,ord⟩:=q;simp only[jX,af.cells,ae.val]at*;obtain⟨m,p,r,t,u,v,z,C,D⟩:=g.o w1 (Qm _ _);have h1:=ak.o w1 a.o;go_enter Tryz.func9,Tryz.ntmps9;go_wp2_with fail;refine h1.mono ?_;rintro e w2 ⟨ya,yc,ys,rfl,ax,ay,aA⟩;have k2:=aA;obtain⟨W,oz⟩:=aJ (XK ax ay) k2;obtain⟨m,p,r,t,u,v,z,C,D⟩:=g.o w2 k2;have h2:=au.o w2 (az a.o k2);go_wp2_with fail;refine h2.mono ?_;rintro e w3 ⟨za,zc,i,rfl,aB,aC,G⟩;have k3:=az oz.o G;obtain⟨HZ,zX,aD⟩:=dQ (XK aB aC) k3 (W.o.1.below G);obtain⟨m,p,r,t,u,v,z,C,D⟩:=g.o w3 k3;have h3:=av.o w3 (az a.o k3);go_wp2_with fail;refine h3.mono ?_;rintro e w4 ⟨rfl,j⟩;have k4:=az zX.o j;obtain⟨aF,aG,aH⟩:=dQ k4 (aD.o.below j) (HZ.o.1.below j);obtain⟨m,p,r,t,u,v,z,C,D⟩:=g.o w4 k4;have h4:=f.o w4;go_wp2_with fail;refine h4.mono ?_;rintro e w5 ⟨rfl,k⟩;have k5:=az aF.o k;obtain⟨aI,K,aK⟩:=dQ k5 (aG.o.below k) (aH.o.below k);obtain⟨m,p,r,t,u,v,z,C,D⟩:=g.o w5 k5;have h5:=vR.o w5 ya yc ys A K.o W.o.2 HA.o;go_wp2_with fail;refine h5.mono ?_;rintro e w6 ⟨rfl,rfl⟩;have h6:=f.o w6;go_wp2_with fail;refine h6.mono ?_;rintro e w7 ⟨rfl,mO⟩;have k7:=az aI.o mO;obtain⟨L,P,Q⟩:=dQ k7 (K.o.below mO) (aK.o.below mO);obtain⟨m,p,r,t,u,v,z,C,D⟩:=g.o w7 k7;have h7:=vR.o w7 za zc i B Q.o HZ.o.2 HB.o;go_wp2_with fail;refine h7.mono ?_;rintro e w8 ⟨rfl,rfl⟩;have h8:=xz.o w8 ya yc ys A (az a.o L.o) P.o W.o.2 HA.o;go_wp2_with fail;refine h8.mono ?_;rintro e w9 ⟨rfl,JP⟩;have k9:=az L.o JP;obtain⟨aM,aN,R⟩:=dQ k9 (P.o.below JP) (Q.o.below JP);obtain⟨m,p,r,t,u,v,z,C,D⟩:=g.o w9 k9;have h9:=xz.o w9 za zc i B (az a.o k9) R.o HZ.o.2 HB.o;go_wp2_with fail;refine h9.mono ?_;rintro e aO ⟨rfl,l⟩;have ag:=aa.o aO ya za yc zc ys i (aN.o.below l) (R.o.below l) W.o.2 HZ.o.2;have ah:=Zh (az a.o (az aM.o l));go_wp2_with fail;refine ag.mono ?_;rintro e aT ⟨rfl,aP⟩;have ai:=Zh (az ah.o aP);go_wp2;go_ret;exact⟨rfl,ai.o⟩
