import Derived.Test.YtkfenjgalicikaaGreatDoorS08
import Derived.Test.YtkfenjgalicikaaGreatDoorS10
import Derived.Test.YtkfenjgalicikaaGreatDoorS11
import Derived.Test.YtkfenjgalicikaaGreatDoorS13
set_option linter.all false
set_option maxRecDepth 100000
set_option maxHeartbeats 0
namespace Go.Proofs.Zz
open Go.RowKit Go.Shelf Go.Proofs.Tryz
open List renaming length->N,getD->E
open Go.Value renaming slice->Z,int->I,pointer->Y,bool->Qq,agg->Qt
open Go.Proofs.Tryz renaming prog->V
open Option renaming some->O,none->Qr
open Go.IntKind renaming i64->J
open Bool renaming false->F,true->T
open Go renaming World->U,Value->Ql
open Go.World renaming heap->H,setCell->Qn,cell?->Qo
open _root_.Array renaming size->M
open Go.RowKit renaming Hid->Qm
open Go.Obj renaming cells->Qs
open Go.Ending renaming returned->Qu
variable {B b m n:Nat} {most:Int} {ts:JK af} {q:ae} {Fq Nq:Pm} {W W' W0 w:U} {f:bC} {ls:JK (IC)} {v:Ql} {ao:LM} {g:Nat->Ql}
section
open Go.Lib
def uI(s:JK UInt8):JK UInt8:=(cut s [32]).1
def dw(s:JK UInt8):JK UInt8:=(cut s [32]).2.1
def iM(s:JK UInt8):Int:=match atoiAll (uI s) with
 |.ok v=>v
 |_=>0
def qF{α:Type}(next:JK UInt8->α × JK UInt8):Nat->JK UInt8->List α × JK UInt8
 |0,s=>([],s)
 |k+1,s=>if s=[] then ([],s) else ((next s).1::(qF next k (next s).2).1,(qF next k (next s).2).2)
def dI{α:Type}(next:JK UInt8->α × JK UInt8)(most:Int)(s:JK UInt8):List α × JK UInt8:=qF next (min (iM s) most).toNat (dw s)
def kH(s:JK UInt8):Int × JK UInt8:=(iM s,dw s)
def rW(s:JK UInt8):aV × JK UInt8:=
 (⟨decide (iM s≠0),iM (dw s),iM (dw (dw s)),decide (iM (dw (dw (dw s)))≠0),iM (dw (dw (dw (dw s))))⟩,dw (dw (dw (dw (dw s)))))
def aV.aoQ(c:aV):Array Value:=#[Qq c.not,I J c.op,I J c.left,Qq c.const,I J c.right]
def mX(s:JK UInt8):JK aV × JK UInt8:=dI rW 3 s
def ag4(rows:Int)(ks:IC):af:=⟨N ks,rows,E ks 0 0,E ks 1 0,E ks 2 0,E ks 3 0⟩
def nH(s:JK UInt8):af × JK UInt8:=(ag4 (iM s) (dI kH 4 (dw s)).1,(dI kH 4 (dw s)).2)
def MN(xs:IC):aA:=⟨Qr,0,xs⟩
def Ba(a:IC)(b:JK (JK aV))(g:Bool)(c d e f:IC):ae:=⟨MN a,Qr,0,b.map λcs=>⟨Qr,0,cs⟩,g,MN c,MN d,MN e,MN f⟩
def yS(s:JK UInt8):ae × JK UInt8:=
 let a:=dI kH 5 s
 let b:=dI mX 8 a.2
 let c:=dI kH 4 (dw b.2)
 let d:=dI kH 4 c.2
 let e:=dI kH 8 d.2
 let f:=dI kH 4 e.2
 (Ba a.1 b.1 (decide (iM b.2≠0)) c.1 d.1 e.1 f.1,f.2)
structure aw9 where
 ts:JK af
 q:ae
 cap:Int
 picks:IC
 st:Int
def bY(s:JK UInt8):aw9:=
 let a:=dI nH 8 (dw s)
 let b:=yS a.2
 let c:=dI kH 1000000 (dw b.2)
 ⟨a.1,b.1,iM b.2,c.1,iM c.2⟩
theorem nI{n:Int}(h:n.natAbs<=1000000)(ns:IC):iM (kN (n::ns))=n/\dw (kN (n::ns))=kN ns:=by have e:=akK n ns;grind [iM,dw,uI,Lib.NumEnd.ofOption,Lib.atoiAll_short,MM,ag2]
def aoR{α β:Type}(next:JK UInt8->β × JK UInt8)(f:α->IC)(g:α->β)(x:α):Prop:=∀ns,next (kN (f x++ns))=(g x,kN ns)
def R9{α β:Type}{next:JK UInt8->β × JK UInt8}{f:α->IC}{g:α->β}:∀(xs:List α),(∀x∈xs,aoR next f g x/\f x≠[])->∀ns,qF next (N xs) (kN (xs.flatMap f++ns))=(xs.map g,kN ns)
 |[],_,ns=>rfl
 |x::xs,h,ns=>by
  obtain⟨h1,h2⟩:=h x Ji;have ih:=R9 xs (λy hy=>h y (ZV _ hy)) ns;have fG:kN ((x::xs).flatMap f++ns)≠[]:=by
   rw[Zr]
   cases hf:f x with
   |nil=>exact absurd hf h2
   |cons a l=>exact akJ
  rw[Zu];unfold qF;rw[Zk fG,Zr,Jj,h1,ih];rfl
def Cw{α β:Type}{next:JK UInt8->β × JK UInt8}{f:α->IC}{g:α->β}{xs:List α}(hl:(N xs:Int)<=most)(hm:most<=1000000)(h:∀x∈xs,aoR next f g x/\f x≠[])(ns:IC):dI next most (kN (dM f xs++ns))=(xs.map g,kN ns):=by obtain⟨a,b⟩:=nI (n:=(N xs:Int)) X (xs.flatMap f++ns);unfold dI;show qF next (min (iM (kN ((N xs:Int)::(xs.flatMap f++ns)))) most).toNat (dw (kN ((N xs:Int)::(xs.flatMap f++ns))))=_;rw[a,b,show (min (N xs:Int) most).toNat=N xs by omega];exact R9 xs h ns
theorem sH{xs:IC}(hl:(N xs:Int)<=most)(hm:most<=1000000)(h:∀x∈xs,x.natAbs<=1000000)(ns:IC):dI kH most (kN (bR xs++ns))=(xs,kN ns):=by
 have a:=Cw (next:=kH) (f:=λx=>[x]) (g:=λx=>x) hl hm (λx b=>⟨λns=>by
  grind [kH,nI],Qa⟩) ns
 grind [dM,bR,List.flatMap_singleton',List.map_id']
def qG(b:Bool):(pR b).natAbs<=1000000:=by cases b <;> decide
def ag5{c:aV}(h:c.op.natAbs<=1000000/\c.left.natAbs<=1000000/\c.right.natAbs<=1000000):aoR rW jA (λc=>c) c:=λns=>by obtain⟨a0,a⟩:=nI (qG c.not) (c.op::c.left::pR c.const::c.right::ns);obtain⟨b,d⟩:=nI h.1 (c.left::pR c.const::c.right::ns);obtain⟨a2,e⟩:=nI h.2.1 (pR c.const::c.right::ns);obtain⟨a3,f⟩:=nI (qG c.const) (c.right::ns);obtain⟨a4,g⟩:=nI h.2.2 ns;show rW (kN (pR c.not::c.op::c.left::pR c.const::c.right::ns))=_;unfold rW;rw[a,d,e,f,g,a0,b,a2,a3,a4,Hl,Hl]
def mF(t:af):af:=ag4 t.rows (dH t)
theorem acQ{t:af}(h0:t.rows.natAbs<=1000000)(h:∀x∈dH t,x.natAbs<=1000000):aoR nH fM mF t:=λns=>by
 obtain⟨a0,b⟩:=nI h0 (bR (dH t)++ns);have a:=sH (most:=4) (by
  have:N (dH t)<=4:=by unfold dH;grind
  omega) X h ns
 show nH (kN (t.rows::(bR (dH t)++ns)))=_;unfold nH;rw[a0,b,a];rfl
structure JSm(ts:JK af)(q:ae):Prop where
 Ea:N ts<=8/\∀t∈ts,(t.rows.natAbs<=1000000/\∀x∈dH t,x.natAbs<=1000000)/\0<=t.bU/\t.bU<=4
 au:N q.au.xs<=5/\∀x∈q.au.xs,x.natAbs<=1000000
 wh:N q.wh<=8
 cl:∀c∈q.wh,N c.cs<=3/\∀x∈c.cs,x.op.natAbs<=1000000/\x.left.natAbs<=1000000/\x.right.natAbs<=1000000
 aC:N q.aC.xs<=4/\∀x∈q.aC.xs,x.natAbs<=1000000
 aM:N q.aM.xs<=4/\∀x∈q.aM.xs,x.natAbs<=1000000
 bA:N q.bA.xs<=8/\∀x∈q.bA.xs,x.natAbs<=1000000
 ord:N q.ord.xs<=4/\∀x∈q.ord.xs,x.natAbs<=1000000
def acR(h:JSm ts q)(ns:IC):yS (kN (ik q++ns))=(Ba q.au.xs (q.wh.map (·.cs)) q.aF q.aC.xs q.aM.xs q.bA.xs q.ord.xs,kN ns):=by
 have e:ik q++ns=bR q.au.xs++(dM gM q.wh++(pR q.aF::(bR q.aC.xs++(bR q.aM.xs++(bR q.bA.xs++(bR q.ord.xs++ns)))))):=by unfold ik;simp
 rw[e];have b:=sH (most:=5) (Qj h.au.1) X h.au.2 (dM gM q.wh++(pR q.aF::(bR q.aC.xs++(bR q.aM.xs++(bR q.bA.xs++(bR q.ord.xs++ns))))));have d:=Cw (next:=mX) (f:=gM) (g:=(·.cs)) (xs:=q.wh) (most:=8) (Qj h.wh) X (λc a=>⟨λns=>by
  have:=Cw (next:=rW) (f:=jA) (g:=λc=>c) (xs:=c.cs) (most:=3) (Qj ((h.cl c a).1)) X (λx n=>⟨ag5 ((h.cl c a).2 x n),by simp[jA]⟩) ns;rw[List.map_id']at this;exact this,by simp[gM,dM]⟩) (pR q.aF::(bR q.aC.xs++(bR q.aM.xs++(bR q.bA.xs++(bR q.ord.xs++ns)))))
 obtain⟨a2,m⟩:=nI (qG q.aF) (bR q.aC.xs++(bR q.aM.xs++(bR q.bA.xs++(bR q.ord.xs++ns))));have i:=sH (most:=4) (Qj h.aC.1) X h.aC.2 (bR q.aM.xs++(bR q.bA.xs++(bR q.ord.xs++ns)));have j:=sH (most:=4) (Qj h.aM.1) X h.aM.2 (bR q.bA.xs++(bR q.ord.xs++ns));have k:=sH (most:=8) (Qj h.bA.1) X h.bA.2 (bR q.ord.xs++ns);have l:=sH (most:=4) (Qj h.ord.1) X h.ord.2 ns;unfold yS;simp only[b,d,a2,m,i,j,k,l,Hl]
def ag6(h:JSm ts q){cap st:Int}{picks:IC}(hc:cap.natAbs<=1000000)(hs:st.natAbs<=1000000)(hp:N picks<=1000000/\∀x∈picks,x.natAbs<=1000000) :
  bY (qE (ji ts q cap picks st))=⟨ts.map mF,Ba q.au.xs (q.wh.map (·.cs)) q.aF q.aC.xs q.aM.xs q.bA.xs q.ord.xs,cap,picks,st⟩:=by have b:dw (qE (ji ts q cap picks st))=kN (dM fM ts++(ik q++(cap::(bR picks++[st])))):=congrArg (λx=>x.2.1) (akL _ _);have d:=Cw (next:=nH) (f:=fM) (g:=mF) (xs:=ts) (most:=8) (Qj h.Ea.1) X (λt a=>⟨acQ (h.Ea.2 t a).1.1 (h.Ea.2 t a).1.2,by simp[fM]⟩) (ik q++(cap::(bR picks++[st])));have e:=acR h (cap::(bR picks++[st]));obtain⟨a2,j⟩:=nI hc (bR picks++[st]);have i:=sH (most:=1000000) (Qj hp.1) X hp.2 [st];obtain⟨a4,k⟩:=nI hs [];unfold bY;simp_all
def akM(s:JK UInt8):N (dw s)<=N s:=by unfold dw cut;split <;> simp
theorem akN(s:JK UInt8):N (uI s)<=N s:=by grind [uI,Lib.cut]
end
theorem Vq(Eq:vS f ts q W0)(hz:Fz Fq W0 w):Calls V 87 #[Qt (f.cells ts q)] w (dU 144 Fq w (kI ts q)):=by
 obtain⟨v0,v1,v2,v3,v4,v5,v6,v7,v8,v9,fO,fP,fQ,iq,aa,-,ay,-,-,-,ag,-,-,az,-⟩:=Jh f ts q;have aI:=Eq.one;have h5:=Eq.jM;have hc:2 ^ (N q.wh)-1<2 ^ (N q.wh):=Qb;have ai:Qm (∀x (k:Nat),Bw w x->k<N q.au.xs->Calls V 128 #[Qt #[v0,v1,v2,v3,v4,v5,v6,v7,v8,v9,fO,fP,fQ],Qt #[I J 1,I J 0,I J 0,I J (k:Int),Z Qr 0 0,I J 0,Z Qr 0 0],Z Qr 0 0] x (dU 144 Fq x (aS ts q (lh (k:Int)) []))):=λx k P hk=>by rw[<-iq];exact Sk Eq (hz.next P) k X X
 have aJ:Qm (∀x b r u (k:Nat),Bw w x->k+1<N q.au.xs->bM 144 Fq x r (dN ts q k)->bM 144 Fq x u (aS ts q (lh ((k+1:Nat):Int)) [])->Qo x (aD b 0)=O (Y (O (aD r 0)))->Qo x (aD b 1)=O (Y (O (aD u 0)))->Calls V 128 #[Qt #[v0,v1,v2,v3,v4,v5,v6,v7,v8,v9,fO,fP,fQ],Qt #[I J 3,I J 0,I J 0,I J 0,Z Qr 0 0,I J 0,Z Qr 0 0],Z (O (aD b 0)) 2 2] x (dU 144 Fq x (dN ts q (k+1)))):=λx b r u k P hk hr bq h0 h1=>by rw[<-iq];exact Yz Eq (hz.next P) ⟨3,0,0,0,iU,0,iU⟩ ⟨mh x,vP.nil _ _,λ_=>rfl,mh x,vP.nil _ _,λ_=>rfl,Zb _,ZR _,ZR _⟩ r u b _ _ hr (vI ts q k X).1 bq (UO ts X X) h0 h1 (by decide:(3:Int)<=3) (by decide:(3:Int)<=5) (Jl _)
 have ak:Qm (∀x r,Bw w x->bM 144 Fq x r (dN ts q (N q.au.xs-1))->r<M (H x)->Calls V 129 #[Qt #[v0,v1,v2,v3,v4,v5,v6,v7,v8,v9,fO,fP,fQ],Y (O (aD r 0)),I .u64 ((2 ^ (N q.wh)-1:Nat):Int)] x λe w'=>∃u,e=Qu (Y (O (aD u 0)))/\bM 144 Fq w' u (dz ts q (dN ts q (N q.au.xs-1)) (2 ^ (N q.wh)-1))/\(u = r∨M (H x)<=u)/\u<M (H w')/\Bw x w'):=λx r P hr hl=>by rw[<-iq];exact F3 Eq (hz.next P) r _ hr (vI ts q _ X).1 _ hc hl
 have CE:Qm (∀x b r t (k:Int),Bw w x->7<=k->k<=10->oK q t->bM 144 Fq x r t->Qo x (aD b 0)=O (Y (O (aD r 0)))->Calls V 128 #[Qt #[v0,v1,v2,v3,v4,v5,v6,v7,v8,v9,fO,fP,fQ],Qt #[I J k,I J 0,I J 0,I J 0,Z Qr 0 0,I J 0,Z Qr 0 0],Z (O (aD b 0)) 1 1] x (dU 144 Fq x (aS ts q (eU k) [t]))):=λx b r t k P h7 KY ht hr h0=>by rw[<-iq];exact Bh Eq (hz.next P) ⟨k,0,0,0,iU,0,iU⟩ ⟨mh x,vP.nil _ _,λ_=>rfl,mh x,vP.nil _ _,λ_=>rfl,Zb _,ZR _,ZR _⟩ r b t hr ht h0 (by show bg k=1;unfold bg;grind) (by show 2<=k;omega) KY (Jl _)
 obtain⟨T1,ah⟩:=eX (dz ts q (dN ts q (N q.au.xs-1)) (2 ^ (N q.wh)-1));have vQ:Qm (oK q T1):=by rw[<-ah];exact yY (vI ts q _ X).1 hc
 obtain⟨Q,YE⟩:∃t,aS ts q (eU (if q.aF=T then 7 else 9)) [T1]=t:=⟨_,rfl⟩;have Bl:Qm (oK q Q):=by rw[<-YE];exact(Ht ts (by split <;> omega) (by split <;> omega) vQ.o).1
 have hR:kI ts q=if 0<N q.ord.xs then aS ts q (eU 10) [Q] else Q:=by unfold kI;simp only;rw[ah,YE]
 obtain⟨R,aB⟩:=eY (kI ts q);rw[<-aB,iq];obtain⟨T3,g⟩:=eX (aS ts q (eU 10) [Q]);have S:Qm (R=if 0<N q.ord.xs then T3 else Q):=by show _=_;rw[aB,hR,g]
 rw[ah]at ak;have aK:Qm (∀x b r,Bw w x->bM 144 Fq x r T1->Qo x (aD b 0)=O (Y (O (aD r 0)))->Calls V 128 #[Qt #[v0,v1,v2,v3,v4,v5,v6,v7,v8,v9,fO,fP,fQ],Qt #[I J (if q.aF=T then 7 else 9),I J 0,I J 0,I J 0,Z Qr 0 0,I J 0,Z Qr 0 0],Z (O (aD b 0)) 1 1] x (dU 144 Fq x Q)):=λx b r P hr h0=>by rw[<-YE];exact CE.o x b r T1 _ P (by split <;> omega) (by split <;> omega) vQ.o hr h0
 have V4:Qm (∀x b r,Bw w x->bM 144 Fq x r Q->Qo x (aD b 0)=O (Y (O (aD r 0)))->Calls V 128 #[Qt #[v0,v1,v2,v3,v4,v5,v6,v7,v8,v9,fO,fP,fQ],Qt #[I J 10,I J 0,I J 0,I J 0,Z Qr 0 0,I J 0,Z Qr 0 0],Z (O (aD b 0)) 1 1] x (dU 144 Fq x T3)):=λx b r P hr h0=>by rw[<-g];exact CE.o x b r Q 10 P X X Bl.o hr h0
 have aP:Qm (aS ts q (lh ((0:Nat):Int)) []=dN ts q 0):=rfl;clear hR aB ah YE g iq Eq hz CE vQ Bl hc;generalize aS ts q=GT,dN ts q=PT,2 ^ (N q.wh)-1=CN at*;unfold aA.val at aa ag;generalize N q.au.xs=n,q.au.ad=sa,q.au.cap=sc,N q.ord.xs=ol,q.ord.ad=oa,q.ord.cap=oc,q.aF=gr at*;obtain⟨w1,dB,bL,aC⟩:=bI w #[v0,v1,v2,v3,v4,v5,v6,v7,v8,v9,fO,fP,fQ] 118;rw[aa,ay,ag,az]at aC;have a:=aC.vV;have HV:Qm (v0=_/\v2=_/\v6=_/\v9=_):=⟨aa,ay,ag,az⟩;have aL:=Zh bL;have z:=ai.o w1 0 bL X;rw[aP.o]at z;rw[aa,ay,ag,az]at ai aJ ak aK V4 z dB ⊢;go_enter func87,ntmps87;go_wp2_with fail;refine z.mono ?_;rintro e w2 ⟨r0,rfl,hT,B,d,aN⟩;have gb:=aC.up aN;have xb:=gb.vV;have aQ:=Zh hT;have aR:Qm (M (H w)<=r0/\r0<M (H w2)):=⟨ZU aL.o.size B,d⟩;have A:=Zh (aO aL.o aN);go_wp2;go_loopw [3,4] (λpv sv wr=>∃m k r:Nat,m<=n/\Qm (m=k+1)/\sv=I J (m:Int)/\pv=Y (O (aD r 0))/\Qm (bM 144 Fq wr r (PT k))/\Qm (M (H w)<=r/\r<M (H wr))/\Qm (Bw w2 wr)) (λ_ sv _=>n-(intOf sv).toNat)
 case atStart=>exact⟨1,0,r0,aI,rfl,rfl,rfl,aQ.o,aR.o,Za _ _⟩
 case round=>
  obtain⟨m,k,r,hm,aG,rfl,rfl,HT,HR,Li⟩:=hrel;have gc:=gb.up Li.o;have xc:=gc.vV;by_cases aT:m<n
  .have z:=ai.o wr m (aO A.o Li.o) aT;have aU:=aJ.o;go_wp2_with fail;refine z.mono ?_;rintro e w3 ⟨u,rfl,bf,bu,bz,v⟩;have gd:=gc.up v;have xd:=gd.vV;have g:=HT.o.aj v;obtain⟨w4,y⟩:=eX (w3.alloc (Qs #[Y (O (aD r 0)),Y (O (aD u 0))] 136))
   have i:Bw w3 w4:=by rw[<-y];exact fo _ _
   have uQ:=aO Li.o (aO v i);have aV:=aG.o;have aW:=aU w4 (M (H w3)) r u k (aO A.o uQ) X (g.aj i) (by rw[<-aV];exact bf.aj i) (by rw[<-y];simp) (by rw[<-y];simp);have aM:=Zh uQ;go_wp2_with fail;refine aW.mono ?_;rintro e C ⟨r2,rfl,D,B,d,G⟩;obtain⟨p,qd⟩:=bH D (aO aM.o G);have j:Qm (M (H w)<=r2/\r2<M (H C)):=⟨ZU A.o.size (ZU aM.o.size B),d⟩;refine gQ ?_;exact⟨m+1,k+1,r2,X,by show _=_;rw[aG.o],Qe,rfl,p.o,j.o,qd.o⟩
  .have aX:n=m:=X
   subst aX;have aY:k=n-1:=Qj aG.o;subst aY;have aZ:=ak.o wr r (aO A.o Li.o) HT.o HR.o.2;go_wp2_with fail;refine aZ.mono ?_;rintro e w3 ⟨r3,rfl,g,bA,bB,v⟩;have gd:=gc.up v;have xd:=gd.vV;obtain⟨K,bn⟩:=bH (aO A.o (aO Li.o v)) g;obtain⟨w4,y⟩:=eX (w3.alloc (Qs #[Y (O (aD r3 0))] 136));have i:Bw w3 w4:=by rw[<-y];exact fo _ _
   have W:=aK.o w4 (M (H w3)) r3 (aO K.o i) (bn.o.aj i) (by rw[<-y];simp);have qO:=Zh i
   cases gr with
   |true =>
    rw[Zd rfl]at W;go_wp2_with fail;refine W.mono ?_;rintro e C ⟨L,rfl,D,B,d,G⟩;have Dh:=aO qO.o G;have ge:=gd.up Dh;have xe:=ge.vV;obtain⟨qd,p⟩:=bH (aO K.o Dh) D;have j:Qm (M (H w)<=L/\L<M (H C)):=⟨ZU K.o.size (ZU qO.o.size B),d⟩;by_cases ho:0<ol
    .have av:=Zl ho;have KA:Qm (R=T3):=by show _=_;rw[S.o,Zd ho]
     obtain⟨w6,yw⟩:=eX (C.alloc (Qs #[Y (O (aD L 0))] 136));have l:Bw C w6:=by rw[<-yw];exact fo _ _
     have ax:=V4.o w6 (M (H C)) L (aO qd.o l) (p.o.aj l) (by rw[<-yw];simp);have yu:=Zh (aO qd.o l);go_wp2_with fail;refine ax.mono ?_;rintro e w7 ⟨r7,rfl,aH,B,d,uz⟩;have HP:Qm (dU 144 Fq w T3 (Qu (Y (O (aD r7 0)))) w7):=⟨r7,rfl,aH,ZU yu.o.size B,d,aO yu.o uz⟩;go_wp2;go_ret;rw[KA.o];exact HP.o
    .have av:=ZK ho;have KA:Qm (R=Q):=by show _=_;rw[S.o,Zk ho]
     obtain rfl:ol=0:=X;go_wp2;go_ret;rw[KA.o];exact⟨L,rfl,p.o,j.o.1,j.o.2,qd.o⟩
   |false =>
    rw[Zk Qc]at W;go_wp2_with fail;refine W.mono ?_;rintro e C ⟨L,rfl,D,B,d,G⟩;have Dh:=aO qO.o G;have ge:=gd.up Dh;have xe:=ge.vV;obtain⟨qd,p⟩:=bH (aO K.o Dh) D;have j:Qm (M (H w)<=L/\L<M (H C)):=⟨ZU K.o.size (ZU qO.o.size B),d⟩;by_cases ho:0<ol
    .have av:=Zl ho;have KA:Qm (R=T3):=by show _=_;rw[S.o,Zd ho]
     obtain⟨w6,yw⟩:=eX (C.alloc (Qs #[Y (O (aD L 0))] 136));have l:Bw C w6:=by rw[<-yw];exact fo _ _
     have ax:=V4.o w6 (M (H C)) L (aO qd.o l) (p.o.aj l) (by rw[<-yw];simp);have yu:=Zh (aO qd.o l);go_wp2_with fail;refine ax.mono ?_;rintro e w7 ⟨r7,rfl,aH,B,d,uz⟩;have HP:Qm (dU 144 Fq w T3 (Qu (Y (O (aD r7 0)))) w7):=⟨r7,rfl,aH,ZU yu.o.size B,d,aO yu.o uz⟩;go_wp2;go_ret;rw[KA.o];exact HP.o
    .have av:=ZK ho;have KA:Qm (R=Q):=by show _=_;rw[S.o,Zk ho]
     obtain rfl:ol=0:=X;go_wp2;go_ret;rw[KA.o];exact⟨L,rfl,p.o,j.o.1,j.o.2,qd.o⟩
def EG(ls:JK (IC))(l:IC):N (lF ls l)<=N ls+1:=by unfold lF;split <;> simp
def Ky{l:IC}(h:∃r,ls=[]::r):∃r,lF ls l=[]::r:=by
 obtain⟨r,rfl⟩:=h;unfold lF;split
 .exact⟨r,rfl⟩
 .exact⟨r++[l],rfl⟩
def qL(ts:JK af)(q:ae)(s:Nat)(acc:JK (IC))(c:Int):N (fC ts q s acc c)<=N acc+1:=by
 unfold fC;split
 .exact EG _ _
 .omega
def Gq{s:Nat}{acc:JK (IC)}(c:Int)(h:∃r,acc=[]::r):∃r,fC ts q s acc c=[]::r:=by
 unfold fC;split
 .exact Ky h
 .exact h
theorem Tw(ts:JK af)(q:ae)(s:Nat):∀(l:JK aQ) (acc:JK (IC)),(∃r,acc=[]::r)->(∃r,l.foldl (kL ts q s) acc=[]::r)/\N (l.foldl (kL ts q s) acc)<=N acc+2*N l
 |[],acc,h=>⟨h,Qa⟩
 |c::l,acc,h=>by
  have hs:(∃r,kL ts q s acc c=[]::r)/\N (kL ts q s acc c)<=N acc+2:=by
   unfold kL;split
   .refine⟨Gq _ (Gq _ h),?_⟩;have h1:=qL ts q s acc (di c.cs).1;have h2:=qL ts q s (fC ts q s acc (di c.cs).1) (di c.cs).2.1;omega
   .exact⟨h,X⟩
  have:=Tw ts q s l _ hs.1;grind
def NZ(ts:JK af)(q:ae)(s:Nat)(h8:N q.wh<=8):(∃r,dF ts q s=[]::r)/\N (dF ts q s)<=18:=by
 have a:∃r,(if bV s (bn (iR ts q (aR q)))=T then lF [[]] (aR q) else [[]])=[]::r:=by
  split
  .exact Ky ⟨[],rfl⟩
  .exact⟨[],rfl⟩
 have b:N (if bV s (bn (iR ts q (aR q)))=T then lF [[]] (aR q) else [[]])<=2:=by
  split
  .exact EG _ _
  .simp
 have:=Tw ts q s q.wh _ a;exact⟨this.1,ZU this.2 X⟩
def vS.ay4(Eq:vS f ts q W0):lT ts q (aR q):=by
 unfold aR;split
 .exact Eq.aC
 .rename_i hg
  split
  .exact Eq.ac9 (by simpa using hg)
  .intro c a;cases a
def mo.fz{Tl:TypeId}{base:Nat}{os:JK aA}(h:mo Tl Fq base w v os)(hz:Fz Fq W0 w)(hb:M (H W0)<=base):Fz (Fv Fq v) W0 w:=hz.own λg e=>⟨ZU hb (Xy h.own e).1,(Xy h.own e).2⟩
theorem aaP{cb:Nat}{c:Int}(hc:Qo w (aD cb 0)=O (I J c))(hF:Fq cb):gP Fq w ⟨O (aD cb 0),1,[c]⟩:=
 ⟨⟨Qa,λi b=>⟨cb,0,rfl,by
  grind⟩⟩,λ_ a e=>by cases e;exact hF,(λe=>by cases e),Zb _⟩
def N7{w':U}(hk:aB (λb=>v.ownBlock≠O b) w w'){o:Nat}{u:Ql}(h:Qo w (aD b o)=O u)(hs:v.ownBlock≠O b):Qo w' (aD b o)=O u:=by rw[Xr (hk.block b (kX h) hs)];exact h
def oM(Fq:Pm)(w1:U)(ls:JK (IC))(v:Ql)(w':U):Prop:=∃os,mo 26 Fq (M (H w1)) w' v os/\os.map aA.xs=ls/\N os<=100/\Bw w1 w'
theorem ay5{w1:U}(h:oM Fq w1 ls v w)(hl:N ls<=50)(o:aA)(ho:gP (Fv Fq v) w o)(Lb:N o.xs<=1000) :
  Calls V 133 #[v,Z o.ad (N o.xs) o.cap] w λe i=>∃d,e=Qu d/\(∃a m c,d = Z a m c)/\oM Fq w1 (lF ls o.xs) d i/\aB (λb=>v.ownBlock≠O b) w i/\(d.ownBlock=v.ownBlock∨∃g,d.ownBlock=O g/\M (H w)<=g):=by obtain⟨os,k,n,t,f⟩:=h;have r:N os<=50:=Qb;refine(aie k f.size o ho Lb X).mono ?_;rintro e i ⟨d,j,rfl,g1,p,u,l,q⟩;exact⟨d,rfl,Xz g1.own,⟨j,g1,by rw[p,n],X,f.trans (l.aj f.size (λb y e=>Qj ((Xy k.own e).1)))⟩,l,q⟩
theorem oM.aj{Fq:Pm}{w1 w w':U}{ls:JK (IC)}{v:Ql}(h:oM Fq w1 ls v w)(hb:Bw w w'):oM Fq w1 ls v w':=by obtain⟨os,a,b,d,e⟩:=h;exact⟨os,a.aj hb,b,d,aO e hb⟩
theorem Ic(Eq:vS f ts q W0)(hz:Fz Fq W0 w)(s:Nat)(hs:s<18446744073709551616) :
  Calls V 88 #[Qt (f.cells ts q),I .u64 (s:Int)] w λe w'=>∃v os,e=Qu v/\mo 26 Fq (M (H w)) w' v os/\os.map aA.xs=dF ts q s/\Bw w w':=by
 obtain⟨v0,v1,v2,v3,v4,v5,v6,v7,v8,v9,fO,fP,fQ,iq,bP,dK,bQ,bR,bS,bT,bW,-⟩:=Jh f ts q;subst dK;have Di:q.cells=#[v0,Z q.iF (N q.wh) q.cZ,v2,v3,v4,v5,v6]:=by rw[bP,bQ,bR,bS,bT,bW];rfl
 have df:Qm (∀(G:Pm) x,Fz G W0 x->Calls V 130 #[Qt #[v0,Z q.iF (N q.wh) q.cZ,v2,v3,v4,v5,v6]] x (Nb G x (aR q))):=λG x W=>by rw[<-Di];exact FZ Eq W
 have Df:Qm (∀(x:U) (iv:aA),Bw w x->iv.At x->lT ts q iv.xs->Cb 132 #[Qt #[v0,Z q.iF (N q.wh) q.cZ,v2,v3,v4,v5,v6,v7,v8,v9,fO,fP,fQ],Z iv.ad (N iv.xs) iv.cap] x (I .u64 ((bn (iR ts q iv.xs):Nat):Int))):=λx iv W hi hc=>by rw[<-iq];exact xg f ts q iv.ad iv.cap iv.xs x Eq.ok ((Eq.oO hz).aj W).bU hi hc
 have aC:Qm (∀(xs:IC) (x:U),lT ts q xs->Ce 131 #[I .u64 (s:Int),I .u64 ((bn (iR ts q xs):Nat):Int)] x (Qq (bV s (bn (iR ts q xs))))):=λxs x hc=>yN s _ hs (by have:=afi Eq.ok hc (N xs);rwa [Z0]at this) x;have bu:Qm (∀(k:Nat) (x:U),k<N q.wh->Bw w x->Qo x ⟨(Option.getD q.iF (aD 0 0)).block,(Option.getD q.iF (aD 0 0)).off+k,Qr⟩=O (Z (E q.wh k lz).ad (E q.wh k lz).cs.length (E q.wh k lz).cap)/\(∃b off,q.iF=O (aD b off))/\Cb 134 #[Qt #[Z (E q.wh k lz).ad (E q.wh k lz).cs.length (E q.wh k lz).cap]] x (.tuple #[I J (di (E q.wh k lz).cs).1,I J (di (E q.wh k lz).cs).2.1,Qq (di (E q.wh k lz).cs).2.2])):=λk x hk W=>by have hq:=((Eq.oO hz).aj W).qC.wh;obtain⟨b,off,e,hc⟩:=hq.2.1 k hk;refine⟨?_,⟨b,off,e⟩,xP _ _ _ x (hq.2.2 k hk) (Eq.ok.some k hk)⟩;rw[e];exact hc
 have dh:Qm (∀k,k<N q.wh->(di (E q.wh k lz).cs).2.2=T->lT ts q [(di (E q.wh k lz).cs).1]/\lT ts q [(di (E q.wh k lz).cs).2.1]):=λk hk h=>Sz Eq.ok hk h;obtain⟨I0,aB⟩:∃Iq,Iq=(if bV s (bn (iR ts q (aR q)))=T then lF [[]] (aR q) else [[]]):=⟨_,rfl⟩;have dW:N I0<=2:=by
  rw[aB];split
  .exact EG _ _
  .simp
 obtain⟨d,av⟩:=eY (λk=>(q.wh.take k).foldl (kL ts q s) I0:Nat->JK (IC));have dm:Qm (∀k,k<N q.wh->d (k+1)=kL ts q s (d k) (E q.wh k lz)):=λk hk=>by rw[av];exact lV _ I0 q.wh lz hk
 have dn:Qm (∀k,N (d k)<=2+2*k):=λk=>by
  have key:∀(l:JK aQ) (acc:JK (IC)),N (l.foldl (kL ts q s) acc)<=N acc+2*N l:=by
   intro l
   induction l with
   |nil=>intro acc;simp
   |cons c l ih =>
    intro acc;refine ZU (ih _) ?_;have:N (kL ts q s acc c)<=N acc+2:=by
     unfold kL;split
     .have h1:=qL ts q s acc (di c.cs).1;have h2:=qL ts q s (fC ts q s acc (di c.cs).1) (di c.cs).2.1;omega
     .omega
    grind
  rw[av];refine ZU (key _ _) ?_;rw[Jb];omega
 have bz:=Zh (by  rw[av];rfl:d 0=I0)
 have dw:=Zh (by rw[av];show (q.wh.take (N q.wh)).foldl _ _=_;rw[Z0,aB];rfl:d (N q.wh)=dF ts q s)
 have dX:=Eq.ko;have V6:Qm (lT ts q (aR q)/\N (aR q)<=4):=⟨Eq.ay4,Eq.ak4⟩;have bA:=Zh aB;obtain⟨y,dB,bL,bX⟩:=bI w #[v0,Z q.iF (N q.wh) q.cZ,v2,v3,v4,v5,v6,v7,v8,v9,fO,fP,fQ] 118;obtain⟨w2,dL,p,bY⟩:=bI y #[Z Qr 0 0] 26;have bB:Qm (oM Fq y [[]] (Z (O (aD (M (H y)) 0)) 1 1) w2):=⟨[iU],⟨⟨rfl,.inr ⟨M (H y),1,#[Z Qr 0 0],rfl,Zb _,bY,Zb _,Qg,rfl,rfl⟩⟩,λo ho=>by rw[XH]at ho;rw[ho];exact⟨gP.iU _ _,ZR _⟩⟩,rfl,Qa,p⟩;have n:Qm (∀(x:U) (v:Ql) (ls:JK (IC)),oM Fq y ls v x->Fz (Fv Fq v) W0 x/\Bw w x/\Bw y x/\(∀g,v.ownBlock=O g->g<M (H x))):=λx v ls h=>by obtain⟨os,h1,h2,h3,h4⟩:=h;have bD:=aO bL h4;have:=h1.fz (hz.next bD) (ZU hz.aj.size bL.size);exact⟨this,bD,h4,λg e=>(Xy h1.own e).2⟩
 have V7:Qm (∀(x:U),Bw y x->GB x (M (H w)) 118 #[v0,Z q.iF (N q.wh) q.cZ,v2,v3,v4,v5,v6,v7,v8,v9,fO,fP,fQ]):=λx W=>bX.up W;have ag:=V7.o w2 p;obtain⟨a0,a1,a2,a3,a4,a5,a6,a7,a8,a9,wU,yD,yE⟩:=ag.vV;have bE:=df.o _ w2 (n.o w2 _ _ bB.o).1;have dx:Qm (∀(x:U) (v:Ql) (ls:JK (IC)),oM Fq y ls v x->∃os,mo 26 Fq (M (H w)) x v os/\os.map aA.xs=ls/\Bw w x):=λx v ls h=>by obtain⟨os,h1,h2,h3,h4⟩:=h;exact⟨os,⟨Je h1.own bL.size,h1.each⟩,h2,aO bL h4⟩
 rw[iq];clear iq Di bP bQ bR bS bT bW aB av hz bL bX p bY ag Eq;generalize dF ts q s=R,aR q=EO at*;go_enter func88,ntmps88;go_wp2_with fail;refine bE.mono ?_;rintro e w3 ⟨iv,rfl,bZ,gH,cu⟩;obtain⟨ea,ec,ex⟩:=iv;simp only[aA.val]at bZ ⊢;subst bZ;have aF:=bB.o.aj cu;have aG:=n.o w3 _ _ aF;have bF:=V7.o w3 aG.2.2.1;clear a0 a1 a2 a3 a4 a5 a6 a7 a8 a9 wU yD yE;obtain⟨a0,a1,a2,a3,a4,a5,a6,a7,a8,a9,wU,yD,yE⟩:=bF.vV;have t:=Df.o w3 ⟨ea,ec,ex⟩ aG.2.1 gH.oO V6.o.1;have Yj:=hd aF;have dz:=hd gH;have ah:=λx=>aC.o ex x V6.o.1;clear bE aF aG bF gH cu dB dL;generalize bn (iR ts q ex)=se at*;obtain⟨el,aP⟩:=eY (N ex);have dA:=hd aP;simp only at t;rw[<-aP]at t ⊢;clear aP;go_wp2_with fail;refine mR t λw4 aa=>?_;have ai:=ah w4;obtain⟨D,dM⟩:=bH (Yj.o.aj aa) (dz.o.aj aa);clear t aa ah;go_wp2_with fail;refine mR ai λwz dR=>?_;have xu:=dR.symm;subst xu;clear ai a0 a1 a2 a3 a4 a5 a6 a7 a8 a9 wU yD yE;generalize bV s se=CB0 at*;cases CB0
 case' true=>
  have u:=ay5 D.o Qa ⟨ea,ec,ex⟩ dM.o (by show N ex<=1000;have:=V6.o.2;omega);simp only at u;rw[<-dA.o]at u;go_wp2_with fail;refine u.mono ?_;rintro e w5 ⟨v',rfl,⟨ra,rm,rc,rfl⟩,nT,-⟩;have ax:Qm (oM Fq y (d 0) (Z ra rm rc) w5):=by show oM _ _ _ _ _;rw[bz.o,bA.o];exact nT
  have ak:=n.o w5 _ _ ax.o;have au:=V7.o w5 ak.2.2.1;clear u nT;obtain⟨a0,a1,a2,a3,a4,a5,a6,a7,a8,a9,wU,yD,yE⟩:=au.vV;clear au ak
 case' false=>
  have ax:Qm (oM Fq y (d 0) (Z (O (aD (M (H y)) 0)) 1 1) w4):=by show oM _ _ _ _ _;rw[bz.o,bA.o];exact D.o
  have ak:=n.o w4 _ _ ax.o;have au:=V7.o w4 ak.2.2.1;obtain⟨a0,a1,a2,a3,a4,a5,a6,a7,a8,a9,wU,yD,yE⟩:=au.vV;clear au ak
 all_goals
  go_wp2;go_loopw [5,30] (λpv xv wr=>∃k:Nat,k<=N q.wh/\xv=I J (k:Int)/\(∃a m c,pv=Z a m c)/\Qm (oM Fq y (d k) pv wr)) (λ_ xv _=>N q.wh-(intOf xv).toNat)
  case atStart=>exact⟨0,ZR _,rfl,⟨_,_,_,rfl⟩,ax.o⟩
  case round=>
   obtain⟨k,hk,rfl,⟨pa,pm,pc,rfl⟩,aS⟩:=hrel;by_cases aT:k<N q.wh
   .have A:=n.o wr _ _ aS.o;obtain⟨C,⟨kb,Y9,Pq⟩,cz⟩:=bu.o k wr aT A.2.1;have aH:=λx (W:Bw w x)=>(bu.o k x aT W).2.2
    have Ld:=dm.o k aT;have ay:=dh.o k aT;have dY:=dn.o k;rw[Pq]at C ⊢;clear Pq;change wr.cell? (aD kb (Y9+k))=O (Z (E q.wh k lz).ad (E q.wh k lz).cs.length (E q.wh k lz).cap) at C;unfold kL at Ld;generalize di (E q.wh k lz).cs=EC at*;obtain⟨r,c2,c3⟩:=EC;simp only at aH Ld ay cz;generalize (E q.wh k lz).ad=ca,(E q.wh k lz).cs.length=cl,(E q.wh k lz).cap=cc at*;obtain⟨y1,aU⟩:=eX (wr.alloc (Qs #[Z ca cl cc] 59));have B:Bw wr y1:=by rw[<-aU];exact fo _ _
    have b0:Qo y1 (aD (M (H wr)) 0)=O (Z ca cl cc):=by rw[<-aU];simp
    have bG:=aH y1 (aO A.2.1 B);have EX:=Zh (aS.o.aj B);clear B cz aH A;obtain⟨wl,ed⟩:=eY (N q.wh);go_wp2_with fail;refine mR bG λy2 p=>?_;have aI:=Zh (EX.o.aj p);clear bG aU b0 C p
    cases c3 with
    |false =>
     have Nt:=hd Ld;clear Ld ay;refine gQ ?_;exact⟨k+1,X,Qe,⟨_,_,_,rfl⟩,by show oM _ _ _ _ _;rw[Nt.o];exact aI.o⟩
    |true =>
     obtain⟨dP,jf⟩:=ay rfl;have aJ:lT ts q [r,c2]:=λc hc=>by
      rcases ZB.1 hc with rfl|hc
      .exact dP _ Ji
      .exact jf c hc
     have PS:=n.o y2 _ _ aI.o;obtain⟨y3,dN,L,P⟩:=bI y2 #[I J r,I J c2] 3;have t:=Df.o y3 ⟨O (aD (M (H y2)) 0),2,[r,c2]⟩ (aO PS.2.1 L) ⟨Qa,λi hi=>⟨M (H y2),0,rfl,by
      rw[ZT];have dC:i<2:=hi
      match i,dC with
      |0,_=>exact P.cell 0
      |1,_=>exact P.cell 1⟩⟩ aJ
     change Calls V 132 #[Qt #[v0,Z q.iF (N q.wh) q.cZ,v2,v3,v4,v5,v6,v7,v8,v9,fO,fP,fQ],Z (O (aD (M (H y2)) 0)) 2 2] y3 _ at t;have ag:=V7.o y2 PS.2.2.1;obtain⟨a0,a1,a2,a3,a4,a5,a6,a7,a8,a9,wU,yD,yE⟩:=ag.vV;have Yj:=Zh (aI.o.aj L);have ah:=λx=>aC.o [r,c2] x aJ;have vQ:Qm (lT ts q [r]/\lT ts q [c2]):=⟨dP,jf⟩;clear ag L P PS dP jf aJ ay;generalize bn (iR ts q [r,c2])=s12 at*;go_wp2_with fail;refine mR t λy4 aa=>?_;have D:=Zh (Yj.o.aj aa);have ai:=ah y4;clear t aa dN ah a0 a1 a2 a3 a4 a5 a6 a7 a8 a9 wU yD yE;go_wp2_with fail;refine mR ai λyz dS=>?_;have dD:=dS.symm;subst dD;clear ai;generalize bV s s12=CB at*
     cases CB with
     |true =>
      have Nt:=hd Ld;clear Ld;refine gQ ?_;exact⟨k+1,X,Qe,⟨_,_,_,rfl⟩,by show oM _ _ _ _ _;rw[Nt.o];exact D.o⟩
     |false =>
      have Nt:=hd Ld;obtain⟨y5,dO,cK,aV⟩:=bI y4 #[I J r,I J c2] 3;have bJ:Qm (oM Fq y (d k) (Z pa pm pc) y5/\Qo y5 (aD (M (H y4)) 0)=O (I J r)/\Qo y5 (aD (M (H y4)) 1)=O (I J c2)/\(Value.slice pa pm pc).ownBlock≠O (M (H y4))):=⟨D.o.aj cK,aV.cell 0,aV.cell 1,λe=>Qj ((n.o y4 _ _ D.o).2.2.2 _ e)⟩;obtain⟨lb,aW⟩:=eY (M (H y4));rw[<-aW]at bJ;obtain⟨z,aX⟩:∃Uq:Nat->JK (IC),Uq=λj=>if j=0 then d k else if j=1 then fC ts q s (d k) r else fC ts q s (fC ts q s (d k) r) c2:=⟨_,rfl⟩;have HU:Qm (z 0=d k/\z 1=fC ts q s (z 0) r/\z 2=fC ts q s (z 1) c2/\z 2=d (k+1)):=by rw[aX];exact⟨rfl,rfl,rfl,Nt.o.symm⟩
      have dE:Qm (∀j,N (z j)<=40):=λj=>by
       have h1:=qL ts q s (d k) r;have h2:=qL ts q s (fC ts q s (d k) r) c2;rw[aX];show N (if j=0 then d k else if j=1 then fC ts q s (d k) r else fC ts q s (fC ts q s (d k) r) c2)<=40;split
       .omega
       .split <;> omega
      have dZ:=Zh aW.symm;clear cK aV Ld aX;go_wp2;rw[<-aW]at*;clear dO;go_loopw [5,55] (λpv xv wx=>∃j:Nat,j<=2/\xv=I J (j:Int)/\(∃a m c,pv=Z a m c)/\Qm (oM Fq y (z j) pv wx/\Qo wx (aD lb 0)=O (I J r)/\Qo wx (aD lb 1)=O (I J c2)/\pv.ownBlock≠O lb)) (λ_ xv _=>2-(intOf xv).toNat)
      case atStart=>exact⟨0,X,rfl,⟨_,_,_,rfl⟩,by show oM _ _ _ _ _/\_;rw[HU.o.1];exact bJ.o⟩
      case round=>
       obtain⟨j,hj,rfl,⟨qa,qm,qc,rfl⟩,HJ⟩:=hrel;by_cases ek:j<2
       .have dG:∃S,Qo wr (aD lb j)=O (I J S)/\lT ts q [S]/\z (j+1)=fC ts q s (z j) S:=by
         have dH:j=0∨j=1:=X;rcases dH with rfl|rfl
         .exact⟨r,HJ.o.2.1,vQ.o.1,HU.o.2.1⟩
         .exact⟨c2,HJ.o.2.2.1,vQ.o.2,HU.o.2.2.1⟩
        obtain⟨S,mE,aY,aZ⟩:=dG;have K:=HJ.o;have A:=n.o wr _ _ K.1;have hf:=V7.o wr A.2.2.1;obtain⟨a0,a1,a2,a3,a4,a5,a6,a7,a8,a9,wU,yD,yE⟩:=hf.vV;obtain⟨z1,bf⟩:=eX (wr.alloc (Qs #[I J S] 3));have B:Bw wr z1:=by rw[<-bf];exact fo _ _
        have sK:Qo z1 (aD (M (H wr)) 0)=O (I J S):=by rw[<-bf];simp
        have W9:=Df.o z1 ⟨O (aD (M (H wr)) 0),1,[S]⟩ (aO A.2.1 B) (aaP (Fq:=λ_=>True) sK trivial).oO aY;change Calls V 132 #[Qt #[v0,Z q.iF (N q.wh) q.cZ,v2,v3,v4,v5,v6,v7,v8,v9,fO,fP,fQ],Z (O (aD (M (H wr)) 0)) 1 1] z1 _ at W9;have bK:=λx=>aC.o [S] x aY;have dI:=Zh B;have aK:Qm (∀x,Bw wr x->oM Fq y (z j) (Z qa qm qc) x/\Qo x (aD lb 0)=O (I J r)/\Qo x (aD lb 1)=O (I J c2)/\(Value.slice qa qm qc).ownBlock≠O lb):=λx W=>⟨K.1.aj W,cB W K.2.1,cB W K.2.2.1,K.2.2.2⟩;unfold fC at aZ;have az:=Zh aZ;clear hf A B sK aY aZ K;generalize bn (iR ts q [S])=sc at*;obtain⟨wq,dQ⟩:=eY (wr);subst dQ;go_wp2_with fail;refine mR W9 λz2 p=>?_;have aL:=Zh (aO dI.o p);have bM:=bK z2;clear W9 p bf bK a0 a1 a2 a3 a4 a5 a6 a7 a8 a9 wU yD yE mE;go_wp2_with fail;refine mR bM λzz dU=>?_;have dJ:=dU.symm;subst dJ;clear bM;generalize bV s sc=CB2 at*
        cases CB2 with
        |false =>
         have aM:Qm (z (j+1)=z j):=az.o;have HF:=Zh (aK.o z2 aL.o);clear az;refine gQ ?_;exact⟨j+1,X,Qe,⟨_,_,_,rfl⟩,by show oM _ _ _ _ _/\_;rw[aM.o];exact HF.o⟩
        |true =>
         have aM:Qm (z (j+1)=lF (z j) [S]):=az.o;obtain⟨z3,bg⟩:=eX (z2.alloc (Qs #[I J S] 3));have L:Bw z2 z3:=by rw[<-bg];exact fo _ _
         have P:Qo z3 (aD (M (H z2)) 0)=O (I J S):=by rw[<-bg];simp
         have aN:=aK.o z3 (aO aL.o L);have bN:=aK.o z2 aL.o;have PS:=n.o z2 _ _ bN.1;have u:=ay5 aN.1 (Qj (dE.o j)) ⟨O (aD (M (H z2)) 0),1,[S]⟩ (aaP P (PS.1.high _ (Zb _))) Qa;change Calls V 133 #[Z qa qm qc,Z (O (aD (M (H z2)) 0)) 1 1] z3 _ at u;have Q:=Zh aN;clear az L P aN bN PS;go_wp2_with fail;refine u.mono ?_;rintro e z4 ⟨v',rfl,⟨ra,rm,rc,rfl⟩,nT,bq,cO⟩;have HF:Qm (oM Fq y (z (j+1)) (Z ra rm rc) z4/\Qo z4 (aD lb 0)=O (I J r)/\Qo z4 (aD lb 1)=O (I J c2)/\(Value.slice ra rm rc).ownBlock≠O lb):=by
          refine⟨by rw[aM.o];exact nT,N7 bq Q.o.2.1 Q.o.2.2.2,N7 bq Q.o.2.2.1 Q.o.2.2.2,λe=>?_⟩;rcases cO with h|⟨g,h,hg⟩
          .exact Q.o.2.2.2 (h ▸ e)
          .rw[h]at e;injection e with e;have dV:lb<M (H z3):=kX Q.o.2.1;omega
         clear u nT bq cO bg;refine gQ ?_;exact⟨j+1,X,Qe,⟨_,_,_,rfl⟩,HF.o⟩
       .have bO:j=2:=X
        have HF:Qm (oM Fq y (d (k+1)) (Z qa qm qc) wr):=by have:=HJ.o.1;rw[bO,HU.o.2.2.2]at this;exact this
        clear bO;refine gQ ?_;exact⟨k+1,X,Qe,⟨_,_,_,rfl⟩,HF.o⟩
   .have LW:N q.wh=k:=X
    have HF:Qm (∃os,mo 26 Fq (M (H w)) wr (Z pa pm pc) os/\os.map aA.xs=R/\Bw w wr):=by refine dx.o wr _ _ ?_;have:=aS.o;rw[<-LW,dw.o]at this;exact this
    clear LW;go_wp2;go_ret;obtain⟨os,h1,h2,h3⟩:=HF.o;exact⟨_,os,rfl,h1,h2,h3⟩
theorem ad8{p:aK}(h:p∈fw ls):p.2=none:=by unfold fw at h;grind
def aaS{rk:Nat->Int}{Q:bB->Prop}:∀(l:JK Nat) (acc:JK bB),(∀t∈acc,Q t)->(∀i∈l,Q (2 ^ i,0))->∀t∈l.foldl (λa (i:Nat)=>jH rk a (2 ^ i,0)) acc,Q t
 |[],_,h,_=>h
 |i::l,acc,h,hl=>aaS l _ (λt ht=>by
   rcases Gb ht with ht|rfl
   .exact h t ht
   simp_all) (λj hj=>hl j (ZV _ hj))
theorem aif(rk:Nat->Int)(a:JK bB)(t:bB):N a<=N (jH rk a t)/\N (jH rk a t)<=N a+1:=by unfold jH;grind
def amh(rk:Nat->Int)(t:bB):0<N (jH rk [] t):=by
 unfold jH;split
 .rename_i h
  exact absurd h (by simp[uA])
 .simp
theorem Ie(rk:Nat->Int):∀(l:JK Nat) (acc:JK bB),N acc<=N (l.foldl (λa (i:Nat)=>jH rk a (2 ^ i,0)) acc)/\N (l.foldl (λa (i:Nat)=>jH rk a (2 ^ i,0)) acc)<=N acc+N l
 |[],acc=>Qa
 |i::l,acc=>by have h1:=aif rk acc (2 ^ i,0);have h2:=Ie rk l (jH rk acc (2 ^ i,0));grind
theorem aih(rk:Nat->Int)(ts:JK af)(q:ae)(aI:Nat)(h1:1<=N q.au.xs)(h5:N q.au.xs<=5)(h8:N q.wh<=8)(hr:1<=aI):GQ q (fF rk ts q aI):=by
 have d:=ahr ts q h1;have g:=Ie rk (List.range (N q.au.xs)) [];rw[ZY]at g;refine⟨⟨by unfold fF;simp,λs m=>?_,λt f=>?_,d.1,?_⟩,λ_=>?_,?_⟩
 .have j:s<2 ^ (N q.au.xs)-1:=by unfold fF at m;simp_all
  have e:(fF rk ts q aI).az.getD s []=fw ((dF ts q s).take aI):=by unfold fF;simp_all
  rw[e];obtain⟨⟨r,k⟩,v⟩:=NZ ts q s h8;refine⟨λp d x b=>?_,?_,?_⟩
  .rw[ad8 d]at b
   cases b
  .rw[k];obtain⟨n,rfl⟩:∃n,aI=n+1:=⟨aI-1,X⟩
   exact⟨Qr,fw (r.take n),rfl,λx b=>by cases b⟩
  .unfold fw
   grind
 .exact aaS (rk:=rk) (Q:=sM (N q.au.xs) (fF rk ts q aI).az) (List.range (N q.au.xs)) [] (λt f=>by cases f) (λi u=>.inl ⟨rfl,i,Xd.1 u,rfl⟩) t f
 .show (kI ts q).ns.length<=800
  omega
 .show 0<N ((List.range (N q.au.xs)).foldl (λa (i:Nat)=>jH rk a (2 ^ i,0)) [])
  obtain⟨n,l⟩:∃n,N q.au.xs=n+1:=⟨N q.au.xs-1,X⟩;rw[l,List.range_succ_eq_map,ZL];exact ZO (amh rk _) (Ie rk _ _).1
 .show (N ((List.range (N q.au.xs)).foldl (λa (i:Nat)=>jH rk a (2 ^ i,0)) []))<=64*(0+1)
  grind
def World.ail(W:U)(B:Nat)(v0 v1 v2 v3 v4 v5 v6:Ql):World:=(Qn (Qn (Qn (Qn (Qn (Qn (Qn W (aD B 0) v0) (aD B 1) v1) (aD B 2) v2) (aD B 3) v3) (aD B 4) v4) (aD B 5) v5) (aD B 6) v6)
def World.ap0{t:TypeId}{a0 a1 a2 a3 a4 a5 a6:Ql}(h:GB W B t #[a0,a1,a2,a3,a4,a5,a6])(v0 v1 v2 v3 v4 v5 v6:Ql):GB (World.ail W B v0 v1 v2 v3 v4 v5 v6) B t #[v0,v1,v2,v3,v4,v5,v6]:=by have a:=yM (vs:=[v0,v1,v2,v3,v4,v5,v6]) (o:=0) h;simp only[I6,Zp,QX,QY]at a;exact a
def World.aim(W:U)(B:Nat)(v0 v1 v2 v3 v4 v5 v6:Ql):aB (λx=>x≠B) W (World.ail W B v0 v1 v2 v3 v4 v5 v6):=lI [v0,v1,v2,v3,v4,v5,v6] 0 W
structure ae.New(q:ae)(n:Nat):Prop where
 au:∀a,q.au.ad=O a->n<=a.block
 wh:∀a,q.iF=O a->n<=a.block
 cl:∀i,i<N q.wh->∀a,(E q.wh i lz).ad=O a->n<=a.block
 aC:∀a,q.aC.ad=O a->n<=a.block
 aM:∀a,q.aM.ad=O a->n<=a.block
 bA:∀a,q.bA.ad=O a->n<=a.block
 ord:∀a,q.ord.ad=O a->n<=a.block
structure il(q p:ae):Prop where
 au:p.au.xs=q.au.xs
 len:N p.wh=N q.wh
 cs:∀i,i<N p.wh->(E p.wh i lz).cs=(E q.wh i lz).cs
 aF:p.aF=q.aF
 aC:p.aC.xs=q.aC.xs
 aM:p.aM.xs=q.aM.xs
 bA:p.bA.xs=q.bA.xs
 ord:p.ord.xs=q.ord.xs
structure Tx(q:ae):Prop where
 au:(q.au.ad=Qr->q.au.cap=0)/\N q.au.xs<=1000
 wh:(q.iF=Qr->q.cZ=0)/\N q.wh<=100
 cl:∀i,i<N q.wh->((E q.wh i lz).ad=Qr->(E q.wh i lz).cap=0)/\(E q.wh i lz).cs.length<=100
 aC:(q.aC.ad=Qr->q.aC.cap=0)/\N q.aC.xs<=1000
 aM:(q.aM.ad=Qr->q.aM.cap=0)/\N q.aM.xs<=1000
 bA:(q.bA.ad=Qr->q.bA.cap=0)/\N q.bA.xs<=1000
 ord:(q.ord.ad=Qr->q.ord.cap=0)/\N q.ord.xs<=1000
structure aio(q:ae):Prop where
 au:q.au.ad=Qr->q.au.cap=0
 aC:q.aC.ad=Qr->q.aC.cap=0
 aM:q.aM.ad=Qr->q.aM.cap=0
 bA:q.bA.ad=Qr->q.bA.cap=0
 ord:q.ord.ad=Qr->q.ord.cap=0
def Ty{v0 v1 v2 v3 v4 v5 v6:Ql}(h:GB W B 35 #[v0,v1,v2,v3,v4,v5,v6]):(loadVar 35 (aD B 0)).run V W=.ok (Qt #[v0,v1,v2,v3,v4,v5,v6]) W:=by obtain⟨c0,a,c2,c3,c4,c5,b⟩:=h.k7;simp[go_sem,c0,a,c2,c3,c4,c5,b]
theorem aea(q:ae)(w:U)(hq:q.At w)(ht:Tx q) :
  Calls V 49 #[Qt q.cells] w λe R=>∃p:ae,e=Qu (Qt p.cells)/\p.At R/\il q p/\p.New (M (H w))/\aio p/\N p.aC.xs<=p.aC.cap/\Bw w R:=by
 have Di:q.cells=#[q.au.val,Z q.iF (N q.wh) q.cZ,Qq q.aF,q.aC.val,q.aM.val,q.bA.val,q.ord.val]:=rfl;rw[Di];clear Di;obtain⟨w1,dB,bL,bn⟩:=bI w #[q.au.val,Z q.iF (N q.wh) q.cZ,Qq q.aF,q.aC.val,q.aM.val,q.bA.val,q.ord.val] 35;obtain⟨w2,cO,bq,bN⟩:=bI w1 #[Z Qr 0 0,Z Qr 0 0,Qq F,Z Qr 0 0,Z Qr 0 0,Z Qr 0 0,Z Qr 0 0] 35;have aU:=aO bL bq;have Dj:=bn.up bq;obtain⟨HQ,HT,bO,bP,CE⟩:=Wu hq ht aU bN Dj;have ai:=hq.wh.aj aU;have bD:=Ih q.iF q.cZ q.wh w2 ⟨ai.1,ai.2.1⟩ ht.wh.1 (Qj ht.wh.2);have bS:=Zh ai;have c1:=Dj.at 1;have bT:Qm (∀(x:U) (i:Nat) (l:aQ),i<N q.wh->l=E q.wh i lz->bZ x l.ad l.cs->Calls V 85 #[Z l.ad (N l.cs) l.cap] x λe R=>∃z cap,e=Qu (Z z (N l.cs) cap)/\bZ R z l.cs/\(∀a,z=O a->M (H x)<=a.block)/\Bw x R):=λx i l C hl hc=>by have aV:=ht.cl i C;rw[<-hl]at aV;refine(Oe l.ad l.cap l.cs x hc aV.1 X).mono ?_;rintro e R ⟨v,rfl,ho,m⟩;obtain⟨z,cap,rfl,bu,u⟩:=Gt ho aV.2;grind
 obtain⟨Aq,df⟩:=bH (Jo bn.lt) bL.size;have af:Qm (∀(x:U) (n:aA),Bw w x->n.At w->((n.ad=Qr->n.cap=0)/\N n.xs<=1000)->Calls V 86 #[n.val] x λe R=>∃jv:aA,e=Qu jv.val/\jv.xs=n.xs/\jv.At R/\(∀a,jv.ad=O a->M (H x)<=a.block)/\(jv.ad=Qr->jv.cap=0)/\N jv.xs<=jv.cap/\Bw x R):=λx n j C ht=>by refine(tJ n x (Zc j C) ht.1 X).mono ?_;rintro e R ⟨v,rfl,ho,m⟩;obtain⟨jv,rfl,h1,h2,h3,h4,h5⟩:=lJ ho X;grind
 clear hq ht bL bn bq bN aU Dj ai;go_enter func49,ntmps49;go_wp2_with fail;refine bD.mono ?_;rintro e w3 ⟨v,rfl,aS,ah⟩;have aW:=Zh (CpS.start bS.o aS ah);obtain⟨va,vn,vc,rfl⟩:=Xz aS;obtain rfl:vn=N q.wh:=by
  rcases aS.2 with⟨e,h0⟩|⟨g,cap,iw,e,_⟩
  .injection e with e1 e2 e3;omega
  .injection e with e1 e2 e3
 clear bD c1 dB cO aS ah;have di:=HT.o.wh.2;go_wp2;go_loopw [11] (λn wr=>∃k:Nat,k<=N q.wh/\n=I J (k:Int)/\Qm (∃ls,CpS 59 w2 q.wh k (Z va (N q.wh) vc) ls wr)) (λn _=>N q.wh-(intOf n).toNat)
 case atStart=>exact⟨0,ZR _,rfl,_,aW.o⟩
 case round=>
  obtain⟨k,hk,rfl,HJ⟩:=hrel;obtain⟨ls,W⟩:=HJ.o;by_cases aT:k<N q.wh
  .have aX:k<N ls:=by rw[W.len];exact aT
   obtain⟨g,cp,hv,r⟩:∃g cp,(Value.slice va (N q.wh) vc)=Z (O (aD g 0)) (N ls) cp/\Qo wr (aD g k)=O (E ls k lz).val:=by
    rcases XP W.own with⟨_,h1⟩|⟨g,cap,e,_,_,hc⟩
    .omega
    grind
   injection hv with hv1 hv2 hv3;subst hv1;have bE:=W.yA k (Zb _) aX;obtain⟨l,hl⟩:=eY (E q.wh k lz);have ak:=(W.cs k aX).2;rw[bE,<-hl]at r ak;have av:=Zh W;obtain⟨iw,bQ⟩:=Jp W.own (b:=g) rfl;have V4:Qm (GB wr g 59 iw):=bQ;obtain⟨y1,bz⟩:=eX (wr.alloc (Qs #[Z Qr 0 0] 59));have DF:GB y1 (M (H wr)) 59 #[Z Qr 0 0]:=by rw[<-bz];exact qj _ _
   have aY:Bw wr y1:=by rw[<-bz];exact fo _ _
   obtain⟨la,lc,lx⟩:=l;simp only[aQ.val]at r ak;have bU:=DF.at 0;have bV:=DF.frozen 0;obtain⟨y2,bB⟩:=eX (Qn y1 (aD (M (H wr)) 0) (Z la (N lx) lc));have LP:Qo y2 (aD (M (H wr)) 0)=O (Z la (N lx) lc):=by rw[<-bB];exact(DF.set 0 _).cell 0
   have aZ:Bw wr y2:=by rw[<-bB];exact aY.trans ((Xu (s:=λb=>b≠M (H wr)) _ _ _ (λh=>h rfl)).aj aY.size (λb m=>Jo m))
   have bf:=bT.o y2 k ⟨la,lc,lx⟩ aT hl (ak.aj aZ);change Calls V 85 #[Z la (N lx) lc] y2 (λe R=>∃z cap,e=Qu (Z z (N lx) cap)/\bZ R z lx/\(∀a,z=O a->M (H y2)<=a.block)/\Bw y2 R) at bf;obtain⟨bC,HL⟩:=bH aZ hl;clear W HJ bQ ak aY aZ DF bE hl hv2 hv3 aW;go_wp2_with fail;refine bf.mono ?_;rintro e y3 ⟨z,cap,rfl,bu,u,ah⟩;have ay:=bC.o.trans (ah.mono bC.o.size);have lH:lx=(E q.wh k lz).cs:=by rw[<-HL.o]
   have Nt:Qm (CpS 59 w2 q.wh (k+1) (Z (O (aD g 0)) (N q.wh) vc) (ls.set k ⟨z,cap,(E q.wh k lz).cs⟩) (Qn y3 (aD g k) (Z z (N lx) cap))):=by obtain⟨g',dC,e,h⟩:=av.o.next aX ay (cap:=cap) (by rw[<-lH];exact bu) (λa f=>ZU bC.o.size (u a f));injection e with e1;injection e1 with e1;injection e1 with e1;rw[<-lH,<-e1]at h;rw[<-lH];exact h
   have dm:=cB ay r;have dn:=(V4.o.up ay).frozen k;clear bf bz bB r bU bV LP bu u ah ay lH;refine gQ ?_;exact⟨k+1,X,Qe,_,Nt.o⟩
  .have bF:k=N q.wh:=X
   have A:=CE.o.up W.aj;have O0:=bP.o.up W.aj;have d0:=A.at 0;have d2:=A.at 2;have d3:=A.at 3;have d4:=A.at 4;have d5:=A.at 5;have d6:=A.at 6;have fG:=Aq.o;obtain⟨av,bR,dh,zY⟩:=De W bF O0 (aO bO.o W.aj);clear W HJ A O0 bF aW;go_wp2_with fail;refine ZI (S:=λx=>aB (λb=>b≠M (H w1)) wr x) Qd (Xl ((Za _ _).drew)) (λt=>?_);refine wK2 0 t ?_;refine wt 3 (Z va (N q.wh) vc) t ?_;refine wt 4 (Y (O (aD (M (H w)) 2))) t ?_;refine wT 5 (Qq q.aF) t (λx j=>?_) ?_
   .have e0:=JE j d2 fG;go_simp
   refine wt 6 (Y (O (aD (M (H w)) 3))) t ?_;refine wT 7 (q.aC.val) t (λx j=>?_) ?_
   .have e0:=JE j d3 fG;go_simp
   refine wt 9 (Y (O (aD (M (H w)) 4))) t ?_;refine wT 10 (q.aM.val) t (λx j=>?_) ?_
   .have e0:=JE j d4 fG;go_simp
   refine wt 12 (Y (O (aD (M (H w)) 5))) t ?_;refine wT 13 (q.bA.val) t (λx j=>?_) ?_
   .have e0:=JE j d5 fG;go_simp
   refine wt 15 (Y (O (aD (M (H w)) 6))) t ?_;refine wT 16 (q.ord.val) t (λx j=>?_) ?_
   .have e0:=JE j d6 fG;go_simp
   have bJ:Bw wr wr.drew:=(Za _ _).drew;refine wR 2 λK y=>?_;go_simp;refine Jg (af.o _ q.au (aO zY.o bJ) HQ.o.au HT.o.au) ?_;rintro e s1 ⟨n,rfl,j,D,u,G,L,m⟩;obtain⟨aa,ac,ax⟩:=n;simp only[aA.val];have Vm:=aO bJ m;clear m;have az:=Zh (JM j (JM D (JM u (JM G L))));clear j D u G L;refine y.o _ _ (Xl Vm) (λt=>?_);clear y K;refine wR 8 λK y=>?_;go_simp;refine Jg (af.o _ q.aC (aO zY.o Vm) HQ.o.aC HT.o.aC) ?_;rintro e s2 ⟨n,rfl,j,D,u,G,L,m⟩;obtain⟨ba,bc,bx⟩:=n;simp only[aA.val];have aG:=aO Vm m;have bW:=Zh m;clear m;have ag:=Zh (JM j (JM D (JM u (JM G L))));clear j D u G L;refine y.o _ _ (Xl aG) (λt=>?_);clear y K;refine wR 11 λK y=>?_;go_simp;refine Jg (af.o _ q.aM (aO zY.o aG) HQ.o.aM HT.o.aM) ?_;rintro e s3 ⟨n,rfl,j,D,u,G,L,m⟩;obtain⟨ca,cc,cx⟩:=n;simp only[aA.val];have aH:=aO aG m;have bK:=Zh m;clear m;have aI:=Zh (JM j (JM D (JM u (JM G L))));clear j D u G L;refine y.o _ _ (Xl aH) (λt=>?_);clear y K;refine wR 14 λK y=>?_;go_simp;refine Jg (af.o _ q.bA (aO zY.o aH) HQ.o.bA HT.o.bA) ?_;rintro e s4 ⟨n,rfl,j,D,u,G,L,m⟩;obtain⟨da,dc,dx⟩:=n;simp only[aA.val];have aJ:=aO aH m;have bg:=Zh m;clear m;have aK:=Zh (JM j (JM D (JM u (JM G L))));clear j D u G L;refine y.o _ _ (Xl aJ) (λt=>?_);clear y K;refine wR 17 λK y=>?_
   go_simp;refine Jg (af.o _ q.ord (aO zY.o aJ) HQ.o.ord HT.o.ord) ?_;rintro e s5 ⟨n,rfl,j,D,u,G,L,m⟩;obtain⟨fa,fc,fx⟩:=n;simp only[aA.val];have P:=aO aJ m;have aL:=Zh m;clear m;have aN:=Zh (JM j (JM D (JM u (JM G L))));clear j D u G L;refine y.o _ _ (Xl P) (λt=>?_);clear y K;refine wK1 18 t ?_;have d:=dh.o.up P;have rT:=Zh (Ty (World.ap0 d (Z aa (N ax) ac) (Z va (N q.wh) vc) (Qq q.aF) (Z ba (N bx) bc) (Z ca (N cx) cc) (Z da (N dx) dc) (Z fa (N fx) fc)));have Q:=World.aim s5 (M (H w1)) (Z aa (N ax) ac) (Z va (N q.wh) vc) (Qq q.aF) (Z ba (N bx) bc) (Z ca (N cx) cc) (Z da (N dx) dc) (Z fa (N fx) fc);have r0:=d.at 0;have z0:=d.frozen 0;have r1:=d.at 1;have z1:=d.frozen 1;have r2:=d.at 2;have z2:=d.frozen 2;have r3:=d.at 3;have z3:=d.frozen 3;have r4:=d.at 4;have z4:=d.frozen 4;have r5:=d.at 5;have z5:=d.frozen 5;have r6:=d.at 6;have z6:=d.frozen 6;have gJ:Qm (∃p:ae,Ending.returned (Qt #[Z aa (N ax) ac,Z va (N q.wh) vc,Qq q.aF,Z ba (N bx) bc,Z ca (N cx) cc,Z da (N dx) dc,Z fa (N fx) fc])=Qu (Qt p.cells)/\p.At (World.ail s5 (M (H w1)) (Z aa (N ax) ac) (Z va (N q.wh) vc) (Qq q.aF) (Z ba (N bx) bc) (Z ca (N cx) cc) (Z da (N dx) dc) (Z fa (N fx) fc))/\il q p/\p.New (M (H w))/\aio p/\N p.aC.xs<=p.aC.cap/\Bw w (World.ail s5 (M (H w1)) (Z aa (N ax) ac) (Z va (N q.wh) vc) (Qq q.aF) (Z ba (N bx) bc) (Z ca (N cx) cc) (Z da (N dx) dc) (Z fa (N fx) fc))):=by
    have dw:=bP.o.lt;have B:=av.o.step P;have aR:=B.len;have dz:=av.o.aj.size;have dA:=bO.o.size;generalize hZ:World.ail s5 (M (H w1)) (Z aa (N ax) ac) (Z va (N q.wh) vc) (Qq q.aF) (Z ba (N bx) bc) (Z ca (N cx) cc) (Z da (N dx) dc) (Z fa (N fx) fc)=Zq at*;have bG:=Xw B.own Q (λg e e2=>by have h1:=(Xy B.own e).1;omega);have lH:∀i,i<N ls->bZ Zq (E ls i lz).ad (E ls i lz).cs:=λi C=>bZ.eG (B.cs i C).2 Q λ_ a f e2=>by have h1:=B.new i (by rw[bR.o,<-aR];exact C) C a f;omega
    obtain⟨dD,dE,e2,iX⟩:=BC bG (λx j=>by
     obtain⟨i,C,rfl⟩:=JO.1 j;have:=lH i C;rw[Js,XG C]at this;exact this) X
    injection e2 with e21 e22 e23;subst e21;have key:∀{z:LM} {xs:IC},aP s5 z xs->(∀a,z=O a->M (H wr)<=a.block)->aP Zq z xs:=λ{z xs} h1 h2=>Jm h1 Q λ_ a f e3=>by have:=h2 a f;omega
    have na:∀a,aa=O a->M (H wr)<=a.block:=λa f=>ZU (Zb _) (az.o.2.2.1 a f);have bX:aP Zq aa ax:=key (Zc aL.o (Zc bg.o (Zc bK.o (Zc bW.o (az.o.2.1))))) na;have nb:∀a,ba=O a->M (H wr)<=a.block:=λa f=>ZU Vm.size (ag.o.2.2.1 a f);have bY:aP Zq ba bx:=key (Zc aL.o (Zc bg.o (Zc bK.o (ag.o.2.1)))) nb;have nc:∀a,ca=O a->M (H wr)<=a.block:=λa f=>ZU aG.size (aI.o.2.2.1 a f);have cu:aP Zq ca cx:=key (Zc aL.o (Zc bg.o (aI.o.2.1))) nc;have nd:∀a,da=O a->M (H wr)<=a.block:=λa f=>ZU aH.size (aK.o.2.2.1 a f);have cz:aP Zq da dx:=key (Zc aL.o (aK.o.2.1)) nd;have nf:∀a,fa=O a->M (H wr)<=a.block:=λa f=>ZU aJ.size (aN.o.2.2.1 a f);have cK:aP Zq fa fx:=key (aN.o.2.1) nf;refine⟨⟨⟨aa,ac,ax⟩,va,vc,ls,q.aF,⟨ba,bc,bx⟩,⟨ca,cc,cx⟩,⟨da,dc,dx⟩,⟨fa,fc,fx⟩⟩,?_,⟨bX,iX,bY,cu,cz,cK⟩,⟨az.o.1,aR,λi C=>(B.cs i C).1,rfl,ag.o.1,aI.o.1,aK.o.1,aN.o.1⟩,⟨λa f=>?_,λa f=>?_,λi C a f=>?_,λa f=>?_,λa f=>?_,λa f=>?_,λa f=>?_⟩,⟨az.o.2.2.2.1,ag.o.2.2.2.1,aI.o.2.2.2.1,aK.o.2.2.2.1,aN.o.2.2.2.1⟩,ag.o.2.2.2.2,zY.o.trans ((P.mono zY.o.size).trans (Q.aj (ZU zY.o.size P.size) λb m=>Qj df.o))⟩
    .unfold ae.cells;simp only[aA.val];rw[aR]
    .have:=na a f;omega
    .have h1:=(Xy bG (g:=a.block) (by rw[show va=O a from f];rfl)).1;omega
    .have h1:=B.new i (by rw[bR.o,<-aR];exact C) C a f;omega
    .have:=nb a f;omega
    .have:=nc a f;omega
    .have:=nd a f;omega
    .have:=nf a f;omega
   have bM:=Zh ((Xl (s:=λb=>b≠M (H w1)) P).trans Q);unfold World.ail at gJ rT bM;clear Q d;refine wR 19 λK y=>?_;go_simp;refine y.o _ _ (bM.o) (λt=>?_);clear y K;refine wD ?_;try simp only[pV]
   go_wp2;exact Jr (uV (p:=2) rfl rfl rT.o) rfl gJ.o
structure mq(Nq:Pm)(W W0:U):Prop where
 size:M (H W0)=M (H W)
 block:∀b,¬Nq b->W0.heap[b]? = W.heap[b]?
 azf:∀b o v,Qo W0 (aD b o)=O v->¬Nq b
def ait(Nq:Pm)(W:U):∃g,mq Nq W g:=by
 classical
 have a:M (H ({ W with heap:=W.heap.mapIdx λi o=>if Nq i then .deferred Qr else o }:U))=M (H W):=Qa;refine⟨{ W with heap:=W.heap.mapIdx λi o=>if Nq i then .deferred Qr else o },a,λb h=>?_,λb o v d h=>?_⟩
 .simp_all
 .have f:=kX d;rw[a]at f;have e:({ W with heap:=W.heap.mapIdx λi o=>if Nq i then .deferred Qr else o }:U).heap[b]? = O (.deferred Qr):=by simp_all
  simp[World.cell?,e]at d
theorem mq.cell{Nq:Pm}{W W0:U}(K:mq Nq W W0){b o:Nat}{v:Ql}(h:¬Nq b)(hc:Qo W (aD b o)=O v):Qo W0 (aD b o)=O v:=by grind [World.cell?_of_block,mq.block]
theorem mq.under(K:mq Nq W W0):mY W0 W:=
 ⟨by rw[K.size];omega,λb o v a=>by
  grind [mq.azf,World.cell?_of_block,mq.block]⟩
theorem mq.aFK(K:mq Nq W W0)(h:UH W0 b):¬Nq b:=by grind [UH,mq.azf]
theorem BG(K:mq Nq W W0)(h:dC W ao n g)(hn:∀a,ao=O a->¬Nq a.block):dC W0 ao n g:=λi d=>by obtain⟨b,off,e,f⟩:=h i d;grind [mq.cell]
theorem oF(K:mq Nq W W0){k:Nat}(hN:∀b,Nq b->b<n∨M (H W')<=b)(hb:Bw W' W)(h:dC W' ao k g)(hn:∀a,ao=O a->n<=a.block):dC W0 ao k g:=λi f=>by obtain⟨b,off,e,d⟩:=h i f;have j:n<=b:=hn _ e;have l:b<M (H W'):=kX d;exact⟨b,off,e,K.cell (λm=>Qb) (cB hb d)⟩
theorem Vn(K:mq Nq W W0)(hN:∀b,Nq b->b<n∨M (H W')<=b)(hb:Bw W' W)(h:aZ W' ao ts)(hn:∀a,ao=O a->n<=a.block):aZ W0 ao ts:=⟨h.1,λi g=>by
 obtain⟨b,off,e,c0,f,c2,c3,c4,c5⟩:=h.2 i g;have j:n<=b:=hn _ e;have k:b<M (H W'):=kX c0;have d:¬Nq b:=λl=>Qb;exact⟨b,off,e,K.cell d (cB hb c0),K.cell d (cB hb f),K.cell d (cB hb c2),K.cell d (cB hb c3),K.cell d (cB hb c4),K.cell d (cB hb c5)⟩⟩
theorem Kz(K:mq Nq W W0)(hN:∀b,Nq b->b<n∨M (H W')<=b)(hb:Bw W' W)(h:q.At W')(hn:q.New n):q.At W0:=by refine⟨⟨h.au.1,oF K hN hb h.au.2 hn.au⟩,⟨h.wh.1,oF K hN hb h.wh.2.1 hn.wh,λi d=>⟨(h.wh.2.2 i d).1,λj g=>?_⟩⟩,⟨h.aC.1,oF K hN hb h.aC.2 hn.aC⟩,⟨h.aM.1,oF K hN hb h.aM.2 hn.aM⟩,⟨h.bA.1,oF K hN hb h.bA.2 hn.bA⟩,⟨h.ord.1,oF K hN hb h.ord.2 hn.ord⟩⟩;obtain⟨b,off,e,c0,f,c2,c3,c4⟩:=(h.wh.2.2 i d).2 j g;have k:n<=b:=hn.cl i d _ e;have l:b<M (H W'):=kX c0;have a:¬Nq b:=λm=>Qb;exact⟨b,off,e,K.cell a (cB hb c0),K.cell a (cB hb f),K.cell a (cB hb c2),K.cell a (cB hb c3),K.cell a (cB hb c4)⟩
theorem aaW(K:mq Nq W W0)(hN:∀b,Nq b->b<m)(h:f.At ts q W)(hf:f.New m)(hq:q.At W0):f.At ts q W0:=by
 have key:∀{ao:LM},(∀a,ao=O a->m<=a.block)->∀a,ao=O a->¬Nq a.block:=λh a e k=>by grind
 refine⟨hq,⟨h.bU.1,λi j=>?_⟩,⟨h.rows.1,BG K h.rows.2 (key hf.ra)⟩,⟨h.conc.1,BG K h.conc.2 (key hf.na)⟩,⟨h.parts.1,BG K h.parts.2 (key hf.pa)⟩,h.nl,h.pl⟩;obtain⟨b,off,e,c0,g⟩:=h.bU.2 i j;have d:¬Nq b:=key hf.ca _ e;exact⟨b,off,e,K.cell d c0,K.cell d g⟩
def vS.auw(K:mq Nq W W0)(Eq:vS f ts q W)(h0:¬Nq 0)(hNf:∀b,Nq b->b<m)(hf:f.New m)(hNq:∀b,Nq b->b<n∨M (H W')<=b)(hb:Bw W' W)(hq:q.At W')(hn:q.New n):vS f ts q W0:=
 ⟨Eq.ok,aaW K hNf Eq.facts hf (Kz K hNq hb hq hn),λj u a=>K.cell h0 (Eq.shapes j u a),Eq.one,Eq.jM,Eq.ko,Eq.ord,Eq.D6,Eq.aC,Eq.ac9,Eq.axv,Eq.AZ,Eq.axw⟩
theorem Fz.auw(K:mq Nq W W0)(hb:Bw W w)(hN:∀b,Nq b->b<M (H w)):Fz (λb=>¬Nq b) W0 w:=
 ⟨⟨by rw[K.size];exact hb.size,λb o v a=>cB hb (K.under.cell b o v a)⟩,λb h=>K.aFK h,λb h d=>Qb⟩
def oG{iv:aA}(hv:iv.At W)(hn:iv.ad=Qr->iv.cap=0)(hl:N iv.xs<=50000):∀x,Bw W x->Calls V 154 #[Z iv.ad (N iv.xs) iv.cap] x (iW x (bR iv.xs)):=λx a=>KE iv x (Zc a hv) hn hl
def Im(q:ae)(w:U)(hq:q.At w)(hn:aio q)(hl:N q.au.xs<=1000/\N q.wh<=20/\N q.aC.xs<=1000/\N q.aM.xs<=1000/\N q.bA.xs<=1000/\N q.ord.xs<=1000)(iX:∀i,i<N q.wh->(E q.wh i lz).cs.length<=20)(hlw:N (dM gM q.wh)<=10000) :
  Calls V 153 #[Qt q.cells] w (iW w (ik q)):=by
 have Di:q.cells=#[Z q.au.ad (N q.au.xs) q.au.cap,Z q.iF (N q.wh) q.cZ,Qq q.aF,Z q.aC.ad (N q.aC.xs) q.aC.cap,Z q.aM.ad (N q.aM.xs) q.aM.cap,Z q.bA.ad (N q.bA.xs) q.bA.cap,Z q.ord.ad (N q.ord.xs) q.ord.cap]:=rfl;rw[Di];obtain⟨w1,dB,bL,af⟩:=bI w q.cells 35;rw[Di]at af dB;have k:=hq.aj bL;obtain⟨ag,av,ax,ay,az⟩:=Wu (oG k.au hn.au X) (oG k.aC hn.aC X) (oG k.aM hn.aM X) (oG k.bA hn.bA X) (oG k.ord hn.ord X);have V9:Qm (∀x,Bw w1 x->Calls V 193 #[.func (.func 194) #[] #[],Z q.iF (N q.wh) q.cZ] x (iW x (dM gM q.wh))):=λx hx=>aa9 q.iF q.cZ q.wh x (k.wh.aj hx) hl.2.1 iX;have ai:Qm (ik q=[bR q.au.xs,dM gM q.wh,[pR q.aF],bR q.aC.xs,bR q.aM.xs,bR q.bA.xs,bR q.ord.xs].flatten):=by show _=_;simp[ik]
 have rP:Qm (N (bR q.au.xs)<=1001/\N (dM gM q.wh)<=10000/\N (bR q.aC.xs)<=1001/\N (bR q.aM.xs)<=1001/\N (bR q.bA.xs)<=1001/\N (bR q.ord.xs)<=1001):=by refine⟨?_,hlw,?_,?_,?_,?_⟩ <;> (unfold bR;rw[Zu];omega)
 obtain⟨c0,c1,c2,c3,c4,c5,c6⟩:=af.k7;generalize ik q=QN at*;clear Di hq k hn hl iX hlw af;generalize bR q.au.xs=N0,dM gM q.wh=N1,bR q.aC.xs=N3,bR q.aM.xs=N4,bR q.bA.xs=N5,bR q.ord.xs=N6,q.au.ad=a0,N q.au.xs=n0,q.au.cap=q0,q.iF=a1,N q.wh=n1,q.cZ=q1,q.aF=gr,q.aC.ad=a3,N q.aC.xs=n3,q.aC.cap=q3,q.aM.ad=a4,N q.aM.xs=n4,q.aM.cap=q4,q.bA.ad=a5,N q.bA.xs=n5,q.bA.cap=q5,q.ord.ad=a6,N q.ord.xs=n6,q.ord.cap=q6 at*;have ak:=Zh bL;clear bL;go_enter func153,ntmps153;go_wp2_with fail;refine wH w1 λf=>?_;refine Co 0 f ?_;refine Co 3 f ?_;refine Co 6 f ?_;refine Co 10 f ?_;refine Co 13 f ?_;refine Co 16 f ?_;refine Co 19 f ?_;refine wR 2 λK d=>?_;go_simp;refine Jg (ag.o _ f) ?_;rintro e x0 ⟨v,rfl,j,b⟩;have z:=lC.own j (Qj rP.o);obtain⟨u0,v0,t0,rfl⟩:=z.sl;refine oT d f b λf=>?_;clear d K j b;refine wR 5 λK d=>?_;go_simp;refine Jg (V9.o _ f) ?_;rintro e x1 ⟨v,rfl,j,b⟩;have aa:=lC.own j (Qj rP.o);obtain⟨u1,v1,t1,rfl⟩:=aa.sl;have z:=z.aj b;refine oT d f b λf=>?_;clear d K j b;refine wR 8 λK d=>?_;go_simp;refine(Ik gr _).mono ?_;rintro e x2 ⟨rfl,rfl⟩;refine d.o _ _ f λf=>?_;clear d K;have A:Qm (lC N0 (Z u0 v0 t0) x2/\lC N1 (Z u1 v1 t1) x2):=⟨z,aa⟩
 clear dB z aa c0 c1 c2 c3 c4 c5 c6 ag V9;refine wF5 (λP Q R S W=>#[T,T,T,T,T,T,T,T,T,P,T,T,Q,T,T,R,T,T,S,T,T,W,F,F,F]) [9,12,15,18,21] 3 (λP Q R S W a x=>∃B C D G L,a=⟨#[Qt #[Z a0 n0 q0,Z a1 n1 q1,Qq gr,Z a3 n3 q3,Z a4 n4 q4,Z a5 n5 q5,Z a6 n6 q6],Y (O (aD (M (H w)) 0)),Z Qr 0 0,Y (O (aD (M (H w)) 0)),Z a0 n0 q0,Z u0 v0 t0,Y (O (aD (M (H w)) 1)),Z a1 n1 q1,Z u1 v1 t1,Y (O (aD (M (H w)) 2)),Qq gr,I J (pR gr),B,Y (O (aD (M (H w)) 3)),Z a3 n3 q3,C,Y (O (aD (M (H w)) 4)),Z a4 n4 q4,D,Y (O (aD (M (H w)) 5)),Z a5 n5 q5,G,Y (O (aD (M (H w)) 6)),Z a6 n6 q6,L,undef,undef],[]⟩/\Qm (Bw w1 x/\lC N0 (Z u0 v0 t0) x/\lC N1 (Z u1 v1 t1) x/\(P=T->lC [pR gr] B x)/\(Q=T->lC N3 C x)/\(R=T->lC N4 D x)/\(S=T->lC N5 G x)/\(W=T->lC N6 L x))) ⟨undef,undef,undef,undef,undef,Qd,f,A.o.1,A.o.2,(λh=>by cases h),(λh=>by cases h),(λh=>by cases h),(λh=>by cases h),(λh=>by cases h)⟩ (λP Q R S W a x ⟨B,C,D,G,L,_,h⟩=>h.o.1) ?_ ?_
 .clear f A;intro i hi P Q R S W a x;rintro⟨B,C,D,G,L,rfl,u⟩;simp only[ZB,JP,or_false]at hi;rcases hi with rfl|rfl|rfl|rfl|rfl
  .refine JQ rfl λK d=>?_
   go_simp;obtain⟨t,y,g1,l,m,n,p,r⟩:=u.o;have b:=fo x (Qs #[I J (pR gr)] 3);exact d _ _ ⟨T,Q,R,S,W,rfl,_,C,D,G,L,rfl,aO t b,y.aj b,g1.aj b,λ_=>lC.one x _ _,λh=>(m h).aj b,λh=>(n h).aj b,λh=>(p h).aj b,λh=>(r h).aj b⟩
  .refine JQ rfl λK d=>?_
   go_simp;refine Jg (av.o _ u.o.1) ?_;rintro e x3 ⟨v,rfl,j,b⟩;obtain⟨t,y,g1,l,m,n,p,r⟩:=u.o;exact d _ _ ⟨P,T,R,S,W,rfl,B,v,D,G,L,rfl,aO t b,y.aj b,g1.aj b,λh=>(l h).aj b,λ_=>lC.own j (Qj rP.o),λh=>(n h).aj b,λh=>(p h).aj b,λh=>(r h).aj b⟩
  .refine JQ rfl λK d=>?_
   go_simp;refine Jg (ax.o _ u.o.1) ?_;rintro e x3 ⟨v,rfl,j,b⟩;obtain⟨t,y,g1,l,m,n,p,r⟩:=u.o;exact d _ _ ⟨P,Q,T,S,W,rfl,B,C,v,G,L,rfl,aO t b,y.aj b,g1.aj b,λh=>(l h).aj b,λh=>(m h).aj b,λ_=>lC.own j (Qj rP.o),λh=>(p h).aj b,λh=>(r h).aj b⟩
  .refine JQ rfl λK d=>?_
   go_simp;refine Jg (ay.o _ u.o.1) ?_;rintro e x3 ⟨v,rfl,j,b⟩;obtain⟨t,y,g1,l,m,n,p,r⟩:=u.o;exact d _ _ ⟨P,Q,R,T,W,rfl,B,C,D,v,L,rfl,aO t b,y.aj b,g1.aj b,λh=>(l h).aj b,λh=>(m h).aj b,λh=>(n h).aj b,λ_=>lC.own j (Qj rP.o),λh=>(r h).aj b⟩
  .refine JQ rfl λK d=>?_
   go_simp;refine Jg (az.o _ u.o.1) ?_;rintro e x3 ⟨v,rfl,j,b⟩;obtain⟨t,y,g1,l,m,n,p,r⟩:=u.o;exact d _ _ ⟨P,Q,R,S,T,rfl,B,C,D,G,v,rfl,aO t b,y.aj b,g1.aj b,λh=>(l h).aj b,λh=>(m h).aj b,λh=>(n h).aj b,λh=>(p h).aj b,λ_=>lC.own j (Qj rP.o)⟩
 .clear f A;rintro a x ⟨B,C,D,G,L,rfl,u⟩;obtain⟨t,y,g1,l,m,n,p,r⟩:=u.o
  replace l:=l rfl
  replace m:=m rfl
  replace n:=n rfl
  replace p:=p rfl
  replace r:=r rfl
  obtain⟨d1,e1,f1,rfl⟩:=l.sl;obtain⟨d2,e2,f2,rfl⟩:=m.sl;obtain⟨d3,e3,f3,rfl⟩:=n.sl;obtain⟨d4,e4,f4,rfl⟩:=p.sl;obtain⟨d5,e5,f5,rfl⟩:=r.sl;obtain⟨x1,sK,g,ah⟩:=bI x #[Z u0 v0 t0,Z u1 v1 t1,Z d1 e1 f1,Z d2 e2 f2,Z d3 e3 f3,Z d4 e4 f4,Z d5 e5 f5] 26;have BJ:=BM (M (H x)) 7 26 [Z u0 v0 t0,Z u1 v1 t1,Z d1 e1 f1,Z d2 e2 f2,Z d3 e3 f3,Z d4 e4 f4,Z d5 e5 f5] [N0,N1,[pR gr],N3,N4,N5,N6] x1 ah ⟨y.aj g,g1.aj g,l.aj g,m.aj g,n.aj g,p.aj g,r.aj g,trivial⟩ Qa (by have:=rP.o;simp;omega);obtain⟨Li,aA⟩:=bH (aO ak.o (aO t g)) g;have f:=t;clear ah g t y g1 l m n p r u;refine wR 22 λK d=>?_;go_simp;refine oT d f aA.o λf=>?_;clear d K;refine wR 23 λK d=>?_;go_simp;refine BJ.mono ?_;rintro e x2 ⟨v,rfl,j,b⟩;obtain⟨va,vm,vc,rfl⟩:=Xz j;rw[<-ai.o]at j;obtain⟨HO,HB⟩:=bH j b;clear j BJ;refine oT d f b λf=>?_;clear d K b;refine wR 24 λK d=>?_;go_simp;refine d.o _ _ f λf=>?_;clear d K;refine wD ?_;try simp only[pV]
  go_wp2;go_ret;exact⟨_,rfl,Je HO.o Li.o.size,aO Li.o HB.o⟩
theorem abb(ca:LM)(cc:Nat)(ts:JK af)(q:ae)(cap st:Int)(pk:aA)(w:U)
  (h1:∀x,Bw w x->Calls V 151 #[.func (.func 152) #[] #[],Z ca (N ts) cc] x (iW x (dM fM ts)))
  (h2:∀x,Bw w x->Calls V 153 #[Qt q.cells] x (iW x (ik q)))
  (hp:pk.At w) (hpn:pk.ad=Qr->pk.cap=0) (hl:N (dM fM ts)<=1000/\N (ik q)<=20000/\N pk.xs<=8000) :
  Calls V 106 #[Qt (#[Z ca (N ts) cc]++q.cells ++ #[I J cap,Z pk.ad (N pk.xs) pk.cap,I J st])] w (iW w (ji ts q cap pk.xs st)):=by
 obtain⟨P,Q,R,S,W,p5,p6,Di⟩:∃v0 v1 v2 v3 v4 v5 v6,q.cells=#[v0,v1,v2,v3,v4,v5,v6]:=⟨_,_,_,_,_,_,_,rfl⟩;rw[Di]at h2 ⊢;show Calls V 106 #[Qt #[Z ca (N ts) cc,P,Q,R,S,W,p5,p6,I J cap,Z pk.ad (N pk.xs) pk.cap,I J st]] w (iW w (ji ts q cap pk.xs st));obtain⟨w1,dB,bL,d⟩:=bI w #[Z ca (N ts) cc,P,Q,R,S,W,p5,p6,I J cap,Z pk.ad (N pk.xs) pk.cap,I J st] 130;have V9:Qm (∀x,Bw w1 x->Calls V 151 #[.func (.func 152) #[] #[],Z ca (N ts) cc] x (iW x (dM fM ts))):=λx hx=>h1 x (aO bL hx);have ag:Qm (∀x,Bw w1 x->Calls V 153 #[Qt #[P,Q,R,S,W,p5,p6]] x (iW x (ik q))):=λx hx=>h2 x (aO bL hx);have ah:=Zh (oG (Zc bL hp) hpn X);have ai:Qm (ji ts q cap pk.xs st=[dM fM ts,ik q,[cap],bR pk.xs,[st]].flatten):=by show _=_;simp[ji]
 have rP:Qm (N (dM fM ts)<=1000/\N (ik q)<=20000/\N (bR pk.xs)<=8001):=⟨hl.1,hl.2.1,by unfold bR;grind⟩;have c0:=d.at 0;have c1:=d.at 1;have c2:=d.at 2;have c3:=d.at 3;have c4:=d.at 4;have c5:=d.at 5;have c6:=d.at 6;have c7:=d.at 7;have c8:=d.at 8;have c9:=d.at 9;have O7:=d.at 10;generalize ji ts q cap pk.xs st=JN at*;clear Di h1 h2 hp hpn hl d;generalize dM fM ts=N1,ik q=N2,bR pk.xs=N4,N ts=m0,N pk.xs=m9,pk.ad=pa,pk.cap=pc at*;have ak:=Zh bL;clear bL;go_enter func106,ntmps106;go_wp2_with fail;refine wH w1 λj=>?_;refine Co 0 j ?_;refine Co 3 j ?_;refine Co 6 j ?_;refine Co 9 j ?_;refine Co 12 j ?_;clear dB c0 c1 c2 c3 c4 c5 c6 c7 c8 c9 O7;refine wF5 (λB C D G L=>#[T,T,B,T,T,C,T,T,D,T,T,G,T,T,L,F,F,F]) [2,5,8,11,14] 3 (λB C D G L a x=>∃t u y z A,a=⟨#[Qt #[Z ca m0 cc,P,Q,R,S,W,p5,p6,I J cap,Z pa m9 pc,I J st],Y (O (aD (M (H w)) 0)),Z Qr 0 0,Y (O (aD (M (H w)) 0)),Z ca m0 cc,t,Y (O (aD (M (H w)) 1)),Qt #[P,Q,R,S,W,p5,p6],u,Y (O (aD (M (H w)) 8)),I J cap,y,Y (O (aD (M (H w)) 9)),Z pa m9 pc,z,Y (O (aD (M (H w)) 10)),I J st,A,undef,undef],[]⟩/\Qm (Bw w1 x/\(B=T->lC N1 t x)/\(C=T->lC N2 u x)/\(D=T->lC [cap] y x)/\(G=T->lC N4 z x)/\(L=T->lC [st] A x))) ⟨undef,undef,undef,undef,undef,Qd,j,(λh=>by cases h),(λh=>by cases h),(λh=>by cases h),(λh=>by cases h),(λh=>by cases h)⟩ (λB C D G L a x ⟨t,u,y,z,A,_,h⟩=>h.o.1) ?_ ?_
 .clear j;intro i hi B C D G L a x;rintro⟨t,u,y,z,A,rfl,p⟩;simp only[ZB,JP,or_false]at hi;rcases hi with rfl|rfl|rfl|rfl|rfl
  .refine JQ rfl λK f=>?_
   go_simp;refine Jg (V9.o _ p.o.1) ?_;rintro e x3 ⟨v,rfl,r,b⟩;obtain⟨n,h1,h2,k,l,m⟩:=p.o;exact f _ _ ⟨T,C,D,G,L,rfl,v,u,y,z,A,rfl,aO n b,λ_=>lC.own r (Qj rP.o),λh=>(h2 h).aj b,λh=>(k h).aj b,λh=>(l h).aj b,λh=>(m h).aj b⟩
  .refine JQ rfl λK f=>?_
   go_simp;refine Jg (ag.o _ p.o.1) ?_;rintro e x3 ⟨v,rfl,r,b⟩;obtain⟨n,h1,h2,k,l,m⟩:=p.o;exact f _ _ ⟨B,T,D,G,L,rfl,t,v,y,z,A,rfl,aO n b,λh=>(h1 h).aj b,λ_=>lC.own r (Qj rP.o),λh=>(k h).aj b,λh=>(l h).aj b,λh=>(m h).aj b⟩
  .refine JQ rfl λK f=>?_
   go_simp;obtain⟨n,h1,h2,k,l,m⟩:=p.o;have b:=fo x (Qs #[I J cap] 3);exact f _ _ ⟨B,C,T,G,L,rfl,t,u,_,z,A,rfl,aO n b,λh=>(h1 h).aj b,λh=>(h2 h).aj b,λ_=>lC.one x _ _,λh=>(l h).aj b,λh=>(m h).aj b⟩
  .refine JQ rfl λK f=>?_
   go_simp;refine Jg (ah.o _ p.o.1) ?_;rintro e x3 ⟨v,rfl,r,b⟩;obtain⟨n,h1,h2,k,l,m⟩:=p.o;exact f _ _ ⟨B,C,D,T,L,rfl,t,u,y,v,A,rfl,aO n b,λh=>(h1 h).aj b,λh=>(h2 h).aj b,λh=>(k h).aj b,λ_=>lC.own r (Qj rP.o),λh=>(m h).aj b⟩
  .refine JQ rfl λK f=>?_
   go_simp;obtain⟨n,h1,h2,k,l,m⟩:=p.o;have b:=fo x (Qs #[I J st] 3);exact f _ _ ⟨B,C,D,G,T,rfl,t,u,y,z,_,rfl,aO n b,λh=>(h1 h).aj b,λh=>(h2 h).aj b,λh=>(k h).aj b,λh=>(l h).aj b,λ_=>lC.one x _ _⟩
 .clear j;rintro a x ⟨t,u,y,z,A,rfl,p⟩;obtain⟨n,h1,h2,k,l,m⟩:=p.o
  replace h1:=h1 rfl
  replace h2:=h2 rfl
  replace k:=k rfl
  replace l:=l rfl
  replace m:=m rfl
  obtain⟨d1,e1,f1,rfl⟩:=h1.sl;obtain⟨d2,e2,f2,rfl⟩:=h2.sl;obtain⟨d3,e3,f3,rfl⟩:=k.sl;obtain⟨d4,e4,f4,rfl⟩:=l.sl;obtain⟨d5,e5,f5,rfl⟩:=m.sl;obtain⟨x1,sK,g,aa⟩:=bI x #[Z d1 e1 f1,Z d2 e2 f2,Z d3 e3 f3,Z d4 e4 f4,Z d5 e5 f5] 26;have BJ:=BM (M (H x)) 5 26 [Z d1 e1 f1,Z d2 e2 f2,Z d3 e3 f3,Z d4 e4 f4,Z d5 e5 f5] [N1,N2,[cap],N4,[st]] x1 aa ⟨h1.aj g,h2.aj g,k.aj g,l.aj g,m.aj g,trivial⟩ Qa (by have:=rP.o;simp;omega);obtain⟨Li,au⟩:=bH (aO ak.o (aO n g)) g;have j:=n;clear aa g n h1 h2 k l m p;refine wR 15 λK f=>?_;go_simp;refine oT f j au.o λj=>?_;clear f K;refine wR 16 λK f=>?_;go_simp;refine BJ.mono ?_;rintro e x2 ⟨v,rfl,r,b⟩;obtain⟨va,vm,vc,rfl⟩:=Xz r;rw[<-ai.o]at r;obtain⟨HO,HB⟩:=bH r b;clear r BJ;refine oT f j b λj=>?_;clear f K b;refine wR 17 λK f=>?_;go_simp;refine f.o _ _ j λj=>?_;clear f K;refine wD ?_;try simp only[pV]
  go_wp2;go_ret;exact⟨_,rfl,Je HO.o Li.o.size,aO Li.o HB.o⟩
