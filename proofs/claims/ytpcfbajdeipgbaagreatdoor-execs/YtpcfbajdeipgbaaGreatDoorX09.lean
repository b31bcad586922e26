import Derived.Test.YtpcfbajdeipgbaaGreatDoorX05
set_option linter.all false
set_option maxRecDepth 100000
set_option maxHeartbeats 0
namespace Go.Proofs.Zz
open Go.RowKit Go.Shelf
open List renaming length->N,getD->E
open Go.Value renaming slice->Z,int->I,pointer->Y,bool->EP,agg->FN,tuple->Ph
open Go.Proofs.Tryz renaming prog->V
open Option renaming some->O,none->E5
open Go.IntKind renaming i64->J,u64->Dc
open Bool renaming false->F,true->T
open Go renaming World->U,Value->KX
open Go.World renaming heap->H,setCell->qw,cell?->Am
open _root_.Array renaming size->M
open Go.RowKit renaming Hid->Wl
open Go.Obj renaming cells->FL
open Go.Ending renaming returned->FR
variable {B b cap i n n0 pcap:Nat} {p:Nat->Bool} {ts:List ag} {q:af} {v:bH} {W W' X:U} {t tI tT:TypeId} {ao po:Option Addr} {pl:List ai} {seen:List Nat} {sv:KX}
structure aW where
 s:ae
 c:ae
 o:ae
 out:Bool
 size:Nat
 cost:Nat
def aW.cells(v:aW):Array Value:=#[v.s.val,v.c.val,v.o.val,EP v.out,I Dc (v.size:Int),I Dc (v.cost:Int)]
def aW.d(v:aW):bH:=⟨v.s.xs,v.c.xs,v.o.xs,v.out,v.size,v.cost⟩
def Fh:aW:=⟨⟨E5,0,[]⟩,⟨E5,0,[]⟩,⟨E5,0,[]⟩,F,0,0⟩
def TG(kind:Int)(s:Nat)(l r:aW)(w:U)(hs:s<=aU)(h1:l.size<=aU)(h2:l.cost<=aU)(h3:r.size<=aU)(h4:r.cost<=aU) :
  Cb 72 #[I J kind,I Dc s,FN l.cells,FN r.cells] w (I Dc (rR kind s l.d r.d:Nat)):=by
 have i:Wl (rR kind s l.d r.d=if kind=1 then bG s 1 else if kind=3 then bG (bG l.cost r.cost) (aQ l.size r.size) else if kind=4 then bG (bG l.cost r.cost) (bG (bG l.size s) (aQ 2 r.size)) else if kind=5 then bG (bG l.cost r.cost) (bG (bG l.size s) r.size)
  else if kind=6∨kind=10 then bG l.cost (aQ l.size (gW l.size+1)) else if kind=7 then bG l.cost (aQ 2 l.size) else bG l.cost l.size):=rfl
 obtain⟨Ez,hE⟩:=eY (rR kind s l.d r.d);rw[<-hE]at i ⊢;clear hE;have HB:=Zh (Rh h1);have m:∀(a b:Nat),a<=aU->b<=aU->∀x,Ce 135 #[I Dc a,I Dc b] x (I Dc (bG a b:Nat)):=λa b A C x=>afe a b A C x;have n:∀(a b:Nat),a<=aU->b<=aU->∀x,Ce 133 #[I Dc a,I Dc b] x (I Dc (aQ a b:Nat)):=λa b A C x=>LJ a b A C x;obtain⟨⟨sa,sc,sx⟩,⟨ca,cc,cx⟩,⟨oa,oc,ox⟩,uA,f,j⟩:=l;obtain⟨⟨aa,af,ag⟩,⟨ah,ai,ak⟩,⟨au,av,ax⟩,qP,k,L⟩:=r;unfold aW.cells ae.val;simp only at i HB h1 h2 h3 h4 ⊢;obtain⟨w1,y⟩:∃x,x=(w.alloc (FL #[Z sa (N sx) sc,Z ca (N cx) cc,Z oa (N ox) oc,EP uA,I Dc (f:Int),I Dc (j:Int)] 74)).alloc (FL #[Z aa (N ag) af,Z ah (N ak) ai,Z au (N ax) av,EP qP,I Dc (k:Int),I Dc (L:Int)] 74):=⟨_,rfl⟩;have g:Bw w w1:=by rw[y];exact aj (bJ _ _) (bJ _ _)
 have gl:GB w1 (M (H w)) 74 #[Z sa (N sx) sc,Z ca (N cx) cc,Z oa (N ox) oc,EP uA,I Dc (f:Int),I Dc (j:Int)]:=by rw[y];show _=_;rw[QS (by simp),iX]
 have gr:GB w1 (M (H w)+1) 74 #[Z aa (N ag) af,Z ah (N ak) ai,Z au (N ax) av,EP qP,I Dc (k:Int),I Dc (L:Int)]:=by rw[y];show _=_;have:=iX (w.alloc (FL #[Z sa (N sx) sc,Z ca (N cx) cc,Z oa (N ox) oc,EP uA,I Dc (f:Int),I Dc (j:Int)] 74)) (FL #[Z aa (N ag) af,Z ah (N ak) ai,Z au (N ax) av,EP qP,I Dc (k:Int),I Dc (L:Int)] 74);rw[Xm]at this;exact this
 have l4:=gl.at 4;have l5:=gl.at 5;have r4:=gr.at 4;have r5:=gr.at 5;have uE:=y.symm;have G:=uH j L;have P:=uH f s;have ay:=lU 2 k;have az:=lU f k;have aA:=uH (bG f s) k;have aB:=uH (bG f s) (aQ 2 k);have Q:=lU 2 f;have R:=lU f (gW f+1);have aC:(2:Nat)<=aU:=by unfold aU;omega
 have aF:(1:Nat)<=aU:=by unfold aU;omega
 clear gl gr y;go_enter Tryz.func72,Tryz.ntmps72;go_wp2_with fail;refine(m j L h2 h4 w1).mono ?_;rintro e w2 ⟨rfl,rfl⟩;clear uE;go_wp2_with fail;refine(m f s h1 hs w2).mono ?_;rintro e w3 ⟨rfl,rfl⟩;by_cases k1:kind=1
 .subst k1;go_wp2_with fail;refine(m s 1 hs aF w3).mono ?_;rintro e K ⟨rfl,rfl⟩;go_wp2;go_ret;exact⟨iU (by rw[i.out];rfl),g⟩
 by_cases k3:kind=3
 .subst k3;go_wp2_with fail;refine(n f k h1 h3 w3).mono ?_;rintro e K ⟨rfl,rfl⟩;go_wp2_with fail;refine(m (bG j L) (aQ f k) G az K).mono ?_;rintro e w5 ⟨rfl,rfl⟩;go_wp2;go_ret;exact⟨iU (by rw[i.out];rfl),g⟩
 by_cases k4:kind=4
 .subst k4;go_wp2_with fail;refine(n 2 k aC h3 w3).mono ?_;rintro e K ⟨rfl,rfl⟩;go_wp2_with fail;refine(m (bG f s) (aQ 2 k) P ay K).mono ?_;rintro e w5 ⟨rfl,rfl⟩;go_wp2_with fail;refine(m (bG j L) (bG (bG f s) (aQ 2 k)) G aB w5).mono ?_;rintro e w6 ⟨rfl,rfl⟩;go_wp2;go_ret;exact⟨iU (by rw[i.out];rfl),g⟩
 by_cases k5:kind=5
 .subst k5;go_wp2_with fail;refine(m (bG f s) k P h3 w3).mono ?_;rintro e K ⟨rfl,rfl⟩;go_wp2_with fail;refine(m (bG j L) (bG (bG f s) k) G aA K).mono ?_;rintro e w5 ⟨rfl,rfl⟩;go_wp2;go_ret;exact⟨iU (by rw[i.out];rfl),g⟩
 have S:(kind==1)=false:=by simp[k1]
 have Uz:(kind==3)=false:=by simp[k3]
 have W:(kind==4)=false:=by simp[k4]
 have X:(kind==5)=false:=by simp[k5]
 rw[QC k1,QC k3,QC k4,QC k5]at i;clear G P ay az aA aB;by_cases k6:kind=6∨kind=10
 .rw[Qu k6]at i;have p:Wl (∀(a b:Nat),a<=aU->b<=aU->∀x,Cb 135 #[I Dc a,I Dc b] x (I Dc (bG a b:Nat))):=λa b A C x=>(m a b A C x).mono (λ_ _ h=>⟨h.1,by rw[h.2];exact Qr _ _⟩)
  have q:Wl (∀(a b:Nat),a<=aU->b<=aU->∀x,Cb 133 #[I Dc a,I Dc b] x (I Dc (aQ a b:Nat))):=λa b A C x=>(n a b A C x).mono (λ_ _ h=>⟨h.1,by rw[h.2];exact Qr _ _⟩);have aD:=aff f h1 w3;have aI:=HB.out;obtain⟨u,v⟩:=aV (q.out f (gW f+1) h1 (by unfold aU;omega)) (p.out j (aQ f (gW f+1)) h2 R);clear m n p q Q R HB;obtain⟨B,hB⟩:=eY (gW f+1);rw[<-hB]at i u v;generalize gW f=b at*;have aG:((b:Int))+1=(B:Int):=by omega
  have aJ:IntKind.u64.wrap (B:Int)=B:=by rw[IntKind.wrap_u64];omega
  clear hB;rcases k6 with k6|k6
  .subst k6;clear k1 k3 k4 k5 S Uz W X;go_wp2_with fail;refine aD.mono ?_;rintro e K ⟨rfl,rfl⟩;go_wp2;refine Qw ?_;refine qA6 ?_;go_big_quiet_want;refine⟨I Dc (aQ f B:Nat),λx D=>?_,?_⟩
   .have hC:=Qx D (u.out x);go_simp
   simp only[pU];go_big_quiet_on;go_big_quiet_want;refine⟨I Dc (bG j (aQ f B):Nat),λx D=>?_,?_⟩
   .have hC:=Qx D (v.out x);go_simp
   simp only[pU];go_big_quiet_on;refine lQ ?_;refine XH ?_;intro w5 z;have t:=aj g z;go_wp2;go_ret;exact⟨iU (by rw[i.out]),t⟩
  .subst k6;clear k1 k3 k4 k5 S Uz W X;go_wp2_with fail;refine aD.mono ?_;rintro e K ⟨rfl,rfl⟩;go_wp2;refine Qw ?_;refine qA6 ?_;go_big_quiet_want;refine⟨I Dc (aQ f B:Nat),λx D=>?_,?_⟩
   .have hC:=Qx D (u.out x);go_simp
   simp only[pU];go_big_quiet_on;go_big_quiet_want;refine⟨I Dc (bG j (aQ f B):Nat),λx D=>?_,?_⟩
   .have hC:=Qx D (v.out x);go_simp
   simp only[pU];go_big_quiet_on;refine lQ ?_;refine XH ?_;intro w5 z;have t:=aj g z;go_wp2;go_ret;exact⟨iU (by rw[i.out]),t⟩
 have JX:(kind==6)=false:=by simp;omega
 have aH:(kind==10)=false:=by simp;omega
 rw[QC k6]at i;by_cases k7:kind=7
 .subst k7;have p:Wl (∀(a b:Nat),a<=aU->b<=aU->∀x,Cb 135 #[I Dc a,I Dc b] x (I Dc (bG a b:Nat))):=λa b A C x=>(m a b A C x).mono (λ_ _ h=>⟨h.1,by rw[h.2];exact Qr _ _⟩)
  have q:Wl (∀(a b:Nat),a<=aU->b<=aU->∀x,Cb 133 #[I Dc a,I Dc b] x (I Dc (aQ a b:Nat))):=λa b A C x=>(n a b A C x).mono (λ_ _ h=>⟨h.1,by rw[h.2];exact Qr _ _⟩);have u:Wl (∀x,Cb 133 #[I Dc 2,I Dc f] x (I Dc (aQ 2 f:Nat))):=q.out 2 f aC h1;have v:=Zh (p.out j (aQ 2 f) h2 Q);clear m n p q Q R HB k1 k3 k4 k5 k6 S Uz W X JX aH;go_wp2;refine Qw ?_;refine qA4 ?_;go_big_quiet_want;refine⟨I Dc (aQ 2 f:Nat),λx D=>?_,?_⟩
  .have hC:=Qx D (u.out x);go_simp
  simp only[pU];go_big_quiet_on;go_big_quiet_want;refine⟨I Dc (bG j (aQ 2 f):Nat),λx D=>?_,?_⟩
  .have hC:=Qx D (v.out x);go_simp
  simp only[pU];go_big_quiet_on;refine lQ ?_;refine XH ?_;intro w5 z;have t:=aj g z;go_wp2;go_ret;exact⟨iU (by rw[i.out];rfl),t⟩
 have aK:(kind==7)=false:=by simp[k7]
 rw[QC k7]at i;go_wp2_with fail;refine(m j f h2 h1 w3).mono ?_;rintro e K ⟨rfl,rfl⟩;go_wp2;go_ret;exact⟨iU (by rw[i.out]),g⟩
theorem OH{x y x' y':Int}{b b':Bool}(h:(x,y,b)=(x',y',b')):Ending.returned (Ph #[I J x,I J y,EP b])=FR (Ph #[I J x',I J y',EP b']):=by grind
theorem adb(ao aa ba:Option Addr)(cap anY anZ:Nat)(ts:List ag)(q:af)(k:Nat)(A B:List Int)(w:U)(hx:aN w ao ts)(hc:dL ts=T)(hq:q.At w)(h5:N q.src.xs<=5)(ha:aM q.src.xs (N ts)=T)(hk:k<N q.wh)
  (fJ:∀c∈aG (E q.wh k lz).cs,0<=c/\c<ak ts q.src.xs) (hA:aA w aa A) (hB:aA w ba B) :
  Calls V 138 #[Z ao (N ts) cap,FN q.cells,I J k,Z aa (N A) anY,Z ba (N B) anZ] w λe w'=>
   e=FR (Ph #[I J (eG ts q.src.xs (E q.wh k lz).cs A B).1,I J (eG ts q.src.xs (E q.wh k lz).cs A B).2.1,EP (eG ts q.src.xs (E q.wh k lz).cs A B).2.2])/\Bw w w':=by
 have uD:Wl (∀c∈aG (E q.wh k lz).cs,∀x,Bw w x->Cb 82 #[Z ao (N ts) cap,FN q.cells,I J c] x (I J (au ts q.src.xs c:Nat))):=λc hm x hb=>
  rW ao cap ts q c x (hx.below hb) hc (Qt hb hq.src) h5 ha (fJ c hm).1 (fJ c hm).2
 have ax:=hq.wh.1;obtain⟨wb,wo,Ve,K⟩:=Qf hq.wh.2.1 hk;have n:=K k hk;have i:=hq.wh.2.2 k hk;clear K hq fJ hc ha hx;have HA:Wl _:=hA;have HB:Wl _:=hB;clear hA hB;obtain⟨w1,t⟩:∃x,x=w.alloc (FL q.cells 26):=⟨_,rfl⟩;have d:Bw w w1:=by rw[t];exact bJ _ _
 have fV:GB w1 (M (H w)) 26 q.cells:=by rw[t];exact iX _ _
 obtain⟨⟨ni,dV,xs⟩,dx,aP,wh,j,⟨nU,eQ,dU⟩,⟨F4,qZ,JV⟩,⟨zZ,mW,tJ⟩,⟨JW,sQ,Hf⟩⟩:=q;unfold af.cells ae.val at*;simp only at*;subst Ve;generalize E wh k lz=cl at*;obtain⟨ca,cc,cs⟩:=cl;unfold az.val at n;simp only at n i uD ⊢;have b:Wl (eG ts xs cs A B=if (N cs)≠1∨(E cs 0 cz).not=T∨(E cs 0 cz).const=T∨(E cs 0 cz).op≠0 then (0,0,F)
  else if (au ts xs (E cs 0 cz).left:Int)∈A/\(au ts xs (E cs 0 cz).right:Int)∈B then ((E cs 0 cz).left,(E cs 0 cz).right,T)
  else ((E cs 0 cz).right,(E cs 0 cz).left,decide ((au ts xs (E cs 0 cz).right:Int)∈A)&&decide ((au ts xs (E cs 0 cz).left:Int)∈B))):=rfl
 generalize eG ts xs cs A B=SI at*;obtain⟨q0,q1,q2,q3,q4,q5,q6⟩:=fV.k7;have uE:=t.symm;have ah:=cB d n;clear t fV n;have ai:=i.1;by_cases l:N cs=1
 .obtain⟨cb,co,rfl,c0,c1,c2,c3,c4⟩:=i.2 0 (by omega);obtain⟨d0,d1,d2,d3,d4⟩:=ji d c0 c1 c2 c3 c4;have pE:Wl (aG cs=aL (E cs 0 cz)):=by
   show _=_
   match cs,l with
   |[c],_=>simp[aG]
  clear c0 c1 c2 c3 c4 i;generalize E cs 0 cz=c at*;obtain⟨av,op,left,y,right⟩:=c;simp only[XI,Zp]at d0 d1 d2 d3 d4 pE b;have D:=uD.o;rw[pE.o]at D;unfold aL at D;simp only at D;have u:=Zh D;clear D uD pE ai;rw[l]at ah
  cases av with
  |true =>
   rw[Qu (.inr (.inl rfl))]at b;go_enter Tryz.func138,Tryz.ntmps138;go_wp2;go_ret3;exact⟨OH (by rw[b.o]),d⟩
  |false =>
   cases y with
   |true =>
    rw[Qu (.inr (.inr (.inl rfl)))]at b;go_enter Tryz.func138,Tryz.ntmps138;go_wp2;go_ret3;exact⟨OH (by rw[b.o]),d⟩
   |false =>
    by_cases o0:op=0
    .subst o0;rw[QC (by grind)]at b;obtain⟨L,P⟩:=aV (u.o left (by rw[Qu ⟨by omega,rfl⟩];simp)) (u.o right (by rw[Qu ⟨by omega,rfl⟩];simp));clear u;generalize au ts xs left=X at*;generalize au ts xs right=Yq at*;go_enter Tryz.func138,Tryz.ntmps138;go_wp2;refine Qw ?_;refine lQ ?_;go_big_quiet_want;refine⟨FN #[Z ni (N xs) dV,Z (O (aD wb wo)) (N wh) aP,EP j,Z nU (N dU) eQ,Z F4 (N JV) qZ,Z zZ (N tJ) mW,Z JW (N Hf) sQ],λx hx=>?_,?_⟩
     .have e0:=cB (hx) q0;have e1:=cB (hx) q1;have e2:=cB (hx) q2;have e3:=cB (hx) q3;have e4:=cB (hx) q4;have e5:=cB (hx) q5;have e6:=cB (hx) q6;go_simp
     simp only[pU];go_big_quiet_on;refine qA3 ?_;go_big_quiet_want;refine⟨I J left,λx hx=>?_,?_⟩
     .have e0:=cB (hx) d2;go_simp
     simp only[pU];go_big_quiet_on;go_big_quiet_want;refine⟨I J X,λx hx=>?_,?_⟩
     .have hC:=Qx hx (L.o x (aj d hx));go_simp
     simp only[pU];go_big_quiet_on;refine lQ ?_;refine XH ?_;intro w2 a;have k2:=aj d a;go_wp2;refine Qw ?_;refine lQ ?_;go_big_quiet_want;refine⟨FN #[Z ni (N xs) dV,Z (O (aD wb wo)) (N wh) aP,EP j,Z nU (N dU) eQ,Z F4 (N JV) qZ,Z zZ (N tJ) mW,Z JW (N Hf) sQ],λx hx=>?_,?_⟩
     .have e0:=cB (aj a hx) q0;have e1:=cB (aj a hx) q1;have e2:=cB (aj a hx) q2;have e3:=cB (aj a hx) q3;have e4:=cB (aj a hx) q4;have e5:=cB (aj a hx) q5;have e6:=cB (aj a hx) q6;go_simp
     simp only[pU];go_big_quiet_on;refine qA3 ?_;go_big_quiet_want;refine⟨I J right,λx hx=>?_,?_⟩
     .have e0:=cB (aj a hx) d4;go_simp
     simp only[pU];go_big_quiet_on;go_big_quiet_want;refine⟨I J Yq,λx hx=>?_,?_⟩
     .have hC:=Qx hx (P.o x (aj k2 hx));go_simp
     simp only[pU];go_big_quiet_on;refine lQ ?_;refine XH ?_;intro w3 z;have Uz:=aj a z;have k3:=aj k2 z;clear a z k2 L P;obtain⟨ay,aB⟩:=gy Uz d2 d4;have FJ:=oD aa anY A (X:Int) w3 (Qt k3 HA.o);have G:=oD ba anZ B (Yq:Int) w3 (Qt k3 HB.o);have f:=oD aa anY A (Yq:Int) w3 (Qt k3 HA.o);have g:=oD ba anZ B (X:Int) w3 (Qt k3 HB.o);go_wp2_with fail;refine FJ.mono ?_;rintro e w4 ⟨rfl,rfl⟩;clear FJ;go_wp2_with fail;refine G.mono ?_;rintro e w5 ⟨rfl,rfl⟩;clear G;by_cases m:(X:Int)∈A/\(Yq:Int)∈B
     .rw[Qu m]at b;rw[QD m.1,QD m.2];clear f g;go_wp2;go_quiet (fail);go_wp2;go_ret3;exact⟨OH (by rw[b.o]),Qy k3 _⟩
     .rw[QC m]at b;obtain⟨C,Q⟩:∃p,p=decide ((X:Int)∈A):=⟨_,rfl⟩
      obtain⟨R,r⟩:∃p,p=decide ((Yq:Int)∈B):=⟨_,rfl⟩;have v:(C&&R)=false:=by grind
      rw[<-Q,<-r];clear Q r m;obtain⟨p3,S⟩:∃p,p=decide ((Yq:Int)∈A):=⟨_,rfl⟩;obtain⟨p4,W⟩:∃p,p=decide ((X:Int)∈B):=⟨_,rfl⟩;rw[<-S]at f b;rw[<-W]at g b;clear S W;have fin:∀(C R:Bool),(C&&R)=F->C=T->R=false:=λC R h e=>by rw[e]at h;simpa using h
      cases C with
      |false =>
       clear v fin;go_wp2_with fail;refine f.mono ?_;rintro e w6 ⟨rfl,rfl⟩;clear f;go_wp2_with fail;refine g.mono ?_;rintro e w7 ⟨rfl,rfl⟩;clear g
       cases p3 with
       |false =>
        go_wp2;go_quiet (fail);go_wp2;go_ret3;exact⟨OH (by rw[b.o];rfl),Qy k3 _⟩
       |true =>
        go_wp2;go_quiet (fail);go_wp2;go_ret3;exact⟨OH (by rw[b.o];rfl),Qy k3 _⟩
      |true =>
       have r:=fin _ _ v rfl;subst r;clear v fin;go_wp2_with fail;refine f.mono ?_;rintro e w6 ⟨rfl,rfl⟩;clear f;go_wp2_with fail;refine g.mono ?_;rintro e w7 ⟨rfl,rfl⟩;clear g
       cases p3 with
       |false =>
        go_wp2;go_quiet (fail);go_wp2;go_ret3;exact⟨OH (by rw[b.o];rfl),Qy k3 _⟩
       |true =>
        go_wp2;go_quiet (fail);go_wp2;go_ret3;exact⟨OH (by rw[b.o];rfl),Qy k3 _⟩
    .have b0:(op != 0)=true:=by simp[o0]
     rw[Qu (.inr (.inr (.inr o0)))]at b;go_enter Tryz.func138,Tryz.ntmps138;go_wp2;go_ret3;exact⟨OH (by rw[b.o]),d⟩
 .rw[Qu (.inl l)]at b;have b1:((N cs:Int) != 1)=true:=by simp;omega
  clear i uD;generalize N cs=cn at*;go_enter Tryz.func138,Tryz.ntmps138;go_wp2;go_ret3;exact⟨OH (by rw[b.o]),d⟩
theorem an0(k:Int):1<=arity k↔k≠1:=by
 unfold arity;split
 .omega
 .split <;> omega
theorem ag8(k:Int):2<=arity k↔3<=k/\k<=5:=by
 unfold arity;split
 .omega
 .split <;> omega
def akc(n:ai):cZ n=decide ((n.kind≠1∨n.l=0)/\((3<=n.kind/\n.kind<=5)∨n.r=0)/\(n.kind=1∨n.source=0)/\(n.kind=4∨n.kind=5∨n.key=0)/\
  (n.kind=2∨3<=n.kind/\n.kind<=5∨N n.cl.xs=0)/\(n.kind=6↔(N n.co.xs)≠0)):=by unfold cZ;simp only[an0,ag8]
theorem zero_or{P:Prop}(x:Int)(bad:x≠0->(x==0)=F->(x != 0)=T->P)(good:x=0->(x==0)=T->(x != 0)=F->P):P:=by grind
theorem ade(n:ai)(w:U):Cb 70 #[FN n.cells] w (EP (cZ n)):=by
 have f:Wl _:=akc n;obtain⟨P,i⟩:=eY (cZ n);rw[<-i]at f ⊢;clear i;obtain⟨d,l,r,e,⟨z,A,q⟩,key,⟨B,C,t⟩⟩:=n;unfold ai.cells ae.val;simp only at f ⊢;generalize N q=a at*;generalize N t=b at*;by_cases j:d=1;subst j;refine zero_or l ?_ ?_
 rotate_left
 intro _ _ _;refine zero_or r ?_ ?_
 rotate_left
 intro _ _ _;refine zero_or key ?_ ?_
 rotate_left
 intro _ _ _;refine zero_or (a:Int) ?_ ?_
 rotate_left
 intro _ _ _;refine zero_or (b:Int) ?_ ?_
 rotate_left
 intro _ _ _
 rotate_left
 have k:(d==1)=false:=by simp[j]
 by_cases k2:d=2;subst k2;refine zero_or e ?_ ?_
 rotate_left
 intro _ _ _;refine zero_or r ?_ ?_
 rotate_left
 intro _ _ _;refine zero_or key ?_ ?_
 rotate_left
 intro _ _ _;refine zero_or (b:Int) ?_ ?_
 rotate_left
 intro _ _ _;refine zero_or (a:Int) ?_ ?_
 rotate_left
 intro _ _ _
 rotate_left
 by_cases k3:d=3;subst k3;refine zero_or e ?_ ?_
 rotate_left
 intro _ _ _;refine zero_or key ?_ ?_
 rotate_left
 intro _ _ _;refine zero_or (b:Int) ?_ ?_
 rotate_left
 intro _ _ _;refine zero_or (a:Int) ?_ ?_
 rotate_left
 intro _ _ _
 rotate_left
 by_cases k4:d=4;subst k4;refine zero_or e ?_ ?_
 rotate_left
 intro _ _ _;refine zero_or (b:Int) ?_ ?_
 rotate_left
 intro _ _ _;refine zero_or (a:Int) ?_ ?_
 rotate_left
 intro _ _ _
 rotate_left
 by_cases k5:d=5;subst k5;refine zero_or e ?_ ?_
 rotate_left
 intro _ _ _;refine zero_or (b:Int) ?_ ?_
 rotate_left
 intro _ _ _;refine zero_or (a:Int) ?_ ?_
 rotate_left
 intro _ _ _
 rotate_left
 by_cases k6:d=6;subst k6;refine zero_or e ?_ ?_
 rotate_left
 intro _ _ _;refine zero_or r ?_ ?_
 rotate_left
 intro _ _ _;refine zero_or key ?_ ?_
 rotate_left
 intro _ _ _;refine zero_or (b:Int) ?_ ?_;intro _ _ _;refine zero_or (a:Int) ?_ ?_
 rotate_left 3
 have m:(d==2)=false:=by simp[k2]
 have v:(d==3)=false:=by simp[k3]
 have y:(d != 6)=true:=by simp[k6]
 by_cases u:d<3;have g:¬3<=d:=by omega
 refine zero_or e ?_ ?_
 rotate_left
 intro _ _ _;refine zero_or r ?_ ?_
 rotate_left
 intro _ _ _;refine zero_or key ?_ ?_
 rotate_left
 intro _ _ _;refine zero_or (b:Int) ?_ ?_
 rotate_left
 intro _ _ _;refine zero_or (a:Int) ?_ ?_
 rotate_left
 intro _ _ _
 rotate_left
 have g:3<=d:=by omega
 have p:¬d<=5:=by omega
 refine zero_or e ?_ ?_
 rotate_left
 intro _ _ _;refine zero_or r ?_ ?_
 rotate_left
 intro _ _ _;refine zero_or key ?_ ?_
 rotate_left
 intro _ _ _;refine zero_or (b:Int) ?_ ?_
 rotate_left
 intro _ _ _;refine zero_or (a:Int) ?_ ?_
 rotate_left
 intro _ _ _
 rotate_left
 all_goals
  intros
  go_enter Tryz.func70,Tryz.ntmps70;go_wp2;go_ret;exact⟨Qd (by rw[f.o];symm;first|exact QD (by omega)|exact QX (by omega)|exact QD (by simp <;> omega)|grind),(Qr _ _).alloc (Qs _) _⟩
def Jl:=@zero_or
structure ag9(w:U)(b:Nat)(ao:Option Addr)(cap:Nat)(ts:List ag)(q:af):Prop where
 c0:Am w (aD b 0)=O (Z ao (N ts) cap)
 c1:Am w (aD b 1)=O q.src.val
 c2:Am w (aD b 2)=O (Z q.dx (N q.wh) q.aP)
 c3:Am w (aD b 3)=O (EP q.group)
 c4:Am w (aD b 4)=O q.keys.val
 c5:Am w (aD b 5)=O q.sums.val
 c6:Am w (aD b 6)=O q.aH.val
 c7:Am w (aD b 7)=O q.ord.val
def I8(ts:List ag)(q:af)(l sources:List Int)(i:Nat):Bool:=decide (0<=E l i 0)&&decide (E l i 0<N q.wh)&&(decide (i=0) ||decide (E l (i-1) 0<E l i 0))&&lV ts q.src.xs (E q.wh (E l i 0).toNat lz).cs sources
def FX(hi:i<n)(h:p i=F):F=(List.range n).all p:=by symm;rw[X5];exact⟨i,Zk.2 hi,by rw[h];simp⟩
def I9(h:∀i,i<n->p i=T):T=(List.range n).all p:=by symm;rw[Qn];exact λi a=>h i (Zk.1 a)
def WU(b:Nat)(ao lo so:Option Addr)(cap atg E9:Nat)(ts:List ag)(q:af)(l ss:List Int)(w:U)(ht:ag9 w b ao cap ts q)(hx:aN w ao ts)(hk:Chk ts q)(hq:q.At w)(hll:aA w lo l)(hss:aA w so ss) :
  Cb 75 #[Y (O (aD b 0)),Z lo (N l) atg,Z so (N ss) E9] w (EP (dF ts q l ss)):=by
 have A:Wl (∀k:Nat,k<N q.wh->∀x,Bw w x->Cb 137 #[Z ao (N ts) cap,FN q.cells,I J k,Z so (N ss) E9] x (EP (lV ts q.src.xs (E q.wh k lz).cs ss))):=λk y x hb=>
  Wy ao so cap E9 ts q k ss x (hx.below hb) hk.cat (hq.below hb) hk.five hk.src y (hk.cols k y) (hk.three k y) (Qt hb hss)
 have B:Wl (dF ts q l ss=(List.range (N l)).all (I8 ts q l ss)):=rfl;have P:Wl (∀i,I8 ts q l ss i=(decide (0<=E l i 0)&&decide (E l i 0<N q.wh)&&(decide (i=0) ||decide (E l (i-1) 0<E l i 0))&&lV ts q.src.xs (E q.wh (E l i 0).toNat lz).cs ss)):=λ_=>rfl;generalize I8 ts q l ss=LA at*;generalize dF ts q l ss=LB at*;have au:=hq.wh.1;have av:=hll.1;have Q:Wl _:=hll;obtain⟨t0,t1,t2,t3,t4,t5,t6,t7⟩:=ht;obtain⟨⟨ni,dV,xs⟩,dx,aP,r,u,⟨nU,eQ,dU⟩,⟨F4,qZ,JV⟩,⟨zZ,mW,tJ⟩,⟨JW,sQ,Hf⟩⟩:=q;unfold af.cells ae.val at*;simp only at*;go_enter Tryz.func75,Tryz.ntmps75;go_wp2;go_loopw [7] (λiv wr=>∃i:Nat,i<=N l/\iv=I J i/\Wl (∀j,j<i->LA j=T)/\Bw w wr) (λiv _=>N l-(intOf iv).toNat)
 case atStart=>exact⟨0,Q4 _,rfl,λj L=>absurd L (by omega),Qr _ _⟩
 case round=>
  obtain⟨i,hi,rfl,HA,p⟩:=hrel;by_cases z:i<N l
  .obtain⟨lb,ah,rfl,K⟩:=Qg Q.o z;obtain⟨d,u2⟩:=gy p (K i z) t2;have g:=P.o i;have n:Wl (LA i=F->LB=F):=λe=>by rw[B.o];exact(FX z e).symm
   by_cases n0:E l i 0<0
   .have C:LA i=false:=by rw[g,QX (by omega)];rfl
    have D:=Zh (n.o C);generalize E l i 0=x at*;go_wp2;go_quiet (fail);go_wp2;go_ret;exact⟨Qd D.o.symm,Qy p _⟩
   by_cases n1:(N r:Int)<=E l i 0
   .have C:LA i=false:=by rw[g,QX (show ¬E l i 0<N r by omega),XZ];rfl
    have D:=Zh (n.o C);generalize E l i 0=x at*;go_wp2;refine Qw ?_;refine lQ ?_;refine qS (I J i) ?_;refine lQ ?_;refine qC (I J x) d ?_;refine qS (EP F) ?_;refine qS (EP F) ?_;refine lQ ?_;refine qS (I J i) ?_;refine lQ ?_;refine qC (I J x) d ?_;refine qA5 ?_;refine qS (I J (N r)) ?_;refine qS (EP T) ?_;refine qS (EP T) ?_;go_big_quiet_want;refine⟨EP T,λx hx=>?_,?_⟩
    .go_simp
    simp only[pU];go_big_quiet_on;go_big_quiet_skip;try simp only[pU]
    iterate 13 (go_big_quiet_skip;try simp only[pU])
    refine lQ ?_;refine XH ?_;intro wz f;have v:=aj p f;go_wp2;go_ret;exact⟨Qd D.o.symm,v⟩
   have R:∀m:Nat,i=m+1->Am wr (aD lb (ah+m))=O (I J (E l m 0)):=λm hm=>cB p (K m (by omega));obtain⟨k,hk⟩:∃k:Nat,E l i 0=(k:Int):=⟨(E l i 0).toNat,by omega⟩;rw[hk]at g d n0 n1;rw[Xu]at g;rw[QD (show (0:Int)<=(k:Int) by omega),QD (show (k:Int)<N r by omega)]at g;have nJ:k<N r:=by omega
   have ax:Wl (∀e:Bool,LA i=e->True):=λ_ _=>trivial;by_cases i0:i=0
   .subst i0;rw[Zp]at d;rw[QD rfl]at g;have t:Wl (LA 0=lV ts xs (E r k lz).cs ss):=by show _=_;rw[g];rfl
    have S:=Zh (A.o k (by omega));generalize lV ts xs (E r k lz).cs ss=wv at*;go_wp2;refine Qw ?_;refine lQ ?_;refine qS (I J 0) ?_;refine lQ ?_;refine qC (I J k) d ?_;refine qS (EP F) ?_;refine qS (EP F) ?_;refine lQ ?_;refine qS (I J 0) ?_;refine lQ ?_;refine qC (I J k) d ?_;refine qA5 ?_;refine qS (I J (N r)) ?_;refine qS (EP F) ?_;refine qS (EP F) ?_;refine qS (EP F) ?_;refine qS (I J 0) ?_;refine qS (EP F) ?_;go_big_quiet_want;refine⟨EP F,λx hx=>?_,?_⟩
    .go_simp
    simp only[pU];go_big_quiet_on;go_big_quiet_skip;try simp only[pU]
    iterate 9 (go_big_quiet_skip;try simp only[pU])
    refine Gw ?_;refine XH ?_;intro wy f;have a:=aj p f;have W:=cB f d;go_wp2;refine Qw ?_;refine qA3 ?_;go_big_quiet_want;refine⟨Z ao (N ts) cap,λx hx=>?_,?_⟩
    .have e0:=cB (aj a hx) t0;go_simp
    simp only[pU];go_big_quiet_on;refine qA3 ?_;go_big_quiet_want;refine⟨FN #[Z ni (N xs) dV,Z dx (N r) aP,EP u,Z nU (N dU) eQ,Z F4 (N JV) qZ,Z zZ (N tJ) mW,Z JW (N Hf) sQ],λx hx=>?_,?_⟩
    .have e1:=cB (aj a hx) t1;have e2:=cB (aj a hx) t2;have e3:=cB (aj a hx) t3;have e4:=cB (aj a hx) t4;have e5:=cB (aj a hx) t5;have e6:=cB (aj a hx) t6;have e7:=cB (aj a hx) t7;go_simp
    simp only[pU];go_big_quiet_on;refine qA5 ?_;go_big_quiet_want;refine⟨EP wv,λx hx=>?_,?_⟩
    .have hC:=Qx hx (S.o x (aj a hx));go_simp
    simp only[pU];go_big_quiet_on;refine lQ ?_;refine XH ?_;intro wz f;have v:=aj a f
    cases wv with
    |true =>
     go_wp2;go_roundw
     case rel=>exact⟨1,by omega,by go_num,λj L=>(show j=0 by omega) ▸ t.o,v⟩
     case measure=>simp[intOf];omega
    |false =>
     go_wp2;go_ret;exact⟨Qd (n.o t.o).symm,v⟩
   .obtain⟨m,rfl⟩:∃m,i=m+1:=⟨i-1,by omega⟩
    have G:=R m rfl;rw[QX i0,Bool.false_or,Nat.add_sub_cancel]at g;have ai:((m+1:Nat):Int)-1=(m:Int):=by omega
    have ak:¬(m:Int)+1<=0:=by omega
    have X:(0:Int)<(m:Int)+1:=by omega
    have uK:m<N l:=by omega
    have ay:(0:Int)<=(m:Int)+1:=by omega
    have az:IntKind.i64.wrap (m:Int)=m:=by rw[XG];omega
    by_cases n2:E l m 0<(k:Int)
    .rw[QD n2]at g;have t:Wl (LA (m+1)=lV ts xs (E r k lz).cs ss):=by show _=_;rw[g];rfl
     have S:=Zh (A.o k (by omega));have aa:¬(k:Int)<=E l m 0:=by omega
     generalize lV ts xs (E r k lz).cs ss=wv at*;generalize E l m 0=pv at*;go_wp2;refine Qw ?_;refine lQ ?_;refine qS (I J ((m:Int)+1)) ?_;refine lQ ?_;refine qC (I J k) d ?_;refine qS (EP F) ?_;refine qS (EP F) ?_;refine lQ ?_;refine qS (I J ((m:Int)+1)) ?_;refine lQ ?_;refine qC (I J k) d ?_;refine qA5 ?_;refine qS (I J (N r)) ?_;refine qS (EP F) ?_;refine qS (EP F) ?_;refine qS (EP F) ?_;refine qS (I J ((m:Int)+1)) ?_;refine qS (EP T) ?_;refine qS (EP T) ?_;refine lQ ?_;refine qS (I J ((m:Int)+1)) ?_;refine lQ ?_;refine qC (I J k) d ?_;refine lQ ?_;refine qS (I J ((m:Int)+1)) ?_;refine qS (I J m) ?_;refine lQ ?_;refine qC (I J pv) G ?_;refine qS (EP F) ?_;refine qS (EP F) ?_;refine qS (EP F) ?_;refine XH ?_;intro wy f;have a:=aj p f;have W:=cB f d;go_wp2;refine Qw ?_;refine qA3 ?_;go_big_quiet_want;refine⟨Z ao (N ts) cap,λx hx=>?_,?_⟩
     .have e0:=cB (aj a hx) t0;go_simp
     simp only[pU];go_big_quiet_on;refine qA3 ?_;go_big_quiet_want;refine⟨FN #[Z ni (N xs) dV,Z dx (N r) aP,EP u,Z nU (N dU) eQ,Z F4 (N JV) qZ,Z zZ (N tJ) mW,Z JW (N Hf) sQ],λx hx=>?_,?_⟩
     .have e1:=cB (aj a hx) t1;have e2:=cB (aj a hx) t2;have e3:=cB (aj a hx) t3;have e4:=cB (aj a hx) t4;have e5:=cB (aj a hx) t5;have e6:=cB (aj a hx) t6;have e7:=cB (aj a hx) t7;go_simp
     simp only[pU];go_big_quiet_on;refine qA5 ?_;go_big_quiet_want;refine⟨EP wv,λx hx=>?_,?_⟩
     .have hC:=Qx hx (S.o x (aj a hx));go_simp
     simp only[pU];go_big_quiet_on;refine lQ ?_;refine XH ?_;intro wz f;have v:=aj a f
     cases wv with
     |true =>
      go_wp2;go_roundw
      case rel=>exact⟨m+1+1,by omega,by go_num,λj L=>by
       by_cases e:j=m+1
       .rw[e];exact t.o
       .exact HA.o j (by omega),v⟩
      case measure=>simp[intOf];omega
     |false =>
      go_wp2;go_ret;exact⟨Qd (n.o t.o).symm,v⟩
    .have C:LA (m+1)=false:=by rw[g,QX n2,XZ,XF]
     have D:=Zh (n.o C);have aa:(k:Int)<=E l m 0:=by omega
     generalize E l m 0=pv at*;go_wp2;refine Qw ?_;refine lQ ?_;refine qS (I J ((m:Int)+1)) ?_;refine lQ ?_;refine qC (I J k) d ?_;refine qS (EP F) ?_;refine qS (EP F) ?_;refine lQ ?_;refine qS (I J ((m:Int)+1)) ?_;refine lQ ?_;refine qC (I J k) d ?_;refine qA5 ?_;refine qS (I J (N r)) ?_;refine qS (EP F) ?_;refine qS (EP F) ?_;refine qS (EP F) ?_;refine qS (I J ((m:Int)+1)) ?_;refine qS (EP T) ?_;refine qS (EP T) ?_;refine lQ ?_;refine qS (I J ((m:Int)+1)) ?_;refine lQ ?_;refine qC (I J k) d ?_;refine lQ ?_;refine qS (I J ((m:Int)+1)) ?_;refine qS (I J m) ?_;refine lQ ?_;refine qC (I J pv) G ?_;refine qS (EP T) ?_;refine qS (EP T) ?_;refine qS (EP T) ?_;refine XH ?_;intro wz f;have v:=aj p f;go_wp2;go_ret;exact⟨Qd D.o.symm,v⟩
  .have e:i=N l:=by omega
   have HT:Wl (LB=T):=by show _=_;rw[B.o];exact(I9 (λj L=>HA.o j (by omega))).symm
   go_wp2;go_ret;exact⟨Qd HT.o.symm,p⟩
def TH(w:U)(x:Int)(t:TypeId):aA (w.alloc (FL #[I J x] t)) (O (aD (M (H w)) 0)) [x]:=by
 refine⟨by simp,λi b=>⟨M (H w),0,rfl,?_⟩⟩;have a:i=0:=by simpa using b
 subst a;have g:GB (w.alloc (FL #[I J x] t)) (M (H w)) t #[I J x]:=iX _ _;exact g.cell 0
def TI(w:U)(a b c d:Array KX)(ta tb tc td:TypeId){w1:U}(h:w1=(((w.alloc (FL a ta)).alloc (FL b tb)).alloc (FL c tc)).alloc (FL d td)) :
  Bw w w1/\GB w1 (M (H w)) ta a/\GB w1 (M (H w)+1) tb b/\GB w1 (M (H w)+2) tc c/\GB w1 (M (H w)+3) td d/\M (H w1)=M (H w)+4:=by
 subst h;refine⟨aj (bJ _ _) (aj (bJ _ _) (aj (bJ _ _) (bJ _ _))),?_,?_,?_,?_,by simp⟩
 .show _=_
  rw[QS (by simp;omega),QS (by simp;omega),QS (by simp),iX]
 .show _=_
  have:=iX (w.alloc (FL a ta)) (FL b tb);rw[Xm]at this;rw[QS (by simp),QS (by simp),this]
 .show _=_
  have:=iX ((w.alloc (FL a ta)).alloc (FL b tb)) (FL c tc);rw[Xm,Xm]at this;rw[QS (by simp),this]
 .show _=_
  have:=iX (((w.alloc (FL a ta)).alloc (FL b tb)).alloc (FL c tc)) (FL d td);rw[Xm,Xm,Xm]at this;exact this
def ahb(b:Nat)(ao:Option Addr)(cap:Nat)(ts:List ag)(q:af)(n:ai)(l r:aW)(w:U)(ht:ag9 w b ao cap ts q)(hx:aN w ao ts)(hk:Chk ts q)(hq:q.At w)
  (hcl:n.cl.At w) (hco:n.co.At w) (hls:l.s.At w) (hlo:l.o.At w) (hrs:r.s.At w) (hro:r.o.At w) (hlc:N l.c.xs<=1000) (hkey:n.key∈n.cl.xs->0<=n.key/\n.key<N q.wh) :
  Cb 76 #[Y (O (aD b 0)),FN n.cells,FN l.cells,FN r.cells] w (EP (kP ts q n l.d r.d)):=by
 have Cr:Wl (∀k:Nat,k<N q.wh->∀x,Bw w x->Calls V 138 #[Z ao (N ts) cap,FN q.cells,I J k,Z l.s.ad (N l.s.xs) l.s.cap,Z r.s.ad (N r.s.xs) r.s.cap] x λe w'=>
   e=FR (Ph #[I J (eG ts q.src.xs (E q.wh k lz).cs l.s.xs r.s.xs).1,I J (eG ts q.src.xs (E q.wh k lz).cs l.s.xs r.s.xs).2.1,EP (eG ts q.src.xs (E q.wh k lz).cs l.s.xs r.s.xs).2.2])/\Bw x w'):=λk aZ x D=>
  adb ao l.s.ad r.s.ad cap l.s.cap r.s.cap ts q k l.s.xs r.s.xs x (hx.below D) hk.cat (hq.below D) hk.five hk.src aZ (hk.cols k aZ) (Qt D hls) (Qt D hrs)
 have uD:Wl (∀c,0<=c->c<ak ts q.src.xs->∀x,Bw w x->Cb 82 #[Z ao (N ts) cap,FN q.cells,I J c] x (I J (au ts q.src.xs c:Nat))):=λc h0 h1 x D=>
  rW ao cap ts q c x (hx.below D) hk.cat (Qt D hq.src) hk.five hk.src h0 h1
 have aS:Wl (∀x,Bw w x->Cb 38 #[Z ao (N ts) cap,FN q.cells,I J (N q.src.xs)] x (I J (ak ts q.src.xs))):=λx D=>
  DN ao cap ts q x (hx.below D) hk.cat (Qt D hq.src) hk.five hk.src
 have g:Wl (kP ts q n l.d r.d=if n.kind=2 then decide (0<N n.cl.xs)
  else if n.kind=4∨n.kind=5 then
   decide (n.key∈n.cl.xs)&&(eG ts q.src.xs (E q.wh n.key.toNat lz).cs l.s.xs r.s.xs).2.2 &&
    (decide (n.kind=4) ||(aY l.o.xs [(eG ts q.src.xs (E q.wh n.key.toNat lz).cs l.s.xs r.s.xs).1]&&aY r.o.xs [(eG ts q.src.xs (E q.wh n.key.toNat lz).cs l.s.xs r.s.xs).2.1]))
  else if n.kind=6 then aM n.co.xs (ak ts q.src.xs)&&dI n.co.xs&&n.co.xs.all λc=>decide ((au ts q.src.xs c:Int)∈l.s.xs)
  else if n.kind=7 then q.group&&(decide (N l.s.xs=N q.src.xs)&&decide (N l.c.xs=N q.wh))
  else if n.kind=8 then q.group&&(decide (N l.s.xs=N q.src.xs)&&decide (N l.c.xs=N q.wh))&&aY l.o.xs q.keys.xs
  else if n.kind=9 then !q.group&&(decide (N l.s.xs=N q.src.xs)&&decide (N l.c.xs=N q.wh))
  else if n.kind=10 then decide (0<N q.ord.xs)
  else T):=rfl
 obtain⟨KB,aV⟩:=eY (kP ts q n l.d r.d);rw[<-aV]at g ⊢;clear aV;have h5:=hk.five;have h8:=hk.eight;have aC:=hq.keys;have bH:=hq.ord.1;have bf:=Qp hk.cat hk.src (N q.src.xs) (Qs _);rw[Zb]at bf;obtain⟨t0,t1,t2,t3,t4,t5,t6,t7⟩:=ht;clear hx hk hq;obtain⟨m,nl,nr,aA,⟨Iy,Iz,qR⟩,key,⟨D7,D8,v⟩⟩:=n;obtain⟨⟨UD,UE,mF⟩,⟨WV,WW,qQ⟩,⟨Jz,aB,CX⟩,uA,WX,WY⟩:=l;obtain⟨⟨OI,OJ,nO⟩,⟨OM,bD,qU⟩,⟨ML,MM,JA⟩,qP,OO,OP⟩:=r;obtain⟨⟨ni,dV,xs⟩,dx,aP,wh,t,⟨nU,eQ,dU⟩,⟨F4,qZ,JV⟩,⟨zZ,mW,tJ⟩,⟨JW,sQ,Hf⟩⟩:=q;unfold af.cells ai.cells aW.cells ae.val ae.At at*;simp only at*;obtain⟨w1,aO⟩:∃x,x=(((w.alloc (FL #[I J m,I J nl,I J nr,I J aA,Z Iy (N qR) Iz,I J key,Z D7 (N v) D8] 50)).alloc (FL #[Z UD (N mF) UE,Z WV (N qQ) WW,Z Jz (N CX) aB,EP uA,I Dc (WX:Int),I Dc (WY:Int)] 74)).alloc (FL #[Z OI (N nO) OJ,Z OM (N qU) bD,Z ML (N JA) MM,EP qP,I Dc (OO:Int),I Dc (OP:Int)] 74)).alloc (FL #[Z ni (N xs) dV,Z dx (N wh) aP,EP t,Z nU (N dU) eQ,Z F4 (N JV) qZ,Z zZ (N tJ) mW,Z JW (N Hf) sQ] 26):=⟨_,rfl⟩;obtain⟨f,gN,gL,gR,gQ,bE⟩:=TI w _ _ _ _ _ _ _ _ aO;have uE:=aO.symm;have n0:=gN.at 0;have n4:=gN.at 4;have n5:=gN.at 5;have n6:=gN.at 6;obtain⟨l0,l1,l2⟩:=gL.k3;have r0:=gR.at 0;have r2:=gR.at 2;obtain⟨q0,q1,q2,q3,q4,q5,q6⟩:=gQ.k7;clear gN gL gR gQ aO bE;have T1:=λ(R X o3:Obj)=>cB (aj (bJ w R) (aj (bJ _ X) (bJ _ o3))) t1;have T2:=λ(R X o3:Obj)=>cB (aj (bJ w R) (aj (bJ _ X) (bJ _ o3))) t2;have T3:=λ(R X o3:Obj)=>cB (aj (bJ w R) (aj (bJ _ X) (bJ _ o3))) t3;have T4:=λ(R X o3:Obj)=>cB (aj (bJ w R) (aj (bJ _ X) (bJ _ o3))) t4;have T5:=λ(R X o3:Obj)=>cB (aj (bJ w R) (aj (bJ _ X) (bJ _ o3))) t5;have T6:=λ(R X o3:Obj)=>cB (aj (bJ w R) (aj (bJ _ X) (bJ _ o3))) t6;have T7:=λ(R X o3:Obj)=>cB (aj (bJ w R) (aj (bJ _ X) (bJ _ o3))) t7;have u0:=cB f t0;go_enter Tryz.func76,Tryz.ntmps76;go_upto_region 2 with fail;clear uE t1 t2 t3 t4 t5 t6 t7 T1 T2 T3 T4 T5 T6 T7;obtain⟨whole,C⟩:∃x,x=(decide (N mF=N xs)&&decide (N qQ=N wh)):=⟨_,rfl⟩;rw[<-C]at g;have Bh:=Zh C;clear C;have bI:=hls.1;go_cut [10] from 27 to 42 (λc wx=>c=EP whole/\w1=wx)
 case first=>
  by_cases hS:N mF=N xs
  .have bg:((N mF:Int)==N xs)=true:=by simp[hS]
   by_cases hC:N qQ=N wh
   .have bn:((N qQ:Int)==N wh)=true:=by simp[hC]
    go_wp2_with fail;go_meet;exact⟨by rw[Bh.o,QD hS,QD hC];rfl,rfl⟩
   .have bn:((N qQ:Int)==N wh)=false:=by simp;omega
    go_wp2_with fail;go_meet;exact⟨by rw[Bh.o,QD hS,QX hC];rfl,rfl⟩
  .have bg:((N mF:Int)==N xs)=false:=by simp;omega
   go_wp2_with fail;go_meet;exact⟨by rw[Bh.o,QX hS];rfl,rfl⟩
 case rest=>
 obtain⟨rfl,rfl⟩:=hcut;have kb:∀j:Int,m≠j->(m==j)=false:=λj h=>by simp[h]
 by_cases k2:m=2
 .subst k2;rw[Qu rfl]at g;by_cases ax:0<N qR
  .rw[QD ax]at g;go_wp2;go_ret;exact⟨Qd g.o.symm,f⟩
  .rw[QX ax]at g;go_wp2;go_ret;exact⟨Qd g.o.symm,f⟩
 rw[QC k2]at g;have bK:=kb 2 k2;by_cases aa:m=4∨m=5
 .rw[Qu aa]at g;have bL:(m==4)=decide (m=4):=by by_cases h:m=4 <;> simp[h]
  have FJ:=oD Iy Iz qR key w1 (Qt f hcl);have bG:∀(P:Prop),P->P:=λ_ h=>h;by_cases z:key∈qR
  .rw[QD z]at FJ g;obtain⟨kn,bF⟩:∃kn:Nat,key=(kn:Int):=⟨key.toNat,by have:=(hkey z).1;omega⟩
   have bq:kn<N wh:=by have:=(hkey z).2;omega
   subst bF;rw[Xu]at g;have aF:=Zh (Cr.o kn bq);generalize eG ts xs (E wh kn lz).cs mF nO=si at*;obtain⟨a,c,ok⟩:=si;simp only at aF g;have aT:Wl (∀x,Bw w1 x->Calls V 77 #[Z Jz (N CX) aB,Z (O (aD (M (H x)) 0)) 1 1] (x.alloc (FL #[I J a] 3)) λe w'=>e=FR (EP (aY CX [a]))/\Bw x w'):=λx D=>
    (vX Jz (O (aD (M (H x)) 0)) aB 1 CX [a] _ (Qt (aj f (aj D (bJ _ _))) hlo) (TH x a _)).mono (λ_ _ h=>⟨h.1,aj (bJ _ _) h.2⟩)
   have UA:Wl (∀x,Bw w1 x->Calls V 77 #[Z ML (N JA) MM,Z (O (aD (M (H x)) 0)) 1 1] (x.alloc (FL #[I J c] 3)) λe w'=>e=FR (EP (aY JA [c]))/\Bw x w'):=λx D=>
    (vX ML (O (aD (M (H x)) 0)) MM 1 JA [c] _ (Qt (aj f (aj D (bJ _ _))) hro) (TH x c _)).mono (λ_ _ h=>⟨h.1,aj (bJ _ _) h.2⟩)
   generalize aY CX [a]=sx at*;generalize aY JA [c]=sy at*;rcases aa with k4|k5
   .subst k4;go_wp2_with fail;refine FJ.mono ?_;rintro e w2 ⟨rfl,rfl⟩;go_wp2;refine Qw ?_;refine qA4 ?_;go_big_quiet_want;refine⟨FN #[Z ni (N xs) dV,Z dx (N wh) aP,EP t,Z nU (N dU) eQ,Z F4 (N JV) qZ,Z zZ (N tJ) mW,Z JW (N Hf) sQ],λx hx=>?_,?_⟩
    .have e0:=cB (hx) q0;have e1:=cB (hx) q1;have e2:=cB (hx) q2;have e3:=cB (hx) q3;have e4:=cB (hx) q4;have e5:=cB (hx) q5;have e6:=cB (hx) q6;go_simp
    simp only[pU];go_big_quiet_on;refine qA6 ?_;go_big_quiet_want;refine⟨Ph #[I J a,I J c,EP ok],λx hx=>?_,?_⟩
    .have hC:=Qx hx (aF.o x (aj f hx));go_simp
    simp only[pU];go_big_quiet_on;refine qA6 ?_;refine lQ ?_;refine XH ?_;intro w3 y;have bu:=cB y l2;have ah:=aT.o w3 y;go_wp2_with fail;refine(show Calls _ _ _ _ _ from ah).mono ?_;rintro e w4 ⟨rfl,Q⟩;have WZ:=aj y Q;have bz:=cB WZ r2;have aG:=UA.o w4 WZ;go_wp2_with fail;refine(show Calls _ _ _ _ _ from aG).mono ?_;rintro e w5 ⟨rfl,aQ⟩;have av:=aj WZ aQ;have bA:=cB av n0;have G:=aj f av
    cases ok with
    |false =>
     go_wp2;go_ret;exact⟨Qd (by rw[g.o];first|rfl|(cases sx <;> cases sy <;> rfl)|(cases sy <;> rfl)),G⟩
    |true =>
     cases sx with
     |false =>
      go_wp2;go_ret;exact⟨Qd (by rw[g.o];first|rfl|(cases sx <;> cases sy <;> rfl)|(cases sy <;> rfl)),G⟩
     |true =>
      go_wp2;go_ret;exact⟨Qd (by rw[g.o];first|rfl|(cases sx <;> cases sy <;> rfl)|(cases sy <;> rfl)),G⟩
   .subst k5;go_wp2_with fail;refine FJ.mono ?_;rintro e w2 ⟨rfl,rfl⟩;go_wp2;refine Qw ?_;refine qA4 ?_;go_big_quiet_want;refine⟨FN #[Z ni (N xs) dV,Z dx (N wh) aP,EP t,Z nU (N dU) eQ,Z F4 (N JV) qZ,Z zZ (N tJ) mW,Z JW (N Hf) sQ],λx hx=>?_,?_⟩
    .have e0:=cB (hx) q0;have e1:=cB (hx) q1;have e2:=cB (hx) q2;have e3:=cB (hx) q3;have e4:=cB (hx) q4;have e5:=cB (hx) q5;have e6:=cB (hx) q6;go_simp
    simp only[pU];go_big_quiet_on;refine qA6 ?_;go_big_quiet_want;refine⟨Ph #[I J a,I J c,EP ok],λx hx=>?_,?_⟩
    .have hC:=Qx hx (aF.o x (aj f hx));go_simp
    simp only[pU];go_big_quiet_on;refine qA6 ?_;refine lQ ?_;refine XH ?_;intro w3 y;have bu:=cB y l2;have ah:=aT.o w3 y;go_wp2_with fail;refine(show Calls _ _ _ _ _ from ah).mono ?_;rintro e w4 ⟨rfl,Q⟩;have WZ:=aj y Q;have bz:=cB WZ r2;have aG:=UA.o w4 WZ;go_wp2_with fail;refine(show Calls _ _ _ _ _ from aG).mono ?_;rintro e w5 ⟨rfl,aQ⟩;have av:=aj WZ aQ;have bA:=cB av n0;have G:=aj f av
    cases ok with
    |false =>
     go_wp2;go_ret;exact⟨Qd (by rw[g.o];first|rfl|(cases sx <;> cases sy <;> rfl)|(cases sy <;> rfl)),G⟩
    |true =>
     cases sx with
     |false =>
      go_wp2;go_ret;exact⟨Qd (by rw[g.o];first|rfl|(cases sx <;> cases sy <;> rfl)|(cases sy <;> rfl)),G⟩
     |true =>
      go_wp2;go_ret;exact⟨Qd (by rw[g.o];first|rfl|(cases sx <;> cases sy <;> rfl)|(cases sy <;> rfl)),G⟩
  .rw[QX z,XF,XF]at g;rw[QX z]at FJ;rcases aa with k4|k5
   .subst k4;go_wp2_with fail;refine FJ.mono ?_;rintro e w2 ⟨rfl,rfl⟩;go_wp2;go_ret;exact⟨Qd g.o.symm,f⟩
   .subst k5;go_wp2_with fail;refine FJ.mono ?_;rintro e w2 ⟨rfl,rfl⟩;go_wp2;go_ret;exact⟨Qd g.o.symm,f⟩
 rw[QC aa]at g;have aH:=kb 4 (λe=>aa (.inl e));have bM:=kb 5 (λe=>aa (.inr e));clear Cr hkey;by_cases k6:m=6
 .subst k6;rw[Qu rfl]at g;clear kb;have aI:Wl (∀x,Bw w x->Cb 66 #[Z D7 (N v) D8,I J (ak ts xs)] x (EP (aM v (ak ts xs)))):=λx D=>
   (vW D7 D8 v (ak ts xs) x (Qt D hco)).mono (λ_ _ h=>⟨h.1,by rw[h.2];exact Qr _ _⟩)
  have aJ:Wl (∀x,Bw w x->Cb 69 #[Z D7 (N v) D8] x (EP (dI v))):=λx D=>
   (DL D7 D8 v x (Qt D hco)).mono (λ_ _ h=>⟨h.1,by obtain⟨k,e⟩:=h.2;rw[e];exact Qy (Qr _ _) _⟩)
  have aK:Wl (aM v (ak ts xs)=T->∀i,i<N v->0<=E v i 0/\E v i 0<ak ts xs):=λh i hi=>by
   have:=Qo h hi;have e:E v i 0=v[i]:=by simp[List.getD,hi]
   rw[e];exact this
  generalize ak ts xs=W at*;obtain⟨A,hA⟩:=eY (aM v W);obtain⟨B,hB⟩:=eY (dI v);rw[<-hA]at aI aK g;rw[<-hB]at aJ g;clear hA hB;have BP:=hco.1;go_wp2;refine Qw ?_;refine qA6 ?_;go_big_quiet_want;refine⟨FN #[Z ni (N xs) dV,Z dx (N wh) aP,EP t,Z nU (N dU) eQ,Z F4 (N JV) qZ,Z zZ (N tJ) mW,Z JW (N Hf) sQ],λx hx=>?_,?_⟩
  .have e0:=cB (hx) q0;have e1:=cB (hx) q1;have e2:=cB (hx) q2;have e3:=cB (hx) q3;have e4:=cB (hx) q4;have e5:=cB (hx) q5;have e6:=cB (hx) q6;go_simp
  simp only[pU];go_big_quiet_on;refine qA3 ?_;go_big_quiet_want;refine⟨I J W,λx hx=>?_,?_⟩
  .have hC:=Qx hx (aS.o x (aj f hx));go_simp
  simp only[pU];go_big_quiet_on;go_big_quiet_want;refine⟨EP A,λx hx=>?_,?_⟩
  .have hC:=Qx hx (aI.o x (aj f hx));go_simp
  simp only[pU];go_big_quiet_on;refine lQ ?_;refine XH ?_;intro w2 L;have K:=aj f L;have az:=cB L n6;have Nz:=aJ.o w2 K;clear aI aS aJ;go_wp2_with fail;refine(show Calls _ _ _ _ _ from Nz).mono ?_;clear Nz az;rintro e w3 ⟨rfl,y⟩;have Uz:=aj L y;have k3:=aj K y;clear L y K;have az:=cB Uz n6
  cases A with
  |false =>
   go_wp2;go_ret;exact⟨Qd (by rw[g.o];rfl),k3⟩
  |true =>
   cases B with
   |false =>
    go_wp2;go_ret;exact⟨Qd (by rw[g.o];rfl),k3⟩
   |true =>
    have bB:=Zh (aK.o rfl);have ry:Wl (KB=v.all λc=>decide ((au ts xs c:Int)∈mF)):=by show _=_;rw[g.o];rfl
    clear aK g;go_wp2;clear az;go_loopw [19] (λiv wr=>∃i:Nat,i<=N v/\iv=I J i/\Wl (((v.take i).all λc=>decide ((au ts xs c:Int)∈mF))=T)/\Bw w1 wr) (λiv _=>N v-(intOf iv).toNat)
    case atStart=>exact⟨0,Q4 _,rfl,rfl,Uz⟩
    case round=>
     obtain⟨i,hi,rfl,HA,u⟩:=hrel;have az:=cB u n6;by_cases ay:i<N v
     .obtain⟨lb,lo,rfl,aX⟩:=Qg hco ay;have kr:=aj f u;have bN:=cB kr (aX i ay);clear aX;have aL:=bB.o i ay;obtain⟨Mv,HT,HF⟩:=fe (uD.o (E v i 0) aL.1 aL.2) (uy (p:=λc=>decide ((au ts xs c:Int)∈mF)) ay HA.o) (IK (p:=λc=>decide ((au ts xs c:Int)∈mF)) ay);clear HA aL;generalize E v i 0=cv at*;obtain⟨S,hS⟩:=eY (au ts xs cv)
      simp only[<-hS]at Mv HT HF;clear hS;go_wp2;refine Qw ?_;refine qA3 ?_;go_big_quiet_want;refine⟨Z ao (N ts) cap,λx hx=>?_,?_⟩
      .have e0:=cB (aj u hx) u0;go_simp
      simp only[pU];go_big_quiet_on;go_big_quiet_want;refine⟨FN #[Z ni (N xs) dV,Z dx (N wh) aP,EP t,Z nU (N dU) eQ,Z F4 (N JV) qZ,Z zZ (N tJ) mW,Z JW (N Hf) sQ],λx hx=>?_,?_⟩
      .have e0:=cB (aj u hx) q0;have e1:=cB (aj u hx) q1;have e2:=cB (aj u hx) q2;have e3:=cB (aj u hx) q3;have e4:=cB (aj u hx) q4;have e5:=cB (aj u hx) q5;have e6:=cB (aj u hx) q6;go_simp
      simp only[pU];go_big_quiet_on;refine qA5 ?_;go_big_quiet_want;refine⟨I J S,λx hx=>?_,?_⟩
      .have hC:=Qx hx (Mv.o x (aj kr hx));go_simp
      simp only[pU];go_big_quiet_on;refine lQ ?_;refine XH ?_;intro w4 Q;have aH:=aj u Q;have k4:=aj kr Q;have bO:=cB aH l0;have FJ:=oD UD UE mF (S:Int) w4 (Qt k4 hls);go_wp2_with fail;refine FJ.mono ?_;rintro e w5 ⟨rfl,rfl⟩;by_cases z:(S:Int)∈mF
      .rw[QD z];go_wp2;go_roundw
       case rel=>exact⟨i+1,by omega,by go_num,HT.o (QD z),aH⟩
       case measure=>simp[intOf];omega
      .rw[QX z];go_wp2;go_ret;exact⟨Qd (by rw[ry.o];exact(HF.o (QX z)).symm),k4⟩
     .have e:i=N v:=by omega
      have aU:=HA.o;rw[e,Zb]at aU;have ah:=Zh aU;go_wp2;go_ret;exact⟨Qd (by rw[ry.o];exact ah.o.symm),aj f u⟩
 rw[QC k6]at g;have JX:=kb 6 k6;by_cases k7:m=7
 .subst k7;rw[Qu rfl]at g
  cases t with
  |true =>
   go_wp2;go_ret;exact⟨Qd (by rw[g.o];rfl),f⟩
  |false =>
   go_wp2;go_ret;exact⟨Qd (by rw[g.o];rfl),f⟩
 rw[QC k7]at g;have bP:=kb 7 k7;by_cases k8:m=8
 .subst k8;rw[Qu rfl]at g;have bC:=vX Jz nU aB eQ CX dU w1 (Qt f hlo) (Qt f aC);generalize aY CX dU=sx at*;go_wp2_with fail;refine bC.mono ?_;rintro e w2 ⟨rfl,L⟩;have K:=aj f L;have bQ:=cB L q2
  cases t with
  |true =>
   cases whole with
   |true =>
    go_wp2;go_ret;exact⟨Qd (by rw[g.o];rfl),K⟩
   |false =>
    go_wp2;go_ret;exact⟨Qd (by rw[g.o];rfl),K⟩
  |false =>
   go_wp2;go_ret;exact⟨Qd (by rw[g.o];rfl),K⟩
 rw[QC k8]at g;have bR:=kb 8 k8;by_cases k9:m=9
 .subst k9;rw[Qu rfl]at g
  cases t with
  |true =>
   go_wp2;go_ret;exact⟨Qd (by rw[g.o];rfl),f⟩
  |false =>
   go_wp2;go_ret;exact⟨Qd (by rw[g.o];rfl),f⟩
 rw[QC k9]at g;have bS:=kb 9 k9;by_cases aR:m=10
 .subst aR;rw[Qu rfl]at g;by_cases ax:0<N Hf
  .rw[QD ax]at g;go_wp2;go_ret;exact⟨Qd g.o.symm,f⟩
  .rw[QX ax]at g;go_wp2;go_ret;exact⟨Qd g.o.symm,f⟩
 rw[QC aR]at g;have bT:=kb 10 aR;go_wp2;go_ret;exact⟨Qd g.o.symm,f⟩
section
theorem CY(ts:List ag)(q:af)(s c:List Int):iK ts q s c<=aU:=by
 unfold iK;split
 .omega
 .have a:Pz ts q c ((s.map (iO ts q.src.xs)).foldl aQ 1)<=(s.map (iO ts q.src.xs)).foldl aQ 1:=Ec ts q c _ (N q.wh);have b:=lH (s.map (iO ts q.src.xs)) 1 (by grind [aU]);have d:(1:Nat)<=aU:=by grind [aU]
  omega
def TJ(kind:Int)(s:Nat)(l r:bH):rR kind s l r<=aU:=by
 unfold rR
 repeat' split
 all_goals exact uH _ _
structure Gg(q:af)(v:bH):Prop where
 fo:bM (N q.src.xs) v.sources
 nu:v.sources.Nodup
 qI:bM (N q.wh) v.clauses
 Dt:v.clauses.Nodup
 size:v.size<=aU
 cost:v.cost<=aU
def Gg.zero(q:af):Gg q vz:=⟨(λx a=>by cases a),Zo,(λx a=>by cases a),Zo,Q4 _,Q4 _⟩
theorem Gg.node{n:ai}{l r:bH}(hl:Gg q l)(hr:Gg q r)(h:jg ts q n l r=O v):Gg q v:=by
 rw[kT]at h;split at h
 .rename_i hok
  injection h with h;subst h;unfold kS at hok;simp only[Qm]at hok;exact⟨hl.fo.with hr.fo,iP hl.nu,(hl.qI.with hr.qI).with (lX hok.1.2),iP (iP hl.Dt),CY _ _ _ _,TJ _ _ _ _⟩
 .cases h
def Gg.akd(h:Gg q v):N v.sources<=N q.src.xs:=uM h.fo h.nu
def Gg.an1(h:Gg q v):N v.clauses<=N q.wh:=uM h.qI h.Dt
structure CZ(w0:U)(ao po:Option Addr)(ts:List ag)(q:af)(pl:List ai):Prop where
 cat:aN w0 ao ts
 query:q.At w0
 plan:bT w0 po pl
 Aq:Chk ts q
 len:N pl<=64
structure df(W:U)(b base:Nat)(tT tI:TypeId)(ao po:Option Addr)(cap pcap:Nat)(ts:List ag)(q:af)(pl:List ai)(seen:List Nat)(sv:KX):Prop where
 g:GB W b tT #[Z ao (N ts) cap,q.src.val,Z q.dx (N q.wh) q.aP,EP q.group,q.keys.val,q.sums.val,q.aH.val,q.ord.val,Z po (N pl) pcap,sv]
 own:W.ownsRow base tI 1 sv (N seen) ((seen.map λ(i:Nat)=>(i:Int)).map (Value.int J))
 lo:base<=b
variable {W W':U} {b base:Nat} {tT tI:TypeId} {ao po:Option Addr} {cap pcap:Nat} {ts:List ag} {q:af} {pl:List ai} {seen:List Nat} {sv MN:KX}
def df.below(h:df W b base tT tI ao po cap pcap ts q pl seen sv)(hb:Bw W W'):df W' b base tT tI ao po cap pcap ts q pl seen sv:=
 ⟨h.g.of (hb.block _ h.g.lt),XJ h.own hb,h.lo⟩
def df.tree(h:df W b base tT tI ao po cap pcap ts q pl seen sv):ag9 W b ao cap ts q:=
 ⟨h.g.cell 0,h.g.cell 1,h.g.cell 2,h.g.cell 3,h.g.cell 4,h.g.cell 5,h.g.cell 6,h.g.cell 7⟩
def df.ne(h:df W b base tT tI ao po cap pcap ts q pl seen sv)(ht:tI≠tT):sv.ownBlock≠O b:=λe=>by obtain⟨c,d⟩:=lY h.own e;have a:=h.g;unfold GB at a;simp_all
def nC(W:U)(sv MN:KX):Prop:=∀g,MN.ownBlock=O g->sv.ownBlock=O g∨M (H W)<=g
def nC.refl(W:U)(sv:KX):nC W sv sv:=λ_ h=>.inl h
def nC.trans{ath:KX}(h:nC W sv MN)(h':nC W' MN ath)(hs:M (H W)<=M (H W')):nC W sv ath:=λg e=>by
 rcases h' g e with a|a
 .exact h g a
 omega
def Rest(b:Nat)(sv:KX)(x:Nat):Prop:=x≠b/\sv.ownBlock≠O x
def Rest.next{x:Nat}(h:Rest b sv x)(hn:nC W sv MN)(hx:x<M (H W)):Rest b MN x:=⟨h.1,λe=>by
 rcases hn x e with a|a
 .exact h.2 a
 .omega⟩
structure Safe(W:U)(b:Nat)(sv:KX)(x:ae):Prop where
 ints:aA W x.ad x.xs
 nil:x.ad=E5->x.cap=0
 rest:∀a,x.ad=O a->x.xs≠[]->a.block<M (H W)/\Rest b sv a.block
def Safe.zero(W:U)(b:Nat)(sv:KX):Safe W b sv ⟨E5,0,[]⟩:=⟨⟨by simp,λi d=>absurd d (by simp)⟩,λ_=>rfl,λa h=>by cases h⟩
def Safe.next{x:ae}(h:Safe W b sv x)(hk:Kept (Rest b sv) W W')(hn:nC W sv MN):Safe W' b MN x:=by
 refine⟨⟨h.ints.1,λi m=>?_⟩,h.nil,λa n d=>?_⟩
 .obtain⟨g,off,e,j⟩:=h.ints.2 i m;have f:=h.rest _ e (λe=>by simp_all);refine⟨g,off,e,?_⟩;have p:=hk.block g f.1 f.2;simp only[World.cell?]at j ⊢
  simp_all
 .obtain⟨k,l⟩:=h.rest a n d;exact⟨by have:=hk.size;omega,l.next hn k⟩
def Safe.below{x:ae}(h:Safe W b sv x)(hb:Bw W W'):Safe W' b sv x:=
 h.next (ZA hb (λ_ a _=>a)) (nC.refl _ _)
theorem df.push(h:df W b base tT tI ao po cap pcap ts q pl seen sv)(ht:tI≠tT)(hb:Bw W X){w5:U}(hk5:Kept (λx=>sv.ownBlock≠O x) X w5)(mq:w5.ownsRow base tI 1 MN (N ((seen.map λ(i:Nat)=>(i:Int))++[(i:Int)])) (((seen.map λ(i:Nat)=>(i:Int))++[(i:Int)]).map (Value.int J)))
  (hat:MN.ownBlock=sv.ownBlock∨MN.ownBlock=O (M (H X)+1)) {Yq:U} (hY:Yq=qw w5 (aD b 9) MN) :
  df Yq b base tT tI ao po cap pcap ts q pl (seen++[i]) MN/\nC W sv MN/\Kept (Rest b sv) W Yq/\(∀x,M (H W)<=x->x<M (H X)->Yq.heap[x]? = X.heap[x]?):=by
 have n:=h.ne ht;have t:=h.below hb;have p:GB w5 b tT _:=t.g.of (hk5.block b t.g.lt n);have v:=hb.size;have d:∀x,M (H W)<=x->sv.ownBlock≠O x:=λx m e=>by have:=(Xf h.own e).2;omega
 have f:∀x,x≠b->Yq.heap[x]? = w5.heap[x]?:=λx m=>by rw[hY];exact QR m
 have y:=h.g.lt;refine⟨⟨?_,?_,h.lo⟩,?_,?_,?_⟩
 .rw[hY];exact p.set 9 MN
 .have j:N ((seen.map λ(i:Nat)=>(i:Int))++[(i:Int)])=N (seen++[i]):=by simp
  have k:((seen.map λ(i:Nat)=>(i:Int))++[(i:Int)])=((seen++[i]).map λ(i:Nat)=>(i:Int)):=by simp
  rw[j,k]at mq;have r:MN.ownBlock≠O b:=λe=>by grind
  rw[hY];rcases mq.2 with⟨a,l⟩|⟨g,c,cur,a,l,h3,h4⟩
  .grind
  .refine⟨mq.1,.inr ⟨g,c,cur,a,l,?_,h4⟩⟩;have z:g≠b:=λe=>r (by rw[a,e];rfl)
   grind
 .intro g e
  grind
 .refine⟨?_,?_,?_,?_,λx m u=>?_⟩
  .rw[hY];exact hk5.os.trans hb.os
  .rw[hY];exact hk5.tape.trans hb.tape
  .rw[hY];exact hk5.output.trans hb.output
  .have a:M (H Yq)=M (H w5):=by simp_all
   have:=hk5.size;omega
  .rw[f x u.1,hk5.block x (by omega) u.2,hb.block x m]
 .intro x a l;rw[f x (by omega),hk5.block x l (d x a)]
end
def aj0(f:bq)(ts:List ag)(q:af)(n:ai)(ao:Option Addr)(cap:Nat)(ps:List aK)(w:U)(ok:Ok ts q)(hf:f.At ts q w)(hcl:n.cl.At w)(hco:n.co.At w)(hcap:N n.co.xs<=n.co.cap)(hp:bP w ao ps)(hk:n.kind=8)(hl:N ps=arity n.kind) :
  Cb 54 #[FN (f.cells ts q),FN n.cells,Z ao (N ps) cap] w (EP (dA ts q n (E ps 0 bz).d (E ps 1 bz).d)):=by
 obtain⟨v0,v1,v2,v3,v4,v5,v6,v7,v8,v9,D,G,K,j,ax,ay,P,Q,az,aA,aB,-⟩:=Jf f ts q;have nT:n.cells=#[I J n.kind,I J n.l,I J n.r,I J n.source,n.cl.val,I J n.key,n.co.val]:=rfl;obtain⟨w1,e,S,t⟩:=aX w ((f.cells ts q)) 63;obtain⟨w2,g,W,X⟩:=aX w1 n.cells 50;have m:=W;have b:=aj S m;have fG:=t.of (m.block _ t.lt);have jA:=X;obtain⟨jr,jO,jP,kM,jQ,mf,mh⟩:=jA.k7;obtain⟨dM,dX,dQ,dR,eu,eU,eH,gq,gm,gp,bY,dw,bZ⟩:=fG.zR (by rw[j];rfl);have aC:=hp.1;have au:N ps=1:=by rw[hl,hk];rfl
 have HC:=Zh b;obtain⟨i,p⟩:∃R,R=dA ts q n (E ps 0 bz).d (E ps 1 bz).d:=⟨_,rfl⟩;rw[<-p];unfold dA at p;rw[QC (by rw[hk];decide),QC (by rw[hk];decide),QC (by rw[hk];decide),QC (by rw[hk];decide),QC (by rw[hk];decide),QC (by rw[hk];decide),QC (by rw[hk];decide),Qu hk]at p;have av:0<N ps:=by omega
 obtain⟨⟨u,po,rfl,c0,c1,c2,c3,c4,c5⟩,aa⟩:=(XA b hp).2 0 av;rw[XI,Zp]at c0 c1 c2 c3 c4 c5;generalize E ps 0 bz=L at*;generalize E ps 1 bz=R at*;have y:Wl (∀x,Bw w2 x->Cb 104 #[FN (f.cells ts q),FN L.cells] x (EP (jV q L.d))):=λx a=>yI f ts q L x;rw[j]at y;rw[P]at dQ y j;have A:Wl (∀x,Bw w2 x->Cb 105 #[L.order.val,q.keys.val] x (EP (aY L.order.xs q.keys.xs))):=λx a=>wF L.order.ad q.keys.ad L.order.cap q.keys.cap L.order.xs q.keys.xs x (Qt a aa.order) (Qt (aj b a) hf.query.keys) aa.cap;rw[Q]at dR y j;have p:i=(q.group&&jV q L.d&&aY L.order.xs q.keys.xs):=p;generalize jV q L.d=RB at*;generalize aY L.order.xs q.keys.xs=SB at*;generalize q.group=gr at*;obtain⟨⟨qa,v,qk⟩,ah⟩:∃x,x=q.keys:=⟨_,rfl⟩;rw[<-ah]at dR y A j;clear ah;have z:=Zh p;rw[j,nT];rw[j]at e;rw[nT]at g;clear p t X fG jA S W b m au hl;clear hf hcl hco hcap hp ok j nT ax ay P Q az aA aB;obtain⟨nk,nl,nr,ns,⟨ca,cc,cl⟩,key,⟨da,dc,co⟩⟩:=n;simp only at hk;subst hk;obtain⟨lk,ls,V7,⟨la,UC,lx⟩,lz,ak⟩:=L;simp only[aK.cells,ai.cells,ae.val]at*
 cases gr with
 |false =>
  have B:Wl (i=F):=by show _=_;rw[z.o];rfl
  clear z;go_enter Tryz.func54,Tryz.ntmps54;go_upto_region 18 with fail;clear e g;refine Qw ?_;refine qA4 ?_;go_big_quiet_skip;try simp only[pU]
  iterate 4 (go_big_quiet_skip;try simp only[pU])
  refine qS (EP F) ?_;go_big_quiet_want;refine⟨EP F,λx a=>?_,?_⟩
  .go_simp
  simp only[pU];go_big_quiet_on;go_big_quiet_skip;try simp only[pU]
  iterate 7 (go_big_quiet_skip;try simp only[pU])
  refine qS (EP F) ?_;refine qS (EP F) ?_;refine XH ?_;intro wE k;have C:=Zh (aj HC.o k);clear k;go_wp2;go_ret;exact⟨Qd B.o.symm,C.o⟩
 |true =>
  cases RB with
  |false =>
   have B:Wl (i=F):=by show _=_;rw[z.o];rfl
   clear z;go_enter Tryz.func54,Tryz.ntmps54;go_upto_region 18 with fail;clear e g;refine Qw ?_;refine qS (Y (O (aD (M (H w)) 0))) ?_;refine qS (Y (O (aD (M (H w)) 2))) ?_;refine qC (EP T) dQ ?_;refine qS (EP T) ?_;go_big_quiet_want;refine⟨FN #[v0,v1,EP T,Z qa (N qk) v,v4,v5,v6,v7,v8,v9,D,G,K],λx a=>?_,?_⟩
   .have e0:=K4 a dM dX dQ dR eu eU eH gq gm gp bY dw bZ;go_simp
   simp only[pU];go_big_quiet_on;refine qS (Z (O (aD u po)) (N ps) cap) ?_;refine qS (Y (O (aD u po))) ?_;go_big_quiet_want;refine⟨FN #[I J lk,I Dc (ls:Int),I Dc (V7:Int),Z la (N lx) UC,I Dc (lz:Int),I Dc (ak:Int)],λx a=>?_,?_⟩
   .have e0:=Dh a c0 c1 c2 c3 c4 c5;go_simp
   simp only[pU];go_big_quiet_on;go_big_quiet_want;refine⟨EP F,λx a=>?_,?_⟩
   .have hC:=Qx a (y.o x a);go_simp
   simp only[pU];go_big_quiet_on;refine qS (EP F) ?_;go_big_quiet_want;refine⟨EP F,λx a=>?_,?_⟩
   .go_simp
   simp only[pU];go_big_quiet_on;go_big_quiet_skip;try simp only[pU]
   iterate 7 (go_big_quiet_skip;try simp only[pU])
   refine qS (EP F) ?_;refine qS (EP F) ?_;refine XH ?_;intro wE k;have C:=Zh (aj HC.o k);clear k;go_wp2;go_ret;exact⟨Qd B.o.symm,C.o⟩
  |true =>
   have B:Wl (i=SB):=by show _=_;rw[z.o];rfl
   clear z;go_enter Tryz.func54,Tryz.ntmps54;go_upto_region 18 with fail;clear e g;refine Qw ?_;refine qS (Y (O (aD (M (H w)) 0))) ?_;refine qS (Y (O (aD (M (H w)) 2))) ?_;refine qC (EP T) dQ ?_;refine qS (EP T) ?_;go_big_quiet_want;refine⟨FN #[v0,v1,EP T,Z qa (N qk) v,v4,v5,v6,v7,v8,v9,D,G,K],λx a=>?_,?_⟩
   .have e0:=K4 a dM dX dQ dR eu eU eH gq gm gp bY dw bZ;go_simp
   simp only[pU];go_big_quiet_on;refine qS (Z (O (aD u po)) (N ps) cap) ?_;refine qS (Y (O (aD u po))) ?_;go_big_quiet_want;refine⟨FN #[I J lk,I Dc (ls:Int),I Dc (V7:Int),Z la (N lx) UC,I Dc (lz:Int),I Dc (ak:Int)],λx a=>?_,?_⟩
   .have e0:=Dh a c0 c1 c2 c3 c4 c5;go_simp
   simp only[pU];go_big_quiet_on;go_big_quiet_want;refine⟨EP T,λx a=>?_,?_⟩
   .have hC:=Qx a (y.o x a);go_simp
   simp only[pU];go_big_quiet_on;refine qS (EP T) ?_;refine qS (EP T) ?_;refine qS (Z (O (aD u po)) (N ps) cap) ?_;refine qS (Y (O (aD u po))) ?_;refine qS (Y (O (aD u (po+3)))) ?_;refine qC (Z la (N lx) UC) c3 ?_;refine qS (Y (O (aD (M (H w)) 0))) ?_;refine qS (Y (O (aD (M (H w)) 3))) ?_;refine qC (Z qa (N qk) v) dR ?_;go_big_quiet_want;refine⟨EP SB,λx a=>?_,?_⟩
   .have hC:=Qx a (A.o x a);go_simp
   simp only[pU];go_big_quiet_on;refine qS (EP SB) ?_;refine qS (EP SB) ?_;refine XH ?_;intro wE k;have C:=Zh (aj HC.o k);clear k;go_wp2;go_ret;exact⟨Qd B.o.symm,C.o⟩
def aW.At(v:aW)(Zq:U):Prop:=(v.s.At Zq/\(v.s.ad=E5->v.s.cap=0))/\(v.c.At Zq/\(v.c.ad=E5->v.c.cap=0))/\v.o.At Zq
def C8(n0 m:Nat)(b:Nat)(u:KX)(x:Nat):Prop:=(x<n0∨m<=x)/\Rest b u x
structure VQ(St:U->List Nat->KX->Prop)(n0:Nat)(W:U)(b:Nat)(sv:KX)(o:Option (bH × List Nat))(e:Ending)(W':U):Prop where
 kept:Kept (Rest b sv) W W'
 out:∃v:aW,e=FR (Ph #[FN v.cells,EP o.isSome])/\∀x,o=O x->v.d=x.1/\∃u,St W' x.2 u/\nC W sv u/\∀Zq,Kept (C8 n0 (M (H W)) b u) W' Zq->v.At Zq
def World.oQ(W:U)(B:Nat)(v:aW):World:=
 qw (qw (qw (qw (qw (qw W (aD B 0) v.s.val) (aD B 1) v.c.val) (aD B 2) v.o.val) (aD B 3) (EP v.out)) (aD B 4) (I Dc (v.size:Int))) (aD B 5) (I Dc (v.cost:Int))
def World.wX{a0 a1 a2 a3 a4 a5:KX}(h:GB W B t #[a0,a1,a2,a3,a4,a5])(v:aW):GB (World.oQ W B v) B t v.cells:=
 (((((h.set 0 v.s.val).set 1 v.c.val).set 2 v.o.val).set 3 (EP v.out)).set 4 (I Dc (v.size:Int))).set 5 (I Dc (v.cost:Int))
def World.Eg(W:U)(B:Nat)(v:aW):Kept (λx=>x≠B) W (World.oQ W B v):=by unfold World.oQ;exact(((((Xc _ (aD B 0) _ (λh=>h rfl)).trans (Xc _ (aD B 1) _ (λh=>h rfl))).trans (Xc _ (aD B 2) _ (λh=>h rfl))).trans (Xc _ (aD B 3) _ (λh=>h rfl))).trans (Xc _ (aD B 4) _ (λh=>h rfl))).trans (Xc _ (aD B 5) _ (λh=>h rfl))
def df.but{base:Nat}(h:df W b base tT tI ao po cap pcap ts q pl seen sv)(hk:Kept (λy=>¬Rest b sv y) W W'):df W' b base tT tI ao po cap pcap ts q pl seen sv:=by
 refine⟨h.g.of (hk.block _ h.g.lt (λr=>r.1 rfl)),?_,h.lo⟩;rcases h.own.2 with⟨h1,h2⟩|⟨g,c,cur,h1,h2,h3,h4⟩
 .exact⟨h.own.1,.inl ⟨h1,h2⟩⟩
 .refine⟨h.own.1,.inr ⟨g,c,cur,h1,h2,?_,h4⟩⟩;rw[hk.block g (ZH.1 h3).1 (λr=>r.2 (by rw[h1];rfl))];exact h3
def df.old{w0:U}(h:df W b (M (H w0)) tT tI ao po cap pcap ts q pl seen sv):∀x,x<M (H w0)->Rest b sv x:=λx a=>
 ⟨by have:=h.lo;omega,λe=>by have:=(Xf h.own e).1;omega⟩
def TW(hd:seen.Nodup)(hl:∀x∈seen,x<n):N seen<=n:=by have h:=oh hl;rw[<-h];exact Dr (λk=>List.nodup_iff_count.1 hd k) n
def aW.At.zero(Zq:U):Fh.At Zq:=⟨⟨⟨by simp[Fh],λi a=>absurd a (by simp[Fh])⟩,λ_=>rfl⟩,⟨⟨by simp[Fh],λi a=>absurd a (by simp[Fh])⟩,λ_=>rfl⟩,⟨by simp[Fh],λi a=>absurd a (by simp[Fh])⟩⟩
def VQ.no{St:U->List Nat->KX->Prop}{Zq:U}(h:Kept (Rest b sv) W Zq)(v:aW):VQ St n0 W b sv E5 (FR (Ph #[FN v.cells,EP F])) Zq:=⟨h,v,rfl,λ_ h=>by cases h⟩
def VQ.lay{o:Option (bH × List Nat)}{e:Ending}(hw:n0<=M (H W))(hT:df W b n0 tT tI ao po cap pcap ts q pl seen sv)(hX:Kept (Rest b sv) W X){R:Nat}(hR:M (H W)<=R)(hRX:R<M (H X)){sv1:KX}(hn:nC W sv sv1)(hr:Kept (Rest b sv1) X W'->Kept (Rest b sv) W W')
  (h:VQ (λZq s u=>df Zq b n0 tT tI ao po cap pcap ts q pl s u) n0 X b sv1 o e W') (hsv:sv1.ownBlock≠O R) (v:aW):VQ (λZq s u=>df Zq b n0 tT tI ao po cap pcap ts q pl s u) n0 W b sv o e (World.oQ W' R v):=by
 have a:=World.Eg W' R v;have A:=hT.g.lt;have d:=hX.size;refine⟨(hr h.kept).trans' a (λx i _=>by show x≠R;omega),?_⟩;obtain⟨k,l,m⟩:=h.out;refine⟨k,l,λx i=>?_⟩;obtain⟨n,u,p,f,r⟩:=m x i;have j:u.ownBlock≠O R:=λe=>by
  rcases f R e with h|h
  .exact hsv h
  .omega
 refine⟨n,u,p.but (a.mono λy _ hy e=>hy (by rw[e];exact⟨by omega,j⟩)),hn.trans f d,λZq z=>r Zq ?_⟩;refine Zy (a.mono (t:=C8 n0 (M (H X)) b u) λy _ hy e=>?_) z (λy _ hy=>⟨?_,hy.2⟩)
 .have:=hy.1;omega
 .have:=hy.1;omega
def mem_cast{k:Int}(h0:0<=k):(k∈seen.map λ(i:Nat)=>(i:Int))↔k.toNat∈seen:=by
 rw[Zi];constructor
 .rintro⟨a,b,rfl⟩
  simpa using b
 .intro h;exact⟨k.toNat,h,by omega⟩
def mK(ts:List ag)(q:af)(pl:List ai)(f i:Nat)(k:Int)(seen:List Nat):Option (bH × List Nat):=if k<0∨(i:Int)<=k∨k.toNat∈seen then E5 else fC ts q pl f k.toNat seen
def Tryz.aan:3≠80:=by decide
def vB{v:aW}(h:GB W B 74 v.cells):(loadVar 74 (aD B 0)).run V W=.ok (FN v.cells) W:=by obtain⟨a,b,d,e,f,g⟩:=h.k6;unfold aW.cells;simp[go_sem,a,b,d,e,f,g]
def GB.f6{c:Array KX}(h:GB W B t c):W.frozen? (aD B 0)=F/\W.frozen? (aD B 1)=F/\W.frozen? (aD B 2)=F/\W.frozen? (aD B 3)=F/\W.frozen? (aD B 4)=F/\W.frozen? (aD B 5)=false:=⟨h.frozen 0,h.frozen 1,h.frozen 2,h.frozen 3,h.frozen 4,h.frozen 5⟩
def JD{fn:Func}{p u:Tmp}{ty:TypeId}(h:fn.results=#[.cell p ty,.tmp u]){tmps:Array KX}{P:Program}{w:U}{B:Nat}{v x:KX}(hp:tmps.getD p undef=Y (O (aD B 0)))(hu:tmps.getD u undef=x)(hl:(loadVar ty (aD B 0)).run P w=.ok v w) :
  (results fn tmps).run P w=.ok (Ph #[v,x]) w:=by rw[results_cell_tmp h,hp,hu];simp[go_sem]at hl ⊢;simp[hl]
def VC(w0:U)(b:Nat)(ao po:Option Addr)(cap pcap:Nat)(ts:List ag)(q:af)(pl:List ai)(f:Nat):Prop:=
 ∀(i:Nat) (W:U) (seen:List Nat) (sv:KX),i<f->i<N pl->df W b (M (H w0)) 80 3 ao po cap pcap ts q pl seen sv->Bw w0 W->seen.Nodup->(∀x∈seen,x<N pl)->i ∉ seen->
  Calls V 36 #[Y (O (aD b 0)),I J i] W (VQ (λZq s u=>df Zq b (M (H w0)) 80 3 ao po cap pcap ts q pl s u) (M (H w0)) W b sv (fC ts q pl f i seen))
theorem adm(w0:U)(b:Nat)(ao po:Option Addr)(cap pcap:Nat)(ts:List ag)(q:af)(pl:List ai)(f:Nat)(hV:VC w0 b ao po cap pcap ts q pl f)(i:Nat)(k:Int)(hi:i<=f)(Ff:i<N pl)(asZ:N pl<=64)(W:U)(seen:List Nat)(sv:KX)
  (hT:df W b (M (H w0)) 80 3 ao po cap pcap ts q pl seen sv) (hW:Bw w0 W) (hd:seen.Nodup) (hl:∀x∈seen,x<N pl) :
  Calls V 73 #[Y (O (aD b 0)),I J i,I J k] W (VQ (λZq s u=>df Zq b (M (H w0)) 80 3 ao po cap pcap ts q pl s u) (M (H w0)) W b sv (mK ts q pl f i k seen)):=by
 obtain⟨L,P,r,a⟩:=aX W #[Z E5 0 0,Z E5 0 0,Z E5 0 0,EP F,I Dc 0,I Dc 0] 74;have ak:=TW hd hl;have n:=hT.below r;obtain⟨Q,sc,rfl,R⟩:=jR n.own (by simp;omega);have t9:=n.g.at 9;have S:=oD Q sc _ k L R;have aa:=hW.size;have au:=hT.g.lt;have X:Kept (Rest b (Z Q (N (seen.map λ(i:Nat)=>(i:Int))) sc)) W L:=ZA r λ_ h _=>h;have y:(Value.slice Q (N (seen.map λ(i:Nat)=>(i:Int))) sc).ownBlock≠O (M (H W)):=λe=>by have:=(Xf hT.own e).2;omega
 have ah:Wl (∀(v:aW) (W':U),GB W' (M (H W)) 74 v.cells->(loadVar 74 (aD (M (H W)) 0)).run V W' = .ok (FN v.cells) W'):=λv W'=>vB;have l:Wl (VQ (λZq s u=>df Zq b (M (H w0)) 80 3 ao po cap pcap ts q pl s u) (M (H w0)) W b (Z Q (N (seen.map λ(i:Nat)=>(i:Int))) sc) E5 (FR (Ph #[FN Fh.cells,EP F])) (World.oQ L (M (H W)) Fh)):=
  VQ.no (X.trans' (World.Eg _ _ _) λx hx _=>by show x≠M (H W);omega) Fh
 have z:=Zh λ(D:Nat) (h:D<i) (m:D ∉ seen)=>hV D L seen _ (by omega) (by omega) n (aj hW r) hd hl m;have A:=Zh λ(o:Option (bH × List Nat)) (e:Ending) (W':U) (v:aW) (h:VQ (λZq s u=>df Zq b (M (H w0)) 80 3 ao po cap pcap ts q pl s u) (M (H w0)) L b (Z Q (N (seen.map λ(i:Nat)=>(i:Int))) sc) o e W')=>X4 (VQ.lay aa hT X (Qs _) a.lt (nC.refl _ _) (λk=>X.trans k) h y v) (a.of (h.kept.block _ a.lt ⟨by omega,y⟩));have HM:=Zh λ(h:0<=k)=>mem_cast (seen:=seen) h;have HG:=Zh a;generalize (seen.map λ(i:Nat)=>(i:Int))=sx at*;clear hT n R hV hd hl hW r X y;unfold mK;by_cases d:k<0∨(i:Int)<=k∨k.toNat∈seen
 .rw[Qu d];have G:=Zh (vB (World.wX HG.out Fh));have hc:=HG.out.k6;have hf:=GB.f6 HG.out;unfold World.oQ aW.cells at l G;simp only[Fh,ae.val,ZO,Int.natCast_zero]at l G;have hk:k<0∨(¬k<0/\(i:Int)<=k)∨(¬k<0/\¬(i:Int)<=k/\decide (k∈sx)=T):=by
   by_cases B:k<0
   .exact .inl B
   by_cases K:(i:Int)<=k
   .exact .inr (.inl ⟨B,K⟩)
   .exact .inr (.inr ⟨B,K,QD ((HM.out (by omega)).2 (by grind))⟩)
  clear d z A HM a ah;go_enter Tryz.func73,Tryz.ntmps73;go_wp2_with fail;refine S.mono ?_;clear S P t9;rintro e w2 ⟨rfl,rfl⟩;rcases hk with B|⟨B,K⟩|⟨B,K,c3⟩
  all_goals
   go_wp2;exact X0 (JD (p:=6) (u:=7) (x:=EP F) rfl rfl rfl G.out) rfl l.out
 .rw[QC d];have B:¬k<0:=λh=>d (.inl h)
  have K:¬(i:Int)<=k:=λh=>d (.inr (.inl h));have m:k.toNat ∉ seen:=λh=>d (.inr (.inr h));have c3:decide (k∈sx)=false:=QX λh=>m ((HM.out (by omega)).1 h);have C:=z.out k.toNat (by omega) m;obtain⟨D,rfl⟩:∃D:Nat,k=(D:Int):=⟨k.toNat,by omega⟩;rw[Xu]at C ⊢;generalize fC ts q pl f D seen=Oq at*;clear d z HM a m l;go_enter Tryz.func73,Tryz.ntmps73;go_wp2_with fail;refine S.mono ?_;clear S P t9;rintro e w2 ⟨rfl,rfl⟩;go_wp2_with fail;refine C.mono ?_;clear C;rintro e w3 j;obtain⟨v,rfl,-⟩:=j.out;obtain⟨t,a⟩:=A.out _ _ _ v j;obtain⟨G,xD⟩:=aV (vB (World.wX a v)) t;have hc:=a.k6;have hf:=GB.f6 a;clear t j A a;obtain⟨⟨av,ax,ay⟩,⟨az,aA,aB⟩,⟨aC,aF,aG⟩,aH,aI,aJ⟩:=v;unfold World.oQ aW.cells ae.val at*;simp only at*;go_wp2;exact X0 (JD (p:=6) (u:=7) (x:=EP Oq.isSome) rfl rfl rfl G.out) rfl xD.out
def Jo:=@World.Eg
def Jp:=@JD
