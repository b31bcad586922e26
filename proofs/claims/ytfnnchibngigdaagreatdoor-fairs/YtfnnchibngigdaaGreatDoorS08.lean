import Derived.Test.YtfnnchibngigdaaGreatDoorS06
set_option linter.all false
set_option maxRecDepth 100000
set_option maxHeartbeats 0
namespace Go.Proofs.Zz
open Go.RowKit Go.Shelf Go.Proofs.Tryz
open List renaming length->N,getD->E
open Go.Value renaming slice->Z,int->I,pointer->Y,bool->Qo,agg->Qr,tuple->Qt
open Go.Proofs.Tryz renaming prog->V
open Option renaming some->O,none->Qp
open Go.IntKind renaming i64->J,u64->Qn
open Bool renaming false->F,true->T
open Go renaming World->U,Value->Qa
open Go.World renaming heap->H,setCell->Ql,cell?->Qm
open _root_.Array renaming size->M
open Go.RowKit renaming Hid->Qk
open Go.Obj renaming cells->Qq
open Go.Ending renaming returned->Qs
variable {B aU b cap i n n0:Nat} {p:Nat->Bool} {ts:Qu af} {q:ae} {v:bn} {W W' Xq:U} {t tI tT:TypeId} {ao po:JW} {pl:Qu ag} {seen:Qu Nat} {sv:Qa}
structure aJ where
 s:ai
 c:ai
 o:ai
 out:Bool
 size:Nat
 cost:Nat
def aJ.cells(v:aJ):Array Value:=#[v.s.val,v.c.val,v.o.val,Qo v.out,I Qn (v.size:Int),I Qn (v.cost:Int)]
def aJ.d(v:aJ):bn:=⟨v.s.xs,v.c.xs,v.o.xs,v.out,v.size,v.cost⟩
def tO:aJ:=⟨⟨Qp,0,[]⟩,⟨Qp,0,[]⟩,⟨Qp,0,[]⟩,F,0,0⟩
def Be(kind:Int)(s:Nat)(l r:aJ)(w:U)(hs:s<=aH)(h1:l.size<=aH)(h2:l.cost<=aH)(h3:r.size<=aH)(h4:r.cost<=aH) :
  Cb 33 #[I J kind,I Qn s,Qr l.cells,Qr r.cells] w (I Qn (jE kind s l.d r.d:Nat)):=by
 have i:Qk (jE kind s l.d r.d=if kind=1 then aN s 1 else if kind=3 then aN (aN l.cost r.cost) (az l.size r.size) else if kind=4 then aN (aN l.cost r.cost) (aN (aN l.size s) (az 2 r.size)) else if kind=5 then aN (aN l.cost r.cost) (aN (aN l.size s) r.size)
  else if kind=6∨kind=10 then aN l.cost (az l.size (dm l.size+1)) else if kind=7 then aN l.cost (az 2 l.size) else aN l.cost l.size):=rfl
 obtain⟨Eq,hE⟩:=eY (jE kind s l.d r.d);rw[<-hE]at i ⊢;clear hE;have HB:=Zh (Al h1);have m:∀(a b:Nat),a<=aH->b<=aH->∀x,Ce 58 #[I Qn a,I Qn b] x (I Qn (aN a b:Nat)):=λa b q t x=>JS a b q t x;have S:∀(a b:Nat),a<=aH->b<=aH->∀x,Ce 55 #[I Qn a,I Qn b] x (I Qn (az a b:Nat)):=λa b q t x=>yn a b q t x;obtain⟨⟨sa,sc,sx⟩,⟨ca,cc,cx⟩,⟨oa,oc,ox⟩,ko,f,j⟩:=l;obtain⟨⟨D,G,K⟩,⟨L,P,Q⟩,⟨Tj,Tk,R⟩,jo,k,z⟩:=r;unfold aJ.cells ai.val;simp only at i HB h1 h2 h3 h4 ⊢;obtain⟨w1,n⟩:=eY ((w.alloc (Qq #[Z sa (N sx) sc,Z ca (N cx) cc,Z oa (N ox) oc,Qo ko,I Qn (f:Int),I Qn (j:Int)] 40)).alloc (Qq #[Z D (N K) G,Z L (N Q) P,Z Tj (N R) Tk,Qo jo,I Qn (k:Int),I Qn (z:Int)] 40));have g:Bw w w1:=by rw[n];exact ah (bz _ _) (bz _ _)
 have gl:GB w1 (M (H w)) 40 #[Z sa (N sx) sc,Z ca (N cx) cc,Z oa (N ox) oc,Qo ko,I Qn (f:Int),I Qn (j:Int)]:=by rw[n];show _=_;rw[Zw Qb,iB]
 have gr:GB w1 (M (H w)+1) 40 #[Z D (N K) G,Z L (N Q) P,Z Tj (N R) Tk,Qo jo,I Qn (k:Int),I Qn (z:Int)]:=by rw[n];show _=_;have:=iB (w.alloc (Qq #[Z sa (N sx) sc,Z ca (N cx) cc,Z oa (N ox) oc,Qo ko,I Qn (f:Int),I Qn (j:Int)] 40)) (Qq #[Z D (N K) G,Z L (N Q) P,Z Tj (N R) Tk,Qo jo,I Qn (k:Int),I Qn (z:Int)] 40);rw[Xf]at this;exact this
 have l4:=gl.at 4;have l5:=gl.at 5;have r4:=gr.at 4;have r5:=gr.at 5;have zg:=n.symm;have v:=kI j z;have A:=kI f s;have aa:=eU 2 k;have Vo:=eU f k;have ae:=kI (aN f s) k;have af:=kI (aN f s) (az 2 k);have C:=eU 2 f;have Tm:=eU f (dm f+1);have ag:(2:Nat)<=aH:=by unfold aH;omega
 have ak:(1:Nat)<=aH:=by unfold aH;omega
 clear gl gr n;go_enter func33,ntmps33;go_wp2_with fail;refine(m j z h2 h4 w1).mono ?_;rintro e w2 ⟨rfl,rfl⟩;clear zg;go_wp2_with fail;refine(m f s h1 hs w2).mono ?_;rintro e W ⟨rfl,rfl⟩;by_cases k1:kind=1
 .subst k1;go_wp2_with fail;refine(m s 1 hs ak W).mono ?_;rintro e y ⟨rfl,rfl⟩;go_wp2;go_ret;exact⟨dG (by rw[i.out];rfl),g⟩
 by_cases k3:kind=3
 .subst k3;go_wp2_with fail;refine(S f k h1 h3 W).mono ?_;rintro e y ⟨rfl,rfl⟩;go_wp2_with fail;refine(m (aN j z) (az f k) v Vo y).mono ?_;rintro e w5 ⟨rfl,rfl⟩;go_wp2;go_ret;exact⟨dG (by rw[i.out];rfl),g⟩
 by_cases k4:kind=4
 .subst k4;go_wp2_with fail;refine(S 2 k ag h3 W).mono ?_;rintro e y ⟨rfl,rfl⟩;go_wp2_with fail;refine(m (aN f s) (az 2 k) A aa y).mono ?_;rintro e w5 ⟨rfl,rfl⟩;go_wp2_with fail;refine(m (aN j z) (aN (aN f s) (az 2 k)) v af w5).mono ?_;rintro e w6 ⟨rfl,rfl⟩;go_wp2;go_ret;exact⟨dG (by rw[i.out];rfl),g⟩
 by_cases k5:kind=5
 .subst k5;go_wp2_with fail;refine(m (aN f s) k A h3 W).mono ?_;rintro e y ⟨rfl,rfl⟩;go_wp2_with fail;refine(m (aN j z) (aN (aN f s) k) v ae y).mono ?_;rintro e w5 ⟨rfl,rfl⟩;go_wp2;go_ret;exact⟨dG (by rw[i.out];rfl),g⟩
 have IQ:(kind==1)=false:=by simp[k1]
 have BQ:(kind==3)=false:=by simp[k3]
 have Oh:(kind==4)=false:=by simp[k4]
 have UA:(kind==5)=false:=by simp[k5]
 rw[Zf k1,Zf k3,Zf k4,Zf k5]at i;clear v A aa Vo ae af;by_cases k6:kind=6∨kind=10
 .rw[Q8 k6]at i;have KF:Qk (∀(a b:Nat),a<=aH->b<=aH->∀x,Cb 58 #[I Qn a,I Qn b] x (I Qn (aN a b:Nat))):=λa b q t x=>(m a b q t x).mono (λ_ _ h=>⟨h.1,by rw[h.2];exact Q5 _ _⟩)
  have KG:Qk (∀(a b:Nat),a<=aH->b<=aH->∀x,Cb 55 #[I Qn a,I Qn b] x (I Qn (az a b:Nat))):=λa b q t x=>(S a b q t x).mono (λ_ _ h=>⟨h.1,by rw[h.2];exact Q5 _ _⟩);have aj:=JU f h1 W;have av:=HB.out;obtain⟨Vp,Vq⟩:=bV (KG.out f (dm f+1) h1 (by unfold aH;omega)) (KF.out j (az f (dm f+1)) h2 Tm);clear m S KF KG C Tm HB;obtain⟨B,hB⟩:=eY (dm f+1);rw[<-hB]at i Vp Vq;generalize dm f=b at*;have au:((b:Int))+1=(B:Int):=X;have Tn:IntKind.u64.wrap (B:Int)=B:=by rw[IntKind.wrap_u64];omega
  clear hB;rcases k6 with k6|k6
  .subst k6;clear k1 k3 k4 k5 IQ BQ Oh UA;go_wp2_with fail;refine aj.mono ?_;rintro e y ⟨rfl,rfl⟩;go_wp2;refine Za ?_;refine Lp ?_;go_big_quiet_want;refine⟨I Qn (az f B:Nat),λx u=>?_,?_⟩
   .have hC:=Zb u (Vp.out x);go_simp
   simp only[pU];go_big_quiet_on;go_big_quiet_want;refine⟨I Qn (aN j (az f B):Nat),λx u=>?_,?_⟩
   .have hC:=Zb u (Vq.out x);go_simp
   simp only[pU];go_big_quiet_on;refine eT ?_;refine Xo ?_;intro w5 p;have H5:=ah g p;go_wp2;go_ret;exact⟨dG (by rw[i.out]),H5⟩
  .subst k6;clear k1 k3 k4 k5 IQ BQ Oh UA;go_wp2_with fail;refine aj.mono ?_;rintro e y ⟨rfl,rfl⟩;go_wp2;refine Za ?_;refine Lp ?_;go_big_quiet_want;refine⟨I Qn (az f B:Nat),λx u=>?_,?_⟩
   .have hC:=Zb u (Vp.out x);go_simp
   simp only[pU];go_big_quiet_on;go_big_quiet_want;refine⟨I Qn (aN j (az f B):Nat),λx u=>?_,?_⟩
   .have hC:=Zb u (Vq.out x);go_simp
   simp only[pU];go_big_quiet_on;refine eT ?_;refine Xo ?_;intro w5 p;have H5:=ah g p;go_wp2;go_ret;exact⟨dG (by rw[i.out]),H5⟩
 have Re:(kind==6)=false:=Qi;have MQ:(kind==10)=false:=Qi;rw[Zf k6]at i;by_cases k7:kind=7
 .subst k7;have KF:Qk (∀(a b:Nat),a<=aH->b<=aH->∀x,Cb 58 #[I Qn a,I Qn b] x (I Qn (aN a b:Nat))):=λa b q t x=>(m a b q t x).mono (λ_ _ h=>⟨h.1,by rw[h.2];exact Q5 _ _⟩)
  have KG:Qk (∀(a b:Nat),a<=aH->b<=aH->∀x,Cb 55 #[I Qn a,I Qn b] x (I Qn (az a b:Nat))):=λa b q t x=>(S a b q t x).mono (λ_ _ h=>⟨h.1,by rw[h.2];exact Q5 _ _⟩);have Vp:Qk (∀x,Cb 55 #[I Qn 2,I Qn f] x (I Qn (az 2 f:Nat))):=KG.out 2 f ag h1;have Vq:=Zh (KF.out j (az 2 f) h2 C);clear m S KF KG C Tm HB k1 k3 k4 k5 k6 IQ BQ Oh UA Re MQ;go_wp2;refine Za ?_;refine IJ ?_;go_big_quiet_want;refine⟨I Qn (az 2 f:Nat),λx u=>?_,?_⟩
  .have hC:=Zb u (Vp.out x);go_simp
  simp only[pU];go_big_quiet_on;go_big_quiet_want;refine⟨I Qn (aN j (az 2 f):Nat),λx u=>?_,?_⟩
  .have hC:=Zb u (Vq.out x);go_simp
  simp only[pU];go_big_quiet_on;refine eT ?_;refine Xo ?_;intro w5 p;have H5:=ah g p;go_wp2;go_ret;exact⟨dG (by rw[i.out];rfl),H5⟩
 have ax:(kind==7)=false:=by simp[k7]
 rw[Zf k7]at i;go_wp2_with fail;refine(m j f h2 h1 W).mono ?_;rintro e y ⟨rfl,rfl⟩;go_wp2;go_ret;exact⟨dG (by rw[i.out]),g⟩
theorem zx{x y x' y':Int}{b b':Bool}(h:(x,y,b)=(x',y',b')):Ending.returned (Qt #[I J x,I J y,Qo b])=Qs (Qt #[I J x',I J y',Qo b']):=by grind
theorem H6(ao aa ba:JW)(cap Ry Rz:Nat)(ts:Qu af)(q:ae)(k:Nat)(A B:KJ)(w:U)(hx:aI w ao ts)(hc:bQ ts=T)(hq:q.At w)(h5:N q.src.xs<=5)(ha:aP q.src.xs (N ts)=T)(hk:k<N q.wh)
  (fe:∀c∈av (E q.wh k lz).cs,0<=c/\c<ax ts q.src.xs) (hA:IntsAt w aa A) (hB:IntsAt w ba B) :
  Calls V 61 #[Z ao (N ts) cap,Qr q.cells,I J k,Z aa (N A) Ry,Z ba (N B) Rz] w λe w'=>
   e=Qs (Qt #[I J (dH ts q.src.xs (E q.wh k lz).cs A B).1,I J (dH ts q.src.xs (E q.wh k lz).cs A B).2.1,Qo (dH ts q.src.xs (E q.wh k lz).cs A B).2.2])/\Bw w w':=by
 have W:Qk (∀c∈av (E q.wh k lz).cs,∀x,Bw w x->Cb 62 #[Z ao (N ts) cap,Qr q.cells,I J c] x (I J (aj ts q.src.xs c:Nat))):=λc hm x hb=>
  lT ao cap ts q c x (hx.below hb) hc (Q7 hb hq.src) h5 ha (fe c hm).1 (fe c hm).2
 have ay:=hq.wh.1;obtain⟨wb,wo,CO,K⟩:=QX hq.wh.2.1 hk;have m:=K k hk;have f:=hq.wh.2.2 k hk;clear K hq fe hc ha hx;have HA:Qk _:=hA;have HB:Qk _:=hB;clear hA hB;obtain⟨w1,p⟩:=eY (w.alloc (Qq q.cells 26));have d:Bw w w1:=by rw[p];exact bz _ _
 have bO:GB w1 (M (H w)) 26 q.cells:=by rw[p];exact iB _ _
 obtain⟨⟨qD,iI,l⟩,bF,aG,wh,g,⟨sU,iZ,uw⟩,⟨uy,jw,wL⟩,⟨sV,ja,wM⟩,⟨wN,jN,uV⟩⟩:=q;unfold ae.cells ai.val at*;simp only at*;subst CO;generalize E wh k lz=cl at*;obtain⟨ca,cc,cs⟩:=cl;unfold aA.val at m;simp only at m f W ⊢;have b:Qk (dH ts l cs A B=if (N cs)≠1∨(E cs 0 cz).not=T∨(E cs 0 cz).const=T∨(E cs 0 cz).op≠0 then (0,0,F)
  else if (aj ts l (E cs 0 cz).left:Int)∈A/\(aj ts l (E cs 0 cz).right:Int)∈B then ((E cs 0 cz).left,(E cs 0 cz).right,T)
  else ((E cs 0 cz).right,(E cs 0 cz).left,decide ((aj ts l (E cs 0 cz).right:Int)∈A)&&decide ((aj ts l (E cs 0 cz).left:Int)∈B))):=rfl
 generalize dH ts l cs A B=SI at*;obtain⟨q0,q1,q2,q3,q4,q5,q6⟩:=bO.k7;have zg:=p.symm;have JV:=cB d m;clear p bO m;have ag:=f.1;by_cases i:N cs=1
 .obtain⟨cb,co,rfl,c0,c1,c2,c3,c4⟩:=f.2 0 X;obtain⟨d0,d1,d2,d3,d4⟩:=gM d c0 c1 c2 c3 c4;have jO:Qk (av cs=au (E cs 0 cz)):=by
   show _=_
   match cs,i with
   |[c],_=>simp[av]
  clear c0 c1 c2 c3 c4 f;generalize E cs 0 cz=c at*;obtain⟨ak,op,left,u,right⟩:=c;simp only[Xr,Z4]at d0 d1 d2 d3 d4 jO b;have D:=W.o;rw[jO.o]at D;unfold au at D;simp only at D;have r:=Zh D;clear D W jO ag;rw[i]at JV
  cases ak with
  |true =>
   rw[Q8 (.inr (.inl rfl))]at b;go_enter func61,ntmps61;go_wp2;go_ret3;exact⟨zx (by rw[b.o]),d⟩
  |false =>
   cases u with
   |true =>
    rw[Q8 (.inr (.inr (.inl rfl)))]at b;go_enter func61,ntmps61;go_wp2;go_ret3;exact⟨zx (by rw[b.o]),d⟩
   |false =>
    by_cases o0:op=0
    .subst o0;rw[Zf Qc]at b;obtain⟨L,P⟩:=bV (r.o left (by rw[Q8 ⟨X,rfl⟩];simp)) (r.o right (by rw[Q8 ⟨X,rfl⟩];simp));clear r;generalize aj ts l left=Xq,aj ts l right=Yq at*;go_enter func61,ntmps61;go_wp2;refine Za ?_;refine eT ?_;go_big_quiet_want;refine⟨Qr #[Z qD (N l) iI,Z (O (aD wb wo)) (N wh) aG,Qo g,Z sU (N uw) iZ,Z uy (N wL) jw,Z sV (N wM) ja,Z wN (N uV) jN],λx hx=>?_,?_⟩
     .have e0:=cB (hx) q0;have e1:=cB (hx) q1;have e2:=cB (hx) q2;have e3:=cB (hx) q3;have e4:=cB (hx) q4;have e5:=cB (hx) q5;have e6:=cB (hx) q6;go_simp
     simp only[pU];go_big_quiet_on;refine JE ?_;go_big_quiet_want;refine⟨I J left,λx hx=>?_,?_⟩
     .have e0:=cB (hx) d2;go_simp
     simp only[pU];go_big_quiet_on;go_big_quiet_want;refine⟨I J Xq,λx hx=>?_,?_⟩
     .have hC:=Zb hx (L.o x (ah d hx));go_simp
     simp only[pU];go_big_quiet_on;refine eT ?_;refine Xo ?_;intro w2 a;have k2:=ah d a;go_wp2;refine Za ?_;refine eT ?_;go_big_quiet_want;refine⟨Qr #[Z qD (N l) iI,Z (O (aD wb wo)) (N wh) aG,Qo g,Z sU (N uw) iZ,Z uy (N wL) jw,Z sV (N wM) ja,Z wN (N uV) jN],λx hx=>?_,?_⟩
     .have e0:=cB (ah a hx) q0;have e1:=cB (ah a hx) q1;have e2:=cB (ah a hx) q2;have e3:=cB (ah a hx) q3;have e4:=cB (ah a hx) q4;have e5:=cB (ah a hx) q5;have e6:=cB (ah a hx) q6;go_simp
     simp only[pU];go_big_quiet_on;refine JE ?_;go_big_quiet_want;refine⟨I J right,λx hx=>?_,?_⟩
     .have e0:=cB (ah a hx) d4;go_simp
     simp only[pU];go_big_quiet_on;go_big_quiet_want;refine⟨I J Yq,λx hx=>?_,?_⟩
     .have hC:=Zb hx (P.o x (ah k2 hx));go_simp
     simp only[pU];go_big_quiet_on;refine eT ?_;refine Xo ?_;intro w3 v;have BQ:=ah a v;have k3:=ah k2 v;clear a v k2 L P;obtain⟨az,aB⟩:=iA BQ d2 d4;have uh:=iR aa Ry A (Xq:Int) w3 (Q7 k3 HA.o);have G:=iR ba Rz B (Yq:Int) w3 (Q7 k3 HB.o);have y:=iR aa Ry A (Yq:Int) w3 (Q7 k3 HA.o);have z:=iR ba Rz B (Xq:Int) w3 (Q7 k3 HB.o);go_wp2_with fail;refine uh.mono ?_;rintro e w4 ⟨rfl,rfl⟩;clear uh;go_wp2_with fail;refine G.mono ?_;rintro e w5 ⟨rfl,rfl⟩;clear G;by_cases j:(Xq:Int)∈A/\(Yq:Int)∈B
     .rw[Q8 j]at b;rw[Zg j.1,Zg j.2];clear y z;go_wp2;go_quiet (fail);go_wp2;go_ret3;exact⟨zx (by rw[b.o]),Zc k3 _⟩
     .rw[Zf j]at b;obtain⟨C,Q⟩:=eY (decide ((Xq:Int)∈A))
      obtain⟨R,n⟩:=eY (decide ((Yq:Int)∈B));have t:(C&&R)=false:=by grind
      rw[<-Q,<-n];clear Q n j;obtain⟨p3,S⟩:=eY (decide ((Yq:Int)∈A));obtain⟨p4,Vo⟩:=eY (decide ((Xq:Int)∈B));rw[<-S]at y b;rw[<-Vo]at z b;clear S Vo;have fin:∀(C R:Bool),(C&&R)=F->C=T->R=false:=λC R h e=>by rw[e]at h;simpa using h
      cases C with
      |false =>
       clear t fin;go_wp2_with fail;refine y.mono ?_;rintro e w6 ⟨rfl,rfl⟩;clear y;go_wp2_with fail;refine z.mono ?_;rintro e w7 ⟨rfl,rfl⟩;clear z
       cases p3 with
       |false =>
        go_wp2;go_quiet (fail);go_wp2;go_ret3;exact⟨zx (by rw[b.o];rfl),Zc k3 _⟩
       |true =>
        go_wp2;go_quiet (fail);go_wp2;go_ret3;exact⟨zx (by rw[b.o];rfl),Zc k3 _⟩
      |true =>
       have n:=fin _ _ t rfl;subst n;clear t fin;go_wp2_with fail;refine y.mono ?_;rintro e w6 ⟨rfl,rfl⟩;clear y;go_wp2_with fail;refine z.mono ?_;rintro e w7 ⟨rfl,rfl⟩;clear z
       cases p3 with
       |false =>
        go_wp2;go_quiet (fail);go_wp2;go_ret3;exact⟨zx (by rw[b.o];rfl),Zc k3 _⟩
       |true =>
        go_wp2;go_quiet (fail);go_wp2;go_ret3;exact⟨zx (by rw[b.o];rfl),Zc k3 _⟩
    .have b0:(op != 0)=true:=by simp[o0]
     rw[Q8 (.inr (.inr (.inr o0)))]at b;go_enter func61,ntmps61;go_wp2;go_ret3;exact⟨zx (by rw[b.o]),d⟩
 .rw[Q8 (.inl i)]at b;have b1:((N cs:Int) != 1)=true:=Qi
  clear f W;generalize N cs=cn at*;go_enter func61,ntmps61;go_wp2;go_ret3;exact⟨zx (by rw[b.o]),d⟩
theorem RD(k:Int):1<=arity k↔k≠1:=by
 unfold arity;split
 .omega
 .split <;> omega
theorem KH(k:Int):2<=arity k↔3<=k/\k<=5:=by
 unfold arity;split
 .omega
 .split <;> omega
def M4(n:ag):bI n=decide ((n.kind≠1∨n.l=0)/\((3<=n.kind/\n.kind<=5)∨n.r=0)/\(n.kind=1∨n.source=0)/\(n.kind=4∨n.kind=5∨n.key=0)/\
  (n.kind=2∨3<=n.kind/\n.kind<=5∨N n.cl.xs=0)/\(n.kind=6↔(N n.co.xs)≠0)):=by unfold bI;simp only[RD,KH]
theorem zero_or{P:Prop}(x:Int)(bad:x≠0->(x==0)=F->(x != 0)=T->P)(good:x=0->(x==0)=T->(x != 0)=F->P):P:=by grind
theorem H7(n:ag)(w:U):Cb 31 #[Qr n.cells] w (Qo (bI n)):=by
 have f:Qk _:=M4 n;obtain⟨P,i⟩:=eY (bI n);rw[<-i]at f ⊢;clear i;obtain⟨d,l,r,e,⟨z,A,p⟩,key,⟨B,C,q⟩⟩:=n;unfold ag.cells ai.val;simp only at f ⊢;generalize N p=a,N q=b at*;by_cases j:d=1;subst j;refine zero_or l ?_ ?_
 rotate_left
 intro _ _ _;refine zero_or r ?_ ?_
 rotate_left
 intro _ _ _;refine zero_or key ?_ ?_
 rotate_left
 intro _ _ _;refine zero_or (a:Int) ?_ ?_
 rotate_left
 intro _ _ _;refine zero_or (b:Int) ?_ ?_
 rotate_left
 intro _ _ _
 rotate_left
 have u:(d==1)=false:=by simp[j]
 by_cases k2:d=2;subst k2;refine zero_or e ?_ ?_
 rotate_left
 intro _ _ _;refine zero_or r ?_ ?_
 rotate_left
 intro _ _ _;refine zero_or key ?_ ?_
 rotate_left
 intro _ _ _;refine zero_or (b:Int) ?_ ?_
 rotate_left
 intro _ _ _;refine zero_or (a:Int) ?_ ?_
 rotate_left
 intro _ _ _
 rotate_left
 by_cases k3:d=3;subst k3;refine zero_or e ?_ ?_
 rotate_left
 intro _ _ _;refine zero_or key ?_ ?_
 rotate_left
 intro _ _ _;refine zero_or (b:Int) ?_ ?_
 rotate_left
 intro _ _ _;refine zero_or (a:Int) ?_ ?_
 rotate_left
 intro _ _ _
 rotate_left
 by_cases k4:d=4;subst k4;refine zero_or e ?_ ?_
 rotate_left
 intro _ _ _;refine zero_or (b:Int) ?_ ?_
 rotate_left
 intro _ _ _;refine zero_or (a:Int) ?_ ?_
 rotate_left
 intro _ _ _
 rotate_left
 by_cases k5:d=5;subst k5;refine zero_or e ?_ ?_
 rotate_left
 intro _ _ _;refine zero_or (b:Int) ?_ ?_
 rotate_left
 intro _ _ _;refine zero_or (a:Int) ?_ ?_
 rotate_left
 intro _ _ _
 rotate_left
 by_cases k6:d=6;subst k6;refine zero_or e ?_ ?_
 rotate_left
 intro _ _ _;refine zero_or r ?_ ?_
 rotate_left
 intro _ _ _;refine zero_or key ?_ ?_
 rotate_left
 intro _ _ _;refine zero_or (b:Int) ?_ ?_;intro _ _ _;refine zero_or (a:Int) ?_ ?_
 rotate_left 3
 have k:(d==2)=false:=by simp[k2]
 have v:(d==3)=false:=by simp[k3]
 have y:(d != 6)=true:=by simp[k6]
 by_cases t:d<3;have g:¬3<=d:=X;refine zero_or e ?_ ?_
 rotate_left
 intro _ _ _;refine zero_or r ?_ ?_
 rotate_left
 intro _ _ _;refine zero_or key ?_ ?_
 rotate_left
 intro _ _ _;refine zero_or (b:Int) ?_ ?_
 rotate_left
 intro _ _ _;refine zero_or (a:Int) ?_ ?_
 rotate_left
 intro _ _ _
 rotate_left
 have g:3<=d:=X;have m:¬d<=5:=X;refine zero_or e ?_ ?_
 rotate_left
 intro _ _ _;refine zero_or r ?_ ?_
 rotate_left
 intro _ _ _;refine zero_or key ?_ ?_
 rotate_left
 intro _ _ _;refine zero_or (b:Int) ?_ ?_
 rotate_left
 intro _ _ _;refine zero_or (a:Int) ?_ ?_
 rotate_left
 intro _ _ _
 rotate_left
 all_goals
  intros
  go_enter func31,ntmps31;go_wp2;go_ret;exact⟨QV (by rw[f.o];symm;first|exact Zg X|exact ZL X|exact Zg (by simp <;> omega)|grind),(Q5 _ _).alloc (Q6 _) _⟩
def XC:=@zero_or
structure KI(w:U)(b:Nat)(ao:JW)(cap:Nat)(ts:Qu af)(q:ae):Prop where
 c0:Qm w (aD b 0)=O (Z ao (N ts) cap)
 c1:Qm w (aD b 1)=O q.src.val
 c2:Qm w (aD b 2)=O (Z q.bF (N q.wh) q.aG)
 c3:Qm w (aD b 3)=O (Qo q.group)
 c4:Qm w (aD b 4)=O q.keys.val
 c5:Qm w (aD b 5)=O q.sums.val
 c6:Qm w (aD b 6)=O q.ay.val
 c7:Qm w (aD b 7)=O q.ord.val
def vN(ts:Qu af)(q:ae)(l sources:KJ)(i:Nat):Bool:=decide (0<=E l i 0)&&decide (E l i 0<N q.wh)&&(decide (i=0) ||decide (E l (i-1) 0<E l i 0))&&fV ts q.src.xs (E q.wh (E l i 0).toNat lz).cs sources
def uq(hi:i<n)(h:p i=F):F=(List.range n).all p:=by symm;rw[List.all_eq_false];exact⟨i,ZY.2 hi,by rw[h];simp⟩
def vO(h:∀i,i<n->p i=T):T=(List.range n).all p:=by symm;rw[Q4];exact λi a=>h i (ZY.1 a)
def Dq(b:Nat)(ao lo so:JW)(cap Vr sZ:Nat)(ts:Qu af)(q:ae)(l ss:KJ)(w:U)(ht:KI w b ao cap ts q)(hx:aI w ao ts)(hk:SY ts q)(hq:q.At w)(hll:IntsAt w lo l)(hss:IntsAt w so ss) :
  Cb 36 #[Y (O (aD b 0)),Z lo (N l) Vr,Z so (N ss) sZ] w (Qo (dh ts q l ss)):=by
 have TJ:Qk (∀k:Nat,k<N q.wh->∀x,Bw w x->Cb 60 #[Z ao (N ts) cap,Qr q.cells,I J k,Z so (N ss) sZ] x (Qo (fV ts q.src.xs (E q.wh k lz).cs ss))):=λk v x hb=>
  CW ao so cap sZ ts q k ss x (hx.below hb) hk.cat (hq.below hb) hk.five hk.src v (hk.aO k v) (hk.three k v) (Q7 hb hss)
 have Pb:Qk (dh ts q l ss=(List.range (N l)).all (vN ts q l ss)):=rfl;have L:Qk (∀i,vN ts q l ss i=(decide (0<=E l i 0)&&decide (E l i 0<N q.wh)&&(decide (i=0) ||decide (E l (i-1) 0<E l i 0))&&fV ts q.src.xs (E q.wh (E l i 0).toNat lz).cs ss)):=λ_=>rfl;generalize vN ts q l ss=LA,dh ts q l ss=LB at*;have ak:=hq.wh.1;have au:=hll.1;have Po:Qk _:=hll;obtain⟨t0,t1,t2,t3,t4,t5,t6,t7⟩:=ht;obtain⟨⟨qD,iI,z⟩,bF,aG,r,t,⟨sU,iZ,uw⟩,⟨uy,jw,wL⟩,⟨sV,ja,wM⟩,⟨wN,jN,uV⟩⟩:=q;unfold ae.cells ai.val at*;simp only at*;go_enter func36,ntmps36;go_wp2;go_loopw [7] (λiv wr=>∃i:Nat,i<=N l/\iv=I J i/\Qk (∀j,j<i->LA j=T)/\Bw w wr) (λiv _=>N l-(intOf iv).toNat)
 case atStart=>exact⟨0,ZP _,rfl,λj K=>absurd K X,Q5 _ _⟩
 case round=>
  obtain⟨i,hi,rfl,HA,p⟩:=hrel;by_cases y:i<N l
  .obtain⟨lb,aa,rfl,G⟩:=QY Po.o y;obtain⟨d,u2⟩:=iA p (G i y) t2;have g:=L.o i;have n:Qk (LA i=F->LB=F):=λe=>by rw[Pb.o];exact(uq y e).symm
   by_cases n0:E l i 0<0
   .have A:LA i=false:=by rw[g,ZL X];rfl
    have B:=Zh (n.o A);generalize E l i 0=x at*;go_wp2;go_quiet (fail);go_wp2;go_ret;exact⟨QV B.o.symm,Zc p _⟩
   by_cases n1:(N r:Int)<=E l i 0
   .have A:LA i=false:=by rw[g,ZL (show ¬E l i 0<N r by omega),Bool.and_false];rfl
    have B:=Zh (n.o A);generalize E l i 0=x at*;go_wp2;refine Za ?_;refine eT ?_;refine qS (I J i) ?_;refine eT ?_;refine qC (I J x) d ?_;refine qS (Qo F) ?_;refine qS (Qo F) ?_;refine eT ?_;refine qS (I J i) ?_;refine eT ?_;refine qC (I J x) d ?_;refine L8 ?_;refine qS (I J (N r)) ?_;refine qS (Qo T) ?_;refine qS (Qo T) ?_;go_big_quiet_want;refine⟨Qo T,λx hx=>?_,?_⟩
    .go_simp
    simp only[pU];go_big_quiet_on;go_big_quiet_skip;try simp only[pU]
    iterate 13 (go_big_quiet_skip;try simp only[pU])
    refine eT ?_;refine Xo ?_;intro wz f;have u:=ah p f;go_wp2;go_ret;exact⟨QV B.o.symm,u⟩
   have P:∀m:Nat,i=m+1->Qm wr (aD lb (aa+m))=O (I J (E l m 0)):=λm hm=>cB p (G m X);obtain⟨k,hk⟩:∃k:Nat,E l i 0=(k:Int):=⟨(E l i 0).toNat,X⟩;rw[hk]at g d n0 n1;rw[Xk]at g;rw[Zg (show (0:Int)<=(k:Int) by omega),Zg (show (k:Int)<N r by omega)]at g;have SH:k<N r:=X;have av:Qk (∀e:Bool,LA i=e->True):=λ_ _=>trivial;by_cases i0:i=0
   .subst i0;rw[Z4]at d;rw[Zg rfl]at g;have C:Qk (LA 0=fV ts z (E r k lz).cs ss):=by show _=_;rw[g];rfl
    have Q:=Zh (TJ.o k X);generalize fV ts z (E r k lz).cs ss=wv at*;go_wp2;refine Za ?_;refine eT ?_;refine qS (I J 0) ?_;refine eT ?_;refine qC (I J k) d ?_;refine qS (Qo F) ?_;refine qS (Qo F) ?_;refine eT ?_;refine qS (I J 0) ?_;refine eT ?_;refine qC (I J k) d ?_;refine L8 ?_;refine qS (I J (N r)) ?_;refine qS (Qo F) ?_;refine qS (Qo F) ?_;refine qS (Qo F) ?_;refine qS (I J 0) ?_;refine qS (Qo F) ?_;go_big_quiet_want;refine⟨Qo F,λx hx=>?_,?_⟩
    .go_simp
    simp only[pU];go_big_quiet_on;go_big_quiet_skip;try simp only[pU]
    iterate 9 (go_big_quiet_skip;try simp only[pU])
    refine uK ?_;refine Xo ?_;intro wy f;have a:=ah p f;have R:=cB f d;go_wp2;refine Za ?_;refine JE ?_;go_big_quiet_want;refine⟨Z ao (N ts) cap,λx hx=>?_,?_⟩
    .have e0:=cB (ah a hx) t0;go_simp
    simp only[pU];go_big_quiet_on;refine JE ?_;go_big_quiet_want;refine⟨Qr #[Z qD (N z) iI,Z bF (N r) aG,Qo t,Z sU (N uw) iZ,Z uy (N wL) jw,Z sV (N wM) ja,Z wN (N uV) jN],λx hx=>?_,?_⟩
    .have e1:=cB (ah a hx) t1;have e2:=cB (ah a hx) t2;have e3:=cB (ah a hx) t3;have e4:=cB (ah a hx) t4;have e5:=cB (ah a hx) t5;have e6:=cB (ah a hx) t6;have e7:=cB (ah a hx) t7;go_simp
    simp only[pU];go_big_quiet_on;refine L8 ?_;go_big_quiet_want;refine⟨Qo wv,λx hx=>?_,?_⟩
    .have hC:=Zb hx (Q.o x (ah a hx));go_simp
    simp only[pU];go_big_quiet_on;refine eT ?_;refine Xo ?_;intro wz f;have u:=ah a f
    cases wv with
    |true =>
     go_wp2;go_roundw
     case rel=>exact⟨1,X,Qf,λj K=>(show j=0 by omega) ▸ C.o,u⟩
     case measure=>exact Qw
    |false =>
     go_wp2;go_ret;exact⟨QV (n.o C.o).symm,u⟩
   .obtain⟨m,rfl⟩:∃m,i=m+1:=⟨i-1,X⟩
    have D:=P m rfl;rw[ZL i0,Bool.false_or,Nat.add_sub_cancel]at g;have ag:((m+1:Nat):Int)-1=(m:Int):=X;have aj:¬(m:Int)+1<=0:=X;have S:(0:Int)<(m:Int)+1:=X;have yY:m<N l:=X;have ax:(0:Int)<=(m:Int)+1:=X;have NZ:IntKind.i64.wrap (m:Int)=m:=by rw[Xm];omega
    by_cases n2:E l m 0<(k:Int)
    .rw[Zg n2]at g;have C:Qk (LA (m+1)=fV ts z (E r k lz).cs ss):=by show _=_;rw[g];rfl
     have Q:=Zh (TJ.o k X);have W:¬(k:Int)<=E l m 0:=X;generalize fV ts z (E r k lz).cs ss=wv,E l m 0=pv at*;go_wp2;refine Za ?_;refine eT ?_;refine qS (I J ((m:Int)+1)) ?_;refine eT ?_;refine qC (I J k) d ?_;refine qS (Qo F) ?_;refine qS (Qo F) ?_;refine eT ?_;refine qS (I J ((m:Int)+1)) ?_;refine eT ?_;refine qC (I J k) d ?_;refine L8 ?_;refine qS (I J (N r)) ?_;refine qS (Qo F) ?_;refine qS (Qo F) ?_;refine qS (Qo F) ?_;refine qS (I J ((m:Int)+1)) ?_;refine qS (Qo T) ?_;refine qS (Qo T) ?_;refine eT ?_;refine qS (I J ((m:Int)+1)) ?_;refine eT ?_;refine qC (I J k) d ?_;refine eT ?_;refine qS (I J ((m:Int)+1)) ?_;refine qS (I J m) ?_;refine eT ?_;refine qC (I J pv) D ?_;refine qS (Qo F) ?_;refine qS (Qo F) ?_;refine qS (Qo F) ?_;refine Xo ?_;intro wy f;have a:=ah p f;have R:=cB f d;go_wp2;refine Za ?_;refine JE ?_;go_big_quiet_want;refine⟨Z ao (N ts) cap,λx hx=>?_,?_⟩
     .have e0:=cB (ah a hx) t0;go_simp
     simp only[pU];go_big_quiet_on;refine JE ?_;go_big_quiet_want;refine⟨Qr #[Z qD (N z) iI,Z bF (N r) aG,Qo t,Z sU (N uw) iZ,Z uy (N wL) jw,Z sV (N wM) ja,Z wN (N uV) jN],λx hx=>?_,?_⟩
     .have e1:=cB (ah a hx) t1;have e2:=cB (ah a hx) t2;have e3:=cB (ah a hx) t3;have e4:=cB (ah a hx) t4;have e5:=cB (ah a hx) t5;have e6:=cB (ah a hx) t6;have e7:=cB (ah a hx) t7;go_simp
     simp only[pU];go_big_quiet_on;refine L8 ?_;go_big_quiet_want;refine⟨Qo wv,λx hx=>?_,?_⟩
     .have hC:=Zb hx (Q.o x (ah a hx));go_simp
     simp only[pU];go_big_quiet_on;refine eT ?_;refine Xo ?_;intro wz f;have u:=ah a f
     cases wv with
     |true =>
      go_wp2;go_roundw
      case rel=>exact⟨m+1+1,X,Qf,λj K=>by
       by_cases e:j=m+1
       .rw[e];exact C.o
       .exact HA.o j X,u⟩
      case measure=>exact Qw
     |false =>
      go_wp2;go_ret;exact⟨QV (n.o C.o).symm,u⟩
    .have A:LA (m+1)=false:=by rw[g,ZL n2,Bool.and_false,Xl]
     have B:=Zh (n.o A);have W:(k:Int)<=E l m 0:=X;generalize E l m 0=pv at*;go_wp2;refine Za ?_;refine eT ?_;refine qS (I J ((m:Int)+1)) ?_;refine eT ?_;refine qC (I J k) d ?_;refine qS (Qo F) ?_;refine qS (Qo F) ?_;refine eT ?_;refine qS (I J ((m:Int)+1)) ?_;refine eT ?_;refine qC (I J k) d ?_;refine L8 ?_;refine qS (I J (N r)) ?_;refine qS (Qo F) ?_;refine qS (Qo F) ?_;refine qS (Qo F) ?_;refine qS (I J ((m:Int)+1)) ?_;refine qS (Qo T) ?_;refine qS (Qo T) ?_;refine eT ?_;refine qS (I J ((m:Int)+1)) ?_;refine eT ?_;refine qC (I J k) d ?_;refine eT ?_;refine qS (I J ((m:Int)+1)) ?_;refine qS (I J m) ?_;refine eT ?_;refine qC (I J pv) D ?_;refine qS (Qo T) ?_;refine qS (Qo T) ?_;refine qS (Qo T) ?_;refine Xo ?_;intro wz f;have u:=ah p f;go_wp2;go_ret;exact⟨QV B.o.symm,u⟩
  .have e:i=N l:=X
   have HT:=Zh (by rw[Pb.o];exact(vO (λj K=>HA.o j X)).symm:LB=T)
   go_wp2;go_ret;exact⟨QV HT.o.symm,p⟩
def Bf(w:U)(x:Int)(t:TypeId):IntsAt (w.alloc (Qq #[I J x] t)) (O (aD (M (H w)) 0)) [x]:=by
 refine⟨Qb,λi b=>⟨M (H w),0,rfl,?_⟩⟩;have a:i=0:=by simpa using b
 subst a;have g:GB (w.alloc (Qq #[I J x] t)) (M (H w)) t #[I J x]:=iB _ _;exact g.cell 0
def Bg(w:U)(a b c d:Array Qa)(ta tb tc td:TypeId){w1:U}(h:w1=(((w.alloc (Qq a ta)).alloc (Qq b tb)).alloc (Qq c tc)).alloc (Qq d td)) :
  Bw w w1/\GB w1 (M (H w)) ta a/\GB w1 (M (H w)+1) tb b/\GB w1 (M (H w)+2) tc c/\GB w1 (M (H w)+3) td d/\M (H w1)=M (H w)+4:=by
 subst h;refine⟨ah (bz _ _) (ah (bz _ _) (ah (bz _ _) (bz _ _))),?_,?_,?_,?_,Qb⟩
 .show _=_
  rw[Zw Qi,Zw Qi,Zw Qb,iB]
 .show _=_
  have:=iB (w.alloc (Qq a ta)) (Qq b tb);rw[Xf]at this;rw[Zw Qb,Zw Qb,this]
 .show _=_
  have:=iB ((w.alloc (Qq a ta)).alloc (Qq b tb)) (Qq c tc);rw[Xf,Xf]at this;rw[Zw Qb,this]
 .show _=_
  have:=iB (((w.alloc (Qq a ta)).alloc (Qq b tb)).alloc (Qq c tc)) (Qq d td);rw[Xf,Xf,Xf]at this;exact this
def KM(b:Nat)(ao:JW)(cap:Nat)(ts:Qu af)(q:ae)(n:ag)(l r:aJ)(w:U)(ht:KI w b ao cap ts q)(hx:aI w ao ts)(hk:SY ts q)(hq:q.At w)
  (hcl:n.cl.At w) (hco:n.co.At w) (hls:l.s.At w) (hlo:l.o.At w) (hrs:r.s.At w) (hro:r.o.At w) (hlc:N l.c.xs<=1000) (hkey:n.key∈n.cl.xs->0<=n.key/\n.key<N q.wh) :
  Cb 37 #[Y (O (aD b 0)),Qr n.cells,Qr l.cells,Qr r.cells] w (Qo (qh ts q n l.d r.d)):=by
 have uz:Qk (∀k:Nat,k<N q.wh->∀x,Bw w x->Calls V 61 #[Z ao (N ts) cap,Qr q.cells,I J k,Z l.s.ad (N l.s.xs) l.s.cap,Z r.s.ad (N r.s.xs) r.s.cap] x λe w'=>
   e=Qs (Qt #[I J (dH ts q.src.xs (E q.wh k lz).cs l.s.xs r.s.xs).1,I J (dH ts q.src.xs (E q.wh k lz).cs l.s.xs r.s.xs).2.1,Qo (dH ts q.src.xs (E q.wh k lz).cs l.s.xs r.s.xs).2.2])/\Bw x w'):=λk aT x G=>
  H6 ao l.s.ad r.s.ad cap l.s.cap r.s.cap ts q k l.s.xs r.s.xs x (hx.below G) hk.cat (hq.below G) hk.five hk.src aT (hk.aO k aT) (Q7 G hls) (Q7 G hrs)
 have mU:Qk (∀c,0<=c->c<ax ts q.src.xs->∀x,Bw w x->Cb 62 #[Z ao (N ts) cap,Qr q.cells,I J c] x (I J (aj ts q.src.xs c:Nat))):=λc h0 h1 x G=>
  lT ao cap ts q c x (hx.below G) hk.cat (Q7 G hq.src) hk.five hk.src h0 h1
 have aQ:Qk (∀x,Bw w x->Cb 27 #[Z ao (N ts) cap,Qr q.cells,I J (N q.src.xs)] x (I J (ax ts q.src.xs))):=λx G=>
  yt ao cap ts q x (hx.below G) hk.cat (Q7 G hq.src) hk.five hk.src
 have g:Qk (qh ts q n l.d r.d=if n.kind=2 then decide (0<N n.cl.xs)
  else if n.kind=4∨n.kind=5 then
   decide (n.key∈n.cl.xs)&&(dH ts q.src.xs (E q.wh n.key.toNat lz).cs l.s.xs r.s.xs).2.2 &&
    (decide (n.kind=4) ||(aM l.o.xs [(dH ts q.src.xs (E q.wh n.key.toNat lz).cs l.s.xs r.s.xs).1]&&aM r.o.xs [(dH ts q.src.xs (E q.wh n.key.toNat lz).cs l.s.xs r.s.xs).2.1]))
  else if n.kind=6 then aP n.co.xs (ax ts q.src.xs)&&bG n.co.xs&&n.co.xs.all λc=>decide ((aj ts q.src.xs c:Int)∈l.s.xs)
  else if n.kind=7 then q.group&&(decide (N l.s.xs=N q.src.xs)&&decide (N l.c.xs=N q.wh))
  else if n.kind=8 then q.group&&(decide (N l.s.xs=N q.src.xs)&&decide (N l.c.xs=N q.wh))&&aM l.o.xs q.keys.xs
  else if n.kind=9 then !q.group&&(decide (N l.s.xs=N q.src.xs)&&decide (N l.c.xs=N q.wh))
  else if n.kind=10 then decide (0<N q.ord.xs)
  else T):=rfl
 obtain⟨KB,SV⟩:=eY (qh ts q n l.d r.d);rw[<-SV]at g ⊢;clear SV;have h5:=hk.five;have h8:=hk.eight;have az:=hq.keys;have bC:=hq.ord.1;have aU:=ed hk.cat hk.src (N q.src.xs) (Q6 _);rw[ZV]at aU;obtain⟨t0,t1,t2,t3,t4,t5,t6,t7⟩:=ht;clear hx hk hq;obtain⟨m,nl,nr,av,⟨Bh,Bi,lF⟩,key,⟨wP,wQ,v⟩⟩:=n;obtain⟨⟨BZ,Ca,fB⟩,⟨Dr,Dt,jq⟩,⟨vP,ay,qR⟩,ko,Du,Dv⟩:=l;obtain⟨⟨zy,zz,gJ⟩,⟨zA,bq,jr⟩,⟨yI,yJ,vQ⟩,jo,zB,zC⟩:=r;obtain⟨⟨qD,iI,z⟩,bF,aG,wh,t,⟨sU,iZ,uw⟩,⟨uy,jw,wL⟩,⟨sV,ja,wM⟩,⟨wN,jN,uV⟩⟩:=q;unfold ae.cells ag.cells aJ.cells ai.val ai.At at*;simp only at*;obtain⟨w1,aK⟩:=eY ((((w.alloc (Qq #[I J m,I J nl,I J nr,I J av,Z Bh (N lF) Bi,I J key,Z wP (N v) wQ] 52)).alloc (Qq #[Z BZ (N fB) Ca,Z Dr (N jq) Dt,Z vP (N qR) ay,Qo ko,I Qn (Du:Int),I Qn (Dv:Int)] 40)).alloc (Qq #[Z zy (N gJ) zz,Z zA (N jr) bq,Z yI (N vQ) yJ,Qo jo,I Qn (zB:Int),I Qn (zC:Int)] 40)).alloc (Qq #[Z qD (N z) iI,Z bF (N wh) aG,Qo t,Z sU (N uw) iZ,Z uy (N wL) jw,Z sV (N wM) ja,Z wN (N uV) jN] 26));obtain⟨f,gN,gL,gR,gQ,bu⟩:=Bg w _ _ _ _ _ _ _ _ aK;have zg:=aK.symm;have n0:=gN.at 0;have n4:=gN.at 4;have n5:=gN.at 5;have n6:=gN.at 6;obtain⟨l0,l1,l2⟩:=gL.k3;have r0:=gR.at 0;have r2:=gR.at 2;obtain⟨q0,q1,q2,q3,q4,q5,q6⟩:=gQ.k7;clear gN gL gR gQ aK bu;have T1:=λ(R o2 o3:Obj)=>cB (ah (bz w R) (ah (bz _ o2) (bz _ o3))) t1;have T2:=λ(R o2 o3:Obj)=>cB (ah (bz w R) (ah (bz _ o2) (bz _ o3))) t2;have T3:=λ(R o2 o3:Obj)=>cB (ah (bz w R) (ah (bz _ o2) (bz _ o3))) t3;have T4:=λ(R o2 o3:Obj)=>cB (ah (bz w R) (ah (bz _ o2) (bz _ o3))) t4;have T5:=λ(R o2 o3:Obj)=>cB (ah (bz w R) (ah (bz _ o2) (bz _ o3))) t5;have T6:=λ(R o2 o3:Obj)=>cB (ah (bz w R) (ah (bz _ o2) (bz _ o3))) t6;have T7:=λ(R o2 o3:Obj)=>cB (ah (bz w R) (ah (bz _ o2) (bz _ o3))) t7;have u0:=cB f t0;go_enter func37,ntmps37;go_upto_region 2 with fail;clear zg t1 t2 t3 t4 t5 t6 t7 T1 T2 T3 T4 T5 T6 T7;obtain⟨whole,D⟩:∃x,x=(decide (N fB=N z)&&decide (N jq=N wh)):=⟨_,rfl⟩;rw[<-D]at g;have zM:=Zh D;clear D;have bD:=hls.1;go_cut [10] from 27 to 42 (λc wx=>c=Qo whole/\w1=wx)
 case first=>
  by_cases hS:N fB=N z
  .have aV:((N fB:Int)==N z)=true:=by simp[hS]
   by_cases hC:N jq=N wh
   .have aW:((N jq:Int)==N wh)=true:=by simp[hC]
    go_wp2_with fail;go_meet;exact⟨by rw[zM.o,Zg hS,Zg hC];rfl,rfl⟩
   .have aW:((N jq:Int)==N wh)=false:=Qi
    go_wp2_with fail;go_meet;exact⟨by rw[zM.o,Zg hS,ZL hC];rfl,rfl⟩
  .have aV:((N fB:Int)==N z)=false:=Qi
   go_wp2_with fail;go_meet;exact⟨by rw[zM.o,ZL hS];rfl,rfl⟩
 case rest=>
 obtain⟨rfl,rfl⟩:=hcut;have kb:∀j:Int,m≠j->(m==j)=false:=λj h=>by simp[h]
 by_cases k2:m=2
 .subst k2;rw[Q8 rfl]at g;by_cases aa:0<N lF
  .rw[Zg aa]at g;go_wp2;go_ret;exact⟨QV g.o.symm,f⟩
  .rw[ZL aa]at g;go_wp2;go_ret;exact⟨QV g.o.symm,f⟩
 rw[Zf k2]at g;have bE:=kb 2 k2;by_cases L9:m=4∨m=5
 .rw[Q8 L9]at g;have bH:(m==4)=decide (m=4):=by by_cases h:m=4 <;> simp[h]
  have uh:=iR Bh Bi lF key w1 (Q7 f hcl);have bB:∀(P:Prop),P->P:=λ_ h=>h;by_cases C:key∈lF
  .rw[Zg C]at uh g;obtain⟨kn,bA⟩:∃kn:Nat,key=(kn:Int):=⟨key.toNat,Qj ((hkey C).1)⟩
   have aX:kn<N wh:=Qj ((hkey C).2);subst bA;rw[Xk]at g;have aA:=Zh (uz.o kn aX);generalize dH ts z (E wh kn lz).cs fB gJ=si at*;obtain⟨a,c,ok⟩:=si;simp only at aA g;have X7:Qk (∀x,Bw w1 x->Calls V 38 #[Z vP (N qR) ay,Z (O (aD (M (H x)) 0)) 1 1] (x.alloc (Qq #[I J a] 3)) λe w'=>e=Qs (Qo (aM qR [a]))/\Bw x w'):=λx G=>
    (lS vP (O (aD (M (H x)) 0)) ay 1 qR [a] _ (Q7 (ah f (ah G (bz _ _))) hlo) (Bf x a _)).mono (λ_ _ h=>⟨h.1,ah (bz _ _) h.2⟩)
   have BV:Qk (∀x,Bw w1 x->Calls V 38 #[Z yI (N vQ) yJ,Z (O (aD (M (H x)) 0)) 1 1] (x.alloc (Qq #[I J c] 3)) λe w'=>e=Qs (Qo (aM vQ [c]))/\Bw x w'):=λx G=>
    (lS yI (O (aD (M (H x)) 0)) yJ 1 vQ [c] _ (Q7 (ah f (ah G (bz _ _))) hro) (Bf x c _)).mono (λ_ _ h=>⟨h.1,ah (bz _ _) h.2⟩)
   generalize aM qR [a]=sx,aM vQ [c]=sy at*;rcases L9 with k4|k5
   .subst k4;go_wp2_with fail;refine uh.mono ?_;rintro e w2 ⟨rfl,rfl⟩;go_wp2;refine Za ?_;refine IJ ?_;go_big_quiet_want;refine⟨Qr #[Z qD (N z) iI,Z bF (N wh) aG,Qo t,Z sU (N uw) iZ,Z uy (N wL) jw,Z sV (N wM) ja,Z wN (N uV) jN],λx hx=>?_,?_⟩
    .have e0:=cB (hx) q0;have e1:=cB (hx) q1;have e2:=cB (hx) q2;have e3:=cB (hx) q3;have e4:=cB (hx) q4;have e5:=cB (hx) q5;have e6:=cB (hx) q6;go_simp
    simp only[pU];go_big_quiet_on;refine Lp ?_;go_big_quiet_want;refine⟨Qt #[I J a,I J c,Qo ok],λx hx=>?_,?_⟩
    .have hC:=Zb hx (aA.o x (ah f hx));go_simp
    simp only[pU];go_big_quiet_on;refine Lp ?_;refine eT ?_;refine Xo ?_;intro w3 y;have aY:=cB y l2;have Lx:=X7.o w3 y;go_wp2_with fail;refine(show Calls _ _ _ _ _ from Lx).mono ?_;rintro e w4 ⟨rfl,Q⟩;have Dw:=ah y Q;have aZ:=cB Dw r2;have aB:=BV.o w4 Dw;go_wp2_with fail;refine(show Calls _ _ _ _ _ from aB).mono ?_;rintro e w5 ⟨rfl,aL⟩;have KO:=ah Dw aL;have bf:=cB KO n0;have H5:=ah f KO
    cases ok with
    |false =>
     go_wp2;go_ret;exact⟨QV (by rw[g.o];first|rfl|(cases sx <;> cases sy <;> rfl)|(cases sy <;> rfl)),H5⟩
    |true =>
     cases sx with
     |false =>
      go_wp2;go_ret;exact⟨QV (by rw[g.o];first|rfl|(cases sx <;> cases sy <;> rfl)|(cases sy <;> rfl)),H5⟩
     |true =>
      go_wp2;go_ret;exact⟨QV (by rw[g.o];first|rfl|(cases sx <;> cases sy <;> rfl)|(cases sy <;> rfl)),H5⟩
   .subst k5;go_wp2_with fail;refine uh.mono ?_;rintro e w2 ⟨rfl,rfl⟩;go_wp2;refine Za ?_;refine IJ ?_;go_big_quiet_want;refine⟨Qr #[Z qD (N z) iI,Z bF (N wh) aG,Qo t,Z sU (N uw) iZ,Z uy (N wL) jw,Z sV (N wM) ja,Z wN (N uV) jN],λx hx=>?_,?_⟩
    .have e0:=cB (hx) q0;have e1:=cB (hx) q1;have e2:=cB (hx) q2;have e3:=cB (hx) q3;have e4:=cB (hx) q4;have e5:=cB (hx) q5;have e6:=cB (hx) q6;go_simp
    simp only[pU];go_big_quiet_on;refine Lp ?_;go_big_quiet_want;refine⟨Qt #[I J a,I J c,Qo ok],λx hx=>?_,?_⟩
    .have hC:=Zb hx (aA.o x (ah f hx));go_simp
    simp only[pU];go_big_quiet_on;refine Lp ?_;refine eT ?_;refine Xo ?_;intro w3 y;have aY:=cB y l2;have Lx:=X7.o w3 y;go_wp2_with fail;refine(show Calls _ _ _ _ _ from Lx).mono ?_;rintro e w4 ⟨rfl,Q⟩;have Dw:=ah y Q;have aZ:=cB Dw r2;have aB:=BV.o w4 Dw;go_wp2_with fail;refine(show Calls _ _ _ _ _ from aB).mono ?_;rintro e w5 ⟨rfl,aL⟩;have KO:=ah Dw aL;have bf:=cB KO n0;have H5:=ah f KO
    cases ok with
    |false =>
     go_wp2;go_ret;exact⟨QV (by rw[g.o];first|rfl|(cases sx <;> cases sy <;> rfl)|(cases sy <;> rfl)),H5⟩
    |true =>
     cases sx with
     |false =>
      go_wp2;go_ret;exact⟨QV (by rw[g.o];first|rfl|(cases sx <;> cases sy <;> rfl)|(cases sy <;> rfl)),H5⟩
     |true =>
      go_wp2;go_ret;exact⟨QV (by rw[g.o];first|rfl|(cases sx <;> cases sy <;> rfl)|(cases sy <;> rfl)),H5⟩
  .rw[ZL C,Xl,Xl]at g;rw[ZL C]at uh;rcases L9 with k4|k5
   .subst k4;go_wp2_with fail;refine uh.mono ?_;rintro e w2 ⟨rfl,rfl⟩;go_wp2;go_ret;exact⟨QV g.o.symm,f⟩
   .subst k5;go_wp2_with fail;refine uh.mono ?_;rintro e w2 ⟨rfl,rfl⟩;go_wp2;go_ret;exact⟨QV g.o.symm,f⟩
 rw[Zf L9]at g;have Oh:=kb 4 (λe=>L9 (.inl e));have UA:=kb 5 (λe=>L9 (.inr e));clear uz hkey;by_cases k6:m=6
 .subst k6;rw[Q8 rfl]at g;clear kb;have Og:Qk (∀x,Bw w x->Cb 26 #[Z wP (N v) wQ,I J (ax ts z)] x (Qo (aP v (ax ts z)))):=λx G=>
   (lQ wP wQ v (ax ts z) x (Q7 G hco)).mono (λ_ _ h=>⟨h.1,by rw[h.2];exact Q5 _ _⟩)
  have aC:Qk (∀x,Bw w x->Cb 30 #[Z wP (N v) wQ] x (Qo (bG v))):=λx G=>
   (rJ wP wQ v x (Q7 G hco)).mono (λ_ _ h=>⟨h.1,by obtain⟨k,e⟩:=h.2;rw[e];exact Zc (Q5 _ _) _⟩)
  have aF:Qk (aP v (ax ts z)=T->∀i,i<N v->0<=E v i 0/\E v i 0<ax ts z):=λh i hi=>by
   have:=gU h hi;have e:E v i 0=v[i]:=by simp[List.getD,hi]
   rw[e];exact this
  generalize ax ts z=W at*;obtain⟨A,hA⟩:=eY (aP v W);obtain⟨B,hB⟩:=eY (bG v);rw[<-hA]at Og aF g;rw[<-hB]at aC g;clear hA hB;have Dp:=hco.1;go_wp2;refine Za ?_;refine Lp ?_;go_big_quiet_want;refine⟨Qr #[Z qD (N z) iI,Z bF (N wh) aG,Qo t,Z sU (N uw) iZ,Z uy (N wL) jw,Z sV (N wM) ja,Z wN (N uV) jN],λx hx=>?_,?_⟩
  .have e0:=cB (hx) q0;have e1:=cB (hx) q1;have e2:=cB (hx) q2;have e3:=cB (hx) q3;have e4:=cB (hx) q4;have e5:=cB (hx) q5;have e6:=cB (hx) q6;go_simp
  simp only[pU];go_big_quiet_on;refine JE ?_;go_big_quiet_want;refine⟨I J W,λx hx=>?_,?_⟩
  .have hC:=Zb hx (aQ.o x (ah f hx));go_simp
  simp only[pU];go_big_quiet_on;go_big_quiet_want;refine⟨Qo A,λx hx=>?_,?_⟩
  .have hC:=Zb hx (Og.o x (ah f hx));go_simp
  simp only[pU];go_big_quiet_on;refine eT ?_;refine Xo ?_;intro w2 L;have K:=ah f L;have au:=cB L n6;have Md:=aC.o w2 K;clear Og aQ aC;go_wp2_with fail;refine(show Calls _ _ _ _ _ from Md).mono ?_;clear Md au;rintro e w3 ⟨rfl,y⟩;have BQ:=ah L y;have k3:=ah K y;clear L y K;have au:=cB BQ n6
  cases A with
  |false =>
   go_wp2;go_ret;exact⟨QV (by rw[g.o];rfl),k3⟩
  |true =>
   cases B with
   |false =>
    go_wp2;go_ret;exact⟨QV (by rw[g.o];rfl),k3⟩
   |true =>
    have bg:=Zh (aF.o rfl);have yB:Qk (KB=v.all λc=>decide ((aj ts z c:Int)∈fB)):=by show _=_;rw[g.o];rfl
    clear aF g;go_wp2;clear au;go_loopw [19] (λiv wr=>∃i:Nat,i<=N v/\iv=I J i/\Qk (((v.take i).all λc=>decide ((aj ts z c:Int)∈fB))=T)/\Bw w1 wr) (λiv _=>N v-(intOf iv).toNat)
    case atStart=>exact⟨0,ZP _,rfl,rfl,BQ⟩
    case round=>
     obtain⟨i,hi,rfl,HA,u⟩:=hrel;have au:=cB u n6;by_cases ak:i<N v
     .obtain⟨lb,lo,rfl,aS⟩:=QY hco ak;have kr:=ah f u;have bI:=cB kr (aS i ak);clear aS;have aH:=bg.o i ak;obtain⟨IP,HT,HF⟩:=kH (mU.o (E v i 0) aH.1 aH.2) (jY (p:=λc=>decide ((aj ts z c:Int)∈fB)) ak HA.o) (vk (p:=λc=>decide ((aj ts z c:Int)∈fB)) ak);clear HA aH;generalize E v i 0=cv at*;obtain⟨S,hS⟩:=eY (aj ts z cv)
      simp only[<-hS]at IP HT HF;clear hS;go_wp2;refine Za ?_;refine JE ?_;go_big_quiet_want;refine⟨Z ao (N ts) cap,λx hx=>?_,?_⟩
      .have e0:=cB (ah u hx) u0;go_simp
      simp only[pU];go_big_quiet_on;go_big_quiet_want;refine⟨Qr #[Z qD (N z) iI,Z bF (N wh) aG,Qo t,Z sU (N uw) iZ,Z uy (N wL) jw,Z sV (N wM) ja,Z wN (N uV) jN],λx hx=>?_,?_⟩
      .have e0:=cB (ah u hx) q0;have e1:=cB (ah u hx) q1;have e2:=cB (ah u hx) q2;have e3:=cB (ah u hx) q3;have e4:=cB (ah u hx) q4;have e5:=cB (ah u hx) q5;have e6:=cB (ah u hx) q6;go_simp
      simp only[pU];go_big_quiet_on;refine L8 ?_;go_big_quiet_want;refine⟨I J S,λx hx=>?_,?_⟩
      .have hC:=Zb hx (IP.o x (ah kr hx));go_simp
      simp only[pU];go_big_quiet_on;refine eT ?_;refine Xo ?_;intro w4 Q;have Oh:=ah u Q;have k4:=ah kr Q;have bJ:=cB Oh l0;have uh:=iR BZ Ca fB (S:Int) w4 (Q7 k4 hls);go_wp2_with fail;refine uh.mono ?_;rintro e w5 ⟨rfl,rfl⟩;by_cases C:(S:Int)∈fB
      .rw[Zg C];go_wp2;go_roundw
       case rel=>exact⟨i+1,X,Qf,HT.o (Zg C),Oh⟩
       case measure=>exact Qw
      .rw[ZL C];go_wp2;go_ret;exact⟨QV (by rw[yB.o];exact(HF.o (ZL C)).symm),k4⟩
     .have e:i=N v:=X
      have aR:=HA.o;rw[e,ZV]at aR;have Lx:=Zh aR;go_wp2;go_ret;exact⟨QV (by rw[yB.o];exact Lx.o.symm),ah f u⟩
 rw[Zf k6]at g;have Re:=kb 6 k6;by_cases k7:m=7
 .subst k7;rw[Q8 rfl]at g
  cases t with
  |true =>
   go_wp2;go_ret;exact⟨QV (by rw[g.o];rfl),f⟩
  |false =>
   go_wp2;go_ret;exact⟨QV (by rw[g.o];rfl),f⟩
 rw[Zf k7]at g;have bK:=kb 7 k7;by_cases k8:m=8
 .subst k8;rw[Q8 rfl]at g;have bn:=lS vP sU ay iZ qR uw w1 (Q7 f hlo) (Q7 f az);generalize aM qR uw=sx at*;go_wp2_with fail;refine bn.mono ?_;rintro e w2 ⟨rfl,L⟩;have K:=ah f L;have bL:=cB L q2
  cases t with
  |true =>
   cases whole with
   |true =>
    go_wp2;go_ret;exact⟨QV (by rw[g.o];rfl),K⟩
   |false =>
    go_wp2;go_ret;exact⟨QV (by rw[g.o];rfl),K⟩
  |false =>
   go_wp2;go_ret;exact⟨QV (by rw[g.o];rfl),K⟩
 rw[Zf k8]at g;have bM:=kb 8 k8;by_cases k9:m=9
 .subst k9;rw[Q8 rfl]at g
  cases t with
  |true =>
   go_wp2;go_ret;exact⟨QV (by rw[g.o];rfl),f⟩
  |false =>
   go_wp2;go_ret;exact⟨QV (by rw[g.o];rfl),f⟩
 rw[Zf k9]at g;have bN:=kb 9 k9;by_cases aN:m=10
 .subst aN;rw[Q8 rfl]at g;by_cases aa:0<N uV
  .rw[Zg aa]at g;go_wp2;go_ret;exact⟨QV g.o.symm,f⟩
  .rw[ZL aa]at g;go_wp2;go_ret;exact⟨QV g.o.symm,f⟩
 rw[Zf aN]at g;have MQ:=kb 10 aN;go_wp2;go_ret;exact⟨QV g.o.symm,f⟩
section
theorem qU(ts:Qu af)(q:ae)(s c:KJ):dJ ts q s c<=aH:=by
 unfold dJ;split
 .omega
 .have a:JH ts q c ((s.map (dF ts q.src.xs)).foldl az 1)<=(s.map (dF ts q.src.xs)).foldl az 1:=rP ts q c _ (N q.wh);have b:=eH (s.map (dF ts q.src.xs)) 1 (by grind [aH]);have d:(1:Nat)<=aH:=by grind [aH]
  omega
def Bj(kind:Int)(s:Nat)(l r:bn):jE kind s l r<=aH:=by
 unfold jE
 repeat' split
 all_goals exact kI _ _
structure uA(q:ae)(v:bn):Prop where
 dA:aQ (N q.src.xs) v.sources
 mM:v.sources.Nodup
 ji:aQ (N q.wh) v.clauses
 rF:v.clauses.Nodup
 size:v.size<=aH
 cost:v.cost<=aH
def uA.zero(q:ae):uA q vz:=⟨(λx a=>by cases a),Z0,(λx a=>by cases a),Z0,ZP _,ZP _⟩
def uA.node{n:ag}{l r:bn}(hl:uA q l)(hr:uA q r)(h:fA ts q n l r=O v):uA q v:=by
 rw[fO]at h;split at h
 .rename_i hok
  injection h with h;subst h;unfold fC at hok;simp only[Q3]at hok;exact⟨hl.dA.with hr.dA,dQ hl.mM,(hl.ji.with hr.ji).with (ig hok.1.2),dQ (dQ hl.rF),qU _ _ _ _,Bj _ _ _ _⟩
 .cases h
def uA.M5(h:uA q v):N v.sources<=N q.src.xs:=rE h.dA h.mM
def uA.RF(h:uA q v):N v.clauses<=N q.wh:=rE h.ji h.rF
structure EH(w0:U)(ao po:JW)(ts:Qu af)(q:ae)(pl:Qu ag):Prop where
 cat:aI w0 ao ts
 query:q.At w0
 plan:bL w0 po pl
 Cc:SY ts q
 len:N pl<=64
structure bJ(W:U)(b base:Nat)(tT tI:TypeId)(ao po:JW)(cap aU:Nat)(ts:Qu af)(q:ae)(pl:Qu ag)(seen:Qu Nat)(sv:Qa):Prop where
 g:GB W b tT #[Z ao (N ts) cap,q.src.val,Z q.bF (N q.wh) q.aG,Qo q.group,q.keys.val,q.sums.val,q.ay.val,q.ord.val,Z po (N pl) aU,sv]
 own:W.ownsRow base tI 1 sv (N seen) ((seen.map λ(i:Nat)=>(i:Int)).map (Value.int J))
 lo:base<=b
variable {W W':U} {b base:Nat} {tT tI:TypeId} {ao po:JW} {cap aU:Nat} {ts:Qu af} {q:ae} {pl:Qu ag} {seen:Qu Nat} {sv Bl:Qa}
def bJ.below(h:bJ W b base tT tI ao po cap aU ts q pl seen sv)(hb:Bw W W'):bJ W' b base tT tI ao po cap aU ts q pl seen sv:=
 ⟨h.g.of (hb.block _ h.g.lt),Xt h.own hb,h.lo⟩
def bJ.tree(h:bJ W b base tT tI ao po cap aU ts q pl seen sv):KI W b ao cap ts q:=
 ⟨h.g.cell 0,h.g.cell 1,h.g.cell 2,h.g.cell 3,h.g.cell 4,h.g.cell 5,h.g.cell 6,h.g.cell 7⟩
def bJ.ne(h:bJ W b base tT tI ao po cap aU ts q pl seen sv)(ht:tI≠tT):sv.ownBlock≠O b:=λe=>by obtain⟨c,d⟩:=nM h.own e;have a:=h.g;unfold GB at a;simp_all
def iM(W:U)(sv Bl:Qa):Prop:=∀g,Bl.ownBlock=O g->sv.ownBlock=O g∨M (H W)<=g
def iM.refl(W:U)(sv:Qa):iM W sv sv:=λ_ h=>.inl h
def iM.trans{Vt:Qa}(h:iM W sv Bl)(h':iM W' Bl Vt)(hs:M (H W)<=M (H W')):iM W sv Vt:=λg e=>by
 rcases h' g e with a|a
 .exact h g a
 omega
def Rest(b:Nat)(sv:Qa)(x:Nat):Prop:=x≠b/\sv.ownBlock≠O x
def Rest.next{x:Nat}(h:Rest b sv x)(hn:iM W sv Bl)(hx:x<M (H W)):Rest b Bl x:=⟨h.1,λe=>by
 rcases hn x e with a|a
 .exact h.2 a
 .omega⟩
theorem bJ.push(h:bJ W b base tT tI ao po cap aU ts q pl seen sv)(ht:tI≠tT)(hb:Bw W Xq){w5:U}(hk5:Kept (λx=>sv.ownBlock≠O x) Xq w5)(l9:w5.ownsRow base tI 1 Bl (N ((seen.map λ(i:Nat)=>(i:Int))++[(i:Int)])) (((seen.map λ(i:Nat)=>(i:Int))++[(i:Int)]).map (Value.int J)))
  (hat:Bl.ownBlock=sv.ownBlock∨Bl.ownBlock=O (M (H Xq)+1)) {Yq:U} (hY:Yq=Ql w5 (aD b 9) Bl) :
  bJ Yq b base tT tI ao po cap aU ts q pl (seen++[i]) Bl/\iM W sv Bl/\Kept (Rest b sv) W Yq/\(∀x,M (H W)<=x->x<M (H Xq)->Yq.heap[x]? = Xq.heap[x]?):=by
 have m:=h.ne ht;have r:=h.below hb;have n:GB w5 b tT _:=r.g.of (hk5.block b r.g.lt m);have v:=hb.size;have d:∀x,M (H W)<=x->sv.ownBlock≠O x:=λx l e=>by have:=(ZJ h.own e).2;omega
 have t:∀x,x≠b->Yq.heap[x]? = w5.heap[x]?:=λx l=>by rw[hY];exact Zv l
 have y:=h.g.lt;refine⟨⟨?_,?_,h.lo⟩,?_,?_,?_⟩
 .rw[hY];exact n.set 9 Bl
 .have f:N ((seen.map λ(i:Nat)=>(i:Int))++[(i:Int)])=N (seen++[i]):=Qb
  have j:((seen.map λ(i:Nat)=>(i:Int))++[(i:Int)])=((seen++[i]).map λ(i:Nat)=>(i:Int)):=Qb;rw[f,j]at l9;have p:Bl.ownBlock≠O b:=λe=>by grind
  rw[hY];rcases l9.2 with⟨a,k⟩|⟨g,c,cur,a,k,h3,h4⟩
  .grind
  .refine⟨l9.1,.inr ⟨g,c,cur,a,k,?_,h4⟩⟩;have z:g≠b:=λe=>p (by rw[a,e];rfl)
   grind
 .intro g e
  grind
 .refine⟨?_,?_,?_,?_,λx l u=>?_⟩
  .rw[hY];exact hk5.os.trans hb.os
  .rw[hY];exact hk5.tape.trans hb.tape
  .rw[hY];exact hk5.output.trans hb.output
  .have a:M (H Yq)=M (H w5):=Qg
   have:=hk5.size;omega
  .rw[t x u.1,hk5.block x X u.2,hb.block x l]
 .intro x a k;rw[t x X,hk5.block x k (d x a)]
end
def aJ.At(v:aJ)(Zq:U):Prop:=(v.s.At Zq/\(v.s.ad=Qp->v.s.cap=0))/\(v.c.At Zq/\(v.c.ad=Qp->v.c.cap=0))/\v.o.At Zq
def Mine(n0 m:Nat)(b:Nat)(u:Qa)(x:Nat):Prop:=(x<n0∨m<=x)/\Rest b u x
structure VQ(St:U->Qu Nat->Qa->Prop)(n0:Nat)(W:U)(b:Nat)(sv:Qa)(o:Option (bn × Qu Nat))(e:Ending)(W':U):Prop where
 kept:Kept (Rest b sv) W W'
 out:∃v:aJ,e=Qs (Qt #[Qr v.cells,Qo o.isSome])/\∀x,o=O x->v.d=x.1/\∃u,St W' x.2 u/\iM W sv u/\∀Zq,Kept (Mine n0 (M (H W)) b u) W' Zq->v.At Zq
def World.iC(W:U)(B:Nat)(v:aJ):World:=
 Ql (Ql (Ql (Ql (Ql (Ql W (aD B 0) v.s.val) (aD B 1) v.c.val) (aD B 2) v.o.val) (aD B 3) (Qo v.out)) (aD B 4) (I Qn (v.size:Int))) (aD B 5) (I Qn (v.cost:Int))
def World.lX{a0 a1 a2 a3 a4 a5:Qa}(h:GB W B t #[a0,a1,a2,a3,a4,a5])(v:aJ):GB (World.iC W B v) B t v.cells:=
 (((((h.set 0 v.s.val).set 1 v.c.val).set 2 v.o.val).set 3 (Qo v.out)).set 4 (I Qn (v.size:Int))).set 5 (I Qn (v.cost:Int))
def World.rU(W:U)(B:Nat)(v:aJ):Kept (λx=>x≠B) W (World.iC W B v):=by unfold World.iC;exact(((((ZG _ (aD B 0) _ (λh=>h rfl)).trans (ZG _ (aD B 1) _ (λh=>h rfl))).trans (ZG _ (aD B 2) _ (λh=>h rfl))).trans (ZG _ (aD B 3) _ (λh=>h rfl))).trans (ZG _ (aD B 4) _ (λh=>h rfl))).trans (ZG _ (aD B 5) _ (λh=>h rfl))
def bJ.but{base:Nat}(h:bJ W b base tT tI ao po cap aU ts q pl seen sv)(hk:Kept (λy=>¬Rest b sv y) W W'):bJ W' b base tT tI ao po cap aU ts q pl seen sv:=by
 refine⟨h.g.of (hk.block _ h.g.lt (λr=>r.1 rfl)),?_,h.lo⟩;rcases h.own.2 with⟨h1,h2⟩|⟨g,c,cur,h1,h2,h3,h4⟩
 .exact⟨h.own.1,.inl ⟨h1,h2⟩⟩
 .refine⟨h.own.1,.inr ⟨g,c,cur,h1,h2,?_,h4⟩⟩;rw[hk.block g (ZI.1 h3).1 (λr=>r.2 (by rw[h1];rfl))];exact h3
def bJ.old{w0:U}(h:bJ W b (M (H w0)) tT tI ao po cap aU ts q pl seen sv):∀x,x<M (H w0)->Rest b sv x:=λx a=>
 ⟨Qj h.lo,λe=>Qj ((ZJ h.own e).1)⟩
def Bn(hd:seen.Nodup)(hl:∀x∈seen,x<n):N seen<=n:=by have h:=gX hl;rw[<-h];exact rD (λk=>List.nodup_iff_count.1 hd k) n
def aJ.At.zero(Zq:U):tO.At Zq:=⟨⟨⟨by simp[tO],λi a=>absurd a (by simp[tO])⟩,λ_=>rfl⟩,⟨⟨by simp[tO],λi a=>absurd a (by simp[tO])⟩,λ_=>rfl⟩,⟨by simp[tO],λi a=>absurd a (by simp[tO])⟩⟩
def VQ.no{St:U->Qu Nat->Qa->Prop}{Zq:U}(h:Kept (Rest b sv) W Zq)(v:aJ):VQ St n0 W b sv Qp (Qs (Qt #[Qr v.cells,Qo F])) Zq:=⟨h,v,rfl,λ_ h=>by cases h⟩
def VQ.lay{o:Option (bn × Qu Nat)}{e:Ending}(hw:n0<=M (H W))(hT:bJ W b n0 tT tI ao po cap aU ts q pl seen sv)(hX:Kept (Rest b sv) W Xq){R:Nat}(hR:M (H W)<=R)(hRX:R<M (H Xq)){Vv:Qa}(hn:iM W sv Vv)(hr:Kept (Rest b Vv) Xq W'->Kept (Rest b sv) W W')
  (h:VQ (λZq s u=>bJ Zq b n0 tT tI ao po cap aU ts q pl s u) n0 Xq b Vv o e W') (hsv:Vv.ownBlock≠O R) (v:aJ):VQ (λZq s u=>bJ Zq b n0 tT tI ao po cap aU ts q pl s u) n0 W b sv o e (World.iC W' R v):=by
 have d:=World.rU W' R v;have B:=hT.g.lt;have j:=hX.size;refine⟨(hr h.kept).trans' d (λx i _=>by show x≠R;omega),?_⟩;obtain⟨l,m,n⟩:=h.out;refine⟨l,m,λx i=>?_⟩;obtain⟨p,u,r,f,z⟩:=n x i;have k:u.ownBlock≠O R:=λe=>by
  rcases f R e with h|h
  .exact hsv h
  .omega
 refine⟨p,u,r.but (d.mono λy _ a e=>a (by rw[e];exact⟨X,k⟩)),hn.trans f j,λZq A=>z Zq ?_⟩;refine Kept.trans' (d.mono (t:=Mine n0 (M (H Xq)) b u) λy _ a e=>?_) A (λy _ a=>⟨?_,a.2⟩)
 .have:=a.1;omega
 .have:=a.1;omega
def mem_cast{k:Int}(h0:0<=k):(k∈seen.map λ(i:Nat)=>(i:Int))↔k.toNat∈seen:=by
 rw[List.mem_map];constructor
 .rintro⟨a,b,rfl⟩
  simpa using b
 .intro h;exact⟨k.toNat,h,X⟩
def fG(ts:Qu af)(q:ae)(pl:Qu ag)(f i:Nat)(k:Int)(seen:Qu Nat):Option (bn × Qu Nat):=if k<0∨(i:Int)<=k∨k.toNat∈seen then Qp else bX ts q pl f k.toNat seen
def Tryz.EI:3≠69:=Qd
def kV{v:aJ}(h:GB W B 40 v.cells):(loadVar 40 (aD B 0)).run V W=.ok (Qr v.cells) W:=by obtain⟨a,b,d,e,f,g⟩:=h.k6;unfold aJ.cells;simp[go_sem,a,b,d,e,f,g]
def GB.f6{c:Array Qa}(h:GB W B t c):W.frozen? (aD B 0)=F/\W.frozen? (aD B 1)=F/\W.frozen? (aD B 2)=F/\W.frozen? (aD B 3)=F/\W.frozen? (aD B 4)=F/\W.frozen? (aD B 5)=false:=⟨h.frozen 0,h.frozen 1,h.frozen 2,h.frozen 3,h.frozen 4,h.frozen 5⟩
def vR{fn:Func}{p u:Tmp}{ty:TypeId}(h:fn.results=#[.cell p ty,.tmp u]){tmps:Array Qa}{P:Program}{w:U}{B:Nat}{v x:Qa}(hp:tmps.getD p undef=Y (O (aD B 0)))(hu:tmps.getD u undef=x)(hl:(loadVar ty (aD B 0)).run P w=.ok v w) :
  (results fn tmps).run P w=.ok (Qt #[v,x]) w:=by rw[results_cell_tmp h,hp,hu];simp[go_sem]at hl ⊢;simp[hl]
def VC(w0:U)(b:Nat)(ao po:JW)(cap aU:Nat)(ts:Qu af)(q:ae)(pl:Qu ag)(f:Nat):Prop:=
 ∀(i:Nat) (W:U) (seen:Qu Nat) (sv:Qa),i<f->i<N pl->bJ W b (M (H w0)) 69 3 ao po cap aU ts q pl seen sv->Bw w0 W->seen.Nodup->(∀x∈seen,x<N pl)->i ∉ seen->
  Calls V 15 #[Y (O (aD b 0)),I J i] W (VQ (λZq s u=>bJ Zq b (M (H w0)) 69 3 ao po cap aU ts q pl s u) (M (H w0)) W b sv (bX ts q pl f i seen))
theorem H8(w0:U)(b:Nat)(ao po:JW)(cap aU:Nat)(ts:Qu af)(q:ae)(pl:Qu ag)(f:Nat)(hV:VC w0 b ao po cap aU ts q pl f)(i:Nat)(k:Int)(hi:i<=f)(BX:i<N pl)(U1:N pl<=64)(W:U)(seen:Qu Nat)(sv:Qa)
  (hT:bJ W b (M (H w0)) 69 3 ao po cap aU ts q pl seen sv) (hW:Bw w0 W) (hd:seen.Nodup) (hl:∀x∈seen,x<N pl) :
  Calls V 34 #[Y (O (aD b 0)),I J i,I J k] W (VQ (λZq s u=>bJ Zq b (M (H w0)) 69 3 ao po cap aU ts q pl s u) (M (H w0)) W b sv (fG ts q pl f i k seen)):=by
 obtain⟨G,K,r,a⟩:=aY W #[Z Qp 0 0,Z Qp 0 0,Z Qp 0 0,Qo F,I Qn 0,I Qn 0] 40;have ak:=Bn hd hl;have n:=hT.below r;obtain⟨L,P,rfl,Q⟩:=dY n.own Qi;have t9:=n.g.at 9;have R:=iR L P _ k G Q;have aa:=hW.size;have au:=hT.g.lt;have S:Kept (Rest b (Z L (N (seen.map λ(i:Nat)=>(i:Int))) P)) W G:=ZE r λ_ h _=>h;have y:(Value.slice L (N (seen.map λ(i:Nat)=>(i:Int))) P).ownBlock≠O (M (H W)):=λe=>Qj ((ZJ hT.own e).2);have aj:Qk (∀(v:aJ) (W':U),GB W' (M (H W)) 40 v.cells->(loadVar 40 (aD (M (H W)) 0)).run V W' = .ok (Qr v.cells) W'):=λv W'=>kV;have l:Qk (VQ (λZq s u=>bJ Zq b (M (H w0)) 69 3 ao po cap aU ts q pl s u) (M (H w0)) W b (Z L (N (seen.map λ(i:Nat)=>(i:Int))) P) Qp (Qs (Qt #[Qr tO.cells,Qo F])) (World.iC G (M (H W)) tO)):=
  VQ.no (S.trans' (World.rU _ _ _) λx hx _=>by show x≠M (H W);omega) tO
 have z:=Zh λ(B:Nat) (h:B<i) (m:B ∉ seen)=>hV B G seen _ X X n (ah hW r) hd hl m;have RG:=Zh λ(o:Option (bn × Qu Nat)) (e:Ending) (W':U) (v:aJ) (h:VQ (λZq s u=>bJ Zq b (M (H w0)) 69 3 ao po cap aU ts q pl s u) (M (H w0)) G b (Z L (N (seen.map λ(i:Nat)=>(i:Int))) P) o e W')=>And.intro (VQ.lay aa hT S (Q6 _) a.lt (iM.refl _ _) (λk=>S.trans k) h y v) (a.of (h.kept.block _ a.lt ⟨X,y⟩));have HM:=Zh λ(h:0<=k)=>mem_cast (seen:=seen) h;have HG:=Zh a;generalize (seen.map λ(i:Nat)=>(i:Int))=sx at*;clear hT n Q hV hd hl hW r S y;unfold fG;by_cases d:k<0∨(i:Int)<=k∨k.toNat∈seen
 .rw[Q8 d];have C:=Zh (kV (World.lX HG.out tO));have hc:=HG.out.k6;have hf:=GB.f6 HG.out;unfold World.iC aJ.cells at l C;simp only[tO,ai.val,XB,Int.natCast_zero]at l C;have hk:k<0∨(¬k<0/\(i:Int)<=k)∨(¬k<0/\¬(i:Int)<=k/\decide (k∈sx)=T):=by
   by_cases A:k<0
   .exact .inl A
   by_cases D:(i:Int)<=k
   .exact .inr (.inl ⟨A,D⟩)
   .exact .inr (.inr ⟨A,D,Zg ((HM.out X).2 Qc)⟩)
  clear d z RG HM a aj;go_enter func34,ntmps34;go_wp2_with fail;refine R.mono ?_;clear R K t9;rintro e w2 ⟨rfl,rfl⟩;rcases hk with A|⟨A,D⟩|⟨A,D,c3⟩
  all_goals
   go_wp2;exact Xy (vR (p:=6) (u:=7) (x:=Qo F) rfl rfl rfl C.out) rfl l.out
 .rw[Zf d];have A:¬k<0:=λh=>d (.inl h)
  have D:¬(i:Int)<=k:=λh=>d (.inr (.inl h));have m:k.toNat ∉ seen:=λh=>d (.inr (.inr h));have c3:decide (k∈sx)=false:=ZL λh=>m ((HM.out X).1 h);have KQ:=z.out k.toNat X m;obtain⟨B,rfl⟩:∃B:Nat,k=(B:Int):=⟨k.toNat,X⟩;rw[Xk]at KQ ⊢;generalize bX ts q pl f B seen=Oq at*;clear d z HM a m l;go_enter func34,ntmps34;go_wp2_with fail;refine R.mono ?_;clear R K t9;rintro e w2 ⟨rfl,rfl⟩;go_wp2_with fail;refine KQ.mono ?_;clear KQ;rintro e w3 j;obtain⟨v,rfl,-⟩:=j.out;obtain⟨t,a⟩:=RG.out _ _ _ v j;obtain⟨C,Ky⟩:=bV (kV (World.lX a v)) t;have hc:=a.k6;have hf:=GB.f6 a;clear t j RG a;obtain⟨⟨av,ax,ay⟩,⟨az,aA,aB⟩,⟨aC,aF,aG⟩,aH,aI,aK⟩:=v;unfold World.iC aJ.cells ai.val at*;simp only at*;go_wp2;exact Xy (vR (p:=6) (u:=7) (x:=Qo Oq.isSome) rfl rfl rfl C.out) rfl Ky.out
def XD:=@World.rU
def XE:=@vR
