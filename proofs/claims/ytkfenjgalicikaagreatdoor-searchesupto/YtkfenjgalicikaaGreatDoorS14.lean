import Derived.Test.YtkfenjgalicikaaGreatDoorS12
import Derived.Test.YtkfenjgalicikaaGreatDoorS13
set_option linter.all false
set_option maxRecDepth 100000
set_option maxHeartbeats 0
namespace Go.Proofs.Zz
open Go.RowKit Go.Shelf Go.Proofs.Tryz
open List renaming length->N,getD->E
open Go.Value renaming slice->Z,int->I,pointer->Y,bool->Qq,agg->Qt
open Go.Proofs.Tryz renaming prog->V
open Option renaming some->O,none->Qr
open Go.IntKind renaming i64->J
open Bool renaming false->F,true->T
open Go renaming World->U,Value->Ql
open Go.World renaming heap->H,setCell->Qn,cell?->Qo
open _root_.Array renaming size->M
open Go.RowKit renaming Hid->Qm
open Go.Obj renaming cells->Qs
open Go.Ending renaming returned->Qu
variable {Oq ns o:IC} {u:bF} {m x:Int} {ts:JK af} {q:ae} {conc:JK Nat} {A G S a aI b bc bd be bf bo bp bu bw c i i1 i2 j k k1 k2 len lo n s s1 s2 sz tA tC tG tN tR tS tT wb:Nat} {B:Pm} {W W0 Xq w w':U} {e t tE tI tL:TypeId} {cs:JK aV} {v va vn vp:Ql} {P:Program} {vM:Int->JK Ql} {l:dG} {rk:Nat->Int} {σ:fE} {pl:JK ay} {ps:JK dG}
def CvP(g:JK aK)(Oq:IC)(c:Nat):Prop:=∀p∈g,aN Oq p.1=T->∃x,p.2=O x/\x.2.d.aJ<=c
def CvP.head{q:ae}{s:Nat}{g:JK aK}{Oq:IC}{c:Nat}(h:CvP g Oq c)(hg:zh q s g):∃r p x,df g=O r/\p∈g/\p.2=O x/\x.2=r/\r.d.aJ<=c:=by obtain⟨f,r,e,_⟩:=hg.head;have b:(([],f):aK)∈g:=Qf;obtain⟨x,a,i⟩:=h _ b (vG Oq);have a:f=O x:=a;exact⟨x.2,_,x,by rw[e,a];rfl,b,a,rfl,i⟩
structure Pcs(g:JK aK)(c z:Nat):Prop where
 tg:Tg g
 cl:∀p∈g,∀x:Nat × bF,p.2=O x->x.2.d.aG=c/\x.2.d.size=z
theorem ah3(ts:JK af)(q:ae){kind:Int}(hk:kind=3∨kind=4∨kind=5)(cl:IC)(key:Int)(l r:bF):(aS ts q (fq kind cl key) [l,r]).d.aH=l.d.aH/\(aS ts q (fq kind cl key) [l,r]).d.ah=l.d.ah|||r.d.ah/\(aS ts q (fq kind cl key) [l,r]).d.aG=bn cl|||l.d.aG|||r.d.aG/\(aS ts q (fq kind cl key) [l,r]).d.size=jd ts q (l.d.ah|||r.d.ah) (bn cl|||l.d.aG|||r.d.aG)/\(aS ts q (fq kind cl key) [l,r]).d.aJ=dn kind (aS ts q (fq kind cl key) [l,r]).d.size l.d.aJ l.d.size r.d.aJ r.d.size:=by
 have es:(aS ts q (fq kind cl key) [l,r]).d.ah=l.d.ah|||r.d.ah:=by show (if kind=1 then _ else 0)|||l.d.ah|||r.d.ah=_;grind
 refine⟨?_,es,rfl,?_,rfl⟩
 .show (if kind=6 then _ else if 2<=kind/\kind<=5 then l.d.aH else [])=_
  grind
 .rw[<-es]
  show (if gI kind=T then l.d.size else _)=_;rw[Zk (by rcases hk with rfl|rfl|rfl <;> decide)];rfl
def aax{u:IC}(h0:o≠[])(h1:aN Oq o=T)(h2:aN Oq [x]=T)(h3:aN u o=T):aN u [x]=true:=by
 unfold aN at*;simp only[Q8,Zi]at*
 match o,h0,Oq,u with
 |a::o,_,[],_=>simp at h1
 |a::o,_,b::Oq,[]=>simp at h3
 |a::o,_,b::Oq,c::u =>
  simp_all
theorem ah4{gA gB:JK aK}{B cA cB zA zB:Nat}(hA:zh q A gA)(hB:zh q B gB)(pA:Pcs gA cA zA)(pB:Pcs gB cB zB){O1 O2:IC}{c1 c2:Nat}(h1:CvP gA O1 c1)(h2:CvP gB O2 c2)(ho:∃p∈gA,p.1=o)(hs:aN O1 o=T){kind key:Int}
  (hk:kind=3/\key=0∨key∈dZ (bX conc A B)/\∃x y,lZ ts q (fq 4 (dZ (bX conc A B)) key) A B=(x,y,T)/\(kind=4∨kind=5/\aN O1 [x]=T/\aN O2 [y]=T/\(∃p∈gA,p.1=[x])/\∃p∈gB,p.1=[y])) {C:Nat} (hC:C=bn (dZ (bX conc A B))|||cA|||cB) :
  ∃t∈jo ts q conc gA gB,aN t.d.aH o=T/\t.d.ah=A|||B/\t.d.aG=C/\t.d.size=jd ts q (A|||B) C/\t.d.aJ<=dn kind (jd ts q (A|||B) C) c1 zA c2 zB:=by
 obtain⟨r,pr,xr,hr,g,i,er,ag⟩:=h2.head hB;have G:kind=3∨kind=4∨kind=5:=by omega
 have fin:∀{p p':aK} {u v:Nat × bF},p∈gA->p.2=O u->u.2.d.aJ<=c1->aN u.2.d.aH o=T->p'∈gB->p'.2=O v->v.2.d.aJ<=c2->aS ts q (fq kind (dZ (bX conc A B)) key) [u.2,v.2]∈jo ts q conc gA gB->∃t∈jo ts q conc gA gB,aN t.d.aH o=T/\t.d.ah=A|||B/\t.d.aG=C/\t.d.size=jd ts q (A|||B) C/\t.d.aJ<=dn kind (jd ts q (A|||B) C) c1 zA c2 zB:=λ{p p' u v} a b f hs hp' z hv gH=>by obtain⟨g1,g2,g3,S,g5⟩:=ah3 ts q G (dZ (bX conc A B)) key u.2 v.2;have su:=(hA.all p a u b).2.1;have sv:=(hB.all p' hp' v z).2.1;have K:=pA.cl p a u b;have L:=pB.cl p' hp' v z;rw[su,sv]at g2;rw[K.1,L.1,<-hC]at g3;rw[su,sv,K.1,L.1,<-hC]at S;rw[S,K.2,L.2]at g5;exact⟨_,gH,Qf,g2,g3,S,by rw[g5];exact nP _ _ _ _ f hv⟩
 by_cases h5:kind=5
 .obtain⟨k1,x,y,k2,k3⟩:=hk.resolve_left X;obtain⟨-,sx,sy,W,pb,Bv,eb⟩:=k3.resolve_left X;have f:∃p∈gA,∃u,p.2=O u/\u.2.d.aJ<=c1/\aN u.2.d.aH o=T/\aN u.2.d.aH [x]=true:=by
   by_cases j:o=[]
   .obtain⟨p,a,e⟩:=W;obtain⟨u,b,f⟩:=h1 p a Qb;exact⟨p,a,u,b,f,by rw[j];rfl,e ▸ pA.tg.ord p a u b⟩
   .obtain⟨p,a,e⟩:=ho;obtain⟨u,b,f⟩:=h1 p a Qb;have k:=pA.tg.ord p a u b;rw[e]at k;exact⟨p,a,u,b,f,k,aax j hs sx k⟩
  obtain⟨p,a,u,b,f,k,ox⟩:=f;obtain⟨v,z,hv⟩:=h2 pb Bv Qb;obtain⟨m,hm,aa,_⟩:=pB.tg.att Bv z (by rw[<-eb];exact pB.tg.ord pb Bv v z);obtain⟨n,hn⟩:=pA.tg.FY a b;have P:∃R∈gB,∃xm:Nat × bF,R.2=O xm/\xm.2=m:=by
   rcases FW y _ Qr m hm with j|⟨n',Q⟩
   .cases j
   .rcases oz gB [] _ Q with j|⟨R,l,e'⟩
    .cases j
    grind
  obtain⟨R,l,xm,em,rfl⟩:=P;obtain⟨_,j2⟩:=Tj (ts:=ts) (q:=q) (conc:=conc) hn hr rfl;rw[(hA.all p a u b).2.1,<-er,(hB.all pr g xr i).2.1]at j2;exact fin a b f k l em (ZU aa hv) Qb
 .obtain⟨p,a,e⟩:=ho;obtain⟨x,D,W⟩:=h1 p a Qb;obtain⟨n,hn⟩:=pA.tg.FY a D;obtain⟨j1,j2⟩:=Tj (ts:=ts) (q:=q) (conc:=conc) hn hr rfl;rw[(hA.all p a x D).2.1,<-er,(hB.all pr g xr i).2.1]at j1 j2;refine fin a D W (by rw[<-e];exact pA.tg.ord p a x D) g i Qb ?_
  grind
def anq{t:Nat}(h:GB w b t (pF ts))(hl:N ts<=192153584101141162):aZ w (O (aD b 0)) ts:=by
 refine⟨hl,λi d=>⟨b,0,rfl,?_⟩⟩;have a:∀j,j<6->Qo w (aD b (0+(i*6+j)))=(pX (E ts i tz))[j]?:=λj e=>by rw[ZT,h.cell];unfold pF;rw[Zx];exact Cn pX 6 mK tz ts _ i j d e
 exact⟨a 0 X,a 1 X,a 2 X,a 3 X,a 4 X,a 5 X⟩
def aqQ{t:Nat}(h:GB w b t (iC cs))(hl:N cs<=230584300921369395):bZ w (O (aD b 0)) cs:=by
 refine⟨hl,λi d=>⟨b,0,rfl,?_⟩⟩;have a:∀j,j<5->Qo w (aD b (0+(i*5+j)))=(aV.jQ (E cs i cz))[j]?:=λj e=>by rw[ZT,h.cell];unfold iC;rw[Zx];exact Cn aV.jQ 5 mJ cz cs _ i j d e
 exact⟨a 0 X,a 1 X,a 2 X,a 3 X,a 4 X⟩
def pq(ls:JK aQ)(A:Nat->Nat):JK aQ:=(List.range (N ls)).map λi=>⟨O (aD (A i) 0),(E ls i lz).cs.length+2,(E ls i lz).cs⟩
theorem zP(ls:JK aQ)(A:Nat->Nat):N (pq ls A)=N ls:=by simp[pq]
def yh(ls:JK aQ)(A:Nat->Nat)(hi:i<N ls):E (pq ls A) i lz=⟨O (aD (A i) 0),(E ls i lz).cs.length+2,(E ls i lz).cs⟩:=by unfold pq;simp[List.getD,hi]
def aje(ls:JK aQ)(A:Nat->Nat):(pq ls A).map aQ.cs=ls.map aQ.cs:=by
 apply List.ext_getElem?;intro i;by_cases a:i<N ls
 .simp[pq,a]
 .simp[pq,a]
def yj(q:ae)(bf bk bu be bo bw:Nat)(A:Nat->Nat):ae:=
 ⟨⟨O (aD bf 0),N q.au.xs+2,q.au.xs⟩,O (aD bw 0),N q.wh+2,pq q.wh A,q.aF,⟨O (aD bk 0),N q.aC.xs+2,q.aC.xs⟩,⟨O (aD bu 0),N q.aM.xs+2,q.aM.xs⟩,⟨O (aD be 0),N q.bA.xs+2,q.bA.xs⟩,⟨O (aD bo 0),N q.ord.xs+2,q.ord.xs⟩⟩
theorem BZ(q:ae)(bf bk bu be bo bw:Nat)(A:Nat->Nat)(ts:JK af):(yj q bf bk bu be bo bw A).check ts=q.check ts:=by have:(yj q bf bk bu be bo bw A).qU=q.qU:=aje q.wh A;unfold ae.check;rw[this];rfl
theorem aqR{tS:TypeId}{ls:JK aQ}{A:Nat->Nat}{f:Nat->Ql}(hn:n=N ls)(h:w.rowIs b t (n+2) f)(hf:∀i,i<n->f i=Z (O (aD (A i) 0)) (E ls i lz).cs.length ((E ls i lz).cs.length+2))
  (xz:∀i,i<n->GB w (A i) tS (iC (E ls i lz).cs)) (hl:N ls<=1152921504606846976) (iX:∀i,i<N ls->(E ls i lz).cs.length<=230584300921369395):fD w (O (aD b 0)) (pq ls A):=by
 subst hn;refine⟨by grind [zP],λi a=>⟨b,0,rfl,?_⟩,λi a=>?_⟩
 .rw[zP]at a;rw[ZT,h.cell X,hf i a]
  show _=O (E (pq ls A) i lz).val;rw[yh _ _ a];rfl
 .rw[zP]at a;rw[yh _ _ a];exact aqQ (xz i a) (iX i a)
def T9{tI tL:Nat}{bk:Nat}{A:Nat->Nat}
  (h:Giv w w' G tG tC tA tS tI tT tN tR tL ts q bc bf bk bu be bo bw bp bd v A k1 k2 s1 i1 s2 i2) (hq:q.At w):(yj q bf bk bu be bo bw A).At w':=
 ⟨Iz h.au hq.au.1,aqR rfl h.row (λi a=>by rw[Zd a]) h.al hq.wh.1 (λi a=>(hq.wh.2.2 i a).1),Iz h.aC hq.aC.1,Iz h.aM hq.aM.1,Iz h.bA hq.bA.1,Iz h.ord hq.ord.1⟩
def IA{w'':U}{tI tL:Nat}{bk:Nat}{A:Nat->Nat}
  (h:Giv w w' G tG tC tA tS tI tT tN tR tL ts q bc bf bk bu be bo bw bp bd v A k1 k2 s1 i1 s2 i2) (hb:Bw w' w''):Giv w w'' G tG tC tA tS tI tT tN tR tL ts q bc bf bk bu be bo bw bp bd v A k1 k2 s1 i1 s2 i2:=by
 have m:∀{b t:Nat} {c:Array Ql},GB w' b t c->GB w'' b t c:=λg=>g.up hb;exact⟨aO h.Dq hb,h.lo,m h.g,m h.qP,m h.au,m h.aC,m h.aM,m h.bA,m h.ord,h.row.of_block (hb.block _ h.row.lt),λi a=>m (h.al i a),
  qX h.own (Zb _) (λj _ d=>hb.block j d),m h.h1,m h.h2,m h.plan,m h.db,m h.r1,m h.r2,m h.q1,m h.q2,h.fr,h.fa⟩
def J6:=@zP
def ae1(w0 w:U)(G:Nat)(ao:LM)(cap:Nat)(ts:JK af)(q:ae)(bc bf bk bu be bo bw bp bd:Nat)(v:Ql)(A:Nat->Nat)(k1 k2 s1 i1 s2 i2:Nat)
  (h:Giv w0 w G 81 59 57 56 3 54 43 25 26 ts q bc bf bk bu be bo bw bp bd v A k1 k2 s1 i1 s2 i2) (hx:aZ w0 ao ts) (hq:q.At w0) :
  Cb 23 #[Y (O (aD G 0)),Z ao (N ts) cap,Qt q.cells,Z Qr 0 0,Z Qr 0 0] w (Qq T):=by
 have Pn:=hx.1;obtain⟨f,dB⟩:=eY (w.alloc (Qs q.cells 35));have dP:Bw w f:=by rw[dB];exact fo _ _
 have K:GB f (M (H w)) 35 q.cells:=by rw[dB];exact qj _ _
 have j:=IA h dP;have hX:aZ f ao ts:=hx.aj j.Dq;have L:q.At f:=hq.aj j.Dq;have hT:aZ f (O (aD bc 0)) ts:=anq j.qP Pn;have ai:(yj q bf bk bu be bo bw A).At f:=T9 j hq;have P:=λx (d:Bw f x)=>abE w0 x G ts q bc bf bk bu be bo bw bp bd v A k1 k2 s1 i1 s2 i2 (IA j d) Pn hq.wh.1 (λi p=>(hq.wh.2.2 i p).1);have r:=λx (d:Bw f x)=>Ca (O (aD bw 0)) q.iF (N q.wh+2) q.cZ (pq q.wh A) q.wh x (ai.wh.aj d) (L.wh.aj d) (J6 _ _) (λi p=>by rw[J6]at p;rw[yh _ _ p]);have Q:=λx (d:Bw f x)=>yg bf q.au.ad q.au.cap q.au.xs x (j.au.up d) (Zc d L.au);have R:=λx (d:Bw f x)=>yg bk q.aC.ad q.aC.cap q.aC.xs x (j.aC.up d) (Zc d L.aC);have S:=λx (d:Bw f x)=>yg bu q.aM.ad q.aM.cap q.aM.xs x (j.aM.up d) (Zc d L.aM);have W:=λx (d:Bw f x)=>yg be q.bA.ad q.bA.cap q.bA.xs x (j.bA.up d) (Zc d L.bA);have aa:=λx (d:Bw f x)=>yg bo q.ord.ad q.ord.cap q.ord.xs x (j.ord.up d) (Zc d L.ord);have u:=λx=>tO (O (aD bp 0)) Qr 2 0 [] [] x ⟨Qa,λi p=>absurd p Qa⟩ ⟨Qa,λi p=>absurd p Qa⟩ rfl (λi p=>absurd p Qa)
 simp only[XE]at u;rw[J6]at r;have g0:Qo f (aD G 0)=O (Z (O (aD bc 0)) (N ts) (N ts+2)):=j.g.cell 0;have g1:Qo f (aD G 1)=O (Z (O (aD bf 0)) (N q.au.xs) (N q.au.xs+2)):=j.g.cell 1;have g2:Qo f (aD G 2)=O (Z (O (aD bw 0)) (N q.wh) (N q.wh+2)):=j.g.cell 2;have g4:Qo f (aD G 4)=O (Z (O (aD bk 0)) (N q.aC.xs) (N q.aC.xs+2)):=j.g.cell 4;have g5:Qo f (aD G 5)=O (Z (O (aD bu 0)) (N q.aM.xs) (N q.aM.xs+2)):=j.g.cell 5;have g6:Qo f (aD G 6)=O (Z (O (aD be 0)) (N q.bA.xs) (N q.bA.xs+2)):=j.g.cell 6;have g7:Qo f (aD G 7)=O (Z (O (aD bo 0)) (N q.ord.xs) (N q.ord.xs+2)):=j.g.cell 7;have g8:Qo f (aD G 8)=O (Z (O (aD bp 0)) 0 2):=j.g.cell 8;have g9:Qo f (aD G 9)=O (Z (O (aD bd 0)) 0 2):=j.g.cell 9;clear j h ai L hq hx;obtain⟨⟨sa,sc,au⟩,iF,cZ,wh,aF,⟨ka,kc,aC⟩,⟨ua,uc,aM⟩,⟨ea,ec,bA⟩,⟨oa,oc,ord⟩⟩:=q;unfold ae.cells aA.val at*;simp only at*;have x0:Qo f (aD (M (H w)) 0)=O (Z sa (N au) sc):=K.cell 0;have x1:Qo f (aD (M (H w)) 1)=O (Z iF (N wh) cZ):=K.cell 1;have x3:Qo f (aD (M (H w)) 3)=O (Z ka (N aC) kc):=K.cell 3;have x4:Qo f (aD (M (H w)) 4)=O (Z ua (N aM) uc):=K.cell 4;have x5:Qo f (aD (M (H w)) 5)=O (Z ea (N bA) ec):=K.cell 5;have x6:Qo f (aD (M (H w)) 6)=O (Z oa (N ord) oc):=K.cell 6;have zY:Qm (Bw f (w.alloc (Qs #[Z sa (N au) sc,Z iF (N wh) cZ,Qq aF,Z ka (N aC) kc,Z ua (N aM) uc,Z ea (N bA) ec,Z oa (N ord) oc] 35))):=show Below _ _ _ by rw[dB];exact Za _ _
 have vQ:Qm (Bw w f):=dP;clear dB K dP;have ax:∀(a b c e:Int) (x:U),(Op.equalIn 9999 52 (Qt #[I J a,I J b,I J c,I J e]) (Qt #[I J a,I J b,I J c,I J e])).run V x=.ok T x:=λa b c e x=>anr 9997 a b c e x;go_enter func23,ntmps23;go_wp2;go_loopw [11] (λi wr=>∃k:Nat,k<=N ts/\i=I J k/\Bw f wr) (λi _=>N ts-(intOf i).toNat)
 case atStart=>exact⟨0,ZR _,rfl,zY.o⟩
 case round=>
  clear zY;obtain⟨k,hk,rfl,eD⟩:=hrel;by_cases aT:k<N ts
  .obtain⟨b,off,rfl,c0,c1,c2,c3,c4,c5⟩:=hX.2 k aT;obtain⟨b',Mc,ay,d0,d1,d2,d3,d4,d5⟩:=hT.2 k aT
   cases ay;generalize E ts k tz=t at*;obtain⟨m0,m1,m2,m3,m4,m5,n0,n1⟩:=Da eD c0 c1 c2 c3 c4 c5 d0 d1;obtain⟨n2,n3,n4,n5,gg⟩:=qi eD d2 d3 d4 d5 g0;simp only[ZT]at n0 n1 n2 n3 n4 n5;clear c0 c1 c2 c3 c4 c5 d0 d1 d2 d3 d4 d5 hX hT P r Q R S W aa u;go_wp2;go_quiet (fail);refine gQ ?_;exact⟨k+1,X,Qe,Zg eD _⟩
  .clear hX hT ax;obtain⟨m,n⟩:=kP eD g2 x1;have l:=Zh λx (hx:Bw wr x)=>r x (aO eD hx)
   go_wp2;refine Zf ?_;refine qA4 ?_;refine qA3 ?_;refine qK (Qq T) l.o ?_;refine KX ?_;refine X6 ?_;intro wa d;have y:=aO eD d;clear d eD m n l;obtain⟨m,n⟩:=kP y g1 x0;have l:=Zh λx (hx:Bw wa x)=>Q x (aO y hx);go_wp2;refine Zf ?_;refine qA4 ?_;refine qA3 ?_;refine qK (Qq T) l.o ?_;refine KX ?_;refine X6 ?_;intro wb d;have z:=aO y d;clear d y m n l;obtain⟨m,n⟩:=kP z g4 x3;have l:=Zh λx (hx:Bw wb x)=>R x (aO z hx);go_wp2;refine Zf ?_;refine qA4 ?_;refine qA3 ?_;refine qK (Qq T) l.o ?_;refine KX ?_;refine X6 ?_;intro wc d;have B:=aO z d;clear d z m n l;obtain⟨m,n⟩:=kP B g5 x4;have l:=Zh λx (hx:Bw wc x)=>S x (aO B hx);go_wp2;refine Zf ?_;refine qA4 ?_;refine qA3 ?_;refine qK (Qq T) l.o ?_;refine KX ?_;refine X6 ?_;intro wd d;have C:=aO B d;clear d B m n l;obtain⟨m,n⟩:=kP C g6 x5;have l:=Zh λx (hx:Bw wd x)=>W x (aO C hx);go_wp2;refine Zf ?_;refine qA4 ?_;refine qA3 ?_;refine qK (Qq T) l.o ?_;refine KX ?_;refine X6 ?_;intro we d;have D:=aO C d;clear d C m n l;obtain⟨m,n⟩:=kP D g7 x6;have l:=Zh λx (hx:Bw we x)=>aa x (aO D hx);go_wp2;refine Zf ?_;refine qA4 ?_;refine qA3 ?_;refine qK (Qq T) l.o ?_;refine KX ?_;refine X6 ?_;intro wf d;have ag:=aO D d;clear d D m n l;have e8:=cB ag g8;clear r Q R S W aa g0 g1 g2 g4 g5 g6 g7 x0 x1 x3 x4 x5 x6;go_wp2_with fail;refine mR (u _) λwg ak=>?_;have kg:=aO ag ak;clear u e8 ak ag;go_wp2_with fail;refine mR (P _ kg) λaB av=>?_;have kh:=aO kg av;have e9:=cB kh g9;clear P av kg g8 g9;go_wp2;go_loopw [20] (λi ah=>i=I J 0/\Bw f ah) (λ_ _=>0)
   case atStart=>exact⟨rfl,kh⟩
   case round=>
    obtain⟨rfl,OU⟩:=hrel;clear e9 kh;go_wp2;go_loopw [23] (λi ah=>i=I J 0/\Bw f ah) (λ_ _=>0)
    case atStart=>exact⟨rfl,OU⟩
    case round=>
     obtain⟨rfl,az⟩:=hrel;go_wp2;go_ret;exact⟨rfl,aO vQ.o az⟩
section
structure qh where
 g:Option Nat
 len:Nat
 cap:Nat
 m:Int
def qh.val(e:qh):Value:=Z (e.g.map λg=>(aD g 0)) e.len e.cap
def qh.At(sz:Nat)(vM:Int->JK Ql)(W:U)(e:qh):Prop:=e.len<=100000/\∀i,i<e.len->∃g,e.g=O g/\∀j v,(vM e.m)[j]? = O v->Qo W (aD g (i*sz+j))=O v
structure dD(tL tI:TypeId)(sz:Nat)(vM:Int->JK Ql)(lo:Nat)(vi vm:Ql)(es:JK qh)(ms:IC)(W:U):Prop where
 EM:W.ownsRow lo tL 1 vi (N es) (es.map qh.val)
 wP:W.ownsRow lo tI 1 vm (N ms) (ms.map (Value.int J))
 oO:∀e∈es,e.At sz vM W
 off:∀e∈es,∀g,e.g=O g->g<M (H W)/\vi.ownBlock≠O g/\vm.ownBlock≠O g
def dD.own(vi vm:Ql)(es:JK qh)(b:Nat):Prop:=vi.ownBlock=O b∨vm.ownBlock=O b∨∃e∈es,e.g=O b
variable {tL tI:TypeId} {sz:Nat} {vM:Int->JK Ql} {lo:Nat} {vi vm rQ rU:Ql} {es:JK qh} {ms:IC} {W Xq:U}
def qh.At.bT{e:qh}(h:e.At sz vM W){s:Pm}(hk:aB s W Xq)(hs:∀g,e.g=O g->s g):e.At sz vM Xq:=⟨h.1,λi d=>by
 obtain⟨g,a,b⟩:=h.2 i d;exact⟨g,a,λj v f=>JE hk (b j v f) (hs g a)⟩⟩
def dD.bT(h:dD tL tI sz vM lo vi vm es ms W){s:Pm}(hk:aB s W Xq)(hs:∀b,dD.own vi vm es b->s b):dD tL tI sz vM lo vi vm es ms Xq:=
 ⟨Xw h.EM hk λg a=>hs g (.inl a),Xw h.wP hk λg a=>hs g (.inr (.inl a)),λe d=>(h.oO e d).bT hk λg a=>hs g (.inr (.inr ⟨e,d,a⟩)),λe d g a=>⟨ZO (h.off e d g a).1 hk.size,(h.off e d g a).2⟩⟩
theorem dD.aAf(h:dD tL tI sz vM lo vi vm es ms W)(fG:tL≠tI){e:qh}(he:e.At sz vM W)(ho:∀g,e.g=O g->g<M (H W)/\vi.ownBlock≠O g/\vm.ownBlock≠O g)(bG:Xq.ownsRow lo tL 1 rQ (N (es++[e])) ((es++[e]).map qh.val))(hk:aB (λb=>vi.ownBlock≠O b) W Xq)(jl:rQ.ownBlock=vi.ownBlock∨∃g,rQ.ownBlock=O g/\M (H W)<=g):dD tL tI sz vM lo rQ vm (es++[e]) ms Xq:=by
 have f:∀b,vm.ownBlock=O b->vi.ownBlock≠O b:=λb k n=>by obtain⟨p,j⟩:=og h.EM n;obtain⟨c2,l⟩:=og h.wP k;simp_all
 have a:∀x∈es++[e],x.At sz vM W/\∀g,x.g=O g->g<M (H W)/\vi.ownBlock≠O g/\vm.ownBlock≠O g:=λx d=>by
  rcases Z5.1 d with d|d
  .exact⟨h.oO x d,h.off x d⟩
  simp_all
 refine⟨bG,Xw h.wP hk f,λx d=>(a x d).1.bT hk λg i=>((a x d).2 g i).2.1,λx d g i=>?_⟩;obtain⟨j,l,m⟩:=(a x d).2 g i;refine⟨ZO j hk.size,λk=>?_,m⟩;grind
theorem dD.aAg(h:dD tL tI sz vM lo vi vm es ms W)(fG:tL≠tI)(bG:Xq.ownsRow lo tI 1 rU (N (ms++[m])) ((ms++[m]).map (Value.int J)))(hk:aB (λb=>vm.ownBlock≠O b) W Xq)(jl:rU.ownBlock=vm.ownBlock∨∃g,rU.ownBlock=O g/\M (H W)<=g):dD tL tI sz vM lo vi rU es (ms++[m]) Xq:=by
 have d:∀b,vi.ownBlock=O b->vm.ownBlock≠O b:=λb j k=>by obtain⟨l,f⟩:=og h.EM j;obtain⟨c2,i⟩:=og h.wP k;simp_all
 refine⟨Xw h.EM hk d,bG,λx a=>(h.oO x a).bT hk λg e=>(h.off x a g e).2.2,λx a g e=>?_⟩;obtain⟨f,i,n⟩:=h.off x a g e;refine⟨ZO f hk.size,i,λj=>?_⟩;grind
structure VB(tE:TypeId)(sz:Nat)(vM:Int->JK Ql)(vi vm:Ql)(es:JK qh)(m:Int)(len:Nat)(v:Ql)(W:U):Prop where
 own:W.ownsRow 0 tE sz v len ((List.replicate len (vM m)).flatten)
 off:∀b,v.ownBlock=O b->vi.ownBlock≠O b/\vm.ownBlock≠O b
 auX:∀e∈es,∀b,e.g=O b->v.ownBlock=O b->e.m=m/\e.len<=len
theorem VD{l:JK Ql}{sz:Nat}(hl:N l=sz):∀{n i j:Nat} {u:Ql},i<n->l[j]? = O u->((List.replicate n l).flatten)[i*sz+j]? = O u
 |0,_,_,_,h,_=>absurd h X
 |n+1,0,j,u,_,hj=>by grind
 |n+1,i+1,j,u,h,hj=>by rw[List.replicate_succ,List.flatten_cons,Zw Qb,hl,Nat.succ_mul,show i*sz+sz+j-sz=i*sz+j by omega];exact VD hl X hj
theorem zL{base:Nat}{xs:JK Ql}(h:Xq.ownsRow base t sz v n xs)(hb:v.ownBlock=O b){u:Ql}(hk:xs[k]? = O u):Qo Xq (aD b k)=O u:=by
 rcases h.2 with⟨rfl,h0⟩|⟨g,cap,iw,rfl,_,hg,_,_,_,ht⟩
 .cases hb
 .cases hb
  have a:GB Xq g t iw:=hg;rw[a.cell k];grind
theorem dD.grow(h:dD tL tI sz vM lo vi vm es ms W){v':Ql}(hs:∀m,N (vM m)=sz)(hh:VB tE sz vM vi vm es m len v W)(bG:Xq.ownsRow 0 tE sz v' (len+1) ((List.replicate (len+1) (vM m)).flatten))(hk:aB (λb=>v.ownBlock≠O b) W Xq)(jl:v'.ownBlock=v.ownBlock∨(∃g,v'.ownBlock=O g/\M (H W)<=g)/\aB (λ_=>True) W Xq) :
  dD tL tI sz vM lo vi vm es ms Xq/\VB tE sz vM vi vm es m (len+1) v' Xq:=by
 refine⟨⟨Xw h.EM hk λg f e=>(hh.off g e).1 f,Xw h.wP hk λg f e=>(hh.off g e).2 f,λe d=>?_,λe d g f=>⟨ZO (h.off e d g f).1 hk.size,(h.off e d g f).2⟩⟩,bG,λb l=>?_,λe d b l p=>?_⟩
 .rcases jl with k|⟨_,n⟩
  .by_cases f:∃b,e.g=O b/\v.ownBlock=O b
   .obtain⟨b,r,y⟩:=f;obtain⟨z,C⟩:=hh.auX e d b r y;have t:=h.oO e d;refine⟨t.1,λi D=>⟨b,r,λj u A=>?_⟩⟩;rw[z]at A
    grind [zL,VD]
   .exact(h.oO e d).bT hk λg q B=>f ⟨g,q,B⟩
  .exact(h.oO e d).bT n λ_ _=>trivial
 .rcases jl with k|⟨⟨g,k,n⟩,_⟩
  .grind [VB.off]
  .rw[k]at l
   cases l;exact⟨λe=>Qj ((Xy h.EM e).2),λe=>Qj ((Xy h.wP e).2)⟩
 .rcases jl with k|⟨⟨g,k,n⟩,_⟩
  .obtain⟨a,c⟩:=hh.auX e d b l (k ▸ p);exact⟨a,X⟩
  .rw[k]at p
   cases p;have:=(h.off e d _ l).1;omega
end
structure Psh(P:Program)(t e:TypeId)(size:Nat):Prop where
 ex:∃i z bytes,P.underlying t=O (.slice e)/\P.info? e=O i/\i.zero=O z/\i.size=size/\i.bytes=bytes/\z.cells.size=size/\bytes<=1000
 pos:0<size
def Psh.push{size:Nat}(h:Psh P t e size)(W:U)(base:Nat)(ty:TypeId)(v:Ql)(n:Nat)(xs:JK Ql)(bG:W.ownsRow base e size v n xs)(hb:base<=M (H W))(kz:JK Ql)(hl:N kz=size)(h1:∀u∈kz,u.oneCell' = T)(hn:n<=100000000) :
  ∃f g,(Builtin.append_ #[t,t] ty #[v,Z (O (aD (M (H W)) 0)) 1 1]).run P (W.alloc (Qs kz.toArray e))=.ok f g/\g.ownsRow base e size f (n+1) (xs++kz)/\aB (λb=>v.ownBlock≠O b) W g/\(∃a m c,f = Z a m c)/\(f.ownBlock=v.ownBlock∨f.ownBlock=O (M (H W)+1)/\aB (λ_=>True) W g):=by obtain⟨i,z,d,j,a2,a3,a4,a5,k,l⟩:=h.ex;exact amM W base t ty e i z size d j a2 a3 a4 a5 k h.pos v n xs bG hb kz hl h1 hn l
structure KpG(tW tL tI tE:TypeId)(sz:Nat)(vM:Int->JK Ql)(wb lo:Nat)(C:Ql->Ql->Array Ql)(R:U->Prop)(SR:Pm)(m:Int)(B:Pm)(W0:U)(k len:Nat)(v:Ql)(Xq:U):Prop where
 ex:∃vi vm es,GB Xq wb tW (C vi vm)/\dD tL tI sz vM lo vi vm es (es.map qh.m) Xq/\VB tE sz vM vi vm es m len v Xq/\N es=k/\(∀b,dD.own vi vm es b->b≠wb/\¬SR b)/\∀b,dD.own vi vm es b∨v.ownBlock=O b->B b∨M (H W0)<=b
 off:∀b,v.ownBlock=O b->b≠wb/\¬SR b
 rest:R Xq
 fu:aB (λb=>b≠wb/\¬B b) W0 Xq
theorem KpG.step{tW tLL tII tEE:TypeId}{oi om:Nat}{C:Ql->Ql->Array Ql}{R:U->Prop}{SR:Pm}(h:KpG tW tL tI tE sz vM wb lo C R SR m B W0 k len v Xq)
  (p1:Psh P tLL tL 1) (p2:Psh P tII tI 1) (p3:Psh P tEE tE sz) (hs:∀m,N (vM m)=sz) (hc1:∀m,∀u∈vM m,u.oneCell' = T) (hCi:∀a b a',(C a b).setIfInBounds oi a' = C a' b) (hCm:∀a b b',(C a b).setIfInBounds om b' = C a b') (hgi:∀a b,(C a b)[oi]? = O a) (hgm:∀a b,(C a b)[om]? = O b) (hLI:tL≠tI)
  (hR:∀{Xq Yq:U} {s:Pm},R Xq->aB s Xq Yq->(∀b,SR b->s b)->R Yq) (hRl:∀{Xq:U},R Xq->∀b,SR b->b<M (H Xq)/\b≠wb) (hwl:wb<lo) (hlW:lo<=M (H W0)) (hk:k<=90000000) (hl:len<=90000) (ty1 ty2 ty3:TypeId) :
  ∃a l c G q y D r A v' X5,v=Z a l c/\Qo Xq (aD wb oi)=O G/\(∃a l c,G=Z a l c)/\
   (Builtin.append_ #[tLL,tLL] ty1 #[G,Z (O (aD (M (H Xq)) 0)) 1 1]).run P (Xq.alloc (Qs #[v] tL))=.ok q y/\(∃a l c,q = Z a l c)/\y.frozen? (aD wb oi)=F/\(∃u,Qo y (aD wb oi)=O u)/\
   Qo (Qn y (aD wb oi) q) (aD wb om)=O D/\(∃a l c,D=Z a l c)/\
   (Builtin.append_ #[tII,tII] ty2 #[D,Z (O ⟨M (H (Qn y (aD wb oi) q)),0,Qr⟩) 1 1]).run P ((Qn y (aD wb oi) q).alloc (Qs #[I J m] tI))=.ok r A/\(∃a l c,r = Z a l c)/\A.frozen? (aD wb om)=F/\(∃u,Qo A (aD wb om)=O u)/\
   (Builtin.append_ #[tEE,tEE] ty3 #[v,Z (O ⟨M (H (Qn A (aD wb om) r)),0,Qr⟩) 1 1]).run P ((Qn A (aD wb om) r).alloc (Qs (vM m).toArray tE))=.ok v' X5/\
   KpG tW tL tI tE sz vM wb lo C R SR m B W0 (k+1) (len+1) v' X5:=by
 obtain⟨G,D,es,hC,hI,z,rfl,p,bG⟩:=h.ex;have hw:=hC.lt;have Aw:=ZU hlW h.fu.size;obtain⟨a,l,c,rfl⟩:=Xz z.own;have av:l=len/\∃g,a=Option.map (λg=>((aD g 0):Addr)) g:=by
  rcases z.own.2 with⟨e,h0⟩|⟨g,cap,iw,e,_⟩
  .injection e with e1 e2 e3;exact⟨X,Qr,e1⟩
  .injection e with e1 e2 e3;exact⟨e2,O g,e1⟩
 obtain⟨rfl,t,rfl⟩:=av;obtain⟨q,y,lN,ay,dP,tq,az⟩:=p1.push Xq lo ty1 G (N es) (es.map qh.val) hI.EM Aw [Z (t.map λg=>(aD g 0)) l c] rfl (λu hu=>by grind [Value.oneCell']) X;have K:q.ownBlock=G.ownBlock∨∃g,q.ownBlock=O g/\M (H Xq)<=g:=az.imp id λe=>⟨_,e.1,X⟩;have L:∀g,t=O g->(Value.slice (t.map λg=>((aD g 0):Addr)) l c).ownBlock=O g:=λg e=>by subst e;rfl
 have ax:∀g,(Value.slice (t.map λg=>((aD g 0):Addr)) l c).ownBlock=O g->t=O g:=λg e=>by
  cases t with
  |none=>cases e
  |some g1=>cases e;rfl
 have I1:=hI.aAf hLI (e:=⟨t,l,c,m⟩) ⟨Qb,λi hi=>by
   rcases z.own.2 with⟨e,h0⟩|⟨g,cap,iw,e,_⟩
   .simp_all
   .have e1:=ax g (by rw[e];rfl);exact⟨g,e1,λj u hj=>zL z.own (L g e1) (VD (hs m) hi hj)⟩⟩
  (λg hg=>⟨(Xy z.own (L g hg)).2,(z.off g (L g hg)).1,(z.off g (L g hg)).2⟩) (by grind [qh.val]) dP K
 have aG:=dP.size;have k2:aB (λb=>b≠wb) y (Qn y (aD wb oi) q):=Xu _ (aD wb oi) _ (λh=>h rfl);have aa:q.ownBlock≠O wb:=λe=>Qj ((Xy ay e).1);have c1:=hC.of (dP.block _ hw λe=>(p _ (.inl e)).1 rfl);have c2:=c1.set oi q;rw[hCi]at c2;have ae:aB (λb=>G.ownBlock≠O b/\b≠wb) Xq (Qn y (aD wb oi) q):=(dP.mono λb _ h=>h.1).trans (k2.mono λb _ h=>h.2);generalize ah:Qn y (aD wb oi) q = X2 at*;have af:∀{vi2 vm2:Ql},vi2.ownBlock≠O wb->vm2.ownBlock≠O wb->∀b,dD.own vi2 vm2 (es++[⟨t,l,c,m⟩]) b->b≠wb:=λ{vi2 vm2} q1 q2 b d e=>by
  subst e;rcases d with e|e|⟨x,f,e⟩
  .exact q1 e
  .exact q2 e
  .rcases Z5.1 f with f|f
   .exact(p _ (.inr (.inr ⟨x,f,e⟩))).1 rfl
   .rw[XH]at f;subst f
    grind [KpG.off]
 have ai:D.ownBlock≠O wb:=λe=>(p _ (.inr (.inl e))).1 rfl;have I2:=I1.bT k2 (af aa ai);have v2:=Xw z.own ae λb d=>⟨(z.off b d).1,(h.off b d).1⟩;have R2:=hR h.rest ae λb d=>⟨λe=>(p b (.inl e)).2 d,(hRl h.rest b d).2⟩;have s2:M (H y)=M (H X2):=by rw[<-ah,World.size_setCell]
 obtain⟨r,A,aA,aK,S,aC,aF⟩:=p2.push X2 lo ty2 D (N (es.map qh.m)) ((es.map qh.m).map (Value.int J)) I2.wP X [I J m] rfl (λu hu=>by grind [Value.oneCell']) Qb;have Q:r.ownBlock=D.ownBlock∨∃g,r.ownBlock=O g/\M (H X2)<=g:=aF.imp id λe=>⟨_,e.1,X⟩;have I3:=I2.aAg hLI (m:=m) Qf S Q;have aj:r.ownBlock≠O wb:=λe=>Qb;have c3:=c2.of (S.block _ c2.lt ai);have c4:=c3.set om r;rw[hCm]at c4;have k4:aB (λb=>b≠wb) A (Qn A (aD wb om) r):=Xu _ (aD wb om) _ (λh=>h rfl);have ag:aB (λb=>D.ownBlock≠O b/\b≠wb) X2 (Qn A (aD wb om) r):=(S.mono λb _ h=>h.1).trans (k4.mono λb _ h=>h.2);generalize au:Qn A (aD wb om) r = X4 at*;have s4:M (H A)=M (H X4):=by rw[<-au,World.size_setCell]
 have I4:=I3.bT k4 (af aa aj);have v4:=Xw v2 ag λb d=>⟨(z.off b d).2,(h.off b d).1⟩;have R4:=hR R2 ag λb d=>⟨λe=>(p b (.inr (.inl e))).2 d,(hRl R2 b d).2⟩;have aH:∀b,(Value.slice (t.map λg=>((aD g 0):Addr)) l c).ownBlock=O b->b<M (H Xq):=λb d=>(Xy z.own d).2;have aI:∀b,SR b->b<M (H Xq):=λb d=>(hRl h.rest b d).1;have aJ:=h.fu.size;have z1:=S.size;have H4:VB tE sz vM q r (es++[⟨t,l,c,m⟩]) m l (Z (t.map λg=>(aD g 0)) l c) X4:=⟨v4,λb d=>⟨λe=>?_,λe=>?_⟩,λx f b d vR=>?_⟩
 .obtain⟨v',X5,sF,mW,kC,aL,ak⟩:=p3.push X4 0 ty3 (Z (t.map λg=>(aD g 0)) l c) l ((List.replicate l (vM m)).flatten) v4 (ZR _) (vM m) (hs m) (hc1 m) X;have e5:(List.replicate l (vM m)).flatten++vM m=(List.replicate (l+1) (vM m)).flatten:=by rw[List.replicate_succ',List.flatten_append];simp
  rw[e5]at mW;obtain⟨I5,H5⟩:=I4.grow hs H4 mW kC (ak.imp id λe=>⟨⟨_,e.1,X⟩,e.2⟩);refine⟨_,l,c,G,q,y,D,r,A,v',X5,rfl,by rw[hC.cell,hgi],Xz hI.EM,lN,tq,c1.frozen oi,⟨G,by rw[c1.cell,hgi]⟩,?_,Xz hI.wP,?_,aC,c3.frozen om,⟨D,by rw[c3.cell,hgm]⟩,?_,?_⟩
  .rw[ah,c2.cell,hgm]
  .rw[ah];exact aA
  .rw[au];exact sF
  have c5:=c4.of (kC.block _ c4.lt λe=>(h.off _ e).1 rfl);have R5:=hR R4 kC λb d e=>(h.off b e).2 d;refine⟨⟨q,r,es++[⟨t,l,c,m⟩],c5,Qf,H5,Qf,λb d=>⟨af aa aj b d,λhp=>?_⟩,λb d=>?_⟩,λb d=>?_,R5,?_⟩
  .rcases d with e|e|⟨x,f,e⟩
   .rcases K with n|⟨g,n,h2⟩
    .exact(p b (.inl (n ▸ e))).2 hp
    grind
   .rcases Q with n|⟨g,n,h2⟩
    .exact(p b (.inr (.inl (n ▸ e)))).2 hp
    grind
   .rcases Z5.1 f with f|f
    .exact(p b (.inr (.inr ⟨x,f,e⟩))).2 hp
    .rw[XH]at f;subst f
     grind [KpG.off]
  .rcases d with (e|e|⟨x,f,e⟩)|e
   .rcases K with n|⟨g,n,h2⟩
    .exact bG b (.inl (.inl (n ▸ e)))
    grind
   .rcases Q with n|⟨g,n,h2⟩
    .exact bG b (.inl (.inr (.inl (n ▸ e))))
    grind
   .rcases Z5.1 f with f|f
    .exact bG b (.inl (.inr (.inr ⟨x,f,e⟩)))
    grind
   grind
  .rcases ak with n|⟨n,_⟩
   .grind [KpG.off]
   grind
  .have yA:∀b,b<M (H W0)->¬B b->¬(dD.own G D es b∨(Value.slice (t.map λg=>((aD g 0):Addr)) l c).ownBlock=O b):=λb d W e=>(bG b e).elim W X
   refine((h.fu.dL ae λb d W=>⟨λe=>yA b d W.2 (.inl (.inl e)),W.1⟩).dL ag λb d W=>⟨λe=>yA b d W.2 (.inl (.inr (.inl e))),W.1⟩).dL kC λb d W e=>yA b d W.2 (.inr e)
 .rcases K with n|⟨g,n,h2⟩
  .grind [VB.off]
  grind
 .rcases Q with n|⟨g,n,h2⟩
  .grind [VB.off]
  grind
 .rcases Z5.1 f with f|f
  .exact z.auX x f b d vR
  simp_all
section
def aeK(m:Int):JK Value:=[I J m]
def aas(m:Int):JK Value:=[I J m,I J 0,I J 0,I J 0,Z Qr 0 0,I J 0,Z Qr 0 0]
theorem aGy(n:Nat)(m:Int):(List.replicate n (aeK m)).flatten=(List.replicate n m).map (Value.int J):=by
 induction n with
 |zero=>rfl
 |succ n ih=>grind [aeK]
structure Oz(tW tR tP tI:TypeId)(wb lo:Nat)(va:Ql)(n:Nat)(vi vm vp vn:Ql)(es:JK qh)(ms:IC)(ps:JK qh)(ns:IC)(W:U):Prop where
 cell:GB W wb tW #[va,I J n,vi,vm,vp,vn]
 vT:dD tR tI 1 aeK lo vi vm es ms W
 Aj:dD tP tI 7 aas lo vp vn ps ns W
 lo:wb<lo
 apart:∀b,dD.own vi vm es b->¬dD.own vp vn ps b
 wb1:∀e∈es,e.g≠O wb
 wb2:∀e∈ps,e.g≠O wb
variable {tW tR tP tI:TypeId} {wb lo:Nat} {va:Ql} {n:Nat} {vi vm vp vn:Ql} {es:JK qh} {ms:IC} {ps:JK qh} {ns:IC} {W Xq:U}
def Oz.nwb(h:Oz tW tR tP tI wb lo va n vi vm vp vn es ms ps ns W):¬dD.own vi vm es wb/\¬dD.own vp vn ps wb:=by
 have b:=h.lo;refine⟨?_,?_⟩
 .rintro (e|e|⟨x,a,e⟩)
  .have:=(Xy h.vT.EM e).1;omega
  .have:=(Xy h.vT.wP e).1;omega
  .exact h.wb1 x a e
 .rintro (e|e|⟨x,a,e⟩)
  .have:=(Xy h.Aj.EM e).1;omega
  .have:=(Xy h.Aj.wP e).1;omega
  .exact h.wb2 x a e
def Oz.bT(h:Oz tW tR tP tI wb lo va n vi vm vp vn es ms ps ns W){s:Pm}(hk:aB s W Xq)(hs:∀b,b=wb∨dD.own vi vm es b∨dD.own vp vn ps b->s b):Oz tW tR tP tI wb lo va n vi vm vp vn es ms ps ns Xq:=
 ⟨h.cell.of (hk.block _ h.cell.lt (hs _ (.inl rfl))),h.vT.bT hk λb a=>hs b (.inr (.inl a)),h.Aj.bT hk λb a=>hs b (.inr (.inr a)),h.lo,h.apart,h.wb1,h.wb2⟩
def KI(tW tR tP tI:TypeId)(wb lo:Nat)(va:Ql)(n:Nat)(vp vn:Ql)(ps:JK qh)(ns:IC)(m:Int)(B:Pm)(W0:U)(k len:Nat)(v:Ql)(Xq:U):Prop:=
 KpG tW tR tI tI 1 aeK wb lo (λvi vm=>#[va,I J n,vi,vm,vp,vn]) (λXq=>dD tP tI 7 aas lo vp vn ps ns Xq/\∀b,dD.own vp vn ps b->b≠wb) (dD.own vp vn ps) m B W0 k len v Xq
def KN(tW tR tP tN tI:TypeId)(wb lo:Nat)(va:Ql)(n:Nat)(vi vm:Ql)(es:JK qh)(ms:IC)(m:Int)(B:Pm)(W0:U)(k len:Nat)(v:Ql)(Xq:U):Prop:=
 KpG tW tP tI tN 7 aas wb lo (λvp vn=>#[va,I J n,vi,vm,vp,vn]) (λXq=>dD tR tI 1 aeK lo vi vm es ms Xq/\∀b,dD.own vi vm es b->b≠wb) (dD.own vi vm es) m B W0 k len v Xq
def Oz.ki(h:Oz tW tR tP tI wb lo va n vi vm vp vn es (es.map qh.m) ps ns W)(hH:VB tI 1 aeK vi vm es m len v W)(ho:∀b,v.ownBlock=O b->b≠wb/\¬dD.own vp vn ps b)(hB:∀b,dD.own vi vm es b∨v.ownBlock=O b->B b∨M (H W0)<=b)(hk:aB (λb=>b≠wb/\¬B b) W0 W):KI tW tR tP tI wb lo va n vp vn ps ns m B W0 (N es) len v W:=
 ⟨⟨vi,vm,es,h.cell,h.vT,hH,rfl,λb a=>⟨λe=>h.nwb.1 (e ▸ a),h.apart b a⟩,hB⟩,ho,⟨h.Aj,λb a e=>h.nwb.2 (e ▸ a)⟩,hk⟩
def KI.bk(h:KI tW tR tP tI wb lo va n vp vn ps ns m B W0 k len v W)(hl:wb<lo):∃d f a,Oz tW tR tP tI wb lo va n d f vp vn a (a.map qh.m) ps ns W/\N a=k/\∀b,dD.own d f a b->B b∨M (H W0)<=b:=by obtain⟨d,f,a,p,q,u,r,l,t⟩:=h.ex;exact⟨d,f,a,⟨p,q,h.rest.1,hl,λb g=>(l b g).2,λe i j=>(l wb (.inr (.inr ⟨e,i,j⟩))).1 rfl,λe i j=>h.rest.2 wb (.inr (.inr ⟨e,i,j⟩)) rfl⟩,r,λb g=>t b (.inl g)⟩
def Oz.kn{tN:TypeId}(h:Oz tW tR tP tI wb lo va n vi vm vp vn es ms ps (ps.map qh.m) W)(hH:VB tN 7 aas vp vn ps m len v W)(ho:∀b,v.ownBlock=O b->b≠wb/\¬dD.own vi vm es b)(hB:∀b,dD.own vp vn ps b∨v.ownBlock=O b->B b∨M (H W0)<=b)(hk:aB (λb=>b≠wb/\¬B b) W0 W):KN tW tR tP tN tI wb lo va n vi vm es ms m B W0 (N ps) len v W:=
 ⟨⟨vp,vn,ps,h.cell,h.Aj,hH,rfl,λb a=>⟨λe=>h.nwb.2 (e ▸ a),λe=>h.apart b e a⟩,hB⟩,ho,⟨h.vT,λb a e=>h.nwb.1 (e ▸ a)⟩,hk⟩
def KN.bk{tN:TypeId}(h:KN tW tR tP tN tI wb lo va n vi vm es ms m B W0 k len v W)(hl:wb<lo):∃a d ps,Oz tW tR tP tI wb lo va n vi vm a d es ms ps (ps.map qh.m) W/\N ps=k/\∀b,dD.own a d ps b->B b∨M (H W0)<=b:=by obtain⟨a,d,ps,l,p,u,q,j,r⟩:=h.ex;exact⟨a,d,ps,⟨l,h.rest.1,p,hl,λb f t=>(j b t).2 f,λe g i=>h.rest.2 wb (.inr (.inr ⟨e,g,i⟩)) rfl,λe g i=>(j wb (.inr (.inr ⟨e,g,i⟩))).1 rfl⟩,q,λb f=>r b (.inl f)⟩
def TH{Yq:U}{s:Pm}(h:dD tL tI sz vM lo vi vm es ms Xq/\∀b,dD.own vi vm es b->b≠wb)(hk:aB s Xq Yq)(hs:∀b,dD.own vi vm es b->s b):dD tL tI sz vM lo vi vm es ms Yq/\∀b,dD.own vi vm es b->b≠wb:=⟨h.1.bT hk hs,h.2⟩
def afV(h:dD tL tI sz vM lo vi vm es ms Xq/\∀b,dD.own vi vm es b->b≠wb)(b:Nat)(hb:dD.own vi vm es b):b<M (H Xq)/\b≠wb:=⟨by
 rcases hb with e|e|⟨x,a,e⟩
 .exact(Xy h.1.EM e).2
 .exact(Xy h.1.wP e).2
 .exact(h.1.off x a b e).1,h.2 b hb⟩
def OA{z:Ql}{size bytes:Nat}(hu:V.underlying t=O (.slice e))(hi:(V.info? e).map (λi=>(i.zero,i.size,i.bytes))=O (O z,size,bytes))(hz:z.cells.size=size)(hb:bytes<=1000)(hs:0<size):Psh V t e size:=by obtain⟨i0,a,b,d,f⟩:=XB hi;exact⟨⟨i0,z,bytes,hu,a,b,d,f,hz,hb⟩,hs⟩
def amP:Psh V 25 26 1:=OA underlying25 Tryz.WL rfl X X
def OB:Psh V 26 3 1:=OA underlying26 Tryz.uN rfl X X
end
def amQ(tW tR tP tI:TypeId)(wb lo:Nat)(va:Ql)(n k:Nat)(vp vn:Ql)(ps:JK qh)(ns:IC)(B:Pm)(W W':U):Prop:=
 ∃vi vm es,Oz tW tR tP tI wb lo va n vi vm vp vn es (es.map qh.m) ps ns W'/\N es=k/\aB (λb=>b≠wb/\¬B b) W W'/\∀b,dD.own vi vm es b->B b∨M (H W)<=b
theorem aiX{vi vm:Ql}{es:JK qh}{ps:JK qh}(hB:Oz 31 26 39 3 wb lo va n vi vm vp vn es (es.map qh.m) ps ns W)(Aw:lo<=M (H W))(hn:n<=100000000)(hes:N es<=80000000)
  (v:Ql) (xs:IC) (hv:W.ownsRow 0 3 1 v (N xs) (xs.map (Value.int J))) (hx:N xs<=1000) (nL:∀b,v.ownBlock=O b->b≠wb/\¬dD.own vi vm es b/\¬dD.own vp vn ps b) :
  Calls V 37 #[Y (O (aD wb 1)),v] W λe W'=>e=Qu (.tuple #[])/\amQ 31 26 39 3 wb lo va (n+1) (N es+4) vp vn ps ns (λb=>dD.own vi vm es b∨v.ownBlock=O b) W W':=by
 obtain⟨m,hm⟩:∃m:Int,m=77777+((n:Int)+1):=⟨_,rfl⟩;have t:=hB.nwb;have c1:=hB.cell.at 1;have f1:=hB.cell.frozen 1;have D:aB (λb=>b≠wb) W (Qn W (aD wb 1) (I J ((n:Int)+1))):=Xu _ (aD wb 1) _ (λh=>h rfl);have g1:=hB.cell.set 1 (I J ((n:Int)+1));have y:Oz 31 26 39 3 wb lo va (n+1) vi vm vp vn es (es.map qh.m) ps ns (Qn W (aD wb 1) (I J ((n:Int)+1))):=⟨g1,hB.vT.bT D λb f e=>t.1 (e ▸ f),hB.Aj.bT D λb f e=>t.2 (e ▸ f),hB.lo,hB.apart,hB.wb1,hB.wb2⟩;have G:=Xw hv D λb f=>(nL b f).1;have ni:M (H (Qn W (aD wb 1) (I J ((n:Int)+1))))=M (H W):=World.size_setCell ..;generalize P:Qn W (aD wb 1) (I J ((n:Int)+1))=W1 at*;have d1:=y.cell.at 1;obtain⟨a,l,c,rfl⟩:=Xz hv;obtain rfl:l=N xs:=by
  rcases hv.2 with⟨e,h0⟩|⟨g,cap,iw,e,_⟩
  .grind
  .injection e
 -- the eT while it is written over
 have HQ:Qm (∀i d,i<N xs->d.ownsRow 0 3 1 (Z a (N xs) c) (N xs) ((List.replicate i m++xs.drop i).map (Value.int J))->∃g,a=O (aD g 0)/\(∃u,Qo d (aD g i)=O u)/\d.frozen? (aD g i)=F/\(Qn d (aD g i) (I J m)).ownsRow 0 3 1 (Z a (N xs) c) (N xs) ((List.replicate (i+1) m++xs.drop (i+1)).map (Value.int J))/\aB (λb=>(Value.slice a (N xs) c).ownBlock≠O b) d (Qn d (aD g i) (I J m))):=λi d hi p=>by
  obtain⟨g,hg⟩:∃g,a=O (aD g 0):=by
   rcases p.2 with⟨e,h0⟩|⟨g,cap,iw,e,_⟩
   .omega
   grind
  subst hg;have r:=zk p (g:=g) rfl (j:=i) X (I J m);have e1:((List.replicate i m++xs.drop i).map (Value.int J)).set i (I J m)=(List.replicate (i+1) m++xs.drop (i+1)).map (Value.int J):=by rw[<-List.map_set,Jz _ _ Qa,List.length_replicate,Nat.sub_self,List.drop_eq_getElem_cons hi,QY,List.replicate_succ',Jj];rfl
  rw[e1]at r;obtain⟨iw,hc⟩:=og p (b:=g) rfl;have hG:GB d g 3 iw:=hc;refine⟨g,rfl,⟨_,zL p (b:=g) rfl (k:=i) (u:=I J xs[i]) ?_⟩,hG.frozen i,r,Xu _ (aD g i) _ (λh=>h rfl)⟩;grind
 have HK:Qm (∀d,d.ownsRow 0 3 1 (Z a (N xs) c) (N xs) ((List.replicate (N xs) m).map (Value.int J))->aB (λb=>(Value.slice a (N xs) c).ownBlock≠O b) W1 d->KI 31 26 39 3 wb lo va (n+1) vp vn ps ns m (λb=>dD.own vi vm es b∨(Value.slice a (N xs) c).ownBlock=O b) W (N es) (N xs) (Z a (N xs) c) d):=λd p q=>by refine(y.bT q λb f e=>?_).ki ⟨by rw[aGy];exact p,λb f=>⟨λe=>(nL b f).2.1 (.inl e),λe=>(nL b f).2.1 (.inr (.inl e))⟩,λx hx b e e'=>absurd (.inr (.inr ⟨x,hx,e⟩)) (nL b e').2.1⟩ (λb f=>⟨(nL b f).1,(nL b f).2.2⟩) (λb f=>.inl f) ((D.mono λb _ h=>h.1).trans (q.mono λb _ h e=>h.2 (.inr e)));grind
 have gJ:Qm (∀d C len,KI 31 26 39 3 wb lo va (n+1) vp vn ps ns m (λb=>dD.own vi vm es b∨(Value.slice a (N xs) c).ownBlock=O b) W (N es+4) len C d->amQ 31 26 39 3 wb lo va (n+1) (N es+4) vp vn ps ns (λb=>dD.own vi vm es b∨(Value.slice a (N xs) c).ownBlock=O b) W d):=λd C len h=>by obtain⟨rQ,rU,ag,h1,h4,h5⟩:=h.bk hB.lo;exact⟨rQ,rU,ag,h1,h4,h.fu,h5⟩
 have K:=Zh λ(d:U) (k len:Nat) (C:Ql) (h:KI 31 26 39 3 wb lo va (n+1) vp vn ps ns m (λb=>dD.own vi vm es b∨(Value.slice a (N xs) c).ownBlock=O b) W (N es+k) len C d) (q:k<=4) (hl:len<=90000)=>KpG.step (oi:=2) (om:=3) h amP OB OB (λ_=>rfl) (λ_ u S=>by unfold aeK at S;rw[XH]at S;rw[S];rfl) (λ_ _ _=>rfl) (λ_ _ _=>rfl) (λ_ _=>rfl) (λ_ _=>rfl) Qc (λh q hs=>TH h q hs) (λh b f=>afV h b f) hB.lo Aw X hl 25 26 26;have aa:(77777:Int)+((n:Int)+1)=m:=hm.symm;have aj:wrap64 (77777+((n:Int)+1))=m:=by rw[aa];unfold wrap64;omega
 have HV:Qm _:=G;have L:=Zh P;clear hB y hv G nL D g1 t hm P;go_enter func37,ntmps37;go_upto_region 1 with fail;rw[L.o];go_wp2;clear c1 f1 d1;go_loopw [5] (λiv d=>∃i:Nat,i<=N xs/\iv=I J i/\Qm (d.ownsRow 0 3 1 (Z a (N xs) c) (N xs) ((List.replicate i m++xs.drop i).map (Value.int J)))/\Qm (aB (λb=>(Value.slice a (N xs) c).ownBlock≠O b) W1 d)) (λiv _=>N xs-(intOf iv).toNat)
 case atStart=>exact⟨0,ZR _,rfl,HV.o,Xj _ _⟩
 case round=>
  obtain⟨i,hi,rfl,Q,R⟩:=hrel;by_cases aT:i<N xs
  .obtain⟨g,rfl,⟨u,S⟩,hf,p,q⟩:=HQ.o i wr aT Q.o;have ae:Qm _:=p;have af:=Zh (R.o.trans q);clear p q Q R;refine gQ ?_;exact⟨i+1,X,Qe,ae.o,af.o⟩
  .obtain rfl:i=N xs:=X
   have p:=Q.o;rw[List.drop_length,Zy]at p;have B:=Zh (HK.o wr p R.o);clear p Q R;go_wp2;go_loopw [1,6] (λC kv d=>∃k:Nat,k<=4/\kv=I J k/\Qm (KI 31 26 39 3 wb lo va (n+1) vp vn ps ns m (λb=>dD.own vi vm es b∨(Value.slice a (N xs) c).ownBlock=O b) W (N es+k) (N xs+k) C d)) (λ_ kv _=>4-(intOf kv).toNat)
   case atStart=>exact⟨0,X,rfl,B.o⟩
   case round=>
    clear B;obtain⟨k,q,rfl,B⟩:=hrel;by_cases ak:k<4
    .obtain⟨a',l',c',_,_,X1,_,_,X3,v2,X5,rfl,y1,⟨p1,p2,p3,rfl⟩,lN,⟨q1,q2,q3,rfl⟩,f1,⟨u1,e1⟩,y2,⟨r1,r2,r3,rfl⟩,z,⟨t1,t2,t3,rfl⟩,f2,⟨u2,e2⟩,A,hN⟩:=K.o wr k (N xs+k) _ B.o q X;have HN:=Zh hN;clear hN B HQ HK gJ K HV L ni;obtain⟨X2,ah⟩:=eX (Qn X1 (aD wb 2) (Z q1 q2 q3))
     rw[ah]at y2 z;obtain⟨X4,ai⟩:=eX (Qn X3 (aD wb 3) (Z t1 t2 t3));rw[ai]at A;go_wp2_with (first|(at_builtin;first|refine XJ rfl (.tmp 38) (.tmp 40) 25 rfl (Z p1 p2 p3) (Z (O (aD (M (H wr)) 0)) 1 1) (Z q1 q2 q3) X1 rfl rfl lN ?_|refine XJ rfl (.tmp 48) (.tmp 50) 26 rfl (Z r1 r2 r3) (Z (O (aD (M (H X2)) 0)) 1 1) (Z t1 t2 t3) X3 rfl rfl z ?_|refine XJ rfl (.tmp 54) (.tmp 56) 26 rfl (Z a' l' c') (Z (O (aD (M (H X4)) 0)) 1 1) v2 X5 rfl rfl A ?_));clear lN z A;refine gQ ?_;exact⟨k+1,X,Qe,HN.o⟩
    .obtain rfl:k=4:=X
     have HE:=Zh (gJ.o wr _ _ B.o);go_wp2;go_end0;exact⟨rfl,HE.o⟩
structure aAk(tI:TypeId)(S:Pm)(ls:JK aA)(W:U):Prop where
 own:∀x∈ls,W.ownsRow 0 tI 1 x.val (N x.xs) (x.xs.map (Value.int J))/\N x.xs<=1000
 apart:ls.Pairwise λx y=>∀b,x.val.ownBlock=O b->y.val.ownBlock≠O b
 off:∀x∈ls,∀b,x.val.ownBlock=O b->¬S b
structure KpL(tW tR tP tI:TypeId)(wb lo:Nat)(va:Ql)(n k:Nat)(vp vn:Ql)(ps:JK qh)(ns:IC)(S:Pm)(ls:JK aA)(W:U)(j:Nat)(Xq:U):Prop where
 ex:∃vi vm es,Oz tW tR tP tI wb lo va (n+j) vi vm vp vn es (es.map qh.m) ps ns Xq/\N es=k+4*j/\∀b,dD.own vi vm es b->S b∨(∃x∈ls.take j,x.val.ownBlock=O b)∨M (H W)<=b
 fu:aB (λb=>b≠wb/\¬S b/\∀x∈ls.take j,x.val.ownBlock≠O b) W Xq
theorem KpL.step{ps:JK qh}{S:Pm}{ls:JK aA}(h:KpL 31 26 39 3 wb lo va n k vp vn ps ns S ls W j Xq)(ho:aAk 3 (λb=>b=wb∨S b∨dD.own vp vn ps b) ls W)(hj:j<N ls)(Aw:lo<=M (H W))(hn:n+j<=100000000)(hk:k+4*j<=80000000) :
  Calls V 37 #[Y (O (aD wb 1)),(E ls j ⟨Qr,0,[]⟩).val] Xq λe y=>e=Qu (.tuple #[])/\KpL 31 26 39 3 wb lo va n k vp vn ps ns S ls W (j+1) y:=by
 obtain⟨A,B,C,D,hl,G⟩:=h.ex;have z:E ls j ⟨Qr,0,[]⟩=ls[j]:=by simp[List.getD,hj]
 rw[z];have f:ls[j]∈ls:=Q6 hj;obtain⟨p,K⟩:=ho.own _ f;have l:∀x∈ls.take j,∀b,x.val.ownBlock=O b->ls[j].val.ownBlock≠O b:=λx p b a=>by obtain⟨i,L,rfl⟩:=Ze p;rw[Jb]at L;rw[List.getElem_take]at a;exact List.pairwise_iff_getElem.1 ho.apart i j X hj X b a
 have aT:∀b,ls[j].val.ownBlock=O b->b<M (H W):=λb a=>(Xy p a).2;have q:=Xw p h.fu λb a=>⟨λe=>ho.off _ f b a (.inl e),λe=>ho.off _ f b a (.inr (.inl e)),λx d e=>l x d b e a⟩;have ni:=h.fu.size;have tk:ls.take (j+1)=ls.take j++[ls[j]]:=Q5 hj;have m:∀{x},x∈ls.take j->x∈ls.take (j+1):=λp=>Qb;have t:ls[j]∈ls.take (j+1):=by grind
 refine(aiX D X X X ls[j].val ls[j].xs q K λb a=>⟨λe=>ho.off _ f b a (.inl e),λe=>?_,λe=>ho.off _ f b a (.inr (.inr e))⟩).mono ?_
 .rcases G b e with g|⟨x,g,v⟩|g
  .exact ho.off _ f b a (.inr (.inl g))
  .exact l x g b v a
  grind
 .rintro e y ⟨rfl,P,Q,r,g,v,R,h4⟩;have u:∀b,b<M (H W)->dD.own A B C b->S b∨∃x∈ls.take j,x.val.ownBlock=O b:=λb a aa=>by grind
  refine⟨rfl,⟨P,Q,r,g,X,λb a=>?_⟩,h.fu.mono (λb _ a=>⟨a.1,a.2.1,λx d=>a.2.2 x (m d)⟩) |>.dL R λb a hn=>⟨hn.1,λe=>?_⟩⟩
  .grind
  grind
theorem GI(ao:LM)(cap:Nat)(ts:JK af)(q:ae)(w:U)(hx:aZ w ao ts)(hq:q.At w) :
  Cb 25 #[Z ao (N ts) cap,Qt q.cells] w (I J (q.check ts)):=by
 cases hc:gV ts
 .grind [ajg]
 .by_cases a:5<N q.au.xs∨8<N q.wh∨8<N q.bA.xs∨4<N q.aC.xs∨4<N q.aM.xs∨4<N q.ord.xs
  .grind [ajh]
  .cases hw:pE q.wh (N q.wh)
   .grind [anv]
   grind [aji]
def ah5{g:JK aK}{z:Nat}(hg:zh q s g)(pg:Pcs g c z)(hs:Sor ts q g)(h:CvP g Oq k)(ho:o∈(g.map Prod.fst).drop 1):CvP g o (dn 6 (jd ts q s c) k z 0 0):=by
 obtain⟨r,f,i,t,a,b,u,e⟩:=h.head hg;have l:=(hg.all f a i b).2.1;have m:=pg.cl f a i b;rw[u]at l m;have n:(bW ts q r o).d.aJ=dn 6 (jd ts q s c) r.d.aJ z 0 0:=by show dn 6 (jd ts q (0|||r.d.ah|||0) (0|||r.d.aG|||0)) r.d.aJ r.d.size 0 0=_;simp_all
 intro p A B;obtain⟨y,v,j⟩:=hs r t o ho p A B;rw[n]at j;exact⟨y,v,ZU j (nP _ _ _ _ e (Zb _))⟩
theorem uY(a b:Nat):cO a b<=bO:=by grind [cO]
theorem zy(b:Nat)(h:a<=bO):a<=cO a b:=by grind [cO]
theorem Gm(ts:JK af)(q:ae){k:Int}(hk:k=7∨k=8∨k=9∨k=10)(t:bF):(aS ts q (eU k) [t]).d.size=t.d.size/\(aS ts q (eU k) [t]).d.aJ=dn k t.d.size t.d.aJ t.d.size 0 0:=by
 have b:gI k=true:=by grind [gI]
 have a:(aS ts q (eU k) [t]).d.size=t.d.size:=by show (if gI k=T then t.d.size else _)=_;simp_all
 refine⟨a,?_⟩;show dn k (aS ts q (eU k) [t]).d.size t.d.aJ t.d.size 0 0=_;rw[a]
theorem alW(ts:JK af)(q:ae)(t:bF):(jg ts q t).d.aJ<=NL q t.d.size t.d.aJ:=by
 have g:bK q t.d.aH=7∨bK q t.d.aH=8∨bK q t.d.aH=9∨bK q t.d.aH=10:=by unfold bK;omega
 have f:dn (bK q t.d.aH) t.d.size t.d.aJ t.d.size 0 0<=dn (if q.aF then 7 else 9) t.d.size t.d.aJ t.d.size 0 0/\dn (if q.aF then 7 else 9) t.d.size t.d.aJ t.d.size 0 0<=bO:=by
  unfold bK
  cases q.aF with
  |false=>exact⟨Zb _,by show kQ [_,_]<=_;rw[AU];exact uY _ _⟩
  |true =>
   have i:dn 7 t.d.size t.d.aJ t.d.size 0 0=cO (cO t.d.aJ t.d.size) t.d.size:=by show kQ [_,_,_]=_;rw[Dr]
   simp only[Bool.true_eq_false,if_false,if_true];rw[i];refine⟨?_,uY _ _⟩;split
   .show kQ [_,_]<=_
    rw[AU];exact zy _ (uY _ _)
   omega
 obtain⟨l,m⟩:=Gm ts q g t;have n:∀{a b:Nat},a<=b->b<=bO->a<=dn 10 t.d.size b t.d.size 0 0:=λ{a b} h hb=>by refine ZU h ?_;show b<=kQ [_,_];rw[AU];exact zy _ hb
 unfold jg NL;simp only;split
 .grind
 .rename_i he
  have j:¬q.ord.xs=[]:=λe=>he (by unfold kF;rw[e];rfl);obtain⟨_,c2⟩:=Gm ts q (k:=10) Qa (aS ts q (eU (bK q t.d.aH)) [t]);rw[Zk j,c2,l,m];exact nP _ _ _ _ f.1 (Zb _)
theorem Tv(ts:JK af)(q:ae)(t:bF):jg ts q t∈dQ ts q t:=by grind [dQ]
def al7(q:ae)(Oq:IC):bK q Oq=7∨bK q Oq=8∨bK q Oq=9∨bK q Oq=10:=by unfold bK;omega
def zF(ts:JK af)(q:ae)(t:bF):(jg ts q t).d.aJ=if kF q (bK q t.d.aH) t.d.aH=T then dn (bK q t.d.aH) t.d.size t.d.aJ t.d.size 0 0 else dn 10 t.d.size (dn (bK q t.d.aH) t.d.size t.d.aJ t.d.size 0 0) t.d.size 0 0:=by
 obtain⟨b,a⟩:=Gm ts q (al7 q t.d.aH) t;unfold jg;simp only;split
 .exact a
 .rw[(Gm ts q (k:=10) Qa _).2,b,a]
theorem al8(ts:JK af){t:bF}(ha:dK t.d.aH=T):(jg ts q t).d.aJ=NL q t.d.size t.d.aJ∨aN t.d.aH (aR q)=T/\∀Oq,aN Oq (aR q)=T->bK q Oq=bK q t.d.aH/\kF q (bK q Oq) Oq=kF q (bK q t.d.aH) t.d.aH:=by
 rw[zF];unfold NL bK aR kF
 cases hg:q.aF with
 |true =>
  simp only[if_true,Bool.true_eq_false,if_false];by_cases e:aN t.d.aH q.aC.xs=T
  .simp_all
  simp_all
 |false =>
  simp only[if_true,Bool.false_eq_true,if_false];by_cases c:q.ord.xs=[]
  .simp_all
  .have c0:¬N q.ord.xs=0:=Qf
   simp only[Zk c,Zk c0,show ¬(9:Int)=10 by decide,if_false];by_cases a:aN t.d.aH (jk q)=T
   .refine .inr ?_;have b:dK (jk q)=true:=by have a:=a;unfold aN at a;rw[Q8,Zi,Zi]at a;unfold dK at ha ⊢;grind
    simp_all
   simp_all
def ED(ts:JK af){t:bF}(ha:dK t.d.aH=T)(hz:u.d.size=t.d.size)(hc:u.d.aJ<=t.d.aJ)(ho:aN t.d.aH (aR q)=T->aN u.d.aH (aR q)=T):(jg ts q u).d.aJ<=(jg ts q t).d.aJ:=by
 rcases al8 ts (q:=q) ha with e|⟨a,b⟩
 .rw[e];have:=alW ts q u;rw[hz]at this;exact ZU this (adT q _ hc)
 .obtain⟨f,k2⟩:=b _ (ho a);rw[zF,zF,k2,f,hz];split
  .exact nP _ _ _ _ hc (Zb _)
  .exact nP _ _ _ _ (nP _ _ _ _ hc (Zb _)) (Zb _)
def zG(hq:QF ts q){t:bF}(ha:dK t.d.aH=T)(hs:u.d.ah=t.d.ah)(hl:u.d.aG=t.d.aG)(hz:u.d.size=t.d.size)(hc:u.d.aJ<=t.d.aJ)(ho:aN t.d.aH (aR q)=T->aN u.d.aH (aR q)=T)(h:∀e∈dQ ts q u,b<=e.d.aJ):∀e∈dQ ts q t,b<=e.d.aJ:=λe a=>by
 have g:=ZU (h _ (Tv ts q u)) (ED ts ha hz hc ho);unfold dQ at h a;split at a
 .rename_i h0
  rw[Zd h0]at h;rcases ZB.1 a with rfl|a
  .exact g
  .rw[XH]at a;subst a;have f:(bW ts q u (aR q)).d.size=(bW ts q t (aR q)).d.size:=by show jd ts q (0|||u.d.ah|||0) (0|||u.d.aG|||0)=jd ts q (0|||t.d.ah|||0) (0|||t.d.aG|||0);rw[hs,hl]
   refine ZU (h _ (ZV _ (XH.2 rfl))) (ED ts (wL hq).2 f ?_ id);show dn 6 (bW ts q u (aR q)).d.size u.d.aJ u.d.size 0 0<=dn 6 (bW ts q t (aR q)).d.size t.d.aJ t.d.size 0 0;rw[f,hz];exact nP _ _ _ _ hc (Zb _)
 simp_all
def EE{n:ay}{r:dG}(h:gI (eP ts q n l r).kind=F):(eP ts q n l r).size=jd ts q (eP ts q n l r).ah (eP ts q n l r).aG:=by have h:gI n.kind=false:=h;show (if gI n.kind=T then l.size else _)=_;rw[h,Zk Bool.false_ne_true];rfl
theorem TS.size{t:bF}(h:TS ts q t):t.d.size=jd ts q t.d.ah t.d.aG:=by obtain⟨ps,e,f⟩:=h.tf.ex;have a:=h.out;have b:=e.part (N t.ns-1) (Qj h.tf.pos);rw[f]at b;rw[b]at a ⊢;exact EE a
structure Gin(ts:JK af)(q:ae)(aI:Nat)(σ:fE):Prop where
 tg:∀s,s<N σ.az->Tg (E σ.az s [])
 fst:∀s,s<N σ.az->(E σ.az s []).map Prod.fst=(dF ts q s).take aI
theorem aaL(ts:JK af)(q:ae)(g:JK aK)(l:JK bF):(bq ts q g l).2.map Prod.fst=g.map Prod.fst:=by
 unfold bq;split
 .rw[wF];exact vH g l
 grind [vH]
theorem aaM{l:JK bF}(h:Gin ts q aI σ):Gin ts q aI (ed rk ts q s l σ):=by
 have key:∀k,k<N σ.az->(ed rk ts q s l σ).az.getD k []=E σ.az k []∨(ed rk ts q s l σ).az.getD k []=(bq ts q (E σ.az k []) l).2:=λk a=>by
  by_cases e:k=s
  .subst e;unfold ed
   grind
  .exact .inl (rG e)
 refine⟨λk a=>?_,λk a=>?_⟩
 .rw[CQ]at a;rcases key k a with e|e <;> rw[e]
  .exact h.tg k a
  .exact(h.tg k a).zu l
 .rw[CQ]at a;rcases key k a with e|e <;> rw[e]
  .exact h.fst k a
  .rw[aaL];exact h.fst k a
theorem al9(h:Gin ts q aI σ)(pick:Int):Gin ts q aI (gz rk ts q conc pick σ):=by
 have a:∀τ:fE,Gin ts q aI τ->Gin ts q aI (jT τ):=λτ b=>by
  unfold jT;split
  .exact b
  .exact⟨b.tg,b.fst⟩
 unfold gz vU;refine a _ ?_;split
 .exact aaM ⟨h.tg,h.fst⟩
 .exact aaM ⟨h.tg,h.fst⟩
theorem afK{rk:Nat->Int}{ts:JK af}{q:ae}{conc:JK Nat}{aI:Nat}(picks:IC){σ:fE}(h:Gin ts q aI σ):∀m,Gin ts q aI (iV rk ts q conc picks m 0 σ)
 |0=>h
 |m+1=>by
  have ih:=afK (rk:=rk) (conc:=conc) picks h m;rw[JI];split
  .grind [al9]
  .exact ih
def aaN(rk:Nat->Int)(ts:JK af)(q:ae)(aI:Nat):Gin ts q aI (fF rk ts q aI):=by
 have e:∀s,s<(fF rk ts q aI).az.length->(fF rk ts q aI).az.getD s []=fw ((dF ts q s).take aI):=λs a=>by have a:s<N ((List.range (2 ^ (N q.au.xs)-1)).map λs=>fw ((dF ts q s).take aI)):=a;rw[ZX,ZY]at a;show (E ((List.range (2 ^ (N q.au.xs)-1)).map λs=>fw ((dF ts q s).take aI)) s [])=_;simp_all
 refine⟨λs a=>?_,λs a=>?_⟩
 .rw[e s a];exact Tg.new _
 .rw[e s a];unfold fw;rw[Xe];exact List.map_id' _
def SF.pcs(h:SF ts q σ)(g:Gin ts q aI σ)(hs:s<N σ.az):Pcs (E σ.az s []) (bJ (dh ts q) s) (jd ts q s (bJ (dh ts q) s)):=by refine⟨g.tg s hs,λp a x e=>?_⟩;have a:=(h.nN s hs).all p a x e;have b:=a.ts'.cls;have d:=a.ts'.size;rw[a.au]at b d;simp_all
theorem Gin.place(g:Gin ts q aI σ)(hs:s<N σ.az)(hr:N (dF ts q s)<=aI):(∃p∈σ.az.getD s [],p.1=o)↔o∈dF ts q s:=by have e:=g.fst s hs;rw[XW hr]at e;grind
structure nR(ts:JK af)(q:ae)(aI:Nat)(σ:fE):Prop where
 qf:QF ts q
 core:tY q σ
 fin:Fin ts q (dh ts q) σ
 sf:SF ts q σ
 gi:Gin ts q aI σ
 aI:∀s,s<N σ.az->N (dF ts q s)<=aI
structure Oc(ts:JK af)(q:ae)(S:Nat)(Oq:IC):Prop where
 apart:dK Oq=T
 cov:∀c∈Oq,(0<=c/\c<aX ts q.au.xs)/\bV S (2 ^ aU ts q.au.xs c)=T
structure Kno(ts:JK af)(q:ae)(σ:fE)(p:dG):Prop where
 cls:p.aG=bJ (dh ts q) p.ah
 size:p.size=jd ts q p.ah p.aG
 ord:Oc ts q p.ah p.aH
 low:if p.ah=2 ^ (N q.au.xs)-1 then ∀e∈dQ ts q ⟨p,[]⟩,σ.bP.d.aJ<=e.d.aJ else CvP (E σ.az p.ah []) p.aH p.aJ
theorem Oc.nil(ts:JK af)(q:ae)(S:Nat):Oc ts q S []:=⟨rfl,λ_ h=>by cases h⟩
def Oc.one{c:Int}(h:(0<=c/\c<aX ts q.au.xs)/\bV S (2 ^ aU ts q.au.xs c)=T):Oc ts q S [c]:=⟨Qh,λd hd=>Qf⟩
theorem qy(hq:QF ts q)(hS:S<2 ^ (N q.au.xs)){c:Int}(hc:0<=c/\c<aX ts q.au.xs):bV S (2 ^ aU ts q.au.xs c)=S.testBit (aU ts q.au.xs c):=by rw[Xa,nQ (qg hq.jM hS) (qg hq.jM (XR X (xV hq hc)))];grind
def qI(hq:QF ts q)(hS:S<2 ^ (N q.au.xs))(ho:∀c∈o,0<=c/\c<aX ts q.au.xs):bV S (bn (iR ts q o))=T↔∀c∈o,S.testBit (aU ts q.au.xs c)=true:=by
 have f:∀x∈iR ts q o,0<=x/\x<(N q.au.xs:Int):=λx b=>by obtain⟨d,hd,rfl⟩:=Xc.1 b;have:=xV hq (ho d hd);omega
 refine⟨λh c a=>qy hq hS (ho c a) ▸ xw hq hS ho h c a,λh=>?_⟩;rw[nQ (qg hq.jM hS) (qg hq.jM (uL f))];intro i g;rw[ZM (λx b=>(f x b).1),Zi]at g;obtain⟨c,a,e⟩:=Xc.1 g;rw[show i=aU ts q.au.xs c by omega];exact h c a
def Oc.up(hq:QF ts q)(hA:A<2 ^ (N q.au.xs))(hS:S<2 ^ (N q.au.xs))(jC:∀i,A.testBit i=T->S.testBit i=T)(h:Oc ts q A Oq):Oc ts q S Oq:=⟨h.apart,λc d=>by
 obtain⟨a,b⟩:=h.cov c d;rw[qy hq hA a]at b;exact⟨a,by rw[qy hq hS a];simp_all⟩⟩
theorem EF(h:aN Oq o=T):∀c∈o,c∈Oq:=λc a=>by unfold aN at h;grind
def nR.pw(h:nR ts q aI σ)(hA:A<N σ.az):A<2 ^ (N q.au.xs):=by rw[h.core.qw]at hA;omega
theorem nR.gX(h:nR ts q aI σ)(hA:A<N σ.az)(ho:Oc ts q A Oq)(hs:aN Oq (aR q)=T):aR q∈dF ts q A:=
 sO.2 (.inr (.inl ⟨rfl,(qI h.qf (h.pw hA) λc a=>(ho.cov c (EF hs c a)).1).2 λc a=>by
  obtain⟨b,d⟩:=ho.cov c (EF hs c a);rw[<-qy h.qf (h.pw hA) b];exact d⟩))
theorem nR.asN(h:nR ts q aI σ)(hA:A<N σ.az)(hS:S<2 ^ (N q.au.xs))(jC:∀i,A.testBit i=T->S.testBit i=T)(ho:Oc ts q A Oq)(hs:aN Oq o=T)(hu:o∈dF ts q S):o∈dF ts q A:=by
 have a:=h.pw hA;rw[sO]at hu;rcases hu with e|⟨e,_⟩|⟨c,j,b,e,k,l,m,p⟩
 .exact sO.2 (.inl e)
 .grind [nR.gX]
 .obtain⟨r,i2⟩:=al4 h.qf j k;have g:∀d∈[(di c.cs).1,(di c.cs).2.1],0<=d/\d<aX ts q.au.xs:=λd hd=>by grind
  obtain⟨g1,n⟩:=ho.cov b (EF hs b (by rw[e];simp));refine sO.2 (.inr (.inr ⟨c,j,b,e,k,Bool.eq_false_iff.2 λf=>?_,m,(qI h.qf a λd hd=>Qf).2 λd hd=>by simp at hd;rw[hd,<-qy h.qf a g1];exact n⟩));rw[(qI h.qf hS g).2 λd hd=>jC _ ((qI h.qf a g).1 f d hd)]at l;cases l
theorem nR.key{ts:JK af}{q:ae}{aI:Nat}{σ:fE}(h:nR ts q aI σ){A B:Nat}(hA:A<N σ.az)(hB:B<N σ.az)(GN:A &&& B=0){cl:IC}{key x y:Int}(hk:lZ ts q (fq 4 cl key) A B=(x,y,T)):(Oc ts q A [x]/\[x]∈dF ts q A)/\Oc ts q B [y]/\[y]∈dF ts q B:=by
 unfold lZ at hk;split at hk
 .rename_i gH
  have n:key.toNat<N q.wh:=by have:0<=key/\key<N q.wh:=gH.2;omega
  have b:E q.wh key.toNat lz∈q.wh:=by simp_all
  have hk:xI ts q.au.xs (E q.wh key.toNat lz).cs A B=(x,y,T):=hk;generalize E q.wh key.toNat lz=c at*;unfold xI at hk;split at hk
  .cases hk
  rename_i hn;have a:di c.cs=((E c.cs 0 cz).left,(E c.cs 0 cz).right,T):=by unfold di;simp_all
  have e:=al4 h.qf b (by rw[a]);rw[a]at e;obtain⟨l,m⟩:=e;simp only at l m;clear hn;generalize (E c.cs 0 cz).left=L,(E c.cs 0 cz).right=R at*;have i:∀{A B:Nat} {x y:Int},A<N σ.az->B<N σ.az->A &&& B=0->(x=L/\y=R∨x=R/\y=L)->bV A (2 ^ aU ts q.au.xs x)=T->bV B (2 ^ aU ts q.au.xs y)=T->Oc ts q A [x]/\[x]∈dF ts q A:=λ{A B x y} hA hB GN hxy hx hy=>by have g:0<=x/\x<aX ts q.au.xs:=X;have j:0<=y/\y<aX ts q.au.xs:=X;refine⟨.one ⟨g,hx⟩,sO.2 (.inr (.inr ⟨c,b,x,rfl,by rw[a],Bool.eq_false_iff.2 λf=>?_,Qb,(qI h.qf (h.pw hA) λd hd=>Qf).2 λd hd=>by simp at hd;rw[hd,<-qy h.qf (h.pw hA) g];exact hx⟩))⟩;rw[a,qI h.qf (h.pw hA) λd hd=>Qb]at f;rw[qy h.qf (h.pw hB) j]at hy;have p:=f y Qb;have:=congrArg (λz=>z.testBit (aU ts q.au.xs y)) GN;grind
  have k:B &&& A=0:=Qb;split at hk
  .grind
  .split at hk
   .grind
   .cases hk
 .cases hk
theorem nR.cl(h:nR ts q aI σ){B:Nat}(hA:A<N σ.az)(hB:B<N σ.az):bn (dZ (bX (dh ts q) A B))|||bJ (dh ts q) A|||bJ (dh ts q) B=bJ (dh ts q) (A|||B):=by
 have h5:∀{k:Nat},k<N σ.az->k<2 ^ 5:=λ{k} hk=>by rw[h.core.qw]at hk;exact ZO (show k<2 ^ (N q.au.xs) by omega) (ZP X h.qf.jM)
 have e:=NP (conc:=dh ts q) (a:=A) (b:=B) (by rw[JJ];exact h.qf.ko) (h5 hA) (h5 hB) (λi hi=>by
  rw[JJ]at hi;rw[xS hi];exact ZO (NM h.qf hi) (ZP X h.qf.jM))
 have hb:bX (dh ts q) A B<2 ^ 64:=by refine Nat.lt_of_le_of_lt ?_ (xU ts q h.qf.ko (A|||B));grind [Nat.left_le_or]
 grind [sP]
theorem nR.join{ts:JK af}{q:ae}{aI:Nat}{σ:fE}(h:nR ts q aI σ){l r:dG}(hl:Kno ts q σ l)(hr:Kno ts q σ r)(la:l.ah<N σ.az)(ra:r.ah<N σ.az)(r0:r.ah≠0)(GN:l.ah &&& r.ah=0){n:ay}(iX:bn n.cl.xs|||bJ (dh ts q) l.ah|||bJ (dh ts q) r.ah=bJ (dh ts q) (l.ah|||r.ah))
  (hk:n.kind=3/\n.key=0∨n.key∈dZ (bX (dh ts q) l.ah r.ah)/\∃x y,lZ ts q (fq 4 (dZ (bX (dh ts q) l.ah r.ah)) n.key) l.ah r.ah=(x,y,T)/\(n.kind=4∨n.kind=5/\aN l.aH [x]=T/\aN r.aH [y]=T)):Kno ts q σ (eP ts q n l r):=by
 have yt:n.kind=3∨n.kind=4∨n.kind=5:=by omega
 have es:(eP ts q n l r).ah=l.ah|||r.ah:=by show (if n.kind=1 then _ else 0)|||l.ah|||r.ah=_;grind
 have ec:(eP ts q n l r).aG=bJ (dh ts q) (l.ah|||r.ah):=by show bn n.cl.xs|||l.aG|||r.aG=_;rw[hl.cls,hr.cls,iX]
 have ez:=EE (ts:=ts) (q:=q) (n:=n) (l:=l) (r:=r) (by rcases yt with e|e|e <;> (show gI n.kind=F;rw[e];decide));have eO:(eP ts q n l r).aH=l.aH:=by show (if n.kind=6 then _ else if 2<=n.kind/\n.kind<=5 then l.aH else [])=_;grind
 have eC:(eP ts q n l r).aJ=dn n.kind (eP ts q n l r).size l.aJ l.size r.aJ r.size:=rfl;have nl:¬l.ah=2 ^ (N q.au.xs)-1:=by rw[h.core.qw]at la;omega
 have nr:¬r.ah=2 ^ (N q.au.xs)-1:=by rw[h.core.qw]at ra;omega
 have kl:=hl.low;have kr:=hr.low;rw[Zk nl]at kl;rw[Zk nr]at kr;have gl:=h.core.nN _ la;have gr:=h.core.nN _ ra;obtain⟨tl,_,_,el,_⟩:=kl.head gl;obtain⟨tr,_,_,er,_⟩:=kr.head gr;have hF:=h.fin.join l.ah r.ah la ra r0 GN (by rw[el];rfl) (by rw[er];rfl);have sl:=hl.size;have sr:=hr.size;rw[hl.cls]at sl;rw[hr.cls]at sr;have hS:l.ah|||r.ah<2 ^ (N q.au.xs):=vZ (h.pw la) (h.pw ra);have jC:∀i,l.ah.testBit i=T->(l.ah|||r.ah).testBit i=true:=λi hi=>Qf;have hj:∀{o:IC},o∈dF ts q l.ah->aN l.aH o=T->∃t∈jo ts q (dh ts q) (E σ.az l.ah []) (E σ.az r.ah []),aN t.d.aH o=T/\t.d.ah=(eP ts q n l r).ah/\t.d.aG=(eP ts q n l r).aG/\t.d.size=(eP ts q n l r).size/\t.d.aJ<=(eP ts q n l r).aJ:=λ{o} ho hs=>by rw[eC,ez,es,ec,sl,sr];refine ah4 gl gr (h.sf.pcs h.gi la) (h.sf.pcs h.gi ra) kl kr ((h.gi.place la (h.aI _ la)).2 ho) hs (key:=n.key) ?_ (h.cl la ra).symm;refine hk.imp id ?_;rintro⟨k1,x,y,k2,k3⟩;obtain⟨⟨_,u1⟩,_,u2⟩:=h.key la ra GN k2;exact⟨k1,x,y,k2,k3.imp id λ⟨e,f,g⟩=>⟨e,f,g,(h.gi.place la (h.aI _ la)).2 u1,(h.gi.place ra (h.aI _ ra)).2 u2⟩⟩
 refine⟨by rw[ec,es],ez,by rw[eO,es];exact hl.ord.up h.qf (h.pw la) hS jC,?_⟩;split
 .rename_i ef
  rw[es]at ef;obtain⟨o,ho,hs,hi⟩:∃o,o∈dF ts q l.ah/\aN l.aH o=T/\(aN l.aH (aR q)=T->o=aR q):=by
   by_cases c:aN l.aH (aR q)=T
   .exact⟨_,h.gX la hl.ord c,c,λ_=>rfl⟩
   .exact⟨[],sO.2 (.inl rfl),vG _,λe=>absurd e c⟩
  obtain⟨t,ht,t1,t2,t3,t4,t5⟩:=hj ho hs;have hc:=hF t ht;unfold Cvd at hc;rw[Zd ef]at hc;exact zG h.qf (t:=⟨eP ts q n l r,[]⟩) (by rw[show (bF.mk (eP ts q n l r) []).d.aH=l.aH from eO];exact hl.ord.apart) t2 t3 t4 t5 (λe=>by
   grind) hc
 .rename_i ef
  rw[es]at ef ⊢;intro p hp hs;rw[eO]at hs;have aT:l.ah|||r.ah<N σ.az:=Qb;obtain⟨t,ht,t1,_,_,_,t5⟩:=hj (h.asN la hS jC hl.ord hs ((h.gi.place aT (h.aI _ aT)).1 ⟨p,hp,rfl⟩)) hs;have hc:=hF t ht;unfold Cvd at hc;rw[Zk ef]at hc;obtain⟨x,ex,hx⟩:=hc p hp t1;grind
theorem nR.ND{ts:JK af}{q:ae}{aI:Nat}{σ:fE}(h:nR ts q aI σ){i:Nat}(hi:i<N q.au.xs):Kno ts q σ (dE ts q (dh ts q) i).d:=by
 obtain⟨g,b,_⟩:=zD h.qf (s:=(i:Int)) X X;have b:(dE ts q (dh ts q) i).d.ah=2 ^ i:=b;have j:(dE ts q (dh ts q) i).d.aH=[]:=by unfold dE dz;simp only;split <;> rfl
 have a:=h.fin.ND i hi;unfold Cvd at a;have f:Oc ts q (dE ts q (dh ts q) i).d.ah (dE ts q (dh ts q) i).d.aH:=by rw[j];exact Oc.nil ..
 refine⟨g.cls,g.size,f,?_⟩;rw[b];split
 .rename_i e
  rw[Zd e]at a;exact zG h.qf (t:=⟨(dE ts q (dh ts q) i).d,[]⟩) (u:=dE ts q (dh ts q) i) f.apart rfl rfl rfl (Zb _) id a
 .rename_i e
  rw[Zk e]at a;exact a
theorem aib{pick:Int}(h1:σ.status=1):(gz rk ts q conc pick σ).cut=σ.cut/\((gz rk ts q conc pick σ).status=1∨(gz rk ts q conc pick σ).status=if σ.cut=T then 3 else 2):=by
 have hd:∀(t:bB) (τ:fE),(vU rk ts q conc t τ).status=τ.status/\(vU rk ts q conc t τ).cut=τ.cut:=λt τ=>by unfold vU ed;grind
 unfold gz;simp only;have e:=hd (E σ.aL (eF (N σ.aL) pick).toNat (0,0)) { σ with picks:=σ.picks++[eF (N σ.aL) pick],aL:=σ.aL.eraseIdx (eF (N σ.aL) pick).toNat };generalize vU rk ts q conc (E σ.aL (eF (N σ.aL) pick).toNat (0,0)) { σ with picks:=σ.picks++[eF (N σ.aL) pick],aL:=σ.aL.eraseIdx (eF (N σ.aL) pick).toNat } = τ at*;obtain⟨b,a⟩:=e;have a:τ.cut=σ.cut:=a;unfold jT;grind
def NW{rk:Nat->Int}{ts:JK af}{q:ae}{conc:JK Nat}(picks:IC){σ:fE}(h:σ.status=1):∀m,(iV rk ts q conc picks m 0 σ).cut=σ.cut/\((iV rk ts q conc picks m 0 σ).status=1∨(iV rk ts q conc picks m 0 σ).status=if σ.cut=T then 3 else 2)
 |0=>⟨rfl,.inl h⟩
 |m+1=>by
  have ih:=NW (rk:=rk) (ts:=ts) (q:=q) (conc:=conc) picks h m;rw[JI];split
  .rename_i h1
   have:=aib (rk:=rk) (ts:=ts) (q:=q) (conc:=conc) (pick:=jU picks (0+m)) h1;simp_all
  .exact ih
def amb(hq:QF ts q)(nC:GQ q (fF rk ts q aI))(picks:IC)(m:Nat)(nT:(iV rk ts q (dh ts q) picks m 0 (fF rk ts q aI)).status=2):nR ts q aI (iV rk ts q (dh ts q) picks m 0 (fF rk ts q aI)):=by
 have a:=JJ ts q;have b:=wK (rk:=rk) (ts:=ts) a hq.jM picks nC m;have hcut:(fF rk ts q aI).cut=false:=by have:=(NW (rk:=rk) (ts:=ts) (q:=q) (conc:=dh ts q) picks (σ:=fF rk ts q aI) rfl m).2;simp_all
 refine⟨hq,b.1.core,(aav a hq.jM picks nC (ah2 ..) m).fin (NH picks rfl m X),adY hq picks nC (aaI hq rk aI) m,afK picks (aaN ..) m,λs d=>?_⟩;rw[b.1.core.qw]at d;have hcut:((List.range (2 ^ (N q.au.xs)-1)).any λs=>decide (aI<N (dF ts q s)))=false:=hcut;simp_all
theorem aaO(nC:GQ q (fF rk ts q 1000)):(fF rk ts q 1000).cut=false:=by
 refine List.any_eq_false.2 λs a=>?_;have a:s<(fF rk ts q 1000).az.length:=by rw[nC.core.qw];simp_all
 have b:=(nC.core.nN s a).M6;have d:=congrArg N ((aaN rk ts q 1000).fst s a);grind
theorem TM(h8:N q.wh<=8)(i l:Nat){ow:IC}(how:bn ow=bJ (dh ts q) (2 ^ i)) :
  (ow=[]->eP ts q (nd 1 0 0 i [] 0 []) pz pz=(dE ts q (dh ts q) i).d)/\(bn ow≠0->eP ts q (nd 2 l 0 0 ow 0 []) (eP ts q (nd 1 0 0 i [] 0 []) pz pz) pz=(dE ts q (dh ts q) i).d):=by
 have a:(aS ts q (lh (i:Int)) []).d.ah=2 ^ i:=by rw[yT];rfl
 have b:eP ts q (nd 1 0 0 i [] 0 []) pz pz=(aS ts q (lh (i:Int)) []).d:=rfl;refine⟨λe=>?_,λe=>?_⟩
 .subst e;have g:bJ (dh ts q) (2 ^ i)=0:=by grind [bn]
  unfold dE dz;simp_all
 .rw[b];unfold dE dz;simp only;rw[a,<-how,Zk e];have f:bn (dZ (bn ow))=bn ow:=sP (by grind [xU])
  show eP ts q (nd 2 l 0 0 ow 0 []) (aS ts q (lh (i:Int)) []).d pz=eP ts q (Dx (dZ (bn ow))) (aS ts q (lh (i:Int)) []).d pz;unfold eP;rw[show (nd 2 l 0 0 ow 0 []).cl.xs=ow from rfl,show (Dx (dZ (bn ow))).cl.xs=dZ (bn ow) from rfl,f];rfl
theorem VI(h:0<N cs):∃c,c∈bD cs:=by
 match cs,h with
 |c::_,_ =>
  refine⟨c.left,?_⟩;unfold bD;rw[Zr,Z5];refine .inl ?_;unfold bz;grind
theorem ES(ok:Ok ts q){S:IC}(hS:cK (N q.au.xs) S)(i:Nat):(bJ (dh ts q) (bn S)).testBit i=(decide (i<N q.wh)&&jy ts q.au.xs (E q.wh i lz).cs S):=by
 rw[uf,JJ];by_cases a:i<N q.wh
 .rw[xS a,wY ok.qP ok.au ok.ig (ok.bU i a) hS]
 grind
def jK(ts:JK af)(q:ae)(s:IC):IC:=((List.range (N q.wh)).filter λc=>jy ts q.au.xs (E q.wh c lz).cs s).map λc:Nat=>(c:Int)
def wQ(i:Nat)(n:ay):Bool:=decide (n.kind≠1)&&(decide (n.l=i) ||(decide (bg n.kind=2)&&decide (n.r=i)))
def rO(pl:JK ay)(i:Nat):ay:=((pl.drop (i+1)).find? (wQ i)).getD nz
def mG(pl:JK ay)(i:Nat):IC:=if (E pl i nz).kind=1 then [(E pl i nz).source] else []
def mr(ts:JK af)(q:ae)(pl:JK ay)(i:Nat):Bool:=
 let n:=E pl i nz
 let s:=((iP ts q pl i).getD vz).ah
 if n.kind=1 then decide (jK ts q s=[]) ||(decide ((rO pl i).kind=2)&&decide ((rO pl i).cl.xs=jK ts q s))
 else if n.kind=2 then decide ((E pl n.l.toNat nz).kind=1)
 else if bg n.kind=2 then decide (n.cl.xs=(jK ts q s).filter λc=>!decide (c∈jK ts q (mG pl n.l.toNat)) && !decide (c∈jK ts q (mG pl n.r.toNat)))
 else T
def xX(ts:JK af)(q:ae)(pl:JK ay):Bool:=(nG ts q pl).isSome&&(List.range (N pl)).all (mr ts q pl)
theorem xY{s:IC}:x∈jK ts q s↔(0<=x/\x<N q.wh)/\jy ts q.au.xs (E q.wh x.toNat lz).cs s=true:=by unfold jK;grind
def OE(ok:Ok ts q){s:IC}(hs:cK (N q.au.xs) s):bn (jK ts q s)=bJ (dh ts q) (bn s):=by apply ZQ;intro i;rw[ZM λx a=>(xY.1 a).1.1,ES ok hs,Xa,Zi,xY];simp
theorem afY{ts:JK af}{q:ae}{pl:JK ay}:∀k,k<=N pl->(∀i,i<k->gU (E pl i nz) i)->∀ps,mO ts q pl k=O ps->LQ ts q (pl.take k) ps
 |0,_,_,ps,h=>by grind [mO,LQ.nil]
 |k+1,hk,nT,ps,h=>by
  have h:(mO ts q pl k).bind (zV ts q (E pl k nz))=O ps:=h
  cases hp:mO ts q pl k with
  |none=>rw[hp]at h;cases h
  |some qs =>
   rw[hp]at h;have ih:=afY k X (λi hi=>nT i X) qs hp;have hl:N (pl.take k)=k:=Qi;have h:zV ts q (E pl k nz) qs=O ps:=h;unfold zV at h;split at h
   .grind [LQ.agy,List.take_succ_eq_append_getElem]
   .cases h
theorem aqD{f:Nat->Nat}(hi:i<n)(hk:k<n)(fG:i≠k):f i+f k<=dV n f:=by
 induction n with
 |zero=>omega
 |succ n ih =>
  have one:∀{m j:Nat},j<m->f j<=dV m f:=λ{m j} hj=>by
   induction m with
   |zero=>omega
   |succ m ih =>
    grind [jD]
  grind [jD]
theorem CY(hs:gU (E pl k nz) k):wQ j (E pl k nz)=T↔j∈qN pl k:=by have a:=hs.l;have b:=hs.r;unfold wQ qN;simp only;generalize E pl k nz=n at*;have d:bg n.kind=if n.kind=1 then 0 else if 3<=n.kind/\n.kind<=5 then 2 else 1:=rfl;grind
theorem am6(nT:∀i,i<N pl->gU (E pl i nz) i)(ho:FD pl=T)(hi:i<N pl)(hj:j∈qN pl i):rO pl j=E pl i nz:=by
 have b:=lY pl i j hj;have d:∀k,k<N pl-1->dV (N pl) (λi=>(qN pl i).count k)=1:=by unfold FD at ho;simpa using ho
 have l:∀k,k<N pl->j∈qN pl k->k=i:=λk g a=>by
  by_cases e:k=i
  .exact e
  .have:=aqD (f:=λi=>(qN pl i).count j) g hi e;rw[d j X]at this
   grind
 have n:E pl i nz∈pl.drop (j+1):=by rw[JO];refine⟨i-(j+1),Qi,?_⟩;grind
 unfold rO
 cases hf:(pl.drop (j+1)).find? (wQ j) with
 |none =>
  grind [CY]
 |some x =>
  have p:=List.find?_some hf;obtain⟨m,a,e⟩:=JO.1 (List.mem_of_find?_eq_some hf);rw[List.getElem_drop]at e;rw[List.length_drop]at a;have q:x=E pl (j+1+m) nz:=Qb;grind [CY]
theorem TN(kind:Int)(s lc ls rc rs:Nat):dn kind s lc ls rc rs<=bO:=by grind [dn,AU,Dr,uY]
theorem zM{kind:Int}(s ls rs:Nat){lc:Nat}(rc:Nat)(h:lc<=bO)(hk:kind≠1):lc<=dn kind s lc ls rc rs:=by grind [dn,AU,Dr,zy,uY]
def BV(ts:JK af)(q:ae)(s:IC)(k:Nat):IC:=((List.range k).filter λc=>jy ts q.au.xs (E q.wh c lz).cs s).map λc:Nat=>(c:Int)
def abp(ts:JK af)(q:ae)(s:IC)(k:Nat):BV ts q s (k+1)=if jy ts q.au.xs (E q.wh k lz).cs s=T then BV ts q s k++[(k:Int)] else BV ts q s k:=by unfold BV;rw[ZG,List.filter_append,Q7];split <;> simp_all
theorem OG(ts:JK af)(q:ae)(s:IC)(k:Nat):N (BV ts q s k)<=k:=by unfold BV;grind
def zN(pl:JK ay)(i k:Nat):ay:=((pl.drop k).find? (wQ i)).getD nz
theorem VJ(h:k<N pl):zN pl i k=if wQ i (E pl k nz)=T then E pl k nz else zN pl i (k+1):=by grind [zN,List.drop_eq_getElem_cons]
def am7(ao so:LM)(cap Ac:Nat)(ts:JK af)(q:ae)(ss:IC)(w:U)(hx:aZ w ao ts)(hk:Chk ts q)(hq:q.At w)(hss:aP w so ss) :
  Calls V 38 #[Z ao (N ts) cap,Qt q.cells,Z so (N ss) Ac] w λe Q=>∃v,e=Qu v/\Q.ownsRow (M (H w)) 3 1 v (N (jK ts q ss)) ((jK ts q ss).map (Value.int J))/\Bw w Q:=by
 have m:Qm (∀k:Nat,k<N q.wh->∀x,Bw w x->Cb 80 #[Z ao (N ts) cap,Qt q.cells,I J k,Z so (N ss) Ac] x (Qq (jy ts q.au.xs (E q.wh k lz).cs ss))):=λk u x l=>
  MR ao so cap Ac ts q k ss x (hx.aj l) hk.qP (hq.aj l) hk.jM hk.au u (hk.bU k u) (hk.amc k u) (Zc l hss)
 have h8:=hk.ko;have f:=Zh λk=>abp ts q ss k;have z:=Zh λk=>OG ts q ss k;have S:Qm (jK ts q ss=BV ts q ss (N q.wh)):=rfl;obtain⟨p,dB,bL,r⟩:=bI w q.cells 35;generalize BV ts q ss=LT at*;have W:Qm (LT 0=[]):=by have:=z.o 0;exact Ju.1 X
 generalize jK ts q ss=LN at*;obtain⟨⟨WY,D5,xs⟩,iF,cZ,i,aF,⟨aa,AZ,ag⟩,⟨ah,La,ai⟩,⟨ak,Po,av⟩,⟨ax,Pp,ay⟩⟩:=q;unfold ae.cells aA.val at*;simp only at*;obtain⟨HG,G⟩:=bH r bL;go_enter func38,ntmps38;go_wp2;go_loopw [7,8] (λv y wr=>∃k:Nat,k<=N i/\y=I J k/\Qm (wr.ownsRow (M (H p)) 3 1 v (N (LT k)) ((LT k).map (Value.int J)))/\Bw p wr) (λ_ y _=>N i-(intOf y).toNat)
 case atStart=>exact⟨0,ZR _,rfl,by show World.ownsRow _ _ _ _ _ _ _;rw[W.o];exact XC _ _ _ _,Za _ _⟩
 case round=>
  obtain⟨k,hk,rfl,K,t⟩:=hrel;obtain⟨q0,q1,q2,q3,q4,q5,q6⟩:=(HG.o.up t).k7;have A:=Zh (aO G.o t);by_cases aT:k<N i
  .have g:=m.o k aT wr A.o;have n:=f.o k;have hl:=z.o k;generalize jy ts xs (E i k lz).cs ss=B at g n;go_wp2_with fail;refine mR g λR j=>?_
   obtain⟨a,d⟩:=bH (Ja K.o j) (aO t j)
   cases B with
   |false =>
    have f:Qm (LT (k+1)=LT k):=n;refine gQ ?_;exact⟨k+1,X,Qe,by rw[f.o];exact a.o,d.o⟩
   |true =>
    have f:Qm (LT (k+1)=LT k++[(k:Int)]):=n;obtain⟨L,P,rfl,-⟩:=X9 a.o X;obtain⟨v',w5,sF,mW,kC,⟨ua,um,uc,rfl⟩,-⟩:=pK R (M (H p)) (Z L (N (LT k)) P) (LT k) a.o X d.o.size (k:Int) 26;have qd:=Zh (d.o.trans (kC.aj d.o.size (λb l e=>Qj ((Xy a.o e).1))));have C:Qm _:=mW;rw[<-f.o]at C;go_wp2_with (first|(at_builtin;refine XJ rfl (.tmp 23) (.tmp 25) 26 rfl (Z L (N (LT k)) P) (Z (O (aD (M (H R)) 0)) 1 1) (Z ua um uc) w5 rfl rfl sF ?_));refine gQ ?_;exact⟨k+1,X,Qe,C.o,qd.o⟩
  .have e:k=N i:=X
   have D:Qm _:=Je K.o G.o.size;rw[e,<-S.o]at D;go_wp2;go_ret;exact⟨_,rfl,D.o,A.o⟩
theorem TP(ao bo:LM)(cap pQ:Nat)(xs ys:IC)(w:U)(hx:aP w ao xs)(hy:aP w bo ys) :
  Cb 40 #[Z ao (N xs) cap,Z bo (N ys) pQ] w (Qq (decide (xs=ys))):=by
 have a:=vB ao bo cap pQ xs ys w hx hy;have f:=hx.1;have b:=hy.1;have d:Qm (decide (xs=ys)=(aN xs ys&&decide (N xs=N ys))):=by show _=_;unfold aN;grind
 generalize aN xs ys=S at*;go_enter func40,ntmps40;go_wp2_with fail;refine mR a λg e=>?_;cases S
 all_goals
  go_wp2;go_ret;exact⟨QZ (by rw[d.o];first|rfl|(simp;grind)),e⟩
def am8{B:Nat}{n:ay}(h:GB W B 43 n.cells):(loadVar 43 (aD B 0)).run V W=.ok (Qt n.cells) W:=by obtain⟨c0,a,c2,c3,c4,c5,b⟩:=h.k7;unfold ay.cells;simp[go_sem,c0,a,c2,c3,c4,c5,b]
theorem am9{kind l r:Int}{s k:Int}{a b:aA}:(wQ i ⟨kind,l,r,s,a,k,b⟩=F/\(kind=1∨(kind != 1)=T/\(l==i)=F/\(kind<3∨¬kind<3/\(5<kind∨¬5<kind/\(r==i)=F))))∨(wQ i ⟨kind,l,r,s,a,k,b⟩=T/\((kind != 1)=T/\l=i∨(kind != 1)=T/\(l==i)=F/\¬kind<3/\¬5<kind/\r=i)):=by unfold wQ bg;grind
def ai3(po:LM)(dR:Nat)(pl:JK ay)(i:Nat)(w:U)(hn:fH w po pl)(hi:i<N pl)(hp:N pl<=64) :
  Cb 39 #[Z po (N pl) dR,I J i] w (Qt (rO pl i).cells):=by
 obtain⟨w1,dB,R,m⟩:=bI w #[I J 0,I J 0,I J 0,I J 0,Z Qr 0 0,I J 0,Z Qr 0 0] 43;have Nt:=Zh λk (h:k<N pl)=>VJ (i:=i) h;have HE:Qm (rO pl i=zN pl i (i+1)):=rfl;have HZ:Qm (zN pl i (N pl)=nz):=by show _=_;unfold zN;simp
 have L:Qm (∀(n:ay) (x:U),Bw w1 x->rO pl i=n->(loadVar 43 (aD (M (H w)) 0)).run V (lS (M (H w)) 0 [I J n.kind,I J n.l,I J n.r,I J n.source,n.cl.val,I J n.key,n.co.val] x)=.ok (Qt (rO pl i).cells) (lS (M (H w)) 0 [I J n.kind,I J n.l,I J n.r,I J n.source,n.cl.val,I J n.key,n.co.val] x)/\Bw w (lS (M (H w)) 0 [I J n.kind,I J n.l,I J n.r,I J n.source,n.cl.val,I J n.key,n.co.val] x)):=λn x K e=>by have g:=m.up K;refine⟨?_,(aO R K).trans ((lI _ _ _).aj (aO R K).size λb K=>by show b≠_;omega)⟩;rw[e];have g':=yM (vs:=[I J n.kind,I J n.l,I J n.r,I J n.source,n.cl.val,I J n.key,n.co.val]) (o:=0) g;simp only[I6,Zp,QX,QY]at g';exact am8 (n:=n) g'
 generalize rO pl i=AB,zN pl i=AT at*;obtain⟨HN,HG,HB⟩:=lX hn m R;clear hn m;go_enter func39,ntmps39;go_wp2;clear dB;go_loopw [5] (λiv wr=>∃k:Nat,k<=N pl/\iv=I J k/\Qm (AB=AT k)/\Bw w1 wr) (λiv _=>N pl-(intOf iv).toNat)
 case atStart=>exact⟨i+1,X,Qe,HE.o,Za _ _⟩
 case round=>
  obtain⟨k,hk,rfl,B,G⟩:=hrel;by_cases aT:k<N pl
  .obtain⟨pb,aa,rfl,c0,c1,c2,c3,c4,c5,c6,-,-⟩:=HN.o.2 k aT;have P:=aO HB.o G;obtain⟨d0,d1,d2,d3,d4⟩:=qi P c0 c1 c2 c3 c4;obtain⟨d5,d6⟩:=kP P c5 c6;have u:=Nt.o k aT;have d:=L.o (E pl k nz);generalize E pl k nz=n at*;clear c0 c1 c2 c3 c4 c5 c6 P;obtain⟨kind,nl,nr,source,⟨KL,KM,uD⟩,key,⟨E5,E8,uJ⟩⟩:=n;unfold aA.val at*;simp only at*;obtain⟨x,ae,q,t⟩:=bI wr #[I J kind,I J nl,I J nr,I J source,Z KL (N uD) KM,I J key,Z E5 (N uJ) E8] 43;obtain⟨e0,e1,e2,e3,e4,e5,e6⟩:=t.k7;have f:=Zh (aO G q);have v:=HG.o.up f.o;have z:=λj=>v.frozen j
   rcases am9 (i:=i) (kind:=kind) (l:=nl) (r:=nr) (s:=source) (k:=key) (a:=⟨KL,KM,uD⟩) (b:=⟨E5,E8,uJ⟩) with⟨ho,hd⟩|⟨ho,hd⟩
   .rw[ho]at u;have Q:Qm (AB=AT (k+1)):=B.o.trans u;clear u ho d B t q;rcases hd with rfl|⟨h,h',A|⟨A,h3|⟨h3,h4⟩⟩⟩
    all_goals
     refine gQ ?_;exact⟨k+1,X,Qe,Q.o,f.o⟩
   .rw[ho]at u;have y:Qm _:=d x f.o (B.o.trans u);have hg:=v.k7;clear u ho d B t q L Nt;rcases hd with⟨h,rfl⟩|⟨h,h',A,h3,rfl⟩
    all_goals
     go_wp2;exact Jr (uV (p:=4) rfl rfl y.o.1) rfl ⟨rfl,y.o.2⟩
  .have e:k=N pl:=X
   obtain⟨S,W⟩:=L.o nz wr G (by rw[B.o,e];exact HZ.o);obtain⟨C,D⟩:=bH S W;simp only[lS,nz,aA.val,XE,JW]at C D;have v:=HG.o.up G;have z:=λj=>v.frozen j;obtain⟨e0,e1,e2,e3,e4,e5,e6⟩:=v.k7;go_wp2;exact Jr (uV (p:=4) rfl rfl C.o) rfl ⟨rfl,D.o⟩
theorem ai4(pl:JK ay)(i:Nat):i∈fZ pl i:=by rw[nD];simp
def abq:∀m i,i<=m->∀j∈fZ pl i,(fZ pl j).Sublist (fZ pl i):=by
 intro m
 induction m with
 |zero =>
  intro i l j d;have:=Cq (lY pl) i i (Zb _) j d;simp_all
 |succ m ih =>
  intro i l j d;rw[nD]at d;rcases ZB.1 d with e|e
  .simp_all
  .obtain⟨k,g,f⟩:=ZA.1 e;have n:=lY pl i k g;rw[nD pl i];refine(ih k X j f).trans (List.Sublist.cons _ ?_);obtain⟨a,b,e⟩:=List.append_of_mem g
   simp_all
structure ana(ts:JK af)(q:ae)(pl:JK ay)(i:Nat)(v:dX):Prop where
 view:iP ts q pl i=O v
 read:iI ts q pl (N pl) i []=O (v,fZ pl i)
 nd:(fZ pl i).Nodup
 le:∀x∈fZ pl i,x<=i
 plain:fK (E pl i nz)=T
 st:gU (E pl i nz) i
 l:1<=bg (E pl i nz).kind->(E pl i nz).l.toNat∈fZ pl i/\∀x∈fZ pl (E pl i nz).l.toNat,x∈fZ pl i
 r:bg (E pl i nz).kind=2->(E pl i nz).r.toNat∈fZ pl i/\∀x∈fZ pl (E pl i nz).r.toNat,x∈fZ pl i
theorem ai5{v0:dX}(h:nG ts q pl=O v0)(hi:i<N pl):∃v,ana ts q pl i v:=by
 unfold nG at h;split at h
 .cases h
 rename_i dY;have f:1<=N pl:=X;have b:=Rw ts q pl (N pl) (N pl-1);rw[Nat.sub_add_cancel f]at b
 cases hr:iI ts q pl (N pl) (N pl-1) [] with
 |none=>rw[hr]at h;cases h
 |some x =>
  obtain⟨v,s⟩:=x;rw[hr]at h;simp only[Xi]at h;split at h
  .rename_i hc
   obtain⟨a,_,c⟩:=(b v s).1 ⟨hr,hc.2.1⟩;rw[tu ts q pl X]at a;obtain⟨_,_,z,_⟩:=yJ ts q pl (N pl) (N pl-1) [] v s Qa hr;have p:=(xK pl f).2 Qf;obtain⟨u,t⟩:=WJ ((xK pl f).1 p) a i X;have y:i∈fZ pl (N pl-1):=by have:=(Mt (lY pl) (N pl-1)).1 ((xK pl f).1 p) i X;grind [fZ]
   have g:=abq _ _ (Zb _) i y;have k:=g.nodup z;obtain⟨A,_,_⟩:=vX t;have m:=(Ey _ _).1 A;have d:∀j,j∈qN pl i->j∈fZ pl i/\∀x∈fZ pl j,x∈fZ pl i:=λj C=>by
    have:j∈fZ pl i:=by rw[nD];grind [ai4]
    exact⟨this,λx B=>(abq _ _ (Zb _) j this).subset B⟩
   refine⟨u,t,?_,k,Cq (lY pl) i i (Zb _),?_,m,λn=>d _ ?_,λn=>d _ ?_⟩
   .have:=wW ts q pl (N pl) i [] u (by grind [tu]) k (λx _=>Qa)
    simpa using this
   .grind [Ct]
   .have f:=m.l n;rw[<-CY m];unfold wQ;have:(E pl i nz).kind≠1:=λe=>by rw[lD e]at n;omega
    grind
   .have f:=m.r X;rw[<-CY m];unfold wQ;have:(E pl i nz).kind≠1:=λe=>by rw[lD e]at n;omega
    grind
  .cases h
theorem nR.aqX(h:nR ts q aI σ)(hl:Kno ts q σ l)(ht:l.aJ<=bO)(hS:l.ah<2 ^ (N q.au.xs)){n:ay}(hc:Oc ts q l.ah n.co.xs)(hk:n.kind=6)(iX:n.cl.xs=[]):Kno ts q σ (eP ts q n l pz):=by
 have b:(eP ts q n l pz).ah=l.ah:=by show (if n.kind=1 then _ else 0)|||l.ah|||0=_;simp_all
 have i:(eP ts q n l pz).aG=l.aG:=by show bn n.cl.xs|||l.aG|||0=_;rw[iX,Nat.or_zero];exact Nat.zero_or _
 have A:=EE (ts:=ts) (q:=q) (n:=n) (l:=l) (r:=pz) (by show gI n.kind=F;rw[hk];decide);have j:(eP ts q n l pz).aH=n.co.xs:=by show (if n.kind=6 then n.co.xs else _)=_;simp_all
 have G:(eP ts q n l pz).aJ=dn 6 (eP ts q n l pz).size l.aJ l.size 0 0:=by rw[<-hk];rfl
 have g:(eP ts q n l pz).size=l.size:=by rw[A,b,i];exact hl.size.symm
 have v:l.aJ<=(eP ts q n l pz).aJ:=by rw[G];exact zM _ _ _ _ ht Qc
 refine⟨by rw[i,b];exact hl.cls,A,by rw[b,j];exact hc,?_⟩;have a:=hl.low;rw[b];by_cases D:l.ah=2 ^ (N q.au.xs)-1
 .rw[Zd D]at a ⊢;by_cases c:aN n.co.xs (aR q)=T/\aN l.aH (aR q)=F
  .have K:0<N (aR q):=by
    cases e:aR q with
    |nil=>rw[e,vG]at c;cases c.2
    |cons=>simp
   have L:(bW ts q ⟨l,[]⟩ (aR q)).d.ah=l.ah:=by show 0|||l.ah|||0=_;simp
   have P:(bW ts q ⟨l,[]⟩ (aR q)).d.aG=l.aG:=by show 0|||l.aG|||0=_;simp
   have B:(bW ts q ⟨l,[]⟩ (aR q)).d.size=l.size:=by show jd ts q (0|||l.ah|||0) (0|||l.aG|||0)=_;simp_all
   have Q:(bW ts q ⟨l,[]⟩ (aR q)).d.aJ=dn 6 l.size l.aJ l.size 0 0:=by show dn 6 (bW ts q ⟨l,[]⟩ (aR q)).d.size l.aJ l.size 0 0=_;rw[B]
   have C:(bW ts q ⟨l,[]⟩ (aR q)).d.aH=aR q:=rfl;have k:σ.bP.d.aJ<=(jg ts q (bW ts q ⟨l,[]⟩ (aR q))).d.aJ:=a _ (by grind [dQ]);generalize bW ts q ⟨l,[]⟩ (aR q)=u at*;refine zG h.qf (t:=⟨eP ts q n l pz,[]⟩) (u:=u) (by rw[show (bF.mk (eP ts q n l pz) []).d.aH=n.co.xs from j];exact hc.apart) (L.trans b.symm) (P.trans i.symm) (B.trans g.symm) Qf (λ_=>by rw[C];unfold aN;simp) ?_;intro e f;unfold dQ at f;rw[Zd K]at f;have R:(bW ts q u (aR q)).d.size=u.d.size:=by show jd ts q (0|||u.d.ah|||0) (0|||u.d.aG|||0)=_;simp_all
   have t2:u.d.aJ<=(bW ts q u (aR q)).d.aJ:=by show u.d.aJ<=dn 6 (bW ts q u (aR q)).d.size u.d.aJ u.d.size 0 0;exact zM _ _ _ _ (by rw[Q];exact TN ..) Qc
   rcases ZB.1 f with rfl|f
   .exact k
   .rw[XH]at f;subst f;exact ZU k (ED ts (wL h.qf).2 R.symm t2 λ_=>by rw[C];unfold aN;simp)
  .refine zG h.qf (t:=⟨eP ts q n l pz,[]⟩) (u:=⟨l,[]⟩) (by rw[show (bF.mk (eP ts q n l pz) []).d.aH=n.co.xs from j];exact hc.apart) b.symm i.symm g.symm v (λe=>?_) a
   simp_all
 .rw[Zk D]at a ⊢;have m:l.ah<N σ.az:=by rw[h.core.qw];omega
  intro p z W;rw[j]at W;obtain⟨hh,r,k,_⟩:=(h.core.nN _ m).head;by_cases c:p.1∈((E σ.az l.ah []).map Prod.fst).drop 1
  .have sl:=hl.size;rw[hl.cls]at sl;have:=ah5 (h.core.nN _ m) (h.sf.pcs h.gi m) (h.fin.sor _ m) a c p z (by unfold aN;simp)
   simp_all
  .have y:=z;rw[k]at y c;have S:p.1=[]:=by simp_all
   obtain⟨x,ex,hx⟩:=a p z (by rw[S];exact vG _);grind
theorem Kno.ends{p:dG}(h:Kno ts q σ p)(hS:p.ah=2 ^ (N q.au.xs)-1){k:Int}(hk:k=7/\q.aF=T∨k=8/\q.aF=T/\aN p.aH q.aC.xs=T∨k=9/\q.aF=F) :
  (kF q k p.aH=T->σ.bP.d.aJ<=dn k p.size p.aJ p.size 0 0)/\∀c,c<=bO->dn k p.size p.aJ p.size 0 0<=c->σ.bP.d.aJ<=dn 10 p.size c p.size 0 0:=by
 have a:=h.low;rw[Zd hS]at a;have a:=a _ (Tv ts q ⟨p,[]⟩);rw[zF]at a;have a:σ.bP.d.aJ<=if kF q (bK q p.aH) p.aH=T then dn (bK q p.aH) p.size p.aJ p.size 0 0 else dn 10 p.size (dn (bK q p.aH) p.size p.aJ p.size 0 0) p.size 0 0:=a;have b:dn (bK q p.aH) p.size p.aJ p.size 0 0<=dn k p.size p.aJ p.size 0 0:=by
  have f:dn 8 p.size p.aJ p.size 0 0<=dn 7 p.size p.aJ p.size 0 0:=by show kQ [_,_]<=kQ [_,_,_];rw[AU,Dr];exact zy _ (uY _ _)
  unfold bK;grind
 refine⟨λg=>?_,λc i e=>?_⟩
 .split at a
  .omega
  .rename_i hn
   exfalso;apply hn;unfold bK;rcases hk with⟨rfl,hg⟩|⟨rfl,hg,hs⟩|⟨rfl,hg⟩
   .have:N q.ord.xs=0:=by unfold kF at g;simp_all
    unfold kF;rw[Zd this]
   .simp_all
   simp_all
 .split at a
  .exact ZU a (ZU b (ZU e (zM _ _ _ _ i Qc)))
  .exact ZU a (nP _ _ _ _ (ZU b e) (Zb _))
def ajj(ok:Ok ts q):jK ts q []=[]:=by rw[List.eq_nil_iff_forall_not_mem];intro x b;obtain⟨d,a⟩:=xY.1 b;obtain⟨c,e⟩:=VI (ok.some x.toNat X);unfold jy at a;simp_all
theorem anC(hc:c<2 ^ 64){k:Int}(h0:0<=k)(hb:c.testBit k.toNat=T):k∈dZ c:=by grind [dZ,Ml,sP]
theorem abL(hq:QF ts q){A B:IC}(hA:cK (N q.au.xs) A)(hB:cK (N q.au.xs) B)(GN:bn A &&& bn B=0){k:Int}(hk:0<=k/\k<N q.wh)(gH:(bJ (dh ts q) (bn A|||bn B)).testBit k.toNat=T){y:Int}(hs:xI ts q.au.xs (E q.wh k.toNat lz).cs (bn A) (bn B)=(x,y,T)):k∈dZ (bX (dh ts q) (bn A) (bn B)):=by
 have ok:=hq.ok;have hn:∀z,z∈A->z∈B->False:=λz h1 h2=>by have:=(Mw hA hB).2 ⟨z,h1,h2⟩;exact this GN
 obtain⟨e1,e2⟩:=Mx ok.qP ok.au ok.ig (cs:=(E q.wh k.toNat lz).cs) (ok.some _ X) (ok.bU _ X) hA hB;have hs':=e2 (by rw[<-e1,hs]);rw[hs]at hs';have hw:jy ts q.au.xs (E q.wh k.toNat lz).cs A=F/\jy ts q.au.xs (E q.wh k.toNat lz).cs B=false:=by
  have h0:=ok.some k.toNat X;generalize (E q.wh k.toNat lz).cs=cs at*
  match cs,h0 with
  |c::cs,_ =>
   unfold kS at hs';simp only[List.getD_cons_zero]at hs';split at hs'
   .cases hs'
   .rename_i DF
    have lH:cs=[]:=by simp_all
    have hc:bz c=[c.left,c.right]:=by unfold bz;simp_all
    subst lH;unfold jy bD;simp only[Zr,List.flatMap_nil,Zy,hc];simp;grind
 have aT:bJ (dh ts q) (bn A)|||bJ (dh ts q) (bn B)<18446744073709551616:=XV (n:=64) (xU ts q hq.ko _) (xU ts q hq.ko _);have h8:=hq.ko;refine anC (c:=bX (dh ts q) (bn A) (bn B)) ?_ hk.1 ?_
 .grind [bX,Nat.and_le_left]
 .unfold bX;rw[Fs aT _ X,gH,Nat.testBit_or,ES ok hA,ES ok hB,hw.1,hw.2];simp
structure Ck(ts:JK af)(q:ae)(pl:JK ay)(ps:JK dG):Prop where
 lq:LQ ts q pl ps
 rM:MB ts q pl ps
 once:FD pl=T
 asQ:∀i,i<N pl->mr ts q pl i=T
def Ck.kind(W:Ck ts q pl ps)(hi:i<N pl):(E ps i pz).kind=(E pl i nz).kind/\(E ps i pz).aJ<=bO/\(E ps i pz).ah<2 ^ (N q.au.xs):=by obtain⟨v,_,a,_⟩:=W.rM i (by rw[W.lq.len];exact hi);refine⟨by rw[W.lq.part i hi];rfl,by rw[W.lq.part i hi];exact TN ..,?_⟩;rw[a.ah];exact uL a.jL
theorem Ck.ND(W:Ck ts q pl ps)(hi:i<N pl)(hk:(E pl i nz).kind=1):iP ts q pl i=O ⟨[(E pl i nz).source],[],[],F,kM ts q [(E pl i nz).source] [],uF 1 (kM ts q [(E pl i nz).source] []) vz vz⟩/\0<=(E pl i nz).source/\(E pl i nz).source<N q.au.xs:=by
 obtain⟨v,b,_⟩:=W.rM i (by rw[W.lq.len];exact hi);have a:fK (E pl i nz)=true:=by grind [Ct]
 have:=DX ts q pl i rfl a hk;simp_all
def Ck.own(W:Ck ts q pl ps)(hi:i<N pl)(hj:j∈qN pl i)(hk:(E pl j nz).kind=1):jK ts q [(E pl j nz).source]=[]∨(E pl i nz).kind=2/\(E pl i nz).cl.xs=jK ts q [(E pl j nz).source]:=by have b:=lY pl i j hj;have a:=W.asQ j X;have d:=am6 W.lq.st W.once hi hj;unfold mr at a;simp only[hk,if_true,d,(W.ND (show j<N pl by omega) hk).1,Option.getD_some,Bool.or_eq_true,Q8,Zi]at a;exact a
def Uc(ts:JK af)(q:ae){n m:ay}(h1:n.kind=m.kind)(h2:n.source=m.source)(h3:n.cl.xs=m.cl.xs)(h4:n.co.xs=m.co.xs)(l r:dG):eP ts q n l r=eP ts q m l r:=by unfold eP;rw[h1,h2,h3,h4]
theorem abM(hb:b<2 ^ n)(h0:b≠0)(jC:a &&& b=0)(ha:a<2 ^ n):a<2 ^ n-1:=by grind [Nat.mod_eq_of_lt,Nat.and_two_pow_sub_one_eq_mod]
theorem aqY{l:IC}(h:∀x∈l,0<=x)(h0:l≠[]):bn l≠0:=λe=>by obtain⟨z,l,rfl⟩:=List.exists_cons_of_ne_nil h0;have a:=ZM h z.toNat;grind [Int.toNat_of_nonneg]
theorem Ck.kno(W:Ck ts q pl ps)(h:nR ts q aI σ):∀m i,i<m->i<N pl->gI (E pl i nz).kind=F->((E pl i nz).kind=1->jK ts q [(E pl i nz).source]=[])->Kno ts q σ (E ps i pz)/\(E ps i pz).ah≠0:=by
 have ok:=h.qf.ok;intro m
 induction m with
 |zero=>omega
 |succ m ih =>
  intro i aK f ho EW;have st:=W.lq.st i f;have more:=st.more;have ft:=W.lq.fit i f;have G:=W.lq.part i f;have L:=W.asQ i f;have gH:∀j,j=(E pl i nz).l.toNat/\1<=bg (E pl i nz).kind∨j=(E pl i nz).r.toNat/\bg (E pl i nz).kind=2->j∈qN pl i:=λj d=>by
   rw[<-CY st];have h1:=st.l;have h2:=st.r;unfold wQ;have:(E pl i nz).kind≠1:=λe=>by rw[lD e]at d;omega
   grind
  have aa:∀j,j∈qN pl i->(E pl i nz).kind≠2->gI (E pl j nz).kind=F->Kno ts q σ (E ps j pz)/\(E ps j pz).ah≠0/\jK ts q (mG pl j)=[]:=λj d h2 ho=>by
   have aD:=lY pl i j d;have hl:(E pl j nz).kind=1->jK ts q [(E pl j nz).source]=[]:=λe=>(W.own f d e).resolve_right λx=>h2 x.1;obtain⟨a,b⟩:=ih j X X ho hl;refine⟨a,b,?_⟩;unfold mG;split
   .simp_all
   .exact ajj ok
  obtain⟨v,hv,hP,-⟩:=W.rM i (by rw[W.lq.len];exact f);have aC:∀j,j<N pl->(E ps j pz).kind=(E pl j nz).kind:=λj d=>(W.kind d).1;have aT:∀j,j<N pl->(E ps j pz).ah<2 ^ (N q.au.xs):=λj d=>(W.kind d).2.2;have ni:∀j,j<N pl->∃s,cK (N q.au.xs) s/\(E ps j pz).ah=bn s:=λj d=>by obtain⟨u,_,hu,_⟩:=W.rM j (by rw[W.lq.len];exact d);exact⟨_,hu.jL,hu.ah⟩
  have L9:∀{j:Nat},j<N pl->(E pl j nz).kind=1->E ps j pz=eP ts q (nd 1 0 0 (E pl j nz).source.toNat [] 0 []) pz pz/\0<=(E pl j nz).source/\(E pl j nz).source<N q.au.xs:=λ{j} d hk=>by
   obtain⟨_,S,h1⟩:=W.ND d hk;refine⟨?_,S,h1⟩;rw[W.lq.part j d,show iK (E pl j nz) ps=pz by unfold iK;rw[lD hk];rfl,show gD (E pl j nz) ps=pz by unfold gD;rw[lD hk];rfl];have hm:=(W.lq.st j d).more;unfold xJ at hm;rw[Zi,lD hk]at hm;refine Uc ts q hk Qb ?_ ?_ _ _
   .simp_all
   simp_all
  generalize hn:E pl i nz=n at*;have Aw:=st.lo;have aF:=st.hi;have h6:n.kind<=6:=by unfold gI at ho;simp at ho;omega
  rw[Q8]at ft;obtain⟨fk,p⟩:=ft;by_cases D:n.kind=1
  .obtain⟨e,S,h1⟩:=L9 f (by rw[hn];exact D);rw[hn]at e S h1;have hs:=OE ok (s:=[n.source]) λx C=>Qf
   rw[EW D]at hs;have e1:bn [n.source]=2 ^ n.source.toNat:=by rw[<-vk,Xb S]
   rw[e1]at hs;rw[e,(TM h.qf.ko n.source.toNat 0 (ow:=[]) hs).1 rfl];refine⟨h.ND X,?_⟩;rw[(zD h.qf (s:=(n.source.toNat:Int)) X X).2.1];simp_all
  have a1:1<=bg n.kind:=by unfold bg;grind
  have hl:=st.l a1;have P:=gH n.l.toNat (.inl ⟨rfl,a1⟩);have aG:=lY pl i _ P;have eL:iK n ps=E ps n.l.toNat pz:=by unfold iK;rw[Zd a1]
  rw[eL]at fk p G;have Q:=fk;have Lb:gI (E pl n.l.toNat nz).kind=false:=by unfold nE at Q;grind
  by_cases k2:n.kind=2
  .have a2:bg n.kind=1:=by rw[k2];decide
   have eR:gD n ps=pz:=by unfold gD;rw[Zk X]
   rw[eR]at G p;unfold mr at L;simp only[hn,Zk D,Zd k2,Zi]at L;obtain⟨es,S,h1⟩:=L9 (j:=n.l.toNat) X L;have zT:cK (N q.au.xs) [(E pl n.l.toNat nz).source]:=λx C=>Qf;have e1:bn [(E pl n.l.toNat nz).source]=2 ^ (E pl n.l.toNat nz).source.toNat:=by rw[<-vk,Xb S]
   have R:(E ps n.l.toNat pz).ah=bn [(E pl n.l.toNat nz).source]:=by rw[es,e1];show 2 ^ (((E pl n.l.toNat nz).source.toNat:Nat):Int).toNat|||0|||0=_;rw[Nat.or_zero,Nat.or_zero,XY]
   have hf:0<N n.cl.xs/\vg ts q n.cl.xs (E ps n.l.toNat pz).ah=true:=by unfold pI at p;grind
   have iX:n.cl.xs=jK ts q [(E pl n.l.toNat nz).source]:=by
    rcases W.own f P L with e|e
    .exfalso;have hr:=hf.2;rw[R,show bn [(E pl n.l.toNat nz).source]=bn [(E pl n.l.toNat nz).source]|||bn [] by show _=_|||0;simp,WI ok zT (λx C=>by cases C)]at hr;unfold jI at hr;rw[Q9]at hr;have:=hr 0 Qi;simp only[Q8,Zi]at this;have hm:E n.cl.xs 0 0∈jK ts q [(E pl n.l.toNat nz).source]:=xY.2 ⟨⟨this.1.1.1,this.1.1.2⟩,this.2⟩;rw[e]at hm
     cases hm
    grind
   have g:bn n.cl.xs=bJ (dh ts q) (2 ^ (E pl n.l.toNat nz).source.toNat):=by rw[iX,OE ok zT,e1]
   have fG:bn n.cl.xs≠0:=aqY (λx C=>by rw[iX]at C;exact(xY.1 C).1.1) λe=>Qb;have:=(TM h.qf.ko (E pl n.l.toNat nz).source.toNat 0 g).2 fG;have ec:n.co.xs=[]:=by unfold xJ at more;rw[Zi]at more;rw[<-Ju];omega
   have aj:n.source=0:=by unfold xJ at more;grind
   rw[G,Uc ts q (m:=nd 2 (0:Nat) 0 0 n.cl.xs 0 []) k2 aj rfl ec,es,this];refine⟨h.ND X,?_⟩;rw[(zD h.qf (s:=((E pl n.l.toNat nz).source.toNat:Int)) X X).2.1];grind
  obtain⟨kl,sl,al⟩:=aa _ P k2 Lb;by_cases k6:n.kind=6
  .have a2:bg n.kind=1:=by rw[k6];decide
   have eR:gD n ps=pz:=by unfold gD;rw[Zk X]
   rw[eR]at G p;have ak:n.cl.xs=[]:=by unfold xJ at more;grind
   have hf:uG ts q.au.xs n.co.xs (E ps n.l.toNat pz).ah=true:=by unfold pI at p;simp only[k6]at p;exact p
   have hc:Oc ts q (E ps n.l.toNat pz).ah n.co.xs:=by
    unfold uG at hf;rw[Q8,Q8,Q9]at hf;have hg:∀i,i<N n.co.xs->(0<=E n.co.xs i 0/\E n.co.xs i 0<aX ts q.au.xs)/\E n.co.xs i 0 ∉ n.co.xs.take i/\bV (E ps n.l.toNat pz).ah (2 ^ aU ts q.au.xs (E n.co.xs i 0))=true:=λi f=>by have:=hf.2 i (Xd.2 f);grind
    refine⟨?_,λc hc=>?_⟩
    .refine(Az λi f j d e=>?_).symm;exact(hg i f).2.1 ((uM f).2 ⟨j,d,e.symm⟩)
    .obtain⟨i,f,rfl⟩:=Ze hc;have:=hg i f
     grind
   rw[G];refine⟨h.aqX kl (W.kind X).2.1 (aT _ X) hc k6 ak,?_⟩;show (if n.kind=1 then _ else 0)|||(E ps n.l.toNat pz).ah|||0≠0;grind
  have a2:bg n.kind=2:=by unfold bg;rw[Zk D,Zd X]
  have hr:=st.r X;have ag:=gH n.r.toNat (.inr ⟨rfl,a2⟩);have aJ:=lY pl i _ ag;have eR:gD n ps=E ps n.r.toNat pz:=by unfold gD;rw[Zd a2]
  rw[eR]at G p Q;have av:gI (E pl n.r.toNat nz).kind=false:=by unfold nE at Q;grind
  obtain⟨kr,sr,ar⟩:=aa _ ag k2 av;have d:zU ts q n (E ps n.l.toNat pz).ah (E ps n.r.toNat pz).ah=true:=by unfold pI at p;rw[Zk D,Zk k2]at p;grind
  have GN:(E ps n.l.toNat pz).ah &&& (E ps n.r.toNat pz).ah=0:=by unfold zU at d;grind
  have qw:=h.core.qw;have la:(E ps n.l.toNat pz).ah<N σ.az:=by rw[qw];exact abM (aT _ X) sr GN (aT _ X)
  have ra:(E ps n.r.toNat pz).ah<N σ.az:=by rw[qw];exact abM (aT _ X) sl Qb (aT _ X)
  have R:bn v.ah=(E ps n.l.toNat pz).ah|||(E ps n.r.toNat pz).ah:=by rw[<-hP.ah,G];show (if n.kind=1 then _ else 0)|||(E ps n.l.toNat pz).ah|||(E ps n.r.toNat pz).ah=_;rw[Zk D,Nat.zero_or]
  have iX:n.cl.xs=jK ts q v.ah:=by unfold mr at L;simp only[hn,Zk D,Zk k2,Zd a2,hv,Option.getD_some,al,ar,Zi]at L;rw[L];exact List.filter_eq_self.2 λ_ _=>Qa
  have g:bn n.cl.xs=bJ (dh ts q) ((E ps n.l.toNat pz).ah|||(E ps n.r.toNat pz).ah):=by rw[iX,OE ok hP.jL,R]
  obtain⟨sL,hL,aA⟩:=ni n.l.toNat X;obtain⟨sR,hR,aB⟩:=ni n.r.toNat X;rw[G];refine⟨h.join kl kr la ra sr GN ?_ ?_,?_⟩
  .rw[g,<-h.cl la ra]
   grind
  .by_cases k3:n.kind=3
   .left;unfold xJ at more;rw[Zi]at more;omega
   right;have k:(lZ ts q n (E ps n.l.toNat pz).ah (E ps n.r.toNat pz).ah).2.2=T/\(n.kind=4∨n.kind=5/\aN (E ps n.l.toNat pz).aH [(lZ ts q n (E ps n.l.toNat pz).ah (E ps n.r.toNat pz).ah).1]=T/\aN (E ps n.r.toNat pz).aH [(lZ ts q n (E ps n.l.toNat pz).ah (E ps n.r.toNat pz).ah).2.1]=T):=by
    unfold pI at p;rw[Zk D,Zk k2,Zk k3]at p;by_cases k4:n.kind=4
    .grind
    .rw[Zk k4,Zd X]at p
     grind
   have A:n.key∈n.cl.xs/\0<=n.key/\n.key<N q.wh:=by
    have:=k.1;unfold lZ at this;split at this
    .assumption
    .cases this
   have ax:lZ ts q n (E ps n.l.toNat pz).ah (E ps n.r.toNat pz).ah=xI ts q.au.xs (E q.wh n.key.toNat lz).cs (E ps n.l.toNat pz).ah (E ps n.r.toNat pz).ah:=by unfold lZ;rw[Zd A]
   have hb:(bJ (dh ts q) ((E ps n.l.toNat pz).ah|||(E ps n.r.toNat pz).ah)).testBit n.key.toNat=true:=by rw[<-g,ZM (λx C=>by rw[iX]at C;exact(xY.1 C).1.1),Xb A.2.1];grind
   rw[ax]at k;obtain⟨⟨x,y,z⟩,B⟩:∃t,t=xI ts q.au.xs (E q.wh n.key.toNat lz).cs (E ps n.l.toNat pz).ah (E ps n.r.toNat pz).ah:=⟨_,rfl⟩;rw[<-B]at k;obtain⟨hz,ai⟩:=k;simp only at hz ai;subst hz;have K:n.key∈dZ (bX (dh ts q) (E ps n.l.toNat pz).ah (E ps n.r.toNat pz).ah):=by rw[aA,aB]at GN hb B ⊢;exact abL h.qf hL hR GN A.2 hb B.symm
   refine⟨K,x,y,?_,ai⟩;unfold lZ;rw[Zd ⟨K,A.2⟩];exact B.symm
  .show (if n.kind=1 then _ else 0)|||(E ps n.l.toNat pz).ah|||(E ps n.r.toNat pz).ah≠0
   rw[Zk D,Nat.zero_or];intro e;exact sl (Nat.or_eq_zero_iff.1 e).1
structure aHo(ts:JK af)(q:ae)(σ:fE)(p:dG)(k:Int)(d:dG):Prop where
 kno:Kno ts q σ p
 full:p.ah=2 ^ (N q.au.xs)-1
 kind:k=7/\q.aF=T∨k=8/\q.aF=T/\aN p.aH q.aC.xs=T∨k=9/\q.aF=F
 size:d.size=p.size
 aJ:dn k p.size p.aJ p.size 0 0<=d.aJ
 CO:d.kind=10->∃c,c<=bO/\dn k p.size p.aJ p.size 0 0<=c/\d.aJ=dn 10 p.size c p.size 0 0
theorem Ck.ends(W:Ck ts q pl ps)(h:nR ts q aI σ):∀m i,i<m->i<N pl->gI (E pl i nz).kind=T->∃p k,aHo ts q σ p k (E ps i pz)/\((E pl i nz).kind≠10->k=(E pl i nz).kind/\p=E ps (E pl i nz).l.toNat pz/\(E ps i pz).aJ=dn k p.size p.aJ p.size 0 0):=by
 intro m
 induction m with
 |zero=>omega
 |succ m ih =>
  intro i P g C;have st:=W.lq.st i g;have r:=W.lq.fit i g;have t:=W.lq.part i g;have D:(E ps i pz).kind=(E pl i nz).kind:=(W.kind g).1;have R:7<=(E pl i nz).kind:=by unfold gI at C;simp_all
  have G:=st.hi;have S:bg (E pl i nz).kind=1:=by unfold bg;grind
  have hl:=st.l X;have f:(E pl i nz).l.toNat∈qN pl i:=by rw[<-CY st];unfold wQ;grind
  have K:=lY pl i _ f;rw[show iK (E pl i nz) ps=E ps (E pl i nz).l.toNat pz by unfold iK;rw[Zd X],show gD (E pl i nz) ps=pz by unfold gD;rw[Zk X]]at t r;have z:=(W.kind (show (E pl i nz).l.toNat<N pl by omega));have own:=λQ=>W.own g f Q;generalize hj:(E pl i nz).l.toNat=j at*;generalize hn:E pl i nz=n at*;have u:(E ps i pz).size=(E ps j pz).size:=by rw[t];show (if gI n.kind=T then _ else _)=_;rw[Zd C]
  have v:(E ps i pz).aJ=dn n.kind (E ps j pz).size (E ps j pz).aJ (E ps j pz).size 0 0:=by
   have:(E ps i pz).aJ=dn n.kind (E ps i pz).size (E ps j pz).aJ (E ps j pz).size 0 0:=by rw[t];rfl
   rw[this,u]
  rw[Q8]at r;obtain⟨L,B⟩:=r;have b:gI (E pl j nz).kind=decide (n.kind=10):=by unfold nE at L;simp_all
  by_cases a:n.kind=10
  .rw[Zl a]at b;obtain⟨p,k,d,_⟩:=ih j X X b;refine⟨p,k,⟨d.kno,d.full,d.kind,by rw[u];exact d.size,?_,λ_=>⟨(E ps j pz).aJ,z.2.1,d.aJ,?_⟩⟩,λe=>absurd a e⟩
   .rw[v];exact ZU d.aJ (zM _ _ _ _ z.2.1 X)
   .rw[v,a,d.size]
  .rw[ZK a]at b;obtain⟨kn,_⟩:=W.kno h (j+1) j X X b λe=>(own e).resolve_right λx=>X
   have A:(n.kind=7/\q.aF=T∨n.kind=8/\q.aF=T/\aN (E ps j pz).aH q.aC.xs=T∨n.kind=9/\q.aF=F)/\wZ q (E ps j pz)=true:=by unfold pI at B;rw[Zk X,Zk X,Zk X,Zk X,Zk X,Zk X]at B;grind
   have y:=A.2;unfold wZ at y;rw[Q8,Zi,Zi]at y;exact⟨_,n.kind,⟨kn,y.1,A.1,u,X,λe=>absurd (D ▸ e) a⟩,λ_=>⟨rfl,rfl,v⟩⟩
theorem Ud(h:nR ts q aI σ)(hw:xX ts q pl=T){v:dX}(hv:nG ts q pl=O v):σ.bP.d.aJ<=v.aJ:=by
 rcases RO h.qf.ok pl with⟨_,e⟩|⟨ps,v',hlk,hr,h1,dY,hK,hc⟩
 .rw[hv]at e;cases e
 rw[hv]at hr;injection hr with hr;subst hr;unfold AX at hlk;split at hlk
 .cases hlk
 rename_i a;have a:nZ pl=true:=by simpa using a
 unfold nZ at a;simp only[Q8,Q9,Xd]at a;obtain⟨⟨_,f⟩,g⟩:=a;have f:∀i,i<N pl->gU (E pl i nz) i:=λi j=>(Ey _ _).1 (f i j)
 cases hp:mO ts q pl (N pl) with
 |none=>simp_all
 |some qs =>
  rw[hp]at hlk;simp only[Xi]at hlk;split at hlk
  .rename_i he
   injection hlk with hlk;subst hlk;have m:=afY (N pl) (Zb _) f qs hp;rw[Z0]at m;unfold xX at hw;rw[Q8,Q9]at hw;have W:Ck ts q pl qs:=⟨m,hK,g,λi j=>hw.2 i (Xd.2 j)⟩;rw[Q8]at he;obtain⟨p,k,b,n⟩:=W.ends h (N pl) (N pl-1) X X he.1;obtain⟨r,t⟩:=b.kno.ends b.full b.kind;rw[<-hc];by_cases l:(E pl (N pl-1) nz).kind=10
   .obtain⟨c,u,c2,c3⟩:=b.CO (by rw[(W.kind X).1];exact l)
    simp_all
   grind
  .cases hlk
