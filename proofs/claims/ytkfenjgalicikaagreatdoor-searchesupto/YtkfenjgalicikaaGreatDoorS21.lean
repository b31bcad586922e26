import Derived.Test.YtkfenjgalicikaaGreatDoorS14
import Derived.Test.YtkfenjgalicikaaGreatDoorS15
import Derived.Test.YtkfenjgalicikaaGreatDoorS19
set_option linter.all false
set_option maxRecDepth 100000
set_option maxHeartbeats 0
namespace Go.Proofs.Zz
open Go.RowKit Go.Shelf Go.Proofs.Tryz
open List renaming length->N,getD->E
open Go.Value renaming slice->Z,int->I,pointer->Y,tuple->Qv
open Go.Proofs.Tryz renaming prog->V
open Option renaming some->O,none->Qr
open Go.IntKind renaming i64->J
open Bool renaming false->F,true->T
open Go renaming World->U,Value->Ql
open Go.World renaming heap->H,setCell->Qn,cell?->Qo
open _root_.Array renaming size->M
open Go.RowKit renaming Hid->Qm
open Go.Obj renaming cells->Qs
open Go.Ending renaming returned->Qu
variable {ts:JK af} {q:ae} {W W0 Xq w w0:U} {G a b base bc bd be bf bk bo bp bu bw i1 i2 k1 k2 lo n s1 s2 sb sz:Nat} {Ti Tl Tn t tI:TypeId} {d:Array Ql} {v va vi vm vn vp:Ql} {A:Nat->Nat} {ls:JK (Ql × JK ay)} {nv:JK ay} {Ft Mq:Pm} {es ps:JK qh} {f:bC} {L:yB} {σ:fE} {R:Ending->U->Prop}
def ar0(hc:q.check ts=0):QF ts q:=by
 obtain⟨d,c2,c3,c4,c5⟩:=sS hc;have e:dm q.aC.xs (aX ts q.au.xs)=T/\dK q.aC.xs=true:=by
  unfold ae.check uj at hc;split at hc
  .omega
  .split at hc
   .omega
   .split at hc
    .rename_i hr
     have f:=hr.2.2.2;unfold jX at f;simp_all
    .omega
 have a:∀{l:IC} {n:Int},dm l n=T->∀c∈l,0<=c/\c<n:=λ{l n} h c b=>by unfold dm at h;simp_all
 refine⟨d.ok,c2,d.jM,d.ko,a e.1,e.2,λi c b=>?_⟩;unfold jk at b;rw[Xc]at b;obtain⟨p,g,rfl⟩:=b;have j:=a (c3 i) p g;have k:p.toNat<N q.bA.xs:=X;refine a c5 _ ?_;simp_all
section
def Shp(Xq:U)(b:Nat)(t:TypeId)(n:Nat):Prop:=∃c,GB Xq b t c/\c.size=n
def Shp.set{Xq:U}{b:Nat}{t:TypeId}{n:Nat}(h:Shp Xq b t n)(a i:Nat)(v:Ql):Shp (Qn Xq (aD a i) v) b t n:=by
 obtain⟨c,d,f⟩:=h;by_cases e:a=b
 .subst e;exact⟨_,d.set i v,by simpa using f⟩
 .exact⟨c,d.of (Below.heap_setCell Xq (aD a i) v b (Ne.symm e)),f⟩
def Shp.aq6{b:Nat}{t:TypeId}{n:Nat}(a:Nat):∀(vs:JK Ql) (o:Nat) {Xq:U},Shp Xq b t n->Shp (lS a o vs Xq) b t n
 |[],_,_,h=>h
 |v::vs,o,_,h=>Shp.aq6 a vs (o+1) (h.set a o v)
theorem Shp.cell{Xq:U}{b:Nat}{t:TypeId}{n:Nat}(h:Shp Xq b t n){i:Nat}(hi:i<n):(∃v,Qo Xq (aD b i)=O v)/\Xq.frozen? (aD b i)=false:=by obtain⟨c,a,d⟩:=h;exact⟨⟨c[i]'(X),by rw[a.cell i,Array.getElem?_eq_getElem X]⟩,a.frozen i⟩
structure Spo(W:U)(G tG tC tS tI tT tR:Nat)(gc:Array Ql)(lb:Nat)(lc:Array Ql)(Bs Ls:JK Nat)(bw n:Nat)(A Al:Nat->Nat)(bc m:Nat)(Xq:U):Prop where
 g:GB Xq G tG gc
 l:GB Xq lb tR lc
 vT:∀i,i<5->Shp Xq (E Bs i 0) tI (E Ls i 0+2)
 row:∀i,i<n->Qo Xq (aD bw i)=O (Z (O (aD (A i) 0)) (Al i) (Al i+2))
 aHH:∃c,GB Xq bw tC c
 al:∀i,i<n->Shp Xq (A i) tS ((Al i+2)*5)
 qP:Shp Xq bc tT ((m+2)*6)
 fu:aB (λb=>¬((∃i,i<5/\b=E Bs i 0)∨(∃i,i<n/\b=A i)∨b=bc∨M (H W)<=b)) W Xq
variable {W:U} {G tG tC tS tI tT tR:Nat} {gc:Array Ql} {lb:Nat} {lc:Array Ql} {Bs Ls:JK Nat} {bw n:Nat} {A Al:Nat->Nat} {bc m:Nat} {Xq:U}
def GB.Af{s:TypeId}{c:Array Ql}(h:GB Xq b t c)(h':GB Xq a s d)(ht:t≠s)(vs:JK Ql)(o:Nat):GB (lS a o vs Xq) b t c:=h.bT (lI vs o Xq) λe=>by subst e;unfold GB at h h';simp_all
theorem Spo.anG(h:Spo W G tG tC tS tI tT tR gc lb lc Bs Ls bw n A Al bc m Xq){s:Nat}(h':GB Xq a s d)(h1:tG≠s)(h2:tR≠s)(h3:tC≠s)(hm:(∃i,i<5/\a=E Bs i 0)∨(∃i,i<n/\a=A i)∨a=bc)(vs:JK Ql)(o:Nat):Spo W G tG tC tS tI tT tR gc lb lc Bs Ls bw n A Al bc m (lS a o vs Xq):=by
 obtain⟨p,k⟩:=h.aHH;have f:=k.Af h' h3 vs o;refine⟨h.g.Af h' h1 vs o,h.l.Af h' h2 vs o,λi j=>(h.vT i j).aq6 a vs o,λi j=>?_,⟨p,f⟩,λi j=>(h.al i j).aq6 a vs o,h.qP.aq6 a vs o,h.fu.trans ((lI vs o Xq).mono λb _ q e=>q ?_)⟩
 .rw[f.cell i,<-k.cell i];exact h.row i j
 grind
theorem Giv.spo{lb:Nat}{lc:Array Ql}
  (h:Giv w0 w G 81 59 57 56 3 54 43 25 26 ts q bc bf bk bu be bo bw bp bd v A k1 k2 s1 i1 s2 i2) (hb:Bw w W) (hX:Bw W Xq) (hl:GB Xq lb 26 lc) (gc:Array Ql) (hg:GB w G 81 gc) :
  Spo W G 81 59 56 3 54 26 gc lb lc [bf,bk,bu,be,bo] [N q.au.xs,N q.aC.xs,N q.aM.xs,N q.bA.xs,N q.ord.xs] bw (N q.wh) A (λi=>(E q.wh i lz).cs.length) bc (N ts) Xq:=by
 have e:=aO hb hX;have d:∀{b:Nat} {t:TypeId} {c:Array Ql},GB w b t c->GB Xq b t c:=λg=>g.up e;have a:∀{b:Nat} {xs:IC},GB w b 3 (gF xs)->Shp Xq b 3 (N xs+2):=λ{b xs} g=>⟨_,d g,by simp[gF]⟩;refine⟨d hg,hl,λi f=>?_,λi f=>?_,?_,λi f=>⟨_,d (h.al i f),?_⟩,⟨_,d h.qP,?_⟩,Xl hX⟩
 .rcases (by omega:i=0∨i=1∨i=2∨i=3∨i=4) with rfl|rfl|rfl|rfl|rfl
  .exact a h.au
  .exact a h.aC
  .exact a h.aM
  .exact a h.bA
  .exact a h.ord
 .have j:=(h.row.of_block (e.block _ h.row.lt)).cell (i:=i) X
  simp_all
 .obtain⟨c,j,_⟩:=h.row.of_block (e.block _ h.row.lt);exact⟨c,j⟩
 .have:∀l:JK aV,N (l.flatMap aV.jQ)=N l*5:=λl=>by
   induction l with
   |nil=>rfl
   |cons c l ih=>grind [mJ]
  show (List.toArray _).size=_;rw[XD,Zt,this];show _+10=_;omega
 .have:∀l:JK af,N (l.flatMap pX)=N l*6:=λl=>by
   induction l with
   |nil=>rfl
   |cons c l ih=>grind [mK]
  show (List.toArray _).size=_;rw[XD,Zt,this];show _+12=_;omega
def Spb(bc bf bk bu be bo n:Nat)(A:Nat->Nat)(b:Nat):Prop:=(∃i,i<5/\b=[bf,bk,bu,be,bo].getD i 0)∨(∃i,i<n/\b=A i)∨b=bc
theorem ajq
  (h:Giv w0 w G 81 59 57 56 3 54 43 25 26 ts q bc bf bk bu be bo bw bp bd v A k1 k2 s1 i1 s2 i2) (hb:Bw w W) (hl:N q.au.xs<=2000000/\N q.aC.xs<=2000000/\N q.aM.xs<=2000000/\N q.bA.xs<=2000000/\N q.ord.xs<=2000000/\N q.wh<=2000000/\N ts<=2000000/\∀i,i<N q.wh->(E q.wh i lz).cs.length<=2000000) :
  Calls V 24 #[Y (O (aD G 0))] W λe W'=>e=Qu (Qv #[])/\aB (λb=>¬Spb bc bf bk bu be bo (N q.wh) A b) W W':=by
 obtain⟨P,Q⟩:∃P:U->Prop,P=Spo W G 81 59 56 3 54 26 #[Z (O (aD bc 0)) (N ts) (N ts+2),Z (O (aD bf 0)) (N q.au.xs) (N q.au.xs+2),Z (O (aD bw 0)) (N q.wh) (N q.wh+2),.bool q.aF,
  Z (O (aD bk 0)) (N q.aC.xs) (N q.aC.xs+2),Z (O (aD bu 0)) (N q.aM.xs) (N q.aM.xs+2),Z (O (aD be 0)) (N q.bA.xs) (N q.bA.xs+2),Z (O (aD bo 0)) (N q.ord.xs) (N q.ord.xs+2),
  Z (O (aD bp 0)) 0 2,Z (O (aD bd 0)) 0 2,Z (O (aD bc 0)) (N ts+2) (N ts+2),Z (O (aD bw 0)) (N q.wh+2) (N q.wh+2),v,Z (O (aD bp 0)) 2 2,Z (O (aD bd 0)) 2 2,Z Qr 0 0] (M (H W)) #[Z (O (aD bf 0)) (N q.au.xs) (N q.au.xs+2),Z (O (aD bk 0)) (N q.aC.xs) (N q.aC.xs+2),Z (O (aD bu 0)) (N q.aM.xs) (N q.aM.xs+2),Z (O (aD be 0)) (N q.bA.xs) (N q.bA.xs+2),Z (O (aD bo 0)) (N q.ord.xs) (N q.ord.xs+2)] [bf,bk,bu,be,bo] [N q.au.xs,N q.aC.xs,N q.aM.xs,N q.bA.xs,N q.ord.xs] bw (N q.wh) A (λi=>(E q.wh i lz).cs.length) bc (N ts):=⟨_,rfl⟩
 have aa:Qm (∀a,Bw W a->GB a (M (H W)) 26 #[Z (O (aD bf 0)) (N q.au.xs) (N q.au.xs+2),Z (O (aD bk 0)) (N q.aC.xs) (N q.aC.xs+2),Z (O (aD bu 0)) (N q.aM.xs) (N q.aM.xs+2),Z (O (aD be 0)) (N q.bA.xs) (N q.bA.xs+2),Z (O (aD bo 0)) (N q.ord.xs) (N q.ord.xs+2)]->P a):=λa hX hl=>by rw[Q];exact Giv.spo h hb hX hl _ h.g
 have m:Qm (∀a,P a->Qo a (aD G 0)=O (Z (O (aD bc 0)) (N ts) (N ts+2))/\Qo a (aD G 2)=O (Z (O (aD bw 0)) (N q.wh) (N q.wh+2))/\Qo a (aD G 8)=O (Z (O (aD bp 0)) 0 2)):=λa h=>by rw[Q]at h;exact⟨h.g.at 0,h.g.at 2,h.g.at 8⟩
 obtain⟨BI,z,ah⟩:∃BI z:Nat->Nat,Qm (∀a,P a->∀i,i<5->z i<=2000000/\Qo a (aD (M (H W)) i)=O (Z (O (aD (BI i) 0)) (z i) (z i+2))/\∀k,k<z i->(∃u,Qo a (aD (BI i) k)=O u)/\a.frozen? (aD (BI i) k)=F/\P (Qn a (aD (BI i) k) (I J 77777))):=by
  refine⟨λi=>[bf,bk,bu,be,bo].getD i 0,λi=>[N q.au.xs,N q.aC.xs,N q.aM.xs,N q.bA.xs,N q.ord.xs].getD i 0,λa h i C=>?_⟩;rw[Q]at h ⊢;have y:=h.vT i C;refine⟨?_,?_,λk hk=>?_⟩
  .rcases (by omega:i=0∨i=1∨i=2∨i=3∨i=4) with rfl|rfl|rfl|rfl|rfl
   .exact hl.1
   .exact hl.2.1
   .exact hl.2.2.1
   .exact hl.2.2.2.1
   .exact hl.2.2.2.2.1
  .rcases (by omega:i=0∨i=1∨i=2∨i=3∨i=4) with rfl|rfl|rfl|rfl|rfl
   .exact h.l.at 0
   .exact h.l.at 1
   .exact h.l.at 2
   .exact h.l.at 3
   .exact h.l.at 4
  .obtain⟨c1,c2⟩:=y.cell (i:=k) (Nat.lt_add_right 2 hk);obtain⟨c,f,_⟩:=y;exact⟨c1,c2,h.anG f Qc Qc Qc (.inl ⟨i,C,rfl⟩) [I J 77777] k⟩
 obtain⟨B,Un⟩:∃B:Nat->Nat,Qm (∀a,P a->∀i,i<N q.wh->B i<=2000000/\Qo a (aD bw i)=O (Z (O (aD (A i) 0)) (B i) (B i+2))/\∀k,k<B i->(∀j,j<5->(∃u,Qo a (aD (A i) (k*5+j))=O u)/\a.frozen? (aD (A i) (k*5+j))=F)/\P (lS (A i) (k*5) [.bool F,I J 77777,I J 0,.bool F,I J 0] a)):=by refine⟨λi=>(E q.wh i lz).cs.length,λa h i C=>?_⟩;rw[Q]at h ⊢;have y:=h.al i C;refine⟨hl.2.2.2.2.2.2.2 i C,h.row i C,λk hk=>⟨λj hj=>y.cell Qb,?_⟩⟩;obtain⟨c,f,_⟩:=y;exact h.anG f Qc Qc Qc (.inr (.inl ⟨i,C,rfl⟩)) _ (k*5)
 have ak:Qm (∀a,P a->∀k,k<N ts->(∀j,j<6->(∃u,Qo a (aD bc (k*6+j))=O u)/\a.frozen? (aD bc (k*6+j))=F)/\P (lS bc (k*6) [I J 77777,I J 0,I J 0,I J 0,I J 0,I J 0] a)):=λa h k hk=>by rw[Q]at h ⊢;have y:=h.qP;refine⟨λj hj=>y.cell X,?_⟩;obtain⟨c,f,_⟩:=y;exact h.anG f Qc Qc Qc (.inr (.inr rfl)) _ (k*6)
 have av:Qm (∀a,P a->aB (λb=>¬Spb bc bf bk bu be bo (N q.wh) A b) W a):=λa h=>by
  rw[Q]at h;refine h.fu.mono λb vR hn e=>hn ?_;rcases e with e|e|e|e
  .exact .inl e
  .exact .inr (.inl e)
  .exact .inr (.inr e)
  .omega
 have S:=h.g.up hb;have c1:=S.at 1;have c4:=S.at 4;have c5:=S.at 5;have c6:=S.at 6;have c7:=S.at 7;have z6:=hl.2.2.2.2.2.1;have z7:=hl.2.2.2.2.2.2.1;clear h hb S hl Q;generalize N q.au.xs=n1,N q.aC.xs=n2,N q.aM.xs=n3,N q.bA.xs=n4,N q.ord.xs=n5,N ts=tn,N q.wh=wn at*;go_enter func24,ntmps24;go_wp2_with fail;refine wH W λL=>?_;refine GZ 0 L ?_;refine GZ 10 L ?_;refine wA5 20 L ?_;obtain⟨Yq,hY,O9,ai⟩:=bI W.drew #[Z (O (aD bf 0)) n1 (n1+2),Z (O (aD bk 0)) n2 (n2+2),Z (O (aD bu 0)) n3 (n3+2),Z (O (aD be 0)) n4 (n4+2),Z (O (aD bo 0)) n5 (n5+2)] 26;refine wR 25 λK hK=>?_;go_simp;refine oT hK L O9 λL=>?_;clear hK K;refine rR 26 L ?_;refine wD ?_;have ag:Qm (P Yq):=aa.o Yq L ai;clear aa L O9 ai c1 c4 c5 c6 c7;obtain⟨-,-,y8⟩:=m.o Yq ag.o;go_wp2;go_loopw [2,3] (λvv t a=>vv=Z (O (aD (M (H W)) 0)) 5 5/\t=I J 0/\a=Yq) (λ_ _ _=>0)
 case atStart=>simp
 case round=>
  obtain⟨rfl,rfl,rfl⟩:=hrel;go_wp2;clear y8;go_loopw [4] (λt a=>∃i:Nat,i<=5/\t=I J i/\Qm (P a)) (λt _=>5-(intOf t).toNat)
  case atStart=>exact⟨0,X,rfl,ag.o⟩
  case round=>
   obtain⟨i,C,rfl,d⟩:=hrel;by_cases aT:i<5
   .obtain⟨hL,y0,-⟩:=ah.o wr d.o i aT;go_wp2;go_loopw [5] (λp a=>∃k:Nat,k<=z i/\p=I J k/\Qm (P a)) (λp _=>z i-(intOf p).toNat)
    case atStart=>exact⟨0,X,rfl,d.o⟩
    case round=>
     clear d y0;obtain⟨k,hk,rfl,d⟩:=hrel;obtain⟨-,y0,R⟩:=ah.o wr d.o i aT;by_cases r:k<z i
     .obtain⟨⟨u,hu⟩,hf,D⟩:=R k r;have n:=Zh D;clear R D;refine gQ ?_;exact⟨k+1,X,Qe,n.o⟩
     .clear R;refine gQ ?_;exact⟨i+1,X,Qe,d.o⟩
   .obtain⟨-,g2,-⟩:=m.o wr d.o;go_wp2;go_loopw [6] (λt a=>∃j:Nat,j<=wn/\t=I J j/\Qm (P a)) (λt _=>wn-(intOf t).toNat)
    case atStart=>exact⟨0,X,rfl,d.o⟩
    case round=>
     clear d g2;obtain⟨j,hj,rfl,d⟩:=hrel;obtain⟨g0,g2,-⟩:=m.o wr d.o;by_cases aj:j<wn
     .obtain⟨hL,y0,-⟩:=Un.o wr d.o j aj;go_wp2;go_loopw [7] (λp a=>∃k:Nat,k<=B j/\p=I J k/\Qm (P a)) (λp _=>B j-(intOf p).toNat)
      case atStart=>exact⟨0,X,rfl,d.o⟩
      case round=>
       clear d y0 g0 g2;obtain⟨k,hk,rfl,d⟩:=hrel;obtain⟨-,g2,-⟩:=m.o wr d.o;obtain⟨-,y0,R⟩:=Un.o wr d.o j aj;by_cases r:k<B j
       .obtain⟨f,D⟩:=R k r;obtain⟨⟨u0,e0⟩,f0⟩:=f 0 X;obtain⟨⟨u1,e1⟩,f1⟩:=f 1 X;obtain⟨⟨u2,e2⟩,f2⟩:=f 2 X;obtain⟨⟨u3,e3⟩,f3⟩:=f 3 X;obtain⟨⟨u4,e4⟩,f4⟩:=f 4 X;rw[Xg]at e0 f0;have n:=Zh D;clear R D f;refine gQ ?_;exact⟨k+1,X,Qe,n.o⟩
       .clear R;refine gQ ?_;exact⟨j+1,X,Qe,d.o⟩
     .go_wp2;go_loopw [8] (λp a=>∃k:Nat,k<=tn/\p=I J k/\Qm (P a)) (λp _=>tn-(intOf p).toNat)
      case atStart=>exact⟨0,X,rfl,d.o⟩
      case round=>
       clear d g0 g2;obtain⟨k,hk,rfl,d⟩:=hrel;obtain⟨g0,-,-⟩:=m.o wr d.o;by_cases r:k<tn
       .obtain⟨f,D⟩:=ak.o wr d.o k r;obtain⟨⟨u0,e0⟩,f0⟩:=f 0 X;obtain⟨⟨u1,e1⟩,f1⟩:=f 1 X;obtain⟨⟨u2,e2⟩,f2⟩:=f 2 X;obtain⟨⟨u3,e3⟩,f3⟩:=f 3 X;obtain⟨⟨u4,e4⟩,f4⟩:=f 4 X;obtain⟨⟨u5,e5⟩,f5⟩:=f 5 X;rw[Xg]at e0 f0;have n:=Zh D;clear D f;refine gQ ?_;exact⟨k+1,X,Qe,n.o⟩
       .have HE:=Zh (av.o wr d.o);go_wp2;go_end0;exact⟨rfl,HE.o⟩
end
theorem aqn{n:ay}:∀{ls:JK (JK ay)},N ls<=2->∀l∈ls,N l<=N (sI n ls)/\∀m∈l,∃m'∈sI n ls,m'.kind=m.kind
 |[],_,l,h=>by cases h
 |[a],_,l,h=>by rw[XH]at h;subst h;refine⟨by simp[sI,jF],λm hm=>⟨dO 0 m,?_,rfl⟩⟩;unfold sI jF;simp;exact .inl ⟨m,hm,rfl⟩
 |[a,b],_,l,h=>by
  rcases ZB.1 h with h|h
  .subst h;refine⟨by simp[sI,jF] <;> omega,λm hm=>⟨dO 0 m,?_,rfl⟩⟩;unfold sI jF;simp;exact .inl ⟨m,hm,rfl⟩
  .rw[XH]at h;subst h;refine⟨by simp[sI,jF] <;> omega,λm hm=>⟨dO (N a) m,?_,rfl⟩⟩;unfold sI jF
   grind
 |_::_::_::_,h,_,_=>by simp at h
structure BO(Tl Tn Ti:TypeId)(base:Nat)(w:U)(v:Ql)(ls:JK (Ql × JK ay)):Prop where
 own:w.ownsRow base Tl 1 v (N ls) (ls.map Prod.fst)
 node:∀x∈ls,oV Tn Ti base w x.1 x.2
 apart:((ls.map Prod.snd).flatMap eZ).Pairwise Apt
theorem BO.slices(h:BO Tl Tn Ti base w v ls):∃b cap,v=Z b (N ls) cap/\Oo w b (ls.map Prod.fst):=by
 rcases XP h.own with⟨rfl,h1⟩|⟨g,cap,rfl,_,_,hc⟩
 .refine⟨Qr,0,by rw[h1],λi a=>?_⟩;rw[ZX]at a;omega
 .refine⟨O (aD g 0),cap,rfl,λi a=>⟨g,0,rfl,?_⟩⟩
  grind
theorem BO.push(h1:Tl≠Tn)(h2:Tl≠Ti){w':U}{v' u:Ql}(h:BO Tl Tn Ti base w0 v ls)(hb:Bw w0 w)(uH:base<=M (H w0))(hu:oV Tn Ti (M (H w0)) w u nv)
  (ho:w'.ownsRow base Tl 1 v' (N (ls.map Prod.fst++[u])) (ls.map Prod.fst++[u])) (hk:aB (λb=>v.ownBlock≠O b) w w'):BO Tl Tn Ti base w' v' (ls++[(u,nv)]):=by
 have g:w.ownsRow base Tl 1 v (N ls) (ls.map Prod.fst):=Xw h.own (Xk (s:=λ_=>True) hb λ_ h _=>h) λ_ _=>trivial;have i:∀b,(∃j,GB w b Tn j∨GB w b Ti j)->v.ownBlock≠O b:=λb ⟨c,f⟩ e=>by
  rcases f with f|f
  .exact rA h1 g f e
  .exact rA h2 g f e
 refine⟨?_,λx a=>?_,?_⟩
 .grind
 .rcases Z5.1 a with a|a
  .exact((h.node x a).aj hb).fu hk λb _ _ e=>i b e
  .rw[XH]at a;rw[a];have d:=hu.fu hk λb _ _ e=>i b e
   exact⟨lL d.own uH,λx a=>⟨lL (d.lists x a).1 uH,(d.lists x a).2⟩,d.apart⟩
 .rw[Q7,ZW,List.pairwise_append];refine⟨h.apart,by simpa using hu.apart,λx a y m b n p=>?_⟩;obtain⟨l,k,a⟩:=ZA.1 a;obtain⟨z,hz,rfl⟩:=Xc.1 k;have:=(Xy ((h.node z hz).lists x a).1 n).2;have:=(Xy (hu.lists y (by simpa using m)).1 p).1;omega
def Tryz.TG:(V.info? 39).map (λi=>(i.zero,i.size,i.bytes))=O (O (Z Qr 0 0),1,24):=Qd
theorem aiR(W:U)(base:Nat)(v:Ql)(vs:JK Ql)(bG:W.ownsRow base 39 1 v (N vs) vs)(hl:N vs<=1000)(hb:base<=M (H W))(a:LM)(m c:Nat)(ty:TypeId) :
  ∃d e,(Builtin.append_ #[27,27] ty #[v,Z (O (aD (M (H W)) 0)) 1 1]).run V (W.alloc (Qs #[Z a m c] 39))=.ok d e/\
   e.ownsRow base 39 1 d (N (vs++[(Value.slice a m c)])) (vs++[(Value.slice a m c)])/\aB (λb=>v.ownBlock≠O b) W e/\(∃a m c,d = Z a m c)/\(d.ownBlock=v.ownBlock∨d.ownBlock=O (M (H W)+1)):=by
 obtain⟨i0,k,f,g,i⟩:=XB Tryz.TG;obtain⟨d,e,l,n,p,q,r⟩:=lg (P:=V) W base 27 ty 39 i0 _ 1 24 underlying27 k f g i rfl Qc v (N vs) _ bG hb [.slice a m c] rfl (λu j=>by
  rw[XH]at j;rw[j];rfl) hl Qc
 grind
theorem aez(k:Nat)(IH:∀{Ft:Pm} {w:U} {a:Nat} {t:bF},tX 144 Ft k w a t->dS w 0->(∀m∈t.ns,1<=m.kind/\m.kind<=10)->N t.ns<=900->Calls V 71 #[Y (O (aD a 0))] w (mM 43 3 (M (H w)) w t.ns))
  {t:bF} (ht:tX 144 Ft (k+1) w a t) (hs:dS w 0) (hkd:∀m∈t.ns,1<=m.kind/\m.kind<=10) (hln:N t.ns<=900):Calls V 71 #[Y (O (aD a 0))] w (mM 43 3 (M (H w)) w t.ns):=by
 obtain⟨p,n,bo,bc,bs,d,hx⟩:=ht;have q:=aqn (n:=n) (ls:=bs.map λx=>x.2.ns) (by rw[ZX];exact d.two);rw[<-d.lay]at q;have aa:Qm (∀(x:U) (i:Nat),i<N bs->Bw w x->Calls V 71 #[Y (O (aD (E (bs.map Prod.fst) i 0) 0))] x (mM 43 3 (M (H x)) x (E ((bs.map λx=>x.2.ns)) i []))):=λx i hi u=>by
  have e1:E (bs.map Prod.fst) i 0=(bs[i]).1:=Qb;have e2:E (bs.map λx=>x.2.ns) i []=(bs[i]).2.ns:=Qb;rw[e1,e2];have hm:(bs[i]).2.ns∈bs.map λx=>x.2.ns:=Xc.2 ⟨_,Q6 hi,rfl⟩;obtain⟨h1,h2⟩:=q _ hm;exact IH ((hx _ (Q6 hi)).eG (Xk u λ_ h _=>h)) (hs.aj u) (λm aH=>by
   obtain⟨m',z,e⟩:=h2 m aH;rw[<-e];exact hkd m' z) X
 have ae:Qm (∀(x:U) (v:Ql) (io:LM) (ic:Nat) (ls:JK (Ql × JK ay)),Bw w x->Oo x io (ls.map Prod.fst)->(ls.map λx=>x.2.map fA)=(bs.map λx=>x.2.ns)->BO 39 43 3 (M (H w)) x v ls->
   Calls V 109 #[.agg n.cells,Z io (N ls) ic] x (mM 43 3 (M (H w)) x t.ns)):=λx v io ic ls u PG he CW=>by
  have hl:N ls=N bs:=by have:=congrArg N he;simpa using this
  rw[d.lay,<-he];refine amD u.size (hs.aj u) n (Zc u d.cl) d.cln (Zc u d.co) d.con d.lens io ic ls PG (λy hy=>⟨CW.node y hy,λm hm=>?_⟩) CW.apart (by rw[hl];exact d.two) ?_
  .have af:y.2.map fA∈bs.map λx=>x.2.ns:=Qb
   obtain⟨m',z,e⟩:=(q _ af).2 (fA m) (Xc.2 ⟨m,hm,rfl⟩);have:=hkd m' z;rw[e]at this;exact this
  .have h1:N (jF (ls.map Prod.snd))=N (jF (bs.map λx=>x.2.ns)):=by rw[<-he,<-ZX (f:=fA),Io,Xe];rfl
   rw[h1];have h2:N t.ns=N (jF (bs.map λx=>x.2.ns))+1:=by rw[d.lay];unfold sI;simp
   omega
 have LY:=d.gb.at 13;have n0:=d.gb.at 6;have n1:=d.gb.at 7;have n2:=d.gb.at 8;have n3:=d.gb.at 9;have n4:=d.gb.at 10;have n5:=d.gb.at 11;have n6:=d.gb.at 12;have ag:=Zh d.ptrs;have aI:=d.two;have rP:Qm (N (bs.map Prod.fst)=N bs):=ZX _;have C:Qm (N (bs.map λx=>x.2.ns)=N bs):=ZX _;generalize t.ns=R,bs.map Prod.fst=bf,(bs.map λx=>x.2.ns)=NS,N bs=bl at*;obtain⟨kind,nl,nr,au,⟨ca,cc,cl⟩,key,⟨da,dc,co⟩⟩:=n;simp only[ay.cells,aA.val]at*;go_enter func71,ntmps71;go_wp2;go_loopw [3,11] (λpv iv wr=>∃(j:Nat) (ls:JK (Ql × JK ay)),j<=bl/\iv=I J (j:Int)/\Qm ((ls.map λx=>x.2.map fA)=NS.take j)/\Qm (BO 39 43 3 (M (H w)) wr pv ls)/\Qm (Bw w wr)) (λ_ iv _=>bl-(intOf iv).toNat)
 case atStart=>exact⟨0,[],ZR _,rfl,rfl,⟨XC _ _ _ _,(λx hx=>by cases hx),List.Pairwise.nil⟩,Za _ _⟩
 case round=>
  obtain⟨j,ls,hj,rfl,S,B,l⟩:=hrel;obtain⟨D,W,G,rfl⟩:=Xz B.o.own;have bG:∀g,(Value.slice D W G).ownBlock=O g->M (H w)<=g/\g<M (H wr):=λg e=>Xy B.o.own e;by_cases aT:j<bl
  .obtain⟨bb,aM,rfl,ax⟩:=gy.get (ag.o.aj l.o) (i:=j) (by rw[rP.o];exact aT);have aJ:=ax j (by rw[rP.o];exact aT);have ah:=aa.o wr j aT l.o;obtain⟨az,K⟩:=bH (Jt NS [] (by rw[C.o];exact aT)) bG;generalize E bf j 0=ba,E NS j []=Nj at*;go_wp2_with fail;refine ah.mono ?_;rintro e L ⟨v3,nv,rfl,A,P,r⟩;obtain⟨ya,ym,yc,rfl⟩:=Xz P.own;have CW:N ls<=2:=by have:=congrArg N S.o;rw[ZX,Jb]at this;omega
   have ai:L.ownsRow (M (H w)) 39 1 (Z D W G) (N (ls.map Prod.fst)) (ls.map Prod.fst):=by rw[ZX];exact Xw B.o.own (Xk (s:=λb=>b<M (H wr)) r (λb _ h=>h)) (λg hg=>(K.o g hg).2)
   obtain⟨v4,w4,aB,wG,Q,⟨za,zm,zc,rfl⟩,jl⟩:=aiR L (M (H w)) (Z D W G) (ls.map Prod.fst) ai (by rw[ZX];omega) (ZU l.o.size r.size) ya ym yc 27;have aK:=Zh (BO.push Qc Qc B.o r l.o.size P wG Q);have aL:Qm (((ls++[((Z ya ym yc:Ql),nv)]).map λx=>x.2.map fA)=NS.take (j+1)):=by show _=_;rw[Q7,S.o,az.o,List.map_singleton,A]
   have qO:=Zh ((l.o.trans (r.mono l.o.size)).trans (Q.aj (ZU l.o.size r.size) (λb u e=>Qj ((K.o b e).1))));go_wp2_with (first|(at_builtin;refine XJ rfl (.tmp 15) (.tmp 18) 27 rfl (Z D W G) (Z (O (aD (M (H L)) 0)) 1 1) (Z za zm zc) w4 rfl rfl aB ?_));go_wp2;go_roundw
   case rel=>grind
   case measure=>exact XK
  .have ak:bl=j:=X
   subst ak;rw[XW (by rw[C.o];exact Zb _)]at S;obtain⟨L,aC⟩:=eY (wr);subst aC;obtain⟨ya,yc,hy,aF⟩:=B.o.slices;simp only[Value.slice.injEq]at hy;obtain⟨rfl,rfl,rfl⟩:=hy;have av:=ae.o L _ D G ls l.o aF S.o B.o;obtain⟨d0,d1,d2,d3,d4⟩:=qi l.o n0 n1 n2 n3 n4;obtain⟨d5,d6⟩:=kP l.o n5 n6;go_wp2_with fail;refine av.mono ?_;rintro e w4 ⟨v,nv,rfl,A,hK,aG⟩;have HF:Qm (mM 43 3 (M (H w)) w R (Qu v) w4):=⟨v,nv,rfl,A,hK,l.o.trans (aG.mono l.o.size)⟩;obtain⟨va,vm,vc,rfl⟩:=Xz hK.own;go_wp2;go_ret;exact HF.o
def afS:∀(k:Nat) {Ft:Pm} {w:U} {a:Nat} {t:bF},tX 144 Ft k w a t->dS w 0->(∀m∈t.ns,1<=m.kind/\m.kind<=10)->N t.ns<=900->Calls V 71 #[Y (O (aD a 0))] w (mM 43 3 (M (H w)) w t.ns)
 |0,_,_,_,_,h,_,_,_=>h.elim
 |k+1,_,_,_,_,h,hs,hk,hl=>aez k (afS k) h hs hk hl
def aiS{t:bF}(h:bM 144 Ft w a t)(hs:dS w 0)(ht:oK q t)(hl:N t.ns<=900):Calls V 71 #[Y (O (aD a 0))] w (mM 43 3 (M (H w)) w t.ns):=by obtain⟨k,b⟩:=h;exact afS k b hs ht.kinds hl
theorem abm{base n sz:Nat}{t:TypeId}{v:Ql}{g:Nat}(hv:v.ownBlock=O g):∀(vs:JK Ql) (o:Nat) (pre yA post:JK Ql) (Xq:U),N pre=o->N yA=N vs->Xq.ownsRow base t sz v n (pre++(yA++post))->(lS g o vs Xq).ownsRow base t sz v n (pre++(vs++post))
 |[],o,pre,yA,post,Xq,hp,ho,h=>by grind [lS]
 |u::vs,o,pre,[],post,Xq,hp,ho,h=>by simp at ho
 |u::vs,o,pre,w::yA,post,Xq,hp,ho,h=>by
  have hl:o<n*sz:=by have:=h.1;grind
  have h1:=zk h hv hl u;have e:(pre++(w::yA++post)).set o u=(pre++[u])++(yA++post):=by simp_all
  rw[e]at h1;have h2:=abm hv vs (o+1) (pre++[u]) yA post _ Qi (by simpa using ho) h1;grind [lS]
def Wrt(t:TypeId)(len:Nat)(m:Int)(v:Ql)(W:U)(i:Nat)(Xq:U):Prop:=aB (λb=>v.ownBlock≠O b) W Xq/\∃rest,Xq.ownsRow 0 t 7 v len ((List.replicate i (aas m)).flatten++rest)
theorem Gy(i:Nat)(m:Int):N ((List.replicate i (aas m)).flatten)=i*7:=by
 induction i with
 |zero=>rfl
 |succ i ih=>rw[List.replicate_succ,List.flatten_cons,Zt,ih,Nat.succ_mul];show 7+_=_;omega
theorem Wrt.step{len:Nat}{m:Int}{i:Nat}(h:Wrt t len m v W i Xq)(hi:i<len):∃g,v.ownBlock=O g/\(∀j,j<7->(∃u,Qo Xq (aD g (i*7+j))=O u)/\Xq.frozen? (aD g (i*7+j))=F)/\Wrt t len m v W (i+1) (lS g (i*7) (aas m) Xq):=by
 obtain⟨n,rest,a⟩:=h;obtain⟨g,d⟩:∃g,v.ownBlock=O g:=by
  rcases a.2 with⟨_,h0⟩|⟨g,cap,f,e,_⟩
  .omega
  .exact⟨g,by rw[e];rfl⟩
 have k:=a.1;rw[Zt,Gy]at k;obtain⟨f,p⟩:=Jp a d;have l:GB Xq g t f:=p;refine⟨g,d,λj y=>⟨⟨rest[j]'(X),zL a d ?_⟩,l.frozen _⟩,n.trans ((lI _ _ _).mono λb _ q e=>q (e ▸ d)),rest.drop 7,?_⟩
 .grind [Gy]
 .have r:=abm d (aas m) (i*7) ((List.replicate i (aas m)).flatten) (rest.take 7) (rest.drop 7) Xq (Gy i m) (by rw[Jb];show min 7 _=7;omega) (by rw[XA];exact a)
  grind [List.replicate_succ']
def KpP(tW tR tP tI:TypeId)(wb lo:Nat)(va:Ql)(n k p:Nat)(B:Pm)(W W':U):Prop:=
 ∃vi vm vp vn es ps,Oz tW tR tP tI wb lo va n vi vm vp vn es (es.map qh.m) ps (ps.map qh.m) W'/\N es=k/\N ps=p/\aB (λb=>b≠wb/\¬B b) W W'/\∀b,dD.own vi vm es b∨dD.own vp vn ps b->B b∨M (H W)<=b
def amR:Psh V 27 39 1:=OA underlying27 Tryz.TG rfl X X
def amS:Psh V 39 43 7:=OA underlying39 Tryz.Gx rfl X X
def dD.types{tL tN:TypeId}{b1 b2 n1 n2:Nat}{u1 u2:Ql}{x1 x2:JK Ql}(h1:W.ownsRow b1 tI s1 u1 n1 x1)(h2:W.ownsRow b2 tN s2 u2 n2 x2)(fG:tI≠tN)(e1:u1.ownBlock=O b):u2.ownBlock≠O b:=λa=>by obtain⟨d,e⟩:=Jp h1 e1;obtain⟨c2,f⟩:=Jp h2 a;simp_all
theorem aiY{wb:Nat}(hB:Oz 31 26 39 3 wb lo va n vi vm vp vn es (es.map qh.m) ps (ps.map qh.m) W)(Aw:lo<=M (H W))(nv:JK ay)(a:LM)(c:Nat)(hv:W.ownsRow 0 43 7 (Z a (N nv) c) (N nv) (nv.flatMap ay.eT))(hl:N nv<=1000)(hn:n<=90000000)(he:N es<=70000000)(hp:N ps<=70000000)
  (ho:aAk 3 (λb=>b=wb∨dD.own vi vm es b∨dD.own vp vn ps b) (eZ nv) W) (nL:∀b,(Value.slice a (N nv) c).ownBlock=O b->b≠wb/\¬dD.own vi vm es b/\¬dD.own vp vn ps b) :
  Calls V 17 #[Y (O (aD wb 1)),Z a (N nv) c] W λe W'=>e=Qu (Qv #[])/\KpP 31 26 39 3 wb lo va (n+2*N nv+1) (N es+4*(2*N nv)) (N ps+4) (λb=>dD.own vi vm es b∨dD.own vp vn ps b∨(Value.slice a (N nv) c).ownBlock=O b∨∃x∈eZ nv,x.val.ownBlock=O b) W W':=by
 have aN:=ado nv;obtain⟨P1,D⟩:=eY (KpL 31 26 39 3 wb lo va n (N es) vp vn ps (ps.map qh.m) (dD.own vi vm es) (eZ nv) W:Nat->U->Prop);have ag:∀x∈eZ nv,∀b,(Value.slice a (N nv) c).ownBlock=O b->x.val.ownBlock≠O b:=λx hx b r=>dD.types hv (ho.own x hx).1 (tL:=0) Qc r;have av:Qm (P1 0 W):=by rw[D];exact⟨⟨vi,vm,es,hB,rfl,λb r=>.inl r⟩,Xj _ _⟩
 have ah:Qm (∀j d,P1 j d->j<2*N nv->Calls V 37 #[Y (O (aD wb 1)),(E (eZ nv) j ⟨Qr,0,[]⟩).val] d λe S=>e=Qu (Qv #[])/\P1 (j+1) S):=λj d h hj=>by rw[D]at h ⊢;exact KpL.step h ho X Aw X X
 have ai:Qm (∀j d,P1 j d->∀i,i<N nv->∃g,a=O (aD g 0)/\Qo d (aD g (i*7+4))=O (E (eZ nv) (2*i) ⟨Qr,0,[]⟩).val/\Qo d (aD g (i*7+6))=O (E (eZ nv) (2*i+1) ⟨Qr,0,[]⟩).val):=λj d h i hi=>by
  rw[D]at h;have ax:=Xw hv h.fu λb r=>⟨(nL b r).1,(nL b r).2.1,λx hx=>ag x (XT hx) b r⟩;obtain⟨g,hg⟩:∃g,a=O (aD g 0):=by
   rcases hv.2 with⟨e,h0⟩|⟨g,cap,iw,e,_⟩
   .omega
   grind
  subst hg;obtain⟨q1,q2⟩:=Nl hi;refine⟨g,rfl,zL ax (b:=g) rfl ?_,zL ax (b:=g) rfl ?_⟩
  .rw[XO ay.eT 7 (λ_=>rfl) nz nv i 4 hi X,q1];rfl
  .rw[XO ay.eT 7 (λ_=>rfl) nz nv i 6 hi X,q2];rfl
 obtain⟨m,hm⟩:∃m:Int,m=77777+(((n+2*N nv:Nat):Int)+1):=⟨_,rfl⟩;obtain⟨P2,af⟩:∃P:Nat->U->Prop,P=λi d=>∃X0 z A p,Oz 31 26 39 3 wb lo va (n+2*N nv+1) z A vp vn p (p.map qh.m) ps (ps.map qh.m) X0/\N p=N es+4*(2*N nv)/\(∀b,dD.own z A p b->dD.own vi vm es b∨(∃x∈eZ nv,x.val.ownBlock=O b)∨M (H W)<=b)/\aB (λb=>b≠wb/\¬dD.own vi vm es b/\∀x∈eZ nv,x.val.ownBlock≠O b) W X0/\Wrt 43 (N nv) m (Z a (N nv) c) X0 i d:=⟨_,rfl⟩;obtain⟨P3,G⟩:∃P:Nat->Ql->U->Prop,P=λk v d=>∃z A p,N p=N es+4*(2*N nv)/\(∀b,dD.own z A p b->dD.own vi vm es b∨(∃x∈eZ nv,x.val.ownBlock=O b)∨M (H W)<=b)/\KN 31 26 39 43 3 wb lo va (n+2*N nv+1) z A p (p.map qh.m) m (λb=>dD.own vi vm es b∨dD.own vp vn ps b∨(Value.slice a (N nv) c).ownBlock=O b∨∃x∈eZ nv,x.val.ownBlock=O b) W (N ps+k) (N nv+k) v d:=⟨_,rfl⟩;have HM:Qm (∀d,P1 (2*N nv) d->Qo d (aD wb 1)=O (I J ((n+2*N nv:Nat):Int))/\d.frozen? (aD wb 1)=F/\∀S,Qn d (aD wb 1) (I J (((n+2*N nv:Nat):Int)+1))=S->Qo S (aD wb 1)=O (I J (((n+2*N nv:Nat):Int)+1))/\P2 0 S):=λd h=>by
  rw[D]at h;obtain⟨z,A,p,t,K,L⟩:=h.ex;refine⟨t.cell.at 1,t.cell.frozen 1,λS hX=>?_⟩;have k1:aB (λb=>b≠wb) d S:=by rw[<-hX];exact Xu _ (aD wb 1) _ (λh=>h rfl)
  have g1:=t.cell.set 1 (I J (((n+2*N nv:Nat):Int)+1));rw[hX]at g1;have tk:(eZ nv).take (2*N nv)=eZ nv:=Qb;rw[tk]at L;have C:=h.fu;rw[tk]at C;refine⟨g1.at 1,?_⟩;rw[af];exact⟨S,z,A,p,⟨g1,t.vT.bT k1 λb r e=>t.nwb.1 (e ▸ r),t.Aj.bT k1 λb r e=>t.nwb.2 (e ▸ r),t.lo,t.apart,t.wb1,t.wb2⟩,K,L,C.trans (k1.mono λb _ h=>h.1),Xj _ _,nv.flatMap ay.eT,Xw (Xw hv C λb r=>⟨(nL b r).1,(nL b r).2.1,λx hx=>ag x hx b r⟩) k1 λb r=>(nL b r).1⟩
 have az:Qm (∀i d,P2 i d->i<N nv->∃g,a=O (aD g 0)/\(∀j,j<7->(∃u,Qo d (aD g (i*7+j))=O u)/\d.frozen? (aD g (i*7+j))=F)/\P2 (i+1) (lS g (i*7) (aas m) d)):=λi d h hi=>by
  rw[af]at h ⊢;obtain⟨X0,z,A,p,t,K,L,h4,h5⟩:=h;obtain⟨g,hg,R,hw⟩:=h5.step hi;refine⟨g,?_,R,X0,z,A,p,t,K,L,h4,hw⟩;rcases hv.2 with⟨e,h0⟩|⟨g',cap,iw,e,_⟩
  .omega
  .injection e with e1;rw[e1]at hg
   cases hg;exact e1
 have aC:Qm (∀d,P2 (N nv) d->P3 0 (Z a (N nv) c) d):=λd h=>by
  rw[af]at h;rw[G];obtain⟨X0,z,A,p,t,K,L,h4,C,rest,hr⟩:=h;have aO:rest=[]:=by have:=hr.1;rw[Zt,Gy]at this;grind
  subst aO;rw[Zy]at hr;have bu:∀b,(Value.slice a (N nv) c).ownBlock=O b->b<M (H W):=λb r=>(Xy hv r).2;have aP:∀b,(Value.slice a (N nv) c).ownBlock=O b->¬dD.own z A p b:=λb r bA=>by grind
  have hX:=t.bT C λb r e=>by grind
  refine⟨z,A,p,K,L,hX.kn ⟨hr,λb r=>⟨λe=>(nL b r).2.2 (.inl e),λe=>(nL b r).2.2 (.inr (.inl e))⟩,λx hx b e e'=>absurd (.inr (.inr ⟨x,hx,e⟩)) (nL b e').2.2⟩ (λb r=>⟨(nL b r).1,aP b r⟩) (λb r=>.inl (r.elim (λq=>.inr (.inl q)) λq=>.inr (.inr (.inl q)))) ((h4.mono λb _ q=>⟨q.1,λe=>q.2 (.inl e),λx hx e=>q.2 (.inr (.inr (.inr ⟨x,hx,e⟩)))⟩).trans (C.mono λb _ q e=>q.2 (.inr (.inr (.inl e)))))⟩
 have aF:=Zh λ(k:Nat) (v:Ql) (d:U) (h:P3 k v d) (C:k<=4)=>show ∃a l c vi z B vm A X3 v' X5,v=Z a l c/\Qo d (aD wb 4)=O vi/\(∃a l c,vi=Z a l c)/\
   (Builtin.append_ #[27,27] 27 #[vi,Z (O (aD (M (H d)) 0)) 1 1]).run V (d.alloc (Qs #[v] 39))=.ok z B/\(∃a l c,z = Z a l c)/\B.frozen? (aD wb 4)=F/\(∃u,Qo B (aD wb 4)=O u)/\
   Qo (Qn B (aD wb 4) z) (aD wb 5)=O vm/\(∃a l c,vm=Z a l c)/\
   (Builtin.append_ #[26,26] 26 #[vm,Z (O ⟨M (H (Qn B (aD wb 4) z)),0,Qr⟩) 1 1]).run V ((Qn B (aD wb 4) z).alloc (Qs #[I J m] 3))=.ok A X3/\(∃a l c,A = Z a l c)/\X3.frozen? (aD wb 5)=F/\(∃u,Qo X3 (aD wb 5)=O u)/\
   (Builtin.append_ #[39,39] 39 #[v,Z (O ⟨M (H (Qn X3 (aD wb 5) A)),0,Qr⟩) 1 1]).run V ((Qn X3 (aD wb 5) A).alloc (Qs #[I J m,I J 0,I J 0,I J 0,Z Qr 0 0,I J 0,Z Qr 0 0] 43))=.ok v' X5/\P3 (k+1) v' X5 by rw[G]at h;obtain⟨z,A,p,t,K,L⟩:=h;obtain⟨x1,x2,x3,x4,x5,x6,x7,x8,x9,aR,aS,y⟩:=KpG.step (oi:=4) (om:=5) L amR OB amS (λ_=>rfl) (λ_ u hu=>by simp only[aas,ZB,JP,or_false]at hu;rcases hu with rfl|rfl|rfl|rfl|rfl|rfl|rfl <;> rfl) (λ_ _ _=>rfl) (λ_ _ _=>rfl) (λ_ _=>rfl) (λ_ _=>rfl) Qc (λh C hs=>TH h C hs) (λh b r=>afV h b r) hB.lo Aw X X 27 26 39;obtain⟨y1,y2,y3,y4,y5,y6,y7,y8,y9,aU,aV,aW,aX,aY,aZ⟩:=y;refine⟨x1,x2,x3,x4,x5,x6,x7,x8,x9,aR,aS,y1,y2,y3,y4,y5,y6,y7,y8,y9,aU,aV,aW,aX,aY,?_⟩;rw[G];exact⟨z,A,p,t,K,aZ⟩
 have aG:Qm (∀v d,P3 4 v d->KpP 31 26 39 3 wb lo va (n+2*N nv+1) (N es+4*(2*N nv)) (N ps+4) (λb=>dD.own vi vm es b∨dD.own vp vn ps b∨(Value.slice a (N nv) c).ownBlock=O b∨∃x∈eZ nv,x.val.ownBlock=O b) W d):=λv d h=>by rw[G]at h;obtain⟨z,A,p,t,K,L⟩:=h;obtain⟨bf,Yy,bg,q1,q2,q3⟩:=L.bk hB.lo;refine⟨z,A,bf,Yy,p,bg,q1,t,q2,L.fu,λb r=>r.elim (λq=>?_) (q3 b)⟩;grind
 have aH:(77777:Int)+(((n+2*N nv:Nat):Int)+1)=m:=hm.symm;have aQ:wrap64 (77777+(((n+2*N nv:Nat):Int)+1))=m:=by rw[aH];unfold wrap64;omega
 obtain⟨Nq,hN⟩:=eX (n+2*N nv:Nat);have bz:Nq<=95000000:=X;rw[hN]at aH aQ HM;clear hB hv ho nL ag D af G hm aN hN Aw;generalize (λb=>dD.own vi vm es b∨dD.own vp vn ps b∨(Value.slice a (N nv) c).ownBlock=O b∨∃x∈eZ nv,x.val.ownBlock=O b)=BB at*;generalize eZ nv=LS at*;go_enter func17,ntmps17;go_wp2;go_loopw [4] (λiv d=>∃i:Nat,i<=N nv/\iv=I J i/\Qm (P1 (2*i) d)) (λiv _=>N nv-(intOf iv).toNat)
 case atStart=>exact⟨0,ZR _,rfl,av.o⟩
 case round=>
  obtain⟨i,hi,rfl,HX⟩:=hrel;by_cases aT:i<N nv
  .obtain⟨g,rfl,y4,-⟩:=ai.o (2*i) wr HX.o i aT;have aa:=ah.o (2*i) wr HX.o X;obtain⟨⟨fa,fc,fx⟩,hf⟩:∃f,E LS (2*i) ⟨Qr,0,[]⟩=f:=⟨_,rfl⟩
   rw[hf]at y4 aa;simp only[aA.val]at y4 aa;clear hf;go_wp2_with fail;refine mR aa λB t=>?_;clear aa y4;obtain⟨g',Q,-,z6⟩:=ai.o (2*i+1) B t i aT;injection Q with Q;injection Q with Q;subst Q;have ae:=ah.o (2*i+1) B t X;obtain⟨⟨sa,sc,sx⟩,hf⟩:∃f,E LS (2*i+1) ⟨Qr,0,[]⟩=f:=⟨_,rfl⟩;rw[hf]at z6 ae;simp only[aA.val]at z6 ae;clear hf t;go_wp2_with fail;refine mR ae λX2 K=>?_;clear ae z6;have H2:=Zh K;clear K;refine gQ ?_;exact⟨i+1,X,Qe,X⟩
  .obtain rfl:i=N nv:=X
   obtain⟨m1,mf,hX⟩:=HM.o wr HX.o;obtain⟨S,aj⟩:=eX (Qn wr (aD wb 1) (I J ((Nq:Int)+1)));obtain⟨m2,aJ⟩:=hX S aj;obtain⟨aK,aL⟩:=bH aJ aj;clear hX aJ ah ai av HX aj;go_upto_region 6 with fail;rw[aL.o];clear aL m1 mf;go_wp2;clear m2;go_loopw [6] (λiv d=>∃i:Nat,i<=N nv/\iv=I J i/\Qm (P2 i d)) (λiv _=>N nv-(intOf iv).toNat)
   case atStart=>exact⟨0,ZR _,rfl,aK.o⟩
   case round=>
    clear aK;obtain⟨i,hi,rfl,HX⟩:=hrel;by_cases aT:i<N nv
    .obtain⟨g,rfl,R,U2⟩:=az.o i wr HX.o aT;obtain⟨⟨u0,e0⟩,f0⟩:=R 0 X;obtain⟨⟨u1,e1⟩,f1⟩:=R 1 X;obtain⟨⟨u2,e2⟩,f2⟩:=R 2 X;obtain⟨⟨u3,e3⟩,f3⟩:=R 3 X;obtain⟨⟨u4,e4⟩,f4⟩:=R 4 X;obtain⟨⟨u5,e5⟩,f5⟩:=R 5 X;obtain⟨⟨u6,e6⟩,f6⟩:=R 6 X;rw[Xg]at e0 f0;have HN:=Zh U2;clear R U2 HX;refine gQ ?_;exact⟨i+1,X,Qe,HN.o⟩
    .obtain rfl:i=N nv:=X
     have aI:=Zh (aC.o wr HX.o);clear HX az aC;go_wp2;go_loopw [1,7] (λv' kv d=>∃k:Nat,k<=4/\kv=I J k/\Qm (P3 k v' d)) (λ_ kv _=>4-(intOf kv).toNat)
     case atStart=>exact⟨0,X,rfl,aI.o⟩
     case round=>
      clear aI;obtain⟨k,C,rfl,HP⟩:=hrel;by_cases bB:k<4
      .obtain⟨a',l',c',_,_,B,_,_,X3,v2,X5,rfl,y1,⟨p1,p2,p3,rfl⟩,lN,⟨q1,q2,q3,rfl⟩,f1,⟨u1,e1⟩,y2,⟨r1,r2,r3,rfl⟩,ak,⟨t1,t2,t3,rfl⟩,f2,⟨u2,e2⟩,au,aM⟩:=aF.o k _ wr HP.o C;have HN:=Zh aM;clear aM HP aF aG HM;obtain⟨X2,bn⟩:=eX (Qn B (aD wb 4) (Z q1 q2 q3))
       rw[bn]at y2 ak;obtain⟨X4,bq⟩:=eX (Qn X3 (aD wb 5) (Z t1 t2 t3));rw[bq]at au;go_wp2_with (first|(at_builtin;first|refine XJ rfl (.tmp 60) (.tmp 62) 27 rfl (Z p1 p2 p3) (Z (O (aD (M (H wr)) 0)) 1 1) (Z q1 q2 q3) B rfl rfl lN ?_|refine XJ rfl (.tmp 70) (.tmp 72) 26 rfl (Z r1 r2 r3) (Z (O (aD (M (H X2)) 0)) 1 1) (Z t1 t2 t3) X3 rfl rfl ak ?_|refine XJ rfl (.tmp 76) (.tmp 79) 39 rfl (Z a' l' c') (Z (O (aD (M (H X4)) 0)) 1 1) v2 X5 rfl rfl au ?_));clear lN ak au;refine gQ ?_;exact⟨k+1,X,Qe,HN.o⟩
      .obtain rfl:k=4:=X
       have HE:=Zh (aG.o _ wr HP.o);go_wp2;go_end0;exact⟨rfl,HE.o⟩
theorem amU{xs:JK Ql}(h:W.ownsRow base t sz v n xs):∃a c,v=Z a n c/\(0<n->∃g,a=O (aD g 0)/\v.ownBlock=O g):=by
 rcases h.2 with⟨rfl,h0⟩|⟨g,cap,iw,rfl,_⟩
 .simp_all
 grind [Value.ownBlock]
def dD.ah6{tL:TypeId}{vM:Int->JK Ql}(h:dD tL tI sz vM lo vi vm es (es.map qh.m) W):∃a n b p,vi=Z a (N es) n/\vm=Z b (N es) p/\∀k,k<N es->∃d e x l c m,a=O (aD d 0)/\b=O (aD e 0)/\Qo W (aD d k)=O (Z x l c)/\Qo W (aD e k)=O (I J m)/\l<=100000/\∀i,i<l->∃g,x=O (aD g 0)/\∀j v,(vM m)[j]? = O v->Qo W (aD g (i*sz+j))=O v:=by obtain⟨a,n,r,t⟩:=amU h.EM;have f:=h.wP;rw[ZX]at f;obtain⟨b,p,u,y⟩:=amU f;refine⟨a,n,b,p,r,u,λk q=>?_⟩;obtain⟨d,z,A⟩:=t X;obtain⟨e,B,C⟩:=y X;obtain⟨D,a2⟩:=h.oO es[k] (Q6 q);refine⟨d,e,es[k].g.map λg=>(aD g 0),es[k].len,es[k].cap,es[k].m,z,B,zL h.EM A (by simp[q];rfl),zL f C (by simp[q]),D,λi G=>?_⟩;simp_all
def aeL(hB:Oz 31 26 39 3 bk lo va n vi vm vp vn es (es.map qh.m) ps (ps.map qh.m) W)(he:N es<=90000000)(hp:N ps<=90000000) :
  Calls V 6 #[Y (O (aD bk 1))] W λe W'=>e=Qu (.bool T)/\Bw W W':=by
 obtain⟨ai,ci,am,cm,rfl,rfl,HI⟩:=hB.vT.ah6;obtain⟨ap,cp,an,cn,rfl,rfl,HP⟩:=hB.Aj.ah6;have g2:=hB.cell.at 2;have g3:=hB.cell.at 3;have g4:=hB.cell.at 4;have g5:=hB.cell.at 5;obtain⟨HI,HP⟩:=bH HI HP;clear hB;generalize N es=Eq,N ps=PL at*;go_enter func6,ntmps6;go_wp2;go_loopw [3] (λC D=>∃k:Nat,k<=Eq/\C=I J k/\Bw W D) (λC _=>Eq-(intOf C).toNat)
 case atStart=>exact⟨0,ZR _,rfl,Za _ _⟩
 case round=>
  obtain⟨k,hk,rfl,a⟩:=hrel;have m2:=cB a g2;by_cases K:k<Eq
  .obtain⟨gi,gm,x,l,c,m,rfl,rfl,v,y,hl,d⟩:=HI.o k K;have PQ:=Zh d;clear d;have P:=a;go_wp2;clear m2 a;go_loopw [4] (λG D=>∃i:Nat,i<=l/\G=I J i/\Bw W D) (λG _=>l-(intOf G).toNat)
   case atStart=>exact⟨0,ZR _,rfl,P⟩
   case round=>
    clear P;obtain⟨i,hi,rfl,a⟩:=hrel;obtain⟨m2,m3,R,af⟩:=awR a g2 g3 v y;by_cases L:i<l
    .obtain⟨g,rfl,p⟩:=PQ.o i L;have aa:=cB a (p 0 _ rfl);rw[Nat.mul_one,Xg]at aa;clear p;go_wp2;go_region;refine gQ ?_;exact⟨i+1,X,Qe,a.drew⟩
    .go_wp2;go_roundw
     case rel=>exact⟨k+1,X,Qe,a⟩
     case measure=>exact XK
  .have Q:=cB a g4;go_wp2;go_loopw [5] (λC D=>∃k:Nat,k<=PL/\C=I J k/\Bw W D) (λC _=>PL-(intOf C).toNat)
   case atStart=>exact⟨0,ZR _,rfl,a⟩
   case round=>
    clear m2 Q a;obtain⟨k,hk,rfl,a⟩:=hrel;have Q:=cB a g4;by_cases K:k<PL
    .obtain⟨gi,gm,x,l,c,m,rfl,rfl,v,y,hl,d⟩:=HP.o k K;have PQ:=Zh d;clear d;have P:=a;go_wp2;clear Q a;go_loopw [6] (λG D=>∃i:Nat,i<=l/\G=I J i/\Bw W D) (λG _=>l-(intOf G).toNat)
     case atStart=>exact⟨0,ZR _,rfl,P⟩
     case round=>
      clear P;obtain⟨i,hi,rfl,a⟩:=hrel;obtain⟨Q,R⟩:=kP a g4 v;by_cases L:i<l
      .obtain⟨g,rfl,p⟩:=PQ.o i L;obtain⟨e0,e1,e2,e3,e4⟩:=qi a (p 0 _ rfl) (p 1 _ rfl) (p 2 _ rfl) (p 3 _ rfl) (p 4 _ rfl);obtain⟨e5,e6⟩:=kP a (p 5 _ rfl) (p 6 _ rfl);rw[Xg]at e0;obtain⟨Y0,ae,A,r⟩:=bI wr #[I J 0,I J 0,I J 0,I J 0,Z Qr 0 0,I J 0,Z Qr 0 0] 43;have q:=yM (vs:=aas m) (o:=0) r;have u:=lI (B:=M (H wr)) (aas m) 0 Y0;obtain⟨Yq,S⟩:=eX (lS (M (H wr)) 0 (aas m) Y0)
       rw[S]at q u;simp only[aas,I6,Zp,QX,QY]at q;have O9:=(aO a A).trans (u.aj (aO a A).size λb hb=>by show b≠M (H wr);have:=a.size;omega);simp only[aas,lS]at S;have HY:=Zh S;have z:=λj=>r.frozen j;have hz:=r.k7;obtain⟨d0,d1,d2,d3,d4,d5,d6⟩:=q.k7;obtain⟨y5,t⟩:=kP O9 g5 y;have HD:=Zh (JM d0 (JM d1 (JM d2 (JM d3 (JM d4 (JM d5 (JM d6 (JM y5 t))))))));clear p A r a q u S d0 d1 d2 d3 d4 d5 d6 y5 t;go_upto_region 16 with fail;rw[HY.o];obtain⟨d0,d1,d2,d3,d4,d5,d6,y5,t⟩:=HD.o;clear e0 e1 e2 e3 e4 e5 e6 Q R ae z hz HY HD;refine wH Yq λf=>?_;refine GZ 0 f ?_;refine rR 10 f ?_;refine wB3 11 f ?_;refine Co 14 f ?_;refine wB3 16 f ?_;refine Co 19 f ?_;refine wB3 21 f ?_;refine Co 24 f ?_;refine wB3 26 f ?_;refine Co 29 f ?_;refine wB4 31 f ?_;refine Co 35 f ?_;refine wB4 37 f ?_;refine rR 41 f ?_;refine wD ?_;have HB:=Zh (aO O9 f);clear f O9 d0 d1 d2 d3 d4 d5 d6 y5 t;generalize Yq.drew=Y2 at*;refine gQ ?_;exact⟨i+1,X,Qe,HB.o⟩
      .go_wp2;go_roundw
       case rel=>exact⟨k+1,X,Qe,a⟩
       case measure=>exact XK
    .go_wp2;go_ret;exact⟨rfl,a⟩
section
open Go.Conc
def gW.azK{Xq M':Pm}(h:gW W0 f ts q Xq Mq w sb L σ)(h1:∀b,Mq b->M' b)(h2:∀b,M' b->Xq b):gW W0 f ts q Xq M' w sb L σ:=
 ⟨h.hz,h2,h1 _ h.msb,h.blk,h.gsx,h.gsl,h.Bt,λk a=>⟨(h.nN k a).1,h1 _ (h.nN k a).2.1,(h.nN k a).2.2⟩,h.apart,h.ag,λb e=>h1 b (h.agm b e),h.bP,h.pk,λb e=>h1 b (h.pkm b e)⟩
def aiH(Eq:vS f ts q W0){Xq:Pm}(h:gW W0 f ts q Xq Mq w sb L σ)(nC:GQ q σ)(AY:N σ.picks<=8000)(pick:Int) :
  Calls V 66 #[Y (O (aD sb 0)),I J pick] w λe r=>∃τ,τ=(if σ.status=1 then gz gK ts q (bE ts q) pick σ else σ)/\e=Qu (I J τ.status)/\dW W0 f ts q Xq Mq w sb τ r:=by
 obtain⟨v0,t,v2,v3,v4,v5,u,v,y,v9,z,A,B,m,-⟩:=Jh f ts q;have d:=h.cells m;have g:=d.at 18;by_cases b:σ.status=1
 .rw[Zd b];have i:=ahR Eq h nC b AY pick;rw[b]at g;have j:=Zh m;generalize gz gK ts q (bE ts q) pick σ=SN at*;go_enter func66,ntmps66;go_wp2_with fail;refine i.mono ?_;rintro e p ⟨⟨C,rfl⟩,a⟩;have k:=Zh a;obtain⟨D,G,K,l,-⟩:=a;have n:Qo p (aD sb 18)=O (I J SN.status):=(l.cells j.o).cell 18;go_wp2;go_ret;exact⟨SN,rfl,rfl,k.o⟩
 .rw[Zk b];have k:Qm (dW W0 f ts q Xq Mq w sb σ w):=⟨_,h.post (Xj _ _)⟩
  go_enter func66,ntmps66;go_wp2;go_ret;exact⟨σ,rfl,rfl,k.o⟩
def Tryz.amy:(V.info? 224).map (·.bytes)=O 0:=Qd
def mkc(w:U):(Instr.makeChan 180 (.int J 0)).run V w=.ok (.chan (O (M (H w)))) (w.alloc (.chan 0 #[] F 0 0 F)):=by obtain⟨i,a,b⟩:=Option.map_eq_some_iff.1 Tryz.amy;simpa using run_makeChan (P:=V) (w:=w) underlying180 a J 0 X (by rw[b];omega)
theorem aqk(Eq:vS f ts q W0){Xq:Pm}(h:gW W0 f ts q Xq Mq w sb L σ)(nC:GQ q σ)(A:Int)(hA:A<=9223372036854775807)(kE:Int)(x:aA)(AY:∀d,(iV gK ts q (bE ts q) x.xs d 0 σ).status=1->d<A.toNat->N σ.picks+d<=8000)(hx:x.At w)(hxm:vP (λb=>¬Mq b) x.ad (N x.xs)) :
  Calls V 68 #[Y (O (aD sb 0)),I J A,I J kE,x.val] w λe w'=>∃τ,τ=Ve gK ts q (bE ts q) x.xs A.toNat kE σ/\e=Qu (I J τ.status)/\dW W0 f ts q Xq Mq w sb τ w':=by
 obtain⟨n,aS⟩:=eY (A.toNat);rw[<-aS]at AY ⊢;have aH:Qm (n=A.toNat/\A<=9223372036854775807):=⟨aS,hA⟩;obtain⟨v0,v1,v2,v3,v4,v5,v6,v7,v8,v9,fO,fP,fQ,iq,-⟩:=Jh f ts q;obtain⟨i,p⟩:=eY (λd=>iV gK ts q (bE ts q) x.xs d 0 σ:Nat->fE);have Ae:Qm (∀d,GQ q (i d)/\(i d).picks.length<=N σ.picks+d):=λd=>by rw[p];exact wK (XN ts q) Eq.jM x.xs nC d
 have UA:Qm (∀d,(i d).status=1->d<n->N σ.picks+d<=8000):=by rw[p];exact AY
 have aY:Qm (∀d,(i d).status=1->i (d+1)=gz gK ts q (bE ts q) (jU x.xs d) (i d)):=λd j=>by rw[p]at j ⊢;show iV gK ts q (bE ts q) x.xs (d+1) 0 σ=_;rw[JI,Zd j,ZT]
 have aZ:=Zh (by  rw[p];rfl:i 0=σ)
 have bf:Qm (∀d,(i d).status≠1->d<=n->(kE<0∨(d:Int)<=kE)->Ve gK ts q (bE ts q) x.xs n kE σ=i d):=λd j hd ht=>by rw[p]at j ⊢;exact alR j hd ht
 have bG:Qm ((kE<0∨(n:Int)<=kE)->Ve gK ts q (bE ts q) x.xs n kE σ=i n):=λht=>by rw[p];exact afz ht
 have bg:Qm (∀d:Nat,kE=(d:Int)->d<n->(i d).status=1->Ve gK ts q (bE ts q) x.xs n kE σ = { i d with status:=4 }):=λd e hd j=>by rw[e];rw[p]at j ⊢;exact aak hd j
 generalize Ve gK ts q (bE ts q) x.xs n kE σ=RT at*;obtain⟨B,dB⟩:=eX (w.alloc (.chan 0 #[] F 0 0 F));have aa:=mkc w;rw[dB]at aa;have bL:Bw w B:=by rw[<-dB];exact(Za _ _).alloc (Zb _) _
 obtain⟨c,ax⟩:=eY (M (H w));have ag:B.heap[c]? = O (.chan 0 #[] F 0 0 F):=by rw[<-dB,ax];exact qj _ _
 have ah:=(Xx.1 ag).1;have aI:¬Mq c:=λhm=>Qj ((h.lt (h.sub _ hm)).2);have aJ:=h.Af (Nq:=λ_=>False) (N':=λb=>b=c) (λ_ h=>h.elim) (λ_ _ h=>h) (Xl bL) (λb e=>.inr X) (λb=>Iff.rfl) (λb e=>by rw[e];exact ah) (λb e=>Qj h.hz.aj.size);have bn:Qm (dW W0 f ts q (λb=>Xq b∨b=c) Mq B sb (i 0) B):=by rw[aZ.o];exact⟨L,aJ.post (Xj _ _)⟩
 have bq:=Zh ag;have V9:Qm (c<M (H B)/\¬Mq c/\M (H w)<=c):=⟨ah,aI,X⟩;have bu:Qm (M (H W0)<=c):=by have:=h.hz.aj.size;show _<=_;omega
 have bH:=Zh bL;have bz:Qm (∀(y:U) (t r:Pm) (K:yB) (d:Nat),gW W0 f ts q t r y sb K (i d)->(i d).status=1->d<n->y.heap[c]? = O (.chan 0 #[] F 0 0 F)->Calls V 104 #[Y (O (aD sb 0)),.chan (O c),I J (jU x.xs d)] y λe w'=>(∃v,e=Qu v)/\dW W0 f ts q t r y sb (i (d+1)) w'):=λy t r K d hA j hd m=>by rw[aY.o d j];exact ahS Eq hA (Ae.o d).1 j (ZU (Ae.o d).2 (UA.o d j hd)) c 0 0 F m (jU x.xs d)
 have HX:Qm (∀y,aB (λb=>¬Mq b) B y->x.At y):=λy hy=>Jm (Zc bL hx) hy hxm;have bA:Qm (∀a,0<N x.xs->x.ad=O a->a.block<M (H w)):=λa g e=>hx.2.lt g a e;have ai:Qm (∀(y:U) (d:Nat),x.At y->d<=8000->Ce 105 #[x.val,I J (d:Int)] y (I J (jU x.xs d))):=λy d hy hd=>aen x d y hy X;have gJ:Qm (∀(y:U) (τ:fE) (t r:Pm) (K:yB),gW W0 f ts q t r y sb K τ->aB (λb=>¬Mq b) w y->(∀b,Mq b->r b)->(∀b,r b->Mq b∨M (H w)<=b)->(∀b,t b↔(Xq b∨b=c)∨r b)->dW W0 f ts q Xq Mq w sb τ y/\Qo y (aD sb 18)=O (I J τ.status)):=λy τ t r K hA G g1 P Q=>by
  refine⟨⟨K,t,λb=>r b∨b=c,hA.azK (λb l=>.inl l) (λb l=>?_),G,λb l=>.inl (g1 b l),λb l=>?_,λb=>?_⟩,(hA.cells iq).cell 18⟩
  .grind
  .rcases l with l|l
   .exact P b l
   .exact .inr X
  .rw[Q];exact⟨λg=>by
    rcases g with (g|g)|g
    .exact .inl g
    .exact .inr (.inr g)
    .exact .inr (.inl g),λg=>by
    rcases g with g|g|g
    .exact .inl (.inl g)
    .exact .inr g
    .exact .inl (.inr g)⟩
 have Ut:=Zh bL.size;have Ke:Qm (∀y,aB (λb=>¬Mq b) B y->aB (λb=>¬Mq b) w y):=λy hy=>(Xl bL).trans hy;obtain⟨xa,xc,xx⟩:=x;simp only[aA.val]at*;obtain⟨xl,ay⟩:=eY (N xx);have bI:=Zh ay;rw[<-ay]at ai ⊢;clear h nC AY hx hxm iq p bL ag ah aI aJ ay Eq;rw[<-ax]at aa;clear ax;go_enter func68,ntmps68;go_wp2;clear aa dB;go_loopw [10] (λiv wr=>∃d:Nat,iv=I J (d:Int)/\d<=n/\Qm ((((kE<0∨(d:Int)<=kE)/\dW W0 f ts q (λb=>Xq b∨b=c) Mq B sb (i d) wr/\wr.heap[c]? = O (.chan 0 #[] F 0 0 F))∨(RT.status=4/\dW W0 f ts q Xq Mq w sb RT wr/\Qo wr (aD sb 18)=O (I J 4))))) (λiv _=>n-(intOf iv).toNat)
 case atStart=>exact⟨0,rfl,ZR _,.inl ⟨X,bn.o,bq.o⟩⟩
 case round=>
  obtain⟨d,rfl,bF,HI⟩:=hrel;rcases HI.o with⟨htk,hp,m⟩|⟨hs4,hp,R⟩
  .obtain⟨K,t,r,hA,G,g1,P,Q⟩:=hp;obtain⟨aU,R⟩:=gJ.o wr _ t r K hA (Ke.o wr G) g1 (λb l=>by
    rcases P b l with g|g
    .exact .inl g
    .exact .inr (ZU Ut.o g)) Q
   have ak:=Zh aU;clear aU;by_cases aT:d<n
   .have au:(d:Int)<A/\d+1<=9223372036854775807:=Qj aH.o
    obtain⟨au,bM⟩:=au;by_cases j:(i d).status=1
    .rw[j]at R;have aK:¬r c:=λhm=>by
      rcases P c hm with g|g
      .exact V9.o.2.1 g
      .have:=V9.o.1;omega
     have bB:=(Q c).2 (.inl (.inr rfl));have C:Qm (aB (λb=>¬Mq b) B wr/\(∀b,Mq b->r b)/\(∀b,r b->Mq b∨M (H B)<=b)/\(∀b,t b↔(Xq b∨b=c)∨r b)):=⟨G,g1,P,Q⟩;by_cases W:kE=(d:Int)
     .have D:=Zh (bg.o d W aT j);obtain⟨w2,az⟩:=eY ({ wr with heap:=wr.heap.setIfInBounds c (.chan 0 #[] T 0 0 F) })
      have iX:(Builtin.close_ #[180] 0 #[.chan (O c)]).run V wr=.ok (Qv #[]) w2:=by rw[az];exact run_close_open _ _ m
      have jf:aB (λb=>b≠c) wr w2:=by rw[az];exact⟨rfl,rfl,rfl,Qa,λk _ FJ=>Qb⟩
      have av:w2.heap[c]? = O (.chan 0 #[] T 0 0 F):=by grind
      have aL:=hA.Af (Nq:=λb=>b=c) (N':=λb=>b=c) (λb e=>by rw[e];exact bB) (λb hm e=>aK (e ▸ hm)) (jf.mono λb _ l=>l) (λb e=>.inl e) (λb=>⟨λg=>.inl g,λg=>by
       grind⟩) (λb e=>by rw[e];exact(Xx.1 av).1) (λb e=>by rw[e];exact bu.o)
      have aM:aP w2 xa xx:=Jm (HX.o wr G) (jf.mono λb _ l=>l) (λg a e e'=>by have h1:=bA.o a g e;have:=V9.o.2.2;omega);have u:=ai.o w2 d aM (Qj (UA.o d j aT));have aN:=ahQ aL c (jU xx d) 0 0 F av;have Bl:=Zh jf;subst W;clear hA G g1 P Q m jf av aL aM az htk j;generalize i d=RD at*;go_wp2_with fail;refine mR u λwz aG=>?_;have xu:=aG.symm;subst xu;clear u iX R;go_wp2_with fail;refine aN.mono ?_;rintro e w3 ⟨⟨rv,rfl⟩,L3,X3,M3,aV,S,aC,aW,aX⟩;have z:=gJ.o w3 RT X3 M3 L3 (by rw[D.o];exact aV) (((Ke.o wr C.o.1).dL Bl.o (λb l _ e=>Qj V9.o.2.2)).dL S (λb l hm g=>by
       rcases C.o.2.2.1 b g with h1|h1
       .exact hm h1
       .have:=Ut.o;omega)) (λb l=>aC b (C.o.2.1 b l)) (λb l=>by
       rcases aW b l with h1|h1
       .rcases C.o.2.2.1 b h1 with h2|h2
        .exact .inl h2
        .exact .inr (ZU Ut.o h2)
       .exact .inr (ZU Ut.o (ZU C.o.1.size (ZU Bl.o.size h1)))) (λb=>by
       rw[aX,C.o.2.2.2];exact⟨λg=>by
        rcases g with (g|g)|g
        .exact .inl g
        .exact .inr (aC b g)
        .exact .inr g,λg=>by
        rcases g with g|g
        .exact .inl (.inl g)
        .exact .inr g⟩)
      have aO:=Zh (by  rw[D.o]:RT.status=4)
      have HF:Qm (RT.status=4/\dW W0 f ts q Xq Mq w sb RT w3/\Qo w3 (aD sb 18)=O (I J 4)):=⟨aO.o,z.1,by rw[<-aO.o];exact z.2⟩;clear aN aV S aC aW aX z;go_wp2;go_roundw
      case rel=>exact⟨d+1,Qe,X,.inr HF.o⟩
      case measure=>exact XK
     .have u:=ai.o wr d (HX.o wr G) (Qj (UA.o d j aT));have W9:=bz.o wr t r K d hA j aT m;have aQ:=Zh m;have Lh:Qm (kE<0∨((d+1:Nat):Int)<=kE):=by show _∨_;omega
      have bJ:¬((d:Int)=kE):=λe=>W e.symm;clear hA G g1 P Q m htk j W;go_wp2_with fail;refine mR u λwz aG=>?_;have xu:=aG.symm;subst xu;clear u R;go_wp2_with fail;refine W9.mono ?_;rintro e w3 ⟨⟨rv,rfl⟩,aF⟩;have aR:w3.heap[c]? = O (.chan 0 #[] F 0 0 F):=by obtain⟨_,_,_,_,S,-⟩:=aF;rw[S.block c (Xx.1 aQ.o).1 aK];exact aQ.o
      have HF:Qm ((kE<0∨((d+1:Nat):Int)<=kE)/\dW W0 f ts q (λb=>Xq b∨b=c) Mq B sb (i (d+1)) w3/\w3.heap[c]? = O (.chan 0 #[] F 0 0 F)):=⟨Lh.o,dW.trans C.o.1 C.o.2.1 C.o.2.2.1 C.o.2.2.2 aF,aR⟩;clear W9 aF aR;go_wp2;go_roundw
      case rel=>exact⟨d+1,Qe,X,.inl HF.o⟩
      case measure=>exact XK
    .have D:=Zh (bf.o d j bF htk);have bK:=j;clear hA G g1 P Q m htk;generalize i d=RD at*;go_wp2;go_ret;exact⟨RT,rfl,by rw[D.o];rfl,by rw[D.o];exact ak.o⟩
   .have au:¬(d:Int)<A:=Qj aH.o
    have bD:n=d:=X;have D:Qm (RT=i d):=Qb;clear hA G g1 P Q m htk bD;generalize i d=RD at*;go_wp2;go_ret
    first|exact⟨RT,rfl,by rw[D.o];rfl,by rw[D.o];exact ak.o⟩|exact⟨by rw[D.o];rfl,by rw[D.o];exact ak.o⟩
  .have HF:Qm (RT.status=4/\dW W0 f ts q Xq Mq w sb RT wr):=⟨hs4,hp⟩
   clear hs4 hp;by_cases aT:(d:Int)<A
   .go_wp2;go_ret;exact⟨RT,rfl,by rw[HF.o.1];rfl,HF.o.2⟩
   .go_wp2;go_ret;exact⟨by rw[HF.o.1];rfl,HF.o.2⟩
end
def Ou(w:U)(t:bF)(e:Ending)(w':U):Prop:=∃v nv,e=Qu (Qv #[v,I .u64 (t.d.aJ:Int)])/\nv.map fA=t.ns/\oV 43 3 (M (H w)) w' v nv/\Bw w w'
def aiT(Eq:vS f ts q W0){Xq:Pm}(h:gW W0 f ts q Xq Mq w sb L σ)(nC:oK q σ.bP)(hl:N σ.bP.ns<=800) :
  Calls V 34 #[Y (O (aD sb 0))] w (Ou w σ.bP):=by
 obtain⟨v0,v1,v2,v3,v4,v5,v6,v7,v8,v9,fO,fP,fQ,D,-⟩:=Jh f ts q;have m:Qo w (aD sb 16)=O (Y (O (aD L.bP 0))):=by have:=h.blk;rw[D]at this;exact this.cell 16
 obtain⟨p,G,P⟩:=h.bP.rC;have z:p.aJ=σ.bP.d.aJ:=congrArg dG.aJ P;have c5:Qo w (aD L.bP 5)=O (I .u64 (σ.bP.d.aJ:Int)):=by rw[<-z];exact G.c5
 have k:dS w 0:=λj u W=>h.hz.aj.cell _ _ _ (Eq.shapes j u W);have A:Qm (∀x,x=w.drew->Calls V 71 #[Y (O (aD L.bP 0))] x (mM 43 3 (M (H w)) x σ.bP.ns)):=λx hx=>by rw[hx];exact aiS (h.bP.aj ((Za _ _).drew)) (dS.aj ((Za _ _).drew) k) nC X
 have C:=A.o w.drew rfl;generalize L.bP=bp,σ.bP=B at*;clear h nC hl D G P z k A Eq p;obtain⟨n,r⟩:=B;simp only at*;obtain⟨aJ,g⟩:=eY (n.aJ);have Q:Qm (∀v nv l,nv.map fA=r->oV 43 3 (M (H w)) l v nv->Bw w l->Ou w ⟨n,r⟩ (Qu (Qv #[v,I .u64 (aJ:Int)])) l):=λv nv l h1 h2 h3=>⟨v,nv,by rw[g],h1,h2,h3⟩;rw[<-g]at c5;clear g;generalize Ou w ⟨n,r⟩=BP at*;go_enter func34,ntmps34;go_wp2_with fail;refine wH w λa=>?_;refine IU 0 a ?_;refine wA8 5 a ?_;refine wR 4 λK b=>?_;go_simp;refine Jg C ?_;rintro e S ⟨v,nv,rfl,t,i,y⟩;obtain⟨na,nm,nc,rfl⟩:=Xz i.own;refine b.o _ _ ((Za (M (H w)) w).drew.trans y) (λa=>?_);clear b K;refine wR 13 λK b=>?_;go_simp;refine b.o _ _ a λa=>?_;clear b K;refine wR 14 λK b=>?_;go_simp;refine b.o _ _ a λa=>?_;clear b K;refine wD ?_;try simp only[pV]
 try simp only[pV]
 have R:=Zh (Q.o _ nv S t i a);clear a i C m c5;go_wp2;exact R.o
def aeB(pb sb:Nat)(w:U)(hc:Qo w (aD pb 9)=O (Y (O (aD sb 0))))(hC:Calls V 34 #[Y (O (aD sb 0))] w R)(hR:∀e w',R e w'->∃d v2,e=Qu (Qv #[d,v2])) :
  Calls V 15 #[Y (O (aD pb 0))] w R:=by have f:=Zh hR;clear hR;go_enter func15,ntmps15;go_wp2_with fail;refine hC.mono ?_;intro e g b;obtain⟨d,v2,rfl⟩:=f.o e g b;have a:=Zh b;clear b hc hC;go_wp2;exact a.o
def aiV(pb sb:Nat)(n k:Int)(ad:LM)(m cp:Nat)(w:U)(hc:Qo w (aD pb 9)=O (Y (O (aD sb 0))))(hC:Calls V 68 #[Y (O (aD sb 0)),I J n,I J k,Z ad m cp] w R)(hR:∀e w',R e w'->∃v,e=Qu (v)) :
  Calls V 32 #[Y (O (aD pb 0)),I J n,I J k,Z ad m cp] w R:=by have d:=Zh hR;clear hR;go_enter func32,ntmps32;go_wp2_with fail;refine hC.mono ?_;intro e f b;obtain⟨v,rfl⟩:=d.o e f b;have a:=Zh b;clear b hc hC;go_wp2;exact a.o
def abh(pb sb:Nat)(w:U)(hc:Qo w (aD pb 9)=O (Y (O (aD sb 0))))(hC:Calls V 43 #[Y (O (aD sb 0))] w R)(hR:∀e w',R e w'->∃v,e=Qu (v)) :
  Calls V 20 #[Y (O (aD pb 0))] w R:=by have d:=Zh hR;clear hR;go_enter func20,ntmps20;go_wp2_with fail;refine hC.mono ?_;intro e f b;obtain⟨v,rfl⟩:=d.o e f b;have a:=Zh b;clear b hc hC;go_wp2;exact a.o
def aeC(pb sb:Nat)(n:Int)(w:U)(hc:Qo w (aD pb 9)=O (Y (O (aD sb 0))))(hC:Calls V 66 #[Y (O (aD sb 0)),I J n] w R)(hR:∀e w',R e w'->∃v,e=Qu (v)) :
  Calls V 30 #[Y (O (aD pb 0)),I J n] w R:=by have d:=Zh hR;clear hR;go_enter func30,ntmps30;go_wp2_with fail;refine hC.mono ?_;intro e f b;obtain⟨v,rfl⟩:=d.o e f b;have a:=Zh b;clear b hc hC;go_wp2;exact a.o
theorem Ov(h:w.ownsRow base Tn 7 v (N nv) (nv.flatMap ay.eT))(CW:∀x∈eZ nv,x.At w)(hl:N nv<=1000):∃b cap,v=Z b (N nv) cap/\fH w b nv:=by
 obtain⟨b,cap,rfl⟩:=Om h;refine⟨b,cap,rfl,X,λi j=>?_⟩;obtain⟨g,l,e,m,n,a⟩:=YJ h j;injection e with e1 e2 e3;subst e1;have f:E nv i nz∈nv:=by grind
 have d:=λx k=>CW x (ZA.2 ⟨_,f,k⟩);exact⟨g,0,rfl,by rw[ZT];exact a 0 _ X rfl,by rw[ZT];exact a 1 _ X rfl,by rw[ZT];exact a 2 _ X rfl,by rw[ZT];exact a 3 _ X rfl,by rw[ZT];exact a 4 _ X rfl,by rw[ZT];exact a 5 _ X rfl,by rw[ZT];exact a 6 _ X rfl,d _ Qa,d _ Qa⟩
def Ow{x:aA}(h:W.ownsRow b t 1 x.val (N x.xs) (x.xs.map (Value.int J)))(hl:N x.xs<=1000000):x.At W:=by obtain⟨a,c,d,e⟩:=X9 h X;unfold aA.val at d;injection d with d;rw[<-d]at e;exact e
def oV.plan(h:oV Tn Ti base w v nv)(hl:N nv<=1000):∃b cap,v=Z b (N nv) cap/\fH w b nv:=
 Ov h.own (λx a=>Ow (h.lists x a).1 (Qj ((h.lists x a).2))) hl
def aiU{a b:ay}(h:fA a=fA b):a.same b:=by obtain⟨k,l,r,s,c,y,o⟩:=a;obtain⟨n,p,q,t,u,v,o'⟩:=b;unfold fA at h;simp only[ay.mk.injEq,aA.mk.injEq,true_and]at h;obtain⟨d,e,f,g,i,j,m⟩:=h;exact⟨d,e,f,g,i,j,m⟩
theorem EK{a b:JK ay}(h:a.map fA=b.map fA):N a=N b/\∀i,i<N a->(E a i nz).same (E b i nz):=by
 have d:N a=N b:=by grind [List.length_map]
 refine⟨d,λi f=>aiU ?_⟩;have e:=congrArg (λl=>l[i]?) h;grind
section
theorem anF(k:Nat):upN (k+1)=upN k++[(k:Int)]:=by grind [upN,List.range_succ]
def af2(k:Nat):N (upN k)=k:=by simp[upN]
def ajn(w:U)(hb:base<=M (H w))(n:ay)(t:TypeId):(w.alloc (Qs n.cells t)).ownsRow base t 7 (Z (O (aD (M (H w)) 0)) 1 1) 1 ([n].flatMap ay.eT):=
 ⟨rfl,.inr ⟨M (H w),1,n.cells,rfl,hb,qj w _,Zb _,Qg,rfl,rfl⟩⟩
def sZ(L:JK ay)(w:U)(e:Ending)(w':U):Prop:=∃ao cap nv,e=Qu (Z ao (N nv) cap)/\nv.map fA=L/\fH w' ao nv/\Bw w w'
structure Pf(tN tI:TypeId)(w:U)(L:JK ay)(v:Ql)(Xq:U):Prop where
 aj:Bw w Xq
 ex:∃nv:JK ay,nv.map fA=L/\Xq.ownsRow (M (H w)) tN 7 v (N nv) (nv.flatMap ay.eT)/\∀n∈nv,n.co=⟨Qr,0,[]⟩/\(n.cl=⟨Qr,0,[]⟩∨Xq.ownsRow (M (H w)) tI 1 n.cl.val (N n.cl.xs) (n.cl.xs.map (Value.int J))/\N n.cl.xs<=1000)
variable {tN tI:TypeId} {w:U} {L:JK ay} {v:Ql} {Xq Yq:U}
theorem Pf.len(h:Pf tN tI w L v Xq):∃a c,v=Z a (N L) c:=by
 obtain⟨nv,e,b,_⟩:=h.ex;have d:N nv=N L:=Qb;rcases b.2 with⟨rfl,h0⟩|⟨g,c,iw,rfl,_⟩
 .simp_all
 simp_all
def Pf.step(h:Pf tN tI w L v Xq)(hb:Bw Xq Yq):Pf tN tI w L v Yq:=by obtain⟨nv,d,e,a⟩:=h.ex;exact⟨aO h.aj hb,nv,d,Ja e hb,λn b=>⟨(a n b).1,(a n b).2.imp id λx=>⟨Ja x.1 hb,x.2⟩⟩⟩
theorem Pf.plan(h:Pf tN tI w L v Xq)(hl:N L<=1000):∃b cap nv,v=Z b (N nv) cap/\nv.map fA=L/\fH Xq b nv:=by
 obtain⟨nv,q,g,j⟩:=h.ex;have f:N nv=N L:=Qb;have nil:∀x:aA,x=⟨Qr,0,[]⟩->x.At Xq:=λx e=>by subst e;exact⟨Qa,λi m=>absurd m Qa⟩
 obtain⟨b,cap,e,r⟩:=Ov g (λx d=>by
  obtain⟨n,k,d⟩:=ZA.1 d;obtain⟨l,a⟩:=j n k;rcases (by simpa using d:x=n.cl∨x=n.co) with rfl|rfl
  .rcases a with a|⟨a,p⟩
   .exact nil _ a
   .exact Ow a X
  .exact nil _ l) X
 grind
theorem Pf.push{L:JK ay}(h:Pf 43 3 w L v Xq)(hl:N L<=1000)(n:ay)(hc:n.co=⟨Qr,0,[]⟩)(ho:n.cl=⟨Qr,0,[]⟩∨Xq.ownsRow (M (H w)) 3 1 n.cl.val (N n.cl.xs) (n.cl.xs.map (Value.int J))/\N n.cl.xs<=1000)(ty:TypeId) :
  ∃d a,(Builtin.append_ #[39,39] ty #[v,Z (O (aD (M (H Xq)) 0)) 1 1]).run V (Xq.alloc (Qs n.cells 43))=.ok d a/\Pf 43 3 w (L++[fA n]) d a:=by
 obtain⟨nv,t,f,u⟩:=h.ex;have k:N nv=N L:=Qb;obtain⟨d,a,l,p,j,_⟩:=TD Xq (M (H w)) v nv f X h.aj.size n ty;have oO:∀{c:aA},(c=⟨Qr,0,[]⟩∨Xq.ownsRow (M (H w)) 3 1 c.val (N c.xs) (c.xs.map (Value.int J))/\N c.xs<=1000)->(c=⟨Qr,0,[]⟩∨a.ownsRow (M (H w)) 3 1 c.val (N c.xs) (c.xs.map (Value.int J))/\N c.xs<=1000):=λ{c} hi=>hi.imp id λx=>⟨Xw x.1 j λg r=>by
  obtain⟨q,i⟩:=og x.1 r;exact JF f (show GB Xq g 3 q from i) Qc,x.2⟩
 refine⟨d,a,l,h.aj.trans (j.aj h.aj.size λb y e=>Qj ((Xy f e).1)),nv++[n],Qf,p,λm z=>?_⟩;grind
def VT(n:Nat)(w:U)(hn:n<=100) :
  Calls V 63 #[I J n] w λe r=>∃v,e=Qu v/\r.ownsRow (M (H w)) 3 1 v (N (upN n)) ((upN n).map (Value.int J))/\Bw w r:=by
 obtain⟨z,A⟩:=bH anF af2;have u:Qm (upN 0=[]):=rfl;generalize upN=Uq at*;go_enter func63,ntmps63;go_wp2;go_loopw [3,4] (λv f t=>∃k:Nat,k<=n/\f=I J k/\Qm (t.ownsRow (M (H w)) 3 1 v (N (Uq k)) ((Uq k).map (Value.int J)))/\Bw w t) (λ_ f _=>n-(intOf f).toNat)
 case atStart=>exact⟨0,ZR _,rfl,by show World.ownsRow _ _ _ _ _ _ _;rw[u.o];exact XC _ _ _ _,Za _ _⟩
 case round=>
  obtain⟨k,L,rfl,a,d⟩:=hrel;by_cases R:k<n
  .have K:=A.o k;obtain⟨j,l,rfl,-⟩:=X9 a.o X;obtain⟨P,B,m,p,q,⟨C,D,G,rfl⟩,-⟩:=pK wr (M (H w)) (Z j (N (Uq k)) l) (Uq k) a.o X d.size (k:Int) 26;have y:=Zh (d.trans (q.aj d.size (λb Q e=>Qj ((Xy a.o e).1))));have g:Qm _:=p;rw[<-z.o]at g;clear p q a;go_wp2_with (first|(at_builtin;refine XJ rfl (.tmp 10) (.tmp 12) 26 rfl (Z j (N (Uq k)) l) (Z (O (aD (M (H wr)) 0)) 1 1) (Z C D G) B rfl rfl m ?_));clear m;refine gQ ?_;exact⟨k+1,X,Qe,g.o,y.o⟩
  .have e:k=n:=X
   have i:Qm _:=a.o;rw[e]at i;clear a;go_wp2;go_ret;exact⟨_,rfl,i.o,d⟩
end
theorem ajo(q:ae)(w:U)(h1:1<=N q.au.xs)(h5:N q.au.xs<=5)(h8:N q.wh<=8)(h4:N q.ord.xs<=1000) :
  Calls V 28 #[.agg q.cells] w (sZ (ET q) w):=by
 obtain⟨i,dB,bL,aH⟩:=bI w q.cells 35;obtain⟨w2,aS,aI,aU⟩:=bI i (fN 1 0 0 0 []).cells 43;have HI:Qm (Pf 43 3 i (iG 0) (Z (O (aD (M (H i)) 0)) 1 1) w2):=by
  refine⟨aI,[fN 1 0 0 0 []],rfl,?_,λn hn=>?_⟩
  .have:=ajn i (Zb (M (H i))) (fN 1 0 0 0 []) 43
   grind
  .rw[XH]at hn;subst hn;exact⟨rfl,.inl rfl⟩
 have Q:=Zh C9;have ag:Qm (∀k,iG (k+1)=iG k++[fN 1 0 0 ((k+1:Nat):Int) []]++[fN 3 (N (iG k)-1:Int) (N (iG k)) 0 []]):=λk=>by rw[Jj];rfl
 have gJ:Qm (ET q=II q (IG q (uE q (iG (N q.au.xs-1))))):=rfl;have p:=Zh λ(P:U) (L:JK ay) (v:Ql) (h:Pf 43 3 i L v P) (B:N L<=1000) (kind l r s:Int)=>Pf.push h B (fN kind l r s []) rfl (.inl rfl) 39;have ah:=Zh λ(P:U) (L:JK ay) (v:Ql) (h:Pf 43 3 i L v P) (B:N L<=1000) (l:Int) (na:LM) (nc:Nat) (ns:IC) (ho:P.ownsRow (M (H i)) 3 1 (Z na (N ns) nc) (N ns) (ns.map (Value.int J))) (hn:N ns<=1000)=>Pf.push h B ⟨2,l,0,0,⟨na,nc,ns⟩,0,⟨Qr,0,[]⟩⟩ rfl (.inr ⟨ho,hn⟩) 39;have ai:=Zh λ(a:JK ay) (h:0<N q.wh)=>show uE q a=a++[⟨2,(N a:Int)-1,0,0,⟨Qr,0,upN (N q.wh)⟩,0,⟨Qr,0,[]⟩⟩] from Zd h;have ak:=Zh λ(a:JK ay) (h:¬0<N q.wh)=>show uE q a=a from Zk h;have FO:=Zh λ(a:JK ay)=>show IG q a=a++[⟨if q.aF=T then 7 else 9,(N a:Int)-1,0,0,⟨Qr,0,[]⟩,0,⟨Qr,0,[]⟩⟩] from rfl;have av:=Zh λ(a:JK ay) (h:0<N q.ord.xs)=>show II q a=a++[⟨10,(N a:Int)-1,0,0,⟨Qr,0,[]⟩,0,⟨Qr,0,[]⟩⟩] from Zd h;have ax:=Zh λ(a:JK ay) (h:¬0<N q.ord.xs)=>show II q a=a from Zk h;have az:=Zh λ(P:U)=>VT (N q.wh) P X;have aL:=Zh (af2 (N q.wh));generalize iG=FT,ET q=FN,II q=FA,IG q=FE,uE q=FF,upN (N q.wh)=UP at*;obtain⟨HG,aV⟩:=bH aH bL;unfold fN at*;simp only[ay.cells,ae.cells,aA.val,XE,JW]at*;clear aH bL aI aU;go_enter func28,ntmps28;go_wp2;clear dB aS;go_loopw [3,4] (λv iv P=>∃k:Nat,k+1<=N q.au.xs/\iv=I J ((k+1:Nat):Int)/\Qm (Pf 43 3 i (FT k) v P)) (λ_ iv _=>N q.au.xs-(intOf iv).toNat)
 case atStart=>grind
 case round=>
  obtain⟨k,hk,rfl,HN⟩:=hrel;obtain⟨q0,q1,q2,q3,q4,q5,q6⟩:=(HG.o.up HN.o.aj).k7;obtain⟨b,DF⟩:∃b,2*k=b:=⟨_,rfl⟩;have y:N (FT k)=b+1:=by rw[Q.o k,DF]
  obtain⟨va,vc,rfl⟩:=HN.o.len;by_cases aT:k+1<N q.au.xs
  .obtain⟨v1,t,R,S⟩:=p.o wr _ _ HN.o X 1 0 0 ((k:Int)+1);obtain⟨C,D,rfl⟩:=S.len;obtain⟨v2,m,f,W⟩:=p.o t _ _ S Qb 3 (b:Int) ((b:Int)+1) 0;have HX:Qm (Pf 43 3 i (FT (k+1)) v2 m):=by show Pf _ _ _ _ _ _;rw[ag.o,y,show (((b+1:Nat):Int)-1)=(b:Int) by omega,show ((b+1:Nat):Int)=(b:Int)+1 by omega,show ((k+1:Nat):Int)=(k:Int)+1 by omega];exact W
   obtain⟨u,c2,rfl⟩:=W.len;have aM:IntKind.i64.wrap (b:Int)=(b:Int):=by simp[IntKind.wrap,IntKind.bits,IntKind.signed];omega
   clear S W HN;simp only[ay.cells,aA.val,XE,JW,Zt,Zu,ZT,y]at R f HX ⊢;go_wp2_with (first|(at_builtin;first|refine XJ rfl (.tmp 19) (.tmp 22) 39 rfl (Z va (b+1) vc) (Z (O (aD (M (H wr)) 0)) 1 1) (Z C (b+1+1) D) t rfl rfl R ?_|refine XJ rfl (.tmp 24) (.tmp 29) 39 rfl (Z C (b+1+1) D) (Z (O (aD (M (H t)) 0)) 1 1) (Z u (b+1+1+1) c2) m rfl rfl f ?_));clear R f;go_wp2;go_roundw
   case rel=>grind
   case measure=>exact XK
  .have aB:k=N q.au.xs-1:=X
   rw[<-aB]at gJ;obtain⟨g,j⟩:=bH y HN.o;rw[y]at j ⊢;clear HN aB DF;have DF:b<=20:=Qk (Q.o k) g.o;have aM:IntKind.i64.wrap (b:Int)=(b:Int):=by simp[IntKind.wrap,IntKind.bits,IntKind.signed];omega
   by_cases hw:0<N q.wh
   case' neg=>
    have A:Qm (Pf 43 3 i (FF (FT k)) (Z va (b+1) vc) wr/\N (FF (FT k))=b+1):=by show _/\_;rw[ak.o _ hw];exact⟨j.o,g.o⟩
    have aN:¬(0:Int)<(N q.wh:Int):=X;clear j g;obtain⟨C,rfl⟩:=eY (va);obtain⟨D,rfl⟩:=eY (vc);obtain⟨t,rfl⟩:=eY (wr);obtain⟨d,rfl⟩:=eY (b);have aP:d<=30:=X
   case' pos=>
    have aN:(0:Int)<(N q.wh:Int):=X;have aC:=az.o wr;go_wp2_with fail;refine aC.mono ?_;clear aC q0 q1 q2 q3 q4 q5 q6;rintro e Zq ⟨nv,rfl,aa,aJ⟩;have aQ:=aL.o;obtain⟨na,nc,rfl,-⟩:=X9 aa X;have hZ:=j.o.step aJ;obtain⟨v1,t,R,z⟩:=ah.o Zq _ _ hZ (Qj g.o) (b:Int) na nc UP (lL aa j.o.aj.size) X;obtain⟨C,D,rfl⟩:=z.len;have F9:N (FT k++[fA ⟨2,(b:Int),0,0,⟨na,nc,UP⟩,0,⟨Qr,0,[]⟩⟩])=b+1+1:=by rw[Zt,g.o];rfl
    rw[F9]at z R;have A:Qm (Pf 43 3 i (FF (FT k)) (Z C (b+1+1) D) t/\N (FF (FT k))=b+1+1):=by show _/\_;rw[ai.o _ hw,g.o,show (((b+1:Nat):Int)-1)=(b:Int) by omega];exact⟨z,F9⟩
    obtain⟨d,LP⟩:=eX (b+1);rw[show b+1+1=d+1 by omega]at A R;have aP:d<=30:=X;clear hZ z aa aJ j g F9 LP aQ
   all_goals
    have aX:IntKind.i64.wrap (d:Int)=(d:Int):=by simp[IntKind.wrap,IntKind.bits,IntKind.signed];omega
    have aY:=(HG.o.up A.o.1.aj).k7;have aG:Qm (∀G:Bool,q.aF=G->∃u c2 m,(Builtin.append_ #[39,39] 39 #[Z C (d+1) D,Z (O (aD (M (H t)) 0)) 1 1]).run V (t.alloc (Qs #[I J (if G=T then 7 else 9),I J (d:Int),I J 0,I J 0,Z Qr 0 0,I J 0,Z Qr 0 0] 43))=.ok (Z u (d+1+1) c2) m/\Pf 43 3 i (FE (FF (FT k))) (Z u (d+1+1) c2) m/\N (FE (FF (FT k)))=d+1+1):=λG hG=>by
     obtain⟨v2,m,f,K⟩:=p.o t _ _ A.o.1 (Qj A.o.2) (if q.aF=T then 7 else 9) (d:Int) 0 0;have hE:=FO.o (FF (FT k));rw[A.o.2,show (((d+1:Nat):Int)-1)=(d:Int) by omega]at hE;have B:N (FE (FF (FT k)))=d+1+1:=by rw[hE,Zt,A.o.2];rfl
     obtain⟨u,c2,rfl⟩:=K.len;have e1:FF (FT k)++[fA ⟨if q.aF=T then 7 else 9,(d:Int),0,0,⟨Qr,0,[]⟩,0,⟨Qr,0,[]⟩⟩]=FE (FF (FT k)):=hE.symm;rw[e1,B]at K f;rw[hG]at f;exact⟨u,c2,m,f,K,B⟩
    generalize bg:q.aF=GG at*;obtain⟨u,c2,m,f,K,aK⟩:=aG.o GG rfl;have aZ:=(HG.o.up K.aj).k7;have ru:=Zh λ(L:JK ay) (v:Ql) (Zq:U) (h:Pf 43 3 i L v Zq) (B:N L<=1000)=>show sZ L w (Qu v) Zq by obtain⟨ao,cp,nv,rfl,h1,h2⟩:=h.plan B;exact⟨ao,cp,nv,rfl,h1,h2,aO aV.o h.aj⟩
    clear aG FO ai ak ah az Q ag;by_cases ho:0<N q.ord.xs
    case' neg=>
     have aR:¬(0:Int)<(N q.ord.xs:Int):=X;have V6:Qm (sZ FN w (Qu (Z u (d+1+1) c2)) m):=by show sZ _ _ _ _;rw[gJ.o,ax.o _ ho];exact ru.o _ _ _ K X
    case' pos=>
     have aR:(0:Int)<(N q.ord.xs:Int):=X;obtain⟨v3,Y3,aW,af⟩:=p.o m _ _ K X 10 ((d:Int)+1) 0 0;have V6:Qm (sZ FN w (Qu v3) Y3):=by show sZ _ _ _ _;rw[gJ.o,av.o _ ho,aK,show (((d+1+1:Nat):Int)-1)=(d:Int)+1 by omega];exact ru.o _ _ _ af (by rw[Zt,aK];simp;omega)
     obtain⟨b3,c3,rfl⟩:=af.len;have bf:IntKind.i64.wrap ((d:Int)+1)=(d:Int)+1:=by simp[IntKind.wrap,IntKind.bits,IntKind.signed];omega
     generalize N (FE (FF (FT k))++_)=l3 at*;clear af
    all_goals
     clear K ru gJ ax av A p;cases GG
     all_goals
      simp only[Bool.false_eq_true,if_false,if_true]at f;go_wp2_with (first|(at_builtin;first|refine XJ rfl (.tmp 35) (.tmp 44) 39 rfl (Z va (b+1) vc) (Z (O (aD (M (H Zq)) 0)) 1 1) (Z C (d+1) D) t rfl rfl R ?_|refine XJ rfl (.tmp 48) (.tmp 54) 39 rfl (Z C (d+1) D) (Z (O (aD (M (H t)) 0)) 1 1) (Z u (d+1+1) c2) m rfl rfl f ?_|refine XJ rfl (.tmp 60) (.tmp 65) 39 rfl (Z u (d+1+1) c2) (Z (O (aD (M (H m)) 0)) 1 1) (Z b3 l3 c3) Y3 rfl rfl aW ?_));go_ret;exact V6.o
section
def stQ(ts:JK af)(q:ae)(pick:Int)(σ:fE):fE:=gz gK ts q (bE ts q) pick σ
def Ag(ts:JK af)(q:ae)(picks:IC)(n:Nat)(σ:fE):fE:=iV gK ts q (bE ts q) picks n 0 σ
def EH(ts:JK af)(q:ae)(aI:Nat):fE:=fF gK ts q aI
def Vk(ts:JK af)(q:ae)(picks:IC)(n:Nat)(kE:Int)(σ:fE):fE:=Ve gK ts q (bE ts q) picks n kE σ
structure Ig(ts:JK af)(q:ae)(aI:Nat)(σ:fE):Prop where
 run:∀L,σ.picks <+: L->Ag ts q L (N σ.picks) (EH ts q aI)=σ
 ig:∀p∈σ.picks,p.natAbs<=1000000
def nA(ts:JK af)(q:ae)(aI:Nat)(σ:fE):Prop:=Ig ts q aI σ∨∃τ,Ig ts q aI τ/\τ.status=1/\σ = { τ with status:=4 }
variable {ts:JK af} {q:ae} {aI:Nat} {σ:fE}
def aii:Ig ts q aI (EH ts q aI):=⟨λ_ _=>rfl,λp a=>by cases a⟩
def N8(hc:q.check ts=0)(hr:1<=aI):GQ q (EH ts q aI):=by obtain⟨c,a,_⟩:=sS hc;exact aih gK ts q aI a c.jM c.ko hr
def aur(hc:q.check ts=0)(L:IC)(h:GQ q σ)(n:Nat):GQ q (Ag ts q L n σ):=(wK (rk:=gK) (ts:=ts) (XN ts q) (sS hc).1.jM L h n).1
theorem Ig.ok(h:Ig ts q aI σ)(hc:q.check ts=0)(hr:1<=aI):GQ q σ:=by rw[<-h.run σ.picks (List.prefix_refl _)];exact aur hc _ (N8 hc hr) _
theorem Ig.len(h:Ig ts q aI σ)(hc:q.check ts=0)(hr:1<=aI):N σ.picks<=7001/\(σ.status=1->N σ.picks<7001):=by
 obtain⟨c,i,_⟩:=sS hc;have a:=N8 hc hr;have f:=ah0 (rk:=gK) (ts:=ts) (XN ts q) c.jM i σ.picks a (ahZ gK ts q aI _);have e:=h.run σ.picks (List.prefix_refl _);by_cases k:N σ.picks<7001
 .omega
 .have b:=uX f (N σ.picks-7001);rw[show 7001+(N σ.picks-7001)=N σ.picks by omega]at b;have d:Ag ts q σ.picks (N σ.picks) (EH ts q aI)=iV gK ts q (bE ts q) σ.picks 7001 0 (EH ts q aI):=b;rw[e]at d;have g:=(wK (rk:=gK) (ts:=ts) (XN ts q) c.jM σ.picks a 7001).2;refine⟨?_,λj=>?_⟩
  .rw[d];exact ZU g (by show 0+7001<=7001;omega)
  grind
def Ig.U5(h:Ig ts q aI σ):σ.cut=(EH ts q aI).cut/\(σ.status=1∨σ.status=if (EH ts q aI).cut=T then 3 else 2):=by have a:=NW (rk:=gK) (ts:=ts) (q:=q) (conc:=bE ts q) σ.picks (σ:=EH ts q aI) rfl (N σ.picks);have e:=h.run σ.picks (List.prefix_refl _);unfold Ag at e;rw[e]at a;exact a
def Ig.ar1(h:Ig ts q 1000 σ)(hc:q.check ts=0):σ.status≠3:=λe=>by have a:=h.U5.2;rw[show (EH ts q 1000).cut=F from aaO (N8 hc X)]at a;simp at a;omega
theorem Ig.step(h:Ig ts q aI σ)(hc:q.check ts=0)(hr:1<=aI)(hs:σ.status=1)(pick:Int):Ig ts q aI (stQ ts q pick σ)/\(stQ ts q pick σ).picks.length=N σ.picks+1/\(stQ ts q pick σ).bP.d.aJ<=σ.bP.d.aJ:=by
 have i:=h.ok hc hr;have j:=i.U5 hs;have v:=i.apu;have y:=(h.len hc hr).2 hs;have a:=aan gK ts q (bE ts q) pick σ;obtain⟨t,u⟩:=SX j pick;have k:=aao (rk:=gK) (ts:=ts) (q:=q) (conc:=bE ts q) (pick:=pick) j;generalize eF (N σ.aL) pick=p at a t u k;unfold stQ;refine⟨⟨λL g=>?_,?_⟩,by rw[a];simp,?_⟩
 .rw[a]at g;have f:=(List.prefix_append _ _).trans g;have e:=h.run L f;unfold Ag at e ⊢;have l:N σ.picks<N L:=by grind
  have m:jU L (0+N σ.picks)=p:=by unfold jU;rw[Zk X,ZT,Nat.mod_eq_of_lt l];obtain⟨r,hr⟩:=g;grind
  rw[a,Zt,Xh,JI,e,Zd hs,m,k]
 .rw[a];intro n b;rcases Z5.1 b with b|b
  .exact h.ig n b
  grind
 .have:=(al6 gK ts q (bE ts q) [pick] σ 0 1).1;have e:iV gK ts q (bE ts q) [pick] (0+1) 0 σ=gz gK ts q (bE ts q) pick σ:=by show (if σ.status=1 then gz gK ts q (bE ts q) (jU [pick] 0) σ else σ)=_;rw[Zd hs];rfl
  rw[e]at this;exact this
theorem Ig.aij(h:Ig ts q aI σ)(hc:q.check ts=0)(hr:1<=aI)(ps:IC):∀n,Ig ts q aI (Ag ts q ps n σ)/\(Ag ts q ps n σ).bP.d.aJ<=σ.bP.d.aJ/\N σ.picks<=(Ag ts q ps n σ).picks.length/\(Ag ts q ps n σ).picks.length<=N σ.picks+n/\((Ag ts q ps n σ).status=1->(Ag ts q ps n σ).picks.length=N σ.picks+n)/\(σ.status≠1->Ag ts q ps n σ=σ)/\(σ.status=1->(Ag ts q ps n σ).status≠1->N σ.picks<(Ag ts q ps n σ).picks.length)
 |0=>⟨h,Zb _,Zb _,Zb _,λ_=>rfl,λ_=>rfl,λa b=>absurd a b⟩
 |n+1=>by
  obtain⟨h1,h2,h3,h4,h5,h6,h7⟩:=Ig.aij h hc hr ps n;have e:Ag ts q ps (n+1) σ=if (Ag ts q ps n σ).status=1 then stQ ts q (jU ps (0+n)) (Ag ts q ps n σ) else Ag ts q ps n σ:=JI ..;rw[e];by_cases hs:(Ag ts q ps n σ).status=1
  .rw[Zd hs];obtain⟨a,b,c⟩:=h1.step hc hr hs (jU ps (0+n))
   grind
  grind
def nA.ig(h:nA ts q aI σ):∀p∈σ.picks,p.natAbs<=1000000:=by
 rcases h with h|⟨τ,h,_,rfl⟩
 .exact h.ig
 .exact h.ig
def GQ.aFD{τ:fE}(h:GQ q τ):GQ q { τ with status:=4 }:=⟨⟨h.core.qw,h.core.nN,h.core.task,h.core.bP,h.core.ig⟩,(λe=>by cases e),h.apu⟩
theorem nA.ok(h:nA ts q aI σ)(hc:q.check ts=0)(hr:1<=aI):GQ q σ:=by
 rcases h with h|⟨τ,h,_,rfl⟩
 .exact h.ok hc hr
 .exact(h.ok hc hr).aFD
theorem nA.len(h:nA ts q aI σ)(hc:q.check ts=0)(hr:1<=aI):N σ.picks<=7001/\(σ.status=1->N σ.picks<7001):=by
 rcases h with h|⟨τ,h,_,rfl⟩
 .exact h.len hc hr
 .exact⟨(h.len hc hr).1,(λe=>by cases e)⟩
def nA.plain(h:nA ts q aI σ)(hs:σ.status≠4):Ig ts q aI σ:=by
 rcases h with h|⟨τ,h,_,rfl⟩
 .exact h
 .exact absurd rfl hs
def Ig.range(h:Ig ts q aI σ):σ.status=1∨σ.status=2∨σ.status=3:=by have:=h.U5.2;split at this <;> omega
def nA.range(h:nA ts q aI σ):1<=σ.status/\σ.status<=4:=by
 rcases h with h|⟨τ,h,_,rfl⟩
 .have:=h.range;omega
 simp_all
structure aaT(ts:JK af)(q:ae)(aI:Nat)(A B:Int)(σ τ:fE):Prop where
 BA:nA ts q aI τ
 aJ:τ.bP.d.aJ<=σ.bP.d.aJ
 Hu:N σ.picks<=N τ.picks
 apX:σ.status≠1->τ=σ
 most:(N τ.picks:Int)-N σ.picks > 0->(N τ.picks:Int)-N σ.picks<=A
 kE:0<=B->(N τ.picks:Int)-N σ.picks<=B
 one:σ.status=1->τ.status=1->(N τ.picks:Int)-N σ.picks=A∨A<=0/\N τ.picks=N σ.picks
 apY:σ.status=1->τ.status=4->(N τ.picks:Int)-N σ.picks=B/\(N τ.picks:Int)-N σ.picks<A
 done:σ.status=1->τ.status≠1->τ.status≠4->N σ.picks<N τ.picks
def nA.go(h:nA ts q aI σ)(hc:q.check ts=0)(hr:1<=aI)(ps:IC)(A B:Int):aaT ts q aI A B σ (Vk ts q ps A.toNat B σ):=by
 by_cases a:σ.status=1
 .have h:=h.plain X;obtain⟨j,a2,a3,a4,a5,C,t⟩:=h.aij hc hr ps A.toNat;obtain⟨g,k,l,D,u,G,v⟩:=h.aij hc hr ps B.toNat;have y:=j.range;have rb:=g.range;unfold Vk Ve;by_cases m:0<=B/\B<A.toNat
  .rw[Zd m];by_cases b:(iV gK ts q (bE ts q) ps B.toNat 0 σ).status=1
   .rw[Zd b];have p:=u b;exact⟨.inr ⟨_,g,b,rfl⟩,k,l,λe=>absurd a e,λ_=>by show ((Ag ts q ps B.toNat σ).picks.length:Int)-_<=_;omega,λ_=>by show ((Ag ts q ps B.toNat σ).picks.length:Int)-_<=_;omega,(λ_ e=>by cases e),λ_ _=>by show ((Ag ts q ps B.toNat σ).picks.length:Int)-_=_/\((Ag ts q ps B.toNat σ).picks.length:Int)-_<_;omega,λ_ _ e=>absurd rfl e⟩
   .rw[Zk b];have f:(Ag ts q ps B.toNat σ).status≠1:=b;have r:=v a f;exact⟨.inl g,k,l,λe=>absurd a e,λ_=>by show ((Ag ts q ps B.toNat σ).picks.length:Int)-_<=_;omega,λ_=>by show ((Ag ts q ps B.toNat σ).picks.length:Int)-_<=_;omega,λ_ e=>absurd e b,λ_ e=>by have e:(Ag ts q ps B.toNat σ).status=4:=e;omega,λ_ _ _=>r⟩
  .rw[Zk m];refine⟨.inl j,a2,a3,λe=>absurd a e,λi=>?_,λ_=>by show ((Ag ts q ps A.toNat σ).picks.length:Int)-_<=_;omega,λ_ e=>?_,λ_ e=>by have e:(Ag ts q ps A.toNat σ).status=4:=e;omega,λ_ e _=>t a e⟩
   .have i:((Ag ts q ps A.toNat σ).picks.length:Int)-N σ.picks > 0:=i
    show ((Ag ts q ps A.toNat σ).picks.length:Int)-_<=_;omega
   have p:=a5 e;show ((Ag ts q ps A.toNat σ).picks.length:Int)-_=_∨_/\(Ag ts q ps A.toNat σ).picks.length=_;omega
 .have e:Vk ts q ps A.toNat B σ=σ:=by
   unfold Vk Ve;have z:∀n,iV gK ts q (bE ts q) ps n 0 σ=σ:=λn=>by have:=uX (rk:=gK) (ts:=ts) (q:=q) (conc:=bE ts q) (picks:=ps) (σ:=σ) (d:=0) a n;rw[ZT]at this;exact this
   simp_all
  rw[e];exact⟨h,Zb _,Zb _,λ_=>rfl,λh=>X,λh=>X,λe=>absurd e a,λe=>absurd e a,λe=>absurd e a⟩
theorem nA.again(h:nA ts q aI σ)(hs:σ.status≠4):Vk ts q σ.picks (N σ.picks) (-1) (EH ts q aI)=σ:=by unfold Vk;rw[afz X];exact(h.plain hs).run σ.picks (List.prefix_refl _)
theorem nA.aus(h:nA ts q aI σ)(hs:σ.status=4):Vk ts q [] 1 0 (Vk ts q σ.picks (N σ.picks) (-1) (EH ts q aI))=σ:=by
 rcases h with h|⟨τ,h,a,rfl⟩
 .have:=h.range;omega
 .show Vk ts q [] 1 0 (Vk ts q τ.picks (N τ.picks) (-1) (EH ts q aI))=_
  rw[nA.again (σ:=τ) (.inl h) X];exact aak (d:=0) X a
def nA.apZ(h:nA ts q aI σ)(hc:q.check ts=0)(hr:1<=aI)(hn:nv.map fA=σ.bP.ns):∃v,nG ts q nv=O v/\v.aJ=σ.bP.d.aJ:=by
 have a:=ar0 hc;have key:∀τ,Ig ts q aI τ->BF ts q τ.bP:=λτ h=>by have:=adY (rk:=gK) a τ.picks (N8 hc hr) (aaI a gK aI) (N τ.picks);have e:=h.run τ.picks (List.prefix_refl _);have b:iV gK ts q (dh ts q) τ.picks (N τ.picks) 0 (EH ts q aI)=τ:=e;rw[b]at this;exact this.bP
 have f:BF ts q σ.bP:=by
  rcases h with h|⟨τ,h,_,rfl⟩
  .exact key σ h
  .exact key τ h
 obtain⟨i,g,j⟩:=f.aJ hn;rcases RO a.ok nv with⟨e,_⟩|⟨ps,v,e1,e2,e3,e4,e5,e6⟩
 .rw[g]at e;cases e
 simp_all
def nA.done(h:nA ts q aI σ)(hc:q.check ts=0)(hr:1<=aI)(hs:σ.status=2):nR ts q aI σ:=by have h:=h.plain X;have e:iV gK ts q (dh ts q) σ.picks (N σ.picks) 0 (fF gK ts q aI)=σ:=h.run σ.picks (List.prefix_refl _);have:=amb (rk:=gK) (ar0 hc) (N8 hc hr) σ.picks (N σ.picks) (by rw[e];exact hs);simp_all
end
