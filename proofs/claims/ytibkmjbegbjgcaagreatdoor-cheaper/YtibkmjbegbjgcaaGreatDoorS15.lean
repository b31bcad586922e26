import Derived.Test.YtibkmjbegbjgcaaGreatDoorS04
import Derived.Test.YtibkmjbegbjgcaaGreatDoorS07
set_option linter.all false
set_option maxRecDepth 100000
set_option maxHeartbeats 0
namespace Go.Proofs.Zz
open Go.RowKit Go.Shelf Go.Proofs.Tryz
open List renaming length->N,getD->E
open Go.Value renaming slice->Z,int->I,pointer->Y,bool->Qr,agg->Qu
open Go.Proofs.Tryz renaming prog->V
open Option renaming some->O,none->Qs
open Go.IntKind renaming i64->J,u64->Qq
open Bool renaming false->F
open Go renaming World->U,Value->Qm
open Go.World renaming heap->H,setCell->Qo,cell?->Qp
open _root_.Array renaming size->M
open Go.RowKit renaming Hid->Qn
open Go.Obj renaming cells->Qt
open Go.Ending renaming returned->Qv
variable {W:U} {a0 a1:Qm} {B:Nat}
theorem Gx(gb sb:Nat)(k:ah)(cnt:Nat)(ss:Qx)(w:U)
  (hg:w.heap[gb]? = O (Qt #[k.val,I J cnt,Z (O (aD sb 0)) (N ss) (N ss)] 244)) (hs:w.heap[sb]? = O (Qt (ss.map (Value.int J)).toArray 3)) (hk:k.At w) (hkn:k.ad=Qs->k.cap=0) (hkl:N k.xs<=4) (hsl:N ss<=4) (hcnt:cnt<=1000000) :
  Calls V 141 #[Y (O (aD gb 0))] w λe w'=>∃v,e=Qv v/\w'.ownsRow (M (H w)) 3 1 v (N (k.xs++[(cnt:Int)]++ss)) ((k.xs++[(cnt:Int)]++ss).map (Value.int J))/\Bw w w':=by
 have W:Qp w (aD gb 0)=O k.val:=Jy hg rfl;have c1:Qp w (aD gb 1)=O (I J cnt):=Jy hg rfl;have c2:Qp w (aD gb 2)=O (Z (O (aD sb 0)) (N ss) (N ss)):=Jy hg rfl;have B:=(ZV.1 hg).1;obtain⟨b,d,a⟩:=k;unfold ah.val at*;simp only at*;have n:IntsAt w (O (aD sb 0)) ss:=⟨X,λi r=>⟨sb,0,rfl,by rw[ZC];exact Jy hs (by simp[List.getD,r])⟩⟩;have C:Qn _:=hk;have D:Qn _:=n;have G:=Zh hkn;clear hg hs hk n;have K:Qn (Calls V 173 #[Z (O (aD (M (H w)+1) 0)) 3 3] ((w.alloc (Qt #[I J cnt] 3)).alloc (Qt #[Z b (N a) d,Z (O (aD (M (H w)) 0)) 1 1,Z (O (aD sb 0)) (N ss) (N ss)] 22)).drew
   λe w'=>∃v,e=Qv v/\w'.ownsRow (M (H w)) 3 1 v (N (a++[(cnt:Int)]++ss)) ((a++[(cnt:Int)]++ss).map (Value.int J))/\Bw w w'):=by
  have p:=cZ w (Qt #[I J cnt] 3);have t:=cZ (w.alloc (Qt #[I J cnt] 3)) (Qt #[Z b (N a) d,Z (O (aD (M (H w)) 0)) 1 1,Z (O (aD sb 0)) (N ss) (N ss)] 22);have l:=(p.trans (t.mono p.size)).drew;have u:(((w.alloc (Qt #[I J cnt] 3)).alloc (Qt #[Z b (N a) d,Z (O (aD (M (H w)) 0)) 1 1,Z (O (aD sb 0)) (N ss) (N ss)] 22)).drew).heap[M (H w)]? = O (Qt #[I J cnt] 3):=(Below.heap_alloc (w.alloc (Qt #[I J cnt] 3)) _ _ Qa).trans (lT _ _);have m:(((w.alloc (Qt #[I J cnt] 3)).alloc (Qt #[Z b (N a) d,Z (O (aD (M (H w)) 0)) 1 1,Z (O (aD sb 0)) (N ss) (N ss)] 22)).drew).heap[M (H w)+1]? = O (Qt #[Z b (N a) d,Z (O (aD (M (H w)) 0)) 1 1,Z (O (aD sb 0)) (N ss) (N ss)] 22):=by have h:=lT (w.alloc (Qt #[I J cnt] 3)) (Qt #[Z b (N a) d,Z (O (aD (M (H w)) 0)) 1 1,Z (O (aD sb 0)) (N ss) (N ss)] 22);rw[Xo]at h;exact h
  have L:M (H (((w.alloc (Qt #[I J cnt] 3)).alloc (Qt #[Z b (N a) d,Z (O (aD (M (H w)) 0)) 1 1,Z (O (aD sb 0)) (N ss) (N ss)] 22)).drew))=M (H w)+2:=by show M (H ((w.alloc (Qt #[I J cnt] 3)).alloc (Qt #[Z b (N a) d,Z (O (aD (M (H w)) 0)) 1 1,Z (O (aD sb 0)) (N ss) (N ss)] 22)))=_;simp
  generalize ((w.alloc (Qt #[I J cnt] 3)).alloc (Qt #[Z b (N a) d,Z (O (aD (M (H w)) 0)) 1 1,Z (O (aD sb 0)) (N ss) (N ss)] 22)).drew=Vq at*;have q:fE [⟨b,d,a⟩,⟨O (aD (M (H w)) 0),1,[(cnt:Int)]⟩,⟨O (aD sb 0),N ss,ss⟩]=a++[(cnt:Int)]++ss:=by simp[fE]
  have h:=Mm (O (aD (M (H w)+1) 0)) 3 [⟨b,d,a⟩,⟨O (aD (M (H w)) 0),1,[(cnt:Int)]⟩,⟨O (aD sb 0),N ss,ss⟩] Vq ?_ Qa ?_ ?_
  .rw[q]at h;refine h.mono ?_;rintro e w' ⟨v,rfl,f,R⟩;exact⟨v,rfl,⟨f.1,by
    rcases f.2 with h|⟨g,cap,y,P,h2,Q⟩
    .exact .inl h
    .exact .inr ⟨g,cap,y,P,X,Q⟩⟩,l.trans (R.mono X)⟩
  .refine⟨Qa,⟨λi r=>⟨M (H w)+1,0,rfl,?_⟩,λi r=>?_⟩⟩
   .match i,r with
    |0,_=>exact Jy m rfl
    |1,_=>exact Jy m rfl
    |2,_=>exact Jy m rfl
   .match i,r with
    |0,_=>exact Q8 l C.o
    |1,_=>exact⟨Qa,λj S=>⟨M (H w),0,rfl,by
      match j,S with
      |0,_=>exact Jy u rfl⟩⟩
    |2,_=>exact Q8 l D.o
  .grind
  .rw[q];simp;omega
 clear hkn;go_enter func141,ntmps141;go_wp2;go_region_with (refine K.o.mono ?_;rintro e w4 ⟨v4,rfl,A,z⟩;obtain⟨va,vn,vc,rfl⟩:=Xh A)
 all_goals
  go_wp2;go_ret;exact⟨_,rfl,A,z⟩
def Tryz.ach:(V.info? 121).map (λi=>(i.zero,i.size,i.bytes))=O (O (Qu #[I J 0,I Qq 0]),2,16):=Qd
def Tryz.aci:(V.info? 37).map (λi=>(i.zero,i.size,i.bytes))=O (O (I Qq 0),1,8):=Qd
def Tryz.acj:(V.info? 78).map (λi=>(i.zero,i.size,i.bytes))=O (O (I Qq 0),1,8):=Qd
def Tryz.Pp:121≠82:=Qc
def Tryz.Kc:37≠82:=Qc
def Tryz.adL:78≠82:=Qc
def Tryz.adM:121≠37:=Qc
def Tryz.adN:78≠37:=Qc
def Tryz.akq:121≠48:=Qc
def Ke(W:U)(base:Nat)(v:Qm)(xs:Qy Nat)(hown:W.ownsRow base 37 1 v (N xs) (xs.map λ(x:Nat)=>I Qq (x:Int)))(hl:N xs<=1000)(hb:base<=M (H W))(x:Nat)(ty:TypeId) :
  ∃d w',(Builtin.append_ #[79,79] ty #[v,Z (O (aD (M (H W)) 0)) 1 1]).run V (W.alloc (Qt #[I Qq (x:Int)] 37))=.ok d w'/\
   w'.ownsRow base 37 1 d (N (xs++[x])) ((xs++[x]).map λ(x:Nat)=>.int Qq (x:Int))/\Kept (λb=>v.ownBlock≠O b) W w'/\(∃a m c,d = .slice a m c)/\(d.ownBlock=v.ownBlock∨d.ownBlock=O (M (H W)+1)):=by obtain⟨k,l,e,f,g⟩:=Xl Tryz.aci;obtain⟨d,w',n,p,q,r,i⟩:=iq (P:=V) W base 79 ty 37 k (.int Qq 0) 1 8 underlying79 l e f g rfl Qc v (N xs) _ hown hb [.int Qq (x:Int)] rfl (λu j=>by rw[Xj]at j;rw[j];rfl) hl Qc;exact⟨d,w',n,by rw[ZG,Q5];exact p,q,r,i⟩
def Yj(W:U)(base:Nat)(v:Qm)(xs:Qy Nat)(hown:W.ownsRow base 78 1 v (N xs) (xs.map λ(x:Nat)=>I Qq (x:Int)))(hl:N xs<=1000)(hb:base<=M (H W))(x:Nat)(ty:TypeId) :
  ∃d w',(Builtin.append_ #[80,80] ty #[v,Z (O (aD (M (H W)) 0)) 1 1]).run V (W.alloc (Qt #[I Qq (x:Int)] 78))=.ok d w'/\
   w'.ownsRow base 78 1 d (N (xs++[x])) ((xs++[x]).map λ(x:Nat)=>.int Qq (x:Int))/\Kept (λb=>v.ownBlock≠O b) W w'/\(∃a m c,d = .slice a m c)/\(d.ownBlock=v.ownBlock∨d.ownBlock=O (M (H W)+1)):=by obtain⟨k,l,e,f,g⟩:=Xl Tryz.acj;obtain⟨d,w',n,p,q,r,i⟩:=iq (P:=V) W base 80 ty 78 k (.int Qq 0) 1 8 underlying80 l e f g rfl Qc v (N xs) _ hown hb [.int Qq (x:Int)] rfl (λu j=>by rw[Xj]at j;rw[j];rfl) hl Qc;exact⟨d,w',n,by rw[ZG,Q5];exact p,q,r,i⟩
def Yk(W:U)(base:Nat)(v:Qm)(n:Nat)(xs:Qy Qm)(hown:W.ownsRow base 121 2 v n xs)(hl:n<=1000)(hb:base<=M (H W))(s:Nat)(k:Int)(ty:TypeId) :
  ∃d w',(Builtin.append_ #[76,76] ty #[v,Z (O (aD (M (H W)) 0)) 1 1]).run V (W.alloc (Qt #[I J (s:Int),I Qq k] 121))=.ok d w'/\
   w'.ownsRow base 121 2 d (n+1) (xs++iL (s,k))/\Kept (λb=>v.ownBlock≠O b) W w'/\(∃a m c,d = .slice a m c)/\(d.ownBlock=v.ownBlock∨d.ownBlock=O (M (H W)+1)):=by obtain⟨j,l,e,f,g⟩:=Xl Tryz.ach;exact iq (P:=V) W base 76 ty 121 j (Qu #[.int J 0,.int Qq 0]) 2 16 underlying76 l e f g rfl Qc v n _ hown hb [.int J (s:Int),.int Qq k] rfl (λu i=>by simp at i;rcases i with rfl|rfl <;> rfl) hl Qc
def akr{b:Nat}{ty:TypeId}{t:af}(h:GB W b ty #[a0,a1,I J t.k0,I J t.k1,I J t.k2,I J t.k3]){m:Nat}(hm:m<4):Qp W (aD b (2+m))=O (I J (t.kd m)):=by
 rcases (by omega:m=0∨m=1∨m=2∨m=3) with rfl|rfl|rfl|rfl
 .exact h.cell 2
 .exact h.cell 3
 .exact h.cell 4
 .exact h.cell 5
def Em{l:Qy Nat}{i:Nat}(hi:i<N l):l.take (i+1)=l.take i++[E l i 0]:=by
 have e:E l i 0=l[i]:=by simp[List.getD,hi]
 rw[Q4 hi,e]
def World.lN(W:U)(B:Nat)(v0 v1 v2 v3 v4 v5 v6 v7 v8 v9 v10 v11 v12:Qm):World:=(Qo (Qo (Qo (Qo (Qo (Qo (Qo (Qo (Qo (Qo (Qo (Qo (Qo W (aD B 0) v0) (aD B 1) v1) (aD B 2) v2) (aD B 3) v3) (aD B 4) v4) (aD B 5) v5) (aD B 6) v6) (aD B 7) v7) (aD B 8) v8) (aD B 9) v9) (aD B 10) v10) (aD B 11) v11) (aD B 12) v12)
def World.xz{t:TypeId}{a2 a3 a4 a5 a6 a7 a8 a9 jq jP a12:Qm}(h:GB W B t #[a0,a1,a2,a3,a4,a5,a6,a7,a8,a9,jq,jP,a12])(v0 v1 v2 v3 v4 v5 v6 v7 v8 v9 v10 v11 v12:Qm):GB (World.lN W B v0 v1 v2 v3 v4 v5 v6 v7 v8 v9 v10 v11 v12) B t #[v0,v1,v2,v3,v4,v5,v6,v7,v8,v9,v10,v11,v12]:=by unfold World.lN;have h:GB _ B t #[v0,v1,v2,a3,a4,a5,a6,a7,a8,a9,jq,jP,a12]:=((h.set 0 v0).set 1 v1).set 2 v2;have h:GB _ B t #[v0,v1,v2,v3,v4,v5,a6,a7,a8,a9,jq,jP,a12]:=((h.set 3 v3).set 4 v4).set 5 v5;have h:GB _ B t #[v0,v1,v2,v3,v4,v5,v6,v7,v8,a9,jq,jP,a12]:=((h.set 6 v6).set 7 v7).set 8 v8;have h:GB _ B t #[v0,v1,v2,v3,v4,v5,v6,v7,v8,v9,v10,v11,a12]:=((h.set 9 v9).set 10 v10).set 11 v11;exact h.set 12 v12
def World.qg(W:U)(B:Nat)(v0 v1 v2 v3 v4 v5 v6 v7 v8 v9 v10 v11 v12:Qm):Kept (λx=>x≠B) W (World.lN W B v0 v1 v2 v3 v4 v5 v6 v7 v8 v9 v10 v11 v12):=by unfold World.lN;exact(((((((((((((Xd _ (aD B 0) _ (λh=>h rfl)).trans (Xd _ (aD B 1) _ (λh=>h rfl))).trans (Xd _ (aD B 2) _ (λh=>h rfl))).trans (Xd _ (aD B 3) _ (λh=>h rfl))).trans (Xd _ (aD B 4) _ (λh=>h rfl))).trans (Xd _ (aD B 5) _ (λh=>h rfl))).trans (Xd _ (aD B 6) _ (λh=>h rfl))).trans (Xd _ (aD B 7) _ (λh=>h rfl))).trans (Xd _ (aD B 8) _ (λh=>h rfl))).trans (Xd _ (aD B 9) _ (λh=>h rfl))).trans (Xd _ (aD B 10) _ (λh=>h rfl))).trans (Xd _ (aD B 11) _ (λh=>h rfl))).trans (Xd _ (aD B 12) _ (λh=>h rfl)))
def sJ{v0 v1 v2 v3 v4 v5 v6 v7 v8 v9 v10 v11 v12:Qm}(h:GB W B 82 #[v0,v1,v2,v3,v4,v5,v6,v7,v8,v9,v10,v11,v12]):(loadVar 82 (aD B 0)).run V W=.ok (Qu #[v0,v1,v2,v3,v4,v5,v6,v7,v8,v9,v10,v11,v12]) W:=by obtain⟨e,f,g,i,j,k,l,m,n,p,a,b,d⟩:=h.k13;simp[go_sem,e,f,g,i,j,k,l,m,n,p,a,b,d]
theorem zo(ao:PN)(cap:Nat)(ts:Qy af)(q:ae)(w:U)(hx:aQ w ao ts)(hq:q.At w)(ok:Ok ts q) :
  Calls V 28 #[Z ao (N ts) cap,Qu q.cells] w λe w'=>∃f:ay,e=Qv (Qu (f.cells ts q))/\f.At ts q w'/\f.New (M (H w))/\Bw w w':=by
 obtain⟨w1,fF,bZ,cu⟩:=bC w q.cells 26;obtain⟨l,fG,dQ,dR⟩:=bC w1 #[Z Qs 0 0,Z Qs 0 0,Qr F,Z Qs 0 0,Z Qs 0 0,Z Qs 0 0,Z Qs 0 0,Z Qs 0 0,I Qq 0,I Qq 0,Z Qs 0 0,Z Qs 0 0,Z Qs 0 0] 82;have aP:=dQ;have aR:=az bZ aP;have lu:=cu.of (aP.block _ cu.lt);obtain⟨iZ,jJ,kT,jY,jZ,kU,kV⟩:=lu.k7;have tT:=dR;have bM:=ok.small;have eF:=ok.mf;obtain⟨S,z⟩:∃S,S=2 ^ (N q.src.xs)-1:=⟨_,rfl⟩;obtain⟨C,hC⟩:∃C,C=2 ^ (N q.wh)-1:=⟨_,rfl⟩;obtain⟨HS,cz⟩:=aS z hC;have dB:Qn (∀x,Ce 48 #[I J (N q.src.xs:Int)] x (I Qq (S:Int))):=λx=>by rw[z];exact tV (N q.src.xs) bM x
 have dC:Qn (∀x,Ce 48 #[I J (N q.wh:Int)] x (I Qq (C:Int))):=λx=>by rw[hC];exact tV (N q.wh) eF x
 clear z hC;have HX:Qn _:=hx.below aR;obtain⟨HQ,fH,fI,zJ,dS,yA⟩:=aaZ (hq.below aR) hq bZ.size ok aR aP;have gK:=hq.src.1;have gL:=hq.wh.1;clear hx hq ok aR aP bZ dQ cu dR lu;have si:Qn _:=tT;clear tT;obtain⟨⟨sa,sc,src⟩,cK,A,y,group,⟨D,G,d⟩,⟨L,P,j⟩,⟨Q,W,aU⟩,⟨da,dc,ord⟩⟩:=q;unfold ae.cells ah.val at*;simp only at*;go_enter func28,ntmps28;go_upto_region 1 with fail;go_cut [5] from 13 to 22 (λc wx=>c=Y (O (aD (M (H l)) 0))/\GB wx (M (H l)) 82 #[Z sa (N src) sc,Z cK (N y) A,Qr group,Z D (N d) G,Z L (N j) P,Z Q (N aU) W,Z da (N ord) dc,Z Qs 0 0,I Qq (S:Int),I Qq (C:Int),Z Qs 0 0,Z Qs 0 0,Z Qs 0 0]/\Bw l wx)
 case first=>
  refine wH l λz=>?_;refine wT 0 (Qu #[Z sa (N src) sc,Z cK (N y) A,Qr group,Z D (N d) G,Z L (N j) P,Z Q (N aU) W,Z da (N ord) dc]) z (λx hx=>?_) ?_
  .have e0:=Vl hx iZ jJ kT jY jZ kU kV;go_simp
  refine wt 1 (Y (O (aD (M (H w)) 0))) z ?_;refine zC 2 (Z sa (N src) sc) z iZ ?_;refine wt 3 (I J (N src:Int)) z ?_;refine wt 5 (Y (O (aD (M (H w)) 1))) z ?_;refine zC 6 (Z cK (N y) A) z jJ ?_;refine wt 7 (I J (N y:Int)) z ?_
  repeat' first
   |(first|refine kJ 4 10 (λK u=>?_) λK u=>?_|refine kJ 8 10 (λK u=>?_) λK u=>?_|refine kR 4 λK u=>?_|refine kR 8 λK u=>?_|refine kR 10 λK u=>?_|refine kR 11 λK u=>?_) <;> (first|(go_simp;(first|refine oA u z λz=>?_|refine u.o _ _ ((cZ _ _).drew) λz=>?_|((first|refine XX (dB.o _) ?_|refine XX (dC.o _) ?_);rintro e wz ⟨rfl,rfl⟩;refine u.o _ _ z λz=>?_));clear u K))
   |refine kG 9 ?_;refine wt 9 (Qu #[Z sa (N src) sc,Z cK (N y) A,Qr group,Z D (N d) G,Z L (N j) P,Z Q (N aU) W,Z da (N ord) dc,Z Qs 0 0,I Qq (S:Int),I Qq (C:Int),Z Qs 0 0,Z Qs 0 0,Z Qs 0 0]) z ?_
   |refine kD ?_;(try simp only[pU]);go_wp2_with fail;go_meet;exact⟨rfl,lT l _,z⟩
 case rest=>
 obtain⟨rfl,cO,bH⟩:=hcut;obtain⟨w3,fJ⟩:=eY (wc);subst fJ;have sK:Qn (∀x,Kept (λb=>b≠M (H l)) w3 x->Bw l x):=λx hk=>bH.trans (hk.below bH.size (λb hb=>Nat.ne_of_lt hb));have eG:Qn _:=cO;have gJ:=cO.lt;have n0:=cB bH iZ;clear cO bH fF fG dB dC;go_wp2;go_loopw [26] (λiv wr=>∃k:Nat,k<=N src/\iv=I J k/\∃cv rv,Qn (GB wr (M (H l)) 82 #[Z sa (N src) sc,Z cK (N y) A,Qr group,Z D (N d) G,Z L (N j) P,Z Q (N aU) W,Z da (N ord) dc,cv,I Qq (S:Int),I Qq (C:Int),rv,Z Qs 0 0,Z Qs 0 0])/\Qn (wr.ownsRow (M (H w3)) 121 2 cv (N (bT ts src k)) ((bT ts src k).flatMap iL))/\Qn (wr.ownsRow (M (H w3)) 37 1 rv (N (lX ts src k)) ((lX ts src k).map λ(x:Nat)=>I Qq (x:Int)))/\Qn (Kept (λb=>b≠M (H l)) w3 wr)) (λiv _=>N src-(intOf iv).toNat)
 case atStart=>exact⟨0,ZB _,rfl,Z Qs 0 0,Z Qs 0 0,eG.o,Xm _ _ _ _,Xm _ _ _ _,ZO _ _⟩
 case round=>
  obtain⟨k,hk,rfl,cv,rv,HG,nG,Nz,vJ⟩:=hrel;have aH:=sK.o wr vJ.o;have q0:=cB aH iZ;by_cases bL:k<N src
  .obtain⟨sb,so,rfl,dU⟩:=Q3 (Q8 aH HQ.o.src) bL;have eH:=dU k bL;obtain⟨dV,dW⟩:=vQ zJ.o.src bL;obtain⟨n,hn⟩:=XR dV;have P8:Qp wr (aD sb (so+k))=O (I J (n:Int)):=Qb
   have dD:n<N ts:=by have h:E src k 0<(N ts:Int):=dW;rw[hn]at h;omega
   obtain⟨tb,iy,rfl,c0,c1,c2,c3,c4,c5⟩:=(aQ.below aH HX.o).2 n dD;have bN:=vL zJ.o.cat dD;have Yh:Qn (lX ts src (k+1)=lX ts src k++[(E ts n tz).rows.toNat]):=by show _=_;rw[IE];unfold qp;rw[Xv,show (E src k 0).toNat=n by rw[hn];rfl]
   have MR:=Zh (by rw[jQ,show (E src k 0).toNat=n by rw[hn];rfl]:bT ts src (k+1)=bT ts src k++(List.range (E ts n tz).aL.toNat).map λm=>(k,(E ts n tz).kd m))
   have Fb:Qn (∀m,(bT ts src k++((List.range (m+1)).map λm=>(k,(E ts n tz).kd m))).flatMap iL=(bT ts src k++((List.range m).map λm=>(k,(E ts n tz).kd m))).flatMap iL++iL (k,(E ts n tz).kd m)):=λm=>by have:=RF ts src k m;rw[show (E src k 0).toNat=n by rw[hn];rfl]at this;exact this
   have pJ:Qn (N (bT ts src k)<=4*k):=yf zJ.o.cat zJ.o.src bM k X;have eO:=Zh (mW ts src k);unfold dK at bN;rw[Zf]at bN;obtain⟨fM,fO,dX,fP,dY⟩:=bN;have Ve:=Zh dY;clear dU eH dV dW hn dY;generalize bT ts src k=CK,E ts n tz=t at*;obtain⟨R,hR⟩:=XR dX;obtain⟨cn,df⟩:=XR (show 0<=t.aL by omega);rw[hR]at c1 fP;rw[df]at c0 fM fO;rw[hR,Xv]at Yh;rw[df,Xv]at MR Ve;obtain⟨wb,dh,aa,di⟩:=bC wr #[I J (cn:Int),I J (R:Int),I J t.k0,I J t.k1,I J t.k2,I J t.k3] 48;have b1:=di.at 1;clear hR df dX;obtain⟨ra,rm,rc,rfl⟩:=Xh Nz.o;have aT:=HG.o.of (aa.block _ HG.o.lt);have eP:=aT.at 10;have aV:=XM Nz.o aa;have dE:=ZN vJ.o.size aa.size;obtain⟨v',w5,xO,tQ,aN,⟨va,vm,vc,rfl⟩,ag⟩:=Ke wb (M (H w3)) (Z ra rm rc) (lX ts src k) aV (by rw[eO.o];omega) dE R 79;rw[<-Yh.o]at tQ;obtain⟨g5,gY,oY,kY⟩:=vW Tryz.Kc aT aV tQ aN ag 10;have f5:=g5.at 10;have z5:=g5.frozen 10;obtain⟨Yq,hY⟩:=eX (Qo w5 (aD (M (H l)) 10) (Z va vm vc));rw[hY]at gY oY kY;have dF:GB Yq (M (H l)) 82 #[Z (O (aD sb so)) (N src) sc,Z cK (N y) A,Qr group,Z D (N d) G,Z L (N j) P,Z Q (N aU) W,Z da (N ord) dc,cv,I Qq (S:Int),I Qq (C:Int),Z va vm vc,Z Qs 0 0,Z Qs 0 0]:=gY;have bO:M (H wr)≠M (H l):=Qk HG.o.lt;have bP:∀b,(Value.slice ra rm rc).ownBlock=O b->M (H w3)<=b/\b<M (H wr):=λb h=>Xg Nz.o h;have bQ:=di.keep kY ⟨bO,λe=>Qk ((bP _ e).2)⟩;obtain⟨dm,dw⟩:=aS ((vJ.o.trans (ZP aa (λb hb _=>hb))).trans' kY (λb hb h=>⟨h,λe=>Qk ((bP _ e).1)⟩)) (Xf (XM nG.o aa) kY (λg hg=>⟨λe=>mD Tryz.Pp (XM nG.o aa) aT (by rw[hg,e]),vV Tryz.adM (XM nG.o aa) aV hg⟩));have y0:=bQ.at 0;have U3:=hd bQ;have bR:Qn _:=dF;have bS:Qn _:=oY;have eQ:Qn _:=bO;clear gY dF oY kY bQ bP tQ aN ag aV aT g5 di Nz nG HG Yh dE vJ bO;go_wp2_with (first|(at_builtin;refine Xz rfl (.tmp 36) (.tmp 40) 79 rfl (Z ra rm rc) (Z (O (aD (M (H wb)) 0)) 1 1) (Z va vm vc) w5 rfl rfl xO ?_));clear xO;go_wp2;clear hY dh f5 z5 eP b1 aa;obtain⟨w9,fQ⟩:=eY (wr)
   subst fQ;go_loopw [48] (λjv wx=>∃m:Nat,m<=cn/\jv=I J m/\∃cx,Qn (GB wx (M (H l)) 82 #[Z (O (aD sb so)) (N src) sc,Z cK (N y) A,Qr group,Z D (N d) G,Z L (N j) P,Z Q (N aU) W,Z da (N ord) dc,cx,I Qq (S:Int),I Qq (C:Int),Z va vm vc,Z Qs 0 0,Z Qs 0 0])/\Qn (wx.ownsRow (M (H w3)) 121 2 cx (N CK+m) ((CK++((List.range m).map λm=>(k,t.kd m))).flatMap iL))/\Qn (wx.ownsRow (M (H w3)) 37 1 (Z va vm vc) (N (lX ts src (k+1))) ((lX ts src (k+1)).map λ(x:Nat)=>I Qq (x:Int)))/\Qn (Kept (λb=>b≠M (H l)) w3 wx)/\Qn (GB wx (M (H w9)) 48 #[I J (cn:Int),I J (R:Int),I J t.k0,I J t.k1,I J t.k2,I J t.k3])) (λjv _=>cn-(intOf jv).toNat)
   case atStart=>exact⟨0,ZB _,rfl,cv,bR.o,by show Qn _;rw[List.range_zero,List.map_nil,X0];exact dw.o,bS.o,dm.o,U3.o⟩
   case round=>
    obtain⟨m,hm,rfl,cx,aO,ak,Vf,J2,bI⟩:=hrel;by_cases Tu:m<cn
    .obtain⟨fT,dZ⟩:=Ve.o m Tu;have eT:=akr bI.o (m:=m) X;obtain⟨kn,ed⟩:=XR (show 0<=t.kd m by omega);have qD:=Zh (Fb.o m);rw[ed]at eT dZ qD;clear fT ed;obtain⟨ca,cm,cc,rfl⟩:=Xh ak.o;have f7:=aO.o.at 7;have eU:=J2.o.size;obtain⟨v',w5,xO,tQ,aN,⟨na,nm,nc,rfl⟩,ag⟩:=Yk wr (M (H w3)) (Z ca cm cc) (N CK+m) _ ak.o (Qk pJ.o) eU k (kn:Int) 76;rw[<-qD.o]at tQ;obtain⟨g5,gZ,oZ,kZ⟩:=vW Tryz.Pp aO.o ak.o tQ aN ag 7;have f5:=g5.at 7;have z5:=g5.frozen 7;obtain⟨Zq,hZ⟩:=eX (Qo w5 (aD (M (H l)) 7) (Z na nm nc))
     rw[hZ]at gZ oZ kZ;have eZ:=hd gZ;have fe:Qn _:=oZ;have dG:=λb h=>Xg ak.o (g:=b) h;obtain⟨fU,fV,fZ⟩:=jX (bI.o.keep kZ ⟨eQ.o,mD Tryz.akq ak.o bI.o⟩) (Xf Vf.o kZ (λg hg=>⟨λe=>mD Tryz.Kc Vf.o aO.o (by rw[hg,e]),λe=>vV Tryz.adM ak.o Vf.o e hg⟩)) (J2.o.trans' kZ (λb hb h=>⟨h,λe=>Qk ((dG _ e).1)⟩));clear gZ oZ kZ aN ag g5 tQ dG qD aO ak Vf J2 bI bR dw bS dm U3 MR;go_wp2_with (first|(at_builtin;refine Xz rfl (.tmp 53) (.tmp 58) 76 rfl (Z ca cm cc) (Z (O (aD (M (H wr)) 0)) 1 1) (Z na nm nc) w5 rfl rfl xO ?_));clear xO;go_wp2;go_roundw
     case rel=>exact⟨m+1,X,Qe,Z na nm nc,eZ.o,fe.o,fV.o,fZ.o,fU.o⟩
     case measure=>exact XK
    .obtain rfl:m=cn:=X
     clear bR dw bS dm U3 Fb;go_wp2;go_roundw
     case rel=>
      refine⟨k+1,X,Qe,cx,Z va vm vc,aO.o,?_,Vf.o,J2.o⟩;have h:=ak.o;have e:=Zh MR.o;show Qn _;rw[e.o,ZG,ZH,ZI];exact h
     case measure=>exact XK
  .obtain rfl:k=N src:=X
   obtain⟨w4,gm⟩:=eY (wr);subst gm;have pJ:Qn (N (bT ts src (N src))<=4*N src):=yf zJ.o.cat zJ.o.src bM (N src) (Za _);obtain⟨ca,cc,rfl,-⟩:=Al nG.o (Qk pJ.o);obtain⟨ra,rc,rfl,-⟩:=oG Nz.o (by rw[mW];omega);rw[mW]at HG Nz;obtain⟨CL,Pg⟩:=eY (aB ts ⟨⟨sa,sc,src⟩,cK,A,y,group,⟨D,G,d⟩,⟨L,P,j⟩,⟨Q,W,aU⟩,⟨da,dc,ord⟩⟩);obtain⟨PL,dx⟩:=eY (tO ts ⟨⟨sa,sc,src⟩,cK,A,y,group,⟨D,G,d⟩,⟨L,P,j⟩,⟨Q,W,aU⟩,⟨da,dc,ord⟩⟩);obtain⟨ek,eu⟩:=aS Pg dx;have Tv:Qn (N CL=N y):=by rw[Pg];exact XC ts ⟨⟨sa,sc,src⟩,cK,A,y,group,⟨D,G,d⟩,⟨L,P,j⟩,⟨Q,W,aU⟩,⟨da,dc,ord⟩⟩
   have Tw:Qn (N PL=N y):=by rw[dx];exact DJ ts ⟨⟨sa,sc,src⟩,cK,A,y,group,⟨D,G,d⟩,⟨L,P,j⟩,⟨Q,W,aU⟩,⟨da,dc,ord⟩⟩
   clear Pg dx;have bU:Qn (∀x,Kept (λb=>b≠M (H l)) w4 x->fK x ca (bT ts src (N src))):=λx hk=>by obtain⟨a,c,e,h⟩:=Al (Xf nG.o hk (λg hg e=>mD Tryz.Pp nG.o HG.o (by rw[hg,e]))) (Qk pJ.o);cases e;exact h
   have n1:=cB aH jJ;clear aH q0 hk bL;go_wp2;go_loopw [66] (λiv wr=>∃i:Nat,i<=N y/\iv=I J i/\∃nv pv,Qn (GB wr (M (H l)) 82 #[Z sa (N src) sc,Z cK (N y) A,Qr group,Z D (N d) G,Z L (N j) P,Z Q (N aU) W,Z da (N ord) dc,Z ca (N (bT ts src (N src))) cc,I Qq (S:Int),I Qq (C:Int),Z ra (N src) rc,nv,pv])/\Qn (wr.ownsRow (M (H w4)) 78 1 (nv) (N (CL.take i)) ((CL.take i).map λ(x:Nat)=>I Qq (x:Int)))/\Qn (wr.ownsRow (M (H w4)) 37 1 (pv) (N (PL.take i)) ((PL.take i).map λ(x:Nat)=>I Qq (x:Int)))/\Qn (Kept (λb=>b≠M (H l)) w4 wr)) (λiv _=>N y-(intOf iv).toNat)
   case atStart=>exact⟨0,ZB _,rfl,Z Qs 0 0,Z Qs 0 0,HG.o,Xm _ _ _ _,Xm _ _ _ _,ZO _ _⟩
   case round=>
    obtain⟨i,hi,rfl,nv,pv,aC,Kg,Wd,aF⟩:=hrel;have Yl:=sK.o wr (vJ.o.trans aF.o);by_cases Dh:i<N y
    .obtain⟨cb,co,gp,eB⟩:=Q0 (HQ.o.below Yl).wh.2.1 Dh;have aW:Qp wr (aD cb (co+i))=O ((E y i lz).val):=eB i Dh;obtain⟨ai,Kh⟩:=eY (E y i lz)
     have bV:bE wr ai.ad ai.cs:=by rw[Kh];exact(HQ.o.below Yl).wh.2.2 i Dh
     have aI:bE l ai.ad ai.cs:=by rw[Kh];exact HQ.o.wh.2.2 i Dh
     have mq:gB ts ⟨⟨sa,sc,src⟩,cK,A,y,group,⟨D,G,d⟩,⟨L,P,j⟩,⟨Q,W,aU⟩,⟨da,dc,ord⟩⟩ (bX ai.cs):=by rw[Kh];exact zJ.o.aL i Dh
     have au:0<N ai.cs:=by rw[Kh];exact zJ.o.some i Dh
     have dH:=Zh (by  rw[ek.o,Kh];exact xW ts ⟨⟨sa,sc,src⟩,cK,A,y,group,⟨D,G,d⟩,⟨L,P,j⟩,⟨Q,W,aU⟩,⟨da,dc,ord⟩⟩ Dh:E CL i 0=bD (dn ts src ai.cs))
     have dI:=Zh (by  rw[eu.o,Kh];exact xX ts ⟨⟨sa,sc,src⟩,cK,A,y,group,⟨D,G,d⟩,⟨L,P,j⟩,⟨Q,W,aU⟩,⟨da,dc,ord⟩⟩ Dh:E PL i 0=iV ts src ai.cs)
     rw[<-Kh]at aW;clear Kh eB;subst gp;obtain⟨ad,aj,cs⟩:=ai;unfold aG.val at aW;simp only at aW bV aI mq au dH dI;obtain⟨w8,gq⟩:=eY (wr);subst gq;obtain⟨xa,xm,xc,rfl⟩:=Xh Kg.o;obtain⟨pa,pm,pc,rfl⟩:=Xh Wd.o;obtain⟨wb,dh,aa,eD⟩:=bC w8 #[Z ad (N cs) aj] 70;have aJ:=eD.at 0;obtain⟨B,av,ax,dz⟩:=sU (aC.o.of (aa.block _ aC.o.lt)) (XM Kg.o aa) (XM Wd.o aa) (aF.o.trans (ZP aa (λb hb _=>hb)));have dJ:Qn (M (H w8)≠M (H l)):=λe=>Qk aC.o.lt;have Ym:Qn (M (H w8)≠M (H l)/\(Value.slice xa xm xc).ownBlock≠O (M (H w8))):=⟨dJ.o,λe=>Qk ((Xg Kg.o e).2)⟩;have fo:Qn ((Value.slice pa pm pc).ownBlock≠O (M (H w8))):=λe=>Qk ((Xg Wd.o e).2);have fq:Qn _:=bE.below aa bV;have fu:=hd aI;have dL:Qn _:=mq;obtain⟨gu,gy,gD⟩:=jX au (Em (by rw[Tv.o];exact Dh)) (Em (by rw[Tw.o];exact Dh));generalize E CL i 0=cgi,E PL i 0=pgi at*;have dM:Qn (∀x,Bw wb x->Cb 49 #[Qu #[Z sa (N src) sc,Z (O (aD cb co)) (N y) A,Qr group,Z D (N d) G,Z L (N j) P,Z Q (N aU) W,Z da (N ord) dc,Z ca (N (bT ts src (N src))) cc,I Qq (S:Int),I Qq (C:Int),Z ra (N src) rc,Z xa xm xc,Z pa pm pc],Qu #[Z ad (N cs) aj]] x (I Qq ((cgi:Nat):Int))):=λx hx=>by have h:=Fp ⟨ca,cc,ra,rc,xa,xm,xc,pa,pm,pc⟩ ts ⟨⟨sa,sc,src⟩,O (aD cb co),A,y,group,⟨D,G,d⟩,⟨L,P,j⟩,⟨Q,W,aU⟩,⟨da,dc,ord⟩⟩ ad aj cs x zJ.o (bU.o x (dz.o.trans (ZP hx (λb hb _=>hb)))) (bE.below hx (fq.o)) dL.o;simp only[ay.cells,ah.val,gz]at h;rw[<-HS.o,<-cz.o]at h;rw[dH.o];exact h
     have aX:Qn (∀w6,Bw wb w6->∃ya ym yc w7,(Builtin.append_ #[80,80] 80 #[Z xa xm xc,Z (O (aD (M (H w6)) 0)) 1 1]).run V (w6.alloc (Qt #[I Qq ((cgi:Nat):Int)] 78))=.ok (Z ya ym yc) w7/\Kept (λb=>b≠M (H l)/\(Value.slice xa xm xc).ownBlock≠O b) wb w7/\
       Qp w7 (aD (M (H l)) 11)=O (Z xa xm xc)/\w7.frozen? (aD (M (H l)) 11)=F/\Kept (λb=>b≠M (H l)/\(Value.slice xa xm xc).ownBlock≠O b) wb (Qo w7 (aD (M (H l)) 11) (Z ya ym yc))/\∃nx,GB (Qo w7 (aD (M (H l)) 11) (Z ya ym yc)) (M (H l)) 82 #[Z sa (N src) sc,Z (O (aD cb co)) (N y) A,Qr group,Z D (N d) G,Z L (N j) P,Z Q (N aU) W,Z da (N ord) dc,Z ca (N (bT ts src (N src))) cc,I Qq (S:Int),I Qq (C:Int),Z ra (N src) rc,nx,Z pa pm pc]/\(Qo w7 (aD (M (H l)) 11) (Z ya ym yc)).ownsRow (M (H w4)) 78 1 (nx) (N (CL.take (i+1))) ((CL.take (i+1)).map λ(x:Nat)=>I Qq (x:Int))/\(Qo w7 (aD (M (H l)) 11) (Z ya ym yc)).ownsRow (M (H w4)) 37 1 (Z pa pm pc) (N (PL.take i)) ((PL.take i).map λ(x:Nat)=>I Qq (x:Int))/\Kept (λb=>b≠M (H l)) w4 (Qo w7 (aD (M (H l)) 11) (Z ya ym yc))/\Qp (Qo w7 (aD (M (H l)) 11) (Z ya ym yc)) (aD (M (H w8)) 0)=O (Z ad (N cs) aj)):=λw6 r=>by have g6:=B.o.of (r.block _ B.o.lt);have o6:=XM av.o r;have k6:Kept (λ_=>True) wb w6:=ZP r (λb hb _=>hb);obtain⟨v',w7,Ed,Sn,lZ,⟨ya,ym,yc,rfl⟩,ag⟩:=Yj w6 (M (H w4)) (Z xa xm xc) (CL.take i) o6 (by rw[XT];have:=Tv.o;omega) (ZN dz.o.size r.size) cgi 80;rw[<-gy.o]at Sn;obtain⟨g7,gZ,oZ,kZ⟩:=vW Tryz.adL g6 o6 Sn lZ ag 11;refine⟨ya,ym,yc,w7,Ed,(k6.mono λ_ _ _=>trivial).trans (lZ.mono λ_ _ h=>h.2),g7.cell 11,g7.frozen 11,(k6.mono λ_ _ _=>trivial).trans kZ,Z ya ym yc,gZ,oZ,Xf (XM ax.o r) kZ (λg hg=>⟨λe=>mD Tryz.Kc (XM ax.o r) g6 (by rw[hg,e]),λe=>vV Tryz.adN o6 (XM ax.o r) e hg⟩),dz.o.trans' ((k6.mono λ_ _ _=>trivial).trans kZ) (λb hb h=>⟨h,λe=>Qk ((Xg av.o e).1)⟩),Xa (cB r aJ) kZ Ym.o⟩
     have fL:=B.o.at 11;have aY:=B.o.at 0;have aZ:=B.o.at 1;have bf:=B.o.at 2;have bg:=B.o.at 3;have bn:=B.o.at 4;have bq:=B.o.at 5;have bu:=B.o.at 6;have bz:=B.o.at 7;have bA:=B.o.at 8;have bB:=B.o.at 9;have bF:=B.o.at 10;have dN:=B.o.at 12;clear eD aa bV aI mq au aC Kg Wd aF Yl HG nG Nz;go_upto_region 16 with fail;clear dh aW;go_cut [66] from 66 to 86 (λiv wx=>iv=I J (i:Int)/\∃nv,GB wx (M (H l)) 82 #[Z sa (N src) sc,Z (O (aD cb co)) (N y) A,Qr group,Z D (N d) G,Z L (N j) P,Z Q (N aU) W,Z da (N ord) dc,Z ca (N (bT ts src (N src))) cc,I Qq (S:Int),I Qq (C:Int),Z ra (N src) rc,nv,Z pa pm pc]/\wx.ownsRow (M (H w4)) 78 1 (nv) (N (CL.take (i+1))) ((CL.take (i+1)).map λ(x:Nat)=>I Qq (x:Int))/\wx.ownsRow (M (H w4)) 37 1 (Z pa pm pc) (N (PL.take i)) ((PL.take i).map λ(x:Nat)=>I Qq (x:Int))/\Kept (λb=>b≠M (H l)) w4 wx/\Qp wx (aD (M (H w8)) 0)=O (Z ad (N cs) aj))
     case first=>
      refine Zo (S:=λx=>Kept (λb=>b≠M (H l)/\(Value.slice xa xm xc).ownBlock≠O b) wb x) Qd (ZP ((Q9 _ _).drew) (λb hb _=>hb)) (λz=>?_);refine wt 0 (Y (O (aD (M (H l)) 11))) z ?_;refine wT 3 (Qu #[Z ad (N cs) aj]) z (λx hx=>?_) ?_
      .have e0:=Xa aJ hx Ym.o;go_simp
      repeat' first
       |(first|refine kJ 1 2 (λK u=>?_) λK u=>?_|refine kJ 1 4 (λK u=>?_) λK u=>?_|refine kJ 1 5 (λK u=>?_) λK u=>?_|refine kR 1 λK u=>?_|refine kR 2 λK u=>?_|refine kR 4 λK u=>?_|refine kR 5 λK u=>?_|refine kR 6 λK u=>?_|refine kR 7 λK u=>?_|refine kR 8 λK u=>?_) <;> (first|(obtain⟨ya,ym,yc,w7,Ed,bJ,f7,z7,bK,dA⟩:=aX.o w6 r;refine step_append Qi _ _ _ Qi (Z xa xm xc) (Z (O (aD (M (H w6)) 0)) 1 1) (Z ya ym yc) w7 Qi Qi Ed ?_;refine u.o _ _ bJ λz=>?_;clear u K Ed)|(go_simp;(first|refine u.o _ _ z λz=>?_|refine u.o _ _ bK λz=>?_|(have fw:Qp (w6.alloc (Qt #[I Qq (cgi:Int)] 78)) (aD (M (H l)) 11)=O (Z xa xm xc):=cB (cZ _ _) f6;refine u.o _ _ (z.trans (ZT _ _)) λz=>?_)|(refine XX (dM.o _ ((Q9 _ _).drew)) ?_;rintro e w6 ⟨rfl,r⟩;have r:Bw wb w6:=((Q9 _ _).drew).trans r;have f6:=cB r fL;refine u.o _ _ (ZP r (λb hb _=>hb)) λz=>?_));clear u K))
       |refine kD ?_;(try simp only[pU]);go_wp2_with fail;go_meet;exact⟨rfl,dA⟩
     case rest=>
      obtain⟨rfl,nv,h1,h2,h3,h4,h5⟩:=hcut;obtain⟨wd,gF⟩:=eY (wc);subst gF;clear aX dM B av ax aY aZ bf bg bn bq bu bz bA bB bF dN fL Ym;obtain⟨na,nm,nc,rfl⟩:=Xh h2;have B:=hd h1;have av:=hd h2;have ax:=hd h3;have aJ:=h5;have bG:=hd h4;clear h1 h2 h3 h4 h5;obtain⟨gG,gH⟩:=aS (bE.below (sK.o wd (vJ.o.trans bG.o)) fu.o) fo.o;obtain⟨xa,ha⟩:=eY (pa);obtain⟨xm,hm⟩:=eY (pm);obtain⟨xc,hc⟩:=eY (pc);subst ha hm hc;have fA:Qn (∀x,Bw wd x->Cb 50 #[Qu #[Z sa (N src) sc,Z (O (aD cb co)) (N y) A,Qr group,Z D (N d) G,Z L (N j) P,Z Q (N aU) W,Z da (N ord) dc,Z ca (N (bT ts src (N src))) cc,I Qq (S:Int),I Qq (C:Int),Z ra (N src) rc,Z na nm nc,Z xa xm xc],Qu #[Z ad (N cs) aj]] x (I Qq ((pgi:Nat):Int))):=λx hx=>by have h:=MQ ⟨ca,cc,ra,rc,na,nm,nc,xa,xm,xc⟩ ts ⟨⟨sa,sc,src⟩,O (aD cb co),A,y,group,⟨D,G,d⟩,⟨L,P,j⟩,⟨Q,W,aU⟩,⟨da,dc,ord⟩⟩ ad aj cs x zJ.o (bU.o x (bG.o.trans (ZP hx (λb hb _=>hb)))) (bE.below hx (gG.o)) gu.o dL.o;simp only[ay.cells,ah.val,gz]at h;rw[<-HS.o,<-cz.o]at h;rw[dI.o];exact h
      have aX:Qn (∀w6,Bw wd w6->∃ya ym yc w7,(Builtin.append_ #[79,79] 79 #[Z xa xm xc,Z (O (aD (M (H w6)) 0)) 1 1]).run V (w6.alloc (Qt #[I Qq ((pgi:Nat):Int)] 37))=.ok (Z ya ym yc) w7/\Kept (λb=>b≠M (H l)/\(Value.slice xa xm xc).ownBlock≠O b) wd w7/\
        Qp w7 (aD (M (H l)) 12)=O (Z xa xm xc)/\w7.frozen? (aD (M (H l)) 12)=F/\Kept (λb=>b≠M (H l)/\(Value.slice xa xm xc).ownBlock≠O b) wd (Qo w7 (aD (M (H l)) 12) (Z ya ym yc))/\∃nx,GB (Qo w7 (aD (M (H l)) 12) (Z ya ym yc)) (M (H l)) 82 #[Z sa (N src) sc,Z (O (aD cb co)) (N y) A,Qr group,Z D (N d) G,Z L (N j) P,Z Q (N aU) W,Z da (N ord) dc,Z ca (N (bT ts src (N src))) cc,I Qq (S:Int),I Qq (C:Int),Z ra (N src) rc,Z na nm nc,nx]/\(Qo w7 (aD (M (H l)) 12) (Z ya ym yc)).ownsRow (M (H w4)) 78 1 (Z na nm nc) (N (CL.take (i+1))) ((CL.take (i+1)).map λ(x:Nat)=>I Qq (x:Int))/\(Qo w7 (aD (M (H l)) 12) (Z ya ym yc)).ownsRow (M (H w4)) 37 1 (nx) (N (PL.take (i+1))) ((PL.take (i+1)).map λ(x:Nat)=>I Qq (x:Int))/\Kept (λb=>b≠M (H l)) w4 (Qo w7 (aD (M (H l)) 12) (Z ya ym yc))):=λw6 r=>by have g6:=B.o.of (r.block _ B.o.lt);have o6:=XM ax.o r;have k6:Kept (λ_=>True) wd w6:=ZP r (λb hb _=>hb);obtain⟨v',w7,Ed,Sn,lZ,⟨ya,ym,yc,rfl⟩,ag⟩:=Ke w6 (M (H w4)) (Z xa xm xc) (PL.take i) o6 (by rw[XT];have:=Tw.o;omega) (ZN bG.o.size r.size) pgi 79;rw[<-gD.o]at Sn;obtain⟨g7,gZ,oZ,kZ⟩:=vW Tryz.Kc g6 o6 Sn lZ ag 12;refine⟨ya,ym,yc,w7,Ed,(k6.mono λ_ _ _=>trivial).trans (lZ.mono λ_ _ h=>h.2),g7.cell 12,g7.frozen 12,(k6.mono λ_ _ _=>trivial).trans kZ,Z ya ym yc,gZ,Xf (XM av.o r) kZ (λg hg=>⟨λe=>mD Tryz.adL (XM av.o r) g6 (by rw[hg,e]),λe=>vV Tryz.adN (XM av.o r) o6 hg e⟩),oZ,bG.o.trans' ((k6.mono λ_ _ _=>trivial).trans kZ) (λb hb h=>⟨h,λe=>Qk ((Xg ax.o e).1)⟩)⟩
      have fL:=B.o.at 12;have Ym:Qn (M (H w8)≠M (H l)/\(Value.slice xa xm xc).ownBlock≠O (M (H w8))):=⟨dJ.o,gH.o⟩;have aY:=B.o.at 0;have aZ:=B.o.at 1;have bf:=B.o.at 2;have bg:=B.o.at 3;have bn:=B.o.at 4;have bq:=B.o.at 5;have bu:=B.o.at 6;have bz:=B.o.at 7;have bA:=B.o.at 8;have bB:=B.o.at 9;have bF:=B.o.at 10;have dO:=B.o.at 11;go_upto_region 17 with fail;refine Zo (S:=λx=>Kept (λb=>b≠M (H l)/\(Value.slice xa xm xc).ownBlock≠O b) wd x) Qd (ZP ((Q9 _ _).drew) (λb hb _=>hb)) (λz=>?_);refine wt 0 (Y (O (aD (M (H l)) 12))) z ?_;refine wT 3 (Qu #[Z ad (N cs) aj]) z (λx hx=>?_) ?_
      .have e0:=Xa aJ hx Ym.o;go_simp
      repeat' first
       |(first|refine kJ 1 2 (λK u=>?_) λK u=>?_|refine kJ 1 4 (λK u=>?_) λK u=>?_|refine kJ 1 5 (λK u=>?_) λK u=>?_|refine kR 1 λK u=>?_|refine kR 2 λK u=>?_|refine kR 4 λK u=>?_|refine kR 5 λK u=>?_|refine kR 6 λK u=>?_|refine kR 7 λK u=>?_|refine kR 8 λK u=>?_) <;> (first|(obtain⟨ya,ym,yc,w7,Ed,bJ,f7,z7,bK,dA⟩:=aX.o w6 r;refine step_append Qi _ _ _ Qi (Z xa xm xc) (Z (O (aD (M (H w6)) 0)) 1 1) (Z ya ym yc) w7 Qi Qi Ed ?_;refine u.o _ _ bJ λz=>?_;clear u K Ed)|(go_simp;(first|refine u.o _ _ z λz=>?_|refine u.o _ _ bK λz=>?_|(have fw:Qp (w6.alloc (Qt #[I Qq (pgi:Int)] 37)) (aD (M (H l)) 12)=O (Z xa xm xc):=cB (cZ _ _) f6;refine u.o _ _ (z.trans (ZT _ _)) λz=>?_)|(refine XX (fA.o _ ((Q9 _ _).drew)) ?_;rintro e w6 ⟨rfl,r⟩;have r:Bw wd w6:=((Q9 _ _).drew).trans r;have f6:=cB r fL;refine u.o _ _ (ZP r (λb hb _=>hb)) λz=>?_));clear u K))
       |refine kD ?_;(try simp only[pU])
        obtain⟨nx,r1,r2,r3,r4⟩:=dA;have fB:Qn _:=r1;have fC:Qn _:=r2;have fD:Qn _:=r3;have fE:=Zh r4;clear r1 r2 r3 r4 f7 z7 bK bJ f6 aJ z fL aY aZ bf bg bn bq bu bz bA bB bF dO;go_wp2;go_roundw
        case rel=>exact⟨i+1,X,Qe,Z na nm nc,nx,fB.o,fC.o,fD.o,fE.o⟩
        case measure=>exact XK
    .obtain rfl:i=N y:=X
     obtain⟨w5,uC⟩:=eY (wr);subst uC;rw[XQ (by rw[Tv.o];exact Za _)]at Kg;rw[XQ (by rw[Tw.o];exact Za _)]at Wd;obtain⟨na,nc,rfl,gI⟩:=oG Kg.o (by rw[Tv.o];omega);obtain⟨pa,pc,rfl,P9⟩:=oG Wd.o (by rw[Tw.o];omega);have dP:=aC.o;have tu:=(show GB l (M (H w1)) 82 #[Z Qs 0 0,Z Qs 0 0,Qr F,Z Qs 0 0,Z Qs 0 0,Z Qs 0 0,Z Qs 0 0,Z Qs 0 0,I Qq 0,I Qq 0,Z Qs 0 0,Z Qs 0 0,Z Qs 0 0] from si.o).of (Yl.block _ (show GB l (M (H w1)) 82 #[Z Qs 0 0,Z Qs 0 0,Qr F,Z Qs 0 0,Z Qs 0 0,Z Qs 0 0,Z Qs 0 0,Z Qs 0 0,I Qq 0,I Qq 0,Z Qs 0 0,Z Qs 0 0,Z Qs 0 0] from si.o).lt);have gM:=(show GB l (M (H w1)) 82 #[Z Qs 0 0,Z Qs 0 0,Qr F,Z Qs 0 0,Z Qs 0 0,Z Qs 0 0,Z Qs 0 0,Z Qs 0 0,I Qq 0,I Qq 0,Z Qs 0 0,Z Qs 0 0,Z Qs 0 0] from si.o).lt;have aK:=World.qg w5 (M (H w1)) (Z sa (N src) sc) (Z cK (N y) A) (Qr group) (Z D (N d) G) (Z L (N j) P) (Z Q (N aU) W) (Z da (N ord) dc) (Z ca (N (bT ts src (N src))) cc) (I Qq (S:Int)) (I Qq (C:Int)) (Z ra (N src) rc) (Z na (N CL) nc) (Z pa (N PL) pc);have Fs:=Zh (sJ (World.xz tu (Z sa (N src) sc) (Z cK (N y) A) (Qr group) (Z D (N d) G) (Z L (N j) P) (Z Q (N aU) W) (Z da (N ord) dc) (Z ca (N (bT ts src (N src))) cc) (I Qq (S:Int)) (I Qq (C:Int)) (Z ra (N src) rc) (Z na (N CL) nc) (Z pa (N PL) pc)));have aA:∀{e:TypeId} {base sz n:Nat} {v:Qm} {xs:Qy Qm},M (H l)<=base->w5.ownsRow base e sz v n xs->(World.lN w5 (M (H w1)) (Z sa (N src) sc) (Z cK (N y) A) (Qr group) (Z D (N d) G) (Z L (N j) P) (Z Q (N aU) W) (Z da (N ord) dc) (Z ca (N (bT ts src (N src))) cc) (I Qq (S:Int)) (I Qq (C:Int)) (Z ra (N src) rc) (Z na (N CL) nc) (Z pa (N PL) pc)).ownsRow base e sz v n xs:=λhb h=>Xf h aK (λg hg e=>Qk ((Xg h hg).1));have gN:=vJ.o.size;have gP:=fI.o;have bW:Bw w (World.lN w5 (M (H w1)) (Z sa (N src) sc) (Z cK (N y) A) (Qr group) (Z D (N d) G) (Z L (N j) P) (Z Q (N aU) W) (Z da (N ord) dc) (Z ca (N (bT ts src (N src))) cc) (I Qq (S:Int)) (I Qq (C:Int)) (Z ra (N src) rc) (Z na (N CL) nc) (Z pa (N PL) pc)):=by have h1:=dS.o.trans (Yl.mono dS.o.size);exact h1.trans (aK.below h1.size (λb hb=>X))
     have jK:Qn (∃f:ay,Ending.returned (Qu #[Z sa (N src) sc,Z cK (N y) A,Qr group,Z D (N d) G,Z L (N j) P,Z Q (N aU) W,Z da (N ord) dc,Z ca (N (bT ts src (N src))) cc,I Qq (S:Int),I Qq (C:Int),Z ra (N src) rc,Z na (N CL) nc,Z pa (N PL) pc])=Qv (Qu (f.cells ts ⟨⟨sa,sc,src⟩,cK,A,y,group,⟨D,G,d⟩,⟨L,P,j⟩,⟨Q,W,aU⟩,⟨da,dc,ord⟩⟩))/\f.At ts ⟨⟨sa,sc,src⟩,cK,A,y,group,⟨D,G,d⟩,⟨L,P,j⟩,⟨Q,W,aU⟩,⟨da,dc,ord⟩⟩ (World.lN w5 (M (H w1)) (Z sa (N src) sc) (Z cK (N y) A) (Qr group) (Z D (N d) G) (Z L (N j) P) (Z Q (N aU) W) (Z da (N ord) dc) (Z ca (N (bT ts src (N src))) cc) (I Qq (S:Int)) (I Qq (C:Int)) (Z ra (N src) rc) (Z na (N CL) nc) (Z pa (N PL) pc))/\f.New (M (H w))/\Bw w (World.lN w5 (M (H w1)) (Z sa (N src) sc) (Z cK (N y) A) (Qr group) (Z D (N d) G) (Z L (N j) P) (Z Q (N aU) W) (Z da (N ord) dc) (Z ca (N (bT ts src (N src))) cc) (I Qq (S:Int)) (I Qq (C:Int)) (Z ra (N src) rc) (Z na (N CL) nc) (Z pa (N PL) pc))):=by
      refine⟨⟨ca,cc,ra,rc,na,N CL,nc,pa,N PL,pc⟩,?_,⟨?_,?_,?_,?_,?_,?_,?_⟩,⟨?_,?_,?_,?_⟩,bW⟩
      .simp only[ay.cells,ah.val,gz];rw[<-HS.o,<-cz.o]
      .exact fH.o.below bW
      .have bY:Kept (λb=>b≠M (H l)/\b≠M (H w1)) w4 (World.lN w5 (M (H w1)) (Z sa (N src) sc) (Z cK (N y) A) (Qr group) (Z D (N d) G) (Z L (N j) P) (Z Q (N aU) W) (Z da (N ord) dc) (Z ca (N (bT ts src (N src))) cc) (I Qq (S:Int)) (I Qq (C:Int)) (Z ra (N src) rc) (Z na (N CL) nc) (Z pa (N PL) pc)):=(aF.o.mono λ_ _ h=>h.1).trans (aK.mono λ_ _ h=>h.2);obtain⟨a,c,e,h⟩:=Al (Xf nG.o bY (λg hg=>⟨λe=>mD Tryz.Pp nG.o HG.o (by rw[hg,e]),Qk ((Xg nG.o hg).1)⟩)) (Qk pJ.o)
       cases e;exact h
      .have bY:Kept (λb=>b≠M (H l)/\b≠M (H w1)) w4 (World.lN w5 (M (H w1)) (Z sa (N src) sc) (Z cK (N y) A) (Qr group) (Z D (N d) G) (Z L (N j) P) (Z Q (N aU) W) (Z da (N ord) dc) (Z ca (N (bT ts src (N src))) cc) (I Qq (S:Int)) (I Qq (C:Int)) (Z ra (N src) rc) (Z na (N CL) nc) (Z pa (N PL) pc)):=(aF.o.mono λ_ _ h=>h.1).trans (aK.mono λ_ _ h=>h.2);obtain⟨a,c,e,h⟩:=oG (Xf Nz.o bY (λg hg=>⟨λe=>mD Tryz.Kc Nz.o HG.o (by rw[hg,e]),Qk ((Xg Nz.o hg).1)⟩)) (by rw[mW];omega);rw[mW]at e
       cases e;exact h
      .obtain⟨a,c,e,h⟩:=oG (aA X Kg.o) (by rw[Tv.o];omega)
       cases e;rw[<-ek.o];exact h
      .obtain⟨a,c,e,h⟩:=oG (aA X Wd.o) (by rw[Tw.o];omega)
       cases e;rw[<-eu.o];exact h
      .exact Tv.o
      .exact Tw.o
      .rintro a rfl;have:=(Xg nG.o (g:=a.block) rfl).1;omega
      .rintro a rfl;have:=(Xg Nz.o (g:=a.block) rfl).1;omega
      .rintro a rfl;have:=(Xg Kg.o (g:=a.block) rfl).1;omega
      .rintro a rfl;have:=(Xg Wd.o (g:=a.block) rfl).1;omega
     unfold World.lN at jK Fs;obtain⟨aY,aZ,bf,bg,bn,bq,bu,bz,bA,bB,bF,dO,dN⟩:=dP.k13;obtain⟨iA,iB,iC,iD,iE,iF,iG,iH,iI,iJ,iK,iM,iN⟩:=tu.k13;have gQ:=tu.frozen 0;have gT:=tu.frozen 1;have gU:=tu.frozen 2;have gV:=tu.frozen 3;have gW:=tu.frozen 4;have gX:=tu.frozen 5;have ib:=tu.frozen 6;have ic:=tu.frozen 7;have ig:=tu.frozen 8;have ik:=tu.frozen 9;have il:=tu.frozen 10;have iq:=tu.frozen 11;have iw:=tu.frozen 12;clear dP tu aK aA bW aC Kg Wd aF HG nG Nz gI P9 bU;go_wp2;exact X8 (rZ (p:=4) rfl rfl Fs.o) rfl jK.o
