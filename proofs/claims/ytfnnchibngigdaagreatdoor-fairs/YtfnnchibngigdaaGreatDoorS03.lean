import Derived.Test.YtfnnchibngigdaaGreatDoorS00
set_option linter.all false
set_option maxRecDepth 100000
set_option maxHeartbeats 0
namespace Go.Proofs.Zz
open Go.RowKit Go.Shelf Go.Proofs.Tryz
open List renaming length->N,getD->E
open Go.Value renaming slice->Z,int->I,pointer->Y,bool->Qo
open Go.Proofs.Tryz renaming prog->V
open Option renaming some->O
open Go.IntKind renaming i64->J
open Go renaming World->U,Value->Qa
open Go.World renaming heap->H,setCell->Ql
open _root_.Array renaming size->M
open Go.Obj renaming cells->Qq
variable {jf:U} {G n tA tC tG tS:Nat} {gc:Qa->Qa->Array Qa} {ls:Qu aA}
structure JM(jf w0 w':U)(G tG tC tA tS n:Nat)(gc:Qa->Qa->Qa->Array Qa)(ls:Qu aA)(v:Qa)(A:Nat->Nat)(b1 b2:Nat):Prop where
 jC:Bw jf w'
 zT:∀j,j<M (H w0)->j≠G->w'.heap[j]? = w0.heap[j]?
 xI:M (H w0)<M (H w')
 g:GB w' G tG (gc (Z (O (aD (M (H w0)) 0)) n (n+2)) (Z (O (aD (M (H w0)) 0)) (n+2) (n+2)) v)
 row:w'.rowIs (M (H w0)) tC (n+2) (λi=>if i<n then Z (O (aD (A i) 0)) (E ls i lz).cs.length ((E ls i lz).cs.length+2) else if i=n then Z (O (aD b1 0)) 1 1 else Z (O (aD b2 0)) 1 1)
 al:∀i,i<n->M (H w0)<A i/\GB w' (A i) tS (bN (E ls i lz).cs)
 own:w'.ownsRow (M (H w0)) tA 1 v n ((List.range n).map λi=>Z (O (aD (A i) 0)) ((E ls i lz).cs.length+2) ((E ls i lz).cs.length+2))
 k1:M (H w0)<b1/\GB w' b1 tS ic.toArray
 k2:M (H w0)<b2/\GB w' b2 tS ic.toArray
theorem lH.fin{w0 wr:U}{gc':Qa->Qa->Qa->Array Qa}{v:Qa}{A:Nat->Nat}
  (h:lH jf w0 wr G tG tC tA tS n gc ls n v A) (hgc:∀x y z,(gc y z).setIfInBounds 2 x=gc' x y z) (hG:G<M (H w0)) (NU:M (H jf)<=G) (YN:tA≠tC) :
  JM jf w0 (((Ql (Ql (Ql wr (aD (M (H w0)) n) (Z (O (aD (M (H wr)) 0)) 1 1)) (aD (M (H w0)) (n+1)) (Z (O (aD (M (H wr)+1) 0)) 1 1)) (aD G 2) (Z (O (aD (M (H w0)) 0)) n (n+2))).alloc
   (Qq ic.toArray tS)).alloc (Qq ic.toArray tS)) G tG tC tA tS n gc' ls v A (M (H wr)) (M (H wr)+1):=by
 have Q:=h.xI
 let b:=Ql (Ql (Ql wr (aD (M (H w0)) n) (Z (O (aD (M (H wr)) 0)) 1 1)) (aD (M (H w0)) (n+1)) (Z (O (aD (M (H wr)+1) 0)) 1 1)) (aD G 2) (Z (O (aD (M (H w0)) 0)) n (n+2))
 have d:M (H b)=M (H wr):=by simp[b]
 have f:∀j,j≠G->j≠M (H w0)->b.heap[j]? = wr.heap[j]?:=λj k l=>by show (Ql (Ql (Ql wr (aD (M (H w0)) n) _) (aD (M (H w0)) (n+1)) _) (aD G 2) _).heap[j]? = _;rw[Zv k,Zv l,Zv l]
 have m:∀j,j<M (H wr)->((b.alloc (Qq ic.toArray tS)).alloc (Qq ic.toArray tS)).heap[j]? = b.heap[j]?:=λj r=>by rw[Zw (by simp[d];omega),Zw X]
 have e:∀j,j<M (H wr)->j≠G->j≠M (H w0)->((b.alloc (Qq ic.toArray tS)).alloc (Qq ic.toArray tS)).heap[j]? = wr.heap[j]?:=λj r k l=>(m j r).trans (f j k l);show JM jf w0 ((b.alloc (Qq ic.toArray tS)).alloc (Qq ic.toArray tS)) G tG tC tA tS n gc' ls v A (M (H wr)) (M (H wr)+1);have B:Bw jf b:=((h.jC.setCell (p:=(aD (M (H w0)) n)) Qc _).setCell (p:=(aD (M (H w0)) (n+1))) Qc _).setCell (p:=(aD G 2)) NU _;refine⟨?_,λj r q=>?_,?_,?_,?_,λi K=>?_,?_,⟨X,?_⟩,⟨X,?_⟩⟩
 .have C:=B.alloc B.size (Qq ic.toArray tS);exact C.alloc C.size _
 .rw[e j X q X];exact h.zT j r q
 .grind
 .have k:GB (Ql (Ql wr (aD (M (H w0)) n) (Z (O (aD (M (H wr)) 0)) 1 1)) (aD (M (H w0)) (n+1)) (Z (O (aD (M (H wr)+1) 0)) 1 1)) G tG (gc (Z (O (aD (M (H w0)) 0)) (n+2) (n+2)) v):=
   h.g.of (by rw[Zv Qc,Zv Qc])
  have l:=k.set 2 (Z (O (aD (M (H w0)) 0)) n (n+2));rw[hgc]at l;exact GB.of (w:=b) l (m G X)
 .have k:=((h.row.set n (Z (O (aD (M (H wr)) 0)) 1 1)).set (n+1) (Z (O (aD (M (H wr)+1) 0)) 1 1)).setOther (a:=(aD G 2)) Qc (Z (O (aD (M (H w0)) 0)) n (n+2));refine((k.alloc _).alloc _).congr λi K=>?_
  by_cases P:i<n
  .simp only[Zf (show ¬i=n+1 by omega),Zf (show ¬i=n by omega),Q8 P]
  .by_cases W:i=n
   .simp_all
   .have R:i=n+1:=X
    simp_all
 .have u:=h.al i K;exact⟨u.1,u.2.of (e _ u.2.lt X X)⟩
 .have L:v.ownBlock≠O G:=λt=>Qj (h.own.lt _ t)
  have D:v.ownBlock≠O (M (H w0)):=λt=>by
   obtain⟨c,S,_⟩:=h.row;rcases h.own.2 with⟨rfl,_⟩|⟨g,cap,cur,rfl,_,hh,_⟩
   .simp[Value.ownBlock]at t
   .simp[Value.ownBlock]at t
    simp_all
  exact((Zy (Zy (Zy h.own D _) D _) L _).alloc _).alloc _
 .show ((b.alloc (Qq ic.toArray tS)).alloc (Qq ic.toArray tS)).heap[M (H wr)]? = _
  rw[Zw (by simp[d]),<-d,iB]
 .show ((b.alloc (Qq ic.toArray tS)).alloc (Qq ic.toArray tS)).heap[M (H wr)+1]? = _
  have:M (H wr)+1=M (H (b.alloc (Qq ic.toArray tS))):=by simp[d]
  rw[this,iB]
def lH.start{w:U}{c:Array Qa}
  (hb:Bw jf w) (NU:M (H jf)<=G) (hG:GB w G tG c) (hgc:c.setIfInBounds 11 (Z (O (aD (M (H w)) 0)) (n+2) (n+2))=gc (Z (O (aD (M (H w)) 0)) (n+2) (n+2)) (Z none 0 0)) :
  lH jf w ((Ql w (aD G 11) (Z (O (aD (M (H w)) 0)) (n+2) (n+2))).alloc (Qq (madeCells #[Z none 0 0] (n+2)) tC)) G tG tC tA tS n gc ls 0 (Z none 0 0) (λ_=>0):=by
 have e:=hG.lt;have a:=hb.setCell (p:=(aD G 11)) NU (Z (O (aD (M (H w)) 0)) (n+2) (n+2));refine⟨a.alloc a.size _,λj g d=>?_,Qb,?_,?_,λi f=>absurd f X,Xa _ _ _ _⟩
 .rw[Zw Qg,Zv d]
 .have b:=hG.set 11 (Z (O (aD (M (H w)) 0)) (n+2) (n+2));rw[hgc]at b;exact b.of (Zw Qg)
 .have b:=World.rowIs_made (Ql w (aD G 11) (Z (O (aD (M (H w)) 0)) (n+2) (n+2))) (Z none 0 0) (n+2) tC
  simp_all
def Tryz.Ef:(V.info? 3).map (λi=>(i.zero,i.size,i.bytes))=O (O (I J 0),1,8):=Qe
def sliceAt4(a:Addr)(x:U)(c:Int)(h0:0<=c)(h4:c<=4) :
  (Instr.sliceAt 46 (Y (O a)) none (O (.int J c)) none).run V x=.ok (.slice (O a) c.toNat 4) x:=by have b:V.arrayLen 46=4:=Qe;have d:V.elem 46=3:=Qe;rw[run_sliceAt_array_h x 46 a (by rw[b,d];exact underlying46) J c h0 (by rw[b];omega),b,d];simp[slicedAt,Addr.add]
def isTable_any(t:af)(w:U) :
  Cb 65 #[.agg t.vals] w (Qo (bK t)):=by
 have b:=@uD t;have d:=@mr t;have g:=@sG t;have e:=λm q=>af.D7 w t 48 m q;generalize bK t=B at*;unfold af.vals;by_cases u:t.aO<1∨4<t.aO∨t.rows<0∨1000000<t.rows
 .have f:=Zh ((b u).symm);clear b d g e;go_enter func65,ntmps65;go_wp2
  all_goals
   go_ret;exact⟨QV f.o,bz _ _⟩
 .have y:1<=t.aO:=X
  have z:t.aO<=4:=X;have A:0<=t.rows:=X;have C:t.rows<=1000000:=X;obtain⟨p,k,L⟩:=kH d g e;clear b d g u e;have D:=λ(a:Addr) (x:U)=>sliceAt4 a x t.aO X X;go_enter func65,ntmps65;go_wp2;go_loop [28] (λi=>∃m:Nat,m<=t.aO.toNat/\i=I J m/\Hid (∀j,j<m->1<=t.kd j/\t.kd j<=1000000)) (λi=>t.aO.toNat-(intOf i).toNat)
  case atStart=>exact⟨0,ZP _,rfl,λj l=>absurd l X⟩
  case round=>
   obtain⟨m,q,rfl,r⟩:=hrel;by_cases v:m<t.aO.toNat
   .have G:(m:Int)<t.aO:=X
    have K:=L.o m X;by_cases P:t.kd m<1
    .have f:=Zh ((p.o m v X).symm);go_wp2;go_ret;exact⟨QV f.o,bz _ _⟩
    .by_cases Q:1000000<t.kd m
     .have f:=Zh ((p.o m v X).symm);go_wp2;go_ret;exact⟨QV f.o,bz _ _⟩
     .go_wp2;go_round
      case rel=>
       refine⟨m+1,X,Qf,λj l=>?_⟩;by_cases n:j=m
       .subst n;omega
       .exact r.o j X
      case measure=>exact Qw
   .have G:¬(m:Int)<t.aO:=X
    have f:=Zh ((k.o y z A C (λj l=>r.o j X)).symm);go_wp2;go_ret;exact⟨QV f.o,bz _ _⟩
def isCat1_any(t:af)(w:U) :
  Cb 64 #[.agg t.vals] w (Qo (!bK t)):=by have a:=λx=>isTable_any t x;generalize bK t=B at*;unfold af.vals at*;go_enter func64,ntmps64;go_wp2_with (go_at_call 65;refine(a _).mono ?_;rintro e d ⟨rfl,b⟩);go_ret;exact⟨QV rfl,ah (bz _ _) b⟩
def indexT_any(ao:JW)(cap:Nat)(ts:Qu af)(w:U)(hx:aI w ao ts) :
  Calls V 93 #[Z ao (N ts) cap,.func (.func 64) #[] #[]] w λe L=>∃r,e=.returned (I J r)/\foundAt r (ts.any λt=>!bK t)/\Bw w L:=by
 have P:=hx.1;go_enter func93,ntmps93;go_wp2;go_loopw [8] (λi wr=>∃k:Nat,k<=N ts/\i=I J k/\Hid (∀j,j<k->(!bK (E ts j tz))=false)/\Bw w wr) (λi _=>N ts-(intOf i).toNat)
 case atStart=>exact⟨0,ZP _,rfl,λj l=>absurd l X,Q5 _ _⟩
 case round=>
  obtain⟨k,Q,rfl,q,g⟩:=hrel;by_cases d:k<N ts
  .obtain⟨b,y,rfl,A,B,C,D,G,K⟩:=hx.2 k d;obtain⟨R,S,W,e3,e4,e5⟩:=I7 g A B C D G K;have f:Hid ((!bK (E ts k tz))=true->(ts.any λt=>!bK t)=true):=λh=>yQ (z:=tz) d h
   have p:=isCat1_any (E ts k tz) wr;unfold af.vals at p;generalize n:E ts k tz=t at*;have u:=Zh n;go_wp2_with fail;refine p.mono ?_;rintro e w2 ⟨rfl,a⟩;cases hB:bK t
   .rw[hB]at f;go_wp2;go_ret;exact⟨_,QW rfl,⟨X,by rw[f.o rfl];simp⟩,ah g a⟩
   .have v:=Zh hB;go_wp2;go_roundw
    case rel=>
     refine⟨k+1,X,Qf,λj l=>?_,ah g a⟩;by_cases m:j=k
     .subst m;rw[u.o,v.o];rfl
     .exact q.o j X
    case measure=>exact Qw
  .have f:Hid ((ts.any λt=>!bK t)=false):=any_none (z:=tz) (λj l=>q.o j X);go_wp2;go_ret;exact⟨_,QW rfl,⟨X,by rw[f.o];rfl⟩,g⟩
def containsT_any(ao:JW)(cap:Nat)(ts:Qu af)(w:U)(hx:aI w ao ts) :
  Cb 63 #[Z ao (N ts) cap,.func (.func 64) #[] #[]] w (Qo (ts.any λt=>!bK t)):=by have b:=indexT_any ao cap ts w hx;go_enter func63,ntmps63;go_wp2_with fail;refine b.mono ?_;rintro e g ⟨r,rfl,f,a⟩;have d:=Zh f.2;go_wp2;go_ret;exact⟨QV d.o,a⟩
def isCatalogP_any(ao:JW)(cap:Nat)(ts:Qu af)(w:U)(hx:aI w ao ts) :
  Cb 41 #[Z ao (N ts) cap] w (Qo (bQ ts)):=by
 have i:=hx.1;by_cases b:N ts<1
 .go_enter func41,ntmps41;go_wp2;go_ret;exact⟨QV (uE b),Q5 _ _⟩
 by_cases d:8<N ts
 .go_enter func41,ntmps41;go_wp2;go_ret;exact⟨QV (xG d),Q5 _ _⟩
 have f:=containsT_any ao cap ts w hx;have g:=Zh (Jg b d);generalize (ts.any λt=>!bK t)=Yq at*;go_enter func41,ntmps41;go_wp2_with fail;refine f.mono ?_;rintro e j ⟨rfl,a⟩;go_wp2;go_ret;exact⟨QV g.o,a⟩
def isBelow_any(n b:Int)(w:U) :
  Ce 97 #[I J n,I J b] w (Qo (rq n b)):=by
 by_cases a:0<=n
 .go_enter func97,ntmps97;go_wp2;go_ret;exact⟨QV (by simp[rq];omega),rfl⟩
 .go_enter func97,ntmps97;go_wp2;go_ret;exact⟨QV (by simp[rq];omega),rfl⟩
def isNumber_any(n:Int)(w:U) :
  Ce 111 #[I J n] w (Qo (decide (-1000<=n)&&decide (n<=1000))):=by
 by_cases a:-1000<=n
 .go_enter func111,ntmps111;go_wp2;go_ret;exact⟨QV Qi,rfl⟩
 .go_enter func111,ntmps111;go_wp2;go_ret;exact⟨QV Qi,rfl⟩
def allBelow1_any(n b:Int)(p o:Nat)(w:U)(hp:w.cell? (aD p o)=O (I J b)) :
  Ce 96 #[I J n,Y (O (aD p o))] w (Qo (!rq n b)):=by have a:=isBelow_any n b w;generalize rq n b=Yq at*;go_enter func96,ntmps96;go_wp2_with fail;refine a.mono ?_;clear a;rintro e d ⟨rfl,rfl⟩;go_wp2;go_ret;exact⟨QV rfl,rfl⟩
def indexI_any(ao:JW)(cap:Nat)(xs:KJ)(bd:Int)(p o:Nat)(w:U)(hx:IntsAt w ao xs)(hp:w.cell? (aD p o)=O (I J bd)) :
  Calls V 110 #[Z ao (N xs) cap,.func (.func 96) #[] #[Y (O (aD p o))]] w λe A=>∃r,e=.returned (I J r)/\foundAt r (xs.any λx=>!rq x bd)/\A = w:=by
 have B:=hx.1;go_enter func110,ntmps110;go_wp2;go_loop [8] (λi=>∃k:Nat,k<=N xs/\i=I J k/\Hid (∀j,j<k->(!rq (E xs j 0) bd)=false)) (λi=>N xs-(intOf i).toNat)
 case atStart=>exact⟨0,ZP _,rfl,λj g=>absurd g X⟩
 case round=>
  obtain⟨k,C,rfl,q⟩:=hrel;by_cases a:k<N xs
  .obtain⟨b,y,rfl,t⟩:=hx.get a;have u:=t k a;have f:Hid ((!rq (E xs k 0) bd)=true->(xs.any λx=>!rq x bd)=true):=λh=>yQ (z:=0) a h
   have m:=allBelow1_any (E xs k 0) bd p o w hp;have n:Hid (E xs k 0=E xs k 0):=rfl;generalize d:E xs k 0=x at*;have n:=Zh d;clear d t hx hp;go_wp2_with fail;refine m.mono ?_;clear m;rintro e D ⟨rfl,rfl⟩;cases hB:rq x bd
   .rw[hB]at f;go_wp2;go_ret;exact⟨_,QW rfl,⟨X,by rw[f.o rfl];simp⟩,rfl⟩
   .have v:=Zh hB;clear hB;go_wp2;go_round
    case rel=>
     refine⟨k+1,X,Qf,λj g=>?_⟩;by_cases l:j=k
     .subst l;rw[n.o,v.o];rfl
     .exact q.o j X
    case measure=>exact Qw
  .have f:Hid ((xs.any λx=>!rq x bd)=false):=any_none (z:=0) (λj g=>q.o j X);go_wp2;go_ret;exact⟨_,QW rfl,⟨X,by rw[f.o];rfl⟩,rfl⟩
def containsI_any(ao:JW)(cap:Nat)(xs:KJ)(bd:Int)(p o:Nat)(w:U)(hx:IntsAt w ao xs)(hp:w.cell? (aD p o)=O (I J bd)) :
  Ce 95 #[Z ao (N xs) cap,.func (.func 96) #[] #[Y (O (aD p o))]] w (Qo (xs.any λx=>!rq x bd)):=by have a:=indexI_any ao cap xs bd p o w hx hp;go_enter func95,ntmps95;go_wp2_with fail;refine a.mono ?_;clear a;rintro e f ⟨r,rfl,b,rfl⟩;have d:=Zh b.2;clear b;go_wp2;go_ret;exact⟨QV d.o,rfl⟩
def allBelow_any(ao:JW)(cap:Nat)(xs:KJ)(bd:Int)(w:U)(hx:IntsAt w ao xs) :
  Cb 68 #[Z ao (N xs) cap,I J bd] w (Qo (aP xs bd)):=by have a:=containsI_any ao cap xs bd (M (H w)) 0 (w.alloc (Qq #[I J bd] 3)) (hx.below (bz _ _)) Qb;have b:=Zh (Jh xs bd);generalize (xs.any λx=>!rq x bd)=Yq at*;go_enter func68,ntmps68;go_wp2_with fail;refine a.mono ?_;clear a;rintro e d ⟨rfl,rfl⟩;go_wp2;go_ret;exact⟨QV b.o,bz _ _⟩
