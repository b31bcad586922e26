import Derived.Test.YtkfenjgalicikaaGreatDoorRows
import Derived.ProofKit
import Derived.OpenShut
import Derived.Deep.Slices
import Derived.Lib.AppendIntMem
import Derived.LaidHandle
import Derived.LaidMore
import Derived.Deep.DeepHandedRow
import Derived.Deep.DeepWitnessRowRef
import Derived.ShutString
import Derived.ChangeVars
import Derived.JoinedOf
import Derived.RowKitTokens
import Derived.Stop.Joined
import Derived.Test.YtkfenjgalicikaaGreatDoorCards
import Derived.Test.YtkfenjgalicikaaGreatDoorTie
import Derived.SevenTiedAt
import Derived.Test.YtkfenjgalicikaaGreatDoorS23
set_option linter.all false
set_option maxRecDepth 100000
set_option maxHeartbeats 0
namespace Go.Proofs.YtkfenjgalicikaaGreatDoor
open Go.RowKit Go.Proofs.Zz Go.Deep Go.ChangeShapes Go.WideShapes Go.ChangeAt
theorem Tryz.Ip:Tryz.prog.cellsOf 3=1:=by kernel_rfl
theorem Tryz.amZ:Tryz.prog.cellsOf 4=1:=by kernel_rfl
theorem Tryz.au4:Tryz.prog.cellsOf 9=1:=by kernel_rfl
theorem Tryz.VG:Tryz.prog.cellsOf 26=1:=by kernel_rfl
theorem Tryz.aqt:Tryz.prog.cellsOf 57=1:=by kernel_rfl
theorem Tryz.aqu:Tryz.prog.cellsOf 33=1:=by kernel_rfl
theorem Tryz.aqv:Tryz.prog.cellsOf 32=1:=by kernel_rfl
theorem Tryz.aqw:Tryz.prog.cellsOf 39=1:=by kernel_rfl
theorem Tryz.aqx:Tryz.prog.cellsOf 59=1:=by kernel_rfl
theorem Tryz.aqy:Tryz.prog.cellsOf 52=4:=by kernel_rfl
theorem Tryz.aqz:Tryz.prog.cellsOf 54=6:=by kernel_rfl
theorem Tryz.aqA:Tryz.prog.cellsOf 56=5:=by kernel_rfl
theorem Tryz.afW:Tryz.prog.cellsOf 35=7:=by kernel_rfl
theorem Tryz.aqB:Tryz.prog.cellsOf 43=7:=by kernel_rfl
theorem Tryz.afX:Tryz.prog.cellsOf 41=15:=by kernel_rfl
variable {H:Type} {enc:TypeId × Value->H} {w:World} {spare:Nat->Bool} {held:Bool} {fuel:Nat}
theorem ug(d:DataW H):1<=Rows.uptoBulk d:=by
 cases d with
 | lit l => cases l <;> simp[Rows.uptoBulk]
 | _ => simp[Rows.uptoBulk]
theorem ai1{d:DataW H}{l:List (DataW H)}(h:d∈l):Rows.uptoBulk d<=Rows.uptoBulkAll l:=by
 induction l with
 | nil => cases h
 | cons x r ih =>
  grind [Rows.uptoBulkAll]
theorem am0{k:Nat}(l:List (DataW H))(h:∀ d∈l,k<=Rows.uptoBulk d):l.length*k<=Rows.uptoBulkAll l:=by
 induction l with
 | nil => simp
 | cons x r ih =>
  grind [Rows.uptoBulkAll,Nat.succ_mul]
def Lk(w y:World):Prop:=∀ a v,w.cell? a=some v->y.cell? a=some v
theorem BU{α:Type}{l:List α}{i:Nat}(z:α)(h:i<l.length):l[i]? = some (l.getD i z):=by simp[List.getD,h]
theorem TK{P:Program}{t e:TypeId}{α:Type}{v:Value}{x:DataW H × List MemPlace}(c k:Nat)(f:α->List Value)(R:α->Prop)(hc:P.cellsOf e=c)(oq:0<c)(ht:P.underlying t=some (.slice e))(h:DataW.trod enc P w 0 spare held fuel t [v]=some x)
  (el:∀ n cs y,DataW.trod enc P w 0 spare held n e cs=some y->cs.length=c->Rows.uptoBulk y.1<Rows.uptoBulk x.1->k<=Rows.uptoBulk y.1/\∃ a,cs=f a/\R a) :
  ∃ ao cap,∃ xs:List α,v=.slice ao xs.length cap/\xs.length*k+1<=Rows.uptoBulk x.1/\∀ i a,xs[i]? = some a->R a/\∃ b off,ao=some (aD b off)/\b<w.heap.size/\∀ j u,(f a)[j]? = some u->w.cell? (aD b (off+i*c+j))=some u:=by
 rcases open_slice ht h with⟨lH,hx⟩ | ⟨a,len,cap,m,n,D,Pl,lH,_,hl,hm,hmm,hx,hel⟩
 .simp at lH;exact⟨none,0,[],lH,by have:=ug x.1; simpa using this,λi a hi=>by simp at hi⟩
 .simp at lH;subst lH;have hlm:len<=m:=by grind
  have hb:Rows.uptoBulkAll ((List.range len).map D)+1<=Rows.uptoBulk x.1:=by grind [Rows.uptoBulk]
  have hD:∀ i,i<len->k<=Rows.uptoBulk (D i)/\∃ a',(∃ cs,cs=f a'/\w.cells? 0 (a.add (i*c)) c=some cs)/\R a':=λi hi=>by
   obtain⟨cs,h1,h2⟩:=hel i (by omega);rw[hc]at h1;obtain⟨h3,a',h4,h5⟩:=el n cs _ h2 (World.cells?_some h1).2.1 (by
    have:=ai1 (d:=D i) (l:=(List.range len).map D) (Xc.2 ⟨i,Xd.2 hi,rfl⟩);grind)
   grind
  have hk:=am0 (k:=k) ((List.range len).map D) λd hd=>by grind
  simp only[ZX,ZY]at hk;have Uu:∀ n,n<=len->∃ xs:List α,xs.length=n/\∀ i a',xs[i]? = some a'->R a'/\∃ cs,cs=f a'/\w.cells? 0 (a.add (i*c)) c=some cs:=λn=>by
   induction n with
   | zero => simp_all
   | succ n ih =>
    intro hn;obtain⟨xs,h1,h2⟩:=ih (by omega);obtain⟨_,a',h3,h4⟩:=hD n (by omega);refine⟨xs++[a'],by simp[h1],λi b hi=>?_⟩;rcases Jd i n with gH | gH
    .grind
    .rw[Zw (by omega),h1]at hi
     grind
  obtain⟨xs,F9,hx2⟩:=Uu len (Zb _);refine⟨some a,cap,xs,by rw[F9],by rw[F9]; omega,λi a' hi=>?_⟩;obtain⟨h1,cs,rfl,h2⟩:=hx2 i a' hi;obtain⟨_,h3,h4⟩:=World.cells?_some h2;have hc1:∀ cs,w.cells? 0 (a.add 0) c=some cs->a.spot=none:=λcs h=>by obtain⟨_,h5,h6⟩:=World.cells?_some h;have h7:=h6 0 oq;rw[XG (by omega)]at h7;simpa [Addr.add] using World.cell?_spot h7
  have hs':a.spot=none:=by have hp:0<xs.length:=Nat.lt_of_le_of_lt (ZR _) (XF.1 hi).1;grind
  obtain⟨b,off,spot⟩:=a;obtain rfl:spot=none:=hs';have e0:∀ o j,((aD b o):Addr).add j=(aD b (o+j)):=λo j=>by unfold Addr.add; split <;> simp_all
  have h0:=h4 0 oq;rw[XG (by omega),e0,e0]at h0;refine⟨h1,b,off,rfl,lW h0,λj u hj=>?_⟩;grind
structure InI(w:World)(B:Nat)(v:aA):Prop where
 D6:v.xs.length<B
 lk:∀ y,Lk w y->v.At y
 lt:0<v.xs.length->∀ a,v.ad=some a->a.block<w.heap.size
theorem KJ{v:Value}{x:DataW H × List MemPlace}(h:DataW.trod enc Tryz.prog w 0 spare held fuel 26 [v]=some x)(hB:Rows.uptoBulk x.1<=1048576):∃ i:aA,v=i.val/\InI w 1048576 i:=by
 obtain⟨ao,cap,xs,rfl,h1,h2⟩:=TK 1 1 (λn:Int=>[Value.int .i64 n]) (λ_=>True) Tryz.Ip (by omega) Tryz.underlying26 h λn cs y hy _ _=>by obtain⟨m,rfl,_,_⟩:=JS Tryz.underlying3 hy;grind [ug]
 refine⟨⟨ao,cap,xs⟩,rfl,by grind,λy hy=>⟨by grind,λi hi=>?_⟩,λhp a ha=>?_⟩
 .obtain⟨_,b,off,rfl,_,h3⟩:=h2 i _ (BU 0 hi);exact⟨b,off,rfl,hy _ _ (by have:=h3 0 _ rfl; simp_all)⟩
 .obtain⟨_,b,off,e,h3,_⟩:=h2 0 _ (BU 0 hp)
  grind
theorem l3{α:Type}{l:List α}(h:l.length=3):∃ a b c,l=[a,b,c]:=by
 match l,h with
 | [a,b,c],_ => simp_all
theorem l4{α:Type}{l:List α}(h:l.length=4):∃ a b c d,l=[a,b,c,d]:=by
 match l,h with
 | [a,b,c,d],_ => simp_all
theorem l5{α:Type}{l:List α}(h:l.length=5):∃ a b c d e,l=[a,b,c,d,e]:=by
 match l,h with
 | [a,b,c,d,e],_ => simp_all
theorem l6{α:Type}{l:List α}(h:l.length=6):∃ a b c d e f,l=[a,b,c,d,e,f]:=by
 match l,h with
 | [a,b,c,d,e,f],_ => simp_all
theorem l7{α:Type}{l:List α}(h:l.length=7):∃ a b c d e f g,l=[a,b,c,d,e,f,g]:=by
 match l,h with
 | [a,b,c,d,e,f,g],_ => simp_all
theorem l9{α:Type}{l:List α}(h:l.length=9):∃ a b c d e f g i j,l=[a,b,c,d,e,f,g,i,j]:=by
 match l,h with
 | [a,b,c,d,e,f,g,i,j],_ => simp_all
theorem l15{α:Type}{l:List α}(h:l.length=15):∃ a b c d e f g i j k m n o p q,l=[a,b,c,d,e,f,g,i,j,k,m,n,o,p,q]:=by
 match l,h with
 | [a,b,c,d,e,f,g,i,j,k,m,n,o,p,q],_ => simp_all
theorem aAo{v:Value}{x:DataW H × List MemPlace}(h:DataW.trod enc Tryz.prog w 0 spare held fuel 32 [v]=some x)(hB:Rows.uptoBulk x.1<=1048576) :
  ∃ ao cap ts,v=.slice ao (List.length ts) cap/\ts.length<1048576/\∀ y,Lk w y->aZ y ao ts:=by
 obtain⟨ao,cap,xs,rfl,h1,h2⟩:=TK 6 1 (λt:af=>[.int .i64 t.bU,.int .i64 t.rows,.int .i64 t.k0,.int .i64 t.k1,.int .i64 t.k2,.int .i64 t.k3]) (λ_=>True) Tryz.aqz (by omega) Tryz.underlying32 h λn cs y hy dY _=>by obtain⟨xs,k,hk,hxy,_,hxl,hf⟩:=JU Tryz.underlying54 hy;obtain⟨y0,y1,y2,rfl⟩:=l3 hxl;obtain⟨v0,v1,v2,v3,v4,v5,rfl⟩:=l6 dY;have q0:=hf 0 _ rfl;have q1:=hf 1 _ rfl;have q2:=hf 2 _ rfl;simp[Tryz.Ip,Tryz.aqy]at q0 q1 q2;obtain⟨n0,e0,_⟩:=JS Tryz.underlying3 q0;obtain⟨n1,e1,_⟩:=JS Tryz.underlying3 q1;obtain⟨zs,k2,_,_,_,hzl,hz⟩:=DataW.trod_array Tryz.underlying52 q2;obtain⟨z0,z1,z2,z3,rfl⟩:=l4 hzl;have r0:=hz 0 (by omega);have r1:=hz 1 (by omega);have r2:=hz 2 (by omega);have r3:=hz 3 (by omega);simp[Tryz.Ip]at r0 r1 r2 r3;obtain⟨n2,e2,_⟩:=JS Tryz.underlying3 r0;obtain⟨n3,e3,_⟩:=JS Tryz.underlying3 r1;obtain⟨n4,e4,_⟩:=JS Tryz.underlying3 r2;obtain⟨n5,e5,_⟩:=JS Tryz.underlying3 r3;simp at e0 e1 e2 e3 e4 e5;subst e0 e1 e2 e3 e4 e5;exact⟨ug _,⟨n0,n1,n2,n3,n4,n5⟩,rfl,trivial⟩
 refine⟨ao,cap,xs,rfl,by omega,λy hy=>⟨by omega,λi hi=>?_⟩⟩;obtain⟨_,b,off,rfl,_,h3⟩:=h2 i _ (BU tz hi);exact⟨b,off,rfl,hy _ _ (h3 0 _ rfl),hy _ _ (h3 1 _ rfl),hy _ _ (h3 2 _ rfl),hy _ _ (h3 3 _ rfl),hy _ _ (h3 4 _ rfl),hy _ _ (h3 5 _ rfl)⟩
theorem aAp{v:Value}{x:DataW H × List MemPlace}(h:DataW.trod enc Tryz.prog w 0 spare held fuel 57 [v]=some x)(hB:Rows.uptoBulk x.1<=1048576) :
  ∃ c:aQ,v=c.val/\c.cs.length<1048576/\∀ y,Lk w y->bZ y c.ad c.cs:=by
 obtain⟨ao,cap,xs,rfl,h1,h2⟩:=TK 5 1 (λt:aV=>[.bool t.not,.int .i64 t.op,.int .i64 t.left,.bool t.const,.int .i64 t.right]) (λ_=>True) Tryz.aqA (by omega) Tryz.underlying57 h λn cs y hy dY _=>by obtain⟨xs,k,hk,hxy,_,hxl,hf⟩:=JU Tryz.underlying56 hy;obtain⟨y0,y1,y2,y3,y4,rfl⟩:=l5 hxl;obtain⟨v0,v1,v2,v3,v4,rfl⟩:=l5 dY;have q0:=hf 0 _ rfl;have q1:=hf 1 _ rfl;have q2:=hf 2 _ rfl;have q3:=hf 3 _ rfl;have q4:=hf 4 _ rfl;simp[Tryz.Ip,Tryz.amZ]at q0 q1 q2 q3 q4;obtain⟨n0,e0,_⟩:=DataW.trod_bool Tryz.underlying4 q0;obtain⟨n1,e1,_⟩:=JS Tryz.underlying3 q1;obtain⟨n2,e2,_⟩:=JS Tryz.underlying3 q2;obtain⟨n3,e3,_⟩:=DataW.trod_bool Tryz.underlying4 q3;obtain⟨n4,e4,_⟩:=JS Tryz.underlying3 q4;simp at e0 e1 e2 e3 e4;subst e0 e1 e2 e3 e4;exact⟨ug _,⟨n0,n1,n2,n3,n4⟩,rfl,trivial⟩
 refine⟨⟨ao,cap,xs⟩,rfl,by grind,λy hy=>⟨by grind,λi hi=>?_⟩⟩;obtain⟨_,b,off,rfl,_,h3⟩:=h2 i _ (BU cz hi);exact⟨b,off,rfl,hy _ _ (h3 0 _ rfl),hy _ _ (h3 1 _ rfl),hy _ _ (h3 2 _ rfl),hy _ _ (h3 3 _ rfl),hy _ _ (h3 4 _ rfl)⟩
theorem aAq{v:Value}{x:DataW H × List MemPlace}(h:DataW.trod enc Tryz.prog w 0 spare held fuel 33 [v]=some x)(hB:Rows.uptoBulk x.1<=1048576) :
  ∃ ao cap ls,v=.slice ao (List.length ls) cap/\ls.length<1048576/\(∀ i,i<ls.length->(ls.getD i lz).cs.length<1048576)/\∀ y,Lk w y->fD y ao ls:=by
 obtain⟨ao,cap,xs,rfl,h1,h2⟩:=TK 1 1 (λc:aQ=>[c.val]) (λc=>c.cs.length<1048576/\∀ y,Lk w y->bZ y c.ad c.cs) Tryz.aqx (by omega) Tryz.underlying33 h λn cs y hy dY aT=>by
  obtain⟨xs,k,hk,hxy,_,hxl,hf⟩:=JU Tryz.underlying59 hy;obtain⟨y0,rfl⟩:=List.length_eq_one_iff.1 (show xs.length=1 from hxl);obtain⟨v0,rfl⟩:=List.length_eq_one_iff.1 dY;have q0:=hf 0 _ rfl;simp[Tryz.aqt]at q0;obtain⟨c,rfl,h3,h4⟩:=aAp q0 (by
   have e:y.1=.agg [y0.1]:=congrArg Prod.fst hxy;rw[e]at aT;simp only[Rows.uptoBulk,Rows.uptoBulkAll]at aT;omega)
  exact⟨ug _,c,rfl,h3,h4⟩
 refine⟨ao,cap,xs,rfl,by omega,λi hi=>(h2 i _ (BU lz hi)).1.1,λy hy=>⟨by omega,λi hi=>?_,λi hi=>(h2 i _ (BU lz hi)).1.2 y hy⟩⟩;obtain⟨_,b,off,rfl,_,h3⟩:=h2 i _ (BU lz hi);exact⟨b,off,rfl,hy _ _ (by have:=h3 0 _ rfl; simp_all)⟩
theorem aAr{v:Value}{x:DataW H × List MemPlace}(h:DataW.trod enc Tryz.prog w 0 spare held fuel 39 [v]=some x)(hB:Rows.uptoBulk x.1<=1048576) :
  ∃ ao cap ns,v=.slice ao (List.length ns) cap/\∀ y,Lk w y->fH y ao ns:=by
 obtain⟨ao,cap,xs,rfl,h1,h2⟩:=TK 7 1 (λt:ay=>[.int .i64 t.kind,.int .i64 t.l,.int .i64 t.r,.int .i64 t.source,t.cl.val,.int .i64 t.key,t.co.val]) (λt=>∀ y,Lk w y->t.cl.At y/\t.co.At y) Tryz.aqB (by omega) Tryz.underlying39 h λn cs y hy dY aT=>by obtain⟨xs,k,hk,hxy,_,hxl,hf⟩:=JU Tryz.underlying43 hy;obtain⟨y0,y1,y2,y3,y4,y5,y6,rfl⟩:=l7 hxl;obtain⟨v0,v1,v2,v3,v4,v5,v6,rfl⟩:=l7 dY;have q0:=hf 0 _ rfl;have q1:=hf 1 _ rfl;have q2:=hf 2 _ rfl;have q3:=hf 3 _ rfl;have q4:=hf 4 _ rfl;have q5:=hf 5 _ rfl;have q6:=hf 6 _ rfl;simp[Tryz.Ip,Tryz.VG]at q0 q1 q2 q3 q4 q5 q6;have e:y.1=.agg [y0.1,y1.1,y2.1,y3.1,y4.1,y5.1,y6.1]:=congrArg Prod.fst hxy;rw[e]at aT;simp only[Rows.uptoBulk,Rows.uptoBulkAll]at aT;obtain⟨n0,e0,_⟩:=JS Tryz.underlying3 q0;obtain⟨n1,e1,_⟩:=JS Tryz.underlying3 q1;obtain⟨n2,e2,_⟩:=JS Tryz.underlying3 q2;obtain⟨n3,e3,_⟩:=JS Tryz.underlying3 q3;obtain⟨i4,rfl,a4⟩:=KJ q4 (by omega);obtain⟨n5,e5,_⟩:=JS Tryz.underlying3 q5;obtain⟨i6,rfl,a6⟩:=KJ q6 (by omega);simp at e0 e1 e2 e3 e5;subst e0 e1 e2 e3 e5;exact⟨ug _,⟨n0,n1,n2,n3,i4,n5,i6⟩,rfl,λz hz=>⟨a4.lk z hz,a6.lk z hz⟩⟩
 refine⟨ao,cap,xs,rfl,λy hy=>⟨by omega,λi hi=>?_⟩⟩;obtain⟨h4,b,off,rfl,_,h3⟩:=h2 i _ (BU nz hi);exact⟨b,off,rfl,hy _ _ (h3 0 _ rfl),hy _ _ (h3 1 _ rfl),hy _ _ (h3 2 _ rfl),hy _ _ (h3 3 _ rfl),hy _ _ (h3 4 _ rfl),hy _ _ (h3 5 _ rfl),hy _ _ (h3 6 _ rfl),h4 y hy⟩
variable {H:Type} {enc:TypeId × Value->H} {w:World} {spare:Nat->Bool} {held:Bool} {fuel:Nat}
theorem aBp{n:Int}(h:(Lit.int .i64 n).wf=true):-9223372036854775808<=n/\n<=9223372036854775807:=by
 have h1:(decide (IntKind.i64.min<=n)&&decide (n<=IntKind.i64.max))=true:=h;rw[Q8,Zi,Zi]at h1;have e1:IntKind.i64.min = -9223372036854775808:=by decide
 simp_all
structure InQ(w:World)(q:ae):Prop where
 D6:q.au.xs.length<=2000000/\q.aC.xs.length<=2000000/\q.aM.xs.length<=2000000/\q.bA.xs.length<=2000000/\q.ord.xs.length<=2000000/\q.wh.length<=2000000/\∀ i,i<q.wh.length->(q.wh.getD i lz).cs.length<=2000000
 lk:∀ y,Lk w y->q.At y
theorem aBq{cs:List Value}{x:DataW H × List MemPlace}(h:DataW.trod enc Tryz.prog w 0 spare held fuel 35 cs=some x)(hB:Rows.uptoBulk x.1<=1048576) :
  8<=Rows.uptoBulk x.1/\∃ q:ae,cs=q.cells.toList/\InQ w q:=by
 obtain⟨xs,k,hk,hxy,iX,hxl,hf⟩:=JU Tryz.underlying35 h;rw[Tryz.afW]at iX;obtain⟨y0,y1,y2,y3,y4,y5,y6,rfl⟩:=l7 hxl;obtain⟨v0,v1,v2,v3,v4,v5,v6,rfl⟩:=l7 iX;have q0:=hf 0 _ rfl;have q1:=hf 1 _ rfl;have q2:=hf 2 _ rfl;have q3:=hf 3 _ rfl;have q4:=hf 4 _ rfl;have q5:=hf 5 _ rfl;have q6:=hf 6 _ rfl;simp[Tryz.VG,Tryz.aqu,Tryz.amZ]at q0 q1 q2 q3 q4 q5 q6;have e:x.1=.agg [y0.1,y1.1,y2.1,y3.1,y4.1,y5.1,y6.1]:=congrArg Prod.fst hxy;rw[e]at hB ⊢;simp only[Rows.uptoBulk,Rows.uptoBulkAll]at hB ⊢;have o:=λz:DataW H × List MemPlace=>ug z.1;obtain⟨i0,rfl,a0⟩:=KJ q0 (by omega);obtain⟨iF,cZ,ls,rfl,a1,b1,c1⟩:=aAq q1 (by omega);obtain⟨gb,e2,_⟩:=DataW.trod_bool Tryz.underlying4 q2;obtain⟨i3,rfl,a3⟩:=KJ q3 (by omega);obtain⟨i4,rfl,a4⟩:=KJ q4 (by omega);obtain⟨i5,rfl,a5⟩:=KJ q5 (by omega);obtain⟨i6,rfl,a6⟩:=KJ q6 (by omega);simp at e2;subst e2;have z:∀ i:aA,InI w 1048576 i->i.xs.length<=2000000:=λi h=>ZU (JH h.D6) (by decide);refine⟨?_,⟨i0,iF,cZ,ls,gb,i3,i4,i5,i6⟩,rfl,⟨z _ a0,z _ a3,z _ a4,z _ a5,z _ a6,?_,λi hi=>?_⟩,λy hy=>⟨a0.lk y hy,c1 y hy,a3.lk y hy,a4.lk y hy,a5.lk y hy,a6.lk y hy⟩⟩
 .grind
 .grind
 grind
structure InO(w:World)(d:KH):Prop where
 q:InQ w d.q
 ts:d.ts.length<=2000000/\∀ y,Lk w y->aZ y d.co d.ts
 K:-9223372036854775808<=d.K/\d.K<=9223372036854775807
 A:-9223372036854775808<=d.A/\d.A<=9223372036854775807
 L:InI w 1048576 d.L
 S:d.S.length<=2000000
 pl:∀ y,Lk w y->fH y d.po d.pl
theorem aBr{cs:List Value}{x:DataW H × List MemPlace}(h:DataW.trod enc Tryz.prog w 0 spare held fuel 41 cs=some x)(hB:Rows.uptoBulk x.1<=1048576) :
  17<=Rows.uptoBulk x.1/\∃ d:KH,cs=d.cells.toList/\InO w d:=by
 obtain⟨xs,k,hk,hxy,iX,hxl,hf⟩:=JU Tryz.underlying41 h;rw[Tryz.afX]at iX;obtain⟨y0,y1,y2,y3,y4,y5,y6,y7,y8,rfl⟩:=l9 hxl;obtain⟨v0,v1,v2,v3,v4,v5,v6,v7,v8,v9,fO,fP,fQ,v13,v14,rfl⟩:=l15 iX;have q0:=hf 0 _ rfl;have q1:=hf 1 _ rfl;have q2:=hf 2 _ rfl;have q3:=hf 3 _ rfl;have q4:=hf 4 _ rfl;have q5:=hf 5 _ rfl;have q6:=hf 6 _ rfl;have q7:=hf 7 _ rfl;have q8:=hf 8 _ rfl;simp[Tryz.VG,Tryz.Ip,Tryz.aqv,Tryz.afW,Tryz.au4,Tryz.aqw]at q0 q1 q2 q3 q4 q5 q6 q7 q8;have e:x.1=.agg [y0.1,y1.1,y2.1,y3.1,y4.1,y5.1,y6.1,y7.1,y8.1]:=congrArg Prod.fst hxy;rw[e]at hB ⊢;simp only[Rows.uptoBulk,Rows.uptoBulkAll]at hB ⊢;have o:=λz:DataW H × List MemPlace=>ug z.1;obtain⟨n0,e0,_⟩:=JS Tryz.underlying3 q0;obtain⟨n1,e1,_,f1⟩:=JS Tryz.underlying3 q1;obtain⟨co,cc,ts,rfl,a2,b2⟩:=aAo q2 (by omega);obtain⟨b3,q,e3,a3⟩:=aBq q3 (by omega);obtain⟨n4,e4,_,f4⟩:=JS Tryz.underlying3 q4;obtain⟨n5,e5,_,_⟩:=JS Tryz.underlying3 q5;obtain⟨i6,rfl,a6⟩:=KJ q6 (by omega);obtain⟨s,e7,g7,_⟩:=DataW.trod_string Tryz.underlying9 q7;obtain⟨po,pc,ns,rfl,a8⟩:=aAr q8 (by omega);have e7':Rows.uptoBulk y7.1=s.data.toList.length+1:=by grind [Rows.uptoBulk]
 simp[ae.cells]at e0 e1 e3 e4 e5 e7;obtain⟨r0,r1,r2,r3,r4,r5,r6⟩:=e3;subst e0 e1 e4 e5 e7 r0 r1 r2 r3 r4 r5 r6;refine⟨?_,⟨n0,n1,co,cc,ts,q,n4,n5,i6,s.data.toList,po,pc,ns⟩,?_,a3,⟨?_,b2⟩,aBp f1,aBp f4,a6,?_,a8⟩
 .grind
 .simp[KH.cells,iH]
 .grind
 grind
theorem anP{y:World}(h:aB (λb=>b<w.heap.size) w y):Lk w y:=λa v hv=>by obtain⟨b,off,spot⟩:=a;obtain rfl:spot=none:=World.cell?_spot hv;exact JE h hv (lW hv)
theorem InO.opK{d:KH}(h:InO w d){F:Nat->Prop}{x:World}(hF:∀ b,b<w.heap.size->F b)(hx:aB (λb=>b<w.heap.size) w x):OpE F x d:=by have hl:∀ y,aB F x y->Lk w y:=λy hy=>anP (hx.trans (hy.mono λb _ hb=>hF b hb));obtain⟨f1,f2,f3,f4,f5,f6,f7⟩:=h.q.D6;exact⟨λy hy=>⟨h.ts.2 y (hl y hy),h.q.lk y (hl y hy)⟩,⟨f1,f2,f3,f4,f5,f6,h.ts.1,f7⟩,λy hy=>h.L.lk y (hl y hy),λhp a ha=>hF _ (h.L.lt hp a ha),λy hy=>h.pl y (hl y hy),h.S,h.A.2⟩
theorem Tryz.ard : Tryz.prog.globalNamed (Rows.searchesUptoRow.named.headD "") = some 0 := by kernel_rfl
theorem Tryz.arf:(Tryz.prog.globals[0]?).map (·.type)=some 266:=by kernel_rfl
theorem Tryz.arh:Tryz.prog.cellsOf 266=55:=by kernel_rfl
theorem Tryz.anQ:Tryz.prog.cellsOf 265=5:=by kernel_rfl
theorem Tryz.ari:Tryz.prog.cellsOf 3=1:=by kernel_rfl
theorem Tryz.arj:Tryz.prog.cellsOf 4=1:=by kernel_rfl
theorem anR{α:Type}{l:List α}(h:l.length=5):∃ a b c d e,l=[a,b,c,d,e]:=by
 match l,h with
 | [a,b,c,d,e],_ => simp_all
theorem abT{H:Type}{enc:TypeId × Value->H}{w:World}{base:Nat}{spare:Nat->Bool}{held:Bool}{fuel:Nat}{cs:List Value}{x:DataW H × List MemPlace}(h:DataW.trod enc Tryz.prog w base spare held fuel 265 cs=some x) :
  ∃ n b1 b2 b3 b4,cs=[.int .i64 n,.bool b1,.bool b2,.bool b3,.bool b4]/\x.1=.agg [.lit (.int .i64 n),.lit (.bool b1),.lit (.bool b2),.lit (.bool b3),.lit (.bool b4)]:=by obtain⟨xs,n,_,rfl,hl,dY,hf⟩:=JU Tryz.underlying265 h;rw[Tryz.anQ]at hl;obtain⟨c0,c1,c2,c3,c4,rfl⟩:=anR hl;obtain⟨y0,y1,y2,y3,y4,rfl⟩:=anR (show xs.length=5 from dY);have q0:=hf 0 _ rfl;have q1:=hf 1 _ rfl;have q2:=hf 2 _ rfl;have q3:=hf 3 _ rfl;have q4:=hf 4 _ rfl;simp[Tryz.ari,Tryz.arj]at q0 q1 q2 q3 q4;obtain⟨n0,e0,f0,_⟩:=JS Tryz.underlying3 q0;obtain⟨b1,e1,f1⟩:=DataW.trod_bool Tryz.underlying4 q1;obtain⟨b2,e2,f2⟩:=DataW.trod_bool Tryz.underlying4 q2;obtain⟨b3,e3,f3⟩:=DataW.trod_bool Tryz.underlying4 q3;obtain⟨b4,e4,f4⟩:=DataW.trod_bool Tryz.underlying4 q4;simp_all
theorem ark{α:Type}{l:List α}(h:l.length=11):∃ a0 a1 a2 a3 a4 a5 a6 a7 a8 a9 wU,l=[a0,a1,a2,a3,a4,a5,a6,a7,a8,a9,wU]:=by
 match l,h with
 | [a0,a1,a2,a3,a4,a5,a6,a7,a8,a9,wU],_ => simp_all
theorem lM{l:List Value}{i:Nat}{H:Type}{enc:TypeId × Value->H}{w:World}{base:Nat}{spare:Nat->Bool}{held:Bool}{fuel:Nat}{x:DataW H × List MemPlace}{a:Int}{b1 b2 b3 b4:Bool}(h:DataW.trod enc Tryz.prog w base spare held fuel 265 ((l.drop (i*5)).take 5)=some x)
  (hx:x.1=.agg [.lit (.int .i64 a),.lit (.bool b1),.lit (.bool b2),.lit (.bool b3),.lit (.bool b4)]):(l.drop (i*5)).take 5=[.int .i64 a,.bool b1,.bool b2,.bool b3,.bool b4]:=by grind [abT]
theorem OZ{W:World}(h:laidMetH Tryz.prog Rows.searchesUptoRow.laid W):dS W 0:=by
 have h':laidMet Tryz.prog Rows.searchesUptoRow.laid W:=h;obtain⟨ps,⟨_,_,_,_,_,_,_,_,_,_,⟨_,_,_,_,_,_,_,_,_,_,⟨_,_,_,_,_,_,_,_,_,_,⟨g,t,cs,fuel,p,q,hg,ht,hvar,hd,_,_⟩,_⟩,_⟩,_⟩,_⟩:=h';obtain rfl:=Jy (Tryz.ard.symm.trans hg);obtain rfl:=Jy (Tryz.arf.symm.trans ht);obtain⟨xs,m,_,hx,hl,dY,hf⟩:=DataW.trod_array Tryz.underlying266 hd;rw[Tryz.arh]at hl;rw[Tryz.anQ]at hf;obtain⟨a0,a1,a2,a3,a4,a5,a6,a7,a8,a9,wU,rfl⟩:=ark dY;have sK:=congrArg Prod.fst hx;simp only[Rows.laid_scout_plan_shapes,List.map_cons,List.map_nil,DataW.agg.injEq,List.cons.injEq,and_true]at sK;obtain⟨x0,x1,x2,x3,x4,x5,x6,x7,x8,x9,x10⟩:=sK;have each:∀ i,i<11->(cs.toList.drop (i*5)).take 5=(ql ((i:Nat):Int)).toList:=by
  intro i hi
  match i,hi with
  | 0,_ => exact(lM (i:=0) (hf 0 (by omega)) x0.symm).trans (by rfl)
  | 1,_ => exact(lM (i:=1) (hf 1 (by omega)) x1.symm).trans (by rfl)
  | 2,_ => exact(lM (i:=2) (hf 2 (by omega)) x2.symm).trans (by rfl)
  | 3,_ => exact(lM (i:=3) (hf 3 (by omega)) x3.symm).trans (by rfl)
  | 4,_ => exact(lM (i:=4) (hf 4 (by omega)) x4.symm).trans (by rfl)
  | 5,_ => exact(lM (i:=5) (hf 5 (by omega)) x5.symm).trans (by rfl)
  | 6,_ => exact(lM (i:=6) (hf 6 (by omega)) x6.symm).trans (by rfl)
  | 7,_ => exact(lM (i:=7) (hf 7 (by omega)) x7.symm).trans (by rfl)
  | 8,_ => exact(lM (i:=8) (hf 8 (by omega)) x8.symm).trans (by rfl)
  | 9,_ => exact(lM (i:=9) (hf 9 (by omega)) x9.symm).trans (by rfl)
  | 10,_ => exact(lM (i:=10) (hf 10 (by omega)) x10.symm).trans (by rfl)
 intro j u hj;rw[World.var?_cell hg hvar j,<- Array.getElem?_toList];have aPZ:j<55:=by
  have h1:sG.length=55:=by rfl
  grind
 have e1:j=j / 5*5+j % 5:=by omega
 have aT:j / 5<11:=by omega
 have hm:j % 5<5:=Nat.mod_lt _ (by omega);have h3:=each (j / 5) aT;have h4:cs.toList[j]? = (ql ((j / 5:Nat):Int)).toList[j % 5]?:=by rw[<- h3,XQ,Zd hm,List.getElem?_drop,<- e1]
 have h5:sG[j]? = (ql ((j / 5:Nat):Int)).toList[j % 5]?:=by
  have:=XO (λ(k:Nat)=>(ql (k:Int)).toList) 5 (λ_=>rfl) 0 (List.range 11) (j / 5) (j % 5) (by simp; exact aT) hm;unfold sG;rw[e1];have e2:(j / 5*5+j % 5) / 5=j / 5:=by omega
  have e3:(j / 5*5+j % 5) % 5=j % 5:=by omega
  rw[e2,e3,this];simp[List.getD,aT]
 grind
theorem avI{P:Program}{W x:World}{n:String}{cs:Array Value}(hb:aB (λb=>b<W.heap.size) W x)(h:W.var? P n=some cs):x.var? P n=some cs:=by
 unfold World.var? at h ⊢
 cases hg:P.globalNamed n with
 | none => rw[hg]at h; cases h
 | some g =>
  rw[hg]at h;simp only[Xi]at h ⊢;have hl:g<W.heap.size:=by grind
  rw[hb.block g hl hl];exact h
theorem Tryz.aHQ : Tryz.prog.globalNamed (Rows.searchesUptoRow.named.getD 4 "") = some 4 := by kernel_rfl
theorem Tryz.aHR:(Tryz.prog.globals[4]?).map (·.type)=some 320:=by kernel_rfl
theorem Tryz.aHS:Tryz.prog.cellsOf 320=20:=by kernel_rfl
theorem Tryz.aBs:Tryz.prog.cellsOf 45=1:=by kernel_rfl
theorem VV{W y:World}(h:laidMetH Tryz.prog Rows.searchesUptoRow.laid W)(hy:aB (λb=>b<W.heap.size) W y):Ah y:=by
 have h':laidMet Tryz.prog Rows.searchesUptoRow.laid W:=h;obtain⟨ps,⟨_,_,_,_,_,_,_,_,_,_,⟨_,_,_,_,_,_,_,_,_,_,⟨g,t,cs,fuel,p,q,hg,ht,hvar,hd,_,_⟩,_⟩,_⟩,_⟩:=h';obtain rfl:=Jy (Tryz.aHQ.symm.trans hg);obtain rfl:=Jy (Tryz.aHR.symm.trans ht);have e:(Rows.laid_internal_strconv_uint64pow10:DataW Unit)=Lib.tabData .u64 Lib.pow10Tab:=by kernel_rfl
 rw[e]at hd;have hc:=Lib.cells_of_tab Tryz.underlying320 Tryz.underlying45 Tryz.aBs Tryz.aHS hd;intro x hx n hn;have htab:=avI (P:=Tryz.prog) (hy.dL (Xk hx λ_ h _=>h) λb hb _=>ZO hb hy.size) hvar;have e2:cs=(Lib.pow10Tab.map λz=>Value.int .u64 z).toArray:=by rw[<- hc]
 rw[e2]at htab;refine(Any.strconv_Itoa Tryz.akI n (by omega) (by omega) x htab).mono ?_;rintro e w' ⟨rfl,k,os,rfl⟩;exact⟨rfl,Lib.below_grow _ _ (Zb _) _ _⟩
theorem abU{P:Program}{t:TypeId}{ms}{H:Type}{enc:TypeId × Value->H}{w:World}{base:Nat}{spare:Nat->Bool}{held:Bool}{fuel:Nat}{cs:List Value}{x:DataW H × List MemPlace}(ht:P.underlying t=some (.interface ms))(h:DataW.trod enc P w base spare held fuel t cs=some x):∃ u,cs=[u]/\(u=.nilIface∨∃ t p,u=.iface t p):=by
 cases fuel with
 | zero => simp[DataW.trod]at h
 | succ n =>
  unfold DataW.trod at h;rw[ht]at h;split at h <;> first | exact⟨_,rfl,.inl rfl⟩ | exact⟨_,rfl,.inr ⟨_,_,rfl⟩⟩ | simp_all
theorem Tryz.aBt : Tryz.prog.globalNamed (Rows.searchesUptoRow.named.getD 3 "") = some 3 := by kernel_rfl
theorem Tryz.aBu : Tryz.prog.globalNamed (Rows.searchesUptoRow.named.getD 2 "") = some 2 := by kernel_rfl
theorem Tryz.aBv:(Tryz.prog.globals[3]?).map (·.type)=some 220:=by kernel_rfl
theorem Tryz.aBw:(Tryz.prog.globals[2]?).map (·.type)=some 220:=by kernel_rfl
theorem GL{W:World}(h:laidMetH Tryz.prog Rows.searchesUptoRow.laid W):(∃ u,W.cell? (aD 2 0)=some u/\(u=.nilIface∨∃ t p,u=.iface t p))/\∃ u,W.cell? (aD 3 0)=some u/\(u=.nilIface∨∃ t p,u=.iface t p):=by have h':laidMet Tryz.prog Rows.searchesUptoRow.laid W:=h;obtain⟨ps,⟨_,_,_,_,_,_,_,_,_,_,⟨_,_,_,_,_,_,_,_,_,_,⟨_,_,_,_,_,_,_,_,_,_,⟨_,_,_,_,_,_,_,_,_,_,⟨g,t,cs,fuel,p,q,hg,ht,hvar,hd,⟨g',t',cs',fuel',p',q',hg',ht',aBx,hd',_,_⟩,_⟩,_⟩,_⟩,_⟩,_⟩,_⟩:=h';obtain rfl:=Jy (Tryz.aBt.symm.trans hg);obtain rfl:=Jy (Tryz.aBv.symm.trans ht);obtain rfl:=Jy (Tryz.aBu.symm.trans hg');obtain rfl:=Jy (Tryz.aBw.symm.trans ht');obtain⟨u,e,hu⟩:=abU Tryz.underlying220 hd;obtain⟨v,e',hv⟩:=abU Tryz.underlying220 hd';exact⟨⟨v,by rw[World.var?_cell hg' aBx 0,<- Array.getElem?_toList,e']; rfl,hv⟩,u,by rw[World.var?_cell hg hvar 0,<- Array.getElem?_toList,e]; rfl,hu⟩
theorem VW{W y:World}(hL:laidMetH Tryz.prog Rows.searchesUptoRow.laid W)(h:W.ShapedOpen Tryz.prog)(hy:aB (λb=>b<W.heap.size) W y):Vd y:=by
 obtain⟨m,hm⟩:=cell_of_shapedOpen_int (g:=1) (t:=3) (zero:=#[.int .i64 0]) (k:=.i64) h (Xf (by kernel_rfl)) (by kernel_rfl) rfl (by kernel_rfl) (by kernel_rfl) Tryz.underlying3;obtain⟨⟨u,h2,hu⟩,v,h3,hv⟩:=GL hL;have hl:=anP hy;refine apK (hl _ _ h2) hu (hl _ _ h3) hv λx hx s hs=>?_;have hs':(iH s).size<=2000000:=by simpa [iH,ByteArray.size] using hs
 refine(Tryz.strings_Cut (iH s) ⟨#[32]⟩ m x (by omega) (cB hx (hl _ _ hm))).mono ?_;rintro e w' ⟨rfl,n,rfl⟩;exact⟨⟨_,rfl⟩,Zg (Za _ _) n⟩
theorem aec{W:World}(hL:laidMetH Tryz.prog Rows.searchesUptoRow.laid W)(hS:W.ShapedOpen Tryz.prog){y:World}(hy:aB (λb=>b<W.heap.size) W y):dS y 0/\Vd y/\Ah y:=
 ⟨λj u hj=>anP hy _ _ (OZ hL j u hj),VW hL hS hy,VV hL hy⟩
theorem own:ownKnob Tryz.prog.godebug=none:=by kernel_rfl
theorem arl:laidOutB Tryz.prog=true:=by kernel_rfl
theorem anS(os:Os)(args:Array Value):laidMetH Tryz.prog Rows.searchesUptoRow.laid ((World.doorLaid Tryz.prog 77 os).forCall (λ_ _=>0) ⟨#[],args,[]⟩).memory:=
 laidMetH_of_parts3 (fuel:=8) (laidMet_of_run' 8 (by kernel_rfl) (by kernel_rfl)) (by kernel_rfl) (by kernel_rfl)
theorem reads(os:Os){H:Type}(enc:TypeId × Value->H):∃ places,DataW.whole enc Tryz.prog ((World.doorLaid Tryz.prog 77 os).forCall (λ_ _=>0) ⟨#[],#[.slice none 0 0],[]⟩).memory Tryz.f3.params.toList Rows.searchesSpec.vars false #[Value.slice none 0 0].toList 8=some ([.nil],[],places):=
 ⟨[],by kernel_rfl⟩
theorem anT(H:Type)(enc:TypeId × Value->H)(W:World)(base:Nat)(args:Array Value)(ds gs:List (DataW H))(before:List MemPlace)
  (hval:∀ (j:Nat) t v,Tryz.f3.params[j]? = some t->args[j]? = some v->Value.okWide Tryz.prog W .any base t v)
  (hW:DataW.Whole enc Tryz.prog Tryz.f3.params.toList Rows.searchesSpec.vars false W args.toList ds gs before) (hc:Rows.uptoSmall H (ds++gs)=true) (hL:laidMetH Tryz.prog Rows.searchesUptoRow.laid W) (hS:W.ShapedOpen Tryz.prog) :
  Calls Tryz.prog 3 args W λe W'=>∃ v,e=.returned v/\Rows.searchesSpec.post enc Tryz.prog Tryz.f3 false true false false W args v W':=by
 have hW':=hW;obtain⟨p,q,hA0,hV,rfl,hfz,xG⟩:=hW;have hA:DataW.TrodAll enc Tryz.prog W 0 (λ_=>true) true Tryz.f3.params.toList args.toList ds p:=hA0;rw[Tryz.params3]at hA hval;obtain⟨v0,vs0,d0,ds0,p0,q0,hargs,rfl,rfl,h0,r0⟩:=trodAll_cons hA;obtain⟨rfl,rfl,rfl⟩:=trodAll_nil r0;obtain rfl:args=#[v0]:=by cases args; simp_all
 obtain⟨rfl,rfl⟩:=trodVars_none hV;have k0:=h0;have lt0:∀ x∈p0,x.block<W.heap.size:=by obtain⟨m,hm⟩:=k0; exact DataW.trod_lt m _ _ _ hm
 have hb:Rows.uptoBulk d0<=1048576:=by have:=Xf hc;simp only[Zy,Rows.uptoBulkAll,Xg]at this;exact this
 obtain⟨a0,aP1,cap0,rfl⟩:=okWide_slice Tryz.underlying22 (hval 0 22 v0 rfl rfl);obtain⟨f0,hf0⟩:=h0;obtain⟨sa,sc,os,hv,h1,h2⟩:=TK 15 17 (λd:KH=>d.cells.toList) (InO W) Tryz.afX (by omega) Tryz.underlying22 hf0 λn cs y hy _ aT=>aBr hy (by
  have e:Rows.uptoBulk (d0,p0).1=Rows.uptoBulk d0:=rfl;omega)
 rw[hv]at k0 hval hW' ⊢;have h00:0<W.heap.size:=lW (GL hL).1.choose_spec.1 |> λh=>by omega
 refine(VU sa sc os W h00 (λi d hd=>?_) ?_ (λF x hF hx d hd=>?_) λx hx=>aec hL hS hx).mono λe W' ⟨he,Dq⟩=>?_
 .obtain⟨_,b,off,e,aT,h3⟩:=h2 i d hd;exact⟨b,off,e,aT,h3⟩
 .have e:Rows.uptoBulk (d0,p0).1=Rows.uptoBulk d0:=rfl;omega
 .obtain⟨i,hi,rfl⟩:=Ze hd;have h3:=(h2 i _ (XG hi)).1;exact⟨h3.opK hF hx,h3.K⟩
 subst he;exact⟨_,rfl,_,_,_,[],_,[],hW',trodAll_mk1 (shut_bool Tryz.underlying4 _),trodAll_cons_mk (Below.trod arl (by kernel_rfl) (Xf (by kernel_rfl)) k0 Dq lt0) trodAll_mk0,rfl,Dq.frame _,λh=>by cases h⟩
theorem LH(os:Os)(GJ:os.Started)(H:Type)(enc:TypeId × Value->H)(F:Stop.Interp) :
  ReturnsInHanded {} Tryz.checked os 3 .any ((Rows.OpenSpec.upto Rows.searchesSpec).preRow enc Tryz.prog Tryz.f3 Rows.searchesUptoRow.domain false Rows.searchesUptoRow.laid) (((Rows.OpenSpec.upto Rows.searchesSpec).at F).post enc Tryz.prog Tryz.f3 false true false false):=by
 obtain⟨places,hx⟩:=reads os enc;refine returnsInHanded_of_row (C:=Tryz.checked) (s:=Rows.OpenSpec.upto Rows.searchesSpec) own GJ (by kernel_rfl) Tryz.func3
  (witness_row_atRef (enc:=enc) (C:=Tryz.checked) false (World.doorLaid Tryz.prog 77 os) #[.slice none 0 0] rfl (by kernel_rfl) (by kernel_rfl) (by kernel_rfl)
   (OpenSpec.preRow_of_cond 8 hx (by kernel_rfl) (λk hk=>by cases hk; kernel_rfl) (by kernel_rfl) (anS os _))) ?_
 intro W base args ds gs before hval hW _ hcond _ hL hS _;exact anT H enc W base args ds gs before hval hW (hcond _ rfl) hL hS
open Go
theorem Rq:Rows.SearchesUptoSaid:=
 OpenClaim.holds_of_cond 3 Tryz.f3 rfl rfl rfl rfl rfl rfl rfl ⟨rfl,rfl,rfl,rfl,rfl⟩ rfl rfl rfl rfl rfl (by kernel_rfl) Tryz.func3 (by kernel_rfl)
  (Xf (by kernel_rfl)) (by unfold Func.isWrapper; first | (rw[Zd (by decide +kernel)]; kernel_rfl) | (rw[Zk (by decide +kernel)]; exact⟨rfl,rfl⟩))
  (λos GJ H enc _ F=>by rw[OpenClaim.pre_eq_preRow]; exact LH os GJ H enc F)
theorem plain(f:FuncId)(fn:Func)(hf:Tryz.pinned.checked.prog.funcNamed Rows.searchesUptoRow.func=some f)(hfn:Tryz.pinned.checked.prog.funcs[f]? = some fn) :
  true=Tryz.pinned.checked.prog.looks []/\∀ (j:Nat) t,fn.params[j]? = some t->Tryz.pinned.checked.prog.wantsStandIn t=false:=by
 obtain rfl:f=3:=Jy ((show Tryz.prog.funcNamed Rows.searchesUptoRow.func=some 3 by kernel_rfl).symm.trans hf) |>.symm;obtain rfl:fn=Tryz.f3:=(Jy (Tryz.func3.symm.trans hfn)).symm;refine⟨by kernel_rfl,λj t ht=>?_⟩;rw[Tryz.params3]at ht;obtain rfl:t=22:=by simpa using Array.mem_of_getElem? ht
 exact(show Tryz.prog.wantsStandIn 22=false by kernel_rfl)
theorem searches_proved:Rows.SearchesUptoCardSaid:=
 Claim7.holds_tied_plain_at .later [] _ _ _ _ Rq (λ_ h=>by cases h) (by kernel_rfl) (λ_ h=>by cases h) searchesUpto_row_tie rfl ⟨rfl,rfl⟩ (by kernel_rfl) rfl plain (by kernel_rfl)
#print axioms searches_proved
