import Derived.Test.YtpcfbajdeipgbaaGreatDoorX02
import Derived.Test.YtpcfbajdeipgbaaGreatDoorX04
set_option linter.all false
set_option maxRecDepth 100000
set_option maxHeartbeats 0
namespace Go.Proofs.Zz
open Go.RowKit Go.Shelf
open List renaming length->N,getD->E
open Go.Value renaming slice->Z,int->I,bool->EP
open Go.Proofs.Tryz renaming prog->V
open Option renaming some->O
open Go.IntKind renaming i64->J
open Bool renaming false->F,true->T
open Go renaming World->U,Value->KX
open Go.World renaming heap->H,setCell->qw,cell?->Am
open _root_.Array renaming size->M
open Go.RowKit renaming Hid->Wl
open Go.Obj renaming cells->FL
open Go.Ending renaming returned->FR
variable {fn:Func} {G R a aT b i i1 i2 j jp k lc len lo lo' m mb n p s x y1:Nat} {t tI ty:TypeId} {B1 B2 B3 P P' Q Q' X X' Y' Yq:List ae} {A B W W' w wr:U} {v:KX} {C cs iC kc l ps r sc src xs:List Int} {L ks rows:List (List Int)} {ao:Option Addr} {ls:List az} {c lk rk:Int} {ts:List ag} {α:Type} {cnt:Nat->Nat} {r' y:ae} {cf:ae->ae->Int}
def Kh{p:Tmp}(h:fn.results=#[.cell p ty])(tmps:Array KX)(P:Program)(w:U) :
  (results fn tmps).run P w=((asAddr (tmps.getD p undef)).run P w).andThen λa b=>(loadVar ty a).run P b:=by simp only[results,h];simp_all
def nK{p:Tmp}(h:fn.results=#[.cell p ty]){tmps:Array KX}{P:Program}{B:Nat}(hp:tmps.getD p undef=.pointer (O (aD B 0)))(hl:(loadVar ty (aD B 0)).run P w=.ok v w) :
  (results fn tmps).run P w=.ok v w:=by rw[Kh h,hp];simp[go_sem]at hl ⊢;simp[hl]
def nnV(v:Int):Int:=if v=1073741824 then 0 else v
def Hl(v:Int):Prop:=v=1073741824∨(-1000<=v/\v<=1000)
def A7(iC:List Int):Nat:=N (iC.filter λv=>!decide (v=1073741824))
def wG(iC:List Int):Int:=(iC.map nnV).sum
def lh(iC:List Int):Int:=if A7 iC=0 then 1073741824 else wG iC
theorem LP(iC:List Int)(v:Int):A7 (iC++[v])=if v=1073741824 then A7 iC else A7 iC+1:=by unfold A7;grind
def LQ(iC:List Int)(v:Int):wG (iC++[v])=if v=1073741824 then wG iC else wG iC+v:=by
 unfold wG;rw[Ql,List.sum_append];by_cases h:v=1073741824
 .rw[Qu h];simp[nnV,h]
 .rw[QC h];simp[nnV,h]
def YQ(iC:List Int):A7 iC<=N iC:=XP _ _
def NG:∀(iC:List Int),(∀v∈iC,Hl v)->-(1000*(N iC:Int))<=wG iC/\wG iC<=1000*(N iC:Int)
 |[],_=>by simp[wG]
 |v::iC,h=>by
  have ih:=NG iC (λx hx=>h x (by simp[hx]));have h1:=h v (by simp);have e:wG (v::iC)=nnV v+wG iC:=by simp[wG]
  rw[e,QJ];have h2:-1000<=nnV v/\nnV v<=1000:=by unfold nnV Hl at*;omega
  omega
theorem abR(h:A7 iC=0):wG iC=0:=by
 unfold A7 at h;have b:=QF h;rw[XQ]at b;unfold wG;have:iC.map nnV=iC.map (λ_=>(0:Int)):=QU λv d=>by grind [nnV]
 rw[this];clear this h b
 induction iC with
 |nil=>rfl
 |cons a l ih=>simp_all
def uT(kc sc:List Int)(rows:List (List Int)):List Int:=aB (rows.headD []) kc++[(N rows:Int)]++sc.map λc=>lh (rows.map λr=>E r c.toNat 0)
theorem Ro{v:Int}(hc:∀x∈iC,Hl x)(_hv:Hl v)(hl:N iC<=100000):J8 (lh iC) v=lh (iC++[v]):=by
 unfold J8 lh;rw[LP,LQ];by_cases h:v=1073741824
 .simp_all
 .rw[QC h,QC h,QC h];have a:=NG iC hc
  grind [abR]
theorem YR{sc:List Int}:∀(R P:List (List Int)) (g:Gr),(∀r∈P++R,∀c∈sc,Hl (E r c.toNat 0))->N (P++R)<=100000->g.cnt=N P->g.ss=sc.map (λc=>lh (P.map λr=>E r c.toNat 0))->
  R.foldl (λg r=>mQ r sc g) g=⟨g.key,N (P++R),sc.map λc=>lh ((P++R).map λr=>E r c.toNat 0)⟩
 |[],P,g,_,_,h1,h2=>by rw[QN];obtain⟨k,n,s⟩:=g;simp_all
 |r::R,P,g,h,hl,h1,h2=>by
  rw[QY];have e:P++r::R=(P++[r])++R:=by simp
  have:=YR R (P++[r]) (mQ r sc g) (by rw[<-e];exact h) (by grind) (by show g.cnt+1=_;rw[h1];simp) (by
   show ik g.ss r sc=_;rw[h2];unfold ik;rw[List.zipWith_map_left];apply XT (by simp);intro i b d;have a:i<N sc:=by grind
   simp only[List.getElem_zipWith,XU,Ql,Zd,List.map_nil];refine Ro (λx f=>?_) (h r (by simp) _ (Qi a)) ?_
   .grind
   grind)
  rw[this,e];rfl
theorem YS(R:List (List Int))(key:List Int)(h:∀r∈R,∀c∈sc,Hl (E r c.toNat 0))(hl:N R<=100000) :
  (R.foldl (λg r=>mQ r sc g) (mR key (N sc))).row=key++[(N R:Int)]++sc.map λc=>lh (R.map λr=>E r c.toNat 0):=by
 have:=YR (sc:=sc) R [] (mR key (N sc)) (by simpa using h) (by simp_all) rfl (by
  show List.replicate (N sc) (1073741824:Int)=_;apply XT (by simp);grind [lh,A7])
 rw[this,ZU];rfl
def oF(kc sc:List Int):Nat->List (List Int)->List (List Int)
 |0,_=>[]
 |_+1,[]=>[]
 |n+1,r::rs=>uT kc sc ((r::rs).filter λx=>decide (aB x kc=aB r kc))::oF kc sc n ((r::rs).filter λx=>!decide (aB x kc=aB r kc))
def uu(kc:List Int)(gs:List Gr)(x:List Int):Bool:=(gs.map Gr.key).any λk=>decide (k=aB x kc)
def NH{rs:List (List Int)}:((r::rs).filter λx=>!decide (aB x kc=aB r kc))=rs.filter λx=>!decide (aB x kc=aB r kc):=by simp_all
theorem Vh{k:List Int}(h:jE ks k=O i):∃hi:i<N ks,ks[i]=k:=by unfold jE at h;grind [List.findIdx?_eq_some_iff_getElem]
def Vi{k:List Int}(h:jE ks k=none):∀a∈ks,a≠k:=by unfold jE at h;simp_all
theorem tK{kc sc:List Int}:∀(rows:List (List Int)) (gs:List Gr) (n:Nat),(gs.map Gr.key).Pairwise (· ≠ ·)->N rows<=n->N rows<=100000->(∀r∈rows,∀c∈sc,Hl (E r c.toNat 0))->
  (rows.foldl (stepG kc sc) gs).map Gr.row=(gs.map λg=>((rows.filter λx=>decide (aB x kc=g.key)).foldl (λg r=>mQ r sc g) g).row)++oF kc sc n (rows.filter λx=>!uu kc gs x)
 |[],gs,n,_,_,_,_=>by
  rw[List.foldl_nil,List.filter_nil];have e:oF kc sc n []=[]:=by cases n <;> rfl
  simp_all
 |r::rows,gs,n,hp,hn,hl,hv=>by
  rw[QY]
  cases hf:jE (gs.map Gr.key) (aB r kc) with
  |some i =>
   obtain⟨D,G⟩:=Vh hf;have Q:i<N gs:=by grind
   have y:gs[i].key=aB r kc:=by simp_all
   have l:stepG kc sc gs r=gs.modify i (mQ r sc):=by unfold stepG;rw[hf]
   have d:(gs.modify i (mQ r sc)).map Gr.key=gs.map Gr.key:=by apply XT (by simp);intro j K L;rw[XU,XU,XV];split <;> rfl
   have p:∀x,uu kc (gs.modify i (mQ r sc)) x=uu kc gs x:=λx=>by unfold uu;rw[d]
   have f:uu kc gs r=true:=by unfold uu;grind
   rw[l,tK rows _ n (by simp_all) (by grind) (by grind) (λx k=>hv x (by simp[k]))];congr 1
   .apply XT (by simp);intro j K L;have R:j<N gs:=by simp_all
    simp only[XU,XV];by_cases u:i=j
    .grind
    .rw[QC u];have z:¬aB r kc=gs[j].key:=by rw[<-y];have:=Zl.1 hp;grind
     simp_all
   simp_all
  |none =>
   have q:=Vi hf;have l:stepG kc sc gs r=gs++[mQ r sc (mR (aB r kc) (N sc))]:=by unfold stepG;rw[hf]
   have f:uu kc gs r=false:=by unfold uu;simp_all
   obtain⟨m,rfl⟩:∃m,n=m+1:=⟨n-1,by grind⟩;have p:∀x,uu kc (gs++[mQ r sc (mR (aB r kc) (N sc))]) x=(uu kc gs x ||decide (aB r kc=aB x kc)):=λx=>by unfold uu;rw[Ql,List.any_append];simp[mQ,mR]
   have t:((gs++[mQ r sc (mR (aB r kc) (N sc))]).map Gr.key).Pairwise (· ≠ ·):=by rw[Ql,Xi];refine⟨hp,List.pairwise_singleton _ _,λa P b v=>?_⟩;rw[List.map_singleton,Xj]at v;subst v;exact q a P
   rw[l,tK rows _ m t (by simp_all) (by grind) (λx k=>hv x (by simp[k])),Ql,Zu];congr 1
   .apply QU
    grind
   .have A:(r::rows).filter (λx=>!uu kc gs x)=r::rows.filter (λx=>!uu kc gs x):=List.filter_cons_of_pos (by rw[f];rfl);rw[A]
    show _=uT kc sc ((r::rows.filter (λx=>!uu kc gs x)).filter λx=>decide (aB x kc=aB r kc))::oF kc sc m ((r::rows.filter (λx=>!uu kc gs x)).filter λx=>!decide (aB x kc=aB r kc));rw[NH,List.filter_filter,List.map_singleton,List.singleton_append];have B:(r::rows.filter (λx=>!uu kc gs x)).filter (λx=>decide (aB x kc=aB r kc))=r::rows.filter (λx=>decide (aB x kc=aB r kc)):=by
     rw[List.filter_cons_of_pos (by simp),List.filter_filter];congr 1;apply List.filter_congr;intro x _;by_cases h:aB x kc=aB r kc
     .have:uu kc gs x=false:=by rw[<-f];unfold uu;rw[h]
      simp_all
     .simp[h]
    rw[B];congr 1
    .have C:(mQ r sc (mR (aB r kc) (N sc))).key=aB r kc:=rfl;rw[C];have:=YS (sc:=sc) (r::rows.filter λx=>decide (aB x kc=aB r kc)) (aB r kc) (λx k=>by
      grind) (by
      grind)
     grind [uT]
    grind
def ed(kc sc:List Int)(rows:List (List Int)):List (List Int):=if kc=[] then [uT [] sc rows] else oF kc sc (N rows) rows
def Vj(hl:N rows<=100000)(hv:∀r∈rows,∀c∈sc,Hl (E r c.toNat 0)):(fq kc sc rows).map Gr.row=ed kc sc rows:=by
 unfold fq ed cK;by_cases a:kc=[]
 .subst a;rw[Qu rfl,Qu rfl,tK rows _ (N rows) (List.pairwise_singleton _ _) (Qs _) hl hv];have b:(rows.filter λx=>decide (aB x []=(mR [] (N sc)).key))=rows:=List.filter_eq_self.2 λx _=>by rfl
  have d:(rows.filter λx=>!uu [] [mR [] (N sc)] x)=[]:=XQ.2 λx _=>by simp[uu,mR,aB]
  rw[d,List.map_singleton,b,YS rows [] hv hl];have e:oF [] sc (N rows) []=[]:=by cases (N rows) <;> rfl
  rw[e];rfl
 .rw[QC a,QC a,tK rows [] (N rows) List.Pairwise.nil (Qs _) hl hv];rw[List.map_nil,ZU];congr 1;exact List.filter_eq_self.2 λx _=>by simp[uu]
def eT(Ez:El ae (List Int))(P:Program)(v:KX)(rows:List (List Int))(w:U):Prop:=
 ∃g lb,v=.func (.func g) #[] lb/\(∀args w,(callFunc g args).run P w=.ok (.enter g args) w)/\Seq Ez P g lb rows w
def eT.later{Ez:El ae (List Int)}{P:Program}{v:KX}{rows:List (List Int)}{w w':U}(h:eT Ez P v rows w)(hb:Bw w w'):eT Ez P v rows w':=by obtain⟨g,lb,a,b,d⟩:=h;exact⟨g,lb,a,b,Seq.later Ez d hb⟩
def tO(a b:Int)(w:U):Ce 157 #[I J a,I J b] w (I J (dP a b)):=by
 unfold dP;by_cases f:a=b
 .rw[Qu f];have i:(a==b)=true:=by simpa using f
  go_enter Tryz.func157,Tryz.ntmps157;go_wp2;go_ret;exact⟨rfl,rfl⟩
 .rw[QC f];have i:(a==b)=false:=by simpa using f
  by_cases d:a=1073741824
  .rw[Qu d];have j:(a==1073741824)=true:=by simpa using d
   clear d;go_enter Tryz.func157,Tryz.ntmps157;go_wp2;go_ret;exact⟨rfl,rfl⟩
  .rw[QC d];have j:(a==1073741824)=false:=by simpa using d
   by_cases e:b=1073741824
   .rw[Qu e];have k:(b==1073741824)=true:=by simpa using e
    clear e;go_enter Tryz.func157,Tryz.ntmps157;go_wp2;go_ret;exact⟨rfl,rfl⟩
   .rw[QC e];have k:(b==1073741824)=false:=by simpa using e
    by_cases g:a<b
    .rw[Qu g];go_enter Tryz.func157,Tryz.ntmps157;go_wp2;go_ret;exact⟨rfl,rfl⟩
    .rw[QC g];go_enter Tryz.func157,Tryz.ntmps157;go_wp2;go_ret;exact⟨rfl,rfl⟩
def I6{p:Addr}(h:A.cell? p=O v)(hk:Kept (λ_=>True) A B):B.cell? p=O v:=
 (ZK (hk.block _ (ZJ h) trivial)).trans h
def I7{p:Addr}(h:A.cell? p=O v)(hk:Kept (λb=>b≠n) A B)(hp:p.block≠n):B.cell? p=O v:=
 (ZK (hk.block _ (ZJ h) hp)).trans h
structure iV(mb:Nat)(lo:Option Addr)(lc:Nat)(l:List Int)(W:U):Prop where
 num:∃k:Nat,k<=N l/\Am W (aD mb 1)=O (I J k)
 lst:Am W (aD mb 0)=O (Z lo (N l) lc)
 DC:W.frozen? (aD mb 1)=F
 ints:aA W lo l
 off:∀a,lo=O a->a.block≠mb
def iV.keep{mb:Nat}{lo:Option Addr}{lc:Nat}{l:List Int}{A B:U}(h:iV mb lo lc l A)(hk:Kept (λ_=>True) A B):iV mb lo lc l B:=by obtain⟨k,b,d⟩:=h.num;exact⟨⟨k,b,I6 d hk⟩,I6 h.lst hk,(Xh (a:=(aD mb 1)) (hk.block mb (ZJ (p:=(aD mb 0)) h.lst) trivial)).trans h.DC,⟨h.ints.1,h.ints.2.keep λa f e=>hk.block _ e trivial⟩,h.off⟩
def iV.more{lo:Option Addr}(h:iV mb lo lc l A)(hk:k<=N l):iV mb lo lc l (qw A (aD mb 1) (I J k)):=by obtain⟨m,_,f⟩:=h.num;have d:Kept (λb=>b≠mb) A (qw A (aD mb 1) (I J k)):=⟨rfl,rfl,rfl,by simp[World.setCell],λb _ i=>Below.heap_setCell A _ _ b i⟩;refine⟨⟨k,hk,World.cell?_setCell_same' _ _ _ (by rw[f];rfl)⟩,?_,by rw[World.frozen?_setCell];exact h.DC,⟨h.ints.1,h.ints.2.keep λa j g=>d.block _ g (h.off a j)⟩,h.off⟩;exact(World.cell?_setCell_other A (aD mb 1) (aD mb 0) (I J k) (λe=>by cases e)).trans h.lst
theorem iV.lt{lo:Option Addr}(h:iV mb lo lc l A):mb<M (H A):=ZJ (p:=(aD mb 0)) h.lst
def iV.alloc{mb:Nat}{lo:Option Addr}{lc:Nat}{l:List Int}{A:U}(h:iV mb lo lc l A)(o:Obj):iV mb lo lc l (A.alloc o):=h.keep (ZE _ _)
def iV.set{lo:Option Addr}(h:iV mb lo lc l A)(v:KX)(h1:G≠mb)(h2:∀a,lo=O a->a.block≠G):iV mb lo lc l (qw A (aD G i) v):=by have d:Kept (λb=>b≠G) A (qw A (aD G i) v):=Xc _ _ _ (λh=>h rfl);obtain⟨k,e,f⟩:=h.num;exact⟨⟨k,e,I7 f d (Ne.symm h1)⟩,I7 h.lst d (Ne.symm h1),(Xh (a:=(aD mb 1)) (d.block mb h.lt (Ne.symm h1))).trans h.DC,⟨h.ints.1,h.ints.2.keep λa j g=>d.block _ g (h2 a j)⟩,h.off⟩
structure bq.New(f:bq)(n:Nat):Prop where
 ca:∀a,f.ca=O a->n<=a.block
 ra:∀a,f.ra=O a->n<=a.block
 na:∀a,f.na=O a->n<=a.block
 pa:∀a,f.pa=O a->n<=a.block
def oH{off:Nat}(h:Am A (aD b off)=O v)(hk:Kept (λx=>x≠R) A B)(hb:b≠R):Am B (aD b off)=O v:=ZY h hk hb
def iB.but{xs:List Nat}(h:iB A ao xs)(hk:Kept (λx=>x≠R) A B)(hb:∀a,ao=O a->a.block≠R):iB B ao xs:=⟨h.1,λi f=>by
 obtain⟨b,off,e,d⟩:=h.2 i f;exact⟨b,off,e,oH d hk (hb _ e)⟩⟩
def jL.but{cs:List (Nat × Int)}(h:jL A ao cs)(hk:Kept (λx=>x≠R) A B)(hb:∀a,ao=O a->a.block≠R):jL B ao cs:=⟨h.1,λi g=>by
 obtain⟨b,off,e,d,f⟩:=h.2 i g;exact⟨b,off,e,oH d hk (hb _ e),oH f hk (hb _ e)⟩⟩
def bP.but{ps:List aK}(h:bP A ao ps)(hk:Kept (λx=>x≠R) A B)(hb:∀a,ao=O a->a.block≠R)(ho:∀i,i<N ps->(E ps i bz).Ok w)(hw:Bw w B):bP B ao ps:=⟨h.1,λi f=>by
 obtain⟨⟨b,off,e,g,j,k,l,m,n⟩,_⟩:=h.2 i f;have d:=hb _ e;exact⟨⟨b,off,e,oH g hk d,oH j hk d,oH k hk d,oH l hk d,oH m hk d,oH n hk d⟩,(ho i f).below hw⟩⟩
def bq.At.but{A B:U}{R:Nat}{f:bq}{ts:List ag}{q:af}(h:f.At ts q A)(hk:Kept (λx=>x≠R) A B){n:Nat}(hn:f.New n)(hR:R<n)(hq:q.At B):f.At ts q B:=
 ⟨hq,h.cols.but hk (λa e=>by have:=hn.ca a e;omega),h.rows.but hk (λa e=>by have:=hn.ra a e;omega),h.ame.but hk (λa e=>by have:=hn.na a e;omega),h.parts.but hk (λa e=>by have:=hn.pa a e;omega),h.nl,h.pl⟩
def Ia(c:aF)(ao:Option Addr)(cap:Nat)(xs:List Int)(w:U)(hx:aA w ao xs)(hop:c.op=0∨c.op=1∨c.op=2)(hl:0<=c.left/\c.left<N xs)(hr:c.op=2∨c.const=T∨(0<=c.right/\c.right<N xs)) :
  Cb 191 #[c.val,Z ao (N xs) cap] w (I J (gF c.op (E xs c.left.toNat 0) (if c.op=2∨c.const=T then c.right else E xs c.right.toNat 0)+1)):=by
 have y:=hx.1;obtain⟨b,off,rfl,l⟩:=hx.get (i:=c.left.toNat) (by omega);have q:=Qq (l c.left.toNat (by omega));obtain⟨B,C,left,d,right⟩:=c;unfold aF.val;simp only at hop hl hr q;simp only;generalize m:E xs left.toNat 0=L at*;rcases hop with rfl|rfl|rfl
 .cases d
  .have r:0<=right/\right<N xs:=by
    rcases hr with h|h|h
    .omega
    .cases h
    .exact h
   have t:=Qq (l right.toNat (by omega));rw[show (if (0:Int)=2∨F=T then right else E xs right.toNat 0)=E xs right.toNat 0 from QC (by simp)];clear hr l hx m;generalize E xs right.toNat 0=Q at*;generalize f:gF 0 L Q+1=R;refine kV L 1073741824 ?_ ?_ <;> intro e n p <;> refine kV Q 1073741824 ?_ ?_ <;> intro g u v <;> refine kV L Q ?_ ?_ <;> intro k z A
   all_goals
    have j:=Zh (X4 f (X4 e (X4 g k)));clear f e g k;go_enter Tryz.func191,Tryz.ntmps191;go_wp2;go_ret;exact⟨Qe (by obtain⟨h,a,b,c⟩:=j.o;rw[<-h];simp[gF,a,b,c] <;> split <;> omega),bJ _ _⟩
  .rw[show (if (0:Int)=2∨T=T then right else E xs right.toNat 0)=right from Qu (by simp)];clear hr l hx m;generalize right=Q at*;generalize f:gF 0 L Q+1=R;refine kV L 1073741824 ?_ ?_ <;> intro e n p <;> refine kV Q 1073741824 ?_ ?_ <;> intro g u v <;> refine kV L Q ?_ ?_ <;> intro k z A
   all_goals
    have j:=Zh (X4 f (X4 e (X4 g k)));clear f e g k;go_enter Tryz.func191,Tryz.ntmps191;go_wp2;go_ret;exact⟨Qe (by obtain⟨h,a,b,c⟩:=j.o;rw[<-h];simp[gF,a,b,c] <;> split <;> omega),bJ _ _⟩
 .cases d
  .have r:0<=right/\right<N xs:=by
    rcases hr with h|h|h
    .omega
    .cases h
    .exact h
   have t:=Qq (l right.toNat (by omega));rw[show (if (1:Int)=2∨F=T then right else E xs right.toNat 0)=E xs right.toNat 0 from QC (by simp)];clear hr l hx m;generalize E xs right.toNat 0=Q at*;generalize f:gF 1 L Q+1=R;refine kV L 1073741824 ?_ ?_ <;> intro e n p <;> refine kV Q 1073741824 ?_ ?_ <;> intro g u v <;> by_cases k:L<Q
   all_goals
    have j:=Zh (X4 f (X4 e (X4 g k)));clear f e g;go_enter Tryz.func191,Tryz.ntmps191;go_wp2;go_ret;exact⟨Qe (by obtain⟨h,a,b,c⟩:=j.o;rw[<-h];simp[gF,a,b,c] <;> split <;> omega),bJ _ _⟩
  .rw[show (if (1:Int)=2∨T=T then right else E xs right.toNat 0)=right from Qu (by simp)];clear hr l hx m;generalize right=Q at*;generalize f:gF 1 L Q+1=R;refine kV L 1073741824 ?_ ?_ <;> intro e n p <;> refine kV Q 1073741824 ?_ ?_ <;> intro g u v <;> by_cases k:L<Q
   all_goals
    have j:=Zh (X4 f (X4 e (X4 g k)));clear f e g;go_enter Tryz.func191,Tryz.ntmps191;go_wp2;go_ret;exact⟨Qe (by obtain⟨h,a,b,c⟩:=j.o;rw[<-h];simp[gF,a,b,c] <;> split <;> omega),bJ _ _⟩
 .rw[show (if (2:Int)=2∨d=T then right else E xs right.toNat 0)=right from Qu (by simp)];clear hr l hx m;generalize f:gF 2 L right+1=R;refine kV L 1073741824 ?_ ?_ <;> intro e n p
  all_goals
   have j:=Zh (X4 f e);clear f e;go_enter Tryz.func191,Tryz.ntmps191;go_wp2;go_ret;exact⟨Qe (by obtain⟨h,a⟩:=j.o;rw[<-h];simp[gF,a]),bJ _ _⟩
def VB(c:aF)(xs:List Int):fT c xs=if c.not then -(gF c.op (E xs c.left.toNat 0) (if c.op=2∨c.const=T then c.right else E xs c.right.toNat 0)) else gF c.op (E xs c.left.toNat 0) (if c.op=2∨c.const=T then c.right else E xs c.right.toNat 0):=rfl
def VD(hk:k<N ls)(h:gX (E ls k lz).cs xs=F):F=pq ls xs:=by
 symm;unfold pq;rw[X5];have e:E ls k lz=ls[k]:=by simp[List.getD,hk]
 refine⟨ls[k],Qi hk,?_⟩;rw[e]at h;rw[h];simp
def RD(hk:k<N ls)(hp:pq (ls.take k) xs=T)(h:gX (E ls k lz).cs xs=T):pq (ls.take (k+1)) xs=true:=by
 unfold pq at*;have e:E ls k lz=ls[k]:=by simp[List.getD,hk]
 rw[e]at h;rw[Qh hk,List.all_append,hp,List.all_cons,List.all_nil,h];rfl
def Ki(c:aF)(ao:Option Addr)(cap:Nat)(xs:List Int)(w:U)(hx:aA w ao xs)(hop:c.op=0∨c.op=1∨c.op=2)(hl:0<=c.left/\c.left<N xs)(hr:c.op=2∨c.const=T∨(0<=c.right/\c.right<N xs)) :
  Cb 188 #[c.val,Z ao (N xs) cap] w (I J (fT c xs+1)):=by
 have a:=bJ w (FL #[EP c.not,I J c.op,I J c.left,EP c.const,I J c.right] 90);have d:=Ia c ao cap xs _ (Qt a hx) hop hl hr;rw[VB];have g:=BM c.op (E xs c.left.toNat 0) (if c.op=2∨c.const=T then c.right else E xs c.right.toNat 0);generalize gF c.op (E xs c.left.toNat 0) (if c.op=2∨c.const=T then c.right else E xs c.right.toNat 0)=Tq at*;obtain⟨j,m,left,b,right⟩:=c;unfold aF.val at*;simp only at*;clear hop hl hr hx;have i:Am (w.alloc (FL #[EP j,I J m,I J left,EP b,I J right] 90)) (aD (M (H w)) 0)=O (EP j):=by simp
 have k:=Zh a;clear a;rcases g with rfl|rfl|rfl <;> cases j
 all_goals
  go_enter Tryz.func188,Tryz.ntmps188;go_wp2_with fail;refine d.mono ?_;rintro e n ⟨rfl,f⟩;have l:=cB f i;go_wp2;go_ret;exact⟨rfl,k.o.trans (f.mono (by simp))⟩
def FO(c:az)(ao:Option Addr)(cap:Nat)(xs:List Int)(w:U)(hx:aA w ao xs)(hc:bS w c.ad c.cs)(hcs:∀k,k<N c.cs->dC (E c.cs k cz) (N xs)=T) :
  Cb 178 #[.agg #[c.val],Z ao (N xs) cap] w (I J (mZ c.cs xs)):=by
 obtain⟨ad,dK,cs⟩:=c;unfold az.val;simp only at hc hcs;simp only;have g:=bJ w (FL #[Z ad (N cs) dK] 88);have K:=Zh g;have L:=hc.1;have P:Wl _:=hc;have Q:Wl _:=hx;have R:=Zh hcs;clear hx hc hcs g;go_enter Tryz.func178,Tryz.ntmps178;go_wp2;go_loopw [5,11] (λm i wr=>∃k:Nat,k<=N cs/\i=I J k/\m=I J (mZ (cs.take k) xs)/\Bw w wr) (λ_ i _=>N cs-(intOf i).toNat)
 case atStart=>exact⟨0,Q4 _,rfl,rfl,K.o⟩
 case round=>
  obtain⟨k,hk,rfl,rfl,a⟩:=hrel;by_cases f:k<N cs
  .obtain⟨b4,o4,rfl,v,y,z,A,B⟩:=P.o.2 k f;obtain⟨d0,d1,d2,d3,d4⟩:=ji a v y z A B;obtain⟨C,D,G⟩:=EN (R.o k f);have S:=Zh (Nh (xs:=xs) f);have W:=zU (cs.take k) xs;have X:=vO (E cs k cz) xs;have n:=a.size;generalize E cs k cz=cc at*;have d:=bJ wr (FL #[EP cc.not,I J cc.op,I J cc.left,EP cc.const,I J cc.right] 90);have b:=Ki cc ao cap xs _ (Qt d (Qt a Q.o)) C D G;generalize fT cc xs=Tq at*;generalize mZ (cs.take k) xs=Mq at*;have p:=Zh d;obtain⟨nt,op,left,u,right⟩:=cc;unfold aF.val at b;simp only at*;clear v y z A B C D G d;have q:max Mq (Tq+1)=if Mq<Tq+1 then Tq+1 else Mq:=by omega
   go_wp2_with fail;refine b.mono ?_;rintro e w2 ⟨rfl,l⟩;have j:=a.trans ((p.o.trans (l.mono (by simp))).mono n);have r:=Zh j;clear j l b a d0 d1 d2 d3 d4;go_wp2;go_roundw
   case rel=>exact⟨k+1,by omega,by go_num,by rw[S.o,q],r.o⟩
   case measure=>simp[intOf];omega
  .have t:k=N cs:=by omega
   subst t;rw[Zb];go_wp2;go_ret;exact⟨rfl,a⟩
def ab4(dx:Option Addr)(aP:Nat)(wh:List az)(ao:Option Addr)(cap:Nat)(xs:List Int)(w:U)(hx:aA w ao xs)(hq:bR w dx wh)
  (hcs:∀i,i<N wh->∀k,k<(E wh i lz).cs.length->dC ((E wh i lz).cs.getD k cz) (N xs)=T) :
  Cb 161 #[Z dx (N wh) aP,Z ao (N xs) cap] w (EP (pq wh xs)):=by
 have G:=hq.1;have D:Wl _:=hq;have K:Wl _:=hx;have L:=Zh hcs;clear hx hq hcs;go_enter Tryz.func161,Tryz.ntmps161;go_wp2;go_loopw [9] (λi wr=>∃k:Nat,k<=N wh/\i=I J k/\Wl (pq (wh.take k) xs=T)/\Bw w wr) (λi _=>N wh-(intOf i).toNat)
 case atStart=>exact⟨0,Q4 _,rfl,rfl,Qr _ _⟩
 case round=>
  obtain⟨k,W,rfl,u,b⟩:=hrel;by_cases d:k<N wh
  .obtain⟨X,o2,rfl,t⟩:=D.o.2.1.get d;have l:=cB b (t _ d);have m:=D.o.2.2 k d;have n:=L.o k d;have P:Wl (gX (E wh k lz).cs xs=F->F=pq wh xs):=λh=>VD d h
   have y:Wl (gX (E wh k lz).cs xs=T->pq (wh.take (k+1)) xs=T):=λh=>RD d u.o h;have z:=b.size;generalize E wh k lz=cl at*;have p:=bJ wr (FL #[cl.val] 88);have g:=b.trans (p.mono z);have a:=FO cl ao cap xs _ (Qt g K.o) (m.below g) n;have q:=Ni cl.cs xs;have Q:=zU cl.cs xs;have r:=Zh g;obtain⟨ad,cp,cs⟩:=cl;unfold az.val at*;simp only at*;generalize mZ cs xs=Mq at*;clear t m n p g;by_cases v:Mq=2
   .have A:gX cs xs=true:=by rw[<-q,v];rfl
    subst v;go_wp2_with fail;refine a.mono ?_;rintro e S ⟨rfl,f⟩;have j:=Zh (r.o.trans (f.mono (by simp;omega)));clear f a b l;go_wp2;go_roundw
    case rel=>exact⟨k+1,by omega,by go_num,y.o A,j.o⟩
    case measure=>simp[intOf];omega
   .have A:gX cs xs=false:=by rw[<-q];simp[v]
    have R:(Mq != 2)=true:=by simpa using v
    go_wp2_with fail;refine a.mono ?_;rintro e S ⟨rfl,f⟩;have j:=Zh (r.o.trans (f.mono (by simp;omega)));clear f a b l;go_wp2;go_ret;exact⟨Qd (P.o A),j.o⟩
  .have B:k=N wh:=by omega
   subst B;rw[Zb]at u;have C:=Zh u.o.symm;clear u;go_wp2;go_ret;exact⟨Qd C.o,b⟩
def bI(C:List Int)(c:Int):Int:=(C.idxOf c:Int)
def aO(C cs:List Int):List Int:=cs.map (bI C)
def fu(n:Nat)(C r:List Int):List Int:=(List.range n).map λ(c:Nat)=>if (c:Int)∈C then E r (C.idxOf (c:Int)) 0 else 0
def dE(C:List Int)(c:aF):aF:={ c with left:=bI C c.left,right:=if c.op≠2/\c.const=F then bI C c.right else c.right }
def jo(ls:List az)(C is r:List Int):Bool:=is.all λi=>gX ((E ls i.toNat lz).cs.map (dE C)) r
def YT(n:Nat)(C:List Int)(c:Int):Prop:=0<=c/\c<n/\c∈C
theorem zk(n:Nat)(C r:List Int):N (fu n C r)=n:=by simp[fu]
theorem rJ(h:YT n C c):E (fu n C r) c.toNat 0=E r (bI C c).toNat 0:=by obtain⟨a,b,d⟩:=h;grind [fu,bI]
theorem zm(h:∀c∈cs,YT n C c):aB (fu n C r) cs=aB r (aO C cs):=by grind [aB,aO,List.map_congr_left,rJ]
theorem Vk{c:aF}(h:∀x∈aL c,YT n C x):fT c (fu n C r)=fT (dE C c) r:=by
 unfold aL at h;unfold fT dE;simp only;by_cases b:c.op≠2/\c.const=F
 .rw[Qu b]at h ⊢;have a:¬(c.op=2∨c.const=T):=by simp_all
  rw[QC a,QC a,rJ (h c.left (by simp)),rJ (h c.right (by simp))]
 .rw[QC b]at h ⊢;have a:c.op=2∨c.const=true:=by grind
  rw[Qu a,Qu a,rJ (h c.left (by simp))]
theorem LU{n:Nat}{C r:List Int}:∀{cs:List aF},(∀x∈aG cs,YT n C x)->gX cs (fu n C r)=gX (cs.map (dE C)) r
 |[],_=>rfl
 |c::cs,h=>by have h1:=Vk (r:=r) (c:=c) λx hx=>h x (by grind [aG]);have h2:=LU (r:=r) (cs:=cs) λx hx=>h x (by grind [aG]);grind [gX]
def DR{n:Nat}{C r:List Int}{ls:List az}:∀{is:List Int},(∀i∈is,∀x∈aG (E ls i.toNat lz).cs,YT n C x)->eP ls is (fu n C r)=jo ls C is r
 |[],_=>rfl
 |i::is,h=>by have h1:=LU (r:=r) (h i (by simp));have h2:=DR (r:=r) (is:=is) λj hj=>h j (by simp[hj]);unfold eP jo at*;simp_all
theorem Rp{n:Nat}{C x y:List Int}:∀{cs:List Int},(∀c∈cs,YT n C c)->cmpL (fu n C x) (fu n C y) cs=cmpL x y (aO C cs)
 |[],_=>rfl
 |c::cs,h=>by have h2:=Rp (x:=x) (y:=y) (cs:=cs) λj hj=>h j (by simp[hj]);unfold aO at*;rw[Zd];unfold cmpL;grind [rJ]
theorem abS(h:∀c∈cs,YT n C c)(rows:List (List Int)):fI cs (rows.map (fu n C))=(fI (aO C cs) rows).map (fu n C):=by unfold fI;have:=Nk (f:=fu n C) (lt:=GM (aO C cs)) (lt':=GM cs) (λa b=>by grind [GM,Rp]) rows [];simp_all
theorem LV(hk:∀c∈kc,YT n C c)(hs:∀c∈sc,YT n C c)(h0:rows=[]->kc=[]):uT kc sc (rows.map (fu n C))=uT (aO C kc) (aO C sc) rows:=by
 unfold uT;rw[Q8];congr 1
 .congr 1
  cases rows with
  |nil=>rw[h0 rfl];rfl
  |cons r rs=>exact zm hk
 .unfold aO;rw[Zm];refine QU λc a=>?_
  grind [List.map_congr_left,rJ]
theorem LW{n:Nat}{C kc sc:List Int}(hk:∀c∈kc,YT n C c)(hs:∀c∈sc,YT n C c):∀(m:Nat) (rows:List (List Int)),oF kc sc m (rows.map (fu n C))=oF (aO C kc) (aO C sc) m rows
 |0,_=>rfl
 |_+1,[]=>rfl
 |m+1,r::rs=>by
  rw[Zd];unfold oF;rw[<-Zd (f:=fu n C),ZW,ZW];have e1:((λx=>decide (aB x kc=aB (fu n C r) kc)) ∘ fu n C)=λx=>decide (aB x (aO C kc)=aB r (aO C kc)):=by grind [zm]
  have e2:((λx=>!decide (aB x kc=aB (fu n C r) kc)) ∘ fu n C)=λx=>!decide (aB x (aO C kc)=aB r (aO C kc)):=by grind [zm]
  rw[e1,e2,LV hk hs,LW hk hs m];simp_all
theorem Rq(hk:∀c∈kc,YT n C c)(hs:∀c∈sc,YT n C c)(rows:List (List Int)):ed kc sc (rows.map (fu n C))=ed (aO C kc) (aO C sc) rows:=by
 unfold ed;by_cases h:kc=[]
 .subst h;rw[Qu rfl,Qu (show aO C []=[] from rfl),LV hk hs (λ_=>rfl)];rfl
 grind [aO,LW,List.length_map]
def jF(ts:List ag)(src a b second:List Int):List Int:=(List.range (N a)).map λ(c:Nat)=>if ((au ts src (c:Int):Nat):Int)∈second then E b c 0 else E a c 0
theorem Kb{a b:List Int}(h:k<N a):E (a++b) k 0=E a k 0:=by grind
theorem yn{a b:List Int}:E (a++b) (N a+k) 0=E b k 0:=by grind
theorem abT{L R a b second:List Int}(hl:N a=N L)(hd:∀c∈R,c ∉ L)(hs:∀c:Nat,c<n->(((au ts src (c:Int):Nat):Int)∈second↔(c:Int)∈R)) :
  jF ts src (fu n L a) (fu n R b) second=fu n (L++R) (a++b):=by
 unfold jF;rw[zk];show _=(List.range n).map _;refine QU λc g=>?_;have e:c<n:=Zk.1 g;have f:∀C r,E (fu n C r) c 0=if (c:Int)∈C then E r (C.idxOf (c:Int)) 0 else 0:=λC r=>by grind [fu]
 rw[f,f];by_cases d:(c:Int)∈R
 .rw[Qu ((hs c e).2 d),Qu d,Qu (List.mem_append_right _ d),List.idxOf_append,QC (hd _ d),<-hl,Nat.add_comm,yn]
 grind
def bN(r:List Int)(k:Int):Int:=E r k.toNat 0
def jG(lk rk:Int)(L R:List (List Int)):List (List Int):=
 L.flatMap λa=>(R.filter λb=>decide (bN b rk=bN a lk) && !decide (bN a lk=1073741824)).map λb=>a++b
theorem abU{R:List (List Int)}{p:List Int->Bool}(h:∀a∈L,∀b∈R,p (a++b)=T->bN b rk=bN a lk/\bN a lk≠1073741824):(jG lk rk L R).filter p=(jh L R).filter p:=by
 unfold jG jh;rw[List.filter_flatMap,List.filter_flatMap]
 induction L with
 |nil=>rfl
 |cons a L ih =>
  rw[QH,QH,ih (λx d=>h x (by simp[d]))];congr 1;rw[ZW,ZW,List.filter_filter];congr 1;refine List.filter_congr λb e=>?_;show (p (a++b)&&_)=p (a++b)
  cases hp:p (a++b) with
  |false=>rfl
  |true =>
   grind
theorem abV(L R:List (List Int)):N (jh L R)=N L*N R:=by
 unfold jh
 induction L with
 |nil=>simp
 |cons a L ih=>grind
def gH(lk rk:Int):List (List Int)->List (List Int)->List (List Int)
 |[],_=>[]
 |a::L,Iq=>if bN a lk=1073741824 then gH lk rk L Iq else
  (((Iq.dropWhile λb=>decide (dP (bN b rk) (bN a lk)<0)).takeWhile λb=>decide (bN b rk=bN a lk)).map λb=>a++b)++gH lk rk L (Iq.dropWhile λb=>decide (dP (bN b rk) (bN a lk)<0))
def Cc(k:Int)(R:List (List Int)):Prop:=R.Pairwise λa b=>dP (bN a k) (bN b k)<=0
theorem Hm{rk k:Int}:∀{Iq:List (List Int)},Cc rk Iq->(∀b∈Iq,dP k (bN b rk)<=0)->(Iq.takeWhile λb=>decide (bN b rk=k))=Iq.filter λb=>decide (bN b rk=k)
 |[],_,_=>rfl
 |b::Iq,hs,hk=>by
  obtain⟨h1,h2⟩:=Zt.1 hs;have ih:=Hm h2 (λc hc=>hk c (by simp[hc]));by_cases e:bN b rk=k
  .simp_all
  grind [List.takeWhile_cons_of_neg,List.filter_eq_nil_iff,BO,nI]
theorem LY{rk k:Int}:∀{Iq:List (List Int)},Cc rk Iq->∀b∈Iq.dropWhile (λb=>decide (dP (bN b rk) k<0)),dP k (bN b rk)<=0
 |[],_,b,hb=>by cases hb
 |c::Iq,hs,b,hb=>by
  obtain⟨h1,h2⟩:=Zt.1 hs;by_cases e:dP (bN c rk) k<0
  .rw[List.dropWhile_cons_of_pos (by simpa using e)]at hb;exact LY h2 b hb
  grind [BO,List.dropWhile_cons_of_neg,YM]
theorem A8{lk rk:Int}:∀(L D Iq:List (List Int)),Cc lk L->Cc rk Iq->(∀d∈D,∀a∈L,bN a lk≠1073741824->bN d rk≠bN a lk)->gH lk rk L Iq=jG lk rk L (D++Iq)
 |[],_,_,_,_,_=>rfl
 |a::L,D,Iq,hL,hI,hD=>by
  obtain⟨h1,h2⟩:=Zt.1 hL;have ap9:jG lk rk (a::L) (D++Iq)=(((D++Iq).filter λb=>decide (bN b rk=bN a lk) && !decide (bN a lk=1073741824)).map λb=>a++b)++jG lk rk L (D++Iq):=by rfl
  rw[ap9];unfold gH;by_cases hn:bN a lk=1073741824
  .rw[Qu hn,A8 L D Iq h2 hI (λd hd x hx=>hD d hd x (by simp[hx]))]
   grind [List.filter_eq_nil_iff]
  .rw[QC hn];have hsplit:=List.takeWhile_append_dropWhile (p:=λb=>decide (dP (bN b rk) (bN a lk)<0)) (l:=Iq);have hpre:∀d∈Iq.takeWhile (λb=>decide (dP (bN b rk) (bN a lk)<0)),dP (bN d rk) (bN a lk)<0:=λd hd=>by grind [List.all_takeWhile]
   have hsort:Cc rk (Iq.dropWhile λb=>decide (dP (bN b rk) (bN a lk)<0)):=hI.sublist (List.dropWhile_sublist _);have hrun:=Hm hsort (LY hI);have hfil:((D++Iq).filter λb=>decide (bN b rk=bN a lk) && !decide (bN a lk=1073741824))=(Iq.dropWhile λb=>decide (dP (bN b rk) (bN a lk)<0)).filter λb=>decide (bN b rk=bN a lk):=by
    have e1:(λb:List Int=>decide (bN b rk=bN a lk) && !decide (bN a lk=1073741824))=λb=>decide (bN b rk=bN a lk):=by simp_all
    rw[e1]
    conv=>lhs;rw[<-hsplit]
    rw[ZX,ZX];have z1:(D.filter λb=>decide (bN b rk=bN a lk))=[]:=by simp_all
    have z2:((Iq.takeWhile λb=>decide (dP (bN b rk) (bN a lk)<0)).filter λb=>decide (bN b rk=bN a lk))=[]:=by grind [List.filter_eq_nil_iff,nI]
    grind
   have hrest:=A8 L (D++Iq.takeWhile λb=>decide (dP (bN b rk) (bN a lk)<0)) (Iq.dropWhile λb=>decide (dP (bN b rk) (bN a lk)<0)) h2 hsort (λd hd x hx hxn=>by
    grind [bN,aiq,nI])
   simp_all
def Vm{R:List (List Int)}(hL:Cc lk L)(hR:Cc rk R):gH lk rk L R=jG lk rk L R:=
 A8 L [] R hL hR (λd hd=>by cases hd)
theorem Ho:dh (GM ps) rows↔rows.Pairwise λa b=>cmpL a b ps<=0:=by grind [dh,GM,uP]
theorem abW{p:Int}(h:dh (GM (p::ps)) rows):Cc p rows:=by refine(Ho.1 h).imp λ{a b} h=>?_;grind [bN,cmpL.eq_def]
theorem DT{C R a a' b b':List Int}(ha:N a=N C)(ha':N a'=N C):∀{o:List Int},(∀c∈o,c∈C)->cmpL (a++b) (a'++b') (aO (C++R) o)=cmpL a a' (aO C o)
 |[],_=>rfl
 |c::o,h=>by
  have ih:=DT (R:=R) (b:=b) (b':=b') ha ha' (o:=o) λx hx=>h x (by simp[hx]);have hc:=h c (by simp);have hlt:=XW.2 hc;have e:bI (C++R) c=bI C c:=by grind [bI]
  unfold aO at*;rw[Zd,Zd,e];grind [bI,cmpL.eq_def]
theorem LZ(a:List Int):∀ps,cmpL a a ps=0
 |[]=>rfl
 |p::ps=>by unfold cmpL;rw[Qu (nI.2 rfl),LZ a ps]
theorem Vn{R o:List Int}{A B:List (List Int)}(hA:∀a∈A,N a=N C)(ho:∀c∈o,c∈C)(h:dh (GM (aO C o)) A):dh (GM (aO (C++R) o)) (jh A B):=by
 rw[Ho]at h ⊢;unfold jh;rw[List.pairwise_flatMap];refine⟨λa b=>?_,?_⟩
 .grind [List.pairwise_of_forall,DT,LZ]
 grind [List.Pairwise.imp_of_mem,DT]
def Vo(ps:List Int)(rows:List (List Int)):dh (GM ps) (fI ps rows):=by unfold fI;exact GK (Lp ps) rows List.Pairwise.nil
def iI(kc sc:List Int)(gs:List Gr)(row:List Int):List Gr:=
 match gs.getLast? with
 |some g=>if g.key=aB row kc then gs.dropLast++[mQ row sc g] else gs++[mQ row sc (mR (aB row kc) (N sc))]
 |none=>[mQ row sc (mR (aB row kc) (N sc))]
def l7(kc sc:List Int)(rows:List (List Int)):List Gr:=rows.foldl (iI kc sc) (cK kc sc)
theorem Rs{a b:List Int}:∀{kc:List Int},cmpL a b kc=0↔aB a kc=aB b kc
 |[]=>by simp[cmpL,aB]
 |c::kc=>by have ih:=Rs (a:=a) (b:=b) (kc:=kc);grind [aB,cmpL.eq_def,nI,List.cons.injEq]
theorem NI{k key:List Int}(hn:key ∉ ks):jE (ks++[k]) key=if k=key then O (N ks) else none:=by unfold jE;grind
theorem Rt(l:List α)(x:α)(f:α->α):(l++[x]).modify (N l) f=l++[f x]:=by apply List.ext_getElem?;grind
structure afk(kc:List Int)(gs:List Gr)(rest:List (List Int)):Prop where
 off:∀r∈rest,∀g∈gs.dropLast,g.key≠aB r kc
 last:∀g,gs.getLast? = O g->(kc=[]/\g.key=[])∨∃p,g.key=aB p kc/\∀r∈rest,cmpL p r kc<=0
theorem afl{gs:List Gr}{rest:List (List Int)}(h:afk kc gs (r::rest))(hr:∀x∈rest,cmpL r x kc<=0) :
  stepG kc sc gs r=iI kc sc gs r/\afk kc (iI kc sc gs r) rest:=by
 rcases XX gs with rfl|⟨D,g,rfl⟩
 .refine⟨rfl,?_,?_⟩
  .intro x _ y hy;simp[iI]at hy
  .intro y hy;have a:mQ r sc (mR (aB r kc) (N sc))=y:=by grind [iI]
   subst a;exact .inr ⟨r,rfl,hr⟩
 .rw[XY]at h ⊢;have i:(D++[g]).getLast? = O g:=by simp
  have hd:(D++[g]).dropLast=D:=by simp
  have j:∀y∈D,y.key≠aB r kc:=λy hy=>h.off r (by simp) y (by simp_all);have d:aB r kc ∉ D.map Gr.key:=λm=>by grind
  have b:jE ((D++[g]).map Gr.key) (aB r kc)=if g.key=aB r kc then O (N D) else none:=by rw[Ql,Zd,List.map_nil,NI d,Q8]
  have k:iI kc sc (D++[g]) r=if g.key=aB r kc then D++[mQ r sc g] else D++[g]++[mQ r sc (mR (aB r kc) (N sc))]:=by unfold iI;rw[i,hd]
  by_cases e:g.key=aB r kc
  .rw[k,Qu e];refine⟨?_,?_,?_⟩
   .unfold stepG;rw[b,Qu e]
    grind [Rt]
   .grind [afk.off]
   .intro y hy;have a:mQ r sc g=y:=by simp_all
    subst a;exact .inr ⟨r,e,hr⟩
  .rw[k,QC e];refine⟨?_,?_,?_⟩
   .unfold stepG
    simp_all
   .intro x l y hy;rw[List.dropLast_concat]at hy;rcases Ze.1 hy with hy|hy
    .grind [afk.off]
    .rw[Xj]at hy;subst hy;rcases h.last y i with⟨hk,hg⟩|⟨p,hp,hle⟩
     .subst hk;exact absurd (by rw[hg];rfl) e
     .intro f;rw[hp]at e f
      grind [Rs,uP,FZ]
   .intro y hy;have a:mQ r sc (mR (aB r kc) (N sc))=y:=by simp_all
    subst a;exact .inr ⟨r,rfl,hr⟩
def YU{kc sc:List Int}:∀(rows:List (List Int)) (gs:List Gr),afk kc gs rows->(rows.Pairwise λa b=>cmpL a b kc<=0)->rows.foldl (stepG kc sc) gs=rows.foldl (iI kc sc) gs
 |[],_,_,_=>rfl
 |r::rows,gs,h,hp=>by obtain⟨h1,h2⟩:=Zt.1 hp;obtain⟨e,hi⟩:=afl (sc:=sc) h h1;rw[QY,QY,e];exact YU rows _ hi h2
theorem Kc(h:dh (GM kc) rows):l7 kc sc rows=fq kc sc rows:=by
 unfold l7 fq;symm;refine YU rows _ ⟨?_,?_⟩ (Ho.1 h)
 .intro r _ g a;unfold cK at a
  grind
 .intro g a;unfold cK at a;split at a
  .rename_i hk
   have:mR [] (N sc)=g:=by simp_all
   subst this;exact .inl ⟨hk,rfl⟩
  .simp at a
def iM:Nat->(Nat->Nat)->Nat
 |0,_=>1
 |n+1,f=>iM n f*f n
def Hr(f g:Nat->Nat):∀n,iM n f*iM n g=iM n λi=>f i*g i
 |0=>rfl
 |n+1=>by
  show iM n f*f n*(iM n g*g n)=iM n _*(f n*g n);rw[<-Hr f g n]
  ac_rfl
def L6{f g:Nat->Nat}:∀{n},(∀i,i<n->f i<=g i)->iM n f<=iM n g
 |0,_=>Qs _
 |n+1,h=>Nat.mul_le_mul (L6 λi hi=>h i (by omega)) (h n (by omega))
def rq{f g:Nat->Nat}:∀{n},(∀i,i<n->f i=g i)->iM n f=iM n g
 |0,_=>rfl
 |n+1,h=>by show iM n f*f n=iM n g*g n;rw[rq λi hi=>h i (by omega),h n (by omega)]
def Ht:∀n,iM n (λ_=>1)=1
 |0=>rfl
 |n+1=>by show iM n (λ_=>1)*1=1;rw[Ht n]
def Aa(c:Nat){k:Nat}:∀{n},k<n->iM n (λi=>if i=k then c else 1)=c
 |0,h=>by omega
 |n+1,h=>by
  show iM n (λi=>if i=k then c else 1)*(if n=k then c else 1)=c;by_cases e:n=k
  .subst e;rw[Qu rfl,rq (g:=λ_=>1) (λi hi=>QC (by omega)),Ht,Nat.one_mul]
  .rw[QC e,Aa c (show k<n by omega),Nat.mul_one]
def Ab(cnt:Nat->Nat)(n:Nat)(S:List Int):Nat:=iM n λk=>if (k:Int)∈S then cnt k else 1
theorem Hu{a b:List Int}(h:∀x∈b,x ∉ a):Ab cnt n (aC a b)=Ab cnt n a*Ab cnt n b:=by
 unfold Ab;rw[Hr];refine rq λk _=>?_;by_cases e:(k:Int)∈a
 .rw[Qu e,Qu (nH.2 (.inl e)),QC (λd=>h _ d e),Nat.mul_one]
 .by_cases d:(k:Int)∈b
  .rw[QC e,Qu d,Qu (nH.2 (.inr d)),Nat.one_mul]
  grind [nH]
theorem yt(h:∀k,1<=cnt k)(S:List Int):Ab cnt n S<=iM n cnt:=by unfold Ab;refine L6 λk _=>?_;grind
theorem abX{s:Int}(h0:0<=s)(hn:s<n):Ab cnt n [s]=cnt s.toNat:=by unfold Ab;rw[rq (g:=λk=>if k=s.toNat then cnt s.toNat else 1),Aa _ (by omega)];grind
def yu(src:List Int)(db:List aJ)(k:Nat):Nat:=max 1 (E db (E src k 0).toNat rz).rs.length
theorem yw(src:List Int)(db:List aJ):fH src db=iM (N src) (yu src db):=by
 have h:∀k,k<=N src->fH (src.take k) db=iM k (yu src db):=by
  intro k
  induction k with
  |zero=>intro _;rfl
  |succ k ih =>
   intro a;have e:E src k 0=src[k]:=by grind
   show _=iM k _*yu src db k;rw[<-ih (by omega)];unfold fH yu;rw[Qh (by omega),Zv,e];rfl
 grind
def iE(ts:List ag)(src:List Int)(s:Int):List Int:=((List.range (N (bV ts src (N src)))).filter λ(c:Nat)=>decide (((au ts src (c:Int):Nat):Int)=s)).map λ(c:Nat)=>(c:Int)
theorem Vp{s:Int}:c∈iE ts src s↔0<=c/\c<N (bV ts src (N src))/\((au ts src c:Nat):Int)=s:=by grind [iE,au]
theorem Cf(ts:List ag)(src:List Int)(s:Int):(iE ts src s).Nodup:=by unfold iE;grind [List.nodup_range]
theorem Vr(h:a+k<=n)(p:Nat->Bool)(hp:∀c,c<n->(p c=T↔a<=c/\c<a+k)):(List.range n).filter p=(List.range k).map (a + ·):=by
 have e:List.range n=List.range' 0 a++(List.range' a k++List.range' (a+k) (n-(a+k))):=by rw[List.range_eq_range'];have b:=List.range'_append (s:=a) (m:=k) (n:=n-(a+k)) (step:=1);have d:=List.range'_append (s:=0) (m:=a) (n:=k+(n-(a+k))) (step:=1);grind
 rw[e,ZX,ZX,XQ.2,List.filter_eq_self.2,XQ.2]
 .grind [List.range'_eq_map_range]
 .simp_all
 .grind
 grind
theorem Vt(hc:dL ts=T)(ha:aM src (N ts)=T)(h0:0<=c)(hl:c<ak ts src)(hs:s<N src) :
  au ts src c=s↔ak ts (src.take s)<=c/\c<ak ts (src.take (s+1)):=by
 obtain⟨a,b,d,_⟩:=Za hc ha h0 hl;constructor
 .grind
 .rintro⟨e,f⟩;rcases Nat.lt_trichotomy (au ts src c) s with h|h|h
  .have:=nG hc ha (show au ts src c+1<=s from h) (by omega);omega
  .exact h
  .have:=nG hc ha (show s+1<=au ts src c from h) (by omega);omega
def L8(hc:dL ts=T)(ha:aM src (N ts)=T)(hs:s<N src) :
  iE ts src (s:Int)=(List.range (E ts (E src s 0).toNat tz).cols.toNat).map λ(j:Nat)=>(((ak ts (src.take s)).toNat+j:Nat):Int):=by
 have d:=iZ hc ha (N src) (Qs _);rw[Zb]at d;have e:=iZ hc ha s (by omega);have b:=iZ hc ha (s+1) (by omega);have f:=nG hc ha (show s+1<=N src by omega) (Qs _);rw[Zb]at f;rw[jC,QI,Q8,Q9]at b;unfold iE;rw[Vr (a:=(ak ts (src.take s)).toNat) (k:=(E ts (E src s 0).toNat tz).cols.toNat) (by omega),Zm]
 .rfl
 .intro c g;rw[Qz];have:=Vt hc ha (c:=(c:Int)) (by omega) (by omega) hs;omega
theorem afm:∀{C:List Int},C.Nodup->∀{j:Nat} (hj:j<N C),C.idxOf C[j]=j
 |[],_,j,hj=>by simp at hj
 |c::C,hd,0,_=>by simp
 |c::C,hd,j+1,hj=>by grind
def rX(W a:Nat)(r:List Int):List Int:=List.replicate a 0++r++List.replicate (W-a-N r) 0
theorem abY(hc:dL ts=T)(ha:aM src (N ts)=T)(hs:s<N src)(hr:(N r:Int)=(E ts (E src s 0).toNat tz).cols) :
  rX (ak ts src).toNat (ak ts (src.take s)).toNat r=fu (ak ts src).toNat (iE ts src (s:Int)) r:=by
 have d:=L8 hc ha hs;have g:=Cf ts src (s:Int);have i:=iZ hc ha s (by omega);have f:=iZ hc ha (s+1) (by omega);have m:=nG hc ha (show s+1<=N src by omega) (Qs _);rw[Zb]at m;rw[jC,QI,Q8,Q9]at f;generalize (E ts (E src s 0).toNat tz).cols=K at*;obtain⟨a,p⟩:∃a,(ak ts (src.take s)).toNat=a:=⟨_,rfl⟩;obtain⟨W,v⟩:∃W,(ak ts src).toNat=W:=⟨_,rfl⟩;have q:K.toNat=N r:=by omega
 have t:a+N r<=W:=by omega
 rw[p,v];rw[p,q]at d;clear i f m;have n:N (iE ts src (s:Int))=N r:=by simp_all
 have k:∀j,j<N r->(iE ts src (s:Int)).idxOf ((a+j:Nat):Int)=j:=λj A=>by have:=afm g (j:=j) (by omega);simp_all
 have b:∀c:Nat,(c:Int)∈iE ts src (s:Int)↔a<=c/\c<a+N r:=λc=>by
  rw[d,Zi];constructor
  .grind
  .rintro⟨y,l⟩;exact⟨c-a,Zk.2 (by omega),by omega⟩
 unfold rX;apply XT
 .grind [zk]
 .intro c y l;have u:(fu W (iE ts src (s:Int)) r)[c]'l=if (c:Int)∈iE ts src (s:Int) then E r ((iE ts src (s:Int)).idxOf (c:Int)) 0 else 0:=by simp[fu]
  rw[u];rw[zk]at l;by_cases h:(c:Int)∈iE ts src (s:Int)
  .rw[Qu h];rw[b]at h;have e:=k (c-a) (by omega);rw[show a+(c-a)=c by omega]at e;rw[e,List.getElem_append_left (by simp;omega),List.getElem_append_right (by simp;omega)]
   grind
  .rw[QC h];rw[b]at h;by_cases z:c<a
   .simp_all
   .rw[List.getElem_append_right (by simp;omega),List.getElem_replicate]
def ahr:Value:=Z none 0 0
def oO(L:List KX)(m:Nat):Array Value:=(L++List.replicate m ahr).toArray
def vD(L:List KX)(m:Nat):(oO L (m+1))[N L]? = O ahr:=by unfold oO;simp_all
theorem rP(L:List KX)(m:Nat)(v:KX):(oO L (m+1)).setIfInBounds (N L) v=oO (L++[v]) m:=by unfold oO;grind
def JH(n:Nat):madeCells #[ahr] n=oO [] n:=by rw[mO];rfl
def jl(lo:Nat)(W:U)(tI:TypeId)(r':ae)(xs:List Int):Prop:=∃B,r' = ⟨O (aD B 0),N xs+2,xs⟩/\lo<B/\GB W B tI (aR xs)
def lI(lo:Nat)(W:U)(tI:TypeId)(v:KX):Prop:=∃j,v=Z (O (aD j 0)) 1 1/\lo<j/\GB W j tI #[I J 77777]
structure kK(lo:Nat)(W:U)(tR tI:TypeId)(t':aJ)(rs:List ae)(Tq:Nat)(v1 v2:KX):Prop where
 ad:t'.ad=O (aD Tq 0)
 cap:t'.cap=N rs+2
 len:N t'.rs=N rs
 low:lo<Tq
 rows:∀j,j<N rs->jl lo W tI (E t'.rs j iz) (E rs j iz).xs
 aT:GB W Tq tR (t'.rs.map ae.val++[v1,v2]).toArray
 k1:lI lo W tI v1
 k2:lI lo W tI v2
def zF(lo:Nat)(tL:TypeId)(W W':U):Prop:=∀b,lo<b->b<M (H W)->(∀c,W.heap[b]? ≠ O (FL c tL (0,0)))->W'.heap[b]? = W.heap[b]?
theorem GB.stay{tL:TypeId}{c:Array KX}(h:GB W b t c)(hs:zF lo tL W W')(hl:lo<b)(ht:t≠tL):GB W' b t c:=
 h.of (hs b hl h.lt (λa e=>by
  unfold GB at h;simp_all))
theorem jl.stay{lo:Nat}{tL tI:TypeId}{W W':U}{r':ae}{xs:List Int}(h:jl lo W tI r' xs)(hs:zF lo tL W W')(ht:tI≠tL):jl lo W' tI r' xs:=by grind [jl,GB.stay]
theorem lI.stay{lo:Nat}{tL tI:TypeId}{W W':U}{v:KX}(h:lI lo W tI v)(hs:zF lo tL W W')(ht:tI≠tL):lI lo W' tI v:=by grind [lI,GB.stay]
theorem kK.stay{lo:Nat}{tL tR tI:TypeId}{W W':U}{t':aJ}{rs:List ae}{Tq:Nat}{v1 v2:KX}(h:kK lo W tR tI t' rs Tq v1 v2)(hs:zF lo tL W W')(ht:tI≠tL)(hr:tR≠tL):kK lo W' tR tI t' rs Tq v1 v2:=
 ⟨h.ad,h.cap,h.len,h.low,λj a=>(h.rows j a).stay hs ht,h.aT.stay hs h.low hr,h.k1.stay hs ht,h.k2.stay hs ht⟩
theorem jl.up(h:jl lo W tI r' xs)(hl:lo'<=lo):jl lo' W tI r' xs:=by grind [jl]
theorem lI.up(h:lI lo W tI v)(hl:lo'<=lo):lI lo' W tI v:=by grind [lI]
theorem jl.kept(h:jl lo W tI r' xs)(hk:∀b,lo<b->b<M (H W)->W'.heap[b]? = W.heap[b]?):jl lo W' tI r' xs:=by grind [jl,GB.of,GB.lt]
theorem lI.kept(h:lI lo W tI v)(hk:∀b,lo<b->b<M (H W)->W'.heap[b]? = W.heap[b]?):lI lo W' tI v:=by grind [lI,GB.of,GB.lt]
theorem kK.kept{lo:Nat}{tR tI:TypeId}{W W':U}{t':aJ}{rs:List ae}{Tq:Nat}{v1 v2:KX}(h:kK lo W tR tI t' rs Tq v1 v2)(hk:∀b,lo<b->b<M (H W)->W'.heap[b]? = W.heap[b]?):kK lo W' tR tI t' rs Tq v1 v2:=
 ⟨h.ad,h.cap,h.len,h.low,λj a=>(h.rows j a).kept hk,h.aT.of (hk Tq h.low h.aT.lt),h.k1.kept hk,h.k2.kept hk⟩
def aJ.full(t:aJ):Value:=Z t.ad (N t.rs+2) t.cap
structure yP(qG w0 wr:U)(G tG tL tR tI n:Nat)(gc:KX->Array KX)(db cO:List aJ)(v:KX):Prop where
 qE:Bw qG wr
 Po:∀j,j<M (H w0)->j≠G->wr.heap[j]? = w0.heap[j]?
 K7:M (H w0)<M (H wr)
 g:GB wr G tG (gc v)
 row:GB wr (M (H w0)) tL (oO (cO.map aJ.val) (n+2-N cO))
 tab:∀i,i<N cO->∃Tq v1 v2,kK (M (H w0)) wr tR tI (E cO i rz) (E db i rz).rs Tq v1 v2
 own:wr.ownsRow (M (H w0)+1) tL 1 v (N cO) (cO.map aJ.full)
structure alS(qG w0 w':U)(G tG tL tR tI:Nat)(gc:KX->KX->KX->Array KX)(db cO:List aJ)(v u1 u2:KX)(s1 s2:Nat)(x1 x2:KX):Prop where
 qE:Bw qG w'
 Po:∀j,j<M (H w0)->j≠G->w'.heap[j]? = w0.heap[j]?
 K7:M (H w0)<M (H w')
 len:N cO=N db
 g:GB w' G tG (gc (Z (O (aD (M (H w0)) 0)) (N db) (N db+2)) (Z (O (aD (M (H w0)) 0)) (N db+2) (N db+2)) v)
 row:GB w' (M (H w0)) tL (cO.map aJ.val++[u1,u2]).toArray
 tab:∀i,i<N cO->∃Tq v1 v2,kK (M (H w0)) w' tR tI (E cO i rz) (E db i rz).rs Tq v1 v2
 own:w'.ownsRow (M (H w0)+1) tL 1 v (N cO) (cO.map aJ.full)
 e1:u1=Z (O (aD s1 0)) 1 1
 e2:u2=Z (O (aD s2 0)) 1 1
 l1:M (H w0)<s1
 l2:M (H w0)<s2
 r1:GB w' s1 tR #[x1]
 r2:GB w' s2 tR #[x2]
 k1:lI (M (H w0)) w' tI x1
 k2:lI (M (H w0)) w' tI x2
theorem yP.next{qG w0 w5:U}{tG tL tR tI:Nat}{gc:KX->Array KX}{db cO:List aJ}{v':KX}{t':aJ}{Tq:Nat}{v1 v2:KX}(h:yP qG w0 wr G tG tL tR tI n gc db cO v)(hG:G<M (H w0))(hGo:M (H qG)<=G)(hn:N cO<n)(hR:tR≠tL)(hI:tI≠tL)(hgc:∀x y,(gc x).setIfInBounds 15 y=gc y)
  {wm:U} (hbm:Bw wr wm) (ht:kK (M (H w0)) wm tR tI t' (E db (N cO) rz).rs Tq v1 v2)
  (hown:w5.ownsRow (M (H w0)+1) tL 1 v' (N cO+1) (cO.map aJ.full++[t'.full])) (hk:Kept (λb=>v.ownBlock≠O b) wm w5) (hat:v'.ownBlock=v.ownBlock∨v'.ownBlock=O (M (H wm)+1)) :
  yP qG w0 ((qw (qw w5 (aD G 15) v') (aD (M (H w0)) (N cO)) t'.val).drew) G tG tL tR tI n gc db (cO++[t']) v':=by
 have u:=h.K7;have R:=h.qE.size;have S:=hbm.size;have W:=hk.size;have Pd:∀b,v.ownBlock=O b->M (H w0)<b:=λb d=>by have:=(Xf h.own d).1;omega
 have X:∀b,v'.ownBlock=O b->M (H w0)<b:=λb d=>by grind
 have a:∀b,b<=M (H w0)->v.ownBlock≠O b:=λb d e=>by grind
 have f:∀b,b<M (H wr)->v.ownBlock≠O b->w5.heap[b]? = wr.heap[b]?:=λb d hv=>(hk.block b (by omega) hv).trans (hbm.block b d);obtain⟨q,r⟩:∃q,q=(qw (qw w5 (aD G 15) v') (aD (M (H w0)) (N cO)) t'.val).drew:=⟨_,rfl⟩;have k:∀b,b≠G->b≠M (H w0)->q.heap[b]? = w5.heap[b]?:=λb l m=>by rw[r];show (qw (qw w5 (aD G 15) v') (aD (M (H w0)) (N cO)) _).heap[b]? = _;rw[QR m,QR l]
 have aa:M (H q)=M (H w5):=by simp_all
 have L:zF (M (H w0)) tL wm q:=λb Q d D=>by rw[k b (by omega) (by omega)];refine hk.block b d (λe=>?_);obtain⟨c,C⟩:=lY h.own e;have z:b<M (H wr):=(Xf h.own e).2;exact D c ((hbm.block b z).trans C)
 have A:zF (M (H w0)) tL wr q:=λb Q d D=>by rw[L b Q (by omega) (λc e=>D c ((hbm.block b d).symm.trans e))];exact hbm.block b d
 rw[<-r];refine⟨?_,λj hj t=>?_,by omega,?_,?_,λi hi=>?_,?_⟩
 .have B:Bw qG w5:=⟨hk.os.trans (hbm.os.trans h.qE.os),hk.tape.trans (hbm.tape.trans h.qE.tape),hk.output.trans (hbm.output.trans h.qE.output),by omega,λb d=>(f b (by omega) (a b (by omega))).trans (h.qE.block b d)⟩
  rw[r];exact((B.setCell (p:=(aD G 15)) hGo v').setCell (p:=(aD (M (H w0)) (N cO))) (by grind) _).drew
 .rw[k j t (by omega),f j (by omega) (a j (by omega))];exact h.Po j hj t
 .have l:GB w5 G tG (gc v):=h.g.of (f G (by omega) (a G (by omega)));have m:=l.set 15 v';rw[hgc]at m;rw[r];exact GB.of (w:=qw w5 (aD G 15) v') m (QR (by grind))
 .have l:GB (qw w5 (aD G 15) v') (M (H w0)) tL (oO (cO.map aJ.val) (n+2-N cO)):=h.row.of ((QR (by grind)).trans (f _ u (a _ (Qs _))));have e:n+2-N cO=(n+2-(N cO+1))+1:=by omega
  rw[e]at l;have m:=l.set (N cO) t'.val;have P:=rP (cO.map aJ.val) (n+2-(N cO+1)) t'.val;rw[Q8]at P;rw[P]at m;rw[r,Ql,QI];exact m
 .rw[QI,List.length_singleton]at hi;by_cases K:i<N cO
  .obtain⟨T',a1,a2,l⟩:=h.tab i K;have e:E (cO++[t']) i rz=E cO i rz:=by simp_all
   rw[e];exact⟨T',a1,a2,l.stay A hI hR⟩
  .obtain rfl:i=N cO:=by omega
   have e:E (cO++[t']) (N cO) rz=t':=by simp_all
   rw[e];exact⟨Tq,v1,v2,ht.stay L hI hR⟩
 .rw[QI,List.length_singleton,Ql];have n1:v'.ownBlock≠O G:=λe=>by grind
  have n2:v'.ownBlock≠O (M (H w0)):=λe=>by simp_all
  rw[r];exact(QV (QV hown n1 v') n2 _).drew
def yP.pair{wa:U}{bd:Nat}{tR:TypeId}(hb:bd<M (H wr))(De:wa=((qw wr (aD bd x) (Z (O (aD (M (H wr)+1) 0)) 1 1)).alloc (FL #[I J 77777] tI)).alloc (FL #[Z (O (aD (M (H wr)) 0)) 1 1] tR)) :
  M (H wa)=M (H wr)+2/\(∀b,b<M (H wr)->b≠bd->wa.heap[b]? = wr.heap[b]?)/\wa.heap[bd]? = (qw wr (aD bd x) (Z (O (aD (M (H wr)+1) 0)) 1 1)).heap[bd]?/\
   GB wa (M (H wr)+1) tR #[Z (O (aD (M (H wr)) 0)) 1 1]/\lI bd wa tI (Z (O (aD (M (H wr)) 0)) 1 1)/\(∀B d,B<=bd->Below B d wr->Below B d wa):=by
 have f:M (H (qw wr (aD bd x) (Z (O (aD (M (H wr)+1) 0)) 1 1)))=M (H wr):=by simp
 have g:M (H ((qw wr (aD bd x) (Z (O (aD (M (H wr)+1) 0)) 1 1)).alloc (FL #[I J 77777] tI)))=M (H wr)+1:=by simp
 refine⟨by simp_all,λb e a=>?_,?_,?_,⟨M (H wr),rfl,hb,?_⟩,λB d i h=>?_⟩
 .rw[De,QS (by omega),QS (by omega),QR a]
 .rw[De,QS (by omega),QS (by omega)]
 .have:=iX ((qw wr (aD bd x) (Z (O (aD (M (H wr)+1) 0)) 1 1)).alloc (FL #[I J 77777] tI)) (FL #[Z (O (aD (M (H wr)) 0)) 1 1] tR);rw[g]at this;rw[De];exact this
 .have:=iX (qw wr (aD bd x) (Z (O (aD (M (H wr)+1) 0)) 1 1)) (FL #[I J 77777] tI);rw[f]at this;rw[De];exact(QS (by omega)).trans this
 .have e:=h.setCell (p:=(aD bd x)) i (Z (O (aD (M (H wr)+1) 0)) 1 1);have j:=h.size;have a:=e.alloc (by omega) (FL #[I J 77777] tI);have k:=a.alloc (by omega) (FL #[Z (O (aD (M (H wr)) 0)) 1 1] tR)
  simp_all
def ady(ao:Option Addr)(cap:Nat)(ts:List ag)(q:af)(w:U)(hx:aN w ao ts)(hc:dL ts=F) :
  Cb 35 #[Z ao (N ts) cap,.agg q.cells] w (I J (q.check ts)):=by
 have d:Wl ((1:Int)=q.check ts):=af.K5 hc;have a:=λo=>hx.below (bJ w o);generalize q.check ts=R at*;generalize b:q.cells=C at*;have f:C.size=7:=by rw[<-b];rfl
 unfold af.cells ae.val at b;subst b;go_enter Tryz.func35,Tryz.ntmps35;go_wp2_with (go_at_call 65;refine(pW _ _ _ _ (a _)).mono ?_;rw[hc];rintro e g ⟨rfl,i⟩);go_ret;exact⟨Qe d.o,aj (bJ _ _) (by assumption)⟩
def Gb(A B:List KX)(x y:KX):(A++x::B).toArray.setIfInBounds (N A) y=(A++y::B).toArray:=by simp
def yB(A B:List KX)(x:KX):(A++x::B).toArray[N A]? = O x:=by simp
structure Swap(w:U)(aT:Nat)(t:TypeId)(i1 i2:Nat)(x y:KX)(L:List KX):Prop where
 c1:Am w (aD aT i1)=O x
 c2:Am w (aD aT i2)=O y
 z1:w.frozen? (aD aT i1)=F
 z2:w.frozen? (aD aT i2)=F
 ne:i1≠i2
 up:GB ((qw (qw w (aD aT i1) y) (aD aT i2) x).drew) aT t L.toArray/\Kept (λb=>b≠aT) w ((qw (qw w (aD aT i1) y) (aD aT i2) x).drew)
 down:GB ((qw (qw w (aD aT i2) x) (aD aT i1) y).drew) aT t L.toArray/\Kept (λb=>b≠aT) w ((qw (qw w (aD aT i2) x) (aD aT i1) y).drew)
def Kept.Me{s:Nat->Prop}(w:U):Kept s w w.drew:=ZA ((Qr (M (H w)) w).drew) (λb a _=>a)
def GB.Me{w:U}{aT:Nat}{t:TypeId}{c:Array KX}(h:GB w aT t c):GB w.drew aT t c:=h.keep (Kept.Me (s:=λ_=>True) w) trivial
def GB.drewN{w:U}{aT:Nat}{t:TypeId}{c:Array KX}(h:GB w aT t c)(n:Nat):GB (w.drewN n) aT t c:=h.keep (Xv (s:=λ_=>True) w n) trivial
theorem GB.swap{A B C:List KX}{x y:KX}(h:GB w aT t (A++x::B++y::C).toArray)(h1:i1=N A)(h2:i2=N A+1+N B):Swap w aT t i1 i2 x y (A++y::B++x::C):=by
 have b:i2=N (A++x::B):=by rw[h2];simp;omega
 have a:i2=N (A++y::B):=by rw[h2];simp;omega
 have d:(A++x::B++y::C).toArray[i1]? = O x:=by grind
 have e:(A++x::B++y::C).toArray[i2]? = O y:=by rw[b];exact yB _ _ y
 have f:(A++x::B++y::C).toArray.setIfInBounds i1 y=(A++y::B++y::C).toArray:=by rw[h1,Zu,ZV,Gb,Zu,ZV]
 have g:(A++y::B++y::C).toArray.setIfInBounds i2 x=(A++y::B++x::C).toArray:=by rw[a];exact Gb _ _ _ _
 have i:(A++x::B++y::C).toArray.setIfInBounds i2 x=(A++x::B++x::C).toArray:=by rw[b];exact Gb _ _ _ _
 have j:(A++x::B++x::C).toArray.setIfInBounds i1 y=(A++y::B++x::C).toArray:=by rw[h1,Zu,ZV,Gb,Zu,ZV]
 refine⟨(h.cell i1).trans d,(h.cell i2).trans e,h.frozen i1,h.frozen i2,by omega,⟨?_,?_⟩,⟨?_,?_⟩⟩
 .have:=(h.set i1 y).set i2 x;rw[f,g]at this;exact this.Me
 .exact((Xc _ _ _ (λh=>h rfl)).trans (Xc _ _ _ (λh=>h rfl))).trans (Kept.Me _)
 .have:=(h.set i2 x).set i1 y;rw[i,j]at this;exact this.Me
 .exact((Xc _ _ _ (λh=>h rfl)).trans (Xc _ _ _ (λh=>h rfl))).trans (Kept.Me _)
def wrap_add(h:a+k<len)(hl:len<=1000000):wrap64 ((a:Int)+(k:Int))=((a+k:Nat):Int):=by unfold wrap64;omega
def Ci(h:k<=a)(hl:a<=4000000):wrap64 ((a:Int)-(k:Int))=((a-k:Nat):Int):=by unfold wrap64;omega
def aqe{x1 x3:Nat}(hb:b=p+x+m)(l1:x1=k)(l2:y1=k)(hx:x=x1+(x3+1)):b+k=p+y1+1+(x3+m+x1):=by omega
def aqf(ha:a=p)(hb:b=p+x+m)(h:b+k<len):a+k<len:=by omega
def SL(L:List ae)(R:List KX):Array Value:=(L.map ae.val++R).toArray
def GB.RN{R:List KX}{L A B C:List ae}{x:ae}(h:GB w aT t (SL L R))(e:L=A++x::B++y::C)(h1:i1=N A)(h2:i2=N A+1+N B) :
  Swap w aT t i1 i2 x.val y.val ((A++y::B++x::C).map ae.val++R):=by
 have a:SL L R=(A.map ae.val++x.val::B.map ae.val++y.val::(C.map ae.val++R)).toArray:=by rw[e];unfold SL;simp
 have b:(A++y::B++x::C).map ae.val++R=A.map ae.val++y.val::B.map ae.val++x.val::(C.map ae.val++R):=by simp
 rw[a]at h;rw[b];exact h.swap (by simpa using h1) (by simpa using h2)
def uw(aT cap len a b n:Nat)(f:KX)(P X Mq Yq Q:List ae)(R:List KX)(w:U)(hG:GB w aT 23 (SL (P++X++Mq++Yq++Q) R))(hX:N X=n)(hY:N Yq=n)(ha:a=N P)(hb:b=N P+N X+N Mq)(hlen:b+n<=len)(hl:len<=1000000) :
  Calls V 190 #[Z (O (aD aT 0)) len cap,I J a,I J b,I J n,f] w λe w'=>e=FR (.tuple #[])/\GB w' aT 23 (SL (P++Yq++Mq++X++Q) R)/\Kept (λb=>b≠aT) w w':=by
 have HG:Wl _:=hG;clear hG;go_enter Tryz.func190,Tryz.ntmps190;go_wp2;go_loopw [10] (λi wr=>∃(k:Nat) (d p j q:List ae),k<=n/\i=I J k/\Wl (X=d++p/\Yq=j++q/\N d=k/\N j=k/\GB wr aT 23 (SL (P++j++p++Mq++d++q++Q) R)/\Kept (λb=>b≠aT) w wr)) (λi _=>n-(intOf i).toNat)
 case atStart=>exact⟨0,[],X,[],Yq,Q4 _,rfl,rfl,rfl,rfl,rfl,by rw[QN,QN];exact HG.o,Zx _ _⟩
 case round=>
  obtain⟨k,d,p,j,q,hk,rfl,HI⟩:=hrel;obtain⟨eX,eY,l1,l2,u,L⟩:=HI.o;by_cases G:k<n
  .obtain⟨x,g,rfl⟩:∃x g,p=x::g:=by
    cases p with
    |nil=>rw[eX,QN]at hX;omega
    |cons x g=>exact⟨x,g,rfl⟩
   obtain⟨y,l,rfl⟩:∃y l,q=y::l:=by
    cases q with
    |nil=>rw[eY,QN]at hY;omega
    |cons y l=>exact⟨y,l,rfl⟩
   have e:P++j++x::g++Mq++d++y::l++Q=(P++j)++x::(g++Mq++d)++y::(l++Q):=by simp
   have r:N X=N d+(N g+1):=by rw[eX];simp
   have m:=u.RN e (i1:=a+k) (i2:=b+k) (by rw[QI];omega) (by simp only[QI];exact aqe hb l1 l2 r);have ag:=Q6 (Q6 (Nat.le_add_left n b) hlen) hl;have t:=Q0 (Nat.add_lt_add_left G b) hlen;have S:=aqf ha hb t;have ah:=wrap_add S hl;have ai:=wrap_add t hl;have c1:=m.c1;have c2:=m.c2;have z1:=m.z1;have z2:=m.z2;have aj:=m.ne;obtain⟨HS,HE,HK,HL⟩:=xA m (X4 eX eY) L (X4 l1 l2);clear m u HI eX eY e L hX hY ha hb r hlen l1 l2;generalize a+k=i1 at*;generalize b+k=i2 at*;obtain⟨v,z,A⟩:=x;obtain⟨B,C,D⟩:=y;unfold ae.val at c1 c2;simp only at c1 c2;go_wp2;go_region;have K:=HS.o.up;unfold ae.val at K;simp only at K;generalize ((wr.setCell { block:=aT,off:=i1 } (Value.slice B (N D) C)).setCell { block:=aT,off:=i2 } (Value.slice v (N A) z)).drew=wf at*;have HU:=Zh K;clear K HS;go_wp2;go_roundw
   case rel=>
    refine⟨k+1,d++[⟨v,z,A⟩],g,j++[⟨B,C,D⟩],l,G,by go_num,by rw[HE.o.1,Zu];rfl,by rw[HE.o.2,Zu];rfl,by rw[QI,HL.o.1];rfl,by rw[QI,HL.o.2];rfl,?_,HK.o.trans HU.o.2⟩;have h:=HU.o.1;show GB wf aT 23 ((P++(j++[ae.mk B C D])++g++Mq++(d++[ae.mk v z A])++l++Q).map ae.val++R).toArray;have e:P++(j++[ae.mk B C D])++g++Mq++(d++[ae.mk v z A])++l++Q=P++j++ae.mk B C D::(g++Mq++d)++ae.mk v z A::(l++Q):=by simp
    rw[e];exact h
   case measure=>simp[intOf];omega
  .have W:k=n:=by omega
   subst W;have aa:p=[]:=by have h:=congrArg N eX;rw[QI]at h;exact QF (by omega)
   have af:q=[]:=by have h:=congrArg N eY;rw[QI]at h;exact QF (by omega)
   subst aa;subst af;rw[QN]at eX eY;subst eX;subst eY;rw[QN,QN]at u;have HF:=Zh (X4 u L);clear u L HI;go_wp2;go_end0;exact⟨rfl,HF.o⟩
def ab5(h:a+k<=4000000):wrap64 ((a:Int)+(k:Int))=((a+k:Nat):Int):=by unfold wrap64;omega
def oI(l:List α)(n:Nat)(h:n<=N l):∃a b,l=a++b/\N a=n/\N b=N l-n:=⟨l.take n,l.drop n,(Xo n l).symm,by simp[h],by simp⟩
structure Rot(P X Yq Q:List ae)(m len:Nat)(P' X' Y' Q':List ae):Prop where
 pos:0<N X'/\0<N Y'
 lN:m=N P'+N X'
 fit:m+N Y'<=len
 eq:P'++Y'++X'++Q' = P++Yq++X++Q
def Rot.more(h:Rot P X Yq Q m len P' X' Y' Q')(hl:N Y'<N X'):∃a b,X' = a++b/\N a=N Y'/\N b=N X'-N Y'/\Rot P X Yq Q m len (P'++Y') b a Q':=by obtain⟨a,b,e,d,f⟩:=oI X' (N Y') (by omega);have g:=h.pos;have i:=h.lN;have j:=h.fit;refine⟨a,b,e,d,f,⟨by omega,by omega⟩,by rw[QI];omega,by omega,?_⟩;rw[<-h.eq,e];simp
def Rot.less(h:Rot P X Yq Q m len P' X' Y' Q')(hl:N X'<N Y'):∃a b,Y' = a++b/\N a=N Y'-N X'/\N b=N X'/\Rot P X Yq Q m len P' b a (X'++Q'):=by obtain⟨a,b,e,d,j⟩:=oI Y' (N Y'-N X') (by omega);have f:=h.pos;have g:=h.lN;have i:=h.fit;refine⟨a,b,e,d,by omega,⟨by omega,by omega⟩,by omega,by omega,?_⟩;rw[<-h.eq,e];simp
def amD{y:Nat}(hfit:m+y<=len)(hl:len<=1000000)(ej:j=y)(hi:i<=1000000):m+j<=4000000/\m<=4000000/\j<=4000000:=by omega
def amE(hmid:m=p+x)(ei:i=x)(j:Nat):i<=m/\i<=m+j:=by omega
def amF{y y2:Nat}(ei:i=x)(ej:j=y)(l1:y1=y-x)(l2:y2=x)(h:i<j)(hi:0<i)(hj:j<=1000000):i=y2/\j-i=y1/\0<j-i/\j-i<=1000000/\i+(j-i)<i+j:=by omega
def amG{y:Nat}(hmid:m=p+x)(hfit:m+y<=len)(ei:i=x)(ej:j=y)(l1:y1=y-x)(h:i<j):m+j-i=p+x+y1/\m+j-i+i<=len:=by omega
def Ie(h:j<=i):Value.int J ((i:Int)-(j:Int))=Value.int J ((i-j:Nat):Int):=by rw[Int.ofNat_sub h]
theorem VF(aT cap len a m b:Nat)(f:KX)(P X Yq Q:List ae)(R:List KX)(w:U)(hG:GB w aT 23 (SL (P++X++Yq++Q) R))(hX:0<N X)(hY:0<N Yq)(ha:a=N P)(hm:m=N P+N X)(hb:b=N P+N X+N Yq)(hlen:b<=len)(hl:len<=1000000) :
  Calls V 187 #[Z (O (aD aT 0)) len cap,I J a,I J m,I J b,f] w λe w'=>e=FR (.tuple #[])/\GB w' aT 23 (SL (P++Yq++X++Q) R)/\Kept (λb=>b≠aT) w w':=by
 have w1:wrap64 ((m:Int)-(a:Int))=(N X:Int):=by unfold wrap64;omega
 have w2:wrap64 ((b:Int)-(m:Int))=(N Yq:Int):=by unfold wrap64;omega
 have hR:Rot P X Yq Q m len P X Yq Q:=⟨⟨hX,hY⟩,hm,by omega,rfl⟩;have HG:Wl _:=hG;have HR:=Zh hR;clear hG hR hX hY ha hm hb hlen;go_enter Tryz.func187,Tryz.ntmps187;go_wp2;try simp only[w1,w2]
 go_loopw [10,11] (λiv jv wr=>∃(i j:Nat) (y C D A:List ae),iv=I J i/\jv=I J j/\i<=1000000/\j<=1000000/\0<i/\0<j/\Wl (i=N C/\j=N D/\Rot P X Yq Q m len y C D A/\GB wr aT 23 (SL (y++C++D++A) R)/\Kept (λb=>b≠aT) w wr)) (λiv jv _=>(intOf iv).toNat+(intOf jv).toNat)
 case atStart=>
  have h:=HR.o;have h1:=h.pos;have h2:=h.lN;have h3:=h.fit;exact⟨N X,N Yq,P,X,Yq,Q,rfl,rfl,by omega,by omega,h1.1,h1.2,rfl,rfl,h,HG.o,Zx _ _⟩
 case round=>
  obtain⟨i,j,y,C,D,A,rfl,rfl,hi,hj,aa,af,HI⟩:=hrel;obtain⟨z,G,B,hg,S⟩:=HI.o;have g:=B.lN;have k:=B.fit;have l:=amD k hl G hi;have r:=amE g z j;have YP:=Ci r.1 l.2.1;have L:m-i=N y:=by omega
  by_cases ag:j<i
  .obtain⟨X1,X2,e,l1,l2,v⟩:=B.more (by omega);have d:=uw aT cap len (m-i) m j f y X1 X2 D A R wr (by grind ) (by omega) (by omega) L (by rw[g,e,QI];omega) (by omega) hl;have hw:wrap64 ((i:Int)-(j:Int))=((i-j:Nat):Int):=Ci (by omega) (by omega);have t:Wl (i-j=N X2/\j=N X1/\0<i-j/\i-j<=1000000/\i-j+j<i+j):=by constructor <;> omega
   obtain⟨HK,K⟩:=aV S v;clear S v B hg HI g k L z G e l1 l2 l r;go_wp2_with fail;refine d.mono ?_;rintro e w2 ⟨rfl,n,p⟩;have u:Wl _:=n;have W:=Zh p;go_wp2;go_roundw
   case rel=>exact⟨i-j,j,y++D,X2,X1,A,Ie (Nat.le_of_lt ag),rfl,t.o.2.2.2.1,hj,t.o.2.2.1,af,t.o.1,t.o.2.1,K.o,u.o,HK.o.trans W.o⟩
   case measure=>have:=t.o;simp[intOf];omega
  .by_cases q:i<j
   .obtain⟨Y1,Y2,e,l1,l2,v⟩:=B.less (by omega);have Ae:=amF z G l1 l2 q aa hj;have NS:=amG g k z G l1 q;have d:=uw aT cap len (m-i) (m+j-i) i f y C Y1 Y2 A R wr (by grind) z.symm (l2.trans z.symm) L NS.1 NS.2 hl;have hw:=Ci (Nat.le_of_lt q) l.2.2;have ah:=ab5 l.1;have ai:=Ci r.2 l.1;obtain⟨t,HK,K⟩:=fe Ae S v;clear S v B hg HI g k L z G e l1 l2 l r Ae NS;generalize m+j=mj at*;go_wp2_with fail;refine d.mono ?_;rintro e w2 ⟨rfl,n,p⟩;clear d;have u:Wl _:=n;have W:=Zh p;clear n p;go_wp2;go_roundw
    case rel=>exact⟨i,j-i,y,Y2,Y1,C++A,rfl,Ie (Nat.le_of_lt q),hi,t.o.2.2.2.1,aa,t.o.2.2.1,t.o.1,t.o.2.1,K.o,by have h:=u.o;rwa [Zu (y++Y2++Y1)]at h,HK.o.trans W.o⟩
    case measure=>have:=t.o;simp[intOf];omega
   .obtain rfl:i=j:=by omega
    have d:=uw aT cap len (m-i) m i f y C [] D A R wr (by rw[QN];exact hg) z.symm G.symm L (by rw[g];rfl) (by omega) hl;rw[QN,B.eq]at d;have HK:=Zh S;clear S B hg HI g k L z G l r;go_wp2_with fail;refine d.mono ?_;rintro e w2 ⟨rfl,n,p⟩;clear d;have u:Wl _:=n;have W:=Zh p;clear n p;go_wp2;go_end0;exact⟨rfl,u.o,HK.o.trans W.o⟩
def RP(P:Program)(g:Nat)(lb:Array KX)(cf:ae->ae->Int)(aT:Nat)(w0:U)(ok:ae->Prop):Prop:=
 ∀W x y,Kept (λb=>b≠aT) w0 W->ok x->ok y->Calls P g (#[x.val,y.val]++lb) W λe W'=>e=FR (I J (cf x y))/\∃m,W' = W.drewN m
def jd(cf:ae->ae->Int)(x y:ae):Bool:=decide (cf x y<0)
def Cj{x:ae}(h:cf x y<0):jd cf x y=true:=QD h
def zw{x:ae}(h:¬cf x y<0):jd cf x y=false:=QX h
theorem GB.yB{R:List KX}{L A C:List ae}{x:ae}(h:GB w aT t (SL L R))(e:L=A++x::C)(h1:i=N A):Am w (aD aT i)=O x.val:=by
 refine(h.cell i).trans ?_;have a:SL L R=(A.map ae.val++x.val::(C.map ae.val++R)).toArray:=by rw[e];unfold SL;simp
 grind
def amH(ha:a=p)(hj:j=a+(s+1))(h:j=jp+1):jp=p+s/\a<jp+1/\jp+1=p+s+1+0/\jp=a+s:=by omega
def amI{l:Nat}(hl:len<=1000000)(hlen:b<=len)(hi:i<b)(hj:j<=i)(h:j=jp+1):jp<len/\jp+1<len/\i<=1000000/\jp<=i:=by omega
theorem Af(aT cap len a b g:Nat)(lb:Array KX)(cf:ae->ae->Int)(ok:ae->Prop)(w0:U)(hC:RP V g lb cf aT w0 ok)(eg:∀args w,(callFunc g args).run V w=.ok (.enter g args) w)
  (P L Q:List ae) (R:List KX) (w:U) (hG:GB w aT 23 (SL (P++L++Q) R)) (hok:∀x∈L,ok x) (hK:Kept (λb=>b≠aT) w0 w) (ha:a=N P) (hb:b=N P+N L) (hlen:b<=len) (hl:len<=1000000) :
  Calls V 176 #[Z (O (aD aT 0)) len cap,I J a,I J b,.func (.func g) #[] lb] w λe w'=>e=FR (.tuple #[])/\GB w' aT 23 (SL (P++mg (jd cf) [] L++Q) R)/\Kept (λb=>b≠aT) w w':=by
 cases L with
 |nil =>
  have aK:¬((a:Int)+1<(b:Int)):=by grind
  have HG:Wl _:=hG;have aA:a<=1000000:=by omega
  clear hG hK hlen hl ha hb;go_enter Tryz.func176,Tryz.ntmps176;go_wp2;refine wp_loop_rounds 1 ?_;rw[rounds_succ];go_wp2;go_end0;exact⟨rfl,HG.o,Zx _ _⟩
 |cons x0 L0 =>
  have HG:Wl _:=hG;have HC:Wl _:=hC;obtain⟨HO,HK,X⟩:=fe hok hK (X4 ha (X4 hb (X4 hlen hl)));have aA:a<=1000000:=by have:=X.o;omega
  have aL:wrap64 ((a:Int)+1)=((a+1:Nat):Int):=by unfold wrap64;omega
  clear hG hC hok hK ha hb hlen hl;go_enter Tryz.func176,Tryz.ntmps176;go_wp2;go_loopw [8] (λiv wr=>∃(i:Nat) (k L2:List ae),iv=I J i/\i<=b/\Wl (x0::L0=k++L2/\i=a+N k/\GB wr aT 23 (SL (P++mg (jd cf) [] k++L2++Q) R)/\Kept (λb=>b≠aT) w wr)) (λiv _=>b-(intOf iv).toNat)
  case atStart=>
   refine⟨a+1,[x0],L0,by go_num,by have:=X.o;grind,rfl,rfl,?_,Zx _ _⟩;have e:P++mg (jd cf) [] [x0]++L0++Q=P++(x0::L0)++Q:=by show P++[x0]++L0++Q=_;simp
   rw[e];exact HG.o
  case round=>
   obtain⟨i,k,L2,rfl,aU,HI⟩:=hrel;obtain⟨eL,ei,v,t⟩:=HI.o
   cases L2 with
   |nil =>
    rw[QN]at eL;rw[<-eL,QN]at v;have aM:¬((i:Int)<(b:Int)):=by have h1:=X.o;rw[eL]at h1;omega
    have HF:=Zh (X4 v t);clear HI v t ei eL;go_wp2;go_end0;exact⟨rfl,by have h:=HF.o.1;rw[Zu]at h;exact h,HF.o.2⟩
   |cons x L3 =>
    have hL:N (x0::L0)=N k+(N L3+1):=by rw[eL];simp
    have aB:(i:Int)<(b:Int):=by have h1:=X.o;omega
    have aN:i<=1000000:=by have h1:=X.o;omega
    have hx:=HO.o x (by rw[eL];simp);have W:∀y∈mg (jd cf) [] k,ok y:=λy hy=>by
     rcases xV.1 hy with h|h
     .cases h
     .exact HO.o y (by grind)
    have ai:N (mg (jd cf) [] k)=N k:=by rw[pg];simp
    obtain⟨HX,HM,HE,af,av,vH⟩:=Dm hx W eL ei (X4 v t) ai;clear hx W eL ei v t ai hL HI;go_wp2;go_loopw [9] (λjv ay=>∃(j:Nat) (S1 p:List ae),jv=I J j/\j<=i/\Wl (mg (jd cf) [] k=S1++p/\j=a+N S1/\(∀s∈p,jd cf x s=T)/\GB ay aT 23 (SL (P++S1++x::p++L3++Q) R)/\Kept (λb=>b≠aT) w ay)) (λjv _=>(intOf jv).toNat)
    case atStart=>
     refine⟨i,mg (jd cf) [] k,[],rfl,Qs _,by rw[QN],by rw[vH.o];exact af.o,λs d=>(by cases d),?_,av.o.2⟩;have h:=av.o.1;have e:P++mg (jd cf) [] k++x::[]++L3++Q=P++mg (jd cf) [] k++x::L3++Q:=by simp
     rw[e];exact h
    case round=>
     obtain⟨j,S1,p,rfl,aC,HJ⟩:=hrel;obtain⟨eS,ej,z,v,t⟩:=HJ.o;rcases XX S1 with A|⟨u,y,A⟩
     .subst A;have aa:j=a:=ej;have aj:decide ((j:Int) > (a:Int))=false:=QX (by rw[aa];exact Int.lt_irrefl _);have aO:¬(a:Int)<(j:Int):=of_decide_eq_false aj;have aP:¬a<j:=by rw[aa];exact Nat.lt_irrefl _
      have f:mg (jd cf) [] (k++[x])=x::p:=by rw[Dv,GJ,eS];exact rG (lt:=jd cf) (A1:=[]) z
      obtain⟨HF,q⟩:=aV f (X4 v t);clear HJ eS ej z v t f aa;go_wp2_with fail;go_quiet (fail);go_wp2;go_roundw
      case rel=>
       refine⟨i+1,k++[x],L3,by go_num,by omega,by rw[HE.o,Zu];rfl,by rw[QI,af.o];rfl,?_,q.o.2.trans (Xv _ _)⟩;rw[HF.o];have h:=q.o.1.drewN nq;rw[QN]at h;exact h
      case measure=>simp[intOf];omega
     .rw[XY]at A;subst A;have hy:=HM.o y (by rw[eS];simp);obtain⟨r,ag⟩:∃r,j=r+1:=⟨a+N u,by rw[ej];simp;omega⟩
      have Ae:=amH (s:=N u) X.o.1 (by rw[ej];simp) ag;have NS:=amI (l:=0) X.o.2.2.2 X.o.2.2.1 (Int.ofNat_lt.1 aB) aC ag;have e:P++(u++[y])++x::p++L3++Q=(P++u)++y::[]++x::(p++L3++Q):=by simp
      have d:=v.RN e (i1:=r) (i2:=r+1) (by rw[QI];exact Ae.1) (by rw[QI];exact Ae.2.2.1);have hc:∀n,Calls V g (#[x.val,y.val]++lb) (wr.drewN n) λe W'=>e=FR (I J (cf x y))/\∃m,W' = (wr.drewN n).drewN m:=λn=>HC.o (wr.drewN n) x y ((HK.o.trans t).trans (Xv _ _)) HX.o hy;have f:¬cf x y<0->mg (jd cf) [] (k++[x])=u++[y]++x::p:=λaJ=>by rw[Dv,GJ,eS,rG z,Li,QC (by rw[zw aJ];simp)];simp
      have ak:cf x y<0->∀s∈y::p,jd cf x s=true:=λhl s d=>by
       rcases QP.1 d with h|h
       .rw[h];exact Cj hl
       .exact z s h
      have au:mg (jd cf) [] k=u++(y::p):=by rw[eS];simp
      subst ag;have c1:=d.c1;have c2:=d.c2;have z1:=d.z1;have z2:=d.z2;have aQ:IntKind.i64.wrap (r:Int)=(r:Int):=by rw[XG];omega
      have jz:(r:Int)+1<(len:Int):=by omega
      have aR:(r:Int)<(len:Int):=by omega
      have aj:(a:Int)<(r:Int)+1:=by omega
      have p0:(0:Int)<=(r:Int)+1:=by omega
      have e0:((r:Int)+1).toNat=r+1:=by omega
      obtain⟨HS,HF,aF,aG,q,ah,aH⟩:=Dn d f ak au (X4 v t) Ae NS;clear HJ eS ej z v t f e ak au d Ae NS hy;obtain⟨B,C,D⟩:=x;obtain⟨G,K,S⟩:=y;unfold ae.val at c1 c2 hc;simp only at c1 c2 hc;by_cases az:cf ⟨B,C,D⟩ ⟨G,K,S⟩<0
      .go_wp2_with fail;go_quiet (first|(go_at_fn g;refine X7 (hc _)));go_wp2_with fail;have e:P++(u++[ae.mk G K S])++ae.mk B C D::p++L3++Q=(P++u)++ae.mk G K S::[]++ae.mk B C D::(p++L3++Q):=by simp
       have d:=(q.o.1.drewN nq).RN e (i1:=r) (i2:=r+1) (by rw[QI];exact ah.o.1) (by rw[QI];exact ah.o.2.2.1);have t:Kept (λb=>b≠aT) w (wr.drewN nq):=q.o.2.trans (Xv _ _);clear c1 c2 z1 z2 hc q HS HF e;generalize wr.drewN nq=wq at*;obtain⟨j1,ax⟩:=eY (r+1);rw[<-ax]at e0 d;have c1:=d.c1;have c2:=d.c2;have z1:=d.z1;have z2:=d.z2;have aS:=d.ne;have hd:=d.down;unfold ae.val at c1 c2 hd;simp only at c1 c2 hd;obtain⟨HD,aI⟩:=aV hd t;clear d hd t ax;go_region;have hd:=HD.o;clear HD;generalize ((wq.setCell { block:=aT,off:=j1 } (Value.slice G (N S) K)).setCell { block:=aT,off:=r } (Value.slice B (N D) C)).drew=wf at*;have HD:=Zh hd;clear hd;go_wp2;go_roundw
       case rel=>
        refine⟨r,u,ae.mk G K S::p,by first|rfl|go_num,aH.o.2.2.2,aG.o,ah.o.2.2.2,aF.o az,?_,aI.o.trans HD.o.2⟩;have h:=HD.o.1;have e:P++u++ae.mk B C D::(ae.mk G K S::p)++L3++Q=P++u++ae.mk B C D::[]++ae.mk G K S::(p++L3++Q):=by simp
        rw[e];exact h
       case measure=>simp[intOf]
      .go_wp2_with fail;go_quiet (first|(go_at_fn g;refine X7 (hc _)));go_wp2;go_roundw
       case rel=>
        refine⟨i+1,k++[⟨B,C,D⟩],L3,by go_num,by omega,by rw[HE.o,Zu];rfl,by rw[QI,af.o];rfl,?_,q.o.2.trans (Xv _ _)⟩;rw[HF.o az];have h:=q.o.1.drewN nq;have e:P++(u++[ae.mk G K S]++ae.mk B C D::p)++L3++Q=P++(u++[ae.mk G K S])++ae.mk B C D::p++L3++Q:=by simp
        rw[e];exact h
       case measure=>simp[intOf];omega
section
variable {α:Type} {lt:α->α->Bool}
def afr{x:α}{B1 B3:List α}(h1:∀y∈B1,lt y x=T)(h3:∀y∈B3,lt y x=F)(hB:dh lt (B1++B3)):mg lt [x] (B1++B3)=B1++x::B3:=by unfold dh at hB;rw[Xi]at hB;have e:=PN (lt:=lt) (A1:=[]) (A2:=[x]) (B1:=B1) (B2:=B3) (λb f a d=>by simp_all) (λb _ a d=>by cases d) (λb f a d=>hB.2.2 a d b f);rw[ZU]at e;rw[e,Ng (lt:=lt) hB.1 (λb _ a d=>by cases d),ZU,Ng (lt:=lt) hB.2.1 (λb f a d=>by simp_all)];rfl
theorem aiS{y:α}{A1 A3:List α}(h1:∀a∈A1,lt y a=F)(h3:∀a∈A3,lt y a=T):mg lt (A1++A3) [y]=A1++y::A3:=by grind [GJ,rG,Lj]
def RQ(Oq:kU lt){B4 B5:List α}{z x:α}(hB:dh lt (B4++z::B5))(h:lt z x=T):∀y∈B4,lt y x=true:=by
 intro y hy;unfold dh at hB;rw[Xi]at hB;have a:=hB.2.2 y hy z (by simp)
 cases hyx:lt y x with
 |true=>rfl
 |false =>
  have:=Oq.ntrans hyx a;simp_all
def RU(Oq:kU lt){B4 B5:List α}{z x:α}(hB:dh lt (B4++z::B5))(h:lt z x=F):∀y∈B5,lt y x=false:=by intro y hy;unfold dh at hB;rw[Xi,Zt]at hB;exact Oq.ntrans h (hB.2.1.1 y hy)
def Mf(Oq:kU lt){B4 B5:List α}{z x:α}(hB:dh lt (B4++z::B5))(h:lt x z=T):∀y∈B5,lt x y=true:=by
 intro y hy;unfold dh at hB;rw[Xi,Zt]at hB;have a:=hB.2.1.1 y hy
 cases hxy:lt x y with
 |true=>rfl
 |false =>
  have:=Oq.ntrans a hxy;simp_all
def Mg(Oq:kU lt){B4 B5:List α}{z x:α}(hB:dh lt (B4++z::B5))(h:lt x z=F):∀y∈B4,lt x y=false:=by intro y hy;unfold dh at hB;rw[Xi]at hB;exact Oq.ntrans (hB.2.2 y hy z (by simp)) h
end
structure Bc(lt:ae->ae->Bool)(x:ae)(B:List ae)(m i j:Nat)(B1 B2 B3:List ae):Prop where
 eq:B=B1++B2++B3
 li:i=m+N B1
 lj:j=m+N B1+N B2
 lo:∀y∈B1,lt y x=T
 hi:∀y∈B3,lt y x=F
def NT(h:i<j):i<=(i+j) / 2/\(i+j) / 2<j:=by omega
theorem Bc.step{lt:ae->ae->Bool}{x:ae}{B:List ae}(h:Bc lt x B m i j B1 B2 B3)(Oq:kU lt)(hB:dh lt B){c:Nat}(hc:i<=c/\c<j) :
  ∃B4 z B5,B2=B4++z::B5/\c=m+N B1+N B4/\(lt z x=T->Bc lt x B m (c+1) j (B1++B4++[z]) B5 B3)/\(lt z x=F->Bc lt x B m i c B1 B4 (z::B5++B3)):=by
 have f:=h.li;have g:=h.lj;obtain⟨B4,d,e,n,p⟩:=oI B2 (c-i) (by omega);obtain⟨z,B5,rfl⟩:∃z B5,d=z::B5:=by
  cases d with
  |nil=>grind
  |cons z B5=>grind
 have k:=h.eq;have a:dh lt ((B1++B4)++z::(B5++B3)):=by grind
 have l:N B2=N B4+(N B5+1):=by rw[e];simp
 refine⟨B4,z,B5,e,by omega,λb=>⟨by grind,by simp;omega,by simp;omega,λy hy=>?_,h.hi⟩,λb=>⟨by grind,f,by omega,h.lo,λy hy=>?_⟩⟩
 .rcases Ze.1 hy with hy|hy
  .exact RQ Oq a b y hy
  grind
 .rcases Ze.1 hy with hy|hy
  .rcases QP.1 hy with hy|hy
   .grind
   .exact RU Oq a b y (Ze.2 (Or.inl hy))
  .exact h.hi y hy
structure Bd(lt:ae->ae->Bool)(x:ae)(B:List ae)(m i j:Nat)(B1 B2 B3:List ae):Prop where
 eq:B=B1++B2++B3
 li:i=m+N B1
 lj:j=m+N B1+N B2
 lo:∀y∈B1,lt x y=F
 hi:∀y∈B3,lt x y=T
theorem Bd.step{lt:ae->ae->Bool}{x:ae}{B:List ae}(h:Bd lt x B m i j B1 B2 B3)(Oq:kU lt)(hB:dh lt B){c:Nat}(hc:i<=c/\c<j) :
  ∃B4 z B5,B2=B4++z::B5/\c=m+N B1+N B4/\(lt x z=F->Bd lt x B m (c+1) j (B1++B4++[z]) B5 B3)/\(lt x z=T->Bd lt x B m i c B1 B4 (z::B5++B3)):=by
 have f:=h.li;have g:=h.lj;obtain⟨B4,d,e,n,p⟩:=oI B2 (c-i) (by omega);obtain⟨z,B5,rfl⟩:∃z B5,d=z::B5:=by
  cases d with
  |nil=>grind
  |cons z B5=>grind
 have k:=h.eq;have a:dh lt ((B1++B4)++z::(B5++B3)):=by grind
 have l:N B2=N B4+(N B5+1):=by rw[e];simp
 refine⟨B4,z,B5,e,by omega,λb=>⟨by grind,by simp;omega,by simp;omega,λy hy=>?_,h.hi⟩,λb=>⟨by grind,f,by omega,h.lo,λy hy=>?_⟩⟩
 .rcases Ze.1 hy with hy|hy
  .exact Mg Oq a b y hy
  grind
 .rcases Ze.1 hy with hy|hy
  .rcases QP.1 hy with hy|hy
   .grind
   .exact Mf Oq a b y (Ze.2 (Or.inl hy))
  .exact h.hi y hy
