import Derived.Test.YtnjbikdhpnopjaaGreatDoorA02
import Derived.Test.YtnjbikdhpnopjaaGreatDoorA04
set_option linter.all false
set_option maxRecDepth 100000
set_option maxHeartbeats 0
namespace Go.Proofs.Zz
open Go.RowKit Go.Shelf
open List renaming length->N,getD->E
open Go.Value renaming slice->Z,int->I,pointer->Y,bool->Wl,agg->FL
open Go.Proofs.Tryz renaming prog->V
open Option renaming some->O,none->xn
open Go.IntKind renaming i64->J,u64->Vo
open Bool renaming false->F,true->T
open Go renaming World->U,Value->X3
open Go.World renaming heap->H,setCell->UC,cell?->UK
open _root_.Array renaming size->M
open Go.RowKit renaming Hid->Y3
open Go.Obj renaming cells->EP
open Go.Ending renaming returned->FN
variable {A B W w:U} {b base bg blk bm fuel i i1 i2 k lc len m mb n nk:Nat} {e t te tg ti tk tp ty:TypeId} {v:X3} {C cols cs gU kc l ps r row sc src xs:List Int} {fn:Func} {c lk p rk s:Int} {P:Program} {L R ks ref rl rows rr:List (List Int)} {pre:List ae} {x:ae} {lo:Option Addr} {q:af} {a:Act} {ts:List ah} {o:Oper} {cnt:Nat->Nat} {db:List aP} {Fq:Fence} {S:U->Prop} {plan:List ai} {md:Region.Mode} {ops:Array Oper} {Q:Exit->Act->U->Prop} {listed:Array Bool}
def fP.below{w w':U}(hb:Bw w w'){ao:Option Addr}{ns:List ai}(h:fP w ao ns):fP w' ao ns:=
 ⟨h.1,λi p=>by
  obtain⟨b,off,e,a,d,f,g,j,k,l,m,n⟩:=h.2 i p;exact⟨b,off,e,cB hb a,cB hb d,cB hb f,cB hb g,cB hb j,cB hb k,cB hb l,Qo hb m,Qo hb n⟩⟩
def NZ(c:aI):N c.aA=5:=rfl
def vo{cs:List aI}(h:w.ownsRow base e 5 v (N cs) (cs.flatMap aI.aA))(hl:N cs<=100) :
  ∃k cap,v=Z k (N cs) cap/\aW w k cs/\∀a,k=O a->base<=a.block/\a.block<M (H w)/\v.ownBlock=O a.block:=by
 rcases h.2 with⟨rfl,h0⟩|⟨g,cap,cur,rfl,hb,hh,hc,_,hcs,ht⟩
 .have:=Qs h0;subst this;exact⟨xn,0,rfl,⟨by simp,λi d=>absurd d (by simp)⟩,λa f=>by cases f⟩
 .refine⟨O (aD g 0),cap,rfl,⟨by omega,λi d=>⟨g,0,rfl,?_⟩⟩,λa f=>by cases f;exact⟨hb,(QI.1 hh).1,rfl⟩⟩;have b:∀j,j<5->UK w (aD g (0+i*5+j))=((E cs i cz).aA)[j]?:=λj m=>by have l:=MO aI.aA 5 NZ cz cs [] i j d m;rw[Xd]at l;rw[<-l,<-ht,Xt,Zt (by have:=d;omega)];simp[World.cell?,hh]
  exact⟨b 0 (by omega),b 1 (by omega),b 2 (by omega),b 3 (by omega),b 4 (by omega)⟩
theorem xB{ls:List aB}(h:W.ownsRow base e 1 v (N ls) (ls.map aB.val))(hc:∀x∈ls,aW W x.ad x.cs)(hl:N ls<=100) :
  ∃d cap,v=Z d (N ls) cap/\dJ W d ls:=by
 have b:∀i,i<N ls->E ls i lz∈ls:=λi a=>by simp[List.getD,a]
 rcases h.2 with⟨rfl,h0⟩|⟨g,cap,cur,rfl,hb,hh,hc2,_,hcs,ht⟩
 .have:=Qs h0;subst this;exact⟨xn,0,rfl,by simp,λi a=>absurd a (by simp),λi a=>absurd a (by simp)⟩
 .refine⟨O (aD g 0),cap,rfl,by omega,λi a=>⟨g,0,rfl,?_⟩,λi a=>hc _ (b i a)⟩;have j:(cur.toList.take (N ls*1))[i]? = O (E ls i lz).val:=by rw[ht];simp[List.getD,a]
  have f:cur[i]? = O (E ls i lz).val:=by grind
  simp only[World.cell?,hh];simpa using f
def Tryz.Ci:(V.info? 69).map (λi=>(i.zero,i.size,i.bytes))=O (O (FL #[Wl F,I J 0,I J 0,Wl F,I J 0]),5,40):=by kernel_rfl
def Tryz.Ak:(V.info? 73).map (λi=>(i.zero,i.size,i.bytes))=O (O (FL #[Z xn 0 0]),1,24):=by kernel_rfl
def Kj{p:Tmp}(h:fn.results=#[.cell p ty])(tmps:Array X3)(P:Program)(w:U) :
  (results fn tmps).run P w=((asAddr (tmps.getD p undef)).run P w).andThen λa b=>(loadVar ty a).run P b:=by simp only[results,h];simp_all
def kL{p:Tmp}(h:fn.results=#[.cell p ty]){tmps:Array X3}{B:Nat}(hp:tmps.getD p undef=Y (O (aD B 0)))(hl:(loadVar ty (aD B 0)).run P w=.ok v w) :
  (results fn tmps).run P w=.ok v w:=by rw[Kj h,hp];simp[go_sem]at hl ⊢;simp[hl]
def nnV(v:Int):Int:=if v=1073741824 then 0 else v
def okV(v:Int):Prop:=v=1073741824∨(-1000<=v/\v<=1000)
def NI(gU:List Int):Nat:=N (gU.filter λv=>!decide (v=1073741824))
def BI(gU:List Int):Int:=(gU.map nnV).sum
def rQ(gU:List Int):Int:=if NI gU=0 then 1073741824 else BI gU
theorem abv(gU:List Int)(v:Int):NI (gU++[v])=if v=1073741824 then NI gU else NI gU+1:=by unfold NI;grind
def abw(gU:List Int)(v:Int):BI (gU++[v])=if v=1073741824 then BI gU else BI gU+v:=by
 unfold BI;rw[Qi,List.sum_append];by_cases h:v=1073741824
 .rw[Zt h];simp[nnV,h]
 .rw[ZU h];simp[nnV,h]
def aag:∀(gU:List Int),(∀v∈gU,okV v)->-(1000*(N gU:Int))<=BI gU/\BI gU<=1000*(N gU:Int)
 |[],_=>by simp[BI]
 |v::gU,h=>by
  have ih:=aag gU (λx hx=>h x (by simp[hx]));have h1:=h v (by simp);have e:BI (v::gU)=nnV v+BI gU:=by simp[BI]
  rw[e,QO];have h2:-1000<=nnV v/\nnV v<=1000:=by unfold nnV okV at*;omega
  omega
theorem abx(h:NI gU=0):BI gU=0:=by
 unfold NI at h;have b:=Qs h;rw[Xv]at b;unfold BI;have:gU.map nnV=gU.map (λ_=>(0:Int)):=Xw λv d=>by grind [nnV]
 rw[this];clear this h b
 induction gU with
 |nil=>rfl
 |cons a l ih=>simp_all
def oI(kc sc:List Int)(rows:List (List Int)):List Int:=au (rows.headD []) kc++[(N rows:Int)]++sc.map λc=>rQ (rows.map λr=>E r c.toNat 0)
theorem Ri{v:Int}(hc:∀x∈gU,okV x)(_hv:okV v)(hl:N gU<=100000):J4 (rQ gU) v=rQ (gU++[v]):=by
 unfold J4 rQ;rw[abv,abw];by_cases h:v=1073741824
 .simp_all
 .rw[ZU h,ZU h,ZU h];have a:=aag gU hc
  grind [abx]
theorem aah{sc:List Int}:∀(R P:List (List Int)) (g:Gr),(∀r∈P++R,∀c∈sc,okV (E r c.toNat 0))->N (P++R)<=100000->g.cnt=N P->g.ss=sc.map (λc=>rQ (P.map λr=>E r c.toNat 0))->
  R.foldl (λg r=>mr r sc g) g=⟨g.key,N (P++R),sc.map λc=>rQ ((P++R).map λr=>E r c.toNat 0)⟩
 |[],P,g,_,_,h1,h2=>by rw[Xd];obtain⟨k,n,s⟩:=g;simp_all
 |r::R,P,g,h,hl,h1,h2=>by
  rw[ZF];have e:P++r::R=(P++[r])++R:=by simp
  have:=aah R (P++[r]) (mr r sc g) (by rw[<-e];exact h) (by grind) (by show g.cnt+1=_;rw[h1];simp) (by
   show gH g.ss r sc=_;rw[h2];unfold gH;rw[List.zipWith_map_left];apply Xx (by simp);intro i b d;have a:i<N sc:=by grind
   simp only[List.getElem_zipWith,Xy,Qi,Xg,List.map_nil];refine Ri (λx f=>?_) (h r (by simp) _ (Zv a)) ?_
   .grind
   grind)
  rw[this,e];rfl
theorem aai(R:List (List Int))(key:List Int)(h:∀r∈R,∀c∈sc,okV (E r c.toNat 0))(hl:N R<=100000) :
  (R.foldl (λg r=>mr r sc g) (mD key (N sc))).row=key++[(N R:Int)]++sc.map λc=>rQ (R.map λr=>E r c.toNat 0):=by
 have:=aah (sc:=sc) R [] (mD key (N sc)) (by simpa using h) (by simp_all) rfl (by
  show List.replicate (N sc) (1073741824:Int)=_;apply Xx (by simp);grind [rQ,NI])
 rw[this,QU];rfl
def jY(kc sc:List Int):Nat->List (List Int)->List (List Int)
 |0,_=>[]
 |_+1,[]=>[]
 |n+1,r::rs=>oI kc sc ((r::rs).filter λx=>decide (au x kc=au r kc))::jY kc sc n ((r::rs).filter λx=>!decide (au x kc=au r kc))
def tV(kc:List Int)(gs:List Gr)(x:List Int):Bool:=(gs.map Gr.key).any λk=>decide (k=au x kc)
def uZ{rs:List (List Int)}:((r::rs).filter λx=>!decide (au x kc=au r kc))=rs.filter λx=>!decide (au x kc=au r kc):=by simp_all
theorem Vp{k:List Int}(h:jE ks k=O i):∃hi:i<N ks,ks[i]=k:=by unfold jE at h;grind [List.findIdx?_eq_some_iff_getElem]
def Vr{k:List Int}(h:jE ks k=xn):∀a∈ks,a≠k:=by unfold jE at h;simp_all
theorem sS{kc sc:List Int}:∀(rows:List (List Int)) (gs:List Gr) (n:Nat),(gs.map Gr.key).Pairwise (· ≠ ·)->N rows<=n->N rows<=100000->(∀r∈rows,∀c∈sc,okV (E r c.toNat 0))->
  (rows.foldl (stepG kc sc) gs).map Gr.row=(gs.map λg=>((rows.filter λx=>decide (au x kc=g.key)).foldl (λg r=>mr r sc g) g).row)++jY kc sc n (rows.filter λx=>!tV kc gs x)
 |[],gs,n,_,_,_,_=>by
  rw[List.foldl_nil,List.filter_nil];have e:jY kc sc n []=[]:=by cases n <;> rfl
  simp_all
 |r::rows,gs,n,hp,hn,hl,hv=>by
  rw[ZF]
  cases hf:jE (gs.map Gr.key) (au r kc) with
  |some i =>
   obtain⟨D,G⟩:=Vp hf;have Q:i<N gs:=by grind
   have y:gs[i].key=au r kc:=by simp_all
   have l:stepG kc sc gs r=gs.modify i (mr r sc):=by unfold stepG;rw[hf]
   have d:(gs.modify i (mr r sc)).map Gr.key=gs.map Gr.key:=by apply Xx (by simp);intro j K L;rw[Xy,Xy,Xz];split <;> rfl
   have p:∀x,tV kc (gs.modify i (mr r sc)) x=tV kc gs x:=λx=>by unfold tV;rw[d]
   have f:tV kc gs r=true:=by unfold tV;grind
   rw[l,sS rows _ n (by simp_all) (by grind) (by grind) (λx k=>hv x (by simp[k]))];congr 1
   .apply Xx (by simp);intro j K L;have R:j<N gs:=by simp_all
    simp only[Xy,Xz];by_cases u:i=j
    .grind
    .rw[ZU u];have z:¬au r kc=gs[j].key:=by rw[<-y];have:=Z7.1 hp;grind
     simp_all
   simp_all
  |none =>
   have q:=Vr hf;have l:stepG kc sc gs r=gs++[mr r sc (mD (au r kc) (N sc))]:=by unfold stepG;rw[hf]
   have f:tV kc gs r=false:=by unfold tV;simp_all
   obtain⟨m,rfl⟩:∃m,n=m+1:=⟨n-1,by grind⟩;have p:∀x,tV kc (gs++[mr r sc (mD (au r kc) (N sc))]) x=(tV kc gs x ||decide (au r kc=au x kc)):=λx=>by unfold tV;rw[Qi,List.any_append];simp[mr,mD]
   have t:((gs++[mr r sc (mD (au r kc) (N sc))]).map Gr.key).Pairwise (· ≠ ·):=by rw[Qi,Ze];refine⟨hp,Zf _ _,λa P b v=>?_⟩;rw[XA,Zg]at v;subst v;exact q a P
   rw[l,sS rows _ m t (by simp_all) (by grind) (λx k=>hv x (by simp[k])),Qi,ZE];congr 1
   .apply Xw
    grind
   .have A:(r::rows).filter (λx=>!tV kc gs x)=r::rows.filter (λx=>!tV kc gs x):=XB (by rw[f];rfl);rw[A]
    show _=oI kc sc ((r::rows.filter (λx=>!tV kc gs x)).filter λx=>decide (au x kc=au r kc))::jY kc sc m ((r::rows.filter (λx=>!tV kc gs x)).filter λx=>!decide (au x kc=au r kc));rw[uZ,List.filter_filter,XA,List.singleton_append];have B:(r::rows.filter (λx=>!tV kc gs x)).filter (λx=>decide (au x kc=au r kc))=r::rows.filter (λx=>decide (au x kc=au r kc)):=by
     rw[XB (by simp),List.filter_filter];congr 1;apply XC;intro x _;by_cases h:au x kc=au r kc
     .have:tV kc gs x=false:=by rw[<-f];unfold tV;rw[h]
      simp_all
     .simp[h]
    rw[B];congr 1
    .have C:(mr r sc (mD (au r kc) (N sc))).key=au r kc:=rfl;rw[C];have:=aai (sc:=sc) (r::rows.filter λx=>decide (au x kc=au r kc)) (au r kc) (λx k=>by
      grind) (by
      grind)
     grind [oI]
    grind
def kK(kc sc:List Int)(rows:List (List Int)):List (List Int):=if kc=[] then [oI [] sc rows] else jY kc sc (N rows) rows
def GZ(hl:N rows<=100000)(hv:∀r∈rows,∀c∈sc,okV (E r c.toNat 0)):(dW kc sc rows).map Gr.row=kK kc sc rows:=by
 unfold dW kK cO;by_cases a:kc=[]
 .subst a;rw[Zt rfl,Zt rfl,sS rows _ (N rows) (Zf _ _) (Qn _) hl hv];have b:(rows.filter λx=>decide (au x []=(mD [] (N sc)).key))=rows:=List.filter_eq_self.2 λx _=>by rfl
  have d:(rows.filter λx=>!tV [] [mD [] (N sc)] x)=[]:=Xv.2 λx _=>by simp[tV,mD,au]
  rw[d,XA,b,aai rows [] hv hl];have e:jY [] sc (N rows) []=[]:=by cases (N rows) <;> rfl
  rw[e];rfl
 .rw[ZU a,ZU a,sS rows [] (N rows) Zl (Qn _) hl hv];rw[List.map_nil,QU];congr 1;exact List.filter_eq_self.2 λx _=>by simp[tV]
section
def aeG(c:List Int)(h:(pre++[x]).map aj.key <+: rows):(pre++[x]).map (λr=>au r.xs c) <+: rows.map (λr=>au r c):=by have a:=List.IsPrefix.map (λr=>au r c) h;rw[Z9]at a;exact a
attribute [local go_sem] Oper.semAt_some
end
def dh(Ez:El ae (List Int))(P:Program)(v:X3)(rows:List (List Int))(w:U):Prop:=
 ∃g lb,v=.func (.func g) #[] lb/\(∀args w,(callFunc g args).run P w=.ok (.enter g args) w)/\Seq Ez P g lb rows w
def dh.later{Ez:El ae (List Int)}{P:Program}{v:X3}{rows:List (List Int)}{w w':U}(h:dh Ez P v rows w)(hb:Bw w w'):dh Ez P v rows w':=by obtain⟨g,lb,a,b,d⟩:=h;exact⟨g,lb,a,b,Seq.later Ez d hb⟩
def aeY(hL:∀a∈L,N a<=m)(hR:∀a∈R,N a<=n):∀a∈dz L R,N a<=m+n:=by intro a b;unfold dz at b;obtain⟨x,d,b⟩:=Z6.1 b;obtain⟨y,e,rfl⟩:=ZC.1 b;have:=hL x d;have:=hR y e;rw[Zn];omega
def Ma(t:aP)(w:U)(h:bD w t.ad t.rs) :
  Calls V 87 #[t.val] w λe f=>∃v,e=FN v/\dh aj V v (t.rs.map (·.xs)) f/\Bw w f:=by
 obtain⟨b,cap,a⟩:=t;unfold aP.val;simp only at*;have d:=dN w (EP #[Z b (N a) cap] 52);have g:dh aj V (.func (.func 131) #[] #[Y (O (aD (M (H w)) 0))]) (a.map (·.xs)) (w.alloc (EP #[Z b (N a) cap] 52)):=
  ⟨_,_,rfl,XZ Tryz.func131 (by kernel_rfl) rfl,Pw (M (H w)) b cap a _ (by simp) (by simp) (h.below d)⟩
 have i:Y3 _:=g;have j:=Zh d;go_enter Tryz.func87,Tryz.ntmps87;go_wp2;go_ret;exact⟨_,rfl,i.o,j.o⟩
def ab8(vl vr:X3)(L R:List (List Int))(w:U)(hl:dh aj V vl L w)(hr:dh aj V vr R w)(hR:N R<=1000000)(J5:∀a∈L,N a<=1000)(hRl:∀a∈R,N a<=1000) :
  Calls V 88 #[vl,vr] w λe n=>∃v,e=FN v/\dh aj V v (dz L R) n/\Bw w n:=by
 obtain⟨d,f,rfl,j,k⟩:=hl;obtain⟨gr,l,rfl,m,t⟩:=hr;have b:=dN w (EP #[.func (.func d) #[] f] 79);have g:=dN (w.alloc (EP #[.func (.func d) #[] f] 79)) (EP #[.func (.func gr) #[] l] 79);have i:=b.trans (g.mono b.size);have p:dh aj V (.func (.func 132) #[] #[Y (O (aD (M (H w)+1) 0)),Y (O (aD (M (H w)) 0))]) (dz L R) ((w.alloc (EP #[.func (.func d) #[] f] 79)).alloc (EP #[.func (.func gr) #[] l] 79)):=
  ⟨_,_,rfl,XZ Tryz.func132 (by kernel_rfl) rfl,Rb (M (H w)+1) (M (H w)) gr d l f L R _ (by simp) (by simp;omega) (by simp) (by simp) (Seq.later _ t i) (Seq.later _ k i) m j hR J5 hRl⟩
 have q:Y3 _:=p;have r:=Zh i;go_enter Tryz.func88,Tryz.ntmps88;go_wp2;go_ret;exact⟨_,rfl,q.o,r.o⟩
def RP(vi:X3)(gk:Nat)(lbk:Array X3)(rows:List (List Int))(p:List Int->Bool)(w:U)(hi:dh aj V vi rows w)(egk:∀args w,(callFunc gk args).run V w=.ok (.enter gk args) w)
  (hkeep:∀W x,Bw w W->ae.At x W->x.xs∈rows->Calls V gk (#[x.val]++lbk) W λe W'=>e=FN (Wl (p x.xs))/\Bw W W') :
  Calls V 48 #[vi,.func (.func gk) #[] lbk] w λe j=>∃v,e=FN v/\dh aj V v (rows.filter p) j/\Bw w j:=by
 obtain⟨d,f,rfl,n,i⟩:=hi;have a:=dN w (EP #[.func (.func d) #[] f] 79);have g:=dN (w.alloc (EP #[.func (.func d) #[] f] 79)) (EP #[.func (.func gk) #[] lbk] 123);have b:=a.trans (g.mono a.size);have k:dh aj V (.func (.func 86) #[] #[Y (O (aD (M (H w)) 0)),Y (O (aD (M (H w)+1) 0))]) (rows.filter p) ((w.alloc (EP #[.func (.func d) #[] f] 79)).alloc (EP #[.func (.func gk) #[] lbk] 123)):=
  ⟨_,_,rfl,XZ Tryz.func86 (by kernel_rfl) rfl,Gq (M (H w)) (M (H w)+1) d gk f lbk rows p _ (by simp;omega) (by simp) (by simp) (by simp) (Seq.later _ i b) n egk (λW x q r t=>hkeep W x (b.trans (q.mono b.size)) r t)⟩
 have l:Y3 _:=k;have m:=Zh b;go_enter Tryz.func48,Tryz.ntmps48;go_wp2;go_ret;exact⟨_,rfl,l.o,m.o⟩
def uq(c n:Int):Int:=Int.tmod (if c<0 then -(c+1) else c) n
def Ex{n:Int}(hn:0<n):0<=uq c n/\uq c n<n:=by
 unfold uq;have h:0<=(if c<0 then -(c+1) else c):=by split <;> omega
 exact⟨Int.tmod_nonneg _ h,Int.tmod_lt_of_pos _ hn⟩
def oN{p:Addr}(h:A.cell? p=O v)(hk:Kept (λ_=>True) A B):B.cell? p=O v:=
 (QL (hk.block _ (QK h) trivial)).trans h
def jN{p:Addr}(h:A.cell? p=O v)(hk:Kept (λb=>b≠n) A B)(hp:p.block≠n):B.cell? p=O v:=
 (QL (hk.block _ (QK h) hp)).trans h
structure aV(mb:Nat)(lo:Option Addr)(lc:Nat)(l:List Int)(W:U):Prop where
 num:∃k:Nat,k<=N l/\UK W (aD mb 1)=O (I J k)
 lst:UK W (aD mb 0)=O (Z lo (N l) lc)
 Bl:W.frozen? (aD mb 1)=F
 ints:IntsAt W lo l
 off:∀a,lo=O a->a.block≠mb
def aV.keep{mb:Nat}{lo:Option Addr}{lc:Nat}{l:List Int}{A B:U}(h:aV mb lo lc l A)(hk:Kept (λ_=>True) A B):aV mb lo lc l B:=by obtain⟨k,b,d⟩:=h.num;exact⟨⟨k,b,oN d hk⟩,oN h.lst hk,(Zd (a:=(aD mb 1)) (hk.block mb (QK (p:=(aD mb 0)) h.lst) trivial)).trans h.Bl,⟨h.ints.1,h.ints.2.keep λa f e=>hk.block _ e trivial⟩,h.off⟩
theorem aV.more(h:aV mb lo lc l A)(hk:k<=N l):aV mb lo lc l (UC A (aD mb 1) (I J k)):=by obtain⟨m,_,f⟩:=h.num;have d:Kept (λb=>b≠mb) A (UC A (aD mb 1) (I J k)):=⟨rfl,rfl,rfl,by simp[World.setCell],λb _ i=>Below.heap_setCell A _ _ b i⟩;refine⟨⟨k,hk,World.cell?_setCell_same' _ _ _ (by rw[f];rfl)⟩,?_,by rw[World.frozen?_setCell];exact h.Bl,⟨h.ints.1,h.ints.2.keep λa j g=>d.block _ g (h.off a j)⟩,h.off⟩;exact(World.cell?_setCell_other A (aD mb 1) (aD mb 0) (I J k) (λe=>by cases e)).trans h.lst
theorem yf(c n:Int)(w:U)(hn:0<n)(hc:-9223372036854775808<=c/\c<=9223372036854775807) :
  Ce 7 #[I J c,I J n] w (I J (uq c n)):=by
 have b:¬n=0:=by omega
 by_cases f:c<0
 .have d:wrap64 (c+1)=c+1:=by unfold wrap64;omega
  have e:wrap64 (-(c+1)) = -(c+1):=by unfold wrap64;omega
  have a:uq c n = -((c+1).tmod n):=by unfold uq;rw[Zt f,Int.neg_tmod]
  rw[a];clear a;go_enter Tryz.func7,Tryz.ntmps7;go_wp2;go_ret;exact⟨rfl,rfl⟩
 .have a:uq c n=c % n:=by unfold uq;grind
  rw[a];clear a;go_enter Tryz.func7,Tryz.ntmps7;go_wp2;go_ret;exact⟨rfl,rfl⟩
def ael(mb:Nat)(lo:Option Addr)(lc:Nat)(l:List Int)(n:Int)(W:U)(hm:aV mb lo lc l W)(hn:0<n)(hl:∀x∈l,-9223372036854775808<=x/\x<=9223372036854775807) :
  Calls V 11 #[Y (O (aD mb 0)),I J n] W λe W'=>∃k:Int,e=FN (I J k)/\0<=k/\k<n/\aV mb lo lc l W'/\Kept (λb=>b≠mb) W W':=by
 obtain⟨k,hk,m⟩:=hm.num;have t:=hm.lst;have L:=hm.Bl;have D:=hm.ints.1;obtain⟨p,R⟩:=aJ hm hl;clear hm hl;by_cases g:k<N l
 .have u:¬(k:Int) ≥ (N l:Int):=by omega
  obtain⟨b,off,rfl,q⟩:=p.o.ints.get g;have i:=q k g;have v:=R.o l[k] (Zv g);have G:E l k 0=l[k]:=by simp[List.getD,g]
  rw[G]at i;generalize l[k]=x at*;have y:b≠mb:=p.o.off _ rfl;clear q G;go_enter Tryz.func11,Tryz.ntmps11;go_wp2;go_quiet (fail);go_wp2;have a:=aV.more (aV.keep p.o (Zp W nq)) (k:=k+1) (by omega);have d:Kept (λb=>b≠mb) W (UC (W.drewN nq) (aD mb 1) (I J ((k+1:Nat):Int))):=(Zp W nq).trans ⟨rfl,rfl,rfl,by simp[World.setCell],λb _ X=>Below.heap_setCell _ _ _ b X⟩;have z:=jN i d y;obtain⟨r,f⟩:∃r,UC (W.drewN nq) (aD mb 1) (I J ((k+1:Nat):Int))=r:=⟨_,rfl⟩;have j:UC (W.drewN nq) (aD mb 1) (I J ((k:Int)+1))=r:=f;rw[f]at a d z;rw[j];obtain⟨k2,_,B⟩:=a.num;have P:UK r (aD mb 1)=O (I J ((k:Int)+1)):=by rw[<-f];exact World.cell?_setCell_same' _ _ _ (by rw[oN m (Zp W nq)];rfl)
  have Q:=a.lst;obtain⟨C,S⟩:=aJ a d;clear a d f j B m t i p;have A:=λW=>yf x n W hn v;go_quiet ((go_at_call 7;exact Calls.quiet_of_same (A _)));go_wp2;go_ret;have K:=Ex (c:=x) hn;exact⟨_,rfl,K.1,K.2,aV.keep C.o (Zp _ _),S.o.trans (Zp _ _)⟩
 .have u:(k:Int) ≥ (N l:Int):=by omega
  go_enter Tryz.func11,Tryz.ntmps11;go_wp2;go_quiet (fail);go_wp2;go_ret;exact⟨0,rfl,by omega,hn,aV.keep p.o (Zp _ _),Zp _ _⟩
def Zu:=@ael
def aic:Array Value:=#[I J 0,I J 1,I J 7,I J 20,I J 100,I J 5000,I J 1000000]
def aem:Array Value:=#[I J 1,I J 2,I J 5,I J 10,I J 1000000]
def aid{r:Nat}(h:r<7):∃x:Int,aic[r]? = O (I J x)/\0<=x/\x<=1000000:=by
 have:r=0∨r=1∨r=2∨r=3∨r=4∨r=5∨r=6:=by omega
 rcases this with rfl|rfl|rfl|rfl|rfl|rfl|rfl <;> exact⟨_,rfl,by decide,by decide⟩
def aen{r:Nat}(h:r<5):∃x:Int,aem[r]? = O (I J x)/\1<=x/\x<=1000000:=by
 have:r=0∨r=1∨r=2∨r=3∨r=4:=by omega
 rcases this with rfl|rfl|rfl|rfl|rfl <;> exact⟨_,rfl,by decide,by decide⟩
def aV.lt(h:aV mb lo lc l A):mb<M (H A):=QK (p:=(aD mb 0)) h.lst
def aV.alloc{mb:Nat}{lo:Option Addr}{lc:Nat}{l:List Int}{A:U}(h:aV mb lo lc l A)(o:Obj):aV mb lo lc l (A.alloc o):=h.keep (QE _ _)
def aV.set(h:aV mb lo lc l A){G:Nat}(v:X3)(h1:G≠mb)(h2:∀a,lo=O a->a.block≠G):aV mb lo lc l (UC A (aD G i) v):=by have d:Kept (λb=>b≠G) A (UC A (aD G i) v):=Q8 _ _ _ (λh=>h rfl);obtain⟨k,e,f⟩:=h.num;exact⟨⟨k,e,jN f d (Ne.symm h1)⟩,jN h.lst d (Ne.symm h1),(Zd (a:=(aD mb 1)) (d.block mb h.lt (Ne.symm h1))).trans h.Bl,⟨h.ints.1,h.ints.2.keep λa j g=>d.block _ g (h2 a j)⟩,h.off⟩
structure Cq(mb:Nat)(lo:Option Addr)(lc:Nat)(l:List Int)(t:TypeId)(W0:U)(cb:Nat)(z c:Array X3)(W:U):Prop where
 gc:GB W cb t c
 gr:GB W (M (H W0)) t z
 uR:aV mb lo lc l W
 kp:Kept (λb=>b≠mb) W0 W
 lt:mb<M (H W0)
 ne:M (H W0)<cb
 off:∀a,lo=O a->a.block<M (H W0)
section
variable {mb:Nat} {lo:Option Addr} {lc:Nat} {l:List Int} {t:TypeId} {W0:U} {cb:Nat} {z c:Array X3} {A B:U}
def Cq.keep(h:Cq mb lo lc l t W0 cb z c A)(hk:Kept (λb=>b≠mb) A B)(hm:aV mb lo lc l B):Cq mb lo lc l t W0 cb z c B:=by have a:=h.lt;have d:=h.ne;exact⟨h.gc.keep hk (by omega),h.gr.keep hk (by omega),hm,h.kp.trans hk,a,d,h.off⟩
def Cq.set(h:Cq mb lo lc l t W0 cb z c A)(c':Array X3)(k:Nat)(v:X3)(hc:c.setIfInBounds k v=c'):Cq mb lo lc l t W0 cb z c' (UC A (aD cb k) v):=by have d:=h.lt;have e:=h.ne;exact⟨hc ▸ h.gc.set k v,h.gr.keep (s:=λb=>b≠cb) (Q8 _ _ _ (λh=>h rfl)) (by omega),h.uR.set _ (by omega) (λa f=>by have:=h.off a f;omega),h.kp.Nu (by omega) _,d,e,h.off⟩
def Kept.aeo{s:Nat->Prop}{B:Nat}(hB:M (H A)<=B):∀(vs:List X3) (o:Nat) (W:U),Kept s A W->Kept s A (ig B o vs W)
 |[],_,_,h=>h
 |_::vs,_,_,h=>Kept.aeo hB vs _ _ (h.Nu hB _)
def aV.aeo{B:Nat}(h1:B≠mb)(h2:∀a,lo=O a->a.block≠B):∀(vs:List X3) (o:Nat) (W:U),aV mb lo lc l W->aV mb lo lc l (ig B o vs W)
 |[],_,_,h=>h
 |_::vs,_,_,h=>aV.aeo h1 h2 vs _ _ (h.set _ h1 h2)
def Cq.fin(h:Cq mb lo lc l t W0 cb z c A){vs:List X3}{c':Array X3}(hc:uk 0 vs z=c'):GB (ig (M (H W0)) 0 vs A) (M (H W0)) t c'/\aV mb lo lc l (ig (M (H W0)) 0 vs A)/\Kept (λb=>b≠mb) W0 (ig (M (H W0)) 0 vs A):=
 ⟨hc ▸ pG h.gr,aV.aeo (by have:=h.lt;omega) (λa d=>by have:=h.off a d;omega) _ _ _ h.uR,Kept.aeo (Qn _) _ _ _ h.kp⟩
end
structure Gt(t:ah)(k:Nat):Prop where
 c1:1<=t.cols
 c3:t.cols<=3
 r0:0<=t.rows
 r1:t.rows<=1000000
 kd:∀m,m<k->1<=t.kd m/\t.kd m<=1000000
 kz:(k<=0->t.k0=0)/\(k<=1->t.k1=0)/\(k<=2->t.k2=0)/\t.k3=0
def aa1(mb:Nat)(lo:Option Addr)(lc:Nat)(l:List Int)(W:U)(hm:aV mb lo lc l W)(hl:∀x∈l,-9223372036854775808<=x/\x<=9223372036854775807)(hlo:∀a,lo=O a->a.block<M (H W)) :
  Calls V 12 #[Y (O (aD mb 0))] W λe W'=>∃t:ah,e=FN (FL t.aA)/\Gt t t.cols.toNat/\aV mb lo lc l W'/\Kept (λb=>b≠mb) W W':=by
 obtain⟨W1,e1,b1,g1⟩:=aL W #[I J 0,I J 0,I J 0,I J 0,I J 0,I J 0] 49;have aa:=hm.lt;have G:=Zu mb lo lc l 3 W1 (hm.keep (QB b1 λ_ h _=>h)) (by omega) hl;have K:Kept (λb=>b≠mb) W W1:=QB b1 λ_ h _=>h;have wI:Y3 (GB W1 (M (H W)) 49 tz.aA):=g1;have JM:Y3 (M (H W)<M (H W1)):=g1.lt;obtain⟨HL,JN⟩:=aJ hl hlo;clear hm b1 g1 hl hlo;go_enter Tryz.func12,Tryz.ntmps12;go_wp2_with fail;refine G.mono ?_;rintro e q ⟨j,rfl,aO,aB,r,n⟩;have ae:M (H W)≠mb:=by omega
 have aF:wrap64 (1+j)=1+j:=by unfold wrap64;omega
 obtain⟨X,eX,bX,gX⟩:=aL q #[I J (1+j),I J 0,I J 0,I J 0,I J 0,I J 0] 49;obtain⟨W3,e3,b3,g3⟩:=aL X aic 3;have sX:M (H X)=M (H q)+1:=by rw[<-eX];simp
 have hb:=az bX b3;have g:∀s,Kept s q W3:=λs=>QB hb λ_ h _=>h;have M3:Cq mb lo lc l 49 W (M (H q)) tz.aA (⟨1+j,0,0,0,0,0⟩:ah).aA W3:=⟨gX.keep (QB (s:=λ_=>True) b3 λ_ h _=>h) trivial,(GB.keep wI.o n ae).keep (g λ_=>True) trivial,r.keep (g _),(K.trans n).trans (g _),aa,QA JM.o n.size,JN.o⟩;have L:=Zu mb lo lc l 7 W3 M3.uR (by omega) HL.o;have aG:=r.lt;have F4:=Zh M3;have Dz:Y3 (GB W3 (M (H q)+1) 3 aic):=sX ▸ g3;unfold aic at e3;obtain⟨EX,E3⟩:=aJ eX e3;clear M3 b3 g3 bX gX hb g r K n G eX e3 sX;go_wp2_with fail;rw[EX.o,E3.o];refine L.mono ?_;rintro e W4 ⟨r2,rfl,aP,aC,Q,u⟩;obtain⟨B,rfl⟩:∃B:Nat,r2=(B:Int):=⟨r2.toNat,by omega⟩;have af:B<7:=by omega
 have M4:=F4.o.keep u Q;obtain⟨x,hx,av,ax⟩:=aid af;have aH:=((GB.keep Dz.o u (show M (H q)+1≠mb by omega)).cell B).trans hx;have aI:=M4.gc.at 1;have aK:=M4.gc.frozen 1;have K7:=Zh (M4.set (⟨1+j,x,0,0,0,0⟩:ah).aA 1 (I J x) rfl);clear M4 Q u L;go_wp2;go_loopw [4] (λi wr=>∃(k:Nat) (t:ah),i=I J k/\(k:Int)<=t.cols/\Gt t k/\Cq mb lo lc l 49 W (M (H q)) tz.aA t.aA wr) (λi wr=>10-(intOf i).toNat)
 case atStart=>exact⟨0,⟨1+j,x,0,0,0,0⟩,rfl,by show (0:Int)<=1+j;omega,⟨by show 1<=1+j;omega,by show 1+j<=3;omega,av,ax,λm h=>by omega,λ_=>rfl,λ_=>rfl,λ_=>rfl,rfl⟩,K7.o⟩
 case round=>
  obtain⟨k,⟨cols,rows,C,D,k2,k3⟩,rfl,ay,hT,f⟩:=hrel;have c0:=f.gc.at 0;simp only at ay;have ag:=hT.c3;simp only at ag;have d:=Zh hT;by_cases aS:(k:Int)<cols
  .have ai:k=0∨k=1∨k=2:=by omega
   obtain⟨W6,e6,b6,g6⟩:=aL wr aem 3;have M6:=f.keep (QB b6 λ_ h _=>h) (f.uR.keep (QB b6 λ_ h _=>h));have uu:=Zu mb lo lc l 5 W6 M6.uR (by omega) HL.o;have aM:=f.uR.lt;have aj:=Zh M6;have ak:Y3 _:=g6;unfold aem at e6;clear f M6 b6 g6 hT;go_wp2_with fail;refine uu.mono ?_;rintro e W7 ⟨r3,rfl,aQ,aR,R,wM⟩;obtain⟨S,rfl⟩:∃B:Nat,r3=(B:Int):=⟨r3.toNat,by omega⟩;have au:S<5:=by omega
   obtain⟨y,hy,v,A⟩:=aen au;have aN:=((GB.keep ak.o wM (show M (H wr)≠mb by omega)).cell S).trans hy;have M7:=aj.o.keep wM R;obtain⟨-,-,d0,d1,d2,-⟩:=M7.gc.k6;have z:=λi=>M7.gc.frozen i;have p:=Zh M7;clear M7 R wM uu;rcases ai with rfl|rfl|rfl
   .go_wp2;go_roundw
    case rel=>exact⟨1,⟨cols,rows,y,D,k2,k3⟩,rfl,by show (1:Int)<=cols;omega,⟨d.o.c1,d.o.c3,d.o.r0,d.o.r1,λm hm=>by match m,hm with|0,_=>exact⟨v,A⟩,λh=>by omega,λ_=>d.o.kz.2.1 (by omega),λ_=>d.o.kz.2.2.1 (by omega),d.o.kz.2.2.2⟩,p.o.set _ 2 _ rfl⟩
    case measure=>simp[intOf]
   .go_wp2;go_roundw
    case rel=>exact⟨2,⟨cols,rows,C,y,k2,k3⟩,rfl,by show (2:Int)<=cols;omega,⟨d.o.c1,d.o.c3,d.o.r0,d.o.r1,λm hm=>by
     match m,hm with
     |0,_=>exact d.o.kd 0 (by omega)
     |1,_=>exact⟨v,A⟩,λh=>by omega,λh=>by omega,λ_=>d.o.kz.2.2.1 (by omega),d.o.kz.2.2.2⟩,p.o.set _ 3 _ rfl⟩
    case measure=>simp[intOf]
   .go_wp2;go_roundw
    case rel=>exact⟨3,⟨cols,rows,C,D,y,k3⟩,rfl,by show (3:Int)<=cols;omega,⟨d.o.c1,d.o.c3,d.o.r0,d.o.r1,λm hm=>by
     match m,hm with
     |0,_=>exact d.o.kd 0 (by omega)
     |1,_=>exact d.o.kd 1 (by omega)
     |2,_=>exact⟨v,A⟩,λh=>by omega,λh=>by omega,λh=>by omega,d.o.kz.2.2.2⟩,p.o.set _ 4 _ rfl⟩
    case measure=>simp[intOf]
  .have P:cols=(k:Int):=by omega
   obtain⟨v0,v1,v2,v3,v4,v5⟩:=f.gc.k6;obtain⟨u0,u1,u2,u3,u4,u5⟩:=f.gr.k6;have z:=λi=>f.gr.frozen i;obtain⟨HF,Y4⟩:=aJ (f.fin (vs:=[.int J cols,.int J rows,.int J C,.int J D,.int J k2,.int J k3]) (c':=(⟨cols,rows,C,D,k2,k3⟩:ah).aA) (by simp only[uk,ah.aA,tz,Qu,Qb,Qc])) P;clear f hT P c0;go_wp2;refine Zw (results_cell_row rfl _ _ (M (H W)) 49 (⟨cols,rows,C,D,k2,k3⟩:ah).aA (0,0) _ rfl HF.o.1 Tryz.underlying49 rfl (by kernel_rfl)) rfl ?_;exact⟨⟨cols,rows,C,D,k2,k3⟩,rfl,by show Gt _ cols.toNat;rw[show cols.toNat=k by have:=Y4.o;omega];exact d.o,HF.o.2⟩
def aI.arr(c:aI):Array Value:=#[Wl c.not,I J c.op,I J c.left,Wl c.const,I J c.right]
def Cq.cond{W0:U}{cb:Nat}{c:aI}(h:Cq mb lo lc l t W0 cb cz.arr c.arr A):GB (ig (M (H W0)) 0 c.aA A) (M (H W0)) t c.arr/\aV mb lo lc l (ig (M (H W0)) 0 c.aA A)/\Kept (λb=>b≠mb) W0 (ig (M (H W0)) 0 c.aA A):=h.fin (vs:=c.aA) (c':=c.arr) (by simp only[uk,aI.aA,aI.arr,Qu,Qb,Qc])
def aa2(mb:Nat)(lo:Option Addr)(lc:Nat)(l:List Int)(W:U)(hm:aV mb lo lc l W)(hl:∀x∈l,-9223372036854775808<=x/\x<=9223372036854775807) :
  Calls V 14 #[Y (O (aD mb 0))] W λe W'=>∃v:Int,e=FN (I J v)/\(v=1073741824∨(-1<=v/\v<=3))/\aV mb lo lc l W'/\Kept (λb=>b≠mb) W W':=by
 have g:=Zu mb lo lc l 6 W hm (by omega) hl;go_enter Tryz.func14,Tryz.ntmps14;go_wp2_with fail;refine g.mono ?_;rintro e q ⟨a,rfl,n,j,d,f⟩;by_cases k:a=5
 .have i:(a==5)=true:=by simpa using k
  go_wp2;go_ret;exact⟨_,rfl,.inl rfl,d,f⟩
 .have i:(a==5)=false:=by simpa using k
  have p:wrap64 (a-1)=a-1:=by unfold wrap64;omega
  have m:Y3 (-1<=a-1/\a-1<=3):=show _/\_ by omega
  go_wp2;go_ret;exact⟨_,rfl,.inr m.o,d,f⟩
def Pz(mb:Nat)(lo:Option Addr)(lc:Nat)(l:List Int)(n:Int)(W:U)(hm:aV mb lo lc l W)(hl:∀x∈l,-9223372036854775808<=x/\x<=9223372036854775807)(hlo:∀a,lo=O a->a.block<M (H W))(hn:0<n) :
  Calls V 26 #[Y (O (aD mb 0)),I J n] W λe W'=>∃c:aI,e=FN (FL c.arr)/\fV c n=T/\aV mb lo lc l W'/\Kept (λb=>b≠mb) W W':=by
 obtain⟨W1,e1,b1,g1⟩:=aL W #[Wl F,I J 0,I J 0,Wl F,I J 0] 69;have aa:=hm.lt;have C:=Zu mb lo lc l 5 W1 (hm.keep (QB b1 λ_ h _=>h)) (by omega) hl;have D:Kept (λb=>b≠mb) W W1:=QB b1 λ_ h _=>h;have wI:Y3 (GB W1 (M (H W)) 69 cz.arr):=g1;have JM:Y3 (M (H W)<M (H W1)):=g1.lt;obtain⟨K,JN⟩:=aJ hl hlo;clear hm b1 g1 hl hlo;go_enter Tryz.func26,Tryz.ntmps26;go_wp2_with fail;refine C.mono ?_;rintro e W2 ⟨r1,rfl,ah,ag,L,q⟩;have G:=Zu mb lo lc l n W2 L hn K.o;obtain⟨d,ai⟩:∃d,(r1==1)=d:=⟨_,rfl⟩;go_wp2_with fail;refine G.mono ?_;rintro e W3 ⟨j,rfl,aj,ak,Dq,r⟩;obtain⟨W4,e4,b4,g4⟩:=aL W3 #[Wl d,I J 0,I J j,Wl F,I J 0] 69;have v:M (H W)≠mb:=by omega
 have y:Kept (λb=>b≠mb) W3 W4:=QB b4 λ_ h _=>h;have M4:Cq mb lo lc l 69 W (M (H W3)) cz.arr (⟨d,0,j,F,0⟩:aI).arr W4:=⟨g4,(((GB.keep wI.o q v).keep r v).keep y v),Dq.keep (QB b4 λ_ h _=>h),((D.trans q).trans r).trans y,aa,QA JM.o (Qz q.size r.size),JN.o⟩;have uu:=Zu mb lo lc l 6 W4 M4.uR (by omega) K.o;obtain⟨af,E4⟩:=aJ M4 e4;clear e4 M4 b4 g4 y L Dq D q r C G;go_wp2_with fail;rw[E4.o];refine uu.mono ?_;rintro e W5 ⟨B,rfl,au,av,P,Q⟩;have k:=Zh (af.o.keep Q P);clear P Q uu;have ae:(B=0∨B=1∨B=2)∨B=3∨B=4∨B=5:=by omega
 rcases ae with (rfl|rfl|rfl)|rfl|rfl|rfl
 case' inl.inl|inl.inr.inl|inl.inr.inr=>
  have t:=Zu mb lo lc l n W5 k.o.uR hn K.o;go_wp2_with fail;refine t.mono ?_;rintro e W6 ⟨f,rfl,R,S,X,wN⟩;have g:=k.o.keep wN X;have q4:=g.gc.at 4;have p4:=g.gc.frozen 4;have u:=g.set (⟨d,0,j,F,f⟩:aI).arr 4 (I J f) rfl;have HB:Y3 (fV ⟨d,0,j,F,f⟩ n=T):=show _=_ by simp[fV];omega
  clear g X wN t
 case' inr.inl=>
  have g:=k.o.set (⟨d,0,j,T,0⟩:aI).arr 3 (Wl T) rfl;have q3:=k.o.gc.at 3;have p3:=k.o.gc.frozen 3;have t:=Zu mb lo lc l 5 _ g.uR (by omega) K.o;have A:=Zh g;clear g;go_wp2_with fail;refine t.mono ?_;rintro e W7 ⟨f,rfl,R,S,m,wM⟩;have p:=A.o.keep wM m;have hw:wrap64 (f-1)=f-1:=by unfold wrap64;omega
  have q4:=p.gc.at 4;have p4:=p.gc.frozen 4;have u:=p.set (⟨d,0,j,T,f-1⟩:aI).arr 4 (I J (f-1)) rfl;have HB:Y3 (fV ⟨d,0,j,T,f-1⟩ n=T):=show _=_ by simp[fV];omega
  clear p m wM t
 case' inr.inr.inl=>
  have g:=k.o.set (⟨d,1,j,F,0⟩:aI).arr 1 (I J 1) rfl;have q1:=k.o.gc.at 1;have p1:=k.o.gc.frozen 1;have t:=Zu mb lo lc l n _ g.uR hn K.o;have A:=Zh g;clear g;go_wp2_with fail;refine t.mono ?_;rintro e W7 ⟨f,rfl,R,S,m,wM⟩;have p:=A.o.keep wM m;have q4:=p.gc.at 4;have p4:=p.gc.frozen 4;have u:=p.set (⟨d,1,j,F,f⟩:aI).arr 4 (I J f) rfl;have HB:Y3 (fV ⟨d,1,j,F,f⟩ n=T):=show _=_ by simp[fV];omega
  clear p m wM t
 case' inr.inr.inr=>
  have u:=k.o.set (⟨d,2,j,F,0⟩:aI).arr 1 (I J 2) rfl;have q1:=k.o.gc.at 1;have p1:=k.o.gc.frozen 1;have HB:Y3 (fV ⟨d,2,j,F,0⟩ n=T):=show _=_ by simp[fV];omega
 all_goals
  obtain⟨v0,v1,v2,v3,v4⟩:=u.gc.k5;obtain⟨u0,u1,u2,u3,u4⟩:=u.gr.k5;have z:=λi=>u.gr.frozen i;have HF:=Zh u.cond;clear u;go_wp2;refine Zw (results_cell_row rfl _ _ (M (H W)) 69 _ (0,0) _ rfl HF.o.1 Tryz.underlying69 rfl (by kernel_rfl)) rfl ?_;exact⟨_,rfl,HB.o,HF.o.2⟩
def zQ(n:Nat)(hn:n<=64)(w:U) :
  Ce 63 #[I J (n:Int)] w (I Vo ((2 ^ n-1:Nat):Int)):=by
 rcases XV n 64 with h|h
 .exact RB n h w
 .obtain rfl:n=64:=by omega
  go_enter Tryz.func63,Tryz.ntmps63;go_wp2;go_ret;exact⟨rfl,rfl⟩
def Tryz.Ty:(V.info? 100).map (λi=>(i.zero,i.size,i.bytes))=O (O (FL #[I J 0,I Vo 0,I Vo 0,Z xn 0 0,I Vo 0,I Vo 0]),6,64):=by kernel_rfl
theorem Eh(W:U)(base:Nat)(v:X3)(ps:List aG)(hown:W.ownsRow base 100 6 v (N ps) (ps.flatMap aG.list))(hl:N ps<=1000)(hb:base<=M (H W))(p:aG)(ty:TypeId) :
  ∃d e,(Builtin.append_ #[106,106] ty #[v,Z (O (aD (M (H W)) 0)) 1 1]).run V (W.alloc (EP p.cells 100))=.ok d e/\
   e.ownsRow base 100 6 d (N (ps++[p])) ((ps++[p]).flatMap aG.list)/\Kept (λb=>v.ownBlock≠O b) W e/\(∃a m c,d = Z a m c)/\(d.ownBlock=v.ownBlock∨d.ownBlock=O (M (H W)+1)):=by
 obtain⟨l,n,f,g,i⟩:=Zj Tryz.Ty;obtain⟨d,e,q,y,r,t,j⟩:=iI (P:=V) W base 106 ty 100 l _ 6 64 Tryz.underlying106 n f g i rfl (by decide) v (N ps) _ hown hb p.list rfl (λu k=>by
  unfold aG.list ae.val at k;simp at k;rcases k with rfl|rfl|rfl|rfl|rfl|rfl <;> rfl) hl (by decide)
 exact⟨d,e,q,by grind,r,t,j⟩
def aV.LB{s:Nat->Prop}(h:aV mb lo lc l A)(hk:Kept s A B)(h1:s mb)(h2:∀a,lo=O a->s a.block):aV mb lo lc l B:=by obtain⟨k,b,d⟩:=h.num;exact⟨⟨k,b,Q0 d hk h1⟩,Q0 h.lst hk h1,(Zd (a:=(aD mb 1)) (hk.block mb h.lt h1)).trans h.Bl,⟨h.ints.1,h.ints.2.keep λa f e=>hk.block _ e (h2 a f)⟩,h.off⟩
structure O7(mb:Nat)(lo:Option Addr)(lc:Nat)(l:List Int)(e:TypeId)(sz:Nat)(W0 W:U)(v:X3)(n:Nat)(vs:List X3):Prop where
 own:W.ownsRow (M (H W0)) e sz v n vs
 uR:aV mb lo lc l W
 kept:Kept (λb=>b≠mb) W0 W
 lt:mb<M (H W0)
 off:∀a,lo=O a->a.block<M (H W0)
 num:∀x∈l,-9223372036854775808<=x/\x<=9223372036854775807
section
variable {mb:Nat} {lo:Option Addr} {lc:Nat} {l:List Int} {e:TypeId} {sz:Nat} {W0 A B:U} {v:X3} {n:Nat} {vs:List X3}
def O7.keep(h:O7 mb lo lc l e sz W0 A v n vs)(hk:Kept (λb=>b≠mb) A B)(hm:aV mb lo lc l B):O7 mb lo lc l e sz W0 B v n vs:=
 ⟨Za h.own hk (λg a=>by have:=(Zb h.own a).1;have:=h.lt;omega),hm,h.kept.trans hk,h.lt,h.off,h.num⟩
def O7.apO(h:O7 mb lo lc l e sz W0 A v n vs):∀a,lo=O a->a.block<M (H A):=λa b=>QA (h.off a b) h.kept.size
def O7.nil(e:TypeId)(sz:Nat)(hm:aV mb lo lc l A)(ho:∀a,lo=O a->a.block<M (H A))(hn:∀x∈l,-9223372036854775808<=x/\x<=9223372036854775807):O7 mb lo lc l e sz A A (Z xn 0 0) 0 []:=
 ⟨Zk _ _ _ _,hm,Qy _ _,hm.lt,ho,hn⟩
def O7.push(h:O7 mb lo lc l e sz W0 A v n vs)(hl:n<=1000)(news:List Value)(t ty:TypeId){z:Value}{bytes:Nat}(hI:(P.info? e).map (λi=>(i.zero,i.size,i.bytes))=some (some z,sz,bytes))(h1:∀u∈news,u.oneCell' = true)(ht:P.underlying t=some (.slice e):=by kernel_rfl)(hzs:z.cells.size=sz:=by rfl)(hsz:0<sz:=by decide)(hn:news.length=sz:=by rfl)(hbb:bytes<=1000:=by decide) :
  ∃a m k f,(Builtin.append_ #[t,t] ty #[v,.slice (some (aD A.heap.size 0)) 1 1]).run P (A.alloc (.cells news.toArray e))=.ok (.slice a m k) f/\O7 mb lo lc l e sz W0 f (.slice a m k) (n+1) (vs++news)/\
   Kept (λb=>v.ownBlock≠some b/\True) A f/\((Value.slice a m k).ownBlock=v.ownBlock∨(Value.slice a m k).ownBlock=some (A.heap.size+1)):=by obtain⟨i,r,y,B,j⟩:=Zj hI;obtain⟨L,f,C,D,p,⟨a,m,k,rfl⟩,q⟩:=iI (P:=P) A W0.heap.size t ty e i z sz bytes ht r y B j hzs hsz v n vs h.own h.kept.size news hn h1 hl hbb;have d:∀g,v.ownBlock=some g->W0.heap.size<=g:=λg G=>(Zb h.own G).1;refine⟨a,m,k,f,C,⟨D,h.uR.LB p (λe=>by have:=d _ e;have:=h.lt;omega) (λa K e=>by have:=d _ e;have:=h.off a K;omega),?_,h.lt,h.off,h.num⟩,p.mono λ_ _ h=>h.1,q⟩;exact((h.kept.mono (t:=λb=>b≠mb/\b<W0.heap.size) (λb _ h=>h.1)).trans (p.mono λb _ h e=>by have:=d _ e;omega)).mono (λb j h=>⟨h,j⟩)
end
def BG{n:Int}(h:aS xs n=T)(h0:0<=p)(h1:p<n):aS (xs++[p]) n=true:=by unfold aS at*;rw[List.all_append,h];simp[h0,h1]
def any_succ(hk:k<N xs):((xs.take (k+1)).any λx=>x==p)=(((xs.take k).any λx=>x==p) ||(E xs k 0==p)):=by rw[Qh hk,List.any_append];simp[List.getD,hk]
theorem Vm(h:dB xs=T)(hp:(xs.any λx=>x==p)=F):dB (xs++[p])=true:=by
 unfold dB at*;rw[ZW]at*;intro i e j f;rw[Zn,Xc]at e;have b:∀m,m<N xs->E (xs++[p]) m 0=E xs m 0:=λm g=>by grind
 by_cases d:i<N xs
 .rw[b i d,b j (by omega)];exact h i d j f
 .have a:i=N xs:=by omega
  subst a;grind
def Vn(mb:Nat)(lo:Option Addr)(lc:Nat)(l:List Int)(n:Int)(most:Nat)(W:U)(hm:aV mb lo lc l W)(hl:∀x∈l,-9223372036854775808<=x/\x<=9223372036854775807)(hlo:∀a,lo=O a->a.block<M (H W))(hn:0<n)(hmo:most<=100) :
  Calls V 27 #[Y (O (aD mb 0)),I J n,I J most] W λe W'=>∃(v:X3) (xs:List Int),e=FN v/\W'.ownsRow (M (H W)) 3 1 v (N xs) (xs.map (Value.int J))/\aS xs n=T/\dB xs=T/\N xs<=most/\aV mb lo lc l W'/\Kept (λb=>b≠mb) W W':=by
 have u:=Zu mb lo lc l ((most:Int)+1) W hm (by omega) hl;have L:wrap64 ((most:Int)+1)=(most:Int)+1:=by unfold wrap64;omega
 have Q:=Zh (O7.nil 3 1 hm hlo hl);clear hl hlo hm;go_enter Tryz.func27,Tryz.ntmps27;go_wp2_with fail;refine u.mono ?_;rintro e W2 ⟨r1,rfl,A,ai,B,C⟩;obtain⟨k1,rfl⟩:∃k:Nat,r1=(k:Int):=⟨r1.toNat,by omega⟩;have R:=Zh (Q.o.keep C B);clear u L B C;go_wp2;go_loopw [7,8] (λv i wr=>∃(k:Nat) (xs:List Int),i=I J k/\N xs+k<=most/\Y3 (aS xs n=T/\dB xs=T)/\O7 mb lo lc l 3 1 W wr v (N xs) (xs.map (Value.int J))) (λ_ i _=>(intOf i).toNat)
 case atStart=>exact⟨k1,[],rfl,by simp;omega,⟨rfl,rfl⟩,R.o⟩
 case round=>
  obtain⟨k,xs,rfl,av,g,d⟩:=hrel;by_cases h0:0<k
  .have z:=Zu mb lo lc l n wr d.uR hn d.num;have S:=Zh d;clear d;go_wp2_with fail;refine z.mono ?_;rintro e W3 ⟨p,rfl,ag,ah,Dq,D⟩;have q:=S.o.keep D Dq;obtain⟨f,rfl,rfl,oD,-⟩:=iC q.own (by omega);have r:=Zh q;have HI:Y3 (IntsAt W3 f.ad f.xs):=oD.1;have aj:=HI.o.1;unfold ae.val at*;clear z q oD Dq D;go_wp2;go_loopw [10,11] (λt m w=>∃j:Nat,j<=N f.xs/\m=I J j/\t=Wl ((f.xs.take j).any λx=>x==p)/\W3=w) (λ_ m _=>N f.xs-(intOf m).toNat)
   case atStart=>exact⟨0,QW _,rfl,rfl,rfl⟩
   case round=>
    obtain⟨m,hm,rfl,rfl,rfl⟩:=hrel;by_cases O8:m<N f.xs
    .obtain⟨b,off,ax,G⟩:=HI.o.get O8;have ak:=G m O8;have HS:=Zh (any_succ (p:=p) O8);generalize E f.xs m 0=y at*;generalize ((f.xs.take m).any λx=>x==p)=tw at*;clear G
     cases tw
     all_goals
      go_wp2;go_roundw
      case rel=>exact⟨m+1,by omega,by go_num,by rw[HS.o];simp,trivial⟩
      case measure=>simp[intOf];omega
    .have X:m=N f.xs:=by omega
     subst X;rw[QX];have au:=r.o.kept.size
     cases htw:(f.xs.any λx=>x==p) with
     |true =>
      go_wp2;go_roundw
      case rel=>exact⟨k-1,f.xs,congrArg (Value.int J) (show _=((k-1:Nat):Int) by omega),by omega,g,r.o⟩
      case measure=>simp[intOf];omega
     |false =>
      obtain⟨ya,ym,yc,w1,A,K,-⟩:=r.o.push (P:=V) (by omega) [I J p] 22 22 Tryz.lK (by simp[Value.oneCell']);have aa:=Zh K;clear K;go_wp2_with (first|(at_builtin;refine Xm rfl (.tmp 40) (.tmp 42) 22 rfl _ _ _ w1 rfl rfl A ?_));go_wp2;go_roundw
      case rel=>exact⟨k-1,f.xs++[p],congrArg (Value.int J) (show _=((k-1:Nat):Int) by omega),by rw[Zn,Xc];omega,⟨BG g.o.1 ag ah,Vm g.o.2 htw⟩,by rw[Zn,Qi];exact aa.o⟩
      case measure=>simp[intOf];omega
  .have af:k=0:=by omega
   subst af;go_wp2;go_ret;exact⟨_,xs,rfl,d.own,g.o.1,g.o.2,by omega,d.uR,d.kept⟩
def jX(cv:X3)(q:af)(dv:X3):Array Value:=#[cv,q.src.val,Z q.gI (N q.wh) q.bP,Wl q.group,q.keys.val,q.sums.val,q.bE.val,q.ord.val,dv]
def NH(co:Option Addr)(cc:Nat)(ts:List ah)(q:af)(dv:X3)(hdv:∃a m c,dv=Z a m c)(w:U)(hx:bu w co ts)(hc:ji ts=T)(hq:q.src.At w)(h5:N q.src.xs<=5)(ha:aS q.src.xs (N ts)=T) :
  Cb 25 #[FL (jX (Z co (N ts) cc) q dv)] w (I J (ak ts q.src.xs)):=by
 obtain⟨da,dm,dc,rfl⟩:=hdv;obtain⟨⟨B,C,xs⟩,gI,bP,wh,group,f,g,bE,ord⟩:=q;unfold ae.At at hq;simp only at h5 ha hq;obtain⟨D,j,l,t⟩:=aL w (jX (Z co (N ts) cc) ⟨⟨B,C,xs⟩,gI,bP,wh,group,f,g,bE,ord⟩ (Z da dm dc)) 29;obtain⟨G,K⟩:=aJ hc ha;have v:=hx.below l;have y:=Qo l hq;have Q:=t.at 0;have R:UK D (aD (M (H w)) 1)=O (Z B (N xs) C):=t.at 1;have z:=Zh l;simp only[jX,ae.val]at j ⊢;clear hc ha hx hq l t;go_enter Tryz.func25,Tryz.ntmps25;go_wp2;clear j;go_loopw [3,4] (λn i wr=>∃k:Nat,k<=N xs/\i=I J k/\n=I J (ak ts (xs.take k))/\Bw D wr) (λ_ i _=>N xs-(intOf i).toNat)
 case atStart=>exact⟨0,QW _,rfl,rfl,Qm _ _⟩
 case round=>
  obtain⟨k,hk,rfl,rfl,d⟩:=hrel;have S:=oL G.o K.o k hk;obtain⟨d0,d1⟩:=nH d Q R;by_cases e:k<N xs
  .obtain⟨sb,aa,rfl,L⟩:=y.get e;have p:=cB d (L k e);have hr:=Ql K.o e;have kU:=nE G.o (i:=xs[k].toNat) (by omega);obtain⟨b,off,rfl,t0,-⟩:=v.2 xs[k].toNat (by omega);have r:=cB d t0;have W:=Zh (lC ts xs k e);generalize (E ts xs[k].toNat tz).cols=cl at*;generalize ak ts (xs.take k)=W0 at*;have A:E xs k 0=xs[k]:=by simp[List.getD,e]
   rw[A]at p;clear L t0 v y A;generalize u:xs[k]=xk at*;clear u;obtain⟨P,rfl⟩:∃P:Nat,xk=(P:Int):=⟨xk.toNat,by omega⟩;simp only[Xk]at r;have X:wrap64 (W0+cl)=W0+cl:=by unfold wrap64;omega
   go_wp2;go_quiet (fail);go_wp2;go_roundw
   case rel=>exact⟨k+1,by omega,by go_num,by rw[W.o],Zr d _⟩
   case measure=>simp[intOf];omega
  .go_wp2;go_ret;have:k=N xs:=by omega
   subst this;exact⟨Qe (by rw[QX]),z.o.trans (d.mono z.o.size)⟩
def sM(Fq:Nat->Prop)(ao:Option Addr)(n:Nat):Prop:=0<n->∀a,ao=O a->Fq a.block
def dA(w:U)(ao:Option Addr)(xs:List Nat):Prop:=
 N xs<=1000000/\aX w ao (N xs) (λi=>Y (O (aD (E xs i 0) 0)))
def dA.get{w:U}{ao:Option Addr}{xs:List Nat}(h:dA w ao xs){i:Nat}(hi:i<N xs) :
  ∃b off,ao=O (aD b off)/\∀j,j<N xs->UK w (aD b (off+j))=O (Y (O (aD (E xs j 0) 0))):=
 Qf h.2 hi
def dA.below{w w':U}(hb:Bw w w'){ao:Option Addr}{xs:List Nat}(h:dA w ao xs):dA w' ao xs:=⟨h.1,h.2.below hb⟩
def aX.bC{A B:U}{Fq:Nat->Prop}{ao:Option Addr}{n:Nat}{f:Nat->X3}(h:aX A ao n f)(hk:Kept Fq A B)(hF:sM Fq ao n):aX B ao n f:=by
 cases n with
 |zero=>intro i e;omega
 |succ m=>exact h.keep (λa b d=>hk.block _ d (hF (by omega) a b))
def IntsAt.bC{A B:U}{Fq:Nat->Prop}{ao:Option Addr}{xs:List Int}(h:IntsAt A ao xs)(hk:Kept Fq A B)(hF:sM Fq ao (N xs)):IntsAt B ao xs:=⟨h.1,h.2.bC hk hF⟩
def dA.bC{A B:U}{Fq:Nat->Prop}{ao:Option Addr}{xs:List Nat}(h:dA A ao xs)(hk:Kept Fq A B)(hF:sM Fq ao (N xs)):dA B ao xs:=⟨h.1,h.2.bC hk hF⟩
def aX.lt{ao:Option Addr}{f:Nat->X3}(h:aX w ao n f)(hn:0<n):∀a,ao=O a->a.block<M (H w):=by intro a g;obtain⟨b,off,e,d⟩:=h 0 hn;rw[g]at e;injection e with e;rw[e];exact QK d
def sM.mono{Fq G:Nat->Prop}{w:U}{ao:Option Addr}{n:Nat}{f:Nat->X3}(hc:aX w ao n f)(h:sM Fq ao n)(hs:∀b,b<M (H w)->Fq b->G b):sM G ao n:=
 λd a e=>hs _ (hc.lt d a e) (h d a e)
def ME(p:aG)(n:ai)(v:X3):Array Value:=
 #[I J p.kind,I Vo (p.sources:Int),I Vo (p.clauses:Int),p.order.val,I Vo (p.size:Int),I Vo (p.cost:Int),
  I J n.kind,I J n.l,I J n.r,I J n.source,n.cl.val,I J n.key,n.co.val,v]
structure uL(Tq:TypeId)(Fq:Nat->Prop)(w:U)(a:Nat)(t:dH)(p:aG)(n:ai)(bo:Option Addr)(bc:Nat)(bs:List (Nat × dH)):Prop where
 blk:Fq a
 gb:GB w a Tq (ME p n (Z bo (N bs) bc))
 part:p.d=t.d
 ok:p.Ok w
 ord:sM Fq p.order.ad (N p.order.xs)
 cl:n.cl.At w
 clf:sM Fq n.cl.ad (N n.cl.xs)
 cln:n.cl.ad=xn->n.cl.cap=0
 co:n.co.At w
 cof:sM Fq n.co.ad (N n.co.xs)
 con:n.co.ad=xn->n.co.cap=0
 ptrs:dA w bo (bs.map Prod.fst)
 ptf:sM Fq bo (N bs)
 ags:N bs<=bc
 nil:bo=xn->bc=0
 lay:t.ns=vF n (bs.map λx=>x.2.ns)
 two:N bs<=2
 kind:1<=n.kind/\n.kind<=10
 lens:N n.cl.xs<=1000/\N n.co.xs<=1000
def ql(Tq:TypeId)(Fq:Nat->Prop):Nat->U->Nat->dH->Prop
 |0,_,_,_=>False
 |k+1,w,a,t=>∃p n bo bc bs,uL Tq Fq w a t p n bo bc bs/\∀x∈bs,ql Tq Fq k w x.1 x.2
theorem uL.bC{Tq:TypeId}{Fq:Nat->Prop}{w w':U}{a:Nat}{t:dH}{p:aG}{n:ai}{bo:Option Addr}{bc:Nat}{bs:List (Nat × dH)}(h:uL Tq Fq w a t p n bo bc bs)(hk:Kept Fq w w'):uL Tq Fq w' a t p n bo bc bs where
 blk:=h.blk
 gb:=h.gb.keep hk h.blk
 part:=h.part
 ok:=⟨IntsAt.bC h.ok.order hk h.ord,h.ok.cap,h.ok.sources,h.ok.clauses,h.ok.size,h.ok.cost⟩
 ord:=h.ord
 cl:=IntsAt.bC h.cl hk h.clf
 clf:=h.clf
 cln:=h.cln
 co:=IntsAt.bC h.co hk h.cof
 cof:=h.cof
 con:=h.con
 ptrs:=h.ptrs.bC hk (by grind [uL.ptf])
 ptf:=h.ptf
 ags:=h.ags
 nil:=h.nil
 lay:=h.lay
 two:=h.two
 kind:=h.kind
 lens:=h.lens
theorem uL.mono{Tq:TypeId}{Fq G:Nat->Prop}{w:U}{a:Nat}{t:dH}{p:aG}{n:ai}{bo:Option Addr}{bc:Nat}{bs:List (Nat × dH)}(h:uL Tq Fq w a t p n bo bc bs)(hs:∀b,b<M (H w)->Fq b->G b):uL Tq G w a t p n bo bc bs where
 blk:=hs _ h.gb.lt h.blk
 gb:=h.gb
 part:=h.part
 ok:=h.ok
 ord:=sM.mono h.ok.order.2 h.ord hs
 cl:=h.cl
 clf:=sM.mono h.cl.2 h.clf hs
 cln:=h.cln
 co:=h.co
 cof:=sM.mono h.co.2 h.cof hs
 con:=h.con
 ptrs:=h.ptrs
 ptf:=by have:=sM.mono h.ptrs.2 (by grind [uL.ptf]) hs;simp_all
 ags:=h.ags
 nil:=h.nil
 lay:=h.lay
 two:=h.two
 kind:=h.kind
 lens:=h.lens
def ql.bC{Tq:TypeId}{Fq:Nat->Prop}{w w':U}(hk:Kept Fq w w'):∀{k a:Nat} {t:dH},ql Tq Fq k w a t->ql Tq Fq k w' a t
 |0,_,_,h=>h
 |_+1,_,_,⟨p,n,bo,bc,bs,hb,hs⟩=>⟨p,n,bo,bc,bs,hb.bC hk,λx hx=>(hs x hx).bC hk⟩
def ql.mono{Tq:TypeId}{Fq G:Nat->Prop}{w:U}(hs:∀b,b<M (H w)->Fq b->G b):∀{k a:Nat} {t:dH},ql Tq Fq k w a t->ql Tq G k w a t
 |0,_,_,h=>h
 |_+1,_,_,⟨p,n,bo,bc,bs,hb,hx⟩=>⟨p,n,bo,bc,bs,hb.mono hs,λx h=>(hx x h).mono hs⟩
theorem ql.more{Tq:TypeId}{Fq:Nat->Prop}{w:U}:∀{k m a:Nat} {t:dH},ql Tq Fq k w a t->k<=m->ql Tq Fq m w a t
 |0,_,_,_,h,_=>h.elim
 |_+1,0,_,_,_,h=>by omega
 |_+1,_+1,_,_,⟨p,n,bo,bc,bs,hb,hx⟩,h=>⟨p,n,bo,bc,bs,hb,λx hm=>(hx x hm).more (by omega)⟩
def bG(Tq:TypeId)(Fq:Nat->Prop)(w:U)(a:Nat)(t:dH):Prop:=∃k,ql Tq Fq k w a t
def bG.bC{Tq:TypeId}{Fq:Nat->Prop}{w w':U}{a:Nat}{t:dH}(h:bG Tq Fq w a t)(hk:Kept Fq w w'):bG Tq Fq w' a t:=h.imp λ_ h=>h.bC hk
def bG.mono{Tq:TypeId}{Fq G:Nat->Prop}{w:U}{a:Nat}{t:dH}(h:bG Tq Fq w a t)(hs:∀b,b<M (H w)->Fq b->G b):bG Tq G w a t:=h.imp λ_ h=>h.mono hs
def bG.below{Tq:TypeId}{Fq:Nat->Prop}{w w':U}{a:Nat}{t:dH}(h:bG Tq Fq w a t)(hb:Bw w w'):bG Tq Fq w' a t:=h.bC (QB hb λ_ h _=>h)
theorem bG.get{Tq:TypeId}{Fq:Nat->Prop}{w:U}{a:Nat}{t:dH}(h:bG Tq Fq w a t):∃p n bo bc bs,uL Tq Fq w a t p n bo bc bs/\∀x∈bs,bG Tq Fq w x.1 x.2:=by
 obtain⟨k,h⟩:=h
 cases k with
 |zero=>exact h.elim
 |succ k =>
  grind [ql,bG]
theorem MF{Tq:TypeId}{Fq:Nat->Prop}{w:U}:∀{bs:List (Nat × dH)},(∀x∈bs,bG Tq Fq w x.1 x.2)->∃k,∀x∈bs,ql Tq Fq k w x.1 x.2
 |[],_=>⟨0,λx h=>by cases h⟩
 |y::bs,h=>by obtain⟨k,hk⟩:=MF λx hx=>h x (List.mem_cons_of_mem _ hx);obtain⟨m,hm⟩:=h y Jd;refine⟨max k m,λx hx=>?_⟩;grind [ql.more]
def bG.intro{Tq:TypeId}{Fq:Nat->Prop}{w:U}{a:Nat}{t:dH}{p:aG}{n:ai}{bo:Option Addr}{bc:Nat}{bs:List (Nat × dH)}(h:uL Tq Fq w a t p n bo bc bs)(hx:∀x∈bs,bG Tq Fq w x.1 x.2):bG Tq Fq w a t:=by obtain⟨k,b⟩:=MF hx;exact⟨k+1,p,n,bo,bc,bs,h,b⟩
def Jc:=@IntsAt.bC
section
open Go.Maps Go.WideMaps
structure fI where
 gb:Nat
 sb:Nat
 k:ae
 cnt:Nat
 ss:List Int
def fI.gr(g:fI):Gr:=⟨g.k.xs,g.cnt,g.ss⟩
def fI.own(g:fI)(b:Nat):Prop:=b=g.gb∨b=g.sb∨aj.blk g.k=O b
def fI.ptr(g:fI):Value:=Y (O (aD g.gb 0))
def fI.bump(row sc:List Int)(g:fI):fI:=⟨g.gb,g.sb,g.k,g.cnt+1,gH g.ss row sc⟩
structure fI.At(tg ti:TypeId)(n:Nat)(g:fI)(W:U):Prop where
 cells:W.heap[g.gb]? = O (EP #[g.k.val,I J g.cnt,Z (O (aD g.sb 0)) n n] tg)
 sums:W.heap[g.sb]? = O (EP (g.ss.map (Value.int J)).toArray ti)
 key:aj.At g.k W
 len:N g.ss=n
 ne:g.gb≠g.sb
 nk:aj.blk g.k≠O g.gb/\aj.blk g.k≠O g.sb
def fI.At.keep{tg ti:TypeId}{n:Nat}{g:fI}{A B:U}(h:g.At tg ti n A){s:Nat->Prop}(hk:Kept s A B)(hs:∀b,g.own b->s b):g.At tg ti n B:=
 ⟨(hk.block _ (QI.1 h.cells).1 (hs _ (.inl rfl))).trans h.cells,(hk.block _ (QI.1 h.sums).1 (hs _ (.inr (.inl rfl)))).trans h.sums,
  aj.keep h.key hk.size (λb d a=>hk.block b d (hs b (.inr (.inr a)))),h.len,h.ne,h.nk⟩
def fI.At.lt{g:fI}(h:g.At tg ti n A)(hb:g.own b):b<M (H A):=by
 rcases hb with rfl|rfl|hb
 .exact(QI.1 h.cells).1
 .exact(QI.1 h.sums).1
 .exact aj.zw h.key hb
structure ou(tg ti tp:TypeId)(n base bg:Nat)(gs:List fI)(W:U)(v:X3):Prop where
 box:UK W (aD bg 0)=O v
 Bl:W.frozen? (aD bg 0)=F
 own:W.ownsRow base tp 1 v (N gs) (gs.map fI.ptr)
 at':∀g∈gs,g.At tg ti n W
 off:∀g∈gs,∀b,g.own b->base<=b/\v.ownBlock≠O b
 apart:gs.Pairwise λg h=>∀b,g.own b->¬h.own b
 low:bg<base
def bM(bg:Nat)(v:X3)(gs:List fI)(b:Nat):Prop:=b=bg∨v.ownBlock=O b∨∃g∈gs,g.own b
def ou.keep{tg ti tp:TypeId}{n base bg:Nat}{gs:List fI}{A B:U}{v:X3}(h:ou tg ti tp n base bg gs A v){s:Nat->Prop}(hk:Kept s A B)(hs:∀b,bM bg v gs b->s b):ou tg ti tp n base bg gs B v:=
 ⟨Q0 h.box hk (hs _ (.inl rfl)),(Zd (hk.block _ (QK h.box) (hs _ (.inl rfl)))).trans h.Bl,Za h.own hk (λg a=>hs _ (.inr (.inl a))),
  λg a=>(h.at' g a).keep hk (λb d=>hs _ (.inr (.inr ⟨g,a,d⟩))),h.off,h.apart,h.low⟩
def ou.lt{tg ti tp:TypeId}{n base bg:Nat}{gs:List fI}{A:U}{v:X3}(h:ou tg ti tp n base bg gs A v){b:Nat}(hb:bM bg v gs b):b<M (H A):=by
 rcases hb with rfl|hb|⟨g,a,hb⟩
 .exact QK h.box
 .exact(Zb h.own hb).2
 .exact(h.at' g a).lt hb
theorem ou.more{gs:List fI}{W3 W4 W5:U}{v':X3}(h:ou tg ti tp n base bg gs W v){g:fI}
  (hb3:Bw W W3) (hg3:g.At tg ti n W3) (hbase:∀b,g.own b->base<=b) (hnew:∀b,g.own b->¬bM bg v gs b)
  (hk4:Kept (λ_=>True) W3 W4) (hown5:W5.ownsRow base tp 1 v' (N gs+1) (gs.map fI.ptr++[g.ptr])) (hg5:W4.grownBy W5 v.ownBlock) (hat:v'.ownBlock=v.ownBlock∨v'.ownBlock=O (M (H W4))) :
  ou tg ti tp n base bg (gs++[g]) (UC W5 (aD bg 0) v') v'/\Kept (λb=>b≠bg/\v.ownBlock≠O b) W (UC W5 (aD bg 0) v')/\
  ∀b,bM bg v' (gs++[g]) b->bM bg v gs b∨g.own b∨(M (H W)<=b/\b<M (H (UC W5 (aD bg 0) v'))):=by
 have k:Kept (λb=>b<M (H W)) W W3:=QB hb3 (λb _ h=>h);have f:Kept (λb=>v.ownBlock≠O b) W4 W5:=Q9 hg5 (λr e G=>G e);have l:Kept (λb=>b≠bg) W5 (UC W5 (aD bg 0) v'):=Q8 _ _ _ (λh=>h rfl);have m:Kept (λb=>v.ownBlock≠O b) W W5:=((k.mono (t:=λb=>v.ownBlock≠O b) (λb a _=>a)).trans (hk4.mono λ_ _ _=>trivial)).trans f;have z:Kept (λb=>b≠bg/\v.ownBlock≠O b) W (UC W5 (aD bg 0) v'):=(m.mono λ_ _ h=>h.2).trans (l.mono λ_ _ h=>h.1);have p:Kept (λb=>b≠bg/\v.ownBlock≠O b) W3 (UC W5 (aD bg 0) v'):=((hk4.mono λ_ _ _=>trivial).trans (f.mono λ_ _ h=>h.2)).trans (l.mono λ_ _ h=>h.1);have q:∀b,v.ownBlock=O b->base<=b/\b<M (H W):=λb a=>Zb h.own a;have u:∀b,v'.ownBlock=O b->base<=b/\b<M (H W5):=λb a=>Zb hown5 a;have i:v.ownBlock≠O bg:=λe=>by have:=(q _ e).1;have:=h.low;omega
 have A:v'.ownBlock≠O bg:=λe=>by have:=(u _ e).1;have:=h.low;omega
 have B:M (H W)<=M (H W4):=Qz hb3.size hk4.size;have C:M (H (UC W5 (aD bg 0) v'))=M (H W5):=by simp_all
 have D:UK W5 (aD bg 0)=O v:=Q0 h.box m i;refine⟨⟨?_,?_,?_,?_,?_,?_,h.low⟩,z,?_⟩
 .grind [World.cell?_setCell_same']
 .rw[World.frozen?_setCell];exact(Zd (m.block _ (QK h.box) i)).trans h.Bl
 .have:=Za hown5 l (λg K=>by simp_all)
  simp_all
 .intro x d;rcases Zi.1 d with d|d
  .refine(h.at' x d).keep z (λb a=>⟨λe=>?_,(h.off x d b a).2⟩);have:=(h.off x d b a).1;have:=h.low;omega
  .rw[Zg]at d;subst d;exact hg3.keep p (λb a=>⟨λe=>hnew b a (.inl e),λe=>hnew b a (.inr (.inl e))⟩)
 .intro x d b a;have y:base<=b/\v.ownBlock≠O b/\b<M (H W3):=by
   rcases Zi.1 d with d|d
   .exact⟨(h.off x d b a).1,(h.off x d b a).2,QA ((h.at' x d).lt a) hb3.size⟩
   .rw[Zg]at d;subst d;exact⟨hbase b a,λe=>hnew b a (.inr (.inl e)),hg3.lt a⟩
  refine⟨y.1,λe=>?_⟩;rcases hat with j|j
  .simp_all
  .rw[j]at e
   cases e;have:=hk4.size;omega
 .rw[Ze]
  grind [ou.apart,bM]
 .rintro b (a|a|⟨x,d,a⟩)
  .exact .inl (.inl a)
  .rcases hat with j|j
   .exact .inl (.inr (.inl (j ▸ a)))
   simp_all
  .rcases Zi.1 d with d|d
   .exact .inl (.inr (.inr ⟨x,d,a⟩))
   simp_all
theorem ou.bump{tg ti tp:TypeId}{n base bg:Nat}{gs:List fI}{W W':U}{v:X3}(h:ou tg ti tp n base bg gs W v){i:Nat}(hi:i<N gs)(row sc:List Int)(hl:N (gH gs[i].ss row sc)=n)
  (hg:W'.heap[gs[i].gb]? = O (EP #[gs[i].k.val,I J (gs[i].cnt+1:Nat),Z (O (aD (gs[i].sb) 0)) n n] tg)) (hs:W'.heap[gs[i].sb]? = O (EP ((gH gs[i].ss row sc).map (Value.int J)).toArray ti))
  (hk:Kept (λb=>b≠gs[i].gb/\b≠gs[i].sb) W W'):ou tg ti tp n base bg (gs.modify i (fI.bump row sc)) W' v:=by
 have f:gs[i]∈gs:=Zv hi;have l:=h.at' _ f;have g:=h.off _ f;have m:∀x∈gs.modify i (fI.bump row sc),∃y∈gs,x.own=y.own:=by grind [fI.bump,fI.own,List.getElem_of_mem]
 refine⟨?_,?_,?_,?_,?_,?_,h.low⟩
 .exact Q0 h.box hk ⟨λe=>by have p:=(g _ (.inl rfl)).1;have:=h.low;grind,λe=>by have p:=(g _ (.inr (.inl rfl))).1;have:=h.low;grind⟩
 .refine(Zd (hk.block _ (QK h.box) ⟨λe=>?_,λe=>?_⟩)).trans h.Bl
  .have p:=(g _ (.inl rfl)).1;have:=h.low;grind
  .have p:=(g _ (.inr (.inl rfl))).1;have:=h.low;grind
 .have D:(gs.modify i (fI.bump row sc)).map fI.ptr=gs.map fI.ptr:=by grind [List.ext_getElem,fI.ptr,fI.bump,List.length_map]
  rw[XH,D];refine Za h.own hk (λb d=>⟨λe=>(g _ (.inl rfl)).2 (e ▸ d),λe=>(g _ (.inr (.inl rfl))).2 (e ▸ d)⟩)
 .intro x z;obtain⟨j,r,rfl⟩:=Qq z;rw[XH]at r;rw[Xz];by_cases e:i=j
  .subst e;rw[Zt rfl];refine⟨hg,hs,aj.keep l.key hk.size (λb d q=>hk.block b d ⟨λe=>l.nk.1 (e ▸ q),λe=>l.nk.2 (e ▸ q)⟩),hl,l.ne,l.nk⟩
  .rw[ZU e];have hd:∀b,gs[i].own b->¬gs[j].own b:=by
    rcases Nat.lt_or_gt_of_ne e with t|u
    .exact Z7.1 h.apart i j hi r t
    .exact λb p G=>Z7.1 h.apart j i r hi u b G p
   exact(h.at' _ (Zv r)).keep hk (λb d=>⟨λe=>hd b (.inl e) d,λe=>hd b (.inr (.inl e)) d⟩)
 .intro x z b d;obtain⟨y,K,e⟩:=m x z;rw[e]at d
  grind [ou.off]
 .rw[Z7];intro a c B C A;rw[XH]at B C;have:=Z7.1 h.apart a c B C A
  grind [fI.own,fI.bump]
end
section
open Go.Maps Go.WideMaps
def bW(x:Int):Prop:=-2147483648<=x/\x<=2147483648
def uC{x:Int}(h:bW x):(Lit.int J x).wf=true:=WalkArith.wf_i64 (by unfold bW at h;omega)
def alW(a b c d:Int):Value:=FL #[I J a,I J b,I J c,I J d]
def rT(xs:List Int):Value:=alW (E xs 0 0) (E xs 1 0) (E xs 2 0) (E xs 3 0)
theorem VA{ys:List Int}(hl:N xs=N ys)(h4:N ys<=4)(h:rT xs=rT ys):xs=ys:=by unfold rT alW at h;simp only[Value.agg.injEq,Array.mk.injEq,List.cons.injEq,Value.int.injEq,true_and,and_true]at h;obtain⟨a,b,d,e⟩:=h;apply Xx hl;grind
def VB{k:TypeId}{q:IntKind}(A:ArrKey P k e 4)(he:P.underlying e=O (.int q))(hsz:∃m,P.types.size=m+1){a b d:Int}(wa:(Lit.int q a).wf=T)(wb:(Lit.int q b).wf=T)(wc:(Lit.int q c).wf=T)(wd:(Lit.int q d).wf=T) :
  keyOf P k (FL #[.int q a,.int q b,.int q c,.int q d])=O (.string (keyBytes [.int q a,.int q b,.int q c,.int q d])):=by have f:=A.keyType hsz;obtain⟨m,g⟩:=hsz;unfold keyOf;simp only[A.hu];rw[Zt (by simp[f,Value.formed,A.hu,A.size]),g];unfold Program.keyLits;simp only[A.hu,Value.cells];rw[Zt (by rw[A.size];rfl),show List.range 4=[0,1,2,3] from rfl,List.mapM_cons,List.mapM_cons,List.mapM_cons,List.mapM_cons,List.mapM_nil];simp[A.one,Program.keyLits,he,wa,wb,wc,wd]
def lH(h:∀x∈xs,bW x)(i:Nat):bW (E xs i 0):=by
 by_cases a:i<N xs
 .exact h _ (BM a)
 .have:E xs i 0=0:=by simp[List.getD,XI (Nat.le_of_not_lt a)]
  rw[this];unfold bW;omega
def G9{k:TypeId}(A:ArrKey P k e 4)(he:P.underlying e=O (.int J))(hsz:∃m,P.types.size=m+1)(h:∀x∈xs,bW x):∃l,keyOf P k (rT xs)=O l:=
 ⟨_,VB A he hsz (uC (lH h 0)) (uC (lH h 1)) (uC (lH h 2)) (uC (lH h 3))⟩
structure aeF(ks:List (List Int))(D:DataW Unit)(xs:List Int)(l:Lit):Prop where
 hit:∀i,jE ks xs=O i->Maps.has D l=T/\D.atKey l (.lit (.int J 0))=.lit (.int J i)
 miss:jE ks xs=xn->Maps.has D l=F
def kX(P:Program)(tk te:TypeId)(nk bm n:Nat)(ks:List (List Int))(W:U):Prop:=
 ∃D:DataW Unit,W.ownsMap P tk (plainElem P te) bm n D/\∀xs l,N xs=nk->keyOf P tk (rT xs)=O l->aeF ks D xs l
def kX.keep(h:kX P tk te nk bm n ks A)(hb:B.heap[bm]? = A.heap[bm]?):kX P tk te nk bm n ks B:=by obtain⟨D,⟨b,a,d,e⟩,f⟩:=h;exact⟨D,⟨b,a,hb.trans d,e⟩,f⟩
def kX.lt{P:Program}{tk te:TypeId}{nk bm n:Nat}{ks:List (List Int)}{A:U}(h:kX P tk te nk bm n ks A):bm<M (H A):=by obtain⟨D,a,_⟩:=h;exact a.lt
def kX.fresh(P:Program)(tk te:TypeId)(nk:Nat)(w:U):kX P tk te nk (M (H w)) 0 [] (w.alloc (.map #[] 0)):=
 ⟨_,World.ownsMap_made w P tk _,λxs l _ _=>⟨λi h=>by simp[jE]at h,λ_=>rfl⟩⟩
theorem uD{k:List Int}(h:k≠xs):jE (ks++[k]) xs=jE ks xs:=by unfold jE;grind
def vS{k:List Int}(h:jE ks k=xn):jE (ks++[k]) k=O (N ks):=by unfold jE at*;rw[List.findIdx?_append,h];simp
theorem kX.put(K:Keyed P tk){W':U}{D:DataW Unit}(hk:∀xs l,N xs=nk->keyOf P tk (rT xs)=O l->aeF ks D xs l)(hD:IsMap D)(h4:nk<=4)
  {k:List Int} {kl:Lit} (hkn:N k=nk) (hkl:keyOf P tk (rT k)=O kl) (hmiss:jE ks k=xn) (hown:W'.ownsMap P tk (plainElem P te) bm n (D.put kl (.lit (.int J (N ks))))) :
  kX P tk te nk bm n (ks++[k]) W':=by
 refine⟨_,hown,λxs l j d=>?_⟩;by_cases e:k=xs
 .subst e;have f:l=kl:=by rw[hkl]at d;cases d;rfl
  subst f;refine⟨λi a=>?_,λa=>?_⟩
  .rw[vS hmiss]at a
   cases a;exact⟨has_put_same hD (K.key hkl) _,atKey_put_same hD (K.key hkl) _ _⟩
  .rw[vS hmiss]at a
   cases a
 .have b:l≠kl:=λf=>by subst f;exact e (VA (hkn.trans j.symm) (by omega) (K.inj hkl d))
  have g:=hk xs l j d;refine⟨λi a=>?_,λa=>?_⟩
  .rw[uD e]at a;rw[has_put_other b,atKey_put_other b];exact g.hit i a
  .rw[uD e]at a;rw[has_put_other b];exact g.miss a
def xu(g:fI):Prop:=∀s∈g.ss,-2147483648*((g.cnt:Int)+1)<=s/\s<=2147483648*((g.cnt:Int)+1)
def yB{g:fI}(h:xu g)(hc:g.cnt<=1000000):∀s∈g.ss,Ka s:=λs a=>by have:=h s a;unfold Ka;omega
def abJ{ss:List Int}(h:s∈gH ss row cols):∃a∈ss,∃c∈cols,s=J4 a (E row c.toNat 0):=by unfold gH at h;obtain⟨i,b,rfl⟩:=Qq h;rw[List.length_zipWith]at b;rw[List.getElem_zipWith];exact⟨_,Zv (by omega),_,Zv (by omega),rfl⟩
def Ah{g:fI}(h:xu g)(hr:∀v∈row,bW v):xu (g.bump row sc):=by
 intro s e;obtain⟨a,d,c,_,rfl⟩:=abJ e;have f:=h a d;have b:=lH hr c.toNat;unfold bW at b;unfold J4;show -2147483648*(((g.cnt+1:Nat):Int)+1)<=_/\_<=2147483648*(((g.cnt+1:Nat):Int)+1);generalize E row c.toNat 0=v at*;have i:(0:Int)<=(g.cnt:Int):=Int.natCast_nonneg _;split
 .constructor <;> omega
 .split
  .constructor <;> omega
  .constructor <;> omega
def rq(gb sb:Nat)(k:ae)(n:Nat):xu ⟨gb,sb,k,0,List.replicate n 1073741824⟩:=by intro s a;obtain⟨_,rfl⟩:=List.mem_replicate.1 a;simp
def Tryz.VC:ArrKey V 255 3 4:=⟨Tryz.underlying255,by kernel_rfl,by kernel_rfl,by kernel_rfl⟩
def Tryz.LK:∃m,V.types.size=m+1:=⟨V.types.size-1,by kernel_rfl⟩
def Tryz.xw:Go.Maps.Keyed V 255:=Go.Maps.Keyed.of_law Tryz.VC.law
def Tryz.ait(w:U):(zeroValue 3).run V w=.ok (I J 0) w:=by kernel_rfl
end
section
open Go.Maps Go.WideMaps
structure GI(P:Program)(tg ti tp tk:TypeId)(kc sc:ae)(w:U)(pre:List ae)(gs:List fI)(o1:Nat->Prop)(W:U)(v:X3):Prop where
 fold:gs.map fI.gr=pre.foldl (λa x=>stepG kc.xs sc.xs a x.xs) (cO kc.xs sc.xs)
 wF:ou tg ti tp (N sc.xs) (M (H w)+5) (M (H w)+2) gs W v
 map:kX P tk ti (N kc.xs) (M (H w)+3) (N pre+1) (gs.map (·.k.xs)) W
 sums:∀g∈gs,xu g/\g.cnt<=N pre
 bk:UK W (aD (M (H w)) 0)=O kc.val
 bs:UK W (aD (M (H w)+1) 0)=O sc.val
 bn:UK W (aD (M (H w)+4) 0)=O (.map (O (M (H w)+3)))
 below:Bw w W
 iff:∀b,o1 b↔bM (M (H w)+2) v gs b∨b=M (H w)+3
def sU{gs:List fI}(h:ou tg ti tp n base bg gs A v)(hb:bM bg v gs b):b=bg∨base<=b:=by
 rcases hb with rfl|hb|⟨g,a,hb⟩
 .exact .inl rfl
 .exact .inr (Zb h.own hb).1
 .exact .inr (h.off g a b hb).1
def GI.keep{P:Program}{tg ti tp tk:TypeId}{kc sc:ae}{w:U}{pre:List ae}{gs:List fI}{o1:Nat->Prop}{A B:U}{v:X3}(h:GI P tg ti tp tk kc sc w pre gs o1 A v){s:Nat->Prop}(hk:Kept s A B)(hs:∀b,o1 b∨b<M (H w)+5->s b):GI P tg ti tp tk kc sc w pre gs o1 B v:=by
 refine⟨h.fold,h.wF.keep hk (λb a=>hs b (.inl ((h.iff b).2 (.inl a)))),h.map.keep (hk.block _ h.map.lt (hs _ (.inl ((h.iff _).2 (.inr rfl))))),h.sums,Q0 h.bk hk (hs _ (.inr ?_)),Q0 h.bs hk (hs _ (.inr ?_)),Q0 h.bn hk (hs _ (.inr ?_)),h.below.trans (hk.below h.below.size (λb a=>hs b (.inr (by omega)))),h.iff⟩
 .show (M (H w))<_;omega
 .show (M (H w))+1<_;omega
 .show (M (H w))+4<_;omega
def awO{aA:List Int}(h:N aA<=4):aA.map (Value.int J)++List.drop (N aA) [Value.int J 0,I J 0,I J 0,I J 0]=[I J (E aA 0 0),I J (E aA 1 0),I J (E aA 2 0),I J (E aA 3 0)]:=by
 match aA,h with
 |[],_=>rfl
 |[_],_=>rfl
 |[_,_],_=>rfl
 |[_,_,_],_=>rfl
 |[_,_,_,_],_=>rfl
attribute [local go_sem] Oper.semAt_some
def aeH(W:U)(aA:List Int)(hl:N aA<=4)(ty:TypeId) :
  (Builtin.copy_ #[22,22] ty #[Z (O (aD (M (H W)+1) 0)) 4 4,Z (O (aD (M (H W)) 0)) (N aA) (N aA)]).run V ((W.alloc (EP (aA.map (Value.int J)).toArray 3)).alloc (EP #[I J 0,I J 0,I J 0,I J 0] 255)) =
   .ok (I J (N aA)) ((W.alloc (EP (aA.map (Value.int J)).toArray 3)).alloc (EP #[I J (E aA 0 0),I J (E aA 1 0),I J (E aA 2 0),I J (E aA 3 0)] 255)):=by
 have b:M (H (W.alloc (EP (aA.map (Value.int J)).toArray 3)))=M (H W)+1:=by simp
 have g:W.heap[M (H W)]? = none:=by simp
 have h:=zt (P:=V) ((W.alloc (EP (aA.map (Value.int J)).toArray 3)).alloc (EP #[I J 0,I J 0,I J 0,I J 0] 255)) 22 22 ty 3 1 (M (H (W.alloc (EP (aA.map (Value.int J)).toArray 3)))) 4 4 (O (aD (M (H W)) 0)) (N aA) (N aA)
  #[.int J 0,.int J 0,.int J 0,.int J 0] 255 (aA.map (Value.int J)) Tryz.underlying22 Tryz.Gb (pR _ _) hl (by simp)
  (λ_=>⟨_,rfl,λj u e=>by
   rw[iB,ZK];refine XG ((Below.heap_alloc (W.alloc (EP (aA.map (Value.int J)).toArray 3)) _ _ (by simp)).trans (pR W _)) ?_;rw[List.getElem?_toArray];exact e⟩) (by simp;omega) (λu f=>by obtain⟨a,_,rfl⟩:=ZC.1 f;rfl)
 rw[uP,b]at h;rw[h];have d:=awO hl;simp only[Zm];exact congrArg (λl=>Result.ok (Value.int J (N aA)) ((W.alloc (EP (aA.map (Value.int J)).toArray 3)).alloc (EP (List.toArray l) 255))) d
def Tryz.aiu:(V.info? 212).map (λi=>(i.zero,i.size,i.bytes))=O (O (Y xn),1,8):=by kernel_rfl
def Ha(W w4:U)(n base bg:Nat)(gs:List fI)(v:X3)(hG:ou 239 3 212 n base bg gs W v)(hlow:base<=M (H W))(hgl:N gs<=2000000)(k:ae)(hk:aj.At k W)(hkb:∀b,aj.blk k=O b->base<=b/\¬bM bg v gs b)
  (h2:w4.heap[M (H W)+2]? = O (EP #[k.val,I J 0,Z (O (aD (M (H W)+1) 0)) n n] 239)) (h1:w4.heap[M (H W)+1]? = O (EP (List.replicate n (Value.int J 1073741824)).toArray 3)) (hb:Bw W w4) (hs:M (H w4)=M (H W)+3) :
  ∃i l,(Builtin.append_ #[210,210] 210 #[v,Z (O (aD (M (H w4)) 0)) 1 1]).run V (w4.alloc (EP #[Y (O (aD (M (H W)+2) 0))] 212))=.ok i l/\
   UK l (aD bg 0)=O v/\l.frozen? (aD bg 0)=F/\(∃a m c,i = Z a m c)/\
   ou 239 3 212 n base bg (gs++[⟨M (H W)+2,M (H W)+1,k,0,List.replicate n 1073741824⟩]) (UC l (aD bg 0) i) i/\Kept (λb=>b≠bg/\v.ownBlock≠O b) W (UC l (aD bg 0) i)/\
   ∀b,bM bg i (gs++[⟨M (H W)+2,M (H W)+1,k,0,List.replicate n 1073741824⟩]) b->bM bg v gs b∨aj.blk k=O b∨(M (H W)<=b/\b<M (H (UC l (aD bg 0) i))):=by
 obtain⟨i0,hi,D,G,K⟩:=Zj Tryz.aiu;have B:(w4.alloc (EP #[Y (O (aD (M (H W)+2) 0))] 212)).ownsRow base 212 1 v (N gs) (gs.map fI.ptr):=by refine Za hG.own (s:=λb=>b<M (H W)) ((QB hb (λb _ h=>h)).trans (QE _ _)) (λg hg=>(Zb hG.own hg).2)
 obtain⟨i,l,L,p,f,_,Q⟩:=Xo (P:=V) (w4.alloc (EP #[Y (O (aD (M (H W)+2) 0))] 212)) base 210 210 212 i0 (Y xn) 1 8 Tryz.underlying210 hi D G K rfl (by decide) v (N gs) (gs.map fI.ptr) B
  (aD (M (H w4)) 0) 1 1 [Y (O (aD (M (H W)+2) 0))] rfl (λj u S=>by
   match j,S with
   |0,S=>cases S;exact XG (pR w4 _) rfl) (λu hu=>by simp at hu;subst hu;rfl) (by unfold maxLen;omega) (by omega) (by simp;omega)
 have t:∀b,aj.blk k=O b->b<M (H W):=λb d=>aj.zw hk d;have C:(⟨M (H W)+2,M (H W)+1,k,0,List.replicate n 1073741824⟩:fI).At 239 3 n w4:=by
  refine⟨h2,by rw[List.map_replicate];exact h1,aj.keep hk hb.size (λb d _=>hb.block b d),by simp,by show M (H W)+2≠M (H W)+1;omega,λe=>?_,λe=>?_⟩
  .have:=t _ e;have h':M (H W)+2<M (H W):=this;omega
  .have:=t _ e;have h':M (H W)+1<M (H W):=this;omega
 have y:∀b,(⟨M (H W)+2,M (H W)+1,k,0,List.replicate n 1073741824⟩:fI).own b->¬bM bg v gs b:=by
  rintro b (d|d|d) R
  .have:=hG.lt R;have e:b=M (H W)+2:=d;omega
  .have:=hG.lt R;have e:b=M (H W)+1:=d;omega
  .exact(hkb b d).2 R
 have q:∀b,(⟨M (H W)+2,M (H W)+1,k,0,List.replicate n 1073741824⟩:fI).own b->base<=b:=by
  rintro b (d|d|d)
  .have e:b=M (H W)+2:=d;omega
  .have e:b=M (H W)+1:=d;omega
  .exact(hkb b d).1
 have z:i.ownBlock=v.ownBlock∨i.ownBlock=O (M (H (w4.alloc (EP #[Y (O (aD (M (H W)+2) 0))] 212)))):=Q;obtain⟨m1,m2,m3⟩:=hG.more hb C q y (QE w4 _) p f z;have A:v.ownBlock≠O bg:=λe=>by have:=(Zb hG.own e).1;have:=hG.low;omega
 have X:Kept (λb=>v.ownBlock≠O b) W l:=(((QB hb (λb d _=>d)).trans (QE (s:=λb=>v.ownBlock≠O b) _ _))).trans (Q9 f (λr e L=>L e));refine⟨i,l,L,Q0 hG.box X A,(Zd (X.block _ (QK hG.box) A)).trans hG.Bl,Zc p,m1,m2,?_⟩;intro b d;have aa:M (H W)+3<=M (H (UC l (aD bg 0) i)):=by
  have h3:M (H w4)<=M (H (UC l (aD bg 0) i)):=by
   have h4:=f.size;rw[Zo]at h4;have h5:M (H (UC l (aD bg 0) i))=M (H l):=by simp[World.setCell]
   omega
  omega
 rcases m3 b d with h|(h|h|h)|h
 .exact .inl h
 .have e:b=M (H W)+2:=h;exact .inr (.inr ⟨by omega,by omega⟩)
 .have e:b=M (H W)+1:=h;exact .inr (.inr ⟨by omega,by omega⟩)
 .exact .inr (.inl h)
 .exact .inr (.inr h)
def zH(w:U)(kv sv:X3):World:=
 ((((w.alloc (EP #[kv] 22)).alloc (EP #[sv] 22)).alloc (EP #[Z xn 0 0] 210)).alloc (.map #[] 0)).alloc (EP #[.map (O (M (H w)+1+1+1))] 254)
def VD(w:U)(kv sv:X3)(n nk:Nat) :
  ou 239 3 212 n (M (H w)+5) (M (H w)+2) [] (zH w kv sv) (Z xn 0 0)/\kX V 255 3 nk (M (H w)+3) 0 [] (zH w kv sv)/\
  UK (zH w kv sv) (aD (M (H w)) 0)=O kv/\UK (zH w kv sv) (aD (M (H w)+1) 0)=O sv/\UK (zH w kv sv) (aD (M (H w)+4) 0)=O (.map (O (M (H w)+3)))/\
  Bw w (zH w kv sv)/\M (H (zH w kv sv))=M (H w)+5:=by
 unfold zH;obtain⟨i,a⟩:=eX (w.alloc (EP #[kv] 22));have L:i.heap[M (H w)]? = O (EP #[kv] 22):=by rw[<-a];exact pR _ _
 have v:M (H i)=M (H w)+1:=by rw[<-a];simp
 have y:Bw w i:=by rw[<-a];exact dN _ _
 rw[a];obtain⟨j,b⟩:=eX (i.alloc (EP #[sv] 22));have P:j.heap[M (H w)+1]? = O (EP #[sv] 22):=by rw[<-b,<-v];exact pR _ _
 have z:M (H j)=M (H w)+2:=by rw[<-b];simp[v]
 have A:Bw i j:=by rw[<-b];exact dN _ _
 rw[b];obtain⟨g,d⟩:=eX (j.alloc (EP #[Z xn 0 0] 210));have a3:g.heap[M (H w)+2]? = O (EP #[Z xn 0 0] 210):=by rw[<-d,<-z];exact pR _ _
 have B:M (H g)=M (H w)+3:=by rw[<-d];simp[z]
 have C:Bw j g:=by rw[<-d];exact dN _ _
 rw[d];have t:=kX.fresh V 255 3 nk g;rw[B]at t;obtain⟨q,e⟩:=eX (g.alloc (.map #[] 0));have D:M (H q)=M (H w)+4:=by rw[<-e];simp[B]
 have G:Bw g q:=by rw[<-e];exact dN _ _
 rw[e]at t;rw[e];obtain⟨f,r⟩:=eX (q.alloc (EP #[.map (O (M (H w)+1+1+1))] 254));have a5:f.heap[M (H w)+4]? = O (EP #[.map (O (M (H w)+3))] 254):=by rw[<-r,<-D];exact pR _ _
 have Q:M (H f)=M (H w)+5:=by rw[<-r];simp[D]
 have R:Bw q f:=by rw[<-r];exact dN _ _
 rw[r];have k:=R;have l:Bw g f:=G.trans (k.mono G.size);have m:Bw j f:=C.trans (l.mono C.size);have p:Bw i f:=A.trans (m.mono A.size);have u:Bw w f:=y.trans (p.mono y.size);have K:f.heap[M (H w)+2]? = O (EP #[Z xn 0 0] 210):=(l.block _ (by omega)).trans a3;refine⟨⟨XG K rfl,jP K 0,Zk _ _ _ _,λ_ h=>by simp at h,λ_ h=>by simp at h,Zl,by omega⟩,t.keep (k.block _ (by omega)),XG ((p.block _ (by omega)).trans L) rfl,XG ((m.block _ (by omega)).trans P) rfl,XG a5 rfl,u,Q⟩
end
section
open Go.Maps Go.WideMaps
def xy{xs:List X3}(h:A.ownsRow base e 1 v n xs):∃a cap,v=Z a n cap:=by
 rcases h.2 with⟨rfl,h0⟩|⟨g',cap,cur,rfl,_⟩
 .subst h0;exact⟨_,_,rfl⟩
 .exact⟨_,_,rfl⟩
def qP{xs:List X3}(h:A.ownsRow base e 1 v n xs)(hi:i<n):∃g cap,v=Z (O (aD g 0)) n cap/\UK A (aD g i)=xs[i]?:=by
 have b:N xs=n*1:=h.1;rcases h.2 with⟨rfl,h0⟩|⟨g',cap,cur,rfl,_,hg,h1,h2,h3,h4⟩
 .omega
 .refine⟨g',cap,rfl,?_⟩;have a:xs[i]? = (cur.toList.take (n*1))[i]?:=by rw[h4]
  rw[a,List.getElem?_take_of_lt (by omega)];simp[World.cell?,hg]
def aeI{k:List Int}(h:jE ks k=O i):∃a:i<N ks,ks[i]=k:=by unfold jE at h;rw[List.findIdx?_eq_some_iff_getElem]at h;obtain⟨a,b,_⟩:=h;exact⟨a,Xa b⟩
def Ro(h:∀v∈row,bW v):∀v∈au row cols,bW v:=by intro v a;unfold au at a;obtain⟨c,_,rfl⟩:=ZC.1 a;exact lH h _
def aeJ{gs:List fI}(hf:gs.map fI.gr=pre.foldl (λa x=>stepG kc sc a x.xs) (cO kc sc))(hi:jE (gs.map (·.k.xs)) (au x.xs kc)=O i) :
  (gs.modify i (fI.bump x.xs sc)).map fI.gr=(pre++[x]).foldl (λa x=>stepG kc sc a x.xs) (cO kc sc):=by
 rw[Xf,<-hf];show _=stepG kc sc (gs.map fI.gr) x.xs;unfold stepG;have e:(gs.map fI.gr).map Gr.key=gs.map (·.k.xs):=by rw[Z9];rfl
 rw[e,hi];simp only;apply Xx (by simp);intro j b d;rw[Xy,Xz,Xz,Xy];split <;> rfl
def abK{gs:List fI}(hf:gs.map fI.gr=pre.foldl (λa x=>stepG kc sc a x.xs) (cO kc sc))(hi:jE (gs.map (·.k.xs)) (au x.xs kc)=xn){g:fI}(hg:g.gr=mD (au x.xs kc) (N sc)) :
  ((gs++[g]).modify (N gs) (fI.bump x.xs sc)).map fI.gr=(pre++[x]).foldl (λa x=>stepG kc sc a x.xs) (cO kc sc):=by
 rw[Xf,<-hf];show _=stepG kc sc (gs.map fI.gr) x.xs;unfold stepG;have e:(gs.map fI.gr).map Gr.key=gs.map (·.k.xs):=by rw[Z9];rfl
 rw[e,hi];simp only;have f:(gs++[g]).modify (N gs) (fI.bump x.xs sc)=gs++[g.bump x.xs sc]:=by
  apply Xx (by simp);intro j l i;rw[Xz];by_cases d:j<N gs
  .rw[ZU (by omega),List.getElem_append_left d,List.getElem_append_left d]
  .have b:j=N gs:=by simp at i;omega
   subst b;simp
 rw[f,Qi,XA];congr 2;show (⟨g.k.xs,g.cnt+1,gH g.ss x.xs sc⟩:Gr)=mr x.xs sc _;rw[<-hg];rfl
def VF(W:U)(nk bm n:Nat)(ks:List (List Int))(hM:kX V 255 3 nk bm n ks W)(aA:List Int)(hvl:N aA=nk)(h4:nk<=4)(hn:n<2000000)(hkl:N ks<=2000000)(hsm:∀v∈aA,bW v) :
  (∀i,jE ks aA=O i->(Instr.lookup 254 (.map (O bm)) (rT aA) T).run V W=.ok (.tuple #[I J i,Wl T]) W)/\
  (jE ks aA=xn->(Instr.lookup 254 (.map (O bm)) (rT aA) T).run V W=.ok (.tuple #[I J 0,Wl F]) W/\
   ∃W',(Instr.mapUpdate 254 (.map (O bm)) (rT aA) (I J (N ks))).run V W=.ok () W'/\kX V 255 3 nk bm (n+1) (ks++[aA]) W'/\W.grownBy W' (O bm)):=by
 obtain⟨D,f,p⟩:=hM;obtain⟨q,b⟩:=G9 (xs:=aA) Tryz.VC Tryz.underlying3 Tryz.LK hsm;have m:=p aA q hvl b;obtain⟨v,ps,g,r⟩:=f.look_ok Tryz.xw Tryz.underlying254 (Tryz.ait W) (plainElem_int (H:=Unit) Tryz.underlying3 (a:=0) rfl) b;obtain⟨c,rfl,t,_⟩:=plainElem_int_inv Tryz.underlying3 r;have d:D.atKey q (.lit (.int J 0))=.lit (.int J c):=congrArg Prod.fst t;refine⟨λi l=>?_,λl=>⟨?_,?_⟩⟩
 .obtain⟨k,u⟩:=m.hit i l;rw[u]at d;simp only[DataW.lit.injEq,Lit.int.injEq,true_and]at d;have e:(i:Int)=c:=d;rw[g,k,e]
 .have k:=m.miss l;rw[atKey_of_not_has k]at d;simp only[DataW.lit.injEq,Lit.int.injEq,true_and]at d;have e:(0:Int)=c:=d;rw[g,k,<-e]
 .obtain⟨W',y,j,z⟩:=f.update Tryz.xw Tryz.underlying254 (by unfold maxLen;omega) b (plainElem_int (H:=Unit) Tryz.underlying3 (a:=(N ks:Int)) (WalkArith.wf_i64 (by omega)));exact⟨W',y,kX.put Tryz.xw p f.isMap h4 hvl b l j,z⟩
end
def bA(C:List Int)(c:Int):Int:=(C.idxOf c:Int)
def aK(C cs:List Int):List Int:=cs.map (bA C)
def eH(n:Nat)(C r:List Int):List Int:=(List.range n).map λ(c:Nat)=>if (c:Int)∈C then E r (C.idxOf (c:Int)) 0 else 0
def dC(C:List Int)(c:aI):aI:={ c with left:=bA C c.left,right:=if c.op≠2/\c.const=F then bA C c.right else c.right }
def jq(ls:List aB)(C is r:List Int):Bool:=is.all λi=>l7 ((E ls i.toNat lz).cs.map (dC C)) r
def InC(n:Nat)(C:List Int)(c:Int):Prop:=0<=c/\c<n/\c∈C
theorem DV(n:Nat)(C r:List Int):N (eH n C r)=n:=by simp[eH]
theorem rf(h:InC n C c):E (eH n C r) c.toNat 0=E r (bA C c).toNat 0:=by obtain⟨a,b,d⟩:=h;grind [eH,bA]
theorem yA(h:∀c∈cs,InC n C c):au (eH n C r) cs=au r (aK C cs):=by grind [au,aK,List.map_congr_left,rf]
theorem Vs{c:aI}(h:∀x∈aH c,InC n C x):il c (eH n C r)=il (dC C c) r:=by
 unfold aH at h;unfold il dC;simp only;by_cases b:c.op≠2/\c.const=F
 .rw[Zt b]at h ⊢;have a:¬(c.op=2∨c.const=T):=by simp_all
  rw[ZU a,ZU a,rf (h c.left (by simp)),rf (h c.right (by simp))]
 .rw[ZU b]at h ⊢;have a:c.op=2∨c.const=true:=by grind
  rw[Zt a,Zt a,rf (h c.left (by simp))]
theorem LD{n:Nat}{C r:List Int}:∀{cs:List aI},(∀x∈aN cs,InC n C x)->l7 cs (eH n C r)=l7 (cs.map (dC C)) r
 |[],_=>rfl
 |c::cs,h=>by have h1:=Vs (r:=r) (c:=c) λx hx=>h x (by grind [aN]);have h2:=LD (r:=r) (cs:=cs) λx hx=>h x (by grind [aN]);grind [l7]
def DW{n:Nat}{C r:List Int}{ls:List aB}:∀{is:List Int},(∀i∈is,∀x∈aN (E ls i.toNat lz).cs,InC n C x)->mq ls is (eH n C r)=jq ls C is r
 |[],_=>rfl
 |i::is,h=>by have h1:=LD (r:=r) (h i (by simp));have h2:=DW (r:=r) (is:=is) λj hj=>h j (by simp[hj]);unfold mq jq at*;simp_all
theorem BJ{n:Nat}{C x y:List Int}:∀{cs:List Int},(∀c∈cs,InC n C c)->dL (eH n C x) (eH n C y) cs=dL x y (aK C cs)
 |[],_=>rfl
 |c::cs,h=>by have h2:=BJ (x:=x) (y:=y) (cs:=cs) λj hj=>h j (by simp[hj]);unfold aK at*;rw[Xg];unfold dL;grind [rf]
theorem aby(h:∀c∈cs,InC n C c)(rows:List (List Int)):fA cs (rows.map (eH n C))=(fA (aK C cs) rows).map (eH n C):=by unfold fA;have:=Vj (f:=eH n C) (lt:=DI (aK C cs)) (lt':=DI cs) (λa b=>by grind [DI,BJ]) rows [];simp_all
theorem LF(hk:∀c∈kc,InC n C c)(hs:∀c∈sc,InC n C c)(h0:rows=[]->kc=[]):oI kc sc (rows.map (eH n C))=oI (aK C kc) (aK C sc) rows:=by
 unfold oI;rw[Zm];congr 1
 .congr 1
  cases rows with
  |nil=>rw[h0 rfl];rfl
  |cons r rs=>exact yA hk
 .unfold aK;rw[Z9];refine Xw λc a=>?_
  grind [List.map_congr_left,rf]
theorem LG{n:Nat}{C kc sc:List Int}(hk:∀c∈kc,InC n C c)(hs:∀c∈sc,InC n C c):∀(m:Nat) (rows:List (List Int)),jY kc sc m (rows.map (eH n C))=jY (aK C kc) (aK C sc) m rows
 |0,_=>rfl
 |_+1,[]=>rfl
 |m+1,r::rs=>by
  rw[Xg];unfold jY;rw[<-Xg (f:=eH n C),QY,QY];have e1:((λx=>decide (au x kc=au (eH n C r) kc)) ∘ eH n C)=λx=>decide (au x (aK C kc)=au r (aK C kc)):=by grind [yA]
  have e2:((λx=>!decide (au x kc=au (eH n C r) kc)) ∘ eH n C)=λx=>!decide (au x (aK C kc)=au r (aK C kc)):=by grind [yA]
  rw[e1,e2,LF hk hs,LG hk hs m];simp_all
theorem Rj(hk:∀c∈kc,InC n C c)(hs:∀c∈sc,InC n C c)(rows:List (List Int)):kK kc sc (rows.map (eH n C))=kK (aK C kc) (aK C sc) rows:=by
 unfold kK;by_cases h:kc=[]
 .subst h;rw[Zt rfl,Zt (show aK C []=[] from rfl),LF hk hs (λ_=>rfl)];rfl
 grind [aK,LG,List.length_map]
def qd(ts:List ah)(src a b second:List Int):List Int:=(List.range (N a)).map λ(c:Nat)=>if ((aC ts src (c:Int):Nat):Int)∈second then E b c 0 else E a c 0
theorem J9{a b:List Int}(h:k<N a):E (a++b) k 0=E a k 0:=by grind
theorem xg{a b:List Int}:E (a++b) (N a+k) 0=E b k 0:=by grind
theorem abz{L R a b second:List Int}(hl:N a=N L)(hd:∀c∈R,c ∉ L)(hs:∀c:Nat,c<n->(((aC ts src (c:Int):Nat):Int)∈second↔(c:Int)∈R)) :
  qd ts src (eH n L a) (eH n R b) second=eH n (L++R) (a++b):=by
 unfold qd;rw[DV];show _=(List.range n).map _;refine Xw λc g=>?_;have e:c<n:=ZZ.1 g;have f:∀C r,E (eH n C r) c 0=if (c:Int)∈C then E r (C.idxOf (c:Int)) 0 else 0:=λC r=>by grind [eH]
 rw[f,f];by_cases d:(c:Int)∈R
 .rw[Zt ((hs c e).2 d),Zt d,Zt (List.mem_append_right _ d),List.idxOf_append,ZU (hd _ d),<-hl,Nat.add_comm,xg]
 grind
def bH(r:List Int)(k:Int):Int:=E r k.toNat 0
def jF(lk rk:Int)(L R:List (List Int)):List (List Int):=
 L.flatMap λa=>(R.filter λb=>decide (bH b rk=bH a lk) && !decide (bH a lk=1073741824)).map λb=>a++b
theorem abA{p:List Int->Bool}(h:∀a∈L,∀b∈R,p (a++b)=T->bH b rk=bH a lk/\bH a lk≠1073741824):(jF lk rk L R).filter p=(dz L R).filter p:=by
 unfold jF dz;rw[List.filter_flatMap,List.filter_flatMap]
 induction L with
 |nil=>rfl
 |cons a L ih =>
  rw[Xr,Xr,ih (λx d=>h x (by simp[d]))];congr 1;rw[QY,QY,List.filter_filter];congr 1;refine XC λb e=>?_;show (p (a++b)&&_)=p (a++b)
  cases hp:p (a++b) with
  |false=>rfl
  |true =>
   grind
theorem abB(L R:List (List Int)):N (dz L R)=N L*N R:=by
 unfold dz
 induction L with
 |nil=>simp
 |cons a L ih=>grind
def fU(lk rk:Int):List (List Int)->List (List Int)->List (List Int)
 |[],_=>[]
 |a::L,Iq=>if bH a lk=1073741824 then fU lk rk L Iq else
  (((Iq.dropWhile λb=>decide (dK (bH b rk) (bH a lk)<0)).takeWhile λb=>decide (bH b rk=bH a lk)).map λb=>a++b)++fU lk rk L (Iq.dropWhile λb=>decide (dK (bH b rk) (bH a lk)<0))
def BK(k:Int)(R:List (List Int)):Prop:=R.Pairwise λa b=>dK (bH a k) (bH b k)<=0
theorem G5{rk k:Int}:∀{Iq:List (List Int)},BK rk Iq->(∀b∈Iq,dK k (bH b rk)<=0)->(Iq.takeWhile λb=>decide (bH b rk=k))=Iq.filter λb=>decide (bH b rk=k)
 |[],_,_=>rfl
 |b::Iq,hs,hk=>by
  obtain⟨h1,h2⟩:=Xe.1 hs;have ih:=G5 h2 (λc hc=>hk c (by simp[hc]));by_cases e:bH b rk=k
  .simp_all
  grind [List.takeWhile_cons_of_neg,List.filter_eq_nil_iff,wY,qZ]
theorem LH{rk k:Int}:∀{Iq:List (List Int)},BK rk Iq->∀b∈Iq.dropWhile (λb=>decide (dK (bH b rk) k<0)),dK k (bH b rk)<=0
 |[],_,b,hb=>by cases hb
 |c::Iq,hs,b,hb=>by
  obtain⟨h1,h2⟩:=Xe.1 hs;by_cases e:dK (bH c rk) k<0
  .rw[List.dropWhile_cons_of_pos (by simpa using e)]at hb;exact LH h2 b hb
  grind [wY,List.dropWhile_cons_of_neg,aad]
theorem Ae{lk rk:Int}:∀(L D Iq:List (List Int)),BK lk L->BK rk Iq->(∀d∈D,∀a∈L,bH a lk≠1073741824->bH d rk≠bH a lk)->fU lk rk L Iq=jF lk rk L (D++Iq)
 |[],_,_,_,_,_=>rfl
 |a::L,D,Iq,hL,hI,hD=>by
  obtain⟨h1,h2⟩:=Xe.1 hL;have apP:jF lk rk (a::L) (D++Iq)=(((D++Iq).filter λb=>decide (bH b rk=bH a lk) && !decide (bH a lk=1073741824)).map λb=>a++b)++jF lk rk L (D++Iq):=by rfl
  rw[apP];unfold fU;by_cases hn:bH a lk=1073741824
  .rw[Zt hn,Ae L D Iq h2 hI (λd hd x hx=>hD d hd x (by simp[hx]))]
   grind [List.filter_eq_nil_iff]
  .rw[ZU hn];have hsplit:=List.takeWhile_append_dropWhile (p:=λb=>decide (dK (bH b rk) (bH a lk)<0)) (l:=Iq);have hpre:∀d∈Iq.takeWhile (λb=>decide (dK (bH b rk) (bH a lk)<0)),dK (bH d rk) (bH a lk)<0:=λd hd=>by grind [List.all_takeWhile]
   have hsort:BK rk (Iq.dropWhile λb=>decide (dK (bH b rk) (bH a lk)<0)):=hI.sublist (List.dropWhile_sublist _);have hrun:=G5 hsort (LH hI);have hfil:((D++Iq).filter λb=>decide (bH b rk=bH a lk) && !decide (bH a lk=1073741824))=(Iq.dropWhile λb=>decide (dK (bH b rk) (bH a lk)<0)).filter λb=>decide (bH b rk=bH a lk):=by
    have e1:(λb:List Int=>decide (bH b rk=bH a lk) && !decide (bH a lk=1073741824))=λb=>decide (bH b rk=bH a lk):=by simp_all
    rw[e1]
    conv=>lhs;rw[<-hsplit]
    rw[QZ,QZ];have z1:(D.filter λb=>decide (bH b rk=bH a lk))=[]:=by simp_all
    have z2:((Iq.takeWhile λb=>decide (dK (bH b rk) (bH a lk)<0)).filter λb=>decide (bH b rk=bH a lk))=[]:=by grind [List.filter_eq_nil_iff,qZ]
    grind
   have hrest:=Ae L (D++Iq.takeWhile λb=>decide (dK (bH b rk) (bH a lk)<0)) (Iq.dropWhile λb=>decide (dK (bH b rk) (bH a lk)<0)) h2 hsort (λd hd x hx hxn=>by
    grind [bH,aih,qZ])
   simp_all
def Vt(hL:BK lk L)(hR:BK rk R):fU lk rk L R=jF lk rk L R:=
 Ae L [] R hL hR (λd hd=>by cases hd)
theorem rR:bO (DI ps) rows↔rows.Pairwise λa b=>dL a b ps<=0:=by grind [bO,DI,uA]
theorem abC(h:bO (DI (p::ps)) rows):BK p rows:=by refine(rR.1 h).imp λ{a b} h=>?_;grind [bH,dL.eq_def]
theorem DX{C R a a' b b':List Int}(ha:N a=N C)(ha':N a'=N C):∀{o:List Int},(∀c∈o,c∈C)->dL (a++b) (a'++b') (aK (C++R) o)=dL a a' (aK C o)
 |[],_=>rfl
 |c::o,h=>by
  have ih:=DX (R:=R) (b:=b) (b':=b') ha ha' (o:=o) λx hx=>h x (by simp[hx]);have hc:=h c (by simp);have hlt:=XD.2 hc;have e:bA (C++R) c=bA C c:=by grind [bA]
  unfold aK at*;rw[Xg,Xg,e];grind [bA,dL.eq_def]
theorem DY(a:List Int):∀ps,dL a a ps=0
 |[]=>rfl
 |p::ps=>by unfold dL;rw[Zt (qZ.2 rfl),DY a ps]
theorem Vu{R o:List Int}{A B:List (List Int)}(hA:∀a∈A,N a=N C)(ho:∀c∈o,c∈C)(h:bO (DI (aK C o)) A):bO (DI (aK (C++R) o)) (dz A B):=by
 rw[rR]at h ⊢;unfold dz;rw[List.pairwise_flatMap];refine⟨λa b=>?_,?_⟩
 .grind [List.pairwise_of_forall,DX,DY]
 grind [List.Pairwise.imp_of_mem,DX]
def Af(ps:List Int)(rows:List (List Int)):bO (DI ps) (fA ps rows):=by unfold fA;exact GM (Lt ps) rows Zl
def Rk{a b:List Int}:∀{ps:List Int} {k:Nat},dL a b ps<=0->dL a b (ps.take k)<=0
 |[],_,h=>by simpa using h
 |p::ps,0,_=>by simp[dL]
 |p::ps,k+1,h=>by
  rw[List.take_succ_cons];unfold dL at h ⊢;split
  .rename_i e
   rw[Zt e]at h;exact Rk h
  omega
def gV(kc sc:List Int)(gs:List Gr)(row:List Int):List Gr:=
 match gs.getLast? with
 |some g=>if g.key=au row kc then gs.dropLast++[mr row sc g] else gs++[mr row sc (mD (au row kc) (N sc))]
 |none=>[mr row sc (mD (au row kc) (N sc))]
def lW(kc sc:List Int)(rows:List (List Int)):List Gr:=rows.foldl (gV kc sc) (cO kc sc)
theorem Rs{a b:List Int}:∀{kc:List Int},dL a b kc=0↔au a kc=au b kc
 |[]=>by simp[dL,au]
 |c::kc=>by have ih:=Rs (a:=a) (b:=b) (kc:=kc);grind [au,dL.eq_def,qZ,List.cons.injEq]
theorem NM{k key:List Int}(hn:key ∉ ks):jE (ks++[k]) key=if k=key then O (N ks) else none:=by unfold jE;grind
theorem Rt{α:Type}(l:List α)(x:α)(f:α->α):(l++[x]).modify (N l) f=l++[f x]:=by apply List.ext_getElem?;grind
structure aeK(kc:List Int)(gs:List Gr)(rest:List (List Int)):Prop where
 off:∀r∈rest,∀g∈gs.dropLast,g.key≠au r kc
 last:∀g,gs.getLast? = O g->(kc=[]/\g.key=[])∨∃p,g.key=au p kc/\∀r∈rest,dL p r kc<=0
theorem aeL{gs:List Gr}{rest:List (List Int)}(h:aeK kc gs (r::rest))(hr:∀x∈rest,dL r x kc<=0) :
  stepG kc sc gs r=gV kc sc gs r/\aeK kc (gV kc sc gs r) rest:=by
 rcases List.eq_nil_or_concat gs with rfl|⟨D,g,rfl⟩
 .refine⟨rfl,?_,?_⟩
  .intro x _ y a;simp[gV]at a
  .intro y a;have b:mr r sc (mD (au r kc) (N sc))=y:=by grind [gV]
   subst b;exact .inr ⟨r,rfl,hr⟩
 .rw[List.concat_eq_append]at h ⊢;have j:(D++[g]).getLast? = O g:=by simp
  have hd:(D++[g]).dropLast=D:=by simp
  have k:∀y∈D,y.key≠au r kc:=λy a=>h.off r (by simp) y (by simp_all);have f:au r kc ∉ D.map Gr.key:=λn=>by grind
  have d:jE ((D++[g]).map Gr.key) (au r kc)=if g.key=au r kc then O (N D) else none:=by rw[Qi,Xg,List.map_nil,NM f,Zm]
  have l:gV kc sc (D++[g]) r=if g.key=au r kc then D++[mr r sc g] else D++[g]++[mr r sc (mD (au r kc) (N sc))]:=by unfold gV;rw[j,hd]
  by_cases e:g.key=au r kc
  .rw[l,Zt e];refine⟨?_,?_,?_⟩
   .unfold stepG;rw[d,Zt e]
    grind [Rt]
   .grind [aeK.off]
   .intro y a;have b:mr r sc g=y:=by simp_all
    subst b;exact .inr ⟨r,e,hr⟩
  .rw[l,ZU e];refine⟨?_,?_,?_⟩
   .unfold stepG
    simp_all
   .intro x m y a;rw[List.dropLast_concat]at a;rcases Zi.1 a with a|a
    .grind [aeK.off]
    .rw[Zg]at a;subst a;rcases h.last y j with⟨hk,hg⟩|⟨p,hp,hle⟩
     .subst hk;exact absurd (by rw[hg];rfl) e
     .intro i;rw[hp]at e i
      grind [Rs,uA,Ga]
   .intro y a;have b:mr r sc (mD (au r kc) (N sc))=y:=by simp_all
    subst b;exact .inr ⟨r,rfl,hr⟩
def aal{kc sc:List Int}:∀(rows:List (List Int)) (gs:List Gr),aeK kc gs rows->(rows.Pairwise λa b=>dL a b kc<=0)->rows.foldl (stepG kc sc) gs=rows.foldl (gV kc sc) gs
 |[],_,_,_=>rfl
 |r::rows,gs,h,hp=>by obtain⟨h1,h2⟩:=Xe.1 hp;obtain⟨e,hi⟩:=aeL (sc:=sc) h h1;rw[ZF,ZF,e];exact aal rows _ hi h2
theorem Ke(h:bO (DI kc) rows):lW kc sc rows=dW kc sc rows:=by
 unfold lW dW;symm;refine aal rows _ ⟨?_,?_⟩ (rR.1 h)
 .intro r _ g a;unfold cO at a
  grind
 .intro g a;unfold cO at a;split at a
  .rename_i hk
   have:mD [] (N sc)=g:=by simp_all
   subst this;exact .inl ⟨hk,rfl⟩
  .simp at a
def iq:Nat->(Nat->Nat)->Nat
 |0,_=>1
 |n+1,f=>iq n f*f n
def He(f g:Nat->Nat):∀n,iq n f*iq n g=iq n λi=>f i*g i
 |0=>rfl
 |n+1=>by
  show iq n f*f n*(iq n g*g n)=iq n _*(f n*g n);rw[<-He f g n]
  ac_rfl
def LM{f g:Nat->Nat}:∀{n},(∀i,i<n->f i<=g i)->iq n f<=iq n g
 |0,_=>Qn _
 |n+1,h=>ZL (LM λi hi=>h i (by omega)) (h n (by omega))
def qQ{f g:Nat->Nat}:∀{n},(∀i,i<n->f i=g i)->iq n f=iq n g
 |0,_=>rfl
 |n+1,h=>by show iq n f*f n=iq n g*g n;rw[qQ λi hi=>h i (by omega),h n (by omega)]
def Hf:∀n,iq n (λ_=>1)=1
 |0=>rfl
 |n+1=>by show iq n (λ_=>1)*1=1;rw[Hf n]
def zI(c:Nat){k:Nat}:∀{n},k<n->iq n (λi=>if i=k then c else 1)=c
 |0,h=>by omega
 |n+1,h=>by
  show iq n (λi=>if i=k then c else 1)*(if n=k then c else 1)=c;by_cases e:n=k
  .subst e;rw[Zt rfl,qQ (g:=λ_=>1) (λi hi=>ZU (by omega)),Hf,Nat.one_mul]
  .rw[ZU e,zI c (show k<n by omega),Nat.mul_one]
def BN(cnt:Nat->Nat)(n:Nat)(S:List Int):Nat:=iq n λk=>if (k:Int)∈S then cnt k else 1
theorem VG{a b:List Int}(h:∀x∈b,x ∉ a):BN cnt n (bK a b)=BN cnt n a*BN cnt n b:=by
 unfold BN;rw[He];refine qQ λk _=>?_;by_cases e:(k:Int)∈a
 .rw[Zt e,Zt (ZT.2 (.inl e)),ZU (λd=>h _ d e),Nat.mul_one]
 .by_cases d:(k:Int)∈b
  .rw[ZU e,Zt d,Zt (ZT.2 (.inr d)),Nat.one_mul]
  grind [uy]
theorem BO(h:∀k,1<=cnt k)(S:List Int):BN cnt n S<=iq n cnt:=by unfold BN;refine LM λk _=>?_;grind
theorem abM(h0:0<=s)(hn:s<n):BN cnt n [s]=cnt s.toNat:=by unfold BN;rw[qQ (g:=λk=>if k=s.toNat then cnt s.toNat else 1),zI _ (by omega)];grind
def BQ(src:List Int)(db:List aP)(k:Nat):Nat:=max 1 (E db (E src k 0).toNat rz).rs.length
theorem BS(src:List Int)(db:List aP):gL src db=iq (N src) (BQ src db):=by
 have h:∀k,k<=N src->gL (src.take k) db=iq k (BQ src db):=by
  intro k
  induction k with
  |zero=>intro _;rfl
  |succ k ih =>
   intro a;have e:E src k 0=src[k]:=by grind
   show _=iq k _*BQ src db k;rw[<-ih (by omega)];unfold gL BQ;rw[Qh (by omega),Xf,e];rfl
 grind
def fw(ts:List ah)(src:List Int)(s:Int):List Int:=((List.range (N (dD ts src (N src)))).filter λ(c:Nat)=>decide (((aC ts src (c:Int):Nat):Int)=s)).map λ(c:Nat)=>(c:Int)
theorem rU:c∈fw ts src s↔0<=c/\c<N (dD ts src (N src))/\((aC ts src c:Nat):Int)=s:=by grind [fw,aC]
theorem BU(ts:List ah)(src:List Int)(s:Int):(fw ts src s).Nodup:=by unfold fw;grind [List.nodup_range]
theorem VH{a:Nat}(h:a+k<=n)(p:Nat->Bool)(hp:∀c,c<n->(p c=T↔a<=c/\c<a+k)):(List.range n).filter p=(List.range k).map (a + ·):=by
 have e:List.range n=List.range' 0 a++(List.range' a k++List.range' (a+k) (n-(a+k))):=by rw[List.range_eq_range'];have b:=List.range'_append (s:=a) (m:=k) (n:=n-(a+k)) (step:=1);have d:=List.range'_append (s:=0) (m:=a) (n:=k+(n-(a+k))) (step:=1);grind
 rw[e,QZ,QZ,Xv.2,List.filter_eq_self.2,Xv.2]
 .grind [List.range'_eq_map_range]
 .simp_all
 .grind
 grind
theorem Hg(hc:ji ts=T)(ha:aS src (N ts)=T)(h0:0<=c)(hl:c<ak ts src){s:Nat}(hs:s<N src) :
  aC ts src c=s↔ak ts (src.take s)<=c/\c<ak ts (src.take (s+1)):=by
 obtain⟨a,b,d,_⟩:=ZQ hc ha h0 hl;constructor
 .grind
 .rintro⟨e,f⟩;rcases Nat.lt_trichotomy (aC ts src c) s with h|h|h
  .have:=pW hc ha (show aC ts src c+1<=s from h) (by omega);omega
  .exact h
  .have:=pW hc ha (show s+1<=aC ts src c from h) (by omega);omega
def LP(hc:ji ts=T)(ha:aS src (N ts)=T){s:Nat}(hs:s<N src) :
  fw ts src (s:Int)=(List.range (E ts (E src s 0).toNat tz).cols.toNat).map λ(j:Nat)=>(((ak ts (src.take s)).toNat+j:Nat):Int):=by
 have d:=ZO hc ha (N src) (Qn _);rw[QX]at d;have e:=ZO hc ha s (by omega);have b:=ZO hc ha (s+1) (by omega);have f:=pW hc ha (show s+1<=N src by omega) (Qn _);rw[QX]at f;rw[iE,Zn,Zm,ZP]at b;unfold fw;rw[VH (a:=(ak ts (src.take s)).toNat) (k:=(E ts (E src s 0).toNat tz).cols.toNat) (by omega),Z9]
 .rfl
 .intro c g;rw[ZW];have:=Hg hc ha (c:=(c:Int)) (by omega) (by omega) hs;omega
theorem aeM:∀{C:List Int},C.Nodup->∀{j:Nat} (hj:j<N C),C.idxOf C[j]=j
 |[],_,j,hj=>by simp at hj
 |c::C,hd,0,_=>by simp
 |c::C,hd,j+1,hj=>by grind
def Hl(W a:Nat)(r:List Int):List Int:=List.replicate a 0++r++List.replicate (W-a-N r) 0
theorem DZ(hc:ji ts=T)(ha:aS src (N ts)=T){s:Nat}(hs:s<N src)(hr:(N r:Int)=(E ts (E src s 0).toNat tz).cols) :
  Hl (ak ts src).toNat (ak ts (src.take s)).toNat r=eH (ak ts src).toNat (fw ts src (s:Int)) r:=by
 have d:=LP hc ha hs;have g:=BU ts src (s:Int);have i:=ZO hc ha s (by omega);have f:=ZO hc ha (s+1) (by omega);have m:=pW hc ha (show s+1<=N src by omega) (Qn _);rw[QX]at m;rw[iE,Zn,Zm,ZP]at f;generalize (E ts (E src s 0).toNat tz).cols=K at*;obtain⟨a,p⟩:∃a,(ak ts (src.take s)).toNat=a:=⟨_,rfl⟩;obtain⟨W,v⟩:∃W,(ak ts src).toNat=W:=⟨_,rfl⟩;have q:K.toNat=N r:=by omega
 have t:a+N r<=W:=by omega
 rw[p,v];rw[p,q]at d;clear i f m;have n:N (fw ts src (s:Int))=N r:=by simp_all
 have k:∀j,j<N r->(fw ts src (s:Int)).idxOf ((a+j:Nat):Int)=j:=λj A=>by have:=aeM g (j:=j) (by omega);simp_all
 have b:∀c:Nat,(c:Int)∈fw ts src (s:Int)↔a<=c/\c<a+N r:=λc=>by
  rw[d,ZC];constructor
  .grind
  .rintro⟨y,l⟩;exact⟨c-a,ZZ.2 (by omega),by omega⟩
 unfold Hl;apply Xx
 .grind [DV]
 .intro c y l;have u:(eH W (fw ts src (s:Int)) r)[c]'l=if (c:Int)∈fw ts src (s:Int) then E r ((fw ts src (s:Int)).idxOf (c:Int)) 0 else 0:=by simp[eH]
  rw[u];rw[DV]at l;by_cases h:(c:Int)∈fw ts src (s:Int)
  .rw[Zt h];rw[b]at h;have e:=k (c-a) (by omega);rw[show a+(c-a)=c by omega]at e;rw[e,List.getElem_append_left (by simp;omega),List.getElem_append_right (by simp;omega)]
   grind
  .rw[ZU h];rw[b]at h;by_cases z:c<a
   .simp_all
   .rw[List.getElem_append_right (by simp;omega),List.getElem_replicate]
section
variable (ts:List ah) (q:af) (plan:List ai) (db:List aP)
def keyOf(n:ai):Int × Int × Bool:=kS ts q.src.xs (E q.wh n.key.toNat lz).cs ((dw ts q plan n.l.toNat).getD vz).sources ((dw ts q plan n.r.toNat).getD vz).sources
def sV(n:ai)(L R:List (List Int) × List Int):List (List Int):=
 if n.kind=3 then dz L.1 R.1 else jF (bA L.2 (keyOf ts q plan n).1) (bA R.2 (keyOf ts q plan n).2.1) L.1 R.1
def bI:Nat->Nat->List (List Int) × List Int
 |0,_=>([],[])
 |f+1,i =>
  if (E plan i nz).kind=1 then (fu db (E q.src.xs (E plan i nz).source.toNat 0),fw ts q.src.xs (E plan i nz).source)
  else if (E plan i nz).kind=2 then ((bI f (E plan i nz).l.toNat).1.filter (jq q.wh (bI f (E plan i nz).l.toNat).2 (E plan i nz).cl.xs),(bI f (E plan i nz).l.toNat).2)
  else if (E plan i nz).kind=6 then (fA (aK (bI f (E plan i nz).l.toNat).2 (E plan i nz).co.xs) (bI f (E plan i nz).l.toNat).1,(bI f (E plan i nz).l.toNat).2)
  else ((sV ts q plan (E plan i nz) (bI f (E plan i nz).l.toNat) (bI f (E plan i nz).r.toNat)).filter (jq q.wh ((bI f (E plan i nz).l.toNat).2++(bI f (E plan i nz).r.toNat).2) (E plan i nz).cl.xs),
   (bI f (E plan i nz).l.toNat).2++(bI f (E plan i nz).r.toNat).2)
def nC:Nat->Nat->List (List Int)
 |0,_=>[]
 |f+1,i =>
  if (E plan i nz).kind=10 then fA q.ord.xs (nC f (E plan i nz).l.toNat)
  else if (E plan i nz).kind=9 then (bI ts q plan db f (E plan i nz).l.toNat).1.map λr=>au r (aK (bI ts q plan db f (E plan i nz).l.toNat).2 q.bE.xs)
  else (dW (aK (bI ts q plan db f (E plan i nz).l.toNat).2 q.keys.xs) (aK (bI ts q plan db f (E plan i nz).l.toNat).2 q.sums.xs) (bI ts q plan db f (E plan i nz).l.toNat).1).map Gr.row
def gJ:Nat->Nat->List (List Int)
 |0,_=>[]
 |f+1,i =>
  if (E plan i nz).kind=1 then (fu db (E q.src.xs (E plan i nz).source.toNat 0)).map (Hl (ak ts q.src.xs).toNat (ak ts (q.src.xs.take (E plan i nz).source.toNat)).toNat)
  else if (E plan i nz).kind=6 then fA (E plan i nz).co.xs (gJ f (E plan i nz).l.toNat)
  else if (E plan i nz).kind=7∨(E plan i nz).kind=8 then kK q.keys.xs q.sums.xs (gJ f (E plan i nz).l.toNat)
  else if (E plan i nz).kind=9 then (gJ f (E plan i nz).l.toNat).map λr=>au r q.bE.xs
  else if (E plan i nz).kind=10 then fA q.ord.xs (gJ f (E plan i nz).l.toNat)
  else if (E plan i nz).kind=2 then (gJ f (E plan i nz).l.toNat).filter (mq q.wh (E plan i nz).cl.xs)
  else ((gJ f (E plan i nz).l.toNat).flatMap λa=>(gJ f (E plan i nz).r.toNat).map λb=>qd ts q.src.xs a b ((dw ts q plan (E plan i nz).r.toNat).getD vz).sources).filter (mq q.wh (E plan i nz).cl.xs)
theorem iV{v:dX}(h:dw ts q plan i=O v) :
  ((E plan i nz).kind=1/\0<=(E plan i nz).source/\(E plan i nz).source<N q.src.xs/\v.sources=[(E plan i nz).source]/\v.order=[]/\v.out=F)∨
  (2<=(E plan i nz).kind/\(E plan i nz).kind<=10/\(E plan i nz).kind≠3/\(E plan i nz).kind≠4/\(E plan i nz).kind≠5/\0<=(E plan i nz).l/\(E plan i nz).l<i/\
   ∃l,dw ts q plan (E plan i nz).l.toNat=O l/\uw ts q (E plan i nz) l vz=O v)∨
  (3<=(E plan i nz).kind/\(E plan i nz).kind<=5/\0<=(E plan i nz).l/\(E plan i nz).l<i/\0<=(E plan i nz).r/\(E plan i nz).r<i/\
   ∃l r,dw ts q plan (E plan i nz).l.toNat=O l/\dw ts q plan (E plan i nz).r.toNat=O r/\uw ts q (E plan i nz) l r=O v):=by
 obtain⟨n,g⟩:=eX (E plan i nz);have b:=(EG h).1;rw[g]at b ⊢;unfold fQ at b;simp only[Qj,Z5,ZW]at b;obtain⟨⟨⟨⟨u,e⟩,_⟩,k⟩,p⟩:=b;have j:iR n=true:=by grind [yt]
 by_cases t:n.kind=1
 .left;rw[Ac ts q plan i g j t]at h
  grind
 .right;by_cases m:3<=n.kind/\n.kind<=5
  .right;have f:arity n.kind=2:=by unfold arity;simp_all
   rw[f]at k p;have a:0<=n.l/\n.l<i:=by omega
   have d:0<=n.r/\n.r<i:=by omega
   rw[Ll ts q plan i g j (by omega) e f a.1 a.2 d.1 d.2]at h;refine⟨m.1,m.2,a.1,a.2,d.1,d.2,?_⟩
   cases el:dw ts q plan n.l.toNat with
   |none=>simp_all
   |some l =>
    cases er:dw ts q plan n.r.toNat with
    |none=>simp_all
    |some r=>simp_all
  .left;have f:arity n.kind=1:=by unfold arity;simp_all
   rw[f]at k;have a:0<=n.l/\n.l<i:=by omega
   rw[Lj ts q plan i g j (by omega) e (by omega) a.1 a.2]at h;refine⟨by omega,e,by omega,by omega,by omega,a.1,a.2,?_⟩
   cases el:dw ts q plan n.l.toNat with
   |none=>simp_all
   |some l=>simp_all
def VI{n:ai}{l r v:dX}(h:uw ts q n l r=O v):r.out=F/\(l.out=T↔n.kind=10)/\N (bK l.sources r.sources)=N l.sources+N r.sources/\
  gz ts q n.cl.xs (bK l.sources r.sources)=T/\oF ts q n l r=T/\v.sources=bK l.sources r.sources/\v.order=(if n.kind=6 then n.co.xs else l.order)/\v.out=decide (7<=n.kind)/\v.clauses=bK (bK l.clauses r.clauses) n.cl.xs:=by
 rw[rO]at h;split at h
 .rename_i ho
  injection h with h;subst h;unfold rM at ho;simp_all
 .cases h
end
def XM:=@VI
structure gM(ts:List ah)(q:af)(db:List aP)(v:dX)(Fq:List (List Int) × List Int)(ref:List (List Int)):Prop where
 same:ref=Fq.1.map (eH (ak ts q.src.xs).toNat Fq.2)
 nodup:Fq.2.Nodup
 cols:∀c,c∈Fq.2↔0<=c/\c<(ak ts q.src.xs).toNat/\((aC ts q.src.xs c:Nat):Int)∈v.sources
 lens:∀r∈Fq.1,N r=N Fq.2
 aA:∀r∈Fq.1,∀x∈r,okV x
 ord:∀c∈v.order,c∈Fq.2
 sorted:bO (DI (aK Fq.2 v.order)) Fq.1
 nK:v.sources.Nodup
 gB:aY (N q.src.xs) v.sources
 many:N Fq.1<=BN (BQ q.src.xs db) (N q.src.xs) v.sources
def gM.inC{v:dX}{Fq:List (List Int) × List Int}(h:gM ts q db v Fq ref)(hc:c∈Fq.2):InC (ak ts q.src.xs).toNat Fq.2 c:=by have:=(h.cols c).1 hc;exact⟨this.1,this.2.1,hc⟩
theorem jH(ok:Ok ts q){S:List Int}(h:gz ts q l S=T):∀i∈l,(0<=i/\i<N q.wh)/\∀x∈aN (E q.wh i.toNat lz).cs,0<=x/\x<(ak ts q.src.xs).toNat/\((aC ts q.src.xs x:Nat):Int)∈S:=by
 intro i j;obtain⟨k,d,rfl⟩:=Qq j;unfold gz at h;rw[Qk]at h;have a:=h k (ZZ.2 d);have e:E l k 0=l[k]:=by simp_all
 rw[e]at a;simp only[Qj,ZW]at a;obtain⟨⟨⟨f,g⟩,_⟩,b⟩:=a;refine⟨⟨f,g⟩,λx m=>?_⟩;have n:=ok.cols _ (show (l[k]).toNat<N q.wh by omega) x m;unfold F9 at b;grind
theorem yC(h:zC ts db=T){t:Int}(hr:r∈fu db t):(N r:Int)=(E ts t.toNat tz).cols/\∀x∈r,okV x:=by
 unfold fu at hr;obtain⟨y,d,rfl⟩:=ZC.1 hr;unfold zC at h;rw[Qk]at h;by_cases f:t.toNat<N db
 .have b:=h t.toNat (ZZ.2 f);unfold P8 Vi at b;rw[Qj,Qk]at b;have a:=b.2 y d;unfold P7 at a;rw[Qj,ZW,Qk]at a;refine⟨a.1,λx i=>?_⟩;have g:=a.2 x i;unfold Vh at g
  grind [okV]
 .have e:E db t.toNat rz=rz:=by simp_all
  rw[e]at d;cases d
theorem yD{x:List Int}:x∈dz L R↔∃a∈L,∃b∈R,x=a++b:=by grind [dz]
def bO.filter{lt:List Int->List Int->Bool}{rows:List (List Int)}(p:List Int->Bool)(h:bO lt rows):bO lt (rows.filter p):=List.Pairwise.filter p h
def abN{c:aI}(hop:c.op=0)(hno:c.not=F)(hco:c.const=F)(h:il c xs=1):E xs c.left.toNat 0=E xs c.right.toNat 0/\E xs c.left.toNat 0≠1073741824:=by
 have e:¬(c.op=2∨c.const=T):=by simp_all
 unfold il at h;simp only at h;rw[ZU e,ZU (by simp_all)]at h;generalize E xs c.left.toNat 0=X at*;generalize E xs c.right.toNat 0=Yq at*;unfold jl at h;omega
theorem Ru(ok:Ok ts q){n:ai}{L R:List (List Int) × List Int}{l r:dX}(hl:dw ts q plan n.l.toNat=O l)(hr:dw ts q plan n.r.toNat=O r)
  (h3:3<=n.kind) (h5:n.kind<=5) (hk:oF ts q n l r=T) (hls:gz ts q n.cl.xs (bK l.sources r.sources)=T) (HL:gM ts q db l L rl) (HR:gM ts q db r R rr) (hd:∀c∈R.2,c ∉ L.2) :
  (sV ts q plan n L R).filter (jq q.wh (L.2++R.2) n.cl.xs)=(dz L.1 R.1).filter (jq q.wh (L.2++R.2) n.cl.xs):=by
 unfold sV;by_cases X:n.kind=3
 .simp_all
 rw[ZU X];have G:keyOf ts q plan n=kS ts q.src.xs (E q.wh n.key.toNat lz).cs l.sources r.sources:=by unfold keyOf;simp_all
 rw[G];unfold oF at hk;rw[ZU (by omega),Zt (by omega)]at hk;simp only[Qj,ZW]at hk;obtain⟨⟨d,f⟩,_⟩:=hk;have m:=(jH ok hls n.key d).2;obtain⟨cs,g⟩:∃cs,(E q.wh n.key.toNat lz).cs=cs:=⟨_,rfl⟩;rw[g]at f m ⊢;unfold kS at f ⊢;by_cases c1:N cs≠1∨(E cs 0 cz).not=T∨(E cs 0 cz).const=T∨(E cs 0 cz).op≠0
 .simp_all
 rw[ZU c1]at f ⊢;have u:N cs=1/\(E cs 0 cz).not=F/\(E cs 0 cz).const=F/\(E cs 0 cz).op=0:=by grind
 obtain⟨i,z,j,A⟩:=u;obtain⟨c,rfl⟩:∃c,cs=[c]:=by
  match cs,i with
  |[c],_=>simp_all
 simp only[List.getD_cons_zero]at*;have y:aN [c]=[c.left,c.right]:=by unfold aN aH;simp_all
 rw[y]at m;have e:=m c.left (by simp);have hy:=m c.right (by simp)
 -- what the key clause says of a row
 have B:∀a∈L.1,∀b∈R.1,jq q.wh (L.2++R.2) n.cl.xs (a++b)=T->E (a++b) (bA (L.2++R.2) c.left).toNat 0=E (a++b) (bA (L.2++R.2) c.right).toNat 0/\E (a++b) (bA (L.2++R.2) c.left).toNat 0≠1073741824:=by intro a _ b _ h;unfold jq at h;rw[Qk]at h;have p:=h n.key d;rw[g]at p;unfold l7 at p;simp only[Xg,List.map_nil,List.any_cons,List.any_nil,Bool.or_false,ZW]at p;have C:=abN (c:=dC (L.2++R.2) c) A z j p;have K:(dC (L.2++R.2) c).right=bA (L.2++R.2) c.right:=Zt ⟨by omega,j⟩;rw[K]at C;exact C
 have P:∀x,x∈L.2->∀a∈L.1,∀b,E (a++b) (bA (L.2++R.2) x).toNat 0=bH a (bA L.2 x):=λx e a t b=>by have Q:=XD.2 e;have:=HL.lens a t;unfold bH bA;rw[List.idxOf_append,Zt e,J9 (by omega)]
 have S:∀x,x∈R.2->∀a∈L.1,∀b,E (a++b) (bA (L.2++R.2) x).toNat 0=bH b (bA R.2 x):=λx e a t b=>by have:=HL.lens a t;unfold bH bA;rw[List.idxOf_append,ZU (hd x e),<-this,show ((List.idxOf x R.2+N a:Nat):Int).toNat=N a+List.idxOf x R.2 by omega,xg];rfl
 have D:∀x,0<=x/\x<((ak ts q.src.xs).toNat:Int)/\((aC ts q.src.xs x:Nat):Int)∈bK l.sources r.sources->∀(v:dX) Fq k,gM ts q db v Fq k->((aC ts q.src.xs x:Nat):Int)∈v.sources->x∈Fq.2:=λx e v Fq k W d=>(W.cols x).2 ⟨e.1,e.2.1,d⟩;refine abA λa t b hb hp=>?_;grind
theorem yE(ok:Ok ts q):(((ak ts q.src.xs).toNat:Nat):Int)=ak ts q.src.xs/\N (dD ts q.src.xs (N q.src.xs))=(ak ts q.src.xs).toNat:=by have:=ZO ok.cat ok.src (N q.src.xs) (Qn _);grind
def Hm(l:List Int):bK l vz.sources=l:=rfl
theorem jQ{ts:List ah}{q:af}(ok:Ok ts q)(plan:List ai){db:List aP}(mX:zC ts db=T):∀(f i:Nat) (v:dX),i<f->dw ts q plan i=O v->v.out=F->gM ts q db v (bI ts q plan db f i) (gJ ts q plan db f i)
 |0,_,_,h,_,_=>by omega
 |f+1,i,v,hi,hv,hout=>by
  have hW:=yE ok;rcases iV ts q plan hv with⟨hk,h0,hs,es,eo,_⟩|⟨k2,k10,k3,k4,k5,hl0,Kg,l,hl,hn⟩|⟨k3,k5,hl0,Kg,hr0,hri,l,r,hl,hr,hn⟩
  .obtain⟨s,hse⟩:∃s:Nat,(E plan i nz).source=(s:Int):=⟨_,(ZX h0).symm⟩
   have hsl:s<N q.src.xs:=by omega
   have ef:bI ts q plan db (f+1) i=(fu db (E q.src.xs s 0),fw ts q.src.xs (s:Int)):=by unfold bI;simp_all
   have er:gJ ts q plan db (f+1) i=(fu db (E q.src.xs s 0)).map (Hl (ak ts q.src.xs).toNat (ak ts (q.src.xs.take s)).toNat):=by unfold gJ;simp_all
   have hrow:∀r∈fu db (E q.src.xs s 0),_:=λr hr=>yC mX hr;have hcl:(N (fw ts q.src.xs (s:Int)):Int)=(E ts (E q.src.xs s 0).toNat tz).cols:=by
    rw[LP ok.cat ok.src hsl,Zm,ZP];have h1:=Ql ok.src (k:=s) hsl;have e:E q.src.xs s 0=q.src.xs[s]:=by simp_all
    have h2:=nE ok.cat (i:=(q.src.xs[s]).toNat) (by omega);grind
   rw[ef,er];refine⟨?_,BU _ _ _,?_,?_,λr hr=>(hrow r hr).2,?_,?_,?_,?_,?_⟩
   .exact Xw λr hr=>DZ ok.cat ok.src hsl (hrow r hr).1
   .intro c;rw[rU,es,hse,Zg,hW.2]
   .grind
   .simp_all
   .rw[eo];exact List.pairwise_of_forall λ_ _=>rfl
   .rw[es];simp
   .rw[es];intro x hx
    simp_all
   .rw[es,abM h0 hs,hse]
    show N (fu db _)<=_;unfold fu BQ;grind
  .obtain⟨_,ho,_,hls,hkb,es,eo,nD,_⟩:=XM ts q hn;rw[Hm]at hls es;rw[hout]at nD;have h6:¬7<=(E plan i nz).kind:=λh=>by grind
   have hlo:l.out=false:=by grind
   have Hq:=jQ ok plan mX f (E plan i nz).l.toNat l (by omega) hl hlo;by_cases hk:(E plan i nz).kind=2
   .have ef:bI ts q plan db (f+1) i=((bI ts q plan db f (E plan i nz).l.toNat).1.filter (jq q.wh (bI ts q plan db f (E plan i nz).l.toNat).2 (E plan i nz).cl.xs),(bI ts q plan db f (E plan i nz).l.toNat).2):=by
     conv=>lhs;unfold bI
     simp_all
    have er:gJ ts q plan db (f+1) i=(gJ ts q plan db f (E plan i nz).l.toNat).filter (mq q.wh (E plan i nz).cl.xs):=by
     conv=>lhs;unfold gJ
     simp_all
    rw[ZU (by omega)]at eo;rw[ef,er];generalize bI ts q plan db f (E plan i nz).l.toNat=Fq at Hq ⊢;generalize gJ ts q plan db f (E plan i nz).l.toNat=G at Hq ⊢;have hcl:=jH ok hls;refine⟨?_,Hq.nodup,?_,λr hr=>Hq.lens r (ZY.1 hr).1,λr hr=>Hq.aA r (ZY.1 hr).1,?_,?_,?_,?_,?_⟩
    .rw[Hq.same,QY];congr 1;refine XC λr _=>?_
     exact DW λj hj x hx=>Hq.inC ((Hq.cols x).2 ((hcl j hj).2 x hx))
    .rw[es];exact Hq.cols
    .rw[eo];exact Hq.ord
    .rw[eo];exact Hq.sorted.filter _
    .rw[es];exact Hq.nK
    .rw[es];exact Hq.gB
    .rw[es];exact Qz (XN _ _) Hq.many
   .have wN:(E plan i nz).kind=6:=by omega
    have ef:bI ts q plan db (f+1) i=(fA (aK (bI ts q plan db f (E plan i nz).l.toNat).2 (E plan i nz).co.xs) (bI ts q plan db f (E plan i nz).l.toNat).1,(bI ts q plan db f (E plan i nz).l.toNat).2):=by
     conv=>lhs;unfold bI
     simp_all
    have er:gJ ts q plan db (f+1) i=fA (E plan i nz).co.xs (gJ ts q plan db f (E plan i nz).l.toNat):=by
     conv=>lhs;unfold gJ
     simp_all
    rw[Zt wN]at eo;unfold oF at hkb;rw[ZU hk,ZU (by omega),Zt wN]at hkb;simp only[Qj,Qk,ZW]at hkb;obtain⟨⟨hall,_⟩,hin⟩:=hkb;rw[ef,er];generalize bI ts q plan db f (E plan i nz).l.toNat=Fq at Hq ⊢;generalize gJ ts q plan db f (E plan i nz).l.toNat=G at Hq ⊢;have hco:∀c∈(E plan i nz).co.xs,c∈Fq.2:=λc hc=>(Hq.cols c).2 (by
     unfold aS at hall;simp_all)
    refine⟨?_,Hq.nodup,?_,λr hr=>Hq.lens r (DJ.1 hr),λr hr=>Hq.aA r (DJ.1 hr),?_,?_,?_,?_,?_⟩
    .rw[Hq.same];exact aby (λc hc=>Hq.inC (hco c hc)) Fq.1
    .rw[es];exact Hq.cols
    .simp_all
    .rw[eo];exact Af _ _
    .rw[es];exact Hq.nK
    .rw[es];exact Hq.gB
    .rw[es]
     show N (fA _ _)<=_;rw[DK];exact Hq.many
  .obtain⟨hro,ho,hwl,hls,hkb,es,eo,nD,_⟩:=XM ts q hn;have hlo:l.out=false:=by grind
   rw[ZU (by omega)]at eo;have HL:=jQ ok plan mX f (E plan i nz).l.toNat l (by omega) hl hlo;have HR:=jQ ok plan mX f (E plan i nz).r.toNat r (by omega) hr hro;have VJ:=(yj HR.nK).1 hwl;have ef:bI ts q plan db (f+1) i=((sV ts q plan (E plan i nz) (bI ts q plan db f (E plan i nz).l.toNat) (bI ts q plan db f (E plan i nz).r.toNat)).filter (jq q.wh ((bI ts q plan db f (E plan i nz).l.toNat).2++(bI ts q plan db f (E plan i nz).r.toNat).2) (E plan i nz).cl.xs),
     (bI ts q plan db f (E plan i nz).l.toNat).2++(bI ts q plan db f (E plan i nz).r.toNat).2):=by
    conv=>lhs;unfold bI
    grind
   have er:gJ ts q plan db (f+1) i=((gJ ts q plan db f (E plan i nz).l.toNat).flatMap λa=>(gJ ts q plan db f (E plan i nz).r.toNat).map λb=>qd ts q.src.xs a b r.sources).filter (mq q.wh (E plan i nz).cl.xs):=by
    conv=>lhs;unfold gJ
    grind
   have hcl:=jH ok hls;have hjk:=Ru (plan:=plan) (n:=E plan i nz) ok hl hr k3 k5 hkb hls HL HR (λc hc h=>VJ _ ((HR.cols c).1 hc).2.2 ((HL.cols c).1 h).2.2);rw[ef,er,hjk];generalize bI ts q plan db f (E plan i nz).l.toNat=L at HL ⊢;generalize gJ ts q plan db f (E plan i nz).l.toNat=GL at HL ⊢;generalize bI ts q plan db f (E plan i nz).r.toNat=R at HR ⊢;generalize gJ ts q plan db f (E plan i nz).r.toNat=GR at HR ⊢;have hd:∀c∈R.2,c ∉ L.2:=λc hc h=>VJ _ ((HR.cols c).1 hc).2.2 ((HL.cols c).1 h).2.2;have PU:∀c,c∈L.2++R.2↔0<=c/\c<(ak ts q.src.xs).toNat/\((aC ts q.src.xs c:Nat):Int)∈bK l.sources r.sources:=λc=>by rw[Zi,HL.cols,HR.cols,ZT];grind
   have apV:∀x∈dz L.1 R.1,N x=N (L.2++R.2):=λx hx=>by obtain⟨a,ha,b,hb,rfl⟩:=yD.1 hx;grind [gM.lens]
   refine⟨?_,?_,?_,λx hx=>apV x (ZY.1 hx).1,?_,?_,?_,?_,?_,?_⟩
   .have e1:(GL.flatMap λa=>GR.map λb=>qd ts q.src.xs a b r.sources)=(dz L.1 R.1).map (eH (ak ts q.src.xs).toNat (L.2++R.2)):=by
     rw[HL.same,HR.same];unfold dz;rw[List.flatMap_map,List.map_flatMap];have hone:∀a∈L.1,(List.map (λb=>qd ts q.src.xs (eH (ak ts q.src.xs).toNat L.2 a) b r.sources) (R.1.map (eH (ak ts q.src.xs).toNat R.2)))=List.map (eH (ak ts q.src.xs).toNat (L.2++R.2)) (R.1.map λb=>a++b):=λa ha=>by rw[Z9,Z9];refine Xw λb _=>?_;refine abz (HL.lens a ha) hd λc hc=>?_;rw[HR.cols];simp_all
     have:∀(A:List (List Int)),(∀a∈A,a∈L.1)->(A.flatMap λa=>List.map (λb=>qd ts q.src.xs (eH (ak ts q.src.xs).toNat L.2 a) b r.sources) (R.1.map (eH (ak ts q.src.xs).toNat R.2)))=A.flatMap λa=>List.map (eH (ak ts q.src.xs).toNat (L.2++R.2)) (R.1.map λb=>a++b):=by
      intro A
      induction A with
      |nil=>intro _;rfl
      |cons a A ih =>
       simp_all
     simp_all
    rw[e1,QY];congr 1;refine XC λx _=>?_;refine DW λj hj c hc=>?_;have h1:=(PU c).2 ((hcl j hj).2 c hc);have h2:=(PU c).1 h1;exact⟨h2.1,h2.2.1,h1⟩
   .rw[List.nodup_append]
    grind [gM.nodup]
   .simp_all
   .intro x hx y hy;obtain⟨a,ha,b,hb,rfl⟩:=yD.1 (ZY.1 hx).1
    grind [gM.aA]
   .rw[eo];intro c hc
    grind [gM.ord]
   .rw[eo];exact(Vu HL.lens HL.ord HL.sorted).filter _
   .rw[es];exact iF HL.nK
   .rw[es];exact HL.gB.with HR.gB
   .rw[es,VG VJ];refine Qz (XN _ _) ?_;rw[abB];exact ZL HL.many HR.many
theorem Ip{s:List Int}(h:gz ts q l s=T):N l<=N q.wh:=by
 have b:=uW h;unfold gz at h;rw[Qk]at h;have a:∀i,i<N l->(i:Int)<=E l i 0:=by
  intro i
  induction i with
  |zero=>simp_all
  |succ i ih =>
   grind
 grind
def afH(ok:Ok ts q){n:ai}{L R:List (List Int) × List Int}{l r:dX}(h45:n.kind=4∨n.kind=5)(hk:oF ts q n l r=T)(hls:gz ts q n.cl.xs (bK l.sources r.sources)=T)(HL:gM ts q db l L rl)(HR:gM ts q db r R rr) :
  n.key∈n.cl.xs/\(kS ts q.src.xs (E q.wh n.key.toNat lz).cs l.sources r.sources).2.2=T/\(kS ts q.src.xs (E q.wh n.key.toNat lz).cs l.sources r.sources).1∈L.2/\(kS ts q.src.xs (E q.wh n.key.toNat lz).cs l.sources r.sources).2.1∈R.2:=by
 unfold oF at hk;rw[ZU (by omega),Zt h45]at hk;simp only[Qj,ZW]at hk;obtain⟨⟨d,a⟩,_⟩:=hk;refine⟨d,a,?_⟩;have i:=(jH ok hls n.key d).2;generalize (E q.wh n.key.toNat lz).cs=cs at*;unfold kS at a ⊢;by_cases k:N cs≠1∨(E cs 0 cz).not=T∨(E cs 0 cz).const=T∨(E cs 0 cz).op≠0
 .simp_all
 rw[ZU k]at a ⊢;have b:N cs=1:=by omega
 obtain⟨c,rfl⟩:∃c,cs=[c]:=by
  match cs,b with
  |[c],_=>simp_all
 simp only[List.getD_cons_zero]at*;have j:aN [c]=[c.left,c.right]:=by unfold aN aH;simp_all
 rw[j]at i;have e:=i c.left (by simp);have f:=i c.right (by simp);by_cases g:((aC ts q.src.xs c.left:Nat):Int)∈l.sources/\((aC ts q.src.xs c.right:Nat):Int)∈r.sources
 .rw[Zt g];exact⟨(HL.cols _).2 ⟨e.1,e.2.1,g.1⟩,(HR.cols _).2 ⟨f.1,f.2.1,g.2⟩⟩
 .rw[ZU g]at a ⊢;simp only[Qj,ZW]at a;exact⟨(HL.cols _).2 ⟨f.1,f.2.1,a.1⟩,(HR.cols _).2 ⟨e.1,e.2.1,a.2⟩⟩
theorem afI(ok:Ok ts q)(h5:N q.src.xs<=5)(ha:aS xs (ak ts q.src.xs)=T)(hp:dB xs=T):N xs<=1000:=by
 unfold aS at ha;rw[Qk]at ha;have a:=oL ok.cat ok.src (N q.src.xs) (Qn _);rw[QX]at a;have b:=DD (n:=(ak ts q.src.xs).toNat) (s:=xs) (λc d=>by
  grind) (EF hp)
 omega
def gM.acx{v:dX}{Fq:List (List Int) × List Int}(h:gM ts q db v Fq ref){k:Int}(hs:aQ v.order [k]=T):BK (bA Fq.2 k) Fq.1:=by
 have a:=h.sorted;unfold aQ at hs;simp only[Qj,ZW]at hs
 cases ho:v.order with
 |nil=>simp_all
 |cons x xs =>
  rw[ho]at hs a;have:x=k:=by simp_all
  subst this;exact abC a
theorem gM.aaA(ok:Ok ts q)(h5:N q.src.xs<=5)(hm:gL q.src.xs db<=20000){v:dX}{Fq:List (List Int) × List Int}(h:gM ts q db v Fq ref):N Fq.1<=1000000/\N Fq.2<=1000/\∀r∈Fq.1,∀x∈r,-2147483648<=x/\x<=2147483648:=by
 refine⟨?_,?_,λr b x d=>?_⟩
 .have a:=BO (cnt:=BQ q.src.xs db) (n:=N q.src.xs) (λk=>by unfold BQ;omega) v.sources;rw[<-BS]at a;have:=h.many;omega
 .have a:=DD (n:=(ak ts q.src.xs).toNat) (s:=Fq.2) (λc e=>by have:=(h.cols c).1 e;omega) h.nodup;have f:=oL ok.cat ok.src (N q.src.xs) (Qn _)
  grind
 .have:=h.aA r b x d;unfold okV at this;omega
def SI(ok:Ok ts q){n:ai}{L R:List (List Int) × List Int}{l r:dX}(hl:dw ts q plan n.l.toNat=O l)(hr:dw ts q plan n.r.toNat=O r)(h3:3<=n.kind)(h5:n.kind<=5)(hk:oF ts q n l r=T)(HL:gM ts q db l L rl)(HR:gM ts q db r R rr) :
  (if n.kind=3 then dz L.1 R.1 else if n.kind=4 then jF (bA L.2 (keyOf ts q plan n).1) (bA R.2 (keyOf ts q plan n).2.1) L.1 R.1 else fU (bA L.2 (keyOf ts q plan n).1) (bA R.2 (keyOf ts q plan n).2.1) L.1 R.1)=sV ts q plan n L R:=by
 unfold sV;by_cases b:n.kind=3
 .simp_all
 rw[ZU b,ZU b];by_cases d:n.kind=4
 .simp_all
 rw[ZU d];unfold oF at hk;rw[ZU (by omega),Zt (by omega)]at hk;simp only[Qj,Z5,ZW]at hk;have a:=hk.2.resolve_left d;have e:keyOf ts q plan n=kS ts q.src.xs (E q.wh n.key.toNat lz).cs l.sources r.sources:=by unfold keyOf;simp_all
 rw[e];exact Vt (HL.acx a.1) (HR.acx a.2)
def Aw(ok:Ok ts q){pl:List ai}{ds:List bN}(h:jD ts q pl=O ds):1<=N pl/\N ds=N pl/\GD ts q pl ds/\∃v,dw ts q pl (N pl-1)=O v/\v.out=true:=by
 unfold jD at h;by_cases g:gQ pl=F
 .simp_all
 rw[ZU g]at h;have a:gQ pl=true:=by simp_all
 unfold gQ at a;simp only[Qj,ZW]at a;obtain⟨⟨⟨e,_⟩,b⟩,_⟩:=a;rw[Qk]at b;rcases GG ok pl (N pl) (λi f=>b i (ZZ.2 f)) with⟨h2,_⟩|⟨ps,h2,h3,h4⟩
 .simp_all
 .rw[h2]at h;simp only[Option.bind_some]at h;split at h
  .rename_i ho
   cases h;rw[Qj]at ho;obtain⟨v,d,_⟩:=h4 (N pl-1) (by omega);exact⟨e,h3,h4,v,d,by rw[(EG d).2.1];exact ho.1⟩
  .cases h
theorem SQ{n:ai}{L R:List (List Int) × List Int}{x:List Int}(h:x∈sV ts q plan n L R):∃a∈L.1,∃b∈R.1,x=a++b:=by
 unfold sV at h;split at h
 .exact yD.1 h
 .unfold jF at h
  grind
theorem Ww(ts:List ah)(q:af)(pl:List ai)(db:List aP):∀(i:Nat) {v:dX},dw ts q pl i=O v->v.out=F->∀f g,i<f->i<g->bI ts q pl db f i=bI ts q pl db g i:=by
 intro i
 induction i using Nat.strongRecOn with
 |ind i ih =>
  intro v p b f g A B;obtain⟨f,rfl⟩:∃k,f=k+1:=⟨f-1,by omega⟩;obtain⟨g,rfl⟩:∃k,g=k+1:=⟨g-1,by omega⟩;rcases iV ts q pl p with⟨hk,h0,hs,es,eo,_⟩|⟨k2,k10,k3,k4,k5,hl0,Kg,l,hl,hn⟩|⟨k3,k5,hl0,Kg,hr0,hri,l,r,hl,hr,hn⟩
  .unfold bI
   simp_all
  .obtain⟨_,n,_,_,_,_,_,e,_⟩:=XM ts q hn;rw[b]at e;have t:¬7<=(E pl i nz).kind:=λh=>by grind
   have a:l.out=false:=by grind
   have j:=ih (E pl i nz).l.toNat (by omega) hl a f g (by omega) (by omega);have m:¬(E pl i nz).kind=1:=by omega
   unfold bI;grind
  .obtain⟨d,n,_,_,_,_,_,e,_⟩:=XM ts q hn;have a:l.out=false:=by grind
   have j:=ih (E pl i nz).l.toNat (by omega) hl a f g (by omega) (by omega);have u:=ih (E pl i nz).r.toNat (by omega) hr d f g (by omega) (by omega);have m:¬(E pl i nz).kind=1:=by omega
   have y:¬(E pl i nz).kind=2:=by omega
   have z:¬(E pl i nz).kind=6:=by omega
   unfold bI;simp_all
theorem acy(ts:List ah)(q:af)(pl:List ai)(db:List aP):∀{i:Nat} {v:dX},dw ts q pl i=O v->v.out=T->∀f g,i<f->i<g->nC ts q pl db f i=nC ts q pl db g i:=by
 intro i
 induction i using Nat.strongRecOn with
 |ind i ih =>
  intro v m d f g n p;obtain⟨f,rfl⟩:∃k,f=k+1:=⟨f-1,by omega⟩;obtain⟨g,rfl⟩:∃k,g=k+1:=⟨g-1,by omega⟩;rcases iV ts q pl m with⟨b,h0,hs,es,eo,e⟩|⟨k2,k10,k3,k4,k5,hl0,Kg,l,hl,hn⟩|⟨k3,k5,hl0,Kg,hr0,hri,l,r,hl,hr,hn⟩
  .simp_all
  .obtain⟨_,e,_,_,_,_,_,j,_⟩:=XM ts q hn;by_cases b:(E pl i nz).kind=10
   .unfold nC
    grind
   .have a:l.out=false:=by simp_all
    unfold nC;rw[ZU b,ZU b,Ww ts q pl db _ hl a f g (by omega) (by omega)]
  .obtain⟨_,_,_,_,_,_,_,j,_⟩:=XM ts q hn
   grind
def iT{oi:Oper}(i:Nat)(v:Value)(h:wpAnyIn Fq n P md ops Q fuel (listed.setIfInBounds i true) (a.put oi.dst v) w)(hr:(Region.ready md ops listed).contains i=true:=by decide +kernel)(hi:ops[i]? = some oi:=by exact rfl)(hro:Fq.round=none:=by exact rfl)(hs:Region.noSelect ops=true:=by kernel_rfl)(hf:Region.free md ops listed i=true:=by kernel_rfl)(hQ:∀c a w,Q (.panic c) (a.put oi.dst v) w->Q (.panic c) a w:=by exact λ_ _ _ h=>h)(hy:YieldsFenced P ops oi v a:=by exact⟨Or.inl ⟨by rfl,λw=>by go_simp⟩,λ_=>rfl⟩):wpAnyIn Fq n P md ops Q (fuel+1) listed a w:=
 wpAnyIn_take hro hi hs hf hr hQ hy h
@[reducible] def OpK (Fq:Fence) (n:Nat) (P:Program) (md:Region.Mode) (ops:Array Oper) (Q:Exit->Act->U->Prop) (fuel:Nat) (listed:Array Bool) (a:Act) (w:U) (i:Nat) (o:Oper):Prop:=
 ∀K:Act->U->Prop,(∀a w,wpAnyIn Fq n P md ops Q fuel (listed.setIfInBounds i T) a w->K a w)->if Region.wanted o (yielded ops a.tmps)=T then Oper.wpIn Fq n P o a w K Q else (∀f,o.about P w a.eval=O f->Fq.fn f)/\K (a.put o.dst undef) w
def iQ(i:Nat)(h:OpK Fq n P md ops Q fuel listed a w i o)(hr:Region.ready md ops listed=[i]:=by decide +kernel)(hi:ops[i]? = some o:=by exact rfl):wpAnyIn Fq n P md ops Q (fuel+1) listed a w:=
 wpAnyIn_ready hr (by simp) (AllReadyIn.cons hi h AllReadyIn.nil)
def iJ{p:Oper}(i j:Nat)(h:OpK Fq n P md ops Q fuel listed a w i o)(k:OpK Fq n P md ops Q fuel listed a w j p)(hr:Region.ready md ops listed=[i,j]:=by decide +kernel)(hi:ops[i]? = some o:=by exact rfl)(hj:ops[j]? = some p:=by exact rfl):wpAnyIn Fq n P md ops Q (fuel+1) listed a w:=
 wpAnyIn_ready hr (by simp) (AllReadyIn.cons hi h (AllReadyIn.cons hj k AllReadyIn.nil))
def iD(h:Q .normal a w)(hr:Region.ready md ops listed=[]:=by decide +kernel):wpAnyIn Fq n P md ops Q fuel listed a w:=
 wpAnyIn_done hr h fuel
def kR(i:Nat)(h:∀K':Act->World->Prop,Shut (∀a w,S w->(S w->wpAnyH P md ops Q S fuel (listed.setIfInBounds i true) a w)->K' a w)->if Region.wanted o (yielded ops a.tmps)=true then Oper.wp P o a w K' Q else K' (a.put o.dst undef) w)(hr:Region.ready md ops listed=[i]:=by decide +kernel)(hi:ops[i]? = some o:=by exact rfl):wpAnyH P md ops Q S (fuel+1) listed a w:=
 wR i h hi hr
def kJ{p:Oper}(i j:Nat)(h:∀K':Act->World->Prop,Shut (∀a w,S w->(S w->wpAnyH P md ops Q S fuel (listed.setIfInBounds i true) a w)->K' a w)->if Region.wanted o (yielded ops a.tmps)=true then Oper.wp P o a w K' Q else K' (a.put o.dst undef) w)(k:∀K':Act->World->Prop,Shut (∀a w,S w->(S w->wpAnyH P md ops Q S fuel (listed.setIfInBounds j true) a w)->K' a w)->if Region.wanted p (yielded ops a.tmps)=true then Oper.wp P p a w K' Q else K' (a.put p.dst undef) w)(hr:Region.ready md ops listed=[i,j]:=by decide +kernel)(hi:ops[i]? = some o:=by exact rfl)(hj:ops[j]? = some p:=by exact rfl):wpAnyH P md ops Q S (fuel+1) listed a w:=
 wJ i j h k hi hj hr
def kD(h:Q .normal a w)(hr:Region.ready md ops listed=[]:=by decide +kernel):wpAnyH P md ops Q S fuel listed a w:=wD h hr
def kG(i:Nat)(h:wpAnyH P md ops Q S fuel listed a w)(_:(Region.ready md ops listed).contains i=true:=by decide +kernel):wpAnyH P md ops Q S fuel listed a w:=h
def Gd(A B:List X3)(x y:X3):(A++x::B).toArray.setIfInBounds (N A) y=(A++y::B).toArray:=by simp
def xG(A B:List X3)(x:X3):(A++x::B).toArray[N A]? = O x:=by simp
structure Swap(w:U)(blk:Nat)(t:TypeId)(i1 i2:Nat)(x y:X3)(L:List X3):Prop where
 c1:UK w (aD blk i1)=O x
 c2:UK w (aD blk i2)=O y
 z1:w.frozen? (aD blk i1)=F
 z2:w.frozen? (aD blk i2)=F
 ne:i1≠i2
 up:GB ((UC (UC w (aD blk i1) y) (aD blk i2) x).drew) blk t L.toArray/\Kept (λb=>b≠blk) w ((UC (UC w (aD blk i1) y) (aD blk i2) x).drew)
 down:GB ((UC (UC w (aD blk i2) x) (aD blk i1) y).drew) blk t L.toArray/\Kept (λb=>b≠blk) w ((UC (UC w (aD blk i2) x) (aD blk i1) y).drew)
def Kept.ES{s:Nat->Prop}(w:U):Kept s w w.drew:=QB ((Qm (M (H w)) w).drew) (λb a _=>a)
def GB.ES{w:U}{blk:Nat}{t:TypeId}{c:Array X3}(h:GB w blk t c):GB w.drew blk t c:=h.keep (Kept.ES (s:=λ_=>True) w) trivial
def GB.drewN{w:U}{blk:Nat}{t:TypeId}{c:Array X3}(h:GB w blk t c)(n:Nat):GB (w.drewN n) blk t c:=h.keep (Zp (s:=λ_=>True) w n) trivial
theorem GB.swap{A B C:List X3}{x y:X3}(h:GB w blk t (A++x::B++y::C).toArray)(h1:i1=N A)(h2:i2=N A+1+N B):Swap w blk t i1 i2 x y (A++y::B++x::C):=by
 have b:i2=N (A++x::B):=by rw[h2];simp;omega
 have a:i2=N (A++y::B):=by rw[h2];simp;omega
 have d:(A++x::B++y::C).toArray[i1]? = O x:=by grind
 have e:(A++x::B++y::C).toArray[i2]? = O y:=by rw[b];exact xG _ _ y
 have f:(A++x::B++y::C).toArray.setIfInBounds i1 y=(A++y::B++y::C).toArray:=by rw[h1,ZE,QV,Gd,ZE,QV]
 have g:(A++y::B++y::C).toArray.setIfInBounds i2 x=(A++y::B++x::C).toArray:=by rw[a];exact Gd _ _ _ _
 have i:(A++x::B++y::C).toArray.setIfInBounds i2 x=(A++x::B++x::C).toArray:=by rw[b];exact Gd _ _ _ _
 have j:(A++x::B++x::C).toArray.setIfInBounds i1 y=(A++y::B++x::C).toArray:=by rw[h1,ZE,QV,Gd,ZE,QV]
 refine⟨(h.cell i1).trans d,(h.cell i2).trans e,h.frozen i1,h.frozen i2,by omega,⟨?_,?_⟩,⟨?_,?_⟩⟩
 .have:=(h.set i1 y).set i2 x;rw[f,g]at this;exact this.ES
 .exact((Q8 _ _ _ (λh=>h rfl)).trans (Q8 _ _ _ (λh=>h rfl))).trans (Kept.ES _)
 .have:=(h.set i2 x).set i1 y;rw[i,j]at this;exact this.ES
 .exact((Q8 _ _ _ (λh=>h rfl)).trans (Q8 _ _ _ (λh=>h rfl))).trans (Kept.ES _)
def wrap_add{a:Nat}(h:a+k<len)(hl:len<=1000000):wrap64 ((a:Int)+(k:Int))=((a+k:Nat):Int):=by unfold wrap64;omega
def Ck{a:Nat}(h:k<=a)(hl:a<=4000000):wrap64 ((a:Int)-(k:Int))=((a-k:Nat):Int):=by unfold wrap64;omega
def ap5{p x x1 y1 x3:Nat}(hb:b=p+x+m)(l1:x1=k)(l2:y1=k)(hx:x=x1+(x3+1)):b+k=p+y1+1+(x3+m+x1):=by omega
def ap6{a p x:Nat}(ha:a=p)(hb:b=p+x+m)(h:b+k<len):a+k<len:=by omega
def SL(L:List ae)(R:List X3):Array Value:=(L.map ae.val++R).toArray
def GB.RY{R:List X3}{L A B C:List ae}{y:ae}(h:GB w blk t (SL L R))(e:L=A++x::B++y::C)(h1:i1=N A)(h2:i2=N A+1+N B) :
  Swap w blk t i1 i2 x.val y.val ((A++y::B++x::C).map ae.val++R):=by
 have a:SL L R=(A.map ae.val++x.val::B.map ae.val++y.val::(C.map ae.val++R)).toArray:=by rw[e];unfold SL;simp
 have b:(A++y::B++x::C).map ae.val++R=A.map ae.val++y.val::B.map ae.val++x.val::(C.map ae.val++R):=by simp
 rw[a]at h;rw[b];exact h.swap (by simpa using h1) (by simpa using h2)
def tY(blk cap len a b n:Nat)(f:X3)(P X Mz Yq Q:List ae)(R:List X3)(w:U)(hG:GB w blk 22 (SL (P++X++Mz++Yq++Q) R))(hX:N X=n)(hY:N Yq=n)(ha:a=N P)(hb:b=N P+N X+N Mz)(hlen:b+n<=len)(hl:len<=1000000) :
  Calls V 236 #[Z (O (aD blk 0)) len cap,I J a,I J b,I J n,f] w λe w'=>e=FN (.tuple #[])/\GB w' blk 22 (SL (P++Yq++Mz++X++Q) R)/\Kept (λb=>b≠blk) w w':=by
 have HG:Y3 _:=hG;clear hG;go_enter Tryz.func236,Tryz.ntmps236;go_wp2;go_loopw [10] (λi wr=>∃(k:Nat) (d p j q:List ae),k<=n/\i=I J k/\Y3 (X=d++p/\Yq=j++q/\N d=k/\N j=k/\GB wr blk 22 (SL (P++j++p++Mz++d++q++Q) R)/\Kept (λb=>b≠blk) w wr)) (λi _=>n-(intOf i).toNat)
 case atStart=>exact⟨0,[],X,[],Yq,QW _,rfl,rfl,rfl,rfl,rfl,by rw[Xd,Xd];exact HG.o,Qy _ _⟩
 case round=>
  obtain⟨k,d,p,j,q,hk,rfl,HI⟩:=hrel;obtain⟨eX,eY,l1,l2,u,L⟩:=HI.o;by_cases G:k<n
  .obtain⟨x,g,rfl⟩:∃x g,p=x::g:=by
    cases p with
    |nil=>rw[eX,Xd]at hX;omega
    |cons x g=>exact⟨x,g,rfl⟩
   obtain⟨y,l,rfl⟩:∃y l,q=y::l:=by
    cases q with
    |nil=>rw[eY,Xd]at hY;omega
    |cons y l=>exact⟨y,l,rfl⟩
   have e:P++j++x::g++Mz++d++y::l++Q=(P++j)++x::(g++Mz++d)++y::(l++Q):=by simp
   have r:N X=N d+(N g+1):=by rw[eX];simp
   have m:=u.RY e (i1:=a+k) (i2:=b+k) (by rw[Zn];omega) (by simp only[Zn];exact ap5 hb l1 l2 r);have ag:=Qz (Qz (Nat.le_add_left n b) hlen) hl;have t:=QA (Nat.add_lt_add_left G b) hlen;have S:=ap6 ha hb t;have ah:=wrap_add S hl;have ai:=wrap_add t hl;have c1:=m.c1;have c2:=m.c2;have z1:=m.z1;have z2:=m.z2;have aj:=m.ne;obtain⟨HS,HE,HK,HL⟩:=om m (XK eX eY) L (XK l1 l2);clear m u HI eX eY e L hX hY ha hb r hlen l1 l2;generalize a+k=i1 at*;generalize b+k=i2 at*;obtain⟨v,z,A⟩:=x;obtain⟨B,C,D⟩:=y;unfold ae.val at c1 c2;simp only at c1 c2;go_wp2;go_region;have K:=HS.o.up;unfold ae.val at K;simp only at K;generalize ((wr.setCell { block:=blk,off:=i1 } (Value.slice B (N D) C)).setCell { block:=blk,off:=i2 } (Value.slice v (N A) z)).drew=wf at*;have HU:=Zh K;clear K HS;go_wp2;go_roundw
   case rel=>
    refine⟨k+1,d++[⟨v,z,A⟩],g,j++[⟨B,C,D⟩],l,G,by go_num,by rw[HE.o.1,ZE];rfl,by rw[HE.o.2,ZE];rfl,by rw[Zn,HL.o.1];rfl,by rw[Zn,HL.o.2];rfl,?_,HK.o.trans HU.o.2⟩;have h:=HU.o.1;show GB wf blk 22 ((P++(j++[ae.mk B C D])++g++Mz++(d++[ae.mk v z A])++l++Q).map ae.val++R).toArray;have e:P++(j++[ae.mk B C D])++g++Mz++(d++[ae.mk v z A])++l++Q=P++j++ae.mk B C D::(g++Mz++d)++ae.mk v z A::(l++Q):=by simp
    rw[e];exact h
   case measure=>simp[intOf];omega
  .have W:k=n:=by omega
   subst W;have aa:p=[]:=by have h:=congrArg N eX;rw[Zn]at h;exact Qs (by omega)
   have af:q=[]:=by have h:=congrArg N eY;rw[Zn]at h;exact Qs (by omega)
   subst aa;subst af;rw[Xd]at eX eY;subst eX;subst eY;rw[Xd,Xd]at u;have HF:=Zh (XK u L);clear u L HI;go_wp2;go_end0;exact⟨rfl,HF.o⟩
