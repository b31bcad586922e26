import Derived.Test.YtnjbikdhpnopjaaGreatDoorA06
import Derived.Test.YtnjbikdhpnopjaaGreatDoorA07
set_option linter.all false
set_option maxRecDepth 100000
set_option maxHeartbeats 0
namespace Go.Proofs.Zz
open Go.RowKit Go.Shelf
open List renaming length->N,getD->E
open Go.Value renaming slice->Z,int->I,pointer->Y,bool->Wl,tuple->MV
open Go.Proofs.Tryz renaming prog->V
open Option renaming some->O,none->xn
open Go.IntKind renaming i64->J
open Bool renaming false->F,true->T
open Go renaming World->U,Value->X3
open Go.World renaming heap->H,setCell->UC,cell?->UK
open _root_.Array renaming size->M
open Go.RowKit renaming Hid->Y3
open Go.Obj renaming cells->EP
open Go.Ending renaming returned->FN
variable {ts:List ah} {q:af} {ls:List aB} {S cs l row sc src xs:List Int} {a b b1 b3 b4 b5 base bg c e i j jp k kp l1 l8 la lb m n np p r r0 s s0 y y1:Nat} {gs:List fI} {v:X3} {A A1 A2 B B1 B2 B3 B4 B5 L P P' Q Q' X X' Y' Yq pre:List ae} {tg ti tk tp:TypeId} {kc x z:ae} {w:U} {db:List aP} {α:Type} {cf:ae->ae->Int} {lt:ae->ae->Bool}
def sW(a b:Int)(w:U):Ce 191 #[I J a,I J b] w (I J (dK a b)):=by
 unfold dK;by_cases f:a=b
 .rw[Zt f];have i:(a==b)=true:=by simpa using f
  go_enter Tryz.func191,Tryz.ntmps191;go_wp2;go_ret;exact⟨rfl,rfl⟩
 .rw[ZU f];have i:(a==b)=false:=by simpa using f
  by_cases d:a=1073741824
  .rw[Zt d];have j:(a==1073741824)=true:=by simpa using d
   clear d;go_enter Tryz.func191,Tryz.ntmps191;go_wp2;go_ret;exact⟨rfl,rfl⟩
  .rw[ZU d];have j:(a==1073741824)=false:=by simpa using d
   by_cases e:b=1073741824
   .rw[Zt e];have k:(b==1073741824)=true:=by simpa using e
    clear e;go_enter Tryz.func191,Tryz.ntmps191;go_wp2;go_ret;exact⟨rfl,rfl⟩
   .rw[ZU e];have k:(b==1073741824)=false:=by simpa using e
    by_cases g:a<b
    .rw[Zt g];go_enter Tryz.func191,Tryz.ntmps191;go_wp2;go_ret;exact⟨rfl,rfl⟩
    .rw[ZU g];go_enter Tryz.func191,Tryz.ntmps191;go_wp2;go_ret;exact⟨rfl,rfl⟩
structure Chk(ts:List ah)(q:af):Prop where
 cat:ji ts=T
 src:aS q.src.xs (N ts)=T
 five:N q.src.xs<=5
 eight:N q.wh<=8
 cols:DC ts q
 some:∀i,i<N q.wh->0<(E q.wh i lz).cs.length
 three:∀i,i<N q.wh->(E q.wh i lz).cs.length<=3
theorem Chk.ok(h:Chk ts q):Ok ts q:=⟨h.cat,h.src,by have:=h.five;omega,by have:=h.eight;omega,h.cols,h.some⟩
def VW(c:aI)(xs:List Int):il c xs=if c.not then -(jl c.op (E xs c.left.toNat 0) (if c.op=2∨c.const=T then c.right else E xs c.right.toNat 0)) else jl c.op (E xs c.left.toNat 0) (if c.op=2∨c.const=T then c.right else E xs c.right.toNat 0):=rfl
def VX(hk:k<N ls)(h:l7 (E ls k lz).cs xs=F):F=dR ls xs:=by
 symm;unfold dR;rw[List.all_eq_false];have e:E ls k lz=ls[k]:=by simp[List.getD,hk]
 refine⟨ls[k],Zv hk,?_⟩;rw[e]at h;rw[h];simp
def RJ(hk:k<N ls)(hp:dR (ls.take k) xs=T)(h:l7 (E ls k lz).cs xs=T):dR (ls.take (k+1)) xs=true:=by
 unfold dR at*;have e:E ls k lz=ls[k]:=by simp[List.getD,hk]
 rw[e]at h;rw[Qh hk,List.all_append,hp,List.all_cons,List.all_nil,h];rfl
def Kk(c:aI)(ao:Option Addr)(cap:Nat)(xs:List Int)(w:U)(hx:IntsAt w ao xs)(hop:c.op=0∨c.op=1∨c.op=2)(hl:0<=c.left/\c.left<N xs)(hr:c.op=2∨c.const=T∨(0<=c.right/\c.right<N xs)) :
  Cb 134 #[c.val,Z ao (N xs) cap] w (I J (il c xs+1)):=by
 have a:=dN w (EP #[Wl c.not,I J c.op,I J c.left,Wl c.const,I J c.right] 69);have d:=H8 c ao cap xs _ (Qo a hx) hop hl hr;rw[VW];have g:=BA c.op (E xs c.left.toNat 0) (if c.op=2∨c.const=T then c.right else E xs c.right.toNat 0);generalize jl c.op (E xs c.left.toNat 0) (if c.op=2∨c.const=T then c.right else E xs c.right.toNat 0)=Tq at*;obtain⟨j,m,left,b,right⟩:=c;unfold aI.val at*;simp only at*;clear hop hl hr hx;have i:UK (w.alloc (EP #[Wl j,I J m,I J left,Wl b,I J right] 69)) (aD (M (H w)) 0)=O (Wl j):=by simp
 have k:=Zh a;clear a;rcases g with rfl|rfl|rfl <;> cases j
 all_goals
  go_enter Tryz.func134,Tryz.ntmps134;go_wp2_with fail;refine d.mono ?_;rintro e n ⟨rfl,f⟩;have l:=cB f i;go_wp2;go_ret;exact⟨rfl,k.o.trans (f.mono (by simp))⟩
def FI(c:aB)(ao:Option Addr)(cap:Nat)(xs:List Int)(w:U)(hx:IntsAt w ao xs)(hc:aW w c.ad c.cs)(hcs:∀k,k<N c.cs->fV (E c.cs k cz) (N xs)=T) :
  Cb 89 #[.agg #[c.val],Z ao (N xs) cap] w (I J (mJ c.cs xs)):=by
 obtain⟨ad,dE,cs⟩:=c;unfold aB.val;simp only at hc hcs;simp only;have f:=dN w (EP #[Z ad (N cs) dE] 73);have K:=Zh f;have L:=hc.1;have P:Y3 _:=hc;have Q:Y3 _:=hx;have R:=Zh hcs;clear hx hc hcs f;go_enter Tryz.func89,Tryz.ntmps89;go_wp2;go_loopw [5,11] (λm i wr=>∃k:Nat,k<=N cs/\i=I J k/\m=I J (mJ (cs.take k) xs)/\Bw w wr) (λ_ i _=>N cs-(intOf i).toNat)
 case atStart=>exact⟨0,QW _,rfl,rfl,K.o⟩
 case round=>
  obtain⟨k,hk,rfl,rfl,a⟩:=hrel;by_cases d:k<N cs
  .obtain⟨b4,o4,rfl,v,y,z,A,B⟩:=P.o.2 k d;obtain⟨d0,d1,d2,d3,d4⟩:=qA a v y z A B;obtain⟨C,D,G⟩:=P6 (R.o k d);have S:=Zh (Nz (xs:=xs) d);have W:=zB (cs.take k) xs;have X:=uY (E cs k cz) xs;have l:=a.size;generalize E cs k cz=cc at*;have n:=dN wr (EP #[Wl cc.not,I J cc.op,I J cc.left,Wl cc.const,I J cc.right] 69);have b:=Kk cc ao cap xs _ (Qo n (Qo a Q.o)) C D G;generalize il cc xs=Tq at*;generalize mJ (cs.take k) xs=Mz at*;have p:=Zh n;obtain⟨nt,op,left,u,right⟩:=cc;unfold aI.val at b;simp only at*;clear v y z A B C D G n;have q:max Mz (Tq+1)=if Mz<Tq+1 then Tq+1 else Mz:=by omega
   go_wp2_with fail;refine b.mono ?_;rintro e w2 ⟨rfl,j⟩;have g:=a.trans ((p.o.trans (j.mono (by simp))).mono l);have r:=Zh g;clear g j b a d0 d1 d2 d3 d4;go_wp2;go_roundw
   case rel=>exact⟨k+1,by omega,by go_num,by rw[S.o,q],r.o⟩
   case measure=>simp[intOf];omega
  .have t:k=N cs:=by omega
   subst t;rw[QX];go_wp2;go_ret;exact⟨rfl,a⟩
def L9(gI:Option Addr)(bP:Nat)(wh:List aB)(ao:Option Addr)(cap:Nat)(xs:List Int)(w:U)(hx:IntsAt w ao xs)(hq:dJ w gI wh)
  (hcs:∀i,i<N wh->∀k,k<(E wh i lz).cs.length->fV ((E wh i lz).cs.getD k cz) (N xs)=T) :
  Cb 51 #[Z gI (N wh) bP,Z ao (N xs) cap] w (Wl (dR wh xs)):=by
 have K:=hq.1;have D:Y3 _:=hq;have L:Y3 _:=hx;have P:=Zh hcs;clear hx hq hcs;go_enter Tryz.func51,Tryz.ntmps51;go_wp2;go_loopw [9] (λi wr=>∃k:Nat,k<=N wh/\i=I J k/\Y3 (dR (wh.take k) xs=T)/\Bw w wr) (λi _=>N wh-(intOf i).toNat)
 case atStart=>exact⟨0,QW _,rfl,rfl,Qm _ _⟩
 case round=>
  obtain⟨k,W,rfl,t,b⟩:=hrel;by_cases d:k<N wh
  .obtain⟨X,o2,rfl,r⟩:=D.o.2.1.get d;have l:=cB b (r _ d);have m:=D.o.2.2 k d;have n:=P.o k d;have v:Y3 (l7 (E wh k lz).cs xs=F->F=dR wh xs):=λh=>VX d h
   have y:Y3 (l7 (E wh k lz).cs xs=T->dR (wh.take (k+1)) xs=T):=λh=>RJ d t.o h;have z:=b.size;generalize E wh k lz=cl at*;have G:=dN wr (EP #[cl.val] 73);have g:=b.trans (G.mono z);have a:=FI cl ao cap xs _ (Qo g L.o) (m.below g) n;have p:=NA cl.cs xs;have Q:=zB cl.cs xs;have q:=Zh g;obtain⟨ad,cp,cs⟩:=cl;unfold aB.val at*;simp only at*;generalize mJ cs xs=Mz at*;clear r m n G g;by_cases u:Mz=2
   .have A:l7 cs xs=true:=by rw[<-p,u];rfl
    subst u;go_wp2_with fail;refine a.mono ?_;rintro e S ⟨rfl,f⟩;have j:=Zh (q.o.trans (f.mono (by simp;omega)));clear f a b l;go_wp2;go_roundw
    case rel=>exact⟨k+1,by omega,by go_num,y.o A,j.o⟩
    case measure=>simp[intOf];omega
   .have A:l7 cs xs=false:=by rw[<-p];simp[u]
    have R:(Mz != 2)=true:=by simpa using u
    go_wp2_with fail;refine a.mono ?_;rintro e S ⟨rfl,f⟩;have j:=Zh (q.o.trans (f.mono (by simp;omega)));clear f a b l;go_wp2;go_ret;exact⟨Qd (v.o A),j.o⟩
  .have B:k=N wh:=by omega
   subst B;rw[QX]at t;have C:=Zh t.o.symm;clear t;go_wp2;go_ret;exact⟨Qd C.o,b⟩
def aeX(q:af)(bq:Nat)(ao:Option Addr)(cap:Nat)(xs:List Int)(w:U)(hc:UK w (aD bq 1)=O (Z q.gI (N q.wh) q.bP))(hx:IntsAt w ao xs)(hq:dJ w q.gI q.wh)
  (hcs:∀i,i<N q.wh->∀k,k<(E q.wh i lz).cs.length->fV ((E q.wh i lz).cs.getD k cz) (N xs)=T) :
  Cb 50 #[Z ao (N xs) cap,Y (O (aD bq 0))] w (Wl (dR q.wh xs)):=by have a:=L9 q.gI q.bP q.wh ao cap xs w hx hq hcs;go_enter Tryz.func50,Tryz.ntmps50;go_wp2_with fail;refine a.mono ?_;rintro e d ⟨rfl,b⟩;go_wp2;go_ret;exact⟨rfl,b⟩
section
open Go.Maps Go.WideMaps
def kX.mono{P:Program}{tk te:TypeId}{nk bm n m:Nat}{ks:List (List Int)}{A:U}(h:kX P tk te nk bm n ks A)(hn:n<=m):kX P tk te nk bm m ks A:=by obtain⟨D,a,b⟩:=h;exact⟨D,a.mono hn,b⟩
def V5(b:Nat):bM bg v (gs.modify i (fI.bump row sc)) b↔bM bg v gs b:=by
 unfold bM;refine or_congr QJ (or_congr QJ ⟨?_,?_⟩)
 .rintro⟨x,e,a⟩;obtain⟨j,d,rfl⟩:=Qq e;rw[XH]at d;refine⟨gs[j],Zv d,?_⟩;rw[Xz]at a;split at a
  .exact a
  .exact a
 .rintro⟨x,e,a⟩;obtain⟨j,d,rfl⟩:=Qq e;refine⟨(gs.modify i (fI.bump row sc))[j]'(by rw[XH];exact d),Zv _,?_⟩;rw[Xz];split
  .exact a
  .exact a
def GI.afb{P:Program}{sc:ae}{Yq W':U}
  (hgr:ou tg ti tp (N sc.xs) (M (H w)+5) (M (H w)+2) gs Yq v) (hmap:kX P tk ti (N kc.xs) (M (H w)+3) (N pre+2) (gs.map (·.k.xs)) Yq) (hsum:∀g∈gs,xu g/\g.cnt<=N pre)
  (hbk:UK Yq (aD (M (H w)) 0)=O kc.val) (hbs:UK Yq (aD (M (H w)+1) 0)=O sc.val) (hbn:UK Yq (aD (M (H w)+4) 0)=O (.map (O (M (H w)+3)))) (hbel:Bw w Yq)
  (hi:i<N gs) (aau:(gs.modify i (fI.bump x.xs sc.xs)).map fI.gr=(pre++[x]).foldl (λa x=>stepG kc.xs sc.xs a x.xs) (cO kc.xs sc.xs)) (hsm:∀v∈x.xs,bW v)
  (hg:W'.heap[gs[i].gb]? = O (EP #[gs[i].k.val,I J (gs[i].cnt+1:Nat),Z (O (aD (gs[i].sb) 0)) (N sc.xs) (N sc.xs)] tg)) (hs:W'.heap[gs[i].sb]? = O (EP ((gH gs[i].ss x.xs sc.xs).map (Value.int J)).toArray ti))
  (hk:Kept (λb=>b≠gs[i].gb/\b≠gs[i].sb) Yq W') :
  GI P tg ti tp tk kc sc w (pre++[x]) (gs.modify i (fI.bump x.xs sc.xs)) (λb=>bM (M (H w)+2) v gs b∨b=M (H w)+3) W' v:=by
 have f:=Zv hi;have d:∀b,b<M (H w)+5->b≠gs[i].gb/\b≠gs[i].sb:=λb r=>by have l:=(hgr.off _ f gs[i].gb (.inl rfl)).1;have p:=(hgr.off _ f gs[i].sb (.inr (.inl rfl))).1;omega
 have q:N (gH gs[i].ss x.xs sc.xs)=N sc.xs:=kH (hgr.at' _ f).len;refine⟨aau,hgr.bump hi x.xs sc.xs q hg hs hk,?_,?_,Q0 hbk hk (d _ (by show M (H w)<_;omega)),Q0 hbs hk (d _ (by show M (H w)+1<_;omega)),Q0 hbn hk (d _ (by show M (H w)+4<_;omega)),hbel.trans (hk.below hbel.size (λb r=>d b (by omega))),λb=>?_⟩
 .have e:(gs.modify i (fI.bump x.xs sc.xs)).map (·.k.xs)=gs.map (·.k.xs):=by apply Xx (by simp);intro j l p;rw[Xy,Xy,Xz];split <;> rfl
  rw[e,Zn,Xc];exact hmap.keep (hk.block _ hmap.lt (d _ (by omega)))
 .intro g m;obtain⟨j,n,rfl⟩:=Qq m;rw[XH]at n;rw[Xz,Zn,Xc];have l:=hsum _ (Zv n);split
  .exact⟨Ah l.1 hsm,by show gs[j].cnt+1<=_;omega⟩
  .exact⟨l.1,by omega⟩
 .show _↔_
  rw[V5]
theorem Co(kc sc:List Int):∀(pre:List ae) (a:List Gr),N (pre.foldl (λa x=>stepG kc sc a x.xs) a)<=N a+N pre
 |[],a=>by simp
 |x::l,a=>by
  rw[ZF];have h:=Co kc sc l (stepG kc sc a x.xs);have h1:N (stepG kc sc a x.xs)<=N a+1:=by unfold stepG;grind
  rw[QO];omega
theorem GI.len{P:Program}{sc:ae}{o1:Nat->Prop}{A:U}(h:GI P tg ti tp tk kc sc w pre gs o1 A v):N gs<=N pre+1:=by
 have a:=congrArg N h.fold;rw[Zm]at a;have b:=Co kc.xs sc.xs pre (cO kc.xs sc.xs);have d:N (cO kc.xs sc.xs)<=1:=by unfold cO;split <;> simp
 omega
def aqx{A:U}(h:ou tg ti tp n base bg gs A v)(hx:∀b,aj.blk x=O b->¬bM bg v gs b)(hi:i<N gs):∀a,x.ad=O a->a.block≠gs[i].gb/\a.block≠gs[i].sb:=by
 intro a f;have d:aj.blk x=O a.block:=by show x.ad.map _=_;rw[f];rfl
 exact⟨λe=>hx _ d (.inr (.inr ⟨gs[i],Zv hi,.inl e⟩)),λe=>hx _ d (.inr (.inr ⟨gs[i],Zv hi,.inr (.inl e)⟩))⟩
theorem Mf(w Yq:U)(gs:List fI)(v:X3)(sc x:ae)(hgr:ou 239 3 212 (N sc.xs) (M (H w)+5) (M (H w)+2) gs Yq v)(hbel:Bw w Yq)(hsc:sc.At w)(hsl:N sc.xs<=4)(hx:aj.At x Yq)(hxo:∀b,aj.blk x=O b->¬bM (M (H w)+2) v gs b)
  (hsum:∀g∈gs,xu g/\g.cnt<=1000000) (hsm:∀v∈x.xs,bW v) (hin:aS sc.xs (N x.xs)=T) (hi:i<N gs) :
  Calls V 176 #[Y (O (aD (gs[i].gb) 0)),x.val,sc.val] Yq.drew λe f=>(∃u,e=FN u)/\
   f.heap[gs[i].gb]? = O (EP #[gs[i].k.val,I J (gs[i].cnt+1:Nat),Z (O (aD (gs[i].sb) 0)) (N sc.xs) (N sc.xs)] 239)/\f.heap[gs[i].sb]? = O (EP ((gH gs[i].ss x.xs sc.xs).map (Value.int J)).toArray 3)/\
   Kept (λb=>b≠gs[i].gb/\b≠gs[i].sb) Yq f/\M (H f)=M (H Yq):=by
 have d:=Zv hi;have j:=hgr.at' _ d;have l:sc.At Yq:=Qo hbel hsc;have m:∀s,Kept s Yq Yq.drew:=λs=>⟨rfl,rfl,rfl,Qn _,λ_ _ _=>rfl⟩;have h:=qO gs[i].gb gs[i].sb gs[i].k.val gs[i].cnt gs[i].ss x sc Yq.drew j.ne j.cells j.sums j.len hsl hx.1 l (aqx hgr hxo hi) (λq a r=>by
  obtain⟨b,off,e,y⟩:=hsc.get q;rw[e]at r;cases r;have t:=QK (y 0 q);have n:=(hgr.off _ d gs[i].gb (.inl rfl)).1;have p:=(hgr.off _ d gs[i].sb (.inr (.inl rfl))).1;grind) hin (hsum _ d).2 (yB (hsum _ d).1 (hsum _ d).2) (λu C=>by have:=hsm u C;unfold bW at this;unfold Ka;omega)
 refine h.mono ?_;rintro e f ⟨n,p,z,A,B⟩;exact⟨n,p,z,(m _).trans A,B⟩
end
def Ih(db:List aP)(t:Int):N (fu db t)=(E db t.toNat rz).rs.length:=by simp[fu]
def V8(hrow:∀t,∀r∈fu db t,N r<=100)(hl:N src<=5):∀a∈bz src db,N a<=1000:=by
 have f:∀(ts:List (List (List Int))) (t:List (List Int)) (m:Nat),(∀a∈t,N a<=m)->(∀x∈ts,∀a∈x,N a<=100)->∀a∈ts.foldl dz t,N a<=m+100*N ts:=by
  intro ts
  induction ts with
  |nil=>intro t m h _ a d;have:=h a d;simpa using this
  |cons x ts ih =>
   intro t m h e a d;have:=ih (dz t x) (m+100) (aeY h (e x (by simp))) (λy g=>e y (by simp[g])) a d;rw[QO];omega
 intro a d;unfold bz at d
 cases src with
 |nil=>simp[qN]at d
 |cons b l =>
  have:=f (l.map (fu db)) (fu db b) 100 (hrow b) (λx e a d=>by
   obtain⟨t,_,rfl⟩:=ZC.1 e;exact hrow t a d) a d
  rw[Zm]at this;rw[QO]at hl;omega
def Ec(s:ae)(d:Option Addr)(sJ:Nat)(db:List aP)(w:U)(hs:s.At w)(mX:uG w d db)(h1:0<N s.xs)(h5:N s.xs<=5)(hcp:N s.xs<=s.cap)(ha:aS s.xs (N db)=T)
  (hrow:∀t,∀r∈fu db t,N r<=100) (hlen:∀t,N (fu db t)<=1000000) :
  Calls V 49 #[s.val,Z d (N db) sJ] w λe z=>∃v,e=FN v/\dh aj V v (bz s.xs db) z/\Bw w z:=by
 obtain⟨xe,lS,src⟩:=s;unfold ae.val;simp only at*;have HS:Y3 _:=hs;have HD:Y3 _:=mX;obtain⟨HA,PE,aA⟩:=dQ ha hrow hlen;clear hs mX ha hrow hlen;have aG:=Ql HA.o h1;obtain⟨b1,o1,rfl,G⟩:=HS.o.get h1;have NG:=G 0 h1;have g:src[0].toNat<N db:=by omega
 obtain⟨b2,o2,rfl,K⟩:=HD.o.1.2.1.get g;have R:=K _ g;have e1:E src 0 0=src[0]:=by simp[List.getD,h1]
 rw[e1,Xb]at NG;have q:=Ma (E db src[0].toNat rz) w (HD.o.2 _ g);have A:bz (src.take 1) db=fu db src[0]:=by
  cases src with
  |nil=>simp at h1
  |cons a l=>simp[bz,qN]
 have aH:=Zh A;have m:Calls V 87 #[(E db src[0].toNat rz).val] w λe z=>∃v,e=FN v/\dh aj V v (fu db src[0]) z/\Bw w z:=q;rw[<-A]at m;have Pb:=Zh K;have ak:Y3 (∀j,j<N src->UK w (aD b1 (o1+j))=O (I J (E src j 0))):=G;clear q A e1 G K;generalize E db src[0].toNat rz=x at*;obtain⟨iZ,bL,xs⟩:=x;unfold aP.val at*;simp only at*;generalize b:src[0]=s0 at*;clear b;obtain⟨cn,rfl⟩:∃cn:Nat,s0=(cn:Int):=⟨s0.toNat,by omega⟩;simp only[Xk]at g R;by_cases aF:N src=1
 .have au:src.take 1=src:=by rw[Xi (by omega)]
  rw[au]at m;have av:N src-1=0:=by omega
  go_enter Tryz.func49,Tryz.ntmps49;go_wp2_with fail;refine m.mono ?_;rintro e w2 ⟨v,rfl,b,L⟩;have B:Y3 _:=b;obtain⟨g0,ag,rfl,_,_⟩:=b;go_wp2
  all_goals
   go_loopw [5,18] (λv i wr=>i=I J 0/\v=.func (.func g0) #[] ag/\w2=wr) (λ_ _ _=>0)
   case atStart=>exact⟨rfl,rfl,rfl⟩
   case round=>
    obtain⟨rfl,rfl,rfl⟩:=hrel;go_wp2;go_ret;exact⟨_,rfl,B.o,L⟩
 .have h2:2<=N src:=by omega
  have aI:2<=lS:=by omega
  go_enter Tryz.func49,Tryz.ntmps49;go_wp2_with fail;refine m.mono ?_;rintro e w2 ⟨v,rfl,b,L⟩;have B:Y3 _:=b;obtain⟨g0,ag,rfl,_,_⟩:=id b;go_wp2;go_loopw [5,18] (λv i wr=>∃k:Nat,k+1<=N src/\i=I J k/\dh aj V v (bz (src.take (k+1)) db) wr/\Bw w wr) (λ_ i _=>N src-(intOf i).toNat)
  case atStart=>exact⟨0,by omega,rfl,B.o,L⟩
  case round=>
   obtain⟨k,hk,rfl,ah,f⟩:=hrel;obtain⟨gk,aB,rfl,aK,aL⟩:=id ah;have C:Y3 _:=ah;by_cases p:k+1<N src
   .have hr:=Ql HA.o p;have D:=cB f (ak.o _ p);have hj:src[k+1].toNat<N db:=by omega
    have S:=cB f (Pb.o _ hj);have e2:E src (k+1) 0=src[k+1]:=by simp[List.getD,p]
    rw[e2]at D;have W:=Ma (E db src[k+1].toNat rz) wr ((HD.o.2 _ hj).below f);have X:Calls V 87 #[(E db src[k+1].toNat rz).val] wr λe z=>∃v,e=FN v/\dh aj V v (fu db src[k+1]) z/\Bw wr z:=W;have FJ:=Zh (BB (db:=db) p);have ax:∀a∈bz (src.take (k+1)) db,N a<=1000:=λa ha=>V8 PE.o (by rw[Xu];omega) a ha;have NJ:=Zh ax;have HT:Y3 (∀a∈fu db src[k+1],N a<=1000):=λa ha=>by have:=PE.o _ a ha;omega
    have ay:Y3 (N (fu db src[k+1])<=1000000):=aA.o _;have u:o1+1+k=o1+(k+1):=by omega
    rw[<-u]at D;generalize fu db src[k+1]=Tq at*;generalize E db src[k+1].toNat rz=y at*;obtain⟨wC,kN,ys⟩:=y;unfold aP.val at*;simp only at*;generalize b:src[k+1]=s1 at*;clear b u;obtain⟨cm,rfl⟩:∃cm:Nat,s1=(cm:Int):=⟨s1.toNat,by omega⟩;simp only[Xk]at hj S;have aC:k<N src-1:=by omega
    go_wp2_with fail;refine X.mono ?_;rintro e w3 ⟨v3,rfl,P,n⟩;have aa:=ab8 (.func (.func gk) #[] aB) v3 _ Tq w3 (dh.later C.o n) P ay.o NJ.o HT.o;obtain⟨g3,aM,rfl,_,_⟩:=id P;clear P;go_wp2_with fail;refine aa.mono ?_;rintro e w4 ⟨v4,rfl,Q,ai⟩;have az:Y3 _:=Q;have oJ:=Zh (f.trans ((n.mono f.size).trans (ai.mono (Qz f.size n.size))));obtain⟨g4,aN,rfl,_,_⟩:=id Q;clear Q n ai aa X D S;go_wp2;go_roundw
    case rel=>exact⟨k+1,by omega,by go_num,by rw[FJ.o];exact az.o,oJ.o⟩
    case measure=>simp[intOf];omega
   .have af:src.take (k+1)=src:=Xi (by omega);rw[af]at C;have aJ:¬k<N src-1:=by omega
    clear af;go_wp2;go_ret;exact⟨_,rfl,C.o,f⟩
def Kn(g:Nat)(lb:Array X3)(ao:Option Addr)(cap:Nat)(w:U) :
  Ce 52 #[.func (.func g) #[] lb,Z ao 0 cap] w (.func (.func g) #[] lb):=by go_enter Tryz.func52,Tryz.ntmps52;go_wp2;go_ret;exact⟨rfl,rfl⟩
theorem acC(s:ae)(d:Option Addr)(sJ:Nat)(db:List aP)(ts:List ah)(w:U)(hs:s.At w)(mX:U2 w d db)(ha:aS s.xs (N db)=T)(hl:N s.xs<=5)(hB:zC ts db=T) :
  Ce 47 #[s.val,Z d (N db) sJ] w (I J (gL s.xs db)):=by
 obtain⟨P,Q,src⟩:=s;unfold ae.val;simp only at*;have A:Y3 _:=hs;have B:Y3 _:=mX;obtain⟨G,u⟩:=aJ ha hB;clear hs mX ha hB;go_enter Tryz.func47,Tryz.ntmps47;go_wp2;go_loopw [5,10] (λp i wr=>∃k:Nat,k<=N src/\i=I J k/\p=I J (gL (src.take k) db)/\w=wr) (λ_ i _=>N src-(intOf i).toNat)
 case atStart=>exact⟨0,QW _,rfl,rfl,rfl⟩
 case round=>
  obtain⟨k,R,rfl,rfl,rfl⟩:=hrel;by_cases a:k<N src
  .have L:=Ql G.o a;obtain⟨S,W,rfl,e⟩:=A.o.get a;have g:=e k a;have j:src[k].toNat<N db:=by omega
   obtain⟨X,o2,rfl,f⟩:=B.o.2.1.get j;have l:=f _ j;have C:=zD u.o hl k;have m:=zD u.o hl (k+1);have D:=NB u.o src[k].toNat;rw[GN a]at m;have n:=Zh (GN (db:=db) a);have v:E src k 0=src[k]:=by simp[List.getD,a]
   rw[v]at g;generalize E db src[k].toNat rz=x at*;generalize gL (src.take k) db=p at*;generalize K:src[k]=ck at*;clear v e f K;obtain⟨z,rfl⟩:∃z:Nat,ck=(z:Int):=⟨ck.toNat,by omega⟩;simp only[Xk]at j l;obtain⟨iZ,bL,xs⟩:=x;unfold aP.val at*;simp only at*;have b:((max 1 (N xs):Nat):Int)=if (1:Int)<(N xs:Int) then (N xs:Int) else 1:=by split <;> omega
   have y:wrap64 ((p:Int)*(if (1:Int)<(N xs:Int) then (N xs:Int) else 1))=((p*max 1 (N xs):Nat):Int):=by rw[<-b,<-Int.natCast_mul];unfold wrap64;omega
   have q:=Zh y;have r:Y3 (wrap64 ((p:Int)*max 1 (N xs:Int))=((p*max 1 (N xs):Nat):Int)):=by grind
   clear y b;go_wp2;go_roundw
   case rel=>exact⟨k+1,by omega,by go_num,by rw[n.o];first|exact congrArg (Value.int J) q.o|exact congrArg (Value.int J) r.o,trivial⟩
   case measure=>simp[intOf];omega
  .have t:k=N src:=by omega
   subst t;rw[QX];go_wp2;go_ret;exact⟨rfl,rfl⟩
structure aam(ts:List ah)(q:af):Prop where
 bE:aS q.bE.xs (ak ts q.src.xs)=T
 keys:aS q.keys.xs (ak ts q.src.xs)=T
 sums:aS q.sums.xs (ak ts q.src.xs)=T
def abO{v:dX}(hs:aY (N q.src.xs) v.sources)(hd:v.sources.Nodup)(hw:qB q v=T):∀k,k<N q.src.xs->(k:Int)∈v.sources:=λk e=>by unfold qB at hw;rw[Qj,ZW]at hw;have b:=(yn hs hd).2 hw.1;have d:=ZG (l:=v.sources) (λx a=>(hs x a).1) k;simp_all
def gM.every(ok:Ok ts q){v:dX}{Fq:List (List Int) × List Int}{ref:List (List Int)}(h:gM ts q db v Fq ref)(hw:qB q v=T)(hc:aS cs (ak ts q.src.xs)=T):∀c∈cs,c∈Fq.2:=λc b=>by unfold aS at hc;rw[Qk]at hc;have a:=hc c b;simp only[Qj,ZW]at a;have d:=yE ok;exact(h.cols c).2 ⟨a.1,by omega,abO h.gB h.nK hw _ (ZQ ok.cat ok.src a.1 a.2).1⟩
theorem Ho{C:List Int}(hn:N C=n)(h:∀c∈cs,c∈C):aS (aK C cs) (n:Int)=true:=by grind [aS,aK,bA]
theorem aeN{ts:List ah}{q:af}(ok:Ok ts q)(oo:aam ts q)(plan:List ai){db:List aP}(mX:zC ts db=T)(Hr:gL q.src.xs db<=20000):∀(f i:Nat) (v:dX),i<f->dw ts q plan i=O v->v.out=T->
  nC ts q plan db f i=gJ ts q plan db f i
 |0,_,_,h,_,_=>by omega
 |f+1,i,v,hi,hv,hout=>by
  rcases iV ts q plan hv with⟨m,h0,hs,A,B,t⟩|⟨k2,k10,k3,k4,k5,hl0,Kg,l,hl,hn⟩|⟨k3,k5,hl0,Kg,hr0,hri,l,r,hl,D,hn⟩
  .simp_all
  .obtain⟨_,t,_,z,g,A,B,j,_⟩:=XM ts q hn;rw[hout]at j;have K:7<=(E plan i nz).kind:=Xa j.symm;by_cases m:(E plan i nz).kind=10
   .have L:=aeN ok oo plan mX Hr f (E plan i nz).l.toNat l (by omega) hl (t.2 m);unfold nC gJ
    simp_all
   .have e:l.out=false:=by simp_all
    have a:=jQ ok plan mX f (E plan i nz).l.toNat l (by omega) hl e;unfold oF at g;have d:qB q l=true:=by grind
    conv=>lhs;unfold nC;rw[ZU m]
    conv=>rhs;unfold gJ;rw[ZU (by omega),ZU (by omega)]
    generalize bI ts q plan db f (E plan i nz).l.toNat=Fq at a ⊢;generalize gJ ts q plan db f (E plan i nz).l.toNat=G at a ⊢;by_cases p:(E plan i nz).kind=9
    .rw[Zt p,ZU (by omega),Zt p,a.same,Z9];refine Xw λr _=>?_
     exact(yA λc b=>a.inC (a.every ok d oo.bE c b)).symm
    .rw[ZU p,Zt (by omega),a.same,Rj (λc b=>a.inC (a.every ok d oo.keys c b)) (λc b=>a.inC (a.every ok d oo.sums c b))];refine GZ ?_ ?_
     .have u:=BO (cnt:=BQ q.src.xs db) (n:=N q.src.xs) (λk=>by unfold BQ;omega) l.sources;rw[<-BS]at u;have:=a.many;omega
     .intro r D c b;unfold aK at b;obtain⟨x,C,rfl⟩:=ZC.1 b;have y:=XD.2 (a.every ok d oo.sums x C)
      grind [okV,gM.aA]
  .obtain⟨_,_,_,_,_,_,_,j,_⟩:=XM ts q hn
   grind
theorem LU{α β:Type}(f g:α->List β):∀l:List α,(l.flatMap f++l.flatMap g).Perm (l.flatMap λx=>f x++g x)
 |[]=>List.Perm.refl _
 |x::l=>by rw[Xr,Xr,Xr];refine List.Perm.trans ?_ (List.Perm.append_left (f x++g x) (LU f g l));grind [List.Perm.append_left,List.Perm.append_right,List.perm_append_comm]
def LV{α β γ:Type}(Fq:α->β->List γ)(m:List β):∀l:List α,(l.flatMap λx=>m.flatMap λy=>Fq x y).Perm (m.flatMap λy=>l.flatMap λx=>Fq x y)
 |[]=>by simp
 |x::l=>by rw[Xr];refine(List.Perm.append_left _ (LV Fq m l)).trans ?_;refine(LU (λy=>Fq x y) (λy=>l.flatMap λz=>Fq z y) m).trans ?_;rfl
def rV{α β:Type}{f g:α->List β}:∀{l:List α},(∀x∈l,(f x).Perm (g x))->(l.flatMap f).Perm (l.flatMap g)
 |[],_=>List.Perm.refl _
 |x::l,h=>by rw[Xr,Xr];exact List.Perm.append (h x (by simp)) (rV λy hy=>h y (by simp[hy]))
def NN{α β:Type}{f g:α->List β}:∀{l:List α},(∀x∈l,f x=g x)->l.flatMap f=l.flatMap g
 |[],_=>rfl
 |x::l,h=>by rw[Xr,Xr,h x (by simp),NN λy hy=>h y (by simp[hy])]
theorem aeO{α:Type}{f g:α->Bool}:∀{l:List α},(∀x∈l,f x=g x)->l.any f=l.any g
 |[],_=>rfl
 |x::l,h=>by grind
def abP{β:Type}{f:α->List β}{l m:List α}(h:l.Perm m):(l.flatMap f).Perm (m.flatMap f):=List.Perm.flatMap_right f h
def rW(n:Nat)(cs r x:List Int):List Int:=(List.range n).map λ(c:Nat)=>if (c:Int)∈cs then E r (cs.idxOf (c:Int)) 0 else E x c 0
def oP(n:Nat)(cs r x:List Int):N (rW n cs r x)=n:=by simp[rW]
theorem uE(h:c<n)(cs r x:List Int):E (rW n cs r x) c 0=if (c:Int)∈cs then E r (cs.idxOf (c:Int)) 0 else E x c 0:=by grind [rW]
theorem Gc{a b:List Int}(ha:N a=n)(hb:N b=n)(h:∀c,c<n->E a c 0=E b c 0):a=b:=by grind [List.ext_getElem]
theorem abQ{A B a b x:List Int}(hd:∀c∈A,c ∉ B):rW n A a (rW n B b x)=rW n B b (rW n A a x):=by refine Gc (oP ..) (oP ..) λc d=>?_;grind [uE]
section
variable (ts:List ah) (q:af) (db:List aP)
def mG:List Int->List (List Int)
 |[]=>[List.replicate (ak ts q.src.xs).toNat 0]
 |s::S=>(fu db (E q.src.xs s.toNat 0)).flatMap λr=>(mG S).map (rW (ak ts q.src.xs).toNat (fw ts q.src.xs s) r)
theorem VK{Tq:List Int}(h:S.Perm Tq):(mG ts q db S).Perm (mG ts q db Tq):=by
 induction h with
 |nil=>rfl
 |cons s _ ih =>
  unfold mG;exact rV λr _=>ih.map _
 |swap a b S =>
  by_cases d:a=b
  .simp_all
  .have key:∀x y:Int,x≠y->mG ts q db (x::y::S)=(fu db (E q.src.xs x.toNat 0)).flatMap λr=>(fu db (E q.src.xs y.toNat 0)).flatMap λe=>(mG ts q db S).map λz=>rW (ak ts q.src.xs).toNat (fw ts q.src.xs x) r (rW (ak ts q.src.xs).toNat (fw ts q.src.xs y) e z):=λx y _=>by show (fu db _).flatMap _=_;congr 1;funext r;show List.map _ ((fu db _).flatMap _)=_;rw[List.map_flatMap];congr 1;funext e;simp_all
   rw[key b a (Ne.symm d),key a b d];refine(LV _ _ _).trans ?_;refine rV λr _=>rV λe _=>?_;refine List.Perm.of_eq (Xw λz _=>?_);exact abQ λc g f=>d ((rU.1 f).2.2.symm.trans (rU.1 g).2.2)
 |trans _ _ h1 h2=>grind
def yF:∀{S:List Int} {x:List Int},x∈mG ts q db S->N x=(ak ts q.src.xs).toNat/\∀c:Nat,c<(ak ts q.src.xs).toNat->((aC ts q.src.xs (c:Int):Nat):Int) ∉ S->E x c 0=0
 |[],x,h=>by unfold mG at h;simp_all
 |s::S,x,h=>by unfold mG at h;obtain⟨r,_,hx⟩:=Z6.1 h;obtain⟨y,hy,rfl⟩:=ZC.1 hx;obtain⟨_,h2⟩:=yF hy;refine⟨oP ..,λc hc hn=>?_⟩;rw[uE hc,ZU (λhm=>hn (by rw[(rU.1 hm).2.2];simp))];simp_all
theorem ru{a b:List Int}(h:c<N a):E (qd ts src a b S) c 0=if ((aC ts src (c:Int):Nat):Int)∈S then E b c 0 else E a c 0:=by grind [qd]
def D5(src a b S:List Int):N (qd ts src a b S)=N a:=by simp[qd]
def D6{B:List Int}:∀{A:List Int},(∀s∈A,s ∉ B)->mG ts q db (A++B)=(mG ts q db A).flatMap λa=>(mG ts q db B).map λb=>qd ts q.src.xs a b B
 |[],_=>by show mG ts q db B=List.flatMap _ [_];rw[Xr,List.flatMap_nil,Xd];refine(List.map_id _).symm.trans (Xw λb hb=>?_);obtain⟨h1,h2⟩:=yF ts q db hb;refine Gc (n:=(ak ts q.src.xs).toNat) h1 (by rw[D5];simp) λc hc=>?_;rw[ru ts (by simp_all)];simp_all
 |s::A,hd=>by
  have ih:=D6 (B:=B) (A:=A) λx hx=>hd x (by simp[hx]);show (fu db _).flatMap _=((fu db _).flatMap _).flatMap _;rw[List.flatMap_assoc];congr 1;funext r;show List.map _ (mG ts q db (A++B))=_;rw[ih,List.map_flatMap,List.flatMap_map];refine NN λa ha=>?_;rw[Z9];refine Xw λb _=>?_;have hal:=(yF ts q db ha).1;refine Gc (oP ..) (by rw[D5,oP]) λc hc=>?_;show E (rW _ _ r (qd ts q.src.xs a b B)) c 0=_;rw[uE hc,ru ts (by omega),ru ts (by rw[oP];exact hc),uE hc];by_cases h1:(c:Int)∈fw ts q.src.xs s
  .rw[Zt h1,ZU (by rw[(rU.1 h1).2.2];simp_all),Zt h1]
  simp_all
end
theorem Rv{c:aI}{x y:List Int}(h:∀k∈aH c,E x k.toNat 0=E y k.toNat 0):il c x=il c y:=by unfold aH at h;unfold il;grind
theorem Ht{is x y:List Int}(h:∀i∈is,∀k∈aN (E ls i.toNat lz).cs,E x k.toNat 0=E y k.toNat 0):mq ls is x=mq ls is y:=by
 have a:∀{cs:List aI},(∀k∈aN cs,E x k.toNat 0=E y k.toNat 0)->l7 cs x=l7 cs y:=λ{cs} hk=>by grind [l7,aeO,Rv,aN]
 unfold mq;grind
def D7(ls:List aB)(a b x:List Int):mq ls (bK a b) x=(mq ls a x&&mq ls b x):=by unfold mq;rw[ZV,Qj,Qk,Qk,Qk];exact⟨λh=>⟨λi d=>h i (ZT.2 (.inl d)),λi d=>h i (ZT.2 (.inr d))⟩,λh i d=>(ZT.1 d).elim (h.1 i) (h.2 i)⟩
def LW:∀{m l:List Int},m.Nodup->(∀x∈m,x ∉ l)->bK l m=l++m
 |[],l,_,_=>(Xd l).symm
 |a::m,l,hd,h=>by
  obtain⟨h1,h2⟩:=List.nodup_cons.1 hd;rw[rJ,ZU (h a (by simp)),LW h2 λx hx hm=>?_,ZE]
  .rfl
  simp_all
theorem yG(n:Nat)(C r:List Int):eH n C r=rW n C r (List.replicate n 0):=by grind [eH,rW]
theorem BV{α γ:Type}{B:List α}(f:α->α->γ){p q:α->Bool}{k h:γ->Bool}:∀{A:List α},(∀a∈A,∀b∈B,k (f a b)=(p a&&q b&&h (f a b)))->(A.flatMap λa=>B.map (f a)).filter k=((A.filter p).flatMap λa=>(B.filter q).map (f a)).filter h
 |[],_=>rfl
 |a::A,Hq=>by
  have ih:=BV f (A:=A) λx hx=>Hq x (by simp[hx]);rw[Xr,QZ,ih];by_cases hp:p a=T
  .rw[XB hp,Xr,QZ]
   grind [List.filter_filter,List.filter_congr]
  simp_all
structure apW(ts:List ah)(q:af)(db:List aP)(v:dX)(ref:List (List Int)):Prop where
 perm:ref.Perm ((mG ts q db v.sources).filter (mq q.wh v.clauses))
 within:∀i∈v.clauses,(0<=i/\i<N q.wh)/\∀x∈aN (E q.wh i.toNat lz).cs,0<=x/\x<(ak ts q.src.xs).toNat/\((aC ts q.src.xs x:Nat):Int)∈v.sources
 nodup:v.clauses.Nodup
theorem yH{ts:List ah}{q:af}(ok:Ok ts q)(plan:List ai){db:List aP}(mX:zC ts db=T):∀(f i:Nat) (v:dX),i<f->dw ts q plan i=O v->v.out=F->apW ts q db v (gJ ts q plan db f i)
 |0,_,_,h,_,_=>by omega
 |f+1,i,v,hi,hv,hout=>by
  have hp:iR (E plan i nz)=true:=by grind [yt]
  rcases iV ts q plan hv with⟨hk,h0,hs,es,eo,_⟩|⟨k2,k10,k3,k4,k5,hl0,Kg,l,hl,hn⟩|⟨k3,k5,hl0,Kg,hr0,hri,l,r,hl,hr,hn⟩
  .obtain⟨s,hse⟩:∃s:Nat,(E plan i nz).source=(s:Int):=⟨_,(ZX h0).symm⟩
   have hsl:s<N q.src.xs:=by omega
   have ec:v.clauses=[]:=by rw[Ac ts q plan i rfl hp hk,ZU (by omega)]at hv;grind
   refine⟨?_,(by simp_all),by simp_all⟩;unfold gJ;rw[Zt hk,es,ec,hse,(List.filter_eq_self (p:=mq q.wh [])).2 λ_ _=>rfl];show List.Perm _ ((fu db _).flatMap λr=>[_]);rw[Xk,<-List.map_eq_flatMap];refine List.Perm.of_eq (Xw λr hr=>?_);rw[DZ ok.cat ok.src hsl (yC mX hr).1,yG]
  .obtain⟨_,ho,_,hls,hkb,es,eo,nD,ec⟩:=XM ts q hn;rw[Hm]at hls es;rw[hout]at nD;have h6:¬7<=(E plan i nz).kind:=λh=>by grind
   have hlo:l.out=false:=by grind
   have Hq:=yH ok plan mX f (E plan i nz).l.toNat l (by omega) hl hlo;have ec':v.clauses=bK l.clauses (E plan i nz).cl.xs:=ec;have hcl:=jH ok hls;refine⟨?_,?_,by rw[ec'];exact iF Hq.nodup⟩
   .rw[es,ec'];by_cases hk:(E plan i nz).kind=2
    .conv=>lhs;unfold gJ
     rw[ZU (by omega),ZU (by omega),ZU (by omega),ZU (by omega),ZU (by omega),Zt hk];refine(Hq.perm.filter _).trans ?_;rw[List.filter_filter];refine List.Perm.of_eq (XC λx _=>?_);rw[D7,Bool.and_comm]
    .have wN:(E plan i nz).kind=6:=by omega
     have hcl0:(E plan i nz).cl.xs=[]:=by unfold iR at hp;grind
     conv=>lhs;unfold gJ
     rw[ZU (by omega),Zt wN,hcl0,abd];exact(uX _ _).trans Hq.perm
   .rw[es,ec'];intro j hj;rcases ZT.1 hj with hj|hj
    .exact Hq.within j hj
    grind
  .obtain⟨hro,ho,hwl,hls,hkb,es,eo,nD,ec⟩:=XM ts q hn;have hlo:l.out=false:=by grind
   have HL:=yH ok plan mX f (E plan i nz).l.toNat l (by omega) hl hlo;have HR:=yH ok plan mX f (E plan i nz).r.toNat r (by omega) hr hro;have FR:=jQ ok plan mX f (E plan i nz).r.toNat r (by omega) hr hro;have VJ:=(yj FR.nK).1 hwl;have er:gJ ts q plan db (f+1) i=((gJ ts q plan db f (E plan i nz).l.toNat).flatMap λa=>(gJ ts q plan db f (E plan i nz).r.toNat).map λb=>qd ts q.src.xs a b r.sources).filter (mq q.wh (E plan i nz).cl.xs):=by
    conv=>lhs;unfold gJ
    grind
   have hcl:=jH ok hls;rw[er];generalize gJ ts q plan db f (E plan i nz).l.toNat=GL at HL;generalize gJ ts q plan db f (E plan i nz).r.toNat=GR at HR;refine⟨?_,?_,by rw[ec];exact iF (iF HL.nodup)⟩
   .rw[es,ec,LW FR.nK VJ,D6 ts q db λs hs hr=>VJ s hr hs];rw[BV (A:=mG ts q db l.sources) (B:=mG ts q db r.sources) (λa b=>qd ts q.src.xs a b r.sources) (p:=mq q.wh l.clauses) (q:=mq q.wh r.clauses) (h:=mq q.wh (E plan i nz).cl.xs)]
    .exact List.Perm.filter _ ((abP HL.perm).trans (rV (f:=λa=>GR.map λb=>qd ts q.src.xs a b r.sources) λa _=>HR.perm.map _))
    .intro a ha b hb;have hal:=(yF ts q db ha).1;rw[D7,D7];congr 2
     .refine Ht λj hj k hk=>?_
      have:=(HL.within j hj).2 k hk;rw[ru ts (by omega),show ((k.toNat:Nat):Int)=k by omega,ZU (λh=>VJ _ h this.2.2)]
     .refine Ht λj hj k hk=>?_
      have:=(HR.within j hj).2 k hk;rw[ru ts (by omega),show ((k.toNat:Nat):Int)=k by omega,Zt this.2.2]
   .rw[es,ec];intro j hj;rcases ZT.1 hj with hj|hj
    .rcases ZT.1 hj with hj|hj
     .have:=HL.within j hj;exact⟨this.1,λx hx=>⟨(this.2 x hx).1,(this.2 x hx).2.1,ZT.2 (.inl (this.2 x hx).2.2)⟩⟩
     .have:=HR.within j hj;exact⟨this.1,λx hx=>⟨(this.2 x hx).1,(this.2 x hx).2.1,ZT.2 (.inr (this.2 x hx).2.2)⟩⟩
    grind
theorem aeP(hs:aY n l)(hd:l.Nodup)(hl:N l=n):∀k,k<n->(k:Int)∈l:=λk e=>by have b:=(yn hs hd).2 hl;have d:=ZG (l:=l) (λx a=>(hs x a).1) k;simp_all
theorem VL(hs:aY n l)(hd:l.Nodup)(hl:N l=n):l.Perm ((List.range n).map λ(k:Nat)=>(k:Int)):=by
 refine(List.perm_ext_iff_of_nodup hd (List.Pairwise.map _ (λa b h=>by omega) List.nodup_range)).2 λx=>?_;rw[ZC];constructor
 .intro d;have:=hs x d;exact⟨x.toNat,ZZ.2 (by omega),by omega⟩
 grind [aeP]
def abR(hs:aY (N ls) l)(hd:l.Nodup)(hl:N l=N ls)(x:List Int):mq ls l x=dR ls x:=by
 unfold mq dR;rw[ZV,Qk,Qk];constructor
 .intro h c b;obtain⟨k,a,rfl⟩:=Qq b;have:=h k (aeP hs hd hl k a)
  simp_all
 .intro h i d;have:=hs i d
  simp_all
def NP(n:Nat)(x:List Int):List Int:=x++List.replicate (n-N x) 0
theorem Rw(n:Nat)(x:List Int)(c:Nat):E (NP n x) c 0=E x c 0:=by grind [NP]
theorem Rx(ok:Ok ts q)(mX:zC ts db=T):∀k,k<N q.src.xs->mG ts q db ((List.range (k+1)).map λ(k:Nat)=>(k:Int))=(bz (q.src.xs.take (k+1)) db).map (NP (ak ts q.src.xs).toNat)/\∀x∈bz (q.src.xs.take (k+1)) db,(N x:Int)=ak ts (q.src.xs.take (k+1)):=by
 have R:=yE ok;have f:∀k,k<N q.src.xs->mG ts q db [(k:Int)]=(fu db (E q.src.xs k 0)).map (Hl (ak ts q.src.xs).toNat (ak ts (q.src.xs.take k)).toNat):=λk d=>by show ((fu db _).flatMap λr=>[_])=_;rw[Xk,<-List.map_eq_flatMap];refine Xw λr p=>?_;rw[DZ ok.cat ok.src d (yC mX p).1,yG]
 have t:∀k,k<N q.src.xs->ak ts (q.src.xs.take (k+1))=ak ts (q.src.xs.take k)+(E ts (E q.src.xs k 0).toNat tz).cols/\0<=ak ts (q.src.xs.take k)/\ak ts (q.src.xs.take (k+1))<=ak ts q.src.xs:=λk d=>by
  have S:=ZO ok.cat ok.src k (by omega);have z:=ZO ok.cat ok.src (k+1) (by omega);have B:=pW ok.cat ok.src (show k+1<=N q.src.xs by omega) (Qn _);rw[QX]at B;rw[iE,Zn,Zm,ZP]at z;have C:=Ql ok.src (k:=k) d;have e:E q.src.xs k 0=q.src.xs[k]:=by simp_all
  have D:=nE ok.cat (i:=(q.src.xs[k]).toNat) (by omega);grind
 intro k
 induction k with
 |zero =>
  intro d;have G:bz (q.src.xs.take 1) db=fu db (E q.src.xs 0 0):=by
   cases e:q.src.xs with
   |nil=>simp_all
   |cons a l=>rfl
  have K:=t 0 d;rw[G];refine⟨?_,λx g=>?_⟩
  .show mG ts q db [((0:Nat):Int)]=_
   rw[f 0 d];rfl
  .have:=(yC mX g).1;have W:ak ts (q.src.xs.take 0)=0:=rfl;omega
 |succ k ih =>
  intro d;obtain⟨A,y⟩:=ih (by omega);have K:=t (k+1) d;have u:∀x∈bz (q.src.xs.take (k+1)) db,∀r∈fu db (E q.src.xs (k+1) 0),(N (x++r):Int)=ak ts (q.src.xs.take (k+1+1)):=λx g r p=>by have z:=y x g;have C:=(yC mX p).1;simp_all
  have L:bz (q.src.xs.take (k+1+1)) db=dz (bz (q.src.xs.take (k+1)) db) (fu db (E q.src.xs (k+1) 0)):=by rw[BB d];simp_all
  rw[L];refine⟨?_,λx g=>?_⟩
  .rw[ZM,Qi,XA,D6,A,f (k+1) d]
   .unfold dz;rw[List.flatMap_map,List.map_flatMap];refine NN λx g=>?_
    rw[Z9,Z9];refine Xw λr p=>?_;have z:=y x g;have C:=(yC mX p).1;have D:=u x g r p;rw[Zn]at D;show qd ts q.src.xs (NP _ x) (Hl _ _ r) [((k+1:Nat):Int)]=NP _ (x++r);refine Gc (n:=(ak ts q.src.xs).toNat) ?_ ?_ λc hc=>?_
    .rw[D5];unfold NP;simp;omega
    .unfold NP;simp;omega
    rw[ru ts (by unfold NP;simp;omega),Rw,Rw];have v:=Hg ok.cat ok.src (c:=(c:Int)) (by omega) (by omega) d;have P:(ak ts (q.src.xs.take (k+1))).toNat=N x:=by omega
    by_cases m:aC ts q.src.xs (c:Int)=k+1
    .rw[Zt (by rw[m];simp)];have:=v.1 m;unfold Hl;rw[P,ZE];simp only[List.getD];rw[Xj (by simp;omega),List.getElem?_append_left (by simp;omega),Xj (by omega),XF]
    .rw[ZU (λh=>m (by grind))];have X:¬(N x<=c/\c<N x+N r):=λh=>m (v.2 (by omega))
     by_cases Q:c<N x
     .grind
     simp_all
   .intro s m B;obtain⟨j,hj,rfl⟩:=ZC.1 m
    grind
  .obtain⟨a,ha,b,hb,rfl⟩:=yD.1 g
   grind
def abS(ok:Ok ts q)(mX:zC ts db=T)(hpos:0<N q.src.xs)(hs:aY (N q.src.xs) S)(hd:S.Nodup)(hl:N S=N q.src.xs):(mG ts q db S).Perm (bz q.src.xs db):=by refine(VK ts q db (VL hs hd hl)).trans (List.Perm.of_eq ?_);obtain⟨a,b⟩:=Rx ok mX (N q.src.xs-1) (by omega);rw[show N q.src.xs-1+1=N q.src.xs by omega,QX]at a b;rw[a];refine Eq.trans (Xw λx d=>?_) (List.map_id _);have:=b x d;unfold NP;simp_all
section
open Go.Maps Go.WideMaps
attribute [local go_sem] Oper.semAt_some
def Eb(gi:Nat)(ik:Array X3)(kc sc:ae)(rows:List (List Int))(w0 w:U)(hb0:Bw w0 w)(hseq:Seq aj V gi ik rows w0)(FZ:∀args w,(callFunc gi args).run V w=.ok (.enter gi args) w)
  (hkc:kc.At w) (hsc:sc.At w) (hkl:N kc.xs<=4) (hsl:N sc.xs<=4) (hlen:N rows<=1000000) (Cr:∀r∈rows,aS kc.xs (N r)=T) (Cs:∀r∈rows,aS sc.xs (N r)=T) (hsm:∀r∈rows,∀v∈r,bW v) :
  Calls V 140 #[.func (.func gi) #[] ik,kc.val,sc.val] w λe w'=>∃v d,e=FN v/\d.map fI.gr=dW kc.xs sc.xs rows/\ou 239 3 212 (N sc.xs) (M (H w)+5) (M (H w)+2) d w' v/\Bw w w':=by
 obtain⟨f1,f2,f3,f4,f5,f6,f7⟩:=VD w kc.val sc.val (N sc.xs) (N kc.xs);obtain⟨G,hV⟩:=eX (zH w kc.val sc.val);rw[hV]at f1 f2 f3 f4 f5 f6 f7;unfold zH at hV;obtain⟨HV,bG⟩:=aJ hV hb0;have dS:Y3 _:=hkc;have UR:Y3 _:=hsc;obtain⟨UT,zk,dn,eZ,dw,aB⟩:=MP hkl hsl hlen Cr Cs hsm;clear hV hb0 hkc hsc hkl hlen Cr Cs hsm;obtain⟨Ag,lT,Q⟩:=kc;obtain⟨xe,lS,y⟩:=sc;unfold ae.val at*;simp only at*;refine(QH (n:=0)).1 (Q3 Tryz.func140 rfl trivial ?_ rfl);simp only[Tryz.ntmps140,QN,QO,QP,Nat.reduceAdd,Nat.reduceSub,QQ,QR,QS,QT,QU,QV];have dU:=@run_makeMap V;gi_upto_region 3 with fail;rw[HV.o];simp only[X5,Nat.reduceAdd];by_cases aL:Q=[]
 case' pos=>
  have aY:Y3 (N Q=0):=by show _=_;rw[aL];rfl
  have aM:((N Q:Int)==0)=true:=by have:=aY.o;simp;omega
  have yN:=Zh aL;clear aL;have F2:Y3 _:=f2;obtain⟨F6,F7⟩:=aJ f6 f7;obtain⟨v0,aR⟩:∃v0:X3,Z xn 0 0=v0:=⟨_,rfl⟩;have bQ:v0.ownBlock=none:=by rw[<-aR];rfl
  have fU:=Zh aR;rw[aR]at f1;have dV:=f1.box;have F1:=Zh f1;clear aR;have Y5:Calls V 175 #[Z xn 0 0,I J (N y)] G.drew λe w'=>e=FN (Y (O (aD (M (H G)+2) 0)))/\
   w'.heap[M (H G)+2]? = O (EP #[Z xn 0 0,I J 0,Z (O (aD (M (H G)+1) 0)) (N y) (N y)] 239)/\
   w'.heap[M (H G)+1]? = O (EP (List.replicate (N y) (Value.int J 1073741824)).toArray 3)/\Below (M (H G)) G.drew w'/\M (H w')=M (H G)+3:=nL ⟨xn,0,[]⟩ (N y) G.drew zk.o
  have aZ:Y3 (∀P:U,P.heap[M (H G)+2]? = O (EP #[Z xn 0 0,I J 0,Z (O (aD (M (H G)+1) 0)) (N y) (N y)] 239)->P.heap[M (H G)+1]? = O (EP (List.replicate (N y) (Value.int J 1073741824)).toArray 3)->Below (M (H G)) G.drew P->M (H P)=M (H G)+3->
   ∃z w5,(Builtin.append_ #[210,210] 210 #[v0,Z (O (aD (M (H P)) 0)) 1 1]).run V (P.alloc (EP #[Y (O (aD (M (H G)+2) 0))] 212))=.ok z w5/\
    UK w5 (aD (M (H w)+2) 0)=O v0/\w5.frozen? (aD (M (H w)+2) 0)=F/\(∃a m c,z = Z a m c)/\
    ∃(v:X3) (g:fI),ou 239 3 212 (N y) (M (H w)+5) (M (H w)+2) [g] (UC w5 (aD (M (H w)+2) 0) z) v/\g.gr=mD [] (N y)/\xu g/\Kept (λb=>b≠M (H w)+2) G (UC w5 (aD (M (H w)+2) 0) z)/\∀b,bM (M (H w)+2) v [g] b->b=M (H w)+2∨(M (H w)+5<=b/\b<M (H (UC w5 (aD (M (H w)+2) 0) z)))):=by
   intro P p2 p1 pb ps;have ax:Kept (λ_=>True) G G.drew:=⟨rfl,rfl,rfl,Qn _,λ_ _ _=>rfl⟩;have dX:=F7.o;obtain⟨z,w5,hr,hc,hf,bH,R,hk,ho⟩:=Ha G.drew P (N y) (M (H w)+5) (M (H w)+2) [] v0 (F1.o.keep ax (λ_ _=>trivial)) (by show _<=M (H G);omega) (by simp) ⟨xn,0,[]⟩ ⟨⟨by simp,λi hi=>by simp at hi⟩,λa ha=>(by cases ha),λ_=>rfl⟩ (λb p=>by cases p) p2 p1 pb ps;refine⟨z,w5,hr,hc,hf,bH,z,_,R,rfl,rq _ _ _ _,(ax.mono λ_ _ _=>trivial).trans (hk.mono λb _ h=>⟨h,λe=>by rw[bQ]at e;cases e⟩),λb p=>?_⟩;rcases ho b p with (h|h|⟨_,h,_⟩)|h|h
   .exact .inl h
   .rw[bQ]at h;cases h
   .simp at h
   .cases h
   .exact .inr ⟨by have:=h.1;have e:M (H G.drew)=M (H G):=rfl;omega,h.2⟩
  have FO:V.follows .mixedOrders=true:=by kernel_rfl
  clear f1 f2 f6 f7;gi_upto_region 4 with fail;gi_cut [] from 15 (λwx=>∃(v:X3) (g:fI),ou 239 3 212 (N y) (M (H w)+5) (M (H w)+2) [g] wx v/\g.gr=mD [] (N y)/\xu g/\Kept (λb=>b≠M (H w)+2) G wx/\∀b,bM (M (H w)+2) v [g] b->b=M (H w)+2∨(M (H w)+5<=b/\b<M (H wx)))
  case first=>
   refine wpIn_wide.2 (wp_region_noPanic ?_);go_region_law
    ((first
     |(refine XJ (by rfl) _ _ _ (by rfl) v0 (Z (O (aD (M (H P)) 0)) 1 1) (Z dx dz dA) w5 (by rfl) (by rfl) oU ?_)
     |(go_simp;go_at_call 175;refine Y5.mono ?_;rintro e P ⟨rfl,p2,p1,pb,ps⟩;obtain⟨v5,w5,oU,fe,fo,⟨dx,dz,dA,rfl⟩,X⟩:=aZ.o P p2 p1 pb ps;have bf:=Q0 (A:=G.drew) dV (QB (s:=λ_=>True) pb (λb p _=>p)) trivial;have dY:=Q0 bf (QE (s:=λ_=>True) P (EP #[Y (O (aD (M (H G)+2) 0))] 212)) trivial;clear p2 p1 pb ps)))
   all_goals
    refine NoPanic.normal ?_;gi_wp2_with fail;gi_meet;exact X
  case' rest=>
   obtain⟨v,g,R,dB,dC,aT,fq⟩:=hcut;obtain⟨kl,hkl⟩:=G9 (xs:=[]) Tryz.VC Tryz.underlying3 Tryz.LK (λx hx=>by simp at hx);have bR:Go.keyOf V 255 (.agg #[.int J 0,.int J 0,.int J 0,.int J 0])=O kl:=hkl;have hM:=kX.keep F2.o (aT.block _ (kX.lt F2.o) (by omega));obtain⟨D,aC,dD⟩:=hM;have bS:=Q0 f5 aT (by show M (H w)+4≠_;omega);obtain⟨HG,L⟩:=aJ R dB;have dZ:Y3 _:=dC;obtain⟨JS,fu⟩:=aJ aT dD;clear R dB dC aT fq dD f5 Y5;gi_upto_region 6 with (first|(gi_at_mapUpdate;refine wpListIn_mapUpdate_own _ rfl _ _ _ 254 rfl 255 3 Tryz.xw Tryz.underlying254 _ (M (H w)+3) 0 D rfl aC (by unfold maxLen;omega) _ _ kl rfl rfl bR (.lit (.int J 0)) [] (plainElem_int Tryz.underlying3 rfl) ?_;intro w6 aK dP));have bg:Y3 (GI V 239 3 212 255 ⟨Ag,lT,Q⟩ ⟨xe,lS,y⟩ w [] [g] (λb=>bM (M (H w)+2) v [g] b∨b=M (H w)+3) w6 v):=by
    have wN:Kept (λb=>b≠M (H w)+3) wc w6:=Q9 dP (λr e hr=>by cases e;exact hr rfl);have ed:g.k.xs=[]:=congrArg Gr.key L.o;have dX:=F7.o;have fV:=JS.o.size;refine⟨?_,HG.o.keep wN (λb p e=>?_),?_,λx hx=>?_,?_,?_,?_,?_,λb=>QJ⟩
    .show [g.gr]=cO Q y
     rw[L.o];unfold cO;rw[Zt yN.o]
    .rcases sU HG.o p with h|h <;> omega
    .have:=kX.put (k:=[]) Tryz.xw fu.o aC.isMap (by have:=aY.o;omega) aY.o.symm hkl rfl aK
     show kX _ _ _ _ _ 1 [g.k.xs] _;rw[ed];exact this
    .rw[Zg]at hx;rw[hx];exact⟨dZ.o,by have h:=congrArg Gr.cnt L.o;have h':g.cnt=0:=h;omega⟩
    .exact Q0 (Q0 f3 JS.o (by show M (H w)≠_;omega)) wN (by show M (H w)≠_;omega)
    .exact Q0 (Q0 f4 JS.o (by show M (H w)+1≠_;omega)) wN (by show M (H w)+1≠_;omega)
    .exact Q0 bS wN (by show M (H w)+4≠_;omega)
    .exact(F6.o.trans (JS.o.below (by omega) (λb p=>by omega))).trans (wN.below (by have:=F6.o.size;omega) (λb p=>by omega))
   clear aK dP aC bS;go_frame;gi_cut [26] from 15 (λf wx=>f=.func (.func gi) #[] ik/\∃d v,GI V 239 3 212 255 ⟨Ag,lT,Q⟩ ⟨xe,lS,y⟩ w [] d (λb=>bM (M (H w)+2) v d b∨b=M (H w)+3) wx v)
   case first=>
    gi_wp2_with fail;gi_meet;exact⟨rfl,[g],v,bg.o⟩
 case' neg=>
  have fT:=List.length_pos_iff.2 aL;have aM:((N Q:Int)==0)=false:=by simp;omega
  have F1:=Zh f1;have F2:Y3 _:=f2;obtain⟨F6,F7⟩:=aJ f6 f7;clear f1 f2 f6 f7;gi_upto_region 6 with fail;have bg:Y3 (GI V 239 3 212 255 ⟨Ag,lT,Q⟩ ⟨xe,lS,y⟩ w [] [] (λb=>bM (M (H w)+2) (Z xn 0 0) [] b∨b=M (H w)+3) G (Z xn 0 0)):=by
   refine⟨?_,F1.o,?_,λx hx=>by simp at hx,f3,f4,f5,F6.o,λb=>QJ⟩
   .show []=cO Q y
    unfold cO;rw[ZU aL]
   .obtain⟨D,h1,h2⟩:=F2.o;exact⟨D,h1.mono (QW _),h2⟩
  gi_cut [26] from 15 (λf wx=>f=.func (.func gi) #[] ik/\∃d v,GI V 239 3 212 255 ⟨Ag,lT,Q⟩ ⟨xe,lS,y⟩ w [] d (λb=>bM (M (H w)+2) v d b∨b=M (H w)+3) wx v)
  case first=>
   gi_wp2_with fail;gi_meet;exact⟨rfl,[],_,bg.o⟩
 all_goals
  obtain⟨rfl,fw,v0,bI⟩:=hcut;have aV:M (H w)+5<=M (H wc):=by have:=QK bI.bn;have h:M (H w)+4<M (H wc):=this;omega
  obtain⟨aF,V6⟩:=aJ bI aV;clear bI aV f3 f4 dU aM;gi_wp2_with fail;refine nI aj (gf:=gi) (lb:=ik) rfl FZ hseq (bG.o.trans (aF.o.below.mono bG.o.size)) rfl
   (λpre o1 W=>∃d v,GI V 239 3 212 255 ⟨Ag,lT,Q⟩ ⟨xe,lS,y⟩ w pre d o1 W v)
   (λb=>bM (M (H w)+2) v0 fw b∨b=M (H w)+3) ?_ ?_ ⟨_,_,aF.o⟩
   (λx=>{ tmps:=#[.func (.func gi) #[] ik,Z Ag (N Q) lT,Z xe (N y) lS,undef,Y (O (aD (M (H w)) 0)),Y (O (aD (M (H w)+1) 0)),Z xn 0 0,Y (O (aD (M (H w)+2) 0)),Y (O (aD (M (H w)+4) 0)),x.val,undef,undef,undef,undef,.map (O (M (H w)+3)),u15,u16,u17,u18,u19,u20,u21,u22,u23,u24,u25,.func (.func gi) #[] ik,x.val,u28,u29,u30,u31,u32,u33,u34,u35,u36,u37,u38,u39,u40,u41,u42,u43,u44,u45,u46,u47,u48,u49,u50,u51,u52,u53,u54,u55,u56,u57,u58,u59,u60,u61],defers:=[] }) ?assign ?body ?done
  .intro b p;have h0:=bG.o.size;have h5:=V6.o;rcases p with p|p
   .refine⟨?_,aF.o.wF.lt p⟩;rcases sU aF.o.wF p with h|h <;> omega
   .omega
  .rintro pre o1 A B ⟨d,v,h⟩ hk;exact⟨d,v,h.keep hk (λb p=>p.imp id (λp=>by have:=V6.o;omega))⟩
  case assign=>
   intro l x W K hK;gi_wp2;exact hK
  case body=>
   rintro l pre x o1 W ⟨d,v,R⟩ ai hx aX dE;have aN:=lD ai;have fZ:N pre+1<=1000000:=by have:=ai.length_le;rw[Zm,Zn]at this;exact Qz this dn.o
   have ek:=UT.o;have ak:=GV x ⟨Ag,lT,Q⟩ W hx.1 (Qo R.below dS.o) (eZ.o _ aN) (by show N Q<=_;omega);have ay:N (au x.xs Q)=N Q:=by simp[au]
   have bq:=Ro (cols:=Q) (aB.o _ aN);obtain⟨aA,bJ⟩:=eX (au x.xs Q);have bu:=Zh bJ;simp only at ak;rw[bJ]at ak ay bq;clear bJ;have bT:=aeH W aA (by omega);obtain⟨W2,bK⟩:∃W2,(W.alloc (EP (aA.map (Value.int J)).toArray 3)).alloc (EP #[I J (E aA 0 0),I J (E aA 1 0),I J (E aA 2 0),I J (E aA 3 0)] 255)=W2:=⟨_,rfl⟩;rw[bK]at bT;have bz:=dN W (EP (aA.map (Value.int J)).toArray 3);have uH:=dN (W.alloc (EP (aA.map (Value.int J)).toArray 3)) (EP #[I J (E aA 0 0),I J (E aA 1 0),I J (E aA 2 0),I J (E aA 3 0)] 255);have az:=bz.trans (uH.mono bz.size);have ag:=pR (W.alloc (EP (aA.map (Value.int J)).toArray 3)) (EP #[I J (E aA 0 0),I J (E aA 1 0),I J (E aA 2 0),I J (E aA 3 0)] 255);have bA:=(uH.block (M (H W)) (by simp)).trans (pR W (EP (aA.map (Value.int J)).toArray 3));have bB:M (H ((W.alloc (EP (aA.map (Value.int J)).toArray 3)).alloc (EP #[I J (E aA 0 0),I J (E aA 1 0),I J (E aA 2 0),I J (E aA 3 0)] 255)))=M (H W)+2:=by simp
   rw[Zo]at ag;rw[bK]at az ag bA bB;clear bK bz uH;have eu:=R.bk;obtain⟨fA,fC,dF⟩:=aaX az R.bn R.bs R.wF.box;have aO:GI V 239 3 212 255 ⟨Ag,lT,Q⟩ ⟨xe,lS,y⟩ w pre d (λb=>bM (M (H w)+2) v d b∨b=M (H w)+3) W2 v:=by
    have h:=R.keep (s:=λb=>b<M (H W)) (QB az (λb _ h=>h)) (λb p=>by
     rcases p with p|p
     .rcases (R.iff b).1 p with h|h
      .exact R.wF.lt h
      .rw[h];exact R.map.lt
     .have:=V6.o;omega)
    exact⟨h.fold,h.wF,h.map,h.sums,h.bk,h.bs,h.bn,h.below,λb=>QJ⟩
   obtain⟨bN,aG⟩:=VF W2 (N Q) (M (H w)+3) (N pre+1) (d.map (·.k.xs)) aO.map aA ay ek (by omega) (by rw[Zm];have:=aO.len;omega) bq;unfold rT alW at bN aG;have q0:UK W2 (aD (M (H W)+1) 0)=O (I J (E aA 0 0)):=XG ag rfl;have q1:UK W2 (aD (M (H W)+1) 1)=O (I J (E aA 1 0)):=XG ag rfl;have q2:UK W2 (aD (M (H W)+1) 2)=O (I J (E aA 2 0)):=XG ag rfl;have q3:UK W2 (aD (M (H W)+1) 3)=O (I J (E aA 3 0)):=XG ag rfl;obtain⟨fD,aH,fE,HG,L,HX,Ie⟩:=ze bA az bB R aO hx aX;obtain⟨Ig,av,fF⟩:=dQ dE aN ay;have gm:Y3 _:=ai;obtain⟨fG,fH⟩:=aJ bN aG;clear bA ag az bB R aO hx aX dE aN ai bN aG bq;generalize E aA 0 0=p0 at*;generalize E aA 1 0=p1 at*;generalize E aA 2 0=p2 at*;generalize E aA 3 0=p3 at*;rw[<-ay]at ak;clear ay
   cases hf:jE (d.map (·.k.xs)) aA with
   |some i =>
    have bU:=fG.o i hf;obtain⟨dH,fJ⟩:=aeI hf;have hi:i<N d:=by simpa using dH
    obtain⟨gr,sI,hv,aI⟩:=qP L.o.wF.own hi;have bV:UK W2 (aD gr i)=O (Y (O (aD (d[i].gb) 0))):=by rw[aI,ZA,ZB hi];rfl
    have aP:∀b,aj.blk x=O b->¬bM (M (H w)+2) v d b:=λb p h=>(Ie.o b p).1 ((HG.o.iff b).2 (.inl h));have bX:=aj.keep HX.o aH.o.size (λb p _=>aH.o.block b p);have S:=Mf w W2 d v ⟨xe,lS,y⟩ x L.o.wF L.o.below UR.o zk.o bX aP (λg hg=>⟨(L.o.sums g hg).1,by have:=(L.o.sums g hg).2;omega⟩) (aB.o _ av.o) (dw.o _ av.o) hi;have lu:Y3 (∀W7:U,W7.heap[d[i].gb]? = O (EP #[d[i].k.val,I J (d[i].cnt+1:Nat),Z (O (aD (d[i].sb) 0)) (N y) (N y)] 239)->W7.heap[d[i].sb]? = O (EP ((gH d[i].ss x.xs y).map (Value.int J)).toArray 3)->Kept (λb=>b≠d[i].gb/\b≠d[i].sb) W2 W7->M (H W7)=M (H W2)->
      ∃o2,(∃bP z,GI V 239 3 212 255 ⟨Ag,lT,Q⟩ ⟨xe,lS,y⟩ w (pre++[x]) bP o2 W7 z)/\Kept (λb=>¬o1 b) W W7/\∀b,o2 b->o1 b∨(M (H W)<=b/\b<M (H W7))∨(aj.blk x=O b/\M (H wc)<=b)):=by intro W7 r1 r2 r3 r4;have aW:=Zv hi;refine⟨_,⟨_,_,GI.afb (x:=x) L.o.wF (L.o.map.mono (by omega)) L.o.sums L.o.bk L.o.bs L.o.bn L.o.below hi (aeJ L.o.fold (by rw[bu.o];exact hf)) (aB.o _ av.o) r1 r2 r3⟩,?_,λb p=>.inl ((HG.o.iff b).2 p)⟩;refine(QB (s:=λb=>¬o1 b) aH.o (λb p _=>p)).trans (r3.mono λb _ h=>⟨λe=>h ((HG.o.iff b).2 (.inl (.inr (.inr ⟨_,aW,.inl e⟩)))),λe=>h ((HG.o.iff b).2 (.inl (.inr (.inr ⟨_,aW,.inr (.inl e)⟩))))⟩)
    obtain⟨HF,HI,gu⟩:=dQ hf hi bV;rw[hv]at dF;clear hf dH fJ aI aP bX hv;obtain⟨iZ,bL,fB⟩:=x;unfold ae.val at*;simp only at*;gi_wp2_with (refine⟨trivial,rfl,Q4 l (QH.2 (ak.mono ?_))⟩;rintro e P ⟨rfl,rfl⟩);have FO:V.follows .mixedOrders=true:=by kernel_rfl
    refine wpIn_region_any FO (mW (lV (by kernel_rfl)) _ _ _ _ ?_);change wpAnyIn _ _ _ _ _ _ _ _ _ (World.drew _);refine iT 1 (I J (i:Int)) ?_;refine iT 4 (Z iZ (N fB) bL) ?_
    repeat' first
     |refine iJ 0 5 ?_ ?_
     |refine iJ 3 5 ?_ ?_
     |refine iQ 0 ?_
     |refine iQ 3 ?_
     |refine iQ 5 ?_
     |refine iQ 6 ?_
     |refine iT 2 (Y (O (aD gr i))) ?_
     |intro K hK;go_simp;refine hK _ _ ?_;clear hK K
     |intro K hK;go_simp;refine⟨trivial,rfl,QH.2 (S.mono ?_)⟩;rintro e W7 ⟨⟨u7,rfl⟩,r1,r2,r3,r4⟩;refine hK _ _ ?_;refine iD ?_;exact lu.o W7 r1 r2 r3 r4
   |none =>
    obtain⟨bU,q,dI,Dq,dJ⟩:=fH.o hf;obtain⟨Nv,uS,rfl⟩:=xy L.o.wF.own;rw[Zm]at dI;have af:Kept (λb=>b≠M (H w)+3) W2 q:=Q9 dJ (λr e hr=>by cases e;exact hr rfl);have bY:=af.size;have bZ:∀b,bM (M (H w)+2) (Z Nv (N d) uS) d b->b≠M (H w)+3:=λb p=>by rcases sU L.o.wF p with h|h <;> omega
    have bC:=L.o.wF.keep af bZ;have cu:=bC.box;have cz:=Q0 L.o.bs af (by show M (H w)+1≠_;omega);have cK:=Q0 L.o.bk af (by show M (H w)≠_;omega);have cZ:=Q0 L.o.bn af (by show M (H w)+4≠_;omega);have eB:=fE.o;have eD:M (H w)+5<=M (H W):=by have:=V6.o;have:=Ig.o;omega
    have df:=(af.block _ (by omega) (by omega)).trans fD.o;have dh:aj.At ⟨O (aD (M (H W)) 0),N aA,aA⟩ q:=by refine⟨⟨by show N aA<=_;have:=fF.o;omega,λj hj=>⟨M (H W),0,rfl,?_⟩⟩,λa ha=>by cases ha;show M (H W)<_;omega,λe=>by cases e⟩;have eF:j<N aA:=hj;rw[ZK];exact XG df (by simp[List.getD,eF])
    have hlen:=L.o.len;have Y5:Calls V 175 #[Z (O (aD (M (H W)) 0)) (N aA) (N aA),I J (N y)] q.drew λe w'=>e=FN (Y (O (aD (M (H q)+2) 0)))/\
     w'.heap[M (H q)+2]? = O (EP #[Z (O (aD (M (H W)) 0)) (N aA) (N aA),I J 0,Z (O (aD (M (H q)+1) 0)) (N y) (N y)] 239)/\
     w'.heap[M (H q)+1]? = O (EP (List.replicate (N y) (Value.int J 1073741824)).toArray 3)/\Below (M (H q)) q.drew w'/\M (H w')=M (H q)+3:=nL ⟨O (aD (M (H W)) 0),N aA,aA⟩ (N y) q.drew zk.o
    have aZ:Y3 (∀P:U,P.heap[M (H q)+2]? = O (EP #[Z (O (aD (M (H W)) 0)) (N aA) (N aA),I J 0,Z (O (aD (M (H q)+1) 0)) (N y) (N y)] 239)->P.heap[M (H q)+1]? = O (EP (List.replicate (N y) (Value.int J 1073741824)).toArray 3)->Below (M (H q)) q.drew P->M (H P)=M (H q)+3->
     ∃z w5,(Builtin.append_ #[210,210] 210 #[Z Nv (N d) uS,Z (O (aD (M (H P)) 0)) 1 1]).run V (P.alloc (EP #[Y (O (aD (M (H q)+2) 0))] 212))=.ok z w5/\
      UK w5 (aD (M (H w)+2) 0)=O (Z Nv (N d) uS)/\w5.frozen? (aD (M (H w)+2) 0)=F/\(∃a m c,z = Z a m c)/\∃dR,ou 239 3 212 (N y) (M (H w)+5) (M (H w)+2) (d++[(⟨M (H q)+2,M (H q)+1,⟨O (aD (M (H W)) 0),N aA,aA⟩,0,List.replicate (N y) 1073741824⟩:fI)]) (UC w5 (aD (M (H w)+2) 0) z) dR/\Kept (λb=>b≠M (H w)+2/\(Value.slice Nv (N d) uS).ownBlock≠O b) q (UC w5 (aD (M (H w)+2) 0) z)/\∀b,bM (M (H w)+2) dR (d++[(⟨M (H q)+2,M (H q)+1,⟨O (aD (M (H W)) 0),N aA,aA⟩,0,List.replicate (N y) 1073741824⟩:fI)]) b->bM (M (H w)+2) (Z Nv (N d) uS) d b∨b=M (H W)∨(M (H q)<=b/\b<M (H (UC w5 (aD (M (H w)+2) 0) z)))):=by
     intro P p2 p1 pb ps;have ax:Kept (λ_=>True) q q.drew:=⟨rfl,rfl,rfl,Qn _,λ_ _ _=>rfl⟩;obtain⟨z,w5,hr,hc,fM,bH,aa,C,ah⟩:=Ha q.drew P (N y) (M (H w)+5) (M (H w)+2) d (Z Nv (N d) uS) (bC.keep ax (λ_ _=>trivial)) (by show _<=M (H q);omega) (by omega) ⟨O (aD (M (H W)) 0),N aA,aA⟩ (aj.keep dh (Qn _) (λ_ _ _=>rfl)) (λb p=>by
      have e:O (M (H W))=O b:=p;cases e;refine⟨by omega,λh=>?_⟩;have:=HG.o.wF.lt h;omega) p2 p1 pb ps
     refine⟨z,w5,hr,hc,fM,bH,z,aa,(ax.mono λ_ _ _=>trivial).trans C,λb p=>?_⟩;rcases ah b p with h|h|h
     .exact .inl h
     .have e:O (M (H W))=O b:=h
      cases e;exact .inr (.inl rfl)
     .exact .inr (.inr h)
    have HR:Y3 (∀(wx:U) (z:X3),ou 239 3 212 (N y) (M (H w)+5) (M (H w)+2) (d++[(⟨M (H q)+2,M (H q)+1,⟨O (aD (M (H W)) 0),N aA,aA⟩,0,List.replicate (N y) 1073741824⟩:fI)]) wx z->Kept (λb=>b≠M (H w)+2/\(Value.slice Nv (N d) uS).ownBlock≠O b) q wx->(∀b,bM (M (H w)+2) z (d++[(⟨M (H q)+2,M (H q)+1,⟨O (aD (M (H W)) 0),N aA,aA⟩,0,List.replicate (N y) 1073741824⟩:fI)]) b->bM (M (H w)+2) (Z Nv (N d) uS) d b∨b=M (H W)∨(M (H q)<=b/\b<M (H wx)))->
      (∃gr sI,z = Z (O (aD gr 0)) (N d+1) sI/\UK wx (aD gr (N d))=O (Y (O (aD (M (H q)+2) 0))))/\UK wx (aD (M (H w)+2) 0)=O z/\UK wx (aD (M (H w)+1) 0)=O (Z xe (N y) lS)/\
      Calls V 176 #[Y (O (aD (M (H q)+2) 0)),x.val,Z xe (N y) lS] wx.drew λe W7=>(∃u,e=FN u)/\
       ∃o2,(∃bP z,GI V 239 3 212 255 ⟨Ag,lT,Q⟩ ⟨xe,lS,y⟩ w (pre++[x]) bP o2 W7 z)/\Kept (λb=>¬o1 b) W W7/\∀b,o2 b->o1 b∨(M (H W)<=b/\b<M (H W7))∨(aj.blk x=O b/\M (H wc)<=b)):=by
     intro wx z aa C ah;have hi:N d<N (d++[(⟨M (H q)+2,M (H q)+1,⟨O (aD (M (H W)) 0),N aA,aA⟩,0,List.replicate (N y) 1073741824⟩:fI)]):=by simp
     have bD:(d++[(⟨M (H q)+2,M (H q)+1,⟨O (aD (M (H W)) 0),N aA,aA⟩,0,List.replicate (N y) 1073741824⟩:fI)])[N d]=(⟨M (H q)+2,M (H q)+1,⟨O (aD (M (H W)) 0),N aA,aA⟩,0,List.replicate (N y) 1073741824⟩:fI):=by simp
     have di:(d++[(⟨M (H q)+2,M (H q)+1,⟨O (aD (M (H W)) 0),N aA,aA⟩,0,List.replicate (N y) 1073741824⟩:fI)])[N d].gb=M (H q)+2:=by rw[bD]
     have eG:(d++[(⟨M (H q)+2,M (H q)+1,⟨O (aD (M (H W)) 0),N aA,aA⟩,0,List.replicate (N y) 1073741824⟩:fI)])[N d].sb=M (H q)+1:=by rw[bD]
     have V7:∀b,(Value.slice Nv (N d) uS).ownBlock=O b->M (H w)+5<=b:=λb p=>(Zb L.o.wF.own p).1;have Sc:∀b,b<M (H w)+5->b≠M (H w)+2->b≠M (H w)+2/\(Value.slice Nv (N d) uS).ownBlock≠O b:=λb p aM=>⟨aM,λe=>by have:=V7 b e;omega⟩;have eH:=Q0 cK C (Sc _ (by show M (H w)<_;omega) (by show M (H w)≠_;omega));have bE:=Q0 cz C (Sc _ (by show M (H w)+1<_;omega) (by show M (H w)+1≠_;omega));have eO:=Q0 cZ C (Sc _ (by show M (H w)+4<_;omega) (by show M (H w)+4≠_;omega));have eP:kX V 255 3 (N Q) (M (H w)+3) (N pre+2) ((d++[(⟨M (H q)+2,M (H q)+1,⟨O (aD (M (H W)) 0),N aA,aA⟩,0,List.replicate (N y) 1073741824⟩:fI)]).map (·.k.xs)) wx:=by rw[Qi];exact Dq.keep (C.block _ Dq.lt (Sc _ (by omega) (by omega)))
     have bF:∀g∈d++[(⟨M (H q)+2,M (H q)+1,⟨O (aD (M (H W)) 0),N aA,aA⟩,0,List.replicate (N y) 1073741824⟩:fI)],xu g/\g.cnt<=N pre:=by
      intro g hg;rcases Zi.1 hg with hg|hg
      .exact L.o.sums g hg
      .rw[Zg]at hg;rw[hg];exact⟨rq _ _ _ _,QW _⟩
     have DL:∀s:Nat->Prop,(∀b,b<M (H W)->s b->b≠M (H w)+3)->Kept s W q:=λs hs=>(QB aH.o (λb p _=>p)).trans' (t:=λb=>b<M (H W)/\s b) (af.mono λb _ h=>hs b h.1 h.2) (λb p h=>⟨p,h⟩);have dm:=(HG.o.below.trans ((DL (λb=>b<M (H w)) (λb _ h=>by omega)).below (by omega) (λb p=>p))).trans (C.below (by have:=HG.o.below.size;omega) (λb p=>Sc b (by omega) (by omega)));have aQ:∀b,aj.blk x=O b->¬bM (M (H w)+2) (Z Nv (N d) uS) d b/\b≠M (H w)+3/\b<M (H W):=λb p=>⟨λh=>(Ie.o b p).1 ((HG.o.iff b).2 (.inl h)),λh=>(Ie.o b p).1 ((HG.o.iff b).2 (.inr h)),aj.zw HX.o p⟩;have eQ:aj.At x wx:=by refine aj.keep (aj.keep HX.o (Qz aH.o.size bY) (λb p aU=>(DL (λb=>b≠M (H w)+3) (λb _ h=>h)).block b p (aQ b aU).2.1)) C.size (λb p aU=>C.block b p ⟨λe=>(aQ b aU).1 (.inl e),λe=>(aQ b aU).1 (.inr (.inl e))⟩)
     have aP:∀b,aj.blk x=O b->¬bM (M (H w)+2) z (d++[(⟨M (H q)+2,M (H q)+1,⟨O (aD (M (H W)) 0),N aA,aA⟩,0,List.replicate (N y) 1073741824⟩:fI)]) b:=λb p h=>by
      have h1:=aQ b p;rcases ah b h with h|h|h
      .exact h1.1 h
      .omega
      .omega
     have S:=Mf w wx (d++[(⟨M (H q)+2,M (H q)+1,⟨O (aD (M (H W)) 0),N aA,aA⟩,0,List.replicate (N y) 1073741824⟩:fI)]) z ⟨xe,lS,y⟩ x aa dm UR.o zk.o eQ aP (λg hg=>⟨(bF g hg).1,by have:=(bF g hg).2;omega⟩) (aB.o _ av.o) (dw.o _ av.o) hi;have eT:Value.pointer (O ⟨(d++[(⟨M (H q)+2,M (H q)+1,⟨O (aD (M (H W)) 0),N aA,aA⟩,0,List.replicate (N y) 1073741824⟩:fI)])[N d].gb,0,xn⟩)=Value.pointer (O (aD (M (H q)+2) 0)):=by rw[di]
     rw[eT]at S;refine⟨?_,aa.box,bE,S.mono ?_⟩
     .obtain⟨gr,sI,hv,hc⟩:=qP aa.own (i:=N d) (by simp);refine⟨gr,sI,by rw[hv];simp,?_⟩;rw[hc,ZA,ZB hi,bD];rfl
     .rintro e W7 ⟨hu,r1,r2,r3,r4⟩;refine⟨hu,_,⟨_,_,GI.afb (x:=x) aa eP bF eH bE eO dm hi (abK L.o.fold (by rw[bu.o];exact hf) (by show (⟨aA,0,List.replicate (N y) 1073741824⟩:Gr)=mD _ _;rw[bu.o];rfl)) (aB.o _ av.o) r1 r2 r3⟩,?_,λb p=>?_⟩
      .have h1:Kept (λb=>¬o1 b) W q:=DL _ (λb _ h e=>h ((HG.o.iff b).2 (.inr e)));have h2:Kept (λb=>¬o1 b) q wx:=C.mono λb _ h=>⟨λe=>h ((HG.o.iff b).2 (.inl (.inl e))),λe=>h ((HG.o.iff b).2 (.inl (.inr (.inl e))))⟩
       refine(h1.trans h2).trans' (t:=λb=>b<M (H W)) (r3.mono λb _ h=>?_) (λb p _=>p);rw[di,eG];omega
      .skip;have gp:=C.size;rcases p with p|p
       .rcases ah b p with h|h|h
        .exact .inl ((HG.o.iff b).2 (.inl h))
        .exact .inr (.inl ⟨by omega,by omega⟩)
        .exact .inr (.inl ⟨by omega,by omega⟩)
       .exact .inl ((HG.o.iff b).2 (.inr p))
    have HF:=Zh hf;clear hf af bY Dq cK cZ bC dJ bZ eB eD df dh hlen;have FO:V.follows .mixedOrders=true:=by kernel_rfl
    obtain⟨iZ,bL,fB⟩:=x;unfold ae.val at*;simp only at*;gi_upto_region 15 with (refine⟨trivial,rfl,Q4 l (QH.2 (ak.mono ?_))⟩;rintro e P ⟨rfl,rfl⟩);gi_cut [] from 47 (λwx=>∃z,ou 239 3 212 (N y) (M (H w)+5) (M (H w)+2) (d++[(⟨M (H q)+2,M (H q)+1,⟨O (aD (M (H W)) 0),N aA,aA⟩,0,List.replicate (N y) 1073741824⟩:fI)]) wx z/\Kept (λb=>b≠M (H w)+2/\(Value.slice Nv (N d) uS).ownBlock≠O b) q wx/\∀b,bM (M (H w)+2) z (d++[(⟨M (H q)+2,M (H q)+1,⟨O (aD (M (H W)) 0),N aA,aA⟩,0,List.replicate (N y) 1073741824⟩:fI)]) b->bM (M (H w)+2) (Z Nv (N d) uS) d b∨b=M (H W)∨(M (H q)<=b/\b<M (H wx)))
    case first=>
     refine wpIn_region_any FO (mW (lV (by kernel_rfl)) _ _ _ _ ?_);change wpAnyIn _ _ _ _ _ _ _ _ _ (World.drew _);refine iT 1 (Z (O (aD (M (H W)) 0)) (N aA) (N aA)) ?_
     repeat' first
      |refine iJ 0 2 ?_ ?_
      |refine iJ 0 4 ?_ ?_
      |refine iJ 0 5 ?_ ?_
      |refine iQ 0 ?_
      |refine iQ 2 ?_
      |refine iQ 4 ?_
      |refine iQ 5 ?_
      |refine iQ 6 ?_
      |refine iQ 7 ?_
      |refine iT 3 (I J (N y:Int)) ?_
      |refine iD ?_;gi_wp2_with fail;gi_meet;assumption
      |intro K hK;refine Kc (by rfl) _ _ _ (by rfl) (Z Nv (N d) uS) (Z (O ⟨_,0,xn⟩) 1 1) (Z _ _ _) _ (by rfl) (by rfl) (by assumption) ?_;refine hK _ _ ?_;clear hK K
      |intro K hK;go_simp;refine hK _ _ ?_;clear hK K
      |intro K hK;go_simp;refine⟨trivial,rfl,QH.2 (Y5.mono ?_)⟩;rintro e P ⟨rfl,dK,dL,bO,ps'⟩;obtain⟨v5,w5,oU,fe,fo,⟨dx,dz,dA,rfl⟩,X⟩:=aZ.o P dK dL bO ps';have bf:=Q0 (A:=q.drew) cu (QB (s:=λ_=>True) bO (λb p _=>p)) trivial;have dY:=Q0 bf (QE (s:=λ_=>True) P (EP #[Y (O (aD (M (H q)+2) 0))] 212)) trivial;clear dK dL bO ps';refine hK _ _ ?_;clear hK K
    case rest=>
     obtain⟨z,aa,C,ah⟩:=hcut;obtain⟨⟨gr,sI,rfl,bV⟩,gy,bE,S⟩:=HR.o _ z aa C ah;clear aa C ah cu cz Y5 dI bU bT ak q0 q1 q2 q3 eu fA fC dF;have gq:¬((N d:Int)+1<=(N d:Int)):=by omega
     gi_wp2_with fail;refine wpIn_region_any FO (mW (lV (by kernel_rfl)) _ _ _ _ ?_);change wpAnyIn _ _ _ _ _ _ _ _ _ (World.drew _);refine iT 1 (I J (N d:Int)) ?_;refine iT 4 (Z iZ (N fB) bL) ?_
     repeat' first
      |refine iJ 0 5 ?_ ?_
      |refine iJ 3 5 ?_ ?_
      |refine iQ 0 ?_
      |refine iQ 3 ?_
      |refine iQ 5 ?_
      |refine iQ 6 ?_
      |refine iT 2 (Y (O (aD gr (N d)))) ?_
      |intro K hK;go_simp;refine hK _ _ ?_;clear hK K
      |intro K hK;go_simp;refine⟨trivial,rfl,QH.2 (S.mono ?_)⟩;rintro e W7 ⟨⟨u7,rfl⟩,r7⟩;refine hK _ _ ?_;refine iD ?_;exact r7
  case done=>
   rintro ys o' W2 dM ⟨d,v,R⟩ fO dO hD;have hc:=R.wF.box;obtain⟨va,vn,vc,rfl⟩:=Zc R.wF.own;obtain⟨HG,fP,fQ⟩:=dQ R dM dO;clear R dM fO dO;gi_wp2;have eU:¬o' (M (H wc)):=λh=>by
    rcases fQ.o _ h with h|h
    .rcases h with h|h
     .have:=aF.o.wF.lt h;omega
     .have:=V6.o;omega
    .omega
   have X:=HG.o.keep (QC (s:=λb=>b≠M (H wc)) W2 (.deferred xn) (λh=>h rfl)) (λb p e=>by
    rcases p with p|p
    .exact eU (e ▸ p)
    .have:=V6.o;omega)
   refine⟨by simp,.inl ⟨_,_,rfl,Q5 hD,?_⟩⟩;refine⟨_,results_tmp rfl _ _ _,Z va vn vc,d,rfl,?_,X.wF,X.below⟩;rw[X.fold];unfold dW;have eY:ys.map ae.xs=rows:=fP.o;rw[<-eY,List.foldl_map]
end
def ab9(h:a+k<=4000000):wrap64 ((a:Int)+(k:Int))=((a+k:Nat):Int):=by unfold wrap64;omega
def nP(l:List α)(n:Nat)(h:n<=N l):∃a b,l=a++b/\N a=n/\N b=N l-n:=⟨l.take n,l.drop n,(Zx n l).symm,by simp[h],by simp⟩
structure Rot(P X Yq Q:List ae)(m len:Nat)(P' X' Y' Q':List ae):Prop where
 pos:0<N X'/\0<N Y'
 l8:m=N P'+N X'
 fit:m+N Y'<=len
 eq:P'++Y'++X'++Q' = P++Yq++X++Q
theorem Rot.more{len:Nat}(h:Rot P X Yq Q m len P' X' Y' Q')(hl:N Y'<N X'):∃a b,X' = a++b/\N a=N Y'/\N b=N X'-N Y'/\Rot P X Yq Q m len (P'++Y') b a Q':=by obtain⟨a,b,e,d,f⟩:=nP X' (N Y') (by omega);have g:=h.pos;have i:=h.l8;have j:=h.fit;refine⟨a,b,e,d,f,⟨by omega,by omega⟩,by rw[Zn];omega,by omega,?_⟩;rw[<-h.eq,e];simp
def Rot.less{len:Nat}(h:Rot P X Yq Q m len P' X' Y' Q')(hl:N X'<N Y'):∃a b,Y' = a++b/\N a=N Y'-N X'/\N b=N X'/\Rot P X Yq Q m len P' b a (X'++Q'):=by obtain⟨a,b,e,d,j⟩:=nP Y' (N Y'-N X') (by omega);have f:=h.pos;have g:=h.l8;have i:=h.fit;refine⟨a,b,e,d,by omega,⟨by omega,by omega⟩,by omega,by omega,?_⟩;rw[<-h.eq,e];simp
def ama{len:Nat}(hfit:m+y<=len)(hl:len<=1000000)(ej:j=y)(hi:i<=1000000):m+j<=4000000/\m<=4000000/\j<=4000000:=by omega
def amb{x:Nat}(hmid:m=p+x)(ei:i=x)(j:Nat):i<=m/\i<=m+j:=by omega
def amc{x y2:Nat}(ei:i=x)(ej:j=y)(l1:y1=y-x)(l2:y2=x)(h:i<j)(hi:0<i)(hj:j<=1000000):i=y2/\j-i=y1/\0<j-i/\j-i<=1000000/\i+(j-i)<i+j:=by omega
def amd{len x:Nat}(hmid:m=p+x)(hfit:m+y<=len)(ei:i=x)(ej:j=y)(l1:y1=y-x)(h:i<j):m+j-i=p+x+y1/\m+j-i+i<=len:=by omega
def Ia(h:j<=i):Value.int J ((i:Int)-(j:Int))=Value.int J ((i-j:Nat):Int):=by rw[Int.ofNat_sub h]
theorem VY(blk cap len a m b:Nat)(f:X3)(P X Yq Q:List ae)(R:List X3)(w:U)(hG:GB w blk 22 (SL (P++X++Yq++Q) R))(hX:0<N X)(hY:0<N Yq)(ha:a=N P)(hm:m=N P+N X)(hb:b=N P+N X+N Yq)(hlen:b<=len)(hl:len<=1000000) :
  Calls V 232 #[Z (O (aD blk 0)) len cap,I J a,I J m,I J b,f] w λe w'=>e=FN (MV #[])/\GB w' blk 22 (SL (P++Yq++X++Q) R)/\Kept (λb=>b≠blk) w w':=by
 have w1:wrap64 ((m:Int)-(a:Int))=(N X:Int):=by unfold wrap64;omega
 have w2:wrap64 ((b:Int)-(m:Int))=(N Yq:Int):=by unfold wrap64;omega
 have hR:Rot P X Yq Q m len P X Yq Q:=⟨⟨hX,hY⟩,hm,by omega,rfl⟩;have HG:Y3 _:=hG;have HR:=Zh hR;clear hG hR hX hY ha hm hb hlen;go_enter Tryz.func232,Tryz.ntmps232;go_wp2;try simp only[w1,w2]
 go_loopw [10,11] (λiv jv wr=>∃(i j:Nat) (y C D A:List ae),iv=I J i/\jv=I J j/\i<=1000000/\j<=1000000/\0<i/\0<j/\Y3 (i=N C/\j=N D/\Rot P X Yq Q m len y C D A/\GB wr blk 22 (SL (y++C++D++A) R)/\Kept (λb=>b≠blk) w wr)) (λiv jv _=>(intOf iv).toNat+(intOf jv).toNat)
 case atStart=>
  have h:=HR.o;have h1:=h.pos;have h2:=h.l8;have h3:=h.fit;exact⟨N X,N Yq,P,X,Yq,Q,rfl,rfl,by omega,by omega,h1.1,h1.2,rfl,rfl,h,HG.o,Qy _ _⟩
 case round=>
  obtain⟨i,j,y,C,D,A,rfl,rfl,hi,hj,aa,af,HI⟩:=hrel;obtain⟨z,G,B,hg,S⟩:=HI.o;have g:=B.l8;have k:=B.fit;have l:=ama k hl G hi;have r:=amb g z j;have ah:=Ck r.1 l.2.1;have L:m-i=N y:=by omega
  by_cases ag:j<i
  .obtain⟨X1,X2,e,l1,l2,v⟩:=B.more (by omega);have d:=tY blk cap len (m-i) m j f y X1 X2 D A R wr (by grind ) (by omega) (by omega) L (by rw[g,e,Zn];omega) (by omega) hl;have hw:wrap64 ((i:Int)-(j:Int))=((i-j:Nat):Int):=Ck (by omega) (by omega);have t:Y3 (i-j=N X2/\j=N X1/\0<i-j/\i-j<=1000000/\i-j+j<i+j):=by constructor <;> omega
   obtain⟨HK,K⟩:=aJ S v;clear S v B hg HI g k L z G e l1 l2 l r;go_wp2_with fail;refine d.mono ?_;rintro e w2 ⟨rfl,n,p⟩;have u:Y3 _:=n;have W:=Zh p;go_wp2;go_roundw
   case rel=>exact⟨i-j,j,y++D,X2,X1,A,Ia (Nat.le_of_lt ag),rfl,t.o.2.2.2.1,hj,t.o.2.2.1,af,t.o.1,t.o.2.1,K.o,u.o,HK.o.trans W.o⟩
   case measure=>have:=t.o;simp[intOf];omega
  .by_cases q:i<j
   .obtain⟨Y1,Y2,e,l1,l2,v⟩:=B.less (by omega);have uu:=amc z G l1 l2 q aa hj;have Bf:=amd g k z G l1 q;have d:=tY blk cap len (m-i) (m+j-i) i f y C Y1 Y2 A R wr (by grind) z.symm (l2.trans z.symm) L Bf.1 Bf.2 hl;have hw:=Ck (Nat.le_of_lt q) l.2.2;have ai:=ab9 l.1;have aj:=Ck r.2 l.1;obtain⟨t,HK,K⟩:=dQ uu S v;clear S v B hg HI g k L z G e l1 l2 l r uu Bf;generalize m+j=mj at*;go_wp2_with fail;refine d.mono ?_;rintro e w2 ⟨rfl,n,p⟩;clear d;have u:Y3 _:=n;have W:=Zh p;clear n p;go_wp2;go_roundw
    case rel=>exact⟨i,j-i,y,Y2,Y1,C++A,rfl,Ia (Nat.le_of_lt q),hi,t.o.2.2.2.1,aa,t.o.2.2.1,t.o.1,t.o.2.1,K.o,by have h:=u.o;rwa [ZE (y++Y2++Y1)]at h,HK.o.trans W.o⟩
    case measure=>have:=t.o;simp[intOf];omega
   .obtain rfl:i=j:=by omega
    have d:=tY blk cap len (m-i) m i f y C [] D A R wr (by rw[Xd];exact hg) z.symm G.symm L (by rw[g];rfl) (by omega) hl;rw[Xd,B.eq]at d;have HK:=Zh S;clear S B hg HI g k L z G l r;go_wp2_with fail;refine d.mono ?_;rintro e w2 ⟨rfl,n,p⟩;clear d;have u:Y3 _:=n;have W:=Zh p;clear n p;go_wp2;go_end0;exact⟨rfl,u.o,HK.o.trans W.o⟩
def RZ(P:Program)(g:Nat)(lb:Array X3)(cf:ae->ae->Int)(blk:Nat)(w0:U)(ok:ae->Prop):Prop:=
 ∀W x y,Kept (λb=>b≠blk) w0 W->ok x->ok y->Calls P g (#[x.val,y.val]++lb) W λe W'=>e=FN (I J (cf x y))/\∃m,W' = W.drewN m
def iW(cf:ae->ae->Int)(x y:ae):Bool:=decide (cf x y<0)
def Cm{y:ae}(h:cf x y<0):iW cf x y=true:=Qx h
def yM{y:ae}(h:¬cf x y<0):iW cf x y=false:=Qw h
theorem GB.xG{blk:Nat}{t:TypeId}{R:List X3}{C:List ae}(h:GB w blk t (SL L R))(e:L=A++x::C)(h1:i=N A):UK w (aD blk i)=O x.val:=by
 refine(h.cell i).trans ?_;have a:SL L R=(A.map ae.val++x.val::(C.map ae.val++R)).toArray:=by rw[e];unfold SL;simp
 grind
def ame(ha:a=p)(hj:j=a+(s+1))(h:j=jp+1):jp=p+s/\a<jp+1/\jp+1=p+s+1+0/\jp=a+s:=by omega
def amf{len l:Nat}(hl:len<=1000000)(hlen:b<=len)(hi:i<b)(hj:j<=i)(h:j=jp+1):jp<len/\jp+1<len/\i<=1000000/\jp<=i:=by omega
theorem zM(blk cap len a b g:Nat)(lb:Array X3)(cf:ae->ae->Int)(ok:ae->Prop)(w0:U)(hC:RZ V g lb cf blk w0 ok)(eg:∀args w,(callFunc g args).run V w=.ok (.enter g args) w)
  (P L Q:List ae) (R:List X3) (w:U) (hG:GB w blk 22 (SL (P++L++Q) R)) (hok:∀x∈L,ok x) (hK:Kept (λb=>b≠blk) w0 w) (ha:a=N P) (hb:b=N P+N L) (hlen:b<=len) (hl:len<=1000000) :
  Calls V 219 #[Z (O (aD blk 0)) len cap,I J a,I J b,.func (.func g) #[] lb] w λe w'=>e=FN (MV #[])/\GB w' blk 22 (SL (P++mg (iW cf) [] L++Q) R)/\Kept (λb=>b≠blk) w w':=by
 cases L with
 |nil =>
  have RN:¬((a:Int)+1<(b:Int)):=by grind
  have HG:Y3 _:=hG;have aA:a<=1000000:=by omega
  clear hG hK hlen hl ha hb;go_enter Tryz.func219,Tryz.ntmps219;go_wp2;refine wp_loop_rounds 1 ?_;rw[rounds_succ];go_wp2;go_end0;exact⟨rfl,HG.o,Qy _ _⟩
 |cons x0 L0 =>
  have HG:Y3 _:=hG;have HC:Y3 _:=hC;obtain⟨HO,HK,X⟩:=dQ hok hK (XK ha (XK hb (XK hlen hl)));have aA:a<=1000000:=by have:=X.o;omega
  have aL:wrap64 ((a:Int)+1)=((a+1:Nat):Int):=by unfold wrap64;omega
  clear hG hC hok hK ha hb hlen hl;go_enter Tryz.func219,Tryz.ntmps219;go_wp2;go_loopw [8] (λiv wr=>∃(i:Nat) (k L2:List ae),iv=I J i/\i<=b/\Y3 (x0::L0=k++L2/\i=a+N k/\GB wr blk 22 (SL (P++mg (iW cf) [] k++L2++Q) R)/\Kept (λb=>b≠blk) w wr)) (λiv _=>b-(intOf iv).toNat)
  case atStart=>
   refine⟨a+1,[x0],L0,by go_num,by have:=X.o;grind,rfl,rfl,?_,Qy _ _⟩;have e:P++mg (iW cf) [] [x0]++L0++Q=P++(x0::L0)++Q:=by show P++[x0]++L0++Q=_;simp
   rw[e];exact HG.o
  case round=>
   obtain⟨i,k,L2,rfl,aT,HI⟩:=hrel;obtain⟨eL,ei,v,t⟩:=HI.o
   cases L2 with
   |nil =>
    rw[Xd]at eL;rw[<-eL,Xd]at v;have aM:¬((i:Int)<(b:Int)):=by have h1:=X.o;rw[eL]at h1;omega
    have HF:=Zh (XK v t);clear HI v t ei eL;go_wp2;go_end0;exact⟨rfl,by have h:=HF.o.1;rw[ZE]at h;exact h,HF.o.2⟩
   |cons x L3 =>
    have hL:N (x0::L0)=N k+(N L3+1):=by rw[eL];simp
    have aB:(i:Int)<(b:Int):=by have h1:=X.o;omega
    have aN:i<=1000000:=by have h1:=X.o;omega
    have hx:=HO.o x (by rw[eL];simp);have W:∀y∈mg (iW cf) [] k,ok y:=λy hy=>by
     rcases Ad.1 hy with h|h
     .cases h
     .exact HO.o y (by grind)
    have ai:N (mg (iW cf) [] k)=N k:=by rw[qY];simp
    obtain⟨HX,HM,HE,af,av,zk⟩:=MP hx W eL ei (XK v t) ai;clear hx W eL ei v t ai hL HI;go_wp2;go_loopw [9] (λjv ay=>∃(j:Nat) (S1 p:List ae),jv=I J j/\j<=i/\Y3 (mg (iW cf) [] k=S1++p/\j=a+N S1/\(∀s∈p,iW cf x s=T)/\GB ay blk 22 (SL (P++S1++x::p++L3++Q) R)/\Kept (λb=>b≠blk) w ay)) (λjv _=>(intOf jv).toNat)
    case atStart=>
     refine⟨i,mg (iW cf) [] k,[],rfl,Qn _,by rw[Xd],by rw[zk.o];exact af.o,λs d=>(by cases d),?_,av.o.2⟩;have h:=av.o.1;have e:P++mg (iW cf) [] k++x::[]++L3++Q=P++mg (iW cf) [] k++x::L3++Q:=by simp
     rw[e];exact h
    case round=>
     obtain⟨j,S1,p,rfl,aC,HJ⟩:=hrel;obtain⟨eS,ej,z,v,t⟩:=HJ.o;rcases List.eq_nil_or_concat S1 with A|⟨u,y,A⟩
     .subst A;have aa:j=a:=ej;have aj:decide ((j:Int) > (a:Int))=false:=Qw (by rw[aa];exact Int.lt_irrefl _);have aO:¬(a:Int)<(j:Int):=of_decide_eq_false aj;have aP:¬a<j:=by rw[aa];exact Nat.lt_irrefl _
      have f:mg (iW cf) [] (k++[x])=x::p:=by rw[GJ,Ny,eS];exact yu (lt:=iW cf) (A1:=[]) z
      obtain⟨HF,q⟩:=aJ f (XK v t);clear HJ eS ej z v t f aa;go_wp2_with fail;go_quiet (fail);go_wp2;go_roundw
      case rel=>
       refine⟨i+1,k++[x],L3,by go_num,by omega,by rw[HE.o,ZE];rfl,by rw[Zn,af.o];rfl,?_,q.o.2.trans (Zp _ _)⟩;rw[HF.o];have h:=q.o.1.drewN nq;rw[Xd]at h;exact h
      case measure=>simp[intOf];omega
     .rw[List.concat_eq_append]at A;subst A;have hy:=HM.o y (by rw[eS];simp);obtain⟨r,ag⟩:∃r,j=r+1:=⟨a+N u,by rw[ej];simp;omega⟩
      have uu:=ame (s:=N u) X.o.1 (by rw[ej];simp) ag;have Bf:=amf (l:=0) X.o.2.2.2 X.o.2.2.1 (Int.ofNat_lt.1 aB) aC ag;have e:P++(u++[y])++x::p++L3++Q=(P++u)++y::[]++x::(p++L3++Q):=by simp
      have d:=v.RY e (i1:=r) (i2:=r+1) (by rw[Zn];exact uu.1) (by rw[Zn];exact uu.2.2.1);have hc:∀n,Calls V g (#[x.val,y.val]++lb) (wr.drewN n) λe W'=>e=FN (I J (cf x y))/\∃m,W' = (wr.drewN n).drewN m:=λn=>HC.o (wr.drewN n) x y ((HK.o.trans t).trans (Zp _ _)) HX.o hy;have f:¬cf x y<0->mg (iW cf) [] (k++[x])=u++[y]++x::p:=λaK=>by rw[GJ,Ny,eS,yu z,abh,ZU (by rw[yM aK];simp)];simp
      have ak:cf x y<0->∀s∈y::p,iW cf x s=true:=λhl s d=>by
       rcases Z0.1 d with h|h
       .rw[h];exact Cm hl
       .exact z s h
      have au:mg (iW cf) [] k=u++(y::p):=by rw[eS];simp
      subst ag;have c1:=d.c1;have c2:=d.c2;have z1:=d.z1;have z2:=d.z2;have aQ:IntKind.i64.wrap (r:Int)=(r:Int):=by rw[XE];omega
      have jz:(r:Int)+1<(len:Int):=by omega
      have aR:(r:Int)<(len:Int):=by omega
      have aj:(a:Int)<(r:Int)+1:=by omega
      have p0:(0:Int)<=(r:Int)+1:=by omega
      have e0:((r:Int)+1).toNat=r+1:=by omega
      obtain⟨HS,HF,aF,aG,q,ah,aH⟩:=ze d f ak au (XK v t) uu Bf;clear HJ eS ej z v t f e ak au d uu Bf hy;obtain⟨B,C,D⟩:=x;obtain⟨G,K,S⟩:=y;unfold ae.val at c1 c2 hc;simp only at c1 c2 hc;by_cases az:cf ⟨B,C,D⟩ ⟨G,K,S⟩<0
      .go_wp2_with fail;go_quiet (first|(go_at_fn g;refine X0 (hc _)));go_wp2_with fail;have e:P++(u++[ae.mk G K S])++ae.mk B C D::p++L3++Q=(P++u)++ae.mk G K S::[]++ae.mk B C D::(p++L3++Q):=by simp
       have d:=(q.o.1.drewN nq).RY e (i1:=r) (i2:=r+1) (by rw[Zn];exact ah.o.1) (by rw[Zn];exact ah.o.2.2.1);have t:Kept (λb=>b≠blk) w (wr.drewN nq):=q.o.2.trans (Zp _ _);clear c1 c2 z1 z2 hc q HS HF e;generalize wr.drewN nq=wq at*;obtain⟨j1,ax⟩:=eY (r+1);rw[<-ax]at e0 d;have c1:=d.c1;have c2:=d.c2;have z1:=d.z1;have z2:=d.z2;have aS:=d.ne;have hd:=d.down;unfold ae.val at c1 c2 hd;simp only at c1 c2 hd;obtain⟨HD,aI⟩:=aJ hd t;clear d hd t ax;go_region;have hd:=HD.o;clear HD;generalize ((wq.setCell { block:=blk,off:=j1 } (Value.slice G (N S) K)).setCell { block:=blk,off:=r } (Value.slice B (N D) C)).drew=wf at*;have HD:=Zh hd;clear hd;go_wp2;go_roundw
       case rel=>
        refine⟨r,u,ae.mk G K S::p,by first|rfl|go_num,aH.o.2.2.2,aG.o,ah.o.2.2.2,aF.o az,?_,aI.o.trans HD.o.2⟩;have h:=HD.o.1;have e:P++u++ae.mk B C D::(ae.mk G K S::p)++L3++Q=P++u++ae.mk B C D::[]++ae.mk G K S::(p++L3++Q):=by simp
        rw[e];exact h
       case measure=>simp[intOf]
      .go_wp2_with fail;go_quiet (first|(go_at_fn g;refine X0 (hc _)));go_wp2;go_roundw
       case rel=>
        refine⟨i+1,k++[⟨B,C,D⟩],L3,by go_num,by omega,by rw[HE.o,ZE];rfl,by rw[Zn,af.o];rfl,?_,q.o.2.trans (Zp _ _)⟩;rw[HF.o az];have h:=q.o.1.drewN nq;have e:P++(u++[ae.mk G K S]++ae.mk B C D::p)++L3++Q=P++(u++[ae.mk G K S])++ae.mk B C D::p++L3++Q:=by simp
        rw[e];exact h
       case measure=>simp[intOf];omega
section
variable {α:Type} {lt:α->α->Bool}
def ae1{x:α}{B1 B3:List α}(h1:∀y∈B1,lt y x=T)(h3:∀y∈B3,lt y x=F)(hB:bO lt (B1++B3)):mg lt [x] (B1++B3)=B1++x::B3:=by unfold bO at hB;rw[Ze]at hB;have e:=P5 (lt:=lt) (A1:=[]) (A2:=[x]) (B1:=B1) (B2:=B3) (λb f a d=>by simp_all) (λb _ a d=>by cases d) (λb f a d=>hB.2.2 a d b f);rw[QU]at e;rw[e,GK (lt:=lt) hB.1 (λb _ a d=>by cases d),QU,GK (lt:=lt) hB.2.1 (λb f a d=>by simp_all)];rfl
theorem aiC{y:α}{A1 A3:List α}(h1:∀a∈A1,lt y a=F)(h3:∀a∈A3,lt y a=T):mg lt (A1++A3) [y]=A1++y::A3:=by grind [Ny,yu,Lp]
def R3(Oq:lG lt){B4 B5:List α}{z x:α}(hB:bO lt (B4++z::B5))(h:lt z x=T):∀y∈B4,lt y x=true:=by
 intro y b;unfold bO at hB;rw[Ze]at hB;have a:=hB.2.2 y b z (by simp)
 cases hyx:lt y x with
 |true=>rfl
 |false =>
  have:=Oq.DF hyx a;simp_all
def R4(Oq:lG lt){B4 B5:List α}{z x:α}(hB:bO lt (B4++z::B5))(h:lt z x=F):∀y∈B5,lt y x=false:=by intro y a;unfold bO at hB;rw[Ze,Xe]at hB;exact Oq.DF h (hB.2.1.1 y a)
def Mc(Oq:lG lt){B4 B5:List α}{z x:α}(hB:bO lt (B4++z::B5))(h:lt x z=T):∀y∈B5,lt x y=true:=by
 intro y b;unfold bO at hB;rw[Ze,Xe]at hB;have a:=hB.2.1.1 y b
 cases hxy:lt x y with
 |true=>rfl
 |false =>
  have:=Oq.DF a hxy;simp_all
def Md(Oq:lG lt){B4 B5:List α}{z x:α}(hB:bO lt (B4++z::B5))(h:lt x z=F):∀y∈B4,lt x y=false:=by intro y a;unfold bO at hB;rw[Ze]at hB;exact Oq.DF (hB.2.2 y a z (by simp)) h
end
structure Ap(lt:ae->ae->Bool)(x:ae)(B:List ae)(m i j:Nat)(B1 B2 B3:List ae):Prop where
 eq:B=B1++B2++B3
 li:i=m+N B1
 lj:j=m+N B1+N B2
 lo:∀y∈B1,lt y x=T
 hi:∀y∈B3,lt y x=F
def Ob(h:i<j):i<=(i+j) / 2/\(i+j) / 2<j:=by omega
theorem Ap.step(h:Ap lt x B m i j B1 B2 B3)(Oq:lG lt)(hB:bO lt B)(hc:i<=c/\c<j) :
  ∃B4 z B5,B2=B4++z::B5/\c=m+N B1+N B4/\(lt z x=T->Ap lt x B m (c+1) j (B1++B4++[z]) B5 B3)/\(lt z x=F->Ap lt x B m i c B1 B4 (z::B5++B3)):=by
 have g:=h.li;have k:=h.lj;obtain⟨B4,f,e,p,q⟩:=nP B2 (c-i) (by omega);obtain⟨z,B5,rfl⟩:∃z B5,f=z::B5:=by
  cases f with
  |nil=>grind
  |cons z B5=>grind
 have l:=h.eq;have b:bO lt ((B1++B4)++z::(B5++B3)):=by grind
 have n:N B2=N B4+(N B5+1):=by rw[e];simp
 refine⟨B4,z,B5,e,by omega,λd=>⟨by grind,by simp;omega,by simp;omega,λy a=>?_,h.hi⟩,λd=>⟨by grind,g,by omega,h.lo,λy a=>?_⟩⟩
 .rcases Zi.1 a with a|a
  .exact R3 Oq b d y a
  grind
 .rcases Zi.1 a with a|a
  .rcases Z0.1 a with a|a
   .grind
   .exact R4 Oq b d y (Zi.2 (Or.inl a))
  .exact h.hi y a
structure Aq(lt:ae->ae->Bool)(x:ae)(B:List ae)(m i j:Nat)(B1 B2 B3:List ae):Prop where
 eq:B=B1++B2++B3
 li:i=m+N B1
 lj:j=m+N B1+N B2
 lo:∀y∈B1,lt x y=F
 hi:∀y∈B3,lt x y=T
theorem Aq.step(h:Aq lt x B m i j B1 B2 B3)(Oq:lG lt)(hB:bO lt B)(hc:i<=c/\c<j) :
  ∃B4 z B5,B2=B4++z::B5/\c=m+N B1+N B4/\(lt x z=F->Aq lt x B m (c+1) j (B1++B4++[z]) B5 B3)/\(lt x z=T->Aq lt x B m i c B1 B4 (z::B5++B3)):=by
 have g:=h.li;have k:=h.lj;obtain⟨B4,f,e,p,q⟩:=nP B2 (c-i) (by omega);obtain⟨z,B5,rfl⟩:∃z B5,f=z::B5:=by
  cases f with
  |nil=>grind
  |cons z B5=>grind
 have l:=h.eq;have b:bO lt ((B1++B4)++z::(B5++B3)):=by grind
 have n:N B2=N B4+(N B5+1):=by rw[e];simp
 refine⟨B4,z,B5,e,by omega,λd=>⟨by grind,by simp;omega,by simp;omega,λy a=>?_,h.hi⟩,λd=>⟨by grind,g,by omega,h.lo,λy a=>?_⟩⟩
 .rcases Zi.1 a with a|a
  .exact Md Oq b d y a
  grind
 .rcases Zi.1 a with a|a
  .rcases Z0.1 a with a|a
   .grind
   .exact Mc Oq b d y (Zi.2 (Or.inl a))
  .exact h.hi y a
def ap8{len i:Nat}(ha:a=p)(hm:m=p+1)(hb:b=p+1+lb)(hlen:b<=len)(hl:len<=1000000):m=a+1/\a<len/\b<=1000000/\m<=b:=by omega
theorem Ap.len(h:Ap lt x B m i j B1 B2 B3)(e:B2=B4++z::B5):N B=N B1+(N B4+(N B5+1))+N B3:=by rw[h.eq,e];grind
theorem Aq.len(h:Aq lt x B m i j B1 B2 B3)(e:B2=B4++z::B5):N B=N B1+(N B4+(N B5+1))+N B3:=by rw[h.eq,e];grind
def ap9(h:c=p+1+b1+b4):c=p+(b1+b4+1):=by omega
def Ea{k1:Nat}(h:k1=k+1)(hk:k<=1000000):wrap64 ((k:Int)+1)=(k1:Int)/\((k:Int)+1).toNat=k1/\(k:Int)+1=(k1:Int):=by unfold wrap64;omega
def aqa(h:k<i-1):k+1<=i:=by omega
def Cn(h:c=(i+j) / 2):((i:Int)+(j:Int)) / 2=(c:Int):=by omega
def aqb{len:Nat}(hm:m=p+1)(hb:b=p+1+lb)(hlen:b<=len)(hl:len<=1000000)(hB:lb=b1+(b4+(b5+1))+b3)(ec:c=m+b1+b4):c=p+1+b1+b4/\c<len/\c+1<=1000000/\(c:Int)<(len:Int):=by omega
def aqc{l2 len l3:Nat}(ha:a=p)(hm:m=p+1)(hi:i=m+(l1+(l2+1)))(hb:b=p+1+lb)(hlen:b<=len)(hl:len<=1000000)(hB:lb=l1+(l2+1)+l3):a+l1<i-1/\a+l1=p+l1/\a+l1+1=p+l1+1+0/\a+l1+1<len/\a+l1<len/\1<=i/\i<=1000000/\a+l1+1=a+(l1+1):=by omega
def aqd(ha:a=p)(hm:m=p+1)(hi:i=m+l1):¬a+l1<i-1/\1<=i:=by omega
def R5(blk cap len a m b g:Nat)(lb:Array X3)(cf:ae->ae->Int)(ok:ae->Prop)(w0:U)(hC:RZ V g lb cf blk w0 ok)(eg:∀args w,(callFunc g args).run V w=.ok (.enter g args) w)(Oq:lG (iW cf))
  (P B Q:List ae) (x:ae) (R:List X3) (w:U) (hG:GB w blk 22 (SL (P++x::B++Q) R)) (hB:bO (iW cf) B) (hx:ok x) (hok:∀y∈B,ok y) (hK:Kept (λb=>b≠blk) w0 w) (ha:a=N P) (hm:m=N P+1) (hb:b=N P+1+N B) (hlen:b<=len) (hl:len<=1000000) :
  Calls V 220 #[Z (O (aD blk 0)) len cap,I J a,I J m,I J b,.func (.func g) #[] lb] w λe w'=>e=FN (MV #[])/\GB w' blk 22 (SL (P++mg (iW cf) [x] B++Q) R)/\Kept (λb=>b≠blk) w w':=by
 have ag:=ap8 (i:=0) ha hm hb hlen hl;have ah:wrap64 ((m:Int)-(a:Int))=1:=by unfold wrap64;omega
 have HG:=Zh hG;have HC:Y3 _:=hC;obtain⟨HO,HX⟩:=aJ hok hx;have HB:Y3 _:=hB;obtain⟨HK,f,HN⟩:=dQ hK (XK ha (XK hm (XK hb (XK hlen hl)))) ag;clear hG hC hok hx hB hK ha hm hb hlen hl ag;go_enter Tryz.func220,Tryz.ntmps220;go_wp2;simp only[ah];clear ah;go_loopw [10,11] (λiv jv wr=>∃(i j n:Nat) (B1 B2 d:List ae),iv=I J i/\jv=I J j/\i<=j/\j<=1000000/\wr=w.drewN n/\Y3 (Ap (iW cf) x B m i j B1 B2 d)) (λiv jv _=>(intOf jv).toNat-(intOf iv).toNat)
 case atStart=>exact⟨m,b,0,[],B,[],rfl,rfl,HN.o.2.2.2,HN.o.2.2.1,rfl,by simp,rfl,by have:=f.o;simp;omega,λy hy=>(by cases hy),λy hy=>(by cases hy)⟩
 case round=>
  obtain⟨i,j,n,B1,B2,d,rfl,rfl,az,hj,rfl,l⟩:=hrel;by_cases ax:i<j
  .have hh:=Ob ax;obtain⟨c,hc⟩:∃c,c=(i+j) / 2:=⟨_,rfl⟩
   rw[<-hc]at hh;have ai:=Zh (Cn hc);clear hc;obtain⟨B4,z,B5,e2,ec,f1,f2⟩:=l.o.step Oq HB.o hh;have u:=l.o.len e2;have D:=aqb f.o.2.1 f.o.2.2.1 f.o.2.2.2.1 f.o.2.2.2.2 u ec;have ez:P++x::B++Q=(P++x::(B1++B4))++z::(B5++d++Q):=by rw[l.o.eq,e2];simp
   have kz:=(HG.o.drewN n).xG ez (i:=c) (by simp only[Zn,QO];exact ap9 D.1);have kx:=(HG.o.drewN n).xG (A:=P) (C:=B++Q) (x:=x) (by simp) (i:=a) f.o.1;have hz:=HO.o z (by rw[l.o.eq,e2];simp);have aI:=HN.o.2.1;have aK:=D.2.1;have aL:=D.2.2.1;have v:∀q,Calls V g (#[z.val,x.val]++lb) ((w.drewN n).drewN q) λe W'=>e=FN (I J (cf z x))/\∃m,W' = ((w.drewN n).drewN q).drewN m:=λq=>HC.o _ z x ((HK.o.trans (Zp _ _)).trans (Zp _ _)) hz HX.o;obtain⟨aA,UO,HH⟩:=dQ f1 f2 hh;clear f1 f2 D ez hz u e2 ec l hh;obtain⟨wq,p⟩:=eX (w.drewN n);have HQ:=Zh p;rw[p]at kz kx v ⊢;clear p;obtain⟨iZ,bL,fB⟩:=x;obtain⟨aB,aC,aF⟩:=z;unfold ae.val at kz kx v;simp only at kz kx v;by_cases ay:cf ⟨aB,aC,aF⟩ ⟨iZ,bL,fB⟩<0
   .go_upto_region 5 with fail;rw[ai.o];go_quiet (first|(go_at_fn g;refine X0 (v _)));go_wp2;go_roundw
    case rel=>exact⟨c+1,j,n+nq,_,_,_,by go_num,rfl,HH.o.2,hj,by rw[<-HQ.o,X4],aA.o (Cm ay)⟩
    case measure=>have:=HH.o;simp[intOf];omega
   .go_upto_region 5 with fail;rw[ai.o];go_quiet (first|(go_at_fn g;refine X0 (v _)));go_wp2;go_roundw
    case rel=>exact⟨i,c,n+nq,_,_,_,rfl,rfl,HH.o.1,by have:=HH.o;omega,by rw[<-HQ.o,X4],UO.o (yM ay)⟩
    case measure=>have:=HH.o;simp[intOf];omega
  .obtain rfl:i=j:=by omega
   have h1:=l.o.li;have h2:=l.o.lj;obtain rfl:B2=[]:=Qs (by omega);have eB:B=B1++d:=by rw[l.o.eq];simp
   have G:mg (iW cf) [x] B=B1++x::d:=by rw[eB];exact ae1 l.o.lo l.o.hi (by rw[<-eB];exact HB.o)
   have lu:=Zh G;have u:N B=N B1+N d:=by rw[eB];simp
   have W:1<=i/\i<=1000000:=by have:=f.o;omega
   have aj:GB (w.drewN n) blk 22 (SL (P++[]++x::B1++d++Q) R):=by
    have h:=HG.o.drewN n;have e:P++[]++x::B1++d++Q=P++x::B++Q:=by rw[eB];simp
    rw[e];exact h
   have ak:Y3 _:=aj;have HL:=Zh (XK h1 u);clear l h1 h2 eB G u aj hj az ax;have lJ:Kept (λb=>b≠blk) w (w.drewN n):=Zp _ _;have wG:=Zh lJ;clear lJ;obtain⟨wq,p⟩:=eX (w.drewN n);rw[p]at ak wG ⊢;clear p;go_wp2;go_loopw [13] (λkv wr=>∃(k:Nat) (t C2:List ae),kv=I J k/\k<=i/\Y3 (B1=t++C2/\k=a+N t/\GB wr blk 22 (SL (P++t++x::C2++d++Q) R)/\Kept (λb=>b≠blk) w wr)) (λkv _=>i-(intOf kv).toNat)
   case atStart=>exact⟨a,[],B1,rfl,by have:=f.o;have:=HL.o;omega,rfl,rfl,ak.o,wG.o⟩
   case round=>
    obtain⟨k,t,C2,rfl,aa,HJ⟩:=hrel;obtain⟨S,ek,hg,hk⟩:=HJ.o
    cases C2 with
    |nil =>
     rw[Xd]at S;have Bf:=aqd f.o.1 f.o.2.1 HL.o.1;rw[S,<-ek]at Bf;have aM:¬((k:Int)<((i-1:Nat):Int)):=by omega
     have hF:GB wr blk 22 (SL (P++(B1++x::d)++Q) R)/\Kept (λb=>b≠blk) w wr:=by
      refine⟨?_,hk⟩;have e:P++(B1++x::d)++Q=P++t++x::[]++d++Q:=by rw[S];simp
      rw[e];exact hg
     have l:=Zh hF;clear hF hg hk ek S HJ Bf;go_wp2;refine Zw (Q6 rfl _ _ _) rfl ?_;exact⟨rfl,by rw[lu.o];have h:=l.o.1;rw[ZE]at h;exact h,l.o.2⟩
    |cons y C3 =>
     have au:i=m+(N t+(N C3+1)):=by rw[HL.o.1,S,Zn];rfl
     have av:N B=N t+(N C3+1)+N d:=by rw[HL.o.2,S,Zn];rfl
     have K:=aqc f.o.1 f.o.2.1 au f.o.2.2.1 f.o.2.2.2.1 f.o.2.2.2.2 av;rw[<-ek]at K;have e:P++t++x::(y::C3)++d++Q=(P++t)++x::[]++y::(C3++d++Q):=by simp
     have L:=hg.RY e (i1:=k) (i2:=k+1) (by rw[Zn];exact K.2.1) (by rw[Zn];exact K.2.2.1);have aN:=Int.ofNat_lt.2 K.1;have h1:=K.2.2.2.1;have h2:=K.2.2.2.2.1;obtain⟨af,aG,aH⟩:=dQ K hk S;obtain⟨k1,r⟩:=eY (k+1);have aO:=(Ea r (Qz aa W.2)).1;have e0:=(Ea r (Qz aa W.2)).2.1;have e1:=(Ea r (Qz aa W.2)).2.2;have qL:=Zh r;rw[<-r]at L h1;obtain⟨iZ,bL,fB⟩:=x;obtain⟨wC,kN,wO⟩:=y;have c1:=L.c1;have c2:=L.c2;have z1:=L.z1;have z2:=L.z2;have aP:=L.ne;have X:=L.up;unfold ae.val at c1 c2 X;simp only at c1 c2 X;have HU:=Zh X;clear L X hg hk ek S HJ K e r au av;go_wp2;go_region;have X:=HU.o;clear HU;generalize ((wr.setCell { block:=blk,off:=k } (Value.slice wC (N wO) kN)).setCell { block:=blk,off:=k1 } (Value.slice iZ (N fB) bL)).drew=wf at*;have HU:=Zh X;clear X;go_wp2;go_roundw
     case rel=>
      refine⟨k1,t++[ae.mk wC kN wO],C3,by first|rfl|(rw[e1])|go_num,by rw[qL.o];exact(aqa af.o.1),by rw[aH.o,ZE];rfl,by rw[qL.o,Zn];exact af.o.2.2.2.2.2.2.2,?_,aG.o.trans HU.o.2⟩;have h:=HU.o.1;have e:P++(t++[ae.mk wC kN wO])++ae.mk iZ bL fB::C3++d++Q=P++t++ae.mk wC kN wO::[]++ae.mk iZ bL fB::(C3++d++Q):=by simp
      rw[e];exact h
     case measure=>have h1:=qL.o;have h2:=af.o.1;simp[intOf];omega
def aqe{len:Nat}(ha:a=p)(hm:m=p+la)(hb:b=p+la+1)(hlen:b<=len)(hl:len<=1000000)(h2:2<=la):wrap64 ((m:Int)-(a:Int))=(la:Int)/\wrap64 ((b:Int)-(m:Int))=1/\a<=m/\m<=1000000/\m<len/\((la:Int)==1)=F/\m=a+la:=by
 have h:¬(la:Int)=1:=by omega
 refine⟨by unfold wrap64;omega,by unfold wrap64;omega,by omega,by omega,by omega,by simpa using h,by omega⟩
def aqf{len:Nat}(ha:a=p)(hb:b=p+la+1)(hlen:b<=len)(hl:len<=1000000)(hA:la=b1+(b4+(b5+1))+b3)(ec:c=a+b1+b4):c=p+(b1+b4)/\c<len/\c+1<=1000000:=by omega
def aqg{c3 a1 len:Nat}(ha:a=p)(hi:i=a+a1)(hk:k=i+(c3+1))(h:k=kp+1)(hkm:k<=m)(hm:m<len)(hl:len<=1000000):kp=p+a1+c3/\kp+1=p+a1+c3+1+0/\kp+1<len/\kp<len/\i<kp+1/\kp=i+c3/\kp<=m/\kp+1<=1000000:=by omega
def aqh{len:Nat}(h1:i<kp+1)(h2:kp+1<len)(h3:kp+1<=1000000):(i:Int)<(kp:Int)+1/\(kp:Int)+1<(len:Int)/\(kp:Int)<(len:Int)/\(0:Int)<=(kp:Int)+1/\((kp:Int)+1).toNat=kp+1/\IntKind.i64.wrap (kp:Int)=(kp:Int):=by refine⟨by omega,by omega,by omega,by omega,by omega,by rw[XE];omega⟩
def Oc(blk cap len a m b g:Nat)(lb:Array X3)(cf:ae->ae->Int)(ok:ae->Prop)(w0:U)(hC:RZ V g lb cf blk w0 ok)(eg:∀args w,(callFunc g args).run V w=.ok (.enter g args) w)(Oq:lG (iW cf))
  (P A Q:List ae) (x:ae) (R:List X3) (w:U) (hG:GB w blk 22 (SL (P++A++x::Q) R)) (hB:bO (iW cf) A) (hx:ok x) (hok:∀y∈A,ok y) (hK:Kept (λb=>b≠blk) w0 w) (ha:a=N P) (hm:m=N P+N A) (hb:b=N P+N A+1) (hlen:b<=len) (hl:len<=1000000) (h2:2<=N A) :
  Calls V 220 #[Z (O (aD blk 0)) len cap,I J a,I J m,I J b,.func (.func g) #[] lb] w λe w'=>e=FN (MV #[])/\GB w' blk 22 (SL (P++mg (iW cf) A [x]++Q) R)/\Kept (λb=>b≠blk) w w':=by
 have l:=aqe ha hm hb hlen hl h2;have X:=l.1;have aa:=l.2.1;have af:=l.2.2.2.2.2.1;have O8:=l.2.2.2.2.1;have HG:=Zh hG;have HC:Y3 _:=hC;obtain⟨HO,HX⟩:=aJ hok hx;have HB:Y3 _:=hB;obtain⟨HK,S,HN⟩:=dQ hK (XK ha (XK hm (XK hb (XK hlen hl)))) l;clear hG hC hok hx hB hK ha hm hb hlen hl l;go_enter Tryz.func220,Tryz.ntmps220;go_wp2;simp only[X,aa,af];clear X aa af h2;go_loopw [14,15] (λiv jv wr=>∃(i j n:Nat) (B1 B2 d:List ae),iv=I J i/\jv=I J j/\i<=j/\j<=1000000/\wr=w.drewN n/\Y3 (Aq (iW cf) x A a i j B1 B2 d)) (λiv jv _=>(intOf jv).toNat-(intOf iv).toNat)
 case atStart=>exact⟨a,m,0,[],A,[],rfl,rfl,HN.o.2.2.1,HN.o.2.2.2.1,rfl,by simp,rfl,HN.o.2.2.2.2.2.2,λy hy=>(by cases hy),λy hy=>(by cases hy)⟩
 case round=>
  obtain⟨i,j,n,B1,B2,d,rfl,rfl,aF,hj,rfl,f⟩:=hrel;by_cases az:i<j
  .have hh:=Ob az;obtain⟨c,hc⟩:∃c,c=(i+j) / 2:=⟨_,rfl⟩
   rw[<-hc]at hh;have ag:=Zh (Cn hc);clear hc;obtain⟨B4,z,B5,e2,ec,f1,f2⟩:=f.o.step Oq HB.o hh;have ah:=f.o.len e2;have t:=aqf S.o.1 S.o.2.2.1 S.o.2.2.2.1 S.o.2.2.2.2 ah ec;have ez:P++A++x::Q=(P++(B1++B4))++z::(B5++d++x::Q):=by rw[f.o.eq,e2];simp
   have kz:=(HG.o.drewN n).xG ez (i:=c) (by simp only[Zn];exact t.1);have kx:=(HG.o.drewN n).xG (A:=P++A) (C:=Q) (x:=x) rfl (i:=m) (by rw[Zn];exact S.o.2.1);have hz:=HO.o z (by rw[f.o.eq,e2];simp);have aO:=t.2.1;have aP:=t.2.2;have r:∀q,Calls V g (#[x.val,z.val]++lb) ((w.drewN n).drewN q) λe W'=>e=FN (I J (cf x z))/\∃m,W' = ((w.drewN n).drewN q).drewN m:=λq=>HC.o _ x z ((HK.o.trans (Zp _ _)).trans (Zp _ _)) HX.o hz;obtain⟨aG,UO,HH⟩:=dQ f1 f2 hh;clear f1 f2 t ez hz ah e2 ec f hh;obtain⟨wq,p⟩:=eX (w.drewN n);have HQ:=Zh p;rw[p]at kz kx r ⊢;clear p;obtain⟨iZ,bL,fB⟩:=x;obtain⟨aH,aI,aK⟩:=z;unfold ae.val at kz kx r;simp only at kz kx r;by_cases aA:cf ⟨iZ,bL,fB⟩ ⟨aH,aI,aK⟩<0
   .go_upto_region 17 with fail;rw[ag.o];go_quiet (first|(go_at_fn g;refine X0 (r _)));go_wp2;go_roundw
    case rel=>exact⟨i,c,n+nq,_,_,_,rfl,rfl,HH.o.1,by have:=HH.o;omega,by rw[<-HQ.o,X4],UO.o (Cm aA)⟩
    case measure=>have:=HH.o;simp[intOf];omega
   .go_upto_region 17 with fail;rw[ag.o];go_quiet (first|(go_at_fn g;refine X0 (r _)));go_wp2;go_roundw
    case rel=>exact⟨c+1,j,n+nq,_,_,_,by go_num,rfl,HH.o.2,hj,by rw[<-HQ.o,X4],aG.o (yM aA)⟩
    case measure=>have:=HH.o;simp[intOf];omega
  .obtain rfl:i=j:=by omega
   have h1:=f.o.li;have h2:=f.o.lj;obtain rfl:B2=[]:=Qs (by omega);have eB:A=B1++d:=by rw[f.o.eq];simp
   have B:mg (iW cf) A [x]=B1++x::d:=by rw[eB];exact aiC f.o.lo f.o.hi
   have lu:=Zh B;have ai:m=i+N d:=by rw[h1,HN.o.2.2.2.2.2.2,eB,Zn,X5]
   have aj:GB (w.drewN n) blk 22 (SL (P++B1++d++x::[]++Q) R):=by
    have h:=HG.o.drewN n;have e:P++B1++d++x::[]++Q=P++A++x::Q:=by rw[eB];simp
    rw[e];exact h
   have ak:Y3 _:=aj;obtain⟨aL,aM⟩:=aJ ai h1;clear f h1 h2 eB B ai aj hj aF az;have lJ:Kept (λb=>b≠blk) w (w.drewN n):=Zp _ _;have wG:=Zh lJ;clear lJ;obtain⟨wq,p⟩:=eX (w.drewN n);rw[p]at ak wG ⊢;clear p;go_wp2;go_loopw [17] (λkv wr=>∃(k:Nat) (C1 v:List ae),kv=I J k/\k<=m/\Y3 (d=C1++v/\k=i+N C1/\GB wr blk 22 (SL (P++B1++C1++x::v++Q) R)/\Kept (λb=>b≠blk) w wr)) (λkv _=>(intOf kv).toNat)
   case atStart=>exact⟨m,d,[],rfl,Qn _,by rw[Xd],aL.o,ak.o,wG.o⟩
   case round=>
    obtain⟨k,C1,v,rfl,au,HJ⟩:=hrel;obtain⟨eC,ek,hg,hk⟩:=HJ.o;rcases List.eq_nil_or_concat C1 with u|⟨L,y,u⟩
    .subst u;have aB:k=i:=ek;subst aB;rw[QU]at eC;subst eC;have hF:GB wr blk 22 (SL (P++(B1++x::d)++Q) R)/\Kept (λb=>b≠blk) w wr:=by
      refine⟨?_,hk⟩;have e:P++(B1++x::d)++Q=P++B1++[]++x::d++Q:=by simp
      rw[e];exact hg
     have f:=Zh hF;clear hF hg hk ek HJ;go_wp2;refine Zw (Q6 rfl _ _ _) rfl ?_;exact⟨rfl,by rw[lu.o];have h:=f.o.1;omega,f.o.2⟩
    .rw[List.concat_eq_append]at u;subst u;obtain⟨W,av⟩:∃W,k=W+1:=⟨i+N L,by rw[ek,Zn];rfl⟩
     have G:=aqg S.o.1 aM.o (by rw[ek,Zn];rfl) av au O8 S.o.2.2.2.2;have Bf:=aqh G.2.2.2.2.1 G.2.2.1 G.2.2.2.2.2.2.2;have e:P++B1++(L++[y])++x::v++Q=(P++B1++L)++y::[]++x::(v++Q):=by simp
     have D:=hg.RY e (i1:=W) (i2:=W+1) (by simp only[Zn];exact G.1) (by simp only[Zn];exact G.2.1);subst av;obtain⟨h1,h2,h3,h4,e0,aR⟩:=Bf;obtain⟨ax,aN⟩:=aJ G hk;have aC:Y3 (d=L++(y::v)):=by show d=_;rw[eC];simp
     obtain⟨k1,ay⟩:=eY (W+1);rw[<-ay]at D e0;obtain⟨iZ,bL,fB⟩:=x;obtain⟨wC,kN,wO⟩:=y;have c1:=D.c1;have c2:=D.c2;have z1:=D.z1;have z2:=D.z2;have aQ:=D.ne;have K:=D.down;unfold ae.val at c1 c2 K;simp only at c1 c2 K;have HU:=Zh K;clear D K hg hk ek eC HJ G e ay au;go_wp2;go_region;have K:=HU.o;clear HU;generalize ((wr.setCell { block:=blk,off:=k1 } (Value.slice wC (N wO) kN)).setCell { block:=blk,off:=W } (Value.slice iZ (N fB) bL)).drew=wf at*;have HU:=Zh K;clear K;go_wp2;go_roundw
     case rel=>
      refine⟨W,L,ae.mk wC kN wO::v,by first|rfl|go_num,ax.o.2.2.2.2.2.2.1,aC.o,ax.o.2.2.2.2.2.1,?_,aN.o.trans HU.o.2⟩;have h:=HU.o.1;have e:P++B1++L++ae.mk iZ bL fB::(ae.mk wC kN wO::v)++Q=P++B1++L++ae.mk iZ bL fB::[]++ae.mk wC kN wO::(v++Q):=by simp
      rw[e];exact h
     case measure=>simp[intOf]
structure Span(a m b l8 n s0 r0:Nat):Prop where
 h1:n=l8+m
 h2:a<=s0/\s0<=r0/\r0<=m
 h3:m<=n-r0/\n-s0<=b/\r0<=n
 h4:s0=a∨n-s0=b
 h5:r0=m∨n-r0=m
 h6:a<=l8/\l8<=b
 h7:∀c,s0<=c->c<r0->a<=c/\c<m/\m<=n-1-c/\n-1-c<b/\1<=n/\c<=n-1
def aiE(h1:a<m)(h2:m<b)(hm:l8=(a+b) / 2)(h:l8<m):Span a m b l8 (l8+m) (l8+m-b) l8:=by refine⟨rfl,by omega,by omega,Or.inr (by omega),Or.inr (by omega),by omega,λc d e=>by omega⟩
def aiF(h1:a<m)(h2:m<b)(hm:l8=(a+b) / 2)(h:¬l8<m):Span a m b l8 (l8+m) a m:=by refine⟨rfl,by omega,by omega,Or.inl rfl,Or.inl rfl,by omega,λc d e=>by omega⟩
structure Ar(lt:ae->ae->Bool)(A B:List ae)(a m n s0 r0 s r:Nat):Prop where
 le:s0<=s/\s<=r/\r<=r0
 lo:s=s0∨lt ((E B (n-1-(s-1)-m) iz)) (E A (s-1-a) iz)=F
 hi:r=r0∨lt ((E B (n-1-r-m) iz)) (E A (r-a) iz)=T
structure Od(lt:ae->ae->Bool)(A B A1 A2 B1 B2:List ae)(a m b l8 s e:Nat):Prop where
 eA:A=A1++A2
 eB:B=B1++B2
 l1:s=a+N A1
 l2:m=s+N A2
 l3:e=m+N B1
 l4:b=e+N B2
 l5:l8=a+N A1+N B1
 c1:∀y∈B1,∀x∈A2,lt y x=T
 c2:∀y∈B2,∀x∈A1,lt y x=F
theorem getD_eq(e:L=A1++x::A2)(h:i=N A1):E L i iz=x:=by simp_all
theorem Ar.four(Oq:lG lt)(S:Span a m b l8 n s0 r0)(h:Ar lt A B a m n s0 r0 s s)(hA:bO lt A)(hB:bO lt B)(hm:m=a+N A)(hb:b=m+N B) :
  ∃A1 A2 B1 B2,Od lt A B A1 A2 B1 B2 a m b l8 s (n-s):=by
 have P:=S.h1;have Q:=S.h2;have R:=S.h3;have W:=S.h6;have q:=h.le;obtain⟨A1,A2,C,D,G⟩:=nP A (s-a) (by omega);obtain⟨B1,B2,p,K,L⟩:=nP B (n-s-m) (by omega);refine⟨A1,A2,B1,B2,C,p,by omega,by omega,by omega,by omega,by omega,?_,?_⟩
 .intro y d x e;rcases List.eq_nil_or_concat B1 with g|⟨i,z,g⟩
  .grind
  .rw[List.concat_eq_append]at g
   cases hA2:A2 with
   |nil=>grind
   |cons v k =>
    have r:N B1=N i+1:=by grind
    have t:N A2=N k+1:=by rw[hA2];rfl
    have l:lt z v=true:=by
     rcases h.hi with h|h
     .grind [Span.h5]
     .have u:E B (n-1-s-m) iz=z:=getD_eq (A1:=i) (A2:=B2) (by grind) (by omega)
      grind [getD_eq]
    have f:lt y v=true:=by
     rw[g]at d;rcases Zi.1 d with d|d
     .exact R3 Oq (B4:=i) (B5:=B2) (by grind) l y d
     grind
    rw[hA2]at e;rcases Z0.1 e with e|e
    .grind
    .exact Mc Oq (B4:=A1) (B5:=k) (by grind) f x e
 .intro y d x e;rcases List.eq_nil_or_concat A1 with j|⟨k,z,j⟩
  .grind
  .rw[List.concat_eq_append]at j
   cases hB2:B2 with
   |nil=>grind
   |cons v i =>
    have r:N A1=N k+1:=by grind
    have t:N B2=N i+1:=by rw[hB2];rfl
    have l:lt v z=false:=by
     rcases h.lo with h|h
     .grind [Span.h4]
     .have u:E B (n-1-(s-1)-m) iz=v:=getD_eq (A1:=B1) (A2:=i) (by rw[p,hB2]) (by omega)
      grind [getD_eq]
    have f:lt y z=false:=by
     rw[hB2]at d;rcases Z0.1 d with d|d
     .grind
     .exact R4 Oq (B4:=B1) (B5:=i) (by grind) l y d
    rw[j]at e;rcases Zi.1 e with e|e
    .exact Md Oq (B4:=k) (B5:=A2) (by grind) f x e
    grind
theorem Od.mg(h:Od lt A B A1 A2 B1 B2 a m b l8 s e)(hB:bO lt B):mg lt A B=mg lt A1 B1++mg lt A2 B2:=by rw[h.eA,h.eB];grind [P5,Od.c1,Od.c2,bO,Od.eB]
theorem R6(hA:bO lt A)(hB:bO lt B)(h:N A=0∨N B=0):mg lt A B=A++B:=by grind [GK]
theorem Od.rows(h:Od lt A B A1 A2 B1 B2 a m b l8 s e)(hA:bO lt A)(hB:bO lt B):bO lt A1/\bO lt A2/\bO lt B1/\bO lt B2:=by rw[h.eA]at hA;rw[h.eB]at hB;grind [bO]
def Ar.step(h:Ar lt A B a m n s0 r0 s r)(hc:s<=c/\c<r) :
  (lt (E B (n-1-c-m) iz) (E A (c-a) iz)=F->Ar lt A B a m n s0 r0 (c+1) r)/\(lt (E B (n-1-c-m) iz) (E A (c-a) iz)=T->Ar lt A B a m n s0 r0 s c):=by have d:=h.le;refine⟨λb=>⟨by omega,Or.inr ?_,h.hi⟩,λb=>⟨by omega,h.lo,Or.inr b⟩⟩;simp_all
def aqi{len:Nat}(ha:a=p)(hm:m=p+la)(hb:b=p+la+lb)(hlen:b<=len)(hl:len<=1000000)(h1:2<=la)(h2:2<=lb)(hmid:l8=(a+b) / 2) :
  wrap64 ((m:Int)-(a:Int))=(la:Int)/\wrap64 ((b:Int)-(m:Int))=(lb:Int)/\((la:Int)==1)=F/\((lb:Int)==1)=F/\wrap64 ((l8:Int)+(m:Int))=((l8+m:Nat):Int)/\a<m/\m<b/\m=a+la/\b=m+lb/\l8+m<=4000000/\a<=1000000/\b<=1000000/\m<=1000000:=by
 have d:¬(la:Int)=1:=by omega
 have e:¬(lb:Int)=1:=by omega
 refine⟨by unfold wrap64;omega,by unfold wrap64;omega,by simpa using d,by simpa using e,by unfold wrap64;omega,by omega,by omega,by omega,by omega,by omega,by omega,by omega,by omega⟩
def aqj(ha:a=p)(hm:m=p+la)(hb:b=p+la+lb)(h1:2<=la)(h2:2<=lb):a+2<=m/\m+2<=b:=by omega
def aqk(S:Span a m b l8 n s0 r0)(hl:n<=4000000)(hm:m<=1000000)(h:a<m):1<=n/\s0<=1000000/\r0<=1000000/\s0<=r0:=by have d:=S.h1;have e:=S.h2;omega
def aql(h1:a<m)(h2:m<b)(hm:l8=(a+b) / 2)(h:l8<m):b<=l8+m:=by omega
def aqm(ha:a=N P)(hm:m=a+N A)(hb:b=m+N B)(h:a<=c/\c<m/\m<=n-1-c/\n-1-c<b/\1<=n/\c<=n-1) :
  (∃d j,P++A++B++Q=d++E A (c-a) iz::j/\c=N d)/\(∃d j,P++A++B++Q=d++E B (n-1-c-m) iz::j/\n-1-c=N d)/\E A (c-a) iz∈A/\E B (n-1-c-m) iz∈B:=by
 obtain⟨A1,A2,e,p,f⟩:=nP A (c-a) (by omega);obtain⟨B1,B2,g,q,i⟩:=nP B (n-1-c-m) (by omega)
 cases A2 with
 |nil=>simp at f;omega
 |cons x A3 =>
  cases B2 with
  |nil=>simp at i;omega
  |cons y B3 =>
   have k:=getD_eq e p.symm;have l:=getD_eq g q.symm;rw[k,l];refine⟨⟨P++A1,A3++B++Q,by rw[e];simp,by rw[Zn];omega⟩,⟨P++A++B1,B3++Q,by rw[g];simp,by simp only[Zn];omega⟩,by rw[e];simp,by rw[g];simp⟩
def aqn{len:Nat}(hn:n=np+1)(he:e=n-1-c)(h:c<m/\n-1-c<b/\c<=n-1)(hmb:m<b)(hlen:b<=len)(hl:len<=1000000):(np:Int)-(c:Int)=(e:Int)/\c<len/\e<len/\c+1<=1000000/\wrap64 ((np:Int)-(c:Int))=(e:Int):=by refine⟨by omega,by omega,by omega,by omega,by unfold wrap64;omega⟩
def aqo(S:Span a m b l8 n s0 r0)(h1:s0<=s/\s<=r/\r<=r0)(h2:s<=c/\c<r):a<=c/\c<m/\m<=n-1-c/\n-1-c<b/\1<=n/\c<=n-1:=S.h7 c (by omega) (by omega)
def aqp(S:Span a m b l8 n s0 r0)(h1:s0<=s/\s<=s/\s<=r0)(hn:n=np+1)(hl:n<=4000000):s<=n/\wrap64 ((n:Int)-(s:Int))=((n-s:Nat):Int)/\(n:Int)-(s:Int)=((n-s:Nat):Int):=by have d:=S.h3;refine⟨by omega,by unfold wrap64;omega,by omega⟩
def dec_lt(h:¬a<b):decide ((a:Int)<(b:Int))=false:=Qw (by omega)
def ae2(h:1<=n):n=n-1+1:=by omega
def nat_eq(h1:s<=r)(h2:¬s<r):s=r:=by omega
def aiG(h:c<r)(h2:r<=k):c<=k:=by omega
def or_zero{x:Nat}(h:¬(0<x/\0<y)):x=0∨y=0:=by omega
def amh{x:Nat}(h:¬(0<x/\0<y))(h0:0<x):y=0:=by omega
def ami{x:Nat}(h0:¬0<x):x=0:=by omega
def amj(h:s<=c/\c<r):c-s<r-s:=by omega
def amk(h:s<=c/\c<r):r-(c+1)<r-s:=by omega
structure aqr(P A1 A2 B1 B2:List ae)(a m b l8 s e Nq len:Nat):Prop where
 t1:s<m↔0<N A2
 t2:m<e↔0<N B1
 t3:a<s↔0<N A1
 t4:s<l8↔0<N B1
 t5:l8<e↔0<N A2
 t6:e<b↔0<N B2
 n1:N A1+N B1<=Nq
 n2:N A2+N B2<=Nq
 q1:s=N P+N A1
 q2:m=N P+N A1+N A2
 q3:e=N P+N A1+N A2+N B1
 q4:l8=N P+N A1+N B1
 q5:e<=len/\l8<=len/\e<=1000000
 q6:e=N P+(N A1+N B1)+N A2
 q7:b=N P+(N A1+N B1)+N A2+N B2
 q8:l8=N P+(N A1+N B1)
def aml{Nq len:Nat}(h:Od lt A B A1 A2 B1 B2 a m b l8 s e)(ha:a=N P)(hm:m=a+N A)(hb:b=m+N B)(h2:a+2<=m)(h3:m+2<=b)(hmid:l8=(a+b) / 2)(hN:N A+N B<=Nq+1)(hlen:b<=len)(hl:len<=1000000):aqr P A1 A2 B1 B2 a m b l8 s e Nq len:=by have d:=h.l1;have f:=h.l2;have g:=h.l3;have i:=h.l4;have j:=h.l5;refine⟨by omega,by omega,by omega,by omega,by omega,by omega,by omega,by omega,by omega,by omega,by omega,by omega,by omega,by omega,by omega,by omega⟩
def aas(Nq:Nat):Prop:=
 ∀(blk cap len a m b g:Nat) (lb:Array X3) (cf:ae->ae->Int) (ok:ae->Prop) (w0:U) (_:RZ V g lb cf blk w0 ok) (_:∀args w,(callFunc g args).run V w=.ok (.enter g args) w) (_:lG (iW cf))
  (P A B Q:List ae) (R:List X3) (w:U) (_:GB w blk 22 (SL (P++A++B++Q) R)) (_:bO (iW cf) A) (_:bO (iW cf) B) (_:∀y∈A,ok y) (_:∀y∈B,ok y) (_:Kept (λb=>b≠blk) w0 w) (_:a=N P) (_:m=N P+N A) (_:b=N P+N A+N B) (_:b<=len) (_:len<=1000000) (_:0<N A) (_:0<N B) (_:N A+N B<=Nq),
  Calls V 220 #[Z (O (aD blk 0)) len cap,I J a,I J m,I J b,.func (.func g) #[] lb] w λe w'=>e=FN (MV #[])/\GB w' blk 22 (SL (P++mg (iW cf) A B++Q) R)/\Kept (λb=>b≠blk) w w'
def VZ(Nq:Nat)(ih:aas Nq)(blk cap len a m b g:Nat)(lb:Array X3)(cf:ae->ae->Int)(ok:ae->Prop)(w0:U)(hC:RZ V g lb cf blk w0 ok)(eg:∀args w,(callFunc g args).run V w=.ok (.enter g args) w)(Oq:lG (iW cf))
  (P A B Q:List ae) (R:List X3) (w:U) (hG:GB w blk 22 (SL (P++A++B++Q) R)) (hA:bO (iW cf) A) (hB:bO (iW cf) B) (hoA:∀y∈A,ok y) (hoB:∀y∈B,ok y) (hK:Kept (λb=>b≠blk) w0 w) (ha:a=N P) (hm:m=N P+N A) (hb:b=N P+N A+N B) (hlen:b<=len) (hl:len<=1000000) (h1:2<=N A) (h2:2<=N B) (hN:N A+N B<=Nq+1) :
  Calls V 220 #[Z (O (aD blk 0)) len cap,I J a,I J m,I J b,.func (.func g) #[] lb] w λe w'=>e=FN (MV #[])/\GB w' blk 22 (SL (P++mg (iW cf) A B++Q) R)/\Kept (λb=>b≠blk) w w':=by
 obtain⟨u,t⟩:∃u,u=(a+b) / 2:=⟨_,rfl⟩;have az:=Zh (Cn t);obtain⟨aY,aZ,bf,bg,aM,aa,af,aN,aO,Bf,bD,bE,bn⟩:=aqi ha hm hb hlen hl h1 h2 t;obtain⟨bq,bu⟩:=aqj ha hm hb h1 h2;have HG:=Zh hG;have HC:Y3 _:=hC;obtain⟨ag,ah⟩:=aJ hoA hoB;have HA:Y3 _:=hA;have HB:Y3 _:=hB;obtain⟨HK,j⟩:=aJ hK (XK ha (XK aN (XK aO (XK hlen (XK hl (XK hN t))))));have IH:Y3 _:=ih;obtain⟨la,aP⟩:=eX (N A);obtain⟨l2,aQ⟩:=eX (N B);rw[aP]at aY bf h1;rw[aQ]at aZ bg h2;clear hG hC hoA hoB hA hB hK ha hm hb hlen hN ih t aN aO aP aQ;go_enter Tryz.func220,Tryz.ntmps220;go_upto_region 25 with fail;rw[az.o];clear az;obtain⟨n,hn⟩:=eY (u+m);rw[<-hn]at aM Bf;have HN:=Zh hn;clear hn;go_upto_if 140 with fail;go_cut [20,21] from 25 to 146 (λs r wx=>∃s0 r0:Nat,s=I J s0/\r=I J r0/\w=wx/\Y3 (Span a m b u n s0 r0))
 case first=>
  by_cases ax:u<m
  .skip;have X:Y3 (Span a m b u n (n-b) u):=by show Span _ _ _ _ _ _ _;rw[HN.o];exact aiE aa af j.o.2.2.2.2.2.2 ax
   go_wp2_with fail;go_meet;exact⟨n-b,u,Ia (by rw[HN.o];exact aql aa af j.o.2.2.2.2.2.2 ax),rfl,rfl,X.o⟩
  .have X:Y3 (Span a m b u n a m):=by show Span _ _ _ _ _ _ _;rw[HN.o];exact aiF aa af j.o.2.2.2.2.2.2 ax
   go_wp2_with fail;go_meet;exact⟨a,m,rfl,rfl,rfl,X.o⟩
 case rest=>
 obtain⟨s0,r0,rfl,rfl,rfl,X⟩:=hcut;have aA:=aqk X.o Bf bn aa;obtain⟨np,bz⟩:∃np,n=np+1:=⟨n-1,ae2 aA.1⟩;rw[aM];subst bz;have z:((np+1:Nat):Int)=(np:Int)+1:=rfl;rw[z];clear z;obtain⟨-,bF,bA,yw⟩:=aA;go_wp2;go_loopw [20,21] (λsv rv wr=>∃s r k:Nat,sv=I J s/\rv=I J r/\s<=r/\r<=1000000/\wr=w.drewN k/\Y3 (Ar (iW cf) A B a m (np+1) s0 r0 s r)) (λsv rv _=>(intOf rv).toNat-(intOf sv).toNat)
 case atStart=>exact⟨s0,r0,0,rfl,rfl,yw,bA,rfl,⟨⟨Qn _,yw,Qn _⟩,Or.inl rfl,Or.inl rfl⟩⟩
 case round=>
  obtain⟨s,r,k,rfl,rfl,aR,hr,rfl,HP⟩:=hrel;by_cases ay:s<r
  .have hh:=Ob ay;obtain⟨c,hc⟩:∃c,c=(s+r) / 2:=⟨_,rfl⟩
   rw[<-hc]at hh;have aB:=Zh (Cn hc);clear hc;have h7:=aqo X.o HP.o.le hh;obtain⟨⟨L1,L2,eL,lL⟩,⟨M1,M2,eM,lM⟩,mA,mB⟩:=aqm (P:=P) (Q:=Q) j.o.1 j.o.2.1 j.o.2.2.1 h7;have kx:=(HG.o.drewN k).xG eL lL;have ky:=(HG.o.drewN k).xG eM lM;have aC:=HP.o.step hh;have C:=ag.o _ mA;have i:=ah.o _ mB;obtain⟨e,he⟩:=eY (np+1-1-c);have aV:=aqn rfl he ⟨h7.2.1,h7.2.2.2.1,h7.2.2.2.2.2⟩ af j.o.2.2.2.1 hl;generalize E A (c-a) iz=x at*;generalize E B (np+1-1-c-m) iz=y at*;rw[<-he]at ky;have D:∀q,Calls V g (#[y.val,x.val]++lb) ((w.drewN k).drewN q) λe W'=>e=FN (I J (cf y x))/\∃m,W' = ((w.drewN k).drewN q).drewN m:=λq=>HC.o _ y x ((HK.o.trans (Zp _ _)).trans (Zp _ _)) i C;obtain⟨bG,bH,bI,bJ,bK⟩:=aV;obtain⟨aS,HH⟩:=aJ aC hh;clear aC hh h7 eL lL eM lM mA mB C i he HP L1 L2 M1 M2;obtain⟨wq,K⟩:=eX (w.drewN k);have HQ:=Zh K;rw[K]at kx ky D ⊢;clear K;obtain⟨iZ,bL,fB⟩:=x;obtain⟨wC,kN,wO⟩:=y;unfold ae.val at kx ky D;simp only at kx ky D;by_cases aU:cf ⟨wC,kN,wO⟩ ⟨iZ,bL,fB⟩<0
   .go_upto_region 35 with fail;rw[aB.o];go_quiet (first|(go_at_fn g;refine X0 (D _)));go_wp2;go_roundw
    case rel=>exact⟨s,c,k+nq,rfl,rfl,HH.o.1,aiG HH.o.2 hr,by rw[<-HQ.o,X4],aS.o.2 (Cm aU)⟩
    case measure=>
     simp only[intOf,Xk];exact amj HH.o
   .go_upto_region 35 with fail;rw[aB.o];go_quiet (first|(go_at_fn g;refine X0 (D _)));go_wp2;go_roundw
    case rel=>exact⟨c+1,r,k+nq,rfl,rfl,HH.o.2,hr,by rw[<-HQ.o,X4],aS.o.1 (yM aU)⟩
    case measure=>
     have ec:(c:Int)+1=((c+1:Nat):Int):=rfl;simp only[intOf,ec,Xk];exact amk HH.o
  .obtain rfl:s=r:=nat_eq aR ay;obtain⟨A1,A2,B1,B2,L⟩:=HP.o.four Oq X.o HA.o HB.o j.o.2.1 j.o.2.2.1;have aj:=aqp X.o HP.o.le rfl Bf;have aF:=L.mg HB.o;have aG:=L.rows HA.o HB.o;obtain⟨en,aT⟩:=eY (np+1-s)
   rw[<-aT]at L aj;have ak:=aml (P:=P) L j.o.1 j.o.2.1 j.o.2.2.1 bq bu j.o.2.2.2.2.2.2 j.o.2.2.2.2.2.1 j.o.2.2.2.1 hl;have aW:(np:Int)+1-(s:Int)=(en:Int):=aj.2.2;have aH:GB (w.drewN k) blk 22 (SL (P++A1++A2++B1++(B2++Q)) R):=by
    have h:=HG.o.drewN k;have e:P++A1++A2++B1++(B2++Q)=P++A++B++Q:=by rw[L.eA,L.eB];simp
    rw[e];exact h
   have ai:(∀y∈A1,ok y)/\(∀y∈A2,ok y)/\(∀y∈B1,ok y)/\(∀y∈B2,ok y):=⟨λy i=>ag.o y (by rw[L.eA];exact Zi.2 (Or.inl i)),λy i=>ag.o y (by rw[L.eA];exact Zi.2 (Or.inr i)),λy i=>ah.o y (by rw[L.eB];exact Zi.2 (Or.inl i)),λy i=>ah.o y (by rw[L.eB];exact Zi.2 (Or.inr i))⟩;have lJ:Kept (λb=>b≠blk) w (w.drewN k):=Zp _ _;have au:Y3 _:=aH;obtain⟨wG,Me,bB,l,f⟩:=J2 lJ ai aF aG ak;have bC:=ak.q5.2.2;clear aH lJ ai aF aG ak L HP X aj aT aR ay HG ag ah;obtain⟨wq,K⟩:=eX (w.drewN k);rw[K]at au wG ⊢;go_upto_region 39 with fail;try rw[aW]
   go_cut [185] from 178 to 185 (λv wx=>v=Wl (decide (0<N A2/\0<N B1))/\wq=wx)
   case first=>
    by_cases C:s<m
    .by_cases i:m<en
     .have G:Y3 (decide (0<N A2/\0<N B1)=T):=Qx ⟨f.o.t1.1 C,f.o.t2.1 i⟩;go_wp2_with fail;go_meet;exact⟨by rw[G.o],rfl⟩
     .have G:Y3 (decide (0<N A2/\0<N B1)=F):=Qw (λh=>i (f.o.t2.2 h.2));have aI:=dec_lt (by assumption);go_wp2_with fail;go_meet;exact⟨by rw[G.o],rfl⟩
    .have G:Y3 (decide (0<N A2/\0<N B1)=F):=Qw (λh=>C (f.o.t1.2 h.1));have aK:=dec_lt (by assumption);go_wp2_with fail;go_meet;exact⟨by rw[G.o],rfl⟩
   case rest=>
   obtain⟨rfl,rfl⟩:=hcut;go_upto_if 185 with fail;go_cut [] from 185 to 191 (λwx=>Y3 (GB wx blk 22 (SL (P++A1++B1++(A2++B2++Q)) R)/\Kept (λb=>b≠blk) w wx))
   case first=>
    by_cases d:0<N A2/\0<N B1
    .have aX:=VY blk cap len s m en (.func (.func g) #[] lb) (P++A1) A2 B1 (B2++Q) R wq au.o d.1 d.2 (by rw[Zn];exact f.o.q1) (by rw[Zn];exact f.o.q2) (by rw[Zn];exact f.o.q3) f.o.q5.1 hl;rw[Qx d];go_wp2_with fail;refine aX.mono ?_;rintro e w2 ⟨rfl,S,W⟩;have p:Y3 _:=S;have oz:=Zh W;go_wp2_with fail;go_meet;refine⟨?_,wG.o.trans oz.o⟩;have e:P++A1++B1++(A2++B2++Q)=P++A1++B1++A2++(B2++Q):=by simp
     rw[e];exact p.o
    .rw[Qw d];have HE:Y3 (P++A1++B1++(A2++B2++Q)=P++A1++A2++B1++(B2++Q)):=by
      show _=_;by_cases h0:0<N A2
      .have h1:=Qs (amh d h0);rw[h1];simp
      .have h1:=Qs (ami h0);rw[h1];simp
     go_wp2_with fail;go_meet;refine⟨?_,wG.o⟩;rw[HE.o];exact au.o
   case rest=>
   have wI:Y3 _:=hcut.o.1;have qL:=Zh hcut.o.2;go_upto_region 41 with fail;go_cut [199] from 192 to 199 (λv wx=>v=Wl (decide (0<N A1/\0<N B1))/\wc=wx)
   case first=>
    by_cases C:a<s
    .by_cases i:s<u
     .have G:Y3 (decide (0<N A1/\0<N B1)=T):=Qx ⟨f.o.t3.1 C,f.o.t4.1 i⟩;go_wp2_with fail;go_meet;exact⟨by rw[G.o],rfl⟩
     .have G:Y3 (decide (0<N A1/\0<N B1)=F):=Qw (λh=>i (f.o.t4.2 h.2));have aI:=dec_lt (by assumption);go_wp2_with fail;go_meet;exact⟨by rw[G.o],rfl⟩
    .have G:Y3 (decide (0<N A1/\0<N B1)=F):=Qw (λh=>C (f.o.t3.2 h.1));have aK:=dec_lt (by assumption);go_wp2_with fail;go_meet;exact⟨by rw[G.o],rfl⟩
   case rest=>
   obtain⟨rfl,rfl⟩:=hcut;go_upto_if 199 with fail;go_cut [] from 199 to 205 (λwx=>Y3 (GB wx blk 22 (SL (P++mg (iW cf) A1 B1++A2++B2++Q) R)/\Kept (λb=>b≠blk) w wx))
   case first=>
    by_cases d:0<N A1/\0<N B1
    .have av:=IH.o blk cap len a s u g lb cf ok w0 HC.o eg Oq P A1 B1 (A2++B2++Q) R wc wI.o l.o.1 l.o.2.2.1 Me.o.1 Me.o.2.2.1 (HK.o.trans qL.o) j.o.1 f.o.q1 f.o.q4 f.o.q5.2.1 hl d.1 d.2 f.o.n1;rw[Qx d];go_wp2_with fail;refine av.mono ?_;rintro e w2 ⟨rfl,S,W⟩;have p:Y3 _:=S;have oz:=Zh W;go_wp2_with fail;go_meet;refine⟨?_,qL.o.trans oz.o⟩;have e:P++mg (iW cf) A1 B1++A2++B2++Q=P++mg (iW cf) A1 B1++(A2++B2++Q):=by simp
     rw[e];exact p.o
    .rw[Qw d];have HE:Y3 (P++mg (iW cf) A1 B1++A2++B2++Q=P++A1++B1++(A2++B2++Q)):=by show _=_;rw[R6 l.o.1 l.o.2.2.1 (or_zero d)];simp
     go_wp2_with fail;go_meet;refine⟨?_,qL.o⟩;rw[HE.o];exact wI.o
   case rest=>
   have p:Y3 _:=hcut.o.1;have oz:=Zh hcut.o.2;have aL:P++mg (iW cf) A B++Q=P++mg (iW cf) A1 B1++mg (iW cf) A2 B2++Q:=by rw[bB.o];simp
   have lu:=Zh aL;by_cases d:0<N A2/\0<N B2
   .have C:=f.o.t5.2 d.1;have i:=f.o.t6.2 d.2;have av:=IH.o blk cap len u en b g lb cf ok w0 HC.o eg Oq (P++mg (iW cf) A1 B1) A2 B2 Q R wc p.o l.o.2.1 l.o.2.2.2 Me.o.2.1 Me.o.2.2.2 (HK.o.trans oz.o) (by rw[Zn,qY];exact f.o.q8) (by rw[Zn,qY];exact f.o.q6) (by rw[Zn,qY];exact f.o.q7) j.o.2.2.2.1 hl d.1 d.2 f.o.n2;go_wp2_with fail;refine av.mono ?_;rintro e w2 ⟨rfl,S,W⟩;have Dz:Y3 _:=S;have zX:=Zh W;go_wp2;go_end0;exact⟨rfl,by rw[lu.o];exact Dz.o,oz.o.trans zX.o⟩
   .have HE:Y3 (P++mg (iW cf) A1 B1++mg (iW cf) A2 B2++Q=P++mg (iW cf) A1 B1++A2++B2++Q):=by show _=_;rw[R6 l.o.2.1 l.o.2.2.2 (or_zero d)];simp
    by_cases C:u<en
    .have i:¬en<b:=λh=>d ⟨f.o.t5.1 C,f.o.t6.1 h⟩
     have aI:=dec_lt (by assumption);go_wp2;go_end0;exact⟨rfl,by rw[lu.o,HE.o];exact p.o,oz.o⟩
    .have aK:=dec_lt (by assumption);go_wp2;go_end0;exact⟨rfl,by rw[lu.o,HE.o];exact p.o,oz.o⟩
def vw:∀Nq,aas Nq
 |0=>λ_ _ _ _ _ _ _ _ _ _ _ _ _ _ _ A B _ _ _ _ _ _ _ _ _ _ _ _ _ _ h1 h2 hN=>by omega
 |Nq+1=>λblk cap len a m b g lb cf ok w0 hC eg Oq P A B Q R w hG hA hB hoA hoB hK ha hm hb hlen hl h1 h2 hN=>by
  by_cases hA1:N A=1
  .obtain⟨x,rfl⟩:=List.length_eq_one_iff.1 hA1;have e:P++[x]++B++Q=P++x::B++Q:=by simp
   rw[e]at hG;exact R5 blk cap len a m b g lb cf ok w0 hC eg Oq P B Q x R w hG hB (hoA x (by simp)) hoB hK ha hm hb hlen hl
  .by_cases hB1:N B=1
   .obtain⟨x,rfl⟩:=List.length_eq_one_iff.1 hB1;have e:P++A++[x]++Q=P++A++x::Q:=by simp
    rw[e]at hG;exact Oc blk cap len a m b g lb cf ok w0 hC eg Oq P A Q x R w hG hA (hoB x (by simp)) hoA hK ha hm hb hlen hl (by omega)
   .exact VZ Nq (vw Nq) blk cap len a m b g lb cf ok w0 hC eg Oq P A B Q R w hG hA hB hoA hoB hK ha hm hb hlen hl (by omega) (by omega) hN
def bZ{α:Type}(lt:α->α->Bool)(bs:Nat)(L Mz:List α):Prop:=
 ∀P:List α->List α->Prop,(∀L,N L<=bs->P L (mg lt [] L))->(∀A L Mz,N A=bs->P L Mz->P (A++L) (mg lt [] A++Mz))->P L Mz
section
variable {α:Type} {lt:α->α->Bool} {bs:Nat}
def bZ.last{L:List α}(h:N L<=bs):bZ lt bs L (mg lt [] L):=λ_ a _=>a L h
theorem bZ.more{A L Mz:List α}(h:N A=bs)(k:bZ lt bs L Mz):bZ lt bs (A++L) (mg lt [] A++Mz):=λP b a=>a A L Mz h (k P b a)
theorem bZ.apart{L Mz:List α}(h:bZ lt bs L Mz):(N L<=bs/\Mz=mg lt [] L)∨∃A a b,N A=bs/\L=A++a/\Mz=mg lt [] A++b/\bZ lt bs a b:=
 (h (λL Mz=>bZ lt bs L Mz/\((N L<=bs/\Mz=mg lt [] L)∨∃A a b,N A=bs/\L=A++a/\Mz=mg lt [] A++b/\bZ lt bs a b))
  (λ_ d=>⟨bZ.last d,.inl ⟨d,rfl⟩⟩) (λA L Mz e k=>⟨bZ.more e k.1,.inr ⟨A,L,Mz,e,rfl,rfl,k.1⟩⟩)).2
theorem Au(L:List α):N (mg lt [] L)=N L:=by rw[qY];simp
theorem bZ.len{L Mz:List α}(h:bZ lt bs L Mz):N Mz=N L:=
 h (λL Mz=>N Mz=N L) (λ_ _=>Au _) (λA L Mz _ a=>by grind [Au])
theorem bZ.nil_eq{L Mz:List α}(h:bZ lt bs L Mz)(h0:0<bs)(hL:L=[]):Mz=[]:=by have a:=h.len;simp_all
theorem bZ.small{L Mz:List α}(h:bZ lt bs L Mz)(h0:0<bs)(hl:N L<=bs):Mz=mg lt [] L:=by
 rcases h.apart with⟨_,h⟩|⟨A,L',M',hA,rfl,rfl,k⟩
 .exact h
 .rw[Zn]at hl;have e:L' = []:=Qs (by omega)
  grind [bZ.nil_eq]
theorem bZ.split{L Mz:List α}(h:bZ lt bs L Mz)(hl:bs<N L):∃A a b,L=A++a/\N A=bs/\Mz=mg lt [] A++b/\bZ lt bs a b:=by
 rcases h.apart with⟨h,_⟩|⟨A,a,b,hA,e1,e2,k⟩
 .omega
 grind
theorem bZ.amn{L Mz:List α}(h:bZ lt bs L Mz)(h0:0<bs)(hl:2*bs<=N L):∃A B d e,L=A++B++d/\N A=bs/\N B=bs/\Mz=mg lt [] A++mg lt [] B++e/\bZ lt bs d e:=by
 obtain⟨A,a,k,l,i,m,b⟩:=h.split (by omega);have f:N L=N A+N a:=by simp_all
 by_cases j:bs<N a
 .obtain⟨B,n,p,g,q,r,k2⟩:=b.split j
  grind
 .have g:=b.small h0 (by omega);refine⟨A,a,[],[],by simp_all,i,by omega,by simp_all,?_⟩;exact bZ.last (L:=[]) (QW _)
def ae4(Oq:lG lt)(A B:List α):mg lt (mg lt [] A) (mg lt [] B)=mg lt [] (A++B):=by rw[abk Oq,GJ]
def Gg(Oq:lG lt)(L:List α):bO lt (mg lt [] L):=GM Oq L Zl
end
def Done(lt:ae->ae->Bool)(bs:Nat)(L D L2:List ae):Prop:=∀Mz,bZ lt bs L2 Mz->bZ lt bs L (D++Mz)
theorem Done.more{lt:ae->ae->Bool}{bs:Nat}{L D A L2:List ae}(h:Done lt bs L D (A++L2))(hA:N A=bs):Done lt bs L (D++mg lt [] A) L2:=λb a=>by rw[ZE];exact h _ (bZ.more hA a)
def X6:=@Au
def aqS:X3->Nat
 |.slice _ n _=>n
 |_=>0
def getD_drop(l:List α)(d:α)(j i:Nat):E (l.drop j) i d=E l (j+i) d:=by simp[List.getD]
def getD_take(l:List α)(d:α)(h:i<j):E (l.take j) i d=E l i d:=by simp[List.getD,Xt,h]
theorem bD.drop{w:U}{b off:Nat}{rs:List ae}(h:bD w (O (aD b off)) rs)(j:Nat):bD w (O (aD b (off+j))) (rs.drop j):=by
 obtain⟨⟨m,f,g⟩,n,k⟩:=h;have l:N (rs.drop j)=N rs-j:=X7;refine⟨⟨by omega,λi d=>?_,λi d=>?_⟩,λa r=>?_,λi d=>?_⟩
 .obtain⟨b',p,e,q⟩:=f (j+i) (by omega)
  cases e;grind
 .rw[getD_drop];exact g _ (by omega)
 .grind
 .rw[getD_drop];exact k _ (by omega)
def afr{off o' cap:Nat}{rs:List ae}(h:bD w (O (aD b off)) rs)(hcap:N rs<=cap)(hj:j<=N rs)(ho:j<cap->o' = off+j):bD w (O (aD b o')) (rs.drop j):=by
 by_cases f:j<cap
 .rw[ho f];exact h.drop j
 .have e:rs.drop j=[]:=List.drop_of_length_le (by omega);rw[e];exact⟨⟨by simp,λi d=>absurd d (by simp),λi d=>absurd d (by simp)⟩,λa g=>by cases g;exact h.2.1 (aD b off) rfl,λi d=>absurd d (by simp)⟩
theorem bD.take{w:U}{ao:Option Addr}{rs:List ae}(h:bD w ao rs)(j:Nat):bD w ao (rs.take j):=by
 obtain⟨⟨l,b,d⟩,f,g⟩:=h;have k:N (rs.take j)=min j (N rs):=Xu;refine⟨⟨by omega,λi a=>?_,λi a=>?_⟩,f,λi a=>?_⟩
 .obtain⟨b',m,e,n⟩:=b i (by omega)
  grind
 .rw[getD_take _ _ (by omega)];exact d i (by omega)
 .rw[getD_take _ _ (by omega)];exact g i (by omega)
def vC{α:Type}{p:α->Bool}{d:α}:∀{l:List α} {j:Nat},j<=N l->(∀i,i<j->p (E l i d)=T)->(j=N l∨p (E l j d)=F)->l.dropWhile p=l.drop j
 |[],j,h,_,_=>by simp
 |a::l,0,_,_,h=>by
  rcases h with h|h
  .simp at h
  .rw[List.dropWhile_cons_of_neg (by simpa using h)];rfl
 |a::l,j+1,hj,h1,h2=>by
  have h0:=h1 0 (by omega);rw[List.dropWhile_cons_of_pos (by simpa using h0),List.drop_succ_cons];exact vC (by simpa using hj) (λi hi=>by have:=h1 (i+1) (by omega);simpa using this) (by
   rcases h2 with h2|h2
   .left;simpa using h2
   .right;simpa using h2)
def vD{α:Type}{p:α->Bool}{d:α}:∀{l:List α} {j:Nat},j<=N l->(∀i,i<j->p (E l i d)=T)->(j=N l∨p (E l j d)=F)->l.takeWhile p=l.take j
 |[],j,h,_,_=>by simp
 |a::l,0,_,_,h=>by
  rcases h with h|h
  .simp at h
  .rw[List.takeWhile_cons_of_neg (by simpa using h)];rfl
 |a::l,j+1,hj,h1,h2=>by
  have h0:=h1 0 (by omega);rw[List.takeWhile_cons_of_pos (by simpa using h0),List.take_succ_cons];congr 1;exact vD (by simpa using hj) (λi hi=>by have:=h1 (i+1) (by omega);simpa using this) (by
   rcases h2 with h2|h2
   .left;simpa using h2
   .right;simpa using h2)
def vW(k v:Int)(r:ae):Bool:=decide (dK (bH r.xs k) v<0)
def qf(k v:Int)(r:ae):Bool:=decide (bH r.xs k=v)
def Ij(ao:Option Addr)(cap:Nat)(rs:List ae)(k:Nat)(v:Int)(w:U)(hr:bD w ao rs)(hcap:N rs<=cap)(hk:∀i,i<N rs->k<(E rs i iz).xs.length) :
  Calls V 227 #[Z ao (N rs) cap,I J k,I J v] w λe w'=>∃t m,e=FN (Z t (N (rs.dropWhile (vW k v))) m)/\bD w t (rs.dropWhile (vW k v))/\N (rs.dropWhile (vW k v))<=m/\
   (∀a',t = O a'->∃a,ao=O a/\a'.block=a.block)/\w' = w:=by
 have hl:=hr.1.1;by_cases h0:N rs=0
 .have e:rs=[]:=Qs h0;subst e;have HR:Y3 _:=hr;clear hr hk h0;go_enter Tryz.func227,Tryz.ntmps227;go_wp2;go_loopw [0] (λQ wr=>Q=Z ao 0 cap/\w=wr) (λ_ _=>0)
  case atStart=>exact⟨rfl,rfl⟩
  case round=>
   obtain⟨rfl,rfl⟩:=hrel;go_wp2;go_ret;exact⟨ao,cap,rfl,HR.o,QW _,λa R=>⟨a,R,rfl⟩,rfl⟩
 .obtain⟨b,off,rfl,L⟩:=hr.1.2.1.get (show 0<N rs by omega);have HR:Y3 _:=hr;have HK:Y3 _:=hk;have HC:Y3 _:=L;clear hr hk L h0;go_enter Tryz.func227,Tryz.ntmps227;go_wp2;go_loopw [0] (λQ wr=>∃j u:Nat,j<=N rs/\Y3 (j<cap->u = off+j)/\Q=Z (O (aD b u)) (N rs-j) (cap-j)/\Y3 (∀i,i<j->vW k v (E rs i iz)=T)/\w=wr) (λQ _=>aqS Q)
  case atStart=>exact⟨0,off,QW _,λ_=>rfl,rfl,λi hi=>absurd hi (by omega),rfl⟩
  case round=>
   obtain⟨j,u,hj,HO,rfl,HP,rfl⟩:=hrel;have y:Y3 (bD w (O (aD b u)) (rs.drop j)):=afr HR.o hcap hj HO.o;by_cases r:j<N rs
   .obtain rfl:u = off+j:=HO.o (by omega);have z:UK w (aD b (off+j))=O (E rs j iz).val:=HC.o j r;have n:=HK.o j r;have A:=(HR.o.2.2 j r).1;obtain⟨xb,xo,P,zh⟩:=Qg A n;have aa:=zh k n;have p:=λW=>sW ((E rs j iz).xs.getD k 0) v W
    have B:vW k v (E rs j iz)=decide (dK ((E rs j iz).xs.getD k 0) v<0):=by unfold vW bH;rw[Xk]
    have C:Y3 _:=B;have g:Y3 (vW k v (E rs j iz)=T->∀i,i<j+1->vW k v (E rs i iz)=T):=λh i hi=>by
     rcases XV i j with h'|h'
     .exact HP.o i h'
     .obtain rfl:i=j:=by omega
      exact h
    have l:Y3 (vW k v (E rs j iz)=F->rs.dropWhile (vW k v)=rs.drop j):=λh=>vC (d:=iz) hj HP.o (.inr h);have ag:decide ((0:Int)<((N rs-j:Nat):Int))=true:=Qx (by omega);clear zh A B;generalize E rs j iz=x at*;obtain⟨iZ,bL,xs⟩:=x;unfold ae.val at z;simp only at z n P aa p C g l;subst P;by_cases f:dK (E xs k 0) v<0
    .have D:=g.o (by rw[C.o];exact Qx f);have G:Y3 _:=D;have af:decide (dK (E xs k 0) v<0)=true:=Qx f;have h1:1<=N rs-j:=by omega
     have h2:N rs-j<=cap-j:=by omega
     clear g l C D f;generalize E xs k 0=X at*;generalize dK X v=c at*;go_wp2_with fail;refine(p _).mono ?_;rintro e w2 ⟨rfl,rfl⟩;go_wp2;go_roundw
     case rel=>
      by_cases S:cap-j=1
      .exact⟨j+1,off+j,by omega,λh=>by omega,by rw[Zt S];rfl,G,trivial⟩
      .exact⟨j+1,off+j+1,by omega,λh=>rfl,by rw[ZU S];rfl,G,trivial⟩
     case measure=>simp[aqS];omega
    .have K:=l.o (by rw[C.o];exact Qw f);have q:Y3 _:=K;have af:decide (dK (E xs k 0) v<0)=false:=Qw f;clear g l C K f;generalize E xs k 0=X at*;generalize dK X v=c at*;go_wp2_with fail;refine(p _).mono ?_;rintro e w2 ⟨rfl,rfl⟩;go_wp2;go_ret;refine⟨O (aD b (off+j)),cap-j,?_,?_,?_,λa' R=>⟨(aD b off),rfl,by cases R;rfl⟩,rfl⟩
     .rw[q.o,X7];rfl
     .rw[q.o];exact y.o
     .rw[q.o,X7];omega
   .obtain rfl:j=N rs:=by omega
    have l:Y3 (rs.dropWhile (vW k v)=rs.drop (N rs)):=vC (d:=iz) hj HP.o (.inl rfl);go_wp2;go_ret;refine⟨O (aD b u),cap-N rs,?_,?_,?_,λa' R=>⟨(aD b off),rfl,by cases R;rfl⟩,rfl⟩
    .rw[l.o,X7];rfl
    .rw[l.o];exact y.o
    .rw[l.o,X7];omega
def Si(ao:Option Addr)(cap:Nat)(rs:List ae)(k:Nat)(v:Int)(w:U)(hr:bD w ao rs)(hcap:N rs<=cap)(hk:∀i,i<N rs->k<(E rs i iz).xs.length) :
  Calls V 228 #[Z ao (N rs) cap,I J k,I J v] w λe w'=>∃B,e=FN (Z ao (N (rs.takeWhile (qf k v))) B)/\bD w ao (rs.takeWhile (qf k v))/\w' = w:=by
 have hl:=hr.1.1;have C:Y3 _:=hr;have HK:Y3 _:=hk;clear hr hk;go_enter Tryz.func228,Tryz.ntmps228;go_wp2;go_loopw [7] (λQ wr=>∃j:Nat,j<=N rs/\Q=I J j/\Y3 (∀i,i<j->qf k v (E rs i iz)=T)/\w=wr) (λQ _=>N rs-(intOf Q).toNat)
 case atStart=>exact⟨0,QW _,rfl,λi W=>absurd W (by omega),rfl⟩
 case round=>
  obtain⟨j,D,rfl,P,rfl⟩:=hrel;by_cases g:j<N rs
  .obtain⟨b,off,rfl,z⟩:=C.o.1.2.1.get g;have n:UK w (aD b (off+j))=O (E rs j iz).val:=z j g;have l:=HK.o j g;have p:=(C.o.2.2 j g).1;obtain⟨xb,xo,A,S⟩:=Qg p l;have G:=S k l;have q:qf k v (E rs j iz)=decide ((E rs j iz).xs.getD k 0=v):=by unfold qf bH;rw[Xk]
   have r:Y3 _:=q;have f:Y3 (qf k v (E rs j iz)=T->∀i,i<j+1->qf k v (E rs i iz)=T):=λh i W=>by
    rcases XV i j with R|R
    .exact P.o i R
    .obtain rfl:i=j:=by omega
     exact h
   have m:Y3 (qf k v (E rs j iz)=F->rs.takeWhile (qf k v)=rs.take j):=λh=>vD (d:=iz) D P.o (.inr h);clear S p q z;generalize E rs j iz=x at*;obtain⟨iZ,bL,xs⟩:=x;unfold ae.val at n;simp only at n l A G r f m;subst A;by_cases a:E xs k 0=v
   .have t:=f.o (by rw[r.o];exact Qx a);have K:Y3 _:=t;have L:(E xs k 0==v)=true:=by simpa using a
    clear f m r t a;generalize E xs k 0=X at*;go_wp2;go_roundw
    case rel=>exact⟨j+1,by omega,by simp,K,trivial⟩
    case measure=>simp[intOf];omega
   .have u:=m.o (by rw[r.o];exact Qw a);have y:Y3 _:=u;have L:(E xs k 0==v)=false:=by simpa using a
    have aa:j<=cap:=by omega
    clear f m r u a;generalize E xs k 0=X at*;go_wp2;go_ret;refine⟨cap,?_,?_,rfl⟩
    .rw[y.o,Xu,Qr D];rfl
    .rw[y.o];exact bD.take C.o _
  .obtain rfl:j=N rs:=by omega
   have m:Y3 (rs.takeWhile (qf k v)=rs.take (N rs)):=vD (d:=iz) D P.o (.inl rfl);go_wp2;go_ret;refine⟨cap,?_,?_,rfl⟩
   .rw[m.o,Xu,Qr D];rfl
   .rw[m.o];exact bD.take C.o _
section
def oV(lk rk:Int):List (List Int)->List (List Int)->List (List Int)
 |[],Iq=>Iq
 |a::L,Iq=>if bH a lk=1073741824 then oV lk rk L Iq else oV lk rk L (Iq.dropWhile λb=>decide (dK (bH b rk) (bH a lk)<0))
def sZ(lk rk:Int)(a:List Int)(L Iq:List (List Int)):oV lk rk (a::L) Iq=if bH a lk=1073741824 then oV lk rk L Iq else oV lk rk L (Iq.dropWhile λb=>decide (dK (bH b rk) (bH a lk)<0)):=rfl
def xH(lk rk:Int)(a:List Int)(L Iq:List (List Int)):fU lk rk (a::L) Iq=if bH a lk=1073741824 then fU lk rk L Iq else
  (((Iq.dropWhile λb=>decide (dK (bH b rk) (bH a lk)<0)).takeWhile λb=>decide (bH b rk=bH a lk)).map λb=>a++b)++fU lk rk L (Iq.dropWhile λb=>decide (dK (bH b rk) (bH a lk)<0)):=rfl
def pM(lk rk:Int):∀(A B Iq:List (List Int)),oV lk rk (A++B) Iq=oV lk rk B (oV lk rk A Iq)
 |[],B,Iq=>rfl
 |a::A,B,Iq=>by
  rw[QV,sZ,sZ];split
  .exact pM lk rk A B Iq
  .exact pM lk rk A B _
def mH(lk rk:Int):∀(A B Iq:List (List Int)),fU lk rk (A++B) Iq=fU lk rk A Iq++fU lk rk B (oV lk rk A Iq)
 |[],B,Iq=>rfl
 |a::A,B,Iq=>by
  rw[QV,xH,xH,sZ];split
  .exact mH lk rk A B Iq
  .rw[mH lk rk A B _,ZE]
def Wj{lk rk:Int}{L L' R:List (List Int)}(h:L <+: L'):fU lk rk L R <+: fU lk rk L' R:=by obtain⟨t,rfl⟩:=h;rw[mH];exact List.prefix_append _ _
def xI{α:Type}(p:α->Bool):∀l:List α,∃k,l.dropWhile p=l.drop k
 |[]=>⟨0,rfl⟩
 |a::l=>by
  cases h:p a with
  |false=>exact⟨0,by rw[List.dropWhile_cons_of_neg (by simp[h])];rfl⟩
  |true =>
   obtain⟨k,hk⟩:=xI p l;exact⟨k+1,by rw[List.dropWhile_cons_of_pos h,hk];rfl⟩
def mY{l:List ae}(h:i<N l):E l i iz∈l:=by simp[List.getD,h]
def Oj(k v:Int)(rs:List ae):(rs.dropWhile λr=>decide (dK (bH r.xs k) v<0)).map ae.xs=(rs.map ae.xs).dropWhile λb=>decide (dK (bH b k) v<0):=by rw[List.dropWhile_map];rfl
def Ol(k v:Int)(rs:List ae):(rs.takeWhile λr=>decide (bH r.xs k=v)).map ae.xs=(rs.map ae.xs).takeWhile λb=>decide (bH b k=v):=by rw[List.takeWhile_map];rfl
def amC(tL:TypeId)(Jq:List ae->(Nat->Prop)->U->Prop)(kl kr:Int)(R:List (List Int))(rP:Option Addr)(ys:List ae)(o:Nat->Prop)(bx:Nat)(w3:U)(pre:List ae)(o1:Nat->Prop)(W':U):Prop:=
 ∃(zs:List ae) (oj:Nat->Prop) (ad':Option Addr) (cap' j:Nat),zs.map aj.key=fU kl kr (pre.map aj.key) R/\Jq zs oj W'/\(∀b,o1 b↔oj b∨b=bx)/\¬oj bx/\
   W'.heap[bx]? = O (EP #[Z ad' (N (ys.drop j)) cap'] tL)/\bD W' ad' (ys.drop j)/\N (ys.drop j)<=cap'/\(∀a',ad' = O a'->∃a,rP=O a/\a'.block=a.block)/\
   (ys.drop j).map ae.xs=oV kl kr (pre.map aj.key) R/\Kept (λb=>¬o b/\b≠bx) w3 W'/\∀b,oj b->o b∨(M (H w3)<=b/\b<M (H W'))
attribute [local go_sem] Oper.semAt_some
theorem ach(br bl Pe Mg gr gl kl kr:Nat)(oq nZ:Array X3)(L R:List (List Int))(w0:U)(hbr:br<M (H w0))(hbl:bl<M (H w0))(aiR:Pe<M (H w0))(aiS:Mg<M (H w0))
  (hcr:UK w0 (aD br 0)=O (.func (.func gr) #[] oq)) (hcl:UK w0 (aD bl 0)=O (.func (.func gl) #[] nZ)) (aiT:UK w0 (aD Pe 0)=O (I J kl)) (aiU:UK w0 (aD Mg 0)=O (I J kr))
  (yw:Seq aj V gr oq R w0) (hsl:Seq aj V gl nZ L w0)
  (egr:∀args w,(callFunc gr args).run V w=.ok (.enter gr args) w) (egl:∀args w,(callFunc gl args).run V w=.ok (.enter gl args) w)
  (hR:N R<=1000000) (J5:∀a∈L,N a<=1000) (hRl:∀a∈R,N a<=1000) (hLk:∀a∈L,kl<N a) (hRk:∀a∈R,kr<N a) :
  Seq aj V 226 #[Y (O (aD br 0)),Y (O (aD bl 0)),Y (O (aD Pe 0)),Y (O (aD Mg 0))] (fU kl kr L R) w0:=by
 intro l Jq W o hW ho hJ hY h0;have dm:=(hW.cell (p:=(aD br 0)) hbr).trans hcr;have dn:=(hW.cell (p:=(aD bl 0)) hbl).trans hcl;obtain⟨HY,HO,HW,HJ,HR,dU,dV⟩:=ze hY ho hW hJ hR J5 hRl;obtain⟨dW,bW⟩:=aJ hLk hRk;have F3:Y3 (UK w0 (aD Pe 0)=O (I J kl)/\UK w0 (aD Mg 0)=O (I J kr)/\Pe<M (H w0)/\Mg<M (H w0)):=⟨aiT,aiU,aiR,aiS⟩;have ak:Bw W (W.alloc (EP #[.func (.yield l) #[] #[]] 123)):=dN _ _;have bG:=(ak.cell (p:=(aD br 0)) (QA hbr HW.o.size)).trans dm;have Rc:=(ak.cell (p:=(aD bl 0)) (QA hbl HW.o.size)).trans dn;have Fw:UK (W.alloc (EP #[.func (.yield l) #[] #[]] 123)) (aD (M (H W)) 0)=O (.func (.yield l) #[] #[]):=by simp
 have aV:M (H (W.alloc (EP #[.func (.yield l) #[] #[]] 123)))=M (H W)+1:=by simp
 refine(QH (n:=0)).1 (Q3 Tryz.func226 rfl trivial ?_ rfl);simp only[Tryz.ntmps226,QN,QO,QP,Nat.reduceAdd,Nat.reduceSub,QQ,QR,QS,QT,QU,QV];gi_wp2;obtain⟨w1,bX⟩:=eX (W.alloc (EP #[.func (.yield l) #[] #[]] 123));rw[bX]at ak bG Rc Fw aV;rw[bX];have dw:=HW.o.trans (ak.mono HW.o.size);refine⟨trivial,rfl,QH.2 ((rH aj (λ_=>rfl) gr oq R w0 w1 dw HR.o yw egr).mono ?_)⟩;rintro e k ⟨v,ys,og,rfl,bY,hG⟩;have dx:N ys<=1000000:=by have:=congrArg N bY;rw[Zm]at this;rw[this];exact HR.o
 obtain⟨rP,iP,rfl,dX,dY⟩:=hG.had dx;have dz:N ys<=iP:=by
  rcases hG.own.2 with⟨hv,h0⟩|⟨g,cap,cur,hv,_,_,hc1,_⟩
  .omega
  grind
 have aK:=hG.below;have bI:=aK.size;obtain⟨bZ,cu⟩:=nH aK Rc Fw;have aW:=hG.born;have aL:=Zh bY;have HH:Y3 _:=dX;obtain⟨dZ,ed,ek⟩:=dQ dY aW dz;have bJ:=cB (dN k (EP #[Z rP (N ys) iP] 52)) bZ;gi_wp2;have zf:∀s,Kept s k (k.alloc (EP #[Z rP (N ys) iP] 52)):=λs=>QE _ _;have aX:M (H (k.alloc (EP #[Z rP (N ys) iP] 52)))=M (H k)+1:=by simp
 have bK:(k.alloc (EP #[Z rP (N ys) iP] 52)).heap[M (H k)]? = O (EP #[Z rP (N ys) iP] 52):=QG _ _;have Gs:=cB (dN k (EP #[Z rP (N ys) iP] 52)) cu;obtain⟨w3,cz⟩:=eX (k.alloc (EP #[Z rP (N ys) iP] 52));rw[cz]at zf aX bK Gs bJ;rw[cz];have DL:∀s,Kept s W w3:=λs=>((QB ak (λb d _=>d)).trans (QB aK (λb d _=>d))).trans (zf s);have wZ:=HW.o.trans ((DL (λ_=>True)).below HW.o.size (λ_ _=>trivial));have bM:=bD.keep HH.o (zf (λ_=>True)).size (λa z=>(zf (λ_=>True)).block _ (HH.o.2.1 a z) trivial) (λi q b d=>(zf (λ_=>True)).block _ (aj.zw (HH.o.2.2 i q) d) trivial);have bN:Y3 (∀a,rP=O a->M (H W)<=a.block/\a.block<M (H k)):=λa z=>⟨by have:=dZ.o a z;omega,HH.o.2.1 a z⟩;have aM:Y3 (∀y∈ys,∀b,aj.blk y=O b->(b<M (H w0)∨M (H W)<=b)/\b<M (H k)):=λy hm b d=>by
  obtain⟨i,q,rfl⟩:=Qq hm;have e:E ys i iz=ys[i]:=by simp[List.getD,q]
  have hh:=HH.o.2.2 i q;rw[e]at hh;exact⟨(ed.o _ hm b d).imp id (by omega),aj.zw hh d⟩
 have dA:Y3 _:=bM;obtain⟨DN,eu⟩:=aJ DL Gs;have HS:Y3 (M (H w3)=M (H k)+1/\M (H w1)=M (H W)+1/\M (H w1)<=M (H k)):=⟨aX,aV,bI⟩;clear bM DL zf aX aV bI Rc bZ Fw cu ak aK bG bJ Gs;refine nI aj (gf:=gl) (lb:=nZ) rfl egl hsl wZ rfl
  (amC 52 Jq kl kr R rP ys o (M (H k)) w3)
  (λb=>o b∨b=M (H k)) ?_ ?_ ?_ (λx=>{ tmps:=#[.func (.yield l) #[] #[],Y (O (aD br 0)),Y (O (aD bl 0)),Y (O (aD Pe 0)),Y (O (aD Mg 0)),Y (O (aD (M (H W)) 0)),Y (O (aD (M (H k)) 0)),x.val,undef,.func (.func gr) #[] oq,Z rP (N ys) iP,.func (.func gl) #[] nZ,x.val,undef,undef,undef,undef,undef,undef,undef,undef,undef,undef,undef,undef,undef,undef,undef,undef,undef,undef],defers:=[] }) ?assign ?body ?done
 .intro b d;have:=HS.o;have:=(DN.o (λ_=>True)).size;have:=HW.o.size;rcases d with d|d
  .exact⟨(HO.o b d).1,by have:=(HO.o b d).2;omega⟩
  .omega
 .rintro pre o1 A B ⟨zs,oj,ay,C,j,hz,hj,D,af,G,P,ag,had,ah,hk,hg⟩ aC;have h1:=(DN.o (λ_=>True)).size;have hS:=HS.o;have hbl:∀b,b<M (H w3)->b<M (H A)->B.heap[b]? = A.heap[b]?:=λb d hA=>aC.block b hA (.inr d)
  have dB:M (H k)<M (H A):=by have:=hk.size;omega
  refine⟨zs,oj,ay,C,j,hz,HJ.o _ _ _ _ hj (aC.mono λb _ h=>h.imp (λh=>(D b).2 (.inl h)) (by omega)),D,af,(hbl _ (by omega) dB).trans G,?_,ag,had,ah,hk.trans' aC (λb d _=>.inr d),λb h=>(hg b h).imp id (λh=>⟨h.1,by have:=aC.size;omega⟩)⟩;refine bD.keep P aC.size (λa z=>?_) (λi q b d=>?_)
  .obtain⟨a0,eB,e⟩:=had a z;have:=(bN.o a0 eB).2;exact hbl _ (by omega) (P.2.1 a z)
  .have hm:=X8 (mY q);have:=(aM.o _ hm b d).2
   grind
 .exact⟨[],o,rP,iP,0,rfl,HJ.o _ _ _ _ h0 (DN.o _),λ_=>QJ,λh=>by have:=(HO.o _ h).2;have:=HS.o;omega,bK,dA.o,ek.o,λa z=>⟨a,z,rfl⟩,aL.o,Qy _ _,λb h=>.inl h⟩
 case assign=>
  intro l x W K hK;gi_wp2;exact hK
 case body=>
  rintro l2 pre x o1 W2 ⟨zs,oj,ay,C,j,hz,hj,D,af,G,P,ag,had,ah,hk,hg⟩ ai hx aF fu;have h3:=(DN.o (λ_=>True)).size;have eY:=hk.size;have dC:=HS.o;have O6:∀b,M (H W)<=b->¬o b:=λb d h=>by have:=(HO.o b h).2;omega
  have aN:∀b,b<M (H w0)->¬o b:=λb d h=>by have:=(HO.o b h).1;omega
  have aY:∀b,b<M (H w3)->¬o b->¬oj b:=λb d h h'=>by grind
  have eZ:=HW.o.size;have aO:=wZ.trans (hk.below wZ.size (λi q=>⟨aN i q,by omega⟩));have fe:=(aO.cell (p:=(aD Pe 0)) F3.o.2.2.1).trans F3.o.1;have dD:=(aO.cell (p:=(aD Mg 0)) F3.o.2.2.2).trans F3.o.2.1;have dE:=Q0 eu.o hk ⟨O6 _ (Qn _),by show M (H W)≠_;omega⟩;have dF:UK W2 (aD (M (H k)) 0)=O (Z ay (N (ys.drop j)) C):=XG G rfl;have fo:=jP G 0;have aP:=lD ai;have aQ:=dW.o _ aP;have aZ:=dU.o _ aP;obtain⟨xb,xo,aT,zh⟩:=Qg hx.1 aQ;have bO:=zh kl aQ;have au:(pre++[x]).map aj.key=pre.map aj.key++[x.xs]:=by rw[Qi];rfl
  have bf:∀i,i<N (ys.drop j)->kr<(E (ys.drop j) i iz).xs.length:=λi q=>bW.o _ (by rw[<-aL.o];exact ZC.2 ⟨_,X8 (mY q),rfl⟩);have u:bH x.xs kl=E x.xs kl 0:=by unfold bH;rw[Xk]
  obtain⟨eD,Ie,eF,zg,az⟩:=J2 hx aF hk hg D;by_cases Wm:E x.xs kl 0=1073741824
  .have aR:Y3 (gK aj (amC 52 Jq kl kr R rP ys o (M (H k)) w3) pre x (M (H w3)) o1 W2 .normal { tmps:=#[],defers:=[] } W2):=
    ⟨o1,⟨zs,oj,ay,C,j,by rw[au,mH,<-hz];unfold fU;rw[u,Zt Wm];unfold fU;rw[Xd],hj,D,af,G,P,ag,had,by rw[au,pM,<-ah];unfold oV;rw[u,Zt Wm];rfl,hk,hg⟩,Qy _ _,λb h=>.inl h⟩
   have aA:(E x.xs kl 0==1073741824)=true:=by simpa using Wm
   clear hz hj D af G P ag had ah hk hg ai hx aF u Wm au bf O6 aN aY aO aP zh;obtain⟨iZ,bL,fB⟩:=x;unfold ae.val;simp only at aQ aZ aT bO aA ⊢;subst aT;generalize E fB kl 0=X at*;gi_wp2;exact aR.o
  .have bg:bH x.xs kl≠1073741824:=by rw[u];exact Wm
   have hbl:=Ij ay C (ys.drop j) kr (E x.xs kl 0) W2 P ag bf;obtain⟨j0,aG⟩:=xI (vW kr (E x.xs kl 0)) (ys.drop j);rw[aG,List.drop_drop]at hbl;obtain⟨j2,cK⟩:=eX (j+j0);rw[List.drop_drop]at aG;rw[cK]at hbl aG;have bn:(ys.drop j2).map ae.xs=(oV kl kr (pre.map aj.key) R).dropWhile λb=>decide (dK (bH b kr) (bH x.xs kl)<0):=by rw[<-aG,<-ah,u];exact Oj _ _ _
   have bP:∀i,i<N (ys.drop j2)->kr<(E (ys.drop j2) i iz).xs.length:=λi q=>bW.o _ (by rw[<-aL.o];exact ZC.2 ⟨_,X8 (mY q),rfl⟩);have bQ:fU kl kr ((pre++[x]).map aj.key) R=zs.map aj.key++((ys.drop j2).takeWhile (qf kr (E x.xs kl 0))).map (λr=>x.xs++r.xs):=by rw[au,mH,<-hz,xH,ZU bg,<-bn];show _++(_++[])=_;rw[Xd,u,<-Ol,Z9];rfl
   have bR:oV kl kr ((pre++[x]).map aj.key) R=(ys.drop j2).map ae.xs:=by rw[au,pM,sZ,ZU bg,<-bn];rfl
   have bS:Y3 (fU kl kr ((pre++[x]).map aj.key) R <+: fU kl kr L R):=Wj ai;obtain⟨aH,bC,cO,Bg⟩:=om bQ bR bP G;have dG:Y3 _:=P;obtain⟨cZ,eG,HN⟩:=dQ had hj af;have Du:Y3 ((∀b,M (H W)<=b->¬o b)/\(∀b,b<M (H w0)->¬o b)/\∀b,b<M (H w3)->¬o b->¬oj b):=⟨O6,aN,aY⟩;have aA:(E x.xs kl 0==1073741824)=false:=by simpa using Wm
   clear hz hj D af G P ag had ah hk hg ai hx aF u Wm au bf O6 aN aY aO aP zh aG bn bP bQ bR bg cK;obtain⟨Sj,bE⟩:=eX (ys.drop j2);have av:=Zh bE;rw[bE]at hbl aH bC cO;clear bE;generalize ys.drop j=rs at hbl Bg dF dG;obtain⟨iZ,bL,fB⟩:=x;unfold ae.val;simp only at aQ aZ aT bO aA hbl aH bS bC ⊢;subst aT;generalize fA:E fB kl 0=X at*;gi_wp2;refine⟨trivial,rfl,Q4 l2 (QH.2 (hbl.mono ?_))⟩;rintro e Wb ⟨m,f,rfl,eH,df,eO,rfl⟩;have bq:Y3 _:=eH;obtain⟨dh,di⟩:=aJ df eO;gi_wp2;have bT:=lU Bg.o 0 (Z m (N Sj) f);have aa:(UC Wb (aD (M (H k)) 0) (Z m (N Sj) f)).heap[M (H k)]? = O (EP #[Z m (N Sj) f] 52):=bT;have bu:Kept (λb=>b≠M (H k)) Wb (UC Wb (aD (M (H k)) 0) (Z m (N Sj) f)):=Q8 _ _ _ (λh=>h rfl);obtain⟨W3,eP⟩:=eX (UC Wb (aD (M (H k)) 0) (Z m (N Sj) f));rw[eP]at aa bu ⊢;have t:=bu.trans (QB ((Qm (M (H W3)) W3).drew) (λb d _=>d));have bz:W3.drew.heap[M (H k)]? = O (EP #[Z m (N Sj) f] 52):=aa;have bA:∀i,i<N Sj->E Sj i iz∈ys:=λi q=>X8 (by rw[av.o];exact mY q);have ax:∀a,m=O a->M (H W)<=a.block/\a.block<M (H k):=λa z=>by obtain⟨a1,h1,e1⟩:=di.o a z;obtain⟨a0,h0,e0⟩:=cZ.o a1 h1;rw[e1,e0];exact bN.o a0 h0
   have aB:=bD.keep bq.o t.size (λa z=>t.block _ (bq.o.2.1 a z) (by have:=(ax a z).2;show a.block≠_;omega)) (λi q b d=>t.block _ (aj.zw (bq.o.2.2 i q) d) (by have:=(aM.o _ (bA i q) b d).2;show b≠_;omega));have bU:=HJ.o _ _ _ _ eG.o (t.mono λb _ h=>by
    rcases h with h|h
    .intro e;exact HN.o (e ▸ h)
    .show b≠_;omega)
   have bV:=aj.keep eD.o t.size (λb d eU=>t.block b d (λe=>(Ie.o b eU).1 ((az.o b).2 (.inr e))));have bB:=Si m f Sj kr X W3.drew aB dh.o cO.o;have dH:=Q0 dD t (by grind);have dI:=Q0 dE t (by show M (H W)≠_;omega);have dJ:UK W3.drew (aD (M (H k)) 0)=O (Z m (N Sj) f):=XG bz rfl;have dL:=t.size;have aS:∀i,i<N (Sj.takeWhile (qf kr X))->E (Sj.takeWhile (qf kr X)) i iz∈ys:=λi q=>X8 (by rw[av.o];exact(List.takeWhile_sublist _).subset (mY q));have Lv:∀aU,bD W3.drew m (Sj.takeWhile (qf kr X))->_:=λaU bF=>Gv l (M (H W)) Jq (fU kl kr L R) (M (H w0)) ⟨O (aD xb xo),bL,fB⟩ m aU (Sj.takeWhile (qf kr X)) zs oj W3.drew HJ.o HY.o (by omega) bU (by rw[<-aH.o];exact bS.o) bV
    (λb d h=>(Ie.o b d).1 ((az.o b).2 (.inl h))) aZ bF
    (λa z=>Du.o.2.2 _ (by have:=(ax a z).2;omega) (Du.o.1 _ (ax a z).1))
    (λi q a z=>by
     have h1:=aM.o _ (aS i q) a.block (by show Option.map _ _=_;rw[z];rfl);exact Du.o.2.2 _ (by omega) (h1.1.elim (Du.o.2.1 _) (Du.o.1 _)))
    (λi q=>dV.o _ (by rw[<-aL.o];exact ZC.2 ⟨_,aS i q,rfl⟩))
    (λb h=>by
     rcases zg.o b h with h|h
     .have:=(HO.o b h).2;omega
     .omega)
   have aR:Y3 (∀(us:List ae) (o2:Nat->Prop) (W4:U) (a4:Act),us.map aj.key=(Sj.takeWhile (qf kr X)).map (λr=>fB++r.xs)->Jq (zs++us) o2 W4->Kept (λb=>¬oj b) W3.drew W4->(∀b,o2 b->oj b∨(M (H W3.drew)<=b/\b<M (H W4)))->
     gK aj (amC 52 Jq kl kr R rP ys o (M (H k)) w3) pre ⟨O (aD xb xo),bL,fB⟩ (M (H w3)) o1 Wb .normal a4 W4):=λus o2 W4 a4 Vl Nt Q aI=>by
    have dM:=Q.size;have dO:=(Q.block _ (by omega) HN.o).trans bz;have dP:¬o2 (M (H k)):=λh=>by
     rcases aI _ h with h|h
     .exact HN.o h
     .omega
    refine⟨λb=>o2 b∨b=M (H k),⟨zs++us,o2,m,f,j2,?_,Nt,λ_=>QJ,dP,?_,?_,?_,?_,?_,?_,?_⟩,?_,?_⟩
    .rw[aH.o,Qi,Vl]
    .rw[av.o];exact dO
    .rw[av.o];refine bD.keep aB dM (λa z=>Q.block _ (aB.2.1 a z) (Du.o.2.2 _ (by have:=(ax a z).2;omega) (Du.o.1 _ (ax a z).1))) (λi q b d=>Q.block _ (aj.zw (aB.2.2 i q) d) ?_);have h1:=aM.o _ (bA i q) b d;exact Du.o.2.2 _ (by omega) (h1.1.elim (Du.o.2.1 _) (Du.o.1 _))
    .rw[av.o];exact dh.o
    .intro a' eT;obtain⟨a1,h1,e1⟩:=di.o a' eT;obtain⟨a0,h0,e0⟩:=cZ.o a1 h1;exact⟨a0,h0,e1.trans e0⟩
    .rw[av.o,bC.o]
    .refine(eF.o.trans' (t.mono λb _ h=>h) (λb _ h=>h.2)).trans' Q (λb d h=>Du.o.2.2 _ d h.1)
    .intro b d;rcases aI b d with h|h
     .exact(zg.o b h).imp id (λh=>⟨h.1,by omega⟩)
     .exact .inr ⟨by omega,h.2⟩
    .refine(t.mono λb _ h e=>h ((az.o b).2 (.inr e))).trans' Q (λb _ h h'=>h ((az.o b).2 (.inl h')))
    .rintro b (d|d)
     .rcases aI b d with h|h
      .exact .inl ((az.o b).2 (.inl h))
      omega
     .exact .inl ((az.o b).2 (.inr d))
   clear aH;generalize Sj.takeWhile (qf kr X)=tw at bB Lv aR aS;have Wn:Y3 (Mg<M (H w0)/\Mg<M (H w3)):=⟨F3.o.2.2.2,by have:=F3.o.2.2.2;omega⟩;have dR:Y3 (M (H W)<M (H w3)):=by show M (H W)<M (H w3);omega
   have xz:Y3 _:=bB;have dS:=Zh Lv;clear dC bA ax aB bU bV aS Lv aa bu t bz dL bB;refine qR (S:=λx=>Kept (λb=>¬oj b) W3.drew x) (by kernel_rfl) (by kernel_rfl) (λ⟨_,_,h⟩=>h) ?_;have hS:Kept (λb=>¬oj b) W3.drew W3.drew:=Qy _ _;refine wt 0 (Z (O (aD xb xo)) (N fB) bL) hS ?_;refine wT 1 (Z m (N Sj) f) hS (λx hx=>?_) ?_
   .have q1:=Q0 dJ hx HN.o;go_simp
   refine wT 2 (I J kr) hS (λx hx=>?_) ?_
   .have q1:=Q0 dH hx (Du.o.2.2 _ Wn.o.2 (Du.o.2.1 _ Wn.o.1));go_simp
   refine wt 3 (I J X) hS ?_;refine wT 5 (.func (.yield l) #[] #[]) hS (λx hx=>?_) ?_
   .have q1:=Q0 dI hx (Du.o.2.2 _ dR.o (Du.o.1 _ (Qn _)));go_simp
   refine wR 4 λK hK=>?_;go_simp;refine XX xz.o ?_;rintro e w4 ⟨aU,rfl,bF,rfl⟩;refine hK.o _ _ (Qy _ _) (λhS=>?_);refine wR 6 λK hK=>?_;go_simp;refine XX (dS.o aU bF) ?_;rintro e W4 ⟨rfl,us,o2,Vl,Nt,Q,aI⟩;refine hK.o _ _ Q λhS=>?_;refine wt 7 (Wl F) hS ?_;refine wD ?_;simp only[Act.put,Qu,Qc,Qb];gi_wp2;exact aR.o us o2 W4 _ Vl Nt Q aI
 case done=>
  rintro us o' W2 Vl ⟨zs,oj,ay,C,j,hz,hj,D,af,G,P,ag,had,ah,hk,hg⟩ fw eQ hD;have h3:=(DN.o (λ_=>True)).size;have hS:=HS.o;gi_wp2;have fq:¬oj (M (H w3)):=λh=>by
   rcases eQ _ ((D _).2 (.inl h)) with (h|h)|h
   .have:=(HO.o _ h).2;omega
   .omega
   .omega
  have vO:Kept (λb=>b≠M (H w3)) W2 (W2.putObj (M (H w3)) (.deferred xn)):=QC _ _ (λh=>h rfl);refine⟨by simp,.inl ⟨_,_,rfl,Q5 hD,?_⟩⟩;refine⟨_,Q6 rfl _ _ _,⟨_,rfl⟩,zs,oj,?_,HJ.o _ _ _ _ hj (vO.mono λb _ h=>?_),((DN.o _).trans' hk (λb d h=>⟨h,by omega⟩)).trans' vO (λb d _=>by omega),λb h=>(hg b h).imp id (λh=>⟨by omega,by rw[Q7];omega⟩)⟩
  .rw[hz,Vl]
  grind
end
theorem EM:∀{xs:List Int} {k:Nat} {v:Int},k<N xs->v ∉ xs.take k->E xs k 0=v->xs.idxOf v=k
 |[],k,v,h,_,_=>by simp at h
 |x::xs,0,v,_,_,e=>by grind
 |x::xs,k+1,v,h,hn,e=>by rw[List.take_succ_cons]at hn;have hne:¬x=v:=λe'=>hn (by simp[e']);have:=EM (xs:=xs) (k:=k) (v:=v) (by simpa using h) (λh'=>hn (by simp[h'])) (by simpa using e);grind
theorem VR(ao:Option Addr)(cap:Nat)(xs:List Int)(v:Int)(w:U)(hx:IntsAt w ao xs)(hin:v∈xs) :
  Ce 187 #[Z ao (N xs) cap,I J v] w (I J (bA xs v)):=by
 have u:=hx.1;have r:=Zh hin;clear hin;go_enter Tryz.func187,Tryz.ntmps187;go_wp2;go_loop [8] (λi=>∃k:Nat,k<=N xs/\i=I J k/\v ∉ xs.take k) (λi=>N xs-(intOf i).toNat)
 case atStart=>grind
 case round=>
  obtain⟨k,y,rfl,g⟩:=hrel;by_cases a:k<N xs
  .obtain⟨b,off,rfl,q⟩:=hx.get a;have t:=q k a;have n:=Zh (zJ (v:=v) a);have p:Y3 _:=g;have j:Y3 (E xs k 0=v->bA xs v=(k:Int)):=λe=>by unfold bA;rw[EM a p.o e]
   clear q hx g;obtain⟨x,d⟩:=eY (E xs k 0);rw[<-d]at t n j;clear d;by_cases f:v=x
   .have l:(v==x)=true:=by simp[f]
    have m:=Zh (j.o f.symm);clear j f;go_wp2;go_ret;exact⟨Qe m.o.symm,rfl⟩
   .have l:(v==x)=false:=by simp[f]
    go_wp2;go_round
    case rel=>exact⟨k+1,by omega,by go_num,λe=>by
     rcases n.o.1 e with e|e
     .exact p.o e
     .exact f e.symm⟩
    case measure=>simp[intOf];omega
  .have e:k=N xs:=by omega
   rw[e,QX]at g;exact absurd r.o g
def yL(v:X3)(c:ae)(gU:Int)(w:U)(hv:∃g lb,v=.func (.func g) #[] lb)(hc:c.At w)(hin:gU∈c.xs) :
  Cb 173 #[.agg #[v,c.val],I J gU] w (I J (bA c.xs gU)):=by obtain⟨g,lb,rfl⟩:=hv;obtain⟨i,j,b⟩:=c;unfold ae.val at*;simp only at*;have a:=dN w (EP #[.func (.func g) #[] lb,Z i (N b) j] 194);have d:=VR i j b gU _ (Qo a hc) hin;have l:=Zh a;have f:Y3 (∃r,r=bA b gU):=⟨_,rfl⟩;obtain⟨r,k⟩:=f.o;rw[<-k]at d ⊢;clear a hc hin k f;go_enter Tryz.func173,Tryz.ntmps173;go_wp2_with fail;refine d.mono ?_;rintro e m ⟨rfl,rfl⟩;go_wp2;go_ret;exact⟨rfl,l.o⟩
def EN(v:X3)(c cs:ae)(w:U)(hv:∃g lb,v=.func (.func g) #[] lb)(hc:c.At w)(hs:cs.At w)(hin:∀x∈cs.xs,x∈c.xs)(hl:N cs.xs<=1000) :
  Calls V 115 #[.agg #[v,c.val],cs.val] w λe R=>∃j:ae,e=FN j.val/\j.xs=aK c.xs cs.xs/\aj.At j R/\Bw w R/\∀b,aj.blk j=O b->M (H w)<=b:=by
 have HV:=Zh hv;obtain⟨g,lb,rfl⟩:=hv;obtain⟨K,L,d⟩:=c;obtain⟨xe,lS,a⟩:=cs;have HC:Y3 _:=hc;unfold ae.val;simp only at*;obtain⟨p,n⟩:∃x,w.alloc (EP #[.func (.func g) #[] lb,Z K (N d) L] 194)=x:=⟨_,rfl⟩;have m:Bw w p:=by rw[<-n];exact dN _ _
 have q0:UK p (aD (M (H w)) 0)=O (.func (.func g) #[] lb):=by rw[<-n];simp
 have q1:UK p (aD (M (H w)) 1)=O (Z K (N d) L):=by rw[<-n];simp
 have q:IntsAt p xe a:=Qo m hs;have vU:Y3 (∀X D,Bw p X->D∈d->Calls V 173 #[.agg #[.func (.func g) #[] lb,Z K (N d) L],I J D] X λe R=>e=FN (I J (bA d D))/\Bw X R):=λX D hX kU=>
  yL (.func (.func g) #[] lb) ⟨K,L,d⟩ D X ⟨g,lb,rfl⟩ (Qo (m.trans (hX.mono m.size)) HC.o) kU
 have Dr:=Zh hin;have ai:=q.1;have JM:Y3 _:=q;have HL:=Zh hl;clear hc hs hin q hl;go_enter Tryz.func115,Tryz.ntmps115;go_wp2;clear n;go_loopw [5,10] (λv j wr=>∃k:Nat,k<=N a/\j=I J k/\Y3 (wr.ownsRow (M (H p)) 3 1 v (N (aK d (a.take k))) ((aK d (a.take k)).map (Value.int J)))/\Bw p wr) (λ_ j _=>N a-(intOf j).toNat)
 case atStart=>exact⟨0,QW _,rfl,Zk _ _ _ _,Qm _ _⟩
 case round=>
  obtain⟨k,hk,rfl,Q,f⟩:=hrel;obtain⟨S,W,rc,rfl⟩:=Zc Q.o;by_cases l:k<N a
  .obtain⟨b,off,rfl,A⟩:=Qg JM.o l;obtain⟨d1,e0,e1⟩:=aaX f (A k l) q0 q1;have u:aK d (a.take (k+1))=aK d (a.take k)++[bA d (E a k 0)]:=by unfold aK;rw[Qh l,Qi];simp[List.getD,l]
   have y:N (aK d (a.take k))<=1000:=by unfold aK;rw[Zm,Xu];have:=HL.o;omega
   have i:=vU.o wr (E a k 0) f (Dr.o _ (by simp[List.getD,l]));obtain⟨vR,PG,aa⟩:=dQ f u y;clear A f u y;generalize bA d (E a k 0)=P at*;generalize E a k 0=C at*;go_wp2_with fail;refine i.mono ?_;rintro e w3 ⟨rfl,t⟩;have r:=Za Q.o (QB (s:=λb=>b<M (H wr)) t (λb _ h=>h)) (λg hg=>(Zb Q.o hg).2);have G:=vR.o.trans (t.mono vR.o.size);obtain⟨v',w5,oU,yK,B,⟨va,vm,vc,rfl⟩,-⟩:=GX w3 (M (H p)) (Z S W rc) (aK d (a.take k)) r (by have:=aa.o;omega) G.size P 22;have z:=G.trans (B.below G.size (λb hb e=>by have:=(Zb r e).1;omega));rw[<-PG.o]at yK;have Fy:Y3 _:=yK;have jG:=Zh z;clear yK B z r G t i e0 e1 d1;go_wp2_with (first|(at_builtin;refine Xm rfl (.tmp 14) (.tmp 18) 22 rfl (Z S W rc) (Z (O (aD (M (H w3)) 0)) 1 1) (Z va vm vc) w5 rfl rfl oU ?_));clear oU;go_wp2;go_roundw
   case rel=>exact⟨k+1,by omega,by go_num,Fy.o,jG.o⟩
   case measure=>simp[intOf];omega
  .obtain rfl:k=N a:=by omega
   have HF:Y3 (aK d (a.take (N a))=aK d a):=by show _=_;rw[QX]
   obtain⟨HB,qL⟩:=aJ f m;clear f;go_wp2;go_ret;have ho:=Q.o;rw[HF.o]at ho;obtain⟨j,Aj,af,ag,ah⟩:=iC ho (by unfold aK;rw[Zm];have:=HL.o;omega);exact⟨j,by show Ending.returned (Z S W rc)=FN j.val;rw[Aj],af,ag,qL.o.trans (HB.o.mono qL.o.size),λb hb=>Qz qL.o.size (ah b hb)⟩
section
theorem Ct{e:TypeId}(h:w.ownsRow base e 1 v n (xs.map (Value.int J)))(hl:N xs<=1152921504606846976) :
  ∃a:ae,v=a.val/\a.xs=xs/\(Lu e).At a w/\∀b,aj.blk a=O b->base<=b:=by
 obtain⟨a,d,f,l,m⟩:=iC h hl;have i:N xs=n:=by have:=h.1;simpa using this
 refine⟨a,d,f,⟨l,?_⟩,m⟩;rw[<-d,f,i];refine⟨h.1,?_⟩;rcases h.2 with j|⟨g,cap,k,p,q,r⟩
 .exact .inl j
 grind
theorem Sd{kc:List Int}{a:List Gr}(h:∀g∈a,N g.key<=N kc/\g.cnt<=m):∀g∈stepG kc sc a row,N g.key<=N kc/\g.cnt<=m+1:=by
 intro g b;unfold stepG at b;split at b
 .obtain⟨j,e,rfl⟩:=Qq b;rw[XH]at e;rw[Xz];have d:=h _ (Zv e);split
  .exact⟨d.1,by show a[j].cnt+1<=_;omega⟩
  .exact⟨d.1,by omega⟩
 .rcases Zi.1 b with b|b
  .grind
  .rw[Zg]at b;subst b;exact⟨by simp[mr,mD,au],by simp[mr,mD]⟩
def ET{kc sc:List Int}:∀(rows:List (List Int)) (m:Nat) (a:List Gr),(∀g∈a,N g.key<=N kc/\g.cnt<=m)->∀g∈rows.foldl (stepG kc sc) a,N g.key<=N kc/\g.cnt<=m+N rows
 |[],m,a,h=>by simpa using h
 |r::l,m,a,h=>by rw[ZF];intro g hg;have:=ET l (m+1) _ (Sd h) g hg;rw[QO];omega
def Km{kc:List Int}{rows:List (List Int)}:∀g∈dW kc sc rows,N g.key<=N kc/\g.cnt<=N rows:=by
 intro g a;unfold dW at a;have:=ET rows 0 (cO kc sc) (λg a=>by
  unfold cO at a;split at a
  .rw[Zg]at a;subst a;exact⟨QW _,Qn _⟩
  .simp at a) g a
 omega
def afl{A:U}(h:ou tg ti tp n base bg gs A v)(hi:i<N gs):∃g cap,v=Z (O (aD g 0)) (N gs) cap/\UK A (aD g i)=O (Y (O (aD (gs[i].gb) 0))):=by obtain⟨g,cap,a,b⟩:=qP h.own hi;refine⟨g,cap,a,?_⟩;rw[b,ZA,ZB hi];rfl
attribute [local go_sem] Oper.semAt_some
end
