import Derived.Test.YtnjbikdhpnopjaaGreatDoorA10
import Derived.Test.YtnjbikdhpnopjaaGreatDoorA13
import Derived.Test.YtnjbikdhpnopjaaGreatDoorA14
set_option linter.all false
set_option maxRecDepth 100000
set_option maxHeartbeats 0
namespace Go.Proofs.Zz
open Go.RowKit Go.Shelf
open List renaming length->N,getD->E
open Go.Value renaming slice->Z,int->I,pointer->Y,bool->Wl,agg->FL
open Go.Proofs.Tryz renaming prog->V
open Option renaming some->O,none->xn
open Go.IntKind renaming i64->J
open Bool renaming false->F,true->T
open Go renaming World->U,Value->X3
open Go.World renaming heap->H,setCell->UC,cell?->UK
open _root_.Array renaming size->M
open Go.RowKit renaming Hid->Y3
open Go.Obj renaming cells->EP
open Go.Ending renaming returned->FN
variable {e tC tD:TypeId} {B Bm Bx base fuel i id k:Nat} {A W w w' w2 w4 x:U} {u v:X3} {db:List aP} {ts:List ah} {q:af} {is src:List Int} {s:Nat->Prop} {C P Q:Prop} {ops:Array Oper} {md:Region.Mode} {listed:Array Bool} {a:Act} {oi:Oper} {S:U->Prop} {cs:List aI} {n:Int} {ls ms:List aB} {α:Type}
def Gm:Item ae where
 val:=ae.val
 At:=aj.At
 blk x b:=aj.blk x=O b
 keep:=λh hs hb=>aj.keep h hs (λb hlt hx=>hb b hx hlt)
def yY:Item aP where
 val:=aP.val
 At t W:=bD W t.ad t.rs
 blk t b:=(∃a,t.ad=O a/\a.block=b)∨∃i,i<N t.rs/\aj.blk (E t.rs i iz)=O b
 keep:=by intro t A B h hs hb;exact bD.keep h hs (λa ha=>hb _ (.inl ⟨a,ha,rfl⟩) (h.2.1 a ha)) (λi hi b hbx=>hb b (.inr ⟨i,hi,hbx⟩) (aj.zw (h.2.2 i hi) hbx))
theorem ahm{rs:List ae}(ho:W.ownsRow base e 1 v (N rs) (rs.map ae.val))(h:Itm Gm base W v rs)(hl:N rs<=1000):∃t:aP,v=t.val/\t.rs=rs/\yY.At t W/\∀b,yY.blk t b->base<=b/\b<M (H W):=by
 have f:∀i,i<N rs->E rs i iz∈rs:=λi d=>by simp_all
 rcases ho.2 with⟨hv,h0⟩|⟨g,cap,cur,hv,hb,hh,hc,_,hcs,ht⟩
 .have:=Qs h0;subst this;refine⟨⟨xn,0,[]⟩,hv,rfl,⟨⟨by simp,λi d=>absurd d (by simp),λi d=>absurd d (by simp)⟩,(λa k=>by cases k),λi d=>absurd d (by simp)⟩,?_⟩;rintro b (⟨a,k,_⟩|⟨i,d,_⟩)
  .cases k
  .simp at d
 .have j:∀i,i<N rs->aj.At (E rs i iz) W:=λi d=>(h _ (f i d)).1
  refine⟨⟨O (aD g 0),cap,rs⟩,hv,rfl,⟨⟨by grind,λi d=>⟨g,0,rfl,?_⟩,λi d=>(j i d).1⟩,λa k=>?_,j⟩,?_⟩
  .have l:i<N rs:=d;have n:(cur.toList.take (N rs*1))[i]? = O (E rs i iz).val:=by rw[ht];simp[List.getD,l,Gm]
   have p:cur[i]? = O (E rs i iz).val:=by grind
   simp only[World.cell?,hh];simp_all
  .grind
  .rintro b (⟨a,k,rfl⟩|⟨i,d,m⟩)
   .grind
   .have:=(h _ (f i d)).2 b m;omega
theorem alu(ho:W.ownsRow base e 1 v (N db) (db.map aP.val))(h:Itm yY base W v db)(hl:N db<=1000):∃f cap,v=Z f (N db) cap/\uG W f db:=by
 have b:∀i,i<N db->E db i rz∈db:=λi a=>by simp_all
 have d:∀i,i<N db->bD W (E db i rz).ad (E db i rz).rs:=λi a=>(h _ (b i a)).1;rcases ho.2 with⟨hv,h0⟩|⟨g,cap,cur,hv,hb,hh,hc,_,hcs,ht⟩
 .have:=Qs h0;subst this;exact⟨xn,0,hv,⟨by simp,λi a=>absurd a (by simp),λi a=>absurd a (by simp)⟩,λi a=>absurd a (by simp)⟩
 .refine⟨O (aD g 0),cap,hv,⟨by omega,λi a=>⟨g,0,rfl,?_⟩,λi a=>(d i a).1⟩,d⟩;have j:(cur.toList.take (N db*1))[i]? = O (E db i rz).val:=by rw[ht];simp[List.getD,a,yY]
  have k:cur[i]? = O (E db i rz).val:=by grind
  simp only[World.cell?,hh];simp_all
def ah.list(t:ah):List Value:=[I J t.cols,I J t.rows,I J t.k0,I J t.k1,I J t.k2,I J t.k3]
def KU(t:ah):N t.list=6:=rfl
theorem KW(h:w.ownsRow base e 6 v (N ts) (ts.flatMap ah.list))(hl:N ts<=100) :
  ∃f cap,v=Z f (N ts) cap/\bu w f ts/\∀a,f=O a->base<=a.block/\a.block<M (H w):=by
 rcases h.2 with⟨rfl,h0⟩|⟨g,cap,cur,rfl,hb,hh,hc,_,hcs,ht⟩
 .have:=Qs h0;subst this;exact⟨xn,0,rfl,⟨by simp,λi d=>absurd d (by simp)⟩,λa l=>by cases l⟩
 .refine⟨O (aD g 0),cap,rfl,⟨by omega,λi d=>⟨g,0,rfl,?_⟩⟩,λa l=>by grind⟩;have b:∀j,j<6->UK w (aD g (0+i*6+j))=((E ts i tz).list)[j]?:=λj m=>by have k:=MO ah.list 6 KU tz ts [] i j d m;rw[Xd]at k;rw[<-k,<-ht,Xt,Zt (by omega)];simp[World.cell?,hh]
  exact⟨b 0 (by omega),b 1 (by omega),b 2 (by omega),b 3 (by omega),b 4 (by omega),b 5 (by omega)⟩
def UG(cv:X3)(q:af)(dv:X3):List Value:=cv::(q.list++[dv])
def an5(W:U)(B:Nat)(v0 v1 v2 v3 v4 v5 v6 v7 v8:X3):(UC (UC (UC (UC (UC (UC (UC (UC (UC W (aD B 0) v0) (aD B 1) v1) (aD B 2) v2) (aD B 3) v3) (aD B 4) v4) (aD B 5) v5) (aD B 6) v6) (aD B 7) v7) (aD B 8) v8)=ig B 0 [v0,v1,v2,v3,v4,v5,v6,v7,v8] W:=rfl
def adC{t:TypeId}(h:GB W B t (jX (Z xn 0 0) qz (Z xn 0 0)))(cv:X3)(q:af)(dv:X3):GB (ig B 0 (UG cv q dv) W) B t (jX cv q dv):=by have a:=pG (vs:=UG cv q dv) (o:=0) h;simpa only [uk,UG,jX,af.list,QV,QU,Qu,Qb,Qc] using a
structure Bc(ts:List ah)(q:af)(db:List aP):Prop where
 ako:1<=N ts/\N ts<=3/\∀t∈ts,Gt t t.cols.toNat
 qry:aaU ts q
 len:N db=N ts
 rows:∀i,i<N db->(E db i rz).rs.length<=4/\∀r∈(E db i rz).rs,(N r.xs:Int)=(E ts i tz).cols/\∀x∈r.xs,x=1073741824∨(-1<=x/\x<=3)
def Fp(h1:1<=N ts)(h3:N ts<=3)(h:∀t∈ts,Gt t t.cols.toNat):ji ts=true:=by unfold ji;simp only[Qj,ZW];refine⟨⟨h1,by omega⟩,?_⟩;rw[Qk];intro t a;have k:=h t a;unfold mK;rw[ZW];exact⟨k.c1,by have:=k.c3;omega,k.r0,k.r1,k.kd⟩
theorem JD(wP:ji ts=T)(hs:aS q.src.xs (N ts)=T/\1<=N q.src.xs/\N q.src.xs<=5)(hw:N q.wh<=8/\∀x∈q.wh,Dl (ak ts q.src.xs) x)
  (hl:N q.bE.xs<=8/\N q.keys.xs<=4/\N q.sums.xs<=4/\N q.ord.xs<=4) (hr:rF (ak ts q.src.xs) q.group q.keys.xs q.sums.xs q.bE.xs q.ord.xs=T):q.check ts=0:=by
 unfold af.check Dy;have e:¬ji ts=false:=by simp_all
 have f:¬vN q.src.xs q.wm q.keys.xs q.sums.xs q.bE.xs q.ord.xs=true:=by
  unfold vN;rw[Z5,not_or];refine⟨?_,?_⟩
  .rw[ZW];have:N q.wm=N q.wh:=by simp[af.wm]
   omega
  .rw[List.any_eq_true];rintro⟨c,b,d⟩;unfold af.wm at b;obtain⟨x,a,rfl⟩:=ZC.1 b;have:=(hw.2 x a).2.1
   grind
 have d:mo q.wm (ak ts q.src.xs)=true:=by unfold mo af.wm;rw[List.all_map,Qk];intro x a;have:=hw.2 x a;simp only[Function.comp];unfold Bj;rw[Qj,ZW,Qk];exact⟨this.1,this.2.2⟩
 grind
def Bc.data(h:Bc ts q db)(hs:N src<=4):sQ ts src db=true:=by
 have k:zC ts db=true:=by
  unfold zC;rw[Qk];intro i e;have f:i<N db:=by simpa using e
  obtain⟨u,d⟩:=h.rows i f;unfold P8 Vi;rw[Qj,ZW,Qk];refine⟨by omega,λr y=>?_⟩;obtain⟨g,v⟩:=d r y;unfold P7;rw[Qj,ZW,Qk];refine⟨g,λx z=>?_⟩;unfold Vh;rcases v x z with j|j
  .rw[j];rfl
  .rw[Z5,Qj,ZW,ZW,ZW];right;omega
 have b:∀t:Int,(E db t.toNat rz).rs.length<=4:=λt=>by
  by_cases e:t.toNat<N db
  .exact(h.rows _ e).1
  .have:E db t.toNat rz=rz:=by simp[List.getD,e]
   rw[this];decide
 have m:∀(l:List Int) (n:Nat),l.foldl (λn t=>n*max 1 (E db t.toNat rz).rs.length) n<=n*4 ^ (N l):=by
  intro l
  induction l with
  |nil=>intro n;simp
  |cons a l ih =>
   intro n;refine Qz (ih _) ?_;have d:max 1 (E db a.toNat rz).rs.length<=4:=by have:=b a;omega
   rw[QO,Nat.pow_succ,Nat.mul_comm (4 ^ (N l)) 4,<-Nat.mul_assoc];exact Nat.mul_le_mul_right _ (Nat.mul_le_mul_left _ d)
 have p:gL src db<=20000:=by
  have u:=m src 1;have d:(4:Nat) ^ (N src)<=4 ^ 4:=ZI (by decide) hs;have g:(4:Nat) ^ 4=256:=by decide
  unfold gL;omega
 unfold sQ;rw[Qj,Qj,ZW,ZW];exact⟨⟨h.len,k⟩,p⟩
def atf(hx:Kept s W x)(b o:Nat)(hs:s b)(h:(UK W (aD b o)).isSome=T):UK x (aD b o)=UK W (aD b o):=by obtain⟨v,a⟩:=Option.isSome_iff_exists.1 h;rw[QL (hx.block b (QK a) hs)]
def wk{P:Program}{Q:Exit->Act->World->Prop}(_:tQ i)(hS:Kept s W w)(h:wpAnyH P md ops Q (λx=>Kept s W x) fuel (listed.setIfInBounds i true) (a.put (some k) v) w)(hi:ops[i]? = some oi:=by exact rfl)(hk:oi.dst=some k:=by exact rfl)(hs:Region.noSelect ops=true:=by kernel_rfl)(hf:Region.free md ops listed i=true:=by kernel_rfl)(hr:(Region.ready md ops listed).contains i=true:=by kernel_rfl)(hQ:∀c a w,Q (.panic c) (a.put oi.dst v) w->Q (.panic c) a w:=by first|exact λ_ _ _ h=>h|exact λ_ _ _ h=>by cases h.1)(hg:Region.wanted oi (yielded ops a.tmps)=true:=by rfl)(hy:∀x,Kept s W x->(execOp a.eval oi).run P x=.ok (.value v) x:=by intro x hx;have hc:=atf hx;go_simp;first|done|(refine ah6 ?_ rfl;omega)|(refine ah7 ?_ rfl;omega)|rfl):wpAnyH P md ops Q (λx=>Kept s W x) (fuel+1) listed a w:=
 Qa hi hs hf hr hQ (.inl ⟨hg,hy⟩) hS (by rw[hk];exact h)
def wK1(i:Nat)(s:C)(k:Q)(h:tQ i->C->Wq Q->P:=by
  intro a b d;refine wk a b ?_;try simp only[pU]
  exact d.o):P:=h trivial s k
def wK2(i:Nat)(s:C)(k:Q)(h:tQ i->C->Wq Q->P:=by
  intro a b d;refine wk a b ?_;refine wk a.s b ?_;try simp only[pU]
  exact d.o):P:=h trivial s k
def wK3(i:Nat)(s:C)(k:Q)(h:tQ i->C->Wq Q->P:=by
  intro a b d;refine wk a b ?_;refine wk a.s b ?_;refine wk a.s.s b ?_;try simp only[pU]
  exact d.o):P:=h trivial s k
def wK4(i:Nat)(s:C)(k:Q)(h:tQ i->C->Wq Q->P:=by
  intro a b d;refine wk a b ?_;refine wk a.s b ?_;refine wk a.s.s b ?_;refine wk a.s.s.s b ?_;try simp only[pU]
  exact d.o):P:=h trivial s k
def wK6(i:Nat)(s:C)(k:Q)(h:tQ i->C->Wq Q->P:=by
  intro a b d;refine wk a b ?_;refine wk a.s b ?_;refine wk a.s.s b ?_;refine wk a.s.s.s b ?_;refine wk a.s.s.s.s b ?_;refine wk a.s.s.s.s.s b ?_;try simp only[pU]
  exact d.o):P:=h trivial s k
def wx{P:Program}{Q:Exit->Act->World->Prop}(_:tQ i)(hS:S w)(h:wpAnyH P md ops Q S fuel (listed.setIfInBounds i true) (a.put (some k) v) w)(hi:ops[i]? = some oi:=by exact rfl)(hk:oi.dst=some k:=by exact rfl)(hs:Region.noSelect ops=true:=by kernel_rfl)(hf:Region.free md ops listed i=true:=by kernel_rfl)(hr:(Region.ready md ops listed).contains i=true:=by kernel_rfl)(hQ:∀c a w,Q (.panic c) (a.put oi.dst v) w->Q (.panic c) a w:=by first|exact λ_ _ _ h=>h|exact λ_ _ _ h=>by cases h.1)(hg:Region.wanted oi (yielded ops a.tmps)=true:=by rfl)(hy:∀x,(execOp a.eval oi).run P x=.ok (.value v) x:=by intro x;go_simp;first|done|rfl):wpAnyH P md ops Q S (fuel+1) listed a w:=
 Qa hi hs hf hr hQ (.inl ⟨hg,λx _=>hy x⟩) hS (by rw[hk];exact h)
def wX1(i:Nat)(s:C)(k:Q)(h:tQ i->C->Wq Q->P:=by
  intro a b d;refine wx a b ?_;try simp only[pU]
  exact d.o):P:=h trivial s k
def wX2(i:Nat)(s:C)(k:Q)(h:tQ i->C->Wq Q->P:=by
  intro a b d;refine wx a b ?_;refine wx a.s b ?_;try simp only[pU]
  exact d.o):P:=h trivial s k
def wX3(i:Nat)(s:C)(k:Q)(h:tQ i->C->Wq Q->P:=by
  intro a b d;refine wx a b ?_;refine wx a.s b ?_;refine wx a.s.s b ?_;try simp only[pU]
  exact d.o):P:=h trivial s k
def wX4(i:Nat)(s:C)(k:Q)(h:tQ i->C->Wq Q->P:=by
  intro a b d;refine wx a b ?_;refine wx a.s b ?_;refine wx a.s.s b ?_;refine wx a.s.s.s b ?_;try simp only[pU]
  exact d.o):P:=h trivial s k
def wHk{P:Program}{Q:Exit->Act->World->Prop}(w:World)(s:Nat->Prop)(h:Kept s w w.drew->wpAnyH P .any ops Q (λx=>Kept s w x) ops.size (Array.replicate ops.size false) a w.drew)(hm:P.follows .mixedOrders=true:=by kernel_rfl):(Code.region id ops true).wp P Q a w:=
 Qv hm (QB ((Qm _ _).drew) λ_ h _=>h) h
def oKs{X K':Act->U->Prop}(hK:Shut (∀a w,Kept s W w->(Kept s W w->X a w)->K' a w))(hS:Kept s W w)(hb:Bw w w')(h:Kept s W w'->X a w'):K' a w':=hK.o _ _ (hS.trans (QB hb λ_ h _=>h)) h
def F13(b:Nat)(v0 v1 v2 v3 v4 v5 v6 v7 v8 v9 v10 v11 v12:X3)(x:U):Prop:=UK x (aD b 0)=O v0/\UK x (aD b 1)=O v1/\UK x (aD b 2)=O v2/\UK x (aD b 3)=O v3/\UK x (aD b 4)=O v4/\UK x (aD b 5)=O v5/\UK x (aD b 6)=O v6/\UK x (aD b 7)=O v7/\UK x (aD b 8)=O v8/\UK x (aD b 9)=O v9/\UK x (aD b 10)=O v10/\UK x (aD b 11)=O v11/\UK x (aD b 12)=O v12
def F13.below{b:Nat}{v0 v1 v2 v3 v4 v5 v6 v7 v8 v9 v10 v11 v12:X3}{x y:U}(h:F13 b v0 v1 v2 v3 v4 v5 v6 v7 v8 v9 v10 v11 v12 x)(hb:Bw x y):F13 b v0 v1 v2 v3 v4 v5 v6 v7 v8 v9 v10 v11 v12 y:=by obtain⟨a0,d,e,a3,a4,a5,f,g,i,a9,j,k,a⟩:=h;exact vM hb a0 d e a3 a4 a5 f g i a9 j k a
def wy{P:Program}{Q:Exit->Act->World->Prop}(_:tQ i)(hS:S w)(h:wpAnyH P md ops Q S fuel (listed.setIfInBounds i true) (a.put (some k) v) w)(hi:ops[i]? = some oi:=by exact rfl)(hk:oi.dst=some k:=by exact rfl)(hs:Region.noSelect ops=true:=by kernel_rfl)(hf:Region.free md ops listed i=true:=by kernel_rfl)(hr:(Region.ready md ops listed).contains i=true:=by kernel_rfl)(hQ:∀c a w,Q (.panic c) (a.put oi.dst v) w->Q (.panic c) a w:=by first|exact λ_ _ _ h=>h|exact λ_ _ _ h=>by cases h.1)(hg:Region.wanted oi (yielded ops a.tmps)=true:=by rfl)(hy:∀x,S x->(execOp a.eval oi).run P x=.ok (.value v) x:=by intro x hx;try simp only[F13]at hx;go_simp;first|done|rfl):wpAnyH P md ops Q S (fuel+1) listed a w:=
 Qa hi hs hf hr hQ (.inl ⟨hg,hy⟩) hS (by rw[hk];exact h)
def wY1(i:Nat)(s:C)(k:Q)(h:tQ i->C->Wq Q->P:=by
  intro a b d;refine wy a b ?_;try simp only[pU]
  exact d.o):P:=h trivial s k
def wY3(i:Nat)(s:C)(k:Q)(h:tQ i->C->Wq Q->P:=by
  intro a b d;refine wy a b ?_;refine wy a.s b ?_;refine wy a.s.s b ?_;try simp only[pU]
  exact d.o):P:=h trivial s k
def wY4(i:Nat)(s:C)(k:Q)(h:tQ i->C->Wq Q->P:=by
  intro a b d;refine wy a b ?_;refine wy a.s b ?_;refine wy a.s.s b ?_;refine wy a.s.s.s b ?_;try simp only[pU]
  exact d.o):P:=h trivial s k
def wY6(i:Nat)(s:C)(k:Q)(h:tQ i->C->Wq Q->P:=by
  intro a b d;refine wy a b ?_;refine wy a.s b ?_;refine wy a.s.s b ?_;refine wy a.s.s.s b ?_;refine wy a.s.s.s.s b ?_;refine wy a.s.s.s.s.s b ?_;try simp only[pU]
  exact d.o):P:=h trivial s k
def wHy{P:Program}{Q:Exit->Act->World->Prop}(w:World)(S:World->Prop)(h0:S w.drew)(h:S w.drew->wpAnyH P .any ops Q S ops.size (Array.replicate ops.size false) a w.drew)(hm:P.follows .mixedOrders=true:=by kernel_rfl):(Code.region id ops true).wp P Q a w:=
 Qv hm h0 h
def zK(ts:List ah)(src:List Int)(s:Int)(k:Nat):List Int:=((List.range k).filter λ(c:Nat)=>decide (((aC ts src (c:Int):Nat):Int)=s)).map λ(c:Nat)=>(c:Int)
theorem VS(ts:List ah)(src:List Int)(s:Int)(k:Nat):zK ts src s (k+1)=if ((aC ts src (k:Int):Nat):Int)=s then zK ts src s k++[(k:Int)] else zK ts src s k:=by unfold zK;rw[ZM,QZ,Qi];grind
theorem L6(ts:List ah)(src:List Int)(s:Int)(k:Nat):N (zK ts src s k)<=k:=by unfold zK;grind
def Ki(f:aF)(ts:List ah)(q:af)(s:Int)(w:U)(hf:f.At ts q w) :
  Calls V 169 #[FL (f.cells ts q),I J s] w λe w'=>∃i:ae,e=FN i.val/\i.xs=fw ts q.src.xs s/\aj.At i w'/\Bw w w'/\∀b,aj.blk i=O b->M (H w)<=b:=by
 obtain⟨S,W,n,B⟩:=aL w ((f.cells ts q)) 90;have q7:=B.at 7;have l:=hf.cols.below n;have aK:=l.1;have ry:Y3 _:=l;have G:Y3 (zK ts q.src.xs s (N (jm ts q))=fw ts q.src.xs s):=rfl;have K:Y3 (∀k:Nat,(E (jm ts q) k (0,0)).1=aC ts q.src.xs (k:Int)):=λk=>by unfold aC jm;rw[Xk]
 have L:=Zh n;clear B l hf n;obtain⟨X,aa,ag,ai,ak,au,av,ax,ay,az⟩:=f;simp only at*;generalize aF.cells ⟨X,aa,ag,ai,ak,au,av,ax,ay,az⟩ ts q=FC at*;generalize jm ts q=CN at*;go_enter Tryz.func169,Tryz.ntmps169;go_wp2;clear W;go_loopw [5,11] (λv i wr=>∃k:Nat,k<=N CN/\i=I J k/\Y3 (wr.ownsRow (M (H S)) 3 1 v (N (zK ts q.src.xs s k)) ((zK ts q.src.xs s k).map (Value.int J)))/\Bw S wr) (λ_ i _=>N CN-(intOf i).toNat)
 case atStart=>exact⟨0,QW _,rfl,Zk _ _ _ _,Qm _ _⟩
 case round=>
  obtain⟨k,hk,rfl,C,d⟩:=hrel;obtain⟨ra,rm,rc,rfl⟩:=Zc C.o;by_cases aI:k<N CN
  .obtain⟨b,off,rfl,c0,c1⟩:=ry.o.2 k aI;obtain⟨d0,d1⟩:=nH d c0 c1;rw[K.o k]at d0;obtain⟨D,aA⟩:=aJ (VS ts q.src.xs s k) (L6 ts q.src.xs s k);obtain⟨KD,y⟩:∃x,x=(E CN k (0,0)).2:=⟨_,rfl⟩
   rw[<-y]at d1;clear y;obtain⟨z,p⟩:∃x,wr.alloc (EP #[I J ((aC ts q.src.xs (k:Int):Nat):Int),I .u64 KD] 141)=x:=⟨_,rfl⟩;have j:Bw wr z:=by rw[<-p];exact dN _ _
   have e0:UK z (aD (M (H wr)) 0)=O (I J ((aC ts q.src.xs (k:Int):Nat):Int)):=by rw[<-p];simp
   have a:=Za C.o (QB (s:=λb=>b<M (H wr)) j (λb _ h=>h)) (λg B=>(Zb C.o B).2);have r:=d.trans (j.mono d.size);clear c0 c1 d e0;have e0:=cB (Qm _ _) (show UK z (aD (M (H wr)) 0)=O (I J ((aC ts q.src.xs (k:Int):Nat):Int)) by rw[<-p];simp);by_cases t:((aC ts q.src.xs (k:Int):Nat):Int)=s
   .have P:(((aC ts q.src.xs (k:Int):Nat):Int)==s)=true:=by simpa using t
    have m:=Zh (D.o.trans (Zt t));obtain⟨v',w5,oU,yK,A,⟨va,vm,vc,rfl⟩,-⟩:=GX z (M (H S)) (Z ra rm rc) (zK ts q.src.xs s k) a (by have:=aA.o;omega) r.size (k:Int) 22;have u:=r.trans (A.below r.size (λb hb e=>by have:=(Zb a e).1;omega));rw[<-m.o]at yK;have Q:Y3 _:=yK;have R:=Zh u;clear yK A u a r j t D;generalize ((aC ts q.src.xs (k:Int):Nat):Int)=SRC at*;go_wp2_with (first|(at_builtin;refine Xm rfl (.tmp 20) (.tmp 22) 22 rfl (Z ra rm rc) (Z (O (aD (M (H z)) 0)) 1 1) (Z va vm vc) w5 rfl rfl oU ?_));clear oU;go_wp2;go_roundw
    case rel=>exact⟨k+1,by omega,by go_num,Q.o,R.o⟩
    case measure=>simp[intOf];omega
   .have P:(((aC ts q.src.xs (k:Int):Nat):Int)==s)=false:=by simpa using t
    have m:=Zh (D.o.trans (ZU t));rw[<-m.o]at a;have Q:Y3 _:=a;have R:=Zh r;clear a r j t D;generalize ((aC ts q.src.xs (k:Int):Nat):Int)=SRC at*;go_wp2;go_roundw
    case rel=>exact⟨k+1,by omega,by go_num,Q.o,R.o⟩
    case measure=>simp[intOf];omega
  .obtain rfl:k=N CN:=by omega
   have HB:=Zh d;clear d;go_wp2;go_ret;have ho:=C.o;obtain⟨i,Aj,aB,aG,aH⟩:=iC ho (by have:=L6 ts q.src.xs s (N CN);omega);exact⟨i,by show Ending.returned (Z ra rm rc)=FN i.val;rw[Aj],aB.trans G.o,aG,L.o.trans (HB.o.mono L.o.size),λb hb=>Qz L.o.size (aH b hb)⟩
theorem N8(hk:k<N cs):∀x∈aH (E cs k cz),x∈aN cs:=λx a=>by unfold aN;grind
structure FE(tC tD:TypeId)(C:List Int)(cs:List aI)(w2:U)(Bm:Nat)(k:Nat)(v:X3)(W:U):Prop where
 below:Bw w2 W
 box:GB W Bm tC #[v]
 own:W.ownsRow (M (H w2)) tD 5 v k (((cs.take k).map (dC C)).flatMap aI.aA)
 off:v.ownBlock≠O Bm
def FE.keep{C:List Int}{B:U}(h:FE tC tD C cs w2 Bm k v A)(hb:Bw A B):FE tC tD C cs w2 Bm k v B:=
 ⟨h.below.trans (hb.mono h.below.size),h.box.of (hb.block _ h.box.lt),Za h.own (QB (s:=λb=>b<M (H A)) hb (λb _ h=>h)) (λg a=>(Zb h.own a).2),h.off⟩
def FE.set{C:List Int}(h:FE tC tD C cs w2 Bm k v A){G:Nat}(hG:M (H w2)<=G)(h1:G≠Bm)(h2:v.ownBlock≠O G):FE tC tD C cs w2 Bm k v (UC A (aD G i) u):=by have a:Kept (λb=>b≠G) A (UC A (aD G i) u):=Q8 _ _ _ (λh=>h rfl);exact⟨h.below.trans (a.below h.below.size (λb f=>by omega)),h.box.keep a (λe=>h1 e.symm),Za h.own a (λg d e=>h2 (e ▸ d)),h.off⟩
def VV(h:GB W B 73 #[v]):(loadVar 73 (aD B 0)).run V W=.ok (FL #[v]) W:=by have a:=h.at 0;simp[go_sem,a]
theorem RH{C:List Int}(h:FE 73 69 C cs w2 Bm k v W)(hk:k<=100)(hB:M (H w2)<=Bm)(d:aI)(hd:(cs.take (k+1)).map (dC C)=(cs.take k).map (dC C)++[d]) :
  ∃a m c f,(Builtin.append_ #[71,71] 71 #[v,Z (O (aD (M (H W)) 0)) 1 1]).run V (W.alloc (EP #[Wl d.not,I J d.op,I J d.left,Wl d.const,I J d.right] 69))=.ok (Z a m c) f/\
   UK f (aD Bm 0)=O v/\f.frozen? (aD Bm 0)=F/\FE 73 69 C cs w2 Bm (k+1) (Z a m c) (UC f (aD Bm 0) (Z a m c)):=by
 obtain⟨B,D,q,r,t⟩:=Zj Tryz.Ci;obtain⟨Q,f,G,K,p,⟨a,m,c,rfl⟩,u⟩:=iI (P:=V) W (M (H w2)) 71 71 69 B _ 5 40 Tryz.underlying71 D q r t rfl (by decide) v k _ h.own h.below.size d.aA rfl (by unfold aI.aA;simp[Value.oneCell']) (by omega) (by omega);have A:=h.box.lt;have gb:GB f Bm 73 #[v]:=h.box.keep p h.off;have i:(Value.slice a m c).ownBlock≠O Bm:=λe=>by
  rcases u with z|z
  .exact h.off (z.symm.trans e)
  grind
 have j:Kept (λb=>b≠Bm) f (UC f (aD Bm 0) (Z a m c)):=Q8 _ _ _ (λh=>h rfl);have l:∀b,v.ownBlock=O b->M (H w2)<=b:=λb y=>(Zb h.own y).1;have n:Bw w2 f:=h.below.trans (p.below h.below.size (λb y e=>by have:=l b e;omega));refine⟨a,m,c,f,G,gb.cell 0,gb.frozen 0,n.trans (j.below n.size (λb y=>by omega)),gb.set 0 _,?_,i⟩;rw[hd,ZN,Xr,List.flatMap_nil,Xd];exact Za K j (λg L e=>i (e ▸ L))
theorem ab7(ca:Option Addr)(cc:Nat)(cs:List aI)(v:X3)(c:ae)(w:U)(hx:aW w ca cs)(hl:N cs<=100)(hv:∃g lb,v=.func (.func g) #[] lb)(hc:c.At w)(hin:∀x∈aN cs,x∈c.xs) :
  Calls V 202 #[FL #[Z ca (N cs) cc],.func (.func 173) #[FL #[v,c.val]] #[]] w λe w'=>∃mv:aB,e=FN (FL #[mv.val])/\mv.cs=cs.map (dC c.xs)/\aW w' mv.ad mv.cs/\(∀a,mv.ad=O a->M (H w)<=a.block/\a.block<M (H w'))/\Bw w w':=by
 obtain⟨i0,hi,bD,bE,bF⟩:=Zj Tryz.Ci;have vU:Y3 (∀X gU,Bw w X->gU∈c.xs->Cb 173 #[FL #[v,c.val],I J gU] X (I J (bA c.xs gU))):=λX gU hX kU=>yL v c gU X hv (Qo hX hc) kU;have Al:Y3 _:=hl;have Dr:Y3 _:=hin;have HX:Y3 _:=hx;have bW:=hx.1;obtain⟨n,L⟩:∃x,w.alloc (EP #[Z ca (N cs) cc] 73)=x:=⟨_,rfl⟩;have ay:Bw w n:=by rw[<-L];exact dN _ _
 have s1:M (H n)=M (H w)+1:=by rw[<-L];simp
 have q0:UK n (aD (M (H w)) 0)=O (Z ca (N cs) cc):=by rw[<-L];simp
 obtain⟨m,Q⟩:∃x,n.alloc (EP #[Z xn 0 0] 73)=x:=⟨_,rfl⟩;have az:Bw n m:=by rw[<-Q];exact dN _ _
 have s2:M (H m)=M (H w)+2:=by rw[<-Q];simp[s1]
 have g2:GB m (M (H n)) 73 #[Z xn 0 0]:=by rw[<-Q];exact pR _ _
 have q2:=cB az q0;obtain⟨R,bT,ai,bG⟩:=run_make_own (P:=V) m (M (H m)) 71 69 i0 _ 5 Tryz.underlying71 hi bD bE J J (N cs) (by rw[bF];omega) (by unfold maxLen;omega) (Qn _);have W:Bw m R:=(Q9 (s:=λ_=>True) bG (λr e=>by cases e)).below (Qn _) (λ_ _=>trivial);have aX:M (H m)<M (H R):=by have:=(Zb ai (g:=M (H m)) rfl).2;exact this
 obtain⟨w4,bH,aT,g4⟩:=aL R #[Z (O (aD (M (H m)) 0)) 0 (N cs)] 73;have uF:Bw m w4:=W.trans (aT.mono W.size);have q3:=cB W q2;have q4:=cB uF q2;have bM:Y3 (FE 73 69 c.xs cs m (M (H R)) 0 (Z (O (aD (M (H m)) 0)) 0 (N cs)) w4):=
  ⟨uF,g4,Za ai (QB (s:=λb=>b<M (H R)) aT (λb _ h=>h)) (λg hg=>(Zb ai hg).2),λe=>absurd (XY (show O (M (H m))=O (M (H R)) from e)) (by omega)⟩
 have ax:Bw w m:=ay.trans (az.mono ay.size);have aa:Y3 (Bw w m):=ax;have aY:Y3 (GB m (M (H n)) 73 #[Z xn 0 0]):=g2;have HS:Y3 (M (H m)=M (H w)+2/\M (H m)<M (H R)):=⟨s2,aX⟩;have JM:Y3 (M (H n)=M (H w)+1):=s1;have bX:Y3 _:=Q;have bY:Y3 _:=L;have bZ:Y3 _:=bH;have cu:=g4.at 0;obtain⟨g,lb,rfl⟩:=hv;obtain⟨lQ,dE,l⟩:=c;unfold ae.val at*;simp only at*;clear hx hc hin hi bD bE bF hl ay az s1 q0 s2 g2 ai bG W aX aT g4 uF ax;go_enter Tryz.func202,Tryz.ntmps202;go_wp2;clear bT L Q bH;go_loopw [16] (λiv wr=>∃k:Nat,k<=N cs/\iv=I J k/\∃v,FE 73 69 l cs m (M (H R)) k v wr) (λiv _=>N cs-(intOf iv).toNat)
 case atStart=>exact⟨0,QW _,rfl,_,bM.o⟩
 case round=>
  obtain⟨k,hk,rfl,v,hM⟩:=hrel;obtain⟨z,A,B,rfl⟩:=Zc hM.own;have HM:Y3 _:=hM;have bN:=hM.box.cell 0;have bO:=hM.box.frozen 0;have bP:=cB hM.below q2;have yw:=hM.below.size;have af:Y3 (M (H m)<=M (H wr)/\M (H R)<M (H wr)):=⟨yw,hM.box.lt⟩;have vR:Y3 (Bw w wr):=aa.o.trans (hM.below.mono aa.o.size);clear hM yw;by_cases au:k<N cs
  .obtain⟨b,off,rfl,c0,c1,c2,c3,c4⟩:=HX.o.2 k au;obtain⟨d0,d1,d2,d3,d4⟩:=qA vR.o c0 c1 c2 c3 c4;have aZ:Y3 _:=N8 au;have bf:Y3 ((cs.take (k+1)).map (dC l)=(cs.take k).map (dC l)++[dC l (E cs k cz)]):=by show _=_;rw[Qh au,Qi];simp[List.getD,au]
   clear c0 c1 c2 c3 c4;generalize E cs k cz=cd at*;obtain⟨f,q,left,d,right⟩:=cd;simp only at*;obtain⟨w5,vT,aU,g5⟩:=aL wr #[Wl f,I J q,I J left,Wl d,I J right] 69;have M5:=HM.o.keep aU;have aA:Y3 (Bw w w5):=vR.o.trans (aU.mono vR.o.size);have e2:=g5.at 2;have aC:left∈l:=Dr.o _ (aZ.o _ (by unfold aH;split <;> simp));have bg:=vU.o w5 left aA.o aC;have K7:Y3 _:=M5;have zL:Y3 _:=g5;clear M5 g5 aU bN bO bP;generalize bL:bA l left=P1 at*;go_wp2_with fail;refine bg.mono ?_;rintro e w6 ⟨rfl,aj⟩;have g6:GB w6 (M (H wr)) 69 #[Wl f,I J q,I J left,Wl d,I J right]:=GB.of zL.o (aj.block _ (GB.lt zL.o));have M6:=K7.o.keep aj;have cK:Y3 (Bw w w6):=aA.o.trans (aj.mono aA.o.size);have f2:=g6.at 2;have t2:w6.frozen? (aD (M (H wr)) 2)=false:=g6.frozen 2;have g7:GB (UC w6 (aD (M (H wr)) 2) (I J P1)) (M (H wr)) 69 #[Wl f,I J q,I J P1,Wl d,I J right]:=g6.set 2 _;have aF:(Value.slice z A B).ownBlock≠O (M (H wr)):=λe=>by have:=(Zb HM.o.own e).2;omega
   have M7:=M6.set (i:=2) (u:=I J P1) (G:=M (H wr)) af.o.1 (by have:=af.o.2;omega) aF;have B7:Bw w (UC w6 (aD (M (H wr)) 2) (I J P1)):=aa.o.trans (M7.below.mono aa.o.size);have t:Y3 _:=g7;have bn:Y3 _:=M7;have FH:Y3 _:=B7;have bQ:Y3 _:=aF;clear g6 M6 g7 M7 B7 aF bg e2 aj;go_upto_region 6 with fail;obtain⟨w7,bI⟩:∃x,UC w6 (aD (M (H wr)) 2) (I J P1)=x:=⟨_,rfl⟩;rw[bI]at t bn FH ⊢;clear bI f2 t2;have h0:=Qt t.o 0;have h1:=Qt t.o 1;have h2:=Qt t.o 2;have h3:=Qt t.o 3;have h4:=Qt t.o 4;have ag:=xD ⟨f,q,P1,d,right⟩ w7;unfold aI.val at ag;simp only at ag h0 h1 h2 h3 h4;go_wp2_with fail;refine ag.mono ?_;rintro e w8 ⟨rfl,H5⟩;have g8:GB w8 (M (H wr)) 69 #[Wl f,I J q,I J P1,Wl d,I J right]:=GB.of t.o (H5.block _ (GB.lt t.o));have M8:=bn.o.keep H5;have bR:Y3 (Bw w w8):=FH.o.trans (H5.mono FH.o.size);clear ag h0 h1 h2 h3 h4 H5;by_cases av:q≠2/\d=F
   .obtain⟨o2,rfl⟩:=av;have bq:decide (q≠2)=true:=Qx o2;have D:(!F&&decide (q≠2))=true:=by rw[bq];rfl
    have ah:right∈l:=Dr.o _ (aZ.o _ (by unfold aH;rw[Zt ⟨o2,rfl⟩];simp));have bu:=vU.o w8 right bR.o ah;have cO:Y3 (bA l right=bA l right):=rfl;have k4:=g8.at 4;have aG:Y3 (dC l ⟨f,q,left,F,right⟩=⟨f,q,P1,F,bA l right⟩):=by show _=_;unfold dC;simp only;rw[Zt ⟨o2,trivial⟩,bL]
    have bz:Y3 _:=g8;have bS:Y3 _:=M8;clear g8 M8 o2;generalize bA l right=P2 at*;rw[D];clear D bq;go_wp2_with fail;refine bu.mono ?_;rintro e w9 ⟨rfl,JP⟩;have g9:GB w9 (M (H wr)) 69 #[Wl f,I J q,I J P1,Wl F,I J right]:=GB.of bz.o (JP.block _ (GB.lt bz.o));have M9:=bS.o.keep JP;have f4:=g9.at 4;have t4:w9.frozen? (aD (M (H wr)) 4)=false:=g9.frozen 4;have j:Y3 (GB (UC w9 (aD (M (H wr)) 4) (I J P2)) (M (H wr)) 69 #[Wl f,I J q,I J P1,Wl F,I J P2]):=g9.set 4 _;have C:Y3 (FE 73 69 l cs m (M (H R)) k (Z z A B) (UC w9 (aD (M (H wr)) 4) (I J P2))):=M9.set (i:=4) (u:=I J P2) (G:=M (H wr)) af.o.1 (by have:=af.o.2;omega) bQ.o;have aJ:Y3 ((cs.take (k+1)).map (dC l)=(cs.take k).map (dC l)++[⟨f,q,P1,F,P2⟩]):=by show _=_;rw[bf.o,aG.o]
    clear g9 M9 bu JP k4;go_upto_region 8 with fail;obtain⟨wz,bJ⟩:∃x,UC w9 (aD (M (H wr)) 4) (I J P2)=x:=⟨_,rfl⟩;rw[bJ]at j C ⊢;clear bJ f4 t4;have aK:=Qt j.o 0;have aM:=Qt j.o 1;have aO:=Qt j.o 2;have aP:=Qt j.o 3;have aQ:=Qt j.o 4;have aR:=C.o.box.cell 0;try simp only at aK aM aO aP aQ aR
    obtain⟨pa,pm,pc,wp,N9,bU,bV,S⟩:=RH C.o (by have:=Al.o;omega) (by have:=HS.o;omega) ⟨f,q,P1,F,P2⟩ aJ.o;try simp only at N9
    have aS:Y3 _:=S;clear S;go_wp2_with (first|(at_builtin;refine Xm rfl (.tmp 33) (.tmp 35) 71 rfl (Z z A B) (Z (O (aD (M (H wz)) 0)) 1 1) (Z pa pm pc) wp rfl rfl N9 ?_));clear N9;go_wp2;go_roundw
    case rel=>exact⟨k+1,by omega,by go_num,_,aS.o⟩
    case measure=>simp[intOf];omega
   .have D:(!d&&decide (q≠2))=false:=by
     cases d with
     |true=>rfl
     |false=>simp only[Bool.not_false,Z8];exact Qw (λh=>av ⟨h,rfl⟩)
    have aG:Y3 (dC l ⟨f,q,left,d,right⟩=⟨f,q,P1,d,right⟩):=by show _=_;unfold dC;simp only;rw[ZU av,bL]
    have aJ:Y3 ((cs.take (k+1)).map (dC l)=(cs.take k).map (dC l)++[⟨f,q,P1,d,right⟩]):=by show _=_;rw[bf.o,aG.o]
    have j:Y3 (GB w8 (M (H wr)) 69 #[Wl f,I J q,I J P1,Wl d,I J right]):=g8;have C:Y3 (FE 73 69 l cs m (M (H R)) k (Z z A B) w8):=M8;clear g8 M8 av;rw[D];clear D;have aK:=Qt j.o 0;have aM:=Qt j.o 1;have aO:=Qt j.o 2;have aP:=Qt j.o 3;have aQ:=Qt j.o 4;have aR:=C.o.box.cell 0;try simp only at aK aM aO aP aQ aR
    obtain⟨pa,pm,pc,wp,N9,bU,bV,S⟩:=RH C.o (by have:=Al.o;omega) (by have:=HS.o;omega) ⟨f,q,P1,d,right⟩ aJ.o;try simp only at N9
    have aS:Y3 _:=S;clear S;go_wp2_with (first|(at_builtin;refine Xm rfl (.tmp 33) (.tmp 35) 71 rfl (Z z A B) (Z (O (aD (M (H w8)) 0)) 1 1) (Z pa pm pc) wp rfl rfl N9 ?_));clear N9;go_wp2;go_roundw
    case rel=>exact⟨k+1,by omega,by go_num,_,aS.o⟩
    case measure=>simp[intOf];omega
  .obtain rfl:k=N cs:=by omega
   obtain⟨RI,Cj,bK,aV,ak⟩:=vo (cs:=cs.map (dC l)) (by have h:=HM.o.own;rw[QX]at h;rw[Zm];exact h) (by rw[Zm];exact Al.o);have bB:Value.slice z A B=Z RI (N (cs.map (dC l))) Cj:=bK;have nO:Y3 (GB wr (M (H n)) 73 #[Z xn 0 0]):=aY.o.of (HM.o.below.block _ aY.o.lt);have cZ:UK wr (aD (M (H n)) 0)=O (Z xn 0 0):=Qt nO.o 0;have df:wr.frozen? (aD (M (H n)) 0)=false:=GB.frozen nO.o 0;have zn:Y3 (GB (UC wr (aD (M (H n)) 0) (Z z A B)) (M (H n)) 73 #[Z z A B]):=GB.set nO.o 0 _;have y:Kept (λb=>b≠M (H n)) wr (UC wr (aD (M (H n)) 0) (Z z A B)):=Q8 _ _ _ (λh=>h rfl);have bC:aW (UC wr (aD (M (H n)) 0) (Z z A B)) RI (cs.map (dC l)):=⟨aV.1,λi hi=>by
    obtain⟨b,off,e,c0,c1,c2,c3,c4⟩:=aV.2 i hi;have hb:=(ak (aD b off) e).1;have K:b≠M (H n):=by have:=HS.o.1;have:=JM.o;grind
    exact⟨b,off,e,Q0 c0 y K,Q0 c1 y K,Q0 c2 y K,Q0 c3 y K,Q0 c4 y K⟩⟩
   have rY:Y3 (∃mv:aB,Ending.returned (FL #[Z z A B])=FN (FL #[mv.val])/\mv.cs=cs.map (dC l)/\aW (UC wr (aD (M (H n)) 0) (Z z A B)) mv.ad mv.cs/\(∀a,mv.ad=O a->M (H w)<=a.block/\a.block<M (H (UC wr (aD (M (H n)) 0) (Z z A B))))/\Bw w (UC wr (aD (M (H n)) 0) (Z z A B))):=
    ⟨⟨RI,Cj,cs.map (dC l)⟩,by rw[bB];rfl,rfl,bC,λa ha=>by
     have h1:M (H m)<=a.block:=(ak a ha).1;have h2:=(ak a ha).2.1;have h3:M (H (UC wr (aD (M (H n)) 0) (Z z A B)))=M (H wr):=by simp[World.setCell]
     have:=HS.o.1;omega,vR.o.trans (y.below vR.o.size (λb hb=>by have:=JM.o;show b≠_;omega))⟩
   have JR:Y3 _:=VV zn.o;clear aV ak bK bB y bC;go_wp2;refine Zw (kL (p:=4) rfl rfl JR.o) rfl ?_;exact rY.o
theorem RQ{c:aI}{C:List Int}(h:fV c n=T)(hin:∀x∈aH c,x∈C):fV (dC C c) (N C)=true:=by
 have a:∀x∈C,0<=bA C x/\bA C x<N C:=λx b=>by have:=XD.2 b;unfold bA;omega
 unfold fV at h ⊢;unfold dC;simp only[Qj,ZW]at h ⊢;obtain⟨⟨⟨⟨d,e⟩,f⟩,g⟩,i⟩:=h;unfold aH at hin;grind
def Oa(ls:List aB)(C is:List Int)(ms:List aB):Prop:=ms.map aB.cs=is.map λi=>(E ls i.toNat lz).cs.map (dC C)
def Oa.holds{C:List Int}(h:Oa ls C is ms)(r:List Int):dR ms r=jq ls C is r:=by
 unfold dR jq;have a:(ms.all λc=>l7 c.cs r)=(ms.map aB.cs).all λcs=>l7 cs r:=by rw[List.all_map];rfl
 have b:(is.all λi=>l7 ((E ls i.toNat lz).cs.map (dC C)) r)=(is.map λi=>(E ls i.toNat lz).cs.map (dC C)).all λcs=>l7 cs r:=by rw[List.all_map];rfl
 rw[a,b,h]
def RU(bx:Nat)(RI:Option Addr)(Cj:Nat)(ms:List aB)(x:ae)(w:U)(hb:UK w (aD bx 0)=O (Z RI (N ms) Cj))(hx:x.At w)(hq:dJ w RI ms)(hcs:∀i,i<N ms->∀k,k<(E ms i lz).cs.length->fV ((E ms i lz).cs.getD k cz) (N x.xs)=T) :
  Calls V 203 (#[x.val] ++ #[Y (O (aD bx 0))]) w λe g=>e=FN (Wl (dR ms x.xs))/\Bw w g:=by have b:=L9 RI Cj ms x.ad x.cap x.xs w hx hq hcs;obtain⟨d,f,xs⟩:=x;unfold ae.val;simp only at*;show Calls V 203 #[Z d (N xs) f,Y (O (aD bx 0))] w _;clear hx hq hcs;generalize dR ms xs=B at*;go_enter Tryz.func203,Tryz.ntmps203;go_wp2_with fail;refine b.mono ?_;rintro e j ⟨rfl,a⟩;go_wp2;go_ret;exact⟨rfl,a⟩
structure RV(tL tC:TypeId)(ls:List aB)(C is:List Int)(w4:U)(Bx:Nat)(k:Nat)(v:X3)(ms:List aB)(W:U):Prop where
 kept:Kept (λb=>b≠Bx) w4 W
 box:GB W Bx tL #[v]
 own:W.ownsRow (M (H w4)) tC 1 v (N ms) (ms.map aB.val)
 moved:Oa ls C (is.take k) ms
 at':∀m∈ms,aW W m.ad m.cs/\∀a,m.ad=O a->M (H w4)<=a.block/\a.block<M (H W)/\v.ownBlock≠O a.block
def aW.kept{B:U}{ao:Option Addr}(h:aW A ao cs)(hk:Kept s A B)(hs:∀a,ao=O a->s a.block):aW B ao cs:=⟨h.1,λi m=>by
 obtain⟨b,off,e,f,g,j,k,l⟩:=h.2 i m;have d:=hs _ e;exact⟨b,off,e,Q0 f hk d,Q0 g hk d,Q0 j hk d,Q0 k hk d,Q0 l hk d⟩⟩
def dJ.kept{A B:U}{ao:Option Addr}{ls:List aB}{s:Nat->Prop}(h:dJ A ao ls)(hk:Kept s A B)(h1:∀a,ao=O a->s a.block)(h2:∀m∈ls,∀a,m.ad=O a->s a.block):dJ B ao ls:=
 ⟨h.1,h.2.1.keep (λa b e=>hk.block _ e (h1 a b)),λi d=>(h.2.2 i d).kept hk (λa b=>h2 _ (by simp[List.getD,d]) a b)⟩
def RV.keep{tL:TypeId}{C:List Int}{B:U}(h:RV tL tC ls C is w4 Bx k v ms A)(hb:Bw A B):RV tL tC ls C is w4 Bx k v ms B:=
 ⟨h.kept.trans (QB hb (λb hb _=>hb)),h.box.of (hb.block _ h.box.lt),Za h.own (QB (s:=λb=>b<M (H A)) hb (λb _ h=>h)) (λg i=>(Zb h.own i).2),h.moved,λm d=>
  ⟨(h.at' m d).1.kept (QB (s:=λb=>b<M (H A)) hb (λb _ h=>h)) (λa e=>((h.at' m d).2 a e).2.1),λa e=>by
   have f:=(h.at' m d).2 a e;exact⟨f.1,by have:=hb.size;omega,f.2.2⟩⟩⟩
theorem aeZ{C:List Int}(h:RV 24 73 ls C is w4 Bx k v ms W)(hk:N ms<=100)(hB:Bx<M (H w4))(hlt:k<N is)(m:aB)(hmc:m.cs=(E ls (E is k 0).toNat lz).cs.map (dC C))(hma:aW W m.ad m.cs)
  (hmb:∀a,m.ad=O a->M (H w4)<=a.block/\a.block<M (H W)/\v.ownBlock≠O a.block) :
  ∃a l c d,(Builtin.append_ #[24,24] 24 #[v,Z (O (aD (M (H W)) 0)) 1 1]).run V (W.alloc (EP #[m.val] 73))=.ok (Z a l c) d/\
   UK d (aD Bx 0)=O v/\d.frozen? (aD Bx 0)=F/\RV 24 73 ls C is w4 Bx (k+1) (Z a l c) (ms++[m]) (UC d (aD Bx 0) (Z a l c))/\
   Kept (λb=>b≠Bx/\v.ownBlock≠O b) (W.alloc (EP #[m.val] 73)) d/\Kept (λb=>b≠Bx/\v.ownBlock≠O b) d (UC d (aD Bx 0) (Z a l c)):=by
 obtain⟨i0,hi,z,A,B⟩:=Zj Tryz.Ak;have aa:=h.kept.size;have hA:M (H (W.alloc (EP #[m.val] 73)))=M (H W)+1:=by simp
 obtain⟨v',d,hr,S,D,_,ag⟩:=Xo (P:=V) (W.alloc (EP #[m.val] 73)) (M (H w4)) 24 24 73 i0 _ 1 24 Tryz.underlying24 hi z A B rfl (by decide) v (N ms) (ms.map aB.val) (h.own.alloc _)
  (aD (M (H W)) 0) 1 1 [m.val] rfl (cell_one_new W m.val 73) (by simp[aB.val,Value.oneCell']) (by unfold maxLen;omega) (by omega) (by omega)
 obtain⟨a,l,c,rfl⟩:=Zc S;have q:Kept (λb=>v.ownBlock≠O b) (W.alloc (EP #[m.val] 73)) d:=Q9 D (λr e h=>h e);have i:=(QE _ _).trans q;have j:∀b,v.ownBlock=O b->M (H w4)<=b/\b<M (H W):=λb G=>Zb h.own G;have u:v.ownBlock≠O Bx:=λe=>by have:=(j _ e).1;omega
 have gb:=h.box.keep i u;have t:∀b,(Value.slice a l c).ownBlock=O b->v.ownBlock=O b∨b=M (H W)+1:=λb G=>by grind
 have y:(Value.slice a l c).ownBlock≠O Bx:=λe=>by grind
 have f:Kept (λb=>b≠Bx) d (UC d (aD Bx 0) (Z a l c)):=Q8 _ _ _ (λh=>h rfl);have ae:=i.size;have af:=f.size;have p:∀x∈ms++[m],aW W x.ad x.cs/\∀a,x.ad=O a->M (H w4)<=a.block/\a.block<M (H W)/\v.ownBlock≠O a.block:=λx n=>by
  rcases Zi.1 n with n|n
  .exact h.at' x n
  grind
 refine⟨a,l,c,d,hr,gb.cell 0,gb.frozen 0,⟨((h.kept.trans' i (λb G _ e=>by have:=(j b e).1;omega))).trans f,gb.set 0 _,?_,?_,λx n=>⟨?_,λa' K=>?_⟩⟩,q.mono (λ_ _ h=>h.2),f.mono (λ_ _ h=>h.1)⟩
 .rw[Zn,Qi];exact Za S f (λg D e=>y (e ▸ D))
 .have e:is[k]=E is k 0:=by simp[List.getD,hlt]
  have L:=h.moved;unfold Oa at L ⊢;rw[Qi,L,Qh hlt,Qi,e];grind
 .exact((p x n).1.kept i (λa X=>((p x n).2 a X).2.2)).kept f (λa X=>by grind)
 .have Q:=(p x n).2 a' K;exact⟨Q.1,by omega,λe=>by
   rcases t _ e with R|R
   .exact Q.2.2 R
   .omega⟩
def RX(gi gk:Nat)(ik lbk:Array X3)(w:U):Calls V 48 #[.func (.func gi) #[] ik,.func (.func gk) #[] lbk] w λe a=>e=FN (.func (.func 86) #[] #[Y (O (aD (M (H w)) 0)),Y (O (aD (M (H w)+1) 0))])/\
  a = (w.alloc (EP #[.func (.func gi) #[] ik] 79)).alloc (EP #[.func (.func gk) #[] lbk] 123):=by go_enter Tryz.func48,Tryz.ntmps48;go_wp2;go_ret;exact⟨rfl,rfl⟩
def xE(h:GB W B 194 #[v,u]):(loadVar 194 (aD B 0)).run V W=.ok (FL #[v,u]) W:=by obtain⟨a,b⟩:=h.k2;simp[go_sem,a,b]
def iM(h:q.check ts=0):ji ts=T/\vN q.src.xs q.wm q.keys.xs q.sums.xs q.bE.xs q.ord.xs=F/\aS q.src.xs (N ts)=T/\0<N q.src.xs/\mo q.wm (ak ts q.src.xs)=T/\rF (ak ts q.src.xs) q.group q.keys.xs q.sums.xs q.bE.xs q.ord.xs=true:=by
 unfold af.check Dy at h;by_cases b:ji ts=F
 .rw[Zt b]at h;omega
 .rw[ZU b]at h;by_cases d:vN q.src.xs q.wm q.keys.xs q.sums.xs q.bE.xs q.ord.xs=T
  .rw[Zt d]at h;omega
  .rw[ZU d]at h;by_cases a:aS q.src.xs (N ts)=T/\0<N q.src.xs/\mo q.wm (ak ts q.src.xs)=T/\rF (ak ts q.src.xs) q.group q.keys.xs q.sums.xs q.bE.xs q.ord.xs=T
   .exact⟨by simpa using b,by simpa using d,a.1,a.2.1,a.2.2.1,a.2.2.2⟩
   .rw[ZU a]at h;omega
def su{wh:List (List aI)}{keys sums bE ord:List Int}(h:vN src wh keys sums bE ord=F):N src<=5/\N wh<=8/\N bE<=8/\N keys<=4/\N sums<=4/\N ord<=4:=by unfold vN at h;rw[Bool.or_eq_false_iff]at h;have:=of_decide_eq_false h.1;omega
def rA{l:List α}{d:α}(hk:k<N l):E l k d∈l:=by
 have e:E l k d=l[k]:=by simp[List.getD,hk]
 rw[e];exact Zv hk
def CE(h:mo q.wm n=T)(hi:i<N q.wh)(hk:k<(E q.wh i lz).cs.length):fV ((E q.wh i lz).cs.getD k cz) n=true:=by
 unfold mo af.wm at h;rw[List.all_map,Qk]at h;have d:E q.wh i lz∈q.wh:=by simp[List.getD,hi]
 have a:=h _ d;simp only[Function.comp]at a;unfold Bj at a;simp only[Qj]at a;have b:=a.2;rw[Qk]at b;exact b _ (rA hk)
def Nw(w w' W:U):Prop:=Kept (λb=>M (H w)<=b) w' W
theorem Nw.more(h:Nw w w' W)(hs:M (H w)<=M (H x)):Nw x w' W:=Kept.mono h λb _ a=>Qz hs a
theorem Nw.cell{w w' W:U}(h:Nw w w' W){b o:Nat}{v:X3}(hb:M (H w)<=b)(hc:UK w' (aD b o)=O v):UK W (aD b o)=O v:=Q0 hc h hb
def Oi(w:U)(c1 c2:Array X3)(t1 t2:TypeId):∃e,e = (w.alloc (EP c1 t1)).alloc (EP c2 t2)/\Bw w e/\∀W,Nw w e W->(M (H w)<M (H W)/\UK W (aD (M (H w)) 0)=c1[0]?)/\M (H w)+1<M (H W)/\UK W (aD (M (H w)+1) 0)=c2[0]?:=by have a:=dN w (EP c1 t1);have b:=dN (w.alloc (EP c1 t1)) (EP c2 t2);have g:=(GB.alloc w c1 t1).of (b.block _ (by simp));have f:=GB.alloc (w.alloc (EP c1 t1)) c2 t2;rw[Zo]at f;refine⟨_,rfl,a.trans (b.mono a.size),λW d=>?_⟩;have i:=d.block (M (H w)) (by simp;omega) (Qn _);have j:=d.block (M (H w)+1) (by simp) (Nat.le_succ _);have k:=d.size;simp only[Zo]at k;exact⟨⟨by omega,(g.of i).cell 0⟩,by omega,(f.of j).cell 0⟩
theorem afm(w:U)(c1 c2 c3 c4:Array X3)(t1 t2 t3 t4:TypeId):∃g,g = (((w.alloc (EP c1 t1)).alloc (EP c2 t2)).alloc (EP c3 t3)).alloc (EP c4 t4)/\Bw w g/\
  ∀W,Nw w g W->(M (H w)<M (H W)/\UK W (aD (M (H w)) 0)=c1[0]?)/\(M (H w)+1<M (H W)/\UK W (aD (M (H w)+1) 0)=c2[0]?)/\(M (H w)+2<M (H W)/\UK W (aD (M (H w)+2) 0)=c3[0]?)/\M (H w)+3<M (H W)/\UK W (aD (M (H w)+3) 0)=c4[0]?:=by
 obtain⟨x,i,d,l⟩:=Oi w c1 c2 t1 t2;obtain⟨y,j,a,m⟩:=Oi x c3 c4 t3 t4;have f:M (H x)=M (H w)+2:=by rw[i];simp
 have k:M (H y)=M (H w)+4:=by rw[j];simp[f]
 refine⟨y,by rw[j,i],d.trans (a.mono d.size),λW e=>?_⟩;obtain⟨q,r⟩:=l W ⟨e.os.trans a.os,e.tape.trans a.tape,e.output.trans a.output,Qz a.size e.size,λb n p=>(e.block b (by omega) p).trans (a.block b n)⟩;obtain⟨a3,a4⟩:=m W (e.more d.size);grind
def aiN(t:aP)(w:U) :
  Calls V 87 #[t.val] w λe d=>∃v,e=FN v/\Bw w d/\∀W,Nw w d W->bD W t.ad t.rs->dh aj V v (t.rs.map (·.xs)) W:=by
 obtain⟨b,cap,a⟩:=t;unfold aP.val;simp only at*;have g:=Zh (dN w (EP #[Z b (N a) cap] 52));have i:Y3 (∀W,Nw w (w.alloc (EP #[Z b (N a) cap] 52)) W->bD W b a->dh aj V (.func (.func 131) #[] #[Y (O (aD (M (H w)) 0))]) (a.map (·.xs)) W):=λW f h=>by have j:=f.size;simp only[Zo]at j;exact⟨_,_,rfl,XZ Tryz.func131 (by kernel_rfl) rfl,Pw (M (H w)) b cap a _ (by omega) (f.cell (Qn _) (by simp)) h⟩
 go_enter Tryz.func87,Tryz.ntmps87;go_wp2;go_ret;exact⟨_,rfl,g.o,i.o⟩
def aiO(gl gr:Nat)(nZ oq:Array X3)(L R:List (List Int))(w:U)(hR:N R<=1000000)(J5:∀a∈L,N a<=1000)(hRl:∀a∈R,N a<=1000) :
  Calls V 88 #[.func (.func gl) #[] nZ,.func (.func gr) #[] oq] w λe l=>∃v,e=FN v/\Bw w l/\∀W,Nw w l W->dh aj V (.func (.func gl) #[] nZ) L W->dh aj V (.func (.func gr) #[] oq) R W->dh aj V v (dz L R) W:=by
 obtain⟨n,b,i,j⟩:=Oi w #[.func (.func gl) #[] nZ] #[.func (.func gr) #[] oq] 79 79;have m:Y3 (∀W,Nw w n W->dh aj V (.func (.func gl) #[] nZ) L W->dh aj V (.func (.func gr) #[] oq) R W->dh aj V (.func (.func 132) #[] #[Y (O (aD (M (H w)+1) 0)),Y (O (aD (M (H w)) 0))]) (dz L R) W):=λW B C D=>by obtain⟨_,_,p,d,f⟩:=C;obtain⟨_,_,q,g,r⟩:=D;cases p;cases q;obtain⟨⟨t,u⟩,y,z⟩:=j W B;exact⟨_,_,rfl,XZ Tryz.func132 (by kernel_rfl) rfl,Rb (M (H w)+1) (M (H w)) gr gl oq nZ L R _ y t z u r f g d hR J5 hRl⟩
 obtain⟨A,k⟩:=aJ i b;clear i j hR J5 hRl b;go_enter Tryz.func88,Tryz.ntmps88;go_wp2;go_ret;refine⟨_,rfl,?_,?_⟩
 .have h:=A.o;rw[k.o]at h;exact h
 .have h:=m.o;rw[k.o]at h;exact h
def aiP(gi:Nat)(ik:Array X3)(c:ae)(rows:List (List Int))(w:U)(h0:0<N c.xs)(hlen:N rows<=1000000)(hin:∀r∈rows,aS c.xs (N r)=T) :
  Calls V 90 #[.func (.func gi) #[] ik,c.val] w λe l=>∃v,e=FN v/\Bw w l/\∀W,Nw w l W->dh aj V (.func (.func gi) #[] ik) rows W->c.At W->dh aj V v (fA c.xs rows) W:=by
 obtain⟨p,d,i,j⟩:=Oi w #[.func (.func gi) #[] ik] #[c.val] 79 22;have n:Y3 (∀W,Nw w p W->dh aj V (.func (.func gi) #[] ik) rows W->c.At W->dh aj V (.func (.func 135) #[] #[Y (O (aD (M (H w)) 0)),Y (O (aD (M (H w)+1) 0))]) (fA c.xs rows) W):=λW C D m=>by
  obtain⟨_,_,q,t,f⟩:=D;cases q;obtain⟨⟨u,y⟩,z,A⟩:=j W C;exact⟨_,_,rfl,XZ Tryz.func135 (by kernel_rfl) rfl,Sb ⟨λ_=>rfl,λ_=>rfl,λ_=>rfl,λh=>h⟩ (M (H w)) (M (H w)+1) gi ik c rows _ u z y A m (λa G=>by
   obtain⟨b,off,e,g⟩:=Qg m h0;rw[G]at e;cases e;exact rE (g 0 h0)) f t hlen hin⟩
 obtain⟨K,L,P⟩:=c;unfold ae.val at*;simp only at*;obtain⟨B,k⟩:=aJ i d;clear i j hlen hin h0 d;go_enter Tryz.func90,Tryz.ntmps90;go_wp2;go_ret;refine⟨_,rfl,?_,?_⟩
 .have h:=B.o;rw[k.o]at h;exact h
 .have h:=n.o;rw[k.o]at h;exact h
def aft(gl gr:Nat)(nZ oq:Array X3)(kl kr:Nat)(L R:List (List Int))(w:U)(hR:N R<=1000000)(J5:∀a∈L,N a<=1000)(hRl:∀a∈R,N a<=1000)(hLk:∀a∈L,kl<N a)(hRk:∀a∈R,kr<N a) :
  Calls V 206 #[.func (.func gl) #[] nZ,.func (.func gr) #[] oq,I J kl,I J kr] w λe l=>∃v,e=FN v/\Bw w l/\∀W,Nw w l W->dh aj V (.func (.func gl) #[] nZ) L W->dh aj V (.func (.func gr) #[] oq) R W->dh aj V v (fU kl kr L R) W:=by
 obtain⟨n,b,i,j⟩:=afm w #[.func (.func gl) #[] nZ] #[.func (.func gr) #[] oq] #[I J kl] #[I J kr] 79 79 3 3;have m:Y3 (∀W,Nw w n W->dh aj V (.func (.func gl) #[] nZ) L W->dh aj V (.func (.func gr) #[] oq) R W->dh aj V (.func (.func 226) #[] #[Y (O (aD (M (H w)+1) 0)),Y (O (aD (M (H w)) 0)),Y (O (aD (M (H w)+2) 0)),Y (O (aD (M (H w)+3) 0))]) (fU kl kr L R) W):=λW K P Q=>by obtain⟨_,_,p,d,f⟩:=P;obtain⟨_,_,q,g,r⟩:=Q;cases p;cases q;obtain⟨⟨t,u⟩,⟨y,z⟩,⟨A,B⟩,C,D⟩:=j W K;exact⟨_,_,rfl,XZ Tryz.func226 (by kernel_rfl) rfl,ach (M (H w)+1) (M (H w)) (M (H w)+2) (M (H w)+3) gr gl kl kr oq nZ L R _ y t A C z u B D r f g d hR J5 hRl hLk hRk⟩
 obtain⟨G,k⟩:=aJ i b;clear i j hR J5 hRl hLk hRk b;go_enter Tryz.func206,Tryz.ntmps206;go_wp2;go_ret;refine⟨_,rfl,?_,?_⟩
 .have h:=G.o;rw[k.o]at h;exact h
 .have h:=m.o;rw[k.o]at h;exact h
def ai3(gl gr:Nat)(nZ oq:Array X3)(kl kr:Nat)(L R:List (List Int))(w:U)(hR:N R<=1000000)(J5:∀a∈L,N a<=1000)(hRl:∀a∈R,N a<=1000)(hLk:∀a∈L,kl<N a)(hRk:∀a∈R,kr<N a)(hLs:∀a∈L,∀v∈a,bW v)(hRs:∀a∈R,∀v∈a,bW v) :
  Calls V 205 #[.func (.func gl) #[] nZ,.func (.func gr) #[] oq,I J kl,I J kr] w λe l=>∃v,e=FN v/\Bw w l/\∀W,Nw w l W->dh aj V (.func (.func gl) #[] nZ) L W->dh aj V (.func (.func gr) #[] oq) R W->dh aj V v (jF kl kr L R) W:=by
 obtain⟨n,b,i,j⟩:=afm w #[.func (.func gl) #[] nZ] #[.func (.func gr) #[] oq] #[I J kl] #[I J kr] 79 79 3 3;have m:Y3 (∀W,Nw w n W->dh aj V (.func (.func gl) #[] nZ) L W->dh aj V (.func (.func gr) #[] oq) R W->dh aj V (.func (.func 225) #[] #[Y (O (aD (M (H w)+1) 0)),Y (O (aD (M (H w)+3) 0)),Y (O (aD (M (H w)) 0)),Y (O (aD (M (H w)+2) 0))]) (jF kl kr L R) W):=λW K P Q=>by obtain⟨_,_,p,d,f⟩:=P;obtain⟨_,_,q,g,r⟩:=Q;cases p;cases q;obtain⟨⟨t,u⟩,⟨y,z⟩,⟨A,B⟩,C,D⟩:=j W K;exact⟨_,_,rfl,XZ Tryz.func225 (by kernel_rfl) rfl,afu (M (H w)+1) (M (H w)) (M (H w)+2) (M (H w)+3) gr gl kl kr oq nZ L R _ y t A C z u B D r f g d hR J5 hRl hLk hRk hLs hRs⟩
 obtain⟨G,k⟩:=aJ i b;clear i j hR J5 hRl hLk hRk hLs hRs b;go_enter Tryz.func205,Tryz.ntmps205;go_wp2;go_ret;refine⟨_,rfl,?_,?_⟩
 .have h:=G.o;rw[k.o]at h;exact h
 .have h:=m.o;rw[k.o]at h;exact h
def ace{β:Type}(f:α->β)(l:List α)(k:Nat)(d:β)(hk:k<N l):E (l.map f) k d=f l[k]:=by simp[List.getD,hk]
theorem Sg(WK:Array X3)(gI:Option Addr)(bP:Nat)(wh:List aB)(h1:WK[1]? = O (Z gI (N wh) bP))(g:Nat)(lb:Array X3)(c nums:ae)(rows:List (List Int))(Nq:Int)(w:U)(hwh:dJ w gI wh)(hc:c.At w)(hn:nums.At w)(hnl:N nums.xs<=64)
  (aqK:∀i∈nums.xs,0<=i/\i<N wh) (kU:∀i∈nums.xs,∀x∈aN (E wh i.toNat lz).cs,x∈c.xs) (h3:∀i,i<N wh->(E wh i lz).cs.length<=3) (hcond:∀i,i<N wh->∀d∈(E wh i lz).cs,fV d Nq=T) (hlen:∀r∈rows,N r=N c.xs) :
  Calls V 170 #[FL WK,FL #[.func (.func g) #[] lb,c.val],nums.val] w λe w'=>∃g' ay,e=FN (FL #[.func (.func g') #[] ay,c.val])/\Bw w w'/\∀W,Nw w w' W->dh aj V (.func (.func g) #[] lb) rows W->dh aj V (.func (.func g') #[] ay) (rows.filter (jq wh c.xs nums.xs)) W:=by
 obtain⟨B,az⟩:∃x,w.alloc (EP WK 149)=x:=⟨_,rfl⟩;have aL:Bw w B:=by rw[<-az];exact dN _ _
 have s1:M (H B)=M (H w)+1:=by rw[<-az];simp
 have gw:GB B (M (H w)) 149 WK:=by rw[<-az];exact pR _ _
 obtain⟨j,aA⟩:∃x,B.alloc (EP #[.func (.func g) #[] lb,c.val] 194)=x:=⟨_,rfl⟩;have aM:Bw B j:=by rw[<-aA];exact dN _ _
 have s2:M (H j)=M (H w)+2:=by rw[<-aA];simp[s1]
 have gi:GB j (M (H B)) 194 #[.func (.func g) #[] lb,c.val]:=by rw[<-aA];exact pR _ _
 obtain⟨n,aC⟩:∃x,j.alloc (EP #[Value.nilFunc,Z xn 0 0] 194)=x:=⟨_,rfl⟩;have aO:Bw j n:=by rw[<-aC];exact dN _ _
 have s3:M (H n)=M (H w)+3:=by rw[<-aC];simp[s2]
 have gr:GB n (M (H j)) 194 #[Value.nilFunc,Z xn 0 0]:=by rw[<-aC];exact pR _ _
 obtain⟨w4,aF⟩:∃x,n.alloc (EP #[Z xn 0 0] 24)=x:=⟨_,rfl⟩;have aP:Bw n w4:=by rw[<-aF];exact dN _ _
 have s4:M (H w4)=M (H w)+4:=by rw[<-aF];simp[s3]
 have gx:GB w4 (M (H n)) 24 #[Z xn 0 0]:=by rw[<-aF];exact pR _ _
 have uF:=aO.trans (aP.mono aO.size);have aQ:=aM.trans (uF.mono aM.size);have aR:=aL.trans (aQ.mono aL.size);have bI:Y3 (RV 24 73 wh c.xs nums.xs w4 (M (H n)) 0 (Z xn 0 0) [] w4):=⟨Qy _ _,gx,Zk _ _ _ _,rfl,λm hm=>by cases hm⟩;have bJ:=cB aQ ((gw.cell 1).trans h1);have bg:UK w4 (aD (M (H B)) 0)=O (.func (.func g) #[] lb):=cB uF (gi.cell 0);have bn:UK w4 (aD (M (H B)) 1)=O c.val:=cB uF (gi.cell 1);have Bf:=Qo aR hn;have dm:=Bf.1;have bK:Y3 _:=hn;obtain⟨sK,nO,bZ⟩:=dQ aR gr aP;have HZ:Y3 (M (H B)=M (H w)+1/\M (H j)=M (H w)+2/\M (H n)=M (H w)+3/\M (H w4)=M (H w)+4):=⟨s1,s2,s3,s4⟩;have Ii:Y3 _:=hwh;have HC:Y3 _:=hc;obtain⟨bD,aY,bE,H3,cu,bF⟩:=MP hnl aqK kU h3 hcond hlen;clear hwh hc hnl aqK kU h3 hcond hlen aL aM aO aP aQ uF aR s1 s2 s3 s4 gw gi gr gx hn Bf h1;obtain⟨Q,R,u⟩:=c;obtain⟨dz,dA,V9⟩:=nums;unfold ae.val at*;simp only at*;go_enter Tryz.func170,Tryz.ntmps170;go_wp2;clear az aA aC aF;go_loopw [13] (λiv wr=>∃k:Nat,k<=N V9/\iv=I J k/\∃v ms,RV 24 73 wh u V9 w4 (M (H n)) k v ms wr) (λiv _=>N V9-(intOf iv).toNat)
 case atStart=>exact⟨0,QW _,rfl,_,_,bI.o⟩
 case round=>
  obtain⟨k,hk,rfl,vv,ms,aG⟩:=hrel;obtain⟨ra,rm,rc,rfl⟩:=Zc aG.own;have yN:=Zh aG;by_cases ax:k<N V9
  .obtain⟨nb,no,rfl,av⟩:=Qg bK.o ax;have bL:nb<M (H w):=QK (p:=(aD nb (no+k))) (av k ax);have lJ:=yN.o.kept;have ah:=lJ.trans (QB ((Qm (M (H wr)) wr).drew) (λb hb _=>hb));have hz:=HZ.o;have bM:=Q0 (cB sK.o (av k ax)) lJ (by show nb≠_;omega);have af:E V9 k 0∈V9:=by simp[List.getD,ax]
   obtain⟨X,hX⟩:∃X:Nat,E V9 k 0=(X:Int):=⟨(E V9 k 0).toNat,by have:=(aY.o _ af).1;omega⟩;have ai:X<N wh:=by have:=(aY.o _ af).2;omega
   obtain⟨cb,co,rfl,aZ⟩:=Qf Ii.o.2.1 ai;have bN:cb<M (H w):=QK (p:=(aD cb (co+X))) (aZ X ai);have bq:=Q0 (s:=λb=>b≠M (H n)) (cB sK.o (aZ X ai)) ah (by show cb≠_;omega);have bO:=Q0 (s:=λb=>b≠M (H n)) bJ ah (by show M (H w)≠_;omega);have aS:=Q0 (s:=λb=>b≠M (H n)) bg ah (by show M (H B)≠_;omega);have aT:=Q0 (s:=λb=>b≠M (H n)) bn ah (by show M (H B)≠_;omega);have dn:=yN.o.box.at 0;have Wd:=(sK.o.trans (lJ.below sK.o.size (λb hb=>by omega))).drew;have ak:N ms<=100:=by have h:=congrArg N yN.o.moved;rw[Zm,Zm,Xu]at h;have:=bD.o;omega
   have aJ:(E wh X lz).cs.length<=100:=by have:=H3.o X ai;omega
   have aU:=ab7 (E wh X lz).ad (E wh X lz).cap (E wh X lz).cs (.func (.func g) #[] lb) ⟨Q,R,u⟩ wr.drew ((Ii.o.2.2 X ai).below Wd) aJ ⟨g,lb,rfl⟩ (Qo Wd HC.o) (λx L=>bE.o _ af x (by rw[hX,Xk];exact L));have bu:Y3 (∀(P:U) (m:aB),m.cs=(E wh X lz).cs.map (dC u)->aW P m.ad m.cs->(∀a,m.ad=O a->M (H wr)<=a.block/\a.block<M (H P))->Below (M (H wr)) wr.drew P->
     ∃pa pm pc wp,(Builtin.append_ #[24,24] 24 #[Z ra rm rc,Z (O (aD (M (H P)) 0)) 1 1]).run V (P.alloc (EP #[m.val] 73))=.ok (Z pa pm pc) wp/\
      UK wp (aD (M (H n)) 0)=O (Z ra rm rc)/\wp.frozen? (aD (M (H n)) 0)=F/\RV 24 73 wh u V9 w4 (M (H n)) (k+1) (Z pa pm pc) (ms++[m]) (UC wp (aD (M (H n)) 0) (Z pa pm pc))/\
      Kept (λb=>b≠M (H n)/\(Value.slice ra rm rc).ownBlock≠O b) (P.alloc (EP #[m.val] 73)) wp/\Kept (λb=>b≠M (H n)/\(Value.slice ra rm rc).ownBlock≠O b) wp (UC wp (aD (M (H n)) 0) (Z pa pm pc))/\
      UK P (aD (M (H n)) 0)=O (Z ra rm rc)/\Kept (λb=>b≠M (H n)/\(Value.slice ra rm rc).ownBlock≠O b) wr.drew P):=λP m C D z ag=>by have bz:=(yN.o.keep ((Qm (M (H wr)) wr).drew)).keep ag;have dw:=lJ.size;obtain⟨pa,pm,pc,wp,e1,e2,e3,e4,e5,e6⟩:=aeZ bz ak (by omega) ax m (by rw[C,hX,Xk]) D (λa ha=>⟨by have:=(z a ha).1;omega,(z a ha).2,λe=>by have h1:=(Zb yN.o.own e).2;have:=(z a ha).1;omega⟩);exact⟨pa,pm,pc,wp,e1,e2,e3,e4,e5,e6,bz.box.cell 0,QB ag (λb hb _=>hb)⟩
   have JQ:Y3 ((M (H w)≠M (H n)/\(Value.slice ra rm rc).ownBlock≠O (M (H w)))/\(cb≠M (H n)/\(Value.slice ra rm rc).ownBlock≠O cb)/\(M (H B)≠M (H n)/\(Value.slice ra rm rc).ownBlock≠O (M (H B)))):=by have aV:∀b,(Value.slice ra rm rc).ownBlock=O b->M (H w4)<=b:=λb hb=>(Zb yN.o.own hb).1;exact⟨⟨by omega,λe=>by have:=aV _ e;omega⟩,⟨by omega,λe=>by have:=aV _ e;omega⟩,⟨by omega,λe=>by have:=aV _ e;omega⟩⟩
   rw[hX]at bM;clear lJ ah hz av aZ af Wd ak aJ bL bN hX aG;generalize E wh X lz=cl at*;obtain⟨la,lc,cK⟩:=cl;unfold aB.val at bq aU;simp only at*;go_upto_region 5 with fail;refine Qv (S:=λx=>Kept (λb=>b≠M (H n)/\(Value.slice ra rm rc).ownBlock≠O b) wr.drew x) (by kernel_rfl) (Qy _ _) (λt=>?_);refine wt 1 (Y (O (aD (M (H w)) 0))) t ?_;refine wt 2 (Y (O (aD (M (H w)) 0))) t ?_;refine wt 3 (Y (O (aD (M (H w)) 1))) t ?_;refine wT 4 (Z (O (aD cb co)) (N wh) bP) t (λx L=>?_) ?_
   .have q:=Q0 bO L JQ.o.1;go_simp
   refine wt 5 (I J (X:Int)) t ?_;refine wt 6 (Y (O (aD cb (co+X)))) t ?_;refine wT 7 (FL #[Z la (N cK) lc]) t (λx L=>?_) ?_
   .have q:=Q0 bq L JQ.o.2.1;go_simp
   refine wT 8 (FL #[.func (.func g) #[] lb,Z Q (N u) R]) t (λx L=>?_) ?_
   .have q:=Q0 aS L JQ.o.2.2;have q2:=Q0 aT L JQ.o.2.2;go_simp
   refine wt 9 (.func (.func 173) #[FL #[.func (.func g) #[] lb,Z Q (N u) R]] #[]) t ?_;refine wJ 0 10 (λK f=>?_) λK f=>?_
   .go_simp;refine f.o _ _ t λt=>?_
    clear f K;refine wR 10 λK f=>?_;go_simp;refine aU.mono ?_;rintro e P ⟨⟨RI,Cj,aH⟩,rfl,C,D,z,ag⟩;simp only at C D z ⊢;obtain⟨pa,pm,pc,wp,N9,cO,cZ,bf,A,aI,c6,We⟩:=bu.o P ⟨RI,Cj,aH⟩ C D z ag;clear C D z;unfold aB.val at N9 A;simp only at N9 A;refine f.o _ _ We λt=>?_;clear f K;refine wR 11 λK f=>?_;go_simp;refine f.o _ _ (We.trans (QE _ _)) (λt=>?_);clear f K;refine wR 12 λK f=>?_;refine XJ (by rfl) _ _ _ (by rfl) (Z ra rm rc) (Z (O (aD (M (H P)) 0)) 1 1) (Z pa pm pc) wp (by rfl) (by rfl) N9 ?_;refine f.o _ _ ((We.trans (QE _ _)).trans A) (λt=>?_);clear f K N9;refine wR 13 λK f=>?_;go_simp;refine f.o _ _ (((We.trans (QE _ _)).trans A).trans aI) (λt=>?_);clear f K;refine wD ?_;try simp only[Act.put,Qu,Qc,Qb]
    go_wp2_with fail;go_roundw
    case rel=>grind
    case measure=>simp[intOf];omega
   .go_simp;refine aU.mono ?_;rintro e P ⟨⟨RI,Cj,aH⟩,rfl,C,D,z,ag⟩;simp only at C D z ⊢;obtain⟨pa,pm,pc,wp,N9,cO,cZ,bf,A,aI,c6,We⟩:=bu.o P ⟨RI,Cj,aH⟩ C D z ag;clear C D z;unfold aB.val at N9 A;simp only at N9 A;refine f.o _ _ We λt=>?_
    clear f K;refine wJ 0 11 (λK f=>?_) λK f=>?_
    .go_simp;refine f.o _ _ We λt=>?_
     clear f K;refine wR 11 λK f=>?_;go_simp;refine f.o _ _ (We.trans (QE _ _)) (λt=>?_);clear f K;refine wR 12 λK f=>?_;refine XJ (by rfl) _ _ _ (by rfl) (Z ra rm rc) (Z (O (aD (M (H P)) 0)) 1 1) (Z pa pm pc) wp (by rfl) (by rfl) N9 ?_;refine f.o _ _ ((We.trans (QE _ _)).trans A) (λt=>?_);clear f K N9;refine wR 13 λK f=>?_;go_simp;refine f.o _ _ (((We.trans (QE _ _)).trans A).trans aI) (λt=>?_);clear f K;refine wD ?_;try simp only[Act.put,Qu,Qc,Qb]
     go_wp2_with fail;go_roundw
     case rel=>exact⟨k+1,by omega,by go_num,_,_,bf⟩
     case measure=>simp[intOf];omega
    .go_simp;refine f.o _ _ (We.trans (QE _ _)) (λt=>?_);clear f K;have dx:=Q0 c6 (QE (s:=λ_=>True) P (EP #[Z RI (N aH) Cj] 73)) trivial;refine wR 0 λK f=>?_
     go_simp;refine f.o _ _ (We.trans (QE _ _)) (λt=>?_);clear f K;refine wR 12 λK f=>?_;refine XJ (by rfl) _ _ _ (by rfl) (Z ra rm rc) (Z (O (aD (M (H P)) 0)) 1 1) (Z pa pm pc) wp (by rfl) (by rfl) N9 ?_;refine f.o _ _ ((We.trans (QE _ _)).trans A) (λt=>?_);clear f K N9;refine wR 13 λK f=>?_;go_simp;refine f.o _ _ (((We.trans (QE _ _)).trans A).trans aI) (λt=>?_);clear f K;refine wD ?_;try simp only[Act.put,Qu,Qc,Qb]
     go_wp2_with fail;go_roundw
     case rel=>exact⟨k+1,by omega,by go_num,_,_,bf⟩
     case measure=>simp[intOf];omega
  .obtain rfl:k=N V9:=by omega
   have lJ:=yN.o.kept;have hz:=HZ.o;have ak:N ms<=100:=by have h:=congrArg N yN.o.moved;rw[Zm,Zm,Xu]at h;have:=bD.o;omega
   obtain⟨RI,Cj,bG,bH⟩:=xB yN.o.own (λx L=>(yN.o.at' x L).1) ak;have ve:GB wr (M (H n)) 24 #[Z RI (N ms) Cj]:=by rw[<-bG];exact yN.o.box
   have bQ:∀a,RI=O a->M (H w4)<=a.block:=λa ha=>(Zb yN.o.own (g:=a.block) (by rw[bG,ha];rfl)).1;have aX:=(nO.o.of (bZ.o.block _ nO.o.lt)).keep lJ (by show M (H j)≠_;omega);have aS:=Q0 bg lJ (by show M (H B)≠_;omega);have aT:=Q0 bn lJ (by show M (H B)≠_;omega);have bR:=lJ.size;have Wd:=sK.o.trans (lJ.below sK.o.size (λb hb=>by omega));have au:=yN.o.moved;rw[QX]at au;have hcond:∀x:ae,x.xs∈rows->∀i,i<N ms->∀k,k<(E ms i lz).cs.length->fV ((E ms i lz).cs.getD k cz) (N x.xs)=true:=λx L i hi k hk=>by
    have bS:i<N V9:=by have h:=congrArg N au;grind
    have e:(E ms i lz).cs=(E wh (V9[i]).toNat lz).cs.map (dC u):=by have h:=congrArg (λl=>l[i]?) au;grind
    rw[e]at hk ⊢;rw[Zm]at hk;have e2:E ((E wh (V9[i]).toNat lz).cs.map (dC u)) k cz=dC u ((E wh (V9[i]).toNat lz).cs[k]):=by exact ace _ _ _ _ hk
    have hm:=Zv bS;have hr:=aY.o _ hm;rw[e2,bF.o _ L];refine RQ (cu.o _ (by omega) _ (Zv hk)) (λy hy=>bE.o _ hm y ?_);unfold aN;grind
   have HF:Y3 (∀G:U,G=(wr.drew.alloc (EP #[.func (.func g) #[] lb] 79)).alloc (EP #[.func (.func 203) #[] #[Y (O (aD (M (H n)) 0))]] 123)->
     GB G (M (H j)) 194 #[Value.nilFunc,Z xn 0 0]/\Kept (λb=>b≠M (H j)) wr.drew G/\Kept (λb=>b≠M (H j)) G (UC (UC G (aD (M (H j)) 0) (.func (.func 86) #[] #[Y (O (aD (M (H wr)) 0)),Y (O (aD (M (H wr)+1) 0))])) (aD (M (H j)) 1) (Z Q (N u) R))/\GB (UC (UC G (aD (M (H j)) 0) (.func (.func 86) #[] #[Y (O (aD (M (H wr)) 0)),Y (O (aD (M (H wr)+1) 0))])) (aD (M (H j)) 1) (Z Q (N u) R)) (M (H j)) 194 #[.func (.func 86) #[] #[Y (O (aD (M (H wr)) 0)),Y (O (aD (M (H wr)+1) 0))],Z Q (N u) R]/\
     ∃g' ay,Ending.returned (FL #[.func (.func 86) #[] #[Y (O (aD (M (H wr)) 0)),Y (O (aD (M (H wr)+1) 0))],Z Q (N u) R])=FN (FL #[.func (.func g') #[] ay,Z Q (N u) R])/\Bw w (UC (UC G (aD (M (H j)) 0) (.func (.func 86) #[] #[Y (O (aD (M (H wr)) 0)),Y (O (aD (M (H wr)+1) 0))])) (aD (M (H j)) 1) (Z Q (N u) R))/\∀W,Nw w (UC (UC G (aD (M (H j)) 0) (.func (.func 86) #[] #[Y (O (aD (M (H wr)) 0)),Y (O (aD (M (H wr)+1) 0))])) (aD (M (H j)) 1) (Z Q (N u) R)) W->dh aj V (.func (.func g) #[] lb) rows W->dh aj V (.func (.func g') #[] ay) (rows.filter (jq wh u V9)) W):=λG aa=>by
    have mO:Bw wr G:=by rw[aa];exact((Qm (M (H wr)) wr).drew.alloc (Qn _) _).alloc (by simp) _
    have x0:UK G (aD (M (H wr)) 0)=O (.func (.func g) #[] lb):=by rw[aa];exact cB (dN _ _) ((GB.alloc wr.drew #[.func (.func g) #[] lb] 79).cell 0)
    have x1:UK G (aD (M (H wr)+1) 0)=O (.func (.func 203) #[] #[Y (O (aD (M (H n)) 0))]):=by have h:=GB.alloc (wr.drew.alloc (EP #[.func (.func g) #[] lb] 79)) #[.func (.func 203) #[] #[Y (O (aD (M (H n)) 0))]] 123;rw[Zo,<-aa]at h;exact h.cell 0
    have g7:=aX.of (mO.block _ aX.lt);have gE:GB (UC (UC G (aD (M (H j)) 0) (.func (.func 86) #[] #[Y (O (aD (M (H wr)) 0)),Y (O (aD (M (H wr)+1) 0))])) (aD (M (H j)) 1) (Z Q (N u) R)) (M (H j)) 194 #[.func (.func 86) #[] #[Y (O (aD (M (H wr)) 0)),Y (O (aD (M (H wr)+1) 0))],Z Q (N u) R]:=(g7.set 0 _).set 1 _;have kE:Kept (λb=>b≠M (H j)) G (UC (UC G (aD (M (H j)) 0) (.func (.func 86) #[] #[Y (O (aD (M (H wr)) 0)),Y (O (aD (M (H wr)+1) 0))])) (aD (M (H j)) 1) (Z Q (N u) R)):=(Q8 _ _ _ (λh=>h rfl)).trans (Q8 _ _ _ (λh=>h rfl));have k7:Kept (λb=>b≠M (H j)) wr G:=QB mO (λb hb _=>hb);have kw:=k7.trans kE;have bT:=QK x0;have bU:=QK x1;have bV:=Wd.trans (kw.below Wd.size (λb hb=>by show b≠_;omega));have bW:=bH.kept kw (λa ha=>by grind) (λm hm a ha=>by have:=((yN.o.at' m hm).2 a ha).1;show a.block≠_;omega);have bX:UK (UC (UC G (aD (M (H j)) 0) (.func (.func 86) #[] #[Y (O (aD (M (H wr)) 0)),Y (O (aD (M (H wr)+1) 0))])) (aD (M (H j)) 1) (Z Q (N u) R)) (aD (M (H n)) 0)=O (Z RI (N ms) Cj):=Q0 (ve.cell 0) kw (by show M (H n)≠_;omega);have bA:M (H j)≠M (H wr)/\M (H j)≠M (H wr)+1:=by omega
    refine⟨g7,QB (by rw[aa];exact((Qm (M (H wr.drew)) wr.drew).alloc (Qn _) _).alloc (by simp) _) (λb hb _=>hb),kE,gE,_,_,rfl,bV,λW hW h1=>⟨_,_,rfl,XZ Tryz.func86 (by kernel_rfl) rfl,?_⟩⟩;obtain⟨_,_,e1,df,di⟩:=h1;cases e1;have bB:=Qz kE.size hW.size;refine Gq (M (H wr)) (M (H wr)+1) g 203 lb #[Y (O (aD (M (H n)) 0))] rows _ _ (QA bT bB) (QA bU bB) (hW.cell (by omega) (Q0 x0 kE (λe=>bA.1 e.symm))) (hW.cell (by omega) (Q0 x1 kE (λe=>bA.2 e.symm))) di df (XZ Tryz.func203 (by kernel_rfl) rfl) (λX x hX L hm=>?_);have:=RU (M (H n)) RI Cj ms x X (cB hX (hW.cell (by omega) bX)) L ((bW.kept hW (λa ha=>by grind) (λm hm a ha=>by have:=((yN.o.at' m hm).2 a ha).1;show M (H w)<=a.block;omega)).below hX) (hcond x hm);rw[au.holds]at this;exact this
   have bC:Y3 (M (H B)≠M (H j)):=by show M (H B)≠M (H j);omega
   clear hcond au bH bQ ve aG hz bR Wd ak lJ aX;have bY:=RX g 203 lb #[Y (O (aD (M (H n)) 0))] wr.drew;go_upto_region 8 with fail;refine Qv (S:=λx=>Kept (λb=>b≠M (H j)) wr.drew x) (by kernel_rfl) (Qy _ _) (λt=>?_);refine wt 0 (Y (O (aD (M (H B)) 0))) t ?_;refine wT 1 (.func (.func g) #[] lb) t (λx L=>?_) ?_
   .have q:=Q0 (s:=λb=>b≠M (H j)) (show UK wr.drew (aD (M (H B)) 0)=_ from aS) L bC.o;go_simp
   refine wt 2 (.func (.func 203) #[] #[Y (O (aD (M (H n)) 0))]) t ?_;refine wt 4 (Y (O (aD (M (H B)) 1))) t ?_;refine wT 5 (Z Q (N u) R) t (λx L=>?_) ?_
   .have q:=Q0 (s:=λb=>b≠M (H j)) (show UK wr.drew (aD (M (H B)) 1)=_ from aT) L bC.o;go_simp
   refine wR 3 λK f=>?_;go_simp;refine bY.mono ?_;rintro e G ⟨rfl,aa⟩;obtain⟨g7,k7,kE,gE,aK⟩:=HF.o G aa;have zn:Y3 _:=gE;have q9:=Zh aK;clear aa gE aK;refine f.o _ _ k7 λt=>?_;clear f K;refine wt 6 (FL #[.func (.func 86) #[] #[Y (O (aD (M (H wr)) 0)),Y (O (aD (M (H wr)+1) 0))],Z Q (N u) R]) t ?_;obtain⟨z0,z1⟩:=g7.k2;have y0:=g7.frozen 0;have y1:=g7.frozen 1;have Wh:=λ(a:Addr) (c:Array X3) (w:U)=>run_store V w a (.func (.func 86) #[] c) .plain rfl;refine wR 7 λK f=>?_;go_simp;refine f.o _ _ (k7.trans kE) (λt=>?_);clear f K;refine wD ?_;try simp only[Act.put,Qu,Qc,Qb]
   have JR:=Zh (xE zn.o);go_wp2_with fail;refine Zw (kL (p:=6) rfl rfl JR.o) rfl ?_;exact q9.o
