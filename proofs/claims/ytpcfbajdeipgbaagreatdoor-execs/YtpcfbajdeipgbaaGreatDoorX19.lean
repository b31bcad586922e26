import Derived.Test.YtpcfbajdeipgbaaGreatDoorX11
import Derived.Test.YtpcfbajdeipgbaaGreatDoorX15
set_option linter.all false
set_option maxRecDepth 100000
set_option maxHeartbeats 0
namespace Go.Proofs.Zz
open Go.RowKit Go.Shelf
open List renaming length->N,getD->E
open Go.Value renaming slice->Z,int->I,pointer->Y,bool->EP,agg->FN
open Go.Proofs.Tryz renaming prog->V
open Option renaming some->O,none->E5
open Go.IntKind renaming i64->J
open Bool renaming false->F,true->T
open Go renaming World->U,Value->KX
open Go.World renaming heap->H,setCell->qw,cell?->Am
open _root_.Array renaming size->M
open Go.RowKit renaming Hid->Wl
open Go.Obj renaming cells->FL
open Go.Ending renaming returned->FR
variable {α:Type} {Bm Bx k lo n:Nat} {Ez:El ae (List Int)} {A B W w w2 w4:U} {e tC tD:TypeId} {u v:KX} {ys zs:List ae} {cs:List aF} {C is:List Int} {ls ms:List az} {ao:Option Addr}
theorem uz{ts:List ag}{q:af}(h:q.check ts=0):Chk ts q/\0<N q.src.xs/\(q.group=F->aM q.ord.xs (N q.aH.xs)=T)/\N q.ord.xs<=4/\aM q.aH.xs (ak ts q.src.xs)=true:=by
 unfold af.check vI at h
 cases hc:dL ts with
 |false=>simp_all
 |true =>
  rw[QC (by rw[hc];simp)]at h
  cases hf:jB q.src.xs q.qX q.keys.xs q.sums.xs q.aH.xs q.ord.xs with
  |true=>simp_all
  |false =>
   rw[QC (by rw[hf];simp)]at h;by_cases v:aM q.src.xs (N ts)=T/\0<N q.src.xs/\dZ q.qX (ak ts q.src.xs)=T/\gV (ak ts q.src.xs) q.group q.keys.xs q.sums.xs q.aH.xs q.ord.xs=T
   .obtain⟨n,p,f,g⟩:=v;unfold jB at hf;rw[Bool.or_eq_false_iff,QA]at hf;obtain⟨y,z⟩:=hf;have m:N q.qX=N q.wh:=by unfold af.qX;simp
    have b:∀i,i<N q.wh->(E q.wh i lz).cs∈q.qX:=λi a=>by unfold af.qX;grind
    unfold dZ at f;rw[Qn]at f;have d:∀i,i<N q.wh->0<(E q.wh i lz).cs.length/\∀c∈(E q.wh i lz).cs,dC c (ak ts q.src.xs)=true:=λi a=>by have:=f _ (b i a);unfold iH at this;simp_all
    unfold gV at g;simp only[Qm]at g;obtain⟨⟨⟨⟨⟨⟨⟨r,_⟩,_⟩,l⟩,_⟩,_⟩,_⟩,_⟩:=g;refine⟨⟨hc,n,by omega,by omega,?_,λi a=>(d i a).1,λi a=>?_⟩,p,λu=>?_,by omega,r⟩
    .intro i a c k;unfold aG at k;rw[QO]at k;obtain⟨x,t,j⟩:=k;have e:=(d i a).2 x t;unfold dC at e;simp only[Qm,Qz]at e;obtain⟨⟨⟨⟨A,B⟩,C⟩,D⟩,G⟩:=e;unfold aL at j
     grind
    .simp_all
    .rw[u]at l;exact l
   simp_all
section
structure NZ(Ez:El ae (List Int)):Prop where
 enc:∀x,Ez.enc x=x.val
 key:∀x,Ez.key x=x.xs
 aT:∀x,Ez.aT x=ah.aT x
 at':∀{x W},Ez.At x W->ah.At x W
def Kk{rs:List α}{d:α}{j:Nat}(hj:j<k)(hk:k<=N rs):E rs j d∈rs.take k:=by
 have a:j<N rs:=by omega
 have e:E rs j d=(rs.take k)[j]'(by rw[XK];omega):=by simp[List.getD,a]
 rw[e];exact Qi _
theorem xX.front{rs:List ae}(h:xX Ez n rs)(hk:k<N rs){y:ae}(hy:y∈rs.take k){b:Nat}(h1:Ez.aT y=O b)(h2:Ez.aT (E rs k iz)=O b):b<n:=by
 have e:rs=rs.take k++E rs k iz::rs.drop (k+1):=by
  have a:E rs k iz=rs[k]:=by simp[List.getD,hk]
  rw[a,<-Zw hk,Xo]
 unfold xX at h;grind
attribute [local go_sem] Oper.semAt_some
theorem afz(K:NZ Ez)(bt:Nat)(ao:Option Addr)(cap m n:Nat)(rs:List ae)(keys:List (List Int))(hkeys:rs.map ae.xs=keys)(l:Nat)(Jq:List ae->(Nat->Prop)->U->Prop)(W:U)(o:Nat->Prop)
  (hc:Am W (aD bt 0)=O (Z ao (N rs) cap)) (hcs:eD W ao (N rs) (λi=>(E rs i iz).val)) (hlen:N rs<=1152921504606846976)
  (hbt:¬o bt/\∀y∈rs,∀b,Ez.aT y=O b->n<=b->b≠bt) (hao:∀a,ao=O a->¬o a.block/\∀y∈rs,∀b,Ez.aT y=O b->n<=b->b≠a.block)
  (hat:∀y∈rs,Ez.At y W) (hblk:∀y∈rs,∀b,Ez.aT y=O b->¬o b/\(b<m∨n<=b)) (hap:xX Ez n rs) (hon:∀b,o b->b<n) (YX:m<=n) (hn:n<=M (H W))
  (hY:∀pre x r W1,Jq pre r W1->(pre++[x]).map Ez.key <+: keys->Ez.At x W1->(∀b,Ez.aT x=O b->¬r b/\(b<m∨n<=b))->n<=M (H W1)->
   YieldAt Fence.wide 0 V l #[Ez.enc x] W1 λe W'=>e=FR (EP T)/\∃o2,Jq (pre++[x]) o2 W'/\Kept (λb=>¬r b) W1 W'/\
    ∀b,o2 b->r b∨(M (H W1)<=b/\b<M (H W'))∨(Ez.aT x=O b/\n<=b))
  (h0:Jq [] o W) :
  Calls V 158 #[.func (.yield l) #[] #[],Y (O (aD bt 0))] W λe W'=>(∃v,e=FR v)/\∃o',Jq rs o' W'/\Kept (λb=>¬o b/\b<n) W W'/\∀b,o' b->o b∨(n<=b/\b<M (H W')):=by
 obtain⟨HY,z,JU⟩:=fe hY hat hblk;have ah:Wl _:=hap;have Ib:Wl _:=hcs;obtain⟨aa,HC,G,O9⟩:=xA hao hc (X4 YX hn) hkeys;clear hY hat hblk hap hon hcs hbt hao YX hn hkeys;refine(ZG (n:=0)).1 (callsIn_of_wp Tryz.func158 rfl trivial ?_ rfl);simp only[Tryz.ntmps158,ZN,QJ,ZO,Nat.reduceAdd,Nat.reduceSub,ZP,ZQ,ZR,ZT,ZU,ZV];gi_wp2;clear hc;gi_loopw [7] (λi wr=>∃k:Nat,k<=N rs/\i=I J k/\∃r,Jq (rs.take k) r wr/\Wl (Kept (λb=>¬o b/\∀y∈rs.take k,Ez.aT y=O b->b<n) W wr)/\Wl (∀b,r b->o b∨(M (H W)<=b/\b<M (H wr))∨∃y∈rs.take k,Ez.aT y=O b/\n<=b))
  (λi _=>N rs-(intOf i).toNat)
 case atStart=>exact⟨0,Q4 _,rfl,o,h0,Zx _ _,λb h=>.inl h⟩
 case round=>
  obtain⟨k,hk,rfl,r,L,A,t⟩:=hrel;by_cases j:k<N rs
  .obtain⟨b,off,rfl,hcs⟩:=Qf Ib.o j;have C:∀y∈rs.take k,y∈rs:=λy hy=>XC hy
   have P:=A.o.block b (ZJ (p:=(aD b (off+k))) (hcs k j)) ⟨(aa.o _ rfl).1,λy hy g=>by
    rcases XM b n with h|h
    .exact h
    .exact absurd rfl ((aa.o _ rfl).2 y (C y hy) b g h)⟩
   have Q:=(ZK (a:=(aD b (off+k))) P).trans (hcs k j);have f:E rs k iz∈rs:=by grind
   have d:∀b,Ez.aT (E rs k iz)=O b->¬o b/\∀y∈rs.take k,Ez.aT y=O b->b<n:=λb g=>⟨(JU.o _ f b g).1,λy hy h=>xX.front ah.o j hy h g⟩;have R:=Ez.keep (z.o _ f) A.o.size (λb av g=>A.o.block b av (d b g));have S:∀b,Ez.aT (E rs k iz)=O b->¬r b:=λb g h=>by
    rcases t.o b h with h|h|⟨y,hy,h,h'⟩
    .exact(d b g).1 h
    .have:=Ez.AV (z.o _ f) g;omega
    .have:=(d b g).2 y hy h;omega
   have HN:=Zh (ZL rs iz j);have D:(rs.take k++[E rs k iz]).map Ez.key <+: keys:=by rw[ZL rs iz j,<-O9.o];have e:(rs.take (k+1)).map Ez.key=(rs.take (k+1)).map ae.xs:=QU λx _=>K.key x;grind
   obtain⟨fn,tmps,B,af,hy,hR⟩:=HY.o _ (E rs k iz) r wr L D R (λb g=>⟨S b g,(JU.o _ f b g).2⟩) (Q6 G.o.2 A.o.size);have LX:Wl (∀b,Ez.aT (E rs k iz)=O b->b<M (H W)):=λb g=>Ez.AV (z.o _ f) g;have ax:=Zh d;have ai:Wl (E rs k iz∈rs.take (k+1)):=Kk (by omega) (by omega);have aj:Wl (∀y∈rs.take k,y∈rs.take (k+1)):=λy hy=>by grind
   have ay:Wl (∀y∈rs.take (k+1),y∈rs.take k∨y=E rs k iz):=λy hy=>by rw[<-HN.o]at hy;grind
   have X:Ez.enc (E rs k iz)=(E rs k iz).val:=K.enc _;rw[X]at hy;clear X d S f C P;generalize E rs k iz=x at*;obtain⟨fO,bF,gM⟩:=x;have az:(Instr.yield l #[Z fO (N gM) bF]).run V wr=.ok (.round l fn tmps B af) wr:=hy;have aA:Am wr (aD b (off+k))=O (Z fO (N gM) bF):=Q;clear hy Q R D;gi_wp2;refine⟨rfl,hR.mono ?_⟩;rintro e W3 ⟨rfl,o2,ag,q,u⟩;obtain⟨au,F3,Ig⟩:=fe ag q u;clear ag q u;gi_wp2;go_roundw
   case rel=>
    have q:=F3.o;have u:=Ig.o;have YX:=G.o;refine⟨k+1,by omega,by simp,o2,by rw[<-HN.o];exact au.o,?_,?_⟩
    .refine Zy (A.o.mono λb _ h=>⟨h.1,λy hy=>h.2 y (aj.o y hy)⟩) q ?_;intro b g h h';rcases t.o b h' with h'|h'|⟨y,hy,h1,h2⟩
     .exact h.1 h'
     .omega
     grind
    .intro b g;rcases u b g with h|h|h
     .rcases t.o b h with h|h|⟨y,hy,h1,h2⟩
      .exact .inl h
      .exact .inr (.inl ⟨h.1,by have:=q.size;omega⟩)
      grind
     .exact .inr (.inl ⟨by have:=A.o.size;omega,h.2⟩)
     .exact .inr (.inr ⟨_,ai.o,h.1,h.2⟩)
   case measure=>simp[intOf];omega
  .obtain rfl:k=N rs:=by omega
   gi_wp2;go_end0;rw[Zb]at L A t;refine⟨⟨_,rfl⟩,r,L,A.o.mono λb _ h=>⟨h.1,λ_ _ _=>h.2⟩,λb g=>?_⟩;have ak:=A.o.size;rcases t.o b g with h|h|⟨y,hy,h1,h2⟩
   .exact .inl h
   .exact .inr ⟨Q6 G.o.2 h.1,h.2⟩
   .exact .inr ⟨h2,Q0 (Ez.AV (z.o y hy) h1) ak⟩
end
theorem afA{base:Nat}(h:w.ownsRow base e 1 v n (ys.map ae.val)) :
  n=N ys/\((v=Z E5 0 0/\ys=[])∨∃g cap R,v=Z (O (aD g 0)) (N ys) cap/\base<=g/\GB w g e (SL ys R)):=by
 have a:n=N ys:=by have:=h.1;simpa using this.symm
 refine⟨a,?_⟩;rcases h.2 with⟨h1,h2⟩|⟨g,cap,cur,h1,h2,h3,h4,h5,h6,h7⟩
 .grind
 .refine .inr ⟨g,cap,cur.toList.drop (n*1),by rw[h1,a],h2,?_⟩;unfold GB SL;rw[h3,<-h7,Xo]
theorem afB{g:Nat}{L:List ae}{R:List KX}(h:GB w g e (SL L R)):eD w (O (aD g 0)) (N L) (λi=>(E L i iz).val):=by intro i a;refine⟨g,0,rfl,?_⟩;rw[Q5,h.cell];unfold SL;grind
def xX.perm(h:xX Ez n ys)(hp:ys.Perm zs):xX Ez n zs:=
 (List.Perm.pairwise_iff (R:=λy z=>∀b,Ez.aT y=O b->Ez.aT z=O b->b<n) (λh b a d=>h b d a) hp).1 h
def Ih(g:Nat)(lb:Array KX)(w:U):Ce 176 #[Z E5 0 0,I J 0,I J 0,.func (.func g) #[] lb] w (.tuple #[]):=by go_enter Tryz.func176,Tryz.ntmps176;go_wp2;refine wp_loop_rounds 1 ?_;rw[rounds_succ];go_wp2;go_end0;exact⟨rfl,rfl⟩
def RZ(g:Nat)(lb:Array KX)(w:U):Ce 156 #[Z E5 0 0,I J 0,.func (.func g) #[] lb] w (.tuple #[]):=by have a:=Ih g lb w;go_enter Tryz.func156,Tryz.ntmps156;go_wp2;refine wp_loop_rounds 1 ?_;rw[rounds_succ];go_wp2_with fail;refine a.mono ?_;rintro e b ⟨rfl,rfl⟩;go_wp2;refine wp_loop_rounds 1 ?_;rw[rounds_succ];go_wp2;go_end0;exact⟨rfl,rfl⟩
def FQ(g:Nat)(lb:Array KX)(w:U):Ce 114 #[Z E5 0 0,.func (.func g) #[] lb] w (.tuple #[]):=by have a:=RZ g lb w;go_enter Tryz.func114,Tryz.ntmps114;go_wp2_with fail;refine a.mono ?_;rintro e b ⟨rfl,rfl⟩;go_wp2;go_end0;exact⟨rfl,rfl⟩
def Ii(aT cap g:Nat)(lb:Array KX)(cf:ae->ae->Int)(ok:ae->Prop)(w0:U)(hC:RP V g lb cf aT w0 ok)(eg:∀args w,(callFunc g args).run V w=.ok (.enter g args) w)(Oq:kU (jd cf))
  (L:List ae) (R:List KX) (w:U) (hG:GB w aT 23 (SL L R)) (hok:∀x∈L,ok x) (hK:Kept (λb=>b≠aT) w0 w) (hl:N L<=1000000) :
  Calls V 114 #[Z (O (aD aT 0)) (N L) cap,.func (.func g) #[] lb] w λe d=>e=FR (.tuple #[])/\GB d aT 23 (SL (mg (jd cf) [] L) R)/\Kept (λb=>b≠aT) w d:=by have a:=VH aT cap (N L) g lb cf ok w0 hC eg Oq L R w hG hok hK rfl hl;clear hG hok hK;go_enter Tryz.func114,Tryz.ntmps114;go_wp2_with fail;refine a.mono ?_;rintro e j ⟨rfl,f,i⟩;go_wp2;go_end0;exact⟨rfl,f,i⟩
def R3(bp:Nat)(x y c:ae)(w:U)(hb:Am w (aD bp 0)=O c.val)(hx:x.At w)(hy:y.At w)(hc:c.At w)(ax:aM c.xs (N x.xs)=T)(ay:aM c.xs (N y.xs)=T) :
  Calls V 115 (#[x.val,y.val] ++ #[Y (O (aD bp 0))]) w λe b=>e=FR (I J (cmpL x.xs y.xs c.xs))/\∃m,b = w.drewN m:=by have a:=FP x y c w hx hy hc ax ay;clear hx hy hc ax ay;generalize cmpL x.xs y.xs c.xs=r at*;obtain⟨d,f,xs⟩:=x;obtain⟨g,i,ys⟩:=y;obtain⟨j,k,cs⟩:=c;unfold ae.val at*;simp only[ZT,ZV,ZU]at*;go_enter Tryz.func115,Tryz.ntmps115;go_wp2_with fail;refine a.mono ?_;rintro e l ⟨rfl,m,rfl⟩;clear a;go_wp2;go_ret;exact⟨rfl,_,rfl⟩
def afC(bp aT:Nat)(c:ae)(w0:U)(hb:Am w0 (aD bp 0)=O c.val)(hc:c.At w0)(hbp:bp≠aT)(hcb:∀a,c.ad=O a->a.block≠aT) :
  RP V 115 #[Y (O (aD bp 0))] (λx y=>cmpL x.xs y.xs c.xs) aT w0 (λx=>ah.At x w0/\(∀b,ah.aT x=O b->b≠aT)/\aM c.xs (N x.xs)=T):=by intro W x y d ⟨hx,hxb,ax⟩ ⟨hy,hyb,ay⟩;have e:=ah.keep hx d.size (λb hb h=>d.block b hb (hxb b h));have f:=ah.keep hy d.size (λb hb h=>d.block b hb (hyb b h));refine R3 bp x y c W (ZY hb d hbp) e.1 f.1 ⟨hc.1,hc.2.keep λa g i=>d.block _ i (hcb a g)⟩ ax ay
section
attribute [local go_sem] Oper.semAt_some
def R4(ao:Option Addr)(n cap:Nat)(w:U) :
  Calls V 117 #[Z ao n cap] w λe a=>e=FR (.func (.func 158) #[] #[Y (O (aD (M (H w)) 0))])/\a = w.alloc (FL #[Z ao n cap] 30):=by go_enter Tryz.func117,Tryz.ntmps117;go_wp2;go_ret;exact⟨rfl,rfl⟩
theorem R5(K:NZ Ez)(bi bp gi:Nat)(jy:Array KX)(c:ae)(rows:List (List Int))(w0:U)(hbi:bi<M (H w0))(hbp:bp<M (H w0))
  (hci:Am w0 (aD bi 0)=O (.func (.func gi) #[] jy)) (hcp:Am w0 (aD bp 0)=O c.val) (hc:c.At w0) (Md:∀a,c.ad=O a->a.block<M (H w0))
  (hseq:Seq Ez V gi jy rows w0) (GU:∀args w,(callFunc gi args).run V w=.ok (.enter gi args) w) (hlen:N rows<=1000000) (hin:∀r∈rows,aM c.xs (N r)=T) :
  Seq Ez V 113 #[Y (O (aD bi 0)),Y (O (aD bp 0))] (fI c.xs rows) w0:=by
 intro l Jq W o hW ho hJ hY h0;have c1:=(hW.cell (p:=(aD bi 0)) hbi).trans hci;have c2:=(hW.cell (p:=(aD bp 0)) hbp).trans hcp;have aa:=vS Ez K.enc gi jy rows w0 W hW hlen hseq GU;obtain⟨HY,HO,HW,HJ⟩:=xA hY ho hW hJ;have HC:Wl (c.At w0/\(∀a,c.ad=O a->a.block<M (H w0))/\bp<M (H w0)/\Am w0 (aD bp 0)=O c.val):=⟨hc,Md,hbp,hcp⟩;obtain⟨au,LX⟩:=aV hlen hin;clear hY ho hJ hseq GU hlen hin hc Md hci hcp hbi hbp hW;refine(ZG (n:=0)).1 (callsIn_of_wp Tryz.func113 rfl trivial ?_ rfl);simp only[Tryz.ntmps113,ZN,QJ,ZO,Nat.reduceAdd,Nat.reduceSub,ZP,ZQ,ZR,ZT,ZU,ZV];gi_wp2;refine⟨trivial,rfl,ZG.2 (aa.mono ?_)⟩;rintro e z ⟨v,ys,oG,rfl,aF,j⟩;clear aa;have A:=j.below;have aK:M (H W)<M (H z):=ZJ (p:=(aD (M (H W)) 0)) j.box;have S:ys.map ae.xs=rows:=by rw[<-aF];exact(QU λx _=>K.key x).symm
 have ay:N ys<=1000000:=by have:=congrArg N S;rw[Q8]at this;rw[this];exact au.o
 have az:=HJ.o _ _ _ _ h0 (ZA (s:=λb=>o b∨b<M (H W)) A (λb d _=>d))
 -- behind the sort,and behind the box of Scan: handed out
 have Q:∀(L:List ae) (ao:Option Addr) (cap:Nat) (q:U),L.Perm ys->L.map ae.xs=fI c.xs rows->Kept (λb=>v.ownBlock≠O b) z q->v=Z ao (N ys) cap->eD q ao (N L) (λi=>(E L i iz).val)->
   Calls V 158 #[.func (.yield l) #[] #[],Y (O (aD (M (H q)) 0))] (q.alloc (FL #[Z ao (N ys) cap] 30)) λe W'=>(∃v,e=FR v)/\∃ax o',ax.map Ez.key=fI c.xs rows/\Jq ax o' W'/\Kept (λb=>¬o b) W W'/\∀b,o' b->o b∨(M (H W)<=b/\b<M (H W')):=by
  intro L ao cap q u av m hv P;have aA:=u.length_eq;have aL:=m.size;have C:Kept (λb=>v.ownBlock≠O b) z (q.alloc (FL #[Z ao (N ys) cap] 30)):=m.trans (ZE _ _);have D:∀b,b<M (H W)->v.ownBlock≠O b:=λb d e=>by have:=(Xf j.own e).1;omega
  have aB:=HJ.o _ _ _ _ az (C.mono λb _ h=>by
   rcases h with h|h
   .exact D b (HO.o b h).2
   .exact D b h)
  have f:∀y∈L,y∈ys:=λy hy=>u.mem_iff.1 hy;refine(afz K (M (H q)) ao cap (M (H w0)) (M (H W)) L (fI c.xs rows) av l Jq (q.alloc (FL #[Z ao (N ys) cap] 30)) o ?_ ?_ ?_ ⟨λh=>?_,λy hy b d _=>?_⟩ (λa ha=>⟨λh=>?_,λy hy b d _=>?_⟩) (λy hy=>?_) (λy hy b d=>⟨λh=>?_,?_⟩) ?_ (λb d=>(HO.o b d).2) HW.o.size ?_ HY.o aB).mono ?_
  .rw[aA];exact(GB.alloc q _ _).cell 0
  .exact eD.below (bJ _ _) P
  .omega
  .have:=(HO.o _ h).2;omega
  .have:=Ez.AV (j.at' y (f y hy)) d;omega
  .subst ha;have e1:v.ownBlock=O a.block:=by
    rcases j.own.2 with⟨e,_⟩|⟨g,cap',cur,e,_⟩
    .rw[hv]at e;cases e
    .rw[e]at hv ⊢;cases hv;rfl
   exact D _ (HO.o _ h).2 e1
  .subst ha;have e1:v.ownBlock=O a.block:=by
    rcases j.own.2 with⟨e,_⟩|⟨g,cap',cur,e,_⟩
    .rw[hv]at e;cases e
    .rw[e]at hv ⊢;cases hv;rfl
   have:=(j.off y (f y hy) b d).2;grind
  .exact Ez.keep (j.at' y (f y hy)) C.size (λb d h=>C.block b d (j.off y (f y hy) b h).2)
  .rcases j.born y (f y hy) b d with h1|h1
   .have:=(HO.o b h).1;omega
   .have:=(HO.o b h).2;omega
  .exact j.born y (f y hy) b d
  .exact j.apart.perm u.symm
  .simp;omega
  .rintro e W' ⟨aG,o',aH,aI,aJ⟩;refine⟨aG,L,o',?_,aH,?_,aJ⟩
   .rw[<-av];exact QU λx _=>K.key x
   .have h1:Kept (λb=>¬o b) W z:=ZA A (λb d _=>d);have h2:Kept (λb=>¬o b/\b<M (H W)) W z:=ZA A (λb d _=>d);exact((h2.trans' (C.mono (t:=λb=>b<M (H W)) λb _ h=>D b h) (λb _ h=>h.2)).trans aI).mono λb d h=>⟨h,d⟩
 have HF:=Zh Q;clear Q;obtain⟨hn,X⟩:=afA j.own;rcases X with⟨rfl,hnil⟩|⟨g,cap,R,rfl,hgb,hGB⟩
 .subst hnil;have af:=FQ 115 #[Y (O (aD bp 0))] z;have aC:fI c.xs rows=[]:=by rw[<-S];rfl
  have ag:=HF.o [] E5 0 z (List.Perm.refl _) aC.symm (Zx _ _) rfl (λi hi=>absurd hi (by simp));have B:=R4 E5 0 0 z;clear HF j;gi_wp2;refine⟨trivial,rfl,ZG.2 (af.mono ?_)⟩;rintro e w2 ⟨rfl,rfl⟩;clear af;gi_wp2;refine⟨trivial,rfl,ZG.2 (B.mono ?_)⟩;rintro e w3 ⟨rfl,rfl⟩;clear B;gi_wp2;refine⟨trivial,rfl,ZG.2 (ag.mono ?_)⟩;rintro e w4 ⟨⟨v4,rfl⟩,k⟩;clear ag;gi_wp2;go_end0;exact⟨⟨_,rfl⟩,k⟩
 .have ah:=afC bp g c z
   ((A.cell (p:=(aD bp 0)) (Q0 HC.o.2.2.1 HW.o.size)).trans c2) (Qt A (Qt HW.o HC.o.1)) (by have:=HC.o.2.2.1;have:=HW.o.size;omega) (λa ha=>by have:=HC.o.2.1 a ha;have:=HW.o.size;omega)
  have ai:=Ii g cap 115 #[Y (O (aD bp 0))] _ _ z ah (X9 Tryz.func115 (by kernel_rfl) rfl) (ab6 c.xs) ys R z hGB
   (λx hx=>⟨K.at' (j.at' x hx),λb d e=>by
    rw[<-K.aT]at d;have:=(j.off x hx b d).2;rw[e]at this;exact this rfl,LX.o _ (by grind)⟩) (Zx _ _) ay
  have aj:=λ(q:U) (G:GB q g 23 (SL (mg (jd λx y:ae=>cmpL x.xs y.xs c.xs) [] ys) R)) (m:Kept (λb=>b≠g) z q)=>HF.o (mg (jd λx y:ae=>cmpL x.xs y.xs c.xs) [] ys) (O (aD g 0)) cap q (FY ys []) (by rw[afy,S]) (m.mono λb _ h e=>by subst e;exact h rfl) rfl (afB G);have B:=λq=>R4 (O (aD g 0)) (N ys) cap q;clear HF j hGB ah;generalize mg (jd λx y:ae=>cmpL x.xs y.xs c.xs) [] ys=L at*;gi_wp2;refine⟨trivial,rfl,ZG.2 (ai.mono ?_)⟩;rintro e w2 ⟨rfl,G,m⟩;have ak:=aj w2 G m;clear ai aj G m;gi_wp2;refine⟨trivial,rfl,ZG.2 ((B w2).mono ?_)⟩;rintro e w3 ⟨rfl,rfl⟩;clear B;gi_wp2;refine⟨trivial,rfl,ZG.2 (ak.mono ?_)⟩;rintro e w4 ⟨⟨v4,rfl⟩,k⟩;clear ak;gi_wp2;go_end0;exact⟨⟨_,rfl⟩,k⟩
end
theorem NM(hk:k<N cs):∀x∈aL (E cs k cz),x∈aG cs:=λx a=>by unfold aG;grind
structure FM(tC tD:TypeId)(C:List Int)(cs:List aF)(w2:U)(Bm:Nat)(k:Nat)(v:KX)(W:U):Prop where
 below:Bw w2 W
 box:GB W Bm tC #[v]
 own:W.ownsRow (M (H w2)) tD 5 v k (((cs.take k).map (dE C)).flatMap aF.aI)
 off:v.ownBlock≠O Bm
def FM.keep(h:FM tC tD C cs w2 Bm k v A)(hb:Bw A B):FM tC tD C cs w2 Bm k v B:=
 ⟨h.below.trans (hb.mono h.below.size),h.box.of (hb.block _ h.box.lt),Xe h.own (ZA (s:=λb=>b<M (H A)) hb (λb _ h=>h)) (λg a=>(Xf h.own a).2),h.off⟩
def FM.set(h:FM tC tD C cs w2 Bm k v A){G i:Nat}(hG:M (H w2)<=G)(h1:G≠Bm)(h2:v.ownBlock≠O G):FM tC tD C cs w2 Bm k v (qw A (aD G i) u):=by have a:Kept (λb=>b≠G) A (qw A (aD G i) u):=Xc _ _ _ (λh=>h rfl);exact⟨h.below.trans (a.below h.below.size (λb f=>by omega)),h.box.keep a (λe=>h1 e.symm),Xe h.own a (λg d e=>h2 (e ▸ d)),h.off⟩
def Vz{B:Nat}(h:GB W B 88 #[v]):(loadVar 88 (aD B 0)).run V W=.ok (FN #[v]) W:=by have a:=h.at 0;simp[go_sem,a]
theorem Rx(h:FM 88 90 C cs w2 Bm k v W)(hk:k<=100)(hB:M (H w2)<=Bm)(d:aF)(hd:(cs.take (k+1)).map (dE C)=(cs.take k).map (dE C)++[d]) :
  ∃a m c f,(Builtin.append_ #[86,86] 86 #[v,Z (O (aD (M (H W)) 0)) 1 1]).run V (W.alloc (FL #[EP d.not,I J d.op,I J d.left,EP d.const,I J d.right] 90))=.ok (Z a m c) f/\
   Am f (aD Bm 0)=O v/\f.frozen? (aD Bm 0)=F/\FM 88 90 C cs w2 Bm (k+1) (Z a m c) (qw f (aD Bm 0) (Z a m c)):=by
 obtain⟨D,G,r,t,u⟩:=Xk Tryz.Ru;obtain⟨R,f,K,L,p,⟨a,m,c,rfl⟩,y⟩:=yf (P:=V) W (M (H w2)) 86 86 90 D _ 5 40 Tryz.underlying86 G r t u rfl (by decide) v k _ h.own h.below.size d.aI rfl (by unfold aF.aI;simp[Value.oneCell']) (by omega) (by omega);have B:=h.box.lt;have q:GB f Bm 88 #[v]:=h.box.keep p h.off;have i:(Value.slice a m c).ownBlock≠O Bm:=λe=>by
  rcases y with A|A
  .exact h.off (A.symm.trans e)
  grind
 have j:Kept (λb=>b≠Bm) f (qw f (aD Bm 0) (Z a m c)):=Xc _ _ _ (λh=>h rfl);have l:∀b,v.ownBlock=O b->M (H w2)<=b:=λb z=>(Xf h.own z).1;have n:Bw w2 f:=h.below.trans (p.below h.below.size (λb z e=>by have:=l b e;omega));refine⟨a,m,c,f,K,q.cell 0,q.frozen 0,n.trans (j.below n.size (λb z=>by omega)),q.set 0 _,?_,i⟩;rw[hd,Q7,QH,List.flatMap_nil,QN];exact Xe L j (λg Q e=>i (e ▸ Q))
theorem ab3(ca:Option Addr)(cc:Nat)(cs:List aF)(v:KX)(c:ae)(w:U)(hx:bS w ca cs)(hl:N cs<=100)(hv:∃g lb,v=.func (.func g) #[] lb)(hc:c.At w)(hin:∀x∈aG cs,x∈c.xs) :
  Calls V 159 #[FN #[Z ca (N cs) cc],.func (.func 125) #[FN #[v,c.val]] #[]] w λe w'=>∃mv:az,e=FR (FN #[mv.val])/\mv.cs=cs.map (dE c.xs)/\bS w' mv.ad mv.cs/\(∀a,mv.ad=O a->M (H w)<=a.block/\a.block<M (H w'))/\Bw w w':=by
 obtain⟨i0,hi,bz,bA,bB⟩:=Xk Tryz.Ru;have Bt:Wl (∀X iC,Bw w X->iC∈c.xs->Cb 125 #[FN #[v,c.val],I J iC] X (I J (bI c.xs iC))):=λX iC hX fJ=>zq v c iC X hv (Qt hX hc) fJ;have sO:Wl _:=hl;have LX:Wl _:=hin;have HX:Wl _:=hx;have bV:=hx.1;obtain⟨m,K⟩:∃x,w.alloc (FL #[Z ca (N cs) cc] 88)=x:=⟨_,rfl⟩;have au:Bw w m:=by rw[<-K];exact bJ _ _
 have s1:M (H m)=M (H w)+1:=by rw[<-K];simp
 have q0:Am m (aD (M (H w)) 0)=O (Z ca (N cs) cc):=by rw[<-K];simp
 obtain⟨l,L⟩:∃x,m.alloc (FL #[Z E5 0 0] 88)=x:=⟨_,rfl⟩;have av:Bw m l:=by rw[<-L];exact bJ _ _
 have s2:M (H l)=M (H w)+2:=by rw[<-L];simp[s1]
 have g2:GB l (M (H m)) 88 #[Z E5 0 0]:=by rw[<-L];exact iX _ _
 have q2:=cB av q0;obtain⟨Q,bR,af,bC⟩:=run_make_own (P:=V) l (M (H l)) 86 90 i0 _ 5 Tryz.underlying86 hi bz bA J J (N cs) (by rw[bB];omega) (by unfold maxLen;omega) (Qs _);have S:Bw l Q:=(Xd (s:=λ_=>True) bC (λr e=>by cases e)).below (Qs _) (λ_ _=>trivial);have aS:M (H l)<M (H Q):=by have:=(Xf af (g:=M (H l)) rfl).2;exact this
 obtain⟨w4,bD,aP,g4⟩:=aX Q #[Z (O (aD (M (H l)) 0)) 0 (N cs)] 88;have uV:Bw l w4:=S.trans (aP.mono S.size);have q3:=cB S q2;have q4:=cB uV q2;have bK:Wl (FM 88 90 c.xs cs l (M (H Q)) 0 (Z (O (aD (M (H l)) 0)) 0 (N cs)) w4):=
  ⟨uV,g4,Xe af (ZA (s:=λb=>b<M (H Q)) aP (λb _ h=>h)) (λg hg=>(Xf af hg).2),λe=>absurd (Option.some.inj (show O (M (H l))=O (M (H Q)) from e)) (by omega)⟩
 have ak:Bw w l:=au.trans (av.mono au.size);have xB:Wl (Bw w l):=ak;have aT:Wl (GB l (M (H m)) 88 #[Z E5 0 0]):=g2;have HS:Wl (M (H l)=M (H w)+2/\M (H l)<M (H Q)):=⟨s2,aS⟩;have aU:Wl (M (H m)=M (H w)+1):=s1;have bW:Wl _:=L;have bX:Wl _:=K;have bY:Wl _:=bD;have bZ:=g4.at 0;obtain⟨g,lb,rfl⟩:=hv;obtain⟨ng,dK,j⟩:=c;unfold ae.val at*;simp only at*;clear hx hc hin hi bz bA bB hl au av s1 q0 s2 g2 af bC S aS aP g4 uV ak;go_enter Tryz.func159,Tryz.ntmps159;go_wp2;clear bR K L bD;go_loopw [16] (λiv wr=>∃k:Nat,k<=N cs/\iv=I J k/\∃v,FM 88 90 j cs l (M (H Q)) k v wr) (λiv _=>N cs-(intOf iv).toNat)
 case atStart=>exact⟨0,Q4 _,rfl,_,bK.o⟩
 case round=>
  obtain⟨k,hk,rfl,v,hM⟩:=hrel;obtain⟨t,y,z,rfl⟩:=Xg hM.own;have HM:Wl _:=hM;have bL:=hM.box.cell 0;have bM:=hM.box.frozen 0;have bN:=cB hM.below q2;have zX:=hM.below.size;have Vv:Wl (M (H l)<=M (H wr)/\M (H Q)<M (H wr)):=⟨zX,hM.box.lt⟩;have nV:Wl (Bw w wr):=xB.o.trans (hM.below.mono xB.o.size);clear hM zX;by_cases ai:k<N cs
  .obtain⟨b,off,rfl,c0,c1,c2,c3,c4⟩:=HX.o.2 k ai;obtain⟨d0,d1,d2,d3,d4⟩:=ji nV.o c0 c1 c2 c3 c4;have aV:Wl _:=NM ai;have aW:Wl ((cs.take (k+1)).map (dE j)=(cs.take k).map (dE j)++[dE j (E cs k cz)]):=by show _=_;rw[Qh ai,Ql];simp[List.getD,ai]
   clear c0 c1 c2 c3 c4;generalize E cs k cz=cd at*;obtain⟨f,n,left,d,right⟩:=cd;simp only at*;obtain⟨w5,O7,aQ,g5⟩:=aX wr #[EP f,I J n,I J left,EP d,I J right] 90;have M5:=HM.o.keep aQ;have ax:Wl (Bw w w5):=nV.o.trans (aQ.mono nV.o.size);have e2:=g5.at 2;have ay:left∈j:=LX.o _ (aV.o _ (by unfold aL;split <;> simp));have aY:=Bt.o w5 left ax.o ay;have bO:Wl _:=M5;have O8:Wl _:=g5;clear M5 g5 aQ bL bM bN;generalize bH:bI j left=P1 at*;go_wp2_with fail;refine aY.mono ?_;rintro e w6 ⟨rfl,ag⟩;have g6:GB w6 (M (H wr)) 90 #[EP f,I J n,I J left,EP d,I J right]:=GB.of O8.o (ag.block _ (GB.lt O8.o));have M6:=bO.o.keep ag;have Hz:Wl (Bw w w6):=ax.o.trans (ag.mono ax.o.size);have f2:=g6.at 2;have t2:w6.frozen? (aD (M (H wr)) 2)=false:=g6.frozen 2;have g7:GB (qw w6 (aD (M (H wr)) 2) (I J P1)) (M (H wr)) 90 #[EP f,I J n,I J P1,EP d,I J right]:=g6.set 2 _;have aA:(Value.slice t y z).ownBlock≠O (M (H wr)):=λe=>by have:=(Xf HM.o.own e).2;omega
   have M7:=M6.set (i:=2) (u:=I J P1) (G:=M (H wr)) Vv.o.1 (by have:=Vv.o.2;omega) aA;have B7:Bw w (qw w6 (aD (M (H wr)) 2) (I J P1)):=xB.o.trans (M7.below.mono xB.o.size);have Ry:Wl _:=g7;have aZ:Wl _:=M7;have Df:Wl _:=B7;have NN:Wl _:=aA;clear g6 M6 g7 M7 B7 aA aY e2 ag;go_upto_region 6 with fail;obtain⟨w7,bE⟩:∃x,qw w6 (aD (M (H wr)) 2) (I J P1)=x:=⟨_,rfl⟩;rw[bE]at Ry aZ Df ⊢;clear bE f2 t2;have h0:=QQ Ry.o 0;have h1:=QQ Ry.o 1;have h2:=QQ Ry.o 2;have h3:=QQ Ry.o 3;have h4:=QQ Ry.o 4;have W:=yz ⟨f,n,P1,d,right⟩ w7;unfold aF.val at W;simp only at W h0 h1 h2 h3 h4;go_wp2_with fail;refine W.mono ?_;rintro e w8 ⟨rfl,zu⟩;have g8:GB w8 (M (H wr)) 90 #[EP f,I J n,I J P1,EP d,I J right]:=GB.of Ry.o (zu.block _ (GB.lt Ry.o));have M8:=aZ.o.keep zu;have bP:Wl (Bw w w8):=Df.o.trans (zu.mono Df.o.size);clear W h0 h1 h2 h3 h4 zu;by_cases aj:n≠2/\d=F
   .obtain⟨o2,rfl⟩:=aj;have bf:decide (n≠2)=true:=QD o2;have C:(!F&&decide (n≠2))=true:=by rw[bf];rfl
    have aa:right∈j:=LX.o _ (aV.o _ (by unfold aL;rw[Qu ⟨o2,rfl⟩];simp));have bg:=Bt.o w8 right bP.o aa;have cu:Wl (bI j right=bI j right):=rfl;have k4:=g8.at 4;have aB:Wl (dE j ⟨f,n,left,F,right⟩=⟨f,n,P1,F,bI j right⟩):=by show _=_;unfold dE;simp only;rw[Qu ⟨o2,trivial⟩,bH]
    have bn:Wl _:=g8;have bQ:Wl _:=M8;clear g8 M8 o2;generalize bI j right=P2 at*;rw[C];clear C bf;go_wp2_with fail;refine bg.mono ?_;rintro e w9 ⟨rfl,VA⟩;have g9:GB w9 (M (H wr)) 90 #[EP f,I J n,I J P1,EP F,I J right]:=GB.of bn.o (VA.block _ (GB.lt bn.o));have M9:=bQ.o.keep VA;have f4:=g9.at 4;have t4:w9.frozen? (aD (M (H wr)) 4)=false:=g9.frozen 4;have B:Wl (GB (qw w9 (aD (M (H wr)) 4) (I J P2)) (M (H wr)) 90 #[EP f,I J n,I J P1,EP F,I J P2]):=g9.set 4 _;have A:Wl (FM 88 90 j cs l (M (H Q)) k (Z t y z) (qw w9 (aD (M (H wr)) 4) (I J P2))):=M9.set (i:=4) (u:=I J P2) (G:=M (H wr)) Vv.o.1 (by have:=Vv.o.2;omega) NN.o;have aC:Wl ((cs.take (k+1)).map (dE j)=(cs.take k).map (dE j)++[⟨f,n,P1,F,P2⟩]):=by show _=_;rw[aW.o,aB.o]
    clear g9 M9 bg VA k4;go_upto_region 8 with fail;obtain⟨wz,bF⟩:∃x,qw w9 (aD (M (H wr)) 4) (I J P2)=x:=⟨_,rfl⟩;rw[bF]at B A ⊢;clear bF f4 t4;have aH:=QQ B.o 0;have aI:=QQ B.o 1;have aJ:=QQ B.o 2;have aK:=QQ B.o 3;have aM:=QQ B.o 4;have aN:=A.o.box.cell 0;try simp only at aH aI aJ aK aM aN
    obtain⟨pa,pm,pc,wp,NP,bT,bU,R⟩:=Rx A.o (by have:=sO.o;omega) (by have:=HS.o;omega) ⟨f,n,P1,F,P2⟩ aC.o;try simp only at NP
    have aO:Wl _:=R;clear R;go_wp2_with (first|(at_builtin;refine Xy rfl (.tmp 33) (.tmp 35) 86 rfl (Z t y z) (Z (O (aD (M (H wz)) 0)) 1 1) (Z pa pm pc) wp rfl rfl NP ?_));clear NP;go_wp2;go_roundw
    case rel=>exact⟨k+1,by omega,by go_num,_,aO.o⟩
    case measure=>simp[intOf];omega
   .have C:(!d&&decide (n≠2))=false:=by
     cases d with
     |true=>rfl
     |false=>simp only[Bool.not_false,QE];exact QX (λh=>aj ⟨h,rfl⟩)
    have aB:Wl (dE j ⟨f,n,left,d,right⟩=⟨f,n,P1,d,right⟩):=by show _=_;unfold dE;simp only;rw[QC aj,bH]
    have aC:Wl ((cs.take (k+1)).map (dE j)=(cs.take k).map (dE j)++[⟨f,n,P1,d,right⟩]):=by show _=_;rw[aW.o,aB.o]
    have B:Wl (GB w8 (M (H wr)) 90 #[EP f,I J n,I J P1,EP d,I J right]):=g8;have A:Wl (FM 88 90 j cs l (M (H Q)) k (Z t y z) w8):=M8;clear g8 M8 aj;rw[C];clear C;have aH:=QQ B.o 0;have aI:=QQ B.o 1;have aJ:=QQ B.o 2;have aK:=QQ B.o 3;have aM:=QQ B.o 4;have aN:=A.o.box.cell 0;try simp only at aH aI aJ aK aM aN
    obtain⟨pa,pm,pc,wp,NP,bT,bU,R⟩:=Rx A.o (by have:=sO.o;omega) (by have:=HS.o;omega) ⟨f,n,P1,d,right⟩ aC.o;try simp only at NP
    have aO:Wl _:=R;clear R;go_wp2_with (first|(at_builtin;refine Xy rfl (.tmp 33) (.tmp 35) 86 rfl (Z t y z) (Z (O (aD (M (H w8)) 0)) 1 1) (Z pa pm pc) wp rfl rfl NP ?_));clear NP;go_wp2;go_roundw
    case rel=>exact⟨k+1,by omega,by go_num,_,aO.o⟩
    case measure=>simp[intOf];omega
  .obtain rfl:k=N cs:=by omega
   obtain⟨Rz,Cg,bG,aR,ah⟩:=NK (cs:=cs.map (dE j)) (by have h:=HM.o.own;rw[Zb]at h;rw[Q8];exact h) (by rw[Q8];exact sO.o);have bq:Value.slice t y z=Z Rz (N (cs.map (dE j))) Cg:=bG;have EX:Wl (GB wr (M (H m)) 88 #[Z E5 0 0]):=aT.o.of (HM.o.below.block _ aT.o.lt);have cK:Am wr (aD (M (H m)) 0)=O (Z E5 0 0):=QQ EX.o 0;have cO:wr.frozen? (aD (M (H m)) 0)=false:=GB.frozen EX.o 0;have xC:Wl (GB (qw wr (aD (M (H m)) 0) (Z t y z)) (M (H m)) 88 #[Z t y z]):=GB.set EX.o 0 _;have q:Kept (λb=>b≠M (H m)) wr (qw wr (aD (M (H m)) 0) (Z t y z)):=Xc _ _ _ (λh=>h rfl);have bu:bS (qw wr (aD (M (H m)) 0) (Z t y z)) Rz (cs.map (dE j)):=⟨aR.1,λi hi=>by
    obtain⟨b,off,e,c0,c1,c2,c3,c4⟩:=aR.2 i hi;have hb:=(ah (aD b off) e).1;have D:b≠M (H m):=by have:=HS.o.1;have:=aU.o;grind
    exact⟨b,off,e,ZY c0 q D,ZY c1 q D,ZY c2 q D,ZY c3 q D,ZY c4 q D⟩⟩
   have fM:Wl (∃mv:az,Ending.returned (FN #[Z t y z])=FR (FN #[mv.val])/\mv.cs=cs.map (dE j)/\bS (qw wr (aD (M (H m)) 0) (Z t y z)) mv.ad mv.cs/\(∀a,mv.ad=O a->M (H w)<=a.block/\a.block<M (H (qw wr (aD (M (H m)) 0) (Z t y z))))/\Bw w (qw wr (aD (M (H m)) 0) (Z t y z))):=
    ⟨⟨Rz,Cg,cs.map (dE j)⟩,by rw[bq];rfl,rfl,bu,λa ha=>by
     have h1:M (H l)<=a.block:=(ah a ha).1;have h2:=(ah a ha).2.1;have h3:M (H (qw wr (aD (M (H m)) 0) (Z t y z)))=M (H wr):=by simp[World.setCell]
     have:=HS.o.1;omega,nV.o.trans (q.below nV.o.size (λb hb=>by have:=aU.o;show b≠_;omega))⟩
   have mG:Wl _:=Vz xC.o;clear aR ah bG bq q bu;go_wp2;refine X0 (nK (p:=4) rfl rfl mG.o) rfl ?_;exact fM.o
theorem RG{c:aF}{n:Int}(h:dC c n=T)(hin:∀x∈aL c,x∈C):dC (dE C c) (N C)=true:=by
 have a:∀x∈C,0<=bI C x/\bI C x<N C:=λx b=>by have:=XW.2 b;unfold bI;omega
 unfold dC at h ⊢;unfold dE;simp only[Qm,Qz]at h ⊢;obtain⟨⟨⟨⟨d,e⟩,f⟩,g⟩,i⟩:=h;unfold aL at hin;grind
def NQ(ls:List az)(C is:List Int)(ms:List az):Prop:=ms.map az.cs=is.map λi=>(E ls i.toNat lz).cs.map (dE C)
def NQ.holds(h:NQ ls C is ms)(r:List Int):pq ms r=jo ls C is r:=by
 unfold pq jo;have a:(ms.all λc=>gX c.cs r)=(ms.map az.cs).all λcs=>gX cs r:=by rw[List.all_map];rfl
 have b:(is.all λi=>gX ((E ls i.toNat lz).cs.map (dE C)) r)=(is.map λi=>(E ls i.toNat lz).cs.map (dE C)).all λcs=>gX cs r:=by rw[List.all_map];rfl
 rw[a,b,h]
def RH(bx:Nat)(Rz:Option Addr)(Cg:Nat)(ms:List az)(x:ae)(w:U)(hb:Am w (aD bx 0)=O (Z Rz (N ms) Cg))(hx:x.At w)(hq:bR w Rz ms)(hcs:∀i,i<N ms->∀k,k<(E ms i lz).cs.length->dC ((E ms i lz).cs.getD k cz) (N x.xs)=T) :
  Calls V 160 (#[x.val] ++ #[Y (O (aD bx 0))]) w λe g=>e=FR (EP (pq ms x.xs))/\Bw w g:=by have b:=ab4 Rz Cg ms x.ad x.cap x.xs w hx hq hcs;obtain⟨d,f,xs⟩:=x;unfold ae.val;simp only at*;show Calls V 160 #[Z d (N xs) f,Y (O (aD bx 0))] w _;clear hx hq hcs;generalize pq ms xs=B at*;go_enter Tryz.func160,Tryz.ntmps160;go_wp2_with fail;refine b.mono ?_;rintro e j ⟨rfl,a⟩;go_wp2;go_ret;exact⟨rfl,a⟩
structure RI(tL tC:TypeId)(ls:List az)(C is:List Int)(w4:U)(Bx:Nat)(k:Nat)(v:KX)(ms:List az)(W:U):Prop where
 kept:Kept (λb=>b≠Bx) w4 W
 box:GB W Bx tL #[v]
 own:W.ownsRow (M (H w4)) tC 1 v (N ms) (ms.map az.val)
 moved:NQ ls C (is.take k) ms
 at':∀m∈ms,bS W m.ad m.cs/\∀a,m.ad=O a->M (H w4)<=a.block/\a.block<M (H W)/\v.ownBlock≠O a.block
theorem bS.kept{s:Nat->Prop}(h:bS A ao cs)(hk:Kept s A B)(hs:∀a,ao=O a->s a.block):bS B ao cs:=⟨h.1,λi m=>by
 obtain⟨b,off,e,f,g,j,k,l⟩:=h.2 i m;have d:=hs _ e;exact⟨b,off,e,ZY f hk d,ZY g hk d,ZY j hk d,ZY k hk d,ZY l hk d⟩⟩
theorem bR.kept{A B:U}{ao:Option Addr}{ls:List az}{s:Nat->Prop}(h:bR A ao ls)(hk:Kept s A B)(h1:∀a,ao=O a->s a.block)(h2:∀m∈ls,∀a,m.ad=O a->s a.block):bR B ao ls:=
 ⟨h.1,h.2.1.keep (λa b e=>hk.block _ e (h1 a b)),λi d=>(h.2.2 i d).kept hk (λa b=>h2 _ (by simp[List.getD,d]) a b)⟩
def RI.keep{tL:TypeId}(h:RI tL tC ls C is w4 Bx k v ms A)(hb:Bw A B):RI tL tC ls C is w4 Bx k v ms B:=
 ⟨h.kept.trans (ZA hb (λb hb _=>hb)),h.box.of (hb.block _ h.box.lt),Xe h.own (ZA (s:=λb=>b<M (H A)) hb (λb _ h=>h)) (λg i=>(Xf h.own i).2),h.moved,λm d=>
  ⟨(h.at' m d).1.kept (ZA (s:=λb=>b<M (H A)) hb (λb _ h=>h)) (λa e=>((h.at' m d).2 a e).2.1),λa e=>by
   have f:=(h.at' m d).2 a e;exact⟨f.1,by have:=hb.size;omega,f.2.2⟩⟩⟩
theorem afq(h:RI 24 88 ls C is w4 Bx k v ms W)(hk:N ms<=100)(hB:Bx<M (H w4))(hlt:k<N is)(m:az)(hmc:m.cs=(E ls (E is k 0).toNat lz).cs.map (dE C))(hma:bS W m.ad m.cs)
  (hmb:∀a,m.ad=O a->M (H w4)<=a.block/\a.block<M (H W)/\v.ownBlock≠O a.block) :
  ∃a l c d,(Builtin.append_ #[24,24] 24 #[v,Z (O (aD (M (H W)) 0)) 1 1]).run V (W.alloc (FL #[m.val] 88))=.ok (Z a l c) d/\
   Am d (aD Bx 0)=O v/\d.frozen? (aD Bx 0)=F/\RI 24 88 ls C is w4 Bx (k+1) (Z a l c) (ms++[m]) (qw d (aD Bx 0) (Z a l c))/\
   Kept (λb=>b≠Bx/\v.ownBlock≠O b) (W.alloc (FL #[m.val] 88)) d/\Kept (λb=>b≠Bx/\v.ownBlock≠O b) d (qw d (aD Bx 0) (Z a l c)):=by
 obtain⟨i0,hi,A,B,D⟩:=Xk Tryz.Vw;have aa:=h.kept.size;have hA:M (H (W.alloc (FL #[m.val] 88)))=M (H W)+1:=by simp
 obtain⟨v',d,hr,X,G,_,ag⟩:=Xz (P:=V) (W.alloc (FL #[m.val] 88)) (M (H w4)) 24 24 88 i0 _ 1 24 Tryz.underlying24 hi A B D rfl (by decide) v (N ms) (ms.map az.val) (h.own.alloc _)
  (aD (M (H W)) 0) 1 1 [m.val] rfl (cell_one_new W m.val 88) (by simp[az.val,Value.oneCell']) (by unfold maxLen;omega) (by omega) (by omega)
 obtain⟨a,l,c,rfl⟩:=Xg X;have q:Kept (λb=>v.ownBlock≠O b) (W.alloc (FL #[m.val] 88)) d:=Xd G (λr e h=>h e);have i:=(ZE _ _).trans q;have j:∀b,v.ownBlock=O b->M (H w4)<=b/\b<M (H W):=λb K=>Xf h.own K;have u:v.ownBlock≠O Bx:=λe=>by have:=(j _ e).1;omega
 have y:=h.box.keep i u;have t:∀b,(Value.slice a l c).ownBlock=O b->v.ownBlock=O b∨b=M (H W)+1:=λb K=>by grind
 have z:(Value.slice a l c).ownBlock≠O Bx:=λe=>by grind
 have f:Kept (λb=>b≠Bx) d (qw d (aD Bx 0) (Z a l c)):=Xc _ _ _ (λh=>h rfl);have ae:=i.size;have af:=f.size;have p:∀x∈ms++[m],bS W x.ad x.cs/\∀a,x.ad=O a->M (H w4)<=a.block/\a.block<M (H W)/\v.ownBlock≠O a.block:=λx n=>by
  rcases Ze.1 n with n|n
  .exact h.at' x n
  grind
 refine⟨a,l,c,d,hr,y.cell 0,y.frozen 0,⟨((h.kept.trans' i (λb K _ e=>by have:=(j b e).1;omega))).trans f,y.set 0 _,?_,?_,λx n=>⟨?_,λa' L=>?_⟩⟩,q.mono (λ_ _ h=>h.2),f.mono (λ_ _ h=>h.1)⟩
 .rw[QI,Ql];exact Xe X f (λg G e=>z (e ▸ G))
 .have e:is[k]=E is k 0:=by simp[List.getD,hlt]
  have Q:=h.moved;unfold NQ at Q ⊢;rw[Ql,Q,Qh hlt,Ql,e];grind
 .exact((p x n).1.kept i (λa ha=>((p x n).2 a ha).2.2)).kept f (λa ha=>by grind)
 .have R:=(p x n).2 a' L;exact⟨R.1,by omega,λe=>by
   rcases t _ e with S|S
   .exact R.2.2 S
   .omega⟩
def RJ(gi gk:Nat)(jy lbk:Array KX)(w:U):Calls V 162 #[.func (.func gi) #[] jy,.func (.func gk) #[] lbk] w λe a=>e=FR (.func (.func 179) #[] #[Y (O (aD (M (H w)) 0)),Y (O (aD (M (H w)+1) 0))])/\
  a = (w.alloc (FL #[.func (.func gi) #[] jy] 70)).alloc (FL #[.func (.func gk) #[] lbk] 108):=by go_enter Tryz.func162,Tryz.ntmps162;go_wp2;go_ret;exact⟨rfl,rfl⟩
def yA{B:Nat}(h:GB W B 129 #[v,u]):(loadVar 129 (aD B 0)).run V W=.ok (FN #[v,u]) W:=by obtain⟨a,b⟩:=h.k2;simp[go_sem,a,b]
structure kH(e:TypeId)(lo:Nat)(W:U)(ao:Option Addr)(ys:List ae):Prop where
 cells:eD W ao (N ys) (λi=>(E ys i iz).val)
 at':∀y∈ys,(gJ e).At y W
 new:∀y∈ys,∀b,ah.aT y=O b->lo<=b
 apart:ys.Pairwise λy z=>∀b,ah.aT y=O b->ah.aT z≠O b
 list:∀a,ao=O a->lo<=a.block/\∀y∈ys,ah.aT y≠O a.block
 len:N ys<=20001
 wide:∀y∈ys,N y.xs<=1000
def kH.nil(e:TypeId)(lo:Nat)(W:U):kH e lo W E5 []:=
 ⟨λi b=>absurd b (by simp),λy hy=>(by cases hy),λy hy=>(by cases hy),List.Pairwise.nil,λa d=>(by cases d),by simp,λy hy=>(by cases hy)⟩
def kH.anX(h:kH e lo W ao ys):fF W ao ys:=
 ⟨by have:=h.len;omega,h.cells,λi a=>(h.at' _ (Xx a)).1.1⟩
def kH.below{e:TypeId}{lo:Nat}{W W':U}{ao:Option Addr}{ys:List ae}(h:kH e lo W ao ys)(hb:Bw W W'):kH e lo W' ao ys:=
 ⟨h.cells.below hb,λy hy=>(gJ e).keep (h.at' y hy) hb.size (λb a _=>hb.block b a),h.new,h.apart,h.list,h.len,h.wide⟩
def kH.lower{lo':Nat}(h:kH e lo W ao ys)(hl:lo'<=lo):kH e lo' W ao ys:=
 ⟨h.cells,h.at',λy hy b f=>Q6 hl (h.new y hy b f),h.apart,λa d=>⟨Q6 hl (h.list a d).1,(h.list a d).2⟩,h.len,h.wide⟩
def gI.aka{tR:TypeId}{w1:U}{o:Nat->Prop}(h:gI (lF e (M (H w1))) (M (H w1)) w1 tR ys o W v)(hl:N ys<=20001)(hw:∀y∈ys,N y.xs<=1000):∃q cap,v=Z q (N ys) cap/\kH e (M (H w1)) W q ys:=by
 have j:∀y∈ys,(gJ e).At y W:=λy hy=>(h.at' y hy).1;have d:∀y∈ys,∀b,ah.aT y=O b->M (H w1)<=b:=λy hy=>(h.at' y hy).2;have k:ys.Pairwise λy z=>∀b,ah.aT y=O b->ah.aT z≠O b:=by refine List.Pairwise.imp_of_mem ?_ h.apart;intro y z hy A m b p n;have f:=m b p n;have l:=d y hy b p;omega
 rcases mU h.own with⟨f,l⟩|⟨g,c,f,l,h3,h4⟩
 .have:ys=[]:=List.map_eq_nil_iff.1 l;subst this;exact⟨E5,0,f,kH.nil _ _ _⟩
 .refine⟨O (aD g 0),c,f,⟨λi r=>⟨g,0,rfl,?_⟩,j,d,k,λa t=>?_,hl,hw⟩⟩
  .have:=h4 i (E ys i iz).val (by rw[QK];simp[List.getD,r]);rw[iw]at this;exact this
  .cases t
   refine⟨by show M (H w1)<=g;omega,λy hy u=>?_⟩;have:=(h.off y hy g u).2;rw[f]at this;exact this rfl
def Nw(w w' W:U):Prop:=Kept (λb=>M (H w)<=b) w' W
def Nw.more{x w':U}(h:Nw w w' W)(hs:M (H w)<=M (H x)):Nw x w' W:=Kept.mono h λb _ a=>Q6 hs a
theorem Nw.cell{w w' W:U}(h:Nw w w' W){b o:Nat}{v:KX}(hb:M (H w)<=b)(hc:Am w' (aD b o)=O v):Am W (aD b o)=O v:=ZY hc h hb
def Oa(w:U)(c1 c2:Array KX)(t1 t2:TypeId):∃e,e = (w.alloc (FL c1 t1)).alloc (FL c2 t2)/\Bw w e/\∀W,Nw w e W->(M (H w)<M (H W)/\Am W (aD (M (H w)) 0)=c1[0]?)/\M (H w)+1<M (H W)/\Am W (aD (M (H w)+1) 0)=c2[0]?:=by have a:=bJ w (FL c1 t1);have b:=bJ (w.alloc (FL c1 t1)) (FL c2 t2);have g:=(GB.alloc w c1 t1).of (b.block _ (by simp));have f:=GB.alloc (w.alloc (FL c1 t1)) c2 t2;rw[Xm]at f;refine⟨_,rfl,a.trans (b.mono a.size),λW d=>?_⟩;have i:=d.block (M (H w)) (by simp;omega) (Qs _);have j:=d.block (M (H w)+1) (by simp) (Nat.le_succ _);have k:=d.size;simp only[Xm]at k;exact⟨⟨by omega,(g.of i).cell 0⟩,by omega,(f.of j).cell 0⟩
theorem afW(w:U)(c1 c2 c3 c4:Array KX)(t1 t2 t3 t4:TypeId):∃g,g = (((w.alloc (FL c1 t1)).alloc (FL c2 t2)).alloc (FL c3 t3)).alloc (FL c4 t4)/\Bw w g/\
  ∀W,Nw w g W->(M (H w)<M (H W)/\Am W (aD (M (H w)) 0)=c1[0]?)/\(M (H w)+1<M (H W)/\Am W (aD (M (H w)+1) 0)=c2[0]?)/\(M (H w)+2<M (H W)/\Am W (aD (M (H w)+2) 0)=c3[0]?)/\M (H w)+3<M (H W)/\Am W (aD (M (H w)+3) 0)=c4[0]?:=by
 obtain⟨x,i,d,k⟩:=Oa w c1 c2 t1 t2;obtain⟨y,hy,a,l⟩:=Oa x c3 c4 t3 t4;have f:M (H x)=M (H w)+2:=by rw[i];simp
 have j:M (H y)=M (H w)+4:=by rw[hy];simp[f]
 refine⟨y,by rw[hy,i],d.trans (a.mono d.size),λW e=>?_⟩;obtain⟨p,q⟩:=k W ⟨e.os.trans a.os,e.tape.trans a.tape,e.output.trans a.output,Q6 a.size e.size,λb m n=>(e.block b (by omega) n).trans (a.block b m)⟩;obtain⟨a3,a4⟩:=l W (e.more d.size);grind
def ai5(t:aJ)(w:U) :
  Calls V 117 #[t.val] w λe d=>∃v,e=FR v/\Bw w d/\∀W,Nw w d W->bL W t.ad t.rs->eT ah V v (t.rs.map (·.xs)) W:=by
 obtain⟨b,cap,a⟩:=t;unfold aJ.val;simp only at*;have g:=Zh (bJ w (FL #[Z b (N a) cap] 30));have i:Wl (∀W,Nw w (w.alloc (FL #[Z b (N a) cap] 30)) W->bL W b a->eT ah V (.func (.func 158) #[] #[Y (O (aD (M (H w)) 0))]) (a.map (·.xs)) W):=λW f h=>by have j:=f.size;simp only[Xm]at j;exact⟨_,_,rfl,X9 Tryz.func158 (by kernel_rfl) rfl,aeZ (M (H w)) b cap a _ (by omega) (f.cell (Qs _) (by simp)) h⟩
 go_enter Tryz.func117,Tryz.ntmps117;go_wp2;go_ret;exact⟨_,rfl,g.o,i.o⟩
def ai6(gl gr:Nat)(qp ql:Array KX)(L R:List (List Int))(w:U)(hR:N R<=1000000)(PX:∀a∈L,N a<=1000)(hRl:∀a∈R,N a<=1000) :
  Calls V 164 #[.func (.func gl) #[] qp,.func (.func gr) #[] ql] w λe l=>∃v,e=FR v/\Bw w l/\∀W,Nw w l W->eT ah V (.func (.func gl) #[] qp) L W->eT ah V (.func (.func gr) #[] ql) R W->eT ah V v (jh L R) W:=by
 obtain⟨n,b,i,j⟩:=Oa w #[.func (.func gl) #[] qp] #[.func (.func gr) #[] ql] 70 70;have m:Wl (∀W,Nw w n W->eT ah V (.func (.func gl) #[] qp) L W->eT ah V (.func (.func gr) #[] ql) R W->eT ah V (.func (.func 180) #[] #[Y (O (aD (M (H w)+1) 0)),Y (O (aD (M (H w)) 0))]) (jh L R) W):=λW B C D=>by obtain⟨_,_,p,d,f⟩:=C;obtain⟨_,_,q,g,r⟩:=D;cases p;cases q;obtain⟨⟨t,u⟩,y,z⟩:=j W B;exact⟨_,_,rfl,X9 Tryz.func180 (by kernel_rfl) rfl,ae5 (M (H w)+1) (M (H w)) gr gl ql qp L R _ y t z u r f g d hR PX hRl⟩
 obtain⟨A,k⟩:=aV i b;clear i j hR PX hRl b;go_enter Tryz.func164,Tryz.ntmps164;go_wp2;go_ret;refine⟨_,rfl,?_,?_⟩
 .have h:=A.o;rw[k.o]at h;exact h
 .have h:=m.o;rw[k.o]at h;exact h
def ai7(gi:Nat)(jy:Array KX)(c:ae)(rows:List (List Int))(w:U)(h0:0<N c.xs)(hlen:N rows<=1000000)(hin:∀r∈rows,aM c.xs (N r)=T) :
  Calls V 59 #[.func (.func gi) #[] jy,c.val] w λe l=>∃v,e=FR v/\Bw w l/\∀W,Nw w l W->eT ah V (.func (.func gi) #[] jy) rows W->c.At W->eT ah V v (fI c.xs rows) W:=by
 obtain⟨p,d,i,j⟩:=Oa w #[.func (.func gi) #[] jy] #[c.val] 70 23;have n:Wl (∀W,Nw w p W->eT ah V (.func (.func gi) #[] jy) rows W->c.At W->eT ah V (.func (.func 113) #[] #[Y (O (aD (M (H w)) 0)),Y (O (aD (M (H w)+1) 0))]) (fI c.xs rows) W):=λW C D m=>by
  obtain⟨_,_,q,t,f⟩:=D;cases q;obtain⟨⟨u,y⟩,z,A⟩:=j W C;exact⟨_,_,rfl,X9 Tryz.func113 (by kernel_rfl) rfl,R5 ⟨λ_=>rfl,λ_=>rfl,λ_=>rfl,λh=>h⟩ (M (H w)) (M (H w)+1) gi jy c rows _ u z y A m (λa G=>by
   obtain⟨b,off,e,g⟩:=Qg m h0;rw[G]at e;cases e;exact Qj (g 0 h0)) f t hlen hin⟩
 obtain⟨K,L,P⟩:=c;unfold ae.val at*;simp only at*;obtain⟨B,k⟩:=aV i d;clear i j hlen hin h0 d;go_enter Tryz.func59,Tryz.ntmps59;go_wp2;go_ret;refine⟨_,rfl,?_,?_⟩
 .have h:=B.o;rw[k.o]at h;exact h
 .have h:=n.o;rw[k.o]at h;exact h
section
attribute [local go_sem] Oper.semAt_some
def Mw{l Nq w0n:Nat}{Jq:List ae->(Nat->Prop)->U->Prop}{all:List (List Int)}
  (hJ:∀pre o1 A B,Jq pre o1 A->Kept (λb=>o1 b∨b<Nq) A B->Jq pre o1 B)
  (hY:∀pre x o1 W1,Jq pre o1 W1->(pre++[x]).map (lF 3 lo).key <+: all->(lF 3 lo).At x W1->(∀b,(lF 3 lo).aT x=O b->¬o1 b/\(b<w0n∨Nq<=b))->Nq<=M (H W1)->
   YieldAt Fence.wide 0 V l #[(lF 3 lo).enc x] W1 λe W'=>e=FR (EP T)/\∃i,Jq (pre++[x]) i W'/\Kept (λb=>¬o1 b) W1 W'/\
    ∀b,i b->o1 b∨(M (H W1)<=b/\b<M (H W'))∨((lF 3 lo).aT x=O b/\Nq<=b))
  {g:fZ} {oj:Nat->Prop} (hj:Jq zs oj A) (hoA:∀b,oj b->b<M (H A)) (hNA:Nq<=M (H A)) (hlo:lo<=Nq) (hpre:zs.map ae.xs++[g.gr.row] <+: all) (hl:N (g.k.xs++[(g.cnt:Int)]++g.ss)<=1000)
  (v3:KX) (w3:U) (hown:w3.ownsRow (M (H A)) 3 1 v3 (N (g.k.xs++[(g.cnt:Int)]++g.ss)) ((g.k.xs++[(g.cnt:Int)]++g.ss).map (Value.int J))) (hb3:Bw A w3) :
  ∃m n j,v3=Z m (N j) n/\j=g.gr.row/\∃r tmps a d,(Instr.yield l #[Z m (N j) n]).run V w3=.ok (.round l r tmps a d) w3/\
   RoundIn Fence.wide 0 V l r tmps a d w3 λe W'=>e=FR (EP T)/\∃i,Jq (zs++[⟨m,n,j⟩]) i W'/\Kept (λb=>¬oj b) w3 W'/\∀b,i b->oj b∨(M (H A)<=b/\b<M (H W')):=by
 obtain⟨p,rfl,u,v,q⟩:=jN hown (by omega);have z:=hb3.size;have C:=hJ _ _ _ _ hj (ZA hb3 (λb f _=>f));obtain⟨r,tmps,a,d,hy,t⟩:=hY zs p oj w3 C (by
  have e:(zs++[p]).map (lF 3 lo).key=zs.map ae.xs++[g.gr.row]:=by rw[Ql];show _++[p.xs]=_;rw[u];rfl
  rw[e];exact hpre) ⟨v,λb f=>by have:=q b f;omega⟩ (λb f=>⟨λh=>by have:=hoA b h;have:=q b f;omega,.inr (by have:=q b f;omega)⟩) (by omega)
 obtain⟨m,n,j⟩:=p;refine⟨m,n,j,rfl,u,r,tmps,a,d,hy,t.mono ?_⟩;rintro e W' ⟨rfl,i,K,y,L⟩;have D:=y.size;refine⟨rfl,i,K,y,λb f=>?_⟩;rcases L b f with h|h|⟨h,_⟩
 .exact .inl h
 .exact .inr ⟨by omega,h.2⟩
 .have P:=ah.AV v.1 h;have G:=q b h;exact .inr ⟨G,by omega⟩
def Tc(lo:Nat)(bi bk bs gi:Nat)(jy:Array KX)(kc sc:ae)(rows:List (List Int))(w0:U)(hbi:bi<M (H w0))(hbk:bk<M (H w0))(hbs:bs<M (H w0))
  (hci:Am w0 (aD bi 0)=O (.func (.func gi) #[] jy)) (hck:Am w0 (aD bk 0)=O kc.val) (hcs:Am w0 (aD bs 0)=O sc.val) (hkc:kc.At w0) (hsc:sc.At w0) (hkl:N kc.xs<=4) (hsl:N sc.xs<=4)
  (hseq:Seq ah V gi jy rows w0) (GU:∀args w,(callFunc gi args).run V w=.ok (.enter gi args) w) (hlen:N rows<=1000000) (Co:∀r∈rows,aM kc.xs (N r)=T) (Cq:∀r∈rows,aM sc.xs (N r)=T) (hsm:∀r∈rows,∀v∈r,dW v) (hlo:lo<=M (H w0)) :
  Seq (lF 3 lo) V 126 #[Y (O (aD bk 0)),Y (O (aD bs 0)),Y (O (aD bi 0))] ((l7 kc.xs sc.xs rows).map Gr.row) w0:=by
 intro l Jq W o hW ho hJ hY h0;obtain⟨w1,aY⟩:∃x,W.alloc (FL #[.func (.yield l) #[] #[]] 108)=x:=⟨_,rfl⟩;have bN:Bw W w1:=by rw[<-aY];exact bJ _ _
 have s1:M (H w1)=M (H W)+1:=by rw[<-aY];simp
 have y1:Am w1 (aD (M (H W)) 0)=O (.func (.yield l) #[] #[]):=by rw[<-aY];simp
 obtain⟨w2,aZ⟩:∃x,w1.alloc (FL #[Y E5] 177)=x:=⟨_,rfl⟩;have bO:Bw w1 w2:=by rw[<-aZ];exact bJ _ _
 have s2:M (H w2)=M (H W)+2:=by rw[<-aZ];simp[s1]
 have x2:w2.heap[M (H W)+1]? = O (FL #[Y E5] 177):=by rw[<-aZ,<-s1];exact ZF _ _
 have y2:Am w2 (aD (M (H W)) 0)=O (.func (.yield l) #[] #[]):=cB bO y1;have mH:Bw W w2:=bN.trans (bO.mono bN.size);have bP:Bw w0 w2:=hW.trans (mH.mono hW.size);have c1:Am w2 (aD bk 0)=O kc.val:=(bP.cell (p:=(aD bk 0)) hbk).trans hck;have c2:Am w2 (aD bs 0)=O sc.val:=(bP.cell (p:=(aD bs 0)) hbs).trans hcs;have c3:Am w2 (aD bi 0)=O (.func (.func gi) #[] jy):=(bP.cell (p:=(aD bi 0)) hbi).trans hci;have dF:Jq [] o w2:=hJ _ _ _ _ h0 (ZA mH (λb d _=>d));have bz:Kept (λb=>¬o b/\b<M (H W)) W w2:=ZA mH (λb d _=>d);have dG:¬o (M (H W)+1)/\¬o (M (H W)):=⟨λh=>by have:=(ho _ h).2;omega,λh=>by have:=(ho _ h).2;omega⟩;have HY:Wl _:=hY;have HO:Wl _:=ho;have HW:Wl _:=hW;have HJ:Wl _:=hJ;have vH:Wl _:=hsl;have aO:Wl _:=hkl;have bI:Wl _:=hlen;have fe:Wl _:=Co;have bQ:Wl _:=Cq;have N9:Wl _:=hsm;have fo:Wl _:=hkc;have Y8:Wl _:=hsc;have Cu:Wl (lo<=M (H W)):=Q6 hlo hW.size;have R9:Wl (bi<M (H w0)/\bk<M (H w0)/\bs<M (H w0)):=⟨hbi,hbk,hbs⟩;have Ib:Wl (Am w0 (aD bk 0)=O kc.val/\Am w0 (aD bs 0)=O sc.val):=⟨hck,hcs⟩;have dI:Wl _:=s2;have dJ:Wl _:=x2;have dK:Wl _:=y2;have dL:Wl _:=dF;have ry:Wl _:=bz;have Mo:Wl (¬o (M (H W)+1)/\¬o (M (H W))):=dG;have iJ:Wl (∀b,o b->o b∨(M (H W)<=b/\b<M (H w2))):=λb h=>.inl h;have bR:=oJ ⟨E5,0,[]⟩ (N sc.xs) w2 hsl;have fq:Am w2 (aD (M (H W)+1) 0)=O (Y E5):=Jc x2 rfl;have fu:w2.frozen? (aD (M (H W)+1) 0)=false:=jM x2 0;have fw:Wl _:=aY;have fA:Wl _:=aZ;clear hY ho hW hJ hlen Co Cq hsm hkc hsc hci hck hcs hbi hbk hbs hkl hsl hlo s1 s2 x2 y1 y2 dF bz dG bN bO mH h0 aY aZ;obtain⟨nU,eQ,t⟩:=kc;obtain⟨ni,dV,y⟩:=sc;unfold ae.val at*;simp only at*;refine(ZG (n:=0)).1 (Z0 Tryz.func126 rfl trivial ?_ rfl);simp only[Tryz.ntmps126,ZN,QJ,ZO,Nat.reduceAdd,Nat.reduceSub,ZP,ZQ,ZR,ZT,ZU,ZV];gi_upto_region 2 with fail;rw[fw.o,fA.o];by_cases aL:t=[]
 case' pos=>
  have dM:((N t:Int)==0)=true:=by rw[aL];rfl
  have zz:Wl (t=[]):=aL;clear aL;gi_wp2_with fail;refine⟨trivial,rfl,ZG.2 (bR.mono ?_)⟩;rintro e z ⟨rfl,bG,eP,ai,bA⟩;have az:z.heap[M (H W)+1]? = O (FL #[Y E5] 177):=(ai.block _ (by have:=dI.o;omega)).trans dJ.o;have iK:Am z (aD (M (H W)+1) 0)=O (Y E5):=Jc az rfl;have iL:z.frozen? (aD (M (H W)+1) 0)=false:=jM az 0;have bK:(qw z (aD (M (H W)+1) 0) (Y (O (aD (M (H w2)+2) 0)))).heap[M (H W)+1]? = O (FL #[Y (O (aD (M (H w2)+2) 0))] 177):=l9 az 0 _;have aA:Kept (λb=>b≠M (H W)+1) w2 (qw z (aD (M (H W)+1) 0) (Y (O (aD (M (H w2)+2) 0)))):=(ZA ai (λb d _=>d)).trans (Xc _ _ _ (λh=>h rfl));have iM:=ZY c3 aA (by have:=R9.o.1;have:=HW.o.size;show bi≠_;omega);have bS:Wl (zM 182 3 177 Jq t y o l W [] (λb=>o b∨b=M (H W)+1∨∃g,O (⟨M (H w2)+2,M (H w2)+1,⟨E5,0,[]⟩,0,List.replicate (N y) 1073741824⟩:fZ)=O g/\g.own b) (qw z (aD (M (H W)+1) 0) (Y (O (aD (M (H w2)+2) 0)))) [] o (O ⟨M (H w2)+2,M (H w2)+1,⟨E5,0,[]⟩,0,List.replicate (N y) 1073741824⟩) []):=by
   have e2:=dI.o;have bL:∀b,(⟨M (H w2)+2,M (H w2)+1,⟨E5,0,[]⟩,0,List.replicate (N y) 1073741824⟩:fZ).own b->b=M (H w2)+2∨b=M (H w2)+1:=λb d=>by
    rcases d with h|h|h
    .exact .inl h
    .exact .inr h
    .cases h
   refine⟨?_,rfl,HJ.o _ _ _ _ dL.o (aA.mono λb _ h=>?_),λ_=>ZI,⟨Mo.o.1,Mo.o.2,λg hg b d h=>?_⟩,bK,λg hg=>?_,λg hg b d=>?_,λg hg=>?_,λh=>(by cases h),ZY dK.o aA (by show M (H W)≠_;omega),ry.o.trans' aA (λb _ h=>by show b≠_;omega),λb h=>.inl h⟩
   .show cK t y=[]++[_]
    unfold cK;rw[Qu zz.o];rfl
   .rcases h with h|h
    .intro e;exact Mo.o.1 (e ▸ h)
    .show b≠_;omega
   .cases hg
    have:=(HO.o b h).2;rcases bL b d with h|h <;> omega
   .cases hg
    refine⟨(yC (show M (H w2)+2≠M (H W)+1 by omega) 0 _).trans bG,(yC (show M (H w2)+1≠M (H W)+1 by omega) 0 _).trans (by rw[List.map_replicate];exact eP),⟨⟨by simp,λi hi=>by simp at hi⟩,λa ha=>(by cases ha),λ_=>rfl⟩,by simp,by simp,⟨λe=>(by cases e),λe=>(by cases e)⟩⟩
   .cases hg
    rcases bL b d with h|h <;> omega
   .cases hg
    exact⟨rM _ _ _ _,Qs _,by rw[zz.o]⟩
  clear eP bG ai bA bK aA bR az;gi_upto_region 4 with fail;gi_cut [14] from 8 (λf wx=>f=.func (.func gi) #[] jy/\∃o1 P,zM 182 3 177 Jq t y o l W [] o1 wx [] o P [])
  case first=>
   gi_wp2_with fail;gi_meet;exact⟨rfl,_,_,bS.o⟩
 case' neg=>
  have dM:((N t:Int)==0)=false:=by have iH:0<N t:=Je.2 aL;simp;omega
  have bS:Wl (zM 182 3 177 Jq t y o l W [] (λb=>o b∨b=M (H W)+1∨∃g,(E5:Option fZ)=O g/\g.own b) w2 [] o E5 []):=by refine⟨?_,rfl,dL.o,λ_=>ZI,⟨Mo.o.1,Mo.o.2,λg hg=>by cases hg⟩,dJ.o,λg hg=>(by cases hg),λg hg=>(by cases hg),λg hg=>(by cases hg),λ_=>rfl,dK.o,ry.o,λb h=>.inl h⟩;show cK t y=[];unfold cK;rw[QC aL]
  clear aL bR;gi_upto_region 4 with fail;gi_cut [14] from 8 (λf wx=>f=.func (.func gi) #[] jy/\∃o1 P,zM 182 3 177 Jq t y o l W [] o1 wx [] o P [])
  case first=>
   gi_wp2_with fail;gi_meet;exact⟨rfl,_,_,bS.o⟩
 all_goals
  obtain⟨rfl,o0,iT,bH⟩:=hcut;have dN:M (H W)+2<=M (H wc):=by have:=(ZH.1 bH.box).1;omega
  have fB:Bw w0 wc:=HW.o.trans (bH.kept.below HW.o.size (λb d=>⟨λh=>by have:=(HO.o b h).1;omega,by have:=HW.o.size;omega⟩));have aI:Wl _:=bH;have Mc:Wl _:=dN;clear bH dN c1 c2 dM fq fu;gi_wp2_with fail;refine oz ah (gf:=gi) (lb:=jy) rfl GU hseq fB rfl
   (λR o1 W'=>∃zs oj P dn,zM 182 3 177 Jq t y o l W R o1 W' zs oj P dn)
   o0 ?_ ?_ ⟨_,_,_,_,aI.o⟩
   (λx=>{ tmps:=#[.func (.yield l) #[] #[],Y (O (aD bk 0)),Y (O (aD bs 0)),Y (O (aD bi 0)),Y (O (aD (M (H W)) 0)),Y (O (aD (M (H W)+1) 0)),x.val,undef,u8,u9,u10,u11,u12,u13,.func (.func gi) #[] jy,x.val,u16,u17,u18,u19,u20,u21,u22,u23,u24,u25,u26,u27,u28,u29,u30,u31,u32,u33,u34,u35,u36,u37,u38,u39,u40,u41,u42,u43,u44,u45,u46,u47,u48,u49,u50],defers:=[] }) ?assign ?body ?done
  .intro b d;have h0:=HW.o.size;have h5:=Mc.o;rcases (aI.o.iff b).1 d with h|h|⟨g,hg,h⟩
   .exact⟨(HO.o b h).1,by have:=(HO.o b h).2;omega⟩
   .omega
   .have Q:=aI.o.low g hg b h;exact⟨by omega,(aI.o.at' g hg).lt h⟩
  .rintro R o1 A B ⟨zs,oj,P,dn,h⟩ hk;exact⟨zs,oj,P,dn,h.keep HJ.o Mc.o hk⟩
  case assign=>
   intro l x W K hK;gi_wp2;exact hK
  case body=>
   rintro l2 R x o1 u ⟨zs,oj,P,dn,hM⟩ aH hx ag gX;have bT:x.xs∈rows:=kW aH;have dO:N R+1<=1000000:=by have Q:=aH.length_le;rw[Q8,QI]at Q;have h2:=bI.o;simp at Q;omega
   have fC:=HW.o.size;have av:Bw w0 u:=HW.o.trans (hM.kept.below HW.o.size (λb d=>⟨λh=>by have:=(HO.o b h).1;omega,by omega⟩));have dP:M (H W)+2<=M (H u):=by have:=Mc.o;omega
   have d1:Am u (aD bk 0)=O (Z nU (N t) eQ):=(av.cell (p:=(aD bk 0)) R9.o.2.1).trans Ib.o.1;have d2:Am u (aD bs 0)=O (Z ni (N y) dV):=(av.cell (p:=(aD bs 0)) R9.o.2.2).trans Ib.o.2;have aP:=G7 x ⟨nU,eQ,t⟩ u hx.1 (Qt av fo.o) (fe.o _ bT) (show N t<=1000 by have:=aO.o;omega);have aj:N (aB x.xs t)=N t:=by simp[aB]
   obtain⟨C,bf⟩:∃X,u.alloc (FL ((aB x.xs t).map (Value.int J)).toArray 3)=X:=⟨_,rfl⟩;have ai:Bw u C:=by rw[<-bf];exact bJ _ _
   have bA:M (H C)=M (H u)+1:=by rw[<-bf];simp
   have bU:(gJ 3).At ⟨O (aD (M (H u)) 0),N (aB x.xs t),aB x.xs t⟩ C:=by rw[<-bf];exact BQ u _ _ (by rw[aj];have:=aO.o;omega)
   rw[aj]at bU;simp only at aP;rw[bf]at aP;have Y0:zM 182 3 177 Jq t y o l W R o1 C zs oj P dn:=hM.keep HJ.o (Qs _) (ZA ai (λb d _=>d));have az:ah.At x C:=ah.keep hx ai.size (λb d _=>ai.block b d);have zN:Bw w0 C:=av.trans (ai.mono av.size);have e1:Am C (aD bk 0)=O (Z nU (N t) eQ):=cB ai d1;have e2:Am C (aD bs 0)=O (Z ni (N y) dV):=cB ai d2;have dQ:((R++[x]).map ae.xs).foldl (iI t y) (cK t y)=iI t y (dn++(P.map fZ.gr).toList) x.xs:=by rw[Ql,Zv,hM.fold];rfl
   have HX:Wl _:=hx;have aQ:Wl _:=az;have Im:Wl _:=ag;have HM:Wl _:=hM;have NY:Wl (zM 182 3 177 Jq t y o l W R o1 C zs oj P dn):=Y0;have F3:Wl _:=bU;have aR:Wl (Bw u C):=ai;have DY:Wl _:=bA;have xG:Wl (Bw w0 C):=zN;have HF:Wl _:=dQ;have fD:Wl _:=aH;have ay:Wl _:=bT;have Bt:Wl _:=dO;have Cx:Wl _:=dP;have bV:=Y0.yld;have aJ:=Y0.box;clear hx az ag hM Y0 bU ai bA zN dQ aH bT dO bf aj fC av gX dP
   cases P with
   |none =>
    have Td:=oJ ⟨O (aD (M (H u)) 0),N t,aB x.xs t⟩ (N y) C vH.o;have aj:N (aB x.xs t)=N t:=by simp[aB]
    unfold ae.val at Td;simp only[aj]at Td;have fE:dn=[]:=HM.o.nil rfl;subst fE;have bW:Am C (aD (M (H W)+1) 0)=O (Y E5):=Jc aJ rfl;have dR:=λ(B D:U)=>@Ta 182 3 177 Jq t y o l W R x C B D zs oj [] ⟨O (aD (M (H u)) 0),N t,aB x.xs t⟩ HJ.o HF.o NY.o.told NY.o.j ⟨NY.o.off.1,NY.o.off.2.1⟩
     (λb d=>by
      rcases NY.o.new b d with h|h
      .have:=(HO.o b h).2;have:=DY.o;have:=Cx.o;omega
      .exact h.2) rfl F3.o.1 (λb d=>by
      have af:O (M (H u))=O b:=d;cases af;refine⟨Cx.o,λh=>?_⟩;rcases HM.o.new _ h with h|h
      .have:=(HO.o _ h).2;have:=Cx.o;omega
      .omega) (Y E5) aJ bV NY.o.kept NY.o.new
    have dS:Wl _:=dR;have Pb:Wl _:=aj;have Ig:Wl _:=aJ;clear dR aj aJ;obtain⟨fO,bF,gM⟩:=x;simp only at*;gi_wp2_with fail;refine⟨trivial,rfl,Z4 l2 (ZG.2 (aP.mono ?_))⟩;rintro e C ⟨rfl,rfl⟩;gi_wp2_with fail;refine⟨trivial,?_⟩;gi_wp2_with fail;refine⟨trivial,rfl,Z4 l2 (ZG.2 (Td.mono ?_))⟩;rintro e m ⟨rfl,dw,gY,q,dx⟩;have bX:m.heap[M (H W)+1]? = O (FL #[Y E5] 177):=(q.block _ (by have:=DY.o;have:=Cx.o;omega)).trans Ig.o;have iN:Am m (aD (M (H W)+1) 0)=O (Y E5):=Jc bX rfl;have iO:m.frozen? (aD (M (H W)+1) 0)=false:=jM bX 0;have fF:=cB q e2;have fG:Wl _:=dw;have fH:Wl _:=gY;have wQ:Wl (Bw C m):=q;have bY:Wl _:=dx;have fI:Wl _:=bX;gi_upto_region 12 with fail;have S:Kept (λb=>b≠M (H W)+1) m (qw m (aD (M (H W)+1) 0) (Y (O (aD (M (H C)+2) 0)))):=Xc _ _ _ (λh=>h rfl);have fJ:Am (qw m (aD (M (H W)+1) 0) (Y (O (aD (M (H C)+2) 0)))) (aD (M (H W)+1) 0)=O (Y (O (aD (M (H C)+2) 0))):=Jc (l9 fI.o 0 _) rfl;obtain⟨G,dz⟩:∃X,qw m (aD (M (H W)+1) 0) (Y (O (aD (M (H C)+2) 0)))=X:=⟨_,rfl⟩;rw[dz]at S fJ ⊢;have fK:Wl _:=dz;clear dz;have iP:=ZY fF S (by have:=R9.o.2.2;have:=HW.o.size;show bs≠_;omega);have bB:Kept (λb=>b≠M (H W)+1) C G:=(ZA wQ.o (λb d _=>d)).trans S;have dX:∀b,ah.aT ⟨fO,bF,gM⟩=O b->b≠M (H W)+1:=λb d e=>(Im.o b d).1 ((HM.o.iff b).2 (.inr (.inl e)));have bC:ah.At ⟨fO,bF,gM⟩ G:=ah.keep aQ.o bB.size (λb d aF=>bB.block b d (dX b aF));have Wj:Bw w0 G:=xG.o.trans (bB.below xG.o.size (λb d=>by have:=HW.o.size;show b≠_;omega));have aG:=rA (M (H C)+2) (M (H C)+1) (Z (O (aD (M (H u)) 0)) (N t) (N t)) 0 (List.replicate (N y) 1073741824) ⟨fO,bF,gM⟩ ⟨ni,dV,y⟩ G (by omega)
     ((S.block _ (by have:=bY.o;omega) (by have:=DY.o;have:=Cx.o;show M (H C)+2≠_;omega)).trans fG.o) ((S.block _ (by have:=bY.o;omega) (by have:=DY.o;have:=Cx.o;show M (H C)+1≠_;omega)).trans (by rw[List.map_replicate];exact fH.o)) (by simp) vH.o
     bC.1 (Qt Wj Y8.o) (λa ha=>by
      have Q:a.block<M (H C):=aQ.o.2.1 a ha;omega)
     (λh0 a ha=>by
      obtain⟨b',o',e,hc⟩:=Y8.o.2 0 h0;have Q:(O a:Option Addr)=O (aD b' o'):=ha.symm.trans e;cases Q;have h2:b'<M (H w0):=ZJ (p:=(aD b' (o'+0))) hc;have:=xG.o.size;show b'≠_/\b'≠_;omega) (bQ.o _ ay.o) (by omega) (zy (rM 0 0 iz (N y)) (by show 0<=1000000;omega)) (λv hv=>by have:=N9.o _ ay.o v hv;unfold dW at this;unfold Kl;omega)
    have aC:Wl (∀(D:U) (a4:Act),D.heap[M (H C)+2]? = O (FL #[Z (O (aD (M (H u)) 0)) (N t) (N t),I J (0+1:Nat),Z (O (aD (M (H C)+1) 0)) (N y) (N y)] 182)->D.heap[M (H C)+1]? = O (FL ((ik (List.replicate (N y) 1073741824) gM y).map (Value.int J)).toArray 3)->
      Kept (λb=>b≠M (H C)+2/\b≠M (H C)+1) G D->iy ah (λR o1 W'=>∃zs oj P dn,zM 182 3 177 Jq t y o l W R o1 W' zs oj P dn) R ⟨fO,bF,gM⟩ (M (H wc)) o1 u .normal a4 D):=λD a4 hg hs xn=>by
     have hh:=dS.o m D wQ.o bY.o (by unfold ae.val;simp only[Pb.o];exact hg) hs (by rw[fK.o];exact xn) (N9.o _ ay.o) (by have:=DY.o;have:=Cx.o;omega);refine⟨_,⟨_,_,_,_,hh.1⟩,((ZA aR.o (λb d _=>d)).trans hh.2).mono (λb _ h e=>h ((HM.o.iff b).2 (.inr (.inl e)))),?_⟩;rintro b (d|d|⟨g,hg,d⟩)
     .exact .inl ((HM.o.iff b).2 (.inl d))
     .exact .inl ((HM.o.iff b).2 (.inr (.inl d)))
     .right;left;have Q:=(hh.1.at' g hg).lt d
      cases hg;have h3:=DY.o;rcases d with d|d|d
      .exact⟨by have af:b=M (H C)+2:=d;omega,Q⟩
      .exact⟨by have af:b=M (H C)+1:=d;omega,Q⟩
      .have af:O (M (H u))=O b:=d
       cases af;exact⟨Qs _,Q⟩
    clear S bB dX bC Wj dS;unfold ae.val;gi_wp2_with fail;refine⟨trivial,rfl,Z4 l2 (ZG.2 (aG.mono ?_))⟩;rintro e D ⟨⟨v9,rfl⟩,bg,bn,bq,eT⟩;gi_wp2_with fail;exact aC.o D _ bg bn bq
   |some g =>
    have hA:=NY.o.at' g rfl;have ax:=NY.o.fits g rfl;have bW:Am C (aD (M (H W)+1) 0)=O (Y (O (aD g.gb 0))):=Jc aJ rfl;have iQ:Am C (aD g.gb 0)=O g.k.val:=Jc hA.cells rfl;have aj:N (aB x.xs t)=N t:=by simp[aB]
    have aS:=LM (O (aD (M (H u)) 0)) g.k.ad (N t) g.k.cap (aB x.xs t) g.k.xs C F3.o.1.1 hA.key.1;rw[aj]at aS;have HA:Wl _:=hA;have aU:Wl _:=ax;have Pb:Wl _:=aj;clear hA ax aj aJ;by_cases aN:aB x.xs t=g.k.xs
    .rw[QD aN]at aS;have aC:Wl (∀(m D:U) (a4:Act),Bw C m->D.heap[g.gb]? = O (FL #[g.k.val,I J (g.cnt+1:Nat),Z (O (aD g.sb 0)) (N y) (N y)] 182)->D.heap[g.sb]? = O (FL ((ik g.ss x.xs y).map (Value.int J)).toArray 3)->
       Kept (λb=>b≠g.gb/\b≠g.sb) m D->iy ah (λR o1 W'=>∃zs oj P dn,zM 182 3 177 Jq t y o l W R o1 W' zs oj P dn) R x (M (H wc)) o1 u .normal a4 D):=λm D a4 q hg hs xn=>by
      have fM:=NY.o.keep HJ.o (show M (H W)+2<=M (H C) by have:=DY.o;have:=Cx.o;omega) (ZA q (λb d _=>d));have hD:=agz fM HJ.o HF.o aN.symm hg hs xn (N9.o _ ay.o);refine⟨o1,⟨_,_,_,_,hD⟩,((ZA aR.o (λb d _=>d)).trans (ZA q (λb d _=>d))).trans' xn (λb _ h=>⟨λe=>h ?_,λe=>h ?_⟩),λb h=>.inl h⟩
      .exact(HM.o.iff b).2 (.inr (.inr ⟨g,rfl,.inl e⟩))
      .exact(HM.o.iff b).2 (.inr (.inr ⟨g,rfl,.inr (.inl e)⟩))
     have fP:Wl (∀m:U,Bw C m->Calls V 130 #[Y (O (aD g.gb 0)),x.val,Z ni (N y) dV] m λe w'=>(∃v,e=FR v)/\
       w'.heap[g.gb]? = O (FL #[g.k.val,I J (g.cnt+1:Nat),Z (O (aD g.sb 0)) (N y) (N y)] 182)/\w'.heap[g.sb]? = O (FL ((ik g.ss x.xs y).map (Value.int J)).toArray 3)/\Kept (λb=>b≠g.gb/\b≠g.sb) m w'/\M (H w')=M (H m)):=λm q=>by
      have au:=HA.o.keep (ZA (s:=λ_=>True) q (λb d _=>d)) (λ_ _=>trivial);have bM:=NY.o.low g rfl;have Q:=bM g.gb (.inl rfl);have h2:=bM g.sb (.inr (.inl rfl));exact rA g.gb g.sb g.k.val g.cnt g.ss x ⟨ni,dV,y⟩ m au.ne au.cells au.sums au.len vH.o (ah.keep aQ.o q.size (λb d _=>q.block b d)).1 (Qt (xG.o.trans (q.mono xG.o.size)) Y8.o)
       (λa ha=>by
        have d:ah.aT x=O a.block:=by show Option.map _ _=_;rw[ha];rfl
        have dY:=(Im.o _ d).1;exact⟨λe=>dY ((HM.o.iff _).2 (.inr (.inr ⟨g,rfl,.inl e⟩))),λe=>dY ((HM.o.iff _).2 (.inr (.inr ⟨g,rfl,.inr (.inl e)⟩)))⟩)
       (λh0 a ha=>by
       obtain⟨b',o',e,hc⟩:=Y8.o.2 0 h0;have Q:(O a:Option Addr)=O (aD b' o'):=ha.symm.trans e;cases Q;have h2:b'<M (H w0):=ZJ (p:=(aD b' (o'+0))) hc;have:=HW.o.size;skip
       show b'≠_/\b'≠_;omega)
       (bQ.o _ ay.o) (by have:=aU.o.2.1;have:=Bt.o;omega) (zy aU.o.1 (by have:=aU.o.2.1;have:=Bt.o;omega)) (λv hv=>by have:=N9.o _ ay.o v hv;unfold dW at this;unfold Kl;omega)
     clear aN;obtain⟨gb,sb,⟨eU,sS,eX⟩,cnt,ss⟩:=g;obtain⟨fO,bF,gM⟩:=x;unfold ae.val at*;simp only at*;gi_wp2_with fail;refine⟨trivial,rfl,Z4 l2 (ZG.2 (aP.mono ?_))⟩;rintro e C ⟨rfl,rfl⟩;gi_wp2_with fail;refine⟨trivial,rfl,Z4 l2 (ZG.2 (aS.mono ?_))⟩;rintro e m ⟨rfl,q⟩;obtain⟨q1,q2⟩:=gy q bW e2;gi_wp2_with fail;refine⟨trivial,rfl,Z4 l2 (ZG.2 (XO (fP.o m q) ?_))⟩;rintro e D ⟨⟨v9,rfl⟩,bg,bn,bq,eT⟩;gi_wp2_with fail;exact aC.o m D _ q bg bn bq
    .rw[QX aN]at aS;have hkl:N g.k.xs<=4:=by rw[aU.o.2.2];exact aO.o
     have fQ:g.cnt<=1000000:=by have:=aU.o.2.1;have:=Bt.o;omega
     have fT:N g.ss=N y:=HA.o.len;have fU:N (g.k.xs++[(g.cnt:Int)]++g.ss)<=1000:=by have:=vH.o;simp;omega
     have aV:∀b,oj b->b<M (H u):=λb d=>by
      rcases HM.o.new b d with h|h
      .have:=(HO.o b h).2;have:=Cx.o;omega
      .exact h.2
     have fV:Wl (zs.map ae.xs++[g.gr.row] <+: (l7 t y rows).map Gr.row):=by show _ <+: _;rw[HM.o.told];have Q:=S9 (kc:=t) (sc:=y) fD.o HM.o.fold (λe=>aN e.symm);have h2:=List.IsPrefix.map Gr.row Q;rw[Ql]at h2;exact h2
     have gm:Wl (∀m:U,Bw C m->Calls V 124 #[Y (O (aD g.gb 0))] m.drew λe w'=>∃v,e=FR v/\w'.ownsRow (M (H m)) 3 1 v (N (g.k.xs++[(g.cnt:Int)]++g.ss)) ((g.k.xs++[(g.cnt:Int)]++g.ss).map (Value.int J))/\Below (M (H m)) m.drew w'):=λm q=>by have au:=HA.o.keep (ZA (s:=λ_=>True) (q.drew) (λb d _=>d)) (λ_ _=>trivial);exact wL g.gb g.sb g.k g.cnt g.ss m.drew (by rw[au.len];exact au.cells) au.sums au.key.1 au.key.2.2 hkl (by rw[fT];exact vH.o) fQ
     have bZ:Wl (∀(m:U) (v3:KX) (z:U),Bw C m->z.ownsRow (M (H m)) 3 1 v3 (N (g.k.xs++[(g.cnt:Int)]++g.ss)) ((g.k.xs++[(g.cnt:Int)]++g.ss).map (Value.int J))->Below (M (H m)) m.drew z->
       ∃qF iq Cw,v3=Z qF (N Cw) iq/\Cw=g.gr.row/\∃fn tmps assign body,(Instr.yield l #[Z qF (N Cw) iq]).run V z=.ok (.round l fn tmps assign body) z/\
        RoundIn Fence.wide 0 V l fn tmps assign body z λe W'=>e=FR (EP T)/\∃o2,Jq (zs++[⟨qF,iq,Cw⟩]) o2 W'/\Kept (λb=>¬oj b) z W'/\∀b,o2 b->oj b∨(M (H m)<=b/\b<M (H W'))):=λm v3 z q aa L=>
      Mw (A:=m.drew) (g:=g) HJ.o HY.o (NY.o.keep HJ.o (show M (H W)+2<=M (H C) by have:=DY.o;have:=Cx.o;omega) (ZA (q.drew) (λb d _=>d))).j (λb d=>by have Q:=aV b d;have h2:=aR.o.size;have h3:=q.size;show b<M (H m);omega) (by have h2:=aR.o.size;have h3:=q.size;have:=Cx.o;show M (H W)<=M (H m);omega) Cu.o fV.o fU v3 z aa L
     have Td:=λ(A:U)=>oJ ⟨O (aD (M (H u)) 0),N t,aB x.xs t⟩ (N y) A vH.o;unfold ae.val at Td;simp only[Pb.o]at Td;have aC:Wl (∀(m z G B D:U) (a4:Act) (o2:Nat->Prop) (iv:ae),Bw C m->Below (M (H m)) m.drew z->iv.xs=g.gr.row->Jq (zs++[iv]) o2 G->Kept (λb=>¬oj b) z G->(∀b,o2 b->oj b∨(M (H m)<=b/\b<M (H G)))->
       Below (M (H (qw G (aD (M (H W)+1) 0) (Y E5)))) (qw G (aD (M (H W)+1) 0) (Y E5)) B->M (H B)=M (H (qw G (aD (M (H W)+1) 0) (Y E5)))+3->
       D.heap[M (H (qw G (aD (M (H W)+1) 0) (Y E5)))+2]? = O (FL #[Z (O (aD (M (H u)) 0)) (N t) (N t),I J (0+1:Nat),Z (O ⟨M (H (qw G (aD (M (H W)+1) 0) (Y E5)))+1,0,E5⟩) (N y) (N y)] 182)->
       D.heap[M (H (qw G (aD (M (H W)+1) 0) (Y E5)))+1]? = O (FL ((ik (List.replicate (N y) 1073741824) x.xs y).map (Value.int J)).toArray 3)->
       Kept (λb=>b≠M (H (qw G (aD (M (H W)+1) 0) (Y E5)))+2/\b≠M (H (qw G (aD (M (H W)+1) 0) (Y E5)))+1) (qw B (aD (M (H W)+1) 0) (Y (O ⟨M (H (qw G (aD (M (H W)+1) 0) (Y E5)))+2,0,E5⟩))) D->
       iy ah (λR o1 W'=>∃zs oj P dn,zM 182 3 177 Jq t y o l W R o1 W' zs oj P dn) R x (M (H wc)) o1 u .normal a4 D):=λm z G B D a4 o2 iv q L dE dB S aK iD iE iF iG xn=>by
      have z3:=DY.o;have z2:=Cx.o;have z4:=q.size;have z5:M (H m)<=M (H z):=L.size;have z6:=S.size;have zA:M (H (qw G (aD (M (H W)+1) 0) (Y E5)))=M (H G):=by simp[World.setCell]
      have bD:Kept (λ_=>True) C z:=(ZA q.drew (λb d _=>d)).trans (ZA L (λb d _=>d));have kA:Kept (λb=>b≠M (H W)+1) G (qw G (aD (M (H W)+1) 0) (Y E5)):=Xc _ _ _ (λh=>h rfl);have aW:Kept (λb=>¬oj b/\b≠M (H W)+1) C (qw G (aD (M (H W)+1) 0) (Y E5)):=((bD.mono λ_ _ _=>trivial).trans (S.mono λ_ _ h=>h.1)).trans' kA (λ_ _ h=>h.2);have bE:∀b,¬oj b->b<M (H m)->¬o2 b:=λb h d h'=>by
       rcases aK b h' with Q|Q
       .exact h Q
       .omega
      have ag:=NY.o.off;have gp:Jq (zs++[iv]) o2 (qw G (aD (M (H W)+1) 0) (Y E5)):=HJ.o _ _ _ _ dB (kA.mono λb _ h=>by
       rcases h with h|h
       .intro e;exact bE _ ag.1 (by omega) (e ▸ h)
       .show b≠_;omega)
      have gq:(qw G (aD (M (H W)+1) 0) (Y E5)).heap[M (H W)+1]? = O (FL #[Y E5] 177):=by have Q:G.heap[M (H W)+1]? = O (FL #[agy (O g)] 177):=(S.block _ (by omega) ag.1).trans ((bD.block _ (by omega) trivial).trans NY.o.box);exact l9 Q 0 _
      have dZ:¬oj (M (H u)):=λh=>by have:=aV _ h;omega
      have hh:=@Ta 182 3 177 Jq t y o l W R x (qw G (aD (M (H W)+1) 0) (Y E5)) B D (zs++[iv]) o2 (dn++[g.gr]) ⟨O (aD (M (H u)) 0),N t,aB x.xs t⟩ HJ.o
       (by rw[HF.o];exact(rD t y dn g.gr x.xs).trans (QC (λe=>aN e.symm))) (by rw[Ql,Ql,HM.o.told];show _++[iv.xs]=_;rw[dE];rfl) gp ⟨bE _ ag.1 (by omega),bE _ ag.2.1 (by omega)⟩
       (λb d=>by
        rcases aK b d with h|h
        .have:=aV b h;omega
        .omega) rfl (ah.keep F3.o.1 aW.size (λb d hbk=>aW.block b d (by
        have af:O (M (H u))=O b:=hbk;cases af;exact⟨dZ,by omega⟩))) (λb hbk=>by
        have af:O (M (H u))=O b:=hbk;cases af;exact⟨z2,bE _ dZ (by omega)⟩) (Y E5) gq (ZY bV aW ⟨ag.2.1,by show M (H W)≠_;omega⟩)
       (NY.o.kept.trans' aW (λb _ h=>⟨λh'=>by
        rcases HM.o.new b h' with Q|Q
        .exact h.1 Q
        .omega,by show b≠_;omega⟩))
       (λb d=>by
        rcases aK b d with h|h
        .exact(HM.o.new b h).imp id (λh=>⟨h.1,by omega⟩)
        .exact .inr ⟨by omega,by omega⟩) iD iE (by unfold ae.val;simp only[Pb.o];exact iF) iG xn (N9.o _ ay.o) (by omega)
      refine⟨_,⟨_,_,_,_,hh.1⟩,?_,?_⟩
      .refine((ZA aR.o (λb d _=>d)).trans' aW (λb d h=>⟨λh'=>h ((HM.o.iff b).2 (.inl h')),λe=>h ((HM.o.iff b).2 (.inr (.inl e)))⟩)).trans' hh.2 (λb _ h e=>h ((HM.o.iff b).2 (.inr (.inl e))))
      .rintro b (d|d|⟨g',eY,d⟩)
       .rcases aK b d with h|h
        .exact .inl ((HM.o.iff b).2 (.inl h))
        .have:=hh.2.size;exact .inr (.inl ⟨by omega,by omega⟩)
       .exact .inl ((HM.o.iff b).2 (.inr (.inl d)))
       .right;left;have Q:=(hh.1.at' g' eY).lt d
        cases eY;rcases d with d|d|d
        .exact⟨by have af:b=M (H (qw G (aD (M (H W)+1) 0) (Y E5)))+2:=d;omega,Q⟩
        .exact⟨by have af:b=M (H (qw G (aD (M (H W)+1) 0) (Y E5)))+1:=d;omega,Q⟩
        .have af:O (M (H u))=O b:=d
         cases af;exact⟨Qs _,Q⟩
     have Ga:Wl (∀m z G:U,Bw C m->Below (M (H m)) m.drew z->Kept (λb=>¬oj b) z G->G.heap[M (H W)+1]? = O (FL #[Y (O (aD g.gb 0))] 177)/\Bw w0 G/\ah.At x G/\M (H u)<M (H G)/\∀b,ah.aT x=O b->b<M (H G)/\b≠M (H W)+1):=λm z G q L S=>by
      have z3:=DY.o;have z2:=Cx.o;have z4:=q.size;have z5:M (H m)<=M (H z):=L.size;have z6:=S.size;have bD:Kept (λ_=>True) C z:=(ZA q.drew (λb d _=>d)).trans (ZA L (λb d _=>d));have aX:Kept (λb=>¬oj b) C G:=(bD.mono λ_ _ _=>trivial).trans S;have gu:∀b,ah.aT x=O b->¬oj b:=λb d h=>(Im.o b d).1 ((HM.o.iff b).2 (.inl h));refine⟨(aX.block _ (by omega) NY.o.off.1).trans NY.o.box,xG.o.trans (aX.below xG.o.size (λb d h=>?_)),ah.keep aQ.o aX.size (λb d aF=>aX.block b d (gu b aF)),by omega,λb d=>⟨by have:=ah.AV aQ.o d;have:=aX.size;omega,λe=>(Im.o b d).1 ((HM.o.iff b).2 (.inr (.inl e)))⟩⟩;rcases HM.o.new b h with h|h
      .have:=(HO.o b h).1;omega
      .have:=HW.o.size;omega
     obtain⟨gb,sb,⟨eU,sS,eX⟩,cnt,ss⟩:=g;obtain⟨fO,bF,gM⟩:=x;unfold ae.val at*;simp only at*;gi_wp2_with fail;refine⟨trivial,rfl,Z4 l2 (ZG.2 (aP.mono ?_))⟩;rintro e C ⟨rfl,rfl⟩;gi_wp2_with fail;refine⟨trivial,rfl,Z4 l2 (ZG.2 (aS.mono ?_))⟩;rintro e m ⟨rfl,q⟩;obtain⟨q1,qy⟩:=gy q bW bV;gi_upto_region 8 with fail;have cu:Am m.drew (aD (M (H W)) 0)=O (.func (.yield l) #[] #[]):=qy;have gz:Wl _:=gm.o m q;have gB:Wl _:=λ(v3:KX) (z:U)=>bZ.o m v3 z q;have wQ:Wl (Bw C m):=q;have FT:V.follows .mixedOrders=true:=by kernel_rfl
     gi_region_with_o (first|(refine⟨trivial,rfl,Z4 l2 (ZG.2 (XO gz.o ?_))⟩;rintro e z ⟨v3,rfl,aa,L⟩;obtain⟨qF,iq,Cw,rfl,bu,fn,tmps,assign,body,gZ,dA⟩:=gB.o v3 z aa L;have cz:Wl _:=bu;clear bu aa;have gD:=cB L cu)|(refine⟨rfl,dA.mono ?_⟩;rintro e G ⟨rfl,o2,dB,S,aK⟩))
     all_goals
      obtain⟨dC,Wj,bC,iU,dD⟩:=Ga.o m z G wQ.o L S;have c5:Am G (aD (M (H W)+1) 0)=O (Y (O (aD gb 0))):=Jc dC rfl;have t5:G.frozen? (aD (M (H W)+1) 0)=false:=jM dC 0;have F5:Wl _:=λ(B D:U) (a4:Act)=>aC.o m z G B D a4 o2 ⟨qF,iq,Cw⟩ wQ.o L cz.o dB S aK;have cO:(qw G (aD (M (H W)+1) 0) (Y E5)).heap[M (H W)+1]? = O (FL #[Y E5] 177):=l9 dC 0 _;have k6:Kept (λb=>b≠M (H W)+1) G (qw G (aD (M (H W)+1) 0) (Y E5)):=Xc _ _ _ (λh=>h rfl);gi_upto_region 10 with fail;obtain⟨W6,ib⟩:∃X,qw G (aD (M (H W)+1) 0) (Y E5)=X:=⟨_,rfl⟩;rw[ib]at cO k6 F5 ⊢;have ed:Bw w0 W6:=Wj.trans (k6.below Wj.size (λb d=>by have:=HW.o.size;show b≠_;omega));have gF:ah.At ⟨fO,bF,gM⟩ W6:=ah.keep bC k6.size (λb d aF=>k6.block b d (dD b aF).2);have c6:Am W6 (aD (M (H W)+1) 0)=O (Y E5):=Jc cO rfl;have s6:Am W6 (aD bs 0)=O (Z ni (N y) dV):=(ed.cell (p:=(aD bs 0)) R9.o.2.2).trans Ib.o.2;have gG:=Td W6;have cZ:Wl (M (H W)+2<=M (H W6)):=by have:=Cx.o;have:=k6.size;show M (H W)+2<=M (H W6);omega
      have ek:Wl (∀b,ah.aT ⟨fO,bF,gM⟩=O b->b<M (H W6)/\b≠M (H W)+1):=λb d=>⟨by have:=(dD b d).1;have:=k6.size;omega,(dD b d).2⟩;have gH:Wl _:=cO;have gI:Wl _:=gF;have Hz:Wl (Bw w0 W6):=ed;gi_wp2_with fail;refine⟨trivial,rfl,Z4 l2 (ZG.2 (gG.mono ?_))⟩;rintro e W7 ⟨rfl,ic,ig,nW,il⟩;have df:W7.heap[M (H W)+1]? = O (FL #[Y E5] 177):=(nW.block _ (by have:=cZ.o;omega)).trans gH.o;have c7:Am W7 (aD (M (H W)+1) 0)=O (Y E5):=Jc df rfl;have t7:W7.frozen? (aD (M (H W)+1) 0)=false:=jM df 0;have s7:=cB nW s6;have Ry:Wl _:=ic;have gK:Wl _:=ig;have Df:Wl (Bw W6 W7):=nW;have dh:Wl _:=il;have gL:Wl _:=df;gi_upto_region 12 with fail;have k8:Kept (λb=>b≠M (H W)+1) W7 (qw W7 (aD (M (H W)+1) 0) (Y (O (aD (M (H W6)+2) 0)))):=Xc _ _ _ (λh=>h rfl);have c8:Am (qw W7 (aD (M (H W)+1) 0) (Y (O (aD (M (H W6)+2) 0)))) (aD (M (H W)+1) 0)=O (Y (O (aD (M (H W6)+2) 0))):=Jc (l9 gL.o 0 _) rfl;obtain⟨W8,eZ⟩:∃X,qw W7 (aD (M (H W)+1) 0) (Y (O (aD (M (H W6)+2) 0)))=X:=⟨_,rfl⟩;rw[eZ]at k8 c8 ⊢;have gN:Wl _:=eZ;have s8:=ZY s7 k8 (by have:=R9.o.2.2;have:=HW.o.size;show bs≠_;omega);have di:Kept (λb=>b≠M (H W)+1) W6 W8:=(ZA Df.o (λb d _=>d)).trans k8;have gP:ah.At ⟨fO,bF,gM⟩ W8:=ah.keep gI.o di.size (λb d aF=>di.block b d (ek.o b aF).2);have gQ:Bw w0 W8:=Hz.o.trans (di.below Hz.o.size (λb d=>by have:=HW.o.size;show b≠_;omega));have aG:=rA (M (H W6)+2) (M (H W6)+1) (Z (O (aD (M (H u)) 0)) (N t) (N t)) 0 (List.replicate (N y) 1073741824) ⟨fO,bF,gM⟩ ⟨ni,dV,y⟩ W8 (by omega)
       ((k8.block _ (by have:=dh.o;omega) (by have:=cZ.o;show M (H W6)+2≠_;omega)).trans Ry.o) ((k8.block _ (by have:=dh.o;omega) (by have:=cZ.o;show M (H W6)+1≠_;omega)).trans (by rw[List.map_replicate];exact gK.o)) (by simp) vH.o
       gP.1 (Qt gQ Y8.o) (λa ha=>by
        have Q:=(ek.o a.block (by show Option.map _ _=_;rw[ha];rfl)).1;omega)
       (λh0 a ha=>by
        obtain⟨b',o',e,hc⟩:=Y8.o.2 0 h0;have Q:(O a:Option Addr)=O (aD b' o'):=ha.symm.trans e;cases Q;have h2:b'<M (H w0):=ZJ (p:=(aD b' (o'+0))) hc;have:=Hz.o.size;show b'≠_/\b'≠_;omega) (bQ.o _ ay.o) (by omega) (zy (rM 0 0 iz (N y)) (by show 0<=1000000;omega)) (λv hv=>by have:=N9.o _ ay.o v hv;unfold dW at this;unfold Kl;omega)
      unfold ae.val at aG;gi_wp2_with fail;refine⟨trivial,rfl,Z4 l2 (ZG.2 (aG.mono ?_))⟩;rintro e D ⟨⟨v9,rfl⟩,bg,bn,bq,eT⟩;gi_wp2_with fail;exact F5.o W7 D _ Df.o dh.o bg bn (by rw[gN.o];exact bq)
  case done=>
   rintro us o' u U4 ⟨zs,oj,P,dn,hM⟩ bz bG hD;have h5:=Mc.o;have eu:us.map ae.xs=rows:=U4;have Y7:=hM.fold;rw[eu]at Y7;have eB:=bz.size;have gT:¬oj (M (H wc)):=λh=>by
    rcases bG _ ((hM.iff _).2 (.inl h)) with Q|Q
    .rcases (aI.o.iff _).1 Q with h2|h2|⟨g,hg,h2⟩
     .have:=(HO.o _ h2).2;omega
     .omega
     .have:=(aI.o.at' g hg).lt h2;omega
    .omega
   have aV:∀b,oj b->b<M (H u):=λb d=>by
    rcases hM.new b d with h|h
    .have:=(HO.o b h).2;omega
    .exact h.2
   have gU:=hM.yld;have eD:=hM.box;have ak:Wl _:=hM;have HF:Wl _:=Y7;have dm:Wl (¬oj (M (H wc))):=gT;have gV:Wl _:=aV;have Gd:Wl (M (H wc)<=M (H u)):=eB;have eF:Kept (λb=>¬o b) W u:=ak.o.kept.mono λb d h=>⟨h,d⟩
   cases P with
   |none =>
    have c2:Am u (aD (M (H W)+1) 0)=O (Y E5):=Jc eD rfl;gi_wp2;have xn:Kept (λb=>b≠M (H wc)) u (u.putObj (M (H wc)) (.deferred E5)):=ZB _ _ (λh=>h rfl);refine⟨by simp,.inl ⟨_,_,rfl,Z5 hD,?_⟩⟩;refine⟨_,Xa rfl _ _ _,⟨_,rfl⟩,zs,oj,?_,HJ.o _ _ _ _ ak.o.j (xn.mono λb _ h=>?_),eF.trans' xn (λb d _=>by have:=Mc.o;show b≠_;omega),λb h=>(ak.o.new b h).imp id (λh=>⟨h.1,by rw[Xb];omega⟩)⟩
    .show zs.map ae.xs=(l7 t y rows).map Gr.row
     have Q:l7 t y rows=dn++[]:=HF.o;rw[ak.o.told,Q,QN]
    .rcases h with h|h
     .intro e;exact dm.o (e ▸ h)
     .have:=Mc.o;show b≠_;omega
   |some g =>
    have hA:=ak.o.at' g rfl;have ax:=ak.o.fits g rfl;have c2:Am u (aD (M (H W)+1) 0)=O (Y (O (aD g.gb 0))):=Jc eD rfl;have iR:N us<=1000000:=by have:=congrArg N eu;rw[Q8]at this;rw[this];exact bI.o
    have eG:=wL g.gb g.sb g.k g.cnt g.ss u.drew (by rw[hA.len];exact hA.cells) hA.sums hA.key.1 hA.key.2.2 (by rw[ax.2.2];exact aO.o) (by rw[hA.len];exact vH.o) (by have:=ax.2.1;omega);have eH:l7 t y rows=dn++[g.gr]:=HF.o;have bZ:Wl (∀(v3:KX) (z:U),z.ownsRow (M (H u)) 3 1 v3 (N (g.k.xs++[(g.cnt:Int)]++g.ss)) ((g.k.xs++[(g.cnt:Int)]++g.ss).map (Value.int J))->Below (M (H u)) u.drew z->
       ∃qF iq Cw,v3=Z qF (N Cw) iq/\Cw=g.gr.row/\∃fn tmps assign body,(Instr.yield l #[Z qF (N Cw) iq]).run V z=.ok (.round l fn tmps assign body) z/\
        RoundIn Fence.wide 0 V l fn tmps assign body z λe W'=>e=FR (EP T)/\∃o2,Jq (zs++[⟨qF,iq,Cw⟩]) o2 W'/\Kept (λb=>¬oj b) z W'/\∀b,o2 b->oj b∨(M (H u)<=b/\b<M (H W'))):=λv3 z aa L=>
      Mw (A:=u.drew) (g:=g) HJ.o HY.o (HJ.o _ _ _ _ ak.o.j (ZA ((Qr (M (H u)) u).drew) (λb d _=>d))) gV.o (by have:=Gd.o;have:=Mc.o;show M (H W)<=M (H u);omega) Cu.o (by rw[eH,ak.o.told,Ql];exact List.prefix_refl _) (by have:=ax.2.2;have:=aO.o;have:=vH.o;have:=hA.len;simp;omega) v3 z aa L
    have aC:Wl (∀(z m:U) (o2:Nat->Prop) (iv:ae),Below (M (H u)) u.drew z->iv.xs=g.gr.row->Jq (zs++[iv]) o2 m->Kept (λb=>¬oj b) z m->(∀b,o2 b->oj b∨(M (H u)<=b/\b<M (H m)))->
      m.heap[M (H wc)]? = O (.deferred (O []))/\(zs++[iv]).map ae.xs=(l7 t y rows).map Gr.row/\Jq (zs++[iv]) o2 (m.putObj (M (H wc)) (.deferred E5))/\Kept (λb=>¬o b) W (m.putObj (M (H wc)) (.deferred E5))/\∀b,o2 b->o b∨(M (H W)<=b/\b<M (H (m.putObj (M (H wc)) (.deferred E5))))):=λz m o2 iv L dE hj hk hg=>by
     have z1:=Gd.o;have z0:=Mc.o;have z3:M (H u)<=M (H z):=L.size;have z4:=hk.size;have zl:=(ZH.1 hD).1;have eO:Kept (λ_=>True) u z:=(ZA ((Qr (M (H u)) u).drew) (λb d _=>d)).trans (ZA L (λb d _=>d));have xn:Kept (λb=>b≠M (H wc)) m (m.putObj (M (H wc)) (.deferred E5)):=ZB _ _ (λh=>h rfl);have gW:¬o2 (M (H wc)):=λh=>by
      rcases hg _ h with h|h
      .exact dm.o h
      .omega
     refine⟨(hk.block _ (by omega) dm.o).trans ((eO.block _ zl trivial).trans hD),?_,HJ.o _ _ _ _ hj (xn.mono λb _ h=>?_),((eF.trans (eO.mono λ_ _ _=>trivial)).trans' hk (λb d h h'=>?_)).trans' xn (λb d _=>by show b≠_;omega),λb d=>?_⟩
     .rw[eH,Ql,Ql,ak.o.told]
      show _++[iv.xs]=_;rw[dE];rfl
     .rcases h with h|h
      .intro e;exact gW (e ▸ h)
      .show b≠_;omega
     .rcases ak.o.new b h' with Q|Q
      .exact h Q
      .omega
     .rw[Xb];rcases hg b d with h|h
      .exact(ak.o.new b h).imp id (λh=>⟨h.1,by omega⟩)
      .exact .inr ⟨by omega,h.2⟩
    have FT:V.follows .mixedOrders=true:=by kernel_rfl
    have cu:Am u.drew (aD (M (H W)) 0)=O (.func (.yield l) #[] #[]):=gU;obtain⟨gb,sb,⟨eU,sS,eX⟩,cnt,ss⟩:=g;simp only at*;gi_upto_region 14 with fail;gi_region_with_o (first|(refine⟨trivial,rfl,ZG.2 (eG.mono ?_)⟩;rintro e z ⟨v3,rfl,aa,L⟩;obtain⟨qF,iq,Cw,rfl,bu,fn,tmps,assign,body,gZ,dA⟩:=bZ.o v3 z aa L;have cz:Wl _:=bu;clear bu aa;have gD:=cB L cu)|(refine⟨rfl,dA.mono ?_⟩;rintro e m ⟨rfl,o2,Nn,aA,dw⟩))
    all_goals
     obtain⟨iw,dx,iA,iB,iC⟩:=aC.o z m o2 ⟨qF,iq,Cw⟩ L cz.o Nn aA dw;gi_wp2_with fail;refine⟨by simp,.inl ⟨_,_,rfl,Z5 iw,?_⟩⟩;exact⟨_,Xa rfl _ _ _,⟨_,rfl⟩,_,o2,dx,iA,iB,iC⟩
end
def Oj(vi:KX)(k s:ae)(rows:List (List Int))(w:U)(hi:eT ah V vi rows w)(hk:k.At w)(hs:s.At w)(hkl:N k.xs<=4)(hsl:N s.xs<=4)(hlen:N rows<=1000000)(Co:∀r∈rows,aM k.xs (N r)=T)(Cq:∀r∈rows,aM s.xs (N r)=T)(hsm:∀r∈rows,∀v∈r,dW v) :
  Calls V 63 #[vi,k.val,s.val] w λe t=>∃v,e=FR v/\yJ V 3 v ((l7 k.xs s.xs rows).map Gr.row) t/\Bw w t:=by
 obtain⟨a,b,rfl,z,j⟩:=hi;have g:=bJ w (FL #[.func (.func a) #[] b] 70);have d:=bJ (w.alloc (FL #[.func (.func a) #[] b] 70)) (FL #[k.val] 23);have f:=bJ ((w.alloc (FL #[.func (.func a) #[] b] 70)).alloc (FL #[k.val] 23)) (FL #[s.val] 23);have l:=g.trans (d.mono g.size);have i:=l.trans (f.mono l.size);have m:Am (((w.alloc (FL #[.func (.func a) #[] b] 70)).alloc (FL #[k.val] 23)).alloc (FL #[s.val] 23)) (aD (M (H w)) 0)=O (.func (.func a) #[] b):=cB (d.trans (f.mono d.size)) (Jc (iX w (FL #[.func (.func a) #[] b] 70)) rfl);have n:Am (((w.alloc (FL #[.func (.func a) #[] b] 70)).alloc (FL #[k.val] 23)).alloc (FL #[s.val] 23)) (aD (M (H w)+1) 0)=O k.val:=by have h:=iX (w.alloc (FL #[.func (.func a) #[] b] 70)) (FL #[k.val] 23);rw[Xm]at h;exact cB f (Jc h rfl)
 have p:Am (((w.alloc (FL #[.func (.func a) #[] b] 70)).alloc (FL #[k.val] 23)).alloc (FL #[s.val] 23)) (aD (M (H w)+1+1) 0)=O s.val:=by have h:=iX ((w.alloc (FL #[.func (.func a) #[] b] 70)).alloc (FL #[k.val] 23)) (FL #[s.val] 23);rw[Xm,Xm]at h;exact Jc h rfl
 have q:yJ V 3 (.func (.func 126) #[] #[Y (O (aD (M (H w)+1) 0)),Y (O (aD (M (H w)+1+1) 0)),Y (O (aD (M (H w)) 0))]) ((l7 k.xs s.xs rows).map Gr.row) (((w.alloc (FL #[.func (.func a) #[] b] 70)).alloc (FL #[k.val] 23)).alloc (FL #[s.val] 23)):=
  ⟨_,_,rfl,X9 Tryz.func126 (by kernel_rfl) rfl,Tc _ (M (H w)) (M (H w)+1) (M (H w)+1+1) a b k s rows (((w.alloc (FL #[.func (.func a) #[] b] 70)).alloc (FL #[k.val] 23)).alloc (FL #[s.val] 23)) (by simp;omega) (by simp) (by simp) m n p (Qt i hk) (Qt i hs) hkl hsl (Seq.later _ j i) z hlen Co Cq hsm (Qs _)⟩
 obtain⟨A,B,C⟩:=k;obtain⟨D,G,K⟩:=s;unfold ae.val at*;simp only at*;have u:Wl _:=q;have y:Wl _:=i;clear q i g d f l m n p j hk hs hkl hsl hlen Co Cq hsm;go_enter Tryz.func63,Tryz.ntmps63;go_wp2;go_ret;exact⟨_,rfl,u.o,y.o⟩
def ach{β:Type}(f:α->β)(l:List α)(k:Nat)(d:β)(hk:k<N l):E (l.map f) k d=f l[k]:=by simp[List.getD,hk]
theorem Sd(WK:Array KX)(dx:Option Addr)(aP:Nat)(wh:List az)(h1:WK[1]? = O (Z dx (N wh) aP))(g:Nat)(lb:Array KX)(c nums:ae)(rows:List (List Int))(Nq:Int)(w:U)(Ml:bR w dx wh)(hc:c.At w)(hn:nums.At w)(hnl:N nums.xs<=64)
  (afX:∀i∈nums.xs,0<=i/\i<N wh) (fJ:∀i∈nums.xs,∀x∈aG (E wh i.toNat lz).cs,x∈c.xs) (h3:∀i,i<N wh->(E wh i lz).cs.length<=3) (hcond:∀i,i<N wh->∀d∈(E wh i lz).cs,dC d Nq=T) (hlen:∀r∈rows,N r=N c.xs) :
  Calls V 119 #[FN WK,FN #[.func (.func g) #[] lb,c.val],nums.val] w λe w'=>∃g' ay,e=FR (FN #[.func (.func g') #[] ay,c.val])/\Bw w w'/\∀W,Nw w w' W->eT ah V (.func (.func g) #[] lb) rows W->eT ah V (.func (.func g') #[] ay) (rows.filter (jo wh c.xs nums.xs)) W:=by
 obtain⟨B,aA⟩:∃x,w.alloc (FL WK 98)=x:=⟨_,rfl⟩;have aM:Bw w B:=by rw[<-aA];exact bJ _ _
 have s1:M (H B)=M (H w)+1:=by rw[<-aA];simp
 have gw:GB B (M (H w)) 98 WK:=by rw[<-aA];exact iX _ _
 obtain⟨j,aB⟩:∃x,B.alloc (FL #[.func (.func g) #[] lb,c.val] 129)=x:=⟨_,rfl⟩;have aN:Bw B j:=by rw[<-aB];exact bJ _ _
 have s2:M (H j)=M (H w)+2:=by rw[<-aB];simp[s1]
 have gi:GB j (M (H B)) 129 #[.func (.func g) #[] lb,c.val]:=by rw[<-aB];exact iX _ _
 obtain⟨n,aC⟩:∃x,j.alloc (FL #[Value.nilFunc,Z E5 0 0] 129)=x:=⟨_,rfl⟩;have aO:Bw j n:=by rw[<-aC];exact bJ _ _
 have s3:M (H n)=M (H w)+3:=by rw[<-aC];simp[s2]
 have gr:GB n (M (H j)) 129 #[Value.nilFunc,Z E5 0 0]:=by rw[<-aC];exact iX _ _
 obtain⟨w4,aF⟩:∃x,n.alloc (FL #[Z E5 0 0] 24)=x:=⟨_,rfl⟩;have aQ:Bw n w4:=by rw[<-aF];exact bJ _ _
 have s4:M (H w4)=M (H w)+4:=by rw[<-aF];simp[s3]
 have gx:GB w4 (M (H n)) 24 #[Z E5 0 0]:=by rw[<-aF];exact iX _ _
 have uV:=aO.trans (aQ.mono aO.size);have Io:=aN.trans (uV.mono aN.size);have aR:=aM.trans (Io.mono aM.size);have bH:Wl (RI 24 88 wh c.xs nums.xs w4 (M (H n)) 0 (Z E5 0 0) [] w4):=⟨Zx _ _,gx,Xl _ _ _ _,rfl,λm hm=>by cases hm⟩;have bI:=cB Io ((gw.cell 1).trans h1);have bf:Am w4 (aD (M (H B)) 0)=O (.func (.func g) #[] lb):=cB uV (gi.cell 0);have bg:Am w4 (aD (M (H B)) 1)=O c.val:=cB uV (gi.cell 1);have NS:=Qt aR hn;have dh:=NS.1;have bK:Wl _:=hn;obtain⟨sU,EX,bY⟩:=fe aR gr aQ;have HZ:Wl (M (H B)=M (H w)+1/\M (H j)=M (H w)+2/\M (H n)=M (H w)+3/\M (H w4)=M (H w)+4):=⟨s1,s2,s3,s4⟩;have Bh:Wl _:=Ml;have HC:Wl _:=hc;obtain⟨bC,aX,bD,H3,bZ,bE⟩:=Dm hnl afX fJ h3 hcond hlen;clear Ml hc hnl afX fJ h3 hcond hlen aM aN aO aQ Io uV aR s1 s2 s3 s4 gw gi gr gx hn NS h1;obtain⟨Q,R,u⟩:=c;obtain⟨dz,dA,VW⟩:=nums;unfold ae.val at*;simp only at*;go_enter Tryz.func119,Tryz.ntmps119;go_wp2;clear aA aB aC aF;go_loopw [13] (λiv wr=>∃k:Nat,k<=N VW/\iv=I J k/\∃v ms,RI 24 88 wh u VW w4 (M (H n)) k v ms wr) (λiv _=>N VW-(intOf iv).toNat)
 case atStart=>exact⟨0,Q4 _,rfl,_,_,bH.o⟩
 case round=>
  obtain⟨k,hk,rfl,vv,ms,aH⟩:=hrel;obtain⟨ra,rm,rc,rfl⟩:=Xg aH.own;have zz:=Zh aH;by_cases ax:k<N VW
  .obtain⟨nb,no,rfl,av⟩:=Qg bK.o ax;have bL:nb<M (H w):=ZJ (p:=(aD nb (no+k))) (av k ax);have nJ:=zz.o.kept;have ai:=nJ.trans (ZA ((Qr (M (H wr)) wr).drew) (λb hb _=>hb));have hz:=HZ.o;have bM:=ZY (cB sU.o (av k ax)) nJ (by show nb≠_;omega);have af:E VW k 0∈VW:=by simp[List.getD,ax]
   obtain⟨X,hX⟩:∃X:Nat,E VW k 0=(X:Int):=⟨(E VW k 0).toNat,by have:=(aX.o _ af).1;omega⟩;have aj:X<N wh:=by have:=(aX.o _ af).2;omega
   obtain⟨cb,co,rfl,aY⟩:=Qf Bh.o.2.1 aj;have bN:cb<M (H w):=ZJ (p:=(aD cb (co+X))) (aY X aj);have bn:=ZY (s:=λb=>b≠M (H n)) (cB sU.o (aY X aj)) ai (by show cb≠_;omega);have bO:=ZY (s:=λb=>b≠M (H n)) bI ai (by show M (H w)≠_;omega);have aS:=ZY (s:=λb=>b≠M (H n)) bf ai (by show M (H B)≠_;omega);have aT:=ZY (s:=λb=>b≠M (H n)) bg ai (by show M (H B)≠_;omega);have di:=zz.o.box.at 0;have VX:=(sU.o.trans (nJ.below sU.o.size (λb hb=>by omega))).drew;have ak:N ms<=100:=by have h:=congrArg N zz.o.moved;rw[Q8,Q8,XK]at h;have:=bC.o;omega
   have aK:(E wh X lz).cs.length<=100:=by have:=H3.o X aj;omega
   have aU:=ab3 (E wh X lz).ad (E wh X lz).cap (E wh X lz).cs (.func (.func g) #[] lb) ⟨Q,R,u⟩ wr.drew ((Bh.o.2.2 X aj).below VX) aK ⟨g,lb,rfl⟩ (Qt VX HC.o) (λx L=>bD.o _ af x (by rw[hX,Xu];exact L));have bq:Wl (∀(P:U) (m:az),m.cs=(E wh X lz).cs.map (dE u)->bS P m.ad m.cs->(∀a,m.ad=O a->M (H wr)<=a.block/\a.block<M (H P))->Below (M (H wr)) wr.drew P->
     ∃pa pm pc wp,(Builtin.append_ #[24,24] 24 #[Z ra rm rc,Z (O (aD (M (H P)) 0)) 1 1]).run V (P.alloc (FL #[m.val] 88))=.ok (Z pa pm pc) wp/\
      Am wp (aD (M (H n)) 0)=O (Z ra rm rc)/\wp.frozen? (aD (M (H n)) 0)=F/\RI 24 88 wh u VW w4 (M (H n)) (k+1) (Z pa pm pc) (ms++[m]) (qw wp (aD (M (H n)) 0) (Z pa pm pc))/\
      Kept (λb=>b≠M (H n)/\(Value.slice ra rm rc).ownBlock≠O b) (P.alloc (FL #[m.val] 88)) wp/\Kept (λb=>b≠M (H n)/\(Value.slice ra rm rc).ownBlock≠O b) wp (qw wp (aD (M (H n)) 0) (Z pa pm pc))/\
      Am P (aD (M (H n)) 0)=O (Z ra rm rc)/\Kept (λb=>b≠M (H n)/\(Value.slice ra rm rc).ownBlock≠O b) wr.drew P):=λP m C D z ag=>by have bu:=(zz.o.keep ((Qr (M (H wr)) wr).drew)).keep ag;have dm:=nJ.size;obtain⟨pa,pm,pc,wp,e1,e2,e3,e4,e5,e6⟩:=afq bu ak (by omega) ax m (by rw[C,hX,Xu]) D (λa ha=>⟨by have:=(z a ha).1;omega,(z a ha).2,λe=>by have h1:=(Xf zz.o.own e).2;have:=(z a ha).1;omega⟩);exact⟨pa,pm,pc,wp,e1,e2,e3,e4,e5,e6,bu.box.cell 0,ZA ag (λb hb _=>hb)⟩
   have Rw:Wl ((M (H w)≠M (H n)/\(Value.slice ra rm rc).ownBlock≠O (M (H w)))/\(cb≠M (H n)/\(Value.slice ra rm rc).ownBlock≠O cb)/\(M (H B)≠M (H n)/\(Value.slice ra rm rc).ownBlock≠O (M (H B)))):=by have aV:∀b,(Value.slice ra rm rc).ownBlock=O b->M (H w4)<=b:=λb hb=>(Xf zz.o.own hb).1;exact⟨⟨by omega,λe=>by have:=aV _ e;omega⟩,⟨by omega,λe=>by have:=aV _ e;omega⟩,⟨by omega,λe=>by have:=aV _ e;omega⟩⟩
   rw[hX]at bM;clear nJ ai hz av aY af VX ak aK bL bN hX aH;generalize E wh X lz=cl at*;obtain⟨la,lc,cu⟩:=cl;unfold az.val at bn aU;simp only at*;go_upto_region 5 with fail;refine QW (S:=λx=>Kept (λb=>b≠M (H n)/\(Value.slice ra rm rc).ownBlock≠O b) wr.drew x) (by kernel_rfl) (Zx _ _) (λt=>?_);refine wt 1 (Y (O (aD (M (H w)) 0))) t ?_;refine wt 2 (Y (O (aD (M (H w)) 0))) t ?_;refine wt 3 (Y (O (aD (M (H w)) 1))) t ?_;refine wT 4 (Z (O (aD cb co)) (N wh) aP) t (λx L=>?_) ?_
   .have q:=ZY bO L Rw.o.1;go_simp
   refine wt 5 (I J (X:Int)) t ?_;refine wt 6 (Y (O (aD cb (co+X)))) t ?_;refine wT 7 (FN #[Z la (N cu) lc]) t (λx L=>?_) ?_
   .have q:=ZY bn L Rw.o.2.1;go_simp
   refine wT 8 (FN #[.func (.func g) #[] lb,Z Q (N u) R]) t (λx L=>?_) ?_
   .have q:=ZY aS L Rw.o.2.2;have q2:=ZY aT L Rw.o.2.2;go_simp
   refine wt 9 (.func (.func 125) #[FN #[.func (.func g) #[] lb,Z Q (N u) R]] #[]) t ?_;refine wJ 0 10 (λK f=>?_) λK f=>?_
   .go_simp;refine f.o _ _ t λt=>?_
    clear f K;refine wR 10 λK f=>?_;go_simp;refine aU.mono ?_;rintro e P ⟨⟨Rz,Cg,aI⟩,rfl,C,D,z,ag⟩;simp only at C D z ⊢;obtain⟨pa,pm,pc,wp,NP,cK,cO,aZ,A,aJ,c6,JX⟩:=bq.o P ⟨Rz,Cg,aI⟩ C D z ag;clear C D z;unfold az.val at NP A;simp only at NP A;refine f.o _ _ JX λt=>?_;clear f K;refine wR 11 λK f=>?_;go_simp;refine f.o _ _ (JX.trans (ZE _ _)) (λt=>?_);clear f K;refine wR 12 λK f=>?_;refine X6 (by rfl) _ _ _ (by rfl) (Z ra rm rc) (Z (O (aD (M (H P)) 0)) 1 1) (Z pa pm pc) wp (by rfl) (by rfl) NP ?_;refine f.o _ _ ((JX.trans (ZE _ _)).trans A) (λt=>?_);clear f K NP;refine wR 13 λK f=>?_;go_simp;refine f.o _ _ (((JX.trans (ZE _ _)).trans A).trans aJ) (λt=>?_);clear f K;refine wD ?_;try simp only[Act.put,QG,Qc,Qb]
    go_wp2_with fail;go_roundw
    case rel=>grind
    case measure=>simp[intOf];omega
   .go_simp;refine aU.mono ?_;rintro e P ⟨⟨Rz,Cg,aI⟩,rfl,C,D,z,ag⟩;simp only at C D z ⊢;obtain⟨pa,pm,pc,wp,NP,cK,cO,aZ,A,aJ,c6,JX⟩:=bq.o P ⟨Rz,Cg,aI⟩ C D z ag;clear C D z;unfold az.val at NP A;simp only at NP A;refine f.o _ _ JX λt=>?_
    clear f K;refine wJ 0 11 (λK f=>?_) λK f=>?_
    .go_simp;refine f.o _ _ JX λt=>?_
     clear f K;refine wR 11 λK f=>?_;go_simp;refine f.o _ _ (JX.trans (ZE _ _)) (λt=>?_);clear f K;refine wR 12 λK f=>?_;refine X6 (by rfl) _ _ _ (by rfl) (Z ra rm rc) (Z (O (aD (M (H P)) 0)) 1 1) (Z pa pm pc) wp (by rfl) (by rfl) NP ?_;refine f.o _ _ ((JX.trans (ZE _ _)).trans A) (λt=>?_);clear f K NP;refine wR 13 λK f=>?_;go_simp;refine f.o _ _ (((JX.trans (ZE _ _)).trans A).trans aJ) (λt=>?_);clear f K;refine wD ?_;try simp only[Act.put,QG,Qc,Qb]
     go_wp2_with fail;go_roundw
     case rel=>exact⟨k+1,by omega,by go_num,_,_,aZ⟩
     case measure=>simp[intOf];omega
    .go_simp;refine f.o _ _ (JX.trans (ZE _ _)) (λt=>?_);clear f K;have dn:=ZY c6 (ZE (s:=λ_=>True) P (FL #[Z Rz (N aI) Cg] 88)) trivial;refine wR 0 λK f=>?_
     go_simp;refine f.o _ _ (JX.trans (ZE _ _)) (λt=>?_);clear f K;refine wR 12 λK f=>?_;refine X6 (by rfl) _ _ _ (by rfl) (Z ra rm rc) (Z (O (aD (M (H P)) 0)) 1 1) (Z pa pm pc) wp (by rfl) (by rfl) NP ?_;refine f.o _ _ ((JX.trans (ZE _ _)).trans A) (λt=>?_);clear f K NP;refine wR 13 λK f=>?_;go_simp;refine f.o _ _ (((JX.trans (ZE _ _)).trans A).trans aJ) (λt=>?_);clear f K;refine wD ?_;try simp only[Act.put,QG,Qc,Qb]
     go_wp2_with fail;go_roundw
     case rel=>exact⟨k+1,by omega,by go_num,_,_,aZ⟩
     case measure=>simp[intOf];omega
  .obtain rfl:k=N VW:=by omega
   have nJ:=zz.o.kept;have hz:=HZ.o;have ak:N ms<=100:=by have h:=congrArg N zz.o.moved;rw[Q8,Q8,XK]at h;have:=bC.o;omega
   obtain⟨Rz,Cg,bF,bG⟩:=Hw zz.o.own (λx L=>(zz.o.at' x L).1) ak;have fV:GB wr (M (H n)) 24 #[Z Rz (N ms) Cg]:=by rw[<-bF];exact zz.o.box
   have bP:∀a,Rz=O a->M (H w4)<=a.block:=λa ha=>(Xf zz.o.own (g:=a.block) (by rw[bF,ha];rfl)).1;have aW:=(EX.o.of (bY.o.block _ EX.o.lt)).keep nJ (by show M (H j)≠_;omega);have aS:=ZY bf nJ (by show M (H B)≠_;omega);have aT:=ZY bg nJ (by show M (H B)≠_;omega);have VY:=nJ.size;have VX:=sU.o.trans (nJ.below sU.o.size (λb hb=>by omega));have au:=zz.o.moved;rw[Zb]at au;have hcond:∀x:ae,x.xs∈rows->∀i,i<N ms->∀k,k<(E ms i lz).cs.length->dC ((E ms i lz).cs.getD k cz) (N x.xs)=true:=λx L i hi k hk=>by
    have bQ:i<N VW:=by have h:=congrArg N au;grind
    have e:(E ms i lz).cs=(E wh (VW[i]).toNat lz).cs.map (dE u):=by have h:=congrArg (λl=>l[i]?) au;grind
    rw[e]at hk ⊢;rw[Q8]at hk;have e2:E ((E wh (VW[i]).toNat lz).cs.map (dE u)) k cz=dE u ((E wh (VW[i]).toNat lz).cs[k]):=by exact ach _ _ _ _ hk
    have hm:=Qi bQ;have hr:=aX.o _ hm;rw[e2,bE.o _ L];refine RG (bZ.o _ (by omega) _ (Qi hk)) (λy hy=>bD.o _ hm y ?_);unfold aG;grind
   have HF:Wl (∀G:U,G=(wr.drew.alloc (FL #[.func (.func g) #[] lb] 70)).alloc (FL #[.func (.func 160) #[] #[Y (O (aD (M (H n)) 0))]] 108)->
     GB G (M (H j)) 129 #[Value.nilFunc,Z E5 0 0]/\Kept (λb=>b≠M (H j)) wr.drew G/\Kept (λb=>b≠M (H j)) G (qw (qw G (aD (M (H j)) 0) (.func (.func 179) #[] #[Y (O (aD (M (H wr)) 0)),Y (O (aD (M (H wr)+1) 0))])) (aD (M (H j)) 1) (Z Q (N u) R))/\GB (qw (qw G (aD (M (H j)) 0) (.func (.func 179) #[] #[Y (O (aD (M (H wr)) 0)),Y (O (aD (M (H wr)+1) 0))])) (aD (M (H j)) 1) (Z Q (N u) R)) (M (H j)) 129 #[.func (.func 179) #[] #[Y (O (aD (M (H wr)) 0)),Y (O (aD (M (H wr)+1) 0))],Z Q (N u) R]/\
     ∃g' ay,Ending.returned (FN #[.func (.func 179) #[] #[Y (O (aD (M (H wr)) 0)),Y (O (aD (M (H wr)+1) 0))],Z Q (N u) R])=FR (FN #[.func (.func g') #[] ay,Z Q (N u) R])/\Bw w (qw (qw G (aD (M (H j)) 0) (.func (.func 179) #[] #[Y (O (aD (M (H wr)) 0)),Y (O (aD (M (H wr)+1) 0))])) (aD (M (H j)) 1) (Z Q (N u) R))/\∀W,Nw w (qw (qw G (aD (M (H j)) 0) (.func (.func 179) #[] #[Y (O (aD (M (H wr)) 0)),Y (O (aD (M (H wr)+1) 0))])) (aD (M (H j)) 1) (Z Q (N u) R)) W->eT ah V (.func (.func g) #[] lb) rows W->eT ah V (.func (.func g') #[] ay) (rows.filter (jo wh u VW)) W):=λG aa=>by
    have nW:Bw wr G:=by rw[aa];exact((Qr (M (H wr)) wr).drew.alloc (Qs _) _).alloc (by simp) _
    have x0:Am G (aD (M (H wr)) 0)=O (.func (.func g) #[] lb):=by rw[aa];exact cB (bJ _ _) ((GB.alloc wr.drew #[.func (.func g) #[] lb] 70).cell 0)
    have x1:Am G (aD (M (H wr)+1) 0)=O (.func (.func 160) #[] #[Y (O (aD (M (H n)) 0))]):=by have h:=GB.alloc (wr.drew.alloc (FL #[.func (.func g) #[] lb] 70)) #[.func (.func 160) #[] #[Y (O (aD (M (H n)) 0))]] 108;rw[Xm,<-aa]at h;exact h.cell 0
    have g7:=aW.of (nW.block _ aW.lt);have gE:GB (qw (qw G (aD (M (H j)) 0) (.func (.func 179) #[] #[Y (O (aD (M (H wr)) 0)),Y (O (aD (M (H wr)+1) 0))])) (aD (M (H j)) 1) (Z Q (N u) R)) (M (H j)) 129 #[.func (.func 179) #[] #[Y (O (aD (M (H wr)) 0)),Y (O (aD (M (H wr)+1) 0))],Z Q (N u) R]:=(g7.set 0 _).set 1 _;have kE:Kept (λb=>b≠M (H j)) G (qw (qw G (aD (M (H j)) 0) (.func (.func 179) #[] #[Y (O (aD (M (H wr)) 0)),Y (O (aD (M (H wr)+1) 0))])) (aD (M (H j)) 1) (Z Q (N u) R)):=(Xc _ _ _ (λh=>h rfl)).trans (Xc _ _ _ (λh=>h rfl));have k7:Kept (λb=>b≠M (H j)) wr G:=ZA nW (λb hb _=>hb);have kw:=k7.trans kE;have bT:=ZJ x0;have bU:=ZJ x1;have rZ:=VX.trans (kw.below VX.size (λb hb=>by show b≠_;omega));have bV:=bG.kept kw (λa ha=>by grind) (λm hm a ha=>by have:=((zz.o.at' m hm).2 a ha).1;show a.block≠_;omega);have bW:Am (qw (qw G (aD (M (H j)) 0) (.func (.func 179) #[] #[Y (O (aD (M (H wr)) 0)),Y (O (aD (M (H wr)+1) 0))])) (aD (M (H j)) 1) (Z Q (N u) R)) (aD (M (H n)) 0)=O (Z Rz (N ms) Cg):=ZY (fV.cell 0) kw (by show M (H n)≠_;omega);have bz:M (H j)≠M (H wr)/\M (H j)≠M (H wr)+1:=by omega
    refine⟨g7,ZA (by rw[aa];exact((Qr (M (H wr.drew)) wr.drew).alloc (Qs _) _).alloc (by simp) _) (λb hb _=>hb),kE,gE,_,_,rfl,rZ,λW hW h1=>⟨_,_,rfl,X9 Tryz.func179 (by kernel_rfl) rfl,?_⟩⟩;obtain⟨_,_,e1,cZ,df⟩:=h1;cases e1;have bA:=Q6 kE.size hW.size;refine U1 (M (H wr)) (M (H wr)+1) g 160 lb #[Y (O (aD (M (H n)) 0))] rows _ _ (Q0 bT bA) (Q0 bU bA) (hW.cell (by omega) (ZY x0 kE (λe=>bz.1 e.symm))) (hW.cell (by omega) (ZY x1 kE (λe=>bz.2 e.symm))) df cZ (X9 Tryz.func160 (by kernel_rfl) rfl) (λX x hX L hm=>?_);have:=RH (M (H n)) Rz Cg ms x X (cB hX (hW.cell (by omega) bW)) L ((bV.kept hW (λa ha=>by grind) (λm hm a ha=>by have:=((zz.o.at' m hm).2 a ha).1;show M (H w)<=a.block;omega)).below hX) (hcond x hm);rw[au.holds]at this;exact this
   have bB:Wl (M (H B)≠M (H j)):=by show M (H B)≠M (H j);omega
   clear hcond au bG bP fV aH hz VY VX ak nJ aW;have bX:=RJ g 160 lb #[Y (O (aD (M (H n)) 0))] wr.drew;go_upto_region 8 with fail;refine QW (S:=λx=>Kept (λb=>b≠M (H j)) wr.drew x) (by kernel_rfl) (Zx _ _) (λt=>?_);refine wt 0 (Y (O (aD (M (H B)) 0))) t ?_;refine wT 1 (.func (.func g) #[] lb) t (λx L=>?_) ?_
   .have q:=ZY (s:=λb=>b≠M (H j)) (show Am wr.drew (aD (M (H B)) 0)=_ from aS) L bB.o;go_simp
   refine wt 2 (.func (.func 160) #[] #[Y (O (aD (M (H n)) 0))]) t ?_;refine wt 4 (Y (O (aD (M (H B)) 1))) t ?_;refine wT 5 (Z Q (N u) R) t (λx L=>?_) ?_
   .have q:=ZY (s:=λb=>b≠M (H j)) (show Am wr.drew (aD (M (H B)) 1)=_ from aT) L bB.o;go_simp
   refine wR 3 λK f=>?_;go_simp;refine bX.mono ?_;rintro e G ⟨rfl,aa⟩;obtain⟨g7,k7,kE,gE,aL⟩:=HF.o G aa;have xC:Wl _:=gE;have zL:=Zh aL;clear aa gE aL;refine f.o _ _ k7 λt=>?_;clear f K;refine wt 6 (FN #[.func (.func 179) #[] #[Y (O (aD (M (H wr)) 0)),Y (O (aD (M (H wr)+1) 0))],Z Q (N u) R]) t ?_;obtain⟨z0,z1⟩:=g7.k2;have y0:=g7.frozen 0;have y1:=g7.frozen 1;have dw:=λ(a:Addr) (c:Array KX) (w:U)=>run_store V w a (.func (.func 179) #[] c) .plain rfl;refine wR 7 λK f=>?_;go_simp;refine f.o _ _ (k7.trans kE) (λt=>?_);clear f K;refine wD ?_;try simp only[Act.put,QG,Qc,Qb]
   have mG:=Zh (yA xC.o);go_wp2_with fail;refine X0 (nK (p:=6) rfl rfl mG.o) rfl ?_;exact zL.o
def SY(e:TypeId)(lo:Nat):NZ (lF e lo):=⟨λ_=>rfl,λ_=>rfl,λ_=>rfl,λh=>h.1.1⟩
def Wi(vi:KX)(c:ae)(rows:List (List Int))(w:U)(hi:yJ V 3 vi rows w)(hc:c.At w)(h0:0<N c.xs)(hlen:N rows<=1000000)(hin:∀r∈rows,aM c.xs (N r)=T) :
  Calls V 59 #[vi,c.val] w λe p=>∃v,e=FR v/\yJ V 3 v (fI c.xs rows) p/\Bw w p:=by
 obtain⟨i,j,rfl,u,k⟩:=hi;have d:=bJ w (FL #[.func (.func i) #[] j] 70);have f:=bJ (w.alloc (FL #[.func (.func i) #[] j] 70)) (FL #[c.val] 23);have g:=d.trans (f.mono d.size);have m:∀a,c.ad=O a->a.block<M (H ((w.alloc (FL #[.func (.func i) #[] j] 70)).alloc (FL #[c.val] 23))):=λa y=>by obtain⟨b,off,e,l⟩:=Qg hc h0;rw[y]at e;cases e;exact Q0 (Qj (l 0 h0)) g.size
 have n:yJ V 3 (.func (.func 113) #[] #[Y (O (aD (M (H w)) 0)),Y (O (aD (M (H w)+1) 0))]) (fI c.xs rows) ((w.alloc (FL #[.func (.func i) #[] j] 70)).alloc (FL #[c.val] 23)):=
  ⟨_,_,rfl,X9 Tryz.func113 (by kernel_rfl) rfl,R5 (SY 3 _) (M (H w)) (M (H w)+1) i j c rows _ (by simp;omega) (by simp) (by simp) (by simp) (Qt g hc) m (Seq.renew k g) u hlen hin⟩
 obtain⟨z,A,B⟩:=c;unfold ae.val at*;simp only at*;have q:Wl _:=n;have t:Wl _:=g;clear n g d f k hc hlen hin m;go_enter Tryz.func59,Tryz.ntmps59;go_wp2;go_ret;exact⟨_,rfl,q.o,t.o⟩
