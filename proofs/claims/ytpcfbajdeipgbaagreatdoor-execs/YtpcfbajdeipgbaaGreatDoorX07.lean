import Derived.Test.YtpcfbajdeipgbaaGreatDoorX03
import Derived.Test.YtpcfbajdeipgbaaGreatDoorX05
import Derived.Test.YtpcfbajdeipgbaaGreatDoorX06
set_option linter.all false
set_option maxRecDepth 100000
set_option maxHeartbeats 0
namespace Go.Proofs.Zz
open Go.RowKit Go.Shelf
open List renaming length->N,getD->E
open Go.Value renaming slice->Z,int->I,pointer->Y
open Go.Proofs.Tryz renaming prog->V
open Option renaming some->O,none->E5
open Go.IntKind renaming i64->J
open Bool renaming false->F,true->T
open Go renaming World->U,Value->KX
open Go.World renaming heap->H,setCell->qw,cell?->Am
open _root_.Array renaming size->M
open Go.RowKit renaming Hid->Wl
open Go.Obj renaming cells->FL
open Go.Ending renaming returned->FR
variable {W w:U} {t tE ti:TypeId} {b base bm n:Nat} {P:Program} {aH:Int->List ae} {val:Int->KX}
def aF.arr(c:aF):Array Value:=#[.bool c.not,I J c.op,I J c.left,.bool c.const,I J c.right]
structure azu(W:U)(G:Nat)(c:aF):Prop where
 c0:Am W (aD G 0)=O (.bool c.not)
 c1:Am W (aD G 1)=O (I J c.op)
 c2:Am W (aD G 2)=O (I J c.left)
 c3:Am W (aD G 3)=O (.bool c.const)
 c4:Am W (aD G 4)=O (I J c.right)
 f0:W.frozen? (aD G 0)=F
 f1:W.frozen? (aD G 1)=F
 f2:W.frozen? (aD G 2)=F
 f3:W.frozen? (aD G 3)=F
 f4:W.frozen? (aD G 4)=F
def GB.five{G:Nat}{c:aF}(h:GB W G t c.arr):azu W G c:=
 ⟨h.cell 0,h.cell 1,h.cell 2,h.cell 3,h.cell 4,h.frozen 0,h.frozen 1,h.frozen 2,h.frozen 3,h.frozen 4⟩
def iV.grown{mb:Nat}{lo:Option Addr}{lc:Nat}{l:List Int}{A B:U}(h:iV mb lo lc l A){row:Option Nat}(hg:A.grownBy B row)(h1:row≠O mb)(h2:∀a,lo=O a->row≠O a.block):iV mb lo lc l B:=by have d:Kept (λb=>row≠O b) A B:=Xd hg (λr e h=>h e);obtain⟨k,f,g⟩:=h.num;exact⟨⟨k,f,ZY g d h1⟩,ZY h.lst d h1,(Xh (a:=(aD mb 1)) (d.block mb h.lt h1)).trans h.DC,⟨h.ints.1,h.ints.2.keep λa j i=>d.block _ i (h2 a j)⟩,h.off⟩
def ahw{t:Nat}{ts:List ag}(h:GB w b t (kN ts))(hl:N ts<=192153584101141162):aN w (O (aD b 0)) ts:=by
 refine⟨hl,λi d=>⟨b,0,rfl,?_⟩⟩;have a:∀j,j<6->Am w (aD b (0+(i*6+j)))=(nY (E ts i tz))[j]?:=λj e=>by rw[Q5,h.cell];unfold kN;rw[QM];exact yX nY 6 lT tz ts _ i j d e
 exact⟨a 0 (by omega),a 1 (by omega),a 2 (by omega),a 3 (by omega),a 4 (by omega),a 5 (by omega)⟩
def aks{t:Nat}{cs:List aF}(h:GB w b t (dO cs))(hl:N cs<=230584300921369395):bS w (O (aD b 0)) cs:=by
 refine⟨hl,λi d=>⟨b,0,rfl,?_⟩⟩;have a:∀j,j<5->Am w (aD b (0+(i*5+j)))=(aF.aI (E cs i cz))[j]?:=λj e=>by rw[Q5,h.cell];unfold dO;rw[QM];exact yX aF.aI 5 lS cz cs _ i j d e
 exact⟨a 0 (by omega),a 1 (by omega),a 2 (by omega),a 3 (by omega),a 4 (by omega)⟩
def pK(ls:List az)(A:Nat->Nat):List az:=(List.range (N ls)).map λi=>⟨O (aD (A i) 0),(E ls i lz).cs.length+2,(E ls i lz).cs⟩
theorem lJ(ls:List az)(A:Nat->Nat):N (pK ls A)=N ls:=by simp[pK]
def Eo(ls:List az)(A:Nat->Nat){i:Nat}(hi:i<N ls):E (pK ls A) i lz=⟨O (aD (A i) 0),(E ls i lz).cs.length+2,(E ls i lz).cs⟩:=by unfold pK;simp[List.getD,hi]
def MX(ls:List az)(A:Nat->Nat):(pK ls A).map az.cs=ls.map az.cs:=by
 apply List.ext_getElem?;intro i;by_cases a:i<N ls
 .simp[pK,a]
 .simp[pK,a]
def vE(q:af)(bf bk bu be bo bw:Nat)(A:Nat->Nat):af:=
 ⟨⟨O (aD bf 0),N q.src.xs+2,q.src.xs⟩,O (aD bw 0),N q.wh+2,pK q.wh A,q.group,⟨O (aD bk 0),N q.keys.xs+2,q.keys.xs⟩,⟨O (aD bu 0),N q.sums.xs+2,q.sums.xs⟩,⟨O (aD be 0),N q.aH.xs+2,q.aH.xs⟩,⟨O (aD bo 0),N q.ord.xs+2,q.ord.xs⟩⟩
def Uh(q:af)(bf bk bu be bo bw:Nat)(A:Nat->Nat)(ts:List ag):(vE q bf bk bu be bo bw A).check ts=q.check ts:=by have:(vE q bf bk bu be bo bw A).qX=q.qX:=MX q.wh A;unfold af.check;rw[this];rfl
def akt{tS:TypeId}{ls:List az}{A:Nat->Nat}{f:Nat->KX}(hn:n=N ls)(h:w.rowIs b t (n+2) f)(hf:∀i,i<n->f i=Z (O (aD (A i) 0)) (E ls i lz).cs.length ((E ls i lz).cs.length+2))
  (hal:∀i,i<n->GB w (A i) tS (dO (E ls i lz).cs)) (hl:N ls<=1152921504606846976) (hcl:∀i,i<N ls->(E ls i lz).cs.length<=230584300921369395):bR w (O (aD b 0)) (pK ls A):=by
 subst hn;refine⟨by rw[lJ];exact hl,λi a=>⟨b,0,rfl,?_⟩,λi a=>?_⟩
 .rw[lJ]at a;rw[Q5,h.cell (by omega),hf i a]
  show _=O (E (pK ls A) i lz).val;rw[Eo _ _ a];rfl
 .rw[lJ]at a;rw[Eo _ _ a];exact aks (hal i a) (hcl i a)
def yR(ao bo:Option Addr)(cap cap':Nat)(ls ms:List az)(w:U)(hx:bR w ao ls)(hy:bR w bo ms)(he:N ls=N ms)(hcs:∀i,i<N ls->(E ls i lz).cs=(E ms i lz).cs) :
  Cb 23 #[Z ao (N ls) cap,Z bo (N ms) cap'] w (.bool T):=by
 have G:=hx.1;rw[<-he];have t:((N ls:Int) != N ls)=false:=by simp
 go_enter Tryz.func23,Tryz.ntmps23;go_wp2;go_loopw [5] (λi wr=>∃k:Nat,k<=N ls/\i=I J k/\∃n,wr=w.drewN n) (λi _=>N ls-(intOf i).toNat)
 case atStart=>exact⟨0,Q4 _,rfl,0,rfl⟩
 case round=>
  obtain⟨k,K,rfl,n,rfl⟩:=hrel;by_cases e:k<N ls
  .obtain⟨b,off,rfl,q⟩:=hx.2.1.get e;obtain⟨b',Gi,rfl,j⟩:=hy.2.1.get (show k<N ms by omega);have l:=q k e;have p:=j k (by omega);have d:=hx.2.2 k e;have f:=hy.2.2 k (by omega);have g:=hcs k e;clear q j hx hy hcs;generalize E ls k lz=c1 at*;generalize E ms k lz=c2 at*;obtain⟨y,z,a⟩:=c1;obtain⟨L,A,B⟩:=c2;simp only at g d f;subst g;unfold az.val at l p;simp only at l p;have u:=d.1;have v:((N a:Int) != N a)=false:=by simp
   go_wp2;go_quiet (fail);go_wp2;go_loopw [6] (λi wr=>∃m:Nat,m<=N a/\i=I J m/\∃n,wr=w.drewN n) (λi _=>N a-(intOf i).toNat)
   case atStart=>exact⟨0,Q4 _,rfl,_,XE _ _ _⟩
   case round=>
    obtain⟨m,P,rfl,Q,rfl⟩:=hrel;by_cases r:m<N a
    .obtain⟨R,C,rfl,S,W,X,e3,e4⟩:=d.2 m r;obtain⟨b4,D,rfl,i0,i1,i2,i3,i4⟩:=f.2 m r;generalize E a m cz=cc at*;clear d f;go_wp2;go_quiet (fail);go_wp2;go_roundw
     case rel=>exact⟨m+1,by omega,by go_num,_,rfl⟩
     case measure=>simp[intOf];omega
    .go_wp2;go_roundw
     case rel=>exact⟨k+1,by omega,by go_num,_,rfl⟩
     case measure=>simp[intOf];omega
  .go_wp2;go_ret;exact⟨rfl,Qy (Qr _ _) _⟩
def ahy(d:Nat)(a b c e:Int)(w:U):(Op.equalIn (d+2) 51 (.agg #[.int J a,.int J b,.int J c,.int J e]) (.agg #[.int J a,.int J b,.int J c,.int J e])).run V w=.ok T w:=by have f:=Tryz.underlying51;have g:=λ(x:Int)=>run_equalIn_int (P:=V) w d 3 J J x x Tryz.underlying3;rw[Op.equalIn];simp only[Sem.run_bind,run_underlying f,Result.andThen_ok];simp[go_sem,Std.Legacy.Range.forIn_eq_forIn_range',Std.Legacy.Range.size,List.range',g]
section
open Go.Maps Go.WideMaps
attribute [local go_sem] Oper.semAt_some
def DX(gi:Nat)(jy:Array KX)(kc sc:ae)(rows:List (List Int))(w0 w:U)(hb0:Bw w0 w)(hseq:Seq ah V gi jy rows w0)(GU:∀args w,(callFunc gi args).run V w=.ok (.enter gi args) w)
  (hkc:kc.At w) (hsc:sc.At w) (hkl:N kc.xs<=4) (hsl:N sc.xs<=4) (hlen:N rows<=1000000) (Co:∀r∈rows,aM kc.xs (N r)=T) (Cq:∀r∈rows,aM sc.xs (N r)=T) (hsm:∀r∈rows,∀v∈r,dW v) :
  Calls V 123 #[.func (.func gi) #[] jy,kc.val,sc.val] w λe w'=>∃v d,e=FR v/\d.map fZ.gr=fq kc.xs sc.xs rows/\oP 182 3 177 (N sc.xs) (M (H w)+5) (M (H w)+2) d w' v/\Bw w w':=by
 obtain⟨f1,f2,f3,f4,f5,f6,f7⟩:=VS w kc.val sc.val (N sc.xs) (N kc.xs);obtain⟨G,hV⟩:=eX (Ah w kc.val sc.val);rw[hV]at f1 f2 f3 f4 f5 f6 f7;unfold Ah at hV;obtain⟨HV,bM⟩:=aV hV hb0;have dX:Wl _:=hkc;have Y8:Wl _:=hsc;obtain⟨fw,vH,dA,fA,Cr,N9⟩:=Dm hkl hsl hlen Co Cq hsm;clear hV hb0 hkc hsc hkl hlen Co Cq hsm;obtain⟨nU,eQ,R⟩:=kc;obtain⟨ni,dV,y⟩:=sc;unfold ae.val at*;simp only at*;refine(ZG (n:=0)).1 (Z0 Tryz.func123 rfl trivial ?_ rfl);simp only[Tryz.ntmps123,ZN,QJ,ZO,Nat.reduceAdd,Nat.reduceSub,ZP,ZQ,ZR,ZT,ZU,ZV];have dY:=@run_makeMap V;gi_upto_region 3 with fail;rw[HV.o];simp only[Nat.add_assoc,Nat.reduceAdd];by_cases aO:R=[]
 case' pos=>
  have bq:Wl (N R=0):=by show _=_;rw[aO];rfl
  have aP:((N R:Int)==0)=true:=by have:=bq.o;simp;omega
  have zz:=Zh aO;clear aO;have F2:Wl _:=f2;obtain⟨F6,F7⟩:=aV f6 f7;obtain⟨v0,aW⟩:∃v0:KX,Z E5 0 0=v0:=⟨_,rfl⟩;have bV:v0.ownBlock=none:=by rw[<-aW];rfl
  have gm:=Zh aW;rw[aW]at f1;have dZ:=f1.box;have F1:=Zh f1;clear aW;have az:Calls V 127 #[Z E5 0 0,I J (N y)] G.drew λe w'=>e=FR (Y (O (aD (M (H G)+2) 0)))/\
   w'.heap[M (H G)+2]? = O (FL #[Z E5 0 0,I J 0,Z (O (aD (M (H G)+1) 0)) (N y) (N y)] 182)/\
   w'.heap[M (H G)+1]? = O (FL (List.replicate (N y) (Value.int J 1073741824)).toArray 3)/\Below (M (H G)) G.drew w'/\M (H w')=M (H G)+3:=oJ ⟨E5,0,[]⟩ (N y) G.drew vH.o
  have bu:Wl (∀P:U,P.heap[M (H G)+2]? = O (FL #[Z E5 0 0,I J 0,Z (O (aD (M (H G)+1) 0)) (N y) (N y)] 182)->P.heap[M (H G)+1]? = O (FL (List.replicate (N y) (Value.int J 1073741824)).toArray 3)->Below (M (H G)) G.drew P->M (H P)=M (H G)+3->
   ∃z w5,(Builtin.append_ #[175,175] 175 #[v0,Z (O (aD (M (H P)) 0)) 1 1]).run V (P.alloc (FL #[Y (O (aD (M (H G)+2) 0))] 177))=.ok z w5/\
    Am w5 (aD (M (H w)+2) 0)=O v0/\w5.frozen? (aD (M (H w)+2) 0)=F/\(∃a m c,z = Z a m c)/\
    ∃(v:KX) (g:fZ),oP 182 3 177 (N y) (M (H w)+5) (M (H w)+2) [g] (qw w5 (aD (M (H w)+2) 0) z) v/\g.gr=mR [] (N y)/\yE g/\Kept (λb=>b≠M (H w)+2) G (qw w5 (aD (M (H w)+2) 0) z)/\∀b,bQ (M (H w)+2) v [g] b->b=M (H w)+2∨(M (H w)+5<=b/\b<M (H (qw w5 (aD (M (H w)+2) 0) z)))):=by
   intro P p2 p1 pb ps;have aA:Kept (λ_=>True) G G.drew:=⟨rfl,rfl,rfl,Qs _,λ_ _ _=>rfl⟩;have ed:=F7.o;obtain⟨z,w5,hr,hc,hf,bN,S,hk,ho⟩:=Il G.drew P (N y) (M (H w)+5) (M (H w)+2) [] v0 (F1.o.keep aA (λ_ _=>trivial)) (by show _<=M (H G);omega) (by simp) ⟨E5,0,[]⟩ ⟨⟨by simp,λi hi=>by simp at hi⟩,λa ha=>(by cases ha),λ_=>rfl⟩ (λb p=>by cases p) p2 p1 pb ps;refine⟨z,w5,hr,hc,hf,bN,z,_,S,rfl,rM _ _ _ _,(aA.mono λ_ _ _=>trivial).trans (hk.mono λb _ h=>⟨h,λe=>by rw[bV]at e;cases e⟩),λb p=>?_⟩;rcases ho b p with (h|h|⟨_,h,_⟩)|h|h
   .exact .inl h
   .rw[bV]at h;cases h
   .simp at h
   .cases h
   .exact .inr ⟨by have:=h.1;have e:M (H G.drew)=M (H G):=rfl;omega,h.2⟩
  have FT:V.follows .mixedOrders=true:=by kernel_rfl
  clear f1 f2 f6 f7;gi_upto_region 4 with fail;gi_cut [] from 15 (λQ=>∃(v:KX) (g:fZ),oP 182 3 177 (N y) (M (H w)+5) (M (H w)+2) [g] Q v/\g.gr=mR [] (N y)/\yE g/\Kept (λb=>b≠M (H w)+2) G Q/\∀b,bQ (M (H w)+2) v [g] b->b=M (H w)+2∨(M (H w)+5<=b/\b<M (H Q)))
  case first=>
   refine wpIn_wide.2 (wp_region_noPanic ?_);go_region_law
    ((first
     |(refine X6 (by rfl) _ _ _ (by rfl) v0 (Z (O (aD (M (H P)) 0)) 1 1) (Z dB dC dD) w5 (by rfl) (by rfl) iW ?_)
     |(go_simp;go_at_call 127;refine az.mono ?_;rintro e P ⟨rfl,p2,p1,pb,ps⟩;obtain⟨v5,w5,iW,fB,fC,⟨dB,dC,dD,rfl⟩,af⟩:=bu.o P p2 p1 pb ps;have bz:=ZY (A:=G.drew) dZ (ZA (s:=λ_=>True) pb (λb p _=>p)) trivial;have ek:=ZY bz (ZE (s:=λ_=>True) P (FL #[Y (O (aD (M (H G)+2) 0))] 177)) trivial;clear p2 p1 pb ps)))
   all_goals
    refine NoPanic.normal ?_;gi_wp2_with fail;gi_meet;exact af
  case' rest=>
   obtain⟨v,g,S,dE,dF,aX,fD⟩:=hcut;obtain⟨kl,hkl⟩:=Ik (xs:=[]) Tryz.VR Tryz.underlying3 Tryz.Mi (λx hx=>by simp at hx);have bW:keyOf V 209 (.agg #[.int J 0,.int J 0,.int J 0,.int J 0])=O kl:=hkl;have hM:=kC.keep F2.o (aX.block _ (kC.lt F2.o) (by omega));obtain⟨D,aG,dG⟩:=hM;have bX:=ZY f5 aX (by show M (H w)+4≠_;omega);obtain⟨HG,L⟩:=aV S dE;have eu:Wl _:=dF;obtain⟨Mk,fE⟩:=aV aX dG;clear S dE dF aX fD dG f5 az;gi_upto_region 6 with (first|(gi_at_mapUpdate;refine wpListIn_mapUpdate_own _ rfl _ _ _ 208 rfl 209 3 Tryz.yF Tryz.underlying208 _ (M (H w)+3) 0 D rfl aG (by unfold maxLen;omega) _ _ kl rfl rfl bW (.lit (.int J 0)) [] (plainElem_int Tryz.underlying3 rfl) ?_;intro w6 aN dR));have bA:Wl (GI V 182 3 177 209 ⟨nU,eQ,R⟩ ⟨ni,dV,y⟩ w [] [g] (λb=>bQ (M (H w)+2) v [g] b∨b=M (H w)+3) w6 v):=by
    have vZ:Kept (λb=>b≠M (H w)+3) wc w6:=Xd dR (λr e hr=>by cases e;exact hr rfl);have VN:g.k.xs=[]:=congrArg Gr.key L.o;have ed:=F7.o;have gp:=Mk.o.size;refine⟨?_,HG.o.keep vZ (λb p e=>?_),?_,λx hx=>?_,?_,?_,?_,?_,λb=>ZI⟩
    .show [g.gr]=cK R y
     rw[L.o];unfold cK;rw[Qu zz.o]
    .rcases tQ HG.o p with h|h <;> omega
    .have:=kC.put (k:=[]) Tryz.yF fE.o aG.isMap (by have:=bq.o;omega) bq.o.symm hkl rfl aN
     show kC _ _ _ _ _ 1 [g.k.xs] _;rw[VN];exact this
    .rw[Xj]at hx;rw[hx];exact⟨eu.o,by have h:=congrArg Gr.cnt L.o;have h':g.cnt=0:=h;omega⟩
    .exact ZY (ZY f3 Mk.o (by show M (H w)≠_;omega)) vZ (by show M (H w)≠_;omega)
    .exact ZY (ZY f4 Mk.o (by show M (H w)+1≠_;omega)) vZ (by show M (H w)+1≠_;omega)
    .exact ZY bX vZ (by show M (H w)+4≠_;omega)
    .exact(F6.o.trans (Mk.o.below (by omega) (λb p=>by omega))).trans (vZ.below (by have:=F6.o.size;omega) (λb p=>by omega))
   clear aN dR aG bX;go_frame;gi_cut [26] from 15 (λf Q=>f=.func (.func gi) #[] jy/\∃d v,GI V 182 3 177 209 ⟨nU,eQ,R⟩ ⟨ni,dV,y⟩ w [] d (λb=>bQ (M (H w)+2) v d b∨b=M (H w)+3) Q v)
   case first=>
    gi_wp2_with fail;gi_meet;exact⟨rfl,[g],v,bA.o⟩
 case' neg=>
  have fV:=Je.2 aO;have aP:((N R:Int)==0)=false:=by simp;omega
  have F1:=Zh f1;have F2:Wl _:=f2;obtain⟨F6,F7⟩:=aV f6 f7;clear f1 f2 f6 f7;gi_upto_region 6 with fail;have bA:Wl (GI V 182 3 177 209 ⟨nU,eQ,R⟩ ⟨ni,dV,y⟩ w [] [] (λb=>bQ (M (H w)+2) (Z E5 0 0) [] b∨b=M (H w)+3) G (Z E5 0 0)):=by
   refine⟨?_,F1.o,?_,λx hx=>by simp at hx,f3,f4,f5,F6.o,λb=>ZI⟩
   .show []=cK R y
    unfold cK;rw[QC aO]
   .obtain⟨D,h1,h2⟩:=F2.o;exact⟨D,h1.mono (Q4 _),h2⟩
  gi_cut [26] from 15 (λf Q=>f=.func (.func gi) #[] jy/\∃d v,GI V 182 3 177 209 ⟨nU,eQ,R⟩ ⟨ni,dV,y⟩ w [] d (λb=>bQ (M (H w)+2) v d b∨b=M (H w)+3) Q v)
  case first=>
   gi_wp2_with fail;gi_meet;exact⟨rfl,[],_,bA.o⟩
 all_goals
  obtain⟨rfl,fF,v0,bO⟩:=hcut;have aZ:M (H w)+5<=M (H wc):=by have:=ZJ bO.bn;have h:M (H w)+4<M (H wc):=this;omega
  obtain⟨aH,ax⟩:=aV bO aZ;clear bO aZ f3 f4 dY aP;gi_wp2_with fail;refine oz ah (gf:=gi) (lb:=jy) rfl GU hseq (bM.o.trans (aH.o.below.mono bM.o.size)) rfl
   (λX o1 W=>∃d v,GI V 182 3 177 209 ⟨nU,eQ,R⟩ ⟨ni,dV,y⟩ w X d o1 W v)
   (λb=>bQ (M (H w)+2) v0 fF b∨b=M (H w)+3) ?_ ?_ ⟨_,_,aH.o⟩
   (λx=>{ tmps:=#[.func (.func gi) #[] jy,Z nU (N R) eQ,Z ni (N y) dV,undef,Y (O (aD (M (H w)) 0)),Y (O (aD (M (H w)+1) 0)),Z E5 0 0,Y (O (aD (M (H w)+2) 0)),Y (O (aD (M (H w)+4) 0)),x.val,undef,undef,undef,undef,.map (O (M (H w)+3)),u15,u16,u17,u18,u19,u20,u21,u22,u23,u24,u25,.func (.func gi) #[] jy,x.val,u28,u29,u30,u31,u32,u33,u34,u35,u36,u37,u38,u39,u40,u41,u42,u43,u44,u45,u46,u47,u48,u49,u50,u51,u52,u53,u54,u55,u56,u57,u58,u59,u60,u61],defers:=[] }) ?assign ?body ?done
  .intro b p;have h0:=bM.o.size;have h5:=ax.o;rcases p with p|p
   .refine⟨?_,aH.o.xE.lt p⟩;rcases tQ aH.o.xE p with h|h <;> omega
   .omega
  .rintro X o1 A B ⟨d,v,h⟩ hk;exact⟨d,v,h.keep hk (λb p=>p.imp id (λp=>by have:=ax.o;omega))⟩
  case assign=>
   intro l x W K hK;gi_wp2;exact hK
  case body=>
   rintro l X x o1 W ⟨d,v,S⟩ au hx bg dI;have aQ:=kW au;have gq:N X+1<=1000000:=by have:=au.length_le;rw[Q8,QI]at this;exact Q6 this dA.o
   have eB:=fw.o;have av:=G7 x ⟨nU,eQ,R⟩ W hx.1 (Qt S.below dX.o) (fA.o _ aQ) (by show N R<=_;omega);have aC:N (aB x.xs R)=N R:=by simp[aB]
   have bB:=Sa (cols:=R) (N9.o _ aQ);obtain⟨aI,bP⟩:=eX (aB x.xs R);have bC:=Zh bP;simp only at av;rw[bP]at av aC bB;clear bP;have bY:=afE W aI (by omega);obtain⟨W2,bR⟩:∃W2,(W.alloc (FL (aI.map (Value.int J)).toArray 3)).alloc (FL #[I J (E aI 0 0),I J (E aI 1 0),I J (E aI 2 0),I J (E aI 3 0)] 209)=W2:=⟨_,rfl⟩;rw[bR]at bY;have bD:=bJ W (FL (aI.map (Value.int J)).toArray 3);have mH:=bJ (W.alloc (FL (aI.map (Value.int J)).toArray 3)) (FL #[I J (E aI 0 0),I J (E aI 1 0),I J (E aI 2 0),I J (E aI 3 0)] 209);have aF:=bD.trans (mH.mono bD.size);have aj:=iX (W.alloc (FL (aI.map (Value.int J)).toArray 3)) (FL #[I J (E aI 0 0),I J (E aI 1 0),I J (E aI 2 0),I J (E aI 3 0)] 209);have bE:=(mH.block (M (H W)) (by simp)).trans (iX W (FL (aI.map (Value.int J)).toArray 3));have bG:M (H ((W.alloc (FL (aI.map (Value.int J)).toArray 3)).alloc (FL #[I J (E aI 0 0),I J (E aI 1 0),I J (E aI 2 0),I J (E aI 3 0)] 209)))=M (H W)+2:=by simp
   rw[Xm]at aj;rw[bR]at aF aj bE bG;clear bR bD mH;have eD:=S.bk;obtain⟨fG,fH,dJ⟩:=J3 aF S.bn S.bs S.xE.box;have aR:GI V 182 3 177 209 ⟨nU,eQ,R⟩ ⟨ni,dV,y⟩ w X d (λb=>bQ (M (H w)+2) v d b∨b=M (H w)+3) W2 v:=by
    have h:=S.keep (s:=λb=>b<M (H W)) (ZA aF (λb _ h=>h)) (λb p=>by
     rcases p with p|p
     .rcases (S.iff b).1 p with h|h
      .exact S.xE.lt h
      .rw[h];exact S.map.lt
     .have:=ax.o;omega)
    exact⟨h.fold,h.xE,h.map,h.sums,h.bk,h.bs,h.bn,h.below,λb=>ZI⟩
   obtain⟨bS,aJ⟩:=VT W2 (N R) (M (H w)+3) (N X+1) (d.map (·.k.xs)) aR.map aI aC eB (by omega) (by rw[Q8];have:=aR.len;omega) bB;unfold rY amU at bS aJ;have q0:Am W2 (aD (M (H W)+1) 0)=O (I J (E aI 0 0)):=Jc aj rfl;have q1:Am W2 (aD (M (H W)+1) 1)=O (I J (E aI 1 0)):=Jc aj rfl;have q2:Am W2 (aD (M (H W)+1) 2)=O (I J (E aI 2 0)):=Jc aj rfl;have q3:Am W2 (aD (M (H W)+1) 3)=O (I J (E aI 3 0)):=Jc aj rfl;obtain⟨fI,aK,fJ,HG,L,HX,Im⟩:=Dn bE aF bG S aR hx bg;obtain⟨Gd,ay,Pb⟩:=fe dI aQ aC;have gu:Wl _:=au;obtain⟨fK,fM⟩:=aV bS aJ;clear bE aj aF bG S aR hx bg dI aQ au bS aJ bB;generalize E aI 0 0=p0 at*;generalize E aI 1 0=p1 at*;generalize E aI 2 0=p2 at*;generalize E aI 3 0=p3 at*;rw[<-aC]at av;clear aC
   cases hf:jE (d.map (·.k.xs)) aI with
   |some i =>
    have bZ:=fK.o i hf;obtain⟨dK,fP⟩:=afF hf;have hi:i<N d:=by simpa using dK
    obtain⟨gr,sS,hv,aL⟩:=wK L.o.xE.own hi;have cu:Am W2 (aD gr i)=O (Y (O (aD (d[i].gb) 0))):=by rw[aL,QK,Xq hi];rfl
    have aS:∀b,ah.aT x=O b->¬bQ (M (H w)+2) v d b:=λb p h=>(Im.o b p).1 ((HG.o.iff b).2 (.inl h));have cz:=ah.keep HX.o aK.o.size (λb p _=>aK.o.block b p);have aa:=Mj w W2 d v ⟨ni,dV,y⟩ x L.o.xE L.o.below Y8.o vH.o cz aS (λg hg=>⟨(L.o.sums g hg).1,by have:=(L.o.sums g hg).2;omega⟩) (N9.o _ ay.o) (Cr.o _ ay.o) hi;have xD:Wl (∀W7:U,W7.heap[d[i].gb]? = O (FL #[d[i].k.val,I J (d[i].cnt+1:Nat),Z (O (aD (d[i].sb) 0)) (N y) (N y)] 182)->W7.heap[d[i].sb]? = O (FL ((ik d[i].ss x.xs y).map (Value.int J)).toArray 3)->Kept (λb=>b≠d[i].gb/\b≠d[i].sb) W2 W7->M (H W7)=M (H W2)->
      ∃o2,(∃bU z,GI V 182 3 177 209 ⟨nU,eQ,R⟩ ⟨ni,dV,y⟩ w (X++[x]) bU o2 W7 z)/\Kept (λb=>¬o1 b) W W7/\∀b,o2 b->o1 b∨(M (H W)<=b/\b<M (H W7))∨(ah.aT x=O b/\M (H wc)<=b)):=by intro W7 r1 r2 r3 r4;have bf:=Qi hi;refine⟨_,⟨_,_,GI.afH (x:=x) L.o.xE (L.o.map.mono (by omega)) L.o.sums L.o.bk L.o.bs L.o.bn L.o.below hi (afG L.o.fold (by rw[bC.o];exact hf)) (N9.o _ ay.o) r1 r2 r3⟩,?_,λb p=>.inl ((HG.o.iff b).2 p)⟩;refine(ZA (s:=λb=>¬o1 b) aK.o (λb p _=>p)).trans (r3.mono λb _ h=>⟨λe=>h ((HG.o.iff b).2 (.inl (.inr (.inr ⟨_,bf,.inl e⟩)))),λe=>h ((HG.o.iff b).2 (.inl (.inr (.inr ⟨_,bf,.inr (.inl e)⟩))))⟩)
    obtain⟨HF,HI,gB⟩:=fe hf hi cu;rw[hv]at dJ;clear hf dK fP aL aS cz hv;obtain⟨fO,bF,gM⟩:=x;unfold ae.val at*;simp only at*;gi_wp2_with (refine⟨trivial,rfl,Z4 l (ZG.2 (av.mono ?_))⟩;rintro e P ⟨rfl,rfl⟩);have FT:V.follows .mixedOrders=true:=by kernel_rfl
    refine wpIn_region_any FT (nL (l8 (by kernel_rfl)) _ _ _ _ ?_);change wpAnyIn _ _ _ _ _ _ _ _ _ (World.drew _);refine iT 1 (I J (i:Int)) ?_;refine iT 4 (Z fO (N gM) bF) ?_
    repeat' first
     |refine iJ 0 5 ?_ ?_
     |refine iJ 3 5 ?_ ?_
     |refine iQ 0 ?_
     |refine iQ 3 ?_
     |refine iQ 5 ?_
     |refine iQ 6 ?_
     |refine iT 2 (Y (O (aD gr i))) ?_
     |intro K hK;go_simp;refine hK _ _ ?_;clear hK K
     |intro K hK;go_simp;refine⟨trivial,rfl,ZG.2 (aa.mono ?_)⟩;rintro e W7 ⟨⟨u7,rfl⟩,r1,r2,r3,r4⟩;refine hK _ _ ?_;refine iD ?_;exact xD.o W7 r1 r2 r3 r4
   |none =>
    obtain⟨bZ,q,dL,Y0,dM⟩:=fM.o hf;obtain⟨Nr,vT,rfl⟩:=EY L.o.xE.own;rw[Q8]at dL;have ai:Kept (λb=>b≠M (H w)+3) W2 q:=Xd dM (λr e hr=>by cases e;exact hr rfl);have cO:=ai.size;have cZ:∀b,bQ (M (H w)+2) (Z Nr (N d) vT) d b->b≠M (H w)+3:=λb p=>by rcases tQ L.o.xE p with h|h <;> omega
    have bH:=L.o.xE.keep ai cZ;have df:=bH.box;have dh:=ZY L.o.bs ai (by show M (H w)+1≠_;omega);have di:=ZY L.o.bk ai (by show M (H w)≠_;omega);have dm:=ZY L.o.bn ai (by show M (H w)+4≠_;omega);have eF:=fJ.o;have eG:M (H w)+5<=M (H W):=by have:=ax.o;have:=Gd.o;omega
    have dn:=(ai.block _ (by omega) (by omega)).trans fI.o;have dw:ah.At ⟨O (aD (M (H W)) 0),N aI,aI⟩ q:=by refine⟨⟨by show N aI<=_;have:=Pb.o;omega,λj hj=>⟨M (H W),0,rfl,?_⟩⟩,λa ha=>by cases ha;show M (H W)<_;omega,λe=>by cases e⟩;have eH:j<N aI:=hj;rw[Q5];exact Jc dn (by simp[List.getD,eH])
    have hlen:=L.o.len;have az:Calls V 127 #[Z (O (aD (M (H W)) 0)) (N aI) (N aI),I J (N y)] q.drew λe w'=>e=FR (Y (O (aD (M (H q)+2) 0)))/\
     w'.heap[M (H q)+2]? = O (FL #[Z (O (aD (M (H W)) 0)) (N aI) (N aI),I J 0,Z (O (aD (M (H q)+1) 0)) (N y) (N y)] 182)/\
     w'.heap[M (H q)+1]? = O (FL (List.replicate (N y) (Value.int J 1073741824)).toArray 3)/\Below (M (H q)) q.drew w'/\M (H w')=M (H q)+3:=oJ ⟨O (aD (M (H W)) 0),N aI,aI⟩ (N y) q.drew vH.o
    have bu:Wl (∀P:U,P.heap[M (H q)+2]? = O (FL #[Z (O (aD (M (H W)) 0)) (N aI) (N aI),I J 0,Z (O (aD (M (H q)+1) 0)) (N y) (N y)] 182)->P.heap[M (H q)+1]? = O (FL (List.replicate (N y) (Value.int J 1073741824)).toArray 3)->Below (M (H q)) q.drew P->M (H P)=M (H q)+3->
     ∃z w5,(Builtin.append_ #[175,175] 175 #[Z Nr (N d) vT,Z (O (aD (M (H P)) 0)) 1 1]).run V (P.alloc (FL #[Y (O (aD (M (H q)+2) 0))] 177))=.ok z w5/\
      Am w5 (aD (M (H w)+2) 0)=O (Z Nr (N d) vT)/\w5.frozen? (aD (M (H w)+2) 0)=F/\(∃a m c,z = Z a m c)/\∃dS,oP 182 3 177 (N y) (M (H w)+5) (M (H w)+2) (d++[(⟨M (H q)+2,M (H q)+1,⟨O (aD (M (H W)) 0),N aI,aI⟩,0,List.replicate (N y) 1073741824⟩:fZ)]) (qw w5 (aD (M (H w)+2) 0) z) dS/\Kept (λb=>b≠M (H w)+2/\(Value.slice Nr (N d) vT).ownBlock≠O b) q (qw w5 (aD (M (H w)+2) 0) z)/\∀b,bQ (M (H w)+2) dS (d++[(⟨M (H q)+2,M (H q)+1,⟨O (aD (M (H W)) 0),N aI,aI⟩,0,List.replicate (N y) 1073741824⟩:fZ)]) b->bQ (M (H w)+2) (Z Nr (N d) vT) d b∨b=M (H W)∨(M (H q)<=b/\b<M (H (qw w5 (aD (M (H w)+2) 0) z)))):=by
     intro P p2 p1 pb ps;have aA:Kept (λ_=>True) q q.drew:=⟨rfl,rfl,rfl,Qs _,λ_ _ _=>rfl⟩;obtain⟨z,w5,hr,hc,fQ,bN,ag,C,ak⟩:=Il q.drew P (N y) (M (H w)+5) (M (H w)+2) d (Z Nr (N d) vT) (bH.keep aA (λ_ _=>trivial)) (by show _<=M (H q);omega) (by omega) ⟨O (aD (M (H W)) 0),N aI,aI⟩ (ah.keep dw (Qs _) (λ_ _ _=>rfl)) (λb p=>by
      have e:O (M (H W))=O b:=p;cases e;refine⟨by omega,λh=>?_⟩;have:=HG.o.xE.lt h;omega) p2 p1 pb ps
     refine⟨z,w5,hr,hc,fQ,bN,z,ag,(aA.mono λ_ _ _=>trivial).trans C,λb p=>?_⟩;rcases ak b p with h|h|h
     .exact .inl h
     .have e:O (M (H W))=O b:=h
      cases e;exact .inr (.inl rfl)
     .exact .inr (.inr h)
    have HR:Wl (∀(Q:U) (z:KX),oP 182 3 177 (N y) (M (H w)+5) (M (H w)+2) (d++[(⟨M (H q)+2,M (H q)+1,⟨O (aD (M (H W)) 0),N aI,aI⟩,0,List.replicate (N y) 1073741824⟩:fZ)]) Q z->Kept (λb=>b≠M (H w)+2/\(Value.slice Nr (N d) vT).ownBlock≠O b) q Q->(∀b,bQ (M (H w)+2) z (d++[(⟨M (H q)+2,M (H q)+1,⟨O (aD (M (H W)) 0),N aI,aI⟩,0,List.replicate (N y) 1073741824⟩:fZ)]) b->bQ (M (H w)+2) (Z Nr (N d) vT) d b∨b=M (H W)∨(M (H q)<=b/\b<M (H Q)))->
      (∃gr sS,z = Z (O (aD gr 0)) (N d+1) sS/\Am Q (aD gr (N d))=O (Y (O (aD (M (H q)+2) 0))))/\Am Q (aD (M (H w)+2) 0)=O z/\Am Q (aD (M (H w)+1) 0)=O (Z ni (N y) dV)/\
      Calls V 130 #[Y (O (aD (M (H q)+2) 0)),x.val,Z ni (N y) dV] Q.drew λe W7=>(∃u,e=FR u)/\
       ∃o2,(∃bU z,GI V 182 3 177 209 ⟨nU,eQ,R⟩ ⟨ni,dV,y⟩ w (X++[x]) bU o2 W7 z)/\Kept (λb=>¬o1 b) W W7/\∀b,o2 b->o1 b∨(M (H W)<=b/\b<M (H W7))∨(ah.aT x=O b/\M (H wc)<=b)):=by
     intro Q z ag C ak;have hi:N d<N (d++[(⟨M (H q)+2,M (H q)+1,⟨O (aD (M (H W)) 0),N aI,aI⟩,0,List.replicate (N y) 1073741824⟩:fZ)]):=by simp
     have bI:(d++[(⟨M (H q)+2,M (H q)+1,⟨O (aD (M (H W)) 0),N aI,aI⟩,0,List.replicate (N y) 1073741824⟩:fZ)])[N d]=(⟨M (H q)+2,M (H q)+1,⟨O (aD (M (H W)) 0),N aI,aI⟩,0,List.replicate (N y) 1073741824⟩:fZ):=by simp
     have dx:(d++[(⟨M (H q)+2,M (H q)+1,⟨O (aD (M (H W)) 0),N aI,aI⟩,0,List.replicate (N y) 1073741824⟩:fZ)])[N d].gb=M (H q)+2:=by rw[bI]
     have eO:(d++[(⟨M (H q)+2,M (H q)+1,⟨O (aD (M (H W)) 0),N aI,aI⟩,0,List.replicate (N y) 1073741824⟩:fZ)])[N d].sb=M (H q)+1:=by rw[bI]
     have Pd:∀b,(Value.slice Nr (N d) vT).ownBlock=O b->M (H w)+5<=b:=λb p=>(Xf L.o.xE.own p).1;have Sb:∀b,b<M (H w)+5->b≠M (H w)+2->b≠M (H w)+2/\(Value.slice Nr (N d) vT).ownBlock≠O b:=λb p aP=>⟨aP,λe=>by have:=Pd b e;omega⟩;have eP:=ZY di C (Sb _ (by show M (H w)<_;omega) (by show M (H w)≠_;omega));have bK:=ZY dh C (Sb _ (by show M (H w)+1<_;omega) (by show M (H w)+1≠_;omega));have eT:=ZY dm C (Sb _ (by show M (H w)+4<_;omega) (by show M (H w)+4≠_;omega));have eU:kC V 209 3 (N R) (M (H w)+3) (N X+2) ((d++[(⟨M (H q)+2,M (H q)+1,⟨O (aD (M (H W)) 0),N aI,aI⟩,0,List.replicate (N y) 1073741824⟩:fZ)]).map (·.k.xs)) Q:=by rw[Ql];exact Y0.keep (C.block _ Y0.lt (Sb _ (by omega) (by omega)))
     have bL:∀g∈d++[(⟨M (H q)+2,M (H q)+1,⟨O (aD (M (H W)) 0),N aI,aI⟩,0,List.replicate (N y) 1073741824⟩:fZ)],yE g/\g.cnt<=N X:=by
      intro g hg;rcases Ze.1 hg with hg|hg
      .exact L.o.sums g hg
      .rw[Xj]at hg;rw[hg];exact⟨rM _ _ _ _,Q4 _⟩
     have DF:∀s:Nat->Prop,(∀b,b<M (H W)->s b->b≠M (H w)+3)->Kept s W q:=λs hs=>(ZA aK.o (λb p _=>p)).trans' (t:=λb=>b<M (H W)/\s b) (ai.mono λb _ h=>hs b h.1 h.2) (λb p h=>⟨p,h⟩);have dz:=(HG.o.below.trans ((DF (λb=>b<M (H w)) (λb _ h=>by omega)).below (by omega) (λb p=>p))).trans (C.below (by have:=HG.o.below.size;omega) (λb p=>Sb b (by omega) (by omega)));have aU:∀b,ah.aT x=O b->¬bQ (M (H w)+2) (Z Nr (N d) vT) d b/\b≠M (H w)+3/\b<M (H W):=λb p=>⟨λh=>(Im.o b p).1 ((HG.o.iff b).2 (.inl h)),λh=>(Im.o b p).1 ((HG.o.iff b).2 (.inr h)),ah.AV HX.o p⟩;have eY:ah.At x Q:=by refine ah.keep (ah.keep HX.o (Q6 aK.o.size cO) (λb p aY=>(DF (λb=>b≠M (H w)+3) (λb _ h=>h)).block b p (aU b aY).2.1)) C.size (λb p aY=>C.block b p ⟨λe=>(aU b aY).1 (.inl e),λe=>(aU b aY).1 (.inr (.inl e))⟩)
     have aS:∀b,ah.aT x=O b->¬bQ (M (H w)+2) z (d++[(⟨M (H q)+2,M (H q)+1,⟨O (aD (M (H W)) 0),N aI,aI⟩,0,List.replicate (N y) 1073741824⟩:fZ)]) b:=λb p h=>by
      have h1:=aU b p;rcases ak b h with h|h|h
      .exact h1.1 h
      .omega
      .omega
     have aa:=Mj w Q (d++[(⟨M (H q)+2,M (H q)+1,⟨O (aD (M (H W)) 0),N aI,aI⟩,0,List.replicate (N y) 1073741824⟩:fZ)]) z ⟨ni,dV,y⟩ x ag dz Y8.o vH.o eY aS (λg hg=>⟨(bL g hg).1,by have:=(bL g hg).2;omega⟩) (N9.o _ ay.o) (Cr.o _ ay.o) hi;have eZ:Value.pointer (O ⟨(d++[(⟨M (H q)+2,M (H q)+1,⟨O (aD (M (H W)) 0),N aI,aI⟩,0,List.replicate (N y) 1073741824⟩:fZ)])[N d].gb,0,E5⟩)=Value.pointer (O (aD (M (H q)+2) 0)):=by rw[dx]
     rw[eZ]at aa;refine⟨?_,ag.box,bK,aa.mono ?_⟩
     .obtain⟨gr,sS,hv,hc⟩:=wK ag.own (i:=N d) (by simp);refine⟨gr,sS,by rw[hv];simp,?_⟩;rw[hc,QK,Xq hi,bI];rfl
     .rintro e W7 ⟨hu,r1,r2,r3,r4⟩;refine⟨hu,_,⟨_,_,GI.afH (x:=x) ag eU bL eP bK eT dz hi (acg L.o.fold (by rw[bC.o];exact hf) (by show (⟨aI,0,List.replicate (N y) 1073741824⟩:Gr)=mR _ _;rw[bC.o];rfl)) (N9.o _ ay.o) r1 r2 r3⟩,?_,λb p=>?_⟩
      .have h1:Kept (λb=>¬o1 b) W q:=DF _ (λb _ h e=>h ((HG.o.iff b).2 (.inr e)));have h2:Kept (λb=>¬o1 b) q Q:=C.mono λb _ h=>⟨λe=>h ((HG.o.iff b).2 (.inl (.inl e))),λe=>h ((HG.o.iff b).2 (.inl (.inr (.inl e))))⟩
       refine(h1.trans h2).trans' (t:=λb=>b<M (H W)) (r3.mono λb _ h=>?_) (λb p _=>p);rw[dx,eO];omega
      .skip;have gy:=C.size;rcases p with p|p
       .rcases ak b p with h|h|h
        .exact .inl ((HG.o.iff b).2 (.inl h))
        .exact .inr (.inl ⟨by omega,by omega⟩)
        .exact .inr (.inl ⟨by omega,by omega⟩)
       .exact .inl ((HG.o.iff b).2 (.inr p))
    have HF:=Zh hf;clear hf ai cO Y0 di dm bH dM cZ eF eG dn dw hlen;have FT:V.follows .mixedOrders=true:=by kernel_rfl
    obtain⟨fO,bF,gM⟩:=x;unfold ae.val at*;simp only at*;gi_upto_region 15 with (refine⟨trivial,rfl,Z4 l (ZG.2 (av.mono ?_))⟩;rintro e P ⟨rfl,rfl⟩);gi_cut [] from 47 (λQ=>∃z,oP 182 3 177 (N y) (M (H w)+5) (M (H w)+2) (d++[(⟨M (H q)+2,M (H q)+1,⟨O (aD (M (H W)) 0),N aI,aI⟩,0,List.replicate (N y) 1073741824⟩:fZ)]) Q z/\Kept (λb=>b≠M (H w)+2/\(Value.slice Nr (N d) vT).ownBlock≠O b) q Q/\∀b,bQ (M (H w)+2) z (d++[(⟨M (H q)+2,M (H q)+1,⟨O (aD (M (H W)) 0),N aI,aI⟩,0,List.replicate (N y) 1073741824⟩:fZ)]) b->bQ (M (H w)+2) (Z Nr (N d) vT) d b∨b=M (H W)∨(M (H q)<=b/\b<M (H Q)))
    case first=>
     refine wpIn_region_any FT (nL (l8 (by kernel_rfl)) _ _ _ _ ?_);change wpAnyIn _ _ _ _ _ _ _ _ _ (World.drew _);refine iT 1 (Z (O (aD (M (H W)) 0)) (N aI) (N aI)) ?_
     repeat' first
      |refine iJ 0 2 ?_ ?_
      |refine iJ 0 4 ?_ ?_
      |refine iJ 0 5 ?_ ?_
      |refine iQ 0 ?_
      |refine iQ 2 ?_
      |refine iQ 4 ?_
      |refine iQ 5 ?_
      |refine iQ 6 ?_
      |refine iQ 7 ?_
      |refine iT 3 (I J (N y:Int)) ?_
      |refine iD ?_;gi_wp2_with fail;gi_meet;assumption
      |intro K hK;refine Kj (by rfl) _ _ _ (by rfl) (Z Nr (N d) vT) (Z (O ⟨_,0,E5⟩) 1 1) (Z _ _ _) _ (by rfl) (by rfl) (by assumption) ?_;refine hK _ _ ?_;clear hK K
      |intro K hK;go_simp;refine hK _ _ ?_;clear hK K
      |intro K hK;go_simp;refine⟨trivial,rfl,ZG.2 (az.mono ?_)⟩;rintro e P ⟨rfl,dN,VV,bT,dO⟩;obtain⟨v5,w5,iW,fB,fC,⟨dB,dC,dD,rfl⟩,af⟩:=bu.o P dN VV bT dO;have bz:=ZY (A:=q.drew) df (ZA (s:=λ_=>True) bT (λb p _=>p)) trivial;have ek:=ZY bz (ZE (s:=λ_=>True) P (FL #[Y (O (aD (M (H q)+2) 0))] 177)) trivial;clear dN VV bT dO;refine hK _ _ ?_;clear hK K
    case rest=>
     obtain⟨z,ag,C,ak⟩:=hcut;obtain⟨⟨gr,sS,rfl,cu⟩,gD,bK,aa⟩:=HR.o _ z ag C ak;clear ag C ak df dh az dL bZ bY av q0 q1 q2 q3 eD fG fH dJ;have gz:¬((N d:Int)+1<=(N d:Int)):=by omega
     gi_wp2_with fail;refine wpIn_region_any FT (nL (l8 (by kernel_rfl)) _ _ _ _ ?_);change wpAnyIn _ _ _ _ _ _ _ _ _ (World.drew _);refine iT 1 (I J (N d:Int)) ?_;refine iT 4 (Z fO (N gM) bF) ?_
     repeat' first
      |refine iJ 0 5 ?_ ?_
      |refine iJ 3 5 ?_ ?_
      |refine iQ 0 ?_
      |refine iQ 3 ?_
      |refine iQ 5 ?_
      |refine iQ 6 ?_
      |refine iT 2 (Y (O (aD gr (N d)))) ?_
      |intro K hK;go_simp;refine hK _ _ ?_;clear hK K
      |intro K hK;go_simp;refine⟨trivial,rfl,ZG.2 (aa.mono ?_)⟩;rintro e W7 ⟨⟨u7,rfl⟩,r7⟩;refine hK _ _ ?_;refine iD ?_;exact r7
  case done=>
   rintro ys o' W2 dP ⟨d,v,S⟩ fT dQ hD;have hc:=S.xE.box;obtain⟨va,vn,vc,rfl⟩:=Xg S.xE.own;obtain⟨HG,G5,fU⟩:=fe S dP dQ;clear S dP fT dQ;gi_wp2;have fo:¬o' (M (H wc)):=λh=>by
    rcases fU.o _ h with h|h
    .rcases h with h|h
     .have:=aH.o.xE.lt h;omega
     .have:=ax.o;omega
    .omega
   have af:=HG.o.keep (ZB (s:=λb=>b≠M (H wc)) W2 (.deferred E5) (λh=>h rfl)) (λb p e=>by
    rcases p with p|p
    .exact fo (e ▸ p)
    .have:=ax.o;omega)
   refine⟨by simp,.inl ⟨_,_,rfl,Z5 hD,?_⟩⟩;refine⟨_,results_tmp rfl _ _ _,Z va vn vc,d,rfl,?_,af.xE,af.below⟩;rw[af.fold];unfold fq;have fu:ys.map ae.xs=rows:=G5.o;rw[<-fu,List.foldl_map]
end
section
open Go.Maps Go.WideMaps
def Sj(v:KX):Option (DataW KX × List MemPlace):=O (.held v,[])
def af7(κ:Int):Prop:=(Lit.int J κ).wf=T
structure Bi(P:Program)(ti tE:TypeId)(base bm n:Nat)(aH:Int->List ae)(val:Int->KX)(W:U):Prop where
 map:∃D:DataW KX,W.ownsMap P ti Sj bm n D/\∀κ,af7 κ->D.atKey (.int J κ) (.held (.slice E5 0 0))=.held (val κ)
 own:∀κ,W.ownsRow base tE 1 (val κ) (N (aH κ)) ((aH κ).map ae.val)
 apart:∀κ κ',κ≠κ'->∀b,(val κ).ownBlock=O b->(val κ').ownBlock≠O b
 low:bm<base
def gU(bm:Nat)(val:Int->KX)(b:Nat):Prop:=b=bm∨∃κ,(val κ).ownBlock=O b
def Bi.fresh(P:Program)(ti tE:TypeId)(w:U):Bi P ti tE (M (H w)+1) (M (H w)) 0 (λ_=>[]) (λ_=>Z E5 0 0) (w.alloc (.map #[] 0)):=
 ⟨⟨_,World.ownsMap_made w P ti _,λ_ _=>rfl⟩,λ_=>Xl _ _ _ _,λ_ _ _ b h=>(by cases h),Nat.lt_succ_self _⟩
def Bi.keep{A B:U}(h:Bi P ti tE base bm n aH val A){s:Nat->Prop}(hk:Kept s A B)(hs:∀b,gU bm val b->s b):Bi P ti tE base bm n aH val B:=by obtain⟨⟨D,k,i⟩,d,j,e⟩:=h;have f:=k.lt;obtain⟨l,a,m,p⟩:=k;exact⟨⟨D,⟨l,a,(hk.block _ f (hs _ (.inl rfl))).trans m,p⟩,i⟩,λκ=>Xe (d κ) hk (λg q=>hs g (.inr ⟨κ,q⟩)),j,e⟩
def Bi.look{e:TypeId}(h:Bi P ti tE base bm n aH val W)(hi:P.underlying ti=O (.int J))(ht:P.underlying t=O (.map ti e))
  (hz:(zeroValue e).run P W=.ok (Z E5 0 0) W) {κ:Int} (hw:af7 κ):(Instr.lookup t (.map (O bm)) (I J κ) F).run P W=.ok (val κ) W:=by
 obtain⟨D,f,d⟩:=h.map;obtain⟨v,ps,b,a⟩:=f.lookup (int_keyed hi) ht hz (zd:=.held (.slice E5 0 0)) (zp:=[]) rfl (keyOf_int_mk hi hw);rw[d κ hw]at a;have e:v=val κ:=by unfold Sj at a;injection a with a;injection a with a _;injection a
 rw[<-e];exact b
def acp(W:U)(base bm n:Nat)(aH:Int->List ae)(val:Int->KX)(h:Bi V 3 23 base bm n aH val W)(hn:n<=1000000)(hlow:base<=M (H W))(κ0:Int)(hw:af7 κ0)(hsl:N (aH κ0)<=1000000)(x:ae)(ty:TypeId) :
  ∃l t A,(Builtin.append_ #[30,30] ty #[val κ0,Z (O (aD (M (H W)) 0)) 1 1]).run V (W.alloc (FL #[x.val] 23))=.ok l t/\(Instr.mapUpdate 222 (.map (O bm)) (I J κ0) l).run V t=.ok () A/\
   Bi V 3 23 base bm (n+1) (λκ=>if κ=κ0 then aH κ++[x] else aH κ) (λκ=>if κ=κ0 then l else val κ) A/\(∃a m c,l = Z a m c)/\Kept (λb=>¬gU bm val b) (W.alloc (FL #[x.val] 23)) t/\Kept (λb=>¬gU bm val b) t A/\
   ∀b,gU bm (λκ=>if κ=κ0 then l else val κ) b->gU bm val b∨(M (H W)<b/\b<M (H A)):=by
 obtain⟨i0,hi,X,aa,af⟩:=Xk Tryz.xY;have Q:Bi V 3 23 base bm n aH val (W.alloc (FL #[x.val] 23)):=h.keep (s:=λ_=>True) (ZE _ _) (λ_ _=>trivial);have R:M (H (W.alloc (FL #[x.val] 23)))=M (H W)+1:=by simp
 obtain⟨l,t,hr,i,k,_,ag⟩:=Xz (P:=V) (W.alloc (FL #[x.val] 23)) base 30 ty 23 i0 (.slice E5 0 0) 1 24 Tryz.underlying30 hi X aa af rfl (by decide) (val κ0) (N (aH κ0)) ((aH κ0).map ae.val) (Q.own κ0)
  (aD (M (H W)) 0) 1 1 [x.val] rfl (cell_one_new W x.val 23) (by simp[ae.val,Value.oneCell']) (by unfold maxLen;omega) (by omega) (by omega)
 have p:∀κ b,(val κ).ownBlock=O b->b<M (H W)/\base<=b:=λκ b f=>by have:=Xf (h.own κ) f;omega
 have S:O bm≠(val κ0).ownBlock:=λe=>by have:=(p κ0 bm e.symm).2;have:=h.low;omega
 obtain⟨D,hD,ah⟩:=Q.map;have B:=hD.kept k S;obtain⟨A,ai,aj,ak⟩:=B.update (int_keyed Tryz.underlying3) Tryz.underlying222 (by unfold maxLen;omega) (keyOf_int_mk Tryz.underlying3 hw) (d:=.held l) (ps:=[]) rfl;have C:Kept (λb=>(val κ0).ownBlock≠O b) (W.alloc (FL #[x.val] 23)) t:=Xd k (λr e h=>h e);have q:Kept (λb=>b≠bm) t A:=Xd ak (λr e h=>by cases e;exact h rfl);have au:=q.size;have y:∀b,l.ownBlock=O b->(val κ0).ownBlock=O b∨b=M (H W)+1:=λb f=>by
  rcases ag with e|e
  .rw[e]at f;exact .inl f
  .rw[e,R]at f;injection f with f;exact .inr f.symm
 have G:∀b,l.ownBlock=O b->b<M (H t)/\base<=b:=λb f=>by have:=Xf i f;omega
 refine⟨l,t,A,hr,ai,⟨⟨_,aj,λκ hκ=>?_⟩,λκ=>?_,λκ K v b f j=>?_,h.low⟩,?_,C.mono (λb _ h h'=>h (.inr ⟨κ0,h'⟩)),q.mono (λb _ h e=>h (.inl e)),λb f=>?_⟩
 .by_cases e:κ=κ0
  .rw[Qu e,e,atKey_put_same B.isMap ((int_keyed Tryz.underlying3).key (keyOf_int_mk Tryz.underlying3 hw))]
  .rw[QC e,atKey_put_other (λh=>e (by injection h)),ah κ hκ]
 .by_cases e:κ=κ0
  .simp only[Qu e];rw[QI,Ql,e];exact Xe i q (λg L=>by have:=(G g L).2;have:=h.low;omega)
  .simp only[QC e];refine Xe (Xe (Q.own κ) C (λg L z=>?_)) q (λg L=>by have:=(p κ g L).2;have:=h.low;omega);exact h.apart κ κ0 e g L z
 .by_cases e:κ=κ0
  .have z:K≠κ0:=λh=>v (e.trans h.symm)
   simp only[Qu e]at f;simp only[QC z]at j;rcases y b f with u|u
   .exact h.apart κ0 K (λh=>z h.symm) b u j
   .have:=(p K b j).1;omega
  .simp only[QC e]at f;by_cases z:K = κ0
   .simp only[Qu z]at j;rcases y b j with u|u
    .exact h.apart κ κ0 e b f u
    .have:=(p κ b f).1;omega
   .simp only[QC z]at j;exact h.apart κ K v b f j
 .rcases i.2 with⟨e,_⟩|⟨g,cap,cur,e,_⟩
  .exact⟨_,_,_,e⟩
  .exact⟨_,_,_,e⟩
 .rcases f with f|⟨κ,f⟩
  .exact .inl (.inl f)
  .by_cases e:κ=κ0
   .simp only[Qu e]at f;rcases y b f with u|u
    .exact .inl (.inr ⟨κ0,u⟩)
    .have:=(G b f).1;exact .inr ⟨by omega,by omega⟩
   .simp only[QC e]at f;exact .inl (.inr ⟨κ,f⟩)
end
theorem EU:∀{xs:List Int} {k:Nat} {v:Int},k<N xs->v ∉ xs.take k->E xs k 0=v->xs.idxOf v=k
 |[],k,v,h,_,_=>by simp at h
 |x::xs,0,v,_,_,e=>by grind
 |x::xs,k+1,v,h,hn,e=>by rw[List.take_succ_cons]at hn;have hne:¬x=v:=λe'=>hn (by simp[e']);have:=EU (xs:=xs) (k:=k) (v:=v) (by simpa using h) (λh'=>hn (by simp[h'])) (by simpa using e);grind
theorem Vl(ao:Option Addr)(cap:Nat)(xs:List Int)(v:Int)(w:U)(hx:aA w ao xs)(hin:v∈xs) :
  Ce 167 #[Z ao (N xs) cap,I J v] w (I J (bI xs v)):=by
 have u:=hx.1;have r:=Zh hin;clear hin;go_enter Tryz.func167,Tryz.ntmps167;go_wp2;go_loop [8] (λi=>∃k:Nat,k<=N xs/\i=I J k/\v ∉ xs.take k) (λi=>N xs-(intOf i).toNat)
 case atStart=>grind
 case round=>
  obtain⟨k,y,rfl,g⟩:=hrel;by_cases a:k<N xs
  .obtain⟨b,off,rfl,q⟩:=hx.get a;have t:=q k a;have n:=Zh (uq (v:=v) a);have p:Wl _:=g;have j:Wl (E xs k 0=v->bI xs v=(k:Int)):=λe=>by unfold bI;rw[EU a p.o e]
   clear q hx g;obtain⟨x,d⟩:=eY (E xs k 0);rw[<-d]at t n j;clear d;by_cases f:v=x
   .have l:(v==x)=true:=by simp[f]
    have m:=Zh (j.o f.symm);clear j f;go_wp2;go_ret;exact⟨Qe m.o.symm,rfl⟩
   .have l:(v==x)=false:=by simp[f]
    go_wp2;go_round
    case rel=>exact⟨k+1,by omega,by go_num,λe=>by
     rcases n.o.1 e with e|e
     .exact p.o e
     .exact f e.symm⟩
    case measure=>simp[intOf];omega
  .have e:k=N xs:=by omega
   rw[e,Zb]at g;exact absurd r.o g
def zq(v:KX)(c:ae)(iC:Int)(w:U)(hv:∃g lb,v=.func (.func g) #[] lb)(hc:c.At w)(hin:iC∈c.xs) :
  Cb 125 #[.agg #[v,c.val],I J iC] w (I J (bI c.xs iC)):=by obtain⟨g,lb,rfl⟩:=hv;obtain⟨i,j,b⟩:=c;unfold ae.val at*;simp only at*;have a:=bJ w (FL #[.func (.func g) #[] lb,Z i (N b) j] 129);have d:=Vl i j b iC _ (Qt a hc) hin;have l:=Zh a;have f:Wl (∃r,r=bI b iC):=⟨_,rfl⟩;obtain⟨r,k⟩:=f.o;rw[<-k]at d ⊢;clear a hc hin k f;go_enter Tryz.func125,Tryz.ntmps125;go_wp2_with fail;refine d.mono ?_;rintro e m ⟨rfl,rfl⟩;go_wp2;go_ret;exact⟨rfl,l.o⟩
def EW(v:KX)(c cs:ae)(w:U)(hv:∃g lb,v=.func (.func g) #[] lb)(hc:c.At w)(hs:cs.At w)(hin:∀x∈cs.xs,x∈c.xs)(hl:N cs.xs<=1000) :
  Calls V 62 #[.agg #[v,c.val],cs.val] w λe R=>∃j:ae,e=FR j.val/\j.xs=aO c.xs cs.xs/\ah.At j R/\Bw w R/\∀b,ah.aT j=O b->M (H w)<=b:=by
 have HV:=Zh hv;obtain⟨g,lb,rfl⟩:=hv;obtain⟨K,L,d⟩:=c;obtain⟨ni,dV,a⟩:=cs;have HC:Wl _:=hc;unfold ae.val;simp only at*;obtain⟨p,n⟩:∃x,w.alloc (FL #[.func (.func g) #[] lb,Z K (N d) L] 129)=x:=⟨_,rfl⟩;have m:Bw w p:=by rw[<-n];exact bJ _ _
 have q0:Am p (aD (M (H w)) 0)=O (.func (.func g) #[] lb):=by rw[<-n];simp
 have q1:Am p (aD (M (H w)) 1)=O (Z K (N d) L):=by rw[<-n];simp
 have q:aA p ni a:=Qt m hs;have Bt:Wl (∀X D,Bw p X->D∈d->Calls V 125 #[.agg #[.func (.func g) #[] lb,Z K (N d) L],I J D] X λe R=>e=FR (I J (bI d D))/\Bw X R):=λX D hX fJ=>
  zq (.func (.func g) #[] lb) ⟨K,L,d⟩ D X ⟨g,lb,rfl⟩ (Qt (m.trans (hX.mono m.size)) HC.o) fJ
 have LX:=Zh hin;have ak:=q.1;have S:Wl _:=q;have HL:=Zh hl;clear hc hs hin q hl;go_enter Tryz.func62,Tryz.ntmps62;go_wp2;clear n;go_loopw [5,10] (λv j wr=>∃k:Nat,k<=N a/\j=I J k/\Wl (wr.ownsRow (M (H p)) 3 1 v (N (aO d (a.take k))) ((aO d (a.take k)).map (Value.int J)))/\Bw p wr) (λ_ j _=>N a-(intOf j).toNat)
 case atStart=>exact⟨0,Q4 _,rfl,Xl _ _ _ _,Qr _ _⟩
 case round=>
  obtain⟨k,hk,rfl,Q,f⟩:=hrel;obtain⟨W,rm,rc,rfl⟩:=Xg Q.o;by_cases l:k<N a
  .obtain⟨b,off,rfl,A⟩:=Qg S.o l;obtain⟨d1,e0,e1⟩:=J3 f (A k l) q0 q1;have u:aO d (a.take (k+1))=aO d (a.take k)++[bI d (E a k 0)]:=by unfold aO;rw[Qh l,Ql];simp[List.getD,l]
   have y:N (aO d (a.take k))<=1000:=by unfold aO;rw[Q8,XK];have:=HL.o;omega
   have i:=Bt.o wr (E a k 0) f (LX.o _ (by simp[List.getD,l]));obtain⟨nV,Lt,aa⟩:=fe f u y;clear A f u y;generalize bI d (E a k 0)=P at*;generalize E a k 0=C at*;go_wp2_with fail;refine i.mono ?_;rintro e w3 ⟨rfl,t⟩;have r:=Xe Q.o (ZA (s:=λb=>b<M (H wr)) t (λb _ h=>h)) (λg hg=>(Xf Q.o hg).2);have G:=nV.o.trans (t.mono nV.o.size);obtain⟨v',w5,iW,mq,B,⟨va,vm,vc,rfl⟩,-⟩:=iA w3 (M (H p)) (Z W rm rc) (aO d (a.take k)) r (by have:=aa.o;omega) G.size P 23;have z:=G.trans (B.below G.size (λb hb e=>by have:=(Xf r e).1;omega));rw[<-Lt.o]at mq;have zJ:Wl _:=mq;have jS:=Zh z;clear mq B z r G t i e0 e1 d1;go_wp2_with (first|(at_builtin;refine Xy rfl (.tmp 14) (.tmp 18) 23 rfl (Z W rm rc) (Z (O (aD (M (H w3)) 0)) 1 1) (Z va vm vc) w5 rfl rfl iW ?_));clear iW;go_wp2;go_roundw
   case rel=>exact⟨k+1,by omega,by go_num,zJ.o,jS.o⟩
   case measure=>simp[intOf];omega
  .obtain rfl:k=N a:=by omega
   have HF:Wl (aO d (a.take (N a))=aO d a):=by show _=_;rw[Zb]
   obtain⟨HB,rH⟩:=aV f m;clear f;go_wp2;go_ret;have ho:=Q.o;rw[HF.o]at ho;obtain⟨j,af,ag,ai,aj⟩:=oC ho (by unfold aO;rw[Q8];have:=HL.o;omega);exact⟨j,by show Ending.returned (Z W rm rc)=FR j.val;rw[af],ag,ai,rH.o.trans (HB.o.mono rH.o.size),λb hb=>Q6 rH.o.size (aj b hb)⟩
structure ag5(co:Option Addr)(ts:List ag)(q:af)(w:U):Prop where
 azv:aN w co ts
 qry:q.At w
 cat:dL ts=T
 five:N q.src.xs<=5
 src:aM q.src.xs (N ts)=T
 cols:∀i,i<N q.wh->∀x∈aG (E q.wh i lz).cs,0<=x/\x<ak ts q.src.xs
def ag5.below{co:Option Addr}{ts:List ag}{q:af}{w w':U}(h:ag5 co ts q w)(hb:Bw w w'):ag5 co ts q w':=⟨h.azv.below hb,h.qry.below hb,h.cat,h.five,h.src,h.cols⟩
