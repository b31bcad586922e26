import Derived.Test.YtnjbikdhpnopjaaGreatDoorA01
set_option linter.all false
set_option maxRecDepth 100000
set_option maxHeartbeats 0
namespace Go.Proofs.Zz
open Go.RowKit Go.Shelf
open Go.Value renaming slice->Z,int->I
open Go.Proofs.Tryz renaming prog->V
open Option renaming some->O
open Go.IntKind renaming i64->J,u64->Vo
open Go renaming World->U
open Go.World renaming heap->H
open _root_.Array renaming size->M
open Go.Obj renaming cells->EP
variable {b c k:Nat} {W:U} {cs:Array Value} {t:TypeId}
def sliceAt4(a:Addr)(x:U)(c:Int)(h0:0<=c)(h4:c<=4) :
  (Instr.sliceAt 47 (.pointer (O a)) none (O (I J c)) none).run V x=.ok (Z (O a) c.toNat 4) x:=by
 have b:V.arrayLen 47=4:=by kernel_rfl
 have d:V.elem 47=3:=by kernel_rfl
 rw[run_sliceAt_array_h x 47 a (by rw[b,d];exact Tryz.underlying47) J c h0 (by rw[b];omega),b,d];simp[slicedAt,Addr.add]
def Rl(c:Nat)(w:U)(hc:c<=4) :
  Ce 223 #[I Vo 1,I Vo c] w (.tuple #[I Vo 0,I Vo c]):=by
 obtain rfl|rfl|rfl|rfl|rfl:c=0∨c=1∨c=2∨c=3∨c=4:=by omega
 all_goals
  go_enter Tryz.func223,Tryz.ntmps223;go_wp2;go_ret2;exact⟨rfl,rfl⟩
def abD(c:Nat)(w:U)(hc:c<=4) :
  Ce 229 #[I Vo 1,I Vo c] w (.tuple #[I Vo 0,I Vo c]):=by have h:=Rl c w hc;go_enter Tryz.func229,Tryz.ntmps229;go_wp2_with fail;refine h.mono ?_;rintro e a ⟨rfl,rfl⟩;go_wp2;go_ret2;exact⟨rfl,rfl⟩
def eO(v:Int)(c k:Nat):List Value:=List.replicate k (Value.int J v)++List.replicate (c-k) (Value.int J 0)
def Vv(v:Int)(h:k<=c):(eO v c k).length=c:=by simp[eO];omega
def Vw(v:Int)(c:Nat):eO v c c=List.replicate c (Value.int J v):=by simp[eO]
def Rm(v:Int)(c:Nat):madeCells #[I J 0] c=(eO v c 0).toArray:=by rw[zu];simp[eO]
def zG(v:Int){m:Nat}(h:k+m<=c):splice (eO v c k) k (List.replicate m (Value.int J v))=eO v c (k+m):=by unfold splice eO;rw[List.take_left' (by simp),XF,List.drop_append,XF,List.drop_eq_nil_of_le (by simp),QU,List.drop_replicate,<-ZE,List.replicate_append_replicate];congr 2;omega
def Rn(v:Int){j:Nat}(hj:j<k):(eO v c k)[j]? = O (Value.int J v):=by unfold eO;rw[List.getElem?_append_left (by simpa using hj),List.getElem?_replicate,Zt hj]
def Tryz.Gb:(V.info? 3).map (·.size)=O 1:=by kernel_rfl
def abE(w:U)(xb:Nat)(v:Int)(c:Nat)(hc:0<c)(hx:w.cell? (aD xb 0)=O (I J v))(ty:TypeId) :
  (Builtin.copy_ #[22,22] ty #[Z (O (aD (M (H w)) 0)) c c,Z (O (aD xb 0)) 1 1]).run V (w.alloc (EP (eO v c 0).toArray 3))=.ok (goInt 1) (w.alloc (EP (eO v c 1).toArray 3)):=by
 rw[zt (w.alloc (EP (eO v c 0).toArray 3)) 22 22 ty 3 1 (M (H w)) c c (O (aD xb 0)) 1 1 (eO v c 0).toArray 3 [.int J v] Tryz.underlying22 Tryz.Gb (pR w _) hc rfl
  (λ_=>⟨_,rfl,λj u a=>by
   match j,a with
   |0,a=>cases a;exact cB (dN w _) hx⟩) (by simp[eO];omega) (λu b=>by simp at b;subst b;rfl),uP]
 have h:splice (eO v c 0) 0 (List.replicate 1 (Value.int J v))=eO v c (0+1):=zG v (by omega);unfold splice at h;simp only[List.take_zero,QU,ZK,XF,List.replicate_one]at h;exact congrArg (λl=>Result.ok (goInt 1) (w.alloc (EP (List.toArray l) 3))) h
def abF(W:U)(g:Nat)(v:Int)(c k m:Nat)(hg:W.heap[g]? = O (EP (eO v c k).toArray 3))(hm:Nat.min k (c-k)=m)(hk:0<k)(hc:k<c)(ty:TypeId) :
  (Builtin.copy_ #[22,22] ty #[Z (O (aD g k)) (c-k) (c-k),Z (O (aD g 0)) k c]).run V W=.ok (I J m) (W.setRow g (eO v c (k+m)).toArray):=by
 have f:min k (c-k)=m:=hm;have a:m<=k/\k+m<=c:=by omega
 rw[run_copy_row (P:=V) W 22 22 ty 3 g k (c-k) (c-k) (aD g 0) k c (eO v c k).toArray 3 (List.replicate m (.int J v)) Tryz.underlying22 Tryz.Gb hg (by rw[XF,hm])
  (λj u e=>by
   have b:j<m:=by have:=(Zy.1 e).1;simpa using this
   rw[List.getElem?_replicate,Zt b]at e;cases e;have d:=Rn v (c:=c) (k:=k) (j:=j) (by omega);rw[iB];simp[World.cell?,hg,d]) (by rw[XF,QN,Vv v (by omega)];omega) (λu i=>by obtain⟨_,rfl⟩:=List.mem_replicate.1 i;rfl)]
 have h:=zG v a.2;unfold splice at h;rw[XF]at h ⊢;rw[<-ZE]at h;exact congrArg (λl=>Result.ok (goInt m) (W.setRow g (List.toArray l))) h
def Vx(xb:Nat)(v:Int)(c:Nat)(w:U)(hc:c<=4)(hx:w.cell? (aD xb 0)=O (I J v)) :
  Calls V 207 #[Z (O (aD xb 0)) 1 1,I J c] w λe W=>e=.returned (Z (O (aD (M (H w)) 0)) c c)/\W.heap[M (H w)]? = O (EP (List.replicate c (Value.int J v)).toArray 3)/\Below (M (H w)) w W/\M (H W)=M (H w)+1:=by
 have i:=run_make_row' (P:=V) 22 3 (.int J 0) 8 Tryz.underlying22 Tryz.lK rfl J J c (by omega) (by omega);rw[Rm v c]at i;have d:=abD c w hc;obtain⟨b,f⟩:=eX (Nat.min 1 c);have j:b<=c/\b<=1/\(b=0->c=0):=by have h:min 1 c=b:=f;omega
 have l:∀A,(Builtin.copy_ #[22,22] A #[Z (O (aD (M (H w)) 0)) c c,Z (O (aD xb 0)) 1 1]).run V (w.alloc (EP (eO v c 0).toArray 3))=.ok (goInt b) (w.alloc (EP (eO v c b).toArray 3)):=by
  intro A;have h:min 1 c=b:=f;by_cases h0:c=0
  .subst h0;obtain rfl:b=0:=by omega
   exact run_copy_none (P:=V) _ 22 22 A 3 _ _ 0 0 1 1 Tryz.underlying22 Tryz.Gb rfl
  .obtain rfl:b=1:=by omega
   exact abE w xb v c (by omega) hx A
 have qL:=Zh j;clear f j hx;have B:∀n:Nat,goInt (n:Int)=I J n:=λ_=>rfl;rw[B]at l;go_enter Tryz.func207,Tryz.ntmps207;go_wp2_with fail;refine d.mono ?_;rintro e a ⟨rfl,rfl⟩;clear d;go_wp2;go_loopw [8] (λs wr=>∃k:Nat,k<=c/\s=I J k/\(k=0->c=0)/\wr.heap[M (H a)]? = O (EP (eO v c k).toArray 3)/\Below (M (H a)) a wr/\M (H wr)=M (H a)+1) (λs _=>c-(intOf s).toNat)
 case atStart=>exact⟨b,qL.o.1,rfl,qL.o.2.2,pR _ _,dN _ _,by simp⟩
 case round=>
  obtain⟨k,hk,rfl,G,y,K,g⟩:=hrel;by_cases X:k<c
  .obtain⟨m,L⟩:=eX (Nat.min k (c-k))
   have aa:=abF wr.drew (M (H a)) v c k m y L (by omega) X;have C:min k (c-k)=m:=L;have p:0<m/\k+m<=c:=by omega
   obtain⟨z,HS,HB,HG⟩:=om p g K y;clear L C p l i G g K y;go_wp2;go_region
   all_goals
    have q:Below (M (H a)) a (wr.drew.setRow (M (H a)) (eO v c (k+m)).toArray):=below_setRow HB.o.drew (Qn _) _;have r:wrap64 ((k:Int)+(m:Int))=((k+m:Nat):Int):=by have:=z.o;unfold wrap64;omega
    have t:(wr.drew.setRow (M (H a)) (eO v c (k+m)).toArray).heap[M (H a)]? = O (EP (eO v c (k+m)).toArray 3):=setRow_heap wr.drew (M (H a)) _ _ _ _ HG.o;have u:M (H (wr.drew.setRow (M (H a)) (eO v c (k+m)).toArray))=M (H a)+1:=(setRow_size _ _ _).trans HS.o;rw[r];obtain⟨Q,R,S⟩:=dQ q t u;clear q r t u;generalize wr.drew.setRow (M (H a)) (eO v c (k+m)).toArray=wf at*;go_wp2;go_roundw
    case rel=>exact⟨k+m,z.o.2,rfl,λh=>by have:=z.o;omega,R.o,Q.o,S.o⟩
    case measure=>have:=z.o;simp[intOf];omega
  .have D:k=c:=by omega
   subst D;rw[Vw]at y;go_wp2;go_ret;exact⟨rfl,y,K,g⟩
def NK(s v:Int)(w:U)(hs:-2305843009213693952<=s/\s<=2305843009213693952)(hv:-2305843009213693952<=v/\v<=2305843009213693952) :
  Ce 208 #[I J s,I J v] w (I J (J4 s v)):=by
 have d:wrap64 (s+v)=s+v:=by unfold wrap64;omega
 unfold J4;by_cases a:v=1073741824
 .rw[Zt a];subst a;go_enter Tryz.func208,Tryz.ntmps208;go_wp2;go_ret;exact⟨rfl,rfl⟩
 .rw[ZU a];by_cases b:s=1073741824
  .rw[Zt b];subst b;go_enter Tryz.func208,Tryz.ntmps208;go_wp2;go_ret;exact⟨rfl,rfl⟩
  .rw[ZU b];go_enter Tryz.func208,Tryz.ntmps208;go_wp2;go_ret;exact⟨rfl,rfl⟩
def nL(k:ae)(n:Nat)(w:U)(hn:n<=4) :
  Calls V 175 #[k.val,I J n] w λe m=>e=.returned (.pointer (O (aD (M (H w)+2) 0)))/\
   m.heap[M (H w)+2]? = O (EP #[k.val,I J 0,Z (O (aD (M (H w)+1) 0)) n n] 239)/\
   m.heap[M (H w)+1]? = O (EP (List.replicate n (Value.int J 1073741824)).toArray 3)/\Below (M (H w)) w m/\M (H m)=M (H w)+3:=by
 obtain⟨z,A,B⟩:=k;unfold ae.val;simp only;have d:=dN w (EP #[I J 1073741824] 3);have l:=Vx (M (H w)) 1073741824 n (w.alloc (EP #[I J 1073741824] 3)) hn (by simp);have a:M (H (w.alloc (EP #[I J 1073741824] 3)))=M (H w)+1:=by simp
 rw[a]at l;obtain⟨C,b⟩:=eX (w.alloc (EP #[I J 1073741824] 3));obtain⟨f,D,q⟩:=dQ b a d;clear a d;rw[b]at l;clear b;go_enter Tryz.func175,Tryz.ntmps175;go_wp2_with fail;rw[f.o];refine l.mono ?_;rintro e r ⟨rfl,g,i,j⟩;obtain⟨t,u,v⟩:=dQ g i j;clear l g i j;go_wp2;go_ret;have y:M (H r)=M (H w)+2:=v.o;have p:Below (M (H w)) w r:=by have:=q.o;rw[f.o]at this;exact this.trans (u.o.mono (by omega))
 rw[<-y];refine⟨rfl,pR _ _,?_,p.alloc (by omega) _,by simp;omega⟩;exact(Below.heap_alloc r _ _ (by omega)).trans t.o
def Vy{W:U}{b:Nat}{cs:Array Value}{t:TypeId}(h:W.heap[b]? = O (EP cs t)){i:Nat}{v:Value}(hv:cs[i]? = O v):W.cell? (aD b i)=O v:=by simp[World.cell?,h,hv]
def jP(h:W.heap[b]? = O (EP cs t))(i:Nat):W.frozen? (aD b i)=false:=by simp[World.frozen?,h]
def lU(h:W.heap[b]? = O (EP cs t))(i:Nat)(v:Value):(W.setCell (aD b i) v).heap[b]? = O (EP (cs.setIfInBounds i v) t):=by rw[setCell_eq_setRow W b i cs t (0,0) v h];exact setRow_heap W b _ _ _ _ h
def xh(hne:c≠b)(i:Nat)(v:Value):(W.setCell (aD b i) v).heap[c]? = W.heap[c]?:=Below.heap_setCell W (aD b i) v c hne
def XG:=@Vy
