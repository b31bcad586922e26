import Derived.Test.YtpcfbajdeipgbaaGreatDoorX03
set_option linter.all false
set_option maxRecDepth 100000
set_option maxHeartbeats 0
namespace Go.Proofs.Zz
open Go.RowKit Go.Shelf
open List renaming length->N,getD->E
open Go.Value renaming slice->Z,int->I,pointer->Y
open Go.Proofs.Tryz renaming prog->V
open Option renaming some->O
open Go.IntKind renaming i64->J
open Go renaming World->U
open Go.World renaming heap->H,cell?->Am
open _root_.Array renaming size->M
open Go.Obj renaming cells->FL
open Go.Ending renaming returned->FR
def yK(n b:Int)(w:U) :
  Ce 144 #[I J n,I J b] w (.bool (Dj n b)):=by
 by_cases a:0<=n
 .go_enter Tryz.func144,Tryz.ntmps144;go_wp2;go_ret;exact⟨Qd (by simp[Dj];omega),rfl⟩
 .go_enter Tryz.func144,Tryz.ntmps144;go_wp2;go_ret;exact⟨Qd (by simp[Dj];omega),rfl⟩
def Ol(n:Int)(w:U) :
  Ce 112 #[I J n] w (.bool (decide (-1000<=n)&&decide (n<=1000))):=by
 by_cases a:-1000<=n
 .go_enter Tryz.func112,Tryz.ntmps112;go_wp2;go_ret;exact⟨Qd (by simp;omega),rfl⟩
 .go_enter Tryz.func112,Tryz.ntmps112;go_wp2;go_ret;exact⟨Qd (by simp;omega),rfl⟩
def Ku(n b:Int)(p o:Nat)(w:U)(hp:Am w (aD p o)=O (I J b)) :
  Ce 143 #[I J n,Y (O (aD p o))] w (.bool (!Dj n b)):=by have a:=yK n b w;generalize Dj n b=Yq at*;go_enter Tryz.func143,Tryz.ntmps143;go_wp2_with fail;refine a.mono ?_;clear a;rintro e d ⟨rfl,rfl⟩;go_wp2;go_ret;exact⟨Qd rfl,rfl⟩
def Wo(ao:Option Addr)(cap:Nat)(xs:List Int)(bd:Int)(p o:Nat)(w:U)(hx:aA w ao xs)(hp:Am w (aD p o)=O (I J bd)) :
  Calls V 172 #[Z ao (N xs) cap,.func (.func 143) #[] #[Y (O (aD p o))]] w λe y=>∃r,e=FR (I J r)/\foundAt r (xs.any λx=>!Dj x bd)/\y = w:=by
 have A:=hx.1;go_enter Tryz.func172,Tryz.ntmps172;go_wp2;go_loop [8] (λi=>∃k:Nat,k<=N xs/\i=I J k/\Hid (∀j,j<k->(!Dj (E xs j 0) bd)=false)) (λi=>N xs-(intOf i).toNat)
 case atStart=>exact⟨0,Q4 _,rfl,λj g=>absurd g (by omega)⟩
 case round=>
  obtain⟨k,B,rfl,q⟩:=hrel;by_cases a:k<N xs
  .obtain⟨b,off,rfl,t⟩:=hx.get a;have u:=t k a;have f:Hid ((!Dj (E xs k 0) bd)=true->(xs.any λx=>!Dj x bd)=true):=λh=>M4 (z:=0) a h
   have m:=Ku (E xs k 0) bd p o w hp;have n:Hid (E xs k 0=E xs k 0):=rfl;generalize d:E xs k 0=x at*;have n:=Zh d;clear d t hx hp;go_wp2_with fail;refine m.mono ?_;clear m;rintro e C ⟨rfl,rfl⟩;cases hB:Dj x bd
   .rw[hB]at f;go_wp2;go_ret;exact⟨_,Qe rfl,⟨by omega,by rw[f.o rfl];simp⟩,rfl⟩
   .have v:=Zh hB;clear hB;go_wp2;go_round
    case rel=>
     refine⟨k+1,by omega,by go_num,λj g=>?_⟩;by_cases l:j=k
     .subst l;rw[n.o,v.o];rfl
     .exact q.o j (by omega)
    case measure=>simp[intOf];omega
  .have f:Hid ((xs.any λx=>!Dj x bd)=false):=any_none (z:=0) (λj g=>q.o j (by omega));go_wp2;go_ret;exact⟨_,Qe rfl,⟨by omega,by rw[f.o];rfl⟩,rfl⟩
def Kv(ao:Option Addr)(cap:Nat)(xs:List Int)(bd:Int)(p o:Nat)(w:U)(hx:aA w ao xs)(hp:Am w (aD p o)=O (I J bd)) :
  Ce 142 #[Z ao (N xs) cap,.func (.func 143) #[] #[Y (O (aD p o))]] w (.bool (xs.any λx=>!Dj x bd)):=by have a:=Wo ao cap xs bd p o w hx hp;go_enter Tryz.func142,Tryz.ntmps142;go_wp2_with fail;refine a.mono ?_;clear a;rintro e f ⟨r,rfl,b,rfl⟩;have d:=Zh b.2;clear b;go_wp2;go_ret;exact⟨Qd d.o,rfl⟩
def oN(ao:Option Addr)(cap:Nat)(xs:List Int)(bd:Int)(w:U)(hx:aA w ao xs) :
  Cb 89 #[Z ao (N xs) cap,I J bd] w (.bool (aM xs bd)):=by have a:=Kv ao cap xs bd (M (H w)) 0 (w.alloc (FL #[I J bd] 3)) (hx.below (bJ _ _)) (by simp);have b:=Zh (aet xs bd);generalize (xs.any λx=>!Dj x bd)=Yq at*;go_enter Tryz.func89,Tryz.ntmps89;go_wp2_with fail;refine a.mono ?_;clear a;rintro e d ⟨rfl,rfl⟩;go_wp2;go_ret;exact⟨Qd b.o,bJ _ _⟩
theorem wL(gb sb:Nat)(k:ae)(cnt:Nat)(ss:List Int)(w:U)
  (hg:w.heap[gb]? = O (FL #[k.val,I J cnt,Z (O (aD sb 0)) (N ss) (N ss)] 182)) (hs:w.heap[sb]? = O (FL (ss.map (Value.int J)).toArray 3)) (hk:k.At w) (hkn:k.ad=none->k.cap=0) (hkl:N k.xs<=4) (hsl:N ss<=4) (hcnt:cnt<=1000000) :
  Calls V 124 #[Y (O (aD gb 0))] w λe n=>∃v,e=FR v/\n.ownsRow (M (H w)) 3 1 v (N (k.xs++[(cnt:Int)]++ss)) ((k.xs++[(cnt:Int)]++ss).map (Value.int J))/\Bw w n:=by
 have X:Am w (aD gb 0)=O k.val:=Jc hg rfl;have c1:Am w (aD gb 1)=O (I J cnt):=Jc hg rfl;have c2:Am w (aD gb 2)=O (Z (O (aD sb 0)) (N ss) (N ss)):=Jc hg rfl;have D:=(ZH.1 hg).1;obtain⟨b,d,a⟩:=k;unfold ae.val at*;simp only at*;have p:aA w (O (aD sb 0)) ss:=⟨by omega,λi t=>⟨sb,0,rfl,by rw[Q5];exact Jc hs (by simp[List.getD,t])⟩⟩;have G:Hid _:=hk;have K:Hid _:=p;have L:=Zh hkn;clear hg hs hk p;have u:Hid (Calls V 120 #[Z (O (aD (M (H w)+1) 0)) 3 3] ((w.alloc (FL #[I J cnt] 3)).alloc (FL #[Z b (N a) d,Z (O (aD (M (H w)) 0)) 1 1,Z (O (aD sb 0)) (N ss) (N ss)] 23)).drew
   λe n=>∃v,e=FR v/\n.ownsRow (M (H w)) 3 1 v (N (a++[(cnt:Int)]++ss)) ((a++[(cnt:Int)]++ss).map (Value.int J))/\Bw w n):=by
  have q:=bJ w (FL #[I J cnt] 3);have y:=bJ (w.alloc (FL #[I J cnt] 3)) (FL #[Z b (N a) d,Z (O (aD (M (H w)) 0)) 1 1,Z (O (aD sb 0)) (N ss) (N ss)] 23);have l:=(q.trans (y.mono q.size)).drew;have z:(((w.alloc (FL #[I J cnt] 3)).alloc (FL #[Z b (N a) d,Z (O (aD (M (H w)) 0)) 1 1,Z (O (aD sb 0)) (N ss) (N ss)] 23)).drew).heap[M (H w)]? = O (FL #[I J cnt] 3):=(Below.heap_alloc (w.alloc (FL #[I J cnt] 3)) _ _ (by simp)).trans (iX _ _);have m:(((w.alloc (FL #[I J cnt] 3)).alloc (FL #[Z b (N a) d,Z (O (aD (M (H w)) 0)) 1 1,Z (O (aD sb 0)) (N ss) (N ss)] 23)).drew).heap[M (H w)+1]? = O (FL #[Z b (N a) d,Z (O (aD (M (H w)) 0)) 1 1,Z (O (aD sb 0)) (N ss) (N ss)] 23):=by have h:=iX (w.alloc (FL #[I J cnt] 3)) (FL #[Z b (N a) d,Z (O (aD (M (H w)) 0)) 1 1,Z (O (aD sb 0)) (N ss) (N ss)] 23);rw[Xm]at h;exact h
  have P:M (H (((w.alloc (FL #[I J cnt] 3)).alloc (FL #[Z b (N a) d,Z (O (aD (M (H w)) 0)) 1 1,Z (O (aD sb 0)) (N ss) (N ss)] 23)).drew))=M (H w)+2:=by show M (H ((w.alloc (FL #[I J cnt] 3)).alloc (FL #[Z b (N a) d,Z (O (aD (M (H w)) 0)) 1 1,Z (O (aD sb 0)) (N ss) (N ss)] 23)))=_;simp
  generalize ((w.alloc (FL #[I J cnt] 3)).alloc (FL #[Z b (N a) d,Z (O (aD (M (H w)) 0)) 1 1,Z (O (aD sb 0)) (N ss) (N ss)] 23)).drew=Vq at*;have r:fU [⟨b,d,a⟩,⟨O (aD (M (H w)) 0),1,[(cnt:Int)]⟩,⟨O (aD sb 0),N ss,ss⟩]=a++[(cnt:Int)]++ss:=by simp[fU]
  have h:=AX (O (aD (M (H w)+1) 0)) 3 [⟨b,d,a⟩,⟨O (aD (M (H w)) 0),1,[(cnt:Int)]⟩,⟨O (aD sb 0),N ss,ss⟩] Vq ?_ (by simp) ?_ ?_
  .rw[r]at h;refine h.mono ?_;rintro e n ⟨v,rfl,f,S⟩;exact⟨v,rfl,⟨f.1,by
    rcases f.2 with h|⟨g,cap,A,Q,h2,R⟩
    .exact .inl h
    .exact .inr ⟨g,cap,A,Q,by omega,R⟩⟩,l.trans (S.mono (by omega))⟩
  .refine⟨by simp,⟨λi t=>⟨M (H w)+1,0,rfl,?_⟩,λi t=>?_⟩⟩
   .match i,t with
    |0,_=>exact Jc m rfl
    |1,_=>exact Jc m rfl
    |2,_=>exact Jc m rfl
   .match i,t with
    |0,_=>exact Qt l G.o
    |1,_=>exact⟨by simp,λj W=>⟨M (H w),0,rfl,by
      match j,W with
      |0,_=>exact Jc z rfl⟩⟩
    |2,_=>exact Qt l K.o
  .grind
  .rw[r];simp;omega
 clear hkn;go_enter Tryz.func124,Tryz.ntmps124;go_wp2;go_region_with (refine u.o.mono ?_;rintro e w4 ⟨v4,rfl,C,B⟩;obtain⟨va,vn,vc,rfl⟩:=Xg C)
 all_goals
  go_wp2;go_ret;exact⟨_,rfl,C,B⟩
