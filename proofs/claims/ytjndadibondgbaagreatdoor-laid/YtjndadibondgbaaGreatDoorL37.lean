import Derived.Test.YtjndadibondgbaaGreatDoorL19
import Derived.Test.YtjndadibondgbaaGreatDoorL36
set_option linter.all false
set_option maxRecDepth 100000
set_option maxHeartbeats 16000000
namespace Go.Proofs.Zz
open Go.RowKit Go.Shelf
theorem Fh{f:aS}{ts:List af}{q:ae}{po:Option Addr}{pc:Nat}{pl:List ah}{pa:Option Addr}{pac:Nat}{ps:List aB}{d:Option Addr}{dc:Nat}{db:List aN}{w0:World}(H:LD f ts q po pl pa ps d db w0)(oo:Vh ts q)(h8:∀ i,i<pl.length->(pl.getD i nz).kind≠8)(hkl:q.keys.xs.length<=4)(hul:q.sums.xs.length<=4)(hel:q.aK.xs.length<=8)
  (hor:∀ i v,i<pl.length->dn ts q pl i=some v->v.out=true->(mF ts q pl db (i+1) i).length<=1000000/\∀ r∈mF ts q pl db (i+1) i,aM q.ord.xs r.length=true):∀ (F i:Nat) (v:dY),i<F->i<pl.length->dn ts q pl i=some v->v.out=true->∀ w,Bw w0 w->
  Calls Tryz.prog 52 #[.agg (iM f ts q (.slice po pl.length pc) (.slice pa ps.length pac) (.slice d db.length dc)),.agg (pl.getD i nz).cells] w fun e w'=>∃ v,e=.returned v/\nE Tryz.prog 3 v (mF ts q pl db F i) w'/\Bw w w'
 | 0,_,_,h,_,_,_ => by omega
 | F+1,i,v,hi,hil,hv,hout => fun w A => by
  have ok:=H.ok;rcases jw ts q pl hv with⟨g,n,hs,y,z,j⟩ | ⟨k2,k10,k3,k4,k5,hl0,FZ,l,hl,hn⟩ | ⟨k3,k5,hl0,FZ,hr0,hri,l,r,hl,hr,hn⟩
  ·rw[hout]at j; cases j
  ·obtain⟨_,j,_,u,a,y,z,m,_⟩:=X9 ts q hn;rw[hout]at m;have B:7<=(pl.getD i nz).kind:=Xk m.symm;have t:=h8 i hil;unfold mY at a;rw[Qv (by omega),Qv (by omega),Qv (by omega)]at a;refine adq f ts q po pc pl pa pac ps _ (pl.getD i nz) (pl.getD i nz).l.toNat w0 w A H.facts H.nodes (by omega) (by omega) (bL ts q pl db F (pl.getD i nz).l.toNat) _ (mF ts q pl db F (pl.getD i nz).l.toNat) (fun g x o=>?_) (fun g x o=>?_) (fun g=>?_) (fun g=>?_) (fun g=>?_) (fun g=>?_) (by omega)
   ·have b:l.out=false:=by
     cases e:l.out with
     | false => rfl
     | true => exact absurd (j.1 e) g
    exact zQ H F _ l (by omega) (by omega) hl b x o
   ·exact Fh H oo h8 hkl hul hel hor F _ l (by omega) (by omega) hl (j.2 g) x o
   ·have p:mF ts q pl db F (pl.getD i nz).l.toNat=mF ts q pl db ((pl.getD i nz).l.toNat+1) (pl.getD i nz).l.toNat:=WI ts q pl db hl (j.2 g) _ _ (by omega) (by omega);have s:=hor _ l (by omega) hl (j.2 g);rw[Qv (by omega),Qv (by omega),Qv (by omega),Qu g,QE]at a;refine⟨?_,a,by rw[p]; exact s.1,by rw[p]; exact s.2⟩
    conv=>lhs; unfold mF
    rw[Qu g]
   ·have b:l.out=false:=by
     cases e:l.out with
     | false => rfl
     | true => have:=j.1 e; omega
    have k:=ko ok pl H.Y9 F (pl.getD i nz).l.toNat l (by omega) hl b;rw[Qu g,Qo]at a;refine⟨?_,k.every ok a.2 oo.keys,k.every ok a.2 oo.sums,hkl,hul⟩
    conv=>lhs; unfold mF
    rw[Qv (by omega),Qv (by omega)]
   ·have b:l.out=false:=by
     cases e:l.out with
     | false => rfl
     | true => have:=j.1 e; omega
    have k:=ko ok pl H.Y9 F (pl.getD i nz).l.toNat l (by omega) hl b;rw[Qv (by omega),Qv (by omega),Qu g,Qo]at a;refine⟨?_,k.every ok a.2 oo.aK,hel⟩
    conv=>lhs; unfold mF
    rw[Qv (by omega),Qu g]
   ·have b:l.out=false:=by
     cases e:l.out with
     | false => rfl
     | true => have:=j.1 e; omega
    have k:=ko ok pl H.Y9 F (pl.getD i nz).l.toNat l (by omega) hl b;have n:=k.Vg ok H.five H.many;exact⟨n.1,n.2.1,k.lens,n.2.2⟩
  ·obtain⟨_,_,_,_,_,_,_,m,_⟩:=X9 ts q hn;rw[hout,Qg (by omega)]at m
   cases m
theorem adW(f:aS)(ts:List af)(q:ae):∃ (a0 a1 a3 a4 a5 a6 a7 yI BS a12:Option Addr) (n0 n1 n3 n4 n5 n6 n7 n10 n11 n12 n8 n9 c0 c1 c3 c4 c5 c6 c7 c10 c11 c12:Nat) (b2:Bool),f.cells ts q=#[.slice a0 n0 c0,.slice a1 n1 c1,.bool b2,.slice a3 n3 c3,.slice a4 n4 c4,.slice a5 n5 c5,.slice a6 n6 c6,.slice a7 n7 c7,.int .u64 (n8:Int),.int .u64 (n9:Int),.slice yI n10 c10,.slice BS n11 c11,.slice a12 n12 c12]:=⟨_,_,_,_,_,_,_,_,_,_,_,_,_,_,_,_,_,_,_,_,_,_,_,_,_,_,_,_,_,_,_,_,_,rfl⟩
theorem Me(f:aS)(ts:List af)(q:ae)(po:Option Addr)(pc:Nat)(pl:List ah)(pa:Option Addr)(pac:Nat)(ps:List aB)(d:Option Addr)(dl dc:Nat)(X:List (List Int))(w:World)(hn:fq w po pl)(h1:1<=pl.length)
  (ho:∀ x,Bw w x->Calls Tryz.prog 52 #[.agg (iM f ts q (.slice po pl.length pc) (.slice pa ps.length pac) (.slice d dl dc)),.agg (pl.getD (pl.length-1) nz).cells] x fun e w'=>∃ v,e=.returned v/\nE Tryz.prog 3 v X w'/\Bw x w') :
  Calls Tryz.prog 36 #[.agg (f.cells ts q),.slice po pl.length pc,.slice pa ps.length pac,.slice d dl dc] w fun e w'=>∃ v,e=.returned v/\nE Tryz.prog 3 v X w'/\Bw w w':=by
 obtain⟨a0,L,a3,a4,a5,M,O,P,Q,j,R,n1,S,T,U,V,W,k,m,n,Y,Z,c0,c1,c3,c4,c5,c6,c7,o,p,s,b2,dQ⟩:=adW f ts q;obtain⟨t,u,aa,D,E,F,G,H,I,J,-,-⟩:=hn.2 (pl.length-1) (by omega);subst aa;have zG:iM f ts q (.slice (some (aD t u)) pl.length pc) (.slice pa ps.length pac) (.slice d dl dc)=#[.slice a0 R c0,.slice L n1 c1,.bool b2,.slice a3 S c3,.slice a4 T c4,.slice a5 U c5,.slice M V c6,.slice O W c7,.int .u64 (Y:Int),.int .u64 (Z:Int),.slice P k o,.slice Q m p,.slice j n s,.slice (some (aD t u)) pl.length pc,.slice pa ps.length pac,.slice d dl dc]:=by unfold iM; rw[dQ]; rfl
 have Mw:(pl.getD (pl.length-1) nz).cells=#[.int .i64 (pl.getD (pl.length-1) nz).kind,.int .i64 (pl.getD (pl.length-1) nz).l,.int .i64 (pl.getD (pl.length-1) nz).r,.int .i64 (pl.getD (pl.length-1) nz).source,(pl.getD (pl.length-1) nz).cl.val,.int .i64 (pl.getD (pl.length-1) nz).key,(pl.getD (pl.length-1) nz).co.val]:=rfl;rw[zG,Mw]at ho;rw[dQ];obtain⟨w1,ag,z,A⟩:=aR w #[.slice a0 R c0,.slice L n1 c1,.bool b2,.slice a3 S c3,.slice a4 T c4,.slice a5 U c5,.slice M V c6,.slice O W c7,.int .u64 (Y:Int),.int .u64 (Z:Int),.slice P k o,.slice Q m p,.slice j n s] 70;obtain⟨w2,B,C,g⟩:=aR w1 #[.slice a0 R c0,.slice L n1 c1,.bool b2,.slice a3 S c3,.slice a4 T c4,.slice a5 U c5,.slice M V c6,.slice O W c7,.int .u64 (Y:Int),.int .u64 (Z:Int),.slice P k o,.slice Q m p,.slice j n s,.slice (some (aD t u)) pl.length pc,.slice pa ps.length pac,.slice d dl dc] 112;have a:=aC z C;obtain⟨k0,k1,k2,k3,k4,k5,k6,k7,k8,k9,ax,ay,az⟩:=A.k13;obtain⟨bD,bN,bA,bG,bO,bT,bQ,dF,dD,dE,aU,aZ,aV⟩:=g.k13;have iH:w2.cell? (aD w1.heap.size 13)=some (.slice (some (aD t u)) pl.length pc):=g.cell 13;have iX:w2.cell? (aD w1.heap.size 14)=some (.slice pa ps.length pac):=g.cell 14;have jA:w2.cell? (aD w1.heap.size 15)=some (.slice d dl dc):=g.cell 15;have D:=cB a D;have E:=cB a E;have F:=cB a F;have G:=cB a G;have H:=cB a H;have I:=cB a I;have J:=cB a J;obtain⟨N,hN⟩:∃ N:Nat,N=pl.length-1:=⟨_,rfl⟩
 rw[<- hN]at ho D E F G H I J;have i:pl.length=N+1:=by omega
 have aj:=hn.1;have HO:=Zh ho;have HC:=Zh a;rw[i]at B;rw[i]at HO;rw[i]at iH;rw[i];clear ho hn dQ zG Mw z C A g a hN;have ak:(N:Int)<((N+1:Nat):Int):=by omega
 have au:IntKind.i64.wrap (N:Int)=(N:Int):=by rw[IntKind.wrap_i64]; omega
 have av:¬ ((N:Int)+1<=(N:Int)):=by omega
 generalize (pl.getD N nz).kind=l0 at *;generalize (pl.getD N nz).l=l1 at *;generalize (pl.getD N nz).r=l2 at *;generalize (pl.getD N nz).source=l3 at *;generalize (pl.getD N nz).cl.val=l4 at *;generalize (pl.getD N nz).key=l5 at *;generalize (pl.getD N nz).co.val=l6 at *;go_enter Tryz.func36,Tryz.ntmps36;go_upto_region 2 with fail;clear ag B;refine wH w2 fun b=>?_
 refine wT 0 (.agg #[.slice a0 R c0,.slice L n1 c1,.bool b2,.slice a3 S c3,.slice a4 T c4,.slice a5 U c5,.slice M V c6,.slice O W c7,.int .u64 (Y:Int),.int .u64 (Z:Int),.slice P k o,.slice Q m p,.slice j n s,.slice (some (aD t u)) (N+1) pc,.slice pa ps.length pac,.slice d dl dc]) b (fun x y=>?_) ?_
 ·have e0:=mi y bD bN bA bG bO bT bQ dF dD dE aU aZ aV;have e1:=cB y iH;have e2:=cB y iX;have e3:=cB y jA;go_simp
 refine wt 1 (.slice (some (aD t u)) (N+1) pc) b ?_;refine wt 2 (.slice (some (aD t u)) (N+1) pc) b ?_;refine wt 3 (.int .i64 ((N+1:Nat):Int)) b ?_;refine wt 4 (.int .i64 (N:Int)) b ?_;refine wt 5 (.pointer (some (aD t (u+N*7)))) b ?_;refine wT 6 (.agg #[.int .i64 l0,.int .i64 l1,.int .i64 l2,.int .i64 l3,l4,.int .i64 l5,l6]) b (fun x y=>?_) ?_
 ·have e0:=J7 y D E F G H I J;go_simp
 refine wR 7 fun K hK=>?_
 go_simp;refine(HO.out _ (aC HC.out b)).mono ?_;rintro e w3 ⟨v,rfl,hv,ai⟩;refine oT hK b ai fun b=>?_
 clear hK K;have HV:=Zh hv;have HS:=Zh b;clear hv;refine wt 8 v b ?_;refine wD ?_
 try simp only[pU]
 go_wp2_with fail;go_ret;exact⟨v,rfl,HV.out,aC HC.out HS.out⟩
