import Derived.Test.YtjndadibondgbaaGreatDoorRows
import Derived.OpenShut
import Derived.LaidLaws
import Derived.LaidHandle
import Derived.ProofKit
import Derived.Deep.Slices
import Derived.Test.YtjndadibondgbaaGreatDoorL15
set_option linter.all false
set_option maxRecDepth 100000
set_option maxHeartbeats 16000000
namespace Go.Proofs.YtjndadibondgbaaGreatDoor
open Go.RowKit Go.Proofs.Zz
variable {H α:Type} {w:World} {base fuel:Nat} {spare:Nat->Bool} {held:Bool} {v:Value}
theorem Tryz.ahh : Tryz.prog.globalNamed (Rows.laidRow.named.headD "") = some 0 := by kernel_rfl
theorem Tryz.ahi:(Tryz.prog.globals[0]?).map (·.type)=some 148:=by kernel_rfl
theorem Tryz.ahj:Tryz.prog.cellsOf 148=55:=by kernel_rfl
theorem Tryz.aeg:Tryz.prog.cellsOf 147=5:=by kernel_rfl
theorem Tryz.ahk:Tryz.prog.cellsOf 3=1:=by kernel_rfl
theorem Tryz.ahl:Tryz.prog.cellsOf 4=1:=by kernel_rfl
theorem aeh{l:List α}(h:l.length=5):∃ a b c d e,l=[a,b,c,d,e]:=by
 match l,h with
 | [a,b,c,d,e],_ => exact⟨a,b,c,d,e,rfl⟩
theorem P7{enc:TypeId × Value->H}{cs:List Value}{x:DataW H × List MemPlace}(h:DataW.trod enc Tryz.prog w base spare held fuel 147 cs=some x) :
  ∃ n b1 b2 b3 b4,cs=[.int .i64 n,.bool b1,.bool b2,.bool b3,.bool b4]/\x.1=.agg [.lit (.int .i64 n),.lit (.bool b1),.lit (.bool b2),.lit (.bool b3),.lit (.bool b4)]:=by
 obtain⟨xs,n,_,rfl,hl,hlen,hf⟩:=DataW.trod_struct Tryz.underlying147 h;rw[Tryz.aeg]at hl;obtain⟨c0,c1,c2,c3,c4,rfl⟩:=aeh hl;obtain⟨y0,y1,y2,y3,y4,rfl⟩:=aeh (show xs.length=5 from hlen);have q0:=hf 0 _ rfl;have q1:=hf 1 _ rfl;have q2:=hf 2 _ rfl;have q3:=hf 3 _ rfl;have q4:=hf 4 _ rfl;simp[Tryz.ahk,Tryz.ahl]at q0 q1 q2 q3 q4;obtain⟨n0,e0,f0,_⟩:=DataW.trod_int Tryz.underlying3 q0;obtain⟨b1,e1,f1⟩:=DataW.trod_bool Tryz.underlying4 q1;obtain⟨b2,e2,f2⟩:=DataW.trod_bool Tryz.underlying4 q2;obtain⟨b3,e3,f3⟩:=DataW.trod_bool Tryz.underlying4 q3;obtain⟨b4,e4,f4⟩:=DataW.trod_bool Tryz.underlying4 q4;refine⟨n0,b1,b2,b3,b4,?_,?_⟩
 ·simp at e0 e1 e2 e3 e4;rw[e0,e1,e2,e3,e4]
 ·subst f0 f1 f2 f3 f4;rfl
theorem ahm{l:List α}(h:l.length=11):∃ a0 a1 a2 a3 a4 a5 a6 a7 a8 a9 yI,l=[a0,a1,a2,a3,a4,a5,a6,a7,a8,a9,yI]:=by
 match l,h with
 | [a0,a1,a2,a3,a4,a5,a6,a7,a8,a9,yI],_ => exact⟨a0,a1,a2,a3,a4,a5,a6,a7,a8,a9,yI,rfl⟩
theorem iI{l:List Value}{i:Nat}{enc:TypeId × Value->H}{x:DataW H × List MemPlace}{a:Int}{b1 b2 b3 b4:Bool}(h:DataW.trod enc Tryz.prog w base spare held fuel 147 ((l.drop (i*5)).take 5)=some x)
  (hx:x.1=.agg [.lit (.int .i64 a),.lit (.bool b1),.lit (.bool b2),.lit (.bool b3),.lit (.bool b4)]):(l.drop (i*5)).take 5=[.int .i64 a,.bool b1,.bool b2,.bool b3,.bool b4]:=by
 obtain⟨n,c1,c2,c3,c4,e,f⟩:=P7 h;rw[hx]at f;simp at f;obtain⟨rfl,rfl,rfl,rfl,rfl⟩:=f;exact e
theorem Fx{W:World}(h:laidMetH Tryz.prog Rows.laidRow.laid W):eG W 0:=by
 have h':laidMet Tryz.prog Rows.laidRow.laid W:=h;obtain⟨ps,⟨g,t,cs,fuel,p,q,hg,ht,hvar,hd,_,_⟩,_⟩:=h';obtain rfl:=Option.some.inj (Tryz.ahh.symm.trans hg);obtain rfl:=Option.some.inj (Tryz.ahi.symm.trans ht);obtain⟨xs,m,_,hx,hl,hlen,hf⟩:=DataW.trod_array Tryz.underlying148 hd;rw[Tryz.ahj]at hl;rw[Tryz.aeg]at hf;obtain⟨a0,a1,a2,a3,a4,a5,a6,a7,a8,a9,yI,rfl⟩:=ahm hlen;have hx1:=congrArg Prod.fst hx;simp only[Rows.laid_scout_plan_shapes,XH,List.map_nil,DataW.agg.injEq,List.cons.injEq,and_true]at hx1;obtain⟨x0,x1,x2,x3,x4,x5,x6,x7,x8,x9,x10⟩:=hx1;have each:∀ i,i<11->(cs.toList.drop (i*5)).take 5=(gW ((i:Nat):Int)).toList:=by
  intro i hi
  match i,hi with
  | 0,_ => exact(iI (i:=0) (hf 0 (by omega)) x0.symm).trans (by rfl)
  | 1,_ => exact(iI (i:=1) (hf 1 (by omega)) x1.symm).trans (by rfl)
  | 2,_ => exact(iI (i:=2) (hf 2 (by omega)) x2.symm).trans (by rfl)
  | 3,_ => exact(iI (i:=3) (hf 3 (by omega)) x3.symm).trans (by rfl)
  | 4,_ => exact(iI (i:=4) (hf 4 (by omega)) x4.symm).trans (by rfl)
  | 5,_ => exact(iI (i:=5) (hf 5 (by omega)) x5.symm).trans (by rfl)
  | 6,_ => exact(iI (i:=6) (hf 6 (by omega)) x6.symm).trans (by rfl)
  | 7,_ => exact(iI (i:=7) (hf 7 (by omega)) x7.symm).trans (by rfl)
  | 8,_ => exact(iI (i:=8) (hf 8 (by omega)) x8.symm).trans (by rfl)
  | 9,_ => exact(iI (i:=9) (hf 9 (by omega)) x9.symm).trans (by rfl)
  | 10,_ => exact(iI (i:=10) (hf 10 (by omega)) x10.symm).trans (by rfl)
 intro j u hj;rw[World.var?_cell hg hvar j,<- Array.getElem?_toList];have aDo:j<55:=by
  have h1:lY.length=55:=by rfl
  have h2:=(List.getElem?_eq_some_iff.1 hj).1;omega
 have e1:j=j / 5*5+j % 5:=by omega
 have hlt:j / 5<11:=by omega
 have hm:j % 5<5:=Nat.mod_lt _ (by omega);have h3:=each (j / 5) hlt;have h4:cs.toList[j]? = (gW ((j / 5:Nat):Int)).toList[j % 5]?:=by
  rw[<- h3,ZW,Qu hm,List.getElem?_drop,<- e1]
 have h5:lY[j]? = (gW ((j / 5:Nat):Int)).toList[j % 5]?:=by
  have:=flat_get (fun (k:Nat)=>(gW (k:Int)).toList) 5 (fun _=>rfl) 0 (List.range 11) (j / 5) (j % 5) (by simp; exact hlt) hm;unfold lY;rw[e1];have e2:(j / 5*5+j % 5) / 5=j / 5:=by omega
  have e3:(j / 5*5+j % 5) % 5=j % 5:=by omega
  rw[e2,e3,this];simp[List.getD,hlt]
 rw[h4,<- h5];exact hj
open Go.Deep Go.ChangeShapes Go.WideShapes Go.ChangeAt
theorem Tryz.cells3:Tryz.prog.cellsOf 3=1:=by kernel_rfl
theorem Tryz.alk:Tryz.prog.bytesOf 3=8:=by kernel_rfl
variable {H:Type} {enc:TypeId × Value->H} {w:World} {spare:Nat->Bool} {held:Bool} {fuel:Nat}
theorem aaK{a:Addr}(h:w.cell? (a.add 0)=some v):∃ b off,a=(aD b off):=by
 obtain⟨b,off,spot⟩:=a;have hs:spot=none:=by
  have:=World.cell?_spot h
  simpa [Addr.add] using this
 subst hs;exact⟨b,off,rfl⟩
theorem JZ(b off j:Nat):((aD b off):Addr).add j=(aD b (off+j)):=by unfold Addr.add; split <;> simp_all
theorem aei{x:DataW H × List MemPlace}(h:DataW.trod enc Tryz.prog w 0 spare held fuel 22 [v]=some x)(hw:∀ n∈x.1.weights Tryz.prog 22,n<=reachBytes) :
  ∃ iv:aa,v=iv.val/\iv.At w/\iv.xs.length*8<=140737488351232:=by
 rcases open_ints Tryz.underlying22 Tryz.underlying3 Tryz.cells3 h with⟨hcs,_⟩ | ⟨a,len,cap,zs,hcs,_,hl,hm,hz,hx,hcell,_⟩
 ·simp at hcs;subst hcs;exact⟨⟨none,0,[]⟩,rfl,⟨by simp,fun i hi=>absurd hi (by simp)⟩,by simp⟩
 ·simp at hcs;subst hcs;have hlz:len<=zs.length:=by rw[hz]; split <;> omega
  have hlen:(zs.take len).length=len:=by rw[XF]; omega
  have hb:len*8<=140737488351232:=by
   have h2:=hw (((lits IntKind.i64 (zs.take len):List (DataW H)).length+(lits IntKind.i64 (zs.drop len):List (DataW H)).length)*Tryz.prog.bytesOf 3) (by rw[hx]; simp[DataW.weights,Tryz.underlying22]);rw[Tryz.alk]at h2;simp only[lits,ZB,XF,List.length_drop,reachBytes]at h2;omega
  refine⟨⟨some a,cap,zs.take len⟩,?_,⟨by show (zs.take len).length<=_; omega,fun i hi=>?_⟩,?_⟩
  ·show _=Value.slice (some a) (zs.take len).length cap
   rw[hlen]
  ·have hi':i<len:=by
    have:i<(zs.take len).length:=hi;omega
   have hc:=hcell i (by omega);obtain⟨b,off,rfl⟩:=aaK (hcell 0 (by omega));refine⟨b,off,rfl,?_⟩;rw[JZ]at hc;rw[hc];simp[List.getD,hi']
  ·show (zs.take len).length*8<=_
   omega
theorem aej{l:List α}{d:α}{k:Nat}(hk:k<l.length):l.getD k d∈l:=by
 have e:l.getD k d=l[k]:=by simp[List.getD,hk]
 rw[e];exact Qk hk
theorem O1{n:Int}(h:(Lit.int .i64 n).wf=true):-9223372036854775808<=n/\n<=9223372036854775807:=by
 have h1:(decide (IntKind.i64.min<=n)&&decide (n<=IntKind.i64.max))=true:=h;rw[Qo,QE,QE]at h1;have e1:IntKind.i64.min = -9223372036854775808:=by decide
 have e2:IntKind.i64.max=9223372036854775807:=by decide
 rw[e1,e2]at h1;exact h1
theorem P8{enc:TypeId × Value->H}{x:DataW H × List MemPlace}(h:DataW.trod enc Tryz.prog w 0 spare held fuel 22 [v]=some x)(hv:Value.okWide Tryz.prog w .any base 22 v)(hw:∀ n∈x.1.weights Tryz.prog 22,n<=reachBytes) :
  ∃ (lo:Option Addr) (lc:Nat) (l:List Int),v=.slice lo l.length lc/\aI w lo l/\(∀ x∈l,-9223372036854775808<=x/\x<=9223372036854775807)/\∀ a,lo=some a->a.block<w.heap.size:=by
 obtain⟨iv,rfl,hA,_⟩:=aei h hw;obtain⟨lo,lc,l⟩:=iv;refine⟨lo,lc,l,rfl,hA,?_,?_⟩
 ·rcases open_ints Tryz.underlying22 Tryz.underlying3 Tryz.cells3 h with⟨hcs,_⟩ | ⟨a,len,cap,zs,hcs,_,hl,_,hz,_,hcell,hwf⟩
  ·have e:Value.slice lo l.length lc=Value.slice none 0 0:=by simpa [aa.val] using hcs
   rw[Value.slice.injEq]at e;obtain⟨e1,e2,e3⟩:=e;obtain rfl:l=[]:=QF e2;intro x hx;simp at hx
  ·have e:Value.slice lo l.length lc=Value.slice (some a) len cap:=by simpa [aa.val] using hcs
   rw[Value.slice.injEq]at e;obtain⟨e1,e2,e3⟩:=e;subst e1 e2;intro x hx;obtain⟨i,hi,rfl⟩:=Qx hx;have hlz:l.length<=zs.length:=by rw[hz]; split <;> omega
   obtain⟨b,off,e,hc⟩:=hA.2 i hi;have e':a=(aD b off):=by injection e
   subst e';have hc2:=hcell i (by omega);rw[JZ]at hc2;have hc':w.cell? (aD b (off+i))=some (.int .i64 (l.getD i 0)):=hc;rw[hc']at hc2;have e3':l.getD i 0=zs.getD i 0:=by rw[Option.some.injEq,Value.int.injEq]at hc2; exact hc2.2
   have e4:l.getD i 0=l[i]:=by simp[List.getD,hi]
   have hm:zs.getD i 0∈zs:=aej (by omega);rw[<- e4,e3'];exact O1 (hwf _ hm)
 ·intro a ha;have ha':=ha;subst ha';simp only[Value.okWide,Cell.okWide,aa.val,Tryz.underlying22,Cell.ok]at hv;have h3:=hv.2.2;unfold World.has at h3;obtain⟨_,_,row,cells,hsh,_⟩:=h3;unfold World.shape? at hsh;by_cases hlt:a.block<w.heap.size
  ·exact hlt
  ·rw[Array.getElem?_eq_none (by omega)]at hsh;simp at hsh
