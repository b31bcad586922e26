import Derived.Test.YtgemohlbjehmbaaGreatDoorRows
import Derived.OpenShut
import Derived.LaidLaws
import Derived.LaidHandle
import Derived.ProofKit
import Derived.Deep.Slices
import Derived.Test.YtgemohlbjehmbaaGreatDoorF13
set_option linter.all false
set_option maxRecDepth 100000
set_option maxHeartbeats 16000000
namespace Go.Proofs.YtgemohlbjehmbaaGreatDoor
open Go.RowKit Go.Proofs.Zz
variable {H α:Type} {w:World} {base fuel:Nat} {spare:Nat->Bool} {held:Bool} {v:Value}
theorem Tryz.ahI : Tryz.prog.globalNamed (Rows.foundRow.named.headD "") = some 0 := by kernel_rfl
theorem Tryz.ahJ:(Tryz.prog.globals[0]?).map (·.type)=some 179:=by kernel_rfl
theorem Tryz.ahK:Tryz.prog.cellsOf 179=55:=by kernel_rfl
theorem Tryz.aeC:Tryz.prog.cellsOf 178=5:=by kernel_rfl
theorem Tryz.ahL:Tryz.prog.cellsOf 3=1:=by kernel_rfl
theorem Tryz.ahM:Tryz.prog.cellsOf 4=1:=by kernel_rfl
theorem aeD{l:List α}(h:l.length=5):∃ a b c d e,l=[a,b,c,d,e]:=by
 match l,h with
 | [a,b,c,d,e],_ => exact⟨a,b,c,d,e,rfl⟩
theorem Ph{enc:TypeId × Value->H}{cs:List Value}{x:DataW H × List MemPlace}(h:DataW.trod enc Tryz.prog w base spare held fuel 178 cs=some x) :
  ∃ n b1 b2 b3 b4,cs=[.int .i64 n,.bool b1,.bool b2,.bool b3,.bool b4]/\x.1=.agg [.lit (.int .i64 n),.lit (.bool b1),.lit (.bool b2),.lit (.bool b3),.lit (.bool b4)]:=by
 obtain⟨xs,n,_,rfl,hl,hlen,hf⟩:=DataW.trod_struct Tryz.underlying178 h;rw[Tryz.aeC]at hl;obtain⟨c0,c1,c2,c3,c4,rfl⟩:=aeD hl;obtain⟨y0,y1,y2,y3,y4,rfl⟩:=aeD (show xs.length=5 from hlen);have q0:=hf 0 _ rfl;have q1:=hf 1 _ rfl;have q2:=hf 2 _ rfl;have q3:=hf 3 _ rfl;have q4:=hf 4 _ rfl;simp[Tryz.ahL,Tryz.ahM]at q0 q1 q2 q3 q4;obtain⟨n0,e0,f0,_⟩:=DataW.trod_int Tryz.underlying3 q0;obtain⟨b1,e1,f1⟩:=DataW.trod_bool Tryz.underlying4 q1;obtain⟨b2,e2,f2⟩:=DataW.trod_bool Tryz.underlying4 q2;obtain⟨b3,e3,f3⟩:=DataW.trod_bool Tryz.underlying4 q3;obtain⟨b4,e4,f4⟩:=DataW.trod_bool Tryz.underlying4 q4;refine⟨n0,b1,b2,b3,b4,?_,?_⟩
 ·simp at e0 e1 e2 e3 e4;rw[e0,e1,e2,e3,e4]
 ·subst f0 f1 f2 f3 f4;rfl
theorem ahN{l:List α}(h:l.length=11):∃ a0 a1 a2 a3 a4 a5 a6 a7 a8 a9 ji,l=[a0,a1,a2,a3,a4,a5,a6,a7,a8,a9,ji]:=by
 match l,h with
 | [a0,a1,a2,a3,a4,a5,a6,a7,a8,a9,ji],_ => exact⟨a0,a1,a2,a3,a4,a5,a6,a7,a8,a9,ji,rfl⟩
theorem jC{l:List Value}{i:Nat}{enc:TypeId × Value->H}{x:DataW H × List MemPlace}{a:Int}{b1 b2 b3 b4:Bool}(h:DataW.trod enc Tryz.prog w base spare held fuel 178 ((l.drop (i*5)).take 5)=some x)
  (hx:x.1=.agg [.lit (.int .i64 a),.lit (.bool b1),.lit (.bool b2),.lit (.bool b3),.lit (.bool b4)]):(l.drop (i*5)).take 5=[.int .i64 a,.bool b1,.bool b2,.bool b3,.bool b4]:=by obtain⟨n,c1,c2,c3,c4,e,f⟩:=Ph h;rw[hx]at f;simp at f;obtain⟨rfl,rfl,rfl,rfl,rfl⟩:=f;exact e
theorem Gq{W:World}(h:laidMetH Tryz.prog Rows.foundRow.laid W):dn W 0:=by
 have h':laidMet Tryz.prog Rows.foundRow.laid W:=h;obtain⟨ps,⟨g,t,cs,fuel,p,q,hg,ht,hvar,hd,_,_⟩,_⟩:=h';obtain rfl:=Option.some.inj (Tryz.ahI.symm.trans hg);obtain rfl:=Option.some.inj (Tryz.ahJ.symm.trans ht);obtain⟨xs,m,_,hx,hl,hlen,hf⟩:=DataW.trod_array Tryz.underlying179 hd;rw[Tryz.ahK]at hl;rw[Tryz.aeC]at hf;obtain⟨a0,a1,a2,a3,a4,a5,a6,a7,a8,a9,ji,rfl⟩:=ahN hlen;have hx1:=congrArg Prod.fst hx;simp only[Rows.laid_scout_plan_shapes,List.map_cons,List.map_nil,DataW.agg.injEq,List.cons.injEq,and_true]at hx1;obtain⟨x0,x1,x2,x3,x4,x5,x6,x7,x8,x9,x10⟩:=hx1;have each:∀ i,i<11->(cs.toList.drop (i*5)).take 5=(jg ((i:Nat):Int)).toList:=by
  intro i hi
  match i,hi with
  | 0,_ => exact(jC (i:=0) (hf 0 (by omega)) x0.symm).trans (by rfl)
  | 1,_ => exact(jC (i:=1) (hf 1 (by omega)) x1.symm).trans (by rfl)
  | 2,_ => exact(jC (i:=2) (hf 2 (by omega)) x2.symm).trans (by rfl)
  | 3,_ => exact(jC (i:=3) (hf 3 (by omega)) x3.symm).trans (by rfl)
  | 4,_ => exact(jC (i:=4) (hf 4 (by omega)) x4.symm).trans (by rfl)
  | 5,_ => exact(jC (i:=5) (hf 5 (by omega)) x5.symm).trans (by rfl)
  | 6,_ => exact(jC (i:=6) (hf 6 (by omega)) x6.symm).trans (by rfl)
  | 7,_ => exact(jC (i:=7) (hf 7 (by omega)) x7.symm).trans (by rfl)
  | 8,_ => exact(jC (i:=8) (hf 8 (by omega)) x8.symm).trans (by rfl)
  | 9,_ => exact(jC (i:=9) (hf 9 (by omega)) x9.symm).trans (by rfl)
  | 10,_ => exact(jC (i:=10) (hf 10 (by omega)) x10.symm).trans (by rfl)
 intro j u hj;rw[World.var?_cell hg hvar j,<- Array.getElem?_toList];have aFw:j<55:=by
  have h1:mV.length=55:=by rfl
  have h2:=(List.getElem?_eq_some_iff.1 hj).1;omega
 have e1:j=j / 5*5+j % 5:=by omega
 have hlt:j / 5<11:=by omega
 have hm:j % 5<5:=Nat.mod_lt _ (by omega);have h3:=each (j / 5) hlt;have h4:cs.toList[j]? = (jg ((j / 5:Nat):Int)).toList[j % 5]?:=by rw[<- h3,Zm,Qo hm,List.getElem?_drop,<- e1]
 have h5:mV[j]? = (jg ((j / 5:Nat):Int)).toList[j % 5]?:=by
  have:=ZE (λ(k:Nat)=>(jg (k:Int)).toList) 5 (λ_=>rfl) 0 (List.range 11) (j / 5) (j % 5) (by simp; exact hlt) hm;unfold mV;rw[e1];have e2:(j / 5*5+j % 5) / 5=j / 5:=by omega
  have e3:(j / 5*5+j % 5) % 5=j % 5:=by omega
  rw[e2,e3,this];simp[List.getD,hlt]
 rw[h4,<- h5];exact hj
open Go.Deep Go.ChangeShapes Go.WideShapes Go.ChangeAt
theorem Tryz.cells3:Tryz.prog.cellsOf 3=1:=by kernel_rfl
theorem Tryz.amJ:Tryz.prog.bytesOf 3=8:=by kernel_rfl
variable {H:Type} {enc:TypeId × Value->H} {w:World} {spare:Nat->Bool} {held:Bool} {fuel:Nat}
theorem aaO{a:Addr}(h:w.cell? (a.add 0)=some v):∃ b off,a=(aD b off):=by
 obtain⟨b,off,spot⟩:=a;have hs:spot=none:=by have:=World.cell?_spot h;simpa [Addr.add] using this
 subst hs;exact⟨b,off,rfl⟩
theorem JF(b off j:Nat):((aD b off):Addr).add j=(aD b (off+j)):=by unfold Addr.add; split <;> simp_all
theorem aeE{x:DataW H × List MemPlace}(h:DataW.trod enc Tryz.prog w 0 spare held fuel 22 [v]=some x)(hw:∀ n∈x.1.weights Tryz.prog 22,n<=reachBytes) :
  ∃ iv:ai,v=iv.val/\iv.At w/\iv.xs.length*8<=140737488351232:=by
 rcases open_ints Tryz.underlying22 Tryz.underlying3 Tryz.cells3 h with⟨hcs,_⟩ | ⟨a,len,cap,zs,hcs,_,hl,hm,hz,hx,hcell,_⟩
 ·simp at hcs;subst hcs;exact⟨⟨none,0,[]⟩,rfl,⟨by simp,λi hi=>absurd hi (by simp)⟩,by simp⟩
 ·simp at hcs;subst hcs;have hlz:len<=zs.length:=by rw[hz]; split <;> omega
  have hlen:(zs.take len).length=len:=by rw[ZZ]; omega
  have hb:len*8<=140737488351232:=by have h2:=hw (((lits IntKind.i64 (zs.take len):List (DataW H)).length+(lits IntKind.i64 (zs.drop len):List (DataW H)).length)*Tryz.prog.bytesOf 3) (by rw[hx]; simp[DataW.weights,Tryz.underlying22]);rw[Tryz.amJ]at h2;simp only[lits,QQ,ZZ,XG,reachBytes]at h2;omega
  refine⟨⟨some a,cap,zs.take len⟩,?_,⟨by show (zs.take len).length<=_; omega,λi hi=>?_⟩,?_⟩
  ·show _=Value.slice (some a) (zs.take len).length cap
   rw[hlen]
  ·have hi':i<len:=by grind
   have hc:=hcell i (by omega);obtain⟨b,off,rfl⟩:=aaO (hcell 0 (by omega));refine⟨b,off,rfl,?_⟩;rw[JF]at hc;rw[hc];simp[List.getD,hi']
  grind
theorem aeF{l:List α}{d:α}{k:Nat}(hk:k<l.length):l.getD k d∈l:=by
 have e:l.getD k d=l[k]:=by simp[List.getD,hk]
 rw[e];exact ZQ hk
theorem ayR{n:Int}(h:(Lit.int .i64 n).wf=true):-9223372036854775808<=n/\n<=9223372036854775807:=by
 have h1:(decide (IntKind.i64.min<=n)&&decide (n<=IntKind.i64.max))=true:=h;rw[Qj,Qs,Qs]at h1;have e1:IntKind.i64.min = -9223372036854775808:=by decide
 have e2:IntKind.i64.max=9223372036854775807:=by decide
 rw[e1,e2]at h1;exact h1
theorem Ba{enc:TypeId × Value->H}{x:DataW H × List MemPlace}(h:DataW.trod enc Tryz.prog w 0 spare held fuel 22 [v]=some x)(hv:Value.okWide Tryz.prog w .any base 22 v)(hw:∀ n∈x.1.weights Tryz.prog 22,n<=reachBytes) :
  ∃ (lo:Option Addr) (lc:Nat) (l:List Int),v=.slice lo l.length lc/\aM w lo l/\(∀ x∈l,-9223372036854775808<=x/\x<=9223372036854775807)/\∀ a,lo=some a->a.block<w.heap.size:=by
 obtain⟨iv,rfl,hA,_⟩:=aeE h hw;obtain⟨lo,lc,l⟩:=iv;refine⟨lo,lc,l,rfl,hA,?_,?_⟩
 ·rcases open_ints Tryz.underlying22 Tryz.underlying3 Tryz.cells3 h with⟨hcs,_⟩ | ⟨a,len,cap,zs,hcs,_,hl,_,hz,_,hcell,hwf⟩
  ·have e:Value.slice lo l.length lc=Value.slice none 0 0:=by simpa [ai.val] using hcs
   rw[Value.slice.injEq]at e;obtain⟨e1,e2,e3⟩:=e;obtain rfl:l=[]:=Zl e2;intro x hx;simp at hx
  ·have e:Value.slice lo l.length lc=Value.slice (some a) len cap:=by simpa [ai.val] using hcs
   rw[Value.slice.injEq]at e;obtain⟨e1,e2,e3⟩:=e;subst e1 e2;intro x hx;obtain⟨i,hi,rfl⟩:=Qp hx;have hlz:l.length<=zs.length:=by rw[hz]; split <;> omega
   obtain⟨b,off,e,hc⟩:=hA.2 i hi;have e':a=(aD b off):=by injection e
   subst e';have hc2:=hcell i (by omega);rw[JF]at hc2;have hc':w.cell? (aD b (off+i))=some (.int .i64 (l.getD i 0)):=hc;rw[hc']at hc2;have e3':l.getD i 0=zs.getD i 0:=by rw[Option.some.injEq,Value.int.injEq]at hc2; exact hc2.2
   have e4:l.getD i 0=l[i]:=by simp[List.getD,hi]
   have hm:zs.getD i 0∈zs:=aeF (by omega);rw[<- e4,e3'];exact ayR (hwf _ hm)
 ·intro a ha;have ha':=ha;subst ha';simp only[Value.okWide,Cell.okWide,ai.val,Tryz.underlying22,Cell.ok]at hv;have h3:=hv.2.2;unfold World.has at h3;obtain⟨_,_,row,cells,hsh,_⟩:=h3;unfold World.shape? at hsh;by_cases hlt:a.block<w.heap.size
  ·exact hlt
  ·rw[Array.getElem?_eq_none (by omega)]at hsh;simp at hsh
