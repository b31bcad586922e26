import Derived.OpenShut
import Derived.LaidLaws
import Derived.LaidHandle
import Derived.ProofKit
import Derived.Deep.Slices
import Derived.ShutString
import Derived.ChangeVars
import Derived.RowKitTokens
import Derived.Stop.Joined
import Derived.Test.YtlpbelhfpoilpaaGreatDoorRE47
import Derived.Test.YtlpbelhfpoilpaaGreatDoorRE48
set_option linter.all false
set_option maxRecDepth 100000
set_option maxHeartbeats 16000000
namespace Go.Proofs.YtlpbelhfpoilpaaGreatDoorR
open Go.RowKit Go.Proofs.Zz
variable {H α:Type} {w:World} {base fuel:Nat} {spare:Nat->Bool} {held:Bool} {v:Value}
theorem Tryz.aeN : Tryz.prog.globalNamed (Rows.cheaperRow.named.headD "") = some 0 := by kernel_rfl
theorem Tryz.aeO:(Tryz.prog.globals[0]?).map (·.type)=some 272:=by kernel_rfl
theorem Tryz.aeP:Tryz.prog.cellsOf 272=55:=by kernel_rfl
theorem Tryz.abD:Tryz.prog.cellsOf 271=5:=by kernel_rfl
theorem Tryz.aeQ:Tryz.prog.cellsOf 3=1:=by kernel_rfl
theorem Tryz.aeR:Tryz.prog.cellsOf 4=1:=by kernel_rfl
theorem abE{l:List α}(h:l.length=5):∃ a b c d e,l=[a,b,c,d,e]:=by
 match l,h with
 | [a,b,c,d,e],_ => exact⟨a,b,c,d,e,rfl⟩
theorem MG{enc:TypeId × Value->H}{cs:List Value}{x:DataW H × List MemPlace}(h:DataW.trod enc Tryz.prog w base spare held fuel 271 cs=some x) :
  ∃ n b1 b2 b3 b4,cs=[.int .i64 n,.bool b1,.bool b2,.bool b3,.bool b4]/\x.1=.agg [.lit (.int .i64 n),.lit (.bool b1),.lit (.bool b2),.lit (.bool b3),.lit (.bool b4)]:=by
 obtain⟨xs,n,_,rfl,hl,hlen,hf⟩:=DataW.trod_struct Tryz.underlying271 h;rw[Tryz.abD]at hl;obtain⟨c0,c1,c2,c3,c4,rfl⟩:=abE hl;obtain⟨y0,y1,y2,y3,y4,rfl⟩:=abE (show xs.length=5 from hlen);have q0:=hf 0 _ rfl;have q1:=hf 1 _ rfl;have q2:=hf 2 _ rfl;have q3:=hf 3 _ rfl;have q4:=hf 4 _ rfl;simp[Tryz.aeQ,Tryz.aeR]at q0 q1 q2 q3 q4;obtain⟨n0,e0,f0,_⟩:=DataW.trod_int Tryz.underlying3 q0;obtain⟨b1,e1,f1⟩:=DataW.trod_bool Tryz.underlying4 q1;obtain⟨b2,e2,f2⟩:=DataW.trod_bool Tryz.underlying4 q2;obtain⟨b3,e3,f3⟩:=DataW.trod_bool Tryz.underlying4 q3;obtain⟨b4,e4,f4⟩:=DataW.trod_bool Tryz.underlying4 q4;refine⟨n0,b1,b2,b3,b4,?_,?_⟩
 ·simp at e0 e1 e2 e3 e4;rw[e0,e1,e2,e3,e4]
 ·subst f0 f1 f2 f3 f4;rfl
theorem aeS{l:List α}(h:l.length=11):∃ a0 a1 a2 a3 a4 a5 a6 a7 a8 a9 iy,l=[a0,a1,a2,a3,a4,a5,a6,a7,a8,a9,iy]:=by
 match l,h with
 | [a0,a1,a2,a3,a4,a5,a6,a7,a8,a9,iy],_ => exact⟨a0,a1,a2,a3,a4,a5,a6,a7,a8,a9,iy,rfl⟩
theorem iK{l:List Value}{i:Nat}{enc:TypeId × Value->H}{x:DataW H × List MemPlace}{a:Int}{b1 b2 b3 b4:Bool}(h:DataW.trod enc Tryz.prog w base spare held fuel 271 ((l.drop (i*5)).take 5)=some x)
  (hx:x.1=.agg [.lit (.int .i64 a),.lit (.bool b1),.lit (.bool b2),.lit (.bool b3),.lit (.bool b4)]):(l.drop (i*5)).take 5=[.int .i64 a,.bool b1,.bool b2,.bool b3,.bool b4]:=by
 obtain⟨n,c1,c2,c3,c4,e,f⟩:=MG h;rw[hx]at f;simp at f;obtain⟨rfl,rfl,rfl,rfl,rfl⟩:=f;exact e
theorem Dz{W:World}(h:laidMetH Tryz.prog Rows.cheaperRow.laid W):bQ W 0:=by
 have h':laidMet Tryz.prog Rows.cheaperRow.laid W:=h;obtain⟨ps,⟨g,t,cs,fuel,p,q,hg,ht,hvar,hd,_,_⟩,_⟩:=h';obtain rfl:=Option.some.inj (Tryz.aeN.symm.trans hg);obtain rfl:=Option.some.inj (Tryz.aeO.symm.trans ht);obtain⟨xs,m,_,hx,hl,hlen,hf⟩:=DataW.trod_array Tryz.underlying272 hd;rw[Tryz.aeP]at hl;rw[Tryz.abD]at hf;obtain⟨a0,a1,a2,a3,a4,a5,a6,a7,a8,a9,iy,rfl⟩:=aeS hlen;have hx1:=congrArg Prod.fst hx;simp only[Rows.laid_scout_plan_shapes,List.map_cons,List.map_nil,DataW.agg.injEq,List.cons.injEq,and_true]at hx1;obtain⟨x0,x1,x2,x3,x4,x5,x6,x7,x8,x9,x10⟩:=hx1;have each:∀ i,i<11->(cs.toList.drop (i*5)).take 5=(gW ((i:Nat):Int)).toList:=by
  intro i hi
  match i,hi with
  | 0,_ => exact(iK (i:=0) (hf 0 (by omega)) x0.symm).trans (by rfl)
  | 1,_ => exact(iK (i:=1) (hf 1 (by omega)) x1.symm).trans (by rfl)
  | 2,_ => exact(iK (i:=2) (hf 2 (by omega)) x2.symm).trans (by rfl)
  | 3,_ => exact(iK (i:=3) (hf 3 (by omega)) x3.symm).trans (by rfl)
  | 4,_ => exact(iK (i:=4) (hf 4 (by omega)) x4.symm).trans (by rfl)
  | 5,_ => exact(iK (i:=5) (hf 5 (by omega)) x5.symm).trans (by rfl)
  | 6,_ => exact(iK (i:=6) (hf 6 (by omega)) x6.symm).trans (by rfl)
  | 7,_ => exact(iK (i:=7) (hf 7 (by omega)) x7.symm).trans (by rfl)
  | 8,_ => exact(iK (i:=8) (hf 8 (by omega)) x8.symm).trans (by rfl)
  | 9,_ => exact(iK (i:=9) (hf 9 (by omega)) x9.symm).trans (by rfl)
  | 10,_ => exact(iK (i:=10) (hf 10 (by omega)) x10.symm).trans (by rfl)
 intro j u hj;rw[World.var?_cell hg hvar j,<- Array.getElem?_toList];have aA8:j<55:=by
  have h1:lT.length=55:=by rfl
  have h2:=(ZW.1 hj).1;omega
 have e1:j=j / 5*5+j % 5:=by omega
 have hlt:j / 5<11:=by omega
 have hm:j % 5<5:=Nat.mod_lt _ (by omega);have h3:=each (j / 5) hlt;have h4:cs.toList[j]? = (gW ((j / 5:Nat):Int)).toList[j % 5]?:=by
  rw[<- h3,ZY,Qy hm,XQ,<- e1]
 have h5:lT[j]? = (gW ((j / 5:Nat):Int)).toList[j % 5]?:=by
  have:=Xc (fun (k:Nat)=>(gW (k:Int)).toList) 5 (fun _=>rfl) 0 (List.range 11) (j / 5) (j % 5) (by simp; exact hlt) hm;unfold lT;rw[e1];have e2:(j / 5*5+j % 5) / 5=j / 5:=by omega
  have e3:(j / 5*5+j % 5) % 5=j % 5:=by omega
  rw[e2,e3,this];simp[List.getD,hlt]
 rw[h4,<- h5];exact hj
open Go.Deep Go.ChangeShapes Go.WideShapes Go.ChangeAt
theorem Tryz.cells3:Tryz.prog.cellsOf 3=1:=by kernel_rfl
theorem Tryz.ajk:Tryz.prog.bytesOf 3=8:=by kernel_rfl
variable {H:Type} {enc:TypeId × Value->H} {w:World} {spare:Nat->Bool} {held:Bool} {fuel:Nat}
theorem VW{a:Addr}(h:w.cell? (a.add 0)=some v):∃ b off,a=(aD b off):=by
 obtain⟨b,off,spot⟩:=a;have hs:spot=none:=by
  have:=World.cell?_spot h
  simpa [Addr.add] using this
 subst hs;exact⟨b,off,rfl⟩
theorem Ga(b off j:Nat):((aD b off):Addr).add j=(aD b (off+j)):=by unfold Addr.add; split <;> simp_all
theorem abF{x:DataW H × List MemPlace}(h:DataW.trod enc Tryz.prog w 0 spare held fuel 23 [v]=some x)(hw:∀ n∈x.1.weights Tryz.prog 23,n<=reachBytes) :
  ∃ iv:ah,v=iv.val/\iv.At w/\iv.xs.length*8<=140737488351232:=by
 rcases open_ints Tryz.underlying23 Tryz.underlying3 Tryz.cells3 h with⟨hcs,_⟩ | ⟨a,len,cap,zs,hcs,_,hl,hm,hz,hx,hcell,_⟩
 ·simp at hcs;subst hcs;exact⟨⟨none,0,[]⟩,rfl,⟨by simp,fun i hi=>absurd hi (by simp)⟩,by simp⟩
 ·simp at hcs;subst hcs;have hlz:len<=zs.length:=by rw[hz]; split <;> omega
  have hlen:(zs.take len).length=len:=by rw[Zm]; omega
  have hb:len*8<=140737488351232:=by
   have h2:=hw (((lits IntKind.i64 (zs.take len):List (DataW H)).length+(lits IntKind.i64 (zs.drop len):List (DataW H)).length)*Tryz.prog.bytesOf 3) (by rw[hx]; simp[DataW.weights,Tryz.underlying23]);rw[Tryz.ajk]at h2;simp only[lits,Zc,Zm,XT,reachBytes]at h2;omega
  refine⟨⟨some a,cap,zs.take len⟩,?_,⟨by show (zs.take len).length<=_; omega,fun i hi=>?_⟩,?_⟩
  ·show _=Value.slice (some a) (zs.take len).length cap
   rw[hlen]
  ·have hi':i<len:=by
    have:i<(zs.take len).length:=hi;omega
   have hc:=hcell i (by omega);obtain⟨b,off,rfl⟩:=VW (hcell 0 (by omega));refine⟨b,off,rfl,?_⟩;rw[Ga]at hc;rw[hc];simp[List.getD,hi']
  ·show (zs.take len).length*8<=_
   omega
theorem abG{l:List α}{d:α}{k:Nat}(hk:k<l.length):l.getD k d∈l:=by
 have e:l.getD k d=l[k]:=by simp[List.getD,hk]
 rw[e];exact Qp hk
theorem aeT{n:Int}(h:(Lit.int .i64 n).wf=true):-9223372036854775808<=n/\n<=9223372036854775807:=by
 have h1:(decide (IntKind.i64.min<=n)&&decide (n<=IntKind.i64.max))=true:=h;rw[Qt,QJ,QJ]at h1;have e1:IntKind.i64.min = -9223372036854775808:=by decide
 have e2:IntKind.i64.max=9223372036854775807:=by decide
 rw[e1,e2]at h1;exact h1
theorem MH{enc:TypeId × Value->H}{x:DataW H × List MemPlace}(h:DataW.trod enc Tryz.prog w 0 spare held fuel 23 [v]=some x)(hv:Value.okWide Tryz.prog w .any base 23 v)(hw:∀ n∈x.1.weights Tryz.prog 23,n<=reachBytes) :
  ∃ (lo:Option Addr) (lc:Nat) (l:List Int),v=.slice lo l.length lc/\aB w lo l/\(∀ x∈l,-9223372036854775808<=x/\x<=9223372036854775807)/\∀ a,lo=some a->a.block<w.heap.size:=by
 obtain⟨iv,rfl,hA,_⟩:=abF h hw;obtain⟨lo,lc,l⟩:=iv;refine⟨lo,lc,l,rfl,hA,?_,?_⟩
 ·rcases open_ints Tryz.underlying23 Tryz.underlying3 Tryz.cells3 h with⟨hcs,_⟩ | ⟨a,len,cap,zs,hcs,_,hl,_,hz,_,hcell,hwf⟩
  ·have e:Value.slice lo l.length lc=Value.slice none 0 0:=by simpa [ah.val] using hcs
   rw[Value.slice.injEq]at e;obtain⟨e1,e2,e3⟩:=e;obtain rfl:l=[]:=QL e2;intro x hx;simp at hx
  ·have e:Value.slice lo l.length lc=Value.slice (some a) len cap:=by simpa [ah.val] using hcs
   rw[Value.slice.injEq]at e;obtain⟨e1,e2,e3⟩:=e;subst e1 e2;intro x hx;obtain⟨i,hi,rfl⟩:=QC hx;have hlz:l.length<=zs.length:=by rw[hz]; split <;> omega
   obtain⟨b,off,e,hc⟩:=hA.2 i hi;have e':a=(aD b off):=by injection e
   subst e';have hc2:=hcell i (by omega);rw[Ga]at hc2;have hc':w.cell? (aD b (off+i))=some (.int .i64 (l.getD i 0)):=hc;rw[hc']at hc2;have e3':l.getD i 0=zs.getD i 0:=by rw[Option.some.injEq,Value.int.injEq]at hc2; exact hc2.2
   have e4:l.getD i 0=l[i]:=by simp[List.getD,hi]
   have hm:zs.getD i 0∈zs:=abG (by omega);rw[<- e4,e3'];exact aeT (hwf _ hm)
 ·intro a ha;have ha':=ha;subst ha';simp only[Value.okWide,Cell.okWide,ah.val,Tryz.underlying23,Cell.ok]at hv;have h3:=hv.2.2;unfold World.has at h3;obtain⟨_,_,row,cells,hsh,_⟩:=h3;unfold World.shape? at hsh;by_cases hlt:a.block<w.heap.size
  ·exact hlt
  ·rw[Array.getElem?_eq_none (by omega)]at hsh;simp at hsh
theorem own:ownKnob Tryz.prog.godebug=none:=by kernel_rfl
theorem laidOut:laidOutB Tryz.prog=true:=by kernel_rfl
theorem abH(os:Os):laidMetH Tryz.prog Rows.cheaperRow.laid ((({ World.holding Tryz.prog os ⟨#[],#[],[]⟩ with heap:=(World.holding Tryz.prog os ⟨#[],#[],[]⟩).heap.modify 0 (fun (o:Obj)=>match o with | .cells _ t frozen=>Obj.cells (#[.int .i64 0,.bool false,.bool false,.bool false,.bool false,.int .i64 0,.bool true,.bool false,.bool false,.bool false,.int .i64 1,.bool false,.bool true,.bool false,.bool false,.int .i64 2,.bool false,.bool true,.bool false,.bool false,.int .i64 2,.bool false,.bool true,.bool true,.bool false,.int .i64 2,.bool false,.bool true,.bool true,.bool false,.int .i64 1,.bool false,.bool false,.bool false,.bool true,.int .i64 1,.bool false,.bool false,.bool false,.bool false,.int .i64 1,.bool false,.bool false,.bool false,.bool false,.int .i64 1,.bool false,.bool false,.bool false,.bool false,.int .i64 1,.bool false,.bool false,.bool false,.bool false]:Array Value) t frozen | o=>o) }:World)).forCall (fun _ _=>0) ⟨#[],#[.slice none 0 0,.int .i64 0,.int .i64 0,.int .i64 0,.slice none 0 0],[]⟩).memory:=
 laidMetH_of_parts (laidMet_of_run' 8 (by kernel_rfl) (by kernel_rfl)) (by kernel_rfl)
theorem DC(os:Os)(started:os.Started)(H:Type)(enc:TypeId × Value->H) :
  ReturnsInHanded {} Tryz.checked os 7 .any (fun w args=>(Rows.cheaperSpec.pre enc Tryz.prog Tryz.f7 Rows.cheaperRow.domain false w args/\laidMetH Tryz.prog Rows.cheaperRow.laid w)/\sizedMet enc Tryz.prog Tryz.f7 (OpenSpec.ofChange Rows.cheaperSpec) false w args)
   (Rows.cheaperSpec.post enc Tryz.prog Tryz.f7 false true false false):=by
 refine returnsInHanded_of_change_and (C:=Tryz.checked) (X:=fun w _=>laidMetH Tryz.prog Rows.cheaperRow.laid w) (fun _ _ _ hh h=>h.of_heap hh) own started (by kernel_rfl) Tryz.func7
  (ChangeSpec.witness_at (enc:=enc) (C:=Tryz.checked) (os:=os) (X:=fun w _=>laidMetH Tryz.prog Rows.cheaperRow.laid w) false (({ World.holding Tryz.prog os ⟨#[],#[],[]⟩ with heap:=(World.holding Tryz.prog os ⟨#[],#[],[]⟩).heap.modify 0 (fun (o:Obj)=>match o with | .cells _ t frozen=>Obj.cells (#[.int .i64 0,.bool false,.bool false,.bool false,.bool false,.int .i64 0,.bool true,.bool false,.bool false,.bool false,.int .i64 1,.bool false,.bool true,.bool false,.bool false,.int .i64 2,.bool false,.bool true,.bool false,.bool false,.int .i64 2,.bool false,.bool true,.bool true,.bool false,.int .i64 2,.bool false,.bool true,.bool true,.bool false,.int .i64 1,.bool false,.bool false,.bool false,.bool true,.int .i64 1,.bool false,.bool false,.bool false,.bool false,.int .i64 1,.bool false,.bool false,.bool false,.bool false,.int .i64 1,.bool false,.bool false,.bool false,.bool false,.int .i64 1,.bool false,.bool false,.bool false,.bool false]:Array Value) t frozen | o=>o) }:World)) #[.slice none 0 0,.int .i64 0,.int .i64 0,.int .i64 0,.slice none 0 0] 8 rfl (by kernel_rfl) (by kernel_rfl) (by kernel_rfl) (by kernel_rfl) (by kernel_rfl) (abH os)) ?_
 intro W base args ds gs before hval0 hW hcnd hsz0 hL _;have hval:∀ (j:Nat) t v,Tryz.f7.params[j]? = some t->args[j]? = some v->Value.okWide Tryz.prog W .any base t v:=hval0;have hW':=hW;obtain⟨p,q,hA0,hV,rfl,hfz,hnd⟩:=hW;have hA:DataW.TrodAll enc Tryz.prog W 0 (fun _=>true) true Tryz.f7.params.toList args.toList ds p:=hA0;have hsz:(DataW.weightsEach Tryz.prog (Tryz.f7.params.toList++Rows.cheaperSpec.plain.varTypes Tryz.prog) (ds++gs)).all (·<=reachBytes)=true:=hsz0;rw[Tryz.params7]at hA hval hsz;obtain⟨v0,vs0,d0,ds0,p0,q0,hargs,rfl,rfl,h0,r0⟩:=trodAll_cons hA;obtain⟨v1,vs1,d1,ds1,p1,q1,rfl,rfl,rfl,h1,r1⟩:=trodAll_cons r0;obtain⟨v2,vs2,d2,ds2,p2,q2,rfl,rfl,rfl,h2,r2⟩:=trodAll_cons r1;obtain⟨v3,vs3,d3,ds3,p3,q3,rfl,rfl,rfl,h3,r3⟩:=trodAll_cons r2;obtain⟨v4,vs4,d4,ds4,p4,q4,rfl,rfl,rfl,h4,r4⟩:=trodAll_cons r3;obtain⟨rfl,rfl,rfl⟩:=trodAll_nil r4;obtain rfl:args=#[v0,v1,v2,v3,v4]:=by cases args; simp_all
 obtain⟨rfl,rfl⟩:=trodVars_none hV;have k0:=h0;have k1:=h1;have k2:=h2;have k3:=h3;have k4:=h4;have lt0:∀ x∈p0,x.block<W.heap.size:=by obtain⟨m,hm⟩:=k0; exact DataW.trod_lt m _ _ _ hm
 have lt1:∀ x∈p1,x.block<W.heap.size:=by obtain⟨m,hm⟩:=k1; exact DataW.trod_lt m _ _ _ hm
 have lt2:∀ x∈p2,x.block<W.heap.size:=by obtain⟨m,hm⟩:=k2; exact DataW.trod_lt m _ _ _ hm
 have lt3:∀ x∈p3,x.block<W.heap.size:=by obtain⟨m,hm⟩:=k3; exact DataW.trod_lt m _ _ _ hm
 have lt4:∀ x∈p4,x.block<W.heap.size:=by obtain⟨m,hm⟩:=k4; exact DataW.trod_lt m _ _ _ hm
 have hall:=Qu.1 hsz;have hw0:∀ n∈d0.weights Tryz.prog 23,n<=reachBytes:=fun n hn=>XV (hall n (DataW.weights_mem_each (j:=0) rfl rfl n hn))
 have hw4:∀ n∈d4.weights Tryz.prog 23,n<=reachBytes:=fun n hn=>XV (hall n (DataW.weights_mem_each (j:=4) rfl rfl n hn))
 obtain⟨n1,rfl⟩:=okWide_int Tryz.underlying3 (hval 1 3 v1 rfl rfl);have w1:(Lit.int .i64 n1).wf=true:=by
  obtain⟨f,hf⟩:=h1;obtain⟨n,hn,_,hwf⟩:=DataW.trod_int Tryz.underlying3 hf;simp[Value.cells]at hn;rw[hn]; exact hwf
 obtain⟨n2,rfl⟩:=okWide_int Tryz.underlying3 (hval 2 3 v2 rfl rfl);have w2:(Lit.int .i64 n2).wf=true:=by
  obtain⟨f,hf⟩:=h2;obtain⟨n,hn,_,hwf⟩:=DataW.trod_int Tryz.underlying3 hf;simp[Value.cells]at hn;rw[hn]; exact hwf
 obtain⟨n3,rfl⟩:=okWide_int Tryz.underlying3 (hval 3 3 v3 rfl rfl);have w3:(Lit.int .i64 n3).wf=true:=by
  obtain⟨f,hf⟩:=h3;obtain⟨n,hn,_,hwf⟩:=DataW.trod_int Tryz.underlying3 hf;simp[Value.cells]at hn;rw[hn]; exact hwf
 obtain⟨a0,aBe,cap0,rfl⟩:=okWide_slice Tryz.underlying23 (hval 0 23 v0 rfl rfl);obtain⟨a4,aBf,cap4,rfl⟩:=okWide_slice Tryz.underlying23 (hval 4 23 v4 rfl rfl);obtain⟨f0,hf0⟩:=h0;obtain⟨f4,hf4⟩:=h4;obtain⟨lo,lc,l,hv,hI,hR,hB⟩:=MH (x:=(d0,p0)) hf0 (hval 0 23 _ rfl rfl) hw0;obtain⟨po,pc,ps,hpv,hP,hPR,hPB⟩:=MH (x:=(d4,p4)) hf4 (hval 4 23 _ rfl rfl) hw4;rw[hv]at k0 hval hW' ⊢;rw[hpv]at k4 hval hW' ⊢;clear hA0 hval0;refine(MF lo lc l n1 n2 n3 po pc ps W hI hR hB hP hPB (Dz hL) (aeT w1) (aeT w2) (aeT w3)).mono fun e W' ⟨he,WS⟩=>?_
 subst he;exact⟨_,rfl,_,_,_,[],_,[],hW',trodAll_mk1 (shut_bool Tryz.underlying4 _),(trodAll_cons_mk (Below.trod laidOut (by kernel_rfl) (XV (by kernel_rfl)) k0 WS lt0) (trodAll_cons_mk (Below.trod laidOut (by kernel_rfl) (XV (by kernel_rfl)) k1 WS lt1) (trodAll_cons_mk (Below.trod laidOut (by kernel_rfl) (XV (by kernel_rfl)) k2 WS lt2) (trodAll_cons_mk (Below.trod laidOut (by kernel_rfl) (XV (by kernel_rfl)) k3 WS lt3) (trodAll_cons_mk (Below.trod laidOut (by kernel_rfl) (XV (by kernel_rfl)) k4 WS lt4) trodAll_mk0))))),rfl,WS.frame _,fun h=>by cases h⟩
theorem fT{a b:Bool}(ha:a=true)(hb:b=true):(a&&b)=true:=by rw[ha,hb]; rfl
theorem DD:joinedFacts Tryz.prog 7 Tryz.f7 Rows.cheaperSpec Rows.cheaperRow=true:=by
 unfold joinedFacts;refine fT ?_ JD;refine fT ?_ JC;refine fT ?_ JB;refine fT ?_ (by kernel_rfl);refine fT ?_ JA;refine fT ?_ Jz;refine fT ?_ Jy;refine fT ?_ Jw;refine fT ?_ Jv;refine fT ?_ Ju;refine fT ?_ Jt;refine fT ?_ Js;refine fT ?_ Jr;refine fT ?_ Jq;refine fT ?_ Jp;refine fT ?_ Jo;refine fT ?_ Jn;refine fT ?_ Jm;refine fT ?_ Jl;refine fT ?_ Jk;refine fT ?_ Jj;refine fT ?_ I9;refine fT ?_ Ns;refine fT ?_ Nr;refine fT ?_ Nq;refine fT ?_ Np;refine fT ?_ Nn;refine fT ?_ Nl;refine fT ?_ Nk;refine fT ?_ Ni;refine fT ?_ Nh;exact Ng
theorem IC:Tryz.f7.isInstance Tryz.prog Rows.cheaperRow.origin Rows.cheaperRow.targs:=XV (by kernel_rfl)
theorem IE:Tryz.f7.isWrapper Tryz.prog Rows.cheaperRow.wrapper Rows.cheaperRow.mainSum:=by unfold Func.isWrapper; first | (rw[Qy (by decide +kernel)]; kernel_rfl) | (rw[Qz (by decide +kernel)]; exact⟨rfl,rfl⟩)
theorem IG:Rows.CheaperSaid:=
 OpenClaim.holds_of_wide 7 Tryz.f7 rfl rfl rfl rfl rfl rfl rfl ⟨rfl,rfl,rfl,rfl,rfl⟩ rfl rfl rfl rfl rfl DT Tryz.func7 DD
  IC IE (fun os started H enc _=>DC os started H enc)
