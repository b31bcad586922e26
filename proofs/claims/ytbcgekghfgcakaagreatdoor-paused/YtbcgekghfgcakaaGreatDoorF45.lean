import Derived.Test.YtbcgekghfgcakaaGreatDoorRows
import Derived.Lib.AppendIntMem
import Derived.OpenShut
import Derived.LaidHandle
import Derived.ProofKit
import Derived.Deep.Slices
import Derived.Test.YtbcgekghfgcakaaGreatDoorF43
set_option linter.all false
set_option maxRecDepth 100000
set_option maxHeartbeats 16000000
namespace Go.Proofs.YtbcgekghfgcakaaGreatDoor
open Go.RowKit Go.Proofs.Zz
theorem Tryz.ack : Tryz.prog.globalNamed (Rows.pausedRow.named.getLastD "") = some 0 := by kernel_rfl
theorem Tryz.acm:(Tryz.prog.globals[0]?).map (·.type)=some 271:=by kernel_rfl
theorem Tryz.acn:Tryz.prog.cellsOf 271=55:=by kernel_rfl
theorem Tryz.Yy:Tryz.prog.cellsOf 270=5:=by kernel_rfl
theorem Tryz.aco:Tryz.prog.cellsOf 3=1:=by kernel_rfl
theorem Tryz.acp:Tryz.prog.cellsOf 4=1:=by kernel_rfl
theorem Yz {α:Type} {l:List α} (h:l.length=5):∃ a b c d e,l=[a,b,c,d,e]:=by
 match l,h with
 | [a,b,c,d,e],_ => exact⟨a,b,c,d,e,rfl⟩
theorem JY {H:Type} {enc:TypeId × Value->H} {w:World} {base:Nat} {spare:Nat->Bool} {held:Bool} {fuel:Nat} {cs:List Value} {x:DataW H × List MemPlace} (h:DataW.trod enc Tryz.prog w base spare held fuel 270 cs=some x) :
  ∃ n b1 b2 b3 b4,cs=[.int .i64 n,.bool b1,.bool b2,.bool b3,.bool b4]/\x.1=.agg [.lit (.int .i64 n),.lit (.bool b1),.lit (.bool b2),.lit (.bool b3),.lit (.bool b4)]:=by
 obtain⟨xs,n,_,rfl,hl,hlen,hf⟩:=DataW.trod_struct Tryz.underlying270 h;rw[Tryz.Yy] at hl;obtain⟨c0,c1,c2,c3,c4,rfl⟩:=Yz hl;obtain⟨y0,y1,y2,y3,y4,rfl⟩:=Yz (show xs.length=5 from hlen);have q0:=hf 0 _ rfl;have q1:=hf 1 _ rfl;have q2:=hf 2 _ rfl;have q3:=hf 3 _ rfl;have q4:=hf 4 _ rfl;simp[Tryz.aco,Tryz.acp] at q0 q1 q2 q3 q4;obtain⟨n0,e0,f0,_⟩:=DataW.trod_int Tryz.underlying3 q0;obtain⟨b1,e1,f1⟩:=DataW.trod_bool Tryz.underlying4 q1;obtain⟨b2,e2,f2⟩:=DataW.trod_bool Tryz.underlying4 q2;obtain⟨b3,e3,f3⟩:=DataW.trod_bool Tryz.underlying4 q3;obtain⟨b4,e4,f4⟩:=DataW.trod_bool Tryz.underlying4 q4;refine⟨n0,b1,b2,b3,b4,?_,?_⟩
 ·simp at e0 e1 e2 e3 e4;rw[e0,e1,e2,e3,e4]
 ·subst f0 f1 f2 f3 f4;rfl
theorem acr {α:Type} {l:List α} (h:l.length=11):∃ a0 a1 a2 a3 a4 a5 a6 a7 a8 a9 fI,l=[a0,a1,a2,a3,a4,a5,a6,a7,a8,a9,fI]:=by
 match l,h with
 | [a0,a1,a2,a3,a4,a5,a6,a7,a8,a9,fI],_ => exact⟨a0,a1,a2,a3,a4,a5,a6,a7,a8,a9,fI,rfl⟩
theorem fT {l:List Value} {i:Nat} {H:Type} {enc:TypeId × Value->H} {w:World} {base:Nat} {spare:Nat->Bool} {held:Bool} {fuel:Nat} {x:DataW H × List MemPlace} {a:Int} {b1 b2 b3 b4:Bool} (h:DataW.trod enc Tryz.prog w base spare held fuel 270 ((l.drop (i*5)).take 5)=some x)
  (hx:x.1=.agg [.lit (.int .i64 a),.lit (.bool b1),.lit (.bool b2),.lit (.bool b3),.lit (.bool b4)]):(l.drop (i*5)).take 5=[.int .i64 a,.bool b1,.bool b2,.bool b3,.bool b4]:=by
 obtain⟨n,c1,c2,c3,c4,e,f⟩:=JY h;rw[hx] at f;simp at f;obtain⟨rfl,rfl,rfl,rfl,rfl⟩:=f;exact e
theorem Bu {W:World} (h:laidMetH Tryz.prog Rows.pausedRow.laid W):cZ W 0:=by
 have h':laidMet Tryz.prog Rows.pausedRow.laid W:=h;obtain⟨ps,⟨_,_,_,_,_,_,_,_,_,_,⟨_,_,_,_,_,_,_,_,_,_,⟨_,_,_,_,_,_,_,_,_,_,⟨g,t,cs,fuel,p,q,hg,ht,hvar,hd,_,_⟩,_⟩,_⟩,_⟩,_⟩:=h';obtain rfl:=XX (Tryz.ack.symm.trans hg);obtain rfl:=XX (Tryz.acm.symm.trans ht);obtain⟨xs,m,_,hx,hl,hlen,hf⟩:=DataW.trod_array Tryz.underlying271 hd;rw[Tryz.acn] at hl;rw[Tryz.Yy] at hf;obtain⟨a0,a1,a2,a3,a4,a5,a6,a7,a8,a9,fI,rfl⟩:=acr hlen;have hx1:=congrArg Prod.fst hx;simp only[Rows.laid_scout_plan_shapes,List.map_cons,List.map_nil,DataW.agg.injEq,List.cons.injEq,and_true] at hx1;obtain⟨x0,x1,x2,x3,x4,x5,x6,x7,x8,x9,x10⟩:=hx1;have each:∀ i,i<11->(cs.toList.drop (i*5)).take 5=(je ((i:Nat):Int)).toList:=by
  intro i hi
  match i,hi with
  | 0,_ => exact (fT (i:=0) (hf 0 (by omega)) x0.symm).trans (by rfl)
  | 1,_ => exact (fT (i:=1) (hf 1 (by omega)) x1.symm).trans (by rfl)
  | 2,_ => exact (fT (i:=2) (hf 2 (by omega)) x2.symm).trans (by rfl)
  | 3,_ => exact (fT (i:=3) (hf 3 (by omega)) x3.symm).trans (by rfl)
  | 4,_ => exact (fT (i:=4) (hf 4 (by omega)) x4.symm).trans (by rfl)
  | 5,_ => exact (fT (i:=5) (hf 5 (by omega)) x5.symm).trans (by rfl)
  | 6,_ => exact (fT (i:=6) (hf 6 (by omega)) x6.symm).trans (by rfl)
  | 7,_ => exact (fT (i:=7) (hf 7 (by omega)) x7.symm).trans (by rfl)
  | 8,_ => exact (fT (i:=8) (hf 8 (by omega)) x8.symm).trans (by rfl)
  | 9,_ => exact (fT (i:=9) (hf 9 (by omega)) x9.symm).trans (by rfl)
  | 10,_ => exact (fT (i:=10) (hf 10 (by omega)) x10.symm).trans (by rfl)
 intro j u hj;rw[World.var?_cell hg hvar j,<- Array.getElem?_toList];have axO:j<55:=by
  have h1:kg.length=55:=by rfl
  have h2:=(ZF.1 hj).1;omega
 have e1:j=j / 5*5+j % 5:=by omega
 have hlt:j / 5<11:=by omega
 have hm:j % 5<5:=Nat.mod_lt _ (by omega);have h3:=each (j / 5) hlt;have h4:cs.toList[j]? = (je ((j / 5:Nat):Int)).toList[j % 5]?:=by
  rw[<- h3,ZH,Qr hm,XH,<- e1]
 have h5:kg[j]? = (je ((j / 5:Nat):Int)).toList[j % 5]?:=by
  have:=ZR (fun (k:Nat)=>(je (k:Int)).toList) 5 (fun _=>rfl) 0 (List.range 11) (j / 5) (j % 5) (by simp; exact hlt) hm;unfold kg;rw[e1];have e2:(j / 5*5+j % 5) / 5=j / 5:=by omega
  have e3:(j / 5*5+j % 5) % 5=j % 5:=by omega
  rw[e2,e3,this];simp[List.getD,hlt]
 rw[h4,<- h5];exact hj
theorem TK {P:Program} {W x:World} {n:String} {cs:Array Value} (hb:Below W.heap.size W x) (h:W.var? P n=some cs):x.var? P n=some cs:=by
 unfold World.var? at h ⊢
 cases hg:P.globalNamed n with
 | none => rw[hg] at h; cases h
 | some g =>
  rw[hg] at h;simp only[Option.bind_some] at h ⊢;have hl:g<W.heap.size:=by
   rcases Nat.lt_or_ge g W.heap.size with h' | h'
   ·exact h'
   ·rw[Array.getElem?_eq_none h'] at h; cases h
  rw[hb.block g hl];exact h
theorem Tryz.aqM : Tryz.prog.globalNamed (Rows.pausedRow.named.headD "") = some 4 := by kernel_rfl
theorem Tryz.aqN:(Tryz.prog.globals[4]?).map (·.type)=some 303:=by kernel_rfl
theorem Tryz.aqO:Tryz.prog.cellsOf 303=20:=by kernel_rfl
theorem Tryz.ak4:Tryz.prog.cellsOf 42=1:=by kernel_rfl
theorem F6 {W:World} (h:laidMetH Tryz.prog Rows.pausedRow.laid W):qZ W:=by
 have h':laidMet Tryz.prog Rows.pausedRow.laid W:=h;obtain⟨ps,⟨_,_,_,_,_,_,_,_,_,_,⟨_,_,_,_,_,_,_,_,_,_,⟨g,t,cs,fuel,p,q,hg,ht,hvar,hd,_,_⟩,_⟩,_⟩,_⟩:=h';obtain rfl:=XX (Tryz.aqM.symm.trans hg);obtain rfl:=XX (Tryz.aqN.symm.trans ht);have e:(Rows.laid_internal_strconv_uint64pow10:DataW Unit)=Lib.tabData .u64 Lib.pow10Tab:=by kernel_rfl
 rw[e] at hd;have hc:=Lib.cells_of_tab Tryz.underlying303 Tryz.underlying42 Tryz.ak4 Tryz.aqO hd;intro x hx n hn;have htab:=TK (P:=Tryz.prog) hx hvar;have e2:cs=(Lib.pow10Tab.map fun z=>Value.int .u64 z).toArray:=by rw[<- hc]
 rw[e2] at htab;refine (Any.strconv_Itoa Tryz.Vo n (by omega) (by omega) x htab).mono ?_;rintro e w' ⟨rfl,k,os,rfl⟩;exact⟨rfl,Lib.below_grow _ _ (Qq _) _ _⟩
theorem F7 {W:World} (h:W.ShapedOpen Tryz.prog):FR W:=by
 obtain⟨m,hm⟩:=cell_of_shapedOpen_int (g:=1) (t:=3) (zero:=#[.int .i64 0]) (k:=.i64) h (XJ (by kernel_rfl)) (by kernel_rfl) rfl (by kernel_rfl) (by kernel_rfl) Tryz.underlying3;intro x hx s hs;refine (Tryz.strings_Cut s ⟨#[32]⟩ m x (by omega) (cB hx hm)).mono ?_;rintro e w' ⟨rfl,n,rfl⟩;exact⟨rfl,below_drewN (Qp _ _) n⟩
open Go.Deep Go.ChangeShapes Go.WideShapes Go.ChangeAt
theorem Tryz.cells3:Tryz.prog.cellsOf 3=1:=by kernel_rfl
theorem Tryz.agG:Tryz.prog.bytesOf 3=8:=by kernel_rfl
variable {H:Type} {enc:TypeId × Value->H} {w:World} {spare:Nat->Bool} {held:Bool} {fuel:Nat}
theorem TL {a:Addr} {v:Value} (h:w.cell? (a.add 0)=some v):∃ b off,a=(aD b off):=by
 obtain⟨b,off,spot⟩:=a;have hs:spot=none:=by
  have:=World.cell?_spot h
  simpa [Addr.add] using this
 subst hs;exact⟨b,off,rfl⟩
theorem DT (b off j:Nat):((aD b off):Addr).add j=(aD b (off+j)):=by unfold Addr.add; split <;> simp_all
theorem YA {v:Value} {x:DataW H × List MemPlace} (h:DataW.trod enc Tryz.prog w 0 spare held fuel 22 [v]=some x) (hw:∀ n∈x.1.weights Tryz.prog 22,n<=reachBytes) :
  ∃ iv:ah,v=iv.val/\iv.At w/\iv.xs.length*8<=140737488351232:=by
 rcases open_ints Tryz.underlying22 Tryz.underlying3 Tryz.cells3 h with⟨hcs,_⟩ | ⟨a,len,cap,zs,hcs,_,hl,hm,hz,hx,hcell,_⟩
 ·simp at hcs;subst hcs;exact⟨⟨none,0,[]⟩,rfl,⟨by simp,fun i hi=>absurd hi (by simp)⟩,by simp⟩
 ·simp at hcs;subst hcs;have hlz:len<=zs.length:=by rw[hz]; split <;> omega
  have hlen:(zs.take len).length=len:=by rw[Q6]; omega
  have hb:len*8<=140737488351232:=by
   have h2:=hw (((lits IntKind.i64 (zs.take len):List (DataW H)).length+(lits IntKind.i64 (zs.drop len):List (DataW H)).length)*Tryz.prog.bytesOf 3) (by rw[hx]; simp[DataW.weights,Tryz.underlying22]);rw[Tryz.agG] at h2;simp only[lits,QU,Q6,XI,reachBytes] at h2;omega
  refine⟨⟨some a,cap,zs.take len⟩,?_,⟨by show (zs.take len).length<=_; omega,fun i hi=>?_⟩,?_⟩
  ·show _=Value.slice (some a) (zs.take len).length cap
   rw[hlen]
  ·have hi':i<len:=by
    have:i<(zs.take len).length:=hi;omega
   have hc:=hcell i (by omega);obtain⟨b,off,rfl⟩:=TL (hcell 0 (by omega));refine⟨b,off,rfl,?_⟩;rw[DT] at hc;rw[hc];simp[List.getD,hi']
  ·show (zs.take len).length*8<=_
   omega
theorem YB {α:Type} {l:List α} {d:α} {k:Nat} (hk:k<l.length):l.getD k d∈l:=by
 have e:l.getD k d=l[k]:=by simp[List.getD,hk]
 rw[e];exact Qj hk
theorem acs {n:Int} (h:(Lit.int .i64 n).wf=true):-9223372036854775808<=n/\n<=9223372036854775807:=by
 have h1:(decide (IntKind.i64.min<=n)&&decide (n<=IntKind.i64.max))=true:=h;rw[Qm,Qx,Qx] at h1;have e1:IntKind.i64.min = -9223372036854775808:=by decide
 have e2:IntKind.i64.max=9223372036854775807:=by decide
 rw[e1,e2] at h1;exact h1
theorem Bv {H:Type} {enc:TypeId × Value->H} {w:World} {spare:Nat->Bool} {held:Bool} {fuel base:Nat} {v:Value} {x:DataW H × List MemPlace} (h:DataW.trod enc Tryz.prog w 0 spare held fuel 22 [v]=some x) (hv:Value.okWide Tryz.prog w .any base 22 v) (hw:∀ n∈x.1.weights Tryz.prog 22,n<=reachBytes) :
  ∃ (lo:Option Addr) (lc:Nat) (l:List Int),v=.slice lo l.length lc/\au w lo l/\(∀ x∈l,-9223372036854775808<=x/\x<=9223372036854775807)/\∀ a,lo=some a->a.block<w.heap.size:=by
 obtain⟨iv,rfl,hA,_⟩:=YA h hw;obtain⟨lo,lc,l⟩:=iv;refine⟨lo,lc,l,rfl,hA,?_,?_⟩
 ·rcases open_ints Tryz.underlying22 Tryz.underlying3 Tryz.cells3 h with⟨hcs,_⟩ | ⟨a,len,cap,zs,hcs,_,hl,_,hz,_,hcell,hwf⟩
  ·have e:Value.slice lo l.length lc=Value.slice none 0 0:=by simpa [ah.val] using hcs
   rw[Value.slice.injEq] at e;obtain⟨e1,e2,e3⟩:=e;obtain rfl:l=[]:=Qz e2;intro x hx;simp at hx
  ·have e:Value.slice lo l.length lc=Value.slice (some a) len cap:=by simpa [ah.val] using hcs
   rw[Value.slice.injEq] at e;obtain⟨e1,e2,e3⟩:=e;subst e1 e2;intro x hx;obtain⟨i,hi,rfl⟩:=List.getElem_of_mem hx;have hlz:l.length<=zs.length:=by rw[hz]; split <;> omega
   obtain⟨b,off,e,hc⟩:=hA.2 i hi;have e':a=(aD b off):=by injection e
   subst e';have hc2:=hcell i (by omega);rw[DT] at hc2;have hc':w.cell? (aD b (off+i))=some (.int .i64 (l.getD i 0)):=hc;rw[hc'] at hc2;have e3':l.getD i 0=zs.getD i 0:=by rw[Option.some.injEq,Value.int.injEq] at hc2; exact hc2.2
   have e4:l.getD i 0=l[i]:=by simp[List.getD,hi]
   have hm:zs.getD i 0∈zs:=YB (by omega);rw[<- e4,e3'];exact acs (hwf _ hm)
 ·intro a ha;have ha':=ha;subst ha';simp only[Value.okWide,Cell.okWide,ah.val,Tryz.underlying22,Cell.ok] at hv;have h3:=hv.2.2;unfold World.has at h3;obtain⟨_,_,row,cells,hsh,_⟩:=h3;unfold World.shape? at hsh;by_cases hlt:a.block<w.heap.size
  ·exact hlt
  ·rw[Array.getElem?_eq_none (by omega)] at hsh;simp at hsh
