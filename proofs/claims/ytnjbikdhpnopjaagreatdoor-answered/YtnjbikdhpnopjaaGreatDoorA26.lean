import Derived.Test.YtnjbikdhpnopjaaGreatDoorRows
import Derived.OpenShut
import Derived.LaidLaws
import Derived.LaidHandle
import Derived.SevenTiedAt
import Derived.Test.YtnjbikdhpnopjaaGreatDoorA05
set_option linter.all false
set_option maxRecDepth 100000
set_option maxHeartbeats 0
namespace Go.Proofs.YtnjbikdhpnopjaaGreatDoor
open Go.RowKit Go.Proofs.Zz
theorem Tryz.akt : Tryz.prog.globalNamed (Rows.answeredRow.named.headD "") = some 0 := by kernel_rfl
theorem Tryz.aku:(Tryz.prog.globals[0]?).map (·.type)=some 224:=by kernel_rfl
theorem Tryz.akv:Tryz.prog.cellsOf 224=55:=by kernel_rfl
theorem Tryz.ahA:Tryz.prog.cellsOf 223=5:=by kernel_rfl
theorem Tryz.akw:Tryz.prog.cellsOf 3=1:=by kernel_rfl
theorem Tryz.akx:Tryz.prog.cellsOf 4=1:=by kernel_rfl
theorem ahB{α:Type}{l:List α}(h:l.length=5):∃ a b c d e,l=[a,b,c,d,e]:=by
 match l,h with
 | [a,b,c,d,e],_ => exact⟨a,b,c,d,e,rfl⟩
theorem UL{H:Type}{enc:TypeId × Value->H}{w:World}{base:Nat}{spare:Nat->Bool}{held:Bool}{fuel:Nat}{cs:List Value}{x:DataW H × List MemPlace}(h:DataW.trod enc Tryz.prog w base spare held fuel 223 cs=some x) :
  ∃ n b1 b2 b3 b4,cs=[.int .i64 n,.bool b1,.bool b2,.bool b3,.bool b4]/\x.1=.agg [.lit (.int .i64 n),.lit (.bool b1),.lit (.bool b2),.lit (.bool b3),.lit (.bool b4)]:=by
 obtain⟨xs,n,_,rfl,hl,hlen,hf⟩:=DataW.trod_struct Tryz.underlying223 h;rw[Tryz.ahA]at hl;obtain⟨c0,c1,c2,c3,c4,rfl⟩:=ahB hl;obtain⟨y0,y1,y2,y3,y4,rfl⟩:=ahB (show xs.length=5 from hlen);have q0:=hf 0 _ rfl;have q1:=hf 1 _ rfl;have q2:=hf 2 _ rfl;have q3:=hf 3 _ rfl;have q4:=hf 4 _ rfl;simp[Tryz.akw,Tryz.akx]at q0 q1 q2 q3 q4;obtain⟨n0,e0,f0,_⟩:=DataW.trod_int Tryz.underlying3 q0;obtain⟨b1,e1,f1⟩:=DataW.trod_bool Tryz.underlying4 q1;obtain⟨b2,e2,f2⟩:=DataW.trod_bool Tryz.underlying4 q2;obtain⟨b3,e3,f3⟩:=DataW.trod_bool Tryz.underlying4 q3;obtain⟨b4,e4,f4⟩:=DataW.trod_bool Tryz.underlying4 q4;refine⟨n0,b1,b2,b3,b4,?_,?_⟩
 .simp at e0 e1 e2 e3 e4;rw[e0,e1,e2,e3,e4]
 .subst f0 f1 f2 f3 f4;rfl
theorem aky{α:Type}{l:List α}(h:l.length=11):∃ a0 a1 a2 a3 a4 a5 a6 a7 a8 a9 nA,l=[a0,a1,a2,a3,a4,a5,a6,a7,a8,a9,nA]:=by
 match l,h with
 | [a0,a1,a2,a3,a4,a5,a6,a7,a8,a9,nA],_ => exact⟨a0,a1,a2,a3,a4,a5,a6,a7,a8,a9,nA,rfl⟩
theorem jw{l:List Value}{i:Nat}{H:Type}{enc:TypeId × Value->H}{w:World}{base:Nat}{spare:Nat->Bool}{held:Bool}{fuel:Nat}{x:DataW H × List MemPlace}{a:Int}{b1 b2 b3 b4:Bool}(h:DataW.trod enc Tryz.prog w base spare held fuel 223 ((l.drop (i*5)).take 5)=some x)
  (hx:x.1=.agg [.lit (.int .i64 a),.lit (.bool b1),.lit (.bool b2),.lit (.bool b3),.lit (.bool b4)]):(l.drop (i*5)).take 5=[.int .i64 a,.bool b1,.bool b2,.bool b3,.bool b4]:=by obtain⟨n,c1,c2,c3,c4,e,f⟩:=UL h;rw[hx]at f;simp at f;obtain⟨rfl,rfl,rfl,rfl,rfl⟩:=f;exact e
theorem JL{W:World}(h:laidMetH Tryz.prog Rows.answeredRow.laid W):bR W 0:=by
 have h':laidMet Tryz.prog Rows.answeredRow.laid W:=h;obtain⟨ps,⟨g,t,cs,fuel,p,q,hg,ht,hvar,hd,_,_⟩,_⟩:=h';obtain rfl:=XY (Tryz.akt.symm.trans hg);obtain rfl:=XY (Tryz.aku.symm.trans ht);obtain⟨xs,m,_,hx,hl,hlen,hf⟩:=DataW.trod_array Tryz.underlying224 hd;rw[Tryz.akv]at hl;rw[Tryz.ahA]at hf;obtain⟨a0,a1,a2,a3,a4,a5,a6,a7,a8,a9,nA,rfl⟩:=aky hlen;have hx1:=congrArg Prod.fst hx;simp only[Rows.laid_scout_plan_shapes,Xg,List.map_nil,DataW.agg.injEq,List.cons.injEq,and_true]at hx1;obtain⟨x0,x1,x2,x3,x4,x5,x6,x7,x8,x9,x10⟩:=hx1;have each:∀ i,i<11->(cs.toList.drop (i*5)).take 5=(iX ((i:Nat):Int)).toList:=by
  intro i hi
  match i,hi with
  | 0,_ => exact(jw (i:=0) (hf 0 (by omega)) x0.symm).trans (by rfl)
  | 1,_ => exact(jw (i:=1) (hf 1 (by omega)) x1.symm).trans (by rfl)
  | 2,_ => exact(jw (i:=2) (hf 2 (by omega)) x2.symm).trans (by rfl)
  | 3,_ => exact(jw (i:=3) (hf 3 (by omega)) x3.symm).trans (by rfl)
  | 4,_ => exact(jw (i:=4) (hf 4 (by omega)) x4.symm).trans (by rfl)
  | 5,_ => exact(jw (i:=5) (hf 5 (by omega)) x5.symm).trans (by rfl)
  | 6,_ => exact(jw (i:=6) (hf 6 (by omega)) x6.symm).trans (by rfl)
  | 7,_ => exact(jw (i:=7) (hf 7 (by omega)) x7.symm).trans (by rfl)
  | 8,_ => exact(jw (i:=8) (hf 8 (by omega)) x8.symm).trans (by rfl)
  | 9,_ => exact(jw (i:=9) (hf 9 (by omega)) x9.symm).trans (by rfl)
  | 10,_ => exact(jw (i:=10) (hf 10 (by omega)) x10.symm).trans (by rfl)
 intro j u hj;rw[World.var?_cell hg hvar j,<- Array.getElem?_toList];have aIY:j<55:=by
  have h1:pE.length=55:=by rfl
  have h2:=(Zy.1 hj).1;omega
 have e1:j=j / 5*5+j % 5:=by omega
 have hlt:j / 5<11:=by omega
 have hm:j % 5<5:=Nat.mod_lt _ (by omega);have h3:=each (j / 5) hlt;have h4:cs.toList[j]? = (iX ((j / 5:Nat):Int)).toList[j % 5]?:=by rw[<- h3,Xt,Zt hm,List.getElem?_drop,<- e1]
 have h5:pE[j]? = (iX ((j / 5:Nat):Int)).toList[j % 5]?:=by
  have:=Xq (λ(k:Nat)=>(iX (k:Int)).toList) 5 (λ_=>rfl) 0 (List.range 11) (j / 5) (j % 5) (by simp; exact hlt) hm;unfold pE;rw[e1];have e2:(j / 5*5+j % 5) / 5=j / 5:=by omega
  have e3:(j / 5*5+j % 5) % 5=j % 5:=by omega
  rw[e2,e3,this];simp[List.getD,hlt]
 rw[h4,<- h5];exact hj
open Go
theorem akz:Rows.answeredRow.wfByText (OpenSpec.ofChange Rows.answeredSpec)=true:=by kernel_rfl
theorem adR : Tryz.pinned.checked.prog.mainIs = some ((true, "e78d64e75df62fba10913a3a3cb089752e0fc84eccafdbcfdd135f0b8458124e").1, (true, "e78d64e75df62fba10913a3a3cb089752e0fc84eccafdbcfdd135f0b8458124e").2.toList) := by kernel_rfl
theorem YX:false=Tryz.pinned.checked.prog.looks []:=by kernel_rfl
theorem adS:false=Rows.answeredRow.goesBy Tryz.pinned.checked.prog:=by kernel_rfl
theorem YY:Tryz.pinned.checked.prog.funcNamed Rows.answeredRow.func=some 3:=by kernel_rfl
theorem aaW:Tryz.pinned.checked.prog.wantsStandIn 22=false:=by kernel_rfl
theorem O5:Tryz.pinned.checked.prog.wantsStandIn 3=false:=by kernel_rfl
