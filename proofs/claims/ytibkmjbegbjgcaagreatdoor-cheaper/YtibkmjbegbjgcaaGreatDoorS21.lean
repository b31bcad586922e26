import Derived.Test.YtibkmjbegbjgcaaGreatDoorRows
import Derived.JoinedOf
import Derived.OpenShut
import Derived.LaidLaws
import Derived.LaidHandle
import Derived.ProofKit
import Derived.Deep.Slices
import Derived.Test.YtibkmjbegbjgcaaGreatDoorS07
set_option linter.all false
set_option maxRecDepth 100000
set_option maxHeartbeats 0
namespace Go.Proofs.YtibkmjbegbjgcaaGreatDoor
open Go.Proofs.Zz
theorem CO:Tryz.pinned.checked.prog.funcNamed Rows.cheaperRow.func=some 3:=by kernel_rfl
theorem LU:((Rows.cheaperRow).wf (OpenSpec.ofChange (Rows.cheaperSpec)))=true:=by kernel_rfl
theorem LV:(laidOutB (Tryz.prog))=true:=by kernel_rfl
theorem LW:(mapsRowed (Tryz.prog))=true:=by kernel_rfl
theorem LX:((Tryz.f3).params.all ((Tryz.prog).readableRec ·))=true:=by kernel_rfl
theorem LY:(namedTie (Tryz.prog) (Rows.cheaperRow).named (Rows.cheaperSpec).vars)=true:=by kernel_rfl
theorem LZ:(((Rows.cheaperRow).stops==[]))=true:=by kernel_rfl
theorem L6:(((Tryz.prog).stops==[]))=true:=by kernel_rfl
theorem L8:(((Rows.cheaperRow).knobs==[]))=true:=by kernel_rfl
theorem L9:(((Tryz.prog).stopKnobs==[]))=true:=by kernel_rfl
theorem Mc:(((Rows.cheaperRow).inPlace==(Tryz.prog).inPlace 3))=true:=by kernel_rfl
theorem Hd:(((Rows.cheaperRow).unfollowed==(Tryz.prog).unfollowed 3))=true:=by kernel_rfl
theorem He:(((Rows.cheaperRow).recurses==(Tryz.prog).recurses 3))=true:=by kernel_rfl
theorem Hf:(((Rows.cheaperRow).named==(Tryz.prog).varsNamed 3))=true:=by kernel_rfl
theorem Hg:(((Rows.cheaperRow).maps==((Tryz.f3).params.toList++(Rows.cheaperSpec).plain.varTypes (Tryz.prog)).any ((Tryz.prog).mapsRec ·)))=true:=by kernel_rfl
theorem Hl:(((Rows.cheaperRow).ifaces==((Tryz.f3).params.toList++(Rows.cheaperSpec).plain.varTypes (Tryz.prog)).any ((Tryz.prog).ifacesRec ·)))=true:=by kernel_rfl
theorem Hm:(((Rows.cheaperRow).mapsOut==(Tryz.prog).mapsAmong (Tryz.f3).resultTypes.toList))=true:=by kernel_rfl
theorem Ho:(((Rows.cheaperRow).loops==((Tryz.f3).params.toList++(Rows.cheaperSpec).plain.varTypes (Tryz.prog)).any ((Tryz.prog).loopsFrom ·)))=true:=by kernel_rfl
theorem Hr:(((Rows.cheaperRow).wideKeys==((Tryz.f3).params.toList++(Rows.cheaperSpec).plain.varTypes (Tryz.prog)++(Tryz.f3).resultTypes.toList).any ((Tryz.prog).wideKeysFrom ·)))=true:=by kernel_rfl
theorem Ht:((Rows.cheaperSpec).vars.all ((Tryz.prog).varReadable ·))=true:=by kernel_rfl
theorem Hu:((Tryz.f3).resultTypes.all (λt=>(Tryz.prog).readableRec t&&decide (t<(Tryz.prog).types.size)))=true:=by kernel_rfl
theorem Hw:(((Rows.cheaperRow).ifacesOut==(Tryz.f3).resultTypes.toList.any ((Tryz.prog).ifacesRec ·)))=true:=by kernel_rfl
theorem Hy:(((Rows.cheaperRow).loopsOut==(Tryz.f3).resultTypes.toList.any ((Tryz.prog).loopsFrom ·)))=true:=by kernel_rfl
theorem Hz:(((Rows.cheaperRow).plainKeys==(Tryz.prog).plainKeys))=true:=by kernel_rfl
theorem H5:((Rows.cheaperRow).shortTexts.isNone)=true:=by kernel_rfl
theorem H6:((Tryz.prog).stopsHeard)=true:=by kernel_rfl
theorem H7:((Tryz.prog).mayEnter)=true:=by kernel_rfl
theorem H8:(((Rows.cheaperRow).lifted==(Tryz.prog).liftsFinal))=true:=by kernel_rfl
theorem H9:(((Tryz.prog).make==some (Rows.cheaperRow).make))=true:=by kernel_rfl
theorem Ia:(((Rows.cheaperRow).pinned==(Rows.cheaperRow).pinnedBy))=true:=by kernel_rfl
theorem Ib:(((Rows.cheaperRow).veiled==((Tryz.f3).params.toList++(Rows.cheaperSpec).plain.varTypes (Tryz.prog)++(Tryz.f3).resultTypes.toList).any ((Tryz.prog).veiledRec ·)))=true:=by kernel_rfl
theorem Ic:((Rows.cheaperRow).veiledFits (Tryz.prog) (Tryz.f3).params.toList ((Tryz.f3).params.toList++(Rows.cheaperSpec).plain.varTypes (Tryz.prog)++(Tryz.f3).resultTypes.toList))=true:=by kernel_rfl
open Go.RowKit
theorem Tryz.ac8 : Tryz.prog.globalNamed (Rows.cheaperRow.named.headD "") = some 0 := by kernel_rfl
theorem Tryz.ac9:(Tryz.prog.globals[0]?).map (·.type)=some 226:=by kernel_rfl
theorem Tryz.ada:Tryz.prog.cellsOf 226=55:=by kernel_rfl
theorem Tryz.aav:Tryz.prog.cellsOf 225=5:=by kernel_rfl
theorem Tryz.adb:Tryz.prog.cellsOf 3=1:=by kernel_rfl
theorem Tryz.ade:Tryz.prog.cellsOf 4=1:=by kernel_rfl
theorem aaw{α:Type}{l:List α}(h:l.length=5):∃ a b c d e,l=[a,b,c,d,e]:=by
 match l,h with
 | [a,b,c,d,e],_ => exact⟨a,b,c,d,e,rfl⟩
theorem Lc{H:Type}{enc:TypeId × Value->H}{w:World}{base:Nat}{spare:Nat->Bool}{held:Bool}{fuel:Nat}{cs:List Value}{x:DataW H × List MemPlace}(h:DataW.trod enc Tryz.prog w base spare held fuel 225 cs=some x) :
  ∃ n b1 b2 b3 b4,cs=[.int .i64 n,.bool b1,.bool b2,.bool b3,.bool b4]/\x.1=.agg [.lit (.int .i64 n),.lit (.bool b1),.lit (.bool b2),.lit (.bool b3),.lit (.bool b4)]:=by
 obtain⟨xs,n,_,rfl,hl,hlen,hf⟩:=DataW.trod_struct Tryz.underlying225 h;rw[Tryz.aav]at hl;obtain⟨c0,c1,c2,c3,c4,rfl⟩:=aaw hl;obtain⟨y0,y1,y2,y3,y4,rfl⟩:=aaw (show xs.length=5 from hlen);have q0:=hf 0 _ rfl;have q1:=hf 1 _ rfl;have q2:=hf 2 _ rfl;have q3:=hf 3 _ rfl;have q4:=hf 4 _ rfl;simp[Tryz.adb,Tryz.ade]at q0 q1 q2 q3 q4;obtain⟨n0,e0,f0,_⟩:=DataW.trod_int Tryz.underlying3 q0;obtain⟨b1,e1,f1⟩:=DataW.trod_bool Tryz.underlying4 q1;obtain⟨b2,e2,f2⟩:=DataW.trod_bool Tryz.underlying4 q2;obtain⟨b3,e3,f3⟩:=DataW.trod_bool Tryz.underlying4 q3;obtain⟨b4,e4,f4⟩:=DataW.trod_bool Tryz.underlying4 q4;refine⟨n0,b1,b2,b3,b4,?_,?_⟩
 .simp at e0 e1 e2 e3 e4;rw[e0,e1,e2,e3,e4]
 .subst f0 f1 f2 f3 f4;rfl
theorem adf{α:Type}{l:List α}(h:l.length=11):∃ a0 a1 a2 a3 a4 a5 a6 a7 a8 a9 jq,l=[a0,a1,a2,a3,a4,a5,a6,a7,a8,a9,jq]:=by
 match l,h with
 | [a0,a1,a2,a3,a4,a5,a6,a7,a8,a9,jq],_ => exact⟨a0,a1,a2,a3,a4,a5,a6,a7,a8,a9,jq,rfl⟩
theorem gy{l:List Value}{i:Nat}{H:Type}{enc:TypeId × Value->H}{w:World}{base:Nat}{spare:Nat->Bool}{held:Bool}{fuel:Nat}{x:DataW H × List MemPlace}{a:Int}{b1 b2 b3 b4:Bool}(h:DataW.trod enc Tryz.prog w base spare held fuel 225 ((l.drop (i*5)).take 5)=some x)
  (hx:x.1=.agg [.lit (.int .i64 a),.lit (.bool b1),.lit (.bool b2),.lit (.bool b3),.lit (.bool b4)]):(l.drop (i*5)).take 5=[.int .i64 a,.bool b1,.bool b2,.bool b3,.bool b4]:=by obtain⟨n,c1,c2,c3,c4,e,f⟩:=Lc h;rw[hx]at f;simp at f;obtain⟨rfl,rfl,rfl,rfl,rfl⟩:=f;exact e
theorem Cs{W:World}(h:laidMetH Tryz.prog Rows.cheaperRow.laid W):bM W 0:=by
 have h':laidMet Tryz.prog Rows.cheaperRow.laid W:=h;obtain⟨ps,⟨g,t,cs,fuel,p,q,hg,ht,hvar,hd,_,_⟩,_⟩:=h';obtain rfl:=Option.some.inj (Tryz.ac8.symm.trans hg);obtain rfl:=Option.some.inj (Tryz.ac9.symm.trans ht);obtain⟨xs,m,_,hx,hl,hlen,hf⟩:=DataW.trod_array Tryz.underlying226 hd;rw[Tryz.ada]at hl;rw[Tryz.aav]at hf;obtain⟨a0,a1,a2,a3,a4,a5,a6,a7,a8,a9,jq,rfl⟩:=adf hlen;have hx1:=congrArg Prod.fst hx;simp only[Rows.laid_scout_plan_shapes,List.map_cons,List.map_nil,DataW.agg.injEq,List.cons.injEq,and_true]at hx1;obtain⟨x0,x1,x2,x3,x4,x5,x6,x7,x8,x9,x10⟩:=hx1;have each:∀ i,i<11->(cs.toList.drop (i*5)).take 5=(fM ((i:Nat):Int)).toList:=by
  intro i hi
  match i,hi with
  | 0,_ => exact(gy (i:=0) (hf 0 (by omega)) x0.symm).trans (by rfl)
  | 1,_ => exact(gy (i:=1) (hf 1 (by omega)) x1.symm).trans (by rfl)
  | 2,_ => exact(gy (i:=2) (hf 2 (by omega)) x2.symm).trans (by rfl)
  | 3,_ => exact(gy (i:=3) (hf 3 (by omega)) x3.symm).trans (by rfl)
  | 4,_ => exact(gy (i:=4) (hf 4 (by omega)) x4.symm).trans (by rfl)
  | 5,_ => exact(gy (i:=5) (hf 5 (by omega)) x5.symm).trans (by rfl)
  | 6,_ => exact(gy (i:=6) (hf 6 (by omega)) x6.symm).trans (by rfl)
  | 7,_ => exact(gy (i:=7) (hf 7 (by omega)) x7.symm).trans (by rfl)
  | 8,_ => exact(gy (i:=8) (hf 8 (by omega)) x8.symm).trans (by rfl)
  | 9,_ => exact(gy (i:=9) (hf 9 (by omega)) x9.symm).trans (by rfl)
  | 10,_ => exact(gy (i:=10) (hf 10 (by omega)) x10.symm).trans (by rfl)
 intro j u hj;rw[World.var?_cell hg hvar j,<- Array.getElem?_toList];have aA4:j<55:=by
  have h1:lh.length=55:=by rfl
  have h2:=(Xr.1 hj).1;omega
 have e1:j=j / 5*5+j % 5:=by omega
 have hlt:j / 5<11:=by omega
 have hm:j % 5<5:=Nat.mod_lt _ (by omega);have h3:=each (j / 5) hlt;have h4:cs.toList[j]? = (fM ((j / 5:Nat):Int)).toList[j % 5]?:=by rw[<- h3,XG,Zb hm,List.getElem?_drop,<- e1]
 have h5:lh[j]? = (fM ((j / 5:Nat):Int)).toList[j % 5]?:=by
  have:=XD (λ(k:Nat)=>(fM (k:Int)).toList) 5 (λ_=>rfl) 0 (List.range 11) (j / 5) (j % 5) (by simp; exact hlt) hm;unfold lh;rw[e1];have e2:(j / 5*5+j % 5) / 5=j / 5:=by omega
  have e3:(j / 5*5+j % 5) % 5=j % 5:=by omega
  rw[e2,e3,this];simp[List.getD,hlt]
 rw[h4,<- h5];exact hj
open Go.Deep Go.ChangeShapes Go.WideShapes Go.ChangeAt
theorem Tryz.cells3:Tryz.prog.cellsOf 3=1:=by kernel_rfl
theorem Tryz.ahC:Tryz.prog.bytesOf 3=8:=by kernel_rfl
variable {H:Type} {enc:TypeId × Value->H} {w:World} {spare:Nat->Bool} {held:Bool} {fuel:Nat}
theorem UG{a:Addr}{v:Value}(h:w.cell? (a.add 0)=some v):∃ b off,a=(aD b off):=by
 obtain⟨b,off,spot⟩:=a;have hs:spot=none:=by have:=World.cell?_spot h;simpa [Addr.add] using this
 subst hs;exact⟨b,off,rfl⟩
theorem EA(b off j:Nat):((aD b off):Addr).add j=(aD b (off+j)):=by unfold Addr.add; split <;> simp_all
theorem aax{v:Value}{x:DataW H × List MemPlace}(h:DataW.trod enc Tryz.prog w 0 spare held fuel 22 [v]=some x)(hw:∀ n∈x.1.weights Tryz.prog 22,n<=reachBytes) :
  ∃ iv:ah,v=iv.val/\iv.At w/\iv.xs.length*8<=140737488351232:=by
 rcases open_ints Tryz.underlying22 Tryz.underlying3 Tryz.cells3 h with⟨hcs,_⟩ | ⟨a,len,cap,zs,hcs,_,hl,hm,hz,hx,hcell,_⟩
 .simp at hcs;subst hcs;exact⟨⟨none,0,[]⟩,rfl,⟨by simp,λi hi=>absurd hi (by simp)⟩,by simp⟩
 .simp at hcs;subst hcs;have hlz:len<=zs.length:=by rw[hz]; split <;> omega
  have hlen:(zs.take len).length=len:=by rw[XT]; omega
  have hb:len*8<=140737488351232:=by have h2:=hw (((lits IntKind.i64 (zs.take len):List (DataW H)).length+(lits IntKind.i64 (zs.drop len):List (DataW H)).length)*Tryz.prog.bytesOf 3) (by rw[hx]; simp[DataW.weights,Tryz.underlying22]);rw[Tryz.ahC]at h2;simp only[lits,ZH,XT,List.length_drop,reachBytes]at h2;omega
  refine⟨⟨some a,cap,zs.take len⟩,?_,⟨by show (zs.take len).length<=_; omega,λi hi=>?_⟩,?_⟩
  .show _=Value.slice (some a) (zs.take len).length cap
   rw[hlen]
  .have hi':i<len:=by grind
   have hc:=hcell i (by omega);obtain⟨b,off,rfl⟩:=UG (hcell 0 (by omega));refine⟨b,off,rfl,?_⟩;rw[EA]at hc;rw[hc];simp[List.getD,hi']
  grind
theorem aay{α:Type}{l:List α}{d:α}{k:Nat}(hk:k<l.length):l.getD k d∈l:=by
 have e:l.getD k d=l[k]:=by simp[List.getD,hk]
 rw[e];exact XO hk
theorem adg{n:Int}(h:(Lit.int .i64 n).wf=true):-9223372036854775808<=n/\n<=9223372036854775807:=by
 have h1:(decide (IntKind.i64.min<=n)&&decide (n<=IntKind.i64.max))=true:=h;rw[Q6,Zf,Zf]at h1;have e1:IntKind.i64.min = -9223372036854775808:=by decide
 have e2:IntKind.i64.max=9223372036854775807:=by decide
 rw[e1,e2]at h1;exact h1
theorem Ld{H:Type}{enc:TypeId × Value->H}{w:World}{spare:Nat->Bool}{held:Bool}{fuel base:Nat}{v:Value}{x:DataW H × List MemPlace}(h:DataW.trod enc Tryz.prog w 0 spare held fuel 22 [v]=some x)(hv:Value.okWide Tryz.prog w .any base 22 v)(hw:∀ n∈x.1.weights Tryz.prog 22,n<=reachBytes) :
  ∃ (lo:Option Addr) (lc:Nat) (l:List Int),v=.slice lo l.length lc/\IntsAt w lo l/\(∀ x∈l,-9223372036854775808<=x/\x<=9223372036854775807)/\∀ a,lo=some a->a.block<w.heap.size:=by
 obtain⟨iv,rfl,hA,_⟩:=aax h hw;obtain⟨lo,lc,l⟩:=iv;refine⟨lo,lc,l,rfl,hA,?_,?_⟩
 .rcases open_ints Tryz.underlying22 Tryz.underlying3 Tryz.cells3 h with⟨hcs,_⟩ | ⟨a,len,cap,zs,hcs,_,hl,_,hz,_,hcell,hwf⟩
  .have e:Value.slice lo l.length lc=Value.slice none 0 0:=by simpa [ah.val] using hcs
   rw[Value.slice.injEq]at e;obtain⟨e1,e2,e3⟩:=e;obtain rfl:l=[]:=Zk e2;intro x hx;simp at hx
  .have e:Value.slice lo l.length lc=Value.slice (some a) len cap:=by simpa [ah.val] using hcs
   rw[Value.slice.injEq]at e;obtain⟨e1,e2,e3⟩:=e;subst e1 e2;intro x hx;obtain⟨i,hi,rfl⟩:=Zc hx;have hlz:l.length<=zs.length:=by rw[hz]; split <;> omega
   obtain⟨b,off,e,hc⟩:=hA.2 i hi;have e':a=(aD b off):=by injection e
   subst e';have hc2:=hcell i (by omega);rw[EA]at hc2;have hc':w.cell? (aD b (off+i))=some (.int .i64 (l.getD i 0)):=hc;rw[hc']at hc2;have e3':l.getD i 0=zs.getD i 0:=by rw[Option.some.injEq,Value.int.injEq]at hc2; exact hc2.2
   have e4:l.getD i 0=l[i]:=by simp[List.getD,hi]
   have hm:zs.getD i 0∈zs:=aay (by omega);rw[<- e4,e3'];exact adg (hwf _ hm)
 .intro a ha;have ha':=ha;subst ha';simp only[Value.okWide,Cell.okWide,ah.val,Tryz.underlying22,Cell.ok]at hv;have h3:=hv.2.2;unfold World.has at h3;obtain⟨_,_,row,cells,hsh,_⟩:=h3;unfold World.shape? at hsh;by_cases hlt:a.block<w.heap.size
  .exact hlt
  .rw[Array.getElem?_eq_none (by omega)]at hsh;simp at hsh
