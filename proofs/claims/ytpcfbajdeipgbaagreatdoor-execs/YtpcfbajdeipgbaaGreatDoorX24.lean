import Derived.Test.YtpcfbajdeipgbaaGreatDoorRows
import Derived.JoinedOf
import Derived.ProofKit
import Derived.OpenShut
import Derived.Deep.Slices
import Derived.LaidLaws
import Derived.LaidHandle
import Derived.SevenTiedAt
import Derived.Test.YtpcfbajdeipgbaaGreatDoorX08
set_option linter.all false
set_option maxRecDepth 100000
set_option maxHeartbeats 0
namespace Go.Proofs.YtpcfbajdeipgbaaGreatDoor
open Go.Proofs.Zz
theorem Pp:Tryz.pinned.checked.prog.funcNamed Rows.execsRow.func=some 3:=by kernel_rfl
theorem aeC:((Rows.execsRow).wf (OpenSpec.ofChange (Rows.execsSpec)))=true:=by kernel_rfl
theorem aeD:(laidOutB (Tryz.prog))=true:=by kernel_rfl
theorem aeE:(mapsRowed (Tryz.prog))=true:=by kernel_rfl
theorem aeF:((Tryz.f3).params.all ((Tryz.prog).readableRec ·))=true:=by kernel_rfl
theorem aeG:(namedTie (Tryz.prog) (Rows.execsRow).named (Rows.execsSpec).vars)=true:=by kernel_rfl
theorem aeH:(((Rows.execsRow).stops==[]))=true:=by kernel_rfl
theorem aeI:(((Tryz.prog).stops==[]))=true:=by kernel_rfl
theorem aeJ:(((Rows.execsRow).knobs==[]))=true:=by kernel_rfl
theorem aeK:(((Tryz.prog).stopKnobs==[]))=true:=by kernel_rfl
theorem aeL:(((Rows.execsRow).inPlace==(Tryz.prog).inPlace 3))=true:=by kernel_rfl
theorem aaM:(((Rows.execsRow).unfollowed==(Tryz.prog).unfollowed 3))=true:=by kernel_rfl
theorem aaN:(((Rows.execsRow).recurses==(Tryz.prog).recurses 3))=true:=by kernel_rfl
theorem aaO:(((Rows.execsRow).named==(Tryz.prog).varsNamed 3))=true:=by kernel_rfl
theorem aaP:(((Rows.execsRow).maps==((Tryz.f3).params.toList++(Rows.execsSpec).plain.varTypes (Tryz.prog)).any ((Tryz.prog).mapsRec ·)))=true:=by kernel_rfl
theorem aaQ:(((Rows.execsRow).ifaces==((Tryz.f3).params.toList++(Rows.execsSpec).plain.varTypes (Tryz.prog)).any ((Tryz.prog).ifacesRec ·)))=true:=by kernel_rfl
theorem aaR:(((Rows.execsRow).mapsOut==(Tryz.prog).mapsAmong (Tryz.f3).resultTypes.toList))=true:=by kernel_rfl
theorem aaS:(((Rows.execsRow).loops==((Tryz.f3).params.toList++(Rows.execsSpec).plain.varTypes (Tryz.prog)).any ((Tryz.prog).loopsFrom ·)))=true:=by kernel_rfl
theorem aaT:(((Rows.execsRow).wideKeys==((Tryz.f3).params.toList++(Rows.execsSpec).plain.varTypes (Tryz.prog)++(Tryz.f3).resultTypes.toList).any ((Tryz.prog).wideKeysFrom ·)))=true:=by kernel_rfl
theorem aaU:((Rows.execsSpec).vars.all ((Tryz.prog).varReadable ·))=true:=by kernel_rfl
theorem aaV:((Tryz.f3).resultTypes.all (λt=>(Tryz.prog).readableRec t&&decide (t<(Tryz.prog).types.size)))=true:=by kernel_rfl
theorem aaW:(((Rows.execsRow).ifacesOut==(Tryz.f3).resultTypes.toList.any ((Tryz.prog).ifacesRec ·)))=true:=by kernel_rfl
theorem aaX:(((Rows.execsRow).loopsOut==(Tryz.f3).resultTypes.toList.any ((Tryz.prog).loopsFrom ·)))=true:=by kernel_rfl
theorem aaY:(((Rows.execsRow).plainKeys==(Tryz.prog).plainKeys))=true:=by kernel_rfl
theorem aaZ:((Rows.execsRow).shortTexts.isNone)=true:=by kernel_rfl
theorem aa0:((Tryz.prog).stopsHeard)=true:=by kernel_rfl
theorem aa1:((Tryz.prog).mayEnter)=true:=by kernel_rfl
theorem aa2:(((Rows.execsRow).lifted==(Tryz.prog).liftsFinal))=true:=by kernel_rfl
theorem aa3:(((Tryz.prog).make==some (Rows.execsRow).make))=true:=by kernel_rfl
theorem aa4:(((Rows.execsRow).pinned==(Rows.execsRow).pinnedBy))=true:=by kernel_rfl
theorem aa5:(((Rows.execsRow).veiled==((Tryz.f3).params.toList++(Rows.execsSpec).plain.varTypes (Tryz.prog)++(Tryz.f3).resultTypes.toList).any ((Tryz.prog).veiledRec ·)))=true:=by kernel_rfl
theorem aa6:((Rows.execsRow).veiledFits (Tryz.prog) (Tryz.f3).params.toList ((Tryz.f3).params.toList++(Rows.execsSpec).plain.varTypes (Tryz.prog)++(Tryz.f3).resultTypes.toList))=true:=by kernel_rfl
open Go.RowKit Go.Deep Go.ChangeShapes Go.WideShapes Go.ChangeAt
theorem Tryz.JR:Tryz.prog.cellsOf 3=1:=by kernel_rfl
theorem Tryz.ahK:Tryz.prog.cellsOf 4=1:=by kernel_rfl
theorem Tryz.O1:Tryz.prog.cellsOf 23=1:=by kernel_rfl
theorem Tryz.akD:Tryz.prog.cellsOf 86=1:=by kernel_rfl
theorem Tryz.akE:Tryz.prog.cellsOf 24=1:=by kernel_rfl
theorem Tryz.akF:Tryz.prog.cellsOf 88=1:=by kernel_rfl
theorem Tryz.akG:Tryz.prog.cellsOf 51=4:=by kernel_rfl
theorem Tryz.akH:Tryz.prog.cellsOf 53=6:=by kernel_rfl
theorem Tryz.akI:Tryz.prog.cellsOf 90=5:=by kernel_rfl
theorem Tryz.akJ:Tryz.prog.cellsOf 26=7:=by kernel_rfl
theorem Tryz.aoG:Tryz.prog.bytesOf 3=8:=by kernel_rfl
theorem Tryz.akK:Tryz.prog.bytesOf 53=48:=by kernel_rfl
theorem Tryz.akL:Tryz.prog.bytesOf 90=40:=by kernel_rfl
theorem Tryz.akM:Tryz.prog.bytesOf 88=24:=by kernel_rfl
variable {H:Type} {enc:TypeId × Value->H} {w:World} {spare:Nat->Bool} {held:Bool} {fuel:Nat}
theorem pO{a:Addr}{v:Value}(h:w.cell? (a.add 0)=some v):∃ b off,a=(aD b off):=by
 obtain⟨b,off,spot⟩:=a;have hs:spot=none:=by have:=World.cell?_spot h;simpa [Addr.add] using this
 subst hs;exact⟨b,off,rfl⟩
theorem pQ(b off j:Nat):((aD b off):Addr).add j=(aD b (off+j)):=by unfold Addr.add; split <;> simp_all
theorem qD{v:Value}{x:DataW H × List MemPlace}(h:DataW.trod enc Tryz.prog w 0 spare held fuel 23 [v]=some x)(hw:∀ n∈x.1.weights Tryz.prog 23,n<=reachBytes) :
  ∃ iv:ae,v=iv.val/\iv.At w/\iv.xs.length*8<=140737488351232:=by
 rcases open_ints Tryz.underlying23 Tryz.underlying3 Tryz.JR h with⟨hcs,_⟩ | ⟨a,len,cap,zs,hcs,_,hl,hm,hz,hx,hcell,_⟩
 .simp at hcs;subst hcs;exact⟨⟨none,0,[]⟩,rfl,⟨by simp,λi hi=>absurd hi (by simp)⟩,by simp⟩
 .simp at hcs;subst hcs;have hlz:len<=zs.length:=by rw[hz]; split <;> omega
  have hlen:(zs.take len).length=len:=by rw[XK]; omega
  have hb:len*8<=140737488351232:=by have h2:=hw (((lits IntKind.i64 (zs.take len):List (DataW H)).length+(lits IntKind.i64 (zs.drop len):List (DataW H)).length)*Tryz.prog.bytesOf 3) (by rw[hx]; simp[DataW.weights,Tryz.underlying23]);rw[Tryz.aoG]at h2;simp only[lits,Q8,XK,List.length_drop,reachBytes]at h2;omega
  refine⟨⟨some a,cap,zs.take len⟩,?_,⟨by show (zs.take len).length<=_; omega,λi hi=>?_⟩,?_⟩
  .show _=Value.slice (some a) (zs.take len).length cap
   rw[hlen]
  .have hi':i<len:=by grind
   have hc:=hcell i (by omega);obtain⟨b,off,rfl⟩:=pO (hcell 0 (by omega));refine⟨b,off,rfl,?_⟩;rw[pQ]at hc;rw[hc];simp[List.getD,hi']
  grind
theorem aut{α:Type}{l:List α}(h:l.length=3):∃ a b c,l=[a,b,c]:=by
 match l,h with
 | [a,b,c],_ => exact⟨a,b,c,rfl⟩
theorem auu{α:Type}{l:List α}(h:l.length=4):∃ a b c d,l=[a,b,c,d]:=by
 match l,h with
 | [a,b,c,d],_ => exact⟨a,b,c,d,rfl⟩
theorem al1{α:Type}{l:List α}(h:l.length=5):∃ a b c d e,l=[a,b,c,d,e]:=by
 match l,h with
 | [a,b,c,d,e],_ => exact⟨a,b,c,d,e,rfl⟩
theorem auv{α:Type}{l:List α}(h:l.length=6):∃ a b c d e f,l=[a,b,c,d,e,f]:=by
 match l,h with
 | [a,b,c,d,e,f],_ => exact⟨a,b,c,d,e,f,rfl⟩
theorem aav{α:Type}{l:List α}(h:l.length=7):∃ a b c d e f g,l=[a,b,c,d,e,f,g]:=by
 match l,h with
 | [a,b,c,d,e,f,g],_ => exact⟨a,b,c,d,e,f,g,rfl⟩
theorem fA{α:Type}(f:Nat->α)(n i:Nat)(z:α)(h:i<n):((List.range n).map f).getD i z=f i:=by simp[List.getD,h]
theorem Yy{v:Value}{x:DataW H × List MemPlace}(h:DataW.trod enc Tryz.prog w 0 spare held fuel 22 [v]=some x)(hw:∀ n∈x.1.weights Tryz.prog 22,n<=reachBytes) :
  ∃ ao cap ts,v=.slice ao (List.length ts) cap/\aN w ao ts/\ts.length*48<=140737488351232:=by
 rcases open_slice Tryz.underlying22 h with⟨hcs,_⟩ | ⟨a,len,cap,m,n,D,Pl,hcs,_,hl,hm,hmm,hx,hel⟩
 .simp at hcs;subst hcs;exact⟨none,0,[],rfl,⟨by simp,λi hi=>absurd hi (by simp)⟩,by simp⟩
 .simp at hcs;subst hcs;have hlm:len<=m:=by rw[hmm]; split <;> omega
  have hb:len*48<=140737488351232:=by have h2:=hw ((((List.range len).map D).length+((List.range (m-len)).map λj=>D (len+j)).length)*Tryz.prog.bytesOf 53) (by rw[hx]; simp[DataW.weights,Tryz.underlying22]);rw[Tryz.akK]at h2;simp only[Q8,Q9,reachBytes]at h2;omega
  have each:∀ i,i<len->∃ t:ag,w.cell? ((a.add (i*6)).add 0)=some (.int .i64 t.cols)/\w.cell? ((a.add (i*6)).add 1)=some (.int .i64 t.rows)/\w.cell? ((a.add (i*6)).add 2)=some (.int .i64 t.k0)/\
    w.cell? ((a.add (i*6)).add 3)=some (.int .i64 t.k1)/\w.cell? ((a.add (i*6)).add 4)=some (.int .i64 t.k2)/\w.cell? ((a.add (i*6)).add 5)=some (.int .i64 t.k3):=by
   intro i hi;obtain⟨cs',h1,h2⟩:=hel i (by omega);rw[Tryz.akH]at h1;obtain⟨_,hlen,hcell⟩:=World.cells?_some h1;obtain⟨xs,k,hk,hxy,_,hxl,hf⟩:=DataW.trod_struct Tryz.underlying53 h2;obtain⟨y0,y1,y2,rfl⟩:=aut hxl;obtain⟨v0,v1,v2,v3,v4,v5,rfl⟩:=auv hlen
   .skip;have q0:=hf 0 _ rfl;have q1:=hf 1 _ rfl;have q2:=hf 2 _ rfl;simp[Tryz.JR,Tryz.akG]at q0 q1 q2;obtain⟨n0,e0,_,_⟩:=Jw Tryz.underlying3 q0;obtain⟨n1,e1,_,_⟩:=Jw Tryz.underlying3 q1;obtain⟨zs,k2,_,_,_,hzl,hz⟩:=DataW.trod_array Tryz.underlying51 q2;obtain⟨z0,z1,z2,z3,rfl⟩:=auu hzl
    .skip;have r0:=hz 0 (by omega);have r1:=hz 1 (by omega);have r2:=hz 2 (by omega);have r3:=hz 3 (by omega);simp[Tryz.JR]at r0 r1 r2 r3;obtain⟨n2,e2,_,_⟩:=Jw Tryz.underlying3 r0;obtain⟨n3,e3,_,_⟩:=Jw Tryz.underlying3 r1;obtain⟨n4,e4,_,_⟩:=Jw Tryz.underlying3 r2;obtain⟨n5,e5,_,_⟩:=Jw Tryz.underlying3 r3;simp at e0 e1 e2 e3 e4 e5;subst e0 e1 e2 e3 e4 e5;exact⟨⟨n0,n1,n2,n3,n4,n5⟩,hcell 0 (by omega),hcell 1 (by omega),hcell 2 (by omega),hcell 3 (by omega),hcell 4 (by omega),hcell 5 (by omega)⟩
  haveI:Inhabited ag:=⟨tz⟩
  obtain⟨T,hT⟩:=choose_lt (α:=ag) each;have hlen:((List.range len).map T).length=len:=by simp
  refine⟨some a,cap,(List.range len).map T,by rw[hlen],⟨by omega,λi hi=>?_⟩,by omega⟩;have hi':i<len:=by omega
  have h0:=(hT 0 (by omega)).1;have ha:∃ b off,a=(aD b off):=by
   rw[XI]at h0;have e:(a.add 0).add 0=a.add 0:=by simp[Addr.add]
   rw[e]at h0;exact pO h0
  obtain⟨b,off,rfl⟩:=ha;have ht:=hT i hi';simp only[pQ,Zp]at ht;rw[fA T len i tz hi'];exact⟨b,off,rfl,ht⟩
theorem adP{v:Value}{x:DataW H × List MemPlace}(h:DataW.trod enc Tryz.prog w 0 spare held fuel 86 [v]=some x)(hw:∀ n∈x.1.weights Tryz.prog 86,n<=reachBytes) :
  ∃ c:az,v=c.val/\bS w c.ad c.cs/\c.cs.length*40<=140737488351232:=by
 rcases open_slice Tryz.underlying86 h with⟨hcs,_⟩ | ⟨a,len,cap,m,n,D,Pl,hcs,_,hl,hm,hmm,hx,hel⟩
 .simp at hcs;subst hcs;exact⟨⟨none,0,[]⟩,rfl,⟨by simp,λi hi=>absurd hi (by simp)⟩,by simp⟩
 .simp at hcs;subst hcs;have hlm:len<=m:=by rw[hmm]; split <;> omega
  have hb:len*40<=140737488351232:=by have h2:=hw ((((List.range len).map D).length+((List.range (m-len)).map λj=>D (len+j)).length)*Tryz.prog.bytesOf 90) (by rw[hx]; simp[DataW.weights,Tryz.underlying86]);rw[Tryz.akL]at h2;simp only[Q8,Q9,reachBytes]at h2;omega
  have each:∀ i,i<len->∃ t:aF,w.cell? ((a.add (i*5)).add 0)=some (.bool t.not)/\w.cell? ((a.add (i*5)).add 1)=some (.int .i64 t.op)/\w.cell? ((a.add (i*5)).add 2)=some (.int .i64 t.left)/\
    w.cell? ((a.add (i*5)).add 3)=some (.bool t.const)/\w.cell? ((a.add (i*5)).add 4)=some (.int .i64 t.right):=by
   intro i hi;obtain⟨cs',h1,h2⟩:=hel i (by omega);rw[Tryz.akI]at h1;obtain⟨_,hlen,hcell⟩:=World.cells?_some h1;obtain⟨xs,k,hk,hxy,_,hxl,hf⟩:=DataW.trod_struct Tryz.underlying90 h2;obtain⟨y0,y1,y2,y3,y4,rfl⟩:=al1 hxl;obtain⟨v0,v1,v2,v3,v4,rfl⟩:=al1 hlen
   .skip;have q0:=hf 0 _ rfl;have q1:=hf 1 _ rfl;have q2:=hf 2 _ rfl;have q3:=hf 3 _ rfl;have q4:=hf 4 _ rfl;simp[Tryz.JR,Tryz.ahK]at q0 q1 q2 q3 q4;obtain⟨n0,e0,_⟩:=DataW.trod_bool Tryz.underlying4 q0;obtain⟨n1,e1,_,_⟩:=Jw Tryz.underlying3 q1;obtain⟨n2,e2,_,_⟩:=Jw Tryz.underlying3 q2;obtain⟨n3,e3,_⟩:=DataW.trod_bool Tryz.underlying4 q3;obtain⟨n4,e4,_,_⟩:=Jw Tryz.underlying3 q4;simp at e0 e1 e2 e3 e4;subst e0 e1 e2 e3 e4;exact⟨⟨n0,n1,n2,n3,n4⟩,hcell 0 (by omega),hcell 1 (by omega),hcell 2 (by omega),hcell 3 (by omega),hcell 4 (by omega)⟩
  haveI:Inhabited aF:=⟨cz⟩
  obtain⟨T,hT⟩:=choose_lt (α:=aF) each;have hlen:((List.range len).map T).length=len:=by simp
  refine⟨⟨some a,cap,(List.range len).map T⟩,by show _=Value.slice _ ((List.range len).map T).length _; rw[hlen],⟨by show ((List.range len).map T).length<=_; omega,λi hi=>?_⟩,by show ((List.range len).map T).length*40<=_; omega⟩;have hi':i<len:=by have:i<((List.range len).map T).length:=hi;omega
  have h0:=(hT 0 (by omega)).1;have ha:∃ b off,a=(aD b off):=by
   rw[XI]at h0;have e:(a.add 0).add 0=a.add 0:=by simp[Addr.add]
   rw[e]at h0;exact pO h0
  obtain⟨b,off,rfl⟩:=ha;have ht:=hT i hi';simp only[pQ,Zp]at ht;show ∃ b' Gi,_/\_;rw[fA T len i cz hi'];exact⟨b,off,rfl,ht⟩
variable {H:Type} {enc:TypeId × Value->H} {w:World} {spare:Nat->Bool} {held:Bool} {fuel:Nat}
theorem lK{P:Program}{e:TypeId}{d:DataW H}{n:Nat}(hn:n∈d.weights P e):∀ {ds:List (DataW H)},d∈ds->n∈DataW.weightsAll P e ds
 | [],h => absurd h (by simp)
 | x::r,h => by
  rw[DataW.weightsAll];rcases QP.1 h with rfl | h'
  .exact Ji _ hn
  .exact List.mem_append_right _ (lK hn h')
theorem Us{v:Value}{x:DataW H × List MemPlace}(h:DataW.trod enc Tryz.prog w 0 spare held fuel 24 [v]=some x)(hw:∀ n∈x.1.weights Tryz.prog 24,n<=reachBytes) :
  ∃ ao cap ls,v=.slice ao (List.length ls) cap/\bR w ao ls/\ls.length*24<=140737488351232/\∀ i,i<ls.length->(ls.getD i lz).cs.length*40<=140737488351232:=by
 rcases open_slice1 Tryz.underlying24 Tryz.akF h with⟨hcs,_⟩ | ⟨a,len,cap,m,n,V,D,Pl,hcs,_,hl,hm,hmm,hx,hel⟩
 .simp at hcs;subst hcs;exact⟨none,0,[],rfl,⟨by simp,λi hi=>absurd hi (by simp),λi hi=>absurd hi (by simp)⟩,by simp,λi hi=>absurd hi (by simp)⟩
 .simp at hcs;subst hcs;have hlm:len<=m:=by rw[hmm]; split <;> omega
  have hb:len*24<=140737488351232:=by have h2:=hw ((((List.range len).map D).length+((List.range (m-len)).map λj=>D (len+j)).length)*Tryz.prog.bytesOf 88) (by rw[hx]; simp[DataW.weights,Tryz.underlying24]);rw[Tryz.akM]at h2;simp only[Q8,Q9,reachBytes]at h2;omega
  have each:∀ i,i<len->∃ c:az,w.cell? (a.add i)=some c.val/\bS w c.ad c.cs/\c.cs.length*40<=140737488351232:=by
   intro i hi;obtain⟨h1,h2⟩:=hel i (by omega);obtain⟨xs,k,hk,hxy,_,hxl,hf⟩:=DataW.trod_struct Tryz.underlying88 h2;have hx1:xs.length=1:=hxl;obtain⟨y0,rfl⟩:=List.length_eq_one_iff.1 hx1;have q0:=hf 0 _ rfl;simp[Tryz.akD]at q0;obtain⟨c,hc,hcd,hcl⟩:=adP q0 (λnn hnn=>by
    refine hw nn ?_;rw[hx];have hD:D i=.agg [y0.1]:=by have:=congrArg Prod.fst hxy;simpa using this
    have hmem:nn∈(D i).weights Tryz.prog 88:=by rw[hD];simp[DataW.weights,Tryz.underlying88,DataW.weightsEach,hnn]
    have hall:=lK hmem (ds:=(List.range len).map D) (Zi.2 ⟨i,Zk.2 hi,rfl⟩);simp only[DataW.weights,Tryz.underlying24];exact List.mem_cons_of_mem _ (Ji _ hall))
   exact⟨c,by rw[<- hc]; exact h1,hcd,hcl⟩
  haveI:Inhabited az:=⟨lz⟩
  obtain⟨T,hT⟩:=choose_lt (α:=az) each;have hlen:((List.range len).map T).length=len:=by simp
  refine⟨some a,cap,(List.range len).map T,by rw[hlen],⟨by omega,λi hi=>?_,λi hi=>?_⟩,by omega,λi hi=>?_⟩
  .have hi':i<len:=by omega
   obtain⟨b,off,rfl⟩:=pO (hT 0 (by omega)).1;have ht:=(hT i hi').1;rw[pQ]at ht;refine⟨b,off,rfl,?_⟩;show _=some (((List.range len).map T).getD i lz).val;rw[fA T len i lz hi'];exact ht
  .have hi':i<len:=by omega
   rw[fA T len i lz hi'];exact(hT i hi').2.1
  .have hi':i<len:=by omega
   rw[fA T len i lz hi'];exact(hT i hi').2.2
theorem adQ{r:Reach}{b0:Nat}{v:Value}{d:DataW H}{p:List MemPlace}(hv:Value.okWide Tryz.prog w r b0 26 v)(h:DataW.Trod enc Tryz.prog w 0 spare held 26 v d p)(hw:∀ n∈d.weights Tryz.prog 26,n<=reachBytes) :
  ∃ q:af,v=.agg q.cells/\q.At w/\q.src.xs.length*8<=140737488351232/\q.keys.xs.length*8<=140737488351232/\q.sums.xs.length*8<=140737488351232/\q.aH.xs.length*8<=140737488351232/\q.ord.xs.length*8<=140737488351232/\
   q.wh.length*24<=140737488351232/\∀ i,i<q.wh.length->(q.wh.getD i lz).cs.length*40<=140737488351232:=by
 obtain⟨cs,rfl,hsz⟩:=okWide_struct Tryz.underlying26 hv;rw[Tryz.akJ]at hsz;obtain⟨fuel,hf⟩:=h;obtain⟨cl,rfl⟩:∃ l:List Value,cs=l.toArray:=⟨cs.toList,by simp⟩;obtain⟨v0,v1,v2,v3,v4,v5,v6,rfl⟩:=aav (by simpa using hsz);obtain⟨xs,k,hk,hxy,_,hxl,hff⟩:=DataW.trod_struct Tryz.underlying26 hf;obtain⟨y0,y1,y2,y3,y4,y5,y6,rfl⟩:=aav hxl;have q0:=hff 0 _ rfl;have q1:=hff 1 _ rfl;have q2:=hff 2 _ rfl;have q3:=hff 3 _ rfl;have q4:=hff 4 _ rfl;have q5:=hff 5 _ rfl;have q6:=hff 6 _ rfl;simp[Value.cells,Tryz.O1,Tryz.akE,Tryz.ahK]at q0 q1 q2 q3 q4 q5 q6;have hd:d=.agg [y0.1,y1.1,y2.1,y3.1,y4.1,y5.1,y6.1]:=by have:=congrArg Prod.fst hxy;simpa using this
 have hwe:∀ n,n∈DataW.weightsEach Tryz.prog [23,24,4,23,23,23,23] [y0.1,y1.1,y2.1,y3.1,y4.1,y5.1,y6.1]->n<=reachBytes:=λn hn=>hw n (by
  rw[hd];simp only[DataW.weights,Tryz.underlying26];exact hn)
 have wm:=λ(j:Nat) (t:TypeId) (dd:DataW H) (h1:[23,24,4,23,23,23,23][j]? = some t) (h2:[y0.1,y1.1,y2.1,y3.1,y4.1,y5.1,y6.1][j]? = some dd)=>λn hn=>hwe n (Jy h1 h2 n hn);obtain⟨i0,rfl,a0,b0'⟩:=qD q0 (wm 0 _ _ rfl rfl);obtain⟨dx,aP,ls,rfl,a1,b1,b1'⟩:=Us q1 (wm 1 _ _ rfl rfl);obtain⟨gb,e2,_⟩:=DataW.trod_bool Tryz.underlying4 q2;obtain⟨i3,rfl,a3,b3⟩:=qD q3 (wm 3 _ _ rfl rfl);obtain⟨i4,rfl,a4,b4⟩:=qD q4 (wm 4 _ _ rfl rfl);obtain⟨i5,rfl,a5,b5⟩:=qD q5 (wm 5 _ _ rfl rfl);obtain⟨i6,rfl,a6,b6⟩:=qD q6 (wm 6 _ _ rfl rfl);simp at e2;subst e2;exact⟨⟨i0,dx,aP,ls,gb,i3,i4,i5,i6⟩,rfl,⟨a0,a1,a3,a4,a5,a6⟩,b0',b3,b4,b5,b6,b1,b1'⟩
theorem Tryz.akN:Tryz.prog.cellsOf 50=7:=by kernel_rfl
theorem Tryz.akO:Tryz.prog.bytesOf 50=88:=by kernel_rfl
variable {H:Type} {enc:TypeId × Value->H} {w:World} {spare:Nat->Bool} {held:Bool} {fuel:Nat}
theorem adR{v:Value}{x:DataW H × List MemPlace}(h:DataW.trod enc Tryz.prog w 0 spare held fuel 27 [v]=some x)(hw:∀ n∈x.1.weights Tryz.prog 27,n<=reachBytes) :
  ∃ ao cap ns,v=.slice ao (List.length ns) cap/\bT w ao ns/\ns.length*88<=140737488351232/\∀ i,i<ns.length->(ns.getD i nz).cl.xs.length*8<=140737488351232/\(ns.getD i nz).co.xs.length*8<=140737488351232:=by
 rcases open_slice Tryz.underlying27 h with⟨hcs,_⟩ | ⟨a,len,cap,m,n,D,Pl,hcs,_,hl,hm,hmm,hx,hel⟩
 .simp at hcs;subst hcs;exact⟨none,0,[],rfl,⟨by simp,λi hi=>absurd hi (by simp)⟩,by simp,λi hi=>absurd hi (by simp)⟩
 .simp at hcs;subst hcs;have hlm:len<=m:=by rw[hmm]; split <;> omega
  have hb:len*88<=140737488351232:=by have h2:=hw ((((List.range len).map D).length+((List.range (m-len)).map λj=>D (len+j)).length)*Tryz.prog.bytesOf 50) (by rw[hx]; simp[DataW.weights,Tryz.underlying27]);rw[Tryz.akO]at h2;simp only[Q8,Q9,reachBytes]at h2;omega
  have each:∀ i,i<len->∃ t:ai,(w.cell? ((a.add (i*7)).add 0)=some (.int .i64 t.kind)/\w.cell? ((a.add (i*7)).add 1)=some (.int .i64 t.l)/\w.cell? ((a.add (i*7)).add 2)=some (.int .i64 t.r)/\
    w.cell? ((a.add (i*7)).add 3)=some (.int .i64 t.source)/\w.cell? ((a.add (i*7)).add 4)=some t.cl.val/\w.cell? ((a.add (i*7)).add 5)=some (.int .i64 t.key)/\w.cell? ((a.add (i*7)).add 6)=some t.co.val/\t.cl.At w/\t.co.At w)/\
    t.cl.xs.length*8<=140737488351232/\t.co.xs.length*8<=140737488351232:=by
   intro i hi;obtain⟨cs',h1,h2⟩:=hel i (by omega);rw[Tryz.akN]at h1;obtain⟨_,hlen,hcell⟩:=World.cells?_some h1;obtain⟨xs,k,hk,hxy,_,hxl,hf⟩:=DataW.trod_struct Tryz.underlying50 h2;obtain⟨y0,y1,y2,y3,y4,y5,y6,rfl⟩:=aav hxl;obtain⟨v0,v1,v2,v3,v4,v5,v6,rfl⟩:=aav hlen;have q0:=hf 0 _ rfl;have q1:=hf 1 _ rfl;have q2:=hf 2 _ rfl;have q3:=hf 3 _ rfl;have q4:=hf 4 _ rfl;have q5:=hf 5 _ rfl;have q6:=hf 6 _ rfl;simp[Tryz.JR,Tryz.O1]at q0 q1 q2 q3 q4 q5 q6;have hD:D i=.agg [y0.1,y1.1,y2.1,y3.1,y4.1,y5.1,y6.1]:=by have:=congrArg Prod.fst hxy;simpa using this
   have hwe:∀ nn,nn∈DataW.weightsEach Tryz.prog [3,3,3,3,23,3,23] [y0.1,y1.1,y2.1,y3.1,y4.1,y5.1,y6.1]->nn<=reachBytes:=λnn hnn=>by
    refine hw nn ?_;rw[hx];have hmem:nn∈(D i).weights Tryz.prog 50:=by rw[hD];simp only[DataW.weights,Tryz.underlying50];exact hnn
    have hall:=lK hmem (ds:=(List.range len).map D) (Zi.2 ⟨i,Zk.2 hi,rfl⟩);simp only[DataW.weights,Tryz.underlying27];exact List.mem_cons_of_mem _ (Ji _ hall)
   have wm:=λ(j:Nat) (t:TypeId) (dd:DataW H) (e1:[3,3,3,3,23,3,23][j]? = some t) (e2:[y0.1,y1.1,y2.1,y3.1,y4.1,y5.1,y6.1][j]? = some dd)=>λnn hnn=>hwe nn (Jy e1 e2 nn hnn);obtain⟨n0,e0,_,_⟩:=Jw Tryz.underlying3 q0;obtain⟨n1,e1,_,_⟩:=Jw Tryz.underlying3 q1;obtain⟨n2,e2,_,_⟩:=Jw Tryz.underlying3 q2;obtain⟨n3,e3,_,_⟩:=Jw Tryz.underlying3 q3;obtain⟨i4,rfl,a4,b4⟩:=qD q4 (wm 4 _ _ rfl rfl);obtain⟨n5,e5,_,_⟩:=Jw Tryz.underlying3 q5;obtain⟨i6,rfl,a6,b6⟩:=qD q6 (wm 6 _ _ rfl rfl);simp at e0 e1 e2 e3 e5;subst e0 e1 e2 e3 e5;exact⟨⟨n0,n1,n2,n3,i4,n5,i6⟩,⟨hcell 0 (by omega),hcell 1 (by omega),hcell 2 (by omega),hcell 3 (by omega),hcell 4 (by omega),hcell 5 (by omega),hcell 6 (by omega),a4,a6⟩,b4,b6⟩
  haveI:Inhabited ai:=⟨nz⟩
  obtain⟨T,hT⟩:=choose_lt (α:=ai) each;have hlen:((List.range len).map T).length=len:=by simp
  refine⟨some a,cap,(List.range len).map T,by rw[hlen],⟨by omega,λi hi=>?_⟩,by omega,λi hi=>?_⟩
  .have hi':i<len:=by omega
   have h0:=(hT 0 (by omega)).1.1;have ha:∃ b off,a=(aD b off):=by
    rw[XI]at h0;have e:(a.add 0).add 0=a.add 0:=by simp[Addr.add]
    rw[e]at h0;exact pO h0
   obtain⟨b,off,rfl⟩:=ha;have ht:=(hT i hi').1;simp only[pQ,Zp]at ht;rw[fA T len i nz hi'];exact⟨b,off,rfl,ht⟩
  .have hi':i<len:=by omega
   rw[fA T len i nz hi'];exact(hT i hi').2
theorem Tryz.akP : Tryz.prog.globalNamed (Rows.execsRow.named.headD "") = some 0 := by kernel_rfl
theorem Tryz.akQ:(Tryz.prog.globals[0]?).map (·.type)=some 157:=by kernel_rfl
theorem Tryz.akR:Tryz.prog.cellsOf 157=55:=by kernel_rfl
theorem Tryz.ahL:Tryz.prog.cellsOf 156=5:=by kernel_rfl
theorem Tryz.akS:Tryz.prog.cellsOf 3=1:=by kernel_rfl
theorem Tryz.akT:Tryz.prog.cellsOf 4=1:=by kernel_rfl
theorem ahM{α:Type}{l:List α}(h:l.length=5):∃ a b c d e,l=[a,b,c,d,e]:=by
 match l,h with
 | [a,b,c,d,e],_ => exact⟨a,b,c,d,e,rfl⟩
theorem Ut{H:Type}{enc:TypeId × Value->H}{w:World}{base:Nat}{spare:Nat->Bool}{held:Bool}{fuel:Nat}{cs:List Value}{x:DataW H × List MemPlace}(h:DataW.trod enc Tryz.prog w base spare held fuel 156 cs=some x) :
  ∃ n b1 b2 b3 b4,cs=[.int .i64 n,.bool b1,.bool b2,.bool b3,.bool b4]/\x.1=.agg [.lit (.int .i64 n),.lit (.bool b1),.lit (.bool b2),.lit (.bool b3),.lit (.bool b4)]:=by
 obtain⟨xs,n,_,rfl,hl,hlen,hf⟩:=DataW.trod_struct Tryz.underlying156 h;rw[Tryz.ahL]at hl;obtain⟨c0,c1,c2,c3,c4,rfl⟩:=ahM hl;obtain⟨y0,y1,y2,y3,y4,rfl⟩:=ahM (show xs.length=5 from hlen);have q0:=hf 0 _ rfl;have q1:=hf 1 _ rfl;have q2:=hf 2 _ rfl;have q3:=hf 3 _ rfl;have q4:=hf 4 _ rfl;simp[Tryz.akS,Tryz.akT]at q0 q1 q2 q3 q4;obtain⟨n0,e0,f0,_⟩:=Jw Tryz.underlying3 q0;obtain⟨b1,e1,f1⟩:=DataW.trod_bool Tryz.underlying4 q1;obtain⟨b2,e2,f2⟩:=DataW.trod_bool Tryz.underlying4 q2;obtain⟨b3,e3,f3⟩:=DataW.trod_bool Tryz.underlying4 q3;obtain⟨b4,e4,f4⟩:=DataW.trod_bool Tryz.underlying4 q4;refine⟨n0,b1,b2,b3,b4,?_,?_⟩
 .simp at e0 e1 e2 e3 e4;rw[e0,e1,e2,e3,e4]
 .subst f0 f1 f2 f3 f4;rfl
theorem akU{α:Type}{l:List α}(h:l.length=11):∃ a0 a1 a2 a3 a4 a5 a6 a7 a8 a9 Gp,l=[a0,a1,a2,a3,a4,a5,a6,a7,a8,a9,Gp]:=by
 match l,h with
 | [a0,a1,a2,a3,a4,a5,a6,a7,a8,a9,Gp],_ => exact⟨a0,a1,a2,a3,a4,a5,a6,a7,a8,a9,Gp,rfl⟩
theorem jw{l:List Value}{i:Nat}{H:Type}{enc:TypeId × Value->H}{w:World}{base:Nat}{spare:Nat->Bool}{held:Bool}{fuel:Nat}{x:DataW H × List MemPlace}{a:Int}{b1 b2 b3 b4:Bool}(h:DataW.trod enc Tryz.prog w base spare held fuel 156 ((l.drop (i*5)).take 5)=some x)
  (hx:x.1=.agg [.lit (.int .i64 a),.lit (.bool b1),.lit (.bool b2),.lit (.bool b3),.lit (.bool b4)]):(l.drop (i*5)).take 5=[.int .i64 a,.bool b1,.bool b2,.bool b3,.bool b4]:=by obtain⟨n,c1,c2,c3,c4,e,f⟩:=Ut h;rw[hx]at f;simp at f;obtain⟨rfl,rfl,rfl,rfl,rfl⟩:=f;exact e
theorem JS{W:World}(h:laidMetH Tryz.prog Rows.execsRow.laid W):dS W 0:=by
 have h':laidMet Tryz.prog Rows.execsRow.laid W:=h;obtain⟨ps,⟨g,t,cs,fuel,p,q,hg,ht,hvar,hd,_,_⟩,_⟩:=h';obtain rfl:=Option.some.inj (Tryz.akP.symm.trans hg);obtain rfl:=Option.some.inj (Tryz.akQ.symm.trans ht);obtain⟨xs,m,_,hx,hl,hlen,hf⟩:=DataW.trod_array Tryz.underlying157 hd;rw[Tryz.akR]at hl;rw[Tryz.ahL]at hf;obtain⟨a0,a1,a2,a3,a4,a5,a6,a7,a8,a9,Gp,rfl⟩:=akU hlen;have hx1:=congrArg Prod.fst hx;simp only[Rows.laid_scout_plan_shapes,Zd,List.map_nil,DataW.agg.injEq,List.cons.injEq,and_true]at hx1;obtain⟨x0,x1,x2,x3,x4,x5,x6,x7,x8,x9,x10⟩:=hx1;have each:∀ i,i<11->(cs.toList.drop (i*5)).take 5=(je ((i:Nat):Int)).toList:=by
  intro i hi
  match i,hi with
  | 0,_ => exact(jw (i:=0) (hf 0 (by omega)) x0.symm).trans (by rfl)
  | 1,_ => exact(jw (i:=1) (hf 1 (by omega)) x1.symm).trans (by rfl)
  | 2,_ => exact(jw (i:=2) (hf 2 (by omega)) x2.symm).trans (by rfl)
  | 3,_ => exact(jw (i:=3) (hf 3 (by omega)) x3.symm).trans (by rfl)
  | 4,_ => exact(jw (i:=4) (hf 4 (by omega)) x4.symm).trans (by rfl)
  | 5,_ => exact(jw (i:=5) (hf 5 (by omega)) x5.symm).trans (by rfl)
  | 6,_ => exact(jw (i:=6) (hf 6 (by omega)) x6.symm).trans (by rfl)
  | 7,_ => exact(jw (i:=7) (hf 7 (by omega)) x7.symm).trans (by rfl)
  | 8,_ => exact(jw (i:=8) (hf 8 (by omega)) x8.symm).trans (by rfl)
  | 9,_ => exact(jw (i:=9) (hf 9 (by omega)) x9.symm).trans (by rfl)
  | 10,_ => exact(jw (i:=10) (hf 10 (by omega)) x10.symm).trans (by rfl)
 intro j u hj;rw[World.var?_cell hg hvar j,<- Array.getElem?_toList];have aJe:j<55:=by
  have h1:pG.length=55:=by rfl
  have h2:=(List.getElem?_eq_some_iff.1 hj).1;omega
 have e1:j=j / 5*5+j % 5:=by omega
 have hlt:j / 5<11:=by omega
 have hm:j % 5<5:=Nat.mod_lt _ (by omega);have h3:=each (j / 5) hlt;have h4:cs.toList[j]? = (je ((j / 5:Nat):Int)).toList[j % 5]?:=by rw[<- h3,List.getElem?_take,Qu hm,List.getElem?_drop,<- e1]
 have h5:pG[j]? = (je ((j / 5:Nat):Int)).toList[j % 5]?:=by
  have:=lg (λ(k:Nat)=>(je (k:Int)).toList) 5 (λ_=>rfl) 0 (List.range 11) (j / 5) (j % 5) (by simp; exact hlt) hm;unfold pG;rw[e1];have e2:(j / 5*5+j % 5) / 5=j / 5:=by omega
  have e3:(j / 5*5+j % 5) % 5=j % 5:=by omega
  rw[e2,e3,this];simp[List.getD,hlt]
 rw[h4,<- h5];exact hj
theorem Tryz.akV:Tryz.prog.cellsOf 30=1:=by kernel_rfl
theorem Tryz.akW:Tryz.prog.bytesOf 23=24:=by kernel_rfl
theorem Tryz.akX:Tryz.prog.bytesOf 30=24:=by kernel_rfl
variable {H:Type} {enc:TypeId × Value->H} {w:World} {spare:Nat->Bool} {held:Bool} {fuel:Nat}
theorem ahN{v:Value}{x:DataW H × List MemPlace}(h:DataW.trod enc Tryz.prog w 0 spare held fuel 30 [v]=some x)(hw:∀ n∈x.1.weights Tryz.prog 30,n<=reachBytes) :
  ∃ r:aJ,v=r.val/\r.At w/\r.rs.length*24<=140737488351232/\∀ i,i<r.rs.length->(r.rs.getD i iz).xs.length*8<=140737488351232:=by
 rcases open_slice1 Tryz.underlying30 Tryz.O1 h with⟨hcs,_⟩ | ⟨a,len,cap,m,n,V,D,Pl,hcs,_,hl,hm,hmm,hx,hel⟩
 .simp at hcs;subst hcs;exact⟨⟨none,0,[]⟩,rfl,⟨by simp,λi hi=>absurd hi (by simp),λi hi=>absurd hi (by simp)⟩,by simp,λi hi=>absurd hi (by simp)⟩
 .simp at hcs;subst hcs;have hlm:len<=m:=by rw[hmm]; split <;> omega
  have hb:len*24<=140737488351232:=by have h2:=hw ((((List.range len).map D).length+((List.range (m-len)).map λj=>D (len+j)).length)*Tryz.prog.bytesOf 23) (by rw[hx]; simp[DataW.weights,Tryz.underlying30]);rw[Tryz.akW]at h2;simp only[Q8,Q9,reachBytes]at h2;omega
  have each:∀ i,i<len->∃ c:ae,w.cell? (a.add i)=some c.val/\c.At w/\c.xs.length*8<=140737488351232:=by
   intro i hi;obtain⟨h1,h2⟩:=hel i (by omega);obtain⟨c,hc,hcd,hcl⟩:=qD h2 (λnn hnn=>by
    refine hw nn ?_;rw[hx];have hmem:nn∈(D i).weights Tryz.prog 23:=hnn;have hall:=lK hmem (ds:=(List.range len).map D) (Zi.2 ⟨i,Zk.2 hi,rfl⟩);simp only[DataW.weights,Tryz.underlying30];exact List.mem_cons_of_mem _ (Ji _ hall))
   exact⟨c,by rw[<- hc]; exact h1,hcd,hcl⟩
  haveI:Inhabited ae:=⟨iz⟩
  obtain⟨T,hT⟩:=choose_lt (α:=ae) each;have hlen:((List.range len).map T).length=len:=by simp
  refine⟨⟨some a,cap,(List.range len).map T⟩,by show _=Value.slice _ ((List.range len).map T).length _; rw[hlen],⟨by show ((List.range len).map T).length<=_; omega,λi hi=>?_,λi hi=>?_⟩,by show ((List.range len).map T).length*24<=_; omega,λi hi=>?_⟩
  .have hi':i<len:=by have:i<((List.range len).map T).length:=hi;omega
   obtain⟨b,off,rfl⟩:=pO (hT 0 (by omega)).1;have ht:=(hT i hi').1;rw[pQ]at ht;refine⟨b,off,rfl,?_⟩;show _=some (((List.range len).map T).getD i iz).val;rw[fA T len i iz hi'];exact ht
  .have hi':i<len:=by have:i<((List.range len).map T).length:=hi;omega
   show (((List.range len).map T).getD i iz).At w;rw[fA T len i iz hi'];exact(hT i hi').2.1
  .have hi':i<len:=by have:i<((List.range len).map T).length:=hi;omega
   show (((List.range len).map T).getD i iz).xs.length*8<=_;rw[fA T len i iz hi'];exact(hT i hi').2.2
theorem aoI{v:Value}{x:DataW H × List MemPlace}(h:DataW.trod enc Tryz.prog w 0 spare held fuel 28 [v]=some x)(hw:∀ n∈x.1.weights Tryz.prog 28,n<=reachBytes) :
  ∃ ao cap db,v=.slice ao (List.length db) cap/\qJ w ao db/\db.length*24<=140737488351232/\(∀ i,i<db.length->(db.getD i rz).rs.length*24<=140737488351232)/\
   ∀ i,i<db.length->∀ j,j<(db.getD i rz).rs.length->((db.getD i rz).rs.getD j iz).xs.length*8<=140737488351232:=by
 rcases open_slice1 Tryz.underlying28 Tryz.akV h with⟨hcs,_⟩ | ⟨a,len,cap,m,n,V,D,Pl,hcs,_,hl,hm,hmm,hx,hel⟩
 .simp at hcs;subst hcs;exact⟨none,0,[],rfl,⟨by simp,λi hi=>absurd hi (by simp),λi hi=>absurd hi (by simp)⟩,by simp,λi hi=>absurd hi (by simp),λi hi=>absurd hi (by simp)⟩
 .simp at hcs;subst hcs;have hlm:len<=m:=by rw[hmm]; split <;> omega
  have hb:len*24<=140737488351232:=by have h2:=hw ((((List.range len).map D).length+((List.range (m-len)).map λj=>D (len+j)).length)*Tryz.prog.bytesOf 30) (by rw[hx]; simp[DataW.weights,Tryz.underlying28]);rw[Tryz.akX]at h2;simp only[Q8,Q9,reachBytes]at h2;omega
  have each:∀ i,i<len->∃ c:aJ,w.cell? (a.add i)=some c.val/\c.At w/\c.rs.length*24<=140737488351232/\∀ j,j<c.rs.length->(c.rs.getD j iz).xs.length*8<=140737488351232:=by
   intro i hi;obtain⟨h1,h2⟩:=hel i (by omega);obtain⟨c,hc,hcd,hcl,hce⟩:=ahN h2 (λnn hnn=>by
    refine hw nn ?_;rw[hx];have hmem:nn∈(D i).weights Tryz.prog 30:=hnn;have hall:=lK hmem (ds:=(List.range len).map D) (Zi.2 ⟨i,Zk.2 hi,rfl⟩);simp only[DataW.weights,Tryz.underlying28];exact List.mem_cons_of_mem _ (Ji _ hall))
   exact⟨c,by rw[<- hc]; exact h1,hcd,hcl,hce⟩
  haveI:Inhabited aJ:=⟨rz⟩
  obtain⟨T,hT⟩:=choose_lt (α:=aJ) each;have hlen:((List.range len).map T).length=len:=by simp
  refine⟨some a,cap,(List.range len).map T,by rw[hlen],⟨by omega,λi hi=>?_,λi hi=>?_⟩,by omega,λi hi=>?_,λi hi=>?_⟩
  .have hi':i<len:=by omega
   obtain⟨b,off,rfl⟩:=pO (hT 0 (by omega)).1;have ht:=(hT i hi').1;rw[pQ]at ht;refine⟨b,off,rfl,?_⟩;show _=some (((List.range len).map T).getD i rz).val;rw[fA T len i rz hi'];exact ht
  .have hi':i<len:=by omega
   rw[fA T len i rz hi'];exact(hT i hi').2.1
  .have hi':i<len:=by omega
   rw[fA T len i rz hi'];exact(hT i hi').2.2.1
  .have hi':i<len:=by omega
   rw[fA T len i rz hi'];exact(hT i hi').2.2.2
open Go
theorem akY:Rows.execsRow.wfByText (OpenSpec.ofChange Rows.execsSpec)=true:=by kernel_rfl
theorem adS : Tryz.pinned.checked.prog.mainIs = some ((true, "eedbea6019e75bea6b87955c49c7d316b813b02485ee51d8814a10e2530d65cf").1, (true, "eedbea6019e75bea6b87955c49c7d316b813b02485ee51d8814a10e2530d65cf").2.toList) := by kernel_rfl
theorem YC:false=Tryz.pinned.checked.prog.looks []:=by kernel_rfl
theorem adT:false=Rows.execsRow.goesBy Tryz.pinned.checked.prog:=by kernel_rfl
theorem YD:Tryz.pinned.checked.prog.funcNamed Rows.execsRow.func=some 3:=by kernel_rfl
theorem akZ:Tryz.pinned.checked.prog.wantsStandIn 22=false:=by kernel_rfl
theorem ak0:Tryz.pinned.checked.prog.wantsStandIn 26=false:=by kernel_rfl
theorem ak1:Tryz.pinned.checked.prog.wantsStandIn 27=false:=by kernel_rfl
theorem ak2:Tryz.pinned.checked.prog.wantsStandIn 28=false:=by kernel_rfl
