import Derived.Test.YtfnnchibngigdaaGreatDoorRows
import Derived.JoinedOf
import Derived.ProofKit
import Derived.OpenShut
import Derived.Deep.Slices
import Derived.LaidLaws
import Derived.LaidHandle
import Derived.SevenTiedAt
import Derived.Test.YtfnnchibngigdaaGreatDoorS07
set_option linter.all false
set_option maxRecDepth 100000
set_option maxHeartbeats 0
namespace Go.Proofs.YtfnnchibngigdaaGreatDoor
open Go.Proofs.Zz
theorem zU:Tryz.pinned.checked.prog.funcNamed Rows.fairsRow.func=some 3:=by kernel_rfl
theorem Jr:((Rows.fairsRow).wf (OpenSpec.ofChange (Rows.fairsSpec)))=true:=by kernel_rfl
theorem Js:(laidOutB (Tryz.prog))=true:=by kernel_rfl
theorem Jt:(mapsRowed (Tryz.prog))=true:=by kernel_rfl
theorem Ju:((Tryz.f3).params.all ((Tryz.prog).readableRec ·))=true:=by kernel_rfl
theorem Jv:(namedTie (Tryz.prog) (Rows.fairsRow).named (Rows.fairsSpec).vars)=true:=by kernel_rfl
theorem Jw:(((Rows.fairsRow).stops==[]))=true:=by kernel_rfl
theorem Jy:(((Tryz.prog).stops==[]))=true:=by kernel_rfl
theorem Jz:(((Rows.fairsRow).knobs==[]))=true:=by kernel_rfl
theorem JA:(((Tryz.prog).stopKnobs==[]))=true:=by kernel_rfl
theorem JB:(((Rows.fairsRow).inPlace==(Tryz.prog).inPlace 3))=true:=by kernel_rfl
theorem Fu:(((Rows.fairsRow).unfollowed==(Tryz.prog).unfollowed 3))=true:=by kernel_rfl
theorem Fv:(((Rows.fairsRow).recurses==(Tryz.prog).recurses 3))=true:=by kernel_rfl
theorem Fw:(((Rows.fairsRow).named==(Tryz.prog).varsNamed 3))=true:=by kernel_rfl
theorem Fx:(((Rows.fairsRow).maps==((Tryz.f3).params.toList++(Rows.fairsSpec).plain.varTypes (Tryz.prog)).any ((Tryz.prog).mapsRec ·)))=true:=by kernel_rfl
theorem Fy:(((Rows.fairsRow).ifaces==((Tryz.f3).params.toList++(Rows.fairsSpec).plain.varTypes (Tryz.prog)).any ((Tryz.prog).ifacesRec ·)))=true:=by kernel_rfl
theorem Fz:(((Rows.fairsRow).mapsOut==(Tryz.prog).mapsAmong (Tryz.f3).resultTypes.toList))=true:=by kernel_rfl
theorem FD:(((Rows.fairsRow).loops==((Tryz.f3).params.toList++(Rows.fairsSpec).plain.varTypes (Tryz.prog)).any ((Tryz.prog).loopsFrom ·)))=true:=by kernel_rfl
theorem FE:(((Rows.fairsRow).wideKeys==((Tryz.f3).params.toList++(Rows.fairsSpec).plain.varTypes (Tryz.prog)++(Tryz.f3).resultTypes.toList).any ((Tryz.prog).wideKeysFrom ·)))=true:=by kernel_rfl
theorem FH:((Rows.fairsSpec).vars.all ((Tryz.prog).varReadable ·))=true:=by kernel_rfl
theorem FI:((Tryz.f3).resultTypes.all (λt=>(Tryz.prog).readableRec t&&decide (t<(Tryz.prog).types.size)))=true:=by kernel_rfl
theorem FJ:(((Rows.fairsRow).ifacesOut==(Tryz.f3).resultTypes.toList.any ((Tryz.prog).ifacesRec ·)))=true:=by kernel_rfl
theorem FK:(((Rows.fairsRow).loopsOut==(Tryz.f3).resultTypes.toList.any ((Tryz.prog).loopsFrom ·)))=true:=by kernel_rfl
theorem FL:(((Rows.fairsRow).plainKeys==(Tryz.prog).plainKeys))=true:=by kernel_rfl
theorem FM:((Rows.fairsRow).shortTexts.isNone)=true:=by kernel_rfl
theorem FN:((Tryz.prog).stopsHeard)=true:=by kernel_rfl
theorem FO:((Tryz.prog).mayEnter)=true:=by kernel_rfl
theorem FP:(((Rows.fairsRow).lifted==(Tryz.prog).liftsFinal))=true:=by kernel_rfl
theorem FQ:(((Tryz.prog).make==some (Rows.fairsRow).make))=true:=by kernel_rfl
theorem FR:(((Rows.fairsRow).pinned==(Rows.fairsRow).pinnedBy))=true:=by kernel_rfl
theorem FT:(((Rows.fairsRow).veiled==((Tryz.f3).params.toList++(Rows.fairsSpec).plain.varTypes (Tryz.prog)++(Tryz.f3).resultTypes.toList).any ((Tryz.prog).veiledRec ·)))=true:=by kernel_rfl
theorem FU:((Rows.fairsRow).veiledFits (Tryz.prog) (Tryz.f3).params.toList ((Tryz.f3).params.toList++(Rows.fairsSpec).plain.varTypes (Tryz.prog)++(Tryz.f3).resultTypes.toList))=true:=by kernel_rfl
open Go.RowKit Go.Deep Go.ChangeShapes Go.WideShapes Go.ChangeAt
theorem Tryz.cells3:Tryz.prog.cellsOf 3=1:=by kernel_rfl
theorem Tryz.Li:Tryz.prog.cellsOf 4=1:=by kernel_rfl
theorem Tryz.ES:Tryz.prog.cellsOf 23=1:=by kernel_rfl
theorem Tryz.Nu:Tryz.prog.cellsOf 78=1:=by kernel_rfl
theorem Tryz.Nv:Tryz.prog.cellsOf 24=1:=by kernel_rfl
theorem Tryz.Nw:Tryz.prog.cellsOf 80=1:=by kernel_rfl
theorem Tryz.Ny:Tryz.prog.cellsOf 46=4:=by kernel_rfl
theorem Tryz.Nz:Tryz.prog.cellsOf 48=6:=by kernel_rfl
theorem Tryz.NA:Tryz.prog.cellsOf 82=5:=by kernel_rfl
theorem Tryz.NB:Tryz.prog.cellsOf 26=7:=by kernel_rfl
theorem Tryz.Sd:Tryz.prog.bytesOf 3=8:=by kernel_rfl
theorem Tryz.ND:Tryz.prog.bytesOf 48=48:=by kernel_rfl
theorem Tryz.NF:Tryz.prog.bytesOf 82=40:=by kernel_rfl
theorem Tryz.NG:Tryz.prog.bytesOf 80=24:=by kernel_rfl
variable {H:Type} {enc:TypeId × Value->H} {w:World} {spare:Nat->Bool} {held:Bool} {fuel:Nat}
theorem ll{a:Addr}{v:Value}(h:w.cell? (a.add 0)=some v):∃ b off,a=(aD b off):=by
 obtain⟨b,off,spot⟩:=a;have hs:spot=none:=by have:=World.cell?_spot h;simpa [Addr.add] using this
 subst hs;exact⟨b,off,rfl⟩
theorem lq(b off j:Nat):((aD b off):Addr).add j=(aD b (off+j)):=by unfold Addr.add; split <;> simp_all
theorem jL{v:Value}{x:DataW H × List MemPlace}(h:DataW.trod enc Tryz.prog w 0 spare held fuel 23 [v]=some x)(hw:∀ n∈x.1.weights Tryz.prog 23,n<=reachBytes) :
  ∃ iv:ai,v=iv.val/\iv.At w/\iv.xs.length*8<=140737488351232:=by
 rcases open_ints Tryz.underlying23 Tryz.underlying3 Tryz.cells3 h with⟨hcs,_⟩ | ⟨a,len,cap,zs,hcs,_,hl,hm,hz,hx,hcell,_⟩
 .simp at hcs;subst hcs;exact⟨⟨none,0,[]⟩,rfl,⟨by simp,λi hi=>absurd hi (by simp)⟩,by simp⟩
 .simp at hcs;subst hcs;have hlz:len<=zs.length:=by rw[hz]; split <;> omega
  have hlen:(zs.take len).length=len:=by rw[Xu]; omega
  have hb:len*8<=140737488351232:=by have h2:=hw (((lits IntKind.i64 (zs.take len):List (DataW H)).length+(lits IntKind.i64 (zs.drop len):List (DataW H)).length)*Tryz.prog.bytesOf 3) (by rw[hx]; simp[DataW.weights,Tryz.underlying23]);rw[Tryz.Sd]at h2;simp only[lits,ZR,Xu,List.length_drop,reachBytes]at h2;omega
  refine⟨⟨some a,cap,zs.take len⟩,?_,⟨by show (zs.take len).length<=_; omega,λi hi=>?_⟩,?_⟩
  .show _=Value.slice (some a) (zs.take len).length cap
   rw[hlen]
  .have hi':i<len:=by grind
   have hc:=hcell i (by omega);obtain⟨b,off,rfl⟩:=ll (hcell 0 (by omega));refine⟨b,off,rfl,?_⟩;rw[lq]at hc;rw[hc];simp[List.getD,hi']
  grind
theorem Wp{α:Type}{l:List α}(h:l.length=3):∃ a b c,l=[a,b,c]:=by
 match l,h with
 | [a,b,c],_ => exact⟨a,b,c,rfl⟩
theorem Ws{α:Type}{l:List α}(h:l.length=4):∃ a b c d,l=[a,b,c,d]:=by
 match l,h with
 | [a,b,c,d],_ => exact⟨a,b,c,d,rfl⟩
theorem OM{α:Type}{l:List α}(h:l.length=5):∃ a b c d e,l=[a,b,c,d,e]:=by
 match l,h with
 | [a,b,c,d,e],_ => exact⟨a,b,c,d,e,rfl⟩
theorem Wu{α:Type}{l:List α}(h:l.length=6):∃ a b c d e f,l=[a,b,c,d,e,f]:=by
 match l,h with
 | [a,b,c,d,e,f],_ => exact⟨a,b,c,d,e,f,rfl⟩
theorem ET{α:Type}{l:List α}(h:l.length=7):∃ a b c d e f g,l=[a,b,c,d,e,f,g]:=by
 match l,h with
 | [a,b,c,d,e,f,g],_ => exact⟨a,b,c,d,e,f,g,rfl⟩
theorem gy{α:Type}(f:Nat->α)(n i:Nat)(z:α)(h:i<n):((List.range n).map f).getD i z=f i:=by simp[List.getD,h]
theorem DW{v:Value}{x:DataW H × List MemPlace}(h:DataW.trod enc Tryz.prog w 0 spare held fuel 22 [v]=some x)(hw:∀ n∈x.1.weights Tryz.prog 22,n<=reachBytes) :
  ∃ ao cap ts,v=.slice ao (List.length ts) cap/\aI w ao ts/\ts.length*48<=140737488351232:=by
 rcases open_slice Tryz.underlying22 h with⟨hcs,_⟩ | ⟨a,len,cap,m,n,D,Pl,hcs,_,hl,hm,hmm,hx,hel⟩
 .simp at hcs;subst hcs;exact⟨none,0,[],rfl,⟨by simp,λi hi=>absurd hi (by simp)⟩,by simp⟩
 .simp at hcs;subst hcs;have hlm:len<=m:=by rw[hmm]; split <;> omega
  have hb:len*48<=140737488351232:=by have h2:=hw ((((List.range len).map D).length+((List.range (m-len)).map λj=>D (len+j)).length)*Tryz.prog.bytesOf 48) (by rw[hx]; simp[DataW.weights,Tryz.underlying22]);rw[Tryz.ND]at h2;simp only[ZR,ZT,reachBytes]at h2;omega
  have each:∀ i,i<len->∃ t:af,w.cell? ((a.add (i*6)).add 0)=some (.int .i64 t.aO)/\w.cell? ((a.add (i*6)).add 1)=some (.int .i64 t.rows)/\w.cell? ((a.add (i*6)).add 2)=some (.int .i64 t.k0)/\
    w.cell? ((a.add (i*6)).add 3)=some (.int .i64 t.k1)/\w.cell? ((a.add (i*6)).add 4)=some (.int .i64 t.k2)/\w.cell? ((a.add (i*6)).add 5)=some (.int .i64 t.k3):=by
   intro i hi;obtain⟨cs',h1,h2⟩:=hel i (by omega);rw[Tryz.Nz]at h1;obtain⟨_,hlen,hcell⟩:=World.cells?_some h1;obtain⟨xs,k,hk,hxy,_,hxl,hf⟩:=DataW.trod_struct Tryz.underlying48 h2;obtain⟨y0,y1,y2,rfl⟩:=Wp hxl;obtain⟨v0,v1,v2,v3,v4,v5,rfl⟩:=Wu hlen
   .skip;have q0:=hf 0 _ rfl;have q1:=hf 1 _ rfl;have q2:=hf 2 _ rfl;simp[Tryz.cells3,Tryz.Ny]at q0 q1 q2;obtain⟨n0,e0,_,_⟩:=XN Tryz.underlying3 q0;obtain⟨n1,e1,_,_⟩:=XN Tryz.underlying3 q1;obtain⟨zs,k2,_,_,_,hzl,hz⟩:=DataW.trod_array Tryz.underlying46 q2;obtain⟨z0,z1,z2,z3,rfl⟩:=Ws hzl
    .skip;have r0:=hz 0 (by omega);have r1:=hz 1 (by omega);have r2:=hz 2 (by omega);have r3:=hz 3 (by omega);simp[Tryz.cells3]at r0 r1 r2 r3;obtain⟨n2,e2,_,_⟩:=XN Tryz.underlying3 r0;obtain⟨n3,e3,_,_⟩:=XN Tryz.underlying3 r1;obtain⟨n4,e4,_,_⟩:=XN Tryz.underlying3 r2;obtain⟨n5,e5,_,_⟩:=XN Tryz.underlying3 r3;simp at e0 e1 e2 e3 e4 e5;subst e0 e1 e2 e3 e4 e5;exact⟨⟨n0,n1,n2,n3,n4,n5⟩,hcell 0 (by omega),hcell 1 (by omega),hcell 2 (by omega),hcell 3 (by omega),hcell 4 (by omega),hcell 5 (by omega)⟩
  haveI:Inhabited af:=⟨tz⟩
  obtain⟨T,hT⟩:=choose_lt (α:=af) each;have hlen:((List.range len).map T).length=len:=by simp
  refine⟨some a,cap,(List.range len).map T,by rw[hlen],⟨by omega,λi hi=>?_⟩,by omega⟩;have hi':i<len:=by omega
  have h0:=(hT 0 (by omega)).1;have ha:∃ b off,a=(aD b off):=by
   rw[Xr]at h0;have e:(a.add 0).add 0=a.add 0:=by simp[Addr.add]
   rw[e]at h0;exact ll h0
  obtain⟨b,off,rfl⟩:=ha;have ht:=hT i hi';simp only[lq,Z4]at ht;rw[gy T len i tz hi'];exact⟨b,off,rfl,ht⟩
theorem Iz{v:Value}{x:DataW H × List MemPlace}(h:DataW.trod enc Tryz.prog w 0 spare held fuel 78 [v]=some x)(hw:∀ n∈x.1.weights Tryz.prog 78,n<=reachBytes) :
  ∃ c:aA,v=c.val/\bY w c.ad c.cs/\c.cs.length*40<=140737488351232:=by
 rcases open_slice Tryz.underlying78 h with⟨hcs,_⟩ | ⟨a,len,cap,m,n,D,Pl,hcs,_,hl,hm,hmm,hx,hel⟩
 .simp at hcs;subst hcs;exact⟨⟨none,0,[]⟩,rfl,⟨by simp,λi hi=>absurd hi (by simp)⟩,by simp⟩
 .simp at hcs;subst hcs;have hlm:len<=m:=by rw[hmm]; split <;> omega
  have hb:len*40<=140737488351232:=by have h2:=hw ((((List.range len).map D).length+((List.range (m-len)).map λj=>D (len+j)).length)*Tryz.prog.bytesOf 82) (by rw[hx]; simp[DataW.weights,Tryz.underlying78]);rw[Tryz.NF]at h2;simp only[ZR,ZT,reachBytes]at h2;omega
  have each:∀ i,i<len->∃ t:aF,w.cell? ((a.add (i*5)).add 0)=some (.bool t.not)/\w.cell? ((a.add (i*5)).add 1)=some (.int .i64 t.op)/\w.cell? ((a.add (i*5)).add 2)=some (.int .i64 t.left)/\
    w.cell? ((a.add (i*5)).add 3)=some (.bool t.const)/\w.cell? ((a.add (i*5)).add 4)=some (.int .i64 t.right):=by
   intro i hi;obtain⟨cs',h1,h2⟩:=hel i (by omega);rw[Tryz.NA]at h1;obtain⟨_,hlen,hcell⟩:=World.cells?_some h1;obtain⟨xs,k,hk,hxy,_,hxl,hf⟩:=DataW.trod_struct Tryz.underlying82 h2;obtain⟨y0,y1,y2,y3,y4,rfl⟩:=OM hxl;obtain⟨v0,v1,v2,v3,v4,rfl⟩:=OM hlen
   .skip;have q0:=hf 0 _ rfl;have q1:=hf 1 _ rfl;have q2:=hf 2 _ rfl;have q3:=hf 3 _ rfl;have q4:=hf 4 _ rfl;simp[Tryz.cells3,Tryz.Li]at q0 q1 q2 q3 q4;obtain⟨n0,e0,_⟩:=DataW.trod_bool Tryz.underlying4 q0;obtain⟨n1,e1,_,_⟩:=XN Tryz.underlying3 q1;obtain⟨n2,e2,_,_⟩:=XN Tryz.underlying3 q2;obtain⟨n3,e3,_⟩:=DataW.trod_bool Tryz.underlying4 q3;obtain⟨n4,e4,_,_⟩:=XN Tryz.underlying3 q4;simp at e0 e1 e2 e3 e4;subst e0 e1 e2 e3 e4;exact⟨⟨n0,n1,n2,n3,n4⟩,hcell 0 (by omega),hcell 1 (by omega),hcell 2 (by omega),hcell 3 (by omega),hcell 4 (by omega)⟩
  haveI:Inhabited aF:=⟨cz⟩
  obtain⟨T,hT⟩:=choose_lt (α:=aF) each;have hlen:((List.range len).map T).length=len:=by simp
  refine⟨⟨some a,cap,(List.range len).map T⟩,by show _=Value.slice _ ((List.range len).map T).length _; rw[hlen],⟨by show ((List.range len).map T).length<=_; omega,λi hi=>?_⟩,by show ((List.range len).map T).length*40<=_; omega⟩;have hi':i<len:=by have:i<((List.range len).map T).length:=hi;omega
  have h0:=(hT 0 (by omega)).1;have ha:∃ b off,a=(aD b off):=by
   rw[Xr]at h0;have e:(a.add 0).add 0=a.add 0:=by simp[Addr.add]
   rw[e]at h0;exact ll h0
  obtain⟨b,off,rfl⟩:=ha;have ht:=hT i hi';simp only[lq,Z4]at ht;show ∃ b' off',_/\_;rw[gy T len i cz hi'];exact⟨b,off,rfl,ht⟩
variable {H:Type} {enc:TypeId × Value->H} {w:World} {spare:Nat->Bool} {held:Bool} {fuel:Nat}
theorem jM{P:Program}{e:TypeId}{d:DataW H}{n:Nat}(hn:n∈d.weights P e):∀ {ds:List (DataW H)},d∈ds->n∈DataW.weightsAll P e ds
 | [],h => absurd h (by simp)
 | x::r,h => by
  rw[DataW.weightsAll];rcases List.mem_cons.1 h with rfl | h'
  .exact List.mem_append_left _ hn
  .exact List.mem_append_right _ (jM hn h')
theorem BK{v:Value}{x:DataW H × List MemPlace}(h:DataW.trod enc Tryz.prog w 0 spare held fuel 24 [v]=some x)(hw:∀ n∈x.1.weights Tryz.prog 24,n<=reachBytes) :
  ∃ ao cap ls,v=.slice ao (List.length ls) cap/\bM w ao ls/\ls.length*24<=140737488351232/\∀ i,i<ls.length->(ls.getD i lz).cs.length*40<=140737488351232:=by
 rcases open_slice1 Tryz.underlying24 Tryz.Nw h with⟨hcs,_⟩ | ⟨a,len,cap,m,n,V,D,Pl,hcs,_,hl,hm,hmm,hx,hel⟩
 .simp at hcs;subst hcs;exact⟨none,0,[],rfl,⟨by simp,λi hi=>absurd hi (by simp),λi hi=>absurd hi (by simp)⟩,by simp,λi hi=>absurd hi (by simp)⟩
 .simp at hcs;subst hcs;have hlm:len<=m:=by rw[hmm]; split <;> omega
  have hb:len*24<=140737488351232:=by have h2:=hw ((((List.range len).map D).length+((List.range (m-len)).map λj=>D (len+j)).length)*Tryz.prog.bytesOf 80) (by rw[hx]; simp[DataW.weights,Tryz.underlying24]);rw[Tryz.NG]at h2;simp only[ZR,ZT,reachBytes]at h2;omega
  have each:∀ i,i<len->∃ c:aA,w.cell? (a.add i)=some c.val/\bY w c.ad c.cs/\c.cs.length*40<=140737488351232:=by
   intro i hi;obtain⟨h1,h2⟩:=hel i (by omega);obtain⟨xs,k,hk,hxy,_,hxl,hf⟩:=DataW.trod_struct Tryz.underlying80 h2;have hx1:xs.length=1:=hxl;obtain⟨y0,rfl⟩:=List.length_eq_one_iff.1 hx1;have q0:=hf 0 _ rfl;simp[Tryz.Nu]at q0;obtain⟨c,hc,hcd,hcl⟩:=Iz q0 (λnn hnn=>by
    refine hw nn ?_;rw[hx];have hD:D i=.agg [y0.1]:=by have:=congrArg Prod.fst hxy;simpa using this
    have hmem:nn∈(D i).weights Tryz.prog 80:=by rw[hD];simp[DataW.weights,Tryz.underlying80,DataW.weightsEach,hnn]
    have hall:=jM hmem (ds:=(List.range len).map D) (List.mem_map.2 ⟨i,ZY.2 hi,rfl⟩);simp only[DataW.weights,Tryz.underlying24];exact List.mem_cons_of_mem _ (List.mem_append_left _ hall))
   exact⟨c,by rw[<- hc]; exact h1,hcd,hcl⟩
  haveI:Inhabited aA:=⟨lz⟩
  obtain⟨T,hT⟩:=choose_lt (α:=aA) each;have hlen:((List.range len).map T).length=len:=by simp
  refine⟨some a,cap,(List.range len).map T,by rw[hlen],⟨by omega,λi hi=>?_,λi hi=>?_⟩,by omega,λi hi=>?_⟩
  .have hi':i<len:=by omega
   obtain⟨b,off,rfl⟩:=ll (hT 0 (by omega)).1;have ht:=(hT i hi').1;rw[lq]at ht;refine⟨b,off,rfl,?_⟩;show _=some (((List.range len).map T).getD i lz).val;rw[gy T len i lz hi'];exact ht
  .have hi':i<len:=by omega
   rw[gy T len i lz hi'];exact(hT i hi').2.1
  .have hi':i<len:=by omega
   rw[gy T len i lz hi'];exact(hT i hi').2.2
theorem IA{r:Reach}{b0:Nat}{v:Value}{d:DataW H}{p:List MemPlace}(hv:Value.okWide Tryz.prog w r b0 26 v)(h:DataW.Trod enc Tryz.prog w 0 spare held 26 v d p)(hw:∀ n∈d.weights Tryz.prog 26,n<=reachBytes) :
  ∃ q:ae,v=.agg q.cells/\q.At w/\q.src.xs.length*8<=140737488351232/\q.keys.xs.length*8<=140737488351232/\q.sums.xs.length*8<=140737488351232/\q.ay.xs.length*8<=140737488351232/\q.ord.xs.length*8<=140737488351232/\
   q.wh.length*24<=140737488351232/\∀ i,i<q.wh.length->(q.wh.getD i lz).cs.length*40<=140737488351232:=by
 obtain⟨cs,rfl,hsz⟩:=okWide_struct Tryz.underlying26 hv;rw[Tryz.NB]at hsz;obtain⟨fuel,hf⟩:=h;obtain⟨cl,rfl⟩:∃ l:List Value,cs=l.toArray:=⟨cs.toList,by simp⟩;obtain⟨v0,v1,v2,v3,v4,v5,v6,rfl⟩:=ET (by simpa using hsz);obtain⟨xs,k,hk,hxy,_,hxl,Sg⟩:=DataW.trod_struct Tryz.underlying26 hf;obtain⟨y0,y1,y2,y3,y4,y5,y6,rfl⟩:=ET hxl;have q0:=Sg 0 _ rfl;have q1:=Sg 1 _ rfl;have q2:=Sg 2 _ rfl;have q3:=Sg 3 _ rfl;have q4:=Sg 4 _ rfl;have q5:=Sg 5 _ rfl;have q6:=Sg 6 _ rfl;simp[Value.cells,Tryz.ES,Tryz.Nv,Tryz.Li]at q0 q1 q2 q3 q4 q5 q6;have hd:d=.agg [y0.1,y1.1,y2.1,y3.1,y4.1,y5.1,y6.1]:=by have:=congrArg Prod.fst hxy;simpa using this
 have hwe:∀ n,n∈DataW.weightsEach Tryz.prog [23,24,4,23,23,23,23] [y0.1,y1.1,y2.1,y3.1,y4.1,y5.1,y6.1]->n<=reachBytes:=λn hn=>hw n (by
  rw[hd];simp only[DataW.weights,Tryz.underlying26];exact hn)
 have wm:=λ(j:Nat) (t:TypeId) (dd:DataW H) (h1:[23,24,4,23,23,23,23][j]? = some t) (h2:[y0.1,y1.1,y2.1,y3.1,y4.1,y5.1,y6.1][j]? = some dd)=>λn hn=>hwe n (XO h1 h2 n hn);obtain⟨i0,rfl,a0,b0'⟩:=jL q0 (wm 0 _ _ rfl rfl);obtain⟨bF,aG,ls,rfl,a1,b1,b1'⟩:=BK q1 (wm 1 _ _ rfl rfl);obtain⟨gb,e2,_⟩:=DataW.trod_bool Tryz.underlying4 q2;obtain⟨i3,rfl,a3,b3⟩:=jL q3 (wm 3 _ _ rfl rfl);obtain⟨i4,rfl,a4,b4⟩:=jL q4 (wm 4 _ _ rfl rfl);obtain⟨i5,rfl,a5,b5⟩:=jL q5 (wm 5 _ _ rfl rfl);obtain⟨i6,rfl,a6,b6⟩:=jL q6 (wm 6 _ _ rfl rfl);simp at e2;subst e2;exact⟨⟨i0,bF,aG,ls,gb,i3,i4,i5,i6⟩,rfl,⟨a0,a1,a3,a4,a5,a6⟩,b0',b3,b4,b5,b6,b1,b1'⟩
theorem Tryz.NH:Tryz.prog.cellsOf 52=7:=by kernel_rfl
theorem Tryz.NI:Tryz.prog.bytesOf 52=88:=by kernel_rfl
variable {H:Type} {enc:TypeId × Value->H} {w:World} {spare:Nat->Bool} {held:Bool} {fuel:Nat}
theorem IB{v:Value}{x:DataW H × List MemPlace}(h:DataW.trod enc Tryz.prog w 0 spare held fuel 27 [v]=some x)(hw:∀ n∈x.1.weights Tryz.prog 27,n<=reachBytes) :
  ∃ ao cap ns,v=.slice ao (List.length ns) cap/\bL w ao ns/\ns.length*88<=140737488351232/\∀ i,i<ns.length->(ns.getD i nz).cl.xs.length*8<=140737488351232/\(ns.getD i nz).co.xs.length*8<=140737488351232:=by
 rcases open_slice Tryz.underlying27 h with⟨hcs,_⟩ | ⟨a,len,cap,m,n,D,Pl,hcs,_,hl,hm,hmm,hx,hel⟩
 .simp at hcs;subst hcs;exact⟨none,0,[],rfl,⟨by simp,λi hi=>absurd hi (by simp)⟩,by simp,λi hi=>absurd hi (by simp)⟩
 .simp at hcs;subst hcs;have hlm:len<=m:=by rw[hmm]; split <;> omega
  have hb:len*88<=140737488351232:=by have h2:=hw ((((List.range len).map D).length+((List.range (m-len)).map λj=>D (len+j)).length)*Tryz.prog.bytesOf 52) (by rw[hx]; simp[DataW.weights,Tryz.underlying27]);rw[Tryz.NI]at h2;simp only[ZR,ZT,reachBytes]at h2;omega
  have each:∀ i,i<len->∃ t:ag,(w.cell? ((a.add (i*7)).add 0)=some (.int .i64 t.kind)/\w.cell? ((a.add (i*7)).add 1)=some (.int .i64 t.l)/\w.cell? ((a.add (i*7)).add 2)=some (.int .i64 t.r)/\
    w.cell? ((a.add (i*7)).add 3)=some (.int .i64 t.source)/\w.cell? ((a.add (i*7)).add 4)=some t.cl.val/\w.cell? ((a.add (i*7)).add 5)=some (.int .i64 t.key)/\w.cell? ((a.add (i*7)).add 6)=some t.co.val/\t.cl.At w/\t.co.At w)/\
    t.cl.xs.length*8<=140737488351232/\t.co.xs.length*8<=140737488351232:=by
   intro i hi;obtain⟨cs',h1,h2⟩:=hel i (by omega);rw[Tryz.NH]at h1;obtain⟨_,hlen,hcell⟩:=World.cells?_some h1;obtain⟨xs,k,hk,hxy,_,hxl,hf⟩:=DataW.trod_struct Tryz.underlying52 h2;obtain⟨y0,y1,y2,y3,y4,y5,y6,rfl⟩:=ET hxl;obtain⟨v0,v1,v2,v3,v4,v5,v6,rfl⟩:=ET hlen;have q0:=hf 0 _ rfl;have q1:=hf 1 _ rfl;have q2:=hf 2 _ rfl;have q3:=hf 3 _ rfl;have q4:=hf 4 _ rfl;have q5:=hf 5 _ rfl;have q6:=hf 6 _ rfl;simp[Tryz.cells3,Tryz.ES]at q0 q1 q2 q3 q4 q5 q6;have hD:D i=.agg [y0.1,y1.1,y2.1,y3.1,y4.1,y5.1,y6.1]:=by have:=congrArg Prod.fst hxy;simpa using this
   have hwe:∀ nn,nn∈DataW.weightsEach Tryz.prog [3,3,3,3,23,3,23] [y0.1,y1.1,y2.1,y3.1,y4.1,y5.1,y6.1]->nn<=reachBytes:=λnn hnn=>by
    refine hw nn ?_;rw[hx];have hmem:nn∈(D i).weights Tryz.prog 52:=by rw[hD];simp only[DataW.weights,Tryz.underlying52];exact hnn
    have hall:=jM hmem (ds:=(List.range len).map D) (List.mem_map.2 ⟨i,ZY.2 hi,rfl⟩);simp only[DataW.weights,Tryz.underlying27];exact List.mem_cons_of_mem _ (List.mem_append_left _ hall)
   have wm:=λ(j:Nat) (t:TypeId) (dd:DataW H) (e1:[3,3,3,3,23,3,23][j]? = some t) (e2:[y0.1,y1.1,y2.1,y3.1,y4.1,y5.1,y6.1][j]? = some dd)=>λnn hnn=>hwe nn (XO e1 e2 nn hnn);obtain⟨n0,e0,_,_⟩:=XN Tryz.underlying3 q0;obtain⟨n1,e1,_,_⟩:=XN Tryz.underlying3 q1;obtain⟨n2,e2,_,_⟩:=XN Tryz.underlying3 q2;obtain⟨n3,e3,_,_⟩:=XN Tryz.underlying3 q3;obtain⟨i4,rfl,a4,b4⟩:=jL q4 (wm 4 _ _ rfl rfl);obtain⟨n5,e5,_,_⟩:=XN Tryz.underlying3 q5;obtain⟨i6,rfl,a6,b6⟩:=jL q6 (wm 6 _ _ rfl rfl);simp at e0 e1 e2 e3 e5;subst e0 e1 e2 e3 e5;exact⟨⟨n0,n1,n2,n3,i4,n5,i6⟩,⟨hcell 0 (by omega),hcell 1 (by omega),hcell 2 (by omega),hcell 3 (by omega),hcell 4 (by omega),hcell 5 (by omega),hcell 6 (by omega),a4,a6⟩,b4,b6⟩
  haveI:Inhabited ag:=⟨nz⟩
  obtain⟨T,hT⟩:=choose_lt (α:=ag) each;have hlen:((List.range len).map T).length=len:=by simp
  refine⟨some a,cap,(List.range len).map T,by rw[hlen],⟨by omega,λi hi=>?_⟩,by omega,λi hi=>?_⟩
  .have hi':i<len:=by omega
   have h0:=(hT 0 (by omega)).1.1;have ha:∃ b off,a=(aD b off):=by
    rw[Xr]at h0;have e:(a.add 0).add 0=a.add 0:=by simp[Addr.add]
    rw[e]at h0;exact ll h0
   obtain⟨b,off,rfl⟩:=ha;have ht:=(hT i hi').1;simp only[lq,Z4]at ht;rw[gy T len i nz hi'];exact⟨b,off,rfl,ht⟩
  .have hi':i<len:=by omega
   rw[gy T len i nz hi'];exact(hT i hi').2
theorem Tryz.NJ : Tryz.prog.globalNamed (Rows.fairsRow.named.headD "") = some 0 := by kernel_rfl
theorem Tryz.NK:(Tryz.prog.globals[0]?).map (·.type)=some 133:=by kernel_rfl
theorem Tryz.NL:Tryz.prog.cellsOf 133=55:=by kernel_rfl
theorem Tryz.Lj:Tryz.prog.cellsOf 132=5:=by kernel_rfl
theorem Tryz.NM:Tryz.prog.cellsOf 3=1:=by kernel_rfl
theorem Tryz.NN:Tryz.prog.cellsOf 4=1:=by kernel_rfl
theorem Ll{α:Type}{l:List α}(h:l.length=5):∃ a b c d e,l=[a,b,c,d,e]:=by
 match l,h with
 | [a,b,c,d,e],_ => exact⟨a,b,c,d,e,rfl⟩
theorem BM{H:Type}{enc:TypeId × Value->H}{w:World}{base:Nat}{spare:Nat->Bool}{held:Bool}{fuel:Nat}{cs:List Value}{x:DataW H × List MemPlace}(h:DataW.trod enc Tryz.prog w base spare held fuel 132 cs=some x) :
  ∃ n b1 b2 b3 b4,cs=[.int .i64 n,.bool b1,.bool b2,.bool b3,.bool b4]/\x.1=.agg [.lit (.int .i64 n),.lit (.bool b1),.lit (.bool b2),.lit (.bool b3),.lit (.bool b4)]:=by
 obtain⟨xs,n,_,rfl,hl,hlen,hf⟩:=DataW.trod_struct Tryz.underlying132 h;rw[Tryz.Lj]at hl;obtain⟨c0,c1,c2,c3,c4,rfl⟩:=Ll hl;obtain⟨y0,y1,y2,y3,y4,rfl⟩:=Ll (show xs.length=5 from hlen);have q0:=hf 0 _ rfl;have q1:=hf 1 _ rfl;have q2:=hf 2 _ rfl;have q3:=hf 3 _ rfl;have q4:=hf 4 _ rfl;simp[Tryz.NM,Tryz.NN]at q0 q1 q2 q3 q4;obtain⟨n0,e0,f0,_⟩:=XN Tryz.underlying3 q0;obtain⟨b1,e1,f1⟩:=DataW.trod_bool Tryz.underlying4 q1;obtain⟨b2,e2,f2⟩:=DataW.trod_bool Tryz.underlying4 q2;obtain⟨b3,e3,f3⟩:=DataW.trod_bool Tryz.underlying4 q3;obtain⟨b4,e4,f4⟩:=DataW.trod_bool Tryz.underlying4 q4;refine⟨n0,b1,b2,b3,b4,?_,?_⟩
 .simp at e0 e1 e2 e3 e4;rw[e0,e1,e2,e3,e4]
 .subst f0 f1 f2 f3 f4;rfl
theorem NP{α:Type}{l:List α}(h:l.length=11):∃ a0 a1 a2 a3 a4 a5 a6 a7 a8 a9 Mx,l=[a0,a1,a2,a3,a4,a5,a6,a7,a8,a9,Mx]:=by
 match l,h with
 | [a0,a1,a2,a3,a4,a5,a6,a7,a8,a9,Mx],_ => exact⟨a0,a1,a2,a3,a4,a5,a6,a7,a8,a9,Mx,rfl⟩
theorem dO{l:List Value}{i:Nat}{H:Type}{enc:TypeId × Value->H}{w:World}{base:Nat}{spare:Nat->Bool}{held:Bool}{fuel:Nat}{x:DataW H × List MemPlace}{a:Int}{b1 b2 b3 b4:Bool}(h:DataW.trod enc Tryz.prog w base spare held fuel 132 ((l.drop (i*5)).take 5)=some x)
  (hx:x.1=.agg [.lit (.int .i64 a),.lit (.bool b1),.lit (.bool b2),.lit (.bool b3),.lit (.bool b4)]):(l.drop (i*5)).take 5=[.int .i64 a,.bool b1,.bool b2,.bool b3,.bool b4]:=by obtain⟨n,c1,c2,c3,c4,e,f⟩:=BM h;rw[hx]at f;simp at f;obtain⟨rfl,rfl,rfl,rfl,rfl⟩:=f;exact e
theorem wK{W:World}(h:laidMetH Tryz.prog Rows.fairsRow.laid W):bW W 0:=by
 have h':laidMet Tryz.prog Rows.fairsRow.laid W:=h;obtain⟨ps,⟨g,t,cs,fuel,p,q,hg,ht,hvar,hd,_,_⟩,_⟩:=h';obtain rfl:=Option.some.inj (Tryz.NJ.symm.trans hg);obtain rfl:=Option.some.inj (Tryz.NK.symm.trans ht);obtain⟨xs,m,_,hx,hl,hlen,hf⟩:=DataW.trod_array Tryz.underlying133 hd;rw[Tryz.NL]at hl;rw[Tryz.Lj]at hf;obtain⟨a0,a1,a2,a3,a4,a5,a6,a7,a8,a9,Mx,rfl⟩:=NP hlen;have hx1:=congrArg Prod.fst hx;simp only[Rows.laid_scout_plan_shapes,List.map_cons,List.map_nil,DataW.agg.injEq,List.cons.injEq,and_true]at hx1;obtain⟨x0,x1,x2,x3,x4,x5,x6,x7,x8,x9,Ol⟩:=hx1;have each:∀ i,i<11->(cs.toList.drop (i*5)).take 5=(dI ((i:Nat):Int)).toList:=by
  intro i hi
  match i,hi with
  | 0,_ => exact(dO (i:=0) (hf 0 (by omega)) x0.symm).trans (by rfl)
  | 1,_ => exact(dO (i:=1) (hf 1 (by omega)) x1.symm).trans (by rfl)
  | 2,_ => exact(dO (i:=2) (hf 2 (by omega)) x2.symm).trans (by rfl)
  | 3,_ => exact(dO (i:=3) (hf 3 (by omega)) x3.symm).trans (by rfl)
  | 4,_ => exact(dO (i:=4) (hf 4 (by omega)) x4.symm).trans (by rfl)
  | 5,_ => exact(dO (i:=5) (hf 5 (by omega)) x5.symm).trans (by rfl)
  | 6,_ => exact(dO (i:=6) (hf 6 (by omega)) x6.symm).trans (by rfl)
  | 7,_ => exact(dO (i:=7) (hf 7 (by omega)) x7.symm).trans (by rfl)
  | 8,_ => exact(dO (i:=8) (hf 8 (by omega)) x8.symm).trans (by rfl)
  | 9,_ => exact(dO (i:=9) (hf 9 (by omega)) x9.symm).trans (by rfl)
  | 10,_ => exact(dO (i:=10) (hf 10 (by omega)) Ol.symm).trans (by rfl)
 intro j u hj;rw[World.var?_cell hg hvar j,<- Array.getElem?_toList];have aiv:j<55:=by
  have h1:iL.length=55:=by rfl
  have h2:=(List.getElem?_eq_some_iff.1 hj).1;omega
 have e1:j=j / 5*5+j % 5:=by omega
 have hlt:j / 5<11:=by omega
 have hm:j % 5<5:=Nat.mod_lt _ (by omega);have h3:=each (j / 5) hlt;have h4:cs.toList[j]? = (dI ((j / 5:Nat):Int)).toList[j % 5]?:=by rw[<- h3,List.getElem?_take,Q8 hm,List.getElem?_drop,<- e1]
 have h5:iL[j]? = (dI ((j / 5:Nat):Int)).toList[j % 5]?:=by
  have:=flat_get (λ(k:Nat)=>(dI (k:Int)).toList) 5 (λ_=>rfl) 0 (List.range 11) (j / 5) (j % 5) (by simp; exact hlt) hm;unfold iL;rw[e1];have e2:(j / 5*5+j % 5) / 5=j / 5:=by omega
  have e3:(j / 5*5+j % 5) % 5=j % 5:=by omega
  rw[e2,e3,this];simp[List.getD,hlt]
 rw[h4,<- h5];exact hj
open Go
theorem NQ:Rows.fairsRow.wfByText (OpenSpec.ofChange Rows.fairsSpec)=true:=by kernel_rfl
theorem IC : Tryz.pinned.checked.prog.mainIs = some ((true, "b2fbca9e2b85f6e9d5675029b509f8d1cd186381b09bebd426a39a78fe84fe52").1, (true, "b2fbca9e2b85f6e9d5675029b509f8d1cd186381b09bebd426a39a78fe84fe52").2.toList) := by kernel_rfl
theorem D5:false=Tryz.pinned.checked.prog.looks []:=by kernel_rfl
theorem IE:false=Rows.fairsRow.goesBy Tryz.pinned.checked.prog:=by kernel_rfl
theorem D6:Tryz.pinned.checked.prog.funcNamed Rows.fairsRow.func=some 3:=by kernel_rfl
theorem NR:Tryz.pinned.checked.prog.wantsStandIn 22=false:=by kernel_rfl
theorem NS:Tryz.pinned.checked.prog.wantsStandIn 26=false:=by kernel_rfl
theorem NT:Tryz.pinned.checked.prog.wantsStandIn 27=false:=by kernel_rfl
