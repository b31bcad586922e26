import Derived.Test.YtnjbikdhpnopjaaGreatDoorRows
import Derived.JoinedOf
import Derived.ProofKit
import Derived.OpenShut
import Derived.Deep.Slices
import Derived.Test.YtnjbikdhpnopjaaGreatDoorA00
set_option linter.all false
set_option maxRecDepth 100000
set_option maxHeartbeats 0
namespace Go.Proofs.YtnjbikdhpnopjaaGreatDoor
open Go.Proofs.Zz
theorem Gp:Tryz.pinned.checked.prog.funcNamed Rows.answeredRow.func=some 3:=by kernel_rfl
theorem Pj:((Rows.answeredRow).wf (OpenSpec.ofChange (Rows.answeredSpec)))=true:=by kernel_rfl
theorem Pk:(laidOutB (Tryz.prog))=true:=by kernel_rfl
theorem Pm:(mapsRowed (Tryz.prog))=true:=by kernel_rfl
theorem Pn:((Tryz.f3).params.all ((Tryz.prog).readableRec ·))=true:=by kernel_rfl
theorem Po:(namedTie (Tryz.prog) (Rows.answeredRow).named (Rows.answeredSpec).vars)=true:=by kernel_rfl
theorem Pp:(((Rows.answeredRow).stops==[]))=true:=by kernel_rfl
theorem Pq:(((Tryz.prog).stops==[]))=true:=by kernel_rfl
theorem Ps:(((Rows.answeredRow).knobs==[]))=true:=by kernel_rfl
theorem Pt:(((Tryz.prog).stopKnobs==[]))=true:=by kernel_rfl
theorem Pv:(((Rows.answeredRow).inPlace==(Tryz.prog).inPlace 3))=true:=by kernel_rfl
theorem MQ:(((Rows.answeredRow).unfollowed==(Tryz.prog).unfollowed 3))=true:=by kernel_rfl
theorem MR:(((Rows.answeredRow).recurses==(Tryz.prog).recurses 3))=true:=by kernel_rfl
theorem MS:(((Rows.answeredRow).named==(Tryz.prog).varsNamed 3))=true:=by kernel_rfl
theorem MU:(((Rows.answeredRow).maps==((Tryz.f3).params.toList++(Rows.answeredSpec).plain.varTypes (Tryz.prog)).any ((Tryz.prog).mapsRec ·)))=true:=by kernel_rfl
theorem MW:(((Rows.answeredRow).ifaces==((Tryz.f3).params.toList++(Rows.answeredSpec).plain.varTypes (Tryz.prog)).any ((Tryz.prog).ifacesRec ·)))=true:=by kernel_rfl
theorem MX:(((Rows.answeredRow).mapsOut==(Tryz.prog).mapsAmong (Tryz.f3).resultTypes.toList))=true:=by kernel_rfl
theorem MZ:(((Rows.answeredRow).loops==((Tryz.f3).params.toList++(Rows.answeredSpec).plain.varTypes (Tryz.prog)).any ((Tryz.prog).loopsFrom ·)))=true:=by kernel_rfl
theorem M0:(((Rows.answeredRow).wideKeys==((Tryz.f3).params.toList++(Rows.answeredSpec).plain.varTypes (Tryz.prog)++(Tryz.f3).resultTypes.toList).any ((Tryz.prog).wideKeysFrom ·)))=true:=by kernel_rfl
theorem Na:((Rows.answeredSpec).vars.all ((Tryz.prog).varReadable ·))=true:=by kernel_rfl
theorem Nb:((Tryz.f3).resultTypes.all (λt=>(Tryz.prog).readableRec t&&decide (t<(Tryz.prog).types.size)))=true:=by kernel_rfl
theorem Nc:(((Rows.answeredRow).ifacesOut==(Tryz.f3).resultTypes.toList.any ((Tryz.prog).ifacesRec ·)))=true:=by kernel_rfl
theorem Nf:(((Rows.answeredRow).loopsOut==(Tryz.f3).resultTypes.toList.any ((Tryz.prog).loopsFrom ·)))=true:=by kernel_rfl
theorem Ng:(((Rows.answeredRow).plainKeys==(Tryz.prog).plainKeys))=true:=by kernel_rfl
theorem Nh:((Rows.answeredRow).shortTexts.isNone)=true:=by kernel_rfl
theorem Ni:((Tryz.prog).stopsHeard)=true:=by kernel_rfl
theorem Nk:((Tryz.prog).mayEnter)=true:=by kernel_rfl
theorem Nl:(((Rows.answeredRow).lifted==(Tryz.prog).liftsFinal))=true:=by kernel_rfl
theorem Nn:(((Tryz.prog).make==some (Rows.answeredRow).make))=true:=by kernel_rfl
theorem Np:(((Rows.answeredRow).pinned==(Rows.answeredRow).pinnedBy))=true:=by kernel_rfl
theorem Nr:(((Rows.answeredRow).veiled==((Tryz.f3).params.toList++(Rows.answeredSpec).plain.varTypes (Tryz.prog)++(Tryz.f3).resultTypes.toList).any ((Tryz.prog).veiledRec ·)))=true:=by kernel_rfl
theorem Ns:((Rows.answeredRow).veiledFits (Tryz.prog) (Tryz.f3).params.toList ((Tryz.f3).params.toList++(Rows.answeredSpec).plain.varTypes (Tryz.prog)++(Tryz.f3).resultTypes.toList))=true:=by kernel_rfl
open Go.RowKit Go.Deep Go.ChangeShapes Go.WideShapes Go.ChangeAt
theorem Tryz.ahC:Tryz.prog.cellsOf 3=1:=by kernel_rfl
theorem Tryz.aoh:Tryz.prog.bytesOf 3=8:=by kernel_rfl
variable {H:Type} {enc:TypeId × Value->H} {w:World} {spare:Nat->Bool} {held:Bool} {fuel:Nat}
theorem adQ{a:Addr}{v:Value}(h:w.cell? (a.add 0)=some v):∃ b off,a=(aD b off):=by
 obtain⟨b,off,spot⟩:=a;have hs:spot=none:=by have:=World.cell?_spot h;simpa [Addr.add] using this
 subst hs;exact⟨b,off,rfl⟩
theorem MN(b off j:Nat):((aD b off):Addr).add j=(aD b (off+j)):=by unfold Addr.add; split <;> simp_all
theorem ahD{v:Value}{x:DataW H × List MemPlace}(h:DataW.trod enc Tryz.prog w 0 spare held fuel 22 [v]=some x)(hw:∀ n∈x.1.weights Tryz.prog 22,n<=reachBytes) :
  ∃ iv:ae,v=iv.val/\iv.At w/\iv.xs.length*8<=140737488351232:=by
 rcases open_ints Tryz.underlying22 Tryz.underlying3 Tryz.ahC h with⟨hcs,_⟩ | ⟨a,len,cap,zs,hcs,_,hl,hm,hz,hx,hcell,_⟩
 .simp at hcs;subst hcs;exact⟨⟨none,0,[]⟩,rfl,⟨by simp,λi hi=>absurd hi (by simp)⟩,by simp⟩
 .simp at hcs;subst hcs;have hlz:len<=zs.length:=by rw[hz]; split <;> omega
  have hlen:(zs.take len).length=len:=by rw[Xu]; omega
  have hb:len*8<=140737488351232:=by have h2:=hw (((lits IntKind.i64 (zs.take len):List (DataW H)).length+(lits IntKind.i64 (zs.drop len):List (DataW H)).length)*Tryz.prog.bytesOf 3) (by rw[hx]; simp[DataW.weights,Tryz.underlying22]);rw[Tryz.aoh]at h2;simp only[lits,Zm,Xu,X7,reachBytes]at h2;omega
  refine⟨⟨some a,cap,zs.take len⟩,?_,⟨by show (zs.take len).length<=_; omega,λi hi=>?_⟩,?_⟩
  .show _=Value.slice (some a) (zs.take len).length cap
   rw[hlen]
  .have hi':i<len:=by grind
   have hc:=hcell i (by omega);obtain⟨b,off,rfl⟩:=adQ (hcell 0 (by omega));refine⟨b,off,rfl,?_⟩;rw[MN]at hc;rw[hc];simp[List.getD,hi']
  grind
theorem ahE{α:Type}{l:List α}{d:α}{k:Nat}(hk:k<l.length):l.getD k d∈l:=by
 have e:l.getD k d=l[k]:=by simp[List.getD,hk]
 rw[e];exact Zv hk
theorem Ko{n:Int}(h:(Lit.int .i64 n).wf=true):-9223372036854775808<=n/\n<=9223372036854775807:=by
 have h1:(decide (IntKind.i64.min<=n)&&decide (n<=IntKind.i64.max))=true:=h;rw[Qj,ZW,ZW]at h1;have e1:IntKind.i64.min = -9223372036854775808:=by decide
 have e2:IntKind.i64.max=9223372036854775807:=by decide
 rw[e1,e2]at h1;exact h1
theorem UM{H:Type}{enc:TypeId × Value->H}{w:World}{spare:Nat->Bool}{held:Bool}{fuel base:Nat}{v:Value}{x:DataW H × List MemPlace}(h:DataW.trod enc Tryz.prog w 0 spare held fuel 22 [v]=some x)(hv:Value.okWide Tryz.prog w .any base 22 v)(hw:∀ n∈x.1.weights Tryz.prog 22,n<=reachBytes) :
  ∃ (lo:Option Addr) (lc:Nat) (l:List Int),v=.slice lo l.length lc/\IntsAt w lo l/\(∀ x∈l,-9223372036854775808<=x/\x<=9223372036854775807)/\∀ a,lo=some a->a.block<w.heap.size:=by
 obtain⟨iv,rfl,hA,_⟩:=ahD h hw;obtain⟨lo,lc,l⟩:=iv;refine⟨lo,lc,l,rfl,hA,?_,?_⟩
 .rcases open_ints Tryz.underlying22 Tryz.underlying3 Tryz.ahC h with⟨hcs,_⟩ | ⟨a,len,cap,zs,hcs,_,hl,_,hz,_,hcell,hwf⟩
  .have e:Value.slice lo l.length lc=Value.slice none 0 0:=by simpa [ae.val] using hcs
   rw[Value.slice.injEq]at e;obtain⟨e1,e2,e3⟩:=e;obtain rfl:l=[]:=Qs e2;intro x hx;simp at hx
  .have e:Value.slice lo l.length lc=Value.slice (some a) len cap:=by simpa [ae.val] using hcs
   rw[Value.slice.injEq]at e;obtain⟨e1,e2,e3⟩:=e;subst e1 e2;intro x hx;obtain⟨i,hi,rfl⟩:=Qq hx;have hlz:l.length<=zs.length:=by rw[hz]; split <;> omega
   obtain⟨b,off,e,hc⟩:=hA.2 i hi;have e':a=(aD b off):=by injection e
   subst e';have hc2:=hcell i (by omega);rw[MN]at hc2;have hc':w.cell? (aD b (off+i))=some (.int .i64 (l.getD i 0)):=hc;rw[hc']at hc2;have e3':l.getD i 0=zs.getD i 0:=by rw[Option.some.injEq,Value.int.injEq]at hc2; exact hc2.2
   have e4:l.getD i 0=l[i]:=by simp[List.getD,hi]
   have hm:zs.getD i 0∈zs:=ahE (by omega);rw[<- e4,e3'];exact Ko (hwf _ hm)
 .intro a ha;have ha':=ha;subst ha';simp only[Value.okWide,Cell.okWide,ae.val,Tryz.underlying22,Cell.ok]at hv;have h3:=hv.2.2;unfold World.has at h3;obtain⟨_,_,row,cells,hsh,_⟩:=h3;unfold World.shape? at hsh;by_cases hlt:a.block<w.heap.size
  .exact hlt
  .rw[Array.getElem?_eq_none (by omega)]at hsh;simp at hsh
