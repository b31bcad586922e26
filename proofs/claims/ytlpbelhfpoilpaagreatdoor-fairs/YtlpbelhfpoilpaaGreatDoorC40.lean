import Derived.Test.YtlpbelhfpoilpaaGreatDoorRows
import Derived.ShutString
import Derived.ChangeOld
import Derived.Below
import Derived.ChangeSame
import Derived.ChangeVars
import Derived.JoinedOf
import Derived.RowKit
import Derived.RowKitTokens
import Derived.LaidLaws
import Derived.LaidHandle
import Derived.Stop.Joined
import Derived.Test.YtlpbelhfpoilpaaGreatDoorC38
import Derived.Test.YtlpbelhfpoilpaaGreatDoorC39
set_option linter.all false
set_option maxRecDepth 100000
set_option maxHeartbeats 16000000
namespace Go.Proofs.YtlpbelhfpoilpaaGreatDoor
open Go.ChangeShapes Go.WideShapes Go.ChangeAt Go.RowKit Go.Scout
theorem own:ownKnob Tryz.prog.godebug=none:=by kernel_rfl
theorem laidOut:laidOutB Tryz.prog=true:=by kernel_rfl
theorem laid_met (os:Os):laidMetH Tryz.prog Rows.fairsRow.laid ((({ World.holding Tryz.prog os ⟨#[],#[],[]⟩ with heap:=(World.holding Tryz.prog os ⟨#[],#[],[]⟩).heap.modify 0 (fun (o:Obj)=>match o with | .cells _ t frozen=>Obj.cells (#[.int .i64 0,.bool false,.bool false,.bool false,.bool false,.int .i64 0,.bool true,.bool false,.bool false,.bool false,.int .i64 1,.bool false,.bool true,.bool false,.bool false,.int .i64 2,.bool false,.bool true,.bool false,.bool false,.int .i64 2,.bool false,.bool true,.bool true,.bool false,.int .i64 2,.bool false,.bool true,.bool true,.bool false,.int .i64 1,.bool false,.bool false,.bool false,.bool true,.int .i64 1,.bool false,.bool false,.bool false,.bool false,.int .i64 1,.bool false,.bool false,.bool false,.bool false,.int .i64 1,.bool false,.bool false,.bool false,.bool false,.int .i64 1,.bool false,.bool false,.bool false,.bool false]:Array Value) t frozen | o=>o) }:World)).forCall (fun _ _=>0) ⟨#[],#[.slice none 0 0,.agg #[.slice none 0 0,.slice none 0 0,.bool false,.slice none 0 0,.slice none 0 0,.slice none 0 0,.slice none 0 0],.slice none 0 0],[]⟩).memory:=
 laidMetH_of_parts (laidMet_of_run' 8 (by kernel_rfl) (by kernel_rfl)) (by kernel_rfl)
theorem fairs_lifted (os:Os) (started:os.Started) (H:Type) (enc:TypeId × Value->H) :
  ReturnsInHanded {} Tryz.checked os 3 .any (fun w args=>(Rows.fairsSpec.pre enc Tryz.prog Tryz.f3 Rows.fairsRow.domain false w args/\laidMetH Tryz.prog Rows.fairsRow.laid w)/\sizedMet enc Tryz.prog Tryz.f3 (OpenSpec.ofChange Rows.fairsSpec) false w args)
   (Rows.fairsSpec.post enc Tryz.prog Tryz.f3 false true false false):=by
 refine returnsInHanded_of_change_and (C:=Tryz.checked) (X:=fun w _=>laidMetH Tryz.prog Rows.fairsRow.laid w) (fun _ _ _ hh h=>h.of_heap hh) own started (by kernel_rfl) Tryz.func3
  (ChangeSpec.witness_at (enc:=enc) (C:=Tryz.checked) (os:=os) (X:=fun w _=>laidMetH Tryz.prog Rows.fairsRow.laid w) false (({ World.holding Tryz.prog os ⟨#[],#[],[]⟩ with heap:=(World.holding Tryz.prog os ⟨#[],#[],[]⟩).heap.modify 0 (fun (o:Obj)=>match o with | .cells _ t frozen=>Obj.cells (#[.int .i64 0,.bool false,.bool false,.bool false,.bool false,.int .i64 0,.bool true,.bool false,.bool false,.bool false,.int .i64 1,.bool false,.bool true,.bool false,.bool false,.int .i64 2,.bool false,.bool true,.bool false,.bool false,.int .i64 2,.bool false,.bool true,.bool true,.bool false,.int .i64 2,.bool false,.bool true,.bool true,.bool false,.int .i64 1,.bool false,.bool false,.bool false,.bool true,.int .i64 1,.bool false,.bool false,.bool false,.bool false,.int .i64 1,.bool false,.bool false,.bool false,.bool false,.int .i64 1,.bool false,.bool false,.bool false,.bool false,.int .i64 1,.bool false,.bool false,.bool false,.bool false]:Array Value) t frozen | o=>o) }:World)) #[.slice none 0 0,.agg #[.slice none 0 0,.slice none 0 0,.bool false,.slice none 0 0,.slice none 0 0,.slice none 0 0,.slice none 0 0],.slice none 0 0] 8 rfl (by kernel_rfl) (by kernel_rfl) (by kernel_rfl) (by kernel_rfl) (by kernel_rfl) (laid_met os)) ?_
 intro W base args ds gs before hval0 hW hcnd hsz0 hL _;have hval:∀ (j:Nat) t v,Tryz.f3.params[j]? = some t->args[j]? = some v->Value.okWide Tryz.prog W .any base t v:=hval0;have hW':=hW;obtain⟨p,q,hA0,hV,rfl,hfz,hnd⟩:=hW;have hA:DataW.TrodAll enc Tryz.prog W 0 (fun _=>true) true Tryz.f3.params.toList args.toList ds p:=hA0;have hsz:(DataW.weightsEach Tryz.prog (Tryz.f3.params.toList++Rows.fairsSpec.plain.varTypes Tryz.prog) (ds++gs)).all (·<=reachBytes)=true:=hsz0;rw[Tryz.params3] at hA hval hsz;obtain⟨v0,vs0,d0,ds0,p0,q0,hargs,rfl,rfl,h0,r0⟩:=trodAll_cons hA;obtain⟨v1,vs1,d1,ds1,p1,q1,rfl,rfl,rfl,h1,r1⟩:=trodAll_cons r0;obtain⟨v2,vs2,d2,ds2,p2,q2,rfl,rfl,rfl,h2,r2⟩:=trodAll_cons r1;obtain⟨rfl,rfl,rfl⟩:=trodAll_nil r2;obtain rfl:args=#[v0,v1,v2]:=by cases args; simp_all
 obtain⟨rfl,rfl⟩:=trodVars_none hV;have k0:=h0;have k1:=h1;have k2:=h2;have lt0:∀ x∈p0,x.block<W.heap.size:=by obtain⟨m,hm⟩:=k0; exact DataW.trod_lt m _ _ _ hm
 have lt1:∀ x∈p1,x.block<W.heap.size:=by obtain⟨m,hm⟩:=k1; exact DataW.trod_lt m _ _ _ hm
 have lt2:∀ x∈p2,x.block<W.heap.size:=by obtain⟨m,hm⟩:=k2; exact DataW.trod_lt m _ _ _ hm
 have hall:=List.all_eq_true.1 hsz;have hw0:∀ n∈d0.weights Tryz.prog 22,n<=reachBytes:=fun n hn=>of_decide_eq_true (hall n (DataW.weights_mem_each (j:=0) rfl rfl n hn))
 have hw1:∀ n∈d1.weights Tryz.prog 26,n<=reachBytes:=fun n hn=>of_decide_eq_true (hall n (DataW.weights_mem_each (j:=1) rfl rfl n hn))
 have hw2:∀ n∈d2.weights Tryz.prog 27,n<=reachBytes:=fun n hn=>of_decide_eq_true (hall n (DataW.weights_mem_each (j:=2) rfl rfl n hn))
 obtain⟨a0,len0,cap0,rfl⟩:=okWide_slice Tryz.underlying22 (hval 0 22 v0 rfl rfl);obtain⟨a2,len2,cap2,rfl⟩:=okWide_slice Tryz.underlying27 (hval 2 27 v2 rfl rfl);obtain⟨f0,hf0⟩:=h0;obtain⟨f2,hf2⟩:=h2;obtain⟨ao,cap,ts,hv,hT,hTs⟩:=openTables (x:=(d0,p0)) hf0 hw0;obtain⟨qv,rfl,hQ,z1,z2,z3,z4,z5,z6,z7⟩:=openQuery (hval 1 26 v1 rfl rfl) h1 hw1;obtain⟨po,pcap,pl,hpv,hP,y1,y2⟩:=openNodes (x:=(d2,p2)) hf2 hw2;rw[hv] at k0 hval hW' ⊢;rw[hpv] at k2 hval hW' ⊢;clear hA0 hval0;refine (fairs_any ao po cap pcap ts qv pl W hT hQ hP (shapes_of_laid hL) hTs z1 z2 z3 z4 z5 z6 z7 y1 y2).mono fun e W' ⟨he,bel⟩=>?_
 subst he;exact⟨_,rfl,_,_,_,[],_,[],hW',trodAll_mk1 (shut_bool Tryz.underlying4 _),(trodAll_cons_mk (Below.trod laidOut (by kernel_rfl) (of_decide_eq_true (by kernel_rfl)) k0 bel lt0) (trodAll_cons_mk (Below.trod laidOut (by kernel_rfl) (of_decide_eq_true (by kernel_rfl)) k1 bel lt1) (trodAll_cons_mk (Below.trod laidOut (by kernel_rfl) (of_decide_eq_true (by kernel_rfl)) k2 bel lt2) trodAll_mk0))),rfl,bel.frame _,fun h=>by cases h⟩
end Go.Proofs.YtlpbelhfpoilpaaGreatDoor
