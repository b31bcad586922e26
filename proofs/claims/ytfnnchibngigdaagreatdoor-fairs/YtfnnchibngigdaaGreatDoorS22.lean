import Derived.ShutString
import Derived.Test.YtfnnchibngigdaaGreatDoorCards
import Derived.Test.YtfnnchibngigdaaGreatDoorTie
import Derived.Test.YtfnnchibngigdaaGreatDoorS20
import Derived.Test.YtfnnchibngigdaaGreatDoorS21
set_option linter.all false
set_option maxRecDepth 100000
set_option maxHeartbeats 0
namespace Go.Proofs.YtfnnchibngigdaaGreatDoor
open Go.ChangeShapes Go.WideShapes Go.ChangeAt Go.RowKit Go.Proofs.Zz
theorem own:ownKnob Tryz.prog.godebug=none:=by kernel_rfl
theorem laidOut:laidOutB Tryz.prog=true:=by kernel_rfl
theorem Lm(os:Os):laidMetH Tryz.prog Rows.fairsRow.laid ((({ World.holding Tryz.prog os ⟨#[],#[],[]⟩ with heap:=(World.holding Tryz.prog os ⟨#[],#[],[]⟩).heap.modify 0 (λ(o:Obj)=>match o with | .cells _ t frozen=>Obj.cells (#[.int .i64 0,.bool false,.bool false,.bool false,.bool false,.int .i64 0,.bool true,.bool false,.bool false,.bool false,.int .i64 1,.bool false,.bool true,.bool false,.bool false,.int .i64 2,.bool false,.bool true,.bool false,.bool false,.int .i64 2,.bool false,.bool true,.bool true,.bool false,.int .i64 2,.bool false,.bool true,.bool true,.bool false,.int .i64 1,.bool false,.bool false,.bool false,.bool true,.int .i64 1,.bool false,.bool false,.bool false,.bool false,.int .i64 1,.bool false,.bool false,.bool false,.bool false,.int .i64 1,.bool false,.bool false,.bool false,.bool false,.int .i64 1,.bool false,.bool false,.bool false,.bool false]:Array Value) t frozen | o=>o) }:World)).forCall (λ_ _=>0) ⟨#[],#[.slice none 0 0,.agg #[.slice none 0 0,.slice none 0 0,.bool false,.slice none 0 0,.slice none 0 0,.slice none 0 0,.slice none 0 0],.slice none 0 0],[]⟩).memory:=
 laidMetH_of_parts (laidMet_of_run' 8 (by kernel_rfl) (by kernel_rfl)) (by kernel_rfl)
theorem zI(os:Os)(started:os.Started)(H:Type)(enc:TypeId × Value->H) :
  ReturnsInHanded {} Tryz.checked os 3 .any (λw args=>(Rows.fairsSpec.pre enc Tryz.prog Tryz.f3 Rows.fairsRow.domain false w args/\laidMetH Tryz.prog Rows.fairsRow.laid w)/\sizedMet enc Tryz.prog Tryz.f3 (OpenSpec.ofChange Rows.fairsSpec) false w args)
   (Rows.fairsSpec.post enc Tryz.prog Tryz.f3 false true false false):=by
 refine returnsInHanded_of_change_and (C:=Tryz.checked) (X:=λw _=>laidMetH Tryz.prog Rows.fairsRow.laid w) (λ_ _ _ hh h=>h.of_heap hh) own started (by kernel_rfl) Tryz.func3
  (ChangeSpec.witness_at (enc:=enc) (C:=Tryz.checked) (os:=os) (X:=λw _=>laidMetH Tryz.prog Rows.fairsRow.laid w) false (({ World.holding Tryz.prog os ⟨#[],#[],[]⟩ with heap:=(World.holding Tryz.prog os ⟨#[],#[],[]⟩).heap.modify 0 (λ(o:Obj)=>match o with | .cells _ t frozen=>Obj.cells (#[.int .i64 0,.bool false,.bool false,.bool false,.bool false,.int .i64 0,.bool true,.bool false,.bool false,.bool false,.int .i64 1,.bool false,.bool true,.bool false,.bool false,.int .i64 2,.bool false,.bool true,.bool false,.bool false,.int .i64 2,.bool false,.bool true,.bool true,.bool false,.int .i64 2,.bool false,.bool true,.bool true,.bool false,.int .i64 1,.bool false,.bool false,.bool false,.bool true,.int .i64 1,.bool false,.bool false,.bool false,.bool false,.int .i64 1,.bool false,.bool false,.bool false,.bool false,.int .i64 1,.bool false,.bool false,.bool false,.bool false,.int .i64 1,.bool false,.bool false,.bool false,.bool false]:Array Value) t frozen | o=>o) }:World)) #[.slice none 0 0,.agg #[.slice none 0 0,.slice none 0 0,.bool false,.slice none 0 0,.slice none 0 0,.slice none 0 0,.slice none 0 0],.slice none 0 0] 8 rfl (by kernel_rfl) (by kernel_rfl) (by kernel_rfl) (by kernel_rfl) (by kernel_rfl) (Lm os)) ?_
 intro W base args ds gs before hval0 hW hcnd hsz0 hL _;have hval:∀ (j:Nat) t v,Tryz.f3.params[j]? = some t->args[j]? = some v->Value.okWide Tryz.prog W .any base t v:=hval0;have hW':=hW;obtain⟨p,q,hA0,hV,rfl,hfz,hnd⟩:=hW;have hA:DataW.TrodAll enc Tryz.prog W 0 (λ_=>true) true Tryz.f3.params.toList args.toList ds p:=hA0;have hsz:(DataW.weightsEach Tryz.prog (Tryz.f3.params.toList++Rows.fairsSpec.plain.varTypes Tryz.prog) (ds++gs)).all (·<=reachBytes)=true:=hsz0;rw[Tryz.params3]at hA hval hsz;obtain⟨v0,vs0,d0,ds0,p0,q0,hargs,rfl,rfl,h0,r0⟩:=trodAll_cons hA;obtain⟨v1,vs1,d1,ds1,p1,q1,rfl,rfl,rfl,h1,r1⟩:=trodAll_cons r0;obtain⟨v2,vs2,d2,ds2,p2,q2,rfl,rfl,rfl,h2,r2⟩:=trodAll_cons r1;obtain⟨rfl,rfl,rfl⟩:=trodAll_nil r2;obtain rfl:args=#[v0,v1,v2]:=by cases args; simp_all
 obtain⟨rfl,rfl⟩:=trodVars_none hV;have k0:=h0;have k1:=h1;have k2:=h2;have lt0:∀ x∈p0,x.block<W.heap.size:=by obtain⟨m,hm⟩:=k0; exact DataW.trod_lt m _ _ _ hm
 have lt1:∀ x∈p1,x.block<W.heap.size:=by obtain⟨m,hm⟩:=k1; exact DataW.trod_lt m _ _ _ hm
 have lt2:∀ x∈p2,x.block<W.heap.size:=by obtain⟨m,hm⟩:=k2; exact DataW.trod_lt m _ _ _ hm
 have hall:=Q4.1 hsz;have hw0:∀ n∈d0.weights Tryz.prog 22,n<=reachBytes:=λn hn=>ZZ (hall n (XO (j:=0) rfl rfl n hn));have hw1:∀ n∈d1.weights Tryz.prog 26,n<=reachBytes:=λn hn=>ZZ (hall n (XO (j:=1) rfl rfl n hn));have hw2:∀ n∈d2.weights Tryz.prog 27,n<=reachBytes:=λn hn=>ZZ (hall n (XO (j:=2) rfl rfl n hn));obtain⟨a0,aiz,cap0,rfl⟩:=okWide_slice Tryz.underlying22 (hval 0 22 v0 rfl rfl);obtain⟨a2,aiA,cap2,rfl⟩:=okWide_slice Tryz.underlying27 (hval 2 27 v2 rfl rfl);obtain⟨f0,hf0⟩:=h0;obtain⟨f2,hf2⟩:=h2;obtain⟨ao,cap,ts,hv,hT,hTs⟩:=DW (x:=(d0,p0)) hf0 hw0;obtain⟨qv,rfl,hQ,z1,z2,z3,z4,z5,z6,z7⟩:=IA (hval 1 26 v1 rfl rfl) h1 hw1;obtain⟨po,aU,pl,hpv,hP,y1,y2⟩:=IB (x:=(d2,p2)) hf2 hw2;rw[hv]at k0 hval hW' ⊢;rw[hpv]at k2 hval hW' ⊢;clear hA0 hval0;refine(Iy ao po cap aU ts qv pl W hT hQ hP (wK hL) hTs z1 z2 z3 z4 z5 z6 z7 y1 y2).mono λe W' ⟨he,jC⟩=>?_;subst he;exact⟨_,rfl,_,_,_,[],_,[],hW',trodAll_mk1 (shut_bool Tryz.underlying4 _),(trodAll_cons_mk (Below.trod laidOut (by kernel_rfl) (ZZ (by kernel_rfl)) k0 jC lt0) (trodAll_cons_mk (Below.trod laidOut (by kernel_rfl) (ZZ (by kernel_rfl)) k1 jC lt1) (trodAll_cons_mk (Below.trod laidOut (by kernel_rfl) (ZZ (by kernel_rfl)) k2 jC lt2) trodAll_mk0))),rfl,jC.frame _,λh=>by cases h⟩
theorem dx{a b:Bool}(ha:a=true)(hb:b=true):(a&&b)=true:=by rw[ha,hb]; rfl
theorem zJ:joinedFacts Tryz.prog 3 Tryz.f3 Rows.fairsSpec Rows.fairsRow=true:=by unfold joinedFacts;refine dx ?_ FU;refine dx ?_ FT;refine dx ?_ FR;refine dx ?_ (by kernel_rfl);refine dx ?_ FQ;refine dx ?_ FP;refine dx ?_ FO;refine dx ?_ FN;refine dx ?_ FM;refine dx ?_ FL;refine dx ?_ FK;refine dx ?_ FJ;refine dx ?_ FI;refine dx ?_ FH;refine dx ?_ FE;refine dx ?_ FD;refine dx ?_ Fz;refine dx ?_ Fy;refine dx ?_ Fx;refine dx ?_ Fw;refine dx ?_ Fv;refine dx ?_ Fu;refine dx ?_ JB;refine dx ?_ JA;refine dx ?_ Jz;refine dx ?_ Jy;refine dx ?_ Jw;refine dx ?_ Jv;refine dx ?_ Ju;refine dx ?_ Jt;refine dx ?_ Js;exact Jr
theorem DX:Tryz.f3.isInstance Tryz.prog Rows.fairsRow.origin Rows.fairsRow.targs:=ZZ (by kernel_rfl)
theorem DY:Tryz.f3.isWrapper Tryz.prog Rows.fairsRow.wrapper Rows.fairsRow.mainSum:=by unfold Func.isWrapper; first | (rw[Q8 (by decide +kernel)]; kernel_rfl) | (rw[Zf (by decide +kernel)]; exact⟨rfl,rfl⟩)
theorem DZ:Rows.FairsSaid:=
 OpenClaim.holds_of_wide 3 Tryz.f3 rfl rfl rfl rfl rfl rfl rfl ⟨rfl,rfl,rfl,rfl,rfl⟩ rfl rfl rfl rfl rfl zU Tryz.func3 zJ
  DX DY (λos started H enc _=>zI os started H enc)
open Go
theorem fairs_proved:Rows.FairsCardSaid:=
 Claim7.holds_tied_plain_at .later [] [.data] true (true, "b2fbca9e2b85f6e9d5675029b509f8d1cd186381b09bebd426a39a78fe84fe52") false
  DZ (λ_ h=>by cases h) NQ (λ_ h=>by cases h) fairs_row_tie rfl ⟨rfl,rfl⟩ IC rfl
  (λf fn hf hfn=>by
   obtain rfl:f=3:=Option.some.inj (D6.symm.trans hf) |>.symm;obtain rfl:fn=Tryz.f3:=(Option.some.inj (Tryz.func3.symm.trans hfn)).symm;exact⟨D5,λj t ht=>by
    rw[Tryz.params3]at ht;rcases j with _ | _ | _ | j
    .obtain rfl:t=22:=by simpa using ht.symm
     exact NR
    .obtain rfl:t=26:=by simpa using ht.symm
     exact NS
    .obtain rfl:t=27:=by simpa using ht.symm
     exact NT
    .simp at ht⟩)
  IE
#print axioms fairs_proved
