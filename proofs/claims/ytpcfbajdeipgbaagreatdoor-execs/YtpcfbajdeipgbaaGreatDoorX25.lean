import Derived.ShutString
import Derived.Test.YtpcfbajdeipgbaaGreatDoorCards
import Derived.Test.YtpcfbajdeipgbaaGreatDoorTie
import Derived.Test.YtpcfbajdeipgbaaGreatDoorX23
import Derived.Test.YtpcfbajdeipgbaaGreatDoorX24
set_option linter.all false
set_option maxRecDepth 100000
set_option maxHeartbeats 0
namespace Go.Proofs.YtpcfbajdeipgbaaGreatDoor
open Go.ChangeShapes Go.WideShapes Go.ChangeAt Go.RowKit Go.Proofs.Zz
theorem own:ownKnob Tryz.prog.godebug=none:=by kernel_rfl
theorem laidOut:laidOutB Tryz.prog=true:=by kernel_rfl
theorem ahO(os:Os):laidMetH Tryz.prog Rows.execsRow.laid ((({ World.holding Tryz.prog os ⟨#[],#[],[]⟩ with heap:=(World.holding Tryz.prog os ⟨#[],#[],[]⟩).heap.modify 0 (λ(o:Obj)=>match o with | .cells _ t frozen=>Obj.cells (#[.int .i64 0,.bool false,.bool false,.bool false,.bool false,.int .i64 0,.bool true,.bool false,.bool false,.bool false,.int .i64 1,.bool false,.bool true,.bool false,.bool false,.int .i64 2,.bool false,.bool true,.bool false,.bool false,.int .i64 2,.bool false,.bool true,.bool true,.bool false,.int .i64 2,.bool false,.bool true,.bool true,.bool false,.int .i64 1,.bool false,.bool false,.bool false,.bool true,.int .i64 1,.bool false,.bool false,.bool false,.bool false,.int .i64 1,.bool false,.bool false,.bool false,.bool false,.int .i64 1,.bool false,.bool false,.bool false,.bool false,.int .i64 1,.bool false,.bool false,.bool false,.bool false]:Array Value) t frozen | o=>o) }:World)).forCall (λ_ _=>0) ⟨#[],#[.slice none 0 0,.agg #[.slice none 0 0,.slice none 0 0,.bool false,.slice none 0 0,.slice none 0 0,.slice none 0 0,.slice none 0 0],.slice none 0 0,.slice none 0 0],[]⟩).memory:=
 laidMetH_of_parts (laidMet_of_run' 8 (by kernel_rfl) (by kernel_rfl)) (by kernel_rfl)
theorem O3(os:Os)(started:os.Started)(H:Type)(enc:TypeId × Value->H) :
  ReturnsInHanded {} Tryz.checked os 3 .any (λw args=>(Rows.execsSpec.pre enc Tryz.prog Tryz.f3 Rows.execsRow.domain false w args/\laidMetH Tryz.prog Rows.execsRow.laid w)/\sizedMet enc Tryz.prog Tryz.f3 (OpenSpec.ofChange Rows.execsSpec) false w args)
   (Rows.execsSpec.post enc Tryz.prog Tryz.f3 false true false false):=by
 refine returnsInHanded_of_change_and (C:=Tryz.checked) (X:=λw _=>laidMetH Tryz.prog Rows.execsRow.laid w) (λ_ _ _ hh h=>h.of_heap hh) own started (by kernel_rfl) Tryz.func3
  (ChangeSpec.witness_at (enc:=enc) (C:=Tryz.checked) (os:=os) (X:=λw _=>laidMetH Tryz.prog Rows.execsRow.laid w) false (({ World.holding Tryz.prog os ⟨#[],#[],[]⟩ with heap:=(World.holding Tryz.prog os ⟨#[],#[],[]⟩).heap.modify 0 (λ(o:Obj)=>match o with | .cells _ t frozen=>Obj.cells (#[.int .i64 0,.bool false,.bool false,.bool false,.bool false,.int .i64 0,.bool true,.bool false,.bool false,.bool false,.int .i64 1,.bool false,.bool true,.bool false,.bool false,.int .i64 2,.bool false,.bool true,.bool false,.bool false,.int .i64 2,.bool false,.bool true,.bool true,.bool false,.int .i64 2,.bool false,.bool true,.bool true,.bool false,.int .i64 1,.bool false,.bool false,.bool false,.bool true,.int .i64 1,.bool false,.bool false,.bool false,.bool false,.int .i64 1,.bool false,.bool false,.bool false,.bool false,.int .i64 1,.bool false,.bool false,.bool false,.bool false,.int .i64 1,.bool false,.bool false,.bool false,.bool false]:Array Value) t frozen | o=>o) }:World)) #[.slice none 0 0,.agg #[.slice none 0 0,.slice none 0 0,.bool false,.slice none 0 0,.slice none 0 0,.slice none 0 0,.slice none 0 0],.slice none 0 0,.slice none 0 0] 8 rfl (by kernel_rfl) (by kernel_rfl) (by kernel_rfl) (by kernel_rfl) (by kernel_rfl) (ahO os)) ?_
 intro W base args ds gs before hval0 hW hcnd hsz0 hL _;have hval:∀ (j:Nat) t v,Tryz.f3.params[j]? = some t->args[j]? = some v->Value.okWide Tryz.prog W .any base t v:=hval0;have hW':=hW;obtain⟨p,q,hA0,hV,rfl,hfz,hnd⟩:=hW;have hA:DataW.TrodAll enc Tryz.prog W 0 (λ_=>true) true Tryz.f3.params.toList args.toList ds p:=hA0;have hsz:(DataW.weightsEach Tryz.prog (Tryz.f3.params.toList++Rows.execsSpec.plain.varTypes Tryz.prog) (ds++gs)).all (·<=reachBytes)=true:=hsz0;rw[Tryz.params3]at hA hval hsz;obtain⟨v0,vs0,d0,ds0,p0,q0,hargs,rfl,rfl,h0,r0⟩:=trodAll_cons hA;obtain⟨v1,vs1,d1,ds1,p1,q1,rfl,rfl,rfl,h1,r1⟩:=trodAll_cons r0;obtain⟨v2,vs2,d2,ds2,p2,q2,rfl,rfl,rfl,h2,r2⟩:=trodAll_cons r1;obtain⟨v3,vs3,d3,ds3,p3,q3,rfl,rfl,rfl,h3,r3⟩:=trodAll_cons r2;obtain⟨rfl,rfl,rfl⟩:=trodAll_nil r3;obtain rfl:args=#[v0,v1,v2,v3]:=by cases args; simp_all
 obtain⟨rfl,rfl⟩:=trodVars_none hV;have k0:=h0;have k1:=h1;have k2:=h2;have k3:=h3;have lt0:∀ x∈p0,x.block<W.heap.size:=by obtain⟨m,hm⟩:=k0; exact DataW.trod_lt m _ _ _ hm
 have lt1:∀ x∈p1,x.block<W.heap.size:=by obtain⟨m,hm⟩:=k1; exact DataW.trod_lt m _ _ _ hm
 have lt2:∀ x∈p2,x.block<W.heap.size:=by obtain⟨m,hm⟩:=k2; exact DataW.trod_lt m _ _ _ hm
 have lt3:∀ x∈p3,x.block<W.heap.size:=by obtain⟨m,hm⟩:=k3; exact DataW.trod_lt m _ _ _ hm
 have hall:=Qn.1 hsz;have hw0:∀ n∈d0.weights Tryz.prog 22,n<=reachBytes:=λn hn=>Zn (hall n (Jy (j:=0) rfl rfl n hn));have hw1:∀ n∈d1.weights Tryz.prog 26,n<=reachBytes:=λn hn=>Zn (hall n (Jy (j:=1) rfl rfl n hn));have hw2:∀ n∈d2.weights Tryz.prog 27,n<=reachBytes:=λn hn=>Zn (hall n (Jy (j:=2) rfl rfl n hn));have hw3:∀ n∈d3.weights Tryz.prog 28,n<=reachBytes:=λn hn=>Zn (hall n (Jy (j:=3) rfl rfl n hn));obtain⟨a0,aJj,cap0,rfl⟩:=okWide_slice Tryz.underlying22 (hval 0 22 v0 rfl rfl);obtain⟨a2,aJk,cap2,rfl⟩:=okWide_slice Tryz.underlying27 (hval 2 27 v2 rfl rfl);obtain⟨a3,aJl,af4,rfl⟩:=okWide_slice Tryz.underlying28 (hval 3 28 v3 rfl rfl);obtain⟨f0,hf0⟩:=h0;obtain⟨f2,hf2⟩:=h2;obtain⟨f3,hf3⟩:=h3;obtain⟨ao,cap,ts,hv,hT,hTs⟩:=Yy (x:=(d0,p0)) hf0 hw0;obtain⟨qv,rfl,hQ,z1,z2,z3,z4,z5,z6,z7⟩:=adQ (hval 1 26 v1 rfl rfl) h1 hw1;obtain⟨po,pcap,pl,hpv,hP,x1,x2⟩:=adR (x:=(d2,p2)) hf2 hw2;obtain⟨d,fB,db,hdv,hD,y1,y2,y3⟩:=aoI (x:=(d3,p3)) hf3 hw3;rw[hv]at k0 hval hW' ⊢;rw[hpv]at k2 hval hW' ⊢;rw[hdv]at k3 hval hW' ⊢;clear hA0 hval0;refine(adO ao d po cap fB pcap ts qv db pl W hT hQ hD hP (JS hL) hTs z1 z2 z3 z4 z5 z6 z7 y1 y2 y3 x1 x2).mono λe W' ⟨he,qE⟩=>?_;subst he;exact⟨_,rfl,_,_,_,[],_,[],hW',trodAll_mk1 (shut_bool Tryz.underlying4 _),(trodAll_cons_mk (Below.trod laidOut (by kernel_rfl) (Zn (by kernel_rfl)) k0 qE lt0) (trodAll_cons_mk (Below.trod laidOut (by kernel_rfl) (Zn (by kernel_rfl)) k1 qE lt1) (trodAll_cons_mk (Below.trod laidOut (by kernel_rfl) (Zn (by kernel_rfl)) k2 qE lt2) (trodAll_cons_mk (Below.trod laidOut (by kernel_rfl) (Zn (by kernel_rfl)) k3 qE lt3) trodAll_mk0)))),rfl,qE.frame _,λh=>by cases h⟩
theorem iG{a b:Bool}(ha:a=true)(hb:b=true):(a&&b)=true:=by rw[ha,hb]; rfl
theorem O4:joinedFacts Tryz.prog 3 Tryz.f3 Rows.execsSpec Rows.execsRow=true:=by unfold joinedFacts;refine iG ?_ aa6;refine iG ?_ aa5;refine iG ?_ aa4;refine iG ?_ (by kernel_rfl);refine iG ?_ aa3;refine iG ?_ aa2;refine iG ?_ aa1;refine iG ?_ aa0;refine iG ?_ aaZ;refine iG ?_ aaY;refine iG ?_ aaX;refine iG ?_ aaW;refine iG ?_ aaV;refine iG ?_ aaU;refine iG ?_ aaT;refine iG ?_ aaS;refine iG ?_ aaR;refine iG ?_ aaQ;refine iG ?_ aaP;refine iG ?_ aaO;refine iG ?_ aaN;refine iG ?_ aaM;refine iG ?_ aeL;refine iG ?_ aeK;refine iG ?_ aeJ;refine iG ?_ aeI;refine iG ?_ aeH;refine iG ?_ aeG;refine iG ?_ aeF;refine iG ?_ aeE;refine iG ?_ aeD;exact aeC
theorem Yz:Tryz.f3.isInstance Tryz.prog Rows.execsRow.origin Rows.execsRow.targs:=Zn (by kernel_rfl)
theorem YA:Tryz.f3.isWrapper Tryz.prog Rows.execsRow.wrapper Rows.execsRow.mainSum:=by unfold Func.isWrapper; first | (rw[Qu (by decide +kernel)]; kernel_rfl) | (rw[QC (by decide +kernel)]; exact⟨rfl,rfl⟩)
theorem YB:Rows.ExecsSaid:=
 OpenClaim.holds_of_wide 3 Tryz.f3 rfl rfl rfl rfl rfl rfl rfl ⟨rfl,rfl,rfl,rfl,rfl⟩ rfl rfl rfl rfl rfl Pp Tryz.func3 O4
  Yz YA (λos started H enc _=>O3 os started H enc)
open Go
theorem execs_proved:Rows.ExecsCardSaid:=
 Claim7.holds_tied_plain_at .later [] [.data] true (true, "eedbea6019e75bea6b87955c49c7d316b813b02485ee51d8814a10e2530d65cf") false
  YB (λ_ h=>by cases h) akY (λ_ h=>by cases h) execs_row_tie rfl ⟨rfl,rfl⟩ adS rfl
  (λf fn hf hfn=>by
   obtain rfl:f=3:=Option.some.inj (YD.symm.trans hf) |>.symm;obtain rfl:fn=Tryz.f3:=(Option.some.inj (Tryz.func3.symm.trans hfn)).symm;exact⟨YC,λj t ht=>by
    rw[Tryz.params3]at ht;rcases j with _ | _ | _ | _ | j
    .obtain rfl:t=22:=by simpa using ht.symm
     exact akZ
    .obtain rfl:t=26:=by simpa using ht.symm
     exact ak0
    .obtain rfl:t=27:=by simpa using ht.symm
     exact ak1
    .obtain rfl:t=28:=by simpa using ht.symm
     exact ak2
    .simp at ht⟩)
  adT
#print axioms execs_proved
