import Derived.LaidMore
import Derived.ShutString
import Derived.Stop.Joined
import Derived.Test.YtbcgekghfgcakaaGreatDoorF45
set_option linter.all false
set_option maxRecDepth 100000
set_option maxHeartbeats 16000000
namespace Go.Proofs.YtbcgekghfgcakaaGreatDoor
open Go.ChangeShapes Go.WideShapes Go.ChangeAt Go.RowKit Go.Proofs.Zz
theorem own:ownKnob Tryz.prog.godebug=none:=by kernel_rfl
theorem laidOut:laidOutB Tryz.prog=true:=by kernel_rfl
theorem YC (os:Os) (args:Array Value):laidMetH Tryz.prog Rows.pausedRow.laid ((World.doorLaid Tryz.prog 77 os).forCall (fun _ _=>0) ⟨#[],args,[]⟩).memory:=
 laidMetH_of_parts3 (fuel:=8) (laidMet_of_run' 8 (by kernel_rfl) (by kernel_rfl)) (by kernel_rfl) (by kernel_rfl)
theorem CG {H:Type} {enc:TypeId × Value->H} {C:Checked} {os:Os} {f:FuncId} {fn:Func} {s:ChangeSpec} {conds:List PathCond} {apart fresh handsOn again:Bool} {X:World->Array Value->Prop} (hX:∀ (w w':World) (args:Array Value),w.heap=w'.heap->X w args->X w' args)
  (own:ownKnob C.prog.godebug=none) (started:os.Started) (noInit:C.prog.inits.idxOf? f=none) (hfn:C.prog.funcs[f]? = some fn)
  (witness:∃ (w:World) (tape:Tape) (i:Input),w.os=os/\(w.forCall tape i).Shaped C.prog/\i.vars=[]/\Input.okWide C.prog (w.forCall tape i) .any w.heap.size f i/\((s.pre enc C.prog fn conds apart (w.forCall tape i).memory i.args/\X (w.forCall tape i).memory i.args)/\sizedMet enc C.prog fn (OpenSpec.ofChange s) apart (w.forCall tape i).memory i.args)/\({}:Assume).holds C.prog (lone (Frame.enter C.prog f i.args .normal) [] (w.forCall tape i)))
  (contract:∀ (W:World) (base:Nat) (args:Array Value) (ds gs:List (DataW H)) (before:List MemPlace),(∀ (j:Nat) t v,fn.params[j]? = some t->args[j]? = some v->Value.okWide C.prog W .any base t v)->DataW.Whole enc C.prog fn.params.toList s.vars apart W args.toList ds gs before->(DataW.weightsEach C.prog (fn.params.toList++s.plain.varTypes C.prog) (ds++gs)).all (·<=reachBytes)=true->X W args->W.ShapedOpen C.prog->Calls C.prog f args W fun e W'=>∃ v,e=.returned v/\s.post enc C.prog fn apart fresh handsOn again W args v W') :
  ReturnsInHanded {} C os f .any (fun w args=>(s.pre enc C.prog fn conds apart w args/\X w args)/\sizedMet enc C.prog fn (OpenSpec.ofChange s) apart w args) (s.post enc C.prog fn apart fresh handsOn again):=by
 refine returnsInHanded_of_calls own started noInit witness ?_;intro w tape i _ hsh _ hok hpre _;obtain⟨_,_,_,fn',hfn',_,_,_,_,hval⟩:=hok;obtain rfl:fn' = fn:=XX (hfn'.symm.trans hfn);obtain⟨⟨⟨ds,gs,before,hw,_⟩,hx⟩,hz⟩:=hpre;refine (contract (w.forCall tape i) w.heap.size i.args ds gs before hval (DataW.Whole.of_heap (w':=w.forCall tape i) (by rfl) hw) (hz.weights hw) (hX _ _ _ (by rfl) hx) hsh).mono fun e W' ⟨v,he,hp⟩=>?_
 subst he;exact ChangeSpec.post_blind hp
theorem CJ (os:Os) (started:os.Started) (H:Type) (enc:TypeId × Value->H) :
  ReturnsInHanded {} Tryz.checked os 3 .any (fun w args=>(Rows.pausedSpec.pre enc Tryz.prog Tryz.f3 Rows.pausedRow.domain false w args/\laidMetH Tryz.prog Rows.pausedRow.laid w)/\sizedMet enc Tryz.prog Tryz.f3 (OpenSpec.ofChange Rows.pausedSpec) false w args)
   (Rows.pausedSpec.post enc Tryz.prog Tryz.f3 false true false false):=by
 refine CG (C:=Tryz.checked) (X:=fun w _=>laidMetH Tryz.prog Rows.pausedRow.laid w) (fun _ _ _ hh h=>h.of_heap hh) own started (by kernel_rfl) Tryz.func3
  (ChangeSpec.witness_shaped (enc:=enc) (C:=Tryz.checked) (os:=os) (X:=fun w _=>laidMetH Tryz.prog Rows.pausedRow.laid w) false (World.doorLaid Tryz.prog 77 os) #[.slice none 0 0,.int .i64 0,.int .i64 0,.int .i64 0,.slice none 0 0,.slice none 0 0] 8 rfl (World.shaped_of_RefB (by kernel_rfl) (by kernel_rfl)) (by kernel_rfl) (by kernel_rfl) (by kernel_rfl) (YC os _)) ?_
 intro W base args ds gs before hval0 hW hsz0 hL hSH;have hval:∀ (j:Nat) t v,Tryz.f3.params[j]? = some t->args[j]? = some v->Value.okWide Tryz.prog W .any base t v:=hval0;have hW':=hW;obtain⟨p,q,hA0,hV,rfl,hfz,hnd⟩:=hW;have hA:DataW.TrodAll enc Tryz.prog W 0 (fun _=>true) true Tryz.f3.params.toList args.toList ds p:=hA0;have hsz:(DataW.weightsEach Tryz.prog (Tryz.f3.params.toList++Rows.pausedSpec.plain.varTypes Tryz.prog) (ds++gs)).all (·<=reachBytes)=true:=hsz0;rw[Tryz.params3] at hA hval hsz;obtain⟨v0,vs0,d0,ds0,p0,q0,hargs,rfl,rfl,h0,r0⟩:=trodAll_cons hA;obtain⟨v1,vs1,d1,ds1,p1,q1,rfl,rfl,rfl,h1,r1⟩:=trodAll_cons r0;obtain⟨v2,vs2,d2,ds2,p2,q2,rfl,rfl,rfl,h2,r2⟩:=trodAll_cons r1;obtain⟨v3,vs3,d3,ds3,p3,q3,rfl,rfl,rfl,h3,r3⟩:=trodAll_cons r2;obtain⟨v4,vs4,d4,ds4,p4,q4,rfl,rfl,rfl,h4,r4⟩:=trodAll_cons r3;obtain⟨v5,vs5,d5,ds5,p5,q5,rfl,rfl,rfl,h5,r5⟩:=trodAll_cons r4;obtain⟨rfl,rfl,rfl⟩:=trodAll_nil r5;obtain rfl:args=#[v0,v1,v2,v3,v4,v5]:=by cases args; simp_all
 obtain⟨rfl,rfl⟩:=trodVars_none hV;have k0:=h0;have k1:=h1;have k2:=h2;have k3:=h3;have k4:=h4;have k5:=h5;have lt0:∀ x∈p0,x.block<W.heap.size:=by obtain⟨m,hm⟩:=k0; exact DataW.trod_lt m _ _ _ hm
 have lt1:∀ x∈p1,x.block<W.heap.size:=by obtain⟨m,hm⟩:=k1; exact DataW.trod_lt m _ _ _ hm
 have lt2:∀ x∈p2,x.block<W.heap.size:=by obtain⟨m,hm⟩:=k2; exact DataW.trod_lt m _ _ _ hm
 have lt3:∀ x∈p3,x.block<W.heap.size:=by obtain⟨m,hm⟩:=k3; exact DataW.trod_lt m _ _ _ hm
 have lt4:∀ x∈p4,x.block<W.heap.size:=by obtain⟨m,hm⟩:=k4; exact DataW.trod_lt m _ _ _ hm
 have lt5:∀ x∈p5,x.block<W.heap.size:=by obtain⟨m,hm⟩:=k5; exact DataW.trod_lt m _ _ _ hm
 have hall:=Qn.1 hsz;have hw0:∀ n∈d0.weights Tryz.prog 22,n<=reachBytes:=fun n hn=>XJ (hall n (DataW.weights_mem_each (j:=0) rfl rfl n hn))
 have hw4:∀ n∈d4.weights Tryz.prog 22,n<=reachBytes:=fun n hn=>XJ (hall n (DataW.weights_mem_each (j:=4) rfl rfl n hn))
 have uL:∀ n∈d5.weights Tryz.prog 22,n<=reachBytes:=fun n hn=>XJ (hall n (DataW.weights_mem_each (j:=5) rfl rfl n hn))
 obtain⟨n1,rfl⟩:=okWide_int Tryz.underlying3 (hval 1 3 v1 rfl rfl);have w1:(Lit.int .i64 n1).wf=true:=by
  obtain⟨f,hf⟩:=h1;obtain⟨n,hn,_,hwf⟩:=DataW.trod_int Tryz.underlying3 hf;simp[Value.cells] at hn;rw[hn]; exact hwf
 obtain⟨n2,rfl⟩:=okWide_int Tryz.underlying3 (hval 2 3 v2 rfl rfl);have w2:(Lit.int .i64 n2).wf=true:=by
  obtain⟨f,hf⟩:=h2;obtain⟨n,hn,_,hwf⟩:=DataW.trod_int Tryz.underlying3 hf;simp[Value.cells] at hn;rw[hn]; exact hwf
 obtain⟨n3,rfl⟩:=okWide_int Tryz.underlying3 (hval 3 3 v3 rfl rfl);have w3:(Lit.int .i64 n3).wf=true:=by
  obtain⟨f,hf⟩:=h3;obtain⟨n,hn,_,hwf⟩:=DataW.trod_int Tryz.underlying3 hf;simp[Value.cells] at hn;rw[hn]; exact hwf
 obtain⟨a0,axW,cap0,rfl⟩:=okWide_slice Tryz.underlying22 (hval 0 22 v0 rfl rfl);obtain⟨a4,axX,cap4,rfl⟩:=okWide_slice Tryz.underlying22 (hval 4 22 v4 rfl rfl);obtain⟨a5,axY,cap5,rfl⟩:=okWide_slice Tryz.underlying22 (hval 5 22 v5 rfl rfl);obtain⟨f0,hf0⟩:=h0;obtain⟨f4,hf4⟩:=h4;obtain⟨f5,Fj⟩:=h5;obtain⟨lo,lc,l,hv,hI,hR,hB⟩:=Bv (x:=(d0,p0)) hf0 (hval 0 22 _ rfl rfl) hw0;obtain⟨po,pc,ps,hpv,hP,hPR,hPB⟩:=Bv (x:=(d4,p4)) hf4 (hval 4 22 _ rfl rfl) hw4;obtain⟨mo,mc,ms,hmv,hM,hMR,hMB⟩:=Bv (x:=(d5,p5)) Fj (hval 5 22 _ rfl rfl) uL;rw[hv] at k0 hval hW' ⊢;rw[hpv] at k4 hval hW' ⊢;rw[hmv] at k5 hval hW' ⊢;clear hA0 hval0;refine (NU lo lc l n1 n2 n3 po pc ps mo mc ms W hI hR hB hP hPB hM hMB (Bu hL) (F6 hL) (F7 hSH) (acs w1) (acs w2) (acs w3)).mono fun e W' ⟨he,TR⟩=>?_
 subst he;exact⟨_,rfl,_,_,_,[],_,[],hW',trodAll_mk1 (shut_bool Tryz.underlying4 _),(trodAll_cons_mk (Below.trod laidOut (by kernel_rfl) (XJ (by kernel_rfl)) k0 TR lt0) (trodAll_cons_mk (Below.trod laidOut (by kernel_rfl) (XJ (by kernel_rfl)) k1 TR lt1) (trodAll_cons_mk (Below.trod laidOut (by kernel_rfl) (XJ (by kernel_rfl)) k2 TR lt2) (trodAll_cons_mk (Below.trod laidOut (by kernel_rfl) (XJ (by kernel_rfl)) k3 TR lt3) (trodAll_cons_mk (Below.trod laidOut (by kernel_rfl) (XJ (by kernel_rfl)) k4 TR lt4) (trodAll_cons_mk (Below.trod laidOut (by kernel_rfl) (XJ (by kernel_rfl)) k5 TR lt5) trodAll_mk0)))))),rfl,TR.frame _,fun h=>by cases h⟩
