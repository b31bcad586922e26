import Derived.ShutString
import Derived.Test.YtibkmjbegbjgcaaGreatDoorCards
import Derived.Test.YtibkmjbegbjgcaaGreatDoorTie
import Derived.Test.YtibkmjbegbjgcaaGreatDoorS20
import Derived.Test.YtibkmjbegbjgcaaGreatDoorS21
import Derived.Test.YtibkmjbegbjgcaaGreatDoorS22
set_option linter.all false
set_option maxRecDepth 100000
set_option maxHeartbeats 0
namespace Go.Proofs.YtibkmjbegbjgcaaGreatDoor
open Go.ChangeShapes Go.WideShapes Go.ChangeAt Go.RowKit Go.Proofs.Zz
theorem own:ownKnob Tryz.prog.godebug=none:=by kernel_rfl
theorem laidOut:laidOutB Tryz.prog=true:=by kernel_rfl
theorem aaz(os:Os):laidMetH Tryz.prog Rows.cheaperRow.laid ((({ World.holding Tryz.prog os ⟨#[],#[],[]⟩ with heap:=(World.holding Tryz.prog os ⟨#[],#[],[]⟩).heap.modify 0 (λ(o:Obj)=>match o with | .cells _ t frozen=>Obj.cells (#[.int .i64 0,.bool false,.bool false,.bool false,.bool false,.int .i64 0,.bool true,.bool false,.bool false,.bool false,.int .i64 1,.bool false,.bool true,.bool false,.bool false,.int .i64 2,.bool false,.bool true,.bool false,.bool false,.int .i64 2,.bool false,.bool true,.bool true,.bool false,.int .i64 2,.bool false,.bool true,.bool true,.bool false,.int .i64 1,.bool false,.bool false,.bool false,.bool true,.int .i64 1,.bool false,.bool false,.bool false,.bool false,.int .i64 1,.bool false,.bool false,.bool false,.bool false,.int .i64 1,.bool false,.bool false,.bool false,.bool false,.int .i64 1,.bool false,.bool false,.bool false,.bool false]:Array Value) t frozen | o=>o) }:World)).forCall (λ_ _=>0) ⟨#[],#[.slice none 0 0,.int .i64 0,.int .i64 0,.int .i64 0,.slice none 0 0],[]⟩).memory:=
 laidMetH_of_parts (laidMet_of_run' 8 (by kernel_rfl) (by kernel_rfl)) (by kernel_rfl)
theorem Ct(os:Os)(started:os.Started)(H:Type)(enc:TypeId × Value->H) :
  ReturnsInHanded {} Tryz.checked os 3 .any (λw args=>(Rows.cheaperSpec.pre enc Tryz.prog Tryz.f3 Rows.cheaperRow.domain false w args/\laidMetH Tryz.prog Rows.cheaperRow.laid w)/\sizedMet enc Tryz.prog Tryz.f3 (OpenSpec.ofChange Rows.cheaperSpec) false w args)
   (Rows.cheaperSpec.post enc Tryz.prog Tryz.f3 false true false false):=by
 refine returnsInHanded_of_change_and (C:=Tryz.checked) (X:=λw _=>laidMetH Tryz.prog Rows.cheaperRow.laid w) (λ_ _ _ hh h=>h.of_heap hh) own started (by kernel_rfl) Tryz.func3
  (ChangeSpec.witness_at (enc:=enc) (C:=Tryz.checked) (os:=os) (X:=λw _=>laidMetH Tryz.prog Rows.cheaperRow.laid w) false (({ World.holding Tryz.prog os ⟨#[],#[],[]⟩ with heap:=(World.holding Tryz.prog os ⟨#[],#[],[]⟩).heap.modify 0 (λ(o:Obj)=>match o with | .cells _ t frozen=>Obj.cells (#[.int .i64 0,.bool false,.bool false,.bool false,.bool false,.int .i64 0,.bool true,.bool false,.bool false,.bool false,.int .i64 1,.bool false,.bool true,.bool false,.bool false,.int .i64 2,.bool false,.bool true,.bool false,.bool false,.int .i64 2,.bool false,.bool true,.bool true,.bool false,.int .i64 2,.bool false,.bool true,.bool true,.bool false,.int .i64 1,.bool false,.bool false,.bool false,.bool true,.int .i64 1,.bool false,.bool false,.bool false,.bool false,.int .i64 1,.bool false,.bool false,.bool false,.bool false,.int .i64 1,.bool false,.bool false,.bool false,.bool false,.int .i64 1,.bool false,.bool false,.bool false,.bool false]:Array Value) t frozen | o=>o) }:World)) #[.slice none 0 0,.int .i64 0,.int .i64 0,.int .i64 0,.slice none 0 0] 8 rfl (by kernel_rfl) (by kernel_rfl) (by kernel_rfl) (by kernel_rfl) (by kernel_rfl) (aaz os)) ?_
 intro W base args ds gs before hval0 hW hcnd hsz0 hL _;have hval:∀ (j:Nat) t v,Tryz.f3.params[j]? = some t->args[j]? = some v->Value.okWide Tryz.prog W .any base t v:=hval0;have hW':=hW;obtain⟨p,q,hA0,hV,rfl,hfz,hnd⟩:=hW;have hA:DataW.TrodAll enc Tryz.prog W 0 (λ_=>true) true Tryz.f3.params.toList args.toList ds p:=hA0;have hsz:(DataW.weightsEach Tryz.prog (Tryz.f3.params.toList++Rows.cheaperSpec.plain.varTypes Tryz.prog) (ds++gs)).all (·<=reachBytes)=true:=hsz0;rw[Tryz.params3]at hA hval hsz;obtain⟨v0,vs0,d0,ds0,p0,q0,hargs,rfl,rfl,h0,r0⟩:=trodAll_cons hA;obtain⟨v1,vs1,d1,ds1,p1,q1,rfl,rfl,rfl,h1,r1⟩:=trodAll_cons r0;obtain⟨v2,vs2,d2,ds2,p2,q2,rfl,rfl,rfl,h2,r2⟩:=trodAll_cons r1;obtain⟨v3,vs3,d3,ds3,p3,q3,rfl,rfl,rfl,h3,r3⟩:=trodAll_cons r2;obtain⟨v4,vs4,d4,ds4,p4,q4,rfl,rfl,rfl,h4,r4⟩:=trodAll_cons r3;obtain⟨rfl,rfl,rfl⟩:=trodAll_nil r4;obtain rfl:args=#[v0,v1,v2,v3,v4]:=by cases args; simp_all
 obtain⟨rfl,rfl⟩:=trodVars_none hV;have k0:=h0;have k1:=h1;have k2:=h2;have k3:=h3;have k4:=h4;have lt0:∀ x∈p0,x.block<W.heap.size:=by obtain⟨m,hm⟩:=k0; exact DataW.trod_lt m _ _ _ hm
 have lt1:∀ x∈p1,x.block<W.heap.size:=by obtain⟨m,hm⟩:=k1; exact DataW.trod_lt m _ _ _ hm
 have lt2:∀ x∈p2,x.block<W.heap.size:=by obtain⟨m,hm⟩:=k2; exact DataW.trod_lt m _ _ _ hm
 have lt3:∀ x∈p3,x.block<W.heap.size:=by obtain⟨m,hm⟩:=k3; exact DataW.trod_lt m _ _ _ hm
 have lt4:∀ x∈p4,x.block<W.heap.size:=by obtain⟨m,hm⟩:=k4; exact DataW.trod_lt m _ _ _ hm
 have hall:=Q7.1 hsz;have hw0:∀ n∈d0.weights Tryz.prog 22,n<=reachBytes:=λn hn=>Jj (hall n (DataW.weights_mem_each (j:=0) rfl rfl n hn));have hw4:∀ n∈d4.weights Tryz.prog 22,n<=reachBytes:=λn hn=>Jj (hall n (DataW.weights_mem_each (j:=4) rfl rfl n hn));obtain⟨n1,rfl⟩:=okWide_int Tryz.underlying3 (hval 1 3 v1 rfl rfl);have w1:(Lit.int .i64 n1).wf=true:=by obtain⟨f,hf⟩:=h1;obtain⟨n,hn,_,hwf⟩:=DataW.trod_int Tryz.underlying3 hf;simp[Value.cells]at hn;rw[hn]; exact hwf
 obtain⟨n2,rfl⟩:=okWide_int Tryz.underlying3 (hval 2 3 v2 rfl rfl);have w2:(Lit.int .i64 n2).wf=true:=by obtain⟨f,hf⟩:=h2;obtain⟨n,hn,_,hwf⟩:=DataW.trod_int Tryz.underlying3 hf;simp[Value.cells]at hn;rw[hn]; exact hwf
 obtain⟨n3,rfl⟩:=okWide_int Tryz.underlying3 (hval 3 3 v3 rfl rfl);have w3:(Lit.int .i64 n3).wf=true:=by obtain⟨f,hf⟩:=h3;obtain⟨n,hn,_,hwf⟩:=DataW.trod_int Tryz.underlying3 hf;simp[Value.cells]at hn;rw[hn]; exact hwf
 obtain⟨a0,aBa,cap0,rfl⟩:=okWide_slice Tryz.underlying22 (hval 0 22 v0 rfl rfl);obtain⟨a4,aBb,cap4,rfl⟩:=okWide_slice Tryz.underlying22 (hval 4 22 v4 rfl rfl);obtain⟨f0,hf0⟩:=h0;obtain⟨f4,hf4⟩:=h4;obtain⟨lo,lc,l,hv,hI,hR,hB⟩:=Ld (x:=(d0,p0)) hf0 (hval 0 22 _ rfl rfl) hw0;obtain⟨po,pc,ps,hpv,hP,hPR,hPB⟩:=Ld (x:=(d4,p4)) hf4 (hval 4 22 _ rfl rfl) hw4;rw[hv]at k0 hval hW' ⊢;rw[hpv]at k4 hval hW' ⊢;clear hA0 hval0;refine(Lb lo lc l n1 n2 n3 po pc ps W hI hR hB hP hPB (Cs hL) (adg w1) (adg w2) (adg w3)).mono λe W' ⟨he,bel⟩=>?_;subst he;exact⟨_,rfl,_,_,_,[],_,[],hW',trodAll_mk1 (shut_bool Tryz.underlying4 _),(trodAll_cons_mk (Below.trod laidOut (by kernel_rfl) (Jj (by kernel_rfl)) k0 bel lt0) (trodAll_cons_mk (Below.trod laidOut (by kernel_rfl) (Jj (by kernel_rfl)) k1 bel lt1) (trodAll_cons_mk (Below.trod laidOut (by kernel_rfl) (Jj (by kernel_rfl)) k2 bel lt2) (trodAll_cons_mk (Below.trod laidOut (by kernel_rfl) (Jj (by kernel_rfl)) k3 bel lt3) (trodAll_cons_mk (Below.trod laidOut (by kernel_rfl) (Jj (by kernel_rfl)) k4 bel lt4) trodAll_mk0))))),rfl,bel.frame _,λh=>by cases h⟩
theorem fu{a b:Bool}(ha:a=true)(hb:b=true):(a&&b)=true:=by rw[ha,hb]; rfl
theorem Cu:joinedFacts Tryz.prog 3 Tryz.f3 Rows.cheaperSpec Rows.cheaperRow=true:=by unfold joinedFacts;refine fu ?_ Ic;refine fu ?_ Ib;refine fu ?_ Ia;refine fu ?_ (by kernel_rfl);refine fu ?_ H9;refine fu ?_ H8;refine fu ?_ H7;refine fu ?_ H6;refine fu ?_ H5;refine fu ?_ Hz;refine fu ?_ Hy;refine fu ?_ Hw;refine fu ?_ Hu;refine fu ?_ Ht;refine fu ?_ Hr;refine fu ?_ Ho;refine fu ?_ Hm;refine fu ?_ Hl;refine fu ?_ Hg;refine fu ?_ Hf;refine fu ?_ He;refine fu ?_ Hd;refine fu ?_ Mc;refine fu ?_ L9;refine fu ?_ L8;refine fu ?_ L6;refine fu ?_ LZ;refine fu ?_ LY;refine fu ?_ LX;refine fu ?_ LW;refine fu ?_ LV;exact LU
theorem Gz:Tryz.f3.isInstance Tryz.prog Rows.cheaperRow.origin Rows.cheaperRow.targs:=Jj (by kernel_rfl)
theorem GD:Tryz.f3.isWrapper Tryz.prog Rows.cheaperRow.wrapper Rows.cheaperRow.mainSum:=by unfold Func.isWrapper; first | (rw[Zb (by decide +kernel)]; kernel_rfl) | (rw[Zg (by decide +kernel)]; exact⟨rfl,rfl⟩)
theorem GG:Rows.CheaperSaid:=
 OpenClaim.holds_of_wide 3 Tryz.f3 rfl rfl rfl rfl rfl rfl rfl ⟨rfl,rfl,rfl,rfl,rfl⟩ rfl rfl rfl rfl rfl CO Tryz.func3 Cu
  Gz GD (λos started H enc _=>Ct os started H enc)
open Go
theorem cheaper_proved:Rows.CheaperCardSaid:=
 Claim7.holds_tied_plain_at .later [] [.data] true (true, "0f8c6cdbe57c6017b2707d9e619bb81ca1e7ebbb356a96a1be3a2ea7bcaf1587") false
  GG (λ_ h=>by cases h) adh (λ_ h=>by cases h) cheaper_row_tie rfl ⟨rfl,rfl⟩ UH rfl
  (λf fn hf hfn=>by
   obtain rfl:f=3:=Option.some.inj (OX.symm.trans hf) |>.symm;obtain rfl:fn=Tryz.f3:=(Option.some.inj (Tryz.func3.symm.trans hfn)).symm;exact⟨OW,λj t ht=>by
    rw[Tryz.params3]at ht;rcases j with _ | _ | _ | _ | _ | j
    .obtain rfl:t=22:=by simpa using ht.symm
     exact PQ
    .obtain rfl:t=3:=by simpa using ht.symm
     exact GH
    .obtain rfl:t=3:=by simpa using ht.symm
     exact GH
    .obtain rfl:t=3:=by simpa using ht.symm
     exact GH
    .obtain rfl:t=22:=by simpa using ht.symm
     exact PQ
    .simp at ht⟩)
  UI
#print axioms cheaper_proved
