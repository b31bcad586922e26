import Derived.Laws.MakeOwn
import Derived.Test.YtlpbelhfpoilpaaGreatDoorC12
import Derived.Test.YtlpbelhfpoilpaaGreatDoorC21
import Derived.Test.YtlpbelhfpoilpaaGreatDoorC25
import Derived.Test.YtlpbelhfpoilpaaGreatDoorC27
set_option linter.all false
set_option maxRecDepth 100000
set_option maxHeartbeats 16000000
namespace Go.Scout
open Go.RowKit
structure PartsOk (ts:List TableD) (q:QueryV) (pl:List NodeV) (w:World) (ps:List PartV):Prop where
 eq:partsP ts q pl ps.length=some (ps.map PartV.d)
 ok:∀ i,i<ps.length->(ps.getD i pvz).Ok w
 small:∀ i,i<ps.length->(ps.getD i pvz).sources<2 ^ q.src.xs.length/\(ps.getD i pvz).clauses<2 ^ q.wh.length
theorem PartsOk.nil (ts:List TableD) (q:QueryV) (pl:List NodeV) (w:World):PartsOk ts q pl w []:=⟨rfl,fun i hi=>absurd hi (by simp),fun i hi=>absurd hi (by simp)⟩
theorem getD_app {ps:List PartV} {p:PartV} {i:Nat} (hi:i<(ps++[p]).length):(i<ps.length/\(ps++[p]).getD i pvz=ps.getD i pvz)∨(i=ps.length/\(ps++[p]).getD i pvz=p):=by
 rw[getD_snoc];rw[List.length_append] at hi;have hi':i<ps.length+1:=hi;by_cases h:i<ps.length
 ·rw[if_pos h]; exact .inl ⟨h,rfl⟩
 ·rw[if_neg h,if_pos (by omega)]; exact .inr ⟨by omega,rfl⟩
theorem ok_zero (w:World):pvz.Ok w:=⟨⟨by simp[pvz],fun i hi=>absurd hi (by simp[pvz])⟩,Nat.le_refl _,Nat.zero_le _,Nat.zero_le _,Nat.zero_le _,Nat.zero_le _⟩
theorem PartsOk.ins {ts:List TableD} {q:QueryV} {pl:List NodeV} {w:World} {ps:List PartV} (h:PartsOk ts q pl w ps) (n:NodeV) (hm:∀ m,m<(inputsL n).length->0<=(inputsL n).getD m 0/\(inputsL n).getD m 0<(ps.length:Int)) :
  ∀ i,i<(insV n ps).length->((insV n ps).getD i pvz).Ok w/\((insV n ps).getD i pvz).sources<2 ^ q.src.xs.length/\((insV n ps).getD i pvz).clauses<2 ^ q.wh.length:=fun i hi=>by
 rw[insV_len] at hi;have e:(insV n ps).getD i pvz=ps.getD ((inputsL n).getD i 0).toNat pvz:=by unfold insV; simp[List.getD,hi]
 have hb:=hm i hi;rw[e];have hlt:((inputsL n).getD i 0).toNat<ps.length:=by omega
 exact⟨h.ok _ hlt,h.small _ hlt⟩
theorem PartsOk.step {ts:List TableD} {q:QueryV} {pl:List NodeV} {w:World} {ps:List PartV} (h:PartsOk ts q pl w ps) {n:NodeV} (hn:pl.getD ps.length nz=n) (hm:∀ m,m<(inputsL n).length->0<=(inputsL n).getD m 0/\(inputsL n).getD m 0<(ps.length:Int)) (hf:(kindsL n.kind (insV n ps)&&fitsP ts q n ((insV n ps).getD 0 pvz).d ((insV n ps).getD 1 pvz).d)=true)
  {p:PartV} (hd:p.d=partP ts q n ((insV n ps).getD 0 pvz).d ((insV n ps).getD 1 pvz).d) (hs:p.sources<2 ^ q.src.xs.length) (hc:p.clauses<2 ^ q.wh.length) {W:World} (hk:p.Ok W) (ho:p.order=n.co∨p.order=((insV n ps).getD 0 pvz).order∨p.order=⟨none,0,[]⟩) (hco:n.co.At w) (hcap:n.co.xs.length<=n.co.cap) :
  PartsOk ts q pl w (ps++[p]):=by
 have hpo:p.order.At w/\p.order.xs.length<=p.order.cap:=by
  rcases ho with e | e | e
  ·rw[e]; exact⟨hco,hcap⟩
  ·rw[e];by_cases h0:0<(insV n ps).length
   ·have:=(h.ins n hm 0 h0).1; exact⟨this.order,this.cap⟩
   ·have e0:(insV n ps).getD 0 pvz=pvz:=by simp[List.getD,h0]
    rw[e0]; exact⟨(ok_zero w).order,(ok_zero w).cap⟩
  ·rw[e]; exact⟨⟨by simp,fun i hi=>absurd hi (by simp)⟩,Nat.le_refl _⟩
 refine⟨?_,fun i hi=>?_,fun i hi=>?_⟩
 ·rw[List.length_append]
  show (partsP ts q pl ps.length).bind _=_
  rw[h.eq,hn]
  show stepP ts q n _=_
  rw[step_eq,if_pos hf,List.map_append,<- hd];rfl
 ·rcases getD_app hi with⟨hl,e⟩ | ⟨_,e⟩ <;> rw[e]
  ·exact h.ok i hl
  ·exact⟨hpo.1,hpo.2,hk.sources,hk.clauses,hk.size,hk.cost⟩
 ·rcases getD_app hi with⟨hl,e⟩ | ⟨_,e⟩ <;> rw[e]
  ·exact h.small i hl
  ·exact⟨hs,hc⟩
theorem PartsOk.fail {ts:List TableD} {q:QueryV} {pl:List NodeV} {w:World} {ps:List PartV} (h:PartsOk ts q pl w ps) {n:NodeV} (hn:pl.getD ps.length nz=n) (hl:ps.length<pl.length) (hp:isPlanP pl=true) (hf:(kindsL n.kind (insV n ps)&&fitsP ts q n ((insV n ps).getD 0 pvz).d ((insV n ps).getD 1 pvz).d)=false):lookP ts q pl=none:=by
 have e:partsP ts q pl (ps.length+1)=none:=by
  show (partsP ts q pl ps.length).bind _=_
  rw[h.eq,hn]
  show stepP ts q n _=_
  rw[step_eq,if_neg (by rw[hf]; simp)]
 unfold lookP;rw[if_neg (by rw[hp]; simp),parts_none e pl.length (by omega)];rfl
theorem PartsOk.last {ts:List TableD} {q:QueryV} {pl:List NodeV} {w:World} {ps:List PartV} (h:PartsOk ts q pl w ps) (hl:ps.length=pl.length) (hp:isPlanP pl=true) :
  lookP ts q pl=if (outK (pl.getD (pl.length-1) nz).kind&&endsP q (pl.getD (pl.length-1) nz).kind (ps.getD (pl.getD (pl.length-1) nz).l.toNat pvz).order.xs)=true then some (ps.map PartV.d) else none:=by
 unfold lookP;rw[if_neg (by rw[hp]; simp),<- hl,h.eq];simp only[Option.bind_some];have e:((ps.map PartV.d).getD (pl.getD (ps.length-1) nz).l.toNat pz)=(ps.getD (pl.getD (ps.length-1) nz).l.toNat pvz).d:=map_getD PartV.d ps _ pvz;rw[e];rfl
theorem PartsOk.nine {ts:List TableD} {q:QueryV} {pl:List NodeV} {w:World} {ps:List PartV} (h:PartsOk ts q pl w ps) (hl:ps.length=pl.length) (h1:1<=pl.length) (hk:(pl.getD (pl.length-1) nz).kind=9):q.group=false:=by
 have e:ps.length=(pl.length-1)+1:=by omega
 have h2:=h.eq;rw[e] at h2;have h3:(partsP ts q pl (pl.length-1)).bind (stepP ts q (pl.getD (pl.length-1) nz))=some (ps.map PartV.d):=h2
 cases h4:partsP ts q pl (pl.length-1) with
 | none => rw[h4] at h3; cases h3
 | some ds =>
  rw[h4] at h3;have h5:stepP ts q (pl.getD (pl.length-1) nz) ds=some (ps.map PartV.d):=h3;unfold stepP at h5;split at h5
  ·rename_i hf
   rw[Bool.and_eq_true] at hf;have hf:=hf.2;unfold fitsP at hf;rw[hk] at hf;simp at hf;exact hf.1
  ·cases h5
end Go.Scout
namespace Go.Proofs.YtlpbelhfpoilpaaGreatDoor
open Go.RowKit Go.Scout
theorem Tryz.infoPart:(Tryz.prog.info? 110).map (fun i=>(i.zero,i.size,i.bytes))=some (some (.agg #[.int .i64 0,.int .u64 0,.int .u64 0,.slice none 0 0,.int .u64 0,.int .u64 0]),6,64):=by kernel_rfl
theorem push_part (W:World) (base:Nat) (v:Value) (ps:List PartV) (hown:W.ownsRow base 110 6 v ps.length (ps.flatMap PartV.list)) (hl:ps.length<=1000) (hb:base<=W.heap.size) (p:PartV) (ty:TypeId) :
  ∃ v' w',(Builtin.append_ #[106,106] ty #[v,.slice (some (aD W.heap.size 0)) 1 1]).run Tryz.prog (W.alloc (.cells p.cells 110))=.ok v' w'/\
   w'.ownsRow base 110 6 v' (ps++[p]).length ((ps++[p]).flatMap PartV.list)/\Kept (fun b=>v.ownBlock≠some b) W w'/\(∃ a m c,v' = .slice a m c)/\(v'.ownBlock=v.ownBlock∨v'.ownBlock=some (W.heap.size+1)):=by
 obtain⟨i0,hi,hz0,hz1,hz2⟩:=info_parts Tryz.infoPart;obtain⟨v',w',hr,ho,hk,hs,hat⟩:=push_own (P:=Tryz.prog) W base 106 ty 110 i0 _ 6 64 Tryz.underlying106 hi hz0 hz1 hz2 rfl (by decide) v ps.length _ hown hb p.list rfl (fun u hu=>by
  unfold PartV.list IntsV.val at hu;simp at hu;rcases hu with rfl | rfl | rfl | rfl | rfl | rfl <;> rfl) hl (by decide)
 exact⟨v',w',hr,by rw[List.length_append,List.flatMap_append]; simpa using ho,hk,hs,hat⟩
theorem look_any (f:FactsV) (ts:List TableD) (q:QueryV) (po:Option Addr) (pc:Nat) (pl:List NodeV) (w0 w:World) (hb0:Below w0.heap.size w0 w) (ok:Ok ts q) (hf:f.At ts q w) (hn0:NodesAt w0 po pl) (hsh:ShapesAt w 0) (hcap:∀ i,i<pl.length->(pl.getD i nz).co.xs.length<=(pl.getD i nz).co.cap)
  (hgr:q.group=false->allB q.ord.xs q.sel.xs.length=true) (hfew:q.ord.xs.length<=1000) :
  Calls Tryz.prog 86 #[.agg (f.cells ts q),.slice po pl.length pc] w (fun e w'=>Below w.heap.size w w'/\((∃ ds,lookP ts q pl=some ds/\∃ (ao:Option Addr) (cap:Nat) (ps:List PartV),e=.returned (.tuple #[.slice ao ps.length cap,.bool true])/\PartsAt w' ao ps/\ps.map PartV.d=ds/\(∀ a,ao=some a->w.heap.size<=a.block)/\∀ i,i<ps.length->(ps.getD i pvz).Ok w0)∨(lookP ts q pl=none/\e=.returned (.tuple #[.slice none 0 0,.bool false])))):=by
 obtain⟨LK,hLK⟩:∃ LK,LK=lookP ts q pl:=⟨_,rfl⟩
 rw[<- hLK];obtain⟨v0,v1,v2,v3,v4,v5,v6,v7,v8,v9,v10,v11,v12,hFC,hv0,hv1,hv2,hv3,hv4,hv5,hv6,-⟩:=factsCells f ts q;have HVQ:Hid (q.cells=#[v0,v1,v2,v3,v4,v5,v6]):=by show _=_; rw[hv0,hv1,hv2,hv3,hv4,hv5,hv6]; rfl
 clear hv0 hv1 hv2 hv3 hv4 hv5 hv6;obtain⟨w1,hw1⟩:∃ x,w.alloc (.cells (f.cells ts q) 105)=x:=⟨_,rfl⟩
 have hk1:Below w.heap.size w w1:=by rw[<- hw1]; exact bQ2 _ _
 have hg1:GB w1 w.heap.size 105 (f.cells ts q):=by rw[<- hw1]; exact bQ3 _ _
 have hc0:Below w.heap.size w w1:=hk1;have gg1:=hg1;have g1_0:w1.cell? (aD w.heap.size 0)=some v0:=by rw[hFC] at gg1; exact gg1.cell 0
 have g1_1:w1.cell? (aD w.heap.size 1)=some v1:=by rw[hFC] at gg1; exact gg1.cell 1
 have g1_2:w1.cell? (aD w.heap.size 2)=some v2:=by rw[hFC] at gg1; exact gg1.cell 2
 have g1_3:w1.cell? (aD w.heap.size 3)=some v3:=by rw[hFC] at gg1; exact gg1.cell 3
 have g1_4:w1.cell? (aD w.heap.size 4)=some v4:=by rw[hFC] at gg1; exact gg1.cell 4
 have g1_5:w1.cell? (aD w.heap.size 5)=some v5:=by rw[hFC] at gg1; exact gg1.cell 5
 have g1_6:w1.cell? (aD w.heap.size 6)=some v6:=by rw[hFC] at gg1; exact gg1.cell 6
 have g1_7:w1.cell? (aD w.heap.size 7)=some v7:=by rw[hFC] at gg1; exact gg1.cell 7
 have g1_8:w1.cell? (aD w.heap.size 8)=some v8:=by rw[hFC] at gg1; exact gg1.cell 8
 have g1_9:w1.cell? (aD w.heap.size 9)=some v9:=by rw[hFC] at gg1; exact gg1.cell 9
 have g1_10:w1.cell? (aD w.heap.size 10)=some v10:=by rw[hFC] at gg1; exact gg1.cell 10
 have g1_11:w1.cell? (aD w.heap.size 11)=some v11:=by rw[hFC] at gg1; exact gg1.cell 11
 have g1_12:w1.cell? (aD w.heap.size 12)=some v12:=by rw[hFC] at gg1; exact gg1.cell 12
 have hn:=hn0.below hb0;have HB0:Hid _:=hb0;have HN0:Hid (NodesAt w0 po pl):=hn0;clear hb0 hn0;have hpl:=hn.1;have hIP:=isPlan_any po pc pl w1 (hn.below hc0) (hsh.below hc0);rw[hFC] at hw1;rw[hFC];have HFC:Hid _:=hFC;have HC:Hid _:=hc0;clear hg1 gg1 hk1
 cases hip:isPlanP pl with
 | false =>
  have HV:Hid (LK=none):=by show _=_; rw[hLK]; unfold lookP; rw[if_pos hip]
  rw[hip] at hIP;clear hip hLK hf hn hsh hcap hgr ok HFC;go_enter Tryz.func86,Tryz.ntmps86;go_wp2_with fail;refine hIP.mono ?_;rintro e w2 ⟨rfl,hb2⟩;have HB:Hid _:=bQ1 HC.out hb2;clear hb2;go_wp2;go_ret2;exact⟨HB.out,.inr ⟨HV.out,rfl⟩⟩
 | true =>
 rw[hip] at hIP;obtain⟨hp1,hp64,hst⟩:=plan_all hip;obtain⟨i0,hi,hz0,hz1,hz2⟩:=info_parts Tryz.infoPart;have HMK:Hid (∀ x:World,w1.heap.size<=x.heap.size->∃ w',(Instr.makeSlice 106 (.int .i64 0) (.int .i64 (pl.length:Int))).run Tryz.prog x=.ok (.slice (some (aD x.heap.size 0)) 0 pl.length) w'/\w'.ownsRow w1.heap.size 110 6 (.slice (some (aD x.heap.size 0)) 0 pl.length) 0 []/\Below x.heap.size x w'):=fun x hx=>by
  obtain⟨w',h1,h2,h3⟩:=run_make_own (P:=Tryz.prog) x w1.heap.size 106 110 i0 _ 6 Tryz.underlying106 hi hz0 hz1 .i64 .i64 pl.length (by rw[hz2]; omega) (by unfold maxLen; omega) hx;exact⟨w',h1,h2,(Kept.grown (s:=fun _=>True) h3 (fun r e=>by cases e)).below (Nat.le_refl _) (fun _ _=>trivial)⟩
 have HIP:Hid _:=hip;have HST:Hid _:=hst;have HLK:Hid _:=hLK;have HF:Hid _:=hf;have HN:Hid _:=hn;have HSH:Hid _:=hsh;have HCAP:Hid _:=hcap;have HGR:Hid _:=hgr;have HOK:Hid _:=ok;have HFEW:Hid _:=hfew;have HC1:Hid (Below w.heap.size w w1):=hc0;have HS1:Hid (w.heap.size<=w1.heap.size):=hc0.size;clear hip hst hLK hf hn hsh hcap hgr ok hfew hFC hc0 hi hz0 hz1 hz2;go_enter Tryz.func86,Tryz.ntmps86;go_wp2_with fail;refine hIP.mono ?_;rintro e w2 ⟨rfl,hb2⟩;clear hIP;obtain⟨w3,hmk,hown3,hb3⟩:=HMK.out w2 hb2.size;have HOW3:Hid (w3.ownsRow w1.heap.size 110 6 (.slice (some (aD w2.heap.size 0)) 0 pl.length) 0 []):=hown3;have HB3:Hid (Below w1.heap.size w1 w3):=bQ1 hb2 hb3;clear hb2 hb3 hown3 HMK hw1;have hmk':=hmk;go_wp2;clear hmk hmk';go_loopw [6,21] (fun pv iv wr=>∃ ps:List PartV,ps.length<=pl.length/\iv=.int .i64 (ps.length:Int)/\Hid (wr.ownsRow w1.heap.size 110 6 pv ps.length (ps.flatMap PartV.list))/\Hid (PartsOk ts q pl w0 ps)/\Hid (Below w1.heap.size w1 wr)) (fun _ iv _=>pl.length-(intOf iv).toNat)
 case atStart=>exact⟨[],Nat.zero_le _,rfl,HOW3.out,PartsOk.nil _ _ _ _,HB3.out⟩
 case round=>
  obtain⟨ps,hps,rfl,HOW,HPO,HBW⟩:=hrel;have hbw:=bQ1 HC1.out HBW.out;obtain⟨pa,pcx,rfl,hPA⟩:=parts_own HOW.out (by omega) (fun i hi=>(HPO.out.ok i hi).below (bQ1 HB0.out hbw));by_cases hlt:ps.length<pl.length
  ·obtain⟨nb,no,hpo,m0,m1,m2,m3,m4,m5,m6,hcl,hco⟩:=(NodesAt.below hbw HN.out).2 ps.length hlt;subst hpo;obtain⟨-,-,-,-,-,-,-,-,-,-,hcl0,hco0⟩:=HN.out.2 ps.length hlt;obtain⟨-,-,-,-,-,-,-,-,-,-,-,hco00⟩:=HN0.out.2 ps.length hlt;have hcp:=HCAP.out ps.length hlt;have hstn:=HST.out ps.length hlt;obtain⟨n,hn⟩:∃ n,pl.getD ps.length nz=n:=⟨_,rfl⟩
   rw[hn] at m0 m1 m2 m3 m4 m5 m6 hcl hco hcl0 hco0 hco00 hcp hstn;obtain⟨hk1,hk10,hins⟩:=stands_ins hstn;have HIN:Hid (∀ x,Below w.heap.size w x->Calls Tryz.prog 149 #[.agg n.cells] x fun e w'=>∃ b,e=.returned (.slice (some (aD b 0)) (inputsL n).length 2)/\IntsAt w' (some (aD b 0)) (inputsL n)/\x.heap.size<=b/\Below x.heap.size x w'):=fun x hx=>inputsOf_any n x (ShapesAt.below hx HSH.out) hk1 hk10
   have hIO:=HPO.out.ins n hins;have HIA:Hid (∀ (x:World) (bs:Nat) (v:Value),Below w.heap.size w x->x.ownsRow bs 110 6 v (insV n ps).length ((insV n ps).flatMap PartV.list)->∃ a c,v=.slice a (insV n ps).length c/\PartsAt x a (insV n ps)):=fun x _ v hx ho=>parts_own ho (by rw[insV_len]; have:=inputsL_len n; omega) (fun i hi=>(hIO i hi).1.below (bQ1 HB0.out hx))
   have HKF:Hid (∀ (x:World) (a:Option Addr) (c:Nat),PartsAt x a (insV n ps)->Calls Tryz.prog 150 #[.int .i64 n.kind,.slice a (insV n ps).length c] x fun e w'=>e=.returned (.bool (kindsL n.kind (insV n ps)))/\Below x.heap.size x w'):=fun x a c h=>kindsFit_any n.kind a c (insV n ps) x h
   have HFI:Hid (∀ (x:World) (a:Option Addr) (c:Nat),Below w.heap.size w x->PartsAt x a (insV n ps)->Calls Tryz.prog 151 #[.agg #[v0,v1,v2,v3,v4,v5,v6,v7,v8,v9,v10,v11,v12],.agg n.cells,.slice a (insV n ps).length c] x fun e w'=>e=.returned (.bool (fitsP ts q n ((insV n ps).getD 0 pvz).d ((insV n ps).getD 1 pvz).d))/\Below x.heap.size x w'):=fun x a c hx h=>by
    rw[<- HFC.out];exact fits_any f ts q n a c (insV n ps) x HOK.out (HF.out.below hx) (IntsAt.below hx hcl0) (IntsAt.below hx hco0) hcp h hk1 hk10 (by rw[insV_len,inputsL_arity])
   have HPF:Hid (∀ (x:World) (a:Option Addr) (c:Nat),Below w.heap.size w x->PartsAt x a (insV n ps)->fitsP ts q n ((insV n ps).getD 0 pvz).d ((insV n ps).getD 1 pvz).d=true->kindsL n.kind (insV n ps)=true->Calls Tryz.prog 152 #[.agg #[v0,v1,v2,v3,v4,v5,v6,v7,v8,v9,v10,v11,v12],.agg n.cells,.slice a (insV n ps).length c] x fun e w'=>∃ p:PartV,e=.returned (.agg p.cells)/\PartsOk ts q pl w0 (ps++[p])/\Below x.heap.size x w'):=fun x a c hx h hfi hki=>by
    rw[<- HFC.out];obtain⟨hsm,hsr⟩:=fits_small hstn hfi;refine (partOf_any f ts q n a c (insV n ps) x HOK.out (HF.out.below hx) (IntsAt.below hx hcl0) (IntsAt.below hx hco0) hcp h hk1 hk10 (by rw[insV_len,inputsL_arity]) hsm hsr (fun i hi=>(hIO i hi).2)).mono ?_;rintro e w' ⟨p,he,hd,hko,hs,hc,ho,hb⟩;exact⟨p,he,HPO.out.step hn hins (by rw[hki,hfi]; rfl) hd hs hc hko ho hco00 hcp,hb⟩
   have HFA:Hid (∀ kb fb,kb=kindsL n.kind (insV n ps)->fb=fitsP ts q n ((insV n ps).getD 0 pvz).d ((insV n ps).getD 1 pvz).d->(kb&&fb)=false->LK=none):=fun kb fb e1 e2 h=>by
    rw[HLK.out];exact HPO.out.fail hn hlt HIP.out (by rw[<- e1,<- e2]; exact h)
   have HIT:Hid (∀ m,m<(inputsL n).length->(insV n ps).take (m+1)=(insV n ps).take m++[ps.getD ((inputsL n).getD m 0).toNat pvz]):=fun m hm=>ins_take hm
   have HIL:Hid ((insV n ps).length=(inputsL n).length):=insV_len n ps;have HL2:Hid ((inputsL n).length<=2):=inputsL_len n;have HIB:Hid _:=hins;obtain⟨KB,hKB⟩:∃ x,x=kindsL n.kind (insV n ps):=⟨_,rfl⟩
   obtain⟨FB,hFB⟩:∃ x,x=fitsP ts q n ((insV n ps).getD 0 pvz).d ((insV n ps).getD 1 pvz).d:=⟨_,rfl⟩
   have HFA2:Hid ((KB&&FB)=false->LK=none):=HFA.out KB FB hKB hFB;rw[<- hKB] at HKF HPF;rw[<- hFB] at HFI HPF;clear hKB hFB HFA hins hIO hstn hk1 hk10 hcl hco hcl0 hco0 hco00 hcp hn;generalize insV n ps=IV at *;generalize inputsL n=L at *;obtain⟨nk,nl,nr,ns,⟨ca,cc,cl⟩,key,⟨da,dc,co⟩⟩:=n;simp only[NodeV.cells,IntsV.val] at *;obtain⟨w9,hw9⟩:∃ x,x=wr:=⟨_,rfl⟩
   subst hw9;obtain⟨wb,hwb⟩:∃ x,w9.alloc (.cells #[.int .i64 nk,.int .i64 nl,.int .i64 nr,.int .i64 ns,.slice ca cl.length cc,.int .i64 key,.slice da co.length dc] 58)=x:=⟨_,rfl⟩
   have kb:Below w9.heap.size w9 wb:=by rw[<- hwb]; exact bQ2 _ _
   have gn:GB wb w9.heap.size 58 #[.int .i64 nk,.int .i64 nl,.int .i64 nr,.int .i64 ns,.slice ca cl.length cc,.int .i64 key,.slice da co.length dc]:=by rw[<- hwb]; exact bQ3 _ _
   have n0:wb.cell? (aD w9.heap.size 0)=some (.int .i64 nk):=gn.cell 0;have n1:wb.cell? (aD w9.heap.size 1)=some (.int .i64 nl):=gn.cell 1;have n2:wb.cell? (aD w9.heap.size 2)=some (.int .i64 nr):=gn.cell 2;have n3:wb.cell? (aD w9.heap.size 3)=some (.int .i64 ns):=gn.cell 3;have n4:wb.cell? (aD w9.heap.size 4)=some (.slice ca cl.length cc):=gn.cell 4;have n5:wb.cell? (aD w9.heap.size 5)=some (.int .i64 key):=gn.cell 5;have n6:wb.cell? (aD w9.heap.size 6)=some (.slice da co.length dc):=gn.cell 6;have hIN:=HIN.out wb (bQ1 hbw kb);have HKB:Hid _:=kb;have HGN:Hid (GB wb w9.heap.size 58 #[.int .i64 nk,.int .i64 nl,.int .i64 nr,.int .i64 ns,.slice ca cl.length cc,.int .i64 key,.slice da co.length dc]):=gn;have HPAX:Hid _:=hPA;have HOX:Hid _:=HOW;clear hPA hbw kb gn HIN;go_wp2_with fail;refine hIN.mono ?_;rintro e w4 ⟨ib,rfl,hIA,hib,hb4⟩;clear hIN hwb m0 m1 m2 m3 m4 m5 m6 n0 n1 n2 n3 n4 n5 n6;have HB4:Hid (Below wb.heap.size wb w4):=hb4;have HIA4:Hid _:=hIA;have hLl:=hIA.1;clear hb4 hIA hib;go_wp2;go_loopw [9,28] (fun qv jv wx=>∃ m:Nat,m<=L.length/\jv=.int .i64 (m:Int)/\Hid (wx.ownsRow w4.heap.size 110 6 qv (IV.take m).length ((IV.take m).flatMap PartV.list))/\Hid (Below w4.heap.size w4 wx)) (fun _ jv _=>L.length-(intOf jv).toNat)
   case atStart=>exact⟨0,Nat.zero_le _,rfl,World.ownsRow_nil _ _ _ _,Below.refl _ _⟩
   case round=>
    obtain⟨m,hm,rfl,HQ,HBX⟩:=hrel;have hb9:Below w9.heap.size w9 wr:=bQ1 HKB.out (bQ1 HB4.out HBX.out);by_cases hltm:m<L.length
    ·obtain⟨ib',io',e',hic⟩:=IntsAt.get (IntsAt.below HBX.out HIA4.out) hltm
     cases e'
     have hcm:=hic m hltm;rw[Nat.zero_add] at hcm;obtain⟨hj0,hj1⟩:=HIB.out m hltm;have HTN:Hid _:=HIT.out m hltm;obtain⟨j,hj⟩:=Int.eq_ofNat_of_zero_le hj0;rw[hj] at hcm hj1 HTN;rw[Int.toNat_natCast] at HTN;have hj1':j<ps.length:=by omega
     obtain⟨⟨pb,pof,hpae,c0,c1,c2,c3,c4,c5⟩,-⟩:=(PartsAt.below hb9 HPAX.out).2 j hj1';subst hpae;obtain⟨p,hp⟩:∃ p,p=ps.getD j pvz:=⟨_,rfl⟩
     rw[<- hp] at c0 c1 c2 c3 c4 c5 HTN;obtain⟨qa,qm,qc,rfl⟩:=ownsRow_slice HQ.out;have hw4x:w4.heap.size<=wr.heap.size:=HBX.out.size;obtain⟨v',w5,hr5,ho5,hk5,⟨xa,xm,xc,rfl⟩,hat⟩:=push_part wr w4.heap.size (.slice qa qm qc) (IV.take m) HQ.out (by rw[List.length_take]; have:=HL2.out; omega) hw4x p 106;rw[<- HTN.out] at ho5;have HO5:Hid _:=ho5;have HB5:Hid (Below w4.heap.size w4 w5):=HBX.out.trans (hk5.below hw4x (fun b hb e=>by have:=(ownsRow_lt HQ.out e).1; omega));obtain⟨pk,ss,cs,⟨oa,ocp,ox⟩,pz,pt⟩:=p;simp only[PartV.cells,IntsV.val] at *;clear hp ho5 hk5 hat hic hj HTN HQ HBX hb9 hj0;go_wp2_with (first | (at_builtin; refine wpList_append_run rfl (.tmp 32) (.tmp 37) 106 rfl (.slice qa qm qc) (.slice (some (aD wr.heap.size 0)) 1 1) (.slice xa xm xc) w5 rfl rfl hr5 ?_));clear hr5 c0 c1 c2 c3 c4 c5 hcm;go_wp2;go_roundw
     case rel=>exact⟨m+1,by omega,by go_num,HO5.out,HB5.out⟩
     case measure=>simp[intOf]; omega
    ·obtain rfl:m=L.length:=by omega
     rw[List.take_of_length_le (by rw[HIL.out]; exact Nat.le_refl _)] at HQ;obtain⟨w5,hw5⟩:∃ x,x=wr:=⟨_,rfl⟩
     subst hw5;have hbb5:Below wb.heap.size wb w5:=bQ1 HB4.out HBX.out;have hb95:Below w9.heap.size w9 w5:=bQ1 HKB.out hbb5;have hb15:Below w1.heap.size w1 w5:=bQ1 HBW.out hb95;obtain⟨qa,qc,rfl,hQA⟩:=HIA.out w5 _ _ (bQ1 HC1.out hb15) HQ.out;have hKF:=HKF.out w5 qa qc hQA;have n0:w5.cell? (aD w9.heap.size 0)=some (.int .i64 nk):=cB hbb5 (GB.cell HGN.out 0);have HQA:Hid _:=hQA;have HB15:Hid _:=hb15;have HBB5:Hid _:=hbb5;have HB95:Hid _:=hb95;clear hbb5 hb95 hb15 hQA HQ HBX HIA HKF HIT HIB hm hltm;go_wp2_with fail;refine hKF.mono ?_;rintro e w6 ⟨rfl,hb6⟩;clear hKF n0;have HB16:Hid (Below w1.heap.size w1 w6):=bQ1 HB15.out hb6;have HBB6:Hid (Below wb.heap.size wb w6):=bQ1 HBB5.out hb6;have HB96:Hid (Below w9.heap.size w9 w6):=bQ1 HB95.out hb6;have HQA6:Hid _:=PartsAt.below hb6 HQA.out;clear hb6 HQA HB15 HBB5 HB95
     cases KB with
     | false =>
      have HV:Hid (LK=none):=HFA2.out rfl;have HBE:Hid _:=bQ1 HC1.out HB16.out;clear HFI HPF HFA2;go_wp2;go_ret2;exact⟨HBE.out,.inr ⟨HV.out,rfl⟩⟩
     | true =>
      have hFI:=HFI.out w6 qa qc (bQ1 HC1.out HB16.out) HQA6.out;have f0:=cB HB16.out g1_0;have f1:=cB HB16.out g1_1;have f2:=cB HB16.out g1_2;have f3:=cB HB16.out g1_3;have f4:=cB HB16.out g1_4;have f5:=cB HB16.out g1_5;have f6:=cB HB16.out g1_6;have f7:=cB HB16.out g1_7;have f8:=cB HB16.out g1_8;have f9:=cB HB16.out g1_9;have f10:=cB HB16.out g1_10;have f11:=cB HB16.out g1_11;have f12:=cB HB16.out g1_12;have n0:w6.cell? (aD w9.heap.size 0)=some (.int .i64 nk):=cB HBB6.out (GB.cell HGN.out 0);have n1:w6.cell? (aD w9.heap.size 1)=some (.int .i64 nl):=cB HBB6.out (GB.cell HGN.out 1);have n2:w6.cell? (aD w9.heap.size 2)=some (.int .i64 nr):=cB HBB6.out (GB.cell HGN.out 2);have n3:w6.cell? (aD w9.heap.size 3)=some (.int .i64 ns):=cB HBB6.out (GB.cell HGN.out 3);have n4:w6.cell? (aD w9.heap.size 4)=some (.slice ca cl.length cc):=cB HBB6.out (GB.cell HGN.out 4);have n5:w6.cell? (aD w9.heap.size 5)=some (.int .i64 key):=cB HBB6.out (GB.cell HGN.out 5);have n6:w6.cell? (aD w9.heap.size 6)=some (.slice da co.length dc):=cB HBB6.out (GB.cell HGN.out 6);go_wp2_with fail;refine hFI.mono ?_;rintro e w7 ⟨rfl,hb7⟩;clear hFI f0 f1 f2 f3 f4 f5 f6 f7 f8 f9 f10 f11 f12 n0 n1 n2 n3 n4 n5 n6;have HB17:Hid (Below w1.heap.size w1 w7):=bQ1 HB16.out hb7;have HBB7:Hid (Below wb.heap.size wb w7):=bQ1 HBB6.out hb7;have HB97:Hid (Below w9.heap.size w9 w7):=bQ1 HB96.out hb7;have HQA7:Hid _:=PartsAt.below hb7 HQA6.out;clear hb7 HQA6 HB16 HBB6 HB96
      cases FB with
      | false =>
       have HV:Hid (LK=none):=HFA2.out rfl;have HBE:Hid _:=bQ1 HC1.out HB17.out;clear HFI HPF HFA2;go_wp2;go_ret2;exact⟨HBE.out,.inr ⟨HV.out,rfl⟩⟩
      | true =>
       have hPF:=HPF.out w7 qa qc (bQ1 HC1.out HB17.out) HQA7.out (by trivial) (by trivial);have f0:=cB HB17.out g1_0;have f1:=cB HB17.out g1_1;have f2:=cB HB17.out g1_2;have f3:=cB HB17.out g1_3;have f4:=cB HB17.out g1_4;have f5:=cB HB17.out g1_5;have f6:=cB HB17.out g1_6;have f7:=cB HB17.out g1_7;have f8:=cB HB17.out g1_8;have f9:=cB HB17.out g1_9;have f10:=cB HB17.out g1_10;have f11:=cB HB17.out g1_11;have f12:=cB HB17.out g1_12;have n0:w7.cell? (aD w9.heap.size 0)=some (.int .i64 nk):=cB HBB7.out (GB.cell HGN.out 0);have n1:w7.cell? (aD w9.heap.size 1)=some (.int .i64 nl):=cB HBB7.out (GB.cell HGN.out 1);have n2:w7.cell? (aD w9.heap.size 2)=some (.int .i64 nr):=cB HBB7.out (GB.cell HGN.out 2);have n3:w7.cell? (aD w9.heap.size 3)=some (.int .i64 ns):=cB HBB7.out (GB.cell HGN.out 3);have n4:w7.cell? (aD w9.heap.size 4)=some (.slice ca cl.length cc):=cB HBB7.out (GB.cell HGN.out 4);have n5:w7.cell? (aD w9.heap.size 5)=some (.int .i64 key):=cB HBB7.out (GB.cell HGN.out 5);have n6:w7.cell? (aD w9.heap.size 6)=some (.slice da co.length dc):=cB HBB7.out (GB.cell HGN.out 6);clear HFI HPF HFA2;go_wp2_with fail;refine hPF.mono ?_;rintro e w8 ⟨p,rfl,hPS,hb8⟩;clear hPF f0 f1 f2 f3 f4 f5 f6 f7 f8 f9 f10 f11 f12 n0 n1 n2 n3 n4 n5 n6;have hb98:Below w9.heap.size w9 w8:=bQ1 HB97.out hb8;have hb18:Below w1.heap.size w1 w8:=bQ1 HB17.out hb8;have ho8:=own_below HOX.out hb98;obtain⟨v',wz,hrz,hoz,hkz,⟨xa,xm,xc,rfl⟩,hat⟩:=push_part w8 w1.heap.size (.slice pa ps.length pcx) ps ho8 (by omega) hb18.size p 106;have HOZ:Hid _:=hoz;have HPS:Hid _:=hPS;have HBZ:Hid (Below w1.heap.size w1 wz):=hb18.trans (hkz.below hb18.size (fun b hb e=>by have:=(ownsRow_lt ho8 e).1; omega));have HPL:Hid ((ps++[p]).length=ps.length+1):=by show _=_; simp
       have HCZ:Hid (∀ x:Int,x=((ps++[p]).length:Nat)->Value.int .i64 x=.int .i64 ((ps++[p]).length:Int)):=fun x h=>by rw[h]
       obtain⟨pk,ss,cs,⟨oa,ocp,ox⟩,pz,pt⟩:=p;simp only[PartV.cells,IntsV.val] at hrz;simp only[PartV.cells,IntsV.val];clear hoz hkz hat hPS ho8 hb98 hb18 hb8 HOW HPO HBW HOX HPAX HQA7;go_wp2_with (first | (at_builtin; refine wpList_append_run rfl (.tmp 52) (.tmp 57) 106 rfl (.slice pa ps.length pcx) (.slice (some (aD w8.heap.size 0)) 1 1) (.slice xa xm xc) wz rfl rfl hrz ?_));clear hrz;go_wp2;go_roundw
       case rel=>
        refine⟨ps++[PartV.mk pk ss cs ⟨oa,ocp,ox⟩ pz pt],by rw[HPL.out]; omega,?_,HOZ.out,HPS.out,HBZ.out⟩;rw[HPL.out];go_num
       case measure=>simp[intOf]; omega
  ·have hle:ps.length=pl.length:=by omega
   obtain⟨N1,hN1⟩:∃ N1,pl.length=N1+1:=⟨pl.length-1,by omega⟩
   have eN:pl.length-1=N1:=by omega
   have hl1:N1<pl.length:=by omega
   obtain⟨nb,no,hpo,m0,m1,m2,m3,m4,m5,m6,-,-⟩:=(NodesAt.below hbw HN.out).2 N1 hl1;subst hpo;have hstn:=HST.out N1 hl1;have hLA:=HPO.out.last hle HIP.out;have HNI:Hid ((pl.getD N1 nz).kind=9->q.group=false):=fun h9=>HPO.out.nine hle hp1 (by rw[eN]; exact h9)
   rw[<- HLK.out,eN] at hLA;have HOKP:Hid _:=HPO.out.ok;have HOKQ:Hid (∀ i,i<ps.length->(ps.getD i pvz).Ok w0):=HPO.out.ok;have HPBK:Hid (∀ a,pa=some a->w.heap.size<=a.block):=fun a e=>by subst e; have:=(ownsRow_lt HOW.out (g:=a.block) rfl).1; have:=HS1.out; omega
   obtain⟨n,hn⟩:∃ n,pl.getD N1 nz=n:=⟨_,rfl⟩
   rw[hn] at m0 m1 m2 m3 m4 m5 m6 hstn HNI hLA;have HSO:Hid _:=@stands_out n N1 hstn;obtain⟨w9,hw9⟩:∃ x,x=wr:=⟨_,rfl⟩
   subst hw9;have HOE:Hid (∀ x,Calls Tryz.prog 153 #[.int .i64 n.kind] x fun e w'=>e=.returned (.bool (outK n.kind))/\Below x.heap.size x w'):=fun x=>(outK_any n.kind x).mono (fun e w' h=>⟨h.1,by rw[h.2]; exact Below.refl _ _⟩)
   have HEW:Hid (∀ (o:IntsV) (x:World),Below w.heap.size w x->o.At x->o.xs.length<=o.cap->Calls Tryz.prog 154 #[.agg #[v0,v1,v2,v3,v4,v5,v6],.int .i64 n.kind,.slice o.ad o.xs.length o.cap] x fun e w'=>e=.returned (.bool (endsP q n.kind o.xs))/\Below x.heap.size x w'):=fun o x hx ho hoc=>by
    rw[<- HVQ.out];exact endsWell_any q n.kind o.ad o.cap o.xs x (HF.out.query.below hx) ⟨fun h9=>HGR.out (HNI.out h9),HFEW.out⟩ ho hoc
   have HLA:Hid _:=hLA;have HLl:Hid (ps.length=N1+1):=by show _=_; omega
   have hnl:¬ (ps.length:Int)<(N1:Int)+1:=by omega
   have HPAX:Hid _:=hPA;clear hLA hn hstn eN HNI hPA HST HCAP HSH HF HGR HIP HFEW HVQ hle hps;obtain⟨nk,nl,nr,ns,⟨ca,cc,cl⟩,key,⟨da,dc,co⟩⟩:=n;simp only[NodeV.cells,IntsV.val] at *;obtain⟨wb,hwb⟩:∃ x,w9.alloc (.cells #[.int .i64 nk,.int .i64 nl,.int .i64 nr,.int .i64 ns,.slice ca cl.length cc,.int .i64 key,.slice da co.length dc] 58)=x:=⟨_,rfl⟩
   have kb:Below w9.heap.size w9 wb:=by rw[<- hwb]; exact bQ2 _ _
   have gn:GB wb w9.heap.size 58 #[.int .i64 nk,.int .i64 nl,.int .i64 nr,.int .i64 ns,.slice ca cl.length cc,.int .i64 key,.slice da co.length dc]:=by rw[<- hwb]; exact bQ3 _ _
   have n0:wb.cell? (aD w9.heap.size 0)=some (.int .i64 nk):=gn.cell 0;have n1:wb.cell? (aD w9.heap.size 1)=some (.int .i64 nl):=gn.cell 1;have HKB:Hid (Below w9.heap.size w9 wb):=kb;have HBB:Hid (Below w.heap.size w wb):=bQ1 hbw kb;have hb1b:Below w1.heap.size w1 wb:=bQ1 HBW.out kb;have h0:=cB hb1b g1_0;have h1:=cB hb1b g1_1;have h2:=cB hb1b g1_2;have h3:=cB hb1b g1_3;have h4:=cB hb1b g1_4;have h5:=cB hb1b g1_5;have h6:=cB hb1b g1_6;clear gn kb hbw hb1b;obtain⟨OB,hOB⟩:∃ x,x=outK nk:=⟨_,rfl⟩
   rw[<- hOB] at HOE HLA HSO
   cases OB with
   | false =>
    have HV:Hid (LK=none):=by show _=_; rw[HLA.out]; rfl
    clear HLA HEW HSO hOB;go_upto_region 18 with fail;clear hwb m0 m1 m2 m3 m4 m5 m6;refine wp_region_below (by kernel_rfl) (by kernel_rfl) ?_;go_big_quiet_want;refine⟨.pointer (some (aD w9.heap.size 0)),fun x hx=>?_,?_⟩
    ·go_simp
    simp only[pA,sB,sC];go_big_quiet_on;go_big_quiet_want;refine⟨.int .i64 nk,fun x hx=>?_,?_⟩
    ·have e0:=cB hx n0;go_simp
    simp only[pA,sB,sC];go_big_quiet_on;go_big_quiet_want;refine⟨.bool false,fun x hx=>?_,?_⟩
    ·have hC:=Calls.within hx (HOE.out x);go_simp
    simp only[pA,sB,sC];go_big_quiet_on;go_big_quiet_want;refine⟨.bool true,fun x hx=>?_,?_⟩
    ·go_simp
    simp only[pA,sB,sC];go_big_quiet_on;go_big_quiet_want;refine⟨.bool true,fun x hx=>?_,?_⟩
    ·go_simp
    simp only[pA,sB,sC];go_big_quiet_on;go_big_quiet_skip
    try simp only[pA,sB,sC]
    go_big_quiet_skip
    try simp only[pA,sB,sC]
    go_big_quiet_skip
    try simp only[pA,sB,sC]
    go_big_quiet_skip
    try simp only[pA,sB,sC]
    go_big_quiet_skip
    try simp only[pA,sB,sC]
    go_big_quiet_skip
    try simp only[pA,sB,sC]
    go_big_quiet_skip
    try simp only[pA,sB,sC]
    go_big_quiet_skip
    try simp only[pA,sB,sC]
    go_big_quiet_skip
    try simp only[pA,sB,sC]
    go_big_quiet_skip
    try simp only[pA,sB,sC]
    go_big_quiet_skip
    try simp only[pA,sB,sC]
    go_big_quiet_skip
    try simp only[pA,sB,sC]
    go_big_quiet_want;refine⟨.bool true,fun x hx=>?_,?_⟩
    ·go_simp
    simp only[pA,sB,sC];go_big_quiet_on;refine wpQuiet_nil ?_;intro wE hbE;have HBE:Hid _:=bQ1 HBB.out hbE;clear hbE;go_wp2;go_ret2;exact⟨HBE.out,.inr ⟨HV.out,rfl⟩⟩
   | true =>
    obtain⟨hj0,hj1⟩:=HSO.out rfl;obtain⟨j,hj⟩:=Int.eq_ofNat_of_zero_le hj0;subst hj;have hjl:j<ps.length:=by have:=HLl.out; omega
    rw[Int.toNat_natCast] at HLA;obtain⟨⟨pb,pof,hpae,-,-,-,c3,-,-⟩,-⟩:=(PartsAt.below HKB.out HPAX.out).2 j hjl;subst hpae;have hokj:=HOKP.out j hjl;obtain⟨o,ho⟩:∃ o,o=(ps.getD j pvz).order:=⟨_,rfl⟩
    have hEW:∀ x,Below wb.heap.size wb x->Calls Tryz.prog 154 #[.agg #[v0,v1,v2,v3,v4,v5,v6],.int .i64 nk,.slice o.ad o.xs.length o.cap] x fun e w'=>e=.returned (.bool (endsP q nk o.xs))/\Below x.heap.size x w':=fun x hx=>HEW.out o x (bQ1 HBB.out hx) (by rw[ho]; exact IntsAt.below (bQ1 HB0.out (bQ1 HBB.out hx)) hokj.order) (by rw[ho]; exact hokj.cap)
    rw[<- ho] at c3 HLA;clear ho hokj HEW HSO hOB HOKP;obtain⟨EB,hEB⟩:∃ x,x=endsP q nk o.xs:=⟨_,rfl⟩
    rw[<- hEB] at hEW HLA;clear hEB;obtain⟨oa,ocp,ox⟩:=o;simp only[IntsV.val] at c3 hEW;have HEWX:Hid _:=hEW;clear hEW
    cases EB with
    | false =>
     have HV:Hid (LK=none):=by show _=_; rw[HLA.out]; rfl
     clear HLA;go_upto_region 18 with fail;clear hwb m0 m1 m2 m3 m4 m5 m6;refine wp_region_below (by kernel_rfl) (by kernel_rfl) ?_;go_big_quiet_want;refine⟨.pointer (some (aD w9.heap.size 0)),fun x hx=>?_,?_⟩
     ·go_simp
     simp only[pA,sB,sC];go_big_quiet_on;go_big_quiet_want;refine⟨.int .i64 nk,fun x hx=>?_,?_⟩
     ·have e0:=cB hx n0;go_simp
     simp only[pA,sB,sC];go_big_quiet_on;go_big_quiet_want;refine⟨.bool true,fun x hx=>?_,?_⟩
     ·have hC:=Calls.within hx (HOE.out x);go_simp
     simp only[pA,sB,sC];go_big_quiet_on;go_big_quiet_want;refine⟨.bool false,fun x hx=>?_,?_⟩
     ·go_simp
     simp only[pA,sB,sC];go_big_quiet_on;go_big_quiet_want;refine⟨.bool false,fun x hx=>?_,?_⟩
     ·go_simp
     simp only[pA,sB,sC];go_big_quiet_on;go_big_quiet_want;refine⟨.pointer (some (aD w.heap.size 0)),fun x hx=>?_,?_⟩
     ·go_simp
     simp only[pA,sB,sC];go_big_quiet_on;go_big_quiet_want;refine⟨.agg #[v0,v1,v2,v3,v4,v5,v6],fun x hx=>?_,?_⟩
     ·have e0:=cB hx h0;have e1:=cB hx h1;have e2:=cB hx h2;have e3:=cB hx h3;have e4:=cB hx h4;have e5:=cB hx h5;have e6:=cB hx h6;go_simp
     simp only[pA,sB,sC];go_big_quiet_on;go_big_quiet_want;refine⟨.pointer (some (aD w9.heap.size 0)),fun x hx=>?_,?_⟩
     ·go_simp
     simp only[pA,sB,sC];go_big_quiet_on;go_big_quiet_want;refine⟨.int .i64 nk,fun x hx=>?_,?_⟩
     ·have e0:=cB hx n0;go_simp
     simp only[pA,sB,sC];go_big_quiet_on;go_big_quiet_want;refine⟨.slice (some (aD pb pof)) ps.length pcx,fun x hx=>?_,?_⟩
     ·go_simp
     simp only[pA,sB,sC];go_big_quiet_on;go_big_quiet_want;refine⟨.pointer (some (aD w9.heap.size 1)),fun x hx=>?_,?_⟩
     ·go_simp
     simp only[pA,sB,sC];go_big_quiet_on;go_big_quiet_want;refine⟨.int .i64 (j:Int),fun x hx=>?_,?_⟩
     ·have e0:=cB hx n1;go_simp
     simp only[pA,sB,sC];go_big_quiet_on;go_big_quiet_want;refine⟨.pointer (some (aD pb (pof+j*6))),fun x hx=>?_,?_⟩
     ·go_simp
     simp only[pA,sB,sC];go_big_quiet_on;go_big_quiet_want;refine⟨.pointer (some (aD pb (pof+j*6+3))),fun x hx=>?_,?_⟩
     ·go_simp
     simp only[pA,sB,sC];go_big_quiet_on;go_big_quiet_want;refine⟨.slice oa ox.length ocp,fun x hx=>?_,?_⟩
     ·have e3:=cB hx c3;go_simp
     simp only[pA,sB,sC];go_big_quiet_on;go_big_quiet_want;refine⟨.bool false,fun x hx=>?_,?_⟩
     ·have hC:=Calls.within hx (HEWX.out x hx);go_simp
     simp only[pA,sB,sC];go_big_quiet_on;go_big_quiet_want;refine⟨.bool true,fun x hx=>?_,?_⟩
     ·go_simp
     simp only[pA,sB,sC];go_big_quiet_on;go_big_quiet_want;refine⟨.bool true,fun x hx=>?_,?_⟩
     ·go_simp
     simp only[pA,sB,sC];go_big_quiet_on;refine wpQuiet_nil ?_;intro wE hbE;have HBE:Hid _:=bQ1 HBB.out hbE;clear hbE;go_wp2;go_ret2;exact⟨HBE.out,.inr ⟨HV.out,rfl⟩⟩
    | true =>
     have HV:Hid (LK=some (ps.map PartV.d)):=by show _=_; rw[HLA.out]; rfl
     clear HLA;go_upto_region 18 with fail;clear hwb m0 m1 m2 m3 m4 m5 m6;refine wp_region_below (by kernel_rfl) (by kernel_rfl) ?_;go_big_quiet_want;refine⟨.pointer (some (aD w9.heap.size 0)),fun x hx=>?_,?_⟩
     ·go_simp
     simp only[pA,sB,sC];go_big_quiet_on;go_big_quiet_want;refine⟨.int .i64 nk,fun x hx=>?_,?_⟩
     ·have e0:=cB hx n0;go_simp
     simp only[pA,sB,sC];go_big_quiet_on;go_big_quiet_want;refine⟨.bool true,fun x hx=>?_,?_⟩
     ·have hC:=Calls.within hx (HOE.out x);go_simp
     simp only[pA,sB,sC];go_big_quiet_on;go_big_quiet_want;refine⟨.bool false,fun x hx=>?_,?_⟩
     ·go_simp
     simp only[pA,sB,sC];go_big_quiet_on;go_big_quiet_want;refine⟨.bool false,fun x hx=>?_,?_⟩
     ·go_simp
     simp only[pA,sB,sC];go_big_quiet_on;go_big_quiet_want;refine⟨.pointer (some (aD w.heap.size 0)),fun x hx=>?_,?_⟩
     ·go_simp
     simp only[pA,sB,sC];go_big_quiet_on;go_big_quiet_want;refine⟨.agg #[v0,v1,v2,v3,v4,v5,v6],fun x hx=>?_,?_⟩
     ·have e0:=cB hx h0;have e1:=cB hx h1;have e2:=cB hx h2;have e3:=cB hx h3;have e4:=cB hx h4;have e5:=cB hx h5;have e6:=cB hx h6;go_simp
     simp only[pA,sB,sC];go_big_quiet_on;go_big_quiet_want;refine⟨.pointer (some (aD w9.heap.size 0)),fun x hx=>?_,?_⟩
     ·go_simp
     simp only[pA,sB,sC];go_big_quiet_on;go_big_quiet_want;refine⟨.int .i64 nk,fun x hx=>?_,?_⟩
     ·have e0:=cB hx n0;go_simp
     simp only[pA,sB,sC];go_big_quiet_on;go_big_quiet_want;refine⟨.slice (some (aD pb pof)) ps.length pcx,fun x hx=>?_,?_⟩
     ·go_simp
     simp only[pA,sB,sC];go_big_quiet_on;go_big_quiet_want;refine⟨.pointer (some (aD w9.heap.size 1)),fun x hx=>?_,?_⟩
     ·go_simp
     simp only[pA,sB,sC];go_big_quiet_on;go_big_quiet_want;refine⟨.int .i64 (j:Int),fun x hx=>?_,?_⟩
     ·have e0:=cB hx n1;go_simp
     simp only[pA,sB,sC];go_big_quiet_on;go_big_quiet_want;refine⟨.pointer (some (aD pb (pof+j*6))),fun x hx=>?_,?_⟩
     ·go_simp
     simp only[pA,sB,sC];go_big_quiet_on;go_big_quiet_want;refine⟨.pointer (some (aD pb (pof+j*6+3))),fun x hx=>?_,?_⟩
     ·go_simp
     simp only[pA,sB,sC];go_big_quiet_on;go_big_quiet_want;refine⟨.slice oa ox.length ocp,fun x hx=>?_,?_⟩
     ·have e3:=cB hx c3;go_simp
     simp only[pA,sB,sC];go_big_quiet_on;go_big_quiet_want;refine⟨.bool true,fun x hx=>?_,?_⟩
     ·have hC:=Calls.within hx (HEWX.out x hx);go_simp
     simp only[pA,sB,sC];go_big_quiet_on;go_big_quiet_want;refine⟨.bool false,fun x hx=>?_,?_⟩
     ·go_simp
     simp only[pA,sB,sC];go_big_quiet_on;go_big_quiet_want;refine⟨.bool false,fun x hx=>?_,?_⟩
     ·go_simp
     simp only[pA,sB,sC];go_big_quiet_on;refine wpQuiet_nil ?_;intro wE hbE;have HBE:Hid _:=bQ1 HBB.out hbE;have HPE:Hid _:=PartsAt.below (bQ1 HKB.out hbE) HPAX.out;clear hbE;go_wp2;go_ret2;exact⟨HBE.out,.inl ⟨_,HV.out,_,pcx,ps,rfl,HPE.out,rfl,HPBK.out,HOKQ.out⟩⟩
end Go.Proofs.YtlpbelhfpoilpaaGreatDoor
