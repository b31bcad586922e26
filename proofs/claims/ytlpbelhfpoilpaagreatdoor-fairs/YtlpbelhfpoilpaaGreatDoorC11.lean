import Derived.BigQuiet
import Derived.Deep.Cut
import Derived.OwnWalk
import Derived.Test.YtlpbelhfpoilpaaGreatDoorC08
import Derived.Test.YtlpbelhfpoilpaaGreatDoorC09
import Derived.Test.YtlpbelhfpoilpaaGreatDoorC10
set_option linter.all false
set_option maxRecDepth 100000
set_option maxHeartbeats 16000000
namespace Go.Scout
open Go.RowKit
theorem mem_take_succ {xs:List Int} {k:Nat} {v:Int} (hk:k<xs.length):v∈xs.take (k+1)↔v∈xs.take k∨xs.getD k 0=v:=by
 rw[List.take_succ_eq_append_getElem hk,List.mem_append,List.mem_singleton];have e:xs.getD k 0=xs[k]:=by simp[List.getD,hk]
 rw[e];constructor
 ·rintro (h | h)
  ·exact .inl h
  ·exact .inr h.symm
 ·rintro (h | h)
  ·exact .inl h
  ·exact .inr h.symm
theorem take_eq_succ {xs ys:List Int} {k:Nat} (hx:k<xs.length) (hy:k<ys.length) (h:xs.take k=ys.take k) (e:xs.getD k 0=ys.getD k 0):xs.take (k+1)=ys.take (k+1):=by
 rw[List.take_succ_eq_append_getElem hx,List.take_succ_eq_append_getElem hy,h];have e1:xs.getD k 0=xs[k]:=by simp[List.getD,hx]
 have e2:ys.getD k 0=ys[k]:=by simp[List.getD,hy]
 rw[<- e1,<- e2,e]
theorem take_ne_at {xs ys:List Int} {k:Nat} (hy:k<ys.length) (e:xs.getD k 0≠ys.getD k 0):xs.take ys.length≠ys:=fun h=>e (by
 have:(xs.take ys.length).getD k 0=ys.getD k 0:=by rw[h]
 rw[<- this];simp[List.getD,List.getElem?_take,hy])
end Go.Scout
namespace Go.Proofs.YtlpbelhfpoilpaaGreatDoor
open Go.RowKit Go.Scout
theorem has_any (ao:Option Addr) (cap:Nat) (xs:List Int) (v:Int) (w:World) (hx:IntsAt w ao xs) :
  Calls Tryz.prog 125 #[.slice ao xs.length cap,.int .i64 v] w fun e w'=>e=.returned (.bool (decide (v∈xs)))/\w' = w:=by
 have hl:=hx.1;go_enter Tryz.func125,Tryz.ntmps125;go_wp2;go_loop [5] (fun i=>∃ k:Nat,k<=xs.length/\i=.int .i64 k/\v ∉ xs.take k) (fun i=>xs.length-(intOf i).toNat)
 case atStart=>exact⟨0,Nat.zero_le _,rfl,by simp⟩
 case round=>
  obtain⟨k,hk,rfl,hn⟩:=hrel;by_cases hlt:k<xs.length
  ·obtain⟨b,off,rfl,hc⟩:=hx.get hlt;have h1:=hc k hlt;have HM:Hid _:=mem_take_succ (v:=v) hlt;have HN:Hid _:=hn;have HG:Hid (xs.getD k 0∈xs):=by
    show _∈_
    have e:xs.getD k 0=xs[k]:=by simp[List.getD,hlt]
    rw[e]; exact List.getElem_mem hlt
   clear hc hx hn;obtain⟨x,hxe⟩:∃ x,x=xs.getD k 0:=⟨_,rfl⟩
   rw[<- hxe] at h1 HM HG;clear hxe;by_cases hv:x=v
   ·have hbv:(x==v)=true:=by simp[hv]
    go_wp2;go_ret;exact⟨ret_bool (decide_eq_true (by rw[<- hv]; exact HG.out)).symm,rfl⟩
   ·have hbv:(x==v)=false:=by simp[hv]
    go_wp2;go_round
    case rel=>exact⟨k+1,by omega,by go_num,fun e=>by
     rcases HM.out.1 e with e | e
     ·exact HN.out e
     ·exact hv e⟩
    case measure=>simp[intOf]; omega
  ·have e:k=xs.length:=by omega
   rw[e,List.take_length] at hn;have HN:Hid _:=hn;clear hn;go_wp2;go_ret;exact⟨ret_bool (decide_eq_false HN.out).symm,rfl⟩
theorem starts_any (ao bo:Option Addr) (cap cap':Nat) (xs ys:List Int) (w:World) (hx:IntsAt w ao xs) (hy:IntsAt w bo ys) :
  Calls Tryz.prog 100 #[.slice ao xs.length cap,.slice bo ys.length cap'] w fun e w'=>e=.returned (.bool (startsB xs ys))/\Below w.heap.size w w':=by
 have hl:=hx.1;have hl':=hy.1;by_cases hle:ys.length<=xs.length
 ·have HS:Hid (startsB xs ys=decide (xs.take ys.length=ys)):=by
   show _=_
   unfold startsB;rw[decide_eq_true hle,Bool.true_and]
  go_enter Tryz.func100,Tryz.ntmps100;go_wp2;go_loopw [5] (fun i wr=>∃ k:Nat,k<=ys.length/\i=.int .i64 k/\xs.take k=ys.take k/\∃ n,wr=w.drewN n) (fun i _=>ys.length-(intOf i).toNat)
  case atStart=>exact⟨0,Nat.zero_le _,rfl,rfl,0,rfl⟩
  case round=>
   obtain⟨k,hk,rfl,he,n,rfl⟩:=hrel;have HE:Hid _:=he;clear he;by_cases hlt:k<ys.length
   ·have hltx:k<xs.length:=by omega
    obtain⟨b,off,rfl,hc⟩:=hx.get hltx;obtain⟨b',off',rfl,hc'⟩:=hy.get hlt;have h1:=hc k hltx;have h2:=hc' k hlt;clear hc hc' hx hy;obtain⟨x,hxe⟩:∃ x,x=xs.getD k 0:=⟨_,rfl⟩
    obtain⟨y,hye⟩:∃ y,y=ys.getD k 0:=⟨_,rfl⟩
    rw[<- hxe] at h1;rw[<- hye] at h2;have HX:Hid _:=hxe;have HY:Hid _:=hye;clear hxe hye;by_cases hv:x=y
    ·have hbv:(x != y)=false:=by simp[hv]
     go_wp2;go_quiet (fail);go_wp2;go_roundw
     case rel=>exact⟨k+1,by omega,by go_num,take_eq_succ hltx hlt HE.out (by rw[<- HX.out,<- HY.out]; exact hv),_,rfl⟩
     case measure=>simp[intOf]; omega
    ·have hbv:(x != y)=true:=by simp[hv]
     go_wp2;go_quiet (fail);go_wp2;go_ret;exact⟨ret_bool (by rw[HS.out]; exact (decide_eq_false (take_ne_at hlt (by rw[<- HX.out,<- HY.out]; exact hv))).symm),below_drewN (below_drewN (Below.refl _ _) _) _⟩
   ·have e:k=ys.length:=by omega
    have HK:Hid _:=e;clear e;go_wp2;go_ret;exact⟨ret_bool (by rw[HS.out]; refine (decide_eq_true ?_).symm; have:=HE.out; rw[HK.out,List.take_length] at this; exact this),below_drewN (Below.refl _ _) _⟩
 ·have HS:Hid (startsB xs ys=false):=by
   show _=_
   unfold startsB;rw[decide_eq_false hle,Bool.false_and]
  go_enter Tryz.func100,Tryz.ntmps100;go_wp2;go_ret;exact⟨ret_bool HS.out.symm,Below.refl _ _⟩
theorem widthTo_any (ao:Option Addr) (cap:Nat) (ts:List TableD) (q:QueryV) (s:Nat) (w:World) (hx:TablesAt w ao ts) (hc:catB ts=true) (hq:q.src.At w) (h5:q.src.xs.length<=5) (ha:allB q.src.xs ts.length=true) (hs:s<=q.src.xs.length) :
  Calls Tryz.prog 89 #[.slice ao ts.length cap,.agg q.cells,.int .i64 s] w fun e w'=>e=.returned (.int .i64 (widthN ts (q.src.xs.take s)))/\Below w.heap.size w w':=by
 obtain⟨⟨sad,scap,xs⟩,wad,wcap,wh,group,keys,sums,sel,ord⟩:=q;unfold IntsV.At at hq;simp only at h5 ha hq hs;unfold QueryV.cells IntsV.val;simp only;have hl:=hx.1;have HC:Hid (catB ts=true):=hc;have HA:Hid (allB xs ts.length=true):=ha;clear hc ha;go_enter Tryz.func89,Tryz.ntmps89;go_wp2;go_loop [7,8] (fun n i=>∃ k:Nat,k<=s/\i=.int .i64 k/\n=.int .i64 (widthN ts (xs.take k))) (fun _ i=>xs.length-(intOf i).toNat)
 case atStart=>exact⟨0,Nat.zero_le _,rfl,rfl⟩
 case round=>
  obtain⟨k,hk,rfl,rfl⟩:=hrel;have hbd:=widthN_bd HC.out HA.out k (by omega);by_cases hlt:k<s
  ·have hltx:k<xs.length:=by omega
   obtain⟨sb,soff,rfl,hs'⟩:=hq.get hltx;have hsk:=cell_alloc (hs' k hltx);have hr:=allB_at HA.out hltx;have hcol:=cols_of HC.out (i:=xs[k].toNat) (by omega);obtain⟨b,off,rfl,c0,-⟩:=hx.2 xs[k].toNat (by omega);have hck:=cell_alloc c0;have HS:Hid (widthN ts (xs.take (k+1))=widthN ts (xs.take k)+(ts.getD xs[k].toNat tz).cols):=widthN_snoc ts xs k hltx;generalize (ts.getD xs[k].toNat tz).cols=cc at *;generalize widthN ts (xs.take k)=W0 at *;clear hs' c0 hx hq;go_wp2;go_round
   case rel=>exact⟨k+1,by omega,by go_num,by rw[HS.out]⟩
   case measure=>simp[intOf]; omega
  ·have e:k=s:=by omega
   subst e;clear hbd hx hq;go_wp2;go_ret;exact⟨rfl,(Below.refl _ _).alloc (Nat.le_refl _) _⟩
theorem source_any (ao:Option Addr) (cap:Nat) (ts:List TableD) (q:QueryV) (c:Int) (w:World) (hx:TablesAt w ao ts) (hc:catB ts=true) (hq:q.src.At w) (h5:q.src.xs.length<=5) (ha:allB q.src.xs ts.length=true) (h0:0<=c) (hl:c<widthN ts q.src.xs) :
  Calls Tryz.prog 162 #[.slice ao ts.length cap,.agg q.cells,.int .i64 c] w fun e w'=>e=.returned (.int .i64 (sourceN ts q.src.xs c:Nat))/\Below w.heap.size w w':=by
 have hW:=fun (s:Nat) (hs:s<=q.src.xs.length) x (hb:Below w.heap.size w x)=>widthTo_any ao cap ts q s x (hx.below hb) hc (IntsAt.below hb hq) h5 ha hs
 have HF:Hid (∀ (s:Nat),s<=sourceN ts q.src.xs c->(c ≥ widthN ts (q.src.xs.take (s+1))↔s<sourceN ts q.src.xs c)):=fun s hs=>sourceN_first hc ha h0 hl hs
 have hs5:=(sourceN_at hc ha h0 hl).1;have HWb:Hid (∀ k,k<=q.src.xs.length->0<=widthN ts (q.src.xs.take k)/\widthN ts (q.src.xs.take k)<=4*k):=fun k hk=>widthN_bd hc ha k hk
 have hts:=hx.1;have hqc:q.cells=#[q.src.val,.slice q.wad q.wh.length q.wcap,.bool q.group,q.keys.val,q.sums.val,q.sel.val,q.ord.val]:=rfl;clear hc ha hx hq;obtain⟨S,hS⟩:∃ S,S=sourceN ts q.src.xs c:=⟨_,rfl⟩
 rw[<- hS] at HF hs5 ⊢;clear hS;have hW':=fun (s:Nat) (hs:s<=q.src.xs.length) x (hb:Below w.heap.size w x)=>hW s hs x hb
 clear hW;rw[hqc] at hW' ⊢;clear hqc;obtain⟨w1,hw1⟩:∃ x,x=w.alloc (.cells #[q.src.val,.slice q.wad q.wh.length q.wcap,.bool q.group,q.keys.val,q.sums.val,q.sel.val,q.ord.val] 26):=⟨_,rfl⟩
 have hk1:Below w.heap.size w w1:=by rw[hw1]; exact bQ2 _ _
 have hbox:GB w1 w.heap.size 26 #[q.src.val,.slice q.wad q.wh.length q.wcap,.bool q.group,q.keys.val,q.sums.val,q.sel.val,q.ord.val]:=by rw[hw1]; exact bQ3 _ _
 have HW:Hid (Below w1.heap.size w1 (w.alloc (.cells #[q.src.val,.slice q.wad q.wh.length q.wcap,.bool q.group,q.keys.val,q.sums.val,q.sel.val,q.ord.val] 26))):=show Below _ _ _ by rw[hw1]; exact Below.refl _ _
 have HK1:Hid _:=hk1;have HWW:Hid _:=hW';clear hw1 hW' hk1;have q0:w1.cell? (aD w.heap.size 0)=some q.src.val:=hbox.cell 0;have q1:w1.cell? (aD w.heap.size 1)=some (.slice q.wad q.wh.length q.wcap):=hbox.cell 1;have q2:w1.cell? (aD w.heap.size 2)=some (.bool q.group):=hbox.cell 2;have q3:w1.cell? (aD w.heap.size 3)=some q.keys.val:=hbox.cell 3;have q4:w1.cell? (aD w.heap.size 4)=some q.sums.val:=hbox.cell 4;have q5:w1.cell? (aD w.heap.size 5)=some q.sel.val:=hbox.cell 5;have q6:w1.cell? (aD w.heap.size 6)=some q.ord.val:=hbox.cell 6;clear hbox;unfold IntsV.val at *;generalize q.src.xs=xs at *;go_enter Tryz.func162,Tryz.ntmps162;go_wp2;go_loopw [7] (fun v wr=>∃ s:Nat,s<=S/\v=.int .i64 s/\Below w1.heap.size w1 wr) (fun v _=>S-(intOf v).toNat)
 case atStart=>exact⟨0,Nat.zero_le _,rfl,HW.out⟩
 case round=>
  clear HW;obtain⟨s,hsS,rfl,hbr⟩:=hrel;have e0:=cB hbr q0;have e1:=cB hbr q1;have e2:=cB hbr q2;have e3:=cB hbr q3;have e4:=cB hbr q4;have e5:=cB hbr q5;have e6:=cB hbr q6;go_wp2_with fail;have hcast:((s+1:Nat):Int)=(s:Int)+1:=by omega
  have hC:=HWW.out (s+1) (by omega) wr (bQ1 HK1.out hbr);rw[hcast] at hC;refine hC.mono ?_;rintro e w2 ⟨rfl,hb2⟩;have hbd:=HWb.out (s+1) (by omega);have hF:=HF.out s hsS;have k2:=bQ1 hbr hb2;clear e0 e1 e2 e3 e4 e5 e6 hC hcast hb2 hbr;generalize widthN ts (xs.take (s+1))=W at *;by_cases hlt:s<S
  ·have hge:W<=c:=hF.2 hlt;clear hF;go_wp2;go_roundw
   case rel=>exact⟨s+1,by omega,by go_num,k2⟩
   case measure=>simp[intOf]; omega
  ·have hge:¬ W<=c:=fun e=>hlt (hF.1 e)
   have e:s=S:=by omega
   clear hF;subst e;go_wp2;go_ret;exact⟨rfl,bQ1 HK1.out k2⟩
end Go.Proofs.YtlpbelhfpoilpaaGreatDoor
namespace Go.Scout
open Go.RowKit
theorem kd_at {w:World} {ao:Option Addr} {ts:List TableD} (h:TablesAt w ao ts) {i:Nat} (hi:i<ts.length) {m:Nat} (hm:m<4) :
  ∃ b off,ao=some (aD b off)/\w.cell? (aD b (off+i*6+2+m))=some (.int .i64 ((ts.getD i tz).kd m)):=by
 obtain⟨b,off,e,_,_,h2,h3,h4,h5⟩:=h.2 i hi;refine⟨b,off,e,?_⟩;rcases (by omega:m=0∨m=1∨m=2∨m=3) with rfl | rfl | rfl | rfl
 ·exact h2
 ·exact h3
 ·exact h4
 ·exact h5
end Go.Scout
namespace Go.Proofs.YtlpbelhfpoilpaaGreatDoor
open Go.RowKit Go.Scout
theorem kinds_any (ao:Option Addr) (cap:Nat) (ts:List TableD) (q:QueryV) (c:Int) (w:World) (hx:TablesAt w ao ts) (hc:catB ts=true) (hq:q.src.At w) (h5:q.src.xs.length<=5) (ha:allB q.src.xs ts.length=true) (h0:0<=c) (hl:c<widthN ts q.src.xs) :
  Calls Tryz.prog 233 #[.slice ao ts.length cap,.agg q.cells,.int .i64 c] w fun e w'=>e=.returned (.int .i64 (kindsN ts q.src.xs c))/\Below w.heap.size w w':=by
 obtain⟨s1,s2,s3,s4⟩:=sourceN_at hc ha h0 hl;have hSO:=fun x (hb:Below w.heap.size w x)=>source_any ao cap ts q c x (hx.below hb) hc (IntsAt.below hb hq) h5 ha h0 hl
 have hWI:=fun x (hb:Below w.heap.size w x)=>widthTo_any ao cap ts q (sourceN ts q.src.xs c) x (hx.below hb) hc (IntsAt.below hb hq) h5 ha (by omega)
 have hbd:=widthN_bd hc ha (sourceN ts q.src.xs c) (by omega);have hsn:=widthN_snoc ts q.src.xs (sourceN ts q.src.xs c) s1;have hat:=allB_at ha s1;have hco:=cols_of hc (i:=(q.src.xs[sourceN ts q.src.xs c]).toNat) (by omega);have hgd:q.src.xs.getD (sourceN ts q.src.xs c) 0=q.src.xs[sourceN ts q.src.xs c]:=by simp[List.getD,s1]
 obtain⟨sb,so,hsad,hsc⟩:=hq.get s1;have hcs:=hsc _ s1;rw[hgd] at hcs s4;obtain⟨W,hW⟩:∃ W,W=widthN ts (q.src.xs.take (sourceN ts q.src.xs c)):=⟨_,rfl⟩
 obtain⟨T,hT⟩:∃ T,T=q.src.xs[sourceN ts q.src.xs c]:=⟨_,rfl⟩
 rw[<- hW] at hWI hbd hsn s2 s4;rw[<- hT] at hsn hat hco hcs s4;obtain⟨m,hm⟩:∃ m:Nat,(m:Int)=c-W:=⟨(c-W).toNat,by omega⟩
 obtain⟨tb,to',htao,htc⟩:=kd_at hx (i:=T.toNat) (m:=m) (by omega) (by omega);have hm4:m<4:=by omega
 have e4:c.toNat-W.toNat=m:=by omega
 rw[e4] at s4;have htl:=hx.1;have hT0:((T.toNat:Nat):Int)=T:=by omega
 have hTl:T.toNat<ts.length:=by omega
 obtain⟨K,hK⟩:∃ K,K=kindsN ts q.src.xs c:=⟨_,rfl⟩
 rw[<- s4,<- hK] at htc;rw[<- hK];obtain⟨S,hS⟩:∃ S,S=sourceN ts q.src.xs c:=⟨_,rfl⟩
 rw[<- hS] at hSO hWI hcs s1;obtain⟨tn,htn⟩:∃ tn,tn=T.toNat:=⟨_,rfl⟩
 rw[<- htn] at htc hT0 hTl;have hTt:T=(tn:Int):=hT0.symm;rw[hTt] at hcs;clear hS hK s2 s3 s4 hsn hW hT hgd hsc hat hco e4 htn hT0 hTt;obtain⟨w1,hw1⟩:∃ x,x=w.alloc (.cells q.cells 26):=⟨_,rfl⟩
 have hk1:Below w.heap.size w w1:=by rw[hw1]; exact bQ2 _ _
 have hbox:GB w1 w.heap.size 26 q.cells:=by rw[hw1]; exact bQ3 _ _
 have HSO:Hid _:=hSO;have HWI:Hid _:=hWI;clear hSO hWI hx hq ha hc;rw[htao];rw[htao] at HSO HWI;obtain⟨⟨sad,scap,xs⟩,wad,wcap,wh,group,⟨kad,kcap,kxs⟩,⟨uad,ucap,uxs⟩,⟨lad,lcap,lxs⟩,⟨oad,ocap,oxs⟩⟩:=q;unfold QueryV.cells IntsV.val at *;simp only at *;subst hsad;have q0:w1.cell? (aD w.heap.size 0)=some (.slice (some (aD sb so)) xs.length scap):=hbox.cell 0;have q1:w1.cell? (aD w.heap.size 1)=some (.slice wad wh.length wcap):=hbox.cell 1;have q2:w1.cell? (aD w.heap.size 2)=some (.bool group):=hbox.cell 2;have q3:w1.cell? (aD w.heap.size 3)=some (.slice kad kxs.length kcap):=hbox.cell 3;have q4:w1.cell? (aD w.heap.size 4)=some (.slice uad uxs.length ucap):=hbox.cell 4;have q5:w1.cell? (aD w.heap.size 5)=some (.slice lad lxs.length lcap):=hbox.cell 5;have q6:w1.cell? (aD w.heap.size 6)=some (.slice oad oxs.length ocap):=hbox.cell 6;have hWC:w.alloc (.cells #[.slice (some (aD sb so)) xs.length scap,.slice wad wh.length wcap,.bool group,.slice kad kxs.length kcap,.slice uad uxs.length ucap,.slice lad lxs.length lcap,.slice oad oxs.length ocap] 26)=w1:=hw1.symm;clear hw1 hbox;have hcm:c-W=(m:Int):=hm.symm;clear hm;have hwm:IntKind.i64.wrap (m:Int)=m:=by rw[IntKind.wrap_i64]; omega
 have hmi:(m:Int)<4:=by omega
 go_enter Tryz.func233,Tryz.ntmps233;go_upto_region 1 with fail;clear hWC;go_wp2_with fail;refine (HSO.out w1 hk1).mono ?_;rintro e w2 ⟨rfl,hb2⟩;have k2:=bQ1 hk1 hb2;have hb2':Below w1.heap.size w1 w2:=hb2;clear hb2;clear hbd hl;go_wp2;refine wp_region_below (by kernel_rfl) (by kernel_rfl) ?_;go_big_quiet_want;refine⟨.slice (some (aD tb to')) ts.length cap,fun x hx=>?_,?_⟩
 ·go_simp
 simp only[pA,sB,sC];go_big_quiet_on;go_big_quiet_want;refine⟨.pointer (some (aD w.heap.size 0)),fun x hx=>?_,?_⟩
 ·go_simp
 simp only[pA,sB,sC];go_big_quiet_on;go_big_quiet_want;refine⟨.slice (some (aD sb so)) xs.length scap,fun x hx=>?_,?_⟩
 ·have e0:=cB (bQ1 hb2' hx) q0;go_simp
 simp only[pA,sB,sC];go_big_quiet_on;go_big_quiet_want;refine⟨.int .i64 S,fun x hx=>?_,?_⟩
 ·go_simp
 simp only[pA,sB,sC];go_big_quiet_on;go_big_quiet_want;refine⟨.pointer (some (aD sb (so+S))),fun x hx=>?_,?_⟩
 ·go_simp
 simp only[pA,sB,sC];go_big_quiet_on;go_big_quiet_want;refine⟨.int .i64 tn,fun x hx=>?_,?_⟩
 ·have e0:=cB (bQ1 k2 hx) hcs;go_simp
 simp only[pA,sB,sC];go_big_quiet_on;go_big_quiet_want;refine⟨.int .i64 c,fun x hx=>?_,?_⟩
 ·go_simp
 simp only[pA,sB,sC];go_big_quiet_on;go_big_quiet_want;refine⟨.slice (some (aD tb to')) ts.length cap,fun x hx=>?_,?_⟩
 ·go_simp
 simp only[pA,sB,sC];go_big_quiet_on;go_big_quiet_want;refine⟨.agg #[.slice (some (aD sb so)) xs.length scap,.slice wad wh.length wcap,.bool group,.slice kad kxs.length kcap,.slice uad uxs.length ucap,.slice lad lxs.length lcap,.slice oad oxs.length ocap],fun x hx=>?_,?_⟩
 ·have e0:=cB (bQ1 hb2' hx) q0;have e1:=cB (bQ1 hb2' hx) q1;have e2:=cB (bQ1 hb2' hx) q2;have e3:=cB (bQ1 hb2' hx) q3;have e4:=cB (bQ1 hb2' hx) q4;have e5:=cB (bQ1 hb2' hx) q5;have e6:=cB (bQ1 hb2' hx) q6;go_simp
 simp only[pA,sB,sC];go_big_quiet_on;go_big_quiet_want;refine⟨.int .i64 S,fun x hx=>?_,?_⟩
 ·go_simp
 simp only[pA,sB,sC];go_big_quiet_on;go_big_quiet_want;refine⟨.int .i64 W,fun x hx=>?_,?_⟩
 ·have hC:=Calls.within hx (HWI.out x (bQ1 k2 hx));go_simp
 simp only[pA,sB,sC];go_big_quiet_on;go_big_quiet_want;refine⟨.int .i64 m,fun x hx=>?_,?_⟩
 ·go_simp
 simp only[pA,sB,sC];go_big_quiet_on;go_big_quiet_want;refine⟨.pointer (some (aD tb (to'+tn*6))),fun x hx=>?_,?_⟩
 ·go_simp
 simp only[pA,sB,sC];go_big_quiet_on;go_big_quiet_want;refine⟨.pointer (some (aD tb (to'+tn*6+2))),fun x hx=>?_,?_⟩
 ·go_simp
 simp only[pA,sB,sC];go_big_quiet_on;go_big_quiet_want;refine⟨.pointer (some (aD tb (to'+tn*6+2+m))),fun x hx=>?_,?_⟩
 ·go_simp
 simp only[pA,sB,sC];go_big_quiet_on;go_big_quiet_want;refine⟨.int .i64 K,fun x hx=>?_,?_⟩
 ·have e0:=cB (bQ1 k2 hx) htc;go_simp
 simp only[pA,sB,sC];go_big_quiet_on;go_big_quiet_want;refine⟨.int .i64 K,fun x hx=>?_,?_⟩
 ·go_simp
 simp only[pA,sB,sC];go_big_quiet_on;refine wpQuiet_nil ?_;intro w3 hb3;have k3:=bQ1 k2 hb3;clear hb3;go_wp2;go_ret;exact⟨rfl,k3⟩
end Go.Proofs.YtlpbelhfpoilpaaGreatDoor
namespace Go.Scout
open Go.RowKit
theorem table_of {ts:List TableD} (hc:catB ts=true) {i:Nat} (hi:i<ts.length):tableB (ts.getD i tz)=true:=by
 cases h:tableB (ts.getD i tz) with
 | true => rfl
 | false => rw[<- catB_bad hi h] at hc; cases hc
theorem kinds_bd {ts:List TableD} {src:List Int} (hc:catB ts=true) (ha:allB src ts.length=true) {c:Int} (h0:0<=c) (hl:c<widthN ts src):1<=kindsN ts src c/\kindsN ts src c<=1000000:=by
 obtain⟨s1,s2,s3,s4⟩:=sourceN_at hc ha h0 hl;have hsn:=widthN_snoc ts src (sourceN ts src c) s1;have hbd:=widthN_bd hc ha (sourceN ts src c) (by omega);have hat:=allB_at ha s1;have hgd:src.getD (sourceN ts src c) 0=src[sourceN ts src c]:=by simp[List.getD,s1]
 rw[hgd] at s4;have ht:tableB (ts.getD (src[sourceN ts src c]).toNat tz)=true:=table_of hc (by omega);unfold tableB at ht;rw[decide_eq_true_eq] at ht;rw[s4];exact ht.2.2.2.2 _ (by omega)
end Go.Scout
namespace Go.Proofs.YtlpbelhfpoilpaaGreatDoor
open Go.RowKit Go.Scout
theorem parts_any (ao:Option Addr) (cap:Nat) (ts:List TableD) (q:QueryV) (k:Nat) (w:World) (hx:TablesAt w ao ts) (hc:catB ts=true) (hq:q.At w) (h5:q.src.xs.length<=5) (ha:allB q.src.xs ts.length=true) (hk:k<q.wh.length) (hcol:∀ c∈columnsN (q.wh.getD k lz).cs,0<=c/\c<widthN ts q.src.xs) :
  Calls Tryz.prog 157 #[.slice ao ts.length cap,.agg q.cells,.int .i64 k] w fun e w'=>e=.returned (.int .u64 (partsN ts q.src.xs (q.wh.getD k lz).cs:Nat))/\Below w.heap.size w w':=by
 have HKI:Hid (∀ c∈columnsN (q.wh.getD k lz).cs,(∀ x,Below w.heap.size w x->Calls Tryz.prog 233 #[.slice ao ts.length cap,.agg q.cells,.int .i64 c] x fun e w'=>e=.returned (.int .i64 (kindsN ts q.src.xs c))/\Below x.heap.size x w')/\1<=kindsN ts q.src.xs c/\kindsN ts q.src.xs c<=1000000):=fun c hm=>
  ⟨fun x hb=>kinds_any ao cap ts q c x (hx.below hb) hc (IntsAt.below hb hq.src) h5 ha (hcol c hm).1 (hcol c hm).2,kinds_bd hc ha (hcol c hm).1 (hcol c hm).2⟩
 clear hcol hc ha hx;have hwl:=hq.wh.1;obtain⟨wb,wo,hwad,hwc⟩:=CellsAt.get hq.wh.2.1 hk;have hck:=hwc k hk;have hcs:=hq.wh.2.2 k hk;clear hwc hq;obtain⟨w1,hw1⟩:∃ x,x=w.alloc (.cells q.cells 26):=⟨_,rfl⟩
 have hk1:Below w.heap.size w w1:=by rw[hw1]; exact bQ2 _ _
 have hbox:GB w1 w.heap.size 26 q.cells:=by rw[hw1]; exact bQ3 _ _
 obtain⟨⟨sad,scap,xs⟩,wad,wcap,wh,group,⟨kad,kcap,kxs⟩,⟨uad,ucap,uxs⟩,⟨lad,lcap,lxs⟩,⟨oad,ocap,oxs⟩⟩:=q;unfold QueryV.cells IntsV.val at *;simp only at *;subst hwad;generalize wh.getD k lz=cl at *;obtain⟨ca,cc,cs⟩:=cl;unfold ClauseV.val at hck;simp only at hck hcs HKI ⊢;have q0:w1.cell? (aD w.heap.size 0)=some (.slice sad xs.length scap):=hbox.cell 0;have q1:w1.cell? (aD w.heap.size 1)=some (.slice (some (aD wb wo)) wh.length wcap):=hbox.cell 1;have q2:w1.cell? (aD w.heap.size 2)=some (.bool group):=hbox.cell 2;have q3:w1.cell? (aD w.heap.size 3)=some (.slice kad kxs.length kcap):=hbox.cell 3;have q4:w1.cell? (aD w.heap.size 4)=some (.slice uad uxs.length ucap):=hbox.cell 4;have q5:w1.cell? (aD w.heap.size 5)=some (.slice lad lxs.length lcap):=hbox.cell 5;have q6:w1.cell? (aD w.heap.size 6)=some (.slice oad oxs.length ocap):=hbox.cell 6;have hWC:w.alloc (.cells #[.slice sad xs.length scap,.slice (some (aD wb wo)) wh.length wcap,.bool group,.slice kad kxs.length kcap,.slice uad uxs.length ucap,.slice lad lxs.length lcap,.slice oad oxs.length ocap] 26)=w1:=hw1.symm;have hck1:=cB hk1 hck;clear hw1 hbox hck;have hcl:=hcs.1;by_cases hone:cs.length=1
 ·obtain⟨cb,co,rfl,c0,c1,c2,c3,c4⟩:=hcs.2 0 (by omega);have d0:=cB hk1 c0;have d1:=cB hk1 c1;have d2:=cB hk1 c2;have d3:=cB hk1 c3;have d4:=cB hk1 c4;have HCO:Hid (columnsN cs=condCols (cs.getD 0 cz)):=by
   show _=_
   match cs,hone with
   | [c],_ => simp[columnsN]
  have HPA:Hid (partsN ts xs cs=if (cs.getD 0 cz).not=true then 2 else if (cs.getD 0 cz).op=1 then 3 else if (cs.getD 0 cz).op=2 then 10 else if (cs.getD 0 cz).const=true then (kindsN ts xs (cs.getD 0 cz).left).toNat
    else max (kindsN ts xs (cs.getD 0 cz).left).toNat (kindsN ts xs (cs.getD 0 cz).right).toNat):=by
   show _=_
   unfold partsN;by_cases e:(cs.getD 0 cz).not=true
   ·rw[if_pos (.inr e),if_pos e]
   ·rw[if_neg (fun h=>h.elim (absurd hone) e),if_neg e]
  clear c0 c1 c2 c3 c4 hcs;generalize cs.getD 0 cz=c at *;obtain⟨not,op,left,const,right⟩:=c;simp only[Nat.zero_mul,Nat.add_zero] at d0 d1 d2 d3 d4 HCO HPA;rw[hone] at hck1;have HL:=HKI.out;rw[HCO.out] at HL;unfold condCols at HL;simp only at HL;have HL2:Hid _:=HL;clear HL HKI HCO hcl
  cases not with
  | true =>
   go_enter Tryz.func157,Tryz.ntmps157;go_wp2;go_ret;exact⟨by rw[HPA.out]; rfl,hk1⟩
  | false =>
   by_cases o1:op=1
   ·subst o1;go_enter Tryz.func157,Tryz.ntmps157;go_wp2;go_ret;exact⟨by rw[HPA.out]; rfl,hk1⟩
   by_cases o2:op=2
   ·subst o2;go_enter Tryz.func157,Tryz.ntmps157;go_wp2;go_ret;exact⟨by rw[HPA.out]; rfl,hk1⟩
   have b1:(op==1)=false:=by simp[o1]
   have b2:(op==2)=false:=by simp[o2]
   have HP2:Hid (partsN ts xs cs=if const=true then (kindsN ts xs left).toNat else max (kindsN ts xs left).toNat (kindsN ts xs right).toNat):=by
    show _=_
    rw[HPA.out,if_neg (by simp),if_neg o1,if_neg o2]
   clear HPA;have HL3:=HL2.out left (by split <;> simp);have hka:=HL3.1;have hkb:=HL3.2;clear HL3;obtain⟨K,hK⟩:∃ K,K=kindsN ts xs left:=⟨_,rfl⟩
   rw[<- hK] at hka hkb HP2;clear hK;obtain⟨n,rfl⟩:∃ n:Nat,K=n:=⟨K.toNat,by omega⟩
   have HKA:Hid _:=hka;clear hka
   cases const with
   | true =>
    clear HL2;have HP3:Hid (partsN ts xs cs=n):=by
     show _=_
     rw[HP2.out,if_pos rfl];rfl
    clear HP2;go_enter Tryz.func157,Tryz.ntmps157;go_wp2;refine wp_region_below (by kernel_rfl) (by kernel_rfl) ?_;go_big_quiet_want;refine⟨.slice ao ts.length cap,fun x hx=>?_,?_⟩
    ·go_simp
    simp only[pA,sB,sC];go_big_quiet_on;go_big_quiet_want;refine⟨.agg #[.slice sad xs.length scap,.slice (some (aD wb wo)) wh.length wcap,.bool group,.slice kad kxs.length kcap,.slice uad uxs.length ucap,.slice lad lxs.length lcap,.slice oad oxs.length ocap],fun x hx=>?_,?_⟩
    ·have e0:=cB (hx) q0;have e1:=cB (hx) q1;have e2:=cB (hx) q2;have e3:=cB (hx) q3;have e4:=cB (hx) q4;have e5:=cB (hx) q5;have e6:=cB (hx) q6;go_simp
    simp only[pA,sB,sC];go_big_quiet_on;go_big_quiet_want;refine⟨.slice (some (aD cb co)) 1 cc,fun x hx=>?_,?_⟩
    ·go_simp
    simp only[pA,sB,sC];go_big_quiet_on;go_big_quiet_want;refine⟨.pointer (some (aD cb co)),fun x hx=>?_,?_⟩
    ·go_simp
    simp only[pA,sB,sC];go_big_quiet_on;go_big_quiet_want;refine⟨.pointer (some (aD cb (co+2))),fun x hx=>?_,?_⟩
    ·go_simp
    simp only[pA,sB,sC];go_big_quiet_on;go_big_quiet_want;refine⟨.int .i64 left,fun x hx=>?_,?_⟩
    ·have e0:=cB hx d2;go_simp
    simp only[pA,sB,sC];go_big_quiet_on;go_big_quiet_want;refine⟨.int .i64 n,fun x hx=>?_,?_⟩
    ·have hC:=Calls.within hx (HKA.out x (bQ1 hk1 hx));go_simp
    simp only[pA,sB,sC];go_big_quiet_on;go_big_quiet_want;refine⟨.int .i64 n,fun x hx=>?_,?_⟩
    ·go_simp
    simp only[pA,sB,sC];go_big_quiet_on;refine wpQuiet_nil ?_;intro w2 hb2;have k2:=bQ1 hk1 hb2;have d3':=cB hb2 d3;have hwn:IntKind.u64.wrap (n:Int)=n:=by rw[IntKind.wrap_u64]; omega
    clear hb2;go_wp2;go_ret;exact⟨ret_u64 HP3.out.symm,k2⟩
   | false =>
    have HL3:=HL2.out right (by rw[if_pos ⟨o2,rfl⟩]; simp);have hka:=HL3.1;have hkc:=HL3.2;clear HL3 HL2;obtain⟨K2,hK2⟩:∃ K,K=kindsN ts xs right:=⟨_,rfl⟩
    rw[<- hK2] at hka hkc HP2;clear hK2;obtain⟨m,rfl⟩:∃ n:Nat,K2=n:=⟨K2.toNat,by omega⟩
    have HKB:Hid _:=hka;clear hka;have HP3:Hid (partsN ts xs cs=max n m):=by
     show _=_
     rw[HP2.out,if_neg (by simp)];rfl
    clear HP2;have hwn:IntKind.u64.wrap (n:Int)=n:=by rw[IntKind.wrap_u64]; omega
    have hwm:IntKind.u64.wrap (m:Int)=m:=by rw[IntKind.wrap_u64]; omega
    by_cases hnm:n<m
    ·go_enter Tryz.func157,Tryz.ntmps157;go_wp2;refine wp_region_below (by kernel_rfl) (by kernel_rfl) ?_;go_big_quiet_want;refine⟨.slice ao ts.length cap,fun x hx=>?_,?_⟩
     ·go_simp
     simp only[pA,sB,sC];go_big_quiet_on;go_big_quiet_want;refine⟨.agg #[.slice sad xs.length scap,.slice (some (aD wb wo)) wh.length wcap,.bool group,.slice kad kxs.length kcap,.slice uad uxs.length ucap,.slice lad lxs.length lcap,.slice oad oxs.length ocap],fun x hx=>?_,?_⟩
     ·have e0:=cB (hx) q0;have e1:=cB (hx) q1;have e2:=cB (hx) q2;have e3:=cB (hx) q3;have e4:=cB (hx) q4;have e5:=cB (hx) q5;have e6:=cB (hx) q6;go_simp
     simp only[pA,sB,sC];go_big_quiet_on;go_big_quiet_want;refine⟨.slice (some (aD cb co)) 1 cc,fun x hx=>?_,?_⟩
     ·go_simp
     simp only[pA,sB,sC];go_big_quiet_on;go_big_quiet_want;refine⟨.pointer (some (aD cb co)),fun x hx=>?_,?_⟩
     ·go_simp
     simp only[pA,sB,sC];go_big_quiet_on;go_big_quiet_want;refine⟨.pointer (some (aD cb (co+2))),fun x hx=>?_,?_⟩
     ·go_simp
     simp only[pA,sB,sC];go_big_quiet_on;go_big_quiet_want;refine⟨.int .i64 left,fun x hx=>?_,?_⟩
     ·have e0:=cB hx d2;go_simp
     simp only[pA,sB,sC];go_big_quiet_on;go_big_quiet_want;refine⟨.int .i64 n,fun x hx=>?_,?_⟩
     ·have hC:=Calls.within hx (HKA.out x (bQ1 hk1 hx));go_simp
     simp only[pA,sB,sC];go_big_quiet_on;go_big_quiet_want;refine⟨.int .i64 n,fun x hx=>?_,?_⟩
     ·go_simp
     simp only[pA,sB,sC];go_big_quiet_on;refine wpQuiet_nil ?_;intro w2 hb2;have k2:=bQ1 hk1 hb2;have d3':=cB hb2 d3;go_wp2;refine wp_region_below (by kernel_rfl) (by kernel_rfl) ?_;go_big_quiet_want;refine⟨.slice ao ts.length cap,fun x hx=>?_,?_⟩
     ·go_simp
     simp only[pA,sB,sC];go_big_quiet_on;go_big_quiet_want;refine⟨.agg #[.slice sad xs.length scap,.slice (some (aD wb wo)) wh.length wcap,.bool group,.slice kad kxs.length kcap,.slice uad uxs.length ucap,.slice lad lxs.length lcap,.slice oad oxs.length ocap],fun x hx=>?_,?_⟩
     ·have e0:=cB (bQ1 hb2 hx) q0;have e1:=cB (bQ1 hb2 hx) q1;have e2:=cB (bQ1 hb2 hx) q2;have e3:=cB (bQ1 hb2 hx) q3;have e4:=cB (bQ1 hb2 hx) q4;have e5:=cB (bQ1 hb2 hx) q5;have e6:=cB (bQ1 hb2 hx) q6;go_simp
     simp only[pA,sB,sC];go_big_quiet_on;go_big_quiet_want;refine⟨.slice (some (aD cb co)) 1 cc,fun x hx=>?_,?_⟩
     ·go_simp
     simp only[pA,sB,sC];go_big_quiet_on;go_big_quiet_want;refine⟨.pointer (some (aD cb co)),fun x hx=>?_,?_⟩
     ·go_simp
     simp only[pA,sB,sC];go_big_quiet_on;go_big_quiet_want;refine⟨.pointer (some (aD cb (co+4))),fun x hx=>?_,?_⟩
     ·go_simp
     simp only[pA,sB,sC];go_big_quiet_on;go_big_quiet_want;refine⟨.int .i64 right,fun x hx=>?_,?_⟩
     ·have e0:=cB (bQ1 hb2 hx) d4;go_simp
     simp only[pA,sB,sC];go_big_quiet_on;go_big_quiet_want;refine⟨.int .i64 m,fun x hx=>?_,?_⟩
     ·have hC:=Calls.within hx (HKB.out x (bQ1 k2 hx));go_simp
     simp only[pA,sB,sC];go_big_quiet_on;go_big_quiet_want;refine⟨.int .i64 m,fun x hx=>?_,?_⟩
     ·go_simp
     simp only[pA,sB,sC];go_big_quiet_on;refine wpQuiet_nil ?_;intro w3 hb3;have k3:=bQ1 k2 hb3;clear hb2 hb3 k2;go_wp2;go_ret;exact⟨ret_u64 (by rw[HP3.out]; omega),k3⟩
    ·go_enter Tryz.func157,Tryz.ntmps157;go_wp2;refine wp_region_below (by kernel_rfl) (by kernel_rfl) ?_;go_big_quiet_want;refine⟨.slice ao ts.length cap,fun x hx=>?_,?_⟩
     ·go_simp
     simp only[pA,sB,sC];go_big_quiet_on;go_big_quiet_want;refine⟨.agg #[.slice sad xs.length scap,.slice (some (aD wb wo)) wh.length wcap,.bool group,.slice kad kxs.length kcap,.slice uad uxs.length ucap,.slice lad lxs.length lcap,.slice oad oxs.length ocap],fun x hx=>?_,?_⟩
     ·have e0:=cB (hx) q0;have e1:=cB (hx) q1;have e2:=cB (hx) q2;have e3:=cB (hx) q3;have e4:=cB (hx) q4;have e5:=cB (hx) q5;have e6:=cB (hx) q6;go_simp
     simp only[pA,sB,sC];go_big_quiet_on;go_big_quiet_want;refine⟨.slice (some (aD cb co)) 1 cc,fun x hx=>?_,?_⟩
     ·go_simp
     simp only[pA,sB,sC];go_big_quiet_on;go_big_quiet_want;refine⟨.pointer (some (aD cb co)),fun x hx=>?_,?_⟩
     ·go_simp
     simp only[pA,sB,sC];go_big_quiet_on;go_big_quiet_want;refine⟨.pointer (some (aD cb (co+2))),fun x hx=>?_,?_⟩
     ·go_simp
     simp only[pA,sB,sC];go_big_quiet_on;go_big_quiet_want;refine⟨.int .i64 left,fun x hx=>?_,?_⟩
     ·have e0:=cB hx d2;go_simp
     simp only[pA,sB,sC];go_big_quiet_on;go_big_quiet_want;refine⟨.int .i64 n,fun x hx=>?_,?_⟩
     ·have hC:=Calls.within hx (HKA.out x (bQ1 hk1 hx));go_simp
     simp only[pA,sB,sC];go_big_quiet_on;go_big_quiet_want;refine⟨.int .i64 n,fun x hx=>?_,?_⟩
     ·go_simp
     simp only[pA,sB,sC];go_big_quiet_on;refine wpQuiet_nil ?_;intro w2 hb2;have k2:=bQ1 hk1 hb2;have d3':=cB hb2 d3;go_wp2;refine wp_region_below (by kernel_rfl) (by kernel_rfl) ?_;go_big_quiet_want;refine⟨.slice ao ts.length cap,fun x hx=>?_,?_⟩
     ·go_simp
     simp only[pA,sB,sC];go_big_quiet_on;go_big_quiet_want;refine⟨.agg #[.slice sad xs.length scap,.slice (some (aD wb wo)) wh.length wcap,.bool group,.slice kad kxs.length kcap,.slice uad uxs.length ucap,.slice lad lxs.length lcap,.slice oad oxs.length ocap],fun x hx=>?_,?_⟩
     ·have e0:=cB (bQ1 hb2 hx) q0;have e1:=cB (bQ1 hb2 hx) q1;have e2:=cB (bQ1 hb2 hx) q2;have e3:=cB (bQ1 hb2 hx) q3;have e4:=cB (bQ1 hb2 hx) q4;have e5:=cB (bQ1 hb2 hx) q5;have e6:=cB (bQ1 hb2 hx) q6;go_simp
     simp only[pA,sB,sC];go_big_quiet_on;go_big_quiet_want;refine⟨.slice (some (aD cb co)) 1 cc,fun x hx=>?_,?_⟩
     ·go_simp
     simp only[pA,sB,sC];go_big_quiet_on;go_big_quiet_want;refine⟨.pointer (some (aD cb co)),fun x hx=>?_,?_⟩
     ·go_simp
     simp only[pA,sB,sC];go_big_quiet_on;go_big_quiet_want;refine⟨.pointer (some (aD cb (co+4))),fun x hx=>?_,?_⟩
     ·go_simp
     simp only[pA,sB,sC];go_big_quiet_on;go_big_quiet_want;refine⟨.int .i64 right,fun x hx=>?_,?_⟩
     ·have e0:=cB (bQ1 hb2 hx) d4;go_simp
     simp only[pA,sB,sC];go_big_quiet_on;go_big_quiet_want;refine⟨.int .i64 m,fun x hx=>?_,?_⟩
     ·have hC:=Calls.within hx (HKB.out x (bQ1 k2 hx));go_simp
     simp only[pA,sB,sC];go_big_quiet_on;go_big_quiet_want;refine⟨.int .i64 m,fun x hx=>?_,?_⟩
     ·go_simp
     simp only[pA,sB,sC];go_big_quiet_on;refine wpQuiet_nil ?_;intro w3 hb3;have k3:=bQ1 k2 hb3;clear hb2 hb3 k2;go_wp2;go_ret;exact⟨ret_u64 (by rw[HP3.out]; omega),k3⟩
 ·have HPA:Hid (partsN ts xs cs=2):=by
   show _=_
   unfold partsN;rw[if_pos (.inl hone)]
  have b1:((cs.length:Int) != 1)=true:=by simp; omega
  clear hcs HKI;generalize cs.length=cn at *;go_enter Tryz.func157,Tryz.ntmps157;go_wp2;go_ret;exact⟨by rw[HPA.out]; rfl,hk1⟩
end Go.Proofs.YtlpbelhfpoilpaaGreatDoor
namespace Go.Scout
open Go.RowKit
theorem ints_own {w:World} {base:Nat} {e:TypeId} {v:Value} {n:Nat} {xs:List Int} (h:w.ownsRow base e 1 v n (xs.map (Value.int .i64))) (hl:xs.length<=1152921504606846976):∃ ao cap,v=.slice ao xs.length cap/\IntsAt w ao xs:=by
 have hn:xs.length=n:=by have:=h.1; simpa using this
 rcases h.2 with⟨rfl,h0⟩ | ⟨g,cap,cur,rfl,_,hh,_,_,_,ht⟩
 ·have:xs=[]:=List.eq_nil_of_length_eq_zero (by omega);subst this;exact⟨none,0,rfl,⟨by simp,fun i hi=>absurd hi (by simp)⟩⟩
 ·refine⟨some (aD g 0),cap,by rw[<- hn],⟨hl,fun i hi=>⟨g,0,rfl,?_⟩⟩⟩;have h1:(cur.toList.take (n*1))[i]? = some (.int .i64 (xs.getD i 0)):=by
   rw[ht,List.getElem?_map];simp[List.getD,hi]
  rw[List.getElem?_take_of_lt (by omega)] at h1;rw[Nat.zero_add];simp only[World.cell?,hh]
  simpa using h1
theorem columnsN_snoc {cs:List CondD} {k:Nat} (hk:k<cs.length):columnsN (cs.take (k+1))=columnsN (cs.take k)++condCols (cs.getD k cz):=by
 have e:cs.getD k cz=cs[k]:=by simp[List.getD,hk]
 rw[List.take_succ_eq_append_getElem hk,e];unfold columnsN;rw[List.flatMap_append];simp
theorem condCols_len (c:CondD):(condCols c).length<=2:=by
 unfold condCols;split <;> simp
theorem columnsN_len:∀ (cs:List CondD),(columnsN cs).length<=2*cs.length
 | [] => by simp[columnsN]
 | c::cs => by
  have h:=columnsN_len cs;have h2:=condCols_len c;unfold columnsN at *;rw[List.flatMap_cons,List.length_append,List.length_cons];omega
theorem own_below {w w':World} {base:Nat} {e:TypeId} {sz:Nat} {v:Value} {n:Nat} {xs:List Value} (h:w.ownsRow base e sz v n xs) (hb:Below w.heap.size w w'):w'.ownsRow base e sz v n xs:=ownsRow_move h (Nat.le_refl _) (fun j _ hj=>hb.block j hj)
end Go.Scout
namespace Go.Proofs.YtlpbelhfpoilpaaGreatDoor
open Go.RowKit Go.Scout
theorem columns_any (ca:Option Addr) (cc:Nat) (cs:List CondD) (w:World) (hx:CondsAt w ca cs) (h3:cs.length<=100) :
  Calls Tryz.prog 234 #[.agg #[.slice ca cs.length cc]] w fun e w'=>∃ v,e=.returned v/\w'.ownsRow w.heap.size 3 1 v (columnsN cs).length ((columnsN cs).map (Value.int .i64))/\Below w.heap.size w w':=by
 obtain⟨w1,hw1⟩:∃ x,x=w.alloc (.cells #[.slice ca cs.length cc] 140):=⟨_,rfl⟩
 have hk1:Below w.heap.size w w1:=by rw[hw1]; exact bQ2 _ _
 have hbox:GB w1 w.heap.size 140 #[.slice ca cs.length cc]:=by rw[hw1]; exact bQ3 _ _
 have q0:w1.cell? (aD w.heap.size 0)=some (.slice ca cs.length cc):=hbox.cell 0;have hs1:w1.heap.size=w.heap.size+1:=by rw[hw1]; simp
 have HS1:Hid _:=hs1;have hWC:w.alloc (.cells #[.slice ca cs.length cc] 140)=w1:=hw1.symm;clear hw1 hbox hs1;go_enter Tryz.func234,Tryz.ntmps234;go_wp2;clear hWC;go_loopw [3,4] (fun v iv wr=>∃ k:Nat,k<=cs.length/\iv=.int .i64 k/\Hid (wr.ownsRow w1.heap.size 3 1 v (columnsN (cs.take k)).length ((columnsN (cs.take k)).map (Value.int .i64)))/\Below w1.heap.size w1 wr) (fun _ iv _=>cs.length-(intOf iv).toNat)
 case atStart=>exact⟨0,Nat.zero_le _,rfl,World.ownsRow_nil _ _ _ _,Below.refl _ _⟩
 case round=>
  obtain⟨k,hk,rfl,HO,hbr⟩:=hrel;have hq:=cB hbr q0;by_cases hlt:k<cs.length
  ·obtain⟨b,off,rfl,c0,c1,c2,c3,c4⟩:=hx.2 k hlt;have k1:=bQ1 hk1 hbr;have d1:=cB k1 c1;have d2:=cB k1 c2;have d3:=cB k1 c3;clear c0 c1 c2 c3;have hlen:(columnsN (cs.take k)).length<=200:=by
    have:=columnsN_len (cs.take k);rw[List.length_take] at this;omega
   have HSN:Hid _:=columnsN_snoc hlt;obtain⟨ra,rm,rc,rfl⟩:=ownsRow_slice HO.out;obtain⟨v',w5,hr5,ho5,hk5,⟨va,vm,vc,rfl⟩,-⟩:=push_int wr w1.heap.size (.slice ra rm rc) (columnsN (cs.take k)) HO.out (by omega) hbr.size (cs.getD k cz).left 23;have hb5:Below w1.heap.size w1 w5:=hbr.trans (hk5.below hbr.size (fun b hb e=>by have:=(ownsRow_lt HO.out e).1; omega));have hwr5:Below wr.heap.size wr w5∨True:=.inr trivial;have hq5:=cB hb5 q0;have e1:=cB (bQ1 hk1 hb5) (show w.cell? (aD b (off+k*5+1))=_ from (hx.2 k hlt).elim fun b' h=>h.elim fun o' h=>by obtain⟨he,_,h1,_⟩:=h; cases he; exact h1);have e3:=cB (bQ1 hk1 hb5) (show w.cell? (aD b (off+k*5+3))=_ from (hx.2 k hlt).elim fun b' h=>h.elim fun o' h=>by obtain⟨he,_,_,_,h1,_⟩:=h; cases he; exact h1);have e4:=cB (bQ1 hk1 hb5) c4;have hcl:=hx.1;have HX:Hid _:=hx;clear hx hwr5 c4;generalize cs.getD k cz=c at *;obtain⟨not,op,left,const,right⟩:=c;simp only at *;by_cases htwo:op≠2/\const=false
   ·obtain⟨o2,rfl⟩:=htwo;have b2:(op != 2)=true:=by simp[o2]
    have hs2:columnsN (cs.take (k+1))=columnsN (cs.take k)++[left]++[right]:=by
     rw[HSN.out];unfold condCols;rw[if_pos ⟨o2,rfl⟩];simp
    have hb5s:=hb5.size;obtain⟨v',w6,hr6,ho6,hk6,⟨ua,um,uc,rfl⟩,-⟩:=push_int w5 w1.heap.size (.slice va vm vc) (columnsN (cs.take k)++[left]) ho5 (by rw[List.length_append]; simp; omega) hb5s right 23;have hb6:Below w1.heap.size w1 w6:=hb5.trans (hk6.below hb5s (fun b hb e=>by have:=(ownsRow_lt ho5 e).1; omega));rw[<- hs2] at ho6;have HO6:Hid _:=ho6;have HB6:Hid _:=hb6;clear ho6 hb6 hk6 ho5 hk5 hb5 hs2 hb5s HO hlen hbr k1 HSN;go_wp2_with (first | (at_builtin; refine wpList_append_run rfl (.tmp 12) (.tmp 19) 23 rfl (.slice ra rm rc) (.slice (some (aD wr.heap.size 0)) 1 1) (.slice va vm vc) w5 rfl rfl hr5 ?_) | (at_builtin; refine wpList_append_run rfl (.tmp 37) (.tmp 44) 23 rfl (.slice va vm vc) (.slice (some (aD w5.heap.size 0)) 1 1) (.slice ua um uc) w6 rfl rfl hr6 ?_));clear hr5 hr6;go_wp2;go_roundw
    case rel=>exact⟨k+1,by omega,by go_num,HO6.out,HB6.out⟩
    case measure=>simp[intOf]; omega
   ·have hs2:columnsN (cs.take (k+1))=columnsN (cs.take k)++[left]:=by
     rw[HSN.out];unfold condCols;rw[if_neg htwo]
    rw[<- hs2] at ho5;have HO6:Hid _:=ho5;have HB6:Hid _:=hb5;clear ho5 hk5 hb5 hs2 HO hlen hbr k1 HSN;by_cases o2:op=2
    ·have b2:(op != 2)=false:=by simp[o2]
     go_wp2_with (first | (at_builtin; refine wpList_append_run rfl (.tmp 12) (.tmp 19) 23 rfl (.slice ra rm rc) (.slice (some (aD wr.heap.size 0)) 1 1) (.slice va vm vc) w5 rfl rfl hr5 ?_));clear hr5;go_wp2;go_roundw
     case rel=>exact⟨k+1,by omega,by go_num,HO6.out,HB6.out⟩
     case measure=>simp[intOf]; omega
    ·have b2:(op != 2)=true:=by simp[o2]
     have hcon:const=true:=by
      cases const with
      | true => rfl
      | false => exact absurd ⟨o2,rfl⟩ htwo
     subst hcon;go_wp2_with (first | (at_builtin; refine wpList_append_run rfl (.tmp 12) (.tmp 19) 23 rfl (.slice ra rm rc) (.slice (some (aD wr.heap.size 0)) 1 1) (.slice va vm vc) w5 rfl rfl hr5 ?_));clear hr5;go_wp2;go_roundw
     case rel=>exact⟨k+1,by omega,by go_num,HO6.out,HB6.out⟩
     case measure=>simp[intOf]; omega
  ·have e:k=cs.length:=by omega
   have HO2:=HO.out;rw[e,List.take_length] at HO2;have HO3:Hid _:=HO2;have hcl:=hx.1;clear e HO HO2 hx;go_wp2;go_ret;exact⟨_,rfl,ownsRow_move HO3.out (by have:=HS1.out; omega) (fun _ _ _=>rfl),bQ1 hk1 hbr⟩
end Go.Proofs.YtlpbelhfpoilpaaGreatDoor
namespace Go.Scout
open Go.RowKit
theorem withN_snoc (l m:List Int) (x:Int):withN l (m++[x])=if x∈withN l m then withN l m else withN l m++[x]:=by
 unfold withN;rw[List.foldl_append];rfl
theorem withN_take {l m:List Int} {k:Nat} (hk:k<m.length):withN l (m.take (k+1))=if m.getD k 0∈withN l (m.take k) then withN l (m.take k) else withN l (m.take k)++[m.getD k 0]:=by
 have e:m.getD k 0=m[k]:=by simp[List.getD,hk]
 rw[List.take_succ_eq_append_getElem hk,withN_snoc,e]
end Go.Scout
namespace Go.Proofs.YtlpbelhfpoilpaaGreatDoor
open Go.RowKit Go.Scout
theorem push_ints (W:World) (base:Nat) (v:Value) (ys:List Int) (hown:W.ownsRow base 3 1 v ys.length (ys.map (Value.int .i64))) (ao:Option Addr) (cap:Nat) (xs:List Int) (hx:IntsAt W ao xs) (hn:ao=none->cap=0) (hl:ys.length+xs.length<=1000000) (hb:base<=W.heap.size) (ty:TypeId) :
  ∃ v' w',(Builtin.append_ #[23,23] ty #[v,.slice ao xs.length cap]).run Tryz.prog W=.ok v' w'/\
   w'.ownsRow base 3 1 v' (ys++xs).length ((ys++xs).map (Value.int .i64))/\Kept (fun b=>v.ownBlock≠some b) W w'/\(∃ a m c,v' = .slice a m c):=by
 obtain⟨i0,hi,hz0,hz1,hz2⟩:=info_parts Tryz.infoInt
 cases ao with
 | none =>
  obtain rfl:cap=0:=hn rfl;have h0:xs=[]:=by
   cases xs with
   | nil => rfl
   | cons x xs => obtain⟨b,off,e,_⟩:=hx.2 0 (by simp); cases e
  subst h0;refine⟨v,W,run_append_owned_none (P:=Tryz.prog) (w:=W) base 23 ty 3 i0 1 Tryz.underlying23 hi v ys.length _ hown,by rw[List.append_nil]; exact hown,Kept.refl _ _,ownsRow_slice hown⟩
 | some a =>
  have hnews:∀ j u,(xs.map (Value.int .i64))[j]? = some u->W.cell? (a.add j)=some u:=fun j u hj=>by
   rw[List.getElem?_map] at hj;by_cases hjl:j<xs.length
   ·obtain⟨b,off,e,hc⟩:=hx.2 j hjl
    cases e
    rw[addr_add,hc];simp[List.getD,hjl] at hj ⊢;exact hj
   ·rw[List.getElem?_eq_none (by omega)] at hj; cases hj
  obtain⟨v',w',hr,ho,hg,_,_⟩:=run_append_own_at (P:=Tryz.prog) W base 23 ty 3 i0 (.int .i64 0) 1 8 Tryz.underlying23 hi hz0 hz1 hz2 rfl (by decide) v ys.length (ys.map (Value.int .i64)) hown a xs.length cap (xs.map (Value.int .i64)) (by simp) hnews
   (fun u hu=>by obtain⟨x,_,rfl⟩:=List.mem_map.1 hu; rfl) (by unfold maxLen; omega) (by omega) hb
  exact⟨v',w',hr,by rw[List.length_append,List.map_append]; exact ho,Kept.grown hg (fun r e hr=>hr e),ownsRow_slice ho⟩
theorem with_any (ao bo:Option Addr) (cap cap':Nat) (xs ys:List Int) (w:World) (hx:IntsAt w ao xs) (hy:IntsAt w bo ys) (hn:ao=none->cap=0) (hl:xs.length+ys.length<=1000) :
  Calls Tryz.prog 97 #[.slice ao xs.length cap,.slice bo ys.length cap'] w fun e w'=>∃ v,e=.returned v/\w'.ownsRow w.heap.size 3 1 v (withN xs ys).length ((withN xs ys).map (Value.int .i64))/\Below w.heap.size w w':=by
 obtain⟨v0,w1,hr1,ho1,hk1,⟨va,vm,vc,rfl⟩⟩:=push_ints w w.heap.size (.slice none 0 0) [] (World.ownsRow_nil _ _ _ _) ao cap xs hx hn (by simp; omega) (Nat.le_refl _) 23;rw[List.nil_append] at ho1;have hb1:Below w.heap.size w w1:=hk1.below (Nat.le_refl _) (fun b hb e=>by cases e);clear hk1;have HO1:Hid _:=ho1;clear ho1;go_enter Tryz.func97,Tryz.ntmps97;go_wp2_with (first | (at_builtin; refine wpList_append_run rfl (.tmp 8) (.tmp 9) 23 rfl (.slice none 0 0) (.slice ao xs.length cap) (.slice va vm vc) w1 rfl rfl hr1 ?_));clear hr1;go_wp2;go_loopw [5,6] (fun v iv wr=>∃ k:Nat,k<=ys.length/\iv=.int .i64 k/\Hid (wr.ownsRow w.heap.size 3 1 v (withN xs (ys.take k)).length ((withN xs (ys.take k)).map (Value.int .i64)))/\Below w.heap.size w wr) (fun _ iv _=>ys.length-(intOf iv).toNat)
 case atStart=>exact⟨0,Nat.zero_le _,rfl,HO1.out,hb1⟩
 case round=>
  obtain⟨k,hk,rfl,HO,hbr⟩:=hrel;have hyl:=hy.1;by_cases hlt:k<ys.length
  ·obtain⟨b,off,rfl,hc⟩:=hy.get hlt;have hck:=cB hbr (hc k hlt);clear hc;have HT:Hid _:=withN_take (l:=xs) hlt;have hwl:(withN xs (ys.take k)).length<=1000:=by
    have:=withN_len_le (m:=ys.take k) (l:=xs);rw[List.length_take] at this;omega
   have HY:Hid _:=hy;clear hy;obtain⟨L,hL⟩:∃ L,L=withN xs (ys.take k):=⟨_,rfl⟩
   rw[<- hL] at HT HO hwl;clear hL;generalize ys.getD k 0=y at *;obtain⟨ra,rc,rfl,hIL⟩:=ints_own HO.out (by omega);have hHA:=has_any ra rc L y wr hIL;clear hIL;go_wp2_with fail;refine hHA.mono ?_;clear hHA;rintro e w2 ⟨rfl,rfl⟩;by_cases hin:y∈L
   ·rw[decide_eq_true hin];go_wp2;go_roundw
    case rel=>exact⟨k+1,by omega,by go_num,by have e:=HT.out; rw[if_pos hin] at e; rw[e]; exact HO.out,hbr⟩
    case measure=>simp[intOf]; omega
   ·rw[decide_eq_false hin];obtain⟨v',w5,hr5,ho5,hk5,⟨ua,um,uc,rfl⟩,-⟩:=push_int w2 w.heap.size (.slice ra L.length rc) L HO.out (by omega) hbr.size y 23;have hb5:Below w.heap.size w w5:=hbr.trans (hk5.below hbr.size (fun b hb e=>by have:=(ownsRow_lt HO.out e).1; omega));have e:=HT.out;rw[if_neg hin] at e;rw[<- e] at ho5;have HO5:Hid _:=ho5;have HB5:Hid _:=hb5;clear e ho5 hb5 hk5 HO HT;go_wp2_with (first | (at_builtin; refine wpList_append_run rfl (.tmp 25) (.tmp 30) 23 rfl (.slice ra L.length rc) (.slice (some (aD w2.heap.size 0)) 1 1) (.slice ua um uc) w5 rfl rfl hr5 ?_));clear hr5;go_wp2;go_roundw
    case rel=>exact⟨k+1,by omega,by go_num,HO5.out,HB5.out⟩
    case measure=>simp[intOf]; omega
  ·have e:k=ys.length:=by omega
   have HO2:=HO.out;rw[e,List.take_length] at HO2;have HO3:Hid _:=HO2;clear e HO HO2 hy hx;go_wp2;go_ret;exact⟨_,rfl,HO3.out,hbr⟩
end Go.Proofs.YtlpbelhfpoilpaaGreatDoor
