import Derived.BigQuiet
import Derived.Test.YtlpbelhfpoilpaaGreatDoorC09
import Derived.Test.YtlpbelhfpoilpaaGreatDoorC11
set_option linter.all false
set_option maxRecDepth 100000
set_option maxHeartbeats 16000000
namespace Go.Scout
open Go.RowKit
theorem IntsAt.take {w:World} {ao:Option Addr} {xs:List Int} (h:IntsAt w ao xs) (k:Nat):IntsAt w ao (xs.take k):=by
 refine⟨by have:=h.1; rw[List.length_take]; omega,fun i hi=>?_⟩;rw[List.length_take] at hi;obtain⟨b,off,e,hc⟩:=h.2 i (by omega);refine⟨b,off,e,?_⟩;rw[hc];simp[List.getD,show i<k by omega,show i<xs.length by omega]
theorem countsB_bad {l:List Int} {k:Nat} (hk:k<l.length) (h:l.getD k 0≠k):countsB l=false:=by
 unfold countsB;rw[List.all_eq_false];exact⟨k,List.mem_range.2 hk,by rw[decide_eq_false h]; simp⟩
theorem countsB_all {l:List Int} (h:∀ i,i<l.length->l.getD i 0=i):countsB l=true:=by
 unfold countsB;rw[List.all_eq_true];exact fun i hi=>decide_eq_true (h i (List.mem_range.1 hi))
end Go.Scout
namespace Go.Proofs.YtlpbelhfpoilpaaGreatDoor
open Go.RowKit Go.Scout
theorem index_any (ao:Option Addr) (cap:Nat) (xs:List Int) (v:Int) (w:World) (hx:IntsAt w ao xs) :
  Calls Tryz.prog 349 #[.slice ao xs.length cap,.int .i64 v] w fun e w'=>∃ r:Int,e=.returned (.int .i64 r)/\Hid (0<=r↔v∈xs)/\w' = w:=by
 have hl:=hx.1;go_enter Tryz.func349,Tryz.ntmps349;go_wp2;go_loop [8] (fun i=>∃ k:Nat,k<=xs.length/\i=.int .i64 k/\v ∉ xs.take k) (fun i=>xs.length-(intOf i).toNat)
 case atStart=>exact⟨0,Nat.zero_le _,rfl,by simp⟩
 case round=>
  obtain⟨k,hk,rfl,hn⟩:=hrel;by_cases hlt:k<xs.length
  ·obtain⟨b,off,rfl,hc⟩:=hx.get hlt;have h1:=hc k hlt;have HM:Hid _:=mem_take_succ (v:=v) hlt;have HN:Hid _:=hn;have HG:Hid (xs.getD k 0∈xs):=by
    show _∈_
    exact getD_memR hlt
   clear hc hx hn;obtain⟨x,hxe⟩:∃ x,x=xs.getD k 0:=⟨_,rfl⟩
   rw[<- hxe] at h1 HM HG;clear hxe;by_cases hv:v=x
   ·have hbv:(v==x)=true:=by simp[hv]
    go_wp2;go_ret;exact⟨k,rfl,⟨fun _=>HG.out,fun _=>by omega⟩,rfl⟩
   ·have hbv:(v==x)=false:=by simp[hv]
    go_wp2;go_round
    case rel=>exact⟨k+1,by omega,by go_num,fun e=>by
     rcases HM.out.1 e with e | e
     ·exact HN.out e
     ·exact hv e.symm⟩
    case measure=>simp[intOf]; omega
  ·have e:k=xs.length:=by omega
   rw[e,List.take_length] at hn;have HN:Hid _:=hn;clear hn;go_wp2;go_ret;exact⟨-1,rfl,⟨fun h=>absurd h (by omega),fun h=>absurd h HN.out⟩,rfl⟩
theorem contains_any (ao:Option Addr) (cap:Nat) (xs:List Int) (v:Int) (w:World) (hx:IntsAt w ao xs) :
  Calls Tryz.prog 285 #[.slice ao xs.length cap,.int .i64 v] w fun e w'=>e=.returned (.bool (decide (v∈xs)))/\w' = w:=by
 have h:=index_any ao cap xs v w hx;clear hx;go_enter Tryz.func285,Tryz.ntmps285;go_wp2_with fail;refine h.mono ?_;clear h;rintro e w2 ⟨r,rfl,HB,rfl⟩;go_wp2;go_ret;exact⟨ret_bool (by rw[Bool.eq_iff_iff,decide_eq_true_eq,decide_eq_true_eq]; exact HB.out),rfl⟩
theorem equal_any (ao bo:Option Addr) (cap cap':Nat) (xs ys:List Int) (w:World) (hx:IntsAt w ao xs) (hy:IntsAt w bo ys) :
  Calls Tryz.prog 288 #[.slice ao xs.length cap,.slice bo ys.length cap'] w fun e w'=>e=.returned (.bool (decide (xs=ys)))/\Below w.heap.size w w':=by
 have hl:=hx.1;have hl':=hy.1;by_cases hle:xs.length=ys.length
 ·have HLE:Hid _:=hle;have hne:((xs.length:Int) != (ys.length:Int))=false:=by rw[hle]; simp
  have hk':xs.length<=ys.length:=by omega
  clear hle;go_enter Tryz.func288,Tryz.ntmps288;go_wp2;go_loopw [13] (fun i wr=>∃ k:Nat,k<=xs.length/\i=.int .i64 k/\Hid (xs.take k=ys.take k)/\∃ n,wr=w.drewN n) (fun i _=>xs.length-(intOf i).toNat)
  case atStart=>exact⟨0,Nat.zero_le _,rfl,rfl,0,rfl⟩
  case round=>
   obtain⟨k,hk,rfl,HE,n,rfl⟩:=hrel;by_cases hlt:k<xs.length
   ·have hlty:k<ys.length:=by omega
    obtain⟨b,off,rfl,hc⟩:=hx.get hlt;obtain⟨b',off',rfl,hc'⟩:=hy.get hlty;have h1:=hc k hlt;have h2:=hc' k hlty;clear hc hc' hx hy;obtain⟨x,hxe⟩:∃ x,x=xs.getD k 0:=⟨_,rfl⟩
    obtain⟨y,hye⟩:∃ y,y=ys.getD k 0:=⟨_,rfl⟩
    rw[<- hxe] at h1;rw[<- hye] at h2;have HX:Hid _:=hxe;have HY:Hid _:=hye;clear hxe hye;by_cases hv:x=y
    ·have hbv:(x != y)=false:=by simp[hv]
     go_wp2;go_quiet (fail);go_wp2;go_roundw
     case rel=>exact⟨k+1,by omega,by go_num,take_eq_succ hlt hlty HE.out (by rw[<- HX.out,<- HY.out]; exact hv),_,rfl⟩
     case measure=>simp[intOf]; omega
    ·have hbv:(x != y)=true:=by simp[hv]
     go_wp2;go_quiet (fail);go_wp2;go_ret;exact⟨ret_bool (decide_eq_false (fun e=>hv (by rw[HX.out,HY.out,e]))).symm,below_drewN (below_drewN (Below.refl _ _) _) _⟩
   ·have HK:Hid (k=xs.length):=by show _=_; omega
    go_wp2;go_ret;exact⟨ret_bool (by refine (decide_eq_true ?_).symm; have:=HE.out; rw[HK.out,List.take_length,HLE.out,List.take_length] at this; exact this),below_drewN (Below.refl _ _) _⟩
 ·have hne:((xs.length:Int) != (ys.length:Int))=true:=by rw[bne_iff_ne]; omega
  have HLE:Hid _:=hle;clear hle;go_enter Tryz.func288,Tryz.ntmps288;go_wp2;go_ret;exact⟨ret_bool (decide_eq_false (fun e=>HLE.out (by rw[e]))).symm,Below.refl _ _⟩
theorem begins_any (ao bo:Option Addr) (cap cap':Nat) (xs ys:List Int) (w:World) (hx:IntsAt w ao xs) (hy:IntsAt w bo ys) (hcap:xs.length<=cap) :
  Calls Tryz.prog 227 #[.slice ao xs.length cap,.slice bo ys.length cap'] w fun e w'=>e=.returned (.bool (startsB xs ys))/\Below w.heap.size w w':=by
 have hl:=hx.1;have hl':=hy.1;by_cases hle:ys.length<=xs.length
 ·have HS:Hid (startsB xs ys=decide (xs.take ys.length=ys)):=by
   show _=_
   unfold startsB;rw[decide_eq_true hle,Bool.true_and]
  have hE:=equal_any ao bo cap cap' (xs.take ys.length) ys w (hx.take _) hy;rw[List.length_take,Nat.min_eq_left hle] at hE;generalize startsB xs ys=S at *;generalize decide (xs.take ys.length=ys)=B at *;clear hx hy;go_enter Tryz.func227,Tryz.ntmps227;go_wp2_with fail;refine hE.mono ?_;clear hE;rintro e w2 ⟨rfl,hb⟩;go_wp2;go_ret;exact⟨ret_bool HS.out.symm,hb⟩
 ·have HS:Hid (startsB xs ys=false):=by
   show _=_
   unfold startsB;rw[decide_eq_false hle,Bool.false_and]
  generalize startsB xs ys=S at *;clear hx hy;go_enter Tryz.func227,Tryz.ntmps227;go_wp2;go_ret;exact⟨ret_bool HS.out.symm,Below.refl _ _⟩
theorem countsUp_any (ao:Option Addr) (cap:Nat) (xs:List Int) (w:World) (hx:IntsAt w ao xs) :
  Calls Tryz.prog 232 #[.slice ao xs.length cap] w fun e w'=>e=.returned (.bool (countsB xs))/\w' = w:=by
 have hl:=hx.1;have HB:Hid _:=@countsB_bad xs;have HA:Hid _:=@countsB_all xs;generalize countsB xs=C at *;go_enter Tryz.func232,Tryz.ntmps232;go_wp2;go_loop [7] (fun i=>∃ k:Nat,k<=xs.length/\i=.int .i64 k/\Hid (∀ j,j<k->xs.getD j 0=j)) (fun i=>xs.length-(intOf i).toNat)
 case atStart=>exact⟨0,Nat.zero_le _,rfl,fun j hj=>absurd hj (by omega)⟩
 case round=>
  obtain⟨k,hk,rfl,hn⟩:=hrel;by_cases hlt:k<xs.length
  ·obtain⟨b,off,rfl,hc⟩:=hx.get hlt;have h1:=hc k hlt;clear hc hx;have HBk:Hid _:=HB.out hlt;obtain⟨x,hxe⟩:∃ x,x=xs.getD k 0:=⟨_,rfl⟩
   rw[<- hxe] at h1 HBk;have HX:Hid _:=hxe;clear hxe;by_cases hv:x=(k:Int)
   ·have hbv:(x != (k:Int))=false:=by simp[hv]
    have HV:Hid _:=hv;clear hv;go_wp2;go_round
    case rel=>exact⟨k+1,by omega,by go_num,fun j hj=>by
     rcases Nat.lt_or_ge j k with h | h
     ·exact hn.out j h
     ·obtain rfl:j=k:=by omega
      rw[<- HX.out]; exact HV.out⟩
    case measure=>simp[intOf]; omega
   ·have hbv:(x != (k:Int))=true:=by simp[hv]
    have HV:Hid _:=HBk.out hv;go_wp2;go_ret;exact⟨ret_bool HV.out.symm,rfl⟩
  ·have HV:Hid (C=true):=HA.out (fun i hi=>hn.out i (by omega));go_wp2;go_ret;exact⟨ret_bool HV.out.symm,rfl⟩
end Go.Proofs.YtlpbelhfpoilpaaGreatDoor
namespace Go.Scout
open Go.RowKit
theorem want_take (q:QueryV) {k:Nat} (hk:k<q.ord.xs.length):(q.ord.xs.take (k+1)).map (fun p=>q.sel.xs.getD p.toNat 0)=(q.ord.xs.take k).map (fun p=>q.sel.xs.getD p.toNat 0)++[q.sel.xs.getD (q.ord.xs.getD k 0).toNat 0]:=by
 have e:q.ord.xs.getD k 0=q.ord.xs[k]:=by simp[List.getD,hk]
 rw[List.take_succ_eq_append_getElem hk,List.map_append,e];rfl
theorem ownsRow_base {w:World} {base base':Nat} {e:TypeId} {size:Nat} {v:Value} {n:Nat} {xs:List Value} (h:w.ownsRow base e size v n xs) (hb:base'<=base):w.ownsRow base' e size v n xs:=ownsRow_move h hb (fun _ _ _=>rfl)
theorem allB_get {xs:List Int} {n:Int} (h:allB xs n=true) {k:Nat} (hk:k<xs.length):0<=xs.getD k 0/\xs.getD k 0<n:=by
 unfold allB at h;rw[List.all_eq_true] at h;have:=h _ (getD_memR hk (d:=0))
 simpa using this
end Go.Scout
namespace Go.Proofs.YtlpbelhfpoilpaaGreatDoor
open Go.RowKit Go.Scout
theorem columnsOfOrder_any (q:QueryV) (w:World) (hq:q.At w) (hos:allB q.ord.xs q.sel.xs.length=true) (hol:q.ord.xs.length<=1000) :
  Calls Tryz.prog 231 #[.agg q.cells] w fun e w'=>∃ v,e=.returned v/\w'.ownsRow w.heap.size 3 1 v (wantN q).length ((wantN q).map (Value.int .i64))/\Below w.heap.size w w':=by
 obtain⟨w1,hw1⟩:∃ x,x=w.alloc (.cells q.cells 26):=⟨_,rfl⟩
 have hk1:Below w.heap.size w w1:=by rw[hw1]; exact bQ2 _ _
 have hbox:GB w1 w.heap.size 26 q.cells:=by rw[hw1]; exact bQ3 _ _
 have q5:w1.cell? (aD w.heap.size 5)=some q.sel.val:=hbox.cell 5;have q6:w1.cell? (aD w.heap.size 6)=some q.ord.val:=hbox.cell 6;have hWC:w.alloc (.cells q.cells 26)=w1:=hw1.symm;have HSE:Hid (IntsAt w q.sel.ad q.sel.xs):=hq.sel;have HOR:Hid (IntsAt w q.ord.ad q.ord.xs):=hq.ord;have HOS:Hid _:=hos;have HWT:Hid (∀ k,k<q.ord.xs.length->_):=fun k hk=>@want_take q k hk
 have HWN:Hid (wantN q=(q.ord.xs.take q.ord.xs.length).map (fun p=>q.sel.xs.getD p.toNat 0)):=by show _=_; rw[List.take_length]; rfl
 have hsl:=hq.sel.1;have HL:Hid (∀ k,((q.ord.xs.take k).map (fun p=>q.sel.xs.getD p.toNat 0)).length<=1000):=fun k=>by rw[List.length_map,List.length_take]; omega
 clear hw1 hbox hq hos;obtain⟨src,wad,wcap,wh,group,keys,sums,⟨ea,ec,sel⟩,⟨oa,oc,ord⟩⟩:=q;unfold QueryV.cells IntsV.val at *;simp only at *;generalize wantN ⟨src,wad,wcap,wh,group,keys,sums,⟨ea,ec,sel⟩,⟨oa,oc,ord⟩⟩=WN at *;obtain⟨W,hW⟩:∃ W:Nat->List Int,W=fun k=>(ord.take k).map (fun p=>sel.getD p.toNat 0):=⟨_,rfl⟩
 have HWT':Hid (∀ k,k<ord.length->W (k+1)=W k++[sel.getD (ord.getD k 0).toNat 0]):=fun k hk=>by rw[hW]; exact HWT.out k hk
 have HWN':Hid (WN=W ord.length):=by show _=_; rw[hW]; exact HWN.out
 have HL':Hid (∀ k,(W k).length<=1000):=fun k=>by rw[hW]; exact HL.out k
 have HW0:Hid (W 0=[]):=by show _=_; rw[hW]; rfl
 clear hW HWT HWN HL;go_enter Tryz.func231,Tryz.ntmps231;go_wp2;clear hWC;go_loopw [3,9] (fun v iv wr=>∃ k:Nat,k<=ord.length/\iv=.int .i64 k/\Hid (wr.ownsRow w1.heap.size 3 1 v (W k).length ((W k).map (Value.int .i64)))/\Below w1.heap.size w1 wr) (fun _ iv _=>ord.length-(intOf iv).toNat)
 case atStart=>exact⟨0,Nat.zero_le _,rfl,by rw[HW0.out]; exact World.ownsRow_nil _ _ _ _,Below.refl _ _⟩
 case round=>
  obtain⟨k,hk,rfl,HO,hbr⟩:=hrel;have q5':=cB hbr q5;by_cases hlt:k<ord.length
  ·have k1:=bQ1 hk1 hbr;obtain⟨ob,oo,rfl,hoc⟩:=IntsAt.get HOR.out hlt;have hok:=cB k1 (hoc k hlt);have hpl:=allB_get HOS.out hlt;have HT:Hid _:=HWT'.out k hlt;have hlen:=HL'.out k;clear hoc;generalize ord.getD k 0=p at *;obtain⟨n,rfl⟩:=Int.eq_ofNat_of_zero_le hpl.1;have hn:n<sel.length:=by omega
   obtain⟨eb,eo,rfl,hec⟩:=IntsAt.get HSE.out hn;have hek:=cB k1 (hec n hn);clear hec;rw[Int.toNat_natCast] at HT;generalize sel.getD n 0=x at *;generalize hLk:W k=L at *;clear hLk;obtain⟨ra,rm,rc,rfl⟩:=ownsRow_slice HO.out;obtain⟨v',w5,hr5,ho5,hk5,⟨ua,um,uc,rfl⟩,-⟩:=push_int wr w1.heap.size (.slice ra rm rc) L HO.out (by omega) hbr.size x 23;have hb5:Below w1.heap.size w1 w5:=hbr.trans (hk5.below hbr.size (fun b hb e=>by have:=(ownsRow_lt HO.out e).1; omega));rw[<- HT.out] at ho5;have HO5:Hid _:=ho5;have HB5:Hid _:=hb5;clear ho5 hb5 hk5 HO HT;go_wp2_with (first | (at_builtin; refine wpList_append_run rfl (.tmp 13) (.tmp 19) 23 rfl (.slice ra rm rc) (.slice (some (aD wr.heap.size 0)) 1 1) (.slice ua um uc) w5 rfl rfl hr5 ?_));clear hr5;go_wp2;go_roundw
   case rel=>exact⟨k+1,by omega,by go_num,HO5.out,HB5.out⟩
   case measure=>simp[intOf]; omega
  ·obtain rfl:k=ord.length:=by omega
   rw[<- HWN'.out] at HO;have HF:Hid (wr.ownsRow w.heap.size 3 1 _ WN.length (WN.map (Value.int .i64))):=ownsRow_base HO.out hk1.size;have HB:Hid _:=bQ1 hk1 hbr;clear HO hbr;go_wp2;go_ret;exact⟨_,rfl,HF.out,HB.out⟩
structure EndQ (q:QueryV) (kind:Int):Prop where
 places:kind=9->allB q.ord.xs q.sel.xs.length=true
 few:q.ord.xs.length<=1000
theorem endsWell_any (q:QueryV) (kind:Int) (oa:Option Addr) (oc:Nat) (order:List Int) (w:World) (hq:q.At w) (hk:EndQ q kind) (ho:IntsAt w oa order) (hcap:order.length<=oc) :
  Calls Tryz.prog 154 #[.agg q.cells,.int .i64 kind,.slice oa order.length oc] w fun e w'=>e=.returned (.bool (endsP q kind order))/\Below w.heap.size w w':=by
 obtain⟨w1,hw1⟩:∃ x,x=w.alloc (.cells q.cells 26):=⟨_,rfl⟩
 have hk1:Below w.heap.size w w1:=by rw[hw1]; exact bQ2 _ _
 have hbox:GB w1 w.heap.size 26 q.cells:=by rw[hw1]; exact bQ3 _ _
 have q0:w1.cell? (aD w.heap.size 0)=some q.src.val:=hbox.cell 0;have q1:w1.cell? (aD w.heap.size 1)=some (.slice q.wad q.wh.length q.wcap):=hbox.cell 1;have q2:w1.cell? (aD w.heap.size 2)=some (.bool q.group):=hbox.cell 2;have q3:w1.cell? (aD w.heap.size 3)=some q.keys.val:=hbox.cell 3;have q4:w1.cell? (aD w.heap.size 4)=some q.sums.val:=hbox.cell 4;have q5:w1.cell? (aD w.heap.size 5)=some q.sel.val:=hbox.cell 5;have q6:w1.cell? (aD w.heap.size 6)=some q.ord.val:=hbox.cell 6;have hWC:w.alloc (.cells q.cells 26)=w1:=hw1.symm;have hol:=hq.ord.1;have hkl:=hq.keys.1;have HCO:Hid (kind=9->_):=fun e=>columnsOfOrder_any q w1 (hq.below hk1) (hk.places e) hk.few
 have HBE:Hid (∀ ba bc ys x,Below w1.heap.size w1 x->IntsAt x ba ys->_):=fun ba bc ys x hb hy=>begins_any oa ba oc bc order ys x (IntsAt.below (bQ1 hk1 hb) ho) hy hcap
 have HCU:Hid _:=countsUp_any q.ord.ad q.ord.cap q.ord.xs w1 (IntsAt.below hk1 hq.ord);obtain⟨EP,hEP⟩:∃ EP,EP=endsP q kind order:=⟨_,rfl⟩
 rw[<- hEP];have HWL:Hid ((wantN q).length<=1000):=by show _<=_; unfold wantN; rw[List.length_map]; exact hk.few
 unfold endsP at hEP;have HEQ:Hid _:=hEP;clear hEP;generalize wantN q=WN at *;generalize countsB q.ord.xs=CB at *;have HK1:Hid _:=hk1;have hol':=ho.1;clear hw1 hbox hq hk ho hk1;obtain⟨⟨sa,sc,src⟩,wad,wcap,wh,group,⟨ka,kc,keys⟩,⟨ua,uc,sums⟩,⟨ea,ec,sel⟩,⟨da,dc,ord⟩⟩:=q;unfold QueryV.cells IntsV.val at *;simp only at *;by_cases c0:ord.length=0
 ·have HV:Hid (EP=true):=by show _=_; rw[HEQ.out,if_pos c0]
  have hord:((ord.length:Int)==0)=true:=by rw[c0]; rfl
  clear HEQ HCU HCO HBE c0;go_enter Tryz.func154,Tryz.ntmps154;go_wp2;go_ret;exact⟨ret_bool HV.out.symm,HK1.out⟩
 rw[if_neg c0] at HEQ;have hord:((ord.length:Int)==0)=false:=by rw[beq_eq_false_iff_ne]; omega
 clear c0;by_cases k10:kind=10
 ·have HV:Hid (EP=true):=by show _=_; rw[HEQ.out,if_pos k10]
  subst k10;clear HEQ HCU HCO HBE;go_enter Tryz.func154,Tryz.ntmps154;go_wp2;go_ret;exact⟨ret_bool HV.out.symm,HK1.out⟩
 rw[if_neg k10] at HEQ;by_cases k9:kind=9
 ·have HV:Hid (EP=startsB order WN):=by show _=_; rw[HEQ.out,if_pos k9]
  have hCO:=HCO.out k9;subst k9;clear HEQ HCU HCO;go_enter Tryz.func154,Tryz.ntmps154;go_wp2_with fail;refine hCO.mono ?_;clear hCO;rintro e w2 ⟨v,rfl,hown,hb2⟩;obtain⟨ya,yc,rfl,hya⟩:=ints_own hown (by have:=HWL.out; omega);have hBE:=HBE.out ya yc WN w2 hb2 hya;rw[<- HV.out] at hBE;have HB2:Hid _:=bQ1 HK1.out hb2;clear HBE hown hya hb2;go_wp2_with fail;refine hBE.mono ?_;clear hBE;rintro e w3 ⟨rfl,hb3⟩;have HB3:Hid _:=bQ1 HB2.out hb3;clear hb3;go_wp2;go_ret;exact⟨rfl,HB3.out⟩
 rw[if_neg k9] at HEQ;by_cases k8:kind=8
 ·rw[if_pos k8] at HEQ;subst k8;by_cases hle:ord.length<=keys.length
  ·have HV:Hid (EP=CB):=by show _=_; rw[HEQ.out,decide_eq_true hle,Bool.true_and]
   have hCU:=HCU.out;clear HEQ HCU HCO HBE;go_enter Tryz.func154,Tryz.ntmps154;go_wp2_with fail;refine Calls.mono hCU ?_;clear hCU;rintro e w2 ⟨rfl,rfl⟩;go_wp2;go_ret;exact⟨ret_bool HV.out.symm,HK1.out⟩
  ·have HV:Hid (EP=false):=by show _=_; rw[HEQ.out,decide_eq_false hle,Bool.false_and]
   clear HEQ HCU HCO HBE;go_enter Tryz.func154,Tryz.ntmps154;go_wp2;go_ret;exact⟨ret_bool HV.out.symm,HK1.out⟩
 ·have HV:Hid (EP=false):=by show _=_; rw[HEQ.out,if_neg k8]
  clear HEQ HCU HCO HBE;go_enter Tryz.func154,Tryz.ntmps154;go_wp2;go_ret;exact⟨ret_bool HV.out.symm,HK1.out⟩
end Go.Proofs.YtlpbelhfpoilpaaGreatDoor
namespace Go.Scout
open Go.RowKit
def kindsL (kind:Int) (ps:List PartV):Bool:=ps.all fun p=>outK p.kind==decide (kind=10)
theorem kindsL_bad {kind:Int} {ps:List PartV} {k:Nat} (hk:k<ps.length) (h:(outK (ps.getD k pvz).kind==decide (kind=10))=false):kindsL kind ps=false:=by
 unfold kindsL;rw[List.all_eq_false];exact⟨_,getD_memR hk,by rw[h]; simp⟩
theorem kindsL_all {kind:Int} {ps:List PartV} (h:∀ i,i<ps.length->(outK (ps.getD i pvz).kind==decide (kind=10))=true):kindsL kind ps=true:=by
 unfold kindsL;rw[List.all_eq_true];intro p hp;obtain⟨i,hi,rfl⟩:=List.getElem_of_mem hp;have:=h i hi
 simpa [List.getD,hi] using this
def riseAt (ts:List TableD) (q:QueryV) (l:List Int) (s i:Nat):Bool:=
 decide ((if i=0 then -1 else l.getD (i-1) 0)<l.getD i 0)&&decide (l.getD i 0<q.wh.length)&&coversB s (setN (concernN ts q.src.xs (q.wh.getD (l.getD i 0).toNat lz).cs))
end Go.Scout
namespace Go.Proofs.YtlpbelhfpoilpaaGreatDoor
open Go.RowKit Go.Scout
theorem kindsFit_any (kind:Int) (ao:Option Addr) (cap:Nat) (ps:List PartV) (w:World) (hp:PartsAt w ao ps) :
  Calls Tryz.prog 150 #[.int .i64 kind,.slice ao ps.length cap] w fun e w'=>e=.returned (.bool (kindsL kind ps))/\Below w.heap.size w w':=by
 have hl:=hp.1;have HB:Hid _:=@kindsL_bad kind ps;have HA:Hid _:=@kindsL_all kind ps;have HP:Hid _:=hp;generalize kindsL kind ps=KL at *;clear hp;go_enter Tryz.func150,Tryz.ntmps150;go_wp2;go_loopw [9] (fun iv wr=>∃ k:Nat,k<=ps.length/\iv=.int .i64 k/\Hid (∀ j,j<k->(outK (ps.getD j pvz).kind==decide (kind=10))=true)/\Below w.heap.size w wr) (fun iv _=>ps.length-(intOf iv).toNat)
 case atStart=>exact⟨0,Nat.zero_le _,rfl,fun j hj=>absurd hj (by omega),Below.refl _ _⟩
 case round=>
  obtain⟨k,hk,rfl,HJ,hbr⟩:=hrel;by_cases hlt:k<ps.length
  ·obtain⟨⟨b,off,rfl,c0,c1,c2,c3,c4,c5⟩,_⟩:=HP.out.2 k hlt;have d0:=cB hbr c0;have d1:=cB hbr c1;have d2:=cB hbr c2;have d3:=cB hbr c3;have d4:=cB hbr c4;have d5:=cB hbr c5;have HBk:Hid _:=HB.out hlt;have HG:Hid (∀ p,p=ps.getD k pvz->(outK p.kind==decide (kind=10))=true->∀ j,j<k+1->(outK (ps.getD j pvz).kind==decide (kind=10))=true):=fun p hp h j hj=>by
    rcases Nat.lt_or_ge j k with h' | h'
    ·exact HJ.out j h'
    ·obtain rfl:j=k:=by omega
     rw[<- hp]; exact h
   clear c0 c1 c2 c3 c4 c5 HB HJ;obtain⟨p,hp⟩:∃ p,p=ps.getD k pvz:=⟨_,rfl⟩
   rw[<- hp] at d0 d1 d2 d3 d4 d5 HBk;have HPP:Hid _:=hp;clear hp;obtain⟨pk,psr,pcl,⟨pa,pc,px⟩,psz,pct⟩:=p;unfold IntsV.val at *;simp only at *;have hO:=fun x=>outK_any pk x
   obtain⟨O,hOe⟩:∃ O,O=outK pk:=⟨_,rfl⟩
   rw[<- hOe] at HBk hO;have HOE:Hid _:=hOe;clear hOe;have hbx:Below w.heap.size w (wr.alloc (.cells #[.int .i64 pk,.int .u64 (psr:Int),.int .u64 (pcl:Int),.slice pa px.length pc,.int .u64 (psz:Int),.int .u64 (pct:Int)] 110)):=bQ1 hbr (bQ2 _ _);have HBX:Hid _:=hbx;clear hbx;have hkd:decide (kind=10)=(kind==10):=by rw[Bool.eq_iff_iff]; simp
   by_cases heq:(O==decide (kind=10))=true
   ·have hne:(!(O==(kind==10)))=false:=by rw[<- hkd,heq]; rfl
    clear hkd;have HN:Hid _:=HG.out _ HPP.out (by rw[<- HOE.out]; exact heq);clear heq HG HBk;go_wp2_with fail;refine (hO _).mono ?_;rintro e w2 ⟨rfl,rfl⟩;go_wp2;go_roundw
    case rel=>exact⟨k+1,by omega,by go_num,HN.out,HBX.out⟩
    case measure=>simp[intOf]; omega
   ·have heq':(O==decide (kind=10))=false:=by simpa using heq
    have HV:Hid (KL=false):=HBk.out heq';have hne:(!(O==(kind==10)))=true:=by rw[<- hkd,heq']; rfl
    clear hkd;clear heq heq' HG HBk;go_wp2_with fail;refine (hO _).mono ?_;rintro e w2 ⟨rfl,rfl⟩;go_wp2;go_ret;exact⟨ret_bool HV.out.symm,HBX.out⟩
  ·have HV:Hid (KL=true):=HA.out (fun i hi=>HJ.out i (by omega));clear HB HA HJ;go_wp2;go_ret;exact⟨ret_bool HV.out.symm,hbr⟩
end Go.Proofs.YtlpbelhfpoilpaaGreatDoor
namespace Go.Scout
open Go.RowKit
theorem conc_lt {ts:List TableD} {q:QueryV} (ok:Ok ts q) {k:Nat} (hk:k<q.wh.length):setN (concernN ts q.src.xs (q.wh.getD k lz).cs)<18446744073709551616:=
 (concern_small ok.cat ok.src (ok.cols k hk)).lt ok.small
theorem rises_bad {ts:List TableD} {q:QueryV} {l:List Int} {s k:Nat} (hk:k<l.length) (h:riseAt ts q l s k=false):risesB ts q l s=false:=by
 show (List.range l.length).all (riseAt ts q l s)=false
 rw[List.all_eq_false];exact⟨k,List.mem_range.2 hk,by rw[h]; simp⟩
theorem rises_all {ts:List TableD} {q:QueryV} {l:List Int} {s:Nat} (h:∀ i,i<l.length->riseAt ts q l s i=true):risesB ts q l s=true:=by
 show (List.range l.length).all (riseAt ts q l s)=true
 rw[List.all_eq_true];exact fun i hi=>h i (List.mem_range.1 hi)
end Go.Scout
namespace Go.Proofs.YtlpbelhfpoilpaaGreatDoor
open Go.RowKit Go.Scout
theorem clausesFit_any (f:FactsV) (ts:List TableD) (q:QueryV) (la:Option Addr) (lc:Nat) (l:List Int) (s:Nat) (w:World) (ok:Ok ts q) (hf:f.At ts q w) (hl:IntsAt w la l) (hs:s<18446744073709551616) :
  Calls Tryz.prog 221 #[.agg (f.cells ts q),.slice la l.length lc,.int .u64 (s:Int)] w fun e w'=>e=.returned (.bool (risesB ts q l s))/\Below w.heap.size w w':=by
 obtain⟨w1,hw1⟩:∃ x,x=w.alloc (.cells (f.cells ts q) 105):=⟨_,rfl⟩
 have hk1:Below w.heap.size w w1:=by rw[hw1]; exact bQ2 _ _
 have hbox:GB w1 w.heap.size 105 (f.cells ts q):=by rw[hw1]; exact bQ3 _ _
 have q1:w1.cell? (aD w.heap.size 1)=some (.slice q.wad q.wh.length q.wcap):=hbox.cell 1;have q11:w1.cell? (aD w.heap.size 11)=some (.slice f.na q.wh.length f.nc):=by rw[<- hf.nl]; exact hbox.cell 11
 have hWC:w.alloc (.cells (f.cells ts q) 105)=w1:=hw1.symm;have HCN:Hid _:=hf.conc.below hk1;have HLI:Hid _:=IntsAt.below hk1 hl;have hl1:=hl.1;have hwl:=hf.query.wh.1;have HB:Hid _:=@rises_bad ts q l s;have HA:Hid _:=@rises_all ts q l s;have HAT:Hid (∀ i,riseAt ts q l s i=(decide ((if i=0 then -1 else l.getD (i-1) 0)<l.getD i 0)&&decide (l.getD i 0<q.wh.length)&&coversB s (setN (concernN ts q.src.xs (q.wh.getD (l.getD i 0).toNat lz).cs)))):=fun _=>rfl
 have HCG:Hid (∀ k,k<q.wh.length->(concL ts q).getD k 0=setN (concernN ts q.src.xs (q.wh.getD k lz).cs)/\setN (concernN ts q.src.xs (q.wh.getD k lz).cs)<18446744073709551616):=fun k hk=>⟨concL_get ts q hk,conc_lt ok hk⟩
 have HCL:Hid _:=concL_len ts q;have HK1:Hid _:=hk1;generalize risesB ts q l s=RB at *;obtain⟨CN,hCN⟩:∃ CN:Nat->Nat,CN=fun k=>setN (concernN ts q.src.xs (q.wh.getD k lz).cs):=⟨_,rfl⟩
 have HAT':Hid (∀ i,riseAt ts q l s i=(decide ((if i=0 then -1 else l.getD (i-1) 0)<l.getD i 0)&&decide (l.getD i 0<q.wh.length)&&coversB s (CN (l.getD i 0).toNat))):=fun i=>by rw[hCN]; exact HAT.out i
 have HCG':Hid (∀ k,k<q.wh.length->(concL ts q).getD k 0=CN k/\CN k<18446744073709551616):=fun k hk=>by rw[hCN]; exact HCG.out k hk
 clear hCN HAT HCG;generalize riseAt ts q l s=RA at *;generalize concL ts q=CL at *;generalize hNW:q.wh.length=nw at *;clear hNW;generalize f.cells ts q=FC at *;have hnw:nw<=1152921504606846976:=hwl;clear hw1 hbox hf hl ok hk1;go_enter Tryz.func221,Tryz.ntmps221;go_wp2;clear hWC;go_loopw [7,12] (fun lv iv wr=>∃ k:Nat,k<=l.length/\iv=.int .i64 k/\(∃ last:Int,lv=.int .i64 last/\-1<=last/\Hid (last=if k=0 then -1 else l.getD (k-1) 0))/\Hid (∀ j,j<k->RA j=true)/\wr=w1) (fun _ iv _=>l.length-(intOf iv).toNat)
 case atStart=>exact⟨0,Nat.zero_le _,rfl,⟨-1,rfl,by omega,rfl⟩,fun j hj=>absurd hj (by omega),rfl⟩
 case round=>
  obtain⟨k,hk,rfl,⟨last,rfl,hlast,HLA⟩,HJ,rfl⟩:=hrel;by_cases hlt:k<l.length
  ·obtain⟨lb,lo,rfl,hlc⟩:=IntsAt.get HLI.out hlt;have hck:=hlc k hlt;have HATk:Hid _:=HAT'.out k;have HBk:Hid _:=HB.out hlt;rw[<- HLA.out] at HATk;have HNX:Hid (∀ c,c=l.getD k 0->c=if k+1=0 then -1 else l.getD (k+1-1) 0):=fun c hc=>by rw[if_neg (by omega)]; exact hc
   have HJ':Hid (RA k=true->∀ j,j<k+1->RA j=true):=fun h j hj=>by
    rcases Nat.lt_or_ge j k with h' | h'
    ·exact HJ.out j h'
    ·obtain rfl:j=k:=by omega
     exact h
   clear hlc HLA HJ HB HA HAT';obtain⟨c,hce⟩:∃ c,c=l.getD k 0:=⟨_,rfl⟩
   rw[<- hce] at hck HATk;have HNX':Hid _:=HNX.out c hce;clear hce HNX;by_cases h1:c<=last
   ·have HV:Hid (RB=false):=HBk.out (by rw[HATk.out,decide_eq_false (by omega)]; rfl);clear HATk HBk HJ';go_wp2;go_ret;exact⟨ret_bool HV.out.symm,HK1.out⟩
   by_cases h2:(nw:Int)<=c
   ·have HV:Hid (RB=false):=HBk.out (by rw[HATk.out,decide_eq_false (show ¬ c<(nw:Int) by omega),Bool.and_false]; rfl);clear HATk HBk HJ';go_wp2;go_ret;exact⟨ret_bool HV.out.symm,HK1.out⟩
   obtain⟨n,rfl⟩:=Int.eq_ofNat_of_zero_le (show 0<=c by omega);have hn:n<nw:=by omega
   obtain⟨hcg,hclt⟩:=HCG'.out n hn;obtain⟨cb,co,hfna,hcc⟩:=NatsAt.get HCN.out (show n<CL.length by rw[HCL.out]; exact hn);have hcn:=hcc n (by rw[HCL.out]; exact hn);rw[hcg] at hcn;rw[Int.toNat_natCast] at HATk;clear hcc hcg;rw[hfna] at q11;clear hfna;generalize CN n=m at *;have hCO:=covers_any s m hs hclt wr;by_cases h3:coversB s m=true
   ·rw[h3] at hCO HATk;have HT:Hid _:=HJ'.out (by rw[HATk.out,decide_eq_true (by omega),decide_eq_true (by omega)]; rfl);clear HATk HBk HJ' h3;go_wp2_with fail;refine hCO.mono ?_;clear hCO;rintro e w2 ⟨rfl,rfl⟩;go_wp2;go_roundw
    case rel=>exact⟨k+1,by omega,by go_num,⟨n,rfl,by omega,HNX'.out⟩,HT.out,trivial⟩
    case measure=>simp[intOf]; omega
   ·have h3':coversB s m=false:=by simpa using h3
    rw[h3'] at hCO HATk;have HV:Hid (RB=false):=HBk.out (by rw[HATk.out,Bool.and_false]);clear HATk HBk HJ' h3 h3';go_wp2_with fail;refine hCO.mono ?_;clear hCO;rintro e w2 ⟨rfl,rfl⟩;go_wp2;go_ret;exact⟨ret_bool HV.out.symm,HK1.out⟩
  ·have HV:Hid (RB=true):=HA.out (fun i hi=>HJ.out i (by omega));clear HB HA HJ;go_wp2;go_ret;exact⟨ret_bool HV.out.symm,HK1.out⟩
end Go.Proofs.YtlpbelhfpoilpaaGreatDoor
namespace Go.Scout
open Go.RowKit
def srcL (ts:List TableD) (q:QueryV) (xs:List Int):List Int:=xs.map fun c=>(sourceN ts q.src.xs c:Int)
theorem srcL_take (ts:List TableD) (q:QueryV) {xs:List Int} {k:Nat} (hk:k<xs.length):setN (srcL ts q (xs.take (k+1)))=setN (srcL ts q (xs.take k))|||2 ^ sourceN ts q.src.xs (xs.getD k 0):=by
 have e:xs.getD k 0=xs[k]:=by simp[List.getD,hk]
 unfold srcL;rw[List.take_succ_eq_append_getElem hk,List.map_append,setN_append,e]
 show _|||setN [(sourceN ts q.src.xs xs[k]:Int)]=_
 rw[setN_one]
def ColOk (ts:List TableD) (q:QueryV) (xs:List Int):Prop:=∀ c∈xs,0<=c/\c<widthN ts q.src.xs
theorem srcL_small {ts:List TableD} {q:QueryV} (ok:Ok ts q) {xs:List Int} (h:ColOk ts q xs):SmallL q.src.xs.length (srcL ts q xs):=fun x hx=>by
 obtain⟨c,hc,rfl⟩:=List.mem_map.1 hx;obtain⟨h0,h1⟩:=h c hc;have:=(sourceN_at ok.cat ok.src h0 h1).1;omega
theorem srcL_lt {ts:List TableD} {q:QueryV} (ok:Ok ts q) {xs:List Int} (h:ColOk ts q xs) (k:Nat):setN (srcL ts q (xs.take k))<18446744073709551616:=
 (srcL_small ok (fun c hc=>h c (List.mem_of_mem_take hc))).lt ok.small
theorem colsN_len {ts:List TableD} {q:QueryV} (ok:Ok ts q):((colsN ts q).length:Int)=widthN ts q.src.xs:=by
 have:=colsTo_len ok.cat ok.src q.src.xs.length (Nat.le_refl _);rw[List.take_length] at this;exact this
theorem srcOf_lt {ts:List TableD} {q:QueryV} (ok:Ok ts q) {c:Int} (h0:0<=c) (h1:c<widthN ts q.src.xs):sourceN ts q.src.xs c<q.src.xs.length:=(sourceN_at ok.cat ok.src h0 h1).1
end Go.Scout
namespace Go.Proofs.YtlpbelhfpoilpaaGreatDoor
open Go.RowKit Go.Scout
theorem namesRight_any (c:CondD) (w:World) :
  Calls Tryz.prog 286 #[c.val] w fun e w'=>e=.returned (.bool (!c.const&&decide (c.op≠2)))/\Below w.heap.size w w':=by
 obtain⟨not,op,left,const,right⟩:=c;have hb:=bQ2 w (.cells #[.bool not,.int .i64 op,.int .i64 left,.bool const,.int .i64 right] 137);have HB:Hid _:=hb;clear hb;have HD:Hid (decide (op≠2)=(op != 2)):=by show _=_; rw[Bool.eq_iff_iff]; simp
 unfold CondD.val
 cases const with
 | false =>
  go_enter Tryz.func286,Tryz.ntmps286;go_wp2;go_ret;exact⟨ret_bool (by show _=(true&&decide (op≠2)); rw[HD.out]; rfl),HB.out⟩
 | true =>
  go_enter Tryz.func286,Tryz.ntmps286;go_wp2;go_ret;exact⟨rfl,HB.out⟩
theorem ints_alloc (w:World) (xs:List Int) (t:TypeId) (hl:xs.length<=1000):IntsAt (w.alloc (.cells (xs.map (Value.int .i64)).toArray t)) (some (aD w.heap.size 0)) xs:=by
 refine⟨by omega,fun i hi=>⟨w.heap.size,0,rfl,?_⟩⟩;simp only[World.cell?,bQ3 w _];simp[List.getD,hi]
theorem condColumns_any (c:CondD) (w:World) :
  Calls Tryz.prog 219 #[c.val] w fun e w'=>∃ b,e=.returned (.slice (some (aD b 0)) (condCols c).length (condCols c).length)/\IntsAt w' (some (aD b 0)) (condCols c)/\Below w.heap.size w w':=by
 have HN:Hid _:=fun x=>namesRight_any c x
 obtain⟨w1,hw1⟩:∃ x,w.alloc (.cells #[.bool c.not,.int .i64 c.op,.int .i64 c.left,.bool c.const,.int .i64 c.right] 137)=x:=⟨_,rfl⟩
 have hk1:Below w.heap.size w w1:=by rw[<- hw1]; exact bQ2 _ _
 have hbox:GB w1 w.heap.size 137 #[.bool c.not,.int .i64 c.op,.int .i64 c.left,.bool c.const,.int .i64 c.right]:=by rw[<- hw1]; exact bQ3 _ _
 have g0:w1.cell? (aD w.heap.size 0)=some (.bool c.not):=hbox.cell 0;have g1:w1.cell? (aD w.heap.size 1)=some (.int .i64 c.op):=hbox.cell 1;have g2:w1.cell? (aD w.heap.size 2)=some (.int .i64 c.left):=hbox.cell 2;have g3:w1.cell? (aD w.heap.size 3)=some (.bool c.const):=hbox.cell 3;have g4:w1.cell? (aD w.heap.size 4)=some (.int .i64 c.right):=hbox.cell 4;have HC:Hid (condCols c=if (!c.const&&decide (c.op≠2))=true then [c.left,c.right] else [c.left]):=by
  show _=_
  unfold condCols
  cases c.const <;> by_cases h:c.op=2 <;> simp[h]
 have hN:=HN.out w1;generalize (!c.const&&decide (c.op≠2))=B at *;generalize condCols c=CC at *;clear HN hbox;obtain⟨not,op,left,const,right⟩:=c;unfold CondD.val at *;simp only at *;have HK1:Hid _:=hk1;clear hk1
 cases B with
 | true =>
  obtain rfl:CC=[left,right]:=HC.out;have HIA:Hid (∀ x:World,IntsAt (x.alloc (.cells #[.int .i64 left,.int .i64 right] 3)) (some (aD x.heap.size 0)) [left,right]):=fun x=>ints_alloc x [left,right] _ (by simp)
  clear HC;go_enter Tryz.func219,Tryz.ntmps219;go_wp2_with fail;refine hN.mono ?_;clear hN hw1;rintro e w2 ⟨rfl,hb2⟩;have e2:=cB hb2 g2;have e4:=cB hb2 g4;have HB2:Hid _:=bQ1 (bQ1 HK1.out hb2) (bQ2 w2 (.cells #[.int .i64 left,.int .i64 right] 3));clear hb2 g0 g1 g2 g3 g4;go_wp2;go_ret;exact⟨_,rfl,HIA.out _,HB2.out⟩
 | false =>
  obtain rfl:CC=[left]:=HC.out;have HIA:Hid (∀ x:World,IntsAt (x.alloc (.cells #[.int .i64 left] 3)) (some (aD x.heap.size 0)) [left]):=fun x=>ints_alloc x [left] _ (by simp)
  clear HC;go_enter Tryz.func219,Tryz.ntmps219;go_wp2_with fail;refine hN.mono ?_;clear hN hw1;rintro e w2 ⟨rfl,hb2⟩;have e2:=cB hb2 g2;have HB2:Hid _:=bQ1 (bQ1 HK1.out hb2) (bQ2 w2 (.cells #[.int .i64 left] 3));clear hb2 g0 g1 g2 g3 g4;go_wp2;go_ret;exact⟨_,rfl,HIA.out _,HB2.out⟩
theorem sourcesOf_any (f:FactsV) (ts:List TableD) (q:QueryV) (xa:Option Addr) (xc:Nat) (xs:List Int) (w:World) (ok:Ok ts q) (hf:ColsAt w f.ca (colsN ts q)) (hx:IntsAt w xa xs) (hxs:ColOk ts q xs) :
  Calls Tryz.prog 218 #[.agg (f.cells ts q),.slice xa xs.length xc] w fun e w'=>e=.returned (.int .u64 ((setN (srcL ts q xs):Nat):Int))/\Below w.heap.size w w':=by
 obtain⟨w1,hw1⟩:∃ x,x=w.alloc (.cells (f.cells ts q) 105):=⟨_,rfl⟩
 have hk1:Below w.heap.size w w1:=by rw[hw1]; exact bQ2 _ _
 have hbox:GB w1 w.heap.size 105 (f.cells ts q):=by rw[hw1]; exact bQ3 _ _
 have q7:w1.cell? (aD w.heap.size 7)=some (.slice f.ca (colsN ts q).length f.cc):=hbox.cell 7;have hWC:w.alloc (.cells (f.cells ts q) 105)=w1:=hw1.symm;have HCO:Hid _:=hf.below hk1;have HXI:Hid _:=IntsAt.below hk1 hx;have hxl:=hx.1;have hcl:=hf.1;have HST:Hid (∀ k,k<xs.length->setN (srcL ts q (xs.take (k+1)))=setN (srcL ts q (xs.take k))|||2 ^ sourceN ts q.src.xs (xs.getD k 0)):=fun k hk=>srcL_take ts q hk
 have HSL:Hid (∀ k,setN (srcL ts q (xs.take k))<18446744073709551616):=fun k=>srcL_lt ok hxs k
 have HSE:Hid (setN (srcL ts q (xs.take xs.length))=setN (srcL ts q xs)):=by show _=_; rw[List.take_length]
 have HS0:Hid (setN (srcL ts q (xs.take 0))=0):=rfl;have HXC:Hid (∀ k,k<xs.length->∃ n:Nat,xs.getD k 0=n/\n<(colsN ts q).length/\((colsN ts q).getD n (0,0)).1=sourceN ts q.src.xs (xs.getD k 0)/\sourceN ts q.src.xs (xs.getD k 0)<64):=fun k hk=>by
  obtain⟨h0,h1⟩:=hxs _ (getD_memR hk (d:=0));have h2:=colsN_len ok;have h3:=srcOf_lt ok h0 h1;have h4:=ok.small;refine⟨(xs.getD k 0).toNat,by omega,by omega,rfl,by omega⟩
 have HK1:Hid _:=hk1;obtain⟨ST,hST⟩:∃ ST:Nat->Nat,ST=fun k=>setN (srcL ts q (xs.take k)):=⟨_,rfl⟩
 have HST':Hid (∀ k,k<xs.length->ST (k+1)=ST k|||2 ^ sourceN ts q.src.xs (xs.getD k 0)):=by rw[hST]; exact HST.out
 have HSL':Hid (∀ k,ST k<18446744073709551616):=by rw[hST]; exact HSL.out
 have HSE':Hid (ST xs.length=setN (srcL ts q xs)):=by rw[hST]; exact HSE.out
 have HS0':Hid (ST 0=0):=by rw[hST]; exact HS0.out
 generalize setN (srcL ts q xs)=R at *;generalize sourceN ts q.src.xs=SN at *;generalize colsN ts q=CS at *;generalize f.cells ts q=FC at *;clear hST HST HSL HSE HS0 hw1 hbox hk1 ok hxs hf hx;go_enter Tryz.func218,Tryz.ntmps218;go_wp2;clear hWC;go_loopw [5,10] (fun sv iv wr=>∃ k:Nat,k<=xs.length/\iv=.int .i64 k/\(∃ s:Nat,sv=.int .u64 (s:Int)/\Hid (s=ST k))/\Below w1.heap.size w1 wr) (fun _ iv _=>xs.length-(intOf iv).toNat)
 case atStart=>exact⟨0,Nat.zero_le _,rfl,⟨0,rfl,HS0'.out.symm⟩,Below.refl _ _⟩
 case round=>
  obtain⟨k,hk,rfl,⟨s,rfl,hs⟩,hbr⟩:=hrel;by_cases hlt:k<xs.length
  ·obtain⟨xb,xo,rfl,hxc⟩:=IntsAt.get HXI.out hlt;have hck:=cB hbr (hxc k hlt);obtain⟨n,hn,hnl,hcn,hn64⟩:=HXC.out k hlt;have HT:Hid _:=HST'.out k hlt;have hsl:s<18446744073709551616:=by rw[hs.out]; exact HSL'.out k
   obtain⟨cb,co,hca,c0,_⟩:=HCO.out.2 n hnl;have d0:=cB hbr c0;have q7':=cB hbr q7;rw[hca] at q7';rw[hn] at hck;rw[hcn] at d0;rw[<- hs.out] at HT;clear hxc c0 hca hcn hs;generalize SN (xs.getD k 0)=m at *;clear hn;obtain⟨wa,hwa⟩:∃ x,wr.alloc (.cells #[.int .i64 (m:Int)] 3)=x:=⟨_,rfl⟩
   have hSO:=setOf_one wr.heap.size m wa (by rw[<- hwa]; simp) hn64;obtain⟨wb,hwb⟩:∃ x,wa.alloc (.cells #[.int .u64 (s:Int),.int .u64 ((2 ^ m:Nat):Int)] 101)=x:=⟨_,rfl⟩
   have hp:2 ^ m<18446744073709551616:=Nat.pow_lt_pow_right (n:=64) (by omega) hn64;have hUN:=union_two wa.heap.size s (2 ^ m) wb (by rw[<- hwb]; simp) (by rw[<- hwb]; simp) hsl hp;have HBW:Hid (Below w1.heap.size w1 wb):=by
    show Below _ _ _
    rw[<- hwb,<- hwa];exact bQ1 (bQ1 hbr (bQ2 _ _)) (bQ2 _ _)
   generalize 2 ^ m=p at *;go_wp2_with fail;refine hSO.mono ?_;clear hSO;rintro e w2 ⟨rfl,rfl⟩;go_wp2_with fail;refine hUN.mono ?_;clear hUN;rintro e w3 ⟨rfl,rfl⟩;clear hwa hwb;go_wp2;go_roundw
   case rel=>exact⟨k+1,by omega,by go_num,⟨s|||p,rfl,HT.out.symm⟩,HBW.out⟩
   case measure=>simp[intOf]; omega
  ·obtain rfl:k=xs.length:=by omega
   have HV:Hid (s=R):=hs.out.trans HSE'.out;have HB:Hid _:=bQ1 HK1.out hbr;clear hs hbr;go_wp2;go_ret;exact⟨ret_int (by rw[HV.out]),HB.out⟩
end Go.Proofs.YtlpbelhfpoilpaaGreatDoor
