import Derived.Deep.CutRange
import Derived.Test.YtlpbelhfpoilpaaGreatDoorC01
import Derived.Test.YtlpbelhfpoilpaaGreatDoorC05
import Derived.Test.YtlpbelhfpoilpaaGreatDoorC09
import Derived.Test.YtlpbelhfpoilpaaGreatDoorC10
import Derived.Test.YtlpbelhfpoilpaaGreatDoorC12
import Derived.Test.YtlpbelhfpoilpaaGreatDoorC16
import Derived.Test.YtlpbelhfpoilpaaGreatDoorC21
import Derived.Test.YtlpbelhfpoilpaaGreatDoorC31
import Derived.Test.YtlpbelhfpoilpaaGreatDoorC32
import Derived.Test.YtlpbelhfpoilpaaGreatDoorC34
set_option linter.all false
set_option maxRecDepth 100000
set_option maxHeartbeats 16000000
namespace Go.Proofs.YtlpbelhfpoilpaaGreatDoor
open Go.RowKit Go.Scout
variable (w0:World) (b:Nat) (ao po:Option Addr) (cap pcap:Nat) (ts:List TableD) (q:QueryV) (pl:List NodeV)
theorem view_all (D:DataP w0 ao po ts q pl):∀ f,ViewC w0 b ao po cap pcap ts q pl f:=by
 intro f
 induction f with
 | zero => intro i W seen sv hif; omega
 | succ f ih =>
  intro i W seen sv hif hip hT hW hd hl hni;obtain⟨n,hn⟩:∃ n,pl.getD i nz=n:=⟨_,rfl⟩
  by_cases hbad:plainB n=false∨n.kind<1∨10<n.kind
  ·exact view_bad w0 b ao po cap pcap ts q pl D f i W seen sv hip hT hW hd hl n hn hbad
  have hp:plainB n=true:=by
   cases h:plainB n with
   | true => rfl
   | false => exact absurd (.inl h) hbad
  have hk:¬ n.kind<1/\¬ 10<n.kind:=⟨fun h=>hbad (.inr (.inl h)),fun h=>hbad (.inr (.inr h))⟩
  by_cases k1:n.kind=1
  ·exact view_scan w0 b ao po cap pcap ts q pl D f i W seen sv hip hT hW hd hl n hn hp k1
  by_cases k3:3<=n.kind/\n.kind<=5
  ·exact view_two w0 b ao po cap pcap ts q pl D f i ih (by omega) W seen sv hip hT hW hd hl hni n hn hp ⟨by omega,by omega,k3⟩
  ·exact view_one w0 b ao po cap pcap ts q pl D f i ih (by omega) W seen sv hip hT hW hd hl hni n hn hp ⟨by omega,by omega,k3⟩
end Go.Proofs.YtlpbelhfpoilpaaGreatDoor
namespace Go.Scout
open Go.RowKit
theorem read_nine {ts:List TableD} {q:QueryV} {pl:List NodeV} {v:ViewD} {s:List Nat} (h1:1<=pl.length) (h:readF ts q pl pl.length (pl.length-1) []=some (v,s)) {n:NodeV} (hn:pl.getD (pl.length-1) nz=n) (hk:n.kind=9) :
  q.group=false/\0<=n.l/\n.l<(pl.length:Int)/\∃ u s',readF ts q pl pl.length n.l.toNat []=some (u,s')/\viewN ts q pl n.l.toNat=some u:=by
 obtain⟨m,hm⟩:∃ m,pl.length=m+1:=⟨pl.length-1,by omega⟩
 have hp:plainB n=true:=by
  cases hp:plainB n with
  | true => rfl
  | false =>
   rw[hm] at h;rw[readF_bad (by rw[hm,Nat.add_sub_cancel] at hn; exact hn) (.inl hp)] at h
   cases h
 have e:m+1-1=m:=Nat.add_sub_cancel m 1;rw[hm,e] at h hn;rw[readF_one hn hp (by omega) (by omega) (by omega)] at h;unfold belowO at h;split at h
 ·cases h
 rename_i hb
 have hl0:0<=n.l/\n.l<(m:Int):=by omega
 cases hr:readF ts q pl m n.l.toNat ([]++[m]) with
 | none => rw[hr] at h; cases h
 | some x =>
  obtain⟨l,s1⟩:=x;rw[hr] at h;simp only[Option.bind_some] at h;obtain⟨hv,_,htn,_⟩:=readF_some ts q pl m n.l.toNat ([]++[m]) l s1 (by simp; omega) hr;have hlt:n.l.toNat<m:=by omega
  have hv1:viewF ts q pl pl.length n.l.toNat=some l:=by rw[viewF_more ts q pl pl.length m n.l.toNat (by omega) hlt]; exact hv
  have hg:q.group=false:=by
   cases hnv:nodeV ts q n l vz with
   | none => rw[hnv] at h; cases h
   | some v' =>
    rw[nodeV_eq] at hnv;split at hnv
    ·rename_i ho
     unfold nodeOk at ho;simp only[Bool.and_eq_true] at ho;have hkb:=ho.2;unfold kindB at hkb;rw[hk] at hkb;simp at hkb;exact hkb.1
    ·cases hnv
  have hof:=readF_of_view ts q pl pl.length n.l.toNat [] l hv1 htn (by simp);refine⟨hg,hl0.1,by omega,l,_,hof,?_⟩;rw[<- viewF_N ts q pl (show n.l.toNat<pl.length by omega)];exact hv1
theorem counts_bad {l:List Int} {k:Nat} (hk:k<l.length) (h:l.getD k 0≠(k:Int)):countsB l=false:=by
 unfold countsB;rw[List.all_eq_false];exact⟨k,List.mem_range.2 hk,by simp only[decide_eq_true_eq]; exact h⟩
theorem counts_good {l:List Int} (h:∀ k,k<l.length->l.getD k 0=(k:Int)):countsB l=true:=by
 unfold countsB;rw[List.all_eq_true];exact fun k hk=>decide_eq_true (h k (List.mem_range.1 hk))
theorem want_next (q:QueryV) {k:Nat} (hk:k<q.ord.xs.length):(wantN q).take (k+1)=(wantN q).take k++[q.sel.xs.getD (q.ord.xs.getD k 0).toNat 0]:=by
 have hk':k<(wantN q).length:=by unfold wantN; rw[List.length_map]; exact hk
 rw[List.take_succ_eq_append_getElem hk'];congr 2;unfold wantN;simp[List.getD,hk]
end Go.Scout
namespace Go.Proofs.YtlpbelhfpoilpaaGreatDoor
open Go.RowKit Go.Scout
variable (w0:World) (b:Nat) (ao po:Option Addr) (cap pcap:Nat) (ts:List TableD) (q:QueryV) (pl:List NodeV)
theorem sorted_any (D:DataP w0 ao po ts q pl) (W:World) (seen:List Nat) (sv:Value) (hT:TreeSt W b w0.heap.size 114 3 ao po cap pcap ts q pl seen sv) (hW:Below w0.heap.size w0 W) (h1:1<=pl.length) (hord:q.ord.xs.length<=4)
  (h9:(pl.getD (pl.length-1) nz).kind=9->allB q.ord.xs q.sel.xs.length=true/\0<=(pl.getD (pl.length-1) nz).l/\(pl.getD (pl.length-1) nz).l<(pl.length:Int)/\∃ u s',readF ts q pl pl.length (pl.getD (pl.length-1) nz).l.toNat []=some (u,s')/\viewN ts q pl (pl.getD (pl.length-1) nz).l.toNat=some u) :
  Calls Tryz.prog 44 #[.pointer (some (aD b 0))] W fun e w'=>e=.returned (.bool (sortedB ts q pl))/\Below W.heap.size W w':=by
 obtain⟨N1,hN1⟩:∃ N1,pl.length=N1+1:=⟨pl.length-1,by omega⟩
 have eN:pl.length-1=N1:=by omega
 rw[eN] at h9;have hpl:=D.plan.1;have HWR:Hid (IntKind.i64.wrap (N1:Int)=(N1:Int)):=by show _=_; simp[IntKind.wrap,IntKind.bits,IntKind.signed]; omega
 obtain⟨nb,no,hpo,m0,m1,m2,m3,m4,m5,m6,-,-⟩:=(NodesAt.below hW D.plan).2 N1 (by omega);have HVA:Hid (∀ (b':Nat) (f:Nat),ViewC w0 b' ao po cap pcap ts q pl f):=fun b' f=>view_all w0 b' ao po cap pcap ts q pl D f
 have HDQ:Hid (q.At W):=D.query.below hW;subst hpo;obtain⟨n,hn⟩:∃ n,pl.getD N1 nz=n:=⟨_,rfl⟩
 rw[hn] at m0 m1 m2 m3 m4 m5 m6 h9;have HSB:Hid (sortedB ts q pl=if q.ord.xs.length=0∨n.kind=10 then true else if n.kind=9 then startsB ((viewN ts q pl n.l.toNat).getD vz).order (wantN q) else countsB q.ord.xs&&(decide (n.kind=8)&&decide (q.ord.xs.length<=q.keys.xs.length))):=by
  show _=_
  unfold sortedB;rw[eN,hn]
 obtain⟨RES,hRES⟩:∃ x,x=sortedB ts q pl:=⟨_,rfl⟩
 rw[<- hRES] at HSB ⊢;have HG:Hid (GB W b 114 _):=hT.g;have HLO:Hid (w0.heap.size<=b):=hT.lo;have HW:Hid _:=hW;have H9:Hid _:=h9;have HORD:Hid _:=hord;have HD1:Hid (pl.length<=64):=D.len;have hol:=D.query.ord.1;have hsl:=D.query.sel.1;have hkl:=D.query.keys.1;have HWT:Hid _:=fun k hk=>@want_next q k hk
 have HWL:Hid ((wantN q).length=q.ord.xs.length):=by show _=_; unfold wantN; rw[List.length_map]
 clear hT hW h9 hord D hRES hn eN;generalize hWN:wantN q=WN at *;clear hWN;obtain⟨⟨sa,sc,src⟩,wad,wcap,wh,group,⟨ka,kc,keys⟩,⟨ua,uc,sums⟩,⟨ea,ec,sel⟩,⟨da,dc,ord⟩⟩:=q;obtain⟨nk,nl,nr,ns,⟨ca,cc,cl⟩,key,⟨ga,gc,co⟩⟩:=n;simp only[IntsV.val] at *;have t0:W.cell? (aD b 0)=some (.slice ao ts.length cap):=GB.cell HG.out 0;have t1:W.cell? (aD b 1)=some (.slice sa src.length sc):=GB.cell HG.out 1;have t2:W.cell? (aD b 2)=some (.slice wad wh.length wcap):=GB.cell HG.out 2;have t3:W.cell? (aD b 3)=some (.bool group):=GB.cell HG.out 3;have t4:W.cell? (aD b 4)=some (.slice ka keys.length kc):=GB.cell HG.out 4;have t5:W.cell? (aD b 5)=some (.slice ua sums.length uc):=GB.cell HG.out 5;have t6:W.cell? (aD b 6)=some (.slice ea sel.length ec):=GB.cell HG.out 6;have t7:W.cell? (aD b 7)=some (.slice da ord.length dc):=GB.cell HG.out 7;have t8:W.cell? (aD b 8)=some (.slice (some (aD nb no)) pl.length pcap):=GB.cell HG.out 8;have t9:W.cell? (aD b 9)=some (sv):=GB.cell HG.out 9;obtain⟨w1,hw1⟩:∃ x,W.alloc (.cells #[.slice sa src.length sc,.slice wad wh.length wcap,.bool group,.slice ka keys.length kc,.slice ua sums.length uc,.slice ea sel.length ec,.slice da ord.length dc] 26)=x:=⟨_,rfl⟩
 have k1:Below W.heap.size W w1:=by rw[<- hw1]; exact bQ2 _ _
 have g1:GB w1 W.heap.size 26 #[.slice sa src.length sc,.slice wad wh.length wcap,.bool group,.slice ka keys.length kc,.slice ua sums.length uc,.slice ea sel.length ec,.slice da ord.length dc]:=by rw[<- hw1]; exact bQ3 _ _
 have HK1:Hid _:=k1;have HG1:Hid (GB w1 W.heap.size 26 #[.slice sa src.length sc,.slice wad wh.length wcap,.bool group,.slice ka keys.length kc,.slice ua sums.length uc,.slice ea sel.length ec,.slice da ord.length dc]):=g1;have r0:=cB k1 m0;have r1:=cB k1 m1;have r2:=cB k1 m2;have r3:=cB k1 m3;have r4:=cB k1 m4;have r5:=cB k1 m5;have r6:=cB k1 m6;have u0:=cB k1 t0;have u1:=cB k1 t1;have u2:=cB k1 t2;have u3:=cB k1 t3;have u4:=cB k1 t4;have u5:=cB k1 t5;have u6:=cB k1 t6;have u7:=cB k1 t7;have u8:=cB k1 t8;have u9:=cB k1 t9;go_enter Tryz.func44,Tryz.ntmps44;go_upto_region 2 with fail;clear hw1 k1 g1;go_cut [4] from 15 to 26 (fun c wx=>c=.pointer (some (aD w1.heap.size 0))/\GB wx w1.heap.size 58 #[.int .i64 nk,.int .i64 nl,.int .i64 nr,.int .i64 ns,.slice ca cl.length cc,.int .i64 key,.slice ga co.length gc]/\Below w1.heap.size w1 wx)
 case first=>
  refine wp_region_held_drew (S:=fun x=>Below w1.heap.size w1 x) (by kernel_rfl) ((Below.refl _ _).drew) (fun hS=>?_);refine wpAnyH_take (i:=0) (v:=.pointer (some (aD b 0))) rfl (by kernel_rfl) (by kernel_rfl) (by kernel_rfl) (fun _ _ _ h=>h) (.inl ⟨by rfl,fun x hx=>?_⟩) hS ?_
  ·go_simp
  refine wpAnyH_take (i:=1) (v:=.pointer (some (aD b 0))) rfl (by kernel_rfl) (by kernel_rfl) (by kernel_rfl) (fun _ _ _ h=>h) (.inl ⟨by rfl,fun x hx=>?_⟩) hS ?_
  ·go_simp
  refine wpAnyH_take (i:=2) (v:=.pointer (some (aD b 8))) rfl (by kernel_rfl) (by kernel_rfl) (by kernel_rfl) (fun _ _ _ h=>h) (.inl ⟨by rfl,fun x hx=>?_⟩) hS ?_
  ·go_simp
  refine wpAnyH_take (i:=3) (v:=.slice (some (aD nb no)) pl.length pcap) rfl (by kernel_rfl) (by kernel_rfl) (by kernel_rfl) (fun _ _ _ h=>h) (.inl ⟨by rfl,fun x hx=>?_⟩) hS ?_
  ·have e8:=cB hx u8;go_simp
  refine wpAnyH_take (i:=4) (v:=.pointer (some (aD b 0))) rfl (by kernel_rfl) (by kernel_rfl) (by kernel_rfl) (fun _ _ _ h=>h) (.inl ⟨by rfl,fun x hx=>?_⟩) hS ?_
  ·go_simp
  refine wpAnyH_take (i:=5) (v:=.pointer (some (aD b 0))) rfl (by kernel_rfl) (by kernel_rfl) (by kernel_rfl) (fun _ _ _ h=>h) (.inl ⟨by rfl,fun x hx=>?_⟩) hS ?_
  ·go_simp
  refine wpAnyH_take (i:=6) (v:=.pointer (some (aD b 8))) rfl (by kernel_rfl) (by kernel_rfl) (by kernel_rfl) (fun _ _ _ h=>h) (.inl ⟨by rfl,fun x hx=>?_⟩) hS ?_
  ·go_simp
  refine wpAnyH_take (i:=7) (v:=.slice (some (aD nb no)) pl.length pcap) rfl (by kernel_rfl) (by kernel_rfl) (by kernel_rfl) (fun _ _ _ h=>h) (.inl ⟨by rfl,fun x hx=>?_⟩) hS ?_
  ·have e8:=cB hx u8;go_simp
  refine wpAnyH_take (i:=8) (v:=.int .i64 ((N1:Int)+1)) rfl (by kernel_rfl) (by kernel_rfl) (by kernel_rfl) (fun _ _ _ h=>h) (.inl ⟨by rfl,fun x hx=>?_⟩) hS ?_
  ·go_simp
  refine wpAnyH_take (i:=9) (v:=.int .i64 (N1:Int)) rfl (by kernel_rfl) (by kernel_rfl) (by kernel_rfl) (fun _ _ _ h=>h) (.inl ⟨by rfl,fun x hx=>?_⟩) hS ?_
  ·have e9:=HWR.out;go_simp
  refine wpAnyH_take (i:=10) (v:=.pointer (some (aD nb (no+N1*7)))) rfl (by kernel_rfl) (by kernel_rfl) (by kernel_rfl) (fun _ _ _ h=>h) (.inl ⟨by rfl,fun x hx=>?_⟩) hS ?_
  ·have e9:¬ ((N1:Int)+1<=(N1:Int)):=by omega
   go_simp
  refine wpAnyH_take (i:=11) (v:=.agg #[.int .i64 nk,.int .i64 nl,.int .i64 nr,.int .i64 ns,.slice ca cl.length cc,.int .i64 key,.slice ga co.length gc]) rfl (by kernel_rfl) (by kernel_rfl) (by kernel_rfl) (fun _ _ _ h=>h) (.inl ⟨by rfl,fun x hx=>?_⟩) hS ?_
  ·have e0:=cB hx r0;have e1:=cB hx r1;have e2:=cB hx r2;have e3:=cB hx r3;have e4:=cB hx r4;have e5:=cB hx r5;have e6:=cB hx r6;go_simp
  refine wpAnyH_ready (rs:=[12]) (by kernel_rfl) (by simp) ?_;refine AllReadyH.cons rfl (fun K hK=>?_) AllReadyH.nil;go_simp;refine hK.out _ _ (hS.trans (bQ2 _ _ |>.mono hS.size)) (fun hS=>?_);clear hK K;refine wpAnyH_ready (rs:=[13]) (by kernel_rfl) (by simp) ?_;refine AllReadyH.cons rfl (fun K hK=>?_) AllReadyH.nil;go_simp;refine hK.out _ _ ((bQ2 _ _).drew) (fun hS=>?_);clear hK K;refine wpAnyH_done (by kernel_rfl) ?_ _
  try simp only[pA,sB,sC]
  go_wp2_with fail;go_meet;exact⟨rfl,bQ3 w1 _,hS⟩
 case rest=>
 obtain⟨rfl,hgn,hb2⟩:=hcut;obtain⟨w2,hw2⟩:∃ x,x=wc:=⟨_,rfl⟩
 subst hw2;have HGN:Hid (GB w2 w1.heap.size 58 #[.int .i64 nk,.int .i64 nl,.int .i64 nr,.int .i64 ns,.slice ca cl.length cc,.int .i64 key,.slice ga co.length gc]):=hgn;have HB2:Hid (Below w1.heap.size w1 w2):=hb2;have HBW2:Hid (Below W.heap.size W w2):=bQ1 HK1.out hb2;have HGQ:Hid (GB w2 W.heap.size 26 #[.slice sa src.length sc,.slice wad wh.length wcap,.bool group,.slice ka keys.length kc,.slice ua sums.length uc,.slice ea sel.length ec,.slice da ord.length dc]):=HG1.out.of (hb2.block _ HG1.out.lt);have x6:w2.cell? (aD W.heap.size 6)=some (.slice da ord.length dc):=GB.cell HGQ.out 6;have y0:w2.cell? (aD w1.heap.size 0)=some (.int .i64 nk):=GB.cell HGN.out 0;clear hgn hb2 t0 t1 t2 t3 t4 t5 t6 t7 t8 t9 m0 m1 m2 m3 m4 m5 m6 r0 r1 r2 r3 r4 r5 r6;by_cases z:ord.length=0
 ·have HV:Hid (RES=true):=by show _=_; rw[HSB.out,if_pos (.inl z)]
  clear HSB H9 HVA;go_wp2;go_ret;exact⟨ret_bool HV.out.symm,HBW2.out⟩
 have zb:((ord.length:Int)==0)=false:=by rw[beq_eq_false_iff_ne]; omega
 have HZ:Hid _:=z;clear z;by_cases k10:nk=10
 ·have HV:Hid (RES=true):=by show _=_; rw[HSB.out,if_pos (.inr k10)]
  subst k10;clear HSB H9 HVA;go_wp2;go_ret;exact⟨ret_bool HV.out.symm,HBW2.out⟩
 have hk10:(nk==10)=false:=by rw[beq_eq_false_iff_ne]; exact k10
 by_cases k9:nk=9
 ·have HV:Hid (RES=startsB ((viewN ts ⟨⟨sa,sc,src⟩,wad,wcap,wh,group,⟨ka,kc,keys⟩,⟨ua,uc,sums⟩,⟨ea,ec,sel⟩,⟨da,dc,ord⟩⟩ pl nl.toNat).getD vz).order WN):=by show _=_; rw[HSB.out,if_neg (fun h=>h.elim HZ.out k10),if_pos k9]
  obtain⟨hal,hl0,hl1,u,s',hre,hvu⟩:=H9.out k9;rw[hvu] at HV;subst k9;clear HSB H9;obtain⟨j,hj⟩:=Int.eq_ofNat_of_zero_le hl0;subst hj;have hjl:j<pl.length:=by omega
  rw[Int.toNat_natCast] at hre;have q0:=cB HB2.out u0;have q8:=cB HB2.out u8;have p0:w2.cell? (aD W.heap.size 0)=some (.slice sa src.length sc):=GB.cell HGQ.out 0;have p1:w2.cell? (aD W.heap.size 1)=some (.slice wad wh.length wcap):=GB.cell HGQ.out 1;have p2:w2.cell? (aD W.heap.size 2)=some (.bool group):=GB.cell HGQ.out 2;have p3:w2.cell? (aD W.heap.size 3)=some (.slice ka keys.length kc):=GB.cell HGQ.out 3;have p4:w2.cell? (aD W.heap.size 4)=some (.slice ua sums.length uc):=GB.cell HGQ.out 4;have p5:w2.cell? (aD W.heap.size 5)=some (.slice ea sel.length ec):=GB.cell HGQ.out 5;have p6:w2.cell? (aD W.heap.size 6)=some (.slice da ord.length dc):=GB.cell HGQ.out 6;have y1:w2.cell? (aD w1.heap.size 1)=some (.int .i64 (j:Int)):=GB.cell HGN.out 1;have HAL:Hid _:=hal;have HRE:Hid _:=hre;clear hal hre hvu hl0 hl1 u0 u1 u2 u3 u4 u5 u6 u7 u8 u9;go_upto_region 6 with fail;go_cut [5] from 39 to 49 (fun c wx=>c=.pointer (some (aD w2.heap.size 0))/\GB wx w2.heap.size 114 #[.slice ao ts.length cap,.slice sa src.length sc,.slice wad wh.length wcap,.bool group,.slice ka keys.length kc,.slice ua sums.length uc,.slice ea sel.length ec,.slice da ord.length dc,.slice (some (aD nb no)) (N1+1) pcap,.slice none 0 0]/\Below w2.heap.size w2 wx)
  case first=>
   refine wp_region_held_drew (S:=fun x=>Below w2.heap.size w2 x) (by kernel_rfl) ((Below.refl _ _).drew) (fun hS=>?_);refine wpAnyH_take (i:=0) (v:=.pointer (some (aD b 0))) rfl (by kernel_rfl) (by kernel_rfl) (by kernel_rfl) (fun _ _ _ h=>h) (.inl ⟨by rfl,fun x hx=>?_⟩) hS ?_
   ·go_simp
   refine wpAnyH_take (i:=1) (v:=.pointer (some (aD b 0))) rfl (by kernel_rfl) (by kernel_rfl) (by kernel_rfl) (fun _ _ _ h=>h) (.inl ⟨by rfl,fun x hx=>?_⟩) hS ?_
   ·go_simp
   refine wpAnyH_take (i:=2) (v:=.pointer (some (aD b 0))) rfl (by kernel_rfl) (by kernel_rfl) (by kernel_rfl) (fun _ _ _ h=>h) (.inl ⟨by rfl,fun x hx=>?_⟩) hS ?_
   ·go_simp
   refine wpAnyH_take (i:=3) (v:=.slice ao ts.length cap) rfl (by kernel_rfl) (by kernel_rfl) (by kernel_rfl) (fun _ _ _ h=>h) (.inl ⟨by rfl,fun x hx=>?_⟩) hS ?_
   ·have e0:=cB hx q0;go_simp
   refine wpAnyH_take (i:=4) (v:=.agg #[.slice sa src.length sc,.slice wad wh.length wcap,.bool group,.slice ka keys.length kc,.slice ua sums.length uc,.slice ea sel.length ec,.slice da ord.length dc]) rfl (by kernel_rfl) (by kernel_rfl) (by kernel_rfl) (fun _ _ _ h=>h) (.inl ⟨by rfl,fun x hx=>?_⟩) hS ?_
   ·have e0:=cB hx p0;have e1:=cB hx p1;have e2:=cB hx p2;have e3:=cB hx p3;have e4:=cB hx p4;have e5:=cB hx p5;have e6:=cB hx p6;go_simp
   refine wpAnyH_take (i:=5) (v:=.pointer (some (aD b 0))) rfl (by kernel_rfl) (by kernel_rfl) (by kernel_rfl) (fun _ _ _ h=>h) (.inl ⟨by rfl,fun x hx=>?_⟩) hS ?_
   ·go_simp
   refine wpAnyH_take (i:=6) (v:=.pointer (some (aD b 0))) rfl (by kernel_rfl) (by kernel_rfl) (by kernel_rfl) (fun _ _ _ h=>h) (.inl ⟨by rfl,fun x hx=>?_⟩) hS ?_
   ·go_simp
   refine wpAnyH_take (i:=7) (v:=.pointer (some (aD b 8))) rfl (by kernel_rfl) (by kernel_rfl) (by kernel_rfl) (fun _ _ _ h=>h) (.inl ⟨by rfl,fun x hx=>?_⟩) hS ?_
   ·go_simp
   refine wpAnyH_take (i:=8) (v:=.slice (some (aD nb no)) pl.length pcap) rfl (by kernel_rfl) (by kernel_rfl) (by kernel_rfl) (fun _ _ _ h=>h) (.inl ⟨by rfl,fun x hx=>?_⟩) hS ?_
   ·have e0:=cB hx q8;go_simp
   refine wpAnyH_take (i:=9) (v:=.agg #[.slice ao ts.length cap,.slice sa src.length sc,.slice wad wh.length wcap,.bool group,.slice ka keys.length kc,.slice ua sums.length uc,.slice ea sel.length ec,.slice da ord.length dc,.slice (some (aD nb no)) pl.length pcap,.slice none 0 0]) rfl (by kernel_rfl) (by kernel_rfl) (by kernel_rfl) (fun _ _ _ h=>h) (.inl ⟨by rfl,fun x hx=>?_⟩) hS ?_
   ·go_simp
   refine wpAnyH_ready (rs:=[10]) (by kernel_rfl) (by simp) ?_;refine AllReadyH.cons rfl (fun K hK=>?_) AllReadyH.nil;go_simp;refine hK.out _ _ (hS.trans (bQ2 _ _ |>.mono hS.size)) (fun hS=>?_);clear hK K;refine wpAnyH_ready (rs:=[11]) (by kernel_rfl) (by simp) ?_;refine AllReadyH.cons rfl (fun K hK=>?_) AllReadyH.nil;go_simp;refine hK.out _ _ hS (fun hS=>?_);clear hK K;refine wpAnyH_done (by kernel_rfl) ?_ _
   try simp only[pA,sB,sC]
   go_wp2_with fail;go_meet;exact⟨rfl,bQ3 w2 _,hS⟩
  case rest=>
  obtain⟨rfl,hgt,hb3⟩:=hcut;rw[<- hN1] at hgt;obtain⟨w3,hw3⟩:∃ x,x=wc:=⟨_,rfl⟩
  subst hw3;have hw03:Below w0.heap.size w0 w3:=HW.out.trans (((HBW2.out.trans (hb3.mono HBW2.out.size))).mono HW.out.size);have hT3:TreeSt w3 w2.heap.size w0.heap.size 114 3 ao (some (aD nb no)) cap pcap ts ⟨⟨sa,sc,src⟩,wad,wcap,wh,group,⟨ka,kc,keys⟩,⟨ua,uc,sums⟩,⟨ea,ec,sel⟩,⟨da,dc,ord⟩⟩ pl [] (.slice none 0 0):=⟨hgt,World.ownsRow_nil _ _ _ _,Nat.le_trans HW.out.size HBW2.out.size⟩
  have hVC:=HVA.out w2.heap.size pl.length j w3 [] (.slice none 0 0) hjl hjl hT3 hw03 List.nodup_nil (fun x hx=>by cases hx) (fun hx=>by cases hx);rw[HRE.out] at hVC;have HB3:Hid (Below w2.heap.size w2 w3):=hb3;have y1':=cB hb3 y1;have HP3:Hid (Below W.heap.size W w3):=bQ1 HBW2.out hb3;clear hgt hb3 hT3 hw03 y1 q0 q8 HVA y0 x6 p0 p1 p2 p3 p4 p5 p6;go_wp2_with fail;refine Calls.mono hVC ?_;rintro e w4 ⟨hkp,v,rfl,hvd,sv',-,-,-,-,⟨hso,-⟩⟩;clear hVC;have hb24:Below w2.heap.size w2 w4:=HB3.out.trans (hkp.below HB3.out.size (fun x hx=>⟨Nat.ne_of_lt hx,fun e=>by cases e⟩));have HB4:Hid (Below W.heap.size W w4):=bQ1 HBW2.out hb24;have HOI:Hid (IntsAt w4 v.o.ad v.o.xs):=hso.ints;have HOX:Hid (v.o.xs=u.order):=by show _=_; rw[<- hvd]; rfl
  have HGQ4:Hid (GB w4 W.heap.size 26 #[.slice sa src.length sc,.slice wad wh.length wcap,.bool group,.slice ka keys.length kc,.slice ua sums.length uc,.slice ea sel.length ec,.slice da ord.length dc]):=HGQ.out.of (hb24.block _ HGQ.out.lt);clear hkp hvd hso hb24;obtain⟨⟨a1,c1,s1⟩,⟨a2,c2,s2⟩,⟨oa,ocp,ox⟩,vout,vsz,vct⟩:=v;simp only[ViewV.cells,IntsV.val] at *;obtain⟨w5,hw5⟩:∃ x,w4.alloc (.cells #[.slice a1 s1.length c1,.slice a2 s2.length c2,.slice oa ox.length ocp,.bool vout,.int .u64 (vsz:Int),.int .u64 (vct:Int)] 40)=x:=⟨_,rfl⟩
  have k5:Below w4.heap.size w4 w5:=by rw[<- hw5]; exact bQ2 _ _
  have g5:GB w5 w4.heap.size 40 #[.slice a1 s1.length c1,.slice a2 s2.length c2,.slice oa ox.length ocp,.bool vout,.int .u64 (vsz:Int),.int .u64 (vct:Int)]:=by rw[<- hw5]; exact bQ3 _ _
  have gq5:GB w5 W.heap.size 26 #[.slice sa src.length sc,.slice wad wh.length wcap,.bool group,.slice ka keys.length kc,.slice ua sums.length uc,.slice ea sel.length ec,.slice da ord.length dc]:=HGQ4.out.of (k5.block _ HGQ4.out.lt);have z6:w5.cell? (aD W.heap.size 6)=some (.slice da ord.length dc):=gq5.cell 6;have z5:w5.cell? (aD W.heap.size 5)=some (.slice ea sel.length ec):=gq5.cell 5;have o2:w5.cell? (aD w4.heap.size 2)=some (.slice oa ox.length ocp):=g5.cell 2;have HB5:Hid (Below W.heap.size W w5):=bQ1 HB4.out k5;have HOI5:Hid (IntsAt w5 oa ox):=IntsAt.below k5 HOI.out;clear k5 g5 gq5 y1' HOI;go_wp2;clear hw5;go_loopw [8,9] (fun wv iv wr=>∃ k:Nat,k<=ord.length/\iv=.int .i64 (k:Int)/\Hid (wr.ownsRow w5.heap.size 3 1 wv (WN.take k).length ((WN.take k).map (Value.int .i64)))/\Hid (Below w5.heap.size w5 wr)) (fun _ iv _=>ord.length-(intOf iv).toNat)
  case atStart=>exact⟨0,Nat.zero_le _,rfl,World.ownsRow_nil _ _ _ _,Below.refl _ _⟩
  case round=>
   obtain⟨k,hk,rfl,HOW,HBR⟩:=hrel;have z6r:=cB HBR.out z6;by_cases hlt:k<ord.length
   ·obtain⟨ob,oo,hda,hoc⟩:=IntsAt.get (IntsAt.below HB5.out HDQ.out.ord) hlt;have hck:=hoc k hlt;simp only at hda hck;subst hda;obtain⟨hp0,hp1⟩:=allB_get HAL.out hlt;have HTK:Hid _:=HWT.out k hlt;obtain⟨p,hp⟩:=Int.eq_ofNat_of_zero_le hp0;rw[hp] at hck hp1 HTK;rw[Int.toNat_natCast] at HTK;have hpl':p<sel.length:=by omega
    obtain⟨lb,lo,hea,hsc⟩:=IntsAt.get (IntsAt.below HB5.out HDQ.out.sel) hpl';have hsx:=hsc p hpl';simp only at hea hsx;subst hea;generalize sel.getD p 0=sx at *;obtain⟨va,vm,vc,rfl⟩:=ownsRow_slice HOW.out;obtain⟨v',w6,hr6,ho6,hk6,⟨xa,xm,xc,rfl⟩,-⟩:=push_int wr.drew w5.heap.size (.slice va vm vc) (WN.take k) (own_below HOW.out ((Below.refl _ _).drew)) (by rw[List.length_take]; have:=HORD.out; omega) HBR.out.size sx 23;rw[<- HTK.out] at ho6;have HO6:Hid _:=ho6;have HB6:Hid (Below w5.heap.size w5 w6):=HBR.out.drew.trans (hk6.below HBR.out.size (fun b hb e=>by have:=(ownsRow_lt HOW.out e).1; omega));clear ho6 hk6 hoc hsc hp HTK hp0;go_upto_region 12 with fail;refine wp_region_held_drew (S:=fun x=>Below w5.heap.size w5 x) (by kernel_rfl) (HBR.out.drew) (fun hS=>?_);refine wpAnyH_take (i:=0) (v:=.slice va vm vc) rfl (by kernel_rfl) (by kernel_rfl) (by kernel_rfl) (fun _ _ _ h=>h) (.inl ⟨by rfl,fun x hx=>?_⟩) hS ?_
    ·go_simp
    refine wpAnyH_take (i:=1) (v:=.pointer (some (aD W.heap.size 5))) rfl (by kernel_rfl) (by kernel_rfl) (by kernel_rfl) (fun _ _ _ h=>h) (.inl ⟨by rfl,fun x hx=>?_⟩) hS ?_
    ·go_simp
    refine wpAnyH_take (i:=2) (v:=.slice (some (aD lb lo)) sel.length ec) rfl (by kernel_rfl) (by kernel_rfl) (by kernel_rfl) (fun _ _ _ h=>h) (.inl ⟨by rfl,fun x hx=>?_⟩) hS ?_
    ·have e0:=cB hx z5;go_simp
    refine wpAnyH_take (i:=3) (v:=.pointer (some (aD W.heap.size 6))) rfl (by kernel_rfl) (by kernel_rfl) (by kernel_rfl) (fun _ _ _ h=>h) (.inl ⟨by rfl,fun x hx=>?_⟩) hS ?_
    ·go_simp
    refine wpAnyH_take (i:=4) (v:=.slice (some (aD ob oo)) ord.length dc) rfl (by kernel_rfl) (by kernel_rfl) (by kernel_rfl) (fun _ _ _ h=>h) (.inl ⟨by rfl,fun x hx=>?_⟩) hS ?_
    ·have e0:=cB hx z6;go_simp
    refine wpAnyH_take (i:=5) (v:=.int .i64 (k:Int)) rfl (by kernel_rfl) (by kernel_rfl) (by kernel_rfl) (fun _ _ _ h=>h) (.inl ⟨by rfl,fun x hx=>?_⟩) hS ?_
    ·go_simp
    refine wpAnyH_take (i:=6) (v:=.pointer (some (aD ob (oo+k)))) rfl (by kernel_rfl) (by kernel_rfl) (by kernel_rfl) (fun _ _ _ h=>h) (.inl ⟨by rfl,fun x hx=>?_⟩) hS ?_
    ·go_simp
    refine wpAnyH_take (i:=7) (v:=.int .i64 (p:Int)) rfl (by kernel_rfl) (by kernel_rfl) (by kernel_rfl) (fun _ _ _ h=>h) (.inl ⟨by rfl,fun x hx=>?_⟩) hS ?_
    ·have e0:=cB hx hck;go_simp
    refine wpAnyH_take (i:=8) (v:=.pointer (some (aD lb (lo+p)))) rfl (by kernel_rfl) (by kernel_rfl) (by kernel_rfl) (fun _ _ _ h=>h) (.inl ⟨by rfl,fun x hx=>?_⟩) hS ?_
    ·go_simp
    refine wpAnyH_take (i:=9) (v:=.int .i64 sx) rfl (by kernel_rfl) (by kernel_rfl) (by kernel_rfl) (fun _ _ _ h=>h) (.inl ⟨by rfl,fun x hx=>?_⟩) hS ?_
    ·have e0:=cB hx hsx;go_simp
    refine wpAnyH_ready (rs:=[10]) (by kernel_rfl) (by simp) ?_;refine AllReadyH.cons rfl (fun K hK=>?_) AllReadyH.nil;go_simp;refine hK.out _ _ (hS.trans (bQ2 _ _ |>.mono hS.size)) (fun hS=>?_);clear hK K;refine wpAnyH_ready (rs:=[11]) (by kernel_rfl) (by simp) ?_;refine AllReadyH.cons rfl (fun K hK=>?_) AllReadyH.nil;refine step_append (by rfl) _ _ _ (by rfl) (.slice va vm vc) (.slice (some (aD wr.heap.size 0)) 1 1) (.slice xa xm xc) w6 (by rfl) (by rfl) hr6 ?_;refine hK.out _ _ HB6.out (fun hS=>?_);clear hK K hr6;refine wpAnyH_ready (rs:=[12]) (by kernel_rfl) (by simp) ?_;refine AllReadyH.cons rfl (fun K hK=>?_) AllReadyH.nil;go_simp;refine hK.out _ _ hS (fun hS=>?_);clear hK K;refine wpAnyH_done (by kernel_rfl) ?_ _
    try simp only[pA,sB,sC]
    clear hck hsx z6r;go_wp2;go_roundw
    case rel=>exact⟨k+1,by omega,by go_num,HO6.out,HB6.out⟩
    case measure=>simp[intOf]; omega
   ·obtain rfl:k=ord.length:=by omega
    rw[List.take_of_length_le (by rw[HWL.out]; exact Nat.le_refl _)] at HOW;obtain⟨wa,wcp,rfl,hWI⟩:=ints_own HOW.out (by rw[HWL.out]; omega);have o2r:=cB HBR.out o2;have hSW:=starts_any oa wa ocp wcp ox WN wr (IntsAt.below HBR.out HOI5.out) hWI;have HE:Hid (RES=startsB ox WN):=by
     show _=_
     rw[HV.out,show ox=u.order from HOX.out];rfl
    have HBZ:Hid (Below W.heap.size W wr):=bQ1 HB5.out HBR.out;have hwn:WN.length<=4:=by rw[HWL.out]; exact HORD.out
    have HWLL:Hid _:=HWL;generalize startsB ox WN=SB at *;clear hWI HOW hlt;go_wp2_with fail;refine hSW.mono ?_;rintro e w7 ⟨rfl,hb7⟩;have HB7:Hid _:=bQ1 HBZ.out hb7;clear hb7 hSW;go_wp2;go_ret;exact⟨ret_bool HE.out.symm,HB7.out⟩
 ·have HV:Hid (RES=(countsB ord&&(decide (nk=8)&&decide (ord.length<=keys.length)))):=by show _=_; rw[HSB.out,if_neg (fun h=>h.elim HZ.out k10),if_neg k9]
  have hk9:(nk==9)=false:=by rw[beq_eq_false_iff_ne]; exact k9
  clear HSB H9 HVA k9 k10;have y8:Hid _:=HBW2;go_wp2;go_loopw [10] (fun iv wr=>∃ k:Nat,k<=ord.length/\iv=.int .i64 (k:Int)/\Hid (∀ j,j<k->ord.getD j 0=(j:Int))/\wr=w2) (fun iv _=>ord.length-(intOf iv).toNat)
  case atStart=>exact⟨0,Nat.zero_le _,rfl,fun j hj=>by omega,rfl⟩
  case round=>
   obtain⟨k,hk,rfl,HJ,hwr⟩:=hrel;have hwr:=hwr.symm;subst hwr;by_cases hlt:k<ord.length
   ·obtain⟨ob,oo,hda,hoc⟩:=IntsAt.get (IntsAt.below HBW2.out HDQ.out.ord) hlt;have hck:=hoc k hlt;simp only at hda hck;subst hda;by_cases he:ord.getD k 0=(k:Int)
    ·rw[he] at hck;clear hoc;go_wp2;go_roundw
     case rel=>exact⟨k+1,by omega,by go_num,fun j hj=>by
      by_cases e:j=k
      ·rw[e]; exact he
      ·exact HJ.out j (by omega),by trivial⟩
     case measure=>simp[intOf]; omega
    ·have HE:Hid (RES=false):=by show _=_; rw[HV.out,counts_bad hlt he]; rfl
     have heb:(ord.getD k 0 != (k:Int))=true:=by rw[bne_iff_ne]; exact he
     generalize ord.getD k 0=ok at *;clear hoc he HJ;go_wp2;go_ret;exact⟨ret_bool HE.out.symm,HBW2.out⟩
   ·obtain rfl:k=ord.length:=by omega
    have HE:Hid (RES=(decide (nk=8)&&decide (ord.length<=keys.length))):=by show _=_; rw[HV.out,counts_good HJ.out]; rfl
    have x3:w2.cell? (aD W.heap.size 3)=some (.slice ka keys.length kc):=GB.cell HGQ.out 3;clear HV HJ hlt;by_cases k8:nk=8
    ·subst k8;by_cases hle:ord.length<=keys.length
     ·have HE2:Hid (RES=true):=by show _=_; rw[HE.out,decide_eq_true hle]; rfl
      have hle':(ord.length:Int)<=(keys.length:Int):=by omega
      clear HE;go_wp2;go_ret;exact⟨ret_bool HE2.out.symm,HBW2.out⟩
     ·have HE2:Hid (RES=false):=by show _=_; rw[HE.out,decide_eq_false hle]; rfl
      have hle':¬ (ord.length:Int)<=(keys.length:Int):=by omega
      clear HE;go_wp2;go_ret;exact⟨ret_bool HE2.out.symm,HBW2.out⟩
    ·have HE2:Hid (RES=false):=by show _=_; rw[HE.out,decide_eq_false k8]; rfl
     have hk8:(nk==8)=false:=by rw[beq_eq_false_iff_ne]; exact k8
     clear HE k8;go_wp2;go_ret;exact⟨ret_bool HE2.out.symm,HBW2.out⟩
theorem ref_nocat (ao:Option Addr) (cap:Nat) (ts:List TableD) (q:QueryV) (w:World) (hx:TablesAt w ao ts) (hc:catB ts=false) :
  Calls Tryz.prog 42 #[.slice ao ts.length cap,.agg q.cells] w fun e w'=>e=.returned (.int .i64 (q.check ts))/\Below w.heap.size w w':=by
 have HF:Hid ((1:Int)=q.check ts):=QueryV.check_cat hc;have hx1:=fun o=>hx.below (bQ2 w o)
 generalize q.check ts=R at *;generalize hq:q.cells=C at *;have hC:C.size=7:=by rw[<- hq]; rfl
 unfold QueryV.cells IntsV.val at hq;subst hq;go_enter Tryz.func42,Tryz.ntmps42;go_wp2_with (go_at_call 87; refine (isCatalog_any _ _ _ _ (hx1 _)).mono ?_; rw[hc]; rintro e w' ⟨rfl,hb⟩);go_ret;exact⟨ret_int HF.out,bQ1 (bQ2 _ _) (by assumption)⟩
theorem ref_full1 (ao:Option Addr) (cap:Nat) (ts:List TableD) (q:QueryV) (w:World) (hx:TablesAt w ao ts) (hq:q.At w) (hc:catB ts=true)
  (hf:5<q.src.xs.length∨8<q.wh.length∨8<q.sel.xs.length∨4<q.keys.xs.length∨4<q.sums.xs.length∨4<q.ord.xs.length) :
  Calls Tryz.prog 42 #[.slice ao ts.length cap,.agg q.cells] w fun e w'=>e=.returned (.int .i64 (q.check ts))/\Below w.heap.size w w':=by
 have HF:Hid ((2:Int)=q.check ts):=QueryV.check_full hc (fullB_of (by simpa [QueryV.whs] using hf));have hx1:=fun o=>hx.below (bQ2 w o)
 have hwl:=hq.wh.1;generalize q.check ts=R at *;clear hq;obtain⟨src,wad,wcap,wh,group,keys,sums,sel,ord⟩:=q;simp only at hf hwl;unfold QueryV.cells IntsV.val;simp only;have hcase:(5<src.xs.length)∨(¬ 5<src.xs.length/\8<wh.length)∨(¬ 5<src.xs.length/\¬ 8<wh.length/\8<sel.xs.length)∨(¬ 5<src.xs.length/\¬ 8<wh.length/\¬ 8<sel.xs.length/\4<keys.xs.length)∨
   (¬ 5<src.xs.length/\¬ 8<wh.length/\¬ 8<sel.xs.length/\¬ 4<keys.xs.length/\4<sums.xs.length)∨(¬ 5<src.xs.length/\¬ 8<wh.length/\¬ 8<sel.xs.length/\¬ 4<keys.xs.length/\¬ 4<sums.xs.length/\4<ord.xs.length):=by omega
 clear hf;rcases hcase with h1 | ⟨h1,h2⟩ | ⟨h1,h2,h3⟩ | ⟨h1,h2,h3,h4⟩ | ⟨h1,h2,h3,h4,h5⟩ | ⟨h1,h2,h3,h4,h5,h6⟩
 all_goals
  go_enter Tryz.func42,Tryz.ntmps42;go_wp2_with (go_at_call 87; refine (isCatalog_any _ _ _ _ (hx1 _)).mono ?_; rw[hc]; rintro e w' ⟨rfl,hb⟩; have hcell:=bcell hb; simp at hcell);go_loop [6,7] (fun f i=>∃ k:Nat,k<=wh.length/\i=.int .i64 k/\f=.bool true) (fun _ i=>wh.length-(intOf i).toNat)
  case atStart=>exact⟨0,Nat.zero_le _,rfl,by first | rfl | exact val_boolI (by simp; omega)⟩
  case round=>
   obtain⟨k,hk,rfl,rfl⟩:=hrel;by_cases hlt:k<wh.length
   ·go_wp2;go_round
    case rel=>exact⟨k+1,by omega,by go_num,rfl⟩
    case measure=>simp[intOf]; omega
   ·go_wp2;go_ret;exact⟨ret_int HF.out,bQ1 (bQ2 _ _) hb⟩
end Go.Proofs.YtlpbelhfpoilpaaGreatDoor
