import Derived.Test.YtlpbelhfpoilpabGreatDoorC01
import Derived.Test.YtlpbelhfpoilpabGreatDoorC09
import Derived.Test.YtlpbelhfpoilpabGreatDoorC30
set_option linter.all false
set_option maxRecDepth 100000
set_option maxHeartbeats 16000000
namespace Go.Proofs.YtlpbelhfpoilpabGreatDoor
open Go.RowKit Go.Scout Go.Shelf
attribute [local go_sem] Oper.semAt_some
def agN (pre:List Nat):List TaskD:=pre.foldl (fun a (i:Nat)=>addA rkN a (2 ^ i,0)) []
theorem agN_snoc (pre:List Nat) (x:Nat):agN (pre++[x])=[(2 ^ x,0)].foldl (addA rkN) (agN pre):=by
 unfold agN;rw[List.foldl_append];rfl
theorem agN_ok (pre:List Nat) (h:∀ y∈pre,y<5):(∀ a∈agN pre,a.1<32/\a.2<32)/\(agN pre).length<=pre.length:=by
 have e:agN pre=(pre.map fun i=>((2 ^ i,0):TaskD)).foldl (addA rkN) []:=by
  unfold agN;rw[List.foldl_map]
 have:=adds_ok (rk:=rkN) (pre.map fun i=>((2 ^ i,0):TaskD)) [] (fun a ha=>by cases ha) (fun a ha=>by
  obtain⟨y,hy,rfl⟩:=List.mem_map.1 ha;have:2 ^ y<2 ^ 5:=Nat.pow_lt_pow_right (by omega) (h y hy);exact⟨by show 2 ^ y<32; omega,by show 0<32; omega⟩)
 rw[e];exact⟨this.1,by have:=this.2; simpa using this⟩
theorem rising_all {n:Nat} (h:n<=5):risingN (2 ^ n-1)=List.range n:=by
 have:n=0∨n=1∨n=2∨n=3∨n=4∨n=5:=by omega
 rcases this with rfl | rfl | rfl | rfl | rfl | rfl <;> rfl
structure BoxA (wr:World) (sb base:Nat) (arr:Array Value) (pre:List Nat) (o1:Nat->Prop) (W:World):Prop where
 ex:∃ av,GB W sb 87 (arr.setIfInBounds 14 av)/\W.ownsRow base 111 2 av (agN pre).length ((agN pre).flatMap taskL)/\(∀ b,o1 b↔b=sb∨av.ownBlock=some b)/\(∀ b,av.ownBlock=some b->wr.heap.size<=b)
 kept:Kept (fun b=>b≠sb) wr W
theorem BoxA.keep {wr:World} {sb base:Nat} {arr:Array Value} {pre:List Nat} {o1:Nat->Prop} {A B:World} (h:BoxA wr sb base arr pre o1 A) (hk:Kept (fun b=>o1 b∨b<wr.heap.size) A B):BoxA wr sb base arr pre o1 B:=by
 obtain⟨av,hg,ho,hi,hf⟩:=h.ex;exact⟨⟨av,hg.keep hk (.inl ((hi _).2 (.inl rfl))),ownsRow_keep ho hk (fun g hg=>.inl ((hi g).2 (.inr hg))),hi,hf⟩,h.kept.trans' hk (fun b hl _=>.inr hl)⟩
theorem GB.inj {w:World} {G:Nat} {t t':TypeId} {c c':Array Value} (h:GB w G t c) (h':GB w G t' c'):c=c':=by
 have e1:w.heap[G]? = some (.cells c t (0,0)):=h;have e2:w.heap[G]? = some (.cells c' t' (0,0)):=h';rw[e1] at e2;injection e2 with e2;injection e2
theorem bel2 (W:World) (o1 o2:Obj):Below W.heap.size W ((W.drew.alloc o1).alloc o2):=((Below.refl _ _).drew.alloc (Nat.le_refl _) o1).alloc (by simp) o2
theorem BegS.start {W0 w:World} {f:FactsV} {ts:List TableD} {q:QueryV} {X:Nat->Prop} (room:Nat) (hz:Fz (fun b=>¬ X b) W0 w) {vb sb bt:Nat} (gb cp:Nat->Nat) (os:Nat->List IntsV) {y:World} (hb:Below w.heap.size w y) (hl:w.heap.size<sb/\w.heap.size<vb/\vb≠sb) (h1:GB y w.heap.size 79 (f.cells ts q)) (h2:GB y vb 56 #[.pointer (some ⟨sb,0,none⟩)]) (h3:GB y sb 87 (f.cells ts q++begT (.slice none 0 0) false bt)) (h4:TreeF 95 (fun b=>¬ X b/\b≠sb) y bt (plainT ts q)):BegS W0 f ts q X room w vb sb 0 (cutN ts q room 0) (.slice none 0 0) gb cp os bt y:=
 ⟨hz.next hb,hb,hz.below.size,fun b hx=>Nat.lt_of_not_le fun hl=>hz.high b hl hx,hl,h1,h2,h3,World.ownsRow_nil _ _ _ _,fun j hj=>absurd hj (Nat.not_lt_zero _),fun i j hi=>absurd hi (Nat.not_lt_zero _),h4.mono fun b _ hb=>⟨hb.1,hb.2,(fun e=>by cases e),fun j hj=>absurd hj (Nat.not_lt_zero _)⟩⟩
theorem begin_any {W0 w:World} {f:FactsV} {ts:List TableD} {q:QueryV} (E:Env f ts q W0) {X:Nat->Prop} (hz:Fz (fun b=>¬ X b) W0 w) (room:Nat) (h1:1<=room) (h2:room<=1000) :
  Calls Tryz.prog 28 #[.agg (f.cells ts q),.int .i64 (room:Int)] w fun e w'=>∃ sb L M,e=.returned (.pointer (some ⟨sb,0,none⟩))/\SeAt W0 f ts q (fun b=>X b∨M b) M w' sb L (beginN rkN ts q room)/\(∀ b,M b->w.heap.size<=b)/\Below w.heap.size w w':=by
 obtain⟨v0,v1,v2,v3,v4,v5,v6,v7,v8,v9,v10,v11,v12,hFC,-,-,-,-,-,-,-,-,hv8,-⟩:=factsCells f ts q;subst hv8;have hsn:q.src.xs.length<=5:=E.five;have hsn1:1<=q.src.xs.length:=E.one;have HPL:Hid (∀ x (F:Nat->Prop),Fz F W0 x->Calls Tryz.prog 39 #[.agg #[v0,v1,v2,v3,v4,v5,v6,v7,.int .u64 ((2 ^ q.src.xs.length-1:Nat):Int),v9,v10,v11,v12]] x (TreePost 95 F x (plainT ts q))):=fun x F hx=>by
  rw[<- hFC];exact plainest_any E hx
 have HUO:Hid (∀ x (F:Nat->Prop) (k:Nat),Fz F W0 x->k<18446744073709551616->Calls Tryz.prog 40 #[.agg #[v0,v1,v2,v3,v4,v5,v6,v7,.int .u64 ((2 ^ q.src.xs.length-1:Nat):Int),v9,v10,v11,v12],.int .u64 (k:Int)] x fun e w'=>∃ v os,e=.returned v/\OrdsIn 22 F x.heap.size w' v os/\os.map IntsV.xs=usefulN ts q k/\Below x.heap.size x w'):=fun x F k hx hk=>by
  rw[<- hFC];exact usefulOrders_any E hx k hk
 have HUK:Hid (∀ k,(usefulN ts q k).length<=18/\0<(usefulN ts q k).length):=fun k=>by
  obtain⟨⟨r,hr⟩,hl⟩:=usefulN_ok ts q k E.eight;exact⟨hl,by rw[hr]; simp⟩
 obtain⟨SN,hSN⟩:∃ n:Nat,n=2 ^ q.src.xs.length-1:=⟨_,rfl⟩
 have hS31:SN<=31/\1<=SN:=by
  have h5:2 ^ q.src.xs.length<=2 ^ 5:=Nat.pow_le_pow_right (by omega) hsn;have h1:2 ^ 1<=2 ^ q.src.xs.length:=Nat.pow_le_pow_right (by omega) hsn1;omega
 have HSQ:Hid (∀ w0,SeqB numEl Tryz.prog 42 (.int .u64 (SN:Int)) (risingN SN) w0):=rising_seq SN (by omega);rw[<- hSN] at hFC HPL HUO;have HSN:Hid (SN=2 ^ q.src.xs.length-1):=hSN;have HRG:Hid (risingN SN=List.range q.src.xs.length):=by show _=_; rw[hSN]; exact rising_all hsn
 have HZ:Hid (Fz (fun b=>¬ X b) W0 w):=hz;obtain⟨w1,hw1,hb1,hg1⟩:=newB w #[v0,v1,v2,v3,v4,v5,v6,v7,(.int .u64 (SN:Int)),v9,v10,v11,v12] 79;have a0:w1.cell? ⟨w.heap.size,0,none⟩=some v0:=hg1.cell 0;have a1:w1.cell? ⟨w.heap.size,1,none⟩=some v1:=hg1.cell 1;have a2:w1.cell? ⟨w.heap.size,2,none⟩=some v2:=hg1.cell 2;have a3:w1.cell? ⟨w.heap.size,3,none⟩=some v3:=hg1.cell 3;have a4:w1.cell? ⟨w.heap.size,4,none⟩=some v4:=hg1.cell 4;have a5:w1.cell? ⟨w.heap.size,5,none⟩=some v5:=hg1.cell 5;have a6:w1.cell? ⟨w.heap.size,6,none⟩=some v6:=hg1.cell 6;have a7:w1.cell? ⟨w.heap.size,7,none⟩=some v7:=hg1.cell 7;have a8:w1.cell? ⟨w.heap.size,8,none⟩=some (.int .u64 (SN:Int)):=hg1.cell 8;have a9:w1.cell? ⟨w.heap.size,9,none⟩=some v9:=hg1.cell 9;have a10:w1.cell? ⟨w.heap.size,10,none⟩=some v10:=hg1.cell 10;have a11:w1.cell? ⟨w.heap.size,11,none⟩=some v11:=hg1.cell 11;have a12:w1.cell? ⟨w.heap.size,12,none⟩=some v12:=hg1.cell 12;have HB1:Hid (Below w.heap.size w w1):=hb1;have HG1:Hid (GB w1 w.heap.size 79 #[v0,v1,v2,v3,v4,v5,v6,v7,(.int .u64 (SN:Int)),v9,v10,v11,v12]):=hg1;have HL1:Hid (w.heap.size<w1.heap.size):=hg1.lt;have HST:Hid (∀ (vb sb bt:Nat) (y:World),Below w1.heap.size w1 y->w1.heap.size<=sb->w1.heap.size<=vb->vb≠sb->GB y vb 56 #[.pointer (some ⟨sb,0,none⟩)]->GB y sb 87 #[v0,v1,v2,v3,v4,v5,v6,v7,(.int .u64 (SN:Int)),v9,v10,v11,v12,.slice none 0 0,.slice none 0 0,.bool false,.pointer (some ⟨bt,0,none⟩),.slice none 0 0,.int .i64 1]->TreeF 95 (fun b=>¬ X b/\b≠sb) y bt (plainT ts q)->BegS W0 f ts q X room w vb sb 0 (cutN ts q room 0) (.slice none 0 0) (fun _=>0) (fun _=>0) (fun _=>[]) bt y):=fun vb sb bt y hy hs hv hne g2 g3 ht=>by
  have:=hg1.lt;refine BegS.start room hz _ _ _ (bQ1 hb1 hy) ⟨by omega,by omega,hne⟩ ?_ g2 ?_ ht
  ·rw[hFC];exact hg1.keep (Kept.of_below (s:=fun b=>b<w1.heap.size) hy (fun _ h _=>h)) hg1.lt
  ·rw[hFC];exact g3
 have HFC:Hid (f.cells ts q=#[v0,v1,v2,v3,v4,v5,v6,v7,(.int .u64 (SN:Int)),v9,v10,v11,v12]):=hFC;rw[hFC];clear hFC hz hb1 hg1 E hSN;refine (callsIn_wide (n:=0)).1 (callsIn_of_wp_marks Tryz.func28 rfl trivial (wpIn_wide.2 ?_) rfl);simp only[Tryz.ntmps28,List.size_toArray,List.length_cons,List.length_nil,Nat.reduceAdd,Nat.reduceSub,Array.replicate_succ,Array.replicate_zero,List.push_toArray,List.append_toArray,List.nil_append,List.cons_append];go_wp2_with fail;clear hw1;refine wp_via (J:=fun e a y=>e=.normal/\∃ vb sb bt,a = { tmps:=#[.agg #[v0,v1,v2,v3,v4,v5,v6,v7,(.int .u64 (SN:Int)),v9,v10,v11,v12],.int .i64 (room:Int),.pointer (some ⟨w.heap.size,0,none⟩),undef,.pointer none,.pointer (some ⟨vb,0,none⟩),undef,undef,undef,.agg #[v0,v1,v2,v3,v4,v5,v6,v7,(.int .u64 (SN:Int)),v9,v10,v11,v12],.agg #[v0,v1,v2,v3,v4,v5,v6,v7,(.int .u64 (SN:Int)),v9,v10,v11,v12],.pointer (some ⟨bt,0,none⟩),.agg #[v0,v1,v2,v3,v4,v5,v6,v7,(.int .u64 (SN:Int)),v9,v10,v11,v12,.slice none 0 0,.slice none 0 0,.bool false,.pointer (some ⟨bt,0,none⟩),.slice none 0 0,.int .i64 1],.pointer (some ⟨sb,0,none⟩),undef,undef,undef,undef,undef,undef,undef,undef,undef,undef,undef,undef,undef,undef,undef,undef,undef,undef,undef,undef,undef,undef,undef,undef,undef,undef,undef,undef,undef,undef,undef,undef,undef,undef,undef,undef,undef,undef,undef,undef,undef,undef,undef,undef,undef,undef,undef,undef,undef,undef,undef,undef,undef,undef],defers:=[] }/\BegS W0 f ts q X room w vb sb 0 (cutN ts q room 0) (.slice none 0 0) (fun _=>0) (fun _=>0) (fun _=>[]) bt y) ?r1 ?rest
 case r1=>
  refine wp_region_held_drew (S:=fun x=>Below w1.heap.size w1 x) (by kernel_rfl) ((Below.refl _ _).drew) (fun hS=>?_);refine wN 0 (.agg #[v0,v1,v2,v3,v4,v5,v6,v7,(.int .u64 (SN:Int)),v9,v10,v11,v12]) hS (fun x hx=>?_) ?_
  ·have e0:=cB hx a0;have e1:=cB hx a1;have e2:=cB hx a2;have e3:=cB hx a3;have e4:=cB hx a4;have e5:=cB hx a5;have e6:=cB hx a6;have e7:=cB hx a7;have e8:=cB hx a8;have e9:=cB hx a9;have e10:=cB hx a10;have e11:=cB hx a11;have e12:=cB hx a12;go_simp
  refine wN 1 (.agg #[v0,v1,v2,v3,v4,v5,v6,v7,(.int .u64 (SN:Int)),v9,v10,v11,v12]) hS (fun x hx=>?_) ?_
  ·have e0:=cB hx a0;have e1:=cB hx a1;have e2:=cB hx a2;have e3:=cB hx a3;have e4:=cB hx a4;have e5:=cB hx a5;have e6:=cB hx a6;have e7:=cB hx a7;have e8:=cB hx a8;have e9:=cB hx a9;have e10:=cB hx a10;have e11:=cB hx a11;have e12:=cB hx a12;go_simp
  clear a0 a1 a2 a3 a4 a5 a6 a7 a8 a9 a10 a11 a12;refine wpAnyH_ready (rs:=[2,5]) (by kernel_rfl) (by simp) ?_;refine AllReadyH.cons rfl (fun K hK=>?_) (AllReadyH.cons rfl (fun K hK=>?_) AllReadyH.nil)
  ·skip;go_simp;refine Calls.mono (HPL.out _ (fun b=>¬ X b) (HZ.out.next (bQ1 HB1.out hS))) ?_;rintro e y0 ⟨bt,rfl,hT,hbt1,hbt2,hb⟩;refine hK.out _ _ (hS.trans (hb.mono hS.size)) (fun hS=>?_);clear hK K;refine wN 3 (.agg #[v0,v1,v2,v3,v4,v5,v6,v7,(.int .u64 (SN:Int)),v9,v10,v11,v12,.slice none 0 0,.slice none 0 0,.bool false,.pointer (some ⟨bt,0,none⟩),.slice none 0 0,.int .i64 1]) hS (fun x hx=>?_) ?_
   ·go_simp
   have hs0:=hS.size;refine wpAnyH_ready (rs:=[4,5]) (by kernel_rfl) (by simp) ?_;refine AllReadyH.cons rfl (fun K hK=>?_) (AllReadyH.cons rfl (fun K hK=>?_) AllReadyH.nil)
   ·skip;go_simp;refine hK.out _ _ (hS.trans (bQ2 _ _ |>.mono hS.size)) (fun hS=>?_);clear hK K;obtain⟨y1,hy1⟩:∃ z,y0.alloc (.cells #[v0,v1,v2,v3,v4,v5,v6,v7,(.int .u64 (SN:Int)),v9,v10,v11,v12,.slice none 0 0,.slice none 0 0,.bool false,.pointer (some ⟨bt,0,none⟩),.slice none 0 0,.int .i64 1] 87)=z:=⟨_,rfl⟩
    have hs1:y1.heap.size=y0.heap.size+1:=by rw[<- hy1]; simp
    have hn1:GB y1 y0.heap.size 87 #[v0,v1,v2,v3,v4,v5,v6,v7,(.int .u64 (SN:Int)),v9,v10,v11,v12,.slice none 0 0,.slice none 0 0,.bool false,.pointer (some ⟨bt,0,none⟩),.slice none 0 0,.int .i64 1]:=by rw[<- hy1]; exact bQ3 _ _
    have hB1:Below y0.heap.size y0 y1:=by rw[<- hy1]; exact bQ2 _ _
    rw[hy1] at hS ⊢;clear hy1;obtain⟨y2,hy2⟩:∃ z,y1.alloc (.cells #[.pointer none] 56)=z:=⟨_,rfl⟩
    have hs2:y2.heap.size=y1.heap.size+1:=by rw[<- hy2]; simp
    have hn2:GB y2 y1.heap.size 56 #[.pointer none]:=by rw[<- hy2]; exact bQ3 _ _
    have hB2:Below y1.heap.size y1 y2:=by rw[<- hy2]; exact bQ2 _ _
    have HS1:Hid (y1.heap.size=y0.heap.size+1):=hs1;have HS2:Hid (y2.heap.size=y1.heap.size+1):=hs2;clear hs1 hs2;refine wR 5 fun K hK=>?_
    go_simp;refine hK.out _ _ (hS.trans (hB2.mono hS.size)) (fun hS=>?_);clear hK K;clear hy2;have hn1:=hn1.keep (Kept.of_below (s:=fun b=>b<y1.heap.size) hB2 (fun _ h _=>h)) hn1.lt;have hc:y2.cell? ⟨y1.heap.size,0,none⟩=some (.pointer none):=hn2.cell 0;have hf:=hn2.frozen 0;have hlv:w1.heap.size<=y1.heap.size:=by have:=HS1.out; omega
    have HSS:Hid (Below w1.heap.size w1 (y2.setCell ⟨y1.heap.size,0,none⟩ (.pointer (some ⟨y0.heap.size,0,none⟩)))):=hS.trans ((Kept.setCell (s:=fun b=>b≠y1.heap.size) _ _ _ (fun h=>h rfl)).below hS.size (fun b hb=>by omega));have HFN:=HST.out y1.heap.size y0.heap.size bt _ HSS.out (by have:=HS1.out; omega) hlv (by have:=HS1.out; omega) (hn2.set 0 (.pointer (some ⟨y0.heap.size,0,none⟩))) (hn1.keep (Kept.setCell (s:=fun b=>b≠y1.heap.size) _ _ _ (fun h=>h rfl)) (by have:=HS1.out; omega)) (((((hT.mono (G:=fun b=>¬ X b/\b<y0.heap.size) (fun b hl hb=>⟨hb,hl⟩)).below hB1).below hB2).keptF (Kept.setCell (s:=fun b=>b≠y1.heap.size) _ _ _ (fun h=>h rfl) |>.mono fun b _ hb=>by have:=HS1.out; omega)).mono fun b _ hb=>⟨hb.1,by have:=HS1.out; omega⟩);clear hn1 hn2 hB1 hB2;refine wR 6 fun K hK=>?_
    go_simp;refine hK.out _ _ (HSS.out) (fun hS=>?_);clear hK K;refine wpAnyH_done (by kernel_rfl) ?_ _
    try simp only[Act.put,List.getElem_toArray,List.getElem_cons_succ,List.getElem_cons_zero,List.setIfInBounds_toArray,List.set_cons_succ,List.set_cons_zero]
    exact⟨by trivial,y1.heap.size,y0.heap.size,bt,rfl,HFN⟩
   ·skip;go_simp;refine hK.out _ _ (hS.trans (bQ2 _ _ |>.mono hS.size)) (fun hS=>?_);clear hK K;obtain⟨y1,hy1⟩:∃ z,y0.alloc (.cells #[.pointer none] 56)=z:=⟨_,rfl⟩
    have hs1:y1.heap.size=y0.heap.size+1:=by rw[<- hy1]; simp
    have hn1:GB y1 y0.heap.size 56 #[.pointer none]:=by rw[<- hy1]; exact bQ3 _ _
    have hB1:Below y0.heap.size y0 y1:=by rw[<- hy1]; exact bQ2 _ _
    rw[hy1] at hS ⊢;clear hy1;obtain⟨y2,hy2⟩:∃ z,y1.alloc (.cells #[v0,v1,v2,v3,v4,v5,v6,v7,(.int .u64 (SN:Int)),v9,v10,v11,v12,.slice none 0 0,.slice none 0 0,.bool false,.pointer (some ⟨bt,0,none⟩),.slice none 0 0,.int .i64 1] 87)=z:=⟨_,rfl⟩
    have hs2:y2.heap.size=y1.heap.size+1:=by rw[<- hy2]; simp
    have hn2:GB y2 y1.heap.size 87 #[v0,v1,v2,v3,v4,v5,v6,v7,(.int .u64 (SN:Int)),v9,v10,v11,v12,.slice none 0 0,.slice none 0 0,.bool false,.pointer (some ⟨bt,0,none⟩),.slice none 0 0,.int .i64 1]:=by rw[<- hy2]; exact bQ3 _ _
    have hB2:Below y1.heap.size y1 y2:=by rw[<- hy2]; exact bQ2 _ _
    have HS1:Hid (y1.heap.size=y0.heap.size+1):=hs1;have HS2:Hid (y2.heap.size=y1.heap.size+1):=hs2;clear hs1 hs2;refine wR 4 fun K hK=>?_
    go_simp;refine hK.out _ _ (hS.trans (hB2.mono hS.size)) (fun hS=>?_);clear hK K;clear hy2;have hn1:=hn1.keep (Kept.of_below (s:=fun b=>b<y1.heap.size) hB2 (fun _ h _=>h)) hn1.lt;have hc:y2.cell? ⟨y0.heap.size,0,none⟩=some (.pointer none):=hn1.cell 0;have hf:=hn1.frozen 0;have hlv:w1.heap.size<=y0.heap.size:=by have:=HS1.out; omega
    have HSS:Hid (Below w1.heap.size w1 (y2.setCell ⟨y0.heap.size,0,none⟩ (.pointer (some ⟨y1.heap.size,0,none⟩)))):=hS.trans ((Kept.setCell (s:=fun b=>b≠y0.heap.size) _ _ _ (fun h=>h rfl)).below hS.size (fun b hb=>by omega));have HFN:=HST.out y0.heap.size y1.heap.size bt _ HSS.out (by have:=HS1.out; omega) hlv (by have:=HS1.out; omega) (hn1.set 0 (.pointer (some ⟨y1.heap.size,0,none⟩))) (hn2.keep (Kept.setCell (s:=fun b=>b≠y0.heap.size) _ _ _ (fun h=>h rfl)) (by have:=HS1.out; omega)) (((((hT.mono (G:=fun b=>¬ X b/\b<y0.heap.size) (fun b hl hb=>⟨hb,hl⟩)).below hB1).below hB2).keptF (Kept.setCell (s:=fun b=>b≠y0.heap.size) _ _ _ (fun h=>h rfl) |>.mono fun b _ hb=>by have:=HS1.out; omega)).mono fun b _ hb=>⟨hb.1,by have:=HS1.out; omega⟩);clear hn1 hn2 hB1 hB2;refine wR 6 fun K hK=>?_
    go_simp;refine hK.out _ _ (HSS.out) (fun hS=>?_);clear hK K;refine wpAnyH_done (by kernel_rfl) ?_ _
    try simp only[Act.put,List.getElem_toArray,List.getElem_cons_succ,List.getElem_cons_zero,List.setIfInBounds_toArray,List.set_cons_succ,List.set_cons_zero]
    exact⟨by trivial,y0.heap.size,y1.heap.size,bt,rfl,HFN⟩
  ·skip;go_simp;refine hK.out _ _ (hS.trans (bQ2 _ _ |>.mono hS.size)) (fun hS=>?_);clear hK K;have hs1:(w1.alloc (.cells #[.pointer none] 56)).drew.heap.size=w1.heap.size+1:=by simp
   have hn1:GB (w1.alloc (.cells #[.pointer none] 56)).drew w1.heap.size 56 #[.pointer none]:=bQ3 w1 _;generalize (w1.alloc (.cells #[.pointer none] 56)).drew=y1 at *;have HS1:Hid (y1.heap.size=w1.heap.size+1):=hs1;clear hs1;have hzF:Fz (fun b=>¬ X b/\b≠w1.heap.size) W0 y1:=by
    have h0:=HZ.out.next (bQ1 HB1.out hS);have h1:=HZ.out.below.size;have h2:=HB1.out.size;have h3:=HS1.out;exact⟨h0.below,fun b hb=>⟨h0.low b hb,by have:=hb.lt; omega⟩,fun b hb=>⟨h0.high b hb,by omega⟩⟩
   refine wR 2 fun K hK=>?_
   go_simp;refine Calls.mono (HPL.out _ (fun b=>¬ X b/\b≠w1.heap.size) hzF) ?_;rintro e y0 ⟨bt,rfl,hT,hbt1,hbt2,hb⟩;refine hK.out _ _ (hS.trans (hb.mono hS.size)) (fun hS=>?_);clear hK K;refine wN 3 (.agg #[v0,v1,v2,v3,v4,v5,v6,v7,(.int .u64 (SN:Int)),v9,v10,v11,v12,.slice none 0 0,.slice none 0 0,.bool false,.pointer (some ⟨bt,0,none⟩),.slice none 0 0,.int .i64 1]) hS (fun x hx=>?_) ?_
   ·go_simp
   have hs0:=hS.size;have hn1:=hn1.keep (Kept.of_below (s:=fun b=>b<y1.heap.size) hb (fun _ h _=>h)) hn1.lt;obtain⟨y2,hy2⟩:∃ z,y0.alloc (.cells #[v0,v1,v2,v3,v4,v5,v6,v7,(.int .u64 (SN:Int)),v9,v10,v11,v12,.slice none 0 0,.slice none 0 0,.bool false,.pointer (some ⟨bt,0,none⟩),.slice none 0 0,.int .i64 1] 87)=z:=⟨_,rfl⟩
   have hn2:GB y2 y0.heap.size 87 #[v0,v1,v2,v3,v4,v5,v6,v7,(.int .u64 (SN:Int)),v9,v10,v11,v12,.slice none 0 0,.slice none 0 0,.bool false,.pointer (some ⟨bt,0,none⟩),.slice none 0 0,.int .i64 1]:=by rw[<- hy2]; exact bQ3 _ _
   have hB2:Below y0.heap.size y0 y2:=by rw[<- hy2]; exact bQ2 _ _
   refine wR 4 fun K hK=>?_
   go_simp;refine hK.out _ _ (hS.trans (hB2.mono hS.size)) (fun hS=>?_);clear hK K;clear hy2;have hn1:=hn1.keep (Kept.of_below (s:=fun b=>b<y0.heap.size) hB2 (fun _ h _=>h)) hn1.lt;have hc:y2.cell? ⟨w1.heap.size,0,none⟩=some (.pointer none):=hn1.cell 0;have hf:=hn1.frozen 0;have hlv:w1.heap.size<y0.heap.size:=by have:=HS1.out; have:=hb.size; omega
   have HSS:Hid (Below w1.heap.size w1 (y2.setCell ⟨w1.heap.size,0,none⟩ (.pointer (some ⟨y0.heap.size,0,none⟩)))):=hS.trans ((Kept.setCell (s:=fun b=>b≠w1.heap.size) _ _ _ (fun h=>h rfl)).below hS.size (fun b hb=>by omega));have HFN:=HST.out w1.heap.size y0.heap.size bt _ HSS.out (by omega) (Nat.le_refl _) (by omega) (hn1.set 0 (.pointer (some ⟨y0.heap.size,0,none⟩))) (hn2.keep (Kept.setCell (s:=fun b=>b≠w1.heap.size) _ _ _ (fun h=>h rfl)) (by omega)) ((((hT.mono (G:=fun b=>(¬ X b/\b≠w1.heap.size)/\b<y0.heap.size) (fun b hl hb=>⟨hb,hl⟩)).below hB2).keptF (Kept.setCell (s:=fun b=>b≠w1.heap.size) _ _ _ (fun h=>h rfl) |>.mono fun b _ hb=>hb.1.2)).mono fun b _ hb=>⟨hb.1.1,by omega⟩);clear hn1 hn2 hB2;refine wR 6 fun K hK=>?_
   go_simp;refine hK.out _ _ (HSS.out) (fun hS=>?_);clear hK K;refine wpAnyH_done (by kernel_rfl) ?_ _
   try simp only[Act.put,List.getElem_toArray,List.getElem_cons_succ,List.getElem_cons_zero,List.setIfInBounds_toArray,List.set_cons_succ,List.set_cons_zero]
   exact⟨by trivial,w1.heap.size,y0.heap.size,bt,rfl,HFN⟩
 rintro e a y ⟨rfl,vb,sb,bt,rfl,hB⟩;have HB0:Hid (BegS W0 f ts q X room w vb sb 0 (cutN ts q room 0) (.slice none 0 0) (fun _=>0) (fun _=>0) (fun _=>[]) bt y):=hB;clear hB;have hc8:y.cell? ⟨w.heap.size,8,none⟩=some (.int .u64 (SN:Int)):=by
  have:=HB0.out.fbg;rw[HFC.out] at this;exact this.cell 8
 obtain⟨hS31a,hS31b⟩:=hS31;go_wp2;go_loopw [17] (fun iv wr=>∃ k:Nat,k<=SN/\iv=.int .i64 (k:Int)/\Hid (∃ gv gb cp os,BegS W0 f ts q X room w vb sb k (cutN ts q room k) gv gb cp os bt wr)) (fun iv _=>SN-(intOf iv).toNat)
 case atStart=>exact⟨0,Nat.zero_le _,rfl,_,_,_,_,HB0.out⟩
 case round=>
  obtain⟨k,hk,rfl,HJ⟩:=hrel;clear hc8;by_cases hlt:k<SN
  ·obtain⟨gv,gb,cp,os,hB⟩:=HJ.out;have hff:=hB.fbg;rw[HFC.out] at hff;have a0:wr.cell? ⟨w.heap.size,0,none⟩=some v0:=hff.cell 0;have a1:wr.cell? ⟨w.heap.size,1,none⟩=some v1:=hff.cell 1;have a2:wr.cell? ⟨w.heap.size,2,none⟩=some v2:=hff.cell 2;have a3:wr.cell? ⟨w.heap.size,3,none⟩=some v3:=hff.cell 3;have a4:wr.cell? ⟨w.heap.size,4,none⟩=some v4:=hff.cell 4;have a5:wr.cell? ⟨w.heap.size,5,none⟩=some v5:=hff.cell 5;have a6:wr.cell? ⟨w.heap.size,6,none⟩=some v6:=hff.cell 6;have a7:wr.cell? ⟨w.heap.size,7,none⟩=some v7:=hff.cell 7;have a8:wr.cell? ⟨w.heap.size,8,none⟩=some (.int .u64 (SN:Int)):=hff.cell 8;have a9:wr.cell? ⟨w.heap.size,9,none⟩=some v9:=hff.cell 9;have a10:wr.cell? ⟨w.heap.size,10,none⟩=some v10:=hff.cell 10;have a11:wr.cell? ⟨w.heap.size,11,none⟩=some v11:=hff.cell 11;have a12:wr.cell? ⟨w.heap.size,12,none⟩=some v12:=hff.cell 12;have hUO:=HUO.out wr _ k hB.fz (by omega);obtain⟨ga,gm,gc,rfl⟩:=ownsRow_slice hB.own;have HB:Hid (BegS W0 f ts q X room w vb sb k (cutN ts q room k) (.slice ga gm gc) gb cp os bt wr):=hB;clear hB hff HJ;go_wp2_with fail;refine hUO.mono ?_;rintro e z1 ⟨v,ol,rfl,hO,hox,hbz⟩;have hol:0<ol.length/\ol.length<=18:=by
    have h1:=HUK.out k;have h2:=congrArg List.length hox;rw[List.length_map] at h2;omega
   obtain⟨ob,oc,rfl,hoc1,hoc2,hob,hcells⟩:=own_ords hO hol.1;have HB1k:Hid (BegS W0 f ts q X room w vb sb k (cutN ts q room k) (.slice ga gm gc) gb cp os bt z1):=HB.out.below hbz;have HOX:Hid (ol.map IntsV.xs=usefulN ts q k):=hox;have HOE:Hid _:=hO.each;have HCE:Hid _:=hcells;have HOB:Hid (wr.heap.size<=ob):=hob;clear hUO hO hox hbz hob hcells a0 a1 a2 a3 a4 a5 a6 a7 a8 a9 a10 a11 a12;go_wp2_with fail;have hv:z1.cell? ⟨vb,0,none⟩=some (.pointer (some ⟨sb,0,none⟩)):=HB1k.out.var.cell 0;have hvne:vb≠sb:=HB1k.out.sbl.2.2;have hbk:=HB1k.out.blk;rw[HFC.out] at hbk;have hc15:z1.cell? ⟨sb,15,none⟩=some (.bool (cutN ts q room k)):=hbk.cell 15;have hf15:=hbk.frozen 15;have HC2:Hid (cutN ts q room (k+1)=(cutN ts q room k || decide (room<ol.length))):=by
    show _=_
    rw[cutN_succ,<- HOX.out,List.length_map]
   refine wp_via (J:=fun e a y=>e=.normal/\∃ t24 t25 t26 t27 t28 t29 t30 t31 t32 t33 t34 t35 t36,a = { tmps:=#[.agg #[v0,v1,v2,v3,v4,v5,v6,v7,(.int .u64 (SN:Int)),v9,v10,v11,v12],.int .i64 (room:Int),.pointer (some ⟨w.heap.size,0,none⟩),undef,.pointer none,.pointer (some ⟨vb,0,none⟩),.int .i64 (k:Int),.slice (some ⟨ob,0,none⟩) ol.length oc,undef,.agg #[v0,v1,v2,v3,v4,v5,v6,v7,(.int .u64 (SN:Int)),v9,v10,v11,v12],.agg #[v0,v1,v2,v3,v4,v5,v6,v7,(.int .u64 (SN:Int)),v9,v10,v11,v12],.pointer (some ⟨bt,0,none⟩),.agg #[v0,v1,v2,v3,v4,v5,v6,v7,(.int .u64 (SN:Int)),v9,v10,v11,v12,.slice none 0 0,.slice none 0 0,.bool false,.pointer (some ⟨bt,0,none⟩),.slice none 0 0,.int .i64 1],.pointer (some ⟨sb,0,none⟩),.pointer (some ⟨w.heap.size,8,none⟩),.int .u64 (SN:Int),.int .i64 (SN:Int),.int .i64 (k:Int),.bool true,.int .i64 (k:Int),.agg #[v0,v1,v2,v3,v4,v5,v6,v7,(.int .u64 (SN:Int)),v9,v10,v11,v12],.int .i64 (k:Int),.int .u64 (k:Int),.slice (some ⟨ob,0,none⟩) ol.length oc,t24,t25,t26,t27,t28,t29,t30,t31,t32,t33,t34,t35,t36,u37,u38,u39,u40,u41,u42,u43,u44,u45,u46,u47,u48,u49,u50,u51,u52,u53,undef,undef,undef,undef,undef,undef,undef,undef,undef,undef,undef,undef,undef,undef],defers:=[] }/\BegS W0 f ts q X room w vb sb k (cutN ts q room (k+1)) (.slice ga gm gc) gb cp os bt y/\Kept (fun b=>b≠sb) z1 y) ?r6 ?rest6
   case r6=>
    have HFN:Hid (∀ y,Kept (fun b=>b≠sb) z1 y->GB y sb 87 (f.cells ts q++begT (.slice ga gm gc) (cutN ts q room (k+1)) bt)->BegS W0 f ts q X room w vb sb k (cutN ts q room (k+1)) (.slice ga gm gc) gb cp os bt y):=fun y hy hg=>HB1k.out.flag hy hg
    have HBL:Hid (GB (z1.setCell ⟨sb,15,none⟩ (.bool (cutN ts q room (k+1)))) sb 87 (f.cells ts q++begT (.slice ga gm gc) (cutN ts q room (k+1)) bt)):=by
     have:=hbk.set 15 (.bool (cutN ts q room (k+1)))
     show GB _ _ _ _
     rw[HFC.out];exact this
    clear hbk HB1k HB;generalize cutN ts q room (k+1)=c2 at *;generalize cutN ts q room k=c1 at *;refine wp_region_held_drew (S:=fun x=>Kept (fun b=>b≠sb) z1 x) (by kernel_rfl) (Kept.of_below ((Below.refl _ _).drew) (fun _ h _=>h)) (fun hS=>?_);refine wN 0 (.pointer (some ⟨sb,0,none⟩)) hS (fun x hx=>?_) ?_
    ·have e0:=cell_keepP hx hv hvne;go_simp
    refine wN 1 (.pointer (some ⟨sb,0,none⟩)) hS (fun x hx=>?_) ?_
    ·have e0:=cell_keepP hx hv hvne;go_simp
    refine wN 2 (.pointer (some ⟨sb,0,none⟩)) hS (fun x hx=>?_) ?_
    ·go_simp
    refine wN 3 (.pointer (some ⟨sb,15,none⟩)) hS (fun x hx=>?_) ?_
    ·go_simp
    refine wR 4 fun K hK=>?_
    go_simp;refine hK.out _ _ (hS) (fun hS=>?_);clear hK K;refine wN 5 (.bool c1) hS (fun x hx=>?_) ?_
    ·go_simp
    cases c1 with
    | true =>
     have hc2:c2=true:=by rw[HC2.out]; rfl
     clear HC2;subst hc2;refine wpAnyH_take (i:=6) (v:=undef) rfl (by kernel_rfl) (by kernel_rfl) (by kernel_rfl) (fun _ _ _ h=>by cases h.1) (.inr ⟨by kernel_rfl,rfl⟩) hS ?_;refine wpAnyH_take (i:=7) (v:=undef) rfl (by kernel_rfl) (by kernel_rfl) (by kernel_rfl) (fun _ _ _ h=>by cases h.1) (.inr ⟨by kernel_rfl,rfl⟩) hS ?_;refine wpAnyH_take (i:=8) (v:=undef) rfl (by kernel_rfl) (by kernel_rfl) (by kernel_rfl) (fun _ _ _ h=>by cases h.1) (.inr ⟨by kernel_rfl,rfl⟩) hS ?_;refine wpAnyH_take (i:=9) (v:=undef) rfl (by kernel_rfl) (by kernel_rfl) (by kernel_rfl) (fun _ _ _ h=>by cases h.1) (.inr ⟨by kernel_rfl,rfl⟩) hS ?_;refine wN 10 (.bool true) hS (fun x hx=>?_) ?_
     ·go_simp
     refine wN 11 (.pointer (some ⟨sb,0,none⟩)) hS (fun x hx=>?_) ?_
     ·go_simp
     refine wN 12 (.pointer (some ⟨sb,15,none⟩)) hS (fun x hx=>?_) ?_
     ·go_simp
     refine wR 13 fun K hK=>?_
     go_simp;refine hK.out _ _ (hS.trans (Kept.setCell _ _ _ (fun h=>h rfl))) (fun hS=>?_);clear hK K;refine wpAnyH_done (by kernel_rfl) ?_ _
     try simp only[Act.put,List.getElem_toArray,List.getElem_cons_succ,List.getElem_cons_zero,List.setIfInBounds_toArray,List.set_cons_succ,List.set_cons_zero]
     exact⟨by trivial,_,_,_,_,_,_,_,_,_,_,_,_,_,rfl,HFN.out _ hS HBL.out,hS⟩
    | false =>
     by_cases hgt:room<ol.length
     ·have hc2:c2=true:=by rw[HC2.out]; simp[hgt]
      clear HC2;subst hc2;refine wM 6 (.slice (some ⟨ob,0,none⟩) ol.length oc) hS (fun x hx=>?_) ?_
      ·go_simp
      refine wM 7 (.int .i64 (ol.length:Int)) hS (fun x hx=>?_) ?_
      ·go_simp
      refine wM 8 (.int .i64 (room:Int)) hS (fun x hx=>?_) ?_
      ·go_simp
      refine wM 9 (.bool true) hS (fun x hx=>?_) ?_
      ·go_simp
      refine wN 10 (.bool true) hS (fun x hx=>?_) ?_
      ·go_simp
      refine wN 11 (.pointer (some ⟨sb,0,none⟩)) hS (fun x hx=>?_) ?_
      ·go_simp
      refine wN 12 (.pointer (some ⟨sb,15,none⟩)) hS (fun x hx=>?_) ?_
      ·go_simp
      refine wR 13 fun K hK=>?_
      go_simp;refine hK.out _ _ (hS.trans (Kept.setCell _ _ _ (fun h=>h rfl))) (fun hS=>?_);clear hK K;refine wpAnyH_done (by kernel_rfl) ?_ _
      try simp only[Act.put,List.getElem_toArray,List.getElem_cons_succ,List.getElem_cons_zero,List.setIfInBounds_toArray,List.set_cons_succ,List.set_cons_zero]
      exact⟨by trivial,_,_,_,_,_,_,_,_,_,_,_,_,_,rfl,HFN.out _ hS HBL.out,hS⟩
     ·have hc2:c2=false:=by rw[HC2.out]; simp[hgt]
      clear HC2;subst hc2;refine wM 6 (.slice (some ⟨ob,0,none⟩) ol.length oc) hS (fun x hx=>?_) ?_
      ·go_simp
      refine wM 7 (.int .i64 (ol.length:Int)) hS (fun x hx=>?_) ?_
      ·go_simp
      refine wM 8 (.int .i64 (room:Int)) hS (fun x hx=>?_) ?_
      ·go_simp
      refine wM 9 (.bool false) hS (fun x hx=>?_) ?_
      ·go_simp
      refine wN 10 (.bool false) hS (fun x hx=>?_) ?_
      ·go_simp
      refine wN 11 (.pointer (some ⟨sb,0,none⟩)) hS (fun x hx=>?_) ?_
      ·go_simp
      refine wN 12 (.pointer (some ⟨sb,15,none⟩)) hS (fun x hx=>?_) ?_
      ·go_simp
      refine wR 13 fun K hK=>?_
      go_simp;refine hK.out _ _ (hS.trans (Kept.setCell _ _ _ (fun h=>h rfl))) (fun hS=>?_);clear hK K;refine wpAnyH_done (by kernel_rfl) ?_ _
      try simp only[Act.put,List.getElem_toArray,List.getElem_cons_succ,List.getElem_cons_zero,List.setIfInBounds_toArray,List.set_cons_succ,List.set_cons_zero]
      exact⟨by trivial,_,_,_,_,_,_,_,_,_,_,_,_,_,rfl,HFN.out _ hS HBL.out,hS⟩
   rintro e a z2 ⟨rfl,t24,t25,t26,t27,t28,t29,t30,t31,t32,t33,t34,t35,t36,rfl,hB2,hk12⟩;have HB2:Hid (BegS W0 f ts q X room w vb sb k (cutN ts q room (k+1)) (.slice ga gm gc) gb cp os bt z2):=hB2;clear hv hc15 hf15 hbk HC2;obtain⟨m,hm⟩:∃ m,m=min room ol.length:=⟨_,rfl⟩
   have hm1:1<=m/\m<=ol.length/\m<=room:=by omega
   have HMI:Hid ((if (ol.length:Int)<(room:Int) then (ol.length:Int) else (room:Int))=(m:Int)/\min (room:Int) (ol.length:Int)=(m:Int)):=⟨by split <;> omega,by omega⟩
   have HUN:Hid ((ol.take m).map IntsV.xs=unN ts q room k):=by
    show _=_
    unfold unN;rw[<- HOX.out,List.map_take,hm];by_cases h:room<=ol.length
    ·rw[Nat.min_eq_left h]
    ·rw[Nat.min_eq_right (by omega),List.take_of_length_le (by simp),List.take_of_length_le (by rw[List.length_map]; omega)]
   have hsbl:sb<wr.heap.size:=HB.out.blk.lt;have hcz:CellsAt z2 (some ⟨ob,0,none⟩) m (fun i=>((ol.take m).getD i nilV).val):=fun i hi=>by
    obtain⟨b,off,e,hc⟩:=HCE.out m hm1.2.1 i hi;injection e with e;injection e with e1 e2;subst e1;refine⟨ob,off,by rw[<- e2],cell_keepP hk12 hc ?_⟩;have:=HOB.out;omega
   have hoz:∀ o∈ol.take m,IntsIn (fun b=>GX X sb k (.slice ga gm gc) gb b/\b<z2.heap.size) z2 o/\o.xs.length<=1000:=fun o ho=>by
    have h1:=HOE.out o (List.mem_of_mem_take ho);refine⟨?_,h1.2⟩;have h2:=h1.1.mono (G:=fun b=>GX X sb k (.slice ga gm gc) gb b/\b<z1.heap.size) (fun b hl hb=>⟨hb.1,hl⟩);exact (h2.keptF (hk12.mono fun b _ hb=>hb.1.2.1)).mono fun b _ hb=>⟨hb.1,Nat.lt_of_lt_of_le hb.2 hk12.size⟩
   have hlm:(ol.take m).length=m:=by rw[List.length_take]; omega
   have HNG:Hid (∀ x,Below z2.heap.size z2 x->Calls Tryz.prog 41 #[.slice (some ⟨ob,0,none⟩) m oc] x fun e w'=>∃ gn cn,e=.returned (.slice (some ⟨gn,0,none⟩) m cn)/\x.heap.size<=gn/\gn<w'.heap.size/\m<=cn/\cn<=9223372036854775807/\GrpAt 95 141 (fun b=>GX X sb k (.slice ga gm gc) gb b/\b<z2.heap.size) w' gn (fun _=>0) (ol.take m) (newGr (unN ts q room k))/\Below x.heap.size x w'):=fun x hx=>by
    have:=newGroup_any (F:=fun b=>GX X sb k (.slice ga gm gc) gb b/\b<z2.heap.size) (w:=x) (ol.take m) (some ⟨ob,0,none⟩) oc (by rw[hlm]; exact CellsAt.below hx hcz) (fun o ho=>⟨(hoz o ho).1.below hx,(hoz o ho).2⟩) (by omega) (by omega) (fun _=>0);rw[HUN.out,hlm] at this;exact this
   have HNL:Hid ((newGr (unN ts q room k)).length=m):=by
    show _=_
    rw[<- HUN.out];unfold newGr;rw[List.length_map,List.length_map,hlm]
   have hv:z2.cell? ⟨vb,0,none⟩=some (.pointer (some ⟨sb,0,none⟩)):=HB2.out.var.cell 0;have hn2:=HB2.out.ne;have hvs:vb≠sb/\(Value.slice ga gm gc).ownBlock≠some vb:=⟨hvne,hn2.2.1⟩
   have hbk:=HB2.out.blk;rw[HFC.out] at hbk;have hc13:z2.cell? ⟨sb,13,none⟩=some (.slice ga gm gc):=hbk.cell 13;have HPU:Hid (∀ (y2:World) (gn cn:Nat),Below z2.heap.size z2 y2->z2.heap.size<=gn->gn<y2.heap.size->m<=cn->cn<=9223372036854775807->GrpAt 95 141 (fun b=>GX X sb k (.slice ga gm gc) gb b/\b<z2.heap.size) y2 gn (fun _=>0) (ol.take m) (newGr (unN ts q room k))->y2.cell? ⟨sb,13,none⟩=some (.slice ga gm gc)/\(y2.alloc (.cells #[.slice (some ⟨gn,0,none⟩) m cn] 105)).cell? ⟨sb,13,none⟩=some (.slice ga gm gc)/\∃ pa pm pc y4,(Builtin.append_ #[82,82] 82 #[.slice ga gm gc,.slice (some ⟨y2.heap.size,0,none⟩) 1 1]).run Tryz.prog (y2.alloc (.cells #[.slice (some ⟨gn,0,none⟩) m cn] 105))=.ok (.slice pa pm pc) y4/\y4.cell? ⟨sb,13,none⟩=some (.slice ga gm gc)/\y4.frozen? ⟨sb,13,none⟩=false/\Kept (fun b=>b≠sb/\(Value.slice ga gm gc).ownBlock≠some b) z2 y4/\Kept (fun b=>b≠sb/\(Value.slice ga gm gc).ownBlock≠some b) z2 (y2.alloc (.cells #[.slice (some ⟨gn,0,none⟩) m cn] 105))/\Kept (fun b=>b≠sb/\(Value.slice ga gm gc).ownBlock≠some b) z2 y2/\∃ gb2 cp2 os2,BegS W0 f ts q X room w vb sb (k+1) (cutN ts q room (k+1)) (.slice pa pm pc) gb2 cp2 os2 bt (y4.setCell ⟨sb,13,none⟩ (.slice pa pm pc))):=fun y2 gn cn hb2 hg1 hg2 hc1 hc2 hG=>by
    have hbk2:=hbk.keep (Kept.of_below (s:=fun b=>b<z2.heap.size) hb2 (fun _ h _=>h)) hbk.lt;have hown2:=own_below HB2.out.own hb2;obtain⟨v',y4,hr4,ho4,hk4,⟨pa,pm,pc,rfl⟩,hat4⟩:=push_groupL y2 w.heap.size (.slice ga gm gc) k _ hown2 (by omega) (Nat.le_trans HB2.out.old.size hb2.size) (some ⟨gn,0,none⟩) m cn 82;have hkz:Kept (fun b=>b≠sb/\(Value.slice ga gm gc).ownBlock≠some b) z2 y2:=Kept.of_below hb2 (fun _ h _=>h);have hk4':Kept (fun b=>b≠sb/\(Value.slice ga gm gc).ownBlock≠some b) y2 y4:=hk4.mono fun b _ hb=>hb.2
    have hbk4:=hbk2.keep hk4 hn2.1;have hks:Kept (fun b=>b≠sb) y4 (y4.setCell ⟨sb,13,none⟩ (.slice pa pm pc)):=Kept.setCell _ _ _ (fun h=>h rfl);refine⟨hbk2.cell 13,(hbk2.keep (Kept.alloc (s:=fun _=>True) _ _) trivial).cell 13,pa,pm,pc,y4,hr4,hbk4.cell 13,hbk4.frozen 13,hkz.trans hk4',hkz.trans (Kept.alloc _ _),hkz,_,_,_,HB2.out.push (Below.refl _ _) hb2 hG ⟨hg1,hg2⟩ (by rw[HNL.out]; exact⟨hc1,hc2⟩) (ownsRow_keep (by rw[HNL.out]; exact ho4) hks (fun g e e2=>own_not ho4 hbk4 (by decide) (e2 ▸ e))) (hk4'.trans (hks.mono fun b _ hb=>hb.1)) hat4 ?_⟩;have:=hbk4.set 13 (.slice pa pm pc);rw[HFC.out];exact this
   go_wp2_with fail;refine wp_via (J:=fun e a y=>e=.normal/\∃ s37 s38 s39 s40 s41 s42 s43 s44 s45 s46 s47 s48 s49 s50 s51 s52,a = { tmps:=#[.agg #[v0,v1,v2,v3,v4,v5,v6,v7,(.int .u64 (SN:Int)),v9,v10,v11,v12],.int .i64 (room:Int),.pointer (some ⟨w.heap.size,0,none⟩),undef,.pointer none,.pointer (some ⟨vb,0,none⟩),.int .i64 (k:Int),.slice (some ⟨ob,0,none⟩) ol.length oc,undef,.agg #[v0,v1,v2,v3,v4,v5,v6,v7,(.int .u64 (SN:Int)),v9,v10,v11,v12],.agg #[v0,v1,v2,v3,v4,v5,v6,v7,(.int .u64 (SN:Int)),v9,v10,v11,v12],.pointer (some ⟨bt,0,none⟩),.agg #[v0,v1,v2,v3,v4,v5,v6,v7,(.int .u64 (SN:Int)),v9,v10,v11,v12,.slice none 0 0,.slice none 0 0,.bool false,.pointer (some ⟨bt,0,none⟩),.slice none 0 0,.int .i64 1],.pointer (some ⟨sb,0,none⟩),.pointer (some ⟨w.heap.size,8,none⟩),.int .u64 (SN:Int),.int .i64 (SN:Int),.int .i64 (k:Int),.bool true,.int .i64 (k:Int),.agg #[v0,v1,v2,v3,v4,v5,v6,v7,(.int .u64 (SN:Int)),v9,v10,v11,v12],.int .i64 (k:Int),.int .u64 (k:Int),.slice (some ⟨ob,0,none⟩) ol.length oc,t24,t25,t26,t27,t28,t29,t30,t31,t32,t33,t34,t35,t36,s37,s38,s39,s40,s41,s42,s43,s44,s45,s46,s47,s48,s49,s50,s51,s52,u53,undef,undef,undef,undef,undef,undef,undef,undef,undef,undef,undef,undef,undef,undef],defers:=[] }/\∃ gv gb cp os,BegS W0 f ts q X room w vb sb (k+1) (cutN ts q room (k+1)) gv gb cp os bt y) ?r7 ?rest7
   case r7=>
    have hS31c:k<1000:=by omega
    clear hcz hoz hm hB2 hk12 hsbl;refine wp_region_held_drew (S:=fun x=>Kept (fun b=>b≠sb/\(Value.slice ga gm gc).ownBlock≠some b) z2 x) (by kernel_rfl) (Kept.of_below ((Below.refl _ _).drew) (fun _ h _=>h)) (fun hS=>?_);refine wN 0 (.pointer (some ⟨sb,0,none⟩)) hS (fun x hx=>?_) ?_
    ·have e0:=cell_keepP hx hv hvs;go_simp
    refine wN 1 (.pointer (some ⟨sb,0,none⟩)) hS (fun x hx=>?_) ?_
    ·have e0:=cell_keepP hx hv hvs;go_simp
    refine wN 2 (.pointer (some ⟨sb,0,none⟩)) hS (fun x hx=>?_) ?_
    ·go_simp
    refine wN 3 (.pointer (some ⟨sb,13,none⟩)) hS (fun x hx=>?_) ?_
    ·go_simp
    refine wN 5 (.slice (some ⟨ob,0,none⟩) ol.length oc) hS (fun x hx=>?_) ?_
    ·go_simp
    refine wN 6 (.int .i64 (room:Int)) hS (fun x hx=>?_) ?_
    ·go_simp
    refine wN 7 (.slice (some ⟨ob,0,none⟩) ol.length oc) hS (fun x hx=>?_) ?_
    ·go_simp
    refine wN 8 (.int .i64 (ol.length:Int)) hS (fun x hx=>?_) ?_
    ·go_simp
    refine wN 9 (.int .i64 (m:Int)) hS (fun x hx=>?_) ?_
    ·obtain⟨e1,e2⟩:=HMI.out;clear hm1 HMI hS hol;go_simp
    refine wN 10 (.slice (some ⟨ob,0,none⟩) m oc) hS (fun x hx=>?_) ?_
    ·have hmo:¬ oc<m:=by omega
     go_simp
    refine wpAnyH_ready (rs:=[4,11]) (by kernel_rfl) (by simp) ?_;refine AllReadyH.cons rfl (fun K hK=>?_) (AllReadyH.cons rfl (fun K hK=>?_) AllReadyH.nil)
    ·skip;go_simp;refine hK.out _ _ hS (fun hS=>?_);clear hK K;refine wR 11 fun K hK=>?_
     go_simp;refine Calls.mono (HNG.out _ ((Below.refl _ _).drew)) ?_;rintro e y2 ⟨gn,cn,rfl,hg1,hg2,hcn1,hcn2,hGR,hbc⟩;obtain⟨hx2,hxa,pa,pm,pc,y4,hr4,hc4,hf4,hk4,hka,hk2,gb2,cp2,os2,hBS⟩:=HPU.out y2 gn cn (bQ1 ((Below.refl _ _).drew) hbc) hg1 hg2 hcn1 hcn2 hGR;have HBS:Hid (BegS W0 f ts q X room w vb sb (k+1) (cutN ts q room (k+1)) (.slice pa pm pc) gb2 cp2 os2 bt (y4.setCell ⟨sb,13,none⟩ (.slice pa pm pc))):=hBS;clear hBS hGR;refine hK.out _ _ hk2 (fun hS=>?_);clear hK K;refine wR 12 fun K hK=>?_
     go_simp;refine hK.out _ _ (hka) (fun hS=>?_);clear hK K;refine wR 13 fun K hK=>?_
     refine step_append (by rfl) _ _ _ (by rfl) (.slice ga gm gc) (.slice (some ⟨y2.heap.size,0,none⟩) 1 1) (.slice pa pm pc) y4 (by rfl) (by rfl) hr4 ?_;refine hK.out _ _ (hk4) (fun hS=>?_);clear hK K;clear hr4 hx2 hxa;refine wN 14 (.pointer (some ⟨sb,0,none⟩)) hS (fun x hx=>?_) ?_
     ·go_simp
     refine wN 15 (.pointer (some ⟨sb,13,none⟩)) hS (fun x hx=>?_) ?_
     ·go_simp
     refine wR 16 fun K hK=>?_
     go_simp;refine hK.out _ _ (hk4.trans (Kept.setCell _ _ _ (fun h=>h.1 rfl))) (fun hS=>?_);clear hK K;refine wpAnyH_done (by kernel_rfl) ?_ _
     try simp only[Act.put,List.getElem_toArray,List.getElem_cons_succ,List.getElem_cons_zero,List.setIfInBounds_toArray,List.set_cons_succ,List.set_cons_zero]
     exact⟨by trivial,_,_,_,_,_,_,_,_,_,_,_,_,_,_,_,_,rfl,_,_,_,_,HBS.out⟩
    ·skip;go_simp;refine Calls.mono (HNG.out _ ((Below.refl _ _).drew)) ?_;rintro e y2 ⟨gn,cn,rfl,hg1,hg2,hcn1,hcn2,hGR,hbc⟩;obtain⟨hx2,hxa,pa,pm,pc,y4,hr4,hc4,hf4,hk4,hka,hk2,gb2,cp2,os2,hBS⟩:=HPU.out y2 gn cn (bQ1 ((Below.refl _ _).drew) hbc) hg1 hg2 hcn1 hcn2 hGR;have HBS:Hid (BegS W0 f ts q X room w vb sb (k+1) (cutN ts q room (k+1)) (.slice pa pm pc) gb2 cp2 os2 bt (y4.setCell ⟨sb,13,none⟩ (.slice pa pm pc))):=hBS;clear hBS hGR;refine hK.out _ _ hk2 (fun hS=>?_);clear hK K;refine wpAnyH_ready (rs:=[4,12]) (by kernel_rfl) (by simp) ?_;refine AllReadyH.cons rfl (fun K hK=>?_) (AllReadyH.cons rfl (fun K hK=>?_) AllReadyH.nil)
     ·skip;go_simp;refine hK.out _ _ hS (fun hS=>?_);clear hK K;refine wR 12 fun K hK=>?_
      go_simp;refine hK.out _ _ (hka) (fun hS=>?_);clear hK K;refine wR 13 fun K hK=>?_
      refine step_append (by rfl) _ _ _ (by rfl) (.slice ga gm gc) (.slice (some ⟨y2.heap.size,0,none⟩) 1 1) (.slice pa pm pc) y4 (by rfl) (by rfl) hr4 ?_;refine hK.out _ _ (hk4) (fun hS=>?_);clear hK K;clear hr4 hx2 hxa;refine wN 14 (.pointer (some ⟨sb,0,none⟩)) hS (fun x hx=>?_) ?_
      ·go_simp
      refine wN 15 (.pointer (some ⟨sb,13,none⟩)) hS (fun x hx=>?_) ?_
      ·go_simp
      refine wR 16 fun K hK=>?_
      go_simp;refine hK.out _ _ (hk4.trans (Kept.setCell _ _ _ (fun h=>h.1 rfl))) (fun hS=>?_);clear hK K;refine wpAnyH_done (by kernel_rfl) ?_ _
      try simp only[Act.put,List.getElem_toArray,List.getElem_cons_succ,List.getElem_cons_zero,List.setIfInBounds_toArray,List.set_cons_succ,List.set_cons_zero]
      exact⟨by trivial,_,_,_,_,_,_,_,_,_,_,_,_,_,_,_,_,rfl,_,_,_,_,HBS.out⟩
     ·skip;go_simp;refine hK.out _ _ hka (fun hS=>?_);clear hK K;refine wR 4 fun K hK=>?_
      go_simp;refine hK.out _ _ (hS) (fun hS=>?_);clear hK K;refine wR 13 fun K hK=>?_
      refine step_append (by rfl) _ _ _ (by rfl) (.slice ga gm gc) (.slice (some ⟨y2.heap.size,0,none⟩) 1 1) (.slice pa pm pc) y4 (by rfl) (by rfl) hr4 ?_;refine hK.out _ _ (hk4) (fun hS=>?_);clear hK K;clear hr4 hx2 hxa;refine wN 14 (.pointer (some ⟨sb,0,none⟩)) hS (fun x hx=>?_) ?_
      ·go_simp
      refine wN 15 (.pointer (some ⟨sb,13,none⟩)) hS (fun x hx=>?_) ?_
      ·go_simp
      refine wR 16 fun K hK=>?_
      go_simp;refine hK.out _ _ (hk4.trans (Kept.setCell _ _ _ (fun h=>h.1 rfl))) (fun hS=>?_);clear hK K;refine wpAnyH_done (by kernel_rfl) ?_ _
      try simp only[Act.put,List.getElem_toArray,List.getElem_cons_succ,List.getElem_cons_zero,List.setIfInBounds_toArray,List.set_cons_succ,List.set_cons_zero]
      exact⟨by trivial,_,_,_,_,_,_,_,_,_,_,_,_,_,_,_,_,rfl,_,_,_,_,HBS.out⟩
   rintro e a z3 ⟨rfl,s37,s38,s39,s40,s41,s42,s43,s44,s45,s46,s47,s48,s49,s50,s51,s52,rfl,hJ⟩;have HJ3:Hid (∃ gv gb cp os,BegS W0 f ts q X room w vb sb (k+1) (cutN ts q room (k+1)) gv gb cp os bt z3):=hJ;clear hJ hv hbk hc13 hvs hn2 hcz hoz hB2 hk12 HB2 HB HB1k HPU HNG;go_wp2;go_roundw
   case rel=>exact⟨k+1,by omega,by go_num,HJ3.out⟩
   case measure=>simp[intOf]; omega
  ·obtain⟨gv,gb,cp,os,hB⟩:=HJ.out;have hkS:k=SN:=by omega
   have hff:=hB.fbg;rw[HFC.out] at hff;have hc8:wr.cell? ⟨w.heap.size,8,none⟩=some (.int .u64 (SN:Int)):=hff.cell 8;have HKS:Hid (k=SN):=hkS;have HB:Hid (BegS W0 f ts q X room w vb sb k (cutN ts q room k) gv gb cp os bt wr):=hB;clear hB hff HJ hkS;go_wp2;obtain⟨L,hLa,hLp,hA⟩:=HB.out.search (by have:=HKS.out; omega);have HA:Hid _:=hA;have HLA:Hid (L.av=.slice none 0 0/\L.pv=.slice none 0 0):=⟨hLa,hLp⟩
   clear hA hLa hLp hc8;have HBL:Hid (GB wr sb 87 (#[v0,v1,v2,v3,v4,v5,v6,v7,(.int .u64 (SN:Int)),v9,v10,v11,v12,gv,.slice none 0 0,.bool (cutN ts q room k),.pointer (some ⟨bt,0,none⟩),.slice none 0 0,.int .i64 1].setIfInBounds 14 (.slice none 0 0))):=by
    have:=HB.out.blk;rw[HFC.out] at this;exact this
   obtain⟨arr,harr⟩:∃ a:Array Value,a=#[v0,v1,v2,v3,v4,v5,v6,v7,(.int .u64 (SN:Int)),v9,v10,v11,v12,gv,.slice none 0 0,.bool (cutN ts q room k),.pointer (some ⟨bt,0,none⟩),.slice none 0 0,.int .i64 1]:=⟨_,rfl⟩
   have HARR:Hid _:=harr;rw[<- harr] at HBL;clear harr;have HV:Hid (wr.cell? ⟨vb,0,none⟩=some (.pointer (some ⟨sb,0,none⟩))/\vb<wr.heap.size/\vb≠sb/\sb<wr.heap.size/\w.heap.size<=sb/\W0.heap.size<=wr.heap.size):=⟨HB.out.var.cell 0,HB.out.var.lt,HB.out.sbl.2.2,HB.out.blk.lt,by have:=HB.out.sbl.1; omega,HB.out.hz.below.size⟩
   have HOL:Hid (Below w.heap.size w wr):=HB.out.old;have HSZ:Hid (arr.size=19):=by show _=_; rw[HARR.out]; rfl
   have HRS:Hid (risingN SN=List.range q.src.xs.length):=HRG.out;refine (wpIn_wide (n:=0)).1 (wp_rangeB numEl (gf:=42) (s:=.int .u64 (SN:Int)) rfl (enters_of Tryz.func42 (by kernel_rfl) rfl) (HSQ.out w) HOL.out rfl (fun pre o1 W=>BoxA wr sb W0.heap.size arr pre o1 W) (fun b=>b=sb) ?_ ?_ ⟨⟨.slice none 0 0,HBL.out,World.ownsRow_nil _ _ _ _,fun b=>by simp[Value.ownBlock],fun b e=>by cases e⟩,Kept.refl _ _⟩ (fun x=>{ tmps:=#[.agg #[v0,v1,v2,v3,v4,v5,v6,v7,(.int .u64 (SN:Int)),v9,v10,v11,v12],.int .i64 (room:Int),.pointer (some ⟨w.heap.size,0,none⟩),undef,.pointer none,.pointer (some ⟨vb,0,none⟩),u6,u7,.int .i64 (x:Int),.agg #[v0,v1,v2,v3,v4,v5,v6,v7,(.int .u64 (SN:Int)),v9,v10,v11,v12],.agg #[v0,v1,v2,v3,v4,v5,v6,v7,(.int .u64 (SN:Int)),v9,v10,v11,v12],.pointer (some ⟨bt,0,none⟩),.agg #[v0,v1,v2,v3,v4,v5,v6,v7,(.int .u64 (SN:Int)),v9,v10,v11,v12,.slice none 0 0,.slice none 0 0,.bool false,.pointer (some ⟨bt,0,none⟩),.slice none 0 0,.int .i64 1],.pointer (some ⟨sb,0,none⟩),.pointer (some ⟨w.heap.size,8,none⟩),.int .u64 (SN:Int),.int .i64 (SN:Int),.int .i64 (k:Int),.bool false,u19,u20,u21,u22,u23,u24,u25,u26,u27,u28,u29,u30,u31,u32,u33,u34,u35,u36,u37,u38,u39,u40,u41,u42,u43,u44,u45,u46,u47,u48,u49,u50,u51,u52,u53,.pointer (some ⟨w.heap.size,8,none⟩),.int .u64 (SN:Int),.func (.func 42) #[.int .u64 (SN:Int)] #[],.int .i64 (x:Int),undef,undef,undef,undef,undef,undef,undef,undef,undef,undef],defers:=[] }) ?assign ?body ?done)
   ·rintro b rfl;exact⟨HV.out.2.2.2.2.1,HV.out.2.2.2.1⟩
   ·intro pre o1 A B h hk;exact h.keep hk
   case assign=>
    intro l x W K hK;have he:numEl.enc x=.int .i64 (x:Int):=rfl
    gi_wp2
    exact hK
   case body=>
    intro l pre x o1 W hI hpre hx hoff hsz;have hx5:x<5:=by
     have h0:x∈risingN SN:=prefix_mem (by simpa [numEl] using hpre);rw[HRS.out] at h0;have:=List.mem_range.1 h0;omega
    have hp5:pre.length<=5:=by
     have h0:=hpre.length_le;rw[HRS.out,List.length_map,List.length_append,List.length_range] at h0;simp at h0;omega
    have hpx:∀ y∈pre,y<5:=fun y hy=>by
     have h0:y∈risingN SN:=by
      have:=hpre.subset (List.mem_map.2 ⟨y,List.mem_append_left _ hy,rfl⟩);exact this
     rw[HRS.out] at h0;have:=List.mem_range.1 h0;omega
    obtain⟨⟨av,hgb,hown,hio,hfr⟩,hkw⟩:=hI;have hvs:vb≠sb/\av.ownBlock≠some vb:=⟨HV.out.2.2.1,fun e=>by have:=hfr _ e; have:=HV.out.2.1; omega⟩
    have hv:W.cell? ⟨vb,0,none⟩=some (.pointer (some ⟨sb,0,none⟩)):=cell_keepP hkw HV.out.1 hvs.1;have hx32:2 ^ x<32:=by
     have:2 ^ x<2 ^ 5:=Nat.pow_lt_pow_right (by omega) hx5;omega
    have HAD:Hid (∀ (y:World) (tb:Nat),Below W.heap.size W y->W.heap.size<=tb->y.cell? ⟨tb,0,none⟩=some (.int .u64 ((2 ^ x:Nat):Int))->y.cell? ⟨tb,1,none⟩=some (.int .u64 0)->Calls Tryz.prog 43 #[.pointer (some ⟨sb,14,none⟩),.slice (some ⟨tb,0,none⟩) 1 1] y fun e w'=>(∃ v,e=.returned v)/\Kept (fun b=>b≠sb/\av.ownBlock≠some b) W w'/\∃ o2,BoxA wr sb W0.heap.size arr (pre++[x]) o2 w'/\Kept (fun b=>¬ o1 b) W w'/\∀ b,o2 b->o1 b∨(W.heap.size<=b/\b<w'.heap.size)):=fun y tb hy ht c0 c1=>by
     have hky:Kept (fun b=>b<W.heap.size) W y:=Kept.of_below hy (fun _ h _=>h);have hgy:=hgb.keep hky hgb.lt;have h14:(arr.setIfInBounds 14 av)[14]? = some av:=by rw[Array.getElem?_setIfInBounds_self]; rw[if_pos (by rw[HSZ.out]; omega)]
     have:=addT_any sb W0.heap.size _ av (agN pre) [(2 ^ x,0)] (some ⟨tb,0,none⟩) 1 y hgy h14 (own_below hown hy) (by have:=HV.out; have:=hkw.size; have:=hy.size; omega) ⟨by simp,fun i hi=>⟨tb,0,rfl,by
      have hi0:i=0:=by simpa using hi
      subst hi0;exact⟨c0,c1⟩⟩⟩ (fun a e=>by
      injection e with e;rw[<- e];refine⟨?_,fun e2=>?_⟩
      ·have:=hgb.lt
       show tb≠sb
       omega
      ·have h3:=(ownsRow_lt hown e2).2;have h4:tb<W.heap.size:=h3;omega) (by have:=(agN_ok pre hpx).2; simp only[List.length_cons,List.length_nil]; omega) (agN_ok pre hpx).1 (fun a ha=>by
      rw[List.mem_singleton] at ha;rw[ha];exact⟨hx32,by show 0<32; omega⟩)
     refine this.mono ?_;rintro e w3 ⟨hv3,av3,g3,o3,k3,t3⟩;have hkW:Kept (fun b=>b≠sb/\av.ownBlock≠some b) W w3:=(Kept.of_below (s:=fun b=>b≠sb/\av.ownBlock≠some b) hy (fun _ h _=>h)).trans k3;rw[Array.setIfInBounds_setIfInBounds] at g3;refine⟨hv3,hkW,fun b=>b=sb∨av3.ownBlock=some b,⟨⟨av3,g3,by rw[agN_snoc]; exact o3,fun b=>Iff.rfl,fun b e=>?_⟩,hkw.trans' hkW (fun b hl hb=>⟨hb,fun e=>by have:=hfr b e; omega⟩)⟩,hkW.mono fun b _ hb=>⟨fun e=>hb ((hio b).2 (.inl e)),fun e=>hb ((hio b).2 (.inr e))⟩,?_⟩
     ·rcases t3 with t3 | ⟨g,t3,hg⟩
      ·exact hfr b (t3 ▸ e)
      ·rw[t3] at e;injection e with e;have:=hkw.size;have:=hy.size;omega
     ·rintro b (rfl | hb)
      ·exact .inl ((hio _).2 (.inl rfl))
      ·rcases t3 with t3 | ⟨g,t3,hg⟩
       ·exact .inl ((hio b).2 (.inr (t3 ▸ hb)))
       ·have h5:=(ownsRow_lt o3 hb).2;rw[t3] at hb;injection hb with hb;have:=hy.size;exact .inr ⟨by omega,h5⟩
    clear hoff hsz hx hpre hgb hown hio hfr hkw hpx hp5
    gi_wp2_with fail
    refine roundIn_held (S:=fun x=>Kept (fun b=>b≠sb/\av.ownBlock≠some b) W x) (by kernel_rfl) (by kernel_rfl) (fun ⟨_,_,h⟩=>h) ?_;have hS:Kept (fun b=>b≠sb/\av.ownBlock≠some b) W W.drew:=Kept.of_below ((Below.refl _ _).drew) (fun _ h _=>h);refine wT 0 (.pointer (some ⟨sb,0,none⟩)) hS (fun x hx=>?_) ?_
    ·have e0:=cell_keepP hx hv hvs;go_simp
    refine wT 1 (.pointer (some ⟨sb,0,none⟩)) hS (fun x hx=>?_) ?_
    ·go_simp
    refine wT 2 (.pointer (some ⟨sb,14,none⟩)) hS (fun x hx=>?_) ?_
    ·go_simp
    refine wT 3 (.int .i64 (x:Int)) hS (fun x hx=>?_) ?_
    ·go_simp
    refine wR 4 fun K hK=>?_
    go_simp;refine hK.out _ _ (hS.trans (Kept.alloc _ _)) (fun hS=>?_);clear hK K;refine wR 5 fun K hK=>?_
    go_simp;refine Calls.mono (setOf_one W.heap.size x _ (by simp) (by omega)) ?_;rintro e y5 ⟨rfl,rfl⟩;refine hK.out _ _ hS (fun hS=>?_);clear hK K;refine wT 6 (.agg #[.int .u64 ((2 ^ x:Nat):Int),.int .u64 0]) hS (fun x hx=>?_) ?_
    ·go_simp
    refine wR 7 fun K hK=>?_
    go_simp;refine hK.out _ _ (hS.trans (Kept.alloc _ _)) (fun hS=>?_);clear hK K;refine wR 8 fun K hK=>?_
    go_simp;refine Calls.mono (HAD.out _ _ (bel2 W _ _) (by simp) (by simp) (by simp)) ?_;rintro e w3 ⟨⟨v,rfl⟩,hk3,o2,hBx,hkk,ho2⟩;refine hK.out _ _ hk3 (fun hS=>?_);clear hK K;refine wpAnyH_done (by kernel_rfl) ?_ _
    try simp only[Act.put,List.getElem_toArray,List.getElem_cons_succ,List.getElem_cons_zero,List.setIfInBounds_toArray,List.set_cons_succ,List.set_cons_zero]
    exact⟨o2,hBx,hkk,fun b hb=>(ho2 b hb).elim .inl (fun h=>.inr (.inl h))⟩
   case done=>
    rintro ys o1 W hys hI hk2 hg2 hD;have hyy:ys=risingN SN:=by simpa [numEl] using hys
    rw[HRS.out] at hyy;subst hyy;obtain⟨⟨av,hgb,hown,hio,hfr⟩,hkw⟩:=hI;have hv:W.cell? ⟨vb,0,none⟩=some (.pointer (some ⟨sb,0,none⟩)):=cell_keepP hkw HV.out.1 HV.out.2.2.1;have hnD:¬ o1 wr.heap.size:=fun h=>by
     rcases hg2 _ h with h | h
     ·have:=HV.out.2.2.2.1;have h9:wr.heap.size=sb:=h;omega
     ·omega
    have hkp:=Kept.putObj (s:=fun b=>o1 b∨b<wr.heap.size) W (r:=wr.heap.size) (.deferred none) (by
     rintro (h | h)
     ·exact hnD h
     ·omega)
    have HD:Hid _:=hD;have HFIN:Hid (∃ L M,SeAt W0 f ts q (fun b=>X b∨M b) M (W.putObj wr.heap.size (.deferred none)) sb L (beginN rkN ts q room)/\(∀ b,M b->w.heap.size<=b)/\Below w.heap.size w (W.putObj wr.heap.size (.deferred none))):=by
     have hgb2:=hgb.keep hkp (.inl ((hio _).2 (.inl rfl)));have hown2:=ownsRow_keep hown hkp (fun g hg=>.inl ((hio g).2 (.inr hg)));have hkf:=hkw.trans' hkp (fun b hl _=>.inr hl);have eA:=GB.inj HA.out.blk HBL.out;obtain⟨X2,M2,hA2,hk9,g1,g2,g3⟩:=HA.out.next (hkf.mono fun b _ hb=>hb.1) (av:=av) (pv:=L.pv) (ag:=agN (List.range q.src.xs.length)) (pk:=[]) (st:=1) (by
      have e:f.cells ts q++tailC { L with av:=av,pv:=L.pv } ⟨(List.range k).map fun s=>newGr (unN ts q room s),agN (List.range q.src.xs.length),cutN ts q room k,plainT ts q,[],1⟩=arr.setIfInBounds 14 av:=by
       have h1:=set14 f ts q L ⟨(List.range k).map fun s=>newGr (unN ts q room s),[],cutN ts q room k,plainT ts q,[],1⟩ av;rw[eA,Array.setIfInBounds_setIfInBounds] at h1;exact h1.symm
      exact e ▸ hgb2) hown2 (by
      cases h:av.ownBlock with
      | none => exact .inl (by rw[HLA.out.1]; rfl)
      | some g => exact .inr ⟨g,rfl,hfr g h⟩) (by rw[HLA.out.2]; exact World.ownsRow_nil _ _ _ _) (.inl rfl)
     have eX:X2=fun b=>X b∨M2 b:=funext fun b=>propext ((g3 b).trans ⟨fun h=>by
      rcases h with (h | h) | h
      ·exact .inl h
      ·exact .inr (g1 b h)
      ·exact .inr h,fun h=>by
      rcases h with h | h
      ·exact .inl (.inl h)
      ·exact .inr h⟩)
     have eB:beginN rkN ts q room=⟨(List.range k).map fun s=>newGr (unN ts q room s),agN (List.range q.src.xs.length),cutN ts q room k,plainT ts q,[],1⟩:=by
      rw[HKS.out,HSN.out];rfl
     refine⟨_,M2,by rw[eB,<- eX]; exact hA2,fun b hb=>?_,HOL.out.trans (hkf.below HOL.out.size fun b hb=>by have:=HV.out.2.2.2.2.1; omega)⟩;rcases g2 b hb with (h | ⟨j,hj,h⟩) | h
     ·rw[h]; exact HV.out.2.2.2.2.1
     ·rw[h]; exact (HB.out.grp j hj).2.1
     ·exact Nat.le_trans HOL.out.size h
    clear hgb hown hio hfr hkw hkp hnD hg2 hk2 hys;go_wp2;obtain⟨L2,M2,q1,q2,q3⟩:=HFIN.out;refine⟨by simp,.inl ⟨_,_,rfl,run_takeDeferred HD.out,?_⟩⟩;exact⟨_,results_tmp rfl _ _ _,sb,L2,M2,rfl,q1,q2,q3⟩
end Go.Proofs.YtlpbelhfpoilpabGreatDoor
