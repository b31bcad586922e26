import Derived.Test.YtlpbelhfpoilpaaGreatDoorRE18
import Derived.Test.YtlpbelhfpoilpaaGreatDoorRE27
import Derived.Test.YtlpbelhfpoilpaaGreatDoorRE40
set_option linter.all false
set_option maxRecDepth 100000
set_option maxHeartbeats 16000000
namespace Go.Proofs.Zz
open Go.RowKit Go.Shelf
variable {W0 w:World} {f:au} {ts:List af} {q:ae} {X:Nat->Prop}
section
attribute [local go_sem] Oper.semAt_some
def UY(pre:List Nat):List bG:=pre.foldl (fun a (i:Nat)=>jl bA a (2 ^ i,0)) []
theorem aah(pre:List Nat)(x:Nat):UY (pre++[x])=[(2 ^ x,0)].foldl (jl bA) (UY pre):=by
 unfold UY;rw[QZ];rfl
theorem aai(pre:List Nat)(h:∀ y∈pre,y<5):(∀ a∈UY pre,a.1<32/\a.2<32)/\(UY pre).length<=pre.length:=by
 have e:UY pre=(pre.map fun i=>((2 ^ i,0):bG)).foldl (jl bA) []:=by
  unfold UY;rw[List.foldl_map]
 have:=Hm (rk:=bA) (pre.map fun i=>((2 ^ i,0):bG)) [] (fun a ha=>by cases ha) (fun a ha=>by
  obtain⟨y,hy,rfl⟩:=Zi.1 ha;have:2 ^ y<2 ^ 5:=Xi (by omega) (h y hy);exact⟨by show 2 ^ y<32; omega,by show 0<32; omega⟩)
 rw[e];exact⟨this.1,by have:=this.2; simpa using this⟩
theorem Pn{n:Nat}(h:n<=5):aR (2 ^ n-1)=List.range n:=by
 have:n=0∨n=1∨n=2∨n=3∨n=4∨n=5:=by omega
 rcases this with rfl | rfl | rfl | rfl | rfl | rfl <;> rfl
structure aaj(wr:World)(sb base:Nat)(arr:Array Value)(pre:List Nat)(o1:Nat->Prop)(W:World):Prop where
 ex:∃ av,GB W sb 174 (arr.setIfInBounds 14 av)/\W.ownsRow base 236 2 av (UY pre).length ((UY pre).flatMap dN)/\(∀ b,o1 b↔b=sb∨av.ownBlock=some b)/\(∀ b,av.ownBlock=some b->wr.heap.size<=b)
 kept:Kept (fun b=>b≠sb) wr W
theorem aaj.keep{wr:World}{sb base:Nat}{arr:Array Value}{pre:List Nat}{o1:Nat->Prop}{A B:World}(h:aaj wr sb base arr pre o1 A)(hk:Kept (fun b=>o1 b∨b<wr.heap.size) A B):aaj wr sb base arr pre o1 B:=by
 obtain⟨av,hg,ho,hi,hf⟩:=h.ex;exact⟨⟨av,hg.keep hk (.inl ((hi _).2 (.inl rfl))),ZN ho hk (fun g hg=>.inl ((hi g).2 (.inr hg))),hi,hf⟩,h.kept.trans' hk (fun b hl _=>.inr hl)⟩
theorem GB.inj{G:Nat}{t t':TypeId}{c c':Array Value}(h:GB w G t c)(h':GB w G t' c'):c=c':=by
 have e1:w.heap[G]? = some (.cells c t (0,0)):=h;have e2:w.heap[G]? = some (.cells c' t' (0,0)):=h';rw[e1]at e2;injection e2 with e2;injection e2
theorem ar9(W:World)(o1 o2:Obj):Bw W ((W.drew.alloc o1).alloc o2):=((Qw _ _).drew.alloc (Qx _) o1).alloc (by simp) o2
theorem jY.start(room:Nat)(hz:Fz (fun b=>¬ X b) W0 w){vb sb bt:Nat}(gb cp:Nat->Nat)(os:Nat->List ah){y:World}(hb:Bw w y)(hl:w.heap.size<sb/\w.heap.size<vb/\vb≠sb)(h1:GB y w.heap.size 90 (f.cells ts q))(h2:GB y vb 122 #[.pointer (some ⟨sb,0,none⟩)])(h3:GB y sb 174 (f.cells ts q++Ld (.slice none 0 0) false bt))(h4:aG 178 (fun b=>¬ X b/\b≠sb) y bt (fQ ts q)):jY W0 f ts q X room w vb sb 0 (jX ts q room 0) (.slice none 0 0) gb cp os bt y:=
 ⟨hz.next hb,hb,hz.below.size,fun b hx=>Nat.lt_of_not_le fun hl=>hz.high b hl hx,hl,h1,h2,h3,ZV _ _ _ _,fun j hj=>absurd hj (Nat.not_lt_zero _),fun i j hi=>absurd hi (Nat.not_lt_zero _),h4.mono fun b _ hb=>⟨hb.1,hb.2,(fun e=>by cases e),fun j hj=>absurd hj (Nat.not_lt_zero _)⟩⟩
theorem UZ(E:Env f ts q W0)(hz:Fz (fun b=>¬ X b) W0 w)(room:Nat)(h1:1<=room)(h2:room<=1000) :
  Calls Tryz.prog 107 #[.agg (f.cells ts q),.int .i64 (room:Int)] w fun e w'=>∃ sb L M,e=.returned (.pointer (some ⟨sb,0,none⟩))/\dQ W0 f ts q (fun b=>X b∨M b) M w' sb L (fA bA ts q room)/\(∀ b,M b->w.heap.size<=b)/\Bw w w':=by
 obtain⟨v0,v1,v2,v3,v4,v5,v6,v7,v8,v9,v10,v11,v12,bB,-,-,-,-,-,-,-,-,hv8,-⟩:=Xu f ts q;subst hv8;have hsn:=E.five;have asa:=E.one;have Be:Hid (∀ x (F:Nat->Prop),Fz F W0 x->Calls Tryz.prog 159 #[.agg #[v0,v1,v2,v3,v4,v5,v6,v7,.int .u64 ((2 ^ q.src.xs.length-1:Nat):Int),v9,v10,v11,v12]] x (bR 178 F x (fQ ts q))):=fun x F hx=>by
  rw[<- bB];exact Hr E hx
 have HUO:Hid (∀ x (F:Nat->Prop) (k:Nat),Fz F W0 x->k<18446744073709551616->Calls Tryz.prog 160 #[.agg #[v0,v1,v2,v3,v4,v5,v6,v7,.int .u64 ((2 ^ q.src.xs.length-1:Nat):Int),v9,v10,v11,v12],.int .u64 (k:Int)] x fun e w'=>∃ v os,e=.returned v/\iI 23 F x.heap.size w' v os/\os.map ah.xs=dU ts q k/\Bw x w'):=fun x F k hx hk=>by
  rw[<- bB];exact zB E hx k hk
 have HUK:Hid (∀ k,(dU ts q k).length<=18/\0<(dU ts q k).length):=fun k=>by
  obtain⟨⟨r,hr⟩,hl⟩:=CQ ts q k E.eight;exact⟨hl,by rw[hr]; simp⟩
 obtain⟨SN,hSN⟩:∃ n:Nat,n=2 ^ q.src.xs.length-1:=⟨_,rfl⟩
 have asb:SN<=31/\1<=SN:=by
  have h5:2 ^ q.src.xs.length<=2 ^ 5:=Q7 (by omega) hsn;have h1:2 ^ 1<=2 ^ q.src.xs.length:=Q7 (by omega) asa;omega
 have HSQ:=Zh (qK SN (by omega));rw[<- hSN]at bB Be HUO;have HSN:=Zh hSN;have HRG:Hid (aR SN=List.range q.src.xs.length):=by show _=_; rw[hSN]; exact Pn hsn
 have HZ:=Zh hz;obtain⟨w1,hw1,hb1,hg1⟩:=aU w #[v0,v1,v2,v3,v4,v5,v6,v7,(.int .u64 (SN:Int)),v9,v10,v11,v12] 90;have a0:w1.cell? ⟨w.heap.size,0,none⟩=some v0:=hg1.cell 0;have a1:w1.cell? ⟨w.heap.size,1,none⟩=some v1:=hg1.cell 1;have a2:w1.cell? ⟨w.heap.size,2,none⟩=some v2:=hg1.cell 2;have a3:w1.cell? ⟨w.heap.size,3,none⟩=some v3:=hg1.cell 3;have a4:w1.cell? ⟨w.heap.size,4,none⟩=some v4:=hg1.cell 4;have a5:w1.cell? ⟨w.heap.size,5,none⟩=some v5:=hg1.cell 5;have a6:w1.cell? ⟨w.heap.size,6,none⟩=some v6:=hg1.cell 6;have a7:w1.cell? ⟨w.heap.size,7,none⟩=some v7:=hg1.cell 7;have a8:w1.cell? ⟨w.heap.size,8,none⟩=some (.int .u64 (SN:Int)):=hg1.cell 8;have a9:w1.cell? ⟨w.heap.size,9,none⟩=some v9:=hg1.cell 9;have iy:w1.cell? ⟨w.heap.size,10,none⟩=some v10:=hg1.cell 10;have iL:w1.cell? ⟨w.heap.size,11,none⟩=some v11:=hg1.cell 11;have a12:w1.cell? ⟨w.heap.size,12,none⟩=some v12:=hg1.cell 12;have HB1:=Zh hb1;have HST:Hid (∀ (vb sb bt:Nat) (y:World),Bw w1 y->w1.heap.size<=sb->w1.heap.size<=vb->vb≠sb->GB y vb 122 #[.pointer (some ⟨sb,0,none⟩)]->GB y sb 174 #[v0,v1,v2,v3,v4,v5,v6,v7,(.int .u64 (SN:Int)),v9,v10,v11,v12,.slice none 0 0,.slice none 0 0,.bool false,.pointer (some ⟨bt,0,none⟩),.slice none 0 0,.int .i64 1]->aG 178 (fun b=>¬ X b/\b≠sb) y bt (fQ ts q)->jY W0 f ts q X room w vb sb 0 (jX ts q room 0) (.slice none 0 0) (fun _=>0) (fun _=>0) (fun _=>[]) bt y):=fun vb sb bt y hy hs hv hne g2 g3 ht=>by
  have:=hg1.lt;refine jY.start room hz _ _ _ (aA hb1 hy) ⟨by omega,by omega,hne⟩ ?_ g2 ?_ ht
  ·rw[bB];exact hg1.keep (Zo (s:=fun b=>b<w1.heap.size) hy (fun _ h _=>h)) hg1.lt
  ·rw[bB];exact g3
 have DJ:=Zh bB;rw[bB];clear bB hz hb1 hg1 E hSN;refine(Zu (n:=0)).1 (ZJ Tryz.func107 rfl trivial (wpIn_wide.2 ?_) rfl);simp only[Tryz.ntmps107,Zy,Zg,ZA,Nat.reduceAdd,Nat.reduceSub,ZB,ZC,ZE,ZF,ZG,ZH];go_wp2_with fail;clear hw1;refine Pg (J:=fun e a y=>e=.normal/\∃ vb sb bt,a = { tmps:=#[.agg #[v0,v1,v2,v3,v4,v5,v6,v7,(.int .u64 (SN:Int)),v9,v10,v11,v12],.int .i64 (room:Int),.pointer (some ⟨w.heap.size,0,none⟩),undef,.pointer none,.pointer (some ⟨vb,0,none⟩),undef,undef,undef,.agg #[v0,v1,v2,v3,v4,v5,v6,v7,(.int .u64 (SN:Int)),v9,v10,v11,v12],.agg #[v0,v1,v2,v3,v4,v5,v6,v7,(.int .u64 (SN:Int)),v9,v10,v11,v12],.pointer (some ⟨bt,0,none⟩),.agg #[v0,v1,v2,v3,v4,v5,v6,v7,(.int .u64 (SN:Int)),v9,v10,v11,v12,.slice none 0 0,.slice none 0 0,.bool false,.pointer (some ⟨bt,0,none⟩),.slice none 0 0,.int .i64 1],.pointer (some ⟨sb,0,none⟩),undef,undef,undef,undef,undef,undef,undef,undef,undef,undef,undef,undef,undef,undef,undef,undef,undef,undef,undef,undef,undef,undef,undef,undef,undef,undef,undef,undef,undef,undef,undef,undef,undef,undef,undef,undef,undef,undef,undef,undef,undef,undef,undef,undef,undef,undef,undef,undef,undef,undef,undef,undef,undef,undef],defers:=[] }/\jY W0 f ts q X room w vb sb 0 (jX ts q room 0) (.slice none 0 0) (fun _=>0) (fun _=>0) (fun _=>[]) bt y) ?r1 ?rest
 case r1=>
  refine wH w1 fun hS=>?_
  refine wN 0 (.agg #[v0,v1,v2,v3,v4,v5,v6,v7,(.int .u64 (SN:Int)),v9,v10,v11,v12]) hS (fun x hx=>?_) ?_
  ·have e0:=lI hx a0 a1 a2 a3 a4 a5 a6 a7 a8 a9 iy iL a12;go_simp
  refine wN 1 (.agg #[v0,v1,v2,v3,v4,v5,v6,v7,(.int .u64 (SN:Int)),v9,v10,v11,v12]) hS (fun x hx=>?_) ?_
  ·have e0:=lI hx a0 a1 a2 a3 a4 a5 a6 a7 a8 a9 iy iL a12;go_simp
  clear a0 a1 a2 a3 a4 a5 a6 a7 a8 a9 iy iL a12;refine wJ 2 5 (fun K hK=>?_) fun K hK=>?_
  ·skip;go_simp;refine Xt (Be.o _ (fun b=>¬ X b) (HZ.o.next (aA HB1.o hS))) ?_;rintro e y0 ⟨bt,rfl,hT,asc,ase,hb⟩;refine oT hK hS hb fun hS=>?_
   clear hK K;refine wn 3 (.agg #[v0,v1,v2,v3,v4,v5,v6,v7,(.int .u64 (SN:Int)),v9,v10,v11,v12,.slice none 0 0,.slice none 0 0,.bool false,.pointer (some ⟨bt,0,none⟩),.slice none 0 0,.int .i64 1]) hS ?_;have hs0:=hS.size;refine wJ 4 5 (fun K hK=>?_) fun K hK=>?_
   ·skip;go_simp;refine hK.o _ _ (hS.trans (dn _ _ |>.mono hS.size)) fun hS=>?_
    clear hK K;obtain⟨y1,hy1⟩:∃ z,y0.alloc (.cells #[v0,v1,v2,v3,v4,v5,v6,v7,(.int .u64 (SN:Int)),v9,v10,v11,v12,.slice none 0 0,.slice none 0 0,.bool false,.pointer (some ⟨bt,0,none⟩),.slice none 0 0,.int .i64 1] 174)=z:=⟨_,rfl⟩
    have hs1:y1.heap.size=y0.heap.size+1:=by rw[<- hy1]; simp
    have hn1:GB y1 y0.heap.size 174 #[v0,v1,v2,v3,v4,v5,v6,v7,(.int .u64 (SN:Int)),v9,v10,v11,v12,.slice none 0 0,.slice none 0 0,.bool false,.pointer (some ⟨bt,0,none⟩),.slice none 0 0,.int .i64 1]:=by rw[<- hy1]; exact l6 _ _
    have hB1:Bw y0 y1:=by rw[<- hy1]; exact dn _ _
    rw[hy1]at hS ⊢;clear hy1;obtain⟨y2,hy2⟩:∃ z,y1.alloc (.cells #[.pointer none] 122)=z:=⟨_,rfl⟩
    have hs2:y2.heap.size=y1.heap.size+1:=by rw[<- hy2]; simp
    have hn2:GB y2 y1.heap.size 122 #[.pointer none]:=by rw[<- hy2]; exact l6 _ _
    have hB2:Bw y1 y2:=by rw[<- hy2]; exact dn _ _
    have pO:=Zh hs1;have HS2:=Zh hs2;clear hs1 hs2;refine wR 5 fun K hK=>?_
    go_simp;refine oT hK hS hB2 fun hS=>?_
    clear hK K;clear hy2;have hn1:=hn1.keep (Zo (s:=fun b=>b<y1.heap.size) hB2 (fun _ h _=>h)) hn1.lt;have hc:y2.cell? ⟨y1.heap.size,0,none⟩=some (.pointer none):=hn2.cell 0;have hf:=hn2.frozen 0;have hlv:w1.heap.size<=y1.heap.size:=by have:=pO.o; omega
    have Gy:Hid (Bw w1 (y2.setCell ⟨y1.heap.size,0,none⟩ (.pointer (some ⟨y0.heap.size,0,none⟩)))):=hS.trans ((ZL (s:=fun b=>b≠y1.heap.size) _ _ _ (fun h=>h rfl)).below hS.size (fun b hb=>by omega));have sG:=HST.o y1.heap.size y0.heap.size bt _ Gy.o (by have:=pO.o; omega) hlv (by have:=pO.o; omega) (hn2.set 0 (.pointer (some ⟨y0.heap.size,0,none⟩))) (hn1.keep (ZL (s:=fun b=>b≠y1.heap.size) _ _ _ (fun h=>h rfl)) (by have:=pO.o; omega)) (((((hT.mono (G:=fun b=>¬ X b/\b<y0.heap.size) (fun b hl hb=>⟨hb,hl⟩)).below hB1).below hB2).aX (ZL (s:=fun b=>b≠y1.heap.size) _ _ _ (fun h=>h rfl) |>.mono fun b _ hb=>by have:=pO.o; omega)).mono fun b _ hb=>⟨hb.1,by have:=pO.o; omega⟩);clear hn1 hn2 hB1 hB2;refine wR 6 fun K hK=>?_
    go_simp;refine hK.o _ _ (Gy.o) (fun hS=>?_);clear hK K;refine wD ?_
    try simp only[Act.put,XX,XY,XZ,ZZ,Qe,Qf]
    exact⟨by trivial,y1.heap.size,y0.heap.size,bt,rfl,sG⟩
   ·skip;go_simp;refine hK.o _ _ (hS.trans (dn _ _ |>.mono hS.size)) fun hS=>?_
    clear hK K;obtain⟨y1,hy1⟩:∃ z,y0.alloc (.cells #[.pointer none] 122)=z:=⟨_,rfl⟩
    have hs1:y1.heap.size=y0.heap.size+1:=by rw[<- hy1]; simp
    have hn1:GB y1 y0.heap.size 122 #[.pointer none]:=by rw[<- hy1]; exact l6 _ _
    have hB1:Bw y0 y1:=by rw[<- hy1]; exact dn _ _
    rw[hy1]at hS ⊢;clear hy1;obtain⟨y2,hy2⟩:∃ z,y1.alloc (.cells #[v0,v1,v2,v3,v4,v5,v6,v7,(.int .u64 (SN:Int)),v9,v10,v11,v12,.slice none 0 0,.slice none 0 0,.bool false,.pointer (some ⟨bt,0,none⟩),.slice none 0 0,.int .i64 1] 174)=z:=⟨_,rfl⟩
    have hs2:y2.heap.size=y1.heap.size+1:=by rw[<- hy2]; simp
    have hn2:GB y2 y1.heap.size 174 #[v0,v1,v2,v3,v4,v5,v6,v7,(.int .u64 (SN:Int)),v9,v10,v11,v12,.slice none 0 0,.slice none 0 0,.bool false,.pointer (some ⟨bt,0,none⟩),.slice none 0 0,.int .i64 1]:=by rw[<- hy2]; exact l6 _ _
    have hB2:Bw y1 y2:=by rw[<- hy2]; exact dn _ _
    have pO:=Zh hs1;have HS2:=Zh hs2;clear hs1 hs2;refine wR 4 fun K hK=>?_
    go_simp;refine oT hK hS hB2 fun hS=>?_
    clear hK K;clear hy2;have hn1:=hn1.keep (Zo (s:=fun b=>b<y1.heap.size) hB2 (fun _ h _=>h)) hn1.lt;have hc:y2.cell? ⟨y0.heap.size,0,none⟩=some (.pointer none):=hn1.cell 0;have hf:=hn1.frozen 0;have hlv:w1.heap.size<=y0.heap.size:=by have:=pO.o; omega
    have Gy:Hid (Bw w1 (y2.setCell ⟨y0.heap.size,0,none⟩ (.pointer (some ⟨y1.heap.size,0,none⟩)))):=hS.trans ((ZL (s:=fun b=>b≠y0.heap.size) _ _ _ (fun h=>h rfl)).below hS.size (fun b hb=>by omega));have sG:=HST.o y0.heap.size y1.heap.size bt _ Gy.o (by have:=pO.o; omega) hlv (by have:=pO.o; omega) (hn1.set 0 (.pointer (some ⟨y1.heap.size,0,none⟩))) (hn2.keep (ZL (s:=fun b=>b≠y0.heap.size) _ _ _ (fun h=>h rfl)) (by have:=pO.o; omega)) (((((hT.mono (G:=fun b=>¬ X b/\b<y0.heap.size) (fun b hl hb=>⟨hb,hl⟩)).below hB1).below hB2).aX (ZL (s:=fun b=>b≠y0.heap.size) _ _ _ (fun h=>h rfl) |>.mono fun b _ hb=>by have:=pO.o; omega)).mono fun b _ hb=>⟨hb.1,by have:=pO.o; omega⟩);clear hn1 hn2 hB1 hB2;refine wR 6 fun K hK=>?_
    go_simp;refine hK.o _ _ (Gy.o) (fun hS=>?_);clear hK K;refine wD ?_
    try simp only[Act.put,XX,XY,XZ,ZZ,Qe,Qf]
    exact⟨by trivial,y0.heap.size,y1.heap.size,bt,rfl,sG⟩
  ·skip;go_simp;refine hK.o _ _ (hS.trans (dn _ _ |>.mono hS.size)) fun hS=>?_
   clear hK K;have hs1:(w1.alloc (.cells #[.pointer none] 122)).drew.heap.size=w1.heap.size+1:=by simp
   have hn1:GB (w1.alloc (.cells #[.pointer none] 122)).drew w1.heap.size 122 #[.pointer none]:=l6 w1 _;generalize (w1.alloc (.cells #[.pointer none] 122)).drew=y1 at *;have pO:=Zh hs1;clear hs1;have hzF:Fz (fun b=>¬ X b/\b≠w1.heap.size) W0 y1:=by
    have h0:=HZ.o.next (aA HB1.o hS);have h1:=HZ.o.below.size;have h2:=HB1.o.size;have h3:=pO.o;exact⟨h0.below,fun b hb=>⟨h0.low b hb,by have:=hb.lt; omega⟩,fun b hb=>⟨h0.high b hb,by omega⟩⟩
   refine wR 2 fun K hK=>?_
   go_simp;refine Xt (Be.o _ (fun b=>¬ X b/\b≠w1.heap.size) hzF) ?_;rintro e y0 ⟨bt,rfl,hT,asc,ase,hb⟩;refine oT hK hS hb fun hS=>?_
   clear hK K;refine wn 3 (.agg #[v0,v1,v2,v3,v4,v5,v6,v7,(.int .u64 (SN:Int)),v9,v10,v11,v12,.slice none 0 0,.slice none 0 0,.bool false,.pointer (some ⟨bt,0,none⟩),.slice none 0 0,.int .i64 1]) hS ?_;have hs0:=hS.size;have hn1:=hn1.keep (Zo (s:=fun b=>b<y1.heap.size) hb (fun _ h _=>h)) hn1.lt;obtain⟨y2,hy2⟩:∃ z,y0.alloc (.cells #[v0,v1,v2,v3,v4,v5,v6,v7,(.int .u64 (SN:Int)),v9,v10,v11,v12,.slice none 0 0,.slice none 0 0,.bool false,.pointer (some ⟨bt,0,none⟩),.slice none 0 0,.int .i64 1] 174)=z:=⟨_,rfl⟩
   have hn2:GB y2 y0.heap.size 174 #[v0,v1,v2,v3,v4,v5,v6,v7,(.int .u64 (SN:Int)),v9,v10,v11,v12,.slice none 0 0,.slice none 0 0,.bool false,.pointer (some ⟨bt,0,none⟩),.slice none 0 0,.int .i64 1]:=by rw[<- hy2]; exact l6 _ _
   have hB2:Bw y0 y2:=by rw[<- hy2]; exact dn _ _
   refine wR 4 fun K hK=>?_
   go_simp;refine oT hK hS hB2 fun hS=>?_
   clear hK K;clear hy2;have hn1:=hn1.keep (Zo (s:=fun b=>b<y0.heap.size) hB2 (fun _ h _=>h)) hn1.lt;have hc:y2.cell? ⟨w1.heap.size,0,none⟩=some (.pointer none):=hn1.cell 0;have hf:=hn1.frozen 0;have hlv:w1.heap.size<y0.heap.size:=by have:=pO.o; have:=hb.size; omega
   have Gy:Hid (Bw w1 (y2.setCell ⟨w1.heap.size,0,none⟩ (.pointer (some ⟨y0.heap.size,0,none⟩)))):=hS.trans ((ZL (s:=fun b=>b≠w1.heap.size) _ _ _ (fun h=>h rfl)).below hS.size (fun b hb=>by omega));have sG:=HST.o w1.heap.size y0.heap.size bt _ Gy.o (by omega) (Qx _) (by omega) (hn1.set 0 (.pointer (some ⟨y0.heap.size,0,none⟩))) (hn2.keep (ZL (s:=fun b=>b≠w1.heap.size) _ _ _ (fun h=>h rfl)) (by omega)) ((((hT.mono (G:=fun b=>(¬ X b/\b≠w1.heap.size)/\b<y0.heap.size) (fun b hl hb=>⟨hb,hl⟩)).below hB2).aX (ZL (s:=fun b=>b≠w1.heap.size) _ _ _ (fun h=>h rfl) |>.mono fun b _ hb=>hb.1.2)).mono fun b _ hb=>⟨hb.1.1,by omega⟩);clear hn1 hn2 hB2;refine wR 6 fun K hK=>?_
   go_simp;refine hK.o _ _ (Gy.o) (fun hS=>?_);clear hK K;refine wD ?_
   try simp only[Act.put,XX,XY,XZ,ZZ,Qe,Qf]
   exact⟨by trivial,w1.heap.size,y0.heap.size,bt,rfl,sG⟩
 rintro e a y ⟨rfl,vb,sb,bt,rfl,hB⟩;have HB0:=Zh hB;clear hB;have hc8:y.cell? ⟨w.heap.size,8,none⟩=some (.int .u64 (SN:Int)):=by
  have:=HB0.o.fbg;rw[DJ.o]at this;exact this.cell 8
 obtain⟨avL,avM⟩:=asb;go_wp2;go_loopw [17] (fun iv wr=>∃ k:Nat,k<=SN/\iv=.int .i64 (k:Int)/\Hid (∃ gv gb cp os,jY W0 f ts q X room w vb sb k (jX ts q room k) gv gb cp os bt wr)) (fun iv _=>SN-(intOf iv).toNat)
 case atStart=>exact⟨0,Q8 _,rfl,_,_,_,_,HB0.o⟩
 case round=>
  obtain⟨k,hk,rfl,HJ⟩:=hrel;clear hc8;by_cases hlt:k<SN
  ·obtain⟨gv,gb,cp,os,hB⟩:=HJ.o;have Ht:=hB.fbg;rw[DJ.o]at Ht;have a0:wr.cell? ⟨w.heap.size,0,none⟩=some v0:=Ht.cell 0;have a1:wr.cell? ⟨w.heap.size,1,none⟩=some v1:=Ht.cell 1;have a2:wr.cell? ⟨w.heap.size,2,none⟩=some v2:=Ht.cell 2;have a3:wr.cell? ⟨w.heap.size,3,none⟩=some v3:=Ht.cell 3;have a4:wr.cell? ⟨w.heap.size,4,none⟩=some v4:=Ht.cell 4;have a5:wr.cell? ⟨w.heap.size,5,none⟩=some v5:=Ht.cell 5;have a6:wr.cell? ⟨w.heap.size,6,none⟩=some v6:=Ht.cell 6;have a7:wr.cell? ⟨w.heap.size,7,none⟩=some v7:=Ht.cell 7;have a8:wr.cell? ⟨w.heap.size,8,none⟩=some (.int .u64 (SN:Int)):=Ht.cell 8;have a9:wr.cell? ⟨w.heap.size,9,none⟩=some v9:=Ht.cell 9;have iy:wr.cell? ⟨w.heap.size,10,none⟩=some v10:=Ht.cell 10;have iL:wr.cell? ⟨w.heap.size,11,none⟩=some v11:=Ht.cell 11;have a12:wr.cell? ⟨w.heap.size,12,none⟩=some v12:=Ht.cell 12;have hUO:=HUO.o wr _ k hB.fz (by omega);obtain⟨ga,gm,gc,rfl⟩:=ZP hB.own;have HB:=Zh hB;clear hB Ht HJ;go_wp2_with fail;refine hUO.mono ?_;rintro e z1 ⟨v,ol,rfl,hO,hox,hbz⟩;have hol:0<ol.length/\ol.length<=18:=by
    have h1:=HUK.o k;have h2:=congrArg List.length hox;rw[Zc]at h2;omega
   obtain⟨ob,oc,rfl,ayX,ayY,A7,hcells⟩:=aae hO hol.1;have U0:=Zh (HB.o.below hbz);have HOX:=Zh hox;have HOE:=Zh hO.each;have HCE:=Zh hcells;have HOB:=Zh A7;clear hUO hO hox hbz A7 hcells a0 a1 a2 a3 a4 a5 a6 a7 a8 a9 iy iL a12;go_wp2_with fail;have hv:z1.cell? ⟨vb,0,none⟩=some (.pointer (some ⟨sb,0,none⟩)):=U0.o.var.cell 0;have ahS:=U0.o.Ph.2.2;have hbk:=U0.o.blk;rw[DJ.o]at hbk;have asf:z1.cell? ⟨sb,15,none⟩=some (.bool (jX ts q room k)):=hbk.cell 15;have asg:=hbk.frozen 15;have xE:Hid (jX ts q room (k+1)=(jX ts q room k || decide (room<ol.length))):=by
    show _=_
    rw[UW,<- HOX.o,Zc]
   refine Pg (J:=fun e a y=>e=.normal/\∃ t24 t25 t26 t27 t28 t29 t30 t31 t32 t33 t34 t35 t36,a = { tmps:=#[.agg #[v0,v1,v2,v3,v4,v5,v6,v7,(.int .u64 (SN:Int)),v9,v10,v11,v12],.int .i64 (room:Int),.pointer (some ⟨w.heap.size,0,none⟩),undef,.pointer none,.pointer (some ⟨vb,0,none⟩),.int .i64 (k:Int),.slice (some ⟨ob,0,none⟩) ol.length oc,undef,.agg #[v0,v1,v2,v3,v4,v5,v6,v7,(.int .u64 (SN:Int)),v9,v10,v11,v12],.agg #[v0,v1,v2,v3,v4,v5,v6,v7,(.int .u64 (SN:Int)),v9,v10,v11,v12],.pointer (some ⟨bt,0,none⟩),.agg #[v0,v1,v2,v3,v4,v5,v6,v7,(.int .u64 (SN:Int)),v9,v10,v11,v12,.slice none 0 0,.slice none 0 0,.bool false,.pointer (some ⟨bt,0,none⟩),.slice none 0 0,.int .i64 1],.pointer (some ⟨sb,0,none⟩),.pointer (some ⟨w.heap.size,8,none⟩),.int .u64 (SN:Int),.int .i64 (SN:Int),.int .i64 (k:Int),.bool true,.int .i64 (k:Int),.agg #[v0,v1,v2,v3,v4,v5,v6,v7,(.int .u64 (SN:Int)),v9,v10,v11,v12],.int .i64 (k:Int),.int .u64 (k:Int),.slice (some ⟨ob,0,none⟩) ol.length oc,t24,t25,t26,t27,t28,t29,t30,t31,t32,t33,t34,t35,t36,u37,u38,u39,u40,u41,u42,u43,u44,u45,u46,u47,u48,u49,u50,u51,u52,u53,undef,undef,undef,undef,undef,undef,undef,undef,undef,undef,undef,undef,undef,undef],defers:=[] }/\jY W0 f ts q X room w vb sb k (jX ts q room (k+1)) (.slice ga gm gc) gb cp os bt y/\Kept (fun b=>b≠sb) z1 y) ?r6 ?avU
   case r6=>
    have sG:Hid (∀ y,Kept (fun b=>b≠sb) z1 y->GB y sb 174 (f.cells ts q++Ld (.slice ga gm gc) (jX ts q room (k+1)) bt)->jY W0 f ts q X room w vb sb k (jX ts q room (k+1)) (.slice ga gm gc) gb cp os bt y):=fun y hy hg=>U0.o.flag hy hg
    have OO:Hid (GB (z1.setCell ⟨sb,15,none⟩ (.bool (jX ts q room (k+1)))) sb 174 (f.cells ts q++Ld (.slice ga gm gc) (jX ts q room (k+1)) bt)):=by
     have:=hbk.set 15 (.bool (jX ts q room (k+1)))
     show GB _ _ _ _
     rw[DJ.o];exact this
    clear hbk U0 HB;generalize jX ts q room (k+1)=c2 at *;generalize jX ts q room k=c1 at *;refine QX (S:=fun x=>Kept (fun b=>b≠sb) z1 x) (by kernel_rfl) (Zo ((Qw _ _).drew) (fun _ h _=>h)) (fun hS=>?_);refine wN 0 (.pointer (some ⟨sb,0,none⟩)) hS (fun x hx=>?_) ?_
    ·have e0:=X0 hx hv ahS;go_simp
    refine wN 1 (.pointer (some ⟨sb,0,none⟩)) hS (fun x hx=>?_) ?_
    ·have e0:=X0 hx hv ahS;go_simp
    refine wn 2 (.pointer (some ⟨sb,0,none⟩)) hS ?_;refine wn 3 (.pointer (some ⟨sb,15,none⟩)) hS ?_;refine wR 4 fun K hK=>?_
    go_simp;refine hK.o _ _ hS fun hS=>?_
    clear hK K;refine wn 5 (.bool c1) hS ?_
    cases c1 with
    | true =>
     have hc2:c2=true:=by rw[xE.o]; rfl
     clear xE;subst hc2;refine Qa (i:=6) (v:=undef) rfl (by kernel_rfl) (by kernel_rfl) (by kernel_rfl) (fun _ _ _ h=>by cases h.1) (.inr ⟨by kernel_rfl,rfl⟩) hS ?_;refine Qa (i:=7) (v:=undef) rfl (by kernel_rfl) (by kernel_rfl) (by kernel_rfl) (fun _ _ _ h=>by cases h.1) (.inr ⟨by kernel_rfl,rfl⟩) hS ?_;refine Qa (i:=8) (v:=undef) rfl (by kernel_rfl) (by kernel_rfl) (by kernel_rfl) (fun _ _ _ h=>by cases h.1) (.inr ⟨by kernel_rfl,rfl⟩) hS ?_;refine Qa (i:=9) (v:=undef) rfl (by kernel_rfl) (by kernel_rfl) (by kernel_rfl) (fun _ _ _ h=>by cases h.1) (.inr ⟨by kernel_rfl,rfl⟩) hS ?_;refine wn 10 (.bool true) hS ?_;refine wn 11 (.pointer (some ⟨sb,0,none⟩)) hS ?_;refine wn 12 (.pointer (some ⟨sb,15,none⟩)) hS ?_;refine wR 13 fun K hK=>?_
     go_simp;refine hK.o _ _ (hS.trans (ZL _ _ _ (fun h=>h rfl))) (fun hS=>?_);clear hK K;refine wD ?_
     try simp only[Act.put,XX,XY,XZ,ZZ,Qe,Qf]
     exact⟨by trivial,_,_,_,_,_,_,_,_,_,_,_,_,_,rfl,sG.o _ hS OO.o,hS⟩
    | false =>
     by_cases hgt:room<ol.length
     ·have hc2:c2=true:=by rw[xE.o]; simp[hgt]
      clear xE;subst hc2;refine wm 6 (.slice (some ⟨ob,0,none⟩) ol.length oc) hS ?_;refine wm 7 (.int .i64 (ol.length:Int)) hS ?_;refine wm 8 (.int .i64 (room:Int)) hS ?_;refine wm 9 (.bool true) hS ?_;refine wn 10 (.bool true) hS ?_;refine wn 11 (.pointer (some ⟨sb,0,none⟩)) hS ?_;refine wn 12 (.pointer (some ⟨sb,15,none⟩)) hS ?_;refine wR 13 fun K hK=>?_
      go_simp;refine hK.o _ _ (hS.trans (ZL _ _ _ (fun h=>h rfl))) (fun hS=>?_);clear hK K;refine wD ?_
      try simp only[Act.put,XX,XY,XZ,ZZ,Qe,Qf]
      exact⟨by trivial,_,_,_,_,_,_,_,_,_,_,_,_,_,rfl,sG.o _ hS OO.o,hS⟩
     ·have hc2:c2=false:=by rw[xE.o]; simp[hgt]
      clear xE;subst hc2;refine wm 6 (.slice (some ⟨ob,0,none⟩) ol.length oc) hS ?_;refine wm 7 (.int .i64 (ol.length:Int)) hS ?_;refine wm 8 (.int .i64 (room:Int)) hS ?_;refine wm 9 (.bool false) hS ?_;refine wn 10 (.bool false) hS ?_;refine wn 11 (.pointer (some ⟨sb,0,none⟩)) hS ?_;refine wn 12 (.pointer (some ⟨sb,15,none⟩)) hS ?_;refine wR 13 fun K hK=>?_
      go_simp;refine hK.o _ _ (hS.trans (ZL _ _ _ (fun h=>h rfl))) (fun hS=>?_);clear hK K;refine wD ?_
      try simp only[Act.put,XX,XY,XZ,ZZ,Qe,Qf]
      exact⟨by trivial,_,_,_,_,_,_,_,_,_,_,_,_,_,rfl,sG.o _ hS OO.o,hS⟩
   rintro e a z2 ⟨rfl,t24,t25,t26,t27,t28,t29,t30,t31,t32,t33,t34,t35,t36,rfl,hB2,zC⟩;have HB2:=Zh hB2;clear hv asf asg hbk xE;obtain⟨m,hm⟩:=eY (min room ol.length)
   have hm1:1<=m/\m<=ol.length/\m<=room:=by omega
   have HMI:Hid ((if (ol.length:Int)<(room:Int) then (ol.length:Int) else (room:Int))=(m:Int)/\min (room:Int) (ol.length:Int)=(m:Int)):=⟨by split <;> omega,by omega⟩
   have HUN:Hid ((ol.take m).map ah.xs=zD ts q room k):=by
    show _=_
    unfold zD;rw[<- HOX.o,List.map_take,hm];by_cases h:room<=ol.length
    ·rw[QK h]
    ·rw[Nat.min_eq_right (by omega),Xl (by simp),Xl (by rw[Zc]; omega)]
   have ash:=HB.o.blk.lt;have hcz:bC z2 (some ⟨ob,0,none⟩) m (fun i=>((ol.take m).getD i fC).val):=fun i hi=>by
    obtain⟨b,off,e,hc⟩:=HCE.o m hm1.2.1 i hi;injection e with e;injection e with e1 e2;subst e1;refine⟨ob,off,by rw[<- e2],X0 zC hc ?_⟩;have:=HOB.o;omega
   have hoz:∀ o∈ol.take m,IntsIn (fun b=>GX X sb k (.slice ga gm gc) gb b/\b<z2.heap.size) z2 o/\o.xs.length<=1000:=fun o ho=>by
    have h1:=HOE.o o (Xj ho);refine⟨?_,h1.2⟩;have h2:=h1.1.mono (G:=fun b=>GX X sb k (.slice ga gm gc) gb b/\b<z1.heap.size) (fun b hl hb=>⟨hb.1,hl⟩);exact(h2.aX (zC.mono fun b _ hb=>hb.1.2.1)).mono fun b _ hb=>⟨hb.1,Q6 hb.2 zC.size⟩
   have hlm:(ol.take m).length=m:=by rw[Zm]; omega
   have HNG:Hid (∀ x,Bw z2 x->Calls Tryz.prog 161 #[.slice (some ⟨ob,0,none⟩) m oc] x fun e w'=>∃ gn cn,e=.returned (.slice (some ⟨gn,0,none⟩) m cn)/\x.heap.size<=gn/\gn<w'.heap.size/\m<=cn/\cn<=9223372036854775807/\bz 178 297 (fun b=>GX X sb k (.slice ga gm gc) gb b/\b<z2.heap.size) w' gn (fun _=>0) (ol.take m) (dC (zD ts q room k))/\Bw x w'):=fun x hx=>by
    have:=Ew (F:=fun b=>GX X sb k (.slice ga gm gc) gb b/\b<z2.heap.size) (w:=x) (ol.take m) (some ⟨ob,0,none⟩) oc (by rw[hlm]; exact bC.below hx hcz) (fun o ho=>⟨(hoz o ho).1.below hx,(hoz o ho).2⟩) (by omega) (by omega) (fun _=>0);rw[HUN.o,hlm]at this;exact this
   have HNL:Hid ((dC (zD ts q room k)).length=m):=by
    show _=_
    rw[<- HUN.o];unfold dC;rw[Zc,Zc,hlm]
   have hv:z2.cell? ⟨vb,0,none⟩=some (.pointer (some ⟨sb,0,none⟩)):=HB2.o.var.cell 0;have hn2:=HB2.o.ne;have hvs:vb≠sb/\(Value.slice ga gm gc).ownBlock≠some vb:=⟨ahS,hn2.2.1⟩
   have hbk:=HB2.o.blk;rw[DJ.o]at hbk;have acy:z2.cell? ⟨sb,13,none⟩=some (.slice ga gm gc):=hbk.cell 13;have M5:Hid (∀ (y2:World) (gn cn:Nat),Bw z2 y2->z2.heap.size<=gn->gn<y2.heap.size->m<=cn->cn<=9223372036854775807->bz 178 297 (fun b=>GX X sb k (.slice ga gm gc) gb b/\b<z2.heap.size) y2 gn (fun _=>0) (ol.take m) (dC (zD ts q room k))->y2.cell? ⟨sb,13,none⟩=some (.slice ga gm gc)/\(y2.alloc (.cells #[.slice (some ⟨gn,0,none⟩) m cn] 230)).cell? ⟨sb,13,none⟩=some (.slice ga gm gc)/\∃ pa pm pc y4,(Builtin.append_ #[169,169] 169 #[.slice ga gm gc,.slice (some ⟨y2.heap.size,0,none⟩) 1 1]).run Tryz.prog (y2.alloc (.cells #[.slice (some ⟨gn,0,none⟩) m cn] 230))=.ok (.slice pa pm pc) y4/\y4.cell? ⟨sb,13,none⟩=some (.slice ga gm gc)/\y4.frozen? ⟨sb,13,none⟩=false/\Kept (fun b=>b≠sb/\(Value.slice ga gm gc).ownBlock≠some b) z2 y4/\Kept (fun b=>b≠sb/\(Value.slice ga gm gc).ownBlock≠some b) z2 (y2.alloc (.cells #[.slice (some ⟨gn,0,none⟩) m cn] 230))/\Kept (fun b=>b≠sb/\(Value.slice ga gm gc).ownBlock≠some b) z2 y2/\∃ gb2 cp2 os2,jY W0 f ts q X room w vb sb (k+1) (jX ts q room (k+1)) (.slice pa pm pc) gb2 cp2 os2 bt (y4.setCell ⟨sb,13,none⟩ (.slice pa pm pc))):=fun y2 gn cn hb2 hg1 hg2 hc1 hc2 hG=>by
    have hbk2:=hbk.keep (Zo (s:=fun b=>b<z2.heap.size) hb2 (fun _ h _=>h)) hbk.lt;have hown2:=Xh HB2.o.own hb2;obtain⟨v',y4,hr4,zA,hk4,⟨pa,pm,pc,rfl⟩,CP⟩:=Le y2 w.heap.size (.slice ga gm gc) k _ hown2 (by omega) (Zl HB2.o.old.size hb2.size) (some ⟨gn,0,none⟩) m cn 169;have hkz:Kept (fun b=>b≠sb/\(Value.slice ga gm gc).ownBlock≠some b) z2 y2:=Zo hb2 (fun _ h _=>h);have al3:Kept (fun b=>b≠sb/\(Value.slice ga gm gc).ownBlock≠some b) y2 y4:=hk4.mono fun b _ hb=>hb.2
    have adq:=hbk2.keep hk4 hn2.1;have hks:Kept (fun b=>b≠sb) y4 (y4.setCell ⟨sb,13,none⟩ (.slice pa pm pc)):=ZL _ _ _ (fun h=>h rfl);refine⟨hbk2.cell 13,(hbk2.keep (Zr (s:=fun _=>True) _ _) trivial).cell 13,pa,pm,pc,y4,hr4,adq.cell 13,adq.frozen 13,hkz.trans al3,hkz.trans (Zr _ _),hkz,_,_,_,HB2.o.push (Qw _ _) hb2 hG ⟨hg1,hg2⟩ (by rw[HNL.o]; exact⟨hc1,hc2⟩) (ZN (by rw[HNL.o]; exact zA) hks (fun g e e2=>iB zA adq (by decide) (e2 ▸ e))) (al3.trans (hks.mono fun b _ hb=>hb.1)) CP ?_⟩;have:=adq.set 13 (.slice pa pm pc);rw[DJ.o];exact this
   go_wp2_with fail;refine Pg (J:=fun e a y=>e=.normal/\∃ s37 s38 s39 s40 s41 s42 s43 s44 s45 s46 s47 s48 s49 s50 s51 s52,a = { tmps:=#[.agg #[v0,v1,v2,v3,v4,v5,v6,v7,(.int .u64 (SN:Int)),v9,v10,v11,v12],.int .i64 (room:Int),.pointer (some ⟨w.heap.size,0,none⟩),undef,.pointer none,.pointer (some ⟨vb,0,none⟩),.int .i64 (k:Int),.slice (some ⟨ob,0,none⟩) ol.length oc,undef,.agg #[v0,v1,v2,v3,v4,v5,v6,v7,(.int .u64 (SN:Int)),v9,v10,v11,v12],.agg #[v0,v1,v2,v3,v4,v5,v6,v7,(.int .u64 (SN:Int)),v9,v10,v11,v12],.pointer (some ⟨bt,0,none⟩),.agg #[v0,v1,v2,v3,v4,v5,v6,v7,(.int .u64 (SN:Int)),v9,v10,v11,v12,.slice none 0 0,.slice none 0 0,.bool false,.pointer (some ⟨bt,0,none⟩),.slice none 0 0,.int .i64 1],.pointer (some ⟨sb,0,none⟩),.pointer (some ⟨w.heap.size,8,none⟩),.int .u64 (SN:Int),.int .i64 (SN:Int),.int .i64 (k:Int),.bool true,.int .i64 (k:Int),.agg #[v0,v1,v2,v3,v4,v5,v6,v7,(.int .u64 (SN:Int)),v9,v10,v11,v12],.int .i64 (k:Int),.int .u64 (k:Int),.slice (some ⟨ob,0,none⟩) ol.length oc,t24,t25,t26,t27,t28,t29,t30,t31,t32,t33,t34,t35,t36,s37,s38,s39,s40,s41,s42,s43,s44,s45,s46,s47,s48,s49,s50,s51,s52,u53,undef,undef,undef,undef,undef,undef,undef,undef,undef,undef,undef,undef,undef,undef],defers:=[] }/\∃ gv gb cp os,jY W0 f ts q X room w vb sb (k+1) (jX ts q room (k+1)) gv gb cp os bt y) ?r7 ?awc
   case r7=>
    clear hcz hoz hm hB2 zC ash;refine QX (S:=fun x=>Kept (fun b=>b≠sb/\(Value.slice ga gm gc).ownBlock≠some b) z2 x) (by kernel_rfl) (Zo ((Qw _ _).drew) (fun _ h _=>h)) (fun hS=>?_);refine wN 0 (.pointer (some ⟨sb,0,none⟩)) hS (fun x hx=>?_) ?_
    ·have e0:=X0 hx hv hvs;go_simp
    refine wN 1 (.pointer (some ⟨sb,0,none⟩)) hS (fun x hx=>?_) ?_
    ·have e0:=X0 hx hv hvs;go_simp
    refine wn 2 (.pointer (some ⟨sb,0,none⟩)) hS ?_;refine wn 3 (.pointer (some ⟨sb,13,none⟩)) hS ?_;refine wn 5 (.slice (some ⟨ob,0,none⟩) ol.length oc) hS ?_;refine wn 6 (.int .i64 (room:Int)) hS ?_;refine wn 7 (.slice (some ⟨ob,0,none⟩) ol.length oc) hS ?_;refine wn 8 (.int .i64 (ol.length:Int)) hS ?_;refine wN 9 (.int .i64 (m:Int)) hS (fun x hx=>?_) ?_
    ·obtain⟨e1,e2⟩:=HMI.o;clear hm1 HMI hS hol;go_simp
    refine wN 10 (.slice (some ⟨ob,0,none⟩) m oc) hS (fun x hx=>?_) ?_
    ·have hmo:¬ oc<m:=by omega
     go_simp
    refine wJ 4 11 (fun K hK=>?_) fun K hK=>?_
    ·skip;go_simp;refine hK.o _ _ hS fun hS=>?_
     clear hK K;refine wR 11 fun K hK=>?_
     go_simp;refine Xt (HNG.o _ ((Qw _ _).drew)) ?_;rintro e y2 ⟨gn,cn,rfl,hg1,hg2,ahU,ahV,hGR,hbc⟩;obtain⟨hx2,hxa,pa,pm,pc,y4,hr4,hc4,hf4,hk4,hka,hk2,gb2,cp2,os2,hBS⟩:=M5.o y2 gn cn (aA ((Qw _ _).drew) hbc) hg1 hg2 ahU ahV hGR;have zw:=Zh hBS;clear hBS hGR;refine hK.o _ _ hk2 fun hS=>?_
     clear hK K;refine wR 12 fun K hK=>?_
     go_simp;refine hK.o _ _ hka fun hS=>?_
     clear hK K;refine wR 13 fun K hK=>?_
     refine Xy (by rfl) _ _ _ (by rfl) (.slice ga gm gc) (.slice (some ⟨y2.heap.size,0,none⟩) 1 1) (.slice pa pm pc) y4 (by rfl) (by rfl) hr4 ?_;refine hK.o _ _ hk4 fun hS=>?_
     clear hK K;clear hr4 hx2 hxa;refine wn 14 (.pointer (some ⟨sb,0,none⟩)) hS ?_;refine wn 15 (.pointer (some ⟨sb,13,none⟩)) hS ?_;refine wR 16 fun K hK=>?_
     go_simp;refine hK.o _ _ (hk4.trans (ZL _ _ _ (fun h=>h.1 rfl))) (fun hS=>?_);clear hK K;refine wD ?_
     try simp only[Act.put,XX,XY,XZ,ZZ,Qe,Qf]
     exact⟨by trivial,_,_,_,_,_,_,_,_,_,_,_,_,_,_,_,_,rfl,_,_,_,_,zw.o⟩
    ·skip;go_simp;refine Xt (HNG.o _ ((Qw _ _).drew)) ?_;rintro e y2 ⟨gn,cn,rfl,hg1,hg2,ahU,ahV,hGR,hbc⟩;obtain⟨hx2,hxa,pa,pm,pc,y4,hr4,hc4,hf4,hk4,hka,hk2,gb2,cp2,os2,hBS⟩:=M5.o y2 gn cn (aA ((Qw _ _).drew) hbc) hg1 hg2 ahU ahV hGR;have zw:=Zh hBS;clear hBS hGR;refine hK.o _ _ hk2 fun hS=>?_
     clear hK K;refine wJ 4 12 (fun K hK=>?_) fun K hK=>?_
     ·skip;go_simp;refine hK.o _ _ hS fun hS=>?_
      clear hK K;refine wR 12 fun K hK=>?_
      go_simp;refine hK.o _ _ hka fun hS=>?_
      clear hK K;refine wR 13 fun K hK=>?_
      refine Xy (by rfl) _ _ _ (by rfl) (.slice ga gm gc) (.slice (some ⟨y2.heap.size,0,none⟩) 1 1) (.slice pa pm pc) y4 (by rfl) (by rfl) hr4 ?_;refine hK.o _ _ hk4 fun hS=>?_
      clear hK K;clear hr4 hx2 hxa;refine wn 14 (.pointer (some ⟨sb,0,none⟩)) hS ?_;refine wn 15 (.pointer (some ⟨sb,13,none⟩)) hS ?_;refine wR 16 fun K hK=>?_
      go_simp;refine hK.o _ _ (hk4.trans (ZL _ _ _ (fun h=>h.1 rfl))) (fun hS=>?_);clear hK K;refine wD ?_
      try simp only[Act.put,XX,XY,XZ,ZZ,Qe,Qf]
      exact⟨by trivial,_,_,_,_,_,_,_,_,_,_,_,_,_,_,_,_,rfl,_,_,_,_,zw.o⟩
     ·skip;go_simp;refine hK.o _ _ hka fun hS=>?_
      clear hK K;refine wR 4 fun K hK=>?_
      go_simp;refine hK.o _ _ hS fun hS=>?_
      clear hK K;refine wR 13 fun K hK=>?_
      refine Xy (by rfl) _ _ _ (by rfl) (.slice ga gm gc) (.slice (some ⟨y2.heap.size,0,none⟩) 1 1) (.slice pa pm pc) y4 (by rfl) (by rfl) hr4 ?_;refine hK.o _ _ hk4 fun hS=>?_
      clear hK K;clear hr4 hx2 hxa;refine wn 14 (.pointer (some ⟨sb,0,none⟩)) hS ?_;refine wn 15 (.pointer (some ⟨sb,13,none⟩)) hS ?_;refine wR 16 fun K hK=>?_
      go_simp;refine hK.o _ _ (hk4.trans (ZL _ _ _ (fun h=>h.1 rfl))) (fun hS=>?_);clear hK K;refine wD ?_
      try simp only[Act.put,XX,XY,XZ,ZZ,Qe,Qf]
      exact⟨by trivial,_,_,_,_,_,_,_,_,_,_,_,_,_,_,_,_,rfl,_,_,_,_,zw.o⟩
   rintro e a z3 ⟨rfl,s37,s38,s39,s40,s41,s42,s43,s44,s45,s46,s47,s48,s49,s50,s51,s52,rfl,hJ⟩;have Bd:=Zh hJ;clear hJ hv hbk acy hvs hn2 hcz hoz hB2 zC HB2 HB U0 M5 HNG;go_wp2;go_roundw
   case rel=>exact⟨k+1,by omega,by go_num,Bd.o⟩
   case measure=>simp[intOf]; omega
  ·obtain⟨gv,gb,cp,os,hB⟩:=HJ.o;have hkS:k=SN:=by omega
   have Ht:=hB.fbg;rw[DJ.o]at Ht;have hc8:wr.cell? ⟨w.heap.size,8,none⟩=some (.int .u64 (SN:Int)):=Ht.cell 8;have HKS:=Zh hkS;have HB:=Zh hB;clear hB Ht HJ hkS;go_wp2;obtain⟨L,hLa,hLp,hA⟩:=HB.o.search (by have:=HKS.o; omega);have HA:=Zh hA;have Gw:Hid (L.av=.slice none 0 0/\L.pv=.slice none 0 0):=⟨hLa,hLp⟩
   clear hA hLa hLp hc8;have OO:Hid (GB wr sb 174 (#[v0,v1,v2,v3,v4,v5,v6,v7,(.int .u64 (SN:Int)),v9,v10,v11,v12,gv,.slice none 0 0,.bool (jX ts q room k),.pointer (some ⟨bt,0,none⟩),.slice none 0 0,.int .i64 1].setIfInBounds 14 (.slice none 0 0))):=by
    have:=HB.o.blk;rw[DJ.o]at this;exact this
   obtain⟨arr,harr⟩:∃ a:Array Value,a=#[v0,v1,v2,v3,v4,v5,v6,v7,(.int .u64 (SN:Int)),v9,v10,v11,v12,gv,.slice none 0 0,.bool (jX ts q room k),.pointer (some ⟨bt,0,none⟩),.slice none 0 0,.int .i64 1]:=⟨_,rfl⟩
   have asj:=Zh harr;rw[<- harr]at OO;clear harr;have HV:Hid (wr.cell? ⟨vb,0,none⟩=some (.pointer (some ⟨sb,0,none⟩))/\vb<wr.heap.size/\vb≠sb/\sb<wr.heap.size/\w.heap.size<=sb/\W0.heap.size<=wr.heap.size):=⟨HB.o.var.cell 0,HB.o.var.lt,HB.o.Ph.2.2,HB.o.blk.lt,by have:=HB.o.Ph.1; omega,HB.o.hz.below.size⟩
   have HOL:=Zh HB.o.old;have vJ:Hid (arr.size=19):=by show _=_; rw[asj.o]; rfl
   have HRS:=Zh HRG.o;refine(wpIn_wide (n:=0)).1 (uh kz (gf:=162) (s:=.int .u64 (SN:Int)) rfl (enters_of Tryz.func162 (by kernel_rfl) rfl) (HSQ.o w) HOL.o rfl (fun pre o1 W=>aaj wr sb W0.heap.size arr pre o1 W) (fun b=>b=sb) ?_ ?_ ⟨⟨.slice none 0 0,OO.o,ZV _ _ _ _,fun b=>by simp[Value.ownBlock],fun b e=>by cases e⟩,Zn _ _⟩ (fun x=>{ tmps:=#[.agg #[v0,v1,v2,v3,v4,v5,v6,v7,(.int .u64 (SN:Int)),v9,v10,v11,v12],.int .i64 (room:Int),.pointer (some ⟨w.heap.size,0,none⟩),undef,.pointer none,.pointer (some ⟨vb,0,none⟩),u6,u7,.int .i64 (x:Int),.agg #[v0,v1,v2,v3,v4,v5,v6,v7,(.int .u64 (SN:Int)),v9,v10,v11,v12],.agg #[v0,v1,v2,v3,v4,v5,v6,v7,(.int .u64 (SN:Int)),v9,v10,v11,v12],.pointer (some ⟨bt,0,none⟩),.agg #[v0,v1,v2,v3,v4,v5,v6,v7,(.int .u64 (SN:Int)),v9,v10,v11,v12,.slice none 0 0,.slice none 0 0,.bool false,.pointer (some ⟨bt,0,none⟩),.slice none 0 0,.int .i64 1],.pointer (some ⟨sb,0,none⟩),.pointer (some ⟨w.heap.size,8,none⟩),.int .u64 (SN:Int),.int .i64 (SN:Int),.int .i64 (k:Int),.bool false,u19,u20,u21,u22,u23,u24,u25,u26,u27,u28,u29,u30,u31,u32,u33,u34,u35,u36,u37,u38,u39,u40,u41,u42,u43,u44,u45,u46,u47,u48,u49,u50,u51,u52,u53,.pointer (some ⟨w.heap.size,8,none⟩),.int .u64 (SN:Int),.func (.func 162) #[.int .u64 (SN:Int)] #[],.int .i64 (x:Int),undef,undef,undef,undef,undef,undef,undef,undef,undef,undef],defers:=[] }) ?assign ?body ?done)
   ·rintro b rfl;exact⟨HV.o.2.2.2.2.1,HV.o.2.2.2.1⟩
   ·intro pre o1 A B h hk;exact h.keep hk
   case assign=>
    intro l x W K hK;have he:kz.enc x=.int .i64 (x:Int):=rfl
    gi_wp2
    exact hK
   case body=>
    intro l pre x o1 W hI hpre hx hoff hsz;have hx5:x<5:=by
     have h0:=vI (by simpa [kz] using hpre);rw[HRS.o]at h0;have:=Xq.1 h0;omega
    have hp5:pre.length<=5:=by
     have h0:=hpre.length_le;rw[HRS.o,Zc,Zb,Zd]at h0;simp at h0;omega
    have hpx:∀ y∈pre,y<5:=fun y hy=>by
     have h0:y∈aR SN:=by
      have:=hpre.subset (Zi.2 ⟨y,List.mem_append_left _ hy,rfl⟩);exact this
     rw[HRS.o]at h0;have:=Xq.1 h0;omega
    obtain⟨⟨av,hgb,hown,uV,hfr⟩,tY⟩:=hI;have hvs:vb≠sb/\av.ownBlock≠some vb:=⟨HV.o.2.2.1,fun e=>by have:=hfr _ e; have:=HV.o.2.1; omega⟩
    have hv:=X0 tY HV.o.1 hvs.1;have hx32:2 ^ x<32:=by
     have:2 ^ x<2 ^ 5:=Xi (by omega) hx5;omega
    have HAD:Hid (∀ (y:World) (tb:Nat),Bw W y->W.heap.size<=tb->y.cell? ⟨tb,0,none⟩=some (.int .u64 ((2 ^ x:Nat):Int))->y.cell? ⟨tb,1,none⟩=some (.int .u64 0)->Calls Tryz.prog 163 #[.pointer (some ⟨sb,14,none⟩),.slice (some ⟨tb,0,none⟩) 1 1] y fun e w'=>(∃ v,e=.returned v)/\Kept (fun b=>b≠sb/\av.ownBlock≠some b) W w'/\∃ o2,aaj wr sb W0.heap.size arr (pre++[x]) o2 w'/\Kept (fun b=>¬ o1 b) W w'/\∀ b,o2 b->o1 b∨(W.heap.size<=b/\b<w'.heap.size)):=fun y tb hy ht c0 c1=>by
     have hky:Kept (fun b=>b<W.heap.size) W y:=Zo hy (fun _ h _=>h);have hgy:=hgb.keep hky hgb.lt;have h14:(arr.setIfInBounds 14 av)[14]? = some av:=by rw[Array.getElem?_setIfInBounds_self]; rw[Qy (by rw[vJ.o]; omega)]
     have:=KY sb W0.heap.size _ av (UY pre) [(2 ^ x,0)] (some ⟨tb,0,none⟩) 1 y hgy h14 (Xh hown hy) (by have:=HV.o; have:=tY.size; have:=hy.size; omega) ⟨by simp,fun i hi=>⟨tb,0,rfl,by
      have hi0:i=0:=by simpa using hi
      subst hi0;exact⟨c0,c1⟩⟩⟩ (fun a e=>by
      injection e with e;rw[<- e];refine⟨?_,fun e2=>?_⟩
      ·have:=hgb.lt
       show tb≠sb
       omega
      ·have h3:=(ZO hown e2).2;have h4:tb<W.heap.size:=h3;omega) (by have:=(aai pre hpx).2; simp only[Zg,ZA]; omega) (aai pre hpx).1 (fun a ha=>by
      rw[ZR]at ha;rw[ha];exact⟨hx32,by show 0<32; omega⟩)
     refine this.mono ?_;rintro e w3 ⟨hv3,av3,g3,o3,k3,t3⟩;have hkW:=(Zo (s:=fun b=>b≠sb/\av.ownBlock≠some b) hy (fun _ h _=>h)).trans k3;rw[X6]at g3;refine⟨hv3,hkW,fun b=>b=sb∨av3.ownBlock=some b,⟨⟨av3,g3,by rw[aah]; exact o3,fun b=>Iff.rfl,fun b e=>?_⟩,tY.trans' hkW (fun b hl hb=>⟨hb,fun e=>by have:=hfr b e; omega⟩)⟩,hkW.mono fun b _ hb=>⟨fun e=>hb ((uV b).2 (.inl e)),fun e=>hb ((uV b).2 (.inr e))⟩,?_⟩
     ·rcases t3 with t3 | ⟨g,t3,hg⟩
      ·exact hfr b (t3 ▸ e)
      ·rw[t3]at e;injection e with e;have:=tY.size;have:=hy.size;omega
     ·rintro b (rfl | hb)
      ·exact .inl ((uV _).2 (.inl rfl))
      ·rcases t3 with t3 | ⟨g,t3,hg⟩
       ·exact .inl ((uV b).2 (.inr (t3 ▸ hb)))
       ·have h5:=(ZO o3 hb).2;rw[t3]at hb;injection hb with hb;have:=hy.size;exact .inr ⟨by omega,h5⟩
    clear hoff hsz hx hpre hgb hown uV hfr tY hpx hp5
    gi_wp2_with fail
    refine yu (S:=fun x=>Kept (fun b=>b≠sb/\av.ownBlock≠some b) W x) (by kernel_rfl) (by kernel_rfl) (fun ⟨_,_,h⟩=>h) ?_;have hS:Kept (fun b=>b≠sb/\av.ownBlock≠some b) W W.drew:=Zo ((Qw _ _).drew) (fun _ h _=>h);refine wT 0 (.pointer (some ⟨sb,0,none⟩)) hS (fun x hx=>?_) ?_
    ·have e0:=X0 hx hv hvs;go_simp
    refine wt 1 (.pointer (some ⟨sb,0,none⟩)) hS ?_;refine wt 2 (.pointer (some ⟨sb,14,none⟩)) hS ?_;refine wt 3 (.int .i64 (x:Int)) hS ?_;refine wR 4 fun K hK=>?_
    go_simp;refine hK.o _ _ (hS.trans (Zr _ _)) (fun hS=>?_);clear hK K;refine wR 5 fun K hK=>?_
    go_simp;refine Xt (uf W.heap.size x _ (by simp) (by omega)) ?_;rintro e y5 ⟨rfl,rfl⟩;refine hK.o _ _ hS fun hS=>?_
    clear hK K;refine wt 6 (.agg #[.int .u64 ((2 ^ x:Nat):Int),.int .u64 0]) hS ?_;refine wR 7 fun K hK=>?_
    go_simp;refine hK.o _ _ (hS.trans (Zr _ _)) (fun hS=>?_);clear hK K;refine wR 8 fun K hK=>?_
    go_simp;refine Xt (HAD.o _ _ (ar9 W _ _) (by simp) (by simp) (by simp)) ?_;rintro e w3 ⟨⟨v,rfl⟩,hk3,o2,hBx,hkk,ho2⟩;refine hK.o _ _ hk3 fun hS=>?_
    clear hK K;refine wD ?_
    try simp only[Act.put,XX,XY,XZ,ZZ,Qe,Qf]
    exact⟨o2,hBx,hkk,fun b hb=>(ho2 b hb).elim .inl (fun h=>.inr (.inl h))⟩
   case done=>
    rintro ys o1 W hys hI hk2 hg2 hD;have hyy:ys=aR SN:=by simpa [kz] using hys
    rw[HRS.o]at hyy;subst hyy;obtain⟨⟨av,hgb,hown,uV,hfr⟩,tY⟩:=hI;have hv:=X0 tY HV.o.1 HV.o.2.2.1;have hnD:¬ o1 wr.heap.size:=fun h=>by
     rcases hg2 _ h with h | h
     ·have:=HV.o.2.2.2.1;omega
     ·omega
    have hkp:=Zp (s:=fun b=>o1 b∨b<wr.heap.size) W (r:=wr.heap.size) (.deferred none) (by
     rintro (h | h)
     ·exact hnD h
     ·omega)
    have HD:=Zh hD;have kX:Hid (∃ L M,dQ W0 f ts q (fun b=>X b∨M b) M (W.putObj wr.heap.size (.deferred none)) sb L (fA bA ts q room)/\(∀ b,M b->w.heap.size<=b)/\Bw w (W.putObj wr.heap.size (.deferred none))):=by
     have adr:=hgb.keep hkp (.inl ((uV _).2 (.inl rfl)));have hown2:=ZN hown hkp (fun g hg=>.inl ((uV g).2 (.inr hg)));have Wu:=tY.trans' hkp (fun b hl _=>.inr hl);have eA:=GB.inj HA.o.blk OO.o;obtain⟨X2,M2,hA2,Sd,g1,g2,g3⟩:=HA.o.next (Wu.mono fun b _ hb=>hb.1) (av:=av) (pv:=L.pv) (ag:=UY (List.range q.src.xs.length)) (pk:=[]) (st:=1) (by
      have e:f.cells ts q++mq { L with av:=av,pv:=L.pv } ⟨(List.range k).map fun s=>dC (zD ts q room s),UY (List.range q.src.xs.length),jX ts q room k,fQ ts q,[],1⟩=arr.setIfInBounds 14 av:=by
       have h1:=aag f ts q L ⟨(List.range k).map fun s=>dC (zD ts q room s),[],jX ts q room k,fQ ts q,[],1⟩ av;rw[eA,X6]at h1;exact h1.symm
      exact e ▸ adr) hown2 (by
      cases h:av.ownBlock with
      | none => exact .inl (by rw[Gw.o.1]; rfl)
      | some g => exact .inr ⟨g,rfl,hfr g h⟩) (by rw[Gw.o.2]; exact ZV _ _ _ _) (.inl rfl)
     have eX:X2=fun b=>X b∨M2 b:=X8 fun b=>propext ((g3 b).trans ⟨fun h=>by
      rcases h with (h | h) | h
      ·exact .inl h
      ·exact .inr (g1 b h)
      ·exact .inr h,fun h=>by
      rcases h with h | h
      ·exact .inl (.inl h)
      ·exact .inr h⟩)
     have eB:fA bA ts q room=⟨(List.range k).map fun s=>dC (zD ts q room s),UY (List.range q.src.xs.length),jX ts q room k,fQ ts q,[],1⟩:=by
      rw[HKS.o,HSN.o];rfl
     refine⟨_,M2,by rw[eB,<- eX]; exact hA2,fun b hb=>?_,HOL.o.trans (Wu.below HOL.o.size fun b hb=>by have:=HV.o.2.2.2.2.1; omega)⟩;rcases g2 b hb with (h | ⟨j,hj,h⟩) | h
     ·rw[h]; exact HV.o.2.2.2.2.1
     ·rw[h]; exact(HB.o.kT j hj).2.1
     ·exact Zl HOL.o.size h
    clear hgb hown uV hfr tY hkp hnD hg2 hk2 hys;go_wp2;obtain⟨L2,M2,q1,q2,q3⟩:=kX.o;refine⟨by simp,.inl ⟨_,_,rfl,ZK HD.o,?_⟩⟩;exact⟨_,results_tmp rfl _ _ _,sb,L2,M2,rfl,q1,q2,q3⟩
end
