import Derived.Test.YtbcgekghfgcakaaGreatDoorF16
import Derived.Test.YtbcgekghfgcakaaGreatDoorF34
set_option linter.all false
set_option maxRecDepth 100000
set_option maxHeartbeats 16000000
namespace Go.Proofs.Zz
open Go.RowKit Go.Shelf
section
attribute [local go_sem] Oper.semAt_some
def S9 (pre:List Nat):List bg:=pre.foldl (fun a (i:Nat)=>gU aV a (2 ^ i,0)) []
theorem WR (pre:List Nat) (x:Nat):S9 (pre++[x])=[(2 ^ x,0)].foldl (gU aV) (S9 pre):=by
 unfold S9;rw[QM];rfl
theorem WS (pre:List Nat) (h:∀ y∈pre,y<5):(∀ a∈S9 pre,a.1<32/\a.2<32)/\(S9 pre).length<=pre.length:=by
 have e:S9 pre=(pre.map fun i=>((2 ^ i,0):bg)).foldl (gU aV) []:=by
  unfold S9;rw[List.foldl_map]
 have:=E9 (rk:=aV) (pre.map fun i=>((2 ^ i,0):bg)) [] (fun a ha=>by cases ha) (fun a ha=>by
  obtain⟨y,hy,rfl⟩:=Q0.1 ha;have:2 ^ y<2 ^ 5:=ZW (by omega) (h y hy);exact⟨by show 2 ^ y<32; omega,by show 0<32; omega⟩)
 rw[e];exact⟨this.1,by have:=this.2; simpa using this⟩
theorem Nn {n:Nat} (h:n<=5):bz (2 ^ n-1)=List.range n:=by
 have:n=0∨n=1∨n=2∨n=3∨n=4∨n=5:=by omega
 rcases this with rfl | rfl | rfl | rfl | rfl | rfl <;> rfl
structure WU (wr:World) (sb base:Nat) (arr:Array Value) (pre:List Nat) (o1:Nat->Prop) (W:World):Prop where
 ex:∃ av,GB W sb 102 (arr.setIfInBounds 14 av)/\W.ownsRow base 143 2 av (S9 pre).length ((S9 pre).flatMap dA)/\(∀ b,o1 b↔b=sb∨av.ownBlock=some b)/\(∀ b,av.ownBlock=some b->wr.heap.size<=b)
 kept:Kept (fun b=>b≠sb) wr W
theorem WU.keep {wr:World} {sb base:Nat} {arr:Array Value} {pre:List Nat} {o1:Nat->Prop} {A B:World} (h:WU wr sb base arr pre o1 A) (hk:Kept (fun b=>o1 b∨b<wr.heap.size) A B):WU wr sb base arr pre o1 B:=by
 obtain⟨av,hg,ho,hi,hf⟩:=h.ex;exact⟨⟨av,hg.keep hk (.inl ((hi _).2 (.inl rfl))),Zx ho hk (fun g hg=>.inl ((hi g).2 (.inr hg))),hi,hf⟩,h.kept.trans' hk (fun b hl _=>.inr hl)⟩
theorem GB.inj {w:World} {G:Nat} {t t':TypeId} {c c':Array Value} (h:GB w G t c) (h':GB w G t' c'):c=c':=by
 have e1:w.heap[G]? = some (.cells c t (0,0)):=h;have e2:w.heap[G]? = some (.cells c' t' (0,0)):=h';rw[e1] at e2;injection e2 with e2;injection e2
theorem aps (W:World) (o1 o2:Obj):Below W.heap.size W ((W.drew.alloc o1).alloc o2):=((Qp _ _).drew.alloc (Qq _) o1).alloc (by simp) o2
theorem kX.start {W0 w:World} {f:aB} {ts:List af} {q:ae} {X:Nat->Prop} (room:Nat) (hz:Fz (fun b=>¬ X b) W0 w) {vb sb bt:Nat} (gb cp:Nat->Nat) (os:Nat->List ah) {y:World} (hb:Below w.heap.size w y) (hl:w.heap.size<sb/\w.heap.size<vb/\vb≠sb) (h1:GB y w.heap.size 94 (f.cells ts q)) (h2:GB y vb 61 #[.pointer (some ⟨sb,0,none⟩)]) (h3:GB y sb 102 (f.cells ts q++Jt (.slice none 0 0) false bt)) (h4:aC 120 (fun b=>¬ X b/\b≠sb) y bt (fF ts q)):kX W0 f ts q X room w vb sb 0 (kW ts q room 0) (.slice none 0 0) gb cp os bt y:=
 ⟨hz.next hb,hb,hz.below.size,fun b hx=>Nat.lt_of_not_le fun hl=>hz.high b hl hx,hl,h1,h2,h3,ZE _ _ _ _,fun j hj=>absurd hj (Nat.not_lt_zero _),fun i j hi=>absurd hi (Nat.not_lt_zero _),h4.mono fun b _ hb=>⟨hb.1,hb.2,(fun e=>by cases e),fun j hj=>absurd hj (Nat.not_lt_zero _)⟩⟩
theorem Ta {W0 w:World} {f:aB} {ts:List af} {q:ae} (E:Env f ts q W0) {X:Nat->Prop} (hz:Fz (fun b=>¬ X b) W0 w) (room:Nat) (h1:1<=room) (h2:room<=1000) :
  Calls Tryz.prog 38 #[.agg (f.cells ts q),.int .i64 (room:Int)] w fun e w'=>∃ sb L M,e=.returned (.pointer (some ⟨sb,0,none⟩))/\dn W0 f ts q (fun b=>X b∨M b) M w' sb L (dK aV ts q room)/\(∀ b,M b->w.heap.size<=b)/\Below w.heap.size w w':=by
 obtain⟨v0,v1,v2,v3,v4,v5,v6,v7,v8,v9,v10,v11,v12,dw,-,-,-,-,-,-,-,-,hv8,-⟩:=Z8 f ts q;subst hv8;have hsn:=E.five;have apt:=E.one;have su:Hid (∀ x (F:Nat->Prop),Fz F W0 x->Calls Tryz.prog 66 #[.agg #[v0,v1,v2,v3,v4,v5,v6,v7,.int .u64 ((2 ^ q.src.xs.length-1:Nat):Int),v9,v10,v11,v12]] x (bF 120 F x (fF ts q))):=fun x F hx=>by
  rw[<- dw];exact FI E hx
 have HUO:Hid (∀ x (F:Nat->Prop) (k:Nat),Fz F W0 x->k<18446744073709551616->Calls Tryz.prog 67 #[.agg #[v0,v1,v2,v3,v4,v5,v6,v7,.int .u64 ((2 ^ q.src.xs.length-1:Nat):Int),v9,v10,v11,v12],.int .u64 (k:Int)] x fun e w'=>∃ v os,e=.returned v/\fQ 22 F x.heap.size w' v os/\os.map ah.xs=fA ts q k/\Below x.heap.size x w'):=fun x F k hx hk=>by
  rw[<- dw];exact xL E hx k hk
 have HUK:Hid (∀ k,(fA ts q k).length<=18/\0<(fA ts q k).length):=fun k=>by
  obtain⟨⟨r,hr⟩,hl⟩:=A8 ts q k E.eight;exact⟨hl,by rw[hr]; simp⟩
 obtain⟨SN,hSN⟩:∃ n:Nat,n=2 ^ q.src.xs.length-1:=⟨_,rfl⟩
 have apu:SN<=31/\1<=SN:=by
  have h5:2 ^ q.src.xs.length<=2 ^ 5:=QZ (by omega) hsn;have h1:2 ^ 1<=2 ^ q.src.xs.length:=QZ (by omega) apt;omega
 have HSQ:=Zh (oL SN (by omega));rw[<- hSN] at dw su HUO;have HSN:=Zh hSN;have HRG:Hid (bz SN=List.range q.src.xs.length):=by show _=_; rw[hSN]; exact Nn hsn
 have HZ:=Zh hz;obtain⟨w1,hw1,hb1,hg1⟩:=bu w #[v0,v1,v2,v3,v4,v5,v6,v7,(.int .u64 (SN:Int)),v9,v10,v11,v12] 94;have a0:w1.cell? ⟨w.heap.size,0,none⟩=some v0:=hg1.cell 0;have a1:w1.cell? ⟨w.heap.size,1,none⟩=some v1:=hg1.cell 1;have a2:w1.cell? ⟨w.heap.size,2,none⟩=some v2:=hg1.cell 2;have a3:w1.cell? ⟨w.heap.size,3,none⟩=some v3:=hg1.cell 3;have a4:w1.cell? ⟨w.heap.size,4,none⟩=some v4:=hg1.cell 4;have a5:w1.cell? ⟨w.heap.size,5,none⟩=some v5:=hg1.cell 5;have a6:w1.cell? ⟨w.heap.size,6,none⟩=some v6:=hg1.cell 6;have a7:w1.cell? ⟨w.heap.size,7,none⟩=some v7:=hg1.cell 7;have a8:w1.cell? ⟨w.heap.size,8,none⟩=some (.int .u64 (SN:Int)):=hg1.cell 8;have a9:w1.cell? ⟨w.heap.size,9,none⟩=some v9:=hg1.cell 9;have fI:w1.cell? ⟨w.heap.size,10,none⟩=some v10:=hg1.cell 10;have fU:w1.cell? ⟨w.heap.size,11,none⟩=some v11:=hg1.cell 11;have a12:w1.cell? ⟨w.heap.size,12,none⟩=some v12:=hg1.cell 12;have HB1:=Zh hb1;have HST:Hid (∀ (vb sb bt:Nat) (y:World),Below w1.heap.size w1 y->w1.heap.size<=sb->w1.heap.size<=vb->vb≠sb->GB y vb 61 #[.pointer (some ⟨sb,0,none⟩)]->GB y sb 102 #[v0,v1,v2,v3,v4,v5,v6,v7,(.int .u64 (SN:Int)),v9,v10,v11,v12,.slice none 0 0,.slice none 0 0,.bool false,.pointer (some ⟨bt,0,none⟩),.slice none 0 0,.int .i64 1]->aC 120 (fun b=>¬ X b/\b≠sb) y bt (fF ts q)->kX W0 f ts q X room w vb sb 0 (kW ts q room 0) (.slice none 0 0) (fun _=>0) (fun _=>0) (fun _=>[]) bt y):=fun vb sb bt y hy hs hv hne g2 g3 ht=>by
  have:=hg1.lt;refine kX.start room hz _ _ _ (aG hb1 hy) ⟨by omega,by omega,hne⟩ ?_ g2 ?_ ht
  ·rw[dw];exact hg1.keep (Q9 (s:=fun b=>b<w1.heap.size) hy (fun _ h _=>h)) hg1.lt
  ·rw[dw];exact g3
 have Kj:=Zh dw;rw[dw];clear dw hz hb1 hg1 E hSN;refine (Ze (n:=0)).1 (Zt Tryz.func38 rfl trivial (wpIn_wide.2 ?_) rfl);simp only[Tryz.ntmps38,Zj,Q5,Zk,Nat.reduceAdd,Nat.reduceSub,Zl,Zm,Zn,Zo,Zp,Zq];go_wp2_with fail;clear hw1;refine Ng (J:=fun e a y=>e=.normal/\∃ vb sb bt,a = { tmps:=#[.agg #[v0,v1,v2,v3,v4,v5,v6,v7,(.int .u64 (SN:Int)),v9,v10,v11,v12],.int .i64 (room:Int),.pointer (some ⟨w.heap.size,0,none⟩),undef,.pointer none,.pointer (some ⟨vb,0,none⟩),undef,undef,undef,.agg #[v0,v1,v2,v3,v4,v5,v6,v7,(.int .u64 (SN:Int)),v9,v10,v11,v12],.agg #[v0,v1,v2,v3,v4,v5,v6,v7,(.int .u64 (SN:Int)),v9,v10,v11,v12],.pointer (some ⟨bt,0,none⟩),.agg #[v0,v1,v2,v3,v4,v5,v6,v7,(.int .u64 (SN:Int)),v9,v10,v11,v12,.slice none 0 0,.slice none 0 0,.bool false,.pointer (some ⟨bt,0,none⟩),.slice none 0 0,.int .i64 1],.pointer (some ⟨sb,0,none⟩),undef,undef,undef,undef,undef,undef,undef,undef,undef,undef,undef,undef,undef,undef,undef,undef,undef,undef,undef,undef,undef,undef,undef,undef,undef,undef,undef,undef,undef,undef,undef,undef,undef,undef,undef,undef,undef,undef,undef,undef,undef,undef,undef,undef,undef,undef,undef,undef,undef,undef,undef,undef,undef,undef],defers:=[] }/\kX W0 f ts q X room w vb sb 0 (kW ts q room 0) (.slice none 0 0) (fun _=>0) (fun _=>0) (fun _=>[]) bt y) ?r1 ?rest
 case r1=>
  refine wH w1 fun hS=>?_
  refine wN 0 (.agg #[v0,v1,v2,v3,v4,v5,v6,v7,(.int .u64 (SN:Int)),v9,v10,v11,v12]) hS (fun x hx=>?_) ?_
  ·have e0:=qd hx a0 a1 a2 a3 a4 a5 a6 a7 a8 a9 fI fU a12;go_simp
  refine wN 1 (.agg #[v0,v1,v2,v3,v4,v5,v6,v7,(.int .u64 (SN:Int)),v9,v10,v11,v12]) hS (fun x hx=>?_) ?_
  ·have e0:=qd hx a0 a1 a2 a3 a4 a5 a6 a7 a8 a9 fI fU a12;go_simp
  clear a0 a1 a2 a3 a4 a5 a6 a7 a8 a9 fI fU a12;refine wJ 2 5 (fun K hK=>?_) fun K hK=>?_
  ·skip;go_simp;refine Z7 (su.out _ (fun b=>¬ X b) (HZ.out.next (aG HB1.out hS))) ?_;rintro e y0 ⟨bt,rfl,hT,apv,apw,hb⟩;refine oT hK hS hb fun hS=>?_
   clear hK K;refine wn 3 (.agg #[v0,v1,v2,v3,v4,v5,v6,v7,(.int .u64 (SN:Int)),v9,v10,v11,v12,.slice none 0 0,.slice none 0 0,.bool false,.pointer (some ⟨bt,0,none⟩),.slice none 0 0,.int .i64 1]) hS ?_;have hs0:=hS.size;refine wJ 4 5 (fun K hK=>?_) fun K hK=>?_
   ·skip;go_simp;refine hK.out _ _ (hS.trans (bU _ _ |>.mono hS.size)) fun hS=>?_
    clear hK K;obtain⟨y1,hy1⟩:∃ z,y0.alloc (.cells #[v0,v1,v2,v3,v4,v5,v6,v7,(.int .u64 (SN:Int)),v9,v10,v11,v12,.slice none 0 0,.slice none 0 0,.bool false,.pointer (some ⟨bt,0,none⟩),.slice none 0 0,.int .i64 1] 102)=z:=⟨_,rfl⟩
    have hs1:y1.heap.size=y0.heap.size+1:=by rw[<- hy1]; simp
    have hn1:GB y1 y0.heap.size 102 #[v0,v1,v2,v3,v4,v5,v6,v7,(.int .u64 (SN:Int)),v9,v10,v11,v12,.slice none 0 0,.slice none 0 0,.bool false,.pointer (some ⟨bt,0,none⟩),.slice none 0 0,.int .i64 1]:=by rw[<- hy1]; exact kG _ _
    have hB1:Below y0.heap.size y0 y1:=by rw[<- hy1]; exact bU _ _
    rw[hy1] at hS ⊢;clear hy1;obtain⟨y2,hy2⟩:∃ z,y1.alloc (.cells #[.pointer none] 61)=z:=⟨_,rfl⟩
    have hs2:y2.heap.size=y1.heap.size+1:=by rw[<- hy2]; simp
    have hn2:GB y2 y1.heap.size 61 #[.pointer none]:=by rw[<- hy2]; exact kG _ _
    have hB2:Below y1.heap.size y1 y2:=by rw[<- hy2]; exact bU _ _
    have nR:=Zh hs1;have HS2:=Zh hs2;clear hs1 hs2;refine wR 5 fun K hK=>?_
    go_simp;refine oT hK hS hB2 fun hS=>?_
    clear hK K;clear hy2;have hn1:=hn1.keep (Q9 (s:=fun b=>b<y1.heap.size) hB2 (fun _ h _=>h)) hn1.lt;have hc:y2.cell? ⟨y1.heap.size,0,none⟩=some (.pointer none):=hn2.cell 0;have hf:=hn2.frozen 0;have hlv:w1.heap.size<=y1.heap.size:=by have:=nR.out; omega
    have Er:Hid (Below w1.heap.size w1 (y2.setCell ⟨y1.heap.size,0,none⟩ (.pointer (some ⟨y0.heap.size,0,none⟩)))):=hS.trans ((Zv (s:=fun b=>b≠y1.heap.size) _ _ _ (fun h=>h rfl)).below hS.size (fun b hb=>by omega));have wM:=HST.out y1.heap.size y0.heap.size bt _ Er.out (by have:=nR.out; omega) hlv (by have:=nR.out; omega) (hn2.set 0 (.pointer (some ⟨y0.heap.size,0,none⟩))) (hn1.keep (Zv (s:=fun b=>b≠y1.heap.size) _ _ _ (fun h=>h rfl)) (by have:=nR.out; omega)) (((((hT.mono (G:=fun b=>¬ X b/\b<y0.heap.size) (fun b hl hb=>⟨hb,hl⟩)).below hB1).below hB2).aT (Zv (s:=fun b=>b≠y1.heap.size) _ _ _ (fun h=>h rfl) |>.mono fun b _ hb=>by have:=nR.out; omega)).mono fun b _ hb=>⟨hb.1,by have:=nR.out; omega⟩);clear hn1 hn2 hB1 hB2;refine wR 6 fun K hK=>?_
    go_simp;refine hK.out _ _ (Er.out) (fun hS=>?_);clear hK K;refine wD ?_
    try simp only[Act.put,XM,XN,XO,QK,Qb,Qc]
    exact⟨by trivial,y1.heap.size,y0.heap.size,bt,rfl,wM⟩
   ·skip;go_simp;refine hK.out _ _ (hS.trans (bU _ _ |>.mono hS.size)) fun hS=>?_
    clear hK K;obtain⟨y1,hy1⟩:∃ z,y0.alloc (.cells #[.pointer none] 61)=z:=⟨_,rfl⟩
    have hs1:y1.heap.size=y0.heap.size+1:=by rw[<- hy1]; simp
    have hn1:GB y1 y0.heap.size 61 #[.pointer none]:=by rw[<- hy1]; exact kG _ _
    have hB1:Below y0.heap.size y0 y1:=by rw[<- hy1]; exact bU _ _
    rw[hy1] at hS ⊢;clear hy1;obtain⟨y2,hy2⟩:∃ z,y1.alloc (.cells #[v0,v1,v2,v3,v4,v5,v6,v7,(.int .u64 (SN:Int)),v9,v10,v11,v12,.slice none 0 0,.slice none 0 0,.bool false,.pointer (some ⟨bt,0,none⟩),.slice none 0 0,.int .i64 1] 102)=z:=⟨_,rfl⟩
    have hs2:y2.heap.size=y1.heap.size+1:=by rw[<- hy2]; simp
    have hn2:GB y2 y1.heap.size 102 #[v0,v1,v2,v3,v4,v5,v6,v7,(.int .u64 (SN:Int)),v9,v10,v11,v12,.slice none 0 0,.slice none 0 0,.bool false,.pointer (some ⟨bt,0,none⟩),.slice none 0 0,.int .i64 1]:=by rw[<- hy2]; exact kG _ _
    have hB2:Below y1.heap.size y1 y2:=by rw[<- hy2]; exact bU _ _
    have nR:=Zh hs1;have HS2:=Zh hs2;clear hs1 hs2;refine wR 4 fun K hK=>?_
    go_simp;refine oT hK hS hB2 fun hS=>?_
    clear hK K;clear hy2;have hn1:=hn1.keep (Q9 (s:=fun b=>b<y1.heap.size) hB2 (fun _ h _=>h)) hn1.lt;have hc:y2.cell? ⟨y0.heap.size,0,none⟩=some (.pointer none):=hn1.cell 0;have hf:=hn1.frozen 0;have hlv:w1.heap.size<=y0.heap.size:=by have:=nR.out; omega
    have Er:Hid (Below w1.heap.size w1 (y2.setCell ⟨y0.heap.size,0,none⟩ (.pointer (some ⟨y1.heap.size,0,none⟩)))):=hS.trans ((Zv (s:=fun b=>b≠y0.heap.size) _ _ _ (fun h=>h rfl)).below hS.size (fun b hb=>by omega));have wM:=HST.out y0.heap.size y1.heap.size bt _ Er.out (by have:=nR.out; omega) hlv (by have:=nR.out; omega) (hn1.set 0 (.pointer (some ⟨y1.heap.size,0,none⟩))) (hn2.keep (Zv (s:=fun b=>b≠y0.heap.size) _ _ _ (fun h=>h rfl)) (by have:=nR.out; omega)) (((((hT.mono (G:=fun b=>¬ X b/\b<y0.heap.size) (fun b hl hb=>⟨hb,hl⟩)).below hB1).below hB2).aT (Zv (s:=fun b=>b≠y0.heap.size) _ _ _ (fun h=>h rfl) |>.mono fun b _ hb=>by have:=nR.out; omega)).mono fun b _ hb=>⟨hb.1,by have:=nR.out; omega⟩);clear hn1 hn2 hB1 hB2;refine wR 6 fun K hK=>?_
    go_simp;refine hK.out _ _ (Er.out) (fun hS=>?_);clear hK K;refine wD ?_
    try simp only[Act.put,XM,XN,XO,QK,Qb,Qc]
    exact⟨by trivial,y0.heap.size,y1.heap.size,bt,rfl,wM⟩
  ·skip;go_simp;refine hK.out _ _ (hS.trans (bU _ _ |>.mono hS.size)) fun hS=>?_
   clear hK K;have hs1:(w1.alloc (.cells #[.pointer none] 61)).drew.heap.size=w1.heap.size+1:=by simp
   have hn1:GB (w1.alloc (.cells #[.pointer none] 61)).drew w1.heap.size 61 #[.pointer none]:=kG w1 _;generalize (w1.alloc (.cells #[.pointer none] 61)).drew=y1 at *;have nR:=Zh hs1;clear hs1;have hzF:Fz (fun b=>¬ X b/\b≠w1.heap.size) W0 y1:=by
    have h0:=HZ.out.next (aG HB1.out hS);have h1:=HZ.out.below.size;have h2:=HB1.out.size;have h3:=nR.out;exact⟨h0.below,fun b hb=>⟨h0.low b hb,by have:=hb.lt; omega⟩,fun b hb=>⟨h0.high b hb,by omega⟩⟩
   refine wR 2 fun K hK=>?_
   go_simp;refine Z7 (su.out _ (fun b=>¬ X b/\b≠w1.heap.size) hzF) ?_;rintro e y0 ⟨bt,rfl,hT,apv,apw,hb⟩;refine oT hK hS hb fun hS=>?_
   clear hK K;refine wn 3 (.agg #[v0,v1,v2,v3,v4,v5,v6,v7,(.int .u64 (SN:Int)),v9,v10,v11,v12,.slice none 0 0,.slice none 0 0,.bool false,.pointer (some ⟨bt,0,none⟩),.slice none 0 0,.int .i64 1]) hS ?_;have hs0:=hS.size;have hn1:=hn1.keep (Q9 (s:=fun b=>b<y1.heap.size) hb (fun _ h _=>h)) hn1.lt;obtain⟨y2,hy2⟩:∃ z,y0.alloc (.cells #[v0,v1,v2,v3,v4,v5,v6,v7,(.int .u64 (SN:Int)),v9,v10,v11,v12,.slice none 0 0,.slice none 0 0,.bool false,.pointer (some ⟨bt,0,none⟩),.slice none 0 0,.int .i64 1] 102)=z:=⟨_,rfl⟩
   have hn2:GB y2 y0.heap.size 102 #[v0,v1,v2,v3,v4,v5,v6,v7,(.int .u64 (SN:Int)),v9,v10,v11,v12,.slice none 0 0,.slice none 0 0,.bool false,.pointer (some ⟨bt,0,none⟩),.slice none 0 0,.int .i64 1]:=by rw[<- hy2]; exact kG _ _
   have hB2:Below y0.heap.size y0 y2:=by rw[<- hy2]; exact bU _ _
   refine wR 4 fun K hK=>?_
   go_simp;refine oT hK hS hB2 fun hS=>?_
   clear hK K;clear hy2;have hn1:=hn1.keep (Q9 (s:=fun b=>b<y0.heap.size) hB2 (fun _ h _=>h)) hn1.lt;have hc:y2.cell? ⟨w1.heap.size,0,none⟩=some (.pointer none):=hn1.cell 0;have hf:=hn1.frozen 0;have hlv:w1.heap.size<y0.heap.size:=by have:=nR.out; have:=hb.size; omega
   have Er:Hid (Below w1.heap.size w1 (y2.setCell ⟨w1.heap.size,0,none⟩ (.pointer (some ⟨y0.heap.size,0,none⟩)))):=hS.trans ((Zv (s:=fun b=>b≠w1.heap.size) _ _ _ (fun h=>h rfl)).below hS.size (fun b hb=>by omega));have wM:=HST.out w1.heap.size y0.heap.size bt _ Er.out (by omega) (Qq _) (by omega) (hn1.set 0 (.pointer (some ⟨y0.heap.size,0,none⟩))) (hn2.keep (Zv (s:=fun b=>b≠w1.heap.size) _ _ _ (fun h=>h rfl)) (by omega)) ((((hT.mono (G:=fun b=>(¬ X b/\b≠w1.heap.size)/\b<y0.heap.size) (fun b hl hb=>⟨hb,hl⟩)).below hB2).aT (Zv (s:=fun b=>b≠w1.heap.size) _ _ _ (fun h=>h rfl) |>.mono fun b _ hb=>hb.1.2)).mono fun b _ hb=>⟨hb.1.1,by omega⟩);clear hn1 hn2 hB2;refine wR 6 fun K hK=>?_
   go_simp;refine hK.out _ _ (Er.out) (fun hS=>?_);clear hK K;refine wD ?_
   try simp only[Act.put,XM,XN,XO,QK,Qb,Qc]
   exact⟨by trivial,w1.heap.size,y0.heap.size,bt,rfl,wM⟩
 rintro e a y ⟨rfl,vb,sb,bt,rfl,hB⟩;have HB0:=Zh hB;clear hB;have hc8:y.cell? ⟨w.heap.size,8,none⟩=some (.int .u64 (SN:Int)):=by
  have:=HB0.out.fbg;rw[Kj.out] at this;exact this.cell 8
 obtain⟨ast,asu⟩:=apu;go_wp2;go_loopw [17] (fun iv wr=>∃ k:Nat,k<=SN/\iv=.int .i64 (k:Int)/\Hid (∃ gv gb cp os,kX W0 f ts q X room w vb sb k (kW ts q room k) gv gb cp os bt wr)) (fun iv _=>SN-(intOf iv).toNat)
 case atStart=>exact⟨0,QQ _,rfl,_,_,_,_,HB0.out⟩
 case round=>
  obtain⟨k,hk,rfl,HJ⟩:=hrel;clear hc8;by_cases hlt:k<SN
  ·obtain⟨gv,gb,cp,os,hB⟩:=HJ.out;have FJ:=hB.fbg;rw[Kj.out] at FJ;have a0:wr.cell? ⟨w.heap.size,0,none⟩=some v0:=FJ.cell 0;have a1:wr.cell? ⟨w.heap.size,1,none⟩=some v1:=FJ.cell 1;have a2:wr.cell? ⟨w.heap.size,2,none⟩=some v2:=FJ.cell 2;have a3:wr.cell? ⟨w.heap.size,3,none⟩=some v3:=FJ.cell 3;have a4:wr.cell? ⟨w.heap.size,4,none⟩=some v4:=FJ.cell 4;have a5:wr.cell? ⟨w.heap.size,5,none⟩=some v5:=FJ.cell 5;have a6:wr.cell? ⟨w.heap.size,6,none⟩=some v6:=FJ.cell 6;have a7:wr.cell? ⟨w.heap.size,7,none⟩=some v7:=FJ.cell 7;have a8:wr.cell? ⟨w.heap.size,8,none⟩=some (.int .u64 (SN:Int)):=FJ.cell 8;have a9:wr.cell? ⟨w.heap.size,9,none⟩=some v9:=FJ.cell 9;have fI:wr.cell? ⟨w.heap.size,10,none⟩=some v10:=FJ.cell 10;have fU:wr.cell? ⟨w.heap.size,11,none⟩=some v11:=FJ.cell 11;have a12:wr.cell? ⟨w.heap.size,12,none⟩=some v12:=FJ.cell 12;have hUO:=HUO.out wr _ k hB.fz (by omega);obtain⟨ga,gm,gc,rfl⟩:=ZA hB.own;have HB:=Zh hB;clear hB FJ HJ;go_wp2_with fail;refine hUO.mono ?_;rintro e z1 ⟨v,ol,rfl,hO,hox,hbz⟩;have hol:0<ol.length/\ol.length<=18:=by
    have h1:=HUK.out k;have h2:=congrArg List.length hox;rw[QU] at h2;omega
   obtain⟨ob,oc,rfl,awu,awv,zb,hcells⟩:=WM hO hol.1;have Tc:=Zh (HB.out.below hbz);have HOX:=Zh hox;have HOE:=Zh hO.each;have HCE:=Zh hcells;have HOB:=Zh zb;clear hUO hO hox hbz zb hcells a0 a1 a2 a3 a4 a5 a6 a7 a8 a9 fI fU a12;go_wp2_with fail;have hv:z1.cell? ⟨vb,0,none⟩=some (.pointer (some ⟨sb,0,none⟩)):=Tc.out.var.cell 0;have afS:=Tc.out.Nh.2.2;have hbk:=Tc.out.blk;rw[Kj.out] at hbk;have apx:z1.cell? ⟨sb,15,none⟩=some (.bool (kW ts q room k)):=hbk.cell 15;have apy:=hbk.frozen 15;have tY:Hid (kW ts q room (k+1)=(kW ts q room k || decide (room<ol.length))):=by
    show _=_
    rw[SX,<- HOX.out,QU]
   refine Ng (J:=fun e a y=>e=.normal/\∃ t24 t25 t26 t27 t28 t29 t30 t31 t32 t33 t34 t35 t36,a = { tmps:=#[.agg #[v0,v1,v2,v3,v4,v5,v6,v7,(.int .u64 (SN:Int)),v9,v10,v11,v12],.int .i64 (room:Int),.pointer (some ⟨w.heap.size,0,none⟩),undef,.pointer none,.pointer (some ⟨vb,0,none⟩),.int .i64 (k:Int),.slice (some ⟨ob,0,none⟩) ol.length oc,undef,.agg #[v0,v1,v2,v3,v4,v5,v6,v7,(.int .u64 (SN:Int)),v9,v10,v11,v12],.agg #[v0,v1,v2,v3,v4,v5,v6,v7,(.int .u64 (SN:Int)),v9,v10,v11,v12],.pointer (some ⟨bt,0,none⟩),.agg #[v0,v1,v2,v3,v4,v5,v6,v7,(.int .u64 (SN:Int)),v9,v10,v11,v12,.slice none 0 0,.slice none 0 0,.bool false,.pointer (some ⟨bt,0,none⟩),.slice none 0 0,.int .i64 1],.pointer (some ⟨sb,0,none⟩),.pointer (some ⟨w.heap.size,8,none⟩),.int .u64 (SN:Int),.int .i64 (SN:Int),.int .i64 (k:Int),.bool true,.int .i64 (k:Int),.agg #[v0,v1,v2,v3,v4,v5,v6,v7,(.int .u64 (SN:Int)),v9,v10,v11,v12],.int .i64 (k:Int),.int .u64 (k:Int),.slice (some ⟨ob,0,none⟩) ol.length oc,t24,t25,t26,t27,t28,t29,t30,t31,t32,t33,t34,t35,t36,u37,u38,u39,u40,u41,u42,u43,u44,u45,u46,u47,u48,u49,u50,u51,u52,u53,undef,undef,undef,undef,undef,undef,undef,undef,undef,undef,undef,undef,undef,undef],defers:=[] }/\kX W0 f ts q X room w vb sb k (kW ts q room (k+1)) (.slice ga gm gc) gb cp os bt y/\Kept (fun b=>b≠sb) z1 y) ?r6 ?asC
   case r6=>
    have wM:Hid (∀ y,Kept (fun b=>b≠sb) z1 y->GB y sb 102 (f.cells ts q++Jt (.slice ga gm gc) (kW ts q room (k+1)) bt)->kX W0 f ts q X room w vb sb k (kW ts q room (k+1)) (.slice ga gm gc) gb cp os bt y):=fun y hy hg=>Tc.out.flag hy hg
    have VW:Hid (GB (z1.setCell ⟨sb,15,none⟩ (.bool (kW ts q room (k+1)))) sb 102 (f.cells ts q++Jt (.slice ga gm gc) (kW ts q room (k+1)) bt)):=by
     have:=hbk.set 15 (.bool (kW ts q room (k+1)))
     show GB _ _ _ _
     rw[Kj.out];exact this
    clear hbk Tc HB;generalize kW ts q room (k+1)=c2 at *;generalize kW ts q room k=c1 at *;refine QL (S:=fun x=>Kept (fun b=>b≠sb) z1 x) (by kernel_rfl) (Q9 ((Qp _ _).drew) (fun _ h _=>h)) (fun hS=>?_);refine wN 0 (.pointer (some ⟨sb,0,none⟩)) hS (fun x hx=>?_) ?_
    ·have e0:=XP hx hv afS;go_simp
    refine wN 1 (.pointer (some ⟨sb,0,none⟩)) hS (fun x hx=>?_) ?_
    ·have e0:=XP hx hv afS;go_simp
    refine wn 2 (.pointer (some ⟨sb,0,none⟩)) hS ?_;refine wn 3 (.pointer (some ⟨sb,15,none⟩)) hS ?_;refine wR 4 fun K hK=>?_
    go_simp;refine hK.out _ _ hS fun hS=>?_
    clear hK K;refine wn 5 (.bool c1) hS ?_
    cases c1 with
    | true =>
     have hc2:c2=true:=by rw[tY.out]; rfl
     clear tY;subst hc2;refine Qa (i:=6) (v:=undef) rfl (by kernel_rfl) (by kernel_rfl) (by kernel_rfl) (fun _ _ _ h=>by cases h.1) (.inr ⟨by kernel_rfl,rfl⟩) hS ?_;refine Qa (i:=7) (v:=undef) rfl (by kernel_rfl) (by kernel_rfl) (by kernel_rfl) (fun _ _ _ h=>by cases h.1) (.inr ⟨by kernel_rfl,rfl⟩) hS ?_;refine Qa (i:=8) (v:=undef) rfl (by kernel_rfl) (by kernel_rfl) (by kernel_rfl) (fun _ _ _ h=>by cases h.1) (.inr ⟨by kernel_rfl,rfl⟩) hS ?_;refine Qa (i:=9) (v:=undef) rfl (by kernel_rfl) (by kernel_rfl) (by kernel_rfl) (fun _ _ _ h=>by cases h.1) (.inr ⟨by kernel_rfl,rfl⟩) hS ?_;refine wn 10 (.bool true) hS ?_;refine wn 11 (.pointer (some ⟨sb,0,none⟩)) hS ?_;refine wn 12 (.pointer (some ⟨sb,15,none⟩)) hS ?_;refine wR 13 fun K hK=>?_
     go_simp;refine hK.out _ _ (hS.trans (Zv _ _ _ (fun h=>h rfl))) (fun hS=>?_);clear hK K;refine wD ?_
     try simp only[Act.put,XM,XN,XO,QK,Qb,Qc]
     exact⟨by trivial,_,_,_,_,_,_,_,_,_,_,_,_,_,rfl,wM.out _ hS VW.out,hS⟩
    | false =>
     by_cases hgt:room<ol.length
     ·have hc2:c2=true:=by rw[tY.out]; simp[hgt]
      clear tY;subst hc2;refine wm 6 (.slice (some ⟨ob,0,none⟩) ol.length oc) hS ?_;refine wm 7 (.int .i64 (ol.length:Int)) hS ?_;refine wm 8 (.int .i64 (room:Int)) hS ?_;refine wm 9 (.bool true) hS ?_;refine wn 10 (.bool true) hS ?_;refine wn 11 (.pointer (some ⟨sb,0,none⟩)) hS ?_;refine wn 12 (.pointer (some ⟨sb,15,none⟩)) hS ?_;refine wR 13 fun K hK=>?_
      go_simp;refine hK.out _ _ (hS.trans (Zv _ _ _ (fun h=>h rfl))) (fun hS=>?_);clear hK K;refine wD ?_
      try simp only[Act.put,XM,XN,XO,QK,Qb,Qc]
      exact⟨by trivial,_,_,_,_,_,_,_,_,_,_,_,_,_,rfl,wM.out _ hS VW.out,hS⟩
     ·have hc2:c2=false:=by rw[tY.out]; simp[hgt]
      clear tY;subst hc2;refine wm 6 (.slice (some ⟨ob,0,none⟩) ol.length oc) hS ?_;refine wm 7 (.int .i64 (ol.length:Int)) hS ?_;refine wm 8 (.int .i64 (room:Int)) hS ?_;refine wm 9 (.bool false) hS ?_;refine wn 10 (.bool false) hS ?_;refine wn 11 (.pointer (some ⟨sb,0,none⟩)) hS ?_;refine wn 12 (.pointer (some ⟨sb,15,none⟩)) hS ?_;refine wR 13 fun K hK=>?_
      go_simp;refine hK.out _ _ (hS.trans (Zv _ _ _ (fun h=>h rfl))) (fun hS=>?_);clear hK K;refine wD ?_
      try simp only[Act.put,XM,XN,XO,QK,Qb,Qc]
      exact⟨by trivial,_,_,_,_,_,_,_,_,_,_,_,_,_,rfl,wM.out _ hS VW.out,hS⟩
   rintro e a z2 ⟨rfl,t24,t25,t26,t27,t28,t29,t30,t31,t32,t33,t34,t35,t36,rfl,hB2,xM⟩;have HB2:=Zh hB2;clear hv apx apy hbk tY;obtain⟨m,hm⟩:∃ m,m=min room ol.length:=⟨_,rfl⟩
   have hm1:1<=m/\m<=ol.length/\m<=room:=by omega
   have HMI:Hid ((if (ol.length:Int)<(room:Int) then (ol.length:Int) else (room:Int))=(m:Int)/\min (room:Int) (ol.length:Int)=(m:Int)):=⟨by split <;> omega,by omega⟩
   have HUN:Hid ((ol.take m).map ah.xs=xR ts q room k):=by
    show _=_
    unfold xR;rw[<- HOX.out,List.map_take,hm];by_cases h:room<=ol.length
    ·rw[Qy h]
    ·rw[Nat.min_eq_right (by omega),ZY (by simp),ZY (by rw[QU]; omega)]
   have apz:=HB.out.blk.lt;have hcz:aY z2 (some ⟨ob,0,none⟩) m (fun i=>((ol.take m).getD i dU).val):=fun i hi=>by
    obtain⟨b,off,e,hc⟩:=HCE.out m hm1.2.1 i hi;injection e with e;injection e with e1 e2;subst e1;refine⟨ob,off,by rw[<- e2],XP xM hc ?_⟩;have:=HOB.out;omega
   have hoz:∀ o∈ol.take m,IntsIn (fun b=>GX X sb k (.slice ga gm gc) gb b/\b<z2.heap.size) z2 o/\o.xs.length<=1000:=fun o ho=>by
    have h1:=HOE.out o (ZX ho);refine⟨?_,h1.2⟩;have h2:=h1.1.mono (G:=fun b=>GX X sb k (.slice ga gm gc) gb b/\b<z1.heap.size) (fun b hl hb=>⟨hb.1,hl⟩);exact (h2.aT (xM.mono fun b _ hb=>hb.1.2.1)).mono fun b _ hb=>⟨hb.1,Q8 hb.2 xM.size⟩
   have hlm:(ol.take m).length=m:=by rw[Q6]; omega
   have Y2:Hid (∀ x,Below z2.heap.size z2 x->Calls Tryz.prog 68 #[.slice (some ⟨ob,0,none⟩) m oc] x fun e w'=>∃ gn cn,e=.returned (.slice (some ⟨gn,0,none⟩) m cn)/\x.heap.size<=gn/\gn<w'.heap.size/\m<=cn/\cn<=9223372036854775807/\aX 120 195 (fun b=>GX X sb k (.slice ga gm gc) gb b/\b<z2.heap.size) w' gn (fun _=>0) (ol.take m) (dz (xR ts q room k))/\Below x.heap.size x w'):=fun x hx=>by
    have:=Cs (F:=fun b=>GX X sb k (.slice ga gm gc) gb b/\b<z2.heap.size) (w:=x) (ol.take m) (some ⟨ob,0,none⟩) oc (by rw[hlm]; exact aY.below hx hcz) (fun o ho=>⟨(hoz o ho).1.below hx,(hoz o ho).2⟩) (by omega) (by omega) (fun _=>0);rw[HUN.out,hlm] at this;exact this
   have HNL:Hid ((dz (xR ts q room k)).length=m):=by
    show _=_
    rw[<- HUN.out];unfold dz;rw[QU,QU,hlm]
   have hv:z2.cell? ⟨vb,0,none⟩=some (.pointer (some ⟨sb,0,none⟩)):=HB2.out.var.cell 0;have hn2:=HB2.out.ne;have hvs:vb≠sb/\(Value.slice ga gm gc).ownBlock≠some vb:=⟨afS,hn2.2.1⟩
   have hbk:=HB2.out.blk;rw[Kj.out] at hbk;have aar:z2.cell? ⟨sb,13,none⟩=some (.slice ga gm gc):=hbk.cell 13;have zt:Hid (∀ (y2:World) (gn cn:Nat),Below z2.heap.size z2 y2->z2.heap.size<=gn->gn<y2.heap.size->m<=cn->cn<=9223372036854775807->aX 120 195 (fun b=>GX X sb k (.slice ga gm gc) gb b/\b<z2.heap.size) y2 gn (fun _=>0) (ol.take m) (dz (xR ts q room k))->y2.cell? ⟨sb,13,none⟩=some (.slice ga gm gc)/\(y2.alloc (.cells #[.slice (some ⟨gn,0,none⟩) m cn] 137)).cell? ⟨sb,13,none⟩=some (.slice ga gm gc)/\∃ pa pm pc y4,(Builtin.append_ #[97,97] 97 #[.slice ga gm gc,.slice (some ⟨y2.heap.size,0,none⟩) 1 1]).run Tryz.prog (y2.alloc (.cells #[.slice (some ⟨gn,0,none⟩) m cn] 137))=.ok (.slice pa pm pc) y4/\y4.cell? ⟨sb,13,none⟩=some (.slice ga gm gc)/\y4.frozen? ⟨sb,13,none⟩=false/\Kept (fun b=>b≠sb/\(Value.slice ga gm gc).ownBlock≠some b) z2 y4/\Kept (fun b=>b≠sb/\(Value.slice ga gm gc).ownBlock≠some b) z2 (y2.alloc (.cells #[.slice (some ⟨gn,0,none⟩) m cn] 137))/\Kept (fun b=>b≠sb/\(Value.slice ga gm gc).ownBlock≠some b) z2 y2/\∃ gb2 cp2 os2,kX W0 f ts q X room w vb sb (k+1) (kW ts q room (k+1)) (.slice pa pm pc) gb2 cp2 os2 bt (y4.setCell ⟨sb,13,none⟩ (.slice pa pm pc))):=fun y2 gn cn hb2 hg1 hg2 hc1 hc2 hG=>by
    have hbk2:=hbk.keep (Q9 (s:=fun b=>b<z2.heap.size) hb2 (fun _ h _=>h)) hbk.lt;have hown2:=Z0 HB2.out.own hb2;obtain⟨v',y4,hr4,mU,hk4,⟨pa,pm,pc,rfl⟩,A7⟩:=Ju y2 w.heap.size (.slice ga gm gc) k _ hown2 (by omega) (Q4 HB2.out.old.size hb2.size) (some ⟨gn,0,none⟩) m cn 97;have hkz:Kept (fun b=>b≠sb/\(Value.slice ga gm gc).ownBlock≠some b) z2 y2:=Q9 hb2 (fun _ h _=>h);have aj2:Kept (fun b=>b≠sb/\(Value.slice ga gm gc).ownBlock≠some b) y2 y4:=hk4.mono fun b _ hb=>hb.2
    have abL:=hbk2.keep hk4 hn2.1;have hks:Kept (fun b=>b≠sb) y4 (y4.setCell ⟨sb,13,none⟩ (.slice pa pm pc)):=Zv _ _ _ (fun h=>h rfl);refine⟨hbk2.cell 13,(hbk2.keep (Zc (s:=fun _=>True) _ _) trivial).cell 13,pa,pm,pc,y4,hr4,abL.cell 13,abL.frozen 13,hkz.trans aj2,hkz.trans (Zc _ _),hkz,_,_,_,HB2.out.push (Qp _ _) hb2 hG ⟨hg1,hg2⟩ (by rw[HNL.out]; exact⟨hc1,hc2⟩) (Zx (by rw[HNL.out]; exact mU) hks (fun g e e2=>XR mU abL (by decide) (e2 ▸ e))) (aj2.trans (hks.mono fun b _ hb=>hb.1)) A7 ?_⟩;have:=abL.set 13 (.slice pa pm pc);rw[Kj.out];exact this
   go_wp2_with fail;refine Ng (J:=fun e a y=>e=.normal/\∃ s37 s38 s39 s40 s41 s42 s43 s44 s45 s46 s47 s48 s49 s50 s51 s52,a = { tmps:=#[.agg #[v0,v1,v2,v3,v4,v5,v6,v7,(.int .u64 (SN:Int)),v9,v10,v11,v12],.int .i64 (room:Int),.pointer (some ⟨w.heap.size,0,none⟩),undef,.pointer none,.pointer (some ⟨vb,0,none⟩),.int .i64 (k:Int),.slice (some ⟨ob,0,none⟩) ol.length oc,undef,.agg #[v0,v1,v2,v3,v4,v5,v6,v7,(.int .u64 (SN:Int)),v9,v10,v11,v12],.agg #[v0,v1,v2,v3,v4,v5,v6,v7,(.int .u64 (SN:Int)),v9,v10,v11,v12],.pointer (some ⟨bt,0,none⟩),.agg #[v0,v1,v2,v3,v4,v5,v6,v7,(.int .u64 (SN:Int)),v9,v10,v11,v12,.slice none 0 0,.slice none 0 0,.bool false,.pointer (some ⟨bt,0,none⟩),.slice none 0 0,.int .i64 1],.pointer (some ⟨sb,0,none⟩),.pointer (some ⟨w.heap.size,8,none⟩),.int .u64 (SN:Int),.int .i64 (SN:Int),.int .i64 (k:Int),.bool true,.int .i64 (k:Int),.agg #[v0,v1,v2,v3,v4,v5,v6,v7,(.int .u64 (SN:Int)),v9,v10,v11,v12],.int .i64 (k:Int),.int .u64 (k:Int),.slice (some ⟨ob,0,none⟩) ol.length oc,t24,t25,t26,t27,t28,t29,t30,t31,t32,t33,t34,t35,t36,s37,s38,s39,s40,s41,s42,s43,s44,s45,s46,s47,s48,s49,s50,s51,s52,u53,undef,undef,undef,undef,undef,undef,undef,undef,undef,undef,undef,undef,undef,undef],defers:=[] }/\∃ gv gb cp os,kX W0 f ts q X room w vb sb (k+1) (kW ts q room (k+1)) gv gb cp os bt y) ?r7 ?asQ
   case r7=>
    clear hcz hoz hm hB2 xM apz;refine QL (S:=fun x=>Kept (fun b=>b≠sb/\(Value.slice ga gm gc).ownBlock≠some b) z2 x) (by kernel_rfl) (Q9 ((Qp _ _).drew) (fun _ h _=>h)) (fun hS=>?_);refine wN 0 (.pointer (some ⟨sb,0,none⟩)) hS (fun x hx=>?_) ?_
    ·have e0:=XP hx hv hvs;go_simp
    refine wN 1 (.pointer (some ⟨sb,0,none⟩)) hS (fun x hx=>?_) ?_
    ·have e0:=XP hx hv hvs;go_simp
    refine wn 2 (.pointer (some ⟨sb,0,none⟩)) hS ?_;refine wn 3 (.pointer (some ⟨sb,13,none⟩)) hS ?_;refine wn 5 (.slice (some ⟨ob,0,none⟩) ol.length oc) hS ?_;refine wn 6 (.int .i64 (room:Int)) hS ?_;refine wn 7 (.slice (some ⟨ob,0,none⟩) ol.length oc) hS ?_;refine wn 8 (.int .i64 (ol.length:Int)) hS ?_;refine wN 9 (.int .i64 (m:Int)) hS (fun x hx=>?_) ?_
    ·obtain⟨e1,e2⟩:=HMI.out;clear hm1 HMI hS hol;go_simp
    refine wN 10 (.slice (some ⟨ob,0,none⟩) m oc) hS (fun x hx=>?_) ?_
    ·have hmo:¬ oc<m:=by omega
     go_simp
    refine wJ 4 11 (fun K hK=>?_) fun K hK=>?_
    ·skip;go_simp;refine hK.out _ _ hS fun hS=>?_
     clear hK K;refine wR 11 fun K hK=>?_
     go_simp;refine Z7 (Y2.out _ ((Qp _ _).drew)) ?_;rintro e y2 ⟨gn,cn,rfl,hg1,hg2,afT,afU,hGR,hbc⟩;obtain⟨hx2,hxa,pa,pm,pc,y4,hr4,hc4,hf4,hk4,hka,hk2,gb2,cp2,os2,hBS⟩:=zt.out y2 gn cn (aG ((Qp _ _).drew) hbc) hg1 hg2 afT afU hGR;have xI:=Zh hBS;clear hBS hGR;refine hK.out _ _ hk2 fun hS=>?_
     clear hK K;refine wR 12 fun K hK=>?_
     go_simp;refine hK.out _ _ hka fun hS=>?_
     clear hK K;refine wR 13 fun K hK=>?_
     refine Xv (by rfl) _ _ _ (by rfl) (.slice ga gm gc) (.slice (some ⟨y2.heap.size,0,none⟩) 1 1) (.slice pa pm pc) y4 (by rfl) (by rfl) hr4 ?_;refine hK.out _ _ hk4 fun hS=>?_
     clear hK K;clear hr4 hx2 hxa;refine wn 14 (.pointer (some ⟨sb,0,none⟩)) hS ?_;refine wn 15 (.pointer (some ⟨sb,13,none⟩)) hS ?_;refine wR 16 fun K hK=>?_
     go_simp;refine hK.out _ _ (hk4.trans (Zv _ _ _ (fun h=>h.1 rfl))) (fun hS=>?_);clear hK K;refine wD ?_
     try simp only[Act.put,XM,XN,XO,QK,Qb,Qc]
     exact⟨by trivial,_,_,_,_,_,_,_,_,_,_,_,_,_,_,_,_,rfl,_,_,_,_,xI.out⟩
    ·skip;go_simp;refine Z7 (Y2.out _ ((Qp _ _).drew)) ?_;rintro e y2 ⟨gn,cn,rfl,hg1,hg2,afT,afU,hGR,hbc⟩;obtain⟨hx2,hxa,pa,pm,pc,y4,hr4,hc4,hf4,hk4,hka,hk2,gb2,cp2,os2,hBS⟩:=zt.out y2 gn cn (aG ((Qp _ _).drew) hbc) hg1 hg2 afT afU hGR;have xI:=Zh hBS;clear hBS hGR;refine hK.out _ _ hk2 fun hS=>?_
     clear hK K;refine wJ 4 12 (fun K hK=>?_) fun K hK=>?_
     ·skip;go_simp;refine hK.out _ _ hS fun hS=>?_
      clear hK K;refine wR 12 fun K hK=>?_
      go_simp;refine hK.out _ _ hka fun hS=>?_
      clear hK K;refine wR 13 fun K hK=>?_
      refine Xv (by rfl) _ _ _ (by rfl) (.slice ga gm gc) (.slice (some ⟨y2.heap.size,0,none⟩) 1 1) (.slice pa pm pc) y4 (by rfl) (by rfl) hr4 ?_;refine hK.out _ _ hk4 fun hS=>?_
      clear hK K;clear hr4 hx2 hxa;refine wn 14 (.pointer (some ⟨sb,0,none⟩)) hS ?_;refine wn 15 (.pointer (some ⟨sb,13,none⟩)) hS ?_;refine wR 16 fun K hK=>?_
      go_simp;refine hK.out _ _ (hk4.trans (Zv _ _ _ (fun h=>h.1 rfl))) (fun hS=>?_);clear hK K;refine wD ?_
      try simp only[Act.put,XM,XN,XO,QK,Qb,Qc]
      exact⟨by trivial,_,_,_,_,_,_,_,_,_,_,_,_,_,_,_,_,rfl,_,_,_,_,xI.out⟩
     ·skip;go_simp;refine hK.out _ _ hka fun hS=>?_
      clear hK K;refine wR 4 fun K hK=>?_
      go_simp;refine hK.out _ _ hS fun hS=>?_
      clear hK K;refine wR 13 fun K hK=>?_
      refine Xv (by rfl) _ _ _ (by rfl) (.slice ga gm gc) (.slice (some ⟨y2.heap.size,0,none⟩) 1 1) (.slice pa pm pc) y4 (by rfl) (by rfl) hr4 ?_;refine hK.out _ _ hk4 fun hS=>?_
      clear hK K;clear hr4 hx2 hxa;refine wn 14 (.pointer (some ⟨sb,0,none⟩)) hS ?_;refine wn 15 (.pointer (some ⟨sb,13,none⟩)) hS ?_;refine wR 16 fun K hK=>?_
      go_simp;refine hK.out _ _ (hk4.trans (Zv _ _ _ (fun h=>h.1 rfl))) (fun hS=>?_);clear hK K;refine wD ?_
      try simp only[Act.put,XM,XN,XO,QK,Qb,Qc]
      exact⟨by trivial,_,_,_,_,_,_,_,_,_,_,_,_,_,_,_,_,rfl,_,_,_,_,xI.out⟩
   rintro e a z3 ⟨rfl,s37,s38,s39,s40,s41,s42,s43,s44,s45,s46,s47,s48,s49,s50,s51,s52,rfl,hJ⟩;have Hm:=Zh hJ;clear hJ hv hbk aar hvs hn2 hcz hoz hB2 xM HB2 HB Tc zt Y2;go_wp2;go_roundw
   case rel=>exact⟨k+1,by omega,by go_num,Hm.out⟩
   case measure=>simp[intOf]; omega
  ·obtain⟨gv,gb,cp,os,hB⟩:=HJ.out;have hkS:k=SN:=by omega
   have FJ:=hB.fbg;rw[Kj.out] at FJ;have hc8:wr.cell? ⟨w.heap.size,8,none⟩=some (.int .u64 (SN:Int)):=FJ.cell 8;have HKS:=Zh hkS;have HB:=Zh hB;clear hB FJ HJ hkS;go_wp2;obtain⟨L,hLa,hLp,hA⟩:=HB.out.search (by have:=HKS.out; omega);have HA:=Zh hA;have HLA:Hid (L.av=.slice none 0 0/\L.pv=.slice none 0 0):=⟨hLa,hLp⟩
   clear hA hLa hLp hc8;have VW:Hid (GB wr sb 102 (#[v0,v1,v2,v3,v4,v5,v6,v7,(.int .u64 (SN:Int)),v9,v10,v11,v12,gv,.slice none 0 0,.bool (kW ts q room k),.pointer (some ⟨bt,0,none⟩),.slice none 0 0,.int .i64 1].setIfInBounds 14 (.slice none 0 0))):=by
    have:=HB.out.blk;rw[Kj.out] at this;exact this
   obtain⟨arr,harr⟩:∃ a:Array Value,a=#[v0,v1,v2,v3,v4,v5,v6,v7,(.int .u64 (SN:Int)),v9,v10,v11,v12,gv,.slice none 0 0,.bool (kW ts q room k),.pointer (some ⟨bt,0,none⟩),.slice none 0 0,.int .i64 1]:=⟨_,rfl⟩
   have apC:=Zh harr;rw[<- harr] at VW;clear harr;have HV:Hid (wr.cell? ⟨vb,0,none⟩=some (.pointer (some ⟨sb,0,none⟩))/\vb<wr.heap.size/\vb≠sb/\sb<wr.heap.size/\w.heap.size<=sb/\W0.heap.size<=wr.heap.size):=⟨HB.out.var.cell 0,HB.out.var.lt,HB.out.Nh.2.2,HB.out.blk.lt,by have:=HB.out.Nh.1; omega,HB.out.hz.below.size⟩
   have HOL:=Zh HB.out.old;have ug:Hid (arr.size=19):=by show _=_; rw[apC.out]; rfl
   have WV:=Zh HRG.out;refine (wpIn_wide (n:=0)).1 (rT jA (gf:=69) (s:=.int .u64 (SN:Int)) rfl (enters_of Tryz.func69 (by kernel_rfl) rfl) (HSQ.out w) HOL.out rfl (fun pre o1 W=>WU wr sb W0.heap.size arr pre o1 W) (fun b=>b=sb) ?_ ?_ ⟨⟨.slice none 0 0,VW.out,ZE _ _ _ _,fun b=>by simp[Value.ownBlock],fun b e=>by cases e⟩,Q7 _ _⟩ (fun x=>{ tmps:=#[.agg #[v0,v1,v2,v3,v4,v5,v6,v7,(.int .u64 (SN:Int)),v9,v10,v11,v12],.int .i64 (room:Int),.pointer (some ⟨w.heap.size,0,none⟩),undef,.pointer none,.pointer (some ⟨vb,0,none⟩),u6,u7,.int .i64 (x:Int),.agg #[v0,v1,v2,v3,v4,v5,v6,v7,(.int .u64 (SN:Int)),v9,v10,v11,v12],.agg #[v0,v1,v2,v3,v4,v5,v6,v7,(.int .u64 (SN:Int)),v9,v10,v11,v12],.pointer (some ⟨bt,0,none⟩),.agg #[v0,v1,v2,v3,v4,v5,v6,v7,(.int .u64 (SN:Int)),v9,v10,v11,v12,.slice none 0 0,.slice none 0 0,.bool false,.pointer (some ⟨bt,0,none⟩),.slice none 0 0,.int .i64 1],.pointer (some ⟨sb,0,none⟩),.pointer (some ⟨w.heap.size,8,none⟩),.int .u64 (SN:Int),.int .i64 (SN:Int),.int .i64 (k:Int),.bool false,u19,u20,u21,u22,u23,u24,u25,u26,u27,u28,u29,u30,u31,u32,u33,u34,u35,u36,u37,u38,u39,u40,u41,u42,u43,u44,u45,u46,u47,u48,u49,u50,u51,u52,u53,.pointer (some ⟨w.heap.size,8,none⟩),.int .u64 (SN:Int),.func (.func 69) #[.int .u64 (SN:Int)] #[],.int .i64 (x:Int),undef,undef,undef,undef,undef,undef,undef,undef,undef,undef],defers:=[] }) ?assign ?body ?done)
   ·rintro b rfl;exact⟨HV.out.2.2.2.2.1,HV.out.2.2.2.1⟩
   ·intro pre o1 A B h hk;exact h.keep hk
   case assign=>
    intro l x W K hK;have he:jA.enc x=.int .i64 (x:Int):=rfl
    gi_wp2
    exact hK
   case body=>
    intro l pre x o1 W hI hpre hx hoff hsz;have hx5:x<5:=by
     have h0:=tZ (by simpa [jA] using hpre);rw[WV.out] at h0;have:=Z4.1 h0;omega
    have hp5:pre.length<=5:=by
     have h0:=hpre.length_le;rw[WV.out,QU,QT,QV] at h0;simp at h0;omega
    have hpx:∀ y∈pre,y<5:=fun y hy=>by
     have h0:y∈bz SN:=by
      have:=hpre.subset (Q0.2 ⟨y,List.mem_append_left _ hy,rfl⟩);exact this
     rw[WV.out] at h0;have:=Z4.1 h0;omega
    obtain⟨⟨av,hgb,hown,sU,hfr⟩,rO⟩:=hI;have hvs:vb≠sb/\av.ownBlock≠some vb:=⟨HV.out.2.2.1,fun e=>by have:=hfr _ e; have:=HV.out.2.1; omega⟩
    have hv:=XP rO HV.out.1 hvs.1;have hx32:2 ^ x<32:=by
     have:2 ^ x<2 ^ 5:=ZW (by omega) hx5;omega
    have HAD:Hid (∀ (y:World) (tb:Nat),Below W.heap.size W y->W.heap.size<=tb->y.cell? ⟨tb,0,none⟩=some (.int .u64 ((2 ^ x:Nat):Int))->y.cell? ⟨tb,1,none⟩=some (.int .u64 0)->Calls Tryz.prog 70 #[.pointer (some ⟨sb,14,none⟩),.slice (some ⟨tb,0,none⟩) 1 1] y fun e w'=>(∃ v,e=.returned v)/\Kept (fun b=>b≠sb/\av.ownBlock≠some b) W w'/\∃ o2,WU wr sb W0.heap.size arr (pre++[x]) o2 w'/\Kept (fun b=>¬ o1 b) W w'/\∀ b,o2 b->o1 b∨(W.heap.size<=b/\b<w'.heap.size)):=fun y tb hy ht c0 c1=>by
     have hky:Kept (fun b=>b<W.heap.size) W y:=Q9 hy (fun _ h _=>h);have hgy:=hgb.keep hky hgb.lt;have h14:(arr.setIfInBounds 14 av)[14]? = some av:=by rw[Array.getElem?_setIfInBounds_self]; rw[Qr (by rw[ug.out]; omega)]
     have:=IP sb W0.heap.size _ av (S9 pre) [(2 ^ x,0)] (some ⟨tb,0,none⟩) 1 y hgy h14 (Z0 hown hy) (by have:=HV.out; have:=rO.size; have:=hy.size; omega) ⟨by simp,fun i hi=>⟨tb,0,rfl,by
      have hi0:i=0:=by simpa using hi
      subst hi0;exact⟨c0,c1⟩⟩⟩ (fun a e=>by
      injection e with e;rw[<- e];refine⟨?_,fun e2=>?_⟩
      ·have:=hgb.lt
       show tb≠sb
       omega
      ·have h3:=(Zy hown e2).2;have h4:tb<W.heap.size:=h3;omega) (by have:=(WS pre hpx).2; simp only[Q5,Zk]; omega) (WS pre hpx).1 (fun a ha=>by
      rw[QY] at ha;rw[ha];exact⟨hx32,by show 0<32; omega⟩)
     refine this.mono ?_;rintro e w3 ⟨hv3,av3,g3,o3,k3,t3⟩;have hkW:=(Q9 (s:=fun b=>b≠sb/\av.ownBlock≠some b) hy (fun _ h _=>h)).trans k3;rw[XT] at g3;refine⟨hv3,hkW,fun b=>b=sb∨av3.ownBlock=some b,⟨⟨av3,g3,by rw[WR]; exact o3,fun b=>Iff.rfl,fun b e=>?_⟩,rO.trans' hkW (fun b hl hb=>⟨hb,fun e=>by have:=hfr b e; omega⟩)⟩,hkW.mono fun b _ hb=>⟨fun e=>hb ((sU b).2 (.inl e)),fun e=>hb ((sU b).2 (.inr e))⟩,?_⟩
     ·rcases t3 with t3 | ⟨g,t3,hg⟩
      ·exact hfr b (t3 ▸ e)
      ·rw[t3] at e;injection e with e;have:=rO.size;have:=hy.size;omega
     ·rintro b (rfl | hb)
      ·exact .inl ((sU _).2 (.inl rfl))
      ·rcases t3 with t3 | ⟨g,t3,hg⟩
       ·exact .inl ((sU b).2 (.inr (t3 ▸ hb)))
       ·have h5:=(Zy o3 hb).2;rw[t3] at hb;injection hb with hb;have:=hy.size;exact .inr ⟨by omega,h5⟩
    clear hoff hsz hx hpre hgb hown sU hfr rO hpx hp5
    gi_wp2_with fail
    refine vZ (S:=fun x=>Kept (fun b=>b≠sb/\av.ownBlock≠some b) W x) (by kernel_rfl) (by kernel_rfl) (fun ⟨_,_,h⟩=>h) ?_;have hS:Kept (fun b=>b≠sb/\av.ownBlock≠some b) W W.drew:=Q9 ((Qp _ _).drew) (fun _ h _=>h);refine wT 0 (.pointer (some ⟨sb,0,none⟩)) hS (fun x hx=>?_) ?_
    ·have e0:=XP hx hv hvs;go_simp
    refine wt 1 (.pointer (some ⟨sb,0,none⟩)) hS ?_;refine wt 2 (.pointer (some ⟨sb,14,none⟩)) hS ?_;refine wt 3 (.int .i64 (x:Int)) hS ?_;refine wR 4 fun K hK=>?_
    go_simp;refine hK.out _ _ (hS.trans (Zc _ _)) (fun hS=>?_);clear hK K;refine wR 5 fun K hK=>?_
    go_simp;refine Z7 (rQ W.heap.size x _ (by simp) (by omega)) ?_;rintro e y5 ⟨rfl,rfl⟩;refine hK.out _ _ hS fun hS=>?_
    clear hK K;refine wt 6 (.agg #[.int .u64 ((2 ^ x:Nat):Int),.int .u64 0]) hS ?_;refine wR 7 fun K hK=>?_
    go_simp;refine hK.out _ _ (hS.trans (Zc _ _)) (fun hS=>?_);clear hK K;refine wR 8 fun K hK=>?_
    go_simp;refine Z7 (HAD.out _ _ (aps W _ _) (by simp) (by simp) (by simp)) ?_;rintro e w3 ⟨⟨v,rfl⟩,hk3,o2,hBx,hkk,ho2⟩;refine hK.out _ _ hk3 fun hS=>?_
    clear hK K;refine wD ?_
    try simp only[Act.put,XM,XN,XO,QK,Qb,Qc]
    exact⟨o2,hBx,hkk,fun b hb=>(ho2 b hb).elim .inl (fun h=>.inr (.inl h))⟩
   case done=>
    rintro ys o1 W hys hI hk2 hg2 hD;have hyy:ys=bz SN:=by simpa [jA] using hys
    rw[WV.out] at hyy;subst hyy;obtain⟨⟨av,hgb,hown,sU,hfr⟩,rO⟩:=hI;have hv:=XP rO HV.out.1 HV.out.2.2.1;have hnD:¬ o1 wr.heap.size:=fun h=>by
     rcases hg2 _ h with h | h
     ·have:=HV.out.2.2.2.1;omega
     ·omega
    have hkp:=Za (s:=fun b=>o1 b∨b<wr.heap.size) W (r:=wr.heap.size) (.deferred none) (by
     rintro (h | h)
     ·exact hnD h
     ·omega)
    have HD:=Zh hD;have jO:Hid (∃ L M,dn W0 f ts q (fun b=>X b∨M b) M (W.putObj wr.heap.size (.deferred none)) sb L (dK aV ts q room)/\(∀ b,M b->w.heap.size<=b)/\Below w.heap.size w (W.putObj wr.heap.size (.deferred none))):=by
     have abM:=hgb.keep hkp (.inl ((sU _).2 (.inl rfl)));have hown2:=Zx hown hkp (fun g hg=>.inl ((sU g).2 (.inr hg)));have Ue:=rO.trans' hkp (fun b hl _=>.inr hl);have eA:=GB.inj HA.out.blk VW.out;obtain⟨X2,M2,hA2,Gg,g1,g2,g3⟩:=HA.out.next (Ue.mono fun b _ hb=>hb.1) (av:=av) (pv:=L.pv) (ag:=S9 (List.range q.src.xs.length)) (pk:=[]) (st:=1) (by
      have e:f.cells ts q++kM { L with av:=av,pv:=L.pv } ⟨(List.range k).map fun s=>dz (xR ts q room s),S9 (List.range q.src.xs.length),kW ts q room k,fF ts q,[],1⟩=arr.setIfInBounds 14 av:=by
       have h1:=WQ f ts q L ⟨(List.range k).map fun s=>dz (xR ts q room s),[],kW ts q room k,fF ts q,[],1⟩ av;rw[eA,XT] at h1;exact h1.symm
      exact e ▸ abM) hown2 (by
      cases h:av.ownBlock with
      | none => exact .inl (by rw[HLA.out.1]; rfl)
      | some g => exact .inr ⟨g,rfl,hfr g h⟩) (by rw[HLA.out.2]; exact ZE _ _ _ _) (.inl rfl)
     have eX:X2=fun b=>X b∨M2 b:=XW fun b=>propext ((g3 b).trans ⟨fun h=>by
      rcases h with (h | h) | h
      ·exact .inl h
      ·exact .inr (g1 b h)
      ·exact .inr h,fun h=>by
      rcases h with h | h
      ·exact .inl (.inl h)
      ·exact .inr h⟩)
     have eB:dK aV ts q room=⟨(List.range k).map fun s=>dz (xR ts q room s),S9 (List.range q.src.xs.length),kW ts q room k,fF ts q,[],1⟩:=by
      rw[HKS.out,HSN.out];rfl
     refine⟨_,M2,by rw[eB,<- eX]; exact hA2,fun b hb=>?_,HOL.out.trans (Ue.below HOL.out.size fun b hb=>by have:=HV.out.2.2.2.2.1; omega)⟩;rcases g2 b hb with (h | ⟨j,hj,h⟩) | h
     ·rw[h]; exact HV.out.2.2.2.2.1
     ·rw[h]; exact (HB.out.kU j hj).2.1
     ·exact Q4 HOL.out.size h
    clear hgb hown sU hfr rO hkp hnD hg2 hk2 hys;go_wp2;obtain⟨L2,M2,q1,q2,q3⟩:=jO.out;refine⟨by simp,.inl ⟨_,_,rfl,Zu HD.out,?_⟩⟩;exact⟨_,results_tmp rfl _ _ _,sb,L2,M2,rfl,q1,q2,q3⟩
end
