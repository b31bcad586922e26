import Derived.Test.YtlpbelhfpoilpabGreatDoorC01
import Derived.Test.YtlpbelhfpoilpabGreatDoorC08
import Derived.Test.YtlpbelhfpoilpabGreatDoorC15
import Derived.Test.YtlpbelhfpoilpabGreatDoorC18
set_option linter.all false
set_option maxRecDepth 100000
set_option maxHeartbeats 16000000
namespace Go.Proofs.YtlpbelhfpoilpabGreatDoor
open Go.RowKit Go.Scout Go.Shelf
theorem ended_any {F:Nat->Prop} {W0 w:World} {f:FactsV} {ts:List TableD} {q:QueryV} (E:Env f ts q W0) (hz:Fz F W0 w) (a:Nat) (t:TrD) (ht:TreeF 95 F w a t) (hto:TOk q t) :
  Calls Tryz.prog 125 #[.agg (f.cells ts q),.pointer (some (aD a 0))] w (TreePost 95 F w (endedT ts q t)):=by
 obtain⟨v0,v1,v2,v3,v4,v5,v6,v7,v8,v9,v10,v11,v12,hFC,hv0,hv1,hv2,hv3,hv4,hv5,hv6,-⟩:=factsCells f ts q;have hQC:q.cells=#[v0,v1,v2,v3,v4,v5,v6]:=by rw[hv0,hv1,hv2,hv3,hv4,hv5,hv6]; rfl
 clear hv0 hv1 hv2 hv3 hv4 hv5 hv6;obtain⟨K,hK⟩:∃ k,endKindN q t.d.order=k:=⟨_,rfl⟩
 have hKb:=endKind_bd q t.d.order;rw[hK] at hKb;obtain⟨T1,hT1⟩:∃ u,growT ts q (nodeK K) [t]=u:=⟨_,rfl⟩
 have hok1:TOk q T1:=by rw[<- hT1]; exact grow_ok1 ts (by omega) (by omega) hto
 obtain⟨T2,hT2⟩:∃ u,growT ts q (nodeK 10) [T1]=u:=⟨_,rfl⟩
 have hR:endedT ts q t=if endsP q K t.d.order=true then T1 else T2:=by unfold endedT; simp only; rw[hK,hT1,hT2]
 obtain⟨R,hRR⟩:∃ R,R=endedT ts q t:=⟨_,rfl⟩
 rw[<- hRR];have HRR:Hid (R=if endsP q K t.d.order=true then T1 else T2):=by rw[<- hR]; exact hRR
 clear hRR;obtain⟨p,hP,hpd⟩:=ht.partIn;have hpo:p.order.xs=t.d.order:=congrArg PartD.order hpd;have HG1:Hid (∀ x b,Below w.heap.size w x->x.cell? (aD b 0)=some (.pointer (some (aD a 0)))->Calls Tryz.prog 64 #[.agg #[v0,v1,v2,v3,v4,v5,v6,v7,v8,v9,v10,v11,v12],.agg #[.int .i64 K,.int .i64 0,.int .i64 0,.int .i64 0,.slice none 0 0,.int .i64 0,.slice none 0 0],.slice (some (aD b 0)) 1 1] x (TreePost 95 F x T1)):=fun x b hx hc=>by
  rw[<- hFC,<- hT1];exact grow_one E (hz.next hx) ⟨K,0,0,0,nilV,0,nilV⟩ ⟨nilV_at x,InF.nil _ _,fun _=>rfl,nilV_at x,InF.nil _ _,fun _=>rfl,Nat.le_refl _,Nat.zero_le _,Nat.zero_le _⟩ a b t (ht.below hx) hto hc (arity_one (by show 6<=K; omega)) (by show 2<=K; omega) (by show K<=10; omega) (smallL_nil _)
 have HG2:Hid (∀ x b r,Below w.heap.size w x->TreeF 95 F x r T1->x.cell? (aD b 0)=some (.pointer (some (aD r 0)))->Calls Tryz.prog 64 #[.agg #[v0,v1,v2,v3,v4,v5,v6,v7,v8,v9,v10,v11,v12],.agg #[.int .i64 10,.int .i64 0,.int .i64 0,.int .i64 0,.slice none 0 0,.int .i64 0,.slice none 0 0],.slice (some (aD b 0)) 1 1] x (TreePost 95 F x T2)):=fun x b r hx hr hc=>by
  rw[<- hFC,<- hT2];exact grow_one E (hz.next hx) ⟨10,0,0,0,nilV,0,nilV⟩ ⟨nilV_at x,InF.nil _ _,fun _=>rfl,nilV_at x,InF.nil _ _,fun _=>rfl,Nat.le_refl _,Nat.zero_le _,Nat.zero_le _⟩ r b T1 hr hok1 hc rfl (by decide:(2:Int)<=10) (by decide:(10:Int)<=10) (smallL_nil _)
 have HEK:Hid (∀ x,Below w.heap.size w x->Calls Tryz.prog 144 #[.agg #[v0,v1,v2,v3,v4,v5,v6],p.order.val] x fun e w'=>e=.returned (.int .i64 K)/\Below x.heap.size x w'):=fun x hx=>by
  have:=endKind_any q p.order x ((E.keysIn hz).below hx).at' (IntsAt.below hx hP.ok.order) hP.ok.cap;rw[hQC,hpo,hK] at this;exact this
 have HEW:Hid (∀ x,Below w.heap.size w x->Calls Tryz.prog 145 #[.agg #[v0,v1,v2,v3,v4,v5,v6],.int .i64 K,p.order.val] x fun e w'=>e=.returned (.bool (endsP q K t.d.order))/\Below x.heap.size x w'):=fun x hx=>by
  have:=endsWell_any q K p.order.ad p.order.cap p.order.xs x ((E.at' hz).query.below hx) ⟨fun h9=>E.ord (by
   cases hg:q.group with
   | false => rfl
   | true =>
    rw[<- hK] at h9;unfold endKindN at h9;rw[if_neg (by rw[hg]; decide)] at h9;split at h9 <;> omega),by have:=E.few; omega⟩ (IntsAt.below hx hP.ok.order) hP.ok.cap
  rw[hQC,hpo] at this;rw[<- hpo] at this;rw[<- hpo];exact this
 have p3:w.cell? (aD a 3)=some p.order.val:=hP.c3;rw[hFC];clear hFC hQC hR hT1 hT2 hok1 hP hpd hpo hK ht hto E hz;generalize endsP q K t.d.order=EB at *;generalize p.order=po at *;obtain⟨oa,oc,ox⟩:=po;simp only[IntsV.val] at *;obtain⟨w1,hw1,hb1,hg1⟩:=newB w #[v0,v1,v2,v3,v4,v5,v6,v7,v8,v9,v10,v11,v12] 79;have a0:w1.cell? (aD w.heap.size 0)=some v0:=hg1.cell 0;have a1:w1.cell? (aD w.heap.size 1)=some v1:=hg1.cell 1;have a2:w1.cell? (aD w.heap.size 2)=some v2:=hg1.cell 2;have a3:w1.cell? (aD w.heap.size 3)=some v3:=hg1.cell 3;have a4:w1.cell? (aD w.heap.size 4)=some v4:=hg1.cell 4;have a5:w1.cell? (aD w.heap.size 5)=some v5:=hg1.cell 5;have a6:w1.cell? (aD w.heap.size 6)=some v6:=hg1.cell 6;have a7:w1.cell? (aD w.heap.size 7)=some v7:=hg1.cell 7;have a8:w1.cell? (aD w.heap.size 8)=some v8:=hg1.cell 8;have a9:w1.cell? (aD w.heap.size 9)=some v9:=hg1.cell 9;have a10:w1.cell? (aD w.heap.size 10)=some v10:=hg1.cell 10;have a11:w1.cell? (aD w.heap.size 11)=some v11:=hg1.cell 11;have a12:w1.cell? (aD w.heap.size 12)=some v12:=hg1.cell 12;have HB1:Hid (Below w.heap.size w w1):=hb1;have q3:=cB hb1 p3;clear hb1 hg1 p3;go_enter Tryz.func125,Tryz.ntmps125;go_wp2_with fail;clear hw1;refine wp_region_held_drew (S:=fun x=>Below w1.heap.size w1 x) (by kernel_rfl) ((Below.refl _ _).drew) (fun hS=>?_);refine wT 0 (.pointer (some (aD w.heap.size 0))) hS (fun x hx=>?_) ?_
 ·go_simp
 refine wT 1 (.agg #[v0,v1,v2,v3,v4,v5,v6]) hS (fun x hx=>?_) ?_
 ·have e0:=cB hx a0;have e1:=cB hx a1;have e2:=cB hx a2;have e3:=cB hx a3;have e4:=cB hx a4;have e5:=cB hx a5;have e6:=cB hx a6;go_simp
 refine wT 2 (.pointer (some (aD a 0))) hS (fun x hx=>?_) ?_
 ·go_simp
 refine wT 3 (.pointer (some (aD a 0))) hS (fun x hx=>?_) ?_
 ·go_simp
 refine wT 4 (.pointer (some (aD a 0))) hS (fun x hx=>?_) ?_
 ·go_simp
 refine wT 5 (.pointer (some (aD a 3))) hS (fun x hx=>?_) ?_
 ·go_simp
 refine wT 6 (.slice oa ox.length oc) hS (fun x hx=>?_) ?_
 ·have e0:=cB hx q3;go_simp
 refine wR 7 fun K hK=>?_
 go_simp;refine Calls.mono (HEK.out _ (bQ1 HB1.out hS)) ?_;rintro e w2 ⟨rfl,hb⟩;refine hK.out _ _ (hS.trans (hb.mono hS.size)) (fun hS=>?_);clear hK K;refine wR 8 fun K hK=>?_
 go_simp;refine hK.out _ _ (hS) (fun hS=>?_);clear hK K;refine wpAnyH_done (by kernel_rfl) ?_ _
 try simp only[pA,sB,sC]
 have HB2:Hid (Below w.heap.size w w2):=bQ1 HB1.out hS;have q3':=cB hS q3;have b0:=cB hS a0;have b1:=cB hS a1;have b2:=cB hS a2;have b3:=cB hS a3;have b4:=cB hS a4;have b5:=cB hS a5;have b6:=cB hS a6;have b7:=cB hS a7;have b8:=cB hS a8;have b9:=cB hS a9;have b10:=cB hS a10;have b11:=cB hS a11;have b12:=cB hS a12;clear a0 a1 a2 a3 a4 a5 a6 a7 a8 a9 a10 a11 a12;obtain⟨w3,hw3⟩:∃ x,w2.alloc (.cells #[.pointer (some (aD a 0))] 85)=x:=⟨_,rfl⟩
 have hb3:Below w2.heap.size w2 w3:=by rw[<- hw3]; exact bQ2 _ _
 have hG1:=HG1.out w3 w2.heap.size (bQ1 HB2.out hb3) (by rw[<- hw3]; simp);have HB3:Hid _:=hb3;clear hb3 hS HG1 HEK q3;go_wp2_with fail;refine hG1.mono ?_;rintro e w4 ⟨r,rfl,hT,hr1,hr2,hb4⟩;have hb24:Below w2.heap.size w2 w4:=bQ1 HB3.out hb4;have q3:=cB hb24 q3';have a0:=cB hb24 b0;have a1:=cB hb24 b1;have a2:=cB hb24 b2;have a3:=cB hb24 b3;have a4:=cB hb24 b4;have a5:=cB hb24 b5;have a6:=cB hb24 b6;have a7:=cB hb24 b7;have a8:=cB hb24 b8;have a9:=cB hb24 b9;have a10:=cB hb24 b10;have a11:=cB hb24 b11;have a12:=cB hb24 b12;clear b0 b1 b2 b3 b4 b5 b6 b7 b8 b9 b10 b11 b12;have HB4:Hid (Below w.heap.size w w4):=bQ1 HB2.out hb24;have HT:Hid (TreeF 95 F w4 r T1):=hT;have HR1:Hid (w.heap.size<=r):=Nat.le_trans HB2.out.size (Nat.le_trans HB3.out.size hr1);have HR2:Hid _:=hr2;clear hT hr1 hr2 hb24 hb4 q3' hG1 hw3;go_wp2_with fail;refine wp_region_held_drew (S:=fun x=>Below w4.heap.size w4 x) (by kernel_rfl) ((Below.refl _ _).drew) (fun hS=>?_);refine wT 0 (.pointer (some (aD w.heap.size 0))) hS (fun x hx=>?_) ?_
 ·go_simp
 refine wT 1 (.agg #[v0,v1,v2,v3,v4,v5,v6]) hS (fun x hx=>?_) ?_
 ·have e0:=cB hx a0;have e1:=cB hx a1;have e2:=cB hx a2;have e3:=cB hx a3;have e4:=cB hx a4;have e5:=cB hx a5;have e6:=cB hx a6;go_simp
 refine wT 2 (.int .i64 K) hS (fun x hx=>?_) ?_
 ·go_simp
 refine wT 3 (.pointer (some (aD a 0))) hS (fun x hx=>?_) ?_
 ·go_simp
 refine wT 4 (.pointer (some (aD a 0))) hS (fun x hx=>?_) ?_
 ·go_simp
 refine wT 5 (.pointer (some (aD a 0))) hS (fun x hx=>?_) ?_
 ·go_simp
 refine wT 6 (.pointer (some (aD a 3))) hS (fun x hx=>?_) ?_
 ·go_simp
 refine wT 7 (.slice oa ox.length oc) hS (fun x hx=>?_) ?_
 ·have e0:=cB hx q3;go_simp
 refine wR 8 fun K hK=>?_
 go_simp;refine Calls.mono (HEW.out _ (bQ1 HB4.out hS)) ?_;rintro e w5 ⟨rfl,hb⟩;refine hK.out _ _ (hS.trans (hb.mono hS.size)) (fun hS=>?_);clear hK K;refine wpAnyH_done (by kernel_rfl) ?_ _
 try simp only[pA,sB,sC]
 have HB5:Hid (Below w.heap.size w w5):=bQ1 HB4.out hS;have b0:=cB hS a0;have b1:=cB hS a1;have b2:=cB hS a2;have b3:=cB hS a3;have b4:=cB hS a4;have b5:=cB hS a5;have b6:=cB hS a6;have b7:=cB hS a7;have b8:=cB hS a8;have b9:=cB hS a9;have b10:=cB hS a10;have b11:=cB hS a11;have b12:=cB hS a12;clear a0 a1 a2 a3 a4 a5 a6 a7 a8 a9 a10 a11 a12;have HT5:Hid (TreeF 95 F w5 r T1):=HT.out.below hS;have HR5:Hid (r<w5.heap.size):=Nat.lt_of_lt_of_le HR2.out hS.size
 cases EB with
 | true =>
  clear hS q3;go_wp2;go_ret;have hRT:R=T1:=HRR.out;rw[hRT];exact⟨r,rfl,HT5.out,HR1.out,HR5.out,HB5.out⟩
 | false =>
  obtain⟨w6,hw6⟩:∃ x,w5.alloc (.cells #[.pointer (some (aD r 0))] 85)=x:=⟨_,rfl⟩
  have hb6:Below w5.heap.size w5 w6:=by rw[<- hw6]; exact bQ2 _ _
  have hG2:=HG2.out w6 w5.heap.size r (bQ1 HB5.out hb6) (HT5.out.below hb6) (by rw[<- hw6]; simp);have HB6:Hid (Below w.heap.size w w6):=bQ1 HB5.out hb6;clear hb6 hS q3;go_wp2_with fail;refine hG2.mono ?_;rintro e w7 ⟨r',rfl,hT,hr1,hr2,hb7⟩;have HP:Hid (TreePost 95 F w T2 (.returned (.pointer (some (aD r' 0)))) w7):=⟨r',rfl,hT,Nat.le_trans HB6.out.size hr1,hr2,bQ1 HB6.out hb7⟩
  clear hG2 hT hr1 hr2 hb7 hw6;go_wp2;go_ret;have hRT:R=T2:=HRR.out;rw[hRT];exact HP.out
end Go.Proofs.YtlpbelhfpoilpabGreatDoor
namespace Go.Scout
open Go.RowKit
def Fv (F:Nat->Prop) (v:Value):Nat->Prop:=fun b=>F b/\v.ownBlock≠some b
theorem Fz.own {F:Nat->Prop} {W0 w:World} (h:Fz F W0 w) {v:Value} (hv:∀ g,v.ownBlock=some g->W0.heap.size<=g/\g<w.heap.size):Fz (Fv F v) W0 w:=
 ⟨h.below,fun b hb=>⟨h.low b hb,fun e=>by have:=(hv b e).1; have:=hb.lt; omega⟩,fun b hb=>⟨h.high b hb,fun e=>by have:=(hv b e).2; omega⟩⟩
theorem TreeF.own {T:TypeId} {F:Nat->Prop} {w0 w:World} {a:Nat} {t:TrD} (h:TreeF T F w0 a t) (hb:Below w0.heap.size w0 w) {v:Value} (hv:∀ g,v.ownBlock=some g->w0.heap.size<=g):TreeF T (Fv F v) w a t:=
 (h.mono (G:=Fv F v) (fun b hb hF=>⟨hF,fun e=>by have:=hv b e; omega⟩)).below hb
theorem TreeF.unown {T:TypeId} {F:Nat->Prop} {w:World} {a:Nat} {t:TrD} {v:Value} (h:TreeF T (Fv F v) w a t):TreeF T F w a t:=h.mono fun _ _ h=>h.1
structure TreesIn (T Tp:TypeId) (F:Nat->Prop) (base:Nat) (w:World) (v:Value) (bs:List (Nat × TrD)):Prop where
 own:w.ownsRow base Tp 1 v bs.length ((bs.map Prod.fst).map fun x=>Value.pointer (some (aD x 0)))
 tree:∀ x∈bs,TreeF T (Fv F v) w x.1 x.2/\base<=x.1/\x.1<w.heap.size
 rise:(bs.map Prod.fst).Pairwise (· < ·)
def TreesPost (T Tp:TypeId) (F:Nat->Prop) (w:World) (l:List TrD) (e:Ending) (w':World):Prop:=
 ∃ v bs,e=.returned v/\bs.map Prod.snd=l/\TreesIn T Tp F w.heap.size w' v bs/\Below w.heap.size w w'
theorem TreesIn.one {T Tp:TypeId} {F:Nat->Prop} {base:Nat} {w0 w:World} {a b:Nat} {t:TrD} (hb:base<=b) (hg:GB w b Tp #[.pointer (some (aD a 0))]) (ht:TreeF T F w0 a t) (hw:Below w0.heap.size w0 w) (h0:w0.heap.size<=b) (ha:base<=a) (hl:a<w.heap.size):TreesIn T Tp F base w (.slice (some (aD b 0)) 1 1) [(a,t)]:=
 ⟨⟨rfl,.inr ⟨b,1,#[.pointer (some (aD a 0))],rfl,hb,hg,Nat.le_refl _,by unfold maxLen; omega,rfl,rfl⟩⟩,fun x hx=>by rw[List.mem_singleton] at hx; rw[hx]; exact⟨ht.own hw (fun g e=>by cases e; exact h0),ha,hl⟩,List.pairwise_singleton _ _⟩
theorem TreesIn.nil (T Tp:TypeId) (F:Nat->Prop) (base:Nat) (w:World):TreesIn T Tp F base w (.slice none 0 0) []:=⟨World.ownsRow_nil _ _ _ _,(fun x hx=>by cases hx),List.Pairwise.nil⟩
theorem TreesIn.below {T Tp:TypeId} {F:Nat->Prop} {base:Nat} {w w':World} {v:Value} {bs:List (Nat × TrD)} (h:TreesIn T Tp F base w v bs) (hb:Below w.heap.size w w'):TreesIn T Tp F base w' v bs:=
 ⟨ownsRow_keep h.own (Kept.of_below (s:=fun b=>b<w.heap.size) hb (fun b _ h=>h)) (fun g hg=>(ownsRow_lt h.own hg).2),fun x hx=>⟨(h.tree x hx).1.below hb,(h.tree x hx).2.1,Nat.lt_of_lt_of_le (h.tree x hx).2.2 hb.size⟩,h.rise⟩
theorem TreeF.pushed {T:TypeId} {F:Nat->Prop} {w w':World} {v v':Value} {a:Nat} {t:TrD} (h:TreeF T (Fv F v) w a t) (hk:Kept (fun b=>v.ownBlock≠some b) w w') (hat:v'.ownBlock=v.ownBlock∨∃ g,v'.ownBlock=some g/\w.heap.size<=g):TreeF T (Fv F v') w' a t:=by
 have h1:=h.mono (G:=fun b=>Fv F v b/\Fv F v' b) (fun b hb hF=>⟨hF,hF.1,fun e=>by
  rcases hat with h | ⟨g,h,hg⟩
  ·exact hF.2 (h ▸ e)
  ·rw[h] at e;injection e with e;omega⟩)
 exact (h1.keptF (hk.mono fun b _ hb=>hb.1.2)).mono fun _ _ h=>h.2
theorem TreesIn.push {T Tp:TypeId} {F:Nat->Prop} {base:Nat} {w0 w w':World} {v v':Value} {bs:List (Nat × TrD)} {a:Nat} {t:TrD} (h:TreesIn T Tp F base w0 v bs) (hb:Below w0.heap.size w0 w) (ht:TreeF T (Fv F v) w a t) (ha:w0.heap.size<=a) (hl:a<w.heap.size) (hbase:base<=w0.heap.size)
  (ho:w'.ownsRow base Tp 1 v' (bs.map Prod.fst++[a]).length ((bs.map Prod.fst++[a]).map fun x=>Value.pointer (some (aD x 0)))) (hk:Kept (fun b=>v.ownBlock≠some b) w w') (hat:v'.ownBlock=v.ownBlock∨∃ g,v'.ownBlock=some g/\w.heap.size<=g):TreesIn T Tp F base w' v' (bs++[(a,t)]):=by
 refine⟨?_,fun x hx=>?_,?_⟩
 ·rw[List.map_append,List.length_append];rw[List.length_append,List.length_map] at ho;exact ho
 ·rcases List.mem_append.1 hx with hx | hx
  ·have:=h.tree x hx;exact⟨(this.1.below hb).pushed hk hat,this.2.1,Nat.lt_of_lt_of_le this.2.2 (Nat.le_trans hb.size hk.size)⟩
  ·rw[List.mem_singleton] at hx;rw[hx];exact⟨ht.pushed hk hat,Nat.le_trans hbase ha,Nat.lt_of_lt_of_le hl hk.size⟩
 ·rw[List.map_append,List.pairwise_append];refine⟨h.rise,List.pairwise_singleton _ _,fun x hx y hy=>?_⟩;obtain⟨z,hz,rfl⟩:=List.mem_map.1 hx;rw[List.map_singleton,List.mem_singleton] at hy;rw[hy];exact Nat.lt_of_lt_of_le (h.tree z hz).2.2 ha
theorem TreesIn.len {T Tp:TypeId} {F:Nat->Prop} {base:Nat} {w:World} {v:Value} {bs:List (Nat × TrD)} (h:TreesIn T Tp F base w v bs):(bs.map Prod.fst).length=bs.length:=List.length_map _
end Go.Scout
namespace Go.Proofs.YtlpbelhfpoilpabGreatDoor
open Go.RowKit Go.Scout Go.Shelf
theorem cheapest_any {F:Nat->Prop} {w:World} (a:Nat) (t:TrD) (ht:TreeF 95 F w a t) (bo:Option Addr) (bc:Nat) (bs:List (Nat × TrD)) (hp:PtrsAt w bo (bs.map Prod.fst)) (hbs:∀ x∈bs,TreeF 95 F w x.1 x.2) (hl:bs.length<=1000) :
  Calls Tryz.prog 104 #[.pointer (some (aD a 0)),.slice bo bs.length bc] w fun e w'=>∃ r,e=.returned (.pointer (some (aD r 0)))/\TreeF 95 F w' r (cheapestT t (bs.map Prod.snd))/\Below w.heap.size w w':=by
 have HPT:Hid (PtrsAt w bo (bs.map Prod.fst)):=hp;have HBS:Hid _:=hbs;have HLN:Hid ((bs.map Prod.fst).length=bs.length):=List.length_map _;have HST:Hid (∀ k,k<bs.length->cheapestT t ((bs.map Prod.snd).take (k+1))=cheaperT (cheapestT t ((bs.map Prod.snd).take k)) ((bs.map Prod.snd).getD k trz)):=fun k hk=>by
  rw[take_snocR _ trz (by rw[List.length_map]; exact hk)];unfold cheapestT;rw[List.foldl_append];rfl
 have HGT:Hid (∀ k,k<bs.length->TreeF 95 F w ((bs.map Prod.fst).getD k 0) ((bs.map Prod.snd).getD k trz)):=fun k hk=>by
  have h1:(bs.map Prod.fst).getD k 0=(bs[k]).1:=by rw[List.getD_eq_getElem?_getD,List.getElem?_map,List.getElem?_eq_getElem hk]; rfl
  have h2:(bs.map Prod.snd).getD k trz=(bs[k]).2:=by rw[List.getD_eq_getElem?_getD,List.getElem?_map,List.getElem?_eq_getElem hk]; rfl
  rw[h1,h2];exact hbs _ (List.getElem_mem hk)
 have HE:Hid (cheapestT t ((bs.map Prod.snd).take bs.length)=cheapestT t (bs.map Prod.snd)):=by show _=_; rw[List.take_of_length_le (by rw[List.length_map]; exact Nat.le_refl _)]
 have HT0:Hid (TreeF 95 F w a (cheapestT t ((bs.map Prod.snd).take 0))):=ht;clear hp hbs ht HBS;generalize bs.map Prod.fst=bf at *;generalize cheapestT t (bs.map Prod.snd)=R at *;obtain⟨CH,hCH⟩:∃ C:Nat->TrD,C=fun k=>cheapestT t ((bs.map Prod.snd).take k):=⟨_,rfl⟩
 obtain⟨BD,hBD⟩:∃ C:Nat->TrD,C=fun k=>(bs.map Prod.snd).getD k trz:=⟨_,rfl⟩
 have HST2:Hid (∀ k,k<bs.length->CH (k+1)=cheaperT (CH k) (BD k)):=by rw[hCH,hBD]; exact HST.out
 have HGT2:Hid (∀ k,k<bs.length->TreeF 95 F w (bf.getD k 0) (BD k)):=by rw[hBD]; exact HGT.out
 have HE2:Hid (CH bs.length=R):=by rw[hCH]; exact HE.out
 have HT02:Hid (TreeF 95 F w a (CH 0)):=by rw[hCH]; exact HT0.out
 clear hCH hBD HST HGT HE HT0;generalize bs.length=bl at *;clear bs;go_enter Tryz.func104,Tryz.ntmps104;go_wp2;go_loopw [5,11] (fun pv iv wr=>∃ k r:Nat,k<=bl/\iv=.int .i64 (k:Int)/\pv=.pointer (some (aD r 0))/\Hid (TreeF 95 F w r (CH k))/\Hid (Below w.heap.size w wr)) (fun _ iv _=>bl-(intOf iv).toNat)
 case atStart=>exact⟨0,a,Nat.zero_le _,rfl,rfl,HT02.out,Below.refl _ _⟩
 case round=>
  obtain⟨k,r,hk,rfl,rfl,HR,HBW⟩:=hrel;by_cases hlt:k<bl
  ·obtain⟨bb,boff,rfl,hbc⟩:=PtrsAt.get (HPT.out.below HBW.out) (i:=k) (by rw[HLN.out]; exact hlt);have hck:=hbc k (by rw[HLN.out]; exact hlt);obtain⟨p,hP,hpd⟩:=HR.out.partIn;obtain⟨p',hP',hpd'⟩:=(HGT2.out k hlt).partIn;obtain⟨x,hx⟩:∃ x,x=bf.getD k 0:=⟨_,rfl⟩
   rw[<- hx] at hck hP';have HX:Hid (TreeF 95 F w x (BD k)):=by rw[hx]; exact HGT2.out k hlt
   have c1:wr.cell? (aD r 5)=some (.int .u64 (p.cost:Int)):=cB HBW.out hP.c5;have c2:wr.cell? (aD x 5)=some (.int .u64 (p'.cost:Int)):=cB HBW.out hP'.c5;have hS:=HST2.out k hlt;have e1:p.cost=(CH k).d.cost:=congrArg PartD.cost hpd;have e2:p'.cost=(BD k).d.cost:=congrArg PartD.cost hpd';have HS:Hid (CH (k+1)=if p'.cost<p.cost then BD k else CH k):=by show _=_; rw[hS,e1,e2]; rfl
   generalize p.cost=cr at *;generalize p'.cost=cx at *;clear hbc hx hP hP' hpd hpd' hS e1 e2 p p';obtain⟨wq,hwq⟩:∃ x,x=wr:=⟨_,rfl⟩
   subst hwq;go_wp2_with fail;refine wp_region_below (by kernel_rfl) (by kernel_rfl) ?_;go_big_quiet_want;refine⟨.pointer (some (aD x 0)),fun x hx=>?_,?_⟩
   ·go_simp
   simp only[pA,sB,sC];go_big_quiet_on;go_big_quiet_want;refine⟨.pointer (some (aD x 0)),fun x hx=>?_,?_⟩
   ·go_simp
   simp only[pA,sB,sC];go_big_quiet_on;go_big_quiet_want;refine⟨.pointer (some (aD x 0)),fun x hx=>?_,?_⟩
   ·go_simp
   simp only[pA,sB,sC];go_big_quiet_on;go_big_quiet_want;refine⟨.pointer (some (aD x 5)),fun x hx=>?_,?_⟩
   ·go_simp
   simp only[pA,sB,sC];go_big_quiet_on;go_big_quiet_want;refine⟨.int .u64 (cx:Int),fun x hx=>?_,?_⟩
   ·have e0:=cB hx c2;go_simp
   simp only[pA,sB,sC];go_big_quiet_on;go_big_quiet_want;refine⟨.pointer (some (aD r 0)),fun x hx=>?_,?_⟩
   ·go_simp
   simp only[pA,sB,sC];go_big_quiet_on;go_big_quiet_want;refine⟨.pointer (some (aD r 0)),fun x hx=>?_,?_⟩
   ·go_simp
   simp only[pA,sB,sC];go_big_quiet_on;go_big_quiet_want;refine⟨.pointer (some (aD r 0)),fun x hx=>?_,?_⟩
   ·go_simp
   simp only[pA,sB,sC];go_big_quiet_on;go_big_quiet_want;refine⟨.pointer (some (aD r 5)),fun x hx=>?_,?_⟩
   ·go_simp
   simp only[pA,sB,sC];go_big_quiet_on;go_big_quiet_want;refine⟨.int .u64 (cr:Int),fun x hx=>?_,?_⟩
   ·have e0:=cB hx c1;go_simp
   simp only[pA,sB,sC];go_big_quiet_on;go_big_quiet_want;refine⟨.bool (decide ((cx:Int)<(cr:Int))),fun x hx=>?_,?_⟩
   ·go_simp
   simp only[pA,sB,sC];go_big_quiet_on;refine wpQuiet_nil ?_;intro w2 hb2;have HB2:Hid (Below w.heap.size w w2):=HBW.out.trans (hb2.mono HBW.out.size);clear hb2;by_cases hc:cx<cr
   ·have hcb:decide ((cx:Int)<(cr:Int))=true:=decide_eq_true (by omega);have HN:Hid (TreeF 95 F w x (CH (k+1))):=by rw[HS.out,if_pos hc]; exact HX.out
    rw[hcb];clear hc HS;go_wp2;go_roundw
    case rel=>exact⟨k+1,x,by omega,by go_num,rfl,HN.out,HB2.out⟩
    case measure=>simp[intOf]; omega
   ·have hcb:decide ((cx:Int)<(cr:Int))=false:=decide_eq_false (by omega);have HN:Hid (TreeF 95 F w r (CH (k+1))):=by rw[HS.out,if_neg hc]; exact HR.out
    rw[hcb];clear hc HS;go_wp2;go_roundw
    case rel=>exact⟨k+1,r,by omega,by go_num,rfl,HN.out,HB2.out⟩
    case measure=>simp[intOf]; omega
  ·have hkb:bl=k:=by omega
   subst hkb;rw[HE2.out] at HR;go_wp2;go_ret;exact⟨r,rfl,HR.out.below HBW.out,HBW.out⟩
theorem endings_any {F:Nat->Prop} {W0 w:World} {f:FactsV} {ts:List TableD} {q:QueryV} (E:Env f ts q W0) (hz:Fz F W0 w) (a:Nat) (t:TrD) (ht:TreeF 95 F w a t) (hto:TOk q t) :
  Calls Tryz.prog 105 #[.agg (f.cells ts q),.pointer (some (aD a 0))] w (TreesPost 95 85 F w (endingsT ts q t)):=by
 obtain⟨v0,v1,v2,v3,v4,v5,v6,v7,v8,v9,v10,v11,v12,hFC,hv0,hv1,hv2,hv3,hv4,hv5,hv6,-⟩:=factsCells f ts q;have hQC:q.cells=#[v0,v1,v2,v3,v4,v5,v6]:=by rw[hv0,hv1,hv2,hv3,hv4,hv5,hv6]; rfl
 clear hv0 hv1 hv2 hv3 hv4 hv5 hv6;have HEN:Hid (∀ (G:Nat->Prop) x r u,Fz G W0 x->TreeF 95 G x r u->TOk q u->Calls Tryz.prog 125 #[.agg #[v0,v1,v2,v3,v4,v5,v6,v7,v8,v9,v10,v11,v12],.pointer (some (aD r 0))] x (TreePost 95 G x (endedT ts q u))):=fun G x r u hx hr hu=>by
  rw[<- hFC];exact ended_any E hx r u hr hu
 have HEO:Hid (∀ (G:Nat->Prop) x,Fz G W0 x->Calls Tryz.prog 66 #[.agg #[v0,v1,v2,v3,v4,v5,v6]] x (IntsPost G x (endOrderN q))):=fun G x hx=>by
  rw[<- hQC];exact endOrder_any E hx
 have HSO:Hid (∀ (G:Nat->Prop) x (o:IntsV),Fz G W0 x->TreeF 95 G x a t->o.xs=endOrderN q->IntsIn G x o->Calls Tryz.prog 126 #[.agg #[v0,v1,v2,v3,v4,v5,v6,v7,v8,v9,v10,v11,v12],.pointer (some (aD a 0)),o.val] x (TreePost 95 G x (sortedT ts q t (endOrderN q)))):=fun G x o hx ht ho hi=>by
  rw[<- hFC,<- ho];exact sorted_any E hx a t ht hto o hi.at' hi.inf hi.nil hi.cap (by rw[ho]; have:=E.endLen; omega)
 have HTO:Hid (TOk q t):=hto;have HTS:Hid (TOk q (sortedT ts q t (endOrderN q))):=sortedT_ok _ hto;have HRE:Hid (endingsT ts q t=if 0<(endOrderN q).length then [endedT ts q t,endedT ts q (sortedT ts q t (endOrderN q))] else [endedT ts q t]):=rfl;have HTA:Hid (TreeF 95 F w a t):=ht;have HZ:Hid _:=hz;rw[hFC];clear hFC hQC ht hto E hz;generalize endingsT ts q t=R at *;obtain⟨T1,hT1⟩:∃ u,endedT ts q t=u:=⟨_,rfl⟩
 obtain⟨T2,hT2⟩:∃ u,sortedT ts q t (endOrderN q)=u:=⟨_,rfl⟩
 obtain⟨T3,hT3⟩:∃ u,endedT ts q T2=u:=⟨_,rfl⟩
 rw[hT1,hT2,hT3] at HRE;rw[hT2] at HSO HTS;generalize endOrderN q=EO at *;obtain⟨w1,hw1,hb1,hg1⟩:=newB w #[v0,v1,v2,v3,v4,v5,v6,v7,v8,v9,v10,v11,v12] 79;have a0:w1.cell? (aD w.heap.size 0)=some v0:=hg1.cell 0;have a1:w1.cell? (aD w.heap.size 1)=some v1:=hg1.cell 1;have a2:w1.cell? (aD w.heap.size 2)=some v2:=hg1.cell 2;have a3:w1.cell? (aD w.heap.size 3)=some v3:=hg1.cell 3;have a4:w1.cell? (aD w.heap.size 4)=some v4:=hg1.cell 4;have a5:w1.cell? (aD w.heap.size 5)=some v5:=hg1.cell 5;have a6:w1.cell? (aD w.heap.size 6)=some v6:=hg1.cell 6;have a7:w1.cell? (aD w.heap.size 7)=some v7:=hg1.cell 7;have a8:w1.cell? (aD w.heap.size 8)=some v8:=hg1.cell 8;have a9:w1.cell? (aD w.heap.size 9)=some v9:=hg1.cell 9;have a10:w1.cell? (aD w.heap.size 10)=some v10:=hg1.cell 10;have a11:w1.cell? (aD w.heap.size 11)=some v11:=hg1.cell 11;have a12:w1.cell? (aD w.heap.size 12)=some v12:=hg1.cell 12;have HB1:Hid (Below w.heap.size w w1):=hb1;have hEN:=HEN.out F w1 a t (HZ.out.next hb1) (HTA.out.below hb1) HTO.out;rw[hT1] at hEN;have HT3:Hid _:=hT3;have hlt1:Hid (w.heap.size<w1.heap.size):=hg1.lt;clear hb1 hg1 hT1 hT2 hT3;go_enter Tryz.func105,Tryz.ntmps105;go_wp2_with fail;refine hEN.mono ?_;rintro e w2 ⟨r,rfl,hT,hr1,hr2,hb2⟩;obtain⟨w3,hw3⟩:∃ x,w2.alloc (.cells #[.pointer (some (aD r 0))] 85)=x:=⟨_,rfl⟩
 have hb3:Below w2.heap.size w2 w3:=by rw[<- hw3]; exact bQ2 _ _
 have hb13:Below w1.heap.size w1 w3:=bQ1 hb2 hb3;have HI3:Hid (TreesIn 95 85 F w.heap.size w3 (.slice (some (aD w2.heap.size 0)) 1 1) [(r,T1)]):=TreesIn.one (Nat.le_trans HB1.out.size hb2.size) (by rw[<- hw3]; exact bQ3 _ _) hT hb3 (Nat.le_refl _) (Nat.le_trans HB1.out.size hr1) (Nat.lt_of_lt_of_le hr2 hb3.size);have HB3:Hid (Below w.heap.size w w3):=bQ1 HB1.out hb13;have b0:=cB hb13 a0;have b1:=cB hb13 a1;have b2:=cB hb13 a2;have b3:=cB hb13 a3;have b4:=cB hb13 a4;have b5:=cB hb13 a5;have b6:=cB hb13 a6;have b7:=cB hb13 a7;have b8:=cB hb13 a8;have b9:=cB hb13 a9;have b10:=cB hb13 a10;have b11:=cB hb13 a11;have b12:=cB hb13 a12;clear a0 a1 a2 a3 a4 a5 a6 a7 a8 a9 a10 a11 a12;have hsz2:Hid (w1.heap.size<=w2.heap.size):=hb2.size;clear hEN hT hr1 hr2 hb2 hb3 hb13 hw1;have hv3:∀ g,(Value.slice (some (aD w2.heap.size 0)) 1 1).ownBlock=some g->w.heap.size<=g/\g<w3.heap.size:=fun g e=>ownsRow_lt HI3.out.own e
 obtain⟨G,hG⟩:∃ G,G=Fv F (.slice (some (aD w2.heap.size 0)) 1 1):=⟨_,rfl⟩
 have HZ3:Hid (Fz G W0 w3):=by rw[hG]; exact (HZ.out.next HB3.out).own (fun g e=>⟨Nat.le_trans HZ.out.below.size (hv3 g e).1,(hv3 g e).2⟩)
 have HA3:Hid (TreeF 95 G w3 a t):=by rw[hG]; exact HTA.out.own HB3.out (fun g e=>(hv3 g e).1)
 have HGE:Hid _:=hG;have hne:w.heap.size≠w2.heap.size:=by have:=HB1.out.size; have:=hlt1.out; have:=hsz2.out; omega
 have hEO:=HEO.out G w3 HZ3.out;clear hv3 hG;go_wp2_with fail;refine hEO.mono ?_;rintro e w4 ⟨o,rfl,ho,hin,hb4⟩;clear hEO hw3;have a0:=cB hb4 b0;have a1:=cB hb4 b1;have a2:=cB hb4 b2;have a3:=cB hb4 b3;have a4:=cB hb4 b4;have a5:=cB hb4 b5;have a6:=cB hb4 b6;have a7:=cB hb4 b7;have a8:=cB hb4 b8;have a9:=cB hb4 b9;have a10:=cB hb4 b10;have a11:=cB hb4 b11;have a12:=cB hb4 b12;clear b0 b1 b2 b3 b4 b5 b6 b7 b8 b9 b10 b11 b12;have HI4:Hid _:=HI3.out.below hb4;have HB4:Hid (Below w.heap.size w w4):=bQ1 HB3.out hb4;have HO:Hid (o.xs=EO):=ho;have HIN:Hid (IntsIn G w4 o):=hin;have HZ4:Hid (Fz G W0 w4):=HZ3.out.next hb4;have HA4:Hid (TreeF 95 G w4 a t):=HA3.out.below hb4;clear hb4 hin HI3 HZ3 HA3 HEO;by_cases hn:0<EO.length
 ·have HR2:Hid (R=[T1,T3]):=by show _=_; rw[HRE.out,if_pos hn]
  have hnb:decide (0<o.xs.length)=true:=decide_eq_true (by rw[ho]; exact hn);have hnc:0<o.xs.length:=by rw[ho]; exact hn
  obtain⟨oa,oc,ox⟩:=o;simp only[IntsV.val] at *;clear ho hn;go_wp2_with fail;refine wp_region_held_drew (S:=fun x=>Kept (fun b=>b≠w2.heap.size) w4 x) (by kernel_rfl) (Kept.of_below ((Below.refl w4.heap.size w4).drew) (fun _ hl _=>hl)) (fun hS=>?_);refine wT 0 (.slice (some (aD w2.heap.size 0)) 1 1) hS (fun x hx=>?_) ?_
  ·go_simp
  refine wT 1 (.agg #[v0,v1,v2,v3,v4,v5,v6,v7,v8,v9,v10,v11,v12]) hS (fun x hx=>?_) ?_
  ·have e0:=cell_keep a0 hx hne;have e1:=cell_keep a1 hx hne;have e2:=cell_keep a2 hx hne;have e3:=cell_keep a3 hx hne;have e4:=cell_keep a4 hx hne;have e5:=cell_keep a5 hx hne;have e6:=cell_keep a6 hx hne;have e7:=cell_keep a7 hx hne;have e8:=cell_keep a8 hx hne;have e9:=cell_keep a9 hx hne;have e10:=cell_keep a10 hx hne;have e11:=cell_keep a11 hx hne;have e12:=cell_keep a12 hx hne;go_simp
  refine wT 2 (.agg #[v0,v1,v2,v3,v4,v5,v6,v7,v8,v9,v10,v11,v12]) hS (fun x hx=>?_) ?_
  ·have e0:=cell_keep a0 hx hne;have e1:=cell_keep a1 hx hne;have e2:=cell_keep a2 hx hne;have e3:=cell_keep a3 hx hne;have e4:=cell_keep a4 hx hne;have e5:=cell_keep a5 hx hne;have e6:=cell_keep a6 hx hne;have e7:=cell_keep a7 hx hne;have e8:=cell_keep a8 hx hne;have e9:=cell_keep a9 hx hne;have e10:=cell_keep a10 hx hne;have e11:=cell_keep a11 hx hne;have e12:=cell_keep a12 hx hne;go_simp
  refine wT 3 (.pointer (some (aD a 0))) hS (fun x hx=>?_) ?_
  ·go_simp
  refine wT 4 (.slice oa ox.length oc) hS (fun x hx=>?_) ?_
  ·go_simp
  refine wR 5 fun K hK=>?_
  go_simp;refine Calls.mono (HSO.out G _ ⟨oa,oc,ox⟩ (HZ4.out.next ((Below.refl _ _).drew)) (HA4.out.below ((Below.refl _ _).drew)) HO.out (HIN.out.below ((Below.refl _ _).drew))) ?_;rintro e w5 ⟨r2,rfl,hT2,h21,h22,hb5⟩;have hd:=(Below.refl w4.heap.size w4).drew;have hb45:=hd.trans (hb5.mono hd.size);refine hK.out _ _ (Kept.of_below hb45 (fun b hb _=>hb)) (fun hS=>?_);clear hK K;refine wR 6 fun K hK=>?_
  go_simp;refine Calls.mono (HEN.out G _ r2 T2 (HZ4.out.next hb45) hT2 HTS.out) ?_;rintro e w6 ⟨r3,rfl,hT3,h31,h32,hb6⟩;have hb46:=hb45.trans (hb6.mono hb45.size);rw[HT3.out] at hT3;refine hK.out _ _ (Kept.of_below hb46 (fun b hb _=>hb)) (fun hS=>?_);clear hK K;refine wR 7 fun K hK=>?_
  go_simp;refine hK.out _ _ (hS.trans (Kept.alloc _ _)) (fun hS=>?_);clear hK K;refine wR 8 fun K hK=>?_
  obtain⟨v',w7,hr7,ho7,hk7,⟨xa,xm,xc,rfl⟩,hat⟩:=push_ptr w6 w.heap.size (.slice (some (aD w2.heap.size 0)) 1 1) [r] (HI4.out.below hb46).own (by simp) (Nat.le_trans HB4.out.size hb46.size) r3 93;have h31':w4.heap.size<=r3:=Nat.le_trans hb45.size h31;have HI7:=TreesIn.push HI4.out hb46 (HGE.out ▸ hT3) h31' h32 HB4.out.size ho7 hk7 (hat.imp id (fun e=>⟨_,e,by omega⟩));have hk47:Kept (fun b=>b≠w2.heap.size) w4 w7:=(Kept.of_below hb46 (fun b hb _=>hb)).trans (hk7.mono fun b _ hb e=>hb (by injection e with e; exact e.symm));refine step_append (by rfl) _ _ _ (by rfl) (.slice (some (aD w2.heap.size 0)) 1 1) (.slice (some (aD w6.heap.size 0)) 1 1) (.slice xa xm xc) w7 (by rfl) (by rfl) hr7 ?_;refine hK.out _ _ (hk47) (fun hS=>?_);clear hK K;refine wR 9 fun K hK=>?_
  go_simp;refine hK.out _ _ (hS) (fun hS=>?_);clear hK K;refine wpAnyH_done (by kernel_rfl) ?_ _
  try simp only[pA,sB,sC]
  have HF:Hid (TreesPost 95 85 F w R (.returned (.slice xa xm xc)) w7):=⟨_,[(r,T1),(r3,T3)],rfl,HR2.out.symm,HI7,HB4.out.trans (hk47.below HB4.out.size (fun b hb=>by have:=HB1.out.size; have:=hsz2.out; omega))⟩
  clear hr7 ho7 hk7 hat HI7 hk47 hS;go_wp2;go_ret;exact HF.out
 ·have HR2:Hid (R=[T1]):=by show _=_; rw[HRE.out,if_neg hn]
  have h0:o.xs.length=0:=by rw[ho]; omega
  obtain⟨oa,oc,ox⟩:=o;simp only[IntsV.val] at *;rw[h0];clear h0 ho hn HO HIN;go_wp2;go_ret;exact⟨_,[(r,T1)],rfl,HR2.out.symm,HI4.out,HB4.out⟩
end Go.Proofs.YtlpbelhfpoilpabGreatDoor
namespace Go.Scout
open Go.RowKit
theorem piecesN_take (g:List PlaceD) {k:Nat} (hk:k<g.length):piecesN (g.take (k+1))=pieceS (piecesN (g.take k)) (g.getD k plz):=by
 unfold piecesN;exact foldl_takeR pieceS [] g plz hk
theorem pieces_mem {g:List PlaceD} {k:Nat} {x:Nat × TrD} (h:x∈piecesN (g.take k)):∃ p∈g,p.2=some x:=by
 rcases pieces_in _ [] x h with h | ⟨p,hp,e⟩
 ·cases h
 ·exact⟨p,List.mem_of_mem_take hp,e⟩
theorem piecesN_len (g:List PlaceD) (k:Nat):(piecesN (g.take k)).length<=g.length:=by
 have:=pieces_len (g.take k) [];rw[List.length_take] at this;unfold piecesN;simp at this;omega
theorem GrpAt.there {T Tp:TypeId} {F:Nat->Prop} {w:World} {gb:Nat} {A:Nat->Nat} {os:List IntsV} {g:List PlaceD} (h:GrpAt T Tp F w gb A os g) {k:Nat} {x:Nat × TrD} {p:PlaceD} (hp:p∈g) (hx:p.2=some x) :
  decide (A x.1∈(piecesN (g.take k)).map fun y=>A y.1)=(piecesN (g.take k)).any (fun y=>y.1==x.1):=by
 rw[Bool.eq_iff_iff,decide_eq_true_eq,List.any_eq_true,List.mem_map];constructor
 ·rintro⟨y,hy,e⟩;obtain⟨p',hp',e'⟩:=pieces_mem hy;exact⟨y,hy,by rw[beq_iff_eq]; exact h.inj p' hp' p hp y x e' hx e⟩
 ·rintro⟨y,hy,e⟩;rw[beq_iff_eq] at e;exact⟨y,hy,by rw[e]⟩
end Go.Scout
namespace Go.Proofs.YtlpbelhfpoilpabGreatDoor
open Go.RowKit Go.Scout Go.Shelf
theorem pieces_any {F:Nat->Prop} {w:World} {gb:Nat} {A:Nat->Nat} {os:List IntsV} {g:List PlaceD} (h:GrpAt 95 141 F w gb A os g) (hl:g.length<=20) (gc:Nat) :
  Calls Tryz.prog 110 #[.slice (some (aD gb 0)) g.length gc] w fun e w'=>∃ v,e=.returned v/\w'.ownsRow w.heap.size 85 1 v ((piecesN g).map fun x=>A x.1).length (((piecesN g).map fun x=>A x.1).map fun x=>Value.pointer (some (aD x 0)))/\Below w.heap.size w w':=by
 have HG:Hid (GrpAt 95 141 F w gb A os g):=h;obtain⟨QN,hQN⟩:∃ P:Nat->List Nat,P=fun k=>(piecesN (g.take k)).map fun x=>A x.1:=⟨_,rfl⟩
 have HSN:Hid (∀ k,k<g.length->(g.getD k plz).2=none->QN (k+1)=QN k):=fun k hk e=>by
  rw[hQN];simp only;rw[piecesN_take g hk];unfold pieceS;rw[e]
 have HSS:Hid (∀ k x,k<g.length->(g.getD k plz).2=some x->QN (k+1)=if A x.1∈QN k then QN k else QN k++[A x.1]):=fun k x hk e=>by
  have ht:=h.there (k:=k) (getD_memP hk) e;have e1:QN (k+1)=(if (piecesN (g.take k)).any (fun y=>y.1==x.1)=true then piecesN (g.take k) else piecesN (g.take k)++[x]).map fun x=>A x.1:=by
   rw[hQN];simp only;rw[piecesN_take g hk];unfold pieceS;rw[e]
  have e2:QN k=(piecesN (g.take k)).map fun x=>A x.1:=by rw[hQN]
  rw[e1,<- ht,e2];by_cases hm:A x.1∈(piecesN (g.take k)).map fun x=>A x.1
  ·rw[if_pos (decide_eq_true hm),if_pos hm]
  ·rw[if_neg (by rw[decide_eq_false hm]; decide),if_neg hm,List.map_append];rfl
 have HQL:Hid (∀ k,(QN k).length<=20):=fun k=>by rw[hQN]; simp only; rw[List.length_map]; exact Nat.le_trans (piecesN_len g k) hl
 have HQE:Hid (QN g.length=(piecesN g).map fun x=>A x.1):=by rw[hQN]; show (piecesN (g.take g.length)).map _=_; rw[List.take_length]
 have HQ0:Hid (QN 0=[]):=by rw[hQN]; rfl
 have HBL:Hid (∀ k,∀ a∈QN k,∃ c t,w.heap[a]? = some (Obj.cells c t (0,0))):=fun k a ha=>by
  rw[hQN] at ha;obtain⟨y,hy,rfl⟩:=List.mem_map.1 ha;obtain⟨p,hp,e⟩:=pieces_mem hy;obtain⟨c,hc⟩:=(h.tree p hp y e).blk;exact⟨c,_,hc⟩
 have HBX:Hid (∀ k x,k<g.length->(g.getD k plz).2=some x->∃ c t,w.heap[A x.1]? = some (Obj.cells c t (0,0))):=fun k x hk hx=>by
  obtain⟨c,hc⟩:=(h.tree _ (getD_memP hk) x hx).blk;exact⟨c,_,hc⟩
 clear h hQN;generalize (piecesN g).map (fun x=>A x.1)=R at *;go_enter Tryz.func110,Tryz.ntmps110;go_wp2;go_loopw [3,8] (fun pv iv wr=>∃ k:Nat,k<=g.length/\iv=.int .i64 (k:Int)/\Hid (wr.ownsRow w.heap.size 85 1 pv (QN k).length ((QN k).map fun x=>Value.pointer (some (aD x 0))))/\Hid (Below w.heap.size w wr)) (fun _ iv _=>g.length-(intOf iv).toNat)
 case atStart=>exact⟨0,Nat.zero_le _,rfl,by rw[HQ0.out]; exact World.ownsRow_nil _ _ _ _,Below.refl _ _⟩
 case round=>
  obtain⟨k,hk,rfl,HO,HB⟩:=hrel;obtain⟨xa,xm,xc,rfl⟩:=ownsRow_slice HO.out;by_cases hlt:k<g.length
  ·obtain⟨c0,c1⟩:=(HG.out.below HB.out).cells hlt;have HSNk:Hid _:=HSN.out k hlt;have HSSk:Hid _:=fun x=>HSS.out k x hlt
   have HBXk:Hid _:=fun x=>HBX.out k x hlt
   generalize os.getD k nilV=ov at *;obtain⟨oa,oc,ox⟩:=ov;simp only[IntsV.val] at c0;generalize (g.getD k plz).2=pp at *
   cases pp with
   | none =>
    have HN:Hid (QN (k+1)=QN k):=HSNk.out rfl;simp only[ptrV] at c1;have hb3:Below wr.heap.size wr (wr.alloc (.cells #[.slice oa ox.length oc,.pointer none] 141)):=bQ2 _ _;have HO3:Hid ((wr.alloc (.cells #[.slice oa ox.length oc,.pointer none] 141)).ownsRow w.heap.size 85 1 (.slice xa xm xc) (QN (k+1)).length ((QN (k+1)).map fun x=>Value.pointer (some (aD x 0)))):=by
     rw[HN.out];exact ownsRow_keep HO.out (Kept.of_below (s:=fun b=>b<wr.heap.size) hb3 (fun b _ h=>h)) (fun g hg=>(ownsRow_lt HO.out hg).2)
    have HB3:Hid (Below w.heap.size w (wr.alloc (.cells #[.slice oa ox.length oc,.pointer none] 141))):=HB.out.trans (hb3.mono HB.out.size);clear HSNk HSSk HBXk HO hb3;go_wp2;go_roundw
    case rel=>exact⟨k+1,by omega,by go_num,HO3.out,HB3.out⟩
    case measure=>simp[intOf]; omega
   | some x =>
    simp only[ptrV] at c1;obtain⟨w3,hw3⟩:∃ x',wr.alloc (.cells #[.slice oa ox.length oc,.pointer (some (aD (A x.1) 0))] 141)=x':=⟨_,rfl⟩
    have hb3:Below wr.heap.size wr w3:=by rw[<- hw3]; exact bQ2 _ _
    have hb03:Below w.heap.size w w3:=HB.out.trans (hb3.mono HB.out.size);have d1:w3.cell? (aD wr.heap.size 1)=some (.pointer (some (aD (A x.1) 0))):=by rw[<- hw3]; simp
    have ho3:=ownsRow_keep HO.out (Kept.of_below (s:=fun b=>b<wr.heap.size) hb3 (fun b _ h=>h)) (fun g hg=>(ownsRow_lt HO.out hg).2);have hlk:=HQL.out k;obtain⟨ya,yc,hy,hpt,-⟩:=ptrs_own ho3 (by omega);simp only[Value.slice.injEq] at hy;obtain⟨rfl,rfl,rfl⟩:=hy;have hup:∀ a,(∃ c t,w.heap[a]? = some (Obj.cells c t (0,0)))->∃ c t,w3.heap[a]? = some (Obj.cells c t (0,0)):=fun a ⟨c,t,e⟩=>⟨c,t,(hb03.block _ (Array.getElem?_eq_some_iff.1 e).1).trans e⟩
    have hCO:=containsPtr_any xa xc (QN k) (A x.1) w3 hpt (hup _ (HBXk.out x rfl)) (fun a ha=>hup _ (HBL.out k a ha));have HS3:Hid (QN (k+1)=if A x.1∈QN k then QN k else QN k++[A x.1]):=HSSk.out x rfl;have HO3:Hid (w3.ownsRow w.heap.size 85 1 (.slice xa (QN k).length xc) (QN k).length ((QN k).map fun x=>Value.pointer (some (aD x 0)))):=ho3;have HB3:Hid (Below w.heap.size w w3):=hb03;have hsz:=hb03.size;clear hup hpt ho3 hb3 hb03 HSNk HSSk HBXk HO;generalize A x.1=xa' at *;by_cases hm:xa'∈QN k
    ·have HN:Hid (QN (k+1)=QN k):=HS3.out.trans (if_pos hm);rw[decide_eq_true hm] at hCO;have HO4:Hid (w3.ownsRow w.heap.size 85 1 (.slice xa (QN k).length xc) (QN (k+1)).length ((QN (k+1)).map fun x=>Value.pointer (some (aD x 0)))):=by rw[HN.out]; exact HO3.out
     clear HS3 hm HO3 HN;go_wp2_with fail;refine hCO.mono ?_;rintro e w4 ⟨rfl,hw4⟩;have hw4:=hw4.symm;subst hw4;clear hCO;go_wp2;go_roundw
     case rel=>exact⟨k+1,by omega,by go_num,HO4.out,HB3.out⟩
     case measure=>simp[intOf]; omega
    ·have HN:Hid (QN (k+1)=QN k++[xa']):=HS3.out.trans (if_neg hm);rw[decide_eq_false hm] at hCO;obtain⟨v',w5,hr5,ho5,hk5,⟨za,zm,zc,rfl⟩,hat⟩:=push_ptr w3 w.heap.size (.slice xa (QN k).length xc) (QN k) HO3.out (by omega) hsz xa' 93;have HO5:Hid (w5.ownsRow w.heap.size 85 1 (.slice za zm zc) (QN (k+1)).length ((QN (k+1)).map fun x=>Value.pointer (some (aD x 0)))):=by
      rw[HN.out];exact ho5
     have HB5:Hid (Below w.heap.size w w5):=HB3.out.trans (hk5.below hsz (fun b hb e=>by have:=(ownsRow_lt HO3.out e).1; omega));clear HS3 hm ho5 hk5 hat HN;go_wp2_with fail;refine hCO.mono ?_;rintro e w4 ⟨rfl,hw4⟩;have hw4:=hw4.symm;subst hw4;clear hCO;go_wp2_with (first | (at_builtin; refine wpList_append_run rfl (.tmp 22) (.tmp 25) 93 rfl (.slice xa (QN k).length xc) (.slice (some (aD w3.heap.size 0)) 1 1) (.slice za zm zc) w5 rfl rfl hr5 ?_));clear hr5;go_wp2;go_roundw
     case rel=>exact⟨k+1,by omega,by go_num,HO5.out,HB5.out⟩
     case measure=>simp[intOf]; omega
  ·have hkg:g.length=k:=by omega
   have HF:Hid (wr.ownsRow w.heap.size 85 1 (.slice xa xm xc) R.length (R.map fun x=>Value.pointer (some (aD x 0)))):=by
    rw[<- HQE.out,hkg];exact HO.out
   clear hkg;go_wp2;go_ret;exact⟨_,rfl,HF.out,HB.out⟩
end Go.Proofs.YtlpbelhfpoilpabGreatDoor
