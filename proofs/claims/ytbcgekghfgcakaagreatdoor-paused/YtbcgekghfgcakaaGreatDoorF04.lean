import Derived.Test.YtbcgekghfgcakaaGreatDoorF03
set_option linter.all false
set_option maxRecDepth 100000
set_option maxHeartbeats 16000000
namespace Go.Proofs.Zz
open Go.RowKit Go.Shelf
section
theorem gF.keep {A B:World} {ao:Option Addr} {rs:List ah} (h:gF A ao rs) (hs:A.heap.size<=B.heap.size) (h1:∀ a,ao=some a->B.heap[a.block]? = A.heap[a.block]?) (h2:∀ i,i<rs.length->∀ b,bC.blk (rs.getD i iz)=some b->B.heap[b]? = A.heap[b]?):gF B ao rs:=by
 have hat:∀ i,i<rs.length->bC.At (rs.getD i iz) B:=fun i hi=>bC.keep (h.2.2 i hi) hs (fun b _ hb=>h2 i hi b hb)
 exact⟨⟨h.1.1,h.1.2.1.keep (fun a ha _=>h1 a ha),fun i hi=>(hat i hi).1⟩,fun a ha=>Q8 (h.2.1 a ha) hs,hat⟩
attribute [local go_sem] Oper.semAt_some
end
def pM (e:TypeId):El ah (List Int) where
 enc:=ah.val
 At x W:=bC.At x W/\W.ownsRow 0 e 1 x.val x.xs.length (x.xs.map (Value.int .i64))
 blk:=bC.blk
 key:=ah.xs
 keep:=by
  rintro x A B ⟨h,ho⟩ hs hb;refine⟨bC.keep h hs hb,ho.1,?_⟩;rcases ho.2 with h | ⟨g,cap,cur,hv,hb',hg,h1,h2,h3,h4⟩
  ·exact .inl h
  ·refine .inr ⟨g,cap,cur,hv,hb',(hb g (QI.1 hg).1 ?_).trans hg,h1,h2,h3,h4⟩;have:x.ad=some (aD g 0):=by
    have h:=hv;unfold ah.val at h;injection h
   show Option.map _ x.ad=_
   rw[this];rfl
 YD:=fun h hb=>bC.YD h.1 hb
def gG (vals:List Int) (k:Nat):Array Value:=((vals.take k).map (Value.int .i64)++List.replicate (vals.length-k) (Value.int .i64 0)).toArray
theorem Gy (vals:List Int) {k:Nat} (hk:k<vals.length):(gG vals k).setIfInBounds k (.int .i64 (vals.getD k 0))=gG vals (k+1):=by
 unfold gG;rw[QK];congr 1;have h1:((vals.take k).map (Value.int .i64)).length=k:=by simp; omega
 have h2:vals.length-k=(vals.length-(k+1))+1:=by omega
 rw[ZI _ _ (by omega),h1,ZJ,h2,List.replicate_succ,Qc,<- rM vals 0 hk];simp
theorem Gz (vals:List Int):gG vals vals.length=(vals.map (Value.int .i64)).toArray:=by simp[gG]
theorem D8 (vals:List Int):madeCells #[.int .i64 0] vals.length=gG vals 0:=by
 rw[sH];simp[gG]
theorem Us (x c:ah) (w:World) (hx:x.At w) (hc:c.At w) (ha:bG c.xs x.xs.length=true) (hl:c.xs.length<=1000) :
  Calls Tryz.prog 165 #[x.val,c.val] w fun e w'=>e=.returned (.slice (some (aD w.heap.size 0)) c.xs.length c.xs.length)/\w' = w.alloc (.cells ((xY x.xs c.xs).map (Value.int .i64)).toArray 3):=by
 obtain⟨zh,lC,xs⟩:=x;obtain⟨Y8,GD,cs⟩:=c;unfold ah.val;simp only at ha hl;have hmk:=run_make_row' (P:=Tryz.prog) 22 3 (.int .i64 0) 8 Tryz.underlying22 Tryz.iZ rfl .i64 .i64 cs.length (by omega) (by omega);have hvl:(xY xs cs).length=cs.length:=by simp[xY]
 have hm0:=D8 (xY xs cs);rw[hvl] at hm0;rw[hm0] at hmk;have HX:Hid _:=hx;have HC:Hid _:=hc;have HA:=Zh ha;have HV:=Zh hvl;have hxl:=hx.1;simp only at hxl;clear hx hc ha hm0;generalize hvv:xY xs cs=vals at *;have HVV:=Zh hvv;clear hvv;have amF:=HV.out;clear hvl;simp only;go_enter Tryz.func165,Tryz.ntmps165;go_wp2;go_loopw [13] (fun i wr=>∃ k:Nat,k<=cs.length/\i=.int .i64 k/\w.alloc (.cells (gG vals k) 3)=wr) (fun i _=>cs.length-(intOf i).toNat)
 case atStart=>exact⟨0,QQ _,rfl,rfl⟩
 case round=>
  obtain⟨k,hk,rfl,rfl⟩:=hrel;by_cases hlt:k<cs.length
  ·obtain⟨cb,ahs,rfl,hcc⟩:=HC.out.get hlt;have hck:=cB (bU w (.cells (gG vals k) 3)) (hcc k hlt);have hbd:=lu HA.out hlt;have hcv:cs.getD k 0=cs[k]:=by simp[List.getD,hlt]
   rw[hcv] at hck;have hvk:vals.getD k 0=xs.getD cs[k].toNat 0:=by
    rw[<- HVV.out];simp[xY,List.getD,hlt]
   have hkn:cs[k].toNat<xs.length:=by omega
   obtain⟨xb,adr,rfl,J5⟩:=HX.out.get hkn;have hxk:=cB (bU w (.cells (gG vals k) 3)) (J5 _ hkn);rw[<- hvk] at hxk;have hst:=BC w (gG vals k) 3 k (.int .i64 (vals.getD k 0));rw[Gy vals (by omega)] at hst;have hcn:((cs[k].toNat:Nat):Int)=cs[k]:=by omega
   have hcell:(w.alloc (.cells (gG vals k) 3)).cell? (aD w.heap.size k)=some (.int .i64 0):=by
    have:(gG vals k)[k]? = some (.int .i64 0):=by
     have h1:((vals.take k).map (Value.int .i64)).length=k:=by simp; omega
     unfold gG;rw[List.getElem?_toArray,QF (by omega),h1,ZJ,List.getElem?_replicate,Qr (by omega)]
    simp[this]
   generalize vals.getD k 0=vk at *;generalize Ut:cs[k]=ck at *;clear hcv hvk J5 hcc Ut;obtain⟨cn,rfl⟩:∃ cn:Nat,ck=(cn:Int):=⟨ck.toNat,by omega⟩
   simp only[Q3] at hkn hxk;clear hcn;go_wp2;go_roundw
   case rel=>exact⟨k+1,by omega,by go_num,by first | rfl | trivial | assumption⟩
   case measure=>simp[intOf]; omega
  ·have hkk:k=cs.length:=by omega
   subst hkk;have Oc:gG vals cs.length=(vals.map (Value.int .i64)).toArray:=by rw[<- amF]; exact Gz vals
   rw[Oc];go_wp2;go_ret;exact⟨rfl,rfl⟩
def qg (E:El ah (List Int)) (P:Program) (v:Value) (rows:List (List Int)) (w:World):Prop:=
 ∃ g lb,v=.func (.func g) #[] lb/\(∀ args w,(callFunc g args).run P w=.ok (.enter g args) w)/\Seq E P g lb rows w
theorem qg.later {E:El ah (List Int)} {P:Program} {v:Value} {rows:List (List Int)} {w w':World} (h:qg E P v rows w) (hb:Below w.heap.size w w'):qg E P v rows w':=by
 obtain⟨g,lb,hv,eg,hs⟩:=h;exact⟨g,lb,hv,eg,Seq.later E hs hb⟩
theorem Ro (t:cO) (w:World) (h:gF w t.ad t.rs) :
  Calls Tryz.prog 107 #[t.val] w fun e w'=>∃ v,e=.returned v/\qg bC Tryz.prog v (t.rs.map (·.xs)) w'/\Below w.heap.size w w':=by
 obtain⟨ad,cap,rs⟩:=t;unfold cO.val;simp only at *;have hb:=bU w (.cells #[.slice ad rs.length cap] 57);have hs:qg bC Tryz.prog (.func (.func 153) #[] #[.pointer (some (aD w.heap.size 0))]) (rs.map (·.xs)) (w.alloc (.cells #[.slice ad rs.length cap] 57)):=
  ⟨_,_,rfl,enters_of Tryz.func153 (by kernel_rfl) rfl,Uo w.heap.size ad cap rs _ (by simp) (by simp) (h.below hb)⟩
 have HS:Hid _:=hs;have HB:=Zh hb;go_enter Tryz.func107,Tryz.ntmps107;go_wp2;go_ret;exact⟨_,rfl,HS.out,HB.out⟩
theorem Ie (vi:Value) (gk:Nat) (lbk:Array Value) (rows:List (List Int)) (p:List Int->Bool) (w:World) (hi:qg bC Tryz.prog vi rows w) (egk:∀ args w,(callFunc gk args).run Tryz.prog w=.ok (.enter gk args) w)
  (hkeep:∀ W x,Below w.heap.size w W->ah.At x W->x.xs∈rows->Calls Tryz.prog gk (#[x.val]++lbk) W fun e W'=>e=.returned (.bool (p x.xs))/\Below W.heap.size W W') :
  Calls Tryz.prog 58 #[vi,.func (.func gk) #[] lbk] w fun e w'=>∃ v,e=.returned v/\qg bC Tryz.prog v (rows.filter p) w'/\Below w.heap.size w w':=by
 obtain⟨gi,yM,rfl,YE,hsi⟩:=hi;have hb1:=bU w (.cells #[.func (.func gi) #[] yM] 83);have hb2:=bU (w.alloc (.cells #[.func (.func gi) #[] yM] 83)) (.cells #[.func (.func gk) #[] lbk] 129);have hb:=hb1.trans (hb2.mono hb1.size);have hs:qg bC Tryz.prog (.func (.func 106) #[] #[.pointer (some (aD w.heap.size 0)),.pointer (some (aD (w.heap.size+1) 0))]) (rows.filter p) ((w.alloc (.cells #[.func (.func gi) #[] yM] 83)).alloc (.cells #[.func (.func gk) #[] lbk] 129)):=
  ⟨_,_,rfl,enters_of Tryz.func106 (by kernel_rfl) rfl,KZ w.heap.size (w.heap.size+1) gi gk yM lbk rows p _ (by simp; omega) (by simp) (by simp) (by simp) (Seq.later _ hsi hb) YE egk (fun W x hW hx hm=>hkeep W x (hb.trans (hW.mono hb.size)) hx hm)⟩
 have HS:Hid _:=hs;have HB:=Zh hb;go_enter Tryz.func58,Tryz.ntmps58;go_wp2;go_ret;exact⟨_,rfl,HS.out,HB.out⟩
theorem Kept.acJ {s:Nat->Prop} (w:World):Kept s w w.drew:=Q9 ((Qp w.heap.size w).drew) (fun b hb _=>hb)
def SL (L:List ah) (R:List Value):Array Value:=(L.map ah.val++R).toArray
