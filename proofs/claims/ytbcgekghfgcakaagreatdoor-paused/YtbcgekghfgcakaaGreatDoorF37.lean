import Derived.Test.YtbcgekghfgcakaaGreatDoorF16
set_option linter.all false
set_option maxRecDepth 100000
set_option maxHeartbeats 16000000
namespace Go.Proofs.Zz
open Go.RowKit Go.Shelf
theorem GU (c:Nat) (w:World) (hc:c<=4) :
  Calls Tryz.prog 266 #[.int .u64 1,.int .u64 c] w fun e w'=>e=.returned (.tuple #[.int .u64 0,.int .u64 c])/\w' = w:=by
 obtain rfl | rfl | rfl | rfl | rfl:c=0∨c=1∨c=2∨c=3∨c=4:=by omega
 all_goals
  go_enter Tryz.func266,Tryz.ntmps266;go_wp2;go_ret2;exact⟨rfl,rfl⟩
theorem PU (c:Nat) (w:World) (hc:c<=4) :
  Calls Tryz.prog 265 #[.int .u64 1,.int .u64 c] w fun e w'=>e=.returned (.tuple #[.int .u64 0,.int .u64 c])/\w' = w:=by
 have h:=GU c w hc;go_enter Tryz.func265,Tryz.ntmps265;go_wp2_with fail;refine h.mono ?_;rintro e w2 ⟨rfl,rfl⟩;go_wp2;go_ret2;exact⟨rfl,rfl⟩
def dG (v:Int) (c k:Nat):List Value:=List.replicate k (Value.int .i64 v)++List.replicate (c-k) (Value.int .i64 0)
theorem Lg (v:Int) {c k:Nat} (h:k<=c):(dG v c k).length=c:=by simp[dG]; omega
theorem Lh (v:Int) (c:Nat):dG v c c=List.replicate c (Value.int .i64 v):=by simp[dG]
theorem GV (v:Int) (c:Nat):madeCells #[.int .i64 0] c=(dG v c 0).toArray:=by
 rw[sH];simp[dG]
theorem sO (v:Int) {c k m:Nat} (h:k+m<=c):splice (dG v c k) k (List.replicate m (Value.int .i64 v))=dG v c (k+m):=by
 unfold splice dG;rw[List.take_left' (by simp),Xd,List.drop_append,Xd,List.drop_eq_nil_of_le (by simp),Zp,List.drop_replicate,<- QC,List.replicate_append_replicate];congr 2;omega
theorem GY (v:Int) {c k j:Nat} (hj:j<k):(dG v c k)[j]? = some (Value.int .i64 v):=by
 unfold dG;rw[List.getElem?_append_left (by simpa using hj),List.getElem?_replicate,Qr hj]
theorem Tryz.uY:(Tryz.prog.info? 3).map (·.size)=some 1:=by kernel_rfl
theorem PV (w:World) (xb:Nat) (v:Int) (c:Nat) (hc:0<c) (hx:w.cell? (aD xb 0)=some (.int .i64 v)) (ty:TypeId) :
  (Builtin.copy_ #[22,22] ty #[.slice (some (aD w.heap.size 0)) c c,.slice (some (aD xb 0)) 1 1]).run Tryz.prog (w.alloc (.cells (dG v c 0).toArray 3))=.ok (goInt 1) (w.alloc (.cells (dG v c 1).toArray 3)):=by
 rw[BF (w.alloc (.cells (dG v c 0).toArray 3)) 22 22 ty 3 1 w.heap.size c c (some (aD xb 0)) 1 1 (dG v c 0).toArray 3 [.int .i64 v] Tryz.underlying22 Tryz.uY (kG w _) hc rfl
  (fun _=>⟨_,rfl,fun j u hj=>by
   match j,hj with
   | 0,hj => cases hj; exact cB (bU w _) hx⟩) (by simp[dG]; omega) (fun u hu => by simp at hu; subst hu; rfl),uP]
 have h:splice (dG v c 0) 0 (List.replicate 1 (Value.int .i64 v))=dG v c (0+1):=sO v (by omega);unfold splice at h;simp only[List.take_zero,Zp,QE,Xd,List.replicate_one] at h;exact congrArg (fun l=>Result.ok (goInt 1) (w.alloc (.cells (List.toArray l) 3))) h
theorem PW (W:World) (g:Nat) (v:Int) (c k m:Nat) (hg:W.heap[g]? = some (.cells (dG v c k).toArray 3)) (hm:Nat.min k (c-k)=m) (hk:0<k) (hc:k<c) (ty:TypeId) :
  (Builtin.copy_ #[22,22] ty #[.slice (some (aD g k)) (c-k) (c-k),.slice (some (aD g 0)) k c]).run Tryz.prog W=.ok (.int .i64 m) (W.setRow g (dG v c (k+m)).toArray):=by
 have hm':min k (c-k)=m:=hm;have hmk:m<=k/\k+m<=c:=by omega
 rw[run_copy_row (P:=Tryz.prog) W 22 22 ty 3 g k (c-k) (c-k) (aD g 0) k c (dG v c k).toArray 3 (List.replicate m (.int .i64 v)) Tryz.underlying22 Tryz.uY hg (by rw[Xd,hm])
  (fun j u hj=>by
   have hj':j<m:=by have:=(ZF.1 hj).1; simpa using this
   rw[List.getElem?_replicate,Qr hj'] at hj
   cases hj
   have hcl:=GY v (c:=c) (k:=k) (j:=j) (by omega);rw[addr_add];simp[World.cell?,hg,hcl]) (by rw[Xd,Zj,Lg v (by omega)]; omega) (fun u hu=>by obtain⟨_,rfl⟩:=List.mem_replicate.1 hu; rfl)]
 have h:=sO v hmk.2;unfold splice at h;rw[Xd] at h ⊢;rw[<- QC] at h;exact congrArg (fun l=>Result.ok (goInt m) (W.setRow g (List.toArray l))) h
theorem Li (xb:Nat) (v:Int) (c:Nat) (w:World) (hc:c<=4) (hx:w.cell? (aD xb 0)=some (.int .i64 v)) :
  Calls Tryz.prog 246 #[.slice (some (aD xb 0)) 1 1,.int .i64 c] w fun e w'=>e=.returned (.slice (some (aD w.heap.size 0)) c c)/\w'.heap[w.heap.size]? = some (.cells (List.replicate c (Value.int .i64 v)).toArray 3)/\Below w.heap.size w w'/\w'.heap.size=w.heap.size+1:=by
 have hmk:=run_make_row' (P:=Tryz.prog) 22 3 (.int .i64 0) 8 Tryz.underlying22 Tryz.iZ rfl .i64 .i64 c (by omega) (by omega);rw[GV v c] at hmk;have hmul:=PU c w hc;obtain⟨k0,hk0⟩:∃ k0,Nat.min 1 c=k0:=⟨_,rfl⟩
 have hk1:k0<=c/\k0<=1/\(k0=0->c=0):=by
  have h:min 1 c=k0:=hk0;omega
 have hcp:∀ ty,(Builtin.copy_ #[22,22] ty #[.slice (some (aD w.heap.size 0)) c c,.slice (some (aD xb 0)) 1 1]).run Tryz.prog (w.alloc (.cells (dG v c 0).toArray 3))=.ok (goInt k0) (w.alloc (.cells (dG v c k0).toArray 3)):=by
  intro ty;have h:min 1 c=k0:=hk0;by_cases h0:c=0
  ·subst h0;obtain rfl:k0=0:=by omega
   exact run_copy_none (P:=Tryz.prog) _ 22 22 ty 3 _ _ 0 0 1 1 Tryz.underlying22 Tryz.uY rfl
  ·obtain rfl:k0=1:=by omega
   exact PV w xb v c (by omega) hx ty
 have lK:=Zh hk1;clear hk0 hk1 hx;have hgi:∀ n:Nat,goInt (n:Int)=.int .i64 n:=fun _=>rfl
 rw[hgi] at hcp;go_enter Tryz.func246,Tryz.ntmps246;go_wp2_with fail;refine hmul.mono ?_;rintro e w2 ⟨rfl,rfl⟩;clear hmul;go_wp2;go_loopw [8] (fun s wr=>∃ k:Nat,k<=c/\s=.int .i64 k/\(k=0->c=0)/\wr.heap[w2.heap.size]? = some (.cells (dG v c k).toArray 3)/\Below w2.heap.size w2 wr/\wr.heap.size=w2.heap.size+1) (fun s _=>c-(intOf s).toNat)
 case atStart=>exact⟨k0,lK.out.1,rfl,lK.out.2.2,kG _ _,bU _ _,by simp⟩
 case round=>
  obtain⟨k,hk,rfl,amN,hg,hb,hsz⟩:=hrel;by_cases hlt:k<c
  ·obtain⟨m,hm⟩:∃ m,Nat.min k (c-k)=m:=⟨_,rfl⟩
   have hcp1:=PW wr.drew w2.heap.size v c k m hg hm (by omega) hlt;have hm':min k (c-k)=m:=hm;have hm1:0<m/\k+m<=c:=by omega
   have HM:=Zh hm1;have HS:=Zh hsz;have HB:=Zh hb;have HG:=Zh hg;clear hm hm' hm1 hcp hmk amN hsz hb hg;go_wp2;go_region
   all_goals
    have hb2:Below w2.heap.size w2 (wr.drew.setRow w2.heap.size (dG v c (k+m)).toArray):=below_setRow HB.out.drew (Qq _) _;have hwr:wrap64 ((k:Int)+(m:Int))=((k+m:Nat):Int):=by have:=HM.out; unfold wrap64; omega
    have hg2:(wr.drew.setRow w2.heap.size (dG v c (k+m)).toArray).heap[w2.heap.size]? = some (.cells (dG v c (k+m)).toArray 3):=setRow_heap wr.drew w2.heap.size _ _ _ _ HG.out;have hs2:(wr.drew.setRow w2.heap.size (dG v c (k+m)).toArray).heap.size=w2.heap.size+1:=(setRow_size _ _ _).trans HS.out;rw[hwr];have HB2:=Zh hb2;have HG2:=Zh hg2;have HS2:=Zh hs2;clear hb2 hwr hg2 hs2;generalize wr.drew.setRow w2.heap.size (dG v c (k+m)).toArray=wf at *;go_wp2;go_roundw
    case rel=>exact⟨k+m,HM.out.2,rfl,fun h=>by have:=HM.out; omega,HG2.out,HB2.out,HS2.out⟩
    case measure=>have:=HM.out; simp[intOf]; omega
  ·have hkk:k=c:=by omega
   subst hkk;rw[Lh] at hg;go_wp2;go_ret;exact⟨rfl,hg,hb,hsz⟩
theorem Ei (s v:Int) (w:World) (hs:-2305843009213693952<=s/\s<=2305843009213693952) (hv:-2305843009213693952<=v/\v<=2305843009213693952) :
  Calls Tryz.prog 247 #[.int .i64 s,.int .i64 v] w fun e w'=>e=.returned (.int .i64 (Pg s v))/\w' = w:=by
 have hw:wrap64 (s+v)=s+v:=by unfold wrap64; omega
 unfold Pg;by_cases h1:v=1073741824
 ·rw[Qr h1];subst h1;go_enter Tryz.func247,Tryz.ntmps247;go_wp2;go_ret;exact⟨rfl,rfl⟩
 ·rw[Qs h1];by_cases h2:s=1073741824
  ·rw[Qr h2];subst h2;go_enter Tryz.func247,Tryz.ntmps247;go_wp2;go_ret;exact⟨rfl,rfl⟩
  ·rw[Qs h2];go_enter Tryz.func247,Tryz.ntmps247;go_wp2;go_ret;exact⟨rfl,rfl⟩
theorem Ej (k:ah) (n:Nat) (w:World) (hn:n<=4) :
  Calls Tryz.prog 209 #[k.val,.int .i64 n] w fun e w'=>e=.returned (.pointer (some (aD (w.heap.size+2) 0)))/\
   w'.heap[w.heap.size+2]? = some (.cells #[k.val,.int .i64 0,.slice (some (aD (w.heap.size+1) 0)) n n] 280)/\
   w'.heap[w.heap.size+1]? = some (.cells (List.replicate n (Value.int .i64 1073741824)).toArray 3)/\Below w.heap.size w w'/\w'.heap.size=w.heap.size+3:=by
 obtain⟨kH,dJ,jK⟩:=k;unfold ah.val;simp only;have hb1:=bU w (.cells #[.int .i64 1073741824] 3);have hr:=Li w.heap.size 1073741824 n (w.alloc (.cells #[.int .i64 1073741824] 3)) hn (by simp);have hs1:(w.alloc (.cells #[.int .i64 1073741824] 3)).heap.size=w.heap.size+1:=by simp
 rw[hs1] at hr;obtain⟨w1,hw1⟩:∃ w1,w.alloc (.cells #[.int .i64 1073741824] 3)=w1:=⟨_,rfl⟩
 have HW1:=Zh hw1;have nR:=Zh hs1;have HB1:=Zh hb1;clear hs1 hb1;rw[hw1] at hr;clear hw1;go_enter Tryz.func209,Tryz.ntmps209;go_wp2_with fail;rw[HW1.out];refine hr.mono ?_;rintro e w2 ⟨rfl,hg2,hb2,hs2⟩;have HG2:=Zh hg2;have HB2:=Zh hb2;have HS2:=Zh hs2;clear hr hg2 hb2 hs2;go_wp2;go_ret;have h2:w2.heap.size=w.heap.size+2:=HS2.out;have hbw:Below w.heap.size w w2:=by
  have:=HB1.out;rw[HW1.out] at this;exact this.trans (HB2.out.mono (by omega))
 rw[<- h2];refine⟨rfl,kG _ _,?_,hbw.alloc (by omega) _,by simp; omega⟩;exact (Below.heap_alloc w2 _ _ (by omega)).trans HG2.out
theorem Lj {W:World} {b:Nat} {cs:Array Value} {t:TypeId} (h:W.heap[b]? = some (.cells cs t)) {i:Nat} {v:Value} (hv:cs[i]? = some v):W.cell? (aD b i)=some v:=by
 simp[World.cell?,h,hv]
theorem tO {W:World} {b:Nat} {cs:Array Value} {t:TypeId} (h:W.heap[b]? = some (.cells cs t)) (i:Nat):W.frozen? (aD b i)=false:=by
 simp[World.frozen?,h]
theorem Dc {W:World} {b:Nat} {cs:Array Value} {t:TypeId} (h:W.heap[b]? = some (.cells cs t)) (i:Nat) (v:Value):(W.setCell (aD b i) v).heap[b]? = some (.cells (cs.setIfInBounds i v) t):=by
 rw[setCell_eq_setRow W b i cs t (0,0) v h];exact setRow_heap W b _ _ _ _ h
theorem G7 {W:World} {b c:Nat} (hne:c≠b) (i:Nat) (v:Value):(W.setCell (aD b i) v).heap[c]? = W.heap[c]?:=Below.heap_setCell W (aD b i) v c hne
def Xe:=@Lj
theorem getD_in {α:Type} {l:List α} {d:α} {k:Nat} (hk:k<l.length):l.getD k d∈l:=by
 have e:l.getD k d=l[k]:=by simp[List.getD,hk]
 rw[e];exact Qj hk
def wE (x:Int):Prop:=-2305843009213693952<=x/\x<=2305843009213693952
def rG (ss row aH:List Int) (k:Nat):List Int:=(nM ss row aH).take k++ss.drop k
theorem NN {ss row aH:List Int}:rG ss row aH 0=ss:=by simp[rG]
theorem TE {ss row aH:List Int} (h:ss.length=aH.length):rG ss row aH aH.length=nM ss row aH:=by
 unfold rG;rw[ZY (by rw[lJ h]; exact Qq _),List.drop_of_length_le (by omega),Xl]
theorem TF {ss row aH:List Int} (h:ss.length=aH.length) {k:Nat} (hk:k<aH.length):(rG ss row aH k)[k]? = some (ss.getD k 0):=by
 unfold rG;rw[QF (by rw[Q6,lJ h]; omega),Q6,lJ h,Qy (by omega),ZJ,XH];simp[List.getD,show k<ss.length by omega]
theorem TG {ss row aH:List Int} (h:ss.length=aH.length) {k:Nat} (hk:k<aH.length):(rG ss row aH k).set k (Pg (ss.getD k 0) (row.getD (aH.getD k 0).toNat 0))=rG ss row aH (k+1):=by
 unfold rG;have hl:((nM ss row aH).take k).length=k:=by rw[Q6,lJ h]; omega
 rw[ZI _ _ (by omega),hl,ZJ,Xc (by omega),Qc,Qk (by rw[lJ h]; omega),QC];congr 2;simp[nM,List.getD,hk,show k<ss.length by omega]
theorem FZ (gb sb:Nat) (kv:Value) (cnt:Nat) (ss:List Int) (x c:ah) (w:World) (hgs:gb≠sb)
  (hg:w.heap[gb]? = some (.cells #[kv,.int .i64 cnt,.slice (some (aD sb 0)) c.xs.length c.xs.length] 280)) (hs:w.heap[sb]? = some (.cells (ss.map (Value.int .i64)).toArray 3)) (hl:ss.length=c.xs.length) (hcl:c.xs.length<=4)
  (hx:x.At w) (hc:c.At w) (hxb:∀ a,x.ad=some a->a.block≠gb/\a.block≠sb) (hcb:0<c.xs.length->∀ a,c.ad=some a->a.block≠gb/\a.block≠sb) (ha:bG c.xs x.xs.length=true)
  (hcnt:cnt<=1000000) (hbs:∀ s∈ss,wE s) (hbx:∀ v∈x.xs,wE v) :
  Calls Tryz.prog 210 #[.pointer (some (aD gb 0)),x.val,c.val] w fun e w'=>(∃ v,e=.returned v)/\
   w'.heap[gb]? = some (.cells #[kv,.int .i64 (cnt+1:Nat),.slice (some (aD sb 0)) c.xs.length c.xs.length] 280)/\w'.heap[sb]? = some (.cells ((nM ss x.xs c.xs).map (Value.int .i64)).toArray 3)/\
   Kept (fun b=>b≠gb/\b≠sb) w w'/\w'.heap.size=w.heap.size:=by
 obtain⟨zh,lC,xs⟩:=x;obtain⟨Y8,GD,cs⟩:=c;unfold ah.val;simp only at *;have c1:w.cell? (aD gb 1)=some (.int .i64 cnt):=Xe hg rfl;have f1:=tO hg 1;have hw1:wrap64 ((cnt:Int)+1)=((cnt+1:Nat):Int):=by unfold wrap64; omega
 have HG:=Zh hg;have HS:=Zh hs;have HX:Hid _:=hx;have HC:Hid _:=hc;have HXB:=Zh hxb;have uK:=Zh hcb;have HA:=Zh ha;have HL:=Zh hl;have HGS:Hid _:=hgs;have xI:=Zh hbs;have og:=Zh hbx;clear hg hs hx hc hxb hcb ha hl hgs hbs hbx;go_enter Tryz.func210,Tryz.ntmps210;go_wp2;go_loopw [17] (fun i wr=>∃ k:Nat,k<=cs.length/\i=.int .i64 k/\wr.heap[gb]? = some (.cells #[kv,.int .i64 (cnt+1:Nat),.slice (some (aD sb 0)) cs.length cs.length] 280)/\wr.heap[sb]? = some (.cells ((rG ss xs cs k).map (Value.int .i64)).toArray 3)/\
  Kept (fun b=>b≠gb/\b≠sb) w wr/\wr.heap.size=w.heap.size) (fun i _=>cs.length-(intOf i).toNat)
 case atStart=>
  refine⟨0,QQ _,rfl,?_,?_,Zv _ _ _ (fun h=>h.1 rfl),by simp[World.setCell]⟩
  ·have:=Dc HG.out 1 (.int .i64 (wrap64 ((cnt:Int)+1)));rw[hw1] at this
   first | exact this | (rw[hw1]; exact this)
  ·rw[G7 (fun e=>HGS.out e.symm),NN];exact HS.out
 case round=>
  obtain⟨k,hk,rfl,hgk,hsk,hkk,hzk⟩:=hrel;by_cases hlt:k<cs.length
  ·obtain⟨cb,ahs,rfl,hcc⟩:=HC.out.get hlt;have hck:=Zr (hcc k hlt) hkk (uK.out (by omega) (aD cb ahs) rfl);have hbd:=lu HA.out hlt;have hcv:cs.getD k 0=cs[k]:=by simp[List.getD,hlt]
   have hkn:cs[k].toNat<xs.length:=by omega
   obtain⟨xb,adr,rfl,J5⟩:=HX.out.get hkn;have hxk:=Zr (J5 _ hkn) hkk (HXB.out (aD xb adr) rfl);have c2:wr.cell? (aD gb 2)=some (.slice (some (aD sb 0)) cs.length cs.length):=Xe hgk rfl;have c3:=Xe hsk (by rw[List.getElem?_toArray,QW,TF HL.out hlt]; rfl);have f3:=tO hsk k;have hset:=TG (row:=xs) HL.out hlt;rw[hcv] at hset hck;have hb1:wE (ss.getD k 0):=xI.out _ (getD_in (by have:=HL.out; omega));have hb2:wE (xs.getD cs[k].toNat 0):=og.out _ (getD_in hkn);have hcn:((cs[k].toNat:Nat):Int)=cs[k]:=by omega
   have Io:=Zh hgk;have YX:=Zh hsk;have HKK:=Zh hkk;have HZK:=Zh hzk;have akP:=Zh hset;clear hgk hsk hkk hzk hset hcc J5 hcv;generalize ss.getD k 0=sv at *;generalize xs.getD cs[k].toNat 0=xv at *;generalize Ut:cs[k]=ck at *;clear Ut;obtain⟨cn,rfl⟩:∃ cn:Nat,ck=(cn:Int):=⟨ck.toNat,by omega⟩
   simp only[Q3] at hkn hxk;clear hcn c1 f1;obtain⟨wf,hwf⟩:∃ wf,(wr.setCell (aD sb k) (.int .i64 (Pg sv xv))).drew=wf:=⟨_,rfl⟩
   have Ue:Kept (fun b=>b≠sb) wr wf:=by
    rw[<- hwf];exact (Zv wr (aD sb k) _ (fun h=>h rfl)).trans ⟨rfl,rfl,rfl,Qq _,fun _ _ _=>rfl⟩
   have Vh:=Zh ((Ue.block gb (QI.1 Io.out).1 HGS.out).trans Io.out);have HF2:Hid (wf.heap[sb]? = some (.cells ((rG ss xs cs (k+1)).map (Value.int .i64)).toArray 3)):=by
    have h:=Dc YX.out k (.int .i64 (Pg sv xv));rw[QK,<- List.map_set,akP.out] at h;rw[<- hwf];exact h
   have HF3:=Zh (HKK.out.trans (Ue.mono fun _ _ h=>h.2));have HF4:Hid (wf.heap.size=w.heap.size):=by
    have h:wf.heap.size=wr.heap.size:=by rw[<- hwf]; show (wr.setCell _ _).heap.size=_; simp[World.setCell]
    exact h.trans HZK.out
   have HWF:=Zh hwf;clear Ue hwf Io YX HKK HZK akP HG HS HA HL HGS xI og HX HC HXB uK hw1 hcnt;go_wp2;go_region_with (refine (Ei sv xv _ hb1 hb2).mono ?_; rintro e w4 ⟨rfl,rfl⟩)
   all_goals
    rw[HWF.out];go_wp2;go_roundw
    case rel=>exact⟨k+1,by omega,by go_num,Vh.out,HF2.out,HF3.out,HF4.out⟩
    case measure=>simp[intOf]; omega
  ·have abI:k=cs.length:=by omega
   subst abI;rw[TE HL.out] at hsk;have HE1:=Zh hgk;have HE2:=Zh hsk;have HE3:=Zh hkk;have HE4:=Zh hzk;clear hgk hsk hkk hzk;go_wp2
   (try simp only[Exit.inBlock,Exit.then])
   refine bodyPost_end (results_none rfl _ _ _) rfl ?_;exact⟨⟨_,rfl⟩,HE1.out,HE2.out,HE3.out,HE4.out⟩
section
open Go.Maps Go.WideMaps
theorem nu:∀ (os:List Obj) (w:World) (i:Nat) (hi:i<os.length),(os.foldl World.alloc w).heap[w.heap.size+i]? = some os[i]
 | [],_,i,hi => by simp at hi
 | o::os,w,0,_ => by
  rw[QO];have hb:∀ (os:List Obj) (v:World),Below v.heap.size v (os.foldl World.alloc v):=by
   intro os
   induction os with
   | nil => intro v; exact Qp _ _
   | cons o os ih => intro v; rw[QO]; exact (bU v o).trans ((ih _).mono (bU v o).size)
  exact ((hb os (w.alloc o)).block w.heap.size (by simp)).trans (kG w o)
 | o::os,w,i+1,hi => by
  rw[QO];have h:=nu os (w.alloc o) i (by simpa using hi);rw[Zd] at h;rw[show w.heap.size+(i+1)=w.heap.size+1+i by omega,h];rfl
theorem lH:∀ (os:List Obj) (v:World),Below v.heap.size v (os.foldl World.alloc v):=by
 intro os
 induction os with
 | nil => intro v; exact Qp _ _
 | cons o os ih => intro v; rw[QO]; exact (bU v o).trans ((ih _).mono (bU v o).size)
structure GA (P:Program) (tm tg ti:TypeId) (z:Value) (w W:World) (n:Nat) (ss:List Int) (sv:Value) (L gr cap gb sb:Nat):Prop where
 box:W.cell? (aD (w.heap.size+2) 0)=some (.slice (some (aD gr 0)) 1 cap)
 ptr:W.cell? (aD gr 0)=some (.pointer (some (aD gb 0)))
 g:W.heap[gb]? = some (.cells #[.slice none 0 0,.int .i64 n,.slice (some (aD sb 0)) L L] tg)
 s:W.heap[sb]? = some (.cells (ss.map (Value.int .i64)).toArray ti)
 look:∀ X:World,X.heap[w.heap.size+3]? = W.heap[w.heap.size+3]?->(Instr.lookup tm (.map (some (w.heap.size+3))) z true).run P X=.ok (.tuple #[.int .i64 0,.bool true]) X
 bk:W.cell? (aD w.heap.size 0)=some (.slice none 0 0)
 bs:W.cell? (aD (w.heap.size+1) 0)=some sv
 bn:W.cell? (aD (w.heap.size+4) 0)=some (.map (some (w.heap.size+3)))
 below:Below w.heap.size w W
 far:w.heap.size+5<=gr/\w.heap.size+5<=gb/\w.heap.size+5<=sb/\gr≠gb/\gr≠sb/\gb≠sb
def gaO (n gr gb sb b:Nat):Prop:=b=gr∨b=gb∨b=sb∨b=n+2∨b=n+3
theorem GA.lts {P:Program} {tm tg ti:TypeId} {z:Value} {w W:World} {n:Nat} {ss:List Int} {sv:Value} {L gr cap gb sb:Nat} (h:GA P tm tg ti z w W n ss sv L gr cap gb sb):gr<W.heap.size/\gb<W.heap.size/\sb<W.heap.size/\w.heap.size+4<W.heap.size:=
 ⟨Zf h.ptr,(QI.1 h.g).1,(QI.1 h.s).1,Zf h.bn⟩
theorem GA.turn {P:Program} {tm tg ti:TypeId} {z:Value} {w A B:World} {n m:Nat} {ss ss':List Int} {sv:Value} {L gr cap gb sb:Nat} (h:GA P tm tg ti z w A n ss sv L gr cap gb sb) {s:Nat->Prop} (hk:Kept s A B) (hs:∀ b,b=gr∨b<w.heap.size+5->s b)
  (hg:B.heap[gb]? = some (.cells #[.slice none 0 0,.int .i64 m,.slice (some (aD sb 0)) L L] tg)) (hss:B.heap[sb]? = some (.cells (ss'.map (Value.int .i64)).toArray ti)):GA P tm tg ti z w B m ss' sv L gr cap gb sb:=by
 have hl:=h.lts;have q:∀ b,b<w.heap.size+5->s b:=fun b hb=>hs b (.inr hb)
 exact⟨Zr h.box hk (q _ (show _+2<_ by omega)),Zr h.ptr hk (hs _ (.inl rfl)),hg,hss,fun X hX=>h.look X (hX.trans (hk.block _ (by omega) (q _ (by omega)))),Zr h.bk hk (q _ (show w.heap.size<_ by omega)),Zr h.bs hk (q _ (show _+1<_ by omega)),Zr h.bn hk (q _ (show _+4<_ by omega)),h.below.trans (hk.below h.below.size (fun b hb=>q b (by omega))),h.far⟩
theorem GA.keep {P:Program} {tm tg ti:TypeId} {z:Value} {w A B:World} {n:Nat} {ss:List Int} {sv:Value} {L gr cap gb sb:Nat} (h:GA P tm tg ti z w A n ss sv L gr cap gb sb) {s:Nat->Prop} (hk:Kept s A B) (hs:∀ b,gaO w.heap.size gr gb sb b∨b<w.heap.size+5->s b):GA P tm tg ti z w B n ss sv L gr cap gb sb:=
 h.turn hk (fun b hb=>hs b (hb.imp .inl id)) ((hk.block _ h.lts.2.1 (hs _ (.inl (.inr (.inl rfl))))).trans h.g) ((hk.block _ h.lts.2.2.1 (hs _ (.inl (.inr (.inr (.inl rfl)))))).trans h.s)
def lI (aH:List Int) (rows:List (List Int)):List Int:=rows.foldl (fun a r=>nM a r aH) (List.replicate aH.length 1073741824)
theorem Bo (aH:List Int):∀ (rows:List (List Int)) (a:List Int),a.length=aH.length->(rows.foldl (fun a r=>nM a r aH) a).length=aH.length
 | [],_,h => h
 | _::rows,_,h => Bo aH rows _ (lJ h)
attribute [local go_sem] Oper.semAt_some
theorem Tryz.agw:ArrKey Tryz.prog 277 3 4:=⟨Tryz.underlying277,by kernel_rfl,by kernel_rfl,by kernel_rfl⟩
theorem Tryz.wF:Go.Maps.Keyed Tryz.prog 277:=Go.Maps.Keyed.of_law Tryz.agw.law
theorem Tryz.aca (w:World):(zeroValue 3).run Tryz.prog w=.ok (.int .i64 0) w:=by kernel_rfl
theorem Tryz.acb:(Tryz.prog.info? 231).map (fun i=>(i.zero,i.size,i.bytes))=some (some (.pointer none),1,8):=by kernel_rfl
def Bp:Value:=.agg #[.int .i64 0,.int .i64 0,.int .i64 0,.int .i64 0]
theorem TH:∃ l,keyOf Tryz.prog 277 Bp=some l:=⟨(keyOf Tryz.prog 277 Bp).getD (.int .i64 0),by kernel_rfl⟩
def Yq (w:World) (sv:Value):List Obj:=[.cells #[.slice none 0 0] 22,.cells #[sv] 22,.cells #[.slice none 0 0] 229,.map #[] 0,.cells #[.map (some (w.heap.size+1+1+1))] 275]
end
section
open Go.Maps Go.WideMaps
attribute [local go_sem] Oper.semAt_some
@[reducible] def GZ (w W:World) (n:Nat) (ss:List Int) (sv:Value) (L gr cap gb sb:Nat):Prop:=GA Tryz.prog 275 280 3 Bp w W n ss sv L gr cap gb sb
theorem acd {w w6:World} {D:DataW Unit} {kl:Lit} (hD:IsMap D) (hkl:keyOf Tryz.prog 277 Bp=some kl) (hown:w6.ownsMap Tryz.prog 277 (plainElem Tryz.prog 3) (w.heap.size+3) 1 (D.put kl (.lit (.int .i64 0)))) (X:World) (hX:X.heap[w.heap.size+3]? = w6.heap[w.heap.size+3]?) :
  (Instr.lookup 275 (.map (some (w.heap.size+3))) Bp true).run Tryz.prog X=.ok (.tuple #[.int .i64 0,.bool true]) X:=by
 have ho:X.ownsMap Tryz.prog 277 (plainElem Tryz.prog 3) (w.heap.size+3) 1 (D.put kl (.lit (.int .i64 0))):=by
  obtain⟨es,clock,h1,h2⟩:=hown;exact⟨es,clock,hX.trans h1,h2⟩
 obtain⟨v,ps,hrun,hv⟩:=ho.look_ok Tryz.wF Tryz.underlying275 (Tryz.aca X) (plainElem_int (H:=Unit) Tryz.underlying3 (a:=0) rfl) hkl;obtain⟨c,rfl,hc,_⟩:=plainElem_int_inv Tryz.underlying3 hv;have hc':(D.put kl (.lit (.int .i64 0))).atKey kl (.lit (.int .i64 0))=.lit (.int .i64 c):=congrArg Prod.fst hc;rw[atKey_put_same hD (Tryz.wF.key hkl) _ _] at hc';simp only[DataW.lit.injEq,Lit.int.injEq,true_and] at hc';have e:=hc';rw[hrun,has_put_same hD (Tryz.wF.key hkl) _,<- e]
def gaM (tg ti:TypeId) (V:World) (b2 n:Nat) (wx:World) (gr cap:Nat):Prop:=
 wx.cell? (aD b2 0)=some (.slice (some (aD gr 0)) 1 cap)/\wx.cell? (aD gr 0)=some (.pointer (some (aD (V.heap.size+2) 0)))/\wx.heap[V.heap.size+2]? = some (.cells #[.slice none 0 0,.int .i64 0,.slice (some (aD (V.heap.size+1) 0)) n n] tg)/\wx.heap[V.heap.size+1]? = some (.cells (List.replicate n (Value.int .i64 1073741824)).toArray ti)/\V.heap.size+3<=gr/\Kept (fun b=>b≠b2) V wx
theorem ace {X:World} {b:Nat} (h:X.heap[b]? = some (.map #[] 0)):∃ D,IsMap D/\X.ownsMap Tryz.prog 277 (plainElem (H:=Unit) Tryz.prog 3) b 0 D:=by
 have hm:=World.ownsMap_made X Tryz.prog 277 (plainElem (H:=Unit) Tryz.prog 3);have hm':=hm;obtain⟨es,clock,h1,h2⟩:=hm';have e:=h1.symm.trans (kG X _)
 cases e
 exact⟨_,hm.isMap,⟨_,_,h,h2⟩⟩
theorem Yr {w V wc w6:World} {gr cap n:Nat} {sv:Value} {D:DataW Unit} {kl:Lit} (hs:V.heap.size=w.heap.size+5) (hbV:Below w.heap.size w V) (f0:V.cell? (aD w.heap.size 0)=some (.slice none 0 0)) (f1:V.cell? (aD (w.heap.size+1) 0)=some sv) (f4:V.cell? (aD (w.heap.size+4) 0)=some (.map (some (w.heap.size+3))))
  (hM:gaM 280 3 V (w.heap.size+2) n wc gr cap) (hD:IsMap D) (hkl:keyOf Tryz.prog 277 Bp=some kl) (hown:w6.ownsMap Tryz.prog 277 (plainElem Tryz.prog 3) (w.heap.size+3) 1 (D.put kl (.lit (.int .i64 0)))) (hgrow:wc.grownBy w6 (some (w.heap.size+3))) :
  GZ w w6 0 (List.replicate n 1073741824) sv n gr cap (V.heap.size+2) (V.heap.size+1):=by
 have mQ:Kept (fun b=>b≠w.heap.size+3) wc w6:=Zw hgrow (fun r e hr=>by cases e; exact hr rfl);obtain⟨m1,m2,m3,m4,m5,m6⟩:=hM;have l3:=(QI.1 m3).1;refine⟨Zr m1 mQ (show w.heap.size+2≠_ by omega),Zr m2 mQ (show gr≠_ by omega),(mQ.block _ l3 (by omega)).trans m3,?_,acd hD hkl hown,Zr (Zr f0 m6 (show w.heap.size≠_ by omega)) mQ (show w.heap.size≠_ by omega),Zr (Zr f1 m6 (show w.heap.size+1≠_ by omega)) mQ (show w.heap.size+1≠_ by omega),Zr (Zr f4 m6 (show w.heap.size+4≠_ by omega)) mQ (show w.heap.size+4≠_ by omega),(hbV.trans (m6.below (by omega) (fun b hb=>by omega))).trans (mQ.below (by omega) (fun b hb=>by omega)),by omega⟩;rw[List.map_replicate];exact (mQ.block _ (by omega) (by omega)).trans m4
def gaN (V W:World) (n:Nat) (ss:List Int) (L:Nat):Prop:=W.heap[V.heap.size+2]? = some (.cells #[.slice none 0 0,.int .i64 n,.slice (some (aD (V.heap.size+1) 0)) L L] 280)/\W.heap[V.heap.size+1]? = some (.cells (ss.map (Value.int .i64)).toArray 3)
theorem Yt {w0 w V W W2 wc:World} {gr cap:Nat} {sc x:ah} {rows:List (List Int)} {pre:List ah} {o1:Nat->Prop} (hsc:sc.At w) (hsl:sc.xs.length<=4) (NP:∀ r∈rows,bG sc.xs r.length=true) (hsm:∀ r∈rows,∀ v∈r,wE v) (hbig:∀ n,∀ s∈lI sc.xs (rows.take n),wE s)
  (sU:∀ b,o1 b↔gaO w.heap.size gr (V.heap.size+2) (V.heap.size+1) b) (hG:GZ w W pre.length (lI sc.xs (pre.map ah.xs)) sc.val sc.xs.length gr cap (V.heap.size+2) (V.heap.size+1)) (hpre:(pre++[x]).map bC.key <+: rows) (hx:bC.At x W) (hoff:∀ b,bC.blk x=some b->¬ o1 b/\(b<w0.heap.size∨wc.heap.size<=b)) (hb2:Below W.heap.size W W2) (hb0:Below w0.heap.size w0 w) (hlen:rows.length<=1000) :
  (∀ W7:World,gaN V W7 (pre.length+1) (nM (lI sc.xs (pre.map ah.xs)) x.xs sc.xs) sc.xs.length->Kept (fun b=>b≠V.heap.size+2/\b≠V.heap.size+1) W2 W7->W7.heap.size=W2.heap.size->
    ∃ o2:Nat->Prop,((∀ b,o2 b↔gaO w.heap.size gr (V.heap.size+2) (V.heap.size+1) b)/\GZ w W7 (pre++[x]).length (lI sc.xs ((pre++[x]).map ah.xs)) sc.val sc.xs.length gr cap (V.heap.size+2) (V.heap.size+1))/\Kept (fun b=>¬ o1 b) W W7/\∀ b,o2 b->o1 b∨(W.heap.size<=b/\b<W7.heap.size)∨(bC.blk x=some b/\wc.heap.size<=b))/\
   GZ w W2 pre.length (lI sc.xs (pre.map ah.xs)) sc.val sc.xs.length gr cap (V.heap.size+2) (V.heap.size+1)/\
   Calls Tryz.prog 210 #[.pointer (some (aD (V.heap.size+2) 0)),x.val,sc.val] W2.drew fun e w'=>(∃ u,e=.returned u)/\gaN V w' (pre.length+1) (nM (lI sc.xs (pre.map ah.xs)) x.xs sc.xs) sc.xs.length/\Kept (fun b=>b≠V.heap.size+2/\b≠V.heap.size+1) W2 w'/\w'.heap.size=W2.heap.size:=by
 have hl:=hG.lts;have hf:=hG.far;have hG2:=hG.keep (s:=fun b=>b<W.heap.size) (Q9 hb2 (fun b _ h=>h)) (fun b hb=>by rcases hb with (h | h | h | h | h) | h <;> omega);have hxm:=zD hpre;have hkd:∀ s,Kept s W2 W2.drew:=fun s=>⟨rfl,rfl,rfl,Qq _,fun _ _ _=>rfl⟩
 have hpl:pre.length+1<=1000:=by
  have:=hpre.length_le;rw[QU,QT] at this;exact Q4 this hlen
 have htk:pre.map ah.xs=rows.take pre.length:=by
  have h:=hpre;rw[Ql] at h;have:=List.prefix_iff_eq_take.1 ((List.prefix_append _ _).trans h);rw[QU] at this;exact this
 refine⟨fun W7 r1 r3 r4=>⟨o1,⟨sU,?_⟩,?_,fun b hb=>.inl hb⟩,hG2,?_⟩
 ·rw[QT,Ql,show lI sc.xs (pre.map ah.xs++[x].map ah.xs)=nM (lI sc.xs (pre.map ah.xs)) x.xs sc.xs by unfold lI; rw[QM]; rfl];exact hG2.turn r3 (fun b hb=>by omega) r1.1 r1.2
 ·exact (Q9 (s:=fun b=>¬ o1 b) hb2 (fun b hb _=>hb)).trans (r3.mono fun b _ h=>⟨fun e=>h ((sU b).2 (.inr (.inl e))),fun e=>h ((sU b).2 (.inr (.inr (.inl e))))⟩)
 ·have h:=FZ (V.heap.size+2) (V.heap.size+1) (.slice none 0 0) pre.length (lI sc.xs (pre.map ah.xs)) x sc W2.drew (by omega) hG2.g hG2.s (Bo _ _ _ (by simp)) hsl (bC.keep hx hb2.size (fun b hb _=>hb2.block b hb)).1 (Qo (hG2.below) hsc) (fun a ha=>by
    have hb:bC.blk x=some a.block:=by show x.ad.map _=_; rw[ha]; rfl
    exact⟨fun e=>(hoff _ hb).1 ((sU _).2 (.inr (.inl e))),fun e=>(hoff _ hb).1 ((sU _).2 (.inr (.inr (.inl e))))⟩) (fun hp a ha=>by
    obtain⟨b,off,e,hc⟩:=hsc.get hp;rw[e] at ha
    cases ha
    have hlt:b<w.heap.size:=Zf (hc 0 hp);exact⟨fun e=>by have e':b=V.heap.size+2:=e; omega,fun e=>by have e':b=V.heap.size+1:=e; omega⟩) (NP _ hxm) (by omega) (fun s hs=>hbig pre.length s (by rw[<- htk]; exact hs)) (hsm _ hxm)
  refine h.mono ?_;rintro e w' ⟨h1,h2,h3,h4,h5⟩;exact⟨h1,⟨h2,h3⟩,(hkd _).trans h4,h5⟩
theorem JQ (gi:Nat) (yM:Array Value) (sc:ah) (rows:List (List Int)) (w0 w:World) (hb0:Below w0.heap.size w0 w) (hseq:Seq bC Tryz.prog gi yM rows w0) (YE:∀ args w,(callFunc gi args).run Tryz.prog w=.ok (.enter gi args) w)
  (hsc:sc.At w) (hsl:sc.xs.length<=4) (hlen:rows.length<=1000) (NP:∀ r∈rows,bG sc.xs r.length=true) (hsm:∀ r∈rows,∀ v∈r,wE v) (hbig:∀ n,∀ s∈lI sc.xs (rows.take n),wE s) :
  Calls Tryz.prog 162 #[.func (.func gi) #[] yM,.slice none 0 0,sc.val] w fun e w'=>∃ gr cap gb sb,e=.returned (.slice (some (aD gr 0)) 1 cap)/\w.heap.size<=gr/\w.heap.size<=gb/\w.heap.size<=sb/\w'.cell? (aD gr 0)=some (.pointer (some (aD gb 0)))/\
   w'.heap[gb]? = some (.cells #[.slice none 0 0,.int .i64 rows.length,.slice (some (aD sb 0)) sc.xs.length sc.xs.length] 280)/\w'.heap[sb]? = some (.cells ((lI sc.xs rows).map (Value.int .i64)).toArray 3)/\Below w.heap.size w w':=by
 have hh:=nu (Yq w sc.val) w;have hbV:=lH (Yq w sc.val) w;have hsV:((Yq w sc.val).foldl World.alloc w).heap.size=w.heap.size+5:=by simp[Yq]
 obtain⟨V,hV⟩:∃ V,(Yq w sc.val).foldl World.alloc w=V:=⟨_,rfl⟩
 rw[hV] at hh hsV hbV;have f0:V.cell? (aD w.heap.size 0)=some (.slice none 0 0):=Xe (hh 0 (by simp[Yq])) rfl;have f1:V.cell? (aD (w.heap.size+1) 0)=some sc.val:=Xe (hh 1 (by simp[Yq])) rfl;have h2:GB V (w.heap.size+2) 229 #[.slice none 0 0]:=hh 2 (by simp[Yq]);have h3:V.heap[w.heap.size+3]? = some (.map #[] 0):=hh 3 (by simp[Yq]);have f4:V.cell? (aD (w.heap.size+4) 0)=some (.map (some (w.heap.size+3))):=Xe (hh 4 (by simp[Yq])) rfl;simp only[Yq,QO,List.foldl_nil] at hV;have HV:=Zh hV;have HB0:=Zh hb0;have HSC:Hid _:=hsc;have Da:=Zh hsl;have HLEN:=Zh hlen;have HSI:=Zh NP;have HSM:=Zh hsm;have Uc:=Zh hbig;have Yl:=Zh hsV;have HBV:=Zh hbV;have H3:=Zh h3;have H2:Hid _:=h2;have F0:=Zh f0;have F1:=Zh f1;clear hV hb0 hsc hlen NP hsm hbig hsV hbV h2 h3 hh;obtain⟨pY,ig,pG⟩:=sc;unfold ah.val at *;simp only at *;refine (Ze (n:=0)).1 (Zt Tryz.func162 rfl trivial ?_ rfl);simp only[Tryz.ntmps162,Zj,Q5,Zk,Nat.reduceAdd,Nat.reduceSub,Zl,Zm,Zn,Zo,Zp,Zq];have hmm:=@run_makeMap Tryz.prog
 gi_upto_region 3 with fail
 rw[HV.out];simp only[XE,Nat.reduceAdd];have hng:Calls Tryz.prog 209 #[.slice none 0 0,.int .i64 pG.length] V.drew fun e w'=>e=.returned (.pointer (some (aD (V.heap.size+2) 0)))/\
   w'.heap[V.heap.size+2]? = some (.cells #[.slice none 0 0,.int .i64 0,.slice (some (aD (V.heap.size+1) 0)) pG.length pG.length] 280)/\
   w'.heap[V.heap.size+1]? = some (.cells (List.replicate pG.length (Value.int .i64 1073741824)).toArray 3)/\Below V.heap.size V.drew w'/\w'.heap.size=V.heap.size+3:=Ej ⟨none,0,[]⟩ pG.length V.drew Da.out
 have hbx:V.cell? (aD (w.heap.size+2) 0)=some (.slice none 0 0):=Xe H2.out rfl;have zt:Hid (∀ w4:World,w4.heap[V.heap.size+2]? = some (.cells #[.slice none 0 0,.int .i64 0,.slice (some (aD (V.heap.size+1) 0)) pG.length pG.length] 280)->w4.heap[V.heap.size+1]? = some (.cells (List.replicate pG.length (Value.int .i64 1073741824)).toArray 3)->Below V.heap.size V.drew w4->w4.heap.size=V.heap.size+3->
   ∃ gr cap w5,(Builtin.append_ #[229,229] 229 #[.slice none 0 0,.slice (some (aD w4.heap.size 0)) 1 1]).run Tryz.prog (w4.alloc (.cells #[.pointer (some (aD (V.heap.size+2) 0))] 231))=.ok (.slice (some (aD gr 0)) 1 cap) w5/\w5.cell? (aD (w.heap.size+2) 0)=some (.slice none 0 0)/\w5.frozen? (aD (w.heap.size+2) 0)=false/\
    gaM 280 3 V (w.heap.size+2) pG.length (w5.setCell (aD (w.heap.size+2) 0) (.slice (some (aD gr 0)) 1 cap)) gr cap):=by
  intro w4 p2 p1 pb ps;obtain⟨i0,hi,hz0,hz1,hz2⟩:=ZC Tryz.acb;obtain⟨v',w5,hr,ho,hk,-,-⟩:=ZV (P:=Tryz.prog) w4 w4.heap.size 229 229 231 i0 (.pointer none) 1 8 Tryz.underlying229 hi hz0 hz1 hz2 rfl (by decide) (.slice none 0 0) 0 [] (ZE _ _ _ _) (Qq _) [.pointer (some (aD (V.heap.size+2) 0))] rfl (fun u hu=>by rw[QY] at hu; rw[hu]; rfl) (by omega) (by decide);rcases ZT ho with⟨rfl,h1⟩ | ⟨g,cap,rfl,hg,_,hc⟩
  ·exact absurd h1 (by decide)
  ·have hk4:Kept (fun _=>True) w4 w5:=hk.mono (fun b _ _=>fun e=>by cases e);have hkV:=(Q9 (s:=fun _=>True) (w:=V) (B:=V.heap.size) ((Qp _ _).drew.trans (pb.mono (Qq _))) (fun b hb _=>hb)).trans hk4;have hsV:=Yl.out;have hG2:GB w5 (w.heap.size+2) 229 #[.slice none 0 0]:=(hkV.block _ (by omega) trivial).trans H2.out;have hst:Kept (fun b=>b≠w.heap.size+2) w5 (w5.setCell (aD (w.heap.size+2) 0) (.slice (some (aD g 0)) 1 cap)):=Zv _ _ _ (fun h=>h rfl);refine⟨g,cap,w5,hr,hG2.cell 0,tO hG2 0,(hG2.set 0 _).cell 0,Zr (hc 0 _ rfl) hst (show g≠_ by omega),(hst.block _ (by have:=hk4.size; omega) (by omega)).trans ((hk4.block _ (by omega) trivial).trans p2),(hst.block _ (by have:=hk4.size; omega) (by omega)).trans ((hk4.block _ (by omega) trivial).trans p1),by omega,(hkV.mono fun _ _ _=>trivial).trans hst⟩
 gi_upto_region 4 with fail
 gi_cut [] from 15 (fun wx=>∃ gr cap,gaM 280 3 V (w.heap.size+2) pG.length wx gr cap)
 case first=>
  refine wpIn_wide.2 (wp_region_noPanic ?_);go_region_law
   ((first
    | (refine Xv (by rfl) _ _ _ (by rfl) (.slice none 0 0) (.slice (some (aD w4.heap.size 0)) 1 1) (.slice (some (aD gr 0)) 1 cap) w5 (by rfl) (by rfl) pO ?_)
    | (go_simp; go_at_call 209; refine hng.mono ?_; rintro e w4 ⟨rfl,p2,p1,pb,ps⟩; obtain⟨gr,cap,w5,pO,hc5,Fj,hfin⟩:=zt.out w4 p2 p1 pb ps; have hb4:=Zr (A:=V.drew) hbx (Q9 (s:=fun _ => True) pb (fun b hb _ => hb)) trivial; have axz:=Zr hb4 (Zc (s:=fun _ => True) w4 (.cells #[.pointer (some (aD (V.heap.size+2) 0))] 231)) trivial; clear p2 p1 pb ps)))
  all_goals
   refine NoPanic.normal ?_
   gi_wp2_with fail
   gi_meet
   exact⟨gr,cap,hfin⟩
 case rest=>
  obtain⟨gr,cap,hM⟩:=hcut;obtain⟨kl,hkl⟩:=TH;have hkl':keyOf Tryz.prog 277 (.agg #[.int .i64 0,.int .i64 0,.int .i64 0,.int .i64 0])=some kl:=hkl;have HM:Hid _:=hM;obtain⟨D,hD,hown⟩:=ace ((hM.2.2.2.2.2.block (w.heap.size+3) (by have:=Yl.out; omega) (by omega)).trans H3.out);have hn5:=Zr f4 hM.2.2.2.2.2 (by show w.heap.size+4≠_; omega);have F4:=Zh f4;have HD:Hid _:=hD;clear hM hng hD f4 hbx
  gi_upto_region 6 with (first | (gi_at_mapUpdate; refine wpListIn_mapUpdate_own _ rfl _ _ _ 275 rfl 277 3 Tryz.wF Tryz.underlying275 _ (w.heap.size+3) 0 D rfl hown (by unfold maxLen; omega) _ _ kl rfl rfl hkl' (.lit (.int .i64 0)) [] (plainElem_int Tryz.underlying3 rfl) ?_; intro w6 hown6 Yu))
  have Ry:=Zh (Yr Yl.out HBV.out F0.out F1.out F4.out HM.out HD.out hkl hown6 Yu);clear hown6 Yu hown hn5 hkl hkl' f0 f1;go_frame
  gi_cut [26] from 15 (fun f wx=>f=.func (.func gi) #[] yM/\GZ w wx 0 (List.replicate pG.length 1073741824) (.slice pY pG.length ig) pG.length gr cap (V.heap.size+2) (V.heap.size+1))
  case first=>
   gi_wp2_with fail
   gi_meet
   exact⟨rfl,Ry.out⟩
  case rest=>
   obtain⟨rfl,hGI⟩:=hcut;have Yv:=Zh hGI;have vH:=Zh hGI.lts;clear hGI hmm
   gi_wp2_with fail
   refine zC bC (gf:=gi) (lb:=yM) rfl YE hseq (HB0.out.trans (Yv.out.below.mono HB0.out.size)) rfl
    (fun pre o1 W=>(∀ b,o1 b↔gaO w.heap.size gr (V.heap.size+2) (V.heap.size+1) b)/\GZ w W pre.length (lI pG (pre.map ah.xs)) (.slice pY pG.length ig) pG.length gr cap (V.heap.size+2) (V.heap.size+1))
    (gaO w.heap.size gr (V.heap.size+2) (V.heap.size+1)) ?_ ?_ ⟨fun _=>Iff.rfl,Yv.out⟩
    (fun x=>{ tmps:=#[.func (.func gi) #[] yM,.slice none 0 0,.slice pY pG.length ig,undef,.pointer (some (aD w.heap.size 0)),.pointer (some (aD (w.heap.size+1) 0)),.slice none 0 0,.pointer (some (aD (w.heap.size+2) 0)),.pointer (some (aD (w.heap.size+4) 0)),x.val,undef,undef,undef,undef,.map (some (w.heap.size+3)),u15,u16,u17,u18,u19,u20,u21,u22,u23,u24,u25,.func (.func gi) #[] yM,x.val,u28,u29,u30,u31,u32,u33,u34,u35,u36,u37,u38,u39,u40,u41,u42,u43,u44,u45,u46,u47,u48,u49,u50,u51,u52,u53,u54,u55,u56,u57,u58,u59,u60,u61],defers:=[] }) ?assign ?body ?done
   ·intro b hb;have h0:=HB0.out.size;have hl:=vH.out;have hf:=Yv.out.far;rcases hb with h | h | h | h | h <;> omega
   ·rintro pre o1 A B ⟨hi,h⟩ hk;exact⟨hi,h.keep hk (fun b hb=>hb.imp (hi b).2 (fun hb=>by have:=vH.out; omega))⟩
   case assign=>
    intro l x W K hK
    gi_wp2
    exact hK
   case body=>
    rintro l pre x o1 W ⟨sU,hG⟩ hpre hx hoff hsz;have hpk:Calls Tryz.prog 165 #[x.val,.slice none 0 0] W fun e w'=>e=.returned (.slice (some (aD W.heap.size 0)) 0 0)/\w' = W.alloc (.cells #[] 3):=Us x ⟨none,0,[]⟩ W hx.1 ⟨by simp,fun i hi=>by simp at hi⟩ rfl (by simp)
    obtain⟨W2,hW2⟩:∃ W2,(W.alloc (.cells #[] 3)).alloc (.cells #[.int .i64 0,.int .i64 0,.int .i64 0,.int .i64 0] 277)=W2:=⟨_,rfl⟩
    have hcp:=fun ty=>run_copy_none (P:=Tryz.prog) ((W.alloc (.cells #[] 3)).alloc (.cells #[.int .i64 0,.int .i64 0,.int .i64 0,.int .i64 0] 277)) 22 22 ty 3 (some (aD (W.heap.size+1) 0)) (some (aD W.heap.size 0)) 4 4 0 0 Tryz.underlying22 Tryz.uY rfl
    have hb2:Below W.heap.size W W2:=by rw[<- hW2]; exact (bU W _).trans ((bU _ _).mono (bU W _).size)
    have ha2:W2.heap[W.heap.size+1]? = some (.cells #[.int .i64 0,.int .i64 0,.int .i64 0,.int .i64 0] 277):=by
     have h:=kG (W.alloc (.cells #[] 3)) (.cells #[.int .i64 0,.int .i64 0,.int .i64 0,.int .i64 0] 277);rw[Zd] at h;rw[<- hW2]; exact h
    obtain⟨hfin,hG2,hadd⟩:=Yt (wc:=wc) (sc:=⟨pY,ig,pG⟩) HSC.out Da.out HSI.out HSM.out Uc.out sU hG hpre hx hoff hb2 HB0.out HLEN.out;rw[hW2] at hcp;have akS:=hG2.look W2 rfl;have q0:W2.cell? (aD (W.heap.size+1) 0)=some (.int .i64 0):=Xe ha2 rfl;have q1:W2.cell? (aD (W.heap.size+1) 1)=some (.int .i64 0):=Xe ha2 rfl;have q2:W2.cell? (aD (W.heap.size+1) 2)=some (.int .i64 0):=Xe ha2 rfl;have q3:W2.cell? (aD (W.heap.size+1) 3)=some (.int .i64 0):=Xe ha2 rfl;have hbk:=hG.bk;have axA:=hG2.bn;have abV:=hG2.bs;have aqy:=hG2.box;have aqz:=hG2.ptr;have jO:=Zh hfin;unfold Bp at akS;clear ha2 hb2 hG hG2 hx hoff hsz hpre sU hfin;obtain⟨zh,lC,tH⟩:=x;unfold ah.val at *;simp only at *
    gi_wp2_with (refine⟨trivial,rfl,CallsIn.inRound l (Ze.2 (hpk.mono ?_))⟩; rintro e w4 ⟨rfl,rfl⟩)
    have HN:Hid (∀ b,b=gr∨b<w.heap.size+5->b≠V.heap.size+2/\b≠V.heap.size+1):=fun b hb=>by have:=Yv.out.far; omega
    refine vZ (S:=fun x=>Kept (fun b=>b≠V.heap.size+2/\b≠V.heap.size+1) W2 x) (by kernel_rfl) (by kernel_rfl) (fun ⟨_,_,h⟩=>h) ?_;have hS:Kept (fun b=>b≠V.heap.size+2/\b≠V.heap.size+1) W2 W2.drew:=⟨rfl,rfl,rfl,Qq _,fun _ _ _=>rfl⟩
    refine wT 0 (.slice (some (aD gr 0)) 1 cap) hS (fun x hx=>?_) ?_
    ·have e:=Zr aqy hx (HN.out _ (.inr (show w.heap.size+2<_ by omega)));go_simp
    refine wt 1 (.int .i64 0) hS ?_;refine wt 2 (.pointer (some (aD gr 0))) hS ?_;refine wT 3 (.pointer (some (aD (V.heap.size+2) 0))) hS (fun x hx=>?_) ?_
    ·have e:=Zr aqz hx (HN.out _ (.inl rfl));go_simp
    refine wt 4 (.slice zh tH.length lC) hS ?_;refine wT 5 (.slice pY pG.length ig) hS (fun x hx=>?_) ?_
    ·have e:=Zr abV hx (HN.out _ (.inr (show w.heap.size+1<_ by omega)));go_simp
    refine wR 6 fun K hK=>?_
    go_simp;refine hadd.mono ?_;rintro e W7 ⟨⟨u7,rfl⟩,r1,r3,r4⟩;refine hK.out _ _ r3 fun hS=>?_
    clear hK K;refine wD ?_;exact jO.out W7 r1 r3 r4
   case done=>
    rintro ys o' W2 hys ⟨sU,hG⟩ hk2 hg2 hD;have hc:=hG.box;have HG:=Zh hG;have HYS:Hid (ys.map ah.xs=rows):=hys;clear hG hys hk2 hg2 sU
    gi_wp2
    have hf:=Yv.out.far;have hl:=vH.out;have hfin:=HG.out.keep (Za (s:=fun b=>b≠wc.heap.size) W2 (.deferred none) (fun h=>h rfl)) (fun b hb e=>by rcases hb with (h | h | h | h | h) | h <;> omega);rw[HYS.out,show ys.length=rows.length by rw[<- HYS.out,QU]] at hfin;refine⟨by simp,.inl ⟨_,_,rfl,Zu hD,?_⟩⟩;exact⟨_,results_tmp rfl _ _ _,gr,cap,V.heap.size+2,V.heap.size+1,rfl,by omega,by omega,by omega,hfin.ptr,hfin.g,hfin.s,hfin.below⟩
end
theorem F3 (gb sb:Nat) (k:ah) (cnt:Nat) (ss:List Int) (w:World)
  (hg:w.heap[gb]? = some (.cells #[k.val,.int .i64 cnt,.slice (some (aD sb 0)) ss.length ss.length] 280)) (hs:w.heap[sb]? = some (.cells (ss.map (Value.int .i64)).toArray 3)) (hk:k.At w) (hkn:k.ad=none->k.cap=0) (hkl:k.xs.length<=4) (hsl:ss.length<=4) (hcnt:cnt<=1000000) :
  Calls Tryz.prog 163 #[.pointer (some (aD gb 0))] w fun e w'=>∃ v,e=.returned v/\w'.ownsRow w.heap.size 3 1 v (k.xs++[(cnt:Int)]++ss).length ((k.xs++[(cnt:Int)]++ss).map (Value.int .i64))/\Below w.heap.size w w':=by
 have c0:w.cell? (aD gb 0)=some k.val:=Xe hg rfl;have c1:w.cell? (aD gb 1)=some (.int .i64 cnt):=Xe hg rfl;have c2:w.cell? (aD gb 2)=some (.slice (some (aD sb 0)) ss.length ss.length):=Xe hg rfl;have hgl:=(QI.1 hg).1;obtain⟨kH,dJ,jK⟩:=k;unfold ah.val at *;simp only at *;have hga:au w (some (aD sb 0)) ss:=⟨by omega,fun i hi=>⟨sb,0,rfl,by rw[QE]; exact Xe hs (by simp[List.getD,hi])⟩⟩
 have HK:Hid _:=hk;have HA:Hid _:=hga;have HKN:=Zh hkn;clear hg hs hk hga;have jM:Hid (Calls Tryz.prog 84 #[.slice (some (aD (w.heap.size+1) 0)) 3 3] ((w.alloc (.cells #[.int .i64 cnt] 3)).alloc (.cells #[.slice kH jK.length dJ,.slice (some (aD w.heap.size 0)) 1 1,.slice (some (aD sb 0)) ss.length ss.length] 22)).drew
   fun e w'=>∃ v,e=.returned v/\w'.ownsRow w.heap.size 3 1 v (jK++[(cnt:Int)]++ss).length ((jK++[(cnt:Int)]++ss).map (Value.int .i64))/\Below w.heap.size w w'):=by
  have hb1:=bU w (.cells #[.int .i64 cnt] 3);have hb2:=bU (w.alloc (.cells #[.int .i64 cnt] 3)) (.cells #[.slice kH jK.length dJ,.slice (some (aD w.heap.size 0)) 1 1,.slice (some (aD sb 0)) ss.length ss.length] 22);have hbw:=(hb1.trans (hb2.mono hb1.size)).drew;have hc1:(((w.alloc (.cells #[.int .i64 cnt] 3)).alloc (.cells #[.slice kH jK.length dJ,.slice (some (aD w.heap.size 0)) 1 1,.slice (some (aD sb 0)) ss.length ss.length] 22)).drew).heap[w.heap.size]? = some (.cells #[.int .i64 cnt] 3):=(Below.heap_alloc (w.alloc (.cells #[.int .i64 cnt] 3)) _ _ (by simp)).trans (kG _ _);have hc2:(((w.alloc (.cells #[.int .i64 cnt] 3)).alloc (.cells #[.slice kH jK.length dJ,.slice (some (aD w.heap.size 0)) 1 1,.slice (some (aD sb 0)) ss.length ss.length] 22)).drew).heap[w.heap.size+1]? = some (.cells #[.slice kH jK.length dJ,.slice (some (aD w.heap.size 0)) 1 1,.slice (some (aD sb 0)) ss.length ss.length] 22):=by
   have h:=kG (w.alloc (.cells #[.int .i64 cnt] 3)) (.cells #[.slice kH jK.length dJ,.slice (some (aD w.heap.size 0)) 1 1,.slice (some (aD sb 0)) ss.length ss.length] 22);rw[Zd] at h;exact h
  have hsz:(((w.alloc (.cells #[.int .i64 cnt] 3)).alloc (.cells #[.slice kH jK.length dJ,.slice (some (aD w.heap.size 0)) 1 1,.slice (some (aD sb 0)) ss.length ss.length] 22)).drew).heap.size=w.heap.size+2:=by
   show ((w.alloc (.cells #[.int .i64 cnt] 3)).alloc (.cells #[.slice kH jK.length dJ,.slice (some (aD w.heap.size 0)) 1 1,.slice (some (aD sb 0)) ss.length ss.length] 22)).heap.size=_
   simp
  generalize ((w.alloc (.cells #[.int .i64 cnt] 3)).alloc (.cells #[.slice kH jK.length dJ,.slice (some (aD w.heap.size 0)) 1 1,.slice (some (aD sb 0)) ss.length ss.length] 22)).drew=V at *;have adl:dQ [⟨kH,dJ,jK⟩,⟨some (aD w.heap.size 0),1,[(cnt:Int)]⟩,⟨some (aD sb 0),ss.length,ss⟩]=jK++[(cnt:Int)]++ss:=by simp[dQ]
  have h:=zH (some (aD (w.heap.size+1) 0)) 3 [⟨kH,dJ,jK⟩,⟨some (aD w.heap.size 0),1,[(cnt:Int)]⟩,⟨some (aD sb 0),ss.length,ss⟩] V ?_ (by simp) ?_ ?_
  ·rw[adl] at h;refine h.mono ?_;rintro e w' ⟨v,rfl,hown,hb⟩;exact⟨v,rfl,⟨hown.1,by
    rcases hown.2 with h | ⟨g,cap,cur,h1,h2,h3⟩
    ·exact .inl h
    ·exact .inr ⟨g,cap,cur,h1,by omega,h3⟩⟩,hbw.trans (hb.mono (by omega))⟩
  ·refine⟨by simp,⟨fun i hi=>⟨w.heap.size+1,0,rfl,?_⟩,fun i hi=>?_⟩⟩
   ·match i,hi with
    | 0,_ => exact Xe hc2 rfl
    | 1,_ => exact Xe hc2 rfl
    | 2,_ => exact Xe hc2 rfl
   ·match i,hi with
    | 0,_ => exact Qo hbw HK.out
    | 1,_ => exact⟨by simp,fun j hj => ⟨w.heap.size,0,rfl,by
      match j,hj with
      | 0,_ => exact Xe hc1 rfl⟩⟩
    | 2,_ => exact Qo hbw HA.out
  ·intro i hi he
   match i,hi,he with
   | 0,_,he => exact HKN.out he
   | 1,_,he => cases he
   | 2,_,he => cases he
  ·rw[adl]; simp; omega
 clear hkn;go_enter Tryz.func163,Tryz.ntmps163;go_wp2;go_region_with (refine jM.out.mono ?_; rintro e w4 ⟨v4,rfl,yK,hb4⟩; obtain⟨va,vn,vc,rfl⟩:=ZA yK)
 all_goals
  go_wp2;go_ret;exact⟨_,rfl,yK,hb4⟩
section
theorem F5 {w:World} {base:Nat} {e:TypeId} {v:Value} {n:Nat} {xs:List Int} (h:w.ownsRow base e 1 v n (xs.map (Value.int .i64))) (hl:xs.length<=1152921504606846976) :
  ∃ iv:ah,v=iv.val/\iv.xs=xs/\(pM e).At iv w/\∀ b,bC.blk iv=some b->base<=b:=by
 obtain⟨iv,hv,hx,hA,hb⟩:=jH h hl;have hn:xs.length=n:=by have:=h.1; simpa using this
 refine⟨iv,hv,hx,⟨hA,?_⟩,hb⟩;rw[<- hv,hx,hn];refine⟨h.1,?_⟩;rcases h.2 with h' | ⟨g,cap,cur,h1,h2,h3⟩
 ·exact .inl h'
 ·exact .inr ⟨g,cap,cur,h1,QQ _,h3⟩
attribute [local go_sem] Oper.semAt_some
theorem NQ (bi bk bs gi:Nat) (yM:Array Value) (sc:ah) (rows:List (List Int)) (w0:World) (hci:w0.cell? (aD bi 0)=some (.func (.func gi) #[] yM)) (hck:w0.cell? (aD bk 0)=some (.slice none 0 0)) (hcs:w0.cell? (aD bs 0)=some sc.val)
  (hseq:Seq bC Tryz.prog gi yM rows w0) (YE:∀ args w,(callFunc gi args).run Tryz.prog w=.ok (.enter gi args) w) (hsc:sc.At w0) (hsl:sc.xs.length<=4) (hlen:rows.length<=1000) (NP:∀ r∈rows,bG sc.xs r.length=true) (hsm:∀ r∈rows,∀ v∈r,wE v) (hbig:∀ n,∀ s∈lI sc.xs (rows.take n),wE s) :
  Seq (pM 3) Tryz.prog 161 #[.pointer (some (aD bi 0)),.pointer (some (aD bk 0)),.pointer (some (aD bs 0))] [(rows.length:Int)::lI sc.xs rows] w0:=by
 intro l J W o hW ho hJ hY h0;have c1:=cB hW hci;have c2:=cB hW hck;have c3:=cB hW hcs;have hgg:=JQ gi yM sc rows w0 W hW hseq YE (Qo hW hsc) hsl hlen NP hsm hbig;have Er:Hid ((lI sc.xs rows).length=sc.xs.length):=Bo _ _ _ (by simp);have HY:=Zh hY;have HO:=Zh ho;have HJ:=Zh hJ;have Da:=Zh hsl;have HLEN:=Zh hlen;clear hY ho hW hJ hseq YE hlen NP hsm hsc hci hck hcs hsl hbig;obtain⟨pY,ig,pG⟩:=sc;unfold ah.val at *;simp only at *;generalize lI pG rows=SS at *;generalize rows.length=RN at *;refine (Ze (n:=0)).1 (callsIn_of_wp Tryz.func161 rfl trivial ?_ rfl);simp only[Tryz.ntmps161,Zj,Q5,Zk,Nat.reduceAdd,Nat.reduceSub,Zl,Zm,Zn,Zo,Zp,Zq]
 gi_wp2
 refine⟨trivial,rfl,Ze.2 (hgg.mono ?_)⟩;rintro e Wg ⟨gr,cap,gb,sb,rfl,hr1,hr2,hr3,hp,hg,hs,hbg⟩;clear hgg;have h0':=HJ.out _ _ _ _ h0 (Q9 (s:=fun b=>o b∨b<W.heap.size) hbg (fun b hb _=>hb));have Jr:Hid (W.heap.size<=gr/\W.heap.size<=gb/\W.heap.size<=sb):=⟨hr1,hr2,hr3⟩
 have Uc:=Zh hbg;have HP:=Zh hp;have HGG:=Zh hg;have HS:=Zh hs;clear hbg hp hg hs hr1 hr2 hr3 c1 c2 c3 h0
 gi_wp2
 gi_loopw [12] (fun i wr=>∃ k:Nat,k<=1/\i=.int .i64 k/\∃ ys o1,Hid (ys.map ah.xs=[(RN:Int)::SS].take k)/\J ys o1 wr/\Hid (Kept (fun b=>¬ o b) Wg wr)/\Hid (∀ b,o1 b->o b∨(Wg.heap.size<=b/\b<wr.heap.size)))
  (fun i _=>1-(intOf i).toNat)
 case atStart=>exact⟨0,QQ _,rfl,[],o,rfl,h0',Q7 _ _,fun b h=>.inl h⟩
 case round=>
  obtain⟨k,hk,rfl,ys,o1,hys,hJs,rO,ho1⟩:=hrel;by_cases hlt:k<1
  ·obtain rfl:k=0:=by omega
   have hno':∀ b,W.heap.size<=b->¬ o b:=fun b hb h=>by have:=(HO.out b h).2; omega
   have hgw:=(rO.out.block _ (QI.1 HGG.out).1 (hno' _ Jr.out.2.1)).trans HGG.out;have hsw:=(rO.out.block _ (QI.1 HS.out).1 (hno' _ Jr.out.2.2)).trans HS.out;have hci:=Zr HP.out rO.out (hno' _ Jr.out.1);have hrow:=F3 gb sb ⟨none,0,[]⟩ RN SS wr (by rw[Er.out]; exact hgw) hsw ⟨by simp,fun i hi=>by simp at hi⟩ (fun _=>rfl) (by simp) (by rw[Er.out]; exact Da.out) (by have:=HLEN.out; omega);have HRL:Hid (((RN:Int)::SS).length<=1000):=by have:=Er.out; have:=Da.out; show _<=_; simp; omega
   clear hgw hsw hno'
   gi_wp2
   refine⟨trivial,rfl,Ze.2 (hrow.mono ?_)⟩;rintro e w3 ⟨v3,rfl,hown,hb3⟩;clear hrow;obtain⟨iv,rfl,nG,iX,Ch⟩:=F5 hown (by have:=HRL.out; exact Q4 this (by decide));have hs3:=hb3.size;have hk3:∀ s,Kept s wr w3:=fun s=>Q9 hb3 (fun b hb _=>hb)
   have hsw:=rO.out.size;have hsg:=Uc.out.size;have hj3:=HJ.out _ _ _ _ hJs (hk3 _);have hno:∀ b,o1 b->b<wr.heap.size:=fun b hb=>by
    rcases ho1.out b hb with h | h
    ·have:=(HO.out b h).2; omega
    ·exact h.2
   have hyz:ys=[]:=by have:=hys.out; simpa using this
   subst hyz;have hp3:([]++[iv]).map (pM 3).key <+: [(RN:Int)::SS]:=by
    show [iv.xs] <+: _
    rw[nG];exact List.prefix_refl _
   obtain⟨fn,tmps,assign,body,hy,hRR⟩:=HY.out [] iv o1 w3 hj3 hp3 iX (fun b hb=>⟨fun h=>by have:=hno b h; have:=Ch b hb; omega,.inr (by have:=Ch b hb; omega)⟩) (by omega);have HIV:=Zh nG;have HIB:=Zh Ch;have Ve:Hid (∀ b,bC.blk iv=some b->b<w3.heap.size):=fun b hb=>bC.YD iX.1 hb
   have pK:=Zh hk3;clear hown hb3 hk3 hp3 iX nG Ch hj3 hno hci;obtain⟨lq,ed,iD⟩:=iv;have hy':(Instr.yield l #[.slice lq iD.length ed]).run Tryz.prog w3=.ok (.round l fn tmps assign body) w3:=hy;unfold ah.val;simp only;clear hy
   gi_wp2
   refine⟨rfl,hRR.mono ?_⟩;rintro e W4 ⟨rfl,o2,hJ4,hk4,hg4⟩;have HJ4:=Zh hJ4;have JF:=Zh hk4;have HG4:=Zh hg4;clear hJ4 hk4 hg4 hRR hy'
   gi_wp2
   go_roundw
   case rel=>
    have hs4:=JF.out.size;refine⟨1,by omega,by simp,[⟨lq,ed,iD⟩],o2,?_,HJ4.out,?_,?_⟩
    ·show [iD]=_
     have h:=HIV.out;rw[h];rfl
    ·refine (rO.out.trans (pK.out _)).trans' JF.out (fun b hb h h'=>?_);rcases ho1.out b h' with h' | h'
     ·exact h h'
     ·omega
    ·intro b hb;rcases HG4.out b hb with h | h | ⟨h,_⟩
     ·rcases ho1.out b h with h | h
      ·exact .inl h
      ·exact .inr ⟨h.1,by omega⟩
     ·exact .inr ⟨by omega,h.2⟩
     ·have h1:=HIB.out b h;have h2:=Ve.out b h;exact .inr ⟨by omega,by omega⟩
   case measure=>simp[intOf]
  ·obtain rfl:k=1:=by omega
   gi_wp2
   go_end0;refine⟨⟨_,rfl⟩,ys,o1,hys.out,hJs,(Q9 Uc.out (fun b hb _=>hb)).trans' rO.out (fun b _ h=>h),fun b hb=>?_⟩;rcases ho1.out b hb with h | h
   ·exact .inl h
   ·exact .inr ⟨by have:=Uc.out.size; omega,h.2⟩
end
