import Derived.Test.YtlpbelhfpoilpaaGreatDoorRE18
set_option linter.all false
set_option maxRecDepth 100000
set_option maxHeartbeats 16000000
namespace Go.Proofs.Zz
open Go.RowKit Go.Shelf
variable {L b c cap gb gr k m n sb:Nat} {V W w w6 wc:World} {cs:Array Value} {t tg ti tm:TypeId} {aO row ss:List Int} {P:Program} {sv z:Value} {D:DataW Unit} {kl:Lit}
theorem Mq(c:Nat)(w:World)(hc:c<=4) :
  Ce 328 #[.int .u64 1,.int .u64 c] w (.tuple #[.int .u64 0,.int .u64 c]):=by
 obtain rfl | rfl | rfl | rfl | rfl:c=0∨c=1∨c=2∨c=3∨c=4:=by omega
 all_goals
  go_enter Tryz.func328,Tryz.ntmps328;go_wp2;go_ret2;exact⟨rfl,rfl⟩
theorem VN(c:Nat)(w:World)(hc:c<=4) :
  Ce 371 #[.int .u64 1,.int .u64 c] w (.tuple #[.int .u64 0,.int .u64 c]):=by
 have h:=Mq c w hc;go_enter Tryz.func371,Tryz.ntmps371;go_wp2_with fail;refine h.mono ?_;rintro e w2 ⟨rfl,rfl⟩;go_wp2;go_ret2;exact⟨rfl,rfl⟩
def eu(v:Int)(c k:Nat):List Value:=List.replicate k (Value.int .i64 v)++List.replicate (c-k) (Value.int .i64 0)
theorem Rm(v:Int)(h:k<=c):(eu v c k).length=c:=by simp[eu]; omega
theorem Rn(v:Int)(c:Nat):eu v c c=List.replicate c (Value.int .i64 v):=by simp[eu]
theorem Mr(v:Int)(c:Nat):madeCells #[.int .i64 0] c=(eu v c 0).toArray:=by
 rw[uN];simp[eu]
theorem vw(v:Int)(h:k+m<=c):splice (eu v c k) k (List.replicate m (Value.int .i64 v))=eu v c (k+m):=by
 unfold splice eu;rw[List.take_left' (by simp),Jh,List.drop_append,Jh,List.drop_eq_nil_of_le (by simp),ZG,List.drop_replicate,<- QO,List.replicate_append_replicate];congr 2;omega
theorem Ms(v:Int){j:Nat}(hj:j<k):(eu v c k)[j]? = some (Value.int .i64 v):=by
 unfold eu;rw[QR (by simpa using hj),List.getElem?_replicate,Qy hj]
theorem Tryz.Bn:(Tryz.prog.info? 3).map (·.size)=some 1:=by kernel_rfl
theorem VO(w:World)(xb:Nat)(v:Int)(c:Nat)(hc:0<c)(hx:w.cell? (aD xb 0)=some (.int .i64 v))(ty:TypeId) :
  (Builtin.copy_ #[23,23] ty #[.slice (some (aD w.heap.size 0)) c c,.slice (some (aD xb 0)) 1 1]).run Tryz.prog (w.alloc (.cells (eu v c 0).toArray 3))=.ok (goInt 1) (w.alloc (.cells (eu v c 1).toArray 3)):=by
 rw[DR (w.alloc (.cells (eu v c 0).toArray 3)) 23 23 ty 3 1 w.heap.size c c (some (aD xb 0)) 1 1 (eu v c 0).toArray 3 [.int .i64 v] Tryz.underlying23 Tryz.Bn (l6 w _) hc rfl
  (fun _=>⟨_,rfl,fun j u hj=>by
   match j,hj with
   | 0,hj => cases hj; exact cB (dn w _) hx⟩) (by simp[eu]; omega) (fun u hu => by simp at hu; subst hu; rfl),wZ]
 have h:splice (eu v c 0) 0 (List.replicate 1 (Value.int .i64 v))=eu v c (0+1):=vw v (by omega);unfold splice at h;simp only[List.take_zero,ZG,QQ,Jh,List.replicate_one]at h;exact congrArg (fun l=>Result.ok (goInt 1) (w.alloc (.cells (List.toArray l) 3))) h
theorem VP(W:World)(g:Nat)(v:Int)(c k m:Nat)(hg:W.heap[g]? = some (.cells (eu v c k).toArray 3))(hm:Nat.min k (c-k)=m)(hk:0<k)(hc:k<c)(ty:TypeId) :
  (Builtin.copy_ #[23,23] ty #[.slice (some (aD g k)) (c-k) (c-k),.slice (some (aD g 0)) k c]).run Tryz.prog W=.ok (.int .i64 m) (W.setRow g (eu v c (k+m)).toArray):=by
 have hm':min k (c-k)=m:=hm;have hmk:m<=k/\k+m<=c:=by omega
 rw[run_copy_row (P:=Tryz.prog) W 23 23 ty 3 g k (c-k) (c-k) (aD g 0) k c (eu v c k).toArray 3 (List.replicate m (.int .i64 v)) Tryz.underlying23 Tryz.Bn hg (by rw[Jh,hm])
  (fun j u hj=>by
   have hj':j<m:=by have:=(ZW.1 hj).1; simpa using this
   rw[List.getElem?_replicate,Qy hj']at hj
   cases hj
   have hcl:=Ms v (c:=c) (k:=k) (j:=j) (by omega);rw[addr_add];simp[World.cell?,hg,hcl]) (by rw[Jh,Zy,Rm v (by omega)]; omega) (fun u hu=>by obtain⟨_,rfl⟩:=List.mem_replicate.1 hu; rfl)]
 have h:=vw v hmk.2;unfold splice at h;rw[Jh]at h ⊢;rw[<- QO]at h;exact congrArg (fun l=>Result.ok (goInt m) (W.setRow g (List.toArray l))) h
theorem Ro(xb:Nat)(v:Int)(c:Nat)(w:World)(hc:c<=4)(hx:w.cell? (aD xb 0)=some (.int .i64 v)) :
  Calls Tryz.prog 336 #[.slice (some (aD xb 0)) 1 1,.int .i64 c] w fun e w'=>e=.returned (.slice (some (aD w.heap.size 0)) c c)/\w'.heap[w.heap.size]? = some (.cells (List.replicate c (Value.int .i64 v)).toArray 3)/\Below w.heap.size w w'/\w'.heap.size=w.heap.size+1:=by
 have hmk:=run_make_row' (P:=Tryz.prog) 23 3 (.int .i64 0) 8 Tryz.underlying23 Tryz.kV rfl .i64 .i64 c (by omega) (by omega);rw[Mr v c]at hmk;have hmul:=VN c w hc;obtain⟨k0,hk0⟩:=eX (Nat.min 1 c)
 have hk1:k0<=c/\k0<=1/\(k0=0->c=0):=by
  have h:min 1 c=k0:=hk0;omega
 have hcp:∀ ty,(Builtin.copy_ #[23,23] ty #[.slice (some (aD w.heap.size 0)) c c,.slice (some (aD xb 0)) 1 1]).run Tryz.prog (w.alloc (.cells (eu v c 0).toArray 3))=.ok (goInt k0) (w.alloc (.cells (eu v c k0).toArray 3)):=by
  intro ty;have h:min 1 c=k0:=hk0;by_cases h0:c=0
  ·subst h0;obtain rfl:k0=0:=by omega
   exact run_copy_none (P:=Tryz.prog) _ 23 23 ty 3 _ _ 0 0 1 1 Tryz.underlying23 Tryz.Bn rfl
  ·obtain rfl:k0=1:=by omega
   exact VO w xb v c (by omega) hx ty
 have oG:=Zh hk1;clear hk0 hk1 hx;have hgi:∀ n:Nat,goInt (n:Int)=.int .i64 n:=fun _=>rfl
 rw[hgi]at hcp;go_enter Tryz.func336,Tryz.ntmps336;go_wp2_with fail;refine hmul.mono ?_;rintro e w2 ⟨rfl,rfl⟩;clear hmul;go_wp2;go_loopw [8] (fun s wr=>∃ k:Nat,k<=c/\s=.int .i64 k/\(k=0->c=0)/\wr.heap[w2.heap.size]? = some (.cells (eu v c k).toArray 3)/\Below w2.heap.size w2 wr/\wr.heap.size=w2.heap.size+1) (fun s _=>c-(intOf s).toNat)
 case atStart=>exact⟨k0,oG.o.1,rfl,oG.o.2.2,l6 _ _,dn _ _,by simp⟩
 case round=>
  obtain⟨k,hk,rfl,aut,hg,hb,hsz⟩:=hrel;by_cases hlt:k<c
  ·obtain⟨m,hm⟩:=eX (Nat.min k (c-k))
   have hcp1:=VP wr.drew w2.heap.size v c k m hg hm (by omega) hlt;have hm':min k (c-k)=m:=hm;have hm1:0<m/\k+m<=c:=by omega
   have HM:=Zh hm1;have HS:=Zh hsz;have HB:=Zh hb;have HG:=Zh hg;clear hm hm' hm1 hcp hmk aut hsz hb hg;go_wp2;go_region
   all_goals
    have hb2:Below w2.heap.size w2 (wr.drew.setRow w2.heap.size (eu v c (k+m)).toArray):=below_setRow HB.o.drew (Qx _) _;have hwr:wrap64 ((k:Int)+(m:Int))=((k+m:Nat):Int):=by have:=HM.o; unfold wrap64; omega
    have hg2:(wr.drew.setRow w2.heap.size (eu v c (k+m)).toArray).heap[w2.heap.size]? = some (.cells (eu v c (k+m)).toArray 3):=setRow_heap wr.drew w2.heap.size _ _ _ _ HG.o;have hs2:(wr.drew.setRow w2.heap.size (eu v c (k+m)).toArray).heap.size=w2.heap.size+1:=(setRow_size _ _ _).trans HS.o;rw[hwr];have HB2:=Zh hb2;have HG2:=Zh hg2;have HS2:=Zh hs2;clear hb2 hwr hg2 hs2;generalize wr.drew.setRow w2.heap.size (eu v c (k+m)).toArray=wf at *;go_wp2;go_roundw
    case rel=>exact⟨k+m,HM.o.2,rfl,fun h=>by have:=HM.o; omega,HG2.o,HB2.o,HS2.o⟩
    case measure=>have:=HM.o; simp[intOf]; omega
  ·have hkk:k=c:=by omega
   subst hkk;rw[Rn]at hg;go_wp2;go_ret;exact⟨rfl,hg,hb,hsz⟩
theorem Iw(s v:Int)(w:World)(hs:-2305843009213693952<=s/\s<=2305843009213693952)(hv:-2305843009213693952<=v/\v<=2305843009213693952) :
  Ce 337 #[.int .i64 s,.int .i64 v] w (.int .i64 (Td s v)):=by
 have hw:wrap64 (s+v)=s+v:=by unfold wrap64; omega
 unfold Td;by_cases h1:v=1073741824
 ·rw[Qy h1];subst h1;go_enter Tryz.func337,Tryz.ntmps337;go_wp2;go_ret;exact⟨rfl,rfl⟩
 ·rw[Qz h1];by_cases h2:s=1073741824
  ·rw[Qy h2];subst h2;go_enter Tryz.func337,Tryz.ntmps337;go_wp2;go_ret;exact⟨rfl,rfl⟩
  ·rw[Qz h2];go_enter Tryz.func337,Tryz.ntmps337;go_wp2;go_ret;exact⟨rfl,rfl⟩
theorem Iy(k:ah)(n:Nat)(w:World)(hn:n<=4) :
  Calls Tryz.prog 284 #[k.val,.int .i64 n] w fun e w'=>e=.returned (.pointer (some (aD (w.heap.size+2) 0)))/\
   w'.heap[w.heap.size+2]? = some (.cells #[k.val,.int .i64 0,.slice (some (aD (w.heap.size+1) 0)) n n] 334)/\
   w'.heap[w.heap.size+1]? = some (.cells (List.replicate n (Value.int .i64 1073741824)).toArray 3)/\Below w.heap.size w w'/\w'.heap.size=w.heap.size+3:=by
 obtain⟨l8,eO,lF⟩:=k;unfold ah.val;simp only;have hb1:=dn w (.cells #[.int .i64 1073741824] 3);have hr:=Ro w.heap.size 1073741824 n (w.alloc (.cells #[.int .i64 1073741824] 3)) hn (by simp);have hs1:(w.alloc (.cells #[.int .i64 1073741824] 3)).heap.size=w.heap.size+1:=by simp
 rw[hs1]at hr;obtain⟨w1,hw1⟩:=eX (w.alloc (.cells #[.int .i64 1073741824] 3))
 have HW1:=Zh hw1;have pO:=Zh hs1;have HB1:=Zh hb1;clear hs1 hb1;rw[hw1]at hr;clear hw1;go_enter Tryz.func284,Tryz.ntmps284;go_wp2_with fail;rw[HW1.o];refine hr.mono ?_;rintro e w2 ⟨rfl,hg2,hb2,hs2⟩;have HG2:=Zh hg2;have HB2:=Zh hb2;have HS2:=Zh hs2;clear hr hg2 hb2 hs2;go_wp2;go_ret;have h2:w2.heap.size=w.heap.size+2:=HS2.o;have hbw:Below w.heap.size w w2:=by
  have:=HB1.o;rw[HW1.o]at this;exact this.trans (HB2.o.mono (by omega))
 rw[<- h2];refine⟨rfl,l6 _ _,?_,hbw.alloc (by omega) _,by simp; omega⟩;exact(Below.heap_alloc w2 _ _ (by omega)).trans HG2.o
theorem Rp{W:World}{b:Nat}{cs:Array Value}{t:TypeId}(h:W.heap[b]? = some (.cells cs t)){i:Nat}{v:Value}(hv:cs[i]? = some v):W.cell? (aD b i)=some v:=by
 simp[World.cell?,h,hv]
theorem wS(h:W.heap[b]? = some (.cells cs t))(i:Nat):W.frozen? (aD b i)=false:=by
 simp[World.frozen?,h]
theorem F9(h:W.heap[b]? = some (.cells cs t))(i:Nat)(v:Value):(W.setCell (aD b i) v).heap[b]? = some (.cells (cs.setIfInBounds i v) t):=by
 rw[setCell_eq_setRow W b i cs t (0,0) v h];exact setRow_heap W b _ _ _ _ h
theorem Mt(hne:c≠b)(i:Nat)(v:Value):(W.setCell (aD b i) v).heap[c]? = W.heap[c]?:=Below.heap_setCell W (aD b i) v c hne
def Ji:=@Rp
theorem getD_in{α:Type}{l:List α}{d:α}(hk:k<l.length):l.getD k d∈l:=by
 have e:l.getD k d=l[k]:=by simp[List.getD,hk]
 rw[e];exact Qp hk
def yM(x:Int):Prop:=-2305843009213693952<=x/\x<=2305843009213693952
def tQ(ss row aO:List Int)(k:Nat):List Int:=(pR ss row aO).take k++ss.drop k
theorem Rq:tQ ss row aO 0=ss:=by simp[tQ]
theorem VQ(h:ss.length=aO.length):tQ ss row aO aO.length=pR ss row aO:=by
 unfold tQ;rw[Xl (by rw[nD h]; exact Qx _),List.drop_of_length_le (by omega),Xx]
theorem VR(h:ss.length=aO.length)(hk:k<aO.length):(tQ ss row aO k)[k]? = some (ss.getD k 0):=by
 unfold tQ;rw[QS (by rw[Zm,nD h]; omega),Zm,nD h,QK (by omega),Z4,XQ];simp[List.getD,show k<ss.length by omega]
theorem VS(h:ss.length=aO.length)(hk:k<aO.length):(tQ ss row aO k).set k (Td (ss.getD k 0) (row.getD (aO.getD k 0).toNat 0))=tQ ss row aO (k+1):=by
 unfold tQ;have hl:((pR ss row aO).take k).length=k:=by rw[Zm,nD h]; omega
 rw[Z0 _ _ (by omega),hl,Z4,XR (by omega),Qf,Qr (by rw[nD h]; omega),QO];congr 2;simp[pR,List.getD,hk,show k<ss.length by omega]
theorem Iz(gb sb:Nat)(kv:Value)(cnt:Nat)(ss:List Int)(x c:ah)(w:World)(hgs:gb≠sb)
  (hg:w.heap[gb]? = some (.cells #[kv,.int .i64 cnt,.slice (some (aD sb 0)) c.xs.length c.xs.length] 334)) (hs:w.heap[sb]? = some (.cells (ss.map (Value.int .i64)).toArray 3)) (hl:ss.length=c.xs.length) (hcl:c.xs.length<=4)
  (hx:x.At w) (hc:c.At w) (hxb:∀ a,x.ad=some a->a.block≠gb/\a.block≠sb) (hcb:0<c.xs.length->∀ a,c.ad=some a->a.block≠gb/\a.block≠sb) (ha:bN c.xs x.xs.length=true)
  (hcnt:cnt<=1000000) (hbs:∀ s∈ss,yM s) (hbx:∀ v∈x.xs,yM v) :
  Calls Tryz.prog 286 #[.pointer (some (aD gb 0)),x.val,c.val] w fun e w'=>(∃ v,e=.returned v)/\
   w'.heap[gb]? = some (.cells #[kv,.int .i64 (cnt+1:Nat),.slice (some (aD sb 0)) c.xs.length c.xs.length] 334)/\w'.heap[sb]? = some (.cells ((pR ss x.xs c.xs).map (Value.int .i64)).toArray 3)/\
   Kept (fun b=>b≠gb/\b≠sb) w w'/\w'.heap.size=w.heap.size:=by
 obtain⟨Bc,mW,xs⟩:=x;obtain⟨cad,NG,cs⟩:=c;unfold ah.val;simp only at *;have c1:w.cell? (aD gb 1)=some (.int .i64 cnt):=Ji hg rfl;have f1:=wS hg 1;have hw1:wrap64 ((cnt:Int)+1)=((cnt+1:Nat):Int):=by unfold wrap64; omega
 have HG:=Zh hg;have HS:=Zh hs;have HX:Hid _:=hx;have HC:Hid _:=hc;have HXB:=Zh hxb;have qX:=Zh hcb;have HA:=Zh ha;have HL:=Zh hl;have HGS:Hid _:=hgs;have zw:=Zh hbs;have ou:=Zh hbx;clear hg hs hx hc hxb hcb ha hl hgs hbs hbx;go_enter Tryz.func286,Tryz.ntmps286;go_wp2;go_loopw [17] (fun i wr=>∃ k:Nat,k<=cs.length/\i=.int .i64 k/\wr.heap[gb]? = some (.cells #[kv,.int .i64 (cnt+1:Nat),.slice (some (aD sb 0)) cs.length cs.length] 334)/\wr.heap[sb]? = some (.cells ((tQ ss xs cs k).map (Value.int .i64)).toArray 3)/\
  Kept (fun b=>b≠gb/\b≠sb) w wr/\wr.heap.size=w.heap.size) (fun i _=>cs.length-(intOf i).toNat)
 case atStart=>
  refine⟨0,Q8 _,rfl,?_,?_,ZL _ _ _ (fun h=>h.1 rfl),by simp[World.setCell]⟩
  ·have:=F9 HG.o 1 (.int .i64 (wrap64 ((cnt:Int)+1)));rw[hw1]at this
   first | exact this | (rw[hw1]; exact this)
  ·rw[Mt (fun e=>HGS.o e.symm),Rq];exact HS.o
 case round=>
  obtain⟨k,hk,rfl,hgk,hsk,hkk,hzk⟩:=hrel;by_cases hlt:k<cs.length
  ·obtain⟨cb,akf,rfl,hcc⟩:=HC.o.get hlt;have hck:=ZI (hcc k hlt) hkk (qX.o (by omega) (aD cb akf) rfl);have hbd:=mV HA.o hlt;have hcv:cs.getD k 0=cs[k]:=by simp[List.getD,hlt]
   have hkn:cs[k].toNat<xs.length:=by omega
   obtain⟨xb,afY,rfl,MK⟩:=HX.o.get hkn;have hxk:=ZI (MK _ hkn) hkk (HXB.o (aD xb afY) rfl);have c2:wr.cell? (aD gb 2)=some (.slice (some (aD sb 0)) cs.length cs.length):=Ji hgk rfl;have c3:=Ji hsk (by rw[List.getElem?_toArray,Ze,VR HL.o hlt]; rfl);have f3:=wS hsk k;have hset:=VS (row:=xs) HL.o hlt;rw[hcv]at hset hck;have hb1:yM (ss.getD k 0):=zw.o _ (getD_in (by have:=HL.o; omega));have hb2:yM (xs.getD cs[k].toNat 0):=ou.o _ (getD_in hkn);have hcn:((cs[k].toNat:Nat):Int)=cs[k]:=by omega
   have Kw:=Zh hgk;have HSK:=Zh hsk;have HKK:=Zh hkk;have HZK:=Zh hzk;have aog:=Zh hset;clear hgk hsk hkk hzk hset hcc MK hcv;generalize ss.getD k 0=sv at *;generalize xs.getD cs[k].toNat 0=xv at *;generalize WR:cs[k]=ck at *;clear WR;obtain⟨cn,rfl⟩:∃ cn:Nat,ck=(cn:Int):=⟨ck.toNat,by omega⟩
   simp only[Zj]at hkn hxk;clear hcn c1 f1;obtain⟨wf,hwf⟩:∃ wf,(wr.setCell (aD sb k) (.int .i64 (Td sv xv))).drew=wf:=⟨_,rfl⟩
   have Wu:Kept (fun b=>b≠sb) wr wf:=by
    rw[<- hwf];exact(ZL wr (aD sb k) _ (fun h=>h rfl)).trans ⟨rfl,rfl,rfl,Qx _,fun _ _ _=>rfl⟩
   have HF1:=Zh ((Wu.block gb (QV.1 Kw.o).1 HGS.o).trans Kw.o);have HF2:Hid (wf.heap[sb]? = some (.cells ((tQ ss xs cs (k+1)).map (Value.int .i64)).toArray 3)):=by
    have h:=F9 HSK.o k (.int .i64 (Td sv xv));rw[ZZ,<- List.map_set,aog.o]at h;rw[<- hwf];exact h
   have HF3:=Zh (HKK.o.trans (Wu.mono fun _ _ h=>h.2));have HF4:Hid (wf.heap.size=w.heap.size):=by
    have h:wf.heap.size=wr.heap.size:=by rw[<- hwf]; show (wr.setCell _ _).heap.size=_; simp[World.setCell]
    exact h.trans HZK.o
   have HWF:=Zh hwf;clear Wu hwf Kw HSK HKK HZK aog HG HS HA HL HGS zw ou HX HC HXB qX hw1 hcnt;go_wp2;go_region_with (refine(Iw sv xv _ hb1 hb2).mono ?_; rintro e w4 ⟨rfl,rfl⟩)
   all_goals
    rw[HWF.o];go_wp2;go_roundw
    case rel=>exact⟨k+1,by omega,by go_num,HF1.o,HF2.o,HF3.o,HF4.o⟩
    case measure=>simp[intOf]; omega
  ·have ado:k=cs.length:=by omega
   subst ado;rw[VQ HL.o]at hsk;have HE1:=Zh hgk;have HE2:=Zh hsk;have HE3:=Zh hkk;have HE4:=Zh hzk;clear hgk hsk hkk hzk;go_wp2
   (try simp only[Exit.inBlock,Exit.then])
   refine bodyPost_end (results_none rfl _ _ _) rfl ?_;exact⟨⟨_,rfl⟩,HE1.o,HE2.o,HE3.o,HE4.o⟩
section
open Go.Maps Go.WideMaps
theorem oU:∀ (os:List Obj) (w:World) (i:Nat) (hi:i<os.length),(os.foldl World.alloc w).heap[w.heap.size+i]? = some os[i]
 | [],_,i,hi => by simp at hi
 | o::os,w,0,_ => by
  rw[Q0];have hb:∀ (os:List Obj) (v:World),Bw v (os.foldl World.alloc v):=by
   intro os
   induction os with
   | nil => intro v; exact Qw _ _
   | cons o os ih => intro v; rw[Q0]; exact(dn v o).trans ((ih _).mono (dn v o).size)
  exact((hb os (w.alloc o)).block w.heap.size (by simp)).trans (l6 w o)
 | o::os,w,i+1,hi => by
  rw[Q0];have h:=oU os (w.alloc o) i (by simpa using hi);rw[Zt]at h;rw[show w.heap.size+(i+1)=w.heap.size+1+i by omega,h];rfl
theorem nA:∀ (os:List Obj) (v:World),Bw v (os.foldl World.alloc v):=by
 intro os
 induction os with
 | nil => intro v; exact Qw _ _
 | cons o os ih => intro v; rw[Q0]; exact(dn v o).trans ((ih _).mono (dn v o).size)
structure GA(P:Program)(tm tg ti:TypeId)(z:Value)(w W:World)(n:Nat)(ss:List Int)(sv:Value)(L gr cap gb sb:Nat):Prop where
 box:W.cell? (aD (w.heap.size+2) 0)=some (.slice (some (aD gr 0)) 1 cap)
 ptr:W.cell? (aD gr 0)=some (.pointer (some (aD gb 0)))
 g:W.heap[gb]? = some (.cells #[.slice none 0 0,.int .i64 n,.slice (some (aD sb 0)) L L] tg)
 s:W.heap[sb]? = some (.cells (ss.map (Value.int .i64)).toArray ti)
 look:∀ X:World,X.heap[w.heap.size+3]? = W.heap[w.heap.size+3]?->(Instr.lookup tm (.map (some (w.heap.size+3))) z true).run P X=.ok (.tuple #[.int .i64 0,.bool true]) X
 bk:W.cell? (aD w.heap.size 0)=some (.slice none 0 0)
 bs:W.cell? (aD (w.heap.size+1) 0)=some sv
 bn:W.cell? (aD (w.heap.size+4) 0)=some (.map (some (w.heap.size+3)))
 below:Bw w W
 far:w.heap.size+5<=gr/\w.heap.size+5<=gb/\w.heap.size+5<=sb/\gr≠gb/\gr≠sb/\gb≠sb
def gaO(n gr gb sb b:Nat):Prop:=b=gr∨b=gb∨b=sb∨b=n+2∨b=n+3
theorem GA.lts(h:GA P tm tg ti z w W n ss sv L gr cap gb sb):gr<W.heap.size/\gb<W.heap.size/\sb<W.heap.size/\w.heap.size+4<W.heap.size:=
 ⟨Zv h.ptr,(QV.1 h.g).1,(QV.1 h.s).1,Zv h.bn⟩
theorem GA.turn{A B:World}{ss':List Int}(h:GA P tm tg ti z w A n ss sv L gr cap gb sb){s:Nat->Prop}(hk:Kept s A B)(hs:∀ b,b=gr∨b<w.heap.size+5->s b)
  (hg:B.heap[gb]? = some (.cells #[.slice none 0 0,.int .i64 m,.slice (some (aD sb 0)) L L] tg)) (hss:B.heap[sb]? = some (.cells (ss'.map (Value.int .i64)).toArray ti)):GA P tm tg ti z w B m ss' sv L gr cap gb sb:=by
 have hl:=h.lts;have q:∀ b,b<w.heap.size+5->s b:=fun b hb=>hs b (.inr hb)
 exact⟨ZI h.box hk (q _ (show _+2<_ by omega)),ZI h.ptr hk (hs _ (.inl rfl)),hg,hss,fun X hX=>h.look X (hX.trans (hk.block _ (by omega) (q _ (by omega)))),ZI h.bk hk (q _ (show w.heap.size<_ by omega)),ZI h.bs hk (q _ (show _+1<_ by omega)),ZI h.bn hk (q _ (show _+4<_ by omega)),h.below.trans (hk.below h.below.size (fun b hb=>q b (by omega))),h.far⟩
theorem GA.keep{P:Program}{tm tg ti:TypeId}{z:Value}{w A B:World}{n:Nat}{ss:List Int}{sv:Value}{L gr cap gb sb:Nat}(h:GA P tm tg ti z w A n ss sv L gr cap gb sb){s:Nat->Prop}(hk:Kept s A B)(hs:∀ b,gaO w.heap.size gr gb sb b∨b<w.heap.size+5->s b):GA P tm tg ti z w B n ss sv L gr cap gb sb:=
 h.turn hk (fun b hb=>hs b (hb.imp .inl id)) ((hk.block _ h.lts.2.1 (hs _ (.inl (.inr (.inl rfl))))).trans h.g) ((hk.block _ h.lts.2.2.1 (hs _ (.inl (.inr (.inr (.inl rfl)))))).trans h.s)
def nC(aO:List Int)(rows:List (List Int)):List Int:=rows.foldl (fun a r=>pR a r aO) (List.replicate aO.length 1073741824)
theorem Dx(aO:List Int):∀ (rows:List (List Int)) (a:List Int),a.length=aO.length->(rows.foldl (fun a r=>pR a r aO) a).length=aO.length
 | [],_,h => h
 | _::rows,_,h => Dx aO rows _ (nD h)
attribute [local go_sem] Oper.semAt_some
theorem Tryz.ajg:ArrKey Tryz.prog 378 3 4:=⟨Tryz.underlying378,by kernel_rfl,by kernel_rfl,by kernel_rfl⟩
theorem Tryz.yN:Go.Maps.Keyed Tryz.prog 378:=Go.Maps.Keyed.of_law Tryz.ajg.law
theorem Tryz.aeH(w:World):(zeroValue 3).run Tryz.prog w=.ok (.int .i64 0) w:=by kernel_rfl
theorem Tryz.aeI:(Tryz.prog.info? 331).map (fun i=>(i.zero,i.size,i.bytes))=some (some (.pointer none),1,8):=by kernel_rfl
def rM:Value:=.agg #[.int .i64 0,.int .i64 0,.int .i64 0,.int .i64 0]
theorem VT:∃ l,keyOf Tryz.prog 378 rM=some l:=⟨(keyOf Tryz.prog 378 rM).getD (.int .i64 0),by kernel_rfl⟩
def gaB(w:World)(sv:Value):List Obj:=[.cells #[.slice none 0 0] 23,.cells #[sv] 23,.cells #[.slice none 0 0] 329,.map #[] 0,.cells #[.map (some (w.heap.size+1+1+1))] 377]
end
section
open Go.Maps Go.WideMaps
attribute [local go_sem] Oper.semAt_some
@[reducible] def GZ (w W:World) (n:Nat) (ss:List Int) (sv:Value) (L gr cap gb sb:Nat):Prop:=GA Tryz.prog 377 334 3 rM w W n ss sv L gr cap gb sb
theorem aeJ(hD:IsMap D)(hkl:keyOf Tryz.prog 378 rM=some kl)(hown:w6.ownsMap Tryz.prog 378 (plainElem Tryz.prog 3) (w.heap.size+3) 1 (D.put kl (.lit (.int .i64 0))))(X:World)(hX:X.heap[w.heap.size+3]? = w6.heap[w.heap.size+3]?) :
  (Instr.lookup 377 (.map (some (w.heap.size+3))) rM true).run Tryz.prog X=.ok (.tuple #[.int .i64 0,.bool true]) X:=by
 have ho:X.ownsMap Tryz.prog 378 (plainElem Tryz.prog 3) (w.heap.size+3) 1 (D.put kl (.lit (.int .i64 0))):=by
  obtain⟨es,clock,h1,h2⟩:=hown;exact⟨es,clock,hX.trans h1,h2⟩
 obtain⟨v,ps,hrun,hv⟩:=ho.look_ok Tryz.yN Tryz.underlying377 (Tryz.aeH X) (plainElem_int (H:=Unit) Tryz.underlying3 (a:=0) rfl) hkl;obtain⟨c,rfl,hc,_⟩:=plainElem_int_inv Tryz.underlying3 hv;have hc':(D.put kl (.lit (.int .i64 0))).atKey kl (.lit (.int .i64 0))=.lit (.int .i64 c):=congrArg Prod.fst hc;rw[atKey_put_same hD (Tryz.yN.key hkl) _ _]at hc';simp only[DataW.lit.injEq,Lit.int.injEq,true_and]at hc';have e:=hc';rw[hrun,has_put_same hD (Tryz.yN.key hkl) _,<- e]
def gaM(tg ti:TypeId)(V:World)(b2 n:Nat)(wx:World)(gr cap:Nat):Prop:=
 wx.cell? (aD b2 0)=some (.slice (some (aD gr 0)) 1 cap)/\wx.cell? (aD gr 0)=some (.pointer (some (aD (V.heap.size+2) 0)))/\wx.heap[V.heap.size+2]? = some (.cells #[.slice none 0 0,.int .i64 0,.slice (some (aD (V.heap.size+1) 0)) n n] tg)/\wx.heap[V.heap.size+1]? = some (.cells (List.replicate n (Value.int .i64 1073741824)).toArray ti)/\V.heap.size+3<=gr/\Kept (fun b=>b≠b2) V wx
theorem aeK{X:World}(h:X.heap[b]? = some (.map #[] 0)):∃ D,IsMap D/\X.ownsMap Tryz.prog 378 (plainElem (H:=Unit) Tryz.prog 3) b 0 D:=by
 have hm:=World.ownsMap_made X Tryz.prog 378 (plainElem (H:=Unit) Tryz.prog 3);have hm':=hm;obtain⟨es,clock,h1,h2⟩:=hm';have e:=h1.symm.trans (l6 X _)
 cases e
 exact⟨_,hm.isMap,⟨_,_,h,h2⟩⟩
theorem abx(hs:V.heap.size=w.heap.size+5)(hbV:Bw w V)(f0:V.cell? (aD w.heap.size 0)=some (.slice none 0 0))(f1:V.cell? (aD (w.heap.size+1) 0)=some sv)(f4:V.cell? (aD (w.heap.size+4) 0)=some (.map (some (w.heap.size+3))))
  (hM:gaM 334 3 V (w.heap.size+2) n wc gr cap) (hD:IsMap D) (hkl:keyOf Tryz.prog 378 rM=some kl) (hown:w6.ownsMap Tryz.prog 378 (plainElem Tryz.prog 3) (w.heap.size+3) 1 (D.put kl (.lit (.int .i64 0)))) (hgrow:wc.grownBy w6 (some (w.heap.size+3))) :
  GZ w w6 0 (List.replicate n 1073741824) sv n gr cap (V.heap.size+2) (V.heap.size+1):=by
 have oI:Kept (fun b=>b≠w.heap.size+3) wc w6:=ZM hgrow (fun r e hr=>by cases e; exact hr rfl);obtain⟨m1,m2,m3,m4,m5,m6⟩:=hM;have l3:=(QV.1 m3).1;refine⟨ZI m1 oI (show w.heap.size+2≠_ by omega),ZI m2 oI (show gr≠_ by omega),(oI.block _ l3 (by omega)).trans m3,?_,aeJ hD hkl hown,ZI (ZI f0 m6 (show w.heap.size≠_ by omega)) oI (show w.heap.size≠_ by omega),ZI (ZI f1 m6 (show w.heap.size+1≠_ by omega)) oI (show w.heap.size+1≠_ by omega),ZI (ZI f4 m6 (show w.heap.size+4≠_ by omega)) oI (show w.heap.size+4≠_ by omega),(hbV.trans (m6.below (by omega) (fun b hb=>by omega))).trans (oI.below (by omega) (fun b hb=>by omega)),by omega⟩;rw[List.map_replicate];exact(oI.block _ (by omega) (by omega)).trans m4
def gaN(V W:World)(n:Nat)(ss:List Int)(L:Nat):Prop:=W.heap[V.heap.size+2]? = some (.cells #[.slice none 0 0,.int .i64 n,.slice (some (aD (V.heap.size+1) 0)) L L] 334)/\W.heap[V.heap.size+1]? = some (.cells (ss.map (Value.int .i64)).toArray 3)
theorem aby{w0 W2:World}{sc x:ah}{rows:List (List Int)}{pre:List ah}{o1:Nat->Prop}(hsc:sc.At w)(hsl:sc.xs.length<=4)(Rs:∀ r∈rows,bN sc.xs r.length=true)(hsm:∀ r∈rows,∀ v∈r,yM v)(hbig:∀ n,∀ s∈nC sc.xs (rows.take n),yM s)
  (uV:∀ b,o1 b↔gaO w.heap.size gr (V.heap.size+2) (V.heap.size+1) b) (hG:GZ w W pre.length (nC sc.xs (pre.map ah.xs)) sc.val sc.xs.length gr cap (V.heap.size+2) (V.heap.size+1)) (hpre:(pre++[x]).map bK.key <+: rows) (hx:bK.At x W) (hoff:∀ b,bK.blk x=some b->¬ o1 b/\(b<w0.heap.size∨wc.heap.size<=b)) (hb2:Bw W W2) (hb0:Bw w0 w) (hlen:rows.length<=1000) :
  (∀ W7:World,gaN V W7 (pre.length+1) (pR (nC sc.xs (pre.map ah.xs)) x.xs sc.xs) sc.xs.length->Kept (fun b=>b≠V.heap.size+2/\b≠V.heap.size+1) W2 W7->W7.heap.size=W2.heap.size->
    ∃ o2:Nat->Prop,((∀ b,o2 b↔gaO w.heap.size gr (V.heap.size+2) (V.heap.size+1) b)/\GZ w W7 (pre++[x]).length (nC sc.xs ((pre++[x]).map ah.xs)) sc.val sc.xs.length gr cap (V.heap.size+2) (V.heap.size+1))/\Kept (fun b=>¬ o1 b) W W7/\∀ b,o2 b->o1 b∨(W.heap.size<=b/\b<W7.heap.size)∨(bK.blk x=some b/\wc.heap.size<=b))/\
   GZ w W2 pre.length (nC sc.xs (pre.map ah.xs)) sc.val sc.xs.length gr cap (V.heap.size+2) (V.heap.size+1)/\
   Calls Tryz.prog 286 #[.pointer (some (aD (V.heap.size+2) 0)),x.val,sc.val] W2.drew fun e w'=>(∃ u,e=.returned u)/\gaN V w' (pre.length+1) (pR (nC sc.xs (pre.map ah.xs)) x.xs sc.xs) sc.xs.length/\Kept (fun b=>b≠V.heap.size+2/\b≠V.heap.size+1) W2 w'/\w'.heap.size=W2.heap.size:=by
 have hl:=hG.lts;have hf:=hG.far;have hG2:=hG.keep (s:=fun b=>b<W.heap.size) (Zo hb2 (fun b _ h=>h)) (fun b hb=>by rcases hb with (h | h | h | h | h) | h <;> omega);have hxm:=BC hpre;have hkd:∀ s,Kept s W2 W2.drew:=fun s=>⟨rfl,rfl,rfl,Qx _,fun _ _ _=>rfl⟩
 have hpl:pre.length+1<=1000:=by
  have:=hpre.length_le;rw[Zc,Zb]at this;exact Zl this hlen
 have htk:pre.map ah.xs=rows.take pre.length:=by
  have h:=hpre;rw[Qs]at h;have:=List.prefix_iff_eq_take.1 ((List.prefix_append _ _).trans h);rw[Zc]at this;exact this
 refine⟨fun W7 r1 r3 r4=>⟨o1,⟨uV,?_⟩,?_,fun b hb=>.inl hb⟩,hG2,?_⟩
 ·rw[Zb,Qs,show nC sc.xs (pre.map ah.xs++[x].map ah.xs)=pR (nC sc.xs (pre.map ah.xs)) x.xs sc.xs by unfold nC; rw[QZ]; rfl];exact hG2.turn r3 (fun b hb=>by omega) r1.1 r1.2
 ·exact(Zo (s:=fun b=>¬ o1 b) hb2 (fun b hb _=>hb)).trans (r3.mono fun b _ h=>⟨fun e=>h ((uV b).2 (.inr (.inl e))),fun e=>h ((uV b).2 (.inr (.inr (.inl e))))⟩)
 ·have h:=Iz (V.heap.size+2) (V.heap.size+1) (.slice none 0 0) pre.length (nC sc.xs (pre.map ah.xs)) x sc W2.drew (by omega) hG2.g hG2.s (Dx _ _ _ (by simp)) hsl (bK.keep hx hb2.size (fun b hb _=>hb2.block b hb)).1 (Qv (hG2.below) hsc) (fun a ha=>by
    have hb:bK.blk x=some a.block:=by show x.ad.map _=_; rw[ha]; rfl
    exact⟨fun e=>(hoff _ hb).1 ((uV _).2 (.inr (.inl e))),fun e=>(hoff _ hb).1 ((uV _).2 (.inr (.inr (.inl e))))⟩) (fun hp a ha=>by
    obtain⟨b,off,e,hc⟩:=hsc.get hp;rw[e]at ha
    cases ha
    have hlt:b<w.heap.size:=Zv (hc 0 hp);exact⟨fun e=>by have e':b=V.heap.size+2:=e; omega,fun e=>by have e':b=V.heap.size+1:=e; omega⟩) (Rs _ hxm) (by omega) (fun s hs=>hbig pre.length s (by rw[<- htk]; exact hs)) (hsm _ hxm)
  refine h.mono ?_;rintro e w' ⟨h1,h2,h3,h4,h5⟩;exact⟨h1,⟨h2,h3⟩,(hkd _).trans h4,h5⟩
theorem Mv(gi:Nat)(AA:Array Value)(sc:ah)(rows:List (List Int))(w0 w:World)(hb0:Bw w0 w)(hseq:Seq bK Tryz.prog gi AA rows w0)(egi:∀ args w,(callFunc gi args).run Tryz.prog w=.ok (.enter gi args) w)
  (hsc:sc.At w) (hsl:sc.xs.length<=4) (hlen:rows.length<=1000) (Rs:∀ r∈rows,bN sc.xs r.length=true) (hsm:∀ r∈rows,∀ v∈r,yM v) (hbig:∀ n,∀ s∈nC sc.xs (rows.take n),yM s) :
  Calls Tryz.prog 280 #[.func (.func gi) #[] AA,.slice none 0 0,sc.val] w fun e w'=>∃ gr cap gb sb,e=.returned (.slice (some (aD gr 0)) 1 cap)/\w.heap.size<=gr/\w.heap.size<=gb/\w.heap.size<=sb/\w'.cell? (aD gr 0)=some (.pointer (some (aD gb 0)))/\
   w'.heap[gb]? = some (.cells #[.slice none 0 0,.int .i64 rows.length,.slice (some (aD sb 0)) sc.xs.length sc.xs.length] 334)/\w'.heap[sb]? = some (.cells ((nC sc.xs rows).map (Value.int .i64)).toArray 3)/\Bw w w':=by
 have hh:=oU (gaB w sc.val) w;have hbV:=nA (gaB w sc.val) w;have hsV:((gaB w sc.val).foldl World.alloc w).heap.size=w.heap.size+5:=by simp[gaB]
 obtain⟨V,hV⟩:∃ V,(gaB w sc.val).foldl World.alloc w=V:=⟨_,rfl⟩
 rw[hV]at hh hsV hbV;have f0:V.cell? (aD w.heap.size 0)=some (.slice none 0 0):=Ji (hh 0 (by simp[gaB])) rfl;have f1:V.cell? (aD (w.heap.size+1) 0)=some sc.val:=Ji (hh 1 (by simp[gaB])) rfl;have h2:GB V (w.heap.size+2) 329 #[.slice none 0 0]:=hh 2 (by simp[gaB]);have h3:V.heap[w.heap.size+3]? = some (.map #[] 0):=hh 3 (by simp[gaB]);have f4:V.cell? (aD (w.heap.size+4) 0)=some (.map (some (w.heap.size+3))):=Ji (hh 4 (by simp[gaB])) rfl;simp only[gaB,Q0,List.foldl_nil]at hV;have HV:=Zh hV;have HB0:=Zh hb0;have HSC:Hid _:=hsc;have Fu:=Zh hsl;have HLEN:=Zh hlen;have HSI:=Zh Rs;have HSM:=Zh hsm;have MZ:=Zh hbig;have HSV:=Zh hsV;have HBV:=Zh hbV;have H3:=Zh h3;have H2:Hid _:=h2;have F0:=Zh f0;have F1:=Zh f1;clear hV hb0 hsc hlen Rs hsm hbig hsV hbV h2 h3 hh;obtain⟨rH,jq,ry⟩:=sc;unfold ah.val at *;simp only at *;refine(Zu (n:=0)).1 (ZJ Tryz.func280 rfl trivial ?_ rfl);simp only[Tryz.ntmps280,Zy,Zg,ZA,Nat.reduceAdd,Nat.reduceSub,ZB,ZC,ZE,ZF,ZG,ZH];have hmm:=@run_makeMap Tryz.prog
 gi_upto_region 3 with fail
 rw[HV.o];simp only[XN,Nat.reduceAdd];have hng:Calls Tryz.prog 284 #[.slice none 0 0,.int .i64 ry.length] V.drew fun e w'=>e=.returned (.pointer (some (aD (V.heap.size+2) 0)))/\
   w'.heap[V.heap.size+2]? = some (.cells #[.slice none 0 0,.int .i64 0,.slice (some (aD (V.heap.size+1) 0)) ry.length ry.length] 334)/\
   w'.heap[V.heap.size+1]? = some (.cells (List.replicate ry.length (Value.int .i64 1073741824)).toArray 3)/\Below V.heap.size V.drew w'/\w'.heap.size=V.heap.size+3:=Iy ⟨none,0,[]⟩ ry.length V.drew Fu.o
 have hbx:V.cell? (aD (w.heap.size+2) 0)=some (.slice none 0 0):=Ji H2.o rfl;have M5:Hid (∀ w4:World,w4.heap[V.heap.size+2]? = some (.cells #[.slice none 0 0,.int .i64 0,.slice (some (aD (V.heap.size+1) 0)) ry.length ry.length] 334)->w4.heap[V.heap.size+1]? = some (.cells (List.replicate ry.length (Value.int .i64 1073741824)).toArray 3)->Below V.heap.size V.drew w4->w4.heap.size=V.heap.size+3->
   ∃ gr cap w5,(Builtin.append_ #[329,329] 329 #[.slice none 0 0,.slice (some (aD w4.heap.size 0)) 1 1]).run Tryz.prog (w4.alloc (.cells #[.pointer (some (aD (V.heap.size+2) 0))] 331))=.ok (.slice (some (aD gr 0)) 1 cap) w5/\w5.cell? (aD (w.heap.size+2) 0)=some (.slice none 0 0)/\w5.frozen? (aD (w.heap.size+2) 0)=false/\
    gaM 334 3 V (w.heap.size+2) ry.length (w5.setCell (aD (w.heap.size+2) 0) (.slice (some (aD gr 0)) 1 cap)) gr cap):=by
  intro w4 p2 p1 pb ps;obtain⟨i0,hi,hz0,hz1,hz2⟩:=ZU Tryz.aeI;obtain⟨v',w5,hr,ho,hk,-,-⟩:=iG (P:=Tryz.prog) w4 w4.heap.size 329 329 331 i0 (.pointer none) 1 8 Tryz.underlying329 hi hz0 hz1 hz2 rfl (by decide) (.slice none 0 0) 0 [] (ZV _ _ _ _) (Qx _) [.pointer (some (aD (V.heap.size+2) 0))] rfl (fun u hu=>by rw[ZR]at hu; rw[hu]; rfl) (by omega) (by decide);rcases Xd ho with⟨rfl,h1⟩ | ⟨g,cap,rfl,hg,_,hc⟩
  ·exact absurd h1 (by decide)
  ·have hk4:Kept (fun _=>True) w4 w5:=hk.mono (fun b _ _=>fun e=>by cases e);have hkV:=(Zo (s:=fun _=>True) (w:=V) (B:=V.heap.size) ((Qw _ _).drew.trans (pb.mono (Qx _))) (fun b hb _=>hb)).trans hk4;have hsV:=HSV.o;have hG2:GB w5 (w.heap.size+2) 329 #[.slice none 0 0]:=(hkV.block _ (by omega) trivial).trans H2.o;have hst:Kept (fun b=>b≠w.heap.size+2) w5 (w5.setCell (aD (w.heap.size+2) 0) (.slice (some (aD g 0)) 1 cap)):=ZL _ _ _ (fun h=>h rfl);refine⟨g,cap,w5,hr,hG2.cell 0,wS hG2 0,(hG2.set 0 _).cell 0,ZI (hc 0 _ rfl) hst (show g≠_ by omega),(hst.block _ (by have:=hk4.size; omega) (by omega)).trans ((hk4.block _ (by omega) trivial).trans p2),(hst.block _ (by have:=hk4.size; omega) (by omega)).trans ((hk4.block _ (by omega) trivial).trans p1),by omega,(hkV.mono fun _ _ _=>trivial).trans hst⟩
 gi_upto_region 4 with fail
 gi_cut [] from 15 (fun wx=>∃ gr cap,gaM 334 3 V (w.heap.size+2) ry.length wx gr cap)
 case first=>
  refine wpIn_wide.2 (wp_region_noPanic ?_);go_region_law
   ((first
    | (refine Xy (by rfl) _ _ _ (by rfl) (.slice none 0 0) (.slice (some (aD w4.heap.size 0)) 1 1) (.slice (some (aD gr 0)) 1 cap) w5 (by rfl) (by rfl) vE ?_)
    | (go_simp; go_at_call 284; refine hng.mono ?_; rintro e w4 ⟨rfl,p2,p1,pb,ps⟩; obtain⟨gr,cap,w5,vE,hc5,K4,hfin⟩:=M5.o w4 p2 p1 pb ps; have hb4:=ZI (A:=V.drew) hbx (Zo (s:=fun _ => True) pb (fun b hb _ => hb)) trivial; have aA3:=ZI hb4 (Zr (s:=fun _ => True) w4 (.cells #[.pointer (some (aD (V.heap.size+2) 0))] 331)) trivial; clear p2 p1 pb ps)))
  all_goals
   refine NoPanic.normal ?_
   gi_wp2_with fail
   gi_meet
   exact⟨gr,cap,hfin⟩
 case rest=>
  obtain⟨gr,cap,hM⟩:=hcut;obtain⟨kl,hkl⟩:=VT;have hkl':keyOf Tryz.prog 378 (.agg #[.int .i64 0,.int .i64 0,.int .i64 0,.int .i64 0])=some kl:=hkl;have HM:Hid _:=hM;obtain⟨D,hD,hown⟩:=aeK ((hM.2.2.2.2.2.block (w.heap.size+3) (by have:=HSV.o; omega) (by omega)).trans H3.o);have hn5:=ZI f4 hM.2.2.2.2.2 (by show w.heap.size+4≠_; omega);have F4:=Zh f4;have HD:Hid _:=hD;clear hM hng hD f4 hbx
  gi_upto_region 6 with (first | (gi_at_mapUpdate; refine wpListIn_mapUpdate_own _ rfl _ _ _ 377 rfl 378 3 Tryz.yN Tryz.underlying377 _ (w.heap.size+3) 0 D rfl hown (by unfold maxLen; omega) _ _ kl rfl rfl hkl' (.lit (.int .i64 0)) [] (plainElem_int Tryz.underlying3 rfl) ?_; intro w6 hown6 abz))
  have Ul:=Zh (abx HSV.o HBV.o F0.o F1.o F4.o HM.o HD.o hkl hown6 abz);clear hown6 abz hown hn5 hkl hkl' f0 f1;go_frame
  gi_cut [26] from 15 (fun f wx=>f=.func (.func gi) #[] AA/\GZ w wx 0 (List.replicate ry.length 1073741824) (.slice rH ry.length jq) ry.length gr cap (V.heap.size+2) (V.heap.size+1))
  case first=>
   gi_wp2_with fail
   gi_meet
   exact⟨rfl,Ul.o⟩
  case rest=>
   obtain⟨rfl,hGI⟩:=hcut;have abA:=Zh hGI;have xU:=Zh hGI.lts;clear hGI hmm
   gi_wp2_with fail
   refine BB bK (gf:=gi) (lb:=AA) rfl egi hseq (HB0.o.trans (abA.o.below.mono HB0.o.size)) rfl
    (fun pre o1 W=>(∀ b,o1 b↔gaO w.heap.size gr (V.heap.size+2) (V.heap.size+1) b)/\GZ w W pre.length (nC ry (pre.map ah.xs)) (.slice rH ry.length jq) ry.length gr cap (V.heap.size+2) (V.heap.size+1))
    (gaO w.heap.size gr (V.heap.size+2) (V.heap.size+1)) ?_ ?_ ⟨fun _=>Iff.rfl,abA.o⟩
    (fun x=>{ tmps:=#[.func (.func gi) #[] AA,.slice none 0 0,.slice rH ry.length jq,undef,.pointer (some (aD w.heap.size 0)),.pointer (some (aD (w.heap.size+1) 0)),.slice none 0 0,.pointer (some (aD (w.heap.size+2) 0)),.pointer (some (aD (w.heap.size+4) 0)),x.val,undef,undef,undef,undef,.map (some (w.heap.size+3)),u15,u16,u17,u18,u19,u20,u21,u22,u23,u24,u25,.func (.func gi) #[] AA,x.val,u28,u29,u30,u31,u32,u33,u34,u35,u36,u37,u38,u39,u40,u41,u42,u43,u44,u45,u46,u47,u48,u49,u50,u51,u52,u53,u54,u55,u56,u57,u58,u59,u60,u61],defers:=[] }) ?assign ?body ?done
   ·intro b hb;have h0:=HB0.o.size;have hl:=xU.o;have hf:=abA.o.far;rcases hb with h | h | h | h | h <;> omega
   ·rintro pre o1 A B ⟨hi,h⟩ hk;exact⟨hi,h.keep hk (fun b hb=>hb.imp (hi b).2 (fun hb=>by have:=xU.o; omega))⟩
   case assign=>
    intro l x W K hK
    gi_wp2
    exact hK
   case body=>
    rintro l pre x o1 W ⟨uV,hG⟩ hpre hx hoff hsz;have hpk:Calls Tryz.prog 285 #[x.val,.slice none 0 0] W fun e w'=>e=.returned (.slice (some (aD W.heap.size 0)) 0 0)/\w' = W.alloc (.cells #[] 3):=WQ x ⟨none,0,[]⟩ W hx.1 ⟨by simp,fun i hi=>by simp at hi⟩ rfl (by simp)
    obtain⟨W2,hW2⟩:∃ W2,(W.alloc (.cells #[] 3)).alloc (.cells #[.int .i64 0,.int .i64 0,.int .i64 0,.int .i64 0] 378)=W2:=⟨_,rfl⟩
    have hcp:=fun ty=>run_copy_none (P:=Tryz.prog) ((W.alloc (.cells #[] 3)).alloc (.cells #[.int .i64 0,.int .i64 0,.int .i64 0,.int .i64 0] 378)) 23 23 ty 3 (some (aD (W.heap.size+1) 0)) (some (aD W.heap.size 0)) 4 4 0 0 Tryz.underlying23 Tryz.Bn rfl
    have hb2:Bw W W2:=by rw[<- hW2]; exact(dn W _).trans ((dn _ _).mono (dn W _).size)
    have ha2:W2.heap[W.heap.size+1]? = some (.cells #[.int .i64 0,.int .i64 0,.int .i64 0,.int .i64 0] 378):=by
     have h:=l6 (W.alloc (.cells #[] 3)) (.cells #[.int .i64 0,.int .i64 0,.int .i64 0,.int .i64 0] 378);rw[Zt]at h;rw[<- hW2]; exact h
    obtain⟨hfin,hG2,hadd⟩:=aby (wc:=wc) (sc:=⟨rH,jq,ry⟩) HSC.o Fu.o HSI.o HSM.o MZ.o uV hG hpre hx hoff hb2 HB0.o HLEN.o;rw[hW2]at hcp;have aok:=hG2.look W2 rfl;have q0:W2.cell? (aD (W.heap.size+1) 0)=some (.int .i64 0):=Ji ha2 rfl;have q1:W2.cell? (aD (W.heap.size+1) 1)=some (.int .i64 0):=Ji ha2 rfl;have q2:W2.cell? (aD (W.heap.size+1) 2)=some (.int .i64 0):=Ji ha2 rfl;have q3:W2.cell? (aD (W.heap.size+1) 3)=some (.int .i64 0):=Ji ha2 rfl;have hbk:=hG.bk;have aA4:=hG2.bn;have adB:=hG2.bs;have auy:=hG2.box;have auz:=hG2.ptr;have kX:=Zh hfin;unfold rM at aok;clear ha2 hb2 hG hG2 hx hoff hsz hpre uV hfin;obtain⟨Bc,mW,vC⟩:=x;unfold ah.val at *;simp only at *
    gi_wp2_with (refine⟨trivial,rfl,CallsIn.inRound l (Zu.2 (hpk.mono ?_))⟩; rintro e w4 ⟨rfl,rfl⟩)
    have HN:Hid (∀ b,b=gr∨b<w.heap.size+5->b≠V.heap.size+2/\b≠V.heap.size+1):=fun b hb=>by have:=abA.o.far; omega
    refine yu (S:=fun x=>Kept (fun b=>b≠V.heap.size+2/\b≠V.heap.size+1) W2 x) (by kernel_rfl) (by kernel_rfl) (fun ⟨_,_,h⟩=>h) ?_;have hS:Kept (fun b=>b≠V.heap.size+2/\b≠V.heap.size+1) W2 W2.drew:=⟨rfl,rfl,rfl,Qx _,fun _ _ _=>rfl⟩
    refine wT 0 (.slice (some (aD gr 0)) 1 cap) hS (fun x hx=>?_) ?_
    ·have e:=ZI auy hx (HN.o _ (.inr (show w.heap.size+2<_ by omega)));go_simp
    refine wt 1 (.int .i64 0) hS ?_;refine wt 2 (.pointer (some (aD gr 0))) hS ?_;refine wT 3 (.pointer (some (aD (V.heap.size+2) 0))) hS (fun x hx=>?_) ?_
    ·have e:=ZI auz hx (HN.o _ (.inl rfl));go_simp
    refine wt 4 (.slice Bc vC.length mW) hS ?_;refine wT 5 (.slice rH ry.length jq) hS (fun x hx=>?_) ?_
    ·have e:=ZI adB hx (HN.o _ (.inr (show w.heap.size+1<_ by omega)));go_simp
    refine wR 6 fun K hK=>?_
    go_simp;refine hadd.mono ?_;rintro e W7 ⟨⟨u7,rfl⟩,r1,r3,r4⟩;refine hK.o _ _ r3 fun hS=>?_
    clear hK K;refine wD ?_;exact kX.o W7 r1 r3 r4
   case done=>
    rintro ys o' W2 hys ⟨uV,hG⟩ hk2 hg2 hD;have hc:=hG.box;have HG:=Zh hG;have HYS:Hid (ys.map ah.xs=rows):=hys;clear hG hys hk2 hg2 uV
    gi_wp2
    have hf:=abA.o.far;have hl:=xU.o;have hfin:=HG.o.keep (Zp (s:=fun b=>b≠wc.heap.size) W2 (.deferred none) (fun h=>h rfl)) (fun b hb e=>by rcases hb with (h | h | h | h | h) | h <;> omega);rw[HYS.o,show ys.length=rows.length by rw[<- HYS.o,Zc]]at hfin;refine⟨by simp,.inl ⟨_,_,rfl,ZK hD,?_⟩⟩;exact⟨_,results_tmp rfl _ _ _,gr,cap,V.heap.size+2,V.heap.size+1,rfl,by omega,by omega,by omega,hfin.ptr,hfin.g,hfin.s,hfin.below⟩
end
theorem IA(gb sb:Nat)(k:ah)(cnt:Nat)(ss:List Int)(w:World)
  (hg:w.heap[gb]? = some (.cells #[k.val,.int .i64 cnt,.slice (some (aD sb 0)) ss.length ss.length] 334)) (hs:w.heap[sb]? = some (.cells (ss.map (Value.int .i64)).toArray 3)) (hk:k.At w) (hkn:k.ad=none->k.cap=0) (hkl:k.xs.length<=4) (hsl:ss.length<=4) (hcnt:cnt<=1000000) :
  Calls Tryz.prog 281 #[.pointer (some (aD gb 0))] w fun e w'=>∃ v,e=.returned v/\w'.ownsRow w.heap.size 3 1 v (k.xs++[(cnt:Int)]++ss).length ((k.xs++[(cnt:Int)]++ss).map (Value.int .i64))/\Bw w w':=by
 have c0:w.cell? (aD gb 0)=some k.val:=Ji hg rfl;have c1:w.cell? (aD gb 1)=some (.int .i64 cnt):=Ji hg rfl;have c2:w.cell? (aD gb 2)=some (.slice (some (aD sb 0)) ss.length ss.length):=Ji hg rfl;have hgl:=(QV.1 hg).1;obtain⟨l8,eO,lF⟩:=k;unfold ah.val at *;simp only at *;have hga:aB w (some (aD sb 0)) ss:=⟨by omega,fun i hi=>⟨sb,0,rfl,by rw[QQ]; exact Ji hs (by simp[List.getD,hi])⟩⟩
 have HK:Hid _:=hk;have HA:Hid _:=hga;have HKN:=Zh hkn;clear hg hs hk hga;have yD:Hid (Calls Tryz.prog 175 #[.slice (some (aD (w.heap.size+1) 0)) 3 3] ((w.alloc (.cells #[.int .i64 cnt] 3)).alloc (.cells #[.slice l8 lF.length eO,.slice (some (aD w.heap.size 0)) 1 1,.slice (some (aD sb 0)) ss.length ss.length] 23)).drew
   fun e w'=>∃ v,e=.returned v/\w'.ownsRow w.heap.size 3 1 v (lF++[(cnt:Int)]++ss).length ((lF++[(cnt:Int)]++ss).map (Value.int .i64))/\Bw w w'):=by
  have hb1:=dn w (.cells #[.int .i64 cnt] 3);have hb2:=dn (w.alloc (.cells #[.int .i64 cnt] 3)) (.cells #[.slice l8 lF.length eO,.slice (some (aD w.heap.size 0)) 1 1,.slice (some (aD sb 0)) ss.length ss.length] 23);have hbw:=(hb1.trans (hb2.mono hb1.size)).drew;have hc1:(((w.alloc (.cells #[.int .i64 cnt] 3)).alloc (.cells #[.slice l8 lF.length eO,.slice (some (aD w.heap.size 0)) 1 1,.slice (some (aD sb 0)) ss.length ss.length] 23)).drew).heap[w.heap.size]? = some (.cells #[.int .i64 cnt] 3):=(Below.heap_alloc (w.alloc (.cells #[.int .i64 cnt] 3)) _ _ (by simp)).trans (l6 _ _);have hc2:(((w.alloc (.cells #[.int .i64 cnt] 3)).alloc (.cells #[.slice l8 lF.length eO,.slice (some (aD w.heap.size 0)) 1 1,.slice (some (aD sb 0)) ss.length ss.length] 23)).drew).heap[w.heap.size+1]? = some (.cells #[.slice l8 lF.length eO,.slice (some (aD w.heap.size 0)) 1 1,.slice (some (aD sb 0)) ss.length ss.length] 23):=by
   have h:=l6 (w.alloc (.cells #[.int .i64 cnt] 3)) (.cells #[.slice l8 lF.length eO,.slice (some (aD w.heap.size 0)) 1 1,.slice (some (aD sb 0)) ss.length ss.length] 23);rw[Zt]at h;exact h
  have hsz:(((w.alloc (.cells #[.int .i64 cnt] 3)).alloc (.cells #[.slice l8 lF.length eO,.slice (some (aD w.heap.size 0)) 1 1,.slice (some (aD sb 0)) ss.length ss.length] 23)).drew).heap.size=w.heap.size+2:=by
   show ((w.alloc (.cells #[.int .i64 cnt] 3)).alloc (.cells #[.slice l8 lF.length eO,.slice (some (aD w.heap.size 0)) 1 1,.slice (some (aD sb 0)) ss.length ss.length] 23)).heap.size=_
   simp
  generalize ((w.alloc (.cells #[.int .i64 cnt] 3)).alloc (.cells #[.slice l8 lF.length eO,.slice (some (aD w.heap.size 0)) 1 1,.slice (some (aD sb 0)) ss.length ss.length] 23)).drew=V at *;have afT:gK [⟨l8,eO,lF⟩,⟨some (aD w.heap.size 0),1,[(cnt:Int)]⟩,⟨some (aD sb 0),ss.length,ss⟩]=lF++[(cnt:Int)]++ss:=by simp[gK]
  have h:=NF (some (aD (w.heap.size+1) 0)) 3 [⟨l8,eO,lF⟩,⟨some (aD w.heap.size 0),1,[(cnt:Int)]⟩,⟨some (aD sb 0),ss.length,ss⟩] V ?_ (by simp) ?_ ?_
  ·rw[afT]at h;refine h.mono ?_;rintro e w' ⟨v,rfl,hown,hb⟩;exact⟨v,rfl,⟨hown.1,by
    rcases hown.2 with h | ⟨g,cap,cur,h1,h2,h3⟩
    ·exact .inl h
    ·exact .inr ⟨g,cap,cur,h1,by omega,h3⟩⟩,hbw.trans (hb.mono (by omega))⟩
  ·refine⟨by simp,⟨fun i hi=>⟨w.heap.size+1,0,rfl,?_⟩,fun i hi=>?_⟩⟩
   ·match i,hi with
    | 0,_ => exact Ji hc2 rfl
    | 1,_ => exact Ji hc2 rfl
    | 2,_ => exact Ji hc2 rfl
   ·match i,hi with
    | 0,_ => exact Qv hbw HK.o
    | 1,_ => exact⟨by simp,fun j hj => ⟨w.heap.size,0,rfl,by
      match j,hj with
      | 0,_ => exact Ji hc1 rfl⟩⟩
    | 2,_ => exact Qv hbw HA.o
  ·intro i hi he
   match i,hi,he with
   | 0,_,he => exact HKN.o he
   | 1,_,he => cases he
   | 2,_,he => cases he
  ·rw[afT]; simp; omega
 clear hkn;go_enter Tryz.func281,Tryz.ntmps281;go_wp2;go_region_with (refine yD.o.mono ?_; rintro e w4 ⟨v4,rfl,Aq,hb4⟩; obtain⟨va,vn,vc,rfl⟩:=ZP Aq)
 all_goals
  go_wp2;go_ret;exact⟨_,rfl,Aq,hb4⟩
