import Derived.Test.YtjndadibondgbaaGreatDoorL17
set_option linter.all false
set_option maxRecDepth 100000
set_option maxHeartbeats 16000000
namespace Go.Proofs.Zz
open Go.RowKit Go.Shelf
variable {b base bg c i k n:Nat} {A W:World} {cs:Array Value} {e t tg ti tp:TypeId} {cols kc row sc ss xs:List Int} {v:Value} {x:aa} {P:Program} {ks:List (List Int)} {pre:List aa} {ls:List az}
theorem N7(c:Nat)(w:World)(hc:c<=4) :
  Ce 156 #[.int .u64 1,.int .u64 c] w (.tuple #[.int .u64 0,.int .u64 c]):=by
 obtain rfl | rfl | rfl | rfl | rfl:c=0∨c=1∨c=2∨c=3∨c=4:=by omega
 all_goals
  go_enter Tryz.func156,Tryz.ntmps156;go_wp2;go_ret2;exact⟨rfl,rfl⟩
theorem WW(c:Nat)(w:World)(hc:c<=4) :
  Ce 165 #[.int .u64 1,.int .u64 c] w (.tuple #[.int .u64 0,.int .u64 c]):=by
 have h:=N7 c w hc;go_enter Tryz.func165,Tryz.ntmps165;go_wp2_with fail;refine h.mono ?_;rintro e a ⟨rfl,rfl⟩;go_wp2;go_ret2;exact⟨rfl,rfl⟩
def eF(v:Int)(c k:Nat):List Value:=List.replicate k (Value.int .i64 v)++List.replicate (c-k) (Value.int .i64 0)
theorem Te(v:Int)(h:k<=c):(eF v c k).length=c:=by simp[eF]; omega
theorem Tf(v:Int)(c:Nat):eF v c c=List.replicate c (Value.int .i64 v):=by simp[eF]
theorem N8(v:Int)(c:Nat):madeCells #[.int .i64 0] c=(eF v c 0).toArray:=by
 rw[vX];simp[eF]
theorem wQ(v:Int){m:Nat}(h:k+m<=c):splice (eF v c k) k (List.replicate m (Value.int .i64 v))=eF v c (k+m):=by
 unfold splice eF;rw[List.take_left' (by simp),Jd,List.drop_append,Jd,List.drop_eq_nil_of_le (by simp),Zd,List.drop_replicate,<- QH,List.replicate_append_replicate];congr 2;omega
theorem N9(v:Int){j:Nat}(hj:j<k):(eF v c k)[j]? = some (Value.int .i64 v):=by
 unfold eF;rw[QK (by simpa using hj),List.getElem?_replicate,Qu hj]
theorem Tryz.CG:(Tryz.prog.info? 3).map (·.size)=some 1:=by kernel_rfl
theorem WX(w:World)(xb:Nat)(v:Int)(c:Nat)(hc:0<c)(hx:w.cell? (aD xb 0)=some (.int .i64 v))(ty:TypeId) :
  (Builtin.copy_ #[22,22] ty #[.slice (some (aD w.heap.size 0)) c c,.slice (some (aD xb 0)) 1 1]).run Tryz.prog (w.alloc (.cells (eF v c 0).toArray 3))=.ok (goInt 1) (w.alloc (.cells (eF v c 1).toArray 3)):=by
 rw[vW (w.alloc (.cells (eF v c 0).toArray 3)) 22 22 ty 3 1 w.heap.size c c (some (aD xb 0)) 1 1 (eF v c 0).toArray 3 [.int .i64 v] Tryz.underlying22 Tryz.CG (lZ w _) hc rfl
  (fun _=>⟨_,rfl,fun j u a=>by
   match j,a with
   | 0,a => cases a; exact cB (bV w _) hx⟩) (by simp[eF]; omega) (fun u b => by simp at b; subst b; rfl),rq]
 have h:splice (eF v c 0) 0 (List.replicate 1 (Value.int .i64 v))=eF v c (0+1):=wQ v (by omega);unfold splice at h;simp only[List.take_zero,Zd,QJ,Jd,List.replicate_one]at h;exact congrArg (fun l=>Result.ok (goInt 1) (w.alloc (.cells (List.toArray l) 3))) h
theorem WY(W:World)(g:Nat)(v:Int)(c k m:Nat)(hg:W.heap[g]? = some (.cells (eF v c k).toArray 3))(hm:Nat.min k (c-k)=m)(hk:0<k)(hc:k<c)(ty:TypeId) :
  (Builtin.copy_ #[22,22] ty #[.slice (some (aD g k)) (c-k) (c-k),.slice (some (aD g 0)) k c]).run Tryz.prog W=.ok (.int .i64 m) (W.setRow g (eF v c (k+m)).toArray):=by
 have f:min k (c-k)=m:=hm;have a:m<=k/\k+m<=c:=by omega
 rw[run_copy_row (P:=Tryz.prog) W 22 22 ty 3 g k (c-k) (c-k) (aD g 0) k c (eF v c k).toArray 3 (List.replicate m (.int .i64 v)) Tryz.underlying22 Tryz.CG hg (by rw[Jd,hm])
  (fun j u e=>by
   have b:j<m:=by have:=(List.getElem?_eq_some_iff.1 e).1; simpa using this
   rw[List.getElem?_replicate,Qu b]at e
   cases e
   have d:=N9 v (c:=c) (k:=k) (j:=j) (by omega);rw[addr_add];simp[World.cell?,hg,d]) (by rw[Jd,Q6,Te v (by omega)]; omega) (fun u i=>by obtain⟨_,rfl⟩:=List.mem_replicate.1 i; rfl)]
 have h:=wQ v a.2;unfold splice at h;rw[Jd]at h ⊢;rw[<- QH]at h;exact congrArg (fun l=>Result.ok (goInt m) (W.setRow g (List.toArray l))) h
theorem Tg(xb:Nat)(v:Int)(c:Nat)(w:World)(hc:c<=4)(hx:w.cell? (aD xb 0)=some (.int .i64 v)) :
  Calls Tryz.prog 153 #[.slice (some (aD xb 0)) 1 1,.int .i64 c] w fun e w'=>e=.returned (.slice (some (aD w.heap.size 0)) c c)/\w'.heap[w.heap.size]? = some (.cells (List.replicate c (Value.int .i64 v)).toArray 3)/\Below w.heap.size w w'/\w'.heap.size=w.heap.size+1:=by
 have i:=run_make_row' (P:=Tryz.prog) 22 3 (.int .i64 0) 8 Tryz.underlying22 Tryz.kT rfl .i64 .i64 c (by omega) (by omega);rw[N8 v c]at i;have d:=WW c w hc;obtain⟨b,f⟩:=eX (Nat.min 1 c)
 have j:b<=c/\b<=1/\(b=0->c=0):=by
  have h:min 1 c=b:=f;omega
 have l:∀ A,(Builtin.copy_ #[22,22] A #[.slice (some (aD w.heap.size 0)) c c,.slice (some (aD xb 0)) 1 1]).run Tryz.prog (w.alloc (.cells (eF v c 0).toArray 3))=.ok (goInt b) (w.alloc (.cells (eF v c b).toArray 3)):=by
  intro A;have h:min 1 c=b:=f;by_cases R:c=0
  ·subst R;obtain rfl:b=0:=by omega
   exact run_copy_none (P:=Tryz.prog) _ 22 22 A 3 _ _ 0 0 1 1 Tryz.underlying22 Tryz.CG rfl
  ·obtain rfl:b=1:=by omega
   exact WX w xb v c (by omega) hx A
 have L:=Zh j;clear f j hx;have B:∀ n:Nat,goInt (n:Int)=.int .i64 n:=fun _=>rfl
 rw[B]at l;go_enter Tryz.func153,Tryz.ntmps153;go_wp2_with fail;refine d.mono ?_;rintro e a ⟨rfl,rfl⟩;clear d;go_wp2;go_loopw [8] (fun s wr=>∃ k:Nat,k<=c/\s=.int .i64 k/\(k=0->c=0)/\wr.heap[a.heap.size]? = some (.cells (eF v c k).toArray 3)/\Below a.heap.size a wr/\wr.heap.size=a.heap.size+1) (fun s _=>c-(intOf s).toNat)
 case atStart=>exact⟨b,L.o.1,rfl,L.o.2.2,lZ _ _,bV _ _,by simp⟩
 case round=>
  obtain⟨k,S,rfl,H,y,I,g⟩:=hrel;by_cases K:k<c
  ·obtain⟨m,J⟩:=eX (Nat.min k (c-k))
   have M:=WY wr.drew a.heap.size v c k m y J (by omega) K;have C:min k (c-k)=m:=J;have p:0<m/\k+m<=c:=by omega
   have z:=Zh p;have N:=Zh g;have O:=Zh I;have Q:=Zh y;clear J C p l i H g I y;go_wp2;go_region
   all_goals
    have q:Below a.heap.size a (wr.drew.setRow a.heap.size (eF v c (k+m)).toArray):=below_setRow O.o.drew (Qs _) _;have r:wrap64 ((k:Int)+(m:Int))=((k+m:Nat):Int):=by have:=z.o; unfold wrap64; omega
    have t:(wr.drew.setRow a.heap.size (eF v c (k+m)).toArray).heap[a.heap.size]? = some (.cells (eF v c (k+m)).toArray 3):=setRow_heap wr.drew a.heap.size _ _ _ _ Q.o;have u:(wr.drew.setRow a.heap.size (eF v c (k+m)).toArray).heap.size=a.heap.size+1:=(setRow_size _ _ _).trans N.o;rw[r];have D:=Zh q;have E:=Zh t;have F:=Zh u;clear q r t u;generalize wr.drew.setRow a.heap.size (eF v c (k+m)).toArray=wf at *;go_wp2;go_roundw
    case rel=>exact⟨k+m,z.o.2,rfl,fun h=>by have:=z.o; omega,E.o,D.o,F.o⟩
    case measure=>have:=z.o; simp[intOf]; omega
  ·have G:k=c:=by omega
   subst G;rw[Tf]at y;go_wp2;go_ret;exact⟨rfl,y,I,g⟩
theorem KI(s v:Int)(w:World)(hs:-2305843009213693952<=s/\s<=2305843009213693952)(hv:-2305843009213693952<=v/\v<=2305843009213693952) :
  Ce 154 #[.int .i64 s,.int .i64 v] w (.int .i64 (FU s v)):=by
 have d:wrap64 (s+v)=s+v:=by unfold wrap64; omega
 unfold FU;by_cases a:v=1073741824
 ·rw[Qu a];subst a;go_enter Tryz.func154,Tryz.ntmps154;go_wp2;go_ret;exact⟨rfl,rfl⟩
 ·rw[Qv a];by_cases b:s=1073741824
  ·rw[Qu b];subst b;go_enter Tryz.func154,Tryz.ntmps154;go_wp2;go_ret;exact⟨rfl,rfl⟩
  ·rw[Qv b];go_enter Tryz.func154,Tryz.ntmps154;go_wp2;go_ret;exact⟨rfl,rfl⟩
theorem zw(k:aa)(n:Nat)(w:World)(hn:n<=4) :
  Calls Tryz.prog 130 #[k.val,.int .i64 n] w fun e w'=>e=.returned (.pointer (some (aD (w.heap.size+2) 0)))/\
   w'.heap[w.heap.size+2]? = some (.cells #[k.val,.int .i64 0,.slice (some (aD (w.heap.size+1) 0)) n n] 177)/\
   w'.heap[w.heap.size+1]? = some (.cells (List.replicate n (Value.int .i64 1073741824)).toArray 3)/\Below w.heap.size w w'/\w'.heap.size=w.heap.size+3:=by
 obtain⟨y,z,A⟩:=k;unfold aa.val;simp only;have d:=bV w (.cells #[.int .i64 1073741824] 3);have l:=Tg w.heap.size 1073741824 n (w.alloc (.cells #[.int .i64 1073741824] 3)) hn (by simp);have a:(w.alloc (.cells #[.int .i64 1073741824] 3)).heap.size=w.heap.size+1:=by simp
 rw[a]at l;obtain⟨B,b⟩:=eX (w.alloc (.cells #[.int .i64 1073741824] 3))
 have f:=Zh b;have v:=Zh a;have m:=Zh d;clear a d;rw[b]at l;clear b;go_enter Tryz.func130,Tryz.ntmps130;go_wp2_with fail;rw[f.o];refine l.mono ?_;rintro e t ⟨rfl,g,i,j⟩;have p:=Zh g;have q:=Zh i;have r:=Zh j;clear l g i j;go_wp2;go_ret;have u:t.heap.size=w.heap.size+2:=r.o;have s:Below w.heap.size w t:=by
  have:=m.o;rw[f.o]at this;exact this.trans (q.o.mono (by omega))
 rw[<- u];refine⟨rfl,lZ _ _,?_,s.alloc (by omega) _,by simp; omega⟩;exact(Below.heap_alloc t _ _ (by omega)).trans p.o
theorem Ti{W:World}{b:Nat}{cs:Array Value}{t:TypeId}(h:W.heap[b]? = some (.cells cs t)){i:Nat}{v:Value}(hv:cs[i]? = some v):W.cell? (aD b i)=some v:=by
 simp[World.cell?,h,hv]
theorem rW(h:W.heap[b]? = some (.cells cs t))(i:Nat):W.frozen? (aD b i)=false:=by
 simp[World.frozen?,h]
theorem AP(h:W.heap[b]? = some (.cells cs t))(i:Nat)(v:Value):(W.setCell (aD b i) v).heap[b]? = some (.cells (cs.setIfInBounds i v) t):=by
 rw[setCell_eq_setRow W b i cs t (0,0) v h];exact setRow_heap W b _ _ _ _ h
theorem Oa(hne:c≠b)(i:Nat)(v:Value):(W.setCell (aD b i) v).heap[c]? = W.heap[c]?:=Below.heap_setCell W (aD b i) v c hne
def Je:=@Ti
theorem getD_in{α:Type}{l:List α}{d:α}(hk:k<l.length):l.getD k d∈l:=by
 have e:l.getD k d=l[k]:=by simp[List.getD,hk]
 rw[e];exact Qk hk
def Tj(x:Int):Prop:=-2305843009213693952<=x/\x<=2305843009213693952
def uD(ss row cols:List Int)(k:Nat):List Int:=(jV ss row cols).take k++ss.drop k
theorem Tk:uD ss row cols 0=ss:=by simp[uD]
theorem WZ(h:ss.length=cols.length):uD ss row cols cols.length=jV ss row cols:=by
 unfold uD;rw[X0 (by rw[kJ h]; exact Qs _),List.drop_of_length_le (by omega),XB]
theorem Ya(h:ss.length=cols.length)(hk:k<cols.length):(uD ss row cols k)[k]? = some (ss.getD k 0):=by
 unfold uD;rw[QL (by rw[XF,kJ h]; omega),XF,kJ h,Nat.min_eq_left (by omega),XZ,List.getElem?_drop];simp[List.getD,show k<ss.length by omega]
theorem Yb(h:ss.length=cols.length)(hk:k<cols.length):(uD ss row cols k).set k (FU (ss.getD k 0) (row.getD (cols.getD k 0).toNat 0))=uD ss row cols (k+1):=by
 unfold uD;have a:((jV ss row cols).take k).length=k:=by rw[XF,kJ h]; omega
 rw[List.set_append_right _ _ (by omega),a,XZ,XI (by omega),List.set_cons_zero,Qm (by rw[kJ h]; omega),QH];congr 2;simp[jV,List.getD,hk,show k<ss.length by omega]
theorem KJ(gb sb:Nat)(kv:Value)(cnt:Nat)(ss:List Int)(x c:aa)(w:World)(hgs:gb≠sb)
  (hg:w.heap[gb]? = some (.cells #[kv,.int .i64 cnt,.slice (some (aD sb 0)) c.xs.length c.xs.length] 177)) (hs:w.heap[sb]? = some (.cells (ss.map (Value.int .i64)).toArray 3)) (hl:ss.length=c.xs.length) (hcl:c.xs.length<=4)
  (hx:x.At w) (hc:c.At w) (hxb:∀ a,x.ad=some a->a.block≠gb/\a.block≠sb) (hcb:0<c.xs.length->∀ a,c.ad=some a->a.block≠gb/\a.block≠sb) (ha:aM c.xs x.xs.length=true)
  (hcnt:cnt<=1000000) (hbs:∀ s∈ss,Tj s) (hbx:∀ v∈x.xs,Tj v) :
  Calls Tryz.prog 132 #[.pointer (some (aD gb 0)),x.val,c.val] w fun e w'=>(∃ v,e=.returned v)/\
   w'.heap[gb]? = some (.cells #[kv,.int .i64 (cnt+1:Nat),.slice (some (aD sb 0)) c.xs.length c.xs.length] 177)/\w'.heap[sb]? = some (.cells ((jV ss x.xs c.xs).map (Value.int .i64)).toArray 3)/\
   Kept (fun b=>b≠gb/\b≠sb) w w'/\w'.heap.size=w.heap.size:=by
 obtain⟨jD,cO,xs⟩:=x;obtain⟨iZ,di,cs⟩:=c;unfold aa.val;simp only at *;have c1:w.cell? (aD gb 1)=some (.int .i64 cnt):=Je hg rfl;have f1:=rW hg 1;have q:wrap64 ((cnt:Int)+1)=((cnt+1:Nat):Int):=by unfold wrap64; omega
 have Y:=Zh hg;have Z:=Zh hs;have HX:Hid _:=hx;have HC:Hid _:=hc;have z:=Zh hxb;have pJ:=Zh hcb;have HA:=Zh ha;have A:=Zh hl;have r:Hid _:=hgs;have B:=Zh hbs;have KM:=Zh hbx;clear hg hs hx hc hxb hcb ha hl hgs hbs hbx;go_enter Tryz.func132,Tryz.ntmps132;go_wp2;go_loopw [17] (fun i wr=>∃ k:Nat,k<=cs.length/\i=.int .i64 k/\wr.heap[gb]? = some (.cells #[kv,.int .i64 (cnt+1:Nat),.slice (some (aD sb 0)) cs.length cs.length] 177)/\wr.heap[sb]? = some (.cells ((uD ss xs cs k).map (Value.int .i64)).toArray 3)/\
  Kept (fun b=>b≠gb/\b≠sb) w wr/\wr.heap.size=w.heap.size) (fun i _=>cs.length-(intOf i).toNat)
 case atStart=>
  refine⟨0,Zf _,rfl,?_,?_,Zn _ _ _ (fun h=>h.1 rfl),by simp[World.setCell]⟩
  ·have:=AP Y.o 1 (.int .i64 (wrap64 ((cnt:Int)+1)));rw[q]at this
   first | exact this | (rw[q]; exact this)
  ·rw[Oa (fun e=>r.o e.symm),Tk];exact Z.o
 case round=>
  obtain⟨k,hk,rfl,l,d,f,p⟩:=hrel;by_cases g:k<cs.length
  ·obtain⟨cb,Kn,rfl,H⟩:=HC.o.get g;have I:=Zj (H k g) f (pJ.o (by omega) (aD cb Kn) rfl);have ae:=Qq HA.o g;have C:cs.getD k 0=cs[k]:=by simp[List.getD,g]
   have n:cs[k].toNat<xs.length:=by omega
   obtain⟨xb,X,rfl,tO⟩:=HX.o.get n;have J:=Zj (tO _ n) f (z.o (aD xb X) rfl);have c2:wr.cell? (aD gb 2)=some (.slice (some (aD sb 0)) cs.length cs.length):=Je l rfl;have c3:=Je d (by rw[ZK,ZR,Ya A.o g]; rfl);have f3:=rW d k;have j:=Yb (row:=xs) A.o g;rw[C]at j I;have K:Tj (ss.getD k 0):=B.o _ (getD_in (by have:=A.o; omega));have L:Tj (xs.getD cs[k].toNat 0):=KM.o _ (getD_in n);have M:((cs[k].toNat:Nat):Int)=cs[k]:=by omega
   have t:=Zh l;have D:=Zh d;have E:=Zh f;have F:=Zh p;have G:=Zh j;clear l d f p j H tO C;generalize ss.getD k 0=sv at *;generalize xs.getD cs[k].toNat 0=xv at *;generalize Ku:cs[k]=ck at *;clear Ku;obtain⟨cn,rfl⟩:∃ cn:Nat,ck=(cn:Int):=⟨ck.toNat,by omega⟩
   simp only[ZY]at n J;clear M c1 f1;obtain⟨y,m⟩:∃ y,(wr.setCell (aD sb k) (.int .i64 (FU sv xv))).drew=y:=⟨_,rfl⟩
   have u:Kept (fun b=>b≠sb) wr y:=by
    rw[<- m];exact(Zn wr (aD sb k) _ (fun h=>h rfl)).trans ⟨rfl,rfl,rfl,Qs _,fun _ _ _=>rfl⟩
   have N:=Zh ((u.block gb (QO.1 t.o).1 r.o).trans t.o);have O:Hid (y.heap[sb]? = some (.cells ((uD ss xs cs (k+1)).map (Value.int .i64)).toArray 3)):=by
    have h:=AP D.o k (.int .i64 (FU sv xv));rw[List.setIfInBounds_toArray,<- List.map_set,G.o]at h;rw[<- m];exact h
   have P:=Zh (E.o.trans (u.mono fun _ _ h=>h.2));have Q:Hid (y.heap.size=w.heap.size):=by
    have h:y.heap.size=wr.heap.size:=by rw[<- m]; show (wr.setCell _ _).heap.size=_; simp[World.setCell]
    exact h.trans F.o
   have R:=Zh m;clear u m t D E F G Y Z HA A r B KM HX HC z pJ q hcnt;go_wp2;go_region_with (refine(KI sv xv _ K L).mono ?_; rintro e w4 ⟨rfl,rfl⟩)
   all_goals
    rw[R.o];go_wp2;go_roundw
    case rel=>exact⟨k+1,by omega,by go_num,N.o,O.o,P.o,Q.o⟩
    case measure=>simp[intOf]; omega
  ·have S:k=cs.length:=by omega
   subst S;rw[WZ A.o]at d;have T:=Zh l;have U:=Zh d;have V:=Zh f;have W:=Zh p;clear l d f p;go_wp2
   (try simp only[Exit.inBlock,Exit.then])
   refine bodyPost_end (results_none rfl _ _ _) rfl ?_;exact⟨⟨_,rfl⟩,T.o,U.o,V.o,W.o⟩
section
open Go.Maps Go.WideMaps
structure gP where
 gb:Nat
 sb:Nat
 k:aa
 cnt:Nat
 ss:List Int
def gP.gr(g:gP):Gr:=⟨g.k.xs,g.cnt,g.ss⟩
def gP.own(g:gP)(b:Nat):Prop:=b=g.gb∨b=g.sb∨ag.blk g.k=some b
def gP.ptr(g:gP):Value:=.pointer (some (aD g.gb 0))
def gP.bump(row sc:List Int)(g:gP):gP:=⟨g.gb,g.sb,g.k,g.cnt+1,jV g.ss row sc⟩
structure gP.At(tg ti:TypeId)(n:Nat)(g:gP)(W:World):Prop where
 cells:W.heap[g.gb]? = some (.cells #[g.k.val,.int .i64 g.cnt,.slice (some (aD g.sb 0)) n n] tg)
 sums:W.heap[g.sb]? = some (.cells (g.ss.map (Value.int .i64)).toArray ti)
 key:ag.At g.k W
 len:g.ss.length=n
 ne:g.gb≠g.sb
 nk:ag.blk g.k≠some g.gb/\ag.blk g.k≠some g.sb
theorem gP.At.keep{tg ti:TypeId}{n:Nat}{g:gP}{A B:World}(h:g.At tg ti n A){s:Nat->Prop}(hk:Kept s A B)(hs:∀ b,g.own b->s b):g.At tg ti n B:=
 ⟨(hk.block _ (QO.1 h.cells).1 (hs _ (.inl rfl))).trans h.cells,(hk.block _ (QO.1 h.sums).1 (hs _ (.inr (.inl rfl)))).trans h.sums,
  ag.keep h.key hk.size (fun b d a=>hk.block b d (hs b (.inr (.inr a)))),h.len,h.ne,h.nk⟩
theorem gP.At.lt{g:gP}(h:g.At tg ti n A)(hb:g.own b):b<A.heap.size:=by
 rcases hb with rfl | rfl | hb
 ·exact(QO.1 h.cells).1
 ·exact(QO.1 h.sums).1
 ·exact ag.sV h.key hb
structure mH(tg ti tp:TypeId)(n base bg:Nat)(gs:List gP)(W:World)(v:Value):Prop where
 box:W.cell? (aD bg 0)=some v
 thaw:W.frozen? (aD bg 0)=false
 own:W.ownsRow base tp 1 v gs.length (gs.map gP.ptr)
 at':∀ g∈gs,g.At tg ti n W
 off:∀ g∈gs,∀ b,g.own b->base<=b/\v.ownBlock≠some b
 apart:gs.Pairwise fun g h=>∀ b,g.own b->¬ h.own b
 low:bg<base
def bM(bg:Nat)(v:Value)(gs:List gP)(b:Nat):Prop:=b=bg∨v.ownBlock=some b∨∃ g∈gs,g.own b
theorem mH.keep{tg ti tp:TypeId}{n base bg:Nat}{gs:List gP}{A B:World}{v:Value}(h:mH tg ti tp n base bg gs A v){s:Nat->Prop}(hk:Kept s A B)(hs:∀ b,bM bg v gs b->s b):mH tg ti tp n base bg gs B v:=
 ⟨Zj h.box hk (hs _ (.inl rfl)),(Zt (hk.block _ (Q3 h.box) (hs _ (.inl rfl)))).trans h.thaw,Zp h.own hk (fun g a=>hs _ (.inr (.inl a))),
  fun g a=>(h.at' g a).keep hk (fun b d=>hs _ (.inr (.inr ⟨g,a,d⟩))),h.off,h.apart,h.low⟩
theorem mH.lt{tg ti tp:TypeId}{n base bg:Nat}{gs:List gP}{A:World}{v:Value}(h:mH tg ti tp n base bg gs A v){b:Nat}(hb:bM bg v gs b):b<A.heap.size:=by
 rcases hb with rfl | hb | ⟨g,a,hb⟩
 ·exact Q3 h.box
 ·exact(Zq h.own hb).2
 ·exact(h.at' g a).lt hb
theorem mH.more{gs:List gP}{W3 W4 W5:World}{v':Value}(h:mH tg ti tp n base bg gs W v){g:gP}
  (hb3:Bw W W3) (hg3:g.At tg ti n W3) (hbase:∀ b,g.own b->base<=b) (hnew:∀ b,g.own b->¬ bM bg v gs b)
  (hk4:Kept (fun _=>True) W3 W4) (hown5:W5.ownsRow base tp 1 v' (gs.length+1) (gs.map gP.ptr++[g.ptr])) (hg5:W4.grownBy W5 v.ownBlock) (hat:v'.ownBlock=v.ownBlock∨v'.ownBlock=some W4.heap.size) :
  mH tg ti tp n base bg (gs++[g]) (W5.setCell (aD bg 0) v') v'/\Kept (fun b=>b≠bg/\v.ownBlock≠some b) W (W5.setCell (aD bg 0) v')/\
  ∀ b,bM bg v' (gs++[g]) b->bM bg v gs b∨g.own b∨(W.heap.size<=b/\b<(W5.setCell (aD bg 0) v').heap.size):=by
 have l:Kept (fun b=>b<W.heap.size) W W3:=QU hb3 (fun b _ h=>h);have i:Kept (fun b=>v.ownBlock≠some b) W4 W5:=Zo hg5 (fun r e E=>E e);have m:Kept (fun b=>b≠bg) W5 (W5.setCell (aD bg 0) v'):=Zn _ _ _ (fun h=>h rfl);have o:Kept (fun b=>v.ownBlock≠some b) W W5:=((l.mono (t:=fun b=>v.ownBlock≠some b) (fun b a _=>a)).trans (hk4.mono fun _ _ _=>trivial)).trans i;have A:Kept (fun b=>b≠bg/\v.ownBlock≠some b) W (W5.setCell (aD bg 0) v'):=(o.mono fun _ _ h=>h.2).trans (m.mono fun _ _ h=>h.1);have p:Kept (fun b=>b≠bg/\v.ownBlock≠some b) W3 (W5.setCell (aD bg 0) v'):=((hk4.mono fun _ _ _=>trivial).trans (i.mono fun _ _ h=>h.2)).trans (m.mono fun _ _ h=>h.1);have q:∀ b,v.ownBlock=some b->base<=b/\b<W.heap.size:=fun b a=>Zq h.own a
 have B:∀ b,v'.ownBlock=some b->base<=b/\b<W5.heap.size:=fun b a=>Zq hown5 a
 have j:v.ownBlock≠some bg:=fun e=>by have:=(q _ e).1; have:=h.low; omega
 have s:v'.ownBlock≠some bg:=fun e=>by have:=(B _ e).1; have:=h.low; omega
 have D:W.heap.size<=W4.heap.size:=QS hb3.size hk4.size;have u:(W5.setCell (aD bg 0) v').heap.size=W5.heap.size:=by simp[World.setCell]
 have w:W5.cell? (aD bg 0)=some v:=Zj h.box o j;refine⟨⟨?_,?_,?_,?_,?_,?_,h.low⟩,A,?_⟩
 ·exact World.cell?_setCell_same' _ _ _ (by rw[w]; rfl)
 ·rw[World.frozen?_setCell];exact(Zt (o.block _ (Q3 h.box) j)).trans h.thaw
 ·have:=Zp hown5 m (fun g F=>by intro e; exact s (e ▸ F))
  simpa using this
 ·intro x d;rcases Zx.1 d with d | d
  ·refine(h.at' x d).keep A (fun b a=>⟨fun e=>?_,(h.off x d b a).2⟩);have:=(h.off x d b a).1; have:=h.low; omega
  ·rw[Zw]at d;subst d;exact hg3.keep p (fun b a=>⟨fun e=>hnew b a (.inl e),fun e=>hnew b a (.inr (.inl e))⟩)
 ·intro x d b a;have k:base<=b/\v.ownBlock≠some b/\b<W3.heap.size:=by
   rcases Zx.1 d with d | d
   ·exact⟨(h.off x d b a).1,(h.off x d b a).2,QT ((h.at' x d).lt a) hb3.size⟩
   ·rw[Zw]at d;subst d;exact⟨hbase b a,fun e=>hnew b a (.inr (.inl e)),hg3.lt a⟩
  refine⟨k.1,fun e=>?_⟩;rcases hat with f | f
  ·exact k.2.1 (f ▸ e)
  ·rw[f]at e
   cases e
   have:=hk4.size;omega
 ·rw[Zu];refine⟨h.apart,Zv _ _,?_⟩;intro x d y C b a z;rw[Zw]at C;subst C;exact hnew b z (.inr (.inr ⟨x,d,a⟩))
 ·rintro b (a | a | ⟨x,d,a⟩)
  ·exact .inl (.inl a)
  ·rcases hat with f | f
   ·exact .inl (.inr (.inl (f ▸ a)))
   ·refine .inr (.inr ⟨?_,by rw[u]; exact(B b a).2⟩);rw[f]at a
    cases a
    exact D
  ·rcases Zx.1 d with d | d
   ·exact .inl (.inr (.inr ⟨x,d,a⟩))
   ·rw[Zw]at d;subst d;exact .inr (.inl a)
theorem mH.bump{tg ti tp:TypeId}{n base bg:Nat}{gs:List gP}{W W':World}{v:Value}(h:mH tg ti tp n base bg gs W v){i:Nat}(hi:i<gs.length)(row sc:List Int)(hl:(jV gs[i].ss row sc).length=n)
  (hg:W'.heap[gs[i].gb]? = some (.cells #[gs[i].k.val,.int .i64 (gs[i].cnt+1:Nat),.slice (some (aD (gs[i].sb) 0)) n n] tg)) (hs:W'.heap[gs[i].sb]? = some (.cells ((jV gs[i].ss row sc).map (Value.int .i64)).toArray ti))
  (hk:Kept (fun b=>b≠gs[i].gb/\b≠gs[i].sb) W W'):mH tg ti tp n base bg (gs.modify i (gP.bump row sc)) W' v:=by
 have f:gs[i]∈gs:=Qk hi;have o:=h.at' _ f;have l:=h.off _ f;have q:∀ x∈gs.modify i (gP.bump row sc),∃ y∈gs,x.own=y.own:=by
  intro x r;obtain⟨j,g,rfl⟩:=Qx r;rw[Jf]at g;refine⟨gs[j],Qk g,?_⟩;rw[XN];split <;> rfl
 refine⟨?_,?_,?_,?_,?_,?_,h.low⟩
 ·exact Zj h.box hk ⟨fun e=>by have m:=(l _ (.inl rfl)).1; have:=h.low; have t:bg=gs[i].gb:=e; omega,fun e=>by have m:=(l _ (.inr (.inl rfl))).1; have:=h.low; have t:bg=gs[i].sb:=e; omega⟩
 ·refine(Zt (hk.block _ (Q3 h.box) ⟨fun e=>?_,fun e=>?_⟩)).trans h.thaw
  ·have m:=(l _ (.inl rfl)).1; have:=h.low; have t:bg=gs[i].gb:=e; omega
  ·have m:=(l _ (.inr (.inl rfl))).1; have:=h.low; have t:bg=gs[i].sb:=e; omega
 ·have E:(gs.modify i (gP.bump row sc)).map gP.ptr=gs.map gP.ptr:=by
   apply XK (by simp);intro j m B;rw[XM,XM,XN];split <;> rfl
  rw[Jf,E];refine Zp h.own hk (fun b d=>⟨fun e=>(l _ (.inl rfl)).2 (e ▸ d),fun e=>(l _ (.inr (.inl rfl))).2 (e ▸ d)⟩)
 ·intro x r;obtain⟨j,g,rfl⟩:=Qx r;rw[Jf]at g;rw[XN];by_cases e:i=j
  ·subst e;rw[Qu rfl];refine⟨hg,hs,ag.keep o.key hk.size (fun b d s=>hk.block b d ⟨fun e=>o.nk.1 (e ▸ s),fun e=>o.nk.2 (e ▸ s)⟩),hl,o.ne,o.nk⟩
  ·rw[Qv e];have hd:∀ b,gs[i].own b->¬ gs[j].own b:=by
    rcases Nat.lt_or_gt_of_ne e with u | w
    ·exact Xt.1 h.apart i j hi g u
    ·exact fun b m B=>Xt.1 h.apart j i g hi w b B m
   exact(h.at' _ (Qk g)).keep hk (fun b d=>⟨fun e=>hd b (.inl e) d,fun e=>hd b (.inr (.inl e)) d⟩)
 ·intro x r b d;obtain⟨y,F,e⟩:=q x r;rw[e]at d;exact h.off y F b d
 ·rw[Xt];intro a c C D z;rw[Jf]at C D;have:=Xt.1 h.apart a c C D z;rw[XN,XN];have A:∀ (p:Prop) [Decidable p] (x:gP),(if p then gP.bump row sc x else x).own=x.own:=fun p _ x=>by split <;> rfl
  intro b;rw[A,A];exact this b
end
section
open Go.Maps Go.WideMaps
def dC(x:Int):Prop:=-2147483648<=x/\x<=2147483648
theorem qO{x:Int}(h:dC x):(Lit.int .i64 x).wf=true:=WalkArith.wf_i64 (by unfold dC at h; omega)
def aiN(a b c d:Int):Value:=.agg #[.int .i64 a,.int .i64 b,.int .i64 c,.int .i64 d]
def om(xs:List Int):Value:=aiN (xs.getD 0 0) (xs.getD 1 0) (xs.getD 2 0) (xs.getD 3 0)
theorem Tm{ys:List Int}(hl:xs.length=ys.length)(h4:ys.length<=4)(h:om xs=om ys):xs=ys:=by
 unfold om aiN at h;simp only[Value.agg.injEq,Array.mk.injEq,List.cons.injEq,Value.int.injEq,true_and,and_true]at h;obtain⟨b,d,f,g⟩:=h;apply XK hl;intro i j a;have e:∀ (l:List Int) (h:i<l.length),l[i]=l.getD i 0:=fun l h=>by simp[List.getD,h]
 rw[e xs j,e ys a]
 match i,a with
 | 0,_ => exact b
 | 1,_ => exact d
 | 2,_ => exact f
 | 3,_ => exact g
 | n+4,h => omega
theorem Tn{k:TypeId}{q:IntKind}(A:ArrKey P k e 4)(he:P.underlying e=some (.int q))(hsz:∃ m,P.types.size=m+1){a b c d:Int}(wa:(Lit.int q a).wf=true)(wb:(Lit.int q b).wf=true)(wc:(Lit.int q c).wf=true)(wd:(Lit.int q d).wf=true) :
  keyOf P k (.agg #[.int q a,.int q b,.int q c,.int q d])=some (.string (keyBytes [.int q a,.int q b,.int q c,.int q d])):=by
 have f:=A.keyType hsz;obtain⟨m,g⟩:=hsz;unfold keyOf;simp only[A.hu];rw[Qu (by simp[f,Value.formed,A.hu,A.size]),g];unfold Program.keyLits;simp only[A.hu,Value.cells];rw[Qu (by rw[A.size]; rfl),show List.range 4=[0,1,2,3] from rfl,List.mapM_cons,List.mapM_cons,List.mapM_cons,List.mapM_cons,List.mapM_nil];simp[A.one,Program.keyLits,he,wa,wb,wc,wd]
theorem jy(h:∀ x∈xs,dC x)(i:Nat):dC (xs.getD i 0):=by
 by_cases a:i<xs.length
 ·exact h _ (getD_in a)
 ·have:xs.getD i 0=0:=by simp[List.getD,XA (Nat.le_of_not_lt a)]
  rw[this];unfold dC;omega
theorem Eg{k:TypeId}(A:ArrKey P k e 4)(he:P.underlying e=some (.int .i64))(hsz:∃ m,P.types.size=m+1)(h:∀ x∈xs,dC x):∃ l,keyOf P k (om xs)=some l:=
 ⟨_,Tn A he hsz (qO (jy h 0)) (qO (jy h 1)) (qO (jy h 2)) (qO (jy h 3))⟩
structure acj(ks:List (List Int))(D:DataW Unit)(xs:List Int)(l:Lit):Prop where
 hit:∀ i,jr ks xs=some i->Maps.has D l=true/\D.atKey l (.lit (.int .i64 0))=.lit (.int .i64 i)
 miss:jr ks xs=none->Maps.has D l=false
def MapAt(P:Program)(tk te:TypeId)(nk bm n:Nat)(ks:List (List Int))(W:World):Prop:=
 ∃ D:DataW Unit,W.ownsMap P tk (plainElem P te) bm n D/\∀ xs l,xs.length=nk->keyOf P tk (om xs)=some l->acj ks D xs l
theorem MapAt.keep{P:Program}{tk te:TypeId}{nk bm n:Nat}{ks:List (List Int)}{A B:World}(h:MapAt P tk te nk bm n ks A)(hb:B.heap[bm]? = A.heap[bm]?):MapAt P tk te nk bm n ks B:=by
 obtain⟨D,⟨b,a,d,e⟩,f⟩:=h;exact⟨D,⟨b,a,hb.trans d,e⟩,f⟩
theorem MapAt.lt{P:Program}{tk te:TypeId}{nk bm n:Nat}{ks:List (List Int)}{A:World}(h:MapAt P tk te nk bm n ks A):bm<A.heap.size:=by
 obtain⟨D,a,_⟩:=h;exact a.lt
theorem MapAt.fresh(P:Program)(tk te:TypeId)(nk:Nat)(w:World):MapAt P tk te nk w.heap.size 0 [] (w.alloc (.map #[] 0)):=
 ⟨_,World.ownsMap_made w P tk _,fun xs l _ _=>⟨fun i h=>by simp[jr]at h,fun _=>rfl⟩⟩
theorem qP{k:List Int}(h:k≠xs):jr (ks++[k]) xs=jr ks xs:=by
 unfold jr;rw[List.findIdx?_append]
 cases hf:ks.findIdx? (fun k=>decide (k=xs)) with
 | some i => simp
 | none => simp[h]
theorem sQ{k:List Int}(h:jr ks k=none):jr (ks++[k]) k=some ks.length:=by
 unfold jr at *;rw[List.findIdx?_append,h];simp
theorem MapAt.put{tk te:TypeId}(K:Keyed P tk){nk bm:Nat}{W':World}{D:DataW Unit}(hk:∀ xs l,xs.length=nk->keyOf P tk (om xs)=some l->acj ks D xs l)(hD:IsMap D)(h4:nk<=4)
  {k:List Int} {kl:Lit} (hkn:k.length=nk) (hkl:keyOf P tk (om k)=some kl) (hmiss:jr ks k=none) (hown:W'.ownsMap P tk (plainElem P te) bm n (D.put kl (.lit (.int .i64 ks.length)))) :
  MapAt P tk te nk bm n (ks++[k]) W':=by
 refine⟨_,hown,fun xs l j d=>?_⟩;by_cases e:k=xs
 ·subst e;have f:l=kl:=by rw[hkl]at d; cases d; rfl
  subst f;refine⟨fun i a=>?_,fun a=>?_⟩
  ·rw[sQ hmiss]at a
   cases a
   exact⟨has_put_same hD (K.key hkl) _,atKey_put_same hD (K.key hkl) _ _⟩
  ·rw[sQ hmiss]at a
   cases a
 ·have b:l≠kl:=fun f=>by
   subst f;exact e (Tm (hkn.trans j.symm) (by omega) (K.inj hkl d))
  have g:=hk xs l j d;refine⟨fun i a=>?_,fun a=>?_⟩
  ·rw[qP e]at a;rw[has_put_other b,atKey_put_other b];exact g.hit i a
  ·rw[qP e]at a;rw[has_put_other b];exact g.miss a
def wS(g:gP):Prop:=∀ s∈g.ss,-2147483648*((g.cnt:Int)+1)<=s/\s<=2147483648*((g.cnt:Int)+1)
theorem Yd{g:gP}(h:wS g)(hc:g.cnt<=1000000):∀ s∈g.ss,Tj s:=fun s a=>by
 have:=h s a;unfold Tj;omega
theorem Ye{s:Int}(h:s∈jV ss row cols):∃ a∈ss,∃ c∈cols,s=FU a (row.getD c.toNat 0):=by
 unfold jV at h;obtain⟨i,b,rfl⟩:=Qx h;rw[List.length_zipWith]at b;rw[List.getElem_zipWith];exact⟨_,Qk (by omega),_,Qk (by omega),rfl⟩
theorem Tp{g:gP}(h:wS g)(hr:∀ v∈row,dC v):wS (g.bump row sc):=by
 intro s e;obtain⟨a,d,c,_,rfl⟩:=Ye e;have f:=h a d;have b:=jy hr c.toNat;unfold dC at b;unfold FU
 show -2147483648*(((g.cnt+1:Nat):Int)+1)<=_/\_<=2147483648*(((g.cnt+1:Nat):Int)+1)
 generalize row.getD c.toNat 0=v at *;have i:(0:Int)<=(g.cnt:Int):=Int.natCast_nonneg _;split
 ·constructor <;> omega
 ·split
  ·constructor <;> omega
  ·constructor <;> omega
theorem IU(gb sb:Nat)(k:aa)(n:Nat):wS ⟨gb,sb,k,0,List.replicate n 1073741824⟩:=by
 intro s a;obtain⟨_,rfl⟩:=List.mem_replicate.1 a;simp
theorem Tryz.Tq:ArrKey Tryz.prog 192 3 4:=⟨Tryz.underlying192,by kernel_rfl,by kernel_rfl,by kernel_rfl⟩
theorem Tryz.IW:∃ m,Tryz.prog.types.size=m+1:=⟨Tryz.prog.types.size-1,by kernel_rfl⟩
theorem Tryz.uE:Go.Maps.Keyed Tryz.prog 192:=Go.Maps.Keyed.of_law Tryz.Tq.law
theorem Tryz.afu(w:World):(zeroValue 3).run Tryz.prog w=.ok (.int .i64 0) w:=by kernel_rfl
end
section
open Go.Maps Go.WideMaps
structure GI(P:Program)(tg ti tp tk:TypeId)(kc sc:aa)(w:World)(pre:List aa)(gs:List gP)(o1:Nat->Prop)(W:World)(v:Value):Prop where
 fold:gs.map gP.gr=pre.foldl (fun a x=>stepG kc.xs sc.xs a x.xs) (eu kc.xs sc.xs)
 tT:mH tg ti tp sc.xs.length (w.heap.size+5) (w.heap.size+2) gs W v
 map:MapAt P tk ti kc.xs.length (w.heap.size+3) (pre.length+1) (gs.map (·.k.xs)) W
 sums:∀ g∈gs,wS g/\g.cnt<=pre.length
 bk:W.cell? (aD w.heap.size 0)=some kc.val
 bs:W.cell? (aD (w.heap.size+1) 0)=some sc.val
 bn:W.cell? (aD (w.heap.size+4) 0)=some (.map (some (w.heap.size+3)))
 below:Bw w W
 iff:∀ b,o1 b↔bM (w.heap.size+2) v gs b∨b=w.heap.size+3
theorem qg{gs:List gP}(h:mH tg ti tp n base bg gs A v)(hb:bM bg v gs b):b=bg∨base<=b:=by
 rcases hb with rfl | hb | ⟨g,a,hb⟩
 ·exact .inl rfl
 ·exact .inr (Zq h.own hb).1
 ·exact .inr (h.off g a b hb).1
theorem GI.keep{P:Program}{tg ti tp tk:TypeId}{kc sc:aa}{w:World}{pre:List aa}{gs:List gP}{o1:Nat->Prop}{A B:World}{v:Value}(h:GI P tg ti tp tk kc sc w pre gs o1 A v){s:Nat->Prop}(hk:Kept s A B)(hs:∀ b,o1 b∨b<w.heap.size+5->s b):GI P tg ti tp tk kc sc w pre gs o1 B v:=by
 refine⟨h.fold,h.tT.keep hk (fun b a=>hs b (.inl ((h.iff b).2 (.inl a)))),h.map.keep (hk.block _ h.map.lt (hs _ (.inl ((h.iff _).2 (.inr rfl))))),h.sums,Zj h.bk hk (hs _ (.inr ?_)),Zj h.bs hk (hs _ (.inr ?_)),Zj h.bn hk (hs _ (.inr ?_)),h.below.trans (hk.below h.below.size (fun b a=>hs b (.inr (by omega)))),h.iff⟩
 ·show w.heap.size<_; omega
 ·show w.heap.size+1<_; omega
 ·show w.heap.size+4<_; omega
theorem asC{vals:List Int}(h:vals.length<=4):vals.map (Value.int .i64)++List.drop vals.length [Value.int .i64 0,.int .i64 0,.int .i64 0,.int .i64 0]=[.int .i64 (vals.getD 0 0),.int .i64 (vals.getD 1 0),.int .i64 (vals.getD 2 0),.int .i64 (vals.getD 3 0)]:=by
 match vals,h with
 | [],_ => rfl
 | [_],_ => rfl
 | [_,_],_ => rfl
 | [_,_,_],_ => rfl
 | [_,_,_,_],_ => rfl
attribute [local go_sem] Oper.semAt_some
theorem acm(W:World)(vals:List Int)(hl:vals.length<=4)(ty:TypeId) :
  (Builtin.copy_ #[22,22] ty #[.slice (some (aD (W.heap.size+1) 0)) 4 4,.slice (some (aD W.heap.size 0)) vals.length vals.length]).run Tryz.prog ((W.alloc (.cells (vals.map (Value.int .i64)).toArray 3)).alloc (.cells #[.int .i64 0,.int .i64 0,.int .i64 0,.int .i64 0] 192)) =
   .ok (.int .i64 vals.length) ((W.alloc (.cells (vals.map (Value.int .i64)).toArray 3)).alloc (.cells #[.int .i64 (vals.getD 0 0),.int .i64 (vals.getD 1 0),.int .i64 (vals.getD 2 0),.int .i64 (vals.getD 3 0)] 192)):=by
 have b:(W.alloc (.cells (vals.map (Value.int .i64)).toArray 3)).heap.size=W.heap.size+1:=by simp
 have g:W.heap[W.heap.size]? = none:=by simp
 have h:=vW (P:=Tryz.prog) ((W.alloc (.cells (vals.map (Value.int .i64)).toArray 3)).alloc (.cells #[.int .i64 0,.int .i64 0,.int .i64 0,.int .i64 0] 192)) 22 22 ty 3 1 (W.alloc (.cells (vals.map (Value.int .i64)).toArray 3)).heap.size 4 4 (some (aD W.heap.size 0)) vals.length vals.length
  #[.int .i64 0,.int .i64 0,.int .i64 0,.int .i64 0] 192 (vals.map (Value.int .i64)) Tryz.underlying22 Tryz.CG (lZ _ _) hl (by simp)
  (fun _=>⟨_,rfl,fun j u e=>by
   rw[addr_add,QJ];refine Je ((Below.heap_alloc (W.alloc (.cells (vals.map (Value.int .i64)).toArray 3)) _ _ (by simp)).trans (lZ W _)) ?_;rw[ZK];exact e⟩) (by simp; omega) (fun u f=>by obtain⟨a,_,rfl⟩:=ZU.1 f; rfl)
 rw[rq,b]at h;rw[h];have d:=asC hl;simp only[ZB];exact congrArg (fun l=>Result.ok (Value.int .i64 vals.length) ((W.alloc (.cells (vals.map (Value.int .i64)).toArray 3)).alloc (.cells (List.toArray l) 192))) d
theorem Tryz.afv:(Tryz.prog.info? 169).map (fun i=>(i.zero,i.size,i.bytes))=some (some (.pointer none),1,8):=by kernel_rfl
theorem Eh(W w4:World)(n base bg:Nat)(gs:List gP)(v:Value)(hG:mH 177 3 169 n base bg gs W v)(hlow:base<=W.heap.size)(hgl:gs.length<=2000000)(k:aa)(hk:ag.At k W)(hkb:∀ b,ag.blk k=some b->base<=b/\¬ bM bg v gs b)
  (h2:w4.heap[W.heap.size+2]? = some (.cells #[k.val,.int .i64 0,.slice (some (aD (W.heap.size+1) 0)) n n] 177)) (h1:w4.heap[W.heap.size+1]? = some (.cells (List.replicate n (Value.int .i64 1073741824)).toArray 3)) (hb:Bw W w4) (hs:w4.heap.size=W.heap.size+3) :
  ∃ i l,(Builtin.append_ #[167,167] 167 #[v,.slice (some (aD w4.heap.size 0)) 1 1]).run Tryz.prog (w4.alloc (.cells #[.pointer (some (aD (W.heap.size+2) 0))] 169))=.ok i l/\
   l.cell? (aD bg 0)=some v/\l.frozen? (aD bg 0)=false/\(∃ a m c,i = .slice a m c)/\
   mH 177 3 169 n base bg (gs++[⟨W.heap.size+2,W.heap.size+1,k,0,List.replicate n 1073741824⟩]) (l.setCell (aD bg 0) i) i/\Kept (fun b=>b≠bg/\v.ownBlock≠some b) W (l.setCell (aD bg 0) i)/\
   ∀ b,bM bg i (gs++[⟨W.heap.size+2,W.heap.size+1,k,0,List.replicate n 1073741824⟩]) b->bM bg v gs b∨ag.blk k=some b∨(W.heap.size<=b/\b<(l.setCell (aD bg 0) i).heap.size):=by
 obtain⟨N,O,A,B,C⟩:=Zy Tryz.afv;have J:(w4.alloc (.cells #[.pointer (some (aD (W.heap.size+2) 0))] 169)).ownsRow base 169 1 v gs.length (gs.map gP.ptr):=by
  refine Zp hG.own (s:=fun b=>b<W.heap.size) ((QU hb (fun b _ h=>h)).trans (QX _ _)) (fun g T=>(Zq hG.own T).2)
 obtain⟨i,l,D,o,f,_,E⟩:=X6 (P:=Tryz.prog) (w4.alloc (.cells #[.pointer (some (aD (W.heap.size+2) 0))] 169)) base 167 167 169 N (.pointer none) 1 8 Tryz.underlying167 O A B C rfl (by decide) v gs.length (gs.map gP.ptr) J
  (aD w4.heap.size 0) 1 1 [.pointer (some (aD (W.heap.size+2) 0))] rfl (fun j u G=>by
   match j,G with
   | 0,G => cases G; exact Je (lZ w4 _) rfl) (fun u I => by simp at I; subst I; rfl) (by unfold maxLen; omega) (by omega) (by simp; omega)
 have q:∀ b,ag.blk k=some b->b<W.heap.size:=fun b d=>ag.sV hk d
 have z:(⟨W.heap.size+2,W.heap.size+1,k,0,List.replicate n 1073741824⟩:gP).At 177 3 n w4:=by
  refine⟨h2,by rw[List.map_replicate]; exact h1,ag.keep hk hb.size (fun b d _=>hb.block b d),by simp,by show W.heap.size+2≠W.heap.size+1; omega,fun e=>?_,fun e=>?_⟩
  ·have:=q _ e; have K:W.heap.size+2<W.heap.size:=this; omega
  ·have:=q _ e; have K:W.heap.size+1<W.heap.size:=this; omega
 have t:∀ b,(⟨W.heap.size+2,W.heap.size+1,k,0,List.replicate n 1073741824⟩:gP).own b->¬ bM bg v gs b:=by
  rintro b (d | d | d) F
  ·have:=hG.lt F; have e:b=W.heap.size+2:=d; omega
  ·have:=hG.lt F; have e:b=W.heap.size+1:=d; omega
  ·exact(hkb b d).2 F
 have p:∀ b,(⟨W.heap.size+2,W.heap.size+1,k,0,List.replicate n 1073741824⟩:gP).own b->base<=b:=by
  rintro b (d | d | d)
  ·have e:b=W.heap.size+2:=d; omega
  ·have e:b=W.heap.size+1:=d; omega
  ·exact(hkb b d).1
 have w:i.ownBlock=v.ownBlock∨i.ownBlock=some (w4.alloc (.cells #[.pointer (some (aD (W.heap.size+2) 0))] 169)).heap.size:=E;obtain⟨Q,R,S⟩:=hG.more hb z p t (QX w4 _) o f w;have y:v.ownBlock≠some bg:=fun e=>by have:=(Zq hG.own e).1; have:=hG.low; omega
 have H:Kept (fun b=>v.ownBlock≠some b) W l:=(((QU hb (fun b d _=>d)).trans (QX (s:=fun b=>v.ownBlock≠some b) _ _))).trans (Zo f (fun r e D=>D e));refine⟨i,l,D,Zj hG.box H y,(Zt (H.block _ (Q3 hG.box) y)).trans hG.thaw,Zr o,Q,R,?_⟩;intro b d;have L:W.heap.size+3<=(l.setCell (aD bg 0) i).heap.size:=by
  have U:w4.heap.size<=(l.setCell (aD bg 0) i).heap.size:=by
   have M:=f.size;rw[QY]at M;have V:(l.setCell (aD bg 0) i).heap.size=l.heap.size:=by simp[World.setCell]
   omega
  omega
 rcases S b d with h | (h | h | h) | h
 ·exact .inl h
 ·have e:b=W.heap.size+2:=h; exact .inr (.inr ⟨by omega,by omega⟩)
 ·have e:b=W.heap.size+1:=h; exact .inr (.inr ⟨by omega,by omega⟩)
 ·exact .inr (.inl h)
 ·exact .inr (.inr h)
def wW(w:World)(kv sv:Value):World:=
 ((((w.alloc (.cells #[kv] 22)).alloc (.cells #[sv] 22)).alloc (.cells #[.slice none 0 0] 167)).alloc (.map #[] 0)).alloc (.cells #[.map (some (w.heap.size+1+1+1))] 191)
theorem Tt(w:World)(kv sv:Value)(n nk:Nat) :
  mH 177 3 169 n (w.heap.size+5) (w.heap.size+2) [] (wW w kv sv) (.slice none 0 0)/\MapAt Tryz.prog 192 3 nk (w.heap.size+3) 0 [] (wW w kv sv)/\
  (wW w kv sv).cell? (aD w.heap.size 0)=some kv/\(wW w kv sv).cell? (aD (w.heap.size+1) 0)=some sv/\(wW w kv sv).cell? (aD (w.heap.size+4) 0)=some (.map (some (w.heap.size+3)))/\
  Bw w (wW w kv sv)/\(wW w kv sv).heap.size=w.heap.size+5:=by
 unfold wW;obtain⟨i,a⟩:=eX (w.alloc (.cells #[kv] 22))
 have E:i.heap[w.heap.size]? = some (.cells #[kv] 22):=by rw[<- a]; exact lZ _ _
 have t:i.heap.size=w.heap.size+1:=by rw[<- a]; simp
 have u:Bw w i:=by rw[<- a]; exact bV _ _
 rw[a];obtain⟨j,b⟩:=eX (i.alloc (.cells #[sv] 22))
 have F:j.heap[w.heap.size+1]? = some (.cells #[sv] 22):=by rw[<- b,<- t]; exact lZ _ _
 have v:j.heap.size=w.heap.size+2:=by rw[<- b]; simp[t]
 have y:Bw i j:=by rw[<- b]; exact bV _ _
 rw[b];obtain⟨g,d⟩:=eX (j.alloc (.cells #[.slice none 0 0] 167))
 have a3:g.heap[w.heap.size+2]? = some (.cells #[.slice none 0 0] 167):=by rw[<- d,<- v]; exact lZ _ _
 have z:g.heap.size=w.heap.size+3:=by rw[<- d]; simp[v]
 have A:Bw j g:=by rw[<- d]; exact bV _ _
 rw[d];have r:=MapAt.fresh Tryz.prog 192 3 nk g;rw[z]at r;obtain⟨p,e⟩:=eX (g.alloc (.map #[] 0))
 have B:p.heap.size=w.heap.size+4:=by rw[<- e]; simp[z]
 have C:Bw g p:=by rw[<- e]; exact bV _ _
 rw[e]at r;rw[e];obtain⟨f,q⟩:=eX (p.alloc (.cells #[.map (some (w.heap.size+1+1+1))] 191))
 have a5:f.heap[w.heap.size+4]? = some (.cells #[.map (some (w.heap.size+3))] 191):=by rw[<- q,<- B]; exact lZ _ _
 have G:f.heap.size=w.heap.size+5:=by rw[<- q]; simp[B]
 have H:Bw p f:=by rw[<- q]; exact bV _ _
 rw[q];have k:=H;have l:Bw g f:=C.trans (k.mono C.size);have m:Bw j f:=A.trans (l.mono A.size);have o:Bw i f:=y.trans (m.mono y.size);have s:Bw w f:=u.trans (o.mono u.size);have D:f.heap[w.heap.size+2]? = some (.cells #[.slice none 0 0] 167):=(l.block _ (by omega)).trans a3;refine⟨⟨Je D rfl,rW D 0,ZA _ _ _ _,fun _ h=>by simp at h,fun _ h=>by simp at h,List.Pairwise.nil,by omega⟩,r.keep (k.block _ (by omega)),Je ((o.block _ (by omega)).trans E) rfl,Je ((m.block _ (by omega)).trans F) rfl,Je a5 rfl,s,G⟩
end
section
open Go.Maps Go.WideMaps
theorem iL{xs:List Value}(h:A.ownsRow base e 1 v n xs):∃ b a,v=.slice b n a:=by
 rcases h.2 with⟨rfl,h0⟩ | ⟨g',a,cur,rfl,_⟩
 ·subst h0;exact⟨_,_,rfl⟩
 ·exact⟨_,_,rfl⟩
theorem nD{xs:List Value}(h:A.ownsRow base e 1 v n xs)(hi:i<n):∃ g a,v=.slice (some (aD g 0)) n a/\A.cell? (aD g i)=xs[i]?:=by
 have d:xs.length=n*1:=h.1;rcases h.2 with⟨rfl,h0⟩ | ⟨g',a,cur,rfl,_,hg,h1,h2,h3,h4⟩
 ·omega
 ·refine⟨g',a,rfl,?_⟩;have b:xs[i]? = (cur.toList.take (n*1))[i]?:=by rw[h4]
  rw[b,QP (by omega)];simp[World.cell?,hg]
theorem acn{k:List Int}(h:jr ks k=some i):∃ a:i<ks.length,ks[i]=k:=by
 unfold jr at h;rw[List.findIdx?_eq_some_iff_getElem]at h;obtain⟨a,b,_⟩:=h;exact⟨a,Xk b⟩
theorem Ob(h:∀ v∈row,dC v):∀ v∈au row cols,dC v:=by
 intro v a;unfold au at a;obtain⟨c,_,rfl⟩:=ZU.1 a;exact jy h _
theorem aco{gs:List gP}(hf:gs.map gP.gr=pre.foldl (fun a x=>stepG kc sc a x.xs) (eu kc sc))(hi:jr (gs.map (·.k.xs)) (au x.xs kc)=some i) :
  (gs.modify i (gP.bump x.xs sc)).map gP.gr=(pre++[x]).foldl (fun a x=>stepG kc sc a x.xs) (eu kc sc):=by
 rw[ZZ,<- hf]
 show _=stepG kc sc (gs.map gP.gr) x.xs
 unfold stepG;have e:(gs.map gP.gr).map Gr.key=gs.map (·.k.xs):=by rw[Xv]; rfl
 rw[e,hi];simp only;apply XK (by simp);intro j b d;rw[XM,XN,XN,XM];split <;> rfl
theorem Yf{gs:List gP}(hf:gs.map gP.gr=pre.foldl (fun a x=>stepG kc sc a x.xs) (eu kc sc))(hi:jr (gs.map (·.k.xs)) (au x.xs kc)=none){g:gP}(hg:g.gr=oV (au x.xs kc) sc.length) :
  ((gs++[g]).modify gs.length (gP.bump x.xs sc)).map gP.gr=(pre++[x]).foldl (fun a x=>stepG kc sc a x.xs) (eu kc sc):=by
 rw[ZZ,<- hf]
 show _=stepG kc sc (gs.map gP.gr) x.xs
 unfold stepG;have e:(gs.map gP.gr).map Gr.key=gs.map (·.k.xs):=by rw[Xv]; rfl
 rw[e,hi];simp only;have f:(gs++[g]).modify gs.length (gP.bump x.xs sc)=gs++[g.bump x.xs sc]:=by
  apply XK (by simp);intro j l i;rw[XN];by_cases d:j<gs.length
  ·rw[Qv (by omega),XV d,XV d]
  ·have b:j=gs.length:=by simp at i; omega
   subst b;simp
 rw[f,Qn,List.map_singleton];congr 2
 show (⟨g.k.xs,g.cnt+1,jV g.ss x.xs sc⟩:Gr)=rO x.xs sc _
 rw[<- hg];rfl
theorem Tu(W:World)(nk bm n:Nat)(ks:List (List Int))(hM:MapAt Tryz.prog 192 3 nk bm n ks W)(vals:List Int)(hvl:vals.length=nk)(h4:nk<=4)(hn:n<2000000)(hkl:ks.length<=2000000)(hsm:∀ v∈vals,dC v) :
  (∀ i,jr ks vals=some i->(Instr.lookup 191 (.map (some bm)) (om vals) true).run Tryz.prog W=.ok (.tuple #[.int .i64 i,.bool true]) W)/\
  (jr ks vals=none->(Instr.lookup 191 (.map (some bm)) (om vals) true).run Tryz.prog W=.ok (.tuple #[.int .i64 0,.bool false]) W/\
   ∃ k,(Instr.mapUpdate 191 (.map (some bm)) (om vals) (.int .i64 ks.length)).run Tryz.prog W=.ok () k/\MapAt Tryz.prog 192 3 nk bm (n+1) (ks++[vals]) k/\W.grownBy k (some bm)):=by
 obtain⟨D,f,p⟩:=hM;obtain⟨q,b⟩:=Eg (xs:=vals) Tryz.Tq Tryz.underlying3 Tryz.IW hsm;have o:=p vals q hvl b;obtain⟨v,ps,g,r⟩:=f.look_ok Tryz.uE Tryz.underlying191 (Tryz.afu W) (plainElem_int (H:=Unit) Tryz.underlying3 (a:=0) rfl) b;obtain⟨c,rfl,s,_⟩:=plainElem_int_inv Tryz.underlying3 r;have d:D.atKey q (.lit (.int .i64 0))=.lit (.int .i64 c):=congrArg Prod.fst s;refine⟨fun i m=>?_,fun m=>⟨?_,?_⟩⟩
 ·obtain⟨l,t⟩:=o.hit i m;rw[t]at d;simp only[DataW.lit.injEq,Lit.int.injEq,true_and]at d;have e:(i:Int)=c:=d;rw[g,l,e]
 ·have l:=o.miss m;rw[atKey_of_not_has l]at d;simp only[DataW.lit.injEq,Lit.int.injEq,true_and]at d;have e:(0:Int)=c:=d;rw[g,l,<- e]
 ·obtain⟨k,u,j,w⟩:=f.update Tryz.uE Tryz.underlying191 (by unfold maxLen; omega) b (plainElem_int (H:=Unit) Tryz.underlying3 (a:=(ks.length:Int)) (WalkArith.wf_i64 (by omega)));exact⟨k,u,MapAt.put Tryz.uE p f.isMap h4 hvl b m j,w⟩
end
theorem Ex(c:ak)(ao:Option Addr)(cap:Nat)(xs:List Int)(w:World)(hx:aI w ao xs)(hop:c.op=0∨c.op=1∨c.op=2)(hl:0<=c.left/\c.left<xs.length)(hr:c.op=2∨c.const=true∨(0<=c.right/\c.right<xs.length)) :
  Cb 144 #[c.val,.slice ao xs.length cap] w (.int .i64 (dM c.op (xs.getD c.left.toNat 0) (if c.op=2∨c.const=true then c.right else xs.getD c.right.toNat 0)+1)):=by
 have u:=hx.1;obtain⟨b,off,rfl,m⟩:=hx.get (i:=c.left.toNat) (by omega);have q:=xB (m c.left.toNat (by omega));obtain⟨v,op,left,j,right⟩:=c;unfold ak.val;simp only at hop hl hr q;simp only;generalize p:xs.getD left.toNat 0=L at *;rcases hop with rfl | rfl | rfl
 ·cases j
  ·have r:0<=right/\right<xs.length:=by
    rcases hr with h | h | h
    ·omega
    ·cases h
    ·exact h
   have s:=xB (m right.toNat (by omega));have e:(if (0:Int)=2∨false=true then right else xs.getD right.toNat 0)=xs.getD right.toNat 0:=Qv (by simp);rw[e];clear e hr m hx p;generalize xs.getD right.toNat 0=Q at *;generalize a:dM 0 L Q+1=R;by_cases f:L=1073741824
   ·have l:(L==1073741824)=true:=by simpa using f
    have d:Hid ((1:Int)=R):=show _=_ by rw[<- a]; simp[dM,f]
    clear a;go_enter Tryz.func144,Tryz.ntmps144;go_wp2;go_ret;exact⟨Qc d.o,bV _ _⟩
   ·have l:(L==1073741824)=false:=by simpa using f
    by_cases g:Q=1073741824
    ·have n:(Q==1073741824)=true:=by simpa using g
     have d:Hid ((1:Int)=R):=show _=_ by rw[<- a]; simp[dM,g]
     clear a;go_enter Tryz.func144,Tryz.ntmps144;go_wp2;go_ret;exact⟨Qc d.o,bV _ _⟩
    ·have n:(Q==1073741824)=false:=by simpa using g
     by_cases k:L=Q
     ·have t:(L==Q)=true:=by simpa using k
      have d:Hid ((2:Int)=R):=show _=_ by rw[<- a]; simp[dM,f,g,k]
      clear a;go_enter Tryz.func144,Tryz.ntmps144;go_wp2;go_ret;exact⟨Qc d.o,bV _ _⟩
     ·have t:(L==Q)=false:=by simpa using k
      have d:Hid ((0:Int)=R):=show _=_ by rw[<- a]; simp[dM,f,g,k]
      clear a;go_enter Tryz.func144,Tryz.ntmps144;go_wp2;go_ret;exact⟨Qc d.o,bV _ _⟩
  ·have e:(if (0:Int)=2∨true=true then right else xs.getD right.toNat 0)=right:=Qu (by simp);rw[e];clear e hr m hx p;generalize a:dM 0 L right+1=R;by_cases f:L=1073741824
   ·have l:(L==1073741824)=true:=by simpa using f
    have d:Hid ((1:Int)=R):=show _=_ by rw[<- a]; simp[dM,f]
    clear a;go_enter Tryz.func144,Tryz.ntmps144;go_wp2;go_ret;exact⟨Qc d.o,bV _ _⟩
   ·have l:(L==1073741824)=false:=by simpa using f
    by_cases g:right=1073741824
    ·have n:(right==1073741824)=true:=by simpa using g
     have d:Hid ((1:Int)=R):=show _=_ by rw[<- a]; simp[dM,g]
     clear a;go_enter Tryz.func144,Tryz.ntmps144;go_wp2;go_ret;exact⟨Qc d.o,bV _ _⟩
    ·have n:(right==1073741824)=false:=by simpa using g
     by_cases k:L=right
     ·have t:(L==right)=true:=by simpa using k
      have d:Hid ((2:Int)=R):=show _=_ by rw[<- a]; simp[dM,f,g,k]
      clear a;go_enter Tryz.func144,Tryz.ntmps144;go_wp2;go_ret;exact⟨Qc d.o,bV _ _⟩
     ·have t:(L==right)=false:=by simpa using k
      have d:Hid ((0:Int)=R):=show _=_ by rw[<- a]; simp[dM,f,g,k]
      clear a;go_enter Tryz.func144,Tryz.ntmps144;go_wp2;go_ret;exact⟨Qc d.o,bV _ _⟩
 ·cases j
  ·have r:0<=right/\right<xs.length:=by
    rcases hr with h | h | h
    ·omega
    ·cases h
    ·exact h
   have s:=xB (m right.toNat (by omega));have e:(if (1:Int)=2∨false=true then right else xs.getD right.toNat 0)=xs.getD right.toNat 0:=Qv (by simp);rw[e];clear e hr m hx p;generalize xs.getD right.toNat 0=Q at *;generalize a:dM 1 L Q+1=R;by_cases f:L=1073741824
   ·have l:(L==1073741824)=true:=by simpa using f
    have d:Hid ((1:Int)=R):=show _=_ by rw[<- a]; simp[dM,f]
    clear a;go_enter Tryz.func144,Tryz.ntmps144;go_wp2;go_ret;exact⟨Qc d.o,bV _ _⟩
   ·have l:(L==1073741824)=false:=by simpa using f
    by_cases g:Q=1073741824
    ·have n:(Q==1073741824)=true:=by simpa using g
     have d:Hid ((1:Int)=R):=show _=_ by rw[<- a]; simp[dM,g]
     clear a;go_enter Tryz.func144,Tryz.ntmps144;go_wp2;go_ret;exact⟨Qc d.o,bV _ _⟩
    ·have n:(Q==1073741824)=false:=by simpa using g
     by_cases k:L<Q
     ·have d:Hid ((2:Int)=R):=show _=_ by rw[<- a]; simp[dM,f,g,k]
      clear a;go_enter Tryz.func144,Tryz.ntmps144;go_wp2;go_ret;exact⟨Qc d.o,bV _ _⟩
     ·have d:Hid ((0:Int)=R):=show _=_ by rw[<- a]; simp[dM,f,g,k]
      clear a;go_enter Tryz.func144,Tryz.ntmps144;go_wp2;go_ret;exact⟨Qc d.o,bV _ _⟩
  ·have e:(if (1:Int)=2∨true=true then right else xs.getD right.toNat 0)=right:=Qu (by simp);rw[e];clear e hr m hx p;generalize a:dM 1 L right+1=R;by_cases f:L=1073741824
   ·have l:(L==1073741824)=true:=by simpa using f
    have d:Hid ((1:Int)=R):=show _=_ by rw[<- a]; simp[dM,f]
    clear a;go_enter Tryz.func144,Tryz.ntmps144;go_wp2;go_ret;exact⟨Qc d.o,bV _ _⟩
   ·have l:(L==1073741824)=false:=by simpa using f
    by_cases g:right=1073741824
    ·have n:(right==1073741824)=true:=by simpa using g
     have d:Hid ((1:Int)=R):=show _=_ by rw[<- a]; simp[dM,g]
     clear a;go_enter Tryz.func144,Tryz.ntmps144;go_wp2;go_ret;exact⟨Qc d.o,bV _ _⟩
    ·have n:(right==1073741824)=false:=by simpa using g
     by_cases k:L<right
     ·have d:Hid ((2:Int)=R):=show _=_ by rw[<- a]; simp[dM,f,g,k]
      clear a;go_enter Tryz.func144,Tryz.ntmps144;go_wp2;go_ret;exact⟨Qc d.o,bV _ _⟩
     ·have d:Hid ((0:Int)=R):=show _=_ by rw[<- a]; simp[dM,f,g,k]
      clear a;go_enter Tryz.func144,Tryz.ntmps144;go_wp2;go_ret;exact⟨Qc d.o,bV _ _⟩
 ·have e:(if (2:Int)=2∨j=true then right else xs.getD right.toNat 0)=right:=Qu (by simp);rw[e];clear e hr m hx p;generalize a:dM 2 L right+1=R;by_cases f:L=1073741824
  ·have l:(L==1073741824)=true:=by simpa using f
   have d:Hid ((2:Int)=R):=show _=_ by rw[<- a]; simp[dM,f]
   clear a;go_enter Tryz.func144,Tryz.ntmps144;go_wp2;go_ret;exact⟨Qc d.o,bV _ _⟩
  ·have l:(L==1073741824)=false:=by simpa using f
   have d:Hid ((0:Int)=R):=show _=_ by rw[<- a]; simp[dM,f]
   clear a;go_enter Tryz.func144,Tryz.ntmps144;go_wp2;go_ret;exact⟨Qc d.o,bV _ _⟩
theorem TE(c:ak)(xs:List Int):fT c xs=if c.not then -(dM c.op (xs.getD c.left.toNat 0) (if c.op=2∨c.const=true then c.right else xs.getD c.right.toNat 0)) else dM c.op (xs.getD c.left.toNat 0) (if c.op=2∨c.const=true then c.right else xs.getD c.right.toNat 0):=rfl
theorem TF(hk:k<ls.length)(h:jK (ls.getD k lz).cs xs=false):false=dK ls xs:=by
 symm;unfold dK;rw[Qj];have e:ls.getD k lz=ls[k]:=by simp[List.getD,hk]
 refine⟨ls[k],Qk hk,?_⟩;rw[e]at h;rw[h];simp
theorem Ow(hk:k<ls.length)(hp:dK (ls.take k) xs=true)(h:jK (ls.getD k lz).cs xs=true):dK (ls.take (k+1)) xs=true:=by
 unfold dK at *;have e:ls.getD k lz=ls[k]:=by simp[List.getD,hk]
 rw[e]at h;rw[Qm hk,List.all_append,hp,XE,List.all_nil,h];rfl
theorem Ga(c:ak)(ao:Option Addr)(cap:Nat)(xs:List Int)(w:World)(hx:aI w ao xs)(hop:c.op=0∨c.op=1∨c.op=2)(hl:0<=c.left/\c.left<xs.length)(hr:c.op=2∨c.const=true∨(0<=c.right/\c.right<xs.length)) :
  Cb 114 #[c.val,.slice ao xs.length cap] w (.int .i64 (fT c xs+1)):=by
 have a:=bV w (.cells #[.bool c.not,.int .i64 c.op,.int .i64 c.left,.bool c.const,.int .i64 c.right] 77);have d:=Ex c ao cap xs _ (Qt a hx) hop hl hr;rw[TE];have g:=yU c.op (xs.getD c.left.toNat 0) (if c.op=2∨c.const=true then c.right else xs.getD c.right.toNat 0);generalize dM c.op (xs.getD c.left.toNat 0) (if c.op=2∨c.const=true then c.right else xs.getD c.right.toNat 0)=T at *;obtain⟨j,op,left,b,right⟩:=c;unfold ak.val at *;simp only at *;clear hop hl hr hx;have i:(w.alloc (.cells #[.bool j,.int .i64 op,.int .i64 left,.bool b,.int .i64 right] 77)).cell? (aD w.heap.size 0)=some (.bool j):=by simp
 have k:=Zh a;clear a;rcases g with rfl | rfl | rfl <;> cases j
 all_goals
  go_enter Tryz.func114,Tryz.ntmps114;go_wp2_with fail;refine d.mono ?_;rintro e m ⟨rfl,f⟩;have l:=cB f i;go_wp2;go_ret;exact⟨rfl,k.o.trans (f.mono (by simp))⟩
theorem Cn(c:az)(ao:Option Addr)(cap:Nat)(xs:List Int)(w:World)(hx:aI w ao xs)(hc:bH w c.ad c.cs)(hcs:∀ k,k<c.cs.length->df (c.cs.getD k cz) xs.length=true) :
  Cb 79 #[.agg #[c.val],.slice ao xs.length cap] w (.int .i64 (kg c.cs xs)):=by
 obtain⟨S,U,cs⟩:=c;unfold az.val;simp only at hc hcs;simp only;have g:=bV w (.cells #[.slice S cs.length U] 81);have D:=Zh g;have E:=hc.1;have F:Hid _:=hc;have G:Hid _:=hx;have H:=Zh hcs;clear hx hc hcs g;go_enter Tryz.func79,Tryz.ntmps79;go_wp2;go_loopw [5,11] (fun m i wr=>∃ k:Nat,k<=cs.length/\i=.int .i64 k/\m=.int .i64 (kg (cs.take k) xs)/\Bw w wr) (fun _ i _=>cs.length-(intOf i).toNat)
 case atStart=>exact⟨0,Zf _,rfl,rfl,D.o⟩
 case round=>
  obtain⟨k,V,rfl,rfl,a⟩:=hrel;by_cases f:k<cs.length
  ·obtain⟨W,X,rfl,t,u,v,y,z⟩:=F.o.2 k f;have I:=cB a t;have J:=cB a u;have K:=cB a v;have L:=cB a y;have N:=cB a z;obtain⟨A,B,C⟩:=Nl (H.o k f);have O:=Zh (Kh (xs:=xs) f);have P:=wK (cs.take k) xs;have Q:=rM (cs.getD k cz) xs;have n:=a.size;generalize cs.getD k cz=cc at *;have d:=bV wr (.cells #[.bool cc.not,.int .i64 cc.op,.int .i64 cc.left,.bool cc.const,.int .i64 cc.right] 77);have b:=Ga cc ao cap xs _ (Qt d (Qt a G.o)) A B C;generalize fT cc xs=T at *;generalize kg (cs.take k) xs=M at *;have R:=Zh d;obtain⟨Y,op,left,s,right⟩:=cc;unfold ak.val at b;simp only at *;clear t u v y z A B C d;have p:max M (T+1)=if M<T+1 then T+1 else M:=by omega
   go_wp2_with fail;refine b.mono ?_;rintro e Z ⟨rfl,l⟩;have j:=a.trans ((R.o.trans (l.mono (by simp))).mono n);have q:=Zh j;clear j l b a I J K L N;go_wp2;go_roundw
   case rel=>exact⟨k+1,by omega,by go_num,by rw[O.o,p],q.o⟩
   case measure=>simp[intOf]; omega
  ·have r:k=cs.length:=by omega
   subst r;rw[Qw];go_wp2;go_ret;exact⟨rfl,a⟩
theorem I7(bE:Option Addr)(aF:Nat)(wh:List az)(ao:Option Addr)(cap:Nat)(xs:List Int)(w:World)(hx:aI w ao xs)(hq:bX w bE wh)
  (hcs:∀ i,i<wh.length->∀ k,k<(wh.getD i lz).cs.length->df ((wh.getD i lz).cs.getD k cz) xs.length=true) :
  Cb 49 #[.slice bE wh.length aF,.slice ao xs.length cap] w (.bool (dK wh xs)):=by
 have C:=hq.1;have A:Hid _:=hq;have D:Hid _:=hx;have E:=Zh hcs;clear hx hq hcs;go_enter Tryz.func49,Tryz.ntmps49;go_wp2;go_loopw [9] (fun i wr=>∃ k:Nat,k<=wh.length/\i=.int .i64 k/\Hid (dK (wh.take k) xs=true)/\Bw w wr) (fun i _=>wh.length-(intOf i).toNat)
 case atStart=>exact⟨0,Zf _,rfl,rfl,Qr _ _⟩
 case round=>
  obtain⟨k,K,rfl,s,b⟩:=hrel;by_cases d:k<wh.length
  ·obtain⟨L,N,rfl,r⟩:=A.o.2.1.get d;have l:=cB b (r _ d);have m:=A.o.2.2 k d;have n:=E.o k d;have F:Hid (jK (wh.getD k lz).cs xs=false->false=dK wh xs):=fun h=>TF d h
   have G:Hid (jK (wh.getD k lz).cs xs=true->dK (wh.take (k+1)) xs=true):=fun h=>Ow d s.o h
   have u:=b.size;generalize wh.getD k lz=cl at *;have p:=bV wr (.cells #[cl.val] 81);have g:=b.trans (p.mono u);have a:=Cn cl ao cap xs _ (Qt g D.o) (m.below g) n;have q:=Ki cl.cs xs;have H:=wK cl.cs xs;have B:=Zh g;obtain⟨O,P,cs⟩:=cl;unfold az.val at *;simp only at *;generalize kg cs xs=M at *;clear r m n p g;by_cases t:M=2
   ·have v:jK cs xs=true:=by rw[<- q,t]; rfl
    subst t;go_wp2_with fail;refine a.mono ?_;rintro e J ⟨rfl,f⟩;have j:=Zh (B.o.trans (f.mono (by simp; omega)));clear f a b l;go_wp2;go_roundw
    case rel=>exact⟨k+1,by omega,by go_num,G.o v,j.o⟩
    case measure=>simp[intOf]; omega
   ·have v:jK cs xs=false:=by rw[<- q]; simp[t]
    have I:(M != 2)=true:=by simpa using t
    go_wp2_with fail;refine a.mono ?_;rintro e J ⟨rfl,f⟩;have j:=Zh (B.o.trans (f.mono (by simp; omega)));clear f a b l;go_wp2;go_ret;exact⟨Qb (F.o v),j.o⟩
  ·have y:k=wh.length:=by omega
   subst y;rw[Qw]at s;have z:=Zh s.o.symm;clear s;go_wp2;go_ret;exact⟨Qb z.o,b⟩
theorem acy(q:ae)(bq:Nat)(ao:Option Addr)(cap:Nat)(xs:List Int)(w:World)(hc:w.cell? (aD bq 1)=some (.slice q.bE q.wh.length q.aF))(hx:aI w ao xs)(hq:bX w q.bE q.wh)
  (hcs:∀ i,i<q.wh.length->∀ k,k<(q.wh.getD i lz).cs.length->df ((q.wh.getD i lz).cs.getD k cz) xs.length=true) :
  Cb 48 #[.slice ao xs.length cap,.pointer (some (aD bq 0))] w (.bool (dK q.wh xs)):=by
 have a:=I7 q.bE q.aF q.wh ao cap xs w hx hq hcs;go_enter Tryz.func48,Tryz.ntmps48;go_wp2_with fail;refine a.mono ?_;rintro e d ⟨rfl,b⟩;go_wp2;go_ret;exact⟨rfl,b⟩
