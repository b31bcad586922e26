import Derived.Deep.RegionHeld
import Derived.WalkKit
import Derived.Deep.QuietTactic
import Derived.BigQuiet
import Derived.WalkSmall
import Derived.Laws.CopyOwn
import Derived.Deep.OwnRows
import Derived.Laws.BitsAllLaws
import Derived.RangeFuncRecord
import Derived.RangeFuncBound
import Derived.RangeFuncCalls
import Derived.RangeFuncLeaves
import Derived.Below
import Derived.RangeFuncNested
import Derived.Shelf.Abstract
import Derived.OwnWalkIn
import Derived.TacticsInMore
import Derived.LoopNIn
import Derived.LoopIn
import Derived.Test.YtjndadibondgbaaGreatDoorProg
import Derived.Maps.OwnIn
import Derived.Maps.AppendAt
import Derived.OwnWalk
import Derived.Shelf.Spec.SlicesGrow
import Derived.Laws.AppendOwnNone
import Derived.Shelf.RegionOpen
import Derived.Deep.AppendLies
import Derived.RegionTactic
import Derived.Deep.Cut
import Derived.Deep.RegionHeld3
import Derived.Deep.RegionLaw
import Derived.Deep.DrawnRows
import Derived.Laws.ShiftsVarLaws
import Derived.Shelf.Bits.Mul64
import Derived.Shelf.Strconv.Itoa0
import Derived.OrdersHeld
import Derived.Deep.CutRange
import Derived.Laws.ResultCell
import Derived.Laws.MakeOwn
import Derived.RegionCalls
import Derived.WideKeyPair
import Derived.Maps.Views
import Derived.Sort.CutIn
import Derived.BigRegion
import Derived.BigGuard
import Derived.Maps.OwnSet
import Derived.Laws.Append
set_option linter.all false
set_option maxRecDepth 100000
set_option maxHeartbeats 16000000
namespace Go.RowKit
theorem Hid.o{p:Prop}(h:Hid p):p:=h
end Go.RowKit
namespace Go
theorem Shut.o{p:Prop}(h:Shut p):p:=h
end Go
namespace Go.Proofs.Zz
open Go.RowKit Go.Shelf
variable {α:Type} {P:Program} {ops:Array Oper} {Q:Exit->Act->World->Prop} {md:Region.Mode} {S:World->Prop} {G b b0 b1 b2 b3 b4 b5 b6 fuel i k o0 o1 o2 o3 o4 o5 o6 tG:Nat} {listed:Array Bool} {a:Act} {W w w' w1 w2 x:World} {oi:Oper} {n:Int} {xs:List Int} {v v0 v1 v10 v11 v12 v2 v3 v4 v5 v6 v7 v8 v9:Value} {t:TypeId} {c:Array Value} {p:Prop} {K' X:Act->World->Prop} {bs:List (Nat × Obj)}
theorem eX(a:α):∃ z,a=z:=⟨a,rfl⟩
theorem eY(a:α):∃ z,z=a:=⟨a,rfl⟩
@[reducible] def Bw (w x:World):Prop:=RowKit.Below w.heap.size w x
def Qa:=@Go.AllReadyH.cons
def Qf:=@decide_eq_false_iff_not
def Qg:=@decide_eq_false
def Qh:=@Bool.false_and
def Qi:=@Bool.and_false
def Qj:=@List.all_eq_false.{0}
def Qk:=@List.getElem_mem.{0}
def Ql:=@Nat.lt_or_ge
def Qm:=@List.take_succ_eq_append_getElem.{0}
def Qn:=@List.map_append.{0,0}
def Qo:=@Bool.and_eq_true
def Qp:=@List.all_eq_true.{0}
def Qr:=@Go.RowKit.Below.refl
def Qs:=@Nat.le_refl
def Qu:=@if_pos.{1}
def Qv:=@if_neg.{1}
def Qw:=@List.take_length.{0}
def Qx:=@List.getElem_of_mem.{0}
def Qy:=@decide_eq_true
def Qz:=@Bool.true_and
def QD:=@Bool.eq_iff_iff
def QE:=@decide_eq_true_eq
def QF:=@List.eq_nil_of_length_eq_zero.{0}
def QG:=@List.flatMap_cons.{0,0}
def QH:=@List.append_assoc.{0}
def QI:=@Nat.zero_mul
def QJ:=@Nat.zero_add
def QK:=@List.getElem?_append_left.{0}
def QL:=@List.getElem?_append_right.{0}
def QO:=@Array.getElem?_eq_some_iff.{0}
def QP:=@List.getElem?_take_of_lt.{0}
def QQ:=@Go.wp_region_held_drew
def QS:=@Nat.le_trans
def QT:=@Nat.lt_of_lt_of_le
def QW:=@Go.World.putObj_heap_other
def QY:=@Go.World.size_alloc
def QZ:=@Go.callsIn_wide
def Q0:=@Go.World.putObj_size
def Q4:=@Go.World.cell?_of_block
def Q5:=@Go.Oper.semAt_some
def Q6:=@List.size_toArray.{0}
def Q7:=@List.length_cons.{0}
def Q8:=@List.length_nil.{0}
def Q9:=@Array.replicate_succ.{0}
def Za:=@Array.replicate_zero.{0}
def Zb:=@List.push_toArray.{0}
def Zc:=@List.append_toArray.{0}
def Zd:=@List.nil_append.{0}
def Ze:=@List.cons_append.{0}
def Zf:=@Nat.zero_le
def Zg:=@List.filter_map.{0,0}
def Zi:=@List.filter_append.{0}
def Zk:=@Go.callsIn_of_wp_marks
def Zl:=@Go.CallsIn.inRound
def Zm:=@Go.run_takeDeferred
def Zt:=@Go.World.frozen?_of_block
def Zu:=@List.pairwise_append.{0}
def Zv:=@List.pairwise_singleton.{0}
def Zw:=@List.mem_singleton.{0}
def Zx:=@List.mem_append.{0}
def Zy:=@Go.info_parts
def ZA:=@Go.World.ownsRow_nil
def ZB:=@List.length_map.{0,0}
def ZC:=@List.length_append.{0}
def ZF:=@Go.below_drewN
def ZK:=@List.getElem?_toArray.{0}
def ZL:=@List.getElem?_cons_succ.{0}
def ZM:=@List.getElem?_cons_zero.{0}
def ZN:=@Go.bodyPost_ret
def ZO:=@Go.results_cell_row
def ZQ:=@List.take_append_drop.{0}
def ZR:=@List.getElem?_map.{0,0}
def ZT:=@List.getElem?_eq_getElem.{0}
def ZU:=@List.mem_map.{0,0}
def ZW:=@List.getElem?_take.{0}
def ZX:=@List.length_singleton.{0}
def ZY:=@Int.toNat_natCast
def ZZ:=@List.foldl_append.{0,0}
def Z0:=@List.foldl_cons.{0,0}
def Z4:=@Bool.or_eq_true
def Z5:=@List.mem_cons.{0}
def Z7:=@Nat.pow_le_pow_right
def Z8:=@List.sum_cons.{0}
def Z9:=@Nat.one_mul
def Xa:=@List.range_succ
def Xb:=@List.flatMap_append.{0,0}
def Xd:=@List.length_range
def Xg:=@Nat.add_zero
def Xj:=@Int.toNat_of_nonneg
def Xk:=@of_decide_eq_true
def Xl:=@List.mem_filter.{0}
def Xm:=@List.mem_range
def Xo:=@List.filter_cons_of_neg.{0}
def Xq:=@Nat.add_sub_cancel
def Xr:=@List.mem_flatMap.{0,0}
def Xt:=@List.pairwise_iff_getElem.{0}
def Xu:=@Bool.not_eq_true'
def Xv:=@List.map_map.{0,0,0}
def Xw:=@List.map_congr_left.{0,0}
def Xx:=@List.nodup_nil.{0}
def Xy:=@List.length_eq_zero_iff.{0}
def Xz:=@Bool.and_true
def XA:=@List.getElem?_eq_none.{0}
def XB:=@List.append_nil.{0}
def XC:=@List.Perm.refl.{0}
def XD:=@List.pairwise_cons.{0}
def XE:=@List.all_cons.{0}
def XF:=@List.length_take.{0}
def XG:=@Or.inl
def XH:=@List.map_cons.{0,0}
def XI:=@List.drop_eq_getElem_cons.{0}
def XJ:=@List.filter_eq_nil_iff.{0}
def XK:=@List.ext_getElem.{0}
def XM:=@List.getElem_map.{0,0}
def XN:=@List.getElem_modify.{0}
def XO:=@List.filter_cons_of_pos.{0}
def XP:=@List.filter_congr.{0}
def XQ:=@List.length_filter_le.{0}
def XT:=@List.idxOf_lt_length_iff.{0}
def XU:=@beq_eq_false_iff_ne.{0}
def XV:=@List.getElem_append_left.{0}
def XW:=@List.mem_of_mem_take.{0}
def XX:=@And.intro
def XY:=@Go.wpQuiet_nil
def XZ:=@Nat.sub_self
def X0:=@List.take_of_length_le.{0}
def X6:=@Go.run_append_own_at
def X7:=@Go.World.news_of_block
def Ja:=@List.getD_eq_getElem?_getD.{0}
def Jd:=@List.length_replicate.{0}
def Jf:=@List.length_modify.{0}
def Jg:=@Nat.pow_lt_pow_right
def Jh:=@Int.eq_ofNat_of_zero_le
def Jj:=@Go.Calls.mono
def Jl:=@Go.Proofs.enters_of
def Jm:=@Go.Calls.quiet_of
def Jn:=@Go.World.drewN_drewN
def Jp:=@Go.wpAnyIn_take
def Jq:=@Go.wpAnyIn_ready
def Jr:=@Go.AllReadyIn.cons
def Js:=@Go.AllReadyIn.nil
def Jt:=@Go.wpAnyIn_done
theorem wT(i:Nat)(v:Value)(hS:S w)(hy:∀ x,S x->(execOp a.eval oi).run P x=.ok (.value v) x)(h:wpAnyH P md ops Q S fuel (listed.setIfInBounds i true) (a.put oi.dst v) w)(hi:ops[i]? = some oi:=by exact rfl)(hs:Region.noSelect ops=true:=by kernel_rfl)(hf:Region.free md ops listed i=true:=by kernel_rfl)(hr:(Region.ready md ops listed).contains i=true:=by kernel_rfl)(hQ:∀ c a w,Q (.panic c) (a.put oi.dst v) w->Q (.panic c) a w:=by exact fun _ _ _ h=>h)(hg:Region.wanted oi (yielded ops a.tmps)=true:=by rfl):wpAnyH P md ops Q S (fuel+1) listed a w:=
 wpAnyH_take hi hs hf hr hQ (.inl ⟨hg,hy⟩) hS h
theorem wG(i:Nat)(v:Value)(hS:S w)(hy:∀ x,S x->(execOp a.eval oi).run P x=.ok (.value v) x)(h:wpAnyH P md ops Q S fuel (listed.setIfInBounds i true) (a.put oi.dst v) w)(hi:ops[i]? = some oi:=by exact rfl)(hs:Region.noSelect ops=true:=by kernel_rfl)(hf:Region.free md ops listed i=true:=by kernel_rfl)(hr:(Region.ready md ops listed).contains i=true:=by kernel_rfl)(hQ:∀ c a w,Q (.panic c) (a.put oi.dst v) w->Q (.panic c) a w:=by exact fun _ _ _ h=>h)(hg:Region.wanted oi (yielded ops a.tmps)=true:=by kernel_rfl):wpAnyH P md ops Q S (fuel+1) listed a w:=
 wpAnyH_take hi hs hf hr hQ (.inl ⟨hg,hy⟩) hS h
theorem wV(i:Nat)(hS:S w)(h:wpAnyH P md ops Q S fuel (listed.setIfInBounds i true) (a.put oi.dst undef) w)(hi:ops[i]? = some oi:=by exact rfl)(hs:Region.noSelect ops=true:=by kernel_rfl)(hf:Region.free md ops listed i=true:=by kernel_rfl)(hr:(Region.ready md ops listed).contains i=true:=by kernel_rfl)(hQ:∀ c a w,Q (.panic c) (a.put oi.dst undef) w->Q (.panic c) a w:=by exact fun _ _ _ h=>h)(hg:Region.wanted oi (yielded ops a.tmps)=false:=by rfl):wpAnyH P md ops Q S (fuel+1) listed a w:=
 wpAnyH_take hi hs hf hr hQ (.inr ⟨hg,rfl⟩) hS h
theorem wR(i:Nat)(h:∀ K':Act->World->Prop,Shut (∀ a w,S w->(S w->wpAnyH P md ops Q S fuel (listed.setIfInBounds i true) a w)->K' a w)->if Region.wanted oi (yielded ops a.tmps)=true then Oper.wp P oi a w K' Q else K' (a.put oi.dst undef) w)(hi:ops[i]? = some oi:=by exact rfl)(hr:Region.ready md ops listed=[i]:=by kernel_rfl):wpAnyH P md ops Q S (fuel+1) listed a w:=
 wpAnyH_ready hr (by simp) (Qa hi h AllReadyH.nil)
@[reducible] def aD (b o : Nat) : Addr := ⟨b, o, none⟩
theorem sB{α : Type}{x : α}{l : List α}{n : Nat}{a : α} : (x :: l).set (n + 1) a = x :: l.set n a := List.set_cons_succ
theorem sC{α : Type}{x : α}{l : List α}{a : α} : (x :: l).set 0 a = a :: l := List.set_cons_zero
theorem aa6{a b:Bool}(h:a=b):Ending.returned (.bool a)=.returned (.bool b):=by rw[h]
theorem aeP{k:IntKind}{a b:Int}(h:a=b):Ending.returned (.int k a)=.returned (.int k b):=by rw[h]
def fO(w:World)(ao:Option Addr)(n:Nat)(f:Nat->Value):Prop:=
 ∀ i,i<n->∃ b off,ao=some (aD b off)/\w.cell? (aD b (off+i))=some (f i)
theorem fO.get{w:World}{ao:Option Addr}{n:Nat}{f:Nat->Value}(h:fO w ao n f){i:Nat}(hi:i<n) :
  ∃ b off,ao=some (aD b off)/\∀ j,j<n->w.cell? (aD b (off+j))=some (f j):=by
 obtain⟨b,off,rfl,_⟩:=h i hi;refine⟨b,off,rfl,fun j g=>?_⟩;obtain⟨b',a,e,d⟩:=h j g
 cases e
 exact d
def aI(w:World)(ao:Option Addr)(xs:List Int):Prop:=
 xs.length<=1152921504606846976/\fO w ao xs.length (fun i=>.int .i64 (xs.getD i 0))
theorem aI.get{w:World}{ao:Option Addr}{xs:List Int}(h:aI w ao xs){i:Nat}(hi:i<xs.length) :
  ∃ b off,ao=some (aD b off)/\∀ j,j<xs.length->w.cell? (aD b (off+j))=some (.int .i64 (xs.getD j 0)):=
 fO.get h.2 hi
structure af where
 cols:Int
 rows:Int
 k0:Int
 k1:Int
 k2:Int
 k3:Int
def af.vals(t:af):Array Value:=#[.int .i64 t.cols,.int .i64 t.rows,.int .i64 t.k0,.int .i64 t.k1,.int .i64 t.k2,.int .i64 t.k3]
def tz:af:=⟨0,0,0,0,0,0⟩
def bu(w:World)(ao:Option Addr)(ts:List af):Prop:=
 ts.length<=192153584101141162/\∀ i,i<ts.length->∃ b off,ao=some (aD b off)/\
  w.cell? (aD b (off+i*6))=some (.int .i64 (ts.getD i tz).cols)/\w.cell? (aD b (off+i*6+1))=some (.int .i64 (ts.getD i tz).rows)/\
  w.cell? (aD b (off+i*6+2))=some (.int .i64 (ts.getD i tz).k0)/\w.cell? (aD b (off+i*6+3))=some (.int .i64 (ts.getD i tz).k1)/\
  w.cell? (aD b (off+i*6+4))=some (.int .i64 (ts.getD i tz).k2)/\w.cell? (aD b (off+i*6+5))=some (.int .i64 (ts.getD i tz).k3)
structure ak where
 not:Bool
 op:Int
 left:Int
 const:Bool
 right:Int
def cz:ak:=⟨false,0,0,false,0⟩
def ak.val(c:ak):Value:=.agg #[.bool c.not,.int .i64 c.op,.int .i64 c.left,.bool c.const,.int .i64 c.right]
def bH(w:World)(ao:Option Addr)(cs:List ak):Prop:=
 cs.length<=230584300921369395/\∀ i,i<cs.length->∃ b off,ao=some (aD b off)/\
  w.cell? (aD b (off+i*5))=some (.bool (cs.getD i cz).not)/\w.cell? (aD b (off+i*5+1))=some (.int .i64 (cs.getD i cz).op)/\
  w.cell? (aD b (off+i*5+2))=some (.int .i64 (cs.getD i cz).left)/\w.cell? (aD b (off+i*5+3))=some (.bool (cs.getD i cz).const)/\
  w.cell? (aD b (off+i*5+4))=some (.int .i64 (cs.getD i cz).right)
structure az where
 ad:Option Addr
 cap:Nat
 cs:List ak
def lz:az:=⟨none,0,[]⟩
def az.val(c:az):Value:=.slice c.ad c.cs.length c.cap
def bX(w:World)(ao:Option Addr)(ls:List az):Prop:=
 ls.length<=1152921504606846976/\fO w ao ls.length (fun i=>(ls.getD i lz).val)/\∀ i,i<ls.length->bH w (ls.getD i lz).ad (ls.getD i lz).cs
structure aa where
 ad:Option Addr
 cap:Nat
 xs:List Int
def aa.val(v:aa):Value:=.slice v.ad v.xs.length v.cap
def aa.At(v:aa)(w:World):Prop:=aI w v.ad v.xs
structure ae where
 src:aa
 bE:Option Addr
 aF:Nat
 wh:List az
 group:Bool
 keys:aa
 sums:aa
 aK:aa
 ord:aa
def ae.cells(q:ae):Array Value:=#[q.src.val,.slice q.bE q.wh.length q.aF,.bool q.group,q.keys.val,q.sums.val,q.aK.val,q.ord.val]
structure ae.At(q:ae)(w:World):Prop where
 src:q.src.At w
 wh:bX w q.bE q.wh
 keys:q.keys.At w
 sums:q.sums.At w
 aK:q.aK.At w
 ord:q.ord.At w
def aM(xs:List Int)(n:Int):Bool:=xs.all fun x=>decide (0<=x)&&decide (x<n)
def dJ(xs:List Int):Bool:=decide (∀ i,i<xs.length->∀ j,j<i->xs.getD i 0≠xs.getD j 0)
theorem Rx{j:Nat}(hi:i<xs.length)(hj:j<i)(h:xs.getD i 0=xs.getD j 0):false=dJ xs:=by
 symm;unfold dJ;rw[Qf];intro a;exact a i hi j hj h
theorem ME(h:∀ i,i<xs.length->∀ j,j<i->xs.getD i 0≠xs.getD j 0):true=dJ xs:=by
 symm;unfold dJ;rw[decide_eq_true_iff];exact h
def df(c:ak)(n:Int):Bool:=
 decide (0<=c.left)&&decide (c.left<n)&&decide (0<=c.op)&&decide (c.op<=2) &&
  (if c.op=2 then !c.const&&decide (c.right=0) else if c.const then decide (-1000<=c.right)&&decide (c.right<=1000) else decide (0<=c.right)&&decide (c.right<=n-1))
def oQ(group:Bool)(keys sums aK:List Int):Int:=if group then keys.length+1+sums.length else aK.length
def af.kd(t:af):Nat->Int
 | 0 => t.k0
 | 1 => t.k1
 | 2 => t.k2
 | _ => t.k3
theorem af.aeQ(wr:World)(t:af)(ty:TypeId)(m:Nat)(hm:m<4) :
  (wr.alloc (.cells #[.int .i64 t.cols,.int .i64 t.rows,.int .i64 t.k0,.int .i64 t.k1,.int .i64 t.k2,.int .i64 t.k3] ty)).cell? (aD wr.heap.size (2+m))=some (.int .i64 (t.kd m)):=by
 rcases (by omega:m=0∨m=1∨m=2∨m=3) with rfl | rfl | rfl | rfl <;> simp[af.kd]
def dX(t:af):Bool:=
 decide (1<=t.cols/\t.cols<=4/\0<=t.rows/\t.rows<=1000000/\∀ m,m<t.cols.toNat->1<=t.kd m/\t.kd m<=1000000)
theorem Ry{t:af}(h:t.cols<1∨4<t.cols∨t.rows<0∨1000000<t.rows):dX t=false:=by
 unfold dX;rw[Qf];omega
theorem MF{t:af}(m:Nat)(hm:m<t.cols.toNat)(h:t.kd m<1∨1000000<t.kd m):dX t=false:=by
 unfold dX;rw[Qf];intro a;have:=a.2.2.2.2 m hm;omega
theorem MG{t:af}(h1:1<=t.cols)(h2:t.cols<=4)(h3:0<=t.rows)(h4:t.rows<=1000000)(h:∀ m,m<t.cols.toNat->1<=t.kd m/\t.kd m<=1000000):dX t=true:=by
 unfold dX;rw[decide_eq_true_iff];exact⟨h1,h2,h3,h4,h⟩
def fo(ts:List af):Bool:=decide (1<=ts.length)&&decide (ts.length<=8)&&ts.all dX
theorem Rz{ts:List af}(h:ts.length<1):false=fo ts:=by
 unfold fo;have:decide (1<=ts.length)=false:=Qg (by omega);rw[this,Qh,Qh]
theorem VG{ts:List af}(h:8<ts.length):false=fo ts:=by
 unfold fo;have:decide (ts.length<=8)=false:=Qg (by omega);rw[this,Qi,Qh]
theorem aa7{ts:List af}(hk:k<ts.length)(h:dX (ts.getD k tz)=false):false=fo ts:=by
 unfold fo;symm;rw[Bool.and_eq_false_iff];right;rw[Qj];refine⟨ts[k],Qk hk,?_⟩;simp[List.getD,hk]at h;simp[h]
theorem lt_of_cell{o:Nat}(h:w.cell? (aD b o)=some v):b<w.heap.size:=by
 simp only[World.cell?]at h;rcases Ql b w.heap.size with a | a
 ·exact a
 ·simp[Array.getElem?_eq_none a]at h
def Qb:=@aa6
def Qc:=@aeP
def Qd:=@fO.get
def Qe:=@aI.get
def ai(ts:List af)(xs:List Int):Int:=(xs.map fun t=>(ts.getD t.toNat tz).cols).sum
theorem iJ(ts:List af)(xs:List Int)(k:Nat)(hk:k<xs.length):ai ts (xs.take (k+1))=ai ts (xs.take k)+(ts.getD xs[k].toNat tz).cols:=by
 unfold ai;rw[Qm hk,Qn,List.sum_append];simp
theorem kR{ts:List af}(hc:fo ts=true)(hi:i<ts.length):1<=(ts.getD i tz).cols/\(ts.getD i tz).cols<=4:=by
 unfold fo at hc;rw[Qo]at hc;have h:=Qp.1 hc.2 (ts.getD i tz) (by simp[List.getD,hi]);unfold dX at h;rw[decide_eq_true_iff]at h;exact⟨h.1,h.2.1⟩
theorem UR{xs:List Int}{n:Int}(h:aM xs n=true){k:Nat}(hk:k<xs.length):0<=xs[k]/\xs[k]<n:=by
 unfold aM at h;have:=Qp.1 h xs[k] (Qk hk)
 simpa using this
theorem jC{ts:List af}{xs:List Int}(hc:fo ts=true)(ha:aM xs ts.length=true):∀ k,k<=xs.length->0<=ai ts (xs.take k)/\ai ts (xs.take k)<=4*k
 | 0,_ => by simp[ai]
 | k+1,hk => by
  have ih:=jC hc ha k (by omega);rw[iJ ts xs k (by omega)];have h1:=UR ha (k:=k) (by omega);have h2:=kR hc (i:=(xs[k]'(by omega)).toNat) (by omega);omega
theorem xB{o:Nat}(h:w.cell? (aD b o)=some v)(x:Obj):(w.alloc x).cell? (aD b o)=some v:=
 (Below.cell ((Qr w.heap.size w).alloc (Qs _) x) (p:=(aD b o)) (lt_of_cell h)).trans h
def Qq:=@UR
theorem cB(hb:Bw w w'){o:Nat}(h:w.cell? (aD b o)=some v):w'.cell? (aD b o)=some v:=
 (hb.cell (p:=(aD b o)) (lt_of_cell h)).trans h
theorem fO.below{w w':World}(hb:Bw w w'){ao:Option Addr}{n:Nat}{f:Nat->Value}(h:fO w ao n f):fO w' ao n f:=fun i d=>by
 obtain⟨b,off,e,a⟩:=h i d;exact⟨b,off,e,cB hb a⟩
theorem aI.below{w w':World}(hb:Bw w w'){ao:Option Addr}{xs:List Int}(h:aI w ao xs):aI w' ao xs:=⟨h.1,h.2.below hb⟩
theorem bu.below{w w':World}(hb:Bw w w'){ao:Option Addr}{ts:List af}(h:bu w ao ts):bu w' ao ts:=⟨h.1,fun i l=>by
 obtain⟨b,off,e,a,d,f,g,j,k⟩:=h.2 i l;exact⟨b,off,e,cB hb a,cB hb d,cB hb f,cB hb g,cB hb j,cB hb k⟩⟩
theorem bH.below{w w':World}(hb:Bw w w'){ao:Option Addr}{cs:List ak}(h:bH w ao cs):bH w' ao cs:=⟨h.1,fun i k=>by
 obtain⟨b,off,e,a,d,f,g,j⟩:=h.2 i k;exact⟨b,off,e,cB hb a,cB hb d,cB hb f,cB hb g,cB hb j⟩⟩
theorem bX.below{w w':World}(hb:Bw w w'){ao:Option Addr}{ls:List az}(h:bX w ao ls):bX w' ao ls:=
 ⟨h.1,h.2.1.below hb,fun i a=>(h.2.2 i a).below hb⟩
theorem ae.At.below{w w':World}(hb:Bw w w'){q:ae}(h:q.At w):q.At w':=
 ⟨aI.below hb h.src,h.wh.below hb,aI.below hb h.keys,aI.below hb h.sums,aI.below hb h.aK,aI.below hb h.ord⟩
theorem bV(w:World)(o:Obj):Bw w (w.alloc o):=(Qr _ _).alloc (Qs _) o
theorem aC(h:Bw w w1)(k:Bw w1 w2):Bw w w2:=h.trans (k.mono h.size)
theorem yH(hb:Bw W w1):(∀ b o,b<W.heap.size->w1.cell? (aD b o)=W.cell? (aD b o)):=
 fun b o h=>hb.cell (p:=(aD b o)) h
def kS(src:List Int)(wh:List (List ak))(keys sums aK ord:List Int):Bool:=
 decide (5<src.length∨8<wh.length∨8<aK.length∨4<keys.length∨4<sums.length∨4<ord.length) || wh.any (fun c=>decide (3<c.length))
def iq(c:List ak)(n:Int):Bool:=decide (0<c.length)&&c.all (fun x=>df x n)
def dN(wh:List (List ak))(n:Int):Bool:=wh.all (fun c=>iq c n)
def sK(n:Int)(group:Bool)(keys sums aK ord:List Int):Bool:=
 aM aK n&&aM keys n&&aM sums n&&aM ord (oQ group keys sums aK)&&dJ keys&&dJ ord&&(group==decide (aK.length=0))&&(group || decide (keys.length+sums.length=0))
def checkN(ts:List af)(src:List Int)(wh:List (List ak))(group:Bool)(keys sums aK ord:List Int):Int:=
 if fo ts=false then 1
 else if kS src wh keys sums aK ord=true then 2
 else if aM src ts.length=true/\0<src.length/\dN wh (ai ts src)=true/\sK (ai ts src) group keys sums aK ord=true then 0
 else 3
def ae.oM(q:ae):List (List ak):=q.wh.map az.cs
def ae.check(q:ae)(ts:List af):Int:=checkN ts q.src.xs q.oM q.group q.keys.xs q.sums.xs q.aK.xs q.ord.xs
theorem ae.VH{q:ae}{ts:List af}(h:fo ts=false):(1:Int)=q.check ts:=by
 unfold ae.check checkN;rw[Qu h]
theorem ae.RD{q:ae}{ts:List af}(h:fo ts=true)(hf:kS q.src.xs q.oM q.keys.xs q.sums.xs q.aK.xs q.ord.xs=true):(2:Int)=q.check ts:=by
 unfold ae.check checkN;rw[Qv (by simp[h]),Qu hf]
def Bd(ls:List az)(k:Nat):Bool:=(ls.take k).any (fun c=>decide (3<c.cs.length))
theorem VI(q:ae):q.oM.any (fun c=>decide (3<c.length))=Bd q.wh q.wh.length:=by
 unfold Bd ae.oM;rw[Qw,List.any_map];rfl
theorem J2{q:ae}{n:Int}{k:Nat}(hk:k<q.wh.length)(h:iq (q.wh.getD k lz).cs n=false):dN q.oM n=false:=by
 unfold dN ae.oM;rw[List.all_map,Qj];refine⟨q.wh[k],Qk hk,?_⟩;simp[List.getD,hk]at h;simp[h]
theorem FJ{q:ae}{n:Int}(h:∀ k,k<q.wh.length->iq (q.wh.getD k lz).cs n=true):dN q.oM n=true:=by
 unfold dN ae.oM;rw[List.all_map,Qp];intro c b;obtain⟨k,a,rfl⟩:=Qx b;have:=h k a
 simpa [List.getD,a] using this
theorem J3{c:List ak}(h:¬ 0<c.length):iq c n=false:=by
 unfold iq;rw[Qg h,Qh]
theorem MH{c:List ak}(hk:k<c.length)(h:df (c.getD k cz) n=false):iq c n=false:=by
 unfold iq;have:c.all (fun x=>df x n)=false:=by
  rw[Qj];refine⟨c[k],Qk hk,?_⟩;simp[List.getD,hk]at h;simp[h]
 rw[this,Qi]
theorem J4{c:List ak}(h0:0<c.length)(h:∀ k,k<c.length->df (c.getD k cz) n=true):iq c n=true:=by
 unfold iq;rw[Qy h0,Qz,Qp];intro x b;obtain⟨k,a,rfl⟩:=Qx b;have:=h k a
 simpa [List.getD,a] using this
def Qt:=@aI.below
theorem BQ{P:Program}{id:Nat}{Q:Exit->Act->World->Prop}{a:Act}{w:World}{l:List Oper}(hm:P.follows .mixedOrders=true)(hB:Region.lexB .any l.toArray=true)
  (h:wpQuiet P l.toArray (fun x=>Bw w x) (fun b=>∀ x,Bw w x->Q .normal b x) l a):(Code.region id l.toArray true).wp P Q a w:=
 wp_region_quiet (C:=fun x=>Bw w x) hm hB (Qr _ _).drew (by simpa using h)
theorem Calls.within{P:Program}{f:FuncId}{args:Array Value}{w x:World}{v:Value}(hx:Bw w x)
  (h:Calls P f args x fun e w'=>e=.returned v/\Bw x w'):Calls P f args x fun e a=>e=.returned v/\Bw w a:=
 h.mono fun _ _ ⟨he,hb⟩=>⟨he,aC hx hb⟩
theorem Calls.MI{f:FuncId}{args:Array Value}(hx:Bw w x)
  (h:Calls P f args x fun e w'=>e=.returned v/\w' = x):Calls P f args x fun e a=>e=.returned v/\Bw w a:=
 h.mono fun _ _ ⟨he,hb⟩=>⟨he,by rw[hb]; exact hx⟩
section
variable {N:Int} {group:Bool} {keys sums aK ord:List Int}
theorem aeR:((aK.length:Int)==0)=decide (aK.length=0):=by
 rw[QD];simp
end
def foundAt(r:Int)(b:Bool):Prop:=-1<=r/\decide (0<=r)=b
theorem J5{p:α->Bool}{xs:List α}{z:α}(hk:k<xs.length)(h:p (xs.getD k z)=true):xs.any p=true:=by
 rw[List.any_eq_true];exact⟨xs[k],Qk hk,by simpa [List.getD,hk] using h⟩
theorem any_none{p:α->Bool}{xs:List α}{z:α}(h:∀ k,k<xs.length->p (xs.getD k z)=false):xs.any p=false:=by
 rw[List.any_eq_false];intro x b;obtain⟨k,a,rfl⟩:=Qx b;have:=h k a
 simpa [List.getD,a] using this
theorem aa8{ts:List af}(h1:¬ ts.length<1)(h8:¬ 8<ts.length):(!(ts.any fun t=>!dX t))=fo ts:=by
 unfold fo;rw[Qy (show 1<=ts.length by omega),Qy (show ts.length<=8 by omega),List.not_any_eq_all_not];simp
def Ah(x n:Int):Bool:=decide (0<=x)&&decide (x<n)
theorem aa9(xs:List Int)(n:Int):(!(xs.any fun x=>!Ah x n))=aM xs n:=by
 unfold aM Ah;rw[List.not_any_eq_all_not];simp
theorem aba(ls:List az):(ls.any fun c=>decide (3<c.cs.length))=Bd ls ls.length:=by
 unfold Bd;rw[Qw]
theorem ae.UT(q:ae):kS q.src.xs q.oM q.keys.xs q.sums.xs q.aK.xs q.ord.xs =
  (decide (5<q.src.xs.length∨8<q.wh.length∨8<q.aK.xs.length∨4<q.keys.xs.length∨4<q.sums.xs.length∨4<q.ord.xs.length) || Bd q.wh q.wh.length):=by
 unfold kS;rw[VI];simp[ae.oM]
theorem abb{c:ak}{n:Int}(h:Ah c.left n=false):false=df c n:=by
 refine(Bool.eq_false_iff.2 ?_).symm;intro a;simp only[df,Qo,QE]at a;simp only[Ah,Bool.and_eq_false_iff,Qf]at h;omega
theorem xC{c:ak}{n:Int}(h:Ah c.left n=true)(ho:c.op=0∨c.op=1)(hc:c.const=true):(decide (-1000<=c.right)&&decide (c.right<=1000))=df c n:=by
 simp only[Ah,Qo,QE]at h;unfold df;rw[Qv (by omega),Qu hc,Qy h.1,Qy h.2,Qy (show 0<=c.op by omega),Qy (show c.op<=2 by omega)];simp
theorem Ai{c:ak}{n:Int}(h:Ah c.left n=true)(ho:c.op=0∨c.op=1)(hc:c.const=false):Ah c.right n=df c n:=by
 simp only[Ah,Qo,QE]at h;unfold df;rw[Qv (by omega),Qv (by simp[hc]),Qy h.1,Qy h.2,Qy (show 0<=c.op by omega),Qy (show c.op<=2 by omega)];simp only[Ah,Bool.and_self,Qz];congr 1;exact decide_eq_decide.2 (by omega)
theorem MJ{c:ak}{n:Int}(h:Ah c.left n=true)(ho:c.op=2):(!c.const&&decide (c.right=0))=df c n:=by
 simp only[Ah,Qo,QE]at h;unfold df;rw[Qu ho,Qy h.1,Qy h.2,Qy (show 0<=c.op by omega),Qy (show c.op<=2 by omega)];simp
theorem MK{c:ak}{n:Int}(h0:¬ c.op=0)(h1:¬ c.op=1)(h2:¬ c.op=2):false=df c n:=by
 refine(Bool.eq_false_iff.2 ?_).symm;intro a;simp only[df,Qo,QE]at a;omega
def QA:=@BQ
def QC:=@Calls.within
theorem lZ(w:World)(o:Obj):(w.alloc o).heap[w.heap.size]? = some o:=by
 show (w.heap.push o)[w.heap.size]? = _
 simp
theorem rq(w:World)(c cs:Array Value)(t:TypeId):(w.alloc (.cells c t)).setRow w.heap.size cs=w.alloc (.cells cs t):=by
 unfold World.setRow World.alloc;simp only[World.mk.injEq,and_true];apply Array.ext_getElem?;intro i;rw[Array.getElem?_modify,Array.getElem?_push,Array.getElem?_push];by_cases h:i=w.heap.size
 ·subst h;simp
 ·have:¬ w.heap.size=i:=fun e=>h e.symm
  simp[h,this]
theorem FM(w:World)(c:Array Value)(t:TypeId)(i:Nat)(v:Value):(w.alloc (.cells c t)).setCell (aD w.heap.size i) v=w.alloc (.cells (c.setIfInBounds i v) t):=by
 rw[setCell_eq_setRow (w.alloc (.cells c t)) w.heap.size i c t (0,0) v (lZ w _),rq]
theorem addr_add(b off j:Nat):((aD b off):Addr).add j=(aD b (off+j)):=by unfold Addr.add; split <;> simp_all
theorem vW(w:World)(dT sT ty elem:TypeId)(size g dLen dCap:Nat)(sp:Option Addr)(sLen sCap:Nat)(cur:Array Value)(t:TypeId)(cs:List Value)
  (hu:P.underlying dT=some (.slice elem)) (hs:(P.info? elem).map (·.size)=some size) (hg:w.heap[g]? = some (.cells cur t (0,0))) (hle:sLen<=dLen) (hn:cs.length=sLen*size)
  (hsrc:0<cs.length->∃ a,sp=some a/\∀ j v,cs[j]? = some v->w.cell? (a.add j)=some v) (hfit:cs.length<=cur.size) (h1:∀ v∈cs,v.oneCell' = true) :
  (Builtin.copy_ #[dT,sT] ty #[.slice (some (aD g 0)) dLen dCap,.slice sp sLen sCap]).run P w=.ok (goInt sLen) (w.setRow g (cs++cur.toList.drop cs.length).toArray):=by
 have f:=run_storeCells_at P g 0 t cs 0 cur w hg (by simpa using hfit) h1;have b:Nat.min sLen dLen=sLen:=Nat.min_eq_left hle
 cases hq:P.info? elem with
 | none => simp[hq]at hs
 | some i =>
  have k:i.size=size:=by simpa [hq] using hs
  by_cases m:cs.length=0
  ·obtain rfl:cs=[]:=QF m;have d:w.setRow g cur=w:=setRow_self w g cur t (0,0) hg;have e:∀ (x:Addr),(loadCells x (sLen*size)).run P w=.ok #[] w:=fun x=>by
    rw[<- hn]
    simpa using run_loadCells_list (P:=P) w x [] (by simp)
   cases sp <;> simp[Builtin.copy_,run_underlying hu,Builtin.lenOf,Builtin.firstCells,sizeOf,typeInfo,hq,k,b,storeCells,e,d]
  ·obtain⟨a,rfl,l⟩:=hsrc (by omega);have e:=run_loadCells_list (P:=P) w a cs l;rw[hn]at e;simp[Builtin.copy_,run_underlying hu,Builtin.lenOf,Builtin.firstCells,sizeOf,typeInfo,hq,k,b,e,f]
theorem vX(z:Value)(n:Nat):madeCells #[z] n=(List.replicate n z).toArray:=by
 apply Array.ext_getElem?;intro i;by_cases a:i<n
 ·simp[madeCells,a];simp[Nat.mod_one]
 ·simp[madeCells,a]
theorem J6{α:Type}(f:α->List Value)(s:Nat)(hf:∀ x,(f x).length=s)(z:α):∀ (xs:List α) (rest:List Value) (i j:Nat),i<xs.length->j<s->(xs.flatMap f++rest)[i*s+j]? = (f (xs.getD i z))[j]?
 | [],_,i,_,hi,_ => absurd hi (by simp)
 | x::xs,rest,0,j,_,hj => by
  rw[QG,QH,QI,QJ,QK (by rw[hf]; exact hj)];rfl
 | x::xs,rest,i+1,j,hi,hj => by
  have ih:=J6 f s hf z xs rest i j (by simpa using hi) hj;rw[QG,QH,QL (by rw[hf,Nat.add_mul]; omega),hf];rw[show (i+1)*s+j-s=i*s+j by rw[Nat.add_mul]; omega,ih];rfl
def ak.vals(c:ak):List Value:=[.bool c.not,.int .i64 c.op,.int .i64 c.left,.bool c.const,.int .i64 c.right]
def zc:List Value:=[.bool false,.int .i64 0,.int .i64 0,.bool false,.int .i64 0]
def ic:List Value:=[.bool false,.int .i64 77777,.int .i64 0,.bool false,.int .i64 0]
def it:List Value:=[.int .i64 77777,.int .i64 0,.int .i64 0,.int .i64 0,.int .i64 0,.int .i64 0]
def GB(w:World)(G:Nat)(t:TypeId)(c:Array Value):Prop:=w.heap[G]? = some (.cells c t (0,0))
theorem aR(w:World)(c:Array Value)(t:TypeId):∃ x,w.alloc (.cells c t)=x/\Bw w x/\GB x w.heap.size t c:=⟨_,rfl,bV _ _,lZ _ _⟩
theorem GB.cell{w:World}{G:Nat}{t:TypeId}{c:Array Value}(h:GB w G t c)(i:Nat):w.cell? (aD G i)=c[i]?:=by
 unfold GB at h;simp[World.cell?,h]
theorem GB.frozen{w:World}{G:Nat}{t:TypeId}{c:Array Value}(h:GB w G t c)(i:Nat):w.frozen? (aD G i)=false:=by
 unfold GB at h;simp[World.frozen?,h]
theorem GB.lt(h:GB w G t c):G<w.heap.size:=by
 unfold GB at h;exact(QO.1 h).1
theorem GB.set(h:GB w G t c)(i:Nat)(v:Value):GB (w.setCell (aD G i) v) G t (c.setIfInBounds i v):=by
 unfold GB at *;rw[setCell_eq_setRow w G i c t (0,0) v h];exact setRow_heap w G c _ t _ h
theorem GB.of(h:GB w G t c)(e:w'.heap[G]? = w.heap[G]?):GB w' G t c:=by
 unfold GB at *;rw[e];exact h
theorem heap_alloc{w:World}{o:Obj}{k:Nat}(h:k<w.heap.size):(w.alloc o).heap[k]? = w.heap[k]?:=Below.heap_alloc _ _ _ h
def QM:=@GB.cell
def QN:=@GB.frozen
theorem GB.at(h:GB w G t c)(i:Nat)(hv:c.toList[i]? = some v:=by exact rfl):w.cell? (aD G i)=some v:=by
 rw[h.cell i,<- Array.getElem?_toList];exact hv
theorem hd(h:p):Hid p:=h
theorem pA(l:List Value)(d)(i:Nat)(v:Value):Act.put { tmps:=l.toArray,defers:=d } (some i) v = { tmps:=(l.set i v).toArray,defers:=d }:=by simp[Act.put]
theorem pU:(∀ (l:List Value) (d) (i:Nat) (v:Value),Act.put { tmps:=l.toArray,defers:=d } (some i) v = { tmps:=(l.set i v).toArray,defers:=d })/\(∀ {x:Value} {l:List Value} {n:Nat} {a:Value},(x::l).set (n+1) a=x::l.set n a)/\(∀ {x:Value} {l:List Value} {a:Value},(x::l).set 0 a=a::l):=⟨pA,List.set_cons_succ,List.set_cons_zero⟩
theorem wt(i:Nat)(v:Value)(hS:S w)(h:wpAnyH P md ops Q S fuel (listed.setIfInBounds i true) (a.put oi.dst v) w)(hi:ops[i]? = some oi:=by exact rfl)(hs:Region.noSelect ops=true:=by kernel_rfl)(hf:Region.free md ops listed i=true:=by kernel_rfl)(hr:(Region.ready md ops listed).contains i=true:=by kernel_rfl)(hQ:∀ c a w,Q (.panic c) (a.put oi.dst v) w->Q (.panic c) a w:=by exact fun _ _ _ h=>h)(hg:Region.wanted oi (yielded ops a.tmps)=true:=by rfl)(hy:∀ x,S x->(execOp a.eval oi).run P x=.ok (.value v) x:=by intro x b; go_simp):wpAnyH P md ops Q S (fuel+1) listed a w:=
 wpAnyH_take hi hs hf hr hQ (.inl ⟨hg,hy⟩) hS h
theorem nN{o:Nat}{u:Value}(i:Nat)(v:Value)(hS:Bw W w)(c:W.cell? (aD b o)=some u)(h:wpAnyH P md ops Q (fun x=>Bw W x) fuel (listed.setIfInBounds i true) (a.put oi.dst v) w)(hi:ops[i]? = some oi:=by exact rfl)(hs:Region.noSelect ops=true:=by kernel_rfl)(hf:Region.free md ops listed i=true:=by kernel_rfl)(hr:(Region.ready md ops listed).contains i=true:=by kernel_rfl)(hQ:∀ c a w,Q (.panic c) (a.put oi.dst v) w->Q (.panic c) a w:=by exact fun _ _ _ h=>h)(hg:Region.wanted oi (yielded ops a.tmps)=true:=by rfl)(hy:∀ x,x.cell? (aD b o)=some u->(execOp a.eval oi).run P x=.ok (.value v) x:=by intro x d; go_simp):wpAnyH P md ops Q (fun x=>Bw W x) (fuel+1) listed a w:=
 wpAnyH_take hi hs hf hr hQ (.inl ⟨hg,fun x d=>hy x (cB d c)⟩) hS h
def IsV(_:Value):Prop:=True
theorem aml{p:Value->Prop}(_:IsV v)(h:p v):∃ x,p x:=⟨v,h⟩
theorem qS{P Q:Prop}(v:Value)(k:Q)(h:IsV v->Q->P:=by
  intro a b;go_big_quiet_want;refine aml a ⟨fun x d=>?_,?_⟩
  ·go_simp
  ·simp only[pU];go_big_quiet_on;exact b):P:=h trivial k
theorem qC{P Q C:Prop}(v:Value)(c:C)(k:Q)(h:IsV v->C->Q->P:=by
  intro a c b;go_big_quiet_want;refine aml a ⟨fun x d=>?_,?_⟩
  ·have e:=cB d c;go_simp
  ·simp only[pU];go_big_quiet_on;exact b):P:=h trivial c k
theorem cR5(hx:Bw w x)(a0:w.cell? (aD b0 o0)=some v0)(a1:w.cell? (aD b1 o1)=some v1)(a2:w.cell? (aD b2 o2)=some v2)(a3:w.cell? (aD b3 o3)=some v3)(a4:w.cell? (aD b4 o4)=some v4):x.cell? (aD b0 o0)=some v0/\x.cell? (aD b1 o1)=some v1/\x.cell? (aD b2 o2)=some v2/\x.cell? (aD b3 o3)=some v3/\x.cell? (aD b4 o4)=some v4:=⟨cB hx a0,cB hx a1,cB hx a2,cB hx a3,cB hx a4⟩
theorem Rb(hx:Bw w x)(a0:w.cell? (aD b0 o0)=some v0)(a1:w.cell? (aD b1 o1)=some v1)(a2:w.cell? (aD b2 o2)=some v2)(a3:w.cell? (aD b3 o3)=some v3)(a4:w.cell? (aD b4 o4)=some v4)(a5:w.cell? (aD b5 o5)=some v5):x.cell? (aD b0 o0)=some v0/\x.cell? (aD b1 o1)=some v1/\x.cell? (aD b2 o2)=some v2/\x.cell? (aD b3 o3)=some v3/\x.cell? (aD b4 o4)=some v4/\x.cell? (aD b5 o5)=some v5:=⟨cB hx a0,cB hx a1,cB hx a2,cB hx a3,cB hx a4,cB hx a5⟩
theorem J7(hx:Bw w x)(a0:w.cell? (aD b0 o0)=some v0)(a1:w.cell? (aD b1 o1)=some v1)(a2:w.cell? (aD b2 o2)=some v2)(a3:w.cell? (aD b3 o3)=some v3)(a4:w.cell? (aD b4 o4)=some v4)(a5:w.cell? (aD b5 o5)=some v5)(a6:w.cell? (aD b6 o6)=some v6):x.cell? (aD b0 o0)=some v0/\x.cell? (aD b1 o1)=some v1/\x.cell? (aD b2 o2)=some v2/\x.cell? (aD b3 o3)=some v3/\x.cell? (aD b4 o4)=some v4/\x.cell? (aD b5 o5)=some v5/\x.cell? (aD b6 o6)=some v6:=⟨cB hx a0,cB hx a1,cB hx a2,cB hx a3,cB hx a4,cB hx a5,cB hx a6⟩
theorem mi(hx:Bw w x){b7 o7 b8 o8 b9 o9 b10 o10 b11 o11 b12 o12:Nat}(a0:w.cell? (aD b0 o0)=some v0)(a1:w.cell? (aD b1 o1)=some v1)(a2:w.cell? (aD b2 o2)=some v2)(a3:w.cell? (aD b3 o3)=some v3)(a4:w.cell? (aD b4 o4)=some v4)(a5:w.cell? (aD b5 o5)=some v5)(a6:w.cell? (aD b6 o6)=some v6)(a7:w.cell? (aD b7 o7)=some v7)(a8:w.cell? (aD b8 o8)=some v8)(a9:w.cell? (aD b9 o9)=some v9)(yI:w.cell? (aD b10 o10)=some v10)(BS:w.cell? (aD b11 o11)=some v11)(a12:w.cell? (aD b12 o12)=some v12):x.cell? (aD b0 o0)=some v0/\x.cell? (aD b1 o1)=some v1/\x.cell? (aD b2 o2)=some v2/\x.cell? (aD b3 o3)=some v3/\x.cell? (aD b4 o4)=some v4/\x.cell? (aD b5 o5)=some v5/\x.cell? (aD b6 o6)=some v6/\x.cell? (aD b7 o7)=some v7/\x.cell? (aD b8 o8)=some v8/\x.cell? (aD b9 o9)=some v9/\x.cell? (aD b10 o10)=some v10/\x.cell? (aD b11 o11)=some v11/\x.cell? (aD b12 o12)=some v12:=⟨cB hx a0,cB hx a1,cB hx a2,cB hx a3,cB hx a4,cB hx a5,cB hx a6,cB hx a7,cB hx a8,cB hx a9,cB hx yI,cB hx BS,cB hx a12⟩
theorem GB.k2(h:GB w G t c)(e:c.toList.take 2=[v0,v1]:=by exact rfl):w.cell? (aD G 0)=some v0/\w.cell? (aD G 1)=some v1:=by
 have r:∀ i,i<2->c.toList[i]? = ([v0,v1]:List Value)[i]?:=fun i a=>by rw[<- e,QP a]
 exact⟨h.at 0 (r 0 (by decide)),h.at 1 (r 1 (by decide))⟩
theorem GB.k3(h:GB w G t c)(e:c.toList.take 3=[v0,v1,v2]:=by exact rfl):w.cell? (aD G 0)=some v0/\w.cell? (aD G 1)=some v1/\w.cell? (aD G 2)=some v2:=by
 have r:∀ i,i<3->c.toList[i]? = ([v0,v1,v2]:List Value)[i]?:=fun i a=>by rw[<- e,QP a]
 exact⟨h.at 0 (r 0 (by decide)),h.at 1 (r 1 (by decide)),h.at 2 (r 2 (by decide))⟩
theorem GB.k4(h:GB w G t c)(e:c.toList.take 4=[v0,v1,v2,v3]:=by exact rfl):w.cell? (aD G 0)=some v0/\w.cell? (aD G 1)=some v1/\w.cell? (aD G 2)=some v2/\w.cell? (aD G 3)=some v3:=by
 have r:∀ i,i<4->c.toList[i]? = ([v0,v1,v2,v3]:List Value)[i]?:=fun i a=>by rw[<- e,QP a]
 exact⟨h.at 0 (r 0 (by decide)),h.at 1 (r 1 (by decide)),h.at 2 (r 2 (by decide)),h.at 3 (r 3 (by decide))⟩
theorem GB.k5(h:GB w G t c)(e:c.toList.take 5=[v0,v1,v2,v3,v4]:=by exact rfl):w.cell? (aD G 0)=some v0/\w.cell? (aD G 1)=some v1/\w.cell? (aD G 2)=some v2/\w.cell? (aD G 3)=some v3/\w.cell? (aD G 4)=some v4:=by
 have r:∀ i,i<5->c.toList[i]? = ([v0,v1,v2,v3,v4]:List Value)[i]?:=fun i a=>by rw[<- e,QP a]
 exact⟨h.at 0 (r 0 (by decide)),h.at 1 (r 1 (by decide)),h.at 2 (r 2 (by decide)),h.at 3 (r 3 (by decide)),h.at 4 (r 4 (by decide))⟩
theorem GB.k6(h:GB w G t c)(e:c.toList.take 6=[v0,v1,v2,v3,v4,v5]:=by exact rfl):w.cell? (aD G 0)=some v0/\w.cell? (aD G 1)=some v1/\w.cell? (aD G 2)=some v2/\w.cell? (aD G 3)=some v3/\w.cell? (aD G 4)=some v4/\w.cell? (aD G 5)=some v5:=by
 have r:∀ i,i<6->c.toList[i]? = ([v0,v1,v2,v3,v4,v5]:List Value)[i]?:=fun i a=>by rw[<- e,QP a]
 exact⟨h.at 0 (r 0 (by decide)),h.at 1 (r 1 (by decide)),h.at 2 (r 2 (by decide)),h.at 3 (r 3 (by decide)),h.at 4 (r 4 (by decide)),h.at 5 (r 5 (by decide))⟩
theorem GB.k7(h:GB w G t c)(e:c.toList.take 7=[v0,v1,v2,v3,v4,v5,v6]:=by exact rfl):w.cell? (aD G 0)=some v0/\w.cell? (aD G 1)=some v1/\w.cell? (aD G 2)=some v2/\w.cell? (aD G 3)=some v3/\w.cell? (aD G 4)=some v4/\w.cell? (aD G 5)=some v5/\w.cell? (aD G 6)=some v6:=by
 have r:∀ i,i<7->c.toList[i]? = ([v0,v1,v2,v3,v4,v5,v6]:List Value)[i]?:=fun i a=>by rw[<- e,QP a]
 exact⟨h.at 0 (r 0 (by decide)),h.at 1 (r 1 (by decide)),h.at 2 (r 2 (by decide)),h.at 3 (r 3 (by decide)),h.at 4 (r 4 (by decide)),h.at 5 (r 5 (by decide)),h.at 6 (r 6 (by decide))⟩
theorem GB.k8(h:GB w G t c)(e:c.toList.take 8=[v0,v1,v2,v3,v4,v5,v6,v7]:=by exact rfl):w.cell? (aD G 0)=some v0/\w.cell? (aD G 1)=some v1/\w.cell? (aD G 2)=some v2/\w.cell? (aD G 3)=some v3/\w.cell? (aD G 4)=some v4/\w.cell? (aD G 5)=some v5/\w.cell? (aD G 6)=some v6/\w.cell? (aD G 7)=some v7:=by
 have r:∀ i,i<8->c.toList[i]? = ([v0,v1,v2,v3,v4,v5,v6,v7]:List Value)[i]?:=fun i a=>by rw[<- e,QP a]
 exact⟨h.at 0 (r 0 (by decide)),h.at 1 (r 1 (by decide)),h.at 2 (r 2 (by decide)),h.at 3 (r 3 (by decide)),h.at 4 (r 4 (by decide)),h.at 5 (r 5 (by decide)),h.at 6 (r 6 (by decide)),h.at 7 (r 7 (by decide))⟩
theorem GB.k9(h:GB w G t c)(e:c.toList.take 9=[v0,v1,v2,v3,v4,v5,v6,v7,v8]:=by exact rfl):w.cell? (aD G 0)=some v0/\w.cell? (aD G 1)=some v1/\w.cell? (aD G 2)=some v2/\w.cell? (aD G 3)=some v3/\w.cell? (aD G 4)=some v4/\w.cell? (aD G 5)=some v5/\w.cell? (aD G 6)=some v6/\w.cell? (aD G 7)=some v7/\w.cell? (aD G 8)=some v8:=by
 have r:∀ i,i<9->c.toList[i]? = ([v0,v1,v2,v3,v4,v5,v6,v7,v8]:List Value)[i]?:=fun i a=>by rw[<- e,QP a]
 exact⟨h.at 0 (r 0 (by decide)),h.at 1 (r 1 (by decide)),h.at 2 (r 2 (by decide)),h.at 3 (r 3 (by decide)),h.at 4 (r 4 (by decide)),h.at 5 (r 5 (by decide)),h.at 6 (r 6 (by decide)),h.at 7 (r 7 (by decide)),h.at 8 (r 8 (by decide))⟩
theorem GB.k13(h:GB w G t c)(e:c.toList.take 13=[v0,v1,v2,v3,v4,v5,v6,v7,v8,v9,v10,v11,v12]:=by exact rfl):w.cell? (aD G 0)=some v0/\w.cell? (aD G 1)=some v1/\w.cell? (aD G 2)=some v2/\w.cell? (aD G 3)=some v3/\w.cell? (aD G 4)=some v4/\w.cell? (aD G 5)=some v5/\w.cell? (aD G 6)=some v6/\w.cell? (aD G 7)=some v7/\w.cell? (aD G 8)=some v8/\w.cell? (aD G 9)=some v9/\w.cell? (aD G 10)=some v10/\w.cell? (aD G 11)=some v11/\w.cell? (aD G 12)=some v12:=by
 have r:∀ i,i<13->c.toList[i]? = ([v0,v1,v2,v3,v4,v5,v6,v7,v8,v9,v10,v11,v12]:List Value)[i]?:=fun i a=>by rw[<- e,QP a]
 exact⟨h.at 0 (r 0 (by decide)),h.at 1 (r 1 (by decide)),h.at 2 (r 2 (by decide)),h.at 3 (r 3 (by decide)),h.at 4 (r 4 (by decide)),h.at 5 (r 5 (by decide)),h.at 6 (r 6 (by decide)),h.at 7 (r 7 (by decide)),h.at 8 (r 8 (by decide)),h.at 9 (r 9 (by decide)),h.at 10 (r 10 (by decide)),h.at 11 (r 11 (by decide)),h.at 12 (r 12 (by decide))⟩
theorem wH{id:Nat}(w:World)(h:Bw w w.drew->wpAnyH P .any ops Q (fun x=>Bw w x) ops.size (Array.replicate ops.size false) a w.drew)(hm:P.follows .mixedOrders=true:=by kernel_rfl):(Code.region id ops true).wp P Q a w:=
 QQ hm ((Qr _ _).drew) h
theorem wD(h:Q .normal a w)(hr:Region.ready md ops listed=[]:=by kernel_rfl):wpAnyH P md ops Q S fuel listed a w:=wpAnyH_done hr h fuel
theorem oT(hK:Shut (∀ a w,Bw W w->(Bw W w->X a w)->K' a w))(hS:Bw W w)(hb:Bw w w')(h:Bw W w'->X a w'):K' a w':=hK.o _ _ (hS.trans (hb.mono hS.size)) h
theorem oA(hK:Shut (∀ a w,Bw W w->(Bw W w->X a w)->K' a w)){o:Obj}(hS:Bw W w)(h:Bw W (w.alloc o)->X a (w.alloc o)):K' a (w.alloc o):=hK.o _ _ (hS.trans ((bV _ _).mono hS.size)) h
theorem wJ{oj:Oper}(i j:Nat)(h:∀ K':Act->World->Prop,Shut (∀ a w,S w->(S w->wpAnyH P md ops Q S fuel (listed.setIfInBounds i true) a w)->K' a w)->if Region.wanted oi (yielded ops a.tmps)=true then Oper.wp P oi a w K' Q else K' (a.put oi.dst undef) w)(h2:∀ K':Act->World->Prop,Shut (∀ a w,S w->(S w->wpAnyH P md ops Q S fuel (listed.setIfInBounds j true) a w)->K' a w)->if Region.wanted oj (yielded ops a.tmps)=true then Oper.wp P oj a w K' Q else K' (a.put oj.dst undef) w)(hi:ops[i]? = some oi:=by exact rfl)(hj:ops[j]? = some oj:=by exact rfl)(hr:Region.ready md ops listed=[i,j]:=by kernel_rfl):wpAnyH P md ops Q S (fuel+1) listed a w:=
 wpAnyH_ready hr (by simp) (Qa hi h (Qa hj h2 AllReadyH.nil))
theorem Zh(h:p):Hid p:=h
structure Pre(w w2:World)(G tG:Nat)(c:Array Value)(bs:List (Nat × Obj)):Prop where
 bel:Bw w w2
 lo:w.heap.size<=G
 g:GB w2 G tG c
 bs:∀ p,p∈bs->p.1≠G/\w.heap.size<=p.1/\w2.heap[p.1]? = some p.2
theorem Pre.alloc{w w2:World}{G tG:Nat}{c:Array Value}{bs:List (Nat × Obj)}(h:Pre w w2 G tG c bs)(o:Obj):Pre w (w2.alloc o) G tG c ((w2.heap.size,o)::bs):=by
 have d:=h.g.lt;refine⟨h.bel.alloc h.bel.size o,h.lo,h.g.of (heap_alloc d),fun p b=>?_⟩;rcases Z5.1 b with rfl | b
 ·exact⟨by show w2.heap.size≠G; omega,h.bel.size,lZ w2 o⟩
 ·have a:=h.bs p b;exact⟨a.1,a.2.1,(heap_alloc (QO.1 a.2.2).1).trans a.2.2⟩
theorem Pre.drop{bs':List (Nat × Obj)}(h:Pre w w2 G tG c bs)(hs:∀ p,p∈bs'->p∈bs):Pre w w2 G tG c bs':=⟨h.bel,h.lo,h.g,fun p a=>h.bs p (hs p a)⟩
theorem Pre.at(h:Pre w w2 G tG c bs){t:Nat}{d:Array Value}(hm:(b,Obj.cells d t (0,0))∈bs):GB w2 b t d:=(h.bs _ hm).2.2
theorem zh{base base':Nat}{e:TypeId}{size:Nat}{n:Nat}{xs:List Value}(h:w.ownsRow base e size v n xs)(hb:base'<=base)(ho:∀ j,base<=j->j<w.heap.size->w'.heap[j]? = w.heap[j]?):w'.ownsRow base' e size v n xs:=by
 obtain⟨l,a⟩:=h;refine⟨l,?_⟩;rcases a with a | ⟨g,b,d,k,f,i,r⟩
 ·exact XG a
 ·exact Or.inr ⟨g,b,d,k,QS hb f,(ho g f (QO.1 i).1).trans i,r⟩
def nk:List Value:=[.int .i64 77777,.int .i64 0,.int .i64 0,.int .i64 0,.slice none 0 0,.int .i64 0,.slice none 0 0]
