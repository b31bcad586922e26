import Derived.Deep.RegionHeld
import Derived.WalkKit
import Derived.Deep.QuietTactic
import Derived.BigQuiet
import Derived.WalkSmall
import Derived.Laws.CopyOwn
import Derived.Deep.OwnRows
import Derived.Laws.BitsAllLaws
import Derived.RangeFuncRecord
import Derived.RangeFuncBound
import Derived.RangeFuncCalls
import Derived.RangeFuncLeaves
import Derived.Below
import Derived.RangeFuncNested
import Derived.Shelf.Abstract
import Derived.OwnWalkIn
import Derived.TacticsInMore
import Derived.LoopNIn
import Derived.LoopIn
import Derived.Test.YtlpbelhfpoilpaaGreatDoorRProg
import Derived.Maps.OwnIn
import Derived.Maps.AppendAt
import Derived.OwnWalk
import Derived.Shelf.Spec.SlicesGrow
import Derived.Laws.AppendOwnNone
import Derived.Shelf.RegionOpen
import Derived.BigRegion
import Derived.Deep.AppendLies
import Derived.RegionTactic
import Derived.Deep.Cut
import Derived.Deep.RegionHeld3
import Derived.Deep.RegionLaw
import Derived.Deep.DrawnRows
import Derived.Laws.ShiftsVarLaws
import Derived.Shelf.Bits.Mul64
import Derived.Shelf.Strconv.Itoa0
import Derived.Deep.CutRange
import Derived.Laws.ResultCell
import Derived.OrdersHeld
import Derived.Laws.MakeOwn
import Derived.Lib.SliceRun
import Derived.LaidEqlPtr
import Derived.Laws.IdiomCopy
import Derived.Lib.AppendZerosOnto
import Derived.Lib.Overlaps
import Derived.Shelf.Spec.SlicesInsert
import Derived.Laws.Externs
import Derived.Conc.LoneSelect
import Derived.RegionCalls
import Derived.Sort.CutIn
import Derived.WideKeyPair
import Derived.Maps.Views
set_option linter.all false
set_option maxRecDepth 100000
set_option maxHeartbeats 16000000
namespace Go.RowKit
theorem Hid.o{p:Prop}(h:Hid p):p:=h
end Go.RowKit
namespace Go
theorem Shut.o{p:Prop}(h:Shut p):p:=h
end Go
namespace Go.Proofs.Zz
open Go.RowKit Go.Shelf
variable {α:Type} {P:Program} {ops:Array Oper} {Q:Exit->Act->World->Prop} {md:Region.Mode} {S:World->Prop} {G b b0 b1 b2 b3 b4 b5 b6 fuel i k o0 o1 o2 o3 o4 o5 o6 tG:Nat} {listed:Array Bool} {a:Act} {W w w' w1 w2 x:World} {oi:Oper} {n:Int} {xs:List Int} {u v v0 v1 v10 v11 v12 v2 v3 v4 v5 v6 v7 v8 v9:Value} {t:TypeId} {c:Array Value} {p:Prop} {K' X:Act->World->Prop} {bs:List (Nat × Obj)}
theorem eX(a:α):∃ z,a=z:=⟨a,rfl⟩
theorem eY(a:α):∃ z,z=a:=⟨a,rfl⟩
@[reducible] def Bw (w x:World):Prop:=RowKit.Below w.heap.size w x
def Qa:=@Go.wpAnyH_take
def Qb:=@Go.wpAnyH_ready
def Qc:=@Go.AllReadyH.cons
def Qd:=@Go.AllReadyH.nil
def Qe:=@List.set_cons_succ.{0}
def Qf:=@List.set_cons_zero.{0}
def Qk:=@decide_eq_false_iff_not
def Ql:=@decide_eq_false
def Qm:=@Bool.false_and
def Qn:=@Bool.and_false
def Qo:=@List.all_eq_false.{0}
def Qp:=@List.getElem_mem.{0}
def Qq:=@Nat.lt_or_ge
def Qr:=@List.take_succ_eq_append_getElem.{0}
def Qs:=@List.map_append.{0,0}
def Qt:=@Bool.and_eq_true
def Qu:=@List.all_eq_true.{0}
def Qw:=@Go.RowKit.Below.refl
def Qx:=@Nat.le_refl
def Qy:=@if_pos.{1}
def Qz:=@if_neg.{1}
def QA:=@List.take_length.{0}
def QC:=@List.getElem_of_mem.{0}
def QD:=@decide_eq_true
def QE:=@Bool.true_and
def QI:=@Bool.eq_iff_iff
def QJ:=@decide_eq_true_eq
def QK:=@Nat.min_eq_left
def QL:=@List.eq_nil_of_length_eq_zero.{0}
def QM:=@List.flatMap_cons.{0,0}
def QO:=@List.append_assoc.{0}
def QP:=@Nat.zero_mul
def QQ:=@Nat.zero_add
def QR:=@List.getElem?_append_left.{0}
def QS:=@List.getElem?_append_right.{0}
def QV:=@Array.getElem?_eq_some_iff.{0}
def QW:=@List.getElem?_take_of_lt.{0}
def QX:=@Go.wp_region_held_drew
def QY:=@Go.wpAnyH_done
def QZ:=@List.foldl_append.{0,0}
def Q0:=@List.foldl_cons.{0,0}
def Q3:=@Nat.testBit_or
def Q4:=@List.mem_cons.{0}
def Q5:=@Nat.testBit_lt_two_pow
def Q6:=@Nat.lt_of_lt_of_le
def Q7:=@Nat.pow_le_pow_right
def Q8:=@Nat.zero_le
def Q9:=@List.range_succ
def Za:=@List.flatMap_append.{0,0}
def Zb:=@List.length_append.{0}
def Zc:=@List.length_map.{0,0}
def Zd:=@List.length_range
def Ze:=@List.getElem?_map.{0,0}
def Zf:=@Nat.add_zero
def Zg:=@List.length_cons.{0}
def Zi:=@List.mem_map.{0,0}
def Zj:=@Int.toNat_natCast
def Zk:=@List.getElem?_eq_none.{0}
def Zl:=@Nat.le_trans
def Zm:=@List.length_take.{0}
def Zq:=@Go.World.putObj_heap_other
def Zt:=@Go.World.size_alloc
def Zu:=@Go.callsIn_wide
def Zw:=@Go.World.cell?_of_block
def Zx:=@Go.Oper.semAt_some
def Zy:=@List.size_toArray.{0}
def ZA:=@List.length_nil.{0}
def ZB:=@Array.replicate_succ.{0}
def ZC:=@Array.replicate_zero.{0}
def ZE:=@List.push_toArray.{0}
def ZF:=@List.append_toArray.{0}
def ZG:=@List.nil_append.{0}
def ZH:=@List.cons_append.{0}
def ZJ:=@Go.callsIn_of_wp_marks
def ZK:=@Go.run_takeDeferred
def ZQ:=@Go.World.frozen?_of_block
def ZR:=@List.mem_singleton.{0}
def ZT:=@List.mem_append.{0}
def ZU:=@Go.info_parts
def ZV:=@Go.World.ownsRow_nil
def ZW:=@List.getElem?_eq_some_iff.{0}
def ZX:=@List.getElem?_eq_getElem.{0}
def ZY:=@List.getElem?_take.{0}
def ZZ:=@List.setIfInBounds_toArray.{0}
def Z0:=@List.set_append_right.{0}
def Z4:=@Nat.sub_self
def Z9:=@Go.World.news_of_block
def Xf:=@List.mem_cons_of_mem.{0}
def Xg:=@List.mem_cons_self.{0}
def Xi:=@Nat.pow_lt_pow_right
def Xj:=@List.mem_of_mem_take.{0}
def Xk:=@Nat.or_lt_two_pow
def Xl:=@List.take_of_length_le.{0}
def Xm:=@Nat.pow_pos
def Xo:=@Int.eq_ofNat_of_zero_le
def Xq:=@List.mem_range
def Xr:=@beq_eq_false_iff_ne.{0}
def Xt:=@Go.Calls.mono
def Xv:=@Go.wpQuiet_nil
def Xw:=@List.length_eq_zero_iff.{0}
def Xx:=@List.append_nil.{0}
def Xz:=@Go.wpAnyIn_ready
def XA:=@Go.AllReadyIn.cons
def XB:=@Go.AllReadyIn.nil
def XC:=@List.mem_flatMap.{0,0}
def XE:=@Go.bodyPost_ret
def XF:=@Go.Lib.run_eql_slice_nil
def XH:=@List.getD_eq_getElem?_getD.{0}
def XM:=@List.map_map.{0,0,0}
def XN:=@Nat.add_assoc
def XO:=@List.length_set.{0}
def XQ:=@List.getElem?_drop.{0}
def XR:=@List.drop_eq_getElem_cons.{0}
def XT:=@List.length_drop.{0}
def XU:=@Option.isSome_iff_exists.{0}
def XV:=@of_decide_eq_true
def XW:=@Array.getElem?_setIfInBounds.{0}
def XX:=@List.getElem_toArray.{0}
def XY:=@List.getElem_cons_succ.{0}
def XZ:=@List.getElem_cons_zero.{0}
def X5:=@And.intro
def X6:=@Array.setIfInBounds_setIfInBounds.{0}
def X8:=@funext.{1,1}
def Jb:=@Go.results_cell_row
def Jd:=@List.length_singleton.{0}
def Jf:=@Array.getElem?_append_left.{0}
def Jh:=@List.length_replicate.{0}
theorem wT(i:Nat)(v:Value)(hS:S w)(hy:∀ x,S x->(execOp a.eval oi).run P x=.ok (.value v) x)(h:wpAnyH P md ops Q S fuel (listed.setIfInBounds i true) (a.put oi.dst v) w)(hi:ops[i]? = some oi:=by exact rfl)(hs:Region.noSelect ops=true:=by kernel_rfl)(hf:Region.free md ops listed i=true:=by kernel_rfl)(hr:(Region.ready md ops listed).contains i=true:=by kernel_rfl)(hQ:∀ c a w,Q (.panic c) (a.put oi.dst v) w->Q (.panic c) a w:=by exact fun _ _ _ h=>h)(hg:Region.wanted oi (yielded ops a.tmps)=true:=by rfl):wpAnyH P md ops Q S (fuel+1) listed a w:=
 Qa hi hs hf hr hQ (.inl ⟨hg,hy⟩) hS h
theorem wG(i:Nat)(v:Value)(hS:S w)(hy:∀ x,S x->(execOp a.eval oi).run P x=.ok (.value v) x)(h:wpAnyH P md ops Q S fuel (listed.setIfInBounds i true) (a.put oi.dst v) w)(hi:ops[i]? = some oi:=by exact rfl)(hs:Region.noSelect ops=true:=by kernel_rfl)(hf:Region.free md ops listed i=true:=by kernel_rfl)(hr:(Region.ready md ops listed).contains i=true:=by kernel_rfl)(hQ:∀ c a w,Q (.panic c) (a.put oi.dst v) w->Q (.panic c) a w:=by exact fun _ _ _ h=>h)(hg:Region.wanted oi (yielded ops a.tmps)=true:=by kernel_rfl):wpAnyH P md ops Q S (fuel+1) listed a w:=
 Qa hi hs hf hr hQ (.inl ⟨hg,hy⟩) hS h
theorem wN(i:Nat)(v:Value)(hS:S w)(hy:∀ x,S x->(execOp a.eval oi).run P x=.ok (.value v) x)(h:wpAnyH P md ops Q S fuel (listed.setIfInBounds i true) (a.put oi.dst v) w)(hi:ops[i]? = some oi:=by exact rfl)(hs:Region.noSelect ops=true:=by kernel_rfl)(hf:Region.free md ops listed i=true:=by kernel_rfl)(hr:(Region.ready md ops listed).contains i=true:=by kernel_rfl)(hQ:∀ c a w,Q (.panic c) (a.put oi.dst v) w->Q (.panic c) a w:=by exact fun _ _ _ h=>by cases h.1)(hg:Region.wanted oi (yielded ops a.tmps)=true:=by rfl):wpAnyH P md ops Q S (fuel+1) listed a w:=
 Qa hi hs hf hr hQ (.inl ⟨hg,hy⟩) hS h
theorem wU(i:Nat)(hS:S w)(h:wpAnyH P md ops Q S fuel (listed.setIfInBounds i true) (a.put oi.dst undef) w)(hi:ops[i]? = some oi:=by exact rfl)(hs:Region.noSelect ops=true:=by kernel_rfl)(hf:Region.free md ops listed i=true:=by kernel_rfl)(hr:(Region.ready md ops listed).contains i=true:=by kernel_rfl)(hQ:∀ c a w,Q (.panic c) (a.put oi.dst undef) w->Q (.panic c) a w:=by exact fun _ _ _ h=>h)(hg:Region.wanted oi (yielded ops a.tmps)=false:=by kernel_rfl):wpAnyH P md ops Q S (fuel+1) listed a w:=
 Qa hi hs hf hr hQ (.inr ⟨hg,rfl⟩) hS h
theorem wV(i:Nat)(hS:S w)(h:wpAnyH P md ops Q S fuel (listed.setIfInBounds i true) (a.put oi.dst undef) w)(hi:ops[i]? = some oi:=by exact rfl)(hs:Region.noSelect ops=true:=by kernel_rfl)(hf:Region.free md ops listed i=true:=by kernel_rfl)(hr:(Region.ready md ops listed).contains i=true:=by kernel_rfl)(hQ:∀ c a w,Q (.panic c) (a.put oi.dst undef) w->Q (.panic c) a w:=by exact fun _ _ _ h=>h)(hg:Region.wanted oi (yielded ops a.tmps)=false:=by rfl):wpAnyH P md ops Q S (fuel+1) listed a w:=
 Qa hi hs hf hr hQ (.inr ⟨hg,rfl⟩) hS h
theorem wR(i:Nat)(h:∀ K':Act->World->Prop,Shut (∀ a w,S w->(S w->wpAnyH P md ops Q S fuel (listed.setIfInBounds i true) a w)->K' a w)->if Region.wanted oi (yielded ops a.tmps)=true then Oper.wp P oi a w K' Q else K' (a.put oi.dst undef) w)(hi:ops[i]? = some oi:=by exact rfl)(hr:Region.ready md ops listed=[i]:=by kernel_rfl):wpAnyH P md ops Q S (fuel+1) listed a w:=
 Qb hr (by simp) (Qc hi h Qd)
@[reducible] def aD (b o : Nat) : Addr := ⟨b, o, none⟩
theorem sB{α : Type}{x : α}{l : List α}{n : Nat}{a : α} : (x :: l).set (n + 1) a = x :: l.set n a := Qe
theorem sC{α : Type}{x : α}{l : List α}{a : α} : (x :: l).set 0 a = a :: l := Qf
theorem WB{a b:Bool}(h:a=b):Ending.returned (.bool a)=.returned (.bool b):=by rw[h]
theorem ace{k:IntKind}{a b:Int}(h:a=b):Ending.returned (.int k a)=.returned (.int k b):=by rw[h]
def bC(w:World)(ao:Option Addr)(n:Nat)(f:Nat->Value):Prop:=
 ∀ i,i<n->∃ b off,ao=some (aD b off)/\w.cell? (aD b (off+i))=some (f i)
theorem bC.get{w:World}{ao:Option Addr}{n:Nat}{f:Nat->Value}(h:bC w ao n f){i:Nat}(hi:i<n) :
  ∃ b off,ao=some (aD b off)/\∀ j,j<n->w.cell? (aD b (off+j))=some (f j):=by
 obtain⟨b,off,rfl,_⟩:=h i hi;refine⟨b,off,rfl,fun j hj=>?_⟩;obtain⟨b',off',e,h'⟩:=h j hj
 cases e
 exact h'
def aB(w:World)(ao:Option Addr)(xs:List Int):Prop:=
 xs.length<=1152921504606846976/\bC w ao xs.length (fun i=>.int .i64 (xs.getD i 0))
theorem aB.get{w:World}{ao:Option Addr}{xs:List Int}(h:aB w ao xs){i:Nat}(hi:i<xs.length) :
  ∃ b off,ao=some (aD b off)/\∀ j,j<xs.length->w.cell? (aD b (off+j))=some (.int .i64 (xs.getD j 0)):=
 bC.get h.2 hi
structure af where
 aO:Int
 rows:Int
 k0:Int
 k1:Int
 k2:Int
 k3:Int
def af.vals(t:af):Array Value:=#[.int .i64 t.aO,.int .i64 t.rows,.int .i64 t.k0,.int .i64 t.k1,.int .i64 t.k2,.int .i64 t.k3]
def tz:af:=⟨0,0,0,0,0,0⟩
def aZ(w:World)(ao:Option Addr)(ts:List af):Prop:=
 ts.length<=192153584101141162/\∀ i,i<ts.length->∃ b off,ao=some (aD b off)/\
  w.cell? (aD b (off+i*6))=some (.int .i64 (ts.getD i tz).aO)/\w.cell? (aD b (off+i*6+1))=some (.int .i64 (ts.getD i tz).rows)/\
  w.cell? (aD b (off+i*6+2))=some (.int .i64 (ts.getD i tz).k0)/\w.cell? (aD b (off+i*6+3))=some (.int .i64 (ts.getD i tz).k1)/\
  w.cell? (aD b (off+i*6+4))=some (.int .i64 (ts.getD i tz).k2)/\w.cell? (aD b (off+i*6+5))=some (.int .i64 (ts.getD i tz).k3)
structure aC where
 not:Bool
 op:Int
 left:Int
 const:Bool
 right:Int
def cz:aC:=⟨false,0,0,false,0⟩
def aC.val(c:aC):Value:=.agg #[.bool c.not,.int .i64 c.op,.int .i64 c.left,.bool c.const,.int .i64 c.right]
def bH(w:World)(ao:Option Addr)(cs:List aC):Prop:=
 cs.length<=230584300921369395/\∀ i,i<cs.length->∃ b off,ao=some (aD b off)/\
  w.cell? (aD b (off+i*5))=some (.bool (cs.getD i cz).not)/\w.cell? (aD b (off+i*5+1))=some (.int .i64 (cs.getD i cz).op)/\
  w.cell? (aD b (off+i*5+2))=some (.int .i64 (cs.getD i cz).left)/\w.cell? (aD b (off+i*5+3))=some (.bool (cs.getD i cz).const)/\
  w.cell? (aD b (off+i*5+4))=some (.int .i64 (cs.getD i cz).right)
structure aH where
 ad:Option Addr
 cap:Nat
 cs:List aC
def lz:aH:=⟨none,0,[]⟩
def aH.val(c:aH):Value:=.slice c.ad c.cs.length c.cap
def gH(w:World)(ao:Option Addr)(ls:List aH):Prop:=
 ls.length<=1152921504606846976/\bC w ao ls.length (fun i=>(ls.getD i lz).val)/\∀ i,i<ls.length->bH w (ls.getD i lz).ad (ls.getD i lz).cs
structure ah where
 ad:Option Addr
 cap:Nat
 xs:List Int
def ah.val(v:ah):Value:=.slice v.ad v.xs.length v.cap
def ah.At(v:ah)(w:World):Prop:=aB w v.ad v.xs
structure ae where
 src:ah
 bY:Option Addr
 aI:Nat
 wh:List aH
 group:Bool
 keys:ah
 sums:ah
 aV:ah
 ord:ah
def ae.cells(q:ae):Array Value:=#[q.src.val,.slice q.bY q.wh.length q.aI,.bool q.group,q.keys.val,q.sums.val,q.aV.val,q.ord.val]
structure ae.At(q:ae)(w:World):Prop where
 src:q.src.At w
 wh:gH w q.bY q.wh
 keys:q.keys.At w
 sums:q.sums.At w
 aV:q.aV.At w
 ord:q.ord.At w
def bN(xs:List Int)(n:Int):Bool:=xs.all fun x=>decide (0<=x)&&decide (x<n)
def di(xs:List Int):Bool:=decide (∀ i,i<xs.length->∀ j,j<i->xs.getD i 0≠xs.getD j 0)
theorem Na{j:Nat}(hi:i<xs.length)(hj:j<i)(h:xs.getD i 0=xs.getD j 0):false=di xs:=by
 symm;unfold di;rw[Qk];intro h';exact h' i hi j hj h
theorem IY(h:∀ i,i<xs.length->∀ j,j<i->xs.getD i 0≠xs.getD j 0):true=di xs:=by
 symm;unfold di;rw[decide_eq_true_iff];exact h
def fu(c:aC)(n:Int):Bool:=
 decide (0<=c.left)&&decide (c.left<n)&&decide (0<=c.op)&&decide (c.op<=2) &&
  (if c.op=2 then !c.const&&decide (c.right=0) else if c.const then decide (-1000<=c.right)&&decide (c.right<=1000) else decide (0<=c.right)&&decide (c.right<=n-1))
def Bo(group:Bool)(keys sums aV:List Int):Int:=if group then keys.length+1+sums.length else aV.length
def af.kd(t:af):Nat->Int
 | 0 => t.k0
 | 1 => t.k1
 | 2 => t.k2
 | _ => t.k3
theorem af.acf(wr:World)(t:af)(ty:TypeId)(m:Nat)(hm:m<4) :
  (wr.alloc (.cells #[.int .i64 t.aO,.int .i64 t.rows,.int .i64 t.k0,.int .i64 t.k1,.int .i64 t.k2,.int .i64 t.k3] ty)).cell? (aD wr.heap.size (2+m))=some (.int .i64 (t.kd m)):=by
 rcases (by omega:m=0∨m=1∨m=2∨m=3) with rfl | rfl | rfl | rfl <;> simp[af.kd]
def dV(t:af):Bool:=
 decide (1<=t.aO/\t.aO<=4/\0<=t.rows/\t.rows<=1000000/\∀ m,m<t.aO.toNat->1<=t.kd m/\t.kd m<=1000000)
theorem Nb{t:af}(h:t.aO<1∨4<t.aO∨t.rows<0∨1000000<t.rows):dV t=false:=by
 unfold dV;rw[Qk];omega
theorem IZ{t:af}(m:Nat)(hm:m<t.aO.toNat)(h:t.kd m<1∨1000000<t.kd m):dV t=false:=by
 unfold dV;rw[Qk];intro h';have:=h'.2.2.2.2 m hm;omega
theorem I4{t:af}(h1:1<=t.aO)(h2:t.aO<=4)(h3:0<=t.rows)(h4:t.rows<=1000000)(h:∀ m,m<t.aO.toNat->1<=t.kd m/\t.kd m<=1000000):dV t=true:=by
 unfold dV;rw[decide_eq_true_iff];exact⟨h1,h2,h3,h4,h⟩
def gI(ts:List af):Bool:=decide (1<=ts.length)&&decide (ts.length<=8)&&ts.all dV
theorem Nc{ts:List af}(h:ts.length<1):false=gI ts:=by
 unfold gI;have:decide (1<=ts.length)=false:=Ql (by omega);rw[this,Qm,Qm]
theorem SV{ts:List af}(h:8<ts.length):false=gI ts:=by
 unfold gI;have:decide (ts.length<=8)=false:=Ql (by omega);rw[this,Qn,Qm]
theorem WC{ts:List af}(hk:k<ts.length)(h:dV (ts.getD k tz)=false):false=gI ts:=by
 unfold gI;symm;rw[Bool.and_eq_false_iff];right;rw[Qo];refine⟨ts[k],Qp hk,?_⟩;simp[List.getD,hk]at h;simp[h]
theorem lt_of_cell{o:Nat}(h:w.cell? (aD b o)=some v):b<w.heap.size:=by
 simp only[World.cell?]at h;rcases Qq b w.heap.size with hb | hb
 ·exact hb
 ·simp[Array.getElem?_eq_none hb]at h
def Qg:=@WB
def Qh:=@ace
def Qi:=@bC.get
def Qj:=@aB.get
def aJ(ts:List af)(xs:List Int):Int:=(xs.map fun t=>(ts.getD t.toNat tz).aO).sum
theorem kM(ts:List af)(xs:List Int)(k:Nat)(hk:k<xs.length):aJ ts (xs.take (k+1))=aJ ts (xs.take k)+(ts.getD xs[k].toNat tz).aO:=by
 unfold aJ;rw[Qr hk,Qs,List.sum_append];simp
theorem qx{ts:List af}(hc:gI ts=true)(hi:i<ts.length):1<=(ts.getD i tz).aO/\(ts.getD i tz).aO<=4:=by
 unfold gI at hc;rw[Qt]at hc;have h:=Qu.1 hc.2 (ts.getD i tz) (by simp[List.getD,hi]);unfold dV at h;rw[decide_eq_true_iff]at h;exact⟨h.1,h.2.1⟩
theorem mV(h:bN xs n=true)(hk:k<xs.length):0<=xs[k]/\xs[k]<n:=by
 unfold bN at h;have:=Qu.1 h xs[k] (Qp hk)
 simpa using this
theorem tV{ts:List af}{xs:List Int}(hc:gI ts=true)(ha:bN xs ts.length=true):∀ k,k<=xs.length->0<=aJ ts (xs.take k)/\aJ ts (xs.take k)<=4*k
 | 0,_ => by simp[aJ]
 | k+1,hk => by
  have ih:=tV hc ha k (by omega);rw[kM ts xs k (by omega)];have h1:=mV ha (k:=k) (by omega);have h2:=qx hc (i:=(xs[k]'(by omega)).toNat) (by omega);omega
theorem cB(hb:Bw w w'){o:Nat}(h:w.cell? (aD b o)=some v):w'.cell? (aD b o)=some v:=
 (hb.cell (p:=(aD b o)) (lt_of_cell h)).trans h
theorem bC.below{w w':World}(hb:Bw w w'){ao:Option Addr}{n:Nat}{f:Nat->Value}(h:bC w ao n f):bC w' ao n f:=fun i hi=>by
 obtain⟨b,off,e,hc⟩:=h i hi;exact⟨b,off,e,cB hb hc⟩
theorem aB.below{w w':World}(hb:Bw w w'){ao:Option Addr}{xs:List Int}(h:aB w ao xs):aB w' ao xs:=⟨h.1,h.2.below hb⟩
theorem aZ.below{w w':World}(hb:Bw w w'){ao:Option Addr}{ts:List af}(h:aZ w ao ts):aZ w' ao ts:=⟨h.1,fun i hi=>by
 obtain⟨b,off,e,c0,c1,c2,c3,c4,c5⟩:=h.2 i hi;exact⟨b,off,e,cB hb c0,cB hb c1,cB hb c2,cB hb c3,cB hb c4,cB hb c5⟩⟩
theorem bH.below{w w':World}(hb:Bw w w'){ao:Option Addr}{cs:List aC}(h:bH w ao cs):bH w' ao cs:=⟨h.1,fun i hi=>by
 obtain⟨b,off,e,c0,c1,c2,c3,c4⟩:=h.2 i hi;exact⟨b,off,e,cB hb c0,cB hb c1,cB hb c2,cB hb c3,cB hb c4⟩⟩
theorem gH.below{w w':World}(hb:Bw w w'){ao:Option Addr}{ls:List aH}(h:gH w ao ls):gH w' ao ls:=
 ⟨h.1,h.2.1.below hb,fun i hi=>(h.2.2 i hi).below hb⟩
theorem ae.At.below{w w':World}(hb:Bw w w'){q:ae}(h:q.At w):q.At w':=
 ⟨aB.below hb h.src,h.wh.below hb,aB.below hb h.keys,aB.below hb h.sums,aB.below hb h.aV,aB.below hb h.ord⟩
theorem dn(w:World)(o:Obj):Bw w (w.alloc o):=(Qw _ _).alloc (Qx _) o
theorem aA(h:Bw w w1)(k:Bw w1 w2):Bw w w2:=h.trans (k.mono h.size)
theorem wY(hb:Bw W w1):(∀ b o,b<W.heap.size->w1.cell? (aD b o)=W.cell? (aD b o)):=
 fun b o h=>hb.cell (p:=(aD b o)) h
def mO(src:List Int)(wh:List (List aC))(keys sums aV ord:List Int):Bool:=
 decide (5<src.length∨8<wh.length∨8<aV.length∨4<keys.length∨4<sums.length∨4<ord.length) || wh.any (fun c=>decide (3<c.length))
def iV(c:List aC)(n:Int):Bool:=decide (0<c.length)&&c.all (fun x=>fu x n)
def fw(wh:List (List aC))(n:Int):Bool:=wh.all (fun c=>iV c n)
def uM(n:Int)(group:Bool)(keys sums aV ord:List Int):Bool:=
 bN aV n&&bN keys n&&bN sums n&&bN ord (Bo group keys sums aV)&&di keys&&di ord&&(group==decide (aV.length=0))&&(group || decide (keys.length+sums.length=0))
def checkN(ts:List af)(src:List Int)(wh:List (List aC))(group:Bool)(keys sums aV ord:List Int):Int:=
 if gI ts=false then 1
 else if mO src wh keys sums aV ord=true then 2
 else if bN src ts.length=true/\0<src.length/\fw wh (aJ ts src)=true/\uM (aJ ts src) group keys sums aV ord=true then 0
 else 3
def ae.mP(q:ae):List (List aC):=q.wh.map aH.cs
def ae.check(q:ae)(ts:List af):Int:=checkN ts q.src.xs q.mP q.group q.keys.xs q.sums.xs q.aV.xs q.ord.xs
theorem ae.SX{q:ae}{ts:List af}(h:gI ts=false):(1:Int)=q.check ts:=by
 unfold ae.check checkN;rw[Qy h]
theorem ae.Nf{q:ae}{ts:List af}(h:gI ts=true)(hf:mO q.src.xs q.mP q.keys.xs q.sums.xs q.aV.xs q.ord.xs=true):(2:Int)=q.check ts:=by
 unfold ae.check checkN;rw[Qz (by simp[h]),Qy hf]
def zV(ls:List aH)(k:Nat):Bool:=(ls.take k).any (fun c=>decide (3<c.cs.length))
theorem SY(q:ae):q.mP.any (fun c=>decide (3<c.length))=zV q.wh q.wh.length:=by
 unfold zV ae.mP;rw[QA,List.any_map];rfl
theorem Gb{q:ae}{n:Int}{k:Nat}(hk:k<q.wh.length)(h:iV (q.wh.getD k lz).cs n=false):fw q.mP n=false:=by
 unfold fw ae.mP;rw[List.all_map,Qo];refine⟨q.wh[k],Qp hk,?_⟩;simp[List.getD,hk]at h;simp[h]
theorem DK{q:ae}{n:Int}(h:∀ k,k<q.wh.length->iV (q.wh.getD k lz).cs n=true):fw q.mP n=true:=by
 unfold fw ae.mP;rw[List.all_map,Qu];intro c hc;obtain⟨k,hk,rfl⟩:=QC hc;have:=h k hk
 simpa [List.getD,hk] using this
theorem Gc{c:List aC}(h:¬ 0<c.length):iV c n=false:=by
 unfold iV;rw[Ql h,Qm]
theorem I5{c:List aC}(hk:k<c.length)(h:fu (c.getD k cz) n=false):iV c n=false:=by
 unfold iV;have:c.all (fun x=>fu x n)=false:=by
  rw[Qo];refine⟨c[k],Qp hk,?_⟩;simp[List.getD,hk]at h;simp[h]
 rw[this,Qn]
theorem Gd{c:List aC}(h0:0<c.length)(h:∀ k,k<c.length->fu (c.getD k cz) n=true):iV c n=true:=by
 unfold iV;rw[QD h0,QE,Qu];intro x hx;obtain⟨k,hk,rfl⟩:=QC hx;have:=h k hk
 simpa [List.getD,hk] using this
def Qv:=@aB.below
theorem Ay{P:Program}{id:Nat}{Q:Exit->Act->World->Prop}{a:Act}{w:World}{l:List Oper}(hm:P.follows .mixedOrders=true)(hB:Region.lexB .any l.toArray=true)
  (h:wpQuiet P l.toArray (fun x=>Bw w x) (fun a'=>∀ x,Bw w x->Q .normal a' x) l a):(Code.region id l.toArray true).wp P Q a w:=
 wp_region_quiet (C:=fun x=>Bw w x) hm hB (Qw _ _).drew (by simpa using h)
theorem Calls.within{P:Program}{f:FuncId}{args:Array Value}{w x:World}{v:Value}(hx:Bw w x)
  (h:Calls P f args x fun e w'=>e=.returned v/\Bw x w'):Calls P f args x fun e w''=>e=.returned v/\Bw w w'':=
 h.mono fun _ _ ⟨he,hb⟩=>⟨he,aA hx hb⟩
theorem Calls.I6{f:FuncId}{args:Array Value}(hx:Bw w x)
  (h:Calls P f args x fun e w'=>e=.returned v/\w' = x):Calls P f args x fun e w''=>e=.returned v/\Bw w w'':=
 h.mono fun _ _ ⟨he,hb⟩=>⟨he,by rw[hb]; exact hx⟩
section
variable {N:Int} {group:Bool} {keys sums aV ord:List Int}
theorem acg:((aV.length:Int)==0)=decide (aV.length=0):=by
 rw[QI];simp
end
def foundAt(r:Int)(b:Bool):Prop:=-1<=r/\decide (0<=r)=b
theorem Gf{p:α->Bool}{xs:List α}{z:α}(hk:k<xs.length)(h:p (xs.getD k z)=true):xs.any p=true:=by
 rw[List.any_eq_true];exact⟨xs[k],Qp hk,by simpa [List.getD,hk] using h⟩
theorem any_none{p:α->Bool}{xs:List α}{z:α}(h:∀ k,k<xs.length->p (xs.getD k z)=false):xs.any p=false:=by
 rw[List.any_eq_false];intro x hx;obtain⟨k,hk,rfl⟩:=QC hx;have:=h k hk
 simpa [List.getD,hk] using this
theorem WE{ts:List af}(h1:¬ ts.length<1)(h8:¬ 8<ts.length):(!(ts.any fun t=>!dV t))=gI ts:=by
 unfold gI;rw[QD (show 1<=ts.length by omega),QD (show ts.length<=8 by omega),List.not_any_eq_all_not];simp
def yV(x n:Int):Bool:=decide (0<=x)&&decide (x<n)
theorem WG(xs:List Int)(n:Int):(!(xs.any fun x=>!yV x n))=bN xs n:=by
 unfold bN yV;rw[List.not_any_eq_all_not];simp
theorem WH(ls:List aH):(ls.any fun c=>decide (3<c.cs.length))=zV ls ls.length:=by
 unfold zV;rw[QA]
theorem ae.Ry(q:ae):mO q.src.xs q.mP q.keys.xs q.sums.xs q.aV.xs q.ord.xs =
  (decide (5<q.src.xs.length∨8<q.wh.length∨8<q.aV.xs.length∨4<q.keys.xs.length∨4<q.sums.xs.length∨4<q.ord.xs.length) || zV q.wh q.wh.length):=by
 unfold mO;rw[SY];simp[ae.mP]
theorem WI{c:aC}{n:Int}(h:yV c.left n=false):false=fu c n:=by
 refine(Bool.eq_false_iff.2 ?_).symm;intro h';simp only[fu,Qt,QJ]at h';simp only[yV,Bool.and_eq_false_iff,Qk]at h;omega
theorem vz{c:aC}{n:Int}(h:yV c.left n=true)(ho:c.op=0∨c.op=1)(hc:c.const=true):(decide (-1000<=c.right)&&decide (c.right<=1000))=fu c n:=by
 simp only[yV,Qt,QJ]at h;unfold fu;rw[Qz (by omega),Qy hc,QD h.1,QD h.2,QD (show 0<=c.op by omega),QD (show c.op<=2 by omega)];simp
theorem yX{c:aC}{n:Int}(h:yV c.left n=true)(ho:c.op=0∨c.op=1)(hc:c.const=false):yV c.right n=fu c n:=by
 simp only[yV,Qt,QJ]at h;unfold fu;rw[Qz (by omega),Qz (by simp[hc]),QD h.1,QD h.2,QD (show 0<=c.op by omega),QD (show c.op<=2 by omega)];simp only[yV,Bool.and_self,QE];congr 1;exact decide_eq_decide.2 (by omega)
theorem I7{c:aC}{n:Int}(h:yV c.left n=true)(ho:c.op=2):(!c.const&&decide (c.right=0))=fu c n:=by
 simp only[yV,Qt,QJ]at h;unfold fu;rw[Qy ho,QD h.1,QD h.2,QD (show 0<=c.op by omega),QD (show c.op<=2 by omega)];simp
theorem I8{c:aC}{n:Int}(h0:¬ c.op=0)(h1:¬ c.op=1)(h2:¬ c.op=2):false=fu c n:=by
 refine(Bool.eq_false_iff.2 ?_).symm;intro h';simp only[fu,Qt,QJ]at h';omega
def QG:=@Ay
def QH:=@Calls.within
theorem l6(w:World)(o:Obj):(w.alloc o).heap[w.heap.size]? = some o:=by
 show (w.heap.push o)[w.heap.size]? = _
 simp
theorem wZ(w:World)(c cs:Array Value)(t:TypeId):(w.alloc (.cells c t)).setRow w.heap.size cs=w.alloc (.cells cs t):=by
 unfold World.setRow World.alloc;simp only[World.mk.injEq,and_true];apply Array.ext_getElem?;intro i;rw[Array.getElem?_modify,Array.getElem?_push,Array.getElem?_push];by_cases h:i=w.heap.size
 ·subst h;simp
 ·have:¬ w.heap.size=i:=fun e=>h e.symm
  simp[h,this]
theorem DL(w:World)(c:Array Value)(t:TypeId)(i:Nat)(v:Value):(w.alloc (.cells c t)).setCell (aD w.heap.size i) v=w.alloc (.cells (c.setIfInBounds i v) t):=by
 rw[setCell_eq_setRow (w.alloc (.cells c t)) w.heap.size i c t (0,0) v (l6 w _),wZ]
theorem addr_add(b off j:Nat):((aD b off):Addr).add j=(aD b (off+j)):=by unfold Addr.add; split <;> simp_all
theorem DR(w:World)(dT sT ty elem:TypeId)(size g dLen dCap:Nat)(sp:Option Addr)(sLen sCap:Nat)(cur:Array Value)(t:TypeId)(cs:List Value)
  (hu:P.underlying dT=some (.slice elem)) (hs:(P.info? elem).map (·.size)=some size) (hg:w.heap[g]? = some (.cells cur t (0,0))) (hle:sLen<=dLen) (hn:cs.length=sLen*size)
  (hsrc:0<cs.length->∃ a,sp=some a/\∀ j v,cs[j]? = some v->w.cell? (a.add j)=some v) (hfit:cs.length<=cur.size) (h1:∀ v∈cs,v.oneCell' = true) :
  (Builtin.copy_ #[dT,sT] ty #[.slice (some (aD g 0)) dLen dCap,.slice sp sLen sCap]).run P w=.ok (goInt sLen) (w.setRow g (cs++cur.toList.drop cs.length).toArray):=by
 have hst:=run_storeCells_at P g 0 t cs 0 cur w hg (by simpa using hfit) h1;have hmin:Nat.min sLen dLen=sLen:=QK hle
 cases hq:P.info? elem with
 | none => simp[hq]at hs
 | some i =>
  have hi:i.size=size:=by simpa [hq] using hs
  by_cases h0:cs.length=0
  ·obtain rfl:cs=[]:=QL h0;have hself:w.setRow g cur=w:=setRow_self w g cur t (0,0) hg;have hl:∀ (x:Addr),(loadCells x (sLen*size)).run P w=.ok #[] w:=fun x=>by
    rw[<- hn]
    simpa using run_loadCells_list (P:=P) w x [] (by simp)
   cases sp <;> simp[Builtin.copy_,run_underlying hu,Builtin.lenOf,Builtin.firstCells,sizeOf,typeInfo,hq,hi,hmin,storeCells,hl,hself]
  ·obtain⟨a,rfl,hc⟩:=hsrc (by omega);have hl:=run_loadCells_list (P:=P) w a cs hc;rw[hn]at hl;simp[Builtin.copy_,run_underlying hu,Builtin.lenOf,Builtin.firstCells,sizeOf,typeInfo,hq,hi,hmin,hl,hst]
theorem uN(z:Value)(n:Nat):madeCells #[z] n=(List.replicate n z).toArray:=by
 apply Array.ext_getElem?;intro i;by_cases hi:i<n
 ·simp[madeCells,hi];simp[Nat.mod_one]
 ·simp[madeCells,hi]
theorem Gg{α:Type}(f:α->List Value)(s:Nat)(hf:∀ x,(f x).length=s)(z:α):∀ (xs:List α) (rest:List Value) (i j:Nat),i<xs.length->j<s->(xs.flatMap f++rest)[i*s+j]? = (f (xs.getD i z))[j]?
 | [],_,i,_,hi,_ => absurd hi (by simp)
 | x::xs,rest,0,j,_,hj => by
  rw[QM,QO,QP,QQ,QR (by rw[hf]; exact hj)];rfl
 | x::xs,rest,i+1,j,hi,hj => by
  have ih:=Gg f s hf z xs rest i j (by simpa using hi) hj;rw[QM,QO,QS (by rw[hf,Nat.add_mul]; omega),hf];rw[show (i+1)*s+j-s=i*s+j by rw[Nat.add_mul]; omega,ih];rfl
def aC.vals(c:aC):List Value:=[.bool c.not,.int .i64 c.op,.int .i64 c.left,.bool c.const,.int .i64 c.right]
def zc:List Value:=[.bool false,.int .i64 0,.int .i64 0,.bool false,.int .i64 0]
def ic:List Value:=[.bool false,.int .i64 77777,.int .i64 0,.bool false,.int .i64 0]
def it:List Value:=[.int .i64 77777,.int .i64 0,.int .i64 0,.int .i64 0,.int .i64 0,.int .i64 0]
def GB(w:World)(G:Nat)(t:TypeId)(c:Array Value):Prop:=w.heap[G]? = some (.cells c t (0,0))
theorem aU(w:World)(c:Array Value)(t:TypeId):∃ x,w.alloc (.cells c t)=x/\Bw w x/\GB x w.heap.size t c:=⟨_,rfl,dn _ _,l6 _ _⟩
theorem GB.cell{w:World}{G:Nat}{t:TypeId}{c:Array Value}(h:GB w G t c)(i:Nat):w.cell? (aD G i)=c[i]?:=by
 unfold GB at h;simp[World.cell?,h]
theorem GB.frozen{w:World}{G:Nat}{t:TypeId}{c:Array Value}(h:GB w G t c)(i:Nat):w.frozen? (aD G i)=false:=by
 unfold GB at h;simp[World.frozen?,h]
theorem GB.lt(h:GB w G t c):G<w.heap.size:=by
 unfold GB at h;exact(QV.1 h).1
theorem GB.set(h:GB w G t c)(i:Nat)(v:Value):GB (w.setCell (aD G i) v) G t (c.setIfInBounds i v):=by
 unfold GB at *;rw[setCell_eq_setRow w G i c t (0,0) v h];exact setRow_heap w G c _ t _ h
theorem GB.of(h:GB w G t c)(e:w'.heap[G]? = w.heap[G]?):GB w' G t c:=by
 unfold GB at *;rw[e];exact h
theorem heap_alloc{w:World}{o:Obj}{k:Nat}(h:k<w.heap.size):(w.alloc o).heap[k]? = w.heap[k]?:=Below.heap_alloc _ _ _ h
def QT:=@GB.cell
def QU:=@GB.frozen
theorem GB.at(h:GB w G t c)(i:Nat)(hv:c.toList[i]? = some v:=by exact rfl):w.cell? (aD G i)=some v:=by
 rw[h.cell i,<- Array.getElem?_toList];exact hv
theorem hd(h:p):Hid p:=h
theorem pA(l:List Value)(d)(i:Nat)(v:Value):Act.put { tmps:=l.toArray,defers:=d } (some i) v = { tmps:=(l.set i v).toArray,defers:=d }:=by simp[Act.put]
theorem pU:(∀ (l:List Value) (d) (i:Nat) (v:Value),Act.put { tmps:=l.toArray,defers:=d } (some i) v = { tmps:=(l.set i v).toArray,defers:=d })/\(∀ {x:Value} {l:List Value} {n:Nat} {a:Value},(x::l).set (n+1) a=x::l.set n a)/\(∀ {x:Value} {l:List Value} {a:Value},(x::l).set 0 a=a::l):=⟨pA,Qe,Qf⟩
theorem wt(i:Nat)(v:Value)(hS:S w)(h:wpAnyH P md ops Q S fuel (listed.setIfInBounds i true) (a.put oi.dst v) w)(hi:ops[i]? = some oi:=by exact rfl)(hs:Region.noSelect ops=true:=by kernel_rfl)(hf:Region.free md ops listed i=true:=by kernel_rfl)(hr:(Region.ready md ops listed).contains i=true:=by kernel_rfl)(hQ:∀ c a w,Q (.panic c) (a.put oi.dst v) w->Q (.panic c) a w:=by exact fun _ _ _ h=>h)(hg:Region.wanted oi (yielded ops a.tmps)=true:=by rfl)(hy:∀ x,S x->(execOp a.eval oi).run P x=.ok (.value v) x:=by intro x hx; go_simp):wpAnyH P md ops Q S (fuel+1) listed a w:=
 Qa hi hs hf hr hQ (.inl ⟨hg,hy⟩) hS h
theorem wg(i:Nat)(v:Value)(hS:S w)(h:wpAnyH P md ops Q S fuel (listed.setIfInBounds i true) (a.put oi.dst v) w)(hi:ops[i]? = some oi:=by exact rfl)(hs:Region.noSelect ops=true:=by kernel_rfl)(hf:Region.free md ops listed i=true:=by kernel_rfl)(hr:(Region.ready md ops listed).contains i=true:=by kernel_rfl)(hQ:∀ c a w,Q (.panic c) (a.put oi.dst v) w->Q (.panic c) a w:=by exact fun _ _ _ h=>h)(hg:Region.wanted oi (yielded ops a.tmps)=true:=by kernel_rfl)(hy:∀ x,S x->(execOp a.eval oi).run P x=.ok (.value v) x:=by intro x hx; go_simp):wpAnyH P md ops Q S (fuel+1) listed a w:=
 Qa hi hs hf hr hQ (.inl ⟨hg,hy⟩) hS h
theorem wn(i:Nat)(v:Value)(hS:S w)(h:wpAnyH P md ops Q S fuel (listed.setIfInBounds i true) (a.put oi.dst v) w)(hi:ops[i]? = some oi:=by exact rfl)(hs:Region.noSelect ops=true:=by kernel_rfl)(hf:Region.free md ops listed i=true:=by kernel_rfl)(hr:(Region.ready md ops listed).contains i=true:=by kernel_rfl)(hQ:∀ c a w,Q (.panic c) (a.put oi.dst v) w->Q (.panic c) a w:=by exact fun _ _ _ h=>by cases h.1)(hg:Region.wanted oi (yielded ops a.tmps)=true:=by rfl)(hy:∀ x,S x->(execOp a.eval oi).run P x=.ok (.value v) x:=by intro x hx; go_simp):wpAnyH P md ops Q S (fuel+1) listed a w:=
 Qa hi hs hf hr hQ (.inl ⟨hg,hy⟩) hS h
theorem wm(i:Nat)(v:Value)(hS:S w)(h:wpAnyH P md ops Q S fuel (listed.setIfInBounds i true) (a.put oi.dst v) w)(hi:ops[i]? = some oi:=by exact rfl)(hs:Region.noSelect ops=true:=by kernel_rfl)(hf:Region.free md ops listed i=true:=by kernel_rfl)(hr:(Region.ready md ops listed).contains i=true:=by kernel_rfl)(hQ:∀ c a w,Q (.panic c) (a.put oi.dst v) w->Q (.panic c) a w:=by exact fun _ _ _ h=>by cases h.1)(hg:Region.wanted oi (yielded ops a.tmps)=true:=by kernel_rfl)(hy:∀ x,S x->(execOp a.eval oi).run P x=.ok (.value v) x:=by intro x hx; go_simp):wpAnyH P md ops Q S (fuel+1) listed a w:=
 Qa hi hs hf hr hQ (.inl ⟨hg,hy⟩) hS h
theorem lH{o:Nat}(i:Nat)(v:Value)(hS:Bw W w)(c:W.cell? (aD b o)=some u)(h:wpAnyH P md ops Q (fun x=>Bw W x) fuel (listed.setIfInBounds i true) (a.put oi.dst v) w)(hi:ops[i]? = some oi:=by exact rfl)(hs:Region.noSelect ops=true:=by kernel_rfl)(hf:Region.free md ops listed i=true:=by kernel_rfl)(hr:(Region.ready md ops listed).contains i=true:=by kernel_rfl)(hQ:∀ c a w,Q (.panic c) (a.put oi.dst v) w->Q (.panic c) a w:=by exact fun _ _ _ h=>h)(hg:Region.wanted oi (yielded ops a.tmps)=true:=by rfl)(hy:∀ x,x.cell? (aD b o)=some u->(execOp a.eval oi).run P x=.ok (.value v) x:=by intro x hx; go_simp):wpAnyH P md ops Q (fun x=>Bw W x) (fuel+1) listed a w:=
 Qa hi hs hf hr hQ (.inl ⟨hg,fun x hx=>hy x (cB hx c)⟩) hS h
theorem wgc{o:Nat}(i:Nat)(v:Value)(hS:Bw W w)(c:W.cell? (aD b o)=some u)(h:wpAnyH P md ops Q (fun x=>Bw W x) fuel (listed.setIfInBounds i true) (a.put oi.dst v) w)(hi:ops[i]? = some oi:=by exact rfl)(hs:Region.noSelect ops=true:=by kernel_rfl)(hf:Region.free md ops listed i=true:=by kernel_rfl)(hr:(Region.ready md ops listed).contains i=true:=by kernel_rfl)(hQ:∀ c a w,Q (.panic c) (a.put oi.dst v) w->Q (.panic c) a w:=by exact fun _ _ _ h=>h)(hg:Region.wanted oi (yielded ops a.tmps)=true:=by kernel_rfl)(hy:∀ x,x.cell? (aD b o)=some u->(execOp a.eval oi).run P x=.ok (.value v) x:=by intro x hx; go_simp):wpAnyH P md ops Q (fun x=>Bw W x) (fuel+1) listed a w:=
 Qa hi hs hf hr hQ (.inl ⟨hg,fun x hx=>hy x (cB hx c)⟩) hS h
def IsV(_:Value):Prop:=True
theorem aj7{p:Value->Prop}(_:IsV v)(h:p v):∃ x,p x:=⟨v,h⟩
theorem qS{P Q:Prop}(v:Value)(k:Q)(h:IsV v->Q->P:=by
  intro hv hq;go_big_quiet_want;refine aj7 hv ⟨fun x hx=>?_,?_⟩
  ·go_simp
  ·simp only[pU];go_big_quiet_on;exact hq):P:=h trivial k
theorem qC{P Q C:Prop}(v:Value)(c:C)(k:Q)(h:IsV v->C->Q->P:=by
  intro hv c hq;go_big_quiet_want;refine aj7 hv ⟨fun x hx=>?_,?_⟩
  ·have e0:=cB hx c;go_simp
  ·simp only[pU];go_big_quiet_on;exact hq):P:=h trivial c k
theorem cR5(hx:Bw w x)(a0:w.cell? (aD b0 o0)=some v0)(a1:w.cell? (aD b1 o1)=some v1)(a2:w.cell? (aD b2 o2)=some v2)(a3:w.cell? (aD b3 o3)=some v3)(a4:w.cell? (aD b4 o4)=some v4):x.cell? (aD b0 o0)=some v0/\x.cell? (aD b1 o1)=some v1/\x.cell? (aD b2 o2)=some v2/\x.cell? (aD b3 o3)=some v3/\x.cell? (aD b4 o4)=some v4:=⟨cB hx a0,cB hx a1,cB hx a2,cB hx a3,cB hx a4⟩
theorem MI(hx:Bw w x)(a0:w.cell? (aD b0 o0)=some v0)(a1:w.cell? (aD b1 o1)=some v1)(a2:w.cell? (aD b2 o2)=some v2)(a3:w.cell? (aD b3 o3)=some v3)(a4:w.cell? (aD b4 o4)=some v4)(a5:w.cell? (aD b5 o5)=some v5):x.cell? (aD b0 o0)=some v0/\x.cell? (aD b1 o1)=some v1/\x.cell? (aD b2 o2)=some v2/\x.cell? (aD b3 o3)=some v3/\x.cell? (aD b4 o4)=some v4/\x.cell? (aD b5 o5)=some v5:=⟨cB hx a0,cB hx a1,cB hx a2,cB hx a3,cB hx a4,cB hx a5⟩
theorem IJ(hx:Bw w x)(a0:w.cell? (aD b0 o0)=some v0)(a1:w.cell? (aD b1 o1)=some v1)(a2:w.cell? (aD b2 o2)=some v2)(a3:w.cell? (aD b3 o3)=some v3)(a4:w.cell? (aD b4 o4)=some v4)(a5:w.cell? (aD b5 o5)=some v5)(a6:w.cell? (aD b6 o6)=some v6):x.cell? (aD b0 o0)=some v0/\x.cell? (aD b1 o1)=some v1/\x.cell? (aD b2 o2)=some v2/\x.cell? (aD b3 o3)=some v3/\x.cell? (aD b4 o4)=some v4/\x.cell? (aD b5 o5)=some v5/\x.cell? (aD b6 o6)=some v6:=⟨cB hx a0,cB hx a1,cB hx a2,cB hx a3,cB hx a4,cB hx a5,cB hx a6⟩
theorem lI(hx:Bw w x){b7 o7 b8 o8 b9 o9 b10 o10 b11 o11 b12 o12:Nat}(a0:w.cell? (aD b0 o0)=some v0)(a1:w.cell? (aD b1 o1)=some v1)(a2:w.cell? (aD b2 o2)=some v2)(a3:w.cell? (aD b3 o3)=some v3)(a4:w.cell? (aD b4 o4)=some v4)(a5:w.cell? (aD b5 o5)=some v5)(a6:w.cell? (aD b6 o6)=some v6)(a7:w.cell? (aD b7 o7)=some v7)(a8:w.cell? (aD b8 o8)=some v8)(a9:w.cell? (aD b9 o9)=some v9)(iy:w.cell? (aD b10 o10)=some v10)(iL:w.cell? (aD b11 o11)=some v11)(a12:w.cell? (aD b12 o12)=some v12):x.cell? (aD b0 o0)=some v0/\x.cell? (aD b1 o1)=some v1/\x.cell? (aD b2 o2)=some v2/\x.cell? (aD b3 o3)=some v3/\x.cell? (aD b4 o4)=some v4/\x.cell? (aD b5 o5)=some v5/\x.cell? (aD b6 o6)=some v6/\x.cell? (aD b7 o7)=some v7/\x.cell? (aD b8 o8)=some v8/\x.cell? (aD b9 o9)=some v9/\x.cell? (aD b10 o10)=some v10/\x.cell? (aD b11 o11)=some v11/\x.cell? (aD b12 o12)=some v12:=⟨cB hx a0,cB hx a1,cB hx a2,cB hx a3,cB hx a4,cB hx a5,cB hx a6,cB hx a7,cB hx a8,cB hx a9,cB hx iy,cB hx iL,cB hx a12⟩
theorem GB.k2(h:GB w G t c)(e:c.toList.take 2=[v0,v1]:=by exact rfl):w.cell? (aD G 0)=some v0/\w.cell? (aD G 1)=some v1:=by
 have r:∀ i,i<2->c.toList[i]? = ([v0,v1]:List Value)[i]?:=fun i hi=>by rw[<- e,QW hi]
 exact⟨h.at 0 (r 0 (by decide)),h.at 1 (r 1 (by decide))⟩
theorem GB.k3(h:GB w G t c)(e:c.toList.take 3=[v0,v1,v2]:=by exact rfl):w.cell? (aD G 0)=some v0/\w.cell? (aD G 1)=some v1/\w.cell? (aD G 2)=some v2:=by
 have r:∀ i,i<3->c.toList[i]? = ([v0,v1,v2]:List Value)[i]?:=fun i hi=>by rw[<- e,QW hi]
 exact⟨h.at 0 (r 0 (by decide)),h.at 1 (r 1 (by decide)),h.at 2 (r 2 (by decide))⟩
theorem GB.k4(h:GB w G t c)(e:c.toList.take 4=[v0,v1,v2,v3]:=by exact rfl):w.cell? (aD G 0)=some v0/\w.cell? (aD G 1)=some v1/\w.cell? (aD G 2)=some v2/\w.cell? (aD G 3)=some v3:=by
 have r:∀ i,i<4->c.toList[i]? = ([v0,v1,v2,v3]:List Value)[i]?:=fun i hi=>by rw[<- e,QW hi]
 exact⟨h.at 0 (r 0 (by decide)),h.at 1 (r 1 (by decide)),h.at 2 (r 2 (by decide)),h.at 3 (r 3 (by decide))⟩
theorem GB.k5(h:GB w G t c)(e:c.toList.take 5=[v0,v1,v2,v3,v4]:=by exact rfl):w.cell? (aD G 0)=some v0/\w.cell? (aD G 1)=some v1/\w.cell? (aD G 2)=some v2/\w.cell? (aD G 3)=some v3/\w.cell? (aD G 4)=some v4:=by
 have r:∀ i,i<5->c.toList[i]? = ([v0,v1,v2,v3,v4]:List Value)[i]?:=fun i hi=>by rw[<- e,QW hi]
 exact⟨h.at 0 (r 0 (by decide)),h.at 1 (r 1 (by decide)),h.at 2 (r 2 (by decide)),h.at 3 (r 3 (by decide)),h.at 4 (r 4 (by decide))⟩
theorem GB.k6(h:GB w G t c)(e:c.toList.take 6=[v0,v1,v2,v3,v4,v5]:=by exact rfl):w.cell? (aD G 0)=some v0/\w.cell? (aD G 1)=some v1/\w.cell? (aD G 2)=some v2/\w.cell? (aD G 3)=some v3/\w.cell? (aD G 4)=some v4/\w.cell? (aD G 5)=some v5:=by
 have r:∀ i,i<6->c.toList[i]? = ([v0,v1,v2,v3,v4,v5]:List Value)[i]?:=fun i hi=>by rw[<- e,QW hi]
 exact⟨h.at 0 (r 0 (by decide)),h.at 1 (r 1 (by decide)),h.at 2 (r 2 (by decide)),h.at 3 (r 3 (by decide)),h.at 4 (r 4 (by decide)),h.at 5 (r 5 (by decide))⟩
theorem GB.k7(h:GB w G t c)(e:c.toList.take 7=[v0,v1,v2,v3,v4,v5,v6]:=by exact rfl):w.cell? (aD G 0)=some v0/\w.cell? (aD G 1)=some v1/\w.cell? (aD G 2)=some v2/\w.cell? (aD G 3)=some v3/\w.cell? (aD G 4)=some v4/\w.cell? (aD G 5)=some v5/\w.cell? (aD G 6)=some v6:=by
 have r:∀ i,i<7->c.toList[i]? = ([v0,v1,v2,v3,v4,v5,v6]:List Value)[i]?:=fun i hi=>by rw[<- e,QW hi]
 exact⟨h.at 0 (r 0 (by decide)),h.at 1 (r 1 (by decide)),h.at 2 (r 2 (by decide)),h.at 3 (r 3 (by decide)),h.at 4 (r 4 (by decide)),h.at 5 (r 5 (by decide)),h.at 6 (r 6 (by decide))⟩
theorem GB.k8(h:GB w G t c)(e:c.toList.take 8=[v0,v1,v2,v3,v4,v5,v6,v7]:=by exact rfl):w.cell? (aD G 0)=some v0/\w.cell? (aD G 1)=some v1/\w.cell? (aD G 2)=some v2/\w.cell? (aD G 3)=some v3/\w.cell? (aD G 4)=some v4/\w.cell? (aD G 5)=some v5/\w.cell? (aD G 6)=some v6/\w.cell? (aD G 7)=some v7:=by
 have r:∀ i,i<8->c.toList[i]? = ([v0,v1,v2,v3,v4,v5,v6,v7]:List Value)[i]?:=fun i hi=>by rw[<- e,QW hi]
 exact⟨h.at 0 (r 0 (by decide)),h.at 1 (r 1 (by decide)),h.at 2 (r 2 (by decide)),h.at 3 (r 3 (by decide)),h.at 4 (r 4 (by decide)),h.at 5 (r 5 (by decide)),h.at 6 (r 6 (by decide)),h.at 7 (r 7 (by decide))⟩
theorem GB.k9(h:GB w G t c)(e:c.toList.take 9=[v0,v1,v2,v3,v4,v5,v6,v7,v8]:=by exact rfl):w.cell? (aD G 0)=some v0/\w.cell? (aD G 1)=some v1/\w.cell? (aD G 2)=some v2/\w.cell? (aD G 3)=some v3/\w.cell? (aD G 4)=some v4/\w.cell? (aD G 5)=some v5/\w.cell? (aD G 6)=some v6/\w.cell? (aD G 7)=some v7/\w.cell? (aD G 8)=some v8:=by
 have r:∀ i,i<9->c.toList[i]? = ([v0,v1,v2,v3,v4,v5,v6,v7,v8]:List Value)[i]?:=fun i hi=>by rw[<- e,QW hi]
 exact⟨h.at 0 (r 0 (by decide)),h.at 1 (r 1 (by decide)),h.at 2 (r 2 (by decide)),h.at 3 (r 3 (by decide)),h.at 4 (r 4 (by decide)),h.at 5 (r 5 (by decide)),h.at 6 (r 6 (by decide)),h.at 7 (r 7 (by decide)),h.at 8 (r 8 (by decide))⟩
theorem GB.k13(h:GB w G t c)(e:c.toList.take 13=[v0,v1,v2,v3,v4,v5,v6,v7,v8,v9,v10,v11,v12]:=by exact rfl):w.cell? (aD G 0)=some v0/\w.cell? (aD G 1)=some v1/\w.cell? (aD G 2)=some v2/\w.cell? (aD G 3)=some v3/\w.cell? (aD G 4)=some v4/\w.cell? (aD G 5)=some v5/\w.cell? (aD G 6)=some v6/\w.cell? (aD G 7)=some v7/\w.cell? (aD G 8)=some v8/\w.cell? (aD G 9)=some v9/\w.cell? (aD G 10)=some v10/\w.cell? (aD G 11)=some v11/\w.cell? (aD G 12)=some v12:=by
 have r:∀ i,i<13->c.toList[i]? = ([v0,v1,v2,v3,v4,v5,v6,v7,v8,v9,v10,v11,v12]:List Value)[i]?:=fun i hi=>by rw[<- e,QW hi]
 exact⟨h.at 0 (r 0 (by decide)),h.at 1 (r 1 (by decide)),h.at 2 (r 2 (by decide)),h.at 3 (r 3 (by decide)),h.at 4 (r 4 (by decide)),h.at 5 (r 5 (by decide)),h.at 6 (r 6 (by decide)),h.at 7 (r 7 (by decide)),h.at 8 (r 8 (by decide)),h.at 9 (r 9 (by decide)),h.at 10 (r 10 (by decide)),h.at 11 (r 11 (by decide)),h.at 12 (r 12 (by decide))⟩
theorem pV:(∀ (a:Act) (i:Nat) (v:Value),Act.put a (some i) v = { a with tmps:=a.tmps.setIfInBounds i v })/\(∀ (a:Act) (v:Value),Act.put a none v=a)/\(∀ {l:List Value} {i:Nat} (h:i<l.toArray.size),l.toArray[i]=l[i]'(by simpa using h))/\(∀ {x:Value} {l:List Value} {i:Nat} (h:i+1<(x::l).length),(x::l)[i+1]=l[i]'(Nat.lt_of_succ_lt_succ h))/\(∀ {x:Value} {l:List Value} (h:0<(x::l).length),(x::l)[0]=x)/\(∀ {l:List Value} {i:Nat} {a:Value},l.toArray.setIfInBounds i a=(l.set i a).toArray)/\(∀ {x:Value} {l:List Value} {n:Nat} {a:Value},(x::l).set (n+1) a=x::l.set n a)/\(∀ {x:Value} {l:List Value} {a:Value},(x::l).set 0 a=a::l):=
 ⟨fun _ _ _=>rfl,fun _ _=>rfl,fun _=>rfl,fun _=>rfl,fun _=>rfl,ZZ ..,Qe,Qf⟩
theorem wH{id:Nat}(w:World)(h:Bw w w.drew->wpAnyH P .any ops Q (fun x=>Bw w x) ops.size (Array.replicate ops.size false) a w.drew)(hm:P.follows .mixedOrders=true:=by kernel_rfl):(Code.region id ops true).wp P Q a w:=
 QX hm ((Qw _ _).drew) h
theorem wD(h:Q .normal a w)(hr:Region.ready md ops listed=[]:=by kernel_rfl):wpAnyH P md ops Q S fuel listed a w:=QY hr h fuel
theorem oT(hK:Shut (∀ a w,Bw W w->(Bw W w->X a w)->K' a w))(hS:Bw W w)(hb:Bw w w')(h:Bw W w'->X a w'):K' a w':=hK.o _ _ (hS.trans (hb.mono hS.size)) h
theorem oA(hK:Shut (∀ a w,Bw W w->(Bw W w->X a w)->K' a w)){o:Obj}(hS:Bw W w)(h:Bw W (w.alloc o)->X a (w.alloc o)):K' a (w.alloc o):=hK.o _ _ (hS.trans ((dn _ _).mono hS.size)) h
theorem wJ{oj:Oper}(i j:Nat)(h:∀ K':Act->World->Prop,Shut (∀ a w,S w->(S w->wpAnyH P md ops Q S fuel (listed.setIfInBounds i true) a w)->K' a w)->if Region.wanted oi (yielded ops a.tmps)=true then Oper.wp P oi a w K' Q else K' (a.put oi.dst undef) w)(h2:∀ K':Act->World->Prop,Shut (∀ a w,S w->(S w->wpAnyH P md ops Q S fuel (listed.setIfInBounds j true) a w)->K' a w)->if Region.wanted oj (yielded ops a.tmps)=true then Oper.wp P oj a w K' Q else K' (a.put oj.dst undef) w)(hi:ops[i]? = some oi:=by exact rfl)(hj:ops[j]? = some oj:=by exact rfl)(hr:Region.ready md ops listed=[i,j]:=by kernel_rfl):wpAnyH P md ops Q S (fuel+1) listed a w:=
 Qb hr (by simp) (Qc hi h (Qc hj h2 Qd))
theorem Zh(h:p):Hid p:=h
structure Pre(w w2:World)(G tG:Nat)(c:Array Value)(bs:List (Nat × Obj)):Prop where
 WS:Bw w w2
 lo:w.heap.size<=G
 g:GB w2 G tG c
 bs:∀ p,p∈bs->p.1≠G/\w.heap.size<=p.1/\w2.heap[p.1]? = some p.2
theorem Pre.alloc{w w2:World}{G tG:Nat}{c:Array Value}{bs:List (Nat × Obj)}(h:Pre w w2 G tG c bs)(o:Obj):Pre w (w2.alloc o) G tG c ((w2.heap.size,o)::bs):=by
 have hG:=h.g.lt;refine⟨h.WS.alloc h.WS.size o,h.lo,h.g.of (heap_alloc hG),fun p hp=>?_⟩;rcases Q4.1 hp with rfl | hp
 ·exact⟨by show w2.heap.size≠G; omega,h.WS.size,l6 w2 o⟩
 ·have hb:=h.bs p hp;exact⟨hb.1,hb.2.1,(heap_alloc (QV.1 hb.2.2).1).trans hb.2.2⟩
theorem Pre.drop{bs':List (Nat × Obj)}(h:Pre w w2 G tG c bs)(hs:∀ p,p∈bs'->p∈bs):Pre w w2 G tG c bs':=⟨h.WS,h.lo,h.g,fun p hp=>h.bs p (hs p hp)⟩
theorem Pre.at(h:Pre w w2 G tG c bs){t:Nat}{d:Array Value}(hm:(b,Obj.cells d t (0,0))∈bs):GB w2 b t d:=(h.bs _ hm).2.2
theorem xq{base base':Nat}{e:TypeId}{size:Nat}{n:Nat}{xs:List Value}(h:w.ownsRow base e size v n xs)(hb:base'<=base)(ho:∀ j,base<=j->j<w.heap.size->w'.heap[j]? = w.heap[j]?):w'.ownsRow base' e size v n xs:=by
 obtain⟨h1,h2⟩:=h;refine⟨h1,?_⟩;rcases h2 with h2 | ⟨g,cap,cur,hv,hg,hh,r⟩
 ·exact Or.inl h2
 ·exact Or.inr ⟨g,cap,cur,hv,Zl hb hg,(ho g hg (QV.1 hh).1).trans hh,r⟩
def nk:List Value:=[.int .i64 77777,.int .i64 0,.int .i64 0,.int .i64 0,.slice none 0 0,.int .i64 0,.slice none 0 0]
