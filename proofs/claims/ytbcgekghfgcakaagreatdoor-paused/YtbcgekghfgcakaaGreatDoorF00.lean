import Derived.Deep.RegionHeld
import Derived.WalkKit
import Derived.Deep.QuietTactic
import Derived.BigQuiet
import Derived.WalkSmall
import Derived.Laws.CopyOwn
import Derived.Deep.OwnRows
import Derived.Laws.BitsAllLaws
import Derived.RangeFuncRecord
import Derived.RangeFuncBound
import Derived.RangeFuncCalls
import Derived.RangeFuncLeaves
import Derived.Below
import Derived.RangeFuncNested
import Derived.Shelf.Abstract
import Derived.OwnWalkIn
import Derived.TacticsInMore
import Derived.LoopNIn
import Derived.LoopIn
import Derived.Test.YtbcgekghfgcakaaGreatDoorProg
import Derived.Maps.OwnIn
import Derived.Maps.AppendAt
import Derived.OwnWalk
import Derived.Shelf.Spec.SlicesGrow
import Derived.Laws.AppendOwnNone
import Derived.Shelf.RegionOpen
import Derived.BigRegion
import Derived.Deep.AppendLies
import Derived.RegionTactic
import Derived.Deep.Cut
import Derived.Deep.RegionHeld3
import Derived.Deep.RegionLaw
import Derived.Deep.DrawnRows
import Derived.Laws.ShiftsVarLaws
import Derived.Shelf.Bits.Mul64
import Derived.Shelf.Strconv.Itoa0
import Derived.Deep.CutRange
import Derived.Laws.ResultCell
import Derived.OrdersHeld
import Derived.Lib.SliceRun
import Derived.LaidEqlPtr
import Derived.Laws.IdiomCopy
import Derived.Lib.AppendZerosOnto
import Derived.Lib.Overlaps
import Derived.Shelf.Spec.SlicesInsert
import Derived.Laws.Externs
import Derived.Conc.LoneSelect
import Derived.RegionCalls
import Derived.Sort.CutIn
import Derived.WideKeyPair
import Derived.Maps.Views
import Derived.Lib.Atoi
import Derived.Lib.ItoaNum
import Derived.Lib.ItoaMem
import Derived.Lib.IndexMore
import Derived.Lib.Join
import Derived.Shelf.Strings.OnBuilder
import Derived.Shelf.Strconv.Atoi
import Derived.Shelf.Strconv.Itoa3
import Derived.Shelf.Strings.Cut
import Derived.Test.YtbcgekghfgcakaaGreatDoorChecked
set_option linter.all false
set_option maxRecDepth 100000
set_option maxHeartbeats 16000000
namespace Go.RowKit
theorem Hid.o {p:Prop} (h:Hid p):p:=h
end Go.RowKit
namespace Go
theorem Shut.o {p:Prop} (h:Shut p):p:=h
end Go
namespace Go.Proofs.Zz
open Go.RowKit Go.Shelf
theorem eX {α:Type} (a:α):∃ z,a=z:=⟨a,rfl⟩
theorem eY {α:Type} (a:α):∃ z,z=a:=⟨a,rfl⟩
@[reducible] def Bw (w x:World):Prop:=RowKit.Below w.heap.size w x
def Qa:=@Go.wpAnyH_take
def Qb:=@List.set_cons_succ.{0}
def Qc:=@List.set_cons_zero.{0}
def Qg:=@decide_eq_false_iff_not
def Qh:=@decide_eq_false
def Qi:=@Bool.false_and
def Qj:=@List.getElem_mem.{0}
def Qk:=@List.take_succ_eq_append_getElem.{0}
def Ql:=@List.map_append.{0,0}
def Qm:=@Bool.and_eq_true
def Qn:=@List.all_eq_true.{0}
def Qp:=@Go.RowKit.Below.refl
def Qq:=@Nat.le_refl
def Qr:=@if_pos.{1}
def Qs:=@if_neg.{1}
def Qt:=@List.take_length.{0}
def Qu:=@decide_eq_true
def Qv:=@Bool.true_and
def Qw:=@Bool.eq_iff_iff
def Qx:=@decide_eq_true_eq
def Qy:=@Nat.min_eq_left
def Qz:=@List.eq_nil_of_length_eq_zero.{0}
def QA:=@List.flatMap_cons.{0,0}
def QC:=@List.append_assoc.{0}
def QD:=@Nat.zero_mul
def QE:=@Nat.zero_add
def QF:=@List.getElem?_append_right.{0}
def QI:=@Array.getElem?_eq_some_iff.{0}
def QJ:=@List.getElem?_take_of_lt.{0}
def QK:=@List.setIfInBounds_toArray.{0}
def QL:=@Go.wp_region_held_drew
def QM:=@List.foldl_append.{0,0}
def QO:=@List.foldl_cons.{0,0}
def QP:=@List.mem_cons.{0}
def QQ:=@Nat.zero_le
def QR:=@List.range_succ
def QS:=@List.flatMap_append.{0,0}
def QT:=@List.length_append.{0}
def QU:=@List.length_map.{0,0}
def QV:=@List.length_range
def QW:=@List.getElem?_map.{0,0}
def QX:=@List.mem_append.{0}
def QY:=@List.mem_singleton.{0}
def QZ:=@Nat.pow_le_pow_right
def Q0:=@List.mem_map.{0,0}
def Q3:=@Int.toNat_natCast
def Q4:=@Nat.le_trans
def Q5:=@List.length_cons.{0}
def Q6:=@List.length_take.{0}
def Q8:=@Nat.lt_of_lt_of_le
def Zb:=@Go.World.putObj_heap_other
def Zd:=@Go.World.size_alloc
def Ze:=@Go.callsIn_wide
def Zg:=@Go.World.cell?_of_block
def Zi:=@Go.Oper.semAt_some
def Zj:=@List.size_toArray.{0}
def Zk:=@List.length_nil.{0}
def Zl:=@Array.replicate_succ.{0}
def Zm:=@Array.replicate_zero.{0}
def Zn:=@List.push_toArray.{0}
def Zo:=@List.append_toArray.{0}
def Zp:=@List.nil_append.{0}
def Zq:=@List.cons_append.{0}
def Zt:=@Go.callsIn_of_wp_marks
def Zu:=@Go.run_takeDeferred
def ZB:=@Go.World.frozen?_of_block
def ZC:=@Go.info_parts
def ZE:=@Go.World.ownsRow_nil
def ZF:=@List.getElem?_eq_some_iff.{0}
def ZG:=@List.getElem?_eq_getElem.{0}
def ZH:=@List.getElem?_take.{0}
def ZI:=@List.set_append_right.{0}
def ZJ:=@Nat.sub_self
def ZO:=@Go.run_append_own_at
def ZP:=@Go.World.news_of_block
def ZU:=@Nat.add_zero
def ZW:=@Nat.pow_lt_pow_right
def ZX:=@List.mem_of_mem_take.{0}
def ZY:=@List.take_of_length_le.{0}
def ZZ:=@Int.eq_ofNat_of_zero_le
def Z4:=@List.mem_range
def Z6:=@beq_eq_false_iff_ne.{0}
def Z7:=@Go.Calls.mono
def Xc:=@List.drop_eq_getElem_cons.{0}
def Xd:=@List.length_replicate.{0}
def Xg:=@Int.tmod_eq_emod_of_nonneg
def Xi:=@Go.bodyPost_ret
def Xj:=@Go.results_cell_row
def Xl:=@List.append_nil.{0}
def Xm:=@List.mem_cons_of_mem.{0}
def Xo:=@List.mem_cons_self.{0}
def Xq:=@List.getD_eq_getElem?_getD.{0}
def Xr:=@List.getElem?_eq_none.{0}
def Xw:=@Go.wpAnyIn_ready
def Xx:=@Go.AllReadyIn.cons
def Xy:=@Go.AllReadyIn.nil
def Xz:=@List.mem_flatMap.{0,0}
def XC:=@Go.Lib.run_eql_slice_nil
def XD:=@List.not_mem_nil.{0}
def XE:=@Nat.add_assoc
def XF:=@List.length_set.{0}
def XH:=@List.getElem?_drop.{0}
def XI:=@List.length_drop.{0}
def XJ:=@of_decide_eq_true
def XL:=@Array.getElem?_setIfInBounds.{0}
def XM:=@List.getElem_toArray.{0}
def XN:=@List.getElem_cons_succ.{0}
def XO:=@List.getElem_cons_zero.{0}
def XQ:=@And.intro
def XT:=@Array.setIfInBounds_setIfInBounds.{0}
def XU:=@List.length_singleton.{0}
def XW:=@funext.{1,1}
def XX:=@Option.some.inj.{0}
def XY:=@Array.getElem?_append_left.{0}
theorem wT {P:Program} {ops:Array Oper} {Q:Exit->Act->World->Prop} {md:Region.Mode} {S:World->Prop} {fuel:Nat} {listed:Array Bool} {a:Act} {w:World} {oi:Oper} (i:Nat) (v:Value) (hS:S w) (hy:∀ x,S x->(execOp a.eval oi).run P x=.ok (.value v) x) (h:wpAnyH P md ops Q S fuel (listed.setIfInBounds i true) (a.put oi.dst v) w) (hi:ops[i]? = some oi:=by exact rfl) (hs:Region.noSelect ops=true:=by kernel_rfl) (hf:Region.free md ops listed i=true:=by kernel_rfl) (hr:(Region.ready md ops listed).contains i=true:=by kernel_rfl) (hQ:∀ c a w,Q (.panic c) (a.put oi.dst v) w->Q (.panic c) a w:=by exact fun _ _ _ h=>h) (hg:Region.wanted oi (yielded ops a.tmps)=true:=by rfl):wpAnyH P md ops Q S (fuel+1) listed a w:=
 Qa hi hs hf hr hQ (.inl ⟨hg,hy⟩) hS h
theorem wG {P:Program} {ops:Array Oper} {Q:Exit->Act->World->Prop} {md:Region.Mode} {S:World->Prop} {fuel:Nat} {listed:Array Bool} {a:Act} {w:World} {oi:Oper} (i:Nat) (v:Value) (hS:S w) (hy:∀ x,S x->(execOp a.eval oi).run P x=.ok (.value v) x) (h:wpAnyH P md ops Q S fuel (listed.setIfInBounds i true) (a.put oi.dst v) w) (hi:ops[i]? = some oi:=by exact rfl) (hs:Region.noSelect ops=true:=by kernel_rfl) (hf:Region.free md ops listed i=true:=by kernel_rfl) (hr:(Region.ready md ops listed).contains i=true:=by kernel_rfl) (hQ:∀ c a w,Q (.panic c) (a.put oi.dst v) w->Q (.panic c) a w:=by exact fun _ _ _ h=>h) (hg:Region.wanted oi (yielded ops a.tmps)=true:=by kernel_rfl):wpAnyH P md ops Q S (fuel+1) listed a w:=
 Qa hi hs hf hr hQ (.inl ⟨hg,hy⟩) hS h
theorem wN {P:Program} {ops:Array Oper} {Q:Exit->Act->World->Prop} {md:Region.Mode} {S:World->Prop} {fuel:Nat} {listed:Array Bool} {a:Act} {w:World} {oi:Oper} (i:Nat) (v:Value) (hS:S w) (hy:∀ x,S x->(execOp a.eval oi).run P x=.ok (.value v) x) (h:wpAnyH P md ops Q S fuel (listed.setIfInBounds i true) (a.put oi.dst v) w) (hi:ops[i]? = some oi:=by exact rfl) (hs:Region.noSelect ops=true:=by kernel_rfl) (hf:Region.free md ops listed i=true:=by kernel_rfl) (hr:(Region.ready md ops listed).contains i=true:=by kernel_rfl) (hQ:∀ c a w,Q (.panic c) (a.put oi.dst v) w->Q (.panic c) a w:=by exact fun _ _ _ h=>by cases h.1) (hg:Region.wanted oi (yielded ops a.tmps)=true:=by rfl):wpAnyH P md ops Q S (fuel+1) listed a w:=
 Qa hi hs hf hr hQ (.inl ⟨hg,hy⟩) hS h
theorem wU {P:Program} {ops:Array Oper} {Q:Exit->Act->World->Prop} {md:Region.Mode} {S:World->Prop} {fuel:Nat} {listed:Array Bool} {a:Act} {w:World} {oi:Oper} (i:Nat) (hS:S w) (h:wpAnyH P md ops Q S fuel (listed.setIfInBounds i true) (a.put oi.dst undef) w) (hi:ops[i]? = some oi:=by exact rfl) (hs:Region.noSelect ops=true:=by kernel_rfl) (hf:Region.free md ops listed i=true:=by kernel_rfl) (hr:(Region.ready md ops listed).contains i=true:=by kernel_rfl) (hQ:∀ c a w,Q (.panic c) (a.put oi.dst undef) w->Q (.panic c) a w:=by exact fun _ _ _ h=>h) (hg:Region.wanted oi (yielded ops a.tmps)=false:=by kernel_rfl):wpAnyH P md ops Q S (fuel+1) listed a w:=
 Qa hi hs hf hr hQ (.inr ⟨hg,rfl⟩) hS h
theorem wV {P:Program} {ops:Array Oper} {Q:Exit->Act->World->Prop} {md:Region.Mode} {S:World->Prop} {fuel:Nat} {listed:Array Bool} {a:Act} {w:World} {oi:Oper} (i:Nat) (hS:S w) (h:wpAnyH P md ops Q S fuel (listed.setIfInBounds i true) (a.put oi.dst undef) w) (hi:ops[i]? = some oi:=by exact rfl) (hs:Region.noSelect ops=true:=by kernel_rfl) (hf:Region.free md ops listed i=true:=by kernel_rfl) (hr:(Region.ready md ops listed).contains i=true:=by kernel_rfl) (hQ:∀ c a w,Q (.panic c) (a.put oi.dst undef) w->Q (.panic c) a w:=by exact fun _ _ _ h=>h) (hg:Region.wanted oi (yielded ops a.tmps)=false:=by rfl):wpAnyH P md ops Q S (fuel+1) listed a w:=
 Qa hi hs hf hr hQ (.inr ⟨hg,rfl⟩) hS h
theorem wR {P:Program} {ops:Array Oper} {Q:Exit->Act->World->Prop} {md:Region.Mode} {S:World->Prop} {fuel:Nat} {listed:Array Bool} {a:Act} {w:World} {oi:Oper} (i:Nat) (h:∀ K':Act->World->Prop,Shut (∀ a w,S w->(S w->wpAnyH P md ops Q S fuel (listed.setIfInBounds i true) a w)->K' a w)->if Region.wanted oi (yielded ops a.tmps)=true then Oper.wp P oi a w K' Q else K' (a.put oi.dst undef) w) (hi:ops[i]? = some oi:=by exact rfl) (hr:Region.ready md ops listed=[i]:=by kernel_rfl):wpAnyH P md ops Q S (fuel+1) listed a w:=
 wpAnyH_ready hr (by simp) (AllReadyH.cons hi h AllReadyH.nil)
@[reducible] def aD (b o : Nat) : Addr := ⟨b, o, none⟩
theorem sB {α : Type} {x : α} {l : List α} {n : Nat} {a : α} : (x :: l).set (n + 1) a = x :: l.set n a := Qb
theorem sC {α : Type} {x : α} {l : List α} {a : α} : (x :: l).set 0 a = a :: l := Qc
theorem Uf {a b:Bool} (h:a=b):Ending.returned (.bool a)=.returned (.bool b):=by rw[h]
theorem Y4 {k:IntKind} {a b:Int} (h:a=b):Ending.returned (.int k a)=.returned (.int k b):=by rw[h]
def aY (w:World) (ao:Option Addr) (n:Nat) (f:Nat->Value):Prop:=
 ∀ i,i<n->∃ b off,ao=some (aD b off)/\w.cell? (aD b (off+i))=some (f i)
theorem aY.get {w:World} {ao:Option Addr} {n:Nat} {f:Nat->Value} (h:aY w ao n f) {i:Nat} (hi:i<n) :
  ∃ b off,ao=some (aD b off)/\∀ j,j<n->w.cell? (aD b (off+j))=some (f j):=by
 obtain⟨b,off,rfl,_⟩:=h i hi;refine⟨b,off,rfl,fun j hj=>?_⟩;obtain⟨b',off',e,h'⟩:=h j hj
 cases e
 exact h'
def au (w:World) (ao:Option Addr) (xs:List Int):Prop:=
 xs.length<=1152921504606846976/\aY w ao xs.length (fun i=>.int .i64 (xs.getD i 0))
theorem au.get {w:World} {ao:Option Addr} {xs:List Int} (h:au w ao xs) {i:Nat} (hi:i<xs.length) :
  ∃ b off,ao=some (aD b off)/\∀ j,j<xs.length->w.cell? (aD b (off+j))=some (.int .i64 (xs.getD j 0)):=
 aY.get h.2 hi
structure af where
 aH:Int
 rows:Int
 k0:Int
 k1:Int
 k2:Int
 k3:Int
def af.vals (t:af):Array Value:=#[.int .i64 t.aH,.int .i64 t.rows,.int .i64 t.k0,.int .i64 t.k1,.int .i64 t.k2,.int .i64 t.k3]
def tz:af:=⟨0,0,0,0,0,0⟩
def aJ (w:World) (ao:Option Addr) (ts:List af):Prop:=
 ts.length<=192153584101141162/\∀ i,i<ts.length->∃ b off,ao=some (aD b off)/\
  w.cell? (aD b (off+i*6))=some (.int .i64 (ts.getD i tz).aH)/\w.cell? (aD b (off+i*6+1))=some (.int .i64 (ts.getD i tz).rows)/\
  w.cell? (aD b (off+i*6+2))=some (.int .i64 (ts.getD i tz).k0)/\w.cell? (aD b (off+i*6+3))=some (.int .i64 (ts.getD i tz).k1)/\
  w.cell? (aD b (off+i*6+4))=some (.int .i64 (ts.getD i tz).k2)/\w.cell? (aD b (off+i*6+5))=some (.int .i64 (ts.getD i tz).k3)
structure aj where
 not:Bool
 op:Int
 left:Int
 const:Bool
 right:Int
def cz:aj:=⟨false,0,0,false,0⟩
def aj.val (c:aj):Value:=.agg #[.bool c.not,.int .i64 c.op,.int .i64 c.left,.bool c.const,.int .i64 c.right]
def aR (w:World) (ao:Option Addr) (cs:List aj):Prop:=
 cs.length<=230584300921369395/\∀ i,i<cs.length->∃ b off,ao=some (aD b off)/\
  w.cell? (aD b (off+i*5))=some (.bool (cs.getD i cz).not)/\w.cell? (aD b (off+i*5+1))=some (.int .i64 (cs.getD i cz).op)/\
  w.cell? (aD b (off+i*5+2))=some (.int .i64 (cs.getD i cz).left)/\w.cell? (aD b (off+i*5+3))=some (.bool (cs.getD i cz).const)/\
  w.cell? (aD b (off+i*5+4))=some (.int .i64 (cs.getD i cz).right)
structure ay where
 ad:Option Addr
 cap:Nat
 cs:List aj
def lz:ay:=⟨none,0,[]⟩
def ay.val (c:ay):Value:=.slice c.ad c.cs.length c.cap
def eF (w:World) (ao:Option Addr) (ls:List ay):Prop:=
 ls.length<=1152921504606846976/\aY w ao ls.length (fun i=>(ls.getD i lz).val)/\∀ i,i<ls.length->aR w (ls.getD i lz).ad (ls.getD i lz).cs
structure ah where
 ad:Option Addr
 cap:Nat
 xs:List Int
def ah.val (v:ah):Value:=.slice v.ad v.xs.length v.cap
def ah.At (v:ah) (w:World):Prop:=au w v.ad v.xs
structure ae where
 src:ah
 bY:Option Addr
 aI:Nat
 wh:List ay
 group:Bool
 keys:ah
 sums:ah
 aQ:ah
 ord:ah
def ae.cells (q:ae):Array Value:=#[q.src.val,.slice q.bY q.wh.length q.aI,.bool q.group,q.keys.val,q.sums.val,q.aQ.val,q.ord.val]
structure ae.At (q:ae) (w:World):Prop where
 src:q.src.At w
 wh:eF w q.bY q.wh
 keys:q.keys.At w
 sums:q.sums.At w
 aQ:q.aQ.At w
 ord:q.ord.At w
def bG (xs:List Int) (n:Int):Bool:=xs.all fun x=>decide (0<=x)&&decide (x<n)
def dF (xs:List Int):Bool:=decide (∀ i,i<xs.length->∀ j,j<i->xs.getD i 0≠xs.getD j 0)
theorem Km {xs:List Int} {i j:Nat} (hi:i<xs.length) (hj:j<i) (h:xs.getD i 0=xs.getD j 0):false=dF xs:=by
 symm;unfold dF;rw[Qg];intro h';exact h' i hi j hj h
theorem Gj {xs:List Int} (h:∀ i,i<xs.length->∀ j,j<i->xs.getD i 0≠xs.getD j 0):true=dF xs:=by
 symm;unfold dF;rw[decide_eq_true_iff];exact h
def dO (c:aj) (n:Int):Bool:=
 decide (0<=c.left)&&decide (c.left<n)&&decide (0<=c.op)&&decide (c.op<=2) &&
  (if c.op=2 then !c.const&&decide (c.right=0) else if c.const then decide (-1000<=c.right)&&decide (c.right<=1000) else decide (0<=c.right)&&decide (c.right<=n-1))
def zu (group:Bool) (keys sums aQ:List Int):Int:=if group then keys.length+1+sums.length else aQ.length
def af.kd (t:af):Nat->Int
 | 0 => t.k0
 | 1 => t.k1
 | 2 => t.k2
 | _ => t.k3
theorem af.Y5 (wr:World) (t:af) (ty:TypeId) (m:Nat) (hm:m<4) :
  (wr.alloc (.cells #[.int .i64 t.aH,.int .i64 t.rows,.int .i64 t.k0,.int .i64 t.k1,.int .i64 t.k2,.int .i64 t.k3] ty)).cell? (aD wr.heap.size (2+m))=some (.int .i64 (t.kd m)):=by
 rcases (by omega:m=0∨m=1∨m=2∨m=3) with rfl | rfl | rfl | rfl <;> simp[af.kd]
def dC (t:af):Bool:=
 decide (1<=t.aH/\t.aH<=4/\0<=t.rows/\t.rows<=1000000/\∀ m,m<t.aH.toNat->1<=t.kd m/\t.kd m<=1000000)
theorem Kn {t:af} (h:t.aH<1∨4<t.aH∨t.rows<0∨1000000<t.rows):dC t=false:=by
 unfold dC;rw[Qg];omega
theorem Gl {t:af} (m:Nat) (hm:m<t.aH.toNat) (h:t.kd m<1∨1000000<t.kd m):dC t=false:=by
 unfold dC;rw[Qg];intro h';have:=h'.2.2.2.2 m hm;omega
theorem Gm {t:af} (h1:1<=t.aH) (h2:t.aH<=4) (h3:0<=t.rows) (h4:t.rows<=1000000) (h:∀ m,m<t.aH.toNat->1<=t.kd m/\t.kd m<=1000000):dC t=true:=by
 unfold dC;rw[decide_eq_true_iff];exact⟨h1,h2,h3,h4,h⟩
def fo (ts:List af):Bool:=decide (1<=ts.length)&&decide (ts.length<=8)&&ts.all dC
theorem Ko {ts:List af} (h:ts.length<1):false=fo ts:=by
 unfold fo;have:decide (1<=ts.length)=false:=Qh (by omega);rw[this,Qi,Qi]
theorem OX {ts:List af} (h:8<ts.length):false=fo ts:=by
 unfold fo;have:decide (ts.length<=8)=false:=Qh (by omega);rw[this,Bool.and_false,Qi]
theorem Ug {ts:List af} {k:Nat} (hk:k<ts.length) (h:dC (ts.getD k tz)=false):false=fo ts:=by
 unfold fo;symm;rw[Bool.and_eq_false_iff];right;rw[List.all_eq_false];refine⟨ts[k],Qj hk,?_⟩;simp[List.getD,hk] at h;simp[h]
theorem lt_of_cell {w:World} {b o:Nat} {v:Value} (h:w.cell? (aD b o)=some v):b<w.heap.size:=by
 simp only[World.cell?] at h;rcases Nat.lt_or_ge b w.heap.size with hb | hb
 ·exact hb
 ·simp[Array.getElem?_eq_none hb] at h
def Qd:=@Uf
def Qe:=@Y4
def Qf:=@aY.get
def aO (ts:List af) (xs:List Int):Int:=(xs.map fun t=>(ts.getD t.toNat tz).aH).sum
theorem jm (ts:List af) (xs:List Int) (k:Nat) (hk:k<xs.length):aO ts (xs.take (k+1))=aO ts (xs.take k)+(ts.getD xs[k].toNat tz).aH:=by
 unfold aO;rw[Qk hk,Ql,List.sum_append];simp
theorem om {ts:List af} (hc:fo ts=true) {i:Nat} (hi:i<ts.length):1<=(ts.getD i tz).aH/\(ts.getD i tz).aH<=4:=by
 unfold fo at hc;rw[Qm] at hc;have h:=Qn.1 hc.2 (ts.getD i tz) (by simp[List.getD,hi]);unfold dC at h;rw[decide_eq_true_iff] at h;exact⟨h.1,h.2.1⟩
theorem lu {xs:List Int} {n:Int} (h:bG xs n=true) {k:Nat} (hk:k<xs.length):0<=xs[k]/\xs[k]<n:=by
 unfold bG at h;have:=Qn.1 h xs[k] (Qj hk)
 simpa using this
theorem rJ {ts:List af} {xs:List Int} (hc:fo ts=true) (ha:bG xs ts.length=true):∀ k,k<=xs.length->0<=aO ts (xs.take k)/\aO ts (xs.take k)<=4*k
 | 0,_ => by simp[aO]
 | k+1,hk => by
  have ih:=rJ hc ha k (by omega);rw[jm ts xs k (by omega)];have h1:=lu ha (k:=k) (by omega);have h2:=om hc (i:=(xs[k]'(by omega)).toNat) (by omega);omega
theorem cB {w w':World} (hb:Below w.heap.size w w') {b o:Nat} {v:Value} (h:w.cell? (aD b o)=some v):w'.cell? (aD b o)=some v:=
 (hb.cell (p:=(aD b o)) (lt_of_cell h)).trans h
theorem aY.below {w w':World} (hb:Below w.heap.size w w') {ao:Option Addr} {n:Nat} {f:Nat->Value} (h:aY w ao n f):aY w' ao n f:=fun i hi=>by
 obtain⟨b,off,e,hc⟩:=h i hi;exact⟨b,off,e,cB hb hc⟩
theorem au.below {w w':World} (hb:Below w.heap.size w w') {ao:Option Addr} {xs:List Int} (h:au w ao xs):au w' ao xs:=⟨h.1,h.2.below hb⟩
theorem aJ.below {w w':World} (hb:Below w.heap.size w w') {ao:Option Addr} {ts:List af} (h:aJ w ao ts):aJ w' ao ts:=⟨h.1,fun i hi=>by
 obtain⟨b,off,e,c0,c1,c2,c3,c4,c5⟩:=h.2 i hi;exact⟨b,off,e,cB hb c0,cB hb c1,cB hb c2,cB hb c3,cB hb c4,cB hb c5⟩⟩
theorem aR.below {w w':World} (hb:Below w.heap.size w w') {ao:Option Addr} {cs:List aj} (h:aR w ao cs):aR w' ao cs:=⟨h.1,fun i hi=>by
 obtain⟨b,off,e,c0,c1,c2,c3,c4⟩:=h.2 i hi;exact⟨b,off,e,cB hb c0,cB hb c1,cB hb c2,cB hb c3,cB hb c4⟩⟩
theorem eF.below {w w':World} (hb:Below w.heap.size w w') {ao:Option Addr} {ls:List ay} (h:eF w ao ls):eF w' ao ls:=
 ⟨h.1,h.2.1.below hb,fun i hi=>(h.2.2 i hi).below hb⟩
theorem ae.At.below {w w':World} (hb:Below w.heap.size w w') {q:ae} (h:q.At w):q.At w':=
 ⟨au.below hb h.src,h.wh.below hb,au.below hb h.keys,au.below hb h.sums,au.below hb h.aQ,au.below hb h.ord⟩
theorem bU (w:World) (o:Obj):Below w.heap.size w (w.alloc o):=(Qp _ _).alloc (Qq _) o
theorem aG {w w1 w2:World} (h:Below w.heap.size w w1) (k:Below w1.heap.size w1 w2):Below w.heap.size w w2:=h.trans (k.mono h.size)
theorem uN {W w1:World} (hb:Below W.heap.size W w1):(∀ b o,b<W.heap.size->w1.cell? (aD b o)=W.cell? (aD b o)):=
 fun b o h=>hb.cell (p:=(aD b o)) h
def lg (src:List Int) (wh:List (List aj)) (keys sums aQ ord:List Int):Bool:=
 decide (5<src.length∨8<wh.length∨8<aQ.length∨4<keys.length∨4<sums.length∨4<ord.length) || wh.any (fun c=>decide (3<c.length))
def gD (c:List aj) (n:Int):Bool:=decide (0<c.length)&&c.all (fun x=>dO x n)
def dP (wh:List (List aj)) (n:Int):Bool:=wh.all (fun c=>gD c n)
def uO (n:Int) (group:Bool) (keys sums aQ ord:List Int):Bool:=
 bG aQ n&&bG keys n&&bG sums n&&bG ord (zu group keys sums aQ)&&dF keys&&dF ord&&(group==decide (aQ.length=0))&&(group || decide (keys.length+sums.length=0))
def checkN (ts:List af) (src:List Int) (wh:List (List aj)) (group:Bool) (keys sums aQ ord:List Int):Int:=
 if fo ts=false then 1
 else if lg src wh keys sums aQ ord=true then 2
 else if bG src ts.length=true/\0<src.length/\dP wh (aO ts src)=true/\uO (aO ts src) group keys sums aQ ord=true then 0
 else 3
def ae.lh (q:ae):List (List aj):=q.wh.map ay.cs
def ae.check (q:ae) (ts:List af):Int:=checkN ts q.src.xs q.lh q.group q.keys.xs q.sums.xs q.aQ.xs q.ord.xs
theorem ae.OY {q:ae} {ts:List af} (h:fo ts=false):(1:Int)=q.check ts:=by
 unfold ae.check checkN;rw[Qr h]
theorem ae.Kq {q:ae} {ts:List af} (h:fo ts=true) (hf:lg q.src.xs q.lh q.keys.xs q.sums.xs q.aQ.xs q.ord.xs=true):(2:Int)=q.check ts:=by
 unfold ae.check checkN;rw[Qs (by simp[h]),Qr hf]
def xX (ls:List ay) (k:Nat):Bool:=(ls.take k).any (fun c=>decide (3<c.cs.length))
theorem OZ (q:ae):q.lh.any (fun c=>decide (3<c.length))=xX q.wh q.wh.length:=by
 unfold xX ae.lh;rw[Qt,List.any_map];rfl
theorem DU {q:ae} {n:Int} {k:Nat} (hk:k<q.wh.length) (h:gD (q.wh.getD k lz).cs n=false):dP q.lh n=false:=by
 unfold dP ae.lh;rw[List.all_map,List.all_eq_false];refine⟨q.wh[k],Qj hk,?_⟩;simp[List.getD,hk] at h;simp[h]
theorem BB {q:ae} {n:Int} (h:∀ k,k<q.wh.length->gD (q.wh.getD k lz).cs n=true):dP q.lh n=true:=by
 unfold dP ae.lh;rw[List.all_map,Qn];intro c hc;obtain⟨k,hk,rfl⟩:=List.getElem_of_mem hc;have:=h k hk
 simpa [List.getD,hk] using this
theorem DV {c:List aj} {n:Int} (h:¬ 0<c.length):gD c n=false:=by
 unfold gD;rw[Qh h,Qi]
theorem Gn {c:List aj} {n:Int} {k:Nat} (hk:k<c.length) (h:dO (c.getD k cz) n=false):gD c n=false:=by
 unfold gD;have:c.all (fun x=>dO x n)=false:=by
  rw[List.all_eq_false];refine⟨c[k],Qj hk,?_⟩;simp[List.getD,hk] at h;simp[h]
 rw[this,Bool.and_false]
theorem DW {c:List aj} {n:Int} (h0:0<c.length) (h:∀ k,k<c.length->dO (c.getD k cz) n=true):gD c n=true:=by
 unfold gD;rw[Qu h0,Qv,Qn];intro x hx;obtain⟨k,hk,rfl⟩:=List.getElem_of_mem hx;have:=h k hk
 simpa [List.getD,hk] using this
def Qo:=@au.below
theorem kN {P:Program} {id:Nat} {Q:Exit->Act->World->Prop} {a:Act} {w:World} {l:List Oper} (hm:P.follows .mixedOrders=true) (hB:Region.lexB .any l.toArray=true)
  (h:wpQuiet P l.toArray (fun x=>Below w.heap.size w x) (fun a'=>∀ x,Below w.heap.size w x->Q .normal a' x) l a):(Code.region id l.toArray true).wp P Q a w:=
 wp_region_quiet (C:=fun x=>Below w.heap.size w x) hm hB (Qp _ _).drew (by simpa using h)
theorem Calls.within {P:Program} {f:FuncId} {args:Array Value} {w x:World} {v:Value} (hx:Below w.heap.size w x)
  (h:Calls P f args x fun e w'=>e=.returned v/\Below x.heap.size x w'):Calls P f args x fun e w''=>e=.returned v/\Below w.heap.size w w'':=
 h.mono fun _ _ ⟨he,hb⟩=>⟨he,aG hx hb⟩
theorem Calls.Gp {P:Program} {f:FuncId} {args:Array Value} {w x:World} {v:Value} (hx:Below w.heap.size w x)
  (h:Calls P f args x fun e w'=>e=.returned v/\w' = x):Calls P f args x fun e w''=>e=.returned v/\Below w.heap.size w w'':=
 h.mono fun _ _ ⟨he,hb⟩=>⟨he,by rw[hb]; exact hx⟩
section
variable {N:Int} {group:Bool} {keys sums aQ ord:List Int}
theorem Y6:((aQ.length:Int)==0)=decide (aQ.length=0):=by
 rw[Qw];simp
end
def foundAt (r:Int) (b:Bool):Prop:=-1<=r/\decide (0<=r)=b
theorem DX {α:Type} {p:α->Bool} {xs:List α} {k:Nat} {z:α} (hk:k<xs.length) (h:p (xs.getD k z)=true):xs.any p=true:=by
 rw[List.any_eq_true];exact⟨xs[k],Qj hk,by simpa [List.getD,hk] using h⟩
theorem any_none {α:Type} {p:α->Bool} {xs:List α} {z:α} (h:∀ k,k<xs.length->p (xs.getD k z)=false):xs.any p=false:=by
 rw[List.any_eq_false];intro x hx;obtain⟨k,hk,rfl⟩:=List.getElem_of_mem hx;have:=h k hk
 simpa [List.getD,hk] using this
theorem Uh {ts:List af} (h1:¬ ts.length<1) (h8:¬ 8<ts.length):(!(ts.any fun t=>!dC t))=fo ts:=by
 unfold fo;rw[Qu (show 1<=ts.length by omega),Qu (show ts.length<=8 by omega),List.not_any_eq_all_not];simp
def wQ (x n:Int):Bool:=decide (0<=x)&&decide (x<n)
theorem Ui (xs:List Int) (n:Int):(!(xs.any fun x=>!wQ x n))=bG xs n:=by
 unfold bG wQ;rw[List.not_any_eq_all_not];simp
theorem Uj (ls:List ay):(ls.any fun c=>decide (3<c.cs.length))=xX ls ls.length:=by
 unfold xX;rw[Qt]
theorem ae.NY (q:ae):lg q.src.xs q.lh q.keys.xs q.sums.xs q.aQ.xs q.ord.xs =
  (decide (5<q.src.xs.length∨8<q.wh.length∨8<q.aQ.xs.length∨4<q.keys.xs.length∨4<q.sums.xs.length∨4<q.ord.xs.length) || xX q.wh q.wh.length):=by
 unfold lg;rw[OZ];simp[ae.lh]
theorem Uk {c:aj} {n:Int} (h:wQ c.left n=false):false=dO c n:=by
 refine (Bool.eq_false_iff.2 ?_).symm;intro h';simp only[dO,Qm,Qx] at h';simp only[wQ,Bool.and_eq_false_iff,Qg] at h;omega
theorem tu {c:aj} {n:Int} (h:wQ c.left n=true) (ho:c.op=0∨c.op=1) (hc:c.const=true):(decide (-1000<=c.right)&&decide (c.right<=1000))=dO c n:=by
 simp only[wQ,Qm,Qx] at h;unfold dO;rw[Qs (by omega),Qr hc,Qu h.1,Qu h.2,Qu (show 0<=c.op by omega),Qu (show c.op<=2 by omega)];simp
theorem wS {c:aj} {n:Int} (h:wQ c.left n=true) (ho:c.op=0∨c.op=1) (hc:c.const=false):wQ c.right n=dO c n:=by
 simp only[wQ,Qm,Qx] at h;unfold dO;rw[Qs (by omega),Qs (by simp[hc]),Qu h.1,Qu h.2,Qu (show 0<=c.op by omega),Qu (show c.op<=2 by omega)];simp only[wQ,Bool.and_self,Qv];congr 1;exact decide_eq_decide.2 (by omega)
theorem Gq {c:aj} {n:Int} (h:wQ c.left n=true) (ho:c.op=2):(!c.const&&decide (c.right=0))=dO c n:=by
 simp only[wQ,Qm,Qx] at h;unfold dO;rw[Qr ho,Qu h.1,Qu h.2,Qu (show 0<=c.op by omega),Qu (show c.op<=2 by omega)];simp
theorem Gs {c:aj} {n:Int} (h0:¬ c.op=0) (h1:¬ c.op=1) (h2:¬ c.op=2):false=dO c n:=by
 refine (Bool.eq_false_iff.2 ?_).symm;intro h';simp only[dO,Qm,Qx] at h';omega
theorem kG (w:World) (o:Obj):(w.alloc o).heap[w.heap.size]? = some o:=by
 show (w.heap.push o)[w.heap.size]? = _
 simp
theorem uP (w:World) (c cs:Array Value) (t:TypeId):(w.alloc (.cells c t)).setRow w.heap.size cs=w.alloc (.cells cs t):=by
 unfold World.setRow World.alloc;simp only[World.mk.injEq,and_true];apply Array.ext_getElem?;intro i;rw[Array.getElem?_modify,Array.getElem?_push,Array.getElem?_push];by_cases h:i=w.heap.size
 ·subst h;simp
 ·have:¬ w.heap.size=i:=fun e=>h e.symm
  simp[h,this]
theorem BC (w:World) (c:Array Value) (t:TypeId) (i:Nat) (v:Value):(w.alloc (.cells c t)).setCell (aD w.heap.size i) v=w.alloc (.cells (c.setIfInBounds i v) t):=by
 rw[setCell_eq_setRow (w.alloc (.cells c t)) w.heap.size i c t (0,0) v (kG w _),uP]
theorem addr_add (b off j:Nat):((aD b off):Addr).add j=(aD b (off+j)):=by unfold Addr.add; split <;> simp_all
theorem BF {P:Program} (w:World) (dT sT ty elem:TypeId) (size g dLen dCap:Nat) (sp:Option Addr) (sLen sCap:Nat) (cur:Array Value) (t:TypeId) (cs:List Value)
  (hu:P.underlying dT=some (.slice elem)) (hs:(P.info? elem).map (·.size)=some size) (hg:w.heap[g]? = some (.cells cur t (0,0))) (hle:sLen<=dLen) (hn:cs.length=sLen*size)
  (hsrc:0<cs.length->∃ a,sp=some a/\∀ j v,cs[j]? = some v->w.cell? (a.add j)=some v) (hfit:cs.length<=cur.size) (h1:∀ v∈cs,v.oneCell' = true) :
  (Builtin.copy_ #[dT,sT] ty #[.slice (some (aD g 0)) dLen dCap,.slice sp sLen sCap]).run P w=.ok (goInt sLen) (w.setRow g (cs++cur.toList.drop cs.length).toArray):=by
 have hst:=run_storeCells_at P g 0 t cs 0 cur w hg (by simpa using hfit) h1;have hmin:Nat.min sLen dLen=sLen:=Qy hle
 cases hq:P.info? elem with
 | none => simp[hq] at hs
 | some i =>
  have hi:i.size=size:=by simpa [hq] using hs
  by_cases h0:cs.length=0
  ·obtain rfl:cs=[]:=Qz h0;have hself:w.setRow g cur=w:=setRow_self w g cur t (0,0) hg;have hl:∀ (x:Addr),(loadCells x (sLen*size)).run P w=.ok #[] w:=fun x=>by
    rw[<- hn]
    simpa using run_loadCells_list (P:=P) w x [] (by simp)
   cases sp <;> simp[Builtin.copy_,run_underlying hu,Builtin.lenOf,Builtin.firstCells,sizeOf,typeInfo,hq,hi,hmin,storeCells,hl,hself]
  ·obtain⟨a,rfl,hc⟩:=hsrc (by omega);have hl:=run_loadCells_list (P:=P) w a cs hc;rw[hn] at hl;simp[Builtin.copy_,run_underlying hu,Builtin.lenOf,Builtin.firstCells,sizeOf,typeInfo,hq,hi,hmin,hl,hst]
theorem sH (z:Value) (n:Nat):madeCells #[z] n=(List.replicate n z).toArray:=by
 apply Array.ext_getElem?;intro i;by_cases hi:i<n
 ·simp[madeCells,hi];simp[Nat.mod_one]
 ·simp[madeCells,hi]
theorem DY {α:Type} (f:α->List Value) (s:Nat) (hf:∀ x,(f x).length=s) (z:α):∀ (xs:List α) (rest:List Value) (i j:Nat),i<xs.length->j<s->(xs.flatMap f++rest)[i*s+j]? = (f (xs.getD i z))[j]?
 | [],_,i,_,hi,_ => absurd hi (by simp)
 | x::xs,rest,0,j,_,hj => by
  rw[QA,QC,QD,QE,List.getElem?_append_left (by rw[hf]; exact hj)];rfl
 | x::xs,rest,i+1,j,hi,hj => by
  have ih:=DY f s hf z xs rest i j (by simpa using hi) hj;rw[QA,QC,QF (by rw[hf,Nat.add_mul]; omega),hf];rw[show (i+1)*s+j-s=i*s+j by rw[Nat.add_mul]; omega,ih];rfl
def aj.vals (c:aj):List Value:=[.bool c.not,.int .i64 c.op,.int .i64 c.left,.bool c.const,.int .i64 c.right]
def zc:List Value:=[.bool false,.int .i64 0,.int .i64 0,.bool false,.int .i64 0]
def ic:List Value:=[.bool false,.int .i64 77777,.int .i64 0,.bool false,.int .i64 0]
def it:List Value:=[.int .i64 77777,.int .i64 0,.int .i64 0,.int .i64 0,.int .i64 0,.int .i64 0]
def GB (w:World) (G:Nat) (t:TypeId) (c:Array Value):Prop:=w.heap[G]? = some (.cells c t (0,0))
theorem bu (w:World) (c:Array Value) (t:TypeId):∃ x,w.alloc (.cells c t)=x/\Below w.heap.size w x/\GB x w.heap.size t c:=⟨_,rfl,bU _ _,kG _ _⟩
theorem GB.cell {w:World} {G:Nat} {t:TypeId} {c:Array Value} (h:GB w G t c) (i:Nat):w.cell? (aD G i)=c[i]?:=by
 unfold GB at h;simp[World.cell?,h]
theorem GB.frozen {w:World} {G:Nat} {t:TypeId} {c:Array Value} (h:GB w G t c) (i:Nat):w.frozen? (aD G i)=false:=by
 unfold GB at h;simp[World.frozen?,h]
theorem GB.lt {w:World} {G:Nat} {t:TypeId} {c:Array Value} (h:GB w G t c):G<w.heap.size:=by
 unfold GB at h;exact (QI.1 h).1
theorem GB.set {w:World} {G:Nat} {t:TypeId} {c:Array Value} (h:GB w G t c) (i:Nat) (v:Value):GB (w.setCell (aD G i) v) G t (c.setIfInBounds i v):=by
 unfold GB at *;rw[setCell_eq_setRow w G i c t (0,0) v h];exact setRow_heap w G c _ t _ h
theorem GB.of {w w':World} {G:Nat} {t:TypeId} {c:Array Value} (h:GB w G t c) (e:w'.heap[G]? = w.heap[G]?):GB w' G t c:=by
 unfold GB at *;rw[e];exact h
theorem heap_alloc {w:World} {o:Obj} {k:Nat} (h:k<w.heap.size):(w.alloc o).heap[k]? = w.heap[k]?:=Below.heap_alloc _ _ _ h
def QG:=@GB.cell
def QH:=@GB.frozen
theorem GB.at {w:World} {G:Nat} {t:TypeId} {c:Array Value} (h:GB w G t c) (i:Nat) {v:Value} (hv:c.toList[i]? = some v:=by exact rfl):w.cell? (aD G i)=some v:=by
 rw[h.cell i,<- Array.getElem?_toList];exact hv
theorem hd {p:Prop} (h:p):Hid p:=h
theorem pA (l:List Value) (d) (i:Nat) (v:Value):Act.put { tmps:=l.toArray,defers:=d } (some i) v = { tmps:=(l.set i v).toArray,defers:=d }:=by simp[Act.put]
theorem pU:(∀ (l:List Value) (d) (i:Nat) (v:Value),Act.put { tmps:=l.toArray,defers:=d } (some i) v = { tmps:=(l.set i v).toArray,defers:=d })/\(∀ {x:Value} {l:List Value} {n:Nat} {a:Value},(x::l).set (n+1) a=x::l.set n a)/\(∀ {x:Value} {l:List Value} {a:Value},(x::l).set 0 a=a::l):=⟨pA,Qb,Qc⟩
theorem wt {P:Program} {ops:Array Oper} {Q:Exit->Act->World->Prop} {md:Region.Mode} {S:World->Prop} {fuel:Nat} {listed:Array Bool} {a:Act} {w:World} {oi:Oper} (i:Nat) (v:Value) (hS:S w) (h:wpAnyH P md ops Q S fuel (listed.setIfInBounds i true) (a.put oi.dst v) w) (hi:ops[i]? = some oi:=by exact rfl) (hs:Region.noSelect ops=true:=by kernel_rfl) (hf:Region.free md ops listed i=true:=by kernel_rfl) (hr:(Region.ready md ops listed).contains i=true:=by kernel_rfl) (hQ:∀ c a w,Q (.panic c) (a.put oi.dst v) w->Q (.panic c) a w:=by exact fun _ _ _ h=>h) (hg:Region.wanted oi (yielded ops a.tmps)=true:=by rfl) (hy:∀ x,S x->(execOp a.eval oi).run P x=.ok (.value v) x:=by intro x hx; go_simp):wpAnyH P md ops Q S (fuel+1) listed a w:=
 Qa hi hs hf hr hQ (.inl ⟨hg,hy⟩) hS h
theorem wg {P:Program} {ops:Array Oper} {Q:Exit->Act->World->Prop} {md:Region.Mode} {S:World->Prop} {fuel:Nat} {listed:Array Bool} {a:Act} {w:World} {oi:Oper} (i:Nat) (v:Value) (hS:S w) (h:wpAnyH P md ops Q S fuel (listed.setIfInBounds i true) (a.put oi.dst v) w) (hi:ops[i]? = some oi:=by exact rfl) (hs:Region.noSelect ops=true:=by kernel_rfl) (hf:Region.free md ops listed i=true:=by kernel_rfl) (hr:(Region.ready md ops listed).contains i=true:=by kernel_rfl) (hQ:∀ c a w,Q (.panic c) (a.put oi.dst v) w->Q (.panic c) a w:=by exact fun _ _ _ h=>h) (hg:Region.wanted oi (yielded ops a.tmps)=true:=by kernel_rfl) (hy:∀ x,S x->(execOp a.eval oi).run P x=.ok (.value v) x:=by intro x hx; go_simp):wpAnyH P md ops Q S (fuel+1) listed a w:=
 Qa hi hs hf hr hQ (.inl ⟨hg,hy⟩) hS h
theorem wn {P:Program} {ops:Array Oper} {Q:Exit->Act->World->Prop} {md:Region.Mode} {S:World->Prop} {fuel:Nat} {listed:Array Bool} {a:Act} {w:World} {oi:Oper} (i:Nat) (v:Value) (hS:S w) (h:wpAnyH P md ops Q S fuel (listed.setIfInBounds i true) (a.put oi.dst v) w) (hi:ops[i]? = some oi:=by exact rfl) (hs:Region.noSelect ops=true:=by kernel_rfl) (hf:Region.free md ops listed i=true:=by kernel_rfl) (hr:(Region.ready md ops listed).contains i=true:=by kernel_rfl) (hQ:∀ c a w,Q (.panic c) (a.put oi.dst v) w->Q (.panic c) a w:=by exact fun _ _ _ h=>by cases h.1) (hg:Region.wanted oi (yielded ops a.tmps)=true:=by rfl) (hy:∀ x,S x->(execOp a.eval oi).run P x=.ok (.value v) x:=by intro x hx; go_simp):wpAnyH P md ops Q S (fuel+1) listed a w:=
 Qa hi hs hf hr hQ (.inl ⟨hg,hy⟩) hS h
theorem wm {P:Program} {ops:Array Oper} {Q:Exit->Act->World->Prop} {md:Region.Mode} {S:World->Prop} {fuel:Nat} {listed:Array Bool} {a:Act} {w:World} {oi:Oper} (i:Nat) (v:Value) (hS:S w) (h:wpAnyH P md ops Q S fuel (listed.setIfInBounds i true) (a.put oi.dst v) w) (hi:ops[i]? = some oi:=by exact rfl) (hs:Region.noSelect ops=true:=by kernel_rfl) (hf:Region.free md ops listed i=true:=by kernel_rfl) (hr:(Region.ready md ops listed).contains i=true:=by kernel_rfl) (hQ:∀ c a w,Q (.panic c) (a.put oi.dst v) w->Q (.panic c) a w:=by exact fun _ _ _ h=>by cases h.1) (hg:Region.wanted oi (yielded ops a.tmps)=true:=by kernel_rfl) (hy:∀ x,S x->(execOp a.eval oi).run P x=.ok (.value v) x:=by intro x hx; go_simp):wpAnyH P md ops Q S (fuel+1) listed a w:=
 Qa hi hs hf hr hQ (.inl ⟨hg,hy⟩) hS h
theorem iB {P:Program} {ops:Array Oper} {Q:Exit->Act->World->Prop} {md:Region.Mode} {W:World} {fuel:Nat} {listed:Array Bool} {a:Act} {w:World} {oi:Oper} {b o:Nat} {u:Value} (i:Nat) (v:Value) (hS:Below W.heap.size W w) (c:W.cell? (aD b o)=some u) (h:wpAnyH P md ops Q (fun x=>Below W.heap.size W x) fuel (listed.setIfInBounds i true) (a.put oi.dst v) w) (hi:ops[i]? = some oi:=by exact rfl) (hs:Region.noSelect ops=true:=by kernel_rfl) (hf:Region.free md ops listed i=true:=by kernel_rfl) (hr:(Region.ready md ops listed).contains i=true:=by kernel_rfl) (hQ:∀ c a w,Q (.panic c) (a.put oi.dst v) w->Q (.panic c) a w:=by exact fun _ _ _ h=>h) (hg:Region.wanted oi (yielded ops a.tmps)=true:=by rfl) (hy:∀ x,x.cell? (aD b o)=some u->(execOp a.eval oi).run P x=.ok (.value v) x:=by intro x hx; go_simp):wpAnyH P md ops Q (fun x=>Below W.heap.size W x) (fuel+1) listed a w:=
 Qa hi hs hf hr hQ (.inl ⟨hg,fun x hx=>hy x (cB hx c)⟩) hS h
theorem Y7 {P:Program} {ops:Array Oper} {Q:Exit->Act->World->Prop} {md:Region.Mode} {W:World} {fuel:Nat} {listed:Array Bool} {a:Act} {w:World} {oi:Oper} {b o:Nat} {u:Value} (i:Nat) (v:Value) (hS:Below W.heap.size W w) (c:W.cell? (aD b o)=some u) (h:wpAnyH P md ops Q (fun x=>Below W.heap.size W x) fuel (listed.setIfInBounds i true) (a.put oi.dst v) w) (hi:ops[i]? = some oi:=by exact rfl) (hs:Region.noSelect ops=true:=by kernel_rfl) (hf:Region.free md ops listed i=true:=by kernel_rfl) (hr:(Region.ready md ops listed).contains i=true:=by kernel_rfl) (hQ:∀ c a w,Q (.panic c) (a.put oi.dst v) w->Q (.panic c) a w:=by exact fun _ _ _ h=>h) (hg:Region.wanted oi (yielded ops a.tmps)=true:=by kernel_rfl) (hy:∀ x,x.cell? (aD b o)=some u->(execOp a.eval oi).run P x=.ok (.value v) x:=by intro x hx; go_simp):wpAnyH P md ops Q (fun x=>Below W.heap.size W x) (fuel+1) listed a w:=
 Qa hi hs hf hr hQ (.inl ⟨hg,fun x hx=>hy x (cB hx c)⟩) hS h
def IsV (_:Value):Prop:=True
theorem ahj {v:Value} {p:Value->Prop} (_:IsV v) (h:p v):∃ x,p x:=⟨v,h⟩
theorem qS {P Q:Prop} (v:Value) (k:Q) (h:IsV v->Q->P:=by
  intro hv hq;go_big_quiet_want;refine ahj hv ⟨fun x hx=>?_,?_⟩
  ·go_simp
  ·simp only[pU];go_big_quiet_on;exact hq):P:=h trivial k
theorem qC {P Q C:Prop} (v:Value) (c:C) (k:Q) (h:IsV v->C->Q->P:=by
  intro hv c hq;go_big_quiet_want;refine ahj hv ⟨fun x hx=>?_,?_⟩
  ·have e0:=cB hx c;go_simp
  ·simp only[pU];go_big_quiet_on;exact hq):P:=h trivial c k
theorem cR5 {w x:World} (hx:Below w.heap.size w x) {b0 o0 b1 o1 b2 o2 b3 o3 b4 o4:Nat} {v0 v1 v2 v3 v4:Value} (a0:w.cell? (aD b0 o0)=some v0) (a1:w.cell? (aD b1 o1)=some v1) (a2:w.cell? (aD b2 o2)=some v2) (a3:w.cell? (aD b3 o3)=some v3) (a4:w.cell? (aD b4 o4)=some v4):x.cell? (aD b0 o0)=some v0/\x.cell? (aD b1 o1)=some v1/\x.cell? (aD b2 o2)=some v2/\x.cell? (aD b3 o3)=some v3/\x.cell? (aD b4 o4)=some v4:=⟨cB hx a0,cB hx a1,cB hx a2,cB hx a3,cB hx a4⟩
theorem cR6 {w x:World} (hx:Below w.heap.size w x) {b0 o0 b1 o1 b2 o2 b3 o3 b4 o4 b5 o5:Nat} {v0 v1 v2 v3 v4 v5:Value} (a0:w.cell? (aD b0 o0)=some v0) (a1:w.cell? (aD b1 o1)=some v1) (a2:w.cell? (aD b2 o2)=some v2) (a3:w.cell? (aD b3 o3)=some v3) (a4:w.cell? (aD b4 o4)=some v4) (a5:w.cell? (aD b5 o5)=some v5):x.cell? (aD b0 o0)=some v0/\x.cell? (aD b1 o1)=some v1/\x.cell? (aD b2 o2)=some v2/\x.cell? (aD b3 o3)=some v3/\x.cell? (aD b4 o4)=some v4/\x.cell? (aD b5 o5)=some v5:=⟨cB hx a0,cB hx a1,cB hx a2,cB hx a3,cB hx a4,cB hx a5⟩
theorem TP {w x:World} (hx:Below w.heap.size w x) {b0 o0 b1 o1 b2 o2 b3 o3 b4 o4 b5 o5 b6 o6:Nat} {v0 v1 v2 v3 v4 v5 v6:Value} (a0:w.cell? (aD b0 o0)=some v0) (a1:w.cell? (aD b1 o1)=some v1) (a2:w.cell? (aD b2 o2)=some v2) (a3:w.cell? (aD b3 o3)=some v3) (a4:w.cell? (aD b4 o4)=some v4) (a5:w.cell? (aD b5 o5)=some v5) (a6:w.cell? (aD b6 o6)=some v6):x.cell? (aD b0 o0)=some v0/\x.cell? (aD b1 o1)=some v1/\x.cell? (aD b2 o2)=some v2/\x.cell? (aD b3 o3)=some v3/\x.cell? (aD b4 o4)=some v4/\x.cell? (aD b5 o5)=some v5/\x.cell? (aD b6 o6)=some v6:=⟨cB hx a0,cB hx a1,cB hx a2,cB hx a3,cB hx a4,cB hx a5,cB hx a6⟩
theorem qd {w x:World} (hx:Below w.heap.size w x) {b0 o0 b1 o1 b2 o2 b3 o3 b4 o4 b5 o5 b6 o6 b7 o7 b8 o8 b9 o9 b10 o10 b11 o11 b12 o12:Nat} {v0 v1 v2 v3 v4 v5 v6 v7 v8 v9 v10 v11 v12:Value} (a0:w.cell? (aD b0 o0)=some v0) (a1:w.cell? (aD b1 o1)=some v1) (a2:w.cell? (aD b2 o2)=some v2) (a3:w.cell? (aD b3 o3)=some v3) (a4:w.cell? (aD b4 o4)=some v4) (a5:w.cell? (aD b5 o5)=some v5) (a6:w.cell? (aD b6 o6)=some v6) (a7:w.cell? (aD b7 o7)=some v7) (a8:w.cell? (aD b8 o8)=some v8) (a9:w.cell? (aD b9 o9)=some v9) (fI:w.cell? (aD b10 o10)=some v10) (fU:w.cell? (aD b11 o11)=some v11) (a12:w.cell? (aD b12 o12)=some v12):x.cell? (aD b0 o0)=some v0/\x.cell? (aD b1 o1)=some v1/\x.cell? (aD b2 o2)=some v2/\x.cell? (aD b3 o3)=some v3/\x.cell? (aD b4 o4)=some v4/\x.cell? (aD b5 o5)=some v5/\x.cell? (aD b6 o6)=some v6/\x.cell? (aD b7 o7)=some v7/\x.cell? (aD b8 o8)=some v8/\x.cell? (aD b9 o9)=some v9/\x.cell? (aD b10 o10)=some v10/\x.cell? (aD b11 o11)=some v11/\x.cell? (aD b12 o12)=some v12:=⟨cB hx a0,cB hx a1,cB hx a2,cB hx a3,cB hx a4,cB hx a5,cB hx a6,cB hx a7,cB hx a8,cB hx a9,cB hx fI,cB hx fU,cB hx a12⟩
theorem GB.k2 {w:World} {G:Nat} {t:TypeId} {c:Array Value} (h:GB w G t c) {v0 v1:Value} (e:c.toList.take 2=[v0,v1]:=by exact rfl):w.cell? (aD G 0)=some v0/\w.cell? (aD G 1)=some v1:=by
 have r:∀ i,i<2->c.toList[i]? = ([v0,v1]:List Value)[i]?:=fun i hi=>by rw[<- e,QJ hi]
 exact⟨h.at 0 (r 0 (by decide)),h.at 1 (r 1 (by decide))⟩
theorem GB.k3 {w:World} {G:Nat} {t:TypeId} {c:Array Value} (h:GB w G t c) {v0 v1 v2:Value} (e:c.toList.take 3=[v0,v1,v2]:=by exact rfl):w.cell? (aD G 0)=some v0/\w.cell? (aD G 1)=some v1/\w.cell? (aD G 2)=some v2:=by
 have r:∀ i,i<3->c.toList[i]? = ([v0,v1,v2]:List Value)[i]?:=fun i hi=>by rw[<- e,QJ hi]
 exact⟨h.at 0 (r 0 (by decide)),h.at 1 (r 1 (by decide)),h.at 2 (r 2 (by decide))⟩
theorem GB.k4 {w:World} {G:Nat} {t:TypeId} {c:Array Value} (h:GB w G t c) {v0 v1 v2 v3:Value} (e:c.toList.take 4=[v0,v1,v2,v3]:=by exact rfl):w.cell? (aD G 0)=some v0/\w.cell? (aD G 1)=some v1/\w.cell? (aD G 2)=some v2/\w.cell? (aD G 3)=some v3:=by
 have r:∀ i,i<4->c.toList[i]? = ([v0,v1,v2,v3]:List Value)[i]?:=fun i hi=>by rw[<- e,QJ hi]
 exact⟨h.at 0 (r 0 (by decide)),h.at 1 (r 1 (by decide)),h.at 2 (r 2 (by decide)),h.at 3 (r 3 (by decide))⟩
theorem GB.k5 {w:World} {G:Nat} {t:TypeId} {c:Array Value} (h:GB w G t c) {v0 v1 v2 v3 v4:Value} (e:c.toList.take 5=[v0,v1,v2,v3,v4]:=by exact rfl):w.cell? (aD G 0)=some v0/\w.cell? (aD G 1)=some v1/\w.cell? (aD G 2)=some v2/\w.cell? (aD G 3)=some v3/\w.cell? (aD G 4)=some v4:=by
 have r:∀ i,i<5->c.toList[i]? = ([v0,v1,v2,v3,v4]:List Value)[i]?:=fun i hi=>by rw[<- e,QJ hi]
 exact⟨h.at 0 (r 0 (by decide)),h.at 1 (r 1 (by decide)),h.at 2 (r 2 (by decide)),h.at 3 (r 3 (by decide)),h.at 4 (r 4 (by decide))⟩
theorem GB.k6 {w:World} {G:Nat} {t:TypeId} {c:Array Value} (h:GB w G t c) {v0 v1 v2 v3 v4 v5:Value} (e:c.toList.take 6=[v0,v1,v2,v3,v4,v5]:=by exact rfl):w.cell? (aD G 0)=some v0/\w.cell? (aD G 1)=some v1/\w.cell? (aD G 2)=some v2/\w.cell? (aD G 3)=some v3/\w.cell? (aD G 4)=some v4/\w.cell? (aD G 5)=some v5:=by
 have r:∀ i,i<6->c.toList[i]? = ([v0,v1,v2,v3,v4,v5]:List Value)[i]?:=fun i hi=>by rw[<- e,QJ hi]
 exact⟨h.at 0 (r 0 (by decide)),h.at 1 (r 1 (by decide)),h.at 2 (r 2 (by decide)),h.at 3 (r 3 (by decide)),h.at 4 (r 4 (by decide)),h.at 5 (r 5 (by decide))⟩
theorem GB.k7 {w:World} {G:Nat} {t:TypeId} {c:Array Value} (h:GB w G t c) {v0 v1 v2 v3 v4 v5 v6:Value} (e:c.toList.take 7=[v0,v1,v2,v3,v4,v5,v6]:=by exact rfl):w.cell? (aD G 0)=some v0/\w.cell? (aD G 1)=some v1/\w.cell? (aD G 2)=some v2/\w.cell? (aD G 3)=some v3/\w.cell? (aD G 4)=some v4/\w.cell? (aD G 5)=some v5/\w.cell? (aD G 6)=some v6:=by
 have r:∀ i,i<7->c.toList[i]? = ([v0,v1,v2,v3,v4,v5,v6]:List Value)[i]?:=fun i hi=>by rw[<- e,QJ hi]
 exact⟨h.at 0 (r 0 (by decide)),h.at 1 (r 1 (by decide)),h.at 2 (r 2 (by decide)),h.at 3 (r 3 (by decide)),h.at 4 (r 4 (by decide)),h.at 5 (r 5 (by decide)),h.at 6 (r 6 (by decide))⟩
theorem GB.k8 {w:World} {G:Nat} {t:TypeId} {c:Array Value} (h:GB w G t c) {v0 v1 v2 v3 v4 v5 v6 v7:Value} (e:c.toList.take 8=[v0,v1,v2,v3,v4,v5,v6,v7]:=by exact rfl):w.cell? (aD G 0)=some v0/\w.cell? (aD G 1)=some v1/\w.cell? (aD G 2)=some v2/\w.cell? (aD G 3)=some v3/\w.cell? (aD G 4)=some v4/\w.cell? (aD G 5)=some v5/\w.cell? (aD G 6)=some v6/\w.cell? (aD G 7)=some v7:=by
 have r:∀ i,i<8->c.toList[i]? = ([v0,v1,v2,v3,v4,v5,v6,v7]:List Value)[i]?:=fun i hi=>by rw[<- e,QJ hi]
 exact⟨h.at 0 (r 0 (by decide)),h.at 1 (r 1 (by decide)),h.at 2 (r 2 (by decide)),h.at 3 (r 3 (by decide)),h.at 4 (r 4 (by decide)),h.at 5 (r 5 (by decide)),h.at 6 (r 6 (by decide)),h.at 7 (r 7 (by decide))⟩
theorem GB.k9 {w:World} {G:Nat} {t:TypeId} {c:Array Value} (h:GB w G t c) {v0 v1 v2 v3 v4 v5 v6 v7 v8:Value} (e:c.toList.take 9=[v0,v1,v2,v3,v4,v5,v6,v7,v8]:=by exact rfl):w.cell? (aD G 0)=some v0/\w.cell? (aD G 1)=some v1/\w.cell? (aD G 2)=some v2/\w.cell? (aD G 3)=some v3/\w.cell? (aD G 4)=some v4/\w.cell? (aD G 5)=some v5/\w.cell? (aD G 6)=some v6/\w.cell? (aD G 7)=some v7/\w.cell? (aD G 8)=some v8:=by
 have r:∀ i,i<9->c.toList[i]? = ([v0,v1,v2,v3,v4,v5,v6,v7,v8]:List Value)[i]?:=fun i hi=>by rw[<- e,QJ hi]
 exact⟨h.at 0 (r 0 (by decide)),h.at 1 (r 1 (by decide)),h.at 2 (r 2 (by decide)),h.at 3 (r 3 (by decide)),h.at 4 (r 4 (by decide)),h.at 5 (r 5 (by decide)),h.at 6 (r 6 (by decide)),h.at 7 (r 7 (by decide)),h.at 8 (r 8 (by decide))⟩
theorem GB.k13 {w:World} {G:Nat} {t:TypeId} {c:Array Value} (h:GB w G t c) {v0 v1 v2 v3 v4 v5 v6 v7 v8 v9 v10 v11 v12:Value} (e:c.toList.take 13=[v0,v1,v2,v3,v4,v5,v6,v7,v8,v9,v10,v11,v12]:=by exact rfl):w.cell? (aD G 0)=some v0/\w.cell? (aD G 1)=some v1/\w.cell? (aD G 2)=some v2/\w.cell? (aD G 3)=some v3/\w.cell? (aD G 4)=some v4/\w.cell? (aD G 5)=some v5/\w.cell? (aD G 6)=some v6/\w.cell? (aD G 7)=some v7/\w.cell? (aD G 8)=some v8/\w.cell? (aD G 9)=some v9/\w.cell? (aD G 10)=some v10/\w.cell? (aD G 11)=some v11/\w.cell? (aD G 12)=some v12:=by
 have r:∀ i,i<13->c.toList[i]? = ([v0,v1,v2,v3,v4,v5,v6,v7,v8,v9,v10,v11,v12]:List Value)[i]?:=fun i hi=>by rw[<- e,QJ hi]
 exact⟨h.at 0 (r 0 (by decide)),h.at 1 (r 1 (by decide)),h.at 2 (r 2 (by decide)),h.at 3 (r 3 (by decide)),h.at 4 (r 4 (by decide)),h.at 5 (r 5 (by decide)),h.at 6 (r 6 (by decide)),h.at 7 (r 7 (by decide)),h.at 8 (r 8 (by decide)),h.at 9 (r 9 (by decide)),h.at 10 (r 10 (by decide)),h.at 11 (r 11 (by decide)),h.at 12 (r 12 (by decide))⟩
theorem pV:(∀ (a:Act) (i:Nat) (v:Value),Act.put a (some i) v = { a with tmps:=a.tmps.setIfInBounds i v })/\(∀ (a:Act) (v:Value),Act.put a none v=a)/\(∀ {l:List Value} {i:Nat} (h:i<l.toArray.size),l.toArray[i]=l[i]'(by simpa using h))/\(∀ {x:Value} {l:List Value} {i:Nat} (h:i+1<(x::l).length),(x::l)[i+1]=l[i]'(Nat.lt_of_succ_lt_succ h))/\(∀ {x:Value} {l:List Value} (h:0<(x::l).length),(x::l)[0]=x)/\(∀ {l:List Value} {i:Nat} {a:Value},l.toArray.setIfInBounds i a=(l.set i a).toArray)/\(∀ {x:Value} {l:List Value} {n:Nat} {a:Value},(x::l).set (n+1) a=x::l.set n a)/\(∀ {x:Value} {l:List Value} {a:Value},(x::l).set 0 a=a::l):=
 ⟨fun _ _ _=>rfl,fun _ _=>rfl,fun _=>rfl,fun _=>rfl,fun _=>rfl,QK ..,Qb,Qc⟩
theorem wH {P:Program} {ops:Array Oper} {Q:Exit->Act->World->Prop} {id:Nat} {a:Act} (w:World) (h:Below w.heap.size w w.drew->wpAnyH P .any ops Q (fun x=>Below w.heap.size w x) ops.size (Array.replicate ops.size false) a w.drew) (hm:P.follows .mixedOrders=true:=by kernel_rfl):(Code.region id ops true).wp P Q a w:=
 QL hm ((Qp _ _).drew) h
theorem wD {P:Program} {md:Region.Mode} {ops:Array Oper} {Q:Exit->Act->World->Prop} {S:World->Prop} {listed:Array Bool} {a:Act} {w:World} {fuel:Nat} (h:Q .normal a w) (hr:Region.ready md ops listed=[]:=by kernel_rfl):wpAnyH P md ops Q S fuel listed a w:=wpAnyH_done hr h fuel
theorem oT {W:World} {X K':Act->World->Prop} (hK:Shut (∀ a w,Below W.heap.size W w->(Below W.heap.size W w->X a w)->K' a w)) {a:Act} {w w':World} (hS:Below W.heap.size W w) (hb:Below w.heap.size w w') (h:Below W.heap.size W w'->X a w'):K' a w':=hK.out _ _ (hS.trans (hb.mono hS.size)) h
theorem oA {W:World} {X K':Act->World->Prop} (hK:Shut (∀ a w,Below W.heap.size W w->(Below W.heap.size W w->X a w)->K' a w)) {a:Act} {w:World} {o:Obj} (hS:Below W.heap.size W w) (h:Below W.heap.size W (w.alloc o)->X a (w.alloc o)):K' a (w.alloc o):=hK.out _ _ (hS.trans ((bU _ _).mono hS.size)) h
theorem wJ {P:Program} {ops:Array Oper} {Q:Exit->Act->World->Prop} {md:Region.Mode} {S:World->Prop} {fuel:Nat} {listed:Array Bool} {a:Act} {w:World} {oi oj:Oper} (i j:Nat) (h:∀ K':Act->World->Prop,Shut (∀ a w,S w->(S w->wpAnyH P md ops Q S fuel (listed.setIfInBounds i true) a w)->K' a w)->if Region.wanted oi (yielded ops a.tmps)=true then Oper.wp P oi a w K' Q else K' (a.put oi.dst undef) w) (h2:∀ K':Act->World->Prop,Shut (∀ a w,S w->(S w->wpAnyH P md ops Q S fuel (listed.setIfInBounds j true) a w)->K' a w)->if Region.wanted oj (yielded ops a.tmps)=true then Oper.wp P oj a w K' Q else K' (a.put oj.dst undef) w) (hi:ops[i]? = some oi:=by exact rfl) (hj:ops[j]? = some oj:=by exact rfl) (hr:Region.ready md ops listed=[i,j]:=by kernel_rfl):wpAnyH P md ops Q S (fuel+1) listed a w:=
 wpAnyH_ready hr (by simp) (AllReadyH.cons hi h (AllReadyH.cons hj h2 AllReadyH.nil))
theorem Zh {p:Prop} (h:p):Hid p:=h
structure Pre (w w2:World) (G tG:Nat) (c:Array Value) (bs:List (Nat × Obj)):Prop where
 TR:Below w.heap.size w w2
 lo:w.heap.size<=G
 g:GB w2 G tG c
 bs:∀ p,p∈bs->p.1≠G/\w.heap.size<=p.1/\w2.heap[p.1]? = some p.2
theorem Pre.alloc {w w2:World} {G tG:Nat} {c:Array Value} {bs:List (Nat × Obj)} (h:Pre w w2 G tG c bs) (o:Obj):Pre w (w2.alloc o) G tG c ((w2.heap.size,o)::bs):=by
 have hG:=h.g.lt;refine⟨h.TR.alloc h.TR.size o,h.lo,h.g.of (heap_alloc hG),fun p hp=>?_⟩;rcases QP.1 hp with rfl | hp
 ·exact⟨by show w2.heap.size≠G; omega,h.TR.size,kG w2 o⟩
 ·have hb:=h.bs p hp;exact⟨hb.1,hb.2.1,(heap_alloc (QI.1 hb.2.2).1).trans hb.2.2⟩
theorem Pre.drop {w w2:World} {G tG:Nat} {c:Array Value} {bs bs':List (Nat × Obj)} (h:Pre w w2 G tG c bs) (hs:∀ p,p∈bs'->p∈bs):Pre w w2 G tG c bs':=⟨h.TR,h.lo,h.g,fun p hp=>h.bs p (hs p hp)⟩
theorem Pre.at {w w2:World} {G tG:Nat} {c:Array Value} {bs:List (Nat × Obj)} (h:Pre w w2 G tG c bs) {b t:Nat} {d:Array Value} (hm:(b,Obj.cells d t (0,0))∈bs):GB w2 b t d:=(h.bs _ hm).2.2
theorem uS {w w':World} {base base':Nat} {e:TypeId} {size:Nat} {v:Value} {n:Nat} {xs:List Value} (h:w.ownsRow base e size v n xs) (hb:base'<=base) (ho:∀ j,base<=j->j<w.heap.size->w'.heap[j]? = w.heap[j]?):w'.ownsRow base' e size v n xs:=by
 obtain⟨h1,h2⟩:=h;refine⟨h1,?_⟩;rcases h2 with h2 | ⟨g,cap,cur,hv,hg,hh,r⟩
 ·exact Or.inl h2
 ·exact Or.inr ⟨g,cap,cur,hv,Q4 hb hg,(ho g hg (QI.1 hh).1).trans hh,r⟩
def nk:List Value:=[.int .i64 77777,.int .i64 0,.int .i64 0,.int .i64 0,.slice none 0 0,.int .i64 0,.slice none 0 0]
