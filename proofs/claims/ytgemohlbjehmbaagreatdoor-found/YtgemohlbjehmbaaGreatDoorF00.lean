import Derived.Deep.RegionHeld
import Derived.WalkKit
import Derived.Deep.QuietTactic
import Derived.BigQuiet
import Derived.WalkSmall
import Derived.Laws.CopyOwn
import Derived.Deep.OwnRows
import Derived.Laws.BitsAllLaws
import Derived.RangeFuncRecord
import Derived.RangeFuncBound
import Derived.RangeFuncCalls
import Derived.RangeFuncLeaves
import Derived.Below
import Derived.RangeFuncNested
import Derived.Shelf.Abstract
import Derived.OwnWalkIn
import Derived.TacticsInMore
import Derived.LoopNIn
import Derived.LoopIn
import Derived.Test.YtgemohlbjehmbaaGreatDoorProg
import Derived.Maps.OwnIn
import Derived.Maps.AppendAt
import Derived.OwnWalk
import Derived.Shelf.Spec.SlicesGrow
import Derived.Laws.AppendOwnNone
import Derived.Shelf.RegionOpen
import Derived.Deep.AppendLies
import Derived.RegionTactic
import Derived.Deep.Cut
import Derived.Deep.RegionHeld3
import Derived.Deep.RegionLaw
import Derived.Deep.DrawnRows
import Derived.Laws.ShiftsVarLaws
import Derived.Shelf.Bits.Mul64
import Derived.Shelf.Strconv.Itoa0
import Derived.Deep.CutRange
import Derived.Laws.ResultCell
import Derived.OrdersHeld
import Derived.Laws.MakeOwn
import Derived.Lib.SliceRun
import Derived.LaidEqlPtr
import Derived.RegionCalls
import Derived.WideKeyPair
import Derived.Maps.Views
import Derived.Sort.CutIn
import Derived.BigRegion
import Derived.Laws.IdiomCopy
import Derived.Lib.AppendZerosOnto
import Derived.Lib.Overlaps
import Derived.Shelf.Spec.SlicesInsert
import Derived.Laws.Externs
import Derived.Conc.LoneSelect
import Derived.Laws.Append
set_option linter.all false
set_option maxRecDepth 100000
set_option maxHeartbeats 16000000
namespace Go.RowKit
theorem Hid.o{p:Prop}(h:Hid p):p:=h
end Go.RowKit
namespace Go
theorem Shut.o{p:Prop}(h:Shut p):p:=h
end Go
namespace Go.Proofs.Zz
open Go.RowKit Go.Shelf
variable {α:Type} {P:Program} {ops:Array Oper} {Q:Exit->Act->World->Prop} {md:Region.Mode} {S:World->Prop} {G b b0 b1 b2 b3 b4 b5 b6 fuel i k o0 o1 o2 o3 o4 o5 o6 tG:Nat} {listed:Array Bool} {a:Act} {W w w' w1 w2 x:World} {oi:Oper} {n:Int} {xs:List Int} {u v v0 v1 v10 v11 v12 v2 v3 v4 v5 v6 v7 v8 v9:Value} {t:TypeId} {c:Array Value} {p:Prop} {K' X:Act->World->Prop} {bs:List (Nat × Obj)}
theorem eX(a:α):∃ z,a=z:=⟨a,rfl⟩
theorem eY(a:α):∃ z,z=a:=⟨a,rfl⟩
@[reducible] def Bw (w x:World):Prop:=RowKit.Below w.heap.size w x
def Qa:=@Go.wpAnyH_take
def Qb:=@List.set_cons_succ.{0}
def Qc:=@List.set_cons_zero.{0}
def Qh:=@List.take_succ_eq_append_getElem.{0}
def Qi:=@List.map_append.{0,0}
def Qj:=@Bool.and_eq_true
def Qk:=@List.all_eq_true.{0}
def Qm:=@Go.RowKit.Below.refl
def Qn:=@Nat.le_refl
def Qo:=@if_pos.{1}
def Qp:=@List.getElem_of_mem.{0}
def Qs:=@decide_eq_true_eq
def Qt:=@decide_eq_false_iff_not
def Qu:=@if_neg.{1}
def Qv:=@decide_eq_true
def Qw:=@Bool.true_and
def QA:=@List.setIfInBounds_toArray.{0}
def QC:=@Go.wp_region_held_drew
def QD:=@List.foldl_cons.{0,0}
def QG:=@Nat.testBit_lt_two_pow
def QH:=@Nat.lt_of_lt_of_le
def QI:=@Nat.pow_le_pow_right
def QJ:=@Nat.eq_of_testBit_eq
def QK:=@Nat.zero_le
def QL:=@Nat.zero_add
def QM:=@List.range_succ
def QO:=@List.flatMap_append.{0,0}
def QP:=@List.length_append.{0}
def QQ:=@List.length_map.{0,0}
def QR:=@List.length_range
def QT:=@List.take_length.{0}
def QV:=@List.length_cons.{0}
def QX:=@Bool.eq_iff_iff
def QY:=@Int.toNat_of_nonneg
def QZ:=@List.mem_map.{0,0}
def Q0:=@List.mem_range
def Q3:=@List.mem_flatMap.{0,0}
def Q4:=@Bool.not_eq_true'
def Q6:=@Nat.le_trans
def Zb:=@Array.getElem?_eq_some_iff.{0}
def Zc:=@Go.World.cell?_of_block
def Zd:=@Go.Oper.semAt_some
def Zl:=@List.eq_nil_of_length_eq_zero.{0}
def Zm:=@List.getElem?_take.{0}
def Zo:=@Go.below_drewN
def Zq:=@List.mem_cons.{0}
def Zu:=@Go.World.ownsRow_nil
def Zv:=@Go.info_parts
def Zw:=@Go.run_append_own_at
def Zx:=@Go.World.news_of_block
def Zy:=@List.mem_singleton.{0}
def ZA:=@Go.World.size_alloc
def ZF:=@List.flatMap_cons.{0,0}
def ZG:=@Nat.add_zero
def ZI:=@List.mem_cons_of_mem.{0}
def ZJ:=@List.mem_cons_self.{0}
def ZK:=@List.mem_append.{0}
def ZL:=@List.getElem?_map.{0,0}
def ZN:=@Nat.pow_lt_pow_right
def ZO:=@List.mem_of_mem_take.{0}
def ZP:=@List.foldl_append.{0,0}
def ZQ:=@List.getElem_mem.{0}
def ZR:=@Nat.or_lt_two_pow
def ZT:=@List.take_of_length_le.{0}
def ZU:=@Nat.pow_pos
def ZV:=@Int.eq_ofNat_of_zero_le
def ZW:=@decide_eq_false
def ZX:=@List.take_append_drop.{0}
def ZY:=@Int.toNat_natCast
def ZZ:=@List.length_take.{0}
def Z0:=@Nat.lt_or_ge
def Z4:=@beq_eq_false_iff_ne.{0}
def Z5:=@Go.Calls.mono
def Z7:=@Nat.zero_mul
def Z8:=@Go.wpQuiet_nil
def Z9:=@Go.callsIn_wide
def Xa:=@List.length_nil.{0}
def Xb:=@List.append_nil.{0}
def Xd:=@Go.wpAnyIn_ready
def Xe:=@Go.AllReadyIn.cons
def Xf:=@Go.AllReadyIn.nil
def Xh:=@Go.bodyPost_ret
def Xi:=@List.getElem?_eq_none.{0}
def Xj:=@Go.Lib.run_eql_slice_nil
def Xo:=@List.getD_eq_getElem?_getD.{0}
def Xr:=@List.getElem?_eq_getElem.{0}
def Xt:=@List.length_eq_zero_iff.{0}
def Xu:=@List.map_map.{0,0,0}
def Xv:=@Nat.add_assoc
def Xw:=@List.length_set.{0}
def Xy:=@Nat.sub_self
def Xz:=@Option.isSome_iff_exists.{0}
def XA:=@of_decide_eq_true
def XB:=@Array.getElem?_setIfInBounds.{0}
def XC:=@List.getElem_toArray.{0}
def XD:=@List.getElem_cons_succ.{0}
def XE:=@List.getElem_cons_zero.{0}
def XG:=@List.length_drop.{0}
def XH:=@Nat.add_sub_cancel
def XI:=@And.intro
def XJ:=@Array.setIfInBounds_setIfInBounds.{0}
def XM:=@Go.World.frozen?_of_block
def XO:=@List.getElem?_toArray.{0}
def XP:=@List.getElem?_cons_succ.{0}
def XQ:=@List.getElem?_cons_zero.{0}
def XR:=@Go.results_cell_row
def XU:=@List.length_singleton.{0}
def XW:=@Array.getElem?_append_left.{0}
theorem wT(i:Nat)(v:Value)(hS:S w)(hy:∀ x,S x->(execOp a.eval oi).run P x=.ok (.value v) x)(h:wpAnyH P md ops Q S fuel (listed.setIfInBounds i true) (a.put oi.dst v) w)(hi:ops[i]? = some oi:=by exact rfl)(hs:Region.noSelect ops=true:=by kernel_rfl)(hf:Region.free md ops listed i=true:=by kernel_rfl)(hr:(Region.ready md ops listed).contains i=true:=by kernel_rfl)(hQ:∀ c a w,Q (.panic c) (a.put oi.dst v) w->Q (.panic c) a w:=by exact λ_ _ _ h=>h)(hg:Region.wanted oi (yielded ops a.tmps)=true:=by rfl):wpAnyH P md ops Q S (fuel+1) listed a w:=
 Qa hi hs hf hr hQ (.inl ⟨hg,hy⟩) hS h
theorem wG(i:Nat)(v:Value)(hS:S w)(hy:∀ x,S x->(execOp a.eval oi).run P x=.ok (.value v) x)(h:wpAnyH P md ops Q S fuel (listed.setIfInBounds i true) (a.put oi.dst v) w)(hi:ops[i]? = some oi:=by exact rfl)(hs:Region.noSelect ops=true:=by kernel_rfl)(hf:Region.free md ops listed i=true:=by kernel_rfl)(hr:(Region.ready md ops listed).contains i=true:=by kernel_rfl)(hQ:∀ c a w,Q (.panic c) (a.put oi.dst v) w->Q (.panic c) a w:=by exact λ_ _ _ h=>h)(hg:Region.wanted oi (yielded ops a.tmps)=true:=by kernel_rfl):wpAnyH P md ops Q S (fuel+1) listed a w:=
 Qa hi hs hf hr hQ (.inl ⟨hg,hy⟩) hS h
theorem wN(i:Nat)(v:Value)(hS:S w)(hy:∀ x,S x->(execOp a.eval oi).run P x=.ok (.value v) x)(h:wpAnyH P md ops Q S fuel (listed.setIfInBounds i true) (a.put oi.dst v) w)(hi:ops[i]? = some oi:=by exact rfl)(hs:Region.noSelect ops=true:=by kernel_rfl)(hf:Region.free md ops listed i=true:=by kernel_rfl)(hr:(Region.ready md ops listed).contains i=true:=by kernel_rfl)(hQ:∀ c a w,Q (.panic c) (a.put oi.dst v) w->Q (.panic c) a w:=by exact λ_ _ _ h=>by cases h.1)(hg:Region.wanted oi (yielded ops a.tmps)=true:=by rfl):wpAnyH P md ops Q S (fuel+1) listed a w:=
 Qa hi hs hf hr hQ (.inl ⟨hg,hy⟩) hS h
theorem wU(i:Nat)(hS:S w)(h:wpAnyH P md ops Q S fuel (listed.setIfInBounds i true) (a.put oi.dst undef) w)(hi:ops[i]? = some oi:=by exact rfl)(hs:Region.noSelect ops=true:=by kernel_rfl)(hf:Region.free md ops listed i=true:=by kernel_rfl)(hr:(Region.ready md ops listed).contains i=true:=by kernel_rfl)(hQ:∀ c a w,Q (.panic c) (a.put oi.dst undef) w->Q (.panic c) a w:=by exact λ_ _ _ h=>h)(hg:Region.wanted oi (yielded ops a.tmps)=false:=by kernel_rfl):wpAnyH P md ops Q S (fuel+1) listed a w:=
 Qa hi hs hf hr hQ (.inr ⟨hg,rfl⟩) hS h
theorem wV(i:Nat)(hS:S w)(h:wpAnyH P md ops Q S fuel (listed.setIfInBounds i true) (a.put oi.dst undef) w)(hi:ops[i]? = some oi:=by exact rfl)(hs:Region.noSelect ops=true:=by kernel_rfl)(hf:Region.free md ops listed i=true:=by kernel_rfl)(hr:(Region.ready md ops listed).contains i=true:=by kernel_rfl)(hQ:∀ c a w,Q (.panic c) (a.put oi.dst undef) w->Q (.panic c) a w:=by exact λ_ _ _ h=>h)(hg:Region.wanted oi (yielded ops a.tmps)=false:=by rfl):wpAnyH P md ops Q S (fuel+1) listed a w:=
 Qa hi hs hf hr hQ (.inr ⟨hg,rfl⟩) hS h
theorem wR(i:Nat)(h:∀ K':Act->World->Prop,Shut (∀ a w,S w->(S w->wpAnyH P md ops Q S fuel (listed.setIfInBounds i true) a w)->K' a w)->if Region.wanted oi (yielded ops a.tmps)=true then Oper.wp P oi a w K' Q else K' (a.put oi.dst undef) w)(hi:ops[i]? = some oi:=by exact rfl)(hr:Region.ready md ops listed=[i]:=by kernel_rfl):wpAnyH P md ops Q S (fuel+1) listed a w:=
 wpAnyH_ready hr (by simp) (AllReadyH.cons hi h AllReadyH.nil)
@[reducible] def aD (b o : Nat) : Addr := ⟨b, o, none⟩
theorem sB{α : Type}{x : α}{l : List α}{n : Nat}{a : α} : (x :: l).set (n + 1) a = x :: l.set n a := Qb
theorem sC{α : Type}{x : α}{l : List α}{a : α} : (x :: l).set 0 a = a :: l := Qc
theorem abq{a b:Bool}(h:a=b):Ending.returned (.bool a)=.returned (.bool b):=by rw[h]
theorem ae9{k:IntKind}{a b:Int}(h:a=b):Ending.returned (.int k a)=.returned (.int k b):=by rw[h]
def bT(w:World)(ao:Option Addr)(n:Nat)(f:Nat->Value):Prop:=
 ∀ i,i<n->∃ b off,ao=some (aD b off)/\w.cell? (aD b (off+i))=some (f i)
theorem bT.get{w:World}{ao:Option Addr}{n:Nat}{f:Nat->Value}(h:bT w ao n f){i:Nat}(hi:i<n) :
  ∃ b a,ao=some (aD b a)/\∀ j,j<n->w.cell? (aD b (a+j))=some (f j):=by obtain⟨b,a,rfl,_⟩:=h i hi;refine⟨b,a,rfl,λj g=>?_⟩;obtain⟨k,d,e,l⟩:=h j g;simp_all
def aM(w:World)(ao:Option Addr)(xs:List Int):Prop:=
 xs.length<=1152921504606846976/\bT w ao xs.length (λi=>.int .i64 (xs.getD i 0))
theorem aM.get{w:World}{ao:Option Addr}{xs:List Int}(h:aM w ao xs){i:Nat}(hi:i<xs.length) :
  ∃ b a,ao=some (aD b a)/\∀ j,j<xs.length->w.cell? (aD b (a+j))=some (.int .i64 (xs.getD j 0)):=
 bT.get h.2 hi
structure af where
 aX:Int
 rows:Int
 k0:Int
 k1:Int
 k2:Int
 k3:Int
def af.vals(t:af):Array Value:=#[.int .i64 t.aX,.int .i64 t.rows,.int .i64 t.k0,.int .i64 t.k1,.int .i64 t.k2,.int .i64 t.k3]
def tz:af:=⟨0,0,0,0,0,0⟩
def bF(w:World)(ao:Option Addr)(ts:List af):Prop:=
 ts.length<=192153584101141162/\∀ i,i<ts.length->∃ b off,ao=some (aD b off)/\
  w.cell? (aD b (off+i*6))=some (.int .i64 (ts.getD i tz).aX)/\w.cell? (aD b (off+i*6+1))=some (.int .i64 (ts.getD i tz).rows)/\
  w.cell? (aD b (off+i*6+2))=some (.int .i64 (ts.getD i tz).k0)/\w.cell? (aD b (off+i*6+3))=some (.int .i64 (ts.getD i tz).k1)/\
  w.cell? (aD b (off+i*6+4))=some (.int .i64 (ts.getD i tz).k2)/\w.cell? (aD b (off+i*6+5))=some (.int .i64 (ts.getD i tz).k3)
structure aI where
 not:Bool
 op:Int
 left:Int
 const:Bool
 right:Int
def cz:aI:=⟨false,0,0,false,0⟩
def aI.val(c:aI):Value:=.agg #[.bool c.not,.int .i64 c.op,.int .i64 c.left,.bool c.const,.int .i64 c.right]
def bZ(w:World)(ao:Option Addr)(cs:List aI):Prop:=
 cs.length<=230584300921369395/\∀ i,i<cs.length->∃ b off,ao=some (aD b off)/\
  w.cell? (aD b (off+i*5))=some (.bool (cs.getD i cz).not)/\w.cell? (aD b (off+i*5+1))=some (.int .i64 (cs.getD i cz).op)/\
  w.cell? (aD b (off+i*5+2))=some (.int .i64 (cs.getD i cz).left)/\w.cell? (aD b (off+i*5+3))=some (.bool (cs.getD i cz).const)/\
  w.cell? (aD b (off+i*5+4))=some (.int .i64 (cs.getD i cz).right)
structure aL where
 ad:Option Addr
 cap:Nat
 cs:List aI
def lz:aL:=⟨none,0,[]⟩
def aL.val(c:aL):Value:=.slice c.ad c.cs.length c.cap
def fT(w:World)(ao:Option Addr)(ls:List aL):Prop:=
 ls.length<=1152921504606846976/\bT w ao ls.length (λi=>(ls.getD i lz).val)/\∀ i,i<ls.length->bZ w (ls.getD i lz).ad (ls.getD i lz).cs
structure ai where
 ad:Option Addr
 cap:Nat
 xs:List Int
def ai.val(v:ai):Value:=.slice v.ad v.xs.length v.cap
def ai.At(v:ai)(w:World):Prop:=aM w v.ad v.xs
structure ae where
 src:ai
 dD:Option Addr
 aS:Nat
 wh:List aL
 group:Bool
 keys:ai
 sums:ai
 bA:ai
 ord:ai
def ae.cells(q:ae):Array Value:=#[q.src.val,.slice q.dD q.wh.length q.aS,.bool q.group,q.keys.val,q.sums.val,q.bA.val,q.ord.val]
structure ae.At(q:ae)(w:World):Prop where
 src:q.src.At w
 wh:fT w q.dD q.wh
 keys:q.keys.At w
 sums:q.sums.At w
 bA:q.bA.At w
 ord:q.ord.At w
def di(xs:List Int)(n:Int):Bool:=xs.all λx=>decide (0<=x)&&decide (x<n)
def cK(xs:List Int):Bool:=decide (∀ i,i<xs.length->∀ j,j<i->xs.getD i 0≠xs.getD j 0)
theorem PQ{j:Nat}(hi:i<xs.length)(hj:j<i)(h:xs.getD i 0=xs.getD j 0):false=cK xs:=by grind [cK]
theorem LU(h:∀ i,i<xs.length->∀ j,j<i->xs.getD i 0≠xs.getD j 0):true=cK xs:=by grind [cK]
def gJ(c:aI)(n:Int):Bool:=
 decide (0<=c.left)&&decide (c.left<n)&&decide (0<=c.op)&&decide (c.op<=2) &&
  (if c.op=2 then !c.const&&decide (c.right=0) else if c.const then decide (-1000<=c.right)&&decide (c.right<=1000) else decide (0<=c.right)&&decide (c.right<=n-1))
def Gv(group:Bool)(keys sums bA:List Int):Int:=if group then keys.length+1+sums.length else bA.length
def af.kd(t:af):Nat->Int
 | 0 => t.k0
 | 1 => t.k1
 | 2 => t.k2
 | _ => t.k3
theorem af.afa(wr:World)(t:af)(ty:TypeId)(m:Nat)(hm:m<4) :
  (wr.alloc (.cells #[.int .i64 t.aX,.int .i64 t.rows,.int .i64 t.k0,.int .i64 t.k1,.int .i64 t.k2,.int .i64 t.k3] ty)).cell? (aD wr.heap.size (2+m))=some (.int .i64 (t.kd m)):=by rcases (by omega:m=0∨m=1∨m=2∨m=3) with rfl | rfl | rfl | rfl <;> simp[af.kd]
def fB(t:af):Bool:=
 decide (1<=t.aX/\t.aX<=4/\0<=t.rows/\t.rows<=1000000/\∀ m,m<t.aX.toNat->1<=t.kd m/\t.kd m<=1000000)
theorem PR{t:af}(h:t.aX<1∨4<t.aX∨t.rows<0∨1000000<t.rows):fB t=false:=by unfold fB;grind
theorem LV{t:af}(m:Nat)(hm:m<t.aX.toNat)(h:t.kd m<1∨1000000<t.kd m):fB t=false:=by unfold fB;grind
theorem LW{t:af}(h1:1<=t.aX)(h2:t.aX<=4)(h3:0<=t.rows)(h4:t.rows<=1000000)(h:∀ m,m<t.aX.toNat->1<=t.kd m/\t.kd m<=1000000):fB t=true:=by unfold fB;simp_all
def gH(ts:List af):Bool:=decide (1<=ts.length)&&decide (ts.length<=8)&&ts.all fB
theorem PS{ts:List af}(h:ts.length<1):false=gH ts:=by grind [gH]
theorem Vn{ts:List af}(h:8<ts.length):false=gH ts:=by grind [gH]
theorem abr{ts:List af}(hk:k<ts.length)(h:fB (ts.getD k tz)=false):false=gH ts:=by grind [gH]
theorem lt_of_cell{o:Nat}(h:w.cell? (aD b o)=some v):b<w.heap.size:=by simp only[World.cell?]at h;grind
def Qd:=@abq
def Qe:=@ae9
def Qf:=@bT.get
def Qg:=@aM.get
def az(ts:List af)(xs:List Int):Int:=(xs.map λt=>(ts.getD t.toNat tz).aX).sum
theorem jH(ts:List af)(xs:List Int)(k:Nat)(hk:k<xs.length):az ts (xs.take (k+1))=az ts (xs.take k)+(ts.getD xs[k].toNat tz).aX:=by unfold az;rw[Qh hk,Qi,List.sum_append];simp
theorem qF{ts:List af}(hc:gH ts=true)(hi:i<ts.length):1<=(ts.getD i tz).aX/\(ts.getD i tz).aX<=4:=by unfold gH at hc;rw[Qj]at hc;have h:=Qk.1 hc.2 (ts.getD i tz) (by simp_all);unfold fB at h;simp_all
theorem qG(h:di xs n=true)(hk:k<xs.length):0<=xs[k]/\xs[k]<n:=by unfold di at h;simp_all
theorem mO{ts:List af}{xs:List Int}(hc:gH ts=true)(ha:di xs ts.length=true):∀ k,k<=xs.length->0<=az ts (xs.take k)/\az ts (xs.take k)<=4*k
 | 0,_ => by simp[az]
 | k+1,hk => by have ih:=mO hc ha k (by omega);rw[jH ts xs k (by omega)];have h1:=qG ha (k:=k) (by omega);have h2:=qF hc (i:=(xs[k]'(by omega)).toNat) (by omega);omega
theorem cB(hb:Bw w w'){o:Nat}(h:w.cell? (aD b o)=some v):w'.cell? (aD b o)=some v:=
 (hb.cell (p:=(aD b o)) (lt_of_cell h)).trans h
theorem bT.below{w w':World}(hb:Bw w w'){ao:Option Addr}{n:Nat}{f:Nat->Value}(h:bT w ao n f):bT w' ao n f:=λi d=>by obtain⟨b,a,e,g⟩:=h i d;grind [cB]
theorem aM.below{w w':World}(hb:Bw w w'){ao:Option Addr}{xs:List Int}(h:aM w ao xs):aM w' ao xs:=⟨h.1,h.2.below hb⟩
theorem bF.below{w w':World}(hb:Bw w w'){ao:Option Addr}{ts:List af}(h:bF w ao ts):bF w' ao ts:=⟨h.1,λi m=>by
 obtain⟨b,a,e,d,f,g,j,k,l⟩:=h.2 i m;exact⟨b,a,e,cB hb d,cB hb f,cB hb g,cB hb j,cB hb k,cB hb l⟩⟩
theorem bZ.below{w w':World}(hb:Bw w w'){ao:Option Addr}{cs:List aI}(h:bZ w ao cs):bZ w' ao cs:=⟨h.1,λi l=>by
 obtain⟨b,a,e,d,f,g,j,k⟩:=h.2 i l;exact⟨b,a,e,cB hb d,cB hb f,cB hb g,cB hb j,cB hb k⟩⟩
theorem fT.below{w w':World}(hb:Bw w w'){ao:Option Addr}{ls:List aL}(h:fT w ao ls):fT w' ao ls:=
 ⟨h.1,h.2.1.below hb,λi a=>(h.2.2 i a).below hb⟩
theorem ae.At.below{w w':World}(hb:Bw w w'){q:ae}(h:q.At w):q.At w':=
 ⟨aM.below hb h.src,h.wh.below hb,aM.below hb h.keys,aM.below hb h.sums,aM.below hb h.bA,aM.below hb h.ord⟩
theorem fq(w:World)(o:Obj):Bw w (w.alloc o):=(Qm _ _).alloc (Qn _) o
theorem aF(h:Bw w w1)(k:Bw w1 w2):Bw w w2:=h.trans (k.mono h.size)
theorem zl(hb:Bw W w1):(∀ b o,b<W.heap.size->w1.cell? (aD b o)=W.cell? (aD b o)):=
 λb o h=>hb.cell (p:=(aD b o)) h
def oF(src:List Int)(wh:List (List aI))(keys sums bA ord:List Int):Bool:=
 decide (5<src.length∨8<wh.length∨8<bA.length∨4<keys.length∨4<sums.length∨4<ord.length) || wh.any (λc=>decide (3<c.length))
def jP(c:List aI)(n:Int):Bool:=decide (0<c.length)&&c.all (λx=>gJ x n)
def gW(wh:List (List aI))(n:Int):Bool:=wh.all (λc=>jP c n)
def xy(n:Int)(group:Bool)(keys sums bA ord:List Int):Bool:=
 di bA n&&di keys n&&di sums n&&di ord (Gv group keys sums bA)&&cK keys&&cK ord&&(group==decide (bA.length=0))&&(group || decide (keys.length+sums.length=0))
def checkN(ts:List af)(src:List Int)(wh:List (List aI))(group:Bool)(keys sums bA ord:List Int):Int:=
 if gH ts=false then 1
 else if oF src wh keys sums bA ord=true then 2
 else if di src ts.length=true/\0<src.length/\gW wh (az ts src)=true/\xy (az ts src) group keys sums bA ord=true then 0
 else 3
def ae.oG(q:ae):List (List aI):=q.wh.map aL.cs
def ae.check(q:ae)(ts:List af):Int:=checkN ts q.src.xs q.oG q.group q.keys.xs q.sums.xs q.bA.xs q.ord.xs
theorem ae.Vo{q:ae}{ts:List af}(h:gH ts=false):(1:Int)=q.check ts:=by unfold ae.check checkN;rw[Qo h]
theorem ae.PU{q:ae}{ts:List af}(h:gH ts=true)(hf:oF q.src.xs q.oG q.keys.xs q.sums.xs q.bA.xs q.ord.xs=true):(2:Int)=q.check ts:=by unfold ae.check checkN;simp_all
def Cx(ls:List aL)(k:Nat):Bool:=(ls.take k).any (λc=>decide (3<c.cs.length))
theorem Vp(q:ae):q.oG.any (λc=>decide (3<c.length))=Cx q.wh q.wh.length:=by unfold Cx ae.oG;grind
theorem JG{q:ae}{n:Int}{k:Nat}(hk:k<q.wh.length)(h:jP (q.wh.getD k lz).cs n=false):gW q.oG n=false:=by unfold gW ae.oG;grind
theorem Gw{q:ae}{n:Int}(h:∀ k,k<q.wh.length->jP (q.wh.getD k lz).cs n=true):gW q.oG n=true:=by unfold gW ae.oG;rw[List.all_map,Qk];intro c a;obtain⟨k,b,rfl⟩:=Qp a;simp_all
theorem JH{c:List aI}(h:¬ 0<c.length):jP c n=false:=by grind [jP]
theorem LX{c:List aI}(hk:k<c.length)(h:gJ (c.getD k cz) n=false):jP c n=false:=by grind [jP]
theorem JI{c:List aI}(h0:0<c.length)(h:∀ k,k<c.length->gJ (c.getD k cz) n=true):jP c n=true:=by grind [jP,List.getElem_of_mem]
def Ql:=@aM.below
theorem Dt{P:Program}{id:Nat}{Q:Exit->Act->World->Prop}{a:Act}{w:World}{l:List Oper}(hm:P.follows .mixedOrders=true)(hB:Region.lexB .any l.toArray=true)
  (h:wpQuiet P l.toArray (λx=>Bw w x) (λb=>∀ x,Bw w x->Q .normal b x) l a):(Code.region id l.toArray true).wp P Q a w:=
 wp_region_quiet (C:=λx=>Bw w x) hm hB (Qm _ _).drew (by simpa using h)
theorem Calls.within{P:Program}{f:FuncId}{args:Array Value}{w x:World}{v:Value}(hx:Bw w x)
  (h:Calls P f args x λe w'=>e=.returned v/\Bw x w'):Calls P f args x λe a=>e=.returned v/\Bw w a:=
 h.mono λ_ _ ⟨he,hb⟩=>⟨he,aF hx hb⟩
theorem Calls.LY{f:FuncId}{args:Array Value}(hx:Bw w x)
  (h:Calls P f args x λe w'=>e=.returned v/\w' = x):Calls P f args x λe a=>e=.returned v/\Bw w a:=
 h.mono λ_ _ ⟨he,hb⟩=>⟨he,by simp_all⟩
section
variable {N:Int} {group:Bool} {keys sums bA ord:List Int}
theorem afb:((bA.length:Int)==0)=decide (bA.length=0):=by grind
end
def foundAt(r:Int)(b:Bool):Prop:=-1<=r/\decide (0<=r)=b
theorem JJ{p:α->Bool}{xs:List α}{z:α}(hk:k<xs.length)(h:p (xs.getD k z)=true):xs.any p=true:=by grind
theorem any_none{p:α->Bool}{xs:List α}{z:α}(h:∀ k,k<xs.length->p (xs.getD k z)=false):xs.any p=false:=by grind [List.getElem_of_mem]
theorem abt{ts:List af}(h1:¬ ts.length<1)(h8:¬ 8<ts.length):(!(ts.any λt=>!fB t))=gH ts:=by grind [gH]
def Bh(x n:Int):Bool:=decide (0<=x)&&decide (x<n)
theorem abu(xs:List Int)(n:Int):(!(xs.any λx=>!Bh x n))=di xs n:=by grind [Bh,di]
theorem abv(ls:List aL):(ls.any λc=>decide (3<c.cs.length))=Cx ls ls.length:=by unfold Cx;simp_all
theorem ae.Ux(q:ae):oF q.src.xs q.oG q.keys.xs q.sums.xs q.bA.xs q.ord.xs =
  (decide (5<q.src.xs.length∨8<q.wh.length∨8<q.bA.xs.length∨4<q.keys.xs.length∨4<q.sums.xs.length∨4<q.ord.xs.length) || Cx q.wh q.wh.length):=by unfold oF;rw[Vp];simp[ae.oG]
theorem abw{c:aI}{n:Int}(h:Bh c.left n=false):false=gJ c n:=by refine(Bool.eq_false_iff.2 ?_).symm;intro a;simp only[gJ,Qj,Qs]at a;simp only[Bh,Bool.and_eq_false_iff,Qt]at h;omega
theorem xU{c:aI}{n:Int}(h:Bh c.left n=true)(ho:c.op=0∨c.op=1)(hc:c.const=true):(decide (-1000<=c.right)&&decide (c.right<=1000))=gJ c n:=by simp only[Bh,Qj,Qs]at h;unfold gJ;grind
theorem Bi{c:aI}{n:Int}(h:Bh c.left n=true)(ho:c.op=0∨c.op=1)(hc:c.const=false):Bh c.right n=gJ c n:=by simp only[Bh,Qj,Qs]at h;unfold gJ;rw[Qu (by omega),Qu (by simp[hc]),Qv h.1,Qv h.2,Qv (show 0<=c.op by omega),Qv (show c.op<=2 by omega)];simp only[Bh,Bool.and_self,Qw];grind
theorem LZ{c:aI}{n:Int}(h:Bh c.left n=true)(ho:c.op=2):(!c.const&&decide (c.right=0))=gJ c n:=by simp only[Bh,Qj,Qs]at h;unfold gJ;simp_all
theorem L6{c:aI}{n:Int}(h0:¬ c.op=0)(h1:¬ c.op=1)(h2:¬ c.op=2):false=gJ c n:=by refine(Bool.eq_false_iff.2 ?_).symm;intro a;simp only[gJ,Qj,Qs]at a;omega
def Qq:=@Dt
def Qr:=@Calls.within
theorem qH(w:World)(o:Obj):(w.alloc o).heap[w.heap.size]? = some o:=by show (w.heap.push o)[w.heap.size]? = _;simp
theorem addr_add(b off j:Nat):((aD b off):Addr).add j=(aD b (off+j)):=by unfold Addr.add; simp_all
def Qx:=@addr_add
theorem JL{α:Type}(f:α->List Value)(s:Nat)(hf:∀ x,(f x).length=s)(z:α):∀ (xs:List α) (rest:List Value) (i j:Nat),i<xs.length->j<s->(xs.flatMap f++rest)[i*s+j]? = (f (xs.getD i z))[j]?
 | [],_,i,_,hi,_ => absurd hi (by simp)
 | x::xs,rest,0,j,_,hj => by grind
 | x::xs,rest,i+1,j,hi,hj => by have ih:=JL f s hf z xs rest i j (by simp_all) hj;grind
def aI.vals(c:aI):List Value:=[.bool c.not,.int .i64 c.op,.int .i64 c.left,.bool c.const,.int .i64 c.right]
def zc:List Value:=[.bool false,.int .i64 0,.int .i64 0,.bool false,.int .i64 0]
def ic:List Value:=[.bool false,.int .i64 77777,.int .i64 0,.bool false,.int .i64 0]
def it:List Value:=[.int .i64 77777,.int .i64 0,.int .i64 0,.int .i64 0,.int .i64 0,.int .i64 0]
def GB(w:World)(G:Nat)(t:TypeId)(c:Array Value):Prop:=w.heap[G]? = some (.cells c t (0,0))
theorem bn(w:World)(c:Array Value)(t:TypeId):∃ x,w.alloc (.cells c t)=x/\Bw w x/\GB x w.heap.size t c:=⟨_,rfl,fq _ _,qH _ _⟩
theorem GB.cell{w:World}{G:Nat}{t:TypeId}{c:Array Value}(h:GB w G t c)(i:Nat):w.cell? (aD G i)=c[i]?:=by unfold GB at h;simp[World.cell?,h]
theorem GB.frozen{w:World}{G:Nat}{t:TypeId}{c:Array Value}(h:GB w G t c)(i:Nat):w.frozen? (aD G i)=false:=by unfold GB at h;simp[World.frozen?,h]
theorem GB.lt(h:GB w G t c):G<w.heap.size:=by unfold GB at h;grind
theorem GB.set(h:GB w G t c)(i:Nat)(v:Value):GB (w.setCell (aD G i) v) G t (c.setIfInBounds i v):=by unfold GB at *;rw[setCell_eq_setRow w G i c t (0,0) v h];grind [setRow_heap]
theorem GB.of(h:GB w G t c)(e:w'.heap[G]? = w.heap[G]?):GB w' G t c:=by unfold GB at *;simp_all
theorem heap_alloc{w:World}{o:Obj}{k:Nat}(h:k<w.heap.size):(w.alloc o).heap[k]? = w.heap[k]?:=Below.heap_alloc _ _ _ h
def Qy:=@GB.cell
def Qz:=@GB.frozen
theorem GB.at(h:GB w G t c)(i:Nat)(hv:c.toList[i]? = some v:=by exact rfl):w.cell? (aD G i)=some v:=by grind [GB.cell]
theorem hd(h:p):Hid p:=h
theorem pA(l:List Value)(d)(i:Nat)(v:Value):Act.put { tmps:=l.toArray,defers:=d } (some i) v = { tmps:=(l.set i v).toArray,defers:=d }:=by simp[Act.put]
theorem pU:(∀ (l:List Value) (d) (i:Nat) (v:Value),Act.put { tmps:=l.toArray,defers:=d } (some i) v = { tmps:=(l.set i v).toArray,defers:=d })/\(∀ {x:Value} {l:List Value} {n:Nat} {a:Value},(x::l).set (n+1) a=x::l.set n a)/\(∀ {x:Value} {l:List Value} {a:Value},(x::l).set 0 a=a::l):=⟨pA,Qb,Qc⟩
theorem wt(i:Nat)(v:Value)(hS:S w)(h:wpAnyH P md ops Q S fuel (listed.setIfInBounds i true) (a.put oi.dst v) w)(hi:ops[i]? = some oi:=by exact rfl)(hs:Region.noSelect ops=true:=by kernel_rfl)(hf:Region.free md ops listed i=true:=by kernel_rfl)(hr:(Region.ready md ops listed).contains i=true:=by kernel_rfl)(hQ:∀ c a w,Q (.panic c) (a.put oi.dst v) w->Q (.panic c) a w:=by exact λ_ _ _ h=>h)(hg:Region.wanted oi (yielded ops a.tmps)=true:=by rfl)(hy:∀ x,S x->(execOp a.eval oi).run P x=.ok (.value v) x:=by intro x b; go_simp):wpAnyH P md ops Q S (fuel+1) listed a w:=
 Qa hi hs hf hr hQ (.inl ⟨hg,hy⟩) hS h
theorem wg(i:Nat)(v:Value)(hS:S w)(h:wpAnyH P md ops Q S fuel (listed.setIfInBounds i true) (a.put oi.dst v) w)(hi:ops[i]? = some oi:=by exact rfl)(hs:Region.noSelect ops=true:=by kernel_rfl)(hf:Region.free md ops listed i=true:=by kernel_rfl)(hr:(Region.ready md ops listed).contains i=true:=by kernel_rfl)(hQ:∀ c a w,Q (.panic c) (a.put oi.dst v) w->Q (.panic c) a w:=by exact λ_ _ _ h=>h)(hg:Region.wanted oi (yielded ops a.tmps)=true:=by kernel_rfl)(hy:∀ x,S x->(execOp a.eval oi).run P x=.ok (.value v) x:=by intro x b; go_simp):wpAnyH P md ops Q S (fuel+1) listed a w:=
 Qa hi hs hf hr hQ (.inl ⟨hg,hy⟩) hS h
theorem wn(i:Nat)(v:Value)(hS:S w)(h:wpAnyH P md ops Q S fuel (listed.setIfInBounds i true) (a.put oi.dst v) w)(hi:ops[i]? = some oi:=by exact rfl)(hs:Region.noSelect ops=true:=by kernel_rfl)(hf:Region.free md ops listed i=true:=by kernel_rfl)(hr:(Region.ready md ops listed).contains i=true:=by kernel_rfl)(hQ:∀ c a w,Q (.panic c) (a.put oi.dst v) w->Q (.panic c) a w:=by exact λ_ _ _ h=>by cases h.1)(hg:Region.wanted oi (yielded ops a.tmps)=true:=by rfl)(hy:∀ x,S x->(execOp a.eval oi).run P x=.ok (.value v) x:=by intro x b; go_simp):wpAnyH P md ops Q S (fuel+1) listed a w:=
 Qa hi hs hf hr hQ (.inl ⟨hg,hy⟩) hS h
theorem wm(i:Nat)(v:Value)(hS:S w)(h:wpAnyH P md ops Q S fuel (listed.setIfInBounds i true) (a.put oi.dst v) w)(hi:ops[i]? = some oi:=by exact rfl)(hs:Region.noSelect ops=true:=by kernel_rfl)(hf:Region.free md ops listed i=true:=by kernel_rfl)(hr:(Region.ready md ops listed).contains i=true:=by kernel_rfl)(hQ:∀ c a w,Q (.panic c) (a.put oi.dst v) w->Q (.panic c) a w:=by exact λ_ _ _ h=>by cases h.1)(hg:Region.wanted oi (yielded ops a.tmps)=true:=by kernel_rfl)(hy:∀ x,S x->(execOp a.eval oi).run P x=.ok (.value v) x:=by intro x b; go_simp):wpAnyH P md ops Q S (fuel+1) listed a w:=
 Qa hi hs hf hr hQ (.inl ⟨hg,hy⟩) hS h
theorem l8{o:Nat}(i:Nat)(v:Value)(hS:Bw W w)(c:W.cell? (aD b o)=some u)(h:wpAnyH P md ops Q (λx=>Bw W x) fuel (listed.setIfInBounds i true) (a.put oi.dst v) w)(hi:ops[i]? = some oi:=by exact rfl)(hs:Region.noSelect ops=true:=by kernel_rfl)(hf:Region.free md ops listed i=true:=by kernel_rfl)(hr:(Region.ready md ops listed).contains i=true:=by kernel_rfl)(hQ:∀ c a w,Q (.panic c) (a.put oi.dst v) w->Q (.panic c) a w:=by exact λ_ _ _ h=>h)(hg:Region.wanted oi (yielded ops a.tmps)=true:=by rfl)(hy:∀ x,x.cell? (aD b o)=some u->(execOp a.eval oi).run P x=.ok (.value v) x:=by intro x d; go_simp):wpAnyH P md ops Q (λx=>Bw W x) (fuel+1) listed a w:=
 Qa hi hs hf hr hQ (.inl ⟨hg,λx d=>hy x (cB d c)⟩) hS h
theorem wgc{o:Nat}(i:Nat)(v:Value)(hS:Bw W w)(c:W.cell? (aD b o)=some u)(h:wpAnyH P md ops Q (λx=>Bw W x) fuel (listed.setIfInBounds i true) (a.put oi.dst v) w)(hi:ops[i]? = some oi:=by exact rfl)(hs:Region.noSelect ops=true:=by kernel_rfl)(hf:Region.free md ops listed i=true:=by kernel_rfl)(hr:(Region.ready md ops listed).contains i=true:=by kernel_rfl)(hQ:∀ c a w,Q (.panic c) (a.put oi.dst v) w->Q (.panic c) a w:=by exact λ_ _ _ h=>h)(hg:Region.wanted oi (yielded ops a.tmps)=true:=by kernel_rfl)(hy:∀ x,x.cell? (aD b o)=some u->(execOp a.eval oi).run P x=.ok (.value v) x:=by intro x d; go_simp):wpAnyH P md ops Q (λx=>Bw W x) (fuel+1) listed a w:=
 Qa hi hs hf hr hQ (.inl ⟨hg,λx d=>hy x (cB d c)⟩) hS h
def IsV(_:Value):Prop:=True
theorem anz{p:Value->Prop}(_:IsV v)(h:p v):∃ x,p x:=⟨v,h⟩
theorem qS{P Q:Prop}(v:Value)(k:Q)(h:IsV v->Q->P:=by
  intro hv a;go_big_quiet_want;refine anz hv ⟨λx b=>?_,?_⟩
  ·go_simp
  ·simp only[pU];go_big_quiet_on;exact a):P:=h trivial k
theorem qC{P Q C:Prop}(v:Value)(c:C)(k:Q)(h:IsV v->C->Q->P:=by
  intro hv c a;go_big_quiet_want;refine anz hv ⟨λx b=>?_,?_⟩
  ·have d:=cB b c;go_simp
  ·simp only[pU];go_big_quiet_on;exact a):P:=h trivial c k
theorem cR5(hx:Bw w x)(a0:w.cell? (aD b0 o0)=some v0)(a1:w.cell? (aD b1 o1)=some v1)(a2:w.cell? (aD b2 o2)=some v2)(a3:w.cell? (aD b3 o3)=some v3)(a4:w.cell? (aD b4 o4)=some v4):x.cell? (aD b0 o0)=some v0/\x.cell? (aD b1 o1)=some v1/\x.cell? (aD b2 o2)=some v2/\x.cell? (aD b3 o3)=some v3/\x.cell? (aD b4 o4)=some v4:=⟨cB hx a0,cB hx a1,cB hx a2,cB hx a3,cB hx a4⟩
theorem Pj(hx:Bw w x)(a0:w.cell? (aD b0 o0)=some v0)(a1:w.cell? (aD b1 o1)=some v1)(a2:w.cell? (aD b2 o2)=some v2)(a3:w.cell? (aD b3 o3)=some v3)(a4:w.cell? (aD b4 o4)=some v4)(a5:w.cell? (aD b5 o5)=some v5):x.cell? (aD b0 o0)=some v0/\x.cell? (aD b1 o1)=some v1/\x.cell? (aD b2 o2)=some v2/\x.cell? (aD b3 o3)=some v3/\x.cell? (aD b4 o4)=some v4/\x.cell? (aD b5 o5)=some v5:=⟨cB hx a0,cB hx a1,cB hx a2,cB hx a3,cB hx a4,cB hx a5⟩
theorem LA(hx:Bw w x)(a0:w.cell? (aD b0 o0)=some v0)(a1:w.cell? (aD b1 o1)=some v1)(a2:w.cell? (aD b2 o2)=some v2)(a3:w.cell? (aD b3 o3)=some v3)(a4:w.cell? (aD b4 o4)=some v4)(a5:w.cell? (aD b5 o5)=some v5)(a6:w.cell? (aD b6 o6)=some v6):x.cell? (aD b0 o0)=some v0/\x.cell? (aD b1 o1)=some v1/\x.cell? (aD b2 o2)=some v2/\x.cell? (aD b3 o3)=some v3/\x.cell? (aD b4 o4)=some v4/\x.cell? (aD b5 o5)=some v5/\x.cell? (aD b6 o6)=some v6:=⟨cB hx a0,cB hx a1,cB hx a2,cB hx a3,cB hx a4,cB hx a5,cB hx a6⟩
theorem l7(hx:Bw w x){b7 o7 b8 o8 b9 o9 b10 o10 b11 o11 b12 o12:Nat}(a0:w.cell? (aD b0 o0)=some v0)(a1:w.cell? (aD b1 o1)=some v1)(a2:w.cell? (aD b2 o2)=some v2)(a3:w.cell? (aD b3 o3)=some v3)(a4:w.cell? (aD b4 o4)=some v4)(a5:w.cell? (aD b5 o5)=some v5)(a6:w.cell? (aD b6 o6)=some v6)(a7:w.cell? (aD b7 o7)=some v7)(a8:w.cell? (aD b8 o8)=some v8)(a9:w.cell? (aD b9 o9)=some v9)(ji:w.cell? (aD b10 o10)=some v10)(jE:w.cell? (aD b11 o11)=some v11)(a12:w.cell? (aD b12 o12)=some v12):x.cell? (aD b0 o0)=some v0/\x.cell? (aD b1 o1)=some v1/\x.cell? (aD b2 o2)=some v2/\x.cell? (aD b3 o3)=some v3/\x.cell? (aD b4 o4)=some v4/\x.cell? (aD b5 o5)=some v5/\x.cell? (aD b6 o6)=some v6/\x.cell? (aD b7 o7)=some v7/\x.cell? (aD b8 o8)=some v8/\x.cell? (aD b9 o9)=some v9/\x.cell? (aD b10 o10)=some v10/\x.cell? (aD b11 o11)=some v11/\x.cell? (aD b12 o12)=some v12:=⟨cB hx a0,cB hx a1,cB hx a2,cB hx a3,cB hx a4,cB hx a5,cB hx a6,cB hx a7,cB hx a8,cB hx a9,cB hx ji,cB hx jE,cB hx a12⟩
theorem GB.k2(h:GB w G t c)(e:c.toList.take 2=[v0,v1]:=by exact rfl):w.cell? (aD G 0)=some v0/\w.cell? (aD G 1)=some v1:=by
 have r:∀ i,i<2->c.toList[i]? = ([v0,v1]:List Value)[i]?:=λi a=>by grind
 grind [GB.at]
theorem GB.k3(h:GB w G t c)(e:c.toList.take 3=[v0,v1,v2]:=by exact rfl):w.cell? (aD G 0)=some v0/\w.cell? (aD G 1)=some v1/\w.cell? (aD G 2)=some v2:=by
 have r:∀ i,i<3->c.toList[i]? = ([v0,v1,v2]:List Value)[i]?:=λi a=>by grind
 grind [GB.at]
theorem GB.k4(h:GB w G t c)(e:c.toList.take 4=[v0,v1,v2,v3]:=by exact rfl):w.cell? (aD G 0)=some v0/\w.cell? (aD G 1)=some v1/\w.cell? (aD G 2)=some v2/\w.cell? (aD G 3)=some v3:=by
 have r:∀ i,i<4->c.toList[i]? = ([v0,v1,v2,v3]:List Value)[i]?:=λi a=>by grind
 grind [GB.at]
theorem GB.k5(h:GB w G t c)(e:c.toList.take 5=[v0,v1,v2,v3,v4]:=by exact rfl):w.cell? (aD G 0)=some v0/\w.cell? (aD G 1)=some v1/\w.cell? (aD G 2)=some v2/\w.cell? (aD G 3)=some v3/\w.cell? (aD G 4)=some v4:=by
 have r:∀ i,i<5->c.toList[i]? = ([v0,v1,v2,v3,v4]:List Value)[i]?:=λi a=>by grind
 exact⟨h.at 0 (r 0 (by decide)),h.at 1 (r 1 (by decide)),h.at 2 (r 2 (by decide)),h.at 3 (r 3 (by decide)),h.at 4 (r 4 (by decide))⟩
theorem GB.k6(h:GB w G t c)(e:c.toList.take 6=[v0,v1,v2,v3,v4,v5]:=by exact rfl):w.cell? (aD G 0)=some v0/\w.cell? (aD G 1)=some v1/\w.cell? (aD G 2)=some v2/\w.cell? (aD G 3)=some v3/\w.cell? (aD G 4)=some v4/\w.cell? (aD G 5)=some v5:=by
 have r:∀ i,i<6->c.toList[i]? = ([v0,v1,v2,v3,v4,v5]:List Value)[i]?:=λi a=>by grind
 exact⟨h.at 0 (r 0 (by decide)),h.at 1 (r 1 (by decide)),h.at 2 (r 2 (by decide)),h.at 3 (r 3 (by decide)),h.at 4 (r 4 (by decide)),h.at 5 (r 5 (by decide))⟩
theorem GB.k7(h:GB w G t c)(e:c.toList.take 7=[v0,v1,v2,v3,v4,v5,v6]:=by exact rfl):w.cell? (aD G 0)=some v0/\w.cell? (aD G 1)=some v1/\w.cell? (aD G 2)=some v2/\w.cell? (aD G 3)=some v3/\w.cell? (aD G 4)=some v4/\w.cell? (aD G 5)=some v5/\w.cell? (aD G 6)=some v6:=by
 have r:∀ i,i<7->c.toList[i]? = ([v0,v1,v2,v3,v4,v5,v6]:List Value)[i]?:=λi a=>by grind
 exact⟨h.at 0 (r 0 (by decide)),h.at 1 (r 1 (by decide)),h.at 2 (r 2 (by decide)),h.at 3 (r 3 (by decide)),h.at 4 (r 4 (by decide)),h.at 5 (r 5 (by decide)),h.at 6 (r 6 (by decide))⟩
theorem GB.k8(h:GB w G t c)(e:c.toList.take 8=[v0,v1,v2,v3,v4,v5,v6,v7]:=by exact rfl):w.cell? (aD G 0)=some v0/\w.cell? (aD G 1)=some v1/\w.cell? (aD G 2)=some v2/\w.cell? (aD G 3)=some v3/\w.cell? (aD G 4)=some v4/\w.cell? (aD G 5)=some v5/\w.cell? (aD G 6)=some v6/\w.cell? (aD G 7)=some v7:=by
 have r:∀ i,i<8->c.toList[i]? = ([v0,v1,v2,v3,v4,v5,v6,v7]:List Value)[i]?:=λi a=>by grind
 exact⟨h.at 0 (r 0 (by decide)),h.at 1 (r 1 (by decide)),h.at 2 (r 2 (by decide)),h.at 3 (r 3 (by decide)),h.at 4 (r 4 (by decide)),h.at 5 (r 5 (by decide)),h.at 6 (r 6 (by decide)),h.at 7 (r 7 (by decide))⟩
theorem GB.k9(h:GB w G t c)(e:c.toList.take 9=[v0,v1,v2,v3,v4,v5,v6,v7,v8]:=by exact rfl):w.cell? (aD G 0)=some v0/\w.cell? (aD G 1)=some v1/\w.cell? (aD G 2)=some v2/\w.cell? (aD G 3)=some v3/\w.cell? (aD G 4)=some v4/\w.cell? (aD G 5)=some v5/\w.cell? (aD G 6)=some v6/\w.cell? (aD G 7)=some v7/\w.cell? (aD G 8)=some v8:=by
 have r:∀ i,i<9->c.toList[i]? = ([v0,v1,v2,v3,v4,v5,v6,v7,v8]:List Value)[i]?:=λi a=>by grind
 exact⟨h.at 0 (r 0 (by decide)),h.at 1 (r 1 (by decide)),h.at 2 (r 2 (by decide)),h.at 3 (r 3 (by decide)),h.at 4 (r 4 (by decide)),h.at 5 (r 5 (by decide)),h.at 6 (r 6 (by decide)),h.at 7 (r 7 (by decide)),h.at 8 (r 8 (by decide))⟩
theorem GB.k13(h:GB w G t c)(e:c.toList.take 13=[v0,v1,v2,v3,v4,v5,v6,v7,v8,v9,v10,v11,v12]:=by exact rfl):w.cell? (aD G 0)=some v0/\w.cell? (aD G 1)=some v1/\w.cell? (aD G 2)=some v2/\w.cell? (aD G 3)=some v3/\w.cell? (aD G 4)=some v4/\w.cell? (aD G 5)=some v5/\w.cell? (aD G 6)=some v6/\w.cell? (aD G 7)=some v7/\w.cell? (aD G 8)=some v8/\w.cell? (aD G 9)=some v9/\w.cell? (aD G 10)=some v10/\w.cell? (aD G 11)=some v11/\w.cell? (aD G 12)=some v12:=by
 have r:∀ i,i<13->c.toList[i]? = ([v0,v1,v2,v3,v4,v5,v6,v7,v8,v9,v10,v11,v12]:List Value)[i]?:=λi a=>by grind
 exact⟨h.at 0 (r 0 (by decide)),h.at 1 (r 1 (by decide)),h.at 2 (r 2 (by decide)),h.at 3 (r 3 (by decide)),h.at 4 (r 4 (by decide)),h.at 5 (r 5 (by decide)),h.at 6 (r 6 (by decide)),h.at 7 (r 7 (by decide)),h.at 8 (r 8 (by decide)),h.at 9 (r 9 (by decide)),h.at 10 (r 10 (by decide)),h.at 11 (r 11 (by decide)),h.at 12 (r 12 (by decide))⟩
theorem pV:(∀ (a:Act) (i:Nat) (v:Value),Act.put a (some i) v = { a with tmps:=a.tmps.setIfInBounds i v })/\(∀ (a:Act) (v:Value),Act.put a none v=a)/\(∀ {l:List Value} {i:Nat} (h:i<l.toArray.size),l.toArray[i]=l[i]'(by simpa using h))/\(∀ {x:Value} {l:List Value} {i:Nat} (h:i+1<(x::l).length),(x::l)[i+1]=l[i]'(Nat.lt_of_succ_lt_succ h))/\(∀ {x:Value} {l:List Value} (h:0<(x::l).length),(x::l)[0]=x)/\(∀ {l:List Value} {i:Nat} {a:Value},l.toArray.setIfInBounds i a=(l.set i a).toArray)/\(∀ {x:Value} {l:List Value} {n:Nat} {a:Value},(x::l).set (n+1) a=x::l.set n a)/\(∀ {x:Value} {l:List Value} {a:Value},(x::l).set 0 a=a::l):=
 ⟨λ_ _ _=>rfl,λ_ _=>rfl,λ_=>rfl,λ_=>rfl,λ_=>rfl,QA ..,Qb,Qc⟩
theorem wH{id:Nat}(w:World)(h:Bw w w.drew->wpAnyH P .any ops Q (λx=>Bw w x) ops.size (Array.replicate ops.size false) a w.drew)(hm:P.follows .mixedOrders=true:=by kernel_rfl):(Code.region id ops true).wp P Q a w:=
 QC hm ((Qm _ _).drew) h
theorem wD(h:Q .normal a w)(hr:Region.ready md ops listed=[]:=by kernel_rfl):wpAnyH P md ops Q S fuel listed a w:=wpAnyH_done hr h fuel
theorem oT(hK:Shut (∀ a w,Bw W w->(Bw W w->X a w)->K' a w))(hS:Bw W w)(hb:Bw w w')(h:Bw W w'->X a w'):K' a w':=hK.o _ _ (hS.trans (hb.mono hS.size)) h
theorem oA(hK:Shut (∀ a w,Bw W w->(Bw W w->X a w)->K' a w)){o:Obj}(hS:Bw W w)(h:Bw W (w.alloc o)->X a (w.alloc o)):K' a (w.alloc o):=hK.o _ _ (hS.trans ((fq _ _).mono hS.size)) h
theorem wJ{oj:Oper}(i j:Nat)(h:∀ K':Act->World->Prop,Shut (∀ a w,S w->(S w->wpAnyH P md ops Q S fuel (listed.setIfInBounds i true) a w)->K' a w)->if Region.wanted oi (yielded ops a.tmps)=true then Oper.wp P oi a w K' Q else K' (a.put oi.dst undef) w)(h2:∀ K':Act->World->Prop,Shut (∀ a w,S w->(S w->wpAnyH P md ops Q S fuel (listed.setIfInBounds j true) a w)->K' a w)->if Region.wanted oj (yielded ops a.tmps)=true then Oper.wp P oj a w K' Q else K' (a.put oj.dst undef) w)(hi:ops[i]? = some oi:=by exact rfl)(hj:ops[j]? = some oj:=by exact rfl)(hr:Region.ready md ops listed=[i,j]:=by kernel_rfl):wpAnyH P md ops Q S (fuel+1) listed a w:=
 wpAnyH_ready hr (by simp) (AllReadyH.cons hi h (AllReadyH.cons hj h2 AllReadyH.nil))
theorem Zh(h:p):Hid p:=h
structure Pre(w w2:World)(G tG:Nat)(c:Array Value)(bs:List (Nat × Obj)):Prop where
 bel:Bw w w2
 lo:w.heap.size<=G
 g:GB w2 G tG c
 bs:∀ p,p∈bs->p.1≠G/\w.heap.size<=p.1/\w2.heap[p.1]? = some p.2
theorem Pre.alloc{w w2:World}{G tG:Nat}{c:Array Value}{bs:List (Nat × Obj)}(h:Pre w w2 G tG c bs)(o:Obj):Pre w (w2.alloc o) G tG c ((w2.heap.size,o)::bs):=by
 have d:=h.g.lt;refine⟨h.bel.alloc h.bel.size o,h.lo,h.g.of (heap_alloc d),λp b=>?_⟩;rcases Zq.1 b with rfl | b
 ·exact⟨by omega,h.bel.size,qH w2 o⟩
 ·have a:=h.bs p b;exact⟨a.1,a.2.1,(heap_alloc (Zb.1 a.2.2).1).trans a.2.2⟩
theorem Pre.drop{bs':List (Nat × Obj)}(h:Pre w w2 G tG c bs)(hs:∀ p,p∈bs'->p∈bs):Pre w w2 G tG c bs':=⟨h.bel,h.lo,h.g,λp a=>h.bs p (hs p a)⟩
theorem Pre.at(h:Pre w w2 G tG c bs){t:Nat}{d:Array Value}(hm:(b,Obj.cells d t (0,0))∈bs):GB w2 b t d:=(h.bs _ hm).2.2
theorem zu{base base':Nat}{e:TypeId}{size:Nat}{n:Nat}{xs:List Value}(h:w.ownsRow base e size v n xs)(hb:base'<=base)(ho:∀ j,base<=j->j<w.heap.size->w'.heap[j]? = w.heap[j]?):w'.ownsRow base' e size v n xs:=by
 obtain⟨i,b⟩:=h;refine⟨i,?_⟩;rcases b with b | ⟨g,cap,a,hv,d,f,r⟩
 ·simp_all
 ·exact Or.inr ⟨g,cap,a,hv,Q6 hb d,(ho g d (Zb.1 f).1).trans f,r⟩
def nk:List Value:=[.int .i64 77777,.int .i64 0,.int .i64 0,.int .i64 0,.slice none 0 0,.int .i64 0,.slice none 0 0]
