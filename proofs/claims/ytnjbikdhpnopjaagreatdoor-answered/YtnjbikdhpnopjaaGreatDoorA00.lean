import Derived.Deep.RegionHeld
import Derived.WalkKit
import Derived.Deep.QuietTactic
import Derived.BigQuiet
import Derived.WalkSmall
import Derived.Laws.CopyOwn
import Derived.Deep.OwnRows
import Derived.Laws.BitsAllLaws
import Derived.RangeFuncRecord
import Derived.RangeFuncBound
import Derived.RangeFuncCalls
import Derived.RangeFuncLeaves
import Derived.Below
import Derived.RangeFuncNested
import Derived.Shelf.Abstract
import Derived.OwnWalkIn
import Derived.TacticsInMore
import Derived.LoopNIn
import Derived.LoopIn
import Derived.Test.YtnjbikdhpnopjaaGreatDoorProg
import Derived.Maps.OwnIn
import Derived.Maps.AppendAt
import Derived.OwnWalk
import Derived.Shelf.Spec.SlicesGrow
import Derived.Laws.AppendOwnNone
import Derived.Shelf.RegionOpen
import Derived.Deep.AppendLies
import Derived.RegionTactic
import Derived.Deep.RegionLaw
import Derived.Laws.ShiftsVarLaws
import Derived.Shelf.Bits.Mul64
import Derived.Shelf.Strconv.Itoa0
import Derived.OrdersHeld
import Derived.Deep.RegionHeld3
import Derived.Lib.SliceRun
import Derived.RegionCalls
import Derived.WideKeyPair
import Derived.Maps.Views
import Derived.Sort.CutIn
import Derived.Deep.Cut
import Derived.Deep.CutRange
import Derived.Laws.ResultCell
import Derived.Laws.MakeOwn
import Derived.LaidEqlPtr
import Derived.BigRegion
import Derived.BigGuard
import Derived.Laws.IdiomCopy
import Derived.Lib.AppendZerosOnto
import Derived.Lib.Overlaps
import Derived.Shelf.Spec.SlicesInsert
import Derived.Laws.Externs
import Derived.Conc.LoneSelect
import Derived.Maps.OwnSet
set_option linter.all false
set_option maxRecDepth 100000
set_option maxHeartbeats 0
namespace Go.RowKit
theorem Hid.o{p:Prop}(h:Hid p):p:=h
end Go.RowKit
namespace Go
theorem Shut.o{p:Prop}(h:Shut p):p:=h
end Go
namespace Go.Proofs.Zz
open Go.RowKit Go.Shelf
open List renaming length->N,getD->E
open Go.Value renaming slice->Z,int->I,pointer->Y,bool->Wl
open Go.Proofs.Tryz renaming prog->V
open Option renaming some->O,none->xn
open Go.IntKind renaming i64->J
open Bool renaming false->F,true->T
open Go renaming World->U,Value->X3
open Go.World renaming heap->H,setCell->UC,cell?->UK
open _root_.Array renaming size->M
open Go.RowKit renaming Hid->Y3
open Go.Obj renaming cells->EP
open Go.Ending renaming returned->FN
variable {α:Type} {C P Q p p0 p1 p2 p3 p4 p5:Prop} {ops:Array Oper} {md:Region.Mode} {S:U->Prop} {G b b0 b1 b2 b3 b4 b5 b6 b7 fuel i k n n0 o0 o1 o2 o3 o4 o5 o6 o7:Nat} {listed:Array Bool} {a:Act} {A B W w w' w0 w1 x:U} {oi:Oper} {ps src xs ys:List Int} {v v0 v1 v10 v11 v12 v2 v3 v4 v5 v6 v7 v8 v9:X3} {f:FuncId} {args c lb:Array X3} {e t:TypeId} {K K' X:Act->U->Prop} {rows:List (List Int)}
def eX(a:α):∃z,a=z:=⟨a,rfl⟩
def eY(a:α):∃z,z=a:=⟨a,rfl⟩
@[reducible] def Bw (w x:U):Prop:=RowKit.Below (M (H w)) w x
def Qa:=@Go.wpAnyH_take
def Qb:=@List.set_cons_succ.{0}
def Qc:=@List.set_cons_zero.{0}
def Qh:=@List.take_succ_eq_append_getElem.{0}
def Qi:=@List.map_append.{0,0}
def Qj:=@Bool.and_eq_true
def Qk:=@List.all_eq_true.{0}
def Qm:=@Go.RowKit.Below.refl
def Qn:=@Nat.le_refl
def Qq:=@List.getElem_of_mem.{0}
def Qr:=@Nat.min_eq_left
def Qs:=@List.eq_nil_of_length_eq_zero.{0}
def Qu:=@List.setIfInBounds_toArray.{0}
def Qv:=@Go.wp_region_held_drew
def Qw:=@decide_eq_false
def Qx:=@decide_eq_true
def Qz:=@Nat.le_trans
def QA:=@Nat.lt_of_lt_of_le
def QD:=@Go.World.putObj_heap_other
def QG:=@Go.World.alloc_heap_new
def QH:=@Go.callsIn_wide
def QI:=@Array.getElem?_eq_some_iff.{0}
def QJ:=@Iff.rfl
def QL:=@Go.World.cell?_of_block
def QM:=@Go.Oper.semAt_some
def QN:=@List.size_toArray.{0}
def QO:=@List.length_cons.{0}
def QP:=@List.length_nil.{0}
def QQ:=@Array.replicate_succ.{0}
def QR:=@Array.replicate_zero.{0}
def QS:=@List.push_toArray.{0}
def QT:=@List.append_toArray.{0}
def QU:=@List.nil_append.{0}
def QV:=@List.cons_append.{0}
def QW:=@Nat.zero_le
def QX:=@List.take_length.{0}
def QY:=@List.filter_map.{0,0}
def QZ:=@List.filter_append.{0}
def Q3:=@Go.callsIn_of_wp_marks
def Q4:=@Go.CallsIn.inRound
def Q5:=@Go.run_takeDeferred
def Q6:=@Go.results_none
def Q7:=@Go.World.putObj_size
def Zd:=@Go.World.frozen?_of_block
def Ze:=@List.pairwise_append.{0}
def Zf:=@List.pairwise_singleton.{0}
def Zg:=@List.mem_singleton.{0}
def Zi:=@List.mem_append.{0}
def Zj:=@Go.info_parts
def Zk:=@Go.World.ownsRow_nil
def Zl:=@List.Pairwise.nil.{0}
def Zm:=@List.length_map.{0,0}
def Zn:=@List.length_append.{0}
def Zo:=@Go.World.size_alloc
def Zr:=@Go.below_drewN
def Zt:=@if_pos.{1}
def Zv:=@List.getElem_mem.{0}
def Zw:=@Go.bodyPost_ret
def Zx:=@List.take_append_drop.{0}
def Zy:=@List.getElem?_eq_some_iff.{0}
def ZA:=@List.getElem?_map.{0,0}
def ZB:=@List.getElem?_eq_getElem.{0}
def ZC:=@List.mem_map.{0,0}
def ZE:=@List.append_assoc.{0}
def ZF:=@List.foldl_cons.{0,0}
def ZH:=@Nat.testBit_lt_two_pow
def ZI:=@Nat.pow_le_pow_right
def ZJ:=@Nat.eq_of_testBit_eq
def ZK:=@Nat.zero_add
def ZL:=@Nat.mul_le_mul
def ZM:=@List.range_succ
def ZN:=@List.flatMap_append.{0,0}
def ZP:=@List.length_range
def ZU:=@if_neg.{1}
def ZV:=@Bool.eq_iff_iff
def ZW:=@decide_eq_true_eq
def ZX:=@Int.toNat_of_nonneg
def ZY:=@List.mem_filter.{0}
def ZZ:=@List.mem_range
def Z0:=@List.mem_cons.{0}
def Z4:=@decide_eq_false_iff_not
def Z5:=@Bool.or_eq_true
def Z6:=@List.mem_flatMap.{0,0}
def Z7:=@List.pairwise_iff_getElem.{0}
def Z8:=@Bool.true_and
def Z9:=@List.map_map.{0,0,0}
def Xa:=@of_decide_eq_true
def Xb:=@Nat.add_zero
def Xc:=@List.length_singleton.{0}
def Xd:=@List.append_nil.{0}
def Xe:=@List.pairwise_cons.{0}
def Xf:=@List.foldl_append.{0,0}
def Xg:=@List.map_cons.{0,0}
def Xh:=@List.drop_eq_getElem_cons.{0}
def Xi:=@List.take_of_length_le.{0}
def Xj:=@List.getElem?_append_right.{0}
def Xk:=@Int.toNat_natCast
def Xo:=@Go.run_append_own_at
def Xr:=@List.flatMap_cons.{0,0}
def Xt:=@List.getElem?_take.{0}
def Xu:=@List.length_take.{0}
def Xv:=@List.filter_eq_nil_iff.{0}
def Xw:=@List.map_congr_left.{0,0}
def Xx:=@List.ext_getElem.{0}
def Xy:=@List.getElem_map.{0,0}
def Xz:=@List.getElem_modify.{0}
def XA:=@List.map_singleton.{0,0}
def XB:=@List.filter_cons_of_pos.{0}
def XC:=@List.filter_congr.{0}
def XD:=@List.idxOf_lt_length_iff.{0}
def XE:=@Go.IntKind.wrap_i64
def XF:=@List.length_replicate.{0}
def XH:=@List.length_modify.{0}
def XI:=@List.getElem?_eq_none.{0}
def XK:=@And.intro
def XN:=@List.length_filter_le.{0}
def XO:=@Nat.pow_lt_pow_right
def XP:=@List.mem_of_mem_take.{0}
def XQ:=@Nat.or_lt_two_pow
def XT:=@Int.eq_ofNat_of_zero_le
def XV:=@Nat.lt_or_ge
def XW:=@beq_eq_false_iff_ne.{0}
def XX:=@Go.Calls.mono
def XY:=@Option.some.inj.{0}
def XZ:=@Go.Proofs.enters_of
def X0:=@Go.Calls.quiet_of
def X4:=@Go.World.drewN_drewN
def X5:=@Nat.add_assoc
def X7:=@List.length_drop.{0}
def X8:=@List.mem_of_mem_drop.{0}
def Jb:=@Bool.and_eq_true_iff
def Jd:=@List.mem_cons_self.{0}
def Je:=@Go.Lib.run_eql_slice_nil
def Jh:=@List.getD_eq_getElem?_getD.{0}
def Jj:=@Array.getElem?_setIfInBounds.{0}
def wT{P:Program}{Q:Exit->Act->World->Prop}(i:Nat)(v:Value)(hS:S w)(hy:∀x,S x->(execOp a.eval oi).run P x=.ok (.value v) x)(h:wpAnyH P md ops Q S fuel (listed.setIfInBounds i true) (a.put oi.dst v) w)(hi:ops[i]? = some oi:=by exact rfl)(hs:Region.noSelect ops=true:=by kernel_rfl)(hf:Region.free md ops listed i=true:=by kernel_rfl)(hr:(Region.ready md ops listed).contains i=true:=by kernel_rfl)(hQ:∀c a w,Q (.panic c) (a.put oi.dst v) w->Q (.panic c) a w:=by exact λ_ _ _ h=>h)(hg:Region.wanted oi (yielded ops a.tmps)=true:=by rfl):wpAnyH P md ops Q S (fuel+1) listed a w:=
 Qa hi hs hf hr hQ (.inl ⟨hg,hy⟩) hS h
def wV{P:Program}{Q:Exit->Act->World->Prop}(i:Nat)(hS:S w)(h:wpAnyH P md ops Q S fuel (listed.setIfInBounds i true) (a.put oi.dst undef) w)(hi:ops[i]? = some oi:=by exact rfl)(hs:Region.noSelect ops=true:=by kernel_rfl)(hf:Region.free md ops listed i=true:=by kernel_rfl)(hr:(Region.ready md ops listed).contains i=true:=by kernel_rfl)(hQ:∀c a w,Q (.panic c) (a.put oi.dst undef) w->Q (.panic c) a w:=by exact λ_ _ _ h=>h)(hg:Region.wanted oi (yielded ops a.tmps)=false:=by rfl):wpAnyH P md ops Q S (fuel+1) listed a w:=
 Qa hi hs hf hr hQ (.inr ⟨hg,rfl⟩) hS h
def wR{P:Program}{Q:Exit->Act->World->Prop}(i:Nat)(h:∀K':Act->World->Prop,Shut (∀a w,S w->(S w->wpAnyH P md ops Q S fuel (listed.setIfInBounds i true) a w)->K' a w)->if Region.wanted oi (yielded ops a.tmps)=true then Oper.wp P oi a w K' Q else K' (a.put oi.dst undef) w)(hi:ops[i]? = some oi:=by exact rfl)(hr:Region.ready md ops listed=[i]:=by kernel_rfl):wpAnyH P md ops Q S (fuel+1) listed a w:=
 wpAnyH_ready hr (by simp) (AllReadyH.cons hi h AllReadyH.nil)
@[reducible] def aD (b o : Nat) : Addr := ⟨b, o, xn⟩
def sB{α : Type}{x : α}{l : List α}{n : Nat}{a : α} : (x :: l).set (n + 1) a = x :: l.set n a := Qb
def sC{α : Type}{x : α}{l : List α}{a : α} : (x :: l).set 0 a = a :: l := Qc
def aee{a b:Bool}(h:a=b):Ending.returned (Wl a)=FN (Wl b):=by rw[h]
def ah4{k:IntKind}{a b:Int}(h:a=b):Ending.returned (I k a)=FN (I k b):=by rw[h]
def aX(w:U)(ao:Option Addr)(n:Nat)(f:Nat->X3):Prop:=
 ∀i,i<n->∃b off,ao=O (aD b off)/\UK w (aD b (off+i))=O (f i)
def aX.get{w:U}{ao:Option Addr}{n:Nat}{f:Nat->X3}(h:aX w ao n f){i:Nat}(hi:i<n) :
  ∃b off,ao=O (aD b off)/\∀j,j<n->UK w (aD b (off+j))=O (f j):=by obtain⟨b,off,rfl,_⟩:=h i hi;refine⟨b,off,rfl,λj a=>?_⟩;obtain⟨b',Pf,e,d⟩:=h j a;simp_all
def IntsAt(w:U)(ao:Option Addr)(xs:List Int):Prop:=
 N xs<=1152921504606846976/\aX w ao (N xs) (λi=>I J (E xs i 0))
def IntsAt.get{w:U}{ao:Option Addr}{xs:List Int}(h:IntsAt w ao xs){i:Nat}(hi:i<N xs) :
  ∃b off,ao=O (aD b off)/\∀j,j<N xs->UK w (aD b (off+j))=O (I J (E xs j 0)):=
 aX.get h.2 hi
structure ah where
 cols:Int
 rows:Int
 k0:Int
 k1:Int
 k2:Int
 k3:Int
def ah.aA(t:ah):Array Value:=#[I J t.cols,I J t.rows,I J t.k0,I J t.k1,I J t.k2,I J t.k3]
def tz:ah:=⟨0,0,0,0,0,0⟩
def bu(w:U)(ao:Option Addr)(ts:List ah):Prop:=
 N ts<=192153584101141162/\∀i,i<N ts->∃b off,ao=O (aD b off)/\
  UK w (aD b (off+i*6))=O (I J (E ts i tz).cols)/\UK w (aD b (off+i*6+1))=O (I J (E ts i tz).rows)/\
  UK w (aD b (off+i*6+2))=O (I J (E ts i tz).k0)/\UK w (aD b (off+i*6+3))=O (I J (E ts i tz).k1)/\
  UK w (aD b (off+i*6+4))=O (I J (E ts i tz).k2)/\UK w (aD b (off+i*6+5))=O (I J (E ts i tz).k3)
structure aI where
 not:Bool
 op:Int
 left:Int
 const:Bool
 right:Int
def cz:aI:=⟨F,0,0,F,0⟩
def aI.val(c:aI):Value:=.agg #[Wl c.not,I J c.op,I J c.left,Wl c.const,I J c.right]
def aW(w:U)(ao:Option Addr)(cs:List aI):Prop:=
 N cs<=230584300921369395/\∀i,i<N cs->∃b off,ao=O (aD b off)/\
  UK w (aD b (off+i*5))=O (Wl (E cs i cz).not)/\UK w (aD b (off+i*5+1))=O (I J (E cs i cz).op)/\
  UK w (aD b (off+i*5+2))=O (I J (E cs i cz).left)/\UK w (aD b (off+i*5+3))=O (Wl (E cs i cz).const)/\
  UK w (aD b (off+i*5+4))=O (I J (E cs i cz).right)
structure aB where
 ad:Option Addr
 cap:Nat
 cs:List aI
def lz:aB:=⟨xn,0,[]⟩
def aB.val(c:aB):Value:=Z c.ad (N c.cs) c.cap
def dJ(w:U)(ao:Option Addr)(ls:List aB):Prop:=
 N ls<=1152921504606846976/\aX w ao (N ls) (λi=>(E ls i lz).val)/\∀i,i<N ls->aW w (E ls i lz).ad (E ls i lz).cs
structure ae where
 ad:Option Addr
 cap:Nat
 xs:List Int
def ae.val(v:ae):Value:=Z v.ad (N v.xs) v.cap
def ae.At(v:ae)(w:U):Prop:=IntsAt w v.ad v.xs
structure af where
 src:ae
 gI:Option Addr
 bP:Nat
 wh:List aB
 group:Bool
 keys:ae
 sums:ae
 bE:ae
 ord:ae
def af.cells(q:af):Array Value:=#[q.src.val,Z q.gI (N q.wh) q.bP,Wl q.group,q.keys.val,q.sums.val,q.bE.val,q.ord.val]
structure af.At(q:af)(w:U):Prop where
 src:q.src.At w
 wh:dJ w q.gI q.wh
 keys:q.keys.At w
 sums:q.sums.At w
 bE:q.bE.At w
 ord:q.ord.At w
def aS(xs:List Int)(n:Int):Bool:=xs.all λx=>decide (0<=x)&&decide (x<n)
def dB(xs:List Int):Bool:=decide (∀i,i<N xs->∀j,j<i->E xs i 0≠E xs j 0)
theorem U0{j:Nat}(hi:i<N xs)(hj:j<i)(h:E xs i 0=E xs j 0):F=dB xs:=by grind [dB]
theorem Pg(h:∀i,i<N xs->∀j,j<i->E xs i 0≠E xs j 0):T=dB xs:=by grind [dB]
def fV(c:aI)(n:Int):Bool:=
 decide (0<=c.left)&&decide (c.left<n)&&decide (0<=c.op)&&decide (c.op<=2) &&
  (if c.op=2 then !c.const&&decide (c.right=0) else if c.const then decide (-1000<=c.right)&&decide (c.right<=1000) else decide (0<=c.right)&&decide (c.right<=n-1))
def tN(group:Bool)(keys sums bE:List Int):Int:=if group then N keys+1+N sums else N bE
def ah.kd(t:ah):Nat->Int
 |0=>t.k0
 |1=>t.k1
 |2=>t.k2
 |_=>t.k3
def ah.ah5(wr:U)(t:ah)(ty:TypeId)(m:Nat)(hm:m<4) :
  UK (wr.alloc (EP #[I J t.cols,I J t.rows,I J t.k0,I J t.k1,I J t.k2,I J t.k3] ty)) (aD (M (H wr)) (2+m))=O (I J (t.kd m)):=by rcases (by omega:m=0∨m=1∨m=2∨m=3) with rfl|rfl|rfl|rfl <;> simp[ah.kd]
def mK(t:ah):Bool:=
 decide (1<=t.cols/\t.cols<=4/\0<=t.rows/\t.rows<=1000000/\∀m,m<t.cols.toNat->1<=t.kd m/\t.kd m<=1000000)
def ji(ts:List ah):Bool:=decide (1<=N ts)&&decide (N ts<=8)&&ts.all mK
theorem aef{ts:List ah}(hk:k<N ts)(h:mK (E ts k tz)=F):F=ji ts:=by grind [ji]
theorem rE{o:Nat}(h:UK w (aD b o)=O v):b<M (H w):=by simp only[World.cell?]at h;grind
def Qd:=@aee
def Qe:=@ah4
def Qf:=@aX.get
def Qg:=@IntsAt.get
def ak(ts:List ah)(xs:List Int):Int:=(xs.map λt=>(E ts t.toNat tz).cols).sum
def lC(ts:List ah)(xs:List Int)(k:Nat)(hk:k<N xs):ak ts (xs.take (k+1))=ak ts (xs.take k)+(E ts xs[k].toNat tz).cols:=by unfold ak;rw[Qh hk,Qi,List.sum_append];simp
def nE{ts:List ah}(hc:ji ts=T)(hi:i<N ts):1<=(E ts i tz).cols/\(E ts i tz).cols<=4:=by unfold ji at hc;rw[Qj]at hc;have h:=Qk.1 hc.2 (E ts i tz) (by simp_all);unfold mK at h;simp_all
def YZ{xs:List Int}{n:Int}(h:aS xs n=T){k:Nat}(hk:k<N xs):0<=xs[k]/\xs[k]<n:=by unfold aS at h;simp_all
def oL{ts:List ah}{xs:List Int}(hc:ji ts=T)(ha:aS xs (N ts)=T):∀k,k<=N xs->0<=ak ts (xs.take k)/\ak ts (xs.take k)<=4*k
 |0,_=>by simp[ak]
 |k+1,hk=>by have ih:=oL hc ha k (by omega);rw[lC ts xs k (by omega)];have h1:=YZ ha (k:=k) (by omega);have h2:=nE hc (i:=(xs[k]'(by omega)).toNat) (by omega);omega
def zW{o:Nat}(h:UK w (aD b o)=O v)(x:Obj):UK (w.alloc x) (aD b o)=O v:=
 (Below.cell ((Qm (M (H w)) w).alloc (Qn _) x) (p:=(aD b o)) (rE h)).trans h
def Ql:=@YZ
theorem cB(hb:Bw w w'){o:Nat}(h:UK w (aD b o)=O v):UK w' (aD b o)=O v:=
 (hb.cell (p:=(aD b o)) (rE h)).trans h
def tO(hx:Bw w x)(a0:UK w ⟨b0,o0,xn⟩=O v0)(a1:UK w ⟨b1,o1,xn⟩=O v1)(a2:UK w ⟨b2,o2,xn⟩=O v2)(a3:UK w ⟨b3,o3,xn⟩=O v3)(a4:UK w ⟨b4,o4,xn⟩=O v4)(a5:UK w ⟨b5,o5,xn⟩=O v5)(a6:UK w ⟨b6,o6,xn⟩=O v6):UK x ⟨b0,o0,xn⟩=O v0/\UK x ⟨b1,o1,xn⟩=O v1/\UK x ⟨b2,o2,xn⟩=O v2/\UK x ⟨b3,o3,xn⟩=O v3/\UK x ⟨b4,o4,xn⟩=O v4/\UK x ⟨b5,o5,xn⟩=O v5/\UK x ⟨b6,o6,xn⟩=O v6:=⟨cB hx a0,cB hx a1,cB hx a2,cB hx a3,cB hx a4,cB hx a5,cB hx a6⟩
def vM(hx:Bw w x){b8 o8 b9 o9 b10 o10 b11 o11 b12 o12:Nat}(a0:UK w ⟨b0,o0,xn⟩=O v0)(a1:UK w ⟨b1,o1,xn⟩=O v1)(a2:UK w ⟨b2,o2,xn⟩=O v2)(a3:UK w ⟨b3,o3,xn⟩=O v3)(a4:UK w ⟨b4,o4,xn⟩=O v4)(a5:UK w ⟨b5,o5,xn⟩=O v5)(a6:UK w ⟨b6,o6,xn⟩=O v6)(a7:UK w ⟨b7,o7,xn⟩=O v7)(a8:UK w ⟨b8,o8,xn⟩=O v8)(a9:UK w ⟨b9,o9,xn⟩=O v9)(nA:UK w ⟨b10,o10,xn⟩=O v10)(oC:UK w ⟨b11,o11,xn⟩=O v11)(a12:UK w ⟨b12,o12,xn⟩=O v12):UK x ⟨b0,o0,xn⟩=O v0/\UK x ⟨b1,o1,xn⟩=O v1/\UK x ⟨b2,o2,xn⟩=O v2/\UK x ⟨b3,o3,xn⟩=O v3/\UK x ⟨b4,o4,xn⟩=O v4/\UK x ⟨b5,o5,xn⟩=O v5/\UK x ⟨b6,o6,xn⟩=O v6/\UK x ⟨b7,o7,xn⟩=O v7/\UK x ⟨b8,o8,xn⟩=O v8/\UK x ⟨b9,o9,xn⟩=O v9/\UK x ⟨b10,o10,xn⟩=O v10/\UK x ⟨b11,o11,xn⟩=O v11/\UK x ⟨b12,o12,xn⟩=O v12:=⟨cB hx a0,cB hx a1,cB hx a2,cB hx a3,cB hx a4,cB hx a5,cB hx a6,cB hx a7,cB hx a8,cB hx a9,cB hx nA,cB hx oC,cB hx a12⟩
def nH(hx:Bw w x)(a0:UK w ⟨b0,o0,xn⟩=O v0)(a1:UK w ⟨b1,o1,xn⟩=O v1):UK x ⟨b0,o0,xn⟩=O v0/\UK x ⟨b1,o1,xn⟩=O v1:=⟨cB hx a0,cB hx a1⟩
def aaX(hx:Bw w x)(a0:UK w ⟨b0,o0,xn⟩=O v0)(a1:UK w ⟨b1,o1,xn⟩=O v1)(a2:UK w ⟨b2,o2,xn⟩=O v2):UK x ⟨b0,o0,xn⟩=O v0/\UK x ⟨b1,o1,xn⟩=O v1/\UK x ⟨b2,o2,xn⟩=O v2:=⟨cB hx a0,cB hx a1,cB hx a2⟩
def alA(hx:Bw w x)(a0:UK w ⟨b0,o0,xn⟩=O v0)(a1:UK w ⟨b1,o1,xn⟩=O v1)(a2:UK w ⟨b2,o2,xn⟩=O v2)(a3:UK w ⟨b3,o3,xn⟩=O v3):UK x ⟨b0,o0,xn⟩=O v0/\UK x ⟨b1,o1,xn⟩=O v1/\UK x ⟨b2,o2,xn⟩=O v2/\UK x ⟨b3,o3,xn⟩=O v3:=⟨cB hx a0,cB hx a1,cB hx a2,cB hx a3⟩
def qA(hx:Bw w x)(a0:UK w ⟨b0,o0,xn⟩=O v0)(a1:UK w ⟨b1,o1,xn⟩=O v1)(a2:UK w ⟨b2,o2,xn⟩=O v2)(a3:UK w ⟨b3,o3,xn⟩=O v3)(a4:UK w ⟨b4,o4,xn⟩=O v4):UK x ⟨b0,o0,xn⟩=O v0/\UK x ⟨b1,o1,xn⟩=O v1/\UK x ⟨b2,o2,xn⟩=O v2/\UK x ⟨b3,o3,xn⟩=O v3/\UK x ⟨b4,o4,xn⟩=O v4:=⟨cB hx a0,cB hx a1,cB hx a2,cB hx a3,cB hx a4⟩
def JY(hx:Bw w x)(a0:UK w ⟨b0,o0,xn⟩=O v0)(a1:UK w ⟨b1,o1,xn⟩=O v1)(a2:UK w ⟨b2,o2,xn⟩=O v2)(a3:UK w ⟨b3,o3,xn⟩=O v3)(a4:UK w ⟨b4,o4,xn⟩=O v4)(a5:UK w ⟨b5,o5,xn⟩=O v5):UK x ⟨b0,o0,xn⟩=O v0/\UK x ⟨b1,o1,xn⟩=O v1/\UK x ⟨b2,o2,xn⟩=O v2/\UK x ⟨b3,o3,xn⟩=O v3/\UK x ⟨b4,o4,xn⟩=O v4/\UK x ⟨b5,o5,xn⟩=O v5:=⟨cB hx a0,cB hx a1,cB hx a2,cB hx a3,cB hx a4,cB hx a5⟩
def wK(hx:Bw w x)(a0:UK w ⟨b0,o0,xn⟩=O v0)(a1:UK w ⟨b1,o1,xn⟩=O v1)(a2:UK w ⟨b2,o2,xn⟩=O v2)(a3:UK w ⟨b3,o3,xn⟩=O v3)(a4:UK w ⟨b4,o4,xn⟩=O v4)(a5:UK w ⟨b5,o5,xn⟩=O v5)(a6:UK w ⟨b6,o6,xn⟩=O v6)(a7:UK w ⟨b7,o7,xn⟩=O v7):UK x ⟨b0,o0,xn⟩=O v0/\UK x ⟨b1,o1,xn⟩=O v1/\UK x ⟨b2,o2,xn⟩=O v2/\UK x ⟨b3,o3,xn⟩=O v3/\UK x ⟨b4,o4,xn⟩=O v4/\UK x ⟨b5,o5,xn⟩=O v5/\UK x ⟨b6,o6,xn⟩=O v6/\UK x ⟨b7,o7,xn⟩=O v7:=⟨cB hx a0,cB hx a1,cB hx a2,cB hx a3,cB hx a4,cB hx a5,cB hx a6,cB hx a7⟩
theorem aX.below{w w':U}(hb:Bw w w'){ao:Option Addr}{n:Nat}{f:Nat->X3}(h:aX w ao n f):aX w' ao n f:=λi a=>by obtain⟨b,off,e,d⟩:=h i a;grind [cB]
def IntsAt.below{w w':U}(hb:Bw w w'){ao:Option Addr}{xs:List Int}(h:IntsAt w ao xs):IntsAt w' ao xs:=⟨h.1,h.2.below hb⟩
def bu.below{w w':U}(hb:Bw w w'){ao:Option Addr}{ts:List ah}(h:bu w ao ts):bu w' ao ts:=⟨h.1,λi l=>by
 obtain⟨b,off,e,a,d,f,g,j,k⟩:=h.2 i l;exact⟨b,off,e,cB hb a,cB hb d,cB hb f,cB hb g,cB hb j,cB hb k⟩⟩
def aW.below{w w':U}(hb:Bw w w'){ao:Option Addr}{cs:List aI}(h:aW w ao cs):aW w' ao cs:=⟨h.1,λi k=>by
 obtain⟨b,off,e,a,d,f,g,j⟩:=h.2 i k;exact⟨b,off,e,cB hb a,cB hb d,cB hb f,cB hb g,cB hb j⟩⟩
def dJ.below{w w':U}(hb:Bw w w'){ao:Option Addr}{ls:List aB}(h:dJ w ao ls):dJ w' ao ls:=
 ⟨h.1,h.2.1.below hb,λi a=>(h.2.2 i a).below hb⟩
def af.At.below{w w':U}(hb:Bw w w'){q:af}(h:q.At w):q.At w':=
 ⟨IntsAt.below hb h.src,h.wh.below hb,IntsAt.below hb h.keys,IntsAt.below hb h.sums,IntsAt.below hb h.bE,IntsAt.below hb h.ord⟩
def dN(w:U)(o:Obj):Bw w (w.alloc o):=(Qm _ _).alloc (Qn _) o
def az{w2:U}(h:Bw w w1)(k:Bw w1 w2):Bw w w2:=h.trans (k.mono h.size)
def vN(src:List Int)(wh:List (List aI))(keys sums bE ord:List Int):Bool:=
 decide (5<N src∨8<N wh∨8<N bE∨4<N keys∨4<N sums∨4<N ord) ||wh.any (λc=>decide (3<N c))
def Bj(c:List aI)(n:Int):Bool:=decide (0<N c)&&c.all (λx=>fV x n)
def mo(wh:List (List aI))(n:Int):Bool:=wh.all (λc=>Bj c n)
def rF(n:Int)(group:Bool)(keys sums bE ord:List Int):Bool:=
 aS bE n&&aS keys n&&aS sums n&&aS ord (tN group keys sums bE)&&dB keys&&dB ord&&(group==decide (N bE=0))&&(group ||decide (N keys+N sums=0))
def Dy(ts:List ah)(src:List Int)(wh:List (List aI))(group:Bool)(keys sums bE ord:List Int):Int:=
 if ji ts=F then 1
 else if vN src wh keys sums bE ord=T then 2
 else if aS src (N ts)=T/\0<N src/\mo wh (ak ts src)=T/\rF (ak ts src) group keys sums bE ord=T then 0
 else 3
def af.wm(q:af):List (List aI):=q.wh.map aB.cs
def af.check(q:af)(ts:List ah):Int:=Dy ts q.src.xs q.wm q.group q.keys.xs q.sums.xs q.bE.xs q.ord.xs
def Qo:=@IntsAt.below
def Fu{P:Program}{id:Nat}{Q:Exit->Act->World->Prop}{a:Act}{w:World}{l:List Oper}(h:wpQuiet P l.toArray (λx=>Bw w x) (λa'=>∀x,Bw w x->Q .normal a' x) l a)(hm:P.follows .mixedOrders=true:=by kernel_rfl)(hB:Region.lexB .any l.toArray=true:=by kernel_rfl):(Code.region id l.toArray true).wp P Q a w:=
 wp_region_quiet (C:=λx=>Bw w x) hm hB (Qm _ _).drew (by simpa using h)
def Calls.within{P:Program}(hx:Bw w x)
  (h:Calls P f args x λe b=>e=FN v/\Bw x b):Calls P f args x λe a=>e=FN v/\Bw w a:=
 h.mono λ_ _ ⟨he,hb⟩=>⟨he,az hx hb⟩
def Calls.Ph{P:Program}(hx:Bw w x)
  (h:Calls P f args x λe b=>e=FN v/\b = x):Calls P f args x λe a=>e=FN v/\Bw w a:=
 h.mono λ_ _ ⟨he,hb⟩=>⟨he,by simp_all⟩
section
variable {Nq:Int} {group:Bool} {keys sums bE ord:List Int}
end
def foundAt(r:Int)(b:Bool):Prop:=-1<=r/\decide (0<=r)=b
theorem alB{p:α->Bool}{xs:List α}{z:α}(hk:k<N xs)(h:p (E xs k z)=T):xs.any p=true:=by grind
theorem any_none{p:α->Bool}{xs:List α}{z:α}(h:∀k,k<N xs->p (E xs k z)=F):xs.any p=false:=by grind [List.getElem_of_mem]
def Qp:=@Fu
theorem pR(w:U)(o:Obj):(w.alloc o).heap[M (H w)]? = O o:=by show (w.heap.push o)[M (H w)]? = _;simp
theorem uP(w:U)(c cs:Array X3)(t:TypeId):(w.alloc (EP c t)).setRow (M (H w)) cs=w.alloc (EP cs t):=by unfold World.setRow World.alloc;simp only[World.mk.injEq,and_true];grind
def JZ(w:U)(c:Array X3)(t:TypeId)(i:Nat)(v:X3):UC (w.alloc (EP c t)) (aD (M (H w)) i) v=w.alloc (EP (c.setIfInBounds i v) t):=by rw[setCell_eq_setRow (w.alloc (EP c t)) (M (H w)) i c t (0,0) v (pR w _),uP]
theorem iB(b off j:Nat):((aD b off):Addr).add j=(aD b (off+j)):=by unfold Addr.add;simp_all
theorem zt{P:Program}(w:U)(dT sT ty elem:TypeId)(size g dLen dCap:Nat)(sp:Option Addr)(sLen sCap:Nat)(cur:Array X3)(t:TypeId)(cs:List X3)
  (hu:P.underlying dT=O (.slice elem)) (hs:(P.info? elem).map (·.size)=O size) (hg:w.heap[g]? = O (EP cur t (0,0))) (hle:sLen<=dLen) (hn:N cs=sLen*size)
  (hsrc:0<N cs->∃a,sp=O a/\∀j v,cs[j]? = O v->w.cell? (a.add j)=O v) (hfit:N cs<=cur.size) (h1:∀v∈cs,v.oneCell' = T) :
  (Builtin.copy_ #[dT,sT] ty #[Z (O (aD g 0)) dLen dCap,Z sp sLen sCap]).run P w=.ok (goInt sLen) (w.setRow g (cs++cur.toList.drop (N cs)).toArray):=by
 have f:=run_storeCells_at P g 0 t cs 0 cur w hg (by omega) h1;have b:Nat.min sLen dLen=sLen:=Qr hle
 cases hq:P.info? elem with
 |none=>simp_all
 |some i =>
  have k:i.size=size:=by simp_all
  by_cases m:N cs=0
  .obtain rfl:cs=[]:=Qs m;have d:w.setRow g cur=w:=setRow_self w g cur t (0,0) hg;have e:∀(x:Addr),(loadCells x (sLen*size)).run P w=.ok #[] w:=λx=>by grind [run_loadCells_list]
   cases sp <;> simp[Builtin.copy_,run_underlying hu,Builtin.lenOf,Builtin.firstCells,sizeOf,typeInfo,hq,k,b,storeCells,e,d]
  .obtain⟨a,rfl,l⟩:=hsrc (by omega);have e:=run_loadCells_list (P:=P) w a cs l;rw[hn]at e;simp[Builtin.copy_,run_underlying hu,Builtin.lenOf,Builtin.firstCells,sizeOf,typeInfo,hq,k,b,e,f]
theorem zu(z:X3)(n:Nat):madeCells #[z] n=(List.replicate n z).toArray:=by
 apply Array.ext_getElem?;intro i;by_cases a:i<n
 .simp[madeCells,a]
  grind
 .simp[madeCells,a]
theorem MO{α:Type}(f:α->List X3)(s:Nat)(hf:∀x,N (f x)=s)(z:α):∀(xs:List α) (rest:List X3) (i j:Nat),i<N xs->j<s->(xs.flatMap f++rest)[i*s+j]? = (f (E xs i z))[j]?
 |[],_,i,_,hi,_=>absurd hi (by simp)
 |x::xs,rest,0,j,_,hj=>by grind
 |x::xs,rest,i+1,j,hi,hj=>by have ih:=MO f s hf z xs rest i j (by simp_all) hj;grind
def aI.aA(c:aI):List Value:=[Wl c.not,I J c.op,I J c.left,Wl c.const,I J c.right]
def zc:List Value:=[Wl F,I J 0,I J 0,Wl F,I J 0]
def ic:List Value:=[Wl F,I J 77777,I J 0,Wl F,I J 0]
def it:List Value:=[I J 77777,I J 0,I J 0,I J 0,I J 0,I J 0]
def GB(w:U)(G:Nat)(t:TypeId)(c:Array X3):Prop:=w.heap[G]? = O (EP c t (0,0))
def aL(w:U)(c:Array X3)(t:TypeId):∃x,w.alloc (EP c t)=x/\Bw w x/\GB x (M (H w)) t c:=⟨_,rfl,dN _ _,pR _ _⟩
theorem GB.cell{w:U}{G:Nat}{t:TypeId}{c:Array X3}(h:GB w G t c)(i:Nat):UK w (aD G i)=c[i]?:=by unfold GB at h;simp[World.cell?,h]
theorem GB.frozen{w:U}{G:Nat}{t:TypeId}{c:Array X3}(h:GB w G t c)(i:Nat):w.frozen? (aD G i)=false:=by unfold GB at h;simp[World.frozen?,h]
theorem GB.lt(h:GB w G t c):G<M (H w):=by unfold GB at h;grind
theorem GB.set(h:GB w G t c)(i:Nat)(v:X3):GB (UC w (aD G i) v) G t (c.setIfInBounds i v):=by unfold GB at*;rw[setCell_eq_setRow w G i c t (0,0) v h];grind [setRow_heap]
def GB.of(h:GB w G t c)(e:w'.heap[G]? = w.heap[G]?):GB w' G t c:=by unfold GB at*;simp_all
def heap_alloc{w:U}{o:Obj}{k:Nat}(h:k<M (H w)):(w.alloc o).heap[k]? = w.heap[k]?:=Below.heap_alloc _ _ _ h
def Qt:=@GB.cell
theorem GB.at(h:GB w G t c)(i:Nat)(hv:c.toList[i]? = some v:=by exact rfl):w.cell? (aD G i)=some v:=by grind [GB.cell]
def hd(h:p):Y3 p:=h
def pA(l:List X3)(d)(i:Nat)(v:X3):Act.put { tmps:=l.toArray,defers:=d } (O i) v = { tmps:=(l.set i v).toArray,defers:=d }:=by simp[Act.put]
theorem pU:(∀(l:List X3) (d) (i:Nat) (v:X3),Act.put { tmps:=l.toArray,defers:=d } (O i) v = { tmps:=(l.set i v).toArray,defers:=d })/\(∀{x:X3} {l:List X3} {n:Nat} {a:X3},(x::l).set (n+1) a=x::l.set n a)/\(∀{x:X3} {l:List X3} {a:X3},(x::l).set 0 a=a::l):=⟨pA,Qb,Qc⟩
def wt{P:Program}{Q:Exit->Act->World->Prop}(i:Nat)(v:Value)(hS:S w)(h:wpAnyH P md ops Q S fuel (listed.setIfInBounds i true) (a.put oi.dst v) w)(hi:ops[i]? = some oi:=by exact rfl)(hs:Region.noSelect ops=true:=by kernel_rfl)(hf:Region.free md ops listed i=true:=by kernel_rfl)(hr:(Region.ready md ops listed).contains i=true:=by kernel_rfl)(hQ:∀c a w,Q (.panic c) (a.put oi.dst v) w->Q (.panic c) a w:=by exact λ_ _ _ h=>h)(hg:Region.wanted oi (yielded ops a.tmps)=true:=by rfl)(hy:∀x,S x->(execOp a.eval oi).run P x=.ok (.value v) x:=by intro x b;go_simp):wpAnyH P md ops Q S (fuel+1) listed a w:=
 Qa hi hs hf hr hQ (.inl ⟨hg,hy⟩) hS h
def wg{P:Program}{Q:Exit->Act->World->Prop}(i:Nat)(v:Value)(hS:S w)(h:wpAnyH P md ops Q S fuel (listed.setIfInBounds i true) (a.put oi.dst v) w)(hi:ops[i]? = some oi:=by exact rfl)(hs:Region.noSelect ops=true:=by kernel_rfl)(hf:Region.free md ops listed i=true:=by kernel_rfl)(hr:(Region.ready md ops listed).contains i=true:=by kernel_rfl)(hQ:∀c a w,Q (.panic c) (a.put oi.dst v) w->Q (.panic c) a w:=by exact λ_ _ _ h=>h)(hg:Region.wanted oi (yielded ops a.tmps)=true:=by kernel_rfl)(hy:∀x,S x->(execOp a.eval oi).run P x=.ok (.value v) x:=by intro x b;go_simp):wpAnyH P md ops Q S (fuel+1) listed a w:=
 Qa hi hs hf hr hQ (.inl ⟨hg,hy⟩) hS h
def wtc{P:Program}{Q:Exit->Act->World->Prop}{o:Nat}{u:Value}(i:Nat)(v:Value)(hS:Bw W w)(c:W.cell? (aD b o)=some u)(h:wpAnyH P md ops Q (λx=>Bw W x) fuel (listed.setIfInBounds i true) (a.put oi.dst v) w)(hi:ops[i]? = some oi:=by exact rfl)(hs:Region.noSelect ops=true:=by kernel_rfl)(hf:Region.free md ops listed i=true:=by kernel_rfl)(hr:(Region.ready md ops listed).contains i=true:=by kernel_rfl)(hQ:∀c a w,Q (.panic c) (a.put oi.dst v) w->Q (.panic c) a w:=by exact λ_ _ _ h=>h)(hg:Region.wanted oi (yielded ops a.tmps)=true:=by rfl)(hy:∀x,x.cell? (aD b o)=some u->(execOp a.eval oi).run P x=.ok (.value v) x:=by intro x d;go_simp):wpAnyH P md ops Q (λx=>Bw W x) (fuel+1) listed a w:=
 Qa hi hs hf hr hQ (.inl ⟨hg,λx d=>hy x (cB d c)⟩) hS h
def IsV(_:X3):Prop:=True
def alC{p:X3->Prop}(_:IsV v)(h:p v):∃x,p x:=⟨v,h⟩
def qS(v:X3)(k:Q)(h:IsV v->Q->P:=by
  intro a b;go_big_quiet_want;refine alC a ⟨λx d=>?_,?_⟩
  .go_simp
  .simp only[pU];go_big_quiet_on;exact b):P:=h trivial k
def qC(v:X3)(c:C)(k:Q)(h:IsV v->C->Q->P:=by
  intro a c b;go_big_quiet_want;refine alC a ⟨λx d=>?_,?_⟩
  .have e:=cB d c;go_simp
  .simp only[pU];go_big_quiet_on;exact b):P:=h trivial c k
theorem GB.k2(h:GB w G t c)(e:c.toList.take 2=[v0,v1]:=by exact rfl):w.cell? (aD G 0)=some v0/\w.cell? (aD G 1)=some v1:=by
 have r:∀i,i<2->c.toList[i]? = ([v0,v1]:List Value)[i]?:=λi a=>by grind
 grind [GB.at]
theorem GB.k3(h:GB w G t c)(e:c.toList.take 3=[v0,v1,v2]:=by exact rfl):w.cell? (aD G 0)=some v0/\w.cell? (aD G 1)=some v1/\w.cell? (aD G 2)=some v2:=by
 have r:∀i,i<3->c.toList[i]? = ([v0,v1,v2]:List Value)[i]?:=λi a=>by grind
 grind [GB.at]
theorem GB.k4(h:GB w G t c)(e:c.toList.take 4=[v0,v1,v2,v3]:=by exact rfl):w.cell? (aD G 0)=some v0/\w.cell? (aD G 1)=some v1/\w.cell? (aD G 2)=some v2/\w.cell? (aD G 3)=some v3:=by
 have r:∀i,i<4->c.toList[i]? = ([v0,v1,v2,v3]:List Value)[i]?:=λi a=>by grind
 grind [GB.at]
theorem GB.k5(h:GB w G t c)(e:c.toList.take 5=[v0,v1,v2,v3,v4]:=by exact rfl):w.cell? (aD G 0)=some v0/\w.cell? (aD G 1)=some v1/\w.cell? (aD G 2)=some v2/\w.cell? (aD G 3)=some v3/\w.cell? (aD G 4)=some v4:=by
 have r:∀i,i<5->c.toList[i]? = ([v0,v1,v2,v3,v4]:List Value)[i]?:=λi a=>by grind
 exact⟨h.at 0 (r 0 (by decide)),h.at 1 (r 1 (by decide)),h.at 2 (r 2 (by decide)),h.at 3 (r 3 (by decide)),h.at 4 (r 4 (by decide))⟩
theorem GB.k6(h:GB w G t c)(e:c.toList.take 6=[v0,v1,v2,v3,v4,v5]:=by exact rfl):w.cell? (aD G 0)=some v0/\w.cell? (aD G 1)=some v1/\w.cell? (aD G 2)=some v2/\w.cell? (aD G 3)=some v3/\w.cell? (aD G 4)=some v4/\w.cell? (aD G 5)=some v5:=by
 have r:∀i,i<6->c.toList[i]? = ([v0,v1,v2,v3,v4,v5]:List Value)[i]?:=λi a=>by grind
 exact⟨h.at 0 (r 0 (by decide)),h.at 1 (r 1 (by decide)),h.at 2 (r 2 (by decide)),h.at 3 (r 3 (by decide)),h.at 4 (r 4 (by decide)),h.at 5 (r 5 (by decide))⟩
theorem GB.k7(h:GB w G t c)(e:c.toList.take 7=[v0,v1,v2,v3,v4,v5,v6]:=by exact rfl):w.cell? (aD G 0)=some v0/\w.cell? (aD G 1)=some v1/\w.cell? (aD G 2)=some v2/\w.cell? (aD G 3)=some v3/\w.cell? (aD G 4)=some v4/\w.cell? (aD G 5)=some v5/\w.cell? (aD G 6)=some v6:=by
 have r:∀i,i<7->c.toList[i]? = ([v0,v1,v2,v3,v4,v5,v6]:List Value)[i]?:=λi a=>by grind
 exact⟨h.at 0 (r 0 (by decide)),h.at 1 (r 1 (by decide)),h.at 2 (r 2 (by decide)),h.at 3 (r 3 (by decide)),h.at 4 (r 4 (by decide)),h.at 5 (r 5 (by decide)),h.at 6 (r 6 (by decide))⟩
theorem GB.k8(h:GB w G t c)(e:c.toList.take 8=[v0,v1,v2,v3,v4,v5,v6,v7]:=by exact rfl):w.cell? (aD G 0)=some v0/\w.cell? (aD G 1)=some v1/\w.cell? (aD G 2)=some v2/\w.cell? (aD G 3)=some v3/\w.cell? (aD G 4)=some v4/\w.cell? (aD G 5)=some v5/\w.cell? (aD G 6)=some v6/\w.cell? (aD G 7)=some v7:=by
 have r:∀i,i<8->c.toList[i]? = ([v0,v1,v2,v3,v4,v5,v6,v7]:List Value)[i]?:=λi a=>by grind
 exact⟨h.at 0 (r 0 (by decide)),h.at 1 (r 1 (by decide)),h.at 2 (r 2 (by decide)),h.at 3 (r 3 (by decide)),h.at 4 (r 4 (by decide)),h.at 5 (r 5 (by decide)),h.at 6 (r 6 (by decide)),h.at 7 (r 7 (by decide))⟩
theorem GB.k9(h:GB w G t c)(e:c.toList.take 9=[v0,v1,v2,v3,v4,v5,v6,v7,v8]:=by exact rfl):w.cell? (aD G 0)=some v0/\w.cell? (aD G 1)=some v1/\w.cell? (aD G 2)=some v2/\w.cell? (aD G 3)=some v3/\w.cell? (aD G 4)=some v4/\w.cell? (aD G 5)=some v5/\w.cell? (aD G 6)=some v6/\w.cell? (aD G 7)=some v7/\w.cell? (aD G 8)=some v8:=by
 have r:∀i,i<9->c.toList[i]? = ([v0,v1,v2,v3,v4,v5,v6,v7,v8]:List Value)[i]?:=λi a=>by grind
 exact⟨h.at 0 (r 0 (by decide)),h.at 1 (r 1 (by decide)),h.at 2 (r 2 (by decide)),h.at 3 (r 3 (by decide)),h.at 4 (r 4 (by decide)),h.at 5 (r 5 (by decide)),h.at 6 (r 6 (by decide)),h.at 7 (r 7 (by decide)),h.at 8 (r 8 (by decide))⟩
theorem GB.oh(h:GB w G t c)(e:c.toList.take 13=[v0,v1,v2,v3,v4,v5,v6,v7,v8,v9,v10,v11,v12]:=by exact rfl):w.cell? (aD G 0)=some v0/\w.cell? (aD G 1)=some v1/\w.cell? (aD G 2)=some v2/\w.cell? (aD G 3)=some v3/\w.cell? (aD G 4)=some v4/\w.cell? (aD G 5)=some v5/\w.cell? (aD G 6)=some v6/\w.cell? (aD G 7)=some v7/\w.cell? (aD G 8)=some v8/\w.cell? (aD G 9)=some v9/\w.cell? (aD G 10)=some v10/\w.cell? (aD G 11)=some v11/\w.cell? (aD G 12)=some v12:=by
 have r:∀i,i<13->c.toList[i]? = ([v0,v1,v2,v3,v4,v5,v6,v7,v8,v9,v10,v11,v12]:List Value)[i]?:=λi a=>by grind
 exact⟨h.at 0 (r 0 (by decide)),h.at 1 (r 1 (by decide)),h.at 2 (r 2 (by decide)),h.at 3 (r 3 (by decide)),h.at 4 (r 4 (by decide)),h.at 5 (r 5 (by decide)),h.at 6 (r 6 (by decide)),h.at 7 (r 7 (by decide)),h.at 8 (r 8 (by decide)),h.at 9 (r 9 (by decide)),h.at 10 (r 10 (by decide)),h.at 11 (r 11 (by decide)),h.at 12 (r 12 (by decide))⟩
theorem pV:(∀(a:Act) (i:Nat) (v:X3),Act.put a (O i) v = { a with tmps:=a.tmps.setIfInBounds i v })/\(∀(a:Act) (v:X3),Act.put a xn v=a)/\(∀{l:List X3} {i:Nat} (h:i<l.toArray.size),l.toArray[i]=l[i]'(by simpa using h))/\(∀{x:X3} {l:List X3} {i:Nat} (h:i+1<N (x::l)),(x::l)[i+1]=l[i]'(Nat.lt_of_succ_lt_succ h))/\(∀{x:X3} {l:List X3} (h:0<N (x::l)),(x::l)[0]=x)/\(∀{l:List X3} {i:Nat} {a:X3},l.toArray.setIfInBounds i a=(l.set i a).toArray)/\(∀{x:X3} {l:List X3} {n:Nat} {a:X3},(x::l).set (n+1) a=x::l.set n a)/\(∀{x:X3} {l:List X3} {a:X3},(x::l).set 0 a=a::l):=
 ⟨λ_ _ _=>rfl,λ_ _=>rfl,λ_=>rfl,λ_=>rfl,λ_=>rfl,Qu ..,Qb,Qc⟩
def wH{P:Program}{Q:Exit->Act->World->Prop}{id:Nat}(w:World)(h:Bw w w.drew->wpAnyH P .any ops Q (λx=>Bw w x) ops.size (Array.replicate ops.size false) a w.drew)(hm:P.follows .mixedOrders=true:=by kernel_rfl):(Code.region id ops true).wp P Q a w:=
 Qv hm ((Qm _ _).drew) h
def wD{P:Program}{Q:Exit->Act->World->Prop}(h:Q .normal a w)(hr:Region.ready md ops listed=[]:=by kernel_rfl):wpAnyH P md ops Q S fuel listed a w:=wpAnyH_done hr h fuel
def oT(hK:Shut (∀a w,Bw W w->(Bw W w->X a w)->K' a w))(hS:Bw W w)(hb:Bw w w')(h:Bw W w'->X a w'):K' a w':=hK.o _ _ (hS.trans (hb.mono hS.size)) h
def oA(hK:Shut (∀a w,Bw W w->(Bw W w->X a w)->K' a w)){o:Obj}(hS:Bw W w)(h:Bw W (w.alloc o)->X a (w.alloc o)):K' a (w.alloc o):=hK.o _ _ (hS.trans ((dN _ _).mono hS.size)) h
def wJ{P:Program}{Q:Exit->Act->World->Prop}{oj:Oper}(i j:Nat)(h:∀K':Act->World->Prop,Shut (∀a w,S w->(S w->wpAnyH P md ops Q S fuel (listed.setIfInBounds i true) a w)->K' a w)->if Region.wanted oi (yielded ops a.tmps)=true then Oper.wp P oi a w K' Q else K' (a.put oi.dst undef) w)(h2:∀K':Act->World->Prop,Shut (∀a w,S w->(S w->wpAnyH P md ops Q S fuel (listed.setIfInBounds j true) a w)->K' a w)->if Region.wanted oj (yielded ops a.tmps)=true then Oper.wp P oj a w K' Q else K' (a.put oj.dst undef) w)(hi:ops[i]? = some oi:=by exact rfl)(hj:ops[j]? = some oj:=by exact rfl)(hr:Region.ready md ops listed=[i,j]:=by kernel_rfl):wpAnyH P md ops Q S (fuel+1) listed a w:=
 wpAnyH_ready hr (by simp) (AllReadyH.cons hi h (AllReadyH.cons hj h2 AllReadyH.nil))
def Zh(h:p):Y3 p:=h
def aJ(a0:p0)(a1:p1):Y3 p0/\Y3 p1:=⟨a0,a1⟩
def dQ(a0:p0)(a1:p1)(a2:p2):Y3 p0/\Y3 p1/\Y3 p2:=⟨a0,a1,a2⟩
def om(a0:p0)(a1:p1)(a2:p2)(a3:p3):Y3 p0/\Y3 p1/\Y3 p2/\Y3 p3:=⟨a0,a1,a2,a3⟩
def J2(a0:p0)(a1:p1)(a2:p2)(a3:p3)(a4:p4):Y3 p0/\Y3 p1/\Y3 p2/\Y3 p3/\Y3 p4:=⟨a0,a1,a2,a3,a4⟩
def MP(a0:p0)(a1:p1)(a2:p2)(a3:p3)(a4:p4)(a5:p5):Y3 p0/\Y3 p1/\Y3 p2/\Y3 p3/\Y3 p4/\Y3 p5:=⟨a0,a1,a2,a3,a4,a5⟩
def ze{p6:Prop}(a0:p0)(a1:p1)(a2:p2)(a3:p3)(a4:p4)(a5:p5)(a6:p6):Y3 p0/\Y3 p1/\Y3 p2/\Y3 p3/\Y3 p4/\Y3 p5/\Y3 p6:=⟨a0,a1,a2,a3,a4,a5,a6⟩
def aO(l:List Int):Nat:=l.foldl (λm n=>m|||2 ^ n.toNat) 0
theorem aa7(l:List Int)(x:Int):aO (l++[x])=aO l|||2 ^ x.toNat:=by grind [aO]
theorem aa8(l:List Int):∀(m i:Nat),(∀x∈l,0<=x)->(l.foldl (λm n=>m|||2 ^ n.toNat) m).testBit i=(m.testBit i ||decide ((i:Int)∈l)):=by
 induction l with
 |nil=>simp_all
 |cons a l ih =>
  intro m i h;have ha:=h a (by simp);rw[ZF,ih _ _ (λx hx=>h x (by simp[hx])),Nat.testBit_or,Nat.testBit_two_pow,Bool.or_assoc];grind
theorem PH{l:List Int}(h:∀x∈l,0<=x)(i:Nat):(aO l).testBit i=decide ((i:Int)∈l):=by grind [aO,aa8]
theorem uT:∀{l:List Int},(∀x∈l,0<=x/\x<n)->aO l<2 ^ n:=λ{l} h=>by apply Nat.lt_pow_two_of_testBit;grind [PH]
theorem Gw{a:Nat}(hb:b<18446744073709551616)(i:Nat)(hi:i<64):(a &&& (18446744073709551615-b)).testBit i=(a.testBit i && !b.testBit i):=by
 have e:18446744073709551615-b=2 ^ 64-(b+1):=by omega
 rw[Nat.testBit_and,e,Nat.testBit_two_pow_sub_succ (by omega)];simp[hi]
theorem Gx{a:Nat}(ha:a<18446744073709551616)(hb:b<18446744073709551616):(b &&& (18446744073709551615-a)=0)↔∀i,b.testBit i=T->a.testBit i=true:=by
 constructor
 .intro h i f;have d:i<64:=by
   have e:b<2 ^ 64:=by omega
   by_cases g:i<64
   .exact g
   .rw[ZH (QA e (ZI (by omega) (by omega)))]at f
    cases f
  have j:=Gw (a:=b) ha i d;simp_all
 .intro h;apply ZJ;intro i;rw[Nat.zero_testBit];by_cases f:i<64
  .grind [Gw]
  .have e:b<2 ^ 64:=by omega
   rw[Nat.testBit_and,ZH (x:=b) (QA e (ZI (by omega) (by omega)))];rfl
theorem aa9{a:Nat}:(a &&& b≠0)↔∃i,a.testBit i=T/\b.testBit i=true:=by
 constructor
 .intro h;by_cases d:∃i,a.testBit i=T/\b.testBit i=T
  .exact d
  .exfalso;apply h;apply ZJ
   simp_all
 .rintro⟨i,f,g⟩ h;have e:(a &&& b).testBit i=true:=by grind
  simp_all
def aba(n i:Nat):(2 ^ n-1).testBit i=decide (i<n):=Nat.testBit_two_pow_sub_one n i
def ZG:=@PH
def bJ:Nat:=18446744073709551615
def dY(a b:Nat):Nat:=min (a+b) bJ
def bV(a b:Nat):Nat:=min (a*b) bJ
def aes(a b:Nat):dY a b<=bJ:=Nat.min_le_right _ _
def yg(a b:Nat):bV a b<=bJ:=Nat.min_le_right _ _
theorem Gy(a b:Nat):dY a b=dY b a:=by grind [dY]
theorem mU(a b c:Nat):dY (dY a b) c=dY a (dY b c):=by grind [dY]
def kP(l:List Nat):Nat:=l.foldl dY 0
theorem PI:∀(l:List Nat) (m:Nat),m<=bJ->l.foldl dY m=min (m+l.sum) bJ
 |[],m,h=>by simp_all
 |a::l,m,_=>by rw[ZF,PI l _ (aes _ _),List.sum_cons];grind [dY]
theorem yh(l:List Nat):kP l=min l.sum bJ:=by unfold kP;rw[PI l 0 (QW _),ZK]
def PK(b:Nat):bV 0 b=0:=by unfold bV;omega
theorem PM{x c:Nat}(hc:1<=c):min (min x bJ*c) bJ=min (x*c) bJ:=by
 by_cases h:x<=bJ
 .simp_all
 .have a:bJ<=x:=by omega
  rw[Nat.min_eq_right a];have b:bJ*1<=bJ*c:=Nat.mul_le_mul_left _ hc;have d:bJ*c<=x*c:=Nat.mul_le_mul_right _ a;omega
theorem PN:∀(l:List Nat) (m:Nat),m<=bJ->(∀x∈l,1<=x)->l.foldl bV m=min (m*l.foldl (· * ·) 1) bJ
 |[],m,h,_=>by simp_all
 |a::l,m,_,hl=>by
  have key:∀(l:List Nat) (k:Nat),l.foldl (· * ·) k=k*l.foldl (· * ·) 1:=by
   intro l
   induction l with
   |nil=>intro k;simp
   |cons b l ih =>
    grind
  have pos:∀(l:List Nat),(∀x∈l,1<=x)->1<=l.foldl (· * ·) 1:=by
   intro l
   induction l with
   |nil=>grind
   |cons b l ih =>
    intro h;rw[ZF,key,Nat.one_mul];have h1:=h b (by simp);have h2:=ih (λx hx=>h x (by simp[hx]));exact Qz (by omega) (ZL h1 h2)
  have ht:=λx hx=>hl x (List.mem_cons_of_mem a hx);rw[ZF,PN l _ (yg _ _) ht,ZF,key l (1*a),Nat.one_mul];grind [bV,PM]
def nJ(v:Nat):Nat:=if v=0 then 0 else nJ (v / 2)+1
def z8:nJ 0=0:=by rw[nJ];rfl
theorem K9{v:Nat}(h:0<v):nJ v=nJ (v / 2)+1:=by grind [nJ.eq_1]
def dD(ts:List ah)(src:List Int)(n:Nat):List (Nat × Int):=
 (List.range n).flatMap λs=>(List.range (E ts (E src s 0).toNat tz).cols.toNat).map λm=>(s,(E ts (E src s 0).toNat tz).kd m)
def iE(ts:List ah)(src:List Int)(n:Nat):dD ts src (n+1)=dD ts src n++(List.range (E ts (E src n 0).toNat tz).cols.toNat).map λm=>(n,(E ts (E src n 0).toNat tz).kd m):=by unfold dD;rw[ZM,ZN];simp
theorem uU{ts:List ah}{src:List Int}(hc:ji ts=T)(ha:aS src (N ts)=T):∀n,n<=N src->(N (dD ts src n):Int)=ak ts (src.take n)
 |0,_=>by rfl
 |n+1,hn=>by
  have ih:=uU hc ha n (by omega);have h1:=Ql ha (k:=n) (by omega);have h2:=nE hc (i:=(src[n]'(by omega)).toNat) (by omega);have e:E src n 0=src[n]'(by omega):=by grind
  rw[iE,lC ts src n (by omega),Zn,Zm,ZP,e];omega
theorem La{ts:List ah}{src:List Int}(hc:ji ts=T)(ha:aS src (N ts)=T):∀n,n<=N src->∀c:Nat,c<N (dD ts src n)->
  ∃s,s<n/\ak ts (src.take s)<=c/\(c:Int)<ak ts (src.take (s+1))/\E (dD ts src n) c (0,0)=(s,(E ts (E src s 0).toNat tz).kd (c-(ak ts (src.take s)).toNat))
 |0,_,c,h=>by simp[dD]at h
 |n+1,hn,c,h=>by
  have j:=uU hc ha n (by omega);by_cases a:c<N (dD ts src n)
  .obtain⟨s,d,b,f,g⟩:=La hc ha n (by omega) c a;refine⟨s,by omega,b,f,?_⟩;rw[iE,<-g]
   grind
  .have d:=Ql ha (k:=n) (by omega);have b:=nE hc (i:=(src[n]'(by omega)).toNat) (by omega);have e:E src n 0=src[n]'(by omega):=by grind
   rw[iE,Zn,Zm,ZP]at h;refine⟨n,by omega,by omega,?_,?_⟩
   .rw[lC ts src n (by omega),<-e];omega
   .rw[iE]
    grind
def aC(ts:List ah)(src:List Int)(c:Int):Nat:=(E (dD ts src (N src)) c.toNat (0,0)).1
def mM(ts:List ah)(src:List Int)(c:Int):Int:=(E (dD ts src (N src)) c.toNat (0,0)).2
theorem U6{ts:List ah}{src:List Int}(hc:ji ts=T)(ha:aS src (N ts)=T){c:Int}(h0:0<=c)(hl:c<ak ts src) :
  aC ts src c<N src/\ak ts (src.take (aC ts src c))<=c/\c<ak ts (src.take (aC ts src c+1))/\
   mM ts src c=(E ts (E src (aC ts src c) 0).toNat tz).kd (c.toNat-(ak ts (src.take (aC ts src c))).toNat):=by have a:=uU hc ha (N src) (Qn _);rw[QX]at a;obtain⟨s,b,d,e,f⟩:=La hc ha (N src) (Qn _) c.toNat (by omega);grind [aC,mM]
theorem pW{ts:List ah}(hc:ji ts=T)(ha:aS src (N ts)=T){a:Nat}(hab:a<=b)(hb:b<=N src):ak ts (src.take a)<=ak ts (src.take b):=by
 induction b with
 |zero =>
  simp_all
 |succ b ih =>
  by_cases h:a<=b
  .have d:=ih h (by omega);have e:=Ql ha (k:=b) (by omega);have f:=nE hc (i:=(src[b]'(by omega)).toNat) (by omega);rw[lC ts src b (by omega)];omega
  grind
def ZO:=@uU
def ZQ:=@U6
section
variable {inp:Nat->List Nat}
def fF(n:Nat)(f:Nat->Nat):Nat:=((List.range n).map f).sum
theorem jB(n:Nat)(f:Nat->Nat):fF (n+1) f=fF n f+f n:=by grind [fF,List.range_succ]
theorem U7(n:Nat)(f g:Nat->Nat):fF n (λi=>f i+g i)=fF n f+fF n g:=by
 induction n with
 |zero=>rfl
 |succ n ih=>grind [jB]
def Ey(n:Nat):fF n (λ_=>0)=0:=by
 induction n with
 |zero=>rfl
 |succ n ih=>rw[jB,ih]
theorem Bq{f g:Nat->Nat}(h:∀i,i<n->f i=g i):fF n f=fF n g:=by
 induction n with
 |zero=>rfl
 |succ n ih=>grind [jB]
theorem U8{m:Nat}(hm:m<n)(f:Nat->Nat):fF n (λi=>(if i=m then 1 else 0)*f i)=f m:=by
 induction n with
 |zero=>omega
 |succ n ih =>
  rw[jB];by_cases h:m<n
  .grind
  .obtain rfl:m=n:=by omega
   have e:fF m (λi=>(if i=m then 1 else 0)*f i)=0:=
    (Bq (g:=λ_=>0) λi a=>by grind).trans (Ey m)
   simp_all
end
def ZR:=@jB
theorem qM{n:Nat}:∀{l:List Nat},(∀k∈l,k<n)->fF n (λk=>l.count k)=N l
 |[],_=>Ey n
 |a::l,h=>by have h1:=qM (n:=n) (l:=l) (λk hk=>h k (by simp[hk]));have h2:=U8 (h a (by simp)) (λ_=>1);rw[QO,<-h1];rw[show fF n (λk=>l.count k)+1=fF n (λk=>l.count k)+fF n (λk=>(if k=a then 1 else 0)*1) by rw[h2],<-U7];grind
theorem EA{f:Nat->Nat}:∀{n:Nat},(∀k,k<n->f k<=1)->fF n f=n->∀k,k<n->f k=1
 |0,_,_,k,hk=>by omega
 |n+1,h,hs,k,hk=>by
  rw[ZR]at hs;have hle:∀m,m<=n->fF m f<=m:=by
   intro m
   induction m with
   |zero=>intro _;exact Qn _
   |succ m ih =>
    grind [jB]
  have h1:=hle n (Qn _);have h2:=h n (by omega);by_cases e:k=n
  .rw[e];omega
  .exact EA (n:=n) (λk hk=>h k (by omega)) (by omega) k (by omega)
section
variable {inp:Nat->List Nat}
end
structure ai where
 kind:Int
 l:Int
 r:Int
 source:Int
 cl:ae
 key:Int
 co:ae
def nz:ai:=⟨0,0,0,0,⟨xn,0,[]⟩,0,⟨xn,0,[]⟩⟩
def fP(w:U)(ao:Option Addr)(ns:List ai):Prop:=
 N ns<=164703072086692425/\∀i,i<N ns->∃b off,ao=O (aD b off)/\
  UK w (aD b (off+i*7))=O (I J (E ns i nz).kind)/\UK w (aD b (off+i*7+1))=O (I J (E ns i nz).l)/\
  UK w (aD b (off+i*7+2))=O (I J (E ns i nz).r)/\UK w (aD b (off+i*7+3))=O (I J (E ns i nz).source)/\
  UK w (aD b (off+i*7+4))=O (E ns i nz).cl.val/\UK w (aD b (off+i*7+5))=O (I J (E ns i nz).key)/\
  UK w (aD b (off+i*7+6))=O (E ns i nz).co.val/\(E ns i nz).cl.At w/\(E ns i nz).co.At w
def ai.same(a b:ai):Prop:=a.kind=b.kind/\a.l=b.l/\a.r=b.r/\a.source=b.source/\a.cl.xs=b.cl.xs/\a.key=b.key/\a.co.xs=b.co.xs
structure dX where
 sources:List Int
 clauses:List Int
 order:List Int
 out:Bool
 size:Nat
 cost:Nat
def vz:dX:=⟨[],[],[],F,0,0⟩
def bK(l m:List Int):List Int:=m.foldl (λout x=>if x∈out then out else out++[x]) l
def aH(c:aI):List Int:=if c.op≠2/\c.const=F then [c.left,c.right] else [c.left]
def aN(cs:List aI):List Int:=cs.flatMap aH
def F9(ts:List ah)(src:List Int)(cs:List aI)(sources:List Int):Bool:=(aN cs).all λc=>decide ((aC ts src c:Int)∈sources)
def kQ(ts:List ah)(src:List Int)(cs:List aI):Nat:=
 if N cs≠1∨(E cs 0 cz).not=T then 2
 else if (E cs 0 cz).op=1 then 3
 else if (E cs 0 cz).op=2 then 10
 else if (E cs 0 cz).const=T then (mM ts src (E cs 0 cz).left).toNat
 else max (mM ts src (E cs 0 cz).left).toNat (mM ts src (E cs 0 cz).right).toNat
def mV(ts:List ah)(src:List Int)(s:Int):Nat:=(E ts (E src s.toNat 0).toNat tz).rows.toNat
def akD(ts:List ah)(q:af)(clauses:List Int)(n:Nat):Nat:=(List.range (N q.wh)).foldl (λ(n c:Nat)=>if (c:Int)∈clauses then n / kQ ts q.src.xs (E q.wh c lz).cs else n) n
def qH(ts:List ah)(q:af)(sources clauses:List Int):Nat:=
 if (sources.any λs=>decide (mV ts q.src.xs s=0))=T then 0
 else max (akD ts q clauses ((sources.map (mV ts q.src.xs)).foldl bV 1)) 1
def Lb(kind:Int)(s:Nat)(l r:dX):Nat:=
 if kind=1 then dY s 1
 else if kind=3 then dY (dY l.cost r.cost) (bV l.size r.size)
 else if kind=4 then dY (dY l.cost r.cost) (dY (dY l.size s) (bV 2 r.size))
 else if kind=5 then dY (dY l.cost r.cost) (dY (dY l.size s) r.size)
 else if kind=6∨kind=10 then dY l.cost (bV l.size (nJ l.size+1))
 else if kind=7 then dY l.cost (bV 2 l.size)
 else dY l.cost l.size
def aQ(l m:List Int):Bool:=decide (N m<=N l)&&decide (l.take (N m)=m)
def kS(ts:List ah)(src:List Int)(cs:List aI)(a b:List Int):Int × Int × Bool:=
 if N cs≠1∨(E cs 0 cz).not=T∨(E cs 0 cz).const=T∨(E cs 0 cz).op≠0 then (0,0,F)
 else if (aC ts src (E cs 0 cz).left:Int)∈a/\(aC ts src (E cs 0 cz).right:Int)∈b then ((E cs 0 cz).left,(E cs 0 cz).right,T)
 else ((E cs 0 cz).right,(E cs 0 cz).left,decide ((aC ts src (E cs 0 cz).right:Int)∈a)&&decide ((aC ts src (E cs 0 cz).left:Int)∈b))
def arity(kind:Int):Nat:=if kind=1 then 0 else if 3<=kind/\kind<=5 then 2 else 1
def iR(n:ai):Bool:=
 decide ((1<=arity n.kind∨n.l=0)/\(2<=arity n.kind∨n.r=0)/\(n.kind=1∨n.source=0)/\(n.kind=4∨n.kind=5∨n.key=0)/\
  (n.kind=2∨3<=n.kind/\n.kind<=5∨N n.cl.xs=0)/\(n.kind=6↔(N n.co.xs)≠0))
def gz(ts:List ah)(q:af)(l sources:List Int):Bool:=
 (List.range (N l)).all λi=>decide (0<=E l i 0)&&decide (E l i 0<N q.wh)&&(decide (i=0) ||decide (E l (i-1) 0<E l i 0))&&F9 ts q.src.xs (E q.wh (E l i 0).toNat lz).cs sources
def qB(q:af)(v:dX):Bool:=decide (N v.sources=N q.src.xs)&&decide (N v.clauses=N q.wh)
def oF(ts:List ah)(q:af)(n:ai)(l r:dX):Bool:=
 if n.kind=2 then decide (0<N n.cl.xs)
 else if n.kind=4∨n.kind=5 then
  decide (n.key∈n.cl.xs)&&(kS ts q.src.xs (E q.wh n.key.toNat lz).cs l.sources r.sources).2.2 &&
   (decide (n.kind=4) ||(aQ l.order [(kS ts q.src.xs (E q.wh n.key.toNat lz).cs l.sources r.sources).1]&&aQ r.order [(kS ts q.src.xs (E q.wh n.key.toNat lz).cs l.sources r.sources).2.1]))
 else if n.kind=6 then aS n.co.xs (ak ts q.src.xs)&&dB n.co.xs&&n.co.xs.all λc=>decide ((aC ts q.src.xs c:Int)∈l.sources)
 else if n.kind=7 then q.group&&qB q l
 else if n.kind=8 then q.group&&qB q l&&aQ l.order q.keys.xs
 else if n.kind=9 then !q.group&&qB q l
 else if n.kind=10 then decide (0<N q.ord.xs)
 else T
def uw(ts:List ah)(q:af)(n:ai)(l r:dX):Option dX:=
 if (r.out ||(l.out != decide (n.kind=10)))=T then xn
 else if N (bK l.sources r.sources)≠N l.sources+N r.sources then xn
 else if gz ts q n.cl.xs (bK l.sources r.sources)=F then xn
 else if oF ts q n l r=F then xn
 else
  let c:=bK (bK l.clauses r.clauses) n.cl.xs
  let s:=qH ts q (bK l.sources r.sources) c
  O ⟨bK l.sources r.sources,c,if n.kind=6 then n.co.xs else l.order,decide (7<=n.kind),s,Lb n.kind s l r⟩
def vP(ts:List ah)(q:af)(plan:List ai):Nat->Nat->Option dX
 |0,_=>xn
 |f+1,i =>
  let n:=E plan i nz
  if iR n=F∨n.kind<1∨10<n.kind then xn
  else if n.kind=1 then
   if n.source<0∨(N q.src.xs:Int)<=n.source then xn
   else O ⟨[n.source],[],[],F,qH ts q [n.source] [],Lb 1 (qH ts q [n.source] []) vz vz⟩
  else if n.l<0∨(i:Int)<=n.l then xn
  else
   match vP ts q plan f n.l.toNat with
   |none=>xn
   |some l =>
    if arity n.kind=2 then
     if n.r<0∨(i:Int)<=n.r then xn
     else
      match vP ts q plan f n.r.toNat with
      |none=>xn
      |some r=>uw ts q n l r
    else uw ts q n l vz
def ai.cells(n:ai):Array Value:=#[I J n.kind,I J n.l,I J n.r,I J n.source,n.cl.val,I J n.key,n.co.val]
def bS{α:Type}(lt:α->α->Bool)(x:α):List α->List α
 |[]=>[x]
 |y::r=>if lt x y=T then y::bS lt x r else x::y::r
def lq{α:Type}(lt:α->α->Bool)(x:α)(l:List α):List α:=(bS lt x l.reverse).reverse
def mg{α:Type}(lt:α->α->Bool)(A B:List α):List α:=B.foldl (λout x=>lq lt x out) A
structure lG{α:Type}(lt:α->α->Bool):Prop where
 asymm:∀{x y},lt x y=T->lt y x=F
 trans:∀{x y z},lt x y=T->lt y z=T->lt x z=T
 DF:∀{x y z},lt y x=F->lt z y=F->lt z x=F
def bO{α:Type}(lt:α->α->Bool)(l:List α):Prop:=l.Pairwise λa b=>lt b a=F
section
variable {α:Type} {lt:α->α->Bool}
theorem abh(x y:α)(l:List α):lq lt x (l++[y])=if lt x y=T then lq lt x l++[y] else l++[y,x]:=by grind [lq,bS]
theorem EH(b:α):∀(r s:List α),(∀a∈r,lt b a=T)->bS lt b (r++s)=r++bS lt b s
 |[],_,_=>rfl
 |a::r,s,h=>by show (if lt b a=T then a::bS lt b (r++s) else b::a::(r++s))=_;rw[Zt (h a (by simp)),EH b r s (λx hx=>h x (by simp[hx]))];rfl
theorem PY(b:α):∀(s:List α),(∀a∈s,lt b a=F)->bS lt b s=b::s
 |[],_=>rfl
 |a::s,h=>by grind [bS]
theorem Bz(b:α)(s:List α)(h:∀a∈s,lt b a=F):∀(r:List α),bS lt b (r++s)=bS lt b r++s
 |[]=>PY b s h
 |a::r=>by show (if lt b a=T then a::bS lt b (r++s) else b::a::(r++s))=(if lt b a=T then a::bS lt b r else b::a::r)++s;rw[Bz b s h r];split <;> rfl
theorem yu{b:α}{A1 A2:List α}(h:∀a∈A2,lt b a=T):lq lt b (A1++A2)=lq lt b A1++A2:=by grind [lq,EH]
theorem GH{b:α}{A1 A2:List α}(h:∀a∈A1,lt b a=F):lq lt b (A1++A2)=A1++lq lt b A2:=by grind [lq,Bz]
theorem Lp{b:α}{A:List α}(h:∀a∈A,lt b a=F):lq lt b A=A++[b]:=by
 have:=GH (lt:=lt) (b:=b) (A1:=A) (A2:=[]) h
 rwa [Xd]at this
theorem Lr(b:α)(A:List α):(lq lt b A).Perm (A++[b]):=by
 unfold lq;refine(List.reverse_perm _).trans ?_;have:∀r:List α,(bS lt b r).Perm (b::r):=by
  intro r
  induction r with
  |nil=>rfl
  |cons a r ih =>
   show (if lt b a=T then a::bS lt b r else b::a::r).Perm _;split
   .exact(List.Perm.cons a ih).trans (List.Perm.swap b a r)
   rfl
 refine(this _).trans ?_;grind [List.reverse_perm]
theorem aev{b x:α}{A:List α}:x∈lq lt b A↔x∈A∨x=b:=by grind [Lr]
theorem aew(A:List α):mg lt A []=A:=rfl
theorem GJ(A B C:List α):mg lt A (B++C)=mg lt (mg lt A B) C:=by grind [mg]
theorem Ny(A:List α)(b:α):mg lt A [b]=lq lt b A:=rfl
def sP(A B:List α)(b:α):mg lt A (b::B)=mg lt (lq lt b A) B:=rfl
theorem uX:∀(B A:List α),(mg lt A B).Perm (A++B)
 |[],A=>by rw[aew,Xd]
 |b::B,A=>by rw[sP];refine(uX B _).trans ?_;refine(List.Perm.append_right B (Lr b A)).trans ?_;simp_all
theorem Ad{x:α}{A B:List α}:x∈mg lt A B↔x∈A∨x∈B:=by rw[(uX (lt:=lt) B A).mem_iff,Zi]
theorem qY(A B:List α):N (mg lt A B)=N A+N B:=by grind [List.Perm.length_eq,uX,List.length_append]
theorem aac:∀(B A1 A2:List α),(∀b∈B,∀a∈A2,lt b a=T)->mg lt (A1++A2) B=mg lt A1 B++A2
 |[],_,_,_=>rfl
 |b::B,A1,A2,h=>by rw[sP,sP,yu (h b (by simp)),aac B _ _ (λx hx=>h x (by simp[hx]))]
theorem PZ:∀(B A1 A2:List α),(∀b∈B,∀a∈A1,lt b a=F)->mg lt (A1++A2) B=A1++mg lt A2 B
 |[],_,_,_=>rfl
 |b::B,A1,A2,h=>by rw[sP,sP,GH (h b (by simp)),PZ B _ _ (λx hx=>h x (by simp[hx]))]
theorem P5{A1 A2 B1 B2:List α}(h1:∀b∈B1,∀a∈A2,lt b a=T)(h2:∀b∈B2,∀a∈A1,lt b a=F)(h3:∀b∈B2,∀a∈B1,lt b a=F) :
  mg lt (A1++A2) (B1++B2)=mg lt A1 B1++mg lt A2 B2:=by grind [GJ,aac,PZ,Ad]
theorem GK:∀{B:List α},bO lt B->∀{A:List α},(∀b∈B,∀a∈A,lt b a=F)->mg lt A B=A++B
 |[],_,A,_=>by grind [aew]
 |b::B,h,A,hA=>by
  unfold bO at h;rw[Xe]at h;rw[sP,Lp (hA b (by simp)),GK h.2,ZE]
  .rfl
  grind
theorem EI(Oq:lG lt){x y:α}(h:lt x y=T):∀r:List α,bS lt x (bS lt y r)=bS lt y (bS lt x r)
 |[]=>by show (if lt x y=T then y::bS lt x [] else x::y::[])=(if lt y x=T then x::bS lt y [] else y::x::[]);rw[Zt h,ZU (by rw[Oq.asymm h];simp)];rfl
 |z::r=>by
  by_cases hy:lt y z=T
  .have hx:=Oq.trans h hy;have e1:bS lt y (z::r)=z::bS lt y r:=Zt hy;have e2:bS lt x (z::r)=z::bS lt x r:=Zt hx;rw[e1,e2]
   show (if lt x z=T then z::bS lt x (bS lt y r) else _)=(if lt y z=T then z::bS lt y (bS lt x r) else _);rw[Zt hx,Zt hy,EI Oq h r]
  .have e1:bS lt y (z::r)=y::z::r:=ZU hy;have e2:bS lt x (y::z::r)=y::bS lt x (z::r):=Zt h;rw[e1,e2];by_cases hx:lt x z=T
   .grind [bS]
   .have e3:bS lt x (z::r)=x::z::r:=ZU hx;rw[e3];exact(ZU (by rw[Oq.asymm h];simp)).symm
theorem abj(Oq:lG lt){x y:α}(h:lt x y=T)(l:List α):lq lt x (lq lt y l)=lq lt y (lq lt x l):=by grind [lq,EI]
theorem Ls(Oq:lG lt)(L:List α)(b:α):∀r:List α,(bS lt b r).foldr (lq lt) L=lq lt b (r.foldr (lq lt) L)
 |[]=>rfl
 |s::r=>by
  show (if lt b s=T then s::bS lt b r else b::s::r).foldr (lq lt) L=_;split
  .rename_i h
   rw[List.foldr_cons,Ls Oq L b r,List.foldr_cons,abj Oq h]
  .rfl
theorem abk(Oq:lG lt)(L:List α)(B:List α):mg lt L (mg lt [] B)=mg lt L B:=by
 have key:∀r:List α,(r.foldr (bS lt) []).foldr (lq lt) L=r.foldr (lq lt) L:=by
  intro r
  induction r with
  |nil=>rfl
  |cons b r ih=>grind [Ls]
 have a:∀X:List α,mg lt L X=X.reverse.foldr (lq lt) L:=λX=>by grind [mg]
 have d:∀r:List α,(mg lt [] r.reverse).reverse=r.foldr (bS lt) []:=by
  intro r
  induction r with
  |nil=>rfl
  |cons b r ih =>
   grind [GJ,lq,Ny]
 grind
theorem aex(Oq:lG lt){x:α}{A:List α}(h:bO lt A):bO lt (lq lt x A):=by
 unfold lq;have d:A.reverse.Pairwise (λa b=>lt a b=F):=by rw[List.pairwise_reverse];exact h
 unfold bO;rw[List.pairwise_reverse];generalize A.reverse=r at d
 induction r with
 |nil=>exact Zf _ _
 |cons a r ih =>
  rw[Xe]at d;show (if lt x a=T then a::bS lt x r else x::a::r).Pairwise _;split
  .rename_i hx
   rw[Xe];refine⟨λy g=>?_,ih d.2⟩;have i:y∈(bS lt x r).reverse:=by simp_all
   have e:y∈lq lt x r.reverse:=by grind [lq]
   rcases aev.1 e with h|h
   .simp_all
   .rw[h];exact Oq.asymm hx
  .rename_i hx
   have f:lt x a=false:=by simp_all
   rw[Xe];refine⟨λy g=>?_,by simp_all⟩;rcases Z0.1 g with h|h
   .simp_all
   .exact Oq.DF (d.1 y h) f
def GM(Oq:lG lt):∀(B:List α) {A:List α},bO lt A->bO lt (mg lt A B)
 |[],_,h=>h
 |b::B,_,h=>GM Oq B (aex Oq h)
end
def wX(x y:Int)(bad:x≠y->(x==y)=F->(x != y)=T->P)(good:x=y->(x==y)=T->(x != y)=F->P):P:=by
 by_cases h:x=y
 .exact good h (by simp[h]) (by simp[h])
 .exact bad h (by simp[h]) (by simp[h])
def jl(op l r:Int):Int:=
 if op=2 then (if l=1073741824 then 1 else -1) else if l=1073741824∨r=1073741824 then 0 else if (op=0/\l=r)∨(op=1/\l<r) then 1 else -1
def il(c:aI)(xs:List Int):Int:=
 let t:=jl c.op (E xs c.left.toNat 0) (if c.op=2∨c.const=T then c.right else E xs c.right.toNat 0)
 if c.not then -t else t
def l7(cs:List aI)(xs:List Int):Bool:=cs.any λc=>decide (il c xs=1)
def mq(ls:List aB)(is:List Int)(xs:List Int):Bool:=is.all λi=>l7 (E ls i.toNat lz).cs xs
theorem P6{c:aI}(h:fV c n=T):(c.op=0∨c.op=1∨c.op=2)/\(0<=c.left/\c.left<n)/\(c.op=2∨c.const=T∨(0<=c.right/\c.right<n)):=by unfold fV at h;grind
def mJ(cs:List aI)(xs:List Int):Int:=cs.foldl (λm c=>max m (il c xs+1)) 0
theorem Nz{cs:List aI}(hk:k<N cs):mJ (cs.take (k+1)) xs=max (mJ (cs.take k) xs) (il (E cs k cz) xs+1):=by grind [mJ,List.take_succ_eq_append_getElem]
theorem BA(op l r:Int):jl op l r=1∨jl op l r=0∨jl op l r = -1:=by grind [jl]
theorem uY(c:aI)(xs:List Int):il c xs=1∨il c xs=0∨il c xs = -1:=by unfold il;simp only;have:=BA c.op (E xs c.left.toNat 0) (if c.op=2∨c.const=T then c.right else E xs c.right.toNat 0);omega
theorem zB(cs:List aI)(xs:List Int):0<=mJ cs xs/\mJ cs xs<=2:=by
 unfold mJ;have h:∀(l:List aI) (m:Int),0<=m/\m<=2->0<=l.foldl (λm c=>max m (il c xs+1)) m/\l.foldl (λm c=>max m (il c xs+1)) m<=2:=by
  intro l
  induction l with
  |nil=>simp_all
  |cons c l ih =>
   intro m a;refine ih _ ?_;grind [uY]
 simp_all
theorem NA(cs:List aI)(xs:List Int):decide (mJ cs xs=2)=l7 cs xs:=by
 unfold mJ l7;have h:∀(l:List aI) (m:Int),0<=m/\m<=2->decide (l.foldl (λm c=>max m (il c xs+1)) m=2)=(decide (m=2) ||l.any λc=>decide (il c xs=1)):=by
  intro l
  induction l with
  |nil=>grind
  |cons c l ih =>
   intro m b;have a:=uY c xs;rw[ZF,ih _ (by omega),List.any_cons,<-Bool.or_assoc];congr 1;rcases a with h|h|h <;> rw[h]
   .grind
   .grind
   grind
 simp_all
def dR(ls:List aB)(xs:List Int):Bool:=ls.all λc=>l7 c.cs xs
section
structure Kept(s:Nat->Prop)(A B:U):Prop where
 os:B.os=A.os
 tape:B.tape=A.tape
 output:B.output=A.output
 size:M (H A)<=M (H B)
 block:∀k,k<M (H A)->s k->B.heap[k]? = A.heap[k]?
def Kept.refl(s:Nat->Prop)(A:U):Kept s A A:=⟨rfl,rfl,rfl,Qn _,λ_ _ _=>rfl⟩
def Kept.trans{s:Nat->Prop}{A B C:U}(h:Kept s A B)(k:Kept s B C):Kept s A C:=
 ⟨k.os.trans h.os,k.tape.trans h.tape,k.output.trans h.output,Qz h.size k.size,λi a b=>(k.block i (QA a h.size) b).trans (h.block i a b)⟩
def Kept.mono{s t:Nat->Prop}{A B:U}(h:Kept s A B)(hs:∀b,b<M (H A)->t b->s b):Kept t A B:=
 ⟨h.os,h.tape,h.output,h.size,λi a d=>h.block i a (hs i a d)⟩
def Kept.trans'{s t:Nat->Prop}{C:U}(h:Kept s A B)(k:Kept t B C)(hs:∀b,b<M (H A)->s b->t b):Kept s A C:=
 ⟨k.os.trans h.os,k.tape.trans h.tape,k.output.trans h.output,Qz h.size k.size,λi d a=>(k.block i (QA d h.size) (hs i d a)).trans (h.block i d a)⟩
def Kept.aej{s:Nat->Prop}{B:Nat}{w w':U}(h:Below B w w')(hs:∀b,b<M (H w)->s b->b<B):Kept s w w':=
 ⟨h.os,h.tape,h.output,h.size,λk d a=>h.block k (hs k d a)⟩
def Kept.below{s:Nat->Prop}{B:Nat}{w w':U}(h:Kept s w w')(hB:B<=M (H w))(hs:∀b,b<B->s b):Below B w w':=
 ⟨h.os,h.tape,h.output,h.size,λk a=>h.block k (QA a hB) (hs k a)⟩
def Kept.putObj{s:Nat->Prop}(W:U){r:Nat}(o:Obj)(hr:¬s r):Kept s W (W.putObj r o):=
 ⟨rfl,rfl,rfl,by simp,λk _ a=>QD (λe=>hr (e ▸ a))⟩
def Kept.alloc{s:Nat->Prop}(W:U)(o:Obj):Kept s W (W.alloc o):=
 ⟨rfl,rfl,rfl,by simp,λk a _=>Below.heap_alloc W o k a⟩
structure El(α κ:Type) where
 enc:α->X3
 At:α->U->Prop
 blk:α->Option Nat
 key:α->κ
 keep:∀{x A B},At x A->M (H A)<=M (H B)->(∀b,b<M (H A)->blk x=O b->B.heap[b]? = A.heap[b]?)->At x B
 zw:∀{x A b},At x A->blk x=O b->b<M (H A)
variable {α κ:Type} (Ez:El α κ)
def Seq(P:Program)(g:Nat)(lb:Array X3)(rows:List κ)(w0:U):Prop:=
 ∀(l:Nat) (Jq:List α->(Nat->Prop)->U->Prop) (W:U) (o:Nat->Prop),
  Bw w0 W->(∀b,o b->M (H w0)<=b/\b<M (H W))->
  (∀pre o1 A B,Jq pre o1 A->Kept (λb=>o1 b∨b<M (H W)) A B->Jq pre o1 B)->
  (∀pre x o1 W1,Jq pre o1 W1->(pre++[x]).map Ez.key <+: rows->Ez.At x W1->(∀b,Ez.blk x=O b->¬o1 b/\(b<M (H w0)∨M (H W)<=b))->M (H W)<=M (H W1)->
   YieldAt Fence.wide 0 P l #[Ez.enc x] W1 λe W'=>e=FN (Wl T)/\∃o2,Jq (pre++[x]) o2 W'/\Kept (λb=>¬o1 b) W1 W'/\
    ∀b,o2 b->o1 b∨(M (H W1)<=b/\b<M (H W'))∨(Ez.blk x=O b/\M (H W)<=b))->
  Jq [] o W->
  Calls P g (#[.func (.yield l) #[] #[]]++lb) W λe W'=>(∃v,e=FN v)/\∃ys o',ys.map Ez.key=rows/\Jq ys o' W'/\Kept (λb=>¬o b) W W'/\
   ∀b,o' b->o b∨(M (H W)<=b/\b<M (H W'))
def gK(Iq:List α->(Nat->Prop)->U->Prop)(pre:List α)(x:α)(n:Nat)(o1:Nat->Prop)(W:U):Exit->Act->U->Prop
 |.normal,_,W'=>∃o2,Iq (pre++[x]) o2 W'/\Kept (λb=>¬o1 b) W W'/\∀b,o2 b->o1 b∨(M (H W)<=b/\b<M (H W'))∨(Ez.blk x=O b/\n<=b)
 |_,_,_=>False
theorem nI{P:Program}{g:Operand}{ps:Array Tmp}{assign body:Code}{Q:Exit->Act->U->Prop}
  {gf:Nat} (hg:a.eval g=.func (.func gf) #[] lb) (eg:∀args w,(callFunc gf args).run P w=.ok (.enter gf args) w)
  {rows:List κ} (hseq:Seq Ez P gf lb rows w0) (hb0:Bw w0 w) (hps:ps.size=1)
  (Iq:List α->(Nat->Prop)->U->Prop) (o:Nat->Prop) (ho:∀b,o b->M (H w0)<=b/\b<M (H w))
  (hI:∀pre f A B,Iq pre f A->Kept (λb=>f b∨b<M (H w)) A B->Iq pre f B) (h0:Iq [] o w) (a₁:α->Act)
  (hassign:∀(l:Nat) (x:α) (W:U) (K:Act->U->Prop),K (a₁ x) W->
   assign.wpIn (Fence.wide.inRound l) 0 P (Exit.then K (λ_ _ _=>False)) { tmps:=(ps.zip #[Ez.enc x]).foldl (λt (p,v)=>t.setIfInBounds p v) a.tmps,defers:=[] } W)
  (hbody:∀(l:Nat) (pre:List α) (x:α) (f:Nat->Prop) (W:U),Iq pre f W->(pre++[x]).map Ez.key <+: rows->Ez.At x W->
   (∀b,Ez.blk x=O b->¬f b/\(b<M (H w0)∨M (H w)<=b))->M (H w)+2<=M (H W)->
   body.wpIn (Fence.wide.inRound l) 0 P (gK Ez Iq pre x (M (H w)) f W) (a₁ x) W)
  (hdone:∀(ys:List α) (G:Nat->Prop) (W:U),ys.map Ez.key=rows->Iq ys G W->Kept (λb=>¬o b) w W->(∀b,G b->(o b∨(M (H w)+2<=b/\b<M (H W))))->
   W.heap[M (H w)]? = O (.deferred (O []))->Q .normal { a with defers:={ target:=.collected (M (H w)),args:=#[] } :: a.defers } W) :
  (Code.rangeFunc g ps assign body).wpIn Fence.wide 0 P Q a w:=by
 refine wpIn_rangeFunc ?_;intro fn aF;obtain⟨i,d⟩:∃i:LoopState->Option Code->Loop,i=λst pe=>{ state:=st,pending:=pe,fn,tmps:=a.tmps,params:=ps,assign,body,defers:=M (H w) }:=⟨_,rfl⟩;obtain⟨u,n⟩:∃u,(w.alloc (.deferred (O []))).alloc (.loop (i .ready xn))=u:=⟨_,rfl⟩;have aH:M (H u)=M (H w)+2:=by rw[<-n];simp
 have ai:u.heap[M (H w)+1]? = O (.loop (i .ready xn)):=by rw[<-n];have:=QG (w.alloc (.deferred (O []))) (.loop (i .ready xn));simp_all
 have aj:u.heap[M (H w)]? = O (.deferred (O [])):=by rw[<-n];exact(Below.heap_alloc _ _ _ (by simp)).trans (QG w _)
 have D:∀s,Kept s w u:=λs=>by rw[<-n];exact(Kept.alloc _ _).trans (Kept.alloc _ _)
 have ak:=hb0.trans ((D (λ_=>True)).below hb0.size (λ_ _=>trivial));refine⟨M (H w)+1,[{ target:=.collected (M (H w)),args:=#[] }],u,{ target:=.fn (.func gf) lb,args:=#[.func (.yield (M (H w)+1)) #[] #[]] },u,gf,
  #[.func (.yield (M (H w)+1)) #[] #[]]++lb,u,?_,?_,?_,?_,λh=>by simp[Fence.wide]at h,?_⟩
 .rw[<-n,d];exact run_enterLoop_outer _ _ _ _ _
 .simp only[resolve,hg];simp[go_sem]
 .intro f' _;trivial
 .simp[invoke,go_sem,eg]
 .refine QH.2 ((hseq (M (H w)+1)
   (λpre G W=>∃f,Iq pre f W/\(∀b,G b↔f b∨b=M (H w)∨b=M (H w)+1)/\¬f (M (H w))/\¬f (M (H w)+1)/\
    W.heap[M (H w)+1]? = O (.loop (i .ready xn))/\W.heap[M (H w)]? = O (.deferred (O [])))
   u (λb=>o b∨b=M (H w)∨b=M (H w)+1) ak ?_ ?_ ?_ ?_).mono ?_)
  .rintro b (q|rfl|rfl)
   .grind
   .exact⟨hb0.size,by omega⟩
   .exact⟨by have:=hb0.size;omega,by omega⟩
  .rintro pre G A B ⟨f,hi,j,hn,y,z,hd⟩ hk;have au:=(QI.1 z).1;have av:=(QI.1 hd).1;refine⟨f,hI pre f A B hi (hk.mono λb _ q=>?_),j,hn,y,(hk.block _ au (.inl ((j _).2 (.inr (.inr rfl))))).trans z,(hk.block _ av (.inl ((j _).2 (.inr (.inl rfl))))).trans hd⟩
   grind
  .rintro pre x G W ⟨f,hi,j,hn,y,z,hd⟩ ah hx r aJ;have X:=(QI.1 z).1;have aa:M (H w)<M (H W):=by omega
   have hy:=run_yield (P:=P) (args:=#[Ez.enc x]) z (by simp_all);rw[d]at hy;refine⟨fn,_,assign,body,hy,roundIn_of_wpIn aF (hassign _ x W _ ⟨_,run_beginRound z (by rw[d]),?_⟩)⟩;obtain⟨R,C⟩:=eX (W.putObj (M (H w)+1) (.loop { i .ready xn with state:=.busy }));have k:Kept (λb=>b≠M (H w)+1) W R:=by rw[<-C];exact Kept.putObj _ _ (λh=>h rfl)
   have ae:R.heap[M (H w)+1]? = O (.loop { i .ready xn with state:=.busy }):=by rw[<-C];exact World.putObj_heap_same X
   have ax:=(k.block _ aa (by omega)).trans hd;have aI:M (H R)=M (H W):=by rw[<-C];simp
   have ay:=hI pre f W R hi (k.mono λb _ q=>by
    grind)
   have az:=Ez.keep hx k.size (λb q aG=>k.block b q (λe=>(r b aG).1 ((j b).2 (.inr (.inr e)))));rw[C];rw[d]at ae;refine wpIn_mono (hbody _ pre x f R ay ah az (λb q=>⟨λh=>(r b q).1 ((j b).2 (.inl h)),(r b q).2.imp id (by omega)⟩) (by omega)) ?_;rintro e a3 W3 S
   cases e with
   |normal =>
    obtain⟨o2,aB,L,aC⟩:=S;have af:W3.heap[M (H w)+1]? = O (.loop { state:=.busy,pending:=xn,fn,tmps:=a.tmps,params:=ps,assign,body,defers:=M (H w) }):=(L.block _ (by omega) y).trans ae;have ag:=(QI.1 af).1;have aA:=(L.block _ (by omega) hn).trans ax;have m:∀b,b=M (H w)∨b=M (H w)+1->¬o2 b:=λb q h=>by grind
    refine⟨_,_,run_endRound xn af,rfl,λb=>o2 b∨b=M (H w)∨b=M (H w)+1,⟨o2,hI _ o2 W3 _ aB (Kept.putObj _ _ ?_),λb=>QJ,m _ (.inl rfl),m _ (.inr rfl),?_,?_⟩,?_,?_⟩
    .simp_all
    .rw[World.putObj_heap_same ag,d];rfl
    .exact(QD (by omega)).trans aA
    .refine((k.mono ?_).trans' (L.mono ?_) (λ_ _ h=>h)).trans (Kept.putObj _ _ ?_)
     .simp_all
     .simp_all
     simp_all
    .rintro b (h|h)
     .rcases aC b h with h|h|h
      .simp_all
      .simp_all
      grind
     simp_all
   |ret=>exact S.elim
   |exit id=>exact S.elim
   |goto t=>exact S.elim
   |panic ch=>exact S.elim
   |outgrown=>exact S.elim
  .have m:∀b,b=M (H w)∨b=M (H w)+1->¬o b:=λb q h=>by grind
   exact⟨o,hI _ _ _ _ h0 (D _),λ_=>QJ,m _ (.inl rfl),m _ (.inr rfl),ai,aj⟩
  .rintro e R ⟨⟨v,rfl⟩,ys,G,aD,⟨f,hi,j,hn,y,z,hd⟩,hk,hg⟩;have X:=(QI.1 z).1;refine⟨xn,_,by have:=run_endLoop (P:=P) z (by simp_all);rw[d]at this;exact this,hdone ys f _ aD (hI _ _ _ _ hi (Kept.putObj _ _ ?_)) ?_ ?_ ((QD (by omega)).trans hd)⟩
   .simp_all
   .refine(Kept.trans' (D _) (hk.mono λb _ h=>h) ?_).trans (Kept.putObj _ _ ?_) |>.mono (s:=λb=>¬o b/\b<M (H w)) ?_
    .grind
    .omega
    simp_all
   .intro b q;rcases hg b ((j b).2 (.inl q)) with (h|h|h)|h
    .exact .inl h
    .simp_all
    .simp_all
    simp_all
def Seq.later{P:Program}{g:Nat}{rows:List κ}(h:Seq Ez P g lb rows w0)(hb:Bw w0 w1):Seq Ez P g lb rows w1:=by intro l f W o i e j k m;refine h l f W o (hb.trans (i.mono hb.size)) (λb h=>⟨Qz hb.size (e b h).1,(e b h).2⟩) j (λpre x n p q r t a u=>k pre x n p q r t (λb d=>⟨(a b d).1,(a b d).2.imp (λh=>QA h hb.size) id⟩) u) m
end
def Qy:=@Kept.refl
def QB:=@Kept.aej
def QC:=@Kept.putObj
def QE:=@Kept.alloc
def iz:ae:=⟨xn,0,[]⟩
def jk(w:U)(ao:Option Addr)(rs:List ae):Prop:=
 N rs<=1152921504606846976/\aX w ao (N rs) (λi=>(E rs i iz).val)/\∀i,i<N rs->(E rs i iz).At w
def jk.below{w w':U}(hb:Bw w w'){ao:Option Addr}{rs:List ae}(h:jk w ao rs):jk w' ao rs:=
 ⟨h.1,h.2.1.below hb,λi a=>Qo hb (h.2.2 i a)⟩
structure aP where
 ad:Option Addr
 cap:Nat
 rs:List ae
def rz:aP:=⟨xn,0,[]⟩
def aP.val(v:aP):Value:=Z v.ad (N v.rs) v.cap
def aP.At(v:aP)(w:U):Prop:=jk w v.ad v.rs
def U2(w:U)(ao:Option Addr)(db:List aP):Prop:=
 N db<=1152921504606846976/\aX w ao (N db) (λi=>(E db i rz).val)/\∀i,i<N db->(E db i rz).At w
def U2.below{w w':U}(hb:Bw w w'){ao:Option Addr}{db:List aP}(h:U2 w ao db):U2 w' ao db:=
 ⟨h.1,h.2.1.below hb,λi a=>jk.below hb (h.2.2 i a)⟩
@[reducible] def Cb (f:Nat) (a:Array X3) (w:U) (v:X3):Prop:=Calls V f a w λe w'=>e=FN v/\Bw w w'
@[reducible] def Ce (f:Nat) (a:Array X3) (w:U) (v:X3):Prop:=Calls V f a w λe w'=>e=FN v/\w' = w
section
theorem Y0{w:U}{p:Addr}{v:X3}(h:w.cell? p=O v):p.block<M (H w):=by unfold World.cell? at h;grind
def aX.keep{ao:Option Addr}{f:Nat->X3}(h:aX A ao n f)(hb:∀a,ao=O a->a.block<M (H A)->B.heap[a.block]? = A.heap[a.block]?):aX B ao n f:=by intro i g;obtain⟨b,off,rfl,d⟩:=h i g;have e:b<M (H A):=Y0 (p:=(aD b (off+i))) d;exact⟨b,off,rfl,(QL (a:=(aD b (off+i))) (hb (aD b off) rfl e)).trans d⟩
def aj:El ae (List Int) where
 enc:=ae.val
 At x W:=x.At W/\(∀a,x.ad=O a->a.block<M (H W))/\(x.ad=xn->x.cap=0)
 blk x:=x.ad.map (·.block)
 key:=ae.xs
 keep:=by rintro x A B ⟨h,hl,hn⟩ hs hb;refine⟨⟨h.1,h.2.keep λa ha hlt=>hb _ hlt (by rw[ha];rfl)⟩,λa ha=>QA (hl a ha) hs,hn⟩
 zw:=by
  rintro x A b ⟨_,hl,_⟩ hb
  cases ha:x.ad with
  |none=>rw[ha]at hb;cases hb
  |some a=>rw[ha]at hb;cases hb;exact hl a ha
def K5{x:ae}(h:aj.blk x=O b):∃a,x.ad=O a/\a.block=b:=by
 have d:x.ad.map (·.block)=O b:=h
 cases ha:x.ad with
 |none=>rw[ha]at d;cases d
 |some a=>rw[ha]at d;cases d;exact⟨a,rfl,rfl⟩
def bD(w:U)(ao:Option Addr)(rs:List ae):Prop:=jk w ao rs/\(∀a,ao=O a->a.block<M (H w))/\∀i,i<N rs->aj.At (E rs i iz) w
def bD.below{w w':U}(hb:Bw w w'){ao:Option Addr}{rs:List ae}(h:bD w ao rs):bD w' ao rs:=
 ⟨h.1.below hb,λa e=>QA (h.2.1 a e) hb.size,λi f=>aj.keep (h.2.2 i f) hb.size (λb d _=>hb.block b d)⟩
def oM(rs:List α)(d:α)(hk:k<N rs):rs.take k++[E rs k d]=rs.take (k+1):=by rw[Qh hk];simp[List.getD,hk]
attribute [local go_sem] Oper.semAt_some
def Pw(bt:Nat)(ao:Option Addr)(cap:Nat)(rs:List ae)(w0:U)(hbt:bt<M (H w0))(hc:UK w0 (aD bt 0)=O (Z ao (N rs) cap))(hr:bD w0 ao rs) :
  Seq aj V 131 #[Y (O (aD bt 0))] (rs.map (·.xs)) w0:=by
 intro l Jq W o K ho hJ hY h0;have af:=(K.cell (p:=(aD bt 0)) hbt).trans hc;have v:=hr.below K;have aa:=hr.1.1;obtain⟨HY,HO⟩:=aJ hY ho;have HR:Y3 _:=v;have D:=Zh K;have G:Y3 _:=hr;clear hY ho v K hr hJ;refine(QH (n:=0)).1 (callsIn_of_wp Tryz.func131 rfl trivial ?_ rfl);simp only[Tryz.ntmps131,QN,QO,QP,Nat.reduceAdd,Nat.reduceSub,QQ,QR,QS,QT,QU,QV];gi_wp2;gi_loopw [7] (λi wr=>∃k:Nat,k<=N rs/\i=I J k/\∃u,Jq (rs.take k) u wr/\Kept (λb=>¬o b) W wr/\Y3 (∀b,u b->o b∨(M (H W)<=b/\b<M (H wr))))
  (λi _=>N rs-(intOf i).toNat)
 case atStart=>exact⟨0,QW _,rfl,o,h0,Qy _ _,λb h=>.inl h⟩
 case round=>
  obtain⟨k,hk,rfl,u,r,A,f⟩:=hrel;by_cases d:k<N rs
  .obtain⟨b,off,rfl,Q⟩:=G.o.1.2.1.get d;have L:b<M (H w0):=G.o.2.1 _ rfl;have m:=D.o.trans (A.below D.o.size (λi hi h=>by have:=(HO.o i h).1;omega));have y:=(m.cell (p:=(aD b (off+k))) L).trans (Q k d);have z:=aj.keep (G.o.2.2 k d) m.size (λb X _=>m.block b X);have P:∀b,u b->M (H w0)<=b:=λb h=>by
    rcases f.o b h with h|h
    .exact(HO.o b h).1
    .have:=D.o.size;omega
   have q:∀b,aj.blk (E rs k iz)=O b->b<M (H w0):=λb h=>by obtain⟨a,ha,rfl⟩:=K5 h;exact(G.o.2.2 k d).2.1 a ha
   have HN:=Zh (oM rs iz d);have j:(rs.take k++[E rs k iz]).map aj.key <+: rs.map (·.xs):=by rw[oM rs iz d];exact List.IsPrefix.map _ (List.take_prefix _ _)
   obtain⟨fn,tmps,g,B,hy,hR⟩:=HY.o _ (E rs k iz) u wr r j z (λb h=>⟨λt=>by have:=P b t;have:=q b h;omega,.inl (q b h)⟩) A.size;generalize E rs k iz=x at*;obtain⟨iZ,bL,fB⟩:=x;have ag:(Instr.yield l #[Z iZ (N fB) bL]).run V wr=.ok (.round l fn tmps g B) wr:=hy;have ah:UK wr (aD b (off+k))=O (Z iZ (N fB) bL):=y;clear hy y z j;gi_wp2;refine⟨rfl,hR.mono ?_⟩;rintro e W3 ⟨rfl,o2,R,C,S⟩;gi_wp2;go_roundw
   case rel=>
    refine⟨k+1,by omega,by simp,o2,by rw[<-HN.o];exact R,A.trans' C ?_,?_⟩
    .intro b hb h t;rcases f.o b t with t|t
     .exact h t
     .omega
    .intro b hb;rcases S b hb with h|h|h
     .rcases f.o b h with h|h
      .exact .inl h
      .exact .inr ⟨h.1,by have:=C.size;omega⟩
     .exact .inr ⟨by have:=A.size;omega,h.2⟩
     .have:=q b h.1;have:=D.o.size;omega
   case measure=>simp[intOf];omega
  .obtain rfl:k=N rs:=by omega
   gi_wp2;go_end0;exact⟨⟨_,rfl⟩,rs,u,rfl,by rw[QX]at r;exact r,A,f.o⟩
end
def QK:=@Y0
section
def lD{pre:List ae}{x:ae}(h:(pre++[x]).map aj.key <+: rows):x.xs∈rows:=by
 have a:x.xs∈(pre++[x]).map aj.key:=by simp[aj]
 exact h.subset a
def U3{pre:List ae}{x:ae}(p:List Int->Bool)(h:(pre++[x]).map aj.key <+: rows)(hp:p x.xs=T) :
  (pre.filter (λr=>p r.xs)++[x]).map aj.key <+: rows.filter p:=by
 have a:=List.IsPrefix.filter p h;have b:(pre.filter (λr=>p r.xs)++[x]).map aj.key=((pre++[x]).map aj.key).filter p:=by rw[QY];congr 1;rw[QZ];simp[aj,Function.comp_def,hp]
 rw[b];exact a
def ui{A B:U}{p:Addr}{v:X3}{s:Nat->Prop}(h:A.cell? p=O v)(hk:Kept s A B)(hs:s p.block):B.cell? p=O v:=
 (QL (hk.block _ (QK h) hs)).trans h
attribute [local go_sem] Oper.semAt_some
def Gq(bi bk gi gk:Nat)(ik lbk:Array X3)(rows:List (List Int))(p:List Int->Bool)(w0:U)(hbi:bi<M (H w0))(hbk:bk<M (H w0))
  (hci:UK w0 (aD bi 0)=O (.func (.func gi) #[] ik)) (hck:UK w0 (aD bk 0)=O (.func (.func gk) #[] lbk))
  (hseq:Seq aj V gi ik rows w0) (FZ:∀args w,(callFunc gi args).run V w=.ok (.enter gi args) w) (egk:∀args w,(callFunc gk args).run V w=.ok (.enter gk args) w)
  (hkeep:∀W x,Bw w0 W->ae.At x W->x.xs∈rows->Calls V gk (#[x.val]++lbk) W λe W'=>e=FN (Wl (p x.xs))/\Bw W W') :
  Seq aj V 86 #[Y (O (aD bi 0)),Y (O (aD bk 0))] (rows.filter p) w0:=by
 intro l Jq W o hW ho hJ hY h0;have au:=(hW.cell (p:=(aD bi 0)) hbi).trans hci;obtain⟨HY,C,t,HJ,HK,F3,aA⟩:=ze hY ho hW hJ hkeep hck hbk;have q:Bw W (W.alloc (EP #[.func (.yield l) #[] #[]] 123)):=dN _ _;have av:=(q.cell (p:=(aD bi 0)) (QA hbi t.o.size)).trans au;have Fw:UK (W.alloc (EP #[.func (.yield l) #[] #[]] 123)) (aD (M (H W)) 0)=O (.func (.yield l) #[] #[]):=by simp
 have S:M (H (W.alloc (EP #[.func (.yield l) #[] #[]] 123)))=M (H W)+1:=by simp
 refine(QH (n:=0)).1 (Q3 Tryz.func86 rfl trivial ?_ rfl);simp only[Tryz.ntmps86,QN,QO,QP,Nat.reduceAdd,Nat.reduceSub,QQ,QR,QS,QT,QU,QV];gi_wp2;obtain⟨w1,ah⟩:=eX (W.alloc (EP #[.func (.yield l) #[] #[]] 123));rw[ah]at q av Fw S;rw[ah];obtain⟨H1,H2⟩:=aJ S q;refine nI aj (gf:=gi) (lb:=ik) rfl FZ hseq (t.o.trans (H2.o.mono t.o.size)) rfl
  (λpre u W'=>Jq (pre.filter (λr=>p r.xs)) u W'/\Kept (λb=>¬o b) W W'/\(∀b,u b->o b∨(M (H W)<=b/\b<M (H W')))/\UK W' (aD (M (H W)) 0)=O (.func (.yield l) #[] #[])/\¬u (M (H W)))
  o ?_ ?_ ?_ (λx=>{ tmps:=#[.func (.yield l) #[] #[],Y (O (aD bi 0)),Y (O (aD bk 0)),Y (O (aD (M (H W)) 0)),x.val,.func (.func gi) #[] ik,x.val,undef,undef,undef,undef,undef,undef,undef,undef,undef],defers:=[] }) ?assign ?body ?done
 .intro b a;exact⟨(C.o b a).1,by have:=(C.o b a).2;have:=H1.o;omega⟩
 .rintro pre u A B ⟨D,m,G,hc,L⟩ d;have h1:=H1.o;refine⟨HJ.o _ _ _ _ D (d.mono λb _ h=>h.imp id (by omega)),m.trans' d (λb a _=>.inr (by omega)),λb h=>(G b h).imp id (λh=>⟨h.1,by have:=d.size;omega⟩),ui hc d (.inr (by show M (H W)<_;omega)),L⟩
 .have h1:=H1.o;refine⟨HJ.o _ _ _ _ h0 (QB H2.o λb a h=>by rcases h with h|h;exact(C.o b h).2;exact h),QB H2.o (λb a _=>a),λb h=>.inl h,Fw,λh=>by have:=(C.o _ h).2;omega⟩
 case assign=>
  intro l x W K hK;gi_wp2;exact hK
 case body=>
  rintro l2 pre x u P ⟨D,m,G,v,L⟩ g hx ai aK;have h1:=H1.o;have X:=t.o.trans (m.below t.o.size (λi hi h=>by have:=(C.o i h).1;omega));have aF:=(X.cell (p:=(aD bk 0)) aA.o).trans F3.o;have d:=HK.o P x X hx.1 (lD g);obtain⟨HX,HF⟩:=aJ hx ai;have HP:Y3 _:=g;have aa:(pre++[x]).filter (λr=>p r.xs)=pre.filter (λr=>p r.xs)++if p x.xs then [x] else []:=by rw[QZ];cases R:p x.xs <;> simp[R]
  by_cases R:p x.xs=T
  .rw[R]at d;have HS:Y3 ((pre++[x]).filter (λr=>p r.xs)=pre.filter (λr=>p r.xs)++[x]):=by rw[aa,R];rfl
   have ax:Y3 _:=U3 p g R;gi_wp2;refine⟨trivial,rfl,Q4 l2 (QH.2 (d.mono ?_))⟩;rintro e Q ⟨rfl,k⟩;have f:Kept (λ_=>True) P Q:=QB k (λb a _=>a);have Py:=HJ.o _ _ _ _ D (f.mono (λ_ _ _=>trivial));have Gs:=ui v f trivial;obtain⟨fn,tmps,assign,body,hy,hR⟩:=HY.o _ x u Q Py ax.o (aj.keep HX.o f.size (λb a _=>f.block b a trivial)) (λb h=>⟨(HF.o b h).1,(HF.o b h).2.imp id (by omega)⟩) (by have:=m.size;have:=f.size;omega);have aG:(Instr.yield l #[x.val]).run V Q=.ok (.round l fn tmps assign body) Q:=hy;obtain⟨HG,wG,ak⟩:=dQ G m k;gi_wp2;refine⟨rfl,hR.mono ?_⟩;rintro e W4 ⟨rfl,o2,Nt,y,z⟩;have aH:=ak.o.size;have af:=(QB ak.o (λb a _=>a)).trans y;gi_wp2;refine⟨o2,⟨by rw[HS.o];exact Nt,wG.o.trans' af ?_,?_,?_,?_⟩,af,?_⟩
   .intro b a h j;rcases HG.o b j with j|j
    .exact h j
    .omega
   .intro b a;have aI:=y.size;rcases z b a with h|h|h
    .exact(HG.o b h).imp id (λh=>⟨h.1,by omega⟩)
    .exact .inr ⟨by omega,h.2⟩
    .exact .inr ⟨h.2,by have:=aj.zw HX.o h.1;omega⟩
   .exact ui Gs y L
   .intro h;rcases z _ h with h|h|h
    .exact L h
    .omega
    .rcases (HF.o _ h.1).2 with j|j
     .have:=t.o.size;omega
     .omega
   .intro b a;rcases z b a with h|h|h
    .exact .inl h
    .exact .inr (.inl ⟨by omega,h.2⟩)
    .refine .inr (.inr ⟨h.1,?_⟩);rcases (HF.o _ h.1).2 with j|j
     .have:=t.o.size;omega
     .exact j
  .have ag:p x.xs=false:=by simpa using R
   rw[ag]at d;have ay:(pre++[x]).filter (λr=>p r.xs)=pre.filter (λr=>p r.xs):=by rw[aa,ag];simp
   have HS:=Zh ay;gi_wp2;refine⟨trivial,rfl,Q4 l2 (QH.2 (d.mono ?_))⟩;rintro e Q ⟨rfl,k⟩;have f:Kept (λ_=>True) P Q:=QB k (λb a _=>a);have Py:=HJ.o _ _ _ _ D (f.mono (λ_ _ _=>trivial));have Gs:=ui v f trivial;obtain⟨HG,wG,zX⟩:=dQ G m f;gi_wp2;refine⟨λ_ h=>(by cases h),?_⟩;gi_wp2;exact⟨u,⟨by rw[HS.o];exact Py,wG.o.trans (zX.o.mono λ_ _ _=>trivial),λb h=>(HG.o b h).imp id (λh=>⟨h.1,by have:=zX.o.size;omega⟩),Gs,L⟩,zX.o.mono (λ_ _ _=>trivial),λb h=>.inl h⟩
 case done=>
  rintro ys o' P aB ⟨D,m,G,v,L⟩ aL aC hD;have h1:=H1.o;gi_wp2;have az:¬o' (M (H w1)):=λh=>by
   rcases aC _ h with h|h
   .have:=(C.o _ h).2;omega
   .omega
  have vO:Kept (λb=>b≠M (H w1)) P (P.putObj (M (H w1)) (.deferred xn)):=QC _ _ (λh=>h rfl);refine⟨by simp,.inl ⟨_,_,rfl,Q5 hD,?_⟩⟩;refine⟨_,Q6 rfl _ _ _,⟨_,rfl⟩,ys.filter (λr=>p r.xs),o',?_,HJ.o _ _ _ _ D (vO.mono λb _ h=>?_),m.trans' vO (λb a _=>by omega),λb h=>(G b h).imp id (λh=>⟨h.1,by rw[Q7];omega⟩)⟩
  .rw[<-aB,QY];rfl
  .rcases h with h|h
   .intro e;exact az (e ▸ h)
   .omega
end
def Q0:=@ui
section
theorem Kept.setCell{s:Nat->Prop}(W:U)(a:Addr)(v:X3)(hr:¬s a.block):Kept s W (W.setCell a v):=
 ⟨rfl,rfl,rfl,by simp[World.setCell],λk _ b=>Below.heap_setCell W a v k (λe=>hr (e ▸ b))⟩
def Kept.grown{s:Nat->Prop}{A B:U}{row:Option Nat}(hg:A.grownBy B row)(hr:∀r,row=O r->¬s r):Kept s A B:=
 ⟨hg.os,hg.tape,hg.output,hg.size,λk a b=>hg.block k a (λe=>hr k e.symm b)⟩
def uQ{A B:U}{base:Nat}{e:TypeId}{sz:Nat}{v:X3}{n:Nat}{xs:List X3}(h:A.ownsRow base e sz v n xs){s:Nat->Prop}(hk:Kept s A B)(hs:∀g,v.ownBlock=O g->s g):B.ownsRow base e sz v n xs:=by
 refine⟨h.1,?_⟩;rcases h.2 with h|⟨g,cap,a,rfl,d,b,f,i,j,k⟩
 .exact .inl h
 .exact .inr ⟨g,cap,a,rfl,d,(hk.block g (QI.1 b).1 (hs g rfl)).trans b,f,i,j,k⟩
theorem rG{A:U}{base:Nat}{e:TypeId}{sz:Nat}{v:X3}{n:Nat}{xs:List X3}(h:A.ownsRow base e sz v n xs){g:Nat}(hg:v.ownBlock=O g):base<=g/\g<M (H A):=by
 rcases h.2 with⟨rfl,_⟩|⟨g',cap,cur,rfl,hb,hg',_⟩
 .cases hg
 .cases hg
  grind
def tT{A:U}{base:Nat}{e:TypeId}{sz:Nat}{v:X3}{n:Nat}{xs:List X3}(h:A.ownsRow base e sz v n xs):∃a m cap,v=Z a m cap:=by
 rcases h.2 with⟨rfl,_⟩|⟨g',cap,cur,rfl,_⟩
 .exact⟨_,_,_,rfl⟩
 .exact⟨_,_,_,rfl⟩
def uj(Ez:El ae (List Int))(n:Nat)(v:X3)(pre:List ae)(b:Nat):Prop:=b=n∨v.ownBlock=O b∨(n<=b/\∃y∈pre,Ez.blk y=O b)
def wL(Ez:El ae (List Int))(n:Nat)(ys:List ae):Prop:=ys.Pairwise λy z=>∀b,Ez.blk y=O b->Ez.blk z=O b->b<n
structure fe(Ez:El ae (List Int))(n0:Nat)(w:U)(e:TypeId)(pre:List ae)(o1:Nat->Prop)(W:U)(v:X3):Prop where
 box:UK W (aD (M (H w)) 0)=O v
 Bl:W.frozen? (aD (M (H w)) 0)=F
 own:W.ownsRow (M (H w)+1) e 1 v (N pre) (pre.map ae.val)
 at':∀y∈pre,Ez.At y W
 off:∀y∈pre,∀b,Ez.blk y=O b->b≠M (H w)/\v.ownBlock≠O b
 apart:wL Ez (M (H w)) pre
 born:∀y∈pre,∀b,Ez.blk y=O b->b<n0∨M (H w)<=b
 below:Bw w W
 iff:∀b,o1 b↔uj Ez (M (H w)) v pre b
def fe.keep{Ez:El ae (List Int)}{n0:Nat}{w:U}{e:TypeId}{pre:List ae}{o1:Nat->Prop}{A B:U}{v:X3}(h:fe Ez n0 w e pre o1 A v){n:Nat}(hn:M (H w)<=n)(hk:Kept (λb=>o1 b∨b<n) A B):fe Ez n0 w e pre o1 B v:=by
 have d:=(h.iff _).2 (.inl rfl);refine⟨Q0 h.box hk (.inl d),(Zd (hk.block _ (QK h.box) (.inl d))).trans h.Bl,uQ h.own hk (λg j=>.inl ((h.iff _).2 (.inr (.inl j)))),λy f=>?_,h.off,h.apart,h.born,h.below.trans (hk.below h.below.size (λb i=>.inr (by omega))),h.iff⟩;refine Ez.keep (h.at' y f) hk.size (λb i a=>hk.block b i ?_);by_cases k:b<M (H w)
 .exact .inr (by omega)
 .exact .inl ((h.iff _).2 (.inr (.inr ⟨by omega,y,f,a⟩)))
def fe.Pf{Ez:El ae (List Int)}{pre:List ae}{o1:Nat->Prop}(h:fe Ez n0 w e pre o1 W v){x:ae}(hx:∀b,Ez.blk x=O b->¬o1 b) :
  (∀b,Ez.blk x=O b->b≠M (H w)/\v.ownBlock≠O b)/\wL Ez (M (H w)) (pre++[x]):=by
 refine⟨λb a=>⟨λe=>hx b a ((h.iff _).2 (.inl e)),λe=>hx b a ((h.iff _).2 (.inr (.inl e)))⟩,?_⟩;unfold wL;rw[Ze];refine⟨h.apart,Zf _ _,?_⟩;intro y i z g b a d;rw[Zg]at g;subst g;by_cases f:b<M (H w)
 .exact f
 .exact absurd ((h.iff _).2 (.inr (.inr ⟨by omega,y,i,a⟩))) (hx b d)
theorem fe.more{Ez:El ae (List Int)}{pre:List ae}{o1:Nat->Prop}{W1 W2:U}{v':X3}{x:ae}(h:fe Ez n0 w e pre o1 W v)(hx:Ez.At x W)(hoff:∀b,Ez.blk x=O b->¬o1 b)(hbn:∀b,Ez.blk x=O b->b<n0∨M (H w)<=b)
  (ha:Kept (λ_=>True) W W1) (hs1:M (H W1)=M (H W)+1) (hown:W2.ownsRow (M (H w)+1) e 1 v' (N pre+1) (pre.map ae.val++[x.val])) (hg:W1.grownBy W2 v.ownBlock) (hat:v'.ownBlock=v.ownBlock∨v'.ownBlock=O (M (H W1))) (h1:v'.oneCell' = T) :
  fe Ez n0 w e (pre++[x]) (uj Ez (M (H w)) v' (pre++[x])) (UC W2 (aD (M (H w)) 0) v') v'/\Kept (λb=>¬o1 b) W (UC W2 (aD (M (H w)) 0) v')/\
  ∀b,uj Ez (M (H w)) v' (pre++[x]) b->o1 b∨(M (H W)<=b/\b<M (H (UC W2 (aD (M (H w)) 0) v')))∨(Ez.blk x=O b/\M (H w)<=b):=by
 have z:M (H (UC W2 (aD (M (H w)) 0) v'))=M (H W2):=by simp[World.setCell]
 have n:∀g,v.ownBlock=O g->M (H w)+1<=g/\g<M (H W):=λg hg=>rG h.own hg;have p:∀g,v'.ownBlock=O g->M (H w)+1<=g/\g<M (H W2):=λg hg=>rG hown hg;have j:Kept (λb=>v.ownBlock≠O b) W W2:=(ha.mono λ_ _ _=>trivial).trans (Kept.grown hg (λr e B=>B e));have i:Kept (λb=>v.ownBlock≠O b/\b≠M (H w)) W (UC W2 (aD (M (H w)) 0) v'):=(j.mono λ_ _ h=>h.1).trans (Kept.setCell _ _ _ (λh=>h.2 rfl));obtain⟨k,t⟩:=h.Pf hoff;have l:∀b,b<M (H W)->v'.ownBlock=O b->v.ownBlock=O b:=λb d e=>by grind
 have q:=Q0 h.box j (λe=>by grind);refine⟨⟨?_,?_,?_,?_,?_,t,λy a=>?_,?_,λb=>QJ⟩,i.mono ?_,?_⟩
 .exact World.cell?_setCell_same' _ _ _ (by rw[q];rfl)
 .rw[World.frozen?_setCell];exact(Zd (j.block _ (QK h.box) (λe=>by grind))).trans h.Bl
 .have:=uQ hown (s:=λb=>b≠M (H w)) (Kept.setCell W2 (aD (M (H w)) 0) v' (λh=>h rfl)) (λg hg=>by have:=p g hg;omega)
  simpa using this
 .intro y a;rcases Zi.1 a with a|a
  .exact Ez.keep (h.at' y a) i.size (λb d f=>i.block b d ⟨(h.off y a b f).2,(h.off y a b f).1⟩)
  .rw[Zg]at a;subst a;exact Ez.keep hx i.size (λb d f=>i.block b d ⟨(k b f).2,(k b f).1⟩)
 .intro y a b d;have A:b<M (H W)/\b≠M (H w)/\v.ownBlock≠O b:=by
   rcases Zi.1 a with a|a
   .exact⟨Ez.zw (h.at' y a) d,h.off y a b d⟩
   .rw[Zg]at a;subst a;exact⟨Ez.zw hx d,k b d⟩
  grind
 .rcases Zi.1 a with a|a
  .exact h.born y a
  grind
 .exact h.below.trans (i.below (by have:=h.below.size;omega) (λb d=>⟨λe=>by have:=n b e;omega,by omega⟩))
 .intro b d m;exact⟨λe=>m ((h.iff _).2 (.inr (.inl e))),λe=>m ((h.iff _).2 (.inl e))⟩
 .rintro b (d|d|⟨d,y,a,f⟩)
  .exact .inl ((h.iff _).2 (.inl d))
  .by_cases u:b<M (H W)
   .exact .inl ((h.iff _).2 (.inr (.inl (l b u d))))
   grind
  .rcases Zi.1 a with a|a
   .exact .inl ((h.iff _).2 (.inr (.inr ⟨d,y,a,f⟩)))
   grind
attribute [local go_sem] Oper.semAt_some
def Tryz.Bn:(V.info? 22).map (λi=>(i.zero,i.size,i.bytes))=O (O (Z xn 0 0),1,24):=by kernel_rfl
def rH(Ez:El ae (List Int))(henc:∀x,Ez.enc x=x.val)(g:Nat)(lb:Array X3)(rows:List (List Int))(w0 w:U)(hb0:Bw w0 w)(hlen:N rows<=1000000)(hseq:Seq Ez V g lb rows w0)(eg:∀args w,(callFunc g args).run V w=.ok (.enter g args) w) :
  Calls V 30 #[.func (.func g) #[] lb] w λe w'=>∃v ys o,e=FN v/\ys.map Ez.key=rows/\fe Ez (M (H w0)) w 22 ys o w' v:=by
 obtain⟨i0,hi,R,S,X⟩:=Zj Tryz.Bn;obtain⟨HL,i⟩:=aJ hlen hb0;have m:Y3 (M (H (w.alloc (EP #[Z xn 0 0] 52)))=M (H w)+1):=by show _=_;simp
 have G:Y3 (Bw w (w.alloc (EP #[Z xn 0 0] 52))):=dN _ _;refine(QH (n:=0)).1 (Q3 Tryz.func30 rfl trivial ?_ rfl);simp only[Tryz.ntmps30,QN,QO,QP,Nat.reduceAdd,Nat.reduceSub,QQ,QR,QS,QT,QU,QV];gi_wp2;have d:fe Ez (M (H w0)) w 22 [] (uj Ez (M (H w)) (Z xn 0 0) []) (w.alloc (EP #[Z xn 0 0] 52)) (Z xn 0 0):=
  ⟨by simp,by simp,Zk _ _ _ _,λ_ h=>by simp at h,λ_ h=>by simp at h,Zl,λ_ h=>by simp at h,G.o,λ_=>QJ⟩
 obtain⟨w1,t⟩:=eX (w.alloc (EP #[Z xn 0 0] 52));rw[t]at d m G;rw[t];refine nI Ez (gf:=g) (lb:=lb) rfl eg hseq (i.o.trans (G.o.mono i.o.size)) rfl
  (λpre o1 W=>∃v,fe Ez (M (H w0)) w 22 pre o1 W v) (uj Ez (M (H w)) (Z xn 0 0) []) ?_ ?_ ⟨_,d⟩
  (λx=>{ tmps:=#[.func (.func g) #[] lb,undef,Z xn 0 0,Y (O (aD (M (H w)) 0)),x.val,.func (.func g) #[] lb,x.val,undef,undef,undef,undef,undef],defers:=[] }) ?assign ?body ?done
 .rintro b (h|h|⟨_,y,Q,_⟩)
  .have:=m.o;have:=i.o.size;omega
  .cases h
  .simp at Q
 .rintro pre o1 A B ⟨v,h⟩ hk;exact⟨v,h.keep (by have:=m.o;omega) hk⟩
 case assign=>
  intro l x W K hK;gi_wp2;exact hK
 case body=>
  rintro l pre x o1 W ⟨v,d⟩ k hx z ak;have ag:N pre+1<=1000000:=by have:=k.length_le;rw[Zm,Zn]at this;exact Qz this HL.o
  obtain⟨va,vn,vc,rfl⟩:=tT d.own;have hc:=d.box;have p:=d.own;obtain⟨HG,HX,HF⟩:=dQ d hx z;have HP:Y3 _:=k;have ah:=d.below.size;have L:=d.Bl;obtain⟨iZ,bL,fB⟩:=x;unfold ae.val;simp only;gi_wp2_with (gi_at_builtin;refine wpListIn_append_own_at _ rfl _ _ 52 rfl (M (H w)+1) 22 i0 (.slice xn 0 0) 1 24 Tryz.underlying52 hi R S X rfl (by decide) _ _ _ rfl (p.alloc _) (aD (M (H W)) 0) 1 1 [.slice iZ (N fB) bL] rfl rfl ?q1 ?q2 ?q3 ?q4 ?q5 ?_)
  case q1=>
   intro j u D
   match j,D with
   |0,D=>simp at D;subst D;simp[Addr.add]
  case q2=>intro u hu;simp at hu;subst hu;rfl
  case q3=>unfold maxLen;omega
  case q4=>omega
  case q5=>simp;omega
  intro v' w3 f a _ U4;obtain⟨au,av,ax,rfl⟩:=tT f;have Mz:=HG.o.more HX.o (λb C=>(HF.o b C).1) (λb C=>(HF.o b C).2.imp id (by have:=m.o;omega)) (QE _ _) (by simp) f a (by rw[Zo];exact U4) rfl;have h1:=m.o;have ai:UK w3 (aD (M (H w)) 0)=O (Z va vn vc):=by refine Q0 (Q0 hc (QE (s:=λ_=>True) W _) trivial) (Kept.grown (s:=λb=>(Value.slice va vn vc).ownBlock≠O b) a (λr e hr=>hr e)) ?_;intro e;have:=(rG HG.o.own e).1;exact absurd this (by show ¬(M (H w)+1<=M (H w));omega)
  have aj:w3.frozen? (aD (M (H w)) 0)=false:=by refine(Zd (Eq.trans (a.block _ (by simp;omega) ?_) (Below.heap_alloc W _ _ (by show M (H w)<_;omega)))).trans L;intro e;have:=(rG HG.o.own e.symm).1;exact absurd this (by show ¬(M (H w)+1<=M (H w));omega)
  have HM:=Zh Mz;gi_wp2;obtain⟨m1,m2,m3⟩:=HM.o;refine⟨_,⟨_,m1⟩,m2,λb C=>?_⟩;rcases m3 b C with h|h|⟨h,h'⟩
  .exact .inl h
  .exact .inr (.inl h)
  .refine .inr (.inr ⟨h,?_⟩);rcases (HF.o b h).2 with q|q
   .have:=i.o.size;omega
   .exact q
 case done=>
  rintro ys o' W2 aa ⟨v,d⟩ ay af hD;have hc:=d.box;have h1:=m.o;gi_wp2;have P:¬o' (M (H w1)):=λh=>by
   rcases af _ h with (h|h|⟨_,y,Q,_⟩)|h
   .omega
   .cases h
   .simp at Q
   .omega
  refine⟨by simp,.inl ⟨_,_,rfl,Q5 hD,?_⟩⟩;refine⟨_,results_tmp rfl _ _ _,v,ys,o',rfl,aa,d.keep (n:=M (H w1)) (by omega) (QC _ _ ?_)⟩;rintro (h|h)
  .exact P h
  .omega
end
def Q8:=@Kept.setCell
def Q9:=@Kept.grown
def Za:=@uQ
def Zb:=@rG
def Zc:=@tT
def Tryz.asa:(V.info? 3).map (λi=>(i.zero,i.size,i.bytes))=O (O (I J 0),1,8):=by kernel_rfl
def Kept.drewN{s:Nat->Prop}(W:U)(n:Nat):Kept s W (W.drewN n):=QB (Zr (Qm (M (H W)) W) n) (λ_ a _=>a)
def GB.alloc(w:U)(c:Array X3)(t:TypeId):GB (w.alloc (EP c t)) (M (H w)) t c:=pR w _
def GB.keep{s:Nat->Prop}(h:GB w G t c)(hk:Kept s w w')(hs:s G):GB w' G t c:=h.of (hk.block G h.lt hs)
theorem Kept.Nu{s:Nat->Prop}(h:Kept s A B)(hG:M (H A)<=G)(v:X3):Kept s A (UC B (aD G i) v):=
 ⟨h.os,h.tape,h.output,by have:=h.size;simp_all,λk a b=>(Below.heap_setCell B _ _ k (by grind)).trans (h.block k a b)⟩
def ig(B:Nat):Nat->List X3->U->U
 |_,[],W=>W
 |o,v::vs,W=>ig B (o+1) vs (UC W (aD B o) v)
def uk:Nat->List X3->Array X3->Array X3
 |_,[],c=>c
 |o,v::vs,c=>uk (o+1) vs (c.setIfInBounds o v)
def pG{B:Nat}{t:TypeId}:∀{vs:List X3} {o:Nat} {W:U} {c:Array X3},GB W B t c->GB (ig B o vs W) B t (uk o vs c)
 |[],_,_,_,h=>h
 |v::vs,o,_,_,h=>pG (vs:=vs) (o:=o+1) (h.set o v)
def kF{B:Nat}:∀(vs:List X3) (o:Nat) (W:U),Kept (λb=>b≠B) W (ig B o vs W)
 |[],_,_=>Qy _ _
 |_::vs,_,_=>(Q8 _ _ _ (λh=>h rfl)).trans (kF vs _ _)
def Zp:=@Kept.drewN
def Vh(v:Int):Bool:=decide (v=1073741824) ||(decide (-1000<=v)&&decide (v<=1000))
def P7(xs:List Int)(n:Int):Bool:=decide ((N xs:Int)=n)&&xs.all Vh
def Vi(rs:List ae)(n:Int):Bool:=rs.all λr=>P7 r.xs n
def P8(d:aP)(t:ah):Bool:=decide (N d.rs<=50)&&Vi d.rs t.cols
def zC(ts:List ah)(db:List aP):Bool:=(List.range (N db)).all λi=>P8 (E db i rz) (E ts i tz)
def gL(src:List Int)(db:List aP):Nat:=src.foldl (λn t=>n*max 1 (E db t.toNat rz).rs.length) 1
def sQ(ts:List ah)(src:List Int)(db:List aP):Bool:=decide (N db=N ts)&&zC ts db&&decide (gL src db<=20000)
def aif{n:Int}(h:P7 xs n=T):(N xs:Int)=n/\xs.all Vh=true:=by unfold P7 at h;simp_all
def GN{db:List aP}(hk:k<N src):gL (src.take (k+1)) db=gL (src.take k) db*max 1 (E db src[k].toNat rz).rs.length:=by unfold gL;rw[Qh hk,Xf];rfl
def NB{ts:List ah}{db:List aP}(h:zC ts db=T)(i:Nat):(E db i rz).rs.length<=50:=by
 by_cases a:i<N db
 .unfold zC at h;rw[Qk]at h;have:=h i (by simp_all);unfold P8 at this
  simp_all
 .have:E db i rz=rz:=by simp_all
  rw[this];decide
theorem aey{ts:List ah}{db:List aP}(h:zC ts db=T):gL src db<=50 ^ (N src):=by
 unfold gL;have d:∀(l:List Int) (n:Nat),l.foldl (λn t=>n*max 1 (E db t.toNat rz).rs.length) n<=n*50 ^ (N l):=by
  intro l
  induction l with
  |nil=>intro n;simp
  |cons a l ih =>
   intro n;refine Qz (ih _) ?_;have e:=NB h a.toNat;have b:max 1 (E db a.toNat rz).rs.length<=50:=by omega
   rw[QO,Nat.pow_succ,Nat.mul_comm (50 ^ (N l)) 50,<-Nat.mul_assoc];exact Nat.mul_le_mul_right _ (Nat.mul_le_mul_left _ b)
 grind
def P9{ts:List ah}{db:List aP}(h:zC ts db=T)(hs:N src<=5):gL src db<=312500000:=by have a:=aey (src:=src) h;have b:(50:Nat) ^ (N src)<=50 ^ 5:=ZI (by decide) hs;omega
theorem zD{ts:List ah}{db:List aP}(h:zC ts db=T)(hs:N src<=5)(k:Nat):gL (src.take k) db<=312500000:=
 P9 h (by grind)
def dK(a b:Int):Int:=if a=b then 0 else if a=1073741824 then -1 else if b=1073741824 then 1 else if a<b then -1 else 1
def dL(xs ys:List Int):List Int->Int
 |[]=>0
 |p::ps=>if dK (E xs p.toNat 0) (E ys p.toNat 0)=0 then dL xs ys ps else dK (E xs p.toNat 0) (E ys p.toNat 0)
def DI(ps xs ys:List Int):Bool:=decide (dL xs ys ps<0)
def fA(ps:List Int)(rows:List (List Int)):List (List Int):=mg (DI ps) [] rows
theorem qZ{a b:Int}:dK a b=0↔a=b:=by grind [dK]
theorem wY(a b:Int):dK b a = - dK a b:=by grind [dK]
theorem aad{a b c:Int}(h1:dK a b<=0)(h2:dK b c<=0):dK a c<=0:=by grind [dK]
theorem aih{a b c:Int}(h1:dK a b<=0)(h2:dK b c<=0)(h:dK a b≠0∨dK b c≠0):dK a c<0:=by grind [aad,wY]
theorem uA(xs ys:List Int):∀ps,dL ys xs ps = - dL xs ys ps
 |[]=>rfl
 |p::ps=>by unfold dL;rw[wY,uA xs ys ps];omega
theorem Ga{xs ys zs:List Int}:∀{ps},dL xs ys ps<=0->dL ys zs ps<=0->dL xs zs ps<=0
 |[],_,_=>by unfold dL;omega
 |p::ps,h1,h2=>by
  unfold dL at h1 h2 ⊢;generalize E xs p.toNat 0=a at*;generalize E ys p.toNat 0=b at*;generalize E zs p.toNat 0=c at*;by_cases e1:dK a b=0
  .by_cases e2:dK b c=0
   .have e3:dK a c=0:=by grind [qZ]
    rw[Zt e1]at h1;rw[Zt e2]at h2;rw[Zt e3];exact Ga h1 h2
   grind [dK]
  grind [dK]
theorem aii{zs:List Int}(h1:dL xs ys ps<0)(h2:dL ys zs ps<0):dL xs zs ps<0:=by grind [Ga,uA]
theorem Lt(ps:List Int):lG (DI ps):=by
 refine⟨λ{x y} h=>?_,λ{x y z} h1 h2=>?_,λ{x y z} h1 h2=>?_⟩
 .grind [DI,uA]
 .grind [DI,aii]
 grind [DI,uA,Ga]
section
variable {α β:Type} {lt:α->α->Bool} {lt':β->β->Bool} {f:α->β}
def GQ(h:∀a b,lt a b=lt' (f a) (f b))(x:α):∀r,(bS lt x r).map f=bS lt' (f x) (r.map f)
 |[]=>rfl
 |y::r=>by
  show (if lt x y=T then y::bS lt x r else x::y::r).map f=(if lt' (f x) (f y)=T then f y::bS lt' (f x) (r.map f) else f x::f y::r.map f);rw[<-h];split
  .rw[Xg,GQ h x r]
  .rfl
def aez(h:∀a b,lt a b=lt' (f a) (f b))(x:α)(r:List α):(lq lt x r).map f=lq lt' (f x) (r.map f):=by unfold lq;rw[List.map_reverse,GQ h,List.map_reverse]
def Vj(h:∀a b,lt a b=lt' (f a) (f b)):∀(B A:List α),(mg lt A B).map f=mg lt' (A.map f) (B.map f)
 |[],A=>rfl
 |b::B,A=>by rw[sP,Vj h B,aez h,Xg,sP]
end
def Vk(rows:List (List Int)):fA [] rows=rows:=by
 unfold fA;rw[GK (lt:=DI [])]
 .rfl
 .refine List.pairwise_of_forall ?_;intro a b;rfl
 simp_all
theorem DJ{r:List Int}:r∈fA ps rows↔r∈rows:=by grind [fA,Ad]
def DK(ps:List Int)(rows:List (List Int)):N (fA ps rows)=N rows:=by unfold fA;rw[qY];simp
theorem abl(hk:k<N ps)(h:∀j,j<k->dK (E xs (E ps j 0).toNat 0) (E ys (E ps j 0).toNat 0)=0):dL xs ys ps=dL xs ys (ps.drop k):=by
 induction k generalizing ps with
 |zero=>rfl
 |succ k ih =>
  cases ps with
  |nil=>simp at hk
  |cons p ps =>
   rw[List.drop_succ_cons,<-ih (by simp_all) (λj b=>by grind)];have a:=h 0 (by omega);grind [dL]
theorem aij(hk:k<N ps)(h:∀j,j<k->dK (E xs (E ps j 0).toNat 0) (E ys (E ps j 0).toNat 0)=0)(h0:dK (E xs (E ps k 0).toNat 0) (E ys (E ps k 0).toNat 0)≠0) :
  dL xs ys ps=dK (E xs (E ps k 0).toNat 0) (E ys (E ps k 0).toNat 0):=by
 have e:E ps k 0=ps[k]:=by simp_all
 rw[abl hk h,Xh hk];grind [dL]
def Ra{xs ys:List Int}:∀{ps:List Int},(∀j,j<N ps->dK (E xs (E ps j 0).toNat 0) (E ys (E ps j 0).toNat 0)=0)->dL xs ys ps=0
 |[],_=>rfl
 |p::ps,h=>by have h0:=h 0 (by simp);simp only[List.getD_cons_zero]at h0;have:dL xs ys (p::ps)=dL xs ys ps:=Zt h0;rw[this];exact Ra λj hj=>by have:=h (j+1) (by simp_all);simp_all
def au(xs cols:List Int):List Int:=cols.map λc=>E xs c.toNat 0
def dz(L R:List (List Int)):List (List Int):=L.flatMap λa=>R.map λb=>a++b
theorem GU(L R:List (List Int))(a:List Int):dz (L++[a]) R=dz L R++R.map (λb=>a++b):=by grind [dz]
theorem abm{L L' R:List (List Int)}(h:L <+: L'):dz L R <+: dz L' R:=by obtain⟨t,rfl⟩:=h;grind [dz]
def J4(s v:Int):Int:=if v=1073741824 then s else if s=1073741824 then v else s+v
def gH(ss row cols:List Int):List Int:=List.zipWith (λs c=>J4 s (E row c.toNat 0)) ss cols
theorem kH{ss row cols:List Int}(h:N ss=N cols):N (gH ss row cols)=N cols:=by simp[gH,h]
structure Gr where
 key:List Int
 cnt:Nat
 ss:List Int
def mr(row sc:List Int)(g:Gr):Gr:=⟨g.key,g.cnt+1,gH g.ss row sc⟩
def mD(key:List Int)(n:Nat):Gr:=⟨key,0,List.replicate n 1073741824⟩
def jE(ks:List (List Int))(key:List Int):Option Nat:=ks.findIdx? (λk=>decide (k=key))
def stepG(kc sc:List Int)(gs:List Gr)(row:List Int):List Gr:=
 match jE (gs.map Gr.key) (au row kc) with
 |some i=>gs.modify i (mr row sc)
 |none=>gs++[mr row sc (mD (au row kc) (N sc))]
def cO(kc sc:List Int):List Gr:=if kc=[] then [mD [] (N sc)] else []
def dW(kc sc:List Int)(rows:List (List Int)):List Gr:=rows.foldl (stepG kc sc) (cO kc sc)
def Gr.row(g:Gr):List Int:=g.key++[(g.cnt:Int)]++g.ss
def fu(db:List aP)(t:Int):List (List Int):=(E db t.toNat rz).rs.map (·.xs)
def qN:List (List (List Int))->List (List Int)
 |[]=>[]
 |t::ts=>ts.foldl dz t
theorem ND{t x:List (List Int)}{ts:List (List (List Int))}:qN (t::(ts++[x]))=dz (qN (t::ts)) x:=by grind [qN]
def bz(src:List Int)(db:List aP):List (List Int):=qN (src.map (fu db))
theorem BB{db:List aP}(hk:k+1<N src):bz (src.take (k+2)) db=dz (bz (src.take (k+1)) db) (fu db src[k+1]):=by
 unfold bz;rw[Qh hk,Qi]
 cases src with
 |nil=>simp at hk
 |cons a l =>
  grind [ND]
def lN(q:af)(rows:List (List Int)):List (List Int):=if q.group=T then (dW q.keys.xs q.sums.xs rows).map Gr.row else rows.map λr=>au r q.bE.xs
def pK(q:af)(db:List aP):List (List Int):=fA q.ord.xs (lN q ((bz q.src.xs db).filter (dR q.wh)))
theorem VE{P:Program}{Q:Exit->Act->U->Prop}{l:Nat}(hd:∀o∈ops,∀c,o.op ≠ .defer c)(hK:∀a w,K a w->K' a w)(h:wpOpIn Fence.wide 0 P ops Q i K a w):wpOpIn (Fence.wide.inRound l) 0 P ops Q i K' a w:=by
 unfold wpOpIn at*
 cases ho:ops[i]? with
 |none=>simp_all
 |some o =>
  rw[ho]at h;simp only at*;have f:=Array.mem_of_getElem? ho;by_cases j:Region.wanted o (yielded ops a.tmps)=T
  .rw[Zt j]at*;unfold Oper.wpIn at*;refine⟨h.1,?_⟩;have b:=h.2;rw[Oper.semAt_plain Fence.wide _ _ (hd o f)]at b;rw[Oper.semAt_plain (Fence.wide.inRound l) _ _ (hd o f)];generalize Sem.run P (execOp a.eval o) w=r at*;unfold Oper.uponIn at*;split at b
   .simp_all
   .simp_all
   .simp_all
   .exact⟨b.1,b.2.mono (λe g d=>by
     grind)⟩
   .exact⟨b.1,b.2.mono (λv g d=>hK _ _ d)⟩
   .exact⟨b.1,b.2.mono (λe g d=>by
     grind)⟩
   .exact b
   omega
  simp_all
def mW{P:Program}{md:Region.Mode}{ops:Array Oper}{Q:Exit->Act->U->Prop}{l:Nat}(hd:∀o∈ops,∀c,o.op ≠ .defer c):∀(fuel:Nat) (listed:Array Bool) (a:Act) (w:U),
  wpAnyIn Fence.wide 0 P md ops Q fuel listed a w->wpAnyIn (Fence.wide.inRound l) 0 P md ops Q fuel listed a w
 |0,_,_,_,h=>h
 |fuel+1,listed,a,w,h=>⟨h.1,λi b=>VE hd (λa' d e=>mW hd fuel _ a' d e) (h.2 i b)⟩
def NL(ops:Array Oper):Bool:=ops.all λo=>match o.op with|.defer _=>F|_=>T
theorem lV(h:NL ops=T):∀o∈ops,∀c,o.op ≠ .defer c:=by intro o a c b;unfold NL at h;rw[Array.all_eq_true_iff_forall_mem]at h;grind
def Kc{Fq:Fence}{P:Program}{o:Oper}{Q:Exit->Act->U->Prop}{Ez:Prop}(hgd:o.guard=xn)(s x:Operand)(t:TypeId)
  (ho:o.op=.call { callee:=.builtin .append,args:=#[s,x],argTypes:=#[t,t] }) (v u v':X3) (w':U) (hs:a.eval s=v) (hx:a.eval x=u)
  (hrun:(Builtin.append_ #[t,t] o.type #[v,u]).run P w=.ok v' w') (h:K (a.put o.dst v') w'):if Region.wanted o (yielded ops a.tmps)=T then Oper.wpIn Fq n P o a w K Q else Ez:=by
 have b:Region.wanted o (yielded ops a.tmps)=true:=by simp[Region.wanted,hgd]
 rw[Zt b];unfold Oper.wpIn;refine⟨by simp[Oper.about,ho,resolve,Target.leads,Sem.run_pure],?_⟩;rw[Oper.semAt_plain Fq _ _ (by simp_all)];simp[execOp,ho,resolve,invoke,builtin,hs,hx,hrun,Result.andThen];exact h
def step_append{P:Program}{ops:Array Oper}{o:Oper}{a:Act}{w:U}{K:Act->U->Prop}{Q:Exit->Act->U->Prop}{Ez:Prop}(hgd:o.guard=xn)(s x:Operand)(t:TypeId)
  (ho:o.op=.call { callee:=.builtin .append,args:=#[s,x],argTypes:=#[t,t] }) (v u v':X3) (w':U) (hs:a.eval s=v) (hx:a.eval x=u)
  (hrun:(Builtin.append_ #[t,t] o.type #[v,u]).run P w=.ok v' w') (h:K (a.put o.dst v') w'):if Region.wanted o (yielded ops a.tmps)=T then Oper.wp P o a w K Q else Ez:=by
 have b:Region.wanted o (yielded ops a.tmps)=true:=by simp[Region.wanted,hgd]
 rw[Zt b];unfold Oper.wp;simp[execOp,ho,resolve,invoke,builtin,hs,hx,hrun,Result.andThen];exact h
def XJ:=@step_append
def aeh(hx:Bw W x)(b o:Nat)(h:(UK W (aD b o)).isSome=T):UK x (aD b o)=UK W (aD b o):=by obtain⟨v,a⟩:=Option.isSome_iff_exists.1 h;rw[a,cB hx a]
def Wq(p:Prop):Prop:=p
theorem Wq.o(h:Wq p):p:=h
def ah6 [Decidable p] (h:¬p) (k:Value.bool F=v):Value.bool (decide p)=v:=by rw[Qw h];exact k
def ah7 [Decidable p] (h:p) (k:Value.bool T=v):Value.bool (decide p)=v:=by rw[Qx h];exact k
def tQ(_:Nat):Prop:=True
def tQ.s(_:tQ i):tQ (i+1):=trivial
theorem wa{P:Program}{Q:Exit->Act->World->Prop}(_:tQ i)(hS:Bw W w)(h:wpAnyH P md ops Q (λx=>Bw W x) fuel (listed.setIfInBounds i true) (a.put (some k) v) w)(hi:ops[i]? = some oi:=by exact rfl)(hk:oi.dst=some k:=by exact rfl)(hs:Region.noSelect ops=true:=by kernel_rfl)(hf:Region.free md ops listed i=true:=by kernel_rfl)(hr:(Region.ready md ops listed).contains i=true:=by kernel_rfl)(hQ:∀c a w,Q (.panic c) (a.put oi.dst v) w->Q (.panic c) a w:=by first|exact λ_ _ _ h=>h|exact λ_ _ _ h=>by cases h.1)(hg:Region.wanted oi (yielded ops a.tmps)=true:=by rfl)(hy:∀x,Bw W x->(execOp a.eval oi).run P x=.ok (.value v) x:=by intro x hx;have hc:=aeh hx;go_simp;first|done|(refine ah6 ?_ rfl;omega)|(refine ah7 ?_ rfl;omega)|rfl):wpAnyH P md ops Q (λx=>Bw W x) (fuel+1) listed a w:=
 Qa hi hs hf hr hQ (.inl ⟨hg,hy⟩) hS (by rw[hk];exact h)
theorem wb{P:Program}{Q:Exit->Act->World->Prop}(_:tQ i)(hS:Bw W w)(h:wpAnyH P md ops Q (λx=>Bw W x) fuel (listed.setIfInBounds i true) (a.put (some k) v) w)(hi:ops[i]? = some oi:=by exact rfl)(hk:oi.dst=some k:=by exact rfl)(hs:Region.noSelect ops=true:=by kernel_rfl)(hf:Region.free md ops listed i=true:=by kernel_rfl)(hr:(Region.ready md ops listed).contains i=true:=by kernel_rfl)(hQ:∀c a w,Q (.panic c) (a.put oi.dst v) w->Q (.panic c) a w:=by first|exact λ_ _ _ h=>h|exact λ_ _ _ h=>by cases h.1)(hg:Region.wanted oi (yielded ops a.tmps)=true:=by kernel_rfl)(hy:∀x,Bw W x->(execOp a.eval oi).run P x=.ok (.value v) x:=by intro x hx;have hc:=aeh hx;go_simp;first|done|(refine ah6 ?_ rfl;omega)|(refine ah7 ?_ rfl;omega)|rfl):wpAnyH P md ops Q (λx=>Bw W x) (fuel+1) listed a w:=
 Qa hi hs hf hr hQ (.inl ⟨hg,hy⟩) hS (by rw[hk];exact h)
def wu{P:Program}{Q:Exit->Act->World->Prop}(_:tQ i)(hS:S w)(h:wpAnyH P md ops Q S fuel (listed.setIfInBounds i true) (a.put (some k) undef) w)(hi:ops[i]? = some oi:=by exact rfl)(hk:oi.dst=some k:=by exact rfl)(hs:Region.noSelect ops=true:=by kernel_rfl)(hf:Region.free md ops listed i=true:=by kernel_rfl)(hr:(Region.ready md ops listed).contains i=true:=by kernel_rfl)(hQ:∀c a w,Q (.panic c) (a.put oi.dst undef) w->Q (.panic c) a w:=by first|exact λ_ _ _ h=>h|exact λ_ _ _ h=>by cases h.1)(hg:Region.wanted oi (yielded ops a.tmps)=false:=by kernel_rfl):wpAnyH P md ops Q S (fuel+1) listed a w:=
 Qa hi hs hf hr hQ (.inr ⟨hg,rfl⟩) hS (by rw[hk];exact h)
def sN(i:Nat)(s:C)(k:Q)(h:tQ i->C->Wq Q->P:=by
  intro a b d;refine wa a b ?_;try simp only[pU]
  exact d.o):P:=h trivial s k
def wA2(i:Nat)(s:C)(k:Q)(h:tQ i->C->Wq Q->P:=by
  intro a b d;refine wa a b ?_;refine wa a.s b ?_;try simp only[pU]
  exact d.o):P:=h trivial s k
def wA3(i:Nat)(s:C)(k:Q)(h:tQ i->C->Wq Q->P:=by
  intro a b d;refine wa a b ?_;refine wa a.s b ?_;refine wa a.s.s b ?_;try simp only[pU]
  exact d.o):P:=h trivial s k
def wA4(i:Nat)(s:C)(k:Q)(h:tQ i->C->Wq Q->P:=by
  intro a b d;refine wa a b ?_;refine wa a.s b ?_;refine wa a.s.s b ?_;refine wa a.s.s.s b ?_;try simp only[pU]
  exact d.o):P:=h trivial s k
def wA5(i:Nat)(s:C)(k:Q)(h:tQ i->C->Wq Q->P:=by
  intro a b d;refine wa a b ?_;refine wa a.s b ?_;refine wa a.s.s b ?_;refine wa a.s.s.s b ?_;refine wa a.s.s.s.s b ?_;try simp only[pU]
  exact d.o):P:=h trivial s k
def wA6(i:Nat)(s:C)(k:Q)(h:tQ i->C->Wq Q->P:=by
  intro a b d;refine wa a b ?_;refine wa a.s b ?_;refine wa a.s.s b ?_;refine wa a.s.s.s b ?_;refine wa a.s.s.s.s b ?_;refine wa a.s.s.s.s.s b ?_;try simp only[pU]
  exact d.o):P:=h trivial s k
def wA8(i:Nat)(s:C)(k:Q)(h:tQ i->C->Wq Q->P:=by
  intro a b d;refine wa a b ?_;refine wa a.s b ?_;refine wa a.s.s b ?_;refine wa a.s.s.s b ?_;refine wa a.s.s.s.s b ?_;refine wa a.s.s.s.s.s b ?_;refine wa a.s.s.s.s.s.s b ?_;refine wa a.s.s.s.s.s.s.s b ?_;try simp only[pU]
  exact d.o):P:=h trivial s k
def U1(i:Nat)(s:C)(k:Q)(h:tQ i->C->Wq Q->P:=by
  intro a b d;refine wa a b ?_;refine wa a.s b ?_;refine wa a.s.s b ?_;refine wa a.s.s.s b ?_;refine wa a.s.s.s.s b ?_;refine wa a.s.s.s.s.s b ?_;refine wa a.s.s.s.s.s.s b ?_;refine wa a.s.s.s.s.s.s.s b ?_;refine wa a.s.s.s.s.s.s.s.s b ?_;refine wa a.s.s.s.s.s.s.s.s.s b ?_;try simp only[pU]
  exact d.o):P:=h trivial s k
def wB1(i:Nat)(s:C)(k:Q)(h:tQ i->C->Wq Q->P:=by
  intro a b d;refine wb a b ?_;try simp only[pU]
  exact d.o):P:=h trivial s k
def wB2(i:Nat)(s:C)(k:Q)(h:tQ i->C->Wq Q->P:=by
  intro a b d;refine wb a b ?_;refine wb a.s b ?_;try simp only[pU]
  exact d.o):P:=h trivial s k
def wB3(i:Nat)(s:C)(k:Q)(h:tQ i->C->Wq Q->P:=by
  intro a b d;refine wb a b ?_;refine wb a.s b ?_;refine wb a.s.s b ?_;try simp only[pU]
  exact d.o):P:=h trivial s k
def wB4(i:Nat)(s:C)(k:Q)(h:tQ i->C->Wq Q->P:=by
  intro a b d;refine wb a b ?_;refine wb a.s b ?_;refine wb a.s.s b ?_;refine wb a.s.s.s b ?_;try simp only[pU]
  exact d.o):P:=h trivial s k
def wB6(i:Nat)(s:C)(k:Q)(h:tQ i->C->Wq Q->P:=by
  intro a b d;refine wb a b ?_;refine wb a.s b ?_;refine wb a.s.s b ?_;refine wb a.s.s.s b ?_;refine wb a.s.s.s.s b ?_;refine wb a.s.s.s.s.s b ?_;try simp only[pU]
  exact d.o):P:=h trivial s k
def wB9(i:Nat)(s:C)(k:Q)(h:tQ i->C->Wq Q->P:=by
  intro a b d;refine wb a b ?_;refine wb a.s b ?_;refine wb a.s.s b ?_;refine wb a.s.s.s b ?_;refine wb a.s.s.s.s b ?_;refine wb a.s.s.s.s.s b ?_;refine wb a.s.s.s.s.s.s b ?_;refine wb a.s.s.s.s.s.s.s b ?_;refine wb a.s.s.s.s.s.s.s.s b ?_;try simp only[pU]
  exact d.o):P:=h trivial s k
def wS2(i:Nat)(s:C)(k:Q)(h:tQ i->C->Wq Q->P:=by
  intro a b d;refine wu a b ?_;refine wu a.s b ?_;try simp only[pU]
  exact d.o):P:=h trivial s k
def wS3(i:Nat)(s:C)(k:Q)(h:tQ i->C->Wq Q->P:=by
  intro a b d;refine wu a b ?_;refine wu a.s b ?_;refine wu a.s.s b ?_;try simp only[pU]
  exact d.o):P:=h trivial s k
def wS4(i:Nat)(s:C)(k:Q)(h:tQ i->C->Wq Q->P:=by
  intro a b d;refine wu a b ?_;refine wu a.s b ?_;refine wu a.s.s b ?_;refine wu a.s.s.s b ?_;try simp only[pU]
  exact d.o):P:=h trivial s k
def wS6(i:Nat)(s:C)(k:Q)(h:tQ i->C->Wq Q->P:=by
  intro a b d;refine wu a b ?_;refine wu a.s b ?_;refine wu a.s.s b ?_;refine wu a.s.s.s b ?_;refine wu a.s.s.s.s b ?_;refine wu a.s.s.s.s.s b ?_;try simp only[pU]
  exact d.o):P:=h trivial s k
def wS9(i:Nat)(s:C)(k:Q)(h:tQ i->C->Wq Q->P:=by
  intro a b d;refine wu a b ?_;refine wu a.s b ?_;refine wu a.s.s b ?_;refine wu a.s.s.s b ?_;refine wu a.s.s.s.s b ?_;refine wu a.s.s.s.s.s b ?_;refine wu a.s.s.s.s.s.s b ?_;refine wu a.s.s.s.s.s.s.s b ?_;refine wu a.s.s.s.s.s.s.s.s b ?_;try simp only[pU]
  exact d.o):P:=h trivial s k
def wE(k:Q)(h:Wq Q->P:=by
  intro a;refine wD ?_;simp only[Act.put,List.getElem_toArray,List.getElem_cons_succ,List.getElem_cons_zero,Qu,Qb,Qc];exact a.o):P:=h k
def qx{p r:Value->Prop}(k:r v)(h:p v:=by intro x hx;have hc:=aeh hx;go_simp;first|done|(refine ah6 ?_ rfl;omega)|(refine ah7 ?_ rfl;omega)|rfl):∃v,p v/\r v:=⟨v,h,k⟩
def qA1(k:Q)(h:Wq Q->P:=by
  intro a;go_big_quiet_want;refine qx ?_;simp only[pU];go_big_quiet_on;exact a.o):P:=h k
def K4(k:Q)(h:Wq Q->P:=by
  intro a;iterate 2
   go_big_quiet_want;refine qx ?_;simp only[pU];go_big_quiet_on
  exact a.o):P:=h k
def qA3(k:Q)(h:Wq Q->P:=by
  intro a;iterate 3
   go_big_quiet_want;refine qx ?_;simp only[pU];go_big_quiet_on
  exact a.o):P:=h k
def qA5(k:Q)(h:Wq Q->P:=by
  intro a;iterate 5
   go_big_quiet_want;refine qx ?_;simp only[pU];go_big_quiet_on
  exact a.o):P:=h k
def qA6(k:Q)(h:Wq Q->P:=by
  intro a;iterate 6
   go_big_quiet_want;refine qx ?_;simp only[pU];go_big_quiet_on
  exact a.o):P:=h k
def qA8(k:Q)(h:Wq Q->P:=by
  intro a;iterate 8
   go_big_quiet_want;refine qx ?_;simp only[pU];go_big_quiet_on
  exact a.o):P:=h k
def ah9(k:Q)(h:Wq Q->P:=by
  intro a;iterate 10
   go_big_quiet_want;refine qx ?_;simp only[pU];go_big_quiet_on
  exact a.o):P:=h k
def qK(v:X3)(c:C)(k:Q)(h:IsV v->C->Q->P:=by
  intro b c d;go_big_quiet_want;refine alC b ⟨λx a=>?_,?_⟩
  .have e:=Calls.within a (c x a);go_simp
  .simp only[pU];go_big_quiet_on;exact d):P:=h trivial c k
