import Derived.Deep.RegionHeld
import Derived.WalkKit
import Derived.Deep.QuietTactic
import Derived.BigQuiet
import Derived.WalkSmall
import Derived.Laws.CopyOwn
import Derived.Deep.OwnRows
import Derived.Laws.BitsAllLaws
import Derived.RangeFuncRecord
import Derived.RangeFuncBound
import Derived.RangeFuncCalls
import Derived.RangeFuncLeaves
import Derived.Below
import Derived.RangeFuncNested
import Derived.Shelf.Abstract
import Derived.OwnWalkIn
import Derived.TacticsInMore
import Derived.LoopNIn
import Derived.LoopIn
import Derived.Test.YtibkmjbegbjgcaaGreatDoorProg
import Derived.Maps.OwnIn
import Derived.Maps.AppendAt
import Derived.OwnWalk
import Derived.Shelf.Spec.SlicesGrow
import Derived.Laws.AppendOwnNone
import Derived.Shelf.RegionOpen
import Derived.Deep.AppendLies
import Derived.RegionTactic
import Derived.Deep.RegionHeld3
import Derived.Deep.RegionLaw
import Derived.Deep.DrawnRows
import Derived.Laws.ShiftsVarLaws
import Derived.Shelf.Bits.Mul64
import Derived.Shelf.Strconv.Itoa0
import Derived.OrdersHeld
import Derived.Lib.SliceRun
import Derived.RegionCalls
import Derived.Sort.CutIn
import Derived.WideKeyPair
import Derived.Maps.Views
import Derived.Deep.Cut
import Derived.Deep.CutRange
import Derived.Laws.ResultCell
import Derived.Laws.MakeOwn
import Derived.LaidEqlPtr
import Derived.BigRegion
import Derived.Laws.IdiomCopy
import Derived.Lib.AppendZerosOnto
import Derived.Lib.Overlaps
import Derived.Shelf.Spec.SlicesInsert
import Derived.Laws.Externs
import Derived.Conc.LoneSelect
set_option linter.all false
set_option maxRecDepth 100000
set_option maxHeartbeats 0
namespace Go.RowKit
theorem Hid.o{p:Prop}(h:Hid p):p:=h
end Go.RowKit
namespace Go
theorem Shut.o{p:Prop}(h:Shut p):p:=h
end Go
namespace Go.Proofs.Zz
open Go.RowKit Go.Shelf
def X{p:Prop}(h:p:=by omega):p:=h
def Qa{p:Prop}(h:p:=by simp):p:=h
def Qb{p:Prop}(h:p:=by grind):p:=h
def Qc{p:Prop}(h:p:=by decide):p:=h
def Qd{p:Prop}(h:p:=by kernel_rfl):p:=h
def Qe{p:Prop}(h:p:=by go_num):p:=h
def Qf{p:Prop}(h:p:=by simp_all):p:=h
def Qg{p:Prop}(h:p:=by unfold wrap64;omega):p:=h
def Qh{p:Prop}(h:p:=by unfold maxLen;omega):p:=h
def Qi{p:Prop}(h:p:=by rfl):p:=h
def Qj{p:Prop}(h:p:=by simp;omega):p:=h
def Qk{a p:Prop}(h:a)(k:a->p:=by omega):p:=k h
def Ql{a b p:Prop}(h:a)(i:b)(k:a->b->p:=by omega):p:=k h i
def XK{p:Prop}(h:p:=by simp[intOf];omega):p:=h
abbrev PN:=Option Addr
abbrev Qx:=List Int
abbrev Qy:=List
abbrev Qz:=Nat->Prop
open List renaming length->N,getD->E
open Go.Value renaming slice->Z,int->I,bool->Qr
open Go.Proofs.Tryz renaming prog->V
open Option renaming some->O,none->Qs
open Go.IntKind renaming i64->J
open Bool renaming false->F,true->T
open Go renaming World->U,Value->Qm
open Go.World renaming heap->H,cell?->Qp
open _root_.Array renaming size->M
open Go.RowKit renaming Hid->Qn
open Go.Obj renaming cells->Qt
open Go.Ending renaming returned->Qv
variable {α:Type} {P:Program} {ops:Array Oper} {C Q p p0 p1 p2 p3 p4 p5:Prop} {md:Region.Mode} {S:U->Prop} {G b b0 b1 b2 b3 b4 b5 b6 b7 base fuel i k o0 o1 o2 o3 o4 o5 o6 o7:Nat} {listed:Array Bool} {a:Act} {W w w' w1 x:U} {oi:Oper} {n:Int} {xs:Qx} {u v v0 v1 v10 v11 v12 v2 v3 v4 v5 v6 v7 v8 v9:Qm} {e t:TypeId} {c:Array Qm} {K' Xq:Act->U->Prop}
def eX(a:α):∃z,a=z:=⟨a,rfl⟩
def eY(a:α):∃z,z=a:=⟨a,rfl⟩
@[reducible] def Bw (w x:U):Prop:=RowKit.Below (M (H w)) w x
def QV:=@Go.wpAnyH_take
def QW:=@List.set_cons_succ.{0}
def QX:=@List.set_cons_zero.{0}
def Q4:=@List.take_succ_eq_append_getElem.{0}
def Q5:=@List.map_append.{0,0}
def Q6:=@Bool.and_eq_true
def Q7:=@List.all_eq_true.{0}
def Q9:=@Go.RowKit.Below.refl
def Za:=@Nat.le_refl
def Zb:=@if_pos.{1}
def Zc:=@List.getElem_of_mem.{0}
def Zf:=@decide_eq_true_eq
def Zg:=@if_neg.{1}
def Zi:=@decide_eq_true
def Zj:=@Bool.true_and
def Zk:=@List.eq_nil_of_length_eq_zero.{0}
def Zn:=@List.setIfInBounds_toArray.{0}
def Zo:=@Go.wp_region_held_drew
def Zp:=@Option.isSome_iff_exists.{0}
def Zr:=@decide_eq_false
def Zt:=@List.getElem_toArray.{0}
def Zu:=@List.getElem_cons_succ.{0}
def Zv:=@List.getElem_cons_zero.{0}
def Zw:=@List.foldl_cons.{0,0}
def Zx:=@Nat.testBit_lt_two_pow
def Zy:=@Nat.lt_of_lt_of_le
def ZA:=@Nat.pow_le_pow_right
def ZB:=@Nat.zero_le
def ZC:=@Nat.zero_add
def ZE:=@List.range_succ
def ZF:=@List.flatMap_append.{0,0}
def ZG:=@List.length_append.{0}
def ZH:=@List.length_map.{0,0}
def ZI:=@List.length_range
def ZJ:=@List.take_length.{0}
def ZK:=@List.length_cons.{0}
def ZL:=@List.mem_map.{0,0}
def ZM:=@List.foldl_append.{0,0}
def ZN:=@Nat.le_trans
def ZR:=@Go.World.putObj_heap_other
def ZU:=@Go.callsIn_wide
def ZV:=@Array.getElem?_eq_some_iff.{0}
def ZX:=@Go.World.cell?_of_block
def ZY:=@Go.Oper.semAt_some
def ZZ:=@List.size_toArray.{0}
def Z0:=@List.length_nil.{0}
def Z4:=@Array.replicate_succ.{0}
def Z5:=@Array.replicate_zero.{0}
def Z6:=@List.push_toArray.{0}
def Z7:=@List.append_toArray.{0}
def Z8:=@List.nil_append.{0}
def Z9:=@List.cons_append.{0}
def Xb:=@Go.callsIn_of_wp_marks
def Xc:=@Go.run_takeDeferred
def Xi:=@Go.World.frozen?_of_block
def Xj:=@List.mem_singleton.{0}
def Xk:=@List.mem_append.{0}
def Xl:=@Go.info_parts
def Xm:=@Go.World.ownsRow_nil
def Xo:=@Go.World.size_alloc
def Xr:=@List.getElem?_eq_some_iff.{0}
def Xt:=@List.getElem?_map.{0,0}
def Xu:=@List.getElem?_eq_getElem.{0}
def Xv:=@Int.toNat_natCast
def XA:=@Go.run_append_own_at
def XB:=@Go.World.news_of_block
def XE:=@List.flatMap_cons.{0,0}
def XG:=@List.getElem?_take.{0}
def XH:=@Nat.add_zero
def XJ:=@List.mem_cons_of_mem.{0}
def XL:=@List.mem_cons_self.{0}
def XN:=@Nat.pow_lt_pow_right
def XO:=@List.getElem_mem.{0}
def XP:=@Nat.or_lt_two_pow
def XQ:=@List.take_of_length_le.{0}
def XR:=@Int.eq_ofNat_of_zero_le
def XT:=@List.length_take.{0}
def XU:=@Bool.eq_iff_iff
def XV:=@Nat.lt_or_ge
def XW:=@beq_eq_false_iff_ne.{0}
def XX:=@Go.Calls.mono
def XZ:=@Go.wpQuiet_nil
def X0:=@List.append_nil.{0}
def X5:=@List.mem_flatMap.{0,0}
def X6:=@List.append_assoc.{0}
def X8:=@Go.bodyPost_ret
def X9:=@List.getElem?_eq_none.{0}
def Ja:=@Go.Lib.run_eql_slice_nil
def Je:=@List.getD_eq_getElem?_getD.{0}
def Jg:=@Nat.add_assoc
def Jh:=@List.length_set.{0}
def Jj:=@of_decide_eq_true
def Jk:=@Array.getElem?_setIfInBounds.{0}
def Jm:=@And.intro
def Jn:=@Array.setIfInBounds_setIfInBounds.{0}
def Jr:=@Go.results_cell_row
def Jt:=@List.length_singleton.{0}
def Jv:=@Array.getElem?_append_left.{0}
def Jw:=@List.length_replicate.{0}
def wT{Q:Exit->Act->World->Prop}(i:Nat)(v:Value)(hS:S w)(hy:∀x,S x->(execOp a.eval oi).run P x=.ok (.value v) x)(h:wpAnyH P md ops Q S fuel (listed.setIfInBounds i true) (a.put oi.dst v) w)(hi:ops[i]? = some oi:=by exact rfl)(hs:Region.noSelect ops=true:=by kernel_rfl)(hf:Region.free md ops listed i=true:=by kernel_rfl)(hr:(Region.ready md ops listed).contains i=true:=by kernel_rfl)(hQ:∀c a w,Q (.panic c) (a.put oi.dst v) w->Q (.panic c) a w:=by exact λ_ _ _ h=>h)(hg:Region.wanted oi (yielded ops a.tmps)=true:=by rfl):wpAnyH P md ops Q S (fuel+1) listed a w:=
 QV hi hs hf hr hQ (.inl ⟨hg,hy⟩) hS h
def wG{Q:Exit->Act->World->Prop}(i:Nat)(v:Value)(hS:S w)(hy:∀x,S x->(execOp a.eval oi).run P x=.ok (.value v) x)(h:wpAnyH P md ops Q S fuel (listed.setIfInBounds i true) (a.put oi.dst v) w)(hi:ops[i]? = some oi:=by exact rfl)(hs:Region.noSelect ops=true:=by kernel_rfl)(hf:Region.free md ops listed i=true:=by kernel_rfl)(hr:(Region.ready md ops listed).contains i=true:=by kernel_rfl)(hQ:∀c a w,Q (.panic c) (a.put oi.dst v) w->Q (.panic c) a w:=by exact λ_ _ _ h=>h)(hg:Region.wanted oi (yielded ops a.tmps)=true:=by kernel_rfl):wpAnyH P md ops Q S (fuel+1) listed a w:=
 QV hi hs hf hr hQ (.inl ⟨hg,hy⟩) hS h
def wN{Q:Exit->Act->World->Prop}(i:Nat)(v:Value)(hS:S w)(hy:∀x,S x->(execOp a.eval oi).run P x=.ok (.value v) x)(h:wpAnyH P md ops Q S fuel (listed.setIfInBounds i true) (a.put oi.dst v) w)(hi:ops[i]? = some oi:=by exact rfl)(hs:Region.noSelect ops=true:=by kernel_rfl)(hf:Region.free md ops listed i=true:=by kernel_rfl)(hr:(Region.ready md ops listed).contains i=true:=by kernel_rfl)(hQ:∀c a w,Q (.panic c) (a.put oi.dst v) w->Q (.panic c) a w:=by exact λ_ _ _ h=>by cases h.1)(hg:Region.wanted oi (yielded ops a.tmps)=true:=by rfl):wpAnyH P md ops Q S (fuel+1) listed a w:=
 QV hi hs hf hr hQ (.inl ⟨hg,hy⟩) hS h
def wU{Q:Exit->Act->World->Prop}(i:Nat)(hS:S w)(h:wpAnyH P md ops Q S fuel (listed.setIfInBounds i true) (a.put oi.dst undef) w)(hi:ops[i]? = some oi:=by exact rfl)(hs:Region.noSelect ops=true:=by kernel_rfl)(hf:Region.free md ops listed i=true:=by kernel_rfl)(hr:(Region.ready md ops listed).contains i=true:=by kernel_rfl)(hQ:∀c a w,Q (.panic c) (a.put oi.dst undef) w->Q (.panic c) a w:=by exact λ_ _ _ h=>h)(hg:Region.wanted oi (yielded ops a.tmps)=false:=by kernel_rfl):wpAnyH P md ops Q S (fuel+1) listed a w:=
 QV hi hs hf hr hQ (.inr ⟨hg,rfl⟩) hS h
def wV{Q:Exit->Act->World->Prop}(i:Nat)(hS:S w)(h:wpAnyH P md ops Q S fuel (listed.setIfInBounds i true) (a.put oi.dst undef) w)(hi:ops[i]? = some oi:=by exact rfl)(hs:Region.noSelect ops=true:=by kernel_rfl)(hf:Region.free md ops listed i=true:=by kernel_rfl)(hr:(Region.ready md ops listed).contains i=true:=by kernel_rfl)(hQ:∀c a w,Q (.panic c) (a.put oi.dst undef) w->Q (.panic c) a w:=by exact λ_ _ _ h=>h)(hg:Region.wanted oi (yielded ops a.tmps)=false:=by rfl):wpAnyH P md ops Q S (fuel+1) listed a w:=
 QV hi hs hf hr hQ (.inr ⟨hg,rfl⟩) hS h
def wR{Q:Exit->Act->World->Prop}(i:Nat)(h:∀K':Act->World->Prop,Shut (∀a w,S w->(S w->wpAnyH P md ops Q S fuel (listed.setIfInBounds i true) a w)->K' a w)->if Region.wanted oi (yielded ops a.tmps)=true then Oper.wp P oi a w K' Q else K' (a.put oi.dst undef) w)(hi:ops[i]? = some oi:=by exact rfl)(hr:Region.ready md ops listed=[i]:=by kernel_rfl):wpAnyH P md ops Q S (fuel+1) listed a w:=
 wpAnyH_ready hr Qa (AllReadyH.cons hi h AllReadyH.nil)
@[reducible] def aD (b o : Nat) : Addr := ⟨b, o, Qs⟩
def sB{α : Type}{x : α}{l : List α}{n : Nat}{a : α} : (x :: l).set (n + 1) a = x :: l.set n a := QW
def sC{α : Type}{x : α}{l : List α}{a : α} : (x :: l).set 0 a = a :: l := QX
def Vj{a b:Bool}(h:a=b):Ending.returned (Qr a)=Qv (Qr b):=by rw[h]
def aaV{k:IntKind}{a b:Int}(h:a=b):Ending.returned (I k a)=Qv (I k b):=by rw[h]
def bg(w:U)(ao:PN)(n:Nat)(f:Nat->Qm):Prop:=
 ∀i,i<n->∃b off,ao=O (aD b off)/\Qp w (aD b (off+i))=O (f i)
def bg.get{w:U}{ao:PN}{n:Nat}{f:Nat->Qm}(h:bg w ao n f){i:Nat}(hi:i<n) :
  ∃b a,ao=O (aD b a)/\∀j,j<n->Qp w (aD b (a+j))=O (f j):=by obtain⟨b,a,rfl,_⟩:=h i hi;refine⟨b,a,rfl,λj d=>?_⟩;obtain⟨g,off',e,k⟩:=h j d;simp_all
def IntsAt(w:U)(ao:PN)(xs:Qx):Prop:=
 N xs<=1152921504606846976/\bg w ao (N xs) (λi=>I J (E xs i 0))
def IntsAt.get{w:U}{ao:PN}{xs:Qx}(h:IntsAt w ao xs){i:Nat}(hi:i<N xs) :
  ∃b a,ao=O (aD b a)/\∀j,j<N xs->Qp w (aD b (a+j))=O (I J (E xs j 0)):=
 bg.get h.2 hi
structure af where
 aL:Int
 rows:Int
 k0:Int
 k1:Int
 k2:Int
 k3:Int
def af.vals(t:af):Array Value:=#[I J t.aL,I J t.rows,I J t.k0,I J t.k1,I J t.k2,I J t.k3]
def tz:af:=⟨0,0,0,0,0,0⟩
def aQ(w:U)(ao:PN)(ts:Qy af):Prop:=
 N ts<=192153584101141162/\∀i,i<N ts->∃b off,ao=O (aD b off)/\
  Qp w (aD b (off+i*6))=O (I J (E ts i tz).aL)/\Qp w (aD b (off+i*6+1))=O (I J (E ts i tz).rows)/\
  Qp w (aD b (off+i*6+2))=O (I J (E ts i tz).k0)/\Qp w (aD b (off+i*6+3))=O (I J (E ts i tz).k1)/\
  Qp w (aD b (off+i*6+4))=O (I J (E ts i tz).k2)/\Qp w (aD b (off+i*6+5))=O (I J (E ts i tz).k3)
structure aA where
 not:Bool
 op:Int
 left:Int
 const:Bool
 right:Int
def cz:aA:=⟨F,0,0,F,0⟩
def aA.val(c:aA):Value:=.agg #[Qr c.not,I J c.op,I J c.left,Qr c.const,I J c.right]
def bE(w:U)(ao:PN)(cs:Qy aA):Prop:=
 N cs<=230584300921369395/\∀i,i<N cs->∃b off,ao=O (aD b off)/\
  Qp w (aD b (off+i*5))=O (Qr (E cs i cz).not)/\Qp w (aD b (off+i*5+1))=O (I J (E cs i cz).op)/\
  Qp w (aD b (off+i*5+2))=O (I J (E cs i cz).left)/\Qp w (aD b (off+i*5+3))=O (Qr (E cs i cz).const)/\
  Qp w (aD b (off+i*5+4))=O (I J (E cs i cz).right)
structure aG where
 ad:PN
 cap:Nat
 cs:Qy aA
def lz:aG:=⟨Qs,0,[]⟩
def aG.val(c:aG):Value:=Z c.ad (N c.cs) c.cap
def fC(w:U)(ao:PN)(ls:Qy aG):Prop:=
 N ls<=1152921504606846976/\bg w ao (N ls) (λi=>(E ls i lz).val)/\∀i,i<N ls->bE w (E ls i lz).ad (E ls i lz).cs
structure ah where
 ad:PN
 cap:Nat
 xs:Qx
def ah.val(v:ah):Value:=Z v.ad (N v.xs) v.cap
def ah.At(v:ah)(w:U):Prop:=IntsAt w v.ad v.xs
structure ae where
 src:ah
 cK:PN
 aM:Nat
 wh:Qy aG
 group:Bool
 keys:ah
 sums:ah
 aU:ah
 ord:ah
def ae.cells(q:ae):Array Value:=#[q.src.val,Z q.cK (N q.wh) q.aM,Qr q.group,q.keys.val,q.sums.val,q.aU.val,q.ord.val]
structure ae.At(q:ae)(w:U):Prop where
 src:q.src.At w
 wh:fC w q.cK q.wh
 keys:q.keys.At w
 sums:q.sums.At w
 aU:q.aU.At w
 ord:q.ord.At w
def bP(xs:Qx)(n:Int):Bool:=xs.all λx=>decide (0<=x)&&decide (x<n)
def di(xs:Qx):Bool:=decide (∀i,i<N xs->∀j,j<i->E xs i 0≠E xs j 0)
theorem LH{j:Nat}(hi:i<N xs)(hj:j<i)(h:E xs i 0=E xs j 0):F=di xs:=by grind [di]
theorem GQ(h:∀i,i<N xs->∀j,j<i->E xs i 0≠E xs j 0):T=di xs:=by grind [di]
def ek(c:aA)(n:Int):Bool:=
 decide (0<=c.left)&&decide (c.left<n)&&decide (0<=c.op)&&decide (c.op<=2) &&
  (if c.op=2 then !c.const&&decide (c.right=0) else if c.const then decide (-1000<=c.right)&&decide (c.right<=1000) else decide (0<=c.right)&&decide (c.right<=n-1))
def CE(group:Bool)(keys sums aU:Qx):Int:=if group then N keys+1+N sums else N aU
def af.kd(t:af):Nat->Int
 |0=>t.k0
 |1=>t.k1
 |2=>t.k2
 |_=>t.k3
def af.aaW(wr:U)(t:af)(ty:TypeId)(m:Nat)(hm:m<4) :
  Qp (wr.alloc (Qt #[I J t.aL,I J t.rows,I J t.k0,I J t.k1,I J t.k2,I J t.k3] ty)) (aD (M (H wr)) (2+m))=O (I J (t.kd m)):=by rcases (by omega:m=0∨m=1∨m=2∨m=3) with rfl|rfl|rfl|rfl <;> simp[af.kd]
def dK(t:af):Bool:=
 decide (1<=t.aL/\t.aL<=4/\0<=t.rows/\t.rows<=1000000/\∀m,m<t.aL.toNat->1<=t.kd m/\t.kd m<=1000000)
theorem LJ{t:af}(h:t.aL<1∨4<t.aL∨t.rows<0∨1000000<t.rows):dK t=false:=by unfold dK;grind
theorem GR{t:af}(m:Nat)(hm:m<t.aL.toNat)(h:t.kd m<1∨1000000<t.kd m):dK t=false:=by unfold dK;grind
def GU{t:af}(h1:1<=t.aL)(h2:t.aL<=4)(h3:0<=t.rows)(h4:t.rows<=1000000)(h:∀m,m<t.aL.toNat->1<=t.kd m/\t.kd m<=1000000):dK t=true:=by unfold dK;simp_all
def fD(ts:Qy af):Bool:=decide (1<=N ts)&&decide (N ts<=8)&&ts.all dK
theorem LM{ts:Qy af}(h:N ts<1):F=fD ts:=by grind [fD]
theorem PR{ts:Qy af}(h:8<N ts):F=fD ts:=by grind [fD]
theorem Vk{ts:Qy af}(hk:k<N ts)(h:dK (E ts k tz)=F):F=fD ts:=by grind [fD]
theorem lt_of_cell{o:Nat}(h:Qp w (aD b o)=O v):b<M (H w):=by simp only[World.cell?]at h;grind
def QY:=@Vj
def QZ:=@aaV
def Q0:=@bg.get
def Q3:=@IntsAt.get
def aN(ts:Qy af)(xs:Qx):Int:=(xs.map λt=>(E ts t.toNat tz).aL).sum
def jO(ts:Qy af)(xs:Qx)(k:Nat)(hk:k<N xs):aN ts (xs.take (k+1))=aN ts (xs.take k)+(E ts xs[k].toNat tz).aL:=by unfold aN;rw[Q4 hk,Q5,List.sum_append];simp
def pg{ts:Qy af}(hc:fD ts=T)(hi:i<N ts):1<=(E ts i tz).aL/\(E ts i tz).aL<=4:=by unfold fD at hc;rw[Q6]at hc;have h:=Q7.1 hc.2 (E ts i tz) Qf;unfold dK at h;simp_all
def mi(h:bP xs n=T)(hk:k<N xs):0<=xs[k]/\xs[k]<n:=by unfold bP at h;simp_all
def rU{ts:Qy af}{xs:Qx}(hc:fD ts=T)(ha:bP xs (N ts)=T):∀k,k<=N xs->0<=aN ts (xs.take k)/\aN ts (xs.take k)<=4*k
 |0,_=>by simp[aN]
 |k+1,hk=>by have ih:=rU hc ha k X;rw[jO ts xs k X];have h1:=mi ha (k:=k) X;have h2:=pg hc (i:=(xs[k]'(X)).toNat) X;omega
theorem cB(hb:Bw w w'){o:Nat}(h:Qp w (aD b o)=O v):Qp w' (aD b o)=O v:=
 (hb.cell (p:=(aD b o)) (lt_of_cell h)).trans h
def Vl(hx:Bw w x)(a0:Qp w ⟨b0,o0,Qs⟩=O v0)(a1:Qp w ⟨b1,o1,Qs⟩=O v1)(a2:Qp w ⟨b2,o2,Qs⟩=O v2)(a3:Qp w ⟨b3,o3,Qs⟩=O v3)(a4:Qp w ⟨b4,o4,Qs⟩=O v4)(a5:Qp w ⟨b5,o5,Qs⟩=O v5)(a6:Qp w ⟨b6,o6,Qs⟩=O v6):Qp x ⟨b0,o0,Qs⟩=O v0/\Qp x ⟨b1,o1,Qs⟩=O v1/\Qp x ⟨b2,o2,Qs⟩=O v2/\Qp x ⟨b3,o3,Qs⟩=O v3/\Qp x ⟨b4,o4,Qs⟩=O v4/\Qp x ⟨b5,o5,Qs⟩=O v5/\Qp x ⟨b6,o6,Qs⟩=O v6:=⟨cB hx a0,cB hx a1,cB hx a2,cB hx a3,cB hx a4,cB hx a5,cB hx a6⟩
def GV(hx:Bw w x){b8 o8 b9 o9 b10 o10 b11 o11 b12 o12:Nat}(a0:Qp w ⟨b0,o0,Qs⟩=O v0)(a1:Qp w ⟨b1,o1,Qs⟩=O v1)(a2:Qp w ⟨b2,o2,Qs⟩=O v2)(a3:Qp w ⟨b3,o3,Qs⟩=O v3)(a4:Qp w ⟨b4,o4,Qs⟩=O v4)(a5:Qp w ⟨b5,o5,Qs⟩=O v5)(a6:Qp w ⟨b6,o6,Qs⟩=O v6)(a7:Qp w ⟨b7,o7,Qs⟩=O v7)(a8:Qp w ⟨b8,o8,Qs⟩=O v8)(a9:Qp w ⟨b9,o9,Qs⟩=O v9)(jq:Qp w ⟨b10,o10,Qs⟩=O v10)(jP:Qp w ⟨b11,o11,Qs⟩=O v11)(a12:Qp w ⟨b12,o12,Qs⟩=O v12):Qp x ⟨b0,o0,Qs⟩=O v0/\Qp x ⟨b1,o1,Qs⟩=O v1/\Qp x ⟨b2,o2,Qs⟩=O v2/\Qp x ⟨b3,o3,Qs⟩=O v3/\Qp x ⟨b4,o4,Qs⟩=O v4/\Qp x ⟨b5,o5,Qs⟩=O v5/\Qp x ⟨b6,o6,Qs⟩=O v6/\Qp x ⟨b7,o7,Qs⟩=O v7/\Qp x ⟨b8,o8,Qs⟩=O v8/\Qp x ⟨b9,o9,Qs⟩=O v9/\Qp x ⟨b10,o10,Qs⟩=O v10/\Qp x ⟨b11,o11,Qs⟩=O v11/\Qp x ⟨b12,o12,Qs⟩=O v12:=⟨cB hx a0,cB hx a1,cB hx a2,cB hx a3,cB hx a4,cB hx a5,cB hx a6,cB hx a7,cB hx a8,cB hx a9,cB hx jq,cB hx jP,cB hx a12⟩
def jf(hx:Bw w x)(a0:Qp w ⟨b0,o0,Qs⟩=O v0)(a1:Qp w ⟨b1,o1,Qs⟩=O v1):Qp x ⟨b0,o0,Qs⟩=O v0/\Qp x ⟨b1,o1,Qs⟩=O v1:=⟨cB hx a0,cB hx a1⟩
def aiq(hx:Bw w x)(a0:Qp w ⟨b0,o0,Qs⟩=O v0)(a1:Qp w ⟨b1,o1,Qs⟩=O v1)(a2:Qp w ⟨b2,o2,Qs⟩=O v2):Qp x ⟨b0,o0,Qs⟩=O v0/\Qp x ⟨b1,o1,Qs⟩=O v1/\Qp x ⟨b2,o2,Qs⟩=O v2:=⟨cB hx a0,cB hx a1,cB hx a2⟩
def jW(hx:Bw w x)(a0:Qp w ⟨b0,o0,Qs⟩=O v0)(a1:Qp w ⟨b1,o1,Qs⟩=O v1)(a2:Qp w ⟨b2,o2,Qs⟩=O v2)(a3:Qp w ⟨b3,o3,Qs⟩=O v3)(a4:Qp w ⟨b4,o4,Qs⟩=O v4):Qp x ⟨b0,o0,Qs⟩=O v0/\Qp x ⟨b1,o1,Qs⟩=O v1/\Qp x ⟨b2,o2,Qs⟩=O v2/\Qp x ⟨b3,o3,Qs⟩=O v3/\Qp x ⟨b4,o4,Qs⟩=O v4:=⟨cB hx a0,cB hx a1,cB hx a2,cB hx a3,cB hx a4⟩
def PS(hx:Bw w x)(a0:Qp w ⟨b0,o0,Qs⟩=O v0)(a1:Qp w ⟨b1,o1,Qs⟩=O v1)(a2:Qp w ⟨b2,o2,Qs⟩=O v2)(a3:Qp w ⟨b3,o3,Qs⟩=O v3)(a4:Qp w ⟨b4,o4,Qs⟩=O v4)(a5:Qp w ⟨b5,o5,Qs⟩=O v5):Qp x ⟨b0,o0,Qs⟩=O v0/\Qp x ⟨b1,o1,Qs⟩=O v1/\Qp x ⟨b2,o2,Qs⟩=O v2/\Qp x ⟨b3,o3,Qs⟩=O v3/\Qp x ⟨b4,o4,Qs⟩=O v4/\Qp x ⟨b5,o5,Qs⟩=O v5:=⟨cB hx a0,cB hx a1,cB hx a2,cB hx a3,cB hx a4,cB hx a5⟩
def kS(hx:Bw w x)(a0:Qp w ⟨b0,o0,Qs⟩=O v0)(a1:Qp w ⟨b1,o1,Qs⟩=O v1)(a2:Qp w ⟨b2,o2,Qs⟩=O v2)(a3:Qp w ⟨b3,o3,Qs⟩=O v3)(a4:Qp w ⟨b4,o4,Qs⟩=O v4)(a5:Qp w ⟨b5,o5,Qs⟩=O v5)(a6:Qp w ⟨b6,o6,Qs⟩=O v6)(a7:Qp w ⟨b7,o7,Qs⟩=O v7):Qp x ⟨b0,o0,Qs⟩=O v0/\Qp x ⟨b1,o1,Qs⟩=O v1/\Qp x ⟨b2,o2,Qs⟩=O v2/\Qp x ⟨b3,o3,Qs⟩=O v3/\Qp x ⟨b4,o4,Qs⟩=O v4/\Qp x ⟨b5,o5,Qs⟩=O v5/\Qp x ⟨b6,o6,Qs⟩=O v6/\Qp x ⟨b7,o7,Qs⟩=O v7:=⟨cB hx a0,cB hx a1,cB hx a2,cB hx a3,cB hx a4,cB hx a5,cB hx a6,cB hx a7⟩
theorem bg.below{w w':U}(hb:Bw w w'){ao:PN}{n:Nat}{f:Nat->Qm}(h:bg w ao n f):bg w' ao n f:=λi d=>by obtain⟨b,a,e,g⟩:=h i d;grind [cB]
def IntsAt.below{w w':U}(hb:Bw w w'){ao:PN}{xs:Qx}(h:IntsAt w ao xs):IntsAt w' ao xs:=⟨h.1,h.2.below hb⟩
def aQ.below{w w':U}(hb:Bw w w'){ao:PN}{ts:Qy af}(h:aQ w ao ts):aQ w' ao ts:=⟨h.1,λi m=>by
 obtain⟨b,a,e,d,f,g,j,k,l⟩:=h.2 i m;exact⟨b,a,e,cB hb d,cB hb f,cB hb g,cB hb j,cB hb k,cB hb l⟩⟩
def bE.below{w w':U}(hb:Bw w w'){ao:PN}{cs:Qy aA}(h:bE w ao cs):bE w' ao cs:=⟨h.1,λi l=>by
 obtain⟨b,a,e,d,f,g,j,k⟩:=h.2 i l;exact⟨b,a,e,cB hb d,cB hb f,cB hb g,cB hb j,cB hb k⟩⟩
def fC.below{w w':U}(hb:Bw w w'){ao:PN}{ls:Qy aG}(h:fC w ao ls):fC w' ao ls:=
 ⟨h.1,h.2.1.below hb,λi a=>(h.2.2 i a).below hb⟩
def ae.At.below{w w':U}(hb:Bw w w'){q:ae}(h:q.At w):q.At w':=
 ⟨IntsAt.below hb h.src,h.wh.below hb,IntsAt.below hb h.keys,IntsAt.below hb h.sums,IntsAt.below hb h.aU,IntsAt.below hb h.ord⟩
def cZ(w:U)(o:Obj):Bw w (w.alloc o):=(Q9 _ _).alloc (Za _) o
def az{w2:U}(h:Bw w w1)(k:Bw w1 w2):Bw w w2:=h.trans (k.mono h.size)
def vD(hb:Bw W w1):(∀b o,b<M (H W)->Qp w1 (aD b o)=Qp W (aD b o)):=
 λb o h=>hb.cell (p:=(aD b o)) h
def l9(src:Qx)(wh:Qy (Qy aA))(keys sums aU ord:Qx):Bool:=
 decide (5<N src∨8<N wh∨8<N aU∨4<N keys∨4<N sums∨4<N ord) ||wh.any (λc=>decide (3<N c))
def gH(c:Qy aA)(n:Int):Bool:=decide (0<N c)&&c.all (λx=>ek x n)
def eH(wh:Qy (Qy aA))(n:Int):Bool:=wh.all (λc=>gH c n)
def tJ(n:Int)(group:Bool)(keys sums aU ord:Qx):Bool:=
 bP aU n&&bP keys n&&bP sums n&&bP ord (CE group keys sums aU)&&di keys&&di ord&&(group==decide (N aU=0))&&(group ||decide (N keys+N sums=0))
def checkN(ts:Qy af)(src:Qx)(wh:Qy (Qy aA))(group:Bool)(keys sums aU ord:Qx):Int:=
 if fD ts=F then 1
 else if l9 src wh keys sums aU ord=T then 2
 else if bP src (N ts)=T/\0<N src/\eH wh (aN ts src)=T/\tJ (aN ts src) group keys sums aU ord=T then 0
 else 3
def ae.mf(q:ae):Qy (Qy aA):=q.wh.map aG.cs
def ae.check(q:ae)(ts:Qy af):Int:=checkN ts q.src.xs q.mf q.group q.keys.xs q.sums.xs q.aU.xs q.ord.xs
def ae.PU{q:ae}{ts:Qy af}(h:fD ts=F):(1:Int)=q.check ts:=by unfold ae.check checkN;rw[Zb h]
def ae.LP{q:ae}{ts:Qy af}(h:fD ts=T)(hf:l9 q.src.xs q.mf q.keys.xs q.sums.xs q.aU.xs q.ord.xs=T):(2:Int)=q.check ts:=by unfold ae.check checkN;simp_all
def yP(ls:Qy aG)(k:Nat):Bool:=(ls.take k).any (λc=>decide (3<N c.cs))
theorem PV(q:ae):q.mf.any (λc=>decide (3<N c))=yP q.wh (N q.wh):=by unfold yP ae.mf;grind
theorem ED{q:ae}{n:Int}{k:Nat}(hk:k<N q.wh)(h:gH (E q.wh k lz).cs n=F):eH q.mf n=false:=by unfold eH ae.mf;grind
def CF{q:ae}{n:Int}(h:∀k,k<N q.wh->gH (E q.wh k lz).cs n=T):eH q.mf n=true:=by unfold eH ae.mf;rw[List.all_map,Q7];intro c a;obtain⟨k,b,rfl⟩:=Zc a;simp_all
theorem EE{c:Qy aA}(h:¬0<N c):gH c n=false:=by grind [gH]
theorem GY{c:Qy aA}(hk:k<N c)(h:ek (E c k cz) n=F):gH c n=false:=by grind [gH]
theorem EF{c:Qy aA}(h0:0<N c)(h:∀k,k<N c->ek (E c k cz) n=T):gH c n=true:=by grind [gH,List.getElem_of_mem]
def Q8:=@IntsAt.below
def zB{P:Program}{id:Nat}{Q:Exit->Act->World->Prop}{a:Act}{w:World}{l:Qy Oper}(h:wpQuiet P l.toArray (λx=>Bw w x) (λb=>∀x,Bw w x->Q .normal b x) l a)(hm:P.follows .mixedOrders=true:=by kernel_rfl)(hB:Region.lexB .any l.toArray=true:=by kernel_rfl):(Code.region id l.toArray true).wp P Q a w:=
 wp_region_quiet (C:=λx=>Bw w x) hm hB (Q9 _ _).drew (by simpa using h)
def Calls.within{P:Program}{f:FuncId}{args:Array Qm}{w x:U}{v:Qm}(hx:Bw w x)
  (h:Calls P f args x λe w'=>e=Qv v/\Bw x w'):Calls P f args x λe a=>e=Qv v/\Bw w a:=
 h.mono λ_ _ ⟨he,hb⟩=>⟨he,az hx hb⟩
def Calls.G7{f:FuncId}{args:Array Qm}(hx:Bw w x)
  (h:Calls P f args x λe w'=>e=Qv v/\w' = x):Calls P f args x λe a=>e=Qv v/\Bw w a:=
 h.mono λ_ _ ⟨he,hb⟩=>⟨he,Qf⟩
section
variable {Nq:Int} {group:Bool} {keys sums aU ord:Qx}
theorem aaX:((N aU:Int)==0)=decide (N aU=0):=by grind
end
def foundAt(r:Int)(b:Bool):Prop:=-1<=r/\decide (0<=r)=b
theorem EG{p:α->Bool}{xs:List α}{z:α}(hk:k<N xs)(h:p (E xs k z)=T):xs.any p=true:=by grind
theorem any_none{p:α->Bool}{xs:List α}{z:α}(h:∀k,k<N xs->p (E xs k z)=F):xs.any p=false:=by grind [List.getElem_of_mem]
theorem Vm{ts:Qy af}(h1:¬N ts<1)(h8:¬8<N ts):(!(ts.any λt=>!dK t))=fD ts:=by grind [fD]
def xS(x n:Int):Bool:=decide (0<=x)&&decide (x<n)
theorem Vn(xs:Qx)(n:Int):(!(xs.any λx=>!xS x n))=bP xs n:=by grind [xS,bP]
def Vo(ls:Qy aG):(ls.any λc=>decide (3<N c.cs))=yP ls (N ls):=by unfold yP;simp_all
def ae.OY(q:ae):l9 q.src.xs q.mf q.keys.xs q.sums.xs q.aU.xs q.ord.xs =
  (decide (5<N q.src.xs∨8<N q.wh∨8<N q.aU.xs∨4<N q.keys.xs∨4<N q.sums.xs∨4<N q.ord.xs) ||yP q.wh (N q.wh)):=by unfold l9;rw[PV];simp[ae.mf]
def Vp{c:aA}{n:Int}(h:xS c.left n=F):F=ek c n:=by refine(Bool.eq_false_iff.2 ?_).symm;intro a;simp only[ek,Q6,Zf]at a;simp only[xS,Bool.and_eq_false_iff,decide_eq_false_iff_not]at h;omega
theorem ui{c:aA}{n:Int}(h:xS c.left n=T)(ho:c.op=0∨c.op=1)(hc:c.const=T):(decide (-1000<=c.right)&&decide (c.right<=1000))=ek c n:=by simp only[xS,Q6,Zf]at h;unfold ek;grind
theorem xU{c:aA}{n:Int}(h:xS c.left n=T)(ho:c.op=0∨c.op=1)(hc:c.const=F):xS c.right n=ek c n:=by simp only[xS,Q6,Zf]at h;unfold ek;rw[Zg X,Zg (by simp[hc]),Zi h.1,Zi h.2,Zi (show 0<=c.op by omega),Zi (show c.op<=2 by omega)];simp only[xS,Bool.and_self,Zj];grind
def G9{c:aA}{n:Int}(h:xS c.left n=T)(ho:c.op=2):(!c.const&&decide (c.right=0))=ek c n:=by simp only[xS,Q6,Zf]at h;unfold ek;simp_all
def Ha{c:aA}{n:Int}(h0:¬c.op=0)(h1:¬c.op=1)(h2:¬c.op=2):F=ek c n:=by refine(Bool.eq_false_iff.2 ?_).symm;intro a;simp only[ek,Q6,Zf]at a;omega
def Zd:=@zB
def Ze:=@Calls.within
theorem lT(w:U)(o:Obj):(w.alloc o).heap[M (H w)]? = O o:=by show (w.heap.push o)[M (H w)]? = _;simp
theorem vE(w:U)(c cs:Array Qm)(t:TypeId):(w.alloc (Qt c t)).setRow (M (H w)) cs=w.alloc (Qt cs t):=by unfold World.setRow World.alloc;simp only[World.mk.injEq,and_true];grind
def CG(w:U)(c:Array Qm)(t:TypeId)(i:Nat)(v:Qm):(w.alloc (Qt c t)).setCell (aD (M (H w)) i) v=w.alloc (Qt (c.setIfInBounds i v) t):=by rw[setCell_eq_setRow (w.alloc (Qt c t)) (M (H w)) i c t (0,0) v (lT w _),vE]
theorem addr_add(b off j:Nat):((aD b off):Addr).add j=(aD b (off+j)):=by unfold Addr.add;simp_all
theorem CJ(w:U)(dT sT ty elem:TypeId)(size g dLen dCap:Nat)(sp:PN)(sLen sCap:Nat)(cur:Array Qm)(t:TypeId)(cs:Qy Qm)
  (hu:P.underlying dT=O (.slice elem)) (hs:(P.info? elem).map (·.size)=O size) (hg:w.heap[g]? = O (Qt cur t (0,0))) (hle:sLen<=dLen) (hn:N cs=sLen*size)
  (hsrc:0<N cs->∃a,sp=O a/\∀j v,cs[j]? = O v->w.cell? (a.add j)=O v) (hfit:N cs<=cur.size) (h1:∀v∈cs,v.oneCell' = T) :
  (Builtin.copy_ #[dT,sT] ty #[Z (O (aD g 0)) dLen dCap,Z sp sLen sCap]).run P w=.ok (goInt sLen) (w.setRow g (cs++cur.toList.drop (N cs)).toArray):=by
 have f:=run_storeCells_at P g 0 t cs 0 cur w hg X h1;have b:Nat.min sLen dLen=sLen:=Nat.min_eq_left hle
 cases hq:P.info? elem with
 |none=>simp_all
 |some i =>
  have k:i.size=size:=Qf;by_cases m:N cs=0
  .obtain rfl:cs=[]:=Zk m;have d:w.setRow g cur=w:=setRow_self w g cur t (0,0) hg;have e:∀(x:Addr),(loadCells x (sLen*size)).run P w=.ok #[] w:=λx=>by grind [run_loadCells_list]
   cases sp <;> simp[Builtin.copy_,run_underlying hu,Builtin.lenOf,Builtin.firstCells,sizeOf,typeInfo,hq,k,b,storeCells,e,d]
  .obtain⟨a,rfl,l⟩:=hsrc X;have e:=run_loadCells_list (P:=P) w a cs l;rw[hn]at e;simp[Builtin.copy_,run_underlying hu,Builtin.lenOf,Builtin.firstCells,sizeOf,typeInfo,hq,k,b,e,f]
theorem tK(z:Qm)(n:Nat):madeCells #[z] n=(List.replicate n z).toArray:=by
 apply Array.ext_getElem?;intro i;by_cases a:i<n
 .simp[madeCells,a]
  grind
 .simp[madeCells,a]
theorem EH{α:Type}(f:α->Qy Qm)(s:Nat)(hf:∀x,N (f x)=s)(z:α):∀(xs:List α) (rest:Qy Qm) (i j:Nat),i<N xs->j<s->(xs.flatMap f++rest)[i*s+j]? = (f (E xs i z))[j]?
 |[],_,i,_,hi,_=>absurd hi Qa
 |x::xs,rest,0,j,_,hj=>by grind
 |x::xs,rest,i+1,j,hi,hj=>by have ih:=EH f s hf z xs rest i j Qf hj;grind
def aA.vals(c:aA):Qy Value:=[Qr c.not,I J c.op,I J c.left,Qr c.const,I J c.right]
def zc:Qy Value:=[Qr F,I J 0,I J 0,Qr F,I J 0]
def ic:Qy Value:=[Qr F,I J 77777,I J 0,Qr F,I J 0]
def it:Qy Value:=[I J 77777,I J 0,I J 0,I J 0,I J 0,I J 0]
def GB(w:U)(G:Nat)(t:TypeId)(c:Array Qm):Prop:=w.heap[G]? = O (Qt c t (0,0))
def bC(w:U)(c:Array Qm)(t:TypeId):∃x,w.alloc (Qt c t)=x/\Bw w x/\GB x (M (H w)) t c:=⟨_,rfl,cZ _ _,lT _ _⟩
theorem GB.cell{w:U}{G:Nat}{t:TypeId}{c:Array Qm}(h:GB w G t c)(i:Nat):Qp w (aD G i)=c[i]?:=by unfold GB at h;simp[World.cell?,h]
theorem GB.frozen{w:U}{G:Nat}{t:TypeId}{c:Array Qm}(h:GB w G t c)(i:Nat):w.frozen? (aD G i)=false:=by unfold GB at h;simp[World.frozen?,h]
theorem GB.lt(h:GB w G t c):G<M (H w):=by unfold GB at h;grind
theorem GB.set(h:GB w G t c)(i:Nat)(v:Qm):GB (w.setCell (aD G i) v) G t (c.setIfInBounds i v):=by unfold GB at*;rw[setCell_eq_setRow w G i c t (0,0) v h];grind [setRow_heap]
def GB.of(h:GB w G t c)(e:w'.heap[G]? = w.heap[G]?):GB w' G t c:=by unfold GB at*;simp_all
def heap_setCell{w:U}{a:Addr}{v:Qm}{k:Nat}(h:k≠a.block):(w.setCell a v).heap[k]? = w.heap[k]?:=Below.heap_setCell _ _ _ _ h
def heap_alloc{w:U}{o:Obj}{k:Nat}(h:k<M (H w)):(w.alloc o).heap[k]? = w.heap[k]?:=Below.heap_alloc _ _ _ h
def Zl:=@GB.cell
def Zm:=@GB.frozen
theorem GB.at(h:GB w G t c)(i:Nat)(hv:c.toList[i]? = some v:=by exact rfl):w.cell? (aD G i)=some v:=by grind [GB.cell]
def hd(h:p):Qn p:=h
def pA(l:Qy Qm)(d)(i:Nat)(v:Qm):Act.put { tmps:=l.toArray,defers:=d } (O i) v = { tmps:=(l.set i v).toArray,defers:=d }:=by simp[Act.put]
theorem pU:(∀(l:Qy Qm) (d) (i:Nat) (v:Qm),Act.put { tmps:=l.toArray,defers:=d } (O i) v = { tmps:=(l.set i v).toArray,defers:=d })/\(∀{x:Qm} {l:Qy Qm} {n:Nat} {a:Qm},(x::l).set (n+1) a=x::l.set n a)/\(∀{x:Qm} {l:Qy Qm} {a:Qm},(x::l).set 0 a=a::l):=⟨pA,QW,QX⟩
def wt{Q:Exit->Act->World->Prop}(i:Nat)(v:Value)(hS:S w)(h:wpAnyH P md ops Q S fuel (listed.setIfInBounds i true) (a.put oi.dst v) w)(hi:ops[i]? = some oi:=by exact rfl)(hs:Region.noSelect ops=true:=by kernel_rfl)(hf:Region.free md ops listed i=true:=by kernel_rfl)(hr:(Region.ready md ops listed).contains i=true:=by kernel_rfl)(hQ:∀c a w,Q (.panic c) (a.put oi.dst v) w->Q (.panic c) a w:=by exact λ_ _ _ h=>h)(hg:Region.wanted oi (yielded ops a.tmps)=true:=by rfl)(hy:∀x,S x->(execOp a.eval oi).run P x=.ok (.value v) x:=by intro x b;go_simp):wpAnyH P md ops Q S (fuel+1) listed a w:=
 QV hi hs hf hr hQ (.inl ⟨hg,hy⟩) hS h
def wg{Q:Exit->Act->World->Prop}(i:Nat)(v:Value)(hS:S w)(h:wpAnyH P md ops Q S fuel (listed.setIfInBounds i true) (a.put oi.dst v) w)(hi:ops[i]? = some oi:=by exact rfl)(hs:Region.noSelect ops=true:=by kernel_rfl)(hf:Region.free md ops listed i=true:=by kernel_rfl)(hr:(Region.ready md ops listed).contains i=true:=by kernel_rfl)(hQ:∀c a w,Q (.panic c) (a.put oi.dst v) w->Q (.panic c) a w:=by exact λ_ _ _ h=>h)(hg:Region.wanted oi (yielded ops a.tmps)=true:=by kernel_rfl)(hy:∀x,S x->(execOp a.eval oi).run P x=.ok (.value v) x:=by intro x b;go_simp):wpAnyH P md ops Q S (fuel+1) listed a w:=
 QV hi hs hf hr hQ (.inl ⟨hg,hy⟩) hS h
def wn{Q:Exit->Act->World->Prop}(i:Nat)(v:Value)(hS:S w)(h:wpAnyH P md ops Q S fuel (listed.setIfInBounds i true) (a.put oi.dst v) w)(hi:ops[i]? = some oi:=by exact rfl)(hs:Region.noSelect ops=true:=by kernel_rfl)(hf:Region.free md ops listed i=true:=by kernel_rfl)(hr:(Region.ready md ops listed).contains i=true:=by kernel_rfl)(hQ:∀c a w,Q (.panic c) (a.put oi.dst v) w->Q (.panic c) a w:=by exact λ_ _ _ h=>by cases h.1)(hg:Region.wanted oi (yielded ops a.tmps)=true:=by rfl)(hy:∀x,S x->(execOp a.eval oi).run P x=.ok (.value v) x:=by intro x b;go_simp):wpAnyH P md ops Q S (fuel+1) listed a w:=
 QV hi hs hf hr hQ (.inl ⟨hg,hy⟩) hS h
def wm{Q:Exit->Act->World->Prop}(i:Nat)(v:Value)(hS:S w)(h:wpAnyH P md ops Q S fuel (listed.setIfInBounds i true) (a.put oi.dst v) w)(hi:ops[i]? = some oi:=by exact rfl)(hs:Region.noSelect ops=true:=by kernel_rfl)(hf:Region.free md ops listed i=true:=by kernel_rfl)(hr:(Region.ready md ops listed).contains i=true:=by kernel_rfl)(hQ:∀c a w,Q (.panic c) (a.put oi.dst v) w->Q (.panic c) a w:=by exact λ_ _ _ h=>by cases h.1)(hg:Region.wanted oi (yielded ops a.tmps)=true:=by kernel_rfl)(hy:∀x,S x->(execOp a.eval oi).run P x=.ok (.value v) x:=by intro x b;go_simp):wpAnyH P md ops Q S (fuel+1) listed a w:=
 QV hi hs hf hr hQ (.inl ⟨hg,hy⟩) hS h
def zC{Q:Exit->Act->World->Prop}{o:Nat}(i:Nat)(v:Value)(hS:Bw W w)(c:W.cell? (aD b o)=some u)(h:wpAnyH P md ops Q (λx=>Bw W x) fuel (listed.setIfInBounds i true) (a.put oi.dst v) w)(hi:ops[i]? = some oi:=by exact rfl)(hs:Region.noSelect ops=true:=by kernel_rfl)(hf:Region.free md ops listed i=true:=by kernel_rfl)(hr:(Region.ready md ops listed).contains i=true:=by kernel_rfl)(hQ:∀c a w,Q (.panic c) (a.put oi.dst v) w->Q (.panic c) a w:=by exact λ_ _ _ h=>h)(hg:Region.wanted oi (yielded ops a.tmps)=true:=by rfl)(hy:∀x,x.cell? (aD b o)=some u->(execOp a.eval oi).run P x=.ok (.value v) x:=by intro x d;go_simp):wpAnyH P md ops Q (λx=>Bw W x) (fuel+1) listed a w:=
 QV hi hs hf hr hQ (.inl ⟨hg,λx d=>hy x (cB d c)⟩) hS h
def wgc{Q:Exit->Act->World->Prop}{o:Nat}(i:Nat)(v:Value)(hS:Bw W w)(c:W.cell? (aD b o)=some u)(h:wpAnyH P md ops Q (λx=>Bw W x) fuel (listed.setIfInBounds i true) (a.put oi.dst v) w)(hi:ops[i]? = some oi:=by exact rfl)(hs:Region.noSelect ops=true:=by kernel_rfl)(hf:Region.free md ops listed i=true:=by kernel_rfl)(hr:(Region.ready md ops listed).contains i=true:=by kernel_rfl)(hQ:∀c a w,Q (.panic c) (a.put oi.dst v) w->Q (.panic c) a w:=by exact λ_ _ _ h=>h)(hg:Region.wanted oi (yielded ops a.tmps)=true:=by kernel_rfl)(hy:∀x,x.cell? (aD b o)=some u->(execOp a.eval oi).run P x=.ok (.value v) x:=by intro x d;go_simp):wpAnyH P md ops Q (λx=>Bw W x) (fuel+1) listed a w:=
 QV hi hs hf hr hQ (.inl ⟨hg,λx d=>hy x (cB d c)⟩) hS h
def IsV(_:Qm):Prop:=True
def aeg{p:Qm->Prop}(_:IsV v)(h:p v):∃x,p x:=⟨v,h⟩
def qS{P:Prop}(v:Qm)(k:Q)(h:IsV v->Q->P:=by
  intro a b;go_big_quiet_want;refine aeg a ⟨λx d=>?_,?_⟩
  .go_simp
  .simp only[pU];go_big_quiet_on;exact b):P:=h trivial k
def qC{P:Prop}(v:Qm)(c:C)(k:Q)(h:IsV v->C->Q->P:=by
  intro a c b;go_big_quiet_want;refine aeg a ⟨λx d=>?_,?_⟩
  .have e:=cB d c;go_simp
  .simp only[pU];go_big_quiet_on;exact b):P:=h trivial c k
theorem GB.k2(h:GB w G t c)(e:c.toList.take 2=[v0,v1]:=by exact rfl):w.cell? (aD G 0)=some v0/\w.cell? (aD G 1)=some v1:=by have r:∀i,i<2->c.toList[i]? = ([v0,v1]:Qy Value)[i]?:=λi a=>Qb;grind [GB.at]
theorem GB.k3(h:GB w G t c)(e:c.toList.take 3=[v0,v1,v2]:=by exact rfl):w.cell? (aD G 0)=some v0/\w.cell? (aD G 1)=some v1/\w.cell? (aD G 2)=some v2:=by have r:∀i,i<3->c.toList[i]? = ([v0,v1,v2]:Qy Value)[i]?:=λi a=>Qb;grind [GB.at]
theorem GB.k4(h:GB w G t c)(e:c.toList.take 4=[v0,v1,v2,v3]:=by exact rfl):w.cell? (aD G 0)=some v0/\w.cell? (aD G 1)=some v1/\w.cell? (aD G 2)=some v2/\w.cell? (aD G 3)=some v3:=by have r:∀i,i<4->c.toList[i]? = ([v0,v1,v2,v3]:Qy Value)[i]?:=λi a=>Qb;grind [GB.at]
theorem GB.k5(h:GB w G t c)(e:c.toList.take 5=[v0,v1,v2,v3,v4]:=by exact rfl):w.cell? (aD G 0)=some v0/\w.cell? (aD G 1)=some v1/\w.cell? (aD G 2)=some v2/\w.cell? (aD G 3)=some v3/\w.cell? (aD G 4)=some v4:=by have r:∀i,i<5->c.toList[i]? = ([v0,v1,v2,v3,v4]:Qy Value)[i]?:=λi a=>Qb;exact⟨h.at 0 (r 0 Qc),h.at 1 (r 1 Qc),h.at 2 (r 2 Qc),h.at 3 (r 3 Qc),h.at 4 (r 4 Qc)⟩
theorem GB.k6(h:GB w G t c)(e:c.toList.take 6=[v0,v1,v2,v3,v4,v5]:=by exact rfl):w.cell? (aD G 0)=some v0/\w.cell? (aD G 1)=some v1/\w.cell? (aD G 2)=some v2/\w.cell? (aD G 3)=some v3/\w.cell? (aD G 4)=some v4/\w.cell? (aD G 5)=some v5:=by have r:∀i,i<6->c.toList[i]? = ([v0,v1,v2,v3,v4,v5]:Qy Value)[i]?:=λi a=>Qb;exact⟨h.at 0 (r 0 Qc),h.at 1 (r 1 Qc),h.at 2 (r 2 Qc),h.at 3 (r 3 Qc),h.at 4 (r 4 Qc),h.at 5 (r 5 Qc)⟩
theorem GB.k7(h:GB w G t c)(e:c.toList.take 7=[v0,v1,v2,v3,v4,v5,v6]:=by exact rfl):w.cell? (aD G 0)=some v0/\w.cell? (aD G 1)=some v1/\w.cell? (aD G 2)=some v2/\w.cell? (aD G 3)=some v3/\w.cell? (aD G 4)=some v4/\w.cell? (aD G 5)=some v5/\w.cell? (aD G 6)=some v6:=by have r:∀i,i<7->c.toList[i]? = ([v0,v1,v2,v3,v4,v5,v6]:Qy Value)[i]?:=λi a=>Qb;exact⟨h.at 0 (r 0 Qc),h.at 1 (r 1 Qc),h.at 2 (r 2 Qc),h.at 3 (r 3 Qc),h.at 4 (r 4 Qc),h.at 5 (r 5 Qc),h.at 6 (r 6 Qc)⟩
theorem GB.k8(h:GB w G t c)(e:c.toList.take 8=[v0,v1,v2,v3,v4,v5,v6,v7]:=by exact rfl):w.cell? (aD G 0)=some v0/\w.cell? (aD G 1)=some v1/\w.cell? (aD G 2)=some v2/\w.cell? (aD G 3)=some v3/\w.cell? (aD G 4)=some v4/\w.cell? (aD G 5)=some v5/\w.cell? (aD G 6)=some v6/\w.cell? (aD G 7)=some v7:=by have r:∀i,i<8->c.toList[i]? = ([v0,v1,v2,v3,v4,v5,v6,v7]:Qy Value)[i]?:=λi a=>Qb;exact⟨h.at 0 (r 0 Qc),h.at 1 (r 1 Qc),h.at 2 (r 2 Qc),h.at 3 (r 3 Qc),h.at 4 (r 4 Qc),h.at 5 (r 5 Qc),h.at 6 (r 6 Qc),h.at 7 (r 7 Qc)⟩
theorem GB.k9(h:GB w G t c)(e:c.toList.take 9=[v0,v1,v2,v3,v4,v5,v6,v7,v8]:=by exact rfl):w.cell? (aD G 0)=some v0/\w.cell? (aD G 1)=some v1/\w.cell? (aD G 2)=some v2/\w.cell? (aD G 3)=some v3/\w.cell? (aD G 4)=some v4/\w.cell? (aD G 5)=some v5/\w.cell? (aD G 6)=some v6/\w.cell? (aD G 7)=some v7/\w.cell? (aD G 8)=some v8:=by have r:∀i,i<9->c.toList[i]? = ([v0,v1,v2,v3,v4,v5,v6,v7,v8]:Qy Value)[i]?:=λi a=>Qb;exact⟨h.at 0 (r 0 Qc),h.at 1 (r 1 Qc),h.at 2 (r 2 Qc),h.at 3 (r 3 Qc),h.at 4 (r 4 Qc),h.at 5 (r 5 Qc),h.at 6 (r 6 Qc),h.at 7 (r 7 Qc),h.at 8 (r 8 Qc)⟩
theorem GB.k13(h:GB w G t c)(e:c.toList.take 13=[v0,v1,v2,v3,v4,v5,v6,v7,v8,v9,v10,v11,v12]:=by exact rfl):w.cell? (aD G 0)=some v0/\w.cell? (aD G 1)=some v1/\w.cell? (aD G 2)=some v2/\w.cell? (aD G 3)=some v3/\w.cell? (aD G 4)=some v4/\w.cell? (aD G 5)=some v5/\w.cell? (aD G 6)=some v6/\w.cell? (aD G 7)=some v7/\w.cell? (aD G 8)=some v8/\w.cell? (aD G 9)=some v9/\w.cell? (aD G 10)=some v10/\w.cell? (aD G 11)=some v11/\w.cell? (aD G 12)=some v12:=by have r:∀i,i<13->c.toList[i]? = ([v0,v1,v2,v3,v4,v5,v6,v7,v8,v9,v10,v11,v12]:Qy Value)[i]?:=λi a=>Qb;exact⟨h.at 0 (r 0 Qc),h.at 1 (r 1 Qc),h.at 2 (r 2 Qc),h.at 3 (r 3 Qc),h.at 4 (r 4 Qc),h.at 5 (r 5 Qc),h.at 6 (r 6 Qc),h.at 7 (r 7 Qc),h.at 8 (r 8 Qc),h.at 9 (r 9 Qc),h.at 10 (r 10 Qc),h.at 11 (r 11 Qc),h.at 12 (r 12 Qc)⟩
theorem pV:(∀(a:Act) (i:Nat) (v:Qm),Act.put a (O i) v = { a with tmps:=a.tmps.setIfInBounds i v })/\(∀(a:Act) (v:Qm),Act.put a Qs v=a)/\(∀{l:Qy Qm} {i:Nat} (h:i<l.toArray.size),l.toArray[i]=l[i]'(by simpa using h))/\(∀{x:Qm} {l:Qy Qm} {i:Nat} (h:i+1<N (x::l)),(x::l)[i+1]=l[i]'(Nat.lt_of_succ_lt_succ h))/\(∀{x:Qm} {l:Qy Qm} (h:0<N (x::l)),(x::l)[0]=x)/\(∀{l:Qy Qm} {i:Nat} {a:Qm},l.toArray.setIfInBounds i a=(l.set i a).toArray)/\(∀{x:Qm} {l:Qy Qm} {n:Nat} {a:Qm},(x::l).set (n+1) a=x::l.set n a)/\(∀{x:Qm} {l:Qy Qm} {a:Qm},(x::l).set 0 a=a::l):=
 ⟨λ_ _ _=>rfl,λ_ _=>rfl,λ_=>rfl,λ_=>rfl,λ_=>rfl,Zn ..,QW,QX⟩
def wH{Q:Exit->Act->World->Prop}{id:Nat}(w:World)(h:Bw w w.drew->wpAnyH P .any ops Q (λx=>Bw w x) ops.size (Array.replicate ops.size false) a w.drew)(hm:P.follows .mixedOrders=true:=by kernel_rfl):(Code.region id ops true).wp P Q a w:=
 Zo hm ((Q9 _ _).drew) h
def wD{Q:Exit->Act->World->Prop}(h:Q .normal a w)(hr:Region.ready md ops listed=[]:=by kernel_rfl):wpAnyH P md ops Q S fuel listed a w:=wpAnyH_done hr h fuel
def oT(hK:Shut (∀a w,Bw W w->(Bw W w->Xq a w)->K' a w))(hS:Bw W w)(hb:Bw w w')(h:Bw W w'->Xq a w'):K' a w':=hK.o _ _ (hS.trans (hb.mono hS.size)) h
def oA(hK:Shut (∀a w,Bw W w->(Bw W w->Xq a w)->K' a w)){o:Obj}(hS:Bw W w)(h:Bw W (w.alloc o)->Xq a (w.alloc o)):K' a (w.alloc o):=hK.o _ _ (hS.trans ((cZ _ _).mono hS.size)) h
def wJ{Q:Exit->Act->World->Prop}{oj:Oper}(i j:Nat)(h:∀K':Act->World->Prop,Shut (∀a w,S w->(S w->wpAnyH P md ops Q S fuel (listed.setIfInBounds i true) a w)->K' a w)->if Region.wanted oi (yielded ops a.tmps)=true then Oper.wp P oi a w K' Q else K' (a.put oi.dst undef) w)(h2:∀K':Act->World->Prop,Shut (∀a w,S w->(S w->wpAnyH P md ops Q S fuel (listed.setIfInBounds j true) a w)->K' a w)->if Region.wanted oj (yielded ops a.tmps)=true then Oper.wp P oj a w K' Q else K' (a.put oj.dst undef) w)(hi:ops[i]? = some oi:=by exact rfl)(hj:ops[j]? = some oj:=by exact rfl)(hr:Region.ready md ops listed=[i,j]:=by kernel_rfl):wpAnyH P md ops Q S (fuel+1) listed a w:=
 wpAnyH_ready hr Qa (AllReadyH.cons hi h (AllReadyH.cons hj h2 AllReadyH.nil))
def Zh(h:p):Qn p:=h
def aS(a0:p0)(a1:p1):Qn p0/\Qn p1:=⟨a0,a1⟩
def jX(a0:p0)(a1:p1)(a2:p2):Qn p0/\Qn p1/\Qn p2:=⟨a0,a1,a2⟩
def sU(a0:p0)(a1:p1)(a2:p2)(a3:p3):Qn p0/\Qn p1/\Qn p2/\Qn p3:=⟨a0,a1,a2,a3⟩
def EI(a0:p0)(a1:p1)(a2:p2)(a3:p3)(a4:p4):Qn p0/\Qn p1/\Qn p2/\Qn p3/\Qn p4:=⟨a0,a1,a2,a3,a4⟩
def aaZ(a0:p0)(a1:p1)(a2:p2)(a3:p3)(a4:p4)(a5:p5):Qn p0/\Qn p1/\Qn p2/\Qn p3/\Qn p4/\Qn p5:=⟨a0,a1,a2,a3,a4,a5⟩
def aeh{p6:Prop}(a0:p0)(a1:p1)(a2:p2)(a3:p3)(a4:p4)(a5:p5)(a6:p6):Qn p0/\Qn p1/\Qn p2/\Qn p3/\Qn p4/\Qn p5/\Qn p6:=⟨a0,a1,a2,a3,a4,a5,a6⟩
def Fu(c:aA):N c.vals=5:=rfl
def wK{cs:Qy aA}(h:w.ownsRow base e 5 v (N cs) (cs.flatMap aA.vals))(hl:N cs<=100) :
  ∃k cap,v=Z k (N cs) cap/\bE w k cs/\∀a,k=O a->base<=a.block/\a.block<M (H w)/\v.ownBlock=O a.block:=by
 rcases h.2 with⟨rfl,h0⟩|⟨g,cap,cur,rfl,hb,hh,hc,_,hcs,ht⟩
 .have:=Zk h0;subst this;exact⟨Qs,0,rfl,⟨Qa,λi d=>absurd d Qa⟩,λa f=>by cases f⟩
 .refine⟨O (aD g 0),cap,rfl,⟨X,λi d=>⟨g,0,rfl,?_⟩⟩,λa f=>by cases f;exact⟨hb,(ZV.1 hh).1,rfl⟩⟩;have b:∀j,j<5->Qp w (aD g (0+i*5+j))=((E cs i cz).vals)[j]?:=λj m=>by have l:=EH aA.vals 5 Fu cz cs [] i j d m;rw[X0]at l;rw[<-l,<-ht,XG,Zb (Qk d)];simp[World.cell?,hh]
  exact⟨b 0 X,b 1 X,b 2 X,b 3 X,b 4 X⟩
theorem A8{ls:Qy aG}(h:W.ownsRow base e 1 v (N ls) (ls.map aG.val))(hc:∀x∈ls,bE W x.ad x.cs)(hl:N ls<=100) :
  ∃d cap,v=Z d (N ls) cap/\fC W d ls:=by
 have b:∀i,i<N ls->E ls i lz∈ls:=λi a=>by simp[List.getD,a]
 rcases h.2 with⟨rfl,h0⟩|⟨g,cap,cur,rfl,hb,hh,hc2,_,hcs,ht⟩
 .have:=Zk h0;subst this;exact⟨Qs,0,rfl,Qa,λi a=>absurd a Qa,λi a=>absurd a Qa⟩
 .refine⟨O (aD g 0),cap,rfl,X,λi a=>⟨g,0,rfl,?_⟩,λi a=>hc _ (b i a)⟩;have j:(cur.toList.take (N ls*1))[i]? = O (E ls i lz).val:=by rw[ht];simp[List.getD,a]
  have f:cur[i]? = O (E ls i lz).val:=by grind
  simp only[World.cell?,hh];simpa using f
def Tryz.IQ:(V.info? 66).map (λi=>(i.zero,i.size,i.bytes))=O (O (.agg #[Qr F,I J 0,I J 0,Qr F,I J 0]),5,40):=Qd
def Tryz.A9:(V.info? 70).map (λi=>(i.zero,i.size,i.bytes))=O (O (.agg #[Z Qs 0 0]),1,24):=Qd
def Tryz.info3:(V.info? 3).map (λi=>(i.zero,i.size,i.bytes))=O (O (I J 0),1,8):=Qd
def Vr(hx:Bw W x)(b o:Nat)(h:(Qp W (aD b o)).isSome=T):Qp x (aD b o)=Qp W (aD b o):=by obtain⟨v,a⟩:=Zp.1 h;rw[a,cB hx a]
def Wq(p:Prop):Prop:=p
theorem Wq.o(h:Wq p):p:=h
def aei [Decidable p] (h:¬p) (k:Value.bool F=v):Value.bool (decide p)=v:=by rw[Zr h];exact k
def aej [Decidable p] (h:p) (k:Value.bool T=v):Value.bool (decide p)=v:=by rw[Zi h];exact k
def OZ(_:Nat):Prop:=True
def OZ.s(_:OZ i):OZ (i+1):=trivial
def wa{Q:Exit->Act->World->Prop}(_:OZ i)(hS:Bw W w)(h:wpAnyH P md ops Q (λx=>Bw W x) fuel (listed.setIfInBounds i true) (a.put (some k) v) w)(hi:ops[i]? = some oi:=by exact rfl)(hk:oi.dst=some k:=by exact rfl)(hs:Region.noSelect ops=true:=by kernel_rfl)(hf:Region.free md ops listed i=true:=by kernel_rfl)(hr:(Region.ready md ops listed).contains i=true:=by kernel_rfl)(hQ:∀c a w,Q (.panic c) (a.put oi.dst v) w->Q (.panic c) a w:=by first|exact λ_ _ _ h=>h|exact λ_ _ _ h=>by cases h.1)(hg:Region.wanted oi (yielded ops a.tmps)=true:=by rfl)(hy:∀x,Bw W x->(execOp a.eval oi).run P x=.ok (.value v) x:=by intro x hx;have hc:=Vr hx;go_simp;first|done|(refine aei ?_ rfl;omega)|(refine aej ?_ rfl;omega)|rfl):wpAnyH P md ops Q (λx=>Bw W x) (fuel+1) listed a w:=
 QV hi hs hf hr hQ (.inl ⟨hg,hy⟩) hS (by rw[hk];exact h)
def wb{Q:Exit->Act->World->Prop}(_:OZ i)(hS:Bw W w)(h:wpAnyH P md ops Q (λx=>Bw W x) fuel (listed.setIfInBounds i true) (a.put (some k) v) w)(hi:ops[i]? = some oi:=by exact rfl)(hk:oi.dst=some k:=by exact rfl)(hs:Region.noSelect ops=true:=by kernel_rfl)(hf:Region.free md ops listed i=true:=by kernel_rfl)(hr:(Region.ready md ops listed).contains i=true:=by kernel_rfl)(hQ:∀c a w,Q (.panic c) (a.put oi.dst v) w->Q (.panic c) a w:=by first|exact λ_ _ _ h=>h|exact λ_ _ _ h=>by cases h.1)(hg:Region.wanted oi (yielded ops a.tmps)=true:=by kernel_rfl)(hy:∀x,Bw W x->(execOp a.eval oi).run P x=.ok (.value v) x:=by intro x hx;have hc:=Vr hx;go_simp;first|done|(refine aei ?_ rfl;omega)|(refine aej ?_ rfl;omega)|rfl):wpAnyH P md ops Q (λx=>Bw W x) (fuel+1) listed a w:=
 QV hi hs hf hr hQ (.inl ⟨hg,hy⟩) hS (by rw[hk];exact h)
def wu{Q:Exit->Act->World->Prop}(_:OZ i)(hS:S w)(h:wpAnyH P md ops Q S fuel (listed.setIfInBounds i true) (a.put (some k) undef) w)(hi:ops[i]? = some oi:=by exact rfl)(hk:oi.dst=some k:=by exact rfl)(hs:Region.noSelect ops=true:=by kernel_rfl)(hf:Region.free md ops listed i=true:=by kernel_rfl)(hr:(Region.ready md ops listed).contains i=true:=by kernel_rfl)(hQ:∀c a w,Q (.panic c) (a.put oi.dst undef) w->Q (.panic c) a w:=by first|exact λ_ _ _ h=>h|exact λ_ _ _ h=>by cases h.1)(hg:Region.wanted oi (yielded ops a.tmps)=false:=by kernel_rfl):wpAnyH P md ops Q S (fuel+1) listed a w:=
 QV hi hs hf hr hQ (.inr ⟨hg,rfl⟩) hS (by rw[hk];exact h)
def O0{P:Prop}(i:Nat)(s:C)(k:Q)(h:OZ i->C->Wq Q->P:=by
  intro a b d;refine wa a b ?_;try simp only[pU]
  exact d.o):P:=h trivial s k
def wA2{P:Prop}(i:Nat)(s:C)(k:Q)(h:OZ i->C->Wq Q->P:=by
  intro a b d;refine wa a b ?_;refine wa a.s b ?_;try simp only[pU]
  exact d.o):P:=h trivial s k
def wA3{P:Prop}(i:Nat)(s:C)(k:Q)(h:OZ i->C->Wq Q->P:=by
  intro a b d;refine wa a b ?_;refine wa a.s b ?_;refine wa a.s.s b ?_;try simp only[pU]
  exact d.o):P:=h trivial s k
def wA4{P:Prop}(i:Nat)(s:C)(k:Q)(h:OZ i->C->Wq Q->P:=by
  intro a b d;refine wa a b ?_;refine wa a.s b ?_;refine wa a.s.s b ?_;refine wa a.s.s.s b ?_;try simp only[pU]
  exact d.o):P:=h trivial s k
def wA5{P:Prop}(i:Nat)(s:C)(k:Q)(h:OZ i->C->Wq Q->P:=by
  intro a b d;refine wa a b ?_;refine wa a.s b ?_;refine wa a.s.s b ?_;refine wa a.s.s.s b ?_;refine wa a.s.s.s.s b ?_;try simp only[pU]
  exact d.o):P:=h trivial s k
def wA6{P:Prop}(i:Nat)(s:C)(k:Q)(h:OZ i->C->Wq Q->P:=by
  intro a b d;refine wa a b ?_;refine wa a.s b ?_;refine wa a.s.s b ?_;refine wa a.s.s.s b ?_;refine wa a.s.s.s.s b ?_;refine wa a.s.s.s.s.s b ?_;try simp only[pU]
  exact d.o):P:=h trivial s k
def wA8{P:Prop}(i:Nat)(s:C)(k:Q)(h:OZ i->C->Wq Q->P:=by
  intro a b d;refine wa a b ?_;refine wa a.s b ?_;refine wa a.s.s b ?_;refine wa a.s.s.s b ?_;refine wa a.s.s.s.s b ?_;refine wa a.s.s.s.s.s b ?_;refine wa a.s.s.s.s.s.s b ?_;refine wa a.s.s.s.s.s.s.s b ?_;try simp only[pU]
  exact d.o):P:=h trivial s k
def Vs{P:Prop}(i:Nat)(s:C)(k:Q)(h:OZ i->C->Wq Q->P:=by
  intro a b d;refine wa a b ?_;refine wa a.s b ?_;refine wa a.s.s b ?_;refine wa a.s.s.s b ?_;refine wa a.s.s.s.s b ?_;refine wa a.s.s.s.s.s b ?_;refine wa a.s.s.s.s.s.s b ?_;refine wa a.s.s.s.s.s.s.s b ?_;refine wa a.s.s.s.s.s.s.s.s b ?_;refine wa a.s.s.s.s.s.s.s.s.s b ?_;try simp only[pU]
  exact d.o):P:=h trivial s k
def wE{P:Prop}(k:Q)(h:Wq Q->P:=by
  intro a;refine wD ?_;simp only[Act.put,Zt,Zu,Zv,Zn,QW,QX];exact a.o):P:=h k
def qx{p r:Value->Prop}(k:r v)(h:p v:=by intro x hx;have hc:=Vr hx;go_simp;first|done|(refine aei ?_ rfl;omega)|(refine aej ?_ rfl;omega)|rfl):∃v,p v/\r v:=⟨v,h,k⟩
def Le{P:Prop}(k:Q)(h:Wq Q->P:=by
  intro a;go_big_quiet_want;refine qx ?_;simp only[pU];go_big_quiet_on;exact a.o):P:=h k
def EJ{P:Prop}(k:Q)(h:Wq Q->P:=by
  intro a;iterate 2
   go_big_quiet_want;refine qx ?_;simp only[pU];go_big_quiet_on
  exact a.o):P:=h k
def qA3{P:Prop}(k:Q)(h:Wq Q->P:=by
  intro a;iterate 3
   go_big_quiet_want;refine qx ?_;simp only[pU];go_big_quiet_on
  exact a.o):P:=h k
def qA4{P:Prop}(k:Q)(h:Wq Q->P:=by
  intro a;iterate 4
   go_big_quiet_want;refine qx ?_;simp only[pU];go_big_quiet_on
  exact a.o):P:=h k
def qA5{P:Prop}(k:Q)(h:Wq Q->P:=by
  intro a;iterate 5
   go_big_quiet_want;refine qx ?_;simp only[pU];go_big_quiet_on
  exact a.o):P:=h k
def qA6{P:Prop}(k:Q)(h:Wq Q->P:=by
  intro a;iterate 6
   go_big_quiet_want;refine qx ?_;simp only[pU];go_big_quiet_on
  exact a.o):P:=h k
def qA8{P:Prop}(k:Q)(h:Wq Q->P:=by
  intro a;iterate 8
   go_big_quiet_want;refine qx ?_;simp only[pU];go_big_quiet_on
  exact a.o):P:=h k
def ait{P:Prop}(k:Q)(h:Wq Q->P:=by
  intro a;iterate 10
   go_big_quiet_want;refine qx ?_;simp only[pU];go_big_quiet_on
  exact a.o):P:=h k
