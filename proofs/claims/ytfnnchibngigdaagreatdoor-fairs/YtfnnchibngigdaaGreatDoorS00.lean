import Derived.Deep.RegionHeld
import Derived.WalkKit
import Derived.Deep.QuietTactic
import Derived.BigQuiet
import Derived.WalkSmall
import Derived.Laws.CopyOwn
import Derived.Deep.OwnRows
import Derived.Laws.BitsAllLaws
import Derived.RangeFuncRecord
import Derived.RangeFuncBound
import Derived.RangeFuncCalls
import Derived.RangeFuncLeaves
import Derived.Below
import Derived.RangeFuncNested
import Derived.Shelf.Abstract
import Derived.OwnWalkIn
import Derived.TacticsInMore
import Derived.LoopNIn
import Derived.LoopIn
import Derived.Test.YtfnnchibngigdaaGreatDoorProg
import Derived.Maps.OwnIn
import Derived.Maps.AppendAt
import Derived.OwnWalk
import Derived.Shelf.Spec.SlicesGrow
import Derived.Laws.AppendOwnNone
import Derived.Deep.AppendLies
import Derived.RegionTactic
import Derived.Deep.RegionLaw
import Derived.Laws.ShiftsVarLaws
import Derived.Shelf.Bits.Mul64
import Derived.Shelf.Strconv.Itoa0
import Derived.Deep.Cut
import Derived.Deep.CutRange
import Derived.Deep.RegionHeld3
import Derived.Laws.ResultCell
import Derived.Laws.MakeOwn
set_option linter.all false
set_option maxRecDepth 100000
set_option maxHeartbeats 0
namespace Go.RowKit
def Hid.o{p:Prop}(h:Hid p):p:=h
end Go.RowKit
namespace Go
def Shut.o{p:Prop}(h:Shut p):p:=h
end Go
namespace Go.Proofs.Zz
open Go.RowKit Go.Shelf
def X{p:Prop}(h:p:=by omega):p:=h
def Qb{p:Prop}(h:p:=by simp):p:=h
def Qc{p:Prop}(h:p:=by grind):p:=h
def Qd{p:Prop}(h:p:=by decide):p:=h
def Qe{p:Prop}(h:p:=by kernel_rfl):p:=h
def Qf{p:Prop}(h:p:=by go_num):p:=h
def Qg{p:Prop}(h:p:=by simp_all):p:=h
def Qh{p:Prop}(h:p:=by rfl):p:=h
def Qi{p:Prop}(h:p:=by simp;omega):p:=h
def Qj{a p:Prop}(h:a)(k:a->p:=by omega):p:=k h
def Qw{p:Prop}(h:p:=by simp[intOf];omega):p:=h
abbrev JW:=Option Addr
abbrev KJ:=List Int
abbrev Qu:=List
abbrev Qv:=Nat->Prop
open List renaming length->N,getD->E
open Go.Value renaming slice->Z,int->I,bool->Qo
open Go.Proofs.Tryz renaming prog->V
open Option renaming some->O,none->Qp
open Go.IntKind renaming i64->J
open Bool renaming false->F,true->T
open Go renaming World->U,Value->Qa
open Go.World renaming heap->H,setCell->Ql,cell?->Qm
open _root_.Array renaming size->M
open Go.RowKit renaming Hid->Qk
open Go.Obj renaming cells->Qq
open Go.Ending renaming returned->Qs
variable {α:Type} {C P Q p p0 p1 p2 p3 p4 p5:Prop} {ops:Array Oper} {md:Region.Mode} {S:U->Prop} {G b b0 b1 b2 b3 b4 b5 b6 fuel i k o0 o1 o2 o3 o4 o5 o6 tA tC tG tS:Nat} {listed:Array Bool} {a:Act} {A B W jf w w' w0 w1 wr x:U} {oi:Oper} {n:Int} {ay keys ord src sums xs:KJ} {v v' v0 v1 v2 v3 v4 v5 v6 v7 v8:Qa} {f:FuncId} {args c:Array Qa} {ao:JW} {t:TypeId} {gc:Qa->Qa->Array Qa} {K' Xq:Act->U->Prop}
def eX(a:α):∃z,a=z:=⟨a,rfl⟩
def eY(a:α):∃z,z=a:=⟨a,rfl⟩
@[reducible] def Bw (w x:U):Prop:=RowKit.Below (M (H w)) w x
def QT:=@List.set_cons_succ.{0}
def QU:=@List.set_cons_zero.{0}
def QZ:=@List.take_succ_eq_append_getElem.{0}
def Q0:=@List.map_append.{0,0}
def Q3:=@Bool.and_eq_true
def Q4:=@List.all_eq_true.{0}
def Q5:=@Go.RowKit.Below.refl
def Q6:=@Nat.le_refl
def Q8:=@if_pos.{1}
def Q9:=@List.getElem_of_mem.{0}
def Zc:=@Go.below_drewN
def Zd:=@decide_eq_true_eq
def Ze:=@decide_eq_false_iff_not
def Zf:=@if_neg.{1}
def Zg:=@decide_eq_true
def Zi:=@Bool.true_and
def Zj:=@List.eq_nil_of_length_eq_zero.{0}
def Zk:=@List.setIfInBounds_toArray.{0}
def Zl:=@List.flatMap_cons.{0,0}
def Zm:=@List.length_append.{0}
def Zn:=@List.length_cons.{0}
def Zo:=@List.getElem?_append_right.{0}
def Zp:=@List.getElem?_toArray.{0}
def Zr:=@List.append_nil.{0}
def Zt:=@List.mem_flatMap.{0,0}
def Zx:=@List.range_succ
def Zy:=@Go.ownsRow_setCell_other
def ZA:=@Go.wp_region_held_drew
def ZB:=@Nat.le_trans
def ZC:=@Nat.lt_of_lt_of_le
def ZI:=@Array.getElem?_eq_some_iff.{0}
def ZL:=@decide_eq_false
def ZM:=@List.foldl_cons.{0,0}
def ZO:=@Nat.pow_le_pow_right
def ZP:=@Nat.zero_le
def ZQ:=@Nat.zero_add
def ZR:=@List.length_map.{0,0}
def ZT:=@List.length_range
def ZV:=@List.take_length.{0}
def ZX:=@Bool.eq_iff_iff
def ZY:=@List.mem_range
def ZZ:=@of_decide_eq_true
def Z0:=@List.nodup_nil.{0}
def Z4:=@Nat.add_zero
def Z5:=@Option.bind_some.{0,0}
def Xa:=@Go.World.ownsRow_nil
def Xb:=@List.mem_singleton.{0}
def Xe:=@Go.info_parts
def Xf:=@Go.World.size_alloc
def Xg:=@Nat.pow_lt_pow_right
def Xh:=@List.foldl_append.{0,0}
def Xi:=@List.take_of_length_le.{0}
def Xj:=@Int.eq_ofNat_of_zero_le
def Xk:=@Int.toNat_natCast
def Xl:=@Bool.false_and
def Xm:=@Go.IntKind.wrap_i64
def Xo:=@Go.wpQuiet_nil
def Xr:=@Nat.zero_mul
def Xu:=@List.length_take.{0}
def Xv:=@Nat.lt_or_ge
def Xw:=@beq_eq_false_iff_ne.{0}
def Xx:=@Go.Calls.mono
def Xy:=@Go.bodyPost_ret
def XB:=@List.length_nil.{0}
def XF:=@Go.World.size_setCell
def XG:=@List.getElem?_append_left.{0}
def XH:=@Go.BigFrame.wpQuiet_want
def XJ:=@Array.size_setIfInBounds.{0}
def XK:=@List.length_set.{0}
def XL:=@List.Mem.tail.{0}
def XM:=@List.Mem.head.{0}
def XN:=@Go.DataW.trod_int
def XO:=@Go.DataW.weights_mem_each
def wT{P:Program}{Q:Exit->Act->World->Prop}(i:Nat)(v:Value)(hS:S w)(hy:∀x,S x->(execOp a.eval oi).run P x=.ok (.value v) x)(h:wpAnyH P md ops Q S fuel (listed.setIfInBounds i true) (a.put oi.dst v) w)(hi:ops[i]? = some oi:=by exact rfl)(hs:Region.noSelect ops=true:=by kernel_rfl)(hf:Region.free md ops listed i=true:=by kernel_rfl)(hr:(Region.ready md ops listed).contains i=true:=by kernel_rfl)(hQ:∀c a w,Q (.panic c) (a.put oi.dst v) w->Q (.panic c) a w:=by exact λ_ _ _ h=>h)(hg:Region.wanted oi (yielded ops a.tmps)=true:=by rfl):wpAnyH P md ops Q S (fuel+1) listed a w:=
 wpAnyH_take hi hs hf hr hQ (.inl ⟨hg,hy⟩) hS h
def wV{P:Program}{Q:Exit->Act->World->Prop}(i:Nat)(hS:S w)(h:wpAnyH P md ops Q S fuel (listed.setIfInBounds i true) (a.put oi.dst undef) w)(hi:ops[i]? = some oi:=by exact rfl)(hs:Region.noSelect ops=true:=by kernel_rfl)(hf:Region.free md ops listed i=true:=by kernel_rfl)(hr:(Region.ready md ops listed).contains i=true:=by kernel_rfl)(hQ:∀c a w,Q (.panic c) (a.put oi.dst undef) w->Q (.panic c) a w:=by exact λ_ _ _ h=>h)(hg:Region.wanted oi (yielded ops a.tmps)=false:=by rfl):wpAnyH P md ops Q S (fuel+1) listed a w:=
 wpAnyH_take hi hs hf hr hQ (.inr ⟨hg,rfl⟩) hS h
def wR{P:Program}{Q:Exit->Act->World->Prop}(i:Nat)(h:∀K':Act->World->Prop,Shut (∀a w,S w->(S w->wpAnyH P md ops Q S fuel (listed.setIfInBounds i true) a w)->K' a w)->if Region.wanted oi (yielded ops a.tmps)=true then Oper.wp P oi a w K' Q else K' (a.put oi.dst undef) w)(hi:ops[i]? = some oi:=by exact rfl)(hr:Region.ready md ops listed=[i]:=by kernel_rfl):wpAnyH P md ops Q S (fuel+1) listed a w:=
 wpAnyH_ready hr Qb (AllReadyH.cons hi h AllReadyH.nil)
@[reducible] def aD (b o : Nat) : Addr := ⟨b, o, Qp⟩
theorem sB{α : Type}{x : α}{l : List α}{n : Nat}{a : α} : (x :: l).set (n + 1) a = x :: l.set n a := QT
theorem sC{α : Type}{x : α}{l : List α}{a : α} : (x :: l).set 0 a = a :: l := QU
def I4{a b:Bool}(h:a=b):Ending.returned (Qo a)=Qs (Qo b):=by rw[h]
def LV{k:IntKind}{a b:Int}(h:a=b):Ending.returned (I k a)=Qs (I k b):=by rw[h]
def dK(w:U)(ao:JW)(n:Nat)(f:Nat->Qa):Prop:=
 ∀i,i<n->∃b off,ao=O (aD b off)/\Qm w (aD b (off+i))=O (f i)
def dK.get{w:U}{ao:JW}{n:Nat}{f:Nat->Qa}(h:dK w ao n f){i:Nat}(hi:i<n) :
  ∃b a,ao=O (aD b a)/\∀j,j<n->Qm w (aD b (a+j))=O (f j):=by obtain⟨b,a,rfl,_⟩:=h i hi;refine⟨b,a,rfl,λj g=>?_⟩;obtain⟨k,d,e,l⟩:=h j g;simp_all
def IntsAt(w:U)(ao:JW)(xs:KJ):Prop:=
 N xs<=1152921504606846976/\dK w ao (N xs) (λi=>I J (E xs i 0))
def IntsAt.get{w:U}{ao:JW}{xs:KJ}(h:IntsAt w ao xs){i:Nat}(hi:i<N xs) :
  ∃b a,ao=O (aD b a)/\∀j,j<N xs->Qm w (aD b (a+j))=O (I J (E xs j 0)):=
 dK.get h.2 hi
structure af where
 aO:Int
 rows:Int
 k0:Int
 k1:Int
 k2:Int
 k3:Int
def af.vals(t:af):Array Value:=#[I J t.aO,I J t.rows,I J t.k0,I J t.k1,I J t.k2,I J t.k3]
def tz:af:=⟨0,0,0,0,0,0⟩
def aI(w:U)(ao:JW)(ts:Qu af):Prop:=
 N ts<=192153584101141162/\∀i,i<N ts->∃b off,ao=O (aD b off)/\
  Qm w (aD b (off+i*6))=O (I J (E ts i tz).aO)/\Qm w (aD b (off+i*6+1))=O (I J (E ts i tz).rows)/\
  Qm w (aD b (off+i*6+2))=O (I J (E ts i tz).k0)/\Qm w (aD b (off+i*6+3))=O (I J (E ts i tz).k1)/\
  Qm w (aD b (off+i*6+4))=O (I J (E ts i tz).k2)/\Qm w (aD b (off+i*6+5))=O (I J (E ts i tz).k3)
structure aF where
 not:Bool
 op:Int
 left:Int
 const:Bool
 right:Int
def cz:aF:=⟨F,0,0,F,0⟩
def aF.val(c:aF):Value:=.agg #[Qo c.not,I J c.op,I J c.left,Qo c.const,I J c.right]
def bY(w:U)(ao:JW)(cs:Qu aF):Prop:=
 N cs<=230584300921369395/\∀i,i<N cs->∃b off,ao=O (aD b off)/\
  Qm w (aD b (off+i*5))=O (Qo (E cs i cz).not)/\Qm w (aD b (off+i*5+1))=O (I J (E cs i cz).op)/\
  Qm w (aD b (off+i*5+2))=O (I J (E cs i cz).left)/\Qm w (aD b (off+i*5+3))=O (Qo (E cs i cz).const)/\
  Qm w (aD b (off+i*5+4))=O (I J (E cs i cz).right)
structure aA where
 ad:JW
 cap:Nat
 cs:Qu aF
def lz:aA:=⟨Qp,0,[]⟩
def aA.val(c:aA):Value:=Z c.ad (N c.cs) c.cap
def bM(w:U)(ao:JW)(ls:Qu aA):Prop:=
 N ls<=1152921504606846976/\dK w ao (N ls) (λi=>(E ls i lz).val)/\∀i,i<N ls->bY w (E ls i lz).ad (E ls i lz).cs
structure ai where
 ad:JW
 cap:Nat
 xs:KJ
def ai.val(v:ai):Value:=Z v.ad (N v.xs) v.cap
def ai.At(v:ai)(w:U):Prop:=IntsAt w v.ad v.xs
structure ae where
 src:ai
 bF:JW
 aG:Nat
 wh:Qu aA
 group:Bool
 keys:ai
 sums:ai
 ay:ai
 ord:ai
def ae.cells(q:ae):Array Value:=#[q.src.val,Z q.bF (N q.wh) q.aG,Qo q.group,q.keys.val,q.sums.val,q.ay.val,q.ord.val]
structure ae.At(q:ae)(w:U):Prop where
 src:q.src.At w
 wh:bM w q.bF q.wh
 keys:q.keys.At w
 sums:q.sums.At w
 ay:q.ay.At w
 ord:q.ord.At w
def aP(xs:KJ)(n:Int):Bool:=xs.all λx=>decide (0<=x)&&decide (x<n)
theorem EU(xs:KJ)(n:Int)(k:Nat)(hk:k<N xs):aP (xs.take (k+1)) n=(aP (xs.take k) n&&(decide (0<=xs[k])&&decide (xs[k]<n))):=by grind [aP,List.take_succ_eq_append_getElem]
theorem zQ(xs:KJ)(n:Int)(k:Nat)(hk:k<N xs)(h:xs[k]<0∨n<=xs[k]):aP xs n=false:=by grind [aP,List.getElem_mem]
theorem EW(hk:k<N xs)(hp:aP (xs.take k) n=T)(h1:¬xs[k]<0)(h2:xs[k]<n):aP (xs.take (k+1)) n=true:=by grind [EU]
theorem Cf(hk:k<=N xs)(hlt:¬k<N xs)(hp:aP (xs.take k) n=T):T=aP xs n:=by grind
def bG(xs:KJ):Bool:=decide (∀i,i<N xs->∀j,j<i->E xs i 0≠E xs j 0)
theorem uC{j:Nat}(hi:i<N xs)(hj:j<i)(h:E xs i 0=E xs j 0):F=bG xs:=by grind [bG]
theorem sF(h:∀i,i<N xs->∀j,j<i->E xs i 0≠E xs j 0):T=bG xs:=by grind [bG]
def dn(c:aF)(n:Int):Bool:=
 decide (0<=c.left)&&decide (c.left<n)&&decide (0<=c.op)&&decide (c.op<=2) &&
  (if c.op=2 then !c.const&&decide (c.right=0) else if c.const then decide (-1000<=c.right)&&decide (c.right<=1000) else decide (0<=c.right)&&decide (c.right<=n-1))
def mf(group:Bool)(keys sums ay:KJ):Int:=if group then N keys+1+N sums else N ay
def af.kd(t:af):Nat->Int
 |0=>t.k0
 |1=>t.k1
 |2=>t.k2
 |_=>t.k3
def af.D7(wr:U)(t:af)(ty:TypeId)(m:Nat)(hm:m<4) :
  Qm (wr.alloc (Qq #[I J t.aO,I J t.rows,I J t.k0,I J t.k1,I J t.k2,I J t.k3] ty)) (aD (M (H wr)) (2+m))=O (I J (t.kd m)):=by rcases (by omega:m=0∨m=1∨m=2∨m=3) with rfl|rfl|rfl|rfl <;> simp[af.kd]
def bK(t:af):Bool:=
 decide (1<=t.aO/\t.aO<=4/\0<=t.rows/\t.rows<=1000000/\∀m,m<t.aO.toNat->1<=t.kd m/\t.kd m<=1000000)
theorem uD{t:af}(h:t.aO<1∨4<t.aO∨t.rows<0∨1000000<t.rows):bK t=false:=by unfold bK;grind
theorem mr{t:af}(m:Nat)(hm:m<t.aO.toNat)(h:t.kd m<1∨1000000<t.kd m):bK t=false:=by unfold bK;grind
def sG{t:af}(h1:1<=t.aO)(h2:t.aO<=4)(h3:0<=t.rows)(h4:t.rows<=1000000)(h:∀m,m<t.aO.toNat->1<=t.kd m/\t.kd m<=1000000):bK t=true:=by unfold bK;simp_all
def bQ(ts:Qu af):Bool:=decide (1<=N ts)&&decide (N ts<=8)&&ts.all bK
theorem uE{ts:Qu af}(h:N ts<1):F=bQ ts:=by grind [bQ]
theorem xG{ts:Qu af}(h:8<N ts):F=bQ ts:=by grind [bQ]
theorem pO{ts:Qu af}(hk:k<N ts)(h:bK (E ts k tz)=F):F=bQ ts:=by grind [bQ]
theorem I5{f:α->Bool}{ts:List α}{z:α}(hk:k<N ts)(hp:(ts.take k).all f=T)(h:f (E ts k z)=T):(ts.take (k+1)).all f=true:=by grind [List.take_succ_eq_append_getElem]
theorem EX{ts:Qu af}(h0:¬N ts<1)(h8:¬8<N ts)(hk:k<=N ts)(hlt:¬k<N ts)(hp:(ts.take k).all bK=T):T=bQ ts:=by grind [bQ]
theorem lt_of_cell{o:Nat}(h:Qm w (aD b o)=O v):b<M (H w):=by simp only[World.cell?]at h;grind
def QV:=@I4
def QW:=@LV
def QX:=@dK.get
def QY:=@IntsAt.get
def ax(ts:Qu af)(xs:KJ):Int:=(xs.map λt=>(E ts t.toNat tz).aO).sum
def dC(ts:Qu af)(xs:KJ)(k:Nat)(hk:k<N xs):ax ts (xs.take (k+1))=ax ts (xs.take k)+(E ts xs[k].toNat tz).aO:=by unfold ax;rw[QZ hk,Q0,List.sum_append];simp
def jS{ts:Qu af}(hc:bQ ts=T)(hi:i<N ts):1<=(E ts i tz).aO/\(E ts i tz).aO<=4:=by unfold bQ at hc;rw[Q3]at hc;have h:=Q4.1 hc.2 (E ts i tz) Qg;unfold bK at h;simp_all
def gU(h:aP xs n=T)(hk:k<N xs):0<=xs[k]/\xs[k]<n:=by unfold aP at h;simp_all
def ed{ts:Qu af}{xs:KJ}(hc:bQ ts=T)(ha:aP xs (N ts)=T):∀k,k<=N xs->0<=ax ts (xs.take k)/\ax ts (xs.take k)<=4*k
 |0,_=>by simp[ax]
 |k+1,hk=>by have ih:=ed hc ha k X;rw[dC ts xs k X];have h1:=gU ha (k:=k) X;have h2:=jS hc (i:=(xs[k]'(X)).toNat) X;omega
theorem iF{o:Nat}(h:Qm w (aD b o)=O v)(x:Obj):Qm (w.alloc x) (aD b o)=O v:=
 (Below.cell ((Q5 (M (H w)) w).alloc (Q6 _) x) (p:=(aD b o)) (lt_of_cell h)).trans h
theorem cB(hb:Bw w w'){o:Nat}(h:Qm w (aD b o)=O v):Qm w' (aD b o)=O v:=
 (hb.cell (p:=(aD b o)) (lt_of_cell h)).trans h
def I6(hx:Bw w x)(a0:Qm w ⟨b0,o0,Qp⟩=O v0)(a1:Qm w ⟨b1,o1,Qp⟩=O v1)(a2:Qm w ⟨b2,o2,Qp⟩=O v2)(a3:Qm w ⟨b3,o3,Qp⟩=O v3)(a4:Qm w ⟨b4,o4,Qp⟩=O v4)(a5:Qm w ⟨b5,o5,Qp⟩=O v5)(a6:Qm w ⟨b6,o6,Qp⟩=O v6):Qm x ⟨b0,o0,Qp⟩=O v0/\Qm x ⟨b1,o1,Qp⟩=O v1/\Qm x ⟨b2,o2,Qp⟩=O v2/\Qm x ⟨b3,o3,Qp⟩=O v3/\Qm x ⟨b4,o4,Qp⟩=O v4/\Qm x ⟨b5,o5,Qp⟩=O v5/\Qm x ⟨b6,o6,Qp⟩=O v6:=⟨cB hx a0,cB hx a1,cB hx a2,cB hx a3,cB hx a4,cB hx a5,cB hx a6⟩
def iA(hx:Bw w x)(a0:Qm w ⟨b0,o0,Qp⟩=O v0)(a1:Qm w ⟨b1,o1,Qp⟩=O v1):Qm x ⟨b0,o0,Qp⟩=O v0/\Qm x ⟨b1,o1,Qp⟩=O v1:=⟨cB hx a0,cB hx a1⟩
def TB(hx:Bw w x)(a0:Qm w ⟨b0,o0,Qp⟩=O v0)(a1:Qm w ⟨b1,o1,Qp⟩=O v1)(a2:Qm w ⟨b2,o2,Qp⟩=O v2):Qm x ⟨b0,o0,Qp⟩=O v0/\Qm x ⟨b1,o1,Qp⟩=O v1/\Qm x ⟨b2,o2,Qp⟩=O v2:=⟨cB hx a0,cB hx a1,cB hx a2⟩
def YL(hx:Bw w x)(a0:Qm w ⟨b0,o0,Qp⟩=O v0)(a1:Qm w ⟨b1,o1,Qp⟩=O v1)(a2:Qm w ⟨b2,o2,Qp⟩=O v2)(a3:Qm w ⟨b3,o3,Qp⟩=O v3):Qm x ⟨b0,o0,Qp⟩=O v0/\Qm x ⟨b1,o1,Qp⟩=O v1/\Qm x ⟨b2,o2,Qp⟩=O v2/\Qm x ⟨b3,o3,Qp⟩=O v3:=⟨cB hx a0,cB hx a1,cB hx a2,cB hx a3⟩
def gM(hx:Bw w x)(a0:Qm w ⟨b0,o0,Qp⟩=O v0)(a1:Qm w ⟨b1,o1,Qp⟩=O v1)(a2:Qm w ⟨b2,o2,Qp⟩=O v2)(a3:Qm w ⟨b3,o3,Qp⟩=O v3)(a4:Qm w ⟨b4,o4,Qp⟩=O v4):Qm x ⟨b0,o0,Qp⟩=O v0/\Qm x ⟨b1,o1,Qp⟩=O v1/\Qm x ⟨b2,o2,Qp⟩=O v2/\Qm x ⟨b3,o3,Qp⟩=O v3/\Qm x ⟨b4,o4,Qp⟩=O v4:=⟨cB hx a0,cB hx a1,cB hx a2,cB hx a3,cB hx a4⟩
def I7(hx:Bw w x)(a0:Qm w ⟨b0,o0,Qp⟩=O v0)(a1:Qm w ⟨b1,o1,Qp⟩=O v1)(a2:Qm w ⟨b2,o2,Qp⟩=O v2)(a3:Qm w ⟨b3,o3,Qp⟩=O v3)(a4:Qm w ⟨b4,o4,Qp⟩=O v4)(a5:Qm w ⟨b5,o5,Qp⟩=O v5):Qm x ⟨b0,o0,Qp⟩=O v0/\Qm x ⟨b1,o1,Qp⟩=O v1/\Qm x ⟨b2,o2,Qp⟩=O v2/\Qm x ⟨b3,o3,Qp⟩=O v3/\Qm x ⟨b4,o4,Qp⟩=O v4/\Qm x ⟨b5,o5,Qp⟩=O v5:=⟨cB hx a0,cB hx a1,cB hx a2,cB hx a3,cB hx a4,cB hx a5⟩
def oK(hx:Bw w x){b7 o7:Nat}(a0:Qm w ⟨b0,o0,Qp⟩=O v0)(a1:Qm w ⟨b1,o1,Qp⟩=O v1)(a2:Qm w ⟨b2,o2,Qp⟩=O v2)(a3:Qm w ⟨b3,o3,Qp⟩=O v3)(a4:Qm w ⟨b4,o4,Qp⟩=O v4)(a5:Qm w ⟨b5,o5,Qp⟩=O v5)(a6:Qm w ⟨b6,o6,Qp⟩=O v6)(a7:Qm w ⟨b7,o7,Qp⟩=O v7):Qm x ⟨b0,o0,Qp⟩=O v0/\Qm x ⟨b1,o1,Qp⟩=O v1/\Qm x ⟨b2,o2,Qp⟩=O v2/\Qm x ⟨b3,o3,Qp⟩=O v3/\Qm x ⟨b4,o4,Qp⟩=O v4/\Qm x ⟨b5,o5,Qp⟩=O v5/\Qm x ⟨b6,o6,Qp⟩=O v6/\Qm x ⟨b7,o7,Qp⟩=O v7:=⟨cB hx a0,cB hx a1,cB hx a2,cB hx a3,cB hx a4,cB hx a5,cB hx a6,cB hx a7⟩
theorem dK.below{w w':U}(hb:Bw w w'){ao:JW}{n:Nat}{f:Nat->Qa}(h:dK w ao n f):dK w' ao n f:=λi d=>by obtain⟨b,a,e,g⟩:=h i d;grind [cB]
def IntsAt.below{w w':U}(hb:Bw w w'){ao:JW}{xs:KJ}(h:IntsAt w ao xs):IntsAt w' ao xs:=⟨h.1,h.2.below hb⟩
def aI.below{w w':U}(hb:Bw w w'){ao:JW}{ts:Qu af}(h:aI w ao ts):aI w' ao ts:=⟨h.1,λi m=>by
 obtain⟨b,a,e,d,f,g,j,k,l⟩:=h.2 i m;exact⟨b,a,e,cB hb d,cB hb f,cB hb g,cB hb j,cB hb k,cB hb l⟩⟩
def bY.below{w w':U}(hb:Bw w w'){ao:JW}{cs:Qu aF}(h:bY w ao cs):bY w' ao cs:=⟨h.1,λi l=>by
 obtain⟨b,a,e,d,f,g,j,k⟩:=h.2 i l;exact⟨b,a,e,cB hb d,cB hb f,cB hb g,cB hb j,cB hb k⟩⟩
def bM.below{w w':U}(hb:Bw w w'){ao:JW}{ls:Qu aA}(h:bM w ao ls):bM w' ao ls:=
 ⟨h.1,h.2.1.below hb,λi a=>(h.2.2 i a).below hb⟩
def ae.At.below{w w':U}(hb:Bw w w'){q:ae}(h:q.At w):q.At w':=
 ⟨IntsAt.below hb h.src,h.wh.below hb,IntsAt.below hb h.keys,IntsAt.below hb h.sums,IntsAt.below hb h.ay,IntsAt.below hb h.ord⟩
def bz(w:U)(o:Obj):Bw w (w.alloc o):=(Q5 _ _).alloc (Q6 _) o
def ah{w2:U}(h:Bw w w1)(k:Bw w1 w2):Bw w w2:=h.trans (k.mono h.size)
def lZ(hb:Bw W w1):(∀b o,b<M (H W)->Qm w1 (aD b o)=Qm W (aD b o)):=
 λb o h=>hb.cell (p:=(aD b o)) h
def fw(src:KJ)(wh:Qu (Qu aF))(keys sums ay ord:KJ):Bool:=
 decide (5<N src∨8<N wh∨8<N ay∨4<N keys∨4<N sums∨4<N ord) ||wh.any (λc=>decide (3<N c))
def dD(c:Qu aF)(n:Int):Bool:=decide (0<N c)&&c.all (λx=>dn x n)
def df(wh:Qu (Qu aF))(n:Int):Bool:=wh.all (λc=>dD c n)
def dE(n:Int)(group:Bool)(keys sums ay ord:KJ):Bool:=
 aP ay n&&aP keys n&&aP sums n&&aP ord (mf group keys sums ay)&&bG keys&&bG ord&&(group==decide (N ay=0))&&(group ||decide (N keys+N sums=0))
def checkN(ts:Qu af)(src:KJ)(wh:Qu (Qu aF))(group:Bool)(keys sums ay ord:KJ):Int:=
 if bQ ts=F then 1
 else if fw src wh keys sums ay ord=T then 2
 else if aP src (N ts)=T/\0<N src/\df wh (ax ts src)=T/\dE (ax ts src) group keys sums ay ord=T then 0
 else 3
def ae.kE(q:ae):Qu (Qu aF):=q.wh.map aA.cs
def ae.check(q:ae)(ts:Qu af):Int:=checkN ts q.src.xs q.kE q.group q.keys.xs q.sums.xs q.ay.xs q.ord.xs
def ae.xH{q:ae}{ts:Qu af}(h:bQ ts=F):(1:Int)=q.check ts:=by unfold ae.check checkN;rw[Q8 h]
theorem I8{wh:Qu (Qu aF)}(h:5<N src∨8<N wh∨8<N ay∨4<N keys∨4<N sums∨4<N ord):fw src wh keys sums ay ord=true:=by grind [fw]
def ae.oL{q:ae}{ts:Qu af}(h:bQ ts=T)(hf:fw q.src.xs q.kE q.keys.xs q.sums.xs q.ay.xs q.ord.xs=T):(2:Int)=q.check ts:=by unfold ae.check checkN;simp_all
def kF{a b:Bool}(h:a=T↔b=T):Value.bool a=Qo b:=Qg
theorem EY{wh:Qu (Qu aF)}(h:wh.any (λc=>decide (3<N c))=T):fw src wh keys sums ay ord=true:=by grind [fw]
theorem I9{wh:Qu (Qu aF)}(h:¬(5<N src∨8<N wh∨8<N ay∨4<N keys∨4<N sums∨4<N ord))
  (h':wh.any (λc=>decide (3<N c))=F):fw src wh keys sums ay ord=false:=by grind [fw]
def fH(ls:Qu aA)(k:Nat):Bool:=(ls.take k).any (λc=>decide (3<N c.cs))
def Cg{ls:Qu aA}(hk:k<N ls):fH ls (k+1)=(fH ls k ||decide (3<(E ls k lz).cs.length)):=by unfold fH;rw[QZ hk,List.any_append];simp_all
theorem rf(q:ae):q.kE.any (λc=>decide (3<N c))=fH q.wh (N q.wh):=by unfold fH ae.kE;grind
def Ch{ls:Qu aA}{k:Nat}(hk:k<N ls)(h:fH ls (N ls)=F):(E ls k lz).cs.length<=3:=by unfold fH at h;simp_all
def ae.EZ{q:ae}{ts:Qu af}(h:bQ ts=T)(hf:fw q.src.xs q.kE q.keys.xs q.sums.xs q.ay.xs q.ord.xs=F)
  (hr:¬(aP q.src.xs (N ts)=T/\0<N q.src.xs/\df q.kE (ax ts q.src.xs)=T/\dE (ax ts q.src.xs) q.group q.keys.xs q.sums.xs q.ay.xs q.ord.xs=T)):(3:Int)=q.check ts:=by unfold ae.check checkN;simp_all
def ae.Ja{q:ae}{ts:Qu af}(h:bQ ts=T)(hf:fw q.src.xs q.kE q.keys.xs q.sums.xs q.ay.xs q.ord.xs=F)
  (hr:aP q.src.xs (N ts)=T/\0<N q.src.xs/\df q.kE (ax ts q.src.xs)=T/\dE (ax ts q.src.xs) q.group q.keys.xs q.sums.xs q.ay.xs q.ord.xs=T):(0:Int)=q.check ts:=by unfold ae.check checkN;simp_all
theorem pQ{q:ae}{n:Int}{k:Nat}(hk:k<N q.wh)(h:dD (E q.wh k lz).cs n=F):df q.kE n=false:=by unfold df ae.kE;grind
def nV{q:ae}{n:Int}(h:∀k,k<N q.wh->dD (E q.wh k lz).cs n=T):df q.kE n=true:=by unfold df ae.kE;rw[List.all_map,Q4];intro c a;obtain⟨k,b,rfl⟩:=Q9 a;simp_all
theorem pR{c:Qu aF}(h:¬0<N c):dD c n=false:=by grind [dD]
theorem sH{c:Qu aF}(hk:k<N c)(h:dn (E c k cz) n=F):dD c n=false:=by grind [dD]
theorem pV{c:Qu aF}(h0:0<N c)(h:∀k,k<N c->dn (E c k cz) n=T):dD c n=true:=by grind [dD,List.getElem_of_mem]
def Q7:=@IntsAt.below
def tZ{P:Program}{id:Nat}{Q:Exit->Act->World->Prop}{a:Act}{w:World}{l:Qu Oper}(h:wpQuiet P l.toArray (λx=>Bw w x) (λb=>∀x,Bw w x->Q .normal b x) l a)(hm:P.follows .mixedOrders=true:=by kernel_rfl)(hB:Region.lexB .any l.toArray=true:=by kernel_rfl):(Code.region id l.toArray true).wp P Q a w:=
 wp_region_quiet (C:=λx=>Bw w x) hm hB (Q5 _ _).drew (by simpa using h)
def Calls.within{P:Program}{f:FuncId}{args:Array Qa}{w x:U}{v:Qa}(hx:Bw w x)
  (h:Calls P f args x λe b=>e=Qs v/\Bw x b):Calls P f args x λe a=>e=Qs v/\Bw w a:=
 h.mono λ_ _ ⟨he,hb⟩=>⟨he,ah hx hb⟩
def Calls.sI{P:Program}(hx:Bw w x)
  (h:Calls P f args x λe b=>e=Qs v/\b = x):Calls P f args x λe a=>e=Qs v/\Bw w a:=
 h.mono λ_ _ ⟨he,hb⟩=>⟨he,Qg⟩
def Calls.drawn{P:Program}
  (h:Calls P f args w λe a=>e=Qs v/\∃n,a = w.drewN n):Calls P f args w λe a=>e=Qs v/\Bw w a:=
 h.mono λ_ _ ⟨he,n,hn⟩=>⟨he,by rw[hn];exact Zc (Q5 _ _) n⟩
section
variable {Nq:Int} {group:Bool} {keys sums ay ord:KJ}
theorem Jb(h:¬aP ay Nq=T):dE Nq group keys sums ay ord=false:=by grind [dE]
theorem E8(h:¬aP keys Nq=T):dE Nq group keys sums ay ord=false:=by grind [dE]
theorem E9(h:¬aP sums Nq=T):dE Nq group keys sums ay ord=false:=by grind [dE]
theorem Jc(h:¬aP ord (mf group keys sums ay)=T):dE Nq group keys sums ay ord=false:=by grind [dE]
theorem LW(h:¬bG keys=T):dE Nq group keys sums ay ord=false:=by grind [dE]
theorem LX(h:¬bG ord=T):dE Nq group keys sums ay ord=false:=by grind [dE]
theorem D8:((N ay:Int)==0)=decide (N ay=0):=by grind
theorem Jd(h:¬group=((N ay:Int)==0)):dE Nq group keys sums ay ord=false:=by grind [dE,mf]
theorem LY(hg:group=((N ay:Int)==0))(h:(!((N ay:Int)==0))=T/\0<(N keys:Int)+N sums):dE Nq group keys sums ay ord=false:=by grind [dE]
theorem D9(a1:aP ay Nq=T)(a2:aP keys Nq=T)(a3:aP sums Nq=T)(a4:aP ord (mf group keys sums ay)=T)(a5:bG keys=T)(a6:bG ord=T)
  (hg:group=((N ay:Int)==0)) (h:group=T∨N keys+N sums=0):dE Nq group keys sums ay ord=true:=by grind [dE,D8]
def Je(a1:aP ay Nq=T)(a2:aP keys Nq=T)(a3:aP sums Nq=T)(a4:aP ord (mf group keys sums ay)=T)(a5:bG keys=T)(a6:bG ord=T)
  (hg:group=((N ay:Int)==0)) (h:ay=[]):dE Nq group keys sums ay ord=true:=
 D9 a1 a2 a3 a4 a5 a6 hg (.inl Qg)
theorem Jf(a1:aP ay Nq=T)(a2:aP keys Nq=T)(a3:aP sums Nq=T)(a4:aP ord (mf group keys sums ay)=T)(a5:bG keys=T)(a6:bG ord=T)
  (hg:group=((N ay:Int)==0)) (h:(!((N ay:Int)==0))=F∨(N keys:Int)+N sums<=0):dE Nq group keys sums ay ord=true:=
 D9 a1 a2 a3 a4 a5 a6 hg (by
  grind)
end
def foundAt(r:Int)(b:Bool):Prop:=-1<=r/\decide (0<=r)=b
theorem yQ{p:α->Bool}{xs:List α}{z:α}(hk:k<N xs)(h:p (E xs k z)=T):xs.any p=true:=by grind
theorem any_none{p:α->Bool}{xs:List α}{z:α}(h:∀k,k<N xs->p (E xs k z)=F):xs.any p=false:=by grind [List.getElem_of_mem]
theorem Jg{ts:Qu af}(h1:¬N ts<1)(h8:¬8<N ts):(!(ts.any λt=>!bK t))=bQ ts:=by grind [bQ]
def rq(x n:Int):Bool:=decide (0<=x)&&decide (x<n)
theorem Jh(xs:KJ)(n:Int):(!(xs.any λx=>!rq x n))=aP xs n:=by grind [rq,aP]
def Ji(ls:Qu aA):(ls.any λc=>decide (3<N c.cs))=fH ls (N ls):=by unfold fH;simp_all
def ae.Ea(q:ae):fw q.src.xs q.kE q.keys.xs q.sums.xs q.ay.xs q.ord.xs =
  (decide (5<N q.src.xs∨8<N q.wh∨8<N q.ay.xs∨4<N q.keys.xs∨4<N q.sums.xs∨4<N q.ord.xs) ||fH q.wh (N q.wh)):=by unfold fw;rw[rf];simp[ae.kE]
def Jj{c:aF}{n:Int}(h:rq c.left n=F):F=dn c n:=by refine(Bool.eq_false_iff.2 ?_).symm;intro a;simp only[dn,Q3,Zd]at a;simp only[rq,Bool.and_eq_false_iff,Ze]at h;omega
theorem oM{c:aF}{n:Int}(h:rq c.left n=T)(ho:c.op=0∨c.op=1)(hc:c.const=T):(decide (-1000<=c.right)&&decide (c.right<=1000))=dn c n:=by simp only[rq,Q3,Zd]at h;unfold dn;grind
theorem ru{c:aF}{n:Int}(h:rq c.left n=T)(ho:c.op=0∨c.op=1)(hc:c.const=F):rq c.right n=dn c n:=by simp only[rq,Q3,Zd]at h;unfold dn;rw[Zf X,Zf (by simp[hc]),Zg h.1,Zg h.2,Zg (show 0<=c.op by omega),Zg (show c.op<=2 by omega)];simp only[rq,Bool.and_self,Zi];grind
def zR{c:aF}{n:Int}(h:rq c.left n=T)(ho:c.op=2):(!c.const&&decide (c.right=0))=dn c n:=by simp only[rq,Q3,Zd]at h;unfold dn;simp_all
def zS{c:aF}{n:Int}(h0:¬c.op=0)(h1:¬c.op=1)(h2:¬c.op=2):F=dn c n:=by refine(Bool.eq_false_iff.2 ?_).symm;intro a;simp only[dn,Q3,Zd]at a;omega
def Za:=@tZ
def Zb:=@Calls.within
theorem iB(w:U)(o:Obj):(w.alloc o).heap[M (H w)]? = O o:=by show (w.heap.push o)[M (H w)]? = _;simp
theorem lG(w:U)(c cs:Array Qa)(t:TypeId):(w.alloc (Qq c t)).setRow (M (H w)) cs=w.alloc (Qq cs t):=by unfold World.setRow World.alloc;simp only[World.mk.injEq,and_true];grind
def eu(w:U)(c:Array Qa)(t:TypeId)(i:Nat)(v:Qa):Ql (w.alloc (Qq c t)) (aD (M (H w)) i) v=w.alloc (Qq (c.setIfInBounds i v) t):=by rw[setCell_eq_setRow (w.alloc (Qq c t)) (M (H w)) i c t (0,0) v (iB w _),lG]
theorem addr_add(b off j:Nat):((aD b off):Addr).add j=(aD b (off+j)):=by unfold Addr.add;simp_all
theorem nW{P:Program}(w:U)(dT sT ty elem:TypeId)(size g dLen dCap:Nat)(sp:JW)(sLen sCap:Nat)(cur:Array Qa)(t:TypeId)(cs:Qu Qa)
  (hu:P.underlying dT=O (.slice elem)) (hs:(P.info? elem).map (·.size)=O size) (hg:w.heap[g]? = O (Qq cur t (0,0))) (hle:sLen<=dLen) (hn:N cs=sLen*size)
  (hsrc:0<N cs->∃a,sp=O a/\∀j v,cs[j]? = O v->w.cell? (a.add j)=O v) (hfit:N cs<=cur.size) (h1:∀v∈cs,v.oneCell' = T) :
  (Builtin.copy_ #[dT,sT] ty #[Z (O (aD g 0)) dLen dCap,Z sp sLen sCap]).run P w=.ok (goInt sLen) (w.setRow g (cs++cur.toList.drop (N cs)).toArray):=by
 have f:=run_storeCells_at P g 0 t cs 0 cur w hg X h1;have b:Nat.min sLen dLen=sLen:=Nat.min_eq_left hle
 cases hq:P.info? elem with
 |none=>simp_all
 |some i =>
  have k:i.size=size:=Qg;by_cases m:N cs=0
  .obtain rfl:cs=[]:=Zj m;have d:w.setRow g cur=w:=setRow_self w g cur t (0,0) hg;have e:∀(x:Addr),(loadCells x (sLen*size)).run P w=.ok #[] w:=λx=>by grind [run_loadCells_list]
   cases sp <;> simp[Builtin.copy_,run_underlying hu,Builtin.lenOf,Builtin.firstCells,sizeOf,typeInfo,hq,k,b,storeCells,e,d]
  .obtain⟨a,rfl,l⟩:=hsrc X;have e:=run_loadCells_list (P:=P) w a cs l;rw[hn]at e;simp[Builtin.copy_,run_underlying hu,Builtin.lenOf,Builtin.firstCells,sizeOf,typeInfo,hq,k,b,e,f]
def aK(xs:KJ):Array Value:=(xs.map (Value.int J)++[Value.int J 77777,Value.int J 77777]).toArray
theorem nX(z:Qa)(n:Nat):madeCells #[z] n=(List.replicate n z).toArray:=by
 apply Array.ext_getElem?;intro i;by_cases a:i<n
 .simp[madeCells,a]
  grind
 .simp[madeCells,a]
def uF(xs:KJ):Array Value:=(xs.map (Value.int J)++[Value.int J 0,Value.int J 0]).toArray
def sJ(xs:KJ):Array Value:=(xs.map (Value.int J)++[Value.int J 77777,Value.int J 0]).toArray
def Jk(xs:KJ):(uF xs)[N xs]? = O (I J 0):=by simp[uF]
def Jl(xs:KJ):(sJ xs)[N xs+1]? = O (I J 0):=by simp[sJ]
def Fa(xs:KJ):(uF xs).setIfInBounds (N xs) (I J 77777)=sJ xs:=by simp only[uF,sJ,Zk];simp_all
theorem Fb(xs:KJ):(sJ xs).setIfInBounds (N xs+1) (I J 77777)=aK xs:=by grind [sJ,aK]
def nR(w:U)(xs:KJ)(t:TypeId):Ql (w.alloc (Qq (uF xs) t)) (aD (M (H w)) (N xs)) (I J 77777)=w.alloc (Qq (sJ xs) t):=by rw[eu,Fa]
def nS(w:U)(xs:KJ)(t:TypeId):Ql (w.alloc (Qq (sJ xs) t)) (aD (M (H w)) (N xs+1)) (I J 77777)=w.alloc (Qq (aK xs) t):=by rw[eu,Fb]
theorem wS{P:Program}(w:U)(dT elem:TypeId)(ao:JW)(cap:Nat)(xs:KJ)(hx:IntsAt w ao xs)(hu:P.underlying dT=O (.slice elem))(hs:(P.info? elem).map (·.size)=O 1)(ty:TypeId) :
  (Builtin.copy_ #[dT,dT] ty #[Z (O (aD (M (H w)) 0)) (N xs+2) (N xs+2),Z ao (N xs) cap]).run P (w.alloc (Qq (madeCells #[I J 0] (N xs+2)) elem)) =
   .ok (goInt (N xs)) (w.alloc (Qq (uF xs) elem)):=by
 rw[nW (w.alloc (Qq (madeCells #[I J 0] (N xs+2)) elem)) dT dT ty elem 1 (M (H w)) (N xs+2) (N xs+2) ao (N xs) cap (madeCells #[I J 0] (N xs+2)) elem (xs.map (Value.int J)) hu hs
  (iB _ _) X Qb ?_ (by simp[size_madeCells]) ?_,lG]
 .congr 3;rw[nX]
  grind [uF]
 .intro k;have d:0<N xs:=Qg
  obtain⟨b,f,rfl,g⟩:=hx.get d;refine⟨(aD b f),rfl,λj v i=>?_⟩;have a:j<N xs:=by grind
  have e:=iF (g j a) (Qq (madeCells #[I J 0] (N xs+2)) elem);simp[a]at i;grind [addr_add]
 grind [Value.oneCell']
theorem iX{α:Type}(f:α->Qu Qa)(s:Nat)(hf:∀x,N (f x)=s):∀xs:List α,N (xs.flatMap f)=N xs*s
 |[]=>Qb
 |x::xs=>by rw[Zl,Zm,hf,iX f s hf xs,Zn,Nat.add_mul,Nat.one_mul,Nat.add_comm]
theorem pW{α:Type}(f:α->Qu Qa)(s:Nat)(hf:∀x,N (f x)=s)(z:α):∀(xs:List α) (rest:Qu Qa) (i j:Nat),i<N xs->j<s->(xs.flatMap f++rest)[i*s+j]? = (f (E xs i z))[j]?
 |[],_,i,_,hi,_=>absurd hi Qb
 |x::xs,rest,0,j,_,hj=>by grind
 |x::xs,rest,i+1,j,hi,hj=>by have ih:=pW f s hf z xs rest i j Qg hj;grind
theorem gz(f:α->Qu Qa)(s:Nat)(hf:∀x,N (f x)=s)(xs:List α)(rest:Qu Qa)(j:Nat):(xs.flatMap f++rest)[N xs*s+j]? = rest[j]?:=by grind [iX]
theorem pX(f:α->Qu Qa)(s:Nat)(hf:∀x,N (f x)=s)(xs:List α)(rest:Qu Qa)(j:Nat)(v:Qa):(xs.flatMap f++rest).set (N xs*s+j) v=xs.flatMap f++rest.set j v:=by grind [iX]
theorem Fe(z:Array Qa)(s n:Nat)(hs:z.size=s)(_h0:0<s):(madeCells z ((n+2)*s)).toList.drop (n*s)=z.toList++z.toList:=by
 apply List.ext_getElem?;intro i;rw[List.getElem?_drop];unfold madeCells;rw[Array.toList_map,Array.toList_range,List.getElem?_map];have b:(n+2)*s=n*s+2*s:=Qc;have a:∀i,(n*s+i) % s=i % s:=λi=>Qg;by_cases d:i<2*s
 .grind [Nat.mod_eq_of_lt,List.getElem?_append_right,Nat.mod_eq_sub_mod]
 grind
def aF.vals(c:aF):Qu Value:=[Qo c.not,I J c.op,I J c.left,Qo c.const,I J c.right]
def zc:Qu Value:=[Qo F,I J 0,I J 0,Qo F,I J 0]
def ic:Qu Value:=[Qo F,I J 77777,I J 0,Qo F,I J 0]
def ry(cs:Qu aF):Array Value:=(cs.flatMap aF.vals++(zc++zc)).toArray
def mF(cs:Qu aF):Array Value:=(cs.flatMap aF.vals++(ic++zc)).toArray
def bN(cs:Qu aF):Array Value:=(cs.flatMap aF.vals++(ic++ic)).toArray
def eP(c:aF):N c.vals=5:=rfl
def Ff(cs:Qu aF):(ry cs)[N cs*5+1]? = O (I J 0):=by unfold ry;rw[Zp,gz _ 5 eP];rfl
def Fg(cs:Qu aF):(mF cs)[(N cs+1)*5+1]? = O (I J 0):=by unfold mF;rw[Zp,show (N cs+1)*5+1=N cs*5+6 by omega,gz _ 5 eP];rfl
def Ci(cs:Qu aF):(ry cs).setIfInBounds (N cs*5+1) (I J 77777)=mF cs:=by unfold ry mF;rw[Zk,pX _ 5 eP];rfl
def Cj(cs:Qu aF):(mF cs).setIfInBounds ((N cs+1)*5+1) (I J 77777)=bN cs:=by unfold mF bN;rw[Zk,show (N cs+1)*5+1=N cs*5+6 by omega,pX _ 5 eP];rfl
def uG(w:U)(cs:Qu aF)(t:TypeId):Ql (w.alloc (Qq (ry cs) t)) (aD (M (H w)) (N cs*5+1)) (I J 77777)=w.alloc (Qq (mF cs) t):=by rw[eu,Ci]
def uH(w:U)(cs:Qu aF)(t:TypeId):Ql (w.alloc (Qq (mF cs) t)) (aD (M (H w)) ((N cs+1)*5+1)) (I J 77777)=w.alloc (Qq (bN cs) t):=by rw[eu,Cj]
def gV(t:af):Qu Value:=[I J t.aO,I J t.rows,I J t.k0,I J t.k1,I J t.k2,I J t.k3]
def zt:Qu Value:=[I J 0,I J 0,I J 0,I J 0,I J 0,I J 0]
def it:Qu Value:=[I J 77777,I J 0,I J 0,I J 0,I J 0,I J 0]
def uI(ts:Qu af):Array Value:=(ts.flatMap gV++(zt++zt)).toArray
def pY(ts:Qu af):Array Value:=(ts.flatMap gV++(it++zt)).toArray
def fI(ts:Qu af):Array Value:=(ts.flatMap gV++(it++it)).toArray
def eQ(t:af):N (gV t)=6:=rfl
def Jm(ts:Qu af):(uI ts)[N ts*6]? = O (I J 0):=by unfold uI;rw[Zp,show (N ts)*6=N ts*6+0 by omega,gz _ 6 eQ];rfl
def Jn(ts:Qu af):(pY ts)[(N ts+1)*6]? = O (I J 0):=by unfold pY;rw[Zp,show (N ts+1)*6=N ts*6+6 by omega,gz _ 6 eQ];rfl
def Fh(ts:Qu af):(uI ts).setIfInBounds (N ts*6) (I J 77777)=pY ts:=by unfold uI pY;rw[Zk,show (N ts)*6=N ts*6+0 by omega,pX _ 6 eQ];rfl
def Fj(ts:Qu af):(pY ts).setIfInBounds ((N ts+1)*6) (I J 77777)=fI ts:=by unfold pY fI;rw[Zk,show (N ts+1)*6=N ts*6+6 by omega,pX _ 6 eQ];rfl
theorem qd{P:Program}(w:U)(dT elem:TypeId)(s:Nat)(z:Array Qa)(ao:JW)(n cap:Nat)(cs:Qu Qa)(hs0:0<s)(hz:z.size=s)(hn:N cs=n*s)
  (hc:∀j,j<n*s->∃b a,ao=O (aD b a)/\Qm w (aD b (a+j))=cs[j]?) (h1:∀v∈cs,v.oneCell' = T)
  (hu:P.underlying dT=O (.slice elem)) (hs:(P.info? elem).map (·.size)=O s) (ty:TypeId) :
  (Builtin.copy_ #[dT,dT] ty #[Z (O (aD (M (H w)) 0)) (n+2) (n+2),Z ao n cap]).run P (w.alloc (Qq (madeCells z ((n+2)*s)) elem)) =
   .ok (goInt n) (w.alloc (Qq (cs++(z.toList++z.toList)).toArray elem)):=by
 have i:(madeCells z ((n+2)*s)).size=(n+2)*s:=size_madeCells z _;rw[nW (w.alloc (Qq (madeCells z ((n+2)*s)) elem)) dT dT ty elem s (M (H w)) (n+2) (n+2) ao n cap (madeCells z ((n+2)*s)) elem cs hu hs
  (iB _ _) X hn ?_ Qc h1,lG,hn,Fe z s n hz hs0]
 intro l;obtain⟨b,a,rfl,_⟩:=hc 0 X;refine⟨(aD b a),rfl,λj v m=>?_⟩;have d:j<n*s:=by grind
 obtain⟨k,g,e,f⟩:=hc j d;cases e;grind [addr_add,iF]
def Fp{cs:Qu aF}(h:bY w ao cs):∀j,j<N cs*5->∃b a,ao=O (aD b a)/\Qm w (aD b (a+j))=(cs.flatMap aF.vals)[j]?:=by
 intro j q;obtain⟨b,a,e,i,k,l,m,n⟩:=h.2 (j / 5) X;refine⟨b,a,e,?_⟩;have g:=pW aF.vals 5 eP cz cs [] (j / 5) (j % 5) X X;rw[Zr,show j / 5*5+j % 5=j by omega]at g;rw[g];generalize hd:E cs (j / 5) cz=d at*;have p:j % 5<5:=Nat.mod_lt _ X;rcases (by omega:j % 5=0∨j % 5=1∨j % 5=2∨j % 5=3∨j % 5=4) with f|f|f|f|f
 .rw[show a+j=a+j / 5*5 by omega,i,f];rfl
 .rw[show a+j=a+j / 5*5+1 by omega,k,f];rfl
 .rw[show a+j=a+j / 5*5+2 by omega,l,f];rfl
 .rw[show a+j=a+j / 5*5+3 by omega,m,f];rfl
 .rw[show a+j=a+j / 5*5+4 by omega,n,f];rfl
def Fs(cs:Qu aF):∀v∈cs.flatMap aF.vals,v.oneCell' = true:=by intro v b;rw[Zt]at b;obtain⟨c,_,a⟩:=b;simp only[aF.vals,List.mem_cons,List.mem_nil_iff,or_false]at a;rcases a with rfl|rfl|rfl|rfl|rfl <;> rfl
def Jo{ts:Qu af}(h:aI w ao ts):∀j,j<N ts*6->∃b a,ao=O (aD b a)/\Qm w (aD b (a+j))=(ts.flatMap gV)[j]?:=by
 intro j r;obtain⟨b,a,e,i,k,l,m,n,p⟩:=h.2 (j / 6) X;refine⟨b,a,e,?_⟩;have g:=pW gV 6 eQ tz ts [] (j / 6) (j % 6) X X;rw[Zr,show j / 6*6+j % 6=j by omega]at g;rw[g];generalize hd:E ts (j / 6) tz=d at*;have q:j % 6<6:=Nat.mod_lt _ X;rcases (by omega:j % 6=0∨j % 6=1∨j % 6=2∨j % 6=3∨j % 6=4∨j % 6=5) with f|f|f|f|f|f
 .rw[show a+j=a+j / 6*6 by omega,i,f];rfl
 .rw[show a+j=a+j / 6*6+1 by omega,k,f];rfl
 .rw[show a+j=a+j / 6*6+2 by omega,l,f];rfl
 .rw[show a+j=a+j / 6*6+3 by omega,m,f];rfl
 .rw[show a+j=a+j / 6*6+4 by omega,n,f];rfl
 .rw[show a+j=a+j / 6*6+5 by omega,p,f];rfl
def Jp(ts:Qu af):∀v∈ts.flatMap gV,v.oneCell' = true:=by intro v b;rw[Zt]at b;obtain⟨c,_,a⟩:=b;simp only[gV,List.mem_cons,List.mem_nil_iff,or_false]at a;rcases a with rfl|rfl|rfl|rfl|rfl|rfl <;> rfl
def GB(w:U)(G:Nat)(t:TypeId)(c:Array Qa):Prop:=w.heap[G]? = O (Qq c t (0,0))
def aY(w:U)(c:Array Qa)(t:TypeId):∃x,w.alloc (Qq c t)=x/\Bw w x/\GB x (M (H w)) t c:=⟨_,rfl,bz _ _,iB _ _⟩
theorem GB.cell{w:U}{G:Nat}{t:TypeId}{c:Array Qa}(h:GB w G t c)(i:Nat):Qm w (aD G i)=c[i]?:=by unfold GB at h;simp[World.cell?,h]
theorem GB.frozen{w:U}{G:Nat}{t:TypeId}{c:Array Qa}(h:GB w G t c)(i:Nat):w.frozen? (aD G i)=false:=by unfold GB at h;simp[World.frozen?,h]
theorem GB.lt(h:GB w G t c):G<M (H w):=by unfold GB at h;grind
theorem GB.set(h:GB w G t c)(i:Nat)(v:Qa):GB (Ql w (aD G i) v) G t (c.setIfInBounds i v):=by unfold GB at*;rw[setCell_eq_setRow w G i c t (0,0) v h];grind [setRow_heap]
theorem GB.of(h:GB w G t c)(e:w'.heap[G]? = w.heap[G]?):GB w' G t c:=by unfold GB at*;simp_all
def heap_setCell{w:U}{a:Addr}{v:Qa}{k:Nat}(h:k≠a.block):(w.setCell a v).heap[k]? = w.heap[k]?:=Below.heap_setCell _ _ _ _ h
def heap_alloc{w:U}{o:Obj}{k:Nat}(h:k<M (H w)):(w.alloc o).heap[k]? = w.heap[k]?:=Below.heap_alloc _ _ _ h
structure lH(jf w0 wr:U)(G tG tC tA tS n:Nat)(gc:Qa->Qa->Array Qa)(ls:Qu aA)(k:Nat)(v:Qa)(A:Nat->Nat):Prop where
 jC:Bw jf wr
 zT:∀j,j<M (H w0)->j≠G->wr.heap[j]? = w0.heap[j]?
 xI:M (H w0)<M (H wr)
 g:GB wr G tG (gc (Z (O (aD (M (H w0)) 0)) (n+2) (n+2)) v)
 row:wr.rowIs (M (H w0)) tC (n+2) (λi=>if i<k then Z (O (aD (A i) 0)) (E ls i lz).cs.length ((E ls i lz).cs.length+2) else Z Qp 0 0)
 al:∀i,i<k->M (H w0)<A i/\GB wr (A i) tS (bN (E ls i lz).cs)
 own:wr.ownsRow (M (H w0)) tA 1 v k ((List.range k).map λi=>Z (O (aD (A i) 0)) ((E ls i lz).cs.length+2) ((E ls i lz).cs.length+2))
structure LZ(jf w0 wr w1:U)(G tG tC tS n:Nat)(gc:Qa->Qa->Array Qa)(ls:Qu aA)(k:Nat)(v v':Qa)(A:Nat->Nat)(cs:Qu aF):Prop where
 jC:Bw jf w1
 zT:∀j,j<M (H w0)->j≠G->w1.heap[j]? = w0.heap[j]?
 xI:M (H w0)<M (H w1)
 YM:M (H w0)<M (H wr)
 g:GB w1 G tG (gc (Z (O (aD (M (H w0)) 0)) (n+2) (n+2)) v)
 row:w1.rowIs (M (H w0)) tC (n+2) (λi=>if i<k then Z (O (aD (A i) 0)) (E ls i lz).cs.length ((E ls i lz).cs.length+2) else Z Qp 0 0)
 al:∀i,i<k->M (H w0)<A i/\GB w1 (A i) tS (bN (E ls i lz).cs)
 new:GB w1 (M (H wr)) tS (bN cs)
 sh:∃g cap,v' = Z (O (aD g 0)) (k+1) cap
theorem lH.mid{n:Nat}{ls:Qu aA}{A:Nat->Nat}{cs:Qu aF}{Yq:Obj}{xs:Qu Qa}
  (h:lH jf w0 wr G tG tC tA tS n gc ls k v A) (YN:tA≠tC) (hAS:tA≠tS) (hG:G<M (H w0)) (NU:M (H jf)<=G)
  (hown:w1.ownsRow (M (H w0)) tA 1 v' (k+1) xs) (_hx:N xs=k+1) (hgr:((wr.alloc (Qq (bN cs) tS)).alloc Yq).grownBy w1 v.ownBlock) :
  LZ jf w0 wr w1 G tG tC tS n gc ls k v v' A cs:=by
 have z:=h.own.lt;have f:=h.xI;have a:∀j,j<M (H wr)->O j≠v.ownBlock->w1.heap[j]? = wr.heap[j]?:=λj d e=>by rw[hgr.block j Qi e,heap_alloc Qi,heap_alloc d]
 have l:∀j c t,wr.heap[j]? = O (Qq c t (0,0))->t≠tA->O j≠v.ownBlock:=λj c t d D p=>by
  rcases h.own.2 with⟨rfl,_⟩|⟨g,cap,cur,rfl,_,hh,_⟩
  .grind [Value.ownBlock]
  .simp[Value.ownBlock]at p
   simp_all
 have b:∀j,j<M (H w0)->O j≠v.ownBlock:=λj d p=>by grind
 refine⟨?_,λj d e=>?_,?_,f,?_,?_,λi y=>⟨(h.al i y).1,?_⟩,?_,?_⟩
 .have q:=(h.jC.alloc h.jC.size (Qq (bN cs) tS))
  have B:=q.alloc q.size Yq;exact B.grown hgr (by have:=h.jC.size;simp;omega) (λj d=>Qc)
 .rw[a j X (b j d)];exact h.zT j d e
 .have:=hgr.size;simp at this;omega
 .exact h.g.of (a G X (b G hG))
 .obtain⟨c,r,C,u⟩:=h.row;exact⟨c,(a _ f (l _ _ _ r (Ne.symm YN))).trans r,C,u⟩
 .have m:=(h.al i y).2;exact m.of (a _ m.lt (l _ _ _ m (Ne.symm hAS)))
 .show w1.heap[M (H wr)]? = _
  rw[hgr.block (M (H wr)) Qi (λp=>Qc),heap_alloc Qb,iB]
 .rcases hown.2 with⟨_,hnil⟩|⟨g,cap,cur,u,_⟩
  .omega
  simp_all
theorem LZ.next{n:Nat}{ls:Qu aA}{A:Nat->Nat}{cs:Qu aF}
  (Mq:LZ jf w0 wr w1 G tG tC tS n gc ls k v v' A cs) (hgc:∀x y y',(gc x y).setIfInBounds 12 y' = gc x y') (hG:G<M (H w0)) (NU:M (H jf)<=G) (hcs:(E ls k lz).cs=cs)
  (YN:tA≠tC) (_hAS:tA≠tS) (_hAG:tA≠tG)
  (hown:w1.ownsRow (M (H w0)) tA 1 v' (k+1) (((List.range k).map λi=>Value.slice (O (aD (A i) 0)) ((E ls i lz).cs.length+2) ((E ls i lz).cs.length+2))++[Value.slice (O (aD (M (H wr)) 0)) (N cs+2) (N cs+2)])) :
  lH jf w0 (Ql (Ql w1 (aD G 12) v') (aD (M (H w0)) k) (Z (O (aD (M (H wr)) 0)) (N cs) (N cs+2))).drew G tG tC tA tS n gc ls (k+1) v' (λi=>if i=k then M (H wr) else A i):=by
 have l:=Mq.YM;have t:=Mq.xI;have u:∀i,i<k->A i≠M (H wr)∨True:=λ_ _=>.inr trivial;have b:∀j,j≠G->j≠M (H w0)->((Ql (Ql w1 (aD G 12) v') (aD (M (H w0)) k) (Z (O (aD (M (H wr)) 0)) (N cs) (N cs+2))).drew).heap[j]? = w1.heap[j]?:=λj d D=>by show (Ql (Ql w1 (aD G 12) v') (aD (M (H w0)) k) _).heap[j]? = _;rw[heap_setCell D,heap_setCell d]
 refine⟨?_,λj P m=>?_,?_,?_,?_,λi K=>?_,?_⟩
 .have z:=Mq.jC.size;exact((Mq.jC.setCell (p:=(aD G 12)) NU v').setCell (p:=(aD (M (H w0)) k)) Qc _).drew
 .rw[b j m X]
  grind [LZ.zT]
 .simp_all
 .have d:=Mq.g.set 12 v';rw[hgc]at d;exact d.of (by show (Ql (Ql w1 (aD G 12) v') (aD (M (H w0)) k) _).heap[G]? = _;rw[heap_setCell Qc])
 .have d:=(Mq.row.setOther (a:=(aD G 12)) Qc v').set k (Z (O (aD (M (H wr)) 0)) (N cs) (N cs+2));refine(d.drew).congr λi K=>?_
  grind
 .by_cases f:i=k
  .subst f;simp only[if_true];refine⟨l,?_⟩;rw[hcs];exact Mq.new.of (b _ X X)
  .simp only[f,if_false];have r:=Mq.al i X;exact⟨r.1,r.2.of (b _ X X)⟩
 .have e:((List.range (k+1)).map λi=>Value.slice (O ⟨(λi=>if i=k then M (H wr) else A i) i,0,Qp⟩) ((E ls i lz).cs.length+2) ((E ls i lz).cs.length+2)) =
    (((List.range k).map λi=>Value.slice (O (aD (A i) 0)) ((E ls i lz).cs.length+2) ((E ls i lz).cs.length+2))++[Value.slice (O (aD (M (H wr)) 0)) (N cs+2) (N cs+2)]):=by
   rw[Zx,Q0];congr 1
   .apply List.map_congr_left
    grind
   simp_all
  rw[e];have B:v'.ownBlock≠O G:=λq=>Qj (hown.lt _ q);have C:v'.ownBlock≠O (M (H w0)):=λq=>by
   obtain⟨c,L,_⟩:=Mq.row;rcases hown.2 with⟨rfl,_⟩|⟨g,cap,cur,rfl,_,hh,_⟩
   .omega
   .simp[Value.ownBlock]at q
    simp_all
  exact(Zy (Zy hown B v') C _).drew
def Zu:=@GB.cell
def Zv:=@heap_setCell
def Zw:=@heap_alloc
theorem GB.at(h:GB w G t c)(i:Nat)(hv:c.toList[i]? = some v:=by exact rfl):w.cell? (aD G i)=some v:=by grind [GB.cell]
def hd(h:p):Qk p:=h
theorem pA(l:Qu Qa)(d)(i:Nat)(v:Qa):Act.put { tmps:=l.toArray,defers:=d } (O i) v = { tmps:=(l.set i v).toArray,defers:=d }:=by simp[Act.put]
theorem pU:(∀(l:Qu Qa) (d) (i:Nat) (v:Qa),Act.put { tmps:=l.toArray,defers:=d } (O i) v = { tmps:=(l.set i v).toArray,defers:=d })/\(∀{x:Qa} {l:Qu Qa} {n:Nat} {a:Qa},(x::l).set (n+1) a=x::l.set n a)/\(∀{x:Qa} {l:Qu Qa} {a:Qa},(x::l).set 0 a=a::l):=⟨pA,QT,QU⟩
def wt{P:Program}{Q:Exit->Act->World->Prop}(i:Nat)(v:Value)(hS:S w)(h:wpAnyH P md ops Q S fuel (listed.setIfInBounds i true) (a.put oi.dst v) w)(hi:ops[i]? = some oi:=by exact rfl)(hs:Region.noSelect ops=true:=by kernel_rfl)(hf:Region.free md ops listed i=true:=by kernel_rfl)(hr:(Region.ready md ops listed).contains i=true:=by kernel_rfl)(hQ:∀c a w,Q (.panic c) (a.put oi.dst v) w->Q (.panic c) a w:=by exact λ_ _ _ h=>h)(hg:Region.wanted oi (yielded ops a.tmps)=true:=by rfl)(hy:∀x,S x->(execOp a.eval oi).run P x=.ok (.value v) x:=by intro x b;go_simp):wpAnyH P md ops Q S (fuel+1) listed a w:=
 wpAnyH_take hi hs hf hr hQ (.inl ⟨hg,hy⟩) hS h
def wg{P:Program}{Q:Exit->Act->World->Prop}(i:Nat)(v:Value)(hS:S w)(h:wpAnyH P md ops Q S fuel (listed.setIfInBounds i true) (a.put oi.dst v) w)(hi:ops[i]? = some oi:=by exact rfl)(hs:Region.noSelect ops=true:=by kernel_rfl)(hf:Region.free md ops listed i=true:=by kernel_rfl)(hr:(Region.ready md ops listed).contains i=true:=by kernel_rfl)(hQ:∀c a w,Q (.panic c) (a.put oi.dst v) w->Q (.panic c) a w:=by exact λ_ _ _ h=>h)(hg:Region.wanted oi (yielded ops a.tmps)=true:=by kernel_rfl)(hy:∀x,S x->(execOp a.eval oi).run P x=.ok (.value v) x:=by intro x b;go_simp):wpAnyH P md ops Q S (fuel+1) listed a w:=
 wpAnyH_take hi hs hf hr hQ (.inl ⟨hg,hy⟩) hS h
def wm{P:Program}{Q:Exit->Act->World->Prop}(i:Nat)(v:Value)(hS:S w)(h:wpAnyH P md ops Q S fuel (listed.setIfInBounds i true) (a.put oi.dst v) w)(hi:ops[i]? = some oi:=by exact rfl)(hs:Region.noSelect ops=true:=by kernel_rfl)(hf:Region.free md ops listed i=true:=by kernel_rfl)(hr:(Region.ready md ops listed).contains i=true:=by kernel_rfl)(hQ:∀c a w,Q (.panic c) (a.put oi.dst v) w->Q (.panic c) a w:=by exact λ_ _ _ h=>by cases h.1)(hg:Region.wanted oi (yielded ops a.tmps)=true:=by kernel_rfl)(hy:∀x,S x->(execOp a.eval oi).run P x=.ok (.value v) x:=by intro x b;go_simp):wpAnyH P md ops Q S (fuel+1) listed a w:=
 wpAnyH_take hi hs hf hr hQ (.inl ⟨hg,hy⟩) hS h
def wtc{P:Program}{Q:Exit->Act->World->Prop}{o:Nat}{u:Value}(i:Nat)(v:Value)(hS:Bw W w)(c:W.cell? (aD b o)=some u)(h:wpAnyH P md ops Q (λx=>Bw W x) fuel (listed.setIfInBounds i true) (a.put oi.dst v) w)(hi:ops[i]? = some oi:=by exact rfl)(hs:Region.noSelect ops=true:=by kernel_rfl)(hf:Region.free md ops listed i=true:=by kernel_rfl)(hr:(Region.ready md ops listed).contains i=true:=by kernel_rfl)(hQ:∀c a w,Q (.panic c) (a.put oi.dst v) w->Q (.panic c) a w:=by exact λ_ _ _ h=>h)(hg:Region.wanted oi (yielded ops a.tmps)=true:=by rfl)(hy:∀x,x.cell? (aD b o)=some u->(execOp a.eval oi).run P x=.ok (.value v) x:=by intro x d;go_simp):wpAnyH P md ops Q (λx=>Bw W x) (fuel+1) listed a w:=
 wpAnyH_take hi hs hf hr hQ (.inl ⟨hg,λx d=>hy x (cB d c)⟩) hS h
def Wv(_:Qa):Prop:=True
def OO{p:Qa->Prop}(_:Wv v)(h:p v):∃x,p x:=⟨v,h⟩
def qS(v:Qa)(k:Q)(h:Wv v->Q->P:=by
  intro a b;go_big_quiet_want;refine OO a ⟨λx d=>?_,?_⟩
  .go_simp
  .simp only[pU];go_big_quiet_on;exact b):P:=h trivial k
def qC(v:Qa)(c:C)(k:Q)(h:Wv v->C->Q->P:=by
  intro a c b;go_big_quiet_want;refine OO a ⟨λx d=>?_,?_⟩
  .have e:=cB d c;go_simp
  .simp only[pU];go_big_quiet_on;exact b):P:=h trivial c k
theorem GB.k2(h:GB w G t c)(e:c.toList.take 2=[v0,v1]:=by exact rfl):w.cell? (aD G 0)=some v0/\w.cell? (aD G 1)=some v1:=by have r:∀i,i<2->c.toList[i]? = ([v0,v1]:Qu Value)[i]?:=λi a=>Qc;grind [GB.at]
theorem GB.k3(h:GB w G t c)(e:c.toList.take 3=[v0,v1,v2]:=by exact rfl):w.cell? (aD G 0)=some v0/\w.cell? (aD G 1)=some v1/\w.cell? (aD G 2)=some v2:=by have r:∀i,i<3->c.toList[i]? = ([v0,v1,v2]:Qu Value)[i]?:=λi a=>Qc;grind [GB.at]
theorem GB.k4(h:GB w G t c)(e:c.toList.take 4=[v0,v1,v2,v3]:=by exact rfl):w.cell? (aD G 0)=some v0/\w.cell? (aD G 1)=some v1/\w.cell? (aD G 2)=some v2/\w.cell? (aD G 3)=some v3:=by have r:∀i,i<4->c.toList[i]? = ([v0,v1,v2,v3]:Qu Value)[i]?:=λi a=>Qc;grind [GB.at]
theorem GB.k5(h:GB w G t c)(e:c.toList.take 5=[v0,v1,v2,v3,v4]:=by exact rfl):w.cell? (aD G 0)=some v0/\w.cell? (aD G 1)=some v1/\w.cell? (aD G 2)=some v2/\w.cell? (aD G 3)=some v3/\w.cell? (aD G 4)=some v4:=by have r:∀i,i<5->c.toList[i]? = ([v0,v1,v2,v3,v4]:Qu Value)[i]?:=λi a=>Qc;exact⟨h.at 0 (r 0 Qd),h.at 1 (r 1 Qd),h.at 2 (r 2 Qd),h.at 3 (r 3 Qd),h.at 4 (r 4 Qd)⟩
theorem GB.k6(h:GB w G t c)(e:c.toList.take 6=[v0,v1,v2,v3,v4,v5]:=by exact rfl):w.cell? (aD G 0)=some v0/\w.cell? (aD G 1)=some v1/\w.cell? (aD G 2)=some v2/\w.cell? (aD G 3)=some v3/\w.cell? (aD G 4)=some v4/\w.cell? (aD G 5)=some v5:=by have r:∀i,i<6->c.toList[i]? = ([v0,v1,v2,v3,v4,v5]:Qu Value)[i]?:=λi a=>Qc;exact⟨h.at 0 (r 0 Qd),h.at 1 (r 1 Qd),h.at 2 (r 2 Qd),h.at 3 (r 3 Qd),h.at 4 (r 4 Qd),h.at 5 (r 5 Qd)⟩
theorem GB.k7(h:GB w G t c)(e:c.toList.take 7=[v0,v1,v2,v3,v4,v5,v6]:=by exact rfl):w.cell? (aD G 0)=some v0/\w.cell? (aD G 1)=some v1/\w.cell? (aD G 2)=some v2/\w.cell? (aD G 3)=some v3/\w.cell? (aD G 4)=some v4/\w.cell? (aD G 5)=some v5/\w.cell? (aD G 6)=some v6:=by have r:∀i,i<7->c.toList[i]? = ([v0,v1,v2,v3,v4,v5,v6]:Qu Value)[i]?:=λi a=>Qc;exact⟨h.at 0 (r 0 Qd),h.at 1 (r 1 Qd),h.at 2 (r 2 Qd),h.at 3 (r 3 Qd),h.at 4 (r 4 Qd),h.at 5 (r 5 Qd),h.at 6 (r 6 Qd)⟩
theorem GB.k8(h:GB w G t c)(e:c.toList.take 8=[v0,v1,v2,v3,v4,v5,v6,v7]:=by exact rfl):w.cell? (aD G 0)=some v0/\w.cell? (aD G 1)=some v1/\w.cell? (aD G 2)=some v2/\w.cell? (aD G 3)=some v3/\w.cell? (aD G 4)=some v4/\w.cell? (aD G 5)=some v5/\w.cell? (aD G 6)=some v6/\w.cell? (aD G 7)=some v7:=by have r:∀i,i<8->c.toList[i]? = ([v0,v1,v2,v3,v4,v5,v6,v7]:Qu Value)[i]?:=λi a=>Qc;exact⟨h.at 0 (r 0 Qd),h.at 1 (r 1 Qd),h.at 2 (r 2 Qd),h.at 3 (r 3 Qd),h.at 4 (r 4 Qd),h.at 5 (r 5 Qd),h.at 6 (r 6 Qd),h.at 7 (r 7 Qd)⟩
theorem GB.k9(h:GB w G t c)(e:c.toList.take 9=[v0,v1,v2,v3,v4,v5,v6,v7,v8]:=by exact rfl):w.cell? (aD G 0)=some v0/\w.cell? (aD G 1)=some v1/\w.cell? (aD G 2)=some v2/\w.cell? (aD G 3)=some v3/\w.cell? (aD G 4)=some v4/\w.cell? (aD G 5)=some v5/\w.cell? (aD G 6)=some v6/\w.cell? (aD G 7)=some v7/\w.cell? (aD G 8)=some v8:=by have r:∀i,i<9->c.toList[i]? = ([v0,v1,v2,v3,v4,v5,v6,v7,v8]:Qu Value)[i]?:=λi a=>Qc;exact⟨h.at 0 (r 0 Qd),h.at 1 (r 1 Qd),h.at 2 (r 2 Qd),h.at 3 (r 3 Qd),h.at 4 (r 4 Qd),h.at 5 (r 5 Qd),h.at 6 (r 6 Qd),h.at 7 (r 7 Qd),h.at 8 (r 8 Qd)⟩
theorem GB.k13(h:GB w G t c){v9 v10 v11 v12:Value}(e:c.toList.take 13=[v0,v1,v2,v3,v4,v5,v6,v7,v8,v9,v10,v11,v12]:=by exact rfl):w.cell? (aD G 0)=some v0/\w.cell? (aD G 1)=some v1/\w.cell? (aD G 2)=some v2/\w.cell? (aD G 3)=some v3/\w.cell? (aD G 4)=some v4/\w.cell? (aD G 5)=some v5/\w.cell? (aD G 6)=some v6/\w.cell? (aD G 7)=some v7/\w.cell? (aD G 8)=some v8/\w.cell? (aD G 9)=some v9/\w.cell? (aD G 10)=some v10/\w.cell? (aD G 11)=some v11/\w.cell? (aD G 12)=some v12:=by have r:∀i,i<13->c.toList[i]? = ([v0,v1,v2,v3,v4,v5,v6,v7,v8,v9,v10,v11,v12]:Qu Value)[i]?:=λi a=>Qc;exact⟨h.at 0 (r 0 Qd),h.at 1 (r 1 Qd),h.at 2 (r 2 Qd),h.at 3 (r 3 Qd),h.at 4 (r 4 Qd),h.at 5 (r 5 Qd),h.at 6 (r 6 Qd),h.at 7 (r 7 Qd),h.at 8 (r 8 Qd),h.at 9 (r 9 Qd),h.at 10 (r 10 Qd),h.at 11 (r 11 Qd),h.at 12 (r 12 Qd)⟩
def wH{P:Program}{Q:Exit->Act->World->Prop}{id:Nat}(w:World)(h:Bw w w.drew->wpAnyH P .any ops Q (λx=>Bw w x) ops.size (Array.replicate ops.size false) a w.drew)(hm:P.follows .mixedOrders=true:=by kernel_rfl):(Code.region id ops true).wp P Q a w:=
 ZA hm ((Q5 _ _).drew) h
def wD{P:Program}{Q:Exit->Act->World->Prop}(h:Q .normal a w)(hr:Region.ready md ops listed=[]:=by kernel_rfl):wpAnyH P md ops Q S fuel listed a w:=wpAnyH_done hr h fuel
def oT(hK:Shut (∀a w,Bw W w->(Bw W w->Xq a w)->K' a w))(hS:Bw W w)(hb:Bw w w')(h:Bw W w'->Xq a w'):K' a w':=hK.o _ _ (hS.trans (hb.mono hS.size)) h
def oA(hK:Shut (∀a w,Bw W w->(Bw W w->Xq a w)->K' a w)){o:Obj}(hS:Bw W w)(h:Bw W (w.alloc o)->Xq a (w.alloc o)):K' a (w.alloc o):=hK.o _ _ (hS.trans ((bz _ _).mono hS.size)) h
def wJ{P:Program}{Q:Exit->Act->World->Prop}{oj:Oper}(i j:Nat)(h:∀K':Act->World->Prop,Shut (∀a w,S w->(S w->wpAnyH P md ops Q S fuel (listed.setIfInBounds i true) a w)->K' a w)->if Region.wanted oi (yielded ops a.tmps)=true then Oper.wp P oi a w K' Q else K' (a.put oi.dst undef) w)(h2:∀K':Act->World->Prop,Shut (∀a w,S w->(S w->wpAnyH P md ops Q S fuel (listed.setIfInBounds j true) a w)->K' a w)->if Region.wanted oj (yielded ops a.tmps)=true then Oper.wp P oj a w K' Q else K' (a.put oj.dst undef) w)(hi:ops[i]? = some oi:=by exact rfl)(hj:ops[j]? = some oj:=by exact rfl)(hr:Region.ready md ops listed=[i,j]:=by kernel_rfl):wpAnyH P md ops Q S (fuel+1) listed a w:=
 wpAnyH_ready hr Qb (AllReadyH.cons hi h (AllReadyH.cons hj h2 AllReadyH.nil))
def Zh(h:p):Qk p:=h
def bV(a0:p0)(a1:p1):Qk p0/\Qk p1:=⟨a0,a1⟩
def kH(a0:p0)(a1:p1)(a2:p2):Qk p0/\Qk p1/\Qk p2:=⟨a0,a1,a2⟩
def L6(a0:p0)(a1:p1)(a2:p2)(a3:p3):Qk p0/\Qk p1/\Qk p2/\Qk p3:=⟨a0,a1,a2,a3⟩
def OP(a0:p0)(a1:p1)(a2:p2)(a3:p3)(a4:p4)(a5:p5):Qk p0/\Qk p1/\Qk p2/\Qk p3/\Qk p4/\Qk p5:=⟨a0,a1,a2,a3,a4,a5⟩
def YO{p6:Prop}(a0:p0)(a1:p1)(a2:p2)(a3:p3)(a4:p4)(a5:p5)(a6:p6):Qk p0/\Qk p1/\Qk p2/\Qk p3/\Qk p4/\Qk p5/\Qk p6:=⟨a0,a1,a2,a3,a4,a5,a6⟩
structure ag where
 kind:Int
 l:Int
 r:Int
 source:Int
 cl:ai
 key:Int
 co:ai
def nz:ag:=⟨0,0,0,0,⟨Qp,0,[]⟩,0,⟨Qp,0,[]⟩⟩
def bL(w:U)(ao:JW)(ns:Qu ag):Prop:=
 N ns<=164703072086692425/\∀i,i<N ns->∃b off,ao=O (aD b off)/\
  Qm w (aD b (off+i*7))=O (I J (E ns i nz).kind)/\Qm w (aD b (off+i*7+1))=O (I J (E ns i nz).l)/\
  Qm w (aD b (off+i*7+2))=O (I J (E ns i nz).r)/\Qm w (aD b (off+i*7+3))=O (I J (E ns i nz).source)/\
  Qm w (aD b (off+i*7+4))=O (E ns i nz).cl.val/\Qm w (aD b (off+i*7+5))=O (I J (E ns i nz).key)/\
  Qm w (aD b (off+i*7+6))=O (E ns i nz).co.val/\(E ns i nz).cl.At w/\(E ns i nz).co.At w
def ag.same(a b:ag):Prop:=a.kind=b.kind/\a.l=b.l/\a.r=b.r/\a.source=b.source/\a.cl.xs=b.cl.xs/\a.key=b.key/\a.co.xs=b.co.xs
def bL.below{w w':U}(hb:Bw w w'){ao:JW}{ns:Qu ag}(h:bL w ao ns):bL w' ao ns:=
 ⟨h.1,λi q=>by
  obtain⟨b,a,e,d,f,g,j,k,l,m,n,p⟩:=h.2 i q;exact⟨b,a,e,cB hb d,cB hb f,cB hb g,cB hb j,cB hb k,cB hb l,cB hb m,Q7 hb n,Q7 hb p⟩⟩
def XA:=@bL.below
section
structure Kept(s:Qv)(A B:U):Prop where
 os:B.os=A.os
 tape:B.tape=A.tape
 output:B.output=A.output
 size:M (H A)<=M (H B)
 block:∀k,k<M (H A)->s k->B.heap[k]? = A.heap[k]?
def Kept.refl(s:Qv)(A:U):Kept s A A:=⟨rfl,rfl,rfl,Q6 _,λ_ _ _=>rfl⟩
def Kept.trans{s:Qv}{A B C:U}(h:Kept s A B)(k:Kept s B C):Kept s A C:=
 ⟨k.os.trans h.os,k.tape.trans h.tape,k.output.trans h.output,ZB h.size k.size,λi a b=>(k.block i (ZC a h.size) b).trans (h.block i a b)⟩
def Kept.mono{s t:Qv}{A B:U}(h:Kept s A B)(hs:∀b,b<M (H A)->t b->s b):Kept t A B:=
 ⟨h.os,h.tape,h.output,h.size,λi a d=>h.block i a (hs i a d)⟩
def Kept.trans'{s t:Qv}{C:U}(h:Kept s A B)(k:Kept t B C)(hs:∀b,b<M (H A)->s b->t b):Kept s A C:=
 ⟨k.os.trans h.os,k.tape.trans h.tape,k.output.trans h.output,ZB h.size k.size,λi d a=>(k.block i (ZC d h.size) (hs i d a)).trans (h.block i d a)⟩
def Kept.of_below{s:Qv}{B:Nat}{w w':U}(h:Below B w w')(hs:∀b,b<M (H w)->s b->b<B):Kept s w w':=
 ⟨h.os,h.tape,h.output,h.size,λk d a=>h.block k (hs k d a)⟩
def Kept.below{s:Qv}{B:Nat}{w w':U}(h:Kept s w w')(hB:B<=M (H w))(hs:∀b,b<B->s b):Below B w w':=
 ⟨h.os,h.tape,h.output,h.size,λk a=>h.block k (ZC a hB) (hs k a)⟩
def Kept.putObj{s:Qv}(W:U){r:Nat}(o:Obj)(hr:¬s r):Kept s W (W.putObj r o):=
 ⟨rfl,rfl,rfl,Qb,λk _ a=>World.putObj_heap_other (λe=>hr (e ▸ a))⟩
def Kept.alloc{s:Qv}(W:U)(o:Obj):Kept s W (W.alloc o):=
 ⟨rfl,rfl,rfl,Qb,λk a _=>Below.heap_alloc W o k a⟩
structure El(α κ:Type) where
 enc:α->Qa
 At:α->U->Prop
 blk:α->Option Nat
 key:α->κ
 keep:∀{x A B},At x A->M (H A)<=M (H B)->(∀b,b<M (H A)->blk x=O b->B.heap[b]? = A.heap[b]?)->At x B
 inn:∀{x A b},At x A->blk x=O b->b<M (H A)
variable {α κ:Type} (Eq:El α κ)
def oN(Iq:List α->(Qv)->U->Prop)(pre:List α)(x:α)(n:Nat)(o1:Qv)(W:U):Exit->Act->U->Prop
 |.normal,_,W'=>∃o2,Iq (pre++[x]) o2 W'/\Kept (λb=>¬o1 b) W W'/\∀b,o2 b->o1 b∨(M (H W)<=b/\b<M (H W'))∨(Eq.blk x=O b/\n<=b)
 |_,_,_=>False
end
def ZE:=@Kept.of_below
def iz:ai:=⟨Qp,0,[]⟩
def jD(w:U)(ao:JW)(rs:Qu ai):Prop:=
 N rs<=1152921504606846976/\dK w ao (N rs) (λi=>(E rs i iz).val)/\∀i,i<N rs->(E rs i iz).At w
def jD.below{w w':U}(hb:Bw w w'){ao:JW}{rs:Qu ai}(h:jD w ao rs):jD w' ao rs:=
 ⟨h.1,h.2.1.below hb,λi a=>Q7 hb (h.2.2 i a)⟩
structure aS where
 ad:JW
 cap:Nat
 rs:Qu ai
def rz:aS:=⟨Qp,0,[]⟩
def aS.val(v:aS):Value:=Z v.ad (N v.rs) v.cap
def aS.At(v:aS)(w:U):Prop:=jD w v.ad v.rs
def uJ(w:U)(ao:JW)(db:Qu aS):Prop:=
 N db<=1152921504606846976/\dK w ao (N db) (λi=>(E db i rz).val)/\∀i,i<N db->(E db i rz).At w
def uJ.below{w w':U}(hb:Bw w w'){ao:JW}{db:Qu aS}(h:uJ w ao db):uJ w' ao db:=
 ⟨h.1,h.2.1.below hb,λi a=>jD.below hb (h.2.2 i a)⟩
section
theorem Eb{p:Addr}(h:w.cell? p=O v):p.block<M (H w):=by unfold World.cell? at h;grind
def dK.keep{n:Nat}{f:Nat->Qa}(h:dK A ao n f)(hb:∀a,ao=O a->a.block<M (H A)->B.heap[a.block]? = A.heap[a.block]?):dK B ao n f:=by intro i j;obtain⟨b,d,rfl,e⟩:=h i j;have g:b<M (H A):=Eb (p:=(aD b (d+i))) e;exact⟨b,d,rfl,(World.cell?_of_block (a:=(aD b (d+i))) (hb (aD b d) rfl g)).trans e⟩
def NV:El ai (KJ) where
 enc:=ai.val
 At x W:=x.At W/\(∀a,x.ad=O a->a.block<M (H W))/\(x.ad=Qp->x.cap=0)
 blk x:=x.ad.map (·.block)
 key:=ai.xs
 keep:=by rintro x A B ⟨h,hl,hn⟩ hs hb;refine⟨⟨h.1,h.2.keep λa ha hlt=>hb _ hlt (by rw[ha];rfl)⟩,λa ha=>ZC (hl a ha) hs,hn⟩
 inn:=by
  rintro x A b ⟨_,hl,_⟩ hb
  cases ha:x.ad with
  |none=>rw[ha]at hb;cases hb
  |some a=>rw[ha]at hb;cases hb;exact hl a ha
def yR(w:U)(ao:JW)(rs:Qu ai):Prop:=jD w ao rs/\(∀a,ao=O a->a.block<M (H w))/\∀i,i<N rs->NV.At (E rs i iz) w
attribute [local go_sem] Oper.semAt_some
end
section
def FV{A B:U}{p:Addr}{v:Qa}{s:Qv}(h:A.cell? p=O v)(hk:Kept s A B)(hs:s p.block):B.cell? p=O v:=
 (World.cell?_of_block (hk.block _ (Eb h) hs)).trans h
attribute [local go_sem] Oper.semAt_some
end
def ZF:=@FV
@[reducible] def Cb (f:Nat) (a:Array Qa) (w:U) (v:Qa):Prop:=Calls V f a w λe w'=>e=Qs v/\Bw w w'
@[reducible] def Ce (f:Nat) (a:Array Qa) (w:U) (v:Qa):Prop:=Calls V f a w λe w'=>e=Qs v/\w' = w
section
theorem Kept.setCell{s:Qv}(W:U)(a:Addr)(v:Qa)(hr:¬s a.block):Kept s W (W.setCell a v):=
 ⟨rfl,rfl,rfl,by simp[World.setCell],λk _ b=>Below.heap_setCell W a v k (λe=>hr (e ▸ b))⟩
def Kept.grown{s:Qv}{row:Option Nat}(hg:A.grownBy B row)(hr:∀r,row=O r->¬s r):Kept s A B:=
 ⟨hg.os,hg.tape,hg.output,hg.size,λk a b=>hg.block k a (λe=>hr k e.symm b)⟩
def yS{A B:U}{base:Nat}{e:TypeId}{sz:Nat}{v:Qa}{n:Nat}{xs:Qu Qa}(h:A.ownsRow base e sz v n xs){s:Qv}(hk:Kept s A B)(hs:∀g,v.ownBlock=O g->s g):B.ownsRow base e sz v n xs:=by
 refine⟨h.1,?_⟩;rcases h.2 with h|⟨g,a,b,rfl,f,d,i,j,k,l⟩
 .exact .inl h
 .exact .inr ⟨g,a,b,rfl,f,(hk.block g (ZI.1 d).1 (hs g rfl)).trans d,i,j,k,l⟩
theorem Ck{A:U}{base:Nat}{e:TypeId}{sz:Nat}{v:Qa}{n:Nat}{xs:Qu Qa}(h:A.ownsRow base e sz v n xs){g:Nat}(hg:v.ownBlock=O g):base<=g/\g<M (H A):=by
 rcases h.2 with⟨rfl,_⟩|⟨g',cap,cur,rfl,hb,hg',_⟩
 .cases hg
 .cases hg
  grind
def wU{A:U}{base:Nat}{e:TypeId}{sz:Nat}{v:Qa}{n:Nat}{xs:Qu Qa}(h:A.ownsRow base e sz v n xs):∃b m a,v=Z b m a:=by
 rcases h.2 with⟨rfl,_⟩|⟨g',a,cur,rfl,_⟩
 .exact⟨_,_,_,rfl⟩
 .exact⟨_,_,_,rfl⟩
attribute [local go_sem] Oper.semAt_some
def Tryz.JC:(V.info? 23).map (λi=>(i.zero,i.size,i.bytes))=O (O (Z Qp 0 0),1,24):=Qe
end
def ZG:=@Kept.setCell
def ZH:=@yS
def ZJ:=@Ck
def ZK:=@wU
def JD(hx:Bw W x)(b o:Nat)(h:(Qm W (aD b o)).isSome=T):Qm x (aD b o)=Qm W (aD b o):=by obtain⟨v,a⟩:=Option.isSome_iff_exists.1 h;rw[a,cB hx a]
def Wq(p:Prop):Prop:=p
def Wq.o(h:Wq p):p:=h
def OQ [Decidable p] (h:¬p) (k:Value.bool F=v):Value.bool (decide p)=v:=by rw[ZL h];exact k
def OT [Decidable p] (h:p) (k:Value.bool T=v):Value.bool (decide p)=v:=by rw[Zg h];exact k
def BN(_:Nat):Prop:=True
def BN.s(_:BN i):BN (i+1):=trivial
def wa{P:Program}{Q:Exit->Act->World->Prop}(_:BN i)(hS:Bw W w)(h:wpAnyH P md ops Q (λx=>Bw W x) fuel (listed.setIfInBounds i true) (a.put (some k) v) w)(hi:ops[i]? = some oi:=by exact rfl)(hk:oi.dst=some k:=by exact rfl)(hs:Region.noSelect ops=true:=by kernel_rfl)(hf:Region.free md ops listed i=true:=by kernel_rfl)(hr:(Region.ready md ops listed).contains i=true:=by kernel_rfl)(hQ:∀c a w,Q (.panic c) (a.put oi.dst v) w->Q (.panic c) a w:=by first|exact λ_ _ _ h=>h|exact λ_ _ _ h=>by cases h.1)(hg:Region.wanted oi (yielded ops a.tmps)=true:=by rfl)(hy:∀x,Bw W x->(execOp a.eval oi).run P x=.ok (.value v) x:=by intro x hx;have hc:=JD hx;go_simp;first|done|(refine OQ ?_ rfl;omega)|(refine OT ?_ rfl;omega)|rfl):wpAnyH P md ops Q (λx=>Bw W x) (fuel+1) listed a w:=
 wpAnyH_take hi hs hf hr hQ (.inl ⟨hg,hy⟩) hS (by rw[hk];exact h)
def wb{P:Program}{Q:Exit->Act->World->Prop}(_:BN i)(hS:Bw W w)(h:wpAnyH P md ops Q (λx=>Bw W x) fuel (listed.setIfInBounds i true) (a.put (some k) v) w)(hi:ops[i]? = some oi:=by exact rfl)(hk:oi.dst=some k:=by exact rfl)(hs:Region.noSelect ops=true:=by kernel_rfl)(hf:Region.free md ops listed i=true:=by kernel_rfl)(hr:(Region.ready md ops listed).contains i=true:=by kernel_rfl)(hQ:∀c a w,Q (.panic c) (a.put oi.dst v) w->Q (.panic c) a w:=by first|exact λ_ _ _ h=>h|exact λ_ _ _ h=>by cases h.1)(hg:Region.wanted oi (yielded ops a.tmps)=true:=by kernel_rfl)(hy:∀x,Bw W x->(execOp a.eval oi).run P x=.ok (.value v) x:=by intro x hx;have hc:=JD hx;go_simp;first|done|(refine OQ ?_ rfl;omega)|(refine OT ?_ rfl;omega)|rfl):wpAnyH P md ops Q (λx=>Bw W x) (fuel+1) listed a w:=
 wpAnyH_take hi hs hf hr hQ (.inl ⟨hg,hy⟩) hS (by rw[hk];exact h)
def wu{P:Program}{Q:Exit->Act->World->Prop}(_:BN i)(hS:S w)(h:wpAnyH P md ops Q S fuel (listed.setIfInBounds i true) (a.put (some k) undef) w)(hi:ops[i]? = some oi:=by exact rfl)(hk:oi.dst=some k:=by exact rfl)(hs:Region.noSelect ops=true:=by kernel_rfl)(hf:Region.free md ops listed i=true:=by kernel_rfl)(hr:(Region.ready md ops listed).contains i=true:=by kernel_rfl)(hQ:∀c a w,Q (.panic c) (a.put oi.dst undef) w->Q (.panic c) a w:=by first|exact λ_ _ _ h=>h|exact λ_ _ _ h=>by cases h.1)(hg:Region.wanted oi (yielded ops a.tmps)=false:=by kernel_rfl):wpAnyH P md ops Q S (fuel+1) listed a w:=
 wpAnyH_take hi hs hf hr hQ (.inr ⟨hg,rfl⟩) hS (by rw[hk];exact h)
def IG(i:Nat)(s:C)(k:Q)(h:BN i->C->Wq Q->P:=by
  intro a b d;refine wa a b ?_;try simp only[pU]
  exact d.o):P:=h trivial s k
def wA2(i:Nat)(s:C)(k:Q)(h:BN i->C->Wq Q->P:=by
  intro a b d;refine wa a b ?_;refine wa a.s b ?_;try simp only[pU]
  exact d.o):P:=h trivial s k
def Ww(i:Nat)(s:C)(k:Q)(h:BN i->C->Wq Q->P:=by
  intro a b d;refine wa a b ?_;refine wa a.s b ?_;refine wa a.s.s b ?_;try simp only[pU]
  exact d.o):P:=h trivial s k
def II(i:Nat)(s:C)(k:Q)(h:BN i->C->Wq Q->P:=by
  intro a b d;refine wa a b ?_;refine wa a.s b ?_;refine wa a.s.s b ?_;refine wa a.s.s.s b ?_;try simp only[pU]
  exact d.o):P:=h trivial s k
def wA5(i:Nat)(s:C)(k:Q)(h:BN i->C->Wq Q->P:=by
  intro a b d;refine wa a b ?_;refine wa a.s b ?_;refine wa a.s.s b ?_;refine wa a.s.s.s b ?_;refine wa a.s.s.s.s b ?_;try simp only[pU]
  exact d.o):P:=h trivial s k
def wA6(i:Nat)(s:C)(k:Q)(h:BN i->C->Wq Q->P:=by
  intro a b d;refine wa a b ?_;refine wa a.s b ?_;refine wa a.s.s b ?_;refine wa a.s.s.s b ?_;refine wa a.s.s.s.s b ?_;refine wa a.s.s.s.s.s b ?_;try simp only[pU]
  exact d.o):P:=h trivial s k
def wA8(i:Nat)(s:C)(k:Q)(h:BN i->C->Wq Q->P:=by
  intro a b d;refine wa a b ?_;refine wa a.s b ?_;refine wa a.s.s b ?_;refine wa a.s.s.s b ?_;refine wa a.s.s.s.s b ?_;refine wa a.s.s.s.s.s b ?_;refine wa a.s.s.s.s.s.s b ?_;refine wa a.s.s.s.s.s.s.s b ?_;try simp only[pU]
  exact d.o):P:=h trivial s k
def FW(i:Nat)(s:C)(k:Q)(h:BN i->C->Wq Q->P:=by
  intro a b d;refine wa a b ?_;refine wa a.s b ?_;refine wa a.s.s b ?_;refine wa a.s.s.s b ?_;refine wa a.s.s.s.s b ?_;refine wa a.s.s.s.s.s b ?_;refine wa a.s.s.s.s.s.s b ?_;refine wa a.s.s.s.s.s.s.s b ?_;refine wa a.s.s.s.s.s.s.s.s b ?_;refine wa a.s.s.s.s.s.s.s.s.s b ?_;try simp only[pU]
  exact d.o):P:=h trivial s k
def wB9(i:Nat)(s:C)(k:Q)(h:BN i->C->Wq Q->P:=by
  intro a b d;refine wb a b ?_;refine wb a.s b ?_;refine wb a.s.s b ?_;refine wb a.s.s.s b ?_;refine wb a.s.s.s.s b ?_;refine wb a.s.s.s.s.s b ?_;refine wb a.s.s.s.s.s.s b ?_;refine wb a.s.s.s.s.s.s.s b ?_;refine wb a.s.s.s.s.s.s.s.s b ?_;try simp only[pU]
  exact d.o):P:=h trivial s k
def wS9(i:Nat)(s:C)(k:Q)(h:BN i->C->Wq Q->P:=by
  intro a b d;refine wu a b ?_;refine wu a.s b ?_;refine wu a.s.s b ?_;refine wu a.s.s.s b ?_;refine wu a.s.s.s.s b ?_;refine wu a.s.s.s.s.s b ?_;refine wu a.s.s.s.s.s.s b ?_;refine wu a.s.s.s.s.s.s.s b ?_;refine wu a.s.s.s.s.s.s.s.s b ?_;try simp only[pU]
  exact d.o):P:=h trivial s k
def wE(k:Q)(h:Wq Q->P:=by
  intro a;refine wD ?_;simp only[Act.put,List.getElem_toArray,List.getElem_cons_succ,List.getElem_cons_zero,Zk,QT,QU];exact a.o):P:=h k
def qx{p r:Value->Prop}(k:r v)(h:p v:=by intro x hx;have hc:=JD hx;go_simp;first|done|(refine OQ ?_ rfl;omega)|(refine OT ?_ rfl;omega)|rfl):∃v,p v/\r v:=⟨v,h,k⟩
def eT(k:Q)(h:Wq Q->P:=by
  intro a;go_big_quiet_want;refine qx ?_;simp only[pU];go_big_quiet_on;exact a.o):P:=h k
def uK(k:Q)(h:Wq Q->P:=by
  intro a;iterate 2
   go_big_quiet_want;refine qx ?_;simp only[pU];go_big_quiet_on
  exact a.o):P:=h k
def JE(k:Q)(h:Wq Q->P:=by
  intro a;iterate 3
   go_big_quiet_want;refine qx ?_;simp only[pU];go_big_quiet_on
  exact a.o):P:=h k
def IJ(k:Q)(h:Wq Q->P:=by
  intro a;iterate 4
   go_big_quiet_want;refine qx ?_;simp only[pU];go_big_quiet_on
  exact a.o):P:=h k
def L8(k:Q)(h:Wq Q->P:=by
  intro a;iterate 5
   go_big_quiet_want;refine qx ?_;simp only[pU];go_big_quiet_on
  exact a.o):P:=h k
def Lp(k:Q)(h:Wq Q->P:=by
  intro a;iterate 6
   go_big_quiet_want;refine qx ?_;simp only[pU];go_big_quiet_on
  exact a.o):P:=h k
def Si(k:Q)(h:Wq Q->P:=by
  intro a;iterate 8
   go_big_quiet_want;refine qx ?_;simp only[pU];go_big_quiet_on
  exact a.o):P:=h k
def OU(k:Q)(h:Wq Q->P:=by
  intro a;iterate 10
   go_big_quiet_want;refine qx ?_;simp only[pU];go_big_quiet_on
  exact a.o):P:=h k
