import Derived.Deep.RegionHeld
import Derived.WalkKit
import Derived.Deep.QuietTactic
import Derived.BigQuiet
import Derived.WalkSmall
import Derived.Laws.CopyOwn
import Derived.Deep.OwnRows
import Derived.Laws.BitsAllLaws
import Derived.RangeFuncRecord
import Derived.RangeFuncBound
import Derived.RangeFuncCalls
import Derived.RangeFuncLeaves
import Derived.Below
import Derived.RangeFuncNested
import Derived.Shelf.Abstract
import Derived.OwnWalkIn
import Derived.TacticsInMore
import Derived.LoopNIn
import Derived.LoopIn
import Derived.Test.YtpcfbajdeipgbaaGreatDoorProg
import Derived.Maps.OwnIn
import Derived.Maps.AppendAt
import Derived.OwnWalk
import Derived.Shelf.Spec.SlicesGrow
import Derived.Laws.AppendOwnNone
import Derived.Shelf.RegionOpen
import Derived.Deep.AppendLies
import Derived.RegionTactic
import Derived.Laws.ShiftsVarLaws
import Derived.Shelf.Bits.Mul64
import Derived.Shelf.Strconv.Itoa0
import Derived.Deep.RegionLaw
import Derived.OrdersHeld
import Derived.RegionCalls
import Derived.WideKeyPair
import Derived.Maps.Views
import Derived.Sort.CutIn
import Derived.Deep.RegionHeld3
import Derived.Deep.Cut
import Derived.Deep.CutRange
import Derived.Laws.ResultCell
import Derived.Laws.MakeOwn
import Derived.BigRegion
import Derived.BigGuard
import Derived.Maps.OwnSet
set_option linter.all false
set_option maxRecDepth 100000
set_option maxHeartbeats 0
namespace Go.RowKit
theorem Hid.o{p:Prop}(h:Hid p):p:=h
end Go.RowKit
namespace Go
theorem Shut.o{p:Prop}(h:Shut p):p:=h
end Go
namespace Go.Proofs.Zz
open Go.RowKit Go.Shelf
open List renaming length->N,getD->E
open Go.Value renaming slice->Z,int->I,bool->EP
open Option renaming some->O,none->E5
open Go.IntKind renaming i64->J
open Bool renaming false->F,true->T
open Go renaming World->U,Value->KX
open Go.World renaming heap->H,setCell->qw,cell?->Am
open _root_.Array renaming size->M
open Go.RowKit renaming Hid->Wl
open Go.Obj renaming cells->FL
open Go.Ending renaming returned->FR
variable {α:Type} {P:Program} {ops:Array Oper} {Q:Exit->Act->U->Prop} {md:Region.Mode} {S:U->Prop} {G b b0 b1 b2 b3 b4 b5 b6 b7 fuel i k n o0 o1 o2 o3 o4 o5 o6 o7 tA tC tG tS:Nat} {listed:Array Bool} {a:Act} {W qG w w' w0 w1 wr x:U} {oi:Oper} {aH keys ord src sums xs:List Int} {v v' v0 v1 v10 v11 v12 v2 v3 v4 v5 v6 v7 v8 v9:KX} {f:FuncId} {args c lb:Array KX} {ao:Option Addr} {t:TypeId} {gc:KX->KX->Array KX} {A:Nat->Nat} {p p0 p1 p2 p3 p4 p5:Prop} {K' X:Act->U->Prop}
def eX(a:α):∃z,a=z:=⟨a,rfl⟩
def eY(a:α):∃z,z=a:=⟨a,rfl⟩
@[reducible] def Bw (w x:U):Prop:=RowKit.Below (M (H w)) w x
def Qa:=@Go.wpAnyH_take
def Qb:=@List.set_cons_succ.{0}
def Qc:=@List.set_cons_zero.{0}
def Qh:=@List.take_succ_eq_append_getElem.{0}
def Qi:=@List.getElem_mem.{0}
def Ql:=@List.map_append.{0,0}
def Qm:=@Bool.and_eq_true
def Qn:=@List.all_eq_true.{0}
def Qr:=@Go.RowKit.Below.refl
def Qs:=@Nat.le_refl
def Qu:=@if_pos.{1}
def Qv:=@List.getElem_of_mem.{0}
def Qy:=@Go.below_drewN
def Qz:=@decide_eq_true_eq
def QA:=@decide_eq_false_iff_not
def QC:=@if_neg.{1}
def QD:=@decide_eq_true
def QE:=@Bool.true_and
def QF:=@List.eq_nil_of_length_eq_zero.{0}
def QG:=@List.setIfInBounds_toArray.{0}
def QH:=@List.flatMap_cons.{0,0}
def QI:=@List.length_append.{0}
def QJ:=@List.length_cons.{0}
def QK:=@List.getElem?_map.{0,0}
def QL:=@List.getElem?_append_right.{0}
def QM:=@List.getElem?_toArray.{0}
def QN:=@List.append_nil.{0}
def QO:=@List.mem_flatMap.{0,0}
def QP:=@List.mem_cons.{0}
def QT:=@List.range_succ
def QU:=@List.map_congr_left.{0,0}
def QV:=@Go.ownsRow_setCell_other
def QW:=@Go.wp_region_held_drew
def QX:=@decide_eq_false
def QY:=@List.foldl_cons.{0,0}
def Q0:=@Nat.lt_of_lt_of_le
def Q3:=@Nat.pow_le_pow_right
def Q4:=@Nat.zero_le
def Q5:=@Nat.zero_add
def Q6:=@Nat.le_trans
def Q7:=@List.flatMap_append.{0,0}
def Q8:=@List.length_map.{0,0}
def Q9:=@List.length_range
def Zb:=@List.take_length.{0}
def Zd:=@List.map_cons.{0,0}
def Ze:=@List.mem_append.{0}
def Zf:=@Bool.eq_iff_iff
def Zg:=@Int.toNat_of_nonneg
def Zi:=@List.mem_map.{0,0}
def Zj:=@List.mem_filter.{0}
def Zk:=@List.mem_range
def Zl:=@List.pairwise_iff_getElem.{0}
def Zm:=@List.map_map.{0,0,0}
def Zn:=@of_decide_eq_true
def Zo:=@List.nodup_nil.{0}
def Zp:=@Nat.add_zero
def Zr:=@Option.bind_some.{0,0}
def Zt:=@List.pairwise_cons.{0}
def Zu:=@List.append_assoc.{0}
def Zv:=@List.foldl_append.{0,0}
def Zw:=@List.drop_eq_getElem_cons.{0}
def ZC:=@Go.World.putObj_heap_other
def ZF:=@Go.World.alloc_heap_new
def ZG:=@Go.callsIn_wide
def ZH:=@Array.getElem?_eq_some_iff.{0}
def ZI:=@Iff.rfl
def ZK:=@Go.World.cell?_of_block
def ZM:=@Go.Oper.semAt_some
def ZN:=@List.size_toArray.{0}
def ZO:=@List.length_nil.{0}
def ZP:=@Array.replicate_succ.{0}
def ZQ:=@Array.replicate_zero.{0}
def ZR:=@List.push_toArray.{0}
def ZT:=@List.append_toArray.{0}
def ZU:=@List.nil_append.{0}
def ZV:=@List.cons_append.{0}
def ZW:=@List.filter_map.{0,0}
def ZX:=@List.filter_append.{0}
def Z0:=@Go.callsIn_of_wp_marks
def Z4:=@Go.CallsIn.inRound
def Z5:=@Go.run_takeDeferred
def Xa:=@Go.results_none
def Xb:=@Go.World.putObj_size
def Xh:=@Go.World.frozen?_of_block
def Xi:=@List.pairwise_append.{0}
def Xj:=@List.mem_singleton.{0}
def Xk:=@Go.info_parts
def Xl:=@Go.World.ownsRow_nil
def Xm:=@Go.World.size_alloc
def Xo:=@List.take_append_drop.{0}
def Xq:=@List.getElem?_eq_getElem.{0}
def Xr:=@Nat.sub_self
def Xt:=@List.take_of_length_le.{0}
def Xu:=@Int.toNat_natCast
def Xz:=@Go.run_append_own_at
def XB:=@Nat.pow_lt_pow_right
def XC:=@List.mem_of_mem_take.{0}
def XD:=@Int.eq_ofNat_of_zero_le
def XE:=@Go.World.drewN_drewN
def XF:=@Bool.false_and
def XG:=@Go.IntKind.wrap_i64
def XH:=@Go.wpQuiet_nil
def XI:=@Nat.zero_mul
def XK:=@List.length_take.{0}
def XM:=@Nat.lt_or_ge
def XN:=@beq_eq_false_iff_ne.{0}
def XO:=@Go.Calls.mono
def XP:=@List.length_filter_le.{0}
def XQ:=@List.filter_eq_nil_iff.{0}
def XT:=@List.ext_getElem.{0}
def XU:=@List.getElem_map.{0,0}
def XV:=@List.getElem_modify.{0}
def XW:=@List.idxOf_lt_length_iff.{0}
def XX:=@List.eq_nil_or_concat.{0}
def XY:=@List.concat_eq_append.{0}
def XZ:=@Bool.and_false
def X0:=@Go.bodyPost_ret
def X4:=@And.intro
def X5:=@List.all_eq_false.{0}
def X7:=@Go.Calls.quiet_of
def X9:=@Go.Proofs.enters_of
def Ja:=@List.length_replicate.{0}
def Jb:=@List.getElem?_append_left.{0}
def Jd:=@List.length_modify.{0}
def Je:=@List.length_pos_iff.{0}
def Ji:=@List.mem_append_left.{0}
def Jj:=@List.mem_map_of_mem.{0,0}
def Jm:=@List.length_set.{0}
def Jn:=@Array.size_setIfInBounds.{0}
def Jr:=@Go.World.size_setCell
def Js:=@Go.BigFrame.wpQuiet_want
def Ju:=@List.Mem.tail.{0}
def Jv:=@List.Mem.head.{0}
def Jw:=@Go.DataW.trod_int
def Jy:=@Go.DataW.weights_mem_each
def wT(i:Nat)(v:Value)(hS:S w)(hy:∀x,S x->(execOp a.eval oi).run P x=.ok (.value v) x)(h:wpAnyH P md ops Q S fuel (listed.setIfInBounds i true) (a.put oi.dst v) w)(hi:ops[i]? = some oi:=by exact rfl)(hs:Region.noSelect ops=true:=by kernel_rfl)(hf:Region.free md ops listed i=true:=by kernel_rfl)(hr:(Region.ready md ops listed).contains i=true:=by kernel_rfl)(hQ:∀c a w,Q (.panic c) (a.put oi.dst v) w->Q (.panic c) a w:=by exact λ_ _ _ h=>h)(hg:Region.wanted oi (yielded ops a.tmps)=true:=by rfl):wpAnyH P md ops Q S (fuel+1) listed a w:=
 Qa hi hs hf hr hQ (.inl ⟨hg,hy⟩) hS h
def wV(i:Nat)(hS:S w)(h:wpAnyH P md ops Q S fuel (listed.setIfInBounds i true) (a.put oi.dst undef) w)(hi:ops[i]? = some oi:=by exact rfl)(hs:Region.noSelect ops=true:=by kernel_rfl)(hf:Region.free md ops listed i=true:=by kernel_rfl)(hr:(Region.ready md ops listed).contains i=true:=by kernel_rfl)(hQ:∀c a w,Q (.panic c) (a.put oi.dst undef) w->Q (.panic c) a w:=by exact λ_ _ _ h=>h)(hg:Region.wanted oi (yielded ops a.tmps)=false:=by rfl):wpAnyH P md ops Q S (fuel+1) listed a w:=
 Qa hi hs hf hr hQ (.inr ⟨hg,rfl⟩) hS h
def wR(i:Nat)(h:∀K':Act->World->Prop,Shut (∀a w,S w->(S w->wpAnyH P md ops Q S fuel (listed.setIfInBounds i true) a w)->K' a w)->if Region.wanted oi (yielded ops a.tmps)=true then Oper.wp P oi a w K' Q else K' (a.put oi.dst undef) w)(hi:ops[i]? = some oi:=by exact rfl)(hr:Region.ready md ops listed=[i]:=by kernel_rfl):wpAnyH P md ops Q S (fuel+1) listed a w:=
 wpAnyH_ready hr (by simp) (AllReadyH.cons hi h AllReadyH.nil)
@[reducible] def aD (b o : Nat) : Addr := ⟨b, o, E5⟩
theorem sB{α : Type}{x : α}{l : List α}{n : Nat}{a : α} : (x :: l).set (n + 1) a = x :: l.set n a := Qb
theorem sC{α : Type}{x : α}{l : List α}{a : α} : (x :: l).set 0 a = a :: l := Qc
def aeh{a b:Bool}(h:a=b):Ending.returned (EP a)=FR (EP b):=by rw[h]
def aih{k:IntKind}{a b:Int}(h:a=b):Ending.returned (I k a)=FR (I k b):=by rw[h]
def eD(w:U)(ao:Option Addr)(n:Nat)(f:Nat->KX):Prop:=
 ∀i,i<n->∃b off,ao=O (aD b off)/\Am w (aD b (off+i))=O (f i)
def eD.get{w:U}{ao:Option Addr}{n:Nat}{f:Nat->KX}(h:eD w ao n f){i:Nat}(hi:i<n) :
  ∃b off,ao=O (aD b off)/\∀j,j<n->Am w (aD b (off+j))=O (f j):=by obtain⟨b,off,rfl,_⟩:=h i hi;refine⟨b,off,rfl,λj a=>?_⟩;obtain⟨b',Gi,e,d⟩:=h j a;simp_all
def aA(w:U)(ao:Option Addr)(xs:List Int):Prop:=
 N xs<=1152921504606846976/\eD w ao (N xs) (λi=>I J (E xs i 0))
def aA.get{w:U}{ao:Option Addr}{xs:List Int}(h:aA w ao xs){i:Nat}(hi:i<N xs) :
  ∃b off,ao=O (aD b off)/\∀j,j<N xs->Am w (aD b (off+j))=O (I J (E xs j 0)):=
 eD.get h.2 hi
structure ag where
 cols:Int
 rows:Int
 k0:Int
 k1:Int
 k2:Int
 k3:Int
def ag.aI(t:ag):Array Value:=#[I J t.cols,I J t.rows,I J t.k0,I J t.k1,I J t.k2,I J t.k3]
def tz:ag:=⟨0,0,0,0,0,0⟩
def aN(w:U)(ao:Option Addr)(ts:List ag):Prop:=
 N ts<=192153584101141162/\∀i,i<N ts->∃b off,ao=O (aD b off)/\
  Am w (aD b (off+i*6))=O (I J (E ts i tz).cols)/\Am w (aD b (off+i*6+1))=O (I J (E ts i tz).rows)/\
  Am w (aD b (off+i*6+2))=O (I J (E ts i tz).k0)/\Am w (aD b (off+i*6+3))=O (I J (E ts i tz).k1)/\
  Am w (aD b (off+i*6+4))=O (I J (E ts i tz).k2)/\Am w (aD b (off+i*6+5))=O (I J (E ts i tz).k3)
structure aF where
 not:Bool
 op:Int
 left:Int
 const:Bool
 right:Int
def cz:aF:=⟨F,0,0,F,0⟩
def aF.val(c:aF):Value:=.agg #[EP c.not,I J c.op,I J c.left,EP c.const,I J c.right]
def bS(w:U)(ao:Option Addr)(cs:List aF):Prop:=
 N cs<=230584300921369395/\∀i,i<N cs->∃b off,ao=O (aD b off)/\
  Am w (aD b (off+i*5))=O (EP (E cs i cz).not)/\Am w (aD b (off+i*5+1))=O (I J (E cs i cz).op)/\
  Am w (aD b (off+i*5+2))=O (I J (E cs i cz).left)/\Am w (aD b (off+i*5+3))=O (EP (E cs i cz).const)/\
  Am w (aD b (off+i*5+4))=O (I J (E cs i cz).right)
structure az where
 ad:Option Addr
 cap:Nat
 cs:List aF
def lz:az:=⟨E5,0,[]⟩
def az.val(c:az):Value:=Z c.ad (N c.cs) c.cap
def bR(w:U)(ao:Option Addr)(ls:List az):Prop:=
 N ls<=1152921504606846976/\eD w ao (N ls) (λi=>(E ls i lz).val)/\∀i,i<N ls->bS w (E ls i lz).ad (E ls i lz).cs
structure ae where
 ad:Option Addr
 cap:Nat
 xs:List Int
def ae.val(v:ae):Value:=Z v.ad (N v.xs) v.cap
def ae.At(v:ae)(w:U):Prop:=aA w v.ad v.xs
structure af where
 src:ae
 dx:Option Addr
 aP:Nat
 wh:List az
 group:Bool
 keys:ae
 sums:ae
 aH:ae
 ord:ae
def af.cells(q:af):Array Value:=#[q.src.val,Z q.dx (N q.wh) q.aP,EP q.group,q.keys.val,q.sums.val,q.aH.val,q.ord.val]
structure af.At(q:af)(w:U):Prop where
 src:q.src.At w
 wh:bR w q.dx q.wh
 keys:q.keys.At w
 sums:q.sums.At w
 aH:q.aH.At w
 ord:q.ord.At w
def aM(xs:List Int)(n:Int):Bool:=xs.all λx=>decide (0<=x)&&decide (x<n)
theorem aaw(xs:List Int)(n:Int)(k:Nat)(hk:k<N xs):aM (xs.take (k+1)) n=(aM (xs.take k) n&&(decide (0<=xs[k])&&decide (xs[k]<n))):=by grind [aM,List.take_succ_eq_append_getElem]
theorem Pj(xs:List Int)(n:Int)(k:Nat)(hk:k<N xs)(h:xs[k]<0∨n<=xs[k]):aM xs n=false:=by grind [aM,List.getElem_mem]
theorem aax{n:Int}(hk:k<N xs)(hp:aM (xs.take k) n=T)(h1:¬xs[k]<0)(h2:xs[k]<n):aM (xs.take (k+1)) n=true:=by grind [aaw]
theorem UH{n:Int}(hk:k<=N xs)(hlt:¬k<N xs)(hp:aM (xs.take k) n=T):T=aM xs n:=by grind
def dI(xs:List Int):Bool:=decide (∀i,i<N xs->∀j,j<i->E xs i 0≠E xs j 0)
theorem Gj{j:Nat}(hi:i<N xs)(hj:j<i)(h:E xs i 0=E xs j 0):F=dI xs:=by grind [dI]
theorem Eu(h:∀i,i<N xs->∀j,j<i->E xs i 0≠E xs j 0):T=dI xs:=by grind [dI]
def dC(c:aF)(n:Int):Bool:=
 decide (0<=c.left)&&decide (c.left<n)&&decide (0<=c.op)&&decide (c.op<=2) &&
  (if c.op=2 then !c.const&&decide (c.right=0) else if c.const then decide (-1000<=c.right)&&decide (c.right<=1000) else decide (0<=c.right)&&decide (c.right<=n-1))
def rQ(group:Bool)(keys sums aH:List Int):Int:=if group then N keys+1+N sums else N aH
def ag.kd(t:ag):Nat->Int
 |0=>t.k0
 |1=>t.k1
 |2=>t.k2
 |_=>t.k3
def ag.YE(wr:U)(t:ag)(ty:TypeId)(m:Nat)(hm:m<4) :
  Am (wr.alloc (FL #[I J t.cols,I J t.rows,I J t.k0,I J t.k1,I J t.k2,I J t.k3] ty)) (aD (M (H wr)) (2+m))=O (I J (t.kd m)):=by rcases (by omega:m=0∨m=1∨m=2∨m=3) with rfl|rfl|rfl|rfl <;> simp[ag.kd]
def dJ(t:ag):Bool:=
 decide (1<=t.cols/\t.cols<=4/\0<=t.rows/\t.rows<=1000000/\∀m,m<t.cols.toNat->1<=t.kd m/\t.kd m<=1000000)
theorem Gl{t:ag}(h:t.cols<1∨4<t.cols∨t.rows<0∨1000000<t.rows):dJ t=false:=by unfold dJ;grind
theorem xK{t:ag}(m:Nat)(hm:m<t.cols.toNat)(h:t.kd m<1∨1000000<t.kd m):dJ t=false:=by unfold dJ;grind
def Ev{t:ag}(h1:1<=t.cols)(h2:t.cols<=4)(h3:0<=t.rows)(h4:t.rows<=1000000)(h:∀m,m<t.cols.toNat->1<=t.kd m/\t.kd m<=1000000):dJ t=true:=by unfold dJ;simp_all
def dL(ts:List ag):Bool:=decide (1<=N ts)&&decide (N ts<=8)&&ts.all dJ
theorem Gm{ts:List ag}(h:N ts<1):F=dL ts:=by grind [dL]
theorem KZ{ts:List ag}(h:8<N ts):F=dL ts:=by grind [dL]
theorem Bu{ts:List ag}(hk:k<N ts)(h:dJ (E ts k tz)=F):F=dL ts:=by grind [dL]
theorem aei{f:α->Bool}{ts:List α}{z:α}(hk:k<N ts)(hp:(ts.take k).all f=T)(h:f (E ts k z)=T):(ts.take (k+1)).all f=true:=by grind [List.take_succ_eq_append_getElem]
theorem aay{ts:List ag}(h0:¬N ts<1)(h8:¬8<N ts)(hk:k<=N ts)(hlt:¬k<N ts)(hp:(ts.take k).all dJ=T):T=dL ts:=by grind [dL]
theorem UI{w:U}{b o:Nat}{v:KX}(h:Am w (aD b o)=O v):b<M (H w):=by simp only[World.cell?]at h;grind
def Qd:=@aeh
def Qe:=@aih
def Qf:=@eD.get
def Qg:=@aA.get
def Qj:=@UI
def ak(ts:List ag)(xs:List Int):Int:=(xs.map λt=>(E ts t.toNat tz).cols).sum
def Ew(ts:List ag)(xs:List Int)(k:Nat)(hk:k<N xs):ak ts (xs.take (k+1))=ak ts (xs.take k)+(E ts xs[k].toNat tz).cols:=by unfold ak;rw[Qh hk,Ql,List.sum_append];simp
def qW{ts:List ag}(hc:dL ts=T)(hi:i<N ts):1<=(E ts i tz).cols/\(E ts i tz).cols<=4:=by unfold dL at hc;rw[Qm]at hc;have h:=Qn.1 hc.2 (E ts i tz) (by simp_all);unfold dJ at h;simp_all
def YF{xs:List Int}{n:Int}(h:aM xs n=T){k:Nat}(hk:k<N xs):0<=xs[k]/\xs[k]<n:=by unfold aM at h;simp_all
def K3{ts:List ag}{xs:List Int}(hc:dL ts=T)(ha:aM xs (N ts)=T):∀k,k<=N xs->0<=ak ts (xs.take k)/\ak ts (xs.take k)<=4*k
 |0,_=>by simp[ak]
 |k+1,hk=>by have ih:=K3 hc ha k (by omega);rw[Ew ts xs k (by omega)];have h1:=YF ha (k:=k) (by omega);have h2:=qW hc (i:=(xs[k]'(by omega)).toNat) (by omega);omega
theorem Gn{w:U}{b o:Nat}{v:KX}(h:Am w (aD b o)=O v)(x:Obj):Am (w.alloc x) (aD b o)=O v:=
 (Below.cell ((Qr (M (H w)) w).alloc (Qs _) x) (p:=(aD b o)) (Qj h)).trans h
def Qk:=@Ew
def Qo:=@YF
def Qp:=@K3
def Qq:=@Gn
theorem cB(hb:Bw w w'){o:Nat}(h:Am w (aD b o)=O v):Am w' (aD b o)=O v:=
 (hb.cell (p:=(aD b o)) (Qj h)).trans h
def Pk(hx:Bw w x)(a0:Am w ⟨b0,o0,E5⟩=O v0)(a1:Am w ⟨b1,o1,E5⟩=O v1)(a2:Am w ⟨b2,o2,E5⟩=O v2)(a3:Am w ⟨b3,o3,E5⟩=O v3)(a4:Am w ⟨b4,o4,E5⟩=O v4)(a5:Am w ⟨b5,o5,E5⟩=O v5)(a6:Am w ⟨b6,o6,E5⟩=O v6):Am x ⟨b0,o0,E5⟩=O v0/\Am x ⟨b1,o1,E5⟩=O v1/\Am x ⟨b2,o2,E5⟩=O v2/\Am x ⟨b3,o3,E5⟩=O v3/\Am x ⟨b4,o4,E5⟩=O v4/\Am x ⟨b5,o5,E5⟩=O v5/\Am x ⟨b6,o6,E5⟩=O v6:=⟨cB hx a0,cB hx a1,cB hx a2,cB hx a3,cB hx a4,cB hx a5,cB hx a6⟩
def K4(hx:Bw w x){b8 o8 b9 o9 b10 o10 b11 o11 b12 o12:Nat}(a0:Am w ⟨b0,o0,E5⟩=O v0)(a1:Am w ⟨b1,o1,E5⟩=O v1)(a2:Am w ⟨b2,o2,E5⟩=O v2)(a3:Am w ⟨b3,o3,E5⟩=O v3)(a4:Am w ⟨b4,o4,E5⟩=O v4)(a5:Am w ⟨b5,o5,E5⟩=O v5)(a6:Am w ⟨b6,o6,E5⟩=O v6)(a7:Am w ⟨b7,o7,E5⟩=O v7)(a8:Am w ⟨b8,o8,E5⟩=O v8)(a9:Am w ⟨b9,o9,E5⟩=O v9)(Gp:Am w ⟨b10,o10,E5⟩=O v10)(O5:Am w ⟨b11,o11,E5⟩=O v11)(a12:Am w ⟨b12,o12,E5⟩=O v12):Am x ⟨b0,o0,E5⟩=O v0/\Am x ⟨b1,o1,E5⟩=O v1/\Am x ⟨b2,o2,E5⟩=O v2/\Am x ⟨b3,o3,E5⟩=O v3/\Am x ⟨b4,o4,E5⟩=O v4/\Am x ⟨b5,o5,E5⟩=O v5/\Am x ⟨b6,o6,E5⟩=O v6/\Am x ⟨b7,o7,E5⟩=O v7/\Am x ⟨b8,o8,E5⟩=O v8/\Am x ⟨b9,o9,E5⟩=O v9/\Am x ⟨b10,o10,E5⟩=O v10/\Am x ⟨b11,o11,E5⟩=O v11/\Am x ⟨b12,o12,E5⟩=O v12:=⟨cB hx a0,cB hx a1,cB hx a2,cB hx a3,cB hx a4,cB hx a5,cB hx a6,cB hx a7,cB hx a8,cB hx a9,cB hx Gp,cB hx O5,cB hx a12⟩
def gy(hx:Bw w x)(a0:Am w ⟨b0,o0,E5⟩=O v0)(a1:Am w ⟨b1,o1,E5⟩=O v1):Am x ⟨b0,o0,E5⟩=O v0/\Am x ⟨b1,o1,E5⟩=O v1:=⟨cB hx a0,cB hx a1⟩
def J3(hx:Bw w x)(a0:Am w ⟨b0,o0,E5⟩=O v0)(a1:Am w ⟨b1,o1,E5⟩=O v1)(a2:Am w ⟨b2,o2,E5⟩=O v2):Am x ⟨b0,o0,E5⟩=O v0/\Am x ⟨b1,o1,E5⟩=O v1/\Am x ⟨b2,o2,E5⟩=O v2:=⟨cB hx a0,cB hx a1,cB hx a2⟩
def aej(hx:Bw w x)(a0:Am w ⟨b0,o0,E5⟩=O v0)(a1:Am w ⟨b1,o1,E5⟩=O v1)(a2:Am w ⟨b2,o2,E5⟩=O v2)(a3:Am w ⟨b3,o3,E5⟩=O v3):Am x ⟨b0,o0,E5⟩=O v0/\Am x ⟨b1,o1,E5⟩=O v1/\Am x ⟨b2,o2,E5⟩=O v2/\Am x ⟨b3,o3,E5⟩=O v3:=⟨cB hx a0,cB hx a1,cB hx a2,cB hx a3⟩
def ji(hx:Bw w x)(a0:Am w ⟨b0,o0,E5⟩=O v0)(a1:Am w ⟨b1,o1,E5⟩=O v1)(a2:Am w ⟨b2,o2,E5⟩=O v2)(a3:Am w ⟨b3,o3,E5⟩=O v3)(a4:Am w ⟨b4,o4,E5⟩=O v4):Am x ⟨b0,o0,E5⟩=O v0/\Am x ⟨b1,o1,E5⟩=O v1/\Am x ⟨b2,o2,E5⟩=O v2/\Am x ⟨b3,o3,E5⟩=O v3/\Am x ⟨b4,o4,E5⟩=O v4:=⟨cB hx a0,cB hx a1,cB hx a2,cB hx a3,cB hx a4⟩
def Dh(hx:Bw w x)(a0:Am w ⟨b0,o0,E5⟩=O v0)(a1:Am w ⟨b1,o1,E5⟩=O v1)(a2:Am w ⟨b2,o2,E5⟩=O v2)(a3:Am w ⟨b3,o3,E5⟩=O v3)(a4:Am w ⟨b4,o4,E5⟩=O v4)(a5:Am w ⟨b5,o5,E5⟩=O v5):Am x ⟨b0,o0,E5⟩=O v0/\Am x ⟨b1,o1,E5⟩=O v1/\Am x ⟨b2,o2,E5⟩=O v2/\Am x ⟨b3,o3,E5⟩=O v3/\Am x ⟨b4,o4,E5⟩=O v4/\Am x ⟨b5,o5,E5⟩=O v5:=⟨cB hx a0,cB hx a1,cB hx a2,cB hx a3,cB hx a4,cB hx a5⟩
def qf(hx:Bw w x)(a0:Am w ⟨b0,o0,E5⟩=O v0)(a1:Am w ⟨b1,o1,E5⟩=O v1)(a2:Am w ⟨b2,o2,E5⟩=O v2)(a3:Am w ⟨b3,o3,E5⟩=O v3)(a4:Am w ⟨b4,o4,E5⟩=O v4)(a5:Am w ⟨b5,o5,E5⟩=O v5)(a6:Am w ⟨b6,o6,E5⟩=O v6)(a7:Am w ⟨b7,o7,E5⟩=O v7):Am x ⟨b0,o0,E5⟩=O v0/\Am x ⟨b1,o1,E5⟩=O v1/\Am x ⟨b2,o2,E5⟩=O v2/\Am x ⟨b3,o3,E5⟩=O v3/\Am x ⟨b4,o4,E5⟩=O v4/\Am x ⟨b5,o5,E5⟩=O v5/\Am x ⟨b6,o6,E5⟩=O v6/\Am x ⟨b7,o7,E5⟩=O v7:=⟨cB hx a0,cB hx a1,cB hx a2,cB hx a3,cB hx a4,cB hx a5,cB hx a6,cB hx a7⟩
theorem eD.below{w w':U}(hb:Bw w w'){ao:Option Addr}{n:Nat}{f:Nat->KX}(h:eD w ao n f):eD w' ao n f:=λi a=>by obtain⟨b,off,e,d⟩:=h i a;grind [cB]
def aA.below{w w':U}(hb:Bw w w'){ao:Option Addr}{xs:List Int}(h:aA w ao xs):aA w' ao xs:=⟨h.1,h.2.below hb⟩
def aN.below{w w':U}(hb:Bw w w'){ao:Option Addr}{ts:List ag}(h:aN w ao ts):aN w' ao ts:=⟨h.1,λi l=>by
 obtain⟨b,off,e,a,d,f,g,j,k⟩:=h.2 i l;exact⟨b,off,e,cB hb a,cB hb d,cB hb f,cB hb g,cB hb j,cB hb k⟩⟩
def bS.below{w w':U}(hb:Bw w w'){ao:Option Addr}{cs:List aF}(h:bS w ao cs):bS w' ao cs:=⟨h.1,λi k=>by
 obtain⟨b,off,e,a,d,f,g,j⟩:=h.2 i k;exact⟨b,off,e,cB hb a,cB hb d,cB hb f,cB hb g,cB hb j⟩⟩
def bR.below{w w':U}(hb:Bw w w'){ao:Option Addr}{ls:List az}(h:bR w ao ls):bR w' ao ls:=
 ⟨h.1,h.2.1.below hb,λi a=>(h.2.2 i a).below hb⟩
def af.At.below{w w':U}(hb:Bw w w'){q:af}(h:q.At w):q.At w':=
 ⟨aA.below hb h.src,h.wh.below hb,aA.below hb h.keys,aA.below hb h.sums,aA.below hb h.aH,aA.below hb h.ord⟩
def bJ(w:U)(o:Obj):Bw w (w.alloc o):=(Qr _ _).alloc (Qs _) o
theorem aj{w2:U}(h:Bw w w1)(k:Bw w1 w2):Bw w w2:=h.trans (k.mono h.size)
def wZ(hb:Bw W w1):(∀b o,b<M (H W)->Am w1 (aD b o)=Am W (aD b o)):=
 λb o h=>hb.cell (p:=(aD b o)) h
def jB(src:List Int)(wh:List (List aF))(keys sums aH ord:List Int):Bool:=
 decide (5<N src∨8<N wh∨8<N aH∨4<N keys∨4<N sums∨4<N ord) ||wh.any (λc=>decide (3<N c))
def iH(c:List aF)(n:Int):Bool:=decide (0<N c)&&c.all (λx=>dC x n)
def dZ(wh:List (List aF))(n:Int):Bool:=wh.all (λc=>iH c n)
def gV(n:Int)(group:Bool)(keys sums aH ord:List Int):Bool:=
 aM aH n&&aM keys n&&aM sums n&&aM ord (rQ group keys sums aH)&&dI keys&&dI ord&&(group==decide (N aH=0))&&(group ||decide (N keys+N sums=0))
def vI(ts:List ag)(src:List Int)(wh:List (List aF))(group:Bool)(keys sums aH ord:List Int):Int:=
 if dL ts=F then 1
 else if jB src wh keys sums aH ord=T then 2
 else if aM src (N ts)=T/\0<N src/\dZ wh (ak ts src)=T/\gV (ak ts src) group keys sums aH ord=T then 0
 else 3
def af.qX(q:af):List (List aF):=q.wh.map az.cs
def af.check(q:af)(ts:List ag):Int:=vI ts q.src.xs q.qX q.group q.keys.xs q.sums.xs q.aH.xs q.ord.xs
def af.K5{q:af}{ts:List ag}(h:dL ts=F):(1:Int)=q.check ts:=by unfold af.check vI;rw[Qu h]
theorem aek{wh:List (List aF)}(h:5<N src∨8<N wh∨8<N aH∨4<N keys∨4<N sums∨4<N ord):jB src wh keys sums aH ord=true:=by grind [jB]
def af.Aw{q:af}{ts:List ag}(h:dL ts=T)(hf:jB q.src.xs q.qX q.keys.xs q.sums.xs q.aH.xs q.ord.xs=T):(2:Int)=q.check ts:=by unfold af.check vI;simp_all
def Gq{a b:Bool}(h:a=b):Value.bool a=EP b:=by rw[h]
def uG{a b:Bool}(h:a=T↔b=T):Value.bool a=EP b:=by simp_all
theorem aaz{wh:List (List aF)}(h:wh.any (λc=>decide (3<N c))=T):jB src wh keys sums aH ord=true:=by grind [jB]
theorem ael{wh:List (List aF)}(h:¬(5<N src∨8<N wh∨8<N aH∨4<N keys∨4<N sums∨4<N ord))
  (h':wh.any (λc=>decide (3<N c))=F):jB src wh keys sums aH ord=false:=by grind [jB]
def mM(ls:List az)(k:Nat):Bool:=(ls.take k).any (λc=>decide (3<N c.cs))
def UJ{ls:List az}(hk:k<N ls):mM ls (k+1)=(mM ls k ||decide (3<(E ls k lz).cs.length)):=by unfold mM;rw[Qh hk,List.any_append];simp_all
theorem Di(q:af):q.qX.any (λc=>decide (3<N c))=mM q.wh (N q.wh):=by unfold mM af.qX;grind
def UK{ls:List az}{k:Nat}(hk:k<N ls)(h:mM ls (N ls)=F):(E ls k lz).cs.length<=3:=by unfold mM at h;simp_all
def af.aaA{q:af}{ts:List ag}(h:dL ts=T)(hf:jB q.src.xs q.qX q.keys.xs q.sums.xs q.aH.xs q.ord.xs=F)
  (hr:¬(aM q.src.xs (N ts)=T/\0<N q.src.xs/\dZ q.qX (ak ts q.src.xs)=T/\gV (ak ts q.src.xs) q.group q.keys.xs q.sums.xs q.aH.xs q.ord.xs=T)):(3:Int)=q.check ts:=by unfold af.check vI;simp_all
def af.aem{q:af}{ts:List ag}(h:dL ts=T)(hf:jB q.src.xs q.qX q.keys.xs q.sums.xs q.aH.xs q.ord.xs=F)
  (hr:aM q.src.xs (N ts)=T/\0<N q.src.xs/\dZ q.qX (ak ts q.src.xs)=T/\gV (ak ts q.src.xs) q.group q.keys.xs q.sums.xs q.aH.xs q.ord.xs=T):(0:Int)=q.check ts:=by unfold af.check vI;simp_all
theorem Bv{q:af}{n:Int}{k:Nat}(hk:k<N q.wh)(h:iH (E q.wh k lz).cs n=F):dZ q.qX n=false:=by unfold dZ af.qX;grind
def zQ{q:af}{n:Int}(h:∀k,k<N q.wh->iH (E q.wh k lz).cs n=T):dZ q.qX n=true:=by unfold dZ af.qX;rw[List.all_map,Qn];intro c a;obtain⟨k,b,rfl⟩:=Qv a;simp_all
theorem Bz{c:List aF}{n:Int}(h:¬0<N c):iH c n=false:=by grind [iH]
theorem Ex{c:List aF}{n:Int}(hk:k<N c)(h:dC (E c k cz) n=F):iH c n=false:=by grind [iH]
theorem BA{c:List aF}{n:Int}(h0:0<N c)(h:∀k,k<N c->dC (E c k cz) n=T):iH c n=true:=by grind [iH,List.getElem_of_mem]
def Qt:=@aA.below
def Fy{P:Program}{id:Nat}{Q:Exit->Act->World->Prop}{a:Act}{w:World}{l:List Oper}(h:wpQuiet P l.toArray (λx=>Bw w x) (λb=>∀x,Bw w x->Q .normal b x) l a)(hm:P.follows .mixedOrders=true:=by kernel_rfl)(hB:Region.lexB .any l.toArray=true:=by kernel_rfl):(Code.region id l.toArray true).wp P Q a w:=
 wp_region_quiet (C:=λx=>Bw w x) hm hB (Qr _ _).drew (by simpa using h)
def Calls.within{P:Program}{f:FuncId}{args:Array KX}{w x:U}{v:KX}(hx:Bw w x)
  (h:Calls P f args x λe a=>e=FR v/\Bw x a):Calls P f args x λe w''=>e=FR v/\Bw w w'':=
 h.mono λ_ _ ⟨he,hb⟩=>⟨he,aj hx hb⟩
def Calls.Ey(hx:Bw w x)
  (h:Calls P f args x λe a=>e=FR v/\a = x):Calls P f args x λe w''=>e=FR v/\Bw w w'':=
 h.mono λ_ _ ⟨he,hb⟩=>⟨he,by simp_all⟩
def Calls.drawn
  (h:Calls P f args w λe a=>e=FR v/\∃n,a = w.drewN n):Calls P f args w λe a=>e=FR v/\Bw w a:=
 h.mono λ_ _ ⟨he,n,hn⟩=>⟨he,by rw[hn];exact Qy (Qr _ _) n⟩
section
variable {Nq:Int} {group:Bool} {keys sums aH ord:List Int}
theorem aen(h:¬aM aH Nq=T):gV Nq group keys sums aH ord=false:=by grind [gV]
theorem aaB(h:¬aM keys Nq=T):gV Nq group keys sums aH ord=false:=by grind [gV]
theorem aaC(h:¬aM sums Nq=T):gV Nq group keys sums aH ord=false:=by grind [gV]
theorem aeo(h:¬aM ord (rQ group keys sums aH)=T):gV Nq group keys sums aH ord=false:=by grind [gV]
theorem aii(h:¬dI keys=T):gV Nq group keys sums aH ord=false:=by grind [gV]
theorem aij(h:¬dI ord=T):gV Nq group keys sums aH ord=false:=by grind [gV]
theorem YG:((N aH:Int)==0)=decide (N aH=0):=by grind
theorem aep(h:¬group=((N aH:Int)==0)):gV Nq group keys sums aH ord=false:=by grind [gV,rQ]
theorem aik(hg:group=((N aH:Int)==0))(h:(!((N aH:Int)==0))=T/\0<(N keys:Int)+N sums):gV Nq group keys sums aH ord=false:=by grind [gV]
theorem YH(a1:aM aH Nq=T)(a2:aM keys Nq=T)(a3:aM sums Nq=T)(a4:aM ord (rQ group keys sums aH)=T)(a5:dI keys=T)(a6:dI ord=T)
  (hg:group=((N aH:Int)==0)) (h:group=T∨N keys+N sums=0):gV Nq group keys sums aH ord=true:=by grind [gV,YG]
def aeq(a1:aM aH Nq=T)(a2:aM keys Nq=T)(a3:aM sums Nq=T)(a4:aM ord (rQ group keys sums aH)=T)(a5:dI keys=T)(a6:dI ord=T)
  (hg:group=((N aH:Int)==0)) (h:aH=[]):gV Nq group keys sums aH ord=true:=
 YH a1 a2 a3 a4 a5 a6 hg (.inl (by simp_all))
theorem aer(a1:aM aH Nq=T)(a2:aM keys Nq=T)(a3:aM sums Nq=T)(a4:aM ord (rQ group keys sums aH)=T)(a5:dI keys=T)(a6:dI ord=T)
  (hg:group=((N aH:Int)==0)) (h:(!((N aH:Int)==0))=F∨(N keys:Int)+N sums<=0):gV Nq group keys sums aH ord=true:=
 YH a1 a2 a3 a4 a5 a6 hg (by
  grind)
end
def foundAt(r:Int)(b:Bool):Prop:=-1<=r/\decide (0<=r)=b
theorem M4{p:α->Bool}{xs:List α}{z:α}(hk:k<N xs)(h:p (E xs k z)=T):xs.any p=true:=by grind
theorem any_none{p:α->Bool}{xs:List α}{z:α}(h:∀k,k<N xs->p (E xs k z)=F):xs.any p=false:=by grind [List.getElem_of_mem]
theorem aes{ts:List ag}(h1:¬N ts<1)(h8:¬8<N ts):(!(ts.any λt=>!dJ t))=dL ts:=by grind [dL]
def Dj(x n:Int):Bool:=decide (0<=x)&&decide (x<n)
theorem aet(xs:List Int)(n:Int):(!(xs.any λx=>!Dj x n))=aM xs n:=by grind [Dj,aM]
def aeu(ls:List az):(ls.any λc=>decide (3<N c.cs))=mM ls (N ls):=by unfold mM;simp_all
def af.YI(q:af):jB q.src.xs q.qX q.keys.xs q.sums.xs q.aH.xs q.ord.xs =
  (decide (5<N q.src.xs∨8<N q.wh∨8<N q.aH.xs∨4<N q.keys.xs∨4<N q.sums.xs∨4<N q.ord.xs) ||mM q.wh (N q.wh)):=by unfold jB;rw[Di];simp[af.qX]
def aev{c:aF}{n:Int}(h:Dj c.left n=F):F=dC c n:=by refine(Bool.eq_false_iff.2 ?_).symm;intro a;simp only[dC,Qm,Qz]at a;simp only[Dj,Bool.and_eq_false_iff,QA]at h;omega
theorem Ay{c:aF}{n:Int}(h:Dj c.left n=T)(ho:c.op=0∨c.op=1)(hc:c.const=T):(decide (-1000<=c.right)&&decide (c.right<=1000))=dC c n:=by simp only[Dj,Qm,Qz]at h;unfold dC;grind
theorem Dk{c:aF}{n:Int}(h:Dj c.left n=T)(ho:c.op=0∨c.op=1)(hc:c.const=F):Dj c.right n=dC c n:=by simp only[Dj,Qm,Qz]at h;unfold dC;rw[QC (by omega),QC (by simp[hc]),QD h.1,QD h.2,QD (show 0<=c.op by omega),QD (show c.op<=2 by omega)];simp only[Dj,Bool.and_self,QE];grind
def Pm{c:aF}{n:Int}(h:Dj c.left n=T)(ho:c.op=2):(!c.const&&decide (c.right=0))=dC c n:=by simp only[Dj,Qm,Qz]at h;unfold dC;simp_all
def Pn{c:aF}{n:Int}(h0:¬c.op=0)(h1:¬c.op=1)(h2:¬c.op=2):F=dC c n:=by refine(Bool.eq_false_iff.2 ?_).symm;intro a;simp only[dC,Qm,Qz]at a;omega
def Qw:=@Fy
def Qx:=@Calls.within
theorem iX(w:U)(o:Obj):(w.alloc o).heap[M (H w)]? = O o:=by show (w.heap.push o)[M (H w)]? = _;simp
theorem nX(w:U)(c cs:Array KX)(t:TypeId):(w.alloc (FL c t)).setRow (M (H w)) cs=w.alloc (FL cs t):=by unfold World.setRow World.alloc;simp only[World.mk.injEq,and_true];grind
def iY(w:U)(c:Array KX)(t:TypeId)(i:Nat)(v:KX):qw (w.alloc (FL c t)) (aD (M (H w)) i) v=w.alloc (FL (c.setIfInBounds i v) t):=by rw[setCell_eq_setRow (w.alloc (FL c t)) (M (H w)) i c t (0,0) v (iX w _),nX]
theorem iw(b off j:Nat):((aD b off):Addr).add j=(aD b (off+j)):=by unfold Addr.add;simp_all
theorem pR(w:U)(dT sT ty elem:TypeId)(size g dLen dCap:Nat)(sp:Option Addr)(sLen sCap:Nat)(cur:Array KX)(t:TypeId)(cs:List KX)
  (hu:P.underlying dT=O (.slice elem)) (hs:(P.info? elem).map (·.size)=O size) (hg:w.heap[g]? = O (FL cur t (0,0))) (hle:sLen<=dLen) (hn:N cs=sLen*size)
  (hsrc:0<N cs->∃a,sp=O a/\∀j v,cs[j]? = O v->w.cell? (a.add j)=O v) (hfit:N cs<=cur.size) (h1:∀v∈cs,v.oneCell' = T) :
  (Builtin.copy_ #[dT,sT] ty #[Z (O (aD g 0)) dLen dCap,Z sp sLen sCap]).run P w=.ok (goInt sLen) (w.setRow g (cs++cur.toList.drop (N cs)).toArray):=by
 have f:=run_storeCells_at P g 0 t cs 0 cur w hg (by omega) h1;have b:Nat.min sLen dLen=sLen:=Nat.min_eq_left hle
 cases hq:P.info? elem with
 |none=>simp_all
 |some i =>
  have k:i.size=size:=by simp_all
  by_cases m:N cs=0
  .obtain rfl:cs=[]:=QF m;have d:w.setRow g cur=w:=setRow_self w g cur t (0,0) hg;have e:∀(x:Addr),(loadCells x (sLen*size)).run P w=.ok #[] w:=λx=>by grind [run_loadCells_list]
   cases sp <;> simp[Builtin.copy_,run_underlying hu,Builtin.lenOf,Builtin.firstCells,sizeOf,typeInfo,hq,k,b,storeCells,e,d]
  .obtain⟨a,rfl,l⟩:=hsrc (by omega);have e:=run_loadCells_list (P:=P) w a cs l;rw[hn]at e;simp[Builtin.copy_,run_underlying hu,Builtin.lenOf,Builtin.firstCells,sizeOf,typeInfo,hq,k,b,e,f]
def aR(xs:List Int):Array Value:=(xs.map (Value.int J)++[Value.int J 77777,Value.int J 77777]).toArray
theorem mO(z:KX)(n:Nat):madeCells #[z] n=(List.replicate n z).toArray:=by
 apply Array.ext_getElem?;intro i;by_cases a:i<n
 .simp[madeCells,a]
  grind
 .simp[madeCells,a]
def Gs(xs:List Int):Array Value:=(xs.map (Value.int J)++[Value.int J 0,Value.int J 0]).toArray
def EA(xs:List Int):Array Value:=(xs.map (Value.int J)++[Value.int J 77777,Value.int J 0]).toArray
def aew(xs:List Int):(Gs xs)[N xs]? = O (I J 0):=by simp[Gs]
def aex(xs:List Int):(EA xs)[N xs+1]? = O (I J 0):=by simp[EA]
def aaD(xs:List Int):(Gs xs).setIfInBounds (N xs) (I J 77777)=EA xs:=by simp only[Gs,EA,QG];simp_all
theorem aaE(xs:List Int):(EA xs).setIfInBounds (N xs+1) (I J 77777)=aR xs:=by grind [EA,aR]
def zH(w:U)(xs:List Int)(t:TypeId):qw (w.alloc (FL (Gs xs) t)) (aD (M (H w)) (N xs)) (I J 77777)=w.alloc (FL (EA xs) t):=by rw[iY,aaD]
def zI(w:U)(xs:List Int)(t:TypeId):qw (w.alloc (FL (EA xs) t)) (aD (M (H w)) (N xs+1)) (I J 77777)=w.alloc (FL (aR xs) t):=by rw[iY,aaE]
theorem J4(w:U)(dT elem:TypeId)(ao:Option Addr)(cap:Nat)(xs:List Int)(hx:aA w ao xs)(hu:P.underlying dT=O (.slice elem))(hs:(P.info? elem).map (·.size)=O 1)(ty:TypeId) :
  (Builtin.copy_ #[dT,dT] ty #[Z (O (aD (M (H w)) 0)) (N xs+2) (N xs+2),Z ao (N xs) cap]).run P (w.alloc (FL (madeCells #[I J 0] (N xs+2)) elem)) =
   .ok (goInt (N xs)) (w.alloc (FL (Gs xs) elem)):=by
 rw[pR (w.alloc (FL (madeCells #[I J 0] (N xs+2)) elem)) dT dT ty elem 1 (M (H w)) (N xs+2) (N xs+2) ao (N xs) cap (madeCells #[I J 0] (N xs+2)) elem (xs.map (Value.int J)) hu hs
  (iX _ _) (by omega) (by simp) ?_ (by simp[size_madeCells]) ?_,nX]
 .congr 3;rw[mO]
  grind [Gs]
 .intro i;have d:0<N xs:=by simp_all
  obtain⟨b,off,rfl,f⟩:=hx.get d;refine⟨(aD b off),rfl,λj v g=>?_⟩;have a:j<N xs:=by grind
  have e:=Qq (f j a) (FL (madeCells #[I J 0] (N xs+2)) elem);simp[a]at g;grind [iw]
 grind [Value.oneCell']
theorem qg{α:Type}(f:α->List KX)(s:Nat)(hf:∀x,N (f x)=s):∀xs:List α,N (xs.flatMap f)=N xs*s
 |[]=>by simp
 |x::xs=>by rw[QH,QI,hf,qg f s hf xs,QJ,Nat.add_mul,Nat.one_mul,Nat.add_comm]
theorem yX{α:Type}(f:α->List KX)(s:Nat)(hf:∀x,N (f x)=s)(z:α):∀(xs:List α) (rest:List KX) (i j:Nat),i<N xs->j<s->(xs.flatMap f++rest)[i*s+j]? = (f (E xs i z))[j]?
 |[],_,i,_,hi,_=>absurd hi (by simp)
 |x::xs,rest,0,j,_,hj=>by grind
 |x::xs,rest,i+1,j,hi,hj=>by have ih:=yX f s hf z xs rest i j (by simp_all) hj;grind
theorem nD(f:α->List KX)(s:Nat)(hf:∀x,N (f x)=s)(xs:List α)(rest:List KX)(j:Nat):(xs.flatMap f++rest)[N xs*s+j]? = rest[j]?:=by grind [qg]
theorem BB(f:α->List KX)(s:Nat)(hf:∀x,N (f x)=s)(xs:List α)(rest:List KX)(j:Nat)(v:KX):(xs.flatMap f++rest).set (N xs*s+j) v=xs.flatMap f++rest.set j v:=by grind [qg]
theorem aaF(z:Array KX)(s n:Nat)(hs:z.size=s)(_h0:0<s):(madeCells z ((n+2)*s)).toList.drop (n*s)=z.toList++z.toList:=by
 apply List.ext_getElem?;intro i;rw[List.getElem?_drop];unfold madeCells;rw[Array.toList_map,Array.toList_range,QK];have b:(n+2)*s=n*s+2*s:=by grind
 have a:∀i,(n*s+i) % s=i % s:=λi=>by simp_all
 by_cases d:i<2*s
 .grind [Nat.mod_eq_of_lt,List.getElem?_append_right,Nat.mod_eq_sub_mod]
 grind
def aF.aI(c:aF):List Value:=[EP c.not,I J c.op,I J c.left,EP c.const,I J c.right]
def zc:List Value:=[EP F,I J 0,I J 0,EP F,I J 0]
def ic:List Value:=[EP F,I J 77777,I J 0,EP F,I J 0]
def Dl(cs:List aF):Array Value:=(cs.flatMap aF.aI++(zc++zc)).toArray
def xL(cs:List aF):Array Value:=(cs.flatMap aF.aI++(ic++zc)).toArray
def dO(cs:List aF):Array Value:=(cs.flatMap aF.aI++(ic++ic)).toArray
def lS(c:aF):N c.aI=5:=rfl
def aaG(cs:List aF):(Dl cs)[N cs*5+1]? = O (I J 0):=by unfold Dl;rw[QM,nD _ 5 lS];rfl
def aaH(cs:List aF):(xL cs)[(N cs+1)*5+1]? = O (I J 0):=by unfold xL;rw[QM,show (N cs+1)*5+1=N cs*5+6 by omega,nD _ 5 lS];rfl
def UL(cs:List aF):(Dl cs).setIfInBounds (N cs*5+1) (I J 77777)=xL cs:=by unfold Dl xL;rw[QG,BB _ 5 lS];rfl
def UM(cs:List aF):(xL cs).setIfInBounds ((N cs+1)*5+1) (I J 77777)=dO cs:=by unfold xL dO;rw[QG,show (N cs+1)*5+1=N cs*5+6 by omega,BB _ 5 lS];rfl
def Gt(w:U)(cs:List aF)(t:TypeId):qw (w.alloc (FL (Dl cs) t)) (aD (M (H w)) (N cs*5+1)) (I J 77777)=w.alloc (FL (xL cs) t):=by rw[iY,UL]
def Gu(w:U)(cs:List aF)(t:TypeId):qw (w.alloc (FL (xL cs) t)) (aD (M (H w)) ((N cs+1)*5+1)) (I J 77777)=w.alloc (FL (dO cs) t):=by rw[iY,UM]
def nY(t:ag):List Value:=[I J t.cols,I J t.rows,I J t.k0,I J t.k1,I J t.k2,I J t.k3]
def zt:List Value:=[I J 0,I J 0,I J 0,I J 0,I J 0,I J 0]
def it:List Value:=[I J 77777,I J 0,I J 0,I J 0,I J 0,I J 0]
def Gv(ts:List ag):Array Value:=(ts.flatMap nY++(zt++zt)).toArray
def BC(ts:List ag):Array Value:=(ts.flatMap nY++(it++zt)).toArray
def kN(ts:List ag):Array Value:=(ts.flatMap nY++(it++it)).toArray
def lT(t:ag):N (nY t)=6:=rfl
def aey(ts:List ag):(Gv ts)[N ts*6]? = O (I J 0):=by unfold Gv;rw[QM,show (N ts)*6=N ts*6+0 by omega,nD _ 6 lT];rfl
def aez(ts:List ag):(BC ts)[(N ts+1)*6]? = O (I J 0):=by unfold BC;rw[QM,show (N ts+1)*6=N ts*6+6 by omega,nD _ 6 lT];rfl
def aaI(ts:List ag):(Gv ts).setIfInBounds (N ts*6) (I J 77777)=BC ts:=by unfold Gv BC;rw[QG,show (N ts)*6=N ts*6+0 by omega,BB _ 6 lT];rfl
def aaJ(ts:List ag):(BC ts).setIfInBounds ((N ts+1)*6) (I J 77777)=kN ts:=by unfold BC kN;rw[QG,show (N ts+1)*6=N ts*6+6 by omega,BB _ 6 lT];rfl
theorem BD(w:U)(dT elem:TypeId)(s:Nat)(z:Array KX)(ao:Option Addr)(n cap:Nat)(cs:List KX)(hs0:0<s)(hz:z.size=s)(hn:N cs=n*s)
  (hc:∀j,j<n*s->∃b off,ao=O (aD b off)/\Am w (aD b (off+j))=cs[j]?) (h1:∀v∈cs,v.oneCell' = T)
  (hu:P.underlying dT=O (.slice elem)) (hs:(P.info? elem).map (·.size)=O s) (ty:TypeId) :
  (Builtin.copy_ #[dT,dT] ty #[Z (O (aD (M (H w)) 0)) (n+2) (n+2),Z ao n cap]).run P (w.alloc (FL (madeCells z ((n+2)*s)) elem)) =
   .ok (goInt n) (w.alloc (FL (cs++(z.toList++z.toList)).toArray elem)):=by
 have f:(madeCells z ((n+2)*s)).size=(n+2)*s:=size_madeCells z _;rw[pR (w.alloc (FL (madeCells z ((n+2)*s)) elem)) dT dT ty elem s (M (H w)) (n+2) (n+2) ao n cap (madeCells z ((n+2)*s)) elem cs hu hs
  (iX _ _) (by omega) hn ?_ (by grind) h1,nX,hn,aaF z s n hz hs0]
 intro g;obtain⟨b,off,rfl,_⟩:=hc 0 (by omega);refine⟨(aD b off),rfl,λj v i=>?_⟩;have a:j<n*s:=by grind
 obtain⟨b',Gi,e,d⟩:=hc j a;cases e;grind [iw,Gn]
def aaK{cs:List aF}(h:bS w ao cs):∀j,j<N cs*5->∃b off,ao=O (aD b off)/\Am w (aD b (off+j))=(cs.flatMap aF.aI)[j]?:=by
 intro j p;obtain⟨b,off,e,g,i,k,l,m⟩:=h.2 (j / 5) (by omega);refine⟨b,off,e,?_⟩;have f:=yX aF.aI 5 lS cz cs [] (j / 5) (j % 5) (by omega) (by omega);rw[QN,show j / 5*5+j % 5=j by omega]at f;rw[f];generalize hd:E cs (j / 5) cz=d at*;have n:j % 5<5:=Nat.mod_lt _ (by omega);rcases (by omega:j % 5=0∨j % 5=1∨j % 5=2∨j % 5=3∨j % 5=4) with a|a|a|a|a
 .rw[show off+j=off+j / 5*5 by omega,g,a];rfl
 .rw[show off+j=off+j / 5*5+1 by omega,i,a];rfl
 .rw[show off+j=off+j / 5*5+2 by omega,k,a];rfl
 .rw[show off+j=off+j / 5*5+3 by omega,l,a];rfl
 .rw[show off+j=off+j / 5*5+4 by omega,m,a];rfl
def aaL(cs:List aF):∀v∈cs.flatMap aF.aI,v.oneCell' = true:=by intro v b;rw[QO]at b;obtain⟨c,_,a⟩:=b;simp only[aF.aI,QP,List.mem_nil_iff,or_false]at a;rcases a with rfl|rfl|rfl|rfl|rfl <;> rfl
def aeA{ts:List ag}(h:aN w ao ts):∀j,j<N ts*6->∃b off,ao=O (aD b off)/\Am w (aD b (off+j))=(ts.flatMap nY)[j]?:=by
 intro j q;obtain⟨b,off,e,g,i,k,l,m,n⟩:=h.2 (j / 6) (by omega);refine⟨b,off,e,?_⟩;have f:=yX nY 6 lT tz ts [] (j / 6) (j % 6) (by omega) (by omega);rw[QN,show j / 6*6+j % 6=j by omega]at f;rw[f];generalize hd:E ts (j / 6) tz=d at*;have p:j % 6<6:=Nat.mod_lt _ (by omega);rcases (by omega:j % 6=0∨j % 6=1∨j % 6=2∨j % 6=3∨j % 6=4∨j % 6=5) with a|a|a|a|a|a
 .rw[show off+j=off+j / 6*6 by omega,g,a];rfl
 .rw[show off+j=off+j / 6*6+1 by omega,i,a];rfl
 .rw[show off+j=off+j / 6*6+2 by omega,k,a];rfl
 .rw[show off+j=off+j / 6*6+3 by omega,l,a];rfl
 .rw[show off+j=off+j / 6*6+4 by omega,m,a];rfl
 .rw[show off+j=off+j / 6*6+5 by omega,n,a];rfl
def aeB(ts:List ag):∀v∈ts.flatMap nY,v.oneCell' = true:=by intro v b;rw[QO]at b;obtain⟨c,_,a⟩:=b;simp only[nY,QP,List.mem_nil_iff,or_false]at a;rcases a with rfl|rfl|rfl|rfl|rfl|rfl <;> rfl
def GB(w:U)(G:Nat)(t:TypeId)(c:Array KX):Prop:=w.heap[G]? = O (FL c t (0,0))
def aX(w:U)(c:Array KX)(t:TypeId):∃x,w.alloc (FL c t)=x/\Bw w x/\GB x (M (H w)) t c:=⟨_,rfl,bJ _ _,iX _ _⟩
theorem GB.cell{w:U}{G:Nat}{t:TypeId}{c:Array KX}(h:GB w G t c)(i:Nat):Am w (aD G i)=c[i]?:=by unfold GB at h;simp[World.cell?,h]
theorem GB.frozen{w:U}{G:Nat}{t:TypeId}{c:Array KX}(h:GB w G t c)(i:Nat):w.frozen? (aD G i)=false:=by unfold GB at h;simp[World.frozen?,h]
theorem GB.lt(h:GB w G t c):G<M (H w):=by unfold GB at h;grind
theorem GB.set(h:GB w G t c)(i:Nat)(v:KX):GB (qw w (aD G i) v) G t (c.setIfInBounds i v):=by unfold GB at*;rw[setCell_eq_setRow w G i c t (0,0) v h];grind [setRow_heap]
theorem GB.of(h:GB w G t c)(e:w'.heap[G]? = w.heap[G]?):GB w' G t c:=by unfold GB at*;simp_all
def heap_setCell{w:U}{a:Addr}{v:KX}{k:Nat}(h:k≠a.block):(w.setCell a v).heap[k]? = w.heap[k]?:=Below.heap_setCell _ _ _ _ h
def heap_alloc{w:U}{o:Obj}{k:Nat}(h:k<M (H w)):(w.alloc o).heap[k]? = w.heap[k]?:=Below.heap_alloc _ _ _ h
structure vJ(qG w0 wr:U)(G tG tC tA tS n:Nat)(gc:KX->KX->Array KX)(ls:List az)(k:Nat)(v:KX)(A:Nat->Nat):Prop where
 qE:Bw qG wr
 Po:∀j,j<M (H w0)->j≠G->wr.heap[j]? = w0.heap[j]?
 K7:M (H w0)<M (H wr)
 g:GB wr G tG (gc (Z (O (aD (M (H w0)) 0)) (n+2) (n+2)) v)
 row:wr.rowIs (M (H w0)) tC (n+2) (λi=>if i<k then Z (O (aD (A i) 0)) (E ls i lz).cs.length ((E ls i lz).cs.length+2) else Z E5 0 0)
 al:∀i,i<k->M (H w0)<A i/\GB wr (A i) tS (dO (E ls i lz).cs)
 own:wr.ownsRow (M (H w0)) tA 1 v k ((List.range k).map λi=>Z (O (aD (A i) 0)) ((E ls i lz).cs.length+2) ((E ls i lz).cs.length+2))
structure ail(qG w0 wr w1:U)(G tG tC tS n:Nat)(gc:KX->KX->Array KX)(ls:List az)(k:Nat)(v v':KX)(A:Nat->Nat)(cs:List aF):Prop where
 qE:Bw qG w1
 Po:∀j,j<M (H w0)->j≠G->w1.heap[j]? = w0.heap[j]?
 K7:M (H w0)<M (H w1)
 avW:M (H w0)<M (H wr)
 g:GB w1 G tG (gc (Z (O (aD (M (H w0)) 0)) (n+2) (n+2)) v)
 row:w1.rowIs (M (H w0)) tC (n+2) (λi=>if i<k then Z (O (aD (A i) 0)) (E ls i lz).cs.length ((E ls i lz).cs.length+2) else Z E5 0 0)
 al:∀i,i<k->M (H w0)<A i/\GB w1 (A i) tS (dO (E ls i lz).cs)
 new:GB w1 (M (H wr)) tS (dO cs)
 sh:∃g cap,v' = Z (O (aD g 0)) (k+1) cap
theorem vJ.lN{ls:List az}{cs:List aF}{Yq:Obj}{xs:List KX}
  (h:vJ qG w0 wr G tG tC tA tS n gc ls k v A) (hAC:tA≠tC) (hAS:tA≠tS) (hG:G<M (H w0)) (hGo:M (H qG)<=G)
  (hown:w1.ownsRow (M (H w0)) tA 1 v' (k+1) xs) (_hx:N xs=k+1) (hgr:((wr.alloc (FL (dO cs) tS)).alloc Yq).grownBy w1 v.ownBlock) :
  ail qG w0 wr w1 G tG tC tS n gc ls k v v' A cs:=by
 have z:=h.own.lt;have f:=h.K7;have a:∀j,j<M (H wr)->O j≠v.ownBlock->w1.heap[j]? = wr.heap[j]?:=λj d e=>by rw[hgr.block j (by simp;omega) e,heap_alloc (by simp;omega),heap_alloc d]
 have l:∀j c t,wr.heap[j]? = O (FL c t (0,0))->t≠tA->O j≠v.ownBlock:=λj c t d D p=>by
  rcases h.own.2 with⟨rfl,_⟩|⟨g,cap,cur,rfl,_,hh,_⟩
  .grind [Value.ownBlock]
  .simp[Value.ownBlock]at p
   simp_all
 have b:∀j,j<M (H w0)->O j≠v.ownBlock:=λj d p=>by grind
 refine⟨?_,λj d e=>?_,?_,f,?_,?_,λi y=>⟨(h.al i y).1,?_⟩,?_,?_⟩
 .have q:=(h.qE.alloc h.qE.size (FL (dO cs) tS))
  have B:=q.alloc q.size Yq;exact B.grown hgr (by have:=h.qE.size;simp;omega) (λj d=>by grind)
 .rw[a j (by omega) (b j d)];exact h.Po j d e
 .have:=hgr.size;simp at this;omega
 .exact h.g.of (a G (by omega) (b G hG))
 .obtain⟨c,r,C,u⟩:=h.row;exact⟨c,(a _ f (l _ _ _ r (Ne.symm hAC))).trans r,C,u⟩
 .have m:=(h.al i y).2;exact m.of (a _ m.lt (l _ _ _ m (Ne.symm hAS)))
 .show w1.heap[M (H wr)]? = _
  rw[hgr.block (M (H wr)) (by simp;omega) (λp=>by grind),heap_alloc (by simp),iX]
 .rcases hown.2 with⟨_,hnil⟩|⟨g,cap,cur,u,_⟩
  .omega
  simp_all
theorem ail.next{ls:List az}{cs:List aF}
  (Mq:ail qG w0 wr w1 G tG tC tS n gc ls k v v' A cs) (hgc:∀x y y',(gc x y).setIfInBounds 12 y' = gc x y') (hG:G<M (H w0)) (hGo:M (H qG)<=G) (hcs:(E ls k lz).cs=cs)
  (hAC:tA≠tC) (_hAS:tA≠tS) (_hAG:tA≠tG)
  (hown:w1.ownsRow (M (H w0)) tA 1 v' (k+1) (((List.range k).map λi=>Value.slice (O (aD (A i) 0)) ((E ls i lz).cs.length+2) ((E ls i lz).cs.length+2))++[Value.slice (O (aD (M (H wr)) 0)) (N cs+2) (N cs+2)])) :
  vJ qG w0 (qw (qw w1 (aD G 12) v') (aD (M (H w0)) k) (Z (O (aD (M (H wr)) 0)) (N cs) (N cs+2))).drew G tG tC tA tS n gc ls (k+1) v' (λi=>if i=k then M (H wr) else A i):=by
 have l:=Mq.avW;have t:=Mq.K7;have u:∀i,i<k->A i≠M (H wr)∨True:=λ_ _=>.inr trivial;have b:∀j,j≠G->j≠M (H w0)->((qw (qw w1 (aD G 12) v') (aD (M (H w0)) k) (Z (O (aD (M (H wr)) 0)) (N cs) (N cs+2))).drew).heap[j]? = w1.heap[j]?:=λj d D=>by show (qw (qw w1 (aD G 12) v') (aD (M (H w0)) k) _).heap[j]? = _;rw[heap_setCell D,heap_setCell d]
 refine⟨?_,λj P m=>?_,?_,?_,?_,λi K=>?_,?_⟩
 .have z:=Mq.qE.size;exact((Mq.qE.setCell (p:=(aD G 12)) hGo v').setCell (p:=(aD (M (H w0)) k)) (by grind) _).drew
 .rw[b j m (by omega)]
  grind [ail.Po]
 .simp_all
 .have d:=Mq.g.set 12 v';rw[hgc]at d;exact d.of (by show (qw (qw w1 (aD G 12) v') (aD (M (H w0)) k) _).heap[G]? = _;rw[heap_setCell (by grind)])
 .have d:=(Mq.row.setOther (a:=(aD G 12)) (by grind) v').set k (Z (O (aD (M (H wr)) 0)) (N cs) (N cs+2));refine(d.drew).congr λi K=>?_
  grind
 .by_cases f:i=k
  .subst f;simp only[if_true];refine⟨l,?_⟩;rw[hcs];exact Mq.new.of (b _ (by omega) (by omega))
  .simp only[f,if_false];have r:=Mq.al i (by omega);exact⟨r.1,r.2.of (b _ (by omega) (by omega))⟩
 .have e:((List.range (k+1)).map λi=>Value.slice (O ⟨(λi=>if i=k then M (H wr) else A i) i,0,E5⟩) ((E ls i lz).cs.length+2) ((E ls i lz).cs.length+2)) =
    (((List.range k).map λi=>Value.slice (O (aD (A i) 0)) ((E ls i lz).cs.length+2) ((E ls i lz).cs.length+2))++[Value.slice (O (aD (M (H wr)) 0)) (N cs+2) (N cs+2)]):=by
   rw[QT,Ql];congr 1
   .apply QU
    grind
   simp_all
  rw[e];have B:v'.ownBlock≠O G:=λq=>by have:=hown.lt _ q;omega
  have C:v'.ownBlock≠O (M (H w0)):=λq=>by
   obtain⟨c,L,_⟩:=Mq.row;rcases hown.2 with⟨rfl,_⟩|⟨g,cap,cur,rfl,_,hh,_⟩
   .omega
   .simp[Value.ownBlock]at q
    simp_all
  exact(QV (QV hown B v') C _).drew
def QQ:=@GB.cell
def QR:=@heap_setCell
def QS:=@heap_alloc
theorem GB.at(h:GB w G t c)(i:Nat)(hv:c.toList[i]? = some v:=by exact rfl):w.cell? (aD G i)=some v:=by grind [GB.cell]
theorem hd(h:p):Wl p:=h
theorem pA(l:List KX)(d)(i:Nat)(v:KX):Act.put { tmps:=l.toArray,defers:=d } (O i) v = { tmps:=(l.set i v).toArray,defers:=d }:=by simp[Act.put]
theorem pU:(∀(l:List KX) (d) (i:Nat) (v:KX),Act.put { tmps:=l.toArray,defers:=d } (O i) v = { tmps:=(l.set i v).toArray,defers:=d })/\(∀{x:KX} {l:List KX} {n:Nat} {a:KX},(x::l).set (n+1) a=x::l.set n a)/\(∀{x:KX} {l:List KX} {a:KX},(x::l).set 0 a=a::l):=⟨pA,Qb,Qc⟩
def wt(i:Nat)(v:Value)(hS:S w)(h:wpAnyH P md ops Q S fuel (listed.setIfInBounds i true) (a.put oi.dst v) w)(hi:ops[i]? = some oi:=by exact rfl)(hs:Region.noSelect ops=true:=by kernel_rfl)(hf:Region.free md ops listed i=true:=by kernel_rfl)(hr:(Region.ready md ops listed).contains i=true:=by kernel_rfl)(hQ:∀c a w,Q (.panic c) (a.put oi.dst v) w->Q (.panic c) a w:=by exact λ_ _ _ h=>h)(hg:Region.wanted oi (yielded ops a.tmps)=true:=by rfl)(hy:∀x,S x->(execOp a.eval oi).run P x=.ok (.value v) x:=by intro x b;go_simp):wpAnyH P md ops Q S (fuel+1) listed a w:=
 Qa hi hs hf hr hQ (.inl ⟨hg,hy⟩) hS h
def wg(i:Nat)(v:Value)(hS:S w)(h:wpAnyH P md ops Q S fuel (listed.setIfInBounds i true) (a.put oi.dst v) w)(hi:ops[i]? = some oi:=by exact rfl)(hs:Region.noSelect ops=true:=by kernel_rfl)(hf:Region.free md ops listed i=true:=by kernel_rfl)(hr:(Region.ready md ops listed).contains i=true:=by kernel_rfl)(hQ:∀c a w,Q (.panic c) (a.put oi.dst v) w->Q (.panic c) a w:=by exact λ_ _ _ h=>h)(hg:Region.wanted oi (yielded ops a.tmps)=true:=by kernel_rfl)(hy:∀x,S x->(execOp a.eval oi).run P x=.ok (.value v) x:=by intro x b;go_simp):wpAnyH P md ops Q S (fuel+1) listed a w:=
 Qa hi hs hf hr hQ (.inl ⟨hg,hy⟩) hS h
def wn(i:Nat)(v:Value)(hS:S w)(h:wpAnyH P md ops Q S fuel (listed.setIfInBounds i true) (a.put oi.dst v) w)(hi:ops[i]? = some oi:=by exact rfl)(hs:Region.noSelect ops=true:=by kernel_rfl)(hf:Region.free md ops listed i=true:=by kernel_rfl)(hr:(Region.ready md ops listed).contains i=true:=by kernel_rfl)(hQ:∀c a w,Q (.panic c) (a.put oi.dst v) w->Q (.panic c) a w:=by exact λ_ _ _ h=>by cases h.1)(hg:Region.wanted oi (yielded ops a.tmps)=true:=by rfl)(hy:∀x,S x->(execOp a.eval oi).run P x=.ok (.value v) x:=by intro x b;go_simp):wpAnyH P md ops Q S (fuel+1) listed a w:=
 Qa hi hs hf hr hQ (.inl ⟨hg,hy⟩) hS h
def wm(i:Nat)(v:Value)(hS:S w)(h:wpAnyH P md ops Q S fuel (listed.setIfInBounds i true) (a.put oi.dst v) w)(hi:ops[i]? = some oi:=by exact rfl)(hs:Region.noSelect ops=true:=by kernel_rfl)(hf:Region.free md ops listed i=true:=by kernel_rfl)(hr:(Region.ready md ops listed).contains i=true:=by kernel_rfl)(hQ:∀c a w,Q (.panic c) (a.put oi.dst v) w->Q (.panic c) a w:=by exact λ_ _ _ h=>by cases h.1)(hg:Region.wanted oi (yielded ops a.tmps)=true:=by kernel_rfl)(hy:∀x,S x->(execOp a.eval oi).run P x=.ok (.value v) x:=by intro x b;go_simp):wpAnyH P md ops Q S (fuel+1) listed a w:=
 Qa hi hs hf hr hQ (.inl ⟨hg,hy⟩) hS h
def wtc{o:Nat}{u:Value}(i:Nat)(v:Value)(hS:Bw W w)(c:W.cell? (aD b o)=some u)(h:wpAnyH P md ops Q (λx=>Bw W x) fuel (listed.setIfInBounds i true) (a.put oi.dst v) w)(hi:ops[i]? = some oi:=by exact rfl)(hs:Region.noSelect ops=true:=by kernel_rfl)(hf:Region.free md ops listed i=true:=by kernel_rfl)(hr:(Region.ready md ops listed).contains i=true:=by kernel_rfl)(hQ:∀c a w,Q (.panic c) (a.put oi.dst v) w->Q (.panic c) a w:=by exact λ_ _ _ h=>h)(hg:Region.wanted oi (yielded ops a.tmps)=true:=by rfl)(hy:∀x,x.cell? (aD b o)=some u->(execOp a.eval oi).run P x=.ok (.value v) x:=by intro x d;go_simp):wpAnyH P md ops Q (λx=>Bw W x) (fuel+1) listed a w:=
 Qa hi hs hf hr hQ (.inl ⟨hg,λx d=>hy x (cB d c)⟩) hS h
def IsV(_:KX):Prop:=True
def apP{p:KX->Prop}(_:IsV v)(h:p v):∃x,p x:=⟨v,h⟩
def qS{P Q:Prop}(v:KX)(k:Q)(h:IsV v->Q->P:=by
  intro a b;go_big_quiet_want;refine apP a ⟨λx d=>?_,?_⟩
  .go_simp
  .simp only[pU];go_big_quiet_on;exact b):P:=h trivial k
def qC{P Q C:Prop}(v:KX)(c:C)(k:Q)(h:IsV v->C->Q->P:=by
  intro a c b;go_big_quiet_want;refine apP a ⟨λx d=>?_,?_⟩
  .have e:=cB d c;go_simp
  .simp only[pU];go_big_quiet_on;exact b):P:=h trivial c k
theorem GB.k2(h:GB w G t c)(e:c.toList.take 2=[v0,v1]:=by exact rfl):w.cell? (aD G 0)=some v0/\w.cell? (aD G 1)=some v1:=by
 have r:∀i,i<2->c.toList[i]? = ([v0,v1]:List Value)[i]?:=λi a=>by grind
 grind [GB.at]
theorem GB.k3(h:GB w G t c)(e:c.toList.take 3=[v0,v1,v2]:=by exact rfl):w.cell? (aD G 0)=some v0/\w.cell? (aD G 1)=some v1/\w.cell? (aD G 2)=some v2:=by
 have r:∀i,i<3->c.toList[i]? = ([v0,v1,v2]:List Value)[i]?:=λi a=>by grind
 grind [GB.at]
theorem GB.k4(h:GB w G t c)(e:c.toList.take 4=[v0,v1,v2,v3]:=by exact rfl):w.cell? (aD G 0)=some v0/\w.cell? (aD G 1)=some v1/\w.cell? (aD G 2)=some v2/\w.cell? (aD G 3)=some v3:=by
 have r:∀i,i<4->c.toList[i]? = ([v0,v1,v2,v3]:List Value)[i]?:=λi a=>by grind
 grind [GB.at]
theorem GB.k5(h:GB w G t c)(e:c.toList.take 5=[v0,v1,v2,v3,v4]:=by exact rfl):w.cell? (aD G 0)=some v0/\w.cell? (aD G 1)=some v1/\w.cell? (aD G 2)=some v2/\w.cell? (aD G 3)=some v3/\w.cell? (aD G 4)=some v4:=by
 have r:∀i,i<5->c.toList[i]? = ([v0,v1,v2,v3,v4]:List Value)[i]?:=λi a=>by grind
 exact⟨h.at 0 (r 0 (by decide)),h.at 1 (r 1 (by decide)),h.at 2 (r 2 (by decide)),h.at 3 (r 3 (by decide)),h.at 4 (r 4 (by decide))⟩
theorem GB.k6(h:GB w G t c)(e:c.toList.take 6=[v0,v1,v2,v3,v4,v5]:=by exact rfl):w.cell? (aD G 0)=some v0/\w.cell? (aD G 1)=some v1/\w.cell? (aD G 2)=some v2/\w.cell? (aD G 3)=some v3/\w.cell? (aD G 4)=some v4/\w.cell? (aD G 5)=some v5:=by
 have r:∀i,i<6->c.toList[i]? = ([v0,v1,v2,v3,v4,v5]:List Value)[i]?:=λi a=>by grind
 exact⟨h.at 0 (r 0 (by decide)),h.at 1 (r 1 (by decide)),h.at 2 (r 2 (by decide)),h.at 3 (r 3 (by decide)),h.at 4 (r 4 (by decide)),h.at 5 (r 5 (by decide))⟩
theorem GB.k7(h:GB w G t c)(e:c.toList.take 7=[v0,v1,v2,v3,v4,v5,v6]:=by exact rfl):w.cell? (aD G 0)=some v0/\w.cell? (aD G 1)=some v1/\w.cell? (aD G 2)=some v2/\w.cell? (aD G 3)=some v3/\w.cell? (aD G 4)=some v4/\w.cell? (aD G 5)=some v5/\w.cell? (aD G 6)=some v6:=by
 have r:∀i,i<7->c.toList[i]? = ([v0,v1,v2,v3,v4,v5,v6]:List Value)[i]?:=λi a=>by grind
 exact⟨h.at 0 (r 0 (by decide)),h.at 1 (r 1 (by decide)),h.at 2 (r 2 (by decide)),h.at 3 (r 3 (by decide)),h.at 4 (r 4 (by decide)),h.at 5 (r 5 (by decide)),h.at 6 (r 6 (by decide))⟩
theorem GB.k8(h:GB w G t c)(e:c.toList.take 8=[v0,v1,v2,v3,v4,v5,v6,v7]:=by exact rfl):w.cell? (aD G 0)=some v0/\w.cell? (aD G 1)=some v1/\w.cell? (aD G 2)=some v2/\w.cell? (aD G 3)=some v3/\w.cell? (aD G 4)=some v4/\w.cell? (aD G 5)=some v5/\w.cell? (aD G 6)=some v6/\w.cell? (aD G 7)=some v7:=by
 have r:∀i,i<8->c.toList[i]? = ([v0,v1,v2,v3,v4,v5,v6,v7]:List Value)[i]?:=λi a=>by grind
 exact⟨h.at 0 (r 0 (by decide)),h.at 1 (r 1 (by decide)),h.at 2 (r 2 (by decide)),h.at 3 (r 3 (by decide)),h.at 4 (r 4 (by decide)),h.at 5 (r 5 (by decide)),h.at 6 (r 6 (by decide)),h.at 7 (r 7 (by decide))⟩
theorem GB.k9(h:GB w G t c)(e:c.toList.take 9=[v0,v1,v2,v3,v4,v5,v6,v7,v8]:=by exact rfl):w.cell? (aD G 0)=some v0/\w.cell? (aD G 1)=some v1/\w.cell? (aD G 2)=some v2/\w.cell? (aD G 3)=some v3/\w.cell? (aD G 4)=some v4/\w.cell? (aD G 5)=some v5/\w.cell? (aD G 6)=some v6/\w.cell? (aD G 7)=some v7/\w.cell? (aD G 8)=some v8:=by
 have r:∀i,i<9->c.toList[i]? = ([v0,v1,v2,v3,v4,v5,v6,v7,v8]:List Value)[i]?:=λi a=>by grind
 exact⟨h.at 0 (r 0 (by decide)),h.at 1 (r 1 (by decide)),h.at 2 (r 2 (by decide)),h.at 3 (r 3 (by decide)),h.at 4 (r 4 (by decide)),h.at 5 (r 5 (by decide)),h.at 6 (r 6 (by decide)),h.at 7 (r 7 (by decide)),h.at 8 (r 8 (by decide))⟩
theorem GB.zR(h:GB w G t c)(e:c.toList.take 13=[v0,v1,v2,v3,v4,v5,v6,v7,v8,v9,v10,v11,v12]:=by exact rfl):w.cell? (aD G 0)=some v0/\w.cell? (aD G 1)=some v1/\w.cell? (aD G 2)=some v2/\w.cell? (aD G 3)=some v3/\w.cell? (aD G 4)=some v4/\w.cell? (aD G 5)=some v5/\w.cell? (aD G 6)=some v6/\w.cell? (aD G 7)=some v7/\w.cell? (aD G 8)=some v8/\w.cell? (aD G 9)=some v9/\w.cell? (aD G 10)=some v10/\w.cell? (aD G 11)=some v11/\w.cell? (aD G 12)=some v12:=by
 have r:∀i,i<13->c.toList[i]? = ([v0,v1,v2,v3,v4,v5,v6,v7,v8,v9,v10,v11,v12]:List Value)[i]?:=λi a=>by grind
 exact⟨h.at 0 (r 0 (by decide)),h.at 1 (r 1 (by decide)),h.at 2 (r 2 (by decide)),h.at 3 (r 3 (by decide)),h.at 4 (r 4 (by decide)),h.at 5 (r 5 (by decide)),h.at 6 (r 6 (by decide)),h.at 7 (r 7 (by decide)),h.at 8 (r 8 (by decide)),h.at 9 (r 9 (by decide)),h.at 10 (r 10 (by decide)),h.at 11 (r 11 (by decide)),h.at 12 (r 12 (by decide))⟩
def wH{id:Nat}(w:World)(h:Bw w w.drew->wpAnyH P .any ops Q (λx=>Bw w x) ops.size (Array.replicate ops.size false) a w.drew)(hm:P.follows .mixedOrders=true:=by kernel_rfl):(Code.region id ops true).wp P Q a w:=
 QW hm ((Qr _ _).drew) h
def wD(h:Q .normal a w)(hr:Region.ready md ops listed=[]:=by kernel_rfl):wpAnyH P md ops Q S fuel listed a w:=wpAnyH_done hr h fuel
def oT(hK:Shut (∀a w,Bw W w->(Bw W w->X a w)->K' a w))(hS:Bw W w)(hb:Bw w w')(h:Bw W w'->X a w'):K' a w':=hK.o _ _ (hS.trans (hb.mono hS.size)) h
def oA(hK:Shut (∀a w,Bw W w->(Bw W w->X a w)->K' a w)){o:Obj}(hS:Bw W w)(h:Bw W (w.alloc o)->X a (w.alloc o)):K' a (w.alloc o):=hK.o _ _ (hS.trans ((bJ _ _).mono hS.size)) h
def wJ{oj:Oper}(i j:Nat)(h:∀K':Act->World->Prop,Shut (∀a w,S w->(S w->wpAnyH P md ops Q S fuel (listed.setIfInBounds i true) a w)->K' a w)->if Region.wanted oi (yielded ops a.tmps)=true then Oper.wp P oi a w K' Q else K' (a.put oi.dst undef) w)(h2:∀K':Act->World->Prop,Shut (∀a w,S w->(S w->wpAnyH P md ops Q S fuel (listed.setIfInBounds j true) a w)->K' a w)->if Region.wanted oj (yielded ops a.tmps)=true then Oper.wp P oj a w K' Q else K' (a.put oj.dst undef) w)(hi:ops[i]? = some oi:=by exact rfl)(hj:ops[j]? = some oj:=by exact rfl)(hr:Region.ready md ops listed=[i,j]:=by kernel_rfl):wpAnyH P md ops Q S (fuel+1) listed a w:=
 wpAnyH_ready hr (by simp) (AllReadyH.cons hi h (AllReadyH.cons hj h2 AllReadyH.nil))
def Zh(h:p):Wl p:=h
def aV(a0:p0)(a1:p1):Wl p0/\Wl p1:=⟨a0,a1⟩
def fe(a0:p0)(a1:p1)(a2:p2):Wl p0/\Wl p1/\Wl p2:=⟨a0,a1,a2⟩
def xA(a0:p0)(a1:p1)(a2:p2)(a3:p3):Wl p0/\Wl p1/\Wl p2/\Wl p3:=⟨a0,a1,a2,a3⟩
def J5(a0:p0)(a1:p1)(a2:p2)(a3:p3)(a4:p4):Wl p0/\Wl p1/\Wl p2/\Wl p3/\Wl p4:=⟨a0,a1,a2,a3,a4⟩
def Dm(a0:p0)(a1:p1)(a2:p2)(a3:p3)(a4:p4)(a5:p5):Wl p0/\Wl p1/\Wl p2/\Wl p3/\Wl p4/\Wl p5:=⟨a0,a1,a2,a3,a4,a5⟩
def Dn{p6:Prop}(a0:p0)(a1:p1)(a2:p2)(a3:p3)(a4:p4)(a5:p5)(a6:p6):Wl p0/\Wl p1/\Wl p2/\Wl p3/\Wl p4/\Wl p5/\Wl p6:=⟨a0,a1,a2,a3,a4,a5,a6⟩
structure afa(qG w0 w':U)(G tG tC tA tS n:Nat)(gc:KX->KX->KX->Array KX)(ls:List az)(v:KX)(A:Nat->Nat)(b1 b2:Nat):Prop where
 qE:Bw qG w'
 Po:∀j,j<M (H w0)->j≠G->w'.heap[j]? = w0.heap[j]?
 K7:M (H w0)<M (H w')
 g:GB w' G tG (gc (Z (O (aD (M (H w0)) 0)) n (n+2)) (Z (O (aD (M (H w0)) 0)) (n+2) (n+2)) v)
 row:w'.rowIs (M (H w0)) tC (n+2) (λi=>if i<n then Z (O (aD (A i) 0)) (E ls i lz).cs.length ((E ls i lz).cs.length+2) else if i=n then Z (O (aD b1 0)) 1 1 else Z (O (aD b2 0)) 1 1)
 al:∀i,i<n->M (H w0)<A i/\GB w' (A i) tS (dO (E ls i lz).cs)
 own:w'.ownsRow (M (H w0)) tA 1 v n ((List.range n).map λi=>Z (O (aD (A i) 0)) ((E ls i lz).cs.length+2) ((E ls i lz).cs.length+2))
 k1:M (H w0)<b1/\GB w' b1 tS ic.toArray
 k2:M (H w0)<b2/\GB w' b2 tS ic.toArray
theorem vJ.fin{gc':KX->KX->KX->Array KX}{ls:List az}
  (h:vJ qG w0 wr G tG tC tA tS n gc ls n v A) (hgc:∀x y z,(gc y z).setIfInBounds 2 x=gc' x y z) (hG:G<M (H w0)) (hGo:M (H qG)<=G) (hAC:tA≠tC) :
  afa qG w0 (((qw (qw (qw wr (aD (M (H w0)) n) (Z (O (aD (M (H wr)) 0)) 1 1)) (aD (M (H w0)) (n+1)) (Z (O (aD (M (H wr)+1) 0)) 1 1)) (aD G 2) (Z (O (aD (M (H w0)) 0)) n (n+2))).alloc
   (FL ic.toArray tS)).alloc (FL ic.toArray tS)) G tG tC tA tS n gc' ls v A (M (H wr)) (M (H wr)+1):=by
 have Q:=h.K7
 let b:=qw (qw (qw wr (aD (M (H w0)) n) (Z (O (aD (M (H wr)) 0)) 1 1)) (aD (M (H w0)) (n+1)) (Z (O (aD (M (H wr)+1) 0)) 1 1)) (aD G 2) (Z (O (aD (M (H w0)) 0)) n (n+2))
 have d:M (H b)=M (H wr):=by simp[b]
 have f:∀j,j≠G->j≠M (H w0)->b.heap[j]? = wr.heap[j]?:=λj k l=>by show (qw (qw (qw wr (aD (M (H w0)) n) _) (aD (M (H w0)) (n+1)) _) (aD G 2) _).heap[j]? = _;rw[QR k,QR l,QR l]
 have m:∀j,j<M (H wr)->((b.alloc (FL ic.toArray tS)).alloc (FL ic.toArray tS)).heap[j]? = b.heap[j]?:=λj t=>by rw[QS (by simp[d];omega),QS (by omega)]
 have e:∀j,j<M (H wr)->j≠G->j≠M (H w0)->((b.alloc (FL ic.toArray tS)).alloc (FL ic.toArray tS)).heap[j]? = wr.heap[j]?:=λj t k l=>(m j t).trans (f j k l);show afa qG w0 ((b.alloc (FL ic.toArray tS)).alloc (FL ic.toArray tS)) G tG tC tA tS n gc' ls v A (M (H wr)) (M (H wr)+1);have q:Bw qG b:=((h.qE.setCell (p:=(aD (M (H w0)) n)) (by grind) _).setCell (p:=(aD (M (H w0)) (n+1))) (by grind) _).setCell (p:=(aD G 2)) hGo _;refine⟨?_,λj t r=>?_,?_,?_,?_,λi K=>?_,?_,⟨by omega,?_⟩,⟨by omega,?_⟩⟩
 .have C:=q.alloc q.size (FL ic.toArray tS);exact C.alloc C.size _
 .rw[e j (by omega) r (by omega)];exact h.Po j t r
 .grind
 .have k:GB (qw (qw wr (aD (M (H w0)) n) (Z (O (aD (M (H wr)) 0)) 1 1)) (aD (M (H w0)) (n+1)) (Z (O (aD (M (H wr)+1) 0)) 1 1)) G tG (gc (Z (O (aD (M (H w0)) 0)) (n+2) (n+2)) v):=
   h.g.of (by rw[QR (by grind),QR (by grind)])
  have l:=k.set 2 (Z (O (aD (M (H w0)) 0)) n (n+2));rw[hgc]at l;exact GB.of (w:=b) l (m G (by omega))
 .have k:=((h.row.set n (Z (O (aD (M (H wr)) 0)) 1 1)).set (n+1) (Z (O (aD (M (H wr)+1) 0)) 1 1)).setOther (a:=(aD G 2)) (by grind) (Z (O (aD (M (H w0)) 0)) n (n+2));refine((k.alloc _).alloc _).congr λi K=>?_
  by_cases P:i<n
  .simp only[QC (show ¬i=n+1 by omega),QC (show ¬i=n by omega),Qu P]
  .by_cases W:i=n
   .simp_all
   .have R:i=n+1:=by omega
    simp_all
 .have B:=h.al i K;exact⟨B.1,B.2.of (e _ B.2.lt (by omega) (by omega))⟩
 .have L:v.ownBlock≠O G:=λu=>by have:=h.own.lt _ u;omega
  have D:v.ownBlock≠O (M (H w0)):=λu=>by
   obtain⟨c,S,_⟩:=h.row;rcases h.own.2 with⟨rfl,_⟩|⟨g,cap,cur,rfl,_,hh,_⟩
   .simp[Value.ownBlock]at u
   .simp[Value.ownBlock]at u
    simp_all
  exact((QV (QV (QV h.own D _) D _) L _).alloc _).alloc _
 .show ((b.alloc (FL ic.toArray tS)).alloc (FL ic.toArray tS)).heap[M (H wr)]? = _
  rw[QS (by simp[d]),<-d,iX]
 .show ((b.alloc (FL ic.toArray tS)).alloc (FL ic.toArray tS)).heap[M (H wr)+1]? = _
  have:M (H wr)+1=M (H (b.alloc (FL ic.toArray tS))):=by simp[d]
  rw[this,iX]
def vJ.start{ls:List az}
  (hb:Bw qG w) (hGo:M (H qG)<=G) (hG:GB w G tG c) (hgc:c.setIfInBounds 11 (Z (O (aD (M (H w)) 0)) (n+2) (n+2))=gc (Z (O (aD (M (H w)) 0)) (n+2) (n+2)) (Z E5 0 0)) :
  vJ qG w ((qw w (aD G 11) (Z (O (aD (M (H w)) 0)) (n+2) (n+2))).alloc (FL (madeCells #[Z E5 0 0] (n+2)) tC)) G tG tC tA tS n gc ls 0 (Z E5 0 0) (λ_=>0):=by
 have e:=hG.lt;have a:=hb.setCell (p:=(aD G 11)) hGo (Z (O (aD (M (H w)) 0)) (n+2) (n+2));refine⟨a.alloc a.size _,λj g d=>?_,by simp,?_,?_,λi f=>absurd f (by omega),Xl _ _ _ _⟩
 .rw[QS (by simp_all),QR d]
 .have b:=hG.set 11 (Z (O (aD (M (H w)) 0)) (n+2) (n+2));rw[hgc]at b;exact b.of (QS (by simp_all))
 .have b:=World.rowIs_made (qw w (aD G 11) (Z (O (aD (M (H w)) 0)) (n+2) (n+2))) (Z E5 0 0) (n+2) tC
  simp_all
def aZ(l:List Int):Nat:=l.foldl (λm n=>m|||2 ^ n.toNat) 0
theorem aa8(l:List Int)(x:Int):aZ (l++[x])=aZ l|||2 ^ x.toNat:=by grind [aZ]
theorem aa9(l:List Int):∀(m i:Nat),(∀x∈l,0<=x)->(l.foldl (λm n=>m|||2 ^ n.toNat) m).testBit i=(m.testBit i ||decide ((i:Int)∈l)):=by
 induction l with
 |nil=>simp_all
 |cons a l ih =>
  intro m i h;have ha:=h a (by simp);rw[QY,ih _ _ (λx hx=>h x (by simp[hx])),Nat.testBit_or,Nat.testBit_two_pow,Bool.or_assoc];grind
theorem Pq{l:List Int}(h:∀x∈l,0<=x)(i:Nat):(aZ l).testBit i=decide ((i:Int)∈l):=by grind [aZ,aa9]
theorem Na:∀{l:List Int},(∀x∈l,0<=x/\x<n)->aZ l<2 ^ n:=λ{l} h=>by apply Nat.lt_pow_two_of_testBit;grind [Pq]
theorem Ps{a:Nat}(hb:b<18446744073709551616)(i:Nat)(hi:i<64):(a &&& (18446744073709551615-b)).testBit i=(a.testBit i && !b.testBit i):=by
 have e:18446744073709551615-b=2 ^ 64-(b+1):=by omega
 rw[Nat.testBit_and,e,Nat.testBit_two_pow_sub_succ (by omega)];simp[hi]
theorem UN{a:Nat}(ha:a<18446744073709551616)(hb:b<18446744073709551616):(b &&& (18446744073709551615-a)=0)↔∀i,b.testBit i=T->a.testBit i=true:=by
 constructor
 .intro h i f;have d:i<64:=by
   have e:b<2 ^ 64:=by omega
   by_cases g:i<64
   .exact g
   .rw[Nat.testBit_lt_two_pow (Q0 e (Q3 (by omega) (by omega)))]at f
    cases f
  have j:=Ps (a:=b) ha i d;simp_all
 .intro h;apply Nat.eq_of_testBit_eq;intro i;rw[Nat.zero_testBit];by_cases f:i<64
  .grind [Ps]
  .have e:b<2 ^ 64:=by omega
   rw[Nat.testBit_and,Nat.testBit_lt_two_pow (x:=b) (Q0 e (Q3 (by omega) (by omega)))];rfl
theorem aba{a:Nat}:(a &&& b≠0)↔∃i,a.testBit i=T/\b.testBit i=true:=by
 constructor
 .intro h;by_cases d:∃i,a.testBit i=T/\b.testBit i=T
  .exact d
  .exfalso;apply h;apply Nat.eq_of_testBit_eq
   simp_all
 .rintro⟨i,f,g⟩ h;have e:(a &&& b).testBit i=true:=by grind
  simp_all
def abb(n i:Nat):(2 ^ n-1).testBit i=decide (i<n):=Nat.testBit_two_pow_sub_one n i
def QZ:=@Pq
def aU:Nat:=18446744073709551615
def bG(a b:Nat):Nat:=min (a+b) aU
def aQ(a b:Nat):Nat:=min (a*b) aU
def uH(a b:Nat):bG a b<=aU:=Nat.min_le_right _ _
def lU(a b:Nat):aQ a b<=aU:=Nat.min_le_right _ _
theorem aeP{a:Nat}(hb:b<=aU):bG a b=if a > aU-b then aU else a+b:=by grind [bG]
theorem Gx(a b:Nat):bG a b=bG b a:=by grind [bG]
theorem nE(a b c:Nat):bG (bG a b) c=bG a (bG b c):=by grind [bG]
def kL(l:List Nat):Nat:=l.foldl bG 0
theorem Pt:∀(l:List Nat) (m:Nat),m<=aU->l.foldl bG m=min (m+l.sum) aU
 |[],m,h=>by simp_all
 |a::l,m,_=>by rw[QY,Pt l _ (uH _ _),List.sum_cons];grind [bG]
theorem BF(l:List Nat):kL l=min l.sum aU:=by unfold kL;rw[Pt l 0 (Q4 _),Q5]
theorem abd{a:Nat}(ha:a≠0):aQ a b=if b > aU / a then aU else a*b:=by grind [aQ,Nat.div_lt_iff_lt_mul]
def ED(b:Nat):aQ 0 b=0:=by unfold aQ;omega
theorem Pv{x c:Nat}(hc:1<=c):min (min x aU*c) aU=min (x*c) aU:=by
 by_cases h:x<=aU
 .simp_all
 .have a:aU<=x:=by omega
  rw[Nat.min_eq_right a];have b:aU*1<=aU*c:=Nat.mul_le_mul_left _ hc;have d:aU*c<=x*c:=Nat.mul_le_mul_right _ a;omega
theorem Pw:∀(l:List Nat) (m:Nat),m<=aU->(∀x∈l,1<=x)->l.foldl aQ m=min (m*l.foldl (· * ·) 1) aU
 |[],m,h,_=>by simp_all
 |a::l,m,_,hl=>by
  have key:∀(l:List Nat) (k:Nat),l.foldl (· * ·) k=k*l.foldl (· * ·) 1:=by
   intro l
   induction l with
   |nil=>intro k;simp
   |cons b l ih =>
    grind
  have pos:∀(l:List Nat),(∀x∈l,1<=x)->1<=l.foldl (· * ·) 1:=by
   intro l
   induction l with
   |nil=>grind
   |cons b l ih =>
    intro h;rw[QY,key,Nat.one_mul];have h1:=h b (by simp);have h2:=ih (λx hx=>h x (by simp[hx]));exact Q6 (by omega) (Nat.mul_le_mul h1 h2)
  have ht:=λx hx=>hl x (List.mem_cons_of_mem a hx);rw[QY,Pw l _ (lU _ _) ht,QY,key l (1*a),Nat.one_mul];grind [aQ,Pv]
def gW(v:Nat):Nat:=if v=0 then 0 else gW (v / 2)+1
def oV:gW 0=0:=by rw[gW];rfl
theorem uI{v:Nat}(h:0<v):gW v=gW (v / 2)+1:=by grind [gW.eq_1]
def bV(ts:List ag)(src:List Int)(n:Nat):List (Nat × Int):=
 (List.range n).flatMap λs=>(List.range (E ts (E src s 0).toNat tz).cols.toNat).map λm=>(s,(E ts (E src s 0).toNat tz).kd m)
def jC(ts:List ag)(src:List Int)(n:Nat):bV ts src (n+1)=bV ts src n++(List.range (E ts (E src n 0).toNat tz).cols.toNat).map λm=>(n,(E ts (E src n 0).toNat tz).kd m):=by unfold bV;rw[QT,Q7];simp
theorem iZ{ts:List ag}{src:List Int}(hc:dL ts=T)(ha:aM src (N ts)=T):∀n,n<=N src->(N (bV ts src n):Int)=ak ts (src.take n)
 |0,_=>by rfl
 |n+1,hn=>by
  have ih:=iZ hc ha n (by omega);have h1:=Qo ha (k:=n) (by omega);have h2:=qW hc (i:=(src[n]'(by omega)).toNat) (by omega);have e:E src n 0=src[n]'(by omega):=by grind
  rw[jC,Qk ts src n (by omega),QI,Q8,Q9,e];omega
theorem K9{ts:List ag}{src:List Int}(hc:dL ts=T)(ha:aM src (N ts)=T):∀n,n<=N src->∀c:Nat,c<N (bV ts src n)->
  ∃s,s<n/\ak ts (src.take s)<=c/\(c:Int)<ak ts (src.take (s+1))/\E (bV ts src n) c (0,0)=(s,(E ts (E src s 0).toNat tz).kd (c-(ak ts (src.take s)).toNat))
 |0,_,c,h=>by simp[bV]at h
 |n+1,hn,c,h=>by
  have j:=iZ hc ha n (by omega);by_cases a:c<N (bV ts src n)
  .obtain⟨s,d,b,f,g⟩:=K9 hc ha n (by omega) c a;refine⟨s,by omega,b,f,?_⟩;rw[jC,<-g]
   grind
  .have d:=Qo ha (k:=n) (by omega);have b:=qW hc (i:=(src[n]'(by omega)).toNat) (by omega);have e:E src n 0=src[n]'(by omega):=by grind
   rw[jC,QI,Q8,Q9]at h;refine⟨n,by omega,by omega,?_,?_⟩
   .rw[Qk ts src n (by omega),<-e];omega
   .rw[jC]
    grind
def au(ts:List ag)(src:List Int)(c:Int):Nat:=(E (bV ts src (N src)) c.toNat (0,0)).1
def fD(ts:List ag)(src:List Int)(c:Int):Int:=(E (bV ts src (N src)) c.toNat (0,0)).2
theorem Gy{ts:List ag}{src:List Int}(hc:dL ts=T)(ha:aM src (N ts)=T){c:Int}(h0:0<=c)(hl:c<ak ts src) :
  au ts src c<N src/\ak ts (src.take (au ts src c))<=c/\c<ak ts (src.take (au ts src c+1))/\
   fD ts src c=(E ts (E src (au ts src c) 0).toNat tz).kd (c.toNat-(ak ts (src.take (au ts src c))).toNat):=by have a:=iZ hc ha (N src) (Qs _);rw[Zb]at a;obtain⟨s,b,d,e,f⟩:=K9 hc ha (N src) (Qs _) c.toNat (by omega);grind [au,fD]
theorem nG{ts:List ag}(hc:dL ts=T)(ha:aM src (N ts)=T){a:Nat}(hab:a<=b)(hb:b<=N src):ak ts (src.take a)<=ak ts (src.take b):=by
 induction b with
 |zero =>
  simp_all
 |succ b ih =>
  by_cases h:a<=b
  .have d:=ih h (by omega);have e:=Qo ha (k:=b) (by omega);have f:=qW hc (i:=(src[b]'(by omega)).toNat) (by omega);rw[Qk ts src b (by omega)];omega
  grind
theorem J6{ts:List ag}(hc:dL ts=T)(ha:aM src (N ts)=T){c:Int}(h0:0<=c)(hl:c<ak ts src){s:Nat}(hs:s<=au ts src c):c ≥ ak ts (src.take (s+1))↔s<au ts src c:=by
 obtain⟨a,b,d,_⟩:=Gy hc ha h0 hl;constructor
 .grind
 .intro h;have:=nG hc ha (show s+1<=au ts src c by omega) (by omega);omega
def Za:=@Gy
def Px(inp:Nat->List Nat):Nat->Nat->List Nat
 |0,_=>[]
 |f+1,i=>i::(inp i).flatMap (Px inp f)
def fE(inp:Nat->List Nat)(i:Nat):List Nat:=Px inp (i+1) i
section
variable {inp:Nat->List Nat}
theorem Gz(hin:∀i,∀j∈inp i,j<i):∀(f g i:Nat),i<f->i<g->Px inp f i=Px inp g i
 |0,_,_,h,_=>by omega
 |_,0,_,_,h=>by omega
 |f+1,g+1,i,h1,h2=>by show i::_=i::_;congr 1;rw[List.flatMap_def,List.flatMap_def];congr 1;apply QU;intro j hj;have:=hin i j hj;exact Gz hin f g j (by omega) (by omega)
theorem uJ(hin:∀i,∀j∈inp i,j<i)(i:Nat):fE inp i=i::(inp i).flatMap (fE inp):=by grind [fE,Px,List.map_congr_left,Gz]
theorem La(hin:∀i,∀j∈inp i,j<i):∀(n i:Nat),i<=n->∀k∈fE inp i,k<=i:=by
 intro n
 induction n with
 |zero =>
  grind [uJ]
 |succ n ih =>
  grind [uJ]
def dz(n:Nat)(f:Nat->Nat):Nat:=((List.range n).map f).sum
theorem jD(n:Nat)(f:Nat->Nat):dz (n+1) f=dz n f+f n:=by grind [dz,List.range_succ]
theorem Az(n:Nat)(f g:Nat->Nat):dz n (λi=>f i+g i)=dz n f+dz n g:=by
 induction n with
 |zero=>rfl
 |succ n ih=>grind [jD]
def sW(n:Nat):dz n (λ_=>0)=0:=by
 induction n with
 |zero=>rfl
 |succ n ih=>rw[jD,ih]
theorem nZ{f g:Nat->Nat}(h:∀i,i<n->f i=g i):dz n f=dz n g:=by
 induction n with
 |zero=>rfl
 |succ n ih=>grind [jD]
theorem AA{m:Nat}(hm:m<n)(f:Nat->Nat):dz n (λi=>(if i=m then 1 else 0)*f i)=f m:=by
 induction n with
 |zero=>omega
 |succ n ih =>
  rw[jD];by_cases h:m<n
  .grind
  .obtain rfl:m=n:=by omega
   have e:dz m (λi=>(if i=m then 1 else 0)*f i)=0:=
    (nZ (g:=λ_=>0) λi a=>by grind).trans (sW m)
   simp_all
def EE(n:Nat)(f:Nat->Nat->Nat):∀l:List Nat,(l.map λj=>dz n (f j)).sum=dz n λi=>(l.map λj=>f j i).sum
 |[]=>(sW n).symm
 |a::l=>by rw[Zd,List.sum_cons,EE n f l,<-Az];rfl
theorem Nb(l:List Nat)(f:Nat->Nat)(c:Nat):(l.map λj=>f j*c).sum=(l.map f).sum*c:=by
 induction l with
 |nil=>simp
 |cons a l ih=>grind
theorem Nc(l:List Nat)(f g:Nat->Nat):(l.map λj=>f j+g j).sum=(l.map f).sum+(l.map g).sum:=by
 induction l with
 |nil=>simp
 |cons a l ih=>grind
theorem Nf(l:List Nat)(k:Nat):(l.map λj=>if k=j then 1 else 0).sum=l.count k:=by
 induction l with
 |nil=>simp
 |cons a l ih =>
  grind
theorem UO(hin:∀i,∀j∈inp i,j<i)(k:Nat):∀(b m n:Nat),m<=b->m<n->(fE inp m).count k=(if k=m then 1 else 0)+dz n λi=>(fE inp m).count i*(inp i).count k:=by
 intro b
 induction b with
 |zero =>
  intro m n p f;have e:=List.eq_nil_iff_forall_not_mem.2 λj q=>by have:=hin m j q;omega
  have r:fE inp m=[m]:=by grind [uJ]
  have t:(dz n λi=>(fE inp m).count i*(inp i).count k)=(inp m).count k:=by rw[<-AA f (λi=>(inp i).count k)];grind
  grind
 |succ b ih =>
  intro m n p f;have a:∀x,(fE inp m).count x=(if x=m then 1 else 0)+((inp m).map λj=>(fE inp j).count x).sum:=λx=>by rw[uJ hin m,List.count_cons,List.count_flatMap];have e:(List.count x ∘ fE inp)=λj=>(fE inp j).count x:=rfl;grind
  have d:((inp m).map λj=>(fE inp j).count k).sum=(inp m).count k+dz n λi=>((inp m).map λj=>(fE inp j).count i).sum*(inp i).count k:=by
   have g:((inp m).map λj=>(fE inp j).count k)=(inp m).map λj=>(if k=j then 1 else 0)+dz n λi=>(fE inp j).count i*(inp i).count k:=by grind [List.map_congr_left]
   rw[g,Nc,Nf,EE];grind [Nb]
  rw[a k,d];have l:(dz n λi=>(fE inp m).count i*(inp i).count k)=(inp m).count k+dz n λi=>((inp m).map λj=>(fE inp j).count i).sum*(inp i).count k:=by rw[<-AA f (λi=>(inp i).count k),<-Az];grind
  rw[l]
end
def Zc:=@jD
theorem oh{n:Nat}:∀{l:List Nat},(∀k∈l,k<n)->dz n (λk=>l.count k)=N l
 |[],_=>sW n
 |a::l,h=>by have h1:=oh (n:=n) (l:=l) (λk hk=>h k (by simp[hk]));have h2:=AA (h a (by simp)) (λ_=>1);rw[QJ,<-h1];rw[show dz n (λk=>l.count k)+1=dz n (λk=>l.count k)+dz n (λk=>(if k=a then 1 else 0)*1) by rw[h2],<-Az];grind
theorem xM{f:Nat->Nat}:∀{n:Nat},(∀k,k<n->f k<=1)->dz n f=n->∀k,k<n->f k=1
 |0,_,_,k,hk=>by omega
 |n+1,h,hs,k,hk=>by
  rw[Zc]at hs;have hle:∀m,m<=n->dz m f<=m:=by
   intro m
   induction m with
   |zero=>intro _;exact Qs _
   |succ m ih =>
    grind [jD]
  have h1:=hle n (Qs _);have h2:=h n (by omega);by_cases e:k=n
  .rw[e];omega
  .exact xM (n:=n) (λk hk=>h k (by omega)) (by omega) k (by omega)
section
variable {inp:Nat->List Nat}
theorem EF(hin:∀i,∀j∈inp i,j<i)(h:i<=k):(inp i).count k=0:=by grind [List.count_eq_zero]
theorem Py(hin:∀i,∀j∈inp i,j<i)(last:Nat):(∀k,k<last->dz (last+1) (λi=>(inp i).count k)=1)↔∀k,k<=last->(fE inp last).count k=1:=by
 have key:=λk=>UO hin k last last (last+1) (Qs _) (Nat.lt_succ_self _);constructor
 .intro h;have a:∀d k,k<=last->last-k<=d->(fE inp last).count k=1:=by
   intro d
   induction d with
   |zero =>
    intro k b hd;obtain rfl:k=last:=by omega
    rw[key,Qu rfl,(nZ (g:=λ_=>0) λi m=>by rw[EF hin (by omega),Nat.mul_zero]),sW]
   |succ d ih =>
    intro k b hd;by_cases e:k=last
    .grind
    .rw[key,QC e,Q5];refine(nZ (g:=λi=>(inp i).count k) λi m=>?_).trans (h k (by omega));by_cases f:i<=k
     .rw[EF hin f,Nat.mul_zero]
     grind
  exact λk b=>a last k b (by omega)
 .intro h k b;have l:=key k;rw[h k (by omega),QC (by omega),Q5]at l;refine(nZ λi m=>?_).trans l.symm
  grind
theorem aeQ(hin:∀i,∀j∈inp i,j<i)(last:Nat):((fE inp last).Nodup/\N (fE inp last)=last+1)↔∀k,k<=last->(fE inp last).count k=1:=by
 have f:=La hin last last (Qs _);have a:=oh (n:=last+1) (l:=fE inp last) (λk d=>by grind);constructor
 .rintro⟨m,p⟩ k d;have g:=List.nodup_iff_count.1 m;exact xM (n:=last+1) (λk _=>g k) (by rw[a,p]) k (by omega)
 .intro h;refine⟨List.nodup_iff_count.2 λk=>?_,?_⟩
  .grind
  .rw[<-a];have e:dz (last+1) (λk=>(fE inp last).count k)=dz (last+1) (λk=>(if k=0 then 1 else 1)):=nZ λk d=>by grind
   have b:∀n,dz n (λk=>(if k=0 then 1 else 1))=n:=by
    intro n
    induction n with
    |zero=>rfl
    |succ n ih=>grind [jD]
   rw[e,b]
def abe(hin:∀i,∀j∈inp i,j<i)(last:Nat):(∀k,k<last->dz (last+1) (λi=>(inp i).count k)=1)↔((fE inp last).Nodup/\N (fE inp last)=last+1):=
 (Py hin last).trans (aeQ hin last).symm
end
structure ai where
 kind:Int
 l:Int
 r:Int
 source:Int
 cl:ae
 key:Int
 co:ae
def nz:ai:=⟨0,0,0,0,⟨E5,0,[]⟩,0,⟨E5,0,[]⟩⟩
def bT(w:U)(ao:Option Addr)(ns:List ai):Prop:=
 N ns<=164703072086692425/\∀i,i<N ns->∃b off,ao=O (aD b off)/\
  Am w (aD b (off+i*7))=O (I J (E ns i nz).kind)/\Am w (aD b (off+i*7+1))=O (I J (E ns i nz).l)/\
  Am w (aD b (off+i*7+2))=O (I J (E ns i nz).r)/\Am w (aD b (off+i*7+3))=O (I J (E ns i nz).source)/\
  Am w (aD b (off+i*7+4))=O (E ns i nz).cl.val/\Am w (aD b (off+i*7+5))=O (I J (E ns i nz).key)/\
  Am w (aD b (off+i*7+6))=O (E ns i nz).co.val/\(E ns i nz).cl.At w/\(E ns i nz).co.At w
def ai.same(a b:ai):Prop:=a.kind=b.kind/\a.l=b.l/\a.r=b.r/\a.source=b.source/\a.cl.xs=b.cl.xs/\a.key=b.key/\a.co.xs=b.co.xs
structure bH where
 sources:List Int
 clauses:List Int
 order:List Int
 out:Bool
 size:Nat
 cost:Nat
def vz:bH:=⟨[],[],[],F,0,0⟩
def aC(l m:List Int):List Int:=m.foldl (λout x=>if x∈out then out else out++[x]) l
def aL(c:aF):List Int:=if c.op≠2/\c.const=F then [c.left,c.right] else [c.left]
def aG(cs:List aF):List Int:=cs.flatMap aL
def lV(ts:List ag)(src:List Int)(cs:List aF)(sources:List Int):Bool:=(aG cs).all λc=>decide ((au ts src c:Int)∈sources)
def dN(ts:List ag)(src:List Int)(cs:List aF):Nat:=
 if N cs≠1∨(E cs 0 cz).not=T then 2
 else if (E cs 0 cz).op=1 then 3
 else if (E cs 0 cz).op=2 then 10
 else if (E cs 0 cz).const=T then (fD ts src (E cs 0 cz).left).toNat
 else max (fD ts src (E cs 0 cz).left).toNat (fD ts src (E cs 0 cz).right).toNat
def iO(ts:List ag)(src:List Int)(s:Int):Nat:=(E ts (E src s.toNat 0).toNat tz).rows.toNat
def Pz(ts:List ag)(q:af)(clauses:List Int)(n:Nat):Nat:=(List.range (N q.wh)).foldl (λ(n c:Nat)=>if (c:Int)∈clauses then n / dN ts q.src.xs (E q.wh c lz).cs else n) n
def iK(ts:List ag)(q:af)(sources clauses:List Int):Nat:=
 if (sources.any λs=>decide (iO ts q.src.xs s=0))=T then 0
 else max (Pz ts q clauses ((sources.map (iO ts q.src.xs)).foldl aQ 1)) 1
def rR(kind:Int)(s:Nat)(l r:bH):Nat:=
 if kind=1 then bG s 1
 else if kind=3 then bG (bG l.cost r.cost) (aQ l.size r.size)
 else if kind=4 then bG (bG l.cost r.cost) (bG (bG l.size s) (aQ 2 r.size))
 else if kind=5 then bG (bG l.cost r.cost) (bG (bG l.size s) r.size)
 else if kind=6∨kind=10 then bG l.cost (aQ l.size (gW l.size+1))
 else if kind=7 then bG l.cost (aQ 2 l.size)
 else bG l.cost l.size
def aY(l m:List Int):Bool:=decide (N m<=N l)&&decide (l.take (N m)=m)
def eG(ts:List ag)(src:List Int)(cs:List aF)(a b:List Int):Int × Int × Bool:=
 if N cs≠1∨(E cs 0 cz).not=T∨(E cs 0 cz).const=T∨(E cs 0 cz).op≠0 then (0,0,F)
 else if (au ts src (E cs 0 cz).left:Int)∈a/\(au ts src (E cs 0 cz).right:Int)∈b then ((E cs 0 cz).left,(E cs 0 cz).right,T)
 else ((E cs 0 cz).right,(E cs 0 cz).left,decide ((au ts src (E cs 0 cz).right:Int)∈a)&&decide ((au ts src (E cs 0 cz).left:Int)∈b))
def arity(kind:Int):Nat:=if kind=1 then 0 else if 3<=kind/\kind<=5 then 2 else 1
def cZ(n:ai):Bool:=
 decide ((1<=arity n.kind∨n.l=0)/\(2<=arity n.kind∨n.r=0)/\(n.kind=1∨n.source=0)/\(n.kind=4∨n.kind=5∨n.key=0)/\
  (n.kind=2∨3<=n.kind/\n.kind<=5∨N n.cl.xs=0)/\(n.kind=6↔(N n.co.xs)≠0))
def dF(ts:List ag)(q:af)(l sources:List Int):Bool:=
 (List.range (N l)).all λi=>decide (0<=E l i 0)&&decide (E l i 0<N q.wh)&&(decide (i=0) ||decide (E l (i-1) 0<E l i 0))&&lV ts q.src.xs (E q.wh (E l i 0).toNat lz).cs sources
def rT(q:af)(v:bH):Bool:=decide (N v.sources=N q.src.xs)&&decide (N v.clauses=N q.wh)
def kP(ts:List ag)(q:af)(n:ai)(l r:bH):Bool:=
 if n.kind=2 then decide (0<N n.cl.xs)
 else if n.kind=4∨n.kind=5 then
  decide (n.key∈n.cl.xs)&&(eG ts q.src.xs (E q.wh n.key.toNat lz).cs l.sources r.sources).2.2 &&
   (decide (n.kind=4) ||(aY l.order [(eG ts q.src.xs (E q.wh n.key.toNat lz).cs l.sources r.sources).1]&&aY r.order [(eG ts q.src.xs (E q.wh n.key.toNat lz).cs l.sources r.sources).2.1]))
 else if n.kind=6 then aM n.co.xs (ak ts q.src.xs)&&dI n.co.xs&&n.co.xs.all λc=>decide ((au ts q.src.xs c:Int)∈l.sources)
 else if n.kind=7 then q.group&&rT q l
 else if n.kind=8 then q.group&&rT q l&&aY l.order q.keys.xs
 else if n.kind=9 then !q.group&&rT q l
 else if n.kind=10 then decide (0<N q.ord.xs)
 else T
def jg(ts:List ag)(q:af)(n:ai)(l r:bH):Option bH:=
 if (r.out ||(l.out != decide (n.kind=10)))=T then E5
 else if N (aC l.sources r.sources)≠N l.sources+N r.sources then E5
 else if dF ts q n.cl.xs (aC l.sources r.sources)=F then E5
 else if kP ts q n l r=F then E5
 else
  let c:=aC (aC l.clauses r.clauses) n.cl.xs
  let s:=iK ts q (aC l.sources r.sources) c
  O ⟨aC l.sources r.sources,c,if n.kind=6 then n.co.xs else l.order,decide (7<=n.kind),s,rR n.kind s l r⟩
def jX(ts:List ag)(q:af)(plan:List ai):Nat->Nat->Option bH
 |0,_=>E5
 |f+1,i =>
  let n:=E plan i nz
  if cZ n=F∨n.kind<1∨10<n.kind then E5
  else if n.kind=1 then
   if n.source<0∨(N q.src.xs:Int)<=n.source then E5
   else O ⟨[n.source],[],[],F,iK ts q [n.source] [],rR 1 (iK ts q [n.source] []) vz vz⟩
  else if n.l<0∨(i:Int)<=n.l then E5
  else
   match jX ts q plan f n.l.toNat with
   |none=>E5
   |some l =>
    if arity n.kind=2 then
     if n.r<0∨(i:Int)<=n.r then E5
     else
      match jX ts q plan f n.r.toNat with
      |none=>E5
      |some r=>jg ts q n l r
    else jg ts q n l vz
def fC(ts:List ag)(q:af)(plan:List ai):Nat->Nat->List Nat->Option (bH × List Nat)
 |0,_,_=>E5
 |f+1,i,seen =>
  let n:=E plan i nz
  if cZ n=F∨n.kind<1∨10<n.kind then E5
  else if n.kind=1 then
   if n.source<0∨(N q.src.xs:Int)<=n.source then E5
   else O (⟨[n.source],[],[],F,iK ts q [n.source] [],rR 1 (iK ts q [n.source] []) vz vz⟩,seen++[i])
  else if n.l<0∨(i:Int)<=n.l∨n.l.toNat∈seen++[i] then E5
  else
   match fC ts q plan f n.l.toNat (seen++[i]) with
   |none=>E5
   |some (l,s) =>
    if arity n.kind=2 then
     if n.r<0∨(i:Int)<=n.r∨n.r.toNat∈s then E5
     else
      match fC ts q plan f n.r.toNat s with
      |none=>E5
      |some (r,s)=>(jg ts q n l r).map λv=>(v,s)
    else (jg ts q n l vz).map λv=>(v,s)
def nQ(plan:List ai)(i:Nat):List Nat:=
 let n:=E plan i nz
 if arity n.kind=0 then []
 else if arity n.kind=1 then (if 0<=n.l/\n.l<i then [n.l.toNat] else [])
 else (if 0<=n.l/\n.l<i/\0<=n.r/\n.r<i then [n.l.toNat,n.r.toNat] else [])
theorem BG(plan:List ai)(i:Nat):∀j∈nQ plan i,j<i:=by intro j a;unfold nQ at a;grind
def jY(plan:List ai)(i:Nat):List Nat:=fE (nQ plan) i
theorem qh(plan:List ai)(i:Nat):jY plan i=i::(nQ plan i).flatMap (jY plan):=uJ (BG plan) i
theorem Dp{k:Int}(h1:k≠1)(h2:arity k≠2):arity k=1:=by grind [arity]
theorem vK{k:Int}(h1:k=1):arity k=0:=by grind [arity]
theorem vL(ts:List ag)(q:af)(plan:List ai):∀(f i:Nat) (seen:List Nat) (v:bH) (p:List Nat),i ∉ seen->fC ts q plan f i seen=O (v,p)->
  jX ts q plan f i=O v/\p = seen++jY plan i/\(jY plan i).Nodup/\∀x∈jY plan i,x ∉ seen:=by
 intro f
 induction f with
 |zero=>grind [fC]
 |succ f ih =>
  intro i seen v p X h;unfold fC at h;unfold jX;simp only at h ⊢;rw[qh];unfold nQ;simp only;generalize E plan i nz=n at h ⊢;by_cases S:cZ n=F∨n.kind<1∨10<n.kind
  .simp_all
  rw[QC S]at h ⊢;by_cases d:n.kind=1
  .rw[Qu d]at h ⊢;rw[Qu (vK d)]
   simp_all
  rw[QC d]at h ⊢;by_cases u:n.l<0∨(i:Int)<=n.l∨n.l.toNat∈seen++[i]
  .grind
  have g:¬(n.l<0∨(i:Int)<=n.l):=λe=>u (by omega);have j:n.l.toNat ∉ seen++[i]:=λe=>u (.inr (.inr e));rw[QC u]at h;rw[QC g]
  cases hl:fC ts q plan f n.l.toNat (seen++[i]) with
  |none=>simp_all
  |some x =>
   obtain⟨l,s⟩:=x;obtain⟨K,B,L,W⟩:=ih _ _ _ _ j hl;rw[hl]at h;rw[K];simp only at h ⊢;by_cases z:arity n.kind=2
   .rw[Qu z]at h ⊢;rw[QC (show ¬arity n.kind=0 by omega),QC (show ¬arity n.kind=1 by omega)];by_cases A:n.r<0∨(i:Int)<=n.r∨n.r.toNat∈s
    .grind
    have k:¬(n.r<0∨(i:Int)<=n.r):=λe=>A (by omega);have m:n.r.toNat ∉ s:=λe=>A (.inr (.inr e));rw[QC A]at h;rw[QC k,Qu (by omega)]
    cases hr:fC ts q plan f n.r.toNat s with
    |none=>grind
    |some y =>
     obtain⟨r,t⟩:=y;obtain⟨P,C,Q,R⟩:=ih _ _ _ _ m hr;rw[hr]at h;rw[P];simp only at h ⊢
     cases hv:jg ts q n l r with
     |none=>grind
     |some v0 =>
      rw[hv]at h;simp only[Option.map_some]at h;injection h with h;injection h with h1 h2;subst h1 h2;rw[B]at C R;refine⟨rfl,?_,?_,?_⟩
      .rw[C];simp
      .simp only[QH,List.flatMap_nil,QN];rw[List.nodup_cons,List.nodup_append];refine⟨λe=>?_,L,Q,λa ha b hb e=>?_⟩
       .grind
       grind
      .intro x D hs;simp only[QH,List.flatMap_nil,QN]at D;rcases QP.1 D with e|e
       .grind
       .rcases Ze.1 e with e|e
        .grind
        grind
   .rw[QC z]at h ⊢;have G:=Dp d z;rw[QC (show ¬arity n.kind=0 by omega),Qu G,Qu (by omega)]
    cases hv:jg ts q n l vz with
    |none=>simp_all
    |some v0 =>
     rw[hv]at h;simp only[Option.map_some]at h;injection h with h;injection h with h1 h2;subst h1 h2;refine⟨rfl,?_,?_,?_⟩
     .rw[B];simp
     .grind
     simp_all
def ai.cells(n:ai):Array Value:=#[I J n.kind,I J n.l,I J n.r,I J n.source,n.cl.val,I J n.key,n.co.val]
def iz:ae:=⟨E5,0,[]⟩
def fF(w:U)(ao:Option Addr)(rs:List ae):Prop:=
 N rs<=1152921504606846976/\eD w ao (N rs) (λi=>(E rs i iz).val)/\∀i,i<N rs->(E rs i iz).At w
def fF.below{w w':U}(hb:Bw w w'){ao:Option Addr}{rs:List ae}(h:fF w ao rs):fF w' ao rs:=
 ⟨h.1,h.2.1.below hb,λi a=>Qt hb (h.2.2 i a)⟩
structure aJ where
 ad:Option Addr
 cap:Nat
 rs:List ae
def rz:aJ:=⟨E5,0,[]⟩
def aJ.val(v:aJ):Value:=Z v.ad (N v.rs) v.cap
def aJ.At(v:aJ)(w:U):Prop:=fF w v.ad v.rs
def qJ(w:U)(ao:Option Addr)(db:List aJ):Prop:=
 N db<=1152921504606846976/\eD w ao (N db) (λi=>(E db i rz).val)/\∀i,i<N db->(E db i rz).At w
def qJ.below{w w':U}(hb:Bw w w'){ao:Option Addr}{db:List aJ}(h:qJ w ao db):qJ w' ao db:=
 ⟨h.1,h.2.1.below hb,λi a=>fF.below hb (h.2.2 i a)⟩
section
structure Kept(s:Nat->Prop)(A B:U):Prop where
 os:B.os=A.os
 tape:B.tape=A.tape
 output:B.output=A.output
 size:M (H A)<=M (H B)
 block:∀k,k<M (H A)->s k->B.heap[k]? = A.heap[k]?
def Kept.refl(s:Nat->Prop)(A:U):Kept s A A:=⟨rfl,rfl,rfl,Qs _,λ_ _ _=>rfl⟩
def Kept.trans{s:Nat->Prop}{A B C:U}(h:Kept s A B)(k:Kept s B C):Kept s A C:=
 ⟨k.os.trans h.os,k.tape.trans h.tape,k.output.trans h.output,Q6 h.size k.size,λi a b=>(k.block i (Q0 a h.size) b).trans (h.block i a b)⟩
def Kept.mono{s t:Nat->Prop}{A B:U}(h:Kept s A B)(hs:∀b,b<M (H A)->t b->s b):Kept t A B:=
 ⟨h.os,h.tape,h.output,h.size,λi a d=>h.block i a (hs i a d)⟩
def Kept.trans'{s t:Nat->Prop}{A B C:U}(h:Kept s A B)(k:Kept t B C)(hs:∀b,b<M (H A)->s b->t b):Kept s A C:=
 ⟨k.os.trans h.os,k.tape.trans h.tape,k.output.trans h.output,Q6 h.size k.size,λi d a=>(k.block i (Q0 d h.size) (hs i d a)).trans (h.block i d a)⟩
def Kept.aeY{s:Nat->Prop}{B:Nat}{w w':U}(h:Below B w w')(hs:∀b,b<M (H w)->s b->b<B):Kept s w w':=
 ⟨h.os,h.tape,h.output,h.size,λk d a=>h.block k (hs k d a)⟩
def Kept.below{s:Nat->Prop}{B:Nat}{w w':U}(h:Kept s w w')(hB:B<=M (H w))(hs:∀b,b<B->s b):Below B w w':=
 ⟨h.os,h.tape,h.output,h.size,λk a=>h.block k (Q0 a hB) (hs k a)⟩
def Kept.putObj{s:Nat->Prop}(W:U){r:Nat}(o:Obj)(hr:¬s r):Kept s W (W.putObj r o):=
 ⟨rfl,rfl,rfl,by simp,λk _ a=>ZC (λe=>hr (e ▸ a))⟩
def Kept.alloc{s:Nat->Prop}(W:U)(o:Obj):Kept s W (W.alloc o):=
 ⟨rfl,rfl,rfl,by simp,λk a _=>Below.heap_alloc W o k a⟩
structure El(α κ:Type) where
 enc:α->KX
 At:α->U->Prop
 aT:α->Option Nat
 key:α->κ
 keep:∀{x A B},At x A->M (H A)<=M (H B)->(∀b,b<M (H A)->aT x=O b->B.heap[b]? = A.heap[b]?)->At x B
 AV:∀{x A b},At x A->aT x=O b->b<M (H A)
variable {α κ:Type} (Ez:El α κ)
def Seq(P:Program)(g:Nat)(lb:Array KX)(rows:List κ)(w0:U):Prop:=
 ∀(l:Nat) (Jq:List α->(Nat->Prop)->U->Prop) (W:U) (o:Nat->Prop),
  Bw w0 W->(∀b,o b->M (H w0)<=b/\b<M (H W))->
  (∀pre o1 A B,Jq pre o1 A->Kept (λb=>o1 b∨b<M (H W)) A B->Jq pre o1 B)->
  (∀pre x o1 W1,Jq pre o1 W1->(pre++[x]).map Ez.key <+: rows->Ez.At x W1->(∀b,Ez.aT x=O b->¬o1 b/\(b<M (H w0)∨M (H W)<=b))->M (H W)<=M (H W1)->
   YieldAt Fence.wide 0 P l #[Ez.enc x] W1 λe W'=>e=FR (EP T)/\∃o2,Jq (pre++[x]) o2 W'/\Kept (λb=>¬o1 b) W1 W'/\
    ∀b,o2 b->o1 b∨(M (H W1)<=b/\b<M (H W'))∨(Ez.aT x=O b/\M (H W)<=b))->
  Jq [] o W->
  Calls P g (#[.func (.yield l) #[] #[]]++lb) W λe W'=>(∃v,e=FR v)/\∃ys o',ys.map Ez.key=rows/\Jq ys o' W'/\Kept (λb=>¬o b) W W'/\
   ∀b,o' b->o b∨(M (H W)<=b/\b<M (H W'))
def iy(Iq:List α->(Nat->Prop)->U->Prop)(pre:List α)(x:α)(n:Nat)(o1:Nat->Prop)(W:U):Exit->Act->U->Prop
 |.normal,_,W'=>∃o2,Iq (pre++[x]) o2 W'/\Kept (λb=>¬o1 b) W W'/\∀b,o2 b->o1 b∨(M (H W)<=b/\b<M (H W'))∨(Ez.aT x=O b/\n<=b)
 |_,_,_=>False
theorem oz{g:Operand}{ps:Array Tmp}{assign body:Code}
  {gf:Nat} (hg:a.eval g=.func (.func gf) #[] lb) (eg:∀args w,(callFunc gf args).run P w=.ok (.enter gf args) w)
  {rows:List κ} (hseq:Seq Ez P gf lb rows w0) (hb0:Bw w0 w) (hps:ps.size=1)
  (Iq:List α->(Nat->Prop)->U->Prop) (o:Nat->Prop) (ho:∀b,o b->M (H w0)<=b/\b<M (H w))
  (hI:∀d i A B,Iq d i A->Kept (λb=>i b∨b<M (H w)) A B->Iq d i B) (h0:Iq [] o w) (a₁:α->Act)
  (hassign:∀(l:Nat) (x:α) (W:U) (K:Act->U->Prop),K (a₁ x) W->
   assign.wpIn (Fence.wide.inRound l) 0 P (Exit.then K (λ_ _ _=>False)) { tmps:=(ps.zip #[Ez.enc x]).foldl (λt (p,v)=>t.setIfInBounds p v) a.tmps,defers:=[] } W)
  (hbody:∀(l:Nat) (d:List α) (x:α) (i:Nat->Prop) (W:U),Iq d i W->(d++[x]).map Ez.key <+: rows->Ez.At x W->
   (∀b,Ez.aT x=O b->¬i b/\(b<M (H w0)∨M (H w)<=b))->M (H w)+2<=M (H W)->
   body.wpIn (Fence.wide.inRound l) 0 P (iy Ez Iq d x (M (H w)) i W) (a₁ x) W)
  (hdone:∀(ys:List α) (L:Nat->Prop) (W:U),ys.map Ez.key=rows->Iq ys L W->Kept (λb=>¬o b) w W->(∀b,L b->(o b∨(M (H w)+2<=b/\b<M (H W))))->
   W.heap[M (H w)]? = O (.deferred (O []))->Q .normal { a with defers:={ target:=.collected (M (H w)),args:=#[] } :: a.defers } W) :
  (Code.rangeFunc g ps assign body).wpIn Fence.wide 0 P Q a w:=by
 refine wpIn_rangeFunc ?_;intro fn aG;obtain⟨j,f⟩:∃j:LoopState->Option Code->Loop,j=λst pe=>{ state:=st,pending:=pe,fn,tmps:=a.tmps,params:=ps,assign,body,defers:=M (H w) }:=⟨_,rfl⟩;obtain⟨y,q⟩:∃y,(w.alloc (.deferred (O []))).alloc (.loop (j .ready E5))=y:=⟨_,rfl⟩;have aI:M (H y)=M (H w)+2:=by rw[<-q];simp
 have aj:y.heap[M (H w)+1]? = O (.loop (j .ready E5)):=by rw[<-q];have:=ZF (w.alloc (.deferred (O []))) (.loop (j .ready E5));simp_all
 have ak:y.heap[M (H w)]? = O (.deferred (O [])):=by rw[<-q];exact(Below.heap_alloc _ _ _ (by simp)).trans (ZF w _)
 have G:∀s,Kept s w y:=λs=>by rw[<-q];exact(Kept.alloc _ _).trans (Kept.alloc _ _)
 have au:=hb0.trans ((G (λ_=>True)).below hb0.size (λ_ _=>trivial));refine⟨M (H w)+1,[{ target:=.collected (M (H w)),args:=#[] }],y,{ target:=.fn (.func gf) lb,args:=#[.func (.yield (M (H w)+1)) #[] #[]] },y,gf,
  #[.func (.yield (M (H w)+1)) #[] #[]]++lb,y,?_,?_,?_,?_,λh=>by simp[Fence.wide]at h,?_⟩
 .rw[<-q,f];exact run_enterLoop_outer _ _ _ _ _
 .simp only[resolve,hg];simp[go_sem]
 .intro f' _;trivial
 .simp[invoke,go_sem,eg]
 .refine ZG.2 ((hseq (M (H w)+1)
   (λd L W=>∃i,Iq d i W/\(∀b,L b↔i b∨b=M (H w)∨b=M (H w)+1)/\¬i (M (H w))/\¬i (M (H w)+1)/\
    W.heap[M (H w)+1]? = O (.loop (j .ready E5))/\W.heap[M (H w)]? = O (.deferred (O [])))
   y (λb=>o b∨b=M (H w)∨b=M (H w)+1) au ?_ ?_ ?_ ?_).mono ?_)
  .rintro b (r|rfl|rfl)
   .grind
   .exact⟨hb0.size,by omega⟩
   .exact⟨by have:=hb0.size;omega,by omega⟩
  .rintro d L A B ⟨i,hi,k,hn,z,C,hd⟩ hk;have av:=(ZH.1 C).1;have ax:=(ZH.1 hd).1;refine⟨i,hI d i A B hi (hk.mono λb _ r=>?_),k,hn,z,(hk.block _ av (.inl ((k _).2 (.inr (.inr rfl))))).trans C,(hk.block _ ax (.inl ((k _).2 (.inr (.inl rfl))))).trans hd⟩
   grind
  .rintro d x L W ⟨i,hi,k,hn,z,C,hd⟩ ai hx u aK;have aa:=(ZH.1 C).1;have ae:M (H w)<M (H W):=by omega
   have hy:=run_yield (P:=P) (args:=#[Ez.enc x]) C (by simp_all);rw[f]at hy;refine⟨fn,_,assign,body,hy,roundIn_of_wpIn aG (hassign _ x W _ ⟨_,run_beginRound C (by rw[f]),?_⟩)⟩;obtain⟨S,D⟩:=eX (W.putObj (M (H w)+1) (.loop { j .ready E5 with state:=.busy }));have m:Kept (λb=>b≠M (H w)+1) W S:=by rw[<-D];exact Kept.putObj _ _ (λh=>h rfl)
   have af:S.heap[M (H w)+1]? = O (.loop { j .ready E5 with state:=.busy }):=by rw[<-D];exact World.putObj_heap_same aa
   have ay:=(m.block _ ae (by omega)).trans hd;have aJ:M (H S)=M (H W):=by rw[<-D];simp
   have az:=hI d i W S hi (m.mono λb _ r=>by
    grind)
   have aA:=Ez.keep hx m.size (λb r aH=>m.block b r (λe=>(u b aH).1 ((k b).2 (.inr (.inr e)))));rw[D];rw[f]at af;refine wpIn_mono (hbody _ d x i S az ai aA (λb r=>⟨λh=>(u b r).1 ((k b).2 (.inl h)),(u b r).2.imp id (by omega)⟩) (by omega)) ?_;rintro e a3 W3 X
   cases e with
   |normal =>
    obtain⟨o2,aC,R,aD⟩:=X;have ag:W3.heap[M (H w)+1]? = O (.loop { state:=.busy,pending:=E5,fn,tmps:=a.tmps,params:=ps,assign,body,defers:=M (H w) }):=(R.block _ (by omega) z).trans af;have ah:=(ZH.1 ag).1;have aB:=(R.block _ (by omega) hn).trans ay;have n:∀b,b=M (H w)∨b=M (H w)+1->¬o2 b:=λb r h=>by grind
    refine⟨_,_,run_endRound E5 ag,rfl,λb=>o2 b∨b=M (H w)∨b=M (H w)+1,⟨o2,hI _ o2 W3 _ aC (Kept.putObj _ _ ?_),λb=>ZI,n _ (.inl rfl),n _ (.inr rfl),?_,?_⟩,?_,?_⟩
    .simp_all
    .rw[World.putObj_heap_same ah,f];rfl
    .exact(ZC (by omega)).trans aB
    .refine((m.mono ?_).trans' (R.mono ?_) (λ_ _ h=>h)).trans (Kept.putObj _ _ ?_)
     .simp_all
     .simp_all
     simp_all
    .rintro b (h|h)
     .rcases aD b h with h|h|h
      .simp_all
      .simp_all
      grind
     simp_all
   |ret=>exact X.elim
   |exit id=>exact X.elim
   |goto t=>exact X.elim
   |panic ch=>exact X.elim
   |outgrown=>exact X.elim
  .have n:∀b,b=M (H w)∨b=M (H w)+1->¬o b:=λb r h=>by grind
   exact⟨o,hI _ _ _ _ h0 (G _),λ_=>ZI,n _ (.inl rfl),n _ (.inr rfl),aj,ak⟩
  .rintro e S ⟨⟨v,rfl⟩,ys,L,aF,⟨i,hi,k,hn,z,C,hd⟩,hk,hg⟩;have aa:=(ZH.1 C).1;refine⟨E5,_,by have:=run_endLoop (P:=P) C (by simp_all);rw[f]at this;exact this,hdone ys i _ aF (hI _ _ _ _ hi (Kept.putObj _ _ ?_)) ?_ ?_ ((ZC (by omega)).trans hd)⟩
   .simp_all
   .refine(Kept.trans' (G _) (hk.mono λb _ h=>h) ?_).trans (Kept.putObj _ _ ?_) |>.mono (s:=λb=>¬o b/\b<M (H w)) ?_
    .grind
    .omega
    simp_all
   .intro b r;rcases hg b ((k b).2 (.inl r)) with (h|h|h)|h
    .exact .inl h
    .simp_all
    .simp_all
    simp_all
def Seq.later{g:Nat}{rows:List κ}(h:Seq Ez P g lb rows w0)(hb:Bw w0 w1):Seq Ez P g lb rows w1:=by intro l i W o j f k m n;refine h l i W o (hb.trans (j.mono hb.size)) (λb h=>⟨Q6 hb.size (f b h).1,(f b h).2⟩) k (λe x p q r t u a v=>m e x p q r t u (λb d=>⟨(a b d).1,(a b d).2.imp (λh=>Q0 h hb.size) id⟩) v) n
end
def Zx:=@Kept.refl
def Zy:=@Kept.trans'
def ZA:=@Kept.aeY
def ZB:=@Kept.putObj
def ZE:=@Kept.alloc
