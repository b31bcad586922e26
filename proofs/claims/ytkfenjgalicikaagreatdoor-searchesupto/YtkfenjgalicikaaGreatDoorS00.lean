import Derived.Deep.RegionHeld
import Derived.WalkKit
import Derived.Deep.QuietTactic
import Derived.BigQuiet
import Derived.WalkSmall
import Derived.Laws.CopyOwn
import Derived.Deep.OwnRows
import Derived.Laws.BitsAllLaws
import Derived.RangeFuncRecord
import Derived.RangeFuncBound
import Derived.RangeFuncCalls
import Derived.RangeFuncLeaves
import Derived.Below
import Derived.RangeFuncNested
import Derived.Shelf.Abstract
import Derived.OwnWalkIn
import Derived.TacticsInMore
import Derived.LoopNIn
import Derived.LoopIn
import Derived.Test.YtkfenjgalicikaaGreatDoorProg
import Derived.Maps.OwnIn
import Derived.Maps.AppendAt
import Derived.OwnWalk
import Derived.Shelf.Spec.SlicesGrow
import Derived.Laws.AppendOwnNone
import Derived.Shelf.RegionOpen
import Derived.Deep.AppendLies
import Derived.RegionTactic
import Derived.Deep.RegionLaw
import Derived.OrdersHeld
import Derived.Lib.SliceRun
import Derived.RegionCalls
import Derived.Shelf.Strings.OnBuilder
import Derived.Shelf.Strconv.Atoi
import Derived.Shelf.Strconv.Itoa3
import Derived.Shelf.Strings.Cut
import Derived.Test.YtkfenjgalicikaaGreatDoorChecked
import Derived.Lib.Atoi
import Derived.Lib.ItoaNum
import Derived.Lib.ItoaMem
import Derived.Lib.IndexMore
import Derived.Lib.Join
import Derived.Lib.AtoiTie
import Derived.Deep.Cut
import Derived.Deep.CutRange
import Derived.Laws.ShiftsVarLaws
import Derived.Shelf.Bits.Mul64
import Derived.Shelf.Strconv.Itoa0
import Derived.Deep.RegionHeld3
import Derived.Laws.ResultCell
import Derived.LaidEqlPtr
import Derived.BigRegion
import Derived.Laws.IdiomCopy
import Derived.Lib.AppendZerosOnto
import Derived.Lib.Overlaps
import Derived.Shelf.Spec.SlicesInsert
import Derived.Laws.Externs
import Derived.Conc.LoneSelect
import Derived.Shelf.Strconv.AtoiAll
set_option linter.all false
set_option maxRecDepth 100000
set_option maxHeartbeats 0
namespace Go.RowKit
def Hid.o{p:Prop}(h:Hid p):p:=h
end Go.RowKit
namespace Go
def Shut.o{p:Prop}(h:Shut p):p:=h
end Go
namespace Go.Proofs.Zz
open Go.RowKit Go.Shelf Go.Proofs.Tryz
def X{p:Prop}(h:p:=by omega):p:=h
def Qa{p:Prop}(h:p:=by simp):p:=h
def Qb{p:Prop}(h:p:=by grind):p:=h
def Qc{p:Prop}(h:p:=by decide):p:=h
def Qd{p:Prop}(h:p:=by kernel_rfl):p:=h
def Qe{p:Prop}(h:p:=by go_num):p:=h
def Qf{p:Prop}(h:p:=by simp_all):p:=h
def Qg{p:Prop}(h:p:=by unfold maxLen;omega):p:=h
def Qh{p:Prop}(h:p:=by rfl):p:=h
def Qi{p:Prop}(h:p:=by simp;omega):p:=h
def Qj{a p:Prop}(h:a)(k:a->p:=by omega):p:=k h
def Qk{a b p:Prop}(h:a)(i:b)(k:a->b->p:=by omega):p:=k h i
def XK{p:Prop}(h:p:=by simp[intOf];omega):p:=h
abbrev LM:=Option Addr
abbrev IC:=List Int
abbrev JK:=List
abbrev Pm:=Nat->Prop
open List renaming length->N,getD->E
open Go.Value renaming slice->Z,int->I,bool->Qq
open Go.Proofs.Tryz renaming prog->V
open Option renaming some->O,none->Qr
open Go.IntKind renaming i64->J,u64->Qp
open Bool renaming false->F,true->T
open Go renaming World->U,Value->Ql
open Go.World renaming heap->H,setCell->Qn,cell?->Qo
open _root_.Array renaming size->M
open Go.RowKit renaming Hid->Qm
open Go.Obj renaming cells->Qs
open Go.Ending renaming returned->Qu
variable {α:Type} {P:Program} {ops:Array Oper} {Q:Exit->Act->U->Prop} {md:Region.Mode} {S:U->Prop} {G b b0 b1 b2 b3 b4 b5 b6 b7 fuel i k m n o0 o1 o2 o3 o4 o5 o6 o7 tA tC tG tS:Nat} {aW:Array Bool} {a:Act} {B W w w' w0 w1 w2 wV wr x:U} {oi:Oper} {aC aM au bA l ord s xs:IC} {fO fP fQ v v' v0 v1 v2 v3 v4 v5 v6 v7 v8 v9:Ql} {f:FuncId} {args c:Array Ql} {ao:LM} {t:TypeId} {gc:Ql->Ql->Array Ql} {A:Nat->Nat} {p p0 p1 p2 p3 p4 p5:Prop} {K' Xq:Act->U->Prop} {bs:JK (Nat × Obj)}
def eX(a:α):∃z,a=z:=⟨a,rfl⟩
def eY(a:α):∃z,z=a:=⟨a,rfl⟩
@[reducible] def Bw (w x:U):Prop:=RowKit.Below (M (H w)) w x
def QW:=@Go.wpAnyH_take
def QX:=@List.set_cons_succ.{0}
def QY:=@List.set_cons_zero.{0}
def Q5:=@List.take_succ_eq_append_getElem.{0}
def Q6:=@List.getElem_mem.{0}
def Q7:=@List.map_append.{0,0}
def Q8:=@Bool.and_eq_true
def Q9:=@List.all_eq_true.{0}
def Za:=@Go.RowKit.Below.refl
def Zb:=@Nat.le_refl
def Zd:=@if_pos.{1}
def Ze:=@List.getElem_of_mem.{0}
def Zg:=@Go.below_drewN
def Zi:=@decide_eq_true_eq
def Zj:=@decide_eq_false_iff_not
def Zk:=@if_neg.{1}
def Zl:=@decide_eq_true
def Zm:=@Bool.true_and
def Zo:=@List.eq_nil_of_length_eq_zero.{0}
def Zp:=@List.setIfInBounds_toArray.{0}
def Zr:=@List.flatMap_cons.{0,0}
def Zt:=@List.length_append.{0}
def Zu:=@List.length_cons.{0}
def Zv:=@List.getElem?_map.{0,0}
def Zw:=@List.getElem?_append_right.{0}
def Zx:=@List.getElem?_toArray.{0}
def Zy:=@List.append_nil.{0}
def ZA:=@List.mem_flatMap.{0,0}
def ZB:=@List.mem_cons.{0}
def ZG:=@List.range_succ
def ZH:=@List.map_congr_left.{0,0}
def ZI:=@Go.wp_region_held_drew
def ZJ:=@Option.isSome_iff_exists.{0}
def ZK:=@decide_eq_false
def ZL:=@List.foldl_cons.{0,0}
def ZN:=@Nat.testBit_lt_two_pow
def ZO:=@Nat.lt_of_lt_of_le
def ZP:=@Nat.pow_le_pow_right
def ZQ:=@Nat.eq_of_testBit_eq
def ZR:=@Nat.zero_le
def ZT:=@Nat.zero_add
def ZU:=@Nat.le_trans
def ZV:=@List.mem_cons_of_mem.{0}
def ZW:=@List.flatMap_append.{0,0}
def ZX:=@List.length_map.{0,0}
def ZY:=@List.length_range
def Z0:=@List.take_length.{0}
def Z5:=@List.mem_append.{0}
def Xa:=@Bool.eq_iff_iff
def Xb:=@Int.toNat_of_nonneg
def Xc:=@List.mem_map.{0,0}
def Xd:=@List.mem_range
def Xe:=@List.map_map.{0,0,0}
def Xf:=@of_decide_eq_true
def Xg:=@Nat.add_zero
def Xh:=@List.length_singleton.{0}
def Xi:=@Option.bind_some.{0,0}
def Xr:=@Go.World.cell?_of_block
def Xx:=@Array.getElem?_eq_some_iff.{0}
def XA:=@List.take_append_drop.{0}
def XB:=@Go.info_parts
def XC:=@Go.World.ownsRow_nil
def XD:=@List.size_toArray.{0}
def XE:=@List.length_nil.{0}
def XF:=@List.getElem?_eq_some_iff.{0}
def XG:=@List.getElem?_eq_getElem.{0}
def XH:=@List.mem_singleton.{0}
def XL:=@Go.run_append_own_at
def XM:=@Go.World.size_alloc
def XQ:=@List.getElem?_take.{0}
def XR:=@Nat.pow_lt_pow_right
def XT:=@List.mem_of_mem_take.{0}
def XU:=@List.foldl_append.{0,0}
def XV:=@Nat.or_lt_two_pow
def XW:=@List.take_of_length_le.{0}
def XX:=@Int.eq_ofNat_of_zero_le
def XY:=@Int.toNat_natCast
def XZ:=@Go.IntKind.wrap_u64
def X6:=@Go.wpQuiet_nil
def X8:=@Nat.zero_mul
def Jb:=@List.length_take.{0}
def Jc:=@List.getElem?_eq_none.{0}
def Jd:=@Nat.lt_or_ge
def Jf:=@beq_eq_false_iff_ne.{0}
def Jg:=@Go.Calls.mono
def Ji:=@List.mem_cons_self.{0}
def Jj:=@List.append_assoc.{0}
def Jn:=@Go.callsIn_wide
def Jo:=@Nat.ne_of_lt
def Jr:=@Go.bodyPost_ret
def Js:=@List.getD_eq_getElem?_getD.{0}
def Ju:=@List.length_eq_zero_iff.{0}
def Jv:=@Go.Lib.run_eql_slice_nil
def Jw:=@Nat.not_lt_zero
def Jy:=@Option.some.inj.{0}
def Jz:=@List.set_append_right.{0}
def JB:=@List.length_set.{0}
def JD:=@Array.getElem?_setIfInBounds.{0}
def JG:=@Array.getElem?_append_left.{0}
def JH:=@Nat.le_of_lt
def JL:=@Nat.add_assoc
def JM:=@And.intro
def JO:=@List.mem_iff_getElem.{0}
def JP:=@List.not_mem_nil.{0}
def JQ:=@Go.wpOp_step
def JR:=@List.mem_or_eq_of_mem_set.{0}
def JS:=@Go.DataW.trod_int
def JU:=@Go.DataW.trod_struct
def JW:=@Int.natCast_zero
def J3:=@List.mem_append_left.{0}
def J4:=@List.Mem.tail.{0}
def J5:=@List.Mem.head.{0}
def J7:=@Go.BigFrame.wpQuiet_want
def J8:=@List.getElem?_set_self.{0}
def J9:=@Nat.le_succ
def wT(i:Nat)(v:Value)(hS:S w)(hy:∀x,S x->(execOp a.eval oi).run P x=.ok (.value v) x)(h:wpAnyH P md ops Q S fuel (aW.setIfInBounds i true) (a.put oi.dst v) w)(hi:ops[i]? = some oi:=by exact rfl)(hs:Region.noSelect ops=true:=by kernel_rfl)(hf:Region.free md ops aW i=true:=by kernel_rfl)(hr:(Region.ready md ops aW).contains i=true:=by kernel_rfl)(hQ:∀c a w,Q (.panic c) (a.put oi.dst v) w->Q (.panic c) a w:=by exact λ_ _ _ h=>h)(hg:Region.wanted oi (yielded ops a.tmps)=true:=by rfl):wpAnyH P md ops Q S (fuel+1) aW a w:=
 QW hi hs hf hr hQ (.inl ⟨hg,hy⟩) hS h
def wR(i:Nat)(h:∀K':Act->World->Prop,Shut (∀a w,S w->(S w->wpAnyH P md ops Q S fuel (aW.setIfInBounds i true) a w)->K' a w)->if Region.wanted oi (yielded ops a.tmps)=true then Oper.wp P oi a w K' Q else K' (a.put oi.dst undef) w)(hi:ops[i]? = some oi:=by exact rfl)(hr:Region.ready md ops aW=[i]:=by kernel_rfl):wpAnyH P md ops Q S (fuel+1) aW a w:=
 wpAnyH_ready hr Qa (AllReadyH.cons hi h AllReadyH.nil)
@[reducible] def aD (b o : Nat) : Addr := ⟨b, o, Qr⟩
theorem sB{α : Type}{x : α}{l : List α}{n : Nat}{a : α} : (x :: l).set (n + 1) a = x :: l.set n a := QX
theorem sC{α : Type}{x : α}{l : List α}{a : α} : (x :: l).set 0 a = a :: l := QY
def aj1{a b:Bool}(h:a=b):Ending.returned (Qq a)=Qu (Qq b):=by rw[h]
def aot{k:IntKind}{a b:Int}(h:a=b):Ending.returned (I k a)=Qu (I k b):=by rw[h]
def dC(w:U)(ao:LM)(n:Nat)(f:Nat->Ql):Prop:=
 ∀i,i<n->∃b off,ao=O (aD b off)/\Qo w (aD b (off+i))=O (f i)
def dC.get{w:U}{ao:LM}{n:Nat}{f:Nat->Ql}(h:dC w ao n f){i:Nat}(hi:i<n) :
  ∃b off,ao=O (aD b off)/\∀j,j<n->Qo w (aD b (off+j))=O (f j):=by obtain⟨b,off,rfl,_⟩:=h i hi;refine⟨b,off,rfl,λj a=>?_⟩;obtain⟨d,g,e,k⟩:=h j a;simp_all
def aP(w:U)(ao:LM)(xs:IC):Prop:=
 N xs<=1152921504606846976/\dC w ao (N xs) (λi=>I J (E xs i 0))
def aP.get{w:U}{ao:LM}{xs:IC}(h:aP w ao xs){i:Nat}(hi:i<N xs) :
  ∃b off,ao=O (aD b off)/\∀j,j<N xs->Qo w (aD b (off+j))=O (I J (E xs j 0)):=
 dC.get h.2 hi
structure af where
 bU:Int
 rows:Int
 k0:Int
 k1:Int
 k2:Int
 k3:Int
def af.jQ(t:af):Array Value:=#[I J t.bU,I J t.rows,I J t.k0,I J t.k1,I J t.k2,I J t.k3]
def tz:af:=⟨0,0,0,0,0,0⟩
def aZ(w:U)(ao:LM)(ts:JK af):Prop:=
 N ts<=192153584101141162/\∀i,i<N ts->∃b off,ao=O (aD b off)/\
  Qo w (aD b (off+i*6))=O (I J (E ts i tz).bU)/\Qo w (aD b (off+i*6+1))=O (I J (E ts i tz).rows)/\
  Qo w (aD b (off+i*6+2))=O (I J (E ts i tz).k0)/\Qo w (aD b (off+i*6+3))=O (I J (E ts i tz).k1)/\
  Qo w (aD b (off+i*6+4))=O (I J (E ts i tz).k2)/\Qo w (aD b (off+i*6+5))=O (I J (E ts i tz).k3)
structure aV where
 not:Bool
 op:Int
 left:Int
 const:Bool
 right:Int
def cz:aV:=⟨F,0,0,F,0⟩
def aV.val(c:aV):Value:=.agg #[Qq c.not,I J c.op,I J c.left,Qq c.const,I J c.right]
def bZ(w:U)(ao:LM)(cs:JK aV):Prop:=
 N cs<=230584300921369395/\∀i,i<N cs->∃b off,ao=O (aD b off)/\
  Qo w (aD b (off+i*5))=O (Qq (E cs i cz).not)/\Qo w (aD b (off+i*5+1))=O (I J (E cs i cz).op)/\
  Qo w (aD b (off+i*5+2))=O (I J (E cs i cz).left)/\Qo w (aD b (off+i*5+3))=O (Qq (E cs i cz).const)/\
  Qo w (aD b (off+i*5+4))=O (I J (E cs i cz).right)
structure aQ where
 ad:LM
 cap:Nat
 cs:JK aV
def lz:aQ:=⟨Qr,0,[]⟩
def aQ.val(c:aQ):Value:=Z c.ad (N c.cs) c.cap
def fD(w:U)(ao:LM)(ls:JK aQ):Prop:=
 N ls<=1152921504606846976/\dC w ao (N ls) (λi=>(E ls i lz).val)/\∀i,i<N ls->bZ w (E ls i lz).ad (E ls i lz).cs
structure aA where
 ad:LM
 cap:Nat
 xs:IC
def aA.val(v:aA):Value:=Z v.ad (N v.xs) v.cap
def aA.At(v:aA)(w:U):Prop:=aP w v.ad v.xs
structure ae where
 au:aA
 iF:LM
 cZ:Nat
 wh:JK aQ
 aF:Bool
 aC:aA
 aM:aA
 bA:aA
 ord:aA
def ae.cells(q:ae):Array Value:=#[q.au.val,Z q.iF (N q.wh) q.cZ,Qq q.aF,q.aC.val,q.aM.val,q.bA.val,q.ord.val]
structure ae.At(q:ae)(w:U):Prop where
 au:q.au.At w
 wh:fD w q.iF q.wh
 aC:q.aC.At w
 aM:q.aM.At w
 bA:q.bA.At w
 ord:q.ord.At w
def dm(xs:IC)(n:Int):Bool:=xs.all λx=>decide (0<=x)&&decide (x<n)
theorem af6(xs:IC)(n:Int)(k:Nat)(hk:k<N xs):dm (xs.take (k+1)) n=(dm (xs.take k) n&&(decide (0<=xs[k])&&decide (xs[k]<n))):=by grind [dm,List.take_succ_eq_append_getElem]
theorem Wo(xs:IC)(n:Int)(k:Nat)(hk:k<N xs)(h:xs[k]<0∨n<=xs[k]):dm xs n=false:=by grind [dm,List.getElem_mem]
theorem af7{n:Int}(hk:k<N xs)(hp:dm (xs.take k) n=T)(h1:¬xs[k]<0)(h2:xs[k]<n):dm (xs.take (k+1)) n=true:=by grind [af6]
theorem acj{n:Int}(hk:k<=N xs)(aT:¬k<N xs)(hp:dm (xs.take k) n=T):T=dm xs n:=by grind
def dK(xs:IC):Bool:=decide (∀i,i<N xs->∀j,j<i->E xs i 0≠E xs j 0)
theorem Md{j:Nat}(hi:i<N xs)(hj:j<i)(h:E xs i 0=E xs j 0):F=dK xs:=by grind [dK]
theorem Az(h:∀i,i<N xs->∀j,j<i->E xs i 0≠E xs j 0):T=dK xs:=by grind [dK]
def jW(c:aV)(n:Int):Bool:=
 decide (0<=c.left)&&decide (c.left<n)&&decide (0<=c.op)&&decide (c.op<=2) &&
  (if c.op=2 then !c.const&&decide (c.right=0) else if c.const then decide (-1000<=c.right)&&decide (c.right<=1000) else decide (0<=c.right)&&decide (c.right<=n-1))
def xA(aF:Bool)(aC aM bA:IC):Int:=if aF then N aC+1+N aM else N bA
def af.kd(t:af):Nat->Int
 |0=>t.k0
 |1=>t.k1
 |2=>t.k2
 |_=>t.k3
def af.ae8(wr:U)(t:af)(ty:TypeId)(m:Nat)(hm:m<4) :
  Qo (wr.alloc (Qs #[I J t.bU,I J t.rows,I J t.k0,I J t.k1,I J t.k2,I J t.k3] ty)) (aD (M (H wr)) (2+m))=O (I J (t.kd m)):=by rcases (by omega:m=0∨m=1∨m=2∨m=3) with rfl|rfl|rfl|rfl <;> simp[af.kd]
def fI(t:af):Bool:=
 decide (1<=t.bU/\t.bU<=4/\0<=t.rows/\t.rows<=1000000/\∀m,m<t.bU.toNat->1<=t.kd m/\t.kd m<=1000000)
theorem Me{t:af}(h:t.bU<1∨4<t.bU∨t.rows<0∨1000000<t.rows):fI t=false:=by unfold fI;grind
theorem AA{t:af}(m:Nat)(hm:m<t.bU.toNat)(h:t.kd m<1∨1000000<t.kd m):fI t=false:=by unfold fI;grind
def IK{t:af}(h1:1<=t.bU)(h2:t.bU<=4)(h3:0<=t.rows)(h4:t.rows<=1000000)(h:∀m,m<t.bU.toNat->1<=t.kd m/\t.kd m<=1000000):fI t=true:=by unfold fI;simp_all
def gV(ts:JK af):Bool:=decide (1<=N ts)&&decide (N ts<=8)&&ts.all fI
theorem Mf{ts:JK af}(h:N ts<1):F=gV ts:=by grind [gV]
theorem Rs{ts:JK af}(h:8<N ts):F=gV ts:=by grind [gV]
theorem E9{ts:JK af}(hk:k<N ts)(h:fI (E ts k tz)=F):F=gV ts:=by grind [gV]
theorem aj2{f:α->Bool}{ts:List α}{z:α}(hk:k<N ts)(hp:(ts.take k).all f=T)(h:f (E ts k z)=T):(ts.take (k+1)).all f=true:=by grind [List.take_succ_eq_append_getElem]
theorem af8{ts:JK af}(h0:¬N ts<1)(h8:¬8<N ts)(hk:k<=N ts)(aT:¬k<N ts)(hp:(ts.take k).all fI=T):T=gV ts:=by grind [gV]
theorem lW{o:Nat}(h:Qo w (aD b o)=O v):b<M (H w):=by simp only[World.cell?]at h;grind
def QZ:=@aj1
def Q0:=@aot
def Q3:=@dC.get
def Q4:=@aP.get
def aX(ts:JK af)(xs:IC):Int:=(xs.map λt=>(E ts t.toNat tz).bU).sum
def kW(ts:JK af)(xs:IC)(k:Nat)(hk:k<N xs):aX ts (xs.take (k+1))=aX ts (xs.take k)+(E ts xs[k].toNat tz).bU:=by unfold aX;rw[Q5 hk,Q7,List.sum_append];simp
def uK{ts:JK af}(hc:gV ts=T)(hi:i<N ts):1<=(E ts i tz).bU/\(E ts i tz).bU<=4:=by unfold gV at hc;rw[Q8]at hc;have h:=Q9.1 hc.2 (E ts i tz) Qf;unfold fI at h;simp_all
def qR{n:Int}(h:dm xs n=T)(hk:k<N xs):0<=xs[k]/\xs[k]<n:=by unfold dm at h;simp_all
def mH{ts:JK af}{xs:IC}(hc:gV ts=T)(ha:dm xs (N ts)=T):∀k,k<=N xs->0<=aX ts (xs.take k)/\aX ts (xs.take k)<=4*k
 |0,_=>by simp[aX]
 |k+1,hk=>by have ih:=mH hc ha k X;rw[kW ts xs k X];have h1:=qR ha (k:=k) X;have h2:=uK hc (i:=(xs[k]'(X)).toNat) X;omega
theorem sj{o:Nat}(h:Qo w (aD b o)=O v)(x:Obj):Qo (w.alloc x) (aD b o)=O v:=
 (Below.cell ((Za (M (H w)) w).alloc (Zb _) x) (p:=(aD b o)) (lW h)).trans h
theorem cB(hb:Bw w w'){o:Nat}(h:Qo w (aD b o)=O v):Qo w' (aD b o)=O v:=
 (hb.cell (p:=(aD b o)) (lW h)).trans h
def aou(hx:Bw w x)(a0:Qo w ⟨b0,o0,Qr⟩=O v0)(a1:Qo w ⟨b1,o1,Qr⟩=O v1)(a2:Qo w ⟨b2,o2,Qr⟩=O v2)(a3:Qo w ⟨b3,o3,Qr⟩=O v3)(a4:Qo w ⟨b4,o4,Qr⟩=O v4)(a5:Qo w ⟨b5,o5,Qr⟩=O v5)(a6:Qo w ⟨b6,o6,Qr⟩=O v6):Qo x ⟨b0,o0,Qr⟩=O v0/\Qo x ⟨b1,o1,Qr⟩=O v1/\Qo x ⟨b2,o2,Qr⟩=O v2/\Qo x ⟨b3,o3,Qr⟩=O v3/\Qo x ⟨b4,o4,Qr⟩=O v4/\Qo x ⟨b5,o5,Qr⟩=O v5/\Qo x ⟨b6,o6,Qr⟩=O v6:=⟨cB hx a0,cB hx a1,cB hx a2,cB hx a3,cB hx a4,cB hx a5,cB hx a6⟩
def awP(hx:Bw w x){b8 o8 b9 o9 b10 o10 b11 o11 b12 o12:Nat}(a0:Qo w ⟨b0,o0,Qr⟩=O v0)(a1:Qo w ⟨b1,o1,Qr⟩=O v1)(a2:Qo w ⟨b2,o2,Qr⟩=O v2)(a3:Qo w ⟨b3,o3,Qr⟩=O v3)(a4:Qo w ⟨b4,o4,Qr⟩=O v4)(a5:Qo w ⟨b5,o5,Qr⟩=O v5)(a6:Qo w ⟨b6,o6,Qr⟩=O v6)(a7:Qo w ⟨b7,o7,Qr⟩=O v7)(a8:Qo w ⟨b8,o8,Qr⟩=O v8)(a9:Qo w ⟨b9,o9,Qr⟩=O v9)(wU:Qo w ⟨b10,o10,Qr⟩=O fO)(yD:Qo w ⟨b11,o11,Qr⟩=O fP)(yE:Qo w ⟨b12,o12,Qr⟩=O fQ):Qo x ⟨b0,o0,Qr⟩=O v0/\Qo x ⟨b1,o1,Qr⟩=O v1/\Qo x ⟨b2,o2,Qr⟩=O v2/\Qo x ⟨b3,o3,Qr⟩=O v3/\Qo x ⟨b4,o4,Qr⟩=O v4/\Qo x ⟨b5,o5,Qr⟩=O v5/\Qo x ⟨b6,o6,Qr⟩=O v6/\Qo x ⟨b7,o7,Qr⟩=O v7/\Qo x ⟨b8,o8,Qr⟩=O v8/\Qo x ⟨b9,o9,Qr⟩=O v9/\Qo x ⟨b10,o10,Qr⟩=O fO/\Qo x ⟨b11,o11,Qr⟩=O fP/\Qo x ⟨b12,o12,Qr⟩=O fQ:=⟨cB hx a0,cB hx a1,cB hx a2,cB hx a3,cB hx a4,cB hx a5,cB hx a6,cB hx a7,cB hx a8,cB hx a9,cB hx wU,cB hx yD,cB hx yE⟩
def kP(hx:Bw w x)(a0:Qo w ⟨b0,o0,Qr⟩=O v0)(a1:Qo w ⟨b1,o1,Qr⟩=O v1):Qo x ⟨b0,o0,Qr⟩=O v0/\Qo x ⟨b1,o1,Qr⟩=O v1:=⟨cB hx a0,cB hx a1⟩
def awQ(hx:Bw w x)(a0:Qo w ⟨b0,o0,Qr⟩=O v0)(a1:Qo w ⟨b1,o1,Qr⟩=O v1)(a2:Qo w ⟨b2,o2,Qr⟩=O v2):Qo x ⟨b0,o0,Qr⟩=O v0/\Qo x ⟨b1,o1,Qr⟩=O v1/\Qo x ⟨b2,o2,Qr⟩=O v2:=⟨cB hx a0,cB hx a1,cB hx a2⟩
def awR(hx:Bw w x)(a0:Qo w ⟨b0,o0,Qr⟩=O v0)(a1:Qo w ⟨b1,o1,Qr⟩=O v1)(a2:Qo w ⟨b2,o2,Qr⟩=O v2)(a3:Qo w ⟨b3,o3,Qr⟩=O v3):Qo x ⟨b0,o0,Qr⟩=O v0/\Qo x ⟨b1,o1,Qr⟩=O v1/\Qo x ⟨b2,o2,Qr⟩=O v2/\Qo x ⟨b3,o3,Qr⟩=O v3:=⟨cB hx a0,cB hx a1,cB hx a2,cB hx a3⟩
def qi(hx:Bw w x)(a0:Qo w ⟨b0,o0,Qr⟩=O v0)(a1:Qo w ⟨b1,o1,Qr⟩=O v1)(a2:Qo w ⟨b2,o2,Qr⟩=O v2)(a3:Qo w ⟨b3,o3,Qr⟩=O v3)(a4:Qo w ⟨b4,o4,Qr⟩=O v4):Qo x ⟨b0,o0,Qr⟩=O v0/\Qo x ⟨b1,o1,Qr⟩=O v1/\Qo x ⟨b2,o2,Qr⟩=O v2/\Qo x ⟨b3,o3,Qr⟩=O v3/\Qo x ⟨b4,o4,Qr⟩=O v4:=⟨cB hx a0,cB hx a1,cB hx a2,cB hx a3,cB hx a4⟩
def aj3(hx:Bw w x)(a0:Qo w ⟨b0,o0,Qr⟩=O v0)(a1:Qo w ⟨b1,o1,Qr⟩=O v1)(a2:Qo w ⟨b2,o2,Qr⟩=O v2)(a3:Qo w ⟨b3,o3,Qr⟩=O v3)(a4:Qo w ⟨b4,o4,Qr⟩=O v4)(a5:Qo w ⟨b5,o5,Qr⟩=O v5):Qo x ⟨b0,o0,Qr⟩=O v0/\Qo x ⟨b1,o1,Qr⟩=O v1/\Qo x ⟨b2,o2,Qr⟩=O v2/\Qo x ⟨b3,o3,Qr⟩=O v3/\Qo x ⟨b4,o4,Qr⟩=O v4/\Qo x ⟨b5,o5,Qr⟩=O v5:=⟨cB hx a0,cB hx a1,cB hx a2,cB hx a3,cB hx a4,cB hx a5⟩
def Da(hx:Bw w x)(a0:Qo w ⟨b0,o0,Qr⟩=O v0)(a1:Qo w ⟨b1,o1,Qr⟩=O v1)(a2:Qo w ⟨b2,o2,Qr⟩=O v2)(a3:Qo w ⟨b3,o3,Qr⟩=O v3)(a4:Qo w ⟨b4,o4,Qr⟩=O v4)(a5:Qo w ⟨b5,o5,Qr⟩=O v5)(a6:Qo w ⟨b6,o6,Qr⟩=O v6)(a7:Qo w ⟨b7,o7,Qr⟩=O v7):Qo x ⟨b0,o0,Qr⟩=O v0/\Qo x ⟨b1,o1,Qr⟩=O v1/\Qo x ⟨b2,o2,Qr⟩=O v2/\Qo x ⟨b3,o3,Qr⟩=O v3/\Qo x ⟨b4,o4,Qr⟩=O v4/\Qo x ⟨b5,o5,Qr⟩=O v5/\Qo x ⟨b6,o6,Qr⟩=O v6/\Qo x ⟨b7,o7,Qr⟩=O v7:=⟨cB hx a0,cB hx a1,cB hx a2,cB hx a3,cB hx a4,cB hx a5,cB hx a6,cB hx a7⟩
theorem dC.aj{w w':U}(hb:Bw w w'){ao:LM}{n:Nat}{f:Nat->Ql}(h:dC w ao n f):dC w' ao n f:=λi a=>by obtain⟨b,off,e,d⟩:=h i a;grind [cB]
theorem aP.aj{w w':U}(hb:Bw w w'){ao:LM}{xs:IC}(h:aP w ao xs):aP w' ao xs:=⟨h.1,h.2.aj hb⟩
theorem aZ.aj{w w':U}(hb:Bw w w'){ao:LM}{ts:JK af}(h:aZ w ao ts):aZ w' ao ts:=⟨h.1,λi d=>by
 obtain⟨b,off,e,c0,a,c2,c3,c4,c5⟩:=h.2 i d;exact⟨b,off,e,cB hb c0,cB hb a,cB hb c2,cB hb c3,cB hb c4,cB hb c5⟩⟩
theorem bZ.aj{w w':U}(hb:Bw w w'){ao:LM}{cs:JK aV}(h:bZ w ao cs):bZ w' ao cs:=⟨h.1,λi d=>by
 obtain⟨b,off,e,c0,a,c2,c3,c4⟩:=h.2 i d;exact⟨b,off,e,cB hb c0,cB hb a,cB hb c2,cB hb c3,cB hb c4⟩⟩
theorem fD.aj{w w':U}(hb:Bw w w'){ao:LM}{ls:JK aQ}(h:fD w ao ls):fD w' ao ls:=
 ⟨h.1,h.2.1.aj hb,λi a=>(h.2.2 i a).aj hb⟩
theorem ae.At.aj{w w':U}(hb:Bw w w'){q:ae}(h:q.At w):q.At w':=
 ⟨aP.aj hb h.au,h.wh.aj hb,aP.aj hb h.aC,aP.aj hb h.aM,aP.aj hb h.bA,aP.aj hb h.ord⟩
def fo(w:U)(o:Obj):Bw w (w.alloc o):=(Za _ _).alloc (Zb _) o
def aO(h:Bw w w1)(k:Bw w1 w2):Bw w w2:=h.trans (k.mono h.size)
def zR(hb:Bw W w1):(∀b o,b<M (H W)->Qo w1 (aD b o)=Qo W (aD b o)):=
 λb o h=>hb.cell (p:=(aD b o)) h
def mD(au:IC)(wh:JK (JK aV))(aC aM bA ord:IC):Bool:=
 decide (5<N au∨8<N wh∨8<N bA∨4<N aC∨4<N aM∨4<N ord) ||wh.any (λc=>decide (3<N c))
def kK(c:JK aV)(n:Int):Bool:=decide (0<N c)&&c.all (λx=>jW x n)
def jB(wh:JK (JK aV))(n:Int):Bool:=wh.all (λc=>kK c n)
def jX(n:Int)(aF:Bool)(aC aM bA ord:IC):Bool:=
 dm bA n&&dm aC n&&dm aM n&&dm ord (xA aF aC aM bA)&&dK aC&&dK ord&&(aF==decide (N bA=0))&&(aF ||decide (N aC+N aM=0))
def uj(ts:JK af)(au:IC)(wh:JK (JK aV))(aF:Bool)(aC aM bA ord:IC):Int:=
 if gV ts=F then 1
 else if mD au wh aC aM bA ord=T then 2
 else if dm au (N ts)=T/\0<N au/\jB wh (aX ts au)=T/\jX (aX ts au) aF aC aM bA ord=T then 0
 else 3
def ae.qU(q:ae):JK (JK aV):=q.wh.map aQ.cs
def ae.check(q:ae)(ts:JK af):Int:=uj ts q.au.xs q.qU q.aF q.aC.xs q.aM.xs q.bA.xs q.ord.xs
def ae.Rt{q:ae}{ts:JK af}(h:gV ts=F):(1:Int)=q.check ts:=by unfold ae.check uj;rw[Zd h]
theorem aj4{wh:JK (JK aV)}(h:5<N au∨8<N wh∨8<N bA∨4<N aC∨4<N aM∨4<N ord):mD au wh aC aM bA ord=true:=by grind [mD]
def ae.DR{q:ae}{ts:JK af}(h:gV ts=T)(hf:mD q.au.xs q.qU q.aC.xs q.aM.xs q.bA.xs q.ord.xs=T):(2:Int)=q.check ts:=by unfold ae.check uj;simp_all
def Cm{a b:Bool}(h:a=T↔b=T):Value.bool a=Qq b:=Qf
theorem af9{wh:JK (JK aV)}(h:wh.any (λc=>decide (3<N c))=T):mD au wh aC aM bA ord=true:=by grind [mD]
theorem aj5{wh:JK (JK aV)}(h:¬(5<N au∨8<N wh∨8<N bA∨4<N aC∨4<N aM∨4<N ord))
  (h':wh.any (λc=>decide (3<N c))=F):mD au wh aC aM bA ord=false:=by grind [mD]
def pE(ls:JK aQ)(k:Nat):Bool:=(ls.take k).any (λc=>decide (3<N c.cs))
def ack{ls:JK aQ}(hk:k<N ls):pE ls (k+1)=(pE ls k ||decide (3<(E ls k lz).cs.length)):=by unfold pE;rw[Q5 hk,List.any_append];simp_all
theorem GR(q:ae):q.qU.any (λc=>decide (3<N c))=pE q.wh (N q.wh):=by unfold pE ae.qU;grind
def acm{ls:JK aQ}{k:Nat}(hk:k<N ls)(h:pE ls (N ls)=F):(E ls k lz).cs.length<=3:=by unfold pE at h;simp_all
def ae.aga{q:ae}{ts:JK af}(h:gV ts=T)(hf:mD q.au.xs q.qU q.aC.xs q.aM.xs q.bA.xs q.ord.xs=F)
  (hr:¬(dm q.au.xs (N ts)=T/\0<N q.au.xs/\jB q.qU (aX ts q.au.xs)=T/\jX (aX ts q.au.xs) q.aF q.aC.xs q.aM.xs q.bA.xs q.ord.xs=T)):(3:Int)=q.check ts:=by unfold ae.check uj;simp_all
def ae.aj6{q:ae}{ts:JK af}(h:gV ts=T)(hf:mD q.au.xs q.qU q.aC.xs q.aM.xs q.bA.xs q.ord.xs=F)
  (hr:dm q.au.xs (N ts)=T/\0<N q.au.xs/\jB q.qU (aX ts q.au.xs)=T/\jX (aX ts q.au.xs) q.aF q.aC.xs q.aM.xs q.bA.xs q.ord.xs=T):(0:Int)=q.check ts:=by unfold ae.check uj;simp_all
theorem Fa{q:ae}{n:Int}{k:Nat}(hk:k<N q.wh)(h:kK (E q.wh k lz).cs n=F):jB q.qU n=false:=by unfold jB ae.qU;grind
def Dm{q:ae}{n:Int}(h:∀k,k<N q.wh->kK (E q.wh k lz).cs n=T):jB q.qU n=true:=by unfold jB ae.qU;rw[List.all_map,Q9];intro c a;obtain⟨k,b,rfl⟩:=Ze a;simp_all
theorem Fb{c:JK aV}{n:Int}(h:¬0<N c):kK c n=false:=by grind [kK]
theorem IL{c:JK aV}{n:Int}(hk:k<N c)(h:jW (E c k cz) n=F):kK c n=false:=by grind [kK]
theorem Fe{c:JK aV}{n:Int}(h0:0<N c)(h:∀k,k<N c->jW (E c k cz) n=T):kK c n=true:=by grind [kK,List.getElem_of_mem]
def Zc:=@aP.aj
def KW{P:Program}{id:Nat}{Q:Exit->Act->World->Prop}{a:Act}{w:World}{l:JK Oper}(h:wpQuiet P l.toArray (λx=>Bw w x) (λb=>∀x,Bw w x->Q .normal b x) l a)(hm:P.follows .mixedOrders=true:=by kernel_rfl)(hB:Region.lexB .any l.toArray=true:=by kernel_rfl):(Code.region id l.toArray true).wp P Q a w:=
 wp_region_quiet (C:=λx=>Bw w x) hm hB (Za _ _).drew (by simpa using h)
def Calls.Ue(hx:Bw w x)
  (h:Calls P f args x λe b=>e=Qu v/\Bw x b):Calls P f args x λe a=>e=Qu v/\Bw w a:=
 h.mono λ_ _ ⟨he,hb⟩=>⟨he,aO hx hb⟩
def Calls.IP(hx:Bw w x)
  (h:Calls P f args x λe b=>e=Qu v/\b = x):Calls P f args x λe a=>e=Qu v/\Bw w a:=
 h.mono λ_ _ ⟨he,hb⟩=>⟨he,Qf⟩
def Calls.drawn
  (h:Calls P f args w λe a=>e=Qu v/\∃n,a = w.drewN n):Calls P f args w λe a=>e=Qu v/\Bw w a:=
 h.mono λ_ _ ⟨he,n,hn⟩=>⟨he,by rw[hn];exact Zg (Za _ _) n⟩
section
variable {Nq:Int} {aF:Bool} {aC aM bA ord:IC}
theorem aj7(h:¬dm bA Nq=T):jX Nq aF aC aM bA ord=false:=by grind [jX]
theorem agb(h:¬dm aC Nq=T):jX Nq aF aC aM bA ord=false:=by grind [jX]
theorem agc(h:¬dm aM Nq=T):jX Nq aF aC aM bA ord=false:=by grind [jX]
theorem aj8(h:¬dm ord (xA aF aC aM bA)=T):jX Nq aF aC aM bA ord=false:=by grind [jX]
theorem aox(h:¬dK aC=T):jX Nq aF aC aM bA ord=false:=by grind [jX]
theorem aoy(h:¬dK ord=T):jX Nq aF aC aM bA ord=false:=by grind [jX]
theorem ae9:((N bA:Int)==0)=decide (N bA=0):=by grind
theorem aj9(h:¬aF=((N bA:Int)==0)):jX Nq aF aC aM bA ord=false:=by grind [jX,xA]
theorem aoz(hg:aF=((N bA:Int)==0))(h:(!((N bA:Int)==0))=T/\0<(N aC:Int)+N aM):jX Nq aF aC aM bA ord=false:=by grind [jX]
theorem afa(a1:dm bA Nq=T)(a2:dm aC Nq=T)(a3:dm aM Nq=T)(a4:dm ord (xA aF aC aM bA)=T)(a5:dK aC=T)(a6:dK ord=T)
  (hg:aF=((N bA:Int)==0)) (h:aF=T∨N aC+N aM=0):jX Nq aF aC aM bA ord=true:=by grind [jX,ae9]
def aka(a1:dm bA Nq=T)(a2:dm aC Nq=T)(a3:dm aM Nq=T)(a4:dm ord (xA aF aC aM bA)=T)(a5:dK aC=T)(a6:dK ord=T)
  (hg:aF=((N bA:Int)==0)) (h:bA=[]):jX Nq aF aC aM bA ord=true:=
 afa a1 a2 a3 a4 a5 a6 hg (.inl Qf)
theorem akb(a1:dm bA Nq=T)(a2:dm aC Nq=T)(a3:dm aM Nq=T)(a4:dm ord (xA aF aC aM bA)=T)(a5:dK aC=T)(a6:dK ord=T)
  (hg:aF=((N bA:Int)==0)) (h:(!((N bA:Int)==0))=F∨(N aC:Int)+N aM<=0):jX Nq aF aC aM bA ord=true:=
 afa a1 a2 a3 a4 a5 a6 hg (by
  grind)
end
def LJ(r:Int)(b:Bool):Prop:=-1<=r/\decide (0<=r)=b
theorem Uf{p:α->Bool}{xs:List α}{z:α}(hk:k<N xs)(h:p (E xs k z)=T):xs.any p=true:=by grind
theorem Ff{p:α->Bool}{xs:List α}{z:α}(h:∀k,k<N xs->p (E xs k z)=F):xs.any p=false:=by grind [List.getElem_of_mem]
theorem akc{ts:JK af}(h1:¬N ts<1)(h8:¬8<N ts):(!(ts.any λt=>!fI t))=gV ts:=by grind [gV]
def GU(x n:Int):Bool:=decide (0<=x)&&decide (x<n)
theorem akd(xs:IC)(n:Int):(!(xs.any λx=>!GU x n))=dm xs n:=by grind [GU,dm]
def ake(ls:JK aQ):(ls.any λc=>decide (3<N c.cs))=pE ls (N ls):=by unfold pE;simp_all
def ae.afb(q:ae):mD q.au.xs q.qU q.aC.xs q.aM.xs q.bA.xs q.ord.xs =
  (decide (5<N q.au.xs∨8<N q.wh∨8<N q.bA.xs∨4<N q.aC.xs∨4<N q.aM.xs∨4<N q.ord.xs) ||pE q.wh (N q.wh)):=by unfold mD;rw[GR];simp[ae.qU]
def akf{c:aV}{n:Int}(h:GU c.left n=F):F=jW c n:=by refine(Bool.eq_false_iff.2 ?_).symm;intro a;simp only[jW,Q8,Zi]at a;simp only[GU,Bool.and_eq_false_iff,Zj]at h;omega
theorem DT{c:aV}{n:Int}(h:GU c.left n=T)(ho:c.op=0∨c.op=1)(hc:c.const=T):(decide (-1000<=c.right)&&decide (c.right<=1000))=jW c n:=by simp only[GU,Q8,Zi]at h;unfold jW;grind
theorem GV{c:aV}{n:Int}(h:GU c.left n=T)(ho:c.op=0∨c.op=1)(hc:c.const=F):GU c.right n=jW c n:=by simp only[GU,Q8,Zi]at h;unfold jW;rw[Zk X,Zk (by simp[hc]),Zl h.1,Zl h.2,Zl (show 0<=c.op by omega),Zl (show c.op<=2 by omega)];simp only[GU,Bool.and_self,Zm];grind
def Wp{c:aV}{n:Int}(h:GU c.left n=T)(ho:c.op=2):(!c.const&&decide (c.right=0))=jW c n:=by simp only[GU,Q8,Zi]at h;unfold jW;simp_all
def Ws{c:aV}{n:Int}(h0:¬c.op=0)(h1:¬c.op=1)(h2:¬c.op=2):F=jW c n:=by refine(Bool.eq_false_iff.2 ?_).symm;intro a;simp only[jW,Q8,Zi]at a;omega
def Zf:=@KW
theorem qj(w:U)(o:Obj):(w.alloc o).heap[M (H w)]? = O o:=by show (w.heap.push o)[M (H w)]? = _;simp
theorem yF(w:U)(c cs:Array Ql)(t:TypeId):(w.alloc (Qs c t)).setRow (M (H w)) cs=w.alloc (Qs cs t):=by unfold World.setRow World.alloc;simp only[World.mk.injEq,and_true];grind
def mI(w:U)(c:Array Ql)(t:TypeId)(i:Nat)(v:Ql):Qn (w.alloc (Qs c t)) (aD (M (H w)) i) v=w.alloc (Qs (c.setIfInBounds i v) t):=by rw[setCell_eq_setRow (w.alloc (Qs c t)) (M (H w)) i c t (0,0) v (qj w _),yF]
theorem Fg(b off j:Nat):((aD b off):Addr).add j=(aD b (off+j)):=by unfold Addr.add;simp_all
theorem Dn(w:U)(dT sT ty elem:TypeId)(size g aco asI:Nat)(sp:LM)(Mg asJ:Nat)(iw:Array Ql)(t:TypeId)(cs:JK Ql)
  (hu:P.underlying dT=O (.slice elem)) (hs:(P.info? elem).map (·.size)=O size) (hg:w.heap[g]? = O (Qs iw t (0,0))) (hle:Mg<=aco) (hn:N cs=Mg*size)
  (hsrc:0<N cs->∃a,sp=O a/\∀j v,cs[j]? = O v->w.cell? (a.add j)=O v) (hfit:N cs<=iw.size) (h1:∀v∈cs,v.oneCell' = T) :
  (Builtin.copy_ #[dT,sT] ty #[Z (O (aD g 0)) aco asI,Z sp Mg asJ]).run P w=.ok (goInt Mg) (w.setRow g (cs++iw.toList.drop (N cs)).toArray):=by
 have k:=run_storeCells_at P g 0 t cs 0 iw w hg X h1;have b:Nat.min Mg aco=Mg:=Nat.min_eq_left hle
 cases hq:P.info? elem with
 |none=>simp_all
 |some i =>
  have f:i.size=size:=Qf;by_cases m:N cs=0
  .obtain rfl:cs=[]:=Zo m;have d:w.setRow g iw=w:=setRow_self w g iw t (0,0) hg;have e:∀(x:Addr),(loadCells x (Mg*size)).run P w=.ok #[] w:=λx=>by grind [run_loadCells_list]
   cases sp <;> simp[Builtin.copy_,run_underlying hu,Builtin.lenOf,Builtin.firstCells,sizeOf,typeInfo,hq,f,b,storeCells,e,d]
  .obtain⟨a,rfl,l⟩:=hsrc X;have e:=run_loadCells_list (P:=P) w a cs l;rw[hn]at e;simp[Builtin.copy_,run_underlying hu,Builtin.lenOf,Builtin.firstCells,sizeOf,typeInfo,hq,f,b,e,k]
def gF(xs:IC):Array Value:=(xs.map (Value.int J)++[Value.int J 77777,Value.int J 77777]).toArray
theorem Dp(z:Ql)(n:Nat):madeCells #[z] n=(List.replicate n z).toArray:=by
 apply Array.ext_getElem?;intro i;by_cases a:i<n
 .simp[madeCells,a]
  grind
 .simp[madeCells,a]
def Mh(xs:IC):Array Value:=(xs.map (Value.int J)++[Value.int J 0,Value.int J 0]).toArray
def IQ(xs:IC):Array Value:=(xs.map (Value.int J)++[Value.int J 77777,Value.int J 0]).toArray
def akg(xs:IC):(Mh xs)[N xs]? = O (I J 0):=by simp[Mh]
def akh(xs:IC):(IQ xs)[N xs+1]? = O (I J 0):=by simp[IQ]
def agd(xs:IC):(Mh xs).setIfInBounds (N xs) (I J 77777)=IQ xs:=by simp only[Mh,IQ,Zp];simp_all
theorem age(xs:IC):(IQ xs).setIfInBounds (N xs+1) (I J 77777)=gF xs:=by grind [IQ,gF]
def Db(w:U)(xs:IC)(t:TypeId):Qn (w.alloc (Qs (Mh xs) t)) (aD (M (H w)) (N xs)) (I J 77777)=w.alloc (Qs (IQ xs) t):=by rw[mI,agd]
def Dc(w:U)(xs:IC)(t:TypeId):Qn (w.alloc (Qs (IQ xs) t)) (aD (M (H w)) (N xs+1)) (I J 77777)=w.alloc (Qs (gF xs) t):=by rw[mI,age]
theorem Pg(w:U)(dT elem:TypeId)(ao:LM)(cap:Nat)(xs:IC)(hx:aP w ao xs)(hu:P.underlying dT=O (.slice elem))(hs:(P.info? elem).map (·.size)=O 1)(ty:TypeId) :
  (Builtin.copy_ #[dT,dT] ty #[Z (O (aD (M (H w)) 0)) (N xs+2) (N xs+2),Z ao (N xs) cap]).run P (w.alloc (Qs (madeCells #[I J 0] (N xs+2)) elem)) =
   .ok (goInt (N xs)) (w.alloc (Qs (Mh xs) elem)):=by
 rw[Dn (w.alloc (Qs (madeCells #[I J 0] (N xs+2)) elem)) dT dT ty elem 1 (M (H w)) (N xs+2) (N xs+2) ao (N xs) cap (madeCells #[I J 0] (N xs+2)) elem (xs.map (Value.int J)) hu hs
  (qj _ _) X Qa ?_ (by simp[size_madeCells]) ?_,yF]
 .congr 3;rw[Dp]
  grind [Mh]
 .intro i;have d:0<N xs:=Qf
  obtain⟨b,off,rfl,f⟩:=hx.get d;refine⟨(aD b off),rfl,λj v g=>?_⟩;have a:j<N xs:=by grind
  have e:=sj (f j a) (Qs (madeCells #[I J 0] (N xs+2)) elem);simp[a]at g;grind [Fg]
 grind [Value.oneCell']
def Zn:=@Fg
theorem tQ{α:Type}(f:α->JK Ql)(s:Nat)(hf:∀x,N (f x)=s):∀xs:List α,N (xs.flatMap f)=N xs*s
 |[]=>Qa
 |x::xs=>by rw[Zr,Zt,hf,tQ f s hf xs,Zu,Nat.add_mul,Nat.one_mul,Nat.add_comm]
theorem Cn{α:Type}(f:α->JK Ql)(s:Nat)(hf:∀x,N (f x)=s)(z:α):∀(xs:List α) (rest:JK Ql) (i j:Nat),i<N xs->j<s->(xs.flatMap f++rest)[i*s+j]? = (f (E xs i z))[j]?
 |[],_,i,_,hi,_=>absurd hi Qa
 |x::xs,rest,0,j,_,hj=>by grind
 |x::xs,rest,i+1,j,hi,hj=>by have ih:=Cn f s hf z xs rest i j Qf hj;grind
theorem qz(f:α->JK Ql)(s:Nat)(hf:∀x,N (f x)=s)(xs:List α)(rest:JK Ql)(j:Nat):(xs.flatMap f++rest)[N xs*s+j]? = rest[j]?:=by grind [tQ]
theorem Fh(f:α->JK Ql)(s:Nat)(hf:∀x,N (f x)=s)(xs:List α)(rest:JK Ql)(j:Nat)(v:Ql):(xs.flatMap f++rest).set (N xs*s+j) v=xs.flatMap f++rest.set j v:=by grind [tQ]
theorem Ru(z:Array Ql)(s n:Nat)(hs:z.size=s)(_h0:0<s):(madeCells z ((n+2)*s)).toList.drop (n*s)=z.toList++z.toList:=by
 apply List.ext_getElem?;intro i;rw[List.getElem?_drop];unfold madeCells;rw[Array.toList_map,Array.toList_range,Zv];have b:(n+2)*s=n*s+2*s:=Qb;have a:∀i,(n*s+i) % s=i % s:=λi=>Qf;by_cases d:i<2*s
 .grind [Nat.mod_eq_of_lt,List.getElem?_append_right,Nat.mod_eq_sub_mod]
 grind
def aV.jQ(c:aV):JK Value:=[Qq c.not,I J c.op,I J c.left,Qq c.const,I J c.right]
def zc:JK Value:=[Qq F,I J 0,I J 0,Qq F,I J 0]
def ic:JK Value:=[Qq F,I J 77777,I J 0,Qq F,I J 0]
def GY(cs:JK aV):Array Value:=(cs.flatMap aV.jQ++(zc++zc)).toArray
def AJ(cs:JK aV):Array Value:=(cs.flatMap aV.jQ++(ic++zc)).toArray
def iC(cs:JK aV):Array Value:=(cs.flatMap aV.jQ++(ic++ic)).toArray
theorem mJ(c:aV):N c.jQ=5:=rfl
def agf(cs:JK aV):(GY cs)[N cs*5+1]? = O (I J 0):=by unfold GY;rw[Zx,qz _ 5 mJ];rfl
def agh(cs:JK aV):(AJ cs)[(N cs+1)*5+1]? = O (I J 0):=by unfold AJ;rw[Zx,show (N cs+1)*5+1=N cs*5+6 by omega,qz _ 5 mJ];rfl
def acp(cs:JK aV):(GY cs).setIfInBounds (N cs*5+1) (I J 77777)=AJ cs:=by unfold GY AJ;rw[Zp,Fh _ 5 mJ];rfl
def acr(cs:JK aV):(AJ cs).setIfInBounds ((N cs+1)*5+1) (I J 77777)=iC cs:=by unfold AJ iC;rw[Zp,show (N cs+1)*5+1=N cs*5+6 by omega,Fh _ 5 mJ];rfl
def Mi(w:U)(cs:JK aV)(t:TypeId):Qn (w.alloc (Qs (GY cs) t)) (aD (M (H w)) (N cs*5+1)) (I J 77777)=w.alloc (Qs (AJ cs) t):=by rw[mI,acp]
def Mj(w:U)(cs:JK aV)(t:TypeId):Qn (w.alloc (Qs (AJ cs) t)) (aD (M (H w)) ((N cs+1)*5+1)) (I J 77777)=w.alloc (Qs (iC cs) t):=by rw[mI,acr]
def pX(t:af):JK Value:=[I J t.bU,I J t.rows,I J t.k0,I J t.k1,I J t.k2,I J t.k3]
def zt:JK Value:=[I J 0,I J 0,I J 0,I J 0,I J 0,I J 0]
def it:JK Value:=[I J 77777,I J 0,I J 0,I J 0,I J 0,I J 0]
def Mk(ts:JK af):Array Value:=(ts.flatMap pX++(zt++zt)).toArray
def Fj(ts:JK af):Array Value:=(ts.flatMap pX++(it++zt)).toArray
def pF(ts:JK af):Array Value:=(ts.flatMap pX++(it++it)).toArray
theorem mK(t:af):N (pX t)=6:=rfl
def aki(ts:JK af):(Mk ts)[N ts*6]? = O (I J 0):=by unfold Mk;rw[Zx,show (N ts)*6=N ts*6+0 by omega,qz _ 6 mK];rfl
def akj(ts:JK af):(Fj ts)[(N ts+1)*6]? = O (I J 0):=by unfold Fj;rw[Zx,show (N ts+1)*6=N ts*6+6 by omega,qz _ 6 mK];rfl
def agi(ts:JK af):(Mk ts).setIfInBounds (N ts*6) (I J 77777)=Fj ts:=by unfold Mk Fj;rw[Zp,show (N ts)*6=N ts*6+0 by omega,Fh _ 6 mK];rfl
def agj(ts:JK af):(Fj ts).setIfInBounds ((N ts+1)*6) (I J 77777)=pF ts:=by unfold Fj pF;rw[Zp,show (N ts+1)*6=N ts*6+6 by omega,Fh _ 6 mK];rfl
theorem Fp(w:U)(dT elem:TypeId)(s:Nat)(z:Array Ql)(ao:LM)(n cap:Nat)(cs:JK Ql)(hs0:0<s)(hz:z.size=s)(hn:N cs=n*s)
  (hc:∀j,j<n*s->∃b off,ao=O (aD b off)/\Qo w (aD b (off+j))=cs[j]?) (h1:∀v∈cs,v.oneCell' = T)
  (hu:P.underlying dT=O (.slice elem)) (hs:(P.info? elem).map (·.size)=O s) (ty:TypeId) :
  (Builtin.copy_ #[dT,dT] ty #[Z (O (aD (M (H w)) 0)) (n+2) (n+2),Z ao n cap]).run P (w.alloc (Qs (madeCells z ((n+2)*s)) elem)) =
   .ok (goInt n) (w.alloc (Qs (cs++(z.toList++z.toList)).toArray elem)):=by
 have f:(madeCells z ((n+2)*s)).size=(n+2)*s:=size_madeCells z _;rw[Dn (w.alloc (Qs (madeCells z ((n+2)*s)) elem)) dT dT ty elem s (M (H w)) (n+2) (n+2) ao n cap (madeCells z ((n+2)*s)) elem cs hu hs
  (qj _ _) X hn ?_ Qb h1,yF,hn,Ru z s n hz hs0]
 intro k;obtain⟨b,off,rfl,_⟩:=hc 0 X;refine⟨(aD b off),rfl,λj v l=>?_⟩;have a:j<n*s:=by grind
 obtain⟨g,i,e,d⟩:=hc j a;cases e;grind [Fg,sj]
def agk{cs:JK aV}(h:bZ w ao cs):∀j,j<N cs*5->∃b off,ao=O (aD b off)/\Qo w (aD b (off+j))=(cs.flatMap aV.jQ)[j]?:=by
 intro j k;obtain⟨b,off,e,c0,g,c2,c3,c4⟩:=h.2 (j / 5) X;refine⟨b,off,e,?_⟩;have f:=Cn aV.jQ 5 mJ cz cs [] (j / 5) (j % 5) X X;rw[Zy,show j / 5*5+j % 5=j by omega]at f;rw[f];generalize hd:E cs (j / 5) cz=d at*;have i:j % 5<5:=Nat.mod_lt _ X;rcases (by omega:j % 5=0∨j % 5=1∨j % 5=2∨j % 5=3∨j % 5=4) with a|a|a|a|a
 .rw[show off+j=off+j / 5*5 by omega,c0,a];rfl
 .rw[show off+j=off+j / 5*5+1 by omega,g,a];rfl
 .rw[show off+j=off+j / 5*5+2 by omega,c2,a];rfl
 .rw[show off+j=off+j / 5*5+3 by omega,c3,a];rfl
 .rw[show off+j=off+j / 5*5+4 by omega,c4,a];rfl
def agl(cs:JK aV):∀v∈cs.flatMap aV.jQ,v.oneCell' = true:=by intro v b;rw[ZA]at b;obtain⟨c,_,a⟩:=b;simp only[aV.jQ,ZB,List.mem_nil_iff,or_false]at a;rcases a with rfl|rfl|rfl|rfl|rfl <;> rfl
def akk{ts:JK af}(h:aZ w ao ts):∀j,j<N ts*6->∃b off,ao=O (aD b off)/\Qo w (aD b (off+j))=(ts.flatMap pX)[j]?:=by
 intro j k;obtain⟨b,off,e,c0,g,c2,c3,c4,c5⟩:=h.2 (j / 6) X;refine⟨b,off,e,?_⟩;have f:=Cn pX 6 mK tz ts [] (j / 6) (j % 6) X X;rw[Zy,show j / 6*6+j % 6=j by omega]at f;rw[f];generalize hd:E ts (j / 6) tz=d at*;have i:j % 6<6:=Nat.mod_lt _ X;rcases (by omega:j % 6=0∨j % 6=1∨j % 6=2∨j % 6=3∨j % 6=4∨j % 6=5) with a|a|a|a|a|a
 .rw[show off+j=off+j / 6*6 by omega,c0,a];rfl
 .rw[show off+j=off+j / 6*6+1 by omega,g,a];rfl
 .rw[show off+j=off+j / 6*6+2 by omega,c2,a];rfl
 .rw[show off+j=off+j / 6*6+3 by omega,c3,a];rfl
 .rw[show off+j=off+j / 6*6+4 by omega,c4,a];rfl
 .rw[show off+j=off+j / 6*6+5 by omega,c5,a];rfl
def akl(ts:JK af):∀v∈ts.flatMap pX,v.oneCell' = true:=by intro v b;rw[ZA]at b;obtain⟨c,_,a⟩:=b;simp only[pX,ZB,List.mem_nil_iff,or_false]at a;rcases a with rfl|rfl|rfl|rfl|rfl|rfl <;> rfl
def GB(w:U)(G:Nat)(t:TypeId)(c:Array Ql):Prop:=w.heap[G]? = O (Qs c t (0,0))
def bI(w:U)(c:Array Ql)(t:TypeId):∃x,w.alloc (Qs c t)=x/\Bw w x/\GB x (M (H w)) t c:=⟨_,rfl,fo _ _,qj _ _⟩
theorem GB.cell{w:U}{G:Nat}{t:TypeId}{c:Array Ql}(h:GB w G t c)(i:Nat):Qo w (aD G i)=c[i]?:=by unfold GB at h;simp[World.cell?,h]
theorem GB.frozen{w:U}{G:Nat}{t:TypeId}{c:Array Ql}(h:GB w G t c)(i:Nat):w.frozen? (aD G i)=false:=by unfold GB at h;simp[World.frozen?,h]
theorem GB.lt(h:GB w G t c):G<M (H w):=by unfold GB at h;grind
theorem GB.set(h:GB w G t c)(i:Nat)(v:Ql):GB (Qn w (aD G i) v) G t (c.setIfInBounds i v):=by unfold GB at*;rw[setCell_eq_setRow w G i c t (0,0) v h];grind [setRow_heap]
def GB.of(h:GB w G t c)(e:w'.heap[G]? = w.heap[G]?):GB w' G t c:=by unfold GB at*;simp_all
def GB.up(h:GB w G t c)(hb:Bw w w'):GB w' G t c:=h.of (hb.block G h.lt)
def heap_setCell{w:U}{a:Addr}{v:Ql}{k:Nat}(h:k≠a.block):(w.setCell a v).heap[k]? = w.heap[k]?:=Below.heap_setCell _ _ _ _ h
def heap_alloc{w:U}{o:Obj}{k:Nat}(h:k<M (H w)):(w.alloc o).heap[k]? = w.heap[k]?:=Below.heap_alloc _ _ _ h
structure yG(wV w0 wr:U)(G tG tC tA tS n:Nat)(gc:Ql->Ql->Array Ql)(ls:JK aQ)(k:Nat)(v:Ql)(A:Nat->Nat):Prop where
 Dq:Bw wV wr
 oth:∀j,j<M (H w0)->j≠G->wr.heap[j]? = w0.heap[j]?
 siz:M (H w0)<M (H wr)
 g:GB wr G tG (gc (Z (O (aD (M (H w0)) 0)) (n+2) (n+2)) v)
 row:wr.rowIs (M (H w0)) tC (n+2) (λi=>if i<k then Z (O (aD (A i) 0)) (E ls i lz).cs.length ((E ls i lz).cs.length+2) else Z Qr 0 0)
 al:∀i,i<k->M (H w0)<A i/\GB wr (A i) tS (iC (E ls i lz).cs)
 own:wr.ownsRow (M (H w0)) tA 1 v k ((List.range k).map λi=>Z (O (aD (A i) 0)) ((E ls i lz).cs.length+2) ((E ls i lz).cs.length+2))
structure aoB(wV w0 wr w1:U)(G tG tC tS n:Nat)(gc:Ql->Ql->Array Ql)(ls:JK aQ)(k:Nat)(v v':Ql)(A:Nat->Nat)(cs:JK aV):Prop where
 Dq:Bw wV w1
 oth:∀j,j<M (H w0)->j≠G->w1.heap[j]? = w0.heap[j]?
 siz:M (H w0)<M (H w1)
 aDo:M (H w0)<M (H wr)
 g:GB w1 G tG (gc (Z (O (aD (M (H w0)) 0)) (n+2) (n+2)) v)
 row:w1.rowIs (M (H w0)) tC (n+2) (λi=>if i<k then Z (O (aD (A i) 0)) (E ls i lz).cs.length ((E ls i lz).cs.length+2) else Z Qr 0 0)
 al:∀i,i<k->M (H w0)<A i/\GB w1 (A i) tS (iC (E ls i lz).cs)
 new:GB w1 (M (H wr)) tS (iC cs)
 sh:∃g cap,v' = Z (O (aD g 0)) (k+1) cap
theorem yG.mid{ls:JK aQ}{cs:JK aV}{Yq:Obj}{xs:JK Ql}
  (h:yG wV w0 wr G tG tC tA tS n gc ls k v A) (hAC:tA≠tC) (hAS:tA≠tS) (hG:G<M (H w0)) (hGo:M (H wV)<=G)
  (bG:w1.ownsRow (M (H w0)) tA 1 v' (k+1) xs) (_hx:N xs=k+1) (O0:((wr.alloc (Qs (iC cs) tS)).alloc Yq).grownBy w1 v.ownBlock) :
  aoB wV w0 wr w1 G tG tC tS n gc ls k v v' A cs:=by
 have C:=h.own.lt;have p:=h.siz;have e:∀j,j<M (H wr)->O j≠v.ownBlock->w1.heap[j]? = wr.heap[j]?:=λj b l=>by rw[O0.block j Qi l,heap_alloc Qi,heap_alloc b]
 have d:∀j c t,wr.heap[j]? = O (Qs c t (0,0))->t≠tA->O j≠v.ownBlock:=λj c t b D m=>by
  rcases h.own.2 with⟨rfl,_⟩|⟨g,cap,iw,rfl,_,hh,_⟩
  .grind [Value.ownBlock]
  .simp[Value.ownBlock]at m
   simp_all
 have a:∀j,j<M (H w0)->O j≠v.ownBlock:=λj b m=>by grind
 refine⟨?_,λj b l=>?_,?_,p,?_,?_,λi y=>⟨(h.al i y).1,?_⟩,?_,?_⟩
 .have q:=(h.Dq.alloc h.Dq.size (Qs (iC cs) tS))
  have z:=q.alloc q.size Yq;exact z.grown O0 (by have:=h.Dq.size;simp;omega) (λj b=>Qb)
 .rw[e j X (a j b)];exact h.oth j b l
 .have:=O0.size;simp at this;omega
 .exact h.g.of (e G X (a G hG))
 .obtain⟨c,r,B,u⟩:=h.row;exact⟨c,(e _ p (d _ _ _ r (Ne.symm hAC))).trans r,B,u⟩
 .have f:=(h.al i y).2;exact f.of (e _ f.lt (d _ _ _ f (Ne.symm hAS)))
 .show w1.heap[M (H wr)]? = _
  rw[O0.block (M (H wr)) Qi (λm=>Qb),heap_alloc Qa,qj]
 .rcases bG.2 with⟨_,jR⟩|⟨g,cap,iw,u,_⟩
  .omega
  simp_all
theorem aoB.next{ls:JK aQ}{cs:JK aV}
  (Mq:aoB wV w0 wr w1 G tG tC tS n gc ls k v v' A cs) (hgc:∀x y y',(gc x y).setIfInBounds 12 y' = gc x y') (hG:G<M (H w0)) (hGo:M (H wV)<=G) (lH:(E ls k lz).cs=cs)
  (hAC:tA≠tC) (_hAS:tA≠tS) (_hAG:tA≠tG)
  (bG:w1.ownsRow (M (H w0)) tA 1 v' (k+1) (((List.range k).map λi=>Value.slice (O (aD (A i) 0)) ((E ls i lz).cs.length+2) ((E ls i lz).cs.length+2))++[Value.slice (O (aD (M (H wr)) 0)) (N cs+2) (N cs+2)])) :
  yG wV w0 (Qn (Qn w1 (aD G 12) v') (aD (M (H w0)) k) (Z (O (aD (M (H wr)) 0)) (N cs) (N cs+2))).drew G tG tC tA tS n gc ls (k+1) v' (λi=>if i=k then M (H wr) else A i):=by
 have f:=Mq.aDo;have K:=Mq.siz;have r:∀i,i<k->A i≠M (H wr)∨True:=λ_ _=>.inr trivial;have l:∀j,j≠G->j≠M (H w0)->((Qn (Qn w1 (aD G 12) v') (aD (M (H w0)) k) (Z (O (aD (M (H wr)) 0)) (N cs) (N cs+2))).drew).heap[j]? = w1.heap[j]?:=λj b B=>by show (Qn (Qn w1 (aD G 12) v') (aD (M (H w0)) k) _).heap[j]? = _;rw[heap_setCell B,heap_setCell b]
 refine⟨?_,λj P C=>?_,?_,?_,?_,λi D=>?_,?_⟩
 .have t:=Mq.Dq.size;exact((Mq.Dq.setCell (p:=(aD G 12)) hGo v').setCell (p:=(aD (M (H w0)) k)) Qb _).drew
 .rw[l j C X]
  grind [aoB.oth]
 .simp_all
 .have b:=Mq.g.set 12 v';rw[hgc]at b;exact b.of (by show (Qn (Qn w1 (aD G 12) v') (aD (M (H w0)) k) _).heap[G]? = _;rw[heap_setCell Qb])
 .have b:=(Mq.row.setOther (a:=(aD G 12)) Qb v').set k (Z (O (aD (M (H wr)) 0)) (N cs) (N cs+2));refine(b.drew).congr λi D=>?_
  grind
 .by_cases d:i=k
  .subst d;simp only[if_true];refine⟨f,?_⟩;rw[lH];exact Mq.new.of (l _ X X)
  .simp only[d,if_false];have q:=Mq.al i X;exact⟨q.1,q.2.of (l _ X X)⟩
 .have e:((List.range (k+1)).map λi=>Value.slice (O ⟨(λi=>if i=k then M (H wr) else A i) i,0,Qr⟩) ((E ls i lz).cs.length+2) ((E ls i lz).cs.length+2)) =
    (((List.range k).map λi=>Value.slice (O (aD (A i) 0)) ((E ls i lz).cs.length+2) ((E ls i lz).cs.length+2))++[Value.slice (O (aD (M (H wr)) 0)) (N cs+2) (N cs+2)]):=by
   rw[ZG,Q7];congr 1
   .apply ZH
    grind
   simp_all
  rw[e];have u:v'.ownBlock≠O G:=λm=>Qj (bG.lt _ m);have z:v'.ownBlock≠O (M (H w0)):=λm=>by
   obtain⟨c,L,_⟩:=Mq.row;rcases bG.2 with⟨rfl,_⟩|⟨g,cap,iw,rfl,_,hh,_⟩
   .omega
   .simp[Value.ownBlock]at m
    simp_all
  exact(ownsRow_setCell_other (ownsRow_setCell_other bG u v') z _).drew
def ZC:=@GB.cell
def ZE:=@heap_setCell
def ZF:=@heap_alloc
theorem GB.at(h:GB w G t c)(i:Nat)(hv:c.toList[i]? = some v:=by exact rfl):w.cell? (aD G i)=some v:=by grind [GB.cell]
theorem hd(h:p):Qm p:=h
theorem pA(l:JK Ql)(d)(i:Nat)(v:Ql):Act.put { tmps:=l.toArray,defers:=d } (O i) v = { tmps:=(l.set i v).toArray,defers:=d }:=by simp[Act.put]
theorem pU:(∀(l:JK Ql) (d) (i:Nat) (v:Ql),Act.put { tmps:=l.toArray,defers:=d } (O i) v = { tmps:=(l.set i v).toArray,defers:=d })/\(∀{x:Ql} {l:JK Ql} {n:Nat} {a:Ql},(x::l).set (n+1) a=x::l.set n a)/\(∀{x:Ql} {l:JK Ql} {a:Ql},(x::l).set 0 a=a::l):=⟨pA,QX,QY⟩
def wt(i:Nat)(v:Value)(hS:S w)(h:wpAnyH P md ops Q S fuel (aW.setIfInBounds i true) (a.put oi.dst v) w)(hi:ops[i]? = some oi:=by exact rfl)(hs:Region.noSelect ops=true:=by kernel_rfl)(hf:Region.free md ops aW i=true:=by kernel_rfl)(hr:(Region.ready md ops aW).contains i=true:=by kernel_rfl)(hQ:∀c a w,Q (.panic c) (a.put oi.dst v) w->Q (.panic c) a w:=by exact λ_ _ _ h=>h)(hg:Region.wanted oi (yielded ops a.tmps)=true:=by rfl)(hy:∀x,S x->(execOp a.eval oi).run P x=.ok (.value v) x:=by intro x b;go_simp):wpAnyH P md ops Q S (fuel+1) aW a w:=
 QW hi hs hf hr hQ (.inl ⟨hg,hy⟩) hS h
def wg(i:Nat)(v:Value)(hS:S w)(h:wpAnyH P md ops Q S fuel (aW.setIfInBounds i true) (a.put oi.dst v) w)(hi:ops[i]? = some oi:=by exact rfl)(hs:Region.noSelect ops=true:=by kernel_rfl)(hf:Region.free md ops aW i=true:=by kernel_rfl)(hr:(Region.ready md ops aW).contains i=true:=by kernel_rfl)(hQ:∀c a w,Q (.panic c) (a.put oi.dst v) w->Q (.panic c) a w:=by exact λ_ _ _ h=>h)(hg:Region.wanted oi (yielded ops a.tmps)=true:=by kernel_rfl)(hy:∀x,S x->(execOp a.eval oi).run P x=.ok (.value v) x:=by intro x b;go_simp):wpAnyH P md ops Q S (fuel+1) aW a w:=
 QW hi hs hf hr hQ (.inl ⟨hg,hy⟩) hS h
def wn(i:Nat)(v:Value)(hS:S w)(h:wpAnyH P md ops Q S fuel (aW.setIfInBounds i true) (a.put oi.dst v) w)(hi:ops[i]? = some oi:=by exact rfl)(hs:Region.noSelect ops=true:=by kernel_rfl)(hf:Region.free md ops aW i=true:=by kernel_rfl)(hr:(Region.ready md ops aW).contains i=true:=by kernel_rfl)(hQ:∀c a w,Q (.panic c) (a.put oi.dst v) w->Q (.panic c) a w:=by exact λ_ _ _ h=>by cases h.1)(hg:Region.wanted oi (yielded ops a.tmps)=true:=by rfl)(hy:∀x,S x->(execOp a.eval oi).run P x=.ok (.value v) x:=by intro x b;go_simp):wpAnyH P md ops Q S (fuel+1) aW a w:=
 QW hi hs hf hr hQ (.inl ⟨hg,hy⟩) hS h
def wtc{o:Nat}{u:Value}(i:Nat)(v:Value)(hS:Bw W w)(c:W.cell? (aD b o)=some u)(h:wpAnyH P md ops Q (λx=>Bw W x) fuel (aW.setIfInBounds i true) (a.put oi.dst v) w)(hi:ops[i]? = some oi:=by exact rfl)(hs:Region.noSelect ops=true:=by kernel_rfl)(hf:Region.free md ops aW i=true:=by kernel_rfl)(hr:(Region.ready md ops aW).contains i=true:=by kernel_rfl)(hQ:∀c a w,Q (.panic c) (a.put oi.dst v) w->Q (.panic c) a w:=by exact λ_ _ _ h=>h)(hg:Region.wanted oi (yielded ops a.tmps)=true:=by rfl)(hy:∀x,x.cell? (aD b o)=some u->(execOp a.eval oi).run P x=.ok (.value v) x:=by intro x d;go_simp):wpAnyH P md ops Q (λx=>Bw W x) (fuel+1) aW a w:=
 QW hi hs hf hr hQ (.inl ⟨hg,λx d=>hy x (cB d c)⟩) hS h
def IsV(_:Ql):Prop:=True
def awS{p:Ql->Prop}(_:IsV v)(h:p v):∃x,p x:=⟨v,h⟩
theorem GB.k2(h:GB w G t c)(e:c.toList.take 2=[v0,v1]:=by exact rfl):w.cell? (aD G 0)=some v0/\w.cell? (aD G 1)=some v1:=by have r:∀i,i<2->c.toList[i]? = ([v0,v1]:JK Value)[i]?:=λi a=>Qb;grind [GB.at]
theorem GB.k3(h:GB w G t c)(e:c.toList.take 3=[v0,v1,v2]:=by exact rfl):w.cell? (aD G 0)=some v0/\w.cell? (aD G 1)=some v1/\w.cell? (aD G 2)=some v2:=by have r:∀i,i<3->c.toList[i]? = ([v0,v1,v2]:JK Value)[i]?:=λi a=>Qb;grind [GB.at]
theorem GB.k4(h:GB w G t c)(e:c.toList.take 4=[v0,v1,v2,v3]:=by exact rfl):w.cell? (aD G 0)=some v0/\w.cell? (aD G 1)=some v1/\w.cell? (aD G 2)=some v2/\w.cell? (aD G 3)=some v3:=by have r:∀i,i<4->c.toList[i]? = ([v0,v1,v2,v3]:JK Value)[i]?:=λi a=>Qb;grind [GB.at]
theorem GB.k5(h:GB w G t c)(e:c.toList.take 5=[v0,v1,v2,v3,v4]:=by exact rfl):w.cell? (aD G 0)=some v0/\w.cell? (aD G 1)=some v1/\w.cell? (aD G 2)=some v2/\w.cell? (aD G 3)=some v3/\w.cell? (aD G 4)=some v4:=by have r:∀i,i<5->c.toList[i]? = ([v0,v1,v2,v3,v4]:JK Value)[i]?:=λi a=>Qb;exact⟨h.at 0 (r 0 Qc),h.at 1 (r 1 Qc),h.at 2 (r 2 Qc),h.at 3 (r 3 Qc),h.at 4 (r 4 Qc)⟩
theorem GB.k6(h:GB w G t c)(e:c.toList.take 6=[v0,v1,v2,v3,v4,v5]:=by exact rfl):w.cell? (aD G 0)=some v0/\w.cell? (aD G 1)=some v1/\w.cell? (aD G 2)=some v2/\w.cell? (aD G 3)=some v3/\w.cell? (aD G 4)=some v4/\w.cell? (aD G 5)=some v5:=by have r:∀i,i<6->c.toList[i]? = ([v0,v1,v2,v3,v4,v5]:JK Value)[i]?:=λi a=>Qb;exact⟨h.at 0 (r 0 Qc),h.at 1 (r 1 Qc),h.at 2 (r 2 Qc),h.at 3 (r 3 Qc),h.at 4 (r 4 Qc),h.at 5 (r 5 Qc)⟩
theorem GB.k7(h:GB w G t c)(e:c.toList.take 7=[v0,v1,v2,v3,v4,v5,v6]:=by exact rfl):w.cell? (aD G 0)=some v0/\w.cell? (aD G 1)=some v1/\w.cell? (aD G 2)=some v2/\w.cell? (aD G 3)=some v3/\w.cell? (aD G 4)=some v4/\w.cell? (aD G 5)=some v5/\w.cell? (aD G 6)=some v6:=by have r:∀i,i<7->c.toList[i]? = ([v0,v1,v2,v3,v4,v5,v6]:JK Value)[i]?:=λi a=>Qb;exact⟨h.at 0 (r 0 Qc),h.at 1 (r 1 Qc),h.at 2 (r 2 Qc),h.at 3 (r 3 Qc),h.at 4 (r 4 Qc),h.at 5 (r 5 Qc),h.at 6 (r 6 Qc)⟩
theorem GB.k8(h:GB w G t c)(e:c.toList.take 8=[v0,v1,v2,v3,v4,v5,v6,v7]:=by exact rfl):w.cell? (aD G 0)=some v0/\w.cell? (aD G 1)=some v1/\w.cell? (aD G 2)=some v2/\w.cell? (aD G 3)=some v3/\w.cell? (aD G 4)=some v4/\w.cell? (aD G 5)=some v5/\w.cell? (aD G 6)=some v6/\w.cell? (aD G 7)=some v7:=by have r:∀i,i<8->c.toList[i]? = ([v0,v1,v2,v3,v4,v5,v6,v7]:JK Value)[i]?:=λi a=>Qb;exact⟨h.at 0 (r 0 Qc),h.at 1 (r 1 Qc),h.at 2 (r 2 Qc),h.at 3 (r 3 Qc),h.at 4 (r 4 Qc),h.at 5 (r 5 Qc),h.at 6 (r 6 Qc),h.at 7 (r 7 Qc)⟩
theorem GB.k9(h:GB w G t c)(e:c.toList.take 9=[v0,v1,v2,v3,v4,v5,v6,v7,v8]:=by exact rfl):w.cell? (aD G 0)=some v0/\w.cell? (aD G 1)=some v1/\w.cell? (aD G 2)=some v2/\w.cell? (aD G 3)=some v3/\w.cell? (aD G 4)=some v4/\w.cell? (aD G 5)=some v5/\w.cell? (aD G 6)=some v6/\w.cell? (aD G 7)=some v7/\w.cell? (aD G 8)=some v8:=by have r:∀i,i<9->c.toList[i]? = ([v0,v1,v2,v3,v4,v5,v6,v7,v8]:JK Value)[i]?:=λi a=>Qb;exact⟨h.at 0 (r 0 Qc),h.at 1 (r 1 Qc),h.at 2 (r 2 Qc),h.at 3 (r 3 Qc),h.at 4 (r 4 Qc),h.at 5 (r 5 Qc),h.at 6 (r 6 Qc),h.at 7 (r 7 Qc),h.at 8 (r 8 Qc)⟩
theorem GB.vV(h:GB w G t c)(e:c.toList.take 13=[v0,v1,v2,v3,v4,v5,v6,v7,v8,v9,fO,fP,fQ]:=by exact rfl):w.cell? (aD G 0)=some v0/\w.cell? (aD G 1)=some v1/\w.cell? (aD G 2)=some v2/\w.cell? (aD G 3)=some v3/\w.cell? (aD G 4)=some v4/\w.cell? (aD G 5)=some v5/\w.cell? (aD G 6)=some v6/\w.cell? (aD G 7)=some v7/\w.cell? (aD G 8)=some v8/\w.cell? (aD G 9)=some v9/\w.cell? (aD G 10)=some fO/\w.cell? (aD G 11)=some fP/\w.cell? (aD G 12)=some fQ:=by have r:∀i,i<13->c.toList[i]? = ([v0,v1,v2,v3,v4,v5,v6,v7,v8,v9,fO,fP,fQ]:JK Value)[i]?:=λi a=>Qb;exact⟨h.at 0 (r 0 Qc),h.at 1 (r 1 Qc),h.at 2 (r 2 Qc),h.at 3 (r 3 Qc),h.at 4 (r 4 Qc),h.at 5 (r 5 Qc),h.at 6 (r 6 Qc),h.at 7 (r 7 Qc),h.at 8 (r 8 Qc),h.at 9 (r 9 Qc),h.at 10 (r 10 Qc),h.at 11 (r 11 Qc),h.at 12 (r 12 Qc)⟩
theorem pV:(∀(a:Act) (i:Nat) (v:Ql),Act.put a (O i) v = { a with tmps:=a.tmps.setIfInBounds i v })/\(∀(a:Act) (v:Ql),Act.put a Qr v=a)/\(∀{l:JK Ql} {i:Nat} (h:i<l.toArray.size),l.toArray[i]=l[i]'(by simpa using h))/\(∀{x:Ql} {l:JK Ql} {i:Nat} (h:i+1<N (x::l)),(x::l)[i+1]=l[i]'(Nat.lt_of_succ_lt_succ h))/\(∀{x:Ql} {l:JK Ql} (h:0<N (x::l)),(x::l)[0]=x)/\(∀{l:JK Ql} {i:Nat} {a:Ql},l.toArray.setIfInBounds i a=(l.set i a).toArray)/\(∀{x:Ql} {l:JK Ql} {n:Nat} {a:Ql},(x::l).set (n+1) a=x::l.set n a)/\(∀{x:Ql} {l:JK Ql} {a:Ql},(x::l).set 0 a=a::l):=
 ⟨λ_ _ _=>rfl,λ_ _=>rfl,λ_=>rfl,λ_=>rfl,λ_=>rfl,Zp ..,QX,QY⟩
def wH{id:Nat}(w:World)(h:Bw w w.drew->wpAnyH P .any ops Q (λx=>Bw w x) ops.size (Array.replicate ops.size false) a w.drew)(hm:P.follows .mixedOrders=true:=by kernel_rfl):(Code.region id ops true).wp P Q a w:=
 ZI hm ((Za _ _).drew) h
def wD(h:Q .normal a w)(hr:Region.ready md ops aW=[]:=by kernel_rfl):wpAnyH P md ops Q S fuel aW a w:=wpAnyH_done hr h fuel
def oT(hK:Shut (∀a w,Bw W w->(Bw W w->Xq a w)->K' a w))(hS:Bw W w)(hb:Bw w w')(h:Bw W w'->Xq a w'):K' a w':=hK.o _ _ (hS.trans (hb.mono hS.size)) h
def oA(hK:Shut (∀a w,Bw W w->(Bw W w->Xq a w)->K' a w)){o:Obj}(hS:Bw W w)(h:Bw W (w.alloc o)->Xq a (w.alloc o)):K' a (w.alloc o):=hK.o _ _ (hS.trans ((fo _ _).mono hS.size)) h
def wJ{oj:Oper}(i j:Nat)(h:∀K':Act->World->Prop,Shut (∀a w,S w->(S w->wpAnyH P md ops Q S fuel (aW.setIfInBounds i true) a w)->K' a w)->if Region.wanted oi (yielded ops a.tmps)=true then Oper.wp P oi a w K' Q else K' (a.put oi.dst undef) w)(h2:∀K':Act->World->Prop,Shut (∀a w,S w->(S w->wpAnyH P md ops Q S fuel (aW.setIfInBounds j true) a w)->K' a w)->if Region.wanted oj (yielded ops a.tmps)=true then Oper.wp P oj a w K' Q else K' (a.put oj.dst undef) w)(hi:ops[i]? = some oi:=by exact rfl)(hj:ops[j]? = some oj:=by exact rfl)(hr:Region.ready md ops aW=[i,j]:=by kernel_rfl):wpAnyH P md ops Q S (fuel+1) aW a w:=
 wpAnyH_ready hr Qa (AllReadyH.cons hi h (AllReadyH.cons hj h2 AllReadyH.nil))
def Zh(h:p):Qm p:=h
def bH(a0:p0)(a1:p1):Qm p0/\Qm p1:=⟨a0,a1⟩
def lX(a0:p0)(a1:p1)(a2:p2):Qm p0/\Qm p1/\Qm p2:=⟨a0,a1,a2⟩
def De(a0:p0)(a1:p1)(a2:p2)(a3:p3):Qm p0/\Qm p1/\Qm p2/\Qm p3:=⟨a0,a1,a2,a3⟩
def Wu(a0:p0)(a1:p1)(a2:p2)(a3:p3)(a4:p4):Qm p0/\Qm p1/\Qm p2/\Qm p3/\Qm p4:=⟨a0,a1,a2,a3,a4⟩
def asK(a0:p0)(a1:p1)(a2:p2)(a3:p3)(a4:p4)(a5:p5):Qm p0/\Qm p1/\Qm p2/\Qm p3/\Qm p4/\Qm p5:=⟨a0,a1,a2,a3,a4,a5⟩
def aDq{p6:Prop}(a0:p0)(a1:p1)(a2:p2)(a3:p3)(a4:p4)(a5:p5)(a6:p6):Qm p0/\Qm p1/\Qm p2/\Qm p3/\Qm p4/\Qm p5/\Qm p6:=⟨a0,a1,a2,a3,a4,a5,a6⟩
structure akv(wV w0 w':U)(G tG tC tA tS n:Nat)(gc:Ql->Ql->Ql->Array Ql)(ls:JK aQ)(v:Ql)(A:Nat->Nat)(b1 b2:Nat):Prop where
 Dq:Bw wV w'
 oth:∀j,j<M (H w0)->j≠G->w'.heap[j]? = w0.heap[j]?
 siz:M (H w0)<M (H w')
 g:GB w' G tG (gc (Z (O (aD (M (H w0)) 0)) n (n+2)) (Z (O (aD (M (H w0)) 0)) (n+2) (n+2)) v)
 row:w'.rowIs (M (H w0)) tC (n+2) (λi=>if i<n then Z (O (aD (A i) 0)) (E ls i lz).cs.length ((E ls i lz).cs.length+2) else if i=n then Z (O (aD b1 0)) 1 1 else Z (O (aD b2 0)) 1 1)
 al:∀i,i<n->M (H w0)<A i/\GB w' (A i) tS (iC (E ls i lz).cs)
 own:w'.ownsRow (M (H w0)) tA 1 v n ((List.range n).map λi=>Z (O (aD (A i) 0)) ((E ls i lz).cs.length+2) ((E ls i lz).cs.length+2))
 k1:M (H w0)<b1/\GB w' b1 tS ic.toArray
 k2:M (H w0)<b2/\GB w' b2 tS ic.toArray
theorem yG.fin{gc':Ql->Ql->Ql->Array Ql}{ls:JK aQ}
  (h:yG wV w0 wr G tG tC tA tS n gc ls n v A) (hgc:∀x y z,(gc y z).setIfInBounds 2 x=gc' x y z) (hG:G<M (H w0)) (hGo:M (H wV)<=G) (hAC:tA≠tC) :
  akv wV w0 (((Qn (Qn (Qn wr (aD (M (H w0)) n) (Z (O (aD (M (H wr)) 0)) 1 1)) (aD (M (H w0)) (n+1)) (Z (O (aD (M (H wr)+1) 0)) 1 1)) (aD G 2) (Z (O (aD (M (H w0)) 0)) n (n+2))).alloc
   (Qs ic.toArray tS)).alloc (Qs ic.toArray tS)) G tG tC tA tS n gc' ls v A (M (H wr)) (M (H wr)+1):=by
 have Q:=h.siz
 let b:=Qn (Qn (Qn wr (aD (M (H w0)) n) (Z (O (aD (M (H wr)) 0)) 1 1)) (aD (M (H w0)) (n+1)) (Z (O (aD (M (H wr)+1) 0)) 1 1)) (aD G 2) (Z (O (aD (M (H w0)) 0)) n (n+2))
 have l:M (H b)=M (H wr):=by simp[b]
 have d:∀j,j≠G->j≠M (H w0)->b.heap[j]? = wr.heap[j]?:=λj e f=>by show (Qn (Qn (Qn wr (aD (M (H w0)) n) _) (aD (M (H w0)) (n+1)) _) (aD G 2) _).heap[j]? = _;rw[ZE e,ZE f,ZE f]
 have t:∀j,j<M (H wr)->((b.alloc (Qs ic.toArray tS)).alloc (Qs ic.toArray tS)).heap[j]? = b.heap[j]?:=λj m=>by rw[ZF (by simp[l];omega),ZF X]
 have u:∀j,j<M (H wr)->j≠G->j≠M (H w0)->((b.alloc (Qs ic.toArray tS)).alloc (Qs ic.toArray tS)).heap[j]? = wr.heap[j]?:=λj m e f=>(t j m).trans (d j e f);show akv wV w0 ((b.alloc (Qs ic.toArray tS)).alloc (Qs ic.toArray tS)) G tG tC tA tS n gc' ls v A (M (H wr)) (M (H wr)+1);have k:Bw wV b:=((h.Dq.setCell (p:=(aD (M (H w0)) n)) Qb _).setCell (p:=(aD (M (H w0)) (n+1))) Qb _).setCell (p:=(aD G 2)) hGo _;refine⟨?_,λj m D=>?_,?_,?_,?_,λi K=>?_,?_,⟨X,?_⟩,⟨X,?_⟩⟩
 .have B:=k.alloc k.size (Qs ic.toArray tS);exact B.alloc B.size _
 .rw[u j X D X];exact h.oth j m D
 .grind
 .have e:GB (Qn (Qn wr (aD (M (H w0)) n) (Z (O (aD (M (H wr)) 0)) 1 1)) (aD (M (H w0)) (n+1)) (Z (O (aD (M (H wr)+1) 0)) 1 1)) G tG (gc (Z (O (aD (M (H w0)) 0)) (n+2) (n+2)) v):=
   h.g.of (by rw[ZE Qb,ZE Qb])
  have f:=e.set 2 (Z (O (aD (M (H w0)) 0)) n (n+2));rw[hgc]at f;exact GB.of (w:=b) f (t G X)
 .have e:=((h.row.set n (Z (O (aD (M (H wr)) 0)) 1 1)).set (n+1) (Z (O (aD (M (H wr)+1) 0)) 1 1)).setOther (a:=(aD G 2)) Qb (Z (O (aD (M (H w0)) 0)) n (n+2));refine((e.alloc _).alloc _).congr λi K=>?_
  by_cases P:i<n
  .simp only[Zk (show ¬i=n+1 by omega),Zk (show ¬i=n by omega),Zd P]
  .by_cases W:i=n
   .simp_all
   .have R:i=n+1:=X
    simp_all
 .have r:=h.al i K;exact⟨r.1,r.2.of (u _ r.2.lt X X)⟩
 .have L:v.ownBlock≠O G:=λq=>Qj (h.own.lt _ q)
  have C:v.ownBlock≠O (M (H w0)):=λq=>by
   obtain⟨c,S,_⟩:=h.row;rcases h.own.2 with⟨rfl,_⟩|⟨g,cap,iw,rfl,_,hh,_⟩
   .simp[Value.ownBlock]at q
   .simp[Value.ownBlock]at q
    simp_all
  exact((ownsRow_setCell_other (ownsRow_setCell_other (ownsRow_setCell_other h.own C _) C _) L _).alloc _).alloc _
 .show ((b.alloc (Qs ic.toArray tS)).alloc (Qs ic.toArray tS)).heap[M (H wr)]? = _
  rw[ZF (by simp[l]),<-l,qj]
 .show ((b.alloc (Qs ic.toArray tS)).alloc (Qs ic.toArray tS)).heap[M (H wr)+1]? = _
  have:M (H wr)+1=M (H (b.alloc (Qs ic.toArray tS))):=by simp[l]
  rw[this,qj]
def yG.start{ls:JK aQ}
  (hb:Bw wV w) (hGo:M (H wV)<=G) (hG:GB w G tG c) (hgc:c.setIfInBounds 11 (Z (O (aD (M (H w)) 0)) (n+2) (n+2))=gc (Z (O (aD (M (H w)) 0)) (n+2) (n+2)) (Z Qr 0 0)) :
  yG wV w ((Qn w (aD G 11) (Z (O (aD (M (H w)) 0)) (n+2) (n+2))).alloc (Qs (madeCells #[Z Qr 0 0] (n+2)) tC)) G tG tC tA tS n gc ls 0 (Z Qr 0 0) (λ_=>0):=by
 have f:=hG.lt;have b:=hb.setCell (p:=(aD G 11)) hGo (Z (O (aD (M (H w)) 0)) (n+2) (n+2));refine⟨b.alloc b.size _,λj g d=>?_,Qa,?_,?_,λi e=>absurd e X,XC _ _ _ _⟩
 .rw[ZF Qf,ZE d]
 .have a:=hG.set 11 (Z (O (aD (M (H w)) 0)) (n+2) (n+2));rw[hgc]at a;exact a.of (ZF Qf)
 .have a:=World.rowIs_made (Qn w (aD G 11) (Z (O (aD (M (H w)) 0)) (n+2) (n+2))) (Z Qr 0 0) (n+2) tC
  simp_all
structure VY(w w2:U)(G tG:Nat)(c:Array Ql)(bs:JK (Nat × Obj)):Prop where
 Dq:Bw w w2
 lo:M (H w)<=G
 g:GB w2 G tG c
 bs:∀p,p∈bs->p.1≠G/\M (H w)<=p.1/\w2.heap[p.1]? = O p.2
def VY.store(h:VY w w2 G tG c bs)(i:Nat)(v:Ql):VY w (Qn w2 (aD G i) v) G tG (c.setIfInBounds i v) bs:=
 ⟨h.Dq.setCell (p:=(aD G i)) h.lo v,h.lo,h.g.set i v,λp a=>⟨(h.bs p a).1,(h.bs p a).2.1,(ZE (h.bs p a).1).trans (h.bs p a).2.2⟩⟩
def VY.alloc{w w2:U}{G tG:Nat}{c:Array Ql}{bs:JK (Nat × Obj)}(h:VY w w2 G tG c bs)(o:Obj):VY w (w2.alloc o) G tG c ((M (H w2),o)::bs):=by
 have d:=h.g.lt;refine⟨h.Dq.alloc h.Dq.size o,h.lo,h.g.of (ZF d),λp b=>?_⟩;rcases ZB.1 b with rfl|b
 .exact⟨X,h.Dq.size,qj w2 o⟩
 .have a:=h.bs p b;exact⟨a.1,a.2.1,(ZF (Xx.1 a.2.2).1).trans a.2.2⟩
def VY.move{w3:U}{c':Array Ql}(h:VY w w2 G tG c bs)(hb:Bw w w3)(ho:∀j,j<M (H w2)->j≠G->w3.heap[j]? = w2.heap[j]?)(hg:GB w3 G tG c'):VY w w3 G tG c' bs:=
 ⟨hb,h.lo,hg,λp a=>⟨(h.bs p a).1,(h.bs p a).2.1,(ho p.1 (Xx.1 (h.bs p a).2.2).1 (h.bs p a).1).trans (h.bs p a).2.2⟩⟩
theorem VY.at(h:VY w w2 G tG c bs){t:Nat}{d:Array Ql}(hm:(b,Obj.cells d t (0,0))∈bs):GB w2 b t d:=(h.bs _ hm).2.2
def VY.start(w:U)(o:Obj)(c:Array Ql)(tG:Nat)(k:Obj):VY w (((w.alloc o).alloc (Qs c tG)).alloc k) (M (H w)+1) tG c [(M (H w)+2,k),(M (H w),o)]:=by
 have b:M (H (w.alloc o))=M (H w)+1:=Qa;have d:VY w ((w.alloc o).alloc (Qs c tG)) (M (H w)+1) tG c [(M (H w),o)]:=by
  refine⟨aO (fo _ _) (fo _ _),X,?_,λp a=>?_⟩
  .show ((w.alloc o).alloc (Qs c tG)).heap[M (H w)+1]? = _
   rw[<-b,qj]
  .rw[XH]at a;subst a;exact⟨X,Zb _,(ZF X).trans (qj w o)⟩
 have e:=d.alloc k;simp_all
def qX{base qY:Nat}{e:TypeId}{size:Nat}{xs:JK Ql}(h:w.ownsRow base e size v n xs)(hb:qY<=base)(ho:∀j,base<=j->j<M (H w)->w'.heap[j]? = w.heap[j]?):w'.ownsRow qY e size v n xs:=by
 obtain⟨k,a⟩:=h;refine⟨k,?_⟩;rcases a with a|⟨g,cap,f,i,b,d,r⟩
 .simp_all
 .exact Or.inr ⟨g,cap,f,i,ZU hb b,(ho g b (Xx.1 d).1).trans d,r⟩
def zn:JK Value:=[I J 0,I J 0,I J 0,I J 0,Z Qr 0 0,I J 0,Z Qr 0 0]
def nk:JK Value:=[I J 77777,I J 0,I J 0,I J 0,Z Qr 0 0,I J 0,Z Qr 0 0]
structure Giv(w w':U)(G tG tC tA tS tI tT tN tR tL:Nat)(ts:JK af)(q:ae)(bc bf bk bu be bo bw bp bd:Nat)(v:Ql)(A:Nat->Nat)(k1 k2 s1 i1 s2 i2:Nat):Prop where
 Dq:Bw w w'
 lo:M (H w)<=G
 g:GB w' G tG #[Z (O (aD bc 0)) (N ts) (N ts+2),Z (O (aD bf 0)) (N q.au.xs) (N q.au.xs+2),Z (O (aD bw 0)) (N q.wh) (N q.wh+2),Qq q.aF,
  Z (O (aD bk 0)) (N q.aC.xs) (N q.aC.xs+2),Z (O (aD bu 0)) (N q.aM.xs) (N q.aM.xs+2),Z (O (aD be 0)) (N q.bA.xs) (N q.bA.xs+2),Z (O (aD bo 0)) (N q.ord.xs) (N q.ord.xs+2),
  Z (O (aD bp 0)) 0 2,Z (O (aD bd 0)) 0 2,Z (O (aD bc 0)) (N ts+2) (N ts+2),Z (O (aD bw 0)) (N q.wh+2) (N q.wh+2),v,Z (O (aD bp 0)) 2 2,Z (O (aD bd 0)) 2 2,Z Qr 0 0]
 qP:GB w' bc tT (pF ts)
 au:GB w' bf tI (gF q.au.xs)
 aC:GB w' bk tI (gF q.aC.xs)
 aM:GB w' bu tI (gF q.aM.xs)
 bA:GB w' be tI (gF q.bA.xs)
 ord:GB w' bo tI (gF q.ord.xs)
 row:w'.rowIs bw tC (N q.wh+2) (λi=>if i<N q.wh then Z (O (aD (A i) 0)) (E q.wh i lz).cs.length ((E q.wh i lz).cs.length+2) else if i=N q.wh then Z (O (aD k1 0)) 1 1 else Z (O (aD k2 0)) 1 1)
 al:∀i,i<N q.wh->GB w' (A i) tS (iC (E q.wh i lz).cs)
 own:w'.ownsRow (M (H w)) tA 1 v (N q.wh) ((List.range (N q.wh)).map λi=>Z (O (aD (A i) 0)) ((E q.wh i lz).cs.length+2) ((E q.wh i lz).cs.length+2))
 h1:GB w' k1 tS ic.toArray
 h2:GB w' k2 tS ic.toArray
 plan:GB w' bp tN (nk++nk).toArray
 db:GB w' bd tR #[Z (O (aD s1 0)) 1 1,Z (O (aD s2 0)) 1 1]
 r1:GB w' s1 tL #[Z (O (aD i1 0)) 1 1]
 r2:GB w' s2 tL #[Z (O (aD i2 0)) 1 1]
 q1:GB w' i1 tI #[I J 77777]
 q2:GB w' i2 tI #[I J 77777]
 fr:M (H w)<=bc/\M (H w)<=bf/\M (H w)<=bk/\M (H w)<=bu/\M (H w)<=be/\M (H w)<=bo
 fa:∀i,i<N q.wh->M (H w)<=A i
def bn(l:IC):Nat:=l.foldl (λm n=>m|||2 ^ n.toNat) 0
theorem agn(l:IC)(x:Int):bn (l++[x])=bn l|||2 ^ x.toNat:=by grind [bn]
theorem agp(l:IC):∀(m i:Nat),(∀x∈l,0<=x)->(l.foldl (λm n=>m|||2 ^ n.toNat) m).testBit i=(m.testBit i ||decide ((i:Int)∈l)):=by
 induction l with
 |nil=>simp_all
 |cons a l ih =>
  intro m i h;have ha:=h a Qa;rw[ZL,ih _ _ (λx hx=>h x (by simp[hx])),Nat.testBit_or,Nat.testBit_two_pow,Bool.or_assoc];grind
theorem Ml{l:IC}(h:∀x∈l,0<=x)(i:Nat):(bn l).testBit i=decide ((i:Int)∈l):=by grind [bn,agp]
theorem uL:∀{l:IC},(∀x∈l,0<=x/\x<n)->bn l<2 ^ n:=λ{l} h=>by apply Nat.lt_pow_two_of_testBit;grind [Ml]
theorem Fs{a:Nat}(hb:b<18446744073709551616)(i:Nat)(hi:i<64):(a &&& (18446744073709551615-b)).testBit i=(a.testBit i && !b.testBit i):=by have e:18446744073709551615-b=2 ^ 64-(b+1):=X;rw[Nat.testBit_and,e,Nat.testBit_two_pow_sub_succ X];simp[hi]
theorem Mm{a:Nat}(ha:a<18446744073709551616)(hb:b<18446744073709551616):(b &&& (18446744073709551615-a)=0)↔∀i,b.testBit i=T->a.testBit i=true:=by
 constructor
 .intro h i f;have d:i<64:=by
   have e:b<2 ^ 64:=X;by_cases g:i<64
   .exact g
   .rw[ZN (ZO e (ZP X X))]at f
    cases f
  have j:=Fs (a:=b) ha i d;simp_all
 .intro h;apply ZQ;intro i;rw[Nat.zero_testBit];by_cases f:i<64
  .grind [Fs]
  .have e:b<2 ^ 64:=X
   rw[Nat.testBit_and,ZN (x:=b) (ZO e (ZP X X))];rfl
theorem agq{a:Nat}:(a &&& b≠0)↔∃i,a.testBit i=T/\b.testBit i=true:=by
 constructor
 .intro h;by_cases d:∃i,a.testBit i=T/\b.testBit i=T
  .exact d
  .exfalso;apply h;apply ZQ
   simp_all
 .rintro⟨i,f,g⟩ h;have e:(a &&& b).testBit i=true:=Qb
  simp_all
def agr(n i:Nat):(2 ^ n-1).testBit i=decide (i<n):=Nat.testBit_two_pow_sub_one n i
def ZM:=@Ml
def bO:Nat:=18446744073709551615
def cO(a b:Nat):Nat:=min (a+b) bO
def bQ(a b:Nat):Nat:=min (a*b) bO
def xC(a b:Nat):cO a b<=bO:=Nat.min_le_right _ _
def nV(a b:Nat):bQ a b<=bO:=Nat.min_le_right _ _
theorem akp{a:Nat}(hb:b<=bO):cO a b=if a > bO-b then bO else a+b:=by grind [cO]
theorem Mo(a b:Nat):cO a b=cO b a:=by grind [cO]
theorem qA(a b c:Nat):cO (cO a b) c=cO a (cO b c):=by grind [cO]
def kQ(l:JK Nat):Nat:=l.foldl cO 0
theorem Wv:∀(l:JK Nat) (m:Nat),m<=bO->l.foldl cO m=min (m+l.sum) bO
 |[],m,h=>Qf
 |a::l,m,_=>by rw[ZL,Wv l _ (xC _ _),List.sum_cons];grind [cO]
theorem yH(l:JK Nat):kQ l=min l.sum bO:=by unfold kQ;rw[Wv l 0 (ZR _),ZT]
theorem ags{a:Nat}(ha:a≠0):bQ a b=if b > bO / a then bO else a*b:=by grind [bQ,Nat.div_lt_iff_lt_mul]
def IV(b:Nat):bQ 0 b=0:=by unfold bQ;omega
theorem Ww{x c:Nat}(hc:1<=c):min (min x bO*c) bO=min (x*c) bO:=by
 by_cases h:x<=bO
 .simp_all
 .have a:bO<=x:=X
  rw[Nat.min_eq_right a];have b:bO*1<=bO*c:=Nat.mul_le_mul_left _ hc;have d:bO*c<=x*c:=Nat.mul_le_mul_right _ a;omega
theorem Wy:∀(l:JK Nat) (m:Nat),m<=bO->(∀x∈l,1<=x)->l.foldl bQ m=min (m*l.foldl (· * ·) 1) bO
 |[],m,h,_=>Qf
 |a::l,m,_,hl=>by
  have key:∀(l:JK Nat) (k:Nat),l.foldl (· * ·) k=k*l.foldl (· * ·) 1:=by
   intro l
   induction l with
   |nil=>intro k;simp
   |cons b l ih =>
    grind
  have pos:∀(l:JK Nat),(∀x∈l,1<=x)->1<=l.foldl (· * ·) 1:=by
   intro l
   induction l with
   |nil=>grind
   |cons b l ih =>
    intro h;rw[ZL,key,Nat.one_mul];have h1:=h b Qa;have h2:=ih (λx hx=>h x (by simp[hx]));exact ZU X (Nat.mul_le_mul h1 h2)
  have ht:=λx hx=>hl x (ZV a hx);rw[ZL,Wy l _ (nV _ _) ht,ZL,key l (1*a),Nat.one_mul];grind [bQ,Ww]
def jY(v:Nat):Nat:=if v=0 then 0 else jY (v / 2)+1
def sw:jY 0=0:=by rw[jY];rfl
theorem xD{v:Nat}(h:0<v):jY v=jY (v / 2)+1:=by grind [jY.eq_1]
def fV(ts:JK af)(au:IC)(n:Nat):JK (Nat × Int):=
 (List.range n).flatMap λs=>(List.range (E ts (E au s 0).toNat tz).bU.toNat).map λm=>(s,(E ts (E au s 0).toNat tz).kd m)
def qB(ts:JK af)(au:IC)(n:Nat):fV ts au (n+1)=fV ts au n++(List.range (E ts (E au n 0).toNat tz).bU.toNat).map λm=>(n,(E ts (E au n 0).toNat tz).kd m):=by unfold fV;rw[ZG,ZW];simp
theorem yI{ts:JK af}{au:IC}(hc:gV ts=T)(ha:dm au (N ts)=T):∀n,n<=N au->(N (fV ts au n):Int)=aX ts (au.take n)
 |0,_=>Qh
 |n+1,hn=>by have ih:=yI hc ha n X;have h1:=qR ha (k:=n) X;have h2:=uK hc (i:=(au[n]'(X)).toNat) X;have e:E au n 0=au[n]'(X):=Qb;rw[qB,kW ts au n X,Zt,ZX,ZY,e];omega
theorem Rv{ts:JK af}{au:IC}(hc:gV ts=T)(ha:dm au (N ts)=T):∀n,n<=N au->∀c:Nat,c<N (fV ts au n)->
  ∃s,s<n/\aX ts (au.take s)<=c/\(c:Int)<aX ts (au.take (s+1))/\E (fV ts au n) c (0,0)=(s,(E ts (E au s 0).toNat tz).kd (c-(aX ts (au.take s)).toNat))
 |0,_,c,h=>by simp[fV]at h
 |n+1,hn,c,h=>by
  have j:=yI hc ha n X;by_cases g:c<N (fV ts au n)
  .obtain⟨s,b,a,d,f⟩:=Rv hc ha n X c g;refine⟨s,X,a,d,?_⟩;rw[qB,<-f]
   grind
  .have b:=qR ha (k:=n) X;have a:=uK hc (i:=(au[n]'(X)).toNat) X;have e:E au n 0=au[n]'(X):=Qb
   rw[qB,Zt,ZX,ZY]at h;refine⟨n,X,X,?_,?_⟩
   .rw[kW ts au n X,<-e];omega
   .rw[qB]
    grind
def aU(ts:JK af)(au:IC)(c:Int):Nat:=(E (fV ts au (N au)) c.toNat (0,0)).1
def iN(ts:JK af)(au:IC)(c:Int):Int:=(E (fV ts au (N au)) c.toNat (0,0)).2
theorem Mr{ts:JK af}{au:IC}(hc:gV ts=T)(ha:dm au (N ts)=T){c:Int}(h0:0<=c)(hl:c<aX ts au) :
  aU ts au c<N au/\aX ts (au.take (aU ts au c))<=c/\c<aX ts (au.take (aU ts au c+1))/\
   iN ts au c=(E ts (E au (aU ts au c) 0).toNat tz).kd (c.toNat-(aX ts (au.take (aU ts au c))).toNat):=by have a:=yI hc ha (N au) (Zb _);rw[Z0]at a;obtain⟨s,b,d,e,f⟩:=Rv hc ha (N au) (Zb _) c.toNat X;grind [aU,iN]
theorem WA{ts:JK af}(hc:gV ts=T)(ha:dm au (N ts)=T){a:Nat}(jC:a<=b)(hb:b<=N au):aX ts (au.take a)<=aX ts (au.take b):=by
 induction b with
 |zero =>
  simp_all
 |succ b ih =>
  by_cases h:a<=b
  .have d:=ih h X;have e:=qR ha (k:=b) X;have f:=uK hc (i:=(au[b]'(X)).toNat) X;rw[kW ts au b X];omega
  grind
theorem Ph{ts:JK af}(hc:gV ts=T)(ha:dm au (N ts)=T){c:Int}(h0:0<=c)(hl:c<aX ts au){s:Nat}(hs:s<=aU ts au c):c ≥ aX ts (au.take (s+1))↔s<aU ts au c:=by
 obtain⟨a,b,d,_⟩:=Mr hc ha h0 hl;constructor
 .grind
 .intro h;have:=WA hc ha (show s+1<=aU ts au c by omega) X;omega
def ZZ:=@Mr
def WB(pY:Nat->JK Nat):Nat->Nat->JK Nat
 |0,_=>[]
 |f+1,i=>i::(pY i).flatMap (WB pY f)
def je(pY:Nat->JK Nat)(i:Nat):JK Nat:=WB pY (i+1) i
section
variable {pY:Nat->JK Nat}
theorem Ms(gH:∀i,∀j∈pY i,j<i):∀(f g i:Nat),i<f->i<g->WB pY f i=WB pY g i
 |0,_,_,h,_=>X
 |_,0,_,_,h=>X
 |f+1,g+1,i,h1,h2=>by show i::_=i::_;congr 1;rw[List.flatMap_def,List.flatMap_def];congr 1;apply ZH;intro j hj;have:=gH i j hj;exact Ms gH f g j X X
theorem xE(gH:∀i,∀j∈pY i,j<i)(i:Nat):je pY i=i::(pY i).flatMap (je pY):=by grind [je,WB,List.map_congr_left,Ms]
theorem Cq(gH:∀i,∀j∈pY i,j<i):∀(n i:Nat),i<=n->∀k∈je pY i,k<=i:=by
 intro n
 induction n with
 |zero =>
  grind [xE]
 |succ n ih =>
  grind [xE]
def dV(n:Nat)(f:Nat->Nat):Nat:=((List.range n).map f).sum
theorem jD(n:Nat)(f:Nat->Nat):dV (n+1) f=dV n f+f n:=by grind [dV,List.range_succ]
theorem DU(n:Nat)(f g:Nat->Nat):dV n (λi=>f i+g i)=dV n f+dV n g:=by
 induction n with
 |zero=>rfl
 |succ n ih=>grind [jD]
def vW(n:Nat):dV n (λ_=>0)=0:=by
 induction n with
 |zero=>rfl
 |succ n ih=>rw[jD,ih]
theorem nW{f g:Nat->Nat}(h:∀i,i<n->f i=g i):dV n f=dV n g:=by
 induction n with
 |zero=>rfl
 |succ n ih=>grind [jD]
theorem DV(hm:m<n)(f:Nat->Nat):dV n (λi=>(if i=m then 1 else 0)*f i)=f m:=by
 induction n with
 |zero=>omega
 |succ n ih =>
  rw[jD];by_cases h:m<n
  .grind
  .obtain rfl:m=n:=X
   have e:dV m (λi=>(if i=m then 1 else 0)*f i)=0:=
    (nW (g:=λ_=>0) λi a=>Qb).trans (vW m)
   simp_all
def IW(n:Nat)(f:Nat->Nat->Nat):∀l:JK Nat,(l.map λj=>dV n (f j)).sum=dV n λi=>(l.map λj=>f j i).sum
 |[]=>(vW n).symm
 |a::l=>by rw[List.map_cons,List.sum_cons,IW n f l,<-DU];rfl
theorem Ug(l:JK Nat)(f:Nat->Nat)(c:Nat):(l.map λj=>f j*c).sum=(l.map f).sum*c:=by
 induction l with
 |nil=>simp
 |cons a l ih=>grind
theorem Uh(l:JK Nat)(f g:Nat->Nat):(l.map λj=>f j+g j).sum=(l.map f).sum+(l.map g).sum:=by
 induction l with
 |nil=>simp
 |cons a l ih=>grind
theorem Ui(l:JK Nat)(k:Nat):(l.map λj=>if k=j then 1 else 0).sum=l.count k:=by
 induction l with
 |nil=>simp
 |cons a l ih =>
  grind
theorem acs(gH:∀i,∀j∈pY i,j<i)(k:Nat):∀(b m n:Nat),m<=b->m<n->(je pY m).count k=(if k=m then 1 else 0)+dV n λi=>(je pY m).count i*(pY i).count k:=by
 intro b
 induction b with
 |zero =>
  intro m n p f;have e:=List.eq_nil_iff_forall_not_mem.2 λj q=>Qj (gH m j q);have r:je pY m=[m]:=by grind [xE]
  have t:(dV n λi=>(je pY m).count i*(pY i).count k)=(pY m).count k:=by rw[<-DV f (λi=>(pY i).count k)];grind
  grind
 |succ b ih =>
  intro m n p f;have a:∀x,(je pY m).count x=(if x=m then 1 else 0)+((pY m).map λj=>(je pY j).count x).sum:=λx=>by rw[xE gH m,List.count_cons,List.count_flatMap];have e:(List.count x ∘ je pY)=λj=>(je pY j).count x:=rfl;grind
  have d:((pY m).map λj=>(je pY j).count k).sum=(pY m).count k+dV n λi=>((pY m).map λj=>(je pY j).count i).sum*(pY i).count k:=by
   have g:((pY m).map λj=>(je pY j).count k)=(pY m).map λj=>(if k=j then 1 else 0)+dV n λi=>(je pY j).count i*(pY i).count k:=by grind [List.map_congr_left]
   rw[g,Uh,Ui,IW];grind [Ug]
  rw[a k,d];have l:(dV n λi=>(je pY m).count i*(pY i).count k)=(pY m).count k+dV n λi=>((pY m).map λj=>(je pY j).count i).sum*(pY i).count k:=by rw[<-DV f (λi=>(pY i).count k),<-DU];grind
  rw[l]
end
def Z4:=@jD
theorem nX{n:Nat}:∀{l:JK Nat},(∀k∈l,k<n)->dV n (λk=>l.count k)=N l
 |[],_=>vW n
 |a::l,h=>by have h1:=nX (n:=n) (l:=l) (λk hk=>h k (by simp[hk]));have h2:=DV (h a Qa) (λ_=>1);rw[Zu,<-h1];rw[show dV n (λk=>l.count k)+1=dV n (λk=>l.count k)+dV n (λk=>(if k=a then 1 else 0)*1) by rw[h2],<-DU];grind
theorem AP{f:Nat->Nat}:∀{n:Nat},(∀k,k<n->f k<=1)->dV n f=n->∀k,k<n->f k=1
 |0,_,_,k,hk=>X
 |n+1,h,hs,k,hk=>by
  rw[Z4]at hs;have hle:∀m,m<=n->dV m f<=m:=by
   intro m
   induction m with
   |zero=>intro _;exact Zb _
   |succ m ih =>
    grind [jD]
  have h1:=hle n (Zb _);have h2:=h n X;by_cases e:k=n
  .rw[e];omega
  .exact AP (n:=n) (λk hk=>h k X) X k X
section
variable {pY:Nat->JK Nat}
theorem IX(gH:∀i,∀j∈pY i,j<i)(h:i<=k):(pY i).count k=0:=by grind [List.count_eq_zero]
theorem Mt(gH:∀i,∀j∈pY i,j<i)(gX:Nat):(∀k,k<gX->dV (gX+1) (λi=>(pY i).count k)=1)↔∀k,k<=gX->(je pY gX).count k=1:=by
 have key:=λk=>acs gH k gX gX (gX+1) (Zb _) (Nat.lt_succ_self _);constructor
 .intro h;have asN:∀d k,k<=gX->gX-k<=d->(je pY gX).count k=1:=by
   intro d
   induction d with
   |zero =>
    intro k a hd;obtain rfl:k=gX:=X;rw[key,Zd rfl,(nW (g:=λ_=>0) λi l=>by rw[IX gH X,Nat.mul_zero]),vW]
   |succ d ih =>
    intro k a hd;by_cases e:k=gX
    .grind
    .rw[key,Zk e,ZT];refine(nW (g:=λi=>(pY i).count k) λi l=>?_).trans (h k X);by_cases b:i<=k
     .rw[IX gH b,Nat.mul_zero]
     grind
  exact λk a=>asN gX k a X
 .intro h k a;have f:=key k;rw[h k X,Zk X,ZT]at f;refine(nW λi l=>?_).trans f.symm
  grind
theorem akq(gH:∀i,∀j∈pY i,j<i)(gX:Nat):((je pY gX).Nodup/\N (je pY gX)=gX+1)↔∀k,k<=gX->(je pY gX).count k=1:=by
 have d:=Cq gH gX gX (Zb _);have a:=nX (n:=gX+1) (l:=je pY gX) (λk b=>Qb);constructor
 .rintro⟨g,m⟩ k b;have f:=List.nodup_iff_count.1 g;exact AP (n:=gX+1) (λk _=>f k) (by rw[a,m]) k X
 .intro h;refine⟨List.nodup_iff_count.2 λk=>?_,?_⟩
  .grind
  .rw[<-a];have e:dV (gX+1) (λk=>(je pY gX).count k)=dV (gX+1) (λk=>(if k=0 then 1 else 1)):=nW λk b=>Qb
   have one:∀n,dV n (λk=>(if k=0 then 1 else 1))=n:=by
    intro n
    induction n with
    |zero=>rfl
    |succ n ih=>grind [jD]
   rw[e,one]
def agt(gH:∀i,∀j∈pY i,j<i)(gX:Nat):(∀k,k<gX->dV (gX+1) (λi=>(pY i).count k)=1)↔((je pY gX).Nodup/\N (je pY gX)=gX+1):=
 (Mt gH gX).trans (akq gH gX).symm
end
structure ay where
 kind:Int
 l:Int
 r:Int
 source:Int
 cl:aA
 key:Int
 co:aA
def nz:ay:=⟨0,0,0,0,⟨Qr,0,[]⟩,0,⟨Qr,0,[]⟩⟩
def fH(w:U)(ao:LM)(ns:JK ay):Prop:=
 N ns<=164703072086692425/\∀i,i<N ns->∃b off,ao=O (aD b off)/\
  Qo w (aD b (off+i*7))=O (I J (E ns i nz).kind)/\Qo w (aD b (off+i*7+1))=O (I J (E ns i nz).l)/\
  Qo w (aD b (off+i*7+2))=O (I J (E ns i nz).r)/\Qo w (aD b (off+i*7+3))=O (I J (E ns i nz).source)/\
  Qo w (aD b (off+i*7+4))=O (E ns i nz).cl.val/\Qo w (aD b (off+i*7+5))=O (I J (E ns i nz).key)/\
  Qo w (aD b (off+i*7+6))=O (E ns i nz).co.val/\(E ns i nz).cl.At w/\(E ns i nz).co.At w
def ay.same(a b:ay):Prop:=a.kind=b.kind/\a.l=b.l/\a.r=b.r/\a.source=b.source/\a.cl.xs=b.cl.xs/\a.key=b.key/\a.co.xs=b.co.xs
structure dX where
 ah:IC
 aG:IC
 aH:IC
 out:Bool
 size:Nat
 aJ:Nat
def vz:dX:=⟨[],[],[],F,0,0⟩
def aY(l m:IC):IC:=m.foldl (λout x=>if x∈out then out else out++[x]) l
def bz(c:aV):IC:=if c.op≠2/\c.const=F then [c.left,c.right] else [c.left]
def bD(cs:JK aV):IC:=cs.flatMap bz
def jy(ts:JK af)(au:IC)(cs:JK aV)(ah:IC):Bool:=(bD cs).all λc=>decide ((aU ts au c:Int)∈ah)
def fJ(ts:JK af)(au:IC)(cs:JK aV):Nat:=
 if N cs≠1∨(E cs 0 cz).not=T then 2
 else if (E cs 0 cz).op=1 then 3
 else if (E cs 0 cz).op=2 then 10
 else if (E cs 0 cz).const=T then (iN ts au (E cs 0 cz).left).toNat
 else max (iN ts au (E cs 0 cz).left).toNat (iN ts au (E cs 0 cz).right).toNat
def jZ(ts:JK af)(au:IC)(s:Int):Nat:=(E ts (E au s.toNat 0).toNat tz).rows.toNat
def akr(ts:JK af)(q:ae)(aG:IC)(n:Nat):Nat:=(List.range (N q.wh)).foldl (λ(n c:Nat)=>if (c:Int)∈aG then n / fJ ts q.au.xs (E q.wh c lz).cs else n) n
def kM(ts:JK af)(q:ae)(ah aG:IC):Nat:=
 if (ah.any λs=>decide (jZ ts q.au.xs s=0))=T then 0
 else max (akr ts q aG ((ah.map (jZ ts q.au.xs)).foldl bQ 1)) 1
def uF(kind:Int)(s:Nat)(l r:dX):Nat:=
 if kind=1 then cO s 1
 else if kind=3 then cO (cO l.aJ r.aJ) (bQ l.size r.size)
 else if kind=4 then cO (cO l.aJ r.aJ) (cO (cO l.size s) (bQ 2 r.size))
 else if kind=5 then cO (cO l.aJ r.aJ) (cO (cO l.size s) r.size)
 else if kind=6∨kind=10 then cO l.aJ (bQ l.size (jY l.size+1))
 else if kind=7 then cO l.aJ (bQ 2 l.size)
 else cO l.aJ l.size
def aN(l m:IC):Bool:=decide (N m<=N l)&&decide (l.take (N m)=m)
def kS(ts:JK af)(au:IC)(cs:JK aV)(a b:IC):Int × Int × Bool:=
 if N cs≠1∨(E cs 0 cz).not=T∨(E cs 0 cz).const=T∨(E cs 0 cz).op≠0 then (0,0,F)
 else if (aU ts au (E cs 0 cz).left:Int)∈a/\(aU ts au (E cs 0 cz).right:Int)∈b then ((E cs 0 cz).left,(E cs 0 cz).right,T)
 else ((E cs 0 cz).right,(E cs 0 cz).left,decide ((aU ts au (E cs 0 cz).right:Int)∈a)&&decide ((aU ts au (E cs 0 cz).left:Int)∈b))
def bg(kind:Int):Nat:=if kind=1 then 0 else if 3<=kind/\kind<=5 then 2 else 1
def fK(n:ay):Bool:=
 decide ((1<=bg n.kind∨n.l=0)/\(2<=bg n.kind∨n.r=0)/\(n.kind=1∨n.source=0)/\(n.kind=4∨n.kind=5∨n.key=0)/\
  (n.kind=2∨3<=n.kind/\n.kind<=5∨N n.cl.xs=0)/\(n.kind=6↔(N n.co.xs)≠0))
def jI(ts:JK af)(q:ae)(l ah:IC):Bool:=
 (List.range (N l)).all λi=>decide (0<=E l i 0)&&decide (E l i 0<N q.wh)&&(decide (i=0) ||decide (E l (i-1) 0<E l i 0))&&jy ts q.au.xs (E q.wh (E l i 0).toNat lz).cs ah
def Mv(q:ae)(v:dX):Bool:=decide (N v.ah=N q.au.xs)&&decide (N v.aG=N q.wh)
def Fu(ts:JK af)(q:ae)(n:ay)(l r:dX):Bool:=
 if n.kind=2 then decide (0<N n.cl.xs)
 else if n.kind=4∨n.kind=5 then
  decide (n.key∈n.cl.xs)&&(kS ts q.au.xs (E q.wh n.key.toNat lz).cs l.ah r.ah).2.2 &&
   (decide (n.kind=4) ||(aN l.aH [(kS ts q.au.xs (E q.wh n.key.toNat lz).cs l.ah r.ah).1]&&aN r.aH [(kS ts q.au.xs (E q.wh n.key.toNat lz).cs l.ah r.ah).2.1]))
 else if n.kind=6 then dm n.co.xs (aX ts q.au.xs)&&dK n.co.xs&&n.co.xs.all λc=>decide ((aU ts q.au.xs c:Int)∈l.ah)
 else if n.kind=7 then q.aF&&Mv q l
 else if n.kind=8 then q.aF&&Mv q l&&aN l.aH q.aC.xs
 else if n.kind=9 then !q.aF&&Mv q l
 else if n.kind=10 then decide (0<N q.ord.xs)
 else T
def oJ(ts:JK af)(q:ae)(n:ay)(l r:dX):Option dX:=
 if (r.out ||(l.out != decide (n.kind=10)))=T then Qr
 else if N (aY l.ah r.ah)≠N l.ah+N r.ah then Qr
 else if jI ts q n.cl.xs (aY l.ah r.ah)=F then Qr
 else if Fu ts q n l r=F then Qr
 else
  let c:=aY (aY l.aG r.aG) n.cl.xs
  let s:=kM ts q (aY l.ah r.ah) c
  O ⟨aY l.ah r.ah,c,if n.kind=6 then n.co.xs else l.aH,decide (7<=n.kind),s,uF n.kind s l r⟩
def pG(ts:JK af)(q:ae)(plan:JK ay):Nat->Nat->Option dX
 |0,_=>Qr
 |f+1,i =>
  let n:=E plan i nz
  if fK n=F∨n.kind<1∨10<n.kind then Qr
  else if n.kind=1 then
   if n.source<0∨(N q.au.xs:Int)<=n.source then Qr
   else O ⟨[n.source],[],[],F,kM ts q [n.source] [],uF 1 (kM ts q [n.source] []) vz vz⟩
  else if n.l<0∨(i:Int)<=n.l then Qr
  else
   match pG ts q plan f n.l.toNat with
   |none=>Qr
   |some l =>
    if bg n.kind=2 then
     if n.r<0∨(i:Int)<=n.r then Qr
     else
      match pG ts q plan f n.r.toNat with
      |none=>Qr
      |some r=>oJ ts q n l r
    else oJ ts q n l vz
def iI(ts:JK af)(q:ae)(plan:JK ay):Nat->Nat->JK Nat->Option (dX × JK Nat)
 |0,_,_=>Qr
 |f+1,i,seen =>
  let n:=E plan i nz
  if fK n=F∨n.kind<1∨10<n.kind then Qr
  else if n.kind=1 then
   if n.source<0∨(N q.au.xs:Int)<=n.source then Qr
   else O (⟨[n.source],[],[],F,kM ts q [n.source] [],uF 1 (kM ts q [n.source] []) vz vz⟩,seen++[i])
  else if n.l<0∨(i:Int)<=n.l∨n.l.toNat∈seen++[i] then Qr
  else
   match iI ts q plan f n.l.toNat (seen++[i]) with
   |none=>Qr
   |some (l,s) =>
    if bg n.kind=2 then
     if n.r<0∨(i:Int)<=n.r∨n.r.toNat∈s then Qr
     else
      match iI ts q plan f n.r.toNat s with
      |none=>Qr
      |some (r,s)=>(oJ ts q n l r).map λv=>(v,s)
    else (oJ ts q n l vz).map λv=>(v,s)
def qN(plan:JK ay)(i:Nat):JK Nat:=
 let n:=E plan i nz
 if bg n.kind=0 then []
 else if bg n.kind=1 then (if 0<=n.l/\n.l<i then [n.l.toNat] else [])
 else (if 0<=n.l/\n.l<i/\0<=n.r/\n.r<i then [n.l.toNat,n.r.toNat] else [])
theorem lY(plan:JK ay)(i:Nat):∀j∈qN plan i,j<i:=by intro j a;unfold qN at a;grind
def fZ(plan:JK ay)(i:Nat):JK Nat:=je (qN plan) i
theorem nD(plan:JK ay)(i:Nat):fZ plan i=i::(qN plan i).flatMap (fZ plan):=xE (lY plan) i
theorem G5{k:Int}(h1:k≠1)(h2:bg k≠2):bg k=1:=by grind [bg]
theorem lD{k:Int}(h1:k=1):bg k=0:=by grind [bg]
theorem yJ(ts:JK af)(q:ae)(plan:JK ay):∀(f i:Nat) (seen:JK Nat) (v:dX) (m:JK Nat),i ∉ seen->iI ts q plan f i seen=O (v,m)->
  pG ts q plan f i=O v/\m = seen++fZ plan i/\(fZ plan i).Nodup/\∀x∈fZ plan i,x ∉ seen:=by
 intro f
 induction f with
 |zero=>grind [iI]
 |succ f ih =>
  intro i seen v m P h;unfold iI at h;unfold pG;simp only at h ⊢;rw[nD];unfold qN;simp only;generalize E plan i nz=n at h ⊢;by_cases L:fK n=F∨n.kind<1∨10<n.kind
  .simp_all
  rw[Zk L]at h ⊢;by_cases c2:n.kind=1
  .rw[Zd c2]at h ⊢;rw[Zd (lD c2)]
   simp_all
  rw[Zk c2]at h ⊢;by_cases c4:n.l<0∨(i:Int)<=n.l∨n.l.toNat∈seen++[i]
  .grind
  have d:¬(n.l<0∨(i:Int)<=n.l):=λe=>c4 X;have g:n.l.toNat ∉ seen++[i]:=λe=>c4 (.inr (.inr e));rw[Zk c4]at h;rw[Zk d]
  cases hl:iI ts q plan f n.l.toNat (seen++[i]) with
  |none=>simp_all
  |some x =>
   obtain⟨l,s⟩:=x;obtain⟨C,u,l3,l4⟩:=ih _ _ _ _ g hl;rw[hl]at h;rw[C];simp only at h ⊢;by_cases c5:bg n.kind=2
   .rw[Zd c5]at h ⊢;rw[Zk (show ¬bg n.kind=0 by omega),Zk (show ¬bg n.kind=1 by omega)];by_cases p:n.r<0∨(i:Int)<=n.r∨n.r.toNat∈s
    .grind
    have j:¬(n.r<0∨(i:Int)<=n.r):=λe=>p X;have k:n.r.toNat ∉ s:=λe=>p (.inr (.inr e));rw[Zk p]at h;rw[Zk j,Zd X]
    cases hr:iI ts q plan f n.r.toNat s with
    |none=>grind
    |some y =>
     obtain⟨r,t⟩:=y;obtain⟨D,z,G,K⟩:=ih _ _ _ _ k hr;rw[hr]at h;rw[D];simp only at h ⊢
     cases hv:oJ ts q n l r with
     |none=>grind
     |some v0 =>
      rw[hv]at h;simp only[Option.map_some]at h;injection h with h;injection h with h1 h2;subst h1 h2;rw[u]at z K;refine⟨rfl,?_,?_,?_⟩
      .rw[z];simp
      .simp only[Zr,List.flatMap_nil,Zy];rw[List.nodup_cons,List.nodup_append];refine⟨λe=>?_,l3,G,λa R b S e=>?_⟩
       .grind
       grind
      .intro x A Q;simp only[Zr,List.flatMap_nil,Zy]at A;rcases ZB.1 A with e|e
       .grind
       .rcases Z5.1 e with e|e
        .grind
        grind
   .rw[Zk c5]at h ⊢;have B:=G5 c2 c5;rw[Zk (show ¬bg n.kind=0 by omega),Zd B,Zd X]
    cases hv:oJ ts q n l vz with
    |none=>simp_all
    |some v0 =>
     rw[hv]at h;simp only[Option.map_some]at h;injection h with h;injection h with h1 h2;subst h1 h2;refine⟨rfl,?_,?_,?_⟩
     .rw[u];simp
     .grind
     simp_all
theorem wW(ts:JK af)(q:ae)(plan:JK ay):∀(f i:Nat) (seen:JK Nat) (v:dX),pG ts q plan f i=O v->(fZ plan i).Nodup->(∀x∈fZ plan i,x ∉ seen)->
  iI ts q plan f i seen=O (v,seen++fZ plan i):=by
 intro f
 induction f with
 |zero=>grind [pG]
 |succ f ih =>
  intro i seen v h b a;rw[nD]at b a ⊢;unfold pG at h;unfold iI;unfold qN at b a ⊢;simp only at h b a ⊢;generalize E plan i nz=n at h b a ⊢;by_cases A:fK n=F∨n.kind<1∨10<n.kind
  .simp_all
  rw[Zk A]at h ⊢;by_cases c2:n.kind=1
  .rw[Zd c2]at h ⊢;rw[Zd (lD c2)]
   grind
  rw[Zk c2]at h ⊢;by_cases c4:n.l<0∨(i:Int)<=n.l
  .simp_all
  rw[Zk c4]at h
  cases hl:pG ts q plan f n.l.toNat with
  |none=>simp_all
  |some l =>
   rw[hl]at h;simp only at h;by_cases c5:bg n.kind=2
   .rw[Zd c5]at h;by_cases B:n.r<0∨(i:Int)<=n.r
    .simp_all
    rw[Zk B]at h;rw[Zk (show ¬bg n.kind=0 by omega),Zk (show ¬bg n.kind=1 by omega),Zd (show 0<=n.l/\n.l<(i:Int)/\0<=n.r/\n.r<(i:Int) by omega)]at b a ⊢;simp only[Zr,List.flatMap_nil,Zy]at b a ⊢;rw[List.nodup_cons,List.nodup_append]at b;obtain⟨y,k,C,D⟩:=b;have m:n.l.toNat∈fZ plan n.l.toNat:=by rw[nD];simp
    have p:n.r.toNat∈fZ plan n.r.toNat:=by rw[nD];simp
    have d:∀x∈fZ plan n.l.toNat,x ∉ seen++[i]:=λx z e=>by simp_all
    have t:∀x∈fZ plan n.r.toNat,x ∉ seen++[i]++fZ plan n.l.toNat:=λx z e=>by grind
    have g:¬(n.l<0∨(i:Int)<=n.l∨n.l.toNat∈seen++[i]):=by simp_all
    have j:¬(n.r<0∨(i:Int)<=n.r∨n.r.toNat∈seen++[i]++fZ plan n.l.toNat):=by simp_all
    rw[Zk g,ih _ _ _ hl k d];simp only;rw[Zd c5,Zk j]
    cases hr:pG ts q plan f n.r.toNat with
    |none=>simp_all
    |some r =>
     simp_all
   .rw[Zk c5]at h;have u:=G5 c2 c5;rw[Zk (show ¬bg n.kind=0 by omega),Zd u,Zd (show 0<=n.l/\n.l<(i:Int) by omega)]at b a ⊢;simp only[Zr,List.flatMap_nil,Zy]at b a ⊢;rw[List.nodup_cons]at b;obtain⟨y,k⟩:=b;have m:n.l.toNat∈fZ plan n.l.toNat:=by rw[nD];simp
    grind
theorem Rw(ts:JK af)(q:ae)(plan:JK ay)(f gX:Nat)(v:dX)(s:JK Nat):(iI ts q plan f gX []=O (v,s)/\N s=gX+1)↔
  (pG ts q plan f gX=O v/\s=fZ plan gX/\∀k,k<gX->dV (gX+1) (λi=>(qN plan i).count k)=1):=by
 have key:=agt (lY plan) gX;constructor
 .rintro⟨h,j⟩;obtain⟨a,d,b,_⟩:=yJ ts q plan f gX [] v s Qa h
  grind [fZ]
 .rintro⟨a,d,b⟩;obtain⟨e,l⟩:=key.1 b;have g:=wW ts q plan f gX [] v a e Qa
  grind [fZ]
def yK(l:IC)(a:Int)(m:IC):aY l (a::m)=aY (if a∈l then l else l++[a]) m:=rfl
theorem G7{x:Int}:∀{m l:IC},x∈aY l m↔x∈l∨x∈m
 |[],l=>by grind [aY]
 |a::m,l=>by rw[yK,G7];grind
theorem lQ:∀{m l:IC},l.Nodup->(aY l m).Nodup
 |[],l,h=>h
 |a::m,l,h=>by rw[yK];apply lQ;grind
theorem nY:∀{m l:IC},N (aY l m)<=N l+N m
 |[],l=>by grind [aY]
 |a::m,l=>by rw[yK];refine ZU nY ?_;grind
theorem Rx:∀{m l:IC},m.Nodup->(N (aY l m)=N l+(N m)↔∀x∈m,x ∉ l)
 |[],l,_=>by grind [aY]
 |a::m,l,h=>by
  rw[List.nodup_cons]at h;rw[yK];by_cases ha:a∈l
  .grind [nY]
  .rw[Zk ha];have h1:=Rx (m:=m) (l:=l++[a]) h.2
   grind
def cK(n:Nat)(l:IC):Prop:=∀x∈l,0<=x/\x<(n:Int)
def cK.with{n:Nat}{l m:IC}(hl:cK n l)(hm:cK n m):cK n (aY l m):=λx a=>by
 rcases G7.1 a with h|h
 .exact hl x h
 .exact hm x h
def cK.lt(hn:n<=64)(h:cK n l):bn l<18446744073709551616:=by have a:=uL (n:=n) h;have b:2 ^ n<=2 ^ 64:=ZP X hn;omega
theorem acu(l:IC):∀m:Nat,l.foldl (λm n=>m|||2 ^ n.toNat) m=m|||bn l:=by
 unfold bn
 induction l with
 |nil=>intro m;simp
 |cons a l ih=>grind
theorem IY(a b:IC):bn (a++b)=bn a|||bn b:=by grind [bn,acu]
theorem Cr{m:IC}(hl:cK n l)(hm:cK n m):bn (aY l m)=bn l|||bn m:=by apply ZQ;intro i;rw[Nat.testBit_or,ZM (λx hx=>(hl.with hm x hx).1),ZM (λx hx=>(hl x hx).1),ZM (λx hx=>(hm x hx).1),Xa];grind [G7]
theorem IZ(hn:n<=64)(hs:cK n s)(hl:cK n l):(bn l &&& (18446744073709551615-bn s)=0)↔∀x∈l,x∈s:=by
 rw[Mm (hs.lt hn) (hl.lt hn)];constructor
 .intro h x a;have e:=(hl x a).1;have b:=h x.toNat (by rw[ZM (λx a=>(hl x a).1),Zi];grind);rw[ZM (λx a=>(hs x a).1),Zi,Xb e]at b;exact b
 .intro h i d;rw[ZM (λx a=>(hl x a).1),Zi]at d;rw[ZM (λx a=>(hs x a).1),Zi];exact h _ d
theorem Mw(hs:cK n s)(hl:cK n l):(bn s &&& bn l≠0)↔∃x,x∈s/\x∈l:=by
 rw[agq];constructor
 .rintro⟨i,b,d⟩;rw[ZM (λx a=>(hs x a).1),Zi]at b;rw[ZM (λx a=>(hl x a).1),Zi]at d
  grind
 .rintro⟨x,b,d⟩;have e:=(hs x b).1;refine⟨x.toNat,?_,?_⟩
  .rw[ZM (λx a=>(hs x a).1),Zi,Xb e];exact b
  .rw[ZM (λx a=>(hl x a).1),Zi,Xb e];exact d
theorem Ry(hs:cK n s)(hd:s.Nodup):bn s=2 ^ n-1↔(N s)=n:=by
 have g:∀k:Nat,k∈s.map Int.toNat↔(k:Int)∈s:=λk=>by
  rw[Xc];constructor
  .rintro⟨x,f,rfl⟩;rw[Xb (hs x f).1];exact f
  grind
 have l:(s.map Int.toNat).Nodup:=by show List.Pairwise _ _;rw[List.pairwise_map];refine List.Pairwise.imp_of_mem ?_ hd;intro a b u v y e;have p:=(hs a u).1;have q:=(hs b v).1;omega
 have r:∀k∈s.map Int.toNat,k<n:=λk j=>by have:=(hs _ ((g k).1 j)).2;omega
 have d:=nX r;rw[ZX]at d;have t:=List.nodup_iff_count.1 l;constructor
 .intro h;rw[<-d];have e:∀k,k<n->(s.map Int.toNat).count k=1:=λk j=>by
   have p:(k:Int)∈s:=by have q:=ZM (λx f=>(hs x f).1) k;simp_all
   grind
  have one:∀m,m<=n->dV m (λk=>(s.map Int.toNat).count k)=m:=by
   intro m
   induction m with
   |zero=>intro _;rfl
   |succ m ih=>grind [jD]
  simp_all
 .intro h;have e:=AP (n:=n) (λk _=>t k) (by rw[d,h]);apply ZQ;intro i;rw[ZM (λx f=>(hs x f).1),agr,Xa,Zi,Zi];constructor
  .simp_all
  grind
def bS(s:Nat):JK Nat:=(List.range 64).filter λi=>s.testBit i
theorem WC(hn:n<=64)(h:cK n l)(i:Nat):i∈bS (bn l)↔(i:Int)∈l:=by
 unfold bS;rw[List.mem_filter,Xd,ZM (λx a=>(h x a).1),Zi];constructor
 .simp_all
 .intro e;have:=(h _ e).2
  grind
def Pj(s:Nat):(bS s).Nodup:=List.Pairwise.filter _ List.nodup_range
theorem Rz(hs:cK n s)(hd:s.Nodup):(s.map Int.toNat).Nodup:=by show List.Pairwise _ _;rw[List.pairwise_map];refine List.Pairwise.imp_of_mem ?_ hd;intro a b d f j e;have g:=(hs a d).1;have i:=(hs b f).1;omega
theorem afc(hs:cK n s)(k:Nat):k∈s.map Int.toNat↔(k:Int)∈s:=by
 rw[Xc];constructor
 .rintro⟨x,a,rfl⟩;rw[Xb (hs x a).1];exact a
 grind
theorem WE(hn:n<=64)(hs:cK n s)(hd:s.Nodup):(s.map Int.toNat).Perm (bS (bn s)):=
 (List.perm_ext_iff_of_nodup (Rz hs hd) (Pj _)).2 λk=>by grind [afc,WC]
theorem agu{a b:JK Nat}(h:a.Perm b):∀m,a.foldl (· * ·) m=b.foldl (· * ·) m:=by
 induction h with
 |nil=>intro m;rfl
 |cons x _ ih=>simp_all
 |swap x y l=>grind
 |trans _ _ h1 h2=>simp_all
def xH:∀(l:JK Nat),l.foldl bQ 0=0
 |[]=>rfl
 |a::l=>by rw[ZL,IV,xH l]
theorem uk:∀(l:JK Nat) (m:Nat),0∈l->l.foldl bQ m=0
 |[],_,h=>by cases h
 |a::l,m,h=>by
  rw[ZL];rcases ZB.1 h with h|h
  .rw[<-h];have e:bQ m 0=0:=Qh
   rw[e,xH]
  .exact uk l _ h
theorem zS:∀(l:JK Nat) (m:Nat),1<=m->(∀x∈l,1<=x)->1<=l.foldl bQ m
 |[],m,h,_=>h
 |a::l,m,h,hl=>by rw[ZL];refine zS l _ ?_ (λx hx=>hl x (by simp[hx]));have h1:=Nat.mul_le_mul h (hl a Qa);grind [bQ,bO]
theorem WG{a b:JK Nat}(h:a.Perm b):a.foldl bQ 1=b.foldl bQ 1:=by grind [uk,bO,Wy,agu]
theorem Fw(hnm:n<=m)(p:Nat->Bool)(h:∀i,n<=i->p i=F):(List.range m).filter p=(List.range n).filter p:=by
 induction m with
 |zero =>
  simp_all
 |succ m ih =>
  grind [List.range_succ]
def acv(hn:n<=64)(h:cK n l)(g:Nat->Nat)(m:Nat) :
  (bS (bn l)).foldl (λx c=>x / g c) m=(List.range n).foldl (λ(x c:Nat)=>if (c:Int)∈l then x / g c else x) m:=by unfold bS;rw[Fw hn _ (λi b=>by rw[ZM (λx a=>(h x a).1),Zj];intro e;have:=(h _ e).2;omega),List.foldl_filter];congr 1;funext x c;rw[ZM (λx a=>(h x a).1)];simp_all
structure dG where
 kind:Int
 ah:Nat
 aG:Nat
 aH:IC
 size:Nat
 aJ:Nat
def bV(a b:Nat):Bool:=decide (b &&& (18446744073709551615-a)=0)
def iO(ts:JK af)(au:IC)(cs:JK aV):IC:=(bD cs).map λc=>(aU ts au c:Int)
def vg(ts:JK af)(q:ae)(l:IC)(s:Nat):Bool:=
 (List.range (N l)).all λi=>decide ((if i=0 then -1 else E l (i-1) 0)<E l i 0)&&decide (E l i 0<N q.wh)&&bV s (bn (iO ts q.au.xs (E q.wh (E l i 0).toNat lz).cs))
def wX{ts:JK af}(hc:gV ts=T)(ha:dm au (N ts)=T){cs:JK aV}(h:∀c∈bD cs,0<=c/\c<aX ts au):cK (N au) (iO ts au cs):=λx e=>by obtain⟨c,a,rfl⟩:=Xc.1 e;obtain⟨b,d⟩:=h c a;have:=(ZZ hc ha b d).1;omega
theorem wY{ts:JK af}(hc:gV ts=T)(ha:dm au (N ts)=T)(hn:N au<=64){cs:JK aV}(h:∀c∈bD cs,0<=c/\c<aX ts au)(hs:cK (N au) s) :
  bV (bn s) (bn (iO ts au cs))=jy ts au cs s:=by unfold bV jy;rw[Xa,Zi,Q9,IZ hn hs (wX hc ha h)];grind [iO]
def Cs(ts:JK af)(q:ae):Prop:=∀i,i<N q.wh->∀c∈bD (E q.wh i lz).cs,0<=c/\c<aX ts q.au.xs
theorem Fx{ts:JK af}{q:ae}(hc:gV ts=T)(ha:dm q.au.xs (N ts)=T)(hn:N q.au.xs<=64)(hk:Cs ts q)(hs:cK (N q.au.xs) s)(l:IC) :
  vg ts q l (bn s)=jI ts q l s:=by
 unfold vg jI;rw[Xa,Q9,Q9];constructor
 .intro h;have a:∀i,i<N l->0<=E l i 0:=by
   intro i
   induction i with
   |zero =>
    grind
   |succ i ih =>
    grind
  intro i d;have e:=Xd.1 d;have b:=h i d;have j:=a i e;simp only[Q8,Zi]at b;obtain⟨⟨k,g⟩,f⟩:=b;rw[wY hc ha hn (hk _ X) hs]at f;grind
 .intro h i d;have b:=h i d;simp only[Q8,Bool.or_eq_true,Zi]at b;obtain⟨⟨⟨j,g⟩,k⟩,f⟩:=b;simp only[Q8,Zi];rw[wY hc ha hn (hk _ X) hs];refine⟨⟨?_,g⟩,f⟩;omega
theorem vk(k:Nat):bn [(k:Int)]=2 ^ k:=by grind [bn]
def sD(hn:n<=64)(hs:cK n s)(hk:k<n):bV (bn s) (2 ^ k)=decide ((k:Int)∈s):=by unfold bV;rw[<-vk,Xa,Zi,Zi,IZ hn hs (λx a=>Qf)];simp_all
def xI(ts:JK af)(au:IC)(cs:JK aV)(a b:Nat):Int × Int × Bool:=
 if N cs > 1∨(E cs 0 cz).op≠0∨(E cs 0 cz).not=T∨(E cs 0 cz).const=T then (0,0,F)
 else if (bV a (2 ^ aU ts au (E cs 0 cz).left)&&bV b (2 ^ aU ts au (E cs 0 cz).right))=T then ((E cs 0 cz).left,(E cs 0 cz).right,T)
 else if (bV a (2 ^ aU ts au (E cs 0 cz).right)&&bV b (2 ^ aU ts au (E cs 0 cz).left))=T then ((E cs 0 cz).right,(E cs 0 cz).left,T)
 else (0,0,F)
theorem Mx{ts:JK af}(hc:gV ts=T)(ha:dm au (N ts)=T)(hn:N au<=64){cs:JK aV}(h0:0<N cs)(h:∀c∈bD cs,0<=c/\c<aX ts au){a b:IC}
  (hsa:cK (N au) a) (hsb:cK (N au) b) :
  (xI ts au cs (bn a) (bn b)).2.2=(kS ts au cs a b).2.2/\((kS ts au cs a b).2.2=T->xI ts au cs (bn a) (bn b)=kS ts au cs a b):=by
 unfold xI kS;by_cases k:N cs≠1∨(E cs 0 cz).not=T∨(E cs 0 cz).const=T∨(E cs 0 cz).op≠0
 .grind
 .have d:¬(N cs > 1∨(E cs 0 cz).op≠0∨(E cs 0 cz).not=T∨(E cs 0 cz).const=T):=by simp_all
  rw[Zk k,Zk d];have e:(E cs 0 cz).left∈bD cs/\(E cs 0 cz).right∈bD cs:=by
   have f:E cs 0 cz∈cs:=by simp_all
   have l:(E cs 0 cz).op≠2/\(E cs 0 cz).const=false:=by simp_all
   unfold bD;refine⟨ZA.2 ⟨_,f,?_⟩,ZA.2 ⟨_,f,?_⟩⟩
   .unfold bz;simp_all
   .unfold bz;simp_all
  have g:=h _ e.1;have i:=h _ e.2;have sl:=(ZZ hc ha g.1 g.2).1;have j:=(ZZ hc ha i.1 i.2).1;generalize E cs 0 cz=c at*;rw[sD hn hsa sl,sD hn hsb j,sD hn hsa j,sD hn hsb sl];grind
theorem G9{f:Nat->Nat}(h:∀k,f k<=1):∀n,dV n f<=n
 |0=>Zb _
 |n+1=>by rw[Z4];have:=G9 h n;grind
theorem Ha(hs:cK n s)(hd:s.Nodup):N s<=n:=by
 have b:∀k∈s.map Int.toNat,k<n:=λk d=>by have:=(hs _ ((afc hs k).1 d)).2;omega
 have a:=nX b;grind [Rz,G9]
theorem WH(h:dK xs=T):xs.Nodup:=by unfold dK at h;grind [List.pairwise_iff_getElem]
def uG(ts:JK af)(au bU:IC)(s:Nat):Bool:=
 decide (0<N bU)&&decide ((N bU:Int)<=aX ts au) &&
  (List.range (N bU)).all λi=>decide (0<=E bU i 0)&&decide (E bU i 0<aX ts au) && !decide (E bU i 0∈bU.take i)&&bV s (2 ^ aU ts au (E bU i 0))
theorem uM(hi:i<N xs){x:Int}:x∈xs.take i↔∃j,j<i/\E xs j 0=x:=by
 rw[List.mem_take_iff_getElem];constructor
 .rintro⟨j,a,e⟩;refine⟨j,X,?_⟩
  grind
 grind
theorem agv{ts:JK af}(hc:gV ts=T)(ha:dm au (N ts)=T)(hn:N au<=64)(hs:cK (N au) s){bU:IC}(h0:0<N bU) :
  uG ts au bU (bn s)=(dm bU (aX ts au)&&dK bU&&bU.all λc=>decide ((aU ts au c:Int)∈s)):=by
 unfold uG;rw[Xa,Zl h0,Zm,Q8,Zi,Q9,Q8,Q8,Q9];have oO:∀c∈bU,∃i,i<N bU/\E bU i 0=c:=λc g=>by obtain⟨i,a,e⟩:=Ze g;exact⟨i,a,Qf⟩
 have l:∀i,i<N bU->E bU i 0∈bU:=λi a=>by simp_all
 constructor
 .rintro⟨_,h⟩;have u:∀i,i<N bU->0<=E bU i 0/\E bU i 0<aX ts au/\E bU i 0 ∉ bU.take i/\(aU ts au (E bU i 0):Int)∈s:=λi a=>by have f:=h i (Xd.2 a);simp only[Q8,Bool.not_eq_true',Zi,Zj]at f;obtain⟨⟨⟨k,n⟩,y⟩,t⟩:=f;rw[sD hn hs (ZZ hc ha k n).1,Zi]at t;simp_all
  refine⟨⟨?_,?_⟩,?_⟩
  .grind [dm]
  .grind [dK,uM]
  grind
 .rintro⟨⟨f,k⟩,n⟩;have q:=WH k;have p:cK (aX ts au).toNat bU:=λx m=>by unfold dm at f;grind
  have v:=Ha p q;have r:=mH hc ha (N au) (Zb _);rw[Z0]at r;refine⟨X,λi a=>?_⟩;have b:=Xd.1 a;have g:=l i b;have m:=p _ g;have d:E bU i 0<aX ts au:=X;simp only[Q8,Bool.not_eq_true',Zi,Zj];rw[sD hn hs (ZZ hc ha m.1 d).1];refine⟨⟨⟨m.1,d⟩,?_⟩,n _ g⟩;intro e;obtain⟨j,z,A⟩:=(uM b).1 e;unfold dK at k;grind
def jd(ts:JK af)(q:ae)(ah aG:Nat):Nat:=
 if ((bS ah).map λ(k:Nat)=>jZ ts q.au.xs (k:Int)).foldl bQ 1=0 then 0
 else max ((bS aG).foldl (λx c=>x / fJ ts q.au.xs (E q.wh c lz).cs) (((bS ah).map λ(k:Nat)=>jZ ts q.au.xs (k:Int)).foldl bQ 1)) 1
theorem RF(ts:JK af)(q:ae)(hw:N q.wh<=64)(hn:n<=64){c:IC}(hs:cK n s)(hd:s.Nodup)(hc:cK (N q.wh) c):jd ts q (bn s) (bn c)=kM ts q s c:=by
 have d:(s.map (jZ ts q.au.xs))=(s.map Int.toNat).map λ(k:Nat)=>jZ ts q.au.xs (k:Int):=by rw[Xe];rfl
 have e:((bS (bn s)).map λ(k:Nat)=>jZ ts q.au.xs (k:Int)).foldl bQ 1=(s.map (jZ ts q.au.xs)).foldl bQ 1:=by rw[d];exact(WG ((WE hn hs hd).map _)).symm
 unfold jd kM;rw[e];by_cases a:(s.any λx=>decide (jZ ts q.au.xs x=0))=T
 .rw[Zd a];obtain⟨x,g,hz⟩:=List.any_eq_true.1 a;rw[Zd (uk _ 1 (Xc.2 ⟨x,g,Xf hz⟩))]
 .rw[Zk a];have f:∀y∈s.map (jZ ts q.au.xs),1<=y:=λy i=>by grind
  have b:=zS _ 1 (Zb _) f;rw[Zk X];unfold akr;rw[acv hw hc]
def AQ(kind:Int)(l r s:Nat):Nat:=if kind=4 then kQ [l,r,r,s] else if kind=5 then kQ [l,r,s] else bQ l r
def dn(kind:Int)(s lc ls rc rs:Nat):Nat:=
 if kind=1 then kQ [s,1]
 else if kind=3∨kind=4∨kind=5 then kQ [lc,rc,AQ kind ls rs s]
 else if kind=6∨kind=10 then kQ [lc,bQ ls (jY ls+1)]
 else if kind=7 then kQ [lc,ls,ls]
 else kQ [lc,ls]
theorem AU(a b:Nat):kQ [a,b]=cO a b:=by grind [cO,yH]
theorem Dr(a b c:Nat):kQ [a,b,c]=cO (cO a b) c:=by grind [cO,yH]
theorem awU(a b c d:Nat):kQ [a,b,c,d]=cO (cO a b) (cO c d):=by grind [cO,yH]
theorem RG(a:Nat):bQ 2 a=cO a a:=by grind [bQ,cO]
def RH(kind:Int)(s:Nat)(l r:dX):dn kind s l.aJ l.size r.aJ r.size=uF kind s l r:=by
 unfold dn uF AQ;by_cases a:kind=1
 .rw[Zd a,Zd a,AU]
 rw[Zk a,Zk a];by_cases k3:kind=3
 .rw[Zd (.inl k3),Zd k3,Zk X,Zk X,Dr]
 rw[Zk k3];by_cases k4:kind=4
 .rw[Zd (.inr (.inl k4)),Zd k4,Zd k4,Dr,awU,RG];congr 1;rw[qA,qA,Mo s (cO r.size r.size),qA]
 simp only[Zk k4];by_cases k5:kind=5
 .rw[Zd (.inr (.inr k5))];simp only[Zd k5];rw[Dr,Dr];congr 1;rw[qA,qA,Mo s r.size]
 simp only[Zk k5];rw[Zk (show ¬(kind=3∨kind=4∨kind=5) by omega)];by_cases k6:kind=6∨kind=10
 .rw[Zd k6,Zd k6,AU]
 rw[Zk k6,Zk k6];by_cases k7:kind=7
 .rw[Zd k7,Zd k7,Dr,RG,qA]
 rw[Zk k7,Zk k7,AU]
def gI(k:Int):Bool:=decide (7<=k)&&decide (k<=10)
def pz:dG:=⟨0,0,0,[],0,0⟩
def lZ(ts:JK af)(q:ae)(n:ay)(a b:Nat):Int × Int × Bool:=
 if n.key∈n.cl.xs/\0<=n.key/\n.key<N q.wh then xI ts q.au.xs (E q.wh n.key.toNat lz).cs a b else (0,0,F)
def zU(ts:JK af)(q:ae)(n:ay)(a b:Nat):Bool:=decide (a &&& b=0)&&vg ts q n.cl.xs (a|||b)
def wZ(q:ae)(l:dG):Bool:=decide (l.ah=2 ^ (N q.au.xs)-1)&&decide (l.aG=2 ^ (N q.wh)-1)
def nE(kind:Int)(l r:dG):Bool:=(gI l.kind==decide (kind=10)) && !gI r.kind
def pI(ts:JK af)(q:ae)(n:ay)(l r:dG):Bool:=
 if n.kind=1 then decide (0<=n.source)&&decide (n.source<N q.au.xs)
 else if n.kind=2 then decide (0<N n.cl.xs)&&vg ts q n.cl.xs l.ah
 else if n.kind=3 then zU ts q n l.ah r.ah
 else if n.kind=4 then (lZ ts q n l.ah r.ah).2.2&&zU ts q n l.ah r.ah
 else if n.kind=5 then (lZ ts q n l.ah r.ah).2.2&&zU ts q n l.ah r.ah&&aN l.aH [(lZ ts q n l.ah r.ah).1]&&aN r.aH [(lZ ts q n l.ah r.ah).2.1]
 else if n.kind=6 then uG ts q.au.xs n.co.xs l.ah
 else if n.kind=7 then q.aF&&wZ q l
 else if n.kind=8 then q.aF&&wZ q l&&aN l.aH q.aC.xs
 else if n.kind=9 then !q.aF&&wZ q l
 else decide (0<N q.ord.xs)
def eP(ts:JK af)(q:ae)(n:ay)(l r:dG):dG:=
 let s:=(if n.kind=1 then 2 ^ n.source.toNat else 0)|||l.ah|||r.ah
 let c:=bn n.cl.xs|||l.aG|||r.aG
 let z:=if gI n.kind=T then l.size else jd ts q s c
 ⟨n.kind,s,c,if n.kind=6 then n.co.xs else if 2<=n.kind/\n.kind<=5 then l.aH else [],z,dn n.kind z l.aJ l.size r.aJ r.size⟩
structure PV(q:ae)(p:dG)(v:dX):Prop where
 out:gI p.kind=v.out
 ah:p.ah=bn v.ah
 jL:cK (N q.au.xs) v.ah
 AV:v.ah.Nodup
 aG:p.aG=bn v.aG
 uq:cK (N q.wh) v.aG
 Hd:v.aG.Nodup
 aH:v.out=F->p.aH=v.aH
 size:p.size=v.size
 aJ:p.aJ=v.aJ
def afd(q:ae):PV q pz vz where
 out:=Qc
 ah:=rfl
 jL:=λx a=>by cases a
 AV:=List.nodup_nil
 aG:=rfl
 uq:=λx a=>by cases a
 Hd:=List.nodup_nil
 aH:=λ_=>rfl
 size:=rfl
 aJ:=rfl
def oP(ts:JK af)(q:ae)(n:ay)(l r:dX):Bool:=
 !(r.out ||(l.out != decide (n.kind=10)))&&decide (N (aY l.ah r.ah)=N l.ah+N r.ah)&&jI ts q n.cl.xs (aY l.ah r.ah)&&Fu ts q n l r
theorem pJ(ts:JK af)(q:ae)(n:ay)(l r:dX):oJ ts q n l r=if oP ts q n l r=T then
  O ⟨aY l.ah r.ah,aY (aY l.aG r.aG) n.cl.xs,if n.kind=6 then n.co.xs else l.aH,decide (7<=n.kind),kM ts q (aY l.ah r.ah) (aY (aY l.aG r.aG) n.cl.xs),
   uF n.kind (kM ts q (aY l.ah r.ah) (aY (aY l.aG r.aG) n.cl.xs)) l r⟩ else none:=by unfold oJ oP;grind
structure Ok(ts:JK af)(q:ae):Prop where
 qP:gV ts=T
 au:dm q.au.xs (N ts)=T
 ig:N q.au.xs<=64
 qU:N q.wh<=64
 bU:Cs ts q
 some:∀i,i<N q.wh->0<(E q.wh i lz).cs.length
theorem acw{a b:IC}(ha:cK n a)(hb:cK n b)(hd:b.Nodup):decide (bn a &&& bn b=0)=decide (N (aY a b)=N a+N b):=by grind [Rx,Mw]
def acy{q:ae}{p:dG}{v:dX}(h:PV q p v):wZ q p=Mv q v:=by
 unfold wZ Mv;rw[h.ah,h.aG];congr 1
 .rw[Xa,Zi,Zi];exact Ry h.jL h.AV
 .rw[Xa,Zi,Zi];exact Ry h.uq h.Hd
def qV{ts:JK af}{q:ae}(h:jI ts q l s=T):cK (N q.wh) l:=λx b=>by obtain⟨i,a,e⟩:=Ze b;unfold jI at h;rw[Q9]at h;have d:=h i (Xd.2 a);simp_all
def WI{ts:JK af}{q:ae}(ok:Ok ts q){a b:IC}(ha:cK (N q.au.xs) a)(hb:cK (N q.au.xs) b)(l:IC):vg ts q l (bn a|||bn b)=jI ts q l (aY a b):=by rw[<-Cr ha hb];exact Fx ok.qP ok.au ok.ig ok.bU (ha.with hb) l
def aks{ts:JK af}{q:ae}(ok:Ok ts q)(n:ay){a b:IC}(ha:cK (N q.au.xs) a)(hb:cK (N q.au.xs) b)(hl:jI ts q n.cl.xs (aY a b)=T) :
  (lZ ts q n (bn a) (bn b)).2.2=(decide (n.key∈n.cl.xs)&&(kS ts q.au.xs (E q.wh n.key.toNat lz).cs a b).2.2)/\
  ((lZ ts q n (bn a) (bn b)).2.2=T->lZ ts q n (bn a) (bn b)=kS ts q.au.xs (E q.wh n.key.toNat lz).cs a b):=by
 unfold lZ;by_cases c:n.key∈n.cl.xs
 .have d:=qV hl _ c;rw[Zd ⟨c,d.1,d.2⟩,Zl c,Zm];obtain⟨e,f⟩:=Mx ok.qP ok.au ok.ig (cs:=(E q.wh n.key.toNat lz).cs) (ok.some _ X) (ok.bU _ X) ha hb
  simp_all
 simp_all
theorem RI{ts:JK af}{q:ae}(ok:Ok ts q){n:ay}(hp:fK n=T)(h2:2<=n.kind)(KY:n.kind<=10){l r:dG}{vl vr:dX}(hl:PV q l vl)(hr:PV q r vr)
  (h1:bg n.kind≠2->r=pz/\vr=vz):(nE n.kind l r&&pI ts q n l r)=oP ts q n vl vr:=by
 unfold fK at hp;rw[Zi]at hp;obtain⟨_,_,_,_,B,t⟩:=hp;have k:nE n.kind l r = !(vr.out ||(vl.out != decide (n.kind=10))):=by unfold nE;rw[hl.out,hr.out];grind
 unfold oP;rw[k]
 cases hA:!(vr.out ||(vl.out != decide (n.kind=10))) with
 |false=>rfl
 |true =>
  rw[Zm,Zm];have d:vr.out=F/\vl.out=decide (n.kind=10):=by simp_all
  have one:bg n.kind≠2->n.cl.xs=[]->decide (N (aY vl.ah vr.ah)=N vl.ah+N vr.ah)=T/\jI ts q n.cl.xs (aY vl.ah vr.ah)=true:=by intro a z;rw[(h1 a).2,z];exact⟨Zl rfl,rfl⟩
  have f:¬(n.kind=2∨3<=n.kind/\n.kind<=5)->n.cl.xs=[]:=λe=>by grind
  have join:∀i:Bool,(zU ts q n l.ah r.ah&&i)=(decide (N (aY vl.ah vr.ah)=N vl.ah+N vr.ah)&&jI ts q n.cl.xs (aY vl.ah vr.ah)&&i):=λi=>by unfold zU;rw[hl.ah,hr.ah,acw hl.jL hr.jL hr.AV,WI ok hl.jL hr.jL]
  unfold pI Fu;rw[Zk (show ¬n.kind=1 by omega)];by_cases k2:n.kind=2
  .have a:bg n.kind≠2:=by rw[k2];decide
   rw[Zd k2,Zd k2,(h1 a).2,hl.ah];have e:=Fx ok.qP ok.au ok.ig ok.bU hl.jL n.cl.xs;rw[e,show aY vl.ah vz.ah=vl.ah from rfl,show (N vz.ah)=0 from rfl,Xg,Zl rfl,Zm,Bool.and_comm]
  rw[Zk k2,Zk k2];by_cases k3:n.kind=3
  .simp_all
  rw[Zk k3];by_cases b:n.kind=4∨n.kind=5
  .rw[Zd b,<-join];by_cases j:jI ts q n.cl.xs (aY vl.ah vr.ah)=T
   .obtain⟨u,a2⟩:=aks ok n hl.jL hr.jL j;rw[<-hl.ah,<-hr.ah]at u a2;have g:vl.out=false:=Qb
    rw[hl.aH g,hr.aH d.1];grind
   .have m:jI ts q n.cl.xs (aY vl.ah vr.ah)=false:=Qf
    have A:zU ts q n l.ah r.ah=false:=by simp_all
    grind
  rw[Zk b,Zk (show ¬n.kind=4 by omega),Zk (show ¬n.kind=5 by omega)];have a:bg n.kind≠2:=by unfold bg;grind
  obtain⟨v,y⟩:=one a (f X);rw[v,y,Zm,Zm];by_cases k6:n.kind=6
  .rw[Zd k6,Zd k6,hl.ah];have p:=Nat.pos_of_ne_zero (t.1 k6);exact agv ok.qP ok.au ok.ig hl.jL p
  rw[Zk k6,Zk k6];rw[acy hl];by_cases k7:n.kind=7
  .simp_all
  rw[Zk k7,Zk k7];by_cases k8:n.kind=8
  .rw[Zd k8,Zd k8];have g:vl.out=false:=Qf
   rw[hl.aH g]
  grind
theorem RJ{ts:JK af}{q:ae}(ok:Ok ts q){n:ay}(hp:fK n=T)(h2:2<=n.kind)(KY:n.kind<=10){l r:dG}{vl vr:dX}(hl:PV q l vl)(hr:PV q r vr)(hz:vl.size=kM ts q vl.ah vl.aG)
  (h1:bg n.kind≠2->r=pz/\vr=vz) {v:dX} (hv:oJ ts q n vl vr=O v):PV q (eP ts q n l r) v/\v.size=kM ts q v.ah v.aG:=by
 rw[pJ]at hv;by_cases b:oP ts q n vl vr=T
 .rw[Zd b]at hv;injection hv with hv;subst hv;unfold oP at b;simp only[Q8,Zi]at b;obtain⟨⟨⟨y,_⟩,g⟩,_⟩:=b;have i:=qV g;have m:vl.out=decide (n.kind=10):=by simp_all
  have d:gI n.kind=decide (7<=n.kind):=by unfold gI;simp_all
  have j:(if n.kind=1 then 2 ^ n.source.toNat else 0)|||l.ah|||r.ah=bn (aY vl.ah vr.ah):=by rw[Zk X,Nat.zero_or,hl.ah,hr.ah,Cr hl.jL hr.jL]
  have k:bn n.cl.xs|||l.aG|||r.aG=bn (aY (aY vl.aG vr.aG) n.cl.xs):=by rw[Cr (hl.uq.with hr.uq) i,Cr hl.uq hr.uq,hl.aG,hr.aG,Nat.or_assoc,Nat.or_comm]
  have a:=(hl.uq.with hr.uq).with i;have p:(if gI n.kind=T then l.size else jd ts q (bn (aY vl.ah vr.ah)) (bn (aY (aY vl.aG vr.aG) n.cl.xs)))=kM ts q (aY vl.ah vr.ah) (aY (aY vl.aG vr.aG) n.cl.xs):=by
   by_cases f:7<=n.kind
   .rw[d,Zl f,Zd rfl,hl.size,hz];have t:bg n.kind≠2:=by unfold bg;grind
    have u:n.cl.xs=[]:=by unfold fK at hp;grind
    rw[(h1 t).2,u];rfl
   .rw[d,ZK f,Zk Qa];exact RF ts q ok.qU ok.ig (hl.jL.with hr.jL) (lQ hl.AV) a
  refine⟨?_,rfl⟩;refine⟨d,j,hl.jL.with hr.jL,lQ hl.AV,k,a,lQ (lQ hl.Hd),?_,?_,?_⟩
  .intro e;have f:=of_decide_eq_false e
   show (if n.kind=6 then n.co.xs else if 2<=n.kind/\n.kind<=5 then l.aH else [])=if n.kind=6 then n.co.xs else vl.aH;split
   .rfl
   .rw[Zd X];exact hl.aH Qb
  .show (if gI n.kind=T then l.size else jd ts q ((if n.kind=1 then 2 ^ n.source.toNat else 0)|||l.ah|||r.ah) (bn n.cl.xs|||l.aG|||r.aG))=_
   simp_all
  .show dn n.kind (if gI n.kind=T then l.size else jd ts q ((if n.kind=1 then 2 ^ n.source.toNat else 0)|||l.ah|||r.ah) (bn n.cl.xs|||l.aG|||r.aG)) l.aJ l.size r.aJ r.size=_
   rw[j,k,p,hl.aJ,hl.size,hr.aJ,hr.size];exact RH _ _ _ _
 simp_all
def xJ(n:ay):Bool:=
 decide ((1<=bg n.kind∨n.l=0)/\(2<=bg n.kind∨n.r=0)/\(n.kind=1∨n.source=0)/\(n.kind=4∨n.kind=5∨n.key=0)/\
  (n.kind=2∨3<=n.kind/\n.kind<=5∨N n.cl.xs=0)/\(n.kind=6∨N n.co.xs=0))
def p8(n:ay)(i:Nat):Bool:=
 decide (1<=n.kind)&&decide (n.kind<=10)&&xJ n&&(decide (bg n.kind<1) ||(decide (0<=n.l)&&decide (n.l<i)))&&(decide (bg n.kind<2) ||(decide (0<=n.r)&&decide (n.r<i)))
def iK(n:ay)(ps:JK dG):dG:=if 1<=bg n.kind then E ps n.l.toNat pz else pz
def gD(n:ay)(ps:JK dG):dG:=if bg n.kind=2 then E ps n.r.toNat pz else pz
def zV(ts:JK af)(q:ae)(n:ay)(ps:JK dG):Option (JK dG):=
 if (nE n.kind (iK n ps) (gD n ps)&&pI ts q n (iK n ps) (gD n ps))=T then O (ps++[eP ts q n (iK n ps) (gD n ps)]) else Qr
def mO(ts:JK af)(q:ae)(plan:JK ay):Nat->Option (JK dG)
 |0=>O []
 |k+1=>(mO ts q plan k).bind (zV ts q (E plan k nz))
def yL(ts:JK af)(q:ae)(plan:JK ay):∀(f g i:Nat),i<f->i<g->pG ts q plan f i=pG ts q plan g i
 |0,_,_,h,_=>X
 |_,0,_,_,h=>X
 |f+1,g+1,i,h1,h2=>by
  unfold pG;simp only;generalize E plan i nz=n;split
  .rfl
  split
  .rfl
  split
  .rfl
  rename_i c;rw[yL ts q plan f g n.l.toNat X X];split
  .rfl
  split
  .split
   .rfl
   .rename_i d
    rw[yL ts q plan f g n.r.toNat X X]
  .rfl
theorem DW(n:ay):fK n=(xJ n&&decide (n.kind=6->N n.co.xs≠0)):=by unfold fK xJ;grind
structure aH1{α:Type}(lt:α->α->Bool):Prop where
 aH2:∀{x y},lt x y=T->lt y x=F
 trans:∀{x y z},lt x y=T->lt y z=T->lt x z=T
 aDv:∀{x y z},lt y x=F->lt z y=F->lt z x=F
section
variable {α:Type} {lt:α->α->Bool}
end
theorem fH.aj{w w':U}(hb:Bw w w'){ao:LM}{ns:JK ay}(h:fH w ao ns):fH w' ao ns:=
 ⟨h.1,λi p=>by
  obtain⟨b,off,e,a,d,f,g,j,k,l,m,n⟩:=h.2 i p;exact⟨b,off,e,cB hb a,cB hb d,cB hb f,cB hb g,cB hb j,cB hb k,cB hb l,Zc hb m,Zc hb n⟩⟩
def iz:aA:=⟨Qr,0,[]⟩
def asR(w:U)(ao:LM)(rs:JK aA):Prop:=
 N rs<=1152921504606846976/\dC w ao (N rs) (λi=>(E rs i iz).val)/\∀i,i<N rs->(E rs i iz).At w
structure ars where
 ad:LM
 cap:Nat
 rs:JK aA
def rz:ars:=⟨Qr,0,[]⟩
section
structure aB(s:Pm)(A B:U):Prop where
 os:B.os=A.os
 tape:B.tape=A.tape
 output:B.output=A.output
 size:M (H A)<=M (H B)
 block:∀k,k<M (H A)->s k->B.heap[k]? = A.heap[k]?
def aB.refl(s:Pm)(A:U):aB s A A:=⟨rfl,rfl,rfl,Zb _,λ_ _ _=>rfl⟩
def aB.trans{s:Pm}{A B C:U}(h:aB s A B)(k:aB s B C):aB s A C:=
 ⟨k.os.trans h.os,k.tape.trans h.tape,k.output.trans h.output,ZU h.size k.size,λi a b=>(k.block i (ZO a h.size) b).trans (h.block i a b)⟩
def aB.mono{s t:Pm}{A B:U}(h:aB s A B)(hs:∀b,b<M (H A)->t b->s b):aB t A B:=
 ⟨h.os,h.tape,h.output,h.size,λi a d=>h.block i a (hs i a d)⟩
def aB.dL{s t:Pm}{A C:U}(h:aB s A B)(k:aB t B C)(hs:∀b,b<M (H A)->s b->t b):aB s A C:=
 ⟨k.os.trans h.os,k.tape.trans h.tape,k.output.trans h.output,ZU h.size k.size,λi d a=>(k.block i (ZO d h.size) (hs i d a)).trans (h.block i d a)⟩
def aB.WK{s:Pm}{B:Nat}{w w':U}(h:Below B w w')(hs:∀b,b<M (H w)->s b->b<B):aB s w w':=
 ⟨h.os,h.tape,h.output,h.size,λk a d=>h.block k (hs k a d)⟩
def aB.be{s:Pm}{w w':U}(h:Bw w w'):aB s w w':=aB.WK h λ_ h _=>h
theorem aB.aj{s:Pm}{B:Nat}{w w':U}(h:aB s w w')(hB:B<=M (H w))(hs:∀b,b<B->s b):Below B w w':=
 ⟨h.os,h.tape,h.output,h.size,λk a=>h.block k (ZO a hB) (hs k a)⟩
def aB.putObj{s:Pm}(W:U){r:Nat}(o:Obj)(hr:¬s r):aB s W (W.putObj r o):=
 ⟨rfl,rfl,rfl,Qa,λk _ a=>World.putObj_heap_other (λe=>hr (e ▸ a))⟩
def aB.alloc{s:Pm}(W:U)(o:Obj):aB s W (W.alloc o):=
 ⟨rfl,rfl,rfl,Qa,λk a _=>Below.heap_alloc W o k a⟩
structure El(α κ:Type) where
 enc:α->Ql
 At:α->U->Prop
 blk:α->Option Nat
 key:α->κ
 bT:∀{x A B},At x A->M (H A)<=M (H B)->(∀b,b<M (H A)->blk x=O b->B.heap[b]? = A.heap[b]?)->At x B
 inn:∀{x A b},At x A->blk x=O b->b<M (H A)
variable {α κ:Type} (Eq:El α κ)
def DY(Iq:List α->(Pm)->U->Prop)(pre:List α)(x:α)(n:Nat)(o1:Pm)(W:U):Exit->Act->U->Prop
 |.normal,_,W'=>∃o2,Iq (pre++[x]) o2 W'/\aB (λb=>¬o1 b) W W'/\∀b,o2 b->o1 b∨(M (H W)<=b/\b<M (H W'))∨(Eq.blk x=O b/\n<=b)
 |_,_,_=>False
end
def Xj:=@aB.refl
def Xk:=@aB.WK
def Xl:=@aB.be
def Xm:=@aB.putObj
def Xo:=@aB.alloc
section
theorem kX{p:Addr}(h:w.cell? p=O v):p.block<M (H w):=by unfold World.cell? at h;grind
def dC.bT{A:U}{f:Nat->Ql}(h:dC A ao n f)(hb:∀a,ao=O a->a.block<M (H A)->B.heap[a.block]? = A.heap[a.block]?):dC B ao n f:=by intro i g;obtain⟨b,off,rfl,d⟩:=h i g;have e:b<M (H A):=kX (p:=(aD b (off+i))) d;exact⟨b,off,rfl,(Xr (a:=(aD b (off+i))) (hb (aD b off) rfl e)).trans d⟩
def agB(rs:List α)(d:α)(hk:k<N rs):rs.take k++[E rs k d]=rs.take (k+1):=by rw[Q5 hk];simp[List.getD,hk]
attribute [local go_sem] Oper.semAt_some
end
section
def agC{A B:U}{p:Addr}{v:Ql}{s:Pm}(h:A.cell? p=O v)(hk:aB s A B)(hs:s p.block):B.cell? p=O v:=
 (Xr (hk.block _ (kX h) hs)).trans h
attribute [local go_sem] Oper.semAt_some
end
def Xt:=@agC
@[reducible] def Cb (f:Nat) (a:Array Ql) (w:U) (v:Ql):Prop:=Calls V f a w λe w'=>e=Qu v/\Bw w w'
@[reducible] def Ce (f:Nat) (a:Array Ql) (w:U) (v:Ql):Prop:=Calls V f a w λe w'=>e=Qu v/\w' = w
section
theorem aB.setCell{s:Pm}(W:U)(a:Addr)(v:Ql)(hr:¬s a.block):aB s W (W.setCell a v):=
 ⟨rfl,rfl,rfl,by simp[World.setCell],λk _ b=>Below.heap_setCell W a v k (λe=>hr (e ▸ b))⟩
def aB.grown{s:Pm}{A B:U}{row:Option Nat}(hg:A.grownBy B row)(hr:∀r,row=O r->¬s r):aB s A B:=
 ⟨hg.os,hg.tape,hg.output,hg.size,λk a b=>hg.block k a (λe=>hr k e.symm b)⟩
def Uj{A B:U}{base:Nat}{e:TypeId}{sz:Nat}{v:Ql}{n:Nat}{xs:JK Ql}(h:A.ownsRow base e sz v n xs){s:Pm}(hk:aB s A B)(hs:∀g,v.ownBlock=O g->s g):B.ownsRow base e sz v n xs:=by
 refine⟨h.1,?_⟩;rcases h.2 with h|⟨g,cap,b,rfl,d,a,f,i,j,k⟩
 .exact .inl h
 .exact .inr ⟨g,cap,b,rfl,d,(hk.block g (Xx.1 a).1 (hs g rfl)).trans a,f,i,j,k⟩
theorem acz{A:U}{base:Nat}{e:TypeId}{sz:Nat}{v:Ql}{n:Nat}{xs:JK Ql}(h:A.ownsRow base e sz v n xs){g:Nat}(hg:v.ownBlock=O g):base<=g/\g<M (H A):=by
 rcases h.2 with⟨rfl,_⟩|⟨g',cap,iw,rfl,hb,hg',_⟩
 .cases hg
 .cases hg
  grind
def Pk{A:U}{base:Nat}{e:TypeId}{sz:Nat}{v:Ql}{n:Nat}{xs:JK Ql}(h:A.ownsRow base e sz v n xs):∃a m cap,v=Z a m cap:=by
 rcases h.2 with⟨rfl,_⟩|⟨g',cap,iw,rfl,_⟩
 .exact⟨_,_,_,rfl⟩
 .exact⟨_,_,_,rfl⟩
attribute [local go_sem] Oper.semAt_some
def Tryz.WL:(V.info? 26).map (λi=>(i.zero,i.size,i.bytes))=O (O (Z Qr 0 0),1,24):=Qd
end
def Xu:=@aB.setCell
def Xv:=@aB.grown
def Xw:=@Uj
def Xy:=@acz
def Xz:=@Pk
def jN(rs:JK aA):IC:=(rs.map (·.xs)).flatten
def ME{rs:JK aA}(hk:k<N rs):jN (rs.take (k+1))=jN (rs.take k)++(E rs k iz).xs:=by unfold jN;rw[<-agB rs iz hk,Q7,List.flatten_append];simp
def WM{rs:JK aA}:N (jN (rs.take k))<=N (jN rs):=by
 have h:jN rs=jN (rs.take k)++jN (rs.drop k):=by unfold jN;rw[<-List.flatten_append,<-Q7,XA]
 rw[h,Zt];omega
def Tryz.agD:Go.Shelf.Ren:=⟨fun|4=>192|n=>n,fun|22=>26|25=>3|3=>3|4=>4|9=>9|20=>20|0=>0|n=>n,fun|n=>n⟩
def Tryz.aru:Go.Proofs.Lays8.n4 V Tryz.agD:={
 mixed:=Qd
 f4:=⟨Tryz.f192.name,Qc,func192.trans (congrArg O Qd)⟩
 t0:=underlying0
 a0:=isAgg0
 z0:=sizeOf0
 v0:=zeroValue0
 t3:=underlying3
 a3:=isAgg3
 z3:=sizeOf3
 v3:=zeroValue3
 t4:=underlying4
 a4:=isAgg4
 z4:=sizeOf4
 v4:=zeroValue4
 t9:=underlying9
 a9:=isAgg9
 z9:=sizeOf9
 v9:=zeroValue9
 t20:=underlying20
 a20:=isAgg20
 z20:=sizeOf20
 v20:=zeroValue20
 t22:=underlying26
 a22:=isAgg26
 z22:=sizeOf26
 v22:=zeroValue26 }
def Tryz.uN:(V.info? 3).map (λi=>(i.zero,i.size,i.bytes))=O (O (I J 0),1,8):=Qd
def akt(n:Nat)(w:U)(hn:n<=1000000) :
  Calls V 192 #[Z Qr 0 0,I J n] w λe b=>∃v,e=Qu v/\b.ownsRow (M (H w)) 3 1 v 0 []/\Bw w b:=by
 obtain⟨i0,j,d,f,g⟩:=XB Tryz.uN;by_cases k:n=0
 .subst k;have h:=Any8.slices_Grow_room Tryz.aru Qr 0 0 0 w (Zb _) X X X;change Calls V 192 _ _ _ at h;refine h.mono ?_;rintro e b ⟨rfl,rfl⟩;exact⟨_,rfl,XC _ _ _ _,Za _ _⟩
 .have h:=Any8.slices_Grow_grow Tryz.aru i0 (I J 0) j d (by rw[f];decide) Qr 0 0 n [] w (Zb _) X (by rw[g];omega) X Qa (λ_=>rfl) (λa e=>by cases e);change Calls V 192 _ _ _ at h;refine h.mono ?_;rintro e b ⟨rfl,rfl⟩;refine⟨_,rfl,⟨Qa,.inr ⟨M (H w),_,_,rfl,Zb _,qj w.drew _,ZR _,?_,?_,Qa⟩⟩,?_⟩
  .exact grownCap_le_maxLen _ _ _ _ Qg
  .have i:=grownCap_ge w (0+n) 0 3;have hz:(Value.int J 0).cells.size=1:=rfl;simp only[Array.size_append,size_zeroCells,hz,XD,XE]
   show 0+(0+n-0)*1+(grownCap w (0+n) 0 3-(0+n))*1=grownCap w (0+n) 0 3*1;omega
  .exact(Za _ w).drew.alloc (Zb _) _
def acA(ao:LM)(cap:Nat)(rs:JK aA)(w:U)(hr:asR w ao rs)(hn:N rs<=1000)(jR:∀i,i<N rs->(E rs i iz).ad=Qr->(E rs i iz).cap=0)(ht:N (jN rs)<=100000) :
  Calls V 150 #[Z ao (N rs) cap] w λe w'=>∃v,e=Qu v/\w'.ownsRow (M (H w)) 3 1 v (N (jN rs)) ((jN rs).map (Value.int J))/\Bw w w':=by
 obtain⟨i0,hi,ah,ai,aj⟩:=XB Tryz.uN;have S:Qm _:=hr;obtain⟨HN,HT⟩:=bH jR ht;clear hr jR ht;go_enter func150,ntmps150;go_wp2;go_loopw [3,11] (λs i wr=>∃k:Nat,k<=N rs/\i=I J k/\s=I J (N (jN (rs.take k)))/\w=wr) (λ_ i _=>N rs-(intOf i).toNat)
 case atStart=>exact⟨0,ZR _,rfl,rfl,rfl⟩
 case round=>
  obtain⟨k,hk,rfl,rfl,rfl⟩:=hrel;by_cases q:k<N rs
  .obtain⟨b,off,rfl,K⟩:=S.o.2.1.get q;have g:=K k q;have n:N (jN (rs.take (k+1)))<=100000:=ZU WM HT.o;have W:N (jN (rs.take (k+1)))=N (jN (rs.take k))+(E rs k iz).xs.length:=by rw[ME q,Zt]
   have HS:=Zh W;generalize E rs k iz=x at*;obtain⟨p,R,d⟩:=x;have aa:Qo w (aD b (off+k))=O (Z p (N d) R):=g;have hw:wrap64 ((N (jN (rs.take k)):Int)+(N d:Int))=((N (jN (rs.take k))+N d:Nat):Int):=by simp only at W;unfold wrap64;omega
   have av:¬(((N (jN (rs.take k))+N d:Nat):Int)<0):=X;have ae:=Zh hw;clear g K n W;generalize N (jN (rs.take k))=a at*;go_wp2;go_roundw
   case rel=>exact⟨k+1,X,Qe,by rw[HS.o];exact congrArg (Value.int J) ae.o,trivial⟩
   case measure=>exact XK
  .have r:k=N rs:=X
   subst r;rw[Z0];have ht:=HT.o;generalize Q:jN rs=fl at*;have HF:=Zh Q;clear Q;go_wp2_with fail;refine(akt (N fl) w X).mono ?_;rintro e w2 ⟨v0,rfl,z,ak⟩;go_wp2;go_loopw [6,27] (λv i wr=>∃k:Nat,k<=N rs/\i=I J k/\wr.ownsRow (M (H w)) 3 1 v (N (jN (rs.take k))) ((jN (rs.take k)).map (Value.int J))/\Bw w wr) (λ_ i _=>N rs-(intOf i).toNat)
   case atStart=>exact⟨0,ZR _,rfl,z,ak⟩
   case round=>
    obtain⟨k,hk,rfl,A,B⟩:=hrel;by_cases q:k<N rs
    .obtain⟨b,off,rfl,K⟩:=S.o.2.1.get q;have g:=(cB B (K k q))
     have jl:(E rs k iz).At wr:=Zc B (S.o.2.2 k q);have C:=HN.o k q;have n:N (jN (rs.take (k+1)))<=100000:=by have h1:N (jN (rs.take (k+1)))<=N (jN rs):=WM;rw[HF.o]at h1;omega
     have t:=ME q;have D:=Zh t;rw[t,Zt]at n;generalize E rs k iz=x at*;obtain⟨p,R,d⟩:=x;simp only at C n;have aa:Qo wr (aD b (off+k))=O (Z p (N d) R):=g;have HA:Qm _:=jl;clear g K t jl;generalize jN (rs.take k)=fk at*;have ni:=B.size
     cases p with
     |none =>
      have VX:d=[]:=by
       cases d with
       |nil=>rfl
       |cons a l=>obtain⟨b,off,e,_⟩:=HA.o.2 0 Qa;cases e
      subst VX;obtain rfl:=C rfl;go_wp2_with (first|(at_builtin;refine wpList_append_own_none rfl _ _ 26 rfl (M (H w)) 3 i0 1 underlying26 hi _ _ _ rfl A rfl ?_));go_wp2;go_roundw
      case rel=>exact⟨k+1,X,Qe,by rw[D.o];simpa using A,B⟩
      case measure=>exact XK
     |some xa =>
      have af:=Zh (by  simp:N (d.map (Value.int J))=N d*1)
      have HQ:Qm (∀j u,(d.map (Value.int J))[j]? = O u->wr.cell? (xa.add j)=O u):=by
       intro j u P;have y:j<N d:=by have:=(XF.1 P).1;simpa using this
       obtain⟨b2,L,e2,au⟩:=HA.o.2 j y;cases e2;rw[Zv,XG y]at P;cases P;have G:=au;simp only[List.getD,XG y,Option.getD_some]at G;have ha:((aD b2 L):Addr).add j=(aD b2 (L+j)):=by
        unfold Addr.add;split
        .simp_all
        .rfl
       rw[ha];exact G
      have ag:Qm (∀u∈d.map (Value.int J),u.oneCell' = T):=by intro u hu;obtain⟨a,_,rfl⟩:=Xc.1 hu;rfl
      go_wp2_with (first|(at_builtin;refine wpList_append_own _ rfl _ _ 26 rfl (M (H w)) 3 i0 (.int J 0) 1 8 underlying26 hi ah ai aj rfl Qc _ _ _ rfl A xa (N d) R (d.map (Value.int J)) rfl af.o HQ.o ag.o Qg X ni ?_));intro v' w1 m f _;have bL:=B.grown f ni (λj P=>(A.lt j P).1);have HO:Qm _:=m;clear m f A;go_wp2;go_roundw
      case rel=>exact⟨k+1,X,Qe,by rw[D.o,Zt,Q7];exact HO.o,bL⟩
      case measure=>exact XK
    .have r:k=N rs:=X
     subst r;rw[Z0,HF.o]at A;go_wp2;go_ret;refine⟨_,rfl,?_,B⟩;rw[HF.o];exact A
def GB.alloc(w:U)(c:Array Ql)(t:TypeId):GB (w.alloc (Qs c t)) (M (H w)) t c:=qj w _
def GB.bT{s:Pm}(h:GB w G t c)(hk:aB s w w')(hs:s G):GB w' G t c:=h.of (hk.block G h.lt hs)
def lS(B:Nat):Nat->JK Ql->U->U
 |_,[],W=>W
 |o,v::vs,W=>lS B (o+1) vs (Qn W (aD B o) v)
def I6:Nat->JK Ql->Array Ql->Array Ql
 |_,[],c=>c
 |o,v::vs,c=>I6 (o+1) vs (c.setIfInBounds o v)
def yM{B:Nat}{t:TypeId}:∀{vs:JK Ql} {o:Nat} {W:U} {c:Array Ql},GB W B t c->GB (lS B o vs W) B t (I6 o vs c)
 |[],_,_,_,h=>h
 |v::vs,o,_,_,h=>yM (vs:=vs) (o:=o+1) (h.set o v)
def lI{B:Nat}:∀(vs:JK Ql) (o:Nat) (W:U),aB (λb=>b≠B) W (lS B o vs W)
 |[],_,_=>Xj _ _
 |_::vs,_,_=>(Xu _ _ _ (λh=>h rfl)).trans (lI vs _ _)
section
variable {α β:Type} {lt:α->α->Bool} {lt':β->β->Bool} {f:α->β}
end
def art(xs bU:IC):IC:=bU.map λc=>E xs c.toNat 0
def aDw(s v:Int):Int:=if v=1073741824 then s else if s=1073741824 then v else s+v
def awW(ss row bU:IC):IC:=List.zipWith (λs c=>aDw s (E row c.toNat 0)) ss bU
structure Gr where
 key:IC
 cnt:Nat
 ss:IC
def awX(row sc:IC)(g:Gr):Gr:=⟨g.key,g.cnt+1,awW g.ss row sc⟩
def aDy(key:IC)(n:Nat):Gr:=⟨key,0,List.replicate n 1073741824⟩
def awY(ks:JK (IC))(key:IC):Option Nat:=ks.findIdx? (λk=>decide (k=key))
def stepG(kc sc:IC)(gs:JK Gr)(row:IC):JK Gr:=
 match awY (gs.map Gr.key) (art row kc) with
 |some i=>gs.modify i (awX row sc)
 |none=>gs++[awX row sc (aDy (art row kc) (N sc))]
def asS(db:JK ars)(t:Int):JK (IC):=(E db t.toNat rz).rs.map (·.xs)
def mg{a:Nat}(h:a=b):Ending.returned (I Qp (a:Int))=Qu (I Qp (b:Int)):=by rw[h]
def yO(h:n<=bO):IntKind.u64.wrap (n:Int)=n:=by unfold bO at h;rw[XZ];omega
def WU:∀(k v:Nat),v<2 ^ k->jY v<=k
 |0,v,h=>by
  have:v=0:=by simpa using h
  rw[this,sw];exact Zb _
 |k+1,v,h=>by
  by_cases h0:0<v
  .rw[xD h0];have:=WU k (v / 2) (by rw[Nat.pow_succ]at h;omega);omega
  .have:v=0:=X
   rw[this,sw];omega
def WV{v:Nat}(h:v<=18446744073709551615):jY v<=64:=WU 64 v X
def akB(a b:Nat)(ha:a<=bO)(hb:b<=bO)(w:U):Ce 112 #[I Qp a,I Qp b] w (I Qp (cO a b:Nat)):=by
 have d:Qm (cO a b=if a > bO-b then bO else a+b):=akp hb;unfold bO at ha hb;by_cases h:a > 18446744073709551615-b
 .go_enter func112,ntmps112;go_wp2;go_ret;refine⟨mg (a:=18446744073709551615) ?_,rfl⟩;rw[d.o,Zd (by unfold bO;omega)];rfl
 .go_enter func112,ntmps112;go_wp2;go_ret;refine⟨?_,rfl⟩;rw[d.o,Zk (by unfold bO;omega)];rfl
def RX(a b:Nat)(ha:a<=bO)(hb:b<=bO)(w:U):Ce 110 #[I Qp a,I Qp b] w (I Qp (bQ a b:Nat)):=by
 by_cases g:a=0
 .subst g;rw[IV];go_enter func110,ntmps110;go_wp2;go_ret;exact⟨rfl,rfl⟩
 have f:Qm (bQ a b=if b > bO / a then bO else a*b):=ags g;unfold bO at ha hb;have j:=Nat.pos_of_ne_zero g;have hd:18446744073709551615 / a<=18446744073709551615:=Nat.div_le_self _ _;have k:((18446744073709551615:Int)).tdiv (a:Int)=((18446744073709551615 / a:Nat):Int):=by rw[Int.tdiv_eq_ediv_of_nonneg X,Int.natCast_ediv];rfl
 by_cases h:b > 18446744073709551615 / a
 .have e:Qm (bQ a b=bO):=by show bQ a b=bO;rw[f.o,Zd (by unfold bO;exact h)]
  clear f;generalize 18446744073709551615 / a=d at*;go_enter func110,ntmps110;go_wp2;go_ret;refine⟨mg (a:=18446744073709551615) ?_,rfl⟩;rw[e.o];rfl
 .have e:Qm (bQ a b=a*b):=by show bQ a b=a*b;rw[f.o,Zk (by unfold bO;exact h)]
  have i:a*b<=18446744073709551615:=by have:=nV a b;rw[e.o]at this;exact this
  have l:IntKind.u64.wrap ((a:Int)*(b:Int))=((a*b:Nat):Int):=by have:=yO (n:=a*b) i;rw[Int.natCast_mul]at this;rw[this,Int.natCast_mul]
  clear f i;generalize 18446744073709551615 / a=d at*;go_enter func110,ntmps110;go_wp2;go_ret;refine⟨?_,rfl⟩;rw[e.o,Int.natCast_mul];rfl
def akC(a:Nat)(ha:a<=bO)(w:U):Ce 113 #[I Qp a] w (I Qp (jY a:Nat)):=by
 unfold bO at ha;have e:=Zh (WV ha);go_enter func113,ntmps113;go_wp2;go_loop [0,3] (λv n=>∃x k:Nat,v=I Qp x/\n=I Qp k/\x<=18446744073709551615/\k+jY x=jY a) (λv _=>(intOf v).toNat)
 case atStart=>exact⟨a,0,rfl,rfl,ha,ZT _⟩
 case round=>
  obtain⟨x,k,rfl,rfl,p,b⟩:=hrel;have f:=e.o;have j:=Zh b;by_cases g:0<x
  .have l:((x:Int)).tdiv 2=((x / 2:Nat):Int):=by rw[Int.tdiv_eq_ediv_of_nonneg X,Int.natCast_ediv];rfl
   have hd:x / 2<=18446744073709551615:=X;have m:x / 2<x:=X;have i:k+1<=64:=by rw[xD g]at b;omega
   have d:=Zh (by rw[xD g]at b;omega:k+1+jY (x / 2)=jY a)
   clear b f;generalize x / 2=y at*;go_wp2;go_round
   case rel=>exact⟨y,k+1,rfl,rfl,hd,d.o⟩
   case measure=>exact XK
  .obtain rfl:x=0:=X
   rw[sw,Xg]at b;clear f;have i:k<=64:=Qj e.o;have d:=Zh b;clear b;go_wp2;go_ret;exact⟨mg d.o,rfl⟩
structure Chk(ts:JK af)(q:ae):Prop where
 qP:gV ts=T
 au:dm q.au.xs (N ts)=T
 jM:N q.au.xs<=5
 ko:N q.wh<=8
 bU:Cs ts q
 some:∀i,i<N q.wh->0<(E q.wh i lz).cs.length
 amc:∀i,i<N q.wh->(E q.wh i lz).cs.length<=3
theorem Chk.ok{ts:JK af}{q:ae}(h:Chk ts q):Ok ts q:=⟨h.qP,h.au,Qj h.jM,Qj h.ko,h.bU,h.some⟩
structure Wz(p:Prop):Prop where
 wz:p
def gQ{G R:Prop}(k:R)(g:Wz R->G:=by intro a;go_wp2;go_roundw;(case rel=>exact a.wz);(case measure=>simp[intOf];omega)):G:=g ⟨k⟩
def mR{p:Program}{f:Nat}{a:Array Ql}{R:U->Prop}{Q:Ending->U->Prop}(h:Calls p f a w λe x=>e=Qu v/\R x)(k:∀x,R x->Q (Qu v) x):Calls p f a w Q:=h.mono λ_ x h=>h.1 ▸ k x h.2
