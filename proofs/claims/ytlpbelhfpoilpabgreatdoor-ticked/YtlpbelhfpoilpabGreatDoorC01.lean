import Derived.Deep.RegionHeld
import Derived.WalkKit
import Derived.Deep.QuietTactic
import Derived.BigQuiet
import Derived.WalkSmall
import Derived.Laws.BitsAllLaws
set_option linter.all false
set_option maxRecDepth 100000
set_option maxHeartbeats 16000000
namespace Go
theorem wT {P:Program} {ops:Array Oper} {Q:Exit->Act->World->Prop} {md:Region.Mode} {S:World->Prop} {fuel:Nat} {listed:Array Bool} {a:Act} {w:World} {oi:Oper} (i:Nat) (v:Value) (hS:S w) (hy:∀ x,S x->(execOp a.eval oi).run P x=.ok (.value v) x) (h:wpAnyH P md ops Q S fuel (listed.setIfInBounds i true) (a.put oi.dst v) w) (hi:ops[i]? = some oi:=by exact rfl) (hs:Region.noSelect ops=true:=by kernel_rfl) (hf:Region.free md ops listed i=true:=by kernel_rfl) (hr:(Region.ready md ops listed).contains i=true:=by kernel_rfl) (hQ:∀ c a w,Q (.panic c) (a.put oi.dst v) w->Q (.panic c) a w:=by exact fun _ _ _ h=>h) (hg:Region.wanted oi (yielded ops a.tmps)=true:=by rfl):wpAnyH P md ops Q S (fuel+1) listed a w:=
 wpAnyH_take hi hs hf hr hQ (.inl ⟨hg,hy⟩) hS h
theorem wG {P:Program} {ops:Array Oper} {Q:Exit->Act->World->Prop} {md:Region.Mode} {S:World->Prop} {fuel:Nat} {listed:Array Bool} {a:Act} {w:World} {oi:Oper} (i:Nat) (v:Value) (hS:S w) (hy:∀ x,S x->(execOp a.eval oi).run P x=.ok (.value v) x) (h:wpAnyH P md ops Q S fuel (listed.setIfInBounds i true) (a.put oi.dst v) w) (hi:ops[i]? = some oi:=by exact rfl) (hs:Region.noSelect ops=true:=by kernel_rfl) (hf:Region.free md ops listed i=true:=by kernel_rfl) (hr:(Region.ready md ops listed).contains i=true:=by kernel_rfl) (hQ:∀ c a w,Q (.panic c) (a.put oi.dst v) w->Q (.panic c) a w:=by exact fun _ _ _ h=>h) (hg:Region.wanted oi (yielded ops a.tmps)=true:=by kernel_rfl):wpAnyH P md ops Q S (fuel+1) listed a w:=
 wpAnyH_take hi hs hf hr hQ (.inl ⟨hg,hy⟩) hS h
theorem wN {P:Program} {ops:Array Oper} {Q:Exit->Act->World->Prop} {md:Region.Mode} {S:World->Prop} {fuel:Nat} {listed:Array Bool} {a:Act} {w:World} {oi:Oper} (i:Nat) (v:Value) (hS:S w) (hy:∀ x,S x->(execOp a.eval oi).run P x=.ok (.value v) x) (h:wpAnyH P md ops Q S fuel (listed.setIfInBounds i true) (a.put oi.dst v) w) (hi:ops[i]? = some oi:=by exact rfl) (hs:Region.noSelect ops=true:=by kernel_rfl) (hf:Region.free md ops listed i=true:=by kernel_rfl) (hr:(Region.ready md ops listed).contains i=true:=by kernel_rfl) (hQ:∀ c a w,Q (.panic c) (a.put oi.dst v) w->Q (.panic c) a w:=by exact fun _ _ _ h=>by cases h.1) (hg:Region.wanted oi (yielded ops a.tmps)=true:=by rfl):wpAnyH P md ops Q S (fuel+1) listed a w:=
 wpAnyH_take hi hs hf hr hQ (.inl ⟨hg,hy⟩) hS h
theorem wM {P:Program} {ops:Array Oper} {Q:Exit->Act->World->Prop} {md:Region.Mode} {S:World->Prop} {fuel:Nat} {listed:Array Bool} {a:Act} {w:World} {oi:Oper} (i:Nat) (v:Value) (hS:S w) (hy:∀ x,S x->(execOp a.eval oi).run P x=.ok (.value v) x) (h:wpAnyH P md ops Q S fuel (listed.setIfInBounds i true) (a.put oi.dst v) w) (hi:ops[i]? = some oi:=by exact rfl) (hs:Region.noSelect ops=true:=by kernel_rfl) (hf:Region.free md ops listed i=true:=by kernel_rfl) (hr:(Region.ready md ops listed).contains i=true:=by kernel_rfl) (hQ:∀ c a w,Q (.panic c) (a.put oi.dst v) w->Q (.panic c) a w:=by exact fun _ _ _ h=>by cases h.1) (hg:Region.wanted oi (yielded ops a.tmps)=true:=by kernel_rfl):wpAnyH P md ops Q S (fuel+1) listed a w:=
 wpAnyH_take hi hs hf hr hQ (.inl ⟨hg,hy⟩) hS h
theorem wU {P:Program} {ops:Array Oper} {Q:Exit->Act->World->Prop} {md:Region.Mode} {S:World->Prop} {fuel:Nat} {listed:Array Bool} {a:Act} {w:World} {oi:Oper} (i:Nat) (hS:S w) (h:wpAnyH P md ops Q S fuel (listed.setIfInBounds i true) (a.put oi.dst undef) w) (hi:ops[i]? = some oi:=by exact rfl) (hs:Region.noSelect ops=true:=by kernel_rfl) (hf:Region.free md ops listed i=true:=by kernel_rfl) (hr:(Region.ready md ops listed).contains i=true:=by kernel_rfl) (hQ:∀ c a w,Q (.panic c) (a.put oi.dst undef) w->Q (.panic c) a w:=by exact fun _ _ _ h=>h) (hg:Region.wanted oi (yielded ops a.tmps)=false:=by kernel_rfl):wpAnyH P md ops Q S (fuel+1) listed a w:=
 wpAnyH_take hi hs hf hr hQ (.inr ⟨hg,rfl⟩) hS h
theorem wV {P:Program} {ops:Array Oper} {Q:Exit->Act->World->Prop} {md:Region.Mode} {S:World->Prop} {fuel:Nat} {listed:Array Bool} {a:Act} {w:World} {oi:Oper} (i:Nat) (hS:S w) (h:wpAnyH P md ops Q S fuel (listed.setIfInBounds i true) (a.put oi.dst undef) w) (hi:ops[i]? = some oi:=by exact rfl) (hs:Region.noSelect ops=true:=by kernel_rfl) (hf:Region.free md ops listed i=true:=by kernel_rfl) (hr:(Region.ready md ops listed).contains i=true:=by kernel_rfl) (hQ:∀ c a w,Q (.panic c) (a.put oi.dst undef) w->Q (.panic c) a w:=by exact fun _ _ _ h=>h) (hg:Region.wanted oi (yielded ops a.tmps)=false:=by rfl):wpAnyH P md ops Q S (fuel+1) listed a w:=
 wpAnyH_take hi hs hf hr hQ (.inr ⟨hg,rfl⟩) hS h
theorem wR {P:Program} {ops:Array Oper} {Q:Exit->Act->World->Prop} {md:Region.Mode} {S:World->Prop} {fuel:Nat} {listed:Array Bool} {a:Act} {w:World} {oi:Oper} (i:Nat) (h:∀ K':Act->World->Prop,Shut (∀ a w,S w->(S w->wpAnyH P md ops Q S fuel (listed.setIfInBounds i true) a w)->K' a w)->if Region.wanted oi (yielded ops a.tmps)=true then Oper.wp P oi a w K' Q else K' (a.put oi.dst undef) w) (hi:ops[i]? = some oi:=by exact rfl) (hr:Region.ready md ops listed=[i]:=by kernel_rfl):wpAnyH P md ops Q S (fuel+1) listed a w:=
 wpAnyH_ready hr (by simp) (AllReadyH.cons hi h AllReadyH.nil)
theorem pA (l : List Value) (d) (i : Nat) (v : Value) : Act.put { tmps := l.toArray, defers := d } (some i) v = { tmps := (l.set i v).toArray, defers := d } := by simp [Act.put]
@[reducible] def aD (b o : Nat) : Addr := ⟨b, o, none⟩
theorem sB {α : Type _} {x : α} {l : List α} {n : Nat} {a : α} : (x :: l).set (n + 1) a = x :: l.set n a := List.set_cons_succ
theorem sC {α : Type _} {x : α} {l : List α} {a : α} : (x :: l).set 0 a = a :: l := List.set_cons_zero
end Go
namespace Go.Scout
open Go.RowKit
theorem ret_bool {a b:Bool} (h:a=b):Ending.returned (.bool a)=.returned (.bool b):=by rw[h]
theorem ret_int {k:IntKind} {a b:Int} (h:a=b):Ending.returned (.int k a)=.returned (.int k b):=by rw[h]
def CellsAt (w:World) (ao:Option Addr) (n:Nat) (f:Nat->Value):Prop:=
 ∀ i,i<n->∃ b off,ao=some (aD b off)/\w.cell? (aD b (off+i))=some (f i)
theorem CellsAt.get {w:World} {ao:Option Addr} {n:Nat} {f:Nat->Value} (h:CellsAt w ao n f) {i:Nat} (hi:i<n) :
  ∃ b off,ao=some (aD b off)/\∀ j,j<n->w.cell? (aD b (off+j))=some (f j):=by
 obtain⟨b,off,rfl,_⟩:=h i hi;refine⟨b,off,rfl,fun j hj=>?_⟩;obtain⟨b',off',e,h'⟩:=h j hj
 cases e
 exact h'
def IntsAt (w:World) (ao:Option Addr) (xs:List Int):Prop:=
 xs.length<=1152921504606846976/\CellsAt w ao xs.length (fun i=>.int .i64 (xs.getD i 0))
theorem IntsAt.get {w:World} {ao:Option Addr} {xs:List Int} (h:IntsAt w ao xs) {i:Nat} (hi:i<xs.length) :
  ∃ b off,ao=some (aD b off)/\∀ j,j<xs.length->w.cell? (aD b (off+j))=some (.int .i64 (xs.getD j 0)):=
 CellsAt.get h.2 hi
structure TableD where
 cols:Int
 rows:Int
 k0:Int
 k1:Int
 k2:Int
 k3:Int
def TableD.vals (t:TableD):Array Value:=#[.int .i64 t.cols,.int .i64 t.rows,.int .i64 t.k0,.int .i64 t.k1,.int .i64 t.k2,.int .i64 t.k3]
def tz:TableD:=⟨0,0,0,0,0,0⟩
def TablesAt (w:World) (ao:Option Addr) (ts:List TableD):Prop:=
 ts.length<=192153584101141162/\∀ i,i<ts.length->∃ b off,ao=some (aD b off)/\
  w.cell? (aD b (off+i*6))=some (.int .i64 (ts.getD i tz).cols)/\w.cell? (aD b (off+i*6+1))=some (.int .i64 (ts.getD i tz).rows)/\
  w.cell? (aD b (off+i*6+2))=some (.int .i64 (ts.getD i tz).k0)/\w.cell? (aD b (off+i*6+3))=some (.int .i64 (ts.getD i tz).k1)/\
  w.cell? (aD b (off+i*6+4))=some (.int .i64 (ts.getD i tz).k2)/\w.cell? (aD b (off+i*6+5))=some (.int .i64 (ts.getD i tz).k3)
structure CondD where
 not:Bool
 op:Int
 left:Int
 const:Bool
 right:Int
def cz:CondD:=⟨false,0,0,false,0⟩
def CondD.val (c:CondD):Value:=.agg #[.bool c.not,.int .i64 c.op,.int .i64 c.left,.bool c.const,.int .i64 c.right]
def CondsAt (w:World) (ao:Option Addr) (cs:List CondD):Prop:=
 cs.length<=230584300921369395/\∀ i,i<cs.length->∃ b off,ao=some (aD b off)/\
  w.cell? (aD b (off+i*5))=some (.bool (cs.getD i cz).not)/\w.cell? (aD b (off+i*5+1))=some (.int .i64 (cs.getD i cz).op)/\
  w.cell? (aD b (off+i*5+2))=some (.int .i64 (cs.getD i cz).left)/\w.cell? (aD b (off+i*5+3))=some (.bool (cs.getD i cz).const)/\
  w.cell? (aD b (off+i*5+4))=some (.int .i64 (cs.getD i cz).right)
structure ClauseV where
 ad:Option Addr
 cap:Nat
 cs:List CondD
def lz:ClauseV:=⟨none,0,[]⟩
def ClauseV.val (c:ClauseV):Value:=.slice c.ad c.cs.length c.cap
def ClausesAt (w:World) (ao:Option Addr) (ls:List ClauseV):Prop:=
 ls.length<=1152921504606846976/\CellsAt w ao ls.length (fun i=>(ls.getD i lz).val)/\∀ i,i<ls.length->CondsAt w (ls.getD i lz).ad (ls.getD i lz).cs
structure IntsV where
 ad:Option Addr
 cap:Nat
 xs:List Int
def IntsV.val (v:IntsV):Value:=.slice v.ad v.xs.length v.cap
def IntsV.At (v:IntsV) (w:World):Prop:=IntsAt w v.ad v.xs
structure QueryV where
 src:IntsV
 wad:Option Addr
 wcap:Nat
 wh:List ClauseV
 group:Bool
 keys:IntsV
 sums:IntsV
 sel:IntsV
 ord:IntsV
def QueryV.cells (q:QueryV):Array Value:=#[q.src.val,.slice q.wad q.wh.length q.wcap,.bool q.group,q.keys.val,q.sums.val,q.sel.val,q.ord.val]
structure QueryV.At (q:QueryV) (w:World):Prop where
 src:q.src.At w
 wh:ClausesAt w q.wad q.wh
 keys:q.keys.At w
 sums:q.sums.At w
 sel:q.sel.At w
 ord:q.ord.At w
def allB (xs:List Int) (n:Int):Bool:=xs.all fun x=>decide (0<=x)&&decide (x<n)
def apartB (xs:List Int):Bool:=decide (∀ i,i<xs.length->∀ j,j<i->xs.getD i 0≠xs.getD j 0)
theorem apartB_bad {xs:List Int} {i j:Nat} (hi:i<xs.length) (hj:j<i) (h:xs.getD i 0=xs.getD j 0):false=apartB xs:=by
 symm;unfold apartB;rw[decide_eq_false_iff_not];intro h';exact h' i hi j hj h
theorem apartB_good {xs:List Int} (h:∀ i,i<xs.length->∀ j,j<i->xs.getD i 0≠xs.getD j 0):true=apartB xs:=by
 symm;unfold apartB;rw[decide_eq_true_iff];exact h
def condB (c:CondD) (n:Int):Bool:=
 decide (0<=c.left)&&decide (c.left<n)&&decide (0<=c.op)&&decide (c.op<=2) &&
  (if c.op=2 then !c.const&&decide (c.right=0) else if c.const then decide (-1000<=c.right)&&decide (c.right<=1000) else decide (0<=c.right)&&decide (c.right<=n-1))
def outN (group:Bool) (keys sums sel:List Int):Int:=if group then keys.length+1+sums.length else sel.length
def TableD.kd (t:TableD):Nat->Int
 | 0 => t.k0
 | 1 => t.k1
 | 2 => t.k2
 | _ => t.k3
theorem TableD.kd_cell (wr:World) (t:TableD) (ty:TypeId) (m:Nat) (hm:m<4) :
  (wr.alloc (.cells #[.int .i64 t.cols,.int .i64 t.rows,.int .i64 t.k0,.int .i64 t.k1,.int .i64 t.k2,.int .i64 t.k3] ty)).cell? (aD wr.heap.size (2+m))=some (.int .i64 (t.kd m)):=by
 rcases (by omega:m=0∨m=1∨m=2∨m=3) with rfl | rfl | rfl | rfl <;> simp[TableD.kd]
def tableB (t:TableD):Bool:=
 decide (1<=t.cols/\t.cols<=4/\0<=t.rows/\t.rows<=1000000/\∀ m,m<t.cols.toNat->1<=t.kd m/\t.kd m<=1000000)
theorem tableB_bad {t:TableD} (h:t.cols<1∨4<t.cols∨t.rows<0∨1000000<t.rows):tableB t=false:=by
 unfold tableB;rw[decide_eq_false_iff_not];omega
theorem tableB_badk {t:TableD} (m:Nat) (hm:m<t.cols.toNat) (h:t.kd m<1∨1000000<t.kd m):tableB t=false:=by
 unfold tableB;rw[decide_eq_false_iff_not];intro h';have:=h'.2.2.2.2 m hm;omega
theorem tableB_good {t:TableD} (h1:1<=t.cols) (h2:t.cols<=4) (h3:0<=t.rows) (h4:t.rows<=1000000) (h:∀ m,m<t.cols.toNat->1<=t.kd m/\t.kd m<=1000000):tableB t=true:=by
 unfold tableB;rw[decide_eq_true_iff];exact⟨h1,h2,h3,h4,h⟩
def catB (ts:List TableD):Bool:=decide (1<=ts.length)&&decide (ts.length<=8)&&ts.all tableB
theorem catB_short {ts:List TableD} (h:ts.length<1):false=catB ts:=by
 unfold catB;have:decide (1<=ts.length)=false:=decide_eq_false (by omega);rw[this,Bool.false_and,Bool.false_and]
theorem catB_long {ts:List TableD} (h:8<ts.length):false=catB ts:=by
 unfold catB;have:decide (ts.length<=8)=false:=decide_eq_false (by omega);rw[this,Bool.and_false,Bool.false_and]
theorem catB_bad {ts:List TableD} {k:Nat} (hk:k<ts.length) (h:tableB (ts.getD k tz)=false):false=catB ts:=by
 unfold catB;symm;rw[Bool.and_eq_false_iff];right;rw[List.all_eq_false];refine⟨ts[k],List.getElem_mem hk,?_⟩;simp[List.getD,hk] at h;simp[h]
theorem lt_of_cell {w:World} {b o:Nat} {v:Value} (h:w.cell? (aD b o)=some v):b<w.heap.size:=by
 simp only[World.cell?] at h;rcases Nat.lt_or_ge b w.heap.size with hb | hb
 ·exact hb
 ·simp[Array.getElem?_eq_none hb] at h
def widthN (ts:List TableD) (xs:List Int):Int:=(xs.map fun t=>(ts.getD t.toNat tz).cols).sum
theorem widthN_snoc (ts:List TableD) (xs:List Int) (k:Nat) (hk:k<xs.length):widthN ts (xs.take (k+1))=widthN ts (xs.take k)+(ts.getD xs[k].toNat tz).cols:=by
 unfold widthN;rw[List.take_succ_eq_append_getElem hk,List.map_append,List.sum_append];simp
theorem cols_of {ts:List TableD} (hc:catB ts=true) {i:Nat} (hi:i<ts.length):1<=(ts.getD i tz).cols/\(ts.getD i tz).cols<=4:=by
 unfold catB at hc;rw[Bool.and_eq_true] at hc;have h:=List.all_eq_true.1 hc.2 (ts.getD i tz) (by simp[List.getD,hi]);unfold tableB at h;rw[decide_eq_true_iff] at h;exact⟨h.1,h.2.1⟩
theorem allB_at {xs:List Int} {n:Int} (h:allB xs n=true) {k:Nat} (hk:k<xs.length):0<=xs[k]/\xs[k]<n:=by
 unfold allB at h;have:=List.all_eq_true.1 h xs[k] (List.getElem_mem hk)
 simpa using this
theorem widthN_bd {ts:List TableD} {xs:List Int} (hc:catB ts=true) (ha:allB xs ts.length=true):∀ k,k<=xs.length->0<=widthN ts (xs.take k)/\widthN ts (xs.take k)<=4*k
 | 0,_ => by simp[widthN]
 | k+1,hk => by
  have ih:=widthN_bd hc ha k (by omega);rw[widthN_snoc ts xs k (by omega)];have h1:=allB_at ha (k:=k) (by omega);have h2:=cols_of hc (i:=(xs[k]'(by omega)).toNat) (by omega);omega
theorem cB {w w':World} (hb:Below w.heap.size w w') {b o:Nat} {v:Value} (h:w.cell? (aD b o)=some v):w'.cell? (aD b o)=some v:=
 (hb.cell (p:=(aD b o)) (lt_of_cell h)).trans h
theorem CellsAt.below {w w':World} (hb:Below w.heap.size w w') {ao:Option Addr} {n:Nat} {f:Nat->Value} (h:CellsAt w ao n f):CellsAt w' ao n f:=fun i hi=>by
 obtain⟨b,off,e,hc⟩:=h i hi;exact⟨b,off,e,cB hb hc⟩
theorem IntsAt.below {w w':World} (hb:Below w.heap.size w w') {ao:Option Addr} {xs:List Int} (h:IntsAt w ao xs):IntsAt w' ao xs:=⟨h.1,h.2.below hb⟩
theorem TablesAt.below {w w':World} (hb:Below w.heap.size w w') {ao:Option Addr} {ts:List TableD} (h:TablesAt w ao ts):TablesAt w' ao ts:=⟨h.1,fun i hi=>by
 obtain⟨b,off,e,c0,c1,c2,c3,c4,c5⟩:=h.2 i hi;exact⟨b,off,e,cB hb c0,cB hb c1,cB hb c2,cB hb c3,cB hb c4,cB hb c5⟩⟩
theorem CondsAt.below {w w':World} (hb:Below w.heap.size w w') {ao:Option Addr} {cs:List CondD} (h:CondsAt w ao cs):CondsAt w' ao cs:=⟨h.1,fun i hi=>by
 obtain⟨b,off,e,c0,c1,c2,c3,c4⟩:=h.2 i hi;exact⟨b,off,e,cB hb c0,cB hb c1,cB hb c2,cB hb c3,cB hb c4⟩⟩
theorem ClausesAt.below {w w':World} (hb:Below w.heap.size w w') {ao:Option Addr} {ls:List ClauseV} (h:ClausesAt w ao ls):ClausesAt w' ao ls:=
 ⟨h.1,h.2.1.below hb,fun i hi=>(h.2.2 i hi).below hb⟩
theorem QueryV.At.below {w w':World} (hb:Below w.heap.size w w') {q:QueryV} (h:q.At w):q.At w':=
 ⟨IntsAt.below hb h.src,h.wh.below hb,IntsAt.below hb h.keys,IntsAt.below hb h.sums,IntsAt.below hb h.sel,IntsAt.below hb h.ord⟩
theorem bQ2 (w:World) (o:Obj):Below w.heap.size w (w.alloc o):=(Below.refl _ _).alloc (Nat.le_refl _) o
theorem bQ1 {w w1 w2:World} (h:Below w.heap.size w w1) (k:Below w1.heap.size w1 w2):Below w.heap.size w w2:=h.trans (k.mono h.size)
theorem bcell {W w1:World} (hb:Below W.heap.size W w1):(∀ b o,b<W.heap.size->w1.cell? (aD b o)=W.cell? (aD b o)):=
 fun b o h=>hb.cell (p:=(aD b o)) h
def fullB (src:List Int) (wh:List (List CondD)) (keys sums sel ord:List Int):Bool:=
 decide (5<src.length∨8<wh.length∨8<sel.length∨4<keys.length∨4<sums.length∨4<ord.length) || wh.any (fun c=>decide (3<c.length))
def clauseB (c:List CondD) (n:Int):Bool:=decide (0<c.length)&&c.all (fun x=>condB x n)
def clausesB (wh:List (List CondD)) (n:Int):Bool:=wh.all (fun c=>clauseB c n)
def restB (n:Int) (group:Bool) (keys sums sel ord:List Int):Bool:=
 allB sel n&&allB keys n&&allB sums n&&allB ord (outN group keys sums sel)&&apartB keys&&apartB ord&&(group==decide (sel.length=0))&&(group || decide (keys.length+sums.length=0))
def checkN (ts:List TableD) (src:List Int) (wh:List (List CondD)) (group:Bool) (keys sums sel ord:List Int):Int:=
 if catB ts=false then 1
 else if fullB src wh keys sums sel ord=true then 2
 else if allB src ts.length=true/\0<src.length/\clausesB wh (widthN ts src)=true/\restB (widthN ts src) group keys sums sel ord=true then 0
 else 3
def QueryV.whs (q:QueryV):List (List CondD):=q.wh.map ClauseV.cs
def QueryV.check (q:QueryV) (ts:List TableD):Int:=checkN ts q.src.xs q.whs q.group q.keys.xs q.sums.xs q.sel.xs q.ord.xs
theorem QueryV.check_cat {q:QueryV} {ts:List TableD} (h:catB ts=false):(1:Int)=q.check ts:=by
 unfold QueryV.check checkN;rw[if_pos h]
theorem QueryV.check_full {q:QueryV} {ts:List TableD} (h:catB ts=true) (hf:fullB q.src.xs q.whs q.keys.xs q.sums.xs q.sel.xs q.ord.xs=true):(2:Int)=q.check ts:=by
 unfold QueryV.check checkN;rw[if_neg (by simp[h]),if_pos hf]
def wideB (ls:List ClauseV) (k:Nat):Bool:=(ls.take k).any (fun c=>decide (3<c.cs.length))
theorem wideB_all (q:QueryV):q.whs.any (fun c=>decide (3<c.length))=wideB q.wh q.wh.length:=by
 unfold wideB QueryV.whs;rw[List.take_length,List.any_map];rfl
theorem clausesB_bad {q:QueryV} {n:Int} {k:Nat} (hk:k<q.wh.length) (h:clauseB (q.wh.getD k lz).cs n=false):clausesB q.whs n=false:=by
 unfold clausesB QueryV.whs;rw[List.all_map,List.all_eq_false];refine⟨q.wh[k],List.getElem_mem hk,?_⟩;simp[List.getD,hk] at h;simp[h]
theorem clausesB_good {q:QueryV} {n:Int} (h:∀ k,k<q.wh.length->clauseB (q.wh.getD k lz).cs n=true):clausesB q.whs n=true:=by
 unfold clausesB QueryV.whs;rw[List.all_map,List.all_eq_true];intro c hc;obtain⟨k,hk,rfl⟩:=List.getElem_of_mem hc;have:=h k hk
 simpa [List.getD,hk] using this
theorem clauseB_none {c:List CondD} {n:Int} (h:¬ 0<c.length):clauseB c n=false:=by
 unfold clauseB;rw[decide_eq_false h,Bool.false_and]
theorem clauseB_bad {c:List CondD} {n:Int} {k:Nat} (hk:k<c.length) (h:condB (c.getD k cz) n=false):clauseB c n=false:=by
 unfold clauseB;have:c.all (fun x=>condB x n)=false:=by
  rw[List.all_eq_false];refine⟨c[k],List.getElem_mem hk,?_⟩;simp[List.getD,hk] at h;simp[h]
 rw[this,Bool.and_false]
theorem clauseB_good {c:List CondD} {n:Int} (h0:0<c.length) (h:∀ k,k<c.length->condB (c.getD k cz) n=true):clauseB c n=true:=by
 unfold clauseB;rw[decide_eq_true h0,Bool.true_and,List.all_eq_true];intro x hx;obtain⟨k,hk,rfl⟩:=List.getElem_of_mem hx;have:=h k hk
 simpa [List.getD,hk] using this
theorem wp_region_below {P:Program} {id:Nat} {Q:Exit->Act->World->Prop} {a:Act} {w:World} {l:List Oper} (hm:P.follows .mixedOrders=true) (hB:Region.lexB .any l.toArray=true)
  (h:wpQuiet P l.toArray (fun x=>Below w.heap.size w x) (fun a'=>∀ x,Below w.heap.size w x->Q .normal a' x) l a):(Code.region id l.toArray true).wp P Q a w:=
 wp_region_quiet (C:=fun x=>Below w.heap.size w x) hm hB (Below.refl _ _).drew (by simpa using h)
theorem Calls.within {P:Program} {f:FuncId} {args:Array Value} {w x:World} {v:Value} (hx:Below w.heap.size w x)
  (h:Calls P f args x fun e w'=>e=.returned v/\Below x.heap.size x w'):Calls P f args x fun e w''=>e=.returned v/\Below w.heap.size w w'':=
 h.mono fun _ _ ⟨he,hb⟩=>⟨he,bQ1 hx hb⟩
theorem Calls.within_same {P:Program} {f:FuncId} {args:Array Value} {w x:World} {v:Value} (hx:Below w.heap.size w x)
  (h:Calls P f args x fun e w'=>e=.returned v/\w' = x):Calls P f args x fun e w''=>e=.returned v/\Below w.heap.size w w'':=
 h.mono fun _ _ ⟨he,hb⟩=>⟨he,by rw[hb]; exact hx⟩
section
variable {N:Int} {group:Bool} {keys sums sel ord:List Int}
theorem eq0_len:((sel.length:Int)==0)=decide (sel.length=0):=by
 rw[Bool.eq_iff_iff];simp
end
def foundAt (r:Int) (b:Bool):Prop:=-1<=r/\decide (0<=r)=b
theorem any_at {α:Type} {p:α->Bool} {xs:List α} {k:Nat} {z:α} (hk:k<xs.length) (h:p (xs.getD k z)=true):xs.any p=true:=by
 rw[List.any_eq_true];exact⟨xs[k],List.getElem_mem hk,by simpa [List.getD,hk] using h⟩
theorem any_none {α:Type} {p:α->Bool} {xs:List α} {z:α} (h:∀ k,k<xs.length->p (xs.getD k z)=false):xs.any p=false:=by
 rw[List.any_eq_false];intro x hx;obtain⟨k,hk,rfl⟩:=List.getElem_of_mem hx;have:=h k hk
 simpa [List.getD,hk] using this
theorem catB_any {ts:List TableD} (h1:¬ ts.length<1) (h8:¬ 8<ts.length):(!(ts.any fun t=>!tableB t))=catB ts:=by
 unfold catB;rw[decide_eq_true (show 1<=ts.length by omega),decide_eq_true (show ts.length<=8 by omega),List.not_any_eq_all_not];simp
def inB (x n:Int):Bool:=decide (0<=x)&&decide (x<n)
theorem allB_any (xs:List Int) (n:Int):(!(xs.any fun x=>!inB x n))=allB xs n:=by
 unfold allB inB;rw[List.not_any_eq_all_not];simp
theorem wide_any (ls:List ClauseV):(ls.any fun c=>decide (3<c.cs.length))=wideB ls ls.length:=by
 unfold wideB;rw[List.take_length]
theorem QueryV.full_eq (q:QueryV):fullB q.src.xs q.whs q.keys.xs q.sums.xs q.sel.xs q.ord.xs =
  (decide (5<q.src.xs.length∨8<q.wh.length∨8<q.sel.xs.length∨4<q.keys.xs.length∨4<q.sums.xs.length∨4<q.ord.xs.length) || wideB q.wh q.wh.length):=by
 unfold fullB;rw[wideB_all];simp[QueryV.whs]
theorem condB_in {c:CondD} {n:Int} (h:inB c.left n=false):false=condB c n:=by
 refine (Bool.eq_false_iff.2 ?_).symm;intro h';simp only[condB,Bool.and_eq_true,decide_eq_true_eq] at h';simp only[inB,Bool.and_eq_false_iff,decide_eq_false_iff_not] at h;omega
theorem condB_eqless_const {c:CondD} {n:Int} (h:inB c.left n=true) (ho:c.op=0∨c.op=1) (hc:c.const=true):(decide (-1000<=c.right)&&decide (c.right<=1000))=condB c n:=by
 simp only[inB,Bool.and_eq_true,decide_eq_true_eq] at h;unfold condB;rw[if_neg (by omega),if_pos hc,decide_eq_true h.1,decide_eq_true h.2,decide_eq_true (show 0<=c.op by omega),decide_eq_true (show c.op<=2 by omega)];simp
theorem condB_eqless_col {c:CondD} {n:Int} (h:inB c.left n=true) (ho:c.op=0∨c.op=1) (hc:c.const=false):inB c.right n=condB c n:=by
 simp only[inB,Bool.and_eq_true,decide_eq_true_eq] at h;unfold condB;rw[if_neg (by omega),if_neg (by simp[hc]),decide_eq_true h.1,decide_eq_true h.2,decide_eq_true (show 0<=c.op by omega),decide_eq_true (show c.op<=2 by omega)];simp only[inB,Bool.and_self,Bool.true_and];congr 1;exact decide_eq_decide.2 (by omega)
theorem condB_isnil {c:CondD} {n:Int} (h:inB c.left n=true) (ho:c.op=2):(!c.const&&decide (c.right=0))=condB c n:=by
 simp only[inB,Bool.and_eq_true,decide_eq_true_eq] at h;unfold condB;rw[if_pos ho,decide_eq_true h.1,decide_eq_true h.2,decide_eq_true (show 0<=c.op by omega),decide_eq_true (show c.op<=2 by omega)];simp
theorem condB_other {c:CondD} {n:Int} (h0:¬ c.op=0) (h1:¬ c.op=1) (h2:¬ c.op=2):false=condB c n:=by
 refine (Bool.eq_false_iff.2 ?_).symm;intro h';simp only[condB,Bool.and_eq_true,decide_eq_true_eq] at h';omega
def setN (l:List Int):Nat:=l.foldl (fun m n=>m|||2 ^ n.toNat) 0
theorem setN_snoc (l:List Int) (x:Int):setN (l++[x])=setN l|||2 ^ x.toNat:=by
 unfold setN;rw[List.foldl_append];rfl
theorem setN_from (l:List Int):∀ (m i:Nat),(∀ x∈l,0<=x)->(l.foldl (fun m n=>m|||2 ^ n.toNat) m).testBit i=(m.testBit i || decide ((i:Int)∈l)):=by
 induction l with
 | nil => intro m i _; simp
 | cons a l ih =>
  intro m i h;have ha:=h a (by simp);rw[List.foldl_cons,ih _ _ (fun x hx=>h x (by simp[hx])),Nat.testBit_or,Nat.testBit_two_pow,Bool.or_assoc];congr 1;rw[Bool.eq_iff_iff];simp only[Bool.or_eq_true,decide_eq_true_eq,List.mem_cons];constructor
  ·rintro (h1 | h1)
   ·left; omega
   ·right; exact h1
  ·rintro (h1 | h1)
   ·left; omega
   ·right; exact h1
theorem setN_bit {l:List Int} (h:∀ x∈l,0<=x) (i:Nat):(setN l).testBit i=decide ((i:Int)∈l):=by
 unfold setN;rw[setN_from l 0 i h,Nat.zero_testBit,Bool.false_or]
theorem setN_lt {n:Nat}:∀ {l:List Int},(∀ x∈l,0<=x/\x<n)->setN l<2 ^ n:=fun {l} h=>by
 apply Nat.lt_pow_two_of_testBit;intro i hi;rw[setN_bit (fun x hx=>(h x hx).1),decide_eq_false_iff_not];intro hm;have:=(h _ hm).2;omega
def topN:Nat:=18446744073709551615
def plusN (a b:Nat):Nat:=min (a+b) topN
def timesN (a b:Nat):Nat:=min (a*b) topN
theorem plusN_le (a b:Nat):plusN a b<=topN:=Nat.min_le_right _ _
theorem timesN_le (a b:Nat):timesN a b<=topN:=Nat.min_le_right _ _
def sumN (l:List Nat):Nat:=l.foldl plusN 0
theorem sumN_min:∀ (l:List Nat) (m:Nat),m<=topN->l.foldl plusN m=min (m+l.sum) topN
 | [],m,h => by simp only[List.foldl_nil,List.sum_nil,Nat.min_def]; split <;> omega
 | a::l,m,_ => by
  rw[List.foldl_cons,sumN_min l _ (plusN_le _ _),List.sum_cons];unfold plusN;simp only[Nat.min_def]
  repeat' split
  all_goals omega
theorem sumN_eq (l:List Nat):sumN l=min l.sum topN:=by
 unfold sumN;rw[sumN_min l 0 (Nat.zero_le _),Nat.zero_add]
def bitsN (v:Nat):Nat:=if v=0 then 0 else bitsN (v / 2)+1
theorem bitsN_zero:bitsN 0=0:=by rw[bitsN]; rfl
theorem bitsN_pos {v:Nat} (h:0<v):bitsN v=bitsN (v / 2)+1:=by rw[bitsN,if_neg (by omega)]
def colsTo (ts:List TableD) (src:List Int) (n:Nat):List (Nat × Int):=
 (List.range n).flatMap fun s=>(List.range (ts.getD (src.getD s 0).toNat tz).cols.toNat).map fun m=>(s,(ts.getD (src.getD s 0).toNat tz).kd m)
theorem colsTo_succ (ts:List TableD) (src:List Int) (n:Nat):colsTo ts src (n+1)=colsTo ts src n++(List.range (ts.getD (src.getD n 0).toNat tz).cols.toNat).map fun m=>(n,(ts.getD (src.getD n 0).toNat tz).kd m):=by
 unfold colsTo;rw[List.range_succ,List.flatMap_append];simp
theorem colsTo_len {ts:List TableD} {src:List Int} (hc:catB ts=true) (ha:allB src ts.length=true):∀ n,n<=src.length->((colsTo ts src n).length:Int)=widthN ts (src.take n)
 | 0,_ => by simp[colsTo,widthN]
 | n+1,hn => by
  have ih:=colsTo_len hc ha n (by omega);have h1:=allB_at ha (k:=n) (by omega);have h2:=cols_of hc (i:=(src[n]'(by omega)).toNat) (by omega);have e:src.getD n 0=src[n]'(by omega):=by simp[List.getD,show n<src.length by omega]
  rw[colsTo_succ,widthN_snoc ts src n (by omega),List.length_append,List.length_map,List.length_range,e];omega
theorem colsTo_at {ts:List TableD} {src:List Int} (hc:catB ts=true) (ha:allB src ts.length=true):∀ n,n<=src.length->∀ c:Nat,c<(colsTo ts src n).length->
  ∃ s,s<n/\widthN ts (src.take s)<=c/\(c:Int)<widthN ts (src.take (s+1))/\(colsTo ts src n).getD c (0,0)=(s,(ts.getD (src.getD s 0).toNat tz).kd (c-(widthN ts (src.take s)).toNat))
 | 0,_,c,h => by simp[colsTo] at h
 | n+1,hn,c,h => by
  have hl:=colsTo_len hc ha n (by omega);by_cases hlt:c<(colsTo ts src n).length
  ·obtain⟨s,h1,h2,h3,h4⟩:=colsTo_at hc ha n (by omega) c hlt;refine⟨s,by omega,h2,h3,?_⟩;rw[colsTo_succ,<- h4];simp[List.getD,List.getElem?_append_left hlt]
  ·have h1:=allB_at ha (k:=n) (by omega);have h2:=cols_of hc (i:=(src[n]'(by omega)).toNat) (by omega);have e:src.getD n 0=src[n]'(by omega):=by simp[List.getD,show n<src.length by omega]
   rw[colsTo_succ,List.length_append,List.length_map,List.length_range] at h;refine⟨n,by omega,by omega,?_,?_⟩
   ·rw[widthN_snoc ts src n (by omega),<- e];rw[<- e] at h1 h2;omega
   ·rw[colsTo_succ];have e2:(widthN ts (src.take n)).toNat=(colsTo ts src n).length:=by omega
    rw[e2];clear e h1 h2;generalize ts.getD (src.getD n 0).toNat tz=T at h ⊢;simp only[List.getD];rw[List.getElem?_append_right (by omega),List.getElem?_map,List.getElem?_range (by omega)];rfl
def sourceN (ts:List TableD) (src:List Int) (c:Int):Nat:=((colsTo ts src src.length).getD c.toNat (0,0)).1
def kindsN (ts:List TableD) (src:List Int) (c:Int):Int:=((colsTo ts src src.length).getD c.toNat (0,0)).2
theorem sourceN_at {ts:List TableD} {src:List Int} (hc:catB ts=true) (ha:allB src ts.length=true) {c:Int} (h0:0<=c) (hl:c<widthN ts src) :
  sourceN ts src c<src.length/\widthN ts (src.take (sourceN ts src c))<=c/\c<widthN ts (src.take (sourceN ts src c+1))/\
   kindsN ts src c=(ts.getD (src.getD (sourceN ts src c) 0).toNat tz).kd (c.toNat-(widthN ts (src.take (sourceN ts src c))).toNat):=by
 have hw:=colsTo_len hc ha src.length (Nat.le_refl _);rw[List.take_length] at hw;obtain⟨s,h1,h2,h3,h4⟩:=colsTo_at hc ha src.length (Nat.le_refl _) c.toNat (by omega);have e:sourceN ts src c=s:=by unfold sourceN; rw[h4]
 have e2:kindsN ts src c=(ts.getD (src.getD s 0).toNat tz).kd (c.toNat-(widthN ts (src.take s)).toNat):=by unfold kindsN; rw[h4]
 rw[e];exact⟨h1,by omega,by omega,e2⟩
end Go.Scout
