import Derived.Test.YtlpbelhfpoilpabGreatDoorC01
set_option linter.all false
set_option maxRecDepth 100000
set_option maxHeartbeats 16000000
namespace Go.Scout
open Go.RowKit
structure NodeV where
 kind:Int
 l:Int
 r:Int
 source:Int
 cl:IntsV
 key:Int
 co:IntsV
def nz:NodeV:=⟨0,0,0,0,⟨none,0,[]⟩,0,⟨none,0,[]⟩⟩
def NodesAt (w:World) (ao:Option Addr) (ns:List NodeV):Prop:=
 ns.length<=164703072086692425/\∀ i,i<ns.length->∃ b off,ao=some (aD b off)/\
  w.cell? (aD b (off+i*7))=some (.int .i64 (ns.getD i nz).kind)/\w.cell? (aD b (off+i*7+1))=some (.int .i64 (ns.getD i nz).l)/\
  w.cell? (aD b (off+i*7+2))=some (.int .i64 (ns.getD i nz).r)/\w.cell? (aD b (off+i*7+3))=some (.int .i64 (ns.getD i nz).source)/\
  w.cell? (aD b (off+i*7+4))=some (ns.getD i nz).cl.val/\w.cell? (aD b (off+i*7+5))=some (.int .i64 (ns.getD i nz).key)/\
  w.cell? (aD b (off+i*7+6))=some (ns.getD i nz).co.val/\(ns.getD i nz).cl.At w/\(ns.getD i nz).co.At w
def NodeV.same (a b:NodeV):Prop:=a.kind=b.kind/\a.l=b.l/\a.r=b.r/\a.source=b.source/\a.cl.xs=b.cl.xs/\a.key=b.key/\a.co.xs=b.co.xs
def withN (l m:List Int):List Int:=m.foldl (fun out x=>if x∈out then out else out++[x]) l
def condCols (c:CondD):List Int:=if c.op≠2/\c.const=false then [c.left,c.right] else [c.left]
def columnsN (cs:List CondD):List Int:=cs.flatMap condCols
def partsN (ts:List TableD) (src:List Int) (cs:List CondD):Nat:=
 if cs.length≠1∨(cs.getD 0 cz).not=true then 2
 else if (cs.getD 0 cz).op=1 then 3
 else if (cs.getD 0 cz).op=2 then 10
 else if (cs.getD 0 cz).const=true then (kindsN ts src (cs.getD 0 cz).left).toNat
 else max (kindsN ts src (cs.getD 0 cz).left).toNat (kindsN ts src (cs.getD 0 cz).right).toNat
def rowsN (ts:List TableD) (src:List Int) (s:Int):Nat:=(ts.getD (src.getD s.toNat 0).toNat tz).rows.toNat
def startsB (l m:List Int):Bool:=decide (m.length<=l.length)&&decide (l.take m.length=m)
def arity (kind:Int):Nat:=if kind=1 then 0 else if 3<=kind/\kind<=5 then 2 else 1
theorem withN_cons (l:List Int) (a:Int) (m:List Int):withN l (a::m)=withN (if a∈l then l else l++[a]) m:=rfl
theorem withN_mem {x:Int}:∀ {m l:List Int},x∈withN l m↔x∈l∨x∈m
 | [],l => by show x∈l↔_; simp
 | a::m,l => by
  rw[withN_cons,withN_mem];split
  ·rename_i h
   constructor
   ·rintro (e | e)
    ·exact .inl e
    ·exact .inr (by simp[e])
   ·rintro (e | e)
    ·exact .inl e
    ·rcases List.mem_cons.1 e with e | e
     ·left; rw[e]; exact h
     ·exact .inr e
  ·rw[List.mem_append,List.mem_singleton,List.mem_cons];constructor
   ·rintro ((e | e) | e)
    ·exact .inl e
    ·exact .inr (.inl e)
    ·exact .inr (.inr e)
   ·rintro (e | e | e)
    ·exact .inl (.inl e)
    ·exact .inl (.inr e)
    ·exact .inr e
def SmallL (n:Nat) (l:List Int):Prop:=∀ x∈l,0<=x/\x<(n:Int)
theorem SmallL.with {n:Nat} {l m:List Int} (hl:SmallL n l) (hm:SmallL n m):SmallL n (withN l m):=fun x hx=>by
 rcases withN_mem.1 hx with h | h
 ·exact hl x h
 ·exact hm x h
theorem SmallL.lt {n:Nat} (hn:n<=64) {l:List Int} (h:SmallL n l):setN l<18446744073709551616:=by
 have h1:=setN_lt (n:=n) h;have h2:2 ^ n<=2 ^ 64:=Nat.pow_le_pow_right (by omega) hn;omega
def risingN (s:Nat):List Nat:=(List.range 64).filter fun i=>s.testBit i
theorem range_filter {n m:Nat} (hnm:n<=m) (p:Nat->Bool) (h:∀ i,n<=i->p i=false):(List.range m).filter p=(List.range n).filter p:=by
 induction m with
 | zero =>
  obtain rfl:n=0:=by omega
  rfl
 | succ m ih =>
  by_cases e:n=m+1
  ·rw[e]
  ·rw[List.range_succ,List.filter_append,ih (by omega),List.filter_cons_of_neg (by rw[h m (by omega)]; simp)];simp
structure PartD where
 kind:Int
 sources:Nat
 clauses:Nat
 order:List Int
 size:Nat
 cost:Nat
def coversB (a b:Nat):Bool:=decide (b &&& (18446744073709551615-a)=0)
def concernN (ts:List TableD) (src:List Int) (cs:List CondD):List Int:=(columnsN cs).map fun c=>(sourceN ts src c:Int)
theorem concern_small {ts:List TableD} {src:List Int} (hc:catB ts=true) (ha:allB src ts.length=true) {cs:List CondD} (h:∀ c∈columnsN cs,0<=c/\c<widthN ts src):SmallL src.length (concernN ts src cs):=fun x hx=>by
 obtain⟨c,hm,rfl⟩:=List.mem_map.1 hx;obtain⟨h0,h1⟩:=h c hm;have:=(sourceN_at hc ha h0 h1).1;omega
def ClausesOk (ts:List TableD) (q:QueryV):Prop:=∀ i,i<q.wh.length->∀ c∈columnsN (q.wh.getD i lz).cs,0<=c/\c<widthN ts q.src.xs
theorem setN_one (k:Nat):setN [(k:Int)]=2 ^ k:=by
 unfold setN;rw[List.foldl_cons,List.foldl_nil,Nat.zero_or,Int.toNat_natCast]
def keysP (ts:List TableD) (src:List Int) (cs:List CondD) (a b:Nat):Int × Int × Bool:=
 if cs.length > 1∨(cs.getD 0 cz).op≠0∨(cs.getD 0 cz).not=true∨(cs.getD 0 cz).const=true then (0,0,false)
 else if (coversB a (2 ^ sourceN ts src (cs.getD 0 cz).left)&&coversB b (2 ^ sourceN ts src (cs.getD 0 cz).right))=true then ((cs.getD 0 cz).left,(cs.getD 0 cz).right,true)
 else if (coversB a (2 ^ sourceN ts src (cs.getD 0 cz).right)&&coversB b (2 ^ sourceN ts src (cs.getD 0 cz).left))=true then ((cs.getD 0 cz).right,(cs.getD 0 cz).left,true)
 else (0,0,false)
def sizeP (ts:List TableD) (q:QueryV) (sources clauses:Nat):Nat:=
 if ((risingN sources).map fun (k:Nat)=>rowsN ts q.src.xs (k:Int)).foldl timesN 1=0 then 0
 else max ((risingN clauses).foldl (fun x c=>x / partsN ts q.src.xs (q.wh.getD c lz).cs) (((risingN sources).map fun (k:Nat)=>rowsN ts q.src.xs (k:Int)).foldl timesN 1)) 1
end Go.Scout
