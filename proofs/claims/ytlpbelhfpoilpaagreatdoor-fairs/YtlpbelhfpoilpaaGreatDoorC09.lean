import Derived.Laws.AppendOwnNone
import Derived.Maps.AppendAt
import Derived.Deep.AppendLies
import Derived.RegionTactic
import Derived.Laws.BitsAllLaws
import Derived.Laws.ShiftsVarLaws
import Derived.Shelf.Bits.Mul64
import Derived.Shelf.Strconv.Itoa0
import Derived.Test.YtlpbelhfpoilpaaGreatDoorC05
import Derived.Test.YtlpbelhfpoilpaaGreatDoorC07
import Derived.Test.YtlpbelhfpoilpaaGreatDoorC08
set_option linter.all false
set_option maxRecDepth 100000
set_option maxHeartbeats 16000000
namespace Go.Scout
open Go.RowKit
theorem getD_memR {α:Type} {l:List α} {d:α} {k:Nat} (hk:k<l.length):l.getD k d∈l:=by
 have e:l.getD k d=l[k]:=by simp[List.getD,hk]
 rw[e];exact List.getElem_mem hk
theorem own_news {w:World} {base:Nat} {e:TypeId} {v:Value} {n:Nat} {xs:List Value} (h:w.ownsRow base e 1 v n xs) :
  (v=.slice none 0 0/\xs=[])∨∃ g cap,v=.slice (some (aD g 0)) n cap/\base<=g/\g<w.heap.size/\∀ j u,xs[j]? = some u->w.cell? (((aD g 0):Addr).add j)=some u:=by
 rcases h.2 with⟨rfl,h1⟩ | ⟨g,cap,cur,rfl,hb,hh,_,_,_,ht⟩
 ·exact .inl ⟨rfl,List.eq_nil_of_length_eq_zero (by have:=h.1; omega)⟩
 ·refine .inr ⟨g,cap,rfl,hb,(Array.getElem?_eq_some_iff.1 hh).1,fun j u hj=>?_⟩;rw[<- ht,List.getElem?_take] at hj;split at hj
  ·rw[addr_add];simp only[World.cell?,hh,Nat.zero_add]
   simpa using hj
  ·cases hj
theorem wpList_append_run {P:Program} {w:World} {ops:Array Oper} {rest:List Oper} {o:Oper} {a:Act} {Q:Exit->Act->World->Prop} (hgd:o.guard=none) (s x:Operand) (t:TypeId)
  (ho:o.op=.call { callee:=.builtin .append,args:=#[s,x],argTypes:=#[t,t] }) (v u v':Value) (w':World) (hs:a.eval s=v) (hx:a.eval x=u)
  (hrun:(Builtin.append_ #[t,t] o.type #[v,u]).run P w=.ok v' w') (h:wpList P ops Q rest (a.put o.dst v') w'):wpList P ops Q (o::rest) a w:=by
 refine wpList_plain hgd fun K hK=>?_
 unfold Oper.wp execOp;simp only[ho,resolve,invoke,builtin,Sem.run_bind,Sem.run_pure,Result.andThen_ok,List.map_toArray,List.map_cons,List.map_nil,hs,hx,hrun];exact hK _ _ h
structure Listed (tI tE:TypeId) (base:Nat) (v:Value) (ys:List IntsV) (W:World):Prop where
 own:W.ownsRow base tI 1 v ys.length (ys.map IntsV.val)
 at':∀ y∈ys,(ownEl tE).At y W
theorem own_cells {e:TypeId} {base n:Nat} {v:Value} {xs:List Value} {W:World} (h:W.ownsRow base e 1 v n xs) {b:Nat} (hb:v.ownBlock=some b):∃ cur,W.heap[b]? = some (.cells cur e (0,0)):=by
 rcases h.2 with⟨rfl,_⟩ | ⟨g,cap,cur,rfl,_,h3,_⟩
 ·cases hb
 ·cases hb
  exact⟨cur,h3⟩
theorem Listed.nil (tI tE:TypeId) (base:Nat) (W:World):Listed tI tE base (.slice none 0 0) [] W:=⟨World.ownsRow_nil _ _ _ _,fun y hy=>by cases hy⟩
theorem Listed.below {tI tE:TypeId} {base:Nat} {v:Value} {ys:List IntsV} {W W':World} (h:Listed tI tE base v ys W) (hb:Below W.heap.size W W'):Listed tI tE base v ys W':=
 ⟨ownsRow_move h.own (Nat.le_refl _) (fun j _ hj=>hb.block j hj),fun y hy=>(ownEl tE).keep (h.at' y hy) hb.size (fun b hb' _=>hb.block b hb')⟩
theorem Listed.rows {tI tE:TypeId} {base:Nat} {v:Value} {ys:List IntsV} {W:World} (h:Listed tI tE base v ys W) (hl:ys.length<=1000000):∃ ao cap,v=.slice ao ys.length cap/\RowsAt W ao ys:=by
 rcases h.own.2 with⟨h1,h2⟩ | ⟨g,cap,cur,h1,h2,h3,h4,h5,h6,h7⟩
 ·have:ys=[]:=List.eq_nil_of_length_eq_zero (by omega);subst this;exact⟨none,0,h1,⟨by simp,fun i hi=>absurd hi (by simp),fun i hi=>absurd hi (by simp)⟩⟩
 ·refine⟨some (aD g 0),cap,h1,by omega,fun i hi=>⟨g,0,rfl,?_⟩,fun i hi=>?_⟩
  ·have hi':i<ys.length:=hi;have h8:(cur.toList.take (ys.length*1))[i]? = some (ys.getD i iz).val:=by
    rw[h7,List.getElem?_map];simp[List.getD,hi']
   rw[List.getElem?_take_of_lt (by omega)] at h8;rw[Nat.zero_add];simp only[World.cell?,h3]
   simpa using h8
  ·exact (h.at' _ (getD_memR hi)).1.1
end Go.Scout
namespace Go.Proofs.YtlpbelhfpoilpaaGreatDoor
open Go.RowKit Go.Scout
theorem push_int (W:World) (base:Nat) (v:Value) (xs:List Int) (hown:W.ownsRow base 3 1 v xs.length (xs.map (Value.int .i64))) (hl:xs.length<=1000000) (hb:base<=W.heap.size) (x:Int) (ty:TypeId) :
  ∃ v' w',(Builtin.append_ #[23,23] ty #[v,.slice (some (aD W.heap.size 0)) 1 1]).run Tryz.prog (W.alloc (.cells #[.int .i64 x] 3))=.ok v' w'/\
   w'.ownsRow base 3 1 v' (xs++[x]).length ((xs++[x]).map (Value.int .i64))/\Kept (fun b=>v.ownBlock≠some b) W w'/\(∃ a m c,v' = .slice a m c)/\(v'.ownBlock=v.ownBlock∨v'.ownBlock=some (W.heap.size+1)):=by
 obtain⟨i0,hi,hz0,hz1,hz2⟩:=info_parts Tryz.infoInt;obtain⟨v',w',hr,ho,hg,_,hat⟩:=run_append_own_at (P:=Tryz.prog) (W.alloc (.cells #[.int .i64 x] 3)) base 23 ty 3 i0 (.int .i64 0) 1 8 Tryz.underlying23 hi hz0 hz1 hz2 rfl (by decide) v xs.length (xs.map (Value.int .i64)) (hown.alloc _) (aD W.heap.size 0) 1 1 [.int .i64 x] rfl
  (World.news_of_block (cs:=#[.int .i64 x]) (t:=3) (fr:=(0,0)) (bQ3 W _)) (fun u hu=>by rw[List.mem_singleton] at hu; rw[hu]; rfl) (by unfold maxLen; omega) (by omega) (by rw[World.size_alloc]; omega)
 refine⟨v',w',hr,by rw[List.length_append,List.map_append]; exact ho,(Kept.alloc _ _).trans (Kept.grown hg (fun r e hr=>hr e)),ownsRow_slice ho,by rw[World.size_alloc] at hat; exact hat⟩
end Go.Proofs.YtlpbelhfpoilpaaGreatDoor
namespace Go.Scout
open Go.RowKit
def NatsAt (w:World) (ao:Option Addr) (xs:List Nat):Prop:=
 xs.length<=1000/\CellsAt w ao xs.length (fun i=>.int .u64 ((xs.getD i 0:Nat):Int))
theorem NatsAt.get {w:World} {ao:Option Addr} {xs:List Nat} (h:NatsAt w ao xs) {i:Nat} (hi:i<xs.length) :
  ∃ b off,ao=some (aD b off)/\∀ j,j<xs.length->w.cell? (aD b (off+j))=some (.int .u64 ((xs.getD j 0:Nat):Int)):=
 CellsAt.get h.2 hi
theorem NatsAt.below {w w':World} (hb:Below w.heap.size w w') {ao:Option Addr} {xs:List Nat} (h:NatsAt w ao xs):NatsAt w' ao xs:=⟨h.1,h.2.below hb⟩
def ColsAt (w:World) (ao:Option Addr) (cs:List (Nat × Int)):Prop:=
 cs.length<=1000/\∀ i,i<cs.length->∃ b off,ao=some (aD b off)/\
  w.cell? (aD b (off+i*2))=some (.int .i64 ((cs.getD i (0,0)).1:Nat))/\w.cell? (aD b (off+i*2+1))=some (.int .u64 (cs.getD i (0,0)).2)
theorem ColsAt.below {w w':World} (hb:Below w.heap.size w w') {ao:Option Addr} {cs:List (Nat × Int)} (h:ColsAt w ao cs):ColsAt w' ao cs:=⟨h.1,fun i hi=>by
 obtain⟨b,off,e,c0,c1⟩:=h.2 i hi;exact⟨b,off,e,cB hb c0,cB hb c1⟩⟩
structure FactsV where
 ca:Option Addr
 cc:Nat
 ra:Option Addr
 rc:Nat
 na:Option Addr
 nl:Nat
 nc:Nat
 pa:Option Addr
 pl:Nat
 pc:Nat
def colsN (ts:List TableD) (q:QueryV):List (Nat × Int):=colsTo ts q.src.xs q.src.xs.length
def rowsL (ts:List TableD) (q:QueryV):List Nat:=(List.range q.src.xs.length).map fun (k:Nat)=>rowsN ts q.src.xs (k:Int)
def concL (ts:List TableD) (q:QueryV):List Nat:=q.wh.map fun c=>setN (concernN ts q.src.xs c.cs)
def partL (ts:List TableD) (q:QueryV):List Nat:=q.wh.map fun c=>partsN ts q.src.xs c.cs
def FactsV.cells (f:FactsV) (ts:List TableD) (q:QueryV):Array Value:=
 #[q.src.val,.slice q.wad q.wh.length q.wcap,.bool q.group,q.keys.val,q.sums.val,q.sel.val,q.ord.val,.slice f.ca (colsN ts q).length f.cc,.int .u64 ((2 ^ q.src.xs.length-1:Nat):Int),.int .u64 ((2 ^ q.wh.length-1:Nat):Int),
  .slice f.ra q.src.xs.length f.rc,.slice f.na f.nl f.nc,.slice f.pa f.pl f.pc]
structure FactsV.At (f:FactsV) (ts:List TableD) (q:QueryV) (w:World):Prop where
 query:q.At w
 cols:ColsAt w f.ca (colsN ts q)
 rows:NatsAt w f.ra (rowsL ts q)
 conc:NatsAt w f.na (concL ts q)
 parts:NatsAt w f.pa (partL ts q)
 nl:f.nl=q.wh.length
 pl:f.pl=q.wh.length
theorem FactsV.At.below {w w':World} (hb:Below w.heap.size w w') {f:FactsV} {ts:List TableD} {q:QueryV} (h:f.At ts q w):f.At ts q w':=
 ⟨h.query.below hb,h.cols.below hb,h.rows.below hb,h.conc.below hb,h.parts.below hb,h.nl,h.pl⟩
theorem rowsL_len (ts:List TableD) (q:QueryV):(rowsL ts q).length=q.src.xs.length:=by unfold rowsL; simp
theorem concL_len (ts:List TableD) (q:QueryV):(concL ts q).length=q.wh.length:=by unfold concL; simp
theorem partL_len (ts:List TableD) (q:QueryV):(partL ts q).length=q.wh.length:=by unfold partL; simp
theorem rowsL_get (ts:List TableD) (q:QueryV) {k:Nat} (hk:k<q.src.xs.length):(rowsL ts q).getD k 0=rowsN ts q.src.xs (k:Int):=by unfold rowsL; simp[List.getD,hk]
theorem concL_get (ts:List TableD) (q:QueryV) {k:Nat} (hk:k<q.wh.length):(concL ts q).getD k 0=setN (concernN ts q.src.xs (q.wh.getD k lz).cs):=by unfold concL; simp[List.getD,hk]
theorem partL_get (ts:List TableD) (q:QueryV) {k:Nat} (hk:k<q.wh.length):(partL ts q).getD k 0=partsN ts q.src.xs (q.wh.getD k lz).cs:=by unfold partL; simp[List.getD,hk]
structure PartV where
 kind:Int
 sources:Nat
 clauses:Nat
 order:IntsV
 size:Nat
 cost:Nat
def pvz:PartV:=⟨0,0,0,⟨none,0,[]⟩,0,0⟩
def PartV.cells (p:PartV):Array Value:=#[.int .i64 p.kind,.int .u64 (p.sources:Int),.int .u64 (p.clauses:Int),p.order.val,.int .u64 (p.size:Int),.int .u64 (p.cost:Int)]
def PartV.list (p:PartV):List Value:=[.int .i64 p.kind,.int .u64 (p.sources:Int),.int .u64 (p.clauses:Int),p.order.val,.int .u64 (p.size:Int),.int .u64 (p.cost:Int)]
def PartV.d (p:PartV):PartD:=⟨p.kind,p.sources,p.clauses,p.order.xs,p.size,p.cost⟩
structure PartV.Ok (p:PartV) (w:World):Prop where
 order:p.order.At w
 cap:p.order.xs.length<=p.order.cap
 sources:p.sources<=topN
 clauses:p.clauses<=topN
 size:p.size<=topN
 cost:p.cost<=topN
theorem PartV.Ok.below {w w':World} (hb:Below w.heap.size w w') {p:PartV} (h:p.Ok w):p.Ok w':=⟨IntsAt.below hb h.order,h.cap,h.sources,h.clauses,h.size,h.cost⟩
def PartsAt (w:World) (ao:Option Addr) (ps:List PartV):Prop:=
 ps.length<=1000/\∀ i,i<ps.length->(∃ b off,ao=some (aD b off)/\
  w.cell? (aD b (off+i*6))=some (.int .i64 (ps.getD i pvz).kind)/\w.cell? (aD b (off+i*6+1))=some (.int .u64 ((ps.getD i pvz).sources:Int))/\
  w.cell? (aD b (off+i*6+2))=some (.int .u64 ((ps.getD i pvz).clauses:Int))/\w.cell? (aD b (off+i*6+3))=some (ps.getD i pvz).order.val/\
  w.cell? (aD b (off+i*6+4))=some (.int .u64 ((ps.getD i pvz).size:Int))/\w.cell? (aD b (off+i*6+5))=some (.int .u64 ((ps.getD i pvz).cost:Int)))/\(ps.getD i pvz).Ok w
theorem PartsAt.below {w w':World} (hb:Below w.heap.size w w') {ao:Option Addr} {ps:List PartV} (h:PartsAt w ao ps):PartsAt w' ao ps:=⟨h.1,fun i hi=>by
 obtain⟨⟨b,off,e,c0,c1,c2,c3,c4,c5⟩,ho⟩:=h.2 i hi;exact⟨⟨b,off,e,cB hb c0,cB hb c1,cB hb c2,cB hb c3,cB hb c4,cB hb c5⟩,ho.below hb⟩⟩
theorem flat_get {α:Type} (f:α->List Value) (k:Nat) (hk:∀ a,(f a).length=k) (d:α):∀ (l:List α) (i j:Nat),i<l.length->j<k->(l.flatMap f)[i*k+j]? = (f (l.getD i d))[j]?
 | [],i,j,h,_ => absurd h (by simp)
 | a::l,0,j,_,hj => by
  rw[List.flatMap_cons,Nat.zero_mul,Nat.zero_add,List.getElem?_append_left (by rw[hk]; exact hj)];rfl
 | a::l,i+1,j,h,hj => by
  have e:(i+1)*k+j=(f a).length+(i*k+j):=by rw[hk,Nat.succ_mul]; omega
  rw[List.flatMap_cons,e,List.getElem?_append_right (Nat.le_add_right _ _),Nat.add_sub_cancel_left,flat_get f k hk d l i j (by simpa using h) hj];rfl
theorem flat_len {α:Type} (f:α->List Value) (k:Nat) (hk:∀ a,(f a).length=k):∀ l:List α,(l.flatMap f).length=l.length*k
 | [] => by simp
 | a::l => by rw[List.flatMap_cons,List.length_append,hk,flat_len f k hk l,List.length_cons,Nat.succ_mul]; omega
theorem own_newsN {w:World} {base:Nat} {e:TypeId} {size:Nat} {v:Value} {n:Nat} {xs:List Value} (h:w.ownsRow base e size v n xs) :
  (v=.slice none 0 0/\n=0)∨∃ g cap,v=.slice (some (aD g 0)) n cap/\base<=g/\g<w.heap.size/\∀ j u,xs[j]? = some u->w.cell? (aD g j)=some u:=by
 rcases h.2 with⟨rfl,h1⟩ | ⟨g,cap,cur,rfl,hb,hh,_,_,_,ht⟩
 ·exact .inl ⟨rfl,h1⟩
 ·refine .inr ⟨g,cap,rfl,hb,(Array.getElem?_eq_some_iff.1 hh).1,fun j u hj=>?_⟩;rw[<- ht,List.getElem?_take] at hj;split at hj
  ·simp only[World.cell?,hh]
   simpa using hj
  ·cases hj
theorem nats_own {w:World} {base:Nat} {e:TypeId} {v:Value} {n:Nat} {xs:List Nat} (h:w.ownsRow base e 1 v n (xs.map fun (x:Nat)=>.int .u64 (x:Int))) (hl:xs.length<=1000):∃ ao cap,v=.slice ao xs.length cap/\NatsAt w ao xs:=by
 have hn:xs.length=n:=by have:=h.1; simpa using this
 rcases own_newsN h with⟨rfl,h0⟩ | ⟨g,cap,rfl,_,_,hc⟩
 ·have:xs=[]:=List.eq_nil_of_length_eq_zero (by omega);subst this;exact⟨none,0,rfl,⟨by simp,fun i hi=>absurd hi (by simp)⟩⟩
 ·refine⟨some (aD g 0),cap,by rw[hn],⟨hl,fun i hi=>⟨g,0,rfl,?_⟩⟩⟩;rw[Nat.zero_add];exact hc i _ (by rw[List.getElem?_map]; simp[List.getD,hi])
def colList (c:Nat × Int):List Value:=[.int .i64 (c.1:Int),.int .u64 c.2]
theorem cols_own {w:World} {base:Nat} {e:TypeId} {v:Value} {n:Nat} {cs:List (Nat × Int)} (h:w.ownsRow base e 2 v n (cs.flatMap colList)) (hl:cs.length<=1000):∃ ao cap,v=.slice ao cs.length cap/\ColsAt w ao cs:=by
 have hk:∀ a,(colList a).length=2:=fun _=>rfl
 have hn:cs.length=n:=by have:=h.1; rw[flat_len colList 2 hk] at this; omega
 rcases own_newsN h with⟨rfl,h0⟩ | ⟨g,cap,rfl,_,_,hc⟩
 ·have:cs=[]:=List.eq_nil_of_length_eq_zero (by omega);subst this;exact⟨none,0,rfl,⟨by simp,fun i hi=>absurd hi (by simp)⟩⟩
 ·refine⟨some (aD g 0),cap,by rw[hn],⟨hl,fun i hi=>⟨g,0,rfl,?_,?_⟩⟩⟩
  ·rw[Nat.zero_add];exact hc (i*2) _ (by have:=flat_get colList 2 hk (0,0) cs i 0 hi (by omega); rw[Nat.add_zero] at this; rw[this]; rfl)
  ·rw[Nat.zero_add];exact hc (i*2+1) _ (by rw[flat_get colList 2 hk (0,0) cs i 1 hi (by omega)]; rfl)
theorem parts_own {w:World} {base:Nat} {e:TypeId} {v:Value} {n:Nat} {ps:List PartV} (h:w.ownsRow base e 6 v n (ps.flatMap PartV.list)) (hl:ps.length<=1000) (hp:∀ i,i<ps.length->(ps.getD i pvz).Ok w):∃ ao cap,v=.slice ao ps.length cap/\PartsAt w ao ps:=by
 have hk:∀ a:PartV,a.list.length=6:=fun _=>rfl
 have hn:ps.length=n:=by have:=h.1; rw[flat_len PartV.list 6 hk] at this; omega
 rcases own_newsN h with⟨rfl,h0⟩ | ⟨g,cap,rfl,_,_,hc⟩
 ·have:ps=[]:=List.eq_nil_of_length_eq_zero (by omega);subst this;exact⟨none,0,rfl,⟨by simp,fun i hi=>absurd hi (by simp)⟩⟩
 ·refine⟨some (aD g 0),cap,by rw[hn],⟨hl,fun i hi=>⟨⟨g,0,rfl,?_,?_,?_,?_,?_,?_⟩,hp i hi⟩⟩⟩ <;> rw[Nat.zero_add]
  ·exact hc (i*6) _ (by have:=flat_get PartV.list 6 hk pvz ps i 0 hi (by omega); rw[Nat.add_zero] at this; rw[this]; rfl)
  ·exact hc (i*6+1) _ (by rw[flat_get PartV.list 6 hk pvz ps i 1 hi (by omega)]; rfl)
  ·exact hc (i*6+2) _ (by rw[flat_get PartV.list 6 hk pvz ps i 2 hi (by omega)]; rfl)
  ·exact hc (i*6+3) _ (by rw[flat_get PartV.list 6 hk pvz ps i 3 hi (by omega)]; rfl)
  ·exact hc (i*6+4) _ (by rw[flat_get PartV.list 6 hk pvz ps i 4 hi (by omega)]; rfl)
  ·exact hc (i*6+5) _ (by rw[flat_get PartV.list 6 hk pvz ps i 5 hi (by omega)]; rfl)
theorem push_own {P:Program} (W:World) (base:Nat) (t ty e:TypeId) (i:TypeInfo) (z:Value) (size bytes:Nat) (ht:P.underlying t=some (.slice e)) (hi:P.info? e=some i) (hz:i.zero=some z) (hsize:i.size=size) (hby:i.bytes=bytes) (hzs:z.cells.size=size) (hsz:0<size)
  (v:Value) (n:Nat) (xs:List Value) (hown:W.ownsRow base e size v n xs) (hb:base<=W.heap.size) (news:List Value) (hl:news.length=size) (h1:∀ u∈news,u.oneCell' = true) (hn:n<=1000) (hbb:bytes<=1000) :
  ∃ v' w',(Builtin.append_ #[t,t] ty #[v,.slice (some (aD W.heap.size 0)) 1 1]).run P (W.alloc (.cells news.toArray e))=.ok v' w'/\w'.ownsRow base e size v' (n+1) (xs++news)/\Kept (fun b=>v.ownBlock≠some b) W w'/\(∃ a m c,v' = .slice a m c)/\(v'.ownBlock=v.ownBlock∨v'.ownBlock=some (W.heap.size+1)):=by
 obtain⟨v',w',hr,ho,hg,_,hat⟩:=run_append_own_at (P:=P) (W.alloc (.cells news.toArray e)) base t ty e i z size bytes ht hi hz hsize hby hzs hsz v n xs (hown.alloc _) (aD W.heap.size 0) 1 1 news (by rw[hl,Nat.one_mul])
  (fun j u hj=>by
   rw[addr_add,Nat.zero_add];simp only[World.cell?,bQ3 W _]
   simpa using hj) h1 (by unfold maxLen; omega) (by have:(n+1)*bytes<=1001*1000:=Nat.mul_le_mul (by omega) hbb; omega) (by rw[World.size_alloc]; omega)
 exact⟨v',w',hr,ho,(Kept.alloc _ _).trans (Kept.grown hg (fun r e hr=>hr e)),ownsRow_slice ho,by rw[World.size_alloc] at hat; exact hat⟩
theorem setN_foldl (l:List Int):∀ m:Nat,l.foldl (fun m n=>m|||2 ^ n.toNat) m=m|||setN l:=by
 unfold setN
 induction l with
 | nil => intro m; simp
 | cons a l ih => intro m; rw[List.foldl_cons,List.foldl_cons,ih,ih (0|||_),Nat.zero_or,Nat.or_assoc]
theorem setN_append (a b:List Int):setN (a++b)=setN a|||setN b:=by
 show (a++b).foldl _ 0=_
 rw[List.foldl_append,setN_foldl];rfl
theorem wrap_pow {n:Nat} (h:n<64):IntKind.u64.wrap ((2:Int) ^ n)=((2 ^ n:Nat):Int):=by
 have h1:((2:Int) ^ n)=((2 ^ n:Nat):Int):=by simp
 have h2:2 ^ n<2 ^ 64:=Nat.pow_lt_pow_right (by omega) h;rw[h1];generalize 2 ^ n=m at *;simp only[IntKind.wrap,IntKind.bits,IntKind.signed];simp;omega
theorem or_pow {s n:Nat} (hs:s<18446744073709551616) (h:n<64):bits BinOp.or IntKind.u64 (s:Int) (IntKind.u64.wrap ((2:Int) ^ n))=((s|||2 ^ n:Nat):Int):=by
 rw[wrap_pow h];exact u64_or_nat s (2 ^ n) hs (Nat.pow_lt_pow_right (by omega) h)
theorem setN_take {l:List Int} {k:Nat} (hk:k<l.length):setN (l.take (k+1))=setN (l.take k)|||2 ^ (l.getD k 0).toNat:=by
 have e:l.getD k 0=l[k]:=by simp[List.getD,hk]
 rw[List.take_succ_eq_append_getElem hk,setN_snoc,e]
theorem setN_take_lt {l:List Int} (h:∀ x∈l,0<=x/\x<64) (k:Nat):setN (l.take k)<18446744073709551616:=setN_lt (n:=64) (fun x hx=>h x (List.mem_of_mem_take hx))
def orL (l:List Nat):Nat:=l.foldl (· ||| ·) 0
theorem orL_take {l:List Nat} {k:Nat} (hk:k<l.length):orL (l.take (k+1))=orL (l.take k)|||l.getD k 0:=by
 have e:l.getD k 0=l[k]:=by simp[List.getD,hk]
 rw[List.take_succ_eq_append_getElem hk,e];unfold orL;rw[List.foldl_append];rfl
theorem orL_lt {l:List Nat} (h:∀ x∈l,x<18446744073709551616):∀ k,orL (l.take k)<18446744073709551616:=fun k=>by
 induction k with
 | zero => simp[orL]
 | succ k ih =>
  by_cases hk:k<l.length
  ·rw[orL_take hk];have:l.getD k 0<18446744073709551616:=by
    have e:l.getD k 0=l[k]:=by simp[List.getD,hk]
    rw[e]; exact h _ (List.getElem_mem hk)
   exact Nat.or_lt_two_pow (n:=64) ih this
  ·rw[List.take_of_length_le (by omega)];rw[List.take_of_length_le (by omega)] at ih;exact ih
end Go.Scout
namespace Go.Proofs.YtlpbelhfpoilpaaGreatDoor
open Go.RowKit Go.Scout
theorem covers_any (a b:Nat) (ha:a<18446744073709551616) (hb:b<18446744073709551616) (w:World) :
  Calls Tryz.prog 253 #[.int .u64 (a:Int),.int .u64 (b:Int)] w fun e w'=>e=.returned (.bool (coversB a b))/\w' = w:=by
 have h1:=u64_andNot_nat b a hb ha;go_enter Tryz.func253,Tryz.ntmps253;go_wp2;go_ret;refine⟨ret_bool ?_,rfl⟩;unfold coversB;generalize b &&& 18446744073709551615-a=x;rw[Bool.eq_iff_iff,beq_iff_eq,decide_eq_true_eq];omega
theorem meets_any (a b:Nat) (ha:a<18446744073709551616) (hb:b<18446744073709551616) (w:World) :
  Calls Tryz.prog 287 #[.int .u64 (a:Int),.int .u64 (b:Int)] w fun e w'=>e=.returned (.bool (decide (a &&& b≠0)))/\w' = w:=by
 have h1:=u64_and_nat a b ha hb;go_enter Tryz.func287,Tryz.ntmps287;go_wp2;go_ret;refine⟨ret_bool ?_,rfl⟩;generalize a &&& b=x;rw[Bool.eq_iff_iff,bne_iff_ne,decide_eq_true_eq];omega
theorem setHas_any (s n:Nat) (hs:s<18446744073709551616) (hn:n<64) (w:World) :
  Calls Tryz.prog 256 #[.int .u64 (s:Int),.int .i64 n] w fun e w'=>e=.returned (.bool (s.testBit n))/\w' = w:=by
 go_enter Tryz.func256,Tryz.ntmps256;go_wp2;go_ret;refine⟨ret_bool ?_,rfl⟩;have h1:((s:Int) / 2 ^ n)=((s / 2 ^ n:Nat):Int):=by simp
 have h2:s / 2 ^ n<18446744073709551616:=Nat.lt_of_le_of_lt (Nat.div_le_self _ _) hs;have h3:=u64_and_nat (s / 2 ^ n) 1 h2 (by omega);rw[h1];have h4:bits BinOp.and IntKind.u64 ((s / 2 ^ n:Nat):Int) 1=((s / 2 ^ n &&& 1:Nat):Int):=h3;rw[h4,Nat.testBit,Nat.shiftRight_eq_div_pow,Nat.and_comm,Bool.eq_iff_iff,beq_iff_eq,bne_iff_ne,Nat.one_and_eq_mod_two];omega
theorem firstOf_any (n:Nat) (hn:n<64) (w:World) :
  Calls Tryz.prog 145 #[.int .i64 n] w fun e w'=>e=.returned (.int .u64 ((2 ^ n-1:Nat):Int))/\w' = w:=by
 go_enter Tryz.func145,Tryz.ntmps145;go_wp2;go_ret;refine⟨ret_int ?_,rfl⟩;have h1:((2:Int) ^ n)=((2 ^ n:Nat):Int):=by simp
 have h2:2 ^ n<2 ^ 64:=Nat.pow_lt_pow_right (by omega) hn;have h3:0<2 ^ n:=Nat.pow_pos (by omega);rw[h1];generalize 2 ^ n=m at *;simp only[IntKind.wrap,IntKind.bits,IntKind.signed];simp;omega
theorem setOf_any (ao:Option Addr) (cap:Nat) (xs:List Int) (w:World) (hx:IntsAt w ao xs) (hs:∀ x∈xs,0<=x/\x<64) :
  Calls Tryz.prog 186 #[.slice ao xs.length cap] w fun e w'=>e=.returned (.int .u64 ((setN xs:Nat):Int))/\w' = w:=by
 have hl:=hx.1;have HX:Hid _:=hx;have HS:Hid _:=hs;have HE:Hid (setN (xs.take xs.length)=setN xs):=by show _=_; rw[List.take_length]
 clear hx hs;go_enter Tryz.func186,Tryz.ntmps186;go_wp2;go_loopw [3,8] (fun sv iv wr=>∃ k:Nat,k<=xs.length/\iv=.int .i64 k/\(∃ s:Nat,sv=.int .u64 (s:Int)/\Hid (s=setN (xs.take k)))/\wr=w) (fun _ iv _=>xs.length-(intOf iv).toNat)
 case atStart=>exact⟨0,Nat.zero_le _,rfl,⟨0,rfl,rfl⟩,rfl⟩
 case round=>
  obtain⟨k,hk,rfl,⟨s,rfl,hs⟩,rfl⟩:=hrel;by_cases hlt:k<xs.length
  ·obtain⟨b,off,rfl,hc⟩:=IntsAt.get HX.out hlt;have hck:=hc k hlt;have hm:=HS.out _ (getD_memR hlt (d:=0));have HT:Hid _:=setN_take hlt;have hsl:s<18446744073709551616:=by rw[hs.out]; exact setN_take_lt HS.out k
   clear hc;generalize xs.getD k 0=x at *;obtain⟨n,rfl⟩:=Int.eq_ofNat_of_zero_le hm.1;have hn:n<64:=by omega
   go_wp2;go_roundw
   case rel=>exact⟨k+1,by omega,by go_num,⟨s|||2 ^ n,by rw[or_pow hsl hn],by show _=_; rw[HT.out,hs.out]; rfl⟩,trivial⟩
   case measure=>simp[intOf]; omega
  ·obtain rfl:k=xs.length:=by omega
   have HV:Hid (s=setN xs):=hs.out.trans HE.out;clear hs;go_wp2;go_ret;exact⟨ret_int (by rw[HV.out]),rfl⟩
theorem union_any (ao:Option Addr) (cap:Nat) (xs:List Nat) (w:World) (hx:NatsAt w ao xs) (hs:∀ x∈xs,x<18446744073709551616) :
  Calls Tryz.prog 217 #[.slice ao xs.length cap] w fun e w'=>e=.returned (.int .u64 ((orL xs:Nat):Int))/\w' = w:=by
 have hl:=hx.1;have HX:Hid _:=hx;have HS:Hid _:=hs;have HE:Hid (orL (xs.take xs.length)=orL xs):=by show _=_; rw[List.take_length]
 clear hx hs;go_enter Tryz.func217,Tryz.ntmps217;go_wp2;go_loopw [3,8] (fun sv iv wr=>∃ k:Nat,k<=xs.length/\iv=.int .i64 k/\(∃ s:Nat,sv=.int .u64 (s:Int)/\Hid (s=orL (xs.take k)))/\wr=w) (fun _ iv _=>xs.length-(intOf iv).toNat)
 case atStart=>exact⟨0,Nat.zero_le _,rfl,⟨0,rfl,rfl⟩,rfl⟩
 case round=>
  obtain⟨k,hk,rfl,⟨s,rfl,hs⟩,rfl⟩:=hrel;by_cases hlt:k<xs.length
  ·obtain⟨b,off,rfl,hc⟩:=NatsAt.get HX.out hlt;have hck:=hc k hlt;have hm:=HS.out _ (getD_memR hlt (d:=0));have HT:Hid _:=orL_take hlt;have hsl:s<18446744073709551616:=by rw[hs.out]; exact orL_lt HS.out k
   clear hc;generalize xs.getD k 0=x at *;have hor:=u64_or_nat s x hsl hm;go_wp2;go_roundw
   case rel=>exact⟨k+1,by omega,by go_num,⟨s|||x,rfl,by show _=_; rw[HT.out,hs.out]⟩,trivial⟩
   case measure=>simp[intOf]; omega
  ·obtain rfl:k=xs.length:=by omega
   have HV:Hid (s=orL xs):=hs.out.trans HE.out;clear hs;go_wp2;go_ret;exact⟨ret_int (by rw[HV.out]),rfl⟩
theorem union_two (b:Nat) (x y:Nat) (w:World) (h0:w.cell? (aD b 0)=some (.int .u64 (x:Int))) (h1:w.cell? (aD b 1)=some (.int .u64 (y:Int))) (hx:x<18446744073709551616) (hy:y<18446744073709551616) :
  Calls Tryz.prog 217 #[.slice (some (aD b 0)) 2 2] w fun e w'=>e=.returned (.int .u64 ((x|||y:Nat):Int))/\w' = w:=by
 have h:=union_any (some (aD b 0)) 2 [x,y] w ⟨by simp,fun i hi=>⟨b,0,rfl,by
  rw[Nat.zero_add];have hi':i<2:=hi
  match i,hi' with
  | 0,_ => exact h0
  | 1,_ => exact h1⟩⟩ (fun z hz => by
  rcases List.mem_cons.1 hz with e | e
  ·omega
  ·rw[List.mem_singleton] at e; omega)
 have e:orL [x,y]=x|||y:=by unfold orL; simp
 rw[e] at h;exact h
theorem setOf_one (b:Nat) (n:Nat) (w:World) (h0:w.cell? (aD b 0)=some (.int .i64 (n:Int))) (hn:n<64) :
  Calls Tryz.prog 186 #[.slice (some (aD b 0)) 1 1] w fun e w'=>e=.returned (.int .u64 ((2 ^ n:Nat):Int))/\w' = w:=by
 have h:=setOf_any (some (aD b 0)) 1 [(n:Int)] w ⟨by simp,fun i hi=>⟨b,0,rfl,by
  have hi':i<1:=hi;obtain rfl:i=0:=by omega
  exact h0⟩⟩ (fun z hz=>by rw[List.mem_singleton] at hz; omega)
 rw[setN_one] at h;exact h
theorem outK_any (k:Int) (w:World):Calls Tryz.prog 153 #[.int .i64 k] w fun e w'=>e=.returned (.bool (outK k))/\w' = w:=by
 have hO:outK k=(decide (k=7) || decide (k=8) || decide (k=9) || decide (k=10)):=by
  unfold outK;rw[Bool.eq_iff_iff];simp only[Bool.and_eq_true,Bool.or_eq_true,decide_eq_true_eq];omega
 by_cases h7:k=7
 ·subst h7;go_enter Tryz.func153,Tryz.ntmps153;go_wp2;go_ret;exact⟨rfl,rfl⟩
 by_cases h8:k=8
 ·subst h8;go_enter Tryz.func153,Tryz.ntmps153;go_wp2;go_ret;exact⟨rfl,rfl⟩
 by_cases h9:k=9
 ·subst h9;go_enter Tryz.func153,Tryz.ntmps153;go_wp2;go_ret;exact⟨rfl,rfl⟩
 by_cases h10:k=10
 ·subst h10;go_enter Tryz.func153,Tryz.ntmps153;go_wp2;go_ret;exact⟨rfl,rfl⟩
 have HO:Hid (outK k=false):=by show _=_; rw[hO,decide_eq_false h7,decide_eq_false h8,decide_eq_false h9,decide_eq_false h10]; rfl
 clear hO;go_enter Tryz.func153,Tryz.ntmps153;go_wp2;go_ret;exact⟨ret_bool HO.out.symm,rfl⟩
end Go.Proofs.YtlpbelhfpoilpaaGreatDoor
namespace Go.Scout
open Go.RowKit
theorem bitsN_len:∀ (f x:Nat),x<=f->x<2 ^ 64->bitsN x=Lib.bitLen x:=by
 intro f
 induction f with
 | zero =>
  intro x hx _;obtain rfl:x=0:=by omega
  rw[bitsN_zero];rfl
 | succ f ih =>
  intro x hx h;by_cases h0:x=0
  ·subst h0;rw[bitsN_zero];rfl
  ·rw[bitsN_pos (by omega),Lib.bitLen_half x h0 h,ih (x / 2) (by omega) (by omega),Nat.add_comm]
theorem bitsN_le64 (x:Nat) (h:x<2 ^ 64):bitsN x<=64:=by
 have key:∀ (f x:Nat),x<2 ^ f->bitsN x<=f:=by
  intro f
  induction f with
  | zero =>
   intro x hx;obtain rfl:x=0:=by omega
   rw[bitsN_zero]; omega
  | succ f ih =>
   intro x hx;by_cases h0:x=0
   ·subst h0; rw[bitsN_zero]; omega
   ·rw[bitsN_pos (by omega)];have:=ih (x / 2) (by rw[Nat.pow_succ] at hx; omega);omega
 exact key 64 x h
theorem sumN_le (l:List Nat):sumN l<=topN:=by rw[sumN_eq]; exact Nat.min_le_right _ _
theorem sum_take {l:List Nat} {k:Nat} (hk:k<l.length):(l.take (k+1)).sum=(l.take k).sum+l.getD k 0/\(l.take (k+1)).sum<=l.sum:=by
 have e:l.getD k 0=l[k]:=by simp[List.getD,hk]
 refine⟨by rw[List.take_succ_eq_append_getElem hk,e,List.sum_append]; simp,?_⟩;have h:l.sum=(l.take (k+1)).sum+(l.drop (k+1)).sum:=by rw[<- List.sum_append,List.take_append_drop]
 omega
theorem sumN_over {l:List Nat} {k:Nat} (hk:k<l.length) (h:topN-sumN (l.take k)<l.getD k 0):sumN l=topN:=by
 obtain⟨h1,h2⟩:=sum_take hk;rw[sumN_eq] at h ⊢;omega
theorem sumN_step' {l:List Nat} {k:Nat} (hk:k<l.length) (h:¬ topN-sumN (l.take k)<l.getD k 0):sumN (l.take (k+1))=sumN (l.take k)+l.getD k 0:=by
 have e:l.getD k 0=l[k]:=by simp[List.getD,hk]
 have h1:sumN (l.take (k+1))=plusN (sumN (l.take k)) (l.getD k 0):=by
  rw[List.take_succ_eq_append_getElem hk,e];unfold sumN;rw[List.foldl_append];rfl
 have:=sumN_le (l.take k);rw[h1];unfold plusN;omega
theorem timesN_hi {a b:Nat} (h:0<a*b / 18446744073709551616):timesN a b=18446744073709551615:=by
 unfold timesN topN;omega
theorem timesN_lo {a b:Nat} (h:¬ 0<a*b / 18446744073709551616):timesN a b=a*b % 18446744073709551616:=by
 unfold timesN topN;omega
theorem nats_alloc (w:World) (xs:List Nat) (t:TypeId) (hl:xs.length<=1000):NatsAt (w.alloc (.cells (xs.map fun (x:Nat)=>Value.int .u64 (x:Int)).toArray t)) (some (aD w.heap.size 0)) xs:=by
 refine⟨hl,fun i hi=>⟨w.heap.size,0,rfl,?_⟩⟩;simp only[World.cell?,bQ3 w _];simp[List.getD,hi]
end Go.Scout
namespace Go.Proofs.YtlpbelhfpoilpaaGreatDoor
open Go.RowKit Go.Scout Go.Shelf
def Tryz.bits_ren:Go.Shelf.Ren:=⟨fun | 129=>351 | 264=>350 | n=>n,fun | 3=>3 | 4=>4 | 5=>5 | 9=>9 | 46=>100 | 53=>36 | n=>n,fun | n=>n⟩
theorem Tryz.len64:Go.Proofs.Lays.n129 Tryz.prog Tryz.bits_ren:={
 mixed:=by kernel_rfl
 f129:=Tryz.func351.trans (congrArg some (by kernel_rfl))
 t3:=Tryz.underlying3
 a3:=Tryz.isAgg3
 z3:=Tryz.sizeOf3
 v3:=Tryz.zeroValue3
 t4:=Tryz.underlying4
 a4:=Tryz.isAgg4
 z4:=Tryz.sizeOf4
 v4:=Tryz.zeroValue4
 t5:=Tryz.underlying5
 a5:=Tryz.isAgg5
 z5:=Tryz.sizeOf5
 v5:=Tryz.zeroValue5
 t9:=Tryz.underlying9
 a9:=Tryz.isAgg9
 z9:=Tryz.sizeOf9
 v9:=Tryz.zeroValue9
 t46:=Tryz.underlying100
 a46:=Tryz.isAgg100
 z46:=Tryz.sizeOf100
 v46:=Tryz.zeroValue100
 t53:=Tryz.underlying36
 a53:=Tryz.isAgg36
 z53:=Tryz.sizeOf36
 v53:=Tryz.zeroValue36 }
theorem Tryz.mul64:Go.Proofs.Lays.n264 Tryz.prog Tryz.bits_ren:={
 mixed:=by kernel_rfl
 f264:=Tryz.func350.trans (congrArg some (by kernel_rfl))
 t46:=Tryz.underlying100
 a46:=Tryz.isAgg100
 z46:=Tryz.sizeOf100
 v46:=Tryz.zeroValue100
 t53:=Tryz.underlying36
 a53:=Tryz.isAgg36
 z53:=Tryz.sizeOf36
 v53:=Tryz.zeroValue36 }
theorem len64_any (x:Nat) (w:World) (hx:x<=topN):Calls Tryz.prog 351 #[.int .u64 (x:Int)] w fun e w'=>e=.returned (.int .i64 (bitsN x:Nat))/\w' = w:=by
 have h:=Go.Proofs.Any.bits_Len64 Tryz.len64 (x:Int) w (by omega) (by unfold topN at hx; omega);have e:Lib.bitLen (x:Int).toNat=bitsN x:=by rw[Int.toNat_natCast]; exact (bitsN_len x x (Nat.le_refl _) (by unfold topN at hx; omega)).symm
 rw[e] at h;exact h
theorem mul64_any (x y:Nat) (w:World) (hx:x<=topN) (hy:y<=topN):Calls Tryz.prog 350 #[.int .u64 (x:Int),.int .u64 (y:Int)] w fun e w'=>e=.returned (.tuple #[.int .u64 ((x*y / 18446744073709551616:Nat):Int),.int .u64 ((x*y % 18446744073709551616:Nat):Int)])/\w' = w:=
 Go.Proofs.Any.bits_Mul64 Tryz.mul64 x y (by unfold topN at hx; omega) (by unfold topN at hy; omega) w
theorem timesP_any (a b:Nat) (w:World) (ha:a<=topN) (hb:b<=topN):Calls Tryz.prog 289 #[.int .u64 (a:Int),.int .u64 (b:Int)] w fun e w'=>e=.returned (.int .u64 (timesN a b:Nat))/\w' = w:=by
 have hm:=mul64_any a b w ha hb;have HH:Hid _:=@timesN_hi a b;have HL:Hid _:=@timesN_lo a b;generalize a*b / 18446744073709551616=hi at *;generalize a*b % 18446744073709551616=lo at *;generalize timesN a b=t at *;clear ha hb;go_enter Tryz.func289,Tryz.ntmps289;go_wp2_with fail;refine hm.mono ?_;clear hm;rintro e w2 ⟨rfl,rfl⟩;by_cases h:0<hi
 ·go_wp2;go_ret;exact⟨ret_int (by rw[HH.out h]; rfl),rfl⟩
 ·go_wp2;go_ret;exact⟨ret_int (by rw[HL.out h]),rfl⟩
theorem sum_any (ao:Option Addr) (cap:Nat) (xs:List Nat) (w:World) (hx:NatsAt w ao xs) (hs:∀ x∈xs,x<=topN) :
  Calls Tryz.prog 290 #[.slice ao xs.length cap] w fun e w'=>e=.returned (.int .u64 (sumN xs:Nat))/\w' = w:=by
 have hl:=hx.1;have HX:Hid _:=hx;have HS:Hid _:=hs;have HE:Hid (sumN (xs.take xs.length)=sumN xs):=by show _=_; rw[List.take_length]
 clear hx hs;go_enter Tryz.func290,Tryz.ntmps290;go_wp2;go_loopw [3,8] (fun sv iv wr=>∃ k:Nat,k<=xs.length/\iv=.int .i64 k/\(∃ s:Nat,sv=.int .u64 (s:Int)/\Hid (s=sumN (xs.take k)))/\wr=w) (fun _ iv _=>xs.length-(intOf iv).toNat)
 case atStart=>exact⟨0,Nat.zero_le _,rfl,⟨0,rfl,rfl⟩,rfl⟩
 case round=>
  obtain⟨k,hk,rfl,⟨s,rfl,hs⟩,rfl⟩:=hrel;by_cases hlt:k<xs.length
  ·obtain⟨b,off,rfl,hc⟩:=NatsAt.get HX.out hlt;have hck:=hc k hlt;have hm:=HS.out _ (getD_memR hlt (d:=0));have HO:Hid _:=@sumN_over xs k hlt;have HT:Hid _:=@sumN_step' xs k hlt;have hsl:s<=18446744073709551615:=by rw[hs.out]; exact sumN_le _
   rw[<- hs.out] at HO HT;have hm':xs.getD k 0<=18446744073709551615:=hm;clear hc hm;generalize xs.getD k 0=x at *;by_cases hov:18446744073709551615-s<x
   ·have HV:Hid (sumN xs=18446744073709551615):=HO.out hov;clear HO HT hs;go_wp2;go_ret;exact⟨ret_int (by rw[HV.out]; rfl),rfl⟩
   ·have HV:Hid _:=HT.out hov;clear HO HT hs;go_wp2;go_roundw
    case rel=>exact⟨k+1,by omega,by go_num,⟨s+x,by go_num,HV.out.symm⟩,trivial⟩
    case measure=>simp[intOf]; omega
  ·obtain rfl:k=xs.length:=by omega
   have HV:Hid (s=sumN xs):=hs.out.trans HE.out;clear hs;go_wp2;go_ret;exact⟨ret_int (by rw[HV.out]),rfl⟩
theorem sum_made (w:World) (xs:List Nat) (hl:xs.length<=1000) (hs:∀ x∈xs,x<=topN) :
  Calls Tryz.prog 290 #[.slice (some (aD w.heap.size 0)) xs.length xs.length] (w.alloc (.cells (xs.map fun (x:Nat)=>Value.int .u64 (x:Int)).toArray 36)) fun e w'=>e=.returned (.int .u64 (sumN xs:Nat))/\w' = w.alloc (.cells (xs.map fun (x:Nat)=>Value.int .u64 (x:Int)).toArray 36):=
 sum_any _ _ xs _ (nats_alloc w xs _ hl) hs
theorem sum2 (w:World) (a b:Nat) (ha:a<=topN) (hb:b<=topN) :
  Calls Tryz.prog 290 #[.slice (some (aD w.heap.size 0)) 2 2] (w.alloc (.cells #[.int .u64 (a:Int),.int .u64 (b:Int)] 36)) fun e w'=>e=.returned (.int .u64 (sumN [a,b]:Nat))/\Below w.heap.size w w':=
 (sum_made w [a,b] (by simp) (fun x hx=>by simp at hx; rcases hx with rfl | rfl <;> assumption)).mono fun _ _ ⟨h1,h2⟩=>⟨h1,by rw[h2]; exact bQ2 _ _⟩
theorem sum3 (w:World) (a b c:Nat) (ha:a<=topN) (hb:b<=topN) (hc:c<=topN) :
  Calls Tryz.prog 290 #[.slice (some (aD w.heap.size 0)) 3 3] (w.alloc (.cells #[.int .u64 (a:Int),.int .u64 (b:Int),.int .u64 (c:Int)] 36)) fun e w'=>e=.returned (.int .u64 (sumN [a,b,c]:Nat))/\Below w.heap.size w w':=
 (sum_made w [a,b,c] (by simp) (fun x hx=>by simp at hx; rcases hx with rfl | rfl | rfl <;> assumption)).mono fun _ _ ⟨h1,h2⟩=>⟨h1,by rw[h2]; exact bQ2 _ _⟩
theorem sum4 (w:World) (a b c d:Nat) (ha:a<=topN) (hb:b<=topN) (hc:c<=topN) (hd:d<=topN) :
  Calls Tryz.prog 290 #[.slice (some (aD w.heap.size 0)) 4 4] (w.alloc (.cells #[.int .u64 (a:Int),.int .u64 (b:Int),.int .u64 (c:Int),.int .u64 (d:Int)] 36)) fun e w'=>e=.returned (.int .u64 (sumN [a,b,c,d]:Nat))/\Below w.heap.size w w':=
 (sum_made w [a,b,c,d] (by simp) (fun x hx=>by simp at hx; rcases hx with rfl | rfl | rfl | rfl <;> assumption)).mono fun _ _ ⟨h1,h2⟩=>⟨h1,by rw[h2]; exact bQ2 _ _⟩
theorem joinWork_any (k:Int) (l r s:Nat) (w:World) (hl:l<=topN) (hr:r<=topN) (hs:s<=topN) :
  Calls Tryz.prog 291 #[.int .i64 k,.int .u64 (l:Int),.int .u64 (r:Int),.int .u64 (s:Int)] w fun e w'=>e=.returned (.int .u64 (workP k l r s:Nat))/\Below w.heap.size w w':=by
 by_cases h4:k=4
 ·subst h4;have h:=sum4 w l r r s hl hr hr hs;have hw:workP 4 l r s=sumN [l,r,r,s]:=rfl;rw[hw];generalize sumN [l,r,r,s]=x at *;clear hl hr hs hw;go_enter Tryz.func291,Tryz.ntmps291;go_wp2_with fail;refine h.mono ?_;clear h;rintro e w2 ⟨rfl,hb⟩;go_wp2;go_ret;exact⟨rfl,hb⟩
 by_cases h5:k=5
 ·subst h5;have h:=sum3 w l r s hl hr hs;have hw:workP 5 l r s=sumN [l,r,s]:=rfl;rw[hw];generalize sumN [l,r,s]=x at *;clear hl hr hs hw;go_enter Tryz.func291,Tryz.ntmps291;go_wp2_with fail;refine h.mono ?_;clear h;rintro e w2 ⟨rfl,hb⟩;go_wp2;go_ret;exact⟨rfl,hb⟩
 have h:=timesP_any l r w hl hr;have hw:workP k l r s=timesN l r:=by unfold workP; rw[if_neg h4,if_neg h5]
 rw[hw];generalize timesN l r=x at *;clear hl hr hs hw;go_enter Tryz.func291,Tryz.ntmps291;go_wp2_with fail;refine h.mono ?_;clear h;rintro e w2 ⟨rfl,rfl⟩;go_wp2;go_ret;exact⟨rfl,Below.refl _ _⟩
theorem sortWork_any (l:Nat) (w:World) (hl:l<=topN) :
  Calls Tryz.prog 292 #[.int .u64 (l:Int)] w fun e w'=>e=.returned (.int .u64 (timesN l (bitsN l+1):Nat))/\w' = w:=by
 have h1:=len64_any l w hl;have hb:bitsN l<=64:=bitsN_le64 l (by unfold topN at hl; omega);have h2:=timesP_any l (bitsN l+1) w hl (by unfold topN; omega);generalize bitsN l=n at *;generalize timesN l (n+1)=x at *;clear hl;go_enter Tryz.func292,Tryz.ntmps292;go_wp2_with fail;refine h1.mono ?_;clear h1;rintro e w2 ⟨rfl,rfl⟩;go_wp2_with fail;refine h2.mono ?_;clear h2;rintro e w3 ⟨rfl,rfl⟩;go_wp2;go_ret;exact⟨rfl,rfl⟩
end Go.Proofs.YtlpbelhfpoilpaaGreatDoor
