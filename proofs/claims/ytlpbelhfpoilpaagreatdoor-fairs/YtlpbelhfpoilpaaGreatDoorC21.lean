import Derived.Test.YtlpbelhfpoilpaaGreatDoorC12
import Derived.Test.YtlpbelhfpoilpaaGreatDoorC13
import Derived.Test.YtlpbelhfpoilpaaGreatDoorC18
import Derived.Test.YtlpbelhfpoilpaaGreatDoorC20
set_option linter.all false
set_option maxRecDepth 100000
set_option maxHeartbeats 16000000
namespace Go.Proofs.YtlpbelhfpoilpaaGreatDoor
open Go.RowKit Go.Scout
theorem tab_ink0 (ts:List TableD) (j:Nat) (h:j<6):(lentTabs ts)[ts.length*6+j]? = it[j]?:=by
 unfold lentTabs;rw[List.getElem?_toArray,flat_tail _ 6 tvals_len,List.getElem?_append_left (by simpa [it] using h)]
theorem tab_ink1 (ts:List TableD) (j:Nat) (_h:j<6):(lentTabs ts)[(ts.length+1)*6+j]? = it[j]?:=by
 unfold lentTabs;rw[List.getElem?_toArray,show (ts.length+1)*6+j=ts.length*6+(6+j) by omega,flat_tail _ 6 tvals_len,List.getElem?_append_right (by simp[it])];simp[it]
theorem con_ink0 (cs:List CondD) (j:Nat) (h:j<5):(lentConds cs)[cs.length*5+j]? = ic[j]?:=by
 unfold lentConds;rw[List.getElem?_toArray,flat_tail _ 5 cvals_len,List.getElem?_append_left (by simpa [ic] using h)]
theorem con_ink1 (cs:List CondD) (j:Nat) (_h:j<5):(lentConds cs)[(cs.length+1)*5+j]? = ic[j]?:=by
 unfold lentConds;rw[List.getElem?_toArray,show (cs.length+1)*5+j=cs.length*5+(5+j) by omega,flat_tail _ 5 cvals_len,List.getElem?_append_right (by simp[ic])];simp[ic]
def inkN:NodeV:=⟨77777,0,0,0,⟨none,0,[]⟩,0,⟨none,0,[]⟩⟩
def inkC:CondD:=⟨false,77777,0,false,0⟩
theorem nil_at (w:World):IntsAt w none []:=⟨by simp,fun i hi=>absurd hi (by simp)⟩
theorem nodes2_at {w:World} {b t:Nat} (h:GB w b t (nk++nk).toArray):NodesAt w (some (aD b 0)) [inkN,inkN]:=by
 refine⟨by simp,fun i hi=>?_⟩;have hi2:i<2:=by simpa using hi
 rcases (by omega:i=0∨i=1) with rfl | rfl
 ·exact⟨b,0,rfl,h.cell _,h.cell _,h.cell _,h.cell _,h.cell _,h.cell _,h.cell _,nil_at w,nil_at w⟩
 ·exact⟨b,0,rfl,h.cell _,h.cell _,h.cell _,h.cell _,h.cell _,h.cell _,h.cell _,nil_at w,nil_at w⟩
theorem ink1_at {w:World} {b t:Nat} (h:GB w b t ic.toArray):CondsAt w (some (aD b 0)) [inkC]:=by
 refine⟨by simp,fun i hi=>?_⟩;have hi2:i=0:=by simpa using hi
 subst hi2;exact⟨b,0,rfl,h.cell _,h.cell _,h.cell _,h.cell _,h.cell _⟩
theorem ink2_at {w:World} {b o t k1 k2:Nat} (h0:w.cell? (aD b o)=some (.slice (some (aD k1 0)) 1 1)) (h1:w.cell? (aD b (o+1))=some (.slice (some (aD k2 0)) 1 1)) (hk1:GB w k1 t ic.toArray) (hk2:GB w k2 t ic.toArray) :
  ClausesAt w (some (aD b o)) [⟨some (aD k1 0),1,[inkC]⟩,⟨some (aD k2 0),1,[inkC]⟩]:=by
 refine⟨by simp,fun i hi=>?_,fun i hi=>?_⟩
 ·have hi2:i<2:=by simpa using hi
  rcases (by omega:i=0∨i=1) with rfl | rfl
  ·exact⟨b,o,rfl,h0⟩
  ·exact⟨b,o,rfl,h1⟩
 ·have hi2:i<2:=by simpa using hi
  rcases (by omega:i=0∨i=1) with rfl | rfl
  ·exact ink1_at hk1
  ·exact ink1_at hk2
theorem ink_same (a b c d:Nat):∀ i,i<[(⟨some (aD a 0),1,[inkC]⟩:ClauseV),⟨some (aD b 0),1,[inkC]⟩].length->
  ([(⟨some (aD a 0),1,[inkC]⟩:ClauseV),⟨some (aD b 0),1,[inkC]⟩].getD i lz).cs=([(⟨some (aD c 0),1,[inkC]⟩:ClauseV),⟨some (aD d 0),1,[inkC]⟩].getD i lz).cs:=fun i hi=>by
 have hi2:i<2:=by simpa using hi
 rcases (by omega:i=0∨i=1) with rfl | rfl <;> rfl
end Go.Proofs.YtlpbelhfpoilpaaGreatDoor
namespace Go.Scout
open Go.RowKit Go.Proofs.YtlpbelhfpoilpaaGreatDoor
theorem NodesAt.below {w w':World} (hb:Below w.heap.size w w') {ao:Option Addr} {ns:List NodeV} (h:NodesAt w ao ns):NodesAt w' ao ns:=
 ⟨h.1,fun i hi=>by
  obtain⟨b,off,e,h0,h1,h2,h3,h4,h5,h6,h7,h8⟩:=h.2 i hi;exact⟨b,off,e,cB hb h0,cB hb h1,cB hb h2,cB hb h3,cB hb h4,cB hb h5,cB hb h6,IntsAt.below hb h7,IntsAt.below hb h8⟩⟩
def NodesC (c:Array Value) (ns:List NodeV):Prop:=
 ∀ k,k<ns.length->c[k*7]? = some (.int .i64 (ns.getD k nz).kind)/\c[k*7+1]? = some (.int .i64 (ns.getD k nz).l)/\c[k*7+2]? = some (.int .i64 (ns.getD k nz).r)/\c[k*7+3]? = some (.int .i64 (ns.getD k nz).source)/\
  c[k*7+4]? = some (ns.getD k nz).cl.val/\c[k*7+5]? = some (.int .i64 (ns.getD k nz).key)/\c[k*7+6]? = some (ns.getD k nz).co.val
def LentN (lo:Nat) (W:World) (tI:TypeId) (m n:NodeV):Prop:=
 ∃ P Q,m=⟨n.kind,n.l,n.r,n.source,⟨some (aD P 0),n.cl.xs.length+2,n.cl.xs⟩,n.key,⟨some (aD Q 0),n.co.xs.length+2,n.co.xs⟩⟩/\lo<=P/\lo<=Q/\GB W P tI (lentCells n.cl.xs)/\GB W Q tI (lentCells n.co.xs)
theorem LentN.kept {lo lo':Nat} {W W':World} {tI:TypeId} {m n:NodeV} (h:LentN lo W tI m n) (hl:lo'<=lo) (hk:∀ b,lo<=b->b<W.heap.size->W'.heap[b]? = W.heap[b]?):LentN lo' W' tI m n:=by
 obtain⟨P,Q,e,h1,h2,h3,h4⟩:=h;exact⟨P,Q,e,by omega,by omega,h3.of (hk _ h1 h3.lt),h4.of (hk _ h2 h4.lt)⟩
structure PlanL (lo:Nat) (W:World) (bp:Nat) (tN tI:TypeId) (pl ns:List NodeV):Prop where
 len:ns.length=pl.length+2
 blk:∃ c,GB W bp tN c/\NodesC c ns
 lent:∀ k,k<pl.length->LentN lo W tI (ns.getD k nz) (pl.getD k nz)
 i1:ns.getD pl.length nz=inkN
 i2:ns.getD (pl.length+1) nz=inkN
theorem PlanL.kept {lo lo':Nat} {W W':World} {bp:Nat} {tN tI:TypeId} {pl ns:List NodeV} (h:PlanL lo W bp tN tI pl ns) (hl:lo'<=lo) (hb:lo<=bp) (hk:∀ b,lo<=b->b<W.heap.size->W'.heap[b]? = W.heap[b]?):PlanL lo' W' bp tN tI pl ns:=by
 obtain⟨c,hc,hn⟩:=h.blk;exact⟨h.len,⟨c,hc.of (hk _ hb hc.lt),hn⟩,fun k hk'=>(h.lent k hk').kept hl hk,h.i1,h.i2⟩
theorem NodesC.at {c:Array Value} {ns:List NodeV} (h:NodesC c ns) {W:World} {b:Nat} {t:TypeId} (hb:GB W b t c) {k:Nat} (hk:k<ns.length) :
  W.cell? (aD b (k*7))=some (.int .i64 (ns.getD k nz).kind)/\W.cell? (aD b (k*7+1))=some (.int .i64 (ns.getD k nz).l)/\W.cell? (aD b (k*7+2))=some (.int .i64 (ns.getD k nz).r)/\W.cell? (aD b (k*7+3))=some (.int .i64 (ns.getD k nz).source)/\
  W.cell? (aD b (k*7+4))=some (ns.getD k nz).cl.val/\W.cell? (aD b (k*7+5))=some (.int .i64 (ns.getD k nz).key)/\W.cell? (aD b (k*7+6))=some (ns.getD k nz).co.val:=by
 obtain⟨h0,h1,h2,h3,h4,h5,h6⟩:=h k hk;exact⟨(hb.cell _).trans h0,(hb.cell _).trans h1,(hb.cell _).trans h2,(hb.cell _).trans h3,(hb.cell _).trans h4,(hb.cell _).trans h5,(hb.cell _).trans h6⟩
theorem getD_take {α:Type} (l:List α) (n k:Nat) (z:α) (h:k<n):(l.take n).getD k z=l.getD k z:=by
 simp[List.getD,List.getElem?_take,h]
theorem ints_lent {W:World} {P:Nat} {tI:TypeId} {xs:List Int} (h:GB W P tI (lentCells xs)) (hl:xs.length<=1152921504606846976):IntsAt W (some (aD P 0)) xs:=by
 refine⟨hl,fun i hi=>⟨P,0,rfl,?_⟩⟩;rw[Nat.zero_add,h.cell i];unfold lentCells;rw[List.getElem?_toArray,List.getElem?_append_left (by simpa using hi),List.getElem?_map];simp[List.getD,hi]
theorem PlanL.nodes {lo:Nat} {W:World} {bp:Nat} {tN tI:TypeId} {pl ns:List NodeV} (h:PlanL lo W bp tN tI pl ns) {wd:World} {ao:Option Addr} (hp:NodesAt wd ao pl):NodesAt W (some (aD bp 0)) (ns.take pl.length):=by
 have hl:=h.len;have hlen:(ns.take pl.length).length=pl.length:=by rw[List.length_take]; omega
 refine⟨by rw[hlen]; exact hp.1,fun i hi=>?_⟩;rw[hlen] at hi;rw[getD_take _ _ _ _ hi];obtain⟨c,hc,hn⟩:=h.blk;obtain⟨P,Q,e,_,_,h3,h4⟩:=h.lent i hi;obtain⟨a0,a1,a2,a3,a4,a5,a6⟩:=hn.at hc (show i<ns.length by omega);obtain⟨b,off,_,_,_,_,_,_,_,_,g1,g2⟩:=hp.2 i hi;refine⟨bp,0,rfl,?_⟩;rw[Nat.zero_add];refine⟨a0,a1,a2,a3,a4,a5,a6,?_,?_⟩
 ·rw[e]; exact ints_lent h3 g1.1
 ·rw[e]; exact ints_lent h4 g2.1
theorem PlanL.same {lo:Nat} {W:World} {bp:Nat} {tN tI:TypeId} {pl ns:List NodeV} (h:PlanL lo W bp tN tI pl ns):∀ i,i<pl.length->((ns.take pl.length).getD i nz).same (pl.getD i nz):=fun i hi=>by
 obtain⟨P,Q,e,_⟩:=h.lent i hi;rw[getD_take _ _ _ _ hi,e];exact⟨rfl,rfl,rfl,rfl,rfl,rfl,rfl⟩
theorem PlanL.inks {lo:Nat} {W:World} {bp:Nat} {tN tI:TypeId} {pl ns:List NodeV} (h:PlanL lo W bp tN tI pl ns):NodesAt W (some (aD bp (pl.length*7))) [inkN,inkN]:=by
 have hl:=h.len;obtain⟨c,hc,hn⟩:=h.blk;refine⟨by simp,fun i hi=>?_⟩;have hi2:i<2:=by simpa using hi
 have e:ns.getD (pl.length+i) nz=[inkN,inkN].getD i nz:=by
  rcases (by omega:i=0∨i=1) with rfl | rfl
  ·exact h.i1
  ·exact h.i2
 obtain⟨a0,a1,a2,a3,a4,a5,a6⟩:=hn.at hc (show pl.length+i<ns.length by omega);rw[e] at a0 a1 a2 a3 a4 a5 a6;have en:[inkN,inkN].getD i nz=inkN:=by
  rcases (by omega:i=0∨i=1) with rfl | rfl <;> rfl
 refine⟨bp,pl.length*7,rfl,?_⟩;rw[show pl.length*7+i*7=(pl.length+i)*7 by omega];refine⟨a0,a1,a2,a3,a4,a5,a6,?_,?_⟩ <;> · rw[en]; exact nil_at W
structure GivP (w w':World) (G tG tC tA tS tI tT tN tL tR:Nat) (ts:List TableD) (q:QueryV) (db db':List RowsV) (pl ns:List NodeV) (bc bf bk bu be bo bw bp bd:Nat) (v vr u1 u2:Value) (A:Nat->Nat) (k1 k2 s1 s2:Nat) (x1 x2:Value):Prop where
 bel:Below w.heap.size w w'
 lo:w.heap.size<=G
 g:GB w' G tG #[.slice (some (aD bc 0)) ts.length (ts.length+2),.slice (some (aD bf 0)) q.src.xs.length (q.src.xs.length+2),.slice (some (aD bw 0)) q.wh.length (q.wh.length+2),.bool q.group,
  .slice (some (aD bk 0)) q.keys.xs.length (q.keys.xs.length+2),.slice (some (aD bu 0)) q.sums.xs.length (q.sums.xs.length+2),.slice (some (aD be 0)) q.sel.xs.length (q.sel.xs.length+2),.slice (some (aD bo 0)) q.ord.xs.length (q.ord.xs.length+2),
  .slice (some (aD bp 0)) pl.length (pl.length+2),.slice (some (aD bd 0)) db.length (db.length+2),.slice (some (aD bc 0)) (ts.length+2) (ts.length+2),.slice (some (aD bw 0)) (q.wh.length+2) (q.wh.length+2),v,.slice (some (aD bp 0)) (pl.length+2) (pl.length+2),.slice (some (aD bd 0)) (db.length+2) (db.length+2),vr]
 cat:GB w' bc tT (lentTabs ts)
 src:GB w' bf tI (lentCells q.src.xs)
 keys:GB w' bk tI (lentCells q.keys.xs)
 sums:GB w' bu tI (lentCells q.sums.xs)
 sel:GB w' be tI (lentCells q.sel.xs)
 ord:GB w' bo tI (lentCells q.ord.xs)
 row:w'.rowIs bw tC (q.wh.length+2) (fun i=>if i<q.wh.length then .slice (some (aD (A i) 0)) (q.wh.getD i lz).cs.length ((q.wh.getD i lz).cs.length+2) else if i=q.wh.length then .slice (some (aD k1 0)) 1 1 else .slice (some (aD k2 0)) 1 1)
 al:∀ i,i<q.wh.length->GB w' (A i) tS (lentConds (q.wh.getD i lz).cs)
 own:w'.ownsRow w.heap.size tA 1 v q.wh.length ((List.range q.wh.length).map fun i=>.slice (some (aD (A i) 0)) ((q.wh.getD i lz).cs.length+2) ((q.wh.getD i lz).cs.length+2))
 h1:GB w' k1 tS ic.toArray
 h2:GB w' k2 tS ic.toArray
 plan:PlanL w.heap.size w' bp tN tI pl ns
 len:db'.length=db.length
 dlo:w.heap.size<=bd
 drow:GB w' bd tL (db'.map RowsV.val++[u1,u2]).toArray
 tab:∀ i,i<db'.length->∃ T v1 v2,LentTab bd w' tR tI (db'.getD i rz) (db.getD i rz).rs T v1 v2
 down:w'.ownsRow w.heap.size tL 1 vr db'.length (db'.map RowsV.full)
 e1:u1=.slice (some (aD s1 0)) 1 1
 e2:u2=.slice (some (aD s2 0)) 1 1
 r1:GB w' s1 tR #[x1]
 r2:GB w' s2 tR #[x2]
 q1:InkAt bd w' tI x1
 q2:InkAt bd w' tI x2
 far:w.heap.size<=bc/\w.heap.size<=bf/\w.heap.size<=bk/\w.heap.size<=bu/\w.heap.size<=be/\w.heap.size<=bo/\w.heap.size<=bw/\w.heap.size<=bp/\w.heap.size<=k1/\w.heap.size<=k2/\w.heap.size<=s1/\w.heap.size<=s2
 farA:∀ i,i<q.wh.length->w.heap.size<=A i
variable {w w':World} {G tG tC tA tS tI tT tN tL tR:Nat} {ts:List TableD} {q:QueryV} {db db':List RowsV} {pl ns:List NodeV} {bc bf bk bu be bo bw bp bd:Nat} {v vr u1 u2:Value} {A:Nat->Nat} {k1 k2 s1 s2:Nat} {x1 x2:Value}
theorem GivP.below (h:GivP w w' G tG tC tA tS tI tT tN tL tR ts q db db' pl ns bc bf bk bu be bo bw bp bd v vr u1 u2 A k1 k2 s1 s2 x1 x2) {w'':World} (hb:Below w'.heap.size w' w''):GivP w w'' G tG tC tA tS tI tT tN tL tR ts q db db' pl ns bc bf bk bu be bo bw bp bd v vr u1 u2 A k1 k2 s1 s2 x1 x2:=by
 have m:∀ {b t:Nat} {c:Array Value},GB w' b t c->GB w'' b t c:=fun g=>g.of (hb.block _ g.lt)
 have hk:∀ b,bd<b->b<w'.heap.size->w''.heap[b]? = w'.heap[b]?:=fun b _ hl=>hb.block b hl
 exact⟨bQ1 h.bel hb,h.lo,m h.g,m h.cat,m h.src,m h.keys,m h.sums,m h.sel,m h.ord,h.row.of_block (hb.block _ h.row.lt),fun i hi=>m (h.al i hi),
  ownsRow_move h.own (Nat.le_refl _) (fun j _ hj=>hb.block j hj),m h.h1,m h.h2,h.plan.kept (Nat.le_refl _) h.far.2.2.2.2.2.2.2.1 (fun b _ hl=>hb.block b hl),h.len,h.dlo,m h.drow,fun i hi=>by
   obtain⟨T,a,b,ht⟩:=h.tab i hi;exact⟨T,a,b,ht.kept hk⟩,ownsRow_move h.down (Nat.le_refl _) (fun j _ hj=>hb.block j hj),h.e1,h.e2,m h.r1,m h.r2,h.q1.kept hk,h.q2.kept hk,h.far,h.farA⟩
theorem GivP.had (h:GivP w w' G tG tC tA tS tI tT tN tL tR ts q db db' pl ns bc bf bk bu be bo bw bp bd v vr u1 u2 A k1 k2 s1 s2 x1 x2) {d:Option Addr} {wd:World} (hd:DbAt wd d db):DbHad w' (some (aD bd 0)) db':=by
 have hl:=h.len;have hth:∀ i,i<db'.length->RowsHad w' (db'.getD i rz).ad (db'.getD i rz).rs:=fun i hi=>by
  obtain⟨T,a,b,ht⟩:=h.tab i hi;exact ht.had (hd.2.2 i (by omega)).1 (fun j hj=>((hd.2.2 i (by omega)).2.2 j hj).1)
 refine⟨⟨by have:=hd.1; omega,fun i hi=>⟨bd,0,rfl,?_⟩,fun i hi=>(hth i hi).1⟩,hth⟩;rw[Nat.zero_add,h.drow.cell i,List.getElem?_toArray,List.getElem?_append_left (by simpa using hi),List.getElem?_map]
 show _=some (db'.getD i rz).val
 simp[List.getD,hi]
theorem GivP.later (h:GivP w w' G tG tC tA tS tI tT tN tL tR ts q db db' pl ns bc bf bk bu be bo bw bp bd v vr u1 u2 A k1 k2 s1 s2 x1 x2) {w'':World} (hs:w'.heap.size<=w''.heap.size) (hk:∀ b,w.heap.size<=b->b<w'.heap.size->w''.heap[b]? = w'.heap[b]?):GivP (emptyW w'') w'' G tG tC tA tS tI tT tN tL tR ts q db db' pl ns bc bf bk bu be bo bw bp bd v vr u1 u2 A k1 k2 s1 s2 x1 x2:=by
 have m:∀ {b t:Nat} {c:Array Value},GB w' b t c->w.heap.size<=b->GB w'' b t c:=fun g hl=>g.of (hk _ hl g.lt)
 have hd:=h.dlo;obtain⟨f1,f2,f3,f4,f5,f6,f7,f8,f9,f10,f11,f12⟩:=h.far;have hk2:∀ b,bd<b->b<w'.heap.size->w''.heap[b]? = w'.heap[b]?:=fun b hl hb=>hk b (by omega) hb
 exact⟨⟨rfl,rfl,rfl,Nat.zero_le _,fun k hk=>absurd hk (by simp[emptyW])⟩,Nat.zero_le _,m h.g h.lo,m h.cat f1,m h.src f2,m h.keys f3,m h.sums f4,m h.sel f5,m h.ord f6,h.row.of_block (hk _ f7 h.row.lt),fun i hi=>m (h.al i hi) (h.farA i hi),
  ownsRow_move h.own (Nat.zero_le _) (fun j hj hl=>hk j hj hl),m h.h1 f9,m h.h2 f10,h.plan.kept (Nat.zero_le _) f8 hk,h.len,Nat.zero_le _,m h.drow hd,fun i hi=>by
   obtain⟨T,a,b,ht⟩:=h.tab i hi;exact⟨T,a,b,ht.kept hk2⟩,ownsRow_move h.down (Nat.zero_le _) (fun j hj hl=>hk j hj hl),h.e1,h.e2,m h.r1 f11,m h.r2 f12,h.q1.kept hk2,h.q2.kept hk2,⟨Nat.zero_le _,Nat.zero_le _,Nat.zero_le _,Nat.zero_le _,Nat.zero_le _,Nat.zero_le _,Nat.zero_le _,Nat.zero_le _,Nat.zero_le _,Nat.zero_le _,Nat.zero_le _,Nat.zero_le _⟩,fun _ _=>Nat.zero_le _⟩
theorem GivP.same (h:GivP w w' G tG tC tA tS tI tT tN tL tR ts q db db' pl ns bc bf bk bu be bo bw bp bd v vr u1 u2 A k1 k2 s1 s2 x1 x2):∀ i,i<db.length->(db'.getD i rz).rs.length=(db.getD i rz).rs.length/\∀ j,j<(db.getD i rz).rs.length->((db'.getD i rz).rs.getD j iz).xs=((db.getD i rz).rs.getD j iz).xs:=fun i hi=>by
 obtain⟨T,a,b,ht⟩:=h.tab i (by have:=h.len; omega);refine⟨ht.len,fun j hj=>?_⟩;obtain⟨B,e,_⟩:=ht.rows j hj;rw[e]
end Go.Scout
namespace Go.Proofs.YtlpbelhfpoilpaaGreatDoor
open Go.RowKit Go.Scout
variable {w w':World} {G tG tC tA tS tI tT tN tL tR:Nat} {ts:List TableD} {q:QueryV} {db db':List RowsV} {pl ns:List NodeV} {bc bf bk bu be bo bw bp bd:Nat} {v vr u1 u2:Value} {A:Nat->Nat} {k1 k2 s1 s2:Nat} {x1 x2:Value}
theorem GivP_query (h:GivP w w' G tG tC tA tS tI tT tN tL tR ts q db db' pl ns bc bf bk bu be bo bw bp bd v vr u1 u2 A k1 k2 s1 s2 x1 x2) {wd:World} (hq:q.At wd):(lentQ q bf bk bu be bo bw A).At w':=
 ⟨lentAt h.src hq.src.1,lentRow rfl h.row (fun i hi=>by rw[if_pos hi]) h.al hq.wh.1 (fun i hi=>(hq.wh.2.2 i hi).1),lentAt h.keys hq.keys.1,lentAt h.sums hq.sums.1,lentAt h.sel hq.sel.1,lentAt h.ord hq.ord.1⟩
end Go.Proofs.YtlpbelhfpoilpaaGreatDoor
namespace Go.Scout
open Go.RowKit
def cntN (pl:List NodeV) (i j:Nat):Nat:=sumTo' i fun m=>(inpN pl m).count j
theorem cntN_succ (pl:List NodeV) (i j:Nat):cntN pl (i+1) j=cntN pl i j+(inpN pl i).count j:=sumTo'_succ _ _
theorem inp_len (pl:List NodeV) (i:Nat):(inpN pl i).length<=2:=by
 unfold inpN;simp only
 repeat' split
 all_goals simp
theorem cntN_le (pl:List NodeV) (j:Nat):∀ i,cntN pl i j<=2*i
 | 0 => by simp[cntN,sumTo']
 | i+1 => by
  rw[cntN_succ];have h1:=cntN_le pl j i;have h2:(inpN pl i).count j<=(inpN pl i).length:=List.count_le_length;have h3:=inp_len pl i;omega
theorem arity_le (k:Int):arity k<=2:=by unfold arity; split <;> (try split) <;> omega
def aheadB (n:NodeV) (i:Nat):Bool:=(inputsL n).all fun x=>decide (0<=x)&&decide (x<(i:Int))
theorem stands_eq (n:NodeV) (i:Nat):standsP n i=(decide (1<=n.kind)&&decide (n.kind<=10)&&moreP n&&aheadB n i):=by
 unfold standsP aheadB inputsL;have ha:=arity_le n.kind;generalize arity n.kind=a at *;rw[Bool.and_assoc];congr 1
 match a,ha with
 | 0,_ => simp
 | 1,_ => simp
 | 2,_ => simp
theorem inp_of {pl:List NodeV} {i:Nat} (h:aheadB (pl.getD i nz) i=true):inpN pl i=(inputsL (pl.getD i nz)).map Int.toNat:=by
 unfold aheadB inputsL at h;unfold inpN inputsL;simp only;have ha:=arity_le (pl.getD i nz).kind;generalize arity (pl.getD i nz).kind=a at *
 match a,ha with
 | 0,_ => simp
 | 1,_ =>
  simp at h;simp[h]
 | 2,_ =>
  simp at h;simp[h]
def cntI (pl:List NodeV) (i m j:Nat):Nat:=cntN pl i j+(((inputsL (pl.getD i nz)).take m).map Int.toNat).count j
theorem cntI_succ (pl:List NodeV) (i:Nat) {m:Nat} (hm:m<(inputsL (pl.getD i nz)).length) (j:Nat):cntI pl i (m+1) j=cntI pl i m j+if j=((inputsL (pl.getD i nz)).getD m 0).toNat then 1 else 0:=by
 unfold cntI;generalize inputsL (pl.getD i nz)=L at *;have e:L.getD m 0=L[m]:=by simp[List.getD,hm]
 rw[List.take_succ_eq_append_getElem hm,List.map_append,List.count_append,e];simp only[List.map_cons,List.map_nil,List.count_singleton];by_cases h:j=L[m].toNat
 ·rw[if_pos h,h]; simp; omega
 ·rw[if_neg h];have:(L[m].toNat==j)=false:=by rw[beq_eq_false_iff_ne]; exact fun e=>h e.symm
  rw[this]; simp
theorem cntI_zero (pl:List NodeV) (i j:Nat):cntI pl i 0 j=cntN pl i j:=by unfold cntI; simp
theorem cntI_all {pl:List NodeV} {i:Nat} (h:aheadB (pl.getD i nz) i=true) (j:Nat):cntI pl i (inputsL (pl.getD i nz)).length j=cntN pl (i+1) j:=by
 unfold cntI;rw[List.take_length,cntN_succ,inp_of h]
theorem inputsL_len (n:NodeV):(inputsL n).length<=2:=by unfold inputsL; rw[List.length_take]; simp; omega
theorem ahead_bad {n:NodeV} {i m:Nat} (hm:m<(inputsL n).length) (h:(inputsL n).getD m 0<0∨(i:Int)<=(inputsL n).getD m 0):aheadB n i=false:=by
 unfold aheadB;rw[List.all_eq_false];refine⟨_,getD_memR hm (d:=0),?_⟩;generalize (inputsL n).getD m 0=x at *;rw[Bool.and_eq_true,decide_eq_true_eq,decide_eq_true_eq];omega
theorem ahead_all {n:NodeV} {i:Nat} (h:∀ m,m<(inputsL n).length->0<=(inputsL n).getD m 0/\(inputsL n).getD m 0<(i:Int)):aheadB n i=true:=by
 unfold aheadB;rw[List.all_eq_true];intro x hx;obtain⟨m,hm,rfl⟩:=List.getElem_of_mem hx;have:=h m hm
 simpa [List.getD,hm] using this
theorem plan_bad {pl:List NodeV} {k:Nat} (hk:k<pl.length) (h:standsP (pl.getD k nz) k=false):isPlanP pl=false:=by
 unfold isPlanP;have:((List.range pl.length).all fun i=>standsP (pl.getD i nz) i)=false:=by
  rw[List.all_eq_false];exact⟨k,List.mem_range.2 hk,by rw[h]; simp⟩
 rw[this,Bool.and_false,Bool.false_and]
theorem plan_once {pl:List NodeV} (h1:1<=pl.length) (h64:pl.length<=64) (h:∀ i,i<pl.length->standsP (pl.getD i nz) i=true):isPlanP pl=onceB pl:=by
 unfold isPlanP;have:((List.range pl.length).all fun i=>standsP (pl.getD i nz) i)=true:=by
  rw[List.all_eq_true];exact fun i hi=>h i (List.mem_range.1 hi)
 rw[this,decide_eq_true h1,decide_eq_true h64];rfl
theorem once_bad {pl:List NodeV} {k:Nat} (hk:k<pl.length-1) (h:cntN pl pl.length k≠1):onceB pl=false:=by
 unfold onceB;rw[List.all_eq_false];exact⟨k,List.mem_range.2 hk,by show ¬ decide (cntN pl pl.length k=1)=true; rw[decide_eq_false h]; simp⟩
theorem once_good {pl:List NodeV} (h:∀ k,k<pl.length-1->cntN pl pl.length k=1):onceB pl=true:=by
 unfold onceB;rw[List.all_eq_true];exact fun k hk=>decide_eq_true (h k (List.mem_range.1 hk))
end Go.Scout
namespace Go.Proofs.YtlpbelhfpoilpaaGreatDoor
open Go.RowKit Go.Scout
theorem more_any (n:NodeV) (w:World) (h1:1<=n.kind) (hcl:n.cl.xs.length<=1152921504606846976) (hco:n.co.xs.length<=1152921504606846976) :
  Calls Tryz.prog 220 #[.agg n.cells,.agg (shapeCells n.kind)] w fun e w'=>e=.returned (.bool (moreP n))/\Below w.heap.size w w':=by
 have h:=hasNoMore_any n (arity n.kind) (decide (n.kind=1)) (decide (2<=n.kind/\n.kind<=5)) (decide (n.kind=4∨n.kind=5)) (decide (n.kind=6)) w hcl hco;rw[hasB_more] at h;unfold shapeCells;rw[shapeIn_arity h1];exact h
theorem isPlan_any (po:Option Addr) (pc:Nat) (pl:List NodeV) (w:World) (hp:NodesAt w po pl) (hs:ShapesAt w 0) :
  Calls Tryz.prog 148 #[.slice po pl.length pc] w fun e w'=>e=.returned (.bool (isPlanP pl))/\Below w.heap.size w w':=by
 have hpl:=hp.1;by_cases z0:pl.length<1
 ·have HV:Hid (isPlanP pl=false):=by show _=_; unfold isPlanP; rw[decide_eq_false (by omega)]; rfl
  have z0':(pl.length:Int)<1:=by omega
  generalize isPlanP pl=R at *;clear hp hs;go_enter Tryz.func148,Tryz.ntmps148;go_wp2;go_ret;exact⟨ret_bool HV.out.symm,Below.refl _ _⟩
 by_cases z1:64<pl.length
 ·have HV:Hid (isPlanP pl=false):=by show _=_; unfold isPlanP; rw[decide_eq_false (show ¬ pl.length<=64 by omega),Bool.and_false]; rfl
  have z1':(64:Int)<(pl.length:Int):=by omega
  have z0':¬ (pl.length:Int)<1:=by omega
  generalize isPlanP pl=R at *;clear hp hs;go_enter Tryz.func148,Tryz.ntmps148;go_wp2;go_ret;exact⟨ret_bool HV.out.symm,Below.refl _ _⟩
 have hmk:=run_make_row' (P:=Tryz.prog) 23 3 (.int .i64 0) 8 Tryz.underlying23 Tryz.info3 rfl .i64 .i64 pl.length (by omega) (by omega);obtain⟨w1,hw1⟩:∃ x,w.alloc (.cells (madeCells #[.int .i64 0] pl.length) 3)=x:=⟨_,rfl⟩
 have hR1:w1.rowIs w.heap.size 3 pl.length (fun _=>.int .i64 0):=by rw[<- hw1]; exact World.rowIs_made _ _ _ _
 have hk1:Below w.heap.size w w1:=by rw[<- hw1]; exact bQ2 _ _
 have hs1:w.heap.size<w1.heap.size:=by rw[<- hw1]; simp
 have HPN:Hid (∀ x,Kept (fun b=>b≠w.heap.size) w1 x->Below w.heap.size w x/\NodesAt x po pl/\ShapesAt x 0):=fun x hk=>by
  have hb:Below w.heap.size w x:=Below.trans hk1 (hk.below (Nat.le_of_lt hs1) (fun b hb=>Nat.ne_of_lt hb));exact⟨hb,hp.below hb,hs.below hb⟩
 have z0':¬ (pl.length:Int)<1:=by omega
 have z1':¬ (64:Int)<(pl.length:Int):=by omega
 have HBAD:Hid _:=@plan_bad pl;have HON:Hid _:=plan_once (pl:=pl) (by omega) (by omega);have HOB:Hid _:=@once_bad pl;have HOG:Hid _:=@once_good pl;have HR0:Hid (w1.rowIs w.heap.size 3 pl.length (fun j=>.int .i64 ((cntN pl 0 j:Nat):Int))):=hR1;have HCL:Hid (∀ i j,cntN pl i j<=2*i):=fun i j=>cntN_le pl j i
 generalize isPlanP pl=R at *;generalize onceB pl=OB at *;have HK1:Hid _:=hk1;clear hp hs hR1 hk1 z0 z1;go_enter Tryz.func148,Tryz.ntmps148;go_wp2;clear hw1 hmk;go_loopw [23] (fun iv wr=>∃ k:Nat,k<=pl.length/\iv=.int .i64 k/\Hid (∀ i,i<k->standsP (pl.getD i nz) i=true)/\Hid (wr.rowIs w.heap.size 3 pl.length (fun j=>.int .i64 ((cntN pl k j:Nat):Int)))/\Hid (Kept (fun b=>b≠w.heap.size) w1 wr)) (fun iv _=>pl.length-(intOf iv).toNat)
 case atStart=>exact⟨0,Nat.zero_le _,rfl,fun j hj=>absurd hj (by omega),HR0.out,Kept.refl _ _⟩
 case round=>
  obtain⟨k,hk,rfl,HJ,HRW,HKW⟩:=hrel;obtain⟨hbw,hpw,hsw⟩:=HPN.out wr HKW.out;by_cases hlt:k<pl.length
  ·obtain⟨pb,po',rfl,c0,c1,c2,c3,c4,c5,c6,i1,i2⟩:=hpw.2 k hlt;have HBk:Hid (standsP (pl.getD k nz) k=false->R=false):=fun e=>HBAD.out hlt e
   have HJ':Hid (standsP (pl.getD k nz) k=true->∀ i,i<k+1->standsP (pl.getD i nz) i=true):=fun h i hi=>by
    rcases Nat.lt_or_ge i k with h' | h'
    ·exact HJ.out i h'
    ·obtain rfl:i=k:=by omega
     exact h
   have HSE:Hid _:=stands_eq (pl.getD k nz) k;have HAB:Hid (∀ m,m<(inputsL (pl.getD k nz)).length->((inputsL (pl.getD k nz)).getD m 0<0∨(k:Int)<=(inputsL (pl.getD k nz)).getD m 0)->aheadB (pl.getD k nz) k=false):=fun m hm h=>ahead_bad hm h
   have HAA:Hid _:=@ahead_all (pl.getD k nz) k;have HCS:Hid (∀ m,m<(inputsL (pl.getD k nz)).length->∀ j,cntI pl k (m+1) j=cntI pl k m j+if j=((inputsL (pl.getD k nz)).getD m 0).toNat then 1 else 0):=fun m hm j=>cntI_succ pl k hm j
   have HCA:Hid (aheadB (pl.getD k nz) k=true->∀ j,cntI pl k (inputsL (pl.getD k nz)).length j=cntN pl (k+1) j):=fun h j=>cntI_all h j
   have HCB:Hid (∀ m j,cntI pl k m j<=2*k+2):=fun m j=>by
    unfold cntI;have h1:=HCL.out k j;have h2:(((inputsL (pl.getD k nz)).take m).map Int.toNat).count j<=(((inputsL (pl.getD k nz)).take m).map Int.toNat).length:=List.count_le_length;rw[List.length_map,List.length_take] at h2;have h3:=inputsL_len (pl.getD k nz);omega
   have HRI:Hid (wr.rowIs w.heap.size 3 pl.length (fun j=>.int .i64 ((cntI pl k 0 j:Nat):Int))):=HRW.out.congr (fun j _=>by rw[cntI_zero]);have HMO:Hid (∀ x,1<=(pl.getD k nz).kind->_):=fun x h1=>more_any (pl.getD k nz) x h1 i1.1 i2.1
   have HIO:Hid (∀ x,ShapesAt x 0->1<=(pl.getD k nz).kind->(pl.getD k nz).kind<=10->_):=fun x hs h1 h10=>inputsOf_any (pl.getD k nz) x hs h1 h10
   have HIL:Hid _:=inputsL_len (pl.getD k nz);generalize inputsL (pl.getD k nz)=L at *;generalize aheadB (pl.getD k nz) k=AB at *;generalize standsP (pl.getD k nz) k=SB at *;generalize moreP (pl.getD k nz)=MB at *;generalize cntI pl k=CI at *;generalize pl.getD k nz=n at *;obtain⟨nk,nl,nr,ns,⟨na,nc,nx⟩,ny,⟨oa,oc,ox⟩⟩:=n;unfold NodeV.cells IntsV.val at *;simp only at *;clear i1 i2 HJ HRW HBAD hpw;obtain⟨wb,hwb⟩:∃ x,wr.alloc (.cells #[.int .i64 nk,.int .i64 nl,.int .i64 nr,.int .i64 ns,.slice na nx.length nc,.int .i64 ny,.slice oa ox.length oc] 58)=x:=⟨_,rfl⟩
   have hkb:Below wr.heap.size wr wb:=by rw[<- hwb]; exact bQ2 _ _
   have hgb:GB wb wr.heap.size 58 #[.int .i64 nk,.int .i64 nl,.int .i64 nr,.int .i64 ns,.slice na nx.length nc,.int .i64 ny,.slice oa ox.length oc]:=by rw[<- hwb]; exact bQ3 _ _
   have m0:wb.cell? (aD wr.heap.size 0)=some (.int .i64 nk):=hgb.cell 0;have m1:wb.cell? (aD wr.heap.size 1)=some (.int .i64 nl):=hgb.cell 1;have m2:wb.cell? (aD wr.heap.size 2)=some (.int .i64 nr):=hgb.cell 2;have m3:wb.cell? (aD wr.heap.size 3)=some (.int .i64 ns):=hgb.cell 3;have m4:wb.cell? (aD wr.heap.size 4)=some (.slice na nx.length nc):=hgb.cell 4;have m5:wb.cell? (aD wr.heap.size 5)=some (.int .i64 ny):=hgb.cell 5;have m6:wb.cell? (aD wr.heap.size 6)=some (.slice oa ox.length oc):=hgb.cell 6;have HBW:Hid (Below w.heap.size w wb):=bQ1 hbw hkb;have HKB:Hid _:=hkb;have HSB:Hid (ShapesAt wb 0):=hsw.below hkb;clear hgb hkb hbw hsw;by_cases b1:nk<1
   ·have HV:Hid (R=false):=HBk.out (by rw[HSE.out,decide_eq_false (by omega)]; rfl);clear HSE HBk HJ' HAB HAA HCS HCA HCB HMO HIO;go_wp2;refine wp_region_below (by kernel_rfl) (by kernel_rfl) ?_;go_big_quiet_want;refine⟨.pointer (some (aD wr.heap.size 0)),fun x hx=>?_,?_⟩
    ·go_simp
    simp only[pA,sB,sC];go_big_quiet_on;go_big_quiet_want;refine⟨.int .i64 nk,fun x hx=>?_,?_⟩
    ·have e0:=cB hx m0;go_simp
    simp only[pA,sB,sC];go_big_quiet_on;go_big_quiet_want;refine⟨.bool true,fun x hx=>?_,?_⟩
    ·go_simp
    simp only[pA,sB,sC];go_big_quiet_on;go_big_quiet_want;refine⟨.bool true,fun x hx=>?_,?_⟩
    ·go_simp
    simp only[pA,sB,sC];go_big_quiet_on;go_big_quiet_skip
    try simp only[pA,sB,sC]
    go_big_quiet_skip
    try simp only[pA,sB,sC]
    go_big_quiet_skip
    try simp only[pA,sB,sC]
    go_big_quiet_want;refine⟨.bool true,fun x hx=>?_,?_⟩
    ·go_simp
    simp only[pA,sB,sC];go_big_quiet_on;go_big_quiet_want;refine⟨.bool true,fun x hx=>?_,?_⟩
    ·go_simp
    simp only[pA,sB,sC];go_big_quiet_on;go_big_quiet_skip
    try simp only[pA,sB,sC]
    go_big_quiet_skip
    try simp only[pA,sB,sC]
    go_big_quiet_skip
    try simp only[pA,sB,sC]
    go_big_quiet_skip
    try simp only[pA,sB,sC]
    go_big_quiet_skip
    try simp only[pA,sB,sC]
    go_big_quiet_skip
    try simp only[pA,sB,sC]
    go_big_quiet_skip
    try simp only[pA,sB,sC]
    go_big_quiet_want;refine⟨.bool true,fun x hx=>?_,?_⟩
    ·go_simp
    simp only[pA,sB,sC];go_big_quiet_on;refine wpQuiet_nil ?_;intro w2 hb2;have HB2:Hid _:=bQ1 HBW.out hb2;clear hb2;go_wp2;go_ret;exact⟨ret_bool HV.out.symm,HB2.out⟩
   by_cases b2:10<nk
   ·have HV:Hid (R=false):=HBk.out (by rw[HSE.out,decide_eq_false (show ¬ nk<=10 by omega),Bool.and_false]; rfl);clear HSE HBk HJ' HAB HAA HCS HCA HCB HMO HIO;go_wp2;refine wp_region_below (by kernel_rfl) (by kernel_rfl) ?_;go_big_quiet_want;refine⟨.pointer (some (aD wr.heap.size 0)),fun x hx=>?_,?_⟩
    ·go_simp
    simp only[pA,sB,sC];go_big_quiet_on;go_big_quiet_want;refine⟨.int .i64 nk,fun x hx=>?_,?_⟩
    ·have e0:=cB hx m0;go_simp
    simp only[pA,sB,sC];go_big_quiet_on;go_big_quiet_want;refine⟨.bool false,fun x hx=>?_,?_⟩
    ·go_simp
    simp only[pA,sB,sC];go_big_quiet_on;go_big_quiet_want;refine⟨.bool false,fun x hx=>?_,?_⟩
    ·go_simp
    simp only[pA,sB,sC];go_big_quiet_on;go_big_quiet_want;refine⟨.pointer (some (aD wr.heap.size 0)),fun x hx=>?_,?_⟩
    ·go_simp
    simp only[pA,sB,sC];go_big_quiet_on;go_big_quiet_want;refine⟨.int .i64 nk,fun x hx=>?_,?_⟩
    ·have e0:=cB hx m0;go_simp
    simp only[pA,sB,sC];go_big_quiet_on;go_big_quiet_want;refine⟨.bool true,fun x hx=>?_,?_⟩
    ·go_simp
    simp only[pA,sB,sC];go_big_quiet_on;go_big_quiet_want;refine⟨.bool true,fun x hx=>?_,?_⟩
    ·go_simp
    simp only[pA,sB,sC];go_big_quiet_on;go_big_quiet_want;refine⟨.bool true,fun x hx=>?_,?_⟩
    ·go_simp
    simp only[pA,sB,sC];go_big_quiet_on;go_big_quiet_skip
    try simp only[pA,sB,sC]
    go_big_quiet_skip
    try simp only[pA,sB,sC]
    go_big_quiet_skip
    try simp only[pA,sB,sC]
    go_big_quiet_skip
    try simp only[pA,sB,sC]
    go_big_quiet_skip
    try simp only[pA,sB,sC]
    go_big_quiet_skip
    try simp only[pA,sB,sC]
    go_big_quiet_skip
    try simp only[pA,sB,sC]
    go_big_quiet_want;refine⟨.bool true,fun x hx=>?_,?_⟩
    ·go_simp
    simp only[pA,sB,sC];go_big_quiet_on;refine wpQuiet_nil ?_;intro w2 hb2;have HB2:Hid _:=bQ1 HBW.out hb2;clear hb2;go_wp2;go_ret;exact⟨ret_bool HV.out.symm,HB2.out⟩
   have hMO:=fun x=>HMO.out x (by omega)
   have hIO:=fun x hs=>HIO.out x hs (by omega) (by omega)
   obtain⟨K,rfl⟩:=Int.eq_ofNat_of_zero_le (show 0<=nk by omega);have hK10:K<=10:=by omega
   obtain⟨t0,t1,t2,t3,t4⟩:=ShapesAt.get HSB.out hK10;obtain⟨s0,s1,s2,s3,s4,hsc,e0,e1,e2,e3,e4⟩:∃ s0 s1 s2 s3 s4,shapeCells (K:Int)=#[s0,s1,s2,s3,s4]/\s0=.int .i64 (shapeIn K)/\s1=.bool (decide ((K:Int)=1))/\s2=.bool (decide (2<=(K:Int)/\(K:Int)<=5))/\s3=.bool (decide ((K:Int)=4∨(K:Int)=5))/\s4=.bool (decide ((K:Int)=6)):=⟨_,_,_,_,_,rfl,rfl,rfl,rfl,rfl,rfl⟩
   rw[<- e0] at t0;rw[<- e1] at t1;rw[<- e2] at t2;rw[<- e3] at t3;rw[<- e4] at t4;rw[Nat.zero_add] at t0 t1 t2 t3 t4;rw[hsc] at hMO;have hd1:decide (1<=(K:Int))=true:=decide_eq_true (by omega);have hd2:decide ((K:Int)<=10)=true:=decide_eq_true (by omega);rw[hd1,hd2] at HSE;clear e0 e1 e2 e3 e4 hsc HMO HIO hd1 hd2;have hk11:¬ (11:Int)<=(K:Int):=by omega
   cases MB with
   | false =>
    have HV:Hid (R=false):=HBk.out (by rw[HSE.out]; rfl);clear HSE HBk HJ' HAB HAA HCS HCA HCB hIO;go_wp2;refine wp_region_below (by kernel_rfl) (by kernel_rfl) ?_;go_big_quiet_want;refine⟨.pointer (some (aD wr.heap.size 0)),fun x hx=>?_,?_⟩
    ·go_simp
    simp only[pA,sB,sC];go_big_quiet_on;go_big_quiet_want;refine⟨.int .i64 (K:Int),fun x hx=>?_,?_⟩
    ·have e0:=cB hx m0;go_simp
    simp only[pA,sB,sC];go_big_quiet_on;go_big_quiet_want;refine⟨.bool false,fun x hx=>?_,?_⟩
    ·go_simp
    simp only[pA,sB,sC];go_big_quiet_on;go_big_quiet_want;refine⟨.bool false,fun x hx=>?_,?_⟩
    ·go_simp
    simp only[pA,sB,sC];go_big_quiet_on;go_big_quiet_want;refine⟨.pointer (some (aD wr.heap.size 0)),fun x hx=>?_,?_⟩
    ·go_simp
    simp only[pA,sB,sC];go_big_quiet_on;go_big_quiet_want;refine⟨.int .i64 (K:Int),fun x hx=>?_,?_⟩
    ·have e0:=cB hx m0;go_simp
    simp only[pA,sB,sC];go_big_quiet_on;go_big_quiet_want;refine⟨.bool false,fun x hx=>?_,?_⟩
    ·go_simp
    simp only[pA,sB,sC];go_big_quiet_on;go_big_quiet_want;refine⟨.bool false,fun x hx=>?_,?_⟩
    ·go_simp
    simp only[pA,sB,sC];go_big_quiet_on;go_big_quiet_want;refine⟨.bool false,fun x hx=>?_,?_⟩
    ·go_simp
    simp only[pA,sB,sC];go_big_quiet_on;go_big_quiet_want;refine⟨.agg #[.int .i64 (K:Int),.int .i64 nl,.int .i64 nr,.int .i64 ns,.slice na nx.length nc,.int .i64 ny,.slice oa ox.length oc],fun x hx=>?_,?_⟩
    ·have e0:=cB hx m0;have e1:=cB hx m1;have e2:=cB hx m2;have e3:=cB hx m3;have e4:=cB hx m4;have e5:=cB hx m5;have e6:=cB hx m6;go_simp
    simp only[pA,sB,sC];go_big_quiet_on;go_big_quiet_want;refine⟨.pointer (some (aD wr.heap.size 0)),fun x hx=>?_,?_⟩
    ·go_simp
    simp only[pA,sB,sC];go_big_quiet_on;go_big_quiet_want;refine⟨.int .i64 (K:Int),fun x hx=>?_,?_⟩
    ·have e0:=cB hx m0;go_simp
    simp only[pA,sB,sC];go_big_quiet_on;go_big_quiet_want;refine⟨.pointer (some (aD 0 (K*5))),fun x hx=>?_,?_⟩
    ·go_simp
    simp only[pA,sB,sC];go_big_quiet_on;go_big_quiet_want;refine⟨.agg #[s0,s1,s2,s3,s4],fun x hx=>?_,?_⟩
    ·have e0:=cB hx t0;have e1:=cB hx t1;have e2:=cB hx t2;have e3:=cB hx t3;have e4:=cB hx t4;go_simp
    simp only[pA,sB,sC];go_big_quiet_on;go_big_quiet_want;refine⟨.bool false,fun x hx=>?_,?_⟩
    ·have hC:=Calls.within hx (hMO x);go_simp
    simp only[pA,sB,sC];go_big_quiet_on;go_big_quiet_want;refine⟨.bool true,fun x hx=>?_,?_⟩
    ·go_simp
    simp only[pA,sB,sC];go_big_quiet_on;go_big_quiet_want;refine⟨.bool true,fun x hx=>?_,?_⟩
    ·go_simp
    simp only[pA,sB,sC];go_big_quiet_on;refine wpQuiet_nil ?_;intro w2 hb2;have HB2:Hid _:=bQ1 HBW.out hb2;clear hb2;go_wp2;go_ret;exact⟨ret_bool HV.out.symm,HB2.out⟩
   | true =>
    have HSE2:Hid (SB=AB):=by show _=_; rw[HSE.out]; rfl
    clear HSE;have HSE:Hid _:=HSE2.out;clear HSE2;go_wp2;refine wp_region_below (by kernel_rfl) (by kernel_rfl) ?_;go_big_quiet_want;refine⟨.pointer (some (aD wr.heap.size 0)),fun x hx=>?_,?_⟩
    ·go_simp
    simp only[pA,sB,sC];go_big_quiet_on;go_big_quiet_want;refine⟨.int .i64 (K:Int),fun x hx=>?_,?_⟩
    ·have e0:=cB hx m0;go_simp
    simp only[pA,sB,sC];go_big_quiet_on;go_big_quiet_want;refine⟨.bool false,fun x hx=>?_,?_⟩
    ·go_simp
    simp only[pA,sB,sC];go_big_quiet_on;go_big_quiet_want;refine⟨.bool false,fun x hx=>?_,?_⟩
    ·go_simp
    simp only[pA,sB,sC];go_big_quiet_on;go_big_quiet_want;refine⟨.pointer (some (aD wr.heap.size 0)),fun x hx=>?_,?_⟩
    ·go_simp
    simp only[pA,sB,sC];go_big_quiet_on;go_big_quiet_want;refine⟨.int .i64 (K:Int),fun x hx=>?_,?_⟩
    ·have e0:=cB hx m0;go_simp
    simp only[pA,sB,sC];go_big_quiet_on;go_big_quiet_want;refine⟨.bool false,fun x hx=>?_,?_⟩
    ·go_simp
    simp only[pA,sB,sC];go_big_quiet_on;go_big_quiet_want;refine⟨.bool false,fun x hx=>?_,?_⟩
    ·go_simp
    simp only[pA,sB,sC];go_big_quiet_on;go_big_quiet_want;refine⟨.bool false,fun x hx=>?_,?_⟩
    ·go_simp
    simp only[pA,sB,sC];go_big_quiet_on;go_big_quiet_want;refine⟨.agg #[.int .i64 (K:Int),.int .i64 nl,.int .i64 nr,.int .i64 ns,.slice na nx.length nc,.int .i64 ny,.slice oa ox.length oc],fun x hx=>?_,?_⟩
    ·have e0:=cB hx m0;have e1:=cB hx m1;have e2:=cB hx m2;have e3:=cB hx m3;have e4:=cB hx m4;have e5:=cB hx m5;have e6:=cB hx m6;go_simp
    simp only[pA,sB,sC];go_big_quiet_on;go_big_quiet_want;refine⟨.pointer (some (aD wr.heap.size 0)),fun x hx=>?_,?_⟩
    ·go_simp
    simp only[pA,sB,sC];go_big_quiet_on;go_big_quiet_want;refine⟨.int .i64 (K:Int),fun x hx=>?_,?_⟩
    ·have e0:=cB hx m0;go_simp
    simp only[pA,sB,sC];go_big_quiet_on;go_big_quiet_want;refine⟨.pointer (some (aD 0 (K*5))),fun x hx=>?_,?_⟩
    ·go_simp
    simp only[pA,sB,sC];go_big_quiet_on;go_big_quiet_want;refine⟨.agg #[s0,s1,s2,s3,s4],fun x hx=>?_,?_⟩
    ·have e0:=cB hx t0;have e1:=cB hx t1;have e2:=cB hx t2;have e3:=cB hx t3;have e4:=cB hx t4;go_simp
    simp only[pA,sB,sC];go_big_quiet_on;go_big_quiet_want;refine⟨.bool true,fun x hx=>?_,?_⟩
    ·have hC:=Calls.within hx (hMO x);go_simp
    simp only[pA,sB,sC];go_big_quiet_on;go_big_quiet_want;refine⟨.bool false,fun x hx=>?_,?_⟩
    ·go_simp
    simp only[pA,sB,sC];go_big_quiet_on;go_big_quiet_want;refine⟨.bool false,fun x hx=>?_,?_⟩
    ·go_simp
    simp only[pA,sB,sC];go_big_quiet_on;refine wpQuiet_nil ?_;intro w2 hb2;have q0:=cB hb2 m0;have q1:=cB hb2 m1;have q2:=cB hb2 m2;have q3:=cB hb2 m3;have q4:=cB hb2 m4;have q5:=cB hb2 m5;have q6:=cB hb2 m6;have hIOw:=hIO w2 (ShapesAt.below hb2 HSB.out);have HK2:Hid (Kept (fun b=>b≠w.heap.size) w1 w2):=HKW.out.trans (Kept.of_below (bQ1 HKB.out hb2) (fun b hb _=>hb));have HR2:Hid (w2.rowIs w.heap.size 3 pl.length (fun j=>.int .i64 ((CI 0 j:Nat):Int))):=HRI.out.of_block ((bQ1 HKB.out hb2).block _ HRI.out.lt);clear hb2 hMO hIO m0 m1 m2 m3 m4 m5 m6 t0 t1 t2 t3 t4 HRI HSB HKB hwb c0 c1 c2 c3 c4 c5 c6;go_wp2_with fail;refine Calls.mono hIOw ?_;clear hIOw q0 q1 q2 q3 q4 q5 q6;rintro e w3 ⟨ib,rfl,hia,hib,hb3⟩;have HK3:Hid (Kept (fun b=>b≠w.heap.size) w1 w3):=HK2.out.trans (Kept.of_below hb3 (fun b hb _=>hb));have HR3:Hid (w3.rowIs w.heap.size 3 pl.length (fun j=>.int .i64 ((CI 0 j:Nat):Int))):=HR2.out.of_block (hb3.block _ HR2.out.lt);have hibn:ib≠w.heap.size:=by have:=HR2.out.lt; omega
    have HIA:Hid _:=hia;have hil:=HIL.out;clear hia hib hb3 HK2 HR2;go_wp2;go_loopw [48] (fun iv wx=>∃ m:Nat,m<=L.length/\iv=.int .i64 m/\Hid (∀ j,j<m->0<=L.getD j 0/\L.getD j 0<(k:Int))/\Hid (wx.rowIs w.heap.size 3 pl.length (fun j=>.int .i64 ((CI m j:Nat):Int)))/\Hid (Kept (fun b=>b≠w.heap.size) w3 wx)) (fun iv _=>L.length-(intOf iv).toNat)
    case atStart=>exact⟨0,Nat.zero_le _,rfl,fun j hj=>absurd hj (by omega),HR3.out,Kept.refl _ _⟩
    case round=>
     obtain⟨m,hm,rfl,HJ2,HRX,HKX⟩:=hrel;by_cases hlm:m<L.length
     ·obtain⟨ib',io,ei,hic⟩:=IntsAt.get HIA.out hlm
      cases ei
      have hcx:=cell_keep (hic m hlm) HKX.out hibn;rw[Nat.zero_add] at hcx;have HABm:Hid _:=HAB.out m hlm;have HCSm:Hid _:=HCS.out m hlm;have HCBm:Hid _:=fun j=>HCB.out m j
      have HJ3:Hid (∀ x,x=L.getD m 0->0<=x->x<(k:Int)->∀ j,j<m+1->0<=L.getD j 0/\L.getD j 0<(k:Int)):=fun x hx h0 h1 j hj=>by
       rcases Nat.lt_or_ge j m with h' | h'
       ·exact HJ2.out j h'
       ·obtain rfl:j=m:=by omega
        rw[<- hx]; exact⟨h0,h1⟩
      have HBX:Hid (Below w.heap.size w wr):=(HPN.out wr (HK3.out.trans HKX.out)).1;clear hic HJ2 HAB HCS HCB;obtain⟨x,hxe⟩:∃ x,x=L.getD m 0:=⟨_,rfl⟩
      rw[<- hxe] at hcx HABm HCSm;have HJ4:Hid _:=HJ3.out x hxe;clear hxe HJ3;by_cases x0:x<0
      ·have HV:Hid (R=false):=HBk.out (by rw[HSE.out,HABm.out (.inl x0)]);clear HSE HBk HJ' HAA HCA HABm HCSm HCBm HJ4;go_wp2;go_ret;exact⟨ret_bool HV.out.symm,HBX.out⟩
      by_cases x1:(k:Int)<=x
      ·have HV:Hid (R=false):=HBk.out (by rw[HSE.out,HABm.out (.inr x1)]);clear HSE HBk HJ' HAA HCA HABm HCSm HCBm HJ4;go_wp2;go_ret;exact⟨ret_bool HV.out.symm,HBX.out⟩
      obtain⟨X,rfl⟩:=Int.eq_ofNat_of_zero_le (show 0<=x by omega);have hX:X<pl.length:=by omega
      have hcu:=HRX.out.cell hX;have hfu:=HRX.out.frozen X;have hub:=HCBm.out X;rw[Int.toNat_natCast] at HCSm;have HNX:Hid (∀ v:Nat,v=CI m X+1->(wr.setCell (aD w.heap.size X) (.int .i64 (v:Int))).rowIs w.heap.size 3 pl.length (fun j=>.int .i64 ((CI (m+1) j:Nat):Int))):=fun v hv=>
       (HRX.out.set X (.int .i64 (v:Int))).congr (fun j _=>by
        show (if j=X then _ else _)=_
        rw[HCSm.out j];by_cases hj:j=X
        ·rw[if_pos hj,if_pos hj,hj,hv]
        ·rw[if_neg hj,if_neg hj,Nat.add_zero])
      have HJ5:Hid _:=HJ4.out (by omega) (by omega);obtain⟨u,hu⟩:∃ u,u=CI m X:=⟨_,rfl⟩
      rw[<- hu] at hcu hub HNX;have hum:u<=200:=by omega
      have HKY:Hid (Kept (fun b=>b≠w.heap.size) w3 (wr.setCell (aD w.heap.size X) (.int .i64 ((u+1:Nat):Int)))):=HKX.out.trans (Kept.setCell _ _ _ (fun h=>h rfl));have HNX':Hid _:=HNX.out (u+1) rfl;clear hu HRX HCSm HCBm HNX HABm HJ4 hub;have hcast:((u+1:Nat):Int)=(u:Int)+1:=by omega
      rw[hcast] at HKY HNX';clear hcast;go_wp2;go_roundw
      case rel=>exact⟨m+1,by omega,by go_num,HJ5.out,HNX'.out,HKY.out⟩
      case measure=>simp[intOf]; omega
     ·obtain rfl:m=L.length:=by omega
      have hab:AB=true:=HAA.out HJ2.out;have HNJ:Hid _:=HJ'.out (by rw[HSE.out,hab]);have HRN:Hid (wr.rowIs w.heap.size 3 pl.length (fun j=>.int .i64 ((cntN pl (k+1) j:Nat):Int))):=HRX.out.congr (fun j _=>by rw[HCA.out hab j]);have HKN:Hid _:=HK3.out.trans HKX.out;clear hab HAA HJ' HSE HCA HRX HKX HJ2 HBk HAB HCS HCB;go_wp2;go_roundw
      case rel=>exact⟨k+1,by omega,by go_num,HNJ.out,HRN.out,HKN.out⟩
      case measure=>simp[intOf]; omega
  ·obtain rfl:k=pl.length:=by omega
   have HV:Hid (R=OB):=HON.out HJ.out;have HBF:Hid _:=hbw;have HRF:Hid (∀ j,j<pl.length->wr.cell? (aD w.heap.size j)=some (.int .i64 ((cntN pl pl.length j:Nat):Int))):=fun j hj=>HRW.out.cell hj
   clear HBAD HON HJ HRW HKW hbw hpw hsw HPN HR0;generalize cntN pl pl.length=CN at *;obtain⟨N,hN⟩:∃ N,pl.length-1=N:=⟨_,rfl⟩
   have hsub:(pl.length:Int)-1=(N:Int):=by omega
   have hNl:N<=pl.length:=by omega
   rw[hN] at HOB HOG;have HNN:Hid _:=hN;clear hN;go_wp2;go_loop [73] (fun iv=>∃ m:Nat,m<=N/\iv=.int .i64 m/\Hid (∀ j,j<m->CN j=1)) (fun iv=>N-(intOf iv).toNat)
   case atStart=>exact⟨0,Nat.zero_le _,rfl,fun j hj=>absurd hj (by omega)⟩
   case round=>
    obtain⟨m,hm,rfl,HJ2⟩:=hrel;by_cases hlm:m<N
    ·have hcu:=HRF.out m (by have:=HNN.out; omega);have HOBm:Hid _:=HOB.out hlm;have HJ3:Hid (CN m=1->∀ j,j<m+1->CN j=1):=fun h j hj=>by
      rcases Nat.lt_or_ge j m with h' | h'
      ·exact HJ2.out j h'
      ·obtain rfl:j=m:=by omega
       exact h
     generalize CN m=c at *;by_cases hc:c=1
     ·have HT:Hid _:=HJ3.out hc;have hcb:((c:Int) != 1)=false:=by rw[hc]; rfl
      clear HJ3 hc HOBm;go_wp2;go_round
      case rel=>exact⟨m+1,by omega,by go_num,HT.out⟩
      case measure=>simp[intOf]; omega
     ·have HV2:Hid (R=false):=by show _=_; rw[HV.out]; exact HOBm.out hc
      have hcb:((c:Int) != 1)=true:=by rw[bne_iff_ne]; omega
      clear HJ3 hc HOBm;go_wp2;go_ret;exact⟨ret_bool HV2.out.symm,HBF.out⟩
    ·have HV2:Hid (R=true):=by show _=_; rw[HV.out]; exact HOG.out (fun j hj=>HJ2.out j (by omega))
     go_wp2;go_ret;exact⟨ret_bool HV2.out.symm,HBF.out⟩
end Go.Proofs.YtlpbelhfpoilpaaGreatDoor
namespace Go.Scout
open Go.RowKit
theorem parts_none {ts:List TableD} {q:QueryV} {pl:List NodeV} {k:Nat} (h:partsP ts q pl k=none):∀ m,k<=m->partsP ts q pl m=none
 | 0,hm => by
  obtain rfl:k=0:=by omega
  exact h
 | m+1,hm => by
  by_cases e:k=m+1
  ·rw[<- e]; exact h
  ·show (partsP ts q pl m).bind _=none
   rw[parts_none h m (by omega)];rfl
def insV (n:NodeV) (ps:List PartV):List PartV:=(inputsL n).map fun x=>ps.getD x.toNat pvz
theorem insV_len (n:NodeV) (ps:List PartV):(insV n ps).length=(inputsL n).length:=by unfold insV; simp
theorem inputsL_arity (n:NodeV):(inputsL n).length=arity n.kind:=by
 unfold inputsL;rw[List.length_take];have:=arity_le n.kind;simp;omega
theorem map_getD {α β:Type} (f:α->β) (l:List α) (i:Nat) (z:α):(l.map f).getD i (f z)=f (l.getD i z):=by
 by_cases h:i<l.length
 ·simp[List.getD,h]
 ·simp[List.getD,h]
theorem ins_l (n:NodeV) (ps:List PartV):((insV n ps).getD 0 pvz).d=lPart n (ps.map PartV.d):=by
 unfold insV inputsL lPart;have h2:=arity_le n.kind;rcases (by omega:arity n.kind=0∨arity n.kind=1∨arity n.kind=2) with h | h | h <;> rw[h]
 ·rfl
 ·show (ps.getD n.l.toNat pvz).d=_
  rw[if_pos (by omega)];exact (map_getD PartV.d ps n.l.toNat pvz).symm
 ·show (ps.getD n.l.toNat pvz).d=_
  rw[if_pos (by omega)];exact (map_getD PartV.d ps n.l.toNat pvz).symm
theorem ins_r (n:NodeV) (ps:List PartV):((insV n ps).getD 1 pvz).d=rPart n (ps.map PartV.d):=by
 unfold insV inputsL rPart;have h2:=arity_le n.kind;rcases (by omega:arity n.kind=0∨arity n.kind=1∨arity n.kind=2) with h | h | h <;> rw[h]
 ·rfl
 ·rfl
 ·show (ps.getD n.r.toNat pvz).d=_
  rw[if_pos rfl];exact (map_getD PartV.d ps n.r.toNat pvz).symm
theorem kinds_same (n:NodeV) (ps:List PartV):kindsL n.kind (insV n ps)=kindsP n.kind (lPart n (ps.map PartV.d)) (rPart n (ps.map PartV.d)):=by
 rw[<- ins_l,<- ins_r];have h2:=arity_le n.kind;have hz:∀ {k:Int},arity k=2->decide (k=10)=false:=fun {k} h=>by
  unfold arity at h;rw[decide_eq_false_iff_not];intro e;rw[e] at h;simp at h
 have hz0:∀ {k:Int},arity k=0->decide (k=10)=false:=fun {k} h=>by
  unfold arity at h;rw[decide_eq_false_iff_not];intro e;rw[e] at h;simp at h
 unfold insV inputsL kindsP kindsL;rcases (by omega:arity n.kind=0∨arity n.kind=1∨arity n.kind=2) with h | h | h
 ·rw[h,hz0 h]; rfl
 ·rw[h]
  show (([ps.getD n.l.toNat pvz]:List PartV).all _)=_
  simp only[List.all_cons,List.all_nil,Bool.and_true]
  show _=((outK (ps.getD n.l.toNat pvz).kind==decide (n.kind=10))&&true)
  rw[Bool.and_true]
 ·rw[h]
  show (([ps.getD n.l.toNat pvz,ps.getD n.r.toNat pvz]:List PartV).all _)=_
  simp only[List.all_cons,List.all_nil,Bool.and_true]
  show _=((outK (ps.getD n.l.toNat pvz).kind==decide (n.kind=10)) && !outK (ps.getD n.r.toNat pvz).kind)
  rw[hz h]
  cases outK (ps.getD n.r.toNat pvz).kind <;> rfl
theorem step_eq (ts:List TableD) (q:QueryV) (n:NodeV) (ps:List PartV):stepP ts q n (ps.map PartV.d)=if (kindsL n.kind (insV n ps)&&fitsP ts q n ((insV n ps).getD 0 pvz).d ((insV n ps).getD 1 pvz).d)=true then some (ps.map PartV.d++[partP ts q n ((insV n ps).getD 0 pvz).d ((insV n ps).getD 1 pvz).d]) else none:=by
 unfold stepP;rw[kinds_same,ins_l,ins_r]
theorem plan_all {pl:List NodeV} (h:isPlanP pl=true):1<=pl.length/\pl.length<=64/\∀ i,i<pl.length->standsP (pl.getD i nz) i=true:=by
 unfold isPlanP at h;simp only[Bool.and_eq_true,decide_eq_true_eq,List.all_eq_true] at h;exact⟨h.1.1.1,h.1.1.2,fun i hi=>h.1.2 i (List.mem_range.2 hi)⟩
theorem stands_ins {n:NodeV} {i:Nat} (h:standsP n i=true):1<=n.kind/\n.kind<=10/\∀ m,m<(inputsL n).length->0<=(inputsL n).getD m 0/\(inputsL n).getD m 0<(i:Int):=by
 unfold standsP at h;simp only[Bool.and_eq_true,Bool.or_eq_true,decide_eq_true_eq] at h;obtain⟨⟨⟨⟨h1,h10⟩,_⟩,hl⟩,hr⟩:=h;refine⟨h1,h10,fun m hm=>?_⟩;rw[inputsL_arity] at hm;have h2:=arity_le n.kind;have e0:0<arity n.kind->(inputsL n).getD 0 0=n.l:=fun h=>by
  unfold inputsL;rcases (by omega:arity n.kind=1∨arity n.kind=2) with e | e <;> rw[e] <;> rfl
 have e1:1<arity n.kind->(inputsL n).getD 1 0=n.r:=fun h=>by
  unfold inputsL;rw[show arity n.kind=2 by omega];rfl
 rcases (by omega:m=0∨m=1) with rfl | rfl
 ·rw[e0 hm];rcases hl with hl | hl
  ·omega
  ·exact hl
 ·rw[e1 hm];rcases hr with hr | hr
  ·omega
  ·exact hr
theorem stands_out {n:NodeV} {i:Nat} (h:standsP n i=true) (ho:outK n.kind=true):0<=n.l/\n.l<(i:Int):=by
 obtain⟨h1,h10,hm⟩:=stands_ins h;have hk:7<=n.kind:=by unfold outK at ho; simp at ho; omega
 have ha:arity n.kind=1:=by unfold arity; rw[if_neg (by omega),if_neg (by omega)]
 have:=hm 0 (by rw[inputsL_arity,ha]; omega);have e0:(inputsL n).getD 0 0=n.l:=by unfold inputsL; rw[ha]; rfl
 rw[e0] at this;exact this
theorem ins_take {n:NodeV} {ps:List PartV} {m:Nat} (hm:m<(inputsL n).length):(insV n ps).take (m+1)=(insV n ps).take m++[ps.getD ((inputsL n).getD m 0).toNat pvz]:=by
 have hm':m<(insV n ps).length:=by rw[insV_len]; exact hm
 rw[List.take_succ_eq_append_getElem hm'];congr 2;unfold insV;simp[List.getD,hm]
end Go.Scout
namespace Go.Proofs.YtlpbelhfpoilpaaGreatDoor
open Go.RowKit Go.Scout
theorem fits_k1 (f:FactsV) (ts:List TableD) (q:QueryV) (n:NodeV) (ao:Option Addr) (cap:Nat) (ps:List PartV) (w:World) (ok:Ok ts q) (hf:f.At ts q w) (hcl:n.cl.At w) (hco:n.co.At w) (hcap:n.co.xs.length<=n.co.cap) (hp:PartsAt w ao ps) (hk:n.kind=1) (hl:ps.length=arity n.kind) :
  Calls Tryz.prog 151 #[.agg (f.cells ts q),.agg n.cells,.slice ao ps.length cap] w fun e w'=>e=.returned (.bool (fitsP ts q n (ps.getD 0 pvz).d (ps.getD 1 pvz).d))/\Below w.heap.size w w':=by
 obtain⟨v0,v1,v2,v3,v4,v5,v6,v7,v8,v9,v10,v11,v12,hFC,hv0,hv1,hv2,hv3,hv4,hv5,hv6,-⟩:=factsCells f ts q;have hNC:n.cells=#[.int .i64 n.kind,.int .i64 n.l,.int .i64 n.r,.int .i64 n.source,n.cl.val,.int .i64 n.key,n.co.val]:=rfl;obtain⟨w1,hw1⟩:∃ x,w.alloc (.cells (f.cells ts q) 105)=x:=⟨_,rfl⟩
 have hk1:Below w.heap.size w w1:=by rw[<- hw1]; exact bQ2 _ _
 have hg1:GB w1 w.heap.size 105 (f.cells ts q):=by rw[<- hw1]; exact bQ3 _ _
 obtain⟨w2,hw2⟩:∃ x,w1.alloc (.cells n.cells 58)=x:=⟨_,rfl⟩
 have hk2:Below w1.heap.size w1 w2:=by rw[<- hw2]; exact bQ2 _ _
 have hg2:GB w2 w1.heap.size 58 n.cells:=by rw[<- hw2]; exact bQ3 _ _
 have hc1:=hk2;have hc0:Below w.heap.size w w2:=bQ1 hk1 hc1;have gg1:GB w2 w.heap.size 105 (f.cells ts q):=hg1.of (hc1.block _ hg1.lt);have gg2:=hg2;have g2_0:w2.cell? (aD w1.heap.size 0)=some (.int .i64 n.kind):=gg2.cell 0;have g2_1:w2.cell? (aD w1.heap.size 1)=some (.int .i64 n.l):=gg2.cell 1;have g2_2:w2.cell? (aD w1.heap.size 2)=some (.int .i64 n.r):=gg2.cell 2;have g2_3:w2.cell? (aD w1.heap.size 3)=some (.int .i64 n.source):=gg2.cell 3;have g2_4:w2.cell? (aD w1.heap.size 4)=some (n.cl.val):=gg2.cell 4;have g2_5:w2.cell? (aD w1.heap.size 5)=some (.int .i64 n.key):=gg2.cell 5;have g2_6:w2.cell? (aD w1.heap.size 6)=some (n.co.val):=gg2.cell 6;have g1_0:w2.cell? (aD w.heap.size 0)=some v0:=by rw[hFC] at gg1; exact gg1.cell 0
 have g1_1:w2.cell? (aD w.heap.size 1)=some v1:=by rw[hFC] at gg1; exact gg1.cell 1
 have g1_2:w2.cell? (aD w.heap.size 2)=some v2:=by rw[hFC] at gg1; exact gg1.cell 2
 have g1_3:w2.cell? (aD w.heap.size 3)=some v3:=by rw[hFC] at gg1; exact gg1.cell 3
 have g1_4:w2.cell? (aD w.heap.size 4)=some v4:=by rw[hFC] at gg1; exact gg1.cell 4
 have g1_5:w2.cell? (aD w.heap.size 5)=some v5:=by rw[hFC] at gg1; exact gg1.cell 5
 have g1_6:w2.cell? (aD w.heap.size 6)=some v6:=by rw[hFC] at gg1; exact gg1.cell 6
 have g1_7:w2.cell? (aD w.heap.size 7)=some v7:=by rw[hFC] at gg1; exact gg1.cell 7
 have g1_8:w2.cell? (aD w.heap.size 8)=some v8:=by rw[hFC] at gg1; exact gg1.cell 8
 have g1_9:w2.cell? (aD w.heap.size 9)=some v9:=by rw[hFC] at gg1; exact gg1.cell 9
 have g1_10:w2.cell? (aD w.heap.size 10)=some v10:=by rw[hFC] at gg1; exact gg1.cell 10
 have g1_11:w2.cell? (aD w.heap.size 11)=some v11:=by rw[hFC] at gg1; exact gg1.cell 11
 have g1_12:w2.cell? (aD w.heap.size 12)=some v12:=by rw[hFC] at gg1; exact gg1.cell 12
 have hpw:=hp.1;have hlk:ps.length=0:=by rw[hl,hk]; rfl
 have HC:Hid _:=hc0;obtain⟨RES,hRES⟩:∃ R,R=fitsP ts q n (ps.getD 0 pvz).d (ps.getD 1 pvz).d:=⟨_,rfl⟩
 rw[<- hRES];unfold fitsP at hRES;rw[if_pos hk] at hRES;generalize ps.getD 0 pvz=L at *;generalize ps.getD 1 pvz=R at *;rw[hv0] at g1_0;have HRE:Hid _:=hRES;rw[hFC,hNC];rw[hFC] at hw1;rw[hNC] at hw2;clear hRES hg1 hg2 gg1 gg2 hk1 hk2 hc0 hc1 hlk hl;clear hf hcl hco hcap hp ok hFC hNC hv0 hv1 hv2 hv3 hv4 hv5 hv6;obtain⟨nk,nl,nr,ns,⟨ca,cc,cl⟩,key,⟨da,dc,co⟩⟩:=n;simp only at hk;subst hk;simp only[PartV.cells,NodeV.cells,IntsV.val] at *;generalize q.src.xs.length=N at *;by_cases s0:0<=ns
 ·by_cases s1:ns<(N:Int)
  ·have HV:Hid (RES=true):=by show _=_; rw[HRE.out,decide_eq_true s0,decide_eq_true s1]; rfl
   clear HRE;go_enter Tryz.func151,Tryz.ntmps151;go_wp2;go_ret;exact⟨ret_bool HV.out.symm,HC.out⟩
  ·have HV:Hid (RES=false):=by show _=_; rw[HRE.out,decide_eq_true s0,decide_eq_false s1]; rfl
   clear HRE;go_enter Tryz.func151,Tryz.ntmps151;go_wp2;go_ret;exact⟨ret_bool HV.out.symm,HC.out⟩
 ·have HV:Hid (RES=false):=by show _=_; rw[HRE.out,decide_eq_false s0]; rfl
  clear HRE;go_enter Tryz.func151,Tryz.ntmps151;go_wp2;go_ret;exact⟨ret_bool HV.out.symm,HC.out⟩
theorem fits_k2 (f:FactsV) (ts:List TableD) (q:QueryV) (n:NodeV) (ao:Option Addr) (cap:Nat) (ps:List PartV) (w:World) (ok:Ok ts q) (hf:f.At ts q w) (hcl:n.cl.At w) (hco:n.co.At w) (hcap:n.co.xs.length<=n.co.cap) (hp:PartsAt w ao ps) (hk:n.kind=2) (hl:ps.length=arity n.kind) :
  Calls Tryz.prog 151 #[.agg (f.cells ts q),.agg n.cells,.slice ao ps.length cap] w fun e w'=>e=.returned (.bool (fitsP ts q n (ps.getD 0 pvz).d (ps.getD 1 pvz).d))/\Below w.heap.size w w':=by
 obtain⟨v0,v1,v2,v3,v4,v5,v6,v7,v8,v9,v10,v11,v12,hFC,hv0,hv1,hv2,hv3,hv4,hv5,hv6,-⟩:=factsCells f ts q;have hNC:n.cells=#[.int .i64 n.kind,.int .i64 n.l,.int .i64 n.r,.int .i64 n.source,n.cl.val,.int .i64 n.key,n.co.val]:=rfl;obtain⟨w1,hw1⟩:∃ x,w.alloc (.cells (f.cells ts q) 105)=x:=⟨_,rfl⟩
 have hk1:Below w.heap.size w w1:=by rw[<- hw1]; exact bQ2 _ _
 have hg1:GB w1 w.heap.size 105 (f.cells ts q):=by rw[<- hw1]; exact bQ3 _ _
 obtain⟨w2,hw2⟩:∃ x,w1.alloc (.cells n.cells 58)=x:=⟨_,rfl⟩
 have hk2:Below w1.heap.size w1 w2:=by rw[<- hw2]; exact bQ2 _ _
 have hg2:GB w2 w1.heap.size 58 n.cells:=by rw[<- hw2]; exact bQ3 _ _
 have hc1:=hk2;have hc0:Below w.heap.size w w2:=bQ1 hk1 hc1;have gg1:GB w2 w.heap.size 105 (f.cells ts q):=hg1.of (hc1.block _ hg1.lt);have gg2:=hg2;have g2_0:w2.cell? (aD w1.heap.size 0)=some (.int .i64 n.kind):=gg2.cell 0;have g2_1:w2.cell? (aD w1.heap.size 1)=some (.int .i64 n.l):=gg2.cell 1;have g2_2:w2.cell? (aD w1.heap.size 2)=some (.int .i64 n.r):=gg2.cell 2;have g2_3:w2.cell? (aD w1.heap.size 3)=some (.int .i64 n.source):=gg2.cell 3;have g2_4:w2.cell? (aD w1.heap.size 4)=some (n.cl.val):=gg2.cell 4;have g2_5:w2.cell? (aD w1.heap.size 5)=some (.int .i64 n.key):=gg2.cell 5;have g2_6:w2.cell? (aD w1.heap.size 6)=some (n.co.val):=gg2.cell 6;have g1_0:w2.cell? (aD w.heap.size 0)=some v0:=by rw[hFC] at gg1; exact gg1.cell 0
 have g1_1:w2.cell? (aD w.heap.size 1)=some v1:=by rw[hFC] at gg1; exact gg1.cell 1
 have g1_2:w2.cell? (aD w.heap.size 2)=some v2:=by rw[hFC] at gg1; exact gg1.cell 2
 have g1_3:w2.cell? (aD w.heap.size 3)=some v3:=by rw[hFC] at gg1; exact gg1.cell 3
 have g1_4:w2.cell? (aD w.heap.size 4)=some v4:=by rw[hFC] at gg1; exact gg1.cell 4
 have g1_5:w2.cell? (aD w.heap.size 5)=some v5:=by rw[hFC] at gg1; exact gg1.cell 5
 have g1_6:w2.cell? (aD w.heap.size 6)=some v6:=by rw[hFC] at gg1; exact gg1.cell 6
 have g1_7:w2.cell? (aD w.heap.size 7)=some v7:=by rw[hFC] at gg1; exact gg1.cell 7
 have g1_8:w2.cell? (aD w.heap.size 8)=some v8:=by rw[hFC] at gg1; exact gg1.cell 8
 have g1_9:w2.cell? (aD w.heap.size 9)=some v9:=by rw[hFC] at gg1; exact gg1.cell 9
 have g1_10:w2.cell? (aD w.heap.size 10)=some v10:=by rw[hFC] at gg1; exact gg1.cell 10
 have g1_11:w2.cell? (aD w.heap.size 11)=some v11:=by rw[hFC] at gg1; exact gg1.cell 11
 have g1_12:w2.cell? (aD w.heap.size 12)=some v12:=by rw[hFC] at gg1; exact gg1.cell 12
 have hpw:=hp.1;have hlk:ps.length=1:=by rw[hl,hk]; rfl
 have HC:Hid _:=hc0;obtain⟨RES,hRES⟩:∃ R,R=fitsP ts q n (ps.getD 0 pvz).d (ps.getD 1 pvz).d:=⟨_,rfl⟩
 rw[<- hRES];unfold fitsP at hRES;rw[if_neg (by rw[hk]; decide),if_pos hk] at hRES;have hl0:0<ps.length:=by omega
 obtain⟨⟨pb,po,rfl,c0,c1,c2,c3,c4,c5⟩,hLo⟩:=(PartsAt.below hc0 hp).2 0 hl0;rw[Nat.zero_mul,Nat.add_zero] at c0 c1 c2 c3 c4 c5;generalize ps.getD 0 pvz=L at *;generalize ps.getD 1 pvz=R at *;have HCF:Hid (∀ x,Below w2.heap.size w2 x->Calls Tryz.prog 221 #[.agg (f.cells ts q),n.cl.val,.int .u64 (L.sources:Int)] x fun e w'=>e=.returned (.bool (risesB ts q n.cl.xs L.sources))/\Below x.heap.size x w'):=fun x hx=>clausesFit_any f ts q n.cl.ad n.cl.cap n.cl.xs L.sources x ok (hf.below (bQ1 hc0 hx)) (IntsAt.below (bQ1 hc0 hx) hcl) (by have:=hLo.sources; unfold topN at this; omega)
 have hcll:=hcl.1;rw[hFC] at HCF;have hRES:RES=(decide (0<n.cl.xs.length)&&risesB ts q n.cl.xs L.sources):=hRES;generalize risesB ts q n.cl.xs L.sources=RB at *;have HRE:Hid _:=hRES;rw[hFC,hNC];rw[hFC] at hw1;rw[hNC] at hw2;clear hRES hg1 hg2 gg1 gg2 hk1 hk2 hc0 hc1 hlk hl;clear hf hcl hco hcap hp ok hFC hNC hv0 hv1 hv2 hv3 hv4 hv5 hv6;obtain⟨nk,nl,nr,ns,⟨ca,cc,cl⟩,key,⟨da,dc,co⟩⟩:=n;simp only at hk;subst hk;obtain⟨lk,ls,lcl,⟨la,lcp,lx⟩,lz,lco⟩:=L;simp only[PartV.cells,NodeV.cells,IntsV.val] at *;by_cases z:0<cl.length
 ·have HV:Hid (RES=RB):=by show _=_; rw[HRE.out,decide_eq_true z]; rfl
  clear HRE;go_enter Tryz.func151,Tryz.ntmps151;go_upto_region 5 with fail;clear hw1 hw2;refine wp_region_below (by kernel_rfl) (by kernel_rfl) ?_;go_big_quiet_want;refine⟨.pointer (some (aD w1.heap.size 4)),fun x hx=>?_,?_⟩
  ·go_simp
  simp only[pA,sB,sC];go_big_quiet_on;go_big_quiet_want;refine⟨.slice ca cl.length cc,fun x hx=>?_,?_⟩
  ·have e4:=cB hx g2_4;go_simp
  simp only[pA,sB,sC];go_big_quiet_on;go_big_quiet_want;refine⟨.int .i64 (cl.length:Int),fun x hx=>?_,?_⟩
  ·go_simp
  simp only[pA,sB,sC];go_big_quiet_on;go_big_quiet_want;refine⟨.bool true,fun x hx=>?_,?_⟩
  ·go_simp
  simp only[pA,sB,sC];go_big_quiet_on;go_big_quiet_want;refine⟨.bool true,fun x hx=>?_,?_⟩
  ·go_simp
  simp only[pA,sB,sC];go_big_quiet_on;go_big_quiet_want;refine⟨.agg #[v0,v1,v2,v3,v4,v5,v6,v7,v8,v9,v10,v11,v12],fun x hx=>?_,?_⟩
  ·have e0:=cB hx g1_0;have e1:=cB hx g1_1;have e2:=cB hx g1_2;have e3:=cB hx g1_3;have e4:=cB hx g1_4;have e5:=cB hx g1_5;have e6:=cB hx g1_6;have e7:=cB hx g1_7;have e8:=cB hx g1_8;have e9:=cB hx g1_9;have e10:=cB hx g1_10;have e11:=cB hx g1_11;have e12:=cB hx g1_12;go_simp
  simp only[pA,sB,sC];go_big_quiet_on;go_big_quiet_want;refine⟨.pointer (some (aD w1.heap.size 4)),fun x hx=>?_,?_⟩
  ·go_simp
  simp only[pA,sB,sC];go_big_quiet_on;go_big_quiet_want;refine⟨.slice ca cl.length cc,fun x hx=>?_,?_⟩
  ·have e4:=cB hx g2_4;go_simp
  simp only[pA,sB,sC];go_big_quiet_on;go_big_quiet_want;refine⟨.slice (some (aD pb po)) ps.length cap,fun x hx=>?_,?_⟩
  ·go_simp
  simp only[pA,sB,sC];go_big_quiet_on;go_big_quiet_want;refine⟨.pointer (some (aD pb po)),fun x hx=>?_,?_⟩
  ·go_simp
  simp only[pA,sB,sC];go_big_quiet_on;go_big_quiet_want;refine⟨.pointer (some (aD pb (po+1))),fun x hx=>?_,?_⟩
  ·go_simp
  simp only[pA,sB,sC];go_big_quiet_on;go_big_quiet_want;refine⟨.int .u64 (ls:Int),fun x hx=>?_,?_⟩
  ·have e1:=cB hx c1;go_simp
  simp only[pA,sB,sC];go_big_quiet_on;go_big_quiet_want;refine⟨.bool RB,fun x hx=>?_,?_⟩
  ·have hC:=Calls.within hx (HCF.out x hx);go_simp
  simp only[pA,sB,sC];go_big_quiet_on;go_big_quiet_want;refine⟨.bool RB,fun x hx=>?_,?_⟩
  ·go_simp
  simp only[pA,sB,sC];go_big_quiet_on;go_big_quiet_want;refine⟨.bool RB,fun x hx=>?_,?_⟩
  ·go_simp
  simp only[pA,sB,sC];go_big_quiet_on;refine wpQuiet_nil ?_;intro wE hbE;have HBE:Hid _:=bQ1 HC.out hbE;clear hbE;go_wp2;go_ret;exact⟨ret_bool HV.out.symm,HBE.out⟩
 ·have HV:Hid (RES=false):=by show _=_; rw[HRE.out,decide_eq_false z]; rfl
  obtain rfl:cl=[]:=List.eq_nil_of_length_eq_zero (by omega);simp only[List.length_nil] at *;clear HRE;go_enter Tryz.func151,Tryz.ntmps151;go_upto_region 5 with fail;clear hw1 hw2;refine wp_region_below (by kernel_rfl) (by kernel_rfl) ?_;go_big_quiet_want;refine⟨.pointer (some (aD w1.heap.size 4)),fun x hx=>?_,?_⟩
  ·go_simp
  simp only[pA,sB,sC];go_big_quiet_on;go_big_quiet_want;refine⟨.slice ca 0 cc,fun x hx=>?_,?_⟩
  ·have e4:=cB hx g2_4;go_simp
  simp only[pA,sB,sC];go_big_quiet_on;go_big_quiet_want;refine⟨.int .i64 0,fun x hx=>?_,?_⟩
  ·go_simp
  simp only[pA,sB,sC];go_big_quiet_on;go_big_quiet_want;refine⟨.bool false,fun x hx=>?_,?_⟩
  ·go_simp
  simp only[pA,sB,sC];go_big_quiet_on;go_big_quiet_want;refine⟨.bool false,fun x hx=>?_,?_⟩
  ·go_simp
  simp only[pA,sB,sC];go_big_quiet_on;go_big_quiet_skip
  try simp only[pA,sB,sC]
  go_big_quiet_skip
  try simp only[pA,sB,sC]
  go_big_quiet_skip
  try simp only[pA,sB,sC]
  go_big_quiet_skip
  try simp only[pA,sB,sC]
  go_big_quiet_skip
  try simp only[pA,sB,sC]
  go_big_quiet_skip
  try simp only[pA,sB,sC]
  go_big_quiet_skip
  try simp only[pA,sB,sC]
  go_big_quiet_skip
  try simp only[pA,sB,sC]
  go_big_quiet_want;refine⟨.bool false,fun x hx=>?_,?_⟩
  ·go_simp
  simp only[pA,sB,sC];go_big_quiet_on;go_big_quiet_want;refine⟨.bool false,fun x hx=>?_,?_⟩
  ·go_simp
  simp only[pA,sB,sC];go_big_quiet_on;refine wpQuiet_nil ?_;intro wE hbE;have HBE:Hid _:=bQ1 HC.out hbE;clear hbE;go_wp2;go_ret;exact⟨ret_bool HV.out.symm,HBE.out⟩
theorem fits_k3 (f:FactsV) (ts:List TableD) (q:QueryV) (n:NodeV) (ao:Option Addr) (cap:Nat) (ps:List PartV) (w:World) (ok:Ok ts q) (hf:f.At ts q w) (hcl:n.cl.At w) (hco:n.co.At w) (hcap:n.co.xs.length<=n.co.cap) (hp:PartsAt w ao ps) (hk:n.kind=3) (hl:ps.length=arity n.kind) :
  Calls Tryz.prog 151 #[.agg (f.cells ts q),.agg n.cells,.slice ao ps.length cap] w fun e w'=>e=.returned (.bool (fitsP ts q n (ps.getD 0 pvz).d (ps.getD 1 pvz).d))/\Below w.heap.size w w':=by
 obtain⟨v0,v1,v2,v3,v4,v5,v6,v7,v8,v9,v10,v11,v12,hFC,hv0,hv1,hv2,hv3,hv4,hv5,hv6,-⟩:=factsCells f ts q;have hNC:n.cells=#[.int .i64 n.kind,.int .i64 n.l,.int .i64 n.r,.int .i64 n.source,n.cl.val,.int .i64 n.key,n.co.val]:=rfl;obtain⟨w1,hw1⟩:∃ x,w.alloc (.cells (f.cells ts q) 105)=x:=⟨_,rfl⟩
 have hk1:Below w.heap.size w w1:=by rw[<- hw1]; exact bQ2 _ _
 have hg1:GB w1 w.heap.size 105 (f.cells ts q):=by rw[<- hw1]; exact bQ3 _ _
 obtain⟨w2,hw2⟩:∃ x,w1.alloc (.cells n.cells 58)=x:=⟨_,rfl⟩
 have hk2:Below w1.heap.size w1 w2:=by rw[<- hw2]; exact bQ2 _ _
 have hg2:GB w2 w1.heap.size 58 n.cells:=by rw[<- hw2]; exact bQ3 _ _
 have hc1:=hk2;have hc0:Below w.heap.size w w2:=bQ1 hk1 hc1;have gg1:GB w2 w.heap.size 105 (f.cells ts q):=hg1.of (hc1.block _ hg1.lt);have gg2:=hg2;have g2_0:w2.cell? (aD w1.heap.size 0)=some (.int .i64 n.kind):=gg2.cell 0;have g2_1:w2.cell? (aD w1.heap.size 1)=some (.int .i64 n.l):=gg2.cell 1;have g2_2:w2.cell? (aD w1.heap.size 2)=some (.int .i64 n.r):=gg2.cell 2;have g2_3:w2.cell? (aD w1.heap.size 3)=some (.int .i64 n.source):=gg2.cell 3;have g2_4:w2.cell? (aD w1.heap.size 4)=some (n.cl.val):=gg2.cell 4;have g2_5:w2.cell? (aD w1.heap.size 5)=some (.int .i64 n.key):=gg2.cell 5;have g2_6:w2.cell? (aD w1.heap.size 6)=some (n.co.val):=gg2.cell 6;have g1_0:w2.cell? (aD w.heap.size 0)=some v0:=by rw[hFC] at gg1; exact gg1.cell 0
 have g1_1:w2.cell? (aD w.heap.size 1)=some v1:=by rw[hFC] at gg1; exact gg1.cell 1
 have g1_2:w2.cell? (aD w.heap.size 2)=some v2:=by rw[hFC] at gg1; exact gg1.cell 2
 have g1_3:w2.cell? (aD w.heap.size 3)=some v3:=by rw[hFC] at gg1; exact gg1.cell 3
 have g1_4:w2.cell? (aD w.heap.size 4)=some v4:=by rw[hFC] at gg1; exact gg1.cell 4
 have g1_5:w2.cell? (aD w.heap.size 5)=some v5:=by rw[hFC] at gg1; exact gg1.cell 5
 have g1_6:w2.cell? (aD w.heap.size 6)=some v6:=by rw[hFC] at gg1; exact gg1.cell 6
 have g1_7:w2.cell? (aD w.heap.size 7)=some v7:=by rw[hFC] at gg1; exact gg1.cell 7
 have g1_8:w2.cell? (aD w.heap.size 8)=some v8:=by rw[hFC] at gg1; exact gg1.cell 8
 have g1_9:w2.cell? (aD w.heap.size 9)=some v9:=by rw[hFC] at gg1; exact gg1.cell 9
 have g1_10:w2.cell? (aD w.heap.size 10)=some v10:=by rw[hFC] at gg1; exact gg1.cell 10
 have g1_11:w2.cell? (aD w.heap.size 11)=some v11:=by rw[hFC] at gg1; exact gg1.cell 11
 have g1_12:w2.cell? (aD w.heap.size 12)=some v12:=by rw[hFC] at gg1; exact gg1.cell 12
 have hpw:=hp.1;have hlk:ps.length=2:=by rw[hl,hk]; rfl
 have HC:Hid _:=hc0;obtain⟨RES,hRES⟩:∃ R,R=fitsP ts q n (ps.getD 0 pvz).d (ps.getD 1 pvz).d:=⟨_,rfl⟩
 rw[<- hRES];unfold fitsP at hRES;rw[if_neg (by rw[hk]; decide),if_neg (by rw[hk]; decide),if_pos hk] at hRES;have hl0:0<ps.length:=by omega
 obtain⟨⟨pb,po,rfl,c0,c1,c2,c3,c4,c5⟩,hLo⟩:=(PartsAt.below hc0 hp).2 0 hl0;rw[Nat.zero_mul,Nat.add_zero] at c0 c1 c2 c3 c4 c5;have hl1:1<ps.length:=by omega
 have hl1i:(1:Int)<(ps.length:Int):=by omega
 obtain⟨⟨pb',po',e',d0,d1,d2,d3,d4,d5⟩,hRo⟩:=(PartsAt.below hc0 hp).2 1 hl1
 cases e'
 rw[Nat.one_mul] at d0 d1 d2 d3 d4 d5;generalize ps.getD 0 pvz=L at *;generalize ps.getD 1 pvz=R at *;have HJF:Hid (∀ x,Below w2.heap.size w2 x->Calls Tryz.prog 222 #[.agg (f.cells ts q),.agg n.cells,.agg L.cells,.agg R.cells] x fun e w'=>e=.returned (.bool (joinP ts q n L.sources R.sources))/\Below x.heap.size x w'):=fun x hx=>joinFits_any f ts q n L R x ok (hf.below (bQ1 hc0 hx)) (IntsAt.below (bQ1 hc0 hx) hcl) hLo.sources hRo.sources
 rw[hFC] at HJF;have hRES:RES=joinP ts q n L.sources R.sources:=hRES;generalize joinP ts q n L.sources R.sources=RB at *;have HRE:Hid _:=hRES;rw[hFC,hNC];rw[hFC] at hw1;rw[hNC] at hw2;clear hRES hg1 hg2 gg1 gg2 hk1 hk2 hc0 hc1 hlk hl;clear hf hcl hco hcap hp ok hFC hNC hv0 hv1 hv2 hv3 hv4 hv5 hv6;obtain⟨nk,nl,nr,ns,⟨ca,cc,cl⟩,key,⟨da,dc,co⟩⟩:=n;simp only at hk;subst hk;obtain⟨lk,ls,lcl,⟨la,lcp,lx⟩,lz,lco⟩:=L;obtain⟨rk,rs,rcl,⟨ra,rcp,rx⟩,rz,rco⟩:=R;simp only[PartV.cells,NodeV.cells,IntsV.val] at *;have HV:Hid (RES=RB):=HRE.out;clear HRE;go_enter Tryz.func151,Tryz.ntmps151;go_upto_region 7 with fail;clear hw1 hw2;refine wp_region_below (by kernel_rfl) (by kernel_rfl) ?_;go_big_quiet_want;refine⟨.agg #[v0,v1,v2,v3,v4,v5,v6,v7,v8,v9,v10,v11,v12],fun x hx=>?_,?_⟩
 ·have e0:=cB hx g1_0;have e1:=cB hx g1_1;have e2:=cB hx g1_2;have e3:=cB hx g1_3;have e4:=cB hx g1_4;have e5:=cB hx g1_5;have e6:=cB hx g1_6;have e7:=cB hx g1_7;have e8:=cB hx g1_8;have e9:=cB hx g1_9;have e10:=cB hx g1_10;have e11:=cB hx g1_11;have e12:=cB hx g1_12;go_simp
 simp only[pA,sB,sC];go_big_quiet_on;go_big_quiet_want;refine⟨.agg #[.int .i64 3,.int .i64 nl,.int .i64 nr,.int .i64 ns,.slice ca cl.length cc,.int .i64 key,.slice da co.length dc],fun x hx=>?_,?_⟩
 ·have e0:=cB hx g2_0;have e1:=cB hx g2_1;have e2:=cB hx g2_2;have e3:=cB hx g2_3;have e4:=cB hx g2_4;have e5:=cB hx g2_5;have e6:=cB hx g2_6;go_simp
 simp only[pA,sB,sC];go_big_quiet_on;go_big_quiet_want;refine⟨.slice (some (aD pb po)) ps.length cap,fun x hx=>?_,?_⟩
 ·go_simp
 simp only[pA,sB,sC];go_big_quiet_on;go_big_quiet_want;refine⟨.pointer (some (aD pb po)),fun x hx=>?_,?_⟩
 ·go_simp
 simp only[pA,sB,sC];go_big_quiet_on;go_big_quiet_want;refine⟨.agg #[.int .i64 lk,.int .u64 (ls:Int),.int .u64 (lcl:Int),.slice la lx.length lcp,.int .u64 (lz:Int),.int .u64 (lco:Int)],fun x hx=>?_,?_⟩
 ·have e0:=cB hx c0;have e1:=cB hx c1;have e2:=cB hx c2;have e3:=cB hx c3;have e4:=cB hx c4;have e5:=cB hx c5;go_simp
 simp only[pA,sB,sC];go_big_quiet_on;go_big_quiet_want;refine⟨.slice (some (aD pb po)) ps.length cap,fun x hx=>?_,?_⟩
 ·go_simp
 simp only[pA,sB,sC];go_big_quiet_on;go_big_quiet_want;refine⟨.pointer (some (aD pb (po+6))),fun x hx=>?_,?_⟩
 ·go_simp
 simp only[pA,sB,sC];go_big_quiet_on;go_big_quiet_want;refine⟨.agg #[.int .i64 rk,.int .u64 (rs:Int),.int .u64 (rcl:Int),.slice ra rx.length rcp,.int .u64 (rz:Int),.int .u64 (rco:Int)],fun x hx=>?_,?_⟩
 ·have e0:=cB hx d0;have e1:=cB hx d1;have e2:=cB hx d2;have e3:=cB hx d3;have e4:=cB hx d4;have e5:=cB hx d5;go_simp
 simp only[pA,sB,sC];go_big_quiet_on;go_big_quiet_want;refine⟨.bool RB,fun x hx=>?_,?_⟩
 ·have hC:=Calls.within hx (HJF.out x hx);go_simp
 simp only[pA,sB,sC];go_big_quiet_on;go_big_quiet_want;refine⟨.bool RB,fun x hx=>?_,?_⟩
 ·go_simp
 simp only[pA,sB,sC];go_big_quiet_on;refine wpQuiet_nil ?_;intro wE hbE;have HBE:Hid _:=bQ1 HC.out hbE;clear hbE;go_wp2;go_ret;exact⟨ret_bool HV.out.symm,HBE.out⟩
end Go.Proofs.YtlpbelhfpoilpaaGreatDoor
