import Derived.Test.YtlpbelhfpoilpaaGreatDoorC06
import Derived.Test.YtlpbelhfpoilpaaGreatDoorC19
import Derived.Test.YtlpbelhfpoilpaaGreatDoorC20
import Derived.Test.YtlpbelhfpoilpaaGreatDoorC21
set_option linter.all false
set_option maxRecDepth 100000
set_option maxHeartbeats 16000000
namespace Go.Scout
open Go.RowKit Go.Proofs.YtlpbelhfpoilpaaGreatDoor
def put7 (c:Array Value) (o:Nat) (v0 v1 v2 v3 v4 v5 v6:Value):Array Value:=
 ((((((c.setIfInBounds o v0).setIfInBounds (o+1) v1).setIfInBounds (o+2) v2).setIfInBounds (o+3) v3).setIfInBounds (o+4) v4).setIfInBounds (o+5) v5).setIfInBounds (o+6) v6
theorem arr_ne {c:Array Value} {i j:Nat} {v:Value} (h:i≠j):(c.setIfInBounds i v)[j]? = c[j]?:=by
 rw[Array.getElem?_setIfInBounds,if_neg h]
theorem arr_in {c:Array Value} {i:Nat} {v:Value} (h:i<c.size):(c.setIfInBounds i v)[i]? = some v:=by
 rw[Array.getElem?_setIfInBounds,if_pos rfl,if_pos h]
theorem put7_out (c:Array Value) (o:Nat) (v0 v1 v2 v3 v4 v5 v6:Value) {x:Nat} (h:x<o∨o+7<=x):(put7 c o v0 v1 v2 v3 v4 v5 v6)[x]? = c[x]?:=by
 unfold put7;rw[arr_ne (by omega),arr_ne (by omega),arr_ne (by omega),arr_ne (by omega),arr_ne (by omega),arr_ne (by omega),arr_ne (by omega)]
theorem put7_in (c:Array Value) (o:Nat) (v0 v1 v2 v3 v4 v5 v6:Value) (h:o+6<c.size) :
  (put7 c o v0 v1 v2 v3 v4 v5 v6)[o]? = some v0/\(put7 c o v0 v1 v2 v3 v4 v5 v6)[o+1]? = some v1/\(put7 c o v0 v1 v2 v3 v4 v5 v6)[o+2]? = some v2/\(put7 c o v0 v1 v2 v3 v4 v5 v6)[o+3]? = some v3/\
  (put7 c o v0 v1 v2 v3 v4 v5 v6)[o+4]? = some v4/\(put7 c o v0 v1 v2 v3 v4 v5 v6)[o+5]? = some v5/\(put7 c o v0 v1 v2 v3 v4 v5 v6)[o+6]? = some v6:=by
 unfold put7;refine⟨?_,?_,?_,?_,?_,?_,?_⟩
 ·rw[arr_ne (by omega),arr_ne (by omega),arr_ne (by omega),arr_ne (by omega),arr_ne (by omega),arr_ne (by omega),arr_in (by omega)]
 ·rw[arr_ne (by omega),arr_ne (by omega),arr_ne (by omega),arr_ne (by omega),arr_ne (by omega),arr_in (by simp only[Array.size_setIfInBounds]; omega)]
 ·rw[arr_ne (by omega),arr_ne (by omega),arr_ne (by omega),arr_ne (by omega),arr_in (by simp only[Array.size_setIfInBounds]; omega)]
 ·rw[arr_ne (by omega),arr_ne (by omega),arr_ne (by omega),arr_in (by simp only[Array.size_setIfInBounds]; omega)]
 ·rw[arr_ne (by omega),arr_ne (by omega),arr_in (by simp only[Array.size_setIfInBounds]; omega)]
 ·rw[arr_ne (by omega),arr_in (by simp only[Array.size_setIfInBounds]; omega)]
 ·rw[arr_in (by simp only[Array.size_setIfInBounds]; omega)]
def World.put7 (W:World) (b o:Nat) (v0 v1 v2 v3 v4 v5 v6:Value):World:=
 ((((((W.setCell (aD b o) v0).setCell (aD b (o+1)) v1).setCell (aD b (o+2)) v2).setCell (aD b (o+3)) v3).setCell (aD b (o+4)) v4).setCell (aD b (o+5)) v5).setCell (aD b (o+6)) v6
theorem World.put7_gb {W:World} {b:Nat} {t:TypeId} {c:Array Value} (h:GB W b t c) (o:Nat) (v0 v1 v2 v3 v4 v5 v6:Value):GB (World.put7 W b o v0 v1 v2 v3 v4 v5 v6) b t (Scout.put7 c o v0 v1 v2 v3 v4 v5 v6):=
 ((((((h.set o v0).set (o+1) v1).set (o+2) v2).set (o+3) v3).set (o+4) v4).set (o+5) v5).set (o+6) v6
theorem World.put7_ne (W:World) (b o:Nat) (v0 v1 v2 v3 v4 v5 v6:Value) {j:Nat} (h:j≠b):(World.put7 W b o v0 v1 v2 v3 v4 v5 v6).heap[j]? = W.heap[j]?:=by
 unfold World.put7;rw[heap_setCell h,heap_setCell h,heap_setCell h,heap_setCell h,heap_setCell h,heap_setCell h,heap_setCell h]
theorem World.put7_size (W:World) (b o:Nat) (v0 v1 v2 v3 v4 v5 v6:Value):(World.put7 W b o v0 v1 v2 v3 v4 v5 v6).heap.size=W.heap.size:=by
 unfold World.put7;simp only[World.size_setCell]
theorem World.put7_below {w W:World} {b o lo:Nat} (h:Below lo w W) (hb:lo<=b) (v0 v1 v2 v3 v4 v5 v6:Value):Below lo w (World.put7 W b o v0 v1 v2 v3 v4 v5 v6):=
 ((((((h.setCell (p:=(aD b o)) hb v0).setCell (p:=(aD b (o+1))) hb v1).setCell (p:=(aD b (o+2))) hb v2).setCell (p:=(aD b (o+3))) hb v3).setCell (p:=(aD b (o+4))) hb v4).setCell (p:=(aD b (o+5))) hb v5).setCell (p:=(aD b (o+6))) hb v6
theorem getD_set {α:Type} (l:List α) (k j:Nat) (x z:α) (hk:k<l.length):(l.set k x).getD j z=if j=k then x else l.getD j z:=by
 by_cases h:j=k
 ·subst h;rw[if_pos rfl];simp[List.getD,hk]
 ·rw[if_neg h];simp only[List.getD,List.getElem?_set];rw[if_neg (fun e=>h e.symm)]
theorem NodesC.lt {c:Array Value} {ns:List NodeV} (h:NodesC c ns) {k:Nat} (hk:k<ns.length):k*7+6<c.size:=by
 have:=(h k hk).2.2.2.2.2.2;exact (Array.getElem?_eq_some_iff.1 this).1
theorem NodesC.put {c:Array Value} {ns:List NodeV} (h:NodesC c ns) {k:Nat} (hk:k<ns.length) (n:NodeV) :
  NodesC (put7 c (k*7) (.int .i64 n.kind) (.int .i64 n.l) (.int .i64 n.r) (.int .i64 n.source) n.cl.val (.int .i64 n.key) n.co.val) (ns.set k n):=by
 intro j hj;rw[List.length_set] at hj;rw[getD_set _ _ _ _ _ hk];by_cases e:j=k
 ·rw[if_pos e,e];exact put7_in c (k*7) _ _ _ _ _ _ _ (h.lt hk)
 ·rw[if_neg e,put7_out _ _ _ _ _ _ _ _ _ (by omega),put7_out _ _ _ _ _ _ _ _ _ (by omega),put7_out _ _ _ _ _ _ _ _ _ (by omega),put7_out _ _ _ _ _ _ _ _ _ (by omega),put7_out _ _ _ _ _ _ _ _ _ (by omega),put7_out _ _ _ _ _ _ _ _ _ (by omega),put7_out _ _ _ _ _ _ _ _ _ (by omega)];exact h j hj
theorem NodesC.ink {c:Array Value} {ns:List NodeV} (h:NodesC c ns) {k:Nat} (hk:k<ns.length) (hz:ns.getD k nz=nz):NodesC (c.setIfInBounds (k*7) (.int .i64 77777)) (ns.set k inkN):=by
 intro j hj;rw[List.length_set] at hj;rw[getD_set _ _ _ _ _ hk];by_cases e:j=k
 ·rw[if_pos e,e,arr_in (by have:=h.lt hk; omega),arr_ne (by omega),arr_ne (by omega),arr_ne (by omega),arr_ne (by omega),arr_ne (by omega),arr_ne (by omega)];have:=h k hk;rw[hz] at this;exact⟨rfl,this.2⟩
 ·rw[if_neg e,arr_ne (by omega),arr_ne (by omega),arr_ne (by omega),arr_ne (by omega),arr_ne (by omega),arr_ne (by omega),arr_ne (by omega)];exact h j hj
theorem made_at (z:Array Value) (n j:Nat) (hj:j<n):(madeCells z n)[j]? = some z[j % z.size]!:=by
 unfold madeCells;simp[hj]
theorem made_nodes (n:Nat):NodesC (madeCells zn.toArray (n*7)) (List.replicate n nz):=by
 intro k hk;rw[List.length_replicate] at hk;have e:(List.replicate n nz).getD k nz=nz:=by simp[List.getD,hk]
 have m:∀ i,i<7->(madeCells zn.toArray (n*7))[k*7+i]? = some zn.toArray[i]!:=fun i hi=>by
  rw[made_at _ _ _ (by omega),show (k*7+i) % zn.toArray.size=i by show (k*7+i) % 7=i; omega]
 rw[e];exact⟨m 0 (by omega),m 1 (by omega),m 2 (by omega),m 3 (by omega),m 4 (by omega),m 5 (by omega),m 6 (by omega)⟩
structure Lending (w w7 W:World) (G tG tN tI:Nat) (c7:Array Value) (pl:List NodeV) (i:Nat) (ns:List NodeV) (c:Array Value):Prop where
 bel:Below w.heap.size w W
 oth:∀ j,j<w7.heap.size->j≠G->W.heap[j]? = w7.heap[j]?
 siz:w7.heap.size<W.heap.size
 g:GB W G tG c7
 row:GB W w7.heap.size tN c
 nodes:NodesC c ns
 len:ns.length=pl.length+2
 lent:∀ k,k<i->LentN (w7.heap.size+1) W tI (ns.getD k nz) (pl.getD k nz)
 rest:∀ k,i<=k->ns.getD k nz=nz
theorem Lending.put {w w7 W X:World} {G tG tN tI:Nat} {c7:Array Value} {pl:List NodeV} {i:Nat} {ns:List NodeV} {c:Array Value} (h:Lending w w7 W G tG tN tI c7 pl i ns c) (hw:w.heap.size<=w7.heap.size) (hG:G<w7.heap.size) (hi:i<pl.length) (hb:Below W.heap.size W X) {m n:NodeV} (hn:pl.getD i nz=n) (hl:LentN (w7.heap.size+1) X tI m n) :
  Lending w w7 (World.put7 X w7.heap.size (i*7) (.int .i64 m.kind) (.int .i64 m.l) (.int .i64 m.r) (.int .i64 m.source) m.cl.val (.int .i64 m.key) m.co.val) G tG tN tI c7 pl (i+1) (ns.set i m) (put7 c (i*7) (.int .i64 m.kind) (.int .i64 m.l) (.int .i64 m.r) (.int .i64 m.source) m.cl.val (.int .i64 m.key) m.co.val):=by
 have hne:∀ j,j≠w7.heap.size->(World.put7 X w7.heap.size (i*7) (.int .i64 m.kind) (.int .i64 m.l) (.int .i64 m.r) (.int .i64 m.source) m.cl.val (.int .i64 m.key) m.co.val).heap[j]? = X.heap[j]?:=fun j hj=>World.put7_ne _ _ _ _ _ _ _ _ _ _ hj
 have hlen:=h.len;have hsiz:=h.siz;have hbs:=hb.size;refine⟨World.put7_below (bQ1 h.bel hb) hw _ _ _ _ _ _ _,fun j hj hjn=>?_,?_,?_,World.put7_gb (h.row.of (hb.block _ h.row.lt)) _ _ _ _ _ _ _ _,h.nodes.put (by omega) m,by rw[List.length_set]; exact hlen,fun k hk=>?_,fun k hk=>?_⟩
 ·rw[hne j (by omega),hb.block j (by omega)];exact h.oth j hj hjn
 ·rw[World.put7_size]; omega
 ·exact (h.g.of (hb.block _ h.g.lt)).of (hne _ (by omega))
 ·rw[getD_set _ _ _ _ _ (by omega)];by_cases e:k=i
  ·rw[if_pos e,e,hn];exact hl.kept (Nat.le_refl _) (fun b h1 _=>hne b (by omega))
  ·rw[if_neg e];exact (h.lent k (by omega)).kept (Nat.le_refl _) (fun b h1 h2=>by rw[hne b (by omega),hb.block b h2])
 ·rw[getD_set _ _ _ _ _ (by omega),if_neg (by omega)];exact h.rest k (by omega)
theorem Lending.drew {w w7 W:World} {G tG tN tI:Nat} {c7:Array Value} {pl:List NodeV} {i:Nat} {ns:List NodeV} {c:Array Value} (h:Lending w w7 W G tG tN tI c7 pl i ns c) {X:World} (hb:Below W.heap.size W X):Lending w w7 X G tG tN tI c7 pl i ns c:=
 ⟨bQ1 h.bel hb,fun j hj hn=>(hb.block j (by have:=h.siz; omega)).trans (h.oth j hj hn),by have:=h.siz; have:=hb.size; omega,h.g.of (hb.block _ h.g.lt),h.row.of (hb.block _ h.row.lt),h.nodes,h.len,fun k hk=>(h.lent k hk).kept (Nat.le_refl _) (fun b _ hl=>hb.block b hl),h.rest⟩
theorem Lending.done {w w7 W:World} {G tG tN tI:Nat} {c7:Array Value} {pl:List NodeV} {ns:List NodeV} {c:Array Value} (h:Lending w w7 W G tG tN tI c7 pl pl.length ns c) (hw:w.heap.size<=w7.heap.size) (hG:G<w7.heap.size) (hwG:w.heap.size<=G) (v:Value) {X:World}
  (hX:X=((W.setCell (aD w7.heap.size (pl.length*7)) (.int .i64 77777)).setCell (aD w7.heap.size ((pl.length+1)*7)) (.int .i64 77777)).setCell (aD G 8) v) :
  Below w.heap.size w X/\(∀ j,j<w7.heap.size->j≠G->X.heap[j]? = w7.heap[j]?)/\GB X G tG (c7.setIfInBounds 8 v)/\w7.heap.size<X.heap.size/\PlanL w7.heap.size X w7.heap.size tN tI pl ((ns.set pl.length inkN).set (pl.length+1) inkN):=by
 have hlen:=h.len;have hsiz:=h.siz;have hne:∀ j,j≠w7.heap.size->j≠G->X.heap[j]? = W.heap[j]?:=fun j h1 h2=>by
  rw[hX,heap_setCell h2,heap_setCell h1,heap_setCell h1]
 have hXs:X.heap.size=W.heap.size:=by rw[hX]; simp only[World.size_setCell]
 have n1:=h.nodes.ink (k:=pl.length) (by omega) (h.rest _ (Nat.le_refl _));have n2:=n1.ink (k:=pl.length+1) (by rw[List.length_set]; omega) (by rw[getD_set _ _ _ _ _ (by omega),if_neg (by omega)]; exact h.rest _ (by omega));refine⟨?_,fun j hj hn=>?_,?_,by omega,?_⟩
 ·rw[hX];exact ((h.bel.setCell (p:=(aD w7.heap.size (pl.length*7))) hw _).setCell (p:=(aD w7.heap.size ((pl.length+1)*7))) hw _).setCell (p:=(aD G 8)) hwG _
 ·rw[hne j (by omega) hn];exact h.oth j hj hn
 ·rw[hX];exact GB.set (h.g.of (by rw[heap_setCell (by show G≠w7.heap.size; omega),heap_setCell (by show G≠w7.heap.size; omega)])) 8 v
 ·refine⟨by rw[List.length_set,List.length_set]; exact hlen,⟨_,?_,n2⟩,fun k hk=>?_,?_,?_⟩
  ·rw[hX];exact ((h.row.set (pl.length*7) (.int .i64 77777)).set ((pl.length+1)*7) (.int .i64 77777)).of (heap_setCell (by show w7.heap.size≠G; omega))
  ·rw[getD_set _ _ _ _ _ (by rw[List.length_set]; omega),if_neg (by omega),getD_set _ _ _ _ _ (by omega),if_neg (by omega)];exact (h.lent k hk).kept (by omega) (fun b h1 h2=>hne b (by omega) (by omega))
  ·rw[getD_set _ _ _ _ _ (by rw[List.length_set]; omega),if_neg (by omega),getD_set _ _ _ _ _ (by omega),if_pos rfl]
  ·rw[getD_set _ _ _ _ _ (by rw[List.length_set]; omega),if_pos rfl]
end Go.Scout
namespace Go.Proofs.YtlpbelhfpoilpaaGreatDoor
open Go.RowKit Go.Scout
theorem makeNodes (n:Nat) (h:n*88<=140737488351232) (w:World) :
  (Instr.makeSlice 27 (.int .i64 ((n:Int)+2)) (.int .i64 ((n:Int)+2))).run Tryz.prog w=.ok (.slice (some (aD w.heap.size 0)) (n+2) (n+2)) (w.alloc (.cells (madeCells zn.toArray ((n+2)*7)) 58)):=by
 obtain⟨i,hi,hz0,hz1,hz2⟩:=info_parts Tryz.info58;have:=run_make (P:=Tryz.prog) w 27 58 i _ Tryz.underlying27 hi hz0 .i64 .i64 ((n:Int)+2) ((n:Int)+2) (by omega) (Int.le_refl _) (by rw[hz2]; omega) (by omega);rw[hz1,show ((n:Int)+2).toNat=n+2 by omega] at this
 simpa [Value.cells,zn] using this
theorem giveP_any (ao d po:Option Addr) (cap dcap pcap:Nat) (ts:List TableD) (q:QueryV) (db:List RowsV) (pl:List NodeV) (w:World) (hx:TablesAt w ao ts) (hq:q.At w) (hd:DbAt w d db) (hpl:NodesAt w po pl) (hsz:ts.length*48<=140737488351232)
  (z1:q.src.xs.length*8<=140737488351232) (z2:q.keys.xs.length*8<=140737488351232) (z3:q.sums.xs.length*8<=140737488351232) (z4:q.sel.xs.length*8<=140737488351232) (z5:q.ord.xs.length*8<=140737488351232)
  (z6:q.wh.length*24<=140737488351232) (z7:∀ i,i<q.wh.length->(q.wh.getD i lz).cs.length*40<=140737488351232)
  (y1:db.length*24<=140737488351232) (y2:∀ i,i<db.length->(db.getD i rz).rs.length*24<=140737488351232) (y3:∀ i,i<db.length->∀ j,j<(db.getD i rz).rs.length->((db.getD i rz).rs.getD j iz).xs.length*8<=140737488351232)
  (p1:pl.length*88<=140737488351232) (p2:∀ i,i<pl.length->(pl.getD i nz).cl.xs.length*8<=140737488351232/\(pl.getD i nz).co.xs.length*8<=140737488351232) :
  Calls Tryz.prog 11 #[.slice ao ts.length cap,.agg q.cells,.slice po pl.length pcap,.slice d db.length dcap] w fun e w'=>∃ G bc bf bk bu be bo bw bp bd v vr u1 u2 A k1 k2 s1 s2 x1 x2 db' ns,e=.returned (.pointer (some (aD G 0)))/\
   GivP w w' G 35 140 138 137 3 95 58 47 23 ts q db db' pl ns bc bf bk bu be bo bw bp bd v vr u1 u2 A k1 k2 s1 s2 x1 x2:=by
 have HTB:Hid _:=And.intro hd (And.intro y1 (And.intro y2 y3));have HPL:Hid _:=And.intro hpl (And.intro p1 p2);clear y1 y2 y3 hd p1 p2 hpl;have hmk:=makeTabs ts.length hsz;have hl:=hx.1;obtain⟨src,wad,wcap,wh,group,keys,sums,sel,ord⟩:=q;have hsrc:IntsAt w src.ad src.xs:=hq.src;have hkeys:IntsAt w keys.ad keys.xs:=hq.keys;have hsums:IntsAt w sums.ad sums.xs:=hq.sums;have hsel:IntsAt w sel.ad sel.xs:=hq.sel;have hord:IntsAt w ord.ad ord.xs:=hq.ord;have hwh:ClausesAt w wad wh:=hq.wh;clear hq;simp only at z1 z2 z3 z4 z5 z6 z7;unfold QueryV.cells IntsV.val;simp only;have hcp:=fun (o1 o2:Obj) (ty:TypeId)=>copyTabs w ((w.alloc o1).alloc o2) (w.heap.size+1+1) ao cap ts hx (bQ1 (bQ2 _ _) (bQ2 _ _)) (by simp) ty
 have hs1:=fun (o1 o2:Obj)=>setCell_tabs1 ((w.alloc o1).alloc o2) (w.heap.size+1+1) ts 95 (by simp)
 have hs2:=fun (o1 o2:Obj)=>setCell_tabs2 ((w.alloc o1).alloc o2) (w.heap.size+1+1) ts 95 (by simp)
 have ha1:=fun (o1 o2:Obj)=>cell_tabs1 ((w.alloc o1).alloc o2) (w.heap.size+1+1) ts 95 (by simp)
 have ha2:=fun (o1 o2:Obj)=>cell_tabs2 ((w.alloc o1).alloc o2) (w.heap.size+1+1) ts 95 (by simp)
 go_enter Tryz.func11,Tryz.ntmps11;go_wp2_with fail;refine (lend_pre (Pre.start w _ _ _ _) src.ad src.cap src.xs hsrc z1).mono ?_;clear hmk hcp hs1 hs2 ha1 ha2 hx;have hGB:¬ w.heap.size=w.heap.size+1:=by omega
 have hGB':¬ w.heap.size+1=w.heap.size:=by omega
 rintro e w1 ⟨b1,rfl,P1⟩;have p1:=P1.g.cell 1;have p1':=P1.g.frozen 1;have p2:=(P1.at (b:=w.heap.size) (List.Mem.tail _ (List.Mem.tail _ (List.Mem.head _)))).cell 3;simp at p1 p2;go_wp2_with fail;refine (lend_pre (P1.store 1 _) keys.ad keys.cap keys.xs hkeys z2).mono ?_;clear P1 p1 p1' p2;rintro e w2 ⟨b2,rfl,P2⟩;simp only[List.setIfInBounds_toArray,List.set_cons_succ,List.set_cons_zero] at P2;have p1:=P2.g.cell 4;have p1':=P2.g.frozen 4;have p2:=(P2.at (b:=w.heap.size) (List.Mem.tail _ (List.Mem.tail _ (List.Mem.tail _ (List.Mem.head _))))).cell 4;simp at p1 p2;go_wp2_with fail;refine (lend_pre (P2.store 4 _) sums.ad sums.cap sums.xs hsums z3).mono ?_;clear P2 p1 p1' p2;rintro e w3 ⟨b3,rfl,P3⟩;simp only[List.setIfInBounds_toArray,List.set_cons_succ,List.set_cons_zero] at P3;have p1:=P3.g.cell 5;have p1':=P3.g.frozen 5;have p2:=(P3.at (b:=w.heap.size) (List.Mem.tail _ (List.Mem.tail _ (List.Mem.tail _ (List.Mem.tail _ (List.Mem.head _)))))).cell 5;simp at p1 p2;go_wp2_with fail;refine (lend_pre (P3.store 5 _) sel.ad sel.cap sel.xs hsel z4).mono ?_;clear P3 p1 p1' p2;rintro e w4 ⟨b4,rfl,P4⟩;simp only[List.setIfInBounds_toArray,List.set_cons_succ,List.set_cons_zero] at P4;have p1:=P4.g.cell 6;have p1':=P4.g.frozen 6;have p2:=(P4.at (b:=w.heap.size) (List.Mem.tail _ (List.Mem.tail _ (List.Mem.tail _ (List.Mem.tail _ (List.Mem.tail _ (List.Mem.head _))))))).cell 6;simp at p1 p2;go_wp2_with fail;refine (lend_pre (P4.store 6 _) ord.ad ord.cap ord.xs hord z5).mono ?_;clear P4 p1 p1' p2;rintro e w5 ⟨b5,rfl,P5⟩;simp only[List.setIfInBounds_toArray,List.set_cons_succ,List.set_cons_zero] at P5;have p1:=P5.g.cell 7;have p1':=P5.g.frozen 7;have p2:=(P5.at (b:=w.heap.size) (List.Mem.tail _ (List.Mem.tail _ (List.Mem.tail _ (List.Mem.tail _ (List.Mem.tail _ (List.Mem.tail _ (List.Mem.head _)))))))).cell 1;simp at p1 p2;go_wp2_with fail;have P6:=P5.store 7 (.slice (some (aD b5 0)) ord.xs.length (ord.xs.length+2));simp only[List.setIfInBounds_toArray,List.set_cons_succ,List.set_cons_zero] at P6
 clear P5 p1 p1' p2;generalize w5.setCell (aD (w.heap.size+1) 7) (.slice (some (aD b5 0)) ord.xs.length (ord.xs.length+2))=w6 at *;refine (clauses_any w w6 (w.heap.size+1) wad wcap wh _ _ _ _ _ _ _ _ _ _ _ _ _ _ _ hwh z6 z7 P6.bel P6.lo P6.g).mono ?_;rintro e w7 ⟨rfl,v,A,k1,k2,C⟩;have hG6:=P6.g.lt;obtain⟨c7,hc7,P7⟩:∃ c,c=_/\Pre w w7 (w.heap.size+1) 35 c _:=⟨_,rfl,P6.move C.bel C.oth C.g⟩
 have hmk:=makeNodes pl.length HPL.out.2.1;have hpll:=HPL.out.1.1;have hGlt:=P7.g.lt;have hlo:=P7.lo;have p1:w7.cell? (aD (w.heap.size+1) 13)=some (.slice none 0 0):=by rw[P7.g.cell 13,hc7]; rfl
 have p1':=P7.g.frozen 13;have hcs:(c7.setIfInBounds 13 (.slice (some (aD w7.heap.size 0)) (pl.length+2) (pl.length+2)))[13]? = some (.slice (some (aD w7.heap.size 0)) (pl.length+2) (pl.length+2)):=by rw[hc7]; rfl
 have hc8:(c7.setIfInBounds 13 (.slice (some (aD w7.heap.size 0)) (pl.length+2) (pl.length+2)))[8]? = some (.slice none 0 0):=by rw[hc7]; rfl
 have HC7:Hid _:=hc7;clear P6 hc7;have HCC:Hid _:=C;have HP7:Hid _:=P7;clear C hwh hsrc hkeys hsums hsel hord;go_wp2;have hb70:Below w.heap.size w w7:=P7.bel;go_loopw [10] (fun iv wr=>∃ (i:Nat) (ns:List NodeV) (c:Array Value),i<=pl.length/\iv=.int .i64 i/\Lending w w7 wr (w.heap.size+1) 35 58 3 (c7.setIfInBounds 13 (.slice (some (aD w7.heap.size 0)) (pl.length+2) (pl.length+2))) pl i ns c) (fun iv _=>pl.length-(intOf iv).toNat)
 case atStart=>
  have hb1:=hb70.setCell (p:=(aD (w.heap.size+1) 13)) hlo (.slice (some (aD w7.heap.size 0)) (pl.length+2) (pl.length+2));refine⟨0,List.replicate (pl.length+2) nz,_,Nat.zero_le _,rfl,⟨hb1.alloc hb1.size _,fun j hj hne=>?_,by simp,?_,?_,made_nodes _,by simp,fun k hk=>absurd hk (by omega),fun k _=>?_⟩⟩
  ·rw[heap_alloc (by simpa using hj),heap_setCell hne]
  ·exact (P7.g.set 13 (.slice (some (aD w7.heap.size 0)) (pl.length+2) (pl.length+2))).of (heap_alloc (by simpa using hGlt))
  ·have:=bQ3 (w7.setCell (aD (w.heap.size+1) 13) (.slice (some (aD w7.heap.size 0)) (pl.length+2) (pl.length+2))) (.cells (madeCells zn.toArray ((pl.length+2)*7)) 58);rw[World.size_setCell] at this;exact this
  ·simp only[List.getD,List.getElem?_replicate];split <;> rfl
 case round=>
  obtain⟨i,ns,c,hi,rfl,hL⟩:=hrel;have hbr:=hL.bel;have HL:Hid _:=hL;clear hL;have hb70':=hb70.size;by_cases hilt:i<pl.length
  ·obtain⟨nb,noff,hpo,n0,n1,n2,n3,n4,n5,n6,hcl,hco⟩:=HPL.out.1.2 i hilt;have hz:=HPL.out.2.2 i hilt;obtain⟨n,hn⟩:∃ n,n=pl.getD i nz:=⟨_,rfl⟩
   rw[<- hn] at n0 n1 n2 n3 n4 n5 n6 hcl hco hz;obtain⟨kind,nl,nr,source,⟨ca,cc,cx⟩,key,⟨oa,oc,ox⟩⟩:=n;unfold IntsV.val at n4 n6;unfold IntsV.At at hcl hco;simp only at n0 n1 n2 n3 n4 n5 n6 hcl hco hz;have m0:=cB hbr n0;have m1:=cB hbr n1;have m2:=cB hbr n2;have m3:=cB hbr n3;have m4:=cB hbr n4;have m5:=cB hbr n5;have m6:=cB hbr n6;clear n0 n1 n2 n3 n4 n5 n6 p1 p1' hmk;rw[hpo];have hclb:=fun x (hb:Below w.heap.size w x)=>IntsAt.below hb hcl
   have hcob:=fun x (hb:Below w.heap.size w x)=>IntsAt.below hb hco
   clear hcl hco;go_upto_region 18 with fail;clear m0 m1 m2 m3 m4 m5 m6;obtain⟨wA,hwA⟩:∃ wA,wA=wr.alloc (Obj.cells #[Value.int IntKind.i64 kind,Value.int IntKind.i64 nl,Value.int IntKind.i64 nr,Value.int IntKind.i64 source,Value.slice ca cx.length cc,Value.int IntKind.i64 key,Value.slice oa ox.length oc] 58):=⟨_,rfl⟩
   rw[<- hwA];have gA:GB wA wr.heap.size 58 #[Value.int IntKind.i64 kind,Value.int IntKind.i64 nl,Value.int IntKind.i64 nr,Value.int IntKind.i64 source,Value.slice ca cx.length cc,Value.int IntKind.i64 key,Value.slice oa ox.length oc]:=by rw[hwA]; exact bQ3 _ _
   have bA:Below wr.heap.size wr wA:=by rw[hwA]; exact bQ2 _ _
   have sA:wA.heap.size=wr.heap.size+1:=by rw[hwA]; simp
   clear hwA;have a4:wA.cell? (aD wr.heap.size 4)=some (.slice ca cx.length cc):=gA.cell 4;have f4:wA.frozen? (aD wr.heap.size 4)=false:=gA.frozen 4;go_wp2_with fail;refine (lend_any ca cc cx wA (hclb _ (bQ1 hbr bA)) hz.1).mono ?_;rintro e wB ⟨rfl,hwB⟩;have gB:GB wB wr.heap.size 58 #[Value.int IntKind.i64 kind,Value.int IntKind.i64 nl,Value.int IntKind.i64 nr,Value.int IntKind.i64 source,Value.slice ca cx.length cc,Value.int IntKind.i64 key,Value.slice oa ox.length oc]:=by rw[hwB]; exact gA.of (heap_alloc gA.lt)
   have lB:GB wB (wr.heap.size+1) 3 (lentCells cx):=by rw[hwB,<- sA]; exact bQ3 _ _
   have bB:Below wr.heap.size wr wB:=by rw[hwB]; exact bQ1 bA (bQ2 _ _)
   have sB:wB.heap.size=wr.heap.size+2:=by rw[hwB]; simp[sA]
   have a4:wB.cell? (aD wr.heap.size 4)=some (.slice ca cx.length cc):=gB.cell 4;have f4:wB.frozen? (aD wr.heap.size 4)=false:=gB.frozen 4;clear hwB gA bA;go_upto_region 19 with fail;obtain⟨wC,hwC⟩:∃ wC,wC=wB.setCell (aD wr.heap.size 4) (.slice (some (aD (wr.heap.size+1) 0)) cx.length (cx.length+2)):=⟨_,rfl⟩
   rw[<- hwC];have gC:GB wC wr.heap.size 58 #[Value.int IntKind.i64 kind,Value.int IntKind.i64 nl,Value.int IntKind.i64 nr,Value.int IntKind.i64 source,.slice (some (aD (wr.heap.size+1) 0)) cx.length (cx.length+2),Value.int IntKind.i64 key,Value.slice oa ox.length oc]:=by rw[hwC]; exact gB.set 4 _
   have lC:GB wC (wr.heap.size+1) 3 (lentCells cx):=by rw[hwC]; exact lB.of (heap_setCell (by show wr.heap.size+1≠wr.heap.size; omega))
   have bC:Below wr.heap.size wr wC:=by rw[hwC]; exact bB.setCell (p:=(aD wr.heap.size 4)) (Nat.le_refl _) _
   have sC:wC.heap.size=wr.heap.size+2:=by rw[hwC,World.size_setCell,sB]
   clear hwC gB lB bB a4 f4;have a6:wC.cell? (aD wr.heap.size 6)=some (.slice oa ox.length oc):=gC.cell 6;go_wp2_with fail;refine (lend_any oa oc ox wC (hcob _ (bQ1 hbr bC)) hz.2).mono ?_;rintro e wD ⟨rfl,hwD⟩;have gD:GB wD wr.heap.size 58 #[Value.int IntKind.i64 kind,Value.int IntKind.i64 nl,Value.int IntKind.i64 nr,Value.int IntKind.i64 source,.slice (some (aD (wr.heap.size+1) 0)) cx.length (cx.length+2),Value.int IntKind.i64 key,Value.slice oa ox.length oc]:=by rw[hwD]; exact gC.of (heap_alloc gC.lt)
   have lD:GB wD (wr.heap.size+1) 3 (lentCells cx):=by rw[hwD]; exact lC.of (heap_alloc lC.lt)
   have mD:GB wD (wr.heap.size+2) 3 (lentCells ox):=by rw[hwD,<- sC]; exact bQ3 _ _
   have bD:Below wr.heap.size wr wD:=by rw[hwD]; exact bQ1 bC (bQ2 _ _)
   have sD:wD.heap.size=wr.heap.size+3:=by rw[hwD]; simp[sC]
   have a6:wD.cell? (aD wr.heap.size 6)=some (.slice oa ox.length oc):=gD.cell 6;have f6:wD.frozen? (aD wr.heap.size 6)=false:=gD.frozen 6;clear hwD gC bC lC;go_upto_region 20 with fail;obtain⟨wE,hwE⟩:∃ wE,wE=wD.setCell (aD wr.heap.size 6) (.slice (some (aD (wr.heap.size+2) 0)) ox.length (ox.length+2)):=⟨_,rfl⟩
   rw[<- hwE];have gE:GB wE wr.heap.size 58 #[Value.int IntKind.i64 kind,Value.int IntKind.i64 nl,Value.int IntKind.i64 nr,Value.int IntKind.i64 source,.slice (some (aD (wr.heap.size+1) 0)) cx.length (cx.length+2),Value.int IntKind.i64 key,.slice (some (aD (wr.heap.size+2) 0)) ox.length (ox.length+2)]:=by rw[hwE]; exact gD.set 6 _
   have lE:GB wE (wr.heap.size+1) 3 (lentCells cx):=by rw[hwE]; exact lD.of (heap_setCell (by show wr.heap.size+1≠wr.heap.size; omega))
   have mE:GB wE (wr.heap.size+2) 3 (lentCells ox):=by rw[hwE]; exact mD.of (heap_setCell (by show wr.heap.size+2≠wr.heap.size; omega))
   have bE:Below wr.heap.size wr wE:=by rw[hwE]; exact bD.setCell (p:=(aD wr.heap.size 6)) (Nat.le_refl _) _
   have sE:wE.heap.size=wr.heap.size+3:=by rw[hwE,World.size_setCell,sD]
   clear hwE gD lD mD bD a6 f6;have e0:wE.cell? (aD wr.heap.size 0)=some (.int .i64 kind):=gE.cell 0;have e1:wE.cell? (aD wr.heap.size 1)=some (.int .i64 nl):=gE.cell 1;have e2:wE.cell? (aD wr.heap.size 2)=some (.int .i64 nr):=gE.cell 2;have e3:wE.cell? (aD wr.heap.size 3)=some (.int .i64 source):=gE.cell 3;have e4:wE.cell? (aD wr.heap.size 4)=some (.slice (some (aD (wr.heap.size+1) 0)) cx.length (cx.length+2)):=gE.cell 4;have e5:wE.cell? (aD wr.heap.size 5)=some (.int .i64 key):=gE.cell 5;have e6:wE.cell? (aD wr.heap.size 6)=some (.slice (some (aD (wr.heap.size+2) 0)) ox.length (ox.length+2)):=gE.cell 6;have grow:GB wE w7.heap.size 58 c:=HL.out.row.of (bE.block _ HL.out.row.lt);obtain⟨y0,y1,y2,y3,y4,y5,y6⟩:=HL.out.nodes.at grow (show i<ns.length by have:=HL.out.len; omega);rw[HL.out.rest i (Nat.le_refl _)] at y0 y1 y2 y3 y4 y5 y6;have z0:=grow.frozen (i*7);have z1':=grow.frozen (i*7+1);have z2':=grow.frozen (i*7+2);have z3':=grow.frozen (i*7+3);have z4':=grow.frozen (i*7+4);have z5':=grow.frozen (i*7+5);have z6':=grow.frozen (i*7+6);have gG:GB wE (w.heap.size+1) 35 _:=HL.out.g.of (bE.block _ HL.out.g.lt);have h13:wE.cell? (aD (w.heap.size+1) 13)=some (.slice (some (aD w7.heap.size 0)) (pl.length+2) (pl.length+2)):=by rw[gG.cell 13,hcs]
   have HX:Hid _:=HL.out.put (m:=⟨kind,nl,nr,source,⟨some (aD (wr.heap.size+1) 0),cx.length+2,cx⟩,key,⟨some (aD (wr.heap.size+2) 0),ox.length+2,ox⟩⟩) hb70' hGlt hilt bE hn.symm ⟨wr.heap.size+1,wr.heap.size+2,rfl,by have:=HL.out.siz; omega,by have:=HL.out.siz; omega,lE,mE⟩;clear lE mE gE gG hclb hcob hz grow hn;go_region_with fail
   all_goals
    have hX:=HX.out;unfold World.put7 IntsV.val at hX;simp only at hX;clear HX e0 e1 e2 e3 e4 e5 e6 y0 y1 y2 y3 y4 y5 y6 z0 z1' z2' z3' z4' z5' z6' h13;obtain⟨X,eX⟩:∃ X,X=((((((wE.setCell (aD w7.heap.size (i*7)) (.int .i64 kind)).setCell (aD w7.heap.size (i*7+1)) (.int .i64 nl)).setCell (aD w7.heap.size (i*7+2)) (.int .i64 nr)).setCell (aD w7.heap.size (i*7+3)) (.int .i64 source)).setCell (aD w7.heap.size (i*7+4)) (.slice (some (aD (wr.heap.size+1) 0)) cx.length (cx.length+2))).setCell (aD w7.heap.size (i*7+5)) (.int .i64 key)).setCell (aD w7.heap.size (i*7+6)) (.slice (some (aD (wr.heap.size+2) 0)) ox.length (ox.length+2)):=⟨_,rfl⟩
    rw[<- eX] at hX ⊢;clear eX;have HX:Hid _:=hX;clear hX;go_wp2;go_roundw
    case rel=>exact⟨i+1,_,_,by omega,by go_num,HX.out.drew (by first | exact below_drewN (Below.refl _ _) _ | exact Below.drew (Below.refl _ _))⟩
    case measure=>simp[intOf]; omega
  ·obtain rfl:i=pl.length:=by omega
   have hL:=HL.out;have hlen:=hL.len;have hg:=hL.g;have hrow:=hL.row;have h13:wr.cell? (aD (w.heap.size+1) 13)=some (.slice (some (aD w7.heap.size 0)) (pl.length+2) (pl.length+2)):=by rw[hg.cell 13,hcs]
   have h8:wr.cell? (aD (w.heap.size+1) 8)=some (.slice none 0 0):=by rw[hg.cell 8,hc8]
   have f8:=hg.frozen 8;have r0:wr.cell? (aD w7.heap.size (pl.length*7))=some (.int .i64 0):=by
    have:=(hL.nodes.at hrow (show pl.length<ns.length by omega)).1
    rwa [hL.rest _ (Nat.le_refl _)] at this
   have r7:wr.cell? (aD w7.heap.size ((pl.length+1)*7))=some (.int .i64 0):=by
    have:=(hL.nodes.at hrow (show pl.length+1<ns.length by omega)).1
    rwa [hL.rest _ (by omega)] at this
   have e0:=hrow.frozen (pl.length*7);have e7:=hrow.frozen ((pl.length+1)*7);have hGW:¬ w7.heap.size=w.heap.size+1:=by omega
   have hGW':¬ w.heap.size+1=w7.heap.size:=by omega
   clear p1 p1' hcs hc8 hmk hL hlen hg hrow;go_wp2_with fail;obtain⟨w8,ew8⟩:∃ w8,w8=((wr.setCell (aD w7.heap.size (pl.length*7)) (.int .i64 77777)).setCell (aD w7.heap.size ((pl.length+1)*7)) (.int .i64 77777)).setCell (aD (w.heap.size+1) 8) (.slice (some (aD w7.heap.size 0)) pl.length (pl.length+2)):=⟨_,rfl⟩
   rw[<- ew8];obtain⟨hb8,ho8,hg8,hs8,hp8⟩:=HL.out.done hb70' hGlt hlo (.slice (some (aD w7.heap.size 0)) pl.length (pl.length+2)) ew8;clear ew8;have C:=HCC.out;rw[HC7.out] at hg8;simp only[List.setIfInBounds_toArray,List.set_cons_succ,List.set_cons_zero] at hg8;have P8:=P7.move hb8 ho8 hg8;refine (tables_any w w8 (w.heap.size+1) d dcap db _ _ _ _ _ _ _ _ _ _ _ _ _ _ _ HTB.out.1 HTB.out.2.1 HTB.out.2.2.1 HTB.out.2.2.2 hb8 hlo hg8).mono ?_;rintro e w9 ⟨rfl,db',vr,u1,u2,s1,s2,x1,x2,T⟩;have P9:=P8.move T.bel T.oth T.g;clear h13 h8 f8 r0 r7 e0 e7 hGW hGW' hg8 P8;have ho9:∀ j,j<w7.heap.size->j≠w.heap.size+1->w9.heap[j]? = w7.heap[j]?:=fun j hj hne=>(T.oth j (by omega) hne).trans (ho8 j hj hne)
   have HO:Hid _:=ho9;have HP:Hid _:=hp8;clear ho8 ho9 hp8;go_wp2;go_ret;have ho9:=HO.out;refine⟨w.heap.size+1,w.heap.size+2,b1,b2,b3,b4,b5,w6.heap.size,w7.heap.size,w8.heap.size,v,vr,u1,u2,A,k1,k2,s1,s2,x1,x2,db',((ns.set pl.length inkN).set (pl.length+1) inkN),rfl,⟨P9.bel,P9.lo,P9.g,P9.at (List.Mem.tail _ (List.Mem.tail _ (List.Mem.tail _ (List.Mem.tail _ (List.Mem.tail _ (List.Mem.head _)))))),P9.at (List.Mem.tail _ (List.Mem.tail _ (List.Mem.tail _ (List.Mem.tail _ (List.Mem.head _))))),P9.at (List.Mem.tail _ (List.Mem.tail _ (List.Mem.tail _ (List.Mem.head _)))),P9.at (List.Mem.tail _ (List.Mem.tail _ (List.Mem.head _))),P9.at (List.Mem.tail _ (List.Mem.head _)),P9.at (List.Mem.head _),?_,fun i hi=>?_,?_,?_,?_,?_,T.len,hb8.size,T.row,T.tab,ownsRow_move T.own (by have:=hb8.size; omega) (fun _ _ _=>rfl),T.e1,T.e2,T.r1,T.r2,T.k1,T.k2,⟨(P9.bs (_,_) (List.Mem.tail _ (List.Mem.tail _ (List.Mem.tail _ (List.Mem.tail _ (List.Mem.tail _ (List.Mem.head _))))))).2.1,(P9.bs (_,_) (List.Mem.tail _ (List.Mem.tail _ (List.Mem.tail _ (List.Mem.tail _ (List.Mem.head _)))))).2.1,(P9.bs (_,_) (List.Mem.tail _ (List.Mem.tail _ (List.Mem.tail _ (List.Mem.head _))))).2.1,(P9.bs (_,_) (List.Mem.tail _ (List.Mem.tail _ (List.Mem.head _)))).2.1,(P9.bs (_,_) (List.Mem.tail _ (List.Mem.head _))).2.1,(P9.bs (_,_) (List.Mem.head _)).2.1,by have:=hG6; have:=hlo; omega,P7.bel.size,by have:=C.k1.1; have:=hG6; have:=hlo; omega,by have:=C.k2.1; have:=hG6; have:=hlo; omega,by have:=T.l1; have:=hb8.size; omega,by have:=T.l2; have:=hb8.size; omega⟩,fun i hi=>by have:=(C.al i hi).1; have:=hG6; have:=hlo; omega⟩⟩
   ·exact C.row.of_block (ho9 _ C.siz (by omega))
   ·have hA:=C.al i hi;exact hA.2.of (ho9 _ hA.2.lt (by omega))
   ·exact ownsRow_move C.own (by have:=P7.bel.size; have:=hG6; omega) (fun j h1 h2=>ho9 j h2 (by omega))
   ·exact C.k1.2.of (ho9 _ C.k1.2.lt (by have:=C.k1.1; omega))
   ·exact C.k2.2.of (ho9 _ C.k2.2.lt (by have:=C.k2.1; omega))
   ·exact HP.out.kept hb70' (Nat.le_refl _) (fun b h1 h2=>T.oth b h2 (by omega))
theorem behindP_true (w0 w:World) (G:Nat) (ts:List TableD) (q:QueryV) (db db':List RowsV) (pl ns:List NodeV) (bc bf bk bu be bo bw bp bd:Nat) (v vr u1 u2:Value) (A:Nat->Nat) (k1 k2 s1 s2:Nat) (x1 x2:Value)
  (h:GivP w0 w G 35 140 138 137 3 95 58 47 23 ts q db db' pl ns bc bf bk bu be bo bw bp bd v vr u1 u2 A k1 k2 s1 s2 x1 x2)
  (hpl:pl.length<=164703072086692425) (hdl:db.length<=1152921504606846976) (hdr:∀ i,i<db.length->(db.getD i rz).rs.length<=1152921504606846976)
  (hts:ts.length<=192153584101141162) (hwl:q.wh.length<=1152921504606846976) (hcl:∀ i,i<q.wh.length->(q.wh.getD i lz).cs.length<=230584300921369395) :
  Calls Tryz.prog 48 #[.pointer (some (aD G 0))] w fun e w'=>e=.returned (.bool true)/\Below w.heap.size w w':=by
 have g10:w.cell? (aD G 10)=some (.slice (some (aD bc 0)) (ts.length+2) (ts.length+2)):=h.g.cell 10;have g13:w.cell? (aD G 13)=some (.slice (some (aD bp 0)) (pl.length+2) (pl.length+2)):=h.g.cell 13;have a0:w.cell? (aD bc (ts.length*6))=some (.int .i64 77777):=(h.cat.cell _).trans (tab_ink0 ts 0 (by omega));have a1:w.cell? (aD bc (ts.length*6+1))=some (.int .i64 0):=(h.cat.cell _).trans (tab_ink0 ts 1 (by omega));have a2:w.cell? (aD bc (ts.length*6+2))=some (.int .i64 0):=(h.cat.cell _).trans (tab_ink0 ts 2 (by omega));have a3:w.cell? (aD bc (ts.length*6+3))=some (.int .i64 0):=(h.cat.cell _).trans (tab_ink0 ts 3 (by omega));have a4:w.cell? (aD bc (ts.length*6+4))=some (.int .i64 0):=(h.cat.cell _).trans (tab_ink0 ts 4 (by omega));have a5:w.cell? (aD bc (ts.length*6+5))=some (.int .i64 0):=(h.cat.cell _).trans (tab_ink0 ts 5 (by omega));have b0:w.cell? (aD bc ((ts.length+1)*6))=some (.int .i64 77777):=(h.cat.cell _).trans (tab_ink1 ts 0 (by omega));have b1:w.cell? (aD bc ((ts.length+1)*6+1))=some (.int .i64 0):=(h.cat.cell _).trans (tab_ink1 ts 1 (by omega));have b2:w.cell? (aD bc ((ts.length+1)*6+2))=some (.int .i64 0):=(h.cat.cell _).trans (tab_ink1 ts 2 (by omega));have b3:w.cell? (aD bc ((ts.length+1)*6+3))=some (.int .i64 0):=(h.cat.cell _).trans (tab_ink1 ts 3 (by omega));have b4:w.cell? (aD bc ((ts.length+1)*6+4))=some (.int .i64 0):=(h.cat.cell _).trans (tab_ink1 ts 4 (by omega));have b5:w.cell? (aD bc ((ts.length+1)*6+5))=some (.int .i64 0):=(h.cat.cell _).trans (tab_ink1 ts 5 (by omega));have heq:∀ (a b c e:Int) (x:World),(Op.equalIn 9999 93 (.agg #[.int .i64 a,.int .i64 b,.int .i64 c,.int .i64 e]) (.agg #[.int .i64 a,.int .i64 b,.int .i64 c,.int .i64 e])).run Tryz.prog x=.ok true x:=fun a b c e x=>eqArr4 9997 a b c e x
 have hwp:IntKind.i64.wrap (pl.length:Int)=pl.length:=by rw[IntKind.wrap_i64]; omega
 have hple:(pl.length:Int)<=pl.length+2:=by omega
 go_enter Tryz.func48,Tryz.ntmps48;go_wp2_with fail;have hN1:NodesAt (w.alloc (.cells (nk++nk).toArray 58)) (some (aD bp (pl.length*7))) [inkN,inkN]:=(h.plan.kept (W':=w.alloc (.cells (nk++nk).toArray 58)) (Nat.le_refl _) h.far.2.2.2.2.2.2.2.1 (fun b _ hl=>heap_alloc hl)).inks;have hN2:GB (w.alloc (.cells (nk++nk).toArray 58)) w.heap.size 58 (nk++nk).toArray:=bQ3 _ _;refine (samePlan_true (some (aD bp (pl.length*7))) (some (aD w.heap.size 0)) 2 2 [inkN,inkN] [inkN,inkN] _ hN1 (nodes2_at hN2) rfl (fun i hi=>⟨rfl,rfl,rfl,rfl,rfl,rfl,rfl⟩)).mono ?_;rintro e w2 ⟨rfl,hb2⟩;have k2':=bQ1 (bQ2 _ _) hb2;clear hwp hple hpl hN1 hN2 hb2 a0 a1 a2 a3 a4 a5 b0 b1 b2 b3 b4 b5 heq;go_wp2_with fail;have hw3:∃ w3,w3=((w2.alloc (.cells ic.toArray 137)).alloc (.cells ic.toArray 137)).alloc (.cells #[.slice (some (aD w2.heap.size 0)) 1 1,.slice (some (aD (w2.heap.size+1) 0)) 1 1] 140):=⟨_,rfl⟩
 obtain⟨w3,hw3⟩:=hw3;have k3:Below w.heap.size w w3:=by rw[hw3]; exact bQ1 k2' (bQ1 (bQ2 _ _) (bQ1 (bQ2 _ _) (bQ2 _ _)))
 have o0:GB w3 w2.heap.size 137 ic.toArray:=by
  show w3.heap[_]? = _
  rw[hw3,heap_alloc (by simp only[World.size_alloc]; omega),heap_alloc (by simp only[World.size_alloc]; omega),bQ3]
 have o1:GB w3 (w2.heap.size+1) 137 ic.toArray:=by
  show w3.heap[_]? = _
  rw[hw3,heap_alloc (by simp only[World.size_alloc]; omega),show w2.heap.size+1=(w2.alloc (.cells ic.toArray 137)).heap.size by simp,bQ3]
 have o2:GB w3 (w2.heap.size+2) 140 #[.slice (some (aD w2.heap.size 0)) 1 1,.slice (some (aD (w2.heap.size+1) 0)) 1 1]:=by
  show w3.heap[_]? = _
  rw[hw3,show w2.heap.size+2=((w2.alloc (.cells ic.toArray 137)).alloc (.cells ic.toArray 137)).heap.size by simp,bQ3]
 have hO:=ink2_at (o2.cell 0) (o2.cell 1) o0 o1;have hrow0:w.cell? (aD bw q.wh.length)=some (.slice (some (aD k1 0)) 1 1):=by rw[h.row.cell (by omega),if_neg (by omega),if_pos rfl]
 have hrow1:w.cell? (aD bw (q.wh.length+1))=some (.slice (some (aD k2 0)) 1 1):=by rw[h.row.cell (by omega),if_neg (by omega),if_neg (by omega)]
 have hI:=(ink2_at hrow0 hrow1 h.h1 h.h2).below k3;have g11:w3.cell? (aD G 11)=some (.slice (some (aD bw 0)) (q.wh.length+2) (q.wh.length+2)):=cB k3 (h.g.cell 11);have h12:w.cell? (aD G 12)=some v:=h.g.cell 12;have h15:w.cell? (aD G 15)=some vr:=h.g.cell 15;have h14:w.cell? (aD G 14)=some (.slice (some (aD bd 0)) (db.length+2) (db.length+2)):=h.g.cell 14;have hown:=h.own;have hal:=h.al;have hlen':=h.len;have d0:w.cell? (aD bd db.length)=some (.slice (some (aD s1 0)) 1 1):=by
  rw[h.drow.cell,List.getElem?_toArray,List.getElem?_append_right (by simp; omega),List.length_map,hlen',Nat.sub_self,h.e1];rfl
 have d1:w.cell? (aD bd (db.length+1))=some (.slice (some (aD s2 0)) 1 1):=by
  rw[h.drow.cell,List.getElem?_toArray,List.getElem?_append_right (by simp; omega),List.length_map,hlen',show db.length+1-db.length=1 by omega,h.e2];rfl
 obtain⟨i1,hx1,_,yy1⟩:=h.q1;obtain⟨i2,hx2,_,yy2⟩:=h.q2;have e1:w.cell? (aD s1 0)=some (.slice (some (aD i1 0)) 1 1):=by rw[<- hx1]; exact h.r1.cell 0
 have e2:w.cell? (aD s2 0)=some (.slice (some (aD i2 0)) 1 1):=by rw[<- hx2]; exact h.r2.cell 0
 have HTA:Hid (∀ k,k<db.length->∃ T j1 j2 m,(db'.getD k rz).full=.slice (some (aD T 0)) (m+2) (m+2)/\m<=1152921504606846976/\w.cell? (aD T m)=some (.slice (some (aD j1 0)) 1 1)/\w.cell? (aD T (m+1))=some (.slice (some (aD j2 0)) 1 1)/\GB w j1 3 #[.int .i64 77777]/\GB w j2 3 #[.int .i64 77777]):=fun k hk=>by
  obtain⟨T,a1,a2,ht⟩:=h.tab k (by omega);obtain⟨j1,ha1,_,hj1⟩:=ht.k1;obtain⟨j2,ha2,_,hj2⟩:=ht.k2;refine⟨T,j1,j2,(db.getD k rz).rs.length,?_,hdr k hk,?_,?_,hj1,hj2⟩
  ·unfold RowsV.full;rw[ht.ad,ht.len,ht.cap]
  ·rw[ht.blk.cell,List.getElem?_toArray,List.getElem?_append_right (by rw[List.length_map,ht.len]; omega),List.length_map,ht.len,Nat.sub_self,ha1];rfl
  ·rw[ht.blk.cell,List.getElem?_toArray,List.getElem?_append_right (by rw[List.length_map,ht.len]; omega),List.length_map,ht.len,show (db.getD k rz).rs.length+1-(db.getD k rz).rs.length=1 by omega,ha2];rfl
 obtain⟨ro,rc,hvr,hvc2⟩:∃ ro rc,vr=.slice ro db.length rc/\∀ k,k<db.length->∃ g,ro=some (aD g 0)/\w.cell? (aD g k)=some (db'.getD k rz).full:=by
  rcases own_news h.down with⟨h1,h2⟩ | ⟨g,c,h1,_,_,h4⟩
  ·have:db' = []:=List.map_eq_nil_iff.1 h2;rw[this] at hlen';exact⟨none,0,by rw[h1,<- hlen']; rfl,fun k hk=>absurd hk (by rw[<- hlen']; simp)⟩
  ·refine⟨some (aD g 0),c,by rw[h1,hlen'],fun k hk=>⟨g,rfl,?_⟩⟩;have:=h4 k (db'.getD k rz).full (by rw[List.getElem?_map]; simp[List.getD,show k<db'.length by omega]);rw[addr_add,Nat.zero_add] at this;exact this
 subst hvr;have HVC2:Hid _:=hvc2;clear hvc2 hx1 hx2 hlen' hdr;clear hrow0 hrow1 g10 g13 h hts;have hrw:((w2.alloc (.cells #[.bool false,.int .i64 77777,.int .i64 0,.bool false,.int .i64 0] 137)).alloc (.cells #[.bool false,.int .i64 77777,.int .i64 0,.bool false,.int .i64 0] 137)).alloc (.cells #[.slice (some (aD w2.heap.size 0)) 1 1,.slice (some (aD (w2.heap.size+1) 0)) 1 1] 140)=w3:=hw3.symm;rw[hrw];clear hrw hw3 o0 o1 o2;generalize hn:q.wh.length=n at *;have hwn:IntKind.i64.wrap (n:Int)=n:=by rw[IntKind.wrap_i64]; omega
 have hnle:(n:Int)<=n+2:=by omega
 refine wp_region_below (by kernel_rfl) (by kernel_rfl) ?_;go_big_quiet_want;refine⟨.pointer (some (aD G 0)),fun x hx=>?_,?_⟩
 ·go_simp
 simp only[pA,sB,sC];go_big_quiet_on;go_big_quiet_want;refine⟨.pointer (some (aD G 0)),fun x hx=>?_,?_⟩
 ·go_simp
 simp only[pA,sB,sC];go_big_quiet_on;go_big_quiet_want;refine⟨.pointer (some (aD G 11)),fun x hx=>?_,?_⟩
 ·go_simp
 simp only[pA,sB,sC];go_big_quiet_on;go_big_quiet_want;refine⟨.slice (some (aD bw 0)) (n+2) (n+2),fun x hx=>?_,?_⟩
 ·have e11:=cB hx g11;go_simp
 simp only[pA,sB,sC];go_big_quiet_on;go_big_quiet_want;refine⟨.pointer (some (aD G 0)),fun x hx=>?_,?_⟩
 ·go_simp
 simp only[pA,sB,sC];go_big_quiet_on;go_big_quiet_want;refine⟨.pointer (some (aD G 0)),fun x hx=>?_,?_⟩
 ·go_simp
 simp only[pA,sB,sC];go_big_quiet_on;go_big_quiet_want;refine⟨.pointer (some (aD G 11)),fun x hx=>?_,?_⟩
 ·go_simp
 simp only[pA,sB,sC];go_big_quiet_on;go_big_quiet_want;refine⟨.slice (some (aD bw 0)) (n+2) (n+2),fun x hx=>?_,?_⟩
 ·have e11:=cB hx g11;go_simp
 simp only[pA,sB,sC];go_big_quiet_on;go_big_quiet_want;refine⟨.int .i64 ((n:Int)+2),fun x hx=>?_,?_⟩
 ·go_simp
 simp only[pA,sB,sC];go_big_quiet_on;go_big_quiet_want;refine⟨.int .i64 n,fun x hx=>?_,?_⟩
 ·go_simp
 simp only[pA,sB,sC];go_big_quiet_on;go_big_quiet_want;refine⟨.slice (some (aD bw n)) 2 2,fun x hx=>?_,?_⟩
 ·go_simp
 simp only[pA,sB,sC];go_big_quiet_on;go_big_quiet_want;refine⟨.slice (some (aD (w2.heap.size+2) 0)) 2 2,fun x hx=>?_,?_⟩
 ·go_simp
 simp only[pA,sB,sC];go_big_quiet_on;go_big_quiet_want;refine⟨.bool true,fun x hx=>?_,?_⟩
 ·have hC:Calls Tryz.prog 45 #[.slice (some (aD bw n)) 2 2,.slice (some (aD (w2.heap.size+2) 0)) 2 2] x fun e w''=>e=.returned (.bool true)/\Below w3.heap.size w3 w'':=Calls.within hx (sameWhere_true (some (aD bw n)) (some (aD (w2.heap.size+2) 0)) 2 2 [⟨some (aD k1 0),1,[inkC]⟩,⟨some (aD k2 0),1,[inkC]⟩] [⟨some (aD w2.heap.size 0),1,[inkC]⟩,⟨some (aD (w2.heap.size+1) 0),1,[inkC]⟩] x (hI.below hx) (hO.below hx) rfl (ink_same _ _ _ _))
  go_simp
 simp only[pA,sB,sC];go_big_quiet_on;go_big_quiet_want;refine⟨.bool true,fun x hx=>?_,?_⟩
 ·go_simp
 simp only[pA,sB,sC];go_big_quiet_on;refine wpQuiet_nil ?_;intro w4 hb4;have k4:=bQ1 k3 hb4;clear hO hI g11 hb4 k3 hwn hnle;obtain⟨vo,vc,hv,hvc⟩:∃ vo vc,v=.slice vo n vc/\∀ k,k<n->∃ g,vo=some (aD g 0)/\w.cell? (aD g k)=some (.slice (some (aD (A k) 0)) ((q.wh.getD k lz).cs.length+2) ((q.wh.getD k lz).cs.length+2)):=by
  rcases hown.2 with⟨rfl,hn0⟩ | ⟨g,cap,cur,rfl,_,hh,_,_,_,ht⟩
  ·exact⟨none,0,by rw[hn0],fun k hk=>absurd hk (by omega)⟩
  ·refine⟨_,_,rfl,fun k hk=>⟨g,rfl,?_⟩⟩;have h1:(cur.toList.take (n*1))[k]? = some (.slice (some (aD (A k) 0)) ((q.wh.getD k lz).cs.length+2) ((q.wh.getD k lz).cs.length+2)):=by
    rw[ht,List.getElem?_map,List.getElem?_range hk];rfl
   rw[List.getElem?_take_of_lt (by omega)] at h1;simp only[World.cell?,hh]
   simpa using h1
 subst hv;clear hown;go_wp2;go_loopw [8] (fun i wr=>∃ k:Nat,k<=n/\i=.int .i64 k/\Below w.heap.size w wr) (fun i _=>n-(intOf i).toNat)
 case atStart=>exact⟨0,Nat.zero_le _,rfl,k4⟩
 case round=>
  obtain⟨k,hk,rfl,hbr⟩:=hrel;have m12:=cB hbr h12;by_cases hlt:k<n
  ·obtain⟨g,rfl,hgk⟩:=hvc k hlt;have mgk:=cB hbr hgk;have hAk:=hal k hlt;have hlk:=hcl k hlt;generalize (q.wh.getD k lz).cs=cs at *;have p0:wr.cell? (aD (A k) (cs.length*5))=some (.bool false):=cB hbr ((hAk.cell _).trans (con_ink0 cs 0 (by omega)));have p1:wr.cell? (aD (A k) (cs.length*5+1))=some (.int .i64 77777):=cB hbr ((hAk.cell _).trans (con_ink0 cs 1 (by omega)));have p2:wr.cell? (aD (A k) (cs.length*5+2))=some (.int .i64 0):=cB hbr ((hAk.cell _).trans (con_ink0 cs 2 (by omega)));have p3:wr.cell? (aD (A k) (cs.length*5+3))=some (.bool false):=cB hbr ((hAk.cell _).trans (con_ink0 cs 3 (by omega)));have p4:wr.cell? (aD (A k) (cs.length*5+4))=some (.int .i64 0):=cB hbr ((hAk.cell _).trans (con_ink0 cs 4 (by omega)));have r0:wr.cell? (aD (A k) ((cs.length+1)*5))=some (.bool false):=cB hbr ((hAk.cell _).trans (con_ink1 cs 0 (by omega)));have r1:wr.cell? (aD (A k) ((cs.length+1)*5+1))=some (.int .i64 77777):=cB hbr ((hAk.cell _).trans (con_ink1 cs 1 (by omega)));have r2:wr.cell? (aD (A k) ((cs.length+1)*5+2))=some (.int .i64 0):=cB hbr ((hAk.cell _).trans (con_ink1 cs 2 (by omega)));have r3:wr.cell? (aD (A k) ((cs.length+1)*5+3))=some (.bool false):=cB hbr ((hAk.cell _).trans (con_ink1 cs 3 (by omega)));have r4:wr.cell? (aD (A k) ((cs.length+1)*5+4))=some (.int .i64 0):=cB hbr ((hAk.cell _).trans (con_ink1 cs 4 (by omega)));clear hAk hal hvc hcl;go_wp2;go_roundw
   case rel=>exact⟨k+1,by omega,by go_num,hbr⟩
   case measure=>simp[intOf]; omega
  ·clear hal hvc hcl;go_wp2;go_loopw [10] (fun i wr2=>∃ k:Nat,k<=db.length/\i=.int .i64 k/\Below w.heap.size w wr2) (fun i _=>db.length-(intOf i).toNat)
   case atStart=>exact⟨0,Nat.zero_le _,rfl,hbr⟩
   case round=>
    obtain⟨k,hk,rfl,hbr2⟩:=hrel;clear m12 hbr;have m15:=cB hbr2 h15;have m14:=cB hbr2 h14;by_cases hlt2:k<db.length
    ·obtain⟨g,rfl,hgk⟩:=HVC2.out k hlt2;obtain⟨T,j1,j2,m,hful,hm,hc1,hc2,hg1,hg2⟩:=HTA.out k hlt2;rw[hful] at hgk;have mgk:=cB hbr2 hgk;have mc1:=cB hbr2 hc1;have mc2:=cB hbr2 hc2;have hC1:=inked_true j1 wr (hg1.of (hbr2.block _ hg1.lt));have hC2:=inked_true j2 wr (hg2.of (hbr2.block _ hg2.lt));have wm1:((m+2:Nat):Int)-1=((m+1:Nat):Int):=by omega
     have wm2:((m+2:Nat):Int)-2=(m:Int):=by omega
     have wm3:(m:Int)+2-1=(m:Int)+1:=by omega
     have wm4:(m:Int)+2-2=(m:Int):=by omega
     have wm5:IntKind.i64.wrap ((m:Int)+1)=(m:Int)+1:=by rw[IntKind.wrap_i64]; omega
     have wm6:IntKind.i64.wrap (m:Int)=(m:Int):=by rw[IntKind.wrap_i64]; omega
     have wm7:((m:Int)+1).toNat=m+1:=by omega
     clear hful hgk hc1 hc2 hg1 hg2;go_wp2_with fail;refine hC2.mono ?_;rintro e w9 ⟨rfl,rfl⟩;go_wp2_with fail;refine hC1.mono ?_;rintro e w9 ⟨rfl,rfl⟩;go_wp2;go_roundw
     case rel=>exact⟨k+1,by omega,by go_num,hbr2⟩
     case measure=>simp[intOf]; omega
    ·have wd:((db.length+2:Nat):Int)-2=(db.length:Int):=by omega
     have wd2:(db.length:Int)+2-2=(db.length:Int):=by omega
     have wd3:IntKind.i64.wrap (db.length:Int)=(db.length:Int):=by rw[IntKind.wrap_i64]; omega
     go_wp2;go_loopw [14] (fun i wr3=>∃ k:Nat,k<=2/\i=.int .i64 ((db.length+k:Nat):Int)/\Below w.heap.size w wr3) (fun i _=>db.length+2-(intOf i).toNat)
     case atStart=>exact⟨0,Nat.zero_le _,by first | rfl | simp,hbr2⟩
     case round=>
      clear m14 m15 hbr2;obtain⟨k,hk,rfl,hbr3⟩:=hrel;have m14:=cB hbr3 h14;have n0:=cB hbr3 d0;have n1:=cB hbr3 d1;have n2:=cB hbr3 e1;have n3:=cB hbr3 e2;have hC1:=inked_true i1 wr (yy1.of (hbr3.block _ yy1.lt));have hC2:=inked_true i2 wr (yy2.of (hbr3.block _ yy2.lt));by_cases hk2:k<2
      ·rcases (by omega:k=0∨k=1) with rfl | rfl
       ·go_wp2_with fail;refine hC1.mono ?_;rintro e w9 ⟨rfl,rfl⟩;go_wp2;go_roundw
        case rel=>exact⟨1,by omega,by go_num,hbr3⟩
        case measure=>first | (simp[intOf]; done) | (simp[intOf]; omega)
       ·go_wp2_with fail;refine hC2.mono ?_;rintro e w9 ⟨rfl,rfl⟩;go_wp2;go_roundw
        case rel=>exact⟨2,by omega,by go_num,hbr3⟩
        case measure=>first | (simp[intOf]; done) | (simp[intOf]; omega)
      ·have hk3:k=2:=by omega
       subst hk3;go_wp2;go_ret;exact⟨rfl,hbr3⟩
theorem sameRows_true (ao bo:Option Addr) (cap cap':Nat) (rs ss:List IntsV) (w:World) (hx:RowsAt w ao rs) (hy:RowsAt w bo ss) (he:rs.length=ss.length) (hs:∀ i,i<rs.length->(rs.getD i iz).xs=(ss.getD i iz).xs) :
  Calls Tryz.prog 49 #[.slice ao rs.length cap,.slice bo ss.length cap'] w fun e w'=>e=.returned (.bool true)/\Below w.heap.size w w':=by
 have hl:=hx.1;rw[<- he];have HE:Hid (rs.length=ss.length):=he;clear he;have hne:((rs.length:Int) != rs.length)=false:=by simp
 go_enter Tryz.func49,Tryz.ntmps49;go_wp2;go_loopw [5] (fun i wr=>∃ k:Nat,k<=rs.length/\i=.int .i64 k/\∃ n,wr=w.drewN n) (fun i _=>rs.length-(intOf i).toNat)
 case atStart=>exact⟨0,Nat.zero_le _,rfl,0,rfl⟩
 case round=>
  obtain⟨k,hk,rfl,n,rfl⟩:=hrel;by_cases hlt:k<rs.length
  ·obtain⟨b,off,rfl,hc⟩:=hx.2.1.get hlt;obtain⟨b',off',rfl,hc'⟩:=hy.2.1.get (show k<ss.length by have:=HE.out; omega);have h1:=hc k hlt;have h2:=hc' k (by have:=HE.out; omega);have i1:=hx.2.2 k hlt;have j1:=hy.2.2 k (by have:=HE.out; omega);have hee:=hs k hlt;clear hc hc' hx hy hs;generalize rs.getD k iz=x1 at *;generalize ss.getD k iz=x2 at *;obtain⟨ad1,cp1,xs1⟩:=x1;obtain⟨ad3,cp3,xs3⟩:=x2;simp only at hee;subst hee;unfold IntsV.At at i1 j1;unfold IntsV.val at h1 h2;simp only at h1 h2 i1 j1;go_wp2;refine wp_region_quiet_lit (by kernel_rfl) (by kernel_rfl) ?_
   repeat (go_big_quiet_step (fail))
   go_big_quiet_want;refine⟨.bool true,fun x hx=>?_,?_⟩
   ·obtain⟨m,rfl⟩:=hx;have hC:=sameInts_drawn ad1 ad3 cp1 cp3 xs1 w n m i1 j1;go_simp
   simp only[pA,sB,sC];go_big_quiet_on
   repeat (go_big_quiet_step (fail))
   refine wpQuiet_nil ?_;intro x hx;obtain⟨m,rfl⟩:=hx;rw[World.drewN_drewN];generalize n+m=n';go_wp2;go_roundw
   case rel=>exact⟨k+1,by omega,by go_num,_,rfl⟩
   case measure=>simp[intOf]; omega
  ·go_wp2;go_ret;exact⟨rfl,below_drewN (Below.refl _ _) _⟩
end Go.Proofs.YtlpbelhfpoilpaaGreatDoor
