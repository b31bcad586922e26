import Derived.Test.YtlpbelhfpoilpaaGreatDoorRE10
set_option linter.all false
set_option maxRecDepth 100000
set_option maxHeartbeats 16000000
namespace Go.Proofs.Zz
open Go.RowKit Go.Shelf
variable {e:TypeId} {A A1 B W W0 w:World} {v v':Value} {ts:List af}
structure Item(α:Type) where
 val:α->Value
 At:α->World->Prop
 blk:α->Nat->Prop
 keep:∀ {x A B},At x A->A.heap.size<=B.heap.size->(∀ b,blk x b->b<A.heap.size->B.heap[b]? = A.heap[b]?)->At x B
structure nZ{α:Type}(T:Item α)(e:TypeId)(W0 W:World)(v:Value)(xs:List α):Prop where
 own:W.ownsRow W0.heap.size e 1 v xs.length (xs.map T.val)
 itm:∀ x∈xs,T.At x W/\∀ b,T.blk x b->W0.heap.size<=b/\b<W.heap.size/\v.ownBlock≠some b
theorem nZ.nil{α:Type}(T:Item α)(e:TypeId)(W0 W:World):nZ T e W0 W (.slice none 0 0) []:=⟨ZV _ _ _ _,fun x hx=>by simp at hx⟩
theorem nZ.keep{α:Type}{T:Item α}{e:TypeId}{W0 A B:World}{v:Value}{xs:List α}{s:Nat->Prop}(h:nZ T e W0 A v xs)(hk:Kept s A B)(hs:∀ b,W0.heap.size<=b->s b):nZ T e W0 B v xs:=
 ⟨ZN h.own hk (fun g hg=>hs g (ZO h.own hg).1),fun x hx=>⟨T.keep (h.itm x hx).1 hk.size (fun b hb hlt=>hk.block b hlt (hs b ((h.itm x hx).2 b hb).1)),fun b hb=>⟨((h.itm x hx).2 b hb).1,by have:=((h.itm x hx).2 b hb).2.1; have:=hk.size; omega,((h.itm x hx).2 b hb).2.2⟩⟩⟩
theorem nZ.more{α:Type}{T:Item α}{xs:List α}(h:nZ T e W0 A v xs){x:α}(hx:T.At x A)(hxb:∀ b,T.blk x b->W0.heap.size<=b/\b<A.heap.size/\v.ownBlock≠some b)
  (ha:Kept (fun _=>True) A A1) (hs1:A1.heap.size=A.heap.size+1) (hown:B.ownsRow W0.heap.size e 1 v' (xs.length+1) (xs.map T.val++[T.val x])) (hg:A1.grownBy B v.ownBlock) (hat:v'.ownBlock=v.ownBlock∨v'.ownBlock=some A1.heap.size) :
  nZ T e W0 B v' (xs++[x])/\Kept (fun b=>b<W0.heap.size) A B:=by
 have hvb:∀ g,v.ownBlock=some g->W0.heap.size<=g:=fun g hg=>(ZO h.own hg).1
 have hk1:Kept (fun b=>v.ownBlock≠some b) A B:=(ha.mono fun _ _ _=>trivial).trans (ZM hg (fun r e hr=>hr e));have hnew:∀ b,b<A.heap.size->v.ownBlock≠some b->v'.ownBlock≠some b:=fun b hb hn e=>by
  rcases hat with h | h
  ·exact hn (h ▸ e)
  ·rw[h]at e; cases e; omega
 have hone:∀ y:α,T.At y A->(∀ b,T.blk y b->W0.heap.size<=b/\b<A.heap.size/\v.ownBlock≠some b)->T.At y B/\∀ b,T.blk y b->W0.heap.size<=b/\b<B.heap.size/\v'.ownBlock≠some b:=fun y hy hyb=>
  ⟨T.keep hy hk1.size (fun b hb hlt=>hk1.block b hlt (hyb b hb).2.2),fun b hb=>⟨(hyb b hb).1,by have:=(hyb b hb).2.1; have:=hk1.size; omega,hnew b (hyb b hb).2.1 (hyb b hb).2.2⟩⟩
 refine⟨⟨by simpa using hown,fun y hy=>?_⟩,hk1.mono fun b _ hb e=>by have:=hvb b e; omega⟩;rcases ZT.1 hy with hy | hy
 ·exact hone y (h.itm y hy).1 (h.itm y hy).2
 ·rw[ZR]at hy;subst hy;exact hone y hx hxb
def Bi:Item ah where
 val:=ah.val
 At:=bK.At
 blk x b:=bK.blk x=some b
 keep:=fun h hs hb=>bK.keep h hs (fun b hlt hx=>hb b hx hlt)
def ru:Item dF where
 val:=dF.val
 At t W:=iX W t.ad t.rs
 blk t b:=(∃ a,t.ad=some a/\a.block=b)∨∃ i,i<t.rs.length/\bK.blk (t.rs.getD i iz)=some b
 keep:=by
  intro t A B h hs hb;exact iX.keep h hs (fun a ha=>hb _ (.inl ⟨a,ha,rfl⟩) (h.2.1 a ha)) (fun i hi b hbx=>hb b (.inr ⟨i,hi,hbx⟩) (bK.inn (h.2.2 i hi) hbx))
theorem nZ.table{rs:List ah}(h:nZ Bi e W0 W v rs)(hl:rs.length<=1000):∃ t:dF,v=t.val/\t.rs=rs/\ru.At t W/\∀ b,ru.blk t b->W0.heap.size<=b/\b<W.heap.size:=by
 have hmem:∀ i,i<rs.length->rs.getD i iz∈rs:=fun i hi=>by simp[List.getD,hi]
 rcases h.own.2 with⟨hv,h0⟩ | ⟨g,cap,cur,hv,hb,hh,hc,_,hcs,ht⟩
 ·have:=QL h0;subst this;refine⟨⟨none,0,[]⟩,hv,rfl,⟨⟨by simp,fun i hi=>absurd hi (by simp),fun i hi=>absurd hi (by simp)⟩,(fun a ha=>by cases ha),fun i hi=>absurd hi (by simp)⟩,?_⟩;rintro b (⟨a,ha,_⟩ | ⟨i,hi,_⟩)
  ·cases ha
  ·simp at hi
 ·have hat:∀ i,i<rs.length->bK.At (rs.getD i iz) W:=fun i hi=>(h.itm _ (hmem i hi)).1
  refine⟨⟨some (aD g 0),cap,rs⟩,hv,rfl,⟨⟨by show rs.length<=_; omega,fun i hi=>⟨g,0,rfl,?_⟩,fun i hi=>(hat i hi).1⟩,fun a ha=>?_,hat⟩,?_⟩
  ·have hi':i<rs.length:=hi;have h2:(cur.toList.take (rs.length*1))[i]? = some (rs.getD i iz).val:=by
    rw[ht];simp[List.getD,hi',Bi]
   have h3:cur[i]? = some (rs.getD i iz).val:=by
    rw[ZY]at h2;split at h2
    ·simpa using h2
    ·cases h2
   simp only[World.cell?,hh]
   simpa using h3
  ·cases ha; exact(QV.1 hh).1
  ·rintro b (⟨a,ha,rfl⟩ | ⟨i,hi,hbx⟩)
   ·cases ha; exact⟨hb,(QV.1 hh).1⟩
   ·have:=(h.itm _ (hmem i hi)).2 b hbx;exact⟨this.1,this.2.1⟩
theorem nZ.db{e:TypeId}{W0 W:World}{v:Value}{db:List dF}(h:nZ ru e W0 W v db)(hl:db.length<=1000):∃ ad cap,v=.slice ad db.length cap/\Kk W ad db:=by
 have hmem:∀ i,i<db.length->db.getD i rz∈db:=fun i hi=>by simp[List.getD,hi]
 have hat:∀ i,i<db.length->iX W (db.getD i rz).ad (db.getD i rz).rs:=fun i hi=>(h.itm _ (hmem i hi)).1
 rcases h.own.2 with⟨hv,h0⟩ | ⟨g,cap,cur,hv,hb,hh,hc,_,hcs,ht⟩
 ·have:=QL h0;subst this;exact⟨none,0,hv,⟨by simp,fun i hi=>absurd hi (by simp),fun i hi=>absurd hi (by simp)⟩,fun i hi=>absurd hi (by simp)⟩
 ·refine⟨some (aD g 0),cap,hv,⟨by omega,fun i hi=>⟨g,0,rfl,?_⟩,fun i hi=>(hat i hi).1⟩,hat⟩;have h2:(cur.toList.take (db.length*1))[i]? = some (db.getD i rz).val:=by
   rw[ht];simp[List.getD,hi,ru]
  have h3:cur[i]? = some (db.getD i rz).val:=by
   rw[ZY]at h2;split at h2
   ·simpa using h2
   ·cases h2
  simp only[World.cell?,hh]
  simpa using h3
theorem nZ.db2{d:Option Addr}{dc:Nat}{db:List dF}(h:nZ ru e W0 W (.slice d db.length dc) db)(hl:db.length<=1000):Kk W d db:=by
 obtain⟨d2,dc2,hv,hd⟩:=h.db hl;injection hv with h1 h2 h3;rw[h1];exact hd
def af.list(t:af):List Value:=[.int .i64 t.aO,.int .i64 t.rows,.int .i64 t.k0,.int .i64 t.k1,.int .i64 t.k2,.int .i64 t.k3]
theorem EF(t:af):t.list.length=6:=rfl
theorem EG{base:Nat}(h:w.ownsRow base e 6 v ts.length (ts.flatMap af.list))(hl:ts.length<=100) :
  ∃ ad cap,v=.slice ad ts.length cap/\aZ w ad ts/\∀ a,ad=some a->base<=a.block/\a.block<w.heap.size:=by
 rcases h.2 with⟨rfl,h0⟩ | ⟨g,cap,cur,rfl,hb,hh,hc,_,hcs,ht⟩
 ·have:=QL h0;subst this;exact⟨none,0,rfl,⟨by simp,fun i hi=>absurd hi (by simp)⟩,fun a ha=>by cases ha⟩
 ·refine⟨some (aD g 0),cap,rfl,⟨by omega,fun i hi=>⟨g,0,rfl,?_⟩⟩,fun a ha=>by cases ha; exact⟨hb,(QV.1 hh).1⟩⟩;have hcell:∀ j,j<6->w.cell? (aD g (0+i*6+j))=((ts.getD i tz).list)[j]?:=fun j hj=>by
   have h1:=Gg af.list 6 EF tz ts [] i j hi hj;rw[Xx]at h1;rw[<- h1,<- ht,ZY,Qy (by have:=hi; omega)];simp[World.cell?,hh]
  exact⟨hcell 0 (by omega),hcell 1 (by omega),hcell 2 (by omega),hcell 3 (by omega),hcell 4 (by omega),hcell 5 (by omega)⟩
theorem GB.ata{G:Nat}{t:TypeId}{a0 a1 a2 a3 a4 a5 a6 a7 a8:Value}(h:GB w G t #[a0,a1,a2,a3,a4,a5,a6,a7,a8])(v0 v1 v2 v3 v4 v5 v6 v7 v8:Value):GB (((((((((w.setCell (aD G 0) v0).setCell (aD G 1) v1).setCell (aD G 2) v2).setCell (aD G 3) v3).setCell (aD G 4) v4).setCell (aD G 5) v5).setCell (aD G 6) v6).setCell (aD G 7) v7).setCell (aD G 8) v8) G t #[v0,v1,v2,v3,v4,v5,v6,v7,v8]:=by
 have h0:GB (w.setCell (aD G 0) v0) G t #[v0,a1,a2,a3,a4,a5,a6,a7,a8]:=h.set 0 v0;have h1:GB ((w.setCell (aD G 0) v0).setCell (aD G 1) v1) G t #[v0,v1,a2,a3,a4,a5,a6,a7,a8]:=h0.set 1 v1;have h2:GB (((w.setCell (aD G 0) v0).setCell (aD G 1) v1).setCell (aD G 2) v2) G t #[v0,v1,v2,a3,a4,a5,a6,a7,a8]:=h1.set 2 v2;have h3:GB ((((w.setCell (aD G 0) v0).setCell (aD G 1) v1).setCell (aD G 2) v2).setCell (aD G 3) v3) G t #[v0,v1,v2,v3,a4,a5,a6,a7,a8]:=h2.set 3 v3;have h4:GB (((((w.setCell (aD G 0) v0).setCell (aD G 1) v1).setCell (aD G 2) v2).setCell (aD G 3) v3).setCell (aD G 4) v4) G t #[v0,v1,v2,v3,v4,a5,a6,a7,a8]:=h3.set 4 v4;have h5:GB ((((((w.setCell (aD G 0) v0).setCell (aD G 1) v1).setCell (aD G 2) v2).setCell (aD G 3) v3).setCell (aD G 4) v4).setCell (aD G 5) v5) G t #[v0,v1,v2,v3,v4,v5,a6,a7,a8]:=h4.set 5 v5;have h6:GB (((((((w.setCell (aD G 0) v0).setCell (aD G 1) v1).setCell (aD G 2) v2).setCell (aD G 3) v3).setCell (aD G 4) v4).setCell (aD G 5) v5).setCell (aD G 6) v6) G t #[v0,v1,v2,v3,v4,v5,v6,a7,a8]:=h5.set 6 v6;have h7:GB ((((((((w.setCell (aD G 0) v0).setCell (aD G 1) v1).setCell (aD G 2) v2).setCell (aD G 3) v3).setCell (aD G 4) v4).setCell (aD G 5) v5).setCell (aD G 6) v6).setCell (aD G 7) v7) G t #[v0,v1,v2,v3,v4,v5,v6,v7,a8]:=h6.set 7 v7;have h8:GB (((((((((w.setCell (aD G 0) v0).setCell (aD G 1) v1).setCell (aD G 2) v2).setCell (aD G 3) v3).setCell (aD G 4) v4).setCell (aD G 5) v5).setCell (aD G 6) v6).setCell (aD G 7) v7).setCell (aD G 8) v8) G t #[v0,v1,v2,v3,v4,v5,v6,v7,v8]:=h7.set 8 v8;exact h8
structure CaseOk(ts:List af)(q:ae)(db:List dF):Prop where
 tabs:1<=ts.length/\ts.length<=3/\∀ t∈ts,CX t t.aO.toNat
 qry:Bh ts q
 len:db.length=ts.length
 rows:∀ i,i<db.length->(db.getD i rz).rs.length<=4/\∀ r∈(db.getD i rz).rs,(r.xs.length:Int)=(ts.getD i tz).aO/\∀ x∈r.xs,x=1073741824∨(-1<=x/\x<=3)
theorem Ap(h1:1<=ts.length)(h3:ts.length<=3)(h:∀ t∈ts,CX t t.aO.toNat):gI ts=true:=by
 unfold gI;simp only[Qt,QJ];refine⟨⟨h1,by omega⟩,?_⟩;rw[Qu];intro t ht;have k:=h t ht;unfold dV;rw[QJ];exact⟨k.c1,by have:=k.c3; omega,k.r0,k.r1,k.kd⟩
structure C9(mb qb:Nat)(lo:Option Addr)(lc:Nat)(l:List Int)(e tq:TypeId)(W0:World)(c:Value->Array Value)(W:World)(v:Value)(ts:List af):Prop where
 gb:GB W qb tq (c v)
 own:W.ownsRow W0.heap.size e 6 v ts.length (ts.flatMap af.list)
 IQ:aL mb lo lc l W
 kept:Kept (fun b=>b≠mb/\b≠qb) W0 W
theorem C9.keep{mb qb:Nat}{lo:Option Addr}{lc:Nat}{l:List Int}{e tq:TypeId}{W0:World}{c:Value->Array Value}{A B:World}{v:Value}{ts:List af}(h:C9 mb qb lo lc l e tq W0 c A v ts)(hk:Kept (fun b=>b≠mb) A B)(hm:aL mb lo lc l B)
  (hq:qb≠mb) (hmb:mb<W0.heap.size):C9 mb qb lo lc l e tq W0 c B v ts:=
 ⟨h.gb.keep hk hq,ZN h.own hk (fun g hg=>by have:=(ZO h.own hg).1; omega),hm,h.kept.trans (hk.mono fun b _ h=>h.1)⟩
theorem C9.more{mb qb:Nat}{lo:Option Addr}{lc:Nat}{l:List Int}{tq:TypeId}{c:Value->Array Value}(h:C9 mb qb lo lc l e tq W0 c A v ts){f:Nat}{t:af}
  (ha:Kept (fun _=>True) A A1) (hown:B.ownsRow W0.heap.size e 6 v' (ts.length+1) (ts.flatMap af.list++t.list)) (hg:A1.grownBy B v.ownBlock) (hc:(c v).setIfInBounds f v' = c v')
  (hq:qb≠mb) (hmb:mb<W0.heap.size) (hqb:qb<W0.heap.size) (hlo:∀ a,lo=some a->a.block<W0.heap.size/\a.block≠qb) :
  C9 mb qb lo lc l e tq W0 c (B.setCell (aD qb f) v') v' (ts++[t])/\Kept (fun b=>b<W0.heap.size) A B:=by
 have hvb:∀ g,v.ownBlock=some g->W0.heap.size<=g:=fun g hg=>(ZO h.own hg).1
 have JI:∀ g,v'.ownBlock=some g->W0.heap.size<=g:=fun g hg=>(ZO hown hg).1
 have hk1:Kept (fun b=>v.ownBlock≠some b) A B:=(ha.mono fun _ _ _=>trivial).trans (ZM hg (fun r e hr=>hr e));have hk2:Kept (fun b=>v.ownBlock≠some b/\b≠qb) A (B.setCell (aD qb f) v'):=(hk1.mono fun _ _ h=>h.1).trans (ZL _ _ _ (fun h=>h.2 rfl));refine⟨⟨?_,?_,?_,?_⟩,hk1.mono fun b _ hb e=>by have:=hvb b e; omega⟩
 ·have hgB:=h.gb.keep hk1 (fun e=>by have:=hvb _ e; omega);have:=hgB.set f v'
  rwa [hc]at this
 ·have:=ZN hown (s:=fun b=>b≠qb) (ZL B (aD qb f) v' (fun h=>h rfl)) (fun g hg=>by have:=JI g hg; omega);rw[show (ts++[t]).length=ts.length+1 from by simp,show (ts++[t]).flatMap af.list=ts.flatMap af.list++t.list from by simp];exact this
 ·exact h.IQ.fG hk2 ⟨fun e=>by have:=hvb _ e; omega,Ne.symm hq⟩ (fun a ha=>⟨fun e=>by have:=hvb _ e; have:=(hlo a ha).1; omega,(hlo a ha).2⟩)
 ·exact((h.kept.mono (t:=fun b=>(b≠mb/\b≠qb)/\b<W0.heap.size) (fun b _ h=>h.1)).trans (hk2.mono fun b _ h=>⟨fun e=>by have:=hvb _ e; have:=h.2; omega,h.1.2⟩)).mono (fun b hb h=>⟨h,hb⟩)
theorem Tryz.Vj:(Tryz.prog.info? 80).map (fun i=>(i.zero,i.size,i.bytes))=some (some (.agg #[.int .i64 0,.int .i64 0,.int .i64 0,.int .i64 0,.int .i64 0,.int .i64 0]),6,48):=by kernel_rfl
theorem Tryz.aaJ:(Tryz.prog.info? 47).map (fun i=>(i.zero,i.size,i.bytes))=some (some (.slice none 0 0),1,24):=by kernel_rfl
theorem aaK(lo:Option Addr)(lc:Nat)(l:List Int)(W:World)(hx:aB W lo l)(hl:∀ x∈l,-9223372036854775808<=x/\x<=9223372036854775807)(hlo:∀ a,lo=some a->a.block<W.heap.size) :
  Calls Tryz.prog 18 #[.slice lo l.length lc] W fun e W'=>∃ (ts:List af) (q:ae) (db:List dF) (co d:Option Addr) (cc dc:Nat),e=.returned (.agg (caseA (.slice co ts.length cc) q (.slice d db.length dc)))/\CaseOk ts q db/\
   aZ W' co ts/\(∀ a,co=some a->W.heap.size<=a.block)/\ts.length<=cc/\dL W.heap.size q W'/\Kk W' d db/\Bw W W':=by
 obtain⟨it,hit,atb,atc,atd⟩:=ZU Tryz.Vj;obtain⟨i0,hi,hz0,hz1,hz2⟩:=ZU Tryz.kV;obtain⟨ir,hir,ate,atf,atg⟩:=ZU Tryz.BG;obtain⟨iw,hiw,ath,ati,atj⟩:=ZU Tryz.aaJ;have hll:=hx.1;have hk1:∀ s,Kept s W (((W.alloc (.cells (caseA (.slice none 0 0) qz (.slice none 0 0)) 53)).alloc (.cells #[.slice lo l.length lc,.int .i64 0] 112)).alloc (.cells (caseA (.slice none 0 0) qz (.slice none 0 0)) 53)):=fun s=>((Zr _ _).trans (Zr _ _)).trans (Zr _ _)
 have zK:GB (((W.alloc (.cells (caseA (.slice none 0 0) qz (.slice none 0 0)) 53)).alloc (.cells #[.slice lo l.length lc,.int .i64 0] 112)).alloc (.cells (caseA (.slice none 0 0) qz (.slice none 0 0)) 53)) W.heap.size 53 (caseA (.slice none 0 0) qz (.slice none 0 0)):=
  ((GB.alloc _ _ _).keep (Zr (s:=fun _=>True) _ _) trivial).keep (Zr (s:=fun _=>True) _ _) trivial
 have hGm:GB (((W.alloc (.cells (caseA (.slice none 0 0) qz (.slice none 0 0)) 53)).alloc (.cells #[.slice lo l.length lc,.int .i64 0] 112)).alloc (.cells (caseA (.slice none 0 0) qz (.slice none 0 0)) 53)) (W.heap.size+1) 112 #[.slice lo l.length lc,.int .i64 0]:=by
  have:=GB.alloc (W.alloc (.cells (caseA (.slice none 0 0) qz (.slice none 0 0)) 53)) #[.slice lo l.length lc,.int .i64 0] 112;rw[Zt]at this;exact this.keep (Zr (s:=fun _=>True) _ _) trivial
 have H9:GB (((W.alloc (.cells (caseA (.slice none 0 0) qz (.slice none 0 0)) 53)).alloc (.cells #[.slice lo l.length lc,.int .i64 0] 112)).alloc (.cells (caseA (.slice none 0 0) qz (.slice none 0 0)) 53)) (W.heap.size+2) 53 (caseA (.slice none 0 0) qz (.slice none 0 0)):=by
  have:=GB.alloc ((W.alloc (.cells (caseA (.slice none 0 0) qz (.slice none 0 0)) 53)).alloc (.cells #[.slice lo l.length lc,.int .i64 0] 112)) (caseA (.slice none 0 0) qz (.slice none 0 0)) 53
  rwa [Zt,Zt]at this
 have hs1:(((W.alloc (.cells (caseA (.slice none 0 0) qz (.slice none 0 0)) 53)).alloc (.cells #[.slice lo l.length lc,.int .i64 0] 112)).alloc (.cells (caseA (.slice none 0 0) qz (.slice none 0 0)) 53)).heap.size=W.heap.size+3:=by simp
 obtain⟨W1,hW1⟩:∃ W1,(((W.alloc (.cells (caseA (.slice none 0 0) qz (.slice none 0 0)) 53)).alloc (.cells #[.slice lo l.length lc,.int .i64 0] 112)).alloc (.cells (caseA (.slice none 0 0) qz (.slice none 0 0)) 53))=W1:=⟨_,rfl⟩
 rw[hW1]at hk1 zK hGm H9 hs1;have hM1:aL (W.heap.size+1) lo lc l W1:=⟨⟨0,Q8 _,hGm.cell 1⟩,hGm.cell 0,hGm.frozen 1,aB.keep hx (fun a ha hlt=>(hk1 (fun _=>True)).block _ hlt trivial),fun a ha=>by have:=hlo a ha; omega⟩
 have hn1:=Ja (W.heap.size+1) lo lc l 3 W1 hM1 (by omega) hl;have HL:=Zh hl;have uB:=Zh hlo;have pO:=Zh hs1;have HW1:=Zh hW1;have oG:=Zh hk1;have HGr:Hid _:=zK;have HGc:Hid _:=H9;clear hl hlo hs1 hW1 hk1 H9 zK hGm hM1 hx;go_enter Tryz.func18,Tryz.ntmps18;go_wp2_with fail;rw[show (((W.alloc (.cells #[.slice none 0 0,.slice none 0 0,.slice none 0 0,.bool false,.slice none 0 0,.slice none 0 0,.slice none 0 0,.slice none 0 0,.slice none 0 0] 53)).alloc (.cells #[.slice lo l.length lc,.int .i64 0] 112)).alloc (.cells #[.slice none 0 0,.slice none 0 0,.slice none 0 0,.bool false,.slice none 0 0,.slice none 0 0,.slice none 0 0,.slice none 0 0,.slice none 0 0] 53))=W1 from HW1.o];refine hn1.mono ?_;rintro e W2 ⟨r1,rfl,hr1,hr1',hM2,hk2⟩;clear hn1;obtain⟨k1,rfl⟩:∃ k:Nat,r1=(k:Int):=⟨r1.toNat,by omega⟩
 have hs1:=pO.o;have hcm:W.heap.size+2≠W.heap.size+1:=by omega
 have HCM:Hid _:=hcm;have adI:Hid _:=Z6 HGr.o hk2 (show W.heap.size≠W.heap.size+1 by omega);have Py:=Zh (((oG.o (fun _=>True)).trans' (hk2.mono (t:=fun b=>b≠W.heap.size+1) (fun b _ h=>h)) (fun b hb _=>by omega)));have HS2:Hid (W.heap.size+3<=W2.heap.size):=show _<=_ by have:=hk2.size; omega
 have LB:Hid (∀ a,lo=some a->a.block<W2.heap.size/\a.block≠W.heap.size+2):=fun a ha=>by have:=uB.o a ha; have:=HS2.o; omega
 have HT0:Hid (C9 (W.heap.size+1) (W.heap.size+2) lo lc l 80 53 W2 (fun v=>caseA v qz (.slice none 0 0)) W2 (.slice none 0 0) []):=⟨Z6 HGc.o hk2 hcm,ZV _ _ _ _,hM2,Zn _ _⟩
 clear hM2 hk2 oG HGr HGc HW1 hs1 hcm;go_wp2;go_loopw [5] (fun i wr=>∃ (k:Nat) (ts:List af) (v:Value),i=.int .i64 k/\ts.length+k<=3/\1<=ts.length+k/\Hid (∀ t∈ts,CX t t.aO.toNat)/\C9 (W.heap.size+1) (W.heap.size+2) lo lc l 80 53 W2 (fun v=>caseA v qz (.slice none 0 0)) wr v ts) (fun i _=>(intOf i).toNat)
 case atStart=>exact⟨1+k1,[],_,congrArg (Value.int .i64) (by omega),by simp; omega,by simp,(fun t ht=>by simp at ht),HT0.o⟩
 case round=>
  obtain⟨k,ts,v,rfl,hkm,akE,hok,htb⟩:=hrel;by_cases h0:0<k
  ·
   --Ia m1 begin
   have hgt:((k:Int) > 0):=by omega
   have htab:=U6 (W.heap.size+1) lo lc l wr htb.IQ HL.o (fun a ha=>by have:=(LB.o a ha).1; have:=htb.kept.size; omega);have HTB:=Zh htb;clear htb;go_wp2_with fail;refine htab.mono ?_;rintro e W3 ⟨t,rfl,hto,zJ,hk3⟩;clear htab;have adV:=C9.keep HTB.o hk3 zJ HCM.o (by have:=HS2.o; omega);obtain⟨va,vn,vc,rfl⟩:=ZP adV.own;have hka:∀ s,Kept s W3 (W3.alloc (.cells t.vals 80)):=fun s=>Zr _ _
   have adW:=C9.keep adV (hka _) (zJ.alloc (.cells t.vals 80)) HCM.o (by have:=HS2.o; omega);have hcv:(W3.alloc (.cells t.vals 80)).cell? (aD (W.heap.size+1+1) 0)=some (.slice va vn vc):=adW.gb.cell 0;have Aq:=adW.own;have adJ:=adV.kept.size;have HT4:=Zh adW;have HTO:=Zh hto;obtain⟨t0,t1,t2,t3,t4,t5⟩:=t;unfold af.vals at *;simp only at *;have HW4:Hid (∃ W4,W3.alloc (.cells #[.int .i64 t0,.int .i64 t1,.int .i64 t2,.int .i64 t3,.int .i64 t4,.int .i64 t5] 80)=W4):=⟨_,rfl⟩
   clear zJ hk3 adV adW hto hka;go_wp2_with (first | (at_builtin; refine wpList_append_own _ rfl _ _ 22 rfl W2.heap.size 80 it (.agg #[.int .i64 0,.int .i64 0,.int .i64 0,.int .i64 0,.int .i64 0,.int .i64 0]) 6 48 Tryz.underlying22 hit atb atc atd rfl (by decide) _ _ _ rfl (Aq.alloc _) (aD (W3.heap.size+1) 0) 1 1 (⟨t0,t1,t2,t3,t4,t5⟩:af).list rfl rfl ?q1 ?q2 ?q3 ?q4 ?q5 ?_))
   case q1=>
    have hn:=l6 (W3.alloc (.cells #[.int .i64 t0,.int .i64 t1,.int .i64 t2,.int .i64 t3,.int .i64 t4,.int .i64 t5] 80)) (.cells #[.int .i64 t0,.int .i64 t1,.int .i64 t2,.int .i64 t3,.int .i64 t4,.int .i64 t5] 80);rw[Zt]at hn;exact Z9 (cs:=#[.int .i64 t0,.int .i64 t1,.int .i64 t2,.int .i64 t3,.int .i64 t4,.int .i64 t5]) (t:=80) (fr:=(0,0)) hn
   case q2=>intro u hu; simp[af.list]at hu; rcases hu with rfl | rfl | rfl | rfl | rfl | rfl <;> rfl
   case q3=>unfold maxLen; omega
   case q4=>omega
   case q5=>simp; omega
   intro v' w5 hown5 fB _;obtain⟨Tg,VZ,Ti,rfl⟩:=ZP hown5;have M:=C9.more HT4.o (f:=0) (t:=⟨t0,t1,t2,t3,t4,t5⟩) (Zr _ _) hown5 fB rfl HCM.o (by have:=HS2.o; omega) (by have:=HS2.o; omega) LB.o;have hc5:=ZI hcv M.2 (show W.heap.size+1+1<W2.heap.size by have:=HS2.o; omega);have K4:w5.frozen? (aD (W.heap.size+1+1) 0)=false:=(Z6 HT4.o.gb M.2 (show W.heap.size+2<W2.heap.size by have:=HS2.o; omega)).frozen 0;have U7:=Zh M.1;clear M hown5 fB Aq hcv;go_wp2;go_roundw
   case rel=>exact⟨k-1,ts++[⟨t0,t1,t2,t3,t4,t5⟩],_,congrArg (Value.int .i64) (show _=((k-1:Nat):Int) by omega),by rw[Zb,Jd]; omega,by rw[Zb,Jd]; omega,(fun t ht=>by
    rcases ZT.1 ht with ht | ht
    ·exact hok.o t ht
    ·rw[ZR]at ht; rw[ht]; exact HTO.o),U7.o⟩
   case measure=>simp[intOf]; omega
   --Ia m1 end
  ·have hk0:k=0:=by omega
   subst hk0;rw[show (((0:Nat):Int))=(0:Int) from rfl];obtain⟨co,cc,rfl,Vk,aiF⟩:=EG htb.own (by omega);have am0:ts.length<=cc:=by
    rcases htb.own.2 with⟨hv,h0⟩ | ⟨g,cap,cur,hv,_,_,hc,_⟩
    ·omega
    ·injection hv with h1 h2 h3; omega
   have yD:=Ap (by omega) (by omega) hok.o;have hqy:=Vd (W.heap.size+1) lo lc l co cc ts wr htb.IQ HL.o (fun a ha=>by have:=(LB.o a ha).1; have:=htb.kept.size; omega) Vk (fun a ha=>by have:=(aiF a ha).1; have:=HS2.o; omega) yD;have H9:=htb.gb;have HGc:Hid _:=H9;have MX:Hid _:=Vk;have nG:=Zh aiF;have HKr:=Zh htb.kept;have adX:Hid (1<=ts.length/\ts.length<=3/\∀ t∈ts,CX t t.aO.toNat):=⟨by omega,by omega,hok.o⟩
   have adH:=Zh yD;have am1:Hid _:=Z6 adI.o htb.kept (show W.heap.size≠W.heap.size+1/\W.heap.size≠W.heap.size+2 by omega);have amW:=htb.kept.size;have atl:=Zh am0;have b0:wr.cell? (aD (W.heap.size+1+1) 0)=some (.slice co ts.length cc):=H9.cell 0;have b1:wr.cell? (aD (W.heap.size+1+1) 1)=some (.slice none 0 0):=H9.cell 1;have b2:wr.cell? (aD (W.heap.size+1+1) 2)=some (.slice none 0 0):=H9.cell 2;have b3:wr.cell? (aD (W.heap.size+1+1) 3)=some (.bool false):=H9.cell 3;have b4:wr.cell? (aD (W.heap.size+1+1) 4)=some (.slice none 0 0):=H9.cell 4;have b5:wr.cell? (aD (W.heap.size+1+1) 5)=some (.slice none 0 0):=H9.cell 5;have b6:wr.cell? (aD (W.heap.size+1+1) 6)=some (.slice none 0 0):=H9.cell 6;have b7:wr.cell? (aD (W.heap.size+1+1) 7)=some (.slice none 0 0):=H9.cell 7;have b8:wr.cell? (aD (W.heap.size+1+1) 8)=some (.slice none 0 0):=H9.cell 8;clear H9 Vk aiF htb hok yD am0 HT0;go_wp2_with fail;refine Xt hqy ?_;rintro e W3 ⟨q,rfl,am2,hql,zJ,hk3⟩;clear hqy b0 b1 b2 b3 b4 b5 b6 b7 b8;have hG3:=Z6 HGc.o hk3 HCM.o;obtain⟨⟨rH,jq,ry⟩,bY,aI,wh,gp,⟨l8,eO,lF⟩,⟨FV,qi,IU⟩,⟨M6,uK,M8⟩,⟨oL,gQ,oM⟩⟩:=q;have b0:W3.cell? (aD (W.heap.size+1+1) 0)=some (.slice co ts.length cc):=hG3.cell 0;have b1:W3.cell? (aD (W.heap.size+1+1) 1)=some (.slice none 0 0):=hG3.cell 1;have b2:W3.cell? (aD (W.heap.size+1+1) 2)=some (.slice none 0 0):=hG3.cell 2;have b3:W3.cell? (aD (W.heap.size+1+1) 3)=some (.bool false):=hG3.cell 3;have b4:W3.cell? (aD (W.heap.size+1+1) 4)=some (.slice none 0 0):=hG3.cell 4;have b5:W3.cell? (aD (W.heap.size+1+1) 5)=some (.slice none 0 0):=hG3.cell 5;have b6:W3.cell? (aD (W.heap.size+1+1) 6)=some (.slice none 0 0):=hG3.cell 6;have b7:W3.cell? (aD (W.heap.size+1+1) 7)=some (.slice none 0 0):=hG3.cell 7;have b8:W3.cell? (aD (W.heap.size+1+1) 8)=some (.slice none 0 0):=hG3.cell 8;have f1:W3.frozen? (aD (W.heap.size+1+1) 1)=false:=hG3.frozen 1;have f2:W3.frozen? (aD (W.heap.size+1+1) 2)=false:=hG3.frozen 2;have f3:W3.frozen? (aD (W.heap.size+1+1) 3)=false:=hG3.frozen 3
   have f4:W3.frozen? (aD (W.heap.size+1+1) 4)=false:=hG3.frozen 4;have f5:W3.frozen? (aD (W.heap.size+1+1) 5)=false:=hG3.frozen 5;have f6:W3.frozen? (aD (W.heap.size+1+1) 6)=false:=hG3.frozen 6;have f7:W3.frozen? (aD (W.heap.size+1+1) 7)=false:=hG3.frozen 7;have nL:Kept (fun b=>b≠W.heap.size+2) W3 (((((((W3.setCell (aD (W.heap.size+1+1) 1) (.slice rH ry.length jq)).setCell (aD (W.heap.size+1+1) 2) (.slice bY wh.length aI)).setCell (aD (W.heap.size+1+1) 3) (.bool gp)).setCell (aD (W.heap.size+1+1) 4) (.slice l8 lF.length eO)).setCell (aD (W.heap.size+1+1) 5) (.slice FV IU.length qi)).setCell (aD (W.heap.size+1+1) 6) (.slice M6 M8.length uK)).setCell (aD (W.heap.size+1+1) 7) (.slice oL oM.length gQ)):=(((((((ZL _ _ _ (fun h=>h rfl)).trans (ZL _ _ _ (fun h=>h rfl))).trans (ZL _ _ _ (fun h=>h rfl))).trans (ZL _ _ _ (fun h=>h rfl))).trans (ZL _ _ _ (fun h=>h rfl))).trans (ZL _ _ _ (fun h=>h rfl))).trans (ZL _ _ _ (fun h=>h rfl)))
   have hG4:GB (((((((W3.setCell (aD (W.heap.size+1+1) 1) (.slice rH ry.length jq)).setCell (aD (W.heap.size+1+1) 2) (.slice bY wh.length aI)).setCell (aD (W.heap.size+1+1) 3) (.bool gp)).setCell (aD (W.heap.size+1+1) 4) (.slice l8 lF.length eO)).setCell (aD (W.heap.size+1+1) 5) (.slice FV IU.length qi)).setCell (aD (W.heap.size+1+1) 6) (.slice M6 M8.length uK)).setCell (aD (W.heap.size+1+1) 7) (.slice oL oM.length gQ)) (W.heap.size+2) 53 (caseA (.slice co ts.length cc) (⟨⟨rH,jq,ry⟩,bY,aI,wh,gp,⟨l8,eO,lF⟩,⟨FV,qi,IU⟩,⟨M6,uK,M8⟩,⟨oL,gQ,oM⟩⟩:ae) (.slice none 0 0)):=(((((((hG3.set 1 _).set 2 _).set 3 _).set 4 _).set 5 _).set 6 _).set 7 _)
   obtain⟨W4,hW4⟩:∃ W4,(((((((W3.setCell (aD (W.heap.size+1+1) 1) (.slice rH ry.length jq)).setCell (aD (W.heap.size+1+1) 2) (.slice bY wh.length aI)).setCell (aD (W.heap.size+1+1) 3) (.bool gp)).setCell (aD (W.heap.size+1+1) 4) (.slice l8 lF.length eO)).setCell (aD (W.heap.size+1+1) 5) (.slice FV IU.length qi)).setCell (aD (W.heap.size+1+1) 6) (.slice M6 M8.length uK)).setCell (aD (W.heap.size+1+1) 7) (.slice oL oM.length gQ))=W4:=⟨_,rfl⟩
   rw[hW4]at nL hG4;have HS4:Hid (wr.heap.size<=W4.heap.size):=show _<=_ by have:=hk3.size; have:=nL.size; omega
   have HQL:Hid (dL (W.heap.size+3) (⟨⟨rH,jq,ry⟩,bY,aI,wh,gp,⟨l8,eO,lF⟩,⟨FV,qi,IU⟩,⟨M6,uK,M8⟩,⟨oL,gQ,oM⟩⟩:ae) W4):=(hql.keep nL (fun b hb=>by have:=HS2.o; omega)).lower (by have:=HS2.o; omega);have atn:=Zh (hql.keep nL (fun b hb=>by have:=HS2.o; omega));have ato:=Zh am2;have Wy:=zJ.fG nL (by omega) (fun a ha=>by have:=uB.o a ha; omega);have adK:Hid _:=(Z6 am1.o hk3 (show W.heap.size≠W.heap.size+1 by omega)).keep nL (by omega);have hT4:=aZ.keep (aZ.keep MX.o (fun a ha hlt=>hk3.block _ hlt (by have:=(nG.o a ha).1; have:=HS2.o; omega))) (fun a ha hlt=>nL.block _ hlt (by have:=(nG.o a ha).1; have:=HS2.o; omega));have HT4:Hid _:=hT4;have PM:=Zh ((HKr.o.trans (hk3.mono fun b _ h=>h.1)).trans (nL.mono fun b _ h=>h.2));have HG4:Hid _:=hG4;have HM4:=Zh Wy;clear hql am2 zJ hk3 hG3 nL hG4 Wy hT4 HGc MX HKr am1 atn;unfold ae.cells ah.val;simp only;go_wp2;go_loopw [7] (fun iv wr=>∃ (i:Nat) (db:List dF) (v:Value),iv=.int .i64 i/\i<=ts.length/\Hid (db.length=i/\∀ j,j<db.length->(db.getD j rz).rs.length<=4/\∀ r∈(db.getD j rz).rs,(r.xs.length:Int)=(ts.getD j tz).aO/\∀ x∈r.xs,x=1073741824∨(-1<=x/\x<=3))/\
  GB wr (W.heap.size+2) 53 (caseA (.slice co ts.length cc) (⟨⟨rH,jq,ry⟩,bY,aI,wh,gp,⟨l8,eO,lF⟩,⟨FV,qi,IU⟩,⟨M6,uK,M8⟩,⟨oL,gQ,oM⟩⟩:ae) v)/\nZ ru 47 W4 wr v db/\aL (W.heap.size+1) lo lc l wr/\Kept (fun b=>b≠W.heap.size+1/\b≠W.heap.size+2) W4 wr) (fun iv _=>ts.length-(intOf iv).toNat)
   case atStart=>exact⟨0,[],_,rfl,Q8 _,⟨rfl,fun j hj=>by simp at hj⟩,HG4.o,nZ.nil _ _ _ _,HM4.o,Zn _ _⟩
   case round=>
    obtain⟨w2,rfl⟩:∃ w2,w2=wr:=⟨wr,rfl⟩
    obtain⟨i,db,v,rfl,hil,LM,hgc,hns,hmk,hkp⟩:=hrel;obtain⟨va,vn,vc,rfl⟩:=ZP hns.own;have c0:w2.cell? (aD (W.heap.size+1+1) 0)=some (.slice co ts.length cc):=hgc.cell 0;have hsz2:=hkp.size;by_cases hlt:i<ts.length
    ·have Wz:=Ja (W.heap.size+1) lo lc l 5 w2 hmk (by omega) HL.o;have Cw:=aZ.keep HT4.o (fun a ha hlt2=>hkp.block _ hlt2 (by have:=(nG.o a ha).1; have:=HS2.o; omega));obtain⟨ctb,cto,rfl,ctc,-⟩:=Cw.2 i hlt;have awK:=qx adH.o hlt;have aiG:Hid (ctb≠W.heap.size+1):=show _≠_ by have:=(nG.o _ rfl).1; have h:W2.heap.size<=ctb:=this; have:=HS2.o; omega
     generalize hcl:(ts.getD i tz).aO=cl at *;have qI:=Zh hcl;obtain⟨cn,rfl⟩:∃ cn:Nat,cl=(cn:Int):=⟨cl.toNat,by omega⟩
     have HGC:Hid _:=hgc;have HNS:=Zh hns;have HKP:=Zh hkp;clear hgc hns hmk hkp Cw hcl;go_wp2_with fail;refine Wz.mono ?_;rintro e Wa ⟨r3,rfl,hr3,aik,hMa,hka⟩;clear Wz;obtain⟨k3,rfl⟩:∃ k:Nat,r3=(k:Int):=⟨r3.toNat,by omega⟩
     have hsa:=hka.size;have atq:=X9 ctc hka aiG.o;have c0a:=X9 c0 hka HCM.o;have HKA:=Zh hka;have HMa:=Zh hMa;have am4:=hMa.lt;have adY:=Zh am4;clear ctc c0 hMa hka am4;go_wp2;go_loopw [8,9] (fun v8 kv wr=>∃ (k:Nat) (rs:List ah),kv=.int .i64 k/\rs.length+k<=4/\Hid (∀ r∈rs,(r.xs.length:Int)=(cn:Int)/\∀ x∈r.xs,x=1073741824∨(-1<=x/\x<=3))/\nZ Bi 23 Wa wr v8 rs/\aL (W.heap.size+1) lo lc l wr/\Kept (fun b=>b≠W.heap.size+1) Wa wr) (fun _ kv _=>(intOf kv).toNat)
     case atStart=>exact⟨k3,[],rfl,by simp; omega,(fun r hr=>by simp at hr),nZ.nil _ _ _ _,HMa.o,Zn _ _⟩
     case round=>
      obtain⟨w3,rfl⟩:∃ w3,w3=wr:=⟨wr,rfl⟩
      obtain⟨k,rs,rfl,amT,am5,hnr,adZ,hkp3⟩:=hrel;obtain⟨ra,rn,rc,rfl⟩:=ZP hnr.own;have aAp:=hkp3.size;by_cases Wl:0<k
      ·
       --Ia m3 begin
       have aiv:((k:Int) > 0):=by omega
       have HNR:=Zh hnr;have atr:=Zh adZ;have att:=Zh hkp3;have atu:=X9 atq hkp3 aiG.o;have c03:=X9 c0a hkp3 HCM.o;clear hnr adZ hkp3;go_wp2;go_loopw [10,11] (fun v10 mv wr=>∃ (m:Nat) (xs:List Int),mv=.int .i64 m/\m<=cn/\Hid (xs.length=m/\∀ x∈xs,x=1073741824∨(-1<=x/\x<=3))/\wr.ownsRow w3.heap.size 3 1 v10 m (xs.map (Value.int .i64))/\aL (W.heap.size+1) lo lc l wr/\Kept (fun b=>b≠W.heap.size+1) w3 wr) (fun _ mv _=>cn-(intOf mv).toNat)
       case atStart=>exact⟨0,[],rfl,Q8 _,⟨rfl,fun x hx=>by simp at hx⟩,ZV _ _ _ _,atr.o,Zn _ _⟩
       case round=>
        obtain⟨m,xs,rfl,hmc,aaL,hox,ad1,LP⟩:=hrel;have atv:=X9 atu LP aiG.o;have c04:=X9 c03 LP HCM.o;have adJ:=LP.size;by_cases Ka:m<cn
        ·have hval:=Va (W.heap.size+1) lo lc l wr ad1 HL.o;have HOX:Hid _:=hox;clear hox ad1;go_wp2_with fail;refine hval.mono ?_;rintro e Wc ⟨x,rfl,hxv,hMc,hkc⟩;clear hval;have aiH:=ZN HOX.o hkc (fun g hg=>by have:=(ZO HOX.o hg).1; have:=adY.o; omega);have hKc:=LP.trans hkc;have hsc:=hKc.size;have HXL:=Zh aaL.o.1;have HMc:=Zh hMc;clear hMc hkc LP atv c04;go_wp2_with (first | (at_builtin; refine wpList_append_own _ rfl _ _ 23 rfl w3.heap.size 3 i0 (.int .i64 0) 1 8 Tryz.underlying23 hi hz0 hz1 hz2 rfl (by decide) _ _ _ rfl (aiH.alloc _) (aD Wc.heap.size 0) 1 1 [.int .i64 x] rfl rfl (Z9 (cs:=#[.int .i64 x]) (t:=3) (fr:=(0,0)) (l6 Wc _)) (fun u hu=>by rw[ZR]at hu; rw[hu]; rfl) (by unfold maxLen; omega) (by omega) (by rw[Zt]; omega) ?_));intro v' w5 hown5 fB _;have A7:∀ g,Value.ownBlock _=some g->w3.heap.size<=g:=fun g hg=>(ZO aiH hg).1
         have U7:=Zh ((aL.alloc HMc.o (.cells #[.int .i64 x] 3)).grown fB (fun e=>by have:=A7 _ e; have:=adY.o; omega) (fun a ha e=>by have:=A7 _ e; have:=(LB.o a ha).1; have:=PM.o.size; omega));have hK5:Kept (fun b=>b≠W.heap.size+1) w3 w5:=by
          have h1:Kept (fun b=>b≠W.heap.size+1) w3 (Wc.alloc (.cells #[.int .i64 x] 3)):=hKc.trans (Zr _ _);exact((h1.mono (t:=fun b=>b≠W.heap.size+1/\b<w3.heap.size) (fun b _ h=>h.1)).trans (ZM fB (fun r e h=>by have:=A7 r e; have:=h.2; omega))).mono (fun b hb h=>⟨h,hb⟩)
         have BM:Hid _:=hown5;have HK5:=Zh hK5;clear hown5 fB aiH A7 hK5 hKc;go_wp2;go_roundw
         case rel=>exact⟨m+1,xs++[x],by go_num,by omega,⟨by rw[Zb,Jd,HXL.o],(fun y hy=>by
          rcases ZT.1 hy with hy | hy
          ·exact aaL.o.2 y hy
          ·rw[ZR]at hy; rw[hy]; exact hxv)⟩,by rw[Qs]; exact BM.o,U7.o,HK5.o⟩
         case measure=>simp[intOf]; omega
        ·have hme:m=cn:=by omega
         subst hme;obtain⟨iv,qw,pJ,kD,EA⟩:=kW hox (by have:=aaL.o.1; omega);have aiI:=nZ.keep HNR.o LP (fun b hb=>by have:=adY.o; omega);have Aq:=aiI.own;have hK4:=att.o.trans LP;have am7:∀ b,Bi.blk iv b->Wa.heap.size<=b/\b<wr.heap.size/\(Value.slice ra rn rc).ownBlock≠some b:=fun b hb=>by
          have h1:=EA b hb;refine⟨by omega,bK.inn kD hb,fun e=>?_⟩;have h2:=(ZO HNR.o.own e).2;omega
         have HXB:=Zh am7;have V3:=Zh kD;have HN4:=Zh aiI;have atx:=Zh hK4;have aty:=Zh ad1;have HIX:=Zh pJ;have HXK:=Zh aaL.o;rw[qw];obtain⟨mU,fH,jC⟩:=iv;unfold ah.val;simp only;clear hox kD EA aiI hK4 am7 ad1 LP qw pJ aaL;go_wp2_with (first | (at_builtin; refine wpList_append_own_at _ rfl _ _ 47 rfl Wa.heap.size 23 ir (.slice none 0 0) 1 24 Tryz.underlying47 hir ate atf atg rfl (by decide) _ _ _ rfl (Aq.alloc _) (aD wr.heap.size 0) 1 1 [.slice mU jC.length fH] rfl rfl (Z9 (cs:=#[.slice mU jC.length fH]) (t:=23) (fr:=(0,0)) (l6 wr _)) (fun u hu=>by rw[ZR]at hu; rw[hu]; rfl) (by unfold maxLen; omega) (by omega) (by rw[Zt]; omega) ?_));intro v' w5 hown5 fB _ tC;have M:=nZ.more HN4.o (x:=⟨mU,fH,jC⟩) V3.o HXB.o (Zr wr _) (by simp) hown5 fB (by rw[Zt]; exact tC);have hvb:∀ g,(Value.slice ra rn rc).ownBlock=some g->Wa.heap.size<=g:=fun g hg=>(ZO HN4.o.own hg).1
         have U7:=Zh ((aL.alloc aty.o (.cells #[.slice mU jC.length fH] 23)).grown fB (fun e=>by have:=hvb _ e; have:=adY.o; omega) (fun a ha e=>by have:=hvb _ e; have:=(LB.o a ha).1; have:=PM.o.size; omega));have hK5:=((atx.o.mono (t:=fun b=>b≠W.heap.size+1/\b<Wa.heap.size) (fun b _ h=>h.1)).trans (M.2.mono fun b _ h=>h.2)).mono (fun b hb h=>⟨h,hb⟩);have HK5:=Zh hK5;have HM1:=Zh M.1;clear M hown5 fB tC Aq hvb hK5;go_wp2;go_roundw
         case rel=>exact⟨k-1,rs++[⟨mU,fH,jC⟩],congrArg (Value.int .i64) (show _=((k-1:Nat):Int) by omega),by rw[Zb,Jd]; omega,(fun r hr=>by
          rcases ZT.1 hr with hr | hr
          ·exact am5.o r hr
          ·rw[ZR]at hr;have hix:=HIX.o;rw[hr]
           show (jC.length:Int)=_/\∀ x∈jC,_
           rw[hix];exact⟨by rw[HXK.o.1],HXK.o.2⟩),HM1.o,U7.o,HK5.o⟩
         case measure=>simp[intOf]; omega
       --Ia m3 end
      ·
       --Ia m4 begin
       have hk0:k=0:=by omega
       subst hk0;obtain⟨tb,htv,am8,Vk,afJ⟩:=hnr.table (by omega);have ad3:=HKA.o.trans hkp3;have hg3:=Z6 HGC.o ad3 HCM.o;have aiJ:=nZ.keep HNS.o ad3 (fun b hb=>by have:=HS2.o; have:=PM.o.size; omega);have hown3:=aiJ.own;have c83:w3.cell? (aD (W.heap.size+1+1) 8)=some (.slice va vn vc):=hg3.cell 8;have HXB:Hid (∀ b,ru.blk tb b->W4.heap.size<=b/\b<w3.heap.size/\(Value.slice va vn vc).ownBlock≠some b):=fun b hb=>by
        have h1:=afJ b hb;refine⟨by omega,h1.2,fun e=>?_⟩;have h2:=(ZO HNS.o.own e).2;omega
       have MX:=Zh Vk;have YH:=Zh am8;have HN3:=Zh aiJ;have AP:Hid _:=hg3;have HM3:=Zh adZ;have rU:=Zh (HKP.o.trans (ad3.mono fun b _ h=>h.1));have aAt:db.length<=3:=by have:=LM.o.1; have:=adX.o.2.1; omega
       have HDL:=Zh LM.o.1;have awR:=rU.o.size;obtain⟨tad,Ih,trs⟩:=tb;have am9:Value.slice ra rn rc=.slice tad trs.length Ih:=htv;rw[am9];clear htv am9 Vk afJ am8 ad3 hg3 aiJ hnr adZ hkp3;go_wp2_with (first | (at_builtin; refine wpList_append_own_at _ rfl _ _ 32 rfl W4.heap.size 47 iw (.slice none 0 0) 1 24 Tryz.underlying32 hiw ath ati atj rfl (by decide) _ _ _ rfl (hown3.alloc _) (aD w3.heap.size 0) 1 1 [.slice tad trs.length Ih] rfl rfl (Z9 (cs:=#[.slice tad trs.length Ih]) (t:=47) (fr:=(0,0)) (l6 w3 _)) (fun u hu=>by rw[ZR]at hu; rw[hu]; rfl) (by unfold maxLen; omega) (by omega) (by rw[Zt]; omega) ?_));intro v' w5 hown5 fB _ tC;obtain⟨Tg,VZ,Ti,rfl⟩:=ZP hown5;have M:=nZ.more HN3.o (x:=⟨tad,Ih,trs⟩) MX.o HXB.o (Zr w3 _) (by simp) hown5 fB (by rw[Zt]; exact tC);have hvb:∀ g,(Value.slice va vn vc).ownBlock=some g->W4.heap.size<=g:=fun g hg=>(ZO HN3.o.own hg).1
       have hcw:W.heap.size+2<W4.heap.size:=by have:=HS2.o; have:=PM.o.size; omega
       have hc5:=ZI c83 M.2 hcw;have hg5:=Z6 AP.o M.2 hcw;have K4:w5.frozen? (aD (W.heap.size+1+1) 8)=false:=hg5.frozen 8;have rA:Kept (fun b=>b≠W.heap.size+2) w5 (w5.setCell (aD (W.heap.size+1+1) 8) (.slice Tg VZ Ti)):=ZL _ _ _ (fun h=>h rfl);have HG6:Hid (GB (w5.setCell (aD (W.heap.size+1+1) 8) (.slice Tg VZ Ti)) (W.heap.size+2) 53 (caseA (.slice (some (aD ctb cto)) ts.length cc) (⟨⟨rH,jq,ry⟩,bY,aI,wh,gp,⟨l8,eO,lF⟩,⟨FV,qi,IU⟩,⟨M6,uK,M8⟩,⟨oL,gQ,oM⟩⟩:ae) (.slice Tg VZ Ti))):=hg5.set 8 _;have HM6:=Zh (((aL.alloc HM3.o (.cells #[.slice tad trs.length Ih] 47)).grown fB (fun e=>by have:=hvb _ e; omega) (fun a ha e=>by have:=hvb _ e; have:=(LB.o a ha).1; have:=PM.o.size; omega)).fG rA (by omega) (fun a ha=>by have:=uB.o a ha; omega));have HN6:=Zh (M.1.keep rA (fun b hb=>by omega));have HK6:=Zh ((((rU.o.mono (t:=fun b=>(b≠W.heap.size+1/\b≠W.heap.size+2)/\b<W4.heap.size) (fun b _ h=>h.1)).trans (M.2.mono fun b _ h=>h.2)).trans (rA.mono fun b _ h=>h.1.2)).mono (fun b hb h=>⟨h,hb⟩));clear M hown5 fB tC hown3 hvb rA hg5 c83;go_wp2;go_roundw
       case rel=>exact⟨i+1,db++[⟨tad,Ih,trs⟩],_,by go_num,by omega,⟨by rw[Zb,Jd,HDL.o],fun j hj=>by
        rw[Zb,Jd]at hj;by_cases hjl:j<db.length
        ·have e1:(db++[(⟨tad,Ih,trs⟩:dF)]).getD j rz=db.getD j rz:=by simp[List.getD,List.getElem?_append,hjl]
         rw[e1];exact LM.o.2 j hjl
        ·have hje:j=db.length:=by omega
         have e1:(db++[(⟨tad,Ih,trs⟩:dF)]).getD j rz=⟨tad,Ih,trs⟩:=by rw[hje]; simp[List.getD]
         rw[e1];have e2:=YH.o;have e3:j=i:=by rw[hje,HDL.o]
         show trs.length<=4/\∀ r∈trs,_
         rw[e2,e3,qI.o];exact⟨by omega,am5.o⟩⟩,HG6.o,HN6.o,HM6.o,HK6.o⟩
       case measure=>simp[intOf]; omega
       --Ia m4 end
    ·
     --Ia m5 begin
     have hie:i=ts.length:=by omega
     obtain⟨d,dc,hdv,hdh⟩:=hns.db (by have:=LM.o.1; have:=adX.o.2.1; omega);rw[hdv]at hgc hns;clear hdh;have q0:w2.cell? (aD (W.heap.size+1+1) 0)=some (.slice co ts.length cc):=hgc.cell 0;have q1:w2.cell? (aD (W.heap.size+1+1) 1)=some (.slice rH ry.length jq):=hgc.cell 1;have q2:w2.cell? (aD (W.heap.size+1+1) 2)=some (.slice bY wh.length aI):=hgc.cell 2;have q3:w2.cell? (aD (W.heap.size+1+1) 3)=some (.bool gp):=hgc.cell 3;have q4:w2.cell? (aD (W.heap.size+1+1) 4)=some (.slice l8 lF.length eO):=hgc.cell 4;have q5:w2.cell? (aD (W.heap.size+1+1) 5)=some (.slice FV IU.length qi):=hgc.cell 5;have q6:w2.cell? (aD (W.heap.size+1+1) 6)=some (.slice M6 M8.length uK):=hgc.cell 6;have q7:w2.cell? (aD (W.heap.size+1+1) 7)=some (.slice oL oM.length gQ):=hgc.cell 7;have q8:w2.cell? (aD (W.heap.size+1+1) 8)=some (.slice d db.length dc):=hgc.cell 8;have mJ:Hid _:=Z6 adK.o hkp (show W.heap.size≠W.heap.size+1/\W.heap.size≠W.heap.size+2 by omega);have r0:w2.cell? (aD W.heap.size 0)=some (.slice none 0 0):=QT mJ.o 0;have y0:=QU mJ.o 0;have r1:w2.cell? (aD W.heap.size 1)=some (.slice none 0 0):=QT mJ.o 1;have y1:=QU mJ.o 1;have r2:w2.cell? (aD W.heap.size 2)=some (.slice none 0 0):=QT mJ.o 2;have y2:=QU mJ.o 2;have r3:w2.cell? (aD W.heap.size 3)=some (.bool false):=QT mJ.o 3;have y3:=QU mJ.o 3;have r4:w2.cell? (aD W.heap.size 4)=some (.slice none 0 0):=QT mJ.o 4;have y4:=QU mJ.o 4;have r5:w2.cell? (aD W.heap.size 5)=some (.slice none 0 0):=QT mJ.o 5;have y5:=QU mJ.o 5;have r6:w2.cell? (aD W.heap.size 6)=some (.slice none 0 0):=QT mJ.o 6;have y6:=QU mJ.o 6;have r7:w2.cell? (aD W.heap.size 7)=some (.slice none 0 0):=QT mJ.o 7;have y7:=QU mJ.o 7;have r8:w2.cell? (aD W.heap.size 8)=some (.slice none 0 0):=QT mJ.o 8;have y8:=QU mJ.o 8;have Wu:Kept (fun b=>b≠W.heap.size) w2 (((((((((w2.setCell (aD W.heap.size 0) (.slice co ts.length cc)).setCell (aD W.heap.size 1) (.slice rH ry.length jq)).setCell (aD W.heap.size 2) (.slice bY wh.length aI)).setCell (aD W.heap.size 3) (.bool gp)).setCell (aD W.heap.size 4) (.slice l8 lF.length eO)).setCell (aD W.heap.size 5) (.slice FV IU.length qi)).setCell (aD W.heap.size 6) (.slice M6 M8.length uK)).setCell (aD W.heap.size 7) (.slice oL oM.length gQ)).setCell (aD W.heap.size 8) (.slice d db.length dc)):=(((((((((ZL _ _ _ (fun h=>h rfl)).trans (ZL _ _ _ (fun h=>h rfl))).trans (ZL _ _ _ (fun h=>h rfl))).trans (ZL _ _ _ (fun h=>h rfl))).trans (ZL _ _ _ (fun h=>h rfl))).trans (ZL _ _ _ (fun h=>h rfl))).trans (ZL _ _ _ (fun h=>h rfl))).trans (ZL _ _ _ (fun h=>h rfl))).trans (ZL _ _ _ (fun h=>h rfl)))
     have HGf:Hid (GB (((((((((w2.setCell (aD W.heap.size 0) (.slice co ts.length cc)).setCell (aD W.heap.size 1) (.slice rH ry.length jq)).setCell (aD W.heap.size 2) (.slice bY wh.length aI)).setCell (aD W.heap.size 3) (.bool gp)).setCell (aD W.heap.size 4) (.slice l8 lF.length eO)).setCell (aD W.heap.size 5) (.slice FV IU.length qi)).setCell (aD W.heap.size 6) (.slice M6 M8.length uK)).setCell (aD W.heap.size 7) (.slice oL oM.length gQ)).setCell (aD W.heap.size 8) (.slice d db.length dc)) W.heap.size 53 (caseA (.slice co ts.length cc) (⟨⟨rH,jq,ry⟩,bY,aI,wh,gp,⟨l8,eO,lF⟩,⟨FV,qi,IU⟩,⟨M6,uK,M8⟩,⟨oL,gQ,oM⟩⟩:ae) (.slice d db.length dc))):=GB.ata (show GB w2 W.heap.size 53 #[.slice none 0 0,.slice none 0 0,.slice none 0 0,.bool false,.slice none 0 0,.slice none 0 0,.slice none 0 0,.slice none 0 0,.slice none 0 0] from mJ.o) _ _ _ _ _ _ _ _ _;have HTf:=Zh (aZ.keep (aZ.keep HT4.o (fun a ha hlt2=>hkp.block _ hlt2 (by have:=(nG.o a ha).1; have:=HS2.o; omega))) (fun a ha hlt2=>Wu.block _ hlt2 (by have:=(nG.o a ha).1; have:=HS2.o; omega)));have HLf:Hid (dL W.heap.size (⟨⟨rH,jq,ry⟩,bY,aI,wh,gp,⟨l8,eO,lF⟩,⟨FV,qi,IU⟩,⟨M6,uK,M8⟩,⟨oL,gQ,oM⟩⟩:ae) (((((((((w2.setCell (aD W.heap.size 0) (.slice co ts.length cc)).setCell (aD W.heap.size 1) (.slice rH ry.length jq)).setCell (aD W.heap.size 2) (.slice bY wh.length aI)).setCell (aD W.heap.size 3) (.bool gp)).setCell (aD W.heap.size 4) (.slice l8 lF.length eO)).setCell (aD W.heap.size 5) (.slice FV IU.length qi)).setCell (aD W.heap.size 6) (.slice M6 M8.length uK)).setCell (aD W.heap.size 7) (.slice oL oM.length gQ)).setCell (aD W.heap.size 8) (.slice d db.length dc))):=((Je HQL.o hkp (fun b hb=>by omega)).keep Wu (fun b hb=>by omega)).lower (by omega);have atz:db.length<=1000:=by have:=LM.o.1; have:=adX.o.2.1; omega
     have hnf:=hns.keep Wu (fun b hb=>by have:=HS2.o; have:=PM.o.size; omega);have HDf:Hid _:=nZ.db2 hnf atz;have hbf:=((((Py.o.mono (t:=fun b=>b<W.heap.size) (fun _ _ _=>trivial)).trans (PM.o.mono fun b _ h=>by omega)).trans (hkp.mono fun b _ h=>by omega)).trans (Wu.mono fun b _ h=>by omega)).below (Qx _) (fun b hb=>hb);have HBf:=Zh hbf;have AX:Hid (CaseOk ts (⟨⟨rH,jq,ry⟩,bY,aI,wh,gp,⟨l8,eO,lF⟩,⟨FV,qi,IU⟩,⟨M6,uK,M8⟩,⟨oL,gQ,oM⟩⟩:ae) db):=⟨adX.o,ato.o,by rw[LM.o.1]; exact hie,LM.o.2⟩
     have HIE:=Zh hie;have aAC:¬ (i:Int)<(ts.length:Int):=by omega
     clear hgc hns hmk hkp Wu hnf hbf hie hdv mJ LM;go_wp2;refine XE (Jb rfl _ _ W.heap.size 53 (caseA (.slice co ts.length cc) (⟨⟨rH,jq,ry⟩,bY,aI,wh,gp,⟨l8,eO,lF⟩,⟨FV,qi,IU⟩,⟨M6,uK,M8⟩,⟨oL,gQ,oM⟩⟩:ae) (.slice d db.length dc)) (0,0) _ rfl HGf.o Tryz.underlying53 rfl (by kernel_rfl)) rfl ?_;exact⟨ts,(⟨⟨rH,jq,ry⟩,bY,aI,wh,gp,⟨l8,eO,lF⟩,⟨FV,qi,IU⟩,⟨M6,uK,M8⟩,⟨oL,gQ,oM⟩⟩:ae),db,co,d,cc,⟨dc,rfl⟩,AX.o,HTf.o,fun a ha=>by have:=(nG.o a ha).1; have:=HS2.o; omega,atl.o,HLf.o,HDf.o,HBf.o⟩
     --Ia m5 end
