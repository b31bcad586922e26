import Derived.Test.YtlpbelhfpoilpabGreatDoorC01
import Derived.Test.YtlpbelhfpoilpabGreatDoorC02
set_option linter.all false
set_option maxRecDepth 100000
set_option maxHeartbeats 16000000
namespace Go.Scout
open Go.RowKit
def workP (kind:Int) (l r s:Nat):Nat:=if kind=4 then sumN [l,r,r,s] else if kind=5 then sumN [l,r,s] else timesN l r
def costP (kind:Int) (s lc ls rc rs:Nat):Nat:=
 if kind=1 then sumN [s,1]
 else if kind=3∨kind=4∨kind=5 then sumN [lc,rc,workP kind ls rs s]
 else if kind=6∨kind=10 then sumN [lc,timesN ls (bitsN ls+1)]
 else if kind=7 then sumN [lc,ls,ls]
 else sumN [lc,ls]
theorem sumN2 (a b:Nat):sumN [a,b]=plusN a b:=by rw[sumN_eq]; unfold plusN; simp
def outK (k:Int):Bool:=decide (7<=k)&&decide (k<=10)
def pz:PartD:=⟨0,0,0,[],0,0⟩
def keyP (ts:List TableD) (q:QueryV) (n:NodeV) (a b:Nat):Int × Int × Bool:=
 if n.key∈n.cl.xs/\0<=n.key/\n.key<q.wh.length then keysP ts q.src.xs (q.wh.getD n.key.toNat lz).cs a b else (0,0,false)
def partP (ts:List TableD) (q:QueryV) (n:NodeV) (l r:PartD):PartD:=
 let s:=(if n.kind=1 then 2 ^ n.source.toNat else 0)|||l.sources|||r.sources
 let c:=setN n.cl.xs|||l.clauses|||r.clauses
 let z:=if outK n.kind=true then l.size else sizeP ts q s c
 ⟨n.kind,s,c,if n.kind=6 then n.co.xs else if 2<=n.kind/\n.kind<=5 then l.order else [],z,costP n.kind z l.cost l.size r.cost r.size⟩
structure Ok (ts:List TableD) (q:QueryV):Prop where
 cat:catB ts=true
 src:allB q.src.xs ts.length=true
 small:q.src.xs.length<=64
 whs:q.wh.length<=64
 cols:ClausesOk ts q
 some:∀ i,i<q.wh.length->0<(q.wh.getD i lz).cs.length
def countsB (l:List Int):Bool:=(List.range l.length).all fun i=>decide (l.getD i 0=(i:Int))
def wantN (q:QueryV):List Int:=q.ord.xs.map fun p=>q.sel.xs.getD p.toNat 0
def endsP (q:QueryV) (kind:Int) (order:List Int):Bool:=
 if q.ord.xs.length=0 then true
 else if kind=10 then true
 else if kind=9 then startsB order (wantN q)
 else if kind=8 then decide (q.ord.xs.length<=q.keys.xs.length)&&countsB q.ord.xs
 else false
structure TrD where
 d:PartD
 ns:List NodeV
def trz:TrD:=⟨pz,[]⟩
def pureN (n:NodeV):NodeV:=⟨n.kind,n.l,n.r,n.source,⟨none,0,n.cl.xs⟩,n.key,⟨none,0,n.co.xs⟩⟩
def moveN (k:Nat) (n:NodeV):NodeV:=⟨n.kind,if 1<=arity n.kind then wrap64 (n.l+k) else n.l,if 2<=arity n.kind then wrap64 (n.r+k) else n.r,n.source,n.cl,n.key,n.co⟩
def layL (ls:List (List NodeV)):List NodeV:=ls.foldl (fun acc l=>acc++l.map (moveN acc.length)) []
def endN (ls:List (List NodeV)) (i:Nat):Int:=if i<ls.length then ((layL (ls.take (i+1))).length:Int)-1 else 0
def layN (n:NodeV) (ls:List (List NodeV)):List NodeV:=
 layL ls++[⟨n.kind,endN ls 0,endN ls 1,n.source,⟨none,0,n.cl.xs⟩,n.key,⟨none,0,n.co.xs⟩⟩]
def growT (ts:List TableD) (q:QueryV) (n:NodeV) (bs:List TrD):TrD:=
 ⟨partP ts q n (bs.getD 0 trz).d (bs.getD 1 trz).d,layN n (bs.map TrD.ns)⟩
def nodeK (kind:Int):NodeV:=⟨kind,0,0,0,⟨none,0,[]⟩,0,⟨none,0,[]⟩⟩
def scanK (s:Int):NodeV:=⟨1,0,0,s,⟨none,0,[]⟩,0,⟨none,0,[]⟩⟩
def filtK (cl:List Int):NodeV:=⟨2,0,0,0,⟨none,0,cl⟩,0,⟨none,0,[]⟩⟩
def sortK (co:List Int):NodeV:=⟨6,0,0,0,⟨none,0,[]⟩,0,⟨none,0,co⟩⟩
def joinK (kind:Int) (cl:List Int) (key:Int):NodeV:=⟨kind,0,0,0,⟨none,0,cl⟩,key,⟨none,0,[]⟩⟩
def risI (s:Nat):List Int:=(risingN s).map fun (n:Nat)=>(n:Int)
def filteredT (ts:List TableD) (q:QueryV) (t:TrD) (c:Nat):TrD:=if c=0 then t else growT ts q (filtK (risI c)) [t]
def sortedT (ts:List TableD) (q:QueryV) (t:TrD) (o:List Int):TrD:=growT ts q (sortK o) [t]
def withinTo (conc:List Nat) (s:Nat):Nat->Nat
 | 0 => 0
 | k+1 => if coversB s (conc.getD k 0)=true then withinTo conc s k|||2 ^ k else withinTo conc s k
def withinP (conc:List Nat) (s:Nat):Nat:=withinTo conc s conc.length
def betweenP (conc:List Nat) (a b:Nat):Nat:=withinP conc (a|||b) &&& (18446744073709551615-(withinP conc a|||withinP conc b))
def scannedT (ts:List TableD) (q:QueryV) (conc:List Nat) (s:Int):TrD:=
 let t:=growT ts q (scanK s) []
 filteredT ts q t (withinP conc t.d.sources)
def plainTo (ts:List TableD) (q:QueryV):Nat->TrD
 | 0 => growT ts q (scanK 0) []
 | k+1 => growT ts q (nodeK 3) [plainTo ts q k,growT ts q (scanK ((k+1:Nat):Int)) []]
def plainT (ts:List TableD) (q:QueryV):TrD:=
 let e:=growT ts q (nodeK (if q.group=true then 7 else 9)) [filteredT ts q (plainTo ts q (q.src.xs.length-1)) (2 ^ q.wh.length-1)]
 if 0<q.ord.xs.length then growT ts q (nodeK 10) [e] else e
def endOrderN (q:QueryV):List Int:=if q.group=true then q.keys.xs else if apartB (wantN q)=true then wantN q else []
def endKindN (q:QueryV) (o:List Int):Int:=if q.group=false then 9 else if startsB o q.keys.xs=true then 8 else 7
def endedT (ts:List TableD) (q:QueryV) (t:TrD):TrD:=
 let e:=growT ts q (nodeK (endKindN q t.d.order)) [t]
 if endsP q (endKindN q t.d.order) t.d.order=true then e else growT ts q (nodeK 10) [e]
def endingsT (ts:List TableD) (q:QueryV) (t:TrD):List TrD:=
 if 0<(endOrderN q).length then [endedT ts q t,endedT ts q (sortedT ts q t (endOrderN q))] else [endedT ts q t]
def cheaperT (b t:TrD):TrD:=if t.d.cost<b.d.cost then t else b
def cheapestT (b:TrD) (l:List TrD):TrD:=l.foldl cheaperT b
abbrev PlaceD:=List Int × Option (Nat × TrD)
def tagOf:List PlaceD->Nat
 | [] => 0
 | (_,none)::g => tagOf g
 | (_,some x)::g => max (x.1+1) (tagOf g)
def takesB (t:TrD) (p:PlaceD):Bool:=startsB t.d.order p.1&&(match p.2 with | none=>true | some x=>decide (t.d.cost<x.2.d.cost))
def putP (n:Nat) (t:TrD) (p:PlaceD):PlaceD:=if takesB t p=true then (p.1,some (n,t)) else p
def offer1 (g:List PlaceD) (t:TrD):List PlaceD:=g.map (putP (tagOf g) t)
def offerS (x:Bool × List PlaceD) (t:TrD):Bool × List PlaceD:=(x.1 || x.2.any (takesB t),offer1 x.2 t)
def offerN (g:List PlaceD) (l:List TrD):Bool × List PlaceD:=l.foldl offerS (false,g)
def headP (g:List PlaceD):Option TrD:=match g with | (_,some x)::_=>some x.2 | _=>none
def resortS (ts:List TableD) (q:QueryV) (g:List PlaceD) (o:List Int):List PlaceD:=offer1 g (sortedT ts q ((headP g).getD trz) o)
def improveN (ts:List TableD) (q:QueryV) (g:List PlaceD) (l:List TrD):Bool × List PlaceD:=
 if (offerN g l).1=true then (true,((g.map Prod.fst).drop 1).foldl (resortS ts q) (offerN g l).2) else (false,(offerN g l).2)
def pieceS (l:List (Nat × TrD)) (p:PlaceD):List (Nat × TrD):=
 match p.2 with
 | none => l
 | some x => if l.any (fun y => y.1==x.1)=true then l else l++[x]
def piecesN (g:List PlaceD):List (Nat × TrD):=g.foldl pieceS []
def mateS (col:Int) (m:Option TrD) (x:Nat × TrD):Option TrD:=
 if (startsB x.2.d.order [col]&&(match m with | none=>true | some y=>decide (x.2.d.cost<y.d.cost)))=true then some x.2 else m
def mateN (g:List PlaceD) (col:Int):Option TrD:=(piecesN g).foldl (mateS col) none
def joinS (ts:List TableD) (q:QueryV) (l r:TrD) (g:List PlaceD) (cl:List Int) (acc:List TrD) (key:Int):List TrD:=
 let k:=keyP ts q (joinK 4 cl key) l.d.sources r.d.sources
 if k.2.2=true then
  match mateN g k.2.1 with
  | none => acc++[growT ts q (joinK 4 cl key) [l,r]]
  | some m => if startsB l.d.order [k.1]=true then acc++[growT ts q (joinK 4 cl key) [l,r]]++[growT ts q (joinK 5 cl key) [l,m]] else acc++[growT ts q (joinK 4 cl key) [l,r]]
 else acc
def joinedT (ts:List TableD) (q:QueryV) (conc:List Nat) (l:TrD) (g:List PlaceD):List TrD:=
 let r:=(headP g).getD trz
 let cl:=risI (betweenP conc l.d.sources r.d.sources)
 cl.foldl (joinS ts q l r g cl) [growT ts q (joinK 3 cl 0) [l,r]]
def joinsT (ts:List TableD) (q:QueryV) (conc:List Nat) (a b:List PlaceD):List TrD:=(piecesN a).flatMap fun x=>joinedT ts q conc x.2 b
def addedN (ls:List (List Int)) (l:List Int):List (List Int):=if l∈ls then ls else ls++[l]
def NodeV.cells (n:NodeV):Array Value:=#[.int .i64 n.kind,.int .i64 n.l,.int .i64 n.r,.int .i64 n.source,n.cl.val,.int .i64 n.key,n.co.val]
def iz:IntsV:=⟨none,0,[]⟩
def RowsAt (w:World) (ao:Option Addr) (rs:List IntsV):Prop:=
 rs.length<=1152921504606846976/\CellsAt w ao rs.length (fun i=>(rs.getD i iz).val)/\∀ i,i<rs.length->(rs.getD i iz).At w
theorem RowsAt.below {w w':World} (hb:Below w.heap.size w w') {ao:Option Addr} {rs:List IntsV} (h:RowsAt w ao rs):RowsAt w' ao rs:=
 ⟨h.1,h.2.1.below hb,fun i hi=>IntsAt.below hb (h.2.2 i hi)⟩
structure RowsV where
 ad:Option Addr
 cap:Nat
 rs:List IntsV
def rz:RowsV:=⟨none,0,[]⟩
def RowsV.val (v:RowsV):Value:=.slice v.ad v.rs.length v.cap
def RowsV.At (v:RowsV) (w:World):Prop:=RowsAt w v.ad v.rs
def DbAt (w:World) (ao:Option Addr) (db:List RowsV):Prop:=
 db.length<=1152921504606846976/\CellsAt w ao db.length (fun i=>(db.getD i rz).val)/\∀ i,i<db.length->(db.getD i rz).At w
theorem DbAt.below {w w':World} (hb:Below w.heap.size w w') {ao:Option Addr} {db:List RowsV} (h:DbAt w ao db):DbAt w' ao db:=
 ⟨h.1,h.2.1.below hb,fun i hi=>RowsAt.below hb (h.2.2 i hi)⟩
end Go.Scout
