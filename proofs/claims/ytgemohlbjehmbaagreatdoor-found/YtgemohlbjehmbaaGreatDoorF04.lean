import Derived.Test.YtgemohlbjehmbaaGreatDoorF03
set_option linter.all false
set_option maxRecDepth 100000
set_option maxHeartbeats 16000000
namespace Go.Proofs.Zz
open Go.RowKit Go.Shelf
theorem Kept.drewN{s:Nat->Prop}(W:World)(n:Nat):Kept s W (W.drewN n):=Q7 (Zo (Qm W.heap.size W) n) (λ_ a _=>a)
theorem GB.alloc(w:World)(c:Array Value)(t:TypeId):GB (w.alloc (.cells c t)) w.heap.size t c:=qH w _
theorem GB.keep{w w':World}{G:Nat}{t:TypeId}{c:Array Value}{s:Nat->Prop}(h:GB w G t c)(hk:Kept s w w')(hs:s G):GB w' G t c:=h.of (hk.block G h.lt hs)
theorem Kept.dH{s:Nat->Prop}{A B:World}(h:Kept s A B){G i:Nat}(hG:A.heap.size<=G)(v:Value):Kept s A (B.setCell (aD G i) v):=
 ⟨h.os,h.tape,h.output,by have:=h.size; simp_all,λk a b=>(Below.heap_setCell B _ _ k (by grind)).trans (h.block k a b)⟩
def Zn:=@Kept.drewN
def Zp:=@GB.keep
def anC(v:Int):Bool:=decide (v=1073741824) || (decide (-1000<=v)&&decide (v<=1000))
def anD(xs:List Int)(n:Int):Bool:=decide ((xs.length:Int)=n)&&xs.all anC
def anE(rs:List ai)(n:Int):Bool:=rs.all λr=>anD r.xs n
def anF(d:jJ)(t:af):Bool:=decide (d.rs.length<=50)&&anE d.rs t.aX
def dbB(ts:List af)(db:List jJ):Bool:=(List.range db.length).all λi=>anF (db.getD i rz) (ts.getD i tz)
def abN(src:List Int)(db:List jJ):Nat:=src.foldl (λn t=>n*max 1 (db.getD t.toNat rz).rs.length) 1
def ahV(ts:List af)(src:List Int)(db:List jJ):Bool:=decide (db.length=ts.length)&&dbB ts db&&decide (abN src db<=20000)
section
variable {α β:Type} {lt:α->α->Bool} {lt':β->β->Bool} {f:α->β}
end
def ahW(xs aX:List Int):List Int:=aX.map λc=>xs.getD c.toNat 0
def atX(s v:Int):Int:=if v=1073741824 then s else if s=1073741824 then v else s+v
def anG(ss row aX:List Int):List Int:=List.zipWith (λs c=>atX s (row.getD c.toNat 0)) ss aX
structure Gr where
 key:List Int
 cnt:Nat
 ss:List Int
def anH(row sc:List Int)(g:Gr):Gr:=⟨g.key,g.cnt+1,anG g.ss row sc⟩
def atY(key:List Int)(n:Nat):Gr:=⟨key,0,List.replicate n 1073741824⟩
def xC(ks:List (List Int))(key:List Int):Option Nat:=ks.findIdx? (λk=>decide (k=key))
def stepG(kc sc:List Int)(gs:List Gr)(row:List Int):List Gr:=
 match xC (gs.map Gr.key) (ahW row kc) with
 | some i => gs.modify i (anH row sc)
 | none => gs++[anH row sc (atY (ahW row kc) sc.length)]
def Gr.row(g:Gr):List Int:=g.key++[(g.cnt:Int)]++g.ss
section
theorem kV.keep{A B:World}{ao:Option Addr}{rs:List ai}(h:kV A ao rs)(hs:A.heap.size<=B.heap.size)(h1:∀ a,ao=some a->B.heap[a.block]? = A.heap[a.block]?)(h2:∀ i,i<rs.length->∀ b,bU.blk (rs.getD i iz)=some b->B.heap[b]? = A.heap[b]?):kV B ao rs:=by have d:∀ i,i<rs.length->bU.At (rs.getD i iz) B:=λi e=>bU.keep (h.2.2 i e) hs (λb _ g=>h2 i e b g);exact⟨⟨h.1.1,h.1.2.1.keep (λa f _=>h1 a f),λi e=>(d i e).1⟩,λa f=>QH (h.2.1 a f) hs,d⟩
attribute [local go_sem] Oper.semAt_some
end
def anI(e:TypeId):El ai (List Int) where
 enc:=ai.val
 At x W:=bU.At x W/\W.ownsRow 0 e 1 x.val x.xs.length (x.xs.map (Value.int .i64))
 blk:=bU.blk
 key:=ai.xs
 keep:=by
  rintro x A B ⟨h,ho⟩ hs hb;refine⟨bU.keep h hs hb,ho.1,?_⟩;rcases ho.2 with h | ⟨g,cap,cur,hv,hb',hg,h1,h2,h3,h4⟩
  ·exact .inl h
  ·refine .inr ⟨g,cap,cur,hv,hb',(hb g (Zb.1 hg).1 ?_).trans hg,h1,h2,h3,h4⟩;have:x.ad=some (aD g 0):=by have h:=hv;unfold ai.val at h;injection h
   show Option.map _ x.ad=_;rw[this];rfl
 inn:=λh hb=>bU.inn h.1 hb
def ajz(E:El ai (List Int))(P:Program)(v:Value)(rows:List (List Int))(w:World):Prop:=
 ∃ g lb,v=.func (.func g) #[] lb/\(∀ args w,(callFunc g args).run P w=.ok (.enter g args) w)/\Seq E P g lb rows w
theorem ajz.later{E:El ai (List Int)}{P:Program}{v:Value}{rows:List (List Int)}{w w':World}(h:ajz E P v rows w)(hb:Bw w w'):ajz E P v rows w':=by obtain⟨g,a,hv,b,d⟩:=h;exact⟨g,a,hv,b,Seq.later E d hb⟩
