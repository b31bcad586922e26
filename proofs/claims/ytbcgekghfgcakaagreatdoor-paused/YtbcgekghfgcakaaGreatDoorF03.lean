import Derived.Test.YtbcgekghfgcakaaGreatDoorF01
import Derived.Test.YtbcgekghfgcakaaGreatDoorF02
set_option linter.all false
set_option maxRecDepth 100000
set_option maxHeartbeats 16000000
namespace Go.Proofs.Zz
open Go.RowKit Go.Shelf
theorem Ey (c:aj):c.vals.length=5:=rfl
theorem oP {w:World} {base:Nat} {e:TypeId} {v:Value} {cs:List aj} (h:w.ownsRow base e 5 v cs.length (cs.flatMap aj.vals)) (hl:cs.length<=100) :
  ∃ ad cap,v=.slice ad cs.length cap/\aR w ad cs/\∀ a,ad=some a->base<=a.block/\a.block<w.heap.size/\v.ownBlock=some a.block:=by
 rcases h.2 with⟨rfl,h0⟩ | ⟨g,cap,cur,rfl,hb,hh,hc,_,hcs,ht⟩
 ·have:=Qz h0;subst this;exact⟨none,0,rfl,⟨by simp,fun i hi=>absurd hi (by simp)⟩,fun a ha=>by cases ha⟩
 ·refine⟨some (aD g 0),cap,rfl,⟨by omega,fun i hi=>⟨g,0,rfl,?_⟩⟩,fun a ha=>by cases ha; exact⟨hb,(QI.1 hh).1,rfl⟩⟩;have hcell:∀ j,j<5->w.cell? (aD g (0+i*5+j))=((cs.getD i cz).vals)[j]?:=fun j hj=>by
   have h1:=DY aj.vals 5 Ey cz cs [] i j hi hj;rw[Xl] at h1;rw[<- h1,<- ht,ZH,Qr (by have:=hi; omega)];simp[World.cell?,hh]
  exact⟨hcell 0 (by omega),hcell 1 (by omega),hcell 2 (by omega),hcell 3 (by omega),hcell 4 (by omega)⟩
theorem qP {W:World} {base:Nat} {e:TypeId} {v:Value} {ls:List ay} (h:W.ownsRow base e 1 v ls.length (ls.map ay.val)) (hc:∀ x∈ls,aR W x.ad x.cs) (hl:ls.length<=100) :
  ∃ ad cap,v=.slice ad ls.length cap/\eF W ad ls:=by
 have hmem:∀ i,i<ls.length->ls.getD i lz∈ls:=fun i hi=>by simp[List.getD,hi]
 rcases h.2 with⟨rfl,h0⟩ | ⟨g,cap,cur,rfl,hb,hh,hc2,_,hcs,ht⟩
 ·have:=Qz h0;subst this;exact⟨none,0,rfl,by simp,fun i hi=>absurd hi (by simp),fun i hi=>absurd hi (by simp)⟩
 ·refine⟨some (aD g 0),cap,rfl,by omega,fun i hi=>⟨g,0,rfl,?_⟩,fun i hi=>hc _ (hmem i hi)⟩;have h2:(cur.toList.take (ls.length*1))[i]? = some (ls.getD i lz).val:=by
   rw[ht];simp[List.getD,hi]
  have h3:cur[i]? = some (ls.getD i lz).val:=by
   rw[ZH] at h2;split at h2
   ·simpa using h2
   ·cases h2
  simp only[World.cell?,hh]
  simpa using h3
theorem Tryz.Ai:(Tryz.prog.info? 73).map (fun i=>(i.zero,i.size,i.bytes))=some (some (.agg #[.bool false,.int .i64 0,.int .i64 0,.bool false,.int .i64 0]),5,40):=by kernel_rfl
theorem Tryz.ui:(Tryz.prog.info? 77).map (fun i=>(i.zero,i.size,i.bytes))=some (some (.agg #[.slice none 0 0]),1,24):=by kernel_rfl
def Ic (w:World) (d:Option Addr) (db:List cO):Prop:=KW w d db/\∀ i,i<db.length->gF w (db.getD i rz).ad (db.getD i rz).rs
theorem Kept.drewN {s:Nat->Prop} (W:World) (n:Nat):Kept s W (W.drewN n):=Q9 (below_drewN (Qp W.heap.size W) n) (fun _ hb _=>hb)
theorem GB.alloc (w:World) (c:Array Value) (t:TypeId):GB (w.alloc (.cells c t)) w.heap.size t c:=kG w _
theorem GB.keep {w w':World} {G:Nat} {t:TypeId} {c:Array Value} {s:Nat->Prop} (h:GB w G t c) (hk:Kept s w w') (hs:s G):GB w' G t c:=h.of (hk.block G h.lt hs)
theorem Kept.bL {s:Nat->Prop} {A B:World} (h:Kept s A B) {G i:Nat} (hG:A.heap.size<=G) (v:Value):Kept s A (B.setCell (aD G i) v):=
 ⟨h.os,h.tape,h.output,by have:=h.size; simp[World.setCell]; omega,fun k hk hs=>(Below.heap_setCell B _ _ k (by show k≠G; omega)).trans (h.block k hk hs)⟩
def ZK:=@Kept.drewN
def ZL:=@GB.keep
def yL (v:Int):Bool:=decide (v=1073741824) || (decide (-1000<=v)&&decide (v<=1000))
def D7 (xs:List Int) (n:Int):Bool:=decide ((xs.length:Int)=n)&&xs.all yL
def KX (rs:List ah) (n:Int):Bool:=rs.all fun r=>D7 r.xs n
def zy (d:cO) (t:af):Bool:=decide (d.rs.length<=50)&&KX d.rs t.aH
def J4 (ts:List af) (db:List cO):Bool:=(List.range db.length).all fun i=>zy (db.getD i rz) (ts.getD i tz)
def lS (src:List Int) (db:List cO):Nat:=src.foldl (fun n t=>n*max 1 (db.getD t.toNat rz).rs.length) 1
def N8 (ts:List af) (src:List Int) (db:List cO):Bool:=decide (db.length=ts.length)&&J4 ts db&&decide (lS src db<=20000)
theorem Gu {α:Type} {p:α->Bool} {l:List α} {d:α} {k:Nat} (hk:k<l.length) (h:p (l.getD k d)=false):l.all p=false:=by
 rw[List.all_eq_false];have e:l.getD k d=l[k]:=by simp[List.getD,hk]
 rw[e] at h;exact⟨l[k],Qj hk,by rw[h]; simp⟩
theorem CV {α:Type} {p:α->Bool} {l:List α} {d:α} {k:Nat} (hk:k<l.length) (hp:(l.take k).all p=true) (h:p (l.getD k d)=true):(l.take (k+1)).all p=true:=by
 have e:l.getD k d=l[k]:=by simp[List.getD,hk]
 rw[e] at h;rw[Qk hk,List.all_append,hp,List.all_cons,List.all_nil,h];rfl
theorem BH {p:Nat->Bool} {n k:Nat} (hk:k<n) (h:p k=false):(List.range n).all p=false:=by
 rw[List.all_eq_false];exact⟨k,by simpa using hk,by rw[h]; simp⟩
theorem zA {p:Nat->Bool} {k:Nat} (hp:(List.range k).all p=true) (h:p k=true):(List.range (k+1)).all p=true:=by
 rw[QR,List.all_append,hp,List.all_cons,List.all_nil,h];rfl
theorem zB {src:List Int} {db:List cO} {k:Nat} (hk:k<src.length):lS (src.take (k+1)) db=lS (src.take k) db*max 1 (db.getD src[k].toNat rz).rs.length:=by
 unfold lS;rw[Qk hk,QM];rfl
theorem N9 {ts:List af} {db:List cO} (h:J4 ts db=true) (i:Nat):(db.getD i rz).rs.length<=50:=by
 by_cases hi:i<db.length
 ·unfold J4 at h;rw[Qn] at h;have:=h i (by simpa using hi);unfold zy at this;simp only[Qm,Qx] at this;exact this.1
 ·have:db.getD i rz=rz:=by simp[List.getD,hi]
  rw[this];decide
theorem Un {src:List Int} {ts:List af} {db:List cO} (h:J4 ts db=true):lS src db<=50 ^ src.length:=by
 unfold lS;have hg:∀ (l:List Int) (n:Nat),l.foldl (fun n t=>n*max 1 (db.getD t.toNat rz).rs.length) n<=n*50 ^ l.length:=by
  intro l
  induction l with
  | nil => intro n; simp
  | cons a l ih =>
   intro n;refine Q4 (ih _) ?_;have h1:=N9 h a.toNat;have h2:max 1 (db.getD a.toNat rz).rs.length<=50:=by omega
   rw[Q5,Nat.pow_succ,Nat.mul_comm (50 ^ l.length) 50,<- Nat.mul_assoc];exact Nat.mul_le_mul_right _ (Nat.mul_le_mul_left _ h2)
 have:=hg src 1;omega
theorem Gv {src:List Int} {ts:List af} {db:List cO} (h:J4 ts db=true) (hs:src.length<=5):lS src db<=312500000:=by
 have h1:=Un (src:=src) h;have h2:(50:Nat) ^ src.length<=50 ^ 5:=QZ (by decide) hs;omega
theorem sK {src:List Int} {ts:List af} {db:List cO} (h:J4 ts db=true) (hs:src.length<=5) (k:Nat):lS (src.take k) db<=312500000:=
 Gv h (by rw[Q6]; omega)
section
variable {α β:Type} {lt:α->α->Bool} {lt':β->β->Bool} {f:α->β}
end
def xY (xs aH:List Int):List Int:=aH.map fun c=>xs.getD c.toNat 0
def Pg (s v:Int):Int:=if v=1073741824 then s else if s=1073741824 then v else s+v
def nM (ss row aH:List Int):List Int:=List.zipWith (fun s c=>Pg s (row.getD c.toNat 0)) ss aH
theorem lJ {ss row aH:List Int} (h:ss.length=aH.length):(nM ss row aH).length=aH.length:=by simp[nM,h]
structure Gr where
 key:List Int
 cnt:Nat
 ss:List Int
def ahl (row sc:List Int) (g:Gr):Gr:=⟨g.key,g.cnt+1,nM g.ss row sc⟩
def amA (key:List Int) (n:Nat):Gr:=⟨key,0,List.replicate n 1073741824⟩
def ahm (ks:List (List Int)) (key:List Int):Option Nat:=ks.findIdx? (fun k=>decide (k=key))
def stepG (kc sc:List Int) (gs:List Gr) (row:List Int):List Gr:=
 match ahm (gs.map Gr.key) (xY row kc) with
 | some i => gs.modify i (ahl row sc)
 | none => gs++[ahl row sc (amA (xY row kc) sc.length)]
def Gr.row (g:Gr):List Int:=g.key++[(g.cnt:Int)]++g.ss
def adn (db:List cO) (t:Int):List (List Int):=(db.getD t.toNat rz).rs.map (·.xs)
