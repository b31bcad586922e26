import Derived.Test.YtlpbelhfpoilpaaGreatDoorRE02
import Derived.Test.YtlpbelhfpoilpaaGreatDoorRE04
set_option linter.all false
set_option maxRecDepth 100000
set_option maxHeartbeats 16000000
namespace Go.Proofs.Zz
open Go.RowKit Go.Shelf
variable {s:Nat->Prop} {α:Type} {k:Nat} {p:Nat->Bool} {src:List Int} {db:List dF} {ts:List af}
theorem Kept.drewN{s:Nat->Prop}(W:World)(n:Nat):Kept s W (W.drewN n):=Zo (below_drewN (Qw W.heap.size W) n) (fun _ hb _=>hb)
theorem GB.alloc(w:World)(c:Array Value)(t:TypeId):GB (w.alloc (.cells c t)) w.heap.size t c:=l6 w _
theorem GB.keep{w w':World}{G:Nat}{t:TypeId}{c:Array Value}{s:Nat->Prop}(h:GB w G t c)(hk:Kept s w w')(hs:s G):GB w' G t c:=h.of (hk.block G h.lt hs)
theorem Kept.bW{A B:World}(h:Kept s A B){G i:Nat}(hG:A.heap.size<=G)(v:Value):Kept s A (B.setCell (aD G i) v):=
 ⟨h.os,h.tape,h.output,by have:=h.size; simp[World.setCell]; omega,fun k hk hs=>(Below.heap_setCell B _ _ k (by show k≠G; omega)).trans (h.block k hk hs)⟩
def Z5:=@Kept.drewN
def Z6:=@GB.keep
def Az(v:Int):Bool:=decide (v=1073741824) || (decide (-1000<=v)&&decide (v<=1000))
def Gj(xs:List Int)(n:Int):Bool:=decide ((xs.length:Int)=n)&&xs.all Az
def Nz(rs:List ah)(n:Int):Bool:=rs.all fun r=>Gj r.xs n
def Bv(d:dF)(t:af):Bool:=decide (d.rs.length<=50)&&Nz d.rs t.aO
def MJ(ts:List af)(db:List dF):Bool:=(List.range db.length).all fun i=>Bv (db.getD i rz) (ts.getD i tz)
def nK(src:List Int)(db:List dF):Nat:=src.foldl (fun n t=>n*max 1 (db.getD t.toNat rz).rs.length) 1
def RG(ts:List af)(src:List Int)(db:List dF):Bool:=decide (db.length=ts.length)&&MJ ts db&&decide (nK src db<=20000)
theorem JF{p:α->Bool}{l:List α}{d:α}(hk:k<l.length)(h:p (l.getD k d)=false):l.all p=false:=by
 rw[Qo];have e:l.getD k d=l[k]:=by simp[List.getD,hk]
 rw[e]at h;exact⟨l[k],Qp hk,by rw[h]; simp⟩
theorem Fb{p:α->Bool}{l:List α}{d:α}(hk:k<l.length)(hp:(l.take k).all p=true)(h:p (l.getD k d)=true):(l.take (k+1)).all p=true:=by
 have e:l.getD k d=l[k]:=by simp[List.getD,hk]
 rw[e]at h;rw[Qr hk,List.all_append,hp,List.all_cons,List.all_nil,h];rfl
theorem DU{n:Nat}(hk:k<n)(h:p k=false):(List.range n).all p=false:=by
 rw[Qo];exact⟨k,by simpa using hk,by rw[h]; simp⟩
theorem Bz(hp:(List.range k).all p=true)(h:p k=true):(List.range (k+1)).all p=true:=by
 rw[Q9,List.all_append,hp,List.all_cons,List.all_nil,h];rfl
theorem BA(hk:k<src.length):nK (src.take (k+1)) db=nK (src.take k) db*max 1 (db.getD src[k].toNat rz).rs.length:=by
 unfold nK;rw[Qr hk,QZ];rfl
theorem RH(h:MJ ts db=true)(i:Nat):(db.getD i rz).rs.length<=50:=by
 by_cases hi:i<db.length
 ·unfold MJ at h;rw[Qu]at h;have:=h i (by simpa using hi);unfold Bv at this;simp only[Qt,QJ]at this;exact this.1
 ·have:db.getD i rz=rz:=by simp[List.getD,hi]
  rw[this];decide
theorem WK(h:MJ ts db=true):nK src db<=50 ^ src.length:=by
 unfold nK;have hg:∀ (l:List Int) (n:Nat),l.foldl (fun n t=>n*max 1 (db.getD t.toNat rz).rs.length) n<=n*50 ^ l.length:=by
  intro l
  induction l with
  | nil => intro n; simp
  | cons a l ih =>
   intro n;refine Zl (ih _) ?_;have h1:=RH h a.toNat;have h2:max 1 (db.getD a.toNat rz).rs.length<=50:=by omega
   rw[Zg,Nat.pow_succ,Nat.mul_comm (50 ^ l.length) 50,<- Nat.mul_assoc];exact Nat.mul_le_mul_right _ (Nat.mul_le_mul_left _ h2)
 have:=hg src 1;omega
theorem JG(h:MJ ts db=true)(hs:src.length<=5):nK src db<=312500000:=by
 have h1:=WK (src:=src) h;have h2:(50:Nat) ^ src.length<=50 ^ 5:=Q7 (by decide) hs;omega
theorem uP(h:MJ ts db=true)(hs:src.length<=5)(k:Nat):nK (src.take k) db<=312500000:=
 JG h (by rw[Zm]; omega)
section
variable {α β:Type} {lt:α->α->Bool} {lt':β->β->Bool} {f:α->β}
end
def zX(xs aO:List Int):List Int:=aO.map fun c=>xs.getD c.toNat 0
def Td(s v:Int):Int:=if v=1073741824 then s else if s=1073741824 then v else s+v
def pR(ss row aO:List Int):List Int:=List.zipWith (fun s c=>Td s (row.getD c.toNat 0)) ss aO
theorem nD{ss row aO:List Int}(h:ss.length=aO.length):(pR ss row aO).length=aO.length:=by simp[pR,h]
structure Gr where
 key:List Int
 cnt:Nat
 ss:List Int
def aj9(row sc:List Int)(g:Gr):Gr:=⟨g.key,g.cnt+1,pR g.ss row sc⟩
def apS(key:List Int)(n:Nat):Gr:=⟨key,0,List.replicate n 1073741824⟩
def aka(ks:List (List Int))(key:List Int):Option Nat:=ks.findIdx? (fun k=>decide (k=key))
def stepG(kc sc:List Int)(gs:List Gr)(row:List Int):List Gr:=
 match aka (gs.map Gr.key) (zX row kc) with
 | some i => gs.modify i (aj9 row sc)
 | none => gs++[aj9 row sc (apS (zX row kc) sc.length)]
def Gr.row(g:Gr):List Int:=g.key++[(g.cnt:Int)]++g.ss
section
theorem iX.keep{A B:World}{ao:Option Addr}{rs:List ah}(h:iX A ao rs)(hs:A.heap.size<=B.heap.size)(h1:∀ a,ao=some a->B.heap[a.block]? = A.heap[a.block]?)(h2:∀ i,i<rs.length->∀ b,bK.blk (rs.getD i iz)=some b->B.heap[b]? = A.heap[b]?):iX B ao rs:=by
 have hat:∀ i,i<rs.length->bK.At (rs.getD i iz) B:=fun i hi=>bK.keep (h.2.2 i hi) hs (fun b _ hb=>h2 i hi b hb)
 exact⟨⟨h.1.1,h.1.2.1.keep (fun a ha _=>h1 a ha),fun i hi=>(hat i hi).1⟩,fun a ha=>Q6 (h.2.1 a ha) hs,hat⟩
attribute [local go_sem] Oper.semAt_some
end
def rF(e:TypeId):El ah (List Int) where
 enc:=ah.val
 At x W:=bK.At x W/\W.ownsRow 0 e 1 x.val x.xs.length (x.xs.map (Value.int .i64))
 blk:=bK.blk
 key:=ah.xs
 keep:=by
  rintro x A B ⟨h,ho⟩ hs hb;refine⟨bK.keep h hs hb,ho.1,?_⟩;rcases ho.2 with h | ⟨g,cap,cur,hv,hb',hg,h1,h2,h3,h4⟩
  ·exact .inl h
  ·refine .inr ⟨g,cap,cur,hv,hb',(hb g (QV.1 hg).1 ?_).trans hg,h1,h2,h3,h4⟩;have:x.ad=some (aD g 0):=by
    have h:=hv;unfold ah.val at h;injection h
   show Option.map _ x.ad=_
   rw[this];rfl
 inn:=fun h hb=>bK.inn h.1 hb
def iY(vals:List Int)(k:Nat):Array Value:=((vals.take k).map (Value.int .i64)++List.replicate (vals.length-k) (Value.int .i64 0)).toArray
theorem JL(vals:List Int)(hk:k<vals.length):(iY vals k).setIfInBounds k (.int .i64 (vals.getD k 0))=iY vals (k+1):=by
 unfold iY;rw[ZZ];congr 1;have h1:((vals.take k).map (Value.int .i64)).length=k:=by simp; omega
 have h2:vals.length-k=(vals.length-(k+1))+1:=by omega
 rw[Z0 _ _ (by omega),h1,Z4,h2,List.replicate_succ,Qf,<- tX vals 0 hk];simp
theorem JM(vals:List Int):iY vals vals.length=(vals.map (Value.int .i64)).toArray:=by simp[iY]
theorem Gl(vals:List Int):madeCells #[.int .i64 0] vals.length=iY vals 0:=by
 rw[uN];simp[iY]
theorem WQ(x c:ah)(w:World)(hx:x.At w)(hc:c.At w)(ha:bN c.xs x.xs.length=true)(hl:c.xs.length<=1000) :
  Calls Tryz.prog 285 #[x.val,c.val] w fun e w'=>e=.returned (.slice (some (aD w.heap.size 0)) c.xs.length c.xs.length)/\w' = w.alloc (.cells ((zX x.xs c.xs).map (Value.int .i64)).toArray 3):=by
 obtain⟨Bc,mW,xs⟩:=x;obtain⟨cad,NG,cs⟩:=c;unfold ah.val;simp only at ha hl;have hmk:=run_make_row' (P:=Tryz.prog) 23 3 (.int .i64 0) 8 Tryz.underlying23 Tryz.kV rfl .i64 .i64 cs.length (by omega) (by omega);have hvl:(zX xs cs).length=cs.length:=by simp[zX]
 have hm0:=Gl (zX xs cs);rw[hvl]at hm0;rw[hm0]at hmk;have HX:Hid _:=hx;have HC:Hid _:=hc;have HA:=Zh ha;have HV:=Zh hvl;have hxl:=hx.1;simp only at hxl;clear hx hc ha hm0;generalize hvv:zX xs cs=vals at *;have HVV:=Zh hvv;clear hvv;have apX:=HV.o;clear hvl;simp only;go_enter Tryz.func285,Tryz.ntmps285;go_wp2;go_loopw [13] (fun i wr=>∃ k:Nat,k<=cs.length/\i=.int .i64 k/\w.alloc (.cells (iY vals k) 3)=wr) (fun i _=>cs.length-(intOf i).toNat)
 case atStart=>exact⟨0,Q8 _,rfl,rfl⟩
 case round=>
  obtain⟨k,hk,rfl,rfl⟩:=hrel;by_cases hlt:k<cs.length
  ·obtain⟨cb,akf,rfl,hcc⟩:=HC.o.get hlt;have hck:=cB (dn w (.cells (iY vals k) 3)) (hcc k hlt);have hbd:=mV HA.o hlt;have hcv:cs.getD k 0=cs[k]:=by simp[List.getD,hlt]
   rw[hcv]at hck;have hvk:vals.getD k 0=xs.getD cs[k].toNat 0:=by
    rw[<- HVV.o];simp[zX,List.getD,hlt]
   have hkn:cs[k].toNat<xs.length:=by omega
   obtain⟨xb,afY,rfl,MK⟩:=HX.o.get hkn;have hxk:=cB (dn w (.cells (iY vals k) 3)) (MK _ hkn);rw[<- hvk]at hxk;have hst:=DL w (iY vals k) 3 k (.int .i64 (vals.getD k 0));rw[JL vals (by omega)]at hst;have hcn:((cs[k].toNat:Nat):Int)=cs[k]:=by omega
   have hcell:(w.alloc (.cells (iY vals k) 3)).cell? (aD w.heap.size k)=some (.int .i64 0):=by
    have:(iY vals k)[k]? = some (.int .i64 0):=by
     have h1:((vals.take k).map (Value.int .i64)).length=k:=by simp; omega
     unfold iY;rw[List.getElem?_toArray,QS (by omega),h1,Z4,List.getElem?_replicate,Qy (by omega)]
    simp[this]
   generalize vals.getD k 0=vk at *;generalize WR:cs[k]=ck at *;clear hcv hvk MK hcc WR;obtain⟨cn,rfl⟩:∃ cn:Nat,ck=(cn:Int):=⟨ck.toNat,by omega⟩
   simp only[Zj]at hkn hxk;clear hcn;go_wp2;go_roundw
   case rel=>exact⟨k+1,by omega,by go_num,by first | rfl | trivial | assumption⟩
   case measure=>simp[intOf]; omega
  ·have hkk:k=cs.length:=by omega
   subst hkk;have Tm:iY vals cs.length=(vals.map (Value.int .i64)).toArray:=by rw[<- apX]; exact JM vals
   rw[Tm];go_wp2;go_ret;exact⟨rfl,rfl⟩
def rO(E:El ah (List Int))(P:Program)(v:Value)(rows:List (List Int))(w:World):Prop:=
 ∃ g lb,v=.func (.func g) #[] lb/\(∀ args w,(callFunc g args).run P w=.ok (.enter g args) w)/\Seq E P g lb rows w
theorem rO.later{E:El ah (List Int)}{P:Program}{v:Value}{rows:List (List Int)}{w w':World}(h:rO E P v rows w)(hb:Bw w w'):rO E P v rows w':=by
 obtain⟨g,lb,hv,eg,hs⟩:=h;exact⟨g,lb,hv,eg,Seq.later E hs hb⟩
theorem Uc(t:dF)(w:World)(h:iX w t.ad t.rs) :
  Calls Tryz.prog 225 #[t.val] w fun e w'=>∃ v,e=.returned v/\rO bK Tryz.prog v (t.rs.map (·.xs)) w'/\Bw w w':=by
 obtain⟨ad,cap,rs⟩:=t;unfold dF.val;simp only at *;have hb:=dn w (.cells #[.slice ad rs.length cap] 47);have hs:rO bK Tryz.prog (.func (.func 289) #[] #[.pointer (some (aD w.heap.size 0))]) (rs.map (·.xs)) (w.alloc (.cells #[.slice ad rs.length cap] 47)):=
  ⟨_,_,rfl,enters_of Tryz.func289 (by kernel_rfl) rfl,WL w.heap.size ad cap rs _ (by simp) (by simp) (h.below hb)⟩
 have HS:Hid _:=hs;have HB:=Zh hb;go_enter Tryz.func225,Tryz.ntmps225;go_wp2;go_ret;exact⟨_,rfl,HS.o,HB.o⟩
theorem Kl(vi:Value)(gk:Nat)(lbk:Array Value)(rows:List (List Int))(p:List Int->Bool)(w:World)(hi:rO bK Tryz.prog vi rows w)(egk:∀ args w,(callFunc gk args).run Tryz.prog w=.ok (.enter gk args) w)
  (hkeep:∀ W x,Bw w W->ah.At x W->x.xs∈rows->Calls Tryz.prog gk (#[x.val]++lbk) W fun e W'=>e=.returned (.bool (p x.xs))/\Bw W W') :
  Calls Tryz.prog 151 #[vi,.func (.func gk) #[] lbk] w fun e w'=>∃ v,e=.returned v/\rO bK Tryz.prog v (rows.filter p) w'/\Bw w w':=by
 obtain⟨gi,AA,rfl,egi,hsi⟩:=hi;have hb1:=dn w (.cells #[.func (.func gi) #[] AA] 152);have hb2:=dn (w.alloc (.cells #[.func (.func gi) #[] AA] 152)) (.cells #[.func (.func gk) #[] lbk] 143);have hb:=hb1.trans (hb2.mono hb1.size);have hs:rO bK Tryz.prog (.func (.func 224) #[] #[.pointer (some (aD w.heap.size 0)),.pointer (some (aD (w.heap.size+1) 0))]) (rows.filter p) ((w.alloc (.cells #[.func (.func gi) #[] AA] 152)).alloc (.cells #[.func (.func gk) #[] lbk] 143)):=
  ⟨_,_,rfl,enters_of Tryz.func224 (by kernel_rfl) rfl,NB w.heap.size (w.heap.size+1) gi gk AA lbk rows p _ (by simp; omega) (by simp) (by simp) (by simp) (Seq.later _ hsi hb) egi egk (fun W x hW hx hm=>hkeep W x (hb.trans (hW.mono hb.size)) hx hm)⟩
 have HS:Hid _:=hs;have HB:=Zh hb;go_enter Tryz.func151,Tryz.ntmps151;go_wp2;go_ret;exact⟨_,rfl,HS.o,HB.o⟩
theorem Kept.ae8(w:World):Kept s w w.drew:=Zo ((Qw w.heap.size w).drew) (fun b hb _=>hb)
def SL(L:List ah)(R:List Value):Array Value:=(L.map ah.val++R).toArray
