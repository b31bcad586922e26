import Derived.Test.YtbcgekghfgcakaaGreatDoorF04
set_option linter.all false
set_option maxRecDepth 100000
set_option maxHeartbeats 16000000
namespace Go.Proofs.Zz
open Go.RowKit Go.Shelf
theorem Pp {α:Type} {l:List α} {d:α} {k:Nat} (hk:k<l.length):l.getD k d∈l:=by
 have e:l.getD k d=l[k]:=by simp[List.getD,hk]
 rw[e];exact Qj hk
def ZM:=@Pp
theorem wpList_append_run {P:Program} {w:World} {ops:Array Oper} {rest:List Oper} {o:Oper} {a:Act} {Q:Exit->Act->World->Prop} (hgd:o.guard=none) (s x:Operand) (t:TypeId)
  (ho:o.op=.call { callee:=.builtin .append,args:=#[s,x],argTypes:=#[t,t] }) (v u v':Value) (w':World) (hs:a.eval s=v) (hx:a.eval x=u)
  (hrun:(Builtin.append_ #[t,t] o.type #[v,u]).run P w=.ok v' w') (h:wpList P ops Q rest (a.put o.dst v') w'):wpList P ops Q (o::rest) a w:=by
 refine wpList_plain hgd fun K hK=>?_
 unfold Oper.wp execOp;simp only[ho,resolve,invoke,builtin,Sem.run_bind,Sem.run_pure,Result.andThen_ok,List.map_toArray,List.map_cons,List.map_nil,hs,hx,hrun];exact hK _ _ h
structure Listed (tI tE:TypeId) (base:Nat) (v:Value) (ys:List ah) (W:World):Prop where
 own:W.ownsRow base tI 1 v ys.length (ys.map ah.val)
 at':∀ y∈ys,(pM tE).At y W
theorem Listed.nil (tI tE:TypeId) (base:Nat) (W:World):Listed tI tE base (.slice none 0 0) [] W:=⟨ZE _ _ _ _,fun y hy=>by cases hy⟩
theorem Uu (W:World) (base:Nat) (v:Value) (xs:List Int) (hown:W.ownsRow base 3 1 v xs.length (xs.map (Value.int .i64))) (hl:xs.length<=1000000) (hb:base<=W.heap.size) (x:Int) (ty:TypeId) :
  ∃ v' w',(Builtin.append_ #[22,22] ty #[v,.slice (some (aD W.heap.size 0)) 1 1]).run Tryz.prog (W.alloc (.cells #[.int .i64 x] 3))=.ok v' w'/\
   w'.ownsRow base 3 1 v' (xs++[x]).length ((xs++[x]).map (Value.int .i64))/\Kept (fun b=>v.ownBlock≠some b) W w'/\(∃ a m c,v' = .slice a m c)/\(v'.ownBlock=v.ownBlock∨v'.ownBlock=some (W.heap.size+1)):=by
 obtain⟨i0,hi,hz0,hz1,hz2⟩:=ZC Tryz.iZ;obtain⟨v',w',hr,ho,hg,_,hat⟩:=ZO (P:=Tryz.prog) (W.alloc (.cells #[.int .i64 x] 3)) base 22 ty 3 i0 (.int .i64 0) 1 8 Tryz.underlying22 hi hz0 hz1 hz2 rfl (by decide) v xs.length (xs.map (Value.int .i64)) (hown.alloc _) (aD W.heap.size 0) 1 1 [.int .i64 x] rfl
  (ZP (cs:=#[.int .i64 x]) (t:=3) (fr:=(0,0)) (kG W _)) (fun u hu=>by rw[QY] at hu; rw[hu]; rfl) (by unfold maxLen; omega) (by omega) (by rw[Zd]; omega)
 refine⟨v',w',hr,by rw[QT,Ql]; exact ho,(Zc _ _).trans (Zw hg (fun r e hr=>hr e)),ZA ho,by rw[Zd] at hat; exact hat⟩
def ZN:=@wpList_append_run
theorem Ec {n:Nat} (h:n<=bR):IntKind.u64.wrap (n:Int)=n:=by
 unfold bR at h;rw[IntKind.wrap_u64];omega
theorem BI {xs:List Int} {k:Nat} {v:Int} (hk:k<xs.length):v∈xs.take (k+1)↔v∈xs.take k∨xs.getD k 0=v:=by
 rw[Qk hk,QX,QY];have e:xs.getD k 0=xs[k]:=by simp[List.getD,hk]
 rw[e];constructor
 ·rintro (h | h)
  ·exact .inl h
  ·exact .inr h.symm
 ·rintro (h | h)
  ·exact .inl h
  ·exact .inr h.symm
theorem Ed {xs ys:List Int} {k:Nat} (hx:k<xs.length) (hy:k<ys.length) (h:xs.take k=ys.take k) (e:xs.getD k 0=ys.getD k 0):xs.take (k+1)=ys.take (k+1):=by
 rw[Qk hx,Qk hy,h];have e1:xs.getD k 0=xs[k]:=by simp[List.getD,hx]
 have e2:ys.getD k 0=ys[k]:=by simp[List.getD,hy]
 rw[<- e1,<- e2,e]
theorem uU {ts:List af} (hc:fo ts=true) {i:Nat} (hi:i<ts.length):dC (ts.getD i tz)=true:=by
 cases h:dC (ts.getD i tz) with
 | true => rfl
 | false => rw[<- Ug hi h] at hc; cases hc
theorem uV {ts:List af} {src:List Int} (hc:fo ts=true) (ha:bG src ts.length=true) {c:Int} (h0:0<=c) (hl:c<aO ts src):1<=iQ ts src c/\iQ ts src c<=1000000:=by
 obtain⟨s1,s2,s3,s4⟩:=oz hc ha h0 hl;have hsn:=jm ts src (bD ts src c) s1;have hbd:=rJ hc ha (bD ts src c) (by omega);have hat:=lu ha s1;have hgd:src.getD (bD ts src c) 0=src[bD ts src c]:=by simp[List.getD,s1]
 rw[hgd] at s4;have ht:dC (ts.getD (src[bD ts src c]).toNat tz)=true:=uU hc (by omega);unfold dC at ht;rw[Qx] at ht;rw[s4];exact ht.2.2.2.2 _ (by omega)
theorem Uz {w:World} {base:Nat} {e:TypeId} {v:Value} {n:Nat} {xs:List Int} (h:w.ownsRow base e 1 v n (xs.map (Value.int .i64))) (hl:xs.length<=1152921504606846976):∃ ao cap,v=.slice ao xs.length cap/\au w ao xs:=by
 have hn:xs.length=n:=by have:=h.1; simpa using this
 rcases h.2 with⟨rfl,h0⟩ | ⟨g,cap,cur,rfl,_,hh,_,_,_,ht⟩
 ·have:xs=[]:=Qz (by omega);subst this;exact⟨none,0,rfl,⟨by simp,fun i hi=>absurd hi (by simp)⟩⟩
 ·refine⟨some (aD g 0),cap,by rw[<- hn],⟨hl,fun i hi=>⟨g,0,rfl,?_⟩⟩⟩;have h1:(cur.toList.take (n*1))[i]? = some (.int .i64 (xs.getD i 0)):=by
   rw[ht,QW];simp[List.getD,hi]
  rw[QJ (by omega)] at h1;rw[QE];simp only[World.cell?,hh]
  simpa using h1
theorem BJ {cs:List aj} {k:Nat} (hk:k<cs.length):bV (cs.take (k+1))=bV (cs.take k)++aK (cs.getD k cz):=by
 have e:cs.getD k cz=cs[k]:=by simp[List.getD,hk]
 rw[Qk hk,e];unfold bV;rw[QS];simp
theorem Ee (c:aj):(aK c).length<=2:=by
 unfold aK;split <;> simp
theorem own_below {w w':World} {base:Nat} {e:TypeId} {sz:Nat} {v:Value} {n:Nat} {xs:List Value} (h:w.ownsRow base e sz v n xs) (hb:Below w.heap.size w w'):w'.ownsRow base e sz v n xs:=uS h (Qq _) (fun j _ hj=>hb.block j hj)
def Z0:=@own_below
theorem lZ:∀ (l:List Nat) (m:Nat),m<=bR->l.foldl eU m<=bR
 | [],_,h => h
 | a::l,m,_ => lZ l _ (wW m a)
theorem UO {ts:List af} {src:List Int} (hc:fo ts=true) (ha:bG src ts.length=true) {cs:List aj} (kR:∀ c∈bV cs,0<=c/\c<aO ts src):1<=iF ts src cs/\iF ts src cs<=1000000:=by
 unfold iF;split
 ·omega
 rename_i h1
 split
 ·omega
 split
 ·omega
 rename_i o2
 have h0:cs.length=1:=by
  by_cases e:cs.length=1
  ·exact e
  ·exact absurd (.inl e) h1
 have hm:∀ x∈aK (cs.getD 0 cz),x∈bV cs:=by
  match cs,h0 with
  | [c],_ => intro x hx; simpa [bV] using hx
 have hl:=kR (cs.getD 0 cz).left (hm _ (by unfold aK; split <;> simp));have bl:=uV hc ha hl.1 hl.2;split
 ·omega
 ·rename_i hcn
  have hr:=kR (cs.getD 0 cz).right (hm _ (by unfold aK; rw[Qr ⟨o2,by simpa using hcn⟩]; simp));have br:=uV hc ha hr.1 hr.2;omega
