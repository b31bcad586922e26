import Derived.Test.YtgemohlbjehmbaaGreatDoorF04
set_option linter.all false
set_option maxRecDepth 100000
set_option maxHeartbeats 16000000
namespace Go.Proofs.Zz
open Go.RowKit Go.Shelf
variable {k n:Nat} {src xs:List Int} {ts:List af} {cs:List aI}
theorem VT{α:Type}{l:List α}{d:α}{k:Nat}(hk:k<l.length):l.getD k d∈l:=by simp_all
def Zr:=@VT
theorem wpList_append_run{P:Program}{w:World}{ops:Array Oper}{rest:List Oper}{o:Oper}{a:Act}{Q:Exit->Act->World->Prop}(hgd:o.guard=none)(s x:Operand)(t:TypeId)
  (ho:o.op=.call { callee:=.builtin .append,args:=#[s,x],argTypes:=#[t,t] }) (v u v':Value) (w':World) (hs:a.eval s=v) (hx:a.eval x=u)
  (hrun:(Builtin.append_ #[t,t] o.type #[v,u]).run P w=.ok v' w') (h:wpList P ops Q rest (a.put o.dst v') w'):wpList P ops Q (o::rest) a w:=by refine wpList_plain hgd λK b=>?_;unfold Oper.wp execOp;simp only[ho,resolve,invoke,builtin,Sem.run_bind,Sem.run_pure,Result.andThen_ok,List.map_toArray,List.map_cons,List.map_nil,hs,hx,hrun];exact b _ _ h
structure Listed(tI tE:TypeId)(base:Nat)(v:Value)(ys:List ai)(W:World):Prop where
 own:W.ownsRow base tI 1 v ys.length (ys.map ai.val)
 at':∀ y∈ys,(anI tE).At y W
theorem Listed.nil(tI tE:TypeId)(base:Nat)(W:World):Listed tI tE base (.slice none 0 0) [] W:=⟨Zu _ _ _ _,λy hy=>by cases hy⟩
theorem Ee(W:World)(base:Nat)(v:Value)(xs:List Int)(hown:W.ownsRow base 3 1 v xs.length (xs.map (Value.int .i64)))(hl:xs.length<=1000000)(hb:base<=W.heap.size)(x:Int)(ty:TypeId) :
  ∃ d w',(Builtin.append_ #[22,22] ty #[v,.slice (some (aD W.heap.size 0)) 1 1]).run Tryz.prog (W.alloc (.cells #[.int .i64 x] 3))=.ok d w'/\
   w'.ownsRow base 3 1 d (xs++[x]).length ((xs++[x]).map (Value.int .i64))/\Kept (λb=>v.ownBlock≠some b) W w'/\(∃ a m c,d = .slice a m c)/\(d.ownBlock=v.ownBlock∨d.ownBlock=some (W.heap.size+1)):=by
 obtain⟨n,o,g,i,j⟩:=Zv Tryz.nG;obtain⟨d,w',k,p,q,_,f⟩:=Zw (P:=Tryz.prog) (W.alloc (.cells #[.int .i64 x] 3)) base 22 ty 3 n (.int .i64 0) 1 8 Tryz.underlying22 o g i j rfl (by decide) v xs.length (xs.map (Value.int .i64)) (hown.alloc _) (aD W.heap.size 0) 1 1 [.int .i64 x] rfl
  (Zx (cs:=#[.int .i64 x]) (t:=3) (fr:=(0,0)) (qH W _)) (λu l=>by rw[Zy]at l; rw[l]; rfl) (by unfold maxLen; omega) (by omega) (by rw[ZA]; omega)
 refine⟨d,w',k,by grind,(Q9 _ _).trans (Zg q (λr e k=>k e)),Zk p,by rw[ZA]at f; exact f⟩
def Zt:=@wpList_append_run
theorem JQ(h:n<=dA):IntKind.u64.wrap (n:Int)=n:=by unfold dA at h;rw[IntKind.wrap_u64];omega
theorem Gy{v:Int}(hk:k<xs.length):v∈xs.take (k+1)↔v∈xs.take k∨xs.getD k 0=v:=by rw[Qh hk,ZK,Zy];grind
theorem JR{ys:List Int}(hx:k<xs.length)(hy:k<ys.length)(h:xs.take k=ys.take k)(e:xs.getD k 0=ys.getD k 0):xs.take (k+1)=ys.take (k+1):=by rw[Qh hx,Qh hy,h];grind
theorem zw(hc:gH ts=true){i:Nat}(hi:i<ts.length):fB (ts.getD i tz)=true:=by
 cases h:fB (ts.getD i tz) with
 | true => rfl
 | false => rw[<- abr hi h]at hc; cases hc
theorem zy(hc:gH ts=true)(ha:di src ts.length=true){c:Int}(h0:0<=c)(hl:c<az ts src):1<=lK ts src c/\lK ts src c<=1000000:=by
 obtain⟨d,j,k,e⟩:=QS hc ha h0 hl;have f:=jH ts src (aA ts src c) d;have g:=mO hc ha (aA ts src c) (by omega);have i:=qG ha d;have a:src.getD (aA ts src c) 0=src[aA ts src c]:=by simp[List.getD,d]
 rw[a]at e;have b:fB (ts.getD (src[aA ts src c]).toNat tz)=true:=zw hc (by omega);unfold fB at b;rw[Qs]at b;rw[e];exact b.2.2.2.2 _ (by omega)
theorem abR{w:World}{base:Nat}{e:TypeId}{v:Value}(h:w.ownsRow base e 1 v n (xs.map (Value.int .i64)))(hl:xs.length<=1152921504606846976):∃ d cap,v=.slice d xs.length cap/\aM w d xs:=by
 have f:xs.length=n:=by have:=h.1; simpa using this
 rcases h.2 with⟨rfl,h0⟩ | ⟨g,cap,cur,rfl,_,hh,_,_,_,ht⟩
 ·have:xs=[]:=Zl (by omega);subst this;exact⟨none,0,rfl,⟨by simp,λi b=>absurd b (by simp)⟩⟩
 ·refine⟨some (aD g 0),cap,by rw[<- f],⟨hl,λi b=>⟨g,0,rfl,?_⟩⟩⟩;have a:(cur.toList.take (n*1))[i]? = some (.int .i64 (xs.getD i 0)):=by grind
  rw[List.getElem?_take_of_lt (by omega)]at a;rw[QL];simp only[World.cell?,hh];simpa using a
theorem Gz(hk:k<cs.length):aZ (cs.take (k+1))=aZ (cs.take k)++aJ (cs.getD k cz):=by
 have e:cs.getD k cz=cs[k]:=by simp[List.getD,hk]
 rw[Qh hk,e];unfold aZ;rw[QO];simp
theorem JS(c:aI):(aJ c).length<=2:=by unfold aJ;split <;> simp
theorem own_below{w w':World}{base:Nat}{e:TypeId}{sz:Nat}{v:Value}{n:Nat}{xs:List Value}(h:w.ownsRow base e sz v n xs)(hb:Bw w w'):w'.ownsRow base e sz v n xs:=zu h (Qn _) (λj _ a=>hb.block j a)
def ZM:=@own_below
theorem pM:∀ (l:List Nat) (m:Nat),m<=dA->l.foldl fU m<=dA
 | [],_,h => h
 | a::l,m,_ => pM l _ (Bj m a)
theorem abS(hc:gH ts=true)(ha:di src ts.length=true)(mF:∀ c∈aZ cs,0<=c/\c<az ts src):1<=kE ts src cs/\kE ts src cs<=1000000:=by
 unfold kE;split
 ·omega
 rename_i h1;split
 ·omega
 split
 ·omega
 rename_i o2;have e:cs.length=1:=by omega
 have a:∀ x∈aJ (cs.getD 0 cz),x∈aZ cs:=by
  match cs,e with
  | [c],_ => intro x f; simpa [aZ] using f
 have b:=mF (cs.getD 0 cz).left (a _ (by unfold aJ; split <;> simp));have g:=zy hc ha b.1 b.2;split
 ·omega
 ·rename_i hcn
  have d:=mF (cs.getD 0 cz).right (a _ (by unfold aJ; grind));have i:=zy hc ha d.1 d.2;omega
