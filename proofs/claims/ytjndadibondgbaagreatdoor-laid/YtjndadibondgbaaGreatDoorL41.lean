import Derived.Test.YtjndadibondgbaaGreatDoorL39
import Derived.Test.YtjndadibondgbaaGreatDoorL40
set_option linter.all false
set_option maxRecDepth 100000
set_option maxHeartbeats 16000000
namespace Go.Proofs.Zz
open Go.RowKit Go.Shelf
theorem Ta(co:Option Addr)(cc0:Nat)(ts:List af)(dv:Value)(q:ae)(base:Nat->Prop)(v:Value)(ns:List ah)(n:ah)(kind s:Int)(first:Bool)(w:World)(hdv:∃ a m c,dv=.slice a m c)(H:zg co ts q w)(hcl:∀ i∈n.cl.xs,0<=i/\i<q.wh.length)(h:fJ 36 base v ns w)(hl:ns.length<=800)(hb:∀ b,w.heap.size<=b->base b)(hn:kD base v n w)(hkd:0<=kind/\kind<3)(hpn:bU n=nd 3 n.l n.r 0 n.cl.xs 0 [])(hso:∀ i,i<q.wh.length->0<(q.wh.getD i lz).cs.length)
  (a b x y:Int) (hab:(a,b)=WU ts q.src.xs ((q.wh.getD (dZ q.wh n.cl.xs).toNat lz).cs.getD 0 cz) s) (hxy:(x,y)=if first=true then (a,b) else (b,a)) :
  Calls Tryz.prog 17 #[.agg (caseA (.slice co ts.length cc0) q dv),v,.agg n.cells,.int .i64 kind,.int .i64 s,.bool first] w fun e w'=>∃ g,e=.returned g/\mZ 36 base v ns (zt ns.length n.l n.r n.cl.xs (dZ q.wh n.cl.xs) kind x y) w g w':=by
 unfold zt;by_cases d:dZ q.wh n.cl.xs<0∨kind=0
 ·rw[Qu d,<- hpn];exact Sz _ dv q base v ns n kind s first w ⟨_,_,_,rfl⟩ hdv H.Iu.wh hcl h (by omega) hn d
 rw[Qv d];by_cases j:kind=1
 ·subst j;have e:=NN (.slice co ts.length cc0) dv q base v ns n s first w ⟨_,_,_,rfl⟩ hdv H.Iu.wh hcl h (by omega) hn (by omega)
  rw[hpn]at e;exact e
 ·obtain rfl:kind=2:=by omega
  have f:=hcl _ (IQ (wh:=q.wh) (cl:=n.cl.xs) (by omega)).1;have e:=KA co cc0 ts dv q base v ns n s first w hdv H hcl h hl hb hn (dZ q.wh n.cl.xs).toNat (Xj f.1).symm (by omega) (hso _ (by omega)) a b hab
  rw[hpn,Xj f.1]at e
  cases first <;> (cases hxy; exact e)
theorem Tryz.Vl:Tryz.prog.elem 22=3:=by kernel_rfl
theorem Tryz.zu:Tryz.prog.underlying 22=some (.slice (Tryz.prog.elem 22)):=by rw[Tryz.Vl]; exact Tryz.underlying22
theorem Tryz.NY(x:World):(sizeOf (Tryz.prog.elem 22)).run Tryz.prog x=.ok 1 x:=by
 obtain⟨f,b,d,a,e⟩:=Zy Tryz.kT;rw[Tryz.Vl];simp[sizeOf,typeInfo,b,a]
theorem ast(rb rf n rc k:Nat)(hk:k<=rc)(x:World):(Instr.sliceAt 22 (.slice (some (aD rb rf)) n rc) none (some (.int .i64 (k:Int))) (some (.int .i64 (k:Int)))).run Tryz.prog x=.ok (.slice (some (aD rb rf)) k k) x:=by
 rw[run_sliceAt_slice x 22 _ _ _ _ Tryz.zu,run_slice_hm x 22 _ _ _ Tryz.zu _ _ _ _ (by omega) (by omega) (by omega),Tryz.NY]
 show Result.ok (sliced _ _ _ _ _) x=_
 unfold sliced;by_cases c:k=0
 ·subst c; rfl
 ·simp[c,addr_add]
theorem asu(rb rf n rc k:Nat)(h1:k+1<=n)(h2:n<=rc):∃ A:Addr,(k+1<n->A=(aD rb (rf+(k+1))))/\∀ x,(Instr.sliceAt 22 (.slice (some (aD rb rf)) n rc) (some (.int .i64 ((k:Int)+1))) none none).run Tryz.prog x=.ok (.slice (some A) (n-(k+1)) (rc-(k+1))) x:=by
 have h:∀ x,(Instr.sliceAt 22 (.slice (some (aD rb rf)) n rc) (some (.int .i64 ((k:Int)+1))) none none).run Tryz.prog x=.ok (sliced (some (aD rb rf)) (k+1) n rc 1) x:=fun x=>by
  rw[run_sliceAt_slice x 22 _ _ _ _ Tryz.zu,run_slice_l x 22 _ _ _ Tryz.zu _ _ (by omega) (by omega),Tryz.NY];rfl
 unfold sliced at h;by_cases c:rc=k+1
 ·exact⟨_,fun e=>absurd e (by omega),fun x=>by rw[h,Qu c]⟩
 ·exact⟨(aD rb (rf+(k+1))),fun _=>rfl,fun x=>by rw[h,Qv c]; simp[addr_add]⟩
theorem aiK(W:World)(rb rf:Nat)(rx:List Int)(hx:aI W (some (aD rb rf)) rx)(hlt:rb<W.heap.size)(k:Nat)(hk:k<rx.length)(hl:rx.length<=5)(A:Addr)(c:Nat)(hA:k+1<rx.length->A=(aD rb (rf+(k+1)))) :
  ∃ (ra:Option Addr) (rc:Nat) (p:World),(Builtin.append_ #[22,22] 22 #[.slice (some (aD rb rf)) k k,.slice (some A) (rx.length-(k+1)) c]).run Tryz.prog W=.ok (.slice ra (rx.take k++rx.drop (k+1)).length rc) p/\ag.At ⟨ra,rc,rx.take k++rx.drop (k+1)⟩ p/\(rx.take k++rx.drop (k+1)).length<=rc/\Bw W p/\∀ b,ag.blk ⟨ra,rc,rx.take k++rx.drop (k+1)⟩=some b->b=rb∨W.heap.size<=b:=by
 obtain⟨D,z,q,m,r⟩:=Zy Tryz.kT;have f:∀ j,j<rx.length->W.cell? (aD rb (rf+j))=some (.int .i64 (rx.getD j 0)):=fun j d=>by
  obtain⟨b,off,e,E⟩:=hx.2 j d
  cases e
  exact E
 have o:(rx.take k++rx.drop (k+1)).length=k+(rx.length-(k+1)):=by simp; omega
 by_cases F:k+1<rx.length
 ·obtain rfl:=hA F;have y:=run_append_grow (P:=Tryz.prog) (w:=W) 22 22 3 D (.int .i64 0) Tryz.underlying22 z q (aD rb rf) k k ((rx.take k).map (Value.int .i64)) (by rw[m]; simp; omega) (fun j v d=>by
    rw[ZR]at d;by_cases i:j<k
    ·rw[addr_add,f j (by omega)];simp[ZW,i,List.getD,show j<rx.length by omega]at d ⊢;exact d
    ·rw[XA (by simp; omega)]at d; cases d) (aD rb (rf+(k+1))) (rx.length-(k+1)) c ((rx.drop (k+1)).map (Value.int .i64)) (by rw[m]; simp) (fun j v d=>by
    rw[ZR,List.getElem?_drop]at d;by_cases i:k+1+j<rx.length
    ·rw[addr_add,Nat.add_assoc,f (k+1+j) i];simp[List.getD,i]at d ⊢;exact d
    ·rw[XA (by omega)]at d; cases d) (by omega) (by omega) (by rw[r]; exact growslice_fits (by omega) (by omega))
  obtain⟨p,s,t,n⟩:=aR W.drew (((rx.take k).map (Value.int .i64)).toArray++((rx.drop (k+1)).map (Value.int .i64)).toArray++Builtin.zeroCells (Value.int .i64 0).cells (grownCap W (k+(rx.length-(k+1))) k 3-(k+(rx.length-(k+1))))) 3;rw[s]at y;have hd:=(Qr W.heap.size W).drew;have l:=hd.trans (t.mono hd.size);refine⟨_,_,_,by rw[o]; exact y,⟨⟨by rw[o]; omega,fun j d=>⟨_,_,rfl,?_⟩⟩,fun a u=>by cases u; exact n.lt,fun e=>by cases e⟩,by rw[o]; exact grownCap_ge _ _ _ _,l,fun b l=>.inr (by simp[ag]at l; omega)⟩;have h:=n.cell j;rw[QJ];refine h.trans ?_;have B:j<k+(rx.length-(k+1)):=by rw[<- o]; exact d
  rw[Array.getElem?_append_left (by simp; omega),Zc,<- Qn,ZK,ZR,ZT d];exact congrArg (fun x=>some (Value.int .i64 x)) (show _=(rx.take k++rx.drop (k+1)).getD j 0 by rw[Ja,ZT d]; rfl)
 ·have C:rx.length-(k+1)=0:=by omega
  have hd:rx.drop (k+1)=[]:=List.drop_eq_nil_of_le (by omega);rw[C,hd,XB];have g:(rx.take k).length=k:=by simp; omega
  refine⟨some (aD rb rf),k,W,?_,⟨⟨by rw[g]; omega,fun j d=>⟨rb,rf,rfl,?_⟩⟩,fun a u=>by cases u; exact hlt,fun e=>by cases e⟩,by rw[g]; exact Qs _,Qr _ _,fun b l=>.inl (by simpa [ag] using l.symm)⟩
  ·rw[g];simp[Builtin.append_,run_underlying Tryz.underlying22,sizeOf,typeInfo,z,storeCells,Builtin.lenOf,Builtin.firstCells,loadCells,loadCellsFrom]
  ·rw[g]at d;rw[f j (by omega)];simp[List.getD,ZW,d]
