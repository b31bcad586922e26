import Derived.Test.YtgemohlbjehmbaaGreatDoorF40
import Derived.Test.YtgemohlbjehmbaaGreatDoorF41
set_option linter.all false
set_option maxRecDepth 100000
set_option maxHeartbeats 16000000
namespace Go.Proofs.Zz
open Go.RowKit Go.Shelf
theorem Uk(co:Option Addr)(cc0:Nat)(ts:List af)(dv:Value)(q:ae)(base:Nat->Prop)(v:Value)(ns:List ah)(n:ah)(kind s:Int)(first:Bool)(w:World)(hdv:∃ a m c,dv=.slice a m c)(H:AU co ts q w)(hcl:∀ i∈n.cl.xs,0<=i/\i<q.wh.length)(h:jm 75 base v ns w)(hl:ns.length<=800)(hb:∀ b,w.heap.size<=b->base b)(hn:lT base v n w)(hkd:0<=kind/\kind<3)(hpn:bL n=nd 3 n.l n.r 0 n.cl.xs 0 [])(hso:∀ i,i<q.wh.length->0<(q.wh.getD i lz).cs.length)
  (a b x y:Int) (hab:(a,b)=Uj ts q.src.xs ((q.wh.getD (eD q.wh n.cl.xs).toNat lz).cs.getD 0 cz) s) (hxy:(x,y)=if first=true then (a,b) else (b,a)) :
  Calls Tryz.prog 23 #[.agg (caseA (.slice co ts.length cc0) q dv),v,.agg n.cells,.int .i64 kind,.int .i64 s,.bool first] w λe w'=>∃ g,e=.returned g/\qR 75 base v ns (uE ns.length n.l n.r n.cl.xs (eD q.wh n.cl.xs) kind x y) w g w':=by
 unfold uE;by_cases d:eD q.wh n.cl.xs<0∨kind=0
 ·rw[Qo d,<- hpn];exact Uf _ dv q base v ns n kind s first w ⟨_,_,_,rfl⟩ hdv H.Je.wh hcl h (by omega) hn d
 rw[Qu d];by_cases j:kind=1
 ·subst j;have e:=OV (.slice co ts.length cc0) dv q base v ns n s first w ⟨_,_,_,rfl⟩ hdv H.Je.wh hcl h (by omega) hn (by omega)
  rw[hpn]at e;exact e
 ·obtain rfl:kind=2:=by omega
  have f:=hcl _ (Cn (wh:=q.wh) (cl:=n.cl.xs) (by omega)).1;have e:=Lj co cc0 ts dv q base v ns n s first w hdv H hcl h hl hb hn (eD q.wh n.cl.xs).toNat (QY f.1).symm (by omega) (hso _ (by omega)) a b hab;rw[hpn,QY f.1]at e;cases first <;> (cases hxy; exact e)
theorem Tryz.Vj:Tryz.prog.elem 22=3:=by kernel_rfl
theorem Tryz.AV:Tryz.prog.underlying 22=some (.slice (Tryz.prog.elem 22)):=by rw[Tryz.Vj]; exact Tryz.underlying22
theorem Tryz.OY(x:World):(sizeOf (Tryz.prog.elem 22)).run Tryz.prog x=.ok 1 x:=by obtain⟨f,b,d,a,e⟩:=Zv Tryz.nG;rw[Tryz.Vj];simp[sizeOf,typeInfo,b,a]
theorem ayw(rb rf n rc k:Nat)(hk:k<=rc)(x:World):(Instr.sliceAt 22 (.slice (some (aD rb rf)) n rc) none (some (.int .i64 (k:Int))) (some (.int .i64 (k:Int)))).run Tryz.prog x=.ok (.slice (some (aD rb rf)) k k) x:=by
 rw[run_sliceAt_slice x 22 _ _ _ _ Tryz.AV,run_slice_hm x 22 _ _ _ Tryz.AV _ _ _ _ (by omega) (by omega) (by omega),Tryz.OY];show Result.ok (sliced _ _ _ _ _) x=_;unfold sliced;by_cases c:k=0
 ·subst c; rfl
 ·simp[c,Qx]
theorem ayx(rb rf n rc k:Nat)(h1:k+1<=n)(h2:n<=rc):∃ A:Addr,(k+1<n->A=(aD rb (rf+(k+1))))/\∀ x,(Instr.sliceAt 22 (.slice (some (aD rb rf)) n rc) (some (.int .i64 ((k:Int)+1))) none none).run Tryz.prog x=.ok (.slice (some A) (n-(k+1)) (rc-(k+1))) x:=by
 have h:∀ x,(Instr.sliceAt 22 (.slice (some (aD rb rf)) n rc) (some (.int .i64 ((k:Int)+1))) none none).run Tryz.prog x=.ok (sliced (some (aD rb rf)) (k+1) n rc 1) x:=λx=>by rw[run_sliceAt_slice x 22 _ _ _ _ Tryz.AV,run_slice_l x 22 _ _ _ Tryz.AV _ _ (by omega) (by omega),Tryz.OY];rfl
 unfold sliced at h;by_cases c:rc=k+1
 ·exact⟨_,λe=>absurd e (by omega),λx=>by rw[h,Qo c]⟩
 ·exact⟨(aD rb (rf+(k+1))),λ_=>rfl,λx=>by rw[h,Qu c]; simp[Qx]⟩
theorem amt(W:World)(rb rf:Nat)(rx:List Int)(hx:aM W (some (aD rb rf)) rx)(hlt:rb<W.heap.size)(k:Nat)(hk:k<rx.length)(hl:rx.length<=5)(A:Addr)(c:Nat)(hA:k+1<rx.length->A=(aD rb (rf+(k+1)))) :
  ∃ (ra:Option Addr) (rc:Nat) (W':World),(Builtin.append_ #[22,22] 22 #[.slice (some (aD rb rf)) k k,.slice (some A) (rx.length-(k+1)) c]).run Tryz.prog W=.ok (.slice ra (rx.take k++rx.drop (k+1)).length rc) W'/\bU.At ⟨ra,rc,rx.take k++rx.drop (k+1)⟩ W'/\(rx.take k++rx.drop (k+1)).length<=rc/\Bw W W'/\∀ b,bU.blk ⟨ra,rc,rx.take k++rx.drop (k+1)⟩=some b->b=rb∨W.heap.size<=b:=by
 obtain⟨C,y,p,l,q⟩:=Zv Tryz.nG;have d:∀ j,j<rx.length->W.cell? (aD rb (rf+j))=some (.int .i64 (rx.getD j 0)):=λj f=>by obtain⟨b,D,e,E⟩:=hx.2 j f;cases e;exact E
 have o:(rx.take k++rx.drop (k+1)).length=k+(rx.length-(k+1)):=by simp; omega
 by_cases F:k+1<rx.length
 ·obtain rfl:=hA F;have u:=run_append_grow (P:=Tryz.prog) (w:=W) 22 22 3 C (.int .i64 0) Tryz.underlying22 y p (aD rb rf) k k ((rx.take k).map (Value.int .i64)) (by rw[l]; simp; omega) (λj v f=>by
    rw[ZL]at f;by_cases n:j<k
    ·rw[Qx,d j (by omega)]
     grind
    grind) (aD rb (rf+(k+1))) (rx.length-(k+1)) c ((rx.drop (k+1)).map (Value.int .i64)) (by rw[l]; simp) (λj v f=>by
    rw[ZL,List.getElem?_drop]at f;by_cases n:k+1+j<rx.length
    ·rw[Qx,Xv,d (k+1+j) n]
     grind
    grind) (by omega) (by omega) (by rw[q]; exact growslice_fits (by omega) (by omega))
  obtain⟨W',r,s,m⟩:=bn W.drew (((rx.take k).map (Value.int .i64)).toArray++((rx.drop (k+1)).map (Value.int .i64)).toArray++Builtin.zeroCells (Value.int .i64 0).cells (grownCap W (k+(rx.length-(k+1))) k 3-(k+(rx.length-(k+1))))) 3;rw[r]at u;have hd:=(Qm W.heap.size W).drew;have i:=hd.trans (s.mono hd.size);refine⟨_,_,_,by rw[o]; exact u,⟨⟨by rw[o]; omega,λj f=>⟨_,_,rfl,?_⟩⟩,λa t=>by cases t; exact m.lt,λe=>by cases e⟩,by rw[o]; exact grownCap_ge _ _ _ _,i,λb i=>.inr (by simp[bU]at i; omega)⟩;have h:=m.cell j;rw[QL];refine h.trans ?_;have z:j<k+(rx.length-(k+1)):=by rw[<- o]; exact f
  rw[XW (by simp; omega),List.append_toArray,<- Qi,XO,ZL,Xr f];grind
 ·have B:rx.length-(k+1)=0:=by omega
  have hd:rx.drop (k+1)=[]:=List.drop_eq_nil_of_le (by omega);rw[B,hd,Xb];have g:(rx.take k).length=k:=by simp; omega
  refine⟨some (aD rb rf),k,W,?_,⟨⟨by rw[g]; omega,λj f=>⟨rb,rf,rfl,?_⟩⟩,λa t=>by cases t; exact hlt,λe=>by cases e⟩,by rw[g]; exact Qn _,Qm _ _,λb i=>.inl (by simpa [bU] using i.symm)⟩
  ·rw[g];simp[Builtin.append_,run_underlying Tryz.underlying22,sizeOf,typeInfo,y,storeCells,Builtin.lenOf,Builtin.firstCells,loadCells,loadCellsFrom]
  grind
