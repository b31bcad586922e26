import Derived.Test.YtbcgekghfgcakaaGreatDoorF19
set_option linter.all false
set_option maxRecDepth 100000
set_option maxHeartbeats 16000000
namespace Go.Proofs.Zz
open Go.RowKit Go.Shelf
def EJ (A:Nat->Nat):Option (Nat × aW)->Value
 | none => .pointer none
 | some x => .pointer (some (aD (A x.1) 0))
def mG:ai:=([],none)
structure aX (T Tp:TypeId) (F:Nat->Prop) (w:World) (gb:Nat) (A:Nat->Nat) (os:List ah) (g:List ai):Prop where
 blk:∃ c,GB w gb Tp c/\∀ i,i<g.length->c[i*2]? = some (os.getD i dU).val/\c[i*2+1]? = some (EJ A (g.getD i mG).2)
 ord:∀ i,i<g.length->(os.getD i dU).xs=(g.getD i mG).1/\IntsIn F w (os.getD i dU)/\(os.getD i dU).xs.length<=1000
 tree:∀ p∈g,∀ x,p.2=some x->aC T F w (A x.1) x.2
 inj:∀ p∈g,∀ p'∈g,∀ x x',p.2=some x->p'.2=some x'->A x.1=A x'.1->x.1=x'.1
theorem aX.aT {T Tp:TypeId} {F:Nat->Prop} {w w':World} {gb:Nat} {A:Nat->Nat} {os:List ah} {g:List ai} (h:aX T Tp F w gb A os g) (hk:Kept (fun b=>F b∨b=gb) w w'):aX T Tp F w' gb A os g:=by
 obtain⟨c,hc,hi⟩:=h.blk;have hkF:=hk.mono fun b _ h=>.inl h
 exact⟨⟨c,hc.keep hk (.inr rfl),hi⟩,fun i hi=>⟨(h.ord i hi).1,(h.ord i hi).2.1.aT hkF,(h.ord i hi).2.2⟩,fun p hp x hx=>(h.tree p hp x hx).aT hkF,h.inj⟩
theorem aX.below {T Tp:TypeId} {F:Nat->Prop} {w w':World} {gb:Nat} {A:Nat->Nat} {os:List ah} {g:List ai} (h:aX T Tp F w gb A os g) (hb:Below w.heap.size w w'):aX T Tp F w' gb A os g:=h.aT (Q9 hb fun _ h _=>h)
theorem aX.mono {T Tp:TypeId} {F G:Nat->Prop} {w:World} {gb:Nat} {A:Nat->Nat} {os:List ah} {g:List ai} (h:aX T Tp F w gb A os g) (hs:∀ b,b<w.heap.size->F b->G b):aX T Tp G w gb A os g:=
 ⟨h.blk,fun i hi=>⟨(h.ord i hi).1,(h.ord i hi).2.1.mono hs,(h.ord i hi).2.2⟩,fun p hp x hx=>(h.tree p hp x hx).mono hs,h.inj⟩
theorem aX.cells {T Tp:TypeId} {F:Nat->Prop} {w:World} {gb:Nat} {A:Nat->Nat} {os:List ah} {g:List ai} (h:aX T Tp F w gb A os g) {i:Nat} (hi:i<g.length) :
  w.cell? (aD gb (i*2))=some (os.getD i dU).val/\w.cell? (aD gb (i*2+1))=some (EJ A (g.getD i mG).2):=by
 obtain⟨c,hc,hcc⟩:=h.blk;exact⟨(hc.cell _).trans (hcc i hi).1,(hc.cell _).trans (hcc i hi).2⟩
theorem kE {g:List ai} {i:Nat} (hi:i<g.length):g.getD i mG∈g:=by
 rw[Xq,ZG hi];exact Qj hi
theorem aC.blk {T:TypeId} {F:Nat->Prop} {w:World} {a:Nat} {t:aW} (h:aC T F w a t):∃ c,w.heap[a]? = some (.cells c T (0,0)):=by
 obtain⟨p,n,bo,bc,bs,hb,_⟩:=h.get;exact⟨_,hb.gb⟩
theorem gy {α β:Type} (f:β->α->β) (b:β) (l:List α) (d:α) {k:Nat} (hk:k<l.length):(l.take (k+1)).foldl f b=f ((l.take k).foldl f b) (l.getD k d):=by
 rw[XB l d hk,QM];rfl
theorem Tryz.Rw:(Tryz.prog.info? 120).map (fun i=>i.size)=some 14:=by kernel_rfl
theorem Tryz.infoTree:∃ j,Tryz.prog.info? 120=some j/\j.size≠0:=by
 have h:=Tryz.Rw
 cases hi:Tryz.prog.info? 120 with
 | none => rw[hi] at h; cases h
 | some j =>
  rw[hi] at h;injection h with h;have h:j.size=14:=h;exact⟨j,rfl,by rw[h]; decide⟩
theorem EK (ao:Option Addr) (cap:Nat) (xs:List Nat) (v:Nat) (w:World) (hx:cK w ao xs) (hv:∃ c t,w.heap[v]? = some (.cells c t (0,0))) (hxs:∀ x∈xs,∃ c t,w.heap[x]? = some (.cells c t (0,0))) :
  Calls Tryz.prog 257 #[.slice ao xs.length cap,.pointer (some (aD v 0))] w fun e w'=>∃ r:Int,e=.returned (.int .i64 r)/\Hid (0<=r↔v∈xs)/\w' = w:=by
 have hl:=hx.1;have yO:Hid (∀ x∈xs,(binOp .eql 100 (.pointer (some (aD v 0))) (.pointer (some (aD x 0)))).run Tryz.prog w=.ok (.bool (decide (v=x))) w):=fun x hm=>by
  obtain⟨j,hj,hj0⟩:=Tryz.infoTree;by_cases e:v=x
  ·subst e;rw[run_eql_ptr_same w (aD v 0) Tryz.underlying100 hj];simp
  ·obtain⟨cv,tv,hcv⟩:=hv;obtain⟨cx,tx,hcx⟩:=hxs x hm;rw[run_eql_ptr_other w Tryz.underlying100 hj hj0 (by intro h; injection h with h; exact e h) hcv hcx];simp[e]
 have HX:=Zh hx;clear hx hv hxs;go_enter Tryz.func257,Tryz.ntmps257;go_wp2;go_loop [8] (fun i=>∃ k:Nat,k<=xs.length/\i=.int .i64 k/\Hid (v ∉ xs.take k)) (fun i=>xs.length-(intOf i).toNat)
 case atStart=>exact⟨0,QQ _,rfl,by show _ ∉ _; simp⟩
 case round=>
  obtain⟨k,hk,rfl,HN⟩:=hrel;by_cases hlt:k<xs.length
  ·obtain⟨b,off,rfl,hc⟩:=cK.get HX.out hlt;have h1:=hc k hlt;have hm:xs.getD k 0∈xs:=ZM hlt;have HE:=yO.out _ hm;have HT:=Zh (XB xs 0 hlt);have HG:=Zh hm;obtain⟨x,hxe⟩:∃ x,x=xs.getD k 0:=⟨_,rfl⟩
   rw[<- hxe] at h1 HE HT HG;clear hc hm hxe;by_cases Rs:v=x
   ·have HV:=Zh Rs;rw[Qu Rs] at HE;clear Rs;go_wp2;go_ret;exact⟨k,rfl,⟨fun _=>by rw[HV.out]; exact HG.out,fun _=>by omega⟩,rfl⟩
   ·have HV:Hid _:=Rs;rw[Qh Rs] at HE;clear Rs;go_wp2;go_round
    case rel=>exact⟨k+1,by omega,by go_num,by
     show _ ∉ _
     rw[HT.out,QX,QY];rintro (h | h)
     ·exact HN.out h
     ·exact HV.out h⟩
    case measure=>simp[intOf]; omega
  ·have e:xs.length=k:=by omega
   have HN2:Hid (v ∉ xs):=by
    have:=HN.out;rw[<- e,Qt] at this;exact this
   go_wp2;go_ret;exact⟨-1,rfl,⟨fun h=>absurd h (by omega),fun h=>absurd h HN2.out⟩,rfl⟩
theorem yY (ao:Option Addr) (cap:Nat) (xs:List Nat) (v:Nat) (w:World) (hx:cK w ao xs) (hv:∃ c t,w.heap[v]? = some (.cells c t (0,0))) (hxs:∀ x∈xs,∃ c t,w.heap[x]? = some (.cells c t (0,0))) :
  Calls Tryz.prog 225 #[.slice ao xs.length cap,.pointer (some (aD v 0))] w fun e w'=>e=.returned (.bool (decide (v∈xs)))/\w' = w:=by
 have h:=EK ao cap xs v w hx hv hxs;clear hx hv hxs;go_enter Tryz.func225,Tryz.ntmps225;go_wp2_with fail;refine h.mono ?_;clear h;rintro e w2 ⟨r,rfl,HB,rfl⟩;go_wp2;go_ret;exact⟨Qd (by rw[Qw,Qx,Qx]; exact HB.out),rfl⟩
theorem oV {F:Nat->Prop} {w:World} {gb:Nat} {A:Nat->Nat} {os:List ah} {g:List ai} (h:aX 120 195 F w gb A os g) (h0:0<g.length) (gc:Nat) :
  Calls Tryz.prog 222 #[.slice (some (aD gb 0)) g.length gc] w fun e w'=>e=.returned (EJ A (g.getD 0 mG).2)/\w' = w:=by
 obtain⟨-,c1⟩:=h.cells h0;clear h;rw[QD,QE] at c1;generalize EJ A (g.getD 0 mG).2=pv at *;go_enter Tryz.func222,Tryz.ntmps222;go_wp2;go_ret;exact⟨rfl,rfl⟩
theorem Au {F:Nat->Prop} {W0 w:World} {f:aB} {ts:List af} {q:ae} (E:Env f ts q W0) (hz:Fz F W0 w) (a:Nat) (t:aW) (ht:aC 120 F w a t) (hto:iC q t) (o:ah) (ho:o.At w) (hof:mI F o.ad o.xs.length) (hon:o.ad=none->o.cap=0) (hoc:o.xs.length<=o.cap) (hol:o.xs.length<=1000) :
  Calls Tryz.prog 220 #[.agg (f.cells ts q),.pointer (some (aD a 0)),o.val] w (bF 120 F w (bW ts q t o.xs)):=by
 obtain⟨v0,v1,v2,v3,v4,v5,v6,v7,v8,v9,v10,v11,v12,dw,-⟩:=Z8 f ts q;have vz:Hid (∀ x b,Below w.heap.size w x->x.cell? (aD b 0)=some (.pointer (some (aD a 0)))->Calls Tryz.prog 113 #[.agg #[v0,v1,v2,v3,v4,v5,v6,v7,v8,v9,v10,v11,v12],.agg #[.int .i64 6,.int .i64 0,.int .i64 0,.int .i64 0,.slice none 0 0,.int .i64 0,o.val],.slice (some (aD b 0)) 1 1] x (bF 120 F x (bW ts q t o.xs))):=fun x b hx hc=>by
  rw[<- dw];exact qN E (hz.next hx) ⟨6,0,0,0,dU,0,o⟩ ⟨gI x,mI.nil _ _,fun _=>rfl,Qo hx ho,hof,hon,hoc,QQ _,hol⟩ a b t (ht.below hx) hto hc rfl (by decide:(2:Int)<=6) (by decide:(6:Int)<=10) (Xt _)
 rw[dw];generalize bW ts q t o.xs=R at *;obtain⟨oa,oc,ox⟩:=o;simp only[ah.val] at *;obtain⟨w1,hw1,hb1,hg1⟩:=bu w #[v0,v1,v2,v3,v4,v5,v6,v7,v8,v9,v10,v11,v12] 94;obtain⟨a0,a1,a2,a3,a4,a5,a6,a7,a8,a9,fI,fU,a12⟩:=hg1.k13;obtain⟨w2,hw2⟩:∃ x,w1.alloc (.cells #[.pointer (some (aD a 0))] 100)=x:=⟨_,rfl⟩
 have hb2:Below w.heap.size w w2:=aG hb1 (by rw[<- hw2]; exact bU _ _);have hGR:=vz.out w2 w1.heap.size hb2 (by rw[<- hw2]; simp);have HB2:=Zh hb2;go_enter Tryz.func220,Tryz.ntmps220;go_wp2_with fail;refine hGR.mono ?_;rintro e w3 ⟨r,rfl,hT,hr1,hr2,hb3⟩;have HP:Hid (bF 120 F w R (.returned (.pointer (some (aD r 0)))) w3):=⟨r,rfl,hT,Q4 HB2.out.size hr1,hr2,aG HB2.out hb3⟩
 go_wp2;go_ret;exact HP.out
theorem vG {F:Nat->Prop} {W0 w:World} {f:aB} {ts:List af} {q:ae} (E:Env f ts q W0) (hz:Fz F W0 w) (a:Nat) (t:aW) (ht:aC 120 F w a t) (hto:iC q t) (c:Nat) (hc:c<2 ^ q.wh.length) (hal:a<w.heap.size) :
  Calls Tryz.prog 114 #[.agg (f.cells ts q),.pointer (some (aD a 0)),.int .u64 (c:Int)] w fun e w'=>∃ r,e=.returned (.pointer (some (aD r 0)))/\aC 120 F w' r (bN ts q t c)/\(r=a∨w.heap.size<=r)/\r<w'.heap.size/\Below w.heap.size w w':=by
 by_cases hc0:c=0
 ·subst hc0;have HT:Hid (aC 120 F w a (bN ts q t 0)):=by
   unfold bN;rw[Qr rfl];exact ht
  generalize bN ts q t 0=R at *;obtain⟨v0,v1,v2,v3,v4,v5,v6,v7,v8,v9,v10,v11,v12,dw,-⟩:=Z8 f ts q;rw[dw];have Vi:=Zh hal;obtain⟨w1,hw1⟩:∃ x,w.alloc (.cells #[v0,v1,v2,v3,v4,v5,v6,v7,v8,v9,v10,v11,v12] 94)=x:=⟨_,rfl⟩
  have HB1:Hid (Below w.heap.size w w1):=by show Below _ _ _; rw[<- hw1]; exact bU _ _
  go_enter Tryz.func114,Tryz.ntmps114;go_wp2;go_ret;exact⟨a,rfl,HT.out.below HB1.out,.inl rfl,Q8 Vi.out HB1.out.size,HB1.out⟩
 have hR:bN ts q t c=aP ts q (Oh (ib c)) [t]:=by unfold bN; rw[Qs hc0]
 have hcb:(((c:Nat):Int)==0)=false:=by
  rw[Bool.eq_false_iff];intro h;exact hc0 (by have:=eq_of_beq h; omega)
 rw[hR];have aak:c<18446744073709551616:=Q8 hc (QZ (n:=2) (by omega) E.ok.lh);obtain⟨v0,v1,v2,v3,v4,v5,v6,v7,v8,v9,v10,v11,v12,dw,-⟩:=Z8 f ts q;have Ir:Hid (∀ x,Calls Tryz.prog 129 #[.int .u64 (c:Int)] x fun e w'=>∃ v,e=.returned v/\w'.ownsRow x.heap.size 3 1 v (ib c).length ((ib c).map (Value.int .i64))/\Below x.heap.size x w'):=fun x=>Af c aak x
 have Mk:Hid ((ib c).length<=64):=by
  show _<=_
  unfold ib bz;rw[QU];exact Q4 (List.length_filter_le _ _) (by simp)
 have vz:Hid (∀ x b (iv:ah),Below w.heap.size w x->(iv.xs=ib c/\iv.At x/\mI F iv.ad iv.xs.length/\(iv.ad=none->iv.cap=0))->x.cell? (aD b 0)=some (.pointer (some (aD a 0)))->Calls Tryz.prog 113 #[.agg #[v0,v1,v2,v3,v4,v5,v6,v7,v8,v9,v10,v11,v12],.agg #[.int .i64 2,.int .i64 0,.int .i64 0,.int .i64 0,iv.val,.int .i64 0,.slice none 0 0],.slice (some (aD b 0)) 1 1] x (bF 120 F x (aP ts q (Oh (ib c)) [t]))):=fun x b iv hx hi hcell=>by
  rw[<- dw,<- hi.1];exact qN E (hz.next hx) ⟨2,0,0,0,iv,0,dU⟩ ⟨hi.2.1,hi.2.2.1,hi.2.2.2,gI x,mI.nil _ _,fun _=>rfl,Qq _,(by rw[hi.1]; have:=Mk.out; omega),QQ _⟩ a b t (ht.below hx) hto hcell rfl (by decide:(2:Int)<=2) (by decide:(2:Int)<=10) (by rw[hi.1]; exact oJ hc)
 have vE:=Zh hz.high;rw[dw];generalize aP ts q (Oh (ib c)) [t]=R at *;generalize ib c=L at *;obtain⟨w1,hw1,hb1,hg1⟩:=bu w #[v0,v1,v2,v3,v4,v5,v6,v7,v8,v9,v10,v11,v12] 94;obtain⟨a0,a1,a2,a3,a4,a5,a6,a7,a8,a9,fI,fU,a12⟩:=hg1.k13;have HB1:=Zh hb1;go_enter Tryz.func114,Tryz.ntmps114;go_wp2_with fail;refine wH w1 fun hS=>?_
 refine wT 0 (.agg #[v0,v1,v2,v3,v4,v5,v6,v7,v8,v9,v10,v11,v12]) hS (fun x hx=>?_) ?_
 ·have e0:=qd hx a0 a1 a2 a3 a4 a5 a6 a7 a8 a9 fI fU a12;go_simp
 refine wt 1 (.int .u64 (c:Int)) hS ?_;refine wt 4 (.pointer (some (aD a 0))) hS ?_;refine wJ 2 5 (fun K hK=>?_) fun K hK=>?_
 ·skip;go_simp;refine Z7 (Ir.out _) ?_;rintro e w4 ⟨v,rfl,hv,hb⟩;obtain⟨iv,oh,hxs,hat,hnew⟩:=fO hv (by have:=Mk.out; omega);obtain⟨la,lc,lx⟩:=iv;simp only[ah.val] at oh hxs hat hnew;subst hxs;subst oh;have hS4:=hS.trans (hb.mono hS.size);have Vj:mI F la lx.length:=fun _ a' e=>vE.out _ (Q4 HB1.out.size (Q4 hS.size (hnew.1 a' e)))
  refine hK.out _ _ hS4 fun hS=>?_
  refine wt 3 (.agg #[.int .i64 2,.int .i64 0,.int .i64 0,.int .i64 0,.slice la lx.length lc,.int .i64 0,.slice none 0 0]) hS ?_;refine wR 5 fun K hK=>?_
  go_simp;refine oA hK hS fun hS=>?_
  have hba:=bU w4 (.cells #[.pointer (some (aD a 0))] 100);have hSx:=hS.size;refine wR 6 fun K hK=>?_
  go_simp;refine Z7 (vz.out _ _ ⟨la,lc,lx⟩ (aG HB1.out hS) ⟨rfl,Qo hba hat,Vj,hnew.2.1⟩ (by simp)) ?_;rintro e w5 ⟨r,rfl,hT,hr1,hr2,hb5⟩;refine oT hK hS hb5 fun hS=>?_
  refine wR 7 fun K hK=>?_
  go_simp;refine hK.out _ _ hS fun hS=>?_
  refine wD ?_
  try simp only[pV]
  have HP:Hid (∃ r',Ending.returned (.pointer (some (aD r 0)))=.returned (.pointer (some (aD r' 0)))/\aC 120 F w5 r' R/\(r' = a∨w.heap.size<=r')/\r'<w5.heap.size/\Below w.heap.size w w5):=⟨r,rfl,hT,.inr (Q4 HB1.out.size (Q4 hSx hr1)),hr2,aG HB1.out hS⟩
  go_wp2;go_ret;exact HP.out
 ·skip;go_simp;refine oA hK hS fun hS=>?_
  refine wR 2 fun K hK=>?_
  go_simp;refine Z7 (Ir.out _) ?_;rintro e w4 ⟨v,rfl,hv,hb⟩;obtain⟨iv,oh,hxs,hat,hnew⟩:=fO hv (by have:=Mk.out; omega);obtain⟨la,lc,lx⟩:=iv;simp only[ah.val] at oh hxs hat hnew;subst hxs;subst oh;have hS4:=hS.trans (hb.mono hS.size);have Vj:mI F la lx.length:=fun _ a' e=>vE.out _ (Q4 HB1.out.size (Q4 hS.size (hnew.1 a' e)))
  have hcl:=cB hb (show _=some (Value.pointer (some (aD a 0))) from (LX (kG _ (.cells #[.pointer (some (aD a 0))] 100))));refine hK.out _ _ hS4 fun hS=>?_
  have hba:=Qp w4.heap.size w4;have hSx:=hS.size;refine wt 3 (.agg #[.int .i64 2,.int .i64 0,.int .i64 0,.int .i64 0,.slice la lx.length lc,.int .i64 0,.slice none 0 0]) hS ?_;refine wR 6 fun K hK=>?_
  go_simp;refine Z7 (vz.out _ _ ⟨la,lc,lx⟩ (aG HB1.out hS) ⟨rfl,Qo hba hat,Vj,hnew.2.1⟩ (hcl)) ?_;rintro e w5 ⟨r,rfl,hT,hr1,hr2,hb5⟩;refine oT hK hS hb5 fun hS=>?_
  refine wR 7 fun K hK=>?_
  go_simp;refine hK.out _ _ hS fun hS=>?_
  refine wD ?_
  try simp only[pV]
  have HP:Hid (∃ r',Ending.returned (.pointer (some (aD r 0)))=.returned (.pointer (some (aD r' 0)))/\aC 120 F w5 r' R/\(r' = a∨w.heap.size<=r')/\r'<w5.heap.size/\Below w.heap.size w w5):=⟨r,rfl,hT,.inr (Q4 HB1.out.size (Q4 hSx hr1)),hr2,aG HB1.out hS⟩
  go_wp2;go_ret;exact HP.out
theorem Jc {F:Nat->Prop} {W0 w:World} {f:aB} {ts:List af} {q:ae} (E:Env f ts q W0) (hz:Fz F W0 w) (s:Int) (h0:0<=s) (h1:s<q.src.xs.length) :
  Calls Tryz.prog 128 #[.agg (f.cells ts q),.int .i64 s] w (bF 120 F w (dZ ts q (aA ts q) s)):=by
 obtain⟨v0,v1,v2,v3,v4,v5,v6,v7,v8,v9,v10,v11,v12,dw,-⟩:=Z8 f ts q;obtain⟨T0,hT0⟩:∃ t,t=aP ts q (lX s) []:=⟨_,rfl⟩
 have hok:iC q T0:=by rw[hT0]; exact jN ts q _ _ ⟨(by decide:(1:Int)<=1),(by decide:(1:Int)<=10)⟩ (fun _=>⟨h0,h1⟩) (Xt _) (fun b hb=>by cases hb)
 have aaj:T0.d.sources<18446744073709551616:=Q8 hok.src (QZ (n:=2) (by omega) E.ok.small);have vz:Hid (∀ x,Below w.heap.size w x->Calls Tryz.prog 113 #[.agg #[v0,v1,v2,v3,v4,v5,v6,v7,v8,v9,v10,v11,v12],.agg #[.int .i64 1,.int .i64 0,.int .i64 0,.int .i64 s,.slice none 0 0,.int .i64 0,.slice none 0 0],.slice none 0 0] x (bF 120 F x T0)):=fun x hx=>by
  rw[<- dw,hT0];exact Di E (hz.next hx) s h0 h1
 have HWI:Hid (∀ x,Below w.heap.size w x->Calls Tryz.prog 183 #[.agg #[v0,v1,v2,v3,v4,v5,v6,v7,v8,v9,v10,v11,v12],.int .u64 (T0.d.sources:Int)] x fun e w'=>e=.returned (.int .u64 ((dh (aA ts q) T0.d.sources:Nat):Int))/\Below x.heap.size x w'):=fun x hx=>by
  rw[<- dw];exact yA f ts q _ x E.ok ((E.at' hz).below hx) aaj
 have HFI:Hid (∀ x r,Below w.heap.size w x->aC 120 F x r T0->r<x.heap.size->Calls Tryz.prog 114 #[.agg #[v0,v1,v2,v3,v4,v5,v6,v7,v8,v9,v10,v11,v12],.pointer (some (aD r 0)),.int .u64 ((dh (aA ts q) T0.d.sources:Nat):Int)] x fun e w'=>∃ r',e=.returned (.pointer (some (aD r' 0)))/\aC 120 F w' r' (bN ts q T0 (dh (aA ts q) T0.d.sources))/\(r' = r∨x.heap.size<=r')/\r'<w'.heap.size/\Below x.heap.size x w'):=fun x r hx hr hl=>by
  rw[<- dw];exact vG E (hz.next hx) r T0 hr hok _ (by have:=jy (aA ts q) T0.d.sources (aA ts q).length; rw[ZQ] at this; unfold dh; rw[ZQ]; exact this) hl
 have hR:dZ ts q (aA ts q) s=bN ts q T0 (dh (aA ts q) T0.d.sources):=by rw[hT0]; rfl
 rw[hR,dw];generalize bN ts q T0 (dh (aA ts q) T0.d.sources)=R at *;generalize dh (aA ts q) T0.d.sources=wi at *;obtain⟨w1,hw1,hb1,hg1⟩:=bu w #[v0,v1,v2,v3,v4,v5,v6,v7,v8,v9,v10,v11,v12] 94;obtain⟨a0,a1,a2,a3,a4,a5,a6,a7,a8,a9,fI,fU,a12⟩:=hg1.k13;have HB1:=Zh hb1;have hGR:=vz.out w1 hb1;go_enter Tryz.func128,Tryz.ntmps128;go_wp2_with fail;refine hGR.mono ?_;rintro e w2 ⟨r,rfl,hT,hr1,hr2,hb2⟩;have b0:=cB hb2 a0;have b1:=cB hb2 a1;have b2:=cB hb2 a2;have b3:=cB hb2 a3;have b4:=cB hb2 a4;have b5:=cB hb2 a5;have b6:=cB hb2 a6;have b7:=cB hb2 a7;have b8:=cB hb2 a8;have b9:=cB hb2 a9;have b10:=cB hb2 fI;have b11:=cB hb2 fU;have b12:=cB hb2 a12;obtain⟨p,hP,yU⟩:=hT.jP;have p1:w2.cell? (aD r 1)=some (.int .u64 (T0.d.sources:Int)):=by
  have:=hP.c1;have e:p.sources=T0.d.sources:=congrArg iG.sources yU;rw[e] at this;exact this
 have HT:=Zh hT;have HR1:=Zh hr1;have HR2:=Zh hr2;have HB2:=Zh (aG HB1.out hb2);generalize T0.d.sources=sr at *;go_wp2_with fail;refine wH w2 fun hS=>?_
 refine wT 0 (.agg #[v0,v1,v2,v3,v4,v5,v6,v7,v8,v9,v10,v11,v12]) hS (fun x hx=>?_) ?_
 ·have e0:=qd hx b0 b1 b2 b3 b4 b5 b6 b7 b8 b9 b10 b11 b12;go_simp
 refine wt 1 (.pointer (some (aD r 0))) hS ?_;refine wT 2 (.agg #[v0,v1,v2,v3,v4,v5,v6,v7,v8,v9,v10,v11,v12]) hS (fun x hx=>?_) ?_
 ·have e0:=qd hx b0 b1 b2 b3 b4 b5 b6 b7 b8 b9 b10 b11 b12;go_simp
 refine wt 3 (.pointer (some (aD r 0))) hS ?_;refine wt 4 (.pointer (some (aD r 0))) hS ?_;refine wt 5 (.pointer (some (aD r 0))) hS ?_;refine wt 6 (.pointer (some (aD r 1))) hS ?_;refine iB 7 (.int .u64 (sr:Int)) hS p1 ?_;refine wR 8 fun K hK=>?_
 go_simp;refine Z7 (HWI.out _ (aG HB2.out hS)) ?_;rintro e w3 ⟨rfl,hb⟩;refine oT hK hS hb fun hS=>?_
 refine wR 9 fun K hK=>?_
 go_simp;refine Z7 (HFI.out _ r (aG HB2.out hS) (HT.out.below hS) (Q8 HR2.out hS.size)) ?_;rintro e w4 ⟨r',rfl,hT',hr',hl',hb⟩;have hsz:=hS.size;refine oT hK hS hb fun hS=>?_
 refine wR 10 fun K hK=>?_
 go_simp;refine hK.out _ _ hS fun hS=>?_
 refine wD ?_
 try simp only[pU]
 have hRR:w.heap.size<=r':=by
  rcases hr' with h | h
  ·rw[h]; exact Q4 HB1.out.size HR1.out
  ·exact Q4 HB2.out.size (Q4 hsz h)
 have HP:Hid (bF 120 F w R (.returned (.pointer (some (aD r' 0)))) w4):=⟨r',rfl,hT',hRR,hl',aG HB2.out hS⟩
 go_wp2;go_ret;exact HP.out
theorem Sb {F:Nat->Prop} {W0 w:World} {f:aB} {ts:List af} {q:ae} (E:Env f ts q W0) (hz:Fz F W0 w) (a:Nat) (t:aW) (ht:aC 120 F w a t) (hto:iC q t) :
  Calls Tryz.prog 219 #[.agg (f.cells ts q),.pointer (some (aD a 0))] w (bF 120 F w (gH ts q t)):=by
 obtain⟨v0,v1,v2,v3,v4,v5,v6,v7,v8,v9,v10,v11,v12,dw,hv0,hv1,hv2,hv3,hv4,hv5,hv6,-⟩:=Z8 f ts q;have sV:q.cells=#[v0,v1,v2,v3,v4,v5,v6]:=by rw[hv0,hv1,hv2,hv3,hv4,hv5,hv6]; rfl
 clear hv0 hv1 hv2 hv3 hv4 hv5 hv6;obtain⟨K,hK⟩:∃ k,dI q t.d.order=k:=⟨_,rfl⟩
 have hKb:=Az q t.d.order;rw[hK] at hKb;obtain⟨T1,hT1⟩:∃ u,aP ts q (jw K) [t]=u:=⟨_,rfl⟩
 have hok1:iC q T1:=by rw[<- hT1]; exact AA ts (by omega) (by omega) hto
 obtain⟨T2,zq⟩:∃ u,aP ts q (jw 10) [T1]=u:=⟨_,rfl⟩
 have hR:gH ts q t=if qp q K t.d.order=true then T1 else T2:=by unfold gH; simp only; rw[hK,hT1,zq]
 obtain⟨R,hRR⟩:∃ R,R=gH ts q t:=⟨_,rfl⟩
 rw[<- hRR];have HRR:Hid (R=if qp q K t.d.order=true then T1 else T2):=by rw[<- hR]; exact hRR
 clear hRR;obtain⟨p,hP,yU⟩:=ht.jP;have hpo:p.order.xs=t.d.order:=congrArg iG.order yU;have pR:Hid (∀ x b,Below w.heap.size w x->x.cell? (aD b 0)=some (.pointer (some (aD a 0)))->Calls Tryz.prog 113 #[.agg #[v0,v1,v2,v3,v4,v5,v6,v7,v8,v9,v10,v11,v12],.agg #[.int .i64 K,.int .i64 0,.int .i64 0,.int .i64 0,.slice none 0 0,.int .i64 0,.slice none 0 0],.slice (some (aD b 0)) 1 1] x (bF 120 F x T1)):=fun x b hx hc=>by
  rw[<- dw,<- hT1];exact qN E (hz.next hx) ⟨K,0,0,0,dU,0,dU⟩ ⟨gI x,mI.nil _ _,fun _=>rfl,gI x,mI.nil _ _,fun _=>rfl,Qq _,QQ _,QQ _⟩ a b t (ht.below hx) hto hc (RU (by show 6<=K; omega)) (by show 2<=K; omega) (by show K<=10; omega) (Xt _)
 have HG2:Hid (∀ x b r,Below w.heap.size w x->aC 120 F x r T1->x.cell? (aD b 0)=some (.pointer (some (aD r 0)))->Calls Tryz.prog 113 #[.agg #[v0,v1,v2,v3,v4,v5,v6,v7,v8,v9,v10,v11,v12],.agg #[.int .i64 10,.int .i64 0,.int .i64 0,.int .i64 0,.slice none 0 0,.int .i64 0,.slice none 0 0],.slice (some (aD b 0)) 1 1] x (bF 120 F x T2)):=fun x b r hx hr hc=>by
  rw[<- dw,<- zq];exact qN E (hz.next hx) ⟨10,0,0,0,dU,0,dU⟩ ⟨gI x,mI.nil _ _,fun _=>rfl,gI x,mI.nil _ _,fun _=>rfl,Qq _,QQ _,QQ _⟩ r b T1 hr hok1 hc rfl (by decide:(2:Int)<=10) (by decide:(10:Int)<=10) (Xt _)
 have HEK:Hid (∀ x,Below w.heap.size w x->Calls Tryz.prog 255 #[.agg #[v0,v1,v2,v3,v4,v5,v6],p.order.val] x fun e w'=>e=.returned (.int .i64 K)/\Below x.heap.size x w'):=fun x hx=>by
  have:=Ij q p.order x ((E.Vd hz).below hx).at' (Qo hx hP.ok.order) hP.ok.cap;rw[sV,hpo,hK] at this;exact this
 have HEW:Hid (∀ x,Below w.heap.size w x->Calls Tryz.prog 256 #[.agg #[v0,v1,v2,v3,v4,v5,v6],.int .i64 K,p.order.val] x fun e w'=>e=.returned (.bool (qp q K t.d.order))/\Below x.heap.size x w'):=fun x hx=>by
  have:=Eh q K p.order.ad p.order.cap p.order.xs x ((E.at' hz).query.below hx) ⟨fun h9=>E.ord (by
   cases hg:q.group with
   | false => rfl
   | true =>
    rw[<- hK] at h9;unfold dI at h9;rw[Qs (by rw[hg]; decide)] at h9;split at h9 <;> omega),by have:=E.few; omega⟩ (Qo hx hP.ok.order) hP.ok.cap
  rw[sV,hpo] at this;rw[<- hpo] at this;rw[<- hpo];exact this
 have p3:=hP.c3;rw[dw];clear dw sV hR hT1 zq hok1 hP yU hpo hK ht hto E hz;generalize qp q K t.d.order=EB at *;generalize p.order=po at *;obtain⟨oa,oc,ox⟩:=po;simp only[ah.val] at *;obtain⟨w1,hw1,hb1,hg1⟩:=bu w #[v0,v1,v2,v3,v4,v5,v6,v7,v8,v9,v10,v11,v12] 94;obtain⟨a0,a1,a2,a3,a4,a5,a6,a7,a8,a9,fI,fU,a12⟩:=hg1.k13;have HB1:=Zh hb1;have q3:=cB hb1 p3;clear hb1 hg1 p3;go_enter Tryz.func219,Tryz.ntmps219;go_wp2_with fail;clear hw1;refine wH w1 fun hS=>?_
 refine wt 0 (.pointer (some (aD w.heap.size 0))) hS ?_;refine wT 1 (.agg #[v0,v1,v2,v3,v4,v5,v6]) hS (fun x hx=>?_) ?_
 ·have e0:=TP hx a0 a1 a2 a3 a4 a5 a6;go_simp
 refine wt 2 (.pointer (some (aD a 0))) hS ?_;refine wt 3 (.pointer (some (aD a 0))) hS ?_;refine wt 4 (.pointer (some (aD a 0))) hS ?_;refine wt 5 (.pointer (some (aD a 3))) hS ?_;refine iB 6 (.slice oa ox.length oc) hS q3 ?_;refine wR 7 fun K hK=>?_
 go_simp;refine Z7 (HEK.out _ (aG HB1.out hS)) ?_;rintro e w2 ⟨rfl,hb⟩;refine oT hK hS hb fun hS=>?_
 clear hK K;refine wR 8 fun K hK=>?_
 go_simp;refine hK.out _ _ hS fun hS=>?_
 clear hK K;refine wD ?_
 try simp only[pU]
 have HB2:=Zh (aG HB1.out hS);have q3':=cB hS q3;have b0:=cB hS a0;have b1:=cB hS a1;have b2:=cB hS a2;have b3:=cB hS a3;have b4:=cB hS a4;have b5:=cB hS a5;have b6:=cB hS a6;have b7:=cB hS a7;have b8:=cB hS a8;have b9:=cB hS a9;have b10:=cB hS fI;have b11:=cB hS fU;have b12:=cB hS a12;clear a0 a1 a2 a3 a4 a5 a6 a7 a8 a9 fI fU a12;obtain⟨w3,hw3⟩:∃ x,w2.alloc (.cells #[.pointer (some (aD a 0))] 100)=x:=⟨_,rfl⟩
 have hb3:Below w2.heap.size w2 w3:=by rw[<- hw3]; exact bU _ _
 have hG1:=pR.out w3 w2.heap.size (aG HB2.out hb3) (by rw[<- hw3]; simp);have HB3:=Zh hb3;clear hb3 hS pR HEK q3;go_wp2_with fail;refine hG1.mono ?_;rintro e w4 ⟨r,rfl,hT,hr1,hr2,hb4⟩;have kL:=aG HB3.out hb4;have q3:=cB kL q3';have a0:=cB kL b0;have a1:=cB kL b1;have a2:=cB kL b2;have a3:=cB kL b3;have a4:=cB kL b4;have a5:=cB kL b5;have a6:=cB kL b6;have a7:=cB kL b7;have a8:=cB kL b8;have a9:=cB kL b9;have fI:=cB kL b10;have fU:=cB kL b11;have a12:=cB kL b12;clear b0 b1 b2 b3 b4 b5 b6 b7 b8 b9 b10 b11 b12;have jE:=Zh (aG HB2.out kL);have HT:=Zh hT;have HR1:=Zh (Q4 HB2.out.size (Q4 HB3.out.size hr1));have HR2:=Zh hr2;clear hT hr1 hr2 kL hb4 q3' hG1 hw3;go_wp2_with fail;refine wH w4 fun hS=>?_
 refine wt 0 (.pointer (some (aD w.heap.size 0))) hS ?_;refine wT 1 (.agg #[v0,v1,v2,v3,v4,v5,v6]) hS (fun x hx=>?_) ?_
 ·have e0:=TP hx a0 a1 a2 a3 a4 a5 a6;go_simp
 refine wt 2 (.int .i64 K) hS ?_;refine wt 3 (.pointer (some (aD a 0))) hS ?_;refine wt 4 (.pointer (some (aD a 0))) hS ?_;refine wt 5 (.pointer (some (aD a 0))) hS ?_;refine wt 6 (.pointer (some (aD a 3))) hS ?_;refine iB 7 (.slice oa ox.length oc) hS q3 ?_;refine wR 8 fun K hK=>?_
 go_simp;refine Z7 (HEW.out _ (aG jE.out hS)) ?_;rintro e w5 ⟨rfl,hb⟩;refine oT hK hS hb fun hS=>?_
 clear hK K;refine wD ?_
 try simp only[pU]
 have jZ:=Zh (aG jE.out hS);have b0:=cB hS a0;have b1:=cB hS a1;have b2:=cB hS a2;have b3:=cB hS a3;have b4:=cB hS a4;have b5:=cB hS a5;have b6:=cB hS a6;have b7:=cB hS a7;have b8:=cB hS a8;have b9:=cB hS a9;have b10:=cB hS fI;have b11:=cB hS fU;have b12:=cB hS a12;clear a0 a1 a2 a3 a4 a5 a6 a7 a8 a9 fI fU a12;have YV:=Zh (HT.out.below hS);have Jd:=Zh (Q8 HR2.out hS.size)
 cases EB with
 | true =>
  clear hS q3;go_wp2;go_ret;have hRT:R=T1:=HRR.out;rw[hRT];exact⟨r,rfl,YV.out,HR1.out,Jd.out,jZ.out⟩
 | false =>
  obtain⟨w6,kC⟩:∃ x,w5.alloc (.cells #[.pointer (some (aD r 0))] 100)=x:=⟨_,rfl⟩
  have hb6:Below w5.heap.size w5 w6:=by rw[<- kC]; exact bU _ _
  have hG2:=HG2.out w6 w5.heap.size r (aG jZ.out hb6) (YV.out.below hb6) (by rw[<- kC]; simp);have yE:=Zh (aG jZ.out hb6);clear hb6 hS q3;go_wp2_with fail;refine hG2.mono ?_;rintro e w7 ⟨r',rfl,hT,hr1,hr2,jh⟩;have HP:Hid (bF 120 F w T2 (.returned (.pointer (some (aD r' 0)))) w7):=⟨r',rfl,hT,Q4 yE.out.size hr1,hr2,aG yE.out jh⟩
  clear hG2 hT hr1 hr2 jh kC;go_wp2;go_ret;have hRT:R=T2:=HRR.out;rw[hRT];exact HP.out
def Fv (F:Nat->Prop) (v:Value):Nat->Prop:=fun b=>F b/\v.ownBlock≠some b
theorem Fz.own {F:Nat->Prop} {W0 w:World} (h:Fz F W0 w) {v:Value} (hv:∀ g,v.ownBlock=some g->W0.heap.size<=g/\g<w.heap.size):Fz (Fv F v) W0 w:=
 ⟨h.below,fun b hb=>⟨h.low b hb,fun e=>by have:=(hv b e).1; have:=hb.lt; omega⟩,fun b hb=>⟨h.high b hb,fun e=>by have:=(hv b e).2; omega⟩⟩
theorem aC.own {T:TypeId} {F:Nat->Prop} {w0 w:World} {a:Nat} {t:aW} (h:aC T F w0 a t) (hb:Below w0.heap.size w0 w) {v:Value} (hv:∀ g,v.ownBlock=some g->w0.heap.size<=g):aC T (Fv F v) w a t:=
 (h.mono (G:=Fv F v) (fun b hb hF=>⟨hF,fun e=>by have:=hv b e; omega⟩)).below hb
theorem aC.Je {T:TypeId} {F:Nat->Prop} {w:World} {a:Nat} {t:aW} {v:Value} (h:aC T (Fv F v) w a t):aC T F w a t:=h.mono fun _ _ h=>h.1
structure bJ (T Tp:TypeId) (F:Nat->Prop) (base:Nat) (w:World) (v:Value) (bs:List (Nat × aW)):Prop where
 own:w.ownsRow base Tp 1 v bs.length ((bs.map Prod.fst).map fun x=>Value.pointer (some (aD x 0)))
 tree:∀ x∈bs,aC T (Fv F v) w x.1 x.2/\base<=x.1/\x.1<w.heap.size
 rise:(bs.map Prod.fst).Pairwise (· < ·)
def iP (T Tp:TypeId) (F:Nat->Prop) (w:World) (l:List aW) (e:Ending) (w':World):Prop:=
 ∃ v bs,e=.returned v/\bs.map Prod.snd=l/\bJ T Tp F w.heap.size w' v bs/\Below w.heap.size w w'
theorem bJ.one {T Tp:TypeId} {F:Nat->Prop} {base:Nat} {w0 w:World} {a b:Nat} {t:aW} (hb:base<=b) (hg:GB w b Tp #[.pointer (some (aD a 0))]) (ht:aC T F w0 a t) (hw:Below w0.heap.size w0 w) (h0:w0.heap.size<=b) (ha:base<=a) (hl:a<w.heap.size):bJ T Tp F base w (.slice (some (aD b 0)) 1 1) [(a,t)]:=
 ⟨⟨rfl,.inr ⟨b,1,#[.pointer (some (aD a 0))],rfl,hb,hg,Qq _,by unfold maxLen; omega,rfl,rfl⟩⟩,fun x hx=>by rw[QY] at hx; rw[hx]; exact⟨ht.own hw (fun g e=>by cases e; exact h0),ha,hl⟩,List.pairwise_singleton _ _⟩
theorem bJ.nil (T Tp:TypeId) (F:Nat->Prop) (base:Nat) (w:World):bJ T Tp F base w (.slice none 0 0) []:=⟨ZE _ _ _ _,(fun x hx=>by cases hx),List.Pairwise.nil⟩
theorem bJ.below {T Tp:TypeId} {F:Nat->Prop} {base:Nat} {w w':World} {v:Value} {bs:List (Nat × aW)} (h:bJ T Tp F base w v bs) (hb:Below w.heap.size w w'):bJ T Tp F base w' v bs:=
 ⟨Zx h.own (Q9 (s:=fun b=>b<w.heap.size) hb (fun b _ h=>h)) (fun g hg=>(Zy h.own hg).2),fun x hx=>⟨(h.tree x hx).1.below hb,(h.tree x hx).2.1,Q8 (h.tree x hx).2.2 hb.size⟩,h.rise⟩
theorem aC.pushed {T:TypeId} {F:Nat->Prop} {w w':World} {v v':Value} {a:Nat} {t:aW} (h:aC T (Fv F v) w a t) (hk:Kept (fun b=>v.ownBlock≠some b) w w') (hat:v'.ownBlock=v.ownBlock∨∃ g,v'.ownBlock=some g/\w.heap.size<=g):aC T (Fv F v') w' a t:=by
 have h1:=h.mono (G:=fun b=>Fv F v b/\Fv F v' b) (fun b hb hF=>⟨hF,hF.1,fun e=>by
  rcases hat with h | ⟨g,h,hg⟩
  ·exact hF.2 (h ▸ e)
  ·rw[h] at e;injection e with e;omega⟩)
 exact (h1.aT (hk.mono fun b _ hb=>hb.1.2)).mono fun _ _ h=>h.2
theorem bJ.push {T Tp:TypeId} {F:Nat->Prop} {base:Nat} {w0 w w':World} {v v':Value} {bs:List (Nat × aW)} {a:Nat} {t:aW} (h:bJ T Tp F base w0 v bs) (hb:Below w0.heap.size w0 w) (ht:aC T (Fv F v) w a t) (ha:w0.heap.size<=a) (hl:a<w.heap.size) (hbase:base<=w0.heap.size)
  (ho:w'.ownsRow base Tp 1 v' (bs.map Prod.fst++[a]).length ((bs.map Prod.fst++[a]).map fun x=>Value.pointer (some (aD x 0)))) (hk:Kept (fun b=>v.ownBlock≠some b) w w') (hat:v'.ownBlock=v.ownBlock∨∃ g,v'.ownBlock=some g/\w.heap.size<=g):bJ T Tp F base w' v' (bs++[(a,t)]):=by
 refine⟨?_,fun x hx=>?_,?_⟩
 ·rw[Ql,QT];rw[QT,QU] at ho;exact ho
 ·rcases QX.1 hx with hx | hx
  ·have:=h.tree x hx;exact⟨(this.1.below hb).pushed hk hat,this.2.1,Q8 this.2.2 (Q4 hb.size hk.size)⟩
  ·rw[QY] at hx;rw[hx];exact⟨ht.pushed hk hat,Q4 hbase ha,Q8 hl hk.size⟩
 ·rw[Ql,List.pairwise_append];refine⟨h.rise,List.pairwise_singleton _ _,fun x hx y hy=>?_⟩;obtain⟨z,hz,rfl⟩:=Q0.1 hx;rw[List.map_singleton,QY] at hy;rw[hy];exact Q8 (h.tree z hz).2.2 ha
theorem bJ.len {T Tp:TypeId} {F:Nat->Prop} {base:Nat} {w:World} {v:Value} {bs:List (Nat × aW)} (h:bJ T Tp F base w v bs):(bs.map Prod.fst).length=bs.length:=QU _
theorem vR {F:Nat->Prop} {w:World} (a:Nat) (t:aW) (ht:aC 120 F w a t) (bo:Option Addr) (bc:Nat) (bs:List (Nat × aW)) (hp:cK w bo (bs.map Prod.fst)) (hbs:∀ x∈bs,aC 120 F w x.1 x.2) (hl:bs.length<=1000) :
  Calls Tryz.prog 179 #[.pointer (some (aD a 0)),.slice bo bs.length bc] w fun e w'=>∃ r,e=.returned (.pointer (some (aD r 0)))/\aC 120 F w' r (dW t (bs.map Prod.snd))/\Below w.heap.size w w':=by
 have Oo:=Zh hp;have mH:Hid ((bs.map Prod.fst).length=bs.length):=QU _;have HST:Hid (∀ k,k<bs.length->dW t ((bs.map Prod.snd).take (k+1))=qD (dW t ((bs.map Prod.snd).take k)) ((bs.map Prod.snd).getD k ll)):=fun k hk=>by
  rw[XB _ ll (by rw[QU]; exact hk)];unfold dW;rw[QM];rfl
 have Ou:Hid (∀ k,k<bs.length->aC 120 F w ((bs.map Prod.fst).getD k 0) ((bs.map Prod.snd).getD k ll)):=fun k hk=>by
  have h1:(bs.map Prod.fst).getD k 0=(bs[k]).1:=by rw[Xq,QW,ZG hk]; rfl
  have h2:(bs.map Prod.snd).getD k ll=(bs[k]).2:=by rw[Xq,QW,ZG hk]; rfl
  rw[h1,h2];exact hbs _ (Qj hk)
 have HE:Hid (dW t ((bs.map Prod.snd).take bs.length)=dW t (bs.map Prod.snd)):=by show _=_; rw[ZY (by rw[QU]; exact Qq _)]
 have HT0:Hid (aC 120 F w a (dW t ((bs.map Prod.snd).take 0))):=ht;clear hp hbs ht;generalize bs.map Prod.fst=bf at *;generalize dW t (bs.map Prod.snd)=R at *;obtain⟨CH,hCH⟩:∃ C:Nat->aW,C=fun k=>dW t ((bs.map Prod.snd).take k):=⟨_,rfl⟩
 obtain⟨BD,Mj⟩:∃ C:Nat->aW,C=fun k=>(bs.map Prod.snd).getD k ll:=⟨_,rfl⟩
 have MG:Hid (∀ k,k<bs.length->CH (k+1)=qD (CH k) (BD k)):=by rw[hCH,Mj]; exact HST.out
 have VM:Hid (∀ k,k<bs.length->aC 120 F w (bf.getD k 0) (BD k)):=by rw[Mj]; exact Ou.out
 have HE2:Hid (CH bs.length=R):=by rw[hCH]; exact HE.out
 have aok:Hid (aC 120 F w a (CH 0)):=by rw[hCH]; exact HT0.out
 clear hCH Mj HST Ou HE HT0;generalize bs.length=bl at *;clear bs;go_enter Tryz.func179,Tryz.ntmps179;go_wp2;go_loopw [5,11] (fun pv iv wr=>∃ k r:Nat,k<=bl/\iv=.int .i64 (k:Int)/\pv=.pointer (some (aD r 0))/\Hid (aC 120 F w r (CH k))/\Hid (Below w.heap.size w wr)) (fun _ iv _=>bl-(intOf iv).toNat)
 case atStart=>exact⟨0,a,QQ _,rfl,rfl,aok.out,Qp _ _⟩
 case round=>
  obtain⟨k,r,hk,rfl,rfl,HR,jV⟩:=hrel;by_cases hlt:k<bl
  ·obtain⟨bb,LW,rfl,hbc⟩:=cK.get (Oo.out.below jV.out) (i:=k) (by rw[mH.out]; exact hlt);have hck:=hbc k (by rw[mH.out]; exact hlt);obtain⟨p,hP,yU⟩:=HR.out.jP;obtain⟨p',hP',ai8⟩:=(VM.out k hlt).jP;obtain⟨x,hx⟩:∃ x,x=bf.getD k 0:=⟨_,rfl⟩
   rw[<- hx] at hck hP';have HX:Hid (aC 120 F w x (BD k)):=by rw[hx]; exact VM.out k hlt
   have c1:=cB jV.out hP.c5;have c2:=cB jV.out hP'.c5;have hS:=MG.out k hlt;have e1:p.cost=(CH k).d.cost:=congrArg iG.cost yU;have e2:p'.cost=(BD k).d.cost:=congrArg iG.cost ai8;have HS:Hid (CH (k+1)=if p'.cost<p.cost then BD k else CH k):=by show _=_; rw[hS,e1,e2]; rfl
   generalize p.cost=cr at *;generalize p'.cost=cx at *;clear hbc hx hP hP' yU ai8 hS e1 e2 p p';obtain⟨wq,hwq⟩:∃ x,x=wr:=⟨_,rfl⟩
   subst hwq;go_wp2_with fail;refine kN (by kernel_rfl) (by kernel_rfl) ?_;refine qS (.pointer (some (aD x 0))) ?_;refine qS (.pointer (some (aD x 0))) ?_;refine qS (.pointer (some (aD x 0))) ?_;refine qS (.pointer (some (aD x 5))) ?_;refine qC (.int .u64 (cx:Int)) c2 ?_;refine qS (.pointer (some (aD r 0))) ?_;refine qS (.pointer (some (aD r 0))) ?_;refine qS (.pointer (some (aD r 0))) ?_;refine qS (.pointer (some (aD r 5))) ?_;refine qC (.int .u64 (cr:Int)) c1 ?_;refine qS (.bool (decide ((cx:Int)<(cr:Int)))) ?_;refine wpQuiet_nil ?_;intro w2 hb2;have HB2:=Zh (jV.out.trans (hb2.mono jV.out.size));clear hb2;by_cases hc:cx<cr
   ·have hcb:decide ((cx:Int)<(cr:Int))=true:=Qu (by omega);have HN:Hid (aC 120 F w x (CH (k+1))):=by rw[HS.out,Qr hc]; exact HX.out
    rw[hcb];clear hc HS;go_wp2;go_roundw
    case rel=>exact⟨k+1,x,by omega,by go_num,rfl,HN.out,HB2.out⟩
    case measure=>simp[intOf]; omega
   ·have hcb:decide ((cx:Int)<(cr:Int))=false:=Qh (by omega);have HN:Hid (aC 120 F w r (CH (k+1))):=by rw[HS.out,Qs hc]; exact HR.out
    rw[hcb];clear hc HS;go_wp2;go_roundw
    case rel=>exact⟨k+1,r,by omega,by go_num,rfl,HN.out,HB2.out⟩
    case measure=>simp[intOf]; omega
  ·have hkb:bl=k:=by omega
   subst hkb;rw[HE2.out] at HR;go_wp2;go_ret;exact⟨r,rfl,HR.out.below jV.out,jV.out⟩
theorem Jf {F:Nat->Prop} {W0 w:World} {f:aB} {ts:List af} {q:ae} (E:Env f ts q W0) (hz:Fz F W0 w) (a:Nat) (t:aW) (ht:aC 120 F w a t) (hto:iC q t) :
  Calls Tryz.prog 180 #[.agg (f.cells ts q),.pointer (some (aD a 0))] w (iP 120 100 F w (eG ts q t)):=by
 obtain⟨v0,v1,v2,v3,v4,v5,v6,v7,v8,v9,v10,v11,v12,dw,hv0,hv1,hv2,hv3,hv4,hv5,hv6,-⟩:=Z8 f ts q;have sV:q.cells=#[v0,v1,v2,v3,v4,v5,v6]:=by rw[hv0,hv1,hv2,hv3,hv4,hv5,hv6]; rfl
 clear hv0 hv1 hv2 hv3 hv4 hv5 hv6;have ql:Hid (∀ (G:Nat->Prop) x r u,Fz G W0 x->aC 120 G x r u->iC q u->Calls Tryz.prog 219 #[.agg #[v0,v1,v2,v3,v4,v5,v6,v7,v8,v9,v10,v11,v12],.pointer (some (aD r 0))] x (bF 120 G x (gH ts q u))):=fun G x r u hx hr hu=>by
  rw[<- dw];exact Sb E hx r u hr hu
 have YW:Hid (∀ (G:Nat->Prop) x,Fz G W0 x->Calls Tryz.prog 115 #[.agg #[v0,v1,v2,v3,v4,v5,v6]] x (Aq G x (aN q))):=fun G x hx=>by
  rw[<- sV];exact vD E hx
 have yu:Hid (∀ (G:Nat->Prop) x (o:ah),Fz G W0 x->aC 120 G x a t->o.xs=aN q->IntsIn G x o->Calls Tryz.prog 220 #[.agg #[v0,v1,v2,v3,v4,v5,v6,v7,v8,v9,v10,v11,v12],.pointer (some (aD a 0)),o.val] x (bF 120 G x (bW ts q t (aN q)))):=fun G x o hx ht ho hi=>by
  rw[<- dw,<- ho];exact Au E hx a t ht hto o hi.at' hi.inf hi.nil hi.cap (by rw[ho]; have:=E.Vb; omega)
 have HTO:=Zh hto;have Iq:Hid (iC q (bW ts q t (aN q))):=tX _ hto;have LH:Hid (eG ts q t=if 0<(aN q).length then [gH ts q t,gH ts q (bW ts q t (aN q))] else [gH ts q t]):=rfl;have Kh:=Zh ht;have HZ:=Zh hz;rw[dw];clear dw sV ht hto E hz;generalize eG ts q t=R at *;obtain⟨T1,hT1⟩:∃ u,gH ts q t=u:=⟨_,rfl⟩
 obtain⟨T2,zq⟩:∃ u,bW ts q t (aN q)=u:=⟨_,rfl⟩
 obtain⟨T3,AV⟩:∃ u,gH ts q T2=u:=⟨_,rfl⟩
 rw[hT1,zq,AV] at LH;rw[zq] at yu Iq;generalize aN q=EO at *;obtain⟨w1,hw1,hb1,hg1⟩:=bu w #[v0,v1,v2,v3,v4,v5,v6,v7,v8,v9,v10,v11,v12] 94;obtain⟨a0,a1,a2,a3,a4,a5,a6,a7,a8,a9,fI,fU,a12⟩:=hg1.k13;have HB1:=Zh hb1;have hEN:=ql.out F w1 a t (HZ.out.next hb1) (Kh.out.below hb1) HTO.out;rw[hT1] at hEN;have HT3:=Zh AV;have hlt1:=Zh hg1.lt;clear hb1 hg1 hT1 zq AV;go_enter Tryz.func180,Tryz.ntmps180;go_wp2_with fail;refine hEN.mono ?_;rintro e w2 ⟨r,rfl,hT,hr1,hr2,hb2⟩;obtain⟨w3,hw3⟩:∃ x,w2.alloc (.cells #[.pointer (some (aD r 0))] 100)=x:=⟨_,rfl⟩
 have hb3:Below w2.heap.size w2 w3:=by rw[<- hw3]; exact bU _ _
 have iY:=aG hb2 hb3;have HI3:=Zh (bJ.one (Q4 HB1.out.size hb2.size) (by rw[<- hw3]; exact kG _ _) hT hb3 (Qq _) (Q4 HB1.out.size hr1) (Q8 hr2 hb3.size));have HB3:=Zh (aG HB1.out iY);have b0:=cB iY a0;have b1:=cB iY a1;have b2:=cB iY a2;have b3:=cB iY a3;have b4:=cB iY a4;have b5:=cB iY a5;have b6:=cB iY a6;have b7:=cB iY a7;have b8:=cB iY a8;have b9:=cB iY a9;have b10:=cB iY fI;have b11:=cB iY fU;have b12:=cB iY a12;clear a0 a1 a2 a3 a4 a5 a6 a7 a8 a9 fI fU a12;have hsz2:=Zh hb2.size;clear hEN hT hr1 hr2 hb2 hb3 iY hw1;have hv3:∀ g,(Value.slice (some (aD w2.heap.size 0)) 1 1).ownBlock=some g->w.heap.size<=g/\g<w3.heap.size:=fun g e=>Zy HI3.out.own e
 obtain⟨G,hG⟩:∃ G,G=Fv F (.slice (some (aD w2.heap.size 0)) 1 1):=⟨_,rfl⟩
 have HZ3:Hid (Fz G W0 w3):=by rw[hG]; exact (HZ.out.next HB3.out).own (fun g e=>⟨Q4 HZ.out.below.size (hv3 g e).1,(hv3 g e).2⟩)
 have HA3:Hid (aC 120 G w3 a t):=by rw[hG]; exact Kh.out.own HB3.out (fun g e=>(hv3 g e).1)
 have pW:=Zh hG;have hne:w.heap.size≠w2.heap.size:=by have:=HB1.out.size; have:=hlt1.out; have:=hsz2.out; omega
 have hEO:=YW.out G w3 HZ3.out;clear hv3 hG;go_wp2_with fail;refine hEO.mono ?_;rintro e w4 ⟨o,rfl,ho,hin,hb4⟩;clear hEO hw3;have a0:=cB hb4 b0;have a1:=cB hb4 b1;have a2:=cB hb4 b2;have a3:=cB hb4 b3;have a4:=cB hb4 b4;have a5:=cB hb4 b5;have a6:=cB hb4 b6;have a7:=cB hb4 b7;have a8:=cB hb4 b8;have a9:=cB hb4 b9;have fI:=cB hb4 b10;have fU:=cB hb4 b11;have a12:=cB hb4 b12;clear b0 b1 b2 b3 b4 b5 b6 b7 b8 b9 b10 b11 b12;have HI4:=Zh (HI3.out.below hb4);have jE:=Zh (aG HB3.out hb4);have HO:=Zh ho;have Ve:=Zh hin;have HZ4:=Zh (HZ3.out.next hb4);have HA4:=Zh (HA3.out.below hb4);clear hb4 hin HI3 HZ3 HA3 YW;by_cases hn:0<EO.length
 ·have HR2:Hid (R=[T1,T3]):=by show _=_; rw[LH.out,Qr hn]
  have hnb:decide (0<o.xs.length)=true:=Qu (by rw[ho]; exact hn);have hnc:0<o.xs.length:=by rw[ho]; exact hn
  obtain⟨oa,oc,ox⟩:=o;simp only[ah.val] at *;clear ho hn;go_wp2_with fail;refine QL (S:=fun x=>Kept (fun b=>b≠w2.heap.size) w4 x) (by kernel_rfl) (Q9 ((Qp w4.heap.size w4).drew) (fun _ hl _=>hl)) (fun hS=>?_);refine wt 0 (.slice (some (aD w2.heap.size 0)) 1 1) hS ?_;refine wT 1 (.agg #[v0,v1,v2,v3,v4,v5,v6,v7,v8,v9,v10,v11,v12]) hS (fun x hx=>?_) ?_
  ·have e0:=Zr a0 hx hne;have e1:=Zr a1 hx hne;have e2:=Zr a2 hx hne;have e3:=Zr a3 hx hne;have e4:=Zr a4 hx hne;have e5:=Zr a5 hx hne;have e6:=Zr a6 hx hne;have e7:=Zr a7 hx hne;have e8:=Zr a8 hx hne;have e9:=Zr a9 hx hne;have e10:=Zr fI hx hne;have e11:=Zr fU hx hne;have e12:=Zr a12 hx hne;go_simp
  refine wT 2 (.agg #[v0,v1,v2,v3,v4,v5,v6,v7,v8,v9,v10,v11,v12]) hS (fun x hx=>?_) ?_
  ·have e0:=Zr a0 hx hne;have e1:=Zr a1 hx hne;have e2:=Zr a2 hx hne;have e3:=Zr a3 hx hne;have e4:=Zr a4 hx hne;have e5:=Zr a5 hx hne;have e6:=Zr a6 hx hne;have e7:=Zr a7 hx hne;have e8:=Zr a8 hx hne;have e9:=Zr a9 hx hne;have e10:=Zr fI hx hne;have e11:=Zr fU hx hne;have e12:=Zr a12 hx hne;go_simp
  refine wt 3 (.pointer (some (aD a 0))) hS ?_;refine wt 4 (.slice oa ox.length oc) hS ?_;refine wR 5 fun K hK=>?_
  go_simp;refine Z7 (yu.out G _ ⟨oa,oc,ox⟩ (HZ4.out.next ((Qp _ _).drew)) (HA4.out.below ((Qp _ _).drew)) HO.out (Ve.out.below ((Qp _ _).drew))) ?_;rintro e w5 ⟨r2,rfl,zq,h21,h22,hb5⟩;have hd:=(Qp w4.heap.size w4).drew;have VN:=hd.trans (hb5.mono hd.size);refine hK.out _ _ (Q9 VN (fun b hb _=>hb)) (fun hS=>?_);clear hK K;refine wR 6 fun K hK=>?_
  go_simp;refine Z7 (ql.out G _ r2 T2 (HZ4.out.next VN) zq Iq.out) ?_;rintro e w6 ⟨r3,rfl,AV,h31,h32,hb6⟩;have Fu:=VN.trans (hb6.mono VN.size);rw[HT3.out] at AV;refine hK.out _ _ (Q9 Fu (fun b hb _=>hb)) (fun hS=>?_);clear hK K;refine wR 7 fun K hK=>?_
  go_simp;refine hK.out _ _ (hS.trans (Zc _ _)) (fun hS=>?_);clear hK K;refine wR 8 fun K hK=>?_
  obtain⟨v',w7,nL,Cn,jL,⟨xa,xm,xc,rfl⟩,hat⟩:=vB w6 w.heap.size (.slice (some (aD w2.heap.size 0)) 1 1) [r] (HI4.out.below Fu).own (by simp) (Q4 jE.out.size Fu.size) r3 118;have aol:=Q4 VN.size h31;have HI7:=bJ.push HI4.out Fu (pW.out ▸ AV) aol h32 jE.out.size Cn jL (hat.imp id (fun e=>⟨_,e,by omega⟩));have ae6:Kept (fun b=>b≠w2.heap.size) w4 w7:=(Q9 Fu (fun b hb _=>hb)).trans (jL.mono fun b _ hb e=>hb (by injection e with e; exact e.symm));refine Xv (by rfl) _ _ _ (by rfl) (.slice (some (aD w2.heap.size 0)) 1 1) (.slice (some (aD w6.heap.size 0)) 1 1) (.slice xa xm xc) w7 (by rfl) (by rfl) nL ?_;refine hK.out _ _ ae6 fun hS=>?_
  clear hK K;refine wR 9 fun K hK=>?_
  go_simp;refine hK.out _ _ hS fun hS=>?_
  clear hK K;refine wD ?_
  try simp only[pU]
  have HF:Hid (iP 120 100 F w R (.returned (.slice xa xm xc)) w7):=⟨_,[(r,T1),(r3,T3)],rfl,HR2.out.symm,HI7,jE.out.trans (ae6.below jE.out.size (fun b hb=>by have:=HB1.out.size; have:=hsz2.out; omega))⟩
  clear nL Cn jL hat HI7 ae6 hS;go_wp2;go_ret;exact HF.out
 ·have HR2:Hid (R=[T1]):=by show _=_; rw[LH.out,Qs hn]
  have h0:o.xs.length=0:=by rw[ho]; omega
  obtain⟨oa,oc,ox⟩:=o;simp only[ah.val] at *;rw[h0];clear h0 ho hn HO Ve;go_wp2;go_ret;exact⟨_,[(r,T1)],rfl,HR2.out.symm,HI4.out,jE.out⟩
theorem vV (g:List ai) {k:Nat} (hk:k<g.length):bX (g.take (k+1))=kQ (bX (g.take k)) (g.getD k mG):=by
 unfold bX;exact gy kQ [] g mG hk
theorem A9 {g:List ai} {k:Nat} {x:Nat × aW} (h:x∈bX (g.take k)):∃ p∈g,p.2=some x:=by
 rcases lN _ [] x h with h | ⟨p,hp,e⟩
 ·cases h
 ·exact⟨p,ZX hp,e⟩
theorem rA (g:List ai) (k:Nat):(bX (g.take k)).length<=g.length:=by
 have:=uw (g.take k) [];rw[Q6] at this;unfold bX;simp at this;omega
theorem aX.there {T Tp:TypeId} {F:Nat->Prop} {w:World} {gb:Nat} {A:Nat->Nat} {os:List ah} {g:List ai} (h:aX T Tp F w gb A os g) {k:Nat} {x:Nat × aW} {p:ai} (hp:p∈g) (hx:p.2=some x) :
  decide (A x.1∈(bX (g.take k)).map fun y=>A y.1)=(bX (g.take k)).any (fun y=>y.1==x.1):=by
 rw[Qw,Qx,List.any_eq_true,Q0];constructor
 ·rintro⟨y,hy,e⟩;obtain⟨p',hp',e'⟩:=A9 hy;exact⟨y,hy,by rw[beq_iff_eq]; exact h.inj p' hp' p hp y x e' hx e⟩
 ·rintro⟨y,hy,e⟩;rw[beq_iff_eq] at e;exact⟨y,hy,by rw[e]⟩
theorem Ba {F:Nat->Prop} {w:World} {gb:Nat} {A:Nat->Nat} {os:List ah} {g:List ai} (h:aX 120 195 F w gb A os g) (hl:g.length<=20) (gc:Nat) :
  Calls Tryz.prog 185 #[.slice (some (aD gb 0)) g.length gc] w fun e w'=>∃ v,e=.returned v/\w'.ownsRow w.heap.size 100 1 v ((bX g).map fun x=>A x.1).length (((bX g).map fun x=>A x.1).map fun x=>Value.pointer (some (aD x 0)))/\Below w.heap.size w w':=by
 have HG:=Zh h;obtain⟨QN,hQN⟩:∃ P:Nat->List Nat,P=fun k=>(bX (g.take k)).map fun x=>A x.1:=⟨_,rfl⟩
 have HSN:Hid (∀ k,k<g.length->(g.getD k mG).2=none->QN (k+1)=QN k):=fun k hk e=>by
  rw[hQN];simp only;rw[vV g hk];unfold kQ;rw[e]
 have Er:Hid (∀ k x,k<g.length->(g.getD k mG).2=some x->QN (k+1)=if A x.1∈QN k then QN k else QN k++[A x.1]):=fun k x hk e=>by
  have ht:=h.there (k:=k) (kE hk) e;have e1:QN (k+1)=(if (bX (g.take k)).any (fun y=>y.1==x.1)=true then bX (g.take k) else bX (g.take k)++[x]).map fun x=>A x.1:=by
   rw[hQN];simp only;rw[vV g hk];unfold kQ;rw[e]
  have e2:QN k=(bX (g.take k)).map fun x=>A x.1:=by rw[hQN]
  rw[e1,<- ht,e2];by_cases hm:A x.1∈(bX (g.take k)).map fun x=>A x.1
  ·rw[Qr (Qu hm),Qr hm]
  ·rw[Qs (by rw[Qh hm]; decide),Qs hm,Ql];rfl
 have HQL:Hid (∀ k,(QN k).length<=20):=fun k=>by rw[hQN]; simp only; rw[QU]; exact Q4 (rA g k) hl
 have HQE:Hid (QN g.length=(bX g).map fun x=>A x.1):=by rw[hQN]; show (bX (g.take g.length)).map _=_; rw[Qt]
 have HQ0:Hid (QN 0=[]):=by rw[hQN]; rfl
 have VW:Hid (∀ k,∀ a∈QN k,∃ c t,w.heap[a]? = some (Obj.cells c t (0,0))):=fun k a ha=>by
  rw[hQN] at ha;obtain⟨y,hy,rfl⟩:=Q0.1 ha;obtain⟨p,hp,e⟩:=A9 hy;obtain⟨c,hc⟩:=(h.tree p hp y e).blk;exact⟨c,_,hc⟩
 have og:Hid (∀ k x,k<g.length->(g.getD k mG).2=some x->∃ c t,w.heap[A x.1]? = some (Obj.cells c t (0,0))):=fun k x hk hx=>by
  obtain⟨c,hc⟩:=(h.tree _ (kE hk) x hx).blk;exact⟨c,_,hc⟩
 clear h hQN;generalize (bX g).map (fun x=>A x.1)=R at *;go_enter Tryz.func185,Tryz.ntmps185;go_wp2;go_loopw [3,8] (fun pv iv wr=>∃ k:Nat,k<=g.length/\iv=.int .i64 (k:Int)/\Hid (wr.ownsRow w.heap.size 100 1 pv (QN k).length ((QN k).map fun x=>Value.pointer (some (aD x 0))))/\Hid (Below w.heap.size w wr)) (fun _ iv _=>g.length-(intOf iv).toNat)
 case atStart=>exact⟨0,QQ _,rfl,by rw[HQ0.out]; exact ZE _ _ _ _,Qp _ _⟩
 case round=>
  obtain⟨k,hk,rfl,HO,HB⟩:=hrel;obtain⟨xa,xm,xc,rfl⟩:=ZA HO.out;by_cases hlt:k<g.length
  ·obtain⟨c0,c1⟩:=(HG.out.below HB.out).cells hlt;have afi:=Zh (HSN.out k hlt);have afj:Hid _:=fun x=>Er.out k x hlt
   have afk:Hid _:=fun x=>og.out k x hlt
   generalize os.getD k dU=ov at *;obtain⟨oa,oc,ox⟩:=ov;simp only[ah.val] at c0;generalize (g.getD k mG).2=pp at *
   cases pp with
   | none =>
    have HN:=Zh (afi.out rfl);simp only[EJ] at c1;have hb3:Below wr.heap.size wr (wr.alloc (.cells #[.slice oa ox.length oc,.pointer none] 195)):=bU _ _;have Rm:Hid ((wr.alloc (.cells #[.slice oa ox.length oc,.pointer none] 195)).ownsRow w.heap.size 100 1 (.slice xa xm xc) (QN (k+1)).length ((QN (k+1)).map fun x=>Value.pointer (some (aD x 0)))):=by
     rw[HN.out];exact Zx HO.out (Q9 (s:=fun b=>b<wr.heap.size) hb3 (fun b _ h=>h)) (fun g hg=>(Zy HO.out hg).2)
    have HB3:=Zh (HB.out.trans (hb3.mono HB.out.size));clear afi afj afk HO hb3;go_wp2;go_roundw
    case rel=>exact⟨k+1,by omega,by go_num,Rm.out,HB3.out⟩
    case measure=>simp[intOf]; omega
   | some x =>
    simp only[EJ] at c1;obtain⟨w3,hw3⟩:∃ x',wr.alloc (.cells #[.slice oa ox.length oc,.pointer (some (aD (A x.1) 0))] 195)=x':=⟨_,rfl⟩
    have hb3:Below wr.heap.size wr w3:=by rw[<- hw3]; exact bU _ _
    have vW:=HB.out.trans (hb3.mono HB.out.size);have d1:w3.cell? (aD wr.heap.size 1)=some (.pointer (some (aD (A x.1) 0))):=by rw[<- hw3]; simp
    have ho3:=Zx HO.out (Q9 (s:=fun b=>b<wr.heap.size) hb3 (fun b _ h=>h)) (fun g hg=>(Zy HO.out hg).2);have hlk:=HQL.out k;obtain⟨ya,yc,hy,hpt,-⟩:=kK ho3 (by omega);simp only[Value.slice.injEq] at hy;obtain⟨rfl,rfl,rfl⟩:=hy;have hup:∀ a,(∃ c t,w.heap[a]? = some (Obj.cells c t (0,0)))->∃ c t,w3.heap[a]? = some (Obj.cells c t (0,0)):=fun a ⟨c,t,e⟩=>⟨c,t,(vW.block _ (QI.1 e).1).trans e⟩
    have Od:=yY xa xc (QN k) (A x.1) w3 hpt (hup _ (afk.out x rfl)) (fun a ha=>hup _ (VW.out k a ha));have Gc:=Zh (afj.out x rfl);have Rm:=Zh ho3;have HB3:=Zh vW;have hsz:=vW.size;clear hup hpt ho3 hb3 vW afi afj afk HO;generalize A x.1=xa' at *;by_cases hm:xa'∈QN k
    ·have HN:=Zh (Gc.out.trans (Qr hm));rw[Qu hm] at Od;have yR:Hid (w3.ownsRow w.heap.size 100 1 (.slice xa (QN k).length xc) (QN (k+1)).length ((QN (k+1)).map fun x=>Value.pointer (some (aD x 0)))):=by rw[HN.out]; exact Rm.out
     clear Gc hm Rm HN;go_wp2_with fail;refine Od.mono ?_;rintro e w4 ⟨rfl,hw4⟩;have hw4:=hw4.symm;subst hw4;clear Od;go_wp2;go_roundw
     case rel=>exact⟨k+1,by omega,by go_num,yR.out,HB3.out⟩
     case measure=>simp[intOf]; omega
    ·have HN:=Zh (Gc.out.trans (Qs hm));rw[Qh hm] at Od;obtain⟨v',w5,pO,lD,hk5,⟨za,zm,zc,rfl⟩,hat⟩:=vB w3 w.heap.size (.slice xa (QN k).length xc) (QN k) Rm.out (by omega) hsz xa' 118;have qw:Hid (w5.ownsRow w.heap.size 100 1 (.slice za zm zc) (QN (k+1)).length ((QN (k+1)).map fun x=>Value.pointer (some (aD x 0)))):=by
      rw[HN.out];exact lD
     have jZ:=Zh (HB3.out.trans (hk5.below hsz (fun b hb e=>by have:=(Zy Rm.out e).1; omega)));clear Gc hm lD hk5 hat HN;go_wp2_with fail;refine Od.mono ?_;rintro e w4 ⟨rfl,hw4⟩;have hw4:=hw4.symm;subst hw4;clear Od;go_wp2_with (first | (at_builtin; refine ZN rfl (.tmp 22) (.tmp 25) 118 rfl (.slice xa (QN k).length xc) (.slice (some (aD w3.heap.size 0)) 1 1) (.slice za zm zc) w5 rfl rfl pO ?_));clear pO;go_wp2;go_roundw
     case rel=>exact⟨k+1,by omega,by go_num,qw.out,jZ.out⟩
     case measure=>simp[intOf]; omega
  ·have hkg:g.length=k:=by omega
   have HF:Hid (wr.ownsRow w.heap.size 100 1 (.slice xa xm xc) R.length (R.map fun x=>Value.pointer (some (aD x 0)))):=by
    rw[<- HQE.out,hkg];exact HO.out
   clear hkg;go_wp2;go_ret;exact⟨_,rfl,HF.out,HB.out⟩
