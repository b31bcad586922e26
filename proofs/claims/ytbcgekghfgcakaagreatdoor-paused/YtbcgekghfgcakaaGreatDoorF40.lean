import Derived.Test.YtbcgekghfgcakaaGreatDoorF07
import Derived.Test.YtbcgekghfgcakaaGreatDoorF34
import Derived.Test.YtbcgekghfgcakaaGreatDoorF37
set_option linter.all false
set_option maxRecDepth 100000
set_option maxHeartbeats 16000000
namespace Go.Proofs.Zz
open Go.RowKit Go.Shelf
section
open Go.Lib
theorem GQ (l r:List UInt8):∀ (a m:Nat),decFrom a l=some m->decFrom a (l++r)=decFrom m r:=by
 induction l with
 | nil => intro a m h; cases h; rfl
 | cons b l ih =>
  intro a m h;simp only[decFrom,Zq] at *;split at h
  ·exact ih _ _ h
  ·cases h
theorem GR {k:Nat} (h:k<10):digitVal (UInt8.ofNat (48+k))=some k/\UInt8.ofNat (48+k)≠32/\UInt8.ofNat (48+k)≠45/\UInt8.ofNat (48+k)≠43:=by
 have:∀ k:Fin 10,digitVal (UInt8.ofNat (48+k.val))=some k.val/\UInt8.ofNat (48+k.val)≠32/\UInt8.ofNat (48+k.val)≠45/\UInt8.ofNat (48+k.val)≠43:=by decide
 exact this ⟨k,h⟩
theorem oG (u:Nat):decFrom 0 (decDigits u)=some u/\decDigits u≠[]/\∀ b∈decDigits u,b≠32/\b≠45/\b≠43:=by
 induction u using Nat.strongRecOn with
 | _ u ih =>
  by_cases h:u<10
  ·rw[decDigits_one h];obtain⟨h1,h2⟩:=GR h;refine⟨by simp only[decFrom,h1,QD,QE],by simp,fun b hb=>?_⟩;rw[QY] at hb;rw[hb];exact h2
  ·rw[decDigits,dif_neg h];obtain⟨i1,i2,i3⟩:=ih (u / 10) (by omega);obtain⟨h1,h2⟩:=GR (k:=u % 10) (by omega);refine⟨?_,by simp,fun b hb=>?_⟩
   ·rw[GQ _ _ _ _ i1];simp only[decFrom,h1];congr 1;omega
   ·rcases QX.1 hb with hb | hb
    ·exact i3 b hb
    ·rw[QY] at hb;rw[hb];exact h2
theorem sN (u:Nat):decNat (decDigits u)=some u:=by
 obtain⟨h1,h2,_⟩:=oG u;unfold decNat;rw[Qs (by simpa using h2),h1]
theorem PR (n:Int):atoi (itoa n)=some n:=by
 unfold itoa;split
 ·simp only[atoi,beq_self_eq_true,if_true,sN,Option.map_some];congr 1;omega
 ·obtain⟨_,h2,h3⟩:=oG n.toNat;have hd:=sN n.toNat
  cases hl:decDigits n.toNat with
  | nil => exact absurd hl h2
  | cons b r =>
   rw[hl] at hd h3;obtain⟨_,h4,h5⟩:=h3 b (by simp);simp only[atoi];rw[Qs (by simpa using h4),Qs (by simpa using h5),hd,Option.map_some];congr 1;omega
theorem Db (n:Int):itoa n≠[]/\∀ b∈itoa n,b≠32:=by
 unfold itoa;obtain⟨_,h2,h3⟩:=oG n.toNat;obtain⟨_,_,h5⟩:=oG n.natAbs;split
 ·refine⟨by simp,fun b hb=>?_⟩;rcases QP.1 hb with rfl | hb
  ·decide
  ·exact (h5 b hb).1
 ·exact⟨h2,fun b hb=>(h3 b hb).1⟩
def jr:List Int->List UInt8
 | [] => []
 | n::ns => itoa n++ns.flatMap fun m => 32::itoa m
theorem UA {n:Int} {ns:List Int}:jr (n::ns)≠[]:=by
 unfold jr;have:=(Db n).1;simp[this]
theorem index_none {l:List UInt8} (h:∀ b∈l,b≠32):index l [32] = -1:=by
 induction l with
 | nil => rfl
 | cons b l ih =>
  have hb:=h b (by simp);simp only[index];rw[Qs (by simpa using fun e=>hb e.symm),Qr (by rw[ih fun c hc=>h c (by simp[hc])]; rfl)]
theorem zM {l:List UInt8} (h:∀ b∈l,b≠32) (r:List UInt8):index (l++32::r) [32]=l.length:=by
 induction l with
 | nil => simp[index]
 | cons b l ih =>
  have hb:=h b (by simp);have hi:=ih fun c hc=>h c (by simp[hc])
  simp only[Zq,index];rw[Qs (by simpa using fun e=>hb e.symm),Qs (by rw[hi]; simp),hi];simp
theorem UB (n:Int) (ns:List Int):cut (jr (n::ns)) [32]=(itoa n,jr ns,!ns.isEmpty):=by
 obtain⟨_,h⟩:=Db n
 cases ns with
 | nil =>
  have e:jr [n]=itoa n:=by simp[jr]
  unfold cut;rw[e,index_none h,Qs (by decide)];rfl
 | cons m ns =>
  have e:jr (n::m::ns)=itoa n++32::jr (m::ns):=by simp[jr]
  unfold cut;rw[e,zM h,Qr (by omega)];simp
def fH (ns:List Int):List UInt8:=[115,99,111,117,116]++ns.flatMap fun m=>32::itoa m
theorem UD (n:Int) (ns:List Int):cut (fH (n::ns)) [32]=([115,99,111,117,116],jr (n::ns),true):=by
 have e:fH (n::ns)=[115,99,111,117,116]++32::jr (n::ns):=by simp[fH,jr]
 unfold cut;rw[e,zM (by decide),Qr (by simp)];simp
theorem PS (ns:List Int):join ([115,99,111,117,116]::ns.map itoa) [32]=fH ns:=by
 have h:∀ (ns:List Int) (t:List UInt8),join (t::ns.map itoa) [32]=t++ns.flatMap fun m=>32::itoa m:=by
  intro ns
  induction ns with
  | nil => intro t; simp[join,List.intercalate]
  | cons n ns ih =>
   intro t;have e:join (t::(n::ns).map itoa) [32]=t++[32]++join (itoa n::ns.map itoa) [32]:=by
    rw[List.map_cons];unfold join;simp[List.intercalate,List.intersperse]
   rw[e,ih];simp
 exact h ns _
end
section
open Go.Lib
theorem tN:∀ (k u:Nat),u<10 ^ (k+1)->nDigits u<=k+1
 | 0,u,h => by rw[nDigits_small (by simpa using h)]; exact Qq _
 | k+1,u,h => by
  by_cases h1:u<10
  ·rw[nDigits_small h1]; omega
  ·rw[nDigits_big h1];have:=tN k (u / 10) (by rw[Nat.pow_succ] at h; omega);omega
theorem zN {n:Int} (h:n.natAbs<100000000000000000):(itoa n).length<=18:=by
 have h1:=tN 16 n.natAbs h;have h2:=tN 16 n.toNat (by have:10 ^ (16+1)=100000000000000000:=rfl; omega);unfold itoa;split
 ·rw[Q5,decDigits_length]; omega
 ·rw[decDigits_length]; omega
def jJ (b:Bool):Int:=if b then 1 else 0
def aU (xs:List Int):List Int:=(xs.length:Int)::xs
def aM {α:Type} (f:α->List Int) (xs:List α):List Int:=(xs.length:Int)::xs.flatMap f
def bA (t:af):List Int:=[t.k0,t.k1,t.k2,t.k3].take t.aH.toNat
def bI (t:af):List Int:=t.rows::aU (bA t)
def aS (c:aj):List Int:=[jJ c.not,c.op,c.left,jJ c.const,c.right]
def dD (c:ay):List Int:=aM aS c.cs
def df (q:ae):List Int:=aU q.src.xs++(aM dD q.wh++(jJ q.group::(aU q.keys.xs++(aU q.sums.xs++(aU q.aQ.xs++aU q.ord.xs)))))
def bS (ts:List af) (q:ae) (cap:Int) (picks:List Int) (status:Int):List Int:=aM bI ts++(df q++(cap::(aU picks++[status])))
theorem qx {α:Type} (f:α->List Int) (xs:List α) {k:Nat} (h:k<xs.length) (ns:List Int):(xs.drop k).flatMap f++ns=f xs[k]++((xs.drop (k+1)).flatMap f++ns):=by
 rw[Xc h,QA,QC]
end
theorem xg (b:Bool) (w:World):Calls Tryz.prog 140 #[.bool b] w fun e w'=>e=.returned (.int .i64 (jJ b))/\w' = w:=by
 cases b
 ·go_enter Tryz.func140,Tryz.ntmps140;go_wp2;go_ret;exact⟨rfl,rfl⟩
 ·go_enter Tryz.func140,Tryz.ntmps140;go_wp2;go_ret;exact⟨rfl,rfl⟩
theorem yh (b c:Nat) (t:TypeId) (rs:List ah) (w:World) (hb:w.heap[b]? = some (.cells (rs.map ah.val).toArray t)) (hA:∀ r∈rs,r.At w/\(r.ad=none->r.cap=0)) (hn:rs.length<=1000) (ht:(dQ rs).length<=100000) :
  Calls Tryz.prog 84 #[.slice (some (aD b 0)) rs.length c] w fun e w'=>∃ v,e=.returned v/\w'.ownsRow w.heap.size 3 1 v (dQ rs).length ((dQ rs).map (Value.int .i64))/\Below w.heap.size w w':=by
 have hg:∀ i,(h:i<rs.length)->rs.getD i iz=rs[i]:=fun i h=>by simp[List.getD,h]
 refine zH (some (aD b 0)) c rs w ⟨by omega,fun i hi=>⟨b,0,rfl,?_⟩,fun i hi=>?_⟩ hn (fun i hi=>?_) ht
 ·show _=some (rs.getD i iz).val
  rw[QE,hg i hi];exact Xe hb (by simp[hi])
 ·rw[hg i hi];exact (hA _ (Qj hi)).1
 ·rw[hg i hi];exact (hA _ (Qj hi)).2
theorem mR (w:World) {base:Nat} (hb:base<=w.heap.size) (ns:List Int) (hl:ns.length<=1000):(w.alloc (.cells (ns.map (Value.int .i64)).toArray 3)).ownsRow base 3 1 (.slice (some (aD w.heap.size 0)) ns.length ns.length) ns.length (ns.map (Value.int .i64)):=
 ⟨by simp,.inr ⟨w.heap.size,ns.length,_,rfl,hb,kG w _,Qq _,by unfold maxLen; omega,by simp,by rw[Nat.mul_one]; exact ZY (by simp)⟩⟩
def dH (w:World) (ns:List Int) (e:Ending) (w':World):Prop:=∃ v,e=.returned v/\w'.ownsRow w.heap.size 3 1 v ns.length (ns.map (Value.int .i64))/\Below w.heap.size w w'
theorem yj (x:ah) (w:World) (hx:x.At w) (hc:x.ad=none->x.cap=0) (hl:x.xs.length<=50000):Calls Tryz.prog 88 #[x.val] w (dH w (aU x.xs)):=by
 obtain⟨w1,hw1,hb1,hg1⟩:=bu w #[.int .i64 (x.xs.length:Int)] 3;obtain⟨w2,hw2,hb2,hg2⟩:=bu w1 #[.slice (some (aD w.heap.size 0)) 1 1,x.val] 22;have hb:=aG hb1 hb2;have hg:GB w2 w.heap.size 3 #[.int .i64 (x.xs.length:Int)]:=hg1.of (hb2.block _ hg1.lt);have jM:=yh w1.heap.size 2 22 [⟨some (aD w.heap.size 0),1,[(x.xs.length:Int)]⟩,x] w2 hg2 (fun r hr=>by
  rcases QP.1 hr with rfl | hr
  ·refine⟨⟨by simp,fun i hi=>⟨w.heap.size,0,rfl,?_⟩⟩,fun h=>by cases h⟩
   match i,hi with
   | 0,_ => exact hg.cell 0
  ·rw[QY] at hr;rw[hr];exact⟨Qo hb hx,hc⟩) (by simp) (by simp[dQ]; omega)
 have HB:=Zh hb;have HF:Hid (dQ [⟨some (aD w.heap.size 0),1,[(x.xs.length:Int)]⟩,x]=aU x.xs):=by show _=_; simp[dQ,aU]
 rw[HF.out] at jM;have HS:Hid (w1.heap.size=w.heap.size+1):=by show _=_; rw[<- hw1]; simp
 clear hg hg1 hg2 hb hb1 hb2 hx hc hl;generalize aU x.xs=NS at *;obtain⟨xa,xc,xs⟩:=x;unfold ah.val at *;simp only at *;go_enter Tryz.func88,Tryz.ntmps88;go_wp2_with fail;refine jM.mono ?_;rintro e w3 ⟨v,rfl,ho,hb3⟩;obtain⟨va,vm,vc,rfl⟩:=ZA ho;have HO:=Zh ho;have HB3:=Zh hb3;clear jM ho hb3;go_wp2;go_ret;exact⟨_,rfl,Z5 HO.out HB.out.size,aG HB.out HB3.out⟩
theorem yQ (c:aj) (w:World):Calls Tryz.prog 195 #[.agg c.arr] w (dH w (aS c)):=by
 obtain⟨nt,op,lf,cn,rt⟩:=c;obtain⟨w1,hw1,hb1,hg1⟩:=bu w (aj.arr ⟨nt,op,lf,cn,rt⟩) 73;unfold aj.arr at *;obtain⟨c0,c1,c2,c3,c4⟩:=hg1.k5;have HB1:=Zh hb1;clear hb1 hg1;go_enter Tryz.func195,Tryz.ntmps195;go_wp2_with fail;refine wH w1 fun hS=>?_
 refine wt 0 (.pointer (some (aD w.heap.size 0))) hS ?_;refine iB 1 (.bool nt) hS c0 ?_;refine wt 3 (.pointer (some (aD w.heap.size 1))) hS ?_;refine iB 4 (.int .i64 op) hS c1 ?_;refine wt 5 (.pointer (some (aD w.heap.size 2))) hS ?_;refine iB 6 (.int .i64 lf) hS c2 ?_;refine wt 7 (.pointer (some (aD w.heap.size 3))) hS ?_;refine iB 8 (.bool cn) hS c3 ?_;refine wt 10 (.pointer (some (aD w.heap.size 4))) hS ?_;refine iB 11 (.int .i64 rt) hS c4 ?_;refine wR 2 fun K hK=>?_
 go_simp;refine (xg nt _).mono ?_;rintro e w2 ⟨rfl,rfl⟩;refine hK.out _ _ hS fun hS=>?_
 clear hK K;refine wR 9 fun K hK=>?_
 go_simp;refine (xg cn _).mono ?_;rintro e w2 ⟨rfl,rfl⟩;refine hK.out _ _ hS fun hS=>?_
 clear hK K;refine wR 12 fun K hK=>?_
 go_simp;refine oA hK hS fun hS=>?_
 clear hK K;refine wR 13 fun K hK=>?_
 go_simp;refine hK.out _ _ hS fun hS=>?_
 clear hK K;refine wD ?_;go_wp2;go_ret;exact⟨_,rfl,mR w1.drew HB1.out.size [jJ nt,op,lf,jJ cn,rt] (by simp),aG HB1.out hS⟩
theorem oH (W:World) (base:Nat) (v:Value) (xs:List Int) (hown:W.ownsRow base 3 1 v xs.length (xs.map (Value.int .i64))) (hb:base<=W.heap.size) (g c:Nat) (ys:List Int) (hy:∀ j u,(ys.map (Value.int .i64))[j]? = some u->W.cell? (aD g j)=some u) (hl:xs.length+ys.length<=1000000) (ty:TypeId) :
  ∃ v' w',(Builtin.append_ #[22,22] ty #[v,.slice (some (aD g 0)) ys.length c]).run Tryz.prog W=.ok v' w'/\w'.ownsRow base 3 1 v' (xs++ys).length ((xs++ys).map (Value.int .i64))/\Kept (fun b=>v.ownBlock≠some b) W w'/\(∃ a m c,v' = .slice a m c):=by
 obtain⟨i0,hi,hz0,hz1,hz2⟩:=ZC Tryz.iZ;obtain⟨v',w',hr,ho,hg,-,-⟩:=ZO (P:=Tryz.prog) W base 22 ty 3 i0 (.int .i64 0) 1 8 Tryz.underlying22 hi hz0 hz1 hz2 rfl (by decide) v xs.length _ hown (aD g 0) ys.length c (ys.map (Value.int .i64)) (by simp) (fun j u hj=>by rw[addr_add,QE]; exact hy j u hj) (fun u hu=>by obtain⟨a,_,rfl⟩:=Q0.1 hu; rfl) (by unfold maxLen; omega) (by omega) hb;refine⟨v',w',hr,?_,Zw hg (fun r e hr=>hr e),ZA ho⟩;rw[QT,Ql];exact ho
theorem Hf (ao:Option Addr) (cap:Nat) (cs:List aj) (w:World) (h:aR w ao cs) (hl:cs.length<=20) :
  Calls Tryz.prog 194 #[.func (.func 195) #[] #[],.slice ao cs.length cap] w (dH w (aM aS cs)):=by
 obtain⟨w1,hw1,hb1,hg1⟩:=bu w #[.int .i64 (cs.length:Int)] 3;have Ls:Hid (w1.ownsRow w.heap.size 3 1 (.slice (some (aD w.heap.size 0)) 1 1) 1 [.int .i64 (cs.length:Int)]):=by
  have:=mR w (Qq _) [(cs.length:Int)] (by simp);rw[<- hw1];exact this
 have HB1:=Zh hb1;have HC:=Zh h;clear h hb1 hg1;go_enter Tryz.func194,Tryz.ntmps194;go_wp2;go_loopw [5,13] (fun v i wr=>∃ k:Nat,k<=cs.length/\i=.int .i64 k/\Hid (wr.ownsRow w.heap.size 3 1 v ((cs.length:Int)::(cs.take k).flatMap aS).length (((cs.length:Int)::(cs.take k).flatMap aS).map (Value.int .i64)))/\Hid (Below w.heap.size w wr)) (fun _ i _=>cs.length-(intOf i).toNat)
 case atStart=>exact⟨0,QQ _,rfl,Ls.out,HB1.out⟩
 case round=>
  obtain⟨k,hk,rfl,HO,HB⟩:=hrel;obtain⟨va,vm,vc,rfl⟩:=ZA HO.out;by_cases hlt:k<cs.length
  ·obtain⟨b,off,rfl,e0,e1,e2,e3,e4⟩:=HC.out.2 k hlt;have f0:=cB HB.out e0;have f1:=cB HB.out e1;have f2:=cB HB.out e2;have f3:=cB HB.out e3;have f4:=cB HB.out e4;have hcn:=fun x=>yQ cs[k] x
   have TZ:Hid (cs.getD k cz=cs[k]):=by show _=_; simp[List.getD,hlt]
   have yl:Hid ((cs.take (k+1)).flatMap aS=(cs.take k).flatMap aS++aS cs[k]):=by show _=_; rw[Qk hlt,QS]; simp
   have mH:Hid (((cs.take k).flatMap aS).length<=5*k):=by
    show _<=_
    have e:∀ l:List aj,(l.flatMap aS).length=5*l.length:=fun l=>by
     induction l with
     | nil => rfl
     | cons a l ih => rw[QA,QT,ih,Q5]; simp[aS]; omega
    rw[e,Q6];omega
   go_wp2_with fail;refine (hcn _).mono ?_;rintro e w3 ⟨v3,rfl,ho3,hb3⟩;have hb:=aG (bU wr _) hb3;rcases ZT ho3 with⟨-,h0⟩ | ⟨g,c3,rfl,hg,hgl,hc⟩
   ·exact absurd h0 (by simp[aS])
   have hv3:=Zx HO.out (Q9 (s:=fun b=>b<wr.heap.size) hb (fun b _ h=>h)) (fun g hg=>(Zy HO.out hg).2);obtain⟨v4,w4,hr4,mU,hk4,va4,vm4,vc4,rfl⟩:=oH w3 w.heap.size (.slice va vm vc) _ hv3 (Q4 HB.out.size hb.size) g c3 (aS cs[k]) hc (by have h1:=mH.out; have h2:(aS cs[k]).length=5:=rfl; rw[Q5,h2]; omega) 22;have yR:=Zh mU;have jE:Hid (Below w.heap.size w w4):=(HB.out.trans (hb.mono HB.out.size)).trans (hk4.below (Q4 HB.out.size hb.size) (fun b hb' e=>by have:=(Zy HO.out e).1; omega));clear ho3 hb3 hb hc hv3 hk4 mU hcn hg hgl f0 f1 f2 f3 f4 e0 e1 e2 e3 e4;go_wp2_with (first | (at_builtin; refine ZN rfl (.tmp 17) (.tmp 20) 22 rfl (.slice va vm vc) (.slice (some (aD g 0)) (aS cs[k]).length c3) (.slice va4 vm4 vc4) w4 rfl rfl hr4 ?_));go_roundw
   case rel=>exact⟨k+1,by omega,by go_num,by show World.ownsRow _ _ _ _ _ _ _; rw[yl.out]; exact yR.out,jE.out⟩
   case measure=>simp[intOf]; omega
  ·obtain rfl:k=cs.length:=by omega
   go_wp2;go_ret;rw[Qt] at HO;exact⟨_,rfl,HO.out,HB.out⟩
theorem uZ (c:ay) (w:World) (h:aR w c.ad c.cs) (hl:c.cs.length<=20):Calls Tryz.prog 139 #[.agg #[c.val]] w (dH w (dD c)):=by
 obtain⟨w1,hw1,hb1,hg1⟩:=bu w #[c.val] 77;have c0:=hg1.at 0;have hcn:=Hf c.ad c.cap c.cs w1 (aR.below hb1 h) hl;have HB1:=Zh hb1;have Eo:Hid (aM aS c.cs=dD c):=rfl;rw[Eo.out] at hcn;clear h hb1 hg1 hl;generalize dD c=NS at *;obtain⟨ad,cap,cs⟩:=c;unfold ay.val at *;simp only at *;go_enter Tryz.func139,Tryz.ntmps139;go_wp2_with fail;refine hcn.mono ?_;rintro e w3 ⟨v3,rfl,ho3,hb3⟩;obtain⟨va,vm,vc,rfl⟩:=ZA ho3;have HO:=Zh ho3;have HB3:=Zh hb3;clear hcn ho3 hb3;go_wp2;go_ret;exact⟨_,rfl,Z5 HO.out HB1.out.size,aG HB1.out HB3.out⟩
theorem Hg (ao:Option Addr) (cap:Nat) (wh:List ay) (w:World) (h:eF w ao wh) (hl:wh.length<=20) (hcl:∀ i,i<wh.length->(wh.getD i lz).cs.length<=20) :
  Calls Tryz.prog 138 #[.func (.func 139) #[] #[],.slice ao wh.length cap] w (dH w (aM dD wh)):=by
 obtain⟨w1,hw1,hb1,hg1⟩:=bu w #[.int .i64 (wh.length:Int)] 3;have Ls:Hid (w1.ownsRow w.heap.size 3 1 (.slice (some (aD w.heap.size 0)) 1 1) 1 [.int .i64 (wh.length:Int)]):=by
  have:=mR w (Qq _) [(wh.length:Int)] (by simp);rw[<- hw1];exact this
 have HB1:=Zh hb1;have HC:=Zh h;have Eo:=Zh hcl;have mH:Hid (∀ k,k<=wh.length->((wh.take k).flatMap dD).length<=101*k):=fun k hk=>by
  induction k with
  | zero => simp
  | succ k ih =>
   have h1:=ih (by omega);have h2:=hcl k (by omega);have h3:(dD (wh.getD k lz)).length=1+5*(wh.getD k lz).cs.length:=by
    have e:∀ l:List aj,(l.flatMap aS).length=5*l.length:=fun l=>by
     induction l with
     | nil => rfl
     | cons a l ih => rw[QA,QT,ih,Q5]; simp[aS]; omega
    unfold dD aM;rw[Q5,e];omega
   have h4:wh.getD k lz=wh[k]'(by omega):=by simp[List.getD,show k<wh.length by omega]
   rw[h4] at h2 h3;rw[Qk (by omega),QS,QT];simp only[QA,List.flatMap_nil,Xl];omega
 clear h hb1 hg1 hcl;go_enter Tryz.func138,Tryz.ntmps138;go_wp2;go_loopw [5,13] (fun v i wr=>∃ k:Nat,k<=wh.length/\i=.int .i64 k/\Hid (wr.ownsRow w.heap.size 3 1 v ((wh.length:Int)::(wh.take k).flatMap dD).length (((wh.length:Int)::(wh.take k).flatMap dD).map (Value.int .i64)))/\Hid (Below w.heap.size w wr)) (fun _ i _=>wh.length-(intOf i).toNat)
 case atStart=>exact⟨0,QQ _,rfl,Ls.out,HB1.out⟩
 case round=>
  obtain⟨k,hk,rfl,HO,HB⟩:=hrel;obtain⟨va,vm,vc,rfl⟩:=ZA HO.out;by_cases hlt:k<wh.length
  ·obtain⟨b,off,rfl,hc2⟩:=HC.out.2.1.get hlt;have f0:=cB HB.out (hc2 _ hlt);have hcd:=HC.out.2.2 k hlt;have hcn:=fun x hx=>uZ (wh.getD k lz) x (aR.below hx hcd) (Eo.out k hlt)
   have yl:Hid ((wh.take (k+1)).flatMap dD=(wh.take k).flatMap dD++dD (wh.getD k lz)):=by show _=_; rw[Qk hlt,QS]; simp[List.getD,hlt]
   have HL1:Hid (((wh.take (k+1)).flatMap dD).length<=101*(k+1)):=mH.out (k+1) hlt;rw[yl.out] at HL1;have qA:Hid ((dD (wh.getD k lz)).length≠0):=by show _≠_; simp[dD,aM]
   have T9:=Zh hcn;clear hcn hcd hc2;generalize wh.getD k lz=cl at *;generalize dD cl=NS at *;obtain⟨Y8,GD,ccs⟩:=cl;unfold ay.val at *;simp only at *;go_wp2_with fail;refine Z7 (T9.out _ (aG HB.out (bU wr _))) ?_;rintro e w3 ⟨v3,rfl,ho3,hb3⟩;have hb:=aG (bU wr _) hb3;rcases ZT ho3 with⟨-,h0⟩ | ⟨g,c3,rfl,hg,hgl,hc⟩
   ·exact absurd h0 qA.out
   have hv3:=Zx HO.out (Q9 (s:=fun b=>b<wr.heap.size) hb (fun b _ h=>h)) (fun g hg=>(Zy HO.out hg).2);obtain⟨v4,w4,hr4,mU,hk4,va4,vm4,vc4,rfl⟩:=oH w3 w.heap.size (.slice va vm vc) _ hv3 (Q4 HB.out.size hb.size) g c3 NS hc (by have h1:=HL1.out; rw[QT] at h1; rw[Q5]; omega) 22;have yR:=Zh mU;have jE:Hid (Below w.heap.size w w4):=(HB.out.trans (hb.mono HB.out.size)).trans (hk4.below (Q4 HB.out.size hb.size) (fun b hb' e=>by have:=(Zy HO.out e).1; omega));clear ho3 hb3 hb hc hv3 hk4 mU hg hgl f0;go_wp2_with (first | (at_builtin; refine ZN rfl (.tmp 17) (.tmp 20) 22 rfl (.slice va vm vc) (.slice (some (aD g 0)) NS.length c3) (.slice va4 vm4 vc4) w4 rfl rfl hr4 ?_));go_roundw
   case rel=>exact⟨k+1,by omega,by go_num,by show World.ownsRow _ _ _ _ _ _ _; rw[yl.out]; exact yR.out,jE.out⟩
   case measure=>simp[intOf]; omega
  ·obtain rfl:k=wh.length:=by omega
   go_wp2;go_ret;rw[Qt] at HO;exact⟨_,rfl,HO.out,HB.out⟩
theorem count_set:∀ (t:List Bool) (i:Nat),t[i]? = some false->t.count false=(t.set i true).count false+1
 | [],i,h => by simp at h
 | b::t,0,h => by simp at h; subst h; simp
 | b::t,i+1,h => by
  have:=count_set t i (by simpa using h);simp only[Qb,List.count_cons];omega
theorem ve {l:Array Bool} {i:Nat} (h:l.getD i true=false):l.toList.count false=(l.setIfInBounds i true).toList.count false+1:=by
 rw[Array.toList_setIfInBounds];refine count_set _ _ ?_;rw[Array.getElem?_toList];rcases Nat.lt_or_ge i l.size with h' | h'
 ·rw[Array.getD,dif_pos h'] at h;rw[Array.getElem?_eq_getElem h'];exact congrArg some h
 ·rw[Array.getD,dif_neg (by omega)] at h; cases h
theorem zS {P:Program} {md:Region.Mode} {ops:Array Oper} {Q:Exit->Act->World->Prop} {S:World->Prop} (J:Array Bool->Act->World->Prop) (hS:∀ l a w,J l a w->S w)
  (hj:∀ l a w,J l a w->wpAnyH P md ops Q S (l.toList.count false) l a w∨(Region.ready md ops l≠[]/\∀ i∈Region.ready md ops l,wpOp P ops Q i (fun a' w'=>J (l.setIfInBounds i true) a' w') a w)) :
  ∀ (n:Nat) (l:Array Bool) (a:Act) (w:World),l.toList.count false=n->J l a w->wpAnyH P md ops Q S n l a w:=by
 intro n
 induction n with
 | zero =>
  intro l a w hn h;rcases hj l a w h with h | ⟨hl,_⟩
  ·rwa [hn] at h
  ·obtain⟨i,r,hr⟩:=List.exists_cons_of_ne_nil hl;have h1:=(mem_ready.1 (show i∈Region.ready md ops l by rw[hr]; simp)).1;have:=ve h1;omega
 | succ n ih =>
  intro l a w hn h;rcases hj l a w h with h | ⟨hl,hs⟩
  ·rwa [hn] at h
  ·refine⟨fun h=>absurd h hl,fun i hi=>wpOp_mono (fun a' w' h=>⟨hS _ _ _ h,ih _ a' w' ?_ h⟩) (hs i hi)⟩;have:=ve (mem_ready.1 hi).1;omega
theorem wF2 {P:Program} {md:Region.Mode} {ops:Array Oper} {Q:Exit->Act->World->Prop} {S:World->Prop} {fuel:Nat} {l:Array Bool} {a:Act} {w:World} (L:Bool->Bool->Array Bool) (D:List Nat) (k:Nat) (J:Bool->Bool->Act->World->Prop)
  (h0:J false false a w) (hS:∀ b1 b2 a w,J b1 b2 a w->S w)
  (hstep:∀ i∈D,∀ b1 b2 a w,J b1 b2 a w->wpOp P ops Q i (fun a' w'=>∃ c1 c2,(L b1 b2).setIfInBounds i true=L c1 c2/\J c1 c2 a' w') a w)
  (hstop:∀ a w,J true true a w->wpAnyH P md ops Q S k (L true true) a w)
  (hr:∀ b1 b2:Bool,(b1&&b2)=false->(Region.ready md ops (L b1 b2)).isEmpty=false/\(Region.ready md ops (L b1 b2)).all (D.contains ·)=true:=by decide +kernel)
  (hl:l=L false false:=by rfl) (hf:(L false false).toList.count false=fuel:=by kernel_rfl) (hk:(L true true).toList.count false=k:=by kernel_rfl):wpAnyH P md ops Q S fuel l a w:=by
 refine zS (fun l a w=>∃ b1 b2,l=L b1 b2/\J b1 b2 a w) ?_ ?_ fuel l a w (by rw[hl]; exact hf) ⟨false,false,hl,h0⟩
 ·rintro _ a w ⟨b1,b2,rfl,hj⟩;exact hS _ _ _ _ hj
 ·rintro _ a w ⟨b1,b2,rfl,hj⟩
  cases hb:(b1&&b2) with
  | true =>
   simp only[Qm,and_assoc] at hb;obtain⟨rfl,rfl⟩:=hb;left;rw[hk];exact hstop a w hj
  | false =>
   obtain⟨h1,h2⟩:=hr b1 b2 hb;refine .inr ⟨(fun h=>by rw[h] at h1; cases h1),fun i hi=>?_⟩;have:=Qn.1 h2 i hi;exact wpOp_mono (fun a' w' ⟨c1,c2,e,h⟩=>⟨c1,c2,e,h⟩) (hstep i (by simpa using this) b1 b2 a w hj)
theorem wF5 {P:Program} {md:Region.Mode} {ops:Array Oper} {Q:Exit->Act->World->Prop} {S:World->Prop} {fuel:Nat} {l:Array Bool} {a:Act} {w:World} (L:Bool->Bool->Bool->Bool->Bool->Array Bool) (D:List Nat) (k:Nat) (J:Bool->Bool->Bool->Bool->Bool->Act->World->Prop)
  (h0:J false false false false false a w) (hS:∀ b1 b2 b3 b4 b5 a w,J b1 b2 b3 b4 b5 a w->S w)
  (hstep:∀ i∈D,∀ b1 b2 b3 b4 b5 a w,J b1 b2 b3 b4 b5 a w->wpOp P ops Q i (fun a' w'=>∃ c1 c2 c3 c4 c5,(L b1 b2 b3 b4 b5).setIfInBounds i true=L c1 c2 c3 c4 c5/\J c1 c2 c3 c4 c5 a' w') a w)
  (hstop:∀ a w,J true true true true true a w->wpAnyH P md ops Q S k (L true true true true true) a w)
  (hr:∀ b1 b2 b3 b4 b5:Bool,(b1&&b2&&b3&&b4&&b5)=false->(Region.ready md ops (L b1 b2 b3 b4 b5)).isEmpty=false/\(Region.ready md ops (L b1 b2 b3 b4 b5)).all (D.contains ·)=true:=by decide +kernel)
  (hl:l=L false false false false false:=by rfl) (hf:(L false false false false false).toList.count false=fuel:=by kernel_rfl) (hk:(L true true true true true).toList.count false=k:=by kernel_rfl):wpAnyH P md ops Q S fuel l a w:=by
 refine zS (fun l a w=>∃ b1 b2 b3 b4 b5,l=L b1 b2 b3 b4 b5/\J b1 b2 b3 b4 b5 a w) ?_ ?_ fuel l a w (by rw[hl]; exact hf) ⟨false,false,false,false,false,hl,h0⟩
 ·rintro _ a w ⟨b1,b2,b3,b4,b5,rfl,hj⟩;exact hS _ _ _ _ _ _ _ hj
 ·rintro _ a w ⟨b1,b2,b3,b4,b5,rfl,hj⟩
  cases hb:(b1&&b2&&b3&&b4&&b5) with
  | true =>
   simp only[Qm,and_assoc] at hb;obtain⟨rfl,rfl,rfl,rfl,rfl⟩:=hb;left;rw[hk];exact hstop a w hj
  | false =>
   obtain⟨h1,h2⟩:=hr b1 b2 b3 b4 b5 hb;refine .inr ⟨(fun h=>by rw[h] at h1; cases h1),fun i hi=>?_⟩;have:=Qn.1 h2 i hi;exact wpOp_mono (fun a' w' ⟨c1,c2,c3,c4,c5,e,h⟩=>⟨c1,c2,c3,c4,c5,e,h⟩) (hstep i (by simpa using this) b1 b2 b3 b4 b5 a w hj)
def fu (ns:List Int) (v:Value) (w:World):Prop:=∃ iv:ah,v=iv.val/\iv.At w/\(iv.ad=none->iv.cap=0)/\iv.xs=ns
theorem fu.below {ns:List Int} {v:Value} {w w':World} (h:fu ns v w) (hb:Below w.heap.size w w'):fu ns v w':=by
 obtain⟨iv,h1,h2,h3,h4⟩:=h;exact⟨iv,h1,Qo hb h2,h3,h4⟩
theorem fu.sl {ns:List Int} {v:Value} {w:World} (h:fu ns v w):∃ a m c,v=.slice a m c:=by
 obtain⟨iv,rfl,_⟩:=h;exact⟨_,_,_,rfl⟩
theorem fu.own {ns:List Int} {v:Value} {w:World} {base n:Nat} {e:TypeId} (h:w.ownsRow base e 1 v n (ns.map (Value.int .i64))) (hl:ns.length<=1000000):fu ns v w:=by
 obtain⟨iv,h1,h2,h3,_,h5,_⟩:=fO h hl;exact⟨iv,h1,h3,h5,h2⟩
theorem fu.one (w:World) (n:Int) (t:TypeId):fu [n] (.slice (some (aD w.heap.size 0)) 1 1) (w.alloc (.cells #[.int .i64 n] t)):=
 ⟨⟨some (aD w.heap.size 0),1,[n]⟩,rfl,⟨by simp,fun i hi=>⟨w.heap.size,0,rfl,by
  match i,hi with
  | 0,_ => simp⟩⟩,(fun h => by cases h),rfl⟩
def U5:List Value->List (List Int)->World->Prop
 | [],[],_ => True
 | v::vs,n::ns,w => fu n v w/\U5 vs ns w
 | _,_,_ => False
theorem U5.rows {w:World}:∀ {vs:List Value} {nss:List (List Int)},U5 vs nss w->∃ rs:List ah,vs=rs.map ah.val/\nss=rs.map (·.xs)/\∀ r∈rs,r.At w/\(r.ad=none->r.cap=0)
 | [],[],_ => ⟨[],rfl,rfl,fun r h => by cases h⟩
 | [],_::_,h => h.elim
 | _::_,[],h => h.elim
 | v::vs,n::ns,h => by
  obtain⟨rs,rfl,rfl,hA⟩:=U5.rows h.2;obtain⟨iv,rfl,h2,h3,rfl⟩:=h.1;exact⟨iv::rs,rfl,rfl,fun r hr=>by
   rcases QP.1 hr with rfl | hr
   ·exact⟨h2,h3⟩
   ·exact hA r hr⟩
theorem qO (b c:Nat) (t:TypeId) (vs:List Value) (nss:List (List Int)) (w:World) (hb:w.heap[b]? = some (.cells vs.toArray t)) (hv:U5 vs nss w) (hn:vs.length<=1000) (ht:nss.flatten.length<=100000) :
  Calls Tryz.prog 84 #[.slice (some (aD b 0)) vs.length c] w (dH w nss.flatten):=by
 obtain⟨rs,rfl,rfl,hA⟩:=hv.rows;rw[QU] at hn ⊢;exact yh b c t rs w hb hA hn ht
theorem xA (t:af) (n:Nat) (w:World) (hc:t.aH=(n:Int)) (hn:n<=4):Calls Tryz.prog 86 #[.agg t.vals] w (dH w (bI t)):=by
 obtain⟨w1,hw1,hb1,hg1⟩:=bu w t.vals 54;have hKF:fu (bA t) (.slice (some (aD w.heap.size 2)) n 4) w1:=by
  have hcl:=hg1.cell;refine⟨⟨some (aD w.heap.size 2),4,bA t⟩,?_,⟨?_,fun i hi=>⟨w.heap.size,2,rfl,?_⟩⟩,(fun h=>by cases h),rfl⟩
  ·unfold ah.val bA;rw[hc];simp;omega
  ·unfold bA;simp;omega
  ·unfold bA at hi ⊢;rw[hc] at hi ⊢;simp at hi;rw[hcl];have h5:n=0∨n=1∨n=2∨n=3∨n=4:=by omega
   have h4:i=0∨i=1∨i=2∨i=3:=by omega
   rcases h4 with rfl | rfl | rfl | rfl <;> rcases h5 with rfl | rfl | rfl | rfl | rfl <;> first | omega | rfl
 unfold af.vals at *;obtain⟨aH,rows,k0,k1,k2,k3⟩:=t;simp only at hc;subst hc;obtain⟨c0,c1,c2,c3,c4,c5⟩:=hg1.k6;have hsl:∀ (a:Addr) (x:World),(Instr.sliceAt 52 (.pointer (some a)) none (some (.int .i64 (n:Int))) none).run Tryz.prog x=.ok (.slice (some a) n 4) x:=fun a x=>Hz a x (n:Int) (by omega) (by omega)
 have HB1:=Zh hb1;have HKF:=Zh hKF;clear hb1 hg1 hKF c2 c3 c4 c5;go_enter Tryz.func86,Tryz.ntmps86;go_wp2_with fail;refine wH w1 fun hS=>?_
 refine wt 0 (.pointer (some (aD w.heap.size 1))) hS ?_;refine iB 1 (.int .i64 rows) hS c1 ?_;refine wt 3 (.pointer (some (aD w.heap.size 2))) hS ?_;refine wt 4 (.pointer (some (aD w.heap.size 0))) hS ?_;refine iB 5 (.int .i64 (n:Int)) hS c0 ?_;refine wT 6 (.slice (some (aD w.heap.size 2)) n 4) hS (fun x hx=>?_) ?_
 ·go_simp
 have Ex:Hid (∀ x,Below w1.heap.size w1 x->Calls Tryz.prog 88 #[.slice (some (aD w.heap.size 2)) n 4] x (dH x (aU (bA ⟨n,rows,k0,k1,k2,k3⟩)))):=fun x hx=>by
  obtain⟨iv,h1,h2,h3,h4⟩:=fu.below HKF.out hx;rw[h1,<- h4];exact yj iv x h2 h3 (by rw[h4]; unfold bA; simp; omega)
 have YK:Hid (bI ⟨n,rows,k0,k1,k2,k3⟩=[[rows],aU (bA ⟨n,rows,k0,k1,k2,k3⟩)].flatten):=by show _=_; simp[bI]
 have mH:Hid ((aU (bA ⟨n,rows,k0,k1,k2,k3⟩)).length<=5):=by show _<=_; simp[aU,bA]; omega
 generalize bA ⟨n,rows,k0,k1,k2,k3⟩=CK at *;generalize aU CK=NS at *;clear c0 c1 hsl HKF hw1;refine wF2 (fun b1 b2=>#[true,true,b1,true,true,true,true,b2,false,false,false]) [2,7] 3 (fun b1 b2 a x=>∃ y1 y2,a=⟨#[.agg #[.int .i64 (n:Int),.int .i64 rows,.int .i64 k0,.int .i64 k1,.int .i64 k2,.int .i64 k3],.pointer (some (aD w.heap.size 0)),.slice none 0 0,.pointer (some (aD w.heap.size 1)),.int .i64 rows,y1,.pointer (some (aD w.heap.size 2)),.pointer (some (aD w.heap.size 0)),.int .i64 (n:Int),.slice (some (aD w.heap.size 2)) n 4,y2,undef,undef],[]⟩/\Hid (Below w1.heap.size w1 x/\(b1=true->fu [rows] y1 x)/\(b2=true->fu NS y2 x))) ⟨undef,undef,rfl,hS,(fun h=>by cases h),(fun h=>by cases h)⟩ (fun b1 b2 a x ⟨y1,y2,_,h⟩=>h.out.1) ?_ ?_
 ·clear hS;intro i hi b1 b2 a x;rintro⟨y1,y2,rfl,HJ⟩;simp only[QP,XD,or_false] at hi;rcases hi with rfl | rfl
  ·refine wpOp_step rfl fun K hK=>?_
   go_simp;obtain⟨h1,h2,h3⟩:=HJ.out;exact hK _ _ ⟨true,b2,rfl,_,y2,rfl,aG h1 (bU x _),fun _=>fu.one x rows _,fun h=>(h3 h).below (bU x _)⟩
  ·refine wpOp_step rfl fun K hK=>?_
   go_simp;refine Z7 (Ex.out _ HJ.out.1) ?_;rintro e x2 ⟨v,rfl,ho,hb⟩;obtain⟨h1,h2,h3⟩:=HJ.out;exact hK _ _ ⟨b1,true,rfl,y1,v,rfl,aG h1 hb,fun h=>(h2 h).below hb,fun _=>fu.own ho (by have:=mH.out; omega)⟩
 ·clear hS;rintro a x ⟨y1,y2,rfl,HJ⟩;obtain⟨p1,m1,q1,rfl⟩:=(HJ.out.2.1 rfl).sl;obtain⟨p2,m2,q2,rfl⟩:=(HJ.out.2.2 rfl).sl;obtain⟨x1,hx1,hbx,hgx⟩:=bu x #[.slice p1 m1 q1,.slice p2 m2 q2] 22;have hS:=aG HJ.out.1 hbx;have jM:=qO x.heap.size 2 22 [.slice p1 m1 q1,.slice p2 m2 q2] [[rows],NS] x1 hgx ⟨(HJ.out.2.1 rfl).below hbx,(HJ.out.2.2 rfl).below hbx,trivial⟩ (by simp) (by have:=mH.out; simp; omega);have og:=Zh (aG HB1.out hS);have HBZ:=Zh hbx;clear hgx hbx;have hS:=HJ.out.1;refine wR 8 fun K hK=>?_
  go_simp;refine oT hK hS HBZ.out fun hS=>?_
  clear hK K;refine wR 9 fun K hK=>?_
  go_simp;refine jM.mono ?_;rintro e x2 ⟨v,rfl,ho,hb⟩;obtain⟨va,vm,vc,rfl⟩:=ZA ho;rw[<- YK.out] at ho;have HO:=Zh ho;have HB:=Zh hb;clear ho jM;refine oT hK hS hb fun hS=>?_
  clear hK K hb;refine wR 10 fun K hK=>?_
  go_simp;refine hK.out _ _ hS fun hS=>?_
  clear hK K;refine wD ?_;go_wp2;go_ret;exact⟨_,rfl,Z5 HO.out og.out.size,aG og.out HB.out⟩
theorem H6 (ao:Option Addr) (cap:Nat) (ts:List af) (w:World) (h:aJ w ao ts) (hl:ts.length<=20) (hcl:∀ i,i<ts.length->0<=(ts.getD i tz).aH/\(ts.getD i tz).aH<=4) :
  Calls Tryz.prog 85 #[.func (.func 86) #[] #[],.slice ao ts.length cap] w (dH w (aM bI ts)):=by
 obtain⟨w1,hw1,hb1,hg1⟩:=bu w #[.int .i64 (ts.length:Int)] 3;have Ls:Hid (w1.ownsRow w.heap.size 3 1 (.slice (some (aD w.heap.size 0)) 1 1) 1 [.int .i64 (ts.length:Int)]):=by
  have:=mR w (Qq _) [(ts.length:Int)] (by simp);rw[<- hw1];exact this
 have HB1:=Zh hb1;have HC:=Zh h;have HTB:Hid (∀ k,k<ts.length->∀ x,Calls Tryz.prog 86 #[.agg (ts.getD k tz).vals] x (dH x (bI (ts.getD k tz)))):=fun k hk x=>by
  have:=hcl k hk;exact xA _ (ts.getD k tz).aH.toNat x (by omega) (by omega)
 have mH:Hid (∀ k,k<=ts.length->((ts.take k).flatMap bI).length<=6*k):=fun k hk=>by
  induction k with
  | zero => simp
  | succ k ih =>
   have h1:=ih (by omega);rw[Qk (by omega),QS,QT];have h2:∀ t:af,(bI t).length<=6:=fun t=>by simp[bI,aU,bA]; omega
   have:=h2 (ts[k]'(by omega));simp only[QA,List.flatMap_nil,Xl];omega
 clear h hb1 hg1 hcl;go_enter Tryz.func85,Tryz.ntmps85;go_wp2;go_loopw [5,13] (fun v i wr=>∃ k:Nat,k<=ts.length/\i=.int .i64 k/\Hid (wr.ownsRow w.heap.size 3 1 v ((ts.length:Int)::(ts.take k).flatMap bI).length (((ts.length:Int)::(ts.take k).flatMap bI).map (Value.int .i64)))/\Hid (Below w.heap.size w wr)) (fun _ i _=>ts.length-(intOf i).toNat)
 case atStart=>exact⟨0,QQ _,rfl,Ls.out,HB1.out⟩
 case round=>
  obtain⟨k,hk,rfl,HO,HB⟩:=hrel;obtain⟨va,vm,vc,rfl⟩:=ZA HO.out;by_cases hlt:k<ts.length
  ·obtain⟨b,off,rfl,e0,e1,e2,e3,e4,e5⟩:=HC.out.2 k hlt;have f0:=cB HB.out e0;have f1:=cB HB.out e1;have f2:=cB HB.out e2;have f3:=cB HB.out e3;have f4:=cB HB.out e4;have f5:=cB HB.out e5;have hcn:=HTB.out k hlt;have yl:Hid ((ts.take (k+1)).flatMap bI=(ts.take k).flatMap bI++bI (ts.getD k tz)):=by show _=_; rw[Qk hlt,QS]; simp[List.getD,hlt]
   have HL1:Hid (((ts.take (k+1)).flatMap bI).length<=6*(k+1)):=mH.out (k+1) hlt;rw[yl.out] at HL1;have qA:Hid ((bI (ts.getD k tz)).length≠0):=by show _≠_; simp[bI]
   unfold af.vals at hcn;generalize ts.getD k tz=t at *;generalize bI t=NS at *;clear e0 e1 e2 e3 e4 e5;go_wp2_with fail;refine (hcn _).mono ?_;rintro e w3 ⟨v3,rfl,ho3,hb3⟩;have hb:=aG (bU wr _) hb3;rcases ZT ho3 with⟨-,h0⟩ | ⟨g,c3,rfl,hg,hgl,hc⟩
   ·exact absurd h0 qA.out
   have hv3:=Zx HO.out (Q9 (s:=fun b=>b<wr.heap.size) hb (fun b _ h=>h)) (fun g hg=>(Zy HO.out hg).2);obtain⟨v4,w4,hr4,mU,hk4,va4,vm4,vc4,rfl⟩:=oH w3 w.heap.size (.slice va vm vc) _ hv3 (Q4 HB.out.size hb.size) g c3 NS hc (by have h1:=HL1.out; rw[QT] at h1; rw[Q5]; omega) 22;have yR:=Zh mU;have jE:Hid (Below w.heap.size w w4):=(HB.out.trans (hb.mono HB.out.size)).trans (hk4.below (Q4 HB.out.size hb.size) (fun b hb' e=>by have:=(Zy HO.out e).1; omega));clear ho3 hb3 hb hc hv3 hk4 mU hg hgl f0 f1 f2 f3 f4 f5 hcn;go_wp2_with (first | (at_builtin; refine ZN rfl (.tmp 17) (.tmp 20) 22 rfl (.slice va vm vc) (.slice (some (aD g 0)) NS.length c3) (.slice va4 vm4 vc4) w4 rfl rfl hr4 ?_));go_roundw
   case rel=>exact⟨k+1,by omega,by go_num,by show World.ownsRow _ _ _ _ _ _ _; rw[yl.out]; exact yR.out,jE.out⟩
   case measure=>simp[intOf]; omega
  ·obtain rfl:k=ts.length:=by omega
   go_wp2;go_ret;rw[Qt] at HO;exact⟨_,rfl,HO.out,HB.out⟩
theorem iM {W:World} {iv:ah} (hv:iv.At W) (hn:iv.ad=none->iv.cap=0) (hl:iv.xs.length<=50000):∀ x,Below W.heap.size W x->Calls Tryz.prog 88 #[.slice iv.ad iv.xs.length iv.cap] x (dH x (aU iv.xs)):=fun x hx=>yj iv x (Qo hx hv) hn hl
theorem xH (q:ae) (w:World) (hq:q.At w) (hn:RG q) (hl:q.src.xs.length<=1000/\q.wh.length<=20/\q.keys.xs.length<=1000/\q.sums.xs.length<=1000/\q.aQ.xs.length<=1000/\q.ord.xs.length<=1000) (hcl:∀ i,i<q.wh.length->(q.wh.getD i lz).cs.length<=20) (hlw:(aM dD q.wh).length<=10000) :
  Calls Tryz.prog 87 #[.agg q.cells] w (dH w (df q)):=by
 have sV:q.cells=#[.slice q.src.ad q.src.xs.length q.src.cap,.slice q.bY q.wh.length q.aI,.bool q.group,.slice q.keys.ad q.keys.xs.length q.keys.cap,.slice q.sums.ad q.sums.xs.length q.sums.cap,.slice q.aQ.ad q.aQ.xs.length q.aQ.cap,.slice q.ord.ad q.ord.xs.length q.ord.cap]:=rfl;rw[sV];obtain⟨w1,hw1,hb1,hg1⟩:=bu w q.cells 26;rw[sV] at hg1 hw1;have hq1:=hq.below hb1;have Vm:=Zh (iM hq1.src hn.src (by omega));have Gb:=Zh (iM hq1.keys hn.keys (by omega));have HC4:=Zh (iM hq1.sums hn.sums (by omega));have HC5:=Zh (iM hq1.aQ hn.aQ (by omega));have HC6:=Zh (iM hq1.ord hn.ord (by omega));have wO:Hid (∀ x,Below w1.heap.size w1 x->Calls Tryz.prog 138 #[.func (.func 139) #[] #[],.slice q.bY q.wh.length q.aI] x (dH x (aM dD q.wh))):=fun x hx=>Hg q.bY q.aI q.wh x (hq1.wh.below hx) hl.2.1 hcl
 have HQN:Hid (df q=[aU q.src.xs,aM dD q.wh,[jJ q.group],aU q.keys.xs,aU q.sums.xs,aU q.aQ.xs,aU q.ord.xs].flatten):=by show _=_; simp[df]
 have mH:Hid ((aU q.src.xs).length<=1001/\(aM dD q.wh).length<=10000/\(aU q.keys.xs).length<=1001/\(aU q.sums.xs).length<=1001/\(aU q.aQ.xs).length<=1001/\(aU q.ord.xs).length<=1001):=by
  refine⟨?_,hlw,?_,?_,?_,?_⟩ <;> (unfold aU; rw[Q5]; omega)
 obtain⟨c0,c1,c2,c3,c4,c5,c6⟩:=hg1.k7;generalize df q=QN at *;clear sV hq hq1 hn hl hcl hlw hg1;generalize aU q.src.xs=N0 at *;generalize aM dD q.wh=N1 at *;generalize aU q.keys.xs=N3 at *;generalize aU q.sums.xs=N4 at *;generalize aU q.aQ.xs=N5 at *;generalize aU q.ord.xs=N6 at *;generalize q.src.ad=a0 at *;generalize q.src.xs.length=n0 at *;generalize q.src.cap=q0 at *;generalize q.bY=a1 at *;generalize q.wh.length=n1 at *;generalize q.aI=q1 at *;generalize q.group=gr at *;generalize q.keys.ad=a3 at *;generalize q.keys.xs.length=n3 at *;generalize q.keys.cap=q3 at *;generalize q.sums.ad=a4 at *;generalize q.sums.xs.length=n4 at *;generalize q.sums.cap=q4 at *;generalize q.aQ.ad=a5 at *;generalize q.aQ.xs.length=n5 at *;generalize q.aQ.cap=q5 at *;generalize q.ord.ad=a6 at *;generalize q.ord.xs.length=n6 at *;generalize q.ord.cap=q6 at *;have HB1:=Zh hb1;clear hb1;go_enter Tryz.func87,Tryz.ntmps87;go_wp2_with fail;refine wH w1 fun hS=>?_
 refine wt 0 (.pointer (some (aD w.heap.size 0))) hS ?_;refine iB 1 (.slice a0 n0 q0) hS c0 ?_;refine wt 3 (.pointer (some (aD w.heap.size 1))) hS ?_;refine iB 4 (.slice a1 n1 q1) hS c1 ?_;refine wt 6 (.pointer (some (aD w.heap.size 2))) hS ?_;refine iB 7 (.bool gr) hS c2 ?_;refine wt 10 (.pointer (some (aD w.heap.size 3))) hS ?_;refine iB 11 (.slice a3 n3 q3) hS c3 ?_;refine wt 13 (.pointer (some (aD w.heap.size 4))) hS ?_;refine iB 14 (.slice a4 n4 q4) hS c4 ?_;refine wt 16 (.pointer (some (aD w.heap.size 5))) hS ?_;refine iB 17 (.slice a5 n5 q5) hS c5 ?_;refine wt 19 (.pointer (some (aD w.heap.size 6))) hS ?_;refine iB 20 (.slice a6 n6 q6) hS c6 ?_;refine wR 2 fun K hK=>?_
 go_simp;refine Z7 (Vm.out _ hS) ?_;rintro e x0 ⟨v,rfl,ho,hb⟩;have HF0:=fu.own ho (by have:=mH.out; omega);obtain⟨u0,v0,t0,rfl⟩:=HF0.sl;refine oT hK hS hb fun hS=>?_
 clear hK K ho hb;refine wR 5 fun K hK=>?_
 go_simp;refine Z7 (wO.out _ hS) ?_;rintro e x1 ⟨v,rfl,ho,hb⟩;have Vh:=fu.own ho (by have:=mH.out; omega);obtain⟨u1,v1,t1,rfl⟩:=Vh.sl;have HF0:=HF0.below hb;refine oT hK hS hb fun hS=>?_
 clear hK K ho hb;refine wR 8 fun K hK=>?_
 go_simp;refine (xg gr _).mono ?_;rintro e x2 ⟨rfl,rfl⟩;refine hK.out _ _ hS fun hS=>?_
 clear hK K;have HFF:Hid (fu N0 (.slice u0 v0 t0) x2/\fu N1 (.slice u1 v1 t1) x2):=⟨HF0,Vh⟩
 clear hw1 HF0 Vh c0 c1 c2 c3 c4 c5 c6 Vm wO;refine wF5 (fun b1 b2 b3 b4 b5=>#[true,true,true,true,true,true,true,true,true,b1,true,true,b2,true,true,b3,true,true,b4,true,true,b5,false,false,false]) [9,12,15,18,21] 3 (fun b1 b2 b3 b4 b5 a x=>∃ y1 y2 y3 y4 y5,a=⟨#[.agg #[.slice a0 n0 q0,.slice a1 n1 q1,.bool gr,.slice a3 n3 q3,.slice a4 n4 q4,.slice a5 n5 q5,.slice a6 n6 q6],.pointer (some (aD w.heap.size 0)),.slice none 0 0,.pointer (some (aD w.heap.size 0)),.slice a0 n0 q0,.slice u0 v0 t0,.pointer (some (aD w.heap.size 1)),.slice a1 n1 q1,.slice u1 v1 t1,.pointer (some (aD w.heap.size 2)),.bool gr,.int .i64 (jJ gr),y1,.pointer (some (aD w.heap.size 3)),.slice a3 n3 q3,y2,.pointer (some (aD w.heap.size 4)),.slice a4 n4 q4,y3,.pointer (some (aD w.heap.size 5)),.slice a5 n5 q5,y4,.pointer (some (aD w.heap.size 6)),.slice a6 n6 q6,y5,undef,undef],[]⟩/\Hid (Below w1.heap.size w1 x/\fu N0 (.slice u0 v0 t0) x/\fu N1 (.slice u1 v1 t1) x/\(b1=true->fu [jJ gr] y1 x)/\(b2=true->fu N3 y2 x)/\(b3=true->fu N4 y3 x)/\(b4=true->fu N5 y4 x)/\(b5=true->fu N6 y5 x))) ⟨undef,undef,undef,undef,undef,by kernel_rfl,hS,HFF.out.1,HFF.out.2,(fun h=>by cases h),(fun h=>by cases h),(fun h=>by cases h),(fun h=>by cases h),(fun h=>by cases h)⟩ (fun b1 b2 b3 b4 b5 a x ⟨y1,y2,y3,y4,y5,_,h⟩=>h.out.1) ?_ ?_
 ·clear hS HFF;intro i hi b1 b2 b3 b4 b5 a x;rintro⟨y1,y2,y3,y4,y5,rfl,HJ⟩;simp only[QP,XD,or_false] at hi;rcases hi with rfl | rfl | rfl | rfl | rfl
  ·refine wpOp_step rfl fun K hK=>?_
   go_simp;obtain⟨h0,g0,g1,h1,h2,h3,h4,h5⟩:=HJ.out;have hb:=bU x (.cells #[.int .i64 (jJ gr)] 3);exact hK _ _ ⟨true,b2,b3,b4,b5,rfl,_,y2,y3,y4,y5,rfl,aG h0 hb,g0.below hb,g1.below hb,fun _=>fu.one x _ _,fun h=>(h2 h).below hb,fun h=>(h3 h).below hb,fun h=>(h4 h).below hb,fun h=>(h5 h).below hb⟩
  ·refine wpOp_step rfl fun K hK=>?_
   go_simp;refine Z7 (Gb.out _ HJ.out.1) ?_;rintro e x3 ⟨v,rfl,ho,hb⟩;obtain⟨h0,g0,g1,h1,h2,h3,h4,h5⟩:=HJ.out;exact hK _ _ ⟨b1,true,b3,b4,b5,rfl,y1,v,y3,y4,y5,rfl,aG h0 hb,g0.below hb,g1.below hb,fun h=>(h1 h).below hb,fun _=>fu.own ho (by have:=mH.out; omega),fun h=>(h3 h).below hb,fun h=>(h4 h).below hb,fun h=>(h5 h).below hb⟩
  ·refine wpOp_step rfl fun K hK=>?_
   go_simp;refine Z7 (HC4.out _ HJ.out.1) ?_;rintro e x3 ⟨v,rfl,ho,hb⟩;obtain⟨h0,g0,g1,h1,h2,h3,h4,h5⟩:=HJ.out;exact hK _ _ ⟨b1,b2,true,b4,b5,rfl,y1,y2,v,y4,y5,rfl,aG h0 hb,g0.below hb,g1.below hb,fun h=>(h1 h).below hb,fun h=>(h2 h).below hb,fun _=>fu.own ho (by have:=mH.out; omega),fun h=>(h4 h).below hb,fun h=>(h5 h).below hb⟩
  ·refine wpOp_step rfl fun K hK=>?_
   go_simp;refine Z7 (HC5.out _ HJ.out.1) ?_;rintro e x3 ⟨v,rfl,ho,hb⟩;obtain⟨h0,g0,g1,h1,h2,h3,h4,h5⟩:=HJ.out;exact hK _ _ ⟨b1,b2,b3,true,b5,rfl,y1,y2,y3,v,y5,rfl,aG h0 hb,g0.below hb,g1.below hb,fun h=>(h1 h).below hb,fun h=>(h2 h).below hb,fun h=>(h3 h).below hb,fun _=>fu.own ho (by have:=mH.out; omega),fun h=>(h5 h).below hb⟩
  ·refine wpOp_step rfl fun K hK=>?_
   go_simp;refine Z7 (HC6.out _ HJ.out.1) ?_;rintro e x3 ⟨v,rfl,ho,hb⟩;obtain⟨h0,g0,g1,h1,h2,h3,h4,h5⟩:=HJ.out;exact hK _ _ ⟨b1,b2,b3,b4,true,rfl,y1,y2,y3,y4,v,rfl,aG h0 hb,g0.below hb,g1.below hb,fun h=>(h1 h).below hb,fun h=>(h2 h).below hb,fun h=>(h3 h).below hb,fun h=>(h4 h).below hb,fun _=>fu.own ho (by have:=mH.out; omega)⟩
 ·clear hS HFF;rintro a x ⟨y1,y2,y3,y4,y5,rfl,HJ⟩;obtain⟨h0,g0,g1,h1,h2,h3,h4,h5⟩:=HJ.out
  replace h1:=h1 rfl
  replace h2:=h2 rfl
  replace h3:=h3 rfl
  replace h4:=h4 rfl
  replace h5:=h5 rfl
  obtain⟨d1,e1,f1,rfl⟩:=h1.sl;obtain⟨d2,e2,f2,rfl⟩:=h2.sl;obtain⟨d3,e3,f3,rfl⟩:=h3.sl;obtain⟨d4,e4,f4,rfl⟩:=h4.sl;obtain⟨d5,e5,f5,rfl⟩:=h5.sl;obtain⟨x1,hx1,hbx,hgx⟩:=bu x #[.slice u0 v0 t0,.slice u1 v1 t1,.slice d1 e1 f1,.slice d2 e2 f2,.slice d3 e3 f3,.slice d4 e4 f4,.slice d5 e5 f5] 22;have jM:=qO x.heap.size 7 22 [.slice u0 v0 t0,.slice u1 v1 t1,.slice d1 e1 f1,.slice d2 e2 f2,.slice d3 e3 f3,.slice d4 e4 f4,.slice d5 e5 f5] [N0,N1,[jJ gr],N3,N4,N5,N6] x1 hgx ⟨g0.below hbx,g1.below hbx,h1.below hbx,h2.below hbx,h3.below hbx,h4.below hbx,h5.below hbx,trivial⟩ (by simp) (by have:=mH.out; simp; omega);have og:=Zh (aG HB1.out (aG h0 hbx));have HBZ:=Zh hbx;have hS:=h0;clear hgx hbx h0 g0 g1 h1 h2 h3 h4 h5 HJ;refine wR 22 fun K hK=>?_
  go_simp;refine oT hK hS HBZ.out fun hS=>?_
  clear hK K;refine wR 23 fun K hK=>?_
  go_simp;refine jM.mono ?_;rintro e x2 ⟨v,rfl,ho,hb⟩;obtain⟨va,vm,vc,rfl⟩:=ZA ho;rw[<- HQN.out] at ho;have HO:=Zh ho;have HB:=Zh hb;clear ho jM;refine oT hK hS hb fun hS=>?_
  clear hK K hb;refine wR 24 fun K hK=>?_
  go_simp;refine hK.out _ _ hS fun hS=>?_
  clear hK K;refine wD ?_
  try simp only[pV]
  go_wp2;go_ret;exact⟨_,rfl,Z5 HO.out og.out.size,aG og.out HB.out⟩
theorem Iy (ca:Option Addr) (cc:Nat) (ts:List af) (q:ae) (cap st:Int) (pk:ah) (w:World)
  (h1:∀ x,Below w.heap.size w x->Calls Tryz.prog 85 #[.func (.func 86) #[] #[],.slice ca ts.length cc] x (dH x (aM bI ts)))
  (h2:∀ x,Below w.heap.size w x->Calls Tryz.prog 87 #[.agg q.cells] x (dH x (df q)))
  (hp:pk.At w) (hpn:pk.ad=none->pk.cap=0) (hl:(aM bI ts).length<=1000/\(df q).length<=20000/\pk.xs.length<=1000) :
  Calls Tryz.prog 49 #[.agg (#[.slice ca ts.length cc]++q.cells ++ #[.int .i64 cap,.slice pk.ad pk.xs.length pk.cap,.int .i64 st])] w (dH w (bS ts q cap pk.xs st)):=by
 obtain⟨p0,p1,p2,p3,p4,p5,p6,sV⟩:∃ v0 v1 v2 v3 v4 v5 v6,q.cells=#[v0,v1,v2,v3,v4,v5,v6]:=⟨_,_,_,_,_,_,_,rfl⟩
 rw[sV] at h2 ⊢
 show Calls Tryz.prog 49 #[.agg #[.slice ca ts.length cc,p0,p1,p2,p3,p4,p5,p6,.int .i64 cap,.slice pk.ad pk.xs.length pk.cap,.int .i64 st]] w (dH w (bS ts q cap pk.xs st))
 obtain⟨w1,hw1,hb1,hg1⟩:=bu w #[.slice ca ts.length cc,p0,p1,p2,p3,p4,p5,p6,.int .i64 cap,.slice pk.ad pk.xs.length pk.cap,.int .i64 st] 66;have wO:Hid (∀ x,Below w1.heap.size w1 x->Calls Tryz.prog 85 #[.func (.func 86) #[] #[],.slice ca ts.length cc] x (dH x (aM bI ts))):=fun x hx=>h1 x (aG hb1 hx)
 have tY:Hid (∀ x,Below w1.heap.size w1 x->Calls Tryz.prog 87 #[.agg #[p0,p1,p2,p3,p4,p5,p6]] x (dH x (df q))):=fun x hx=>h2 x (aG hb1 hx)
 have HC4:=Zh (iM (Qo hb1 hp) hpn (by omega));have HJN:Hid (bS ts q cap pk.xs st=[aM bI ts,df q,[cap],aU pk.xs,[st]].flatten):=by show _=_; simp[bS]
 have mH:Hid ((aM bI ts).length<=1000/\(df q).length<=20000/\(aU pk.xs).length<=1001):=⟨hl.1,hl.2.1,by unfold aU; rw[Q5]; omega⟩
 have c0:=hg1.at 0;have c1:=hg1.at 1;have c2:=hg1.at 2;have c3:=hg1.at 3;have c4:=hg1.at 4;have c5:=hg1.at 5;have c6:=hg1.at 6;have c7:=hg1.at 7;have c8:=hg1.at 8;have c9:=hg1.at 9;have c10:=hg1.at 10;generalize bS ts q cap pk.xs st=JN at *;clear sV h1 h2 hp hpn hl hg1;generalize aM bI ts=N1 at *;generalize df q=N2 at *;generalize aU pk.xs=N4 at *;generalize ts.length=m0 at *;generalize pk.xs.length=m9 at *;generalize pk.ad=pa at *;generalize pk.cap=pc at *;have HB1:=Zh hb1;clear hb1;go_enter Tryz.func49,Tryz.ntmps49;go_wp2_with fail;refine wH w1 fun hS=>?_
 refine wt 0 (.pointer (some (aD w.heap.size 0))) hS ?_;refine iB 1 (.slice ca m0 cc) hS c0 ?_;refine wt 3 (.pointer (some (aD w.heap.size 1))) hS ?_;refine wT 4 (.agg #[p0,p1,p2,p3,p4,p5,p6]) hS (fun x hx=>?_) ?_
 ·have e0:=TP hx c1 c2 c3 c4 c5 c6 c7;go_simp
 refine wt 6 (.pointer (some (aD w.heap.size 8))) hS ?_;refine iB 7 (.int .i64 cap) hS c8 ?_;refine wt 9 (.pointer (some (aD w.heap.size 9))) hS ?_;refine iB 10 (.slice pa m9 pc) hS c9 ?_;refine wt 12 (.pointer (some (aD w.heap.size 10))) hS ?_;refine iB 13 (.int .i64 st) hS c10 ?_;clear hw1 c0 c1 c2 c3 c4 c5 c6 c7 c8 c9 c10;refine wF5 (fun b1 b2 b3 b4 b5=>#[true,true,b1,true,true,b2,true,true,b3,true,true,b4,true,true,b5,false,false,false]) [2,5,8,11,14] 3 (fun b1 b2 b3 b4 b5 a x=>∃ y1 y2 y3 y4 y5,a=⟨#[.agg #[.slice ca m0 cc,p0,p1,p2,p3,p4,p5,p6,.int .i64 cap,.slice pa m9 pc,.int .i64 st],.pointer (some (aD w.heap.size 0)),.slice none 0 0,.pointer (some (aD w.heap.size 0)),.slice ca m0 cc,y1,.pointer (some (aD w.heap.size 1)),.agg #[p0,p1,p2,p3,p4,p5,p6],y2,.pointer (some (aD w.heap.size 8)),.int .i64 cap,y3,.pointer (some (aD w.heap.size 9)),.slice pa m9 pc,y4,.pointer (some (aD w.heap.size 10)),.int .i64 st,y5,undef,undef],[]⟩/\Hid (Below w1.heap.size w1 x/\(b1=true->fu N1 y1 x)/\(b2=true->fu N2 y2 x)/\(b3=true->fu [cap] y3 x)/\(b4=true->fu N4 y4 x)/\(b5=true->fu [st] y5 x))) ⟨undef,undef,undef,undef,undef,by kernel_rfl,hS,(fun h=>by cases h),(fun h=>by cases h),(fun h=>by cases h),(fun h=>by cases h),(fun h=>by cases h)⟩ (fun b1 b2 b3 b4 b5 a x ⟨y1,y2,y3,y4,y5,_,h⟩=>h.out.1) ?_ ?_
 ·clear hS;intro i hi b1 b2 b3 b4 b5 a x;rintro⟨y1,y2,y3,y4,y5,rfl,HJ⟩;simp only[QP,XD,or_false] at hi;rcases hi with rfl | rfl | rfl | rfl | rfl
  ·refine wpOp_step rfl fun K hK=>?_
   go_simp;refine Z7 (wO.out _ HJ.out.1) ?_;rintro e x3 ⟨v,rfl,ho,hb⟩;obtain⟨h0,h1,h2,h3,h4,h5⟩:=HJ.out;exact hK _ _ ⟨true,b2,b3,b4,b5,rfl,v,y2,y3,y4,y5,rfl,aG h0 hb,fun _=>fu.own ho (by have:=mH.out; omega),fun h=>(h2 h).below hb,fun h=>(h3 h).below hb,fun h=>(h4 h).below hb,fun h=>(h5 h).below hb⟩
  ·refine wpOp_step rfl fun K hK=>?_
   go_simp;refine Z7 (tY.out _ HJ.out.1) ?_;rintro e x3 ⟨v,rfl,ho,hb⟩;obtain⟨h0,h1,h2,h3,h4,h5⟩:=HJ.out;exact hK _ _ ⟨b1,true,b3,b4,b5,rfl,y1,v,y3,y4,y5,rfl,aG h0 hb,fun h=>(h1 h).below hb,fun _=>fu.own ho (by have:=mH.out; omega),fun h=>(h3 h).below hb,fun h=>(h4 h).below hb,fun h=>(h5 h).below hb⟩
  ·refine wpOp_step rfl fun K hK=>?_
   go_simp;obtain⟨h0,h1,h2,h3,h4,h5⟩:=HJ.out;have hb:=bU x (.cells #[.int .i64 cap] 3);exact hK _ _ ⟨b1,b2,true,b4,b5,rfl,y1,y2,_,y4,y5,rfl,aG h0 hb,fun h=>(h1 h).below hb,fun h=>(h2 h).below hb,fun _=>fu.one x _ _,fun h=>(h4 h).below hb,fun h=>(h5 h).below hb⟩
  ·refine wpOp_step rfl fun K hK=>?_
   go_simp;refine Z7 (HC4.out _ HJ.out.1) ?_;rintro e x3 ⟨v,rfl,ho,hb⟩;obtain⟨h0,h1,h2,h3,h4,h5⟩:=HJ.out;exact hK _ _ ⟨b1,b2,b3,true,b5,rfl,y1,y2,y3,v,y5,rfl,aG h0 hb,fun h=>(h1 h).below hb,fun h=>(h2 h).below hb,fun h=>(h3 h).below hb,fun _=>fu.own ho (by have:=mH.out; omega),fun h=>(h5 h).below hb⟩
  ·refine wpOp_step rfl fun K hK=>?_
   go_simp;obtain⟨h0,h1,h2,h3,h4,h5⟩:=HJ.out;have hb:=bU x (.cells #[.int .i64 st] 3);exact hK _ _ ⟨b1,b2,b3,b4,true,rfl,y1,y2,y3,y4,_,rfl,aG h0 hb,fun h=>(h1 h).below hb,fun h=>(h2 h).below hb,fun h=>(h3 h).below hb,fun h=>(h4 h).below hb,fun _=>fu.one x _ _⟩
 ·clear hS;rintro a x ⟨y1,y2,y3,y4,y5,rfl,HJ⟩;obtain⟨h0,h1,h2,h3,h4,h5⟩:=HJ.out
  replace h1:=h1 rfl
  replace h2:=h2 rfl
  replace h3:=h3 rfl
  replace h4:=h4 rfl
  replace h5:=h5 rfl
  obtain⟨d1,e1,f1,rfl⟩:=h1.sl;obtain⟨d2,e2,f2,rfl⟩:=h2.sl;obtain⟨d3,e3,f3,rfl⟩:=h3.sl;obtain⟨d4,e4,f4,rfl⟩:=h4.sl;obtain⟨d5,e5,f5,rfl⟩:=h5.sl;obtain⟨x1,hx1,hbx,hgx⟩:=bu x #[.slice d1 e1 f1,.slice d2 e2 f2,.slice d3 e3 f3,.slice d4 e4 f4,.slice d5 e5 f5] 22;have jM:=qO x.heap.size 5 22 [.slice d1 e1 f1,.slice d2 e2 f2,.slice d3 e3 f3,.slice d4 e4 f4,.slice d5 e5 f5] [N1,N2,[cap],N4,[st]] x1 hgx ⟨h1.below hbx,h2.below hbx,h3.below hbx,h4.below hbx,h5.below hbx,trivial⟩ (by simp) (by have:=mH.out; simp; omega);have og:=Zh (aG HB1.out (aG h0 hbx));have HBZ:=Zh hbx;have hS:=h0;clear hgx hbx h0 h1 h2 h3 h4 h5 HJ;refine wR 15 fun K hK=>?_
  go_simp;refine oT hK hS HBZ.out fun hS=>?_
  clear hK K;refine wR 16 fun K hK=>?_
  go_simp;refine jM.mono ?_;rintro e x2 ⟨v,rfl,ho,hb⟩;obtain⟨va,vm,vc,rfl⟩:=ZA ho;rw[<- HJN.out] at ho;have HO:=Zh ho;have HB:=Zh hb;clear ho jM;refine oT hK hS hb fun hS=>?_
  clear hK K hb;refine wR 17 fun K hK=>?_
  go_simp;refine hK.out _ _ hS fun hS=>?_
  clear hK K;refine wD ?_
  try simp only[pV]
  go_wp2;go_ret;exact⟨_,rfl,Z5 HO.out og.out.size,aG og.out HB.out⟩
