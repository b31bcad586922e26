import Derived.Test.YtbcgekghfgcakaaGreatDoorF41
set_option linter.all false
set_option maxRecDepth 100000
set_option maxHeartbeats 16000000
namespace Go.Proofs.Zz
open Go.RowKit Go.Shelf
theorem JJ {W:World} {rb:Nat} {ns:List Int} {w:World} (cs:List aj) (hl:cs.length<=3) (h:mF W rb (aM aS cs++ns) w) :
  Calls Tryz.prog 81 #[.pointer (some (aD rb 0))] w fun e w'=>∃ a m c,e=.returned (.agg #[.slice a m c])/\w'.ownsRow w.heap.size 73 5 (.slice a m c) cs.length (cs.flatMap aj.vals)/\mF W rb ns w'/\Kept (fun b=>b≠rb) w w':=by
 obtain⟨w1,hw1,hb1,hg1⟩:=bu w #[.slice none 0 0] 77;have hc:=Ty cs 3 hl (by omega) (h.step hb1);have HR:=Zh h.blk.lt;have HG:=Zh hg1;have lK:Hid (Kept (fun b=>b≠rb) w w1):=Q9 hb1 (fun _ h _=>h);have HB1:=Zh hb1.size;clear h hb1 hg1;go_enter Tryz.func81,Tryz.ntmps81;go_wp2_with fail;refine hc.mono ?_;rintro e w2 ⟨v,rfl,ho,h2,k2⟩;obtain⟨va,vm,vc,rfl⟩:=ZA ho;have hg2:=HG.out.keep k2 (by have:=HR.out; omega);have hE:=h2.put (lK.out.trans k2) HR.out (Qq w.heap.size) [.slice va vm vc];have FT:=xW [.slice va vm vc] hg2;have HO:Hid ((nX w.heap.size 0 [.slice va vm vc] w2).ownsRow w.heap.size 73 5 (.slice va vm vc) cs.length (cs.flatMap aj.vals)):=Zx (Z5 ho HB1.out) (lQ [.slice va vm vc] 0 w2) fun g eg=>by
  have:=(Zy ho eg).1;have:=HG.out.lt;omega
 have d0:=hg2.at 0;have f0:=hg2.frozen 0;simp only[nX,Zk,Nat.reduceAdd,QE] at hE FT HO;have HE:=Zh hE;have pW:=Zh FT;clear hE FT hg2 k2 h2 hc ho hw1;go_wp2;exact Xi (Xj rfl _ _ w.heap.size 77 #[.slice va vm vc] (0,0) _ rfl pW.out Tryz.underlying77 rfl (by kernel_rfl)) rfl ⟨_,_,_,rfl,HO.out,HE.out⟩
theorem FV (W:World) (base:Nat) (v:Value) (ls:List ay) (hown:W.ownsRow base 77 1 v ls.length (ls.map ay.val)) (hl:ls.length<=1000) (hb:base<=W.heap.size) (a:Option Addr) (c:Nat) (cs:List aj) (ty:TypeId) :
  ∃ v' w',(Builtin.append_ #[24,24] ty #[v,.slice (some (aD W.heap.size 0)) 1 1]).run Tryz.prog (W.alloc (.cells #[.slice a cs.length c] 77))=.ok v' w'/\
   w'.ownsRow base 77 1 v' (ls++[(⟨a,c,cs⟩:ay)]).length ((ls++[(⟨a,c,cs⟩:ay)]).map ay.val)/\Kept (fun b=>v.ownBlock≠some b) W w'/\(∃ a m c,v' = .slice a m c):=by
 obtain⟨i0,hi,hz0,hz1,hz2⟩:=ZC Tryz.ui;obtain⟨v',w',hr,ho,hk,hs,_⟩:=ZV (P:=Tryz.prog) W base 24 ty 77 i0 _ 1 24 Tryz.underlying24 hi hz0 hz1 hz2 rfl (by decide) v ls.length _ hown hb [.slice a cs.length c] rfl (fun u hu=>by
  rw[QY] at hu;rw[hu];rfl) hl (by decide)
 exact⟨v',w',hr,by rw[QT,Ql]; exact ho,hk,hs⟩
def Cx (w0 w:World) (ls:List ay):Prop:=∀ x∈ls,w.ownsRow w0.heap.size 73 5 x.val x.cs.length (x.cs.flatMap aj.vals)
theorem Cx.kept {w0 w w':World} {ls:List ay} (h:Cx w0 w ls) {s:Nat->Prop} (hk:Kept s w w') (hs:∀ b,w0.heap.size<=b->(∃ cur,GB w b 73 cur)->s b):Cx w0 w' ls:=fun x hx=>Zx (h x hx) hk fun g eg=>by
 obtain⟨cur,hc⟩:=iJ (h x hx) eg;exact hs g (Zy (h x hx) eg).1 ⟨cur,hc⟩
theorem Tz {W:World} {rb:Nat} {ns:List Int} {w:World} (xs:List (List aj)) (most:Nat) (hx:xs.length<=most) (hm:most<=1000) (h3:∀ x∈xs,x.length<=3) (h:mF W rb (aM (aM aS) xs++ns) w) :
  Calls Tryz.prog 80 #[.pointer (some (aD rb 0)),.int .i64 (most:Int),.func (.func 81) #[.pointer (some (aD rb 0))] #[]] w fun e w'=>∃ v ls,e=.returned v/\ls.map (·.cs)=xs/\w'.ownsRow w.heap.size 77 1 v ls.length (ls.map ay.val)/\Cx w w' ls/\mF W rb ns w'/\Kept (fun b=>b≠rb) w w':=by
 have hn:=XZ (n:=(xs.length:Int)) (ns:=xs.flatMap (aM aS)++ns) h;have J6:=Zh h.blk.lt;have H3:=Zh h3;clear h h3;go_enter Tryz.func80,Tryz.ntmps80;go_wp2_with fail;refine hn.mono ?_;rintro e w2 ⟨rfl,h2,hk2⟩;have H2:=Zh h2;have nK:=Zh hk2;have m1:(if (most:Int)<(xs.length:Int) then (most:Int) else (xs.length:Int))=(xs.length:Int):=Qs (by omega);have m2:min (xs.length:Int) (most:Int)=(xs.length:Int):=by omega
 have hl:xs.length<=1000:=by omega
 clear hn h2 hk2 hx hm;go_wp2;go_loopw [7,12] (fun v i wr=>∃ k:Nat,k<=xs.length/\i=.int .i64 k/\Hid (∃ ls:List ay,ls.map (·.cs)=xs.take k/\wr.ownsRow w.heap.size 77 1 v ls.length (ls.map ay.val)/\Cx w wr ls)/\Hid (mF W rb ((xs.drop k).flatMap (aM aS)++ns) wr/\Kept (fun b=>b≠rb) w wr)) (fun _ i _=>xs.length-(intOf i).toNat)
 case atStart=>exact⟨0,QQ _,rfl,⟨[],by simp,ZE _ _ _ _,fun x hx=>by cases hx⟩,H2.out,nK.out⟩
 case round=>
  obtain⟨k,hk,rfl,HO,HR⟩:=hrel;obtain⟨ls,hls,hown,hoc⟩:=HO.out;obtain⟨va,vm,vc,rfl⟩:=ZA hown;have Jr:=Zh hls;have HOW:=Zh hown;have HOC:=Zh hoc;clear hls hown hoc HO;by_cases hlt:k<xs.length
  ·have hd:(xs.drop k).flatMap (aM aS)++ns=aM aS (xs.getD k [])++((xs.drop (k+1)).flatMap (aM aS)++ns):=by
    rw[qx (aM aS) xs hlt];simp[List.getD,hlt]
   have yl:Hid (xs.take (k+1)=xs.take k++[xs.getD k []]):=by show _=_; rw[Qk hlt]; simp[List.getD,hlt]
   have HL3:Hid ((xs.getD k []).length<=3):=H3.out _ (by simp[List.getD,hlt]);rw[hd] at HR;have c0:=HR.out.1.blk.at 0;have hcall:=JJ (xs.getD k []) HL3.out HR.out.1;generalize xs.getD k []=x0 at *;have hne:(ng (aM aS x0++((xs.drop (k+1)).flatMap (aM aS)++ns))).toList.isEmpty=false:=wC _ _;generalize ng (aM aS x0++((xs.drop (k+1)).flatMap (aM aS)++ns))=S at *;have Mk:Hid (ls.length<=1000):=by
    have:=congrArg List.length Jr.out;rw[QU,Q6] at this
    show _<=_
    omega
   clear hd;go_wp2_with fail;refine hcall.mono ?_;rintro e w4 ⟨ca,cm,cc,rfl,mU,h4,hk4⟩;have hcm:cm=x0.length:=by
    rcases mU.2 with⟨e,h0⟩ | ⟨g,cap,cur,e,_⟩
    ·injection e with e1 e2 e3;omega
    ·injection e with e1 e2 e3
   subst hcm;have HB:=Zh (Q4 HR.out.2.size (Qq _));have yR:Hid (w4.ownsRow w.heap.size 77 1 (.slice va vm vc) ls.length (ls.map ay.val)):=Zx HOW.out hk4 fun g eg e=>XR HOW.out HR.out.1.blk (by decide) (e ▸ eg)
   have akC:=HOC.out.kept hk4 fun b hb hc e=>by have:=J6.out; omega
   obtain⟨v5,w5,pO,lD,hk5,YQ,YR,YS,rfl⟩:=FV w4 w.heap.size (.slice va vm vc) ls yR.out Mk.out (Q4 HR.out.2.size hk4.size) ca cc x0 24;have qw:Hid (∃ ls:List ay,ls.map (·.cs)=xs.take (k+1)/\w5.ownsRow w.heap.size 77 1 (.slice YQ YR YS) ls.length (ls.map ay.val)/\Cx w w5 ls):=by
    refine⟨_,by rw[Ql,Jr.out,yl.out]; rfl,lD,?_⟩;have hcl:Cx w w4 (ls++[⟨ca,cc,x0⟩]):=fun x hx=>by
     rcases QX.1 hx with hx | hx
     ·exact akC x hx
     ·rw[QY] at hx;subst hx;exact Z5 mU HR.out.2.size
    exact hcl.kept hk5 fun b hb ⟨cur,hc⟩=>XR yR.out hc (by decide)
   have Jd:Hid (mF W rb ((xs.drop (k+1)).flatMap (aM aS)++ns) w5/\Kept (fun b=>b≠rb) w w5):=by
    have hne:∀ b,b<w.heap.size->(Value.slice va vm vc).ownBlock≠some b:=fun b hb e=>by have:=(Zy HOW.out e).1; omega
    have hWw:W.heap.size<=w.heap.size:=Q4 h4.lo (Nat.le_of_lt J6.out);exact⟨h4.kept hk5 (XR yR.out h4.blk (by decide)) fun b hb=>hne b (by omega),(HR.out.2.trans hk4).trans' hk5 fun b hb _=>hne b hb⟩
   clear h4 hk4 hk5 lD hcall c0 hne mU akC;go_wp2_with (first | (at_builtin; refine ZN rfl (.tmp 19) (.tmp 22) 24 rfl (.slice va vm vc) (.slice (some (aD w4.heap.size 0)) 1 1) (.slice YQ YR YS) w5 rfl rfl pO ?_));go_roundw
   case rel=>exact⟨k+1,by omega,by go_num,qw.out,Jd.out⟩
   case measure=>simp[intOf]; omega
  ·obtain rfl:k=xs.length:=by omega
   rw[Qt] at Jr;rw[List.drop_length] at HR;go_wp2;go_ret;exact⟨_,ls,rfl,Jr.out,HOW.out,HOC.out,HR.out⟩
theorem NG {t:af} (h:qy t t.aH.toNat):(bA t).length=t.aH.toNat/\((bA t).getD 0 0=t.k0/\(bA t).getD 1 0=t.k1/\(bA t).getD 2 0=t.k2/\(bA t).getD 3 0=t.k3):=by
 have h1:=h.c1;have h3:=h.c3;obtain⟨z0,z1,z2,z3⟩:=h.kz;unfold bA;have hc:t.aH.toNat=1∨t.aH.toNat=2∨t.aH.toNat=3:=by omega
 rcases hc with hc | hc | hc <;> rw[hc] at z1 z2 ⊢
 ·exact⟨rfl,rfl,(z1 (by omega)).symm,(z2 (by omega)).symm,z3.symm⟩
 ·exact⟨rfl,rfl,rfl,(z2 (by omega)).symm,z3.symm⟩
 ·exact⟨rfl,rfl,rfl,rfl,z3.symm⟩
theorem NH (w:World) (g:Nat) (r:Int) (ks:List Int) (a:Option Addr) (m c base:Nat) (hg:GB w g 54 #[.int .i64 0,.int .i64 r,.int .i64 0,.int .i64 0,.int .i64 0,.int .i64 0]) (h1:1<=ks.length) (h4:ks.length<=4) (ho:w.ownsRow base 3 1 (.slice a m c) ks.length (ks.map (Value.int .i64))) (ty:TypeId) :
  ∃ w',(Builtin.copy_ #[22,22] ty #[.slice (some (aD g 2)) 4 4,.slice a m c]).run Tryz.prog w=.ok (.int .i64 (ks.length:Int)) w'/\GB w' g 54 #[.int .i64 0,.int .i64 r,.int .i64 (ks.getD 0 0),.int .i64 (ks.getD 1 0),.int .i64 (ks.getD 2 0),.int .i64 (ks.getD 3 0)]/\Kept (fun b=>b≠g) w w':=by
 rcases ZT ho with⟨e,h0⟩ | ⟨b,cap,e,_,_,hc⟩
 ·omega
 injection e with e1 e2 e3;subst e1;subst e2;subst e3;have hr:=run_copy_row (P:=Tryz.prog) w 22 22 ty 3 g 2 4 4 (aD b 0) ks.length c #[.int .i64 0,.int .i64 r,.int .i64 0,.int .i64 0,.int .i64 0,.int .i64 0] 54 (ks.map (Value.int .i64)) Tryz.underlying22 Tryz.uY hg (by rw[QU]; exact (Qy h4).symm) (fun j u hj=>by
  rw[addr_add,QE];exact hc j u hj) (by simp; omega) (fun u hu=>by obtain⟨a,_,rfl⟩:=Q0.1 hu; rfl)
 rw[QU] at hr;refine⟨_,hr,?_,⟨rfl,rfl,rfl,by simp,fun k _ hk=>setRow_other w g k _ hk⟩⟩;have hh:=setRow_heap w g _ ((#[Value.int .i64 0,.int .i64 r,.int .i64 0,.int .i64 0,.int .i64 0,.int .i64 0]).toList.take 2++ks.map (Value.int .i64)++(#[Value.int .i64 0,.int .i64 r,.int .i64 0,.int .i64 0,.int .i64 0,.int .i64 0]).toList.drop (2+ks.length)).toArray 54 (0,0) hg;have e:((#[Value.int .i64 0,.int .i64 r,.int .i64 0,.int .i64 0,.int .i64 0,.int .i64 0]).toList.take 2++ks.map (Value.int .i64)++(#[Value.int .i64 0,.int .i64 r,.int .i64 0,.int .i64 0,.int .i64 0,.int .i64 0]).toList.drop (2+ks.length)).toArray=#[.int .i64 0,.int .i64 r,.int .i64 (ks.getD 0 0),.int .i64 (ks.getD 1 0),.int .i64 (ks.getD 2 0),.int .i64 (ks.getD 3 0)]:=by
  match ks,h1,h4 with
  | [x],_,_ => rfl
  | [x,y],_,_ => rfl
  | [x,y,z],_,_ => rfl
  | [x,y,z,u],_,_ => rfl
 rw[e] at hh ⊢;exact hh
theorem NI {W:World} {rb:Nat} {ns:List Int} {w:World} (t:af) (ht:qy t t.aH.toNat) (h:mF W rb (bI t++ns) w) :
  Calls Tryz.prog 44 #[.pointer (some (aD rb 0))] w fun e w'=>e=.returned (.agg t.vals)/\mF W rb ns w'/\Kept (fun b=>b≠rb) w w':=by
 obtain⟨w1,hw1,hb1,hg1⟩:=bu w #[.int .i64 0,.int .i64 0,.int .i64 0,.int .i64 0,.int .i64 0,.int .i64 0] 54;have H1:Hid (mF W rb (t.rows::(aU (bA t)++ns)) w1):=h.step hb1;have HR:=Zh h.blk.lt;have HG:=Zh hg1;have lK:Hid (Kept (fun b=>b≠rb) w w1):=Q9 hb1 (fun _ h _=>h);have HT:Hid ((bA t).length=t.aH.toNat/\t.vals=#[.int .i64 ((bA t).length:Int),.int .i64 t.rows,.int .i64 ((bA t).getD 0 0),.int .i64 ((bA t).getD 1 0),.int .i64 ((bA t).getD 2 0),.int .i64 ((bA t).getD 3 0)]/\1<=(bA t).length/\(bA t).length<=4):=by
  obtain⟨h0,h1,h2,h3,h4⟩:=NG ht;have:=ht.c1;have:=ht.c3;refine⟨h0,?_,by omega,by omega⟩;rw[h1,h2,h3,h4,h0];unfold af.vals;rw[show ((t.aH.toNat:Nat):Int)=t.aH by omega]
 have hc1:=XZ H1.out;generalize bA t=ks at *;generalize t.rows=rows at *;rw[HT.out.2.1];have hsl:∀ (a:Addr) (x:World),(Instr.sliceAt 52 (.pointer (some a)) none none none).run Tryz.prog x=.ok (.slice (some a) 4 4) x:=fun a x=>by
  have hal:Tryz.prog.arrayLen 52=4:=by kernel_rfl
  have hel:Tryz.prog.elem 52=3:=by kernel_rfl
  rw[run_sliceAt_array_all x 52 a (by rw[hal,hel]; exact Tryz.underlying52),hal,hel];simp[go_sem,slicedAt]
 clear h hb1 hg1;go_enter Tryz.func44,Tryz.ntmps44;go_wp2_with fail;refine hc1.mono ?_;rintro e w2 ⟨rfl,h2,k2⟩;obtain⟨w3,hw3,hb3,hg3⟩:=bu w2 #[.int .i64 0,.int .i64 0,.int .i64 0,.int .i64 0,.int .i64 0,.int .i64 0] 54;have hB:w.heap.size<=w2.heap.size:=Q4 lK.out.size k2.size;have hE3:=(h2.step hb3).put ((lK.out.trans k2).trans (Q9 (s:=fun b=>b≠rb) hb3 (fun _ h _=>h))) HR.out hB [.int .i64 0,.int .i64 rows,.int .i64 0,.int .i64 0,.int .i64 0,.int .i64 0];have hG3:=xW [.int .i64 0,.int .i64 rows,.int .i64 0,.int .i64 0,.int .i64 0,.int .i64 0] hg3;have HKR:Hid (Kept (fun b=>b≠rb/\b≠w2.heap.size) w1 (nX w2.heap.size 0 [.int .i64 0,.int .i64 rows,.int .i64 0,.int .i64 0,.int .i64 0,.int .i64 0] w3)):=((k2.mono fun _ _ h=>h.1).trans (Q9 hb3 (fun _ h _=>h))).trans ((lQ _ 0 w3).mono fun _ _ h=>h.2);have d0:=hg3.at 0;have d1:=hg3.at 1;have d2:=hg3.at 2;have d3:=hg3.at 3;have d4:=hg3.at 4;have d5:=hg3.at 5;have f0:=hg3.frozen 0;have f1:=hg3.frozen 1;have f2:=hg3.frozen 2;have f3:=hg3.frozen 3;have f4:=hg3.frozen 4;have f5:=hg3.frozen 5;simp only[nX,Zk,Nat.reduceAdd,QE] at hE3 hG3 HKR;obtain⟨tb,htb⟩:∃ n,n=w2.heap.size:=⟨_,rfl⟩
 have HTB:=Zh htb;have ap3:Hid (w.heap.size<w2.heap.size):=Q8 HG.out.lt k2.size;have HB:=Zh hB;obtain⟨w4,hw4⟩:∃ x,(((((w3.setCell (aD w2.heap.size 0) (.int .i64 0)).setCell (aD w2.heap.size 1) (.int .i64 rows)).setCell (aD w2.heap.size 2) (.int .i64 0)).setCell (aD w2.heap.size 3) (.int .i64 0)).setCell (aD w2.heap.size 4) (.int .i64 0)).setCell (aD w2.heap.size 5) (.int .i64 0)=x:=⟨_,rfl⟩
 rw[hw4] at hE3 hG3 HKR;rw[<- htb] at hG3 HKR;have HE3:=Zh hE3;have wK:=Zh hG3;clear hE3 hG3 hg3 k2 h2 hc1 hw1 hb3 hB;go_upto_region 2 with fail
 try rw[hw4]
 rw[<- htb];clear hw4 htb hw3 d0 d1 d2 d3 d4 d5 f0 f1 f2 f3 f4 f5;have hcl:=kF ks 4 HT.out.2.2.2 (by omega) (HE3.out.1.step ((Qp _ _).drew));refine QL (S:=fun _=>True) (by kernel_rfl) trivial (fun hS=>?_);refine wt 0 (.pointer (some (aD tb 2))) hS ?_;refine wt 1 (.slice (some (aD tb 2)) 4 4) hS ?_;refine wt 2 (.pointer (some (aD rb 0))) hS ?_;refine wt 3 (.pointer (some (aD rb 0))) hS ?_;refine wt 4 (.func (.func 46) #[.pointer (some (aD rb 0))] #[]) hS ?_;refine wR 5 fun K hK=>?_
 go_simp;refine hcl.mono ?_;rintro e w5 ⟨v,rfl,lD,h5,k5⟩;obtain⟨va,vm,vc,rfl⟩:=ZA lD;have hk5:Kept (fun b=>b≠rb) w4 w5:=(Q9 (s:=fun b=>b≠rb) ((Qp _ _).drew) (fun _ h _=>h)).trans k5;have hg5:=wK.out.keep hk5 (by have:=HR.out; have:=HB.out; have:=HTB.out; omega);refine hK.out _ _ trivial fun hS=>?_
 clear hK K;obtain⟨w6,hr6,BA,k6⟩:=NH w5 tb rows ks va vm vc _ hg5 HT.out.2.2.1 HT.out.2.2.2 lD 3;have nZ:Hid (mF W rb ns w6/\Kept (fun b=>b≠rb) w w6/\Kept (fun b=>b≠rb/\b≠tb) w4 w6):=by
  have:=HB.out;have:=HTB.out;have:=HR.out;have:=h5.lo;exact⟨h5.kept k6 (by omega) fun b hb=>by omega,(HE3.out.2.trans hk5).trans' k6 fun b hb _=>by omega,(hk5.mono fun _ _ h=>h.1).trans (k6.mono fun _ _ h=>h.2)⟩
 have HG6:=Zh BA;clear hcl lD h5 k5 hk5 hg5 k6;refine wR 6 fun K hK=>?_
 go_simp;refine hK.out _ _ trivial fun hS=>?_
 clear hK K hr6;refine wt 7 (.pointer (some (aD tb 0))) hS ?_;have d0:=BA.at 0;have f0:=BA.frozen 0;refine wR 8 fun K hK=>?_
 go_simp;refine hK.out _ _ trivial fun hS=>?_
 clear hK K;refine wD ?_
 try simp only[pV]
 obtain⟨w7,hw7⟩:∃ x,w6.setCell (aD tb 0) (.int .i64 (ks.length:Int))=x:=⟨_,rfl⟩
 have hg7:GB w7 tb 54 #[.int .i64 (ks.length:Int),.int .i64 rows,.int .i64 (ks.getD 0 0),.int .i64 (ks.getD 1 0),.int .i64 (ks.getD 2 0),.int .i64 (ks.getD 3 0)]:=by rw[<- hw7]; exact BA.set 0 _
 have k7:Kept (fun b=>b≠tb) w6 w7:=by rw[<- hw7]; exact Zv _ _ _ (fun h=>h rfl)
 have hb1:=HB.out;have hb2:=HTB.out;have hb3:=HR.out;have hb4:=HG.out.lt;have hE:mF W rb ns w7/\Kept (fun b=>b≠rb) w w7:=by
  have:=nZ.out.1.lo;exact⟨nZ.out.1.kept k7 (by omega) fun b hb=>by omega,nZ.out.2.1.trans' k7 fun b hb _=>by omega⟩
 have hne:w.heap.size≠tb:=by
  have:=HKR.out.size;have h2:=wK.out.lt;have h3:=ap3.out;omega
 have hgR:=HG.out.keep ((HKR.out.trans nZ.out.2.2).trans (k7.mono fun _ _ h=>h.2)) ⟨by omega,hne⟩;have hF:=hE.1.put hE.2 HR.out (Qq w.heap.size) [.int .i64 (ks.length:Int),.int .i64 rows,.int .i64 (ks.getD 0 0),.int .i64 (ks.getD 1 0),.int .i64 (ks.getD 2 0),.int .i64 (ks.getD 3 0)];have FT:=xW [.int .i64 (ks.length:Int),.int .i64 rows,.int .i64 (ks.getD 0 0),.int .i64 (ks.getD 1 0),.int .i64 (ks.getD 2 0),.int .i64 (ks.getD 3 0)] hgR;obtain⟨e0,e1,e2,e3,e4,e5⟩:=hg7.k6;obtain⟨g0,g1,g2,g3,g4,g5⟩:=hgR.k6;have z0:=hgR.frozen 0;have z1:=hgR.frozen 1;have z2:=hgR.frozen 2;have z3:=hgR.frozen 3;have z4:=hgR.frozen 4;have z5:=hgR.frozen 5;simp only[nX,Zk,Nat.reduceAdd,QE] at hF FT;have HF:=Zh hF;have pW:=Zh FT;clear hF FT hgR hE hg7 k7 BA d0 f0 hb1 hb2 hb3 hb4 hsl;go_upto_region 3 with fail
 try rw[hw7]
 clear hw7;go_wp2;exact Xi (Xj rfl _ _ w.heap.size 54 #[.int .i64 (ks.length:Int),.int .i64 rows,.int .i64 (ks.getD 0 0),.int .i64 (ks.getD 1 0),.int .i64 (ks.getD 2 0),.int .i64 (ks.getD 3 0)] (0,0) _ rfl pW.out Tryz.underlying54 rfl (by kernel_rfl)) rfl ⟨rfl,HF.out⟩
theorem JL (W:World) (base:Nat) (v:Value) (ts:List af) (hown:W.ownsRow base 54 6 v ts.length (ts.flatMap oQ)) (hl:ts.length<=1000) (hb:base<=W.heap.size) (t:af) (ty:TypeId) :
  ∃ v' w',(Builtin.append_ #[23,23] ty #[v,.slice (some (aD W.heap.size 0)) 1 1]).run Tryz.prog (W.alloc (.cells #[.int .i64 t.aH,.int .i64 t.rows,.int .i64 t.k0,.int .i64 t.k1,.int .i64 t.k2,.int .i64 t.k3] 54))=.ok v' w'/\
   w'.ownsRow base 54 6 v' (ts++[t]).length ((ts++[t]).flatMap oQ)/\Kept (fun b=>v.ownBlock≠some b) W w'/\(∃ a m c,v' = .slice a m c):=by
 obtain⟨i0,hi,hz0,hz1,hz2⟩:=ZC Tryz.Oq;obtain⟨v',w',hr,ho,hk,hs,_⟩:=ZV (P:=Tryz.prog) W base 23 ty 54 i0 _ 6 48 Tryz.underlying23 hi hz0 hz1 hz2 rfl (by decide) v ts.length _ hown hb (oQ t) rfl (fun u hu=>by
  unfold oQ at hu;simp only[QP,XD,or_false] at hu;rcases hu with rfl | rfl | rfl | rfl | rfl | rfl <;> rfl) hl (by decide)
 exact⟨v',w',hr,by rw[QT,QS]; simpa using ho,hk,hs⟩
theorem TA {W:World} {rb:Nat} {ns:List Int} {w:World} (xs:List af) (most:Nat) (hx:xs.length<=most) (hm:most<=1000000) (hto:∀ t∈xs,qy t t.aH.toNat) (h:mF W rb (aM bI xs++ns) w) :
  Calls Tryz.prog 43 #[.pointer (some (aD rb 0)),.int .i64 (most:Int),.func (.func 44) #[.pointer (some (aD rb 0))] #[]] w fun e w'=>∃ v,e=.returned v/\w'.ownsRow w.heap.size 54 6 v xs.length (xs.flatMap oQ)/\mF W rb ns w'/\Kept (fun b=>b≠rb) w w':=by
 have hl:xs.length<=1000:=by have:=h.few.2 _ (List.mem_append_left _ Xo); have:=h.few.1; rw[QT] at this; unfold aM at this; rw[Q5] at this; have:=FU bI (fun _=>by simp[bI]) xs; omega
 have hn:=XZ (n:=(xs.length:Int)) (ns:=xs.flatMap bI++ns) h;have J6:=Zh h.blk.lt;have HTO:=Zh hto;clear h hto;go_enter Tryz.func43,Tryz.ntmps43;go_wp2_with fail;refine hn.mono ?_;rintro e w2 ⟨rfl,h2,hk2⟩;have H2:=Zh h2;have nK:=Zh hk2;have m1:(if (most:Int)<(xs.length:Int) then (most:Int) else (xs.length:Int))=(xs.length:Int):=Qs (by omega);have m2:min (xs.length:Int) (most:Int)=(xs.length:Int):=by omega
 clear hn h2 hk2 hx hm;go_wp2;go_loopw [7,12] (fun v i wr=>∃ k:Nat,k<=xs.length/\i=.int .i64 k/\Hid (wr.ownsRow w.heap.size 54 6 v (xs.take k).length ((xs.take k).flatMap oQ))/\Hid (mF W rb ((xs.drop k).flatMap bI++ns) wr/\Kept (fun b=>b≠rb) w wr)) (fun _ i _=>xs.length-(intOf i).toNat)
 case atStart=>exact⟨0,QQ _,rfl,ZE _ _ _ _,H2.out,nK.out⟩
 case round=>
  obtain⟨k,hk,rfl,HO,HR⟩:=hrel;obtain⟨va,vm,vc,rfl⟩:=ZA HO.out;by_cases hlt:k<xs.length
  ·have hd:(xs.drop k).flatMap bI++ns=bI (xs.getD k tz)++((xs.drop (k+1)).flatMap bI++ns):=by
    rw[qx bI xs hlt];simp[List.getD,hlt]
   have yl:Hid (xs.take (k+1)=xs.take k++[xs.getD k tz]):=by show _=_; rw[Qk hlt]; simp[List.getD,hlt]
   have HM:Hid (xs.getD k tz∈xs):=by show _∈_; simp[List.getD,hlt]
   rw[hd] at HR;have c0:=HR.out.1.blk.at 0;have hcall:=NI (xs.getD k tz) (HTO.out _ HM.out) HR.out.1;generalize xs.getD k tz=x0 at *;have hne:(ng (bI x0++((xs.drop (k+1)).flatMap bI++ns))).toList.isEmpty=false:=wC _ _;generalize ng (bI x0++((xs.drop (k+1)).flatMap bI++ns))=S at *;clear hd;have zt:=Zh fun w4 ho hb=>JL w4 w.heap.size (.slice va vm vc) (xs.take k) ho (by rw[Q6]; omega) hb x0 23
   obtain⟨aH,rows,k0,k1,k2,k3⟩:=x0;simp only[aj.arr,af.vals] at hcall zt;go_wp2_with fail;refine hcall.mono ?_;rintro e w4 ⟨rfl,h4,hk4⟩;have yR:Hid (w4.ownsRow w.heap.size 54 6 (.slice va vm vc) (xs.take k).length ((xs.take k).flatMap oQ)):=Zx HO.out hk4 fun g eg e=>XR HO.out HR.out.1.blk (by decide) (e ▸ eg)
   obtain⟨v5,w5,pO,lD,hk5,⟨YQ,YR,YS,rfl⟩⟩:=zt.out w4 yR.out (Q4 HR.out.2.size hk4.size);have qw:=Zh lD;have Jd:Hid (mF W rb ((xs.drop (k+1)).flatMap bI++ns) w5/\Kept (fun b=>b≠rb) w w5):=by
    have hne:∀ b,b<w.heap.size->(Value.slice va vm vc).ownBlock≠some b:=fun b hb e=>by have:=(Zy HO.out e).1; omega
    have hWw:W.heap.size<=w.heap.size:=Q4 h4.lo (Nat.le_of_lt J6.out);exact⟨h4.kept hk5 (XR yR.out h4.blk (by decide)) fun b hb=>hne b (by omega),(HR.out.2.trans hk4).trans' hk5 fun b hb _=>hne b hb⟩
   clear h4 hk4 hk5 lD hcall c0 hne zt;go_wp2_with (first | (at_builtin; refine ZN rfl (.tmp 19) (.tmp 22) 23 rfl (.slice va vm vc) (.slice (some (aD w4.heap.size 0)) 1 1) (.slice YQ YR YS) w5 rfl rfl pO ?_));go_roundw
   case rel=>exact⟨k+1,by omega,by go_num,by show World.ownsRow _ _ _ _ _ _ _; rw[yl.out]; exact qw.out,Jd.out⟩
   case measure=>simp[intOf]; omega
  ·obtain rfl:k=xs.length:=by omega
   rw[Qt] at HO;rw[List.drop_length] at HR;go_wp2;go_ret;exact⟨_,rfl,HO.out,HR.out⟩
def Cy (base:Nat) (xs:List Int) (v:Value) (w:World):Prop:=∃ iv:ah,v=iv.val/\iv.xs=xs/\iv.At w/\(∀ a,iv.ad=some a->base<=a.block/\a.block<w.heap.size)/\(iv.ad=none->iv.cap=0)/\iv.xs.length<=iv.cap
theorem Cy.kept {base rb:Nat} {xs:List Int} {v:Value} {w w':World} (h:Cy base xs v w) (hk:Kept (fun b=>b≠rb) w w') (hb:rb<base):Cy base xs v w':=by
 obtain⟨iv,h1,h2,h3,h4,h5,h6⟩:=h;exact⟨iv,h1,h2,Xu h3 hk fun _ a ea=>by have:=h4 a ea; omega,fun a ea=>⟨(h4 a ea).1,Q8 (h4 a ea).2 hk.size⟩,h5,h6⟩
theorem Cy.own {base base' n:Nat} {e:TypeId} {xs:List Int} {v:Value} {w:World} (h:w.ownsRow base e 1 v n (xs.map (Value.int .i64))) (hl:xs.length<=1000000) (hb:base'<=base):Cy base' xs v w:=by
 obtain⟨iv,h1,h2,h3,h4,h5,h6⟩:=fO h hl;exact⟨iv,h1,h2,h3,fun a ea=>⟨Q4 hb (h4 a ea),(Zy h (g:=a.block) (by rw[h1]; show (Value.slice iv.ad _ _).ownBlock=_; rw[ea]; rfl)).2⟩,h5,h6⟩
structure nY (base:Nat) (q p:ae) (w:World):Prop where
 at':p.At w
 same:aL q p
 tidy:Oz p
 keys:p.keys.xs.length<=p.keys.cap
 ord:p.ord.xs.length<=p.ord.cap
 new:p.New base
theorem nY.kept {base rb:Nat} {q p:ae} {w w':World} (h:nY base q p w) (hk:Kept (fun b=>b≠rb) w w') (hb:rb<base):nY base q p w':=by
 have key:∀ {iv:ah},iv.At w->(∀ a,iv.ad=some a->base<=a.block)->iv.At w':=fun h1 h2=>Xu h1 hk fun _ a ea=>by have:=h2 a ea; omega
 refine⟨⟨key h.at'.src h.new.src,⟨h.at'.wh.1,fun i hi=>?_,fun i hi=>aR.aT (h.at'.wh.2.2 i hi) hk fun _ a ea=>by have:=h.new.cl i hi a ea; omega⟩,key h.at'.keys h.new.keys,key h.at'.sums h.new.sums,key h.at'.aQ h.new.aQ,key h.at'.ord h.new.ord⟩,h.same,h.tidy,h.keys,h.ord,h.new⟩;obtain⟨b,off,e,hc⟩:=h.at'.wh.2.1 i hi;have:=h.new.wh _ e;exact⟨b,off,e,by rw[Zg (hk.block b (Zf hc) (by simp only at this; omega))]; exact hc⟩
theorem nY.mono {base b:Nat} {q p:ae} {w:World} (h:nY base q p w) (hb:b<=base):nY b q p w:=
 ⟨h.at',h.same,h.tidy,h.keys,h.ord,⟨fun a e=>Q4 hb (h.new.src a e),fun a e=>Q4 hb (h.new.wh a e),fun i hi a e=>Q4 hb (h.new.cl i hi a e),fun a e=>Q4 hb (h.new.keys a e),fun a e=>Q4 hb (h.new.sums a e),fun a e=>Q4 hb (h.new.aQ a e),fun a e=>Q4 hb (h.new.ord a e)⟩⟩
theorem NJ {α β:Type} (f:α->β) (g:β->List Int) (l:List α):aM g (l.map f)=aM (fun x=>g (f x)) l:=by
 unfold aM;rw[QU,List.flatMap_map]
theorem Yi {base:Nat} {q:ae} {w:World} {v0 v1 v3 v4 v5 v6:Value} {ls:List ay} {w0:World} (hb:w0.heap.size=base) {ts:List af} (hj:Dx ts q)
  (h0:Cy base q.src.xs v0 w) (h3:Cy base q.keys.xs v3 w) (h4:Cy base q.sums.xs v4 w) (h5:Cy base q.aQ.xs v5 w) (h6:Cy base q.ord.xs v6 w)
  (hls:ls.map (·.cs)=q.wh.map (·.cs)) (hown:w.ownsRow base 77 1 v1 ls.length (ls.map ay.val)) (hoc:Cx w0 w ls) :
  ∃ p:ae,p.cells=#[v0,v1,.bool q.group,v3,v4,v5,v6]/\nY base q p w:=by
 obtain⟨i0,rfl,x0,a0,n0,z0,_⟩:=h0;obtain⟨i3,rfl,x3,a3,n3,z3,c3⟩:=h3;obtain⟨i4,rfl,x4,a4,n4,z4,_⟩:=h4;obtain⟨i5,rfl,x5,a5,n5,z5,_⟩:=h5;obtain⟨i6,rfl,x6,a6,n6,z6,c6⟩:=h6;have hlen:ls.length=q.wh.length:=by simpa using congrArg List.length hls
 have hcs:∀ i,i<ls.length->(ls.getD i lz).cs=(q.wh.getD i lz).cs:=fun i hi=>by
  have h1:(ls.map (·.cs))[i]? = (q.wh.map (·.cs))[i]?:=by rw[hls]
  rw[QW,QW,ZG hi,ZG (by omega)] at h1;simp only[Option.map_some,Option.some.injEq] at h1;simp only[List.getD,ZG hi,ZG (show i<q.wh.length by omega),Option.getD_some];exact h1
 have hmem:∀ i,i<ls.length->ls.getD i lz∈ls:=fun i hi=>by simp[List.getD,hi]
 have hex:∀ x∈ls,aR w x.ad x.cs/\(∀ a,x.ad=some a->base<=a.block)/\(x.ad=none->x.cap=0)/\x.cs.length<=3:=fun x hx=>by
  obtain⟨i,hi,rfl⟩:=List.mem_iff_getElem.1 hx;have h3:ls[i].cs.length<=3:=by
   have h1:=(hj.cl i (by omega)).1;rw[<- hcs i hi] at h1
   simpa [List.getD,ZG hi] using h1
  have ho:=hoc _ hx;obtain⟨ad,cap,e,h1,h2⟩:=oP ho (by omega);have e':Value.slice ls[i].ad ls[i].cs.length ls[i].cap=.slice ad ls[i].cs.length cap:=e;injection e' with e1 e2 e3;refine⟨by rw[e1]; exact h1,fun a ea=>by rw[<- hb]; exact (h2 a (by rw[<- e1]; exact ea)).1,fun e0=>?_,h3⟩;rcases ho.2 with⟨e4,_⟩ | ⟨g,cap',cur,e4,_⟩
  ·have e5:Value.slice ls[i].ad ls[i].cs.length ls[i].cap=.slice none 0 0:=e4;injection e5
  ·have e5:Value.slice ls[i].ad ls[i].cs.length ls[i].cap=.slice (some (aD g 0)) ls[i].cs.length cap':=e4;injection e5 with e6;rw[e0] at e6
   cases e6
 obtain⟨ad,cap,rfl,hcl⟩:=qP hown (fun x hx=>(hex x hx).1) (by have:=hj.wh; omega);have hnil:ad=none->cap=0:=fun e0=>by
  subst e0;rcases hown.2 with⟨e4,_⟩ | ⟨g,cap',cur,e4,_⟩
  ·injection e4
  ·injection e4 with e6
   cases e6
 have s0:=hj.src.1;have s3:=hj.keys.1;have s4:=hj.sums.1;have s5:=hj.aQ.1;have s6:=hj.ord.1;refine⟨⟨i0,ad,cap,ls,q.group,i3,i4,i5,i6⟩,rfl,⟨a0,hcl,a3,a4,a5,a6⟩,⟨x0,hlen,hcs,rfl,x3,x4,x5,x6⟩,⟨⟨z0,by show i0.xs.length<=_; rw[x0]; omega⟩,⟨hnil,by show ls.length<=_; have:=hj.wh; omega⟩,fun i hi=>⟨(hex _ (hmem i hi)).2.2.1,by have:=(hex _ (hmem i hi)).2.2.2; show (ls.getD i lz).cs.length<=_; omega⟩,⟨z3,by show i3.xs.length<=_; rw[x3]; omega⟩,⟨z4,by show i4.xs.length<=_; rw[x4]; omega⟩,⟨z5,by show i5.xs.length<=_; rw[x5]; omega⟩,⟨z6,by show i6.xs.length<=_; rw[x6]; omega⟩⟩,c3,c6,⟨fun a ea=>(n0 a ea).1,fun a ea=>(Zy hown (g:=a.block) (by rw[show ad=some a from ea]; rfl)).1,fun i hi=>(hex _ (hmem i hi)).2.1,fun a ea=>(n3 a ea).1,fun a ea=>(n4 a ea).1,fun a ea=>(n5 a ea).1,fun a ea=>(n6 a ea).1⟩⟩
theorem NK {W:World} {rb:Nat} {ns:List Int} {w:World} {ts:List af} (q:ae) (hj:Dx ts q) (h:mF W rb (df q++ns) w) :
  Calls Tryz.prog 45 #[.pointer (some (aD rb 0))] w fun e w'=>∃ p:ae,e=.returned (.agg p.cells)/\nY w.heap.size q p w'/\mF W rb ns w'/\Kept (fun b=>b≠rb) w w':=by
 obtain⟨w1,hw1,hb1,hg1⟩:=bu w #[.slice none 0 0,.slice none 0 0,.bool false,.slice none 0 0,.slice none 0 0,.slice none 0 0,.slice none 0 0] 26;have HQ:Hid (df q++ns=aU q.src.xs++(aM (aM aS) (q.wh.map (·.cs))++(jJ q.group::(aU q.keys.xs++(aU q.sums.xs++(aU q.aQ.xs++(aU q.ord.xs++ns))))))):=by
  show _=_
  rw[NJ];unfold df dD;simp
 rw[HQ.out] at h;have HR:=Zh h.blk.lt;have HG:=Zh hg1;have lK:Hid (Kept (fun b=>b≠rb) w w1):=Q9 hb1 (fun _ h _=>h);have HJ:=Zh hj;have wO:Hid (∀ x,mF W rb (aM (aM aS) (q.wh.map (·.cs))++(jJ q.group::(aU q.keys.xs++(aU q.sums.xs++(aU q.aQ.xs++(aU q.ord.xs++ns)))))) x->Calls Tryz.prog 80 #[.pointer (some (aD rb 0)),.int .i64 8,.func (.func 81) #[.pointer (some (aD rb 0))] #[]] x fun e w'=>∃ v ls,e=.returned v/\ls.map (·.cs)=q.wh.map (·.cs)/\w'.ownsRow x.heap.size 77 1 v ls.length (ls.map ay.val)/\Cx x w' ls/\mF W rb (jJ q.group::(aU q.keys.xs++(aU q.sums.xs++(aU q.aQ.xs++(aU q.ord.xs++ns))))) w'/\Kept (fun b=>b≠rb) x w'):=fun x hx=>Tz (q.wh.map (·.cs)) 8 (by have:=hj.wh; rw[QU]; omega) (by omega) (fun y hy=>by
  obtain⟨c,hc,rfl⟩:=Q0.1 hy;obtain⟨i,hi,rfl⟩:=List.mem_iff_getElem.1 hc;have:=(hj.cl i hi).1
  simpa [List.getD,ZG hi] using this) hx
 have hc0:=kF q.src.xs 5 (by have:=hj.src.1; omega) (by omega) (h.step hb1);clear h hb1 hg1 hj;go_enter Tryz.func45,Tryz.ntmps45;go_wp2_with fail;refine hc0.mono ?_;rintro e w2 ⟨v0,rfl,ho,h2,k2⟩;have R0:=Zh (Cy.own ho (by have:=HJ.out.src.1; omega) (Qq _));obtain⟨a0,m0,c0,rfl⟩:=ZA ho;have hc:=wO.out w2 h2;have HB2:=Zh k2.size;clear hc0 ho h2 hw1;go_wp2_with fail;refine hc.mono ?_;rintro e w3 ⟨v1,ls,rfl,hls,ho,hoc,h3,k3⟩;have Jr:=Zh hls;have R1:=Zh (Z5 ho HB2.out);have R1C:Hid (Cx w1 w3 ls):=fun x hx=>Z5 (hoc x hx) HB2.out
 obtain⟨a1,m1,c1,rfl⟩:=ZA ho;have hcf:=xV h3;clear hc ho h3 hls hoc;go_wp2_with fail;refine hcf.mono ?_;rintro e w4 ⟨rfl,h4,k4⟩;have KA:=Zh (k3.trans k4);have hc:=kF q.keys.xs 4 (by have:=HJ.out.keys.1; omega) (by omega) h4;have jE:=Zh (Q4 HB2.out KA.out.size);have K4:=Zh k4;have K2:=Zh k2;clear hcf h4 k2 k3 k4;go_wp2_with fail;refine hc.mono ?_;rintro e w5 ⟨v3,rfl,ho,h5,k5⟩;have R3:=Zh (Cy.own ho (by have:=HJ.out.keys.1; omega) jE.out);have K5:=Zh k5;obtain⟨a3,m3,c3,rfl⟩:=ZA ho;have hc2:=kF q.sums.xs 4 (by have:=HJ.out.sums.1; omega) (by omega) h5;have jZ:=Zh (Q4 jE.out k5.size);clear hc ho h5 k5;have hc:=hc2;clear hc2;go_wp2_with fail;refine hc.mono ?_;rintro e w6 ⟨v4,rfl,ho,h6,k6⟩;have R4:=Zh (Cy.own ho (by have:=HJ.out.sums.1; omega) jZ.out);have K6:=Zh k6;obtain⟨a4,m4,c4,rfl⟩:=ZA ho;have hc2:=kF q.aQ.xs 8 (by have:=HJ.out.aQ.1; omega) (by omega) h6;have yE:=Zh (Q4 jZ.out k6.size);clear hc ho h6 k6;have hc:=hc2;clear hc2;go_wp2_with fail;refine hc.mono ?_;rintro e w7 ⟨v5,rfl,ho,h7,k7⟩;have R5:=Zh (Cy.own ho (by have:=HJ.out.aQ.1; omega) yE.out);have K7:=Zh k7;obtain⟨a5,m5,c5,rfl⟩:=ZA ho;have hc2:=kF q.ord.xs 4 (by have:=HJ.out.ord.1; omega) (by omega) h7;have HB7:=Zh (Q4 yE.out k7.size);clear hc ho h7 k7;have hc:=hc2;clear hc2;go_wp2_with fail;refine hc.mono ?_;rintro e w8 ⟨v6,rfl,ho,h8,k8⟩;have R6:=Zh (Cy.own ho (by have:=HJ.out.ord.1; omega) HB7.out);have K8:=Zh k8;obtain⟨a6,m6,c6,rfl⟩:=ZA ho;have k48:=K5.out.trans (K6.out.trans (K7.out.trans K8.out));have k58:=K6.out.trans (K7.out.trans K8.out);have k68:=K7.out.trans K8.out;have k38:=K4.out.trans k48;have k28:=KA.out.trans k48;have k18:=K2.out.trans k28;have hr:rb<w1.heap.size:=Nat.lt_trans HR.out HG.out.lt;obtain⟨p,hpc,hqr⟩:=Yi (w0:=w1) rfl HJ.out (R0.out.kept k28 hr) (R3.out.kept k58 hr) (R4.out.kept k68 hr) (R5.out.kept K8.out hr) R6.out Jr.out (Zx R1.out k38 fun g eg=>by have:=(Zy R1.out eg).1; omega) (R1C.out.kept k38 fun b hb _=>by omega)
 have p8:=HG.out.keep k18 (by have:=HR.out; omega);have hE:=h8.put (lK.out.trans k18) HR.out (Qq w.heap.size) [.slice a0 m0 c0,.slice a1 m1 c1,.bool q.group,.slice a3 m3 c3,.slice a4 m4 c4,.slice a5 m5 c5,.slice a6 m6 c6];have FT:=xW [.slice a0 m0 c0,.slice a1 m1 c1,.bool q.group,.slice a3 m3 c3,.slice a4 m4 c4,.slice a5 m5 c5,.slice a6 m6 c6] p8;have HQR:Hid (∃ p:ae,Ending.returned (.agg #[.slice a0 m0 c0,.slice a1 m1 c1,.bool q.group,.slice a3 m3 c3,.slice a4 m4 c4,.slice a5 m5 c5,.slice a6 m6 c6])=.returned (.agg p.cells)/\nY w.heap.size q p (nX w.heap.size 0 [.slice a0 m0 c0,.slice a1 m1 c1,.bool q.group,.slice a3 m3 c3,.slice a4 m4 c4,.slice a5 m5 c5,.slice a6 m6 c6] w8)):=⟨p,by rw[hpc],(hqr.kept (lQ _ 0 w8) HG.out.lt).mono (Nat.le_of_lt HG.out.lt)⟩
 obtain⟨d0,d1,d2,d3,d4,d5,d6⟩:=p8.k7;have f0:=p8.frozen 0;have f1:=p8.frozen 1;have f2:=p8.frozen 2;have f3:=p8.frozen 3;have f4:=p8.frozen 4;have f5:=p8.frozen 5;have f6:=p8.frozen 6;simp only[nX,Zk,Nat.reduceAdd,QE] at hE FT HQR;have HE:=Zh hE;have pW:=Zh FT;clear hE FT p8 k18 k28 k38 k48 k58 k68 hr hc ho h8 k8 hqr hpc;go_wp2;obtain⟨p,e1,e2⟩:=HQR.out;exact Xi (Xj rfl _ _ w.heap.size 26 #[.slice a0 m0 c0,.slice a1 m1 c1,.bool q.group,.slice a3 m3 c3,.slice a4 m4 c4,.slice a5 m5 c5,.slice a6 m6 c6] (0,0) _ rfl pW.out Tryz.underlying26 rfl (by kernel_rfl)) rfl ⟨p,e1,e2,HE.out⟩
theorem JM {w:World} {base:Nat} {e:TypeId} {v:Value} {ts:List af} (h:w.ownsRow base e 6 v ts.length (ts.flatMap oQ)) (hl:ts.length<=1000):∃ ad cap,v=.slice ad ts.length cap/\aJ w ad ts/\(ad=none->cap=0):=by
 obtain⟨ad,cap,rfl,ht⟩:=Aj h hl;refine⟨ad,cap,rfl,ht,fun e=>?_⟩;subst e;rcases h.2 with⟨e4,_⟩ | ⟨g,cap',cur,e4,_⟩
 ·injection e4
 ·injection e4 with e6
  cases e6
theorem Yj {w:World} {ts:List af} (q:ae) (hj:Dx ts q) (cap st:Int) (picks:List Int) (hC:FR w) (hf:iK 1000 (bS ts q cap picks st)) (hp:picks.length<=900) :
  Calls Tryz.prog 22 #[.string ⟨(fH (bS ts q cap picks st)).toArray⟩] w fun e w'=>∃ (ca:Option Addr) (cc:Nat) (p:ae) (pv:Value),e=.returned (.agg (#[.slice ca ts.length cc]++p.cells ++ #[.int .i64 cap,pv,.int .i64 st]))/\aJ w' ca ts/\(ca=none->cc=0)/\nY w.heap.size q p w'/\Cy w.heap.size picks pv w'/\Below w.heap.size w w':=by
 obtain⟨w1,hw1,hb1,hg1⟩:=bu w #[.slice none 0 0,.slice none 0 0,.slice none 0 0,.bool false,.slice none 0 0,.slice none 0 0,.slice none 0 0,.slice none 0 0,.int .i64 0,.slice none 0 0,.int .i64 0] 66;obtain⟨w2,hw2,hb2,hg2⟩:=bu w1 #[.string ⟨(fH (bS ts q cap picks st)).toArray⟩] 107;have HJN:Hid (bS ts q cap picks st=(ts.length:Int)::(ts.flatMap bI++(df q++(cap::(aU picks++(st::[])))))):=rfl;have hB2:=aG hb1 hb2;have hws:Calls Tryz.prog 42 #[.pointer (some (aD w1.heap.size 0))] w2 fun e w'=>(∃ s,e=.returned (.string s))/\mF w w1.heap.size (aM bI ts++(df q++(cap::(aU picks++(st::[]))))) w'/\Kept (fun b=>b≠w1.heap.size) w2 w':=by
  have hl:=xJ (ns:=bS ts q cap picks st) fun n hn=>by have:=hf.2 n hn; omega
  have hl2:=hf.1;have hc:=hC w2 hB2 ⟨(fH (bS ts q cap picks st)).toArray⟩ (by show (fH (bS ts q cap picks st)).toArray.size<=_; simp only[Zj]; omega);have e:Lib.cut (ByteArray.mk (fH (bS ts q cap picks st)).toArray).data.toList [32]=([115,99,111,117,116],jr (bS ts q cap picks st),true):=by rw[HJN.out]; exact UD _ _
  rw[e] at hc;refine (DR w1.heap.size _ ⟨#[115,99,111,117,116]⟩ (ng (bS ts q cap picks st)) _ w2 hg2 hc).mono ?_;rintro e w' ⟨rfl,h2,h3⟩;exact⟨⟨_,rfl⟩,⟨hC,hb1.size,hB2.trans (h3.below hB2.size fun b hb=>by have:=hg1.lt; have:=hb1.size; omega),h2,hf⟩,h3⟩
 have ap6:Hid (Kept (fun b=>b≠w1.heap.size) w1 w2):=Q9 hb2 (fun _ h _=>h);have HG:=Zh hg1;have HB1:=Zh hb1;have J6:=Zh hg2.lt;have HJ:=Zh hj;generalize (⟨(fH (bS ts q cap picks st)).toArray⟩:ByteArray)=TX at *;clear hj hb1 hg1 hb2 hg2 hB2 hC hf HJN;go_enter Tryz.func22,Tryz.ntmps22;go_wp2_with fail;refine hws.mono ?_;rintro e w3 ⟨⟨s,rfl⟩,h3,k3⟩;have hc:=TA ts 8 (by have:=HJ.out.tabs.1; omega) (by omega) HJ.out.tabs.2 h3;have pK:=Zh (ap6.out.trans k3);have Gc:=Zh (Q8 J6.out k3.size);clear hws h3 k3 hw1 hw2;go_wp2_with fail;refine hc.mono ?_;rintro e w4 ⟨v,rfl,mU,h4,k4⟩;obtain⟨ta,tm,tc,rfl⟩:=ZA mU;have yR:=Zh mU;have JF:=Zh (pK.out.trans k4);have OD:=Zh (Q8 Gc.out k4.size);have hcq:=NK q HJ.out h4;clear hc mU h4 k4;go_wp2_with fail;refine hcq.mono ?_;rintro e w5 ⟨p,rfl,hq5,h5,k5⟩;obtain⟨x0,y0,z0,x1,y1,z1,gr,x3,y3,z3,x4,y4,z4,x5,y5,z5,x6,y6,z6,Re⟩:∃ x0 y0 z0 x1 y1 z1 gr x3 y3 z3 x4 y4 z4 x5 y5 z5 x6 y6 z6,p.cells=#[.slice x0 y0 z0,.slice x1 y1 z1,.bool gr,.slice x3 y3 z3,.slice x4 y4 z4,.slice x5 y5 z5,.slice x6 y6 z6]:=⟨_,_,_,_,_,_,_,_,_,_,_,_,_,_,_,_,_,_,_,rfl⟩
 rw[Re];have Ua:=Zh Re;have HQ5:=Zh hq5;have qw:Hid (w5.ownsRow w3.heap.size 54 6 (.slice ta tm tc) ts.length (ts.flatMap oQ)):=Zx yR.out k5 fun g eg=>by have:=(Zy yR.out eg).1; have:=Gc.out; omega
 have HK5:=Zh (JF.out.trans k5);have Gd:=Zh (Q8 OD.out k5.size);have hcn:=XZ h5;clear hcq hq5 h5 k5 Re yR;go_wp2_with fail;refine hcn.mono ?_;rintro e w6 ⟨rfl,h6,k6⟩;have hcp:=kF picks 1000000 (by omega) (by omega) h6;have K6:=Zh k6;clear hcn h6 k6;go_wp2_with fail;refine hcp.mono ?_;rintro e w7 ⟨v,rfl,Cn,h7,k7⟩;obtain⟨pa,pm,pc,rfl⟩:=ZA Cn;have HO7:=Zh Cn;have HS6:=Zh (Q8 Gd.out K6.out.size);have hcs:=XZ h7;have K7:=Zh k7;clear hcp h7 k7 Cn;go_wp2_with fail;refine hcs.mono ?_;rintro e w8 ⟨rfl,h8,k8⟩;have k58:=K6.out.trans (K7.out.trans k8);have k18:=HK5.out.trans k58;have hne:w.heap.size≠w1.heap.size:=by have:=HG.out.lt; omega
 have p8:=HG.out.keep k18 hne;have FT:=xW [.slice ta tm tc,.slice x0 y0 z0,.slice x1 y1 z1,.bool gr,.slice x3 y3 z3,.slice x4 y4 z4,.slice x5 y5 z5,.slice x6 y6 z6,.int .i64 cap,.slice pa pm pc,.int .i64 st] p8;have hkz:=lQ (B:=w.heap.size) [.slice ta tm tc,.slice x0 y0 z0,.slice x1 y1 z1,.bool gr,.slice x3 y3 z3,.slice x4 y4 z4,.slice x5 y5 z5,.slice x6 y6 z6,.int .i64 cap,.slice pa pm pc,.int .i64 st] 0 w8;have gQ:Hid (aJ (nX w.heap.size 0 [.slice ta tm tc,.slice x0 y0 z0,.slice x1 y1 z1,.bool gr,.slice x3 y3 z3,.slice x4 y4 z4,.slice x5 y5 z5,.slice x6 y6 z6,.int .i64 cap,.slice pa pm pc,.int .i64 st] w8) ta ts/\tm=ts.length/\(ta=none->tc=0)/\nY w.heap.size q p (nX w.heap.size 0 [.slice ta tm tc,.slice x0 y0 z0,.slice x1 y1 z1,.bool gr,.slice x3 y3 z3,.slice x4 y4 z4,.slice x5 y5 z5,.slice x6 y6 z6,.int .i64 cap,.slice pa pm pc,.int .i64 st] w8)/\Cy w.heap.size picks (.slice pa pm pc) (nX w.heap.size 0 [.slice ta tm tc,.slice x0 y0 z0,.slice x1 y1 z1,.bool gr,.slice x3 y3 z3,.slice x4 y4 z4,.slice x5 y5 z5,.slice x6 y6 z6,.int .i64 cap,.slice pa pm pc,.int .i64 st] w8)/\Below w.heap.size w (nX w.heap.size 0 [.slice ta tm tc,.slice x0 y0 z0,.slice x1 y1 z1,.bool gr,.slice x3 y3 z3,.slice x4 y4 z4,.slice x5 y5 z5,.slice x6 y6 z6,.int .i64 cap,.slice pa pm pc,.int .i64 st] w8)):=by
  have l0:=HG.out.lt;have l3:=Gc.out;have l4:=OD.out;have l6:=HS6.out;have ho8:=Zx (Zx qw.out k58 fun g eg=>by have:=(Zy qw.out eg).1; omega) hkz fun g eg=>by have:=(Zy qw.out eg).1; omega
  obtain⟨ad,cp,e,OC,hnil⟩:=JM ho8 (by have:=HJ.out.tabs.1; omega);injection e with e1 e2 e3;subst e1;subst e3;have hq8:=((HQ5.out.kept k58 l4).kept hkz (by omega)).mono (b:=w.heap.size) (by omega);have hp7:Cy w6.heap.size picks (.slice pa pm pc) w7:=Cy.own HO7.out (by omega) (Qq _);obtain⟨iv,i1,i2,i3,i4,i5,i6⟩:=(hp7.kept k8 l6).kept hkz (by omega);have hk0:Kept (fun b=>b<w.heap.size) w (nX w.heap.size 0 [.slice ta tm tc,.slice x0 y0 z0,.slice x1 y1 z1,.bool gr,.slice x3 y3 z3,.slice x4 y4 z4,.slice x5 y5 z5,.slice x6 y6 z6,.int .i64 cap,.slice pa pm pc,.int .i64 st] w8):=((Q9 HB1.out (fun _ h _=>h)).trans (k18.mono fun b _ hb=>by omega)).trans (hkz.mono fun b _ hb=>by omega);exact⟨OC,e2,hnil,hq8,⟨iv,i1,i2,i3,fun a ea=>by have:=i4 a ea; omega,i5,i6⟩,hk0.below (Qq _) fun b hb=>hb⟩
 have d0:=p8.at 0;have f0:=p8.frozen 0;have d1:=p8.at 1;have f1:=p8.frozen 1;have d2:=p8.at 2;have f2:=p8.frozen 2;have d3:=p8.at 3;have f3:=p8.frozen 3;have d4:=p8.at 4;have f4:=p8.frozen 4;have d5:=p8.at 5;have f5:=p8.frozen 5;have d6:=p8.at 6;have f6:=p8.frozen 6;have d7:=p8.at 7;have f7:=p8.frozen 7;have d8:=p8.at 8;have f8:=p8.frozen 8;have d9:=p8.at 9;have f9:=p8.frozen 9;have d10:=p8.at 10;have f10:=p8.frozen 10;simp only[nX,Zk,Nat.reduceAdd,QE] at FT gQ;have pW:=Zh FT;clear FT hkz p8 k58 k18 k8 h8 hcs hne;go_wp2;obtain⟨g1,g2,g3,g4,g5,g6⟩:=gQ.out;refine Xi (Xj rfl _ _ w.heap.size 66 #[.slice ta tm tc,.slice x0 y0 z0,.slice x1 y1 z1,.bool gr,.slice x3 y3 z3,.slice x4 y4 z4,.slice x5 y5 z5,.slice x6 y6 z6,.int .i64 cap,.slice pa pm pc,.int .i64 st] (0,0) _ rfl pW.out Tryz.underlying66 rfl (by kernel_rfl)) rfl ⟨ta,tc,p,.slice pa pm pc,?_,g1,g3,g4,g5,g6⟩;rw[Ua.out,g2];rfl
theorem FW {rk:Nat->Int} {ts:List af} {q:ae} {conc:List Nat} {pick:Int} {σ:fe} (h:1<=σ.status/\σ.status<=3):1<=(fP rk ts q conc pick σ).status/\(fP rk ts q conc pick σ).status<=3:=by
 have hk:∀ s l τ,(eH rk ts q s l τ).status=τ.status:=fun s l τ=>by
  unfold eH;split <;> rfl
 have hd:∀ (t:bg) (τ:fe),(sW rk ts q conc t τ).status=τ.status:=fun t τ=>by unfold sW; split <;> exact hk ..
 unfold fP lG;simp only;split
 ·rw[hd];exact h
 ·simp only;split <;> omega
theorem ni {rk:Nat->Int} {ts:List af} {q:ae} {conc:List Nat} {picks:List Int} {σ:fe} (h:1<=σ.status/\σ.status<=3):∀ d,1<=(runN rk ts q conc picks d 0 σ).status/\(runN rk ts q conc picks d 0 σ).status<=3
 | 0 => h
 | d+1 => by
  rw[jD];split
  ·exact FW (ni h d)
  ·exact ni h d
theorem mE.kept {ts:List af} {room:Nat} {P:Bl} {w w':World} (h:mE ts room P w) {s:Nat->Prop} (hk:Kept s w w') (hs:s P.pb):mE ts room P w':=⟨h.blk.keep hk hs,h.tabs,h.qat,h.nil⟩
structure Has (ts:List af) (N:Nat->Prop) (q:ae) (room:Nat) (w0:World) (P:Bl) (M:Nat->Prop) (σ:fe) (w:World):Prop where
 env:Env P.f ts P.q P.W
 same:aL q P.q
 se:∃ X L,dn P.W P.f ts P.q X M w P.sb L σ/\∀ b,(N b∨b=P.pb)->X b
 cell:w.cell? (aD P.pb 9)=some (.pointer (some (aD P.sb 0)))
 new:∀ b,M b->w0.heap.size<=b
 pb:w0.heap.size<=P.pb
 Tg:¬ M P.pb
 below:Below w0.heap.size w0 w
 keep:mE ts room P w
 ok:E5 P.q σ
theorem p9.has {ts:List af} {N:Nat->Prop} {q:ae} {room:Nat} {w:World} {P:Bl} {M:Nat->Prop} {w':World} (h:p9 ts N q room w P M w') (h1:1<=room):Has ts N q room w P M (dK aV ts P.q room) w':=by
 obtain⟨L,s⟩:=h.se;exact⟨h.env,h.same,⟨_,L,s,fun b hb=>.inl hb⟩,h.cell,h.new,h.pb,h.Tg,h.below,h.keep,Dw aV ts P.q room h.env.one h.env.five h.env.eight h1⟩
theorem Has.elder {ts:List af} {N:Nat->Prop} {q:ae} {room:Nat} {w0 x:World} {P:Bl} {M:Nat->Prop} {σ:fe} {w:World} (h:Has ts N q room x P M σ w) (hb:Below w0.heap.size w0 x):Has ts N q room w0 P M σ w:=
 ⟨h.env,h.same,h.se,h.cell,fun b hm=>Q4 hb.size (h.new b hm),Q4 hb.size h.pb,h.Tg,aG hb h.below,h.keep,h.ok⟩
theorem Has.step {ts:List af} {N:Nat->Prop} {q:ae} {room:Nat} {w0:World} {P:Bl} {M:Nat->Prop} {σ:fe} {w w':World} (h:Has ts N q room w0 P M σ w) (hb:Below w.heap.size w w'):Has ts N q room w0 P M σ w':=by
 obtain⟨X,L,s,hX⟩:=h.se;exact⟨h.env,h.same,⟨X,L,s.below hb,hX⟩,cB hb h.cell,h.new,h.pb,h.Tg,aG h.below hb,h.keep.kept (Q9 (s:=fun b=>b<w.heap.size) hb (fun _ h _=>h)) (Zf h.cell),h.ok⟩
theorem Has.re {ts:List af} {N:Nat->Prop} {q p:ae} {room:Nat} {w0:World} {P:Bl} {M:Nat->Prop} {σ:fe} {w:World} (h:Has ts N p room w0 P M σ w) (hq:aL q p):Has ts N q room w0 P M σ w:=
 ⟨h.env,hq.trans h.same,h.se,h.cell,h.new,h.pb,h.Tg,h.below,h.keep,h.ok⟩
theorem Has.run {ts:List af} {N:Nat->Prop} {q:ae} {room:Nat} {w0:World} {P:Bl} {M:Nat->Prop} {σ:fe} {w:World} (h:Has ts N q room w0 P M σ w) (n:Nat) (hpl:σ.picks.length+n<=900) (tick:Int) (po:Option Addr) (pc:Nat) (ps:List Int) (hp:au w po ps) (hpb:∀ c,po=some c->¬ M c.block) :
  Calls Tryz.prog 8 #[.pointer (some (aD P.pb 0)),.int .i64 (n:Int),.int .i64 tick,.slice po ps.length pc] w fun e w'=>∃ M' v,e=.returned (.int .i64 v)/\v=(goT aV ts P.q (aA ts P.q) ps n tick σ).status/\Has ts N q room w0 P M' (goT aV ts P.q (aA ts P.q) ps n tick σ) w'/\Kept (fun c=>¬ M c) w w':=by
 obtain⟨X,L,s,hX⟩:=h.se;have hr:=OU h.env s h.ok n hpl tick ⟨po,pc,ps⟩ hp hpb;refine (DL P.pb P.sb n tick po ps.length pc w h.cell hr (fun e w' hr=>by
  obtain⟨σ',_,e1,_⟩:=hr;exact⟨_,e1⟩)).mono ?_
 rintro e w' ⟨σ',rfl,rfl,L',X',M',hs,hk,h1,h2,h3⟩;refine⟨M',_,rfl,rfl,⟨h.env,h.same,⟨X',L',hs,fun b hb=>(h3 b).2 (.inl (hX b hb))⟩,XP hk h.cell h.Tg,fun b hb=>?_,h.pb,fun hb=>?_,h.below.trans (hk.below h.below.size fun b hb hm=>by have:=h.new b hm; omega),h.keep.kept hk h.Tg,(MQ (ZQ ts P.q) h.env.five ps h.ok n tick).1⟩,hk⟩
 ·rcases h2 b hb with h4 | h4
  ·exact h.new b h4
  ·exact Q4 h.below.size h4
 ·rcases h2 _ hb with h4 | h4
  ·exact h.Tg h4
  ·have h5:P.pb<w.heap.size:=Zf h.cell;omega
theorem NL {base:Nat} {w:World} (ca:Option Addr) (cc:Nat) (ts:List af) (q p:ae) (pv:Value) (room:Nat) (picks:List Int) (st:Int) (N:Nat->Prop)
  (ht:aJ w ca ts) (hn:ca=none->cc=0) (hq:nY base q p w) (hp:Cy base picks pv w) (hs:cZ w 0) (Cw:q.check ts=0) (h1:1<=room) (h2:room<=1000) (hN:∀ b,N b->b<w.heap.size) (h0:¬ N 0) (hw0:0<w.heap.size) (hst:st≠4) (hl:picks.length<=900) :
  Calls Tryz.prog 21 #[.agg (#[.slice ca ts.length cc]++p.cells ++ #[.int .i64 (room:Int),pv,.int .i64 st])] w fun e w'=>∃ P M,e=.returned (.tuple #[.pointer (some (aD P.pb 0)),.int .i64 0])/\Has ts N q room w P M (goT aV ts P.q (aA ts P.q) picks picks.length (-1) (dK aV ts P.q room)) w':=by
 obtain⟨p0,p1,p2,p3,p4,p5,p6,Re⟩:∃ v0 v1 v2 v3 v4 v5 v6,p.cells=#[v0,v1,v2,v3,v4,v5,v6]:=⟨_,_,_,_,_,_,_,rfl⟩
 obtain⟨iv,rfl,hix,hia,hib,hin,hic⟩:=hp;obtain⟨pa,pc,px⟩:=iv;simp only at hix hib hin hic;subst hix;rw[Re]
 show Calls Tryz.prog 21 #[.agg #[.slice ca ts.length cc,p0,p1,p2,p3,p4,p5,p6,.int .i64 (room:Int),.slice pa px.length pc,.int .i64 st]] w _
 obtain⟨w1,hw1,hb1,hg1⟩:=bu w #[.slice ca ts.length cc,p0,p1,p2,p3,p4,p5,p6,.int .i64 (room:Int),.slice pa px.length pc,.int .i64 st] 66;have hST:=DF ca cc ts p room N w1 (ht.below hb1) hn (hq.at'.below hb1) hq.keys hq.ord hq.tidy (Z9 hb1 hs) (by rw[hq.same.check ts]; exact Cw) h1 h2 (fun b h=>Q8 (hN b h) hb1.size) h0 (Q8 hw0 hb1.size);rw[Re] at hST;have c0:=hg1.at 0;have c1:=hg1.at 1;have c2:=hg1.at 2;have c3:=hg1.at 3;have c4:=hg1.at 4;have c5:=hg1.at 5;have c6:=hg1.at 6;have c7:=hg1.at 7;have c8:=hg1.at 8;have c9:=hg1.at 9;have c10:=hg1.at 10;have HB1:=Zh hb1;have HL:=Zh hg1.lt;have HI:Hid (au w1 pa px/\∀ a,pa=some a->a.block<w.heap.size):=⟨Qo hb1 hia,fun a ea=>(hib a ea).2⟩
 have HQS:=Zh hq.same;have H1:=Zh h1;have hs4:(st==4)=false:=by simpa using hst
 clear ht hn hq hs Cw h1 h2 hN h0 hw0 hst Re hia hib hin hic hb1 hg1;go_enter Tryz.func21,Tryz.ntmps21;go_wp2_with fail;refine hST.mono ?_;rintro e w2 ⟨P,M,rfl,hB⟩;have d9:=cB hB.below c9;have d10:=cB hB.below c10;have hH:=hB.has H1.out;have hR:=hH.run px.length (by show 0+px.length<=900; omega) (-1) pa pc px (Qo hB.below HI.out.1) (fun a ea hm=>by
  have:=hB.new _ hm;have:=HI.out.2 a ea;have:=HB1.out.size;omega)
 have HNM:Hid (¬ M w.heap.size):=fun hm=>by
  have:=hB.new _ hm;have:=HL.out;omega
 have HHS:=Zh hH;clear hST hB hH hw1 c0 c1 c2 c3 c4 c5 c6 c7 c8 c9 c10;obtain⟨pbv,NM⟩:∃ n,n=P.pb:=⟨_,rfl⟩
 rw[<- NM] at hR ⊢;have YH:=Zh NM;clear NM;go_wp2_with fail;refine hR.mono ?_;rintro e w3 ⟨M',v,rfl,-,hH3,hk3⟩;have e10:=XP hk3 d10 HNM.out;have HH3:=Zh hH3;clear hR hH3 hk3 d9 d10;go_wp2;go_ret2;exact⟨P,M',by rw[<- YH.out]; rfl,(HH3.out.re HQS.out).elder HB1.out⟩
theorem FR.below {W w:World} (h:FR W) (hb:Below W.heap.size W w):FR w:=fun x hx=>h x (aG hb hx)
theorem Has.save {ts:List af} {N:Nat->Prop} {q:ae} {room:Nat} {w0:World} {P:Bl} {M:Nat->Prop} {σ:fe} {w:World} (h:Has ts N q room w0 P M σ w) (hj:Dx ts q) (hI:qZ w) (hr:room<=1000) (hp:iK 400 σ.picks) (hst:σ.status.natAbs<=1000000) :
  Calls Tryz.prog 10 #[.pointer (some (aD P.pb 0))] w fun e w'=>e=.returned (.string ⟨(fH (bS ts q room σ.picks σ.status)).toArray⟩)/\Below w.heap.size w w':=by
 obtain⟨X,L,s,_⟩:=h.se;have:=JI h.keep s (hj.same h.same) hI hr hp hst;rw[h.same.VV] at this;exact this
theorem Yk {w:World} {ts:List af} {q:ae} (hj:Dx ts q) (room:Nat) (N:Nat->Prop) (σ:fe) (hC:FR w) (hI:qZ w) (hs:cZ w 0) (Cw:q.check ts=0) (h1:1<=room) (h2:room<=1000) (hN:∀ b,N b->b<w.heap.size) (h0:¬ N 0) (hw0:0<w.heap.size)
  (hst:1<=σ.status/\σ.status<=3) (hp:iK 400 σ.picks) (hrep:goT aV ts q (aA ts q) σ.picks σ.picks.length (-1) (dK aV ts q room)=σ) :
  Calls Tryz.prog 9 #[.string ⟨(fH (bS ts q room σ.picks σ.status)).toArray⟩] w fun e w'=>∃ P M,e=.returned (.tuple #[.pointer (some (aD P.pb 0)),.int .i64 0])/\Has ts N q room w P M σ w':=by
 have hf:=(hj.VV (cap:=(room:Int)) (by omega) hp (st:=σ.status) (by omega)).mono (k:=1000) (by omega);have hRD:=Yj q hj (room:Int) σ.status σ.picks hC hf (by have:=hp.1; omega);have HFO:Hid (∀ (x:World) (ca:Option Addr) (cc:Nat) (p:ae) (pv:Value),Below w.heap.size w x->aJ x ca ts->(ca=none->cc=0)->nY w.heap.size q p x->Cy w.heap.size σ.picks pv x->Calls Tryz.prog 21 #[.agg (#[.slice ca ts.length cc]++p.cells ++ #[.int .i64 (room:Int),pv,.int .i64 σ.status])] x fun e w'=>∃ P M,e=.returned (.tuple #[.pointer (some (aD P.pb 0)),.int .i64 0])/\Has ts N q room x P M σ w'):=fun x ca cc p pv hb ht hn hq hpp=>by
  refine (NL ca cc ts q p pv room σ.picks σ.status N ht hn hq hpp (Z9 hb hs) Cw h1 h2 (fun b h=>Q8 (hN b h) hb.size) h0 (Q8 hw0 hb.size) (by omega) (by have:=hp.1; omega)).mono ?_;rintro e w' ⟨P,M,rfl,hH⟩;refine⟨P,M,rfl,?_⟩;rw[hH.same.goT,hH.same.conc,hH.same.dK,hrep] at hH;exact hH
 have Yl:Hid (∀ (x:World) (P:Bl) (M:Nat->Prop),Below w.heap.size w x->Has ts N q room w P M σ x->Calls Tryz.prog 10 #[.pointer (some (aD P.pb 0))] x fun e w'=>e=.returned (.string ⟨(fH (bS ts q room σ.picks σ.status)).toArray⟩)/\Below x.heap.size x w'):=fun x P M hb h=>h.save hj (hI.below hb) h2 hp (by omega)
 generalize (⟨(fH (bS ts q room σ.picks σ.status)).toArray⟩:ByteArray)=TX at *;clear hj hC hI hs Cw h1 h2 hN h0 hw0 hst hp hrep hf;go_enter Tryz.func9,Tryz.ntmps9;go_wp2_with fail;refine hRD.mono ?_;rintro e w1 ⟨ca,cc,p,pv,rfl,ht,hn,hq,hpp,hb1⟩;have hF:=HFO.out w1 ca cc p pv hb1 ht hn hq hpp;have HB1:=Zh hb1;generalize (#[.slice ca ts.length cc]++p.cells ++ #[.int .i64 (room:Int),pv,.int .i64 σ.status]:Array Value)=JA at *;clear hRD ht hn hq hpp hb1;go_wp2_with fail;refine hF.mono ?_;rintro e w2 ⟨P,M,rfl,hH⟩;have hSV:=Yl.out w2 P M (aG HB1.out hH.below) (hH.elder HB1.out);have HH:=Zh (hH.elder HB1.out);clear hF hH;obtain⟨pbv,NM⟩:∃ n,n=P.pb:=⟨_,rfl⟩
 rw[<- NM] at hSV ⊢;have YH:=Zh NM;clear NM;go_wp2_with fail;refine hSV.mono ?_;rintro e w3 ⟨rfl,hb3⟩;have HE:=Zh (HH.out.step hb3);clear hSV hb3;go_wp2;go_ret2;exact⟨P,M,by rw[<- YH.out]; rfl,HE.out⟩
