import Derived.Test.YtlpbelhfpoilpaaGreatDoorRE13
set_option linter.all false
set_option maxRecDepth 100000
set_option maxHeartbeats 16000000
namespace Go.Proofs.Zz
open Go.RowKit Go.Shelf
variable {A B:World} {R:Nat} {ao:Option Addr}
def xL(k:Int):Int:=if k=0∨k=1 then 0 else if 3<=k/\k<=5 then 2 else 1
def gW(k:Int):Array Value:=#[.int .i64 (xL k),.bool (decide (k=1)),.bool (decide (2<=k/\k<=5)),.bool (decide (k=4∨k=5)),.bool (decide (k=6))]
def lT:List Value:=(List.range 11).flatMap fun (k:Nat)=>(gW (k:Int)).toList
def bQ(w:World)(g:Nat):Prop:=∀ j u,lT[j]? = some u->w.cell? (aD g j)=some u
theorem bQ.below{w w':World}{g:Nat}(hb:Bw w w')(h:bQ w g):bQ w' g:=fun j u hj=>cB hb (h j u hj)
theorem bQ.get{w:World}{g:Nat}(h:bQ w g){k:Nat}(hk:k<=10) :
  w.cell? (aD g (0+k*5))=some (.int .i64 (xL k))/\w.cell? (aD g (0+k*5+1))=some (.bool (decide ((k:Int)=1)))/\w.cell? (aD g (0+k*5+2))=some (.bool (decide (2<=(k:Int)/\(k:Int)<=5)))/\
   w.cell? (aD g (0+k*5+3))=some (.bool (decide ((k:Int)=4∨(k:Int)=5)))/\w.cell? (aD g (0+k*5+4))=some (.bool (decide ((k:Int)=6))):=by
 have hf:∀ j,j<5->lT[k*5+j]? = (gW (k:Int)).toList[j]?:=fun j hj=>by
  have:=Xc (fun (k:Nat)=>(gW (k:Int)).toList) 5 (fun _=>rfl) 0 (List.range 11) k j (by simp; omega) hj;unfold lT;rw[this];simp[List.getD,show k<11 by omega]
 simp only[QQ];refine⟨h (k*5) _ ?_,h (k*5+1) _ ?_,h (k*5+2) _ ?_,h (k*5+3) _ ?_,h (k*5+4) _ ?_⟩
 ·have:=hf 0 (by omega); rw[Zf]at this; rw[this]; rfl
 ·rw[hf 1 (by omega)]; rfl
 ·rw[hf 2 (by omega)]; rfl
 ·rw[hf 3 (by omega)]; rfl
 ·rw[hf 4 (by omega)]; rfl
theorem pG{k:Int}(h1:1<=k):xL k=(arity k:Int):=by
 unfold xL arity;by_cases h:k=1
 ·rw[Qy (.inr h),Qy h]; rfl
 ·rw[Qz (by omega),Qz h];split <;> rfl
def aK(n:ai):List Int:=[n.l,n.r].take (arity n.kind)
theorem xM(n:ai)(w:World)(hs:bQ w 0)(h1:1<=n.kind)(h10:n.kind<=10) :
  Calls Tryz.prog 128 #[.agg n.cells] w fun e w'=>∃ b,e=.returned (.slice (some (aD b 0)) (aK n).length 2)/\aB w' (some (aD b 0)) (aK n)/\w.heap.size<=b/\Bw w w':=by
 obtain⟨w1,hw1,hk1,hg1⟩:=aU w n.cells 58;obtain⟨g0,g1,g2⟩:=hg1.k3;have HIL:Hid (aK n=[n.l,n.r].take (arity n.kind)):=rfl;have HSI:=Zh (pG h1);have HAR:Hid (arity n.kind<=2):=by show _<=_; unfold arity; split <;> (try split) <;> omega
 have HSG:Hid (∀ k:Nat,k<=10->_):=fun k hk=>(hs.below hk1).get hk
 have HC:=Zh hk1;generalize n.cells=NC at *;generalize aK n=IL at *;obtain⟨nk,nl,nr,ns,Og,ayf,Oh⟩:=n;simp only at *;obtain⟨k,rfl⟩:=Xo (show 0<=nk by omega);obtain⟨c0,-⟩:=HSG.o k (by omega);rw[HSI.o]at c0;have hk10:k<=10:=by omega
 have akE:1<=k:=by omega
 generalize arity (k:Int)=ar at *;have har:=HAR.o;have V3:Hid (∀ x:World,aB (x.alloc (.cells #[.int .i64 nl,.int .i64 nr] 3)) (some (aD x.heap.size 0)) [nl,nr]):=fun x=>vH x [nl,nr] _ (by simp)
 rw[QQ]at c0;have aqA:¬ (11:Int)<=(k:Int):=by omega
 have har':(ar:Int)<=2:=by omega
 go_enter Tryz.func128,Tryz.ntmps128;go_wp2;refine wH w1 fun hS=>?_
 refine wt 0 (.pointer (some (aD w.heap.size 1))) hS ?_;refine lH 1 (.int .i64 nl) hS g1 ?_;refine wt 2 (.pointer (some (aD w.heap.size 2))) hS ?_;refine lH 3 (.int .i64 nr) hS g2 ?_;refine wt 5 (.pointer (some (aD w.heap.size 0))) hS ?_;refine lH 6 (.int .i64 (k:Int)) hS g0 ?_;refine wt 7 (.pointer (some (aD 0 (k*5)))) hS ?_;refine wt 8 (.pointer (some (aD 0 (k*5)))) hS ?_;refine lH 9 (.int .i64 (ar:Int)) hS c0 ?_;refine wR 4 fun K hK=>?_
 go_simp;refine oA hK hS fun hS=>?_
 refine wR 10 fun K hK=>?_
 go_simp;refine hK.o _ _ hS fun hS=>?_
 refine wR 11 fun K hK=>?_
 go_simp;refine hK.o _ _ hS fun hS=>?_
 refine wD ?_
 try simp only[pU]
 have HB:=Zh (aA HC.o hS);have HI:Hid (aB ((w1.alloc (.cells #[.int .i64 nl,.int .i64 nr] 3)).drew) (some (aD w1.heap.size 0)) (IL)):=by
  show aB _ _ _
  rw[HIL.o];exact aB.take (V3.o w1.drew) ar
 have wX:Hid (IL.length=ar):=by show _=_; rw[HIL.o,Zm]; simp; omega
 go_wp2;go_ret;exact⟨w1.heap.size,by rw[wX.o]; rfl,HI.o,HC.o.size,HB.o⟩
def XJ:=@bQ.below
structure au.New(f:au)(n:Nat):Prop where
 ca:∀ a,f.ca=some a->n<=a.block
 ra:∀ a,f.ra=some a->n<=a.block
 na:∀ a,f.na=some a->n<=a.block
 pa:∀ a,f.pa=some a->n<=a.block
theorem lq{b off:Nat}{v:Value}(h:A.cell? (aD b off)=some v)(hk:Kept (fun x=>x≠R) A B)(hb:b≠R):B.cell? (aD b off)=some v:=ZI h hk hb
theorem fF.but{xs:List Nat}(h:fF A ao xs)(hk:Kept (fun x=>x≠R) A B)(hb:∀ a,ao=some a->a.block≠R):fF B ao xs:=⟨h.1,fun i hi=>by
 obtain⟨b,off,e,hc⟩:=h.2 i hi;exact⟨b,off,e,lq hc hk (hb _ e)⟩⟩
theorem iF.but{cs:List (Nat × Int)}(h:iF A ao cs)(hk:Kept (fun x=>x≠R) A B)(hb:∀ a,ao=some a->a.block≠R):iF B ao cs:=⟨h.1,fun i hi=>by
 obtain⟨b,off,e,c0,c1⟩:=h.2 i hi;exact⟨b,off,e,lq c0 hk (hb _ e),lq c1 hk (hb _ e)⟩⟩
theorem PartsAt.but{w:World}{ps:List az}(h:PartsAt A ao ps)(hk:Kept (fun x=>x≠R) A B)(hb:∀ a,ao=some a->a.block≠R)(ho:∀ i,i<ps.length->(ps.getD i aT).Ok w)(hw:Bw w B):PartsAt B ao ps:=⟨h.1,fun i hi=>by
 obtain⟨⟨b,off,e,c0,c1,c2,c3,c4,c5⟩,_⟩:=h.2 i hi;have hn:=hb _ e;exact⟨⟨b,off,e,lq c0 hk hn,lq c1 hk hn,lq c2 hk hn,lq c3 hk hn,lq c4 hk hn,lq c5 hk hn⟩,(ho i hi).below hw⟩⟩
theorem au.At.but{A B:World}{R:Nat}{f:au}{ts:List af}{q:ae}(h:f.At ts q A)(hk:Kept (fun x=>x≠R) A B){n:Nat}(hn:f.New n)(hR:R<n)(hq:q.At B):f.At ts q B:=
 ⟨hq,h.aO.but hk (fun a e=>by have:=hn.ca a e; omega),h.rows.but hk (fun a e=>by have:=hn.ra a e; omega),h.conc.but hk (fun a e=>by have:=hn.na a e; omega),h.parts.but hk (fun a e=>by have:=hn.pa a e; omega),h.nl,h.pl⟩
theorem YI(ts:List af)(src:List Int)(cs:List aC)(a b:Nat):RF ts src cs a b =
  if (bF cs).2.2=false then (0,0,false)
  else if (aS a (2 ^ aY ts src (bF cs).1)&&aS b (2 ^ aY ts src (bF cs).2.1))=true then ((bF cs).1,(bF cs).2.1,true)
  else if (aS a (2 ^ aY ts src (bF cs).2.1)&&aS b (2 ^ aY ts src (bF cs).1))=true then ((bF cs).2.1,(bF cs).1,true)
  else (0,0,false):=by
 unfold RF bF;by_cases h:cs.length > 1∨(cs.getD 0 cz).op≠0∨(cs.getD 0 cz).not=true∨(cs.getD 0 cz).const=true
 ·rw[Qy h,Qy h]; rfl
 ·rw[Qz h,Qz h]; rfl
theorem FO{ts:List af}{q:ae}(ok:Ok ts q){k:Nat}(hk:k<q.wh.length)(h:(bF (q.wh.getD k lz).cs).2.2=true):gB ts q [(bF (q.wh.getD k lz).cs).1]/\gB ts q [(bF (q.wh.getD k lz).cs).2.1]:=by
 have h0:=ok.some k hk;have hc:=ok.aO k hk;generalize (q.wh.getD k lz).cs=cs at *;unfold bF at h ⊢;by_cases hh:cs.length > 1∨(cs.getD 0 cz).op≠0∨(cs.getD 0 cz).not=true∨(cs.getD 0 cz).const=true
 ·rw[Qy hh]at h; cases h
 rw[Qz hh];have hm:∀ x,x∈aN (cs.getD 0 cz)->x∈cO cs:=fun x hx=>XC.2 ⟨_,Z7 h0,hx⟩
 have hop:(cs.getD 0 cz).op=0:=by
  rcases Int.decEq (cs.getD 0 cz).op 0 with h' | h'
  ·exact absurd (.inr (.inl h')) hh
  ·exact h'
 have hco:(cs.getD 0 cz).const=false:=by
  cases h':(cs.getD 0 cz).const with
  | false => rfl
  | true => exact absurd (.inr (.inr (.inr h'))) hh
 have hcc:aN (cs.getD 0 cz)=[(cs.getD 0 cz).left,(cs.getD 0 cz).right]:=by
  unfold aN;rw[Qy ⟨by rw[hop]; decide,hco⟩]
 rw[hcc]at hm;refine⟨fun c hx=>?_,fun c hx=>?_⟩
 ·rw[ZR]at hx; rw[hx]; exact hc _ (hm _ (by simp))
 ·rw[ZR]at hx; rw[hx]; exact hc _ (hm _ (by simp))
theorem qh(ca:Option Addr)(cc:Nat)(cs:List aC)(w:World)(hx:bH w ca cs)(h0:0<cs.length) :
  Cb 233 #[.agg #[.slice ca cs.length cc]] w (.tuple #[.int .i64 (bF cs).1,.int .i64 (bF cs).2.1,.bool (bF cs).2.2]):=by
 obtain⟨cb,co,rfl,c0,c1,c2,c3,c4⟩:=hx.2 0 h0;have hcl:=hx.1;rw[QP,Zf]at c0 c1 c2 c3 c4;have HE:Hid (bF cs=if cs.length > 1∨(cs.getD 0 cz).op≠0∨(cs.getD 0 cz).not=true∨(cs.getD 0 cz).const=true then (0,0,false) else ((cs.getD 0 cz).left,(cs.getD 0 cz).right,true)):=rfl;generalize bF cs=EC at *;generalize cs.getD 0 cz=c at *;obtain⟨not,op,left,const,right⟩:=c;simp only at *;obtain⟨w1,hw1,hk1,hg1⟩:=aU w #[.slice (some (aD cb co)) cs.length cc] 132;obtain⟨w2,hw2,hk2,hg2⟩:=aU w1 #[.bool not,.int .i64 op,.int .i64 left,.bool const,.int .i64 right] 134;have hc1:=hk2;have hc0:=aA hk1 hc1;have iq:=hg1.of (hc1.block _ hg1.lt);have dJ:=iq.at 0;have kI:=hg2;obtain⟨jJ,lJ,lK,mZ,kr⟩:=kI.k5;have k0:=hg1.at 0;have d0:=cB hk1 c0;have d1:=cB hk1 c1;have d2:=cB hk1 c2;have d3:=cB hk1 c3;have d4:=cB hk1 c4;have HC:=Zh hc0;by_cases h1:cs.length > 1
 ·obtain rfl:EC=(0,0,false):=by rw[HE.o,Qy (.inl h1)]
  go_enter Tryz.func233,Tryz.ntmps233;go_wp2;go_ret3;exact⟨rfl,HC.o⟩
 by_cases h2:op≠0
 ·obtain rfl:EC=(0,0,false):=by rw[HE.o,Qy (.inr (.inl h2))]
  have h2':(op != 0)=true:=by rw[bne_iff_ne]; exact h2
  go_enter Tryz.func233,Tryz.ntmps233;go_wp2;go_ret3;exact⟨rfl,HC.o⟩
 have h2':op=0:=by omega
 subst h2'
 cases not with
 | true =>
  obtain rfl:EC=(0,0,false):=by rw[HE.o,Qy (.inr (.inr (.inl rfl)))]
  go_enter Tryz.func233,Tryz.ntmps233;go_wp2;go_ret3;exact⟨rfl,HC.o⟩
 | false =>
  cases const with
  | true =>
   obtain rfl:EC=(0,0,false):=by rw[HE.o,Qy (.inr (.inr (.inr rfl)))]
   go_enter Tryz.func233,Tryz.ntmps233;go_wp2;go_ret3;exact⟨rfl,HC.o⟩
  | false =>
   obtain rfl:EC=(left,right,true):=by
    rw[HE.o,Qz];rintro (h | h | h | h)
    ·exact h1 h
    ·exact h rfl
    ·cases h
    ·cases h
   go_enter Tryz.func233,Tryz.ntmps233;go_wp2;go_quiet (fail);go_wp2;go_ret3;exact⟨rfl,below_drewN HC.o _⟩
