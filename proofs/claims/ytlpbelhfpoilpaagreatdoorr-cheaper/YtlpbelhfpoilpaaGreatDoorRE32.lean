import Derived.Test.YtlpbelhfpoilpaaGreatDoorRE25
import Derived.Test.YtlpbelhfpoilpaaGreatDoorRE31
set_option linter.all false
set_option maxRecDepth 100000
set_option maxHeartbeats 16000000
namespace Go.Proofs.Zz
open Go.RowKit Go.Shelf
variable {w w' w2 w3:World} {base n sb:Nat} {TS TT Tl e:TypeId} {av v v':Value} {ag:List bG} {rk:Nat->Int} {t:bG} {xs:List Value} {arr:Array Value} {F:Nat->Prop} {o:ah} {os:List ah}
def lD(w:World)(ao:Option Addr)(ag:List bG):Prop:=
 ag.length<=1000000000/\∀ i,i<ag.length->∃ b off,ao=some (aD b off)/\w.cell? (aD b (off+i*2))=some (.int .u64 ((ag.getD i (0,0)).1:Int))/\w.cell? (aD b (off+i*2+1))=some (.int .u64 ((ag.getD i (0,0)).2:Int))
theorem lD.below{w w':World}(hb:Bw w w'){ao:Option Addr}{ag:List bG}(h:lD w ao ag):lD w' ao ag:=
 ⟨h.1,fun i hi=>by obtain⟨b,off,e,c0,c1⟩:=h.2 i hi; exact⟨b,off,e,cB hb c0,cB hb c1⟩⟩
theorem YS(lt:Nat->Bool)(f i j:Nat)(h:i<j):Uz lt (f+1) i j=if lt ((i+j) / 2)=true then Uz lt f ((i+j) / 2+1) j else Uz lt f i ((i+j) / 2):=by
 show (if i<j then _ else _)=_
 rw[Qy h]
theorem acX(lt:Nat->Bool)(f i j:Nat)(h:¬ i<j):Uz lt f i j=i:=by
 cases f with
 | zero => rfl
 | succ f =>
  show (if i<j then _ else _)=_
  rw[Qz h]
theorem Er(ao:Option Addr)(cap:Nat)(ag:List bG)(t:bG)(w:World)(hx:lD w ao ag)(ha:∀ a∈ag,a.1<32/\a.2<32)(ht:t.1<32/\t.2<32) :
  Cb 235 #[.slice ao ag.length cap,.agg #[.int .u64 (t.1:Int),.int .u64 (t.2:Int)],.func (.func 236) #[] #[]] w (.tuple #[.int .i64 (nU bA ag t:Int),.bool (nV bA ag t)]):=by
 have HAH:Hid (∀ k x,k<ag.length->Cb 236 #[.agg #[.int .u64 ((ag.getD k (0,0)).1:Int),.int .u64 ((ag.getD k (0,0)).2:Int)],.agg #[.int .u64 (t.1:Int),.int .u64 (t.2:Int)]] x (.int .i64 (qY bA (ag.getD k (0,0)) t))):=fun k x hk=>UB _ t (ha _ (Z7 hk)) ht x
 have HF:Hid (nU bA ag t=Uz (fun h=>decide (qY bA (ag.getD h (0,0)) t<0)) ag.length 0 ag.length):=rfl;have HT:Hid (nV bA ag t=(decide (nU bA ag t<ag.length)&&decide (qY bA (ag.getD (nU bA ag t) (0,0)) t=0))):=rfl;have hl:=hx.1;have HX:=Zh hx;generalize nV bA ag t=TB at *;generalize nU bA ag t=FA at *;obtain⟨tl,tr⟩:=t;simp only at *;obtain⟨AI,hAI⟩:∃ AI:Nat->Int,AI=fun k=>qY bA (ag.getD k (0,0)) (tl,tr):=⟨_,rfl⟩
 have ald:Hid (∀ k x,k<ag.length->Cb 236 #[.agg #[.int .u64 ((ag.getD k (0,0)).1:Int),.int .u64 ((ag.getD k (0,0)).2:Int)],.agg #[.int .u64 (tl:Int),.int .u64 (tr:Int)]] x (.int .i64 (AI k))):=by rw[hAI]; exact HAH.o
 have HF2:Hid (FA=Uz (fun h=>decide (AI h<0)) ag.length 0 ag.length):=by rw[hAI]; exact HF.o
 have HT2:Hid (TB=(decide (FA<ag.length)&&decide (AI FA=0))):=by rw[hAI]; exact HT.o
 obtain⟨w1,hw1⟩:∃ x,w.alloc (.cells #[.int .u64 (tl:Int),.int .u64 (tr:Int)] 236)=x:=⟨_,rfl⟩
 have hb1:Bw w w1:=by rw[<- hw1]; exact dn _ _
 have t0:w1.cell? (aD w.heap.size 0)=some (.int .u64 (tl:Int)):=by rw[<- hw1]; simp
 have t1:w1.cell? (aD w.heap.size 1)=some (.int .u64 (tr:Int)):=by rw[<- hw1]; simp
 have HB1:=Zh hb1;go_enter Tryz.func235,Tryz.ntmps235;go_wp2;go_loopw [9,10] (fun iv jv wr=>∃ i j f:Nat,i<=j/\j<=ag.length/\j-i<=f/\iv=.int .i64 (i:Int)/\jv=.int .i64 (j:Int)/\Hid (Uz (fun h=>decide (AI h<0)) f i j=FA)/\Hid (Bw w1 wr)) (fun iv jv _=>(intOf jv).toNat-(intOf iv).toNat)
 case atStart=>exact⟨0,ag.length,ag.length,Q8 _,Qx _,by omega,rfl,rfl,HF2.o.symm,Qw _ _⟩
 case round=>
  obtain⟨i,j,f,hij,hjn,hf,rfl,rfl,zw,HB⟩:=hrel;by_cases hlt:i<j
  ·obtain⟨f',rfl⟩:∃ f',f=f'+1:=⟨f-1,by omega⟩
   have HST:=Zh ((YS (fun h=>decide (AI h<0)) f' i j hlt).symm.trans zw.o);obtain⟨h,hh⟩:∃ h,(i+j) / 2=h:=⟨_,rfl⟩
   have hhi:i<=h/\h<j:=by omega
   rw[hh]at HST;have hw1:wrap64 ((i:Int)+(j:Int))=((i+j:Nat):Int):=by unfold wrap64; omega
   have hmid:((i:Int)+(j:Int)) / 2=(h:Int):=by omega
   have hhn:h<ag.length:=by omega
   obtain⟨b,off,hao,c0,c1⟩:=(lD.below (aA HB1.o HB.o) HX.o).2 h hhn;subst hao;have hAH:=ald.o h;generalize (ag.getD h (0,0)).1=xl at *;generalize (ag.getD h (0,0)).2=xr at *;have s0:=cB HB.o t0;have s1:=cB HB.o t1;have hlt2:(h:Int)<(ag.length:Int):=by omega
   have acY:Hid _:=fun x=>hAH x hhn
   obtain⟨wq,hwq⟩:∃ x,x=wr:=⟨_,rfl⟩
   subst hwq;obtain⟨v,hv⟩:=eX (AI h)
   rw[hv]at acY;simp only[hv]at HST;have ale:Hid _:=HST;go_wp2_with fail
   try rw[hmid]
   refine wH wq fun hS=>?_
   refine wt 0 (.func (.func 236) #[] #[]) hS ?_;refine wt 1 (.slice (some (aD b off)) ag.length cap) hS ?_;refine wt 2 (.int .i64 (h:Int)) hS ?_;refine wt 3 (.pointer (some (aD b (off+h*2)))) hS ?_;refine wT 4 (.agg #[.int .u64 (xl:Int),.int .u64 (xr:Int)]) hS (fun x hx=>?_) ?_
   ·have e0:=cB hx c0;have e1:=cB hx c1;go_simp
   refine wT 5 (.agg #[.int .u64 (tl:Int),.int .u64 (tr:Int)]) hS (fun x hx=>?_) ?_
   ·have e0:=cB hx s0;have e1:=cB hx s1;go_simp
   refine wR 6 fun K hK=>?_
   go_simp;refine Xt (acY.o _) ?_;rintro e w2 ⟨rfl,hb⟩;refine oT hK hS hb fun hS=>?_
   refine wR 7 fun K hK=>?_
   go_simp;refine hK.o _ _ hS fun hS=>?_
   refine wD ?_
   try simp only[pV]
   have HB2:=Zh (HB.o.trans (hS.mono HB.o.size));by_cases hv0:v<0
   ·have HN:Hid (Uz (fun h=>decide (AI h<0)) f' (h+1) j=FA):=by
     have:=ale.o;rw[Qy (QD hv0)]at this;exact this
    have hvb:=QD hv0;go_wp2;go_roundw
    case rel=>exact⟨h+1,j,f',by omega,hjn,by omega,by go_num,rfl,HN.o,HB2.o⟩
    case measure=>simp[intOf]; omega
   ·have HN:Hid (Uz (fun h=>decide (AI h<0)) f' i h=FA):=by
     have:=ale.o;rw[Qz (by rw[Ql hv0]; decide)]at this;exact this
    have hvb:=Ql hv0;go_wp2;go_roundw
    case rel=>exact⟨i,h,f',by omega,by omega,by omega,rfl,rfl,HN.o,HB2.o⟩
    case measure=>simp[intOf]; omega
  ·have hiF:=(acX _ f i j hlt).symm.trans zw.o;subst hiF;obtain⟨wq,hwq⟩:∃ x,x=wr:=⟨_,rfl⟩
   subst hwq;have HBq:=Zh (aA HB1.o HB.o);by_cases hin:i<ag.length
   ·obtain⟨b,off,hao,c0,c1⟩:=(lD.below HBq.o HX.o).2 i hin;subst hao;have acY:Hid _:=fun x=>ald.o i x hin
    generalize (ag.getD i (0,0)).1=xl at *;generalize (ag.getD i (0,0)).2=xr at *;have s0:=cB HB.o t0;have s1:=cB HB.o t1;have hlt2:(i:Int)<(ag.length:Int):=by omega
    have HTT:Hid (TB=(AI i==0)):=by show _=_; rw[HT2.o,QD hin,QE,QI,beq_iff_eq,QJ]
    generalize AI i=v at *;go_wp2_with fail;refine wH wq fun hS=>?_
    refine wt 0 (.int .i64 (i:Int)) hS ?_;refine wt 1 (.int .i64 (i:Int)) hS ?_;refine wt 2 (.int .i64 (ag.length:Int)) hS ?_;refine wt 3 (.bool true) hS ?_;refine wt 4 (.bool true) hS ?_;refine wg 5 (.func (.func 236) #[] #[]) hS ?_;refine wg 6 (.slice (some (aD b off)) ag.length cap) hS ?_;refine wg 7 (.int .i64 (i:Int)) hS ?_;refine wg 8 (.pointer (some (aD b (off+i*2)))) hS ?_;refine wG 9 (.agg #[.int .u64 (xl:Int),.int .u64 (xr:Int)]) hS (fun x hx=>?_) ?_
    ·have e0:=cB hx c0;have e1:=cB hx c1;go_simp
    refine wG 10 (.agg #[.int .u64 (tl:Int),.int .u64 (tr:Int)]) hS (fun x hx=>?_) ?_
    ·have e0:=cB hx s0;have e1:=cB hx s1;go_simp
    refine wR 11 fun K hK=>?_
    go_simp;refine Xt (acY.o _) ?_;rintro e w2 ⟨rfl,hb⟩;refine oT hK hS hb fun hS=>?_
    refine wg 12 (.bool (v==0)) hS ?_;refine wg 13 (.bool (v==0)) hS ?_;refine wR 14 fun K hK=>?_
    go_simp;refine hK.o _ _ hS fun hS=>?_
    refine wR 15 fun K hK=>?_
    go_simp;refine hK.o _ _ hS fun hS=>?_
    refine wD ?_
    try simp only[pV]
    have jk:=Zh (HBq.o.trans (hS.mono HBq.o.size));go_wp2;go_ret2;exact⟨by rw[HTT.o]; rfl,jk.o⟩
   ·have HTT:Hid (TB=false):=by show _=_; rw[HT2.o,Ql hin,Qm]
    have hin2:¬ (i:Int)<(ag.length:Int):=by omega
    go_wp2_with fail;refine wH wq fun hS=>?_
    refine wt 0 (.int .i64 (i:Int)) hS ?_;refine wt 1 (.int .i64 (i:Int)) hS ?_;refine wt 2 (.int .i64 (ag.length:Int)) hS ?_;refine wt 3 (.bool false) hS ?_;refine wt 4 (.bool false) hS ?_;refine wU 5 hS ?_;refine wU 6 hS ?_;refine wU 7 hS ?_;refine wU 8 hS ?_;refine wU 9 hS ?_;refine wU 10 hS ?_;refine wU 11 hS ?_;refine wU 12 hS ?_;refine wt 13 (.bool false) hS ?_;refine wR 14 fun K hK=>?_
    go_simp;refine hK.o _ _ hS fun hS=>?_
    refine wR 15 fun K hK=>?_
    go_simp;refine hK.o _ _ hS fun hS=>?_
    refine wD ?_
    try simp only[pV]
    have jk:=Zh (HBq.o.trans (hS.mono HBq.o.size));go_wp2;go_ret2;exact⟨by rw[HTT.o]; rfl,jk.o⟩
theorem uz(h:w.ownsRow base e 2 v ag.length (ag.flatMap dN))(hl:ag.length<=1000000):∃ ao cap,v=.slice ao ag.length cap/\lD w ao ag:=by
 rcases Xd h with⟨rfl,h0⟩ | ⟨g,cap,rfl,_,_,hc⟩
 ·have:=QL h0;subst this;exact⟨none,0,rfl,by simp,fun i hi=>absurd hi (by simp)⟩
 ·refine⟨_,cap,rfl,by omega,fun i hi=>⟨g,0,rfl,?_,?_⟩⟩
  ·rw[QQ];exact hc (i*2) _ (by have:=Xc dN 2 (fun _=>rfl) (0,0) ag i 0 hi (by omega); rw[Zf]at this; rw[this]; rfl)
  ·rw[QQ];exact hc (i*2+1) _ (by rw[Xc dN 2 (fun _=>rfl) (0,0) ag i 1 hi (by omega)]; rfl)
theorem lD.aX{A B:World}{F:Nat->Prop}{ao:Option Addr}{ag:List bG}(h:lD A ao ag)(hk:Kept F A B)(hF:∀ a,ao=some a->F a.block):lD B ao ag:=
 ⟨h.1,fun i hi=>by
  obtain⟨b,off,rfl,c0,c1⟩:=h.2 i hi;have hb:=hk.block b (Zv c0) (hF _ rfl);exact⟨b,off,rfl,by rw[Zw hb]; exact c0,by rw[Zw hb]; exact c1⟩⟩
theorem Hm{rk:Nat->Int}:∀ (l ag:List bG),(∀ a∈ag,a.1<32/\a.2<32)->(∀ a∈l,a.1<32/\a.2<32)->(∀ a∈l.foldl (jl rk) ag,a.1<32/\a.2<32)/\(l.foldl (jl rk) ag).length<=ag.length+l.length
 | [],_,h,_ => ⟨h,by simp⟩
 | t::l,ag,h,hl => by
  have:=Hm (rk:=rk) l (jl rk ag t) (fun a ha=>by
   rcases yf ha with ha | rfl
   ·exact h a ha
   ·exact hl a Xg) (fun a ha=>hl a (Xf _ ha))
  refine⟨this.1,Zl this.2 ?_⟩;have:=CJ rk ag t;simp only[Zg];omega
theorem YW(h:nV rk ag t=true):jl rk ag t=ag:=by unfold jl; rw[Qy h]
theorem acZ(h:nV rk ag t=false):jl rk ag t=ag.take (nU rk ag t)++t::ag.drop (nU rk ag t):=by unfold jl; rw[h]; rfl
theorem OT(lt:Nat->Bool):∀ f i j,i<=j->Uz lt f i j<=j
 | 0,_,_,h => h
 | f+1,i,j,h => by
  show (if i<j then _ else _)<=_
  split
  ·split
   ·exact OT lt f _ _ (by omega)
   ·exact Zl (OT lt f _ _ (by omega)) (by omega)
  ·exact h
theorem YX(rk:Nat->Int)(ag:List bG)(t:bG):nU rk ag t<=ag.length:=OT _ _ _ _ (Q8 _)
theorem iB{t:TypeId}{sz:Nat}{G:Nat}{c:Array Value}(h:w.ownsRow base e sz v n xs)(hg:GB w G t c)(hne:e≠t):v.ownBlock≠some G:=fun e'=>by
 obtain⟨cur,hc⟩:=lQ h e';have hg':w.heap[G]? = some (.cells c t (0,0)):=hg;rw[hg']at hc;injection hc with hc;injection hc with _ hc;exact hne hc.symm
theorem R8{wr w1 w4:World}(hsz:14<arr.size)(hg:GB w4 sb TS (arr.setIfInBounds 14 v))(ho:w4.ownsRow base TT 2 v' n xs)(hk:Kept (fun b=>b≠sb/\av.ownBlock≠some b) w wr)(h1:Bw wr w1)(h2:Bw w1 w2)(h3:Bw w2 w3)(h4:Kept (fun b=>v.ownBlock≠some b) w3 w4)(hv:v.ownBlock=av.ownBlock∨∃ g,v.ownBlock=some g/\w.heap.size<=g)(hv':v'.ownBlock=v.ownBlock∨∃ g,v'.ownBlock=some g/\w3.heap.size<=g)(hne:TT≠TS) :
  GB (w4.setCell (aD sb 14) v') sb TS (arr.setIfInBounds 14 v')/\(w4.setCell (aD sb 14) v').ownsRow base TT 2 v' n xs/\Kept (fun b=>b≠sb/\av.ownBlock≠some b) w (w4.setCell (aD sb 14) v')/\(v'.ownBlock=av.ownBlock∨∃ g,v'.ownBlock=some g/\w.heap.size<=g):=by
 have hw3:=Zl hk.size (Zl h1.size (Zl h2.size h3.size));have h13:Kept (fun b=>b<wr.heap.size) wr w3:=(Zo h1 (fun _ h _=>h)).trans' ((Zo h2 (fun _ h _=>h)).trans' (Zo h3 (fun _ h _=>h)) (fun b hb _=>hb)) (fun b hb _=>(Q6 hb h1.size:b<w1.heap.size));have hkA:=(hk.trans' h13 (fun b hb _=>Q6 hb hk.size)).trans' h4 (fun b hb h e=>by
  rcases hv with hv | ⟨g,hv,hg⟩
  ·exact h.2 (hv ▸ e)
  ·rw[hv]at e;injection e with e;omega)
 refine⟨?_,?_,hkA.trans (ZL _ _ _ (fun h=>h.1 rfl)),?_⟩
 ·have:=hg.set 14 v'
  rwa [X6]at this
 ·exact ZN ho (s:=fun b=>b≠sb) (ZL _ _ _ (fun h=>h rfl)) (fun g e h=>iB ho hg hne (h ▸ e))
 ·rcases hv' with h | ⟨g,h,hg⟩
  ·rw[h]; exact hv
  ·exact .inr ⟨g,h,Zl hw3 hg⟩
theorem KY(sb base:Nat)(arr:Array Value)(av:Value)(ag ts:List bG)(ta:Option Addr)(tc:Nat)(w:World)(hg:GB w sb 174 arr)(h14:arr[14]? = some av)(hown:w.ownsRow base 236 2 av ag.length (ag.flatMap dN))(hb:base<=w.heap.size)(hts:lD w ta ts)(ac1:∀ a,ta=some a->a.block≠sb/\av.ownBlock≠some a.block)(hl:ag.length+ts.length<=1000000)(ha32:∀ a∈ag,a.1<32/\a.2<32)(ahk:∀ a∈ts,a.1<32/\a.2<32) :
  Calls Tryz.prog 163 #[.pointer (some (aD sb 14)),.slice ta ts.length tc] w fun e w'=>(∃ v,e=.returned v)/\∃ av',GB w' sb 174 (arr.setIfInBounds 14 av')/\w'.ownsRow base 236 2 av' (ts.foldl (jl bA) ag).length ((ts.foldl (jl bA) ag).flatMap dN)/\Kept (fun b=>b≠sb/\av.ownBlock≠some b) w w'/\(av'.ownBlock=av.ownBlock∨∃ g,av'.ownBlock=some g/\w.heap.size<=g):=by
 have Kz:=Zh hts;have HTO:=Zh ac1;obtain⟨AK,hAK⟩:∃ X:Nat->List bG,X=fun k=>(ts.take k).foldl (jl bA) ag:=⟨_,rfl⟩
 have HST:Hid (∀ k,k<ts.length->AK (k+1)=jl bA (AK k) (ts.getD k (0,0))):=fun k hk=>by rw[hAK]; exact iR _ ag ts (0,0) hk
 have AX:Hid (∀ k,(∀ a∈AK k,a.1<32/\a.2<32)/\(AK k).length<=1000000):=fun k=>by
  have:=Hm (rk:=bA) (ts.take k) ag ha32 (fun a ha=>ahk a (Xj ha));rw[hAK];refine⟨this.1,Zl this.2 ?_⟩;rw[Zm];omega
 have HE:Hid (AK ts.length=ts.foldl (jl bA) ag):=by
  show _=_
  rw[hAK]
  show (ts.take ts.length).foldl (jl bA) ag=_
  rw[QA]
 have ard:Hid (∀ k,k<ts.length->(ts.getD k (0,0)).1<32/\(ts.getD k (0,0)).2<32):=fun k hk=>ahk _ (Z7 hk)
 have HI0:Hid (GB w sb 174 (arr.setIfInBounds 14 av)/\w.ownsRow base 236 2 av (AK 0).length ((AK 0).flatMap dN)):=by
  refine⟨?_,by rw[hAK]; exact hown⟩;have:arr.setIfInBounds 14 av=arr:=by
   have h1:=QV.1 h14;obtain⟨hs,he⟩:=h1;rw[<- he];simp[Array.setIfInBounds,hs]
  rw[this];exact hg
 have vJ:=Zh ((QV.1 h14).1);have zw:=Zh hb;have hlb:ts.length<=1000000:=by omega
 clear hts ac1 hAK ha32 ahk hg h14 hown hl hb;generalize ts.foldl (jl bA) ag=R at *;go_enter Tryz.func163,Tryz.ntmps163;go_wp2;go_loopw [10] (fun iv wr=>∃ (k:Nat) (avk:Value),k<=ts.length/\iv=.int .i64 (k:Int)/\Hid (GB wr sb 174 (arr.setIfInBounds 14 avk))/\Hid (wr.ownsRow base 236 2 avk (AK k).length ((AK k).flatMap dN))/\Hid (Kept (fun b=>b≠sb/\av.ownBlock≠some b) w wr)/\Hid (avk.ownBlock=av.ownBlock∨∃ g,avk.ownBlock=some g/\w.heap.size<=g)) (fun iv _=>ts.length-(intOf iv).toNat)
 case atStart=>exact⟨0,av,Q8 _,rfl,HI0.o.1,HI0.o.2,Zn _ _,.inl rfl⟩
 case round=>
  obtain⟨k,avk,hk,rfl,HG,HO,HK,HV⟩:=hrel;by_cases hlt:k<ts.length
  ·obtain⟨tb,ahl,ac1,hc0,hc1⟩:=(Kz.o.aX HK.o (fun a ha=>HTO.o a ha)).2 k hlt;subst ac1;have G7:=HST.o k hlt;have H32:=ard.o k hlt;have rR:=AX.o k;obtain⟨aa,ac,hav,Wn⟩:=uz HO.o rR.2;subst hav;generalize hgt:ts.getD k (0,0)=t at *;obtain⟨tl,tr⟩:=t;simp only at hc0 hc1 H32;obtain⟨w1,hw1,hb1,hx1⟩:=aU wr #[.int .u64 (tl:Int),.int .u64 (tr:Int)] 236;obtain⟨b0,b1⟩:=hx1.k2;have s14:w1.cell? (aD sb 14)=some (.slice aa (AK k).length ac):=by
    refine cB hb1 ?_;rw[HG.o.cell 14,XW,Qy rfl,Qy vJ.o]
   have HBI:Hid (∀ x,Bw w1 x->Cb 235 #[.slice aa (AK k).length ac,.agg #[.int .u64 (tl:Int),.int .u64 (tr:Int)],.func (.func 236) #[] #[]] x (.tuple #[.int .i64 (nU bA (AK k) (tl,tr):Int),.bool (nV bA (AK k) (tl,tr))])):=fun x hx=>Er aa ac (AK k) (tl,tr) x (Wn.below (hb1.trans (hx.mono hb1.size))) rR.1 H32
   have R9:=Zh (Xh HO.o hb1);have qU:=Zh (HG.o.keep (Zo (s:=fun b=>b<wr.heap.size) hb1 (fun _ h _=>h)) HG.o.lt);have HX1:=Zh hx1;have HB1:=Zh hb1;have ac3:Hid (∀ x vb,x.ownsRow base 236 2 (.slice aa (AK k).length ac) (AK k).length ((AK k).flatMap dN)->base<=x.heap.size->GB x vb 236 #[.int .u64 (tl:Int),.int .u64 (tr:Int)]->(Value.slice aa (AK k).length ac).ownBlock≠some vb->nV bA (AK k) (tl,tr)=false->Calls Tryz.prog 237 #[.slice aa (AK k).length ac,.int .i64 (nU bA (AK k) (tl,tr):Int),.slice (some (aD vb 0)) 1 1] x fun e w'=>∃ v',e=.returned v'/\w'.ownsRow base 236 2 v' (AK (k+1)).length ((AK (k+1)).flatMap dN)/\Kept (fun b=>(Value.slice aa (AK k).length ac).ownBlock≠some b) x w'/\(v'.ownBlock=(Value.slice aa (AK k).length ac).ownBlock∨∃ g,v'.ownBlock=some g/\x.heap.size<=g)):=fun x vb ho hb hv hne ht=>by
    rw[G7,acZ ht];exact KQ base _ vb _ (AK k) (tl,tr) x ho hb rR.2 (YX _ _ _) hv hne
   have acG:Hid (nV bA (AK k) (tl,tr)=true->AK (k+1)=AK k):=fun h=>by rw[G7]; exact YW h
   have HNS:=Zh (iB HO.o HG.o (by decide));have hal:=rR.2;generalize nU bA (AK k) (tl,tr)=FA at *;generalize nV bA (AK k) (tl,tr)=TB at *;obtain⟨an,han⟩:∃ an,an=(AK k).length:=⟨_,rfl⟩
   have wX:=Zh han.symm;rw[<- han]at s14 HBI ac3 HNS R9 qU HV hal HG HO;clear hb1 hx1 Wn rR G7 H32 hgt han;obtain⟨wq,hwq⟩:∃ x,x=wr:=⟨_,rfl⟩
   subst hwq;go_wp2_with fail;clear hw1;refine wH w1 fun hS=>?_
   refine wt 0 (.pointer (some (aD sb 14))) hS ?_;refine wt 1 (.pointer (some (aD sb 14))) hS ?_;refine lH 2 (.slice aa an ac) hS s14 ?_;refine wT 3 (.agg #[.int .u64 (tl:Int),.int .u64 (tr:Int)]) hS (fun x hx=>?_) ?_
   ·have e0:=cB hx b0;have e1:=cB hx b1;go_simp
   refine wR 4 fun K hK=>?_
   go_simp;refine Xt (HBI.o _ hS) ?_;rintro e w2 ⟨rfl,hb⟩;refine oT hK hS hb fun hS=>?_
   clear hK K;refine wt 5 (.tuple #[.int .i64 (FA:Int),.bool TB]) hS ?_;refine wt 6 (.int .i64 (FA:Int)) hS ?_;refine wt 7 (.bool TB) hS ?_;refine wt 8 (.int .i64 (FA:Int)) hS ?_;refine wR 9 fun K hK=>?_
   go_simp;refine hK.o _ _ hS fun hS=>?_
   clear hK K;refine wD ?_
   try simp only[pV]
   try simp only[pV]
   have HB2:=Zh hS;clear hS
   cases TB with
   | true =>
    have HE2:=Zh (acG.o rfl);have HF:Hid (GB w2 sb 174 (arr.setIfInBounds 14 (.slice aa an ac))/\w2.ownsRow base 236 2 (.slice aa an ac) (AK (k+1)).length ((AK (k+1)).flatMap dN)/\Kept (fun b=>b≠sb/\av.ownBlock≠some b) w w2):=⟨qU.o.keep (Zo (s:=fun b=>b<w1.heap.size) HB2.o (fun _ h _=>h)) qU.o.lt,by rw[HE2.o,wX.o]; exact Xh R9.o HB2.o,HK.o.trans ((Zo HB1.o (fun _ h _=>h)).trans (Zo HB2.o (fun _ h _=>h)))⟩
    clear b0 b1 s14 HBI ac3 hc0 hc1;go_wp2;go_roundw
    case rel=>exact⟨k+1,.slice aa an ac,by omega,by go_num,HF.o.1,HF.o.2.1,HF.o.2.2,HV.o⟩
    case measure=>simp[intOf]; omega
   | false =>
    have hb2:=HB2.o;have c14:=cB hb2 s14;have HX2:=Zh (HX1.o.keep (Zo (s:=fun b=>b<w1.heap.size) hb2 (fun _ h _=>h)) HX1.o.lt);have HO2:=Zh (Xh R9.o hb2);have HG2:=Zh (qU.o.keep (Zo (s:=fun b=>b<w1.heap.size) hb2 (fun _ h _=>h)) qU.o.lt);have HNB:Hid ((Value.slice aa an ac).ownBlock≠some wq.heap.size):=fun e=>by have:=(ZO HO.o e).2; omega
    have HSX:Hid (wq.heap.size≠sb):=fun e=>by have:=HG.o.lt; omega
    have ali:w2.drew.cell? (aD sb 14)=some (.slice aa an ac):=c14;obtain⟨w3,hw3⟩:∃ x,w2.drew.alloc (.cells #[.int .u64 (tl:Int),.int .u64 (tr:Int)] 236)=x:=⟨_,rfl⟩
    have hb3:Bw w2 w3:=by rw[<- hw3]; exact((Qw _ _).drew).alloc (Qx _) _
    have alj:=cB hb3 c14;have HB3:=Zh hb3;have hIN:=ac3.o w3 w2.heap.size (Xh HO2.o hb3) (Zl zw.o (Zl HK.o.size (Zl HB1.o.size (Zl hb2.size hb3.size)))) (by rw[<- hw3]; exact l6 w2.drew _) (fun e=>by have:=(ZO HO2.o e).2; omega) rfl;clear hb2 hb3 b0 b1 s14 HBI ac3 hc0 hc1 c14;go_wp2_with fail;refine QX (S:=fun x=>Kept (fun b=>b≠sb/\(Value.slice aa an ac).ownBlock≠some b) w2 x) (by kernel_rfl) (Zo ((Qw w2.heap.size w2).drew) (fun _ hl _=>hl)) (fun hS=>?_);refine wt 0 (.pointer (some (aD sb 14))) hS ?_;refine wt 1 (.pointer (some (aD sb 14))) hS ?_;refine wt 2 (.pointer (some (aD sb 14))) hS ?_;refine wt 4 (.int .i64 (FA:Int)) hS ?_;refine wT 5 (.agg #[.int .u64 (tl:Int),.int .u64 (tr:Int)]) hS (fun x hx=>?_) ?_
    ·have hbx:=HX2.o.keep hx (show wq.heap.size≠sb/\_ from ⟨HSX.o,HNB.o⟩);obtain⟨e0,e1⟩:=hbx.k2;go_simp
    refine wJ 3 6 (fun K hK=>?_) fun K hK=>?_
    ·go_simp;refine hK.o _ _ hS fun hS=>?_
     clear hK K;refine wR 6 fun K hK=>?_
     go_simp;refine hK.o _ _ (Zo HB3.o (fun _ h _=>h)) (fun hS=>?_);clear hK K;refine wR 7 fun K hK=>?_
     go_simp;refine Xt hIN ?_;rintro e w4 ⟨v',rfl,zA,hk4,hv4⟩;obtain⟨za,zm,zc,rfl⟩:=ZP zA;have OU:Kept (fun b=>b≠sb/\(Value.slice aa an ac).ownBlock≠some b) w2 w4:=(Zo HB3.o (fun _ h _=>h)).trans (hk4.mono (fun b _ h=>h.2));refine hK.o _ _ OU fun hS=>?_
     clear hK K;refine wt 8 (.pointer (some (aD sb 14))) hS ?_;have hg4:=HG2.o.keep ((Zo (s:=fun b=>b=sb) HB3.o (fun b _ h=>by rw[h]; exact HG2.o.lt)).trans (hk4.mono (fun b _ h e=>HNS.o (h ▸ e)))) rfl;have f14:=hg4.frozen 14;have aho:w4.cell? (aD sb 14)=some (.slice aa an ac):=by rw[hg4.cell 14,XW,Qy rfl,Qy vJ.o]
     refine wR 9 fun K hK=>?_
     go_simp;refine hK.o _ _ (OU.trans (ZL _ _ _ (fun h=>h.1 rfl))) (fun hS=>?_);clear hK K;refine wD ?_
     try simp only[pV]
     try simp only[pV]
     have HF:=Zh (R8 vJ.o hg4 zA HK.o HB1.o HB2.o HB3.o hk4 HV.o hv4 (by decide));clear hS f14 aho hg4 zA hk4 hv4 OU ali alj hIN;go_wp2;go_roundw
     case rel=>exact⟨k+1,.slice za zm zc,by omega,by go_num,HF.o.1,HF.o.2.1,HF.o.2.2.1,HF.o.2.2.2⟩
     case measure=>simp[intOf]; omega
    ·go_simp;refine hK.o _ _ (Zo HB3.o (fun _ h _=>h)) (fun hS=>?_);clear hK K;refine wR 3 fun K hK=>?_
     go_simp;refine hK.o _ _ hS fun hS=>?_
     clear hK K;refine wR 7 fun K hK=>?_
     go_simp;refine Xt hIN ?_;rintro e w4 ⟨v',rfl,zA,hk4,hv4⟩;obtain⟨za,zm,zc,rfl⟩:=ZP zA;have OU:Kept (fun b=>b≠sb/\(Value.slice aa an ac).ownBlock≠some b) w2 w4:=(Zo HB3.o (fun _ h _=>h)).trans (hk4.mono (fun b _ h=>h.2));refine hK.o _ _ OU fun hS=>?_
     clear hK K;refine wt 8 (.pointer (some (aD sb 14))) hS ?_;have hg4:=HG2.o.keep ((Zo (s:=fun b=>b=sb) HB3.o (fun b _ h=>by rw[h]; exact HG2.o.lt)).trans (hk4.mono (fun b _ h e=>HNS.o (h ▸ e)))) rfl;have f14:=hg4.frozen 14;have aho:w4.cell? (aD sb 14)=some (.slice aa an ac):=by rw[hg4.cell 14,XW,Qy rfl,Qy vJ.o]
     refine wR 9 fun K hK=>?_
     go_simp;refine hK.o _ _ (OU.trans (ZL _ _ _ (fun h=>h.1 rfl))) (fun hS=>?_);clear hK K;refine wD ?_
     try simp only[pV]
     try simp only[pV]
     have HF:=Zh (R8 vJ.o hg4 zA HK.o HB1.o HB2.o HB3.o hk4 HV.o hv4 (by decide));clear hS f14 aho hg4 zA hk4 hv4 OU ali alj hIN;go_wp2;go_roundw
     case rel=>exact⟨k+1,.slice za zm zc,by omega,by go_num,HF.o.1,HF.o.2.1,HF.o.2.2.1,HF.o.2.2.2⟩
     case measure=>simp[intOf]; omega
  ·have hkt:ts.length=k:=by omega
   rw[<- hkt,HE.o]at HO;clear hkt;go_wp2;go_end0;exact⟨⟨_,rfl⟩,avk,HG.o,HO.o,HK.o,HV.o⟩
theorem Y6(hg:GB w3 sb TS (arr.setIfInBounds 14 av))(ho:w3.ownsRow base TT 2 v' n xs)(h2:Bw w w2)(h4:Kept (fun b=>av.ownBlock≠some b) w2 w3)(hne:TT≠TS) :
  GB (w3.setCell (aD sb 14) v') sb TS (arr.setIfInBounds 14 v')/\(w3.setCell (aD sb 14) v').ownsRow base TT 2 v' n xs/\Kept (fun b=>b≠sb/\av.ownBlock≠some b) w (w3.setCell (aD sb 14) v'):=by
 refine⟨?_,?_,?_⟩
 ·have:=hg.set 14 v'
  rwa [X6]at this
 ·exact ZN ho (s:=fun b=>b≠sb) (ZL _ _ _ (fun h=>h rfl)) (fun g e h=>iB ho hg hne (h ▸ e))
 ·exact((Zo h2 (fun _ h _=>h)).trans (h4.mono (fun b _ h=>h.2))).trans (ZL _ _ _ (fun h=>h.1 rfl))
theorem Y7{W:World}{B:Nat}{u:Value}(h:GB W B 236 #[v,u]):(loadVar 236 (aD B 0)).run Tryz.prog W=.ok (.agg #[v,u]) W:=by
 obtain⟨c0,c1⟩:=h.k2;simp[go_sem,c0,c1]
theorem UO(sb base i:Nat)(arr:Array Value)(av:Value)(ag:List bG)(w:World)(hg:GB w sb 174 arr)(h14:arr[14]? = some av)(hown:w.ownsRow base 236 2 av ag.length (ag.flatMap dN))(hl:ag.length<=1000000)(hi:i<ag.length) :
  Calls Tryz.prog 168 #[.pointer (some (aD sb 14)),.int .i64 (i:Int)] w fun e w'=>e=.returned (.agg #[.int .u64 ((ag.getD i (0,0)).1:Int),.int .u64 ((ag.getD i (0,0)).2:Int)])/\∃ av',GB w' sb 174 (arr.setIfInBounds 14 av')/\w'.ownsRow base 236 2 av' (ag.eraseIdx i).length ((ag.eraseIdx i).flatMap dN)/\Kept (fun b=>b≠sb/\av.ownBlock≠some b) w w'/\av'.ownBlock=av.ownBlock:=by
 obtain⟨hsz,alP⟩:=QV.1 h14;have harr:arr.setIfInBounds 14 av=arr:=by
  rw[<- alP];simp[Array.setIfInBounds,hsz]
 have hg':GB w sb 174 (arr.setIfInBounds 14 av):=by rw[harr]; exact hg
 obtain⟨aa,ac,rfl,Wn⟩:=uz hown hl;obtain⟨tb,ahl,htb,hc0,hc1⟩:=Wn.2 i hi;rcases hown.2 with⟨_,h0⟩ | ⟨g,cap,cur,hs,hbg,-⟩
 ·omega
 injection hs with hs1 _ hs2;subst hs1 hs2;injection htb with htb;injection htb with arS arT;subst arS arT;obtain⟨m,hm⟩:∃ m,ag.length=i+1+m:=⟨ag.length-(i+1),by omega⟩
 have hel:(ag.eraseIdx i).length=i+m:=by rw[List.length_eraseIdx_of_lt hi]; omega
 have HNS:=Zh (iB hown hg (by decide));have c14:=(hg.cell 14).trans h14;have hgl:=(ZO hown rfl).2;obtain⟨w1,hw1,hb1,hx1⟩:=aU w #[.int .u64 0,.int .u64 0] 236;have d14:=cB hb1 c14;rw[hm]at d14;have e0:=cB hb1 hc0;have e1:=cB hb1 hc1;rw[QQ]at e0 e1;obtain⟨tl,htl⟩:∃ x,x=(ag.getD i (0,0)).1:=⟨_,rfl⟩
 obtain⟨tr,htr⟩:∃ x,x=(ag.getD i (0,0)).2:=⟨_,rfl⟩
 rw[<- htl]at e0 ⊢;rw[<- htr]at e1 ⊢;obtain⟨w2,hw2,hb2,hx2⟩:=aU w1 #[.int .u64 (tl:Int),.int .u64 (tr:Int)] 236;have Eu:=hb1.trans (hb2.mono hb1.size);have s14:=cB hb2 d14;have hown2:=Xh hown Eu;have hDE:=KR base g ac i m (ag.flatMap dN) w2 (by rw[hm]at hown2; exact hown2) (CE ag) (by omega);rw[YR]at hDE;have hlt1:=hx1.lt;have alQ:=hg.lt;have HG2:=Zh (hg'.keep (Zo (s:=fun b=>b<w.heap.size) Eu (fun _ h _=>h)) hg.lt);have HX2:=Zh hx2;have HX1:=Zh (hx1.keep (Zo (s:=fun b=>b<w1.heap.size) hb2 (fun _ h _=>h)) hx1.lt);have arV:=Zh Eu;have vJ:=Zh hsz;have MR:Hid (g<w.heap.size):=hgl;have HLS:Hid (sb<w.heap.size/\w.heap.size<w1.heap.size):=⟨alQ,hlt1⟩
 rw[hel];have h1:(i:Int)<(i:Int)+1+(m:Int):=by omega
 have hwr:wrap64 ((i:Int)+1)=(i:Int)+1:=by unfold wrap64; omega
 clear hb1 hb2 Eu hx1 hx2 hown hown2 Wn hc0 hc1 hm hel hg hg' harr alP h14 c14 hsz hi hl hgl hlt1 alQ htl htr hbg;generalize (ag.eraseIdx i).flatMap dN=FX at *;go_enter Tryz.func168,Tryz.ntmps168;go_wp2_with fail;refine hDE.mono ?_;rintro e w3 ⟨rfl,ho3,hk3⟩;have hg3:=HG2.o.keep hk3 (fun e=>HNS.o (by rw[e]; rfl));have c3:w3.cell? (aD sb 14)=some (.slice (some (aD g 0)) ag.length ac):=by rw[hg3.cell 14,XW,Qy rfl,Qy vJ.o]
 have f3:=hg3.frozen 14;clear hDE hw1 hw2 d14 e0 e1 s14;go_upto_region 3 with fail;obtain⟨w4,hw4⟩:∃ x,x=w3.setCell (aD sb 14) (.slice (some (aD g 0)) (i+m) ac):=⟨_,rfl⟩
 have nL:Kept (fun b=>b≠sb) w3 w4:=by rw[hw4]; exact ZL _ _ _ (fun h=>h rfl)
 have hx4:=(HX2.o.keep hk3 (by have:=MR.o; have:=HLS.o; omega)).keep nL (by have:=HLS.o; omega);have hy4:=(HX1.o.keep hk3 (by have:=MR.o; omega)).keep nL (by have:=HLS.o; omega);have HE:=Y6 hg3 ho3 arV.o (hk3.mono (fun b _ h e=>h (by rw[e]; rfl))) (by decide:236≠174);rw[<- hw4]at HE ⊢;obtain⟨x0,x1⟩:=hx4.k2;obtain⟨y0,y1⟩:=hy4.k2;have z0:=hy4.frozen 0;have z1:=hy4.frozen 1;obtain⟨w5,uT⟩:∃ x,x=(w4.setCell (aD w.heap.size 0) (.int .u64 (tl:Int))).setCell (aD w.heap.size 1) (.int .u64 (tr:Int)):=⟨_,rfl⟩
 have adm:Kept (fun b=>b≠w.heap.size) w4 w5:=by rw[uT]; exact(ZL _ _ _ (fun h=>h rfl)).trans (ZL _ _ _ (fun h=>h rfl))
 have hg5:GB w5 w.heap.size 236 #[.int .u64 (tl:Int),.int .u64 (tr:Int)]:=by rw[uT]; exact(hy4.set 0 _).set 1 _
 have ui:=Zh (Y7 hg5);have HF:Hid (GB w5 sb 174 (arr.setIfInBounds 14 (.slice (some (aD g 0)) (i+m) ac))/\w5.ownsRow base 236 2 (.slice (some (aD g 0)) (i+m) ac) (i+m) FX/\Kept (fun b=>b≠sb/\(Value.slice (some (aD g 0)) ag.length ac).ownBlock≠some b) w w5):=⟨HE.1.keep adm (by have:=HLS.o; omega),ZN HE.2.1 adm (fun g' e=>by have e2:g=g':=Option.some.inj e; have:=MR.o; omega),HE.2.2.trans' adm (fun b hb _=>Nat.ne_of_lt hb)⟩
 have HW5:=Zh uT;clear hw4 uT hx4 hy4 HE nL adm hg5 hk3 ho3 hg3 c3 f3;go_wp2;rw[<- HW5.o];exact XE (jN (p:=4) rfl rfl ui.o) rfl ⟨rfl,_,HF.o.1,HF.o.2.1,HF.o.2.2,rfl⟩
structure iI(Tl:TypeId)(F:Nat->Prop)(base:Nat)(w:World)(v:Value)(os:List ah):Prop where
 own:w.ownsRow base Tl 1 v os.length (os.map ah.val)
 each:∀ o∈os,IntsIn (Fv F v) w o/\o.xs.length<=1000
theorem iI.below{Tl:TypeId}{F:Nat->Prop}{base:Nat}{w w':World}{v:Value}{os:List ah}(h:iI Tl F base w v os)(hb:Bw w w'):iI Tl F base w' v os:=
 ⟨Xh h.own hb,fun o ho=>⟨(h.each o ho).1.below hb,(h.each o ho).2⟩⟩
theorem IntsIn.own{w0:World}(h:IntsIn F w0 o)(hb:Bw w0 w)(hv:∀ g,v.ownBlock=some g->w0.heap.size<=g):IntsIn (Fv F v) w o:=
 (h.mono (G:=Fv F v) (fun b hb hF=>⟨hF,fun e=>by have:=hv b e; omega⟩)).below hb
theorem IntsIn.pushed(h:IntsIn (Fv F v) w o)(hk:Kept (fun b=>v.ownBlock≠some b) w w')(hat:v'.ownBlock=v.ownBlock∨∃ g,v'.ownBlock=some g/\w.heap.size<=g):IntsIn (Fv F v') w' o:=by
 have h1:=h.mono (G:=fun b=>Fv F v b/\Fv F v' b) (fun b hb hF=>⟨hF,hF.1,fun e=>by
  rcases hat with h | ⟨g,h,hg⟩
  ·exact hF.2 (h ▸ e)
  ·rw[h]at e;injection e with e;omega⟩)
 exact(h1.aX (hk.mono fun b _ hb=>hb.1.2)).mono fun _ _ h=>h.2
theorem iI.push(h:iI Tl F base w v os)(ho:IntsIn (Fv F v) w o)(hl:o.xs.length<=1000)(hn:w'.ownsRow base Tl 1 v' (os++[o]).length ((os++[o]).map ah.val))(hk:Kept (fun b=>v.ownBlock≠some b) w w')(hat:v'.ownBlock=v.ownBlock∨∃ g,v'.ownBlock=some g/\w.heap.size<=g):iI Tl F base w' v' (os++[o]):=
 ⟨hn,fun x hx=>by
  rcases ZT.1 hx with hx | hx
  ·exact⟨(h.each x hx).1.pushed hk hat,(h.each x hx).2⟩
  ·rw[ZR]at hx;rw[hx];exact⟨ho.pushed hk hat,hl⟩⟩
theorem iI.cells(h:iI Tl F base w v os):∃ ao cap,v=.slice ao os.length cap/\os.length<=cap/\bC w ao os.length (fun i=>(os.getD i fC).val):=by
 rcases h.own.2 with⟨rfl,h0⟩ | ⟨g,cap,cur,rfl,-,-,hc,-⟩
 ·have:=QL h0;subst this;exact⟨none,0,rfl,Qx _,fun i hi=>absurd hi (by simp)⟩
 ·refine⟨_,cap,rfl,hc,fun i hi=>⟨g,0,rfl,?_⟩⟩;rcases Xd h.own with⟨e,_⟩ | ⟨g',cap',e,_,_,hcc⟩
  ·cases e
  ·injection e with e _ _;injection e with e;injection e with e;subst e;rw[QQ];exact hcc i _ (by show _=some (os.getD i fC).val; rw[Ze,ZX hi,XH,ZX hi]; rfl)
theorem UT{x:List Int}{k:Nat}(hk:k<os.length):x∈(os.take (k+1)).map ah.xs↔x∈(os.take k).map ah.xs∨x=(os.getD k fC).xs:=by
 rw[XL os fC hk,Qs,ZT];simp
theorem Y9(W:World)(base:Nat)(v:Value)(os:List ah)(hown:W.ownsRow base 23 1 v os.length (os.map ah.val))(hl:os.length<=1000)(hb:base<=W.heap.size)(o:ah)(ty:TypeId) :
  ∃ v' w',(Builtin.append_ #[47,47] ty #[v,.slice (some (aD W.heap.size 0)) 1 1]).run Tryz.prog (W.alloc (.cells #[o.val] 23))=.ok v' w'/\
   w'.ownsRow base 23 1 v' (os++[o]).length ((os++[o]).map ah.val)/\Kept (fun b=>v.ownBlock≠some b) W w'/\(∃ a m c,v' = .slice a m c)/\(v'.ownBlock=v.ownBlock∨v'.ownBlock=some (W.heap.size+1)):=by
 obtain⟨i0,hi,hz0,hz1,hz2⟩:=ZU Tryz.BG;obtain⟨v',w',hr,ho,hk,hs,hat⟩:=iG (P:=Tryz.prog) W base 47 ty 23 i0 _ 1 24 Tryz.underlying47 hi hz0 hz1 hz2 rfl (by decide) v os.length _ hown hb [o.val] rfl (fun u hu=>by
  rw[ZR]at hu;rw[hu];rfl) hl (by decide)
 exact⟨v',w',hr,by rw[Zb,Qs]; exact ho,hk,hs,hat⟩
theorem O6(x o:ah)(bx:Nat)(w:World)(hx:x.At w)(ho:o.At w)(hc:w.cell? (aD bx 0)=some o.val) :
  Calls Tryz.prog 295 (#[x.val] ++ #[.pointer (some (aD bx 0))]) w fun e w'=>e=.returned (.bool (decide (x.xs=o.xs)))/\Bw w w':=by
 have hEQ:=Fq x.ad o.ad x.cap o.cap x.xs o.xs w hx ho;obtain⟨xa,xc,xx⟩:=x;obtain⟨oa,oc,ox⟩:=o
 show Calls Tryz.prog 295 #[.slice xa xx.length xc,.pointer (some (aD bx 0))] w _
 simp only[ah.val]at *;generalize decide (xx=ox)=D at *;clear hx ho;generalize xx.length=xl at *;generalize ox.length=ol at *;go_enter Tryz.func295,Tryz.ntmps295;go_wp2_with fail;refine hEQ.mono ?_;rintro e w2 ⟨rfl,hb2⟩;have HB:=Zh hb2;clear hEQ hb2 hc;go_wp2;go_ret;exact⟨rfl,HB.o⟩
theorem O7(ao:Option Addr)(cap:Nat)(os:List ah)(o:ah)(bx:Nat)(w:World)(hos:bC w ao os.length (fun i=>(os.getD i fC).val))(hat:∀ x∈os,x.At w)(ho:o.At w)(hc:w.cell? (aD bx 0)=some o.val)(hl:os.length<=1000) :
  Calls Tryz.prog 340 #[.slice ao os.length cap,.func (.func 295) #[] #[.pointer (some (aD bx 0))]] w fun e w'=>∃ r:Int,e=.returned (.int .i64 r)/\Hid (0<=r↔o.xs∈os.map ah.xs)/\Bw w w':=by
 have HOS:=Zh hos;have HC:Hid (∀ (k:Nat) (y:World),k<os.length->Bw w y->Calls Tryz.prog 295 (#[(os.getD k fC).val] ++ #[.pointer (some (aD bx 0))]) y fun e w'=>e=.returned (.bool (decide ((os.getD k fC).xs=o.xs)))/\Bw y w'):=fun k y hk hy=>O6 _ o bx y (Qv hy (hat _ (by rw[XH,ZX hk]; exact Qp hk))) (Qv hy ho) (cB hy hc)
 clear hos hat ho hc;go_enter Tryz.func340,Tryz.ntmps340;go_wp2;go_loopw [8] (fun iv wr=>∃ k:Nat,k<=os.length/\iv=.int .i64 (k:Int)/\Hid (o.xs ∉ (os.take k).map ah.xs)/\Hid (Bw w wr)) (fun iv _=>os.length-(intOf iv).toNat)
 case atStart=>exact⟨0,Q8 _,rfl,by show _ ∉ _; simp,Qw _ _⟩
 case round=>
  obtain⟨k,hk,rfl,HN,HB⟩:=hrel;by_cases hlt:k<os.length
  ·obtain⟨bb,Ol,rfl,hbc⟩:=Qi (bC.below HB.o HOS.o) hlt;have hck:=hbc k hlt;have hCk:=HC.o k wr hlt HB.o;have HM:=Zh (UT (x:=o.xs) hlt);have yR:Hid (os.getD k fC∈os):=by show _∈_; rw[XH,ZX hlt]; exact Qp hlt
   generalize os.getD k fC=x at *;obtain⟨xa,xc,xx⟩:=x;simp only[ah.val]at *;change Calls Tryz.prog 295 #[.slice xa xx.length xc,.pointer (some (aD bx 0))] wr _ at hCk;by_cases hxo:xx=o.xs
   ·rw[QD hxo]at hCk;have HF:Hid (o.xs∈os.map ah.xs):=by show _∈_; rw[<- hxo]; exact Zi.2 ⟨_,yR.o,rfl⟩
    clear hbc hxo yR HM;go_wp2_with fail;refine hCk.mono ?_;rintro e w2 ⟨rfl,hb2⟩;have HB2:=Zh (aA HB.o hb2);clear hCk hb2 hck;go_wp2;go_ret;exact⟨k,rfl,⟨fun _=>HF.o,fun _=>by omega⟩,HB2.o⟩
   ·rw[Ql hxo]at hCk;have HN2:Hid (o.xs ∉ (os.take (k+1)).map ah.xs):=fun h=>by
     rcases HM.o.1 h with h | h
     ·exact HN.o h
     ·exact hxo h.symm
    clear hbc hxo yR HM;go_wp2_with fail;refine hCk.mono ?_;rintro e w2 ⟨rfl,hb2⟩;have HB2:=Zh (aA HB.o hb2);clear hCk hb2 hck;go_wp2;go_roundw
    case rel=>exact⟨k+1,by omega,by go_num,HN2.o,HB2.o⟩
    case measure=>simp[intOf]; omega
  ·have hkk:os.length=k:=by omega
   have HF:Hid (o.xs ∉ os.map ah.xs):=by
    have:=HN.o;rw[<- hkk,QA]at this;exact this
   clear hkk;go_wp2;go_ret;exact⟨-1,rfl,⟨fun h=>by omega,fun h=>absurd h HF.o⟩,HB.o⟩
theorem O8(ao:Option Addr)(cap:Nat)(os:List ah)(o:ah)(bx:Nat)(w:World)(hos:bC w ao os.length (fun i=>(os.getD i fC).val))(hat:∀ x∈os,x.At w)(ho:o.At w)(hc:w.cell? (aD bx 0)=some o.val)(hl:os.length<=1000) :
  Cb 294 #[.slice ao os.length cap,.func (.func 295) #[] #[.pointer (some (aD bx 0))]] w (.bool (decide (o.xs∈os.map ah.xs))):=by
 have hI:=O7 ao cap os o bx w hos hat ho hc hl;clear hos hat ho hc hl;go_enter Tryz.func294,Tryz.ntmps294;go_wp2_with fail;refine hI.mono ?_;rintro e w2 ⟨r,rfl,HR,hb2⟩;have HB:=Zh hb2;clear hI hb2;go_wp2;go_ret;exact⟨Qg (by rw[QI,QJ,QJ]; exact HR.o),HB.o⟩
theorem UU(h:iI 23 F base w v os)(hb:base<=w.heap.size)(o:ah)(ho:IntsIn (Fv F v) w o)(hol:o.xs.length<=1000)(hl:os.length<=1000) :
  Calls Tryz.prog 232 #[v,o.val] w fun e w'=>∃ v' os',e=.returned v'/\iI 23 F base w' v' os'/\os'.map ah.xs=iE (os.map ah.xs) o.xs/\os'.length<=os.length+1/\Kept (fun b=>v.ownBlock≠some b) w w'/\(v'.ownBlock=v.ownBlock∨∃ g,v'.ownBlock=some g/\w.heap.size<=g):=by
 obtain⟨ao,cap,rfl,hcap,hcs⟩:=h.cells;obtain⟨w1,hw1,hb1,hx1⟩:=aU w #[o.val] 23;have hF:=O8 ao cap os o w.heap.size w1 (bC.below hb1 hcs) (fun x hx=>Qv hb1 (h.each x hx).1.at') (Qv hb1 ho.at') (hx1.cell 0) hl;have HH:=Zh h;have HO:=Zh ho;have HB1:=Zh hb1;have HX1:=Zh hx1;by_cases hm:o.xs∈os.map ah.xs
 ·rw[QD hm]at hF;have HA:Hid (iE (os.map ah.xs) o.xs=os.map ah.xs):=by show _=_; unfold iE; rw[Qy hm]
  obtain⟨oa,oc,ox⟩:=o;simp only[ah.val]at *;clear h ho hb1 hx1 hm hcs;go_enter Tryz.func232,Tryz.ntmps232;go_wp2_with fail;refine hF.mono ?_;rintro e w2 ⟨rfl,hb2⟩;have HB2:=Zh (aA HB1.o hb2);clear hF hb2 hw1;go_wp2;go_ret;exact⟨_,os,rfl,HH.o.below HB2.o,HA.o.symm,by omega,Zo HB2.o (fun _ h _=>h),.inl rfl⟩
 ·rw[Ql hm]at hF;have HA:Hid (iE (os.map ah.xs) o.xs=os.map ah.xs++[o.xs]):=by show _=_; unfold iE; rw[Qz hm]
  have HL:Hid (os.length<=1000/\base<=w.heap.size/\o.xs.length<=1000):=⟨hl,hb,hol⟩
  obtain⟨oa,oc,ox⟩:=o;simp only[ah.val]at *;clear h ho hb1 hx1 hm hcs hl hb hol;go_enter Tryz.func232,Tryz.ntmps232;go_wp2_with fail;refine hF.mono ?_;rintro e w2 ⟨rfl,hb2⟩;have hB2:=aA HB1.o hb2;have c0:w2.cell? (aD w.heap.size 0)=some (.slice oa ox.length oc):=cB hb2 (HX1.o.cell 0);obtain⟨v',w3,hr3,ho3,hk3,⟨za,zm,zc,rfl⟩,Tf⟩:=Y9 w2 base (.slice ao os.length cap) os (Xh HH.o.own hB2) HL.o.1 (Zl HL.o.2.1 hB2.size) ⟨oa,oc,ox⟩ 47;have CP:(Value.slice za zm zc).ownBlock=(Value.slice ao os.length cap).ownBlock∨∃ g,(Value.slice za zm zc).ownBlock=some g/\w2.heap.size<=g:=by
   rcases Tf with h | h
   ·exact .inl h
   ·exact .inr ⟨_,h,by omega⟩
  have HF:Hid (iI 23 F base w3 (.slice za zm zc) (os++[⟨oa,oc,ox⟩])/\Kept (fun b=>(Value.slice ao os.length cap).ownBlock≠some b) w w3/\((Value.slice za zm zc).ownBlock=(Value.slice ao os.length cap).ownBlock∨∃ g,(Value.slice za zm zc).ownBlock=some g/\w.heap.size<=g)):=⟨(HH.o.below hB2).push (HO.o.below hB2) HL.o.2.2 ho3 hk3 CP,(Zo hB2 (fun _ h _=>h)).trans hk3,by
   rcases CP with h | ⟨g,h,hg⟩
   ·exact .inl h
   ·exact .inr ⟨g,h,Zl hB2.size hg⟩⟩
  change (Builtin.append_ #[47,47] 47 #[.slice ao os.length cap,.slice (some (aD w2.heap.size 0)) 1 1]).run Tryz.prog (w2.alloc (.cells #[.slice oa ox.length oc] 23))=.ok (.slice za zm zc) w3 at hr3;have HSN:Hid ((os++[(⟨oa,oc,ox⟩:ah)]).map ah.xs=os.map ah.xs++[ox]/\(os++[(⟨oa,oc,ox⟩:ah)]).length<=os.length+1):=⟨by simp,by simp⟩
  generalize os++[(⟨oa,oc,ox⟩:ah)]=os' at *;clear hF hb2 hB2 hw1 ho3 hk3 Tf CP;go_wp2_with (first | (at_builtin; refine Z8 rfl (.tmp 9) (.tmp 11) 47 rfl (.slice ao os.length cap) (.slice (some (aD w2.heap.size 0)) 1 1) (.slice za zm zc) w3 rfl rfl hr3 ?_));clear hr3 c0;go_wp2;go_ret;exact⟨_,os',rfl,HF.o.1,HSN.o.1.trans HA.o.symm,HSN.o.2,HF.o.2⟩
