import Derived.Test.YtbcgekghfgcakaaGreatDoorF20
import Derived.Test.YtbcgekghfgcakaaGreatDoorF25
set_option linter.all false
set_option maxRecDepth 100000
set_option maxHeartbeats 16000000
namespace Go.Proofs.Zz
open Go.RowKit Go.Shelf
def jS (w:World) (ao:Option Addr) (ag:List bg):Prop:=
 ag.length<=1000000000/\∀ i,i<ag.length->∃ b off,ao=some (aD b off)/\w.cell? (aD b (off+i*2))=some (.int .u64 ((ag.getD i (0,0)).1:Int))/\w.cell? (aD b (off+i*2+1))=some (.int .u64 ((ag.getD i (0,0)).2:Int))
theorem jS.below {w w':World} (hb:Below w.heap.size w w') {ao:Option Addr} {ag:List bg} (h:jS w ao ag):jS w' ao ag:=
 ⟨h.1,fun i hi=>by obtain⟨b,off,e,c0,c1⟩:=h.2 i hi; exact⟨b,off,e,cB hb c0,cB hb c1⟩⟩
theorem Vu (lt:Nat->Bool) (f i j:Nat) (h:i<j):RO lt (f+1) i j=if lt ((i+j) / 2)=true then RO lt f ((i+j) / 2+1) j else RO lt f i ((i+j) / 2):=by
 show (if i<j then _ else _)=_
 rw[Qr h]
theorem aaS (lt:Nat->Bool) (f i j:Nat) (h:¬ i<j):RO lt f i j=i:=by
 cases f with
 | zero => rfl
 | succ f =>
  show (if i<j then _ else _)=_
  rw[Qs h]
theorem Cf (ao:Option Addr) (cap:Nat) (ag:List bg) (t:bg) (w:World) (hx:jS w ao ag) (ha:∀ a∈ag,a.1<32/\a.2<32) (ht:t.1<32/\t.2<32) :
  Calls Tryz.prog 121 #[.slice ao ag.length cap,.agg #[.int .u64 (t.1:Int),.int .u64 (t.2:Int)],.func (.func 122) #[] #[]] w fun e w'=>e=.returned (.tuple #[.int .i64 (mh aV ag t:Int),.bool (mi aV ag t)])/\Below w.heap.size w w':=by
 have HAH:Hid (∀ k x,k<ag.length->Calls Tryz.prog 122 #[.agg #[.int .u64 ((ag.getD k (0,0)).1:Int),.int .u64 ((ag.getD k (0,0)).2:Int)],.agg #[.int .u64 (t.1:Int),.int .u64 (t.2:Int)]] x fun e w'=>e=.returned (.int .i64 (oW aV (ag.getD k (0,0)) t))/\Below x.heap.size x w'):=fun k x hk=>RQ _ t (ha _ (ZM hk)) ht x
 have HF:Hid (mh aV ag t=RO (fun h=>decide (oW aV (ag.getD h (0,0)) t<0)) ag.length 0 ag.length):=rfl;have HT:Hid (mi aV ag t=(decide (mh aV ag t<ag.length)&&decide (oW aV (ag.getD (mh aV ag t) (0,0)) t=0))):=rfl;have hl:=hx.1;have HX:=Zh hx;generalize mi aV ag t=TB at *;generalize mh aV ag t=FA at *;obtain⟨tl,tr⟩:=t;simp only at *;obtain⟨AI,hAI⟩:∃ AI:Nat->Int,AI=fun k=>oW aV (ag.getD k (0,0)) (tl,tr):=⟨_,rfl⟩
 have ait:Hid (∀ k x,k<ag.length->Calls Tryz.prog 122 #[.agg #[.int .u64 ((ag.getD k (0,0)).1:Int),.int .u64 ((ag.getD k (0,0)).2:Int)],.agg #[.int .u64 (tl:Int),.int .u64 (tr:Int)]] x fun e w'=>e=.returned (.int .i64 (AI k))/\Below x.heap.size x w'):=by rw[hAI]; exact HAH.out
 have HF2:Hid (FA=RO (fun h=>decide (AI h<0)) ag.length 0 ag.length):=by rw[hAI]; exact HF.out
 have HT2:Hid (TB=(decide (FA<ag.length)&&decide (AI FA=0))):=by rw[hAI]; exact HT.out
 obtain⟨w1,hw1⟩:∃ x,w.alloc (.cells #[.int .u64 (tl:Int),.int .u64 (tr:Int)] 143)=x:=⟨_,rfl⟩
 have hb1:Below w.heap.size w w1:=by rw[<- hw1]; exact bU _ _
 have t0:w1.cell? (aD w.heap.size 0)=some (.int .u64 (tl:Int)):=by rw[<- hw1]; simp
 have t1:w1.cell? (aD w.heap.size 1)=some (.int .u64 (tr:Int)):=by rw[<- hw1]; simp
 have HB1:=Zh hb1;go_enter Tryz.func121,Tryz.ntmps121;go_wp2;go_loopw [9,10] (fun iv jv wr=>∃ i j f:Nat,i<=j/\j<=ag.length/\j-i<=f/\iv=.int .i64 (i:Int)/\jv=.int .i64 (j:Int)/\Hid (RO (fun h=>decide (AI h<0)) f i j=FA)/\Hid (Below w1.heap.size w1 wr)) (fun iv jv _=>(intOf jv).toNat-(intOf iv).toNat)
 case atStart=>exact⟨0,ag.length,ag.length,QQ _,Qq _,by omega,rfl,rfl,HF2.out.symm,Qp _ _⟩
 case round=>
  obtain⟨i,j,f,hij,hjn,hf,rfl,rfl,xI,HB⟩:=hrel;by_cases hlt:i<j
  ·obtain⟨f',rfl⟩:∃ f',f=f'+1:=⟨f-1,by omega⟩
   have HST:=Zh ((Vu (fun h=>decide (AI h<0)) f' i j hlt).symm.trans xI.out);obtain⟨h,hh⟩:∃ h,(i+j) / 2=h:=⟨_,rfl⟩
   have hhi:i<=h/\h<j:=by omega
   rw[hh] at HST;have hw1:wrap64 ((i:Int)+(j:Int))=((i+j:Nat):Int):=by unfold wrap64; omega
   have hmid:((i:Int)+(j:Int)) / 2=(h:Int):=by omega
   have hhn:h<ag.length:=by omega
   obtain⟨b,off,hao,c0,c1⟩:=(jS.below (aG HB1.out HB.out) HX.out).2 h hhn;subst hao;have hAH:=ait.out h;generalize (ag.getD h (0,0)).1=xl at *;generalize (ag.getD h (0,0)).2=xr at *;have s0:=cB HB.out t0;have s1:=cB HB.out t1;have hlt2:(h:Int)<(ag.length:Int):=by omega
   have aaT:Hid _:=fun x=>hAH x hhn
   obtain⟨wq,hwq⟩:∃ x,x=wr:=⟨_,rfl⟩
   subst hwq;obtain⟨v,hv⟩:∃ v,AI h=v:=⟨_,rfl⟩
   rw[hv] at aaT;simp only[hv] at HST;have aiu:Hid _:=HST;go_wp2_with fail
   try rw[hmid]
   refine wH wq fun hS=>?_
   refine wt 0 (.func (.func 122) #[] #[]) hS ?_;refine wt 1 (.slice (some (aD b off)) ag.length cap) hS ?_;refine wt 2 (.int .i64 (h:Int)) hS ?_;refine wt 3 (.pointer (some (aD b (off+h*2)))) hS ?_;refine wT 4 (.agg #[.int .u64 (xl:Int),.int .u64 (xr:Int)]) hS (fun x hx=>?_) ?_
   ·have e0:=cB hx c0;have e1:=cB hx c1;go_simp
   refine wT 5 (.agg #[.int .u64 (tl:Int),.int .u64 (tr:Int)]) hS (fun x hx=>?_) ?_
   ·have e0:=cB hx s0;have e1:=cB hx s1;go_simp
   refine wR 6 fun K hK=>?_
   go_simp;refine Z7 (aaT.out _) ?_;rintro e w2 ⟨rfl,hb⟩;refine oT hK hS hb fun hS=>?_
   refine wR 7 fun K hK=>?_
   go_simp;refine hK.out _ _ hS fun hS=>?_
   refine wD ?_
   try simp only[pV]
   have HB2:=Zh (HB.out.trans (hS.mono HB.out.size));by_cases hv0:v<0
   ·have HN:Hid (RO (fun h=>decide (AI h<0)) f' (h+1) j=FA):=by
     have:=aiu.out;rw[Qr (Qu hv0)] at this;exact this
    have hvb:=Qu hv0;go_wp2;go_roundw
    case rel=>exact⟨h+1,j,f',by omega,hjn,by omega,by go_num,rfl,HN.out,HB2.out⟩
    case measure=>simp[intOf]; omega
   ·have HN:Hid (RO (fun h=>decide (AI h<0)) f' i h=FA):=by
     have:=aiu.out;rw[Qs (by rw[Qh hv0]; decide)] at this;exact this
    have hvb:=Qh hv0;go_wp2;go_roundw
    case rel=>exact⟨i,h,f',by omega,by omega,by omega,rfl,rfl,HN.out,HB2.out⟩
    case measure=>simp[intOf]; omega
  ·have hiF:=(aaS _ f i j hlt).symm.trans xI.out;subst hiF;obtain⟨wq,hwq⟩:∃ x,x=wr:=⟨_,rfl⟩
   subst hwq;have HBq:=Zh (aG HB1.out HB.out);by_cases hin:i<ag.length
   ·obtain⟨b,off,hao,c0,c1⟩:=(jS.below HBq.out HX.out).2 i hin;subst hao;have aaT:Hid _:=fun x=>ait.out i x hin
    generalize (ag.getD i (0,0)).1=xl at *;generalize (ag.getD i (0,0)).2=xr at *;have s0:=cB HB.out t0;have s1:=cB HB.out t1;have hlt2:(i:Int)<(ag.length:Int):=by omega
    have HTT:Hid (TB=(AI i==0)):=by show _=_; rw[HT2.out,Qu hin,Qv,Qw,beq_iff_eq,Qx]
    generalize AI i=v at *;go_wp2_with fail;refine wH wq fun hS=>?_
    refine wt 0 (.int .i64 (i:Int)) hS ?_;refine wt 1 (.int .i64 (i:Int)) hS ?_;refine wt 2 (.int .i64 (ag.length:Int)) hS ?_;refine wt 3 (.bool true) hS ?_;refine wt 4 (.bool true) hS ?_;refine wg 5 (.func (.func 122) #[] #[]) hS ?_;refine wg 6 (.slice (some (aD b off)) ag.length cap) hS ?_;refine wg 7 (.int .i64 (i:Int)) hS ?_;refine wg 8 (.pointer (some (aD b (off+i*2)))) hS ?_;refine wG 9 (.agg #[.int .u64 (xl:Int),.int .u64 (xr:Int)]) hS (fun x hx=>?_) ?_
    ·have e0:=cB hx c0;have e1:=cB hx c1;go_simp
    refine wG 10 (.agg #[.int .u64 (tl:Int),.int .u64 (tr:Int)]) hS (fun x hx=>?_) ?_
    ·have e0:=cB hx s0;have e1:=cB hx s1;go_simp
    refine wR 11 fun K hK=>?_
    go_simp;refine Z7 (aaT.out _) ?_;rintro e w2 ⟨rfl,hb⟩;refine oT hK hS hb fun hS=>?_
    refine wg 12 (.bool (v==0)) hS ?_;refine wg 13 (.bool (v==0)) hS ?_;refine wR 14 fun K hK=>?_
    go_simp;refine hK.out _ _ hS fun hS=>?_
    refine wR 15 fun K hK=>?_
    go_simp;refine hK.out _ _ hS fun hS=>?_
    refine wD ?_
    try simp only[pV]
    have nQ:=Zh (HBq.out.trans (hS.mono HBq.out.size));go_wp2;go_ret2;exact⟨by rw[HTT.out]; rfl,nQ.out⟩
   ·have HTT:Hid (TB=false):=by show _=_; rw[HT2.out,Qh hin,Qi]
    have hin2:¬ (i:Int)<(ag.length:Int):=by omega
    go_wp2_with fail;refine wH wq fun hS=>?_
    refine wt 0 (.int .i64 (i:Int)) hS ?_;refine wt 1 (.int .i64 (i:Int)) hS ?_;refine wt 2 (.int .i64 (ag.length:Int)) hS ?_;refine wt 3 (.bool false) hS ?_;refine wt 4 (.bool false) hS ?_;refine wU 5 hS ?_;refine wU 6 hS ?_;refine wU 7 hS ?_;refine wU 8 hS ?_;refine wU 9 hS ?_;refine wU 10 hS ?_;refine wU 11 hS ?_;refine wU 12 hS ?_;refine wt 13 (.bool false) hS ?_;refine wR 14 fun K hK=>?_
    go_simp;refine hK.out _ _ hS fun hS=>?_
    refine wR 15 fun K hK=>?_
    go_simp;refine hK.out _ _ hS fun hS=>?_
    refine wD ?_
    try simp only[pV]
    have nQ:=Zh (HBq.out.trans (hS.mono HBq.out.size));go_wp2;go_ret2;exact⟨by rw[HTT.out]; rfl,nQ.out⟩
theorem rX {w:World} {base:Nat} {e:TypeId} {v:Value} {ag:List bg} (h:w.ownsRow base e 2 v ag.length (ag.flatMap dA)) (hl:ag.length<=1000000):∃ ao cap,v=.slice ao ag.length cap/\jS w ao ag:=by
 rcases ZT h with⟨rfl,h0⟩ | ⟨g,cap,rfl,_,_,hc⟩
 ·have:=Qz h0;subst this;exact⟨none,0,rfl,by simp,fun i hi=>absurd hi (by simp)⟩
 ·refine⟨_,cap,rfl,by omega,fun i hi=>⟨g,0,rfl,?_,?_⟩⟩
  ·rw[QE];exact hc (i*2) _ (by have:=ZR dA 2 (fun _=>rfl) (0,0) ag i 0 hi (by omega); rw[ZU] at this; rw[this]; rfl)
  ·rw[QE];exact hc (i*2+1) _ (by rw[ZR dA 2 (fun _=>rfl) (0,0) ag i 1 hi (by omega)]; rfl)
theorem jS.aT {A B:World} {F:Nat->Prop} {ao:Option Addr} {ag:List bg} (h:jS A ao ag) (hk:Kept F A B) (hF:∀ a,ao=some a->F a.block):jS B ao ag:=
 ⟨h.1,fun i hi=>by
  obtain⟨b,off,rfl,c0,c1⟩:=h.2 i hi;have hb:=hk.block b (Zf c0) (hF _ rfl);exact⟨b,off,rfl,by rw[Zg hb]; exact c0,by rw[Zg hb]; exact c1⟩⟩
theorem E9 {rk:Nat->Int}:∀ (l ag:List bg),(∀ a∈ag,a.1<32/\a.2<32)->(∀ a∈l,a.1<32/\a.2<32)->(∀ a∈l.foldl (gU rk) ag,a.1<32/\a.2<32)/\(l.foldl (gU rk) ag).length<=ag.length+l.length
 | [],_,h,_ => ⟨h,by simp⟩
 | t::l,ag,h,hl => by
  have:=E9 (rk:=rk) l (gU rk ag t) (fun a ha=>by
   rcases vM ha with ha | rfl
   ·exact h a ha
   ·exact hl a Xo) (fun a ha=>hl a (Xm _ ha))
  refine⟨this.1,Q4 this.2 ?_⟩;have:=AB rk ag t;simp only[Q5];omega
theorem Vy {rk:Nat->Int} {ag:List bg} {t:bg} (h:mi rk ag t=true):gU rk ag t=ag:=by unfold gU; rw[Qr h]
theorem aaV {rk:Nat->Int} {ag:List bg} {t:bg} (h:mi rk ag t=false):gU rk ag t=ag.take (mh rk ag t)++t::ag.drop (mh rk ag t):=by unfold gU; rw[h]; rfl
theorem Ms (lt:Nat->Bool):∀ f i j,i<=j->RO lt f i j<=j
 | 0,_,_,h => h
 | f+1,i,j,h => by
  show (if i<j then _ else _)<=_
  split
  ·split
   ·exact Ms lt f _ _ (by omega)
   ·exact Q4 (Ms lt f _ _ (by omega)) (by omega)
  ·exact h
theorem Vz (rk:Nat->Int) (ag:List bg) (t:bg):mh rk ag t<=ag.length:=Ms _ _ _ _ (QQ _)
theorem Fa {w:World} {base:Nat} {e t:TypeId} {sz:Nat} {v:Value} {n:Nat} {xs:List Value} {G:Nat} {c:Array Value} (h:w.ownsRow base e sz v n xs) (hg:GB w G t c) (hne:e≠t):v.ownBlock≠some G:=fun e'=>by
 obtain⟨cur,hc⟩:=iJ h e';have hg':w.heap[G]? = some (.cells c t (0,0)):=hg;rw[hg'] at hc;injection hc with hc;injection hc with _ hc;exact hne hc.symm
theorem OA {w wr w1 w2 w3 w4:World} {sb base:Nat} {TS TT:TypeId} {arr:Array Value} {av v v':Value} {n:Nat} {xs:List Value} (hsz:14<arr.size) (hg:GB w4 sb TS (arr.setIfInBounds 14 v)) (ho:w4.ownsRow base TT 2 v' n xs) (hk:Kept (fun b=>b≠sb/\av.ownBlock≠some b) w wr) (h1:Below wr.heap.size wr w1) (h2:Below w1.heap.size w1 w2) (h3:Below w2.heap.size w2 w3) (h4:Kept (fun b=>v.ownBlock≠some b) w3 w4) (hv:v.ownBlock=av.ownBlock∨∃ g,v.ownBlock=some g/\w.heap.size<=g) (hv':v'.ownBlock=v.ownBlock∨∃ g,v'.ownBlock=some g/\w3.heap.size<=g) (hne:TT≠TS) :
  GB (w4.setCell (aD sb 14) v') sb TS (arr.setIfInBounds 14 v')/\(w4.setCell (aD sb 14) v').ownsRow base TT 2 v' n xs/\Kept (fun b=>b≠sb/\av.ownBlock≠some b) w (w4.setCell (aD sb 14) v')/\(v'.ownBlock=av.ownBlock∨∃ g,v'.ownBlock=some g/\w.heap.size<=g):=by
 have hw3:=Q4 hk.size (Q4 h1.size (Q4 h2.size h3.size));have h13:Kept (fun b=>b<wr.heap.size) wr w3:=(Q9 h1 (fun _ h _=>h)).trans' ((Q9 h2 (fun _ h _=>h)).trans' (Q9 h3 (fun _ h _=>h)) (fun b hb _=>hb)) (fun b hb _=>(Q8 hb h1.size:b<w1.heap.size));have hkA:=(hk.trans' h13 (fun b hb _=>Q8 hb hk.size)).trans' h4 (fun b hb h e=>by
  rcases hv with hv | ⟨g,hv,hg⟩
  ·exact h.2 (hv ▸ e)
  ·rw[hv] at e;injection e with e;omega)
 refine⟨?_,?_,hkA.trans (Zv _ _ _ (fun h=>h.1 rfl)),?_⟩
 ·have:=hg.set 14 v'
  rwa [XT] at this
 ·exact Zx ho (s:=fun b=>b≠sb) (Zv _ _ _ (fun h=>h rfl)) (fun g e h=>Fa ho hg hne (h ▸ e))
 ·rcases hv' with h | ⟨g,h,hg⟩
  ·rw[h]; exact hv
  ·exact .inr ⟨g,h,Q4 hw3 hg⟩
theorem IP (sb base:Nat) (arr:Array Value) (av:Value) (ag ts:List bg) (ta:Option Addr) (tc:Nat) (w:World) (hg:GB w sb 102 arr) (h14:arr[14]? = some av) (hown:w.ownsRow base 143 2 av ag.length (ag.flatMap dA)) (hb:base<=w.heap.size) (hts:jS w ta ts) (aaX:∀ a,ta=some a->a.block≠sb/\av.ownBlock≠some a.block) (hl:ag.length+ts.length<=1000000) (ha32:∀ a∈ag,a.1<32/\a.2<32) (aeH:∀ a∈ts,a.1<32/\a.2<32) :
  Calls Tryz.prog 70 #[.pointer (some (aD sb 14)),.slice ta ts.length tc] w fun e w'=>(∃ v,e=.returned v)/\∃ av',GB w' sb 102 (arr.setIfInBounds 14 av')/\w'.ownsRow base 143 2 av' (ts.foldl (gU aV) ag).length ((ts.foldl (gU aV) ag).flatMap dA)/\Kept (fun b=>b≠sb/\av.ownBlock≠some b) w w'/\(av'.ownBlock=av.ownBlock∨∃ g,av'.ownBlock=some g/\w.heap.size<=g):=by
 have Iq:=Zh hts;have HTO:=Zh aaX;obtain⟨AK,YO⟩:∃ X:Nat->List bg,X=fun k=>(ts.take k).foldl (gU aV) ag:=⟨_,rfl⟩
 have HST:Hid (∀ k,k<ts.length->AK (k+1)=gU aV (AK k) (ts.getD k (0,0))):=fun k hk=>by rw[YO]; exact gy _ ag ts (0,0) hk
 have Bz:Hid (∀ k,(∀ a∈AK k,a.1<32/\a.2<32)/\(AK k).length<=1000000):=fun k=>by
  have:=E9 (rk:=aV) (ts.take k) ag ha32 (fun a ha=>aeH a (ZX ha));rw[YO];refine⟨this.1,Q4 this.2 ?_⟩;rw[Q6];omega
 have HE:Hid (AK ts.length=ts.foldl (gU aV) ag):=by
  show _=_
  rw[YO]
  show (ts.take ts.length).foldl (gU aV) ag=_
  rw[Qt]
 have anM:Hid (∀ k,k<ts.length->(ts.getD k (0,0)).1<32/\(ts.getD k (0,0)).2<32):=fun k hk=>aeH _ (ZM hk)
 have HI0:Hid (GB w sb 102 (arr.setIfInBounds 14 av)/\w.ownsRow base 143 2 av (AK 0).length ((AK 0).flatMap dA)):=by
  refine⟨?_,by rw[YO]; exact hown⟩;have:arr.setIfInBounds 14 av=arr:=by
   have h1:=QI.1 h14;obtain⟨hs,he⟩:=h1;rw[<- he];simp[Array.setIfInBounds,hs]
  rw[this];exact hg
 have ug:=Zh ((QI.1 h14).1);have xI:=Zh hb;have hlb:ts.length<=1000000:=by omega
 clear hts aaX YO ha32 aeH hg h14 hown hl hb;generalize ts.foldl (gU aV) ag=R at *;go_enter Tryz.func70,Tryz.ntmps70;go_wp2;go_loopw [10] (fun iv wr=>∃ (k:Nat) (avk:Value),k<=ts.length/\iv=.int .i64 (k:Int)/\Hid (GB wr sb 102 (arr.setIfInBounds 14 avk))/\Hid (wr.ownsRow base 143 2 avk (AK k).length ((AK k).flatMap dA))/\Hid (Kept (fun b=>b≠sb/\av.ownBlock≠some b) w wr)/\Hid (avk.ownBlock=av.ownBlock∨∃ g,avk.ownBlock=some g/\w.heap.size<=g)) (fun iv _=>ts.length-(intOf iv).toNat)
 case atStart=>exact⟨0,av,QQ _,rfl,HI0.out.1,HI0.out.2,Q7 _ _,.inl rfl⟩
 case round=>
  obtain⟨k,avk,hk,rfl,HG,HO,HK,HV⟩:=hrel;by_cases hlt:k<ts.length
  ·obtain⟨tb,aeI,aaX,hc0,hc1⟩:=(Iq.out.aT HK.out (fun a ha=>HTO.out a ha)).2 k hlt;subst aaX;have ES:=HST.out k hlt;have H32:=anM.out k hlt;have qi:=Bz.out k;obtain⟨aa,ac,OB,OC⟩:=rX HO.out qi.2;subst OB;generalize hgt:ts.getD k (0,0)=t at *;obtain⟨tl,tr⟩:=t;simp only at hc0 hc1 H32;obtain⟨w1,hw1,hb1,hx1⟩:=bu wr #[.int .u64 (tl:Int),.int .u64 (tr:Int)] 143;obtain⟨b0,b1⟩:=hx1.k2;have s14:w1.cell? (aD sb 14)=some (.slice aa (AK k).length ac):=by
    refine cB hb1 ?_;rw[HG.out.cell 14,XL,Qr rfl,Qr ug.out]
   have HBI:Hid (∀ x,Below w1.heap.size w1 x->Calls Tryz.prog 121 #[.slice aa (AK k).length ac,.agg #[.int .u64 (tl:Int),.int .u64 (tr:Int)],.func (.func 122) #[] #[]] x fun e w'=>e=.returned (.tuple #[.int .i64 (mh aV (AK k) (tl,tr):Int),.bool (mi aV (AK k) (tl,tr))])/\Below x.heap.size x w'):=fun x hx=>Cf aa ac (AK k) (tl,tr) x (OC.below (hb1.trans (hx.mono hb1.size))) qi.1 H32
   have Ls:=Zh (Z0 HO.out hb1);have pR:=Zh (HG.out.keep (Q9 (s:=fun b=>b<wr.heap.size) hb1 (fun _ h _=>h)) HG.out.lt);have HX1:=Zh hx1;have HB1:=Zh hb1;have aa0:Hid (∀ x vb,x.ownsRow base 143 2 (.slice aa (AK k).length ac) (AK k).length ((AK k).flatMap dA)->base<=x.heap.size->GB x vb 143 #[.int .u64 (tl:Int),.int .u64 (tr:Int)]->(Value.slice aa (AK k).length ac).ownBlock≠some vb->mi aV (AK k) (tl,tr)=false->Calls Tryz.prog 123 #[.slice aa (AK k).length ac,.int .i64 (mh aV (AK k) (tl,tr):Int),.slice (some (aD vb 0)) 1 1] x fun e w'=>∃ v',e=.returned v'/\w'.ownsRow base 143 2 v' (AK (k+1)).length ((AK (k+1)).flatMap dA)/\Kept (fun b=>(Value.slice aa (AK k).length ac).ownBlock≠some b) x w'/\(v'.ownBlock=(Value.slice aa (AK k).length ac).ownBlock∨∃ g,v'.ownBlock=some g/\x.heap.size<=g)):=fun x vb ho hb hv hne ht=>by
    rw[ES,aaV ht];exact IE base _ vb _ (AK k) (tl,tr) x ho hb qi.2 (Vz _ _ _) hv hne
   have aaz:Hid (mi aV (AK k) (tl,tr)=true->AK (k+1)=AK k):=fun h=>by rw[ES]; exact Vy h
   have YP:=Zh (Fa HO.out HG.out (by decide));have hal:=qi.2;generalize mh aV (AK k) (tl,tr)=FA at *;generalize mi aV (AK k) (tl,tr)=TB at *;obtain⟨an,han⟩:∃ an,an=(AK k).length:=⟨_,rfl⟩
   have mH:=Zh han.symm;rw[<- han] at s14 HBI aa0 YP Ls pR HV hal HG HO;clear hb1 hx1 OC qi ES H32 hgt han;obtain⟨wq,hwq⟩:∃ x,x=wr:=⟨_,rfl⟩
   subst hwq;go_wp2_with fail;clear hw1;refine wH w1 fun hS=>?_
   refine wt 0 (.pointer (some (aD sb 14))) hS ?_;refine wt 1 (.pointer (some (aD sb 14))) hS ?_;refine iB 2 (.slice aa an ac) hS s14 ?_;refine wT 3 (.agg #[.int .u64 (tl:Int),.int .u64 (tr:Int)]) hS (fun x hx=>?_) ?_
   ·have e0:=cB hx b0;have e1:=cB hx b1;go_simp
   refine wR 4 fun K hK=>?_
   go_simp;refine Z7 (HBI.out _ hS) ?_;rintro e w2 ⟨rfl,hb⟩;refine oT hK hS hb fun hS=>?_
   clear hK K;refine wt 5 (.tuple #[.int .i64 (FA:Int),.bool TB]) hS ?_;refine wt 6 (.int .i64 (FA:Int)) hS ?_;refine wt 7 (.bool TB) hS ?_;refine wt 8 (.int .i64 (FA:Int)) hS ?_;refine wR 9 fun K hK=>?_
   go_simp;refine hK.out _ _ hS fun hS=>?_
   clear hK K;refine wD ?_
   try simp only[pV]
   try simp only[pV]
   have HB2:=Zh hS;clear hS
   cases TB with
   | true =>
    have HE2:=Zh (aaz.out rfl);have HF:Hid (GB w2 sb 102 (arr.setIfInBounds 14 (.slice aa an ac))/\w2.ownsRow base 143 2 (.slice aa an ac) (AK (k+1)).length ((AK (k+1)).flatMap dA)/\Kept (fun b=>b≠sb/\av.ownBlock≠some b) w w2):=⟨pR.out.keep (Q9 (s:=fun b=>b<w1.heap.size) HB2.out (fun _ h _=>h)) pR.out.lt,by rw[HE2.out,mH.out]; exact Z0 Ls.out HB2.out,HK.out.trans ((Q9 HB1.out (fun _ h _=>h)).trans (Q9 HB2.out (fun _ h _=>h)))⟩
    clear b0 b1 s14 HBI aa0 hc0 hc1;go_wp2;go_roundw
    case rel=>exact⟨k+1,.slice aa an ac,by omega,by go_num,HF.out.1,HF.out.2.1,HF.out.2.2,HV.out⟩
    case measure=>simp[intOf]; omega
   | false =>
    have hb2:=HB2.out;have c14:=cB hb2 s14;have HX2:=Zh (HX1.out.keep (Q9 (s:=fun b=>b<w1.heap.size) hb2 (fun _ h _=>h)) HX1.out.lt);have HO2:=Zh (Z0 Ls.out hb2);have HG2:=Zh (pR.out.keep (Q9 (s:=fun b=>b<w1.heap.size) hb2 (fun _ h _=>h)) pR.out.lt);have HNB:Hid ((Value.slice aa an ac).ownBlock≠some wq.heap.size):=fun e=>by have:=(Zy HO.out e).2; omega
    have HSX:Hid (wq.heap.size≠sb):=fun e=>by have:=HG.out.lt; omega
    have aiw:w2.drew.cell? (aD sb 14)=some (.slice aa an ac):=c14;obtain⟨w3,hw3⟩:∃ x,w2.drew.alloc (.cells #[.int .u64 (tl:Int),.int .u64 (tr:Int)] 143)=x:=⟨_,rfl⟩
    have hb3:Below w2.heap.size w2 w3:=by rw[<- hw3]; exact ((Qp _ _).drew).alloc (Qq _) _
    have aix:=cB hb3 c14;have HB3:=Zh hb3;have hIN:=aa0.out w3 w2.heap.size (Z0 HO2.out hb3) (Q4 xI.out (Q4 HK.out.size (Q4 HB1.out.size (Q4 hb2.size hb3.size)))) (by rw[<- hw3]; exact kG w2.drew _) (fun e=>by have:=(Zy HO2.out e).2; omega) rfl;clear hb2 hb3 b0 b1 s14 HBI aa0 hc0 hc1 c14;go_wp2_with fail;refine QL (S:=fun x=>Kept (fun b=>b≠sb/\(Value.slice aa an ac).ownBlock≠some b) w2 x) (by kernel_rfl) (Q9 ((Qp w2.heap.size w2).drew) (fun _ hl _=>hl)) (fun hS=>?_);refine wt 0 (.pointer (some (aD sb 14))) hS ?_;refine wt 1 (.pointer (some (aD sb 14))) hS ?_;refine wt 2 (.pointer (some (aD sb 14))) hS ?_;refine wt 4 (.int .i64 (FA:Int)) hS ?_;refine wT 5 (.agg #[.int .u64 (tl:Int),.int .u64 (tr:Int)]) hS (fun x hx=>?_) ?_
    ·have hbx:=HX2.out.keep hx (show wq.heap.size≠sb/\_ from ⟨HSX.out,HNB.out⟩);obtain⟨e0,e1⟩:=hbx.k2;go_simp
    refine wJ 3 6 (fun K hK=>?_) fun K hK=>?_
    ·go_simp;refine hK.out _ _ hS fun hS=>?_
     clear hK K;refine wR 6 fun K hK=>?_
     go_simp;refine hK.out _ _ (Q9 HB3.out (fun _ h _=>h)) (fun hS=>?_);clear hK K;refine wR 7 fun K hK=>?_
     go_simp;refine Z7 hIN ?_;rintro e w4 ⟨v',rfl,mU,hk4,hv4⟩;obtain⟨za,zm,zc,rfl⟩:=ZA mU;have Mt:Kept (fun b=>b≠sb/\(Value.slice aa an ac).ownBlock≠some b) w2 w4:=(Q9 HB3.out (fun _ h _=>h)).trans (hk4.mono (fun b _ h=>h.2));refine hK.out _ _ Mt fun hS=>?_
     clear hK K;refine wt 8 (.pointer (some (aD sb 14))) hS ?_;have hg4:=HG2.out.keep ((Q9 (s:=fun b=>b=sb) HB3.out (fun b _ h=>by rw[h]; exact HG2.out.lt)).trans (hk4.mono (fun b _ h e=>YP.out (h ▸ e)))) rfl;have f14:=hg4.frozen 14;have aeK:w4.cell? (aD sb 14)=some (.slice aa an ac):=by rw[hg4.cell 14,XL,Qr rfl,Qr ug.out]
     refine wR 9 fun K hK=>?_
     go_simp;refine hK.out _ _ (Mt.trans (Zv _ _ _ (fun h=>h.1 rfl))) (fun hS=>?_);clear hK K;refine wD ?_
     try simp only[pV]
     try simp only[pV]
     have HF:=Zh (OA ug.out hg4 mU HK.out HB1.out HB2.out HB3.out hk4 HV.out hv4 (by decide));clear hS f14 aeK hg4 mU hk4 hv4 Mt aiw aix hIN;go_wp2;go_roundw
     case rel=>exact⟨k+1,.slice za zm zc,by omega,by go_num,HF.out.1,HF.out.2.1,HF.out.2.2.1,HF.out.2.2.2⟩
     case measure=>simp[intOf]; omega
    ·go_simp;refine hK.out _ _ (Q9 HB3.out (fun _ h _=>h)) (fun hS=>?_);clear hK K;refine wR 3 fun K hK=>?_
     go_simp;refine hK.out _ _ hS fun hS=>?_
     clear hK K;refine wR 7 fun K hK=>?_
     go_simp;refine Z7 hIN ?_;rintro e w4 ⟨v',rfl,mU,hk4,hv4⟩;obtain⟨za,zm,zc,rfl⟩:=ZA mU;have Mt:Kept (fun b=>b≠sb/\(Value.slice aa an ac).ownBlock≠some b) w2 w4:=(Q9 HB3.out (fun _ h _=>h)).trans (hk4.mono (fun b _ h=>h.2));refine hK.out _ _ Mt fun hS=>?_
     clear hK K;refine wt 8 (.pointer (some (aD sb 14))) hS ?_;have hg4:=HG2.out.keep ((Q9 (s:=fun b=>b=sb) HB3.out (fun b _ h=>by rw[h]; exact HG2.out.lt)).trans (hk4.mono (fun b _ h e=>YP.out (h ▸ e)))) rfl;have f14:=hg4.frozen 14;have aeK:w4.cell? (aD sb 14)=some (.slice aa an ac):=by rw[hg4.cell 14,XL,Qr rfl,Qr ug.out]
     refine wR 9 fun K hK=>?_
     go_simp;refine hK.out _ _ (Mt.trans (Zv _ _ _ (fun h=>h.1 rfl))) (fun hS=>?_);clear hK K;refine wD ?_
     try simp only[pV]
     try simp only[pV]
     have HF:=Zh (OA ug.out hg4 mU HK.out HB1.out HB2.out HB3.out hk4 HV.out hv4 (by decide));clear hS f14 aeK hg4 mU hk4 hv4 Mt aiw aix hIN;go_wp2;go_roundw
     case rel=>exact⟨k+1,.slice za zm zc,by omega,by go_num,HF.out.1,HF.out.2.1,HF.out.2.2.1,HF.out.2.2.2⟩
     case measure=>simp[intOf]; omega
  ·have hkt:ts.length=k:=by omega
   rw[<- hkt,HE.out] at HO;clear hkt;go_wp2;go_end0;exact⟨⟨_,rfl⟩,avk,HG.out,HO.out,HK.out,HV.out⟩
def XR:=@Fa
structure fQ (Tl:TypeId) (F:Nat->Prop) (base:Nat) (w:World) (v:Value) (os:List ah):Prop where
 own:w.ownsRow base Tl 1 v os.length (os.map ah.val)
 each:∀ o∈os,IntsIn (Fv F v) w o/\o.xs.length<=1000
theorem fQ.below {Tl:TypeId} {F:Nat->Prop} {base:Nat} {w w':World} {v:Value} {os:List ah} (h:fQ Tl F base w v os) (hb:Below w.heap.size w w'):fQ Tl F base w' v os:=
 ⟨Z0 h.own hb,fun o ho=>⟨(h.each o ho).1.below hb,(h.each o ho).2⟩⟩
theorem IntsIn.own {F:Nat->Prop} {w0 w:World} {o:ah} (h:IntsIn F w0 o) (hb:Below w0.heap.size w0 w) {v:Value} (hv:∀ g,v.ownBlock=some g->w0.heap.size<=g):IntsIn (Fv F v) w o:=
 (h.mono (G:=Fv F v) (fun b hb hF=>⟨hF,fun e=>by have:=hv b e; omega⟩)).below hb
theorem IntsIn.pushed {F:Nat->Prop} {w w':World} {v v':Value} {o:ah} (h:IntsIn (Fv F v) w o) (hk:Kept (fun b=>v.ownBlock≠some b) w w') (hat:v'.ownBlock=v.ownBlock∨∃ g,v'.ownBlock=some g/\w.heap.size<=g):IntsIn (Fv F v') w' o:=by
 have h1:=h.mono (G:=fun b=>Fv F v b/\Fv F v' b) (fun b hb hF=>⟨hF,hF.1,fun e=>by
  rcases hat with h | ⟨g,h,hg⟩
  ·exact hF.2 (h ▸ e)
  ·rw[h] at e;injection e with e;omega⟩)
 exact (h1.aT (hk.mono fun b _ hb=>hb.1.2)).mono fun _ _ h=>h.2
theorem fQ.push {Tl:TypeId} {F:Nat->Prop} {base:Nat} {w w':World} {v v':Value} {os:List ah} {o:ah} (h:fQ Tl F base w v os) (ho:IntsIn (Fv F v) w o) (hl:o.xs.length<=1000) (hn:w'.ownsRow base Tl 1 v' (os++[o]).length ((os++[o]).map ah.val)) (hk:Kept (fun b=>v.ownBlock≠some b) w w') (hat:v'.ownBlock=v.ownBlock∨∃ g,v'.ownBlock=some g/\w.heap.size<=g):fQ Tl F base w' v' (os++[o]):=
 ⟨hn,fun x hx=>by
  rcases QX.1 hx with hx | hx
  ·exact⟨(h.each x hx).1.pushed hk hat,(h.each x hx).2⟩
  ·rw[QY] at hx;rw[hx];exact⟨ho.pushed hk hat,hl⟩⟩
theorem fQ.cells {Tl:TypeId} {F:Nat->Prop} {base:Nat} {w:World} {v:Value} {os:List ah} (h:fQ Tl F base w v os):∃ ao cap,v=.slice ao os.length cap/\os.length<=cap/\aY w ao os.length (fun i=>(os.getD i dU).val):=by
 rcases h.own.2 with⟨rfl,h0⟩ | ⟨g,cap,cur,rfl,-,-,hc,-⟩
 ·have:=Qz h0;subst this;exact⟨none,0,rfl,Qq _,fun i hi=>absurd hi (by simp)⟩
 ·refine⟨_,cap,rfl,hc,fun i hi=>⟨g,0,rfl,?_⟩⟩;rcases ZT h.own with⟨e,_⟩ | ⟨g',cap',e,_,_,hcc⟩
  ·cases e
  ·injection e with e _ _;injection e with e;injection e with e;subst e;rw[QE];exact hcc i _ (by show _=some (os.getD i dU).val; rw[QW,ZG hi,Xq,ZG hi]; rfl)
theorem Sc {os:List ah} {x:List Int} {k:Nat} (hk:k<os.length):x∈(os.take (k+1)).map ah.xs↔x∈(os.take k).map ah.xs∨x=(os.getD k dU).xs:=by
 rw[XB os dU hk,Ql,QX];simp
theorem VO (W:World) (base:Nat) (v:Value) (os:List ah) (hown:W.ownsRow base 22 1 v os.length (os.map ah.val)) (hl:os.length<=1000) (hb:base<=W.heap.size) (o:ah) (ty:TypeId) :
  ∃ v' w',(Builtin.append_ #[57,57] ty #[v,.slice (some (aD W.heap.size 0)) 1 1]).run Tryz.prog (W.alloc (.cells #[o.val] 22))=.ok v' w'/\
   w'.ownsRow base 22 1 v' (os++[o]).length ((os++[o]).map ah.val)/\Kept (fun b=>v.ownBlock≠some b) W w'/\(∃ a m c,v' = .slice a m c)/\(v'.ownBlock=v.ownBlock∨v'.ownBlock=some (W.heap.size+1)):=by
 obtain⟨i0,hi,hz0,hz1,hz2⟩:=ZC Tryz.zF;obtain⟨v',w',hr,ho,hk,hs,hat⟩:=ZV (P:=Tryz.prog) W base 57 ty 22 i0 _ 1 24 Tryz.underlying57 hi hz0 hz1 hz2 rfl (by decide) v os.length _ hown hb [o.val] rfl (fun u hu=>by
  rw[QY] at hu;rw[hu];rfl) hl (by decide)
 exact⟨v',w',hr,by rw[QT,Ql]; exact ho,hk,hs,hat⟩
theorem MH (x o:ah) (bx:Nat) (w:World) (hx:x.At w) (ho:o.At w) (hc:w.cell? (aD bx 0)=some o.val) :
  Calls Tryz.prog 170 (#[x.val] ++ #[.pointer (some (aD bx 0))]) w fun e w'=>e=.returned (.bool (decide (x.xs=o.xs)))/\Below w.heap.size w w':=by
 have hEQ:=C8 x.ad o.ad x.cap o.cap x.xs o.xs w hx ho;obtain⟨xa,xc,xx⟩:=x;obtain⟨oa,oc,ox⟩:=o
 show Calls Tryz.prog 170 #[.slice xa xx.length xc,.pointer (some (aD bx 0))] w _
 simp only[ah.val] at *;generalize decide (xx=ox)=D at *;clear hx ho;generalize xx.length=xl at *;generalize ox.length=ol at *;go_enter Tryz.func170,Tryz.ntmps170;go_wp2_with fail;refine hEQ.mono ?_;rintro e w2 ⟨rfl,hb2⟩;have HB:=Zh hb2;clear hEQ hb2 hc;go_wp2;go_ret;exact⟨rfl,HB.out⟩
theorem MI (ao:Option Addr) (cap:Nat) (os:List ah) (o:ah) (bx:Nat) (w:World) (hos:aY w ao os.length (fun i=>(os.getD i dU).val)) (hat:∀ x∈os,x.At w) (ho:o.At w) (hc:w.cell? (aD bx 0)=some o.val) (hl:os.length<=1000) :
  Calls Tryz.prog 214 #[.slice ao os.length cap,.func (.func 170) #[] #[.pointer (some (aD bx 0))]] w fun e w'=>∃ r:Int,e=.returned (.int .i64 r)/\Hid (0<=r↔o.xs∈os.map ah.xs)/\Below w.heap.size w w':=by
 have HOS:=Zh hos;have HC:Hid (∀ (k:Nat) (y:World),k<os.length->Below w.heap.size w y->Calls Tryz.prog 170 (#[(os.getD k dU).val] ++ #[.pointer (some (aD bx 0))]) y fun e w'=>e=.returned (.bool (decide ((os.getD k dU).xs=o.xs)))/\Below y.heap.size y w'):=fun k y hk hy=>MH _ o bx y (Qo hy (hat _ (by rw[Xq,ZG hk]; exact Qj hk))) (Qo hy ho) (cB hy hc)
 clear hos hat ho hc;go_enter Tryz.func214,Tryz.ntmps214;go_wp2;go_loopw [8] (fun iv wr=>∃ k:Nat,k<=os.length/\iv=.int .i64 (k:Int)/\Hid (o.xs ∉ (os.take k).map ah.xs)/\Hid (Below w.heap.size w wr)) (fun iv _=>os.length-(intOf iv).toNat)
 case atStart=>exact⟨0,QQ _,rfl,by show _ ∉ _; simp,Qp _ _⟩
 case round=>
  obtain⟨k,hk,rfl,HN,HB⟩:=hrel;by_cases hlt:k<os.length
  ·obtain⟨bb,LW,rfl,hbc⟩:=Qf (aY.below HB.out HOS.out) hlt;have hck:=hbc k hlt;have hCk:=HC.out k wr hlt HB.out;have HM:=Zh (Sc (x:=o.xs) hlt);have pW:Hid (os.getD k dU∈os):=by show _∈_; rw[Xq,ZG hlt]; exact Qj hlt
   generalize os.getD k dU=x at *;obtain⟨xa,xc,xx⟩:=x;simp only[ah.val] at *;change Calls Tryz.prog 170 #[.slice xa xx.length xc,.pointer (some (aD bx 0))] wr _ at hCk;by_cases hxo:xx=o.xs
   ·rw[Qu hxo] at hCk;have HF:Hid (o.xs∈os.map ah.xs):=by show _∈_; rw[<- hxo]; exact Q0.2 ⟨_,pW.out,rfl⟩
    clear hbc hxo pW HM;go_wp2_with fail;refine hCk.mono ?_;rintro e w2 ⟨rfl,hb2⟩;have HB2:=Zh (aG HB.out hb2);clear hCk hb2 hck;go_wp2;go_ret;exact⟨k,rfl,⟨fun _=>HF.out,fun _=>by omega⟩,HB2.out⟩
   ·rw[Qh hxo] at hCk;have HN2:Hid (o.xs ∉ (os.take (k+1)).map ah.xs):=fun h=>by
     rcases HM.out.1 h with h | h
     ·exact HN.out h
     ·exact hxo h.symm
    clear hbc hxo pW HM;go_wp2_with fail;refine hCk.mono ?_;rintro e w2 ⟨rfl,hb2⟩;have HB2:=Zh (aG HB.out hb2);clear hCk hb2 hck;go_wp2;go_roundw
    case rel=>exact⟨k+1,by omega,by go_num,HN2.out,HB2.out⟩
    case measure=>simp[intOf]; omega
  ·have hkk:os.length=k:=by omega
   have HF:Hid (o.xs ∉ os.map ah.xs):=by
    have:=HN.out;rw[<- hkk,Qt] at this;exact this
   clear hkk;go_wp2;go_ret;exact⟨-1,rfl,⟨fun h=>by omega,fun h=>absurd h HF.out⟩,HB.out⟩
theorem MJ (ao:Option Addr) (cap:Nat) (os:List ah) (o:ah) (bx:Nat) (w:World) (hos:aY w ao os.length (fun i=>(os.getD i dU).val)) (hat:∀ x∈os,x.At w) (ho:o.At w) (hc:w.cell? (aD bx 0)=some o.val) (hl:os.length<=1000) :
  Calls Tryz.prog 169 #[.slice ao os.length cap,.func (.func 170) #[] #[.pointer (some (aD bx 0))]] w fun e w'=>e=.returned (.bool (decide (o.xs∈os.map ah.xs)))/\Below w.heap.size w w':=by
 have hI:=MI ao cap os o bx w hos hat ho hc hl;clear hos hat ho hc hl;go_enter Tryz.func169,Tryz.ntmps169;go_wp2_with fail;refine hI.mono ?_;rintro e w2 ⟨r,rfl,HR,hb2⟩;have HB:=Zh hb2;clear hI hb2;go_wp2;go_ret;exact⟨Qd (by rw[Qw,Qx,Qx]; exact HR.out),HB.out⟩
theorem Sd {F:Nat->Prop} {base:Nat} {w:World} {v:Value} {os:List ah} (h:fQ 22 F base w v os) (hb:base<=w.heap.size) (o:ah) (ho:IntsIn (Fv F v) w o) (hol:o.xs.length<=1000) (hl:os.length<=1000) :
  Calls Tryz.prog 118 #[v,o.val] w fun e w'=>∃ v' os',e=.returned v'/\fQ 22 F base w' v' os'/\os'.map ah.xs=iI (os.map ah.xs) o.xs/\os'.length<=os.length+1/\Kept (fun b=>v.ownBlock≠some b) w w'/\(v'.ownBlock=v.ownBlock∨∃ g,v'.ownBlock=some g/\w.heap.size<=g):=by
 obtain⟨ao,cap,rfl,hcap,hcs⟩:=h.cells;obtain⟨w1,hw1,hb1,hx1⟩:=bu w #[o.val] 22;have hF:=MJ ao cap os o w.heap.size w1 (aY.below hb1 hcs) (fun x hx=>Qo hb1 (h.each x hx).1.at') (Qo hb1 ho.at') (hx1.cell 0) hl;have HH:=Zh h;have HO:=Zh ho;have HB1:=Zh hb1;have HX1:=Zh hx1;by_cases hm:o.xs∈os.map ah.xs
 ·rw[Qu hm] at hF;have HA:Hid (iI (os.map ah.xs) o.xs=os.map ah.xs):=by show _=_; unfold iI; rw[Qr hm]
  obtain⟨oa,oc,ox⟩:=o;simp only[ah.val] at *;clear h ho hb1 hx1 hm hcs;go_enter Tryz.func118,Tryz.ntmps118;go_wp2_with fail;refine hF.mono ?_;rintro e w2 ⟨rfl,hb2⟩;have HB2:=Zh (aG HB1.out hb2);clear hF hb2 hw1;go_wp2;go_ret;exact⟨_,os,rfl,HH.out.below HB2.out,HA.out.symm,by omega,Q9 HB2.out (fun _ h _=>h),.inl rfl⟩
 ·rw[Qh hm] at hF;have HA:Hid (iI (os.map ah.xs) o.xs=os.map ah.xs++[o.xs]):=by show _=_; unfold iI; rw[Qs hm]
  have HL:Hid (os.length<=1000/\base<=w.heap.size/\o.xs.length<=1000):=⟨hl,hb,hol⟩
  obtain⟨oa,oc,ox⟩:=o;simp only[ah.val] at *;clear h ho hb1 hx1 hm hcs hl hb hol;go_enter Tryz.func118,Tryz.ntmps118;go_wp2_with fail;refine hF.mono ?_;rintro e w2 ⟨rfl,hb2⟩;have hB2:=aG HB1.out hb2;have c0:w2.cell? (aD w.heap.size 0)=some (.slice oa ox.length oc):=cB hb2 (HX1.out.cell 0);obtain⟨v',w3,hr3,ho3,hk3,⟨za,zm,zc,rfl⟩,Pj⟩:=VO w2 base (.slice ao os.length cap) os (Z0 HH.out.own hB2) HL.out.1 (Q4 HL.out.2.1 hB2.size) ⟨oa,oc,ox⟩ 57;have A7:(Value.slice za zm zc).ownBlock=(Value.slice ao os.length cap).ownBlock∨∃ g,(Value.slice za zm zc).ownBlock=some g/\w2.heap.size<=g:=by
   rcases Pj with h | h
   ·exact .inl h
   ·exact .inr ⟨_,h,by omega⟩
  have HF:Hid (fQ 22 F base w3 (.slice za zm zc) (os++[⟨oa,oc,ox⟩])/\Kept (fun b=>(Value.slice ao os.length cap).ownBlock≠some b) w w3/\((Value.slice za zm zc).ownBlock=(Value.slice ao os.length cap).ownBlock∨∃ g,(Value.slice za zm zc).ownBlock=some g/\w.heap.size<=g)):=⟨(HH.out.below hB2).push (HO.out.below hB2) HL.out.2.2 ho3 hk3 A7,(Q9 hB2 (fun _ h _=>h)).trans hk3,by
   rcases A7 with h | ⟨g,h,hg⟩
   ·exact .inl h
   ·exact .inr ⟨g,h,Q4 hB2.size hg⟩⟩
  change (Builtin.append_ #[57,57] 57 #[.slice ao os.length cap,.slice (some (aD w2.heap.size 0)) 1 1]).run Tryz.prog (w2.alloc (.cells #[.slice oa ox.length oc] 22))=.ok (.slice za zm zc) w3 at hr3;have HSN:Hid ((os++[(⟨oa,oc,ox⟩:ah)]).map ah.xs=os.map ah.xs++[ox]/\(os++[(⟨oa,oc,ox⟩:ah)]).length<=os.length+1):=⟨by simp,by simp⟩
  generalize os++[(⟨oa,oc,ox⟩:ah)]=os' at *;clear hF hb2 hB2 hw1 ho3 hk3 Pj A7;go_wp2_with (first | (at_builtin; refine ZN rfl (.tmp 9) (.tmp 11) 57 rfl (.slice ao os.length cap) (.slice (some (aD w2.heap.size 0)) 1 1) (.slice za zm zc) w3 rfl rfl hr3 ?_));clear hr3 c0;go_wp2;go_ret;exact⟨_,os',rfl,HF.out.1,HSN.out.1.trans HA.out.symm,HSN.out.2,HF.out.2⟩
