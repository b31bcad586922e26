import Derived.Test.YtgemohlbjehmbaaGreatDoorF15
import Derived.Test.YtgemohlbjehmbaaGreatDoorF16
import Derived.Test.YtgemohlbjehmbaaGreatDoorF34
import Derived.Test.YtgemohlbjehmbaaGreatDoorF35
set_option linter.all false
set_option maxRecDepth 100000
set_option maxHeartbeats 16000000
namespace Go.Proofs.Zz
open Go.RowKit Go.Shelf
variable {W0 w:World} {f:aC} {ts:List af} {q:ae} {X:Nat->Prop} {R:Ending->World->Prop}
section
attribute [local go_sem] Oper.semAt_some
def Yx(pre:List Nat):List aO:=pre.foldl (λa (i:Nat)=>gI bJ a (2 ^ i,0)) []
theorem adb(pre:List Nat)(x:Nat):Yx (pre++[x])=[(2 ^ x,0)].foldl (gI bJ) (Yx pre):=by unfold Yx;rw[ZP];rfl
theorem ade(pre:List Nat)(h:∀ y∈pre,y<5):(∀ a∈Yx pre,a.1<32/\a.2<32)/\(Yx pre).length<=pre.length:=by
 have e:Yx pre=(pre.map λi=>((2 ^ i,0):aO)).foldl (gI bJ) []:=by unfold Yx;rw[List.foldl_map]
 have:=KA (rk:=bJ) (pre.map λi=>((2 ^ i,0):aO)) [] (λa b=>by cases b) (λa b=>by
  obtain⟨y,hy,rfl⟩:=QZ.1 b;have:2 ^ y<2 ^ 5:=ZN (by omega) (h y hy);omega)
 grind
theorem Tc{n:Nat}(h:n<=5):bB (2 ^ n-1)=List.range n:=by
 have:n=0∨n=1∨n=2∨n=3∨n=4∨n=5:=by omega
 rcases this with rfl | rfl | rfl | rfl | rfl | rfl <;> rfl
structure adf(wr:World)(sb base:Nat)(arr:Array Value)(pre:List Nat)(o1:Nat->Prop)(W:World):Prop where
 ex:∃ av,GB W sb 97 (arr.setIfInBounds 14 av)/\W.ownsRow base 122 2 av (Yx pre).length ((Yx pre).flatMap fw)/\(∀ b,o1 b↔b=sb∨av.ownBlock=some b)/\(∀ b,av.ownBlock=some b->wr.heap.size<=b)
 kept:Kept (λb=>b≠sb) wr W
theorem adf.keep{wr:World}{sb base:Nat}{arr:Array Value}{pre:List Nat}{o1:Nat->Prop}{A B:World}(h:adf wr sb base arr pre o1 A)(hk:Kept (λb=>o1 b∨b<wr.heap.size) A B):adf wr sb base arr pre o1 B:=by obtain⟨av,a,e,d,f⟩:=h.ex;exact⟨⟨av,a.keep hk (.inl ((d _).2 (.inl rfl))),Zi e hk (λg a=>.inl ((d g).2 (.inr a))),d,f⟩,h.kept.trans' hk (λb i _=>.inr i)⟩
theorem GB.inj{G:Nat}{t t':TypeId}{c c':Array Value}(h:GB w G t c)(h':GB w G t' c'):c=c':=by have a:w.heap[G]? = some (.cells c t (0,0)):=h;have b:w.heap[G]? = some (.cells c' t' (0,0)):=h';grind
theorem awc(W:World)(o1 o2:Obj):Bw W ((W.drew.alloc o1).alloc o2):=((Qm _ _).drew.alloc (Qn _) o1).alloc (by simp) o2
theorem om.start(room:Nat)(hz:Fz (λb=>¬ X b) W0 w){vb sb bt:Nat}(gb cp:Nat->Nat)(os:Nat->List ai){y:World}(hb:Bw w y)(hl:w.heap.size<sb/\w.heap.size<vb/\vb≠sb)(h1:GB y w.heap.size 68 (f.cells ts q))(h2:GB y vb 57 #[.pointer (some ⟨sb,0,none⟩)])(h3:GB y sb 97 (f.cells ts q++ND (.slice none 0 0) false bt))(h4:aT 135 (λb=>¬ X b/\b≠sb) y bt (iE ts q)):om W0 f ts q X room w vb sb 0 (nV ts q room 0) (.slice none 0 0) gb cp os bt y:=
 ⟨hz.next hb,hb,hz.below.size,λb d=>Nat.lt_of_not_le λhl=>hz.high b hl d,hl,h1,h2,h3,Zu _ _ _ _,λj a=>absurd a (Nat.not_lt_zero _),λi j g=>absurd g (Nat.not_lt_zero _),h4.mono λb _ hb=>⟨hb.1,hb.2,(λe=>by cases e),λj a=>absurd a (Nat.not_lt_zero _)⟩⟩
theorem Yy(E:Env f ts q W0)(hz:Fz (λb=>¬ X b) W0 w)(room:Nat)(h1:1<=room)(h2:room<=1000) :
  Calls Tryz.prog 31 #[.agg (f.cells ts q),.int .i64 (room:Int)] w λe w'=>∃ t L M,e=.returned (.pointer (some ⟨t,0,none⟩))/\fe W0 f ts q (λb=>X b∨M b) M w' t L (bP bJ ts q room)/\(∀ b,M b->w.heap.size<=b)/\Bw w w':=by
 obtain⟨v0,U,V,v3,v4,v5,Y,Z,v8,v9,u,C,D,bR,-,-,-,-,-,-,-,-,gB,-⟩:=Z6 f ts q;subst gB;have dB:=E.five;have gX:=E.one;have CO:Hid (∀ x (F:Nat->Prop),Fz F W0 x->Calls Tryz.prog 48 #[.agg #[v0,U,V,v3,v4,v5,Y,Z,.int .u64 ((2 ^ q.src.xs.length-1:Nat):Int),v9,u,C,D]] x (dw 135 F x (iE ts q))):=λx F hx=>by rw[<- bR];exact KE E hx
 have dC:Hid (∀ x (F:Nat->Prop) (k:Nat),Fz F W0 x->k<18446744073709551616->Calls Tryz.prog 49 #[.agg #[v0,U,V,v3,v4,v5,Y,Z,.int .u64 ((2 ^ q.src.xs.length-1:Nat):Int),v9,u,C,D],.int .u64 (k:Int)] x λe w'=>∃ v os,e=.returned v/\jB 22 F x.heap.size w' v os/\os.map ai.xs=bH ts q k/\Bw x w'):=λx F k hx hk=>by rw[<- bR];exact BM E hx k hk
 have fC:Hid (∀ k,(bH ts q k).length<=18/\0<(bH ts q k).length):=λk=>by obtain⟨⟨r,hr⟩,hl⟩:=Fb ts q k E.eight;exact⟨hl,by rw[hr]; simp⟩
 obtain⟨I,bg⟩:∃ n:Nat,n=2 ^ q.src.xs.length-1:=⟨_,rfl⟩;have fD:I<=31/\1<=I:=by have h5:2 ^ q.src.xs.length<=2 ^ 5:=QI (by omega) dB;grind
 have fE:=Zh (sO I (by omega));rw[<- bg]at bR CO dC;have X6:=Zh bg;have fF:Hid (bB I=List.range q.src.xs.length):=by show _=_; rw[bg]; exact Tc dB
 have HZ:=Zh hz;obtain⟨P,gD,bQ,O⟩:=bn w #[v0,U,V,v3,v4,v5,Y,Z,(.int .u64 (I:Int)),v9,u,C,D] 68;have a0:P.cell? ⟨w.heap.size,0,none⟩=some v0:=O.cell 0;have a1:P.cell? ⟨w.heap.size,1,none⟩=some U:=O.cell 1;have a2:P.cell? ⟨w.heap.size,2,none⟩=some V:=O.cell 2;have a3:P.cell? ⟨w.heap.size,3,none⟩=some v3:=O.cell 3;have a4:P.cell? ⟨w.heap.size,4,none⟩=some v4:=O.cell 4;have a5:P.cell? ⟨w.heap.size,5,none⟩=some v5:=O.cell 5;have a6:P.cell? ⟨w.heap.size,6,none⟩=some Y:=O.cell 6;have a7:P.cell? ⟨w.heap.size,7,none⟩=some Z:=O.cell 7;have a8:P.cell? ⟨w.heap.size,8,none⟩=some (.int .u64 (I:Int)):=O.cell 8;have a9:P.cell? ⟨w.heap.size,9,none⟩=some v9:=O.cell 9;have ji:P.cell? ⟨w.heap.size,10,none⟩=some u:=O.cell 10;have jE:P.cell? ⟨w.heap.size,11,none⟩=some C:=O.cell 11;have aM:P.cell? ⟨w.heap.size,12,none⟩=some D:=O.cell 12;have bA:=Zh bQ;have bC:Hid (∀ (vb t Q:Nat) (y:World),Bw P y->P.heap.size<=t->P.heap.size<=vb->vb≠t->GB y vb 57 #[.pointer (some ⟨t,0,none⟩)]->GB y t 97 #[v0,U,V,v3,v4,v5,Y,Z,(.int .u64 (I:Int)),v9,u,C,D,.slice none 0 0,.slice none 0 0,.bool false,.pointer (some ⟨Q,0,none⟩),.slice none 0 0,.int .i64 1]->aT 135 (λb=>¬ X b/\b≠t) y Q (iE ts q)->om W0 f ts q X room w vb t 0 (nV ts q room 0) (.slice none 0 0) (λ_=>0) (λ_=>0) (λ_=>[]) Q y):=λvb t Q y hy hs hv gV g2 g3 ht=>by
  have:=O.lt;refine om.start room hz _ _ _ (aF bQ hy) ⟨by omega,by omega,gV⟩ ?_ g2 ?_ ht
  ·rw[bR];exact O.keep (Q7 (s:=λb=>b<P.heap.size) hy (λ_ h _=>h)) O.lt
  ·rw[bR];exact g3
 have DX:=Zh bR;rw[bR];clear bR hz bQ O E bg;refine(Z9 (n:=0)).1 (callsIn_of_wp_marks Tryz.func31 rfl trivial (wpIn_wide.2 ?_) rfl);simp only[Tryz.ntmps31,List.size_toArray,QV,Xa,Nat.reduceAdd,Nat.reduceSub,Array.replicate_succ,Array.replicate_zero,List.push_toArray,List.append_toArray,List.nil_append,List.cons_append];go_wp2_with fail;clear gD;refine SQ (J:=λe a y=>e=.normal/\∃ vb t Q,a = { tmps:=#[.agg #[v0,U,V,v3,v4,v5,Y,Z,(.int .u64 (I:Int)),v9,u,C,D],.int .i64 (room:Int),.pointer (some ⟨w.heap.size,0,none⟩),undef,.pointer none,.pointer (some ⟨vb,0,none⟩),undef,undef,undef,.agg #[v0,U,V,v3,v4,v5,Y,Z,(.int .u64 (I:Int)),v9,u,C,D],.agg #[v0,U,V,v3,v4,v5,Y,Z,(.int .u64 (I:Int)),v9,u,C,D],.pointer (some ⟨Q,0,none⟩),.agg #[v0,U,V,v3,v4,v5,Y,Z,(.int .u64 (I:Int)),v9,u,C,D,.slice none 0 0,.slice none 0 0,.bool false,.pointer (some ⟨Q,0,none⟩),.slice none 0 0,.int .i64 1],.pointer (some ⟨t,0,none⟩),undef,undef,undef,undef,undef,undef,undef,undef,undef,undef,undef,undef,undef,undef,undef,undef,undef,undef,undef,undef,undef,undef,undef,undef,undef,undef,undef,undef,undef,undef,undef,undef,undef,undef,undef,undef,undef,undef,undef,undef,undef,undef,undef,undef,undef,undef,undef,undef,undef,undef,undef,undef,undef,undef],defers:=[] }/\om W0 f ts q X room w vb t 0 (nV ts q room 0) (.slice none 0 0) (λ_=>0) (λ_=>0) (λ_=>[]) Q y) ?r1 ?rest
 case r1=>
  refine wH P λd=>?_;refine wN 0 (.agg #[v0,U,V,v3,v4,v5,Y,Z,(.int .u64 (I:Int)),v9,u,C,D]) d (λx hx=>?_) ?_
  ·have e0:=l7 hx a0 a1 a2 a3 a4 a5 a6 a7 a8 a9 ji jE aM;go_simp
  refine wN 1 (.agg #[v0,U,V,v3,v4,v5,Y,Z,(.int .u64 (I:Int)),v9,u,C,D]) d (λx hx=>?_) ?_
  ·have e0:=l7 hx a0 a1 a2 a3 a4 a5 a6 a7 a8 a9 ji jE aM;go_simp
  clear a0 a1 a2 a3 a4 a5 a6 a7 a8 a9 ji jE aM;refine wJ 2 5 (λK p=>?_) λK p=>?_
  ·skip;go_simp;refine Z5 (CO.o _ (λb=>¬ X b) (HZ.o.next (aF bA.o d))) ?_;rintro e y0 ⟨Q,rfl,hT,gF,gG,H⟩;refine oT p d H λd=>?_
   clear p K;refine wn 3 (.agg #[v0,U,V,v3,v4,v5,Y,Z,(.int .u64 (I:Int)),v9,u,C,D,.slice none 0 0,.slice none 0 0,.bool false,.pointer (some ⟨Q,0,none⟩),.slice none 0 0,.int .i64 1]) d ?_;have fG:=d.size;refine wJ 4 5 (λK p=>?_) λK p=>?_
   ·skip;go_simp;refine p.o _ _ (d.trans (fq _ _ |>.mono d.size)) λd=>?_
    clear p K;obtain⟨y1,ak⟩:∃ z,y0.alloc (.cells #[v0,U,V,v3,v4,v5,Y,Z,(.int .u64 (I:Int)),v9,u,C,D,.slice none 0 0,.slice none 0 0,.bool false,.pointer (some ⟨Q,0,none⟩),.slice none 0 0,.int .i64 1] 97)=z:=⟨_,rfl⟩;have az:y1.heap.size=y0.heap.size+1:=by rw[<- ak]; simp
    have N:GB y1 y0.heap.size 97 #[v0,U,V,v3,v4,v5,Y,Z,(.int .u64 (I:Int)),v9,u,C,D,.slice none 0 0,.slice none 0 0,.bool false,.pointer (some ⟨Q,0,none⟩),.slice none 0 0,.int .i64 1]:=by rw[<- ak]; exact qH _ _
    have aN:Bw y0 y1:=by rw[<- ak]; exact fq _ _
    rw[ak]at d ⊢;clear ak;obtain⟨T,ah⟩:∃ z,y1.alloc (.cells #[.pointer none] 57)=z:=⟨_,rfl⟩;have aO:T.heap.size=y1.heap.size+1:=by rw[<- ah]; simp
    have aa:GB T y1.heap.size 57 #[.pointer none]:=by rw[<- ah]; exact qH _ _
    have R:Bw y1 T:=by rw[<- ah]; exact fq _ _
    have rJ:=Zh az;have fH:=Zh aO;clear az aO;refine wR 5 λK p=>?_;go_simp;refine oT p d R λd=>?_;clear p K;clear ah;have N:=N.keep (Q7 (s:=λb=>b<y1.heap.size) R (λ_ h _=>h)) N.lt;have hc:T.cell? ⟨y1.heap.size,0,none⟩=some (.pointer none):=aa.cell 0;have hf:=aa.frozen 0;have aV:P.heap.size<=y1.heap.size:=by have:=rJ.o; omega
    have Rn:Hid (Bw P (T.setCell ⟨y1.heap.size,0,none⟩ (.pointer (some ⟨y0.heap.size,0,none⟩)))):=d.trans ((Zf (s:=λb=>b≠y1.heap.size) _ _ _ (λh=>h rfl)).below d.size (λb H=>by omega));have uS:=bC.o y1.heap.size y0.heap.size Q _ Rn.o (by have:=rJ.o; omega) aV (by have:=rJ.o; omega) (aa.set 0 (.pointer (some ⟨y0.heap.size,0,none⟩))) (N.keep (Zf (s:=λb=>b≠y1.heap.size) _ _ _ (λh=>h rfl)) (by have:=rJ.o; omega)) (((((hT.mono (G:=λb=>¬ X b/\b<y0.heap.size) (λb hl H=>⟨H,hl⟩)).below aN).below R).bI (Zf (s:=λb=>b≠y1.heap.size) _ _ _ (λh=>h rfl) |>.mono λb _ H=>by have:=rJ.o; omega)).mono λb _ H=>⟨H.1,by have:=rJ.o; omega⟩);clear N aa aN R;refine wR 6 λK p=>?_;go_simp;refine p.o _ _ (Rn.o) (λd=>?_);clear p K;refine wD ?_;try simp only[Act.put,XC,XD,XE,QA,Qb,Qc]
    exact⟨by trivial,y1.heap.size,y0.heap.size,Q,rfl,uS⟩
   ·skip;go_simp;refine p.o _ _ (d.trans (fq _ _ |>.mono d.size)) λd=>?_
    clear p K;obtain⟨y1,ak⟩:∃ z,y0.alloc (.cells #[.pointer none] 57)=z:=⟨_,rfl⟩;have az:y1.heap.size=y0.heap.size+1:=by rw[<- ak]; simp
    have N:GB y1 y0.heap.size 57 #[.pointer none]:=by rw[<- ak]; exact qH _ _
    have aN:Bw y0 y1:=by rw[<- ak]; exact fq _ _
    rw[ak]at d ⊢;clear ak;obtain⟨T,ah⟩:∃ z,y1.alloc (.cells #[v0,U,V,v3,v4,v5,Y,Z,(.int .u64 (I:Int)),v9,u,C,D,.slice none 0 0,.slice none 0 0,.bool false,.pointer (some ⟨Q,0,none⟩),.slice none 0 0,.int .i64 1] 97)=z:=⟨_,rfl⟩;have aO:T.heap.size=y1.heap.size+1:=by rw[<- ah]; simp
    have aa:GB T y1.heap.size 97 #[v0,U,V,v3,v4,v5,Y,Z,(.int .u64 (I:Int)),v9,u,C,D,.slice none 0 0,.slice none 0 0,.bool false,.pointer (some ⟨Q,0,none⟩),.slice none 0 0,.int .i64 1]:=by rw[<- ah]; exact qH _ _
    have R:Bw y1 T:=by rw[<- ah]; exact fq _ _
    have rJ:=Zh az;have fH:=Zh aO;clear az aO;refine wR 4 λK p=>?_;go_simp;refine oT p d R λd=>?_;clear p K;clear ah;have N:=N.keep (Q7 (s:=λb=>b<y1.heap.size) R (λ_ h _=>h)) N.lt;have hc:T.cell? ⟨y0.heap.size,0,none⟩=some (.pointer none):=N.cell 0;have hf:=N.frozen 0;have aV:P.heap.size<=y0.heap.size:=by have:=rJ.o; omega
    have Rn:Hid (Bw P (T.setCell ⟨y0.heap.size,0,none⟩ (.pointer (some ⟨y1.heap.size,0,none⟩)))):=d.trans ((Zf (s:=λb=>b≠y0.heap.size) _ _ _ (λh=>h rfl)).below d.size (λb H=>by omega));have uS:=bC.o y0.heap.size y1.heap.size Q _ Rn.o (by have:=rJ.o; omega) aV (by have:=rJ.o; omega) (N.set 0 (.pointer (some ⟨y1.heap.size,0,none⟩))) (aa.keep (Zf (s:=λb=>b≠y0.heap.size) _ _ _ (λh=>h rfl)) (by have:=rJ.o; omega)) (((((hT.mono (G:=λb=>¬ X b/\b<y0.heap.size) (λb hl H=>⟨H,hl⟩)).below aN).below R).bI (Zf (s:=λb=>b≠y0.heap.size) _ _ _ (λh=>h rfl) |>.mono λb _ H=>by have:=rJ.o; omega)).mono λb _ H=>⟨H.1,by have:=rJ.o; omega⟩);clear N aa aN R;refine wR 6 λK p=>?_;go_simp;refine p.o _ _ (Rn.o) (λd=>?_);clear p K;refine wD ?_;try simp only[Act.put,XC,XD,XE,QA,Qb,Qc]
    exact⟨by trivial,y0.heap.size,y1.heap.size,Q,rfl,uS⟩
  ·skip;go_simp;refine p.o _ _ (d.trans (fq _ _ |>.mono d.size)) λd=>?_
   clear p K;have az:(P.alloc (.cells #[.pointer none] 57)).drew.heap.size=P.heap.size+1:=by simp
   have N:GB (P.alloc (.cells #[.pointer none] 57)).drew P.heap.size 57 #[.pointer none]:=qH P _;generalize (P.alloc (.cells #[.pointer none] 57)).drew=y1 at *;have rJ:=Zh az;clear az;have fI:Fz (λb=>¬ X b/\b≠P.heap.size) W0 y1:=by have h0:=HZ.o.next (aF bA.o d);have h1:=HZ.o.below.size;have h2:=bA.o.size;have h3:=rJ.o;exact⟨h0.below,λb H=>⟨h0.low b H,by have:=H.lt; omega⟩,λb H=>⟨h0.high b H,by omega⟩⟩
   refine wR 2 λK p=>?_;go_simp;refine Z5 (CO.o _ (λb=>¬ X b/\b≠P.heap.size) fI) ?_;rintro e y0 ⟨Q,rfl,hT,gF,gG,H⟩;refine oT p d H λd=>?_;clear p K;refine wn 3 (.agg #[v0,U,V,v3,v4,v5,Y,Z,(.int .u64 (I:Int)),v9,u,C,D,.slice none 0 0,.slice none 0 0,.bool false,.pointer (some ⟨Q,0,none⟩),.slice none 0 0,.int .i64 1]) d ?_;have fG:=d.size;have N:=N.keep (Q7 (s:=λb=>b<y1.heap.size) H (λ_ h _=>h)) N.lt;obtain⟨T,ah⟩:∃ z,y0.alloc (.cells #[v0,U,V,v3,v4,v5,Y,Z,(.int .u64 (I:Int)),v9,u,C,D,.slice none 0 0,.slice none 0 0,.bool false,.pointer (some ⟨Q,0,none⟩),.slice none 0 0,.int .i64 1] 97)=z:=⟨_,rfl⟩;have aa:GB T y0.heap.size 97 #[v0,U,V,v3,v4,v5,Y,Z,(.int .u64 (I:Int)),v9,u,C,D,.slice none 0 0,.slice none 0 0,.bool false,.pointer (some ⟨Q,0,none⟩),.slice none 0 0,.int .i64 1]:=by rw[<- ah]; exact qH _ _
   have R:Bw y0 T:=by rw[<- ah]; exact fq _ _
   refine wR 4 λK p=>?_;go_simp;refine oT p d R λd=>?_;clear p K;clear ah;have N:=N.keep (Q7 (s:=λb=>b<y0.heap.size) R (λ_ h _=>h)) N.lt;have hc:T.cell? ⟨P.heap.size,0,none⟩=some (.pointer none):=N.cell 0;have hf:=N.frozen 0;have aV:P.heap.size<y0.heap.size:=by have:=rJ.o; have:=H.size; omega
   have Rn:Hid (Bw P (T.setCell ⟨P.heap.size,0,none⟩ (.pointer (some ⟨y0.heap.size,0,none⟩)))):=d.trans ((Zf (s:=λb=>b≠P.heap.size) _ _ _ (λh=>h rfl)).below d.size (λb H=>by omega));have uS:=bC.o P.heap.size y0.heap.size Q _ Rn.o (by omega) (Qn _) (by omega) (N.set 0 (.pointer (some ⟨y0.heap.size,0,none⟩))) (aa.keep (Zf (s:=λb=>b≠P.heap.size) _ _ _ (λh=>h rfl)) (by omega)) ((((hT.mono (G:=λb=>(¬ X b/\b≠P.heap.size)/\b<y0.heap.size) (λb hl H=>⟨H,hl⟩)).below R).bI (Zf (s:=λb=>b≠P.heap.size) _ _ _ (λh=>h rfl) |>.mono λb _ H=>H.1.2)).mono λb _ H=>⟨H.1.1,by omega⟩);clear N aa R;refine wR 6 λK p=>?_;go_simp;refine p.o _ _ (Rn.o) (λd=>?_);clear p K;refine wD ?_;try simp only[Act.put,XC,XD,XE,QA,Qb,Qc]
   exact⟨by trivial,P.heap.size,y0.heap.size,Q,rfl,uS⟩
 rintro e a y ⟨rfl,vb,t,Q,rfl,hB⟩;have dD:=Zh hB;clear hB;have bD:y.cell? ⟨w.heap.size,8,none⟩=some (.int .u64 (I:Int)):=by have:=dD.o.fbg;rw[DX.o]at this;exact this.cell 8
 obtain⟨gZ,ib⟩:=fD;go_wp2;go_loopw [17] (λiv wr=>∃ k:Nat,k<=I/\iv=.int .i64 (k:Int)/\Hid (∃ gv gb cp os,om W0 f ts q X room w vb t k (nV ts q room k) gv gb cp os Q wr)) (λiv _=>I-(intOf iv).toNat)
 case atStart=>exact⟨0,QK _,rfl,_,_,_,_,dD.o⟩
 case round=>
  obtain⟨k,hk,rfl,HJ⟩:=hrel;clear bD;by_cases ik:k<I
  ·obtain⟨gv,gb,cp,os,hB⟩:=HJ.o;have KG:=hB.fbg;rw[DX.o]at KG;have a0:wr.cell? ⟨w.heap.size,0,none⟩=some v0:=KG.cell 0;have a1:wr.cell? ⟨w.heap.size,1,none⟩=some U:=KG.cell 1;have a2:wr.cell? ⟨w.heap.size,2,none⟩=some V:=KG.cell 2;have a3:wr.cell? ⟨w.heap.size,3,none⟩=some v3:=KG.cell 3;have a4:wr.cell? ⟨w.heap.size,4,none⟩=some v4:=KG.cell 4;have a5:wr.cell? ⟨w.heap.size,5,none⟩=some v5:=KG.cell 5;have a6:wr.cell? ⟨w.heap.size,6,none⟩=some Y:=KG.cell 6;have a7:wr.cell? ⟨w.heap.size,7,none⟩=some Z:=KG.cell 7;have a8:wr.cell? ⟨w.heap.size,8,none⟩=some (.int .u64 (I:Int)):=KG.cell 8;have a9:wr.cell? ⟨w.heap.size,9,none⟩=some v9:=KG.cell 9;have ji:wr.cell? ⟨w.heap.size,10,none⟩=some u:=KG.cell 10;have jE:wr.cell? ⟨w.heap.size,11,none⟩=some C:=KG.cell 11;have aM:wr.cell? ⟨w.heap.size,12,none⟩=some D:=KG.cell 12;have dF:=dC.o wr _ k hB.fz (by omega);obtain⟨ga,gm,gc,rfl⟩:=Zk hB.own;have HB:=Zh hB;clear hB KG HJ;go_wp2_with fail;refine dF.mono ?_;rintro e z1 ⟨v,ol,rfl,hO,bS,dV⟩;have dG:0<ol.length/\ol.length<=18:=by have h1:=fC.o k;have h2:=congrArg List.length bS;rw[QQ]at h2;omega
   obtain⟨ob,oc,rfl,ic,ig,DF,aJ⟩:=ac8 hO dG.1;have Yz:=Zh (HB.o.below dV);have dH:=Zh bS;have fJ:=Zh hO.each;have fK:=Zh aJ;have fM:=Zh DF;clear dF hO bS dV DF aJ a0 a1 a2 a3 a4 a5 a6 a7 a8 a9 ji jE aM;go_wp2_with fail;have hv:z1.cell? ⟨vb,0,none⟩=some (.pointer (some ⟨t,0,none⟩)):=Yz.o.var.cell 0;have bE:=Yz.o.SX.2.2;have aj:=Yz.o.blk;rw[DX.o]at aj;have fO:z1.cell? ⟨t,15,none⟩=some (.bool (nV ts q room k)):=aj.cell 15;have fP:=aj.frozen 15;have zJ:Hid (nV ts q room (k+1)=(nV ts q room k || decide (room<ol.length))):=by show _=_;rw[Yv,<- dH.o,QQ]
   refine SQ (J:=λe a y=>e=.normal/\∃ bU bV bW bX bY bZ cu cz cK cO cZ df dh,a = { tmps:=#[.agg #[v0,U,V,v3,v4,v5,Y,Z,(.int .u64 (I:Int)),v9,u,C,D],.int .i64 (room:Int),.pointer (some ⟨w.heap.size,0,none⟩),undef,.pointer none,.pointer (some ⟨vb,0,none⟩),.int .i64 (k:Int),.slice (some ⟨ob,0,none⟩) ol.length oc,undef,.agg #[v0,U,V,v3,v4,v5,Y,Z,(.int .u64 (I:Int)),v9,u,C,D],.agg #[v0,U,V,v3,v4,v5,Y,Z,(.int .u64 (I:Int)),v9,u,C,D],.pointer (some ⟨Q,0,none⟩),.agg #[v0,U,V,v3,v4,v5,Y,Z,(.int .u64 (I:Int)),v9,u,C,D,.slice none 0 0,.slice none 0 0,.bool false,.pointer (some ⟨Q,0,none⟩),.slice none 0 0,.int .i64 1],.pointer (some ⟨t,0,none⟩),.pointer (some ⟨w.heap.size,8,none⟩),.int .u64 (I:Int),.int .i64 (I:Int),.int .i64 (k:Int),.bool true,.int .i64 (k:Int),.agg #[v0,U,V,v3,v4,v5,Y,Z,(.int .u64 (I:Int)),v9,u,C,D],.int .i64 (k:Int),.int .u64 (k:Int),.slice (some ⟨ob,0,none⟩) ol.length oc,bU,bV,bW,bX,bY,bZ,cu,cz,cK,cO,cZ,df,dh,u37,u38,u39,u40,u41,u42,u43,u44,u45,u46,u47,u48,u49,u50,u51,u52,u53,undef,undef,undef,undef,undef,undef,undef,undef,undef,undef,undef,undef,undef,undef],defers:=[] }/\om W0 f ts q X room w vb t k (nV ts q room (k+1)) (.slice ga gm gc) gb cp os Q y/\Kept (λb=>b≠t) z1 y) ?r6 ?azR
   case r6=>
    have uS:Hid (∀ y,Kept (λb=>b≠t) z1 y->GB y t 97 (f.cells ts q++ND (.slice ga gm gc) (nV ts q room (k+1)) Q)->om W0 f ts q X room w vb t k (nV ts q room (k+1)) (.slice ga gm gc) gb cp os Q y):=λy hy hg=>Yz.o.flag hy hg;have R9:Hid (GB (z1.setCell ⟨t,15,none⟩ (.bool (nV ts q room (k+1)))) t 97 (f.cells ts q++ND (.slice ga gm gc) (nV ts q room (k+1)) Q)):=by have:=aj.set 15 (.bool (nV ts q room (k+1)));show GB _ _ _ _;rw[DX.o];exact this
    clear aj Yz HB;generalize nV ts q room (k+1)=c2 at *;generalize nV ts q room k=c1 at *;refine QC (S:=λx=>Kept (λb=>b≠t) z1 x) (by kernel_rfl) (Q7 ((Qm _ _).drew) (λ_ h _=>h)) (λd=>?_);refine wN 0 (.pointer (some ⟨t,0,none⟩)) d (λx hx=>?_) ?_
    ·have e0:=XF hx hv bE;go_simp
    refine wN 1 (.pointer (some ⟨t,0,none⟩)) d (λx hx=>?_) ?_
    ·have e0:=XF hx hv bE;go_simp
    refine wn 2 (.pointer (some ⟨t,0,none⟩)) d ?_;refine wn 3 (.pointer (some ⟨t,15,none⟩)) d ?_;refine wR 4 λK p=>?_;go_simp;refine p.o _ _ d λd=>?_;clear p K;refine wn 5 (.bool c1) d ?_
    cases c1 with
    | true =>
     have aB:c2=true:=by rw[zJ.o]; rfl
     clear zJ;subst aB;refine Qa (i:=6) (v:=undef) rfl (by kernel_rfl) (by kernel_rfl) (by kernel_rfl) (λ_ _ _ h=>by cases h.1) (.inr ⟨by kernel_rfl,rfl⟩) d ?_;refine Qa (i:=7) (v:=undef) rfl (by kernel_rfl) (by kernel_rfl) (by kernel_rfl) (λ_ _ _ h=>by cases h.1) (.inr ⟨by kernel_rfl,rfl⟩) d ?_;refine Qa (i:=8) (v:=undef) rfl (by kernel_rfl) (by kernel_rfl) (by kernel_rfl) (λ_ _ _ h=>by cases h.1) (.inr ⟨by kernel_rfl,rfl⟩) d ?_;refine Qa (i:=9) (v:=undef) rfl (by kernel_rfl) (by kernel_rfl) (by kernel_rfl) (λ_ _ _ h=>by cases h.1) (.inr ⟨by kernel_rfl,rfl⟩) d ?_;refine wn 10 (.bool true) d ?_;refine wn 11 (.pointer (some ⟨t,0,none⟩)) d ?_;refine wn 12 (.pointer (some ⟨t,15,none⟩)) d ?_;refine wR 13 λK p=>?_;go_simp;refine p.o _ _ (d.trans (Zf _ _ _ (λh=>h rfl))) (λd=>?_);clear p K;refine wD ?_;try simp only[Act.put,XC,XD,XE,QA,Qb,Qc]
     exact⟨by trivial,_,_,_,_,_,_,_,_,_,_,_,_,_,rfl,uS.o _ d R9.o,d⟩
    | false =>
     by_cases fB:room<ol.length
     ·have aB:c2=true:=by rw[zJ.o]; simp[fB]
      clear zJ;subst aB;refine wm 6 (.slice (some ⟨ob,0,none⟩) ol.length oc) d ?_;refine wm 7 (.int .i64 (ol.length:Int)) d ?_;refine wm 8 (.int .i64 (room:Int)) d ?_;refine wm 9 (.bool true) d ?_;refine wn 10 (.bool true) d ?_;refine wn 11 (.pointer (some ⟨t,0,none⟩)) d ?_;refine wn 12 (.pointer (some ⟨t,15,none⟩)) d ?_;refine wR 13 λK p=>?_;go_simp;refine p.o _ _ (d.trans (Zf _ _ _ (λh=>h rfl))) (λd=>?_);clear p K;refine wD ?_;try simp only[Act.put,XC,XD,XE,QA,Qb,Qc]
      exact⟨by trivial,_,_,_,_,_,_,_,_,_,_,_,_,_,rfl,uS.o _ d R9.o,d⟩
     ·have aB:c2=false:=by rw[zJ.o]; simp[fB]
      clear zJ;subst aB;refine wm 6 (.slice (some ⟨ob,0,none⟩) ol.length oc) d ?_;refine wm 7 (.int .i64 (ol.length:Int)) d ?_;refine wm 8 (.int .i64 (room:Int)) d ?_;refine wm 9 (.bool false) d ?_;refine wn 10 (.bool false) d ?_;refine wn 11 (.pointer (some ⟨t,0,none⟩)) d ?_;refine wn 12 (.pointer (some ⟨t,15,none⟩)) d ?_;refine wR 13 λK p=>?_;go_simp;refine p.o _ _ (d.trans (Zf _ _ _ (λh=>h rfl))) (λd=>?_);clear p K;refine wD ?_;try simp only[Act.put,XC,XD,XE,QA,Qb,Qc]
      exact⟨by trivial,_,_,_,_,_,_,_,_,_,_,_,_,_,rfl,uS.o _ d R9.o,d⟩
   rintro e a z2 ⟨rfl,bU,bV,bW,bX,bY,bZ,cu,cz,cK,cO,cZ,df,dh,rfl,R,BN⟩;have aD:=Zh R;clear hv fO fP aj zJ;obtain⟨m,hm⟩:=eY (min room ol.length);have dI:1<=m/\m<=ol.length/\m<=room:=by omega
   have dJ:Hid ((if (ol.length:Int)<(room:Int) then (ol.length:Int) else (room:Int))=(m:Int)/\min (room:Int) (ol.length:Int)=(m:Int)):=⟨by split <;> omega,by omega⟩
   have dK:Hid ((ol.take m).map ai.xs=CY ts q room k):=by show _=_;unfold CY;rw[<- dH.o,List.map_take,hm];simp
   have fQ:=HB.o.blk.lt;have bF:bT z2 (some ⟨ob,0,none⟩) m (λi=>((ol.take m).getD i gQ).val):=λi hi=>by obtain⟨b,gH,e,hc⟩:=fK.o m dI.2.1 i hi;injection e with e;injection e with e1 e2;subst e1;refine⟨ob,gH,by rw[<- e2],XF BN hc ?_⟩;have:=fM.o;omega
   have aW:∀ o∈ol.take m,IntsIn (λb=>GX X t k (.slice ga gm gc) gb b/\b<z2.heap.size) z2 o/\o.xs.length<=1000:=λo ho=>by have h1:=fJ.o o (ZO ho);refine⟨?_,h1.2⟩;have h2:=h1.1.mono (G:=λb=>GX X t k (.slice ga gm gc) gb b/\b<z1.heap.size) (λb hl H=>⟨H.1,hl⟩);exact(h2.bI (BN.mono λb _ H=>H.1.2.1)).mono λb _ H=>⟨H.1,QH H.2 BN.size⟩
   have bG:(ol.take m).length=m:=by rw[ZZ]; omega
   have bK:Hid (∀ x,Bw z2 x->Calls Tryz.prog 50 #[.slice (some ⟨ob,0,none⟩) m oc] x λe w'=>∃ gn cn,e=.returned (.slice (some ⟨gn,0,none⟩) m cn)/\x.heap.size<=gn/\gn<w'.heap.size/\m<=cn/\cn<=9223372036854775807/\bM 135 160 (λb=>GX X t k (.slice ga gm gc) gb b/\b<z2.heap.size) w' gn (λ_=>0) (ol.take m) (dE (CY ts q room k))/\Bw x w'):=λx hx=>by have:=Hr (F:=λb=>GX X t k (.slice ga gm gc) gb b/\b<z2.heap.size) (w:=x) (ol.take m) (some ⟨ob,0,none⟩) oc (by rw[bG]; exact bT.below hx bF) (λo ho=>⟨(aW o ho).1.below hx,(aW o ho).2⟩) (by omega) (by omega) (λ_=>0);rw[dK.o,bG]at this;exact this
   have dL:Hid ((dE (CY ts q room k)).length=m):=by show _=_;rw[<- dK.o];unfold dE;rw[QQ,QQ,bG]
   have hv:z2.cell? ⟨vb,0,none⟩=some (.pointer (some ⟨t,0,none⟩)):=aD.o.var.cell 0;have aa:=aD.o.ne;have aL:vb≠t/\(Value.slice ga gm gc).ownBlock≠some vb:=⟨bE,aa.2.1⟩;have aj:=aD.o.blk;rw[DX.o]at aj;have fT:z2.cell? ⟨t,13,none⟩=some (.slice ga gm gc):=aj.cell 13;have UZ:Hid (∀ (T:World) (gn cn:Nat),Bw z2 T->z2.heap.size<=gn->gn<T.heap.size->m<=cn->cn<=9223372036854775807->bM 135 160 (λb=>GX X t k (.slice ga gm gc) gb b/\b<z2.heap.size) T gn (λ_=>0) (ol.take m) (dE (CY ts q room k))->T.cell? ⟨t,13,none⟩=some (.slice ga gm gc)/\(T.alloc (.cells #[.slice (some ⟨gn,0,none⟩) m cn] 116)).cell? ⟨t,13,none⟩=some (.slice ga gm gc)/\∃ pa pm pc y4,(Builtin.append_ #[92,92] 92 #[.slice ga gm gc,.slice (some ⟨T.heap.size,0,none⟩) 1 1]).run Tryz.prog (T.alloc (.cells #[.slice (some ⟨gn,0,none⟩) m cn] 116))=.ok (.slice pa pm pc) y4/\y4.cell? ⟨t,13,none⟩=some (.slice ga gm gc)/\y4.frozen? ⟨t,13,none⟩=false/\Kept (λb=>b≠t/\(Value.slice ga gm gc).ownBlock≠some b) z2 y4/\Kept (λb=>b≠t/\(Value.slice ga gm gc).ownBlock≠some b) z2 (T.alloc (.cells #[.slice (some ⟨gn,0,none⟩) m cn] 116))/\Kept (λb=>b≠t/\(Value.slice ga gm gc).ownBlock≠some b) z2 T/\∃ dx dz dA,om W0 f ts q X room w vb t (k+1) (nV ts q room (k+1)) (.slice pa pm pc) dx dz dA Q (y4.setCell ⟨t,13,none⟩ (.slice pa pm pc))):=λT gn cn aU O aA gW aB hG=>by have aP:=aj.keep (Q7 (s:=λb=>b<z2.heap.size) aU (λ_ h _=>h)) aj.lt;have aG:=ZM aD.o.own aU;obtain⟨v',y4,ay,BI,au,⟨pa,pm,pc,rfl⟩,yL⟩:=NF T w.heap.size (.slice ga gm gc) k _ aG (by omega) (Q6 aD.o.old.size aU.size) (some ⟨gn,0,none⟩) m cn 92;have bL:Kept (λb=>b≠t/\(Value.slice ga gm gc).ownBlock≠some b) z2 T:=Q7 aU (λ_ h _=>h);have dM:Kept (λb=>b≠t/\(Value.slice ga gm gc).ownBlock≠some b) T y4:=au.mono λb _ H=>H.2;have aX:=aP.keep au aa.1;have dN:Kept (λb=>b≠t) y4 (y4.setCell ⟨t,13,none⟩ (.slice pa pm pc)):=Zf _ _ _ (λh=>h rfl);refine⟨aP.cell 13,(aP.keep (Q9 (s:=λ_=>True) _ _) trivial).cell 13,pa,pm,pc,y4,ay,aX.cell 13,aX.frozen 13,bL.trans dM,bL.trans (Q9 _ _),bL,_,_,_,aD.o.push (Qm _ _) aU hG ⟨O,aA⟩ (by rw[dL.o]; exact⟨gW,aB⟩) (Zi (by rw[dL.o]; exact BI) dN (λg e e2=>jq BI aX (by decide) (e2 ▸ e))) (dM.trans (dN.mono λb _ H=>H.1)) yL ?_⟩;have:=aX.set 13 (.slice pa pm pc);rw[DX.o];exact this
   go_wp2_with fail;refine SQ (J:=λe a y=>e=.normal/\∃ dW dX dY dZ ed ek eu eD eF eG eH eO eP eQ eT eU,a = { tmps:=#[.agg #[v0,U,V,v3,v4,v5,Y,Z,(.int .u64 (I:Int)),v9,u,C,D],.int .i64 (room:Int),.pointer (some ⟨w.heap.size,0,none⟩),undef,.pointer none,.pointer (some ⟨vb,0,none⟩),.int .i64 (k:Int),.slice (some ⟨ob,0,none⟩) ol.length oc,undef,.agg #[v0,U,V,v3,v4,v5,Y,Z,(.int .u64 (I:Int)),v9,u,C,D],.agg #[v0,U,V,v3,v4,v5,Y,Z,(.int .u64 (I:Int)),v9,u,C,D],.pointer (some ⟨Q,0,none⟩),.agg #[v0,U,V,v3,v4,v5,Y,Z,(.int .u64 (I:Int)),v9,u,C,D,.slice none 0 0,.slice none 0 0,.bool false,.pointer (some ⟨Q,0,none⟩),.slice none 0 0,.int .i64 1],.pointer (some ⟨t,0,none⟩),.pointer (some ⟨w.heap.size,8,none⟩),.int .u64 (I:Int),.int .i64 (I:Int),.int .i64 (k:Int),.bool true,.int .i64 (k:Int),.agg #[v0,U,V,v3,v4,v5,Y,Z,(.int .u64 (I:Int)),v9,u,C,D],.int .i64 (k:Int),.int .u64 (k:Int),.slice (some ⟨ob,0,none⟩) ol.length oc,bU,bV,bW,bX,bY,bZ,cu,cz,cK,cO,cZ,df,dh,dW,dX,dY,dZ,ed,ek,eu,eD,eF,eG,eH,eO,eP,eQ,eT,eU,u53,undef,undef,undef,undef,undef,undef,undef,undef,undef,undef,undef,undef,undef,undef],defers:=[] }/\∃ gv gb cp os,om W0 f ts q X room w vb t (k+1) (nV ts q room (k+1)) gv gb cp os Q y) ?r7 ?az5
   case r7=>
    clear bF aW hm R BN fQ;refine QC (S:=λx=>Kept (λb=>b≠t/\(Value.slice ga gm gc).ownBlock≠some b) z2 x) (by kernel_rfl) (Q7 ((Qm _ _).drew) (λ_ h _=>h)) (λd=>?_);refine wN 0 (.pointer (some ⟨t,0,none⟩)) d (λx hx=>?_) ?_
    ·have e0:=XF hx hv aL;go_simp
    refine wN 1 (.pointer (some ⟨t,0,none⟩)) d (λx hx=>?_) ?_
    ·have e0:=XF hx hv aL;go_simp
    refine wn 2 (.pointer (some ⟨t,0,none⟩)) d ?_;refine wn 3 (.pointer (some ⟨t,13,none⟩)) d ?_;refine wn 5 (.slice (some ⟨ob,0,none⟩) ol.length oc) d ?_;refine wn 6 (.int .i64 (room:Int)) d ?_;refine wn 7 (.slice (some ⟨ob,0,none⟩) ol.length oc) d ?_;refine wn 8 (.int .i64 (ol.length:Int)) d ?_;refine wN 9 (.int .i64 (m:Int)) d (λx hx=>?_) ?_
    ·obtain⟨e1,e2⟩:=dJ.o;clear dI dJ d dG;go_simp
    refine wN 10 (.slice (some ⟨ob,0,none⟩) m oc) d (λx hx=>?_) ?_
    ·have gY:¬ oc<m:=by omega
     go_simp
    refine wJ 4 11 (λK p=>?_) λK p=>?_
    ·skip;go_simp;refine p.o _ _ d λd=>?_
     clear p K;refine wR 11 λK p=>?_;go_simp;refine Z5 (bK.o _ ((Qm _ _).drew)) ?_;rintro e T ⟨gn,cn,rfl,O,aA,di,dm,WS,dn⟩;obtain⟨bq,bu,pa,pm,pc,y4,ay,gI,gJ,au,bz,aQ,dx,dz,dA,aR⟩:=UZ.o T gn cn (aF ((Qm _ _).drew) dn) O aA di dm WS;have DW:=Zh aR;clear aR WS;refine p.o _ _ aQ λd=>?_;clear p K;refine wR 12 λK p=>?_;go_simp;refine p.o _ _ bz λd=>?_;clear p K;refine wR 13 λK p=>?_;refine Xc (by rfl) _ _ _ (by rfl) (.slice ga gm gc) (.slice (some ⟨T.heap.size,0,none⟩) 1 1) (.slice pa pm pc) y4 (by rfl) (by rfl) ay ?_;refine p.o _ _ au λd=>?_;clear p K;clear ay bq bu;refine wn 14 (.pointer (some ⟨t,0,none⟩)) d ?_;refine wn 15 (.pointer (some ⟨t,13,none⟩)) d ?_;refine wR 16 λK p=>?_;go_simp;refine p.o _ _ (au.trans (Zf _ _ _ (λh=>h.1 rfl))) (λd=>?_);clear p K;refine wD ?_;try simp only[Act.put,XC,XD,XE,QA,Qb,Qc]
     exact⟨by trivial,_,_,_,_,_,_,_,_,_,_,_,_,_,_,_,_,rfl,_,_,_,_,DW.o⟩
    ·skip;go_simp;refine Z5 (bK.o _ ((Qm _ _).drew)) ?_;rintro e T ⟨gn,cn,rfl,O,aA,di,dm,WS,dn⟩;obtain⟨bq,bu,pa,pm,pc,y4,ay,gI,gJ,au,bz,aQ,dx,dz,dA,aR⟩:=UZ.o T gn cn (aF ((Qm _ _).drew) dn) O aA di dm WS;have DW:=Zh aR;clear aR WS;refine p.o _ _ aQ λd=>?_
     clear p K;refine wJ 4 12 (λK p=>?_) λK p=>?_
     ·skip;go_simp;refine p.o _ _ d λd=>?_
      clear p K;refine wR 12 λK p=>?_;go_simp;refine p.o _ _ bz λd=>?_;clear p K;refine wR 13 λK p=>?_;refine Xc (by rfl) _ _ _ (by rfl) (.slice ga gm gc) (.slice (some ⟨T.heap.size,0,none⟩) 1 1) (.slice pa pm pc) y4 (by rfl) (by rfl) ay ?_;refine p.o _ _ au λd=>?_;clear p K;clear ay bq bu;refine wn 14 (.pointer (some ⟨t,0,none⟩)) d ?_;refine wn 15 (.pointer (some ⟨t,13,none⟩)) d ?_;refine wR 16 λK p=>?_;go_simp;refine p.o _ _ (au.trans (Zf _ _ _ (λh=>h.1 rfl))) (λd=>?_);clear p K;refine wD ?_;try simp only[Act.put,XC,XD,XE,QA,Qb,Qc]
      exact⟨by trivial,_,_,_,_,_,_,_,_,_,_,_,_,_,_,_,_,rfl,_,_,_,_,DW.o⟩
     ·skip;go_simp;refine p.o _ _ bz λd=>?_
      clear p K;refine wR 4 λK p=>?_;go_simp;refine p.o _ _ d λd=>?_;clear p K;refine wR 13 λK p=>?_;refine Xc (by rfl) _ _ _ (by rfl) (.slice ga gm gc) (.slice (some ⟨T.heap.size,0,none⟩) 1 1) (.slice pa pm pc) y4 (by rfl) (by rfl) ay ?_;refine p.o _ _ au λd=>?_;clear p K;clear ay bq bu;refine wn 14 (.pointer (some ⟨t,0,none⟩)) d ?_;refine wn 15 (.pointer (some ⟨t,13,none⟩)) d ?_;refine wR 16 λK p=>?_;go_simp;refine p.o _ _ (au.trans (Zf _ _ _ (λh=>h.1 rfl))) (λd=>?_);clear p K;refine wD ?_;try simp only[Act.put,XC,XD,XE,QA,Qb,Qc]
      exact⟨by trivial,_,_,_,_,_,_,_,_,_,_,_,_,_,_,_,_,rfl,_,_,_,_,DW.o⟩
   rintro e a z3 ⟨rfl,dW,dX,dY,dZ,ed,ek,eu,eD,eF,eG,eH,eO,eP,eQ,eT,eU,rfl,hJ⟩;have DU:=Zh hJ;clear hJ hv aj fT aL aa bF aW R BN aD HB Yz UZ bK;go_wp2;go_roundw
   case rel=>exact⟨k+1,by omega,by go_num,DU.o⟩
   case measure=>simp[intOf]; omega
  ·obtain⟨gv,gb,cp,os,hB⟩:=HJ.o;have dO:k=I:=by omega
   have KG:=hB.fbg;rw[DX.o]at KG;have bD:wr.cell? ⟨w.heap.size,8,none⟩=some (.int .u64 (I:Int)):=KG.cell 8;have dP:=Zh dO;have HB:=Zh hB;clear hB KG HJ dO;go_wp2;obtain⟨L,eZ,fo,hA⟩:=HB.o.search (by have:=dP.o; omega);have HA:=Zh hA;have J3:Hid (L.av=.slice none 0 0/\L.pv=.slice none 0 0):=⟨eZ,fo⟩;clear hA eZ fo bD;have R9:Hid (GB wr t 97 (#[v0,U,V,v3,v4,v5,Y,Z,(.int .u64 (I:Int)),v9,u,C,D,gv,.slice none 0 0,.bool (nV ts q room k),.pointer (some ⟨Q,0,none⟩),.slice none 0 0,.int .i64 1].setIfInBounds 14 (.slice none 0 0))):=by have:=HB.o.blk;rw[DX.o]at this;exact this
   obtain⟨arr,aS⟩:∃ a:Array Value,a=#[v0,U,V,v3,v4,v5,Y,Z,(.int .u64 (I:Int)),v9,u,C,D,gv,.slice none 0 0,.bool (nV ts q room k),.pointer (some ⟨Q,0,none⟩),.slice none 0 0,.int .i64 1]:=⟨_,rfl⟩;have fU:=Zh aS;rw[<- aS]at R9;clear aS;have HV:Hid (wr.cell? ⟨vb,0,none⟩=some (.pointer (some ⟨t,0,none⟩))/\vb<wr.heap.size/\vb≠t/\t<wr.heap.size/\w.heap.size<=t/\W0.heap.size<=wr.heap.size):=⟨HB.o.var.cell 0,HB.o.var.lt,HB.o.SX.2.2,HB.o.blk.lt,by have:=HB.o.SX.1; omega,HB.o.hz.below.size⟩;have aY:=Zh HB.o.old;have uG:Hid (arr.size=19):=by show _=_; rw[fU.o]; rfl
   have aZ:=Zh fF.o;refine(wpIn_wide (n:=0)).1 (vT lX (gf:=51) (s:=.int .u64 (I:Int)) rfl (enters_of Tryz.func51 (by kernel_rfl) rfl) (fE.o w) aY.o rfl (λpre o1 W=>adf wr t W0.heap.size arr pre o1 W) (λb=>b=t) ?_ ?_ ⟨⟨.slice none 0 0,R9.o,Zu _ _ _ _,λb=>by simp[Value.ownBlock],λb e=>by cases e⟩,Q5 _ _⟩ (λx=>{ tmps:=#[.agg #[v0,U,V,v3,v4,v5,Y,Z,(.int .u64 (I:Int)),v9,u,C,D],.int .i64 (room:Int),.pointer (some ⟨w.heap.size,0,none⟩),undef,.pointer none,.pointer (some ⟨vb,0,none⟩),u6,u7,.int .i64 (x:Int),.agg #[v0,U,V,v3,v4,v5,Y,Z,(.int .u64 (I:Int)),v9,u,C,D],.agg #[v0,U,V,v3,v4,v5,Y,Z,(.int .u64 (I:Int)),v9,u,C,D],.pointer (some ⟨Q,0,none⟩),.agg #[v0,U,V,v3,v4,v5,Y,Z,(.int .u64 (I:Int)),v9,u,C,D,.slice none 0 0,.slice none 0 0,.bool false,.pointer (some ⟨Q,0,none⟩),.slice none 0 0,.int .i64 1],.pointer (some ⟨t,0,none⟩),.pointer (some ⟨w.heap.size,8,none⟩),.int .u64 (I:Int),.int .i64 (I:Int),.int .i64 (k:Int),.bool false,u19,u20,u21,u22,u23,u24,u25,u26,u27,u28,u29,u30,u31,u32,u33,u34,u35,u36,u37,u38,u39,u40,u41,u42,u43,u44,u45,u46,u47,u48,u49,u50,u51,u52,u53,.pointer (some ⟨w.heap.size,8,none⟩),.int .u64 (I:Int),.func (.func 51) #[.int .u64 (I:Int)] #[],.int .i64 (x:Int),undef,undef,undef,undef,undef,undef,undef,undef,undef,undef],defers:=[] }) ?assign ?body ?done)
   ·rintro b rfl;exact⟨HV.o.2.2.2.2.1,HV.o.2.2.2.1⟩
   ·intro pre o1 A B h hk;exact h.keep hk
   case assign=>
    intro l x W K p;have he:lX.enc x=.int .i64 (x:Int):=rfl;gi_wp2;exact p
   case body=>
    intro l pre x o1 W hI aK hx fA gU;have fV:x<5:=by have h0:=yh (by simpa [lX] using aK);rw[aZ.o]at h0;have:=Q0.1 h0;omega
    have fZ:pre.length<=5:=by have h0:=aK.length_le;rw[aZ.o,QQ,QP,QR]at h0;simp at h0;omega
    have bN:∀ y∈pre,y<5:=λy hy=>by
     have h0:y∈bB I:=by have:=aK.subset (QZ.2 ⟨y,List.mem_append_left _ hy,rfl⟩);exact this
     rw[aZ.o]at h0;have:=Q0.1 h0;omega
    obtain⟨⟨av,aH,ax,GM,aI⟩,GG⟩:=hI;have aL:vb≠t/\av.ownBlock≠some vb:=⟨HV.o.2.2.1,λe=>by have:=aI _ e; have:=HV.o.2.1; omega⟩;have hv:=XF GG HV.o.1 aL.1;have dQ:2 ^ x<32:=by have:2 ^ x<2 ^ 5:=ZN (by omega) fV;omega
    have gp:Hid (∀ (y:World) (tb:Nat),Bw W y->W.heap.size<=tb->y.cell? ⟨tb,0,none⟩=some (.int .u64 ((2 ^ x:Nat):Int))->y.cell? ⟨tb,1,none⟩=some (.int .u64 0)->Calls Tryz.prog 52 #[.pointer (some ⟨t,14,none⟩),.slice (some ⟨tb,0,none⟩) 1 1] y λe w'=>(∃ v,e=.returned v)/\Kept (λb=>b≠t/\av.ownBlock≠some b) W w'/\∃ o2,adf wr t W0.heap.size arr (pre++[x]) o2 w'/\Kept (λb=>¬ o1 b) W w'/\∀ b,o2 b->o1 b∨(W.heap.size<=b/\b<w'.heap.size)):=λy tb hy ht c0 c1=>by
     have YA:Kept (λb=>b<W.heap.size) W y:=Q7 hy (λ_ h _=>h);have gq:=aH.keep YA aH.lt;have gu:(arr.setIfInBounds 14 av)[14]? = some av:=by rw[Array.getElem?_setIfInBounds_self]; rw[Qo (by rw[uG.o]; omega)]
     have:=Nr t W0.heap.size _ av (Yx pre) [(2 ^ x,0)] (some ⟨tb,0,none⟩) 1 y gq gu (ZM ax hy) (by have:=HV.o; have:=GG.size; have:=hy.size; omega) ⟨by simp,λi hi=>⟨tb,0,rfl,by
      have gy:i=0:=by simpa using hi
      subst gy;exact⟨c0,c1⟩⟩⟩ (λa e=>by
      injection e with e;rw[<- e];refine⟨?_,λe2=>?_⟩
      ·have:=aH.lt
       show tb≠t;omega
      ·have h3:=(Zj ax e2).2;have h4:tb<W.heap.size:=h3;omega) (by have:=(ade pre bN).2; simp only[QV,Xa]; omega) (ade pre bN).1 (λa ha=>by
      rw[Zy]at ha;rw[ha];exact⟨dQ,by show 0<32; omega⟩)
     refine this.mono ?_;rintro e w3 ⟨gK,fu,g3,o3,k3,t3⟩;have bO:=(Q7 (s:=λb=>b≠t/\av.ownBlock≠some b) hy (λ_ h _=>h)).trans k3;rw[XJ]at g3;refine⟨gK,bO,λb=>b=t∨fu.ownBlock=some b,⟨⟨fu,g3,by rw[adb]; exact o3,λb=>Iff.rfl,λb e=>?_⟩,GG.trans' bO (λb hl H=>⟨H,λe=>by have:=aI b e; omega⟩)⟩,bO.mono λb _ H=>⟨λe=>H ((GM b).2 (.inl e)),λe=>H ((GM b).2 (.inr e))⟩,?_⟩
     ·rcases t3 with t3 | ⟨g,t3,hg⟩
      ·exact aI b (t3 ▸ e)
      ·rw[t3]at e;injection e with e;have:=GG.size;have:=hy.size;omega
     ·rintro b (rfl | H)
      ·exact .inl ((GM _).2 (.inl rfl))
      ·rcases t3 with t3 | ⟨g,t3,hg⟩
       ·exact .inl ((GM b).2 (.inr (t3 ▸ H)))
       ·have h5:=(Zj o3 H).2;rw[t3]at H;injection H with H;have:=hy.size;exact .inr ⟨by omega,h5⟩
    clear fA gU hx aK aH ax GM aI GG bN fZ;gi_wp2_with fail;refine KF (S:=λx=>Kept (λb=>b≠t/\av.ownBlock≠some b) W x) (by kernel_rfl) (by kernel_rfl) (λ⟨_,_,h⟩=>h) ?_;have d:Kept (λb=>b≠t/\av.ownBlock≠some b) W W.drew:=Q7 ((Qm _ _).drew) (λ_ h _=>h);refine wT 0 (.pointer (some ⟨t,0,none⟩)) d (λx hx=>?_) ?_
    ·have e0:=XF hx hv aL;go_simp
    refine wt 1 (.pointer (some ⟨t,0,none⟩)) d ?_;refine wt 2 (.pointer (some ⟨t,14,none⟩)) d ?_;refine wt 3 (.int .i64 (x:Int)) d ?_;refine wR 4 λK p=>?_;go_simp;refine p.o _ _ (d.trans (Q9 _ _)) (λd=>?_);clear p K;refine wR 5 λK p=>?_;go_simp;refine Z5 (vS W.heap.size x _ (by simp) (by omega)) ?_;rintro e y5 ⟨rfl,rfl⟩;refine p.o _ _ d λd=>?_;clear p K;refine wt 6 (.agg #[.int .u64 ((2 ^ x:Nat):Int),.int .u64 0]) d ?_;refine wR 7 λK p=>?_;go_simp;refine p.o _ _ (d.trans (Q9 _ _)) (λd=>?_);clear p K;refine wR 8 λK p=>?_;go_simp;refine Z5 (gp.o _ _ (awc W _ _) (by simp) (by simp) (by simp)) ?_;rintro e w3 ⟨⟨v,rfl⟩,gL,o2,gM,gN,gP⟩;refine p.o _ _ gL λd=>?_;clear p K;refine wD ?_;try simp only[Act.put,XC,XD,XE,QA,Qb,Qc]
    exact⟨o2,gM,gN,λb H=>(gP b H).elim .inl (λh=>.inr (.inl h))⟩
   case done=>
    rintro ys o1 W fw hI aQ aA hD;have dR:ys=bB I:=by simpa [lX] using fw
    rw[aZ.o]at dR;subst dR;obtain⟨⟨av,aH,ax,GM,aI⟩,GG⟩:=hI;have hv:=XF GG HV.o.1 HV.o.2.2.1;have dS:¬ o1 wr.heap.size:=λh=>by
     rcases aA _ h with h | h
     ·have:=HV.o.2.2.2.1;omega
     ·omega
    have bf:=Q8 (s:=λb=>o1 b∨b<wr.heap.size) W (r:=wr.heap.size) (.deferred none) (by
     rintro (h | h)
     ·exact dS h
     ·omega)
    have HD:=Zh hD;have mR:Hid (∃ L M,fe W0 f ts q (λb=>X b∨M b) M (W.putObj wr.heap.size (.deferred none)) t L (bP bJ ts q room)/\(∀ b,M b->w.heap.size<=b)/\Bw w (W.putObj wr.heap.size (.deferred none))):=by
     have gz:=aH.keep bf (.inl ((GM _).2 (.inl rfl)));have aG:=Zi ax bf (λg hg=>.inl ((GM g).2 (.inr hg)));have dU:=GG.trans' bf (λb hl _=>.inr hl);have eA:=GB.inj HA.o.blk R9.o;obtain⟨X2,M2,gT,LG,g1,g2,g3⟩:=HA.o.next (dU.mono λb _ H=>H.1) (av:=av) (pv:=L.pv) (ag:=Yx (List.range q.src.xs.length)) (pk:=[]) (st:=1) (by
      have e:f.cells ts q++jA { L with av:=av,pv:=L.pv } ⟨(List.range k).map λs=>dE (CY ts q room s),Yx (List.range q.src.xs.length),nV ts q room k,iE ts q,[],1⟩=arr.setIfInBounds 14 av:=by have h1:=ada f ts q L ⟨(List.range k).map λs=>dE (CY ts q room s),[],nV ts q room k,iE ts q,[],1⟩ av;rw[eA,XJ]at h1;exact h1.symm
      exact e ▸ gz) aG (by
      cases h:av.ownBlock with
      | none => exact .inl (by rw[J3.o.1]; rfl)
      | some g => exact .inr ⟨g,rfl,aI g h⟩) (by rw[J3.o.2]; exact Zu _ _ _ _) (.inl rfl)
     have eX:X2=λb=>X b∨M2 b:=funext λb=>propext ((g3 b).trans ⟨λh=>by
      rcases h with (h | h) | h
      ·exact .inl h
      ·exact .inr (g1 b h)
      ·exact .inr h,λh=>by
      rcases h with h | h
      ·exact .inl (.inl h)
      ·exact .inr h⟩)
     have eB:bP bJ ts q room=⟨(List.range k).map λs=>dE (CY ts q room s),Yx (List.range q.src.xs.length),nV ts q room k,iE ts q,[],1⟩:=by rw[dP.o,X6.o];rfl
     refine⟨_,M2,by rw[eB,<- eX]; exact gT,λb H=>?_,aY.o.trans (dU.below aY.o.size λb H=>by have:=HV.o.2.2.2.2.1; omega)⟩;rcases g2 b H with (h | ⟨j,hj,h⟩) | h
     ·rw[h]; exact HV.o.2.2.2.2.1
     ·rw[h]; exact(HB.o.jd j hj).2.1
     ·exact Q6 aY.o.size h
    clear aH ax GM aI GG bf dS aA aQ fw;go_wp2;obtain⟨L2,M2,q1,q2,q3⟩:=mR.o;refine⟨by simp,.inl ⟨_,_,rfl,run_takeDeferred HD.o,?_⟩⟩;exact⟨_,results_tmp rfl _ _ _,t,L2,M2,rfl,q1,q2,q3⟩
end
structure NQ where
 W:World
 f:aC
 q:ae
 pb:Nat
 sb:Nat
 ca:Option Addr
 cc:Nat
structure awz(ts:List af)(room:Nat)(P:NQ)(w:World):Prop where
 blk:GB w P.pb 59 (#[.slice P.ca ts.length P.cc]++P.q.cells ++ #[.int .i64 (room:Int),.pointer (some (aD P.sb 0))])
 tabs:bF P.W P.ca ts
 qat:P.q.At P.W
 nil:acv P.q
structure vI(ts:List af)(N:Nat->Prop)(q:ae)(room:Nat)(w:World)(P:NQ)(M:Nat->Prop)(w':World):Prop where
 env:Env P.f ts P.q P.W
 same:bN q P.q
 se:∃ L,fe P.W P.f ts P.q (λb=>(N b∨b=P.pb)∨M b) M w' P.sb L (bP bJ ts P.q room)
 cell:w'.cell? (aD P.pb 9)=some (.pointer (some (aD P.sb 0)))
 new:∀ b,M b->w.heap.size<=b
 pb:w.heap.size<=P.pb
 npb:¬ M P.pb
 below:Bw w w'
 keep:awz ts room P w'
theorem vI.elder{N:Nat->Prop}{room:Nat}{x:World}{P:NQ}{M:Nat->Prop}{w':World}(h:vI ts N q room x P M w')(hb:Bw w x):vI ts N q room w P M w':=
 ⟨h.env,h.same,h.se,h.cell,λb a=>Q6 hb.size (h.new b a),Q6 hb.size h.pb,h.npb,hb.trans (h.below.mono hb.size),h.keep⟩
def PlK(w:World)(pb:Nat)(T:TypeId)(c:List Value)(x:World):Prop:=Kept (λb=>b≠pb) w x/\∃ u,GB x pb T (c++[u]).toArray
theorem PlK.below{w:World}{pb:Nat}{T:TypeId}{c:List Value}{x y:World}(h:PlK w pb T c x)(hb:Bw x y):PlK w pb T c y:=by obtain⟨d,u,a⟩:=h;exact⟨d.trans (Q7 hb (λ_ h _=>h)),u,a.keep (Q7 (s:=λb=>b<x.heap.size) hb (λ_ h _=>h)) a.lt⟩
theorem PlK.set{w:World}{pb:Nat}{T:TypeId}{c:List Value}{x:World}(h:PlK w pb T c x)(v:Value):PlK w pb T c (x.setCell (aD pb c.length) v):=by obtain⟨a,u,b⟩:=h;refine⟨a.trans (Zf _ _ _ (λh=>h rfl)),v,?_⟩;have:=b.set c.length v;grind
theorem YE(h:gH ts=true):ts.length<=1000:=by unfold gH at h;grind
theorem YF(ao:Option Addr)(cap:Nat)(ts:List af)(q:ae)(room:Nat)(N:Nat->Prop)(w:World)(hx:bF w ao ts)(hn:ao=none->cap=0)(hq:q.At w)(hkc:q.keys.xs.length<=q.keys.cap)(hoc:q.ord.xs.length<=q.ord.cap)(ht:acu q)(hs:dn w 0)(Am:q.check ts=0)(h1:1<=room)(h2:room<=1000)(hN:∀ b,N b->b<w.heap.size)(h0:¬ N 0)(hw0:0<w.heap.size) :
  Calls Tryz.prog 16 #[.slice ao ts.length cap,.agg q.cells,.int .i64 (room:Int)] w λe w'=>∃ P M,e=.returned (.tuple #[.pointer (some (aD P.pb 0)),.int .i64 0])/\vI ts N q room w P M w':=by
 have T:=YE (yE Am).1.cat;obtain⟨v0,v1,v2,v3,v4,v5,v6,xI⟩:∃ v0 v1 v2 v3 v4 v5 v6,q.cells=#[v0,v1,v2,v3,v4,v5,v6]:=⟨_,_,_,_,_,_,_,rfl⟩;obtain⟨w1,aP,I,aA⟩:=bn w #[v0,v1,v2,v3,v4,v5,v6] 26;have F:=Fg ao cap ts q w1 (hx.below I) (hq.below I) hkc hoc;rw[Am]at F;have Mt:Hid (∀ x,Bw w x->Calls Tryz.prog 29 #[.slice ao ts.length cap] x λe w'=>∃ t E,e=.returned (.slice t ts.length E)/\bF w' t ts/\(∀ a,t=some a->x.heap.size<=a.block)/\Bw x w'):=λx r=>by refine(Dx ao cap ts x (hx.below r) hn T).mono ?_;rintro e w' ⟨v,rfl,ho,aQ⟩;obtain⟨ad,cp,rfl,J⟩:=RI ho T;exact⟨ad,cp,rfl,J,λa ea=>(Zj ho (g:=a.block) (by rw[ea]; rfl)).1,aQ⟩
 have aa:Hid (∀ x,Bw w x->Calls Tryz.prog 30 #[.agg q.cells] x λe w'=>∃ p:ae,e=.returned (.agg p.cells)/\p.At w'/\bN q p/\p.New x.heap.size/\acv p/\p.keys.xs.length<=p.keys.cap/\Bw x w'):=λx r=>R4 q x (hq.below r) ht;rw[xI]at F aa ⊢;have aM:=Zh hs;have ag:=Zh Am;have U:Hid ((∀ b,N b->b<w.heap.size)/\¬ N 0/\0<w.heap.size):=⟨hN,h0,hw0⟩;have HR:Hid (1<=room/\room<=1000):=⟨h1,h2⟩;have aN:=Zh I;have r1:¬ ((room:Int)<1):=by omega
 have r2:¬ ((room:Int) > 1000):=by omega
 have r3:¬ ((1000:Int)<(room:Int)):=by omega
 obtain⟨a0,a1,a2,a3,a4,a5,a6⟩:=aA.k7;clear hx hn hq hkc hoc ht hs Am h1 h2 hN h0 hw0 T xI I aA;go_enter Tryz.func16,Tryz.ntmps16;go_wp2_with fail;refine F.mono ?_;rintro e w2 ⟨rfl,i⟩;clear F aP;have d0:=cB i a0;have d1:=cB i a1;have d2:=cB i a2;have d3:=cB i a3;have d4:=cB i a4;have d5:=cB i a5;have d6:=cB i a6;have y:=Zh (aF aN.o i);clear i a0 a1 a2 a3 a4 a5 a6;go_wp2_with fail;have G:Bw w2 w2.drew:=(Qm _ _).drew;refine wH w2 λd=>?_;refine wt 0 (.slice ao ts.length cap) d ?_;refine wT 2 (.agg #[v0,v1,v2,v3,v4,v5,v6]) d (λx hx=>?_) ?_
 ·have e0:=LA hx d0 d1 d2 d3 d4 d5 d6;go_simp
 refine wt 4 (.int .i64 (room:Int)) d ?_;refine wR 1 λK k=>?_;go_simp;refine Z5 (Mt.o _ (aF y.o G)) ?_;rintro e s1 ⟨t,E,rfl,J,aB,r⟩;have J2:Hid (∀ a,t=some a->w.heap.size<=a.block):=λa ea=>Q6 (aF y.o G).size (aB a ea);clear aB;have Kq:=aF G r;have R8:=Zh J;clear J;refine k.o _ _ (aF d r) (λd=>?_);clear k K;refine wR 3 λK k=>?_;go_simp;refine Z5 (aa.o _ (aF y.o Kq)) ?_;rintro e Y ⟨p,rfl,aG,aH,R,aI,hkc,i⟩;have R6:=aF Kq i;have ah:=Zh (R8.o.below i);have z:Hid (p.At Y/\bN q p/\p.New s1.heap.size/\acv p/\p.keys.xs.length<=p.keys.cap):=⟨aG,aH,R,aI,hkc⟩;clear aG aH R aI hkc R8;obtain⟨p0,p1,p2,p3,p4,p5,p6,Z⟩:∃ p0 p1 p2 p3 p4 p5 p6,p.cells=#[p0,p1,p2,p3,p4,p5,p6]:=⟨_,_,_,_,_,_,_,rfl⟩;rw[Z];refine k.o _ _ (aF d i) (λd=>?_);clear k K;refine wt 5 (.agg #[.slice t ts.length E,p0,p1,p2,p3,p4,p5,p6,.int .i64 (room:Int),.pointer none]) d ?_;refine wR 6 λK k=>?_;go_simp;refine oA k d λd=>?_;clear k K;refine wt 7 (.pointer (some (aD Y.heap.size 0))) d ?_;refine wD ?_;try simp only[pV]
 obtain⟨w3,aR,aJ,A⟩:=bn Y #[.slice t ts.length E,p0,p1,p2,p3,p4,p5,p6,.int .i64 (room:Int),.pointer none] 59;have ai:=Zh aJ;have jo:=Zh (aF y.o R6);have rJ:=Zh ((aF y.o Kq).size);have yC:=Zh A.lt;have aj:Hid (∀ x,Bw Y x->Calls Tryz.prog 32 #[.slice t ts.length E,.agg p.cells] x λe w'=>∃ f:aC,e=.returned (.agg (f.cells ts p))/\f.At ts p w'/\f.New x.heap.size/\Bw x w'):=λx r=>C8 t E ts p x (ah.o.below r) (z.o.1.below r) (yE (ts:=ts) (q:=p) (by rw[z.o.2.1.check ts]; exact ag.o)).1.ok;rw[Z]at aj;obtain⟨j,l⟩:∃ n,n=Y.heap.size:=⟨_,rfl⟩;clear d Kq R6 G r i aJ d0 d1 d2 d3 d4 d5 d6;go_upto_region 7 with fail;rw[aR];rw[<- l];rw[<- l]at A yC;have ak:=Zh l;clear l;have V:Bw w3 w3.drew:=(Qm _ _).drew;refine QC (S:=PlK w3 j 59 [.slice t ts.length E,p0,p1,p2,p3,p4,p5,p6,.int .i64 (room:Int)]) (by kernel_rfl) ⟨Q7 V (λ_ h _=>h),.pointer none,A⟩ (λd=>?_);refine wt 0 (.pointer (some (aD j 0))) d ?_;refine wt 1 (.pointer (some (aD j 0))) d ?_;refine wt 2 (.pointer (some (aD j 0))) d ?_;refine wt 3 (.pointer (some (aD j 0))) d ?_;refine wT 4 (.slice t ts.length E) d (λx hx=>?_) ?_
 ·obtain⟨_,u,O⟩:=hx;have e0:=O.at 0;go_simp
 refine wt 5 (.pointer (some (aD j 0))) d ?_;refine wt 6 (.pointer (some (aD j 0))) d ?_;refine wt 7 (.pointer (some (aD j 1))) d ?_;refine wT 8 (.agg #[p0,p1,p2,p3,p4,p5,p6]) d (λx hx=>?_) ?_
 ·obtain⟨_,u,O⟩:=hx;have e0:=O.at 1;have e1:=O.at 2;have e2:=O.at 3;have e3:=O.at 4;have e4:=O.at 5;have e5:=O.at 6;have e6:=O.at 7;go_simp
 refine wt 10 (.int .i64 (room:Int)) d ?_;refine wR 9 λK k=>?_;go_simp;refine Z5 (aj.o _ (aF ai.o V)) ?_;rintro e w4 ⟨f,rfl,hf,aK,aL⟩;have W:=aF V aL;have YG:=aF ai.o W;have au:=QH yC.o W.size;have aO:=jo.o.size;have l:=ak.o;have av:=ajL (by rw[z.o.2.1.check ts]; exact ag.o) hf (Xm (aF jo.o YG) aM.o) z.o.2.2.2.2 z.o.2.2.2.1.keys;obtain⟨W0,B⟩:=WZ (λb=>N b∨b=j) w4;have hE:=Env.kill B av (W':=Y) (n:=s1.heap.size) (m:=w3.drew.heap.size) (λh=>by
  have g1:=U.o.2.2;rcases h with h | h
  ·exact U.o.2.1 h
  ·omega) (λb h=>by
  show b<w3.heap.size;have g1:=yC.o;rcases h with h | h
  ·have:=U.o.1 b h;omega
  ·omega) aK (λb h=>by
  rcases h with h | h
  ·have g2:=U.o.1 b h;have g3:=rJ.o;exact .inl (by omega)
  ·exact .inr (by omega)) YG z.o.1 z.o.2.2.1
 have hz:Fz (λb=>¬ (λb=>N b∨b=j) b) W0 w4:=Fz.kill B (Qm _ _) (λb h=>by
  rcases h with h | h
  ·have:=U.o.1 b h;have:=YG.size;omega
  ·omega)
 have ax:Hid (bF W0 t ts/\p.At W0):=by
  have g1:=U.o.1;have g3:=rJ.o;refine⟨Kr B (n:=w.heap.size) (λb h=>?_) YG ah.o J2.o,CU B (n:=s1.heap.size) (λb h=>?_) YG z.o.1 z.o.2.2.1⟩
  ·grind
  grind
 have jF:=Yy hE hz room HR.o.1 HR.o.2;have HE:=Zh hE;have nH:Hid (Bw Y w4/\j<w4.heap.size):=⟨YG,au⟩;have ay:=A.keep (Q7 (s:=λb=>b<w3.heap.size) W (λ_ h _=>h)) yC.o;clear av hE hz hf aK l aO au B;refine k.o _ _ (d.below aL) (λd=>?_);clear k K;refine wR 11 λK k=>?_;go_simp;refine Z5 (jF) ?_;rintro e w5 ⟨sb,L,M,rfl,Q,C,D⟩;have zH:=Zh (XI Q (XI C D));have H:=ay.keep (Q7 (s:=λb=>b<w4.heap.size) D (λ_ h _=>h)) nH.o.2;clear Q C jF;refine k.o _ _ (d.below D) (λd=>?_);clear k K;refine wt 12 (.pointer (some (aD j 0))) d ?_;refine wt 13 (.pointer (some (aD j 9))) d ?_;have c9:=H.at 9;have f9:=H.frozen 9;refine wR 14 λK k=>?_;go_simp;refine k.o _ _ (d.set _) (λd=>?_);clear k K;refine wD ?_;try simp only[pV]
 obtain⟨w6,mE⟩:∃ x,w5.setCell (aD j 9) (.pointer (some (aD sb 0)))=x:=⟨_,rfl⟩;have iL:Hid (vI ts N q room w ⟨W0,f,p,j,sb,t,E⟩ M w6):=by
  obtain⟨Q,C,D⟩:=zH.o;have hk:Kept (λb=>¬ b=j) w5 w6:=by rw[<- mE]; exact Zf _ _ _ (λh=>h rfl)
  have X:=H.set 9 (.pointer (some (aD sb 0)));rw[mE]at X;have hl:=nH.o.2;have l:=ak.o;have aS:=jo.o.size;have az:¬ M j:=λh=>by have:=C j h;omega
  refine⟨HE.o,z.o.2.1,⟨L,Q.other (N:=λb=>b=j) (N':=λ_=>False) (λb h=>.inl (.inr h)) (λb r e=>az (e ▸ r)) hk (λb h=>h.elim) (λb=>⟨λh=>.inl h,λh=>by
   grind⟩) (λb h=>h.elim) (λb h=>h.elim)⟩,X.cell 9,λb r=>?_,?_,az,?_,⟨?_,ax.o.1,ax.o.2,z.o.2.2.2.1⟩⟩
  ·have:=C b r;omega
  ·show w.heap.size<=j
   omega
  ·have h5:=aF (aF jo.o nH.o.1) D;exact h5.trans (hk.below h5.size (λb r e=>by omega))
  ·show GB w6 j _ (#[.slice t ts.length E]++p.cells ++ #[.int .i64 (room:Int),.pointer (some (aD sb 0))])
   rw[Z];exact X
 clear d A ay H c9 f9 zH HE nH U;go_upto_region 8 with fail;rw[mE];go_wp2;go_ret2;exact⟨_,M,rfl,iL.o⟩
theorem TK(pb sb:Nat)(w:World)(hc:w.cell? (aD pb 9)=some (.pointer (some (aD sb 0))))(hC:Calls Tryz.prog 35 #[.pointer (some (aD sb 0))] w R)(hR:∀ e w',R e w'->∃ d f,e=.returned (.tuple #[d,f])) :
  Calls Tryz.prog 18 #[.pointer (some (aD pb 0))] w R:=by have g:=Zh hR;clear hR;go_enter Tryz.func18,Tryz.ntmps18;go_wp2_with fail;refine hC.mono ?_;intro e i b;obtain⟨d,f,rfl⟩:=g.o e i b;have a:=Zh b;clear b hc hC;go_wp2;exact a.o
theorem aac(pb sb:Nat)(n k:Int)(ad:Option Addr)(m cp:Nat)(w:World)(hc:w.cell? (aD pb 9)=some (.pointer (some (aD sb 0))))(hC:Calls Tryz.prog 17 #[.pointer (some (aD sb 0)),.int .i64 n,.int .i64 k,.slice ad m cp] w R)(hR:∀ e w',R e w'->∃ v,e=.returned (v)) :
  Calls Tryz.prog 6 #[.pointer (some (aD pb 0)),.int .i64 n,.int .i64 k,.slice ad m cp] w R:=by have d:=Zh hR;clear hR;go_enter Tryz.func6,Tryz.ntmps6;go_wp2_with fail;refine hC.mono ?_;intro e f b;obtain⟨v,rfl⟩:=d.o e f b;have a:=Zh b;clear b hc hC;go_wp2;exact a.o
theorem Oo(pb sb:Nat)(w:World)(hc:w.cell? (aD pb 9)=some (.pointer (some (aD sb 0))))(hC:Calls Tryz.prog 19 #[.pointer (some (aD sb 0))] w R)(hR:∀ e w',R e w'->∃ v,e=.returned (v)) :
  Calls Tryz.prog 8 #[.pointer (some (aD pb 0))] w R:=by have d:=Zh hR;clear hR;go_enter Tryz.func8,Tryz.ntmps8;go_wp2_with fail;refine hC.mono ?_;intro e f b;obtain⟨v,rfl⟩:=d.o e f b;have a:=Zh b;clear b hc hC;go_wp2;exact a.o
theorem TL(pb sb:Nat)(n:Int)(w:World)(hc:w.cell? (aD pb 9)=some (.pointer (some (aD sb 0))))(hC:Calls Tryz.prog 20 #[.pointer (some (aD sb 0)),.int .i64 n] w R)(hR:∀ e w',R e w'->∃ v,e=.returned (v)) :
  Calls Tryz.prog 9 #[.pointer (some (aD pb 0)),.int .i64 n] w R:=by have d:=Zh hR;clear hR;go_enter Tryz.func9,Tryz.ntmps9;go_wp2_with fail;refine hC.mono ?_;intro e f b;obtain⟨v,rfl⟩:=d.o e f b;have a:=Zh b;clear b hc hC;go_wp2;exact a.o
