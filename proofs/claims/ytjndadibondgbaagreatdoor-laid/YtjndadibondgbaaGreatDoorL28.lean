import Derived.Test.YtjndadibondgbaaGreatDoorL24
set_option linter.all false
set_option maxRecDepth 100000
set_option maxHeartbeats 16000000
namespace Go.Proofs.Zz
open Go.RowKit Go.Shelf
variable {α:Type} {base bm i j n:Nat} {P:Program} {tE ti:TypeId} {aK:Int->List aa} {val:Int->Value}
def aiL:Value->Nat
 | .slice _ n _ => n
 | _ => 0
theorem getD_drop(l:List α)(d:α)(j i:Nat):(l.drop j).getD i d=l.getD (j+i) d:=by simp[List.getD]
theorem getD_take(l:List α)(d:α)(h:i<j):(l.take j).getD i d=l.getD i d:=by simp[List.getD,ZW,h]
theorem aX.drop{w:World}{b off:Nat}{rs:List aa}(h:aX w (some (aD b off)) rs)(j:Nat):aX w (some (aD b (off+j))) (rs.drop j):=by
 obtain⟨⟨p,f,g⟩,k,l⟩:=h;have o:(rs.drop j).length=rs.length-j:=List.length_drop;refine⟨⟨by omega,fun i d=>?_,fun i d=>?_⟩,fun a n=>?_,fun i d=>?_⟩
 ·obtain⟨b',q,e,m⟩:=f (j+i) (by omega)
  cases e
  refine⟨b,off+j,rfl,?_⟩
  show w.cell? (aD b (off+j+i))=some ((rs.drop j).getD i iz).val
  rw[getD_drop,Nat.add_assoc];exact m
 ·rw[getD_drop]; exact g _ (by omega)
 ·cases n; exact k (aD b off) rfl
 ·rw[getD_drop]; exact l _ (by omega)
theorem ach{w:World}{b off o' cap:Nat}{rs:List aa}(h:aX w (some (aD b off)) rs)(hcap:rs.length<=cap)(hj:j<=rs.length)(ho:j<cap->o' = off+j):aX w (some (aD b o')) (rs.drop j):=by
 by_cases f:j<cap
 ·rw[ho f]; exact h.drop j
 ·have e:rs.drop j=[]:=List.drop_of_length_le (by omega);rw[e];exact⟨⟨by simp,fun i d=>absurd d (by simp),fun i d=>absurd d (by simp)⟩,fun a g=>by cases g; exact h.2.1 (aD b off) rfl,fun i d=>absurd d (by simp)⟩
theorem aX.take{w:World}{ao:Option Addr}{rs:List aa}(h:aX w ao rs)(j:Nat):aX w ao (rs.take j):=by
 obtain⟨⟨n,d,f⟩,g,k⟩:=h;have m:(rs.take j).length=min j rs.length:=XF;refine⟨⟨by omega,fun i b=>?_,fun i b=>?_⟩,g,fun i b=>?_⟩
 ·obtain⟨b',a,e,l⟩:=d i (by omega);refine⟨b',a,e,?_⟩
  show w.cell? (aD b' (a+i))=some ((rs.take j).getD i iz).val
  rw[getD_take _ _ (by omega)]; exact l
 ·rw[getD_take _ _ (by omega)]; exact f i (by omega)
 ·rw[getD_take _ _ (by omega)]; exact k i (by omega)
theorem rU{α:Type}{p:α->Bool}{d:α}:∀ {l:List α} {j:Nat},j<=l.length->(∀ i,i<j->p (l.getD i d)=true)->(j=l.length∨p (l.getD j d)=false)->l.dropWhile p=l.drop j
 | [],j,h,_,_ => by simp
 | a::l,0,_,_,h => by
  rcases h with h | h
  ·simp at h
  ·rw[List.dropWhile_cons_of_neg (by simpa using h)]; rfl
 | a::l,j+1,hj,h1,h2 => by
  have h0:=h1 0 (by omega);rw[List.dropWhile_cons_of_pos (by simpa using h0),List.drop_succ_cons];exact rU (by simpa using hj) (fun i hi=>by have:=h1 (i+1) (by omega); simpa using this) (by
   rcases h2 with h2 | h2
   ·left; simpa using h2
   ·right; simpa using h2)
theorem rV{α:Type}{p:α->Bool}{d:α}:∀ {l:List α} {j:Nat},j<=l.length->(∀ i,i<j->p (l.getD i d)=true)->(j=l.length∨p (l.getD j d)=false)->l.takeWhile p=l.take j
 | [],j,h,_,_ => by simp
 | a::l,0,_,_,h => by
  rcases h with h | h
  ·simp at h
  ·rw[List.takeWhile_cons_of_neg (by simpa using h)]; rfl
 | a::l,j+1,hj,h1,h2 => by
  have h0:=h1 0 (by omega);rw[List.takeWhile_cons_of_pos (by simpa using h0),List.take_succ_cons];congr 1;exact rV (by simpa using hj) (fun i hi=>by have:=h1 (i+1) (by omega); simpa using this) (by
   rcases h2 with h2 | h2
   ·left; simpa using h2
   ·right; simpa using h2)
def sP(k v:Int)(r:aa):Bool:=decide (dz (aY r.xs k) v<0)
def mG(k v:Int)(r:aa):Bool:=decide (aY r.xs k=v)
theorem Ee(ao:Option Addr)(cap:Nat)(rs:List aa)(k:Nat)(v:Int)(w:World)(hr:aX w ao rs)(hcap:rs.length<=cap)(hk:∀ i,i<rs.length->k<(rs.getD i iz).xs.length) :
  Calls Tryz.prog 163 #[.slice ao rs.length cap,.int .i64 k,.int .i64 v] w fun e w'=>∃ s m,e=.returned (.slice s (rs.dropWhile (sP k v)).length m)/\aX w s (rs.dropWhile (sP k v))/\(rs.dropWhile (sP k v)).length<=m/\
   (∀ L,s = some L->∃ a,ao=some a/\L.block=a.block)/\w' = w:=by
 have hl:=hr.1.1;by_cases Q:rs.length=0
 ·have e:rs=[]:=QF Q;subst e;have K:Hid _:=hr;clear hr hk Q;go_enter Tryz.func163,Tryz.ntmps163;go_wp2;go_loopw [0] (fun H wr=>H=.slice ao 0 cap/\w=wr) (fun _ _=>0)
  case atStart=>exact⟨rfl,rfl⟩
  case round=>
   obtain⟨rfl,rfl⟩:=hrel;go_wp2;go_ret;exact⟨ao,cap,rfl,K.o,Zf _,fun a I=>⟨a,I,rfl⟩,rfl⟩
 ·obtain⟨b,off,rfl,F⟩:=hr.1.2.1.get (show 0<rs.length by omega);have K:Hid _:=hr;have Y:Hid _:=hk;have Z:Hid _:=F;clear hr hk F Q;go_enter Tryz.func163,Tryz.ntmps163;go_wp2;go_loopw [0] (fun H wr=>∃ j t:Nat,j<=rs.length/\Hid (j<cap->t = off+j)/\H=.slice (some (aD b t)) (rs.length-j) (cap-j)/\Hid (∀ i,i<j->sP k v (rs.getD i iz)=true)/\w=wr) (fun H _=>aiL H)
  case atStart=>exact⟨0,off,Zf _,fun _=>rfl,rfl,fun i V=>absurd V (by omega),rfl⟩
  case round=>
   obtain⟨j,t,O,T,rfl,P,rfl⟩:=hrel;have u:Hid (aX w (some (aD b t)) (rs.drop j)):=ach K.o hcap O T.o;by_cases r:j<rs.length
   ·obtain rfl:t = off+j:=T.o (by omega);have y:w.cell? (aD b (off+j))=some (rs.getD j iz).val:=Z.o j r;have n:=Y.o j r;have z:=(K.o.2.2 j r).1;obtain⟨xb,xo,G,U⟩:=Qe z n;have M:=U k n;have p:=fun W=>qf ((rs.getD j iz).xs.getD k 0) v W
    have A:sP k v (rs.getD j iz)=decide (dz ((rs.getD j iz).xs.getD k 0) v<0):=by unfold sP aY; rw[ZY]
    have B:Hid _:=A;have g:Hid (sP k v (rs.getD j iz)=true->∀ i,i<j+1->sP k v (rs.getD i iz)=true):=fun h i V=>by
     rcases Ql i j with S | S
     ·exact P.o i S
     ·obtain rfl:i=j:=by omega
      exact h
    have l:Hid (sP k v (rs.getD j iz)=false->rs.dropWhile (sP k v)=rs.drop j):=fun h=>rU (d:=iz) O P.o (.inr h)
    have R:decide ((0:Int)<((rs.length-j:Nat):Int))=true:=Qy (by omega);clear U z A;generalize rs.getD j iz=x at *;obtain⟨jD,cO,xs⟩:=x;unfold aa.val at y;simp only at y n G M p B g l;subst G;by_cases f:dz (xs.getD k 0) v<0
    ·have C:=g.o (by rw[B.o]; exact Qy f);have D:Hid _:=C;have N:decide (dz (xs.getD k 0) v<0)=true:=Qy f;have h1:1<=rs.length-j:=by omega
     have h2:rs.length-j<=cap-j:=by omega
     clear g l B C f;generalize xs.getD k 0=X at *;generalize dz X v=c at *;go_wp2_with fail;refine(p _).mono ?_;rintro e w2 ⟨rfl,rfl⟩;go_wp2;go_roundw
     case rel=>
      by_cases J:cap-j=1
      ·exact⟨j+1,off+j,by omega,fun h=>by omega,by rw[Qu J]; rfl,D,trivial⟩
      ·exact⟨j+1,off+j+1,by omega,fun h=>rfl,by rw[Qv J]; rfl,D,trivial⟩
     case measure=>simp[aiL]; omega
    ·have E:=l.o (by rw[B.o]; exact Qg f);have q:Hid _:=E;have N:decide (dz (xs.getD k 0) v<0)=false:=Qg f;clear g l B E f;generalize xs.getD k 0=X at *;generalize dz X v=c at *;go_wp2_with fail;refine(p _).mono ?_;rintro e w2 ⟨rfl,rfl⟩;go_wp2;go_ret;refine⟨some (aD b (off+j)),cap-j,?_,?_,?_,fun L I=>⟨(aD b off),rfl,by cases I; rfl⟩,rfl⟩
     ·rw[q.o,List.length_drop]; rfl
     ·rw[q.o]; exact u.o
     ·rw[q.o,List.length_drop]; omega
   ·obtain rfl:j=rs.length:=by omega
    have l:Hid (rs.dropWhile (sP k v)=rs.drop rs.length):=rU (d:=iz) O P.o (.inl rfl);go_wp2;go_ret;refine⟨some (aD b t),cap-rs.length,?_,?_,?_,fun L I=>⟨(aD b off),rfl,by cases I; rfl⟩,rfl⟩
    ·rw[l.o,List.length_drop]; rfl
    ·rw[l.o]; exact u.o
    ·rw[l.o,List.length_drop]; omega
theorem NZ(ao:Option Addr)(cap:Nat)(rs:List aa)(k:Nat)(v:Int)(w:World)(hr:aX w ao rs)(hcap:rs.length<=cap)(hk:∀ i,i<rs.length->k<(rs.getD i iz).xs.length) :
  Calls Tryz.prog 164 #[.slice ao rs.length cap,.int .i64 k,.int .i64 v] w fun e w'=>∃ A,e=.returned (.slice ao (rs.takeWhile (mG k v)).length A)/\aX w ao (rs.takeWhile (mG k v))/\w' = w:=by
 have M:=hr.1.1;have B:Hid _:=hr;have K:Hid _:=hk;clear hr hk;go_enter Tryz.func164,Tryz.ntmps164;go_wp2;go_loopw [7] (fun iv wr=>∃ j:Nat,j<=rs.length/\iv=.int .i64 j/\Hid (∀ i,i<j->mG k v (rs.getD i iz)=true)/\w=wr) (fun iv _=>rs.length-(intOf iv).toNat)
 case atStart=>exact⟨0,Zf _,rfl,fun i J=>absurd J (by omega),rfl⟩
 case round=>
  obtain⟨j,C,rfl,G,rfl⟩:=hrel;by_cases g:j<rs.length
  ·obtain⟨b,off,rfl,y⟩:=B.o.1.2.1.get g;have n:w.cell? (aD b (off+j))=some (rs.getD j iz).val:=y j g;have l:=K.o j g;have p:=(B.o.2.2 j g).1;obtain⟨N,O,z,I⟩:=Qe p l;have D:=I k l;have q:mG k v (rs.getD j iz)=decide ((rs.getD j iz).xs.getD k 0=v):=by unfold mG aY; rw[ZY]
   have r:Hid _:=q;have f:Hid (mG k v (rs.getD j iz)=true->∀ i,i<j+1->mG k v (rs.getD i iz)=true):=fun h i J=>by
    rcases Ql i j with H | H
    ·exact G.o i H
    ·obtain rfl:i=j:=by omega
     exact h
   have m:Hid (mG k v (rs.getD j iz)=false->rs.takeWhile (mG k v)=rs.take j):=fun h=>rV (d:=iz) C G.o (.inr h)
   clear I p q y;generalize rs.getD j iz=x at *;obtain⟨P,Q,xs⟩:=x;unfold aa.val at n;simp only at n l z D r f m;subst z;by_cases a:xs.getD k 0=v
   ·have s:=f.o (by rw[r.o]; exact Qy a);have E:Hid _:=s;have F:(xs.getD k 0==v)=true:=by simpa using a
    clear f m r s a;generalize xs.getD k 0=X at *;go_wp2;go_roundw
    case rel=>exact⟨j+1,by omega,by simp,E,trivial⟩
    case measure=>simp[intOf]; omega
   ·have t:=m.o (by rw[r.o]; exact Qg a);have u:Hid _:=t;have F:(xs.getD k 0==v)=false:=by simpa using a
    have L:j<=cap:=by omega
    clear f m r t a;generalize xs.getD k 0=X at *;go_wp2;go_ret;refine⟨cap,?_,?_,rfl⟩
    ·rw[u.o,XF,Nat.min_eq_left C]; rfl
    ·rw[u.o]; exact aX.take B.o _
  ·obtain rfl:j=rs.length:=by omega
   have m:Hid (rs.takeWhile (mG k v)=rs.take rs.length):=rV (d:=iz) C G.o (.inl rfl);go_wp2;go_ret;refine⟨cap,?_,?_,rfl⟩
   ·rw[m.o,XF,Nat.min_eq_left C]; rfl
   ·rw[m.o]; exact aX.take B.o _
section
def lX(lk rk:Int):List (List Int)->List (List Int)->List (List Int)
 | [],I => I
 | a::L,I => if aY a lk=1073741824 then lX lk rk L I else lX lk rk L (I.dropWhile fun b => decide (dz (aY b rk) (aY a lk)<0))
theorem qj(lk rk:Int)(a:List Int)(L I:List (List Int)):lX lk rk (a::L) I=if aY a lk=1073741824 then lX lk rk L I else lX lk rk L (I.dropWhile fun b=>decide (dz (aY b rk) (aY a lk)<0)):=rfl
theorem uJ(lk rk:Int)(a:List Int)(L I:List (List Int)):fF lk rk (a::L) I=if aY a lk=1073741824 then fF lk rk L I else
  (((I.dropWhile fun b=>decide (dz (aY b rk) (aY a lk)<0)).takeWhile fun b=>decide (aY b rk=aY a lk)).map fun b=>a++b)++fF lk rk L (I.dropWhile fun b=>decide (dz (aY b rk) (aY a lk)<0)):=rfl
theorem mf(lk rk:Int):∀ (A B I:List (List Int)),lX lk rk (A++B) I=lX lk rk B (lX lk rk A I)
 | [],B,I => rfl
 | a::A,B,I => by
  rw[Ze,qj,qj];split
  ·exact mf lk rk A B I
  ·exact mf lk rk A B _
theorem jX(lk rk:Int):∀ (A B I:List (List Int)),fF lk rk (A++B) I=fF lk rk A I++fF lk rk B (lX lk rk A I)
 | [],B,I => rfl
 | a::A,B,I => by
  rw[Ze,uJ,uJ,qj];split
  ·exact jX lk rk A B I
  ·rw[jX lk rk A B _,QH]
theorem TU{lk rk:Int}{L L' R:List (List Int)}(h:L <+: L'):fF lk rk L R <+: fF lk rk L' R:=by
 obtain⟨t,rfl⟩:=h;rw[jX];exact List.prefix_append _ _
theorem dropWhile_drop{α:Type}(p:α->Bool):∀ l:List α,∃ k,l.dropWhile p=l.drop k
 | [] => ⟨0,rfl⟩
 | a::l => by
  cases h:p a with
  | false => exact⟨0,by rw[List.dropWhile_cons_of_neg (by simp[h])]; rfl⟩
  | true =>
   obtain⟨k,hk⟩:=dropWhile_drop p l;exact⟨k+1,by rw[List.dropWhile_cons_of_pos h,hk]; rfl⟩
theorem kM{l:List aa}(h:i<l.length):l.getD i iz∈l:=by simp[List.getD,h]
theorem Lr(k v:Int)(rs:List aa):(rs.dropWhile fun r=>decide (dz (aY r.xs k) v<0)).map aa.xs=(rs.map aa.xs).dropWhile fun b=>decide (dz (aY b k) v<0):=by
 rw[List.dropWhile_map]; rfl
theorem Ls(k v:Int)(rs:List aa):(rs.takeWhile fun r=>decide (aY r.xs k=v)).map aa.xs=(rs.map aa.xs).takeWhile fun b=>decide (aY b k=v):=by
 rw[List.takeWhile_map]; rfl
def ajQ(tL:TypeId)(J:List aa->(Nat->Prop)->World->Prop)(kl kr:Int)(R:List (List Int))(iT:Option Addr)(ys:List aa)(o:Nat->Prop)(bx:Nat)(w3:World)(pre:List aa)(o1:Nat->Prop)(W':World):Prop:=
 ∃ (zs:List aa) (oj:Nat->Prop) (ad':Option Addr) (cap' j:Nat),zs.map ag.key=fF kl kr (pre.map ag.key) R/\J zs oj W'/\(∀ b,o1 b↔oj b∨b=bx)/\¬ oj bx/\
   W'.heap[bx]? = some (.cells #[.slice ad' (ys.drop j).length cap'] tL)/\aX W' ad' (ys.drop j)/\(ys.drop j).length<=cap'/\(∀ a',ad' = some a'->∃ a,iT=some a/\a'.block=a.block)/\
   (ys.drop j).map aa.xs=lX kl kr (pre.map ag.key) R/\Kept (fun b=>¬ o b/\b≠bx) w3 W'/\∀ b,oj b->o b∨(w3.heap.size<=b/\b<W'.heap.size)
attribute [local go_sem] Oper.semAt_some
theorem YP(br bl Lt CU gr gl kl kr:Nat)(lg kQ:Array Value)(L R:List (List Int))(w0:World)(hbr:br<w0.heap.size)(hbl:bl<w0.heap.size)(ac2:Lt<w0.heap.size)(ac3:CU<w0.heap.size)
  (hcr:w0.cell? (aD br 0)=some (.func (.func gr) #[] lg)) (hcl:w0.cell? (aD bl 0)=some (.func (.func gl) #[] kQ)) (ac4:w0.cell? (aD Lt 0)=some (.int .i64 kl)) (ac5:w0.cell? (aD CU 0)=some (.int .i64 kr))
  (xS:Seq ag Tryz.prog gr lg R w0) (hsl:Seq ag Tryz.prog gl kQ L w0)
  (Wv:∀ args w,(callFunc gr args).run Tryz.prog w=.ok (.enter gr args) w) (Ww:∀ args w,(callFunc gl args).run Tryz.prog w=.ok (.enter gl args) w)
  (hR:R.length<=1000000) (Ko:∀ a∈L,a.length<=1000) (hRl:∀ a∈R,a.length<=1000) (hLk:∀ a∈L,kl<a.length) (hRk:∀ a∈R,kr<a.length) :
  Seq ag Tryz.prog 162 #[.pointer (some (aD br 0)),.pointer (some (aD bl 0)),.pointer (some (aD Lt 0)),.pointer (some (aD CU 0))] (fF kl kr L R) w0:=by
 intro l J W o hW ho hJ hY h0;have bC:=(hW.cell (p:=(aD br 0)) hbr).trans hcr;have bD:=(hW.cell (p:=(aD bl 0)) hbl).trans hcl;have HY:Hid _:=hY;have HO:Hid _:=ho;have HW:Hid _:=hW;have HJ:Hid _:=hJ;have HR:Hid _:=hR;have cK:Hid _:=Ko;have cZ:Hid _:=hRl;have df:Hid _:=hLk;have bE:Hid _:=hRk;have dZ:Hid _:=hbl;have J8:Hid (w0.cell? (aD Lt 0)=some (.int .i64 kl)/\w0.cell? (aD CU 0)=some (.int .i64 kr)/\Lt<w0.heap.size/\CU<w0.heap.size):=⟨ac4,ac5,ac2,ac3⟩
 have ae:Bw W (W.alloc (.cells #[.func (.yield l) #[] #[]] 108)):=bV _ _;have bF:=(ae.cell (p:=(aD br 0)) (QT hbr HW.o.size)).trans bC;have xU:=(ae.cell (p:=(aD bl 0)) (QT hbl HW.o.size)).trans bD;have BU:(W.alloc (.cells #[.func (.yield l) #[] #[]] 108)).cell? (aD W.heap.size 0)=some (.func (.yield l) #[] #[]):=by simp
 have aO:(W.alloc (.cells #[.func (.yield l) #[] #[]] 108)).heap.size=W.heap.size+1:=by simp
 clear hY ho hW hJ hcr hcl hR Ko hRl hLk hRk bC bD hbl hbr ac4 ac5 ac2 ac3;refine(QZ (n:=0)).1 (Zk Tryz.func162 rfl trivial ?_ rfl);simp only[Tryz.ntmps162,Q6,Q7,Q8,Nat.reduceAdd,Nat.reduceSub,Q9,Za,Zb,Zc,Zd,Ze]
 gi_wp2
 obtain⟨w1,bq⟩:=eX (W.alloc (.cells #[.func (.yield l) #[] #[]] 108))
 rw[bq]at ae bF xU BU aO;rw[bq];clear bq;have dh:Bw w0 w1:=HW.o.trans (ae.mono HW.o.size);refine⟨trivial,rfl,QZ.2 ((nQ ag (fun _=>rfl) gr lg R w0 w1 dh HR.o xS Wv).mono ?_)⟩;rintro e k ⟨v,ys,og,rfl,bu,hG⟩;have di:ys.length<=1000000:=by
  have:=congrArg List.length bu;rw[ZB]at this;rw[this]; exact HR.o
 obtain⟨Y,dx,rfl,Sn,bX⟩:=hG.had di;have bG:ys.length<=dx:=by
  rcases hG.own.2 with⟨hv,h0⟩ | ⟨g,cap,cur,hv,_,_,hc1,_⟩
  ·omega
  ·injection hv with e1 e2 e3;omega
 have ai:=hG.below;have bH:=ai.size;have BV:=cB ai xU;have bI:=cB ai BU;have aj:=hG.born;have HG:Hid _:=hG;have U7:Hid _:=bu;have HH:Hid _:=Sn;have Wy:Hid _:=bX;have dm:Hid _:=aj;have dn:Hid _:=bG;have Sq:=cB (bV k (.cells #[.slice Y ys.length dx] 53)) BV;clear hG bu Sn bX aj bG
 gi_wp2
 have uq:∀ s,Kept s k (k.alloc (.cells #[.slice Y ys.length dx] 53)):=fun s=>QX _ _
 have aP:(k.alloc (.cells #[.slice Y ys.length dx] 53)).heap.size=k.heap.size+1:=by simp
 have TN:(k.alloc (.cells #[.slice Y ys.length dx] 53)).heap[k.heap.size]? = some (.cells #[.slice Y ys.length dx] 53):=World.alloc_heap_new _ _;have C9:=cB (bV k (.cells #[.slice Y ys.length dx] 53)) bI;obtain⟨M,bz⟩:=eX (k.alloc (.cells #[.slice Y ys.length dx] 53))
 rw[bz]at uq aP TN C9 Sq;rw[bz];clear bz;have qw:∀ s,Kept s W M:=fun s=>((QU ae (fun b d _=>d)).trans (QU ai (fun b d _=>d))).trans (uq s)
 have DZ:Bw w0 M:=HW.o.trans ((qw (fun _=>True)).below HW.o.size (fun _ _=>trivial));have bJ:aX M Y ys:=aX.keep HH.o (uq (fun _=>True)).size (fun a u=>(uq (fun _=>True)).block _ (HH.o.2.1 a u) trivial) (fun i m b d=>(uq (fun _=>True)).block _ (ag.sV (HH.o.2.2 i m) d) trivial);have bK:Hid (∀ a,Y=some a->W.heap.size<=a.block/\a.block<k.heap.size):=fun a u=>⟨by have:=Wy.o a u; omega,HH.o.2.1 a u⟩
 have aB:Hid (∀ y∈ys,∀ b,ag.blk y=some b->(b<w0.heap.size∨W.heap.size<=b)/\b<k.heap.size):=fun y hm b d=>by
  obtain⟨i,m,rfl⟩:=Qx hm;have e:ys.getD i iz=ys[i]:=by simp[List.getD,m]
  have hh:=HH.o.2.2 i m;rw[e]at hh;exact⟨(dm.o _ hm b d).imp id (by omega),ag.sV hh d⟩
 have dw:Hid _:=bJ;have Ar:Hid _:=qw;have dA:Hid _:=C9;have HS:Hid (M.heap.size=k.heap.size+1/\w1.heap.size=W.heap.size+1/\w1.heap.size<=k.heap.size):=⟨aP,aO,bH⟩
 clear bJ qw uq aP aO bH xU BV BU bI ae ai bF Sq C9;refine mo ag (gf:=gl) (lb:=kQ) rfl Ww hsl DZ rfl
  (ajQ 53 J kl kr R Y ys o k.heap.size M)
  (fun b=>o b∨b=k.heap.size) ?_ ?_ ?_ (fun x=>{ tmps:=#[.func (.yield l) #[] #[],.pointer (some (aD br 0)),.pointer (some (aD bl 0)),.pointer (some (aD Lt 0)),.pointer (some (aD CU 0)),.pointer (some (aD W.heap.size 0)),.pointer (some (aD k.heap.size 0)),x.val,undef,.func (.func gr) #[] lg,.slice Y ys.length dx,.func (.func gl) #[] kQ,x.val,undef,undef,undef,undef,undef,undef,undef,undef,undef,undef,undef,undef,undef,undef,undef,undef,undef,undef],defers:=[] }) ?assign ?body ?done
 ·intro b d;have:=HS.o;have:=(Ar.o (fun _=>True)).size;have:=HW.o.size;rcases d with d | d
  ·exact⟨(HO.o b d).1,by have:=(HO.o b d).2; omega⟩
  ·omega
 ·rintro E o1 A B ⟨zs,P,ah,C,j,hz,hj,F,Q,G,z,T,had,U,hk,hg⟩ ax;have h1:=(Ar.o (fun _=>True)).size;have hS:=HS.o;have hbl:∀ b,b<M.heap.size->b<A.heap.size->B.heap[b]? = A.heap[b]?:=fun b d hA=>ax.block b hA (.inr d)
  have dB:k.heap.size<A.heap.size:=by have:=hk.size; omega
  refine⟨zs,P,ah,C,j,hz,HJ.o _ _ _ _ hj (ax.mono fun b _ h=>h.imp (fun h=>(F b).2 (.inl h)) (by omega)),F,Q,(hbl _ (by omega) dB).trans G,?_,T,had,U,hk.trans' ax (fun b d _=>.inr d),fun b h=>(hg b h).imp id (fun h=>⟨h.1,by have:=ax.size; omega⟩)⟩;refine aX.keep z ax.size (fun a u=>?_) (fun i m b d=>?_)
  ·obtain⟨a0,dU,e⟩:=had a u;have:=(bK.o a0 dU).2;exact hbl _ (by omega) (z.2.1 a u)
  ·have hm:(ys.drop j).getD i iz∈ys:=List.mem_of_mem_drop (kM m);have:=(aB.o _ hm b d).2;exact hbl b (by omega) (ag.sV (z.2.2 i m) d)
 ·exact⟨[],o,Y,dx,0,rfl,HJ.o _ _ _ _ h0 (Ar.o _),fun _=>Iff.rfl,fun h=>by have:=(HO.o _ h).2; have:=HS.o; omega,TN,dw.o,dn.o,fun a u=>⟨a,u,rfl⟩,U7.o,QR _ _,fun b h=>.inl h⟩
 case assign=>
  intro l x W K hK
  gi_wp2
  exact hK
 case body=>
  rintro l2 E x o1 W2 ⟨zs,P,ah,C,j,hz,hj,F,Q,G,z,T,had,U,hk,hg⟩ Z hx ay eD;have h3:=(Ar.o (fun _=>True)).size;have ed:=hk.size;have dC:=HS.o;have Kq:∀ b,W.heap.size<=b->¬ o b:=fun b d h=>by have:=(HO.o b h).2; omega
  have aC:∀ b,b<w0.heap.size->¬ o b:=fun b d h=>by have:=(HO.o b h).1; omega
  have aQ:∀ b,b<M.heap.size->¬ o b->¬ P b:=fun b d h h'=>by
   rcases hg b h' with h' | h'
   ·exact h h'
   ·omega
  have ek:=HW.o.size;have aF:Bw w0 W2:=DZ.trans (hk.below DZ.size (fun i m=>⟨aC i m,by omega⟩));have eu:W2.cell? (aD Lt 0)=some (.int .i64 kl):=(aF.cell (p:=(aD Lt 0)) J8.o.2.2.1).trans J8.o.1;have dD:W2.cell? (aD CU 0)=some (.int .i64 kr):=(aF.cell (p:=(aD CU 0)) J8.o.2.2.2).trans J8.o.2.1;have dE:W2.cell? (aD W.heap.size 0)=some (.func (.yield l) #[] #[]):=Zj dA.o hk ⟨Kq _ (Qs _),by show W.heap.size≠_; omega⟩;have dF:W2.cell? (aD k.heap.size 0)=some (.slice ah (ys.drop j).length C):=Je G rfl;have eB:W2.frozen? (aD k.heap.size 0)=false:=rW G 0;have aG:x.xs∈L:=kC Z;have aH:=df.o _ aG;have aR:=cK.o _ aG;obtain⟨xb,xo,aK,tO⟩:=Qe hx.1 aH;have bL:=tO kl aH;have YQ:(E++[x]).map ag.key=E.map ag.key++[x.xs]:=by rw[Qn]; rfl
  have aS:∀ i,i<(ys.drop j).length->kr<((ys.drop j).getD i iz).xs.length:=fun i m=>bE.o _ (by rw[<- U7.o]; exact ZU.2 ⟨_,List.mem_of_mem_drop (kM m),rfl⟩)
  have t:aY x.xs kl=x.xs.getD kl 0:=by unfold aY; rw[ZY]
  have dG:Hid _:=hx;have YL:Hid _:=ay;have dH:Hid _:=hk;have tK:Hid _:=hg;have af:Hid _:=F;by_cases TW:x.xs.getD kl 0=1073741824
  ·have aI:Hid (jl ag (ajQ 53 J kl kr R Y ys o k.heap.size M) E x M.heap.size o1 W2 .normal { tmps:=#[],defers:=[] } W2):=
    ⟨o1,⟨zs,P,ah,C,j,by rw[YQ,jX,<- hz]; unfold fF; rw[t,Qu TW]; unfold fF; rw[XB],hj,F,Q,G,z,T,had,by rw[YQ,mf,<- U]; unfold lX; rw[t,Qu TW]; rfl,hk,hg⟩,QR _ _,fun b h=>.inl h⟩
   have ak:(x.xs.getD kl 0==1073741824)=true:=by simpa using TW
   clear hz hj F Q G z T had U hk hg Z hx ay t TW YQ aS Kq aC aQ aF aG tO;obtain⟨jD,cO,gK⟩:=x;unfold aa.val;simp only at aH aR aK bL ak ⊢;subst aK;generalize gK.getD kl 0=X at *
   gi_wp2
   exact aI.o
  ·have aT:aY x.xs kl≠1073741824:=by rw[t]; exact TW
   have hbl:=Ee ah C (ys.drop j) kr (x.xs.getD kl 0) W2 z T aS;obtain⟨j0,az⟩:=dropWhile_drop (sP kr (x.xs.getD kl 0)) (ys.drop j);rw[az,List.drop_drop]at hbl;obtain⟨j2,bY⟩:=eX (j+j0)
   rw[List.drop_drop]at az;rw[bY]at hbl az;have aU:(ys.drop j2).map aa.xs=(lX kl kr (E.map ag.key) R).dropWhile fun b=>decide (dz (aY b kr) (aY x.xs kl)<0):=by
    rw[<- az,<- U,t]; exact Lr _ _ _
   have bM:∀ i,i<(ys.drop j2).length->kr<((ys.drop j2).getD i iz).xs.length:=fun i m=>bE.o _ (by rw[<- U7.o]; exact ZU.2 ⟨_,List.mem_of_mem_drop (kM m),rfl⟩)
   have bN:fF kl kr ((E++[x]).map ag.key) R=zs.map ag.key++((ys.drop j2).takeWhile (mG kr (x.xs.getD kl 0))).map (fun r=>x.xs++r.xs):=by
    rw[YQ,jX,<- hz,uJ,Qv aT,<- aU]
    show _++(_++[])=_
    rw[XB,t,<- Ls,Xv];rfl
   have bO:lX kl kr ((E++[x]).map ag.key) R=(ys.drop j2).map aa.xs:=by
    rw[YQ,mf,qj,Qv aT,<- aU];rfl
   have bP:Hid (fF kl kr ((E++[x]).map ag.key) R <+: fF kl kr L R):=TU Z;have au:Hid _:=bN;have aV:Hid _:=bO;have bQ:Hid _:=bM;have KM:Hid _:=G;have dI:Hid _:=z;have bR:Hid _:=had;have dJ:Hid _:=hj;have HN:Hid (¬ P k.heap.size):=Q;have N:Hid ((∀ b,W.heap.size<=b->¬ o b)/\(∀ b,b<w0.heap.size->¬ o b)/\∀ b,b<M.heap.size->¬ o b->¬ P b):=⟨Kq,aC,aQ⟩
   have ak:(x.xs.getD kl 0==1073741824)=false:=by simpa using TW
   clear hz hj F Q G z T had U hk hg Z hx ay t TW YQ aS Kq aC aQ aF aG tO az aU bM bN bO aT bY;obtain⟨D,bA⟩:=eX (ys.drop j2)
   have YR:Hid (ys.drop j2=D):=bA;rw[bA]at hbl au aV bQ;clear bA;generalize ys.drop j=rs at hbl KM dF dI;obtain⟨jD,cO,gK⟩:=x;unfold aa.val;simp only at aH aR aK bL ak hbl au bP aV ⊢;subst aK;generalize dY:gK.getD kl 0=X at *;clear dY
   gi_wp2
   refine⟨trivial,rfl,Zl l2 (QZ.2 (hbl.mono ?_))⟩;rintro e Wb ⟨V,f,rfl,bZ,aN,cu,rfl⟩;clear hbl;have aW:Hid _:=bZ;have bS:Hid _:=aN;have bT:Hid _:=cu;clear bZ aN cu
   gi_wp2
   have aM:=AP KM.o 0 (.slice V D.length f);have O:(Wb.setCell (aD k.heap.size 0) (.slice V D.length f)).heap[k.heap.size]? = some (.cells #[.slice V D.length f] 53):=aM;have aZ:Kept (fun b=>b≠k.heap.size) Wb (Wb.setCell (aD k.heap.size 0) (.slice V D.length f)):=Zn _ _ _ (fun h=>h rfl);obtain⟨H,cz⟩:=eX (Wb.setCell (aD k.heap.size 0) (.slice V D.length f))
   rw[cz]at O aZ ⊢;clear cz aM;have q:Kept (fun b=>b≠k.heap.size) Wb H.drew:=aZ.trans (QU ((Qr H.heap.size H).drew) (fun b d _=>d));have bf:H.drew.heap[k.heap.size]? = some (.cells #[.slice V D.length f] 53):=O;have dK:Wb.heap.size=H.drew.heap.size->True:=fun _=>trivial
   have bg:∀ i,i<D.length->D.getD i iz∈ys:=fun i m=>List.mem_of_mem_drop (by rw[YR.o]; exact kM m)
   have YS:∀ a,V=some a->W.heap.size<=a.block/\a.block<k.heap.size:=fun a u=>by
    obtain⟨a1,h1,e1⟩:=bT.o a u;obtain⟨a0,h0,e0⟩:=bR.o a1 h1;rw[e1,e0];exact bK.o a0 h0
   have av:aX H.drew V D:=aX.keep aW.o q.size (fun a u=>q.block _ (aW.o.2.1 a u) (by have:=(YS a u).2; show a.block≠_; omega)) (fun i m b d=>q.block _ (ag.sV (aW.o.2.2 i m) d) (by have:=(aB.o _ (bg i m) b d).2; show b≠_; omega));have bU:J zs P H.drew:=HJ.o _ _ _ _ dJ.o (q.mono fun b _ h=>by
    rcases h with h | h
    ·intro e; exact HN.o (e ▸ h)
    ·show b≠_; omega)
   have bW:ag.At ⟨some (aD xb xo),cO,gK⟩ H.drew:=ag.keep dG.o q.size (fun b d dX=>q.block b d (fun e=>(YL.o b dX).1 ((af.o b).2 (.inr e))));have bn:=NZ V f D kr X H.drew av bS.o bQ.o;have dL:H.drew.cell? (aD CU 0)=some (.int .i64 kr):=Zj dD q (by have:=J8.o.2.2.2; show CU≠_; omega);have dM:H.drew.cell? (aD W.heap.size 0)=some (.func (.yield l) #[] #[]):=Zj dE q (by show W.heap.size≠_; omega);have YT:H.drew.cell? (aD k.heap.size 0)=some (.slice V D.length f):=Je bf rfl;have dN:=q.size;have aJ:∀ i,i<(D.takeWhile (mG kr X)).length->(D.takeWhile (mG kr X)).getD i iz∈ys:=fun i m=>List.mem_of_mem_drop (by rw[YR.o]; exact(List.takeWhile_sublist _).subset (kM m))
   have Wz:∀ aL,aX H.drew V (D.takeWhile (mG kr X))->_:=fun aL bB=>Dj l W.heap.size J (fF kl kr L R) w0.heap.size ⟨some (aD xb xo),cO,gK⟩ V aL (D.takeWhile (mG kr X)) zs P H.drew HJ.o HY.o (by omega) bU (by rw[<- au.o]; exact bP.o) bW
    (fun b d h=>(YL.o b d).1 ((af.o b).2 (.inl h))) aR bB
    (fun a u=>N.o.2.2 _ (by have:=(YS a u).2; omega) (N.o.1 _ (YS a u).1))
    (fun i m a u=>by
     have h1:=aB.o _ (aJ i m) a.block (by show Option.map _ _=_; rw[u]; rfl);exact N.o.2.2 _ (by omega) (h1.1.elim (N.o.2.1 _) (N.o.1 _)))
    (fun i m=>cZ.o _ (by rw[<- U7.o]; exact ZU.2 ⟨_,aJ i m,rfl⟩))
    (fun b h=>by
     rcases tK.o b h with h | h
     ·have:=(HO.o b h).2; omega
     ·omega)
   have aI:Hid (∀ (us:List aa) (o2:Nat->Prop) (W4:World) (a4:Act),us.map ag.key=(D.takeWhile (mG kr X)).map (fun r=>gK++r.xs)->J (zs++us) o2 W4->Kept (fun b=>¬ P b) H.drew W4->(∀ b,o2 b->P b∨(H.drew.heap.size<=b/\b<W4.heap.size))->
     jl ag (ajQ 53 J kl kr R Y ys o k.heap.size M) E ⟨some (aD xb xo),cO,gK⟩ M.heap.size o1 Wb .normal a4 W4):=fun us o2 W4 a4 U8 MN I aA=>by
    have dO:=I.size;have dP:W4.heap[k.heap.size]? = some (.cells #[.slice V D.length f] 53):=(I.block _ (by omega) HN.o).trans bf;have dQ:¬ o2 k.heap.size:=fun h=>by
     rcases aA _ h with h | h
     ·exact HN.o h
     ·omega
    refine⟨fun b=>o2 b∨b=k.heap.size,⟨zs++us,o2,V,f,j2,?_,MN,fun _=>Iff.rfl,dQ,?_,?_,?_,?_,?_,?_,?_⟩,?_,?_⟩
    ·rw[au.o,Qn,U8]
    ·rw[YR.o]; exact dP
    ·rw[YR.o];refine aX.keep av dO (fun a u=>I.block _ (av.2.1 a u) (N.o.2.2 _ (by have:=(YS a u).2; omega) (N.o.1 _ (YS a u).1))) (fun i m b d=>I.block _ (ag.sV (av.2.2 i m) d) ?_);have h1:=aB.o _ (bg i m) b d;exact N.o.2.2 _ (by omega) (h1.1.elim (N.o.2.1 _) (N.o.1 _))
    ·rw[YR.o]; exact bS.o
    ·intro a' dW;obtain⟨a1,h1,e1⟩:=bT.o a' dW;obtain⟨a0,h0,e0⟩:=bR.o a1 h1;exact⟨a0,h0,e1.trans e0⟩
    ·rw[YR.o,aV.o]
    ·refine(dH.o.trans' (q.mono fun b _ h=>h) (fun b _ h=>h.2)).trans' I (fun b d h=>N.o.2.2 _ d h.1)
    ·intro b d;rcases aA b d with h | h
     ·exact(tK.o b h).imp id (fun h=>⟨h.1,by omega⟩)
     ·exact .inr ⟨by omega,h.2⟩
    ·refine(q.mono fun b _ h e=>h ((af.o b).2 (.inr e))).trans' I (fun b _ h h'=>h ((af.o b).2 (.inl h')))
    ·rintro b (d | d)
     ·rcases aA b d with h | h
      ·exact .inl ((af.o b).2 (.inl h))
      ·exact .inr (.inl ⟨by omega,h.2⟩)
     ·exact .inl ((af.o b).2 (.inr d))
   clear au;generalize D.takeWhile (mG kr X)=tw at bn Wz aI aJ;have TZ:Hid (CU<w0.heap.size/\CU<M.heap.size):=⟨J8.o.2.2.2,by have:=J8.o.2.2.2; omega⟩
   have dR:Hid (W.heap.size<M.heap.size):=by show W.heap.size<M.heap.size; omega
   have wN:Hid _:=bn;have JE:Hid _:=Wz;clear dC bg YS av bU bW aJ Wz O aZ q bf dK dN bn;refine su (S:=fun x=>Kept (fun b=>¬ P b) H.drew x) (by kernel_rfl) (by kernel_rfl) (fun ⟨_,_,h⟩=>h) ?_;have hS:Kept (fun b=>¬ P b) H.drew H.drew:=QR _ _;refine wT 0 (.slice (some (aD xb xo)) gK.length cO) hS (fun x hx=>?_) ?_
   ·go_simp
   refine wT 1 (.slice V D.length f) hS (fun x hx=>?_) ?_
   ·have q1:=Zj YT hx HN.o;go_simp
   refine wT 2 (.int .i64 kr) hS (fun x hx=>?_) ?_
   ·have q1:=Zj dL hx (N.o.2.2 _ TZ.o.2 (N.o.2.1 _ TZ.o.1));go_simp
   refine wT 3 (.int .i64 X) hS (fun x hx=>?_) ?_
   ·go_simp
   refine wT 5 (.func (.yield l) #[] #[]) hS (fun x hx=>?_) ?_
   ·have q1:=Zj dM hx (N.o.2.2 _ dR.o (N.o.1 _ (Qs _)));go_simp
   refine wR 4 fun K hK=>?_
   go_simp;refine Jj wN.o ?_;rintro e w4 ⟨aL,rfl,bB,rfl⟩;refine hK.o _ _ (QR _ _) (fun hS=>?_);clear hK K;refine wR 6 fun K hK=>?_
   go_simp;refine Jj (JE.o aL bB) ?_;rintro e W4 ⟨rfl,us,o2,U8,MN,I,aA⟩;refine hK.o _ _ I (fun hS=>?_);clear hK K;refine wT 7 (.bool false) hS (fun x hx=>?_) ?_
   ·go_simp
   refine wpAnyH_done (by kernel_rfl) ?_ _;simp only[Act.put,List.setIfInBounds_toArray,List.set_cons_zero,List.set_cons_succ]
   gi_wp2
   exact aI.o us o2 W4 _ U8 MN I aA
 case done=>
  rintro us o' W2 U8 ⟨zs,P,ah,C,j,hz,hj,F,Q,G,z,T,had,U,hk,hg⟩ eF dV hD;have h3:=(Ar.o (fun _=>True)).size;have hS:=HS.o
  gi_wp2
  have dS:¬ P M.heap.size:=fun h=>by
   rcases dV _ ((F _).2 (.inl h)) with (h | h) | h
   ·have:=(HO.o _ h).2; omega
   ·omega
   ·omega
  have UW:Kept (fun b=>b≠M.heap.size) W2 (W2.putObj M.heap.size (.deferred none)):=QV _ _ (fun h=>h rfl);refine⟨by simp,.inl ⟨_,_,rfl,Zm hD,?_⟩⟩;refine⟨_,results_none rfl _ _ _,⟨_,rfl⟩,zs,P,?_,HJ.o _ _ _ _ hj (UW.mono fun b _ h=>?_),((Ar.o _).trans' hk (fun b d h=>⟨h,by omega⟩)).trans' UW (fun b d _=>by omega),fun b h=>(hg b h).imp id (fun h=>⟨by omega,by rw[Q0]; omega⟩)⟩
  ·rw[hz,U8]
  ·rcases h with h | h
   ·intro e; exact dS (e ▸ h)
   ·omega
end
section
open Go.Maps Go.WideMaps
def O0(v:Value):Option (DataW Value × List MemPlace):=some (.held v,[])
def O1(κ:Int):Prop:=(Lit.int .i64 κ).wf=true
structure tV(P:Program)(ti tE:TypeId)(base bm n:Nat)(aK:Int->List aa)(val:Int->Value)(W:World):Prop where
 map:∃ D:DataW Value,W.ownsMap P ti O0 bm n D/\∀ κ,O1 κ->D.atKey (.int .i64 κ) (.held (.slice none 0 0))=.held (val κ)
 own:∀ κ,W.ownsRow base tE 1 (val κ) (aK κ).length ((aK κ).map aa.val)
 apart:∀ κ κ',κ≠κ'->∀ b,(val κ).ownBlock=some b->(val κ').ownBlock≠some b
 low:bm<base
def dS(bm:Nat)(val:Int->Value)(b:Nat):Prop:=b=bm∨∃ κ,(val κ).ownBlock=some b
theorem tV.fresh(P:Program)(ti tE:TypeId)(w:World):tV P ti tE (w.heap.size+1) w.heap.size 0 (fun _=>[]) (fun _=>.slice none 0 0) (w.alloc (.map #[] 0)):=
 ⟨⟨_,World.ownsMap_made w P ti _,fun _ _=>rfl⟩,fun _=>ZA _ _ _ _,fun _ _ _ b h=>(by cases h),Nat.lt_succ_self _⟩
theorem tV.keep{P:Program}{ti tE:TypeId}{base bm n:Nat}{aK:Int->List aa}{val:Int->Value}{A B:World}(h:tV P ti tE base bm n aK val A){s:Nat->Prop}(hk:Kept s A B)(hs:∀ b,dS bm val b->s b):tV P ti tE base bm n aK val B:=by
 obtain⟨⟨D,k,i⟩,d,j,e⟩:=h;have f:=k.lt;obtain⟨l,a,m,o⟩:=k;exact⟨⟨D,⟨l,a,(hk.block _ f (hs _ (.inl rfl))).trans m,o⟩,i⟩,fun κ=>Zp (d κ) hk (fun g p=>hs g (.inr ⟨κ,p⟩)),j,e⟩
theorem tV.mlt{A:World}(h:tV P ti tE base bm n aK val A):bm<A.heap.size:=by
 obtain⟨D,a,_⟩:=h.map;exact a.lt
theorem tV.look{t e:TypeId}{W:World}(h:tV P ti tE base bm n aK val W)(hi:P.underlying ti=some (.int .i64))(ht:P.underlying t=some (.map ti e))
  (hz:(zeroValue e).run P W=.ok (.slice none 0 0) W) {κ:Int} (hw:O1 κ):(Instr.lookup t (.map (some bm)) (.int .i64 κ) false).run P W=.ok (val κ) W:=by
 obtain⟨D,f,d⟩:=h.map;obtain⟨v,ps,b,a⟩:=f.lookup (int_keyed hi) ht hz (zd:=.held (.slice none 0 0)) (zp:=[]) rfl (keyOf_int_mk hi hw);rw[d κ hw]at a;have e:v=val κ:=by
  unfold O0 at a;injection a with a;injection a with a _;injection a
 rw[<- e];exact b
theorem YU(W:World)(base bm n:Nat)(aK:Int->List aa)(val:Int->Value)(h:tV Tryz.prog 3 22 base bm n aK val W)(hn:n<=1000000)(hlow:base<=W.heap.size)(κ0:Int)(hw:O1 κ0)(hsl:(aK κ0).length<=1000000)(x:aa)(ty:TypeId) :
  ∃ l q z,(Builtin.append_ #[53,53] ty #[val κ0,.slice (some (aD W.heap.size 0)) 1 1]).run Tryz.prog (W.alloc (.cells #[x.val] 22))=.ok l q/\(Instr.mapUpdate 203 (.map (some bm)) (.int .i64 κ0) l).run Tryz.prog q=.ok () z/\
   tV Tryz.prog 3 22 base bm (n+1) (fun κ=>if κ=κ0 then aK κ++[x] else aK κ) (fun κ=>if κ=κ0 then l else val κ) z/\(∃ a m c,l = .slice a m c)/\Kept (fun b=>¬ dS bm val b) (W.alloc (.cells #[x.val] 22)) q/\Kept (fun b=>¬ dS bm val b) q z/\
   ∀ b,dS bm (fun κ=>if κ=κ0 then l else val κ) b->dS bm val b∨(W.heap.size<b/\b<z.heap.size):=by
 obtain⟨T,U,I,J,K⟩:=Zy Tryz.Db;have F:tV Tryz.prog 3 22 base bm n aK val (W.alloc (.cells #[x.val] 22)):=h.keep (s:=fun _=>True) (QX _ _) (fun _ _=>trivial);have G:(W.alloc (.cells #[x.val] 22)).heap.size=W.heap.size+1:=by simp
 obtain⟨l,q,V,i,k,_,L⟩:=X6 (P:=Tryz.prog) (W.alloc (.cells #[x.val] 22)) base 53 ty 22 T (.slice none 0 0) 1 24 Tryz.underlying53 U I J K rfl (by decide) (val κ0) (aK κ0).length ((aK κ0).map aa.val) (F.own κ0)
  (aD W.heap.size 0) 1 1 [x.val] rfl (cell_one_new W x.val 22) (by simp[aa.val,Value.oneCell']) (by unfold maxLen; omega) (by omega) (by omega)
 have o:∀ κ b,(val κ).ownBlock=some b->b<W.heap.size/\base<=b:=fun κ b f=>by have:=Zq (h.own κ) f; omega
 have H:some bm≠(val κ0).ownBlock:=fun e=>by have:=(o κ0 bm e.symm).2; have:=h.low; omega
 obtain⟨D,X,M⟩:=F.map;have A:=X.kept k H;obtain⟨z,N,O,Q⟩:=A.update (int_keyed Tryz.underlying3) Tryz.underlying203 (by unfold maxLen; omega) (keyOf_int_mk Tryz.underlying3 hw) (d:=.held l) (ps:=[]) rfl;have v:Kept (fun b=>(val κ0).ownBlock≠some b) (W.alloc (.cells #[x.val] 22)) q:=Zo k (fun r e h=>h e);have p:Kept (fun b=>b≠bm) q z:=Zo Q (fun r e h=>by cases e; exact h rfl);have R:=v.size;have S:=p.size;have w:∀ b,l.ownBlock=some b->(val κ0).ownBlock=some b∨b=W.heap.size+1:=fun b f=>by
  rcases L with e | e
  ·rw[e]at f; exact .inl f
  ·rw[e,G]at f;injection f with f;exact .inr f.symm
 have B:∀ b,l.ownBlock=some b->b<q.heap.size/\base<=b:=fun b f=>by have:=Zq i f; omega
 refine⟨l,q,z,V,N,⟨⟨_,O,fun κ Y=>?_⟩,fun κ=>?_,fun κ C u b f j=>?_,h.low⟩,?_,v.mono (fun b _ h Z=>h (.inr ⟨κ0,Z⟩)),p.mono (fun b _ h e=>h (.inl e)),fun b f=>?_⟩
 ·by_cases e:κ=κ0
  ·rw[Qu e,e,atKey_put_same A.isMap ((int_keyed Tryz.underlying3).key (keyOf_int_mk Tryz.underlying3 hw))]
  ·rw[Qv e,atKey_put_other (fun h=>e (by injection h)),M κ Y]
 ·by_cases e:κ=κ0
  ·simp only[Qu e];rw[ZC,Qn,e];exact Zp i p (fun g E=>by have:=(B g E).2; have:=h.low; omega)
  ·simp only[Qv e];refine Zp (Zp (F.own κ) v (fun g E y=>?_)) p (fun g E=>by have:=(o κ g E).2; have:=h.low; omega);exact h.apart κ κ0 e g E y
 ·by_cases e:κ=κ0
  ·have y:C≠κ0:=fun h=>u (e.trans h.symm)
   simp only[Qu e]at f;simp only[Qv y]at j;rcases w b f with t | t
   ·exact h.apart κ0 C (fun h=>y h.symm) b t j
   ·have:=(o C b j).1; omega
  ·simp only[Qv e]at f;by_cases y:C = κ0
   ·simp only[Qu y]at j;rcases w b j with t | t
    ·exact h.apart κ κ0 e b f t
    ·have:=(o κ b f).1; omega
   ·simp only[Qv y]at j;exact h.apart κ C u b f j
 ·rcases i.2 with⟨e,_⟩ | ⟨g,cap,cur,e,_⟩
  ·exact⟨_,_,_,e⟩
  ·exact⟨_,_,_,e⟩
 ·rcases f with f | ⟨κ,f⟩
  ·exact .inl (.inl f)
  ·by_cases e:κ=κ0
   ·simp only[Qu e]at f;rcases w b f with t | t
    ·exact .inl (.inr ⟨κ0,t⟩)
    ·have:=(B b f).1; exact .inr ⟨by omega,by omega⟩
   ·simp only[Qv e]at f;exact .inl (.inr ⟨κ,f⟩)
end
