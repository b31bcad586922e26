import Derived.Test.YtgemohlbjehmbaaGreatDoorF25
import Derived.Test.YtgemohlbjehmbaaGreatDoorF27
set_option linter.all false
set_option maxRecDepth 100000
set_option maxHeartbeats 16000000
namespace Go.Proofs.Zz
open Go.RowKit Go.Shelf
variable {w:World} {a:Addr}
def GN(t:af):List Value:=[.int .i64 t.aX,.int .i64 t.rows,.int .i64 t.k0,.int .i64 t.k1,.int .i64 t.k2,.int .i64 t.k3]
theorem RI{base:Nat}{e:TypeId}{v:Value}{ts:List af}(h:w.ownsRow base e 6 v ts.length (ts.flatMap GN))(hl:ts.length<=1000) :
  ∃ f cap,v=.slice f ts.length cap/\bF w f ts:=by
 rcases h.2 with⟨rfl,h0⟩ | ⟨g,cap,cur,rfl,hb,hh,hc,_,hcs,ht⟩
 ·have:=Zl h0;subst this;exact⟨none,0,rfl,by simp,λi d=>absurd d (by simp)⟩
 ·refine⟨some (aD g 0),cap,rfl,by omega,λi d=>⟨g,0,rfl,?_⟩⟩;have a:∀ j u,j<6->(GN (ts.getD i tz))[j]? = some u->w.cell? (aD g (0+i*6+j))=some u:=λj u k l=>by
   have b:=ZE GN 6 (λ_=>rfl) tz ts i j d k;rw[l,<- ht,Zm]at b;split at b
   ·rw[QL,Qy (show GB w g _ cur from hh)]
    simpa using b
   ·cases b
  exact⟨a 0 _ (by omega) rfl,a 1 _ (by omega) rfl,a 2 _ (by omega) rfl,a 3 _ (by omega) rfl,a 4 _ (by omega) rfl,a 5 _ (by omega) rfl⟩
theorem MG{xs:List af}(h:bF w (some a) xs):∀ j u,(xs.flatMap GN)[j]? = some u->∃ b f,some a=some (aD b f)/\w.cell? (aD b (f+j))=some u:=by
 intro j u m;have n:j<xs.length*6:=by have:=(List.getElem?_eq_some_iff.1 m).1;rw[lH GN 6 (λ_=>rfl)]at this;exact this
 have k:j / 6<xs.length:=by omega
 obtain⟨b,f,e,o,p,q,s,t,v⟩:=h.2 (j / 6) k;refine⟨b,f,e,?_⟩;have l:j % 6<6:=by omega
 have d:=ZE GN 6 (λ_=>rfl) tz xs (j / 6) (j % 6) k l;have g:j / 6*6+j % 6=j:=by omega
 rw[g,m]at d;rw[<- g];generalize j / 6=i at *;generalize j % 6=r at *
 match r,l,d with
 | 0,_,d =>
  injection d with d;rw[d,ZG];exact o
 | 1,_,d =>
  injection d with d;rw[d,<- Xv];exact p
 | 2,_,d =>
  injection d with d;rw[d,<- Xv];exact q
 | 3,_,d =>
  injection d with d;rw[d,<- Xv];exact s
 | 4,_,d =>
  injection d with d;rw[d,<- Xv];exact t
 | 5,_,d =>
  injection d with d;rw[d,<- Xv];exact v
theorem RJ{xs:List aI}(h:bZ w (some a) xs):∀ j u,(xs.flatMap aI.vals)[j]? = some u->∃ b f,some a=some (aD b f)/\w.cell? (aD b (f+j))=some u:=by
 intro j u m;have n:j<xs.length*5:=by have:=(List.getElem?_eq_some_iff.1 m).1;rw[lH aI.vals 5 (λ_=>rfl)]at this;exact this
 have k:j / 5<xs.length:=by omega
 obtain⟨b,f,e,o,p,q,s,t⟩:=h.2 (j / 5) k;refine⟨b,f,e,?_⟩;have l:j % 5<5:=by omega
 have d:=ZE aI.vals 5 (λ_=>rfl) cz xs (j / 5) (j % 5) k l;have g:j / 5*5+j % 5=j:=by omega
 rw[g,m]at d;rw[<- g];generalize j / 5=i at *;generalize j % 5=r at *
 match r,l,d with
 | 0,_,d =>
  injection d with d;rw[d,ZG];exact o
 | 1,_,d =>
  injection d with d;rw[d,<- Xv];exact p
 | 2,_,d =>
  injection d with d;rw[d,<- Xv];exact q
 | 3,_,d =>
  injection d with d;rw[d,<- Xv];exact s
 | 4,_,d =>
  injection d with d;rw[d,<- Xv];exact t
theorem Tryz.afx:(Tryz.prog.info? 51).map (λi=>(i.zero,i.size,i.bytes))=some (some (.agg #[.int .i64 0,.int .i64 0,.int .i64 0,.int .i64 0,.int .i64 0,.int .i64 0]),6,48):=by kernel_rfl
theorem Dx(ao:Option Addr)(cap:Nat)(xs:List af)(w:World)(hx:bF w ao xs)(hn:ao=none->cap=0)(hl:xs.length<=1000) :
  Calls Tryz.prog 29 #[.slice ao xs.length cap] w λe w'=>∃ v,e=.returned v/\w'.ownsRow w.heap.size 51 6 v xs.length (xs.flatMap GN)/\Bw w w':=by
 obtain⟨n,p,f,g,i⟩:=Zv Tryz.afx
 cases ao with
 | none =>
  obtain rfl:cap=0:=hn rfl;have k:xs=[]:=by
   cases xs with
   | nil => rfl
   | cons x xs => obtain⟨b,q,e,_⟩:=hx.2 0 (by simp); cases e
  subst k;have d:∀ W,(binOp .eql 23 (.slice none 0 0) (.slice none 0 0)).run Tryz.prog W=.ok (.bool true) W:=λW=>Xj W 23 _ none _ _ _ _ Tryz.underlying23;go_enter Tryz.func29,Tryz.ntmps29;go_wp2;go_ret;exact⟨_,rfl,Zu _ _ _ _,Qm _ _⟩
 | some a =>
  obtain⟨B,w',r,s,j,⟨t,y,z,rfl⟩⟩:=pE (P:=Tryz.prog) w 23 23 51 n _ 6 48 Tryz.underlying23 p f g i rfl (by decide) a xs.length cap (xs.flatMap GN) (lH GN 6 (λ_=>rfl) xs) (MG hx) (λu A=>by
   obtain⟨x,_,hx⟩:=Q3.1 A;simp[GN]at hx;rcases hx with rfl | rfl | rfl | rfl | rfl | rfl <;> rfl) (by omega) (by decide)
  have d:∀ W,(binOp .eql 23 (.slice (some a) xs.length cap) (.slice none 0 0)).run Tryz.prog W=.ok (.bool false) W:=λW=>Xj W 23 _ (some a) _ _ _ _ Tryz.underlying23;have l:Hid _:=s;have m:=Zh j;go_enter Tryz.func29,Tryz.ntmps29;go_wp2_with (first | (at_builtin; refine Zt rfl (.tmp 5) (.tmp 6) 23 rfl (.slice (some (aD w.heap.size 0)) 0 0) (.slice (some a) xs.length cap) (.slice t y z) w' rfl rfl r ?_));go_wp2;go_ret;exact⟨_,rfl,l.o,m.o⟩
theorem EE(ao:Option Addr)(cap:Nat)(xs:List aI)(w:World)(hx:bZ w ao xs)(hn:ao=none->cap=0)(hl:xs.length<=1000) :
  Calls Tryz.prog 46 #[.slice ao xs.length cap] w λe w'=>∃ v,e=.returned v/\w'.ownsRow w.heap.size 80 5 v xs.length (xs.flatMap aI.vals)/\Bw w w':=by
 obtain⟨n,p,f,g,i⟩:=Zv Tryz.MF
 cases ao with
 | none =>
  obtain rfl:cap=0:=hn rfl;have k:xs=[]:=by
   cases xs with
   | nil => rfl
   | cons x xs => obtain⟨b,q,e,_⟩:=hx.2 0 (by simp); cases e
  subst k;have d:∀ W,(binOp .eql 82 (.slice none 0 0) (.slice none 0 0)).run Tryz.prog W=.ok (.bool true) W:=λW=>Xj W 82 _ none _ _ _ _ Tryz.underlying82;go_enter Tryz.func46,Tryz.ntmps46;go_wp2;go_ret;exact⟨_,rfl,Zu _ _ _ _,Qm _ _⟩
 | some a =>
  obtain⟨B,w',r,s,j,⟨t,y,z,rfl⟩⟩:=pE (P:=Tryz.prog) w 82 82 80 n _ 5 40 Tryz.underlying82 p f g i rfl (by decide) a xs.length cap (xs.flatMap aI.vals) (lH aI.vals 5 (λ_=>rfl) xs) (RJ hx) (λu A=>by
   obtain⟨x,_,hx⟩:=Q3.1 A;simp[aI.vals]at hx;rcases hx with rfl | rfl | rfl | rfl | rfl <;> rfl) (by omega) (by decide)
  have d:∀ W,(binOp .eql 82 (.slice (some a) xs.length cap) (.slice none 0 0)).run Tryz.prog W=.ok (.bool false) W:=λW=>Xj W 82 _ (some a) _ _ _ _ Tryz.underlying82;have l:Hid _:=s;have m:=Zh j;go_enter Tryz.func46,Tryz.ntmps46;go_wp2_with (first | (at_builtin; refine Zt rfl (.tmp 5) (.tmp 6) 82 rfl (.slice (some (aD w.heap.size 0)) 0 0) (.slice (some a) xs.length cap) (.slice t y z) w' rfl rfl r ?_));go_wp2;go_ret;exact⟨_,rfl,l.o,m.o⟩
theorem BA(ao:Option Addr)(cap:Nat)(xs:List aL)(w:World)(hx:xs.length<=1152921504606846976/\bT w ao xs.length (λi=>(xs.getD i lz).val))(hn:ao=none->cap=0)(hl:xs.length<=1000) :
  Calls Tryz.prog 45 #[.slice ao xs.length cap] w λe w'=>∃ v,e=.returned v/\w'.ownsRow w.heap.size 84 1 v xs.length (xs.map aL.val)/\Bw w w':=by
 obtain⟨s,t,f,g,k⟩:=Zv Tryz.ED
 cases ao with
 | none =>
  obtain rfl:cap=0:=hn rfl;have p:xs=[]:=by
   cases xs with
   | nil => rfl
   | cons x xs => obtain⟨b,y,e,_⟩:=hx.2 0 (by simp); cases e
  subst p;have d:∀ W,(binOp .eql 24 (.slice none 0 0) (.slice none 0 0)).run Tryz.prog W=.ok (.bool true) W:=λW=>Xj W 24 _ none _ _ _ _ Tryz.underlying24;go_enter Tryz.func45,Tryz.ntmps45;go_wp2;go_ret;exact⟨_,rfl,Zu _ _ _ _,Qm _ _⟩
 | some a =>
  obtain⟨G,w',z,A,l,⟨B,C,D,rfl⟩⟩:=pE (P:=Tryz.prog) w 24 24 84 s _ 1 24 Tryz.underlying24 t f g k rfl (by decide) a xs.length cap (xs.map aL.val) (by simp) (λj u E=>by
   rw[ZL]at E;by_cases m:j<xs.length
   ·obtain⟨H,n,e,I⟩:=hx.2 j m
    grind
   grind) (λu F=>by obtain⟨x,_,rfl⟩:=QZ.1 F; rfl) (by omega) (by decide)
  have d:∀ W,(binOp .eql 24 (.slice (some a) xs.length cap) (.slice none 0 0)).run Tryz.prog W=.ok (.bool false) W:=λW=>Xj W 24 _ (some a) _ _ _ _ Tryz.underlying24;have q:Hid _:=A;have r:=Zh l;go_enter Tryz.func45,Tryz.ntmps45;go_wp2_with (first | (at_builtin; refine Zt rfl (.tmp 5) (.tmp 6) 24 rfl (.slice (some (aD w.heap.size 0)) 0 0) (.slice (some a) xs.length cap) (.slice B C D) w' rfl rfl z ?_));go_wp2;go_ret;exact⟨_,rfl,q.o,r.o⟩
theorem Td{ls:List (List Int)}{p:aj}(h:p∈dE ls):p.2=none:=by unfold dE at h;grind
theorem NH{rk:Nat->Int}{Q:aO->Prop}:∀ (l:List Nat) (acc:List aO),(∀ t∈acc,Q t)->(∀ i∈l,Q (2 ^ i,0))->∀ t∈l.foldl (λa (i:Nat)=>gI rk a (2 ^ i,0)) acc,Q t
 | [],_,h,_ => h
 | i::l,acc,h,hl => NH l _ (λt ht => by
   rcases Ae ht with ht | rfl
   ·exact h t ht
   simp_all) (λj hj=>hl j (ZI _ hj))
theorem YB(rk:Nat->Int)(a:List aO)(t:aO):a.length<=(gI rk a t).length/\(gI rk a t).length<=a.length+1:=by unfold gI;grind
theorem adh(rk:Nat->Int)(t:aO):0<(gI rk [] t).length:=by
 unfold gI;split
 ·rename_i h
  exact absurd h (by simp[oh])
 ·simp
theorem BQ(rk:Nat->Int):∀ (l:List Nat) (acc:List aO),acc.length<=(l.foldl (λa (i:Nat)=>gI rk a (2 ^ i,0)) acc).length/\(l.foldl (λa (i:Nat)=>gI rk a (2 ^ i,0)) acc).length<=acc.length+l.length
 | [],acc => by simp
 | i::l,acc => by have h1:=YB rk acc (2 ^ i,0);have h2:=BQ rk l (gI rk acc (2 ^ i,0));grind
theorem BS(rk:Nat->Int)(ts:List af)(q:ae)(room:Nat)(h1:1<=q.src.xs.length)(h5:q.src.xs.length<=5)(h8:q.wh.length<=8)(hr:1<=room):uu q (bP rk ts q room):=by
 have d:=WC ts q h1;have g:=BQ rk (List.range q.src.xs.length) [];rw[QR]at g;refine⟨⟨by unfold bP; simp,λs m=>?_,λt f=>?_,d.1,?_⟩,λ_=>?_,?_⟩
 ·have j:s<2 ^ q.src.xs.length-1:=by unfold bP at m;simp_all
  have e:(bP rk ts q room).groups.getD s []=dE ((bH ts q s).take room):=by unfold bP;simp_all
  rw[e];obtain⟨⟨r,k⟩,u⟩:=Fb ts q s h8;refine⟨λp d x b=>?_,?_,?_⟩
  ·rw[Td d]at b
   cases b
  ·rw[k];obtain⟨n,rfl⟩:∃ n,room=n+1:=⟨room-1,by omega⟩
   exact⟨none,dE (r.take n),rfl,λx b=>by cases b⟩
  ·unfold dE
   grind
 ·exact NH (rk:=rk) (Q:=mX q.src.xs.length (bP rk ts q room).groups) (List.range q.src.xs.length) [] (λt f=>by cases f) (λi o=>.inl ⟨rfl,i,Q0.1 o,rfl⟩) t f
 ·show (iE ts q).ns.length<=800
  omega
 ·show 0<((List.range q.src.xs.length).foldl (λa (i:Nat)=>gI rk a (2 ^ i,0)) []).length
  obtain⟨n,l⟩:∃ n,q.src.xs.length=n+1:=⟨q.src.xs.length-1,by omega⟩;rw[l,List.range_succ_eq_map,QD];exact QH (adh rk _) (BQ rk _ _).1
 ·show ((List.range q.src.xs.length).foldl (λa (i:Nat)=>gI rk a (2 ^ i,0)) []).length<=64*(0+1)
  grind
