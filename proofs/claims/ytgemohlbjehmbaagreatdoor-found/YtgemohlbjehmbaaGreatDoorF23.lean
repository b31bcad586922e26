import Derived.Test.YtgemohlbjehmbaaGreatDoorF21
set_option linter.all false
set_option maxRecDepth 100000
set_option maxHeartbeats 16000000
namespace Go.Proofs.Zz
open Go.RowKit Go.Shelf
variable {w w':World} {a base base' g i k n sz:Nat} {Tl Tn e:TypeId} {u v v':Value} {xs:List Value} {ns nv:List ah} {ls:List (Value × List ah)} {F Ft:Nat->Prop} {t:aQ}
theorem BC(n:ah):n.list.length=7:=rfl
theorem vX:∀ (l:List ah) (i j:Nat) (v:Value) (n:ah),i<l.length->j<7->n.list=(l.getD i nz).list.set j v->(l.flatMap ah.list).set (i*7+j) v=(l.set i n).flatMap ah.list
 | [],i,_,_,_,h,_,_ => absurd h (by simp)
 | a::l,0,j,v,n,_,hj,e => by rw[ZF,Qc,ZF,Z7,QL,List.set_append_left _ _ (by grind [BC]),e];rfl
 | a::l,i+1,j,v,n,h,hj,e => by rw[ZF,Qb,ZF,List.set_append_right _ _ (by grind [BC]),BC,show (i+1)*7+j-7=i*7+j by omega,vX l i j v n (by simpa using h) hj e]
theorem DV(h:w.ownsRow base e sz v n xs)(hg:v.ownBlock=some g){j:Nat}(hj:j<n*sz)(u:Value):(w.setCell (aD g j) u).ownsRow base e sz v n (xs.set j u):=by
 refine⟨by rw[Xw]; exact h.1,?_⟩;rcases h.2 with⟨rfl,_⟩ | ⟨g',cap,cur,rfl,hb,hh,hn,hm,hs,ht⟩
 ·cases hg
 ·cases hg
  refine .inr ⟨g',cap,cur.setIfInBounds j u,rfl,hb,GB.set (show GB w g' e cur from hh) j u,hn,hm,by simp_all,?_⟩;grind [List.take_set]
theorem EF(h:w.ownsRow base e sz v n xs)(hg:v.ownBlock=some g)(j:Nat):w.frozen? (aD g j)=false:=by
 rcases h.2 with⟨rfl,_⟩ | ⟨g',cap,cur,rfl,hb,hh,_⟩
 ·cases hg
 ·cases hg
  exact Qz (show GB w g' e cur from hh) j
theorem Kb{w:World}{g j:Nat}(u:Value):Kept (λb=>b≠g) w (w.setCell (aD g j) u):=Zf _ _ _ (λh=>h rfl)
theorem MH{m:Nat}(h:w.ownsRow base e 7 v m (ns.flatMap ah.list))(hi:i<ns.length) :
  ∃ g cap,v=.slice (some (aD g 0)) m cap/\base<=g/\g<w.heap.size/\∀ j u,j<7->(ns.getD i nz).list[j]? = some u->w.cell? (aD g (i*7+j))=some u:=by
 have d:ns.length=m:=by have:=h.1; rw[lH ah.list 7 (λ_=>rfl)]at this; omega
 rcases iR h with⟨_,h1⟩ | ⟨g,cap,hv,hb,hlt,hc⟩
 ·omega
 ·exact⟨g,cap,hv,hb,hlt,λj u a b=>hc _ _ (by rw[ZE ah.list 7 (λ_=>rfl) nz ns i j hi a]; exact b)⟩
structure iq(Tn:TypeId)(F:Nat->Prop)(base:Nat)(w:World)(v:Value)(nv:List ah):Prop where
 own:w.ownsRow base Tn 7 v nv.length (nv.flatMap ah.list)
 blk:∀ g,v.ownBlock=some g->F g
 lists:∀ n∈nv,n.cl.At w/\qE F n.cl.ad n.cl.xs.length/\n.co.At w/\qE F n.co.ad n.co.xs.length/\n.co.xs.length<=n.co.cap
theorem iq.bI{Tn:TypeId}{F:Nat->Prop}{base:Nat}{w w':World}{v:Value}{nv:List ah}(h:iq Tn F base w v nv)(hk:Kept F w w'):iq Tn F base w' v nv:=
 ⟨Zi h.own hk h.blk,h.blk,λn g=>by
  obtain⟨d,a,e,b,f⟩:=h.lists n g;exact⟨ZH d hk a,a,ZH e hk b,b,f⟩⟩
theorem iq.below{Tn:TypeId}{F:Nat->Prop}{base:Nat}{w w':World}{v:Value}{nv:List ah}(h:iq Tn F base w v nv)(hb:Bw w w'):iq Tn F base w' v nv:=h.bI (Q7 hb λ_ h _=>h)
theorem iq.mono{Tn:TypeId}{F G:Nat->Prop}{base:Nat}{w:World}{v:Value}{nv:List ah}(h:iq Tn F base w v nv)(hs:∀ b,b<w.heap.size->F b->G b):iq Tn G base w v nv:=
 ⟨h.own,λg e=>hs g (Zj h.own e).2 (h.blk g e),λn k=>by
  obtain⟨a,f,d,i,j⟩:=h.lists n k;exact⟨a,qE.mono a.2 f hs,d,qE.mono d.2 i hs,j⟩⟩
def jZ(Tn:TypeId)(F:Nat->Prop)(w:World)(ns:List ah)(e:Ending)(w':World):Prop:=
 ∃ v nv,e=.returned v/\nv.map bL=ns/\iq Tn F w.heap.size w' v nv/\Bw w w'
def kL(a:Nat)(ns:List ah)(k:Nat):List ah:=(ns.take k).map (dB a)++ns.drop k
theorem MI(a:Nat)(ns:List ah)(k:Nat):(kL a ns k).length=ns.length:=by grind [kL]
theorem MJ(a:Nat)(hk:k<ns.length):(kL a ns k).getD k nz=ns.getD k nz:=by unfold kL;grind
theorem Kc(a:Nat)(hk:k<ns.length):kL a ns (k+1)=(kL a ns k).set k (dB a (ns.getD k nz)):=by
 unfold kL;have b:((ns.take k).map (dB a)).length=k:=by grind
 have d:ns.drop k=ns.getD k nz::ns.drop (k+1):=by simp_all
 rw[List.set_append_right _ _ (by omega),b,Xy,d,Qc,Xq ns nz hk,Qi,List.append_assoc];rfl
theorem acd{α:Type}(l:List α)(d:α)(hk:k<l.length):l.set k (l.getD k d)=l:=by simp_all
theorem Ke(a:Nat)(ns:List ah):kL a ns 0=ns:=by rfl
theorem MK(a:Nat)(ns:List ah):kL a ns ns.length=ns.map (dB a):=by grind [kL]
def Xx:=@Kb
theorem Sn(sb:Nat)(v0 v1 v2 v3 v4 v5 v6 v7 v8 v9 v10 v11 v12 gs bv pk:Value)(aa:Option Addr)(n ac:Nat)(ct:Bool)(st:Int)(w:World)(hg:GB w sb 97 #[v0,v1,v2,v3,v4,v5,v6,v7,v8,v9,v10,v11,v12,gs,.slice aa n ac,.bool ct,bv,pk,.int .i64 st]) :
  Calls Tryz.prog 60 #[.pointer (some (aD sb 0))] w λe w'=>(∃ v,e=.returned v)/\Kept (λb=>b≠sb) w w'/\GB w' sb 97 #[v0,v1,v2,v3,v4,v5,v6,v7,v8,v9,v10,v11,v12,gs,.slice aa n ac,.bool ct,bv,pk,.int .i64 (if 0<n then st else if ct=true then 3 else 2)]:=by
 have i:=hg.at 14;have j:=hg.at 15;have k:=hg.at 18;have l:=hg.frozen 18;have g:Hid (∀ x:Int,GB (w.setCell (aD sb 18) (.int .i64 x)) sb 97 #[v0,v1,v2,v3,v4,v5,v6,v7,v8,v9,v10,v11,v12,gs,.slice aa n ac,.bool ct,bv,pk,.int .i64 x]):=λx=>hg.set 18 (.int .i64 x);have m:=Zh hg;obtain⟨R,f⟩:∃ R,R=if 0<n then st else if ct=true then 3 else 2:=⟨_,rfl⟩;rw[<- f];have a:=Zh f;clear hg f;by_cases p:0<n
 ·have d:=Zh (a.o.trans (Qo p));clear a;go_enter Tryz.func60,Tryz.ntmps60;go_wp2;refine Xh (results_none rfl _ _ _) rfl ?_;exact⟨⟨_,rfl⟩,Q5 _ _,by rw[d.o]; exact m.o⟩
 ·obtain rfl:n=0:=by omega
  cases ct with
  | true =>
   have d:Hid (R=3):=a.o.trans (by simp);clear a;go_enter Tryz.func60,Tryz.ntmps60;go_wp2;go_end0;exact⟨⟨_,rfl⟩,Zf _ _ _ (λh=>h rfl),by rw[d.o]; exact g.o 3⟩
  | false =>
   have d:Hid (R=2):=a.o.trans (by simp);clear a;go_enter Tryz.func60,Tryz.ntmps60;go_wp2;go_end0;exact⟨⟨_,rfl⟩,Zf _ _ _ (λh=>h rfl),by rw[d.o]; exact g.o 2⟩
theorem Sq(sb:Nat)(pa:Option Addr)(n pc:Nat)(w:World)(hc:w.cell? (aD sb 17)=some (.slice pa n pc)) :
  Ce 19 #[.pointer (some (aD sb 0))] w (.int .i64 (n:Int)):=by go_enter Tryz.func19,Tryz.ntmps19;go_wp2;go_ret;exact⟨rfl,rfl⟩
theorem Tryz.FE:(Tryz.prog.info? 75).map (λi=>(i.zero,i.size,i.bytes))=some (some (.agg #[.int .i64 0,.int .i64 0,.int .i64 0,.int .i64 0,.slice none 0 0,.int .i64 0,.slice none 0 0]),7,88):=by kernel_rfl
theorem Jf:∀ u∈ns.flatMap ah.list,u.oneCell' = true:=by intro u b;obtain⟨n,_,a⟩:=Q3.1 b;unfold ah.list ai.val at a;simp at a;rcases a with rfl | rfl | rfl | rfl | rfl | rfl | rfl <;> rfl
theorem FH(v:Value)(base:Nat)(ns:List ah)(w:World)(hx:w.ownsRow base 75 7 v ns.length (ns.flatMap ah.list))(hl:ns.length<=1000) :
  Calls Tryz.prog 163 #[v] w λe w'=>∃ v,e=.returned v/\w'.ownsRow w.heap.size 75 7 v ns.length (ns.flatMap ah.list)/\Bw w w':=by
 obtain⟨r,k,b,d,f⟩:=Zv Tryz.FE;rcases iR hx with⟨rfl,h1⟩ | ⟨g,cap,rfl,hb,hlt,hc⟩
 ·have n:=Xt.1 h1;subst n;have a:∀ W,(binOp .eql 43 (.slice none 0 0) (.slice none 0 0)).run Tryz.prog W=.ok (.bool true) W:=λW=>Xj W 43 _ none _ _ _ _ Tryz.underlying43
  clear hx;go_enter Tryz.func163,Tryz.ntmps163;go_wp2;go_ret;exact⟨_,rfl,Zu _ _ _ _,Qm _ _⟩
 ·obtain⟨A,w',l,m,i,⟨s,t,y,rfl⟩⟩:=pE (P:=Tryz.prog) w 43 43 75 r _ 7 88 Tryz.underlying43 k b d f rfl (by decide) (aD g 0) ns.length cap (ns.flatMap ah.list) (lH ah.list 7 (λ_=>rfl) ns)
   (λj u z=>⟨g,0,rfl,by rw[QL]; exact hc j u z⟩) Jf (by omega) (by decide)
  have a:∀ W,(binOp .eql 43 (.slice (some (aD g 0)) ns.length cap) (.slice none 0 0)).run Tryz.prog W=.ok (.bool false) W:=λW=>Xj W 43 _ (some (aD g 0)) _ _ _ _ Tryz.underlying43;have p:Hid _:=m;have q:=Zh i;clear m i hx k b d f hc;go_enter Tryz.func163,Tryz.ntmps163;go_wp2_with (first | (at_builtin; refine Zt rfl (.tmp 5) (.tmp 6) 43 rfl (.slice (some (aD w.heap.size 0)) 0 0) (.slice (some (aD g 0)) ns.length cap) (.slice s t y) w' rfl rfl l ?_));clear l;go_wp2;go_ret;exact⟨_,rfl,p.o,q.o⟩
theorem Tz(v:Value)(base:Nat)(ns:List ah)(a:Nat)(w:World)(hx:w.ownsRow base 75 7 v ns.length (ns.flatMap ah.list))(hl:ns.length<=1000)(hs:dn w 0)(hk:∀ m∈ns,1<=m.kind/\m.kind<=10) :
  Calls Tryz.prog 140 #[v,.int .i64 (a:Int)] w λe w'=>∃ v,e=.returned v/\w'.ownsRow w.heap.size 75 7 v ns.length ((ns.map (dB a)).flatMap ah.list)/\Bw w w':=by
 have R5:=FH v base ns w hx hl;have HS:=Zh hs;have ae:Hid (∀ i,i<ns.length->1<=(ns.getD i nz).kind/\(ns.getD i nz).kind<=10):=λi hi=>hk _ (Zr hi);have V:=Zh (Ke a ns);have W:=Zh (MK a ns);have J:Hid (∀ k,k<ns.length->(kL a ns k).getD k nz=ns.getD k nz):=λk hk=>MJ a hk;have X:Hid (∀ k,k<ns.length->kL a ns (k+1)=(kL a ns k).set k (dB a (ns.getD k nz))):=λk hk=>Kc a hk;have D:=Zh (MI a ns);obtain⟨va,vn,vc,rfl⟩:=Zk hx;clear hx hs hk;obtain⟨y,Z⟩:∃ M,M=kL a ns:=⟨_,rfl⟩;rw[<- Z]at V W J X D;clear Z;generalize ns.map (dB a)=R at *;go_enter Tryz.func140,Tryz.ntmps140;go_wp2_with fail;refine R5.mono ?_;rintro e w1 ⟨v1,rfl,G,aa⟩;clear R5;have Ns:Hid (w1.ownsRow w.heap.size 75 7 v1 ns.length ((y 0).flatMap ah.list)):=by rw[V.o]; exact G
 have aj:=Zh aa;obtain⟨xa,xm,xc,rfl⟩:=Zk G;have af:xm=ns.length:=by
  rcases G.2 with⟨h,h1⟩ | ⟨g,c,cur,h,_⟩
  ·injection h with _ h _; omega
  ·injection h with _ h _
 subst af;clear G aa;go_wp2;go_loopw [12] (λiv wr=>∃ k:Nat,k<=ns.length/\iv=.int .i64 (k:Int)/\Hid (wr.ownsRow w.heap.size 75 7 (.slice xa ns.length xc) ns.length ((y k).flatMap ah.list))/\Hid (Bw w wr)) (λiv _=>ns.length-(intOf iv).toNat)
 case atStart=>grind
 case round=>
  obtain⟨k,hk,rfl,H,T⟩:=hrel;by_cases s:k<ns.length
  ·obtain⟨g,cap,hv,ay,az,d⟩:=MH H.o (i:=k) (by rw[D.o]; exact s);simp only[Value.slice.injEq]at hv;obtain⟨rfl,-,rfl⟩:=hv;rw[J.o k s]at d;obtain⟨P,I⟩:=ae.o k s;have S:=Zh (X.o k s);have u:=Zh (J.o k s);obtain⟨n,hn⟩:=eY (ns.getD k nz)
   rw[<- hn]at d P I S u;have c0:=d 0 _ (by omega) rfl;have c1:=d 1 _ (by omega) rfl;have c2:=d 2 _ (by omega) rfl;rw[ZG]at c0;have ak:=EF H.o (g:=g) rfl (k*7+1);obtain⟨kd,Q⟩:=ZV (show 0<=n.kind by omega);have hS:=(Xm T.o HS.o).get (k:=kd) (by omega);obtain⟨s0,-⟩:=hS;have K:=ru P;rw[Q]at K c0;rw[K,QL]at s0;have E:dB a n=⟨n.kind,if 1<=arity (kd:Int) then wrap64 (n.l+a) else n.l,if 2<=arity (kd:Int) then wrap64 (n.r+a) else n.r,n.source,n.cl,n.key,n.co⟩:=by unfold dB; rw[Q]
   have ag:arity (kd:Int)<=2:=by unfold arity; split <;> (try split) <;> omega
   generalize arity (kd:Int)=ar at *;have au:kd<=10:=by omega
   obtain⟨nk,q,t,A,B,p,C⟩:=n;simp only at *;clear d K hn Q P I
   match ar,ag with
   | 0,_ =>
    have L:Hid (y (k+1)=y k):=by
     show _=_;have e:dB a ⟨nk,q,t,A,B,p,C⟩=⟨nk,q,t,A,B,p,C⟩:=by rw[E]; simp
     rw[S.o,e];have:=acd (y k) nz (k:=k) (by rw[D.o]; exact s);rw[u.o]at this;exact this
    have F:Hid _:=H;rw[<- L.o]at F;clear E S u H;go_wp2;go_roundw
    case rel=>grind
    case measure=>simp[intOf]; omega
   | 1,_ =>
    obtain⟨U,z⟩:∃ x,wr.setCell (aD g (k*7+1)) (.int .i64 (wrap64 (q+a)))=x:=⟨_,rfl⟩;have L:Hid (y (k+1)=(y k).set k ⟨nk,wrap64 (q+a),t,A,B,p,C⟩):=by grind
    have f:=DV H.o (g:=g) rfl (j:=k*7+1) (by omega) (.int .i64 (wrap64 (q+a)));rw[vX (y k) k 1 (.int .i64 (wrap64 (q+a))) ⟨nk,wrap64 (q+a),t,A,B,p,C⟩ (by rw[D.o]; exact s) (by omega) (by rw[u.o]; rfl),<- L.o,z]at f;have F:Hid _:=f;have nH:Hid (Bw w U):=by show Below _ _ _;rw[<- z];exact T.o.trans ((Xx (g:=g) _).below T.o.size (λb hb=>by omega))
    clear E S u H f L;go_wp2;go_roundw
    case rel=>exact⟨k+1,by omega,by go_num,F.o,nH.o⟩
    case measure=>simp[intOf]; omega
   | 2,_ =>
    obtain⟨U,z⟩:∃ x,wr.setCell (aD g (k*7+1)) (.int .i64 (wrap64 (q+a)))=x:=⟨_,rfl⟩;obtain⟨w5,vU⟩:∃ x,U.setCell (aD g (k*7+2)) (.int .i64 (wrap64 (t+a)))=x:=⟨_,rfl⟩;have L:Hid (y (k+1)=((y k).set k ⟨nk,wrap64 (q+a),t,A,B,p,C⟩).set k ⟨nk,wrap64 (q+a),wrap64 (t+a),A,B,p,C⟩):=by
     show _=_;have e:dB a ⟨nk,q,t,A,B,p,C⟩=⟨nk,wrap64 (q+a),wrap64 (t+a),A,B,p,C⟩:=by rw[E]; simp
     rw[S.o,e,List.set_set]
    have f:=DV H.o (g:=g) rfl (j:=k*7+1) (by omega) (.int .i64 (wrap64 (q+a)));have N:k<(y k).length:=by rw[D.o]; exact s
    rw[vX (y k) k 1 (.int .i64 (wrap64 (q+a))) ⟨nk,wrap64 (q+a),t,A,B,p,C⟩ N (by omega) (by rw[u.o]; rfl),z]at f;have Y:((y k).set k ⟨nk,wrap64 (q+a),t,A,B,p,C⟩).getD k nz=⟨nk,wrap64 (q+a),t,A,B,p,C⟩:=by grind
    have O:=DV f (g:=g) rfl (j:=k*7+2) (by omega) (.int .i64 (wrap64 (t+a)));rw[vX _ k 2 (.int .i64 (wrap64 (t+a))) ⟨nk,wrap64 (q+a),wrap64 (t+a),A,B,p,C⟩ (by rw[Xw]; exact N) (by omega) (by rw[Y]; rfl),<- L.o,vU]at O;have av:U.cell? (aD g (k*7+2))=some (.int .i64 t):=by rw[<- z];exact(World.cell?_setCell_other _ _ _ _ (by simp)).trans c2
    have ax:U.frozen? (aD g (k*7+2))=false:=EF f (g:=g) rfl _;have F:Hid _:=O;have jl:Hid (Bw w w5):=by
     show Below _ _ _;have h4:Bw w U:=by rw[<- z];exact T.o.trans ((Xx (g:=g) _).below T.o.size (λb hb=>by omega))
     rw[<- vU];exact h4.trans ((Xx (g:=g) _).below h4.size (λb hb=>by omega))
    clear E S u H f O L Y N;go_wp2;go_roundw
    case rel=>exact⟨k+1,by omega,by go_num,F.o,jl.o⟩
    case measure=>simp[intOf]; omega
  ·have ai:ns.length=k:=by omega
   have HF:Hid _:=H;rw[<- ai,W.o]at HF;go_wp2;go_ret;exact⟨_,rfl,HF.o,T.o⟩
theorem Cc(ls:List (List ah)):(iH ls).map bL=iH (ls.map λl=>l.map bL):=by
 unfold iH
 suffices h:∀ (ls:List (List ah)) (acc:List ah),(ls.foldl (λacc l=>acc++l.map (dB acc.length)) acc).map bL=(ls.map λl=>l.map bL).foldl (λacc l=>acc++l.map (dB acc.length)) (acc.map bL) from h ls []
 intro ls
 induction ls with
 | nil => intro acc; rfl
 | cons l ls ih =>
  intro acc;rw[QD,ih,List.map_cons,QD,Qi,Xu,Xu,QQ];rfl
theorem YY(ls:List (List ah))(hi:i<ls.length):iH (ls.take (i+1))=iH (ls.take i)++(ls.getD i []).map (dB (iH (ls.take i)).length):=by rw[Xq ls [] hi,Wy]
theorem adN{ls:List (List ah)}:∀ m∈iH ls,∃ l∈ls,∃ x∈l,m.cl=x.cl/\m.co=x.co:=by
 suffices h:∀ (ls:List (List ah)) (acc:List ah),∀ m∈ls.foldl (λacc l=>acc++l.map (dB acc.length)) acc,m∈acc∨∃ l∈ls,∃ x∈l,m.cl=x.cl/\m.co=x.co by
  intro m b;rcases h ls [] m b with h | h
  ·cases h
  ·exact h
 intro ls
 induction ls with
 | nil => intro acc m h; exact .inl h
 | cons l ls ih =>
  intro acc m h;rcases ih _ m h with h | ⟨d,e,f⟩
  ·rcases ZK.1 h with h | h
   ·exact .inl h
   ·obtain⟨x,a,rfl⟩:=QZ.1 h;exact .inr ⟨l,ZJ,x,a,rfl,rfl⟩
  grind
theorem Ic(ls:List (List ah))(h2:ls.length<=2)(i:Nat):(iH (ls.take i)).length<=(iH ls).length:=by rw[Eu _ (by rw[ZZ]; omega),Eu _ h2];grind
theorem Ar(h:w.ownsRow base e sz v n xs)(hb:base'<=base):w.ownsRow base' e sz v n xs:=
 ⟨h.1,h.2.imp id λ⟨g,cap,cur,e,h1,h2⟩=>⟨g,cap,cur,e,Q6 hb h1,h2⟩⟩
def FI(w:World)(ao:Option Addr)(vs:List Value):Prop:=bT w ao vs.length (λi=>vs.getD i (.slice none 0 0))
theorem TA(W:World)(base aqI:Nat)(v v2:Value)(acc ms:List ah)(hown:W.ownsRow base 75 7 v acc.length (acc.flatMap ah.list))(h2:W.ownsRow aqI 75 7 v2 ms.length (ms.flatMap ah.list))(hl:acc.length+ms.length<=1000)(hb:base<=W.heap.size)(ty:TypeId) :
  ∃ d w',(Builtin.append_ #[43,43] ty #[v,v2]).run Tryz.prog W=.ok d w'/\
   w'.ownsRow base 75 7 d (acc++ms).length ((acc++ms).flatMap ah.list)/\Kept (λb=>v.ownBlock≠some b) W w'/\(∃ a m c,d = .slice a m c):=by
 obtain⟨n,o,f,i,k⟩:=Zv Tryz.FE;rcases iR h2 with⟨rfl,h1⟩ | ⟨g,cap,rfl,_,hlt,hc⟩
 ·have p:=Xt.1 h1;subst p;refine⟨v,W,run_append_owned_none (P:=Tryz.prog) (w:=W) base 43 ty 75 n 7 Tryz.underlying43 o v acc.length _ hown,by rw[Xb]; exact hown,Q5 _ _,Zk hown⟩
 ·obtain⟨d,w',l,q,s,_,_⟩:=Zw (P:=Tryz.prog) W base 43 ty 75 n _ 7 88 Tryz.underlying43 o f i k rfl (by decide) v acc.length _ hown (aD g 0) ms.length cap (ms.flatMap ah.list) (lH ah.list 7 (λ_=>rfl) ms)
   (λj u t=>by rw[Qx,QL]; exact hc j u t) Jf (by unfold maxLen; omega) (by omega) hb
  exact⟨d,w',l,by grind,Zg s (λr e l=>l e),Zk q⟩
theorem Cf(W:World)(base:Nat)(v:Value)(acc:List ah)(hown:W.ownsRow base 75 7 v acc.length (acc.flatMap ah.list))(hl:acc.length<=1000)(hb:base<=W.heap.size)(n:ah)(ty:TypeId) :
  ∃ d w',(Builtin.append_ #[43,43] ty #[v,.slice (some (aD W.heap.size 0)) 1 1]).run Tryz.prog (W.alloc (.cells n.cells 75))=.ok d w'/\
   w'.ownsRow base 75 7 d (acc++[n]).length ((acc++[n]).flatMap ah.list)/\Kept (λb=>v.ownBlock≠some b) W w'/\(∃ a m c,d = .slice a m c):=by
 obtain⟨j,k,e,f,g⟩:=Zv Tryz.FE;obtain⟨d,w',l,r,o,p,q⟩:=jX (P:=Tryz.prog) W base 43 ty 75 j _ 7 88 Tryz.underlying43 k e f g rfl (by decide) v acc.length _ hown hb n.list rfl (λu i=>by
  unfold ah.list ai.val at i;simp at i;rcases i with rfl | rfl | rfl | rfl | rfl | rfl | rfl <;> rfl) hl (by decide)
 exact⟨d,w',l,by grind,o,p⟩
theorem adO(hF:∀ b,w.heap.size<=b->F b)(hs:dn w 0)(n:ah)(hcl:n.cl.At w)(hcn:n.cl.ad=none->n.cl.cap=0)(hco:n.co.At w)(hdn:n.co.ad=none->n.co.cap=0)(hll:n.cl.xs.length<=1000/\n.co.xs.length<=1000)
  (io:Option Addr) (ic:Nat) (ls:List (Value × List ah)) (GM:FI w io (ls.map Prod.fst)) (hls:∀ x∈ls,(∃ base,iq 75 F base w x.1 x.2)/\∀ m∈x.2,1<=m.kind/\m.kind<=10) (h2:ls.length<=2) (hlen:(iH (ls.map Prod.snd)).length<=900) :
  Calls Tryz.prog 99 #[.agg n.cells,.slice io ls.length ic] w (jZ 75 F w (sM n (ls.map λx=>x.2.map bL))):=by
 obtain⟨H,au⟩:=eY (ls.map Prod.snd);have aO:H.length=ls.length:=by rw[au,QQ]
 obtain⟨q,av⟩:∃ q:Nat->List ah,q=λi=>iH (H.take i):=⟨_,rfl⟩;have aP:Hid (q 0=[]):=by rw[av]; rfl
 have aQ:Hid (∀ i,i<ls.length->q (i+1)=q i++(H.getD i []).map (dB (q i).length)):=λi hi=>by rw[av]; exact YY H (by omega)
 have aa:Hid (∀ i,(q i).length<=900):=λi=>by rw[av]; exact Q6 (Ic H (by omega) i) (by rw[au]; exact hlen)
 have aR:Hid (∀ i,i<ls.length->∃ base,(w.ownsRow base 75 7 ((ls.map Prod.fst).getD i (.slice none 0 0)) (H.getD i []).length ((H.getD i []).flatMap ah.list))/\∀ m∈H.getD i [],1<=m.kind/\m.kind<=10):=λi hi=>by
  have W:(ls.map Prod.fst).getD i (.slice none 0 0)=(ls[i]).1:=by grind
  have e2:H.getD i []=(ls[i]).2:=by grind
  obtain⟨⟨base,a⟩,hk⟩:=hls _ (ZQ hi);rw[W,e2];exact⟨base,a.own,hk⟩
 have mR:Hid (∀ (x:World) (v:Value) (y z:ai),Bw w x->x.ownsRow w.heap.size 75 7 v (q ls.length++[(⟨n.kind,uL H 0,uL H 1,n.source,y,n.key,z⟩:ah)]).length ((q ls.length++[(⟨n.kind,uL H 0,uL H 1,n.source,y,n.key,z⟩:ah)]).flatMap ah.list)->y.xs=n.cl.xs->z.xs=n.co.xs->IntsIn F x y->IntsIn F x z->
   jZ 75 F w (sM n (ls.map λx=>x.2.map bL)) (.returned v) x):=by
  intro x v y z bJ hv hy hz J G;have aS:q ls.length=iH H:=by grind
  refine⟨v,_,rfl,?_,⟨hv,λg Z=>hF g (Zj hv Z).1,λm hm=>?_⟩,bJ⟩
  ·rw[Qi,aS,Cc];unfold sM;have W:(H.map λl=>l.map bL)=ls.map λx=>x.2.map bL:=by rw[au,Xu]; rfl
   have e2:∀ i,uL H i=uL (ls.map λx=>x.2.map bL) i:=λi=>by unfold uL;rw[<- W,QQ,<- List.map_take,<- Cc,QQ]
   rw[W];congr 1;rw[List.map_singleton];show [(⟨n.kind,uL H 0,uL H 1,n.source,⟨none,0,y.xs⟩,n.key,⟨none,0,z.xs⟩⟩:ah)]=_;rw[hy,hz,e2,e2]
  ·rcases ZK.1 hm with hm | hm
   ·rw[aS]at hm;obtain⟨l,hl,u,hu,W,e2⟩:=adN m hm;rw[au]at hl;obtain⟨x0,bW,rfl⟩:=QZ.1 hl;obtain⟨⟨base,a⟩,_⟩:=hls x0 bW;obtain⟨h1,h2,h3,h4,h5⟩:=(a.below bJ).lists u hu
    grind
   ·rw[Zy]at hm;rw[hm];exact⟨J.at',J.inf,G.at',G.inf,G.cap⟩
 have BG:Hid (∀ j,j<2->uL H j=if j<ls.length then ((q (j+1)).length:Int)-1 else 0):=λj _=>by unfold uL; rw[av,aO]
 have UL:=hd GM;have bK:=hd hs;have aT:Hid ((ls.map Prod.fst).length=ls.length):=QQ _;have BH:Hid (∀ x,Bw w x->Calls Tryz.prog 47 #[n.cl.val] x λe w'=>∃ v,e=.returned v/\w'.ownsRow x.heap.size 3 1 v n.cl.xs.length (n.cl.xs.map (Value.int .i64))/\Bw x w'):=λx hx=>qZ n.cl x (Ql hx hcl) hcn (by omega);have zJ:Hid (∀ x,Bw w x->Calls Tryz.prog 47 #[n.co.val] x λe w'=>∃ v,e=.returned v/\w'.ownsRow x.heap.size 3 1 v n.co.xs.length (n.co.xs.map (Value.int .i64))/\Bw x w'):=λx hx=>qZ n.co x (Ql hx hco) hdn (by omega);have WU:=Zh hll;have zT:=Zh hF;clear hlen hls GM hs hcl hcn hco hdn hll av aO au hF;generalize sM n (ls.map λx=>x.2.map bL)=R at *;generalize ls.map Prod.fst=vs at *;generalize ls.length=sl at *;clear ls;obtain⟨kind,nl,nr,src,⟨ca,cc,cl⟩,key,⟨da,dc,co⟩⟩:=n;simp only[ah.cells,ai.val]at *;obtain⟨Y,bA,bB,ae⟩:=bn w #[.int .i64 kind,.int .i64 nl,.int .i64 nr,.int .i64 src,.slice ca cl.length cc,.int .i64 key,.slice da co.length dc] 75;obtain⟨Q,bC,aL,ag⟩:=bn Y #[.int .i64 0,.int .i64 0] 210;have uk:=Zh (ae.of (aL.block _ ae.lt));have bM:=hd ag;have aU:=Zh (aF bB aL);have rJ:Hid (Y.heap.size=w.heap.size+1):=by show _=_; rw[<- bA]; simp
 have aV:Hid (Q.heap.size=w.heap.size+2):=by show _=_; rw[<- bC]; simp; exact rJ.o
 clear bB aL ae ag;go_enter Tryz.func99,Tryz.ntmps99;go_wp2;clear bA bC;go_loopw [5,11] (λnv iv wr=>∃ k:Nat,k<=sl/\iv=.int .i64 (k:Int)/\Hid (wr.ownsRow Q.heap.size 75 7 nv (q k).length ((q k).flatMap ah.list))/\Hid (GB wr w.heap.size 75 #[.int .i64 kind,.int .i64 nl,.int .i64 nr,.int .i64 src,.slice ca cl.length cc,.int .i64 key,.slice da co.length dc])/\
   Hid (GB wr Y.heap.size 210 #[.int .i64 (if 0<k then ((q 1).length:Int)-1 else 0),.int .i64 (if 1<k then ((q 2).length:Int)-1 else 0)])/\Hid (Bw w wr)/\Hid (Q.heap.size<=wr.heap.size)) (λ_ iv _=>sl-(intOf iv).toNat)
 case atStart=>exact⟨0,QK _,rfl,by rw[aP.o]; exact Zu _ _ _ _,uk.o,bM.o,aU.o,Qn _⟩
 case round=>
  obtain⟨k,hk,rfl,HO,vG,uY,HB,uG⟩:=hrel;obtain⟨xa,xm,xc,rfl⟩:=Zk HO.o;have bN:xm=(q k).length:=by
   rcases HO.o.2 with⟨h,h1⟩ | ⟨g,c,cur,h,_⟩
   ·injection h with _ h _; omega
   ·injection h with _ h _
  subst bN;by_cases aA:k<sl
  ·obtain⟨bb,RG,bX,bD⟩:=Qf (bT.below HB.o UL.o) (i:=k) (by rw[aT.o]; exact aA);subst bX;have aW:=bD k (by rw[aT.o]; exact aA);obtain⟨base,T,aM⟩:=aR.o k aA;have MX:=Zh (aQ.o k aA);have aH:=aa.o (k+1);have bO:=aa.o k;rw[MX.o,QP,QQ]at aH;obtain⟨L,hL⟩:=eY (H.getD k [])
   obtain⟨lv,aN⟩:∃ L,L=vs.getD k (.slice none 0 0):=⟨_,rfl⟩;rw[<- hL,<- aN]at T;rw[<- hL]at aM MX aH;rw[<- aN]at aW;have aX:=Tz lv base L (q k).length wr (Zi T (Q7 (s:=λb=>b<w.heap.size) HB.o (λb _ h=>h)) (λg Z=>(Zj T Z).2)) (by omega) (Xm HB.o bK.o) aM;obtain⟨la,lm,lc,rfl⟩:=Zk T;have bP:L.length=(L.map (dB (q k).length)).length:=by rw[QQ]
   clear bD T aM hL aN;go_wp2_with fail;refine aX.mono ?_;rintro e w3 ⟨v3,rfl,aG,ax⟩;clear aX;have aY:=Zi HO.o (Q7 (s:=λb=>b<wr.heap.size) ax (λb _ h=>h)) (λg Z=>(Zj HO.o Z).2);rw[bP]at aG;obtain⟨v4,w4,bE,BI,bF,⟨M,ym,N,rfl⟩⟩:=TA w3 Q.heap.size wr.heap.size (.slice xa (q k).length xc) v3 (q k) (L.map (dB (q k).length)) aY aG (by rw[QQ]; omega) (Q6 uG.o ax.size) 43;rw[<- MX.o]at BI;have bQ:ym=(q (k+1)).length:=by
    rcases BI.2 with⟨h,h1⟩ | ⟨g,c,cur,h,_⟩
    ·injection h with _ h _; omega
    ·injection h with _ h _
   subst bQ;obtain⟨ta,tm,tc,rfl⟩:=Zk aG;have aZ:∀ b,b<Q.heap.size->(Value.slice xa (q k).length xc).ownBlock≠some b:=λb r e=>by have:=(Zj HO.o e).1; omega
   have Cg:=bF.below (Q6 uG.o ax.size) aZ;have af:=(ax.mono uG.o).trans Cg;have bf:w.heap.size<Q.heap.size/\Y.heap.size<Q.heap.size:=by have:=rJ.o; have:=aV.o; omega
   have ae:=vG.o.of (af.block _ bf.1);have ag:=uY.o.of (af.block _ bf.2);have cz:Hid _:=BI;have bR:=hd ae;have aB:=hd ag;have nH:=Zh (HB.o.trans (af.mono aU.o.size));have bS:=Zh (Q6 uG.o af.size);have bg:=λj=>Qz aB.o j;have cK:=aa.o (k+1);have bq:k<2:=by omega
   have bZ:wrap64 (((q (k+1)).length:Int)-1)=((q (k+1)).length:Int)-1:=by unfold wrap64; omega
   obtain⟨P,vU⟩:∃ x,w4.setCell (aD Y.heap.size k) (.int .i64 (((q (k+1)).length:Int)-1))=x:=⟨_,rfl⟩;have xY:Hid (P.ownsRow Q.heap.size 75 7 (.slice M (q (k+1)).length N) (q (k+1)).length ((q (k+1)).flatMap ah.list)):=by rw[<- vU];exact Zi BI (Xx (g:=Y.heap.size) _) (λg Z=>by have:=(Zj BI Z).1; omega)
   have Hy:Hid (GB P w.heap.size 75 #[.int .i64 kind,.int .i64 nl,.int .i64 nr,.int .i64 src,.slice ca cl.length cc,.int .i64 key,.slice da co.length dc]):=by rw[<- vU];exact Zp bR.o (Xx (g:=Y.heap.size) _) (by have:=rJ.o; omega)
   have bU:Hid (GB P Y.heap.size 210 #[.int .i64 (if 0<k+1 then ((q 1).length:Int)-1 else 0),.int .i64 (if 1<k+1 then ((q 2).length:Int)-1 else 0)]):=by
    show GB _ _ _ _;have:=GB.set aB.o k (.int .i64 (((q (k+1)).length:Int)-1));rw[<- vU]
    match k,bq,this with
    | 0,_,h => exact h
    | 1,_,h => exact h
   have E:Hid (Bw w P):=by show Below _ _ _;rw[<- vU];exact nH.o.trans ((Xx (g:=Y.heap.size) _).below nH.o.size (λb r=>by have:=rJ.o; omega))
   have aj:Hid (Q.heap.size<=P.heap.size):=by show _<=_; rw[<- vU]; simpa using bS.o
   have bu:∃ u,w4.cell? (aD Y.heap.size k)=some u:=by
    match k,bq with
    | 0,_ => exact⟨_,aB.o.cell 0⟩
    | 1,_ => exact⟨_,aB.o.cell 1⟩
   obtain⟨cu,bu⟩:=bu;have cO:=bg k;clear Cg af ae ag BI bF aG aY aZ ax bg HO vG uY MX bO aH;go_wp2_with (first | (at_builtin; refine Zt rfl (.tmp 16) (.tmp 20) 43 rfl (.slice xa (q k).length xc) (.slice ta tm tc) (.slice M (q (k+1)).length N) w4 rfl rfl bE ?_));clear bE aW;go_wp2;go_roundw
   case rel=>exact⟨k+1,by omega,by go_num,xY.o,Hy.o,bU.o,E.o,aj.o⟩
   case measure=>simp[intOf]; omega
  ·have bV:sl=k:=by omega
   subst bV;have h0:(if 0<sl then ((q 1).length:Int)-1 else 0)=uL H 0:=(BG.o 0 (by omega)).symm;have h1:(if 1<sl then ((q 2).length:Int)-1 else 0)=uL H 1:=(BG.o 1 (by omega)).symm;rw[h0,h1]at uY;obtain⟨e0,bG⟩:∃ e,e=uL H 0:=⟨_,rfl⟩;obtain⟨W,bH⟩:∃ e,e=uL H 1:=⟨_,rfl⟩;rw[<- bG,<- bH]at uY mR;obtain⟨w3,bY⟩:∃ x,x=wr:=⟨_,rfl⟩;subst bY;clear h0 h1 bG bH BG aR aQ aA hk aP;have X:Hid (w.heap.size<Q.heap.size/\Y.heap.size<Q.heap.size/\w.heap.size<Y.heap.size):=by have:=rJ.o; have:=aV.o; show _/\_; omega
   have bz:Y.heap.size≠w.heap.size:=by have:=X.o; omega
   obtain⟨z0,z1⟩:=uY.o.k2;have aI:=vG.o.of (((Qm w3.heap.size w3).drew).block _ vG.o.lt);have d1:=aI.at 1;have f1:=aI.frozen 1;have aC:=vG.o.set 1 (.int .i64 e0);have ak:=aC.of (((Qm _ _).drew).block _ aC.lt);have d2:(w3.setCell (aD w.heap.size 1) (.int .i64 e0)).drew.cell? (aD w.heap.size 2)=some (.int .i64 nr):=ak.cell 2;have f2:=ak.frozen 2;have aJ:=aC.set 2 (.int .i64 W);have aK:=aJ.of (((Qm _ _).drew).block _ aJ.lt);obtain⟨P,vU⟩:∃ x,((w3.setCell (aD w.heap.size 1) (.int .i64 e0)).setCell (aD w.heap.size 2) (.int .i64 W)).drew=x:=⟨_,rfl⟩;rw[vU]at aK;have Hy:=hd aK;have YZ:Kept (λb=>b≠w.heap.size) w3 P:=by rw[<- vU];exact((Xx (g:=w.heap.size) _).trans (Xx (g:=w.heap.size) _)).trans (Q7 ((Qm _ _).drew) (λ_ hl _=>hl))
   have xY:=Zh (Zi HO.o YZ (λg Z=>by have:=(Zj HO.o Z).1; have:=X.o; omega));have E:=Zh (HB.o.trans (YZ.below HB.o.size (λb r=>by have:=X.o; omega)));have aj:=Zh (Q6 uG.o YZ.size);clear aC ak aJ aK aI;go_wp2_with fail;refine QC (S:=λx=>Kept (λb=>b≠w.heap.size) w3 x) (by kernel_rfl) (Q7 ((Qm w3.heap.size w3).drew) (λ_ hl _=>hl)) (λp=>?_);refine wt 0 (.pointer (some (aD Y.heap.size 0))) p ?_;refine wT 1 (.int .i64 e0) p (λx hx=>?_) ?_
   ·have e0:=Ze z0 hx bz;go_simp
   refine wt 2 (.pointer (some (aD Y.heap.size 1))) p ?_;refine wT 3 (.int .i64 W) p (λx hx=>?_) ?_
   ·have e0:=Ze z1 hx bz;go_simp
   refine wt 4 (.pointer (some (aD w.heap.size 1))) p ?_;refine wR 5 λK a=>?_;go_simp;refine a.o _ _ (p.trans (Zf _ _ _ (λh=>h rfl))) (λp=>?_);clear a K;refine wt 6 (.pointer (some (aD w.heap.size 2))) p ?_;refine wR 7 λK a=>?_;go_simp;refine a.o _ _ YZ λp=>?_;clear a K;refine wD ?_;try simp only[pU]
   try rw[vU]
   clear YZ;have n4:=Hy.o.at 4;have n6:=Hy.o.at 6;clear p z0 z1 d1 d2 f1 f2 vU HO vG uY HB uG;go_wp2_with fail;refine QC (S:=λx=>Kept (λb=>b≠w.heap.size) P x) (by kernel_rfl) (Q7 ((Qm P.heap.size P).drew) (λ_ hl _=>hl)) (λp=>?_);refine wt 0 (.pointer (some (aD w.heap.size 4))) p ?_;refine wt 3 (.pointer (some (aD w.heap.size 6))) p ?_;have f:=(Qm P.heap.size P).drew;refine wJ 1 4 (λK a=>?_) λK a=>?_
   ·skip;have lo:=cB f n4;go_simp;refine a.o _ _ p λp=>?_
    clear a K lo;refine wJ 2 4 (λK a=>?_) λK a=>?_
    ·skip;go_simp;refine Z5 (BH.o _ (E.o.trans (f.mono E.o.size))) ?_;rintro e wA ⟨vv,rfl,O,D⟩;obtain⟨ay,U,t,Au⟩:=sZ (F:=λb=>F b/\P.heap.size<=b) O (by have:=WU.o; omega) (λb r=>⟨zT.o b (Q6 E.o.size (Q6 f.size r)),Q6 f.size r⟩);obtain⟨M,N,yx⟩:=ay;simp only[ai.val]at U t;subst U;have t:=t.symm;subst t;have f:=f.trans (D.mono f.size);refine a.o _ _ (Q7 f (λb r _=>r)) (λp=>?_);clear a K;refine wR 4 λK a=>?_
     have lo:=cB f n6;go_simp;refine a.o _ _ p λp=>?_;clear a K lo;refine wt 6 (.pointer (some (aD w.heap.size 4))) p ?_;refine wR 5 λK a=>?_;go_simp;refine Z5 (zJ.o _ (E.o.trans (f.mono E.o.size))) ?_;rintro e wB ⟨vv,rfl,O,D⟩;obtain⟨az,U,A,Oh⟩:=sZ (F:=λb=>F b/\P.heap.size<=b) O (by have:=WU.o; omega) (λb r=>⟨zT.o b (Q6 E.o.size (Q6 f.size r)),Q6 f.size r⟩);obtain⟨V,zc,zx⟩:=az;simp only[ai.val]at U A;subst U;have A:=A.symm;subst A;have f:=f.trans (D.mono f.size);have Au:=Au.below D;refine a.o _ _ (Q7 f (λb r _=>r)) (λp=>?_);clear a K;have B:GB wB w.heap.size 75 #[.int .i64 kind,.int .i64 e0,.int .i64 W,.int .i64 src,.slice ca cl.length cc,.int .i64 key,.slice da co.length dc]:=Hy.o.of (f.block _ Hy.o.lt);have m4:=B.at 4;have f4:=B.frozen 4;have U1:=B.set 4 (.slice M cl.length N);have m6:(wB.setCell (aD w.heap.size 4) (.slice M cl.length N)).cell? (aD w.heap.size 6)=some (.slice da co.length dc):=U1.cell 6;have f6:=U1.frozen 6;have TC:=U1.set 6 (.slice V co.length zc);refine wR 7 λK a=>?_;go_simp;refine a.o _ _ (p.trans (Xx (g:=w.heap.size) (j:=4) (.slice M cl.length N))) (λp=>?_);clear a K;refine wt 8 (.pointer (some (aD w.heap.size 6))) p ?_;refine wR 9 λK a=>?_;go_simp;refine a.o _ _ (p.trans (Xx (g:=w.heap.size) (j:=6) (.slice V co.length zc))) (λp=>?_);clear a K;refine wD ?_;try simp only[pU]
     obtain⟨w6,mE⟩:∃ x,(wB.setCell (aD w.heap.size 4) (.slice M cl.length N)).setCell (aD w.heap.size 6) (.slice V co.length zc)=x:=⟨_,rfl⟩;rw[mE]at TC ⊢;have C:Kept (λb=>b≠w.heap.size) wB w6:=by rw[<- mE];exact(Xx (g:=w.heap.size) _).trans (Xx (g:=w.heap.size) _)
     have tT:=(Q7 f (λb r _=>r)).trans C;have Yh:=Zi xY.o tT (λg Z=>by have:=(Zj xY.o Z).1; have:=X.o; omega);have I:=E.o.trans (tT.below E.o.size (λb r=>by have:=X.o; omega));obtain⟨v7,w7,rM,nK,gV,⟨qa,qm,qc,rfl⟩⟩:=Cf w6 Q.heap.size (.slice xa (q sl).length xc) (q sl) Yh (by have:=aa.o sl; omega) (Q6 aj.o tT.size) ⟨kind,e0,W,src,⟨M,N,cl⟩,key,⟨V,zc,co⟩⟩ 43;simp only[ah.cells,ai.val]at rM;have N7:=Hy.o.lt;have d:∀ b,(Value.slice xa (q sl).length xc).ownBlock=some b->Q.heap.size<=b/\b<P.heap.size:=λb e=>Zj xY.o e;have J:=((Au.bI (C.mono λb _ h=>by have:=h.2; omega)).bI (gV.mono λb _ h e=>by have:=(d b e).2; have:=h.2; omega)).mono λb _ h=>h.1;have G:=((Oh.bI (C.mono λb _ h=>by have:=h.2; omega)).bI (gV.mono λb _ h e=>by have:=(d b e).2; have:=h.2; omega)).mono λb _ h=>h.1;have jD:=I.trans (gV.below I.size (λb r e=>by have:=(d b e).1; have:=X.o; omega));have HF:Hid _:=mR.o w7 (.slice qa qm qc) ⟨M,N,cl⟩ ⟨V,zc,co⟩ jD (Ar nK (by have:=X.o; omega)) rfl rfl J G;obtain⟨t0,t1,t2,t3,t4,t5,t6⟩:=TC.k7;clear B U1 TC C tT Yh I nK gV N7 d J G jD Au Oh p f m4 m6 f4 f6 mE;go_wp2_with (first | (at_builtin; refine Zt rfl (.tmp 42) (.tmp 44) 43 rfl (.slice xa (q sl).length xc) (.slice (some (aD w6.heap.size 0)) 1 1) (.slice qa qm qc) w7 rfl rfl rM ?_));clear rM;go_wp2;go_ret;exact HF.o
    ·skip;have lo:=cB f n6;go_simp;refine a.o _ _ p λp=>?_
     clear a K lo;refine wR 2 λK a=>?_;go_simp;refine Z5 (BH.o _ (E.o.trans (f.mono E.o.size))) ?_;rintro e wA ⟨vv,rfl,O,D⟩;obtain⟨ay,U,t,Au⟩:=sZ (F:=λb=>F b/\P.heap.size<=b) O (by have:=WU.o; omega) (λb r=>⟨zT.o b (Q6 E.o.size (Q6 f.size r)),Q6 f.size r⟩);obtain⟨M,N,yx⟩:=ay;simp only[ai.val]at U t;subst U;have t:=t.symm;subst t;have f:=f.trans (D.mono f.size);refine a.o _ _ (Q7 f (λb r _=>r)) (λp=>?_);clear a K;refine wt 6 (.pointer (some (aD w.heap.size 4))) p ?_;refine wR 5 λK a=>?_;go_simp;refine Z5 (zJ.o _ (E.o.trans (f.mono E.o.size))) ?_;rintro e wB ⟨vv,rfl,O,D⟩;obtain⟨az,U,A,Oh⟩:=sZ (F:=λb=>F b/\P.heap.size<=b) O (by have:=WU.o; omega) (λb r=>⟨zT.o b (Q6 E.o.size (Q6 f.size r)),Q6 f.size r⟩);obtain⟨V,zc,zx⟩:=az;simp only[ai.val]at U A;subst U;have A:=A.symm;subst A;have f:=f.trans (D.mono f.size);have Au:=Au.below D;refine a.o _ _ (Q7 f (λb r _=>r)) (λp=>?_);clear a K;have B:GB wB w.heap.size 75 #[.int .i64 kind,.int .i64 e0,.int .i64 W,.int .i64 src,.slice ca cl.length cc,.int .i64 key,.slice da co.length dc]:=Hy.o.of (f.block _ Hy.o.lt);have m4:=B.at 4;have f4:=B.frozen 4;have U1:=B.set 4 (.slice M cl.length N);have m6:(wB.setCell (aD w.heap.size 4) (.slice M cl.length N)).cell? (aD w.heap.size 6)=some (.slice da co.length dc):=U1.cell 6;have f6:=U1.frozen 6;have TC:=U1.set 6 (.slice V co.length zc);refine wR 7 λK a=>?_;go_simp;refine a.o _ _ (p.trans (Xx (g:=w.heap.size) (j:=4) (.slice M cl.length N))) (λp=>?_);clear a K;refine wt 8 (.pointer (some (aD w.heap.size 6))) p ?_;refine wR 9 λK a=>?_;go_simp;refine a.o _ _ (p.trans (Xx (g:=w.heap.size) (j:=6) (.slice V co.length zc))) (λp=>?_);clear a K;refine wD ?_;try simp only[pU]
     obtain⟨w6,mE⟩:∃ x,(wB.setCell (aD w.heap.size 4) (.slice M cl.length N)).setCell (aD w.heap.size 6) (.slice V co.length zc)=x:=⟨_,rfl⟩;rw[mE]at TC ⊢;have C:Kept (λb=>b≠w.heap.size) wB w6:=by rw[<- mE];exact(Xx (g:=w.heap.size) _).trans (Xx (g:=w.heap.size) _)
     have tT:=(Q7 f (λb r _=>r)).trans C;have Yh:=Zi xY.o tT (λg Z=>by have:=(Zj xY.o Z).1; have:=X.o; omega);have I:=E.o.trans (tT.below E.o.size (λb r=>by have:=X.o; omega));obtain⟨v7,w7,rM,nK,gV,⟨qa,qm,qc,rfl⟩⟩:=Cf w6 Q.heap.size (.slice xa (q sl).length xc) (q sl) Yh (by have:=aa.o sl; omega) (Q6 aj.o tT.size) ⟨kind,e0,W,src,⟨M,N,cl⟩,key,⟨V,zc,co⟩⟩ 43;simp only[ah.cells,ai.val]at rM;have N7:=Hy.o.lt;have d:∀ b,(Value.slice xa (q sl).length xc).ownBlock=some b->Q.heap.size<=b/\b<P.heap.size:=λb e=>Zj xY.o e;have J:=((Au.bI (C.mono λb _ h=>by have:=h.2; omega)).bI (gV.mono λb _ h e=>by have:=(d b e).2; have:=h.2; omega)).mono λb _ h=>h.1;have G:=((Oh.bI (C.mono λb _ h=>by have:=h.2; omega)).bI (gV.mono λb _ h e=>by have:=(d b e).2; have:=h.2; omega)).mono λb _ h=>h.1;have jD:=I.trans (gV.below I.size (λb r e=>by have:=(d b e).1; have:=X.o; omega));have HF:Hid _:=mR.o w7 (.slice qa qm qc) ⟨M,N,cl⟩ ⟨V,zc,co⟩ jD (Ar nK (by have:=X.o; omega)) rfl rfl J G;obtain⟨t0,t1,t2,t3,t4,t5,t6⟩:=TC.k7;clear B U1 TC C tT Yh I nK gV N7 d J G jD Au Oh p f m4 m6 f4 f6 mE;go_wp2_with (first | (at_builtin; refine Zt rfl (.tmp 42) (.tmp 44) 43 rfl (.slice xa (q sl).length xc) (.slice (some (aD w6.heap.size 0)) 1 1) (.slice qa qm qc) w7 rfl rfl rM ?_));clear rM;go_wp2;go_ret;exact HF.o
   ·skip;have lo:=cB f n6;go_simp;refine a.o _ _ p λp=>?_
    clear a K lo;refine wR 1 λK a=>?_;have lo:=cB f n4;go_simp;refine a.o _ _ p λp=>?_;clear a K lo;refine wR 2 λK a=>?_;go_simp;refine Z5 (BH.o _ (E.o.trans (f.mono E.o.size))) ?_;rintro e wA ⟨vv,rfl,O,D⟩;obtain⟨ay,U,t,Au⟩:=sZ (F:=λb=>F b/\P.heap.size<=b) O (by have:=WU.o; omega) (λb r=>⟨zT.o b (Q6 E.o.size (Q6 f.size r)),Q6 f.size r⟩);obtain⟨M,N,yx⟩:=ay;simp only[ai.val]at U t;subst U;have t:=t.symm;subst t;have f:=f.trans (D.mono f.size);refine a.o _ _ (Q7 f (λb r _=>r)) (λp=>?_);clear a K;refine wt 6 (.pointer (some (aD w.heap.size 4))) p ?_;refine wR 5 λK a=>?_;go_simp;refine Z5 (zJ.o _ (E.o.trans (f.mono E.o.size))) ?_;rintro e wB ⟨vv,rfl,O,D⟩;obtain⟨az,U,A,Oh⟩:=sZ (F:=λb=>F b/\P.heap.size<=b) O (by have:=WU.o; omega) (λb r=>⟨zT.o b (Q6 E.o.size (Q6 f.size r)),Q6 f.size r⟩);obtain⟨V,zc,zx⟩:=az;simp only[ai.val]at U A;subst U;have A:=A.symm;subst A;have f:=f.trans (D.mono f.size);have Au:=Au.below D;refine a.o _ _ (Q7 f (λb r _=>r)) (λp=>?_);clear a K;have B:GB wB w.heap.size 75 #[.int .i64 kind,.int .i64 e0,.int .i64 W,.int .i64 src,.slice ca cl.length cc,.int .i64 key,.slice da co.length dc]:=Hy.o.of (f.block _ Hy.o.lt);have m4:=B.at 4;have f4:=B.frozen 4;have U1:=B.set 4 (.slice M cl.length N);have m6:(wB.setCell (aD w.heap.size 4) (.slice M cl.length N)).cell? (aD w.heap.size 6)=some (.slice da co.length dc):=U1.cell 6;have f6:=U1.frozen 6;have TC:=U1.set 6 (.slice V co.length zc);refine wR 7 λK a=>?_;go_simp;refine a.o _ _ (p.trans (Xx (g:=w.heap.size) (j:=4) (.slice M cl.length N))) (λp=>?_);clear a K;refine wt 8 (.pointer (some (aD w.heap.size 6))) p ?_;refine wR 9 λK a=>?_;go_simp;refine a.o _ _ (p.trans (Xx (g:=w.heap.size) (j:=6) (.slice V co.length zc))) (λp=>?_);clear a K;refine wD ?_;try simp only[pU]
    obtain⟨w6,mE⟩:∃ x,(wB.setCell (aD w.heap.size 4) (.slice M cl.length N)).setCell (aD w.heap.size 6) (.slice V co.length zc)=x:=⟨_,rfl⟩;rw[mE]at TC ⊢;have C:Kept (λb=>b≠w.heap.size) wB w6:=by rw[<- mE];exact(Xx (g:=w.heap.size) _).trans (Xx (g:=w.heap.size) _)
    have tT:=(Q7 f (λb r _=>r)).trans C;have Yh:=Zi xY.o tT (λg Z=>by have:=(Zj xY.o Z).1; have:=X.o; omega);have I:=E.o.trans (tT.below E.o.size (λb r=>by have:=X.o; omega));obtain⟨v7,w7,rM,nK,gV,⟨qa,qm,qc,rfl⟩⟩:=Cf w6 Q.heap.size (.slice xa (q sl).length xc) (q sl) Yh (by have:=aa.o sl; omega) (Q6 aj.o tT.size) ⟨kind,e0,W,src,⟨M,N,cl⟩,key,⟨V,zc,co⟩⟩ 43;simp only[ah.cells,ai.val]at rM;have N7:=Hy.o.lt;have d:∀ b,(Value.slice xa (q sl).length xc).ownBlock=some b->Q.heap.size<=b/\b<P.heap.size:=λb e=>Zj xY.o e;have J:=((Au.bI (C.mono λb _ h=>by have:=h.2; omega)).bI (gV.mono λb _ h e=>by have:=(d b e).2; have:=h.2; omega)).mono λb _ h=>h.1;have G:=((Oh.bI (C.mono λb _ h=>by have:=h.2; omega)).bI (gV.mono λb _ h e=>by have:=(d b e).2; have:=h.2; omega)).mono λb _ h=>h.1;have jD:=I.trans (gV.below I.size (λb r e=>by have:=(d b e).1; have:=X.o; omega));have HF:Hid _:=mR.o w7 (.slice qa qm qc) ⟨M,N,cl⟩ ⟨V,zc,co⟩ jD (Ar nK (by have:=X.o; omega)) rfl rfl J G;obtain⟨t0,t1,t2,t3,t4,t5,t6⟩:=TC.k7;clear B U1 TC C tT Yh I nK gV N7 d J G jD Au Oh p f m4 m6 f4 f6 mE;go_wp2_with (first | (at_builtin; refine Zt rfl (.tmp 42) (.tmp 44) 43 rfl (.slice xa (q sl).length xc) (.slice (some (aD w6.heap.size 0)) 1 1) (.slice qa qm qc) w7 rfl rfl rM ?_));clear rM;go_wp2;go_ret;exact HF.o
theorem agT{n:ah}:∀ {ls:List (List ah)},ls.length<=2->∀ l∈ls,l.length<=(sM n ls).length/\∀ m∈l,∃ m'∈sM n ls,m'.kind=m.kind
 | [],_,l,h => by cases h
 | [a],_,l,h => by rw[Zy]at h;subst h;refine⟨by simp[sM,iH],λm hm=>⟨dB 0 m,?_,rfl⟩⟩;unfold sM iH;simp;exact .inl ⟨m,hm,rfl⟩
 | [a,b],_,l,h => by
  rcases Zq.1 h with h | h
  ·subst h;refine⟨by simp[sM,iH] <;> omega,λm hm=>⟨dB 0 m,?_,rfl⟩⟩;unfold sM iH;simp;exact .inl ⟨m,hm,rfl⟩
  ·rw[Zy]at h;subst h;refine⟨by simp[sM,iH] <;> omega,λm hm=>⟨dB a.length m,?_,rfl⟩⟩;unfold sM iH
   grind
 | _::_::_::_,h,_,_ => by simp at h
theorem iq.pushed(h:iq Tn (Fv F v) base w u nv)(hk:Kept (λb=>v.ownBlock≠some b) w w')(hat:v'.ownBlock=v.ownBlock∨∃ g,v'.ownBlock=some g/\w.heap.size<=g):iq Tn (Fv F v') base w' u nv:=by
 have f:=h.mono (G:=λb=>Fv F v b/\Fv F v' b) (λb d a=>⟨a,a.1,λe=>by
  rcases hat with h | ⟨g,h,i⟩
  ·exact a.2 (h ▸ e)
  grind⟩)
 exact(f.bI (hk.mono λb _ d=>d.1.2)).mono λ_ _ h=>h.2
structure yP(Tl Tn:TypeId)(F:Nat->Prop)(base:Nat)(w:World)(v:Value)(ls:List (Value × List ah)):Prop where
 own:w.ownsRow base Tl 1 v ls.length (ls.map Prod.fst)
 node:∀ x∈ls,∃ b,iq Tn (Fv F v) b w x.1 x.2
theorem yP.slices(h:yP Tl Tn F base w v ls):∃ b cap,v=.slice b ls.length cap/\FI w b (ls.map Prod.fst):=by
 rcases iR h.own with⟨rfl,h1⟩ | ⟨g,cap,rfl,_,_,hc⟩
 ·refine⟨none,0,by rw[h1],λi a=>?_⟩;rw[QQ]at a;omega
 ·refine⟨some (aD g 0),cap,rfl,λi a=>⟨g,0,rfl,?_⟩⟩
  grind
theorem yP.push{w0:World}(h:yP Tl Tn F base w0 v ls)(hb:Bw w0 w)(hu:iq Tn (Fv F v) base' w u nv)
  (ho:w'.ownsRow base Tl 1 v' (ls.map Prod.fst++[u]).length (ls.map Prod.fst++[u])) (hk:Kept (λb=>v.ownBlock≠some b) w w') (hat:v'.ownBlock=v.ownBlock∨∃ g,v'.ownBlock=some g/\w.heap.size<=g):yP Tl Tn F base w' v' (ls++[(u,nv)]):=by
 refine⟨?_,λx a=>?_⟩
 ·grind
 ·rcases ZK.1 a with a | a
  ·obtain⟨b,d⟩:=h.node x a;exact⟨b,(d.below hb).pushed hk hat⟩
  ·rw[Zy]at a;rw[a];exact⟨base',hu.pushed hk hat⟩
theorem Tryz.Y0:(Tryz.prog.info? 43).map (λi=>(i.zero,i.size,i.bytes))=some (some (.slice none 0 0),1,24):=by kernel_rfl
theorem Y1(W:World)(base:Nat)(v:Value)(vs:List Value)(hown:W.ownsRow base 43 1 v vs.length vs)(hl:vs.length<=1000)(hb:base<=W.heap.size)(a:Option Addr)(m c:Nat)(ty:TypeId) :
  ∃ d w',(Builtin.append_ #[174,174] ty #[v,.slice (some (aD W.heap.size 0)) 1 1]).run Tryz.prog (W.alloc (.cells #[.slice a m c] 43))=.ok d w'/\
   w'.ownsRow base 43 1 d (vs++[(Value.slice a m c)]).length (vs++[(Value.slice a m c)])/\Kept (λb=>v.ownBlock≠some b) W w'/\(∃ a m c,d = .slice a m c)/\(d.ownBlock=v.ownBlock∨d.ownBlock=some (W.heap.size+1)):=by
 obtain⟨j,k,e,f,g⟩:=Zv Tryz.Y0;obtain⟨d,w',n,o,p,q,l⟩:=jX (P:=Tryz.prog) W base 174 ty 43 j _ 1 24 Tryz.underlying174 k e f g rfl (by decide) v vs.length _ hown hb [.slice a m c] rfl (λu i=>by
  rw[Zy]at i;rw[i];rfl) hl (by decide)
 grind
theorem TD(k:Nat)(IH:∀ {Ft:Nat->Prop} {w:World} {a:Nat} {t:aQ},nO 135 Ft k w a t->dn w 0->(∀ m∈t.ns,1<=m.kind/\m.kind<=10)->t.ns.length<=900->∀ {F:Nat->Prop},(∀ b,w.heap.size<=b->F b)->Calls Tryz.prog 61 #[.pointer (some (aD a 0))] w (jZ 75 F w t.ns))
  (ht:nO 135 Ft (k+1) w a t) (hs:dn w 0) (hkd:∀ m∈t.ns,1<=m.kind/\m.kind<=10) (hln:t.ns.length<=900) (hF:∀ b,w.heap.size<=b->F b):Calls Tryz.prog 61 #[.pointer (some (aD a 0))] w (jZ 75 F w t.ns):=by
 obtain⟨p,n,bo,bc,bs,d,hx⟩:=ht;have r:=agT (n:=n) (ls:=bs.map λx=>x.2.ns) (by rw[QQ]; exact d.two);rw[<- d.lay]at r;have M:Hid (∀ (x:World) (G:Nat->Prop) (i:Nat),i<bs.length->Bw w x->(∀ b,x.heap.size<=b->G b)->Calls Tryz.prog 61 #[.pointer (some (aD ((bs.map Prod.fst).getD i 0) 0))] x (jZ 75 G x (((bs.map λx=>x.2.ns)).getD i []))):=λx G i hi A hG=>by
  have e1:(bs.map Prod.fst).getD i 0=(bs[i]).1:=by grind
  have e2:(bs.map λx=>x.2.ns).getD i []=(bs[i]).2.ns:=by grind
  rw[e1,e2];have hm:(bs[i]).2.ns∈bs.map λx=>x.2.ns:=QZ.2 ⟨_,ZQ hi,rfl⟩;obtain⟨h1,h2⟩:=r _ hm;exact IH ((hx _ (ZQ hi)).bI (Q7 A λ_ h _=>h)) (hs.below A) (λm ak=>by
   obtain⟨m',E,e⟩:=h2 m ak;rw[<- e];exact hkd m' E) (by omega) hG
 have J3:Hid (∀ (x:World) (G:Nat->Prop) (io:Option Addr) (ic:Nat) (ls:List (Value × List ah)),Bw w x->(∀ b,x.heap.size<=b->G b)->FI x io (ls.map Prod.fst)->(ls.map λx=>x.2.map bL)=(bs.map λx=>x.2.ns)->(∀ y∈ls,∃ base,iq 75 G base x y.1 y.2)->
   Calls Tryz.prog 99 #[.agg n.cells,.slice io ls.length ic] x (jZ 75 G x t.ns)):=λx G io ic ls A hG GM he D=>by
  have hl:ls.length=bs.length:=by have:=congrArg List.length he; simpa using this
  rw[d.lay,<- he];refine adO hG (hs.below A) n (Ql A d.cl) d.cln (Ql A d.co) d.con d.lens io ic ls GM (λy hy=>⟨D y hy,λm hm=>?_⟩) (by rw[hl]; exact d.two) ?_
  ·have ae:y.2.map bL∈bs.map λx=>x.2.ns:=by grind
   obtain⟨m',E,e⟩:=(r _ ae).2 (bL m) (QZ.2 ⟨m,hm,rfl⟩);have:=hkd m' E;rw[e]at this;exact this
  ·have h1:(iH (ls.map Prod.snd)).length=(iH (bs.map λx=>x.2.ns)).length:=by rw[<- he,<- QQ (f:=bL),Cc,Xu];rfl
   rw[h1];have h2:t.ns.length=(iH (bs.map λx=>x.2.ns)).length+1:=by rw[d.lay]; unfold sM; simp
   omega
 have au:=d.gb.at 13;have n0:=d.gb.at 6;have n1:=d.gb.at 7;have n2:=d.gb.at 8;have n3:=d.gb.at 9;have n4:=d.gb.at 10;have n5:=d.gb.at 11;have n6:=d.gb.at 12;have UH:=Zh d.ptrs;have av:=d.two;have zk:Hid ((bs.map Prod.fst).length=bs.length):=QQ _;have N:Hid ((bs.map λx=>x.2.ns).length=bs.length):=QQ _;have zT:=Zh hF;clear d hx r IH hs hkd hln hF;generalize t.ns=R at *;generalize bs.map Prod.fst=bf at *;generalize (bs.map λx=>x.2.ns)=NS at *;generalize bs.length=bl at *;clear bs;obtain⟨kind,nl,nr,src,⟨ca,cc,cl⟩,key,⟨da,dc,co⟩⟩:=n;simp only[ah.cells,ai.val]at *;go_enter Tryz.func61,Tryz.ntmps61;go_wp2;go_loopw [3,11] (λpv iv wr=>∃ (j:Nat) (ls:List (Value × List ah)),j<=bl/\iv=.int .i64 (j:Int)/\Hid ((ls.map λx=>x.2.map bL)=NS.take j)/\Hid (yP 43 75 F w.heap.size wr pv ls)/\Hid (Bw w wr)) (λ_ iv _=>bl-(intOf iv).toNat)
 case atStart=>exact⟨0,[],QK _,rfl,rfl,⟨Zu _ _ _ _,(λx hx=>by cases hx)⟩,Qm _ _⟩
 case round=>
  obtain⟨j,ls,hj,rfl,S,H,l⟩:=hrel;obtain⟨I,T,J,rfl⟩:=Zk H.o.own;have q:∀ g,(Value.slice I T J).ownBlock=some g->w.heap.size<=g/\g<wr.heap.size:=λg e=>Zj H.o.own e;by_cases B:j<bl
  ·obtain⟨bb,RG,rfl,U⟩:=ed.get (UH.o.below l.o) (i:=j) (by rw[zk.o]; exact B);have af:=U j (by rw[zk.o]; exact B);have O:=M.o wr (Fv F (.slice I T J)) j B l.o (λb A=>⟨zT.o b (Q6 l.o.size A),λe=>by have:=(q b e).2; omega⟩);have UI:=Zh (Xq NS [] (by rw[N.o]; exact B));have C:=Zh q;generalize bf.getD j 0=ba at *;generalize NS.getD j []=Nj at *;clear U q;go_wp2_with fail;refine O.mono ?_;rintro e V ⟨v3,nv,rfl,z,K,u⟩;clear O af;obtain⟨ya,ym,yc,rfl⟩:=Zk K.own;have D:ls.length<=2:=by have:=congrArg List.length S.o;rw[QQ,ZZ]at this;omega
   have P:V.ownsRow w.heap.size 43 1 (.slice I T J) (ls.map Prod.fst).length (ls.map Prod.fst):=by rw[QQ];exact Zi H.o.own (Q7 (s:=λb=>b<wr.heap.size) u (λb _ h=>h)) (λg hg=>(C.o g hg).2)
   obtain⟨v4,w4,W,BI,L,⟨za,zm,zc,rfl⟩,X⟩:=Y1 V w.heap.size (.slice I T J) (ls.map Prod.fst) P (by rw[QQ]; omega) (Q6 l.o.size u.size) ya ym yc 174;have ax:=Zh (yP.push H.o u K BI L (X.imp id (λe=>⟨_,e,by omega⟩)));have ay:Hid (((ls++[((.slice ya ym yc:Value),nv)]).map λx=>x.2.map bL)=NS.take (j+1)):=by show _=_;rw[Qi,S.o,UI.o,List.map_singleton,z]
   have nH:=Zh ((l.o.trans (u.mono l.o.size)).trans (L.below (Q6 l.o.size u.size) (λb A e=>by have:=(C.o b e).1; omega)));clear z K u P BI L X H S UI C D;go_wp2_with (first | (at_builtin; refine Zt rfl (.tmp 15) (.tmp 18) 174 rfl (.slice I T J) (.slice (some (aD V.heap.size 0)) 1 1) (.slice za zm zc) w4 rfl rfl W ?_));clear W;go_wp2;go_roundw
   case rel=>grind
   case measure=>simp[intOf]; omega
  ·have ag:bl=j:=by omega
   subst ag;rw[ZT (by rw[N.o]; exact Qn _)]at S;obtain⟨V,aj⟩:∃ x,x=wr:=⟨_,rfl⟩;subst aj;obtain⟨ya,yc,hy,Y⟩:=H.o.slices;simp only[Value.slice.injEq]at hy;obtain⟨rfl,rfl,rfl⟩:=hy;have Q:=J3.o V (Fv F (.slice I ls.length J)) I J ls l.o (λb A=>⟨zT.o b (Q6 l.o.size A),λe=>by have:=(q b e).2; omega⟩) Y S.o (λy hy=>H.o.node y hy);have d0:=cB l.o n0;have d1:=cB l.o n1;have d2:=cB l.o n2;have d3:=cB l.o n3;have d4:=cB l.o n4;have d5:=cB l.o n5;have d6:=cB l.o n6;clear J3 M Y q B hj;go_wp2_with fail;refine Q.mono ?_;rintro e w4 ⟨v,nv,rfl,z,Z,aa⟩;have HF:Hid (jZ 75 F w R (.returned v) w4):=⟨v,nv,rfl,z,⟨Ar Z.own l.o.size,λg hg=>(Z.blk g hg).1,(Z.mono (λb _ h=>h.1)).lists⟩,l.o.trans (aa.mono l.o.size)⟩;obtain⟨va,vm,vc,rfl⟩:=Zk Z.own;clear Q z Z aa;go_wp2;go_ret;exact HF.o
theorem U2:∀ (k:Nat) {Ft:Nat->Prop} {w:World} {a:Nat} {t:aQ},nO 135 Ft k w a t->dn w 0->(∀ m∈t.ns,1<=m.kind/\m.kind<=10)->t.ns.length<=900->∀ {F:Nat->Prop},(∀ b,w.heap.size<=b->F b)->Calls Tryz.prog 61 #[.pointer (some (aD a 0))] w (jZ 75 F w t.ns)
 | 0,_,_,_,_,h,_,_,_,_,_ => h.elim
 | k+1,_,_,_,_,h,hs,hk,hl,_,hF => TD k (U2 k) h hs hk hl hF
theorem Y2{q:ae}(h:aT 135 Ft w a t)(hs:dn w 0)(ht:kN q t)(hl:t.ns.length<=900)(hF:∀ b,w.heap.size<=b->F b):Calls Tryz.prog 61 #[.pointer (some (aD a 0))] w (jZ 75 F w t.ns):=by obtain⟨k,d⟩:=h;exact U2 k d hs ht.kinds hl hF
