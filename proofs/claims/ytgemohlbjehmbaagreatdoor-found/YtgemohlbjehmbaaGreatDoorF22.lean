import Derived.Test.YtgemohlbjehmbaaGreatDoorF21
set_option linter.all false
set_option maxRecDepth 100000
set_option maxHeartbeats 16000000
namespace Go.Proofs.Zz
open Go.RowKit Go.Shelf
variable {k:Nat} {F:Nat->Prop} {w:World}
structure jN where
 ad:Addr
 cap:Nat
 xs:List Nat
def KC:jN:=⟨(aD 0 0),0,[]⟩
def jN.val(x:jN):Value:=.slice (some x.ad) x.xs.length x.cap
def gM(ls:List jN):List Nat:=(ls.map (·.xs)).flatten
theorem Fa{ls:List jN}(hk:k<ls.length):gM (ls.take (k+1))=gM (ls.take k)++(ls.getD k KC).xs:=by unfold gM;rw[Xq ls KC hk,Qi,List.flatten_append];simp
theorem Nw{ls:List jN}:(gM (ls.take k)).length<=(gM ls).length:=by
 have h:gM ls=gM (ls.take k)++gM (ls.drop k):=by unfold gM;rw[<- List.flatten_append,<- Qi,ZX]
 rw[h,QP];omega
structure acW(w:World)(ao:Option Addr)(ls:List jN):Prop where
 cells:bT w ao ls.length (λi=>(ls.getD i KC).val)
 each:∀ i,i<ls.length->ed w (some (ls.getD i KC).ad) (ls.getD i KC).xs
def Tryz.Yi:Go.Shelf.Ren:=⟨fun | 4=>162 | n=>n,fun | 22=>133 | 25=>95 | 3=>3 | 4=>4 | 9=>9 | 20=>20 | 0=>0 | n=>n,fun | n=>n⟩
theorem Tryz.ay:Go.Proofs.Lays8.n4 Tryz.prog Tryz.Yi:={
 mixed:=by kernel_rfl
 f4:=⟨Tryz.f162.name,by decide,Tryz.func162.trans (congrArg some (by kernel_rfl))⟩
 t0:=Tryz.underlying0
 a0:=Tryz.isAgg0
 z0:=Tryz.sizeOf0
 v0:=Tryz.zeroValue0
 t3:=Tryz.underlying3
 a3:=Tryz.isAgg3
 z3:=Tryz.sizeOf3
 v3:=Tryz.zeroValue3
 t4:=Tryz.underlying4
 a4:=Tryz.isAgg4
 z4:=Tryz.sizeOf4
 v4:=Tryz.zeroValue4
 t9:=Tryz.underlying9
 a9:=Tryz.isAgg9
 z9:=Tryz.sizeOf9
 v9:=Tryz.zeroValue9
 t20:=Tryz.underlying20
 a20:=Tryz.isAgg20
 z20:=Tryz.sizeOf20
 v20:=Tryz.zeroValue20
 t22:=Tryz.underlying133
 a22:=Tryz.isAgg133
 z22:=Tryz.sizeOf133
 v22:=Tryz.zeroValue133 }
theorem Yj(n:Nat)(w:World)(hn:n<=1000000) :
  Calls Tryz.prog 162 #[.slice none 0 0,.int .i64 n] w λe w'=>∃ v,e=.returned v/\w'.ownsRow w.heap.size 95 1 v 0 []/\Bw w w':=by
 obtain⟨i,j,b,d,f⟩:=Zv Tryz.rU;by_cases k:n=0
 ·subst k;have h:=Any8.slices_Grow_room Tryz.ay none 0 0 0 w (Qn _) (by omega) (by omega) (by omega);change Calls Tryz.prog 162 _ _ _ at h;refine h.mono ?_;rintro e w' ⟨rfl,rfl⟩;exact⟨_,rfl,Zu _ _ _ _,Qm _ _⟩
 ·have h:=Any8.slices_Grow_grow Tryz.ay i (.pointer none) j b (by rw[d]; decide) none 0 0 n [] w (Qn _) (by omega) (by rw[f]; omega) (by omega) (by simp) (λ_=>rfl) (λa e=>by cases e);change Calls Tryz.prog 162 _ _ _ at h;refine h.mono ?_;rintro e w' ⟨rfl,rfl⟩;refine⟨_,rfl,⟨by simp,.inr ⟨w.heap.size,_,_,rfl,Qn _,qH w.drew _,QK _,?_,?_,by simp⟩⟩,?_⟩
  ·exact grownCap_le_maxLen _ _ _ _ (by unfold maxLen; omega)
  ·have g:=grownCap_ge w (0+n) 0 95;have hz:(Value.pointer none).cells.size=1:=rfl;simp only[Array.size_append,size_zeroCells,hz,List.size_toArray,Xa]
   show 0+(0+n-0)*1+(grownCap w (0+n) 0 95-(0+n))*1=grownCap w (0+n) 0 95*1;omega
  ·exact(Qm _ w).drew.alloc (Qn _) _
theorem Yk(W:World)(base:Nat)(v:Value)(fk:List Nat)(hown:W.ownsRow base 95 1 v fk.length (fk.map λx=>Value.pointer (some (aD x 0))))(xa:Addr)(xc:Nat)(xs:List Nat)(hx:ed W (some xa) xs)(hl:fk.length+xs.length<=1000)(hb:base<=W.heap.size)(ty:TypeId) :
  ∃ d w',(Builtin.append_ #[133,133] ty #[v,.slice (some xa) xs.length xc]).run Tryz.prog W=.ok d w'/\w'.ownsRow base 95 1 d (fk++xs).length ((fk++xs).map λx=>Value.pointer (some (aD x 0)))/\Kept (λb=>v.ownBlock≠some b) W w'/\∃ a m c,d = .slice a m c:=by
 obtain⟨o,p,f,g,i⟩:=Zv Tryz.rU;obtain⟨d,w',k,q,s,_⟩:=Zw (P:=Tryz.prog) W base 133 ty 95 o _ 1 8 Tryz.underlying133 p f g i rfl (by decide) v fk.length _ hown xa xs.length xc (xs.map λx=>Value.pointer (some (aD x 0))) (by simp)
  (λj u z=>by
   by_cases l:j<xs.length
   ·obtain⟨w,n,e,y⟩:=hx.2 j l
    cases e;rw[Qx];grind
   grind) (λu t=>by obtain⟨x,_,rfl⟩:=QZ.1 t; rfl) (by unfold maxLen; omega) (by omega) hb
 exact⟨d,w',k,by grind,Zg s (λr e k=>k e),Zk q⟩
theorem Ny(ao:Option Addr)(cap:Nat)(ls:List jN)(w:World)(hr:acW w ao ls)(hn:ls.length<=1000)(ht:(gM ls).length<=1000) :
  Calls Tryz.prog 139 #[.slice ao ls.length cap] w λe w'=>∃ v,e=.returned v/\w'.ownsRow w.heap.size 95 1 v (gM ls).length ((gM ls).map λx=>Value.pointer (some (aD x 0)))/\Bw w w':=by
 obtain⟨i0,hi,aa,ae,af⟩:=Zv Tryz.rU;have L:=Zh hr;have R:=Zh ht;clear hr ht;go_enter Tryz.func139,Tryz.ntmps139;go_wp2;go_loopw [3,11] (λs i wr=>∃ k:Nat,k<=ls.length/\i=.int .i64 k/\s=.int .i64 (gM (ls.take k)).length/\w=wr) (λ_ i _=>ls.length-(intOf i).toNat)
 case atStart=>exact⟨0,QK _,rfl,rfl,rfl⟩
 case round=>
  obtain⟨k,hk,rfl,rfl,rfl⟩:=hrel;by_cases f:k<ls.length
  ·obtain⟨b,z,rfl,l⟩:=Qf L.o.cells f;have j:=l k f;have g:(gM (ls.take (k+1))).length<=1000:=Q6 Nw R.o;have r:(gM (ls.take (k+1))).length=(gM (ls.take k)).length+(ls.getD k KC).xs.length:=by rw[Fa f,QP]
   have V:=Zh r;generalize ls.getD k KC=x at *;obtain⟨m,n,d⟩:=x;have B:w.cell? (aD b (z+k))=some (.slice (some m) d.length n):=j;have W:wrap64 (((gM (ls.take k)).length:Int)+(d.length:Int))=(((gM (ls.take k)).length+d.length:Nat):Int):=by simp only at r;unfold wrap64; omega
   have X:¬ ((((gM (ls.take k)).length+d.length:Nat):Int)<0):=by omega
   have M:=Zh W;clear j l g r;generalize (gM (ls.take k)).length=a at *;go_wp2;go_roundw
   case rel=>exact⟨k+1,by omega,by go_num,by rw[V.o]; exact congrArg (Value.int .i64) M.o,trivial⟩
   case measure=>simp[intOf]; omega
  ·have t:k=ls.length:=by omega
   subst t;rw[QT];have ht:=R.o;generalize K:gM ls=fl at *;have N:=Zh K;clear K;go_wp2_with fail;refine(Yj fl.length w (by omega)).mono ?_;rintro e w2 ⟨v0,rfl,p,D⟩;have O:=Zh p;have P:=Zh D;clear p D;go_wp2;go_loopw [6,27] (λv i wr=>∃ k:Nat,k<=ls.length/\i=.int .i64 k/\Hid (wr.ownsRow w.heap.size 95 1 v (gM (ls.take k)).length ((gM (ls.take k)).map λx=>Value.pointer (some (aD x 0))))/\Hid (Bw w wr)) (λ_ i _=>ls.length-(intOf i).toNat)
   case atStart=>exact⟨0,QK _,rfl,O.o,P.o⟩
   case round=>
    obtain⟨k,hk,rfl,q,A⟩:=hrel;obtain⟨E,F,G,rfl⟩:=Zk q.o;by_cases f:k<ls.length
    ·obtain⟨b,z,rfl,l⟩:=Qf L.o.cells f;have j:=cB A.o (l k f);have u:=(L.o.each k f).below A.o;have g:(gM (ls.take (k+1))).length<=1000:=by have Y:(gM (ls.take (k+1))).length<=(gM ls).length:=Nw;rw[N.o]at Y;omega
     have y:=Fa f;have Q:=Zh y;rw[y,QP]at g;generalize ls.getD k KC=x at *;obtain⟨m,n,d⟩:=x;simp only at u g;have B:wr.cell? (aD b (z+k))=some (.slice (some m) d.length n):=j;have Z:=Zh u;clear j l y u;generalize gM (ls.take k)=fk at *;have C:=A.o.size;obtain⟨v',S,H,I,J,⟨T,U,zc,rfl⟩⟩:=Yk wr w.heap.size (.slice E F G) fk q.o m n d Z.o g C 133;have HO:Hid (S.ownsRow w.heap.size 95 1 (.slice T U zc) (gM (ls.take (k+1))).length ((gM (ls.take (k+1))).map λx=>Value.pointer (some (aD x 0)))):=by show World.ownsRow _ _ _ _ _ _ _;rw[Q.o];exact I
     have HB:=Zh (A.o.trans (J.below A.o.size (λb hb e=>by have:=(Zj q.o e).1; omega)));clear I J g C;go_wp2_with (first | (at_builtin; refine Zt rfl (.tmp 31) (.tmp 32) 133 rfl (.slice E F G) (.slice (some m) d.length n) (.slice T U zc) S rfl rfl H ?_));clear H B;go_wp2;go_roundw
     case rel=>exact⟨k+1,by omega,by go_num,HO.o,HB.o⟩
     case measure=>simp[intOf]; omega
    ·have t:k=ls.length:=by omega
     subst t;rw[QT,N.o]at q;go_wp2;go_ret;refine⟨_,rfl,?_,A.o⟩;rw[N.o];exact q.o
def tK(o:ai):List Value:=[o.val,.pointer none]
theorem Yq{T Tp:TypeId}{base:Nat}{v:Value}{os:List ai}(h:w.ownsRow base Tp 2 v os.length (os.flatMap tK))(h0:0<os.length)(ho:∀ o∈os,IntsIn F w o/\o.xs.length<=1000)(A:Nat->Nat) :
  ∃ gb cap,v=.slice (some (aD gb 0)) os.length cap/\base<=gb/\gb<w.heap.size/\os.length<=cap/\cap<=9223372036854775807/\bM T Tp F w gb A os (dE (os.map ai.xs)):=by
 rcases h.2 with⟨_,h1⟩ | ⟨g,cap,cur,rfl,hb,hh,hc,hm,hs,ht⟩
 ·omega
 have k:(dE (os.map ai.xs)).length=os.length:=by unfold dE; simp
 have m:∀ i,i<os.length->os.getD i gQ∈os:=λi d=>by grind
 have l:∀ i,i<os.length->(dE (os.map ai.xs)).getD i qB=((os.getD i gQ).xs,none):=λi d=>by unfold dE;grind
 have a:∀ i j u,i<os.length->j<2->(tK (os.getD i gQ))[j]? = some u->cur[i*2+j]? = some u:=λi j u d n s=>by have r:=ZE tK 2 (λ_=>rfl) gQ os i j d n;grind
 have b:∀ p∈dE (os.map ai.xs),p.2=none:=λp e=>by unfold dE at e;grind
 refine⟨g,cap,rfl,hb,(Zb.1 hh).1,hc,(by unfold maxLen at hm; omega),⟨cur,hh,λi d=>?_⟩,λi d=>?_,λp e x f=>?_,λp e t q x y f=>?_⟩
 ·rw[k]at d;rw[l i d];exact⟨a i 0 _ d (by omega) rfl,a i 1 _ d (by omega) rfl⟩
 ·grind
 ·rw[b p e]at f
  cases f
 ·rw[b p e]at f
  cases f
theorem Tryz.Yr:(Tryz.prog.info? 160).map (λi=>(i.zero,i.size,i.bytes))=some (some (.agg #[.slice none 0 0,.pointer none]),2,32):=by kernel_rfl
theorem Sv(W:World)(base:Nat)(v:Value)(os:List ai)(hown:W.ownsRow base 160 2 v os.length (os.flatMap tK))(hl:os.length<=1000)(hb:base<=W.heap.size)(o:ai)(ty:TypeId) :
  ∃ d w',(Builtin.append_ #[116,116] ty #[v,.slice (some (aD W.heap.size 0)) 1 1]).run Tryz.prog (W.alloc (.cells #[o.val,.pointer none] 160))=.ok d w'/\
   w'.ownsRow base 160 2 d (os++[o]).length ((os++[o]).flatMap tK)/\Kept (λb=>v.ownBlock≠some b) W w'/\(∃ a m c,d = .slice a m c):=by
 obtain⟨j,k,e,f,g⟩:=Zv Tryz.Yr;obtain⟨d,w',l,r,n,p,q⟩:=jX (P:=Tryz.prog) W base 116 ty 160 j _ 2 32 Tryz.underlying116 k e f g rfl (by decide) v os.length _ hown hb (tK o) rfl (λu i=>by
  unfold tK ai.val at i;simp at i;rcases i with rfl | rfl <;> rfl) hl (by decide)
 exact⟨d,w',l,by grind,n,p⟩
theorem Hr(os:List ai)(io:Option Addr)(ic:Nat)(GM:bT w io os.length (λi=>(os.getD i gQ).val))(ho:∀ o∈os,IntsIn F w o/\o.xs.length<=1000)(h0:0<os.length)(hl:os.length<=1000)(A:Nat->Nat) :
  Calls Tryz.prog 50 #[.slice io os.length ic] w λe w'=>∃ gb cap,e=.returned (.slice (some (aD gb 0)) os.length cap)/\w.heap.size<=gb/\gb<w'.heap.size/\os.length<=cap/\cap<=9223372036854775807/\bM 135 160 F w' gb A os (dE (os.map ai.xs))/\Bw w w':=by
 have C:Hid _:=GM;have D:Hid (∀ x v,Bw w x->x.ownsRow w.heap.size 160 2 v os.length (os.flatMap tK)->∃ gb cap,v=.slice (some (aD gb 0)) os.length cap/\w.heap.size<=gb/\gb<x.heap.size/\os.length<=cap/\cap<=9223372036854775807/\bM 135 160 F x gb A os (dE (os.map ai.xs))):=λx v z hv=>Yq hv h0 (λo B=>⟨(ho o B).1.below z,(ho o B).2⟩) A;have l:Hid (∀ k,k<os.length->os.take (k+1)=os.take k++[os.getD k gQ]):=λk u=>Xq os gQ u;have Q:Hid (os.take os.length=os):=QT;generalize dE (os.map ai.xs)=R at *;clear GM ho;go_enter Tryz.func50,Tryz.ntmps50;go_wp2;go_loopw [3,8] (λpv iv wr=>∃ k:Nat,k<=os.length/\iv=.int .i64 (k:Int)/\Hid (wr.ownsRow w.heap.size 160 2 pv (os.take k).length ((os.take k).flatMap tK))/\Hid (Bw w wr)) (λ_ iv _=>os.length-(intOf iv).toNat)
 case atStart=>exact⟨0,QK _,rfl,Zu _ _ _ _,Qm _ _⟩
 case round=>
  obtain⟨k,u,rfl,f,d⟩:=hrel;obtain⟨p,q,r,rfl⟩:=Zk f.o;by_cases a:k<os.length
  ·obtain⟨S,T,rfl,g⟩:=Qf (bT.below d.o C.o) a;have m:=g k a;have t:=Zh (l.o k a);obtain⟨U,I,y,s,j,⟨J,K,zc,rfl⟩⟩:=Sv wr w.heap.size (.slice p q r) (os.take k) f.o (by rw[ZZ]; omega) d.o.size (os.getD k gQ) 116;rw[<- t.o]at s;have E:Hid _:=s;have G:=Zh (d.o.trans (j.below d.o.size (λb z e=>by have:=(Zj f.o e).1; omega)));generalize os.getD k gQ=o at *;obtain⟨V,W,X⟩:=o;simp only[ai.val]at *;clear g s j t f;go_wp2_with (first | (at_builtin; refine Zt rfl (.tmp 12) (.tmp 15) 116 rfl (.slice p q r) (.slice (some (aD wr.heap.size 0)) 1 1) (.slice J K zc) I rfl rfl y ?_));clear y m;go_wp2;go_roundw
   case rel=>exact⟨k+1,by omega,by go_num,E.o,G.o⟩
   case measure=>simp[intOf]; omega
  ·have n:os.length=k:=by omega
   have H:Hid _:=D.o wr (.slice p q r) d.o (by
    have:=f.o;grind)
   clear n;go_wp2;go_ret;obtain⟨gb,cap,e,L,M,N,O,P⟩:=H.o;exact⟨gb,cap,by rw[<- e]; rfl,L,M,N,O,P,d.o⟩
theorem KE{W0:World}{f:aC}{ts:List af}{q:ae}(E:Env f ts q W0)(hz:Fz F W0 w):Calls Tryz.prog 48 #[.agg (f.cells ts q)] w (dw 135 F w (iE ts q)):=by
 obtain⟨v0,v1,v2,v3,v4,v5,v6,v7,v8,v9,C,D,G,bR,P,-,ah,-,-,-,Q,-,-,aj,-⟩:=Z6 f ts q;have az:=E.one;have h5:=E.five;have hc:2 ^ q.wh.length-1<2 ^ q.wh.length:=by grind
 have vG:Hid (∀ x (k:Nat),Bw w x->k<q.src.xs.length->Calls Tryz.prog 80 #[.agg #[v0,v1,v2,v3,v4,v5,v6,v7,v8,v9,C,D,G],.agg #[.int .i64 1,.int .i64 0,.int .i64 0,.int .i64 (k:Int),.slice none 0 0,.int .i64 0,.slice none 0 0],.slice none 0 0] x (dw 135 F x (ay ts q (iV (k:Int)) []))):=λx k V hk=>by rw[<- bR];exact IX E (hz.next V) k (by omega) (by omega)
 have UM:Hid (∀ x b r I (k:Nat),Bw w x->k+1<q.src.xs.length->aT 135 F x r (dF ts q k)->aT 135 F x I (ay ts q (iV ((k+1:Nat):Int)) [])->x.cell? (aD b 0)=some (.pointer (some (aD r 0)))->x.cell? (aD b 1)=some (.pointer (some (aD I 0)))->Calls Tryz.prog 80 #[.agg #[v0,v1,v2,v3,v4,v5,v6,v7,v8,v9,C,D,G],.agg #[.int .i64 3,.int .i64 0,.int .i64 0,.int .i64 0,.slice none 0 0,.int .i64 0,.slice none 0 0],.slice (some (aD b 0)) 2 2] x (dw 135 F x (dF ts q (k+1)))):=λx b r I k V hk hr bB h0 h1=>by rw[<- bR];exact ME E (hz.next V) ⟨3,0,0,0,gQ,0,gQ⟩ ⟨jS x,qE.nil _ _,λ_=>rfl,jS x,qE.nil _ _,λ_=>rfl,Qn _,QK _,QK _⟩ r I b _ _ hr (pX ts q k (by omega)).1 bB (Ka ts (by omega) (by omega)) h0 h1 (by decide:(3:Int)<=3) (by decide:(3:Int)<=5) (Xl _)
 have zW:Hid (∀ x r,Bw w x->aT 135 F x r (dF ts q (q.src.xs.length-1))->r<x.heap.size->Calls Tryz.prog 81 #[.agg #[v0,v1,v2,v3,v4,v5,v6,v7,v8,v9,C,D,G],.pointer (some (aD r 0)),.int .u64 ((2 ^ q.wh.length-1:Nat):Int)] x λe w'=>∃ I,e=.returned (.pointer (some (aD I 0)))/\aT 135 F w' I (bY ts q (dF ts q (q.src.xs.length-1)) (2 ^ q.wh.length-1))/\(I = r∨x.heap.size<=I)/\I<w'.heap.size/\Bw x w'):=λx r V hr hl=>by rw[<- bR];exact zV E (hz.next V) r _ hr (pX ts q _ (by omega)).1 _ hc hl
 have uk:Hid (∀ x b r t (k:Int),Bw w x->7<=k->k<=10->kN q t->aT 135 F x r t->x.cell? (aD b 0)=some (.pointer (some (aD r 0)))->Calls Tryz.prog 80 #[.agg #[v0,v1,v2,v3,v4,v5,v6,v7,v8,v9,C,D,G],.agg #[.int .i64 k,.int .i64 0,.int .i64 0,.int .i64 0,.slice none 0 0,.int .i64 0,.slice none 0 0],.slice (some (aD b 0)) 1 1] x (dw 135 F x (ay ts q (dU k) [t]))):=λx b r t k V h7 bC ht hr h0=>by rw[<- bR];exact uU E (hz.next V) ⟨k,0,0,0,gQ,0,gQ⟩ ⟨jS x,qE.nil _ _,λ_=>rfl,jS x,qE.nil _ _,λ_=>rfl,Qn _,QK _,QK _⟩ r b t hr ht h0 (by show arity k=1; unfold arity; grind) (by show 2<=k; omega) bC (Xl _)
 obtain⟨T1,ak⟩:∃ t,bY ts q (dF ts q (q.src.xs.length-1)) (2 ^ q.wh.length-1)=t:=⟨_,rfl⟩;have uh:Hid (kN q T1):=by rw[<- ak]; exact sW (pX ts q _ (by omega)).1 hc
 obtain⟨X,ET⟩:∃ t,ay ts q (dU (if q.group=true then 7 else 9)) [T1]=t:=⟨_,rfl⟩;have xg:Hid (kN q X):=by rw[<- ET]; exact(BB ts (by split <;> omega) (by split <;> omega) uh.o).1
 have hR:iE ts q=if 0<q.ord.xs.length then ay ts q (dU 10) [X] else X:=by unfold iE; simp only; rw[ak,ET]
 obtain⟨R,au⟩:=eY (iE ts q);rw[<- au,bR];obtain⟨T3,EU⟩:∃ t,ay ts q (dU 10) [X]=t:=⟨_,rfl⟩;have v:Hid (R=if 0<q.ord.xs.length then T3 else X):=by show _=_; rw[au,hR,EU]
 rw[ak]at zW;have Y:Hid (∀ x b r,Bw w x->aT 135 F x r T1->x.cell? (aD b 0)=some (.pointer (some (aD r 0)))->Calls Tryz.prog 80 #[.agg #[v0,v1,v2,v3,v4,v5,v6,v7,v8,v9,C,D,G],.agg #[.int .i64 (if q.group=true then 7 else 9),.int .i64 0,.int .i64 0,.int .i64 0,.slice none 0 0,.int .i64 0,.slice none 0 0],.slice (some (aD b 0)) 1 1] x (dw 135 F x X)):=λx b r V hr h0=>by rw[<- ET];exact uk.o x b r T1 _ V (by split <;> omega) (by split <;> omega) uh.o hr h0
 have sI:Hid (∀ x b r,Bw w x->aT 135 F x r X->x.cell? (aD b 0)=some (.pointer (some (aD r 0)))->Calls Tryz.prog 80 #[.agg #[v0,v1,v2,v3,v4,v5,v6,v7,v8,v9,C,D,G],.agg #[.int .i64 10,.int .i64 0,.int .i64 0,.int .i64 0,.slice none 0 0,.int .i64 0,.slice none 0 0],.slice (some (aD b 0)) 1 1] x (dw 135 F x T3)):=λx b r V hr h0=>by rw[<- EU];exact uk.o x b r X 10 V (by omega) (by omega) xg.o hr h0
 have aA:Hid (ay ts q (iV ((0:Nat):Int)) []=dF ts q 0):=rfl;clear hR au ak ET EU bR E hz uk uh xg hc;generalize ay ts q=GT at *;generalize dF ts q=PT at *;generalize 2 ^ q.wh.length-1=CN at *;unfold ai.val at P Q;generalize q.src.xs.length=n at *;generalize q.src.ad=sa at *;generalize q.src.cap=sc at *;generalize q.ord.xs.length=ol at *;generalize q.ord.ad=oa at *;generalize q.ord.cap=oc at *;generalize q.group=gr at *;obtain⟨w1,aL,av,aM⟩:=bn w #[v0,v1,v2,v3,v4,v5,v6,v7,v8,v9,C,D,G] 68;obtain⟨a0,a1,a2,a3,a4,a5,a6,a7,a8,a9,ji,jE,aN⟩:=aM.k13;rw[P]at a0;rw[ah]at a2;rw[Q]at a6;rw[aj]at a9;have HV:Hid (v0=_/\v2=_/\v6=_/\v9=_):=⟨P,ah,Q,aj⟩;have aB:=Zh av;have A:=vG.o w1 0 av (by omega);rw[aA.o]at A;clear av aM aA;rw[P,ah,Q,aj]at vG UM zW Y sI A aL ⊢;clear P ah Q aj HV;go_enter Tryz.func48,Tryz.ntmps48;go_wp2_with fail;refine A.mono ?_;rintro e w2 ⟨r0,rfl,hT,d,g,j⟩;have b0:=cB j a0;have b1:=cB j a1;have b2:=cB j a2;have b3:=cB j a3;have b4:=cB j a4;have b5:=cB j a5;have b6:=cB j a6;have b7:=cB j a7;have b8:=cB j a8;have b9:=cB j a9;have aS:=cB j ji;have aU:=cB j jE;have aV:=cB j aN;clear a0 a1 a2 a3 a4 a5 a6 a7 a8 a9 ji jE aN;have aW:=Zh hT;have aX:Hid (w.heap.size<=r0/\r0<w2.heap.size):=⟨Q6 aB.o.size d,g⟩;have J:=Zh (aF aB.o j);clear A hT d g j aL;go_wp2;go_loopw [3,4] (λpv sv wr=>∃ m k r:Nat,m<=n/\Hid (m=k+1)/\sv=.int .i64 (m:Int)/\pv=.pointer (some (aD r 0))/\Hid (aT 135 F wr r (PT k))/\Hid (w.heap.size<=r/\r<wr.heap.size)/\Hid (Bw w2 wr)) (λ_ sv _=>n-(intOf sv).toNat)
 case atStart=>exact⟨1,0,r0,az,rfl,rfl,rfl,aW.o,aX.o,Qm _ _⟩
 case round=>
  obtain⟨m,k,r,hm,ax,rfl,rfl,HT,HR,u⟩:=hrel;have c0:=cB u.o b0;have c1:=cB u.o b1;have c2:=cB u.o b2;have c3:=cB u.o b3;have c4:=cB u.o b4;have c5:=cB u.o b5;have c6:=cB u.o b6;have c7:=cB u.o b7;have c8:=cB u.o b8;have c9:=cB u.o b9;have Z:=cB u.o aS;have aa:=cB u.o aU;have ag:=cB u.o aV;by_cases aR:m<n
  ·have A:=vG.o wr m (aF J.o u.o) aR;have aG:=UM.o;clear zW Y sI;go_wp2_with fail;refine A.mono ?_;rintro e w3 ⟨I,rfl,aO,aP,aQ,a⟩;have d0:=cB a c0;have d1:=cB a c1;have d2:=cB a c2;have d3:=cB a c3;have d4:=cB a c4;have d5:=cB a c5;have d6:=cB a c6;have d7:=cB a c7;have d8:=cB a c8;have d9:=cB a c9;have K:=cB a Z;have L:=cB a aa;have M:=cB a ag;clear c0 c1 c2 c3 c4 c5 c6 c7 c8 c9 Z aa ag;have EU:=HT.o.below a;obtain⟨w4,s⟩:∃ x,w3.alloc (.cells #[.pointer (some (aD r 0)),.pointer (some (aD I 0))] 95)=x:=⟨_,rfl⟩
   have l:Bw w3 w4:=by rw[<- s]; exact fq _ _
   have nT:=aF u.o (aF a l);have aH:=ax.o;have aI:=aG w4 w3.heap.size r I k (aF J.o nT) (by omega) (EU.below l) (by rw[<- aH]; exact aO.below l) (by rw[<- s]; simp) (by rw[<- s]; simp);have aJ:=Zh nT;clear aG A aO aP aQ a EU l nT aH;go_wp2_with fail;refine aI.mono ?_;rintro e S ⟨r2,rfl,y,d,g,z⟩;have B:=Zh y;have jl:=Zh (aF aJ.o z);have UT:Hid (w.heap.size<=r2/\r2<S.heap.size):=⟨Q6 J.o.size (Q6 aJ.o.size d),g⟩;clear aI y d g z s;go_wp2;go_roundw
   case rel=>exact⟨m+1,k+1,r2,by omega,by show _=_; rw[ax.o],by go_num,rfl,B.o,UT.o,jl.o⟩
   case measure=>simp[intOf]; omega
  ·have aY:n=m:=by omega
   subst aY;have aZ:k=n-1:=by have:=ax.o; omega
   subst aZ;have aK:=zW.o wr r (aF J.o u.o) HT.o HR.o.2;clear vG UM zW aR hm;go_wp2_with fail;refine aK.mono ?_;rintro e w3 ⟨r3,rfl,EU,bz,bA,a⟩;have d0:=cB a c0;have d1:=cB a c1;have d2:=cB a c2;have d3:=cB a c3;have d4:=cB a c4;have d5:=cB a c5;have d6:=cB a c6;have d7:=cB a c7;have d8:=cB a c8;have d9:=cB a c9;have K:=cB a Z;have L:=cB a aa;have M:=cB a ag;clear c0 c1 c2 c3 c4 c5 c6 c7 c8 c9 Z aa ag;have N:=Zh (aF J.o (aF u.o a));have bf:=Zh EU;obtain⟨w4,s⟩:∃ x,w3.alloc (.cells #[.pointer (some (aD r3 0))] 95)=x:=⟨_,rfl⟩;have l:Bw w3 w4:=by rw[<- s]; exact fq _ _
   have H:=Y.o w4 w3.heap.size r3 (aF N.o l) (bf.o.below l) (by rw[<- s]; simp);have nH:=Zh l;clear aK EU bz bA a l Y HT HR u
   cases gr with
   | true =>
    rw[Qo rfl]at H;go_wp2_with fail;refine H.mono ?_;rintro e S ⟨T,rfl,y,d,g,z⟩;have i:=aF nH.o z;have e0:=cB i d0;have e1:=cB i d1;have e2:=cB i d2;have e3:=cB i d3;have e4:=cB i d4;have e5:=cB i d5;have e6:=cB i d6;have e7:=cB i d7;have e8:=cB i d8;have e9:=cB i d9;have bg:=cB i K;have bq:=cB i L;have bu:=cB i M;clear d0 d1 d2 d3 d4 d5 d6 d7 d8 d9 K L M;have jl:=Zh (aF N.o i);have B:=Zh y;have UT:Hid (w.heap.size<=T/\T<S.heap.size):=⟨Q6 N.o.size (Q6 nH.o.size d),g⟩;clear H y d g z i s;by_cases W:0<ol
    ·have DF:=Qv W;have Py:Hid (R=T3):=by show _=_; rw[v.o,Qo W]
     obtain⟨w6,mE⟩:∃ x,S.alloc (.cells #[.pointer (some (aD T 0))] 95)=x:=⟨_,rfl⟩;have p:Bw S w6:=by rw[<- mE]; exact fq _ _
     have O:=sI.o w6 S.heap.size T (aF jl.o p) (B.o.below p) (by rw[<- mE]; simp);have vo:=Zh (aF jl.o p);clear p sI v;go_wp2_with fail;refine O.mono ?_;rintro e w7 ⟨r7,rfl,U,d,g,jD⟩;have HP:Hid (dw 135 F w T3 (.returned (.pointer (some (aD r7 0)))) w7):=⟨r7,rfl,U,Q6 vo.o.size d,g,aF vo.o jD⟩;clear O U d g jD mE;go_wp2;go_ret;rw[Py.o];exact HP.o
    ·have DF:=ZW W;have Py:Hid (R=X):=by show _=_; rw[v.o,Qu W]
     obtain rfl:ol=0:=by omega
     clear sI v W DF;go_wp2;go_ret;rw[Py.o];exact⟨T,rfl,B.o,UT.o.1,UT.o.2,jl.o⟩
   | false =>
    rw[Qu (by decide)]at H;go_wp2_with fail;refine H.mono ?_;rintro e S ⟨T,rfl,y,d,g,z⟩;have i:=aF nH.o z;have e0:=cB i d0;have e1:=cB i d1;have e2:=cB i d2;have e3:=cB i d3;have e4:=cB i d4;have e5:=cB i d5;have e6:=cB i d6;have e7:=cB i d7;have e8:=cB i d8;have e9:=cB i d9;have bg:=cB i K;have bq:=cB i L;have bu:=cB i M;clear d0 d1 d2 d3 d4 d5 d6 d7 d8 d9 K L M;have jl:=Zh (aF N.o i);have B:=Zh y;have UT:Hid (w.heap.size<=T/\T<S.heap.size):=⟨Q6 N.o.size (Q6 nH.o.size d),g⟩;clear H y d g z i s;by_cases W:0<ol
    ·have DF:=Qv W;have Py:Hid (R=T3):=by show _=_; rw[v.o,Qo W]
     obtain⟨w6,mE⟩:∃ x,S.alloc (.cells #[.pointer (some (aD T 0))] 95)=x:=⟨_,rfl⟩;have p:Bw S w6:=by rw[<- mE]; exact fq _ _
     have O:=sI.o w6 S.heap.size T (aF jl.o p) (B.o.below p) (by rw[<- mE]; simp);have vo:=Zh (aF jl.o p);clear p sI v;go_wp2_with fail;refine O.mono ?_;rintro e w7 ⟨r7,rfl,U,d,g,jD⟩;have HP:Hid (dw 135 F w T3 (.returned (.pointer (some (aD r7 0)))) w7):=⟨r7,rfl,U,Q6 vo.o.size d,g,aF vo.o jD⟩;clear O U d g jD mE;go_wp2;go_ret;rw[Py.o];exact HP.o
    ·have DF:=ZW W;have Py:Hid (R=X):=by show _=_; rw[v.o,Qu W]
     obtain rfl:ol=0:=by omega
     clear sI v W DF;go_wp2;go_ret;rw[Py.o];exact⟨T,rfl,B.o,UT.o.1,UT.o.2,jl.o⟩
