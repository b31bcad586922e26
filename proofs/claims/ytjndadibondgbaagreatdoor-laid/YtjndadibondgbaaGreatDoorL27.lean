import Derived.Test.YtjndadibondgbaaGreatDoorL23
import Derived.Test.YtjndadibondgbaaGreatDoorL26
set_option linter.all false
set_option maxRecDepth 100000
set_option maxHeartbeats 16000000
namespace Go.Proofs.Zz
open Go.RowKit Go.Shelf
variable {a b b2 bs c d e k l2 la lb m m1 mid n np p r r0 s s0 x y:Nat} {A B P ys:List aa} {E:El aa (List Int)} {w:World}
theorem anO{len:Nat}(ha:a=p)(hm:m=p+la)(hb:b=p+la+lb)(hlen:b<=len)(hl:len<=1000000)(h1:2<=la)(h2:2<=lb)(hmid:mid=(a+b) / 2) :
  wrap64 ((m:Int)-(a:Int))=(la:Int)/\wrap64 ((b:Int)-(m:Int))=(lb:Int)/\((la:Int)==1)=false/\((lb:Int)==1)=false/\wrap64 ((mid:Int)+(m:Int))=((mid+m:Nat):Int)/\a<m/\m<b/\m=a+la/\b=m+lb/\mid+m<=4000000/\a<=1000000/\b<=1000000/\m<=1000000:=by
 have d:¬ (la:Int)=1:=by omega
 have e:¬ (lb:Int)=1:=by omega
 refine⟨by unfold wrap64; omega,by unfold wrap64; omega,by simpa using d,by simpa using e,by unfold wrap64; omega,by omega,by omega,by omega,by omega,by omega,by omega,by omega,by omega⟩
theorem anP(ha:a=p)(hm:m=p+la)(hb:b=p+la+lb)(h1:2<=la)(h2:2<=lb):a+2<=m/\m+2<=b:=by omega
theorem anQ(h:b<=n)(hl:n<=4000000):wrap64 ((n:Int)-(b:Int))=((n-b:Nat):Int):=by unfold wrap64; omega
theorem anR(S:Span a m b mid n s0 r0)(hl:n<=4000000)(hm:m<=1000000)(h:a<m):1<=n/\s0<=1000000/\r0<=1000000/\s0<=r0:=by
 have d:=S.h1;have e:=S.h2;omega
theorem ahN(h1:a<m)(h2:m<b)(hm:mid=(a+b) / 2)(h:mid<m):b<=mid+m:=by omega
theorem anS{Q:List aa}(ha:a=P.length)(hm:m=a+A.length)(hb:b=m+B.length)(h:a<=c/\c<m/\m<=n-1-c/\n-1-c<b/\1<=n/\c<=n-1) :
  (∃ d j,P++A++B++Q=d++A.getD (c-a) iz::j/\c=d.length)/\(∃ d j,P++A++B++Q=d++B.getD (n-1-c-m) iz::j/\n-1-c=d.length)/\A.getD (c-a) iz∈A/\B.getD (n-1-c-m) iz∈B:=by
 obtain⟨A1,A2,e,o,f⟩:=ll A (c-a) (by omega);obtain⟨B1,B2,g,p,i⟩:=ll B (n-1-c-m) (by omega)
 cases A2 with
 | nil => simp at f; omega
 | cons x A3 =>
  cases B2 with
  | nil => simp at i; omega
  | cons y B3 =>
   have k:A.getD (c-a) iz=x:=getD_eq e o.symm;have l:B.getD (n-1-c-m) iz=y:=getD_eq g p.symm;rw[k,l];refine⟨⟨P++A1,A3++B++Q,by rw[e]; simp,by rw[ZC]; omega⟩,⟨P++A++B1,B3++Q,by rw[g]; simp,by simp only[ZC]; omega⟩,by rw[e]; simp,by rw[g]; simp⟩
theorem anT{len:Nat}(hn:n=np+1)(he:e=n-1-c)(h:c<m/\n-1-c<b/\c<=n-1)(hmb:m<b)(hlen:b<=len)(hl:len<=1000000):(np:Int)-(c:Int)=(e:Int)/\c<len/\e<len/\c+1<=1000000/\wrap64 ((np:Int)-(c:Int))=(e:Int):=by
 refine⟨by omega,by omega,by omega,by omega,by unfold wrap64; omega⟩
theorem anU(S:Span a m b mid n s0 r0)(h1:s0<=s/\s<=r/\r<=r0)(h2:s<=c/\c<r):a<=c/\c<m/\m<=n-1-c/\n-1-c<b/\1<=n/\c<=n-1:=S.h7 c (by omega) (by omega)
theorem anV(S:Span a m b mid n s0 r0)(h1:s0<=s/\s<=s/\s<=r0)(hn:n=np+1)(hl:n<=4000000):s<=n/\wrap64 ((n:Int)-(s:Int))=((n-s:Nat):Int)/\(n:Int)-(s:Int)=((n-s:Nat):Int):=by
 have d:=S.h3;refine⟨by omega,by unfold wrap64; omega,by omega⟩
theorem dec_lt(h:¬ a<b):decide ((a:Int)<(b:Int))=false:=Qg (by omega)
theorem acF(h:1<=n):n=n-1+1:=by omega
theorem nat_eq(h1:s<=r)(h2:¬ s<r):s=r:=by omega
theorem afO(h:c<r)(h2:r<=k):c<=k:=by omega
theorem or_zero(h:¬ (0<x/\0<y)):x=0∨y=0:=by omega
theorem ajt(h:¬ (0<x/\0<y))(h0:0<x):y=0:=by omega
theorem aju(h0:¬ 0<x):x=0:=by omega
theorem ajv(h:s<=c/\c<r):c-s<r-s:=by omega
theorem ajw(h:s<=c/\c<r):r-(c+1)<r-s:=by omega
structure anW(P A1 A2 B1 B2:List aa)(a m b mid s e N len:Nat):Prop where
 t1:s<m↔0<A2.length
 t2:m<e↔0<B1.length
 t3:a<s↔0<A1.length
 t4:s<mid↔0<B1.length
 t5:mid<e↔0<A2.length
 t6:e<b↔0<B2.length
 n1:A1.length+B1.length<=N
 n2:A2.length+B2.length<=N
 q1:s=P.length+A1.length
 q2:m=P.length+A1.length+A2.length
 q3:e=P.length+A1.length+A2.length+B1.length
 q4:mid=P.length+A1.length+B1.length
 q5:e<=len/\mid<=len/\e<=1000000
 q6:e=P.length+(A1.length+B1.length)+A2.length
 q7:b=P.length+(A1.length+B1.length)+A2.length+B2.length
 q8:mid=P.length+(A1.length+B1.length)
theorem ajx{lt:aa->aa->Bool}{A1 A2 B1 B2:List aa}{N len:Nat}(h:Four lt A B A1 A2 B1 B2 a m b mid s e)(ha:a=P.length)(hm:m=a+A.length)(hb:b=m+B.length)(h2:a+2<=m)(h3:m+2<=b)(hmid:mid=(a+b) / 2)(hN:A.length+B.length<=N+1)(hlen:b<=len)(hl:len<=1000000):anW P A1 A2 B1 B2 a m b mid s e N len:=by
 have d:=h.l1;have f:=h.l2;have g:=h.l3;have i:=h.l4;have j:=h.l5;refine⟨by omega,by omega,by omega,by omega,by omega,by omega,by omega,by omega,by omega,by omega,by omega,by omega,by omega,by omega,by omega,by omega⟩
def Vs(N:Nat):Prop:=
 ∀ (blk cap len a m b g:Nat) (lb:Array Value) (cf:aa->aa->Int) (ok:aa->Prop) (w0:World) (_:OE Tryz.prog g lb cf blk w0 ok) (_:∀ args w,(callFunc g args).run Tryz.prog w=.ok (.enter g args) w) (_:Ahead (gI cf))
  (P A B Q:List aa) (R:List Value) (w:World) (_:GB w blk 22 (SL (P++A++B++Q) R)) (_:bS (gI cf) A) (_:bS (gI cf) B) (_:∀ y∈A,ok y) (_:∀ y∈B,ok y) (_:Kept (fun b=>b≠blk) w0 w) (_:a=P.length) (_:m=P.length+A.length) (_:b=P.length+A.length+B.length) (_:b<=len) (_:len<=1000000) (_:0<A.length) (_:0<B.length) (_:A.length+B.length<=N),
  Calls Tryz.prog 160 #[.slice (some (aD blk 0)) len cap,.int .i64 a,.int .i64 m,.int .i64 b,.func (.func g) #[] lb] w fun e w'=>e=.returned (.tuple #[])/\GB w' blk 22 (SL (P++mg (gI cf) A B++Q) R)/\Kept (fun b=>b≠blk) w w'
theorem TI(N:Nat)(ih:Vs N)(blk cap len a m b g:Nat)(lb:Array Value)(cf:aa->aa->Int)(ok:aa->Prop)(w0:World)(hC:OE Tryz.prog g lb cf blk w0 ok)(eg:∀ args w,(callFunc g args).run Tryz.prog w=.ok (.enter g args) w)(O:Ahead (gI cf))
  (P A B Q:List aa) (R:List Value) (w:World) (hG:GB w blk 22 (SL (P++A++B++Q) R)) (hA:bS (gI cf) A) (hB:bS (gI cf) B) (hoA:∀ y∈A,ok y) (hoB:∀ y∈B,ok y) (hK:Kept (fun b=>b≠blk) w0 w) (ha:a=P.length) (hm:m=P.length+A.length) (hb:b=P.length+A.length+B.length) (hlen:b<=len) (hl:len<=1000000) (h1:2<=A.length) (h2:2<=B.length) (hN:A.length+B.length<=N+1) :
  Calls Tryz.prog 160 #[.slice (some (aD blk 0)) len cap,.int .i64 a,.int .i64 m,.int .i64 b,.func (.func g) #[] lb] w fun e w'=>e=.returned (.tuple #[])/\GB w' blk 22 (SL (P++mg (gI cf) A B++Q) R)/\Kept (fun b=>b≠blk) w w':=by
 obtain⟨f,C⟩:∃ f,f=(a+b) / 2:=⟨_,rfl⟩
 have aj:Hid _:=zL C;obtain⟨aR,aS,aT,aU,ah,K,L,aH,aI,sN,bn,bq,aV⟩:=anO ha hm hb hlen hl h1 h2 C;obtain⟨aW,aX⟩:=anP ha hm hb h1 h2;have HG:Hid (GB w blk 22 (SL (P++A++B++Q) R)):=hG;have HC:Hid _:=hC;have T:Hid _:=hoA;have U:Hid _:=hoB;have HA:Hid _:=hA;have HB:Hid _:=hB;have HK:Hid _:=hK;have j:Hid _:=XX ha (XX aH (XX aI (XX hlen (XX hl (XX hN C)))));have IH:Hid _:=ih;obtain⟨la,aJ⟩:=eX (A.length)
 obtain⟨l2,aK⟩:=eX (B.length)
 rw[aJ]at aR aT h1;rw[aK]at aS aU h2;clear hG hC hoA hoB hA hB hK ha hm hb hlen hN ih C aH aI aJ aK;go_enter Tryz.func160,Tryz.ntmps160;go_upto_region 25 with fail;rw[aj.o];clear aj;obtain⟨n,hn⟩:=eY (f+m)
 rw[<- hn]at ah sN;have HN:Hid _:=hn;clear hn;go_upto_if 140 with fail;go_cut [20,21] from 25 to 146 (fun s r S=>∃ s0 r0:Nat,s=.int .i64 s0/\r=.int .i64 r0/\w=S/\Hid (Span a m b f n s0 r0))
 case first=>
  by_cases Y:f<m
  ·have bf:wrap64 ((n:Int)-(b:Int))=((n-b:Nat):Int):=anQ (by rw[HN.o]; exact ahN K L j.o.2.2.2.2.2.2 Y) sN;have V:Hid (Span a m b f n (n-b) f):=by show Span _ _ _ _ _ _ _; rw[HN.o]; exact afM K L j.o.2.2.2.2.2.2 Y
   go_wp2_with fail;go_meet;exact⟨n-b,f,Ey (by rw[HN.o]; exact ahN K L j.o.2.2.2.2.2.2 Y),rfl,rfl,V.o⟩
  ·have V:Hid (Span a m b f n a m):=by show Span _ _ _ _ _ _ _; rw[HN.o]; exact afN K L j.o.2.2.2.2.2.2 Y
   go_wp2_with fail;go_meet;exact⟨a,m,rfl,rfl,rfl,V.o⟩
 case rest=>
 obtain⟨s0,r0,rfl,rfl,rfl,V⟩:=hcut;have ak:=anR V.o sN aV K;obtain⟨X,aY⟩:∃ X,n=X+1:=⟨n-1,acF ak.1⟩
 rw[ah];clear ah;subst aY;have F:((X+1:Nat):Int)=(X:Int)+1:=rfl;rw[F];clear F;obtain⟨-,bu,aZ,xS⟩:=ak;go_wp2;go_loopw [20,21] (fun sv rv wr=>∃ s r k:Nat,sv=.int .i64 s/\rv=.int .i64 r/\s<=r/\r<=1000000/\wr=w.drewN k/\Hid (yn (gI cf) A B a m (X+1) s0 r0 s r)) (fun sv rv _=>(intOf rv).toNat-(intOf sv).toNat)
 case atStart=>exact⟨s0,r0,0,rfl,rfl,xS,aZ,rfl,⟨⟨Qs _,xS,Qs _⟩,XG rfl,XG rfl⟩⟩
 case round=>
  obtain⟨s,r,k,rfl,rfl,aL,hr,rfl,HP⟩:=hrel;by_cases ai:s<r
  ·have hh:=Lf ai;obtain⟨c,hc⟩:∃ c,c=(s+r) / 2:=⟨_,rfl⟩
   rw[<- hc]at hh;have au:Hid _:=zL hc;clear hc;have h7:=anU V.o HP.o.le hh;obtain⟨⟨L1,L2,eL,lL⟩,⟨M1,M2,eM,lM⟩,mA,mB⟩:=anS (P:=P) (Q:=Q) j.o.1 j.o.2.1 j.o.2.2.1 h7;have kx:=(HG.o.drewN k).qA eL lL;have ky:=(HG.o.drewN k).qA eM lM;have av:=HP.o.step hh;have G:ok _:=T.o _ mA;have l:ok _:=U.o _ mB;obtain⟨e,he⟩:=eY (X+1-1-c)
   have aO:=anT rfl he ⟨h7.2.1,h7.2.2.2.1,h7.2.2.2.2.2⟩ L j.o.2.2.2.1 hl;generalize A.getD (c-a) iz=x at *;generalize B.getD (X+1-1-c-m) iz=y at *;rw[<- he]at ky;have H:∀ q,Calls Tryz.prog g (#[y.val,x.val]++lb) ((w.drewN k).drewN q) fun e W'=>e=.returned (.int .i64 (cf y x))/\∃ m,W' = ((w.drewN k).drewN q).drewN m:=fun q=>HC.o _ y x ((HK.o.trans (ZE _ _)).trans (ZE _ _)) l G
   obtain⟨bz,bA,bB,bC,bD⟩:=aO;have ax:Hid _:=av;have HH:Hid _:=hh;clear av hh h7 eL lL eM lM mA mB G l he HP L1 L2 M1 M2;obtain⟨wq,D⟩:=eX (w.drewN k)
   have HQ:Hid _:=D;rw[D]at kx ky H ⊢;clear D;obtain⟨jD,cO,gK⟩:=x;obtain⟨sZ,je,tZ⟩:=y;unfold aa.val at kx ky H;simp only at kx ky H;by_cases aN:cf ⟨sZ,je,tZ⟩ ⟨jD,cO,gK⟩<0
   ·go_upto_region 35 with fail;rw[au.o];go_quiet (first | (go_at_fn g; refine Jm (H _)));go_wp2;go_roundw
    case rel=>exact⟨s,c,k+nq,rfl,rfl,HH.o.1,afO HH.o.2 hr,by rw[<- HQ.o,Jn],ax.o.2 (zK aN)⟩
    case measure=>
     simp only[intOf,ZY];exact ajv HH.o
   ·go_upto_region 35 with fail;rw[au.o];go_quiet (first | (go_at_fn g; refine Jm (H _)));go_wp2;go_roundw
    case rel=>exact⟨c+1,r,k+nq,rfl,rfl,HH.o.2,hr,by rw[<- HQ.o,Jn],ax.o.1 (vK aN)⟩
    case measure=>
     have ec:(c:Int)+1=((c+1:Nat):Int):=rfl;simp only[intOf,ec,ZY];exact ajw HH.o
  ·obtain rfl:s=r:=nat_eq aL ai;obtain⟨A1,A2,B1,B2,M⟩:=HP.o.four O V.o HA.o HB.o j.o.2.1 j.o.2.2.1;have W:=anV V.o HP.o.le rfl sN;have ay:=M.mg HB.o;have az:=M.rows HA.o HB.o;obtain⟨E,aM⟩:=eY (X+1-s)
   rw[<- aM]at M W;have af:=ajx (P:=P) M j.o.1 j.o.2.1 j.o.2.2.1 aW aX j.o.2.2.2.2.2.2 j.o.2.2.2.2.2.1 j.o.2.2.2.1 hl;have aA:(X:Int)+1-(s:Int)=(E:Int):=W.2.2;have aB:GB (w.drewN k) blk 22 (SL (P++A1++A2++B1++(B2++Q)) R):=by
    have h:=HG.o.drewN k;have e:P++A1++A2++B1++(B2++Q)=P++A++B++Q:=by rw[M.eA,M.eB]; simp
    rw[e]; exact h
   have Z:(∀ y∈A1,ok y)/\(∀ y∈A2,ok y)/\(∀ y∈B1,ok y)/\(∀ y∈B2,ok y):=⟨fun y l=>T.o y (by rw[M.eA]; exact Zx.2 (XG l)),fun y l=>T.o y (by rw[M.eA]; exact Zx.2 (Or.inr l)),fun y l=>U.o y (by rw[M.eB]; exact Zx.2 (XG l)),fun y l=>U.o y (by rw[M.eB]; exact Zx.2 (Or.inr l))⟩
   have lI:Kept (fun b=>b≠blk) w (w.drewN k):=ZE _ _;have aP:=W.1;have YJ:Hid _:=aB;have nO:Hid _:=lI;have Ck:Hid _:=Z;have aQ:Hid _:=ay;have p:Hid _:=az;have i:Hid _:=af;have bg:E<=1000000:=af.q5.2.2;clear aB lI Z ay az af M HP V W aM aL ai HG T U;obtain⟨wq,D⟩:=eX (w.drewN k)
   rw[D]at YJ nO ⊢;clear D;go_upto_region 39 with fail
   try rw[aA]
   clear aA aP;go_cut [185] from 178 to 185 (fun v S=>v=.bool (decide (0<A2.length/\0<B1.length))/\wq=S)
   case first=>
    by_cases G:s<m
    ·by_cases l:m<E
     ·have I:Hid (decide (0<A2.length/\0<B1.length)=true):=Qy ⟨i.o.t1.1 G,i.o.t2.1 l⟩;go_wp2_with fail;go_meet;exact⟨by rw[I.o],rfl⟩
     ·have I:Hid (decide (0<A2.length/\0<B1.length)=false):=Qg (fun h=>l (i.o.t2.2 h.2));have aC:decide ((m:Int)<(E:Int))=false:=dec_lt (by assumption);go_wp2_with fail;go_meet;exact⟨by rw[I.o],rfl⟩
    ·have I:Hid (decide (0<A2.length/\0<B1.length)=false):=Qg (fun h=>G (i.o.t1.2 h.1));have aF:decide ((s:Int)<(m:Int))=false:=dec_lt (by assumption);go_wp2_with fail;go_meet;exact⟨by rw[I.o],rfl⟩
   case rest=>
   obtain⟨rfl,rfl⟩:=hcut;go_upto_if 185 with fail;go_cut [] from 185 to 191 (fun S=>Hid (GB S blk 22 (SL (P++A1++B1++(A2++B2++Q)) R)/\Kept (fun b=>b≠blk) w S))
   case first=>
    by_cases d:0<A2.length/\0<B1.length
    ·have aG:=TG blk cap len s m E (.func (.func g) #[] lb) (P++A1) A2 B1 (B2++Q) R wq YJ.o d.1 d.2 (by rw[ZC]; exact i.o.q1) (by rw[ZC]; exact i.o.q2) (by rw[ZC]; exact i.o.q3) i.o.q5.1 hl;rw[Qy d];clear d;go_wp2_with fail;refine aG.mono ?_;rintro e w2 ⟨rfl,t,u⟩;clear aG;have z:Hid _:=t;have pg:Hid _:=u;clear t u;go_wp2_with fail;go_meet;refine⟨?_,nO.o.trans pg.o⟩;have e:P++A1++B1++(A2++B2++Q)=P++A1++B1++A2++(B2++Q):=by simp
     rw[e];exact z.o
    ·rw[Qg d];have HE:Hid (P++A1++B1++(A2++B2++Q)=P++A1++A2++B1++(B2++Q)):=by
      show _=_
      by_cases h0:0<A2.length
      ·have h1:B1=[]:=QF (ajt d h0);rw[h1]; simp
      ·have h1:A2=[]:=QF (aju h0);rw[h1]; simp
     clear d;go_wp2_with fail;go_meet;refine⟨?_,nO.o⟩;rw[HE.o];exact YJ.o
   case rest=>
   have ag:Hid _:=hcut.o.1;have pI:Hid _:=hcut.o.2;clear hcut YJ nO;go_upto_region 41 with fail;go_cut [199] from 192 to 199 (fun v S=>v=.bool (decide (0<A1.length/\0<B1.length))/\wc=S)
   case first=>
    by_cases G:a<s
    ·by_cases l:s<f
     ·have I:Hid (decide (0<A1.length/\0<B1.length)=true):=Qy ⟨i.o.t3.1 G,i.o.t4.1 l⟩;go_wp2_with fail;go_meet;exact⟨by rw[I.o],rfl⟩
     ·have I:Hid (decide (0<A1.length/\0<B1.length)=false):=Qg (fun h=>l (i.o.t4.2 h.2));have aC:decide ((s:Int)<(f:Int))=false:=dec_lt (by assumption);go_wp2_with fail;go_meet;exact⟨by rw[I.o],rfl⟩
    ·have I:Hid (decide (0<A1.length/\0<B1.length)=false):=Qg (fun h=>G (i.o.t3.2 h.1));have aF:decide ((a:Int)<(s:Int))=false:=dec_lt (by assumption);go_wp2_with fail;go_meet;exact⟨by rw[I.o],rfl⟩
   case rest=>
   obtain⟨rfl,rfl⟩:=hcut;go_upto_if 199 with fail;go_cut [] from 199 to 205 (fun S=>Hid (GB S blk 22 (SL (P++mg (gI cf) A1 B1++A2++B2++Q) R)/\Kept (fun b=>b≠blk) w S))
   case first=>
    by_cases d:0<A1.length/\0<B1.length
    ·have J:=IH.o blk cap len a s f g lb cf ok w0 HC.o eg O P A1 B1 (A2++B2++Q) R wc ag.o p.o.1 p.o.2.2.1 Ck.o.1 Ck.o.2.2.1 (HK.o.trans pI.o) j.o.1 i.o.q1 i.o.q4 i.o.q5.2.1 hl d.1 d.2 i.o.n1;rw[Qy d];clear d;go_wp2_with fail;refine J.mono ?_;rintro e w2 ⟨rfl,t,u⟩;clear J;have z:Hid _:=t;have pg:Hid _:=u;clear t u;go_wp2_with fail;go_meet;refine⟨?_,pI.o.trans pg.o⟩;have e:P++mg (gI cf) A1 B1++A2++B2++Q=P++mg (gI cf) A1 B1++(A2++B2++Q):=by simp
     rw[e];exact z.o
    ·rw[Qg d];have HE:Hid (P++mg (gI cf) A1 B1++A2++B2++Q=P++A1++B1++(A2++B2++Q)):=by
      show _=_
      rw[OJ p.o.1 p.o.2.2.1 (or_zero d)];simp
     clear d;go_wp2_with fail;go_meet;refine⟨?_,pI.o⟩;rw[HE.o];exact ag.o
   case rest=>
   have z:Hid _:=hcut.o.1;have pg:Hid _:=hcut.o.2;clear hcut ag pI;have ae:P++mg (gI cf) A B++Q=P++mg (gI cf) A1 B1++mg (gI cf) A2 B2++Q:=by rw[aQ.o]; simp
   have pq:Hid _:=ae;clear ae;by_cases d:0<A2.length/\0<B2.length
   ·have G:f<E:=i.o.t5.2 d.1;have l:E<b:=i.o.t6.2 d.2;have J:=IH.o blk cap len f E b g lb cf ok w0 HC.o eg O (P++mg (gI cf) A1 B1) A2 B2 Q R wc z.o p.o.2.1 p.o.2.2.2 Ck.o.2.1 Ck.o.2.2.2 (HK.o.trans pg.o) (by rw[ZC,nH]; exact i.o.q8) (by rw[ZC,nH]; exact i.o.q6) (by rw[ZC,nH]; exact i.o.q7) j.o.2.2.2.1 hl d.1 d.2 i.o.n2;clear d;go_wp2_with fail;refine J.mono ?_;rintro e w2 ⟨rfl,t,u⟩;clear J;have Co:Hid _:=t;have xD:Hid _:=u;clear t u;go_wp2;go_end0;exact⟨rfl,by rw[pq.o]; exact Co.o,pg.o.trans xD.o⟩
   ·have HE:Hid (P++mg (gI cf) A1 B1++mg (gI cf) A2 B2++Q=P++mg (gI cf) A1 B1++A2++B2++Q):=by
     show _=_
     rw[OJ p.o.2.1 p.o.2.2.2 (or_zero d)];simp
    by_cases G:f<E
    ·have l:¬ E<b:=fun h=>d ⟨i.o.t5.1 G,i.o.t6.1 h⟩
     have aC:decide ((E:Int)<(b:Int))=false:=dec_lt (by assumption);clear d;go_wp2;go_end0;exact⟨rfl,by rw[pq.o,HE.o]; exact z.o,pg.o⟩
    ·have aF:decide ((f:Int)<(E:Int))=false:=dec_lt (by assumption);clear d;go_wp2;go_end0;exact⟨rfl,by rw[pq.o,HE.o]; exact z.o,pg.o⟩
theorem sj:∀ N,Vs N
 | 0 => fun _ _ _ _ _ _ _ _ _ _ _ _ _ _ _ A B _ _ _ _ _ _ _ _ _ _ _ _ _ _ h1 h2 hN => by omega
 | N+1 => fun blk cap len a m b g lb cf ok w0 hC eg O P A B Q R w hG hA hB hoA hoB hK ha hm hb hlen hl h1 h2 hN => by
  by_cases hA1:A.length=1
  ·obtain⟨x,rfl⟩:=List.length_eq_one_iff.1 hA1;have e:P++[x]++B++Q=P++x::B++Q:=by simp
   rw[e]at hG;exact OI blk cap len a m b g lb cf ok w0 hC eg O P B Q x R w hG hB (hoA x (by simp)) hoB hK ha hm hb hlen hl
  ·by_cases hB1:B.length=1
   ·obtain⟨x,rfl⟩:=List.length_eq_one_iff.1 hB1;have e:P++A++[x]++Q=P++A++x::Q:=by simp
    rw[e]at hG;exact Lg blk cap len a m b g lb cf ok w0 hC eg O P A Q x R w hG hA (hoB x (by simp)) hoA hK ha hm hb hlen hl (by omega)
   ·exact TI N (sj N) blk cap len a m b g lb cf ok w0 hC eg O P A B Q R w hG hA hB hoA hoB hK ha hm hb hlen hl (by omega) (by omega) hN
def bR{α:Type}(lt:α->α->Bool)(bs:Nat)(L M:List α):Prop:=
 ∀ P:List α->List α->Prop,(∀ L,L.length<=bs->P L (mg lt [] L))->(∀ A L M,A.length=bs->P L M->P (A++L) (mg lt [] A++M))->P L M
section
variable {α:Type} {lt:α->α->Bool} {bs:Nat}
theorem bR.last{L:List α}(h:L.length<=bs):bR lt bs L (mg lt [] L):=fun _ a _=>a L h
theorem bR.more{A L M:List α}(h:A.length=bs)(k:bR lt bs L M):bR lt bs (A++L) (mg lt [] A++M):=fun P b a=>a A L M h (k P b a)
theorem bR.apart{L M:List α}(h:bR lt bs L M):(L.length<=bs/\M=mg lt [] L)∨∃ A a b,A.length=bs/\L=A++a/\M=mg lt [] A++b/\bR lt bs a b:=
 (h (fun L M=>bR lt bs L M/\((L.length<=bs/\M=mg lt [] L)∨∃ A a b,A.length=bs/\L=A++a/\M=mg lt [] A++b/\bR lt bs a b))
  (fun _ d=>⟨bR.last d,.inl ⟨d,rfl⟩⟩) (fun A L M e k=>⟨bR.more e k.1,.inr ⟨A,L,M,e,rfl,rfl,k.1⟩⟩)).2
theorem yt(L:List α):(mg lt [] L).length=L.length:=by rw[nH]; simp
theorem bR.len{L M:List α}(h:bR lt bs L M):M.length=L.length:=
 h (fun L M=>M.length=L.length) (fun _ _=>yt _) (fun A L M _ a=>by rw[ZC,ZC,a,yt])
theorem bR.nil_eq{L M:List α}(h:bR lt bs L M)(h0:0<bs)(hL:L=[]):M=[]:=by
 have a:=h.len;rw[hL]at a;exact QF a
theorem bR.small{L M:List α}(h:bR lt bs L M)(h0:0<bs)(hl:L.length<=bs):M=mg lt [] L:=by
 rcases h.apart with⟨_,h⟩ | ⟨A,L',M',hA,rfl,rfl,k⟩
 ·exact h
 ·rw[ZC]at hl;have e:L' = []:=QF (by omega);rw[k.nil_eq h0 e,e,XB,XB]
theorem bR.split{L M:List α}(h:bR lt bs L M)(hl:bs<L.length):∃ A a b,L=A++a/\A.length=bs/\M=mg lt [] A++b/\bR lt bs a b:=by
 rcases h.apart with⟨h,_⟩ | ⟨A,a,b,hA,e1,e2,k⟩
 ·omega
 ·exact⟨A,a,b,e1,hA,e2,k⟩
theorem bR.ajA{L M:List α}(h:bR lt bs L M)(h0:0<bs)(hl:2*bs<=L.length):∃ A B i j,L=A++B++i/\A.length=bs/\B.length=bs/\M=mg lt [] A++mg lt [] B++j/\bR lt bs i j:=by
 obtain⟨A,b,q,d,e,f,g⟩:=h.split (by omega);have k:L.length=A.length+b.length:=by rw[d,ZC]
 by_cases p:bs<b.length
 ·obtain⟨B,l,m,a,n,o,k2⟩:=g.split p;exact⟨A,B,l,m,by rw[d,a,QH],e,n,by rw[f,o,QH],k2⟩
 ·have a:=g.small h0 (by omega);refine⟨A,b,[],[],by rw[d,XB],e,by omega,by rw[f,a,XB],?_⟩;exact bR.last (L:=[]) (Zf _)
theorem acG(O:Ahead lt)(A B:List α):mg lt (mg lt [] A) (mg lt [] B)=mg lt [] (A++B):=by rw[V6 O,Dw]
theorem CQ(O:Ahead lt)(L:List α):bS lt (mg lt [] L):=Dy O L List.Pairwise.nil
end
def Done(lt:aa->aa->Bool)(bs:Nat)(L D L2:List aa):Prop:=∀ M,bR lt bs L2 M->bR lt bs L (D++M)
theorem Done.more{lt:aa->aa->Bool}{bs:Nat}{L D A L2:List aa}(h:Done lt bs L D (A++L2))(hA:A.length=bs):Done lt bs L (D++mg lt [] A) L2:=fun M a=>by
 rw[QH];exact h _ (bR.more hA a)
def Jo:=@yt
theorem atf(hb:b=a+20)(ha:a=d)(hn:n=d+l2)(h:b<=n):20<=l2:=by omega
theorem atg(hb:b=a+20)(ha:a=d)(hn:n=d+l2)(h:¬ b<=n):l2<=20:=by omega
theorem ath(hb:b=a+20)(ha:a=d)(hla:la=20)(hn:n=d+(la+l2))(h:b<=n)(hl:n<=1000000):b=d+la/\n=d+la+l2/\b<=1000000/\n+20-(b+20)<n+20-b:=by omega
theorem ati{d:Nat}(hb:b=a+20)(h:a<=n)(hl:n<=1000000):a<=1000000/\b<=1000020:=by omega
theorem atj(h0:0<bs)(h:bs<n)(hl:n<=1000000):2*(bs:Int)=((2*bs:Nat):Int)/\2*bs<=4000000/\0<2*bs/\n+n-2*bs<n+n-bs/\wrap64 (2*(bs:Int))=((2*bs:Nat):Int)/\(bs:Int)*2=((2*bs:Nat):Int)/\wrap64 ((bs:Int)*2)=((2*bs:Nat):Int):=by
 refine⟨by omega,by omega,by omega,by omega,by unfold wrap64; omega,by omega,by unfold wrap64; omega⟩
theorem Vt(b:Nat):(intOf (.int .i64 (b:Int))).toNat=b:=by simp[intOf]
theorem afP(h:wrap64 (b:Int)=(b:Int)):(intOf (.int .i64 (wrap64 (b:Int)))).toNat=b:=by rw[h]; exact Vt b
theorem Lh(h:k<=8000000):wrap64 (k:Int)=(k:Int):=by unfold wrap64; omega
theorem ajB(h:m1<=b)(hb:b<=1000000):m1<=8000000:=by omega
theorem an1(h:b=a+b2)(h2:b2=2*bs)(hm:m1=a+bs):m1<=b:=by omega
theorem acH(h:x<=4000000):x<=8000000:=by omega
theorem OM:(0<20)/\20<=4000000:=by omega
theorem afQ(h:¬ x<y):y<=x:=by omega
theorem atl(hb2:b2=2*bs)(hb:b=a+b2)(ha:a=d)(hn:n=d+l2)(h:b<=n):2*bs<=l2:=by omega
theorem atm(hb2:b2=2*bs)(hb:b=a+b2)(ha:a=d)(hla:la=bs)(hlb:lb=bs)(hn:n=d+(la+lb+l2))(h:b<=n)(hl:n<=1000000)(hm:m1=a+bs)(hb4:b2<=4000000)(h0:0<bs) :
  m1=d+la/\b=d+la+lb/\n=d+(la+lb)+l2/\(a:Int)+(bs:Int)=(m1:Int)/\wrap64 ((a:Int)+(bs:Int))=(m1:Int)/\(b:Int)+(b2:Int)=((b+b2:Nat):Int)/\wrap64 ((b:Int)+(b2:Int))=((b+b2:Nat):Int)/\b<=1000000/\b+b2<=8000000/\n+b2-(b+b2)<n+b2-b:=by
 refine⟨by omega,by omega,by omega,by omega,by unfold wrap64; omega,by omega,by unfold wrap64; omega,by omega,by omega,by omega⟩
theorem atn(hb2:b2=2*bs)(hb:b=a+b2)(ha:a=d)(hn:n=d+l2)(h:¬ b<=n)(hl:n<=1000000)(hm:m1=a+bs)(hb4:b2<=4000000):(a:Int)+(bs:Int)=(m1:Int)/\wrap64 ((a:Int)+(bs:Int))=(m1:Int)/\l2<=2*bs/\(m1<n->bs<l2)/\(¬ m1<n->l2<=bs)/\m1<=8000000/\n=d+l2:=by
 refine⟨by omega,by unfold wrap64; omega,by omega,fun h=>by omega,fun h=>by omega,by omega,hn⟩
theorem ato{l3:Nat}(hla:la=bs)(h2:l2=la+l3)(hl:bs<l2)(hl2:l2<=2*bs)(ha:a=d)(hm:m1=a+bs)(hn:n=d+l2):l3<=bs/\0<l3/\m1=d+la/\n=d+la+l3:=by omega
theorem TJ(blk cap n g:Nat)(lb:Array Value)(cf:aa->aa->Int)(ok:aa->Prop)(w0:World)(hC:OE Tryz.prog g lb cf blk w0 ok)(eg:∀ args w,(callFunc g args).run Tryz.prog w=.ok (.enter g args) w)(O:Ahead (gI cf))
  (L:List aa) (R:List Value) (w:World) (hG:GB w blk 22 (SL L R)) (hok:∀ x∈L,ok x) (hK:Kept (fun b=>b≠blk) w0 w) (hn:n=L.length) (hl:n<=1000000) :
  Calls Tryz.prog 146 #[.slice (some (aD blk 0)) n cap,.int .i64 n,.func (.func g) #[] lb] w fun e w'=>e=.returned (.tuple #[])/\GB w' blk 22 (SL (mg (gI cf) [] L) R)/\Kept (fun b=>b≠blk) w w':=by
 have HG:Hid (GB w blk 22 (SL L R)):=hG;have HC:Hid _:=hC;have HO:Hid _:=hok;have HK:Hid _:=hK;have HN:Hid _:=hn;clear hG hC hok hK hn;go_enter Tryz.func146,Tryz.ntmps146;go_wp2;go_loopw [7,8] (fun av bv wr=>∃ (a b:Nat) (D L1 q:List aa),av=.int .i64 a/\bv=.int .i64 b/\a<=n/\Hid (b=a+20/\a=D.length/\n=D.length+q.length/\L=L1++q/\Done (gI cf) 20 L D q/\GB wr blk 22 (SL (D++q) R)/\Kept (fun b=>b≠blk) w wr)) (fun av bv _=>n+20-(intOf bv).toNat)
 case atStart=>exact⟨0,20,[],[],L,rfl,rfl,Zf _,rfl,rfl,by rw[HN.o]; simp,rfl,fun M X=>X,HG.o,QR _ _⟩
 case round=>
  obtain⟨a,b,D,L1,q,rfl,rfl,TK,S⟩:=hrel;obtain⟨I,C,J,eL,T,E,s⟩:=S.o;have aL:=ati (d:=0) I TK hl;by_cases j:b<=n
  ·obtain⟨A,t,u,U,-⟩:=ll q 20 (atf I C J j);have V:n=D.length+(A.length+t.length):=by rw[J,u,ZC]
   have h3:=ath I C U V j hl;have k:GB wr blk 22 (SL (D++A++t) R):=by rw[u,<- QH]at E; exact E
   have f:=wZ blk cap n a b g lb cf ok w0 HC.o eg D A t R wr k (fun x Q=>HO.o x (by rw[eL,u]; simp[Q])) (HK.o.trans s) C h3.1 j hl;have W:Done (gI cf) 20 L (D++mg (gI cf) [] A) t:=by rw[u]at T; exact T.more U
   have HD:Hid _:=W;have z:Hid _:=s;have HF:Hid (n=(D++mg (gI cf) [] A).length+t.length/\L=(L1++A)++t/\b=(D++mg (gI cf) [] A).length/\n+20-(b+20)<n+20-b):=⟨by rw[ZC,Jo]; exact h3.2.1,by rw[eL,u,QH],by rw[ZC,Jo]; exact h3.1,h3.2.2.2⟩
   clear S I C J eL T E s u U V h3 k W;go_wp2_with fail;refine f.mono ?_;rintro e w2 ⟨rfl,i,m⟩;clear f;have p:Hid _:=i;have pg:Hid _:=m;clear i m;go_wp2;go_roundw
   case rel=>exact⟨b,b+20,D++mg (gI cf) [] A,L1++A,t,rfl,rfl,j,rfl,HF.o.2.2.1,HF.o.1,HF.o.2.1,HD.o,p.o,z.o.trans pg.o⟩
   case measure=>
    have ec:(b:Int)+20=((b+20:Nat):Int):=rfl;simp only[intOf,ec,ZY];exact HF.o.2.2.2
  ·have G:=atg I C J j;have f:=wZ blk cap n a n g lb cf ok w0 HC.o eg D q [] R wr (by rw[XB]; exact E) (fun x Q=>HO.o x (by rw[eL]; simp[Q])) (HK.o.trans s) C J (Qs _) hl;have X:bR (gI cf) 20 L (D++mg (gI cf) [] q):=T _ (bR.last G);have HM:Hid _:=X;have z:Hid _:=s;clear S I C J eL T E s G X;go_wp2_with fail;refine f.mono ?_;rintro e w2 ⟨rfl,i,m⟩;clear f;rw[XB]at i;have p:Hid _:=i;have pg:Hid (Kept (fun b=>b≠blk) w w2):=z.o.trans m;clear i m z;go_wp2;go_loopw [6] (fun sv wr=>∃ (N:Nat) (M:List aa),sv=.int .i64 N/\0<N/\N<=4000000/\Hid (bR (gI cf) N L M/\GB wr blk 22 (SL M R)/\Kept (fun b=>b≠blk) w wr)) (fun sv _=>n+n-(intOf sv).toNat)
   case atStart=>exact⟨20,D++mg (gI cf) [] q,rfl,OM.1,OM.2,HM.o,p.o,pg.o⟩
   case round=>
    clear HM p pg;obtain⟨N,M,rfl,r,aU,S⟩:=hrel;obtain⟨X,E,s⟩:=S.o;by_cases az:N<n
    ·obtain⟨af,F,ag,ai,aj,v,ae⟩:=atj r az hl;obtain⟨y,ak⟩:∃ y,y=2*N:=⟨_,rfl⟩
     rw[<- ak]at af F ag ai aj v ae;have K:Hid _:=ak;have HM:Hid _:=X;have aA:Hid (GB wr blk 22 (SL M R)/\Kept (fun b=>b≠blk) w wr):=⟨E,s⟩
     have aB:Hid _:=ai;clear X E s S ak ai;go_wp2;go_loopw [7,8] (fun av bv aK=>∃ (a b:Nat) (D L1 q M2:List aa),av=.int .i64 a/\bv=.int .i64 b/\a<=n/\b<=8000000/\Hid (b=a+y/\a=D.length/\n=D.length+q.length/\L=L1++q/\Done (gI cf) y L D q/\bR (gI cf) N q M2/\GB aK blk 22 (SL (D++M2) R)/\Kept (fun b=>b≠blk) w aK)) (fun av bv _=>n+y-(intOf bv).toNat)
     case atStart=>exact⟨0,y,[],[],L,M,rfl,rfl,Zf _,acH F,(QJ _).symm,rfl,by rw[HN.o]; simp,rfl,fun M X=>X,HM.o,aA.o.1,aA.o.2⟩
     case round=>
      have aM:Hid (2*(N:Int)=(y:Int)/\wrap64 (2*(N:Int))=(y:Int)):=⟨af,aj⟩
      have aC:Hid ((N:Int)*2=(y:Int)/\wrap64 ((N:Int)*2)=(y:Int)):=⟨v,ae⟩
      clear af aj v ae;obtain⟨a,b,D,L1,q,M2,rfl,rfl,TK,Ew,S⟩:=hrel;obtain⟨I,C,J,eL,T,P,E,s⟩:=S.o;obtain⟨m1,H⟩:=eY (a+N)
      have l:∀ x∈q,ok x:=fun x Q=>HO.o x (by rw[eL]; simp[Q])
      by_cases j:b<=n
      ·obtain⟨A,B,t,M3,u,U,lB,Z,sM⟩:=P.ajA r (atl K.o I C J j);have V:n=D.length+(A.length+B.length+t.length):=by rw[J,u]; simp only[ZC]
       obtain⟨h1,h2,h3,h4,h5,h6,h7,h8,h9,au⟩:=atm K.o I C U lB V j hl H F r;obtain⟨b3,ax⟩:=eY (b+y)
       rw[<- ax]at h6 h7 h9 au;have aN:Hid _:=ax;clear ax;have k:GB wr blk 22 (SL (D++mg (gI cf) [] A++mg (gI cf) [] B++M3) R):=by
        have e:D++mg (gI cf) [] A++mg (gI cf) [] B++M3=D++M2:=by rw[Z]; simp
        rw[e]; exact E
       have f:=sj _ blk cap n a m1 b g lb cf ok w0 HC.o eg O D (mg (gI cf) [] A) (mg (gI cf) [] B) M3 R wr k (CQ O A) (CQ O B) (fun x Q=>l x (by rw[u]; rcases xM.1 Q with h | h; cases h; simp[h])) (fun x Q=>l x (by rw[u]; rcases xM.1 Q with h | h; cases h; simp[h])) (HK.o.trans s) C (by rw[Jo]; exact h1) (by rw[Jo,Jo]; exact h2) j hl (by rw[Jo,U]; exact r) (by rw[Jo,lB]; exact r) (Qs _);rw[acG O]at f;have W:Done (gI cf) y L (D++mg (gI cf) [] (A++B)) t:=by rw[u]at T; exact T.more (by rw[ZC,U,lB,K.o,Nat.two_mul])
       have HD:Hid _:=W;have z:Hid _:=s;have aO:Hid _:=sM;have HF:Hid (n=(D++mg (gI cf) [] (A++B)).length+t.length/\L=(L1++(A++B))++t/\b=(D++mg (gI cf) [] (A++B)).length):=⟨by rw[ZC,Jo,ZC]; exact h3,by rw[eL,u,QH,QH,QH],by rw[ZC,Jo,ZC,<- Nat.add_assoc]; exact h2⟩
       have aP:Hid _:=au;have aF:=an1 I K.o H;clear S I C J eL T E s u U lB Z V k W P sM h1 h2 h3 au H l;have aQ:Hid ((b:Int)+(y:Int)=(b3:Int)/\wrap64 (b3:Int)=(b3:Int)/\wrap64 (y:Int)=(y:Int)):=⟨h6,Lh h9,Lh (acH F)⟩
       have aR:wrap64 (m1:Int)=(m1:Int):=Lh (ajB aF h8);have aS:Hid _:=h9;have aG:Hid _:=j;clear h6 h7 h9 Ew F ag aU r az h8 TK aL h5 aF;have aT:(b:Int)<=(n:Int):=Int.ofNat_le.2 aG.o;clear j;go_wp2_with fail;refine f.mono ?_;rintro e w2 ⟨rfl,i,m⟩;clear f;have p:Hid _:=i;have pg:Hid _:=m;clear i m h4 aT aR;have af:=aM.o.1;obtain⟨h6,aJ,aV⟩:=aQ.o;go_wp2;go_roundw
       case rel=>exact⟨b,b3,D++mg (gI cf) [] (A++B),L1++(A++B),t,M3,rfl,congrArg (Value.int .i64) aJ,aG.o,aS.o,aN.o,HF.o.2.2,HF.o.1,HF.o.2.1,HD.o,aO.o,p.o,z.o.trans pg.o⟩
       case measure=>
        rw[afP aJ,Vt];exact aP.o
      ·obtain⟨h4,h5,G,ah,ay,Bt,-⟩:=atn K.o I C J j hl H F;have Y:bR (gI cf) y L (D++mg (gI cf) [] q):=T _ (bR.last (by rw[K.o]; exact G));have pq:Hid _:=Y;by_cases Vr:m1<n
       ·obtain⟨A,t,M3,u,U,Z,sM⟩:=P.split (ah Vr);have aH:q.length=A.length+t.length:=by rw[u,ZC]
        obtain⟨t1,t2,t3,t4⟩:=ato U aH (ah Vr) G C H J;have aI:=sM.small r t1;have k:GB wr blk 22 (SL (D++mg (gI cf) [] A++mg (gI cf) [] t++[]) R):=by
         have e:D++mg (gI cf) [] A++mg (gI cf) [] t++[]=D++M2:=by rw[Z,aI]; simp
         rw[e]; exact E
        have f:=sj _ blk cap n a m1 n g lb cf ok w0 HC.o eg O D (mg (gI cf) [] A) (mg (gI cf) [] t) [] R wr k (CQ O A) (CQ O t) (fun x Q=>l x (by rw[u]; rcases xM.1 Q with h | h; cases h; simp[h])) (fun x Q=>l x (by rw[u]; rcases xM.1 Q with h | h; cases h; simp[h])) (HK.o.trans s) C (by rw[Jo]; exact t3) (by rw[Jo,Jo]; exact t4) (Qs _) hl (by rw[Jo,U]; exact r) (by rw[Jo]; exact t2) (Qs _);rw[acG O,<- u,XB]at f;have z:Hid _:=s;clear S I C J eL T E s u U Z k P sM aI aH t1 t2 t3 t4 ah ay H l Y G;go_wp2_with fail;refine f.mono ?_;rintro e w2 ⟨rfl,i,m⟩;clear f;have p:Hid _:=i;have pg:Hid _:=m;clear i m;obtain⟨v,ae⟩:=aC.o;go_wp2;go_roundw
        case rel=>exact⟨y,D++mg (gI cf) [] q,by first | rfl | rw[v],ag,F,pq.o,p.o,z.o.trans pg.o⟩
        case measure=>
         simp only[intOf,v,ZY];exact aB.o
       ·have Z:=P.small r (ay Vr);have k:GB wr blk 22 (SL (D++mg (gI cf) [] q) R):=by rw[<- Z]; exact E
        have p:Hid _:=k;have pg:Hid _:=s;clear S I C J eL T E s Z k P ah ay H l Y G;obtain⟨v,ae⟩:=aC.o;go_wp2;go_roundw
        case rel=>exact⟨y,D++mg (gI cf) [] q,by first | rfl | rw[v],ag,F,pq.o,p.o,pg.o⟩
        case measure=>
         simp only[intOf,v,ZY];exact aB.o
    ·have Z:=X.small r (by rw[<- HN.o]; exact afQ az);have HF:Hid (GB wr blk 22 (SL (mg (gI cf) [] L) R)/\Kept (fun b=>b≠blk) w wr):=⟨by rw[<- Z]; exact E,s⟩
     clear S X E s Z;go_wp2;go_end0;exact⟨rfl,HF.o⟩
theorem YK(ps:List Int):Ahead (gI fun x y:aa=>cmpL x.xs y.xs ps):=by
 have O:=Ih ps;exact⟨fun h=>O.asymm h,fun a b=>O.trans a b,fun a b=>O.ntrans a b⟩
theorem acI(ps:List Int)(ys:List aa):(mg (gI fun x y:aa=>cmpL x.xs y.xs ps) [] ys).map aa.xs=eU ps (ys.map aa.xs):=
 R9 (f:=aa.xs) (lt':=DF ps) (fun _ _=>rfl) ys []
theorem Cq(x y c:aa)(w:World)(hx:x.At w)(hy:y.At w)(hc:c.At w)(ax:aM c.xs x.xs.length=true)(ay:aM c.xs y.xs.length=true) :
  Calls Tryz.prog 118 #[x.val,y.val,c.val] w fun e w'=>e=.returned (.int .i64 (cmpL x.xs y.xs c.xs))/\∃ m,w' = w.drewN m:=by
 obtain⟨jD,cO,xs⟩:=x;obtain⟨sZ,je,ys⟩:=y;obtain⟨iZ,di,cs⟩:=c;unfold aa.val aa.At at *;simp only at *;have hl:=hc.1;have J:=hx.1;have K:=hy.1;have L:Hid _:=hx;have M:Hid _:=hy;have N:Hid _:=hc;have F:Hid _:=XX ax ay;clear hx hy hc ax ay;go_enter Tryz.func118,Tryz.ntmps118;go_wp2;go_loopw [12] (fun i wr=>∃ k:Nat,k<=cs.length/\i=.int .i64 k/\(∃ n,wr=w.drewN n)/\Hid (∀ j,j<k->dz (xs.getD (cs.getD j 0).toNat 0) (ys.getD (cs.getD j 0).toNat 0)=0)) (fun i _=>cs.length-(intOf i).toNat)
 case atStart=>exact⟨0,Zf _,rfl,⟨0,rfl⟩,fun j C=>absurd C (by omega)⟩
 case round=>
  obtain⟨k,hk,rfl,⟨n,rfl⟩,E⟩:=hrel;by_cases b:k<cs.length
  ·obtain⟨T,U,rfl,A⟩:=Qe N.o b;have t:(w.drewN n).cell? (aD T (U+k))=_:=A k b;have O:=Qq F.o.1 b;have P:=Qq F.o.2 b;have d:cs.getD k 0=cs[k]:=by simp[List.getD,b]
   rw[d]at t;have l:cs[k].toNat<xs.length:=by omega
   have D:cs[k].toNat<ys.length:=by omega
   obtain⟨V,X,rfl,H⟩:=Qe L.o l;obtain⟨Y,Z,rfl,B⟩:=Qe M.o D;have u:(w.drewN n).cell? (aD V (X+cs[k].toNat))=_:=H _ l;have v:(w.drewN n).cell? (aD Y (Z+cs[k].toNat))=_:=B _ D;have p:=afb (xs:=xs) (ys:=ys) b E.o;have z:∀ j,j<k+1->dz (xs.getD cs[k].toNat 0) (ys.getD cs[k].toNat 0)=0->dz (xs.getD (cs.getD j 0).toNat 0) (ys.getD (cs.getD j 0).toNat 0)=0:=fun j C g=>by
    rcases Ql j k with h | h
    ·exact E.o j h
    ·obtain rfl:j=k:=by omega
     rw[d]; exact g
   rw[d]at p;have q:Hid _:=p;have r:Hid _:=z;have a:=fun W=>qf (xs.getD cs[k].toNat 0) (ys.getD cs[k].toNat 0) W
   clear p z A H B d;generalize xs.getD cs[k].toNat 0=vx at *;generalize ys.getD cs[k].toNat 0=vy at *;generalize Ku:cs[k]=ck at *;clear Ku;obtain⟨I,rfl⟩:∃ I:Nat,ck=(I:Int):=⟨ck.toNat,by omega⟩
   simp only[ZY]at l D u v;obtain⟨wq,s⟩:=eX (w.drewN n)
   have G:Hid _:=s;rw[s]at t u v ⊢;clear s;by_cases g:dz vx vy=0
   ·have Q:Hid _:=fun j C=>r.o j C g
    rw[g]at a;clear g r q;go_wp2;go_quiet ((go_at_call 147; exact Calls.quiet_of_same (a _)));go_wp2;go_roundw
    case rel=>exact⟨k+1,by omega,by go_num,⟨_,by rw[<- G.o,Jn]⟩,Q.o⟩
    case measure=>simp[intOf]; omega
   ·have e0:(dz vx vy != 0)=true:=by simpa using g
    have R:Hid _:=q.o g;clear r q g;generalize dz vx vy=cv at *;go_wp2;go_quiet ((go_at_call 147; exact Calls.quiet_of_same (a _)));go_wp2;go_ret;exact⟨Qc R.o.symm,_,by rw[<- G.o,Jn]⟩
  ·have f:cmpL xs ys cs=0:=Nq fun j C=>E.o j (by omega)
   have S:Hid _:=f;clear f;go_wp2;go_ret;exact⟨Qc S.o.symm,_,rfl⟩
section
structure Li(E:El aa (List Int)):Prop where
 enc:∀ x,E.enc x=x.val
 key:∀ x,E.key x=x.xs
 blk:∀ x,E.blk x=ag.blk x
 at':∀ {x W},E.At x W->ag.At x W
theorem Gb{α:Type}{rs:List α}{d:α}{j:Nat}(hj:j<k)(hk:k<=rs.length):rs.getD j d∈rs.take k:=by
 have a:j<rs.length:=by omega
 have e:rs.getD j d=(rs.take k)[j]'(by rw[XF]; omega):=by simp[List.getD,a]
 rw[e];exact Qk _
theorem Apart.front{rs:List aa}(h:Apart E n rs)(hk:k<rs.length){y:aa}(hy:y∈rs.take k)(h1:E.blk y=some b)(h2:E.blk (rs.getD k iz)=some b):b<n:=by
 have e:rs=rs.take k++rs.getD k iz::rs.drop (k+1):=by
  have a:rs.getD k iz=rs[k]:=by simp[List.getD,hk]
  rw[a,<- XI hk,ZQ]
 unfold Apart at h;rw[e,Zu]at h;exact h.2.2 y hy _ (by simp) b h1 h2
attribute [local go_sem] Oper.semAt_some
theorem acJ(K:Li E)(bt:Nat)(ao:Option Addr)(cap m n:Nat)(rs:List aa)(keys:List (List Int))(hkeys:rs.map aa.xs=keys)(l:Nat)(J:List aa->(Nat->Prop)->World->Prop)(W:World)(o:Nat->Prop)
  (hc:W.cell? (aD bt 0)=some (.slice ao rs.length cap)) (hcs:fO W ao rs.length (fun i=>(rs.getD i iz).val)) (hlen:rs.length<=1152921504606846976)
  (hbt:¬ o bt/\∀ y∈rs,∀ b,E.blk y=some b->n<=b->b≠bt) (hao:∀ a,ao=some a->¬ o a.block/\∀ y∈rs,∀ b,E.blk y=some b->n<=b->b≠a.block)
  (hat:∀ y∈rs,E.At y W) (hblk:∀ y∈rs,∀ b,E.blk y=some b->¬ o b/\(b<m∨n<=b)) (hap:Apart E n rs) (hon:∀ b,o b->b<n) (Vr:m<=n) (hn:n<=W.heap.size)
  (hY:∀ pre x s W1,J pre s W1->(pre++[x]).map E.key <+: keys->E.At x W1->(∀ b,E.blk x=some b->¬ s b/\(b<m∨n<=b))->n<=W1.heap.size->
   YieldAt Fence.wide 0 Tryz.prog l #[E.enc x] W1 fun e H=>e=.returned (.bool true)/\∃ X,J (pre++[x]) X H/\Kept (fun b=>¬ s b) W1 H/\
    ∀ b,X b->s b∨(W1.heap.size<=b/\b<H.heap.size)∨(E.blk x=some b/\n<=b))
  (h0:J [] o W) :
  Calls Tryz.prog 111 #[.func (.yield l) #[] #[],.pointer (some (aD bt 0))] W fun e H=>(∃ v,e=.returned v)/\∃ o',J rs o' H/\Kept (fun b=>¬ o b/\b<n) W H/\∀ b,o' b->o b∨(n<=b/\b<H.heap.size):=by
 have ai:bt<W.heap.size:=Q3 (p:=(aD bt 0)) hc;have HY:Hid _:=hY;have u:Hid _:=hat;have I:Hid _:=hblk;have Y:Hid _:=hap;have aj:Hid _:=hon;have CP:Hid _:=hcs;have Cs:Hid _:=hbt;have L:Hid _:=hao;have HC:Hid _:=hc;have D:Hid _:=XX Vr hn;have Rt:Hid _:=hkeys;clear hY hat hblk hap hon hcs hbt hao Vr hn hkeys;refine(QZ (n:=0)).1 (callsIn_of_wp Tryz.func111 rfl trivial ?_ rfl);simp only[Tryz.ntmps111,Q6,Q7,Q8,Nat.reduceAdd,Nat.reduceSub,Q9,Za,Zb,Zc,Zd,Ze]
 gi_wp2
 clear hc
 gi_loopw [7] (fun i wr=>∃ k:Nat,k<=rs.length/\i=.int .i64 k/\∃ s,J (rs.take k) s wr/\Hid (Kept (fun b=>¬ o b/\∀ y∈rs.take k,E.blk y=some b->b<n) W wr)/\Hid (∀ b,s b->o b∨(W.heap.size<=b/\b<wr.heap.size)∨∃ y∈rs.take k,E.blk y=some b/\n<=b))
  (fun i _=>rs.length-(intOf i).toNat)
 case atStart=>exact⟨0,Zf _,rfl,o,h0,QR _ _,fun b h=>.inl h⟩
 case round=>
  obtain⟨k,hk,rfl,s,G,z,t⟩:=hrel;by_cases q:k<rs.length
  ·obtain⟨b,off,rfl,hcs⟩:=Qd CP.o q;have B:∀ y∈rs.take k,y∈rs:=fun y d=>XW d
   have M:wr.heap[b]? = W.heap[b]?:=z.o.block b (Q3 (p:=(aD b (off+k))) (hcs k q)) ⟨(L.o _ rfl).1,fun y d j=>by
    rcases Ql b n with h | h
    ·exact h
    ·exact absurd rfl ((L.o _ rfl).2 y (B y d) b j h)⟩
   have N:wr.cell? (aD b (off+k))=some (rs.getD k iz).val:=(Q4 (a:=(aD b (off+k))) M).trans (hcs k q);have g:rs.getD k iz∈rs:=by
    have e1:rs.getD k iz=rs[k]:=by simp[List.getD,q]
    rw[e1]; exact Qk _
   have f:∀ b,E.blk (rs.getD k iz)=some b->¬ o b/\∀ y∈rs.take k,E.blk y=some b->b<n:=fun b j=>⟨(I.o _ g b j).1,fun y d h=>Apart.front Y.o q d h j⟩
   have O:E.At (rs.getD k iz) wr:=E.keep (u.o _ g) z.o.size (fun b ah j=>z.o.block b ah (f b j));have P:∀ b,E.blk (rs.getD k iz)=some b->¬ s b:=fun b j h=>by
    rcases t.o b h with h | h | ⟨y,d,h,R⟩
    ·exact(f b j).1 h
    ·have:=E.sV (u.o _ g) j; omega
    ·have:=(f b j).2 y d h; omega
   have Z:Hid (rs.take k++[rs.getD k iz]=rs.take (k+1)):=lN rs iz q;have C:(rs.take k++[rs.getD k iz]).map E.key <+: keys:=by
    rw[lN rs iz q,<- Rt.o];have e:(rs.take (k+1)).map E.key=(rs.take (k+1)).map aa.xs:=Xw fun x _=>K.key x
    rw[e];exact List.IsPrefix.map _ (List.take_prefix _ _)
   obtain⟨fn,tmps,A,T,d,hR⟩:=HY.o _ (rs.getD k iz) s wr G C O (fun b j=>⟨P b j,(I.o _ g b j).2⟩) (QS D.o.2 z.o.size);have Cz:Hid (∀ b,E.blk (rs.getD k iz)=some b->b<W.heap.size):=fun b j=>E.sV (u.o _ g) j
   have ak:Hid _:=f;have ae:Hid (rs.getD k iz∈rs.take (k+1)):=Gb (by omega) (by omega);have F:Hid (∀ y∈rs.take k,y∈rs.take (k+1)):=fun y d=>by rw[<- Z.o]; exact Zx.2 (XG d)
   have au:Hid (∀ y∈rs.take (k+1),y∈rs.take k∨y=rs.getD k iz):=fun y d=>by
    rw[<- Z.o]at d;rcases Zx.1 d with h | h
    ·exact .inl h
    ·rw[Zw]at h; exact .inr h
   have Q:E.enc (rs.getD k iz)=(rs.getD k iz).val:=K.enc _;rw[Q]at d;clear Q f P g B M;generalize rs.getD k iz=x at *;obtain⟨jD,cO,gK⟩:=x;have av:(Instr.yield l #[.slice jD gK.length cO]).run Tryz.prog wr=.ok (.round l fn tmps A T) wr:=d;have ax:wr.cell? (aD b (off+k))=some (.slice jD gK.length cO):=N;clear d N O C
   gi_wp2
   refine⟨rfl,hR.mono ?_⟩;rintro e W3 ⟨rfl,X,U,r,w⟩;have af:Hid _:=U;have xD:Hid _:=r;have Co:Hid _:=w;clear U r w
   gi_wp2
   go_roundw
   case rel=>
    have r:=xD.o;have w:=Co.o;have Vr:=D.o;refine⟨k+1,by omega,by simp,X,by rw[<- Z.o]; exact af.o,?_,?_⟩
    ·refine Kept.trans' (z.o.mono fun b _ h=>⟨h.1,fun y d=>h.2 y (F.o y d)⟩) r ?_;intro b j h R;rcases t.o b R with R | R | ⟨y,d,S,V⟩
     ·exact h.1 R
     ·omega
     ·have:=h.2 y (F.o y d) S; omega
    ·intro b j;rcases w b j with h | h | h
     ·rcases t.o b h with h | h | ⟨y,d,S,V⟩
      ·exact .inl h
      ·exact .inr (.inl ⟨h.1,by have:=r.size; omega⟩)
      ·exact .inr (.inr ⟨y,F.o y d,S,V⟩)
     ·exact .inr (.inl ⟨by have:=z.o.size; omega,h.2⟩)
     ·exact .inr (.inr ⟨_,ae.o,h.1,h.2⟩)
   case measure=>simp[intOf]; omega
  ·obtain rfl:k=rs.length:=by omega
   gi_wp2
   go_end0;rw[Qw]at G z t;refine⟨⟨_,rfl⟩,s,G,z.o.mono fun b _ h=>⟨h.1,fun _ _ _=>h.2⟩,fun b j=>?_⟩;have ag:=z.o.size;rcases t.o b j with h | h | ⟨y,d,S,V⟩
   ·exact .inl h
   ·exact .inr ⟨QS D.o.2 h.1,h.2⟩
   ·exact .inr ⟨V,QT (E.sV (u.o y d) S) ag⟩
end
theorem acL{base:Nat}{e:TypeId}{v:Value}(h:w.ownsRow base e 1 v n (ys.map aa.val)) :
  n=ys.length/\((v=.slice none 0 0/\ys=[])∨∃ g a R,v=.slice (some (aD g 0)) ys.length a/\base<=g/\GB w g e (SL ys R)):=by
 have b:n=ys.length:=by have:=h.1; simpa using this.symm
 refine⟨b,?_⟩;rcases h.2 with⟨h1,h2⟩ | ⟨g,a,cur,h1,h2,h3,h4,h5,h6,h7⟩
 ·exact .inl ⟨h1,QF (by omega)⟩
 ·refine .inr ⟨g,a,cur.toList.drop (n*1),by rw[h1,b],h2,?_⟩;unfold GB SL;rw[h3,<- h7,ZQ]
theorem acM{g:Nat}{e:TypeId}{L:List aa}{R:List Value}(h:GB w g e (SL L R)):fO w (some (aD g 0)) L.length (fun i=>(L.getD i iz).val):=by
 intro i a;refine⟨g,0,rfl,?_⟩;rw[QJ,h.cell];unfold SL;rw[ZK,QK (by simpa using a),ZR];simp[List.getD,a]
theorem Apart.perm{zs:List aa}(h:Apart E n ys)(hp:ys.Perm zs):Apart E n zs:=
 (List.Perm.pairwise_iff (R:=fun y z=>∀ b,E.blk y=some b->E.blk z=some b->b<n) (fun h b a d=>h b d a) hp).1 h
theorem Ez(g:Nat)(lb:Array Value)(w:World):Ce 159 #[.slice none 0 0,.int .i64 0,.int .i64 0,.func (.func g) #[] lb] w (.tuple #[]):=by
 go_enter Tryz.func159,Tryz.ntmps159;go_wp2;refine wp_loop_rounds 1 ?_;rw[rounds_succ];go_wp2;go_end0;exact⟨rfl,rfl⟩
theorem OO(g:Nat)(lb:Array Value)(w:World):Ce 146 #[.slice none 0 0,.int .i64 0,.func (.func g) #[] lb] w (.tuple #[]):=by
 have a:=Ez g lb w;go_enter Tryz.func146,Tryz.ntmps146;go_wp2;refine wp_loop_rounds 1 ?_;rw[rounds_succ];go_wp2_with fail;refine a.mono ?_;rintro e b ⟨rfl,rfl⟩;go_wp2;refine wp_loop_rounds 1 ?_;rw[rounds_succ];go_wp2;go_end0;exact⟨rfl,rfl⟩
theorem Ct(g:Nat)(lb:Array Value)(w:World):Ce 116 #[.slice none 0 0,.func (.func g) #[] lb] w (.tuple #[]):=by
 have a:=OO g lb w;go_enter Tryz.func116,Tryz.ntmps116;go_wp2_with fail;refine a.mono ?_;rintro e b ⟨rfl,rfl⟩;go_wp2;go_end0;exact⟨rfl,rfl⟩
theorem EA(blk cap g:Nat)(lb:Array Value)(cf:aa->aa->Int)(ok:aa->Prop)(w0:World)(hC:OE Tryz.prog g lb cf blk w0 ok)(eg:∀ args w,(callFunc g args).run Tryz.prog w=.ok (.enter g args) w)(O:Ahead (gI cf))
  (L:List aa) (R:List Value) (w:World) (hG:GB w blk 22 (SL L R)) (hok:∀ x∈L,ok x) (hK:Kept (fun b=>b≠blk) w0 w) (hl:L.length<=1000000) :
  Calls Tryz.prog 116 #[.slice (some (aD blk 0)) L.length cap,.func (.func g) #[] lb] w fun e w'=>e=.returned (.tuple #[])/\GB w' blk 22 (SL (mg (gI cf) [] L) R)/\Kept (fun b=>b≠blk) w w':=by
 have a:=TJ blk cap L.length g lb cf ok w0 hC eg O L R w hG hok hK rfl hl;clear hG hok hK;go_enter Tryz.func116,Tryz.ntmps116;go_wp2_with fail;refine a.mono ?_;rintro e i ⟨rfl,d,f⟩;go_wp2;go_end0;exact⟨rfl,d,f⟩
theorem OP(bp:Nat)(x y c:aa)(w:World)(hb:w.cell? (aD bp 0)=some c.val)(hx:x.At w)(hy:y.At w)(hc:c.At w)(ax:aM c.xs x.xs.length=true)(ay:aM c.xs y.xs.length=true) :
  Calls Tryz.prog 117 (#[x.val,y.val] ++ #[.pointer (some (aD bp 0))]) w fun e w'=>e=.returned (.int .i64 (cmpL x.xs y.xs c.xs))/\∃ m,w' = w.drewN m:=by
 have a:=Cq x y c w hx hy hc ax ay;clear hx hy hc ax ay;generalize cmpL x.xs y.xs c.xs=r at *;obtain⟨b,d,xs⟩:=x;obtain⟨f,g,ys⟩:=y;obtain⟨i,j,cs⟩:=c;unfold aa.val at *;simp only[Zc,Ze,Zd]at *;go_enter Tryz.func117,Tryz.ntmps117;go_wp2_with fail;refine a.mono ?_;rintro e k ⟨rfl,m,rfl⟩;clear a;go_wp2;go_ret;exact⟨rfl,_,rfl⟩
theorem acN(bp blk:Nat)(c:aa)(w0:World)(hb:w0.cell? (aD bp 0)=some c.val)(hc:c.At w0)(hbp:bp≠blk)(hcb:∀ a,c.ad=some a->a.block≠blk) :
  OE Tryz.prog 117 #[.pointer (some (aD bp 0))] (fun x y=>cmpL x.xs y.xs c.xs) blk w0 (fun x=>ag.At x w0/\(∀ b,ag.blk x=some b->b≠blk)/\aM c.xs x.xs.length=true):=by
 intro W x y d ⟨hx,hxb,ax⟩ ⟨hy,hyb,ay⟩;have e:=ag.keep hx d.size (fun b hb h=>d.block b hb (hxb b h));have f:=ag.keep hy d.size (fun b hb h=>d.block b hb (hyb b h));refine OP bp x y c W (Zj hb d hbp) e.1 f.1 ⟨hc.1,hc.2.keep fun a g i=>d.block _ i (hcb a g)⟩ ax ay
section
attribute [local go_sem] Oper.semAt_some
theorem OQ(ao:Option Addr)(n cap:Nat)(w:World) :
  Calls Tryz.prog 77 #[.slice ao n cap] w fun e w'=>e=.returned (.func (.func 111) #[] #[.pointer (some (aD w.heap.size 0))])/\w' = w.alloc (.cells #[.slice ao n cap] 53):=by
 go_enter Tryz.func77,Tryz.ntmps77;go_wp2;go_ret;exact⟨rfl,rfl⟩
theorem OT(K:Li E)(bi bp gi:Nat)(jB:Array Value)(c:aa)(rows:List (List Int))(w0:World)(hbi:bi<w0.heap.size)(hbp:bp<w0.heap.size)
  (hci:w0.cell? (aD bi 0)=some (.func (.func gi) #[] jB)) (hcp:w0.cell? (aD bp 0)=some c.val) (hc:c.At w0) (Bq:∀ a,c.ad=some a->a.block<w0.heap.size)
  (hseq:Seq E Tryz.prog gi jB rows w0) (FO:∀ args w,(callFunc gi args).run Tryz.prog w=.ok (.enter gi args) w) (hlen:rows.length<=1000000) (hin:∀ r∈rows,aM c.xs r.length=true) :
  Seq E Tryz.prog 115 #[.pointer (some (aD bi 0)),.pointer (some (aD bp 0))] (eU c.xs rows) w0:=by
 intro l J W o hW ho hJ hY h0;have c1:=(hW.cell (p:=(aD bi 0)) hbi).trans hci;have c2:=(hW.cell (p:=(aD bp 0)) hbp).trans hcp;have S:=nQ E K.enc gi jB rows w0 W hW hlen hseq FO;have HY:Hid _:=hY;have P:Hid _:=ho;have T:Hid _:=hW;have HJ:Hid _:=hJ;have HC:Hid (c.At w0/\(∀ a,c.ad=some a->a.block<w0.heap.size)/\bp<w0.heap.size/\w0.cell? (aD bp 0)=some c.val):=⟨hc,Bq,hbp,hcp⟩
 have U:Hid _:=hlen;have Cz:Hid _:=hin;clear hY ho hJ hseq FO hlen hin hc Bq hci hcp hbi hbp hW;refine(QZ (n:=0)).1 (callsIn_of_wp Tryz.func115 rfl trivial ?_ rfl);simp only[Tryz.ntmps115,Q6,Q7,Q8,Nat.reduceAdd,Nat.reduceSub,Q9,Za,Zb,Zc,Zd,Ze]
 gi_wp2
 refine⟨trivial,rfl,QZ.2 (S.mono ?_)⟩;rintro e A ⟨v,ys,oG,rfl,ax,k⟩;clear S;have B:=k.below;have aC:W.heap.size<A.heap.size:=Q3 (p:=(aD W.heap.size 0)) k.box;have F:ys.map aa.xs=rows:=by
  rw[<- ax];exact(Xw fun x _=>K.key x).symm
 have ai:ys.length<=1000000:=by have:=congrArg List.length F; rw[ZB]at this; rw[this]; exact U.o
 have aj:=HJ.o _ _ _ _ h0 (QU (s:=fun b=>o b∨b<W.heap.size) B (fun b d _=>d))
 -- behind the sort,and behind the box of Scan: handed out
 have M:∀ (zs:List aa) (O:Option Addr) (f:Nat) (u:World),zs.Perm ys->zs.map aa.xs=eU c.xs rows->Kept (fun b=>v.ownBlock≠some b) A u->v=.slice O ys.length f->fO u O zs.length (fun i=>(zs.getD i iz).val)->
   Calls Tryz.prog 111 #[.func (.yield l) #[] #[],.pointer (some (aD u.heap.size 0))] (u.alloc (.cells #[.slice O ys.length f] 53)) fun e W'=>(∃ v,e=.returned v)/\∃ ah o',ah.map E.key=eU c.xs rows/\J ah o' W'/\Kept (fun b=>¬ o b) W W'/\∀ b,o' b->o b∨(W.heap.size<=b/\b<W'.heap.size):=by
  intro zs O f u z ag q Q L;have ak:zs.length=ys.length:=z.length_eq;have aF:=q.size;have G:Kept (fun b=>v.ownBlock≠some b) A (u.alloc (.cells #[.slice O ys.length f] 53)):=q.trans (QX _ _);have H:∀ b,b<W.heap.size->v.ownBlock≠some b:=fun b d e=>by have:=(Zq k.own e).1; omega
  have au:=HJ.o _ _ _ _ aj (G.mono fun b _ h=>by
   rcases h with h | h
   ·exact H b (P.o b h).2
   ·exact H b h)
  have j:∀ y∈zs,y∈ys:=fun y D=>z.mem_iff.1 D
  refine(acJ K u.heap.size O f w0.heap.size W.heap.size zs (eU c.xs rows) ag l J (u.alloc (.cells #[.slice O ys.length f] 53)) o ?_ ?_ ?_ ⟨fun h=>?_,fun y D b d _=>?_⟩ (fun a ha=>⟨fun h=>?_,fun y D b d _=>?_⟩) (fun y D=>?_) (fun y D b d=>⟨fun h=>?_,?_⟩) ?_ (fun b d=>(P.o b d).2) T.o.size ?_ HY.o au).mono ?_
  ·rw[ak]; exact(ZG u _ _).cell 0
  ·exact fO.below (bV _ _) L
  ·omega
  ·have:=(P.o _ h).2; omega
  ·have:=E.sV (k.at' y (j y D)) d; omega
  ·subst ha;have e1:v.ownBlock=some a.block:=by
    rcases k.own.2 with⟨e,_⟩ | ⟨g,cap',cur,e,_⟩
    ·rw[Q]at e; cases e
    ·rw[e]at Q ⊢; cases Q; rfl
   exact H _ (P.o _ h).2 e1
  ·subst ha;have e1:v.ownBlock=some a.block:=by
    rcases k.own.2 with⟨e,_⟩ | ⟨g,cap',cur,e,_⟩
    ·rw[Q]at e; cases e
    ·rw[e]at Q ⊢; cases Q; rfl
   have:=(k.off y (j y D) b d).2;intro e2;rw[e2]at this;exact this e1
  ·exact E.keep (k.at' y (j y D)) G.size (fun b d h=>G.block b d (k.off y (j y D) b h).2)
  ·rcases k.born y (j y D) b d with h1 | h1
   ·have:=(P.o b h).1; omega
   ·have:=(P.o b h).2; omega
  ·exact k.born y (j y D) b d
  ·exact k.apart.perm z.symm
  ·simp; omega
  ·rintro e W' ⟨ay,o',az,aA,aB⟩;refine⟨ay,zs,o',?_,az,?_,aB⟩
   ·rw[<- ag]; exact Xw fun x _=>K.key x
   ·have h1:Kept (fun b=>¬ o b) W A:=QU B (fun b d _=>d);have h2:Kept (fun b=>¬ o b/\b<W.heap.size) W A:=QU B (fun b d _=>d);exact((h2.trans' (G.mono (t:=fun b=>b<W.heap.size) fun b _ h=>H b h) (fun b _ h=>h.2)).trans aA).mono fun b d h=>⟨h,d⟩
 have HF:Hid _:=M;clear M;obtain⟨hn,N⟩:=acL k.own;rcases N with⟨rfl,hnil⟩ | ⟨g,f,R,rfl,hgb,hGB⟩
 ·subst hnil;have V:=Ct 117 #[.pointer (some (aD bp 0))] A;have av:eU c.xs rows=[]:=by rw[<- F]; rfl
  have X:=HF.o [] none 0 A (XC _) av.symm (QR _ _) rfl (fun i hi=>absurd hi (by simp));have C:=OQ none 0 0 A;clear HF k
  gi_wp2
  refine⟨trivial,rfl,QZ.2 (V.mono ?_)⟩;rintro e w2 ⟨rfl,rfl⟩;clear V
  gi_wp2
  refine⟨trivial,rfl,QZ.2 (C.mono ?_)⟩;rintro e w3 ⟨rfl,rfl⟩;clear C
  gi_wp2
  refine⟨trivial,rfl,QZ.2 (X.mono ?_)⟩;rintro e w4 ⟨⟨v4,rfl⟩,m⟩;clear X
  gi_wp2
  go_end0;exact⟨⟨_,rfl⟩,m⟩
 ·have Y:=acN bp g c A
   ((B.cell (p:=(aD bp 0)) (QT HC.o.2.2.1 T.o.size)).trans c2) (Qt B (Qt T.o HC.o.1)) (by have:=HC.o.2.2.1; have:=T.o.size; omega) (fun a ha=>by have:=HC.o.2.1 a ha; have:=T.o.size; omega)
  have Z:=EA g f 117 #[.pointer (some (aD bp 0))] _ _ A Y (Jl Tryz.func117 (by kernel_rfl) rfl) (YK c.xs) ys R A hGB
   (fun x hx=>⟨K.at' (k.at' x hx),fun b d e=>by
    rw[<- K.blk]at d;have:=(k.off x hx b d).2;rw[e]at this;exact this rfl,Cz.o _ (by rw[<- F]; exact List.mem_map_of_mem hx)⟩) (QR _ _) ai
  have ae:=fun (u:World) (I:GB u g 22 (SL (mg (gI fun x y:aa=>cmpL x.xs y.xs c.xs) [] ys) R)) (q:Kept (fun b=>b≠g) A u)=>HF.o (mg (gI fun x y:aa=>cmpL x.xs y.xs c.xs) [] ys) (some (aD g 0)) f u (rJ ys []) (by rw[acI,F]) (q.mono fun b _ h e=>by subst e; exact h rfl) rfl (acM I)
  have C:=fun u=>OQ (some (aD g 0)) ys.length f u
  clear HF k hGB Y;generalize mg (gI fun x y:aa=>cmpL x.xs y.xs c.xs) [] ys=zs at *
  gi_wp2
  refine⟨trivial,rfl,QZ.2 (Z.mono ?_)⟩;rintro e w2 ⟨rfl,I,q⟩;have af:=ae w2 I q;clear Z ae I q
  gi_wp2
  refine⟨trivial,rfl,QZ.2 ((C w2).mono ?_)⟩;rintro e w3 ⟨rfl,rfl⟩;clear C
  gi_wp2
  refine⟨trivial,rfl,QZ.2 (af.mono ?_)⟩;rintro e w4 ⟨⟨v4,rfl⟩,m⟩;clear af
  gi_wp2
  go_end0;exact⟨⟨_,rfl⟩,m⟩
end
