import Derived.Test.YtjndadibondgbaaGreatDoorL05
set_option linter.all false
set_option maxRecDepth 100000
set_option maxHeartbeats 16000000
namespace Go.Proofs.Zz
open Go.RowKit Go.Shelf
variable {a b b1 b3 b4 b5 blk c e i i1 i2 j jp k kp l1 la lb m mid n p r0 s s0 y1:Nat} {w:World} {t:TypeId} {A A1 A2 B B1 B2 B3 B4 B5 L P P' Q Q' X X' Y Y':List aa} {x y z:aa} {cf:aa->aa->Int} {lt:aa->aa->Bool}
theorem set_mid(A B:List Value)(x y:Value):(A++x::B).toArray.setIfInBounds A.length y=(A++y::B).toArray:=by
 rw[List.setIfInBounds_toArray,List.set_append_right _ _ (Qs _),XZ,List.set_cons_zero]
theorem qA(A B:List Value)(x:Value):(A++x::B).toArray[A.length]? = some x:=by
 rw[ZK,QL (Qs _),XZ];rfl
structure Swap(w:World)(blk:Nat)(t:TypeId)(i1 i2:Nat)(x y:Value)(L:List Value):Prop where
 c1:w.cell? (aD blk i1)=some x
 c2:w.cell? (aD blk i2)=some y
 z1:w.frozen? (aD blk i1)=false
 z2:w.frozen? (aD blk i2)=false
 ne:i1≠i2
 up:GB (((w.setCell (aD blk i1) y).setCell (aD blk i2) x).drew) blk t L.toArray/\Kept (fun b=>b≠blk) w (((w.setCell (aD blk i1) y).setCell (aD blk i2) x).drew)
 down:GB (((w.setCell (aD blk i2) x).setCell (aD blk i1) y).drew) blk t L.toArray/\Kept (fun b=>b≠blk) w (((w.setCell (aD blk i2) x).setCell (aD blk i1) y).drew)
theorem Kept.I9{s:Nat->Prop}(w:World):Kept s w w.drew:=QU ((Qr w.heap.size w).drew) (fun b a _=>a)
theorem GB.I9{w:World}{blk:Nat}{t:TypeId}{c:Array Value}(h:GB w blk t c):GB w.drew blk t c:=h.keep (Kept.I9 (s:=fun _=>True) w) trivial
theorem GB.drewN{w:World}{blk:Nat}{t:TypeId}{c:Array Value}(h:GB w blk t c)(n:Nat):GB (w.drewN n) blk t c:=h.keep (ZE (s:=fun _=>True) w n) trivial
theorem GB.swap{A B C:List Value}{x y:Value}(h:GB w blk t (A++x::B++y::C).toArray)(h1:i1=A.length)(h2:i2=A.length+1+B.length):Swap w blk t i1 i2 x y (A++y::B++x::C):=by
 have b:i2=(A++x::B).length:=by rw[h2]; simp; omega
 have a:i2=(A++y::B).length:=by rw[h2]; simp; omega
 have d:(A++x::B++y::C).toArray[i1]? = some x:=by
  rw[h1,QH]; exact qA A _ x
 have e:(A++x::B++y::C).toArray[i2]? = some y:=by
  rw[b]; exact qA _ _ y
 have f:(A++x::B++y::C).toArray.setIfInBounds i1 y=(A++y::B++y::C).toArray:=by
  rw[h1,QH,Ze,set_mid,QH,Ze]
 have g:(A++y::B++y::C).toArray.setIfInBounds i2 x=(A++y::B++x::C).toArray:=by
  rw[a]; exact set_mid _ _ _ _
 have i:(A++x::B++y::C).toArray.setIfInBounds i2 x=(A++x::B++x::C).toArray:=by
  rw[b]; exact set_mid _ _ _ _
 have j:(A++x::B++x::C).toArray.setIfInBounds i1 y=(A++y::B++x::C).toArray:=by
  rw[h1,QH,Ze,set_mid,QH,Ze]
 refine⟨(h.cell i1).trans d,(h.cell i2).trans e,h.frozen i1,h.frozen i2,by omega,⟨?_,?_⟩,⟨?_,?_⟩⟩
 ·have:=(h.set i1 y).set i2 x;rw[f,g]at this;exact this.I9
 ·exact((Zn _ _ _ (fun h=>h rfl)).trans (Zn _ _ _ (fun h=>h rfl))).trans (Kept.I9 _)
 ·have:=(h.set i2 x).set i1 y;rw[i,j]at this;exact this.I9
 ·exact((Zn _ _ _ (fun h=>h rfl)).trans (Zn _ _ _ (fun h=>h rfl))).trans (Kept.I9 _)
theorem wrap_add{len:Nat}(h:a+k<len)(hl:len<=1000000):wrap64 ((a:Int)+(k:Int))=((a+k:Nat):Int):=by unfold wrap64; omega
theorem zJ(h:k<=a)(hl:a<=4000000):wrap64 ((a:Int)-(k:Int))=((a-k:Nat):Int):=by unfold wrap64; omega
theorem anB{x x1 x3:Nat}(hb:b=p+x+m)(l1:x1=k)(l2:y1=k)(hx:x=x1+(x3+1)):b+k=p+y1+1+(x3+m+x1):=by omega
theorem anC{x len:Nat}(ha:a=p)(hb:b=p+x+m)(h:b+k<len):a+k<len:=by omega
def SL(L:List aa)(R:List Value):Array Value:=(L.map aa.val++R).toArray
theorem GB.OD{R:List Value}{C:List aa}(h:GB w blk t (SL L R))(e:L=A++x::B++y::C)(h1:i1=A.length)(h2:i2=A.length+1+B.length) :
  Swap w blk t i1 i2 x.val y.val ((A++y::B++x::C).map aa.val++R):=by
 have a:SL L R=(A.map aa.val++x.val::B.map aa.val++y.val::(C.map aa.val++R)).toArray:=by
  rw[e]; unfold SL; simp
 have b:(A++y::B++x::C).map aa.val++R=A.map aa.val++y.val::B.map aa.val++x.val::(C.map aa.val++R):=by simp
 rw[a]at h;rw[b];exact h.swap (by simpa using h1) (by simpa using h2)
theorem qB(blk cap len a b n:Nat)(f:Value)(P X M Y Q:List aa)(R:List Value)(w:World)(hG:GB w blk 22 (SL (P++X++M++Y++Q) R))(hX:X.length=n)(hY:Y.length=n)(ha:a=P.length)(hb:b=P.length+X.length+M.length)(hlen:b+n<=len)(hl:len<=1000000) :
  Calls Tryz.prog 168 #[.slice (some (aD blk 0)) len cap,.int .i64 a,.int .i64 b,.int .i64 n,f] w fun e w'=>e=.returned (.tuple #[])/\GB w' blk 22 (SL (P++Y++M++X++Q) R)/\Kept (fun b=>b≠blk) w w':=by
 have HG:Hid _:=hG;clear hG;go_enter Tryz.func168,Tryz.ntmps168;go_wp2;go_loopw [10] (fun i wr=>∃ (k:Nat) (d q j r:List aa),k<=n/\i=.int .i64 k/\Hid (X=d++q/\Y=j++r/\d.length=k/\j.length=k/\GB wr blk 22 (SL (P++j++q++M++d++r++Q) R)/\Kept (fun b=>b≠blk) w wr)) (fun i _=>n-(intOf i).toNat)
 case atStart=>exact⟨0,[],X,[],Y,Zf _,rfl,rfl,rfl,rfl,rfl,by rw[XB,XB]; exact HG.o,QR _ _⟩
 case round=>
  obtain⟨k,d,q,j,r,hk,rfl,N⟩:=hrel;obtain⟨p,s,O,S,v,H⟩:=N.o;by_cases F:k<n
  ·obtain⟨x,g,rfl⟩:∃ x g,q=x::g:=by
    cases q with
    | nil => rw[p,XB]at hX; omega
    | cons x g => exact⟨x,g,rfl⟩
   obtain⟨y,l,rfl⟩:∃ y l,r=y::l:=by
    cases r with
    | nil => rw[s,XB]at hY; omega
    | cons y l => exact⟨y,l,rfl⟩
   have e:P++j++x::g++M++d++y::l++Q=(P++j)++x::(g++M++d)++y::(l++Q):=by simp
   have t:X.length=d.length+(g.length+1):=by rw[p]; simp
   have m:=v.OD e (i1:=a+k) (i2:=b+k) (by rw[ZC]; omega) (by simp only[ZC]; exact anB hb O S t);have ae:=QS (QS (Nat.le_add_left n b) hlen) hl;have u:=QT (Nat.add_lt_add_left F b) hlen;have I:=anC ha hb u;have af:=wrap_add I hl;have ag:=wrap_add u hl;have T:=m.c1;have U:=m.c2;have z1:=m.z1;have z2:=m.z2;have ah:=m.ne;have V:=Zh m;have W:=Zh (XX p s);have HK:=Zh H;have Z:=Zh (XX O S);clear m v N p s e H hX hY ha hb t hlen O S;generalize a+k=i1 at *;generalize b+k=i2 at *;obtain⟨z,A,B⟩:=x;obtain⟨C,D,E⟩:=y;unfold aa.val at T U;simp only at T U;go_wp2;go_region;have G:=V.o.up;unfold aa.val at G;simp only at G;generalize ((wr.setCell { block:=blk,off:=i1 } (Value.slice C E.length D)).setCell { block:=blk,off:=i2 } (Value.slice z B.length A)).drew=wf at *;have HU:=Zh G;clear G V;go_wp2;go_roundw
   case rel=>
    refine⟨k+1,d++[⟨z,A,B⟩],g,j++[⟨C,D,E⟩],l,F,by go_num,by rw[W.o.1,QH]; rfl,by rw[W.o.2,QH]; rfl,by rw[ZC,Z.o.1]; rfl,by rw[ZC,Z.o.2]; rfl,?_,HK.o.trans HU.o.2⟩;have h:=HU.o.1
    show GB wf blk 22 ((P++(j++[aa.mk C D E])++g++M++(d++[aa.mk z A B])++l++Q).map aa.val++R).toArray
    have e:P++(j++[aa.mk C D E])++g++M++(d++[aa.mk z A B])++l++Q=P++j++aa.mk C D E::(g++M++d)++aa.mk z A B::(l++Q):=by simp
    rw[e];exact h
   case measure=>simp[intOf]; omega
  ·have J:k=n:=by omega
   subst J;have K:q=[]:=by
    have h:=congrArg List.length p;rw[ZC]at h;exact QF (by omega)
   have L:r=[]:=by
    have h:=congrArg List.length s;rw[ZC]at h;exact QF (by omega)
   subst K;subst L;rw[XB]at p s;subst p;subst s;rw[XB,XB]at v;have HF:=Zh (XX v H);clear v H N;go_wp2;go_end0;exact⟨rfl,HF.o⟩
theorem YI(h:a+k<=4000000):wrap64 ((a:Int)+(k:Int))=((a+k:Nat):Int):=by unfold wrap64; omega
theorem ll{α:Type}(l:List α)(n:Nat)(h:n<=l.length):∃ a b,l=a++b/\a.length=n/\b.length=l.length-n:=⟨l.take n,l.drop n,(ZQ n l).symm,by simp[h],by simp⟩
structure Rot(P X Y Q:List aa)(m len:Nat)(P' X' Y' Q':List aa):Prop where
 pos:0<X'.length/\0<Y'.length
 mid:m=P'.length+X'.length
 fit:m+Y'.length<=len
 eq:P'++Y'++X'++Q' = P++Y++X++Q
theorem Rot.more{len:Nat}(h:Rot P X Y Q m len P' X' Y' Q')(hl:Y'.length<X'.length):∃ a b,X' = a++b/\a.length=Y'.length/\b.length=X'.length-Y'.length/\Rot P X Y Q m len (P'++Y') b a Q':=by
 obtain⟨a,b,e,d,f⟩:=ll X' Y'.length (by omega);have g:=h.pos;have i:=h.mid;have j:=h.fit;refine⟨a,b,e,d,f,⟨by omega,by omega⟩,by rw[ZC]; omega,by omega,?_⟩;rw[<- h.eq,e];simp
theorem Rot.less{len:Nat}(h:Rot P X Y Q m len P' X' Y' Q')(hl:X'.length<Y'.length):∃ a b,Y' = a++b/\a.length=Y'.length-X'.length/\b.length=X'.length/\Rot P X Y Q m len P' b a (X'++Q'):=by
 obtain⟨a,b,e,d,j⟩:=ll Y' (Y'.length-X'.length) (by omega);have f:=h.pos;have g:=h.mid;have i:=h.fit;refine⟨a,b,e,d,by omega,⟨by omega,by omega⟩,by omega,by omega,?_⟩;rw[<- h.eq,e];simp
theorem ajm{y len:Nat}(hfit:m+y<=len)(hl:len<=1000000)(ej:j=y)(hi:i<=1000000):m+j<=4000000/\m<=4000000/\j<=4000000:=by omega
theorem ajn{x:Nat}(hmid:m=p+x)(ei:i=x)(j:Nat):i<=m/\i<=m+j:=by omega
theorem ajo{x y y2:Nat}(ei:i=x)(ej:j=y)(l1:y1=y-x)(l2:y2=x)(h:i<j)(hi:0<i)(hj:j<=1000000):i=y2/\j-i=y1/\0<j-i/\j-i<=1000000/\i+(j-i)<i+j:=by omega
theorem ajp{len y x:Nat}(hmid:m=p+x)(hfit:m+y<=len)(ei:i=x)(ej:j=y)(l1:y1=y-x)(h:i<j):m+j-i=p+x+y1/\m+j-i+i<=len:=by omega
theorem Ey(h:j<=i):Value.int .i64 ((i:Int)-(j:Int))=Value.int .i64 ((i-j:Nat):Int):=by rw[Int.ofNat_sub h]
theorem TG(blk cap len a m b:Nat)(f:Value)(P X Y Q:List aa)(R:List Value)(w:World)(hG:GB w blk 22 (SL (P++X++Y++Q) R))(hX:0<X.length)(hY:0<Y.length)(ha:a=P.length)(hm:m=P.length+X.length)(hb:b=P.length+X.length+Y.length)(hlen:b<=len)(hl:len<=1000000) :
  Calls Tryz.prog 166 #[.slice (some (aD blk 0)) len cap,.int .i64 a,.int .i64 m,.int .i64 b,f] w fun e w'=>e=.returned (.tuple #[])/\GB w' blk 22 (SL (P++Y++X++Q) R)/\Kept (fun b=>b≠blk) w w':=by
 have w1:wrap64 ((m:Int)-(a:Int))=(X.length:Int):=by unfold wrap64; omega
 have I:wrap64 ((b:Int)-(m:Int))=(Y.length:Int):=by unfold wrap64; omega
 have hR:Rot P X Y Q m len P X Y Q:=⟨⟨hX,hY⟩,hm,by omega,rfl⟩
 have HG:Hid _:=hG;have HR:Hid _:=hR;clear hG hR hX hY ha hm hb hlen;go_enter Tryz.func166,Tryz.ntmps166;go_wp2
 try simp only[w1,I]
 clear w1 I;go_loopw [10,11] (fun iv jv wr=>∃ (i j:Nat) (r z D A:List aa),iv=.int .i64 i/\jv=.int .i64 j/\i<=1000000/\j<=1000000/\0<i/\0<j/\Hid (i=z.length/\j=D.length/\Rot P X Y Q m len r z D A/\GB wr blk 22 (SL (r++z++D++A) R)/\Kept (fun b=>b≠blk) w wr)) (fun iv jv _=>(intOf iv).toNat+(intOf jv).toNat)
 case atStart=>
  have h:=HR.o;have h1:=h.pos;have h2:=h.mid;have h3:=h.fit;exact⟨X.length,Y.length,P,X,Y,Q,rfl,rfl,by omega,by omega,h1.1,h1.2,rfl,rfl,h,HG.o,QR _ _⟩
 case round=>
  obtain⟨i,j,r,z,D,A,rfl,rfl,hi,hj,L,V,O⟩:=hrel;obtain⟨y,E,B,F,H⟩:=O.o;have g:=B.mid;have k:=B.fit;have p:=ajm k hl E hi;have s:=ajn g y j;have af:wrap64 ((m:Int)-(i:Int))=((m-i:Nat):Int):=zJ s.1 p.2.1;have G:m-i=r.length:=by omega
  by_cases ae:j<i
  ·obtain⟨W,Z,e,M,N,v⟩:=B.more (by omega);have d:=qB blk cap len (m-i) m j f r W Z D A R wr (by rw[e]at F; rwa [QH r] ) (by omega) (by omega) G (by rw[g,e,ZC]; omega) (by omega) hl;have hw:wrap64 ((i:Int)-(j:Int))=((i-j:Nat):Int):=zJ (by omega) (by omega);have t:Hid (i-j=Z.length/\j=W.length/\0<i-j/\i-j<=1000000/\i-j+j<i+j):=by constructor <;> omega
   have J:Hid _:=H;have C:Hid _:=v;clear H v B F O g k G y E e M N p s;go_wp2_with fail;refine d.mono ?_;rintro e I ⟨rfl,l,n⟩;clear d;have u:Hid _:=l;have K:Hid _:=n;clear l n;go_wp2;go_roundw
   case rel=>exact⟨i-j,j,r++D,Z,W,A,Ey (Nat.le_of_lt ae),rfl,t.o.2.2.2.1,hj,t.o.2.2.1,V,t.o.1,t.o.2.1,C.o,u.o,J.o.trans K.o⟩
   case measure=>have:=t.o; simp[intOf]; omega
  ·by_cases q:i<j
   ·obtain⟨S,T,e,M,N,v⟩:=B.less (by omega);have oN:=ajo y E M N q L hj;have U:=ajp g k y E M q;have d:=qB blk cap len (m-i) (m+j-i) i f r z S T A R wr (by rw[e]at F; rwa [<- QH (r++z)]at F) y.symm (N.trans y.symm) G U.1 U.2 hl;have hw:wrap64 ((j:Int)-(i:Int))=((j-i:Nat):Int):=zJ (Nat.le_of_lt q) p.2.2;have ag:wrap64 ((m:Int)+(j:Int))=((m+j:Nat):Int):=YI p.1;have ah:wrap64 (((m+j:Nat):Int)-(i:Int))=((m+j-i:Nat):Int):=zJ s.2 p.1;have t:Hid (i=T.length/\j-i=S.length/\0<j-i/\j-i<=1000000/\i+(j-i)<i+j):=oN;have J:Hid _:=H;have C:Hid _:=v;clear H v B F O g k G y E e M N p s oN U;generalize m+j=mj at *;go_wp2_with fail;refine d.mono ?_;rintro e I ⟨rfl,l,n⟩;clear d;have u:Hid _:=l;have K:Hid _:=n;clear l n;go_wp2;go_roundw
    case rel=>exact⟨i,j-i,r,T,S,z++A,rfl,Ey (Nat.le_of_lt q),hi,t.o.2.2.2.1,L,t.o.2.2.1,t.o.1,t.o.2.1,C.o,by have h:=u.o; rwa [QH (r++T++S)]at h,J.o.trans K.o⟩
    case measure=>have:=t.o; simp[intOf]; omega
   ·obtain rfl:i=j:=by omega
    have d:=qB blk cap len (m-i) m i f r z [] D A R wr (by rw[XB]; exact F) y.symm E.symm G (by rw[g]; rfl) (by omega) hl;rw[XB,B.eq]at d;have J:Hid _:=H;clear H B F O g k G y E p s;go_wp2_with fail;refine d.mono ?_;rintro e I ⟨rfl,l,n⟩;clear d;have u:Hid _:=l;have K:Hid _:=n;clear l n;go_wp2;go_end0;exact⟨rfl,u.o,J.o.trans K.o⟩
def OE(P:Program)(g:Nat)(lb:Array Value)(cf:aa->aa->Int)(blk:Nat)(w0:World)(ok:aa->Prop):Prop:=
 ∀ W x y,Kept (fun b=>b≠blk) w0 W->ok x->ok y->Calls P g (#[x.val,y.val]++lb) W fun e W'=>e=.returned (.int .i64 (cf x y))/\∃ m,W' = W.drewN m
def gI(cf:aa->aa->Int)(x y:aa):Bool:=decide (cf x y<0)
theorem zK(h:cf x y<0):gI cf x y=true:=Qy h
theorem vK(h:¬ cf x y<0):gI cf x y=false:=Qg h
theorem GB.qA{w:World}{blk:Nat}{t:TypeId}{R:List Value}{L A C:List aa}{x:aa}(h:GB w blk t (SL L R))(e:L=A++x::C){i:Nat}(h1:i=A.length):w.cell? (aD blk i)=some x.val:=by
 refine(h.cell i).trans ?_;have a:SL L R=(A.map aa.val++x.val::(C.map aa.val++R)).toArray:=by
  rw[e]; unfold SL; simp
 have b:i=(A.map aa.val).length:=by rw[h1,ZB]
 rw[a,b];exact Zz.qA _ _ _
theorem ajq(ha:a=p)(hj:j=a+(s+1))(h:j=jp+1):jp=p+s/\a<jp+1/\jp+1=p+s+1+0/\jp=a+s:=by omega
theorem ajr{len l:Nat}(hl:len<=1000000)(hlen:b<=len)(hi:i<b)(hj:j<=i)(h:j=jp+1):jp<len/\jp+1<len/\i<=1000000/\jp<=i:=by omega
theorem wZ(blk cap len a b g:Nat)(lb:Array Value)(cf:aa->aa->Int)(ok:aa->Prop)(w0:World)(hC:OE Tryz.prog g lb cf blk w0 ok)(eg:∀ args w,(callFunc g args).run Tryz.prog w=.ok (.enter g args) w)
  (P L Q:List aa) (R:List Value) (w:World) (hG:GB w blk 22 (SL (P++L++Q) R)) (hok:∀ x∈L,ok x) (hK:Kept (fun b=>b≠blk) w0 w) (ha:a=P.length) (hb:b=P.length+L.length) (hlen:b<=len) (hl:len<=1000000) :
  Calls Tryz.prog 159 #[.slice (some (aD blk 0)) len cap,.int .i64 a,.int .i64 b,.func (.func g) #[] lb] w fun e w'=>e=.returned (.tuple #[])/\GB w' blk 22 (SL (P++mg (gI cf) [] L++Q) R)/\Kept (fun b=>b≠blk) w w':=by
 cases L with
 | nil =>
  have aA:¬ ((a:Int)+1<(b:Int)):=by simp only[Q8]at hb; omega
  have HG:Hid _:=hG;have ai:a<=1000000:=by simp only[Q8]at hb; omega
  clear hG hK hlen hl ha hb;go_enter Tryz.func159,Tryz.ntmps159;go_wp2;refine wp_loop_rounds 1 ?_;rw[rounds_succ];go_wp2;go_end0;exact⟨rfl,HG.o,QR _ _⟩
 | cons x0 L0 =>
  have HG:Hid _:=hG;have HC:Hid _:=hC;have HO:Hid _:=hok;have HK:Hid _:=hK;have I:Hid _:=XX ha (XX hb (XX hlen hl));have ai:a<=1000000:=by have:=I.o; omega
  have aB:wrap64 ((a:Int)+1)=((a+1:Nat):Int):=by unfold wrap64; omega
  clear hG hC hok hK ha hb hlen hl;go_enter Tryz.func159,Tryz.ntmps159;go_wp2;go_loopw [8] (fun iv wr=>∃ (i:Nat) (p L2:List aa),iv=.int .i64 i/\i<=b/\Hid (x0::L0=p++L2/\i=a+p.length/\GB wr blk 22 (SL (P++mg (gI cf) [] p++L2++Q) R)/\Kept (fun b=>b≠blk) w wr)) (fun iv _=>b-(intOf iv).toNat)
  case atStart=>
   refine⟨a+1,[x0],L0,by go_num,by have:=I.o; simp only[Q7]at this; omega,rfl,rfl,?_,QR _ _⟩;have e:P++mg (gI cf) [] [x0]++L0++Q=P++(x0::L0)++Q:=by show P++[x0]++L0++Q=_; simp
   rw[e];exact HG.o
  case round=>
   obtain⟨i,p,L2,rfl,aN,HI⟩:=hrel;obtain⟨B,ei,v,t⟩:=HI.o
   cases L2 with
   | nil =>
    rw[XB]at B;rw[<- B,XB]at v;have aC:¬ ((i:Int)<(b:Int)):=by
     have h1:=I.o;rw[B]at h1;omega
    have K:Hid _:=XX v t;clear HI v t ei B;go_wp2;go_end0;exact⟨rfl,by have h:=K.o.1; rw[QH]at h; exact h,K.o.2⟩
   | cons x L3 =>
    have hL:(x0::L0).length=p.length+(L3.length+1):=by rw[B]; simp
    have aj:(i:Int)<(b:Int):=by have h1:=I.o; omega
    have aF:i<=1000000:=by have h1:=I.o; omega
    have hx:ok x:=HO.o x (by rw[B]; simp);have J:∀ y∈mg (gI cf) [] p,ok y:=fun y hy=>by
     rcases xM.1 hy with h | h
     ·cases h
     ·exact HO.o y (by rw[B]; exact Zx.2 (XG h))
    have Y:(mg (gI cf) [] p).length=p.length:=by rw[nH]; simp
    have HX:Hid _:=hx;have HM:Hid _:=J;have HE:Hid _:=B;have M:Hid _:=ei;have Z:Hid _:=XX v t;have Ev:Hid _:=Y;clear hx J B ei v t Y hL HI;go_wp2;go_loopw [9] (fun jv ag=>∃ (j:Nat) (S1 q:List aa),jv=.int .i64 j/\j<=i/\Hid (mg (gI cf) [] p=S1++q/\j=a+S1.length/\(∀ s∈q,gI cf x s=true)/\GB ag blk 22 (SL (P++S1++x::q++L3++Q) R)/\Kept (fun b=>b≠blk) w ag)) (fun jv _=>(intOf jv).toNat)
    case atStart=>
     refine⟨i,mg (gI cf) [] p,[],rfl,Qs _,by rw[XB],by rw[Ev.o]; exact M.o,fun s d=>(by cases d),?_,Z.o.2⟩;have h:=Z.o.1;have e:P++mg (gI cf) [] p++x::[]++L3++Q=P++mg (gI cf) [] p++x::L3++Q:=by simp
     rw[e];exact h
    case round=>
     obtain⟨j,S1,q,rfl,ay,HJ⟩:=hrel;obtain⟨X,ej,z,v,t⟩:=HJ.o;rcases List.eq_nil_or_concat S1 with A | ⟨u,y,A⟩
     ·subst A;have N:j=a:=ej;have O:decide ((j:Int) > (a:Int))=false:=Qg (by rw[N]; exact Int.lt_irrefl _);have aG:decide ((a:Int)<(j:Int))=false:=O;have aH:¬ (a:Int)<(j:Int):=of_decide_eq_false O;have aI:¬ a<j:=by rw[N]; exact Nat.lt_irrefl _
      have f:mg (gI cf) [] (p++[x])=x::q:=by
       rw[Dw,Kg,X];exact vw (lt:=gI cf) (A1:=[]) z
      have K:Hid _:=f;have k:Hid _:=XX v t;clear HJ X ej z v t f N;go_wp2_with fail;go_quiet (fail);go_wp2;go_roundw
      case rel=>
       refine⟨i+1,p++[x],L3,by go_num,by omega,by rw[HE.o,QH]; rfl,by rw[ZC,M.o]; rfl,?_,k.o.2.trans (ZE _ _)⟩;rw[K.o];have h:=k.o.1.drewN nq;rw[XB]at h;exact h
      case measure=>simp[intOf]; omega
     ·rw[List.concat_eq_append]at A;subst A;have hy:ok y:=HM.o y (by rw[X]; simp);obtain⟨r,T⟩:∃ r,j=r+1:=⟨a+u.length,by rw[ej]; simp; omega⟩
      have oN:=ajq (s:=u.length) I.o.1 (by rw[ej]; simp) T;have sN:=ajr (l:=0) I.o.2.2.2 I.o.2.2.1 (Int.ofNat_lt.1 aj) ay T;have e:P++(u++[y])++x::q++L3++Q=(P++u)++y::[]++x::(q++L3++Q):=by simp
      have d:=v.OD e (i1:=r) (i2:=r+1) (by rw[ZC]; exact oN.1) (by rw[ZC]; exact oN.2.2.1);have hc:∀ n,Calls Tryz.prog g (#[x.val,y.val]++lb) (wr.drewN n) fun e W'=>e=.returned (.int .i64 (cf x y))/\∃ m,W' = (wr.drewN n).drewN m:=fun n=>HC.o (wr.drewN n) x y ((HK.o.trans t).trans (ZE _ _)) HX.o hy
      have f:¬ cf x y<0->mg (gI cf) [] (p++[x])=u++[y]++x::q:=fun az=>by
       rw[Dw,Kg,X,vw z,V4,Qv (by rw[vK az]; simp)];simp
      have ae:cf x y<0->∀ s∈y::q,gI cf x s=true:=fun hl s d=>by
       rcases Z5.1 d with h | h
       ·rw[h]; exact zK hl
       ·exact z s h
      have af:mg (gI cf) [] p=u++(y::q):=by rw[X]; simp
      subst T;have V:=d.c1;have W:=d.c2;have z1:=d.z1;have z2:=d.z2;have aJ:IntKind.i64.wrap (r:Int)=(r:Int):=by rw[IntKind.wrap_i64]; omega
      have jz:(r:Int)+1<(len:Int):=by omega
      have aK:(r:Int)<(len:Int):=by omega
      have O:(a:Int)<(r:Int)+1:=by omega
      have p0:(0:Int)<=(r:Int)+1:=by omega
      have e0:((r:Int)+1).toNat=r+1:=by omega
      have HS:Hid _:=d;have K:Hid _:=f;have ak:Hid _:=ae;have au:Hid _:=af;have k:Hid _:=XX v t;have TH:Hid _:=oN;have av:Hid _:=sN;clear HJ X ej z v t f e ae af d oN sN hy;obtain⟨C,D,E⟩:=x;obtain⟨F,G,H⟩:=y;unfold aa.val at V W hc;simp only at V W hc;by_cases ah:cf ⟨C,D,E⟩ ⟨F,G,H⟩<0
      ·go_wp2_with fail;go_quiet (first | (go_at_fn g; refine Jm (hc _)));go_wp2_with fail;have e:P++(u++[aa.mk F G H])++aa.mk C D E::q++L3++Q=(P++u)++aa.mk F G H::[]++aa.mk C D E::(q++L3++Q):=by simp
       have d:=(k.o.1.drewN nq).OD e (i1:=r) (i2:=r+1) (by rw[ZC]; exact TH.o.1) (by rw[ZC]; exact TH.o.2.2.1);have t:Kept (fun b=>b≠blk) w (wr.drewN nq):=k.o.2.trans (ZE _ _);clear V W z1 z2 hc k HS K e;generalize wr.drewN nq=wq at *;obtain⟨j1,U⟩:=eY (r+1)
       rw[<- U]at e0 d;have V:=d.c1;have W:=d.c2;have z1:=d.z1;have z2:=d.z2;have aL:=d.ne;have S:=d.down;unfold aa.val at V W S;simp only at V W S;have HD:Hid _:=S;have ax:Hid _:=t;have aM:Hid _:=U;clear d S t U;go_region;have S:=HD.o;clear HD;generalize ((wq.setCell { block:=blk,off:=j1 } (Value.slice F H.length G)).setCell { block:=blk,off:=r } (Value.slice C E.length D)).drew=wf at *;have HD:Hid _:=S;clear S;go_wp2;go_roundw
       case rel=>
        refine⟨r,u,aa.mk F G H::q,by first | rfl | go_num,av.o.2.2.2,au.o,TH.o.2.2.2,ak.o ah,?_,ax.o.trans HD.o.2⟩;have h:=HD.o.1;have e:P++u++aa.mk C D E::(aa.mk F G H::q)++L3++Q=P++u++aa.mk C D E::[]++aa.mk F G H::(q++L3++Q):=by simp
        rw[e];exact h
       case measure=>simp[intOf]
      ·go_wp2_with fail;go_quiet (first | (go_at_fn g; refine Jm (hc _)));go_wp2;go_roundw
       case rel=>
        refine⟨i+1,p++[⟨C,D,E⟩],L3,by go_num,by omega,by rw[HE.o,QH]; rfl,by rw[ZC,M.o]; rfl,?_,k.o.2.trans (ZE _ _)⟩;rw[K.o ah];have h:=k.o.1.drewN nq;have e:P++(u++[aa.mk F G H]++aa.mk C D E::q)++L3++Q=P++(u++[aa.mk F G H])++aa.mk C D E::q++L3++Q:=by simp
        rw[e];exact h
       case measure=>simp[intOf]; omega
section
variable {α:Type} {lt:α->α->Bool}
theorem acD{x:α}{B1 B3:List α}(h1:∀ y∈B1,lt y x=true)(h3:∀ y∈B3,lt y x=false)(hB:bS lt (B1++B3)):mg lt [x] (B1++B3)=B1++x::B3:=by
 unfold bS at hB;rw[Zu]at hB;have e:=Nk (lt:=lt) (A1:=[]) (A2:=[x]) (B1:=B1) (B2:=B3) (fun b f a d=>by rw[Zw]at d; subst d; exact h1 b f) (fun b _ a d=>by cases d) (fun b f a d=>hB.2.2 a d b f);rw[Zd]at e;rw[e,Dx (lt:=lt) hB.1 (fun b _ a d=>by cases d),Zd,Dx (lt:=lt) hB.2.1 (fun b f a d=>by rw[Zw]at d; subst d; exact h3 b f)];rfl
theorem afL{y:α}{A1 A3:List α}(h1:∀ a∈A1,lt y a=false)(h3:∀ a∈A3,lt y a=true):mg lt (A1++A3) [y]=A1++y::A3:=by
 rw[Kg,vw h3,Ib h1];simp
theorem OG(O:Ahead lt){B4 B5:List α}{z x:α}(hB:bS lt (B4++z::B5))(h:lt z x=true):∀ y∈B4,lt y x=true:=by
 intro y b;unfold bS at hB;rw[Zu]at hB;have a:=hB.2.2 y b z (by simp)
 cases hyx:lt y x with
 | true => rfl
 | false =>
  have:=O.ntrans hyx a;rw[h]at this
  cases this
theorem OH(O:Ahead lt){B4 B5:List α}{z x:α}(hB:bS lt (B4++z::B5))(h:lt z x=false):∀ y∈B5,lt y x=false:=by
 intro y a;unfold bS at hB;rw[Zu,XD]at hB;exact O.ntrans h (hB.2.1.1 y a)
theorem Jz(O:Ahead lt){B4 B5:List α}{z x:α}(hB:bS lt (B4++z::B5))(h:lt x z=true):∀ y∈B5,lt x y=true:=by
 intro y b;unfold bS at hB;rw[Zu,XD]at hB;have a:=hB.2.1.1 y b
 cases hxy:lt x y with
 | true => rfl
 | false =>
  have:=O.ntrans a hxy;rw[h]at this
  cases this
theorem JA(O:Ahead lt){B4 B5:List α}{z x:α}(hB:bS lt (B4++z::B5))(h:lt x z=false):∀ y∈B4,lt x y=false:=by
 intro y a;unfold bS at hB;rw[Zu]at hB;exact O.ntrans (hB.2.2 y a z (by simp)) h
end
structure yj(lt:aa->aa->Bool)(x:aa)(B:List aa)(m i j:Nat)(B1 B2 B3:List aa):Prop where
 eq:B=B1++B2++B3
 li:i=m+B1.length
 lj:j=m+B1.length+B2.length
 lo:∀ y∈B1,lt y x=true
 hi:∀ y∈B3,lt y x=false
theorem Lf(h:i<j):i<=(i+j) / 2/\(i+j) / 2<j:=by omega
theorem yj.step(h:yj lt x B m i j B1 B2 B3)(O:Ahead lt)(hB:bS lt B)(hc:i<=c/\c<j) :
  ∃ B4 z B5,B2=B4++z::B5/\c=m+B1.length+B4.length/\(lt z x=true->yj lt x B m (c+1) j (B1++B4++[z]) B5 B3)/\(lt z x=false->yj lt x B m i c B1 B4 (z::B5++B3)):=by
 have k:=h.li;have n:=h.lj;obtain⟨B4,g,e,p,l⟩:=ll B2 (c-i) (by omega);obtain⟨z,B5,rfl⟩:∃ z B5,g=z::B5:=by
  cases g with
  | nil => simp at l; omega
  | cons z B5 => exact⟨z,B5,rfl⟩
 have f:=h.eq;have b:bS lt ((B1++B4)++z::(B5++B3)):=by rw[f,e]at hB; simpa using hB
 have o:B2.length=B4.length+(B5.length+1):=by rw[e]; simp
 refine⟨B4,z,B5,e,by omega,fun d=>⟨by rw[f,e]; simp,by simp; omega,by simp; omega,fun y a=>?_,h.hi⟩,fun d=>⟨by rw[f,e]; simp,k,by omega,h.lo,fun y a=>?_⟩⟩
 ·rcases Zx.1 a with a | a
  ·exact OG O b d y a
  ·rw[Zw]at a; rw[a]; exact d
 ·rcases Zx.1 a with a | a
  ·rcases Z5.1 a with a | a
   ·rw[a]; exact d
   ·exact OH O b d y (Zx.2 (XG a))
  ·exact h.hi y a
structure yl(lt:aa->aa->Bool)(x:aa)(B:List aa)(m i j:Nat)(B1 B2 B3:List aa):Prop where
 eq:B=B1++B2++B3
 li:i=m+B1.length
 lj:j=m+B1.length+B2.length
 lo:∀ y∈B1,lt x y=false
 hi:∀ y∈B3,lt x y=true
theorem yl.step(h:yl lt x B m i j B1 B2 B3)(O:Ahead lt)(hB:bS lt B)(hc:i<=c/\c<j) :
  ∃ B4 z B5,B2=B4++z::B5/\c=m+B1.length+B4.length/\(lt x z=false->yl lt x B m (c+1) j (B1++B4++[z]) B5 B3)/\(lt x z=true->yl lt x B m i c B1 B4 (z::B5++B3)):=by
 have k:=h.li;have n:=h.lj;obtain⟨B4,g,e,p,l⟩:=ll B2 (c-i) (by omega);obtain⟨z,B5,rfl⟩:∃ z B5,g=z::B5:=by
  cases g with
  | nil => simp at l; omega
  | cons z B5 => exact⟨z,B5,rfl⟩
 have f:=h.eq;have b:bS lt ((B1++B4)++z::(B5++B3)):=by rw[f,e]at hB; simpa using hB
 have o:B2.length=B4.length+(B5.length+1):=by rw[e]; simp
 refine⟨B4,z,B5,e,by omega,fun d=>⟨by rw[f,e]; simp,by simp; omega,by simp; omega,fun y a=>?_,h.hi⟩,fun d=>⟨by rw[f,e]; simp,k,by omega,h.lo,fun y a=>?_⟩⟩
 ·rcases Zx.1 a with a | a
  ·exact JA O b d y a
  ·rw[Zw]at a; rw[a]; exact d
 ·rcases Zx.1 a with a | a
  ·rcases Z5.1 a with a | a
   ·rw[a]; exact d
   ·exact Jz O b d y (Zx.2 (XG a))
  ·exact h.hi y a
theorem anE{len i:Nat}(ha:a=p)(hm:m=p+1)(hb:b=p+1+lb)(hlen:b<=len)(hl:len<=1000000):m=a+1/\a<len/\b<=1000000/\m<=b:=by omega
theorem yj.len(h:yj lt x B m i j B1 B2 B3)(e:B2=B4++z::B5):B.length=B1.length+(B4.length+(B5.length+1))+B3.length:=by
 rw[h.eq,e];simp only[ZC,Q7]
theorem yl.len(h:yl lt x B m i j B1 B2 B3)(e:B2=B4++z::B5):B.length=B1.length+(B4.length+(B5.length+1))+B3.length:=by
 rw[h.eq,e];simp only[ZC,Q7]
theorem anF(h:c=p+1+b1+b4):c=p+(b1+b4+1):=by omega
theorem AU{k1:Nat}(h:k1=k+1)(hk:k<=1000000):wrap64 ((k:Int)+1)=(k1:Int)/\((k:Int)+1).toNat=k1/\(k:Int)+1=(k1:Int):=by unfold wrap64; omega
theorem anG(h:k<i-1):k+1<=i:=by omega
theorem zL(h:c=(i+j) / 2):((i:Int)+(j:Int)) / 2=(c:Int):=by omega
theorem anH{len:Nat}(hm:m=p+1)(hb:b=p+1+lb)(hlen:b<=len)(hl:len<=1000000)(hB:lb=b1+(b4+(b5+1))+b3)(ec:c=m+b1+b4):c=p+1+b1+b4/\c<len/\c+1<=1000000/\(c:Int)<(len:Int):=by omega
theorem anI{l2 len l3:Nat}(ha:a=p)(hm:m=p+1)(hi:i=m+(l1+(l2+1)))(hb:b=p+1+lb)(hlen:b<=len)(hl:len<=1000000)(hB:lb=l1+(l2+1)+l3):a+l1<i-1/\a+l1=p+l1/\a+l1+1=p+l1+1+0/\a+l1+1<len/\a+l1<len/\1<=i/\i<=1000000/\a+l1+1=a+(l1+1):=by omega
theorem anJ(ha:a=p)(hm:m=p+1)(hi:i=m+l1):¬ a+l1<i-1/\1<=i:=by omega
theorem OI(blk cap len a m b g:Nat)(lb:Array Value)(cf:aa->aa->Int)(ok:aa->Prop)(w0:World)(hC:OE Tryz.prog g lb cf blk w0 ok)(eg:∀ args w,(callFunc g args).run Tryz.prog w=.ok (.enter g args) w)(O:Ahead (gI cf))
  (P B Q:List aa) (x:aa) (R:List Value) (w:World) (hG:GB w blk 22 (SL (P++x::B++Q) R)) (hB:bS (gI cf) B) (hx:ok x) (hok:∀ y∈B,ok y) (hK:Kept (fun b=>b≠blk) w0 w) (ha:a=P.length) (hm:m=P.length+1) (hb:b=P.length+1+B.length) (hlen:b<=len) (hl:len<=1000000) :
  Calls Tryz.prog 160 #[.slice (some (aD blk 0)) len cap,.int .i64 a,.int .i64 m,.int .i64 b,.func (.func g) #[] lb] w fun e w'=>e=.returned (.tuple #[])/\GB w' blk 22 (SL (P++mg (gI cf) [x] B++Q) R)/\Kept (fun b=>b≠blk) w w':=by
 have K:=anE (i:=0) ha hm hb hlen hl;have L:wrap64 ((m:Int)-(a:Int))=1:=by unfold wrap64; omega
 have HG:Hid (GB w blk 22 (SL (P++x::B++Q) R)):=hG;have HC:Hid _:=hC;have HO:Hid _:=hok;have HX:Hid _:=hx;have HB:Hid _:=hB;have HK:Hid _:=hK;have f:Hid _:=XX ha (XX hm (XX hb (XX hlen hl)));have HN:Hid _:=K;clear hG hC hok hx hB hK ha hm hb hlen hl K;go_enter Tryz.func160,Tryz.ntmps160;go_wp2;simp only[L];clear L;go_loopw [10,11] (fun iv jv wr=>∃ (i j n:Nat) (B1 B2 d:List aa),iv=.int .i64 i/\jv=.int .i64 j/\i<=j/\j<=1000000/\wr=w.drewN n/\Hid (yj (gI cf) x B m i j B1 B2 d)) (fun iv jv _=>(intOf jv).toNat-(intOf iv).toNat)
 case atStart=>exact⟨m,b,0,[],B,[],rfl,rfl,HN.o.2.2.2,HN.o.2.2.1,rfl,by simp,rfl,by have:=f.o; simp; omega,fun y hy=>(by cases hy),fun y hy=>(by cases hy)⟩
 case round=>
  obtain⟨i,j,n,B1,B2,d,rfl,rfl,au,hj,rfl,l⟩:=hrel;by_cases ae:i<j
  ·have hh:=Lf ae;obtain⟨c,hc⟩:∃ c,c=(i+j) / 2:=⟨_,rfl⟩
   rw[<- hc]at hh;have M:Hid _:=zL hc;clear hc;obtain⟨B4,z,B5,e2,ec,f1,f2⟩:=l.o.step O HB.o hh;have t:B.length=B1.length+(B4.length+(B5.length+1))+d.length:=l.o.len e2;have v:=anH f.o.2.1 f.o.2.2.1 f.o.2.2.2.1 f.o.2.2.2.2 t ec;have ez:P++x::B++Q=(P++x::(B1++B4))++z::(B5++d++Q):=by rw[l.o.eq,e2]; simp
   have kz:=(HG.o.drewN n).qA ez (i:=c) (by simp only[ZC,Q7]; exact anF v.1);have kx:=(HG.o.drewN n).qA (A:=P) (C:=B++Q) (x:=x) (by simp) (i:=a) f.o.1;have hz:ok z:=HO.o z (by rw[l.o.eq,e2]; simp);have az:=HN.o.2.1;have aA:=v.2.1;have aB:=v.2.2.1;have u:∀ q,Calls Tryz.prog g (#[z.val,x.val]++lb) ((w.drewN n).drewN q) fun e W'=>e=.returned (.int .i64 (cf z x))/\∃ m,W' = ((w.drewN n).drewN q).drewN m:=fun q=>HC.o _ z x ((HK.o.trans (ZE _ _)).trans (ZE _ _)) hz HX.o
   have ag:Hid _:=f1;have ah:Hid _:=f2;have KS:Hid _:=l.o.eq;have N:Hid _:=hh;clear f1 f2 v ez hz t e2 ec l hh;have ai:Hid (∃ n,∀ q,(w.drewN n).drewN q=w.drewN (n+q)):=⟨n,fun q=>Jn _ _ _⟩
   obtain⟨wq,p⟩:=eX (w.drewN n)
   have HQ:Hid _:=p;rw[p]at kz kx u ⊢;clear p ai;obtain⟨Y,Z,gK⟩:=x;obtain⟨av,ax,ay⟩:=z;unfold aa.val at kz kx u;simp only at kz kx u;by_cases af:cf ⟨av,ax,ay⟩ ⟨Y,Z,gK⟩<0
   ·go_upto_region 5 with fail;rw[M.o];go_quiet (first | (go_at_fn g; refine Jm (u _)));go_wp2;go_roundw
    case rel=>exact⟨c+1,j,n+nq,_,_,_,by go_num,rfl,N.o.2,hj,by rw[<- HQ.o,Jn],ag.o (zK af)⟩
    case measure=>have:=N.o; simp[intOf]; omega
   ·go_upto_region 5 with fail;rw[M.o];go_quiet (first | (go_at_fn g; refine Jm (u _)));go_wp2;go_roundw
    case rel=>exact⟨i,c,n+nq,_,_,_,rfl,rfl,N.o.1,by have:=N.o; omega,by rw[<- HQ.o,Jn],ah.o (vK af)⟩
    case measure=>have:=N.o; simp[intOf]; omega
  ·obtain rfl:i=j:=by omega
   have S:=l.o.li;have h2:=l.o.lj;obtain rfl:B2=[]:=QF (by omega);have T:B=B1++d:=by rw[l.o.eq]; simp
   have D:mg (gI cf) [x] B=B1++x::d:=by rw[T]; exact acD l.o.lo l.o.hi (by rw[<- T]; exact HB.o)
   have pq:Hid _:=D;have t:B.length=B1.length+d.length:=by rw[T]; simp
   have H:1<=i/\i<=1000000:=by have:=f.o; omega
   have aC:wrap64 ((i:Int)-1)=((i-1:Nat):Int):=by unfold wrap64; omega
   have U:GB (w.drewN n) blk 22 (SL (P++[]++x::B1++d++Q) R):=by
    have h:=HG.o.drewN n;have e:P++[]++x::B1++d++Q=P++x::B++Q:=by rw[T]; simp
    rw[e]; exact h
   have YJ:Hid _:=U;have HL:Hid _:=XX S t;clear l S h2 T D t U hj au ae;have lI:Kept (fun b=>b≠blk) w (w.drewN n):=ZE _ _;have nO:Hid _:=lI;clear lI;obtain⟨wq,p⟩:=eX (w.drewN n)
   rw[p]at YJ nO ⊢;clear p;go_wp2;go_loopw [13] (fun kv wr=>∃ (k:Nat) (s C2:List aa),kv=.int .i64 k/\k<=i/\Hid (B1=s++C2/\k=a+s.length/\GB wr blk 22 (SL (P++s++x::C2++d++Q) R)/\Kept (fun b=>b≠blk) w wr)) (fun kv _=>i-(intOf kv).toNat)
   case atStart=>exact⟨a,[],B1,rfl,by have:=f.o; have:=HL.o; omega,rfl,rfl,YJ.o,nO.o⟩
   case round=>
    obtain⟨k,s,C2,rfl,J,HJ⟩:=hrel;obtain⟨G,ek,hg,hk⟩:=HJ.o
    cases C2 with
    | nil =>
     rw[XB]at G;have sN:=anJ f.o.1 f.o.2.1 HL.o.1;rw[G,<- ek]at sN;have aF:¬ ((k:Int)<((i-1:Nat):Int)):=by omega
     have hF:GB wr blk 22 (SL (P++(B1++x::d)++Q) R)/\Kept (fun b=>b≠blk) w wr:=by
      refine⟨?_,hk⟩;have e:P++(B1++x::d)++Q=P++s++x::[]++d++Q:=by rw[G]; simp
      rw[e]; exact hg
     have l:Hid _:=hF;clear hF hg hk ek G HJ sN;go_wp2;refine ZN (results_none rfl _ _ _) rfl ?_;exact⟨rfl,by rw[pq.o]; have h:=l.o.1; rw[QH]at h; exact h,l.o.2⟩
    | cons y C3 =>
     have V:i=m+(s.length+(C3.length+1)):=by rw[HL.o.1,G,ZC]; rfl
     have W:B.length=s.length+(C3.length+1)+d.length:=by rw[HL.o.2,G,ZC]; rfl
     have E:=anI f.o.1 f.o.2.1 V f.o.2.2.1 f.o.2.2.2.1 f.o.2.2.2.2 W;rw[<- ek]at E;have e:P++s++x::(y::C3)++d++Q=(P++s)++x::[]++y::(C3++d++Q):=by simp
     have F:=hg.OD e (i1:=k) (i2:=k+1) (by rw[ZC]; exact E.2.1) (by rw[ZC]; exact E.2.2.1);have aG:(k:Int)<((i-1:Nat):Int):=Int.ofNat_lt.2 E.1;have S:=E.2.2.2.1;have h2:=E.2.2.2.2.1;have TH:Hid _:=E;have aj:Hid _:=hk;have ak:Hid _:=G;obtain⟨k1,r⟩:=eY (k+1)
     have aH:=(AU r (QS J H.2)).1;have e0:=(AU r (QS J H.2)).2.1;have e1:=(AU r (QS J H.2)).2.2;have pI:Hid _:=r;rw[<- r]at F S;obtain⟨Y,Z,gK⟩:=x;obtain⟨sZ,je,tZ⟩:=y;have c1:=F.c1;have c2:=F.c2;have z1:=F.z1;have z2:=F.z2;have aI:=F.ne;have I:=F.up;unfold aa.val at c1 c2 I;simp only at c1 c2 I;have X:Hid _:=I;clear F I hg hk ek G HJ E e r V W;go_wp2;go_region;have I:=X.o;clear X;generalize ((wr.setCell { block:=blk,off:=k } (Value.slice sZ tZ.length je)).setCell { block:=blk,off:=k1 } (Value.slice Y gK.length Z)).drew=wf at *;have X:Hid _:=I;clear I;go_wp2;go_roundw
     case rel=>
      refine⟨k1,s++[aa.mk sZ je tZ],C3,by first | rfl | (rw[e1]) | go_num,by rw[pI.o]; exact(anG TH.o.1),by rw[ak.o,QH]; rfl,by rw[pI.o,ZC]; exact TH.o.2.2.2.2.2.2.2,?_,aj.o.trans X.o.2⟩;have h:=X.o.1;have e:P++(s++[aa.mk sZ je tZ])++aa.mk Y Z gK::C3++d++Q=P++s++aa.mk sZ je tZ::[]++aa.mk Y Z gK::(C3++d++Q):=by simp
      rw[e];exact h
     case measure=>have S:=pI.o; have h2:=TH.o.1; simp[intOf]; omega
theorem anK{len:Nat}(ha:a=p)(hm:m=p+la)(hb:b=p+la+1)(hlen:b<=len)(hl:len<=1000000)(h2:2<=la):wrap64 ((m:Int)-(a:Int))=(la:Int)/\wrap64 ((b:Int)-(m:Int))=1/\a<=m/\m<=1000000/\m<len/\((la:Int)==1)=false/\m=a+la:=by
 have h:¬ (la:Int)=1:=by omega
 refine⟨by unfold wrap64; omega,by unfold wrap64; omega,by omega,by omega,by omega,by simpa using h,by omega⟩
theorem anL{len:Nat}(ha:a=p)(hb:b=p+la+1)(hlen:b<=len)(hl:len<=1000000)(hA:la=b1+(b4+(b5+1))+b3)(ec:c=a+b1+b4):c=p+(b1+b4)/\c<len/\c+1<=1000000:=by omega
theorem anM{c3 a1 len:Nat}(ha:a=p)(hi:i=a+a1)(hk:k=i+(c3+1))(h:k=kp+1)(hkm:k<=m)(hm:m<len)(hl:len<=1000000):kp=p+a1+c3/\kp+1=p+a1+c3+1+0/\kp+1<len/\kp<len/\i<kp+1/\kp=i+c3/\kp<=m/\kp+1<=1000000:=by omega
theorem anN{len:Nat}(h1:i<kp+1)(h2:kp+1<len)(h3:kp+1<=1000000):(i:Int)<(kp:Int)+1/\(kp:Int)+1<(len:Int)/\(kp:Int)<(len:Int)/\(0:Int)<=(kp:Int)+1/\((kp:Int)+1).toNat=kp+1/\IntKind.i64.wrap (kp:Int)=(kp:Int):=by
 refine⟨by omega,by omega,by omega,by omega,by omega,by rw[IntKind.wrap_i64]; omega⟩
theorem Lg(blk cap len a m b g:Nat)(lb:Array Value)(cf:aa->aa->Int)(ok:aa->Prop)(w0:World)(hC:OE Tryz.prog g lb cf blk w0 ok)(eg:∀ args w,(callFunc g args).run Tryz.prog w=.ok (.enter g args) w)(O:Ahead (gI cf))
  (P A Q:List aa) (x:aa) (R:List Value) (w:World) (hG:GB w blk 22 (SL (P++A++x::Q) R)) (hB:bS (gI cf) A) (hx:ok x) (hok:∀ y∈A,ok y) (hK:Kept (fun b=>b≠blk) w0 w) (ha:a=P.length) (hm:m=P.length+A.length) (hb:b=P.length+A.length+1) (hlen:b<=len) (hl:len<=1000000) (h2:2<=A.length) :
  Calls Tryz.prog 160 #[.slice (some (aD blk 0)) len cap,.int .i64 a,.int .i64 m,.int .i64 b,.func (.func g) #[] lb] w fun e w'=>e=.returned (.tuple #[])/\GB w' blk 22 (SL (P++mg (gI cf) A [x]++Q) R)/\Kept (fun b=>b≠blk) w w':=by
 have l:=anK ha hm hb hlen hl h2;have J:=l.1;have K:=l.2.1;have L:=l.2.2.2.2.2.1;have Kc:=l.2.2.2.2.1;have HG:Hid (GB w blk 22 (SL (P++A++x::Q) R)):=hG;have HC:Hid _:=hC;have HO:Hid _:=hok;have HX:Hid _:=hx;have HB:Hid _:=hB;have HK:Hid _:=hK;have D:Hid _:=XX ha (XX hm (XX hb (XX hlen hl)));have HN:Hid _:=l;clear hG hC hok hx hB hK ha hm hb hlen hl l;go_enter Tryz.func160,Tryz.ntmps160;go_wp2;simp only[J,K,L];clear J K L h2;go_loopw [14,15] (fun iv jv wr=>∃ (i j n:Nat) (B1 B2 d:List aa),iv=.int .i64 i/\jv=.int .i64 j/\i<=j/\j<=1000000/\wr=w.drewN n/\Hid (yl (gI cf) x A a i j B1 B2 d)) (fun iv jv _=>(intOf jv).toNat-(intOf iv).toNat)
 case atStart=>exact⟨a,m,0,[],A,[],rfl,rfl,HN.o.2.2.1,HN.o.2.2.2.1,rfl,by simp,rfl,HN.o.2.2.2.2.2.2,fun y hy=>(by cases hy),fun y hy=>(by cases hy)⟩
 case round=>
  obtain⟨i,j,n,B1,B2,d,rfl,rfl,ay,hj,rfl,f⟩:=hrel;by_cases ag:i<j
  ·have hh:=Lf ag;obtain⟨c,hc⟩:∃ c,c=(i+j) / 2:=⟨_,rfl⟩
   rw[<- hc]at hh;have M:Hid _:=zL hc;clear hc;obtain⟨B4,z,B5,e2,ec,f1,f2⟩:=f.o.step O HB.o hh;have N:A.length=B1.length+(B4.length+(B5.length+1))+d.length:=f.o.len e2;have s:=anL D.o.1 D.o.2.2.1 D.o.2.2.2.1 D.o.2.2.2.2 N ec;have ez:P++A++x::Q=(P++(B1++B4))++z::(B5++d++x::Q):=by rw[f.o.eq,e2]; simp
   have kz:=(HG.o.drewN n).qA ez (i:=c) (by simp only[ZC]; exact s.1);have kx:=(HG.o.drewN n).qA (A:=P++A) (C:=Q) (x:=x) rfl (i:=m) (by rw[ZC]; exact D.o.2.1);have hz:ok z:=HO.o z (by rw[f.o.eq,e2]; simp);have aC:=s.2.1;have aF:=s.2.2;have r:∀ q,Calls Tryz.prog g (#[x.val,z.val]++lb) ((w.drewN n).drewN q) fun e W'=>e=.returned (.int .i64 (cf x z))/\∃ m,W' = ((w.drewN n).drewN q).drewN m:=fun q=>HC.o _ x z ((HK.o.trans (ZE _ _)).trans (ZE _ _)) HX.o hz
   have ai:Hid _:=f1;have aj:Hid _:=f2;have S:Hid _:=hh;clear f1 f2 s ez hz N e2 ec f hh;obtain⟨wq,p⟩:=eX (w.drewN n)
   have HQ:Hid _:=p;rw[p]at kz kx r ⊢;clear p;obtain⟨W,X,Y⟩:=x;obtain⟨az,aA,aB⟩:=z;unfold aa.val at kz kx r;simp only at kz kx r;by_cases ah:cf ⟨W,X,Y⟩ ⟨az,aA,aB⟩<0
   ·go_upto_region 17 with fail;rw[M.o];go_quiet (first | (go_at_fn g; refine Jm (r _)));go_wp2;go_roundw
    case rel=>exact⟨i,c,n+nq,_,_,_,rfl,rfl,S.o.1,by have:=S.o; omega,by rw[<- HQ.o,Jn],aj.o (zK ah)⟩
    case measure=>have:=S.o; simp[intOf]; omega
   ·go_upto_region 17 with fail;rw[M.o];go_quiet (first | (go_at_fn g; refine Jm (r _)));go_wp2;go_roundw
    case rel=>exact⟨c+1,j,n+nq,_,_,_,by go_num,rfl,S.o.2,hj,by rw[<- HQ.o,Jn],ai.o (vK ah)⟩
    case measure=>have:=S.o; simp[intOf]; omega
  ·obtain rfl:i=j:=by omega
   have h1:=f.o.li;have h2:=f.o.lj;obtain rfl:B2=[]:=QF (by omega);have eB:A=B1++d:=by rw[f.o.eq]; simp
   have v:mg (gI cf) A [x]=B1++x::d:=by rw[eB]; exact afL f.o.lo f.o.hi
   have pq:Hid _:=v;have T:m=i+d.length:=by rw[h1,HN.o.2.2.2.2.2.2,eB,ZC,Nat.add_assoc]
   have U:GB (w.drewN n) blk 22 (SL (P++B1++d++x::[]++Q) R):=by
    have h:=HG.o.drewN n;have e:P++B1++d++x::[]++Q=P++A++x::Q:=by rw[eB]; simp
    rw[e]; exact h
   have YJ:Hid _:=U;have ak:Hid _:=T;have Ve:Hid _:=h1;clear f h1 h2 eB v T U hj ay ag;have lI:Kept (fun b=>b≠blk) w (w.drewN n):=ZE _ _;have nO:Hid _:=lI;clear lI;obtain⟨wq,p⟩:=eX (w.drewN n)
   rw[p]at YJ nO ⊢;clear p;go_wp2;go_loopw [17] (fun kv wr=>∃ (k:Nat) (Z u:List aa),kv=.int .i64 k/\k<=m/\Hid (d=Z++u/\k=i+Z.length/\GB wr blk 22 (SL (P++B1++Z++x::u++Q) R)/\Kept (fun b=>b≠blk) w wr)) (fun kv _=>(intOf kv).toNat)
   case atStart=>exact⟨m,d,[],rfl,Qs _,by rw[XB],ak.o,YJ.o,nO.o⟩
   case round=>
    obtain⟨k,Z,u,rfl,ae,HJ⟩:=hrel;obtain⟨eC,ek,hg,hk⟩:=HJ.o;rcases List.eq_nil_or_concat Z with t | ⟨G,y,t⟩
    ·subst t;have au:k=i:=ek;subst au;rw[Zd]at eC;subst eC;have hF:GB wr blk 22 (SL (P++(B1++x::d)++Q) R)/\Kept (fun b=>b≠blk) w wr:=by
      refine⟨?_,hk⟩;have e:P++(B1++x::d)++Q=P++B1++[]++x::d++Q:=by simp
      rw[e]; exact hg
     have f:Hid _:=hF;clear hF hg hk ek HJ;go_wp2;refine ZN (results_none rfl _ _ _) rfl ?_;exact⟨rfl,by rw[pq.o]; have h:=f.o.1; first | exact h | (rw[QH]at h; exact h),f.o.2⟩
    ·rw[List.concat_eq_append]at t;subst t;obtain⟨H,af⟩:∃ H,k=H+1:=⟨i+G.length,by rw[ek,ZC]; rfl⟩
     have E:=anM D.o.1 Ve.o (by rw[ek,ZC]; rfl) af ae Kc D.o.2.2.2.2;have sN:=anN E.2.2.2.2.1 E.2.2.1 E.2.2.2.2.2.2.2;have e:P++B1++(G++[y])++x::u++Q=(P++B1++G)++y::[]++x::(u++Q):=by simp
     have B:=hg.OD e (i1:=H) (i2:=H+1) (by simp only[ZC]; exact E.1) (by simp only[ZC]; exact E.2.1);subst af;obtain⟨h1,h2,h3,h4,e0,aH⟩:=sN;have TH:Hid _:=E;have av:Hid _:=hk;have ax:Hid (d=G++(y::u)):=by show d=_; rw[eC]; simp
     obtain⟨k1,I⟩:=eY (H+1)
     rw[<- I]at B e0;have pI:Hid _:=I;obtain⟨W,X,Y⟩:=x;obtain⟨sZ,je,tZ⟩:=y;have c1:=B.c1;have c2:=B.c2;have z1:=B.z1;have z2:=B.z2;have aG:=B.ne;have F:=B.down;unfold aa.val at c1 c2 F;simp only at c1 c2 F;have V:Hid _:=F;clear B F hg hk ek eC HJ E e I ae;go_wp2;go_region;have F:=V.o;clear V;generalize ((wr.setCell { block:=blk,off:=k1 } (Value.slice sZ tZ.length je)).setCell { block:=blk,off:=H } (Value.slice W Y.length X)).drew=wf at *;have V:Hid _:=F;clear F;go_wp2;go_roundw
     case rel=>
      refine⟨H,G,aa.mk sZ je tZ::u,by first | rfl | go_num,TH.o.2.2.2.2.2.2.1,ax.o,TH.o.2.2.2.2.2.1,?_,av.o.trans V.o.2⟩;have h:=V.o.1;have e:P++B1++G++aa.mk W X Y::(aa.mk sZ je tZ::u)++Q=P++B1++G++aa.mk W X Y::[]++aa.mk sZ je tZ::(u++Q):=by simp
      rw[e];exact h
     case measure=>simp[intOf]
structure Span(a m b mid n s0 r0:Nat):Prop where
 h1:n=mid+m
 h2:a<=s0/\s0<=r0/\r0<=m
 h3:m<=n-r0/\n-s0<=b/\r0<=n
 h4:s0=a∨n-s0=b
 h5:r0=m∨n-r0=m
 h6:a<=mid/\mid<=b
 h7:∀ c,s0<=c->c<r0->a<=c/\c<m/\m<=n-1-c/\n-1-c<b/\1<=n/\c<=n-1
theorem afM(h1:a<m)(h2:m<b)(hm:mid=(a+b) / 2)(h:mid<m):Span a m b mid (mid+m) (mid+m-b) mid:=by
 refine⟨rfl,by omega,by omega,Or.inr (by omega),Or.inr (by omega),by omega,fun c d e=>by omega⟩
theorem afN(h1:a<m)(h2:m<b)(hm:mid=(a+b) / 2)(h:¬ mid<m):Span a m b mid (mid+m) a m:=by
 refine⟨rfl,by omega,by omega,XG rfl,XG rfl,by omega,fun c d e=>by omega⟩
structure yn(lt:aa->aa->Bool)(A B:List aa)(a m n s0 r0 s r:Nat):Prop where
 le:s0<=s/\s<=r/\r<=r0
 lo:s=s0∨lt ((B.getD (n-1-(s-1)-m) iz)) (A.getD (s-1-a) iz)=false
 hi:r=r0∨lt ((B.getD (n-1-r-m) iz)) (A.getD (r-a) iz)=true
structure Four(lt:aa->aa->Bool)(A B A1 A2 B1 B2:List aa)(a m b mid s e:Nat):Prop where
 eA:A=A1++A2
 eB:B=B1++B2
 l1:s=a+A1.length
 l2:m=s+A2.length
 l3:e=m+B1.length
 l4:b=e+B2.length
 l5:mid=a+A1.length+B1.length
 c1:∀ y∈B1,∀ x∈A2,lt y x=true
 c2:∀ y∈B2,∀ x∈A1,lt y x=false
theorem acE:(A1++x::A2).getD A1.length iz=x:=by simp[List.getD]
theorem getD_eq(e:L=A1++x::A2)(h:i=A1.length):L.getD i iz=x:=by rw[e,h]; exact acE
theorem yn.four(O:Ahead lt)(S:Span a m b mid n s0 r0)(h:yn lt A B a m n s0 r0 s s)(hA:bS lt A)(hB:bS lt B)(hm:m=a+A.length)(hb:b=m+B.length) :
  ∃ A1 A2 B1 B2,Four lt A B A1 A2 B1 B2 a m b mid s (n-s):=by
 have I:=S.h1;have J:=S.h2;have K:=S.h3;have L:=S.h6;have t:=h.le;obtain⟨A1,A2,o,E,F⟩:=ll A (s-a) (by omega);obtain⟨B1,B2,p,G,H⟩:=ll B (n-s-m) (by omega);refine⟨A1,A2,B1,B2,o,p,by omega,by omega,by omega,by omega,by omega,?_,?_⟩
 ·intro y d x e;rcases List.eq_nil_or_concat B1 with f | ⟨j,z,f⟩
  ·rw[f]at d; cases d
  ·rw[List.concat_eq_append]at f
   cases hA2:A2 with
   | nil => rw[hA2]at e; cases e
   | cons v k =>
    have u:B1.length=j.length+1:=by rw[f]; simp
    have w:A2.length=k.length+1:=by rw[hA2]; rfl
    have l:lt z v=true:=by
     rcases h.hi with h | h
     ·exfalso;rcases S.h5 with C | C <;> omega
     ·have q:B.getD (n-1-s-m) iz=z:=getD_eq (A1:=j) (A2:=B2) (by rw[p,f]; simp) (by omega);have r:A.getD (s-a) iz=v:=getD_eq (A1:=A1) (A2:=k) (by rw[o,hA2]) (by omega);rw[q,r]at h;exact h
    have i:lt y v=true:=by
     rw[f]at d;rcases Zx.1 d with d | d
     ·exact OG O (B4:=j) (B5:=B2) (by rw[p,f]at hB; simpa using hB) l y d
     ·rw[Zw]at d; rw[d]; exact l
    rw[hA2]at e;rcases Z5.1 e with e | e
    ·rw[e]; exact i
    ·exact Jz O (B4:=A1) (B5:=k) (by rw[o,hA2]at hA; exact hA) i x e
 ·intro y d x e;rcases List.eq_nil_or_concat A1 with g | ⟨k,z,g⟩
  ·rw[g]at e; cases e
  ·rw[List.concat_eq_append]at g
   cases hB2:B2 with
   | nil => rw[hB2]at d; cases d
   | cons v j =>
    have u:A1.length=k.length+1:=by rw[g]; simp
    have w:B2.length=j.length+1:=by rw[hB2]; rfl
    have l:lt v z=false:=by
     rcases h.lo with h | h
     ·exfalso;rcases S.h4 with D | D <;> omega
     ·have q:B.getD (n-1-(s-1)-m) iz=v:=getD_eq (A1:=B1) (A2:=j) (by rw[p,hB2]) (by omega);have r:A.getD (s-1-a) iz=z:=getD_eq (A1:=k) (A2:=A2) (by rw[o,g]; simp) (by omega);rw[q,r]at h;exact h
    have i:lt y z=false:=by
     rw[hB2]at d;rcases Z5.1 d with d | d
     ·rw[d]; exact l
     ·exact OH O (B4:=B1) (B5:=j) (by rw[p,hB2]at hB; exact hB) l y d
    rw[g]at e;rcases Zx.1 e with e | e
    ·exact JA O (B4:=k) (B5:=A2) (by rw[o,g]at hA; simpa using hA) i x e
    ·rw[Zw]at e; rw[e]; exact i
theorem Four.mg(h:Four lt A B A1 A2 B1 B2 a m b mid s e)(hB:bS lt B):mg lt A B=mg lt A1 B1++mg lt A2 B2:=by
 rw[h.eA,h.eB];rw[h.eB]at hB;unfold bS at hB;rw[Zu]at hB;exact Nk h.c1 h.c2 (fun b d a f=>hB.2.2 a f b d)
theorem OJ(hA:bS lt A)(hB:bS lt B)(h:A.length=0∨B.length=0):mg lt A B=A++B:=by
 rcases h with h | h
 ·rw[QF h];exact Dx hB (fun _ _ _ h=>by cases h)
 ·rw[QF h,XB];rfl
theorem Four.rows(h:Four lt A B A1 A2 B1 B2 a m b mid s e)(hA:bS lt A)(hB:bS lt B):bS lt A1/\bS lt A2/\bS lt B1/\bS lt B2:=by
 rw[h.eA]at hA;rw[h.eB]at hB;unfold bS at *;rw[Zu]at hA hB;exact⟨hA.1,hA.2.1,hB.1,hB.2.1⟩
theorem yn.step{r:Nat}(h:yn lt A B a m n s0 r0 s r)(hc:s<=c/\c<r) :
  (lt (B.getD (n-1-c-m) iz) (A.getD (c-a) iz)=false->yn lt A B a m n s0 r0 (c+1) r)/\(lt (B.getD (n-1-c-m) iz) (A.getD (c-a) iz)=true->yn lt A B a m n s0 r0 s c):=by
 have d:=h.le;refine⟨fun b=>⟨by omega,Or.inr ?_,h.hi⟩,fun b=>⟨by omega,h.lo,Or.inr b⟩⟩;rw[Xq];exact b
