import Derived.Test.YtjndadibondgbaaGreatDoorL29
import Derived.Test.YtjndadibondgbaaGreatDoorL30
import Derived.Test.YtjndadibondgbaaGreatDoorL31
set_option linter.all false
set_option maxRecDepth 100000
set_option maxHeartbeats 16000000
namespace Go.Proofs.Zz
open Go.RowKit Go.Shelf
variable {W w w' x y:World} {P:Program} {R b:Nat} {a:Act}
def Nw(w w' W:World):Prop:=Kept (fun b=>w.heap.size<=b) w' W
theorem Nw.more(h:Nw w w' W)(hs:w.heap.size<=x.heap.size):Nw x w' W:=Kept.mono h fun b _ a=>QS hs a
theorem Nw.cell{w w' W:World}(h:Nw w w' W){b o:Nat}{v:Value}(hb:w.heap.size<=b)(hc:w'.cell? (aD b o)=some v):W.cell? (aD b o)=some v:=Zj hc h hb
theorem Lm(w:World)(c1 c2:Array Value)(t1 t2:TypeId):∃ w',w' = (w.alloc (.cells c1 t1)).alloc (.cells c2 t2)/\Bw w w'/\∀ W,Nw w w' W->(w.heap.size<W.heap.size/\W.cell? (aD w.heap.size 0)=c1[0]?)/\w.heap.size+1<W.heap.size/\W.cell? (aD (w.heap.size+1) 0)=c2[0]?:=by
 have a:=bV w (.cells c1 t1);have b:=bV (w.alloc (.cells c1 t1)) (.cells c2 t2);have f:=(ZG w c1 t1).of (b.block _ (by simp));have e:=ZG (w.alloc (.cells c1 t1)) c2 t2;rw[QY]at e;refine⟨_,rfl,a.trans (b.mono a.size),fun W d=>?_⟩;have g:=d.block w.heap.size (by simp; omega) (Qs _);have i:=d.block (w.heap.size+1) (by simp) (Nat.le_succ _);have j:=d.size;simp only[QY]at j;exact⟨⟨by omega,(f.of g).cell 0⟩,by omega,(e.of i).cell 0⟩
theorem acY(w:World)(c1 c2 c3 c4:Array Value)(t1 t2 t3 t4:TypeId):∃ w',w' = (((w.alloc (.cells c1 t1)).alloc (.cells c2 t2)).alloc (.cells c3 t3)).alloc (.cells c4 t4)/\Bw w w'/\
  ∀ W,Nw w w' W->(w.heap.size<W.heap.size/\W.cell? (aD w.heap.size 0)=c1[0]?)/\(w.heap.size+1<W.heap.size/\W.cell? (aD (w.heap.size+1) 0)=c2[0]?)/\(w.heap.size+2<W.heap.size/\W.cell? (aD (w.heap.size+2) 0)=c3[0]?)/\w.heap.size+3<W.heap.size/\W.cell? (aD (w.heap.size+3) 0)=c4[0]?:=by
 obtain⟨x,g,d,k⟩:=Lm w c1 c2 t1 t2;obtain⟨y,i,a,l⟩:=Lm x c3 c4 t3 t4;have f:x.heap.size=w.heap.size+2:=by rw[g]; simp
 have j:y.heap.size=w.heap.size+4:=by rw[i]; simp[f]
 refine⟨y,by rw[i,g],d.trans (a.mono d.size),fun W e=>?_⟩;obtain⟨m,n⟩:=k W ⟨e.os.trans a.os,e.tape.trans a.tape,e.output.trans a.output,QS a.size e.size,fun b o p=>(e.block b (by omega) p).trans (a.block b o)⟩;obtain⟨a3,a4⟩:=l W (e.more d.size);rw[f]at a3 a4;exact⟨m,n,a3,a4⟩
theorem afW(t:aN)(w:World) :
  Calls Tryz.prog 77 #[t.val] w fun e w'=>∃ v,e=.returned v/\Bw w w'/\∀ W,Nw w w' W->aX W t.ad t.rs->dw ag Tryz.prog v (t.rs.map (·.xs)) W:=by
 obtain⟨b,a,rs⟩:=t;unfold aN.val;simp only at *;have f:=Zh (bV w (.cells #[.slice b rs.length a] 53));have g:Hid (∀ W,Nw w (w.alloc (.cells #[.slice b rs.length a] 53)) W->aX W b rs->dw ag Tryz.prog (.func (.func 111) #[] #[.pointer (some (aD w.heap.size 0))]) (rs.map (·.xs)) W):=fun W d h=>by
  have i:=d.size;simp only[QY]at i;exact⟨_,_,rfl,Jl Tryz.func111 (by kernel_rfl) rfl,ML w.heap.size b a rs _ (by omega) (d.cell (Qs _) (by simp)) h⟩
 go_enter Tryz.func77,Tryz.ntmps77;go_wp2;go_ret;exact⟨_,rfl,f.o,g.o⟩
theorem afX(gl gr:Nat)(kQ lg:Array Value)(L R:List (List Int))(w:World)(hR:R.length<=1000000)(Ko:∀ a∈L,a.length<=1000)(hRl:∀ a∈R,a.length<=1000) :
  Calls Tryz.prog 78 #[.func (.func gl) #[] kQ,.func (.func gr) #[] lg] w fun e w'=>∃ v,e=.returned v/\Bw w w'/\∀ W,Nw w w' W->dw ag Tryz.prog (.func (.func gl) #[] kQ) L W->dw ag Tryz.prog (.func (.func gr) #[] lg) R W->dw ag Tryz.prog v (dh L R) W:=by
 obtain⟨l,b,g,i⟩:=Lm w #[.func (.func gl) #[] kQ] #[.func (.func gr) #[] lg] 87 87;have j:Hid (∀ W,Nw w l W->dw ag Tryz.prog (.func (.func gl) #[] kQ) L W->dw ag Tryz.prog (.func (.func gr) #[] lg) R W->dw ag Tryz.prog (.func (.func 112) #[] #[.pointer (some (aD (w.heap.size+1) 0)),.pointer (some (aD w.heap.size 0))]) (dh L R) W):=fun W z A B=>by
  obtain⟨_,_,m,n,d⟩:=A;obtain⟨_,_,p,q,r⟩:=B
  cases m
  cases p
  obtain⟨⟨s,t⟩,u,y⟩:=i W z;exact⟨_,_,rfl,Jl Tryz.func112 (by kernel_rfl) rfl,Ny (w.heap.size+1) w.heap.size gr gl lg kQ L R _ u s y t r d q n hR Ko hRl⟩
 have k:=Zh g;have f:=Zh b;clear g i hR Ko hRl b;go_enter Tryz.func78,Tryz.ntmps78;go_wp2;go_ret;refine⟨_,rfl,?_,?_⟩
 ·have h:=k.o;rw[f.o]at h;exact h
 ·have h:=j.o;rw[f.o]at h;exact h
theorem afY(gi:Nat)(jB:Array Value)(c:aa)(rows:List (List Int))(w:World)(h0:0<c.xs.length)(hlen:rows.length<=1000000)(hin:∀ r∈rows,aM c.xs r.length=true) :
  Calls Tryz.prog 80 #[.func (.func gi) #[] jB,c.val] w fun e w'=>∃ v,e=.returned v/\Bw w w'/\∀ W,Nw w w' W->dw ag Tryz.prog (.func (.func gi) #[] jB) rows W->c.At W->dw ag Tryz.prog v (eU c.xs rows) W:=by
 obtain⟨p,d,j,k⟩:=Lm w #[.func (.func gi) #[] jB] #[c.val] 87 22;have m:Hid (∀ W,Nw w p W->dw ag Tryz.prog (.func (.func gi) #[] jB) rows W->c.At W->dw ag Tryz.prog (.func (.func 115) #[] #[.pointer (some (aD w.heap.size 0)),.pointer (some (aD (w.heap.size+1) 0))]) (eU c.xs rows) W):=fun W A B l=>by
  obtain⟨_,_,q,s,f⟩:=B
  cases q
  obtain⟨⟨t,u⟩,y,z⟩:=k W A;exact⟨_,_,rfl,Jl Tryz.func115 (by kernel_rfl) rfl,OT ⟨fun _=>rfl,fun _=>rfl,fun _=>rfl,fun h=>h⟩ w.heap.size (w.heap.size+1) gi jB c rows _ t y u z l (fun a C=>by
   obtain⟨b,off,e,g⟩:=Qe l h0;rw[C]at e
   cases e
   exact lt_of_cell (g 0 h0)) f s hlen hin⟩
 obtain⟨D,E,F⟩:=c;unfold aa.val at *;simp only at *;have n:=Zh j;have i:=Zh d;clear j k hlen hin h0 d;go_enter Tryz.func80,Tryz.ntmps80;go_wp2;go_ret;refine⟨_,rfl,?_,?_⟩
 ·have h:=n.o;rw[i.o]at h;exact h
 ·have h:=m.o;rw[i.o]at h;exact h
theorem ac6(gl gr:Nat)(kQ lg:Array Value)(kl kr:Nat)(L R:List (List Int))(w:World)(hR:R.length<=1000000)(Ko:∀ a∈L,a.length<=1000)(hRl:∀ a∈R,a.length<=1000)(hLk:∀ a∈L,kl<a.length)(hRk:∀ a∈R,kr<a.length) :
  Calls Tryz.prog 152 #[.func (.func gl) #[] kQ,.func (.func gr) #[] lg,.int .i64 kl,.int .i64 kr] w fun e w'=>∃ v,e=.returned v/\Bw w w'/\∀ W,Nw w w' W->dw ag Tryz.prog (.func (.func gl) #[] kQ) L W->dw ag Tryz.prog (.func (.func gr) #[] lg) R W->dw ag Tryz.prog v (fF kl kr L R) W:=by
 obtain⟨l,b,g,i⟩:=acY w #[.func (.func gl) #[] kQ] #[.func (.func gr) #[] lg] #[.int .i64 kl] #[.int .i64 kr] 87 87 3 3;have j:Hid (∀ W,Nw w l W->dw ag Tryz.prog (.func (.func gl) #[] kQ) L W->dw ag Tryz.prog (.func (.func gr) #[] lg) R W->dw ag Tryz.prog (.func (.func 162) #[] #[.pointer (some (aD (w.heap.size+1) 0)),.pointer (some (aD w.heap.size 0)),.pointer (some (aD (w.heap.size+2) 0)),.pointer (some (aD (w.heap.size+3) 0))]) (fF kl kr L R) W):=fun W D E F=>by
  obtain⟨_,_,m,n,d⟩:=E;obtain⟨_,_,p,q,r⟩:=F
  cases m
  cases p
  obtain⟨⟨s,t⟩,⟨u,y⟩,⟨z,A⟩,B,C⟩:=i W D;exact⟨_,_,rfl,Jl Tryz.func162 (by kernel_rfl) rfl,YP (w.heap.size+1) w.heap.size (w.heap.size+2) (w.heap.size+3) gr gl kl kr lg kQ L R _ u s z B y t A C r d q n hR Ko hRl hLk hRk⟩
 have k:=Zh g;have f:=Zh b;clear g i hR Ko hRl hLk hRk b;go_enter Tryz.func152,Tryz.ntmps152;go_wp2;go_ret;refine⟨_,rfl,?_,?_⟩
 ·have h:=k.o;rw[f.o]at h;exact h
 ·have h:=j.o;rw[f.o]at h;exact h
theorem af4(gl gr:Nat)(kQ lg:Array Value)(kl kr:Nat)(L R:List (List Int))(w:World)(hR:R.length<=1000000)(Ko:∀ a∈L,a.length<=1000)(hRl:∀ a∈R,a.length<=1000)(hLk:∀ a∈L,kl<a.length)(hRk:∀ a∈R,kr<a.length)(O3:∀ a∈L,∀ v∈a,dC v)(hRs:∀ a∈R,∀ v∈a,dC v) :
  Calls Tryz.prog 151 #[.func (.func gl) #[] kQ,.func (.func gr) #[] lg,.int .i64 kl,.int .i64 kr] w fun e w'=>∃ v,e=.returned v/\Bw w w'/\∀ W,Nw w w' W->dw ag Tryz.prog (.func (.func gl) #[] kQ) L W->dw ag Tryz.prog (.func (.func gr) #[] lg) R W->dw ag Tryz.prog v (iD kl kr L R) W:=by
 obtain⟨l,b,g,i⟩:=acY w #[.func (.func gl) #[] kQ] #[.func (.func gr) #[] lg] #[.int .i64 kl] #[.int .i64 kr] 87 87 3 3;have j:Hid (∀ W,Nw w l W->dw ag Tryz.prog (.func (.func gl) #[] kQ) L W->dw ag Tryz.prog (.func (.func gr) #[] lg) R W->dw ag Tryz.prog (.func (.func 161) #[] #[.pointer (some (aD (w.heap.size+1) 0)),.pointer (some (aD (w.heap.size+3) 0)),.pointer (some (aD w.heap.size 0)),.pointer (some (aD (w.heap.size+2) 0))]) (iD kl kr L R) W):=fun W D E F=>by
  obtain⟨_,_,m,n,d⟩:=E;obtain⟨_,_,p,q,r⟩:=F
  cases m
  cases p
  obtain⟨⟨s,t⟩,⟨u,y⟩,⟨z,A⟩,B,C⟩:=i W D;exact⟨_,_,rfl,Jl Tryz.func161 (by kernel_rfl) rfl,ac7 (w.heap.size+1) w.heap.size (w.heap.size+2) (w.heap.size+3) gr gl kl kr lg kQ L R _ u s z B y t A C r d q n hR Ko hRl hLk hRk O3 hRs⟩
 have k:=Zh g;have f:=Zh b;clear g i hR Ko hRl hLk hRk O3 hRs b;go_enter Tryz.func151,Tryz.ntmps151;go_wp2;go_ret;refine⟨_,rfl,?_,?_⟩
 ·have h:=k.o;rw[f.o]at h;exact h
 ·have h:=j.o;rw[f.o]at h;exact h
theorem YM{α β:Type}(f:α->β)(l:List α)(k:Nat)(d:β)(hk:k<l.length):(l.map f).getD k d=f l[k]:=by
 simp[List.getD,hk]
theorem OY(WK:Array Value)(bE:Option Addr)(aF:Nat)(wh:List az)(h1:WK[1]? = some (.slice bE wh.length aF))(g:Nat)(lb:Array Value)(c nums:aa)(rows:List (List Int))(N:Int)(w:World)(Lp:bX w bE wh)(hc:c.At w)(hn:nums.At w)(hnl:nums.xs.length<=64)
  (aoh:∀ i∈nums.xs,0<=i/\i<wh.length) (iV:∀ i∈nums.xs,∀ x∈aG (wh.getD i.toNat lz).cs,x∈c.xs) (h3:∀ i,i<wh.length->(wh.getD i lz).cs.length<=3) (hcond:∀ i,i<wh.length->∀ d∈(wh.getD i lz).cs,df d N=true) (hlen:∀ r∈rows,r.length=c.xs.length) :
  Calls Tryz.prog 125 #[.agg WK,.agg #[.func (.func g) #[] lb,c.val],nums.val] w fun e w'=>∃ g' au,e=.returned (.agg #[.func (.func g') #[] au,c.val])/\Bw w w'/\∀ W,Nw w w' W->dw ag Tryz.prog (.func (.func g) #[] lb) rows W->dw ag Tryz.prog (.func (.func g') #[] au) (rows.filter (iC wh c.xs nums.xs)) W:=by
 obtain⟨A,av⟩:∃ x,w.alloc (.cells WK 112)=x:=⟨_,rfl⟩
 have aL:Bw w A:=by rw[<- av]; exact bV _ _
 have s1:A.heap.size=w.heap.size+1:=by rw[<- av]; simp
 have gw:GB A w.heap.size 112 WK:=by rw[<- av]; exact lZ _ _
 obtain⟨f,ax⟩:∃ x,A.alloc (.cells #[.func (.func g) #[] lb,c.val] 139)=x:=⟨_,rfl⟩
 have aM:Bw A f:=by rw[<- ax]; exact bV _ _
 have s2:f.heap.size=w.heap.size+2:=by rw[<- ax]; simp[s1]
 have gi:GB f A.heap.size 139 #[.func (.func g) #[] lb,c.val]:=by rw[<- ax]; exact lZ _ _
 obtain⟨n,ay⟩:∃ x,f.alloc (.cells #[Value.nilFunc,.slice none 0 0] 139)=x:=⟨_,rfl⟩
 have aN:Bw f n:=by rw[<- ay]; exact bV _ _
 have s3:n.heap.size=w.heap.size+3:=by rw[<- ay]; simp[s2]
 have gr:GB n f.heap.size 139 #[Value.nilFunc,.slice none 0 0]:=by rw[<- ay]; exact lZ _ _
 obtain⟨E,aA⟩:∃ x,n.alloc (.cells #[.slice none 0 0] 24)=x:=⟨_,rfl⟩
 have aO:Bw n E:=by rw[<- aA]; exact bV _ _
 have s4:E.heap.size=w.heap.size+4:=by rw[<- aA]; simp[s3]
 have gx:GB E n.heap.size 24 #[.slice none 0 0]:=by rw[<- aA]; exact lZ _ _
 have Ov:Bw f E:=aN.trans (aO.mono aN.size);have aP:Bw A E:=aM.trans (Ov.mono aM.size);have aQ:Bw w E:=aL.trans (aP.mono aL.size);have bG:Hid (OA 24 81 wh c.xs nums.xs E n.heap.size 0 (.slice none 0 0) [] E):=⟨QR _ _,gx,ZA _ _ _ _,rfl,fun m hm=>by cases hm⟩
 have bI:E.cell? (aD w.heap.size 1)=some (.slice bE wh.length aF):=cB aP ((gw.cell 1).trans h1);have aZ:E.cell? (aD A.heap.size 0)=some (.func (.func g) #[] lb):=cB Ov (gi.cell 0);have bf:E.cell? (aD A.heap.size 1)=some c.val:=cB Ov (gi.cell 1);have sN:aI E nums.ad nums.xs:=Qt aQ hn;have cO:=sN.1;have WG:Hid _:=hn;have pF:Hid (Bw w E):=aQ;have tY:Hid (GB n f.heap.size 139 #[Value.nilFunc,.slice none 0 0]):=gr;have bJ:Hid (Bw n E):=aO;have HZ:Hid (A.heap.size=w.heap.size+1/\f.heap.size=w.heap.size+2/\n.heap.size=w.heap.size+3/\E.heap.size=w.heap.size+4):=⟨s1,s2,s3,s4⟩
 have vT:Hid _:=Lp;have HC:Hid _:=hc;have bg:Hid _:=hnl;have aR:Hid _:=aoh;have YN:Hid _:=iV;have H3:Hid _:=h3;have bK:Hid _:=hcond;have bn:Hid _:=hlen;have cZ:=Lp.1;clear Lp hc hnl aoh iV h3 hcond hlen aL aM aN aO aP Ov aQ s1 s2 s3 s4 gw gi gr gx hn sN h1;obtain⟨C,D,u⟩:=c;obtain⟨dz,dA,I⟩:=nums;unfold aa.val at *;simp only at *;go_enter Tryz.func125,Tryz.ntmps125;go_wp2;clear av ax ay aA;go_loopw [13] (fun iv wr=>∃ k:Nat,k<=I.length/\iv=.int .i64 k/\∃ v L,OA 24 81 wh u I E n.heap.size k v L wr) (fun iv _=>I.length-(intOf iv).toNat)
 case atStart=>exact⟨0,Zf _,rfl,_,_,bG.o⟩
 case round=>
  obtain⟨k,hk,rfl,vv,L,aB⟩:=hrel;obtain⟨M,O,rc,rfl⟩:=Zr aB.own;have J:Hid _:=aB;by_cases ak:k<I.length
  ·obtain⟨nb,no,rfl,aj⟩:=Qe WG.o ak;have bL:nb<w.heap.size:=Q3 (p:=(aD nb (no+k))) (aj k ak);have Y:=J.o.kept;have ae:Kept (fun b=>b≠n.heap.size) E wr.drew:=Y.trans (QU ((Qr wr.heap.size wr).drew) (fun b Z _=>Z));have hz:=HZ.o;have bM:wr.cell? (aD nb (no+k))=some (.int .i64 (I.getD k 0)):=Zj (cB pF.o (aj k ak)) Y (by show nb≠_; omega);have Q:I.getD k 0∈I:=by simp[List.getD,ak]
   obtain⟨X,hX⟩:∃ X:Nat,I.getD k 0=(X:Int):=⟨(I.getD k 0).toNat,by have:=(aR.o _ Q).1; omega⟩
   have af:X<wh.length:=by have:=(aR.o _ Q).2; omega
   obtain⟨cb,co,rfl,aY⟩:=Qd vT.o.2.1 af;have bN:cb<w.heap.size:=Q3 (p:=(aD cb (co+X))) (aY X af);have bq:wr.drew.cell? (aD cb (co+X))=some (wh.getD X lz).val:=Zj (s:=fun b=>b≠n.heap.size) (cB pF.o (aY X af)) ae (by show cb≠_; omega);have bO:wr.drew.cell? (aD w.heap.size 1)=some (.slice (some (aD cb co)) wh.length aF):=Zj (s:=fun b=>b≠n.heap.size) bI ae (by show w.heap.size≠_; omega);have aS:wr.drew.cell? (aD A.heap.size 0)=some (.func (.func g) #[] lb):=Zj (s:=fun b=>b≠n.heap.size) aZ ae (by show A.heap.size≠_; omega);have aT:wr.drew.cell? (aD A.heap.size 1)=some (.slice C u.length D):=Zj (s:=fun b=>b≠n.heap.size) bf ae (by show A.heap.size≠_; omega);have dh:wr.drew.cell? (aD n.heap.size 0)=some (.slice M O rc):=J.o.box.cell 0;have zN:Bw w wr.drew:=(pF.o.trans (Y.below pF.o.size (fun b Z=>by omega))).drew;have ah:L.length<=100:=by
    have h:=congrArg List.length J.o.moved;rw[ZB,ZB,XF]at h;have:=bg.o;omega
   have aJ:(wh.getD X lz).cs.length<=100:=by have:=H3.o X af; omega
   have aU:=YG (wh.getD X lz).ad (wh.getD X lz).cap (wh.getD X lz).cs (.func (.func g) #[] lb) ⟨C,D,u⟩ wr.drew ((vT.o.2.2 X af).below zN) aJ ⟨g,lb,rfl⟩ (Qt zN HC.o) (fun x z=>YN.o _ Q x (by rw[hX,ZY]; exact z));have YO:Hid (∀ (H:World) (m:az),m.cs=(wh.getD X lz).cs.map (dB u)->bH H m.ad m.cs->(∀ a,m.ad=some a->wr.heap.size<=a.block/\a.block<H.heap.size)->Below wr.heap.size wr.drew H->
     ∃ pa pm pc R,(Builtin.append_ #[24,24] 24 #[.slice M O rc,.slice (some (aD H.heap.size 0)) 1 1]).run Tryz.prog (H.alloc (.cells #[m.val] 81))=.ok (.slice pa pm pc) R/\
      R.cell? (aD n.heap.size 0)=some (.slice M O rc)/\R.frozen? (aD n.heap.size 0)=false/\OA 24 81 wh u I E n.heap.size (k+1) (.slice pa pm pc) (L++[m]) (R.setCell (aD n.heap.size 0) (.slice pa pm pc))/\
      Kept (fun b=>b≠n.heap.size/\(Value.slice M O rc).ownBlock≠some b) (H.alloc (.cells #[m.val] 81)) R/\Kept (fun b=>b≠n.heap.size/\(Value.slice M O rc).ownBlock≠some b) R (R.setCell (aD n.heap.size 0) (.slice pa pm pc))/\
      H.cell? (aD n.heap.size 0)=some (.slice M O rc)/\Kept (fun b=>b≠n.heap.size/\(Value.slice M O rc).ownBlock≠some b) wr.drew H):=fun H m F G Vm U=>by
    have bu:=(J.o.keep ((Qr wr.heap.size wr).drew)).keep U;have dm:=Y.size;obtain⟨pa,pm,pc,R,e1,e2,e3,e4,e5,e6⟩:=acA bu ah (by omega) ak m (by rw[F,hX,ZY]) G (fun a V=>⟨by have:=(Vm a V).1; omega,(Vm a V).2,fun e=>by have h1:=(Zq J.o.own e).2; have:=(Vm a V).1; omega⟩);exact⟨pa,pm,pc,R,e1,e2,e3,e4,e5,e6,bu.box.cell 0,QU U (fun b Z _=>Z)⟩
   have KO:Hid ((w.heap.size≠n.heap.size/\(Value.slice M O rc).ownBlock≠some w.heap.size)/\(cb≠n.heap.size/\(Value.slice M O rc).ownBlock≠some cb)/\(A.heap.size≠n.heap.size/\(Value.slice M O rc).ownBlock≠some A.heap.size)):=by
    have aV:∀ b,(Value.slice M O rc).ownBlock=some b->E.heap.size<=b:=fun b Z=>(Zq J.o.own Z).1
    exact⟨⟨by omega,fun e=>by have:=aV _ e; omega⟩,⟨by omega,fun e=>by have:=aV _ e; omega⟩,⟨by omega,fun e=>by have:=aV _ e; omega⟩⟩
   rw[hX]at bM;clear Y ae hz aj aY Q zN ah aJ bL bN hX aB;generalize wh.getD X lz=cl at *;obtain⟨la,lc,bW⟩:=cl;unfold az.val at bq aU;simp only at *;go_upto_region 5 with fail;refine QQ (S:=fun x=>Kept (fun b=>b≠n.heap.size/\(Value.slice M O rc).ownBlock≠some b) wr.drew x) (by kernel_rfl) (QR _ _) (fun t=>?_);refine wT 1 (.pointer (some (aD w.heap.size 0))) t (fun x z=>?_) ?_
   ·go_simp
   refine wT 2 (.pointer (some (aD w.heap.size 0))) t (fun x z=>?_) ?_
   ·go_simp
   refine wT 3 (.pointer (some (aD w.heap.size 1))) t (fun x z=>?_) ?_
   ·go_simp
   refine wT 4 (.slice (some (aD cb co)) wh.length aF) t (fun x z=>?_) ?_
   ·have q:=Zj bO z KO.o.1;go_simp
   refine wT 5 (.int .i64 (X:Int)) t (fun x z=>?_) ?_
   ·go_simp
   refine wT 6 (.pointer (some (aD cb (co+X)))) t (fun x z=>?_) ?_
   ·go_simp
   refine wT 7 (.agg #[.slice la bW.length lc]) t (fun x z=>?_) ?_
   ·have q:=Zj bq z KO.o.2.1;go_simp
   refine wT 8 (.agg #[.func (.func g) #[] lb,.slice C u.length D]) t (fun x z=>?_) ?_
   ·have q:=Zj aS z KO.o.2.2;have q2:=Zj aT z KO.o.2.2;go_simp
   refine wT 9 (.func (.func 128) #[.agg #[.func (.func g) #[] lb,.slice C u.length D]] #[]) t (fun x z=>?_) ?_
   ·go_simp
   refine wpAnyH_ready (rs:=[0,10]) (by kernel_rfl) (by simp) ?_;refine Qa rfl (fun K j=>?_) (Qa rfl (fun K j=>?_) AllReadyH.nil)
   ·go_simp;refine j.o _ _ t (fun t=>?_);clear j K;refine wR 10 fun K j=>?_
    go_simp;refine aU.mono ?_;rintro e H ⟨⟨Mt,zI,aC⟩,rfl,F,G,Vm,U⟩;simp only at F G Vm ⊢;obtain⟨pa,pm,pc,R,Ld,bY,bZ,Rs,OZ,aH,c6,T⟩:=YO.o H ⟨Mt,zI,aC⟩ F G Vm U;clear F G Vm;unfold az.val at Ld OZ;simp only at Ld OZ;refine j.o _ _ T (fun t=>?_);clear j K;refine wR 11 fun K j=>?_
    go_simp;refine j.o _ _ (T.trans (QX _ _)) (fun t=>?_);clear j K;refine wR 12 fun K j=>?_
    refine Jc (by rfl) _ _ _ (by rfl) (.slice M O rc) (.slice (some (aD H.heap.size 0)) 1 1) (.slice pa pm pc) R (by rfl) (by rfl) Ld ?_;refine j.o _ _ ((T.trans (QX _ _)).trans OZ) (fun t=>?_);clear j K Ld;refine wR 13 fun K j=>?_
    go_simp;refine j.o _ _ (((T.trans (QX _ _)).trans OZ).trans aH) (fun t=>?_);clear j K;refine wpAnyH_done (by kernel_rfl) ?_ _
    try simp only[Act.put,List.setIfInBounds_toArray,List.set_cons_zero,List.set_cons_succ]
    go_wp2_with fail;go_roundw
    case rel=>exact⟨k+1,by omega,by go_num,_,_,Rs⟩
    case measure=>simp[intOf]; omega
   ·go_simp;refine aU.mono ?_;rintro e H ⟨⟨Mt,zI,aC⟩,rfl,F,G,Vm,U⟩;simp only at F G Vm ⊢;obtain⟨pa,pm,pc,R,Ld,bY,bZ,Rs,OZ,aH,c6,T⟩:=YO.o H ⟨Mt,zI,aC⟩ F G Vm U;clear F G Vm;unfold az.val at Ld OZ;simp only at Ld OZ;refine j.o _ _ T (fun t=>?_);clear j K;refine wpAnyH_ready (rs:=[0,11]) (by kernel_rfl) (by simp) ?_;refine Qa rfl (fun K j=>?_) (Qa rfl (fun K j=>?_) AllReadyH.nil)
    ·go_simp;refine j.o _ _ T (fun t=>?_);clear j K;refine wR 11 fun K j=>?_
     go_simp;refine j.o _ _ (T.trans (QX _ _)) (fun t=>?_);clear j K;refine wR 12 fun K j=>?_
     refine Jc (by rfl) _ _ _ (by rfl) (.slice M O rc) (.slice (some (aD H.heap.size 0)) 1 1) (.slice pa pm pc) R (by rfl) (by rfl) Ld ?_;refine j.o _ _ ((T.trans (QX _ _)).trans OZ) (fun t=>?_);clear j K Ld;refine wR 13 fun K j=>?_
     go_simp;refine j.o _ _ (((T.trans (QX _ _)).trans OZ).trans aH) (fun t=>?_);clear j K;refine wpAnyH_done (by kernel_rfl) ?_ _
     try simp only[Act.put,List.setIfInBounds_toArray,List.set_cons_zero,List.set_cons_succ]
     go_wp2_with fail;go_roundw
     case rel=>exact⟨k+1,by omega,by go_num,_,_,Rs⟩
     case measure=>simp[intOf]; omega
    ·go_simp;refine j.o _ _ (T.trans (QX _ _)) (fun t=>?_);clear j K;have dn:=Zj c6 (QX (s:=fun _=>True) H (.cells #[.slice Mt aC.length zI] 81)) trivial;refine wR 0 fun K j=>?_
     go_simp;refine j.o _ _ (T.trans (QX _ _)) (fun t=>?_);clear j K;refine wR 12 fun K j=>?_
     refine Jc (by rfl) _ _ _ (by rfl) (.slice M O rc) (.slice (some (aD H.heap.size 0)) 1 1) (.slice pa pm pc) R (by rfl) (by rfl) Ld ?_;refine j.o _ _ ((T.trans (QX _ _)).trans OZ) (fun t=>?_);clear j K Ld;refine wR 13 fun K j=>?_
     go_simp;refine j.o _ _ (((T.trans (QX _ _)).trans OZ).trans aH) (fun t=>?_);clear j K;refine wpAnyH_done (by kernel_rfl) ?_ _
     try simp only[Act.put,List.setIfInBounds_toArray,List.set_cons_zero,List.set_cons_succ]
     go_wp2_with fail;go_roundw
     case rel=>exact⟨k+1,by omega,by go_num,_,_,Rs⟩
     case measure=>simp[intOf]; omega
  ·obtain rfl:k=I.length:=by omega
   have Y:=J.o.kept;have hz:=HZ.o;have ah:L.length<=100:=by
    have h:=congrArg List.length J.o.moved;rw[ZB,ZB,XF]at h;have:=bg.o;omega
   obtain⟨Mt,zI,bD,bF⟩:=Er J.o.own (fun x z=>(J.o.at' x z).1) ah;have si:GB wr n.heap.size 24 #[.slice Mt L.length zI]:=by rw[<- bD]; exact J.o.box
   have aW:∀ a,Mt=some a->E.heap.size<=a.block:=fun a V=>(Zq J.o.own (g:=a.block) (by rw[bD,V]; rfl)).1
   have aX:GB wr f.heap.size 139 #[Value.nilFunc,.slice none 0 0]:=(tY.o.of (bJ.o.block _ tY.o.lt)).keep Y (by show f.heap.size≠_; omega);have aS:wr.cell? (aD A.heap.size 0)=some (.func (.func g) #[] lb):=Zj aZ Y (by show A.heap.size≠_; omega);have aT:wr.cell? (aD A.heap.size 1)=some (.slice C u.length D):=Zj bf Y (by show A.heap.size≠_; omega);have bP:=Y.size;have zN:Bw w wr:=pF.o.trans (Y.below pF.o.size (fun b Z=>by omega));have ai:=J.o.moved;rw[Qw]at ai;have hcond:∀ x:aa,x.xs∈rows->∀ i,i<L.length->∀ k,k<(L.getD i lz).cs.length->df ((L.getD i lz).cs.getD k cz) x.xs.length=true:=fun x z i hi k hk=>by
    have bz:i<I.length:=by have h:=congrArg List.length ai; rw[ZB,ZB]at h; omega
    have e:(L.getD i lz).cs=(wh.getD (I[i]).toNat lz).cs.map (dB u):=by
     have h:=congrArg (fun l=>l[i]?) ai;simp only[ZR,ZT hi,ZT bz,Option.map_some]at h;have e1:L.getD i lz=L[i]:=by simp[List.getD,hi]
     rw[e1];exact Option.some.inj h
    rw[e]at hk ⊢;rw[ZB]at hk;have e2:((wh.getD (I[i]).toNat lz).cs.map (dB u)).getD k cz=dB u ((wh.getD (I[i]).toNat lz).cs[k]):=by
     exact YM _ _ _ _ hk
    have hm:=Qk bz;have hr:=aR.o _ hm;rw[e2,bn.o _ z];refine Oy (bK.o _ (by omega) _ (Qk hk)) (fun y hy=>YN.o _ hm y ?_);unfold aG;exact Xr.2 ⟨_,Qk hk,hy⟩
   have HF:Hid (∀ B:World,B=(wr.drew.alloc (.cells #[.func (.func g) #[] lb] 87)).alloc (.cells #[.func (.func 149) #[] #[.pointer (some (aD n.heap.size 0))]] 108)->
     GB B f.heap.size 139 #[Value.nilFunc,.slice none 0 0]/\Kept (fun b=>b≠f.heap.size) wr.drew B/\Kept (fun b=>b≠f.heap.size) B ((B.setCell (aD f.heap.size 0) (.func (.func 76) #[] #[.pointer (some (aD wr.heap.size 0)),.pointer (some (aD (wr.heap.size+1) 0))])).setCell (aD f.heap.size 1) (.slice C u.length D))/\GB ((B.setCell (aD f.heap.size 0) (.func (.func 76) #[] #[.pointer (some (aD wr.heap.size 0)),.pointer (some (aD (wr.heap.size+1) 0))])).setCell (aD f.heap.size 1) (.slice C u.length D)) f.heap.size 139 #[.func (.func 76) #[] #[.pointer (some (aD wr.heap.size 0)),.pointer (some (aD (wr.heap.size+1) 0))],.slice C u.length D]/\
     ∃ g' au,Ending.returned (.agg #[.func (.func 76) #[] #[.pointer (some (aD wr.heap.size 0)),.pointer (some (aD (wr.heap.size+1) 0))],.slice C u.length D])=.returned (.agg #[.func (.func g') #[] au,.slice C u.length D])/\Bw w ((B.setCell (aD f.heap.size 0) (.func (.func 76) #[] #[.pointer (some (aD wr.heap.size 0)),.pointer (some (aD (wr.heap.size+1) 0))])).setCell (aD f.heap.size 1) (.slice C u.length D))/\∀ W,Nw w ((B.setCell (aD f.heap.size 0) (.func (.func 76) #[] #[.pointer (some (aD wr.heap.size 0)),.pointer (some (aD (wr.heap.size+1) 0))])).setCell (aD f.heap.size 1) (.slice C u.length D)) W->dw ag Tryz.prog (.func (.func g) #[] lb) rows W->dw ag Tryz.prog (.func (.func g') #[] au) (rows.filter (iC wh u I)) W):=fun B P=>by
    have gD:Bw wr B:=by rw[P]; exact((Qr wr.heap.size wr).drew.alloc (Qs _) _).alloc (by simp) _
    have x0:B.cell? (aD wr.heap.size 0)=some (.func (.func g) #[] lb):=by rw[P]; exact cB (bV _ _) ((ZG wr.drew #[.func (.func g) #[] lb] 87).cell 0)
    have x1:B.cell? (aD (wr.heap.size+1) 0)=some (.func (.func 149) #[] #[.pointer (some (aD n.heap.size 0))]):=by
     have h:=ZG (wr.drew.alloc (.cells #[.func (.func g) #[] lb] 87)) #[.func (.func 149) #[] #[.pointer (some (aD n.heap.size 0))]] 108;rw[QY,<- P]at h;exact h.cell 0
    have g7:GB B f.heap.size 139 #[Value.nilFunc,.slice none 0 0]:=aX.of (gD.block _ aX.lt);have gE:GB ((B.setCell (aD f.heap.size 0) (.func (.func 76) #[] #[.pointer (some (aD wr.heap.size 0)),.pointer (some (aD (wr.heap.size+1) 0))])).setCell (aD f.heap.size 1) (.slice C u.length D)) f.heap.size 139 #[.func (.func 76) #[] #[.pointer (some (aD wr.heap.size 0)),.pointer (some (aD (wr.heap.size+1) 0))],.slice C u.length D]:=(g7.set 0 _).set 1 _;have kE:Kept (fun b=>b≠f.heap.size) B ((B.setCell (aD f.heap.size 0) (.func (.func 76) #[] #[.pointer (some (aD wr.heap.size 0)),.pointer (some (aD (wr.heap.size+1) 0))])).setCell (aD f.heap.size 1) (.slice C u.length D)):=(Zn _ _ _ (fun h=>h rfl)).trans (Zn _ _ _ (fun h=>h rfl));have k7:Kept (fun b=>b≠f.heap.size) wr B:=QU gD (fun b Z _=>Z);have kw:Kept (fun b=>b≠f.heap.size) wr ((B.setCell (aD f.heap.size 0) (.func (.func 76) #[] #[.pointer (some (aD wr.heap.size 0)),.pointer (some (aD (wr.heap.size+1) 0))])).setCell (aD f.heap.size 1) (.slice C u.length D)):=k7.trans kE;have dx:=gD.size;have bQ:=Q3 x0;have bR:=Q3 x1;have lG:Bw w ((B.setCell (aD f.heap.size 0) (.func (.func 76) #[] #[.pointer (some (aD wr.heap.size 0)),.pointer (some (aD (wr.heap.size+1) 0))])).setCell (aD f.heap.size 1) (.slice C u.length D)):=zN.trans (kw.below zN.size (fun b Z=>by show b≠_; omega));have bS:bX ((B.setCell (aD f.heap.size 0) (.func (.func 76) #[] #[.pointer (some (aD wr.heap.size 0)),.pointer (some (aD (wr.heap.size+1) 0))])).setCell (aD f.heap.size 1) (.slice C u.length D)) Mt L:=bF.kept kw (fun a V=>by have:=aW a V; show a.block≠_; omega) (fun m hm a V=>by have:=((J.o.at' m hm).2 a V).1; show a.block≠_; omega);have bT:((B.setCell (aD f.heap.size 0) (.func (.func 76) #[] #[.pointer (some (aD wr.heap.size 0)),.pointer (some (aD (wr.heap.size+1) 0))])).setCell (aD f.heap.size 1) (.slice C u.length D)).cell? (aD n.heap.size 0)=some (.slice Mt L.length zI):=Zj (si.cell 0) kw (by show n.heap.size≠_; omega)
    have bA:f.heap.size≠wr.heap.size/\f.heap.size≠wr.heap.size+1:=by omega
    refine⟨g7,QU (by rw[P]; exact((Qr wr.drew.heap.size wr.drew).alloc (Qs _) _).alloc (by simp) _) (fun b Z _=>Z),kE,gE,_,_,rfl,lG,fun W hW h1=>⟨_,_,rfl,Jl Tryz.func76 (by kernel_rfl) rfl,?_⟩⟩;obtain⟨_,_,e1,cu,cK⟩:=h1
    cases e1
    have bB:=QS kE.size hW.size;refine C8 wr.heap.size (wr.heap.size+1) g 149 lb #[.pointer (some (aD n.heap.size 0))] rows _ _ (QT bQ bB) (QT bR bB) (hW.cell (by omega) (Zj x0 kE (fun e=>bA.1 e.symm))) (hW.cell (by omega) (Zj x1 kE (fun e=>bA.2 e.symm))) cK cu (Jl Tryz.func149 (by kernel_rfl) rfl) (fun X x hX z hm=>?_);have:=Oz n.heap.size Mt zI L x X (cB hX (hW.cell (by omega) bT)) z ((bS.kept hW (fun a V=>by have:=aW a V; show w.heap.size<=a.block; omega) (fun m hm a V=>by have:=((J.o.at' m hm).2 a V).1; show w.heap.size<=a.block; omega)).below hX) (hcond x hm);rw[ai.holds]at this;exact this
   have bC:Hid (A.heap.size≠f.heap.size):=by show A.heap.size≠f.heap.size; omega
   clear hcond ai bF aW si aB hz bP zN ah Y aX;have bU:=OC g 149 lb #[.pointer (some (aD n.heap.size 0))] wr.drew;go_upto_region 8 with fail;refine QQ (S:=fun x=>Kept (fun b=>b≠f.heap.size) wr.drew x) (by kernel_rfl) (QR _ _) (fun t=>?_);refine wT 0 (.pointer (some (aD A.heap.size 0))) t (fun x z=>?_) ?_
   ·go_simp
   refine wT 1 (.func (.func g) #[] lb) t (fun x z=>?_) ?_
   ·have q:=Zj (s:=fun b=>b≠f.heap.size) (show wr.drew.cell? (aD A.heap.size 0)=_ from aS) z bC.o;go_simp
   refine wT 2 (.func (.func 149) #[] #[.pointer (some (aD n.heap.size 0))]) t (fun x z=>?_) ?_
   ·go_simp
   refine wT 4 (.pointer (some (aD A.heap.size 1))) t (fun x z=>?_) ?_
   ·go_simp
   refine wT 5 (.slice C u.length D) t (fun x z=>?_) ?_
   ·have q:=Zj (s:=fun b=>b≠f.heap.size) (show wr.drew.cell? (aD A.heap.size 1)=_ from aT) z bC.o;go_simp
   refine wR 3 fun K j=>?_
   go_simp;refine bU.mono ?_;rintro e B ⟨rfl,P⟩;obtain⟨g7,k7,kE,gE,aK⟩:=HF.o B P;have qQ:Hid _:=gE;have uF:Hid _:=aK;clear P gE aK;refine j.o _ _ k7 (fun t=>?_);clear j K;refine wT 6 (.agg #[.func (.func 76) #[] #[.pointer (some (aD wr.heap.size 0)),.pointer (some (aD (wr.heap.size+1) 0))],.slice C u.length D]) t (fun x z=>?_) ?_
   ·go_simp
   have z0:B.cell? (aD f.heap.size 0)=some Value.nilFunc:=g7.cell 0;have z1:B.cell? (aD f.heap.size 1)=some (.slice none 0 0):=g7.cell 1;have y0:=g7.frozen 0;have y1:=g7.frozen 1;have NM:=fun (a:Addr) (c:Array Value) (w:World)=>run_store Tryz.prog w a (.func (.func 76) #[] c) .plain rfl
   refine wR 7 fun K j=>?_
   go_simp;refine j.o _ _ (k7.trans kE) (fun t=>?_);clear j K;refine wpAnyH_done (by kernel_rfl) ?_ _
   try simp only[Act.put,List.setIfInBounds_toArray,List.set_cons_zero,List.set_cons_succ]
   have qV:Hid _:=uI qQ.o;go_wp2_with fail;refine ZN (Jk (p:=6) rfl rfl qV.o) rfl ?_;exact uF.o
def iM(f:aS)(ts:List af)(q:ae)(a b c:Value):Array Value:=f.cells ts q ++ #[a,b,c]
def oC(kind:Int)(i j:Nat)(L R:List (List Int)):List (List Int):=if kind=3 then dh L R else if kind=4 then iD i j L R else fF i j L R
structure JF(c:List Int)(R:List (List Int)):Prop where
 few:R.length<=1000000
 wide:c.length<=1000
 lens:∀ r∈R,r.length=c.length
 small:∀ r∈R,∀ v∈r,dC v
theorem O4(f:aS)(ts:List af)(q:ae)(ok:Ok ts q)(va vd:Value)(pa:Option Addr)(pc:Nat)(ps:List aB)(n:ah)(li ri:Nat)(gl gr:Nat)(kQ lg:Array Value)(cl cr:aa)(L R:List (List Int))(w:World)(hf:f.At ts q w)(hp:PartsAt w pa ps)(hn:n.cl.At w)(el:n.l=li)(hll:li<ps.length)(er:n.r=ri)(hrl:ri<ps.length)
  (hcl:cl.At w) (hcr:cr.At w) (hk3:3<=n.kind) (hk5:n.kind<=5) (K1 K2:Int) (hkey:n.kind≠3->∃ b,lH ts q n (ps.getD li aT).sources (ps.getD ri aT).sources=(K1,K2,b)/\K1∈cl.xs/\K2∈cr.xs) (hL:JF cl.xs L) (hR:JF cr.xs R) :
  Calls Tryz.prog 127 #[.agg (iM f ts q va (.slice pa ps.length pc) vd),.agg n.cells,.agg #[.func (.func gl) #[] kQ,cl.val],.agg #[.func (.func gr) #[] lg,cr.val]] w fun e w'=>∃ v,e=.returned v/\Bw w w'/\∀ W,Nw w w' W->dw ag Tryz.prog (.func (.func gl) #[] kQ) L W->dw ag Tryz.prog (.func (.func gr) #[] lg) R W->dw ag Tryz.prog v (oC n.kind (cl.xs.idxOf K1) (cr.xs.idxOf K2) L R) W:=by
 obtain⟨v0,v1,v2,v3,v4,v5,v6,v7,v8,v9,s,t,u,dQ,-⟩:=Ju f ts q;have zG:iM f ts q va (.slice pa ps.length pc) vd=#[v0,v1,v2,v3,v4,v5,v6,v7,v8,v9,s,t,u,va,.slice pa ps.length pc,vd]:=by unfold iM; rw[dQ]; rfl
 have jP:n.cells=#[.int .i64 n.kind,.int .i64 n.l,.int .i64 n.r,.int .i64 n.source,n.cl.val,.int .i64 n.key,n.co.val]:=rfl;rw[zG,jP,el,er];obtain⟨w1,aF,U,D⟩:=aR w #[v0,v1,v2,v3,v4,v5,v6,v7,v8,v9,s,t,u,va,.slice pa ps.length pc,vd] 112;obtain⟨w2,aG,V,E⟩:=aR w1 #[.int .i64 n.kind,.int .i64 li,.int .i64 ri,.int .i64 n.source,n.cl.val,.int .i64 n.key,n.co.val] 36;obtain⟨w3,aH,VT,F⟩:=aR w2 #[.func (.func gl) #[] kQ,cl.val] 139;obtain⟨X,aI,G,Y⟩:=aR w3 #[.func (.func gr) #[] lg,cr.val] 139;have A:=aC VT G;have B:=aC V A;have k:=aC U B;have cK:=D.of (B.block _ D.lt);have ig:=E.of (A.block _ E.lt);have YZ:=F.of (G.block _ F.lt);obtain⟨bD,bN,bA,bG,bO,bT,bQ,dF,dD,dE,aU,aZ,aV⟩:=cK.k13;have iX:X.cell? (aD w.heap.size 14)=some (.slice pa ps.length pc):=cK.cell 14;obtain⟨eT,fK,gy,gV,fM,iG,ik⟩:=ig.k7;obtain⟨Z,Gg⟩:=YZ.k2;obtain⟨ai,Gh⟩:=Y.k2;have J:=Zh k;have rA:Hid (∀ x,Bw w x->n.kind=3->Calls Tryz.prog 78 #[.func (.func gl) #[] kQ,.func (.func gr) #[] lg] x fun e w'=>∃ v,e=.returned v/\Bw x w'/\∀ W,Nw x w' W->dw ag Tryz.prog (.func (.func gl) #[] kQ) L W->dw ag Tryz.prog (.func (.func gr) #[] lg) R W->dw ag Tryz.prog v (oC n.kind (cl.xs.idxOf K1) (cr.xs.idxOf K2) L R) W):=fun x d e=>by
  unfold oC;rw[Qu e];exact afX gl gr kQ lg L R x hR.few (fun a j=>by rw[hL.lens a j]; exact hL.wide) (fun a j=>by rw[hR.lens a j]; exact hR.wide)
 have ay:Hid (∀ x,Bw w x->n.kind=4->Calls Tryz.prog 151 #[.func (.func gl) #[] kQ,.func (.func gr) #[] lg,.int .i64 (aQ cl.xs K1),.int .i64 (aQ cr.xs K2)] x fun e w'=>∃ v,e=.returned v/\Bw x w'/\∀ W,Nw x w' W->dw ag Tryz.prog (.func (.func gl) #[] kQ) L W->dw ag Tryz.prog (.func (.func gr) #[] lg) R W->dw ag Tryz.prog v (oC n.kind (cl.xs.idxOf K1) (cr.xs.idxOf K2) L R) W):=fun x d e=>by
  unfold oC;rw[Qv (by omega),Qu e];obtain⟨_,_,p,C⟩:=hkey (by omega);have p:=XT.2 p;have C:=XT.2 C;exact af4 gl gr kQ lg _ _ L R x hR.few (fun a j=>by rw[hL.lens a j]; exact hL.wide) (fun a j=>by rw[hR.lens a j]; exact hR.wide) (fun a j=>by rw[hL.lens a j]; exact p) (fun a j=>by rw[hR.lens a j]; exact C) hL.small hR.small
 have az:Hid (∀ x,Bw w x->n.kind=5->Calls Tryz.prog 152 #[.func (.func gl) #[] kQ,.func (.func gr) #[] lg,.int .i64 (aQ cl.xs K1),.int .i64 (aQ cr.xs K2)] x fun e w'=>∃ v,e=.returned v/\Bw x w'/\∀ W,Nw x w' W->dw ag Tryz.prog (.func (.func gl) #[] kQ) L W->dw ag Tryz.prog (.func (.func gr) #[] lg) R W->dw ag Tryz.prog v (oC n.kind (cl.xs.idxOf K1) (cr.xs.idxOf K2) L R) W):=fun x d e=>by
  unfold oC;rw[Qv (by omega),Qv (by omega)];obtain⟨_,_,p,C⟩:=hkey (by omega);have p:=XT.2 p;have C:=XT.2 C;exact ac6 gl gr kQ lg _ _ L R x hR.few (fun a j=>by rw[hL.lens a j]; exact hL.wide) (fun a j=>by rw[hR.lens a j]; exact hR.wide) (fun a j=>by rw[hL.lens a j]; exact p) (fun a j=>by rw[hR.lens a j]; exact C)
 obtain⟨⟨pb,po,rfl,c0,c1,c2,c3,c4,c5⟩,aj⟩:=(hp.below k).2 li hll;obtain⟨⟨aY,bf,e',d0,d1,d2,d3,d4,d5⟩,ak⟩:=(hp.below k).2 ri hrl
 cases e'
 have yF:Hid (n.kind≠3->∀ x,Bw X x->Calls Tryz.prog 128 #[.agg #[.func (.func gl) #[] kQ,cl.val],.int .i64 K1] x fun e w'=>e=.returned (.int .i64 (aQ cl.xs K1))/\Bw x w'):=fun h x d=>vJ _ cl K1 x ⟨gl,kQ,rfl⟩ (Qt (aC k d) hcl) (by obtain⟨_,_,h,_⟩:=hkey h; exact h)
 have M:Hid (n.kind≠3->∀ x,Bw X x->Calls Tryz.prog 128 #[.agg #[.func (.func gr) #[] lg,cr.val],.int .i64 K2] x fun e w'=>e=.returned (.int .i64 (aQ cr.xs K2))/\Bw x w'):=fun h x d=>vJ _ cr K2 x ⟨gr,lg,rfl⟩ (Qt (aC k d) hcr) (by obtain⟨_,_,_,h⟩:=hkey h; exact h)
 have N:Hid (n.kind≠3->∃ b,∀ x,Bw X x->Cb 92 #[.agg #[v0,v1,v2,v3,v4,v5,v6,v7,v8,v9,s,t,u],.agg #[.int .i64 n.kind,.int .i64 li,.int .i64 ri,.int .i64 n.source,n.cl.val,.int .i64 n.key,n.co.val],.agg (ps.getD li aT).cells,.agg (ps.getD ri aT).cells] x (.tuple #[.int .i64 K1,.int .i64 K2,.bool b])):=fun h=>by
  obtain⟨b,p,_⟩:=hkey h;refine⟨b,fun x d=>?_⟩;have:=oz f ts q n (ps.getD li aT) (ps.getD ri aT) x ok (hf.below (aC k d)) (Qt (aC k d) hn) aj.sources ak.sources;rw[p,dQ,jP,el,er]at this;exact this
 have aA:=hp.1;have FZ:(li:Int)<(ps.length:Int):=by omega
 have aN:(ri:Int)<(ps.length:Int):=by omega
 have aO:=Zh aA;clear hf hp hn hcl hcr hkey hL hR dQ jP zG ok D E F Y cK ig YZ U V VT G k B A aj ak el er;generalize oC n.kind (cl.xs.idxOf K1) (cr.xs.idxOf K2) L R=RS at *;generalize aQ cl.xs K1=P1 at *;generalize aQ cr.xs K2=P2 at *;generalize ps.getD li aT=PL at *;generalize ps.getD ri aT=PR at *;obtain⟨lk,ls,Gv,lo,lz,LA⟩:=PL;obtain⟨rk,rs,aJ,ro,rz,aK⟩:=PR;obtain⟨nk,nl,nr,ns,aL,key,aM⟩:=n;simp only[aB.cells]at *;generalize aL.val=NCL at *;generalize aM.val=NCO at *;generalize lo.val=LO at *;generalize ro.val=RO at *;generalize cl.val=CL at *;generalize cr.val=CR at *;by_cases h3:nk=3
 ·subst h3;have g:=rA.o X J.o rfl;go_enter Tryz.func127,Tryz.ntmps127;go_wp2_with fail;refine g.mono ?_;rintro e w5 ⟨v,rfl,i,z⟩;have O:=Zh z;clear z;go_wp2;go_ret;exact⟨v,rfl,J.o.trans (i.mono J.o.size),fun W hW=>O.o W (hW.more J.o.size)⟩
 ·obtain⟨kb,au⟩:=N.o h3;have Mv:=Zh au;have P:=Zh (yF.o h3);have Q:=Zh (M.o h3);have oN:(nk==3)=false:=by simpa using h3
  clear N yF M au rA;go_enter Tryz.func127,Tryz.ntmps127;go_upto_region 3 with fail;clear aF aG aH aI;refine QA (by kernel_rfl) (by kernel_rfl) ?_;refine qS (.pointer (some (aD w.heap.size 0))) ?_;go_big_quiet_want;refine⟨.agg #[v0,v1,v2,v3,v4,v5,v6,v7,v8,v9,s,t,u],fun x d=>?_,?_⟩
  ·have S:=mi d bD bN bA bG bO bT bQ dF dD dE aU aZ aV;go_simp
  simp only[pU];go_big_quiet_on;go_big_quiet_want;refine⟨.agg #[.int .i64 nk,.int .i64 li,.int .i64 ri,.int .i64 ns,NCL,.int .i64 key,NCO],fun x d=>?_,?_⟩
  ·have S:=J7 d eT fK gy gV fM iG ik;go_simp
  simp only[pU];go_big_quiet_on;refine qS (.pointer (some (aD w.heap.size 14))) ?_;refine qC (.slice (some (aD pb po)) ps.length pc) iX ?_;refine qS (.pointer (some (aD w1.heap.size 1))) ?_;refine qC (.int .i64 li) fK ?_;refine qS (.pointer (some (aD pb (po+li*6)))) ?_;go_big_quiet_want;refine⟨.agg #[.int .i64 lk,.int .u64 (ls:Int),.int .u64 (Gv:Int),LO,.int .u64 (lz:Int),.int .u64 (LA:Int)],fun x d=>?_,?_⟩
  ·have S:=Rb d c0 c1 c2 c3 c4 c5;go_simp
  simp only[pU];go_big_quiet_on;refine qS (.pointer (some (aD w.heap.size 14))) ?_;refine qC (.slice (some (aD pb po)) ps.length pc) iX ?_;refine qS (.pointer (some (aD w1.heap.size 2))) ?_;refine qC (.int .i64 ri) gy ?_;refine qS (.pointer (some (aD pb (po+ri*6)))) ?_;go_big_quiet_want;refine⟨.agg #[.int .i64 rk,.int .u64 (rs:Int),.int .u64 (aJ:Int),RO,.int .u64 (rz:Int),.int .u64 (aK:Int)],fun x d=>?_,?_⟩
  ·have S:=Rb d d0 d1 d2 d3 d4 d5;go_simp
  simp only[pU];go_big_quiet_on;go_big_quiet_want;refine⟨.tuple #[.int .i64 K1,.int .i64 K2,.bool kb],fun x d=>?_,?_⟩
  ·have hC:=QC d (Mv.o x d);go_simp
  simp only[pU];go_big_quiet_on;refine qS (.tuple #[.int .i64 K1,.int .i64 K2,.bool kb]) ?_;refine qS (.int .i64 K1) ?_;refine qS (.int .i64 K2) ?_;refine qS (.bool kb) ?_;refine qS (.int .i64 K1) ?_;refine qS (.int .i64 K2) ?_;refine qS (.bool kb) ?_;refine XY ?_;intro w5 i;have K:=Zh i;obtain⟨H,av⟩:=XX (cB i Z) (cB i Gg);obtain⟨I,ax⟩:=XX (cB i ai) (cB i Gh);have T:=cB i eT;clear i c0 c1 c2 c3 c4 c5 d0 d1 d2 d3 d4 d5 bD bN bA bG bO bT bQ dF dD dE aU aZ aV iX eT fK gy gV fM iG ik Z Gg ai Gh;go_upto_region 4 with fail;refine QA (by kernel_rfl) (by kernel_rfl) ?_;go_big_quiet_want;refine⟨.agg #[.func (.func gl) #[] kQ,CL],fun x d=>?_,?_⟩
  ·have S:=cB d H;have e1:=cB d av;go_simp
  simp only[pU];go_big_quiet_on;refine qS (.int .i64 K1) ?_;go_big_quiet_want;refine⟨.int .i64 P1,fun x d=>?_,?_⟩
  ·have hC:=QC d (P.o x (K.o.trans (d.mono K.o.size)));go_simp
  simp only[pU];go_big_quiet_on;go_big_quiet_want;refine⟨.agg #[.func (.func gr) #[] lg,CR],fun x d=>?_,?_⟩
  ·have S:=cB d I;have e1:=cB d ax;go_simp
  simp only[pU];go_big_quiet_on;refine qS (.int .i64 K2) ?_;go_big_quiet_want;refine⟨.int .i64 P2,fun x d=>?_,?_⟩
  ·have hC:=QC d (Q.o x (K.o.trans (d.mono K.o.size)));go_simp
  simp only[pU];go_big_quiet_on;refine qS (.int .i64 P1) ?_;refine qS (.int .i64 P2) ?_;refine XY ?_;intro w6 m;have y:=Zh (J.o.trans ((K.o.trans (m.mono K.o.size)).mono J.o.size));have aP:=cB m H;have aW:=cB m I;have aX:=cB m T;clear m H av I ax T P Q Mv;rcases (show nk=4∨nk=5 by omega) with rfl | rfl
  ·have g:=ay.o w6 y.o rfl;go_wp2_with fail;refine g.mono ?_;rintro e w7 ⟨v,rfl,gD,z⟩;have O:=Zh z;clear z;go_wp2;go_ret;exact⟨v,rfl,y.o.trans (gD.mono y.o.size),fun W hW=>O.o W (hW.more y.o.size)⟩
  ·have g:=az.o w6 y.o rfl;go_wp2_with fail;refine g.mono ?_;rintro e w7 ⟨v,rfl,gD,z⟩;have O:=Zh z;clear z;go_wp2;go_ret;exact⟨v,rfl,y.o.trans (gD.mono y.o.size),fun W hW=>O.o W (hW.more y.o.size)⟩
theorem wtk{ops:Array Oper}{Q:Exit->Act->World->Prop}{md:Region.Mode}{fuel:Nat}{listed:Array Bool}{oi:Oper}{o:Nat}{u:Value}(i:Nat)(v:Value)(hS:Kept (fun b=>b≠R) W w)(c:W.cell? (aD b o)=some u)(hb:b≠R)(h:wpAnyH P md ops Q (fun x=>Kept (fun b=>b≠R) W x) fuel (listed.setIfInBounds i true) (a.put oi.dst v) w)(hi:ops[i]? = some oi:=by exact rfl)(hs:Region.noSelect ops=true:=by kernel_rfl)(hf:Region.free md ops listed i=true:=by kernel_rfl)(hr:(Region.ready md ops listed).contains i=true:=by kernel_rfl)(hQ:∀ c a w,Q (.panic c) (a.put oi.dst v) w->Q (.panic c) a w:=by exact fun _ _ _ h=>h)(hg:Region.wanted oi (yielded ops a.tmps)=true:=by rfl)(hy:∀ x,x.cell? (aD b o)=some u->(execOp a.eval oi).run P x=.ok (.value v) x:=by intro x d; go_simp):wpAnyH P md ops Q (fun x=>Kept (fun b=>b≠R) W x) (fuel+1) listed a w:=
 wpAnyH_take hi hs hf hr hQ (.inl ⟨hg,fun x d=>hy x (Zj c d hb)⟩) hS h
theorem oK{X K':Act->World->Prop}(hK:Shut (∀ a w,Kept (fun b=>b≠R) W w->(Kept (fun b=>b≠R) W w->X a w)->K' a w))(hS:Kept (fun b=>b≠R) W w)(hb:Bw w w')(h:Kept (fun b=>b≠R) W w'->X a w'):K' a w':=hK.o _ _ (hS.trans (QU hb fun _ hb _=>hb)) h
theorem akc(hx:Kept (fun b=>b≠R) w x)(hb:b≠R){v0 v1 v2 v3 v4 v5 v6 v7 v8 v9 v10 v11 v12:Value}(a0:w.cell? (aD b 0)=some v0)(a1:w.cell? (aD b 1)=some v1)(a2:w.cell? (aD b 2)=some v2)(a3:w.cell? (aD b 3)=some v3)(a4:w.cell? (aD b 4)=some v4)(a5:w.cell? (aD b 5)=some v5)(a6:w.cell? (aD b 6)=some v6)(a7:w.cell? (aD b 7)=some v7)(a8:w.cell? (aD b 8)=some v8)(a9:w.cell? (aD b 9)=some v9)(yI:w.cell? (aD b 10)=some v10)(BS:w.cell? (aD b 11)=some v11)(a12:w.cell? (aD b 12)=some v12) :
  x.cell? (aD b 0)=some v0/\x.cell? (aD b 1)=some v1/\x.cell? (aD b 2)=some v2/\x.cell? (aD b 3)=some v3/\x.cell? (aD b 4)=some v4/\x.cell? (aD b 5)=some v5/\x.cell? (aD b 6)=some v6/\x.cell? (aD b 7)=some v7/\x.cell? (aD b 8)=some v8/\x.cell? (aD b 9)=some v9/\x.cell? (aD b 10)=some v10/\x.cell? (aD b 11)=some v11/\x.cell? (aD b 12)=some v12:=
 ⟨Zj a0 hx hb,Zj a1 hx hb,Zj a2 hx hb,Zj a3 hx hb,Zj a4 hx hb,Zj a5 hx hb,Zj a6 hx hb,Zj a7 hx hb,Zj a8 hx hb,Zj a9 hx hb,Zj yI hx hb,Zj BS hx hb,Zj a12 hx hb⟩
def AZ(P:Program)(w0:World)(X:List (List Int) × List Int)(w:World)(g:Nat)(lb:Array Value)(c:aa)(w':World):Prop:=
 Bw w w'/\c.xs=X.2/\∀ W,Bw w0 W->Nw w w' W->dw ag P (.func (.func g) #[] lb) X.1 W/\ag.At c W
def mK(P:Program)(w0:World)(X:List (List Int) × List Int)(w:World)(e:Ending)(w':World):Prop:=
 ∃ (g:Nat) (lb:Array Value) (c:aa),e=.returned (.agg #[.func (.func g) #[] lb,c.val])/\AZ P w0 X w g lb c w'
theorem Nw.back{z:World}(h:Nw x z W)(hb:Bw y z):Nw x y W:=(QU hb fun _ hb _=>hb).trans h
theorem iY{t:TypeId}{w0:World}{g:Nat}{lb:Array Value}{c:aa}{X:List (List Int) × List Int}(hb:Bw w y)(hR:w.heap.size<=R)(gr:GB y R t #[Value.nilFunc,.slice none 0 0])(hc:c.xs=X.2)(hall:∀ W,Bw w0 W->Kept (fun b=>w.heap.size<=b/\b≠R) y W->dw ag P (.func (.func g) #[] lb) X.1 W/\ag.At c W) :
  Kept (fun b=>b≠R) y ((y.setCell (aD R 0) (.func (.func g) #[] lb)).setCell (aD R 1) c.val)/\GB ((y.setCell (aD R 0) (.func (.func g) #[] lb)).setCell (aD R 1) c.val) R t #[.func (.func g) #[] lb,c.val]/\AZ P w0 X w g lb c ((y.setCell (aD R 0) (.func (.func g) #[] lb)).setCell (aD R 1) c.val):=by
 have a:Kept (fun b=>b≠R) y ((y.setCell (aD R 0) (.func (.func g) #[] lb)).setCell (aD R 1) c.val):=(Zn _ _ _ (fun h=>h rfl)).trans (Zn _ _ _ (fun h=>h rfl));refine⟨a,(gr.set 0 _).set 1 _,hb.trans (a.below hb.size (fun b hb=>by show b≠R; omega)),hc,fun W d e=>hall W d ?_⟩;exact(a.mono fun b _ h=>h.2).trans (e.mono fun b _ h=>h.1)
theorem Y5(f:aS)(ts:List af)(q:ae)(va vp:Value)(d:Option Addr)(dc:Nat)(db:List aN)(n:ah)(s t:Nat)(w0 w:World)(hw:Bw w0 w)(hf:f.At ts q w0)(hd:qi w0 d db)(hk:n.kind=1)(es:n.source=s)(hs:s<q.src.xs.length)(et:q.src.xs.getD s 0=t)(ht:t<db.length) :
  Calls Tryz.prog 83 #[.agg (iM f ts q va vp (.slice d db.length dc)),.agg n.cells] w (mK Tryz.prog w0 (eQ db (t:Int),eD ts q.src.xs (s:Int)) w):=by
 obtain⟨v0,v1,v2,v3,v4,v5,v6,v7,v8,v9,z,A,B,dQ,aj,-⟩:=Ju f ts q;obtain⟨sb,so,ak,au⟩:=Qe (hf.query.src) hs;obtain rfl:v0=.slice (some (aD sb so)) q.src.xs.length q.src.cap:=by rw[aj]; unfold aa.val; rw[ak]
 obtain⟨⟨aQ,av,-⟩,-⟩:=id hd;obtain⟨j,k,aH,O⟩:=Qd av ht;subst aH;have zG:iM f ts q va vp (.slice (some (aD j k)) db.length dc)=#[.slice (some (aD sb so)) q.src.xs.length q.src.cap,v1,v2,v3,v4,v5,v6,v7,v8,v9,z,A,B,va,vp,.slice (some (aD j k)) db.length dc]:=by unfold iM; rw[dQ]; rfl
 have jP:n.cells=#[.int .i64 n.kind,.int .i64 n.l,.int .i64 n.r,.int .i64 n.source,n.cl.val,.int .i64 n.key,n.co.val]:=rfl;rw[zG,jP,hk,es];obtain⟨w1,aI,C,D⟩:=aR w #[.slice (some (aD sb so)) q.src.xs.length q.src.cap,v1,v2,v3,v4,v5,v6,v7,v8,v9,z,A,B,va,vp,.slice (some (aD j k)) db.length dc] 112;obtain⟨I,aJ,u,E⟩:=aR w1 #[.int .i64 1,.int .i64 n.l,.int .i64 n.r,.int .i64 (s:Int),n.cl.val,.int .i64 n.key,n.co.val] 36;obtain⟨w3,aK,Q,ax⟩:=aR I #[Value.nilFunc,.slice none 0 0] 139;have M:=aC u Q;have N:=aC C M;have cK:=D.of (M.block _ D.lt);have ig:=E.of (Q.block _ E.lt);obtain⟨bD,bN,bA,bG,bO,bT,bQ,dF,dD,dE,aU,aZ,aV⟩:=cK.k13;have jA:w3.cell? (aD w.heap.size 15)=some (.slice (some (aD j k)) db.length dc):=cK.cell 15;obtain⟨eT,-,-,gV,-⟩:=ig.k7;have F:w.heap.size≠I.heap.size:=by have:=D.lt; have:=u.size; omega
 have G:w1.heap.size≠I.heap.size:=by have:=E.lt; omega
 have y:=aC hw N;have k1:=cB y (au s hs);have k2:=cB y (O t ht);rw[et]at k1;have U:j≠I.heap.size:=by
  have h1:=lt_of_cell (O t ht);have h2:=hw.size;have h3:=C.size;have h4:=u.size;omega
 have aO:=hf.query.src.1;have hR:(db.getD t rz).rs.map (·.xs)=eQ db (t:Int):=rfl;have V:Hid (∀ x,Calls Tryz.prog 77 #[(db.getD t rz).val] x fun e w'=>∃ v,e=.returned v/\Bw x w'/\∀ W,Nw x w' W->aX W (db.getD t rz).ad (db.getD t rz).rs->dw ag Tryz.prog v ((db.getD t rz).rs.map (·.xs)) W):=fun x=>afW (db.getD t rz) x
 have l9:Hid (∀ x,Bw w0 x->Calls Tryz.prog 124 #[.agg #[.slice (some (aD sb so)) q.src.xs.length q.src.cap,v1,v2,v3,v4,v5,v6,v7,v8,v9,z,A,B],.int .i64 (s:Int)] x fun e w'=>∃ iv:aa,e=.returned iv.val/\iv.xs=eD ts q.src.xs (s:Int)/\ag.At iv w'/\Bw x w'/\∀ b,ag.blk iv=some b->x.heap.size<=b):=fun x hx=>by
  have h:=F8 f ts q (s:Int) x (hf.below hx);rw[dQ]at h;exact h
 rw[hR]at V;have Y:=Zh hd;have Z:=Zh y;have Ua:=Zh N;have Co:=Zh ax;have ai:=Zh F;have Ae:=Zh G;have aB:=Zh U;have HT:=Zh ht;have HZ:=Zh (QS C.size u.size);have aP:(s:Int)<(q.src.xs.length:Int):=by omega
 have aM:(t:Int)<(db.length:Int):=by omega
 clear aj ak hf hd hw au O av C u Q D E ax cK ig N M y F G U hR dQ zG jP es et hk;generalize (db.getD t rz).val=TV at *;generalize eQ db (t:Int)=TR at *;generalize eD ts q.src.xs (s:Int)=CO at *;generalize n.cl.val=NCL at *;generalize n.co.val=NCO at *;go_enter Tryz.func83,Tryz.ntmps83;go_upto_region 3 with fail;clear aI aJ aK;refine QQ (S:=fun x=>Kept (fun b=>b≠I.heap.size) w3 x) (by kernel_rfl) ((QU (Qr _ _) fun _ h _=>h).trans (QU ((Qr _ _).drew) fun _ h _=>h)) (fun i=>?_);refine wt 0 (.pointer (some (aD w.heap.size 15))) i ?_;refine wtk 1 (.slice (some (aD j k)) db.length dc) i jA ai.o ?_;refine wt 2 (.int .i64 (t:Int)) i ?_;refine wt 3 (.pointer (some (aD j (k+t)))) i ?_;refine wtk 4 TV i k2 aB.o ?_;refine wt 6 (.pointer (some (aD w.heap.size 0))) i ?_;refine wT 7 (.agg #[.slice (some (aD sb so)) q.src.xs.length q.src.cap,v1,v2,v3,v4,v5,v6,v7,v8,v9,z,A,B]) i (fun x hx=>?_) ?_
 ·have e0:=akc hx ai.o bD bN bA bG bO bT bQ dF dD dE aU aZ aV;go_simp
 refine wt 8 (.pointer (some (aD w1.heap.size 3))) i ?_;refine wtk 9 (.int .i64 (s:Int)) i gV Ae.o ?_;refine wR 5 fun K L=>?_
 go_simp;refine(V.o _).mono ?_;rintro e w4 ⟨v,rfl,ay,R⟩;refine oK L i ay fun i=>?_
 clear L K;refine wR 10 fun K L=>?_
 go_simp;have m:Bw w3 w4:=(Qr _ _).drew.trans ay;refine(l9.o _ (aC Z.o m)).mono ?_;rintro e w5 ⟨⟨iZ,di,fe⟩,rfl,az,Bq,T,aA⟩;simp only[aa.val];refine oK L i T fun i=>?_
 clear L K;have CV:=aC m T;obtain⟨g,lb,rfl⟩:∃ g lb,v=.func (.func g) #[] lb:=by
  obtain⟨g,lb,h,_⟩:=R w4 (QU (Qr _ _) fun _ h _=>h) ((Y.o.2 t HT.o).below (aC Z.o m));exact⟨g,lb,h⟩
 have aF:=Co.o.lt;have aG:=Ua.o.size;have H:∀ W,Bw w0 W->Kept (fun b=>w.heap.size<=b/\b≠I.heap.size) w5 W->dw ag Tryz.prog (.func (.func g) #[] lb) TR W/\ag.At ⟨iZ,di,fe⟩ W:=fun W h0 hW=>by
  refine⟨R W (Nw.back (Kept.mono hW fun b _ h=>?_) T) ((Y.o.2 t HT.o).below h0),ag.keep Bq hW.size fun b hb aL=>hW.block b hb ?_⟩
  ·have h2:w3.heap.size<=b:=QS (by simp) h;exact⟨by omega,by omega⟩
  ·have h2:=aA b aL;have h3:=m.size;exact⟨by omega,by omega⟩
 obtain⟨kE,gE,J⟩:=iY (P:=Tryz.prog) (w0:=w0) (w:=w) (g:=g) (lb:=lb) (X:=(TR,CO)) (aC Ua.o CV) HZ.o (Co.o.of (CV.block _ Co.o.lt)) az H;have g5:=Co.o.of (CV.block _ Co.o.lt);have uF:=Zh J;have qV:=Zh (uI gE);have z0:w5.cell? (aD I.heap.size 0)=some Value.nilFunc:=g5.cell 0;have z1:w5.cell? (aD I.heap.size 1)=some (.slice none 0 0):=g5.cell 1;have y0:=g5.frozen 0;have y1:=g5.frozen 1;have NM:=fun (a:Addr) (c:Array Value) (w:World)=>run_store Tryz.prog w a (.func (.func g) #[] c) .plain rfl
 clear J gE g5 R az Bq m CV H aA aF aG;refine wt 11 (.agg #[.func (.func g) #[] lb,.slice iZ fe.length di]) i ?_;refine wR 12 fun K L=>?_
 go_simp;refine L.o _ _ (i.trans kE) (fun i=>?_);clear L K;refine wD ?_
 try simp only[pU]
 go_wp2_with fail;exact ZN (Jk (p:=4) rfl rfl qV.o) rfl ⟨g,lb,⟨iZ,di,fe⟩,rfl,uF.o⟩
