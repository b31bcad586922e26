import Derived.Test.YtjndadibondgbaaGreatDoorL23
set_option linter.all false
set_option maxRecDepth 100000
set_option maxHeartbeats 16000000
namespace Go.Proofs.Zz
open Go.RowKit Go.Shelf
variable {w:World} {base i k n:Nat} {e:TypeId} {v:Value} {kc sc:List Int} {rows:List (List Int)} {P:Program} {q:ae} {ts:List af} {db:List aN}
section
theorem Ll{xs:List Int}(h:w.ownsRow base e 1 v n (xs.map (Value.int .i64)))(hl:xs.length<=1152921504606846976) :
  ∃ iv:aa,v=iv.val/\iv.xs=xs/\(Nz e).At iv w/\∀ b,ag.blk iv=some b->base<=b:=by
 obtain⟨iv,f,i,o,p⟩:=ZV h hl;have j:xs.length=n:=by have:=h.1; simpa using this
 refine⟨iv,f,i,⟨o,?_⟩,p⟩;rw[<- f,i,j];refine⟨h.1,?_⟩;rcases h.2 with k | ⟨g,a,d,l,q,m⟩
 ·exact .inl k
 ·exact .inr ⟨g,a,d,l,Zf _,m⟩
theorem OX{m:Nat}{a:List Gr}{row:List Int}(h:∀ g∈a,g.key.length<=kc.length/\g.cnt<=m):∀ g∈stepG kc sc a row,g.key.length<=kc.length/\g.cnt<=m+1:=by
 intro g b;unfold stepG at b;split at b
 ·obtain⟨j,e,rfl⟩:=Qx b;rw[Jf]at e;rw[XN];have d:=h _ (Qk e);split
  ·exact⟨d.1,by show a[j].cnt+1<=_; omega⟩
  ·exact⟨d.1,by omega⟩
 ·rcases Zx.1 b with b | b
  ·have d:=h g b;exact⟨d.1,by omega⟩
  ·rw[Zw]at b;subst b;exact⟨by simp[rO,oV,au],by simp[rO,oV]⟩
theorem BD{kc sc:List Int}:∀ (rows:List (List Int)) (m:Nat) (a:List Gr),(∀ g∈a,g.key.length<=kc.length/\g.cnt<=m)->∀ g∈rows.foldl (stepG kc sc) a,g.key.length<=kc.length/\g.cnt<=m+rows.length
 | [],m,a,h => by simpa using h
 | r::l,m,a,h => by
  rw[Z0];intro g hg;have:=BD l (m+1) _ (OX h) g hg;rw[Q7];omega
theorem Gd:∀ g∈fu kc sc rows,g.key.length<=kc.length/\g.cnt<=rows.length:=by
 intro g a;unfold fu at a;have:=BD rows 0 (eu kc sc) (fun g a=>by
  unfold eu at a;split at a
  ·rw[Zw]at a;subst a;exact⟨Zf _,Qs _⟩
  ·simp at a) g a
 omega
theorem acW{tg ti tp:TypeId}{bg:Nat}{gs:List gP}{A:World}(h:mH tg ti tp n base bg gs A v)(hi:i<gs.length):∃ g a,v=.slice (some (aD g 0)) gs.length a/\A.cell? (aD g i)=some (.pointer (some (aD (gs[i].gb) 0))):=by
 obtain⟨g,a,b,d⟩:=nD h.own hi;refine⟨g,a,b,?_⟩;rw[d,ZR,ZT hi];rfl
attribute [local go_sem] Oper.semAt_some
end
def lK(e:TypeId)(lo:Nat):El aa (List Int) where
 enc:=aa.val
 At x W:=(Nz e).At x W/\∀ b,ag.blk x=some b->lo<=b
 blk:=ag.blk
 key:=aa.xs
 keep:=fun h hs hb=>⟨(Nz e).keep h.1 hs hb,h.2⟩
 sV:=fun h hb=>ag.sV h.1.1 hb
def nE(P:Program)(e:TypeId)(v:Value)(rows:List (List Int))(w:World):Prop:=
 ∃ g lb,v=.func (.func g) #[] lb/\(∀ args w,(callFunc g args).run P w=.ok (.enter g args) w)/\Seq (lK e w.heap.size) P g lb rows w
theorem Seq.renew{g:Nat}{lb:Array Value}{w0 w1:World}(h:Seq (lK e w0.heap.size) P g lb rows w0)(hb:Bw w0 w1):Seq (lK e w1.heap.size) P g lb rows w1:=by
 intro l J W o k m p q r;refine h l J W o (hb.trans (k.mono hb.size)) (fun b a=>⟨QS hb.size (m b a).1,(m b a).2⟩) p (fun i x s t u v n d w=>?_) r;have f:∀ b,ag.blk x=some b->W.heap.size<=b:=fun b a=>by
  rcases (d b a).2 with j | j
  ·have:=n.2 b a; omega
  ·exact j
 exact q i x s t u v ⟨n.1,fun b a=>QS k.size (f b a)⟩ (fun b a=>⟨(d b a).1,.inr (f b a)⟩) w
theorem nE.later{w':World}(h:nE P e v rows w)(hb:Bw w w'):nE P e v rows w':=by
 obtain⟨g,lb,a,b,d⟩:=h;exact⟨g,lb,a,b,d.renew hb⟩
section
attribute [local go_sem] Oper.semAt_some
theorem LF(lo:Nat)(bi bc gi:Nat)(jB:Array Value)(c:aa)(rows:List (List Int))(w0:World)(hbi:bi<w0.heap.size)(hbc:bc<w0.heap.size)
  (hci:w0.cell? (aD bi 0)=some (.func (.func gi) #[] jB)) (hcc:w0.cell? (aD bc 0)=some c.val) (hc:c.At w0) (hcl:c.xs.length<=1000)
  (hseq:Seq ag Tryz.prog gi jB rows w0) (FO:∀ args w,(callFunc gi args).run Tryz.prog w=.ok (.enter gi args) w)
  (hin:∀ r∈rows,aM c.xs r.length=true) (hlo:lo<=w0.heap.size) :
  Seq (lK 3 lo) Tryz.prog 122 #[.pointer (some (aD bi 0)),.pointer (some (aD bc 0))] (rows.map fun r=>au r c.xs) w0:=by
 intro l J W o hW ho hJ hY h0;have ax:=(hW.cell (p:=(aD bi 0)) hbi).trans hci;have HY:Hid _:=hY;have S:Hid _:=ho;have T:Hid _:=hW;have X:Hid _:=hJ;have Cz:Hid _:=hin;have ay:Hid _:=hcc;have HC:Hid _:=hc;have uz:Hid _:=hcl;have az:Hid _:=hbc;clear hY ho hW hJ hin hci hcc hc hcl hbc;have z:Bw W (W.alloc (.cells #[.func (.yield l) #[] #[]] 108)):=bV _ _;have Y:(W.alloc (.cells #[.func (.yield l) #[] #[]] 108)).cell? (aD bi 0)=some (.func (.func gi) #[] jB):=(z.cell (p:=(aD bi 0)) (QT hbi T.o.size)).trans ax;have BU:(W.alloc (.cells #[.func (.yield l) #[] #[]] 108)).cell? (aD W.heap.size 0)=some (.func (.yield l) #[] #[]):=by simp
 have I:(W.alloc (.cells #[.func (.yield l) #[] #[]] 108)).heap.size=W.heap.size+1:=by simp
 refine(QZ (n:=0)).1 (Zk Tryz.func122 rfl trivial ?_ rfl);simp only[Tryz.ntmps122,Q6,Q7,Q8,Nat.reduceAdd,Nat.reduceSub,Q9,Za,Zb,Zc,Zd,Ze]
 gi_wp2
 obtain⟨v,O⟩:=eX (W.alloc (.cells #[.func (.yield l) #[] #[]] 108))
 rw[O]at z Y BU I;rw[O];clear O;have H1:Hid (v.heap.size=W.heap.size+1):=I;have H2:Hid (Bw W v):=z;clear I z Y;refine mo ag (gf:=gi) (lb:=jB) rfl FO hseq (T.o.trans (H2.o.mono T.o.size)) rfl
  (fun q j W'=>∃ zs,zs.map aa.xs=q.map (fun r=>au r.xs c.xs)/\J zs j W'/\Kept (fun b=>¬ o b) v W'/\∀ b,j b->o b∨(v.heap.size<=b/\b<W'.heap.size))
  o ?_ ?_ ?_ (fun x=>{ tmps:=#[.func (.yield l) #[] #[],.pointer (some (aD bi 0)),.pointer (some (aD bc 0)),.pointer (some (aD W.heap.size 0)),x.val,.func (.func gi) #[] jB,x.val,undef,undef,undef,undef,undef,undef],defers:=[] }) ?assign ?body ?done
 ·intro b a;exact⟨(S.o b a).1,by have:=(S.o b a).2; have:=H1.o; omega⟩
 ·rintro q j A B ⟨zs,F,G,k,y⟩ P;have h1:=H1.o;exact⟨zs,F,X.o _ _ _ _ G (P.mono fun b _ h=>h.imp id (by omega)),k.trans' P (fun b a _=>.inr a),fun b h=>(y b h).imp id (fun h=>⟨h.1,by have:=P.size; omega⟩)⟩
 ·exact⟨[],rfl,X.o _ _ _ _ h0 (QU H2.o fun b a _=>a),QR _ _,fun b h=>.inl h⟩
 case assign=>
  intro l x W K hK
  gi_wp2
  exact hK
 case body=>
  rintro l2 q x j U ⟨zs,F,G,k,y⟩ t hx ak aI;have f:∀ s,Kept s U U.drew:=fun s=>⟨rfl,rfl,rfl,Qs _,fun _ _ _=>rfl⟩
  obtain⟨d,av⟩:=eX (U.drew)
  rw[av]at f;have aA:Hid _:=f;have xS:d.heap.size=U.heap.size:=by rw[<- av]; rfl
  have aB:Hid _:=xS
  replace G:=X.o _ _ _ _ G (f _)
  replace k:=k.trans (f _)
  replace hx:=ag.keep hx (f (fun _=>True)).size (fun b a _=>(f (fun _=>True)).block b a trivial)
  rw[<- xS]at y aI;clear f xS;have h1:=H1.o;have aL:=k.size;have C:Bw w0 d:=(T.o.trans (H2.o.mono T.o.size)).trans (k.below (by have:=T.o.size; omega) (fun i hi h=>by have:=(S.o i h).1; omega));have aC:d.cell? (aD bc 0)=some c.val:=(C.cell (p:=(aD bc 0)) az.o).trans ay.o;have Z:c.At d:=Qt C HC.o;have Kq:∀ b,W.heap.size<=b->¬ o b:=fun b a h=>by have:=(S.o b h).2; omega
  have aF:d.cell? (aD W.heap.size 0)=some (.func (.yield l) #[] #[]):=Zj BU k (Kq _ (Qs _));have ae:=ND x c d hx.1 Z (Cz.o _ (kC t)) uz.o;obtain⟨H,u⟩:=eX (d.alloc (.cells ((au x.xs c.xs).map (Value.int .i64)).toArray 3))
  have g:Bw d H:=by rw[<- u]; exact bV _ _
  have L:(au x.xs c.xs).length=c.xs.length:=by simp[au]
  have af:(lK 3 lo).At ⟨some (aD d.heap.size 0),(au x.xs c.xs).length,au x.xs c.xs⟩ H:=by rw[<- u]; exact⟨Kt d _ _ (by rw[L]; have:=uz.o; omega),fun b a=>by cases a; exact QS hlo C.size⟩
  have ah:H.heap.size=d.heap.size+1:=by rw[<- u]; simp
  rw[u]at ae;have aN:=cB g aC;have C9:=cB g aF;have MM:=X.o _ _ _ _ G (QU g (fun b a _=>a));have ai:(zs++[(⟨some (aD d.heap.size 0),(au x.xs c.xs).length,au x.xs c.xs⟩:aa)]).map (lK 3 lo).key <+: rows.map fun r=>au r c.xs:=by
   have e1:(zs++[(⟨some (aD d.heap.size 0),(au x.xs c.xs).length,au x.xs c.xs⟩:aa)]).map (lK 3 lo).key=(q++[x]).map (fun r=>au r.xs c.xs):=by
    rw[Qn,Qn]
    show zs.map aa.xs++_=_
    rw[F];rfl
   rw[e1];exact ack c.xs t
  have M:∀ b,j b->b<d.heap.size:=fun b h=>by
   rcases y b h with h | h
   ·have:=(S.o b h).2; omega
   ·exact h.2
  obtain⟨fn,tmps,assign,body,hy,aJ⟩:=HY.o zs _ j H MM ai af (fun b a=>by
   have N:some d.heap.size=some b:=a
   cases N
   exact⟨fun h=>by have:=M _ h; omega,.inr (by omega)⟩) (by omega)
  have aO:(Instr.yield l #[.slice (some (aD d.heap.size 0)) c.xs.length c.xs.length]).run Tryz.prog H=.ok (.round l fn tmps assign body) H:=by
   have:=hy;unfold lK aa.val at this;simp only[L]at this;exact this
  have HZ:Hid _:=F;have HK:Hid _:=k;have HG:Hid _:=y;have HN:Hid _:=M;have aP:Hid _:=g;have Vv:Hid _:=ah;have aG:Hid (∀ (V:Nat->Prop) (m:World),J (zs++[⟨some (aD d.heap.size 0),(au x.xs c.xs).length,au x.xs c.xs⟩]) V m->Kept (fun b=>¬ j b) H m->
    (∀ b,V b->j b∨(H.heap.size<=b/\b<m.heap.size)∨((lK 3 lo).blk ⟨some (aD d.heap.size 0),(au x.xs c.xs).length,au x.xs c.xs⟩=some b/\W.heap.size<=b))->
    ∃ R,(∃ zs,zs.map aa.xs=(q++[x]).map (fun r=>au r.xs c.xs)/\J zs R m/\Kept (fun b=>¬ o b) v m/\∀ b,R b->o b∨(v.heap.size<=b/\b<m.heap.size))/\Kept (fun b=>¬ j b) U m/\
     ∀ b,R b->j b∨(U.heap.size<=b/\b<m.heap.size)∨(ag.blk x=some b/\v.heap.size<=b)):=by
   intro V m MN D Q;have aQ:=D.size;have xS:=aB.o;have E:∀ b,V b->j b∨(d.heap.size<=b/\b<m.heap.size):=fun b a=>by
    rcases Q b a with h | h | ⟨h,_⟩
    ·exact .inl h
    ·exact .inr ⟨by omega,h.2⟩
    ·have N:some d.heap.size=some b:=h
     cases N
     exact .inr ⟨Qs _,by omega⟩
   have aj:Kept (fun b=>¬ j b) d m:=(QU g (fun b a _=>a)).trans D;refine⟨V,⟨_,?_,MN,k.trans' aj ?_,?_⟩,(aA.o _).trans aj,?_⟩
   ·rw[Qn,Qn,F];rfl
   ·intro b a h h';rcases y b h' with h' | h'
    ·exact h h'
    ·omega
   ·intro b a;rcases E b a with h | h
    ·exact(y b h).imp id (fun h=>⟨h.1,by omega⟩)
    ·exact .inr ⟨by omega,h.2⟩
   ·intro b a;rcases E b a with h | h
    ·exact .inl h
    ·exact .inr (.inl ⟨by omega,h.2⟩)
  have Gc:Tryz.prog.follows .mixedOrders=true:=by kernel_rfl
  clear F k y M G MM ai af hx ak t hy C Z Kq g u L ah;obtain⟨jD,cO,gK⟩:=x;obtain⟨iZ,di,fe⟩:=c;unfold aa.val at *;simp only at *
  gi_wp2
  gi_region_with_o (first | (refine⟨trivial,rfl,Zl l2 (QZ.2 (ae.mono ?_))⟩; rintro e w4 ⟨rfl,rfl⟩) | (refine⟨rfl,aJ.mono ?_⟩; rintro e m ⟨rfl,V,MN,D,Q⟩))
  all_goals gi_wp2
  all_goals exact aG.o _ _ MN D Q
 case done=>
  rintro us o' d U8 ⟨zs,F,G,k,y⟩ aR aK hD;have h1:=H1.o
  gi_wp2
  have aH:¬ o' v.heap.size:=fun h=>by
   rcases aK _ h with h | h
   ·have:=(S.o _ h).2; omega
   ·omega
  have UW:Kept (fun b=>b≠v.heap.size) d (d.putObj v.heap.size (.deferred none)):=QV _ _ (fun h=>h rfl);refine⟨by simp,.inl ⟨_,_,rfl,Zm hD,?_⟩⟩;refine⟨_,results_none rfl _ _ _,⟨_,rfl⟩,zs,o',?_,X.o _ _ _ _ G (UW.mono fun b _ h=>?_),((QU H2.o (fun b a _=>a)).trans' k (fun b _ h=>h)).trans' UW (fun b a _=>by omega),fun b h=>(y b h).imp id (fun h=>⟨by omega,by rw[Q0]; omega⟩)⟩
  ·show zs.map aa.xs=_
   rw[F,<- U8,Xv];rfl
  ·rcases h with h | h
   ·intro e; exact aH (e ▸ h)
   ·omega
theorem xu(vi:Value)(c:aa)(rows:List (List Int))(w:World)(hi:dw ag Tryz.prog vi rows w)(hc:c.At w)(hcl:c.xs.length<=1000)(hin:∀ r∈rows,aM c.xs r.length=true) :
  Calls Tryz.prog 82 #[vi,c.val] w fun e w'=>∃ v,e=.returned v/\nE Tryz.prog 3 v (rows.map fun r=>au r c.xs) w'/\Bw w w':=by
 obtain⟨g,i,rfl,m,d⟩:=hi;have a:=bV w (.cells #[.func (.func g) #[] i] 87);have b:=bV (w.alloc (.cells #[.func (.func g) #[] i] 87)) (.cells #[c.val] 22);have f:=a.trans (b.mono a.size);have j:nE Tryz.prog 3 (.func (.func 122) #[] #[.pointer (some (aD w.heap.size 0)),.pointer (some (aD (w.heap.size+1) 0))]) (rows.map fun r=>au r c.xs) ((w.alloc (.cells #[.func (.func g) #[] i] 87)).alloc (.cells #[c.val] 22)):=
  ⟨_,_,rfl,Jl Tryz.func122 (by kernel_rfl) rfl,LF _ w.heap.size (w.heap.size+1) g i c rows _ (by simp; omega) (by simp) (by simp) (by simp) (Qt f hc) hcl (Seq.later _ d f) m hin (Qs _)⟩
 obtain⟨n,p,q⟩:=c;unfold aa.val at *;simp only at *;have k:Hid _:=j;have l:Hid _:=f;clear j f a b d hc hcl hin;go_enter Tryz.func82,Tryz.ntmps82;go_wp2;go_ret;exact⟨_,rfl,k.o,l.o⟩
theorem LG(vi:Value)(q:ae)(rows:List (List Int))(w:World)(hg:q.group=false)(hi:dw ag Tryz.prog vi rows w)(hc:q.aK.At w)(hcl:q.aK.xs.length<=1000)(hin:∀ r∈rows,aM q.aK.xs r.length=true) :
  Calls Tryz.prog 51 #[vi,.agg q.cells] w fun e w'=>∃ v,e=.returned v/\nE Tryz.prog 3 v (rows.map fun r=>au r q.aK.xs) w'/\Bw w w':=by
 have i:=bV w (.cells q.cells 26);have f:=xu vi q.aK rows _ (hi.later i) (Qt i hc) hcl hin;obtain⟨B,C,rfl,_,_⟩:=id hi;clear hi hc hcl hin;have t:Hid _:=i;clear i;obtain⟨src,p,s,wh,j,a,b,⟨k,l,m⟩,d⟩:=q;unfold ae.cells aa.val at *;simp only at *;subst hg;have u:(w.alloc (.cells #[.slice src.ad src.xs.length src.cap,.slice p wh.length s,.bool false,.slice a.ad a.xs.length a.cap,.slice b.ad b.xs.length b.cap,.slice k m.length l,.slice d.ad d.xs.length d.cap] 26)).cell? (aD w.heap.size 5)=some (.slice k m.length l):=by simp
 have y:(w.alloc (.cells #[.slice src.ad src.xs.length src.cap,.slice p wh.length s,.bool false,.slice a.ad a.xs.length a.cap,.slice b.ad b.xs.length b.cap,.slice k m.length l,.slice d.ad d.xs.length d.cap] 26)).cell? (aD w.heap.size 2)=some (.bool false):=by simp
 go_enter Tryz.func51,Tryz.ntmps51;go_wp2_with fail;refine f.mono ?_;rintro e D ⟨v,rfl,g,n⟩;have z:Hid _:=g;obtain⟨E,A,rfl,_,_⟩:=id g;clear g f;go_wp2;go_ret;exact⟨_,rfl,z.o,t.o.trans (n.mono (by simp))⟩
end
section
attribute [local go_sem] Oper.semAt_some
theorem Ub(lo:Nat)(bi bk bs gi:Nat)(jB:Array Value)(kc sc:aa)(rows:List (List Int))(w0:World)(hbi:bi<w0.heap.size)(hbk:bk<w0.heap.size)(hbs:bs<w0.heap.size)
  (hci:w0.cell? (aD bi 0)=some (.func (.func gi) #[] jB)) (hck:w0.cell? (aD bk 0)=some kc.val) (hcs:w0.cell? (aD bs 0)=some sc.val) (hkc:kc.At w0) (hsc:sc.At w0) (hkl:kc.xs.length<=4) (hsl:sc.xs.length<=4)
  (hseq:Seq ag Tryz.prog gi jB rows w0) (FO:∀ args w,(callFunc gi args).run Tryz.prog w=.ok (.enter gi args) w) (hlen:rows.length<=1000000) (ED:∀ r∈rows,aM kc.xs r.length=true) (EE:∀ r∈rows,aM sc.xs r.length=true) (hsm:∀ r∈rows,∀ v∈r,dC v) (hlo:lo<=w0.heap.size) :
  Seq (lK 3 lo) Tryz.prog 119 #[.pointer (some (aD bi 0)),.pointer (some (aD bk 0)),.pointer (some (aD bs 0))] ((fu kc.xs sc.xs rows).map Gr.row) w0:=by
 intro l J W o q ho hJ hY h0;have c1:=(q.cell (p:=(aD bi 0)) hbi).trans hci;have c2:=(q.cell (p:=(aD bk 0)) hbk).trans hck;have c3:=(q.cell (p:=(aD bs 0)) hbs).trans hcs;have O:=AV gi jB kc sc rows w0 W q hseq FO (Qt q hkc) (Qt q hsc) hkl hsl hlen ED EE hsm;have P:(fu kc.xs sc.xs rows).length<=1000001:=by
  have h:=zM kc.xs sc.xs (rows.map fun r=>(⟨none,0,r⟩:aa)) (eu kc.xs sc.xs);rw[List.foldl_map,ZB]at h;have h3:(eu kc.xs sc.xs).length<=1:=by unfold eu; split <;> simp
  have Q:(rows.foldl (stepG kc.xs sc.xs) (eu kc.xs sc.xs)).length<=(eu kc.xs sc.xs).length+rows.length:=h;unfold fu;omega
 have ay:Hid _:=P;have rA:Hid (lo<=W.heap.size):=QS hlo q.size;have HY:Hid _:=hY;have HO:Hid _:=ho;have HW:Hid _:=q;have HJ:Hid _:=hJ;have Ev:Hid _:=hsl;have az:Hid _:=hkl;have R:Hid _:=hlen;have S:Hid (∀ g∈fu kc.xs sc.xs rows,g.key.length<=kc.xs.length/\g.cnt<=rows.length):=fun g hg=>Gd g hg
 clear hY ho q hJ P hseq FO hlen ED EE hsm hkc hsc hci hck hcs hbi hbk hbs hkl hsl;obtain⟨jM,dL,gJ⟩:=kc;obtain⟨lQ,fA,fH⟩:=sc;unfold aa.val at *;simp only at *;refine(QZ (n:=0)).1 (callsIn_of_wp Tryz.func119 rfl trivial ?_ rfl);simp only[Tryz.ntmps119,Q6,Q7,Q8,Nat.reduceAdd,Nat.reduceSub,Q9,Za,Zb,Zc,Zd,Ze]
 gi_wp2
 refine⟨trivial,rfl,QZ.2 (O.mono ?_)⟩;rintro e Wg ⟨v,a,rfl,H,xE,f⟩;clear O;obtain⟨Fy,oU,rfl⟩:=iL xE.own;have A:=f.size;have aA:=HJ.o _ _ _ _ h0 (QU (s:=fun b=>o b∨b<W.heap.size) f (fun b d _=>d));have aJ:a.length<=1000001:=by
  have:=congrArg List.length H;rw[ZB]at this;have:=ay.o;omega
 have aB:Hid _:=f;have T:Hid _:=A;have tY:Hid _:=xE;have B:Hid _:=H;clear f A xE H c1 c2 c3 h0
 gi_wp2
 gi_loopw [12] (fun i wr=>∃ k:Nat,k<=a.length/\i=.int .i64 k/\∃ ys M,Hid (ys.map aa.xs=(a.take k).map (fun g=>g.gr.row))/\J ys M wr/\Hid (Kept (fun b=>¬ o b) Wg wr)/\Hid (∀ b,M b->o b∨(Wg.heap.size<=b/\b<wr.heap.size)))
  (fun i _=>a.length-(intOf i).toNat)
 case atStart=>exact⟨0,Zf _,rfl,[],o,rfl,aA,QR _ _,fun b h=>.inl h⟩
 case round=>
  obtain⟨k,hk,rfl,ys,M,I,ai,lI,j⟩:=hrel;by_cases t:k<a.length
  ·have C:=tY.o.keep lI.o (fun b d=>by
    intro h;have D:=(HO.o b h).2;rcases qg tY.o d with L | L <;> omega)
   obtain⟨gr,TM,hv,hci⟩:=acW C t;have u:=C.at' _ (Qk t);have E:=S.o a[k].gr (by rw[<- B.o]; exact List.mem_map_of_mem (Qk t));have U:a[k].k.xs.length<=4:=by have D:=E.1; have L:=az.o; have h3:a[k].gr.key=a[k].k.xs:=rfl; rw[h3]at D; omega
   have V:a[k].cnt<=1000000:=by have D:=E.2; have L:=R.o; have h3:a[k].gr.cnt=a[k].cnt:=rfl; rw[h3]at D; omega
   have X:=Ev.o;have y:=Lj a[k].gb a[k].sb a[k].k a[k].cnt a[k].ss wr (by rw[u.len]; exact u.cells) u.sums u.key.1 u.key.2.2 U (by rw[u.len]; exact X) V;have Y:(a[k].k.xs++[(a[k].cnt:Int)]++a[k].ss).length<=1000:=by have:=u.len; simp; omega
   have VS:Hid _:=Y;have Z:(a.take k).map (fun g=>g.gr.row)++[a[k].gr.row]=(a.take (k+1)).map (fun g=>g.gr.row):=by rw[Qm t,Qn]; rfl
   have MV:Hid _:=Z;have ae:Hid (a[k].gr.row=a[k].k.xs++[(a[k].cnt:Int)]++a[k].ss):=rfl;obtain⟨rfl,rfl⟩:Fy=some (aD gr 0)/\oU=TM:=by injection hv with D _ L; exact⟨D,L⟩
   clear C u E U V Y Z X hv
   gi_wp2
   refine⟨trivial,rfl,QZ.2 (y.mono ?_)⟩;rintro e N ⟨v3,rfl,z,K⟩;clear y;obtain⟨iv,rfl,vO,mq,Ak⟩:=Ll z (by have:=VS.o; omega);have aK:=K.size;have F:∀ s,Kept s wr N:=fun s=>QU K (fun b d _=>d)
   have A:=T.o;have aL:=lI.o.size;have MM:=HJ.o _ _ _ _ ai (F _);have G:∀ b,M b->b<wr.heap.size:=fun b d=>by
    rcases j.o b d with h | h
    ·have:=(HO.o b h).2; omega
    ·exact h.2
   have af:(ys++[iv]).map (lK 3 lo).key <+: (fu gJ fH rows).map Gr.row:=by
    have e1:(ys++[iv]).map (lK 3 lo).key=(a.take (k+1)).map (fun g=>g.gr.row):=by
     rw[Qn,<- MV.o]
     show ys.map aa.xs++[iv.xs]=_
     rw[I.o,vO,ae.o]
    rw[e1,<- B.o,Xv];exact List.IsPrefix.map _ (List.take_prefix _ _)
   obtain⟨fn,tmps,m,aj,hy,ak⟩:=HY.o ys iv M N MM af ⟨mq,fun b d=>by have:=Ak b d; have:=rA.o; omega⟩ (fun b d=>⟨fun h=>by have:=G b h; have:=Ak b d; omega,.inr (by have:=Ak b d; omega)⟩) (by omega);have aC:Hid _:=vO;have aF:Hid _:=Ak;have Cz:Hid (∀ b,ag.blk iv=some b->b<N.heap.size):=fun b d=>ag.sV mq.1 d
   have xD:Hid _:=F;have aN:Hid _:=G;have aO:Hid _:=MM;clear z K F af mq vO Ak MM G;obtain⟨iT,dx,ji⟩:=iv;have aG:(Instr.yield l #[.slice iT ji.length dx]).run Tryz.prog N=.ok (.round l fn tmps m aj) N:=hy;unfold aa.val;simp only;clear hy
   gi_wp2
   refine⟨rfl,ak.mono ?_⟩;rintro e W4 ⟨rfl,o2,au,av,ax⟩;have aH:Hid _:=au;have ah:Hid _:=av;have aI:Hid _:=ax;clear au av ax ak aG
   gi_wp2
   go_roundw
   case rel=>
    have aP:=ah.o.size;refine⟨k+1,by omega,by simp,ys++[⟨iT,dx,ji⟩],o2,?_,aH.o,?_,?_⟩
    ·show _=_
     rw[Qn,I.o,<- MV.o]
     show _++[ji]=_
     have h:ji=_:=aC.o;rw[h,ae.o]
    ·refine(lI.o.trans (xD.o _)).trans' ah.o (fun b d h Q=>?_);rcases j.o b Q with Q | Q
     ·exact h Q
     ·omega
    ·intro b d;rcases aI.o b d with h | h | ⟨h,_⟩
     ·rcases j.o b h with h | h
      ·exact .inl h
      ·exact .inr ⟨h.1,by omega⟩
     ·exact .inr ⟨by omega,h.2⟩
     ·have D:=aF.o b h;have L:b<N.heap.size:=Cz.o b h;exact .inr ⟨by omega,by omega⟩
   case measure=>simp[intOf]; omega
  ·obtain rfl:k=a.length:=by omega
   gi_wp2
   go_end0;refine⟨⟨_,rfl⟩,ys,M,?_,ai,(QU aB.o (fun b d _=>d)).trans' lI.o (fun b _ h=>h),fun b d=>?_⟩
   ·show ys.map aa.xs=_
    rw[I.o,Qw,<- B.o,Xv];rfl
   ·rcases j.o b d with h | h
    ·exact .inl h
    ·exact .inr ⟨by have:=T.o; omega,h.2⟩
theorem BH(vi:Value)(k s:aa)(rows:List (List Int))(w:World)(hi:dw ag Tryz.prog vi rows w)(hk:k.At w)(hs:s.At w)(hkl:k.xs.length<=4)(hsl:s.xs.length<=4)(hlen:rows.length<=1000000)(ED:∀ r∈rows,aM k.xs r.length=true)(EE:∀ r∈rows,aM s.xs r.length=true)(hsm:∀ r∈rows,∀ v∈r,dC v) :
  Calls Tryz.prog 81 #[vi,k.val,s.val] w fun e w'=>∃ v,e=.returned v/\nE Tryz.prog 3 v ((fu k.xs s.xs rows).map Gr.row) w'/\Bw w w':=by
 obtain⟨a,b,rfl,y,j⟩:=hi;have g:=bV w (.cells #[.func (.func a) #[] b] 87);have d:=bV (w.alloc (.cells #[.func (.func a) #[] b] 87)) (.cells #[k.val] 22);have f:=bV ((w.alloc (.cells #[.func (.func a) #[] b] 87)).alloc (.cells #[k.val] 22)) (.cells #[s.val] 22);have l:=g.trans (d.mono g.size);have i:=l.trans (f.mono l.size);have m:(((w.alloc (.cells #[.func (.func a) #[] b] 87)).alloc (.cells #[k.val] 22)).alloc (.cells #[s.val] 22)).cell? (aD w.heap.size 0)=some (.func (.func a) #[] b):=cB (d.trans (f.mono d.size)) (Je (lZ w (.cells #[.func (.func a) #[] b] 87)) rfl);have n:(((w.alloc (.cells #[.func (.func a) #[] b] 87)).alloc (.cells #[k.val] 22)).alloc (.cells #[s.val] 22)).cell? (aD (w.heap.size+1) 0)=some k.val:=by
  have h:=lZ (w.alloc (.cells #[.func (.func a) #[] b] 87)) (.cells #[k.val] 22);rw[QY]at h;exact cB f (Je h rfl)
 have p:(((w.alloc (.cells #[.func (.func a) #[] b] 87)).alloc (.cells #[k.val] 22)).alloc (.cells #[s.val] 22)).cell? (aD (w.heap.size+1+1) 0)=some s.val:=by
  have h:=lZ ((w.alloc (.cells #[.func (.func a) #[] b] 87)).alloc (.cells #[k.val] 22)) (.cells #[s.val] 22);rw[QY,QY]at h;exact Je h rfl
 have q:nE Tryz.prog 3 (.func (.func 119) #[] #[.pointer (some (aD w.heap.size 0)),.pointer (some (aD (w.heap.size+1) 0)),.pointer (some (aD (w.heap.size+1+1) 0))]) ((fu k.xs s.xs rows).map Gr.row) (((w.alloc (.cells #[.func (.func a) #[] b] 87)).alloc (.cells #[k.val] 22)).alloc (.cells #[s.val] 22)):=
  ⟨_,_,rfl,Jl Tryz.func119 (by kernel_rfl) rfl,Ub _ w.heap.size (w.heap.size+1) (w.heap.size+1+1) a b k s rows (((w.alloc (.cells #[.func (.func a) #[] b] 87)).alloc (.cells #[k.val] 22)).alloc (.cells #[s.val] 22)) (by simp; omega) (by simp) (by simp) m n p (Qt i hk) (Qt i hs) hkl hsl (Seq.later _ j i) y hlen ED EE hsm (Qs _)⟩
 obtain⟨z,A,B⟩:=k;obtain⟨C,D,E⟩:=s;unfold aa.val at *;simp only at *;have t:Hid _:=q;have u:Hid _:=i;clear q i g d f l m n p j hk hs hkl hsl hlen ED EE hsm;go_enter Tryz.func81,Tryz.ntmps81;go_wp2;go_ret;exact⟨_,rfl,t.o,u.o⟩
theorem LH(vi:Value)(q:ae)(rows:List (List Int))(w:World)(hg:q.group=true)(hi:dw ag Tryz.prog vi rows w)(hk:q.keys.At w)(hs:q.sums.At w)(hkl:q.keys.xs.length<=4)(hsl:q.sums.xs.length<=4)(hlen:rows.length<=1000000)(ED:∀ r∈rows,aM q.keys.xs r.length=true)(EE:∀ r∈rows,aM q.sums.xs r.length=true)(hsm:∀ r∈rows,∀ v∈r,dC v) :
  Calls Tryz.prog 51 #[vi,.agg q.cells] w fun e w'=>∃ v,e=.returned v/\nE Tryz.prog 3 v ((fu q.keys.xs q.sums.xs rows).map Gr.row) w'/\Bw w w':=by
 have d:=bV w (.cells q.cells 26);have f:Bw w (w.alloc (.cells q.cells 26)).drew:=d.drew;have a:=BH vi q.keys q.sums rows (w.alloc (.cells q.cells 26)) (hi.later d) (Qt d hk) (Qt d hs) hkl hsl hlen ED EE hsm;obtain⟨n,p,rfl,_,_⟩:=id hi;clear hi hk hs hkl hsl hlen ED EE hsm;have j:Hid _:=d;clear d f;obtain⟨src,s,t,wh,g,⟨u,y,z⟩,⟨A,B,C⟩,D,l⟩:=q;unfold ae.cells aa.val at *;simp only at *;subst hg;go_enter Tryz.func51,Tryz.ntmps51;go_wp2_with fail;refine a.mono ?_;rintro e E ⟨v,rfl,b,i⟩;have k:Hid _:=b;obtain⟨F,m,rfl,_,_⟩:=id b;clear b a;go_wp2;go_ret;exact⟨_,rfl,k.o,j.o.trans (i.mono (by simp))⟩
end
theorem mM(h:q.check ts=0):fo ts=true/\kS q.src.xs q.oM q.keys.xs q.sums.xs q.aK.xs q.ord.xs=false/\aM q.src.xs ts.length=true/\0<q.src.xs.length/\dN q.oM (ai ts q.src.xs)=true/\sK (ai ts q.src.xs) q.group q.keys.xs q.sums.xs q.aK.xs q.ord.xs=true:=by
 unfold ae.check checkN at h;by_cases b:fo ts=false
 ·rw[Qu b]at h; omega
 ·rw[Qv b]at h;by_cases d:kS q.src.xs q.oM q.keys.xs q.sums.xs q.aK.xs q.ord.xs=true
  ·rw[Qu d]at h; omega
  ·rw[Qv d]at h;by_cases a:aM q.src.xs ts.length=true/\0<q.src.xs.length/\dN q.oM (ai ts q.src.xs)=true/\sK (ai ts q.src.xs) q.group q.keys.xs q.sums.xs q.aK.xs q.ord.xs=true
   ·exact⟨by simpa using b,by simpa using d,a.1,a.2.1,a.2.2.1,a.2.2.2⟩
   ·rw[Qv a]at h; omega
theorem yA{src:List Int}{wh:List (List ak)}{keys sums aK ord:List Int}(h:kS src wh keys sums aK ord=false):src.length<=5/\wh.length<=8/\aK.length<=8/\keys.length<=4/\sums.length<=4/\ord.length<=4:=by
 unfold kS at h;rw[Bool.or_eq_false_iff]at h;have:=of_decide_eq_false h.1;omega
theorem aab{α:Type}{l:List α}{d:α}(hk:k<l.length):l.getD k d∈l:=by
 have e:l.getD k d=l[k]:=by simp[List.getD,hk]
 rw[e];exact Qk hk
theorem zR{n:Int}(h:dN q.oM n=true)(hi:i<q.wh.length)(hk:k<(q.wh.getD i lz).cs.length):df ((q.wh.getD i lz).cs.getD k cz) n=true:=by
 unfold dN ae.oM at h;rw[List.all_map,Qp]at h;have d:q.wh.getD i lz∈q.wh:=by simp[List.getD,hi]
 have a:=h _ d;simp only[Function.comp]at a;unfold iq at a;simp only[Qo]at a;have b:=a.2;rw[Qp]at b;exact b _ (aab hk)
theorem Pj(kc sc:List Int)(rows:List (List Int)):(fu kc sc rows).length<=1+rows.length:=by
 have h:=zM kc sc (rows.map fun r=>(⟨none,0,r⟩:aa)) (eu kc sc);rw[List.foldl_map,ZB]at h;have a:(eu kc sc).length<=1:=by unfold eu; split <;> simp
 have b:(rows.foldl (stepG kc sc) (eu kc sc)).length<=(eu kc sc).length+rows.length:=h;unfold fu;omega
theorem EW(h:tJ ts db=true)(t:Int):∀ r∈eQ db t,∀ v∈r,dC v:=by
 intro r g v j;unfold eQ at g;obtain⟨x,d,rfl⟩:=ZU.1 g;by_cases i:t.toNat<db.length
 ·unfold tJ at h;rw[Qp]at h;have a:=h t.toNat (Xm.2 i);unfold xN Dz at a;rw[Qo,Qp]at a;have b:=a.2 x d;unfold yV at b;rw[Qo,Qp]at b;have f:=b.2 v j;unfold vP at f;simp only[Z4,Qo,QE]at f;unfold dC;omega
 ·have e:db.getD t.toNat rz=rz:=by simp[List.getD,XA (Nat.le_of_not_lt i)]
  rw[e]at d;simp[rz]at d
theorem Pk{L R:List (List Int)}(hL:∀ r∈L,∀ v∈r,dC v)(hR:∀ r∈R,∀ v∈r,dC v):∀ r∈dh L R,∀ v∈r,dC v:=by
 intro r a v e;unfold dh at a;obtain⟨x,b,a⟩:=Xr.1 a;obtain⟨y,d,rfl⟩:=ZU.1 a;rcases Zx.1 e with h | h
 ·exact hL x b v h
 ·exact hR y d v h
theorem BI:∀ (ts:List (List (List Int))) (t:List (List Int)),(∀ r∈t,∀ v∈r,dC v)->(∀ u∈ts,∀ r∈u,∀ v∈r,dC v)->∀ r∈ts.foldl dh t,∀ v∈r,dC v
 | [],_,h,_ => h
 | u::ts,t,h,hs => BI ts (dh t u) (Pk h (hs u (by simp))) (fun x hx => hs x (by simp[hx]))
theorem LY(h:tJ ts db=true)(src:List Int):∀ r∈aW src db,∀ v∈r,dC v:=by
 unfold aW
 cases src with
 | nil => intro r b; simp[nu]at b
 | cons a l =>
  rw[XH];refine BI _ _ (EW h a) (fun u d=>?_);obtain⟨c,_,rfl⟩:=ZU.1 d;exact EW h c
theorem BO:∀ (os:List Obj) (w:World) (i:Nat) (hi:i<os.length),(os.foldl World.alloc w).heap[w.heap.size+i]? = some os[i]
 | [],_,i,hi => by simp at hi
 | o::os,w,0,_ => by
  rw[Z0];have hb:∀ (os:List Obj) (v:World),Bw v (os.foldl World.alloc v):=by
   intro os
   induction os with
   | nil => intro v; exact Qr _ _
   | cons o os ih => intro v; rw[Z0]; exact(bV v o).trans ((ih _).mono (bV v o).size)
  exact((hb os (w.alloc o)).block w.heap.size (by simp)).trans (lZ w o)
 | o::os,w,i+1,hi => by
  rw[Z0];have h:=BO os (w.alloc o) i (by simpa using hi);rw[QY]at h;rw[show w.heap.size+(i+1)=w.heap.size+1+i by omega,h];rfl
theorem Aa:∀ (os:List Obj) (v:World),Bw v (os.foldl World.alloc v):=by
 intro os
 induction os with
 | nil => intro v; exact Qr _ _
 | cons o os ih => intro v; rw[Z0]; exact(bV v o).trans ((ih _).mono (bV v o).size)
def yE(n:Nat):ae:=(⟨⟨some (aD (n+1) 0),1,[0]⟩,none,0,[],true,⟨none,0,[]⟩,⟨some (aD (n+1+1) 0),1,[0]⟩,⟨none,0,[]⟩,⟨none,0,[]⟩⟩:ae)
def CX(n:Nat):List aN:=[(⟨some (aD (n+1+1+1+1+1+1+1+1) 0),4,[⟨some (aD (n+1+1+1+1) 0),1,[4]⟩,⟨some (aD (n+1+1+1+1+1) 0),1,[3]⟩,⟨some (aD (n+1+1+1+1+1+1) 0),1,[3]⟩,⟨some (aD (n+1+1+1+1+1+1+1) 0),1,[1073741824]⟩]⟩:aN)]
def Ab:List af:=[⟨1,10,10,0,0,0⟩]
theorem PS(n:Nat):(yE n).check Ab=0:=rfl
theorem UI(n:Nat):nW Ab (yE n).src.xs (CX n)=true:=rfl
theorem vN{W:World}{b:Nat}{x:Int}{t:TypeId}(h:W.heap[b]? = some (.cells #[.int .i64 x] t))(hl:b<W.heap.size):ag.At ⟨some (aD b 0),1,[x]⟩ W:=by
 refine⟨⟨by simp,fun i d=>⟨b,0,rfl,?_⟩⟩,fun a f=>by cases f; exact hl,fun e=>by cases e⟩
 match i,d with
 | 0,_ => exact Je h rfl
def jR(n:Nat):List Obj:=[(.cells #[.int .i64 1,.int .i64 10,.int .i64 10,.int .i64 0,.int .i64 0,.int .i64 0] 50),(.cells #[.int .i64 0] 3),(.cells #[.int .i64 0] 3),(.cells #[.slice (some (aD (n+1) 0)) 1 1,.slice none 0 0,.bool true,.slice none 0 0,.slice (some (aD (n+1+1) 0)) 1 1,.slice none 0 0,.slice none 0 0] 26),(.cells #[.int .i64 4] 3),(.cells #[.int .i64 3] 3),(.cells #[.int .i64 3] 3),(.cells #[.int .i64 1073741824] 3),(.cells #[.slice (some (aD (n+1+1+1+1) 0)) 1 1,.slice (some (aD (n+1+1+1+1+1) 0)) 1 1,.slice (some (aD (n+1+1+1+1+1+1) 0)) 1 1,.slice (some (aD (n+1+1+1+1+1+1+1) 0)) 1 1] 22),(.cells #[.slice (some (aD (n+1+1+1+1+1+1+1+1) 0)) 4 4] 53)]
theorem adZ(w:World):bu ((jR w.heap.size).foldl World.alloc w) (some (aD w.heap.size 0)) Ab/\(yE w.heap.size).At ((jR w.heap.size).foldl World.alloc w)/\qi ((jR w.heap.size).foldl World.alloc w) (some (aD (w.heap.size+1+1+1+1+1+1+1+1+1) 0)) (CX w.heap.size):=by
 have e:=BO (jR w.heap.size) w;have u:=(Aa (jR w.heap.size) w).size;have f:=e 0 (by simp[jR]);have k:=e 1 (by simp[jR]);have l:=e 2 (by simp[jR]);have m:=e 4 (by simp[jR]);have n:=e 5 (by simp[jR]);have p:=e 6 (by simp[jR]);have q:=e 7 (by simp[jR]);have g:=e 8 (by simp[jR]);have r:=e 9 (by simp[jR]);generalize (jR w.heap.size).foldl World.alloc w=V at *;have lt:∀ {i:Nat} {o:Obj},V.heap[w.heap.size+i]? = some o->w.heap.size+i<V.heap.size:=fun h=>(QO.1 h).1
 have s:=vN k (lt k);have k2:=vN l (lt l);have k4:=vN m (lt m);have k5:=vN n (lt n);have k6:=vN p (lt p);have k7:=vN q (lt q);have j:aX V (some (aD (w.heap.size+8) 0)) [⟨some (aD (w.heap.size+4) 0),1,[4]⟩,⟨some (aD (w.heap.size+5) 0),1,[3]⟩,⟨some (aD (w.heap.size+6) 0),1,[3]⟩,⟨some (aD (w.heap.size+7) 0),1,[1073741824]⟩]:=by
  refine⟨⟨by simp,fun i b=>⟨w.heap.size+8,0,rfl,?_⟩,fun i b=>?_⟩,fun a t=>by cases t; exact lt g,fun i b=>?_⟩
  ·match i,b with
   | 0,_ => exact Je g rfl
   | 1,_ => exact Je g rfl
   | 2,_ => exact Je g rfl
   | 3,_ => exact Je g rfl
  ·match i,b with
   | 0,_ => exact k4.1
   | 1,_ => exact k5.1
   | 2,_ => exact k6.1
   | 3,_ => exact k7.1
  ·match i,b with
   | 0,_ => exact k4
   | 1,_ => exact k5
   | 2,_ => exact k6
   | 3,_ => exact k7
 have d:∀ W:World,aI W none []:=fun W=>⟨by simp,fun i b=>by simp at b⟩
 refine⟨⟨by simp[Ab],fun i b=>⟨w.heap.size,0,rfl,?_⟩⟩,⟨s.1,⟨by simp[yE],fun i b=>by simp[yE]at b,fun i b=>by simp[yE]at b⟩,d V,k2.1,d V,d V⟩,⟨⟨by simp[CX],fun i b=>⟨w.heap.size+9,0,rfl,?_⟩,fun i b=>?_⟩,fun i b=>?_⟩⟩
 ·match i,b with
  | 0,_ => exact⟨Je f rfl,Je f rfl,Je f rfl,Je f rfl,Je f rfl,Je f rfl⟩
 ·match i,b with
  | 0,_ => exact Je r rfl
 ·match i,b with
  | 0,_ => exact j.1
 ·match i,b with
  | 0,_ => exact j
