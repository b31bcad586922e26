import Derived.Test.YtjndadibondgbaaGreatDoorL20
set_option linter.all false
set_option maxRecDepth 100000
set_option maxHeartbeats 16000000
namespace Go.Proofs.Zz
open Go.RowKit Go.Shelf
variable {gs:List gP} {bg i:Nat} {kc sc x:aa} {v:Value} {P:Program} {tg ti tk tp:TypeId} {A w:World} {pre:List aa}
section
open Go.Maps Go.WideMaps
theorem MapAt.mono{P:Program}{tk te:TypeId}{nk bm n m:Nat}{ks:List (List Int)}{A:World}(h:MapAt P tk te nk bm n ks A)(hn:n<=m):MapAt P tk te nk bm m ks A:=by
 obtain⟨D,a,b⟩:=h;exact⟨D,a.mono hn,b⟩
theorem TL{row sc:List Int}(b:Nat):bM bg v (gs.modify i (gP.bump row sc)) b↔bM bg v gs b:=by
 unfold bM;refine or_congr Iff.rfl (or_congr Iff.rfl ⟨?_,?_⟩)
 ·rintro⟨x,e,a⟩;obtain⟨j,d,rfl⟩:=Qx e;rw[Jf]at d;refine⟨gs[j],Qk d,?_⟩;rw[XN]at a;split at a
  ·exact a
  ·exact a
 ·rintro⟨x,e,a⟩;obtain⟨j,d,rfl⟩:=Qx e;refine⟨(gs.modify i (gP.bump row sc))[j]'(by rw[Jf]; exact d),Qk _,?_⟩;rw[XN];split
  ·exact a
  ·exact a
theorem GI.acO{Y W':World}
  (hgr:mH tg ti tp sc.xs.length (w.heap.size+5) (w.heap.size+2) gs Y v) (hmap:MapAt P tk ti kc.xs.length (w.heap.size+3) (pre.length+2) (gs.map (·.k.xs)) Y) (hsum:∀ g∈gs,wS g/\g.cnt<=pre.length)
  (hbk:Y.cell? (aD w.heap.size 0)=some kc.val) (hbs:Y.cell? (aD (w.heap.size+1) 0)=some sc.val) (hbn:Y.cell? (aD (w.heap.size+4) 0)=some (.map (some (w.heap.size+3)))) (hbel:Bw w Y)
  (hi:i<gs.length) (an5:(gs.modify i (gP.bump x.xs sc.xs)).map gP.gr=(pre++[x]).foldl (fun a x=>stepG kc.xs sc.xs a x.xs) (eu kc.xs sc.xs)) (hsm:∀ v∈x.xs,dC v)
  (hg:W'.heap[gs[i].gb]? = some (.cells #[gs[i].k.val,.int .i64 (gs[i].cnt+1:Nat),.slice (some (aD (gs[i].sb) 0)) sc.xs.length sc.xs.length] tg)) (hs:W'.heap[gs[i].sb]? = some (.cells ((jV gs[i].ss x.xs sc.xs).map (Value.int .i64)).toArray ti))
  (hk:Kept (fun b=>b≠gs[i].gb/\b≠gs[i].sb) Y W') :
  GI P tg ti tp tk kc sc w (pre++[x]) (gs.modify i (gP.bump x.xs sc.xs)) (fun b=>bM (w.heap.size+2) v gs b∨b=w.heap.size+3) W' v:=by
 have f:gs[i]∈gs:=Qk hi;have d:∀ b,b<w.heap.size+5->b≠gs[i].gb/\b≠gs[i].sb:=fun b q=>by
  have l:=(hgr.off _ f gs[i].gb (.inl rfl)).1;have o:=(hgr.off _ f gs[i].sb (.inr (.inl rfl))).1;omega
 have p:(jV gs[i].ss x.xs sc.xs).length=sc.xs.length:=kJ (hgr.at' _ f).len;refine⟨an5,hgr.bump hi x.xs sc.xs p hg hs hk,?_,?_,Zj hbk hk (d _ (by show w.heap.size<_; omega)),Zj hbs hk (d _ (by show w.heap.size+1<_; omega)),Zj hbn hk (d _ (by show w.heap.size+4<_; omega)),hbel.trans (hk.below hbel.size (fun b q=>d b (by omega))),fun b=>?_⟩
 ·have e:(gs.modify i (gP.bump x.xs sc.xs)).map (·.k.xs)=gs.map (·.k.xs):=by
   apply XK (by simp);intro j l o;rw[XM,XM,XN];split <;> rfl
  rw[e,ZC,ZX];exact hmap.keep (hk.block _ hmap.lt (d _ (by omega)))
 ·intro g m;obtain⟨j,n,rfl⟩:=Qx m;rw[Jf]at n;rw[XN,ZC,ZX];have l:=hsum _ (Qk n);split
  ·exact⟨Tp l.1 hsm,by show gs[j].cnt+1<=_; omega⟩
  ·exact⟨l.1,by omega⟩
 ·show _↔_
  rw[TL]
theorem zM(kc sc:List Int):∀ (pre:List aa) (a:List Gr),(pre.foldl (fun a x=>stepG kc sc a x.xs) a).length<=a.length+pre.length
 | [],a => by simp
 | x::l,a => by
  rw[Z0];have h:=zM kc sc l (stepG kc sc a x.xs);have h1:(stepG kc sc a x.xs).length<=a.length+1:=by
   unfold stepG;split
   ·rw[Jf]; omega
   ·simp
  rw[Q7];omega
theorem GI.len{o1:Nat->Prop}(h:GI P tg ti tp tk kc sc w pre gs o1 A v):gs.length<=pre.length+1:=by
 have a:=congrArg List.length h.fold;rw[ZB]at a;have b:=zM kc.xs sc.xs pre (eu kc.xs sc.xs);have d:(eu kc.xs sc.xs).length<=1:=by unfold eu; split <;> simp
 omega
theorem an6{n base:Nat}(h:mH tg ti tp n base bg gs A v)(hx:∀ b,ag.blk x=some b->¬ bM bg v gs b)(hi:i<gs.length):∀ a,x.ad=some a->a.block≠gs[i].gb/\a.block≠gs[i].sb:=by
 intro a f;have d:ag.blk x=some a.block:=by show x.ad.map _=_; rw[f]; rfl
 exact⟨fun e=>hx _ d (.inr (.inr ⟨gs[i],Qk hi,.inl e⟩)),fun e=>hx _ d (.inr (.inr ⟨gs[i],Qk hi,.inr (.inl e)⟩))⟩
theorem JB(w Y:World)(gs:List gP)(v:Value)(sc x:aa)(hgr:mH 177 3 169 sc.xs.length (w.heap.size+5) (w.heap.size+2) gs Y v)(hbel:Bw w Y)(hsc:sc.At w)(hsl:sc.xs.length<=4)(hx:ag.At x Y)(hxo:∀ b,ag.blk x=some b->¬ bM (w.heap.size+2) v gs b)
  (hsum:∀ g∈gs,wS g/\g.cnt<=1000000) (hsm:∀ v∈x.xs,dC v) (hin:aM sc.xs x.xs.length=true) (hi:i<gs.length) :
  Calls Tryz.prog 132 #[.pointer (some (aD (gs[i].gb) 0)),x.val,sc.val] Y.drew fun e w'=>(∃ u,e=.returned u)/\
   w'.heap[gs[i].gb]? = some (.cells #[gs[i].k.val,.int .i64 (gs[i].cnt+1:Nat),.slice (some (aD (gs[i].sb) 0)) sc.xs.length sc.xs.length] 177)/\w'.heap[gs[i].sb]? = some (.cells ((jV gs[i].ss x.xs sc.xs).map (Value.int .i64)).toArray 3)/\
   Kept (fun b=>b≠gs[i].gb/\b≠gs[i].sb) Y w'/\w'.heap.size=Y.heap.size:=by
 have d:gs[i]∈gs:=Qk hi;have f:=hgr.at' _ d;have j:sc.At Y:=Qt hbel hsc;have l:∀ s,Kept s Y Y.drew:=fun s=>⟨rfl,rfl,rfl,Qs _,fun _ _ _=>rfl⟩
 have h:=KJ gs[i].gb gs[i].sb gs[i].k.val gs[i].cnt gs[i].ss x sc Y.drew f.ne f.cells f.sums f.len hsl hx.1 j (an6 hgr hxo hi) (fun q a r=>by
  obtain⟨b,off,e,y⟩:=hsc.get q;rw[e]at r
  cases r
  have m:=Q3 (y 0 q);have n:=(hgr.off _ d gs[i].gb (.inl rfl)).1;have o:=(hgr.off _ d gs[i].sb (.inr (.inl rfl))).1;have p:b<w.heap.size:=m;exact⟨fun e=>by have t:b=gs[i].gb:=e; omega,fun e=>by have t:b=gs[i].sb:=e; omega⟩) hin (hsum _ d).2 (Yd (hsum _ d).1 (hsum _ d).2) (fun u C=>by have:=hsm u C; unfold dC at this; unfold Tj; omega)
 refine h.mono ?_;rintro e w' ⟨n,o,z,A,B⟩;exact⟨n,o,z,(l _).trans A,B⟩
end
section
open Go.Maps Go.WideMaps
attribute [local go_sem] Oper.semAt_some
theorem AV(gi:Nat)(jB:Array Value)(kc sc:aa)(rows:List (List Int))(w0 w:World)(hb0:Bw w0 w)(hseq:Seq ag Tryz.prog gi jB rows w0)(FO:∀ args w,(callFunc gi args).run Tryz.prog w=.ok (.enter gi args) w)
  (hkc:kc.At w) (hsc:sc.At w) (hkl:kc.xs.length<=4) (hsl:sc.xs.length<=4) (hlen:rows.length<=1000000) (ED:∀ r∈rows,aM kc.xs r.length=true) (EE:∀ r∈rows,aM sc.xs r.length=true) (hsm:∀ r∈rows,∀ v∈r,dC v) :
  Calls Tryz.prog 120 #[.func (.func gi) #[] jB,kc.val,sc.val] w fun e w'=>∃ v p,e=.returned v/\p.map gP.gr=fu kc.xs sc.xs rows/\mH 177 3 169 sc.xs.length (w.heap.size+5) (w.heap.size+2) p w' v/\Bw w w':=by
 obtain⟨f1,f2,f3,f4,f5,f6,f7⟩:=Tt w kc.val sc.val sc.xs.length kc.xs.length;obtain⟨V,hV⟩:=eX (wW w kc.val sc.val)
 rw[hV]at f1 f2 f3 f4 f5 f6 f7;unfold wW at hV;have HV:Hid _:=hV;have aZ:Hid _:=hb0;have dN:Hid _:=hkc;have bT:Hid _:=hsc;have dO:Hid _:=hkl;have Ev:Hid _:=hsl;have bU:Hid _:=hlen;have dP:Hid _:=ED;have bW:Hid _:=EE;have aB:Hid _:=hsm;clear hV hb0 hkc hsc hkl hlen ED EE hsm;obtain⟨jM,dL,J⟩:=kc;obtain⟨lQ,fA,z⟩:=sc;unfold aa.val at *;simp only at *;refine(QZ (n:=0)).1 (Zk Tryz.func120 rfl trivial ?_ rfl);simp only[Tryz.ntmps120,Q6,Q7,Q8,Nat.reduceAdd,Nat.reduceSub,Q9,Za,Zb,Zc,Zd,Ze];have dQ:=@run_makeMap Tryz.prog
 gi_upto_region 3 with fail
 rw[HV.o];simp only[Nat.add_assoc,Nat.reduceAdd];by_cases aN:J=[]
 case' pos=>
  have bf:Hid (J.length=0):=by show _=_; rw[aN]; rfl
  have aO:((J.length:Int)==0)=true:=by have:=bf.o; simp; omega
  have yu:Hid _:=aN;clear aN;have F2:Hid _:=f2;have F6:Hid _:=f6;have F7:Hid _:=f7;obtain⟨v0,aT⟩:∃ v0:Value,.slice none 0 0=v0:=⟨_,rfl⟩
  have bX:v0.ownBlock=none:=by rw[<- aT]; rfl
  have fG:Hid _:=aT;rw[aT]at f1;have dR:=f1.box;have F1:Hid _:=f1;clear aT;have ai:Calls Tryz.prog 130 #[.slice none 0 0,.int .i64 z.length] V.drew fun e w'=>e=.returned (.pointer (some (aD (V.heap.size+2) 0)))/\
   w'.heap[V.heap.size+2]? = some (.cells #[.slice none 0 0,.int .i64 0,.slice (some (aD (V.heap.size+1) 0)) z.length z.length] 177)/\
   w'.heap[V.heap.size+1]? = some (.cells (List.replicate z.length (Value.int .i64 1073741824)).toArray 3)/\Below V.heap.size V.drew w'/\w'.heap.size=V.heap.size+3:=zw ⟨none,0,[]⟩ z.length V.drew Ev.o
  have OU:Hid (∀ E:World,E.heap[V.heap.size+2]? = some (.cells #[.slice none 0 0,.int .i64 0,.slice (some (aD (V.heap.size+1) 0)) z.length z.length] 177)->E.heap[V.heap.size+1]? = some (.cells (List.replicate z.length (Value.int .i64 1073741824)).toArray 3)->Below V.heap.size V.drew E->E.heap.size=V.heap.size+3->
   ∃ F L,(Builtin.append_ #[167,167] 167 #[v0,.slice (some (aD E.heap.size 0)) 1 1]).run Tryz.prog (E.alloc (.cells #[.pointer (some (aD (V.heap.size+2) 0))] 169))=.ok F L/\
    L.cell? (aD (w.heap.size+2) 0)=some v0/\L.frozen? (aD (w.heap.size+2) 0)=false/\(∃ a m c,F = .slice a m c)/\
    ∃ (v:Value) (g:gP),mH 177 3 169 z.length (w.heap.size+5) (w.heap.size+2) [g] (L.setCell (aD (w.heap.size+2) 0) F) v/\g.gr=oV [] z.length/\wS g/\Kept (fun b=>b≠w.heap.size+2) V (L.setCell (aD (w.heap.size+2) 0) F)/\∀ b,bM (w.heap.size+2) v [g] b->b=w.heap.size+2∨(w.heap.size+5<=b/\b<(L.setCell (aD (w.heap.size+2) 0) F).heap.size)):=by
   intro E p2 p1 pb ps;have aC:Kept (fun _=>True) V V.drew:=⟨rfl,rfl,rfl,Qs _,fun _ _ _=>rfl⟩
   have dS:V.heap.size=w.heap.size+5:=F7.o;obtain⟨F,L,hr,hc,hf,bK,P,hk,ho⟩:=Eh V.drew E z.length (w.heap.size+5) (w.heap.size+2) [] v0 (F1.o.keep aC (fun _ _=>trivial)) (by show _<=V.heap.size; omega) (by simp) ⟨none,0,[]⟩ ⟨⟨by simp,fun i hi=>by simp at hi⟩,fun a ha=>(by cases ha),fun _=>rfl⟩ (fun b q=>by cases q) p2 p1 pb ps;refine⟨F,L,hr,hc,hf,bK,F,_,P,rfl,IU _ _ _ _,(aC.mono fun _ _ _=>trivial).trans (hk.mono fun b _ h=>⟨h,fun e=>by rw[bX]at e; cases e⟩),fun b q=>?_⟩;rcases ho b q with (h | h | ⟨_,h,_⟩) | h | h
   ·exact .inl h
   ·rw[bX]at h; cases h
   ·simp at h
   ·cases h
   ·exact .inr ⟨by have:=h.1; have e:V.drew.heap.size=V.heap.size:=rfl; omega,h.2⟩
  have Gc:Tryz.prog.follows .mixedOrders=true:=by kernel_rfl
  clear f1 f2 f6 f7
  gi_upto_region 4 with fail
  gi_cut [] from 15 (fun M=>∃ (v:Value) (g:gP),mH 177 3 169 z.length (w.heap.size+5) (w.heap.size+2) [g] M v/\g.gr=oV [] z.length/\wS g/\Kept (fun b=>b≠w.heap.size+2) V M/\∀ b,bM (w.heap.size+2) v [g] b->b=w.heap.size+2∨(w.heap.size+5<=b/\b<M.heap.size))
  case first=>
   refine wpIn_wide.2 (wp_region_noPanic ?_);go_region_law
    ((first
     | (refine Jc (by rfl) _ _ _ (by rfl) v0 (.slice (some (aD E.heap.size 0)) 1 1) (.slice U X Y) L (by rfl) (by rfl) pW ?_)
     | (go_simp; go_at_call 130; refine ai.mono ?_; rintro e E ⟨rfl,p2,p1,pb,ps⟩; obtain⟨v5,L,pW,bL,bN,⟨U,X,Y,rfl⟩,C⟩:=OU.o E p2 p1 pb ps; have aj:=Zj (A:=V.drew) dR (QU (s:=fun _ => True) pb (fun b q _ => q)) trivial; have bg:=Zj aj (QX (s:=fun _ => True) E (.cells #[.pointer (some (aD (V.heap.size+2) 0))] 169)) trivial; clear p2 p1 pb ps)))
   all_goals
    refine NoPanic.normal ?_
    gi_wp2_with fail
    gi_meet
    exact C
  case' rest=>
   obtain⟨v,g,P,dz,dA,aU,dB⟩:=hcut;obtain⟨kl,hkl⟩:=Eg (xs:=[]) Tryz.Tq Tryz.underlying3 Tryz.IW (fun x hx=>by simp at hx);have bY:keyOf Tryz.prog 192 (.agg #[.int .i64 0,.int .i64 0,.int .i64 0,.int .i64 0])=some kl:=hkl;have hM:=MapAt.keep F2.o (aU.block _ (MapAt.lt F2.o) (by omega));obtain⟨D,aI,dD⟩:=hM;have bZ:=Zj f5 aU (by show w.heap.size+4≠_; omega);have R:Hid _:=P;have I:Hid _:=dz;have dU:Hid _:=dA;have Mv:Hid _:=aU;have fI:Hid _:=dB;have dV:Hid _:=dD;clear P dz dA aU dB dD f5 ai
   gi_upto_region 6 with (first | (gi_at_mapUpdate; refine wpListIn_mapUpdate_own _ rfl _ _ _ 191 rfl 192 3 Tryz.uE Tryz.underlying191 _ (w.heap.size+3) 0 D rfl aI (by unfold maxLen; omega) _ _ kl rfl rfl bY (.lit (.int .i64 0)) [] (plainElem_int Tryz.underlying3 rfl) ?_; intro w6 aL dK))
   have bq:Hid (GI Tryz.prog 177 3 169 192 ⟨jM,dL,J⟩ ⟨lQ,fA,z⟩ w [] [g] (fun b=>bM (w.heap.size+2) v [g] b∨b=w.heap.size+3) w6 v):=by
    have jY:Kept (fun b=>b≠w.heap.size+3) wc w6:=Zo dK (fun r e hr=>by cases e; exact hr rfl);have dW:g.k.xs=[]:=congrArg Gr.key I.o;have dS:V.heap.size=w.heap.size+5:=F7.o;have fJ:V.heap.size<=wc.heap.size:=Mv.o.size;refine⟨?_,R.o.keep jY (fun b q e=>?_),?_,fun x hx=>?_,?_,?_,?_,?_,fun b=>Iff.rfl⟩
    ·show [g.gr]=eu J z
     rw[I.o];unfold eu;rw[Qu yu.o]
    ·rcases qg R.o q with h | h <;> omega
    ·have:=MapAt.put (k:=[]) Tryz.uE dV.o aI.isMap (by have:=bf.o; omega) bf.o.symm hkl rfl aL
     show MapAt _ _ _ _ _ 1 [g.k.xs] _
     rw[dW];exact this
    ·rw[Zw]at hx;rw[hx];exact⟨dU.o,by have h:=congrArg Gr.cnt I.o; have h':g.cnt=0:=h; omega⟩
    ·exact Zj (Zj f3 Mv.o (by show w.heap.size≠_; omega)) jY (by show w.heap.size≠_; omega)
    ·exact Zj (Zj f4 Mv.o (by show w.heap.size+1≠_; omega)) jY (by show w.heap.size+1≠_; omega)
    ·exact Zj bZ jY (by show w.heap.size+4≠_; omega)
    ·exact(F6.o.trans (Mv.o.below (by omega) (fun b q=>by omega))).trans (jY.below (by have:=F6.o.size; omega) (fun b q=>by omega))
   clear aL dK aI bZ;go_frame
   gi_cut [26] from 15 (fun f M=>f=.func (.func gi) #[] jB/\∃ p v,GI Tryz.prog 177 3 169 192 ⟨jM,dL,J⟩ ⟨lQ,fA,z⟩ w [] p (fun b=>bM (w.heap.size+2) v p b∨b=w.heap.size+3) M v)
   case first=>
    gi_wp2_with fail
    gi_meet
    exact⟨rfl,[g],v,bq.o⟩
 case' neg=>
  have fF:0<J.length:=List.length_pos_iff.2 aN;have aO:((J.length:Int)==0)=false:=by simp; omega
  have F1:Hid _:=f1;have F2:Hid _:=f2;have F6:Hid _:=f6;have F7:Hid _:=f7;clear f1 f2 f6 f7
  gi_upto_region 6 with fail
  have bq:Hid (GI Tryz.prog 177 3 169 192 ⟨jM,dL,J⟩ ⟨lQ,fA,z⟩ w [] [] (fun b=>bM (w.heap.size+2) (.slice none 0 0) [] b∨b=w.heap.size+3) V (.slice none 0 0)):=by
   refine⟨?_,F1.o,?_,fun x hx=>by simp at hx,f3,f4,f5,F6.o,fun b=>Iff.rfl⟩
   ·show []=eu J z
    unfold eu;rw[Qv aN]
   ·obtain⟨D,h1,h2⟩:=F2.o;exact⟨D,h1.mono (Zf _),h2⟩
  gi_cut [26] from 15 (fun f M=>f=.func (.func gi) #[] jB/\∃ p v,GI Tryz.prog 177 3 169 192 ⟨jM,dL,J⟩ ⟨lQ,fA,z⟩ w [] p (fun b=>bM (w.heap.size+2) v p b∨b=w.heap.size+3) M v)
  case first=>
   gi_wp2_with fail
   gi_meet
   exact⟨rfl,[],_,bq.o⟩
 all_goals
  obtain⟨rfl,fB,v0,bO⟩:=hcut;have aW:w.heap.size+5<=wc.heap.size:=by have:=Q3 bO.bn; have h:w.heap.size+4<wc.heap.size:=this; omega
  have aF:Hid _:=bO;have OV:Hid _:=aW;clear bO aW f3 f4 dQ aO
  gi_wp2_with fail
  refine mo ag (gf:=gi) (lb:=jB) rfl FO hseq (aZ.o.trans (aF.o.below.mono aZ.o.size)) rfl
   (fun Q o1 W=>∃ p v,GI Tryz.prog 177 3 169 192 ⟨jM,dL,J⟩ ⟨lQ,fA,z⟩ w Q p o1 W v)
   (fun b=>bM (w.heap.size+2) v0 fB b∨b=w.heap.size+3) ?_ ?_ ⟨_,_,aF.o⟩
   (fun x=>{ tmps:=#[.func (.func gi) #[] jB,.slice jM J.length dL,.slice lQ z.length fA,undef,.pointer (some (aD w.heap.size 0)),.pointer (some (aD (w.heap.size+1) 0)),.slice none 0 0,.pointer (some (aD (w.heap.size+2) 0)),.pointer (some (aD (w.heap.size+4) 0)),x.val,undef,undef,undef,undef,.map (some (w.heap.size+3)),u15,u16,u17,u18,u19,u20,u21,u22,u23,u24,u25,.func (.func gi) #[] jB,x.val,u28,u29,u30,u31,u32,u33,u34,u35,u36,u37,u38,u39,u40,u41,u42,u43,u44,u45,u46,u47,u48,u49,u50,u51,u52,u53,u54,u55,u56,u57,u58,u59,u60,u61],defers:=[] }) ?assign ?body ?done
  ·intro b q;have h0:=aZ.o.size;have h5:=OV.o;rcases q with q | q
   ·refine⟨?_,aF.o.tT.lt q⟩;rcases qg aF.o.tT q with h | h <;> omega
   ·omega
  ·rintro Q o1 A B ⟨p,v,h⟩ hk;exact⟨p,v,h.keep hk (fun b q=>q.imp id (fun q=>by have:=OV.o; omega))⟩
  case assign=>
   intro l x W K d
   gi_wp2
   exact d
  case body=>
   rintro l Q x o1 W ⟨p,v,P⟩ ay hx aY dE;have aP:x.xs∈rows:=kC ay;have fK:Q.length+1<=1000000:=by
    have:=ay.length_le;rw[ZB,ZC]at this;exact QS this bU.o
   have dX:=dO.o;have az:=ND x ⟨jM,dL,J⟩ W hx.1 (Qt P.below dN.o) (dP.o _ aP) (by show J.length<=_; omega);have aG:(au x.xs J).length=J.length:=by simp[au]
   have bu:=Ob (cols:=J) (aB.o _ aP);have dY:Hid (au x.xs J=au x.xs J):=rfl;obtain⟨vals,bP⟩:=eX (au x.xs J)
   have bz:Hid _:=bP;simp only at az;rw[bP]at az aG bu;clear bP dY;have cu:=acm W vals (by omega);obtain⟨W2,bQ⟩:∃ W2,(W.alloc (.cells (vals.map (Value.int .i64)).toArray 3)).alloc (.cells #[.int .i64 (vals.getD 0 0),.int .i64 (vals.getD 1 0),.int .i64 (vals.getD 2 0),.int .i64 (vals.getD 3 0)] 192)=W2:=⟨_,rfl⟩
   rw[bQ]at cu;have bA:=bV W (.cells (vals.map (Value.int .i64)).toArray 3);have xV:=bV (W.alloc (.cells (vals.map (Value.int .i64)).toArray 3)) (.cells #[.int .i64 (vals.getD 0 0),.int .i64 (vals.getD 1 0),.int .i64 (vals.getD 2 0),.int .i64 (vals.getD 3 0)] 192);have ak:=bA.trans (xV.mono bA.size);have av:=lZ (W.alloc (.cells (vals.map (Value.int .i64)).toArray 3)) (.cells #[.int .i64 (vals.getD 0 0),.int .i64 (vals.getD 1 0),.int .i64 (vals.getD 2 0),.int .i64 (vals.getD 3 0)] 192);have bB:=(xV.block W.heap.size (by simp)).trans (lZ W (.cells (vals.map (Value.int .i64)).toArray 3));have bC:((W.alloc (.cells (vals.map (Value.int .i64)).toArray 3)).alloc (.cells #[.int .i64 (vals.getD 0 0),.int .i64 (vals.getD 1 0),.int .i64 (vals.getD 2 0),.int .i64 (vals.getD 3 0)] 192)).heap.size=W.heap.size+2:=by simp
   rw[QY]at av;rw[bQ]at ak av bB bC;clear bQ bA xV;have dZ:=P.bk;have ed:=cB ak P.bn;have ek:=cB ak P.bs;have cz:=cB ak P.tT.box;have aQ:GI Tryz.prog 177 3 169 192 ⟨jM,dL,J⟩ ⟨lQ,fA,z⟩ w Q p (fun b=>bM (w.heap.size+2) v p b∨b=w.heap.size+3) W2 v:=by
    have h:=P.keep (s:=fun b=>b<W.heap.size) (QU ak (fun b _ h=>h)) (fun b q=>by
     rcases q with q | q
     ·rcases (P.iff b).1 q with h | h
      ·exact P.tT.lt h
      ·rw[h]; exact P.map.lt
     ·have:=OV.o; omega)
    exact⟨h.fold,h.tT,h.map,h.sums,h.bk,h.bs,h.bn,h.below,fun b=>Iff.rfl⟩
   obtain⟨bR,aJ⟩:=Tu W2 J.length (w.heap.size+3) (Q.length+1) (p.map (·.k.xs)) aQ.map vals aG dX (by omega) (by rw[ZB]; have:=aQ.len; omega) bu;unfold om aiN at bR aJ;have q0:W2.cell? (aD (W.heap.size+1) 0)=some (.int .i64 (vals.getD 0 0)):=Je av rfl;have q1:W2.cell? (aD (W.heap.size+1) 1)=some (.int .i64 (vals.getD 1 0)):=Je av rfl;have q2:W2.cell? (aD (W.heap.size+1) 2)=some (.int .i64 (vals.getD 2 0)):=Je av rfl;have q3:W2.cell? (aD (W.heap.size+1) 3)=some (.int .i64 (vals.getD 3 0)):=Je av rfl;have eB:Hid _:=bB;have aH:Hid _:=ak;have eD:Hid _:=bC;have R:Hid _:=P;have I:Hid _:=aQ;have HX:Hid _:=hx;have YL:Hid _:=aY;have FY:Hid _:=dE;have aA:Hid _:=aP;have eF:Hid _:=aG;have fM:Hid _:=ay;have eG:Hid _:=bR;have eH:Hid _:=aJ;clear bB av ak bC P aQ hx aY dE aP ay bR aJ bu;generalize vals.getD 0 0=p0 at *;generalize vals.getD 1 0=p1 at *;generalize vals.getD 2 0=p2 at *;generalize vals.getD 3 0=p3 at *;rw[<- aG]at az;clear aG
   cases hf:jr (p.map (·.k.xs)) vals with
   | some i =>
    have cK:=eG.o i hf;obtain⟨dF,fC⟩:=acn hf;have hi:i<p.length:=by simpa using dF
    obtain⟨gr,TM,hv,aK⟩:=nD I.o.tT.own hi;have cZ:W2.cell? (aD gr i)=some (.pointer (some (aD (p[i].gb) 0))):=by rw[aK,ZR,ZT hi]; rfl
    have aR:∀ b,ag.blk x=some b->¬ bM (w.heap.size+2) v p b:=fun b q h=>(YL.o b q).1 ((R.o.iff b).2 (.inl h))
    have df:ag.At x W2:=ag.keep HX.o aH.o.size (fun b q _=>aH.o.block b q);have G:=JB w W2 p v ⟨lQ,fA,z⟩ x I.o.tT I.o.below bT.o Ev.o df aR (fun g hg=>⟨(I.o.sums g hg).1,by have:=(I.o.sums g hg).2; omega⟩) (aB.o _ aA.o) (bW.o _ aA.o) hi;have pq:Hid (∀ N:World,N.heap[p[i].gb]? = some (.cells #[p[i].k.val,.int .i64 (p[i].cnt+1:Nat),.slice (some (aD (p[i].sb) 0)) z.length z.length] 177)->N.heap[p[i].sb]? = some (.cells ((jV p[i].ss x.xs z).map (Value.int .i64)).toArray 3)->Kept (fun b=>b≠p[i].gb/\b≠p[i].sb) W2 N->N.heap.size=W2.heap.size->
      ∃ o2,(∃ bS F,GI Tryz.prog 177 3 169 192 ⟨jM,dL,J⟩ ⟨lQ,fA,z⟩ w (Q++[x]) bS o2 N F)/\Kept (fun b=>¬ o1 b) W N/\∀ b,o2 b->o1 b∨(W.heap.size<=b/\b<N.heap.size)∨(ag.blk x=some b/\wc.heap.size<=b)):=by
     intro N r1 r2 r3 r4;have aX:p[i]∈p:=Qk hi;refine⟨_,⟨_,_,GI.acO (x:=x) I.o.tT (I.o.map.mono (by omega)) I.o.sums I.o.bk I.o.bs I.o.bn I.o.below hi (aco I.o.fold (by rw[bz.o]; exact hf)) (aB.o _ aA.o) r1 r2 r3⟩,?_,fun b q=>.inl ((R.o.iff b).2 q)⟩;refine(QU (s:=fun b=>¬ o1 b) aH.o (fun b q _=>q)).trans (r3.mono fun b _ h=>⟨fun e=>h ((R.o.iff b).2 (.inl (.inr (.inr ⟨_,aX,.inl e⟩)))),fun e=>h ((R.o.iff b).2 (.inl (.inr (.inr ⟨_,aX,.inr (.inl e)⟩))))⟩)
    have HF:Hid _:=hf;have HI:Hid _:=hi;have fO:Hid _:=cZ;rw[hv]at cz;clear hf dF fC aK aR df hv;obtain⟨jD,cO,gK⟩:=x;unfold aa.val at *;simp only at *
    gi_wp2_with (refine⟨trivial,rfl,Zl l (QZ.2 (az.mono ?_))⟩; rintro e E ⟨rfl,rfl⟩)
    have Gc:Tryz.prog.follows .mixedOrders=true:=by kernel_rfl
    refine wpIn_region_any Gc (kL (jG (by kernel_rfl)) _ _ _ _ ?_);change wpAnyIn _ _ _ _ _ _ _ _ _ (World.drew _);refine Jp (i:=1) (v:=.int .i64 (i:Int)) rfl rfl (by kernel_rfl) (by kernel_rfl) (by kernel_rfl) (fun _ _ _ h=>h) ⟨XG ⟨by rfl,fun w=>by go_simp⟩,fun _=>rfl⟩ ?_;refine Jp (i:=4) (v:=.slice jD gK.length cO) rfl rfl (by kernel_rfl) (by kernel_rfl) (by kernel_rfl) (fun _ _ _ h=>h) ⟨XG ⟨by rfl,fun w=>by go_simp⟩,fun _=>rfl⟩ ?_;refine Jq (rs:=[0,5]) (by kernel_rfl) (by simp) ?_;refine Jr rfl (fun K d=>?_) ?_
    ·go_simp;refine d _ _ ?_;clear d K;refine Jp (i:=2) (v:=.pointer (some (aD gr i))) rfl rfl (by kernel_rfl) (by kernel_rfl) (by kernel_rfl) (fun _ _ _ h=>h) ⟨XG ⟨by rfl,fun w=>by go_simp⟩,fun _=>rfl⟩ ?_;refine Jq (rs:=[3,5]) (by kernel_rfl) (by simp) ?_;refine Jr rfl (fun K d=>?_) ?_
     ·go_simp;refine d _ _ ?_;clear d K;refine Jq (rs:=[5]) (by kernel_rfl) (by simp) ?_;refine Jr rfl (fun K d=>?_) Js;go_simp;refine d _ _ ?_;clear d K;refine Jq (rs:=[6]) (by kernel_rfl) (by simp) ?_;refine Jr rfl (fun K d=>?_) Js;go_simp;refine⟨trivial,rfl,QZ.2 (G.mono ?_)⟩;rintro e N ⟨⟨u7,rfl⟩,r1,r2,r3,r4⟩;refine d _ _ ?_;clear d K;refine Jt (by kernel_rfl) ?_ _;exact pq.o N r1 r2 r3 r4
     refine Jr rfl (fun K d=>?_) Js;go_simp;refine d _ _ ?_;clear d K;refine Jq (rs:=[3]) (by kernel_rfl) (by simp) ?_;refine Jr rfl (fun K d=>?_) Js;go_simp;refine d _ _ ?_;clear d K;refine Jq (rs:=[6]) (by kernel_rfl) (by simp) ?_;refine Jr rfl (fun K d=>?_) Js;go_simp;refine⟨trivial,rfl,QZ.2 (G.mono ?_)⟩;rintro e N ⟨⟨u7,rfl⟩,r1,r2,r3,r4⟩;refine d _ _ ?_;clear d K;refine Jt (by kernel_rfl) ?_ _;exact pq.o N r1 r2 r3 r4
    refine Jr rfl (fun K d=>?_) Js;go_simp;refine d _ _ ?_;clear d K;refine Jq (rs:=[0]) (by kernel_rfl) (by simp) ?_;refine Jr rfl (fun K d=>?_) Js;go_simp;refine d _ _ ?_;clear d K;refine Jp (i:=2) (v:=.pointer (some (aD gr i))) rfl rfl (by kernel_rfl) (by kernel_rfl) (by kernel_rfl) (fun _ _ _ h=>h) ⟨XG ⟨by rfl,fun w=>by go_simp⟩,fun _=>rfl⟩ ?_;refine Jq (rs:=[3]) (by kernel_rfl) (by simp) ?_;refine Jr rfl (fun K d=>?_) Js;go_simp;refine d _ _ ?_;clear d K;refine Jq (rs:=[6]) (by kernel_rfl) (by simp) ?_;refine Jr rfl (fun K d=>?_) Js;go_simp;refine⟨trivial,rfl,QZ.2 (G.mono ?_)⟩;rintro e N ⟨⟨u7,rfl⟩,r1,r2,r3,r4⟩;refine d _ _ ?_;clear d K;refine Jt (by kernel_rfl) ?_ _;exact pq.o N r1 r2 r3 r4
   | none =>
    obtain⟨cK,y,dG,sM,dH⟩:=eH.o hf;obtain⟨Z,oU,rfl⟩:=iL I.o.tT.own;rw[ZB]at dG;have S:Kept (fun b=>b≠w.heap.size+3) W2 y:=Zo dH (fun r e hr=>by cases e; exact hr rfl);have bD:=S.size;have dh:∀ b,bM (w.heap.size+2) (.slice Z p.length oU) p b->b≠w.heap.size+3:=fun b q=>by
     rcases qg I.o.tT q with h | h <;> omega
    have Vu:=I.o.tT.keep S dh;have TN:=Vu.box;have bE:=Zj I.o.bs S (by show w.heap.size+1≠_; omega);have bF:=Zj I.o.bk S (by show w.heap.size≠_; omega);have bG:=Zj I.o.bn S (by show w.heap.size+4≠_; omega);have eO:=eD.o;have di:w.heap.size+5<=W.heap.size:=by have:=OV.o; have:=FY.o; omega
    have dm:y.heap[W.heap.size]? = some (.cells (vals.map (Value.int .i64)).toArray 3):=(S.block _ (by omega) (by omega)).trans eB.o;have dn:ag.At ⟨some (aD W.heap.size 0),vals.length,vals⟩ y:=by
     refine⟨⟨by show vals.length<=_; have:=eF.o; omega,fun j hj=>⟨W.heap.size,0,rfl,?_⟩⟩,fun a ha=>by cases ha; show W.heap.size<_; omega,fun e=>by cases e⟩;have eP:j<vals.length:=hj;rw[QJ];exact Je dm (by simp[List.getD,eP])
    have hlen:=I.o.len;have ai:Calls Tryz.prog 130 #[.slice (some (aD W.heap.size 0)) vals.length vals.length,.int .i64 z.length] y.drew fun e w'=>e=.returned (.pointer (some (aD (y.heap.size+2) 0)))/\
     w'.heap[y.heap.size+2]? = some (.cells #[.slice (some (aD W.heap.size 0)) vals.length vals.length,.int .i64 0,.slice (some (aD (y.heap.size+1) 0)) z.length z.length] 177)/\
     w'.heap[y.heap.size+1]? = some (.cells (List.replicate z.length (Value.int .i64 1073741824)).toArray 3)/\Below y.heap.size y.drew w'/\w'.heap.size=y.heap.size+3:=zw ⟨some (aD W.heap.size 0),vals.length,vals⟩ z.length y.drew Ev.o
    have OU:Hid (∀ E:World,E.heap[y.heap.size+2]? = some (.cells #[.slice (some (aD W.heap.size 0)) vals.length vals.length,.int .i64 0,.slice (some (aD (y.heap.size+1) 0)) z.length z.length] 177)->E.heap[y.heap.size+1]? = some (.cells (List.replicate z.length (Value.int .i64 1073741824)).toArray 3)->Below y.heap.size y.drew E->E.heap.size=y.heap.size+3->
     ∃ F L,(Builtin.append_ #[167,167] 167 #[.slice Z p.length oU,.slice (some (aD E.heap.size 0)) 1 1]).run Tryz.prog (E.alloc (.cells #[.pointer (some (aD (y.heap.size+2) 0))] 169))=.ok F L/\
      L.cell? (aD (w.heap.size+2) 0)=some (.slice Z p.length oU)/\L.frozen? (aD (w.heap.size+2) 0)=false/\(∃ a m c,F = .slice a m c)/\∃ dM,mH 177 3 169 z.length (w.heap.size+5) (w.heap.size+2) (p++[(⟨y.heap.size+2,y.heap.size+1,⟨some (aD W.heap.size 0),vals.length,vals⟩,0,List.replicate z.length 1073741824⟩:gP)]) (L.setCell (aD (w.heap.size+2) 0) F) dM/\Kept (fun b=>b≠w.heap.size+2/\(Value.slice Z p.length oU).ownBlock≠some b) y (L.setCell (aD (w.heap.size+2) 0) F)/\∀ b,bM (w.heap.size+2) dM (p++[(⟨y.heap.size+2,y.heap.size+1,⟨some (aD W.heap.size 0),vals.length,vals⟩,0,List.replicate z.length 1073741824⟩:gP)]) b->bM (w.heap.size+2) (.slice Z p.length oU) p b∨b=W.heap.size∨(y.heap.size<=b/\b<(L.setCell (aD (w.heap.size+2) 0) F).heap.size)):=by
     intro E p2 p1 pb ps;have aC:Kept (fun _=>True) y y.drew:=⟨rfl,rfl,rfl,Qs _,fun _ _ _=>rfl⟩
     obtain⟨F,L,hr,hc,fD,bK,T,H,ax⟩:=Eh y.drew E z.length (w.heap.size+5) (w.heap.size+2) p (.slice Z p.length oU) (Vu.keep aC (fun _ _=>trivial)) (by show _<=y.heap.size; omega) (by omega) ⟨some (aD W.heap.size 0),vals.length,vals⟩ (ag.keep dn (Qs _) (fun _ _ _=>rfl)) (fun b q=>by
      have e:some W.heap.size=some b:=q
      cases e
      refine⟨by omega,fun h=>?_⟩;have:=R.o.tT.lt h;omega) p2 p1 pb ps
     refine⟨F,L,hr,hc,fD,bK,F,T,(aC.mono fun _ _ _=>trivial).trans H,fun b q=>?_⟩;rcases ax b q with h | h | h
     ·exact .inl h
     ·have e:some W.heap.size=some b:=h
      cases e
      exact .inr (.inl rfl)
     ·exact .inr (.inr h)
    have HR:Hid (∀ (M:World) (F:Value),mH 177 3 169 z.length (w.heap.size+5) (w.heap.size+2) (p++[(⟨y.heap.size+2,y.heap.size+1,⟨some (aD W.heap.size 0),vals.length,vals⟩,0,List.replicate z.length 1073741824⟩:gP)]) M F->Kept (fun b=>b≠w.heap.size+2/\(Value.slice Z p.length oU).ownBlock≠some b) y M->(∀ b,bM (w.heap.size+2) F (p++[(⟨y.heap.size+2,y.heap.size+1,⟨some (aD W.heap.size 0),vals.length,vals⟩,0,List.replicate z.length 1073741824⟩:gP)]) b->bM (w.heap.size+2) (.slice Z p.length oU) p b∨b=W.heap.size∨(y.heap.size<=b/\b<M.heap.size))->
      (∃ gr TM,F = .slice (some (aD gr 0)) (p.length+1) TM/\M.cell? (aD gr p.length)=some (.pointer (some (aD (y.heap.size+2) 0))))/\M.cell? (aD (w.heap.size+2) 0)=some F/\M.cell? (aD (w.heap.size+1) 0)=some (.slice lQ z.length fA)/\
      Calls Tryz.prog 132 #[.pointer (some (aD (y.heap.size+2) 0)),x.val,.slice lQ z.length fA] M.drew fun e N=>(∃ u,e=.returned u)/\
       ∃ o2,(∃ bS F,GI Tryz.prog 177 3 169 192 ⟨jM,dL,J⟩ ⟨lQ,fA,z⟩ w (Q++[x]) bS o2 N F)/\Kept (fun b=>¬ o1 b) W N/\∀ b,o2 b->o1 b∨(W.heap.size<=b/\b<N.heap.size)∨(ag.blk x=some b/\wc.heap.size<=b)):=by
     intro M F T H ax;have hi:p.length<(p++[(⟨y.heap.size+2,y.heap.size+1,⟨some (aD W.heap.size 0),vals.length,vals⟩,0,List.replicate z.length 1073741824⟩:gP)]).length:=by simp
     have bH:(p++[(⟨y.heap.size+2,y.heap.size+1,⟨some (aD W.heap.size 0),vals.length,vals⟩,0,List.replicate z.length 1073741824⟩:gP)])[p.length]=(⟨y.heap.size+2,y.heap.size+1,⟨some (aD W.heap.size 0),vals.length,vals⟩,0,List.replicate z.length 1073741824⟩:gP):=by simp
     have dw:(p++[(⟨y.heap.size+2,y.heap.size+1,⟨some (aD W.heap.size 0),vals.length,vals⟩,0,List.replicate z.length 1073741824⟩:gP)])[p.length].gb=y.heap.size+2:=by rw[bH]
     have eQ:(p++[(⟨y.heap.size+2,y.heap.size+1,⟨some (aD W.heap.size 0),vals.length,vals⟩,0,List.replicate z.length 1073741824⟩:gP)])[p.length].sb=y.heap.size+1:=by rw[bH]
     have TP:∀ b,(Value.slice Z p.length oU).ownBlock=some b->w.heap.size+5<=b:=fun b q=>(Zq I.o.tT.own q).1
     have OW:∀ b,b<w.heap.size+5->b≠w.heap.size+2->b≠w.heap.size+2/\(Value.slice Z p.length oU).ownBlock≠some b:=fun b q aO=>⟨aO,fun e=>by have:=TP b e; omega⟩
     have eT:=Zj bF H (OW _ (by show w.heap.size<_; omega) (by show w.heap.size≠_; omega));have bI:=Zj bE H (OW _ (by show w.heap.size+1<_; omega) (by show w.heap.size+1≠_; omega));have eU:=Zj bG H (OW _ (by show w.heap.size+4<_; omega) (by show w.heap.size+4≠_; omega));have eY:MapAt Tryz.prog 192 3 J.length (w.heap.size+3) (Q.length+2) ((p++[(⟨y.heap.size+2,y.heap.size+1,⟨some (aD W.heap.size 0),vals.length,vals⟩,0,List.replicate z.length 1073741824⟩:gP)]).map (·.k.xs)) M:=by
      rw[Qn];exact sM.keep (H.block _ sM.lt (OW _ (by omega) (by omega)))
     have bJ:∀ g∈p++[(⟨y.heap.size+2,y.heap.size+1,⟨some (aD W.heap.size 0),vals.length,vals⟩,0,List.replicate z.length 1073741824⟩:gP)],wS g/\g.cnt<=Q.length:=by
      intro g hg;rcases Zx.1 hg with hg | hg
      ·exact I.o.sums g hg
      ·rw[Zw]at hg;rw[hg];exact⟨IU _ _ _ _,Zf _⟩
     have qw:∀ s:Nat->Prop,(∀ b,b<W.heap.size->s b->b≠w.heap.size+3)->Kept s W y:=fun s hs=>(QU aH.o (fun b q _=>q)).trans' (t:=fun b=>b<W.heap.size/\s b) (S.mono fun b _ h=>hs b h.1 h.2) (fun b q h=>⟨q,h⟩)
     have dx:Bw w M:=(R.o.below.trans ((qw (fun b=>b<w.heap.size) (fun b _ h=>by omega)).below (by omega) (fun b q=>q))).trans (H.below (by have:=R.o.below.size; omega) (fun b q=>OW b (by omega) (by omega)));have aS:∀ b,ag.blk x=some b->¬ bM (w.heap.size+2) (.slice Z p.length oU) p b/\b≠w.heap.size+3/\b<W.heap.size:=fun b q=>⟨fun h=>(YL.o b q).1 ((R.o.iff b).2 (.inl h)),fun h=>(YL.o b q).1 ((R.o.iff b).2 (.inr h)),ag.sV HX.o q⟩
     have eZ:ag.At x M:=by
      refine ag.keep (ag.keep HX.o (QS aH.o.size bD) (fun b q aV=>(qw (fun b=>b≠w.heap.size+3) (fun b _ h=>h)).block b q (aS b aV).2.1)) H.size (fun b q aV=>H.block b q ⟨fun e=>(aS b aV).1 (.inl e),fun e=>(aS b aV).1 (.inr (.inl e))⟩)
     have aR:∀ b,ag.blk x=some b->¬ bM (w.heap.size+2) F (p++[(⟨y.heap.size+2,y.heap.size+1,⟨some (aD W.heap.size 0),vals.length,vals⟩,0,List.replicate z.length 1073741824⟩:gP)]) b:=fun b q h=>by
      have h1:=aS b q;rcases ax b h with h | h | h
      ·exact h1.1 h
      ·omega
      ·omega
     have G:=JB w M (p++[(⟨y.heap.size+2,y.heap.size+1,⟨some (aD W.heap.size 0),vals.length,vals⟩,0,List.replicate z.length 1073741824⟩:gP)]) F ⟨lQ,fA,z⟩ x T dx bT.o Ev.o eZ aR (fun g hg=>⟨(bJ g hg).1,by have:=(bJ g hg).2; omega⟩) (aB.o _ aA.o) (bW.o _ aA.o) hi;have fe:Value.pointer (some ⟨(p++[(⟨y.heap.size+2,y.heap.size+1,⟨some (aD W.heap.size 0),vals.length,vals⟩,0,List.replicate z.length 1073741824⟩:gP)])[p.length].gb,0,none⟩)=Value.pointer (some (aD (y.heap.size+2) 0)):=by rw[dw]
     rw[fe]at G;refine⟨?_,T.box,bI,G.mono ?_⟩
     ·obtain⟨gr,TM,hv,hc⟩:=nD T.own (i:=p.length) (by simp);refine⟨gr,TM,by rw[hv]; simp,?_⟩;rw[hc,ZR,ZT hi,bH];rfl
     ·rintro e N ⟨hu,r1,r2,r3,r4⟩;refine⟨hu,_,⟨_,_,GI.acO (x:=x) T eY bJ eT bI eU dx hi (Yf I.o.fold (by rw[bz.o]; exact hf) (by show (⟨vals,0,List.replicate z.length 1073741824⟩:Gr)=oV _ _; rw[bz.o]; rfl)) (aB.o _ aA.o) r1 r2 r3⟩,?_,fun b q=>?_⟩
      ·have h1:Kept (fun b=>¬ o1 b) W y:=qw _ (fun b _ h e=>h ((R.o.iff b).2 (.inr e)));have h2:Kept (fun b=>¬ o1 b) y M:=H.mono fun b _ h=>⟨fun e=>h ((R.o.iff b).2 (.inl (.inl e))),fun e=>h ((R.o.iff b).2 (.inl (.inr (.inl e))))⟩
       refine(h1.trans h2).trans' (t:=fun b=>b<W.heap.size) (r3.mono fun b _ h=>?_) (fun b q _=>q);rw[dw,eQ];omega
      ·have fP:M.heap.size<=N.heap.size:=r3.size;have fQ:=H.size;rcases q with q | q
       ·rcases ax b q with h | h | h
        ·exact .inl ((R.o.iff b).2 (.inl h))
        ·exact .inr (.inl ⟨by omega,by omega⟩)
        ·exact .inr (.inl ⟨by omega,by omega⟩)
       ·exact .inl ((R.o.iff b).2 (.inr q))
    have xD:Hid _:=S;have Vv:Hid _:=bD;have fT:Hid _:=sM;have fU:Hid _:=bF;have fV:Hid _:=bG;have fZ:Hid _:=bE;have gm:Hid _:=Vu;have HF:Hid _:=hf;have uw:Hid _:=hlen;have gp:Hid _:=di;clear hf S bD sM bF bG Vu dH dh eO di dm dn hlen;have Gc:Tryz.prog.follows .mixedOrders=true:=by kernel_rfl
    obtain⟨jD,cO,gK⟩:=x;unfold aa.val at *;simp only at *
    gi_upto_region 15 with (refine⟨trivial,rfl,Zl l (QZ.2 (az.mono ?_))⟩; rintro e E ⟨rfl,rfl⟩)
    gi_cut [] from 47 (fun M=>∃ F,mH 177 3 169 z.length (w.heap.size+5) (w.heap.size+2) (p++[(⟨y.heap.size+2,y.heap.size+1,⟨some (aD W.heap.size 0),vals.length,vals⟩,0,List.replicate z.length 1073741824⟩:gP)]) M F/\Kept (fun b=>b≠w.heap.size+2/\(Value.slice Z p.length oU).ownBlock≠some b) y M/\∀ b,bM (w.heap.size+2) F (p++[(⟨y.heap.size+2,y.heap.size+1,⟨some (aD W.heap.size 0),vals.length,vals⟩,0,List.replicate z.length 1073741824⟩:gP)]) b->bM (w.heap.size+2) (.slice Z p.length oU) p b∨b=W.heap.size∨(y.heap.size<=b/\b<M.heap.size))
    case first=>
     refine wpIn_region_any Gc (kL (jG (by kernel_rfl)) _ _ _ _ ?_);change wpAnyIn _ _ _ _ _ _ _ _ _ (World.drew _);refine Jp (i:=1) (v:=.slice (some (aD W.heap.size 0)) vals.length vals.length) rfl rfl (by kernel_rfl) (by kernel_rfl) (by kernel_rfl) (fun _ _ _ h=>h) ⟨XG ⟨by rfl,fun w=>by go_simp⟩,fun _=>rfl⟩ ?_;refine Jq (rs:=[0,2]) (by kernel_rfl) (by simp) ?_;refine Jr rfl (fun K d=>?_) ?_
     ·go_simp;refine d _ _ ?_;clear d K;refine Jq (rs:=[2]) (by kernel_rfl) (by simp) ?_;refine Jr rfl (fun K d=>?_) Js;go_simp;refine d _ _ ?_;clear d K;refine Jp (i:=3) (v:=.int .i64 (z.length:Int)) rfl rfl (by kernel_rfl) (by kernel_rfl) (by kernel_rfl) (fun _ _ _ h=>h) ⟨XG ⟨by rfl,fun w=>by go_simp⟩,fun _=>rfl⟩ ?_;refine Jq (rs:=[4]) (by kernel_rfl) (by simp) ?_;refine Jr rfl (fun K d=>?_) Js;go_simp;refine⟨trivial,rfl,QZ.2 (ai.mono ?_)⟩;rintro e E ⟨rfl,ae,af,O,ah⟩;obtain⟨v5,L,pW,bL,bN,⟨U,X,Y,rfl⟩,C⟩:=OU.o E ae af O ah;have aj:=Zj (A:=y.drew) TN (QU (s:=fun _=>True) O (fun b q _=>q)) trivial;have bg:=Zj aj (QX (s:=fun _=>True) E (.cells #[.pointer (some (aD (y.heap.size+2) 0))] 169)) trivial;clear ae af O ah;refine d _ _ ?_;clear d K;refine Jq (rs:=[5]) (by kernel_rfl) (by simp) ?_;refine Jr rfl (fun K d=>?_) Js;go_simp;refine d _ _ ?_;clear d K;refine Jq (rs:=[6]) (by kernel_rfl) (by simp) ?_;refine Jr rfl (fun K d=>?_) Js;refine ma (by rfl) _ _ _ (by rfl) (.slice Z p.length oU) (.slice (some (aD E.heap.size 0)) 1 1) (.slice U X Y) L (by rfl) (by rfl) pW ?_;refine d _ _ ?_;clear d K;refine Jq (rs:=[7]) (by kernel_rfl) (by simp) ?_;refine Jr rfl (fun K d=>?_) Js;go_simp;refine d _ _ ?_;clear d K;refine Jt (by kernel_rfl) ?_ _
      gi_wp2_with fail
      gi_meet
      exact C
     refine Jr rfl (fun K d=>?_) Js;go_simp;refine d _ _ ?_;clear d K;refine Jp (i:=3) (v:=.int .i64 (z.length:Int)) rfl rfl (by kernel_rfl) (by kernel_rfl) (by kernel_rfl) (fun _ _ _ h=>h) ⟨XG ⟨by rfl,fun w=>by go_simp⟩,fun _=>rfl⟩ ?_;refine Jq (rs:=[0,4]) (by kernel_rfl) (by simp) ?_;refine Jr rfl (fun K d=>?_) ?_
     ·go_simp;refine d _ _ ?_;clear d K;refine Jq (rs:=[4]) (by kernel_rfl) (by simp) ?_;refine Jr rfl (fun K d=>?_) Js;go_simp;refine⟨trivial,rfl,QZ.2 (ai.mono ?_)⟩;rintro e E ⟨rfl,ae,af,O,ah⟩;obtain⟨v5,L,pW,bL,bN,⟨U,X,Y,rfl⟩,C⟩:=OU.o E ae af O ah;have aj:=Zj (A:=y.drew) TN (QU (s:=fun _=>True) O (fun b q _=>q)) trivial;have bg:=Zj aj (QX (s:=fun _=>True) E (.cells #[.pointer (some (aD (y.heap.size+2) 0))] 169)) trivial;clear ae af O ah;refine d _ _ ?_;clear d K;refine Jq (rs:=[5]) (by kernel_rfl) (by simp) ?_;refine Jr rfl (fun K d=>?_) Js;go_simp;refine d _ _ ?_;clear d K;refine Jq (rs:=[6]) (by kernel_rfl) (by simp) ?_;refine Jr rfl (fun K d=>?_) Js;refine ma (by rfl) _ _ _ (by rfl) (.slice Z p.length oU) (.slice (some (aD E.heap.size 0)) 1 1) (.slice U X Y) L (by rfl) (by rfl) pW ?_;refine d _ _ ?_;clear d K;refine Jq (rs:=[7]) (by kernel_rfl) (by simp) ?_;refine Jr rfl (fun K d=>?_) Js;go_simp;refine d _ _ ?_;clear d K;refine Jt (by kernel_rfl) ?_ _
      gi_wp2_with fail
      gi_meet
      exact C
     refine Jr rfl (fun K d=>?_) Js;go_simp;refine⟨trivial,rfl,QZ.2 (ai.mono ?_)⟩;rintro e E ⟨rfl,ae,af,O,ah⟩;obtain⟨v5,L,pW,bL,bN,⟨U,X,Y,rfl⟩,C⟩:=OU.o E ae af O ah;have aj:=Zj (A:=y.drew) TN (QU (s:=fun _=>True) O (fun b q _=>q)) trivial;have bg:=Zj aj (QX (s:=fun _=>True) E (.cells #[.pointer (some (aD (y.heap.size+2) 0))] 169)) trivial;clear ae af O ah;refine d _ _ ?_;clear d K;refine Jq (rs:=[0,5]) (by kernel_rfl) (by simp) ?_;refine Jr rfl (fun K d=>?_) ?_
     ·go_simp;refine d _ _ ?_;clear d K;refine Jq (rs:=[5]) (by kernel_rfl) (by simp) ?_;refine Jr rfl (fun K d=>?_) Js;go_simp;refine d _ _ ?_;clear d K;refine Jq (rs:=[6]) (by kernel_rfl) (by simp) ?_;refine Jr rfl (fun K d=>?_) Js;refine ma (by rfl) _ _ _ (by rfl) (.slice Z p.length oU) (.slice (some (aD E.heap.size 0)) 1 1) (.slice U X Y) L (by rfl) (by rfl) pW ?_;refine d _ _ ?_;clear d K;refine Jq (rs:=[7]) (by kernel_rfl) (by simp) ?_;refine Jr rfl (fun K d=>?_) Js;go_simp;refine d _ _ ?_;clear d K;refine Jt (by kernel_rfl) ?_ _
      gi_wp2_with fail
      gi_meet
      exact C
     refine Jr rfl (fun K d=>?_) Js;go_simp;refine d _ _ ?_;clear d K;refine Jq (rs:=[0]) (by kernel_rfl) (by simp) ?_;refine Jr rfl (fun K d=>?_) Js;go_simp;refine d _ _ ?_;clear d K;refine Jq (rs:=[6]) (by kernel_rfl) (by simp) ?_;refine Jr rfl (fun K d=>?_) Js;refine ma (by rfl) _ _ _ (by rfl) (.slice Z p.length oU) (.slice (some (aD E.heap.size 0)) 1 1) (.slice U X Y) L (by rfl) (by rfl) pW ?_;refine d _ _ ?_;clear d K;refine Jq (rs:=[7]) (by kernel_rfl) (by simp) ?_;refine Jr rfl (fun K d=>?_) Js;go_simp;refine d _ _ ?_;clear d K;refine Jt (by kernel_rfl) ?_ _
     gi_wp2_with fail
     gi_meet
     exact C
    case rest=>
     obtain⟨F,T,H,ax⟩:=hcut;obtain⟨⟨gr,TM,rfl,cZ⟩,gu,bI,G⟩:=HR.o _ F T H ax;clear T H ax TN bE ai dG cK cu az q0 q1 q2 q3 dZ ed ek cz;have gq:¬ ((p.length:Int)+1<=(p.length:Int)):=by omega
     gi_wp2_with fail
     refine wpIn_region_any Gc (kL (jG (by kernel_rfl)) _ _ _ _ ?_);change wpAnyIn _ _ _ _ _ _ _ _ _ (World.drew _);refine Jp (i:=1) (v:=.int .i64 (p.length:Int)) rfl rfl (by kernel_rfl) (by kernel_rfl) (by kernel_rfl) (fun _ _ _ h=>h) ⟨XG ⟨by rfl,fun w=>by go_simp⟩,fun _=>rfl⟩ ?_;refine Jp (i:=4) (v:=.slice jD gK.length cO) rfl rfl (by kernel_rfl) (by kernel_rfl) (by kernel_rfl) (fun _ _ _ h=>h) ⟨XG ⟨by rfl,fun w=>by go_simp⟩,fun _=>rfl⟩ ?_;refine Jq (rs:=[0,5]) (by kernel_rfl) (by simp) ?_;refine Jr rfl (fun K d=>?_) ?_
     ·go_simp;refine d _ _ ?_;clear d K;refine Jp (i:=2) (v:=.pointer (some (aD gr p.length))) rfl rfl (by kernel_rfl) (by kernel_rfl) (by kernel_rfl) (fun _ _ _ h=>h) ⟨XG ⟨by rfl,fun w=>by go_simp⟩,fun _=>rfl⟩ ?_;refine Jq (rs:=[3,5]) (by kernel_rfl) (by simp) ?_;refine Jr rfl (fun K d=>?_) ?_
      ·go_simp;refine d _ _ ?_;clear d K;refine Jq (rs:=[5]) (by kernel_rfl) (by simp) ?_;refine Jr rfl (fun K d=>?_) Js;go_simp;refine d _ _ ?_;clear d K;refine Jq (rs:=[6]) (by kernel_rfl) (by simp) ?_;refine Jr rfl (fun K d=>?_) Js;go_simp;refine⟨trivial,rfl,QZ.2 (G.mono ?_)⟩;rintro e N ⟨⟨u7,rfl⟩,r7⟩;refine d _ _ ?_;clear d K;refine Jt (by kernel_rfl) ?_ _;exact r7
      refine Jr rfl (fun K d=>?_) Js;go_simp;refine d _ _ ?_;clear d K;refine Jq (rs:=[3]) (by kernel_rfl) (by simp) ?_;refine Jr rfl (fun K d=>?_) Js;go_simp;refine d _ _ ?_;clear d K;refine Jq (rs:=[6]) (by kernel_rfl) (by simp) ?_;refine Jr rfl (fun K d=>?_) Js;go_simp;refine⟨trivial,rfl,QZ.2 (G.mono ?_)⟩;rintro e N ⟨⟨u7,rfl⟩,r7⟩;refine d _ _ ?_;clear d K;refine Jt (by kernel_rfl) ?_ _;exact r7
     refine Jr rfl (fun K d=>?_) Js;go_simp;refine d _ _ ?_;clear d K;refine Jq (rs:=[0]) (by kernel_rfl) (by simp) ?_;refine Jr rfl (fun K d=>?_) Js;go_simp;refine d _ _ ?_;clear d K;refine Jp (i:=2) (v:=.pointer (some (aD gr p.length))) rfl rfl (by kernel_rfl) (by kernel_rfl) (by kernel_rfl) (fun _ _ _ h=>h) ⟨XG ⟨by rfl,fun w=>by go_simp⟩,fun _=>rfl⟩ ?_;refine Jq (rs:=[3]) (by kernel_rfl) (by simp) ?_;refine Jr rfl (fun K d=>?_) Js;go_simp;refine d _ _ ?_;clear d K;refine Jq (rs:=[6]) (by kernel_rfl) (by simp) ?_;refine Jr rfl (fun K d=>?_) Js;go_simp;refine⟨trivial,rfl,QZ.2 (G.mono ?_)⟩;rintro e N ⟨⟨u7,rfl⟩,r7⟩;refine d _ _ ?_;clear d K;refine Jt (by kernel_rfl) ?_ _;exact r7
  case done=>
   rintro ys o' W2 dI ⟨p,v,P⟩ fE dJ hD;have hc:=P.tT.box;obtain⟨va,vn,vc,rfl⟩:=Zr P.tT.own;have R:Hid _:=P;have U7:Hid _:=dI;have fo:Hid _:=dJ;clear P dI fE dJ
   gi_wp2
   have fq:¬ o' wc.heap.size:=fun h=>by
    rcases fo.o _ h with h | h
    ·rcases h with h | h
     ·have:=aF.o.tT.lt h; omega
     ·have:=OV.o; omega
    ·omega
   have C:=R.o.keep (QV (s:=fun b=>b≠wc.heap.size) W2 (.deferred none) (fun h=>h rfl)) (fun b q e=>by
    rcases q with q | q
    ·exact fq (e ▸ q)
    ·have:=OV.o; omega)
   refine⟨by simp,.inl ⟨_,_,rfl,Zm hD,?_⟩⟩;refine⟨_,results_tmp rfl _ _ _,.slice va vn vc,p,rfl,?_,C.tT,C.below⟩;rw[C.fold];unfold fu;have fw:ys.map aa.xs=rows:=U7.o;rw[<- fw,List.foldl_map]
end
theorem Lj(gb sb:Nat)(k:aa)(cnt:Nat)(ss:List Int)(w:World)
  (hg:w.heap[gb]? = some (.cells #[k.val,.int .i64 cnt,.slice (some (aD sb 0)) ss.length ss.length] 177)) (hs:w.heap[sb]? = some (.cells (ss.map (Value.int .i64)).toArray 3)) (hk:k.At w) (hkn:k.ad=none->k.cap=0) (hkl:k.xs.length<=4) (hsl:ss.length<=4) (hcnt:cnt<=1000000) :
  Calls Tryz.prog 121 #[.pointer (some (aD gb 0))] w fun e w'=>∃ v,e=.returned v/\w'.ownsRow w.heap.size 3 1 v (k.xs++[(cnt:Int)]++ss).length ((k.xs++[(cnt:Int)]++ss).map (Value.int .i64))/\Bw w w':=by
 have M:w.cell? (aD gb 0)=some k.val:=Je hg rfl;have N:w.cell? (aD gb 1)=some (.int .i64 cnt):=Je hg rfl;have O:w.cell? (aD gb 2)=some (.slice (some (aD sb 0)) ss.length ss.length):=Je hg rfl;have D:=(QO.1 hg).1;obtain⟨b,d,a⟩:=k;unfold aa.val at *;simp only at *;have q:aI w (some (aD sb 0)) ss:=⟨by omega,fun i n=>⟨sb,0,rfl,by rw[QJ]; exact Je hs (by simp[List.getD,n])⟩⟩
 have E:Hid _:=hk;have F:Hid _:=q;have t:=Zh hkn;clear hg hs hk q;have G:Hid (Calls Tryz.prog 126 #[.slice (some (aD (w.heap.size+1) 0)) 3 3] ((w.alloc (.cells #[.int .i64 cnt] 3)).alloc (.cells #[.slice b a.length d,.slice (some (aD w.heap.size 0)) 1 1,.slice (some (aD sb 0)) ss.length ss.length] 22)).drew
   fun e w'=>∃ v,e=.returned v/\w'.ownsRow w.heap.size 3 1 v (a++[(cnt:Int)]++ss).length ((a++[(cnt:Int)]++ss).map (Value.int .i64))/\Bw w w'):=by
  have r:=bV w (.cells #[.int .i64 cnt] 3);have u:=bV (w.alloc (.cells #[.int .i64 cnt] 3)) (.cells #[.slice b a.length d,.slice (some (aD w.heap.size 0)) 1 1,.slice (some (aD sb 0)) ss.length ss.length] 22);have l:=(r.trans (u.mono r.size)).drew;have y:(((w.alloc (.cells #[.int .i64 cnt] 3)).alloc (.cells #[.slice b a.length d,.slice (some (aD w.heap.size 0)) 1 1,.slice (some (aD sb 0)) ss.length ss.length] 22)).drew).heap[w.heap.size]? = some (.cells #[.int .i64 cnt] 3):=(Below.heap_alloc (w.alloc (.cells #[.int .i64 cnt] 3)) _ _ (by simp)).trans (lZ _ _);have m:(((w.alloc (.cells #[.int .i64 cnt] 3)).alloc (.cells #[.slice b a.length d,.slice (some (aD w.heap.size 0)) 1 1,.slice (some (aD sb 0)) ss.length ss.length] 22)).drew).heap[w.heap.size+1]? = some (.cells #[.slice b a.length d,.slice (some (aD w.heap.size 0)) 1 1,.slice (some (aD sb 0)) ss.length ss.length] 22):=by
   have h:=lZ (w.alloc (.cells #[.int .i64 cnt] 3)) (.cells #[.slice b a.length d,.slice (some (aD w.heap.size 0)) 1 1,.slice (some (aD sb 0)) ss.length ss.length] 22);rw[QY]at h;exact h
  have H:(((w.alloc (.cells #[.int .i64 cnt] 3)).alloc (.cells #[.slice b a.length d,.slice (some (aD w.heap.size 0)) 1 1,.slice (some (aD sb 0)) ss.length ss.length] 22)).drew).heap.size=w.heap.size+2:=by
   show ((w.alloc (.cells #[.int .i64 cnt] 3)).alloc (.cells #[.slice b a.length d,.slice (some (aD w.heap.size 0)) 1 1,.slice (some (aD sb 0)) ss.length ss.length] 22)).heap.size=_
   simp
  generalize ((w.alloc (.cells #[.int .i64 cnt] 3)).alloc (.cells #[.slice b a.length d,.slice (some (aD w.heap.size 0)) 1 1,.slice (some (aD sb 0)) ss.length ss.length] 22)).drew=V at *;have s:fw [⟨b,d,a⟩,⟨some (aD w.heap.size 0),1,[(cnt:Int)]⟩,⟨some (aD sb 0),ss.length,ss⟩]=a++[(cnt:Int)]++ss:=by simp[fw]
  have h:=xH (some (aD (w.heap.size+1) 0)) 3 [⟨b,d,a⟩,⟨some (aD w.heap.size 0),1,[(cnt:Int)]⟩,⟨some (aD sb 0),ss.length,ss⟩] V ?_ (by simp) ?_ ?_
  ·rw[s]at h;refine h.mono ?_;rintro e w' ⟨v,rfl,f,K⟩;exact⟨v,rfl,⟨f.1,by
    rcases f.2 with h | ⟨g,z,A,I,P,J⟩
    ·exact .inl h
    ·exact .inr ⟨g,z,A,I,by omega,J⟩⟩,l.trans (K.mono (by omega))⟩
  ·refine⟨by simp,⟨fun i n=>⟨w.heap.size+1,0,rfl,?_⟩,fun i n=>?_⟩⟩
   ·match i,n with
    | 0,_ => exact Je m rfl
    | 1,_ => exact Je m rfl
    | 2,_ => exact Je m rfl
   ·match i,n with
    | 0,_ => exact Qt l E.o
    | 1,_ => exact⟨by simp,fun j L => ⟨w.heap.size,0,rfl,by
      match j,L with
      | 0,_ => exact Je y rfl⟩⟩
    | 2,_ => exact Qt l F.o
  ·intro i n p
   match i,n,p with
   | 0,_,p => exact t.o p
   | 1,_,p => cases p
   | 2,_,p => cases p
  ·rw[s]; simp; omega
 clear hkn;go_enter Tryz.func121,Tryz.ntmps121;go_wp2;go_region_with (refine G.o.mono ?_; rintro e Q ⟨v4,rfl,C,B⟩; obtain⟨R,S,T,rfl⟩:=Zr C)
 all_goals
  go_wp2;go_ret;exact⟨_,rfl,C,B⟩
theorem EF(db:List aN)(t:Int):(eQ db t).length=(db.getD t.toNat rz).rs.length:=by simp[eQ]
theorem TQ{src:List Int}{db:List aN}(hrow:∀ t,∀ r∈eQ db t,r.length<=100)(hl:src.length<=5):∀ a∈aW src db,a.length<=1000:=by
 have f:∀ (ts:List (List (List Int))) (t:List (List Int)) (m:Nat),(∀ a∈t,a.length<=m)->(∀ x∈ts,∀ a∈x,a.length<=100)->∀ a∈ts.foldl dh t,a.length<=m+100*ts.length:=by
  intro ts
  induction ts with
  | nil => intro t m h _ a d; have:=h a d; simpa using this
  | cons x ts ih =>
   intro t m h e a d;have:=ih (dh t x) (m+100) (acz h (e x (by simp))) (fun y g=>e y (by simp[g])) a d;rw[Q7];omega
 intro a d;unfold aW at d
 cases src with
 | nil => simp[nu]at d
 | cons b l =>
  have:=f (l.map (eQ db)) (eQ db b) 100 (hrow b) (fun x e a d=>by
   obtain⟨t,_,rfl⟩:=ZU.1 e;exact hrow t a d) a d
  rw[ZB]at this;rw[Q7]at hl;omega
theorem AX(s:aa)(d:Option Addr)(pE:Nat)(db:List aN)(w:World)(hs:s.At w)(lF:qi w d db)(h1:0<s.xs.length)(h5:s.xs.length<=5)(hcp:s.xs.length<=s.cap)(ha:aM s.xs db.length=true)
  (hrow:∀ t,∀ r∈eQ db t,r.length<=100) (hlen:∀ t,(eQ db t).length<=1000000) :
  Calls Tryz.prog 47 #[s.val,.slice d db.length pE] w fun e w'=>∃ v,e=.returned v/\dw ag Tryz.prog v (aW s.xs db) w'/\Bw w w':=by
 obtain⟨lQ,fA,src⟩:=s;unfold aa.val;simp only at *;have HS:Hid _:=hs;have W:Hid _:=lF;have HA:=Zh ha;have yL:=Zh hrow;have X:=Zh hlen;clear hs lF ha hrow hlen;have ak:=Qq HA.o h1;obtain⟨b1,o1,rfl,E⟩:=HS.o.get h1;have Ku:=E 0 h1;have g:src[0].toNat<db.length:=by omega
 obtain⟨b2,o2,rfl,F⟩:=W.o.1.2.1.get g;have L:=F _ g;have e1:src.getD 0 0=src[0]:=by simp[List.getD,h1]
 rw[e1,Xg]at Ku;have p:=I8 (db.getD src[0].toNat rz) w (W.o.2 _ g);have A:aW (src.take 1) db=eQ db src[0]:=by
  cases src with
  | nil => simp at h1
  | cons a l => simp[aW,nu]
 have Y:=Zh A;have K:Calls Tryz.prog 77 #[(db.getD src[0].toNat rz).val] w fun e w'=>∃ v,e=.returned v/\dw ag Tryz.prog v (eQ db src[0]) w'/\Bw w w':=p
 rw[<- A]at K;have M:=Zh F;have N:Hid (∀ j,j<src.length->w.cell? (aD b1 (o1+j))=some (.int .i64 (src.getD j 0))):=E;clear p A e1 E F;generalize db.getD src[0].toNat rz=x at *;obtain⟨jD,cO,xs⟩:=x;unfold aN.val at *;simp only at *;generalize b:src[0]=s0 at *;clear b;obtain⟨cn,rfl⟩:∃ cn:Nat,s0=(cn:Int):=⟨s0.toNat,by omega⟩
 simp only[ZY]at g L;by_cases z:src.length=1
 ·have R8:src.take 1=src:=by rw[X0 (by omega)]
  rw[R8]at K;have Z:src.length-1=0:=by omega
  clear z R8 Y M N;go_enter Tryz.func47,Tryz.ntmps47;go_wp2_with fail;refine K.mono ?_;rintro e w2 ⟨v,rfl,b,G⟩;have B:Hid _:=b;obtain⟨g0,U,rfl,_,_⟩:=b;clear K;go_wp2
  all_goals
   go_loopw [5,18] (fun v i wr=>i=.int .i64 0/\v=.func (.func g0) #[] U/\w2=wr) (fun _ _ _=>0)
   case atStart=>exact⟨rfl,rfl,rfl⟩
   case round=>
    obtain⟨rfl,rfl,rfl⟩:=hrel;go_wp2;go_ret;exact⟨_,rfl,B.o,G⟩
 ·have h2:2<=src.length:=by omega
  have au:2<=fA:=by omega
  clear z;go_enter Tryz.func47,Tryz.ntmps47;go_wp2_with fail;refine K.mono ?_;rintro e w2 ⟨v,rfl,b,G⟩;have B:Hid _:=b;obtain⟨g0,U,rfl,_,_⟩:=id b;clear K b;go_wp2;go_loopw [5,18] (fun v i wr=>∃ k:Nat,k+1<=src.length/\i=.int .i64 k/\dw ag Tryz.prog v (aW (src.take (k+1)) db) wr/\Bw w wr) (fun _ i _=>src.length-(intOf i).toNat)
  case atStart=>exact⟨0,by omega,rfl,B.o,G⟩
  case round=>
   obtain⟨k,hk,rfl,H,f⟩:=hrel;obtain⟨gk,VK,rfl,ah,ai⟩:=id H;have C:Hid _:=H;clear H ai ah;by_cases n:k+1<src.length
   ·have hr:=Qq HA.o n;have D:=cB f (N.o _ n);have hj:src[k+1].toNat<db.length:=by omega
    have O:=cB f (M.o _ hj);have e2:src.getD (k+1) 0=src[k+1]:=by simp[List.getD,n]
    rw[e2]at D;have q:=I8 (db.getD src[k+1].toNat rz) wr ((W.o.2 _ hj).below f);have P:Calls Tryz.prog 77 #[(db.getD src[k+1].toNat rz).val] wr fun e w'=>∃ v,e=.returned v/\dw ag Tryz.prog v (eQ db src[k+1]) w'/\Bw wr w':=q
    have CP:=Zh (yX (db:=db) n);have Q:∀ a∈aW (src.take (k+1)) db,a.length<=1000:=fun a ha=>TQ yL.o (by rw[XF]; omega) a ha
    have uw:=Zh Q;have HT:Hid (∀ a∈eQ db src[k+1],a.length<=1000):=fun a ha=>by have:=yL.o _ a ha; omega
    have ae:Hid ((eQ db src[k+1]).length<=1000000):=X.o _;have u:o1+1+k=o1+(k+1):=by omega
    rw[<- u]at D;clear q e2 Q;generalize eQ db src[k+1]=T at *;generalize db.getD src[k+1].toNat rz=y at *;obtain⟨sZ,je,ys⟩:=y;unfold aN.val at *;simp only at *;generalize b:src[k+1]=s1 at *;clear b u;obtain⟨cm,rfl⟩:∃ cm:Nat,s1=(cm:Int):=⟨s1.toNat,by omega⟩
    simp only[ZY]at hj O;have aj:k<src.length-1:=by omega
    go_wp2_with fail;refine P.mono ?_;rintro e w3 ⟨v3,rfl,I,m⟩;have R:=YH (.func (.func gk) #[] VK) v3 _ T w3 (dw.later C.o m) I ae.o uw.o HT.o;obtain⟨g3,ax,rfl,_,_⟩:=id I;clear I;go_wp2_with fail;refine R.mono ?_;rintro e w4 ⟨v4,rfl,J,V⟩;have af:Hid _:=J;have qy:=Zh (f.trans ((m.mono f.size).trans (V.mono (QS f.size m.size))));obtain⟨g4,ay,rfl,_,_⟩:=id J;clear J m V R P D O;go_wp2;go_roundw
    case rel=>exact⟨k+1,by omega,by go_num,by rw[CP.o]; exact af.o,qy.o⟩
    case measure=>simp[intOf]; omega
   ·have S:src.take (k+1)=src:=X0 (by omega);rw[S]at C;have av:¬ k<src.length-1:=by omega
    clear S;go_wp2;go_ret;exact⟨_,rfl,C.o,f⟩
theorem Gf(g:Nat)(lb:Array Value)(ao:Option Addr)(cap:Nat)(w:World) :
  Ce 50 #[.func (.func g) #[] lb,.slice ao 0 cap] w (.func (.func g) #[] lb):=by
 go_enter Tryz.func50,Tryz.ntmps50;go_wp2;go_ret;exact⟨rfl,rfl⟩
