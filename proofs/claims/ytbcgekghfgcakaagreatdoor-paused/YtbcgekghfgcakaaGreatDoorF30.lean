import Derived.Test.YtbcgekghfgcakaaGreatDoorF29
set_option linter.all false
set_option maxRecDepth 100000
set_option maxHeartbeats 16000000
namespace Go.Proofs.Zz
open Go.RowKit Go.Shelf
structure nJ (T Tl:TypeId) (F:Nat->Prop) (base:Nat) (w:World) (lv:Value) (ls:List gB) (bs:List (Nat × aW)):Prop where
 own:w.ownsRow base Tl 1 lv ls.length (ls.map gB.val)
 flat:dY ls=bs.map Prod.fst
 each:∀ x∈ls,cK w (some x.ad) x.xs/\x.ad.block<w.heap.size/\lv.ownBlock≠some x.ad.block
 tree:∀ x∈bs,aC T (Fv F lv) w x.1 x.2/\base<=x.1/\x.1<w.heap.size
 rise:(bs.map Prod.fst).Pairwise (· < ·)
theorem nJ.nil (T Tl:TypeId) (F:Nat->Prop) (base:Nat) (w:World):nJ T Tl F base w (.slice none 0 0) [] []:=
 ⟨ZE _ _ _ _,rfl,(fun x hx=>by cases hx),(fun x hx=>by cases hx),List.Pairwise.nil⟩
theorem M5 (ls:List gB) (x:gB):dY (ls++[x])=dY ls++x.xs:=by
 unfold dY;rw[Ql,List.flatten_append];simp
theorem nJ.push {T Tp Tl:TypeId} {F:Nat->Prop} {base:Nat} {w0 w w':World} {lv lv' u:Value} {ls:List gB} {bs us:List (Nat × aW)} (h:nJ T Tl F base w0 lv ls bs) (hb:Below w0.heap.size w0 w) (hu:bJ T Tp (Fv F lv) w0.heap.size w u us) {ua:Addr} {uc:Nat} (hue:u=.slice (some ua) us.length uc) (hup:cK w (some ua) (us.map Prod.fst)) (hun:w0.heap.size<=ua.block/\ua.block<w.heap.size) (hbase:base<=w0.heap.size)
  (ho:w'.ownsRow base Tl 1 lv' (ls++[(⟨ua,uc,us.map Prod.fst⟩:gB)]).length ((ls++[(⟨ua,uc,us.map Prod.fst⟩:gB)]).map gB.val)) (hk:Kept (fun b=>lv.ownBlock≠some b) w w') (hat:lv'.ownBlock=lv.ownBlock∨∃ g,lv'.ownBlock=some g/\w.heap.size<=g):nJ T Tl F base w' lv' (ls++[⟨ua,uc,us.map Prod.fst⟩]) (bs++us):=by
 have hown:∀ b,b<w.heap.size->lv.ownBlock≠some b->lv'.ownBlock≠some b:=fun b hl hn e=>by
  rcases hat with h | ⟨g,h,hg⟩
  ·exact hn (h ▸ e)
  ·rw[h] at e;injection e with e;omega
 have hlo:∀ b,lv.ownBlock=some b->b<w0.heap.size:=fun b e=>(Zy h.own e).2
 refine⟨ho,?_,fun x hx=>?_,fun x hx=>?_,?_⟩
 ·rw[M5,h.flat,Ql]
 ·rcases QX.1 hx with hx | hx
  ·obtain⟨h1,h2,h3⟩:=h.each x hx;have h4:=Q8 h2 hb.size;exact⟨(h1.below hb).aT hk (fun _ a e=>by injection e with e; rw[<- e]; exact h3),Q8 h4 hk.size,hown _ h4 h3⟩
  ·rw[QY] at hx;rw[hx];have hnu:lv.ownBlock≠some ua.block:=fun e=>by have:=hlo _ e; omega
   exact⟨hup.aT hk (fun _ a e=>by injection e with e; rw[<- e]; exact hnu),Q8 hun.2 hk.size,hown _ hun.2 hnu⟩
 ·rcases QX.1 hx with hx | hx
  ·obtain⟨h1,h2,h3⟩:=h.tree x hx;exact⟨(h1.below hb).pushed hk hat,h2,Q8 h3 (Q4 hb.size hk.size)⟩
  ·obtain⟨h1,h2,h3⟩:=hu.tree x hx;exact⟨h1.Je.pushed hk hat,Q4 hbase h2,Q8 h3 hk.size⟩
 ·rw[Ql,List.pairwise_append];refine⟨h.rise,hu.rise,fun x hx y hy=>?_⟩;obtain⟨z,hz,rfl⟩:=Q0.1 hx;obtain⟨z',hz',rfl⟩:=Q0.1 hy;exact Q8 (h.tree z hz).2.2 (hu.tree z' hz').2.1
theorem nJ.lists {T Tl:TypeId} {F:Nat->Prop} {base:Nat} {w:World} {lv:Value} {ls:List gB} {bs:List (Nat × aW)} (h:nJ T Tl F base w lv ls bs):∃ ao cap,lv=.slice ao ls.length cap/\Ww w ao ls:=by
 have hget:∀ i,i<ls.length->ls.getD i Cq∈ls:=fun i hi=>by rw[Xq,ZG hi]; exact Qj hi
 rcases ZT h.own with⟨rfl,h0⟩ | ⟨g,cap,rfl,_,_,hc⟩
 ·have:=Qz h0;subst this;exact⟨none,0,rfl,fun i hi=>absurd hi (by simp),fun i hi=>absurd hi (by simp)⟩
 ·refine⟨_,cap,rfl,fun i hi=>⟨g,0,rfl,?_⟩,fun i hi=>(h.each _ (hget i hi)).1⟩;rw[QE];exact hc i _ (by show _=some (ls.getD i Cq).val; rw[QW,ZG hi,Xq,ZG hi]; rfl)
theorem yH (ts:List af) (q:ae) (conc:List Nat) (l:aW) (g:List ai) (h8:conc.length<=8):0<(dL ts q conc l g).length/\(dL ts q conc l g).length<=17:=by
 have hb:=tV conc l.d.sources ((bZ g).getD ll).d.sources;have h1:=Dy hb (by omega);unfold dL;simp only;refine⟨?_,?_⟩
 ·generalize ib (gP conc l.d.sources ((bZ g).getD ll).d.sources)=cl;have key:∀ (ks:List Int) (acc:List aW),0<acc.length->0<(ks.foldl (gq ts q l ((bZ g).getD ll) g cl) acc).length:=by
   intro ks
   induction ks with
   | nil => intro acc h; exact h
   | cons k ks ih =>
    intro acc h;refine ih _ ?_;unfold gq;simp only;split
    ·split
     ·simp
     ·split <;> simp
    ·exact h
  exact key _ _ (by simp)
 ·refine Q4 (uG ts q l _ g _ _ _) ?_;simp;omega
theorem Tryz.Su:(Tryz.prog.info? 118).map (fun i=>(i.zero,i.size,i.bytes))=some (some (.slice none 0 0),1,24):=by kernel_rfl
theorem Sv (W:World) (base:Nat) (v:Value) (ls:List gB) (hown:W.ownsRow base 118 1 v ls.length (ls.map gB.val)) (hl:ls.length<=1000) (hb:base<=W.heap.size) (x:gB) (ty:TypeId) :
  ∃ v' w',(Builtin.append_ #[248,248] ty #[v,.slice (some (aD W.heap.size 0)) 1 1]).run Tryz.prog (W.alloc (.cells #[x.val] 118))=.ok v' w'/\
   w'.ownsRow base 118 1 v' (ls++[x]).length ((ls++[x]).map gB.val)/\Kept (fun b=>v.ownBlock≠some b) W w'/\(∃ a m c,v' = .slice a m c)/\(v'.ownBlock=v.ownBlock∨v'.ownBlock=some (W.heap.size+1)):=by
 obtain⟨i0,hi,hz0,hz1,hz2⟩:=ZC Tryz.Su;obtain⟨v',w',hr,ho,hk,hs,hat⟩:=ZV (P:=Tryz.prog) W base 248 ty 118 i0 _ 1 24 Tryz.underlying248 hi hz0 hz1 hz2 rfl (by decide) v ls.length _ hown hb [x.val] rfl (fun u hu=>by
  rw[QY] at hu;rw[hu];rfl) hl (by decide)
 exact⟨v',w',hr,by rw[QT,Ql]; exact ho,hk,hs,hat⟩
theorem Sw {F:Nat->Prop} {W0 w:World} {f:aB} {ts:List af} {q:ae} (E:Env f ts q W0) (hz:Fz F W0 w) {ga:Nat} {Aa:Nat->Nat} {oa:List ah} {a:List ai} (hA:aX 120 195 F w ga Aa oa a) (hal:a.length<=20) (gca:Nat) (hao:∀ p∈a,∀ x,p.2=some x->iC q x.2) {gb:Nat} {Ab:Nat->Nat} {ob:List ah} {b:List ai} (hB:aX 120 195 F w gb Ab ob b) (hbl:b.length<=20) (gcb:Nat) (hbo:∀ p∈b,∀ x,p.2=some x->iC q x.2) (hs:(bZ b).isSome=true) :
  Calls Tryz.prog 130 #[.agg (f.cells ts q),.slice (some (aD ga 0)) a.length gca,.slice (some (aD gb 0)) b.length gcb] w (iP 120 100 F w (jg ts q (aA ts q) a b)):=by
 obtain⟨v0,v1,v2,v3,v4,v5,v6,v7,v8,v9,v10,v11,v12,dw,-⟩:=Z8 f ts q;obtain⟨w1,hw1,hb1,hg1⟩:=bu w #[v0,v1,v2,v3,v4,v5,v6,v7,v8,v9,v10,v11,v12] 94;have hPI:=Ba (hA.below hb1) hal gca;obtain⟨PN,VX⟩:∃ P,P=bX a:=⟨_,rfl⟩
 rw[<- VX] at hPI;have hpl:PN.length<=20:=by
  rw[VX];have:=rA a a.length;rw[Qt] at this;omega
 obtain⟨JK,Y1⟩:∃ J:Nat->List aW,J=fun k=>(PN.take k).flatMap fun x=>dL ts q (aA ts q) x.2 b:=⟨_,rfl⟩
 have HST:Hid (∀ k,k<PN.length->JK (k+1)=JK k++dL ts q (aA ts q) (PN.getD k (0,ll)).2 b):=fun k hk=>by
  rw[Y1]
  show (PN.take (k+1)).flatMap _=_
  rw[XB PN (0,ll) hk,QS];simp
 have HJE:Hid (JK PN.length=jg ts q (aA ts q) a b):=by
  show _=_
  rw[Y1]
  show (PN.take PN.length).flatMap _=_
  rw[Qt,VX];rfl
 have h8:(aA ts q).length<=8:=by rw[ZQ]; exact E.eight
 have HJL:Hid (∀ t,0<(dL ts q (aA ts q) t b).length/\(dL ts q (aA ts q) t b).length<=17):=fun t=>yH ts q _ t b h8
 have VY:Hid (∀ k,k<PN.length->aC 120 F w ((PN.map fun x=>Aa x.1).getD k 0) (PN.getD k (0,ll)).2/\iC q (PN.getD k (0,ll)).2):=fun k hk=>by
  have e1:(PN.map fun x=>Aa x.1).getD k 0=Aa (PN[k]).1:=by rw[Xq,QW,ZG hk]; rfl
  have e2:PN.getD k (0,ll)=PN[k]:=by rw[Xq,ZG hk]; rfl
  rw[e1,e2];have hm:PN[k]∈bX a:=by rw[<- VX]; exact Qj hk
  rcases lN a [] _ hm with h0 | ⟨p,hp,e⟩
  ·cases h0
  ·exact⟨hA.tree p hp _ e,hao p hp _ e⟩
 have Ji:Hid (∀ (G:Nat->Prop) (x:World) (ap:Nat) (t:aW),Fz G W0 x->aC 120 G x ap t->iC q t->aX 120 195 G x gb Ab ob b->Calls Tryz.prog 186 #[.agg #[v0,v1,v2,v3,v4,v5,v6,v7,v8,v9,v10,v11,v12],.pointer (some (aD ap 0)),.slice (some (aD gb 0)) b.length gcb] x (iP 120 100 G x (dL ts q (aA ts q) t b))):=fun G x ap t hx ht hto hg=>by
  rw[<- dw];exact MX E hx ap t ht hto hg hbl gcb hbo hs
 have Y0:Hid ((PN.map fun x=>Aa x.1).length=PN.length):=QU _;have HB1:=Zh hb1;have pR:=Zh hg1;have HZ:=Zh hz;have oO:=Zh hB;have HJ0:Hid (JK 0=[]):=by show _=_; rw[Y1]; rfl
 rw[dw];clear dw E hz hA hB hao hbo hs VX Y1 h8 hb1 hg1;generalize jg ts q (aA ts q) a b=R at *;generalize (PN.map fun x=>Aa x.1)=xs at *;obtain⟨al,ajB⟩:∃ n,n=a.length:=⟨_,rfl⟩
 obtain⟨bl,ajC⟩:∃ n,n=b.length:=⟨_,rfl⟩
 rw[<- ajB] at hPI ⊢;rw[<- ajC] at Ji ⊢;clear ajB ajC hal hbl;obtain⟨JT,hJT⟩:∃ J:aW->List aW,J=fun t=>dL ts q (aA ts q) t b:=⟨_,rfl⟩
 have MG:Hid (∀ k,k<PN.length->JK (k+1)=JK k++JT (PN.getD k (0,ll)).2):=by rw[hJT]; exact HST.out
 have ao5:Hid (∀ t,0<(JT t).length/\(JT t).length<=17):=by rw[hJT]; exact HJL.out
 have ao6:Hid (∀ (G:Nat->Prop) (x:World) (ap:Nat) (t:aW),Fz G W0 x->aC 120 G x ap t->iC q t->aX 120 195 G x gb Ab ob b->Calls Tryz.prog 186 #[.agg #[v0,v1,v2,v3,v4,v5,v6,v7,v8,v9,v10,v11,v12],.pointer (some (aD ap 0)),.slice (some (aD gb 0)) bl gcb] x (iP 120 100 G x (JT t))):=by rw[hJT]; exact Ji.out
 clear HST HJL Ji hJT;obtain⟨PL,Sy⟩:∃ n,n=PN.length:=⟨_,rfl⟩
 rw[<- Sy] at MG VY Y0 HJE hpl;obtain⟨PD,hPD⟩:∃ D:Nat->aW,D=fun k=>(PN.getD k (0,ll)).2:=⟨_,rfl⟩
 have ao8:Hid (∀ k,k<PL->JK (k+1)=JK k++JT (PD k)):=by rw[hPD]; exact MG.out
 have ao9:Hid (∀ k,k<PL->aC 120 F w (xs.getD k 0) (PD k)/\iC q (PD k)):=by rw[hPD]; exact VY.out
 clear MG VY Sy hPD PN;go_enter Tryz.func130,Tryz.ntmps130;go_wp2_with fail;refine hPI.mono ?_;rintro e w2 ⟨vp,rfl,ho2,hb2⟩;obtain⟨xa,xc,rfl,hpt,-⟩:=kK ho2 (by rw[Y0.out]; omega);rw[Y0.out];have Oo:=Zh hpt;have HG2:=Zh (pR.out.keep (Q9 (s:=fun b=>b<w1.heap.size) hb2 (fun _ h _=>h)) pR.out.lt);have HB2:=Zh (aG HB1.out hb2);clear hPI ho2 hpt hb2 hw1 pR HB1;go_wp2;go_loopw [7,13] (fun lv xv wr=>∃ (k:Nat) (ls:List gB) (bs:List (Nat × aW)),k<=PL/\xv=.int .i64 (k:Int)/\Hid (bs.map Prod.snd=JK k)/\Hid (ls.length=k/\bs.length<=17*k)/\Hid (nJ 120 118 F w2.heap.size wr lv ls bs)/\Hid (Below w2.heap.size w2 wr)) (fun _ xv _=>PL-(intOf xv).toNat)
 case atStart=>exact⟨0,[],[],QQ _,rfl,HJ0.out.symm,⟨rfl,by simp⟩,nJ.nil _ _ _ _ _,Qp _ _⟩
 case round=>
  obtain⟨k,ls,bs,hk,rfl,xI,Mk,Ir,jV⟩:=hrel;obtain⟨la,lc,rfl,hlists⟩:=Ir.out.lists;have Jr:=Zh hlists;by_cases hlt:k<PL
  ·obtain⟨kb,vU,rfl,hkc⟩:=cK.get (Oo.out.below jV.out) (i:=k) (by rw[Y0.out]; exact hlt);have hck:=hkc k (by rw[Y0.out]; exact hlt);obtain⟨ap,hap⟩:∃ x,x=xs.getD k 0:=⟨_,rfl⟩
   rw[<- hap] at hck;have hTk:=ao9.out k hlt;rw[<- hap] at hTk;have hBw:=aG HB2.out jV.out;have hv:∀ z,(Value.slice la ls.length lc).ownBlock=some z->w2.heap.size<=z/\z<wr.heap.size:=fun z e=>Zy Ir.out.own e
   have hJO:=ao6.out (Fv F (.slice la ls.length lc)) wr ap (PD k) ((HZ.out.next hBw).own (fun z e=>by have:=hv z e; have:=HZ.out.below.size; have:=HB2.out.size; omega)) (hTk.1.own hBw (fun z e=>by have:=hv z e; have:=HB2.out.size; omega)) hTk.2 ((oO.out.mono (G:=Fv F (.slice la ls.length lc)) (fun b hb h=>⟨h,fun e=>by have:=hv b e; have:=HB2.out.size; omega⟩)).below hBw);have pX:=Zh (ao8.out k hlt);have ajD:=Zh (ao5.out (PD k));have hf:=HG2.out.keep (Q9 (s:=fun b=>b<w2.heap.size) jV.out (fun _ h _=>h)) HG2.out.lt;obtain⟨a0,a1,a2,a3,a4,a5,a6,a7,a8,a9,fI,fU,a12⟩:=hf.k13;generalize JT (PD k)=JX at *;obtain⟨lln,afL⟩:∃ n,n=ls.length:=⟨_,rfl⟩
   rw[<- afL] at hJO ⊢;have mH:=Zh afL;clear hkc hap hTk hBw hv hf afL;go_wp2_with fail;refine hJO.mono ?_;rintro e w3 ⟨u,us,rfl,Wy,hin,hb3⟩;rw[mH.out] at hin;have hul:us.length=JX.length:=by rw[<- Wy,QU]
   have ajE:=hin.own;have hfl:=hin.len;have afN:0<us.length:=by rw[hul]; exact ajD.out.1
   have ajF:us.length<=17:=by rw[hul]; exact ajD.out.2
   obtain⟨uo,uc,hue,hup,-,-,hun⟩:=kK (xs:=us.map Prod.fst) ajE (by rw[hfl]; omega);obtain⟨ub,Sz,rfl,Wz⟩:=cK.get hup (i:=0) (by rw[hfl]; exact afN);rw[hfl] at hue;have ajG:=hun _ rfl;have hlen:=Mk.out;have ajH:ub<w3.heap.size:=Zf (Wz 0 (by rw[hfl]; exact afN));obtain⟨v5,y5,pO,lD,hk5,⟨za,zm,zc,rfl⟩,rq⟩:=Sv w3 w2.heap.size (.slice la ls.length lc) ls (Z0 Ir.out.own hb3) (by omega) (Q4 jV.out.size hb3.size) ⟨(aD ub Sz),uc,us.map Prod.fst⟩ 248;have HN5:Hid (nJ 120 118 F w2.heap.size y5 (.slice za zm zc) (ls++[⟨(aD ub Sz),uc,us.map Prod.fst⟩]) (bs++us)):=Ir.out.push hb3 hin hue hup ⟨ajG,ajH⟩ jV.out.size lD hk5 (by
    rcases rq with h | h
    ·exact .inl h
    ·exact .inr ⟨_,h,by omega⟩)
   have HF5:Hid ((bs++us).map Prod.snd=JK (k+1)/\(ls++[(⟨(aD ub Sz),uc,us.map Prod.fst⟩:gB)]).length=k+1/\(bs++us).length<=17*(k+1)/\Below w2.heap.size w2 y5):=⟨by rw[Ql,xI.out,Wy,pX.out],by simp; omega,by rw[QT]; omega,(aG jV.out hb3).trans (hk5.below (Q4 jV.out.size hb3.size) (fun b hb e=>by have:=(Zy Ir.out.own e).1; omega))⟩
   have hval:(⟨(aD ub Sz),uc,us.map Prod.fst⟩:gB).val=.slice (some (aD ub Sz)) us.length uc:=by unfold gB.val; rw[hfl]
   rw[hval] at pO;rw[<- mH.out] at pO;generalize ls++[(⟨(aD ub Sz),uc,us.map Prod.fst⟩:gB)]=ls' at *;generalize bs++us=bs' at *;subst hue;clear hJO Wy hin hb3 hul ajE hfl afN ajF hup hun Wz ajG hlen ajH lD hk5 rq hval a0 a1 a2 a3 a4 a5 a6 a7 a8 a9 fI fU a12 hck;go_wp2_with (first | (at_builtin; refine ZN rfl (.tmp 17) (.tmp 22) 248 rfl (.slice la lln lc) (.slice (some (aD w3.heap.size 0)) 1 1) (.slice za zm zc) y5 rfl rfl pO ?_));clear pO;go_wp2;go_roundw
   case rel=>exact⟨k+1,ls',bs',by omega,by go_num,HF5.out.1,⟨HF5.out.2.1,HF5.out.2.2.1⟩,HN5.out,HF5.out.2.2.2⟩
   case measure=>simp[intOf]; omega
  ·have hkp:PL=k:=by omega
   have hlen:=Mk.out;have hfl:(dY ls).length=bs.length:=by rw[Ir.out.flat,QU]
   have Od:=Jq la lc ls wr Jr.out (by omega) (by rw[hfl]; omega);have gQ:Hid (bs.map Prod.snd=R):=by
    have:=xI.out;rw[<- hkp,HJE.out] at this;exact this
   clear hkp hlen hfl;go_wp2_with fail;refine Od.mono ?_;rintro e w4 ⟨vr,rfl,mU,hb4⟩;have HF:Hid (iP 120 100 F w R (.returned vr) w4):=by
    rw[Ir.out.flat] at mU;have hbw:=aG HB2.out jV.out;refine⟨vr,bs,rfl,gQ.out,⟨?_,fun x hx=>?_,Ir.out.rise⟩,aG hbw hb4⟩
    ·rw[QU] at mU;exact Z5 mU hbw.size
    ·obtain⟨h1,h2,h3⟩:=Ir.out.tree x hx;exact⟨h1.Je.own hb4 (fun g e=>(Zy mU e).1),Q4 HB2.out.size h2,Q8 h3 hb4.size⟩
   obtain⟨ra',rm,rc,rfl⟩:=ZA mU;clear Od mU hb4;go_wp2;go_ret;exact HF.out
