import Derived.Test.YtlpbelhfpoilpaaGreatDoorRE35
set_option linter.all false
set_option maxRecDepth 100000
set_option maxHeartbeats 16000000
namespace Go.Proofs.Zz
open Go.RowKit Go.Shelf
variable {T Tl:TypeId} {F:Nat->Prop} {base:Nat} {w:World} {lv:Value} {ls:List iT} {bs:List (Nat × aQ)}
structure pK(T Tl:TypeId)(F:Nat->Prop)(base:Nat)(w:World)(lv:Value)(ls:List iT)(bs:List (Nat × aQ)):Prop where
 own:w.ownsRow base Tl 1 lv ls.length (ls.map iT.val)
 flat:fD ls=bs.map Prod.fst
 each:∀ x∈ls,dB w (some x.ad) x.xs/\x.ad.block<w.heap.size/\lv.ownBlock≠some x.ad.block
 tree:∀ x∈bs,aG T (Fv F lv) w x.1 x.2/\base<=x.1/\x.1<w.heap.size
 rise:(bs.map Prod.fst).Pairwise (· < ·)
theorem pK.nil(T Tl:TypeId)(F:Nat->Prop)(base:Nat)(w:World):pK T Tl F base w (.slice none 0 0) [] []:=
 ⟨ZV _ _ _ _,rfl,(fun x hx=>by cases hx),(fun x hx=>by cases hx),List.Pairwise.nil⟩
theorem OZ(ls:List iT)(x:iT):fD (ls++[x])=fD ls++x.xs:=by
 unfold fD;rw[Qs,List.flatten_append];simp
theorem pK.push{Tp:TypeId}{w0 w':World}{lv' u:Value}{us:List (Nat × aQ)}(h:pK T Tl F base w0 lv ls bs)(hb:Bw w0 w)(hu:bU T Tp (Fv F lv) w0.heap.size w u us){ua:Addr}{uc:Nat}(hue:u=.slice (some ua) us.length uc)(hup:dB w (some ua) (us.map Prod.fst))(hun:w0.heap.size<=ua.block/\ua.block<w.heap.size)(hbase:base<=w0.heap.size)
  (ho:w'.ownsRow base Tl 1 lv' (ls++[(⟨ua,uc,us.map Prod.fst⟩:iT)]).length ((ls++[(⟨ua,uc,us.map Prod.fst⟩:iT)]).map iT.val)) (hk:Kept (fun b=>lv.ownBlock≠some b) w w') (hat:lv'.ownBlock=lv.ownBlock∨∃ g,lv'.ownBlock=some g/\w.heap.size<=g):pK T Tl F base w' lv' (ls++[⟨ua,uc,us.map Prod.fst⟩]) (bs++us):=by
 have hown:∀ b,b<w.heap.size->lv.ownBlock≠some b->lv'.ownBlock≠some b:=fun b hl hn e=>by
  rcases hat with h | ⟨g,h,hg⟩
  ·exact hn (h ▸ e)
  ·rw[h]at e;injection e with e;omega
 have hlo:∀ b,lv.ownBlock=some b->b<w0.heap.size:=fun b e=>(ZO h.own e).2
 refine⟨ho,?_,fun x hx=>?_,fun x hx=>?_,?_⟩
 ·rw[OZ,h.flat,Qs]
 ·rcases ZT.1 hx with hx | hx
  ·obtain⟨h1,h2,h3⟩:=h.each x hx;have h4:=Q6 h2 hb.size;exact⟨(h1.below hb).aX hk (fun _ a e=>by injection e with e; rw[<- e]; exact h3),Q6 h4 hk.size,hown _ h4 h3⟩
  ·rw[ZR]at hx;rw[hx];have hnu:lv.ownBlock≠some ua.block:=fun e=>by have:=hlo _ e; omega
   exact⟨hup.aX hk (fun _ a e=>by injection e with e; rw[<- e]; exact hnu),Q6 hun.2 hk.size,hown _ hun.2 hnu⟩
 ·rcases ZT.1 hx with hx | hx
  ·obtain⟨h1,h2,h3⟩:=h.tree x hx;exact⟨(h1.below hb).pushed hk hat,h2,Q6 h3 (Zl hb.size hk.size)⟩
  ·obtain⟨h1,h2,h3⟩:=hu.tree x hx;exact⟨h1.KG.pushed hk hat,Zl hbase h2,Q6 h3 hk.size⟩
 ·rw[Qs,List.pairwise_append];refine⟨h.rise,hu.rise,fun x hx y hy=>?_⟩;obtain⟨z,hz,rfl⟩:=Zi.1 hx;obtain⟨z',hz',rfl⟩:=Zi.1 hy;exact Q6 (h.tree z hz).2.2 (hu.tree z' hz').2.1
theorem pK.lists(h:pK T Tl F base w lv ls bs):∃ ao cap,lv=.slice ao ls.length cap/\Y3 w ao ls:=by
 have hget:∀ i,i<ls.length->ls.getD i Ev∈ls:=fun i hi=>by rw[XH,ZX hi]; exact Qp hi
 rcases Xd h.own with⟨rfl,h0⟩ | ⟨g,cap,rfl,_,_,hc⟩
 ·have:=QL h0;subst this;exact⟨none,0,rfl,fun i hi=>absurd hi (by simp),fun i hi=>absurd hi (by simp)⟩
 ·refine⟨_,cap,rfl,fun i hi=>⟨g,0,rfl,?_⟩,fun i hi=>(h.each _ (hget i hi)).1⟩;rw[QQ];exact hc i _ (by show _=some (ls.getD i Ev).val; rw[Ze,ZX hi,XH,ZX hi]; rfl)
theorem Ai(ts:List af)(q:ae)(conc:List Nat)(l:aQ)(g:List aj)(h8:conc.length<=8):0<(dS ts q conc l g).length/\(dS ts q conc l g).length<=17:=by
 have hb:=qQ conc l.d.sources ((bL g).getD mR).d.sources;have h1:=FQ hb (by omega);unfold dS;simp only;refine⟨?_,?_⟩
 ·generalize dG (bP conc l.d.sources ((bL g).getD mR).d.sources)=cl;have key:∀ (ks:List Int) (acc:List aQ),0<acc.length->0<(ks.foldl (ik ts q l ((bL g).getD mR) g cl) acc).length:=by
   intro ks
   induction ks with
   | nil => intro acc h; exact h
   | cons k ks ih =>
    intro acc h;refine ih _ ?_;unfold ik;simp only;split
    ·split
     ·simp
     ·split <;> simp
    ·exact h
  exact key _ _ (by simp)
 ·refine Zl (vZ ts q l _ g _ _ _) ?_;simp;omega
theorem Tryz.UJ:(Tryz.prog.info? 176).map (fun i=>(i.zero,i.size,i.bytes))=some (some (.slice none 0 0),1,24):=by kernel_rfl
theorem UL(W:World)(base:Nat)(v:Value)(ls:List iT)(hown:W.ownsRow base 176 1 v ls.length (ls.map iT.val))(hl:ls.length<=1000)(hb:base<=W.heap.size)(x:iT)(ty:TypeId) :
  ∃ v' w',(Builtin.append_ #[351,351] ty #[v,.slice (some (aD W.heap.size 0)) 1 1]).run Tryz.prog (W.alloc (.cells #[x.val] 176))=.ok v' w'/\
   w'.ownsRow base 176 1 v' (ls++[x]).length ((ls++[x]).map iT.val)/\Kept (fun b=>v.ownBlock≠some b) W w'/\(∃ a m c,v' = .slice a m c)/\(v'.ownBlock=v.ownBlock∨v'.ownBlock=some (W.heap.size+1)):=by
 obtain⟨i0,hi,hz0,hz1,hz2⟩:=ZU Tryz.UJ;obtain⟨v',w',hr,ho,hk,hs,hat⟩:=iG (P:=Tryz.prog) W base 351 ty 176 i0 _ 1 24 Tryz.underlying351 hi hz0 hz1 hz2 rfl (by decide) v ls.length _ hown hb [x.val] rfl (fun u hu=>by
  rw[ZR]at hu;rw[hu];rfl) hl (by decide)
 exact⟨v',w',hr,by rw[Zb,Qs]; exact ho,hk,hs,hat⟩
theorem UM{W0:World}{f:au}{ts:List af}{q:ae}(E:Env f ts q W0)(hz:Fz F W0 w){ga:Nat}{Aa:Nat->Nat}{oa:List ah}{a:List aj}(hA:bz 178 297 F w ga Aa oa a)(hal:a.length<=20)(gca:Nat)(hao:∀ p∈a,∀ x,p.2=some x->jB q x.2){gb:Nat}{Ab:Nat->Nat}{ob:List ah}{b:List aj}(hB:bz 178 297 F w gb Ab ob b)(hbl:b.length<=20)(gcb:Nat)(hbo:∀ p∈b,∀ x,p.2=some x->jB q x.2)(hs:(bL b).isSome=true) :
  Calls Tryz.prog 243 #[.agg (f.cells ts q),.slice (some (aD ga 0)) a.length gca,.slice (some (aD gb 0)) b.length gcb] w (jP 178 172 F w (jH ts q (aF ts q) a b)):=by
 obtain⟨v0,v1,v2,v3,v4,v5,v6,v7,v8,v9,v10,v11,v12,bB,-⟩:=Xu f ts q;obtain⟨w1,hw1,hb1,hg1⟩:=aU w #[v0,v1,v2,v3,v4,v5,v6,v7,v8,v9,v10,v11,v12] 90;have hPI:=Cz (hA.below hb1) hal gca;obtain⟨PN,YG⟩:∃ P,P=dw a:=⟨_,rfl⟩
 rw[<- YG]at hPI;have hpl:PN.length<=20:=by
  rw[YG];have:=sU a a.length;rw[QA]at this;omega
 obtain⟨JK,hJK⟩:∃ J:Nat->List aQ,J=fun k=>(PN.take k).flatMap fun x=>dS ts q (aF ts q) x.2 b:=⟨_,rfl⟩
 have HST:Hid (∀ k,k<PN.length->JK (k+1)=JK k++dS ts q (aF ts q) (PN.getD k (0,mR)).2 b):=fun k hk=>by
  rw[hJK]
  show (PN.take (k+1)).flatMap _=_
  rw[XL PN (0,mR) hk,Za];simp
 have HJE:Hid (JK PN.length=jH ts q (aF ts q) a b):=by
  show _=_
  rw[hJK]
  show (PN.take PN.length).flatMap _=_
  rw[QA,YG];rfl
 have h8:(aF ts q).length<=8:=by rw[Xa]; exact E.eight
 have HJL:Hid (∀ t,0<(dS ts q (aF ts q) t b).length/\(dS ts q (aF ts q) t b).length<=17):=fun t=>Ai ts q _ t b h8
 have YH:Hid (∀ k,k<PN.length->aG 178 F w ((PN.map fun x=>Aa x.1).getD k 0) (PN.getD k (0,mR)).2/\jB q (PN.getD k (0,mR)).2):=fun k hk=>by
  have e1:(PN.map fun x=>Aa x.1).getD k 0=Aa (PN[k]).1:=by rw[XH,Ze,ZX hk]; rfl
  have e2:PN.getD k (0,mR)=PN[k]:=by rw[XH,ZX hk]; rfl
  rw[e1,e2];have hm:PN[k]∈dw a:=by rw[<- YG]; exact Qp hk
  rcases lU a [] _ hm with h0 | ⟨p,hp,e⟩
  ·cases h0
  ·exact⟨hA.tree p hp _ e,hao p hp _ e⟩
 have La:Hid (∀ (G:Nat->Prop) (x:World) (ap:Nat) (t:aQ),Fz G W0 x->aG 178 G x ap t->jB q t->bz 178 297 G x gb Ab ob b->Calls Tryz.prog 310 #[.agg #[v0,v1,v2,v3,v4,v5,v6,v7,v8,v9,v10,v11,v12],.pointer (some (aD ap 0)),.slice (some (aD gb 0)) b.length gcb] x (jP 178 172 G x (dS ts q (aF ts q) t b))):=fun G x ap t hx ht hto hg=>by
  rw[<- bB];exact OX E hx ap t ht hto hg hbl gcb hbo hs
 have HLM:Hid ((PN.map fun x=>Aa x.1).length=PN.length):=Zc _;have HB1:=Zh hb1;have qU:=Zh hg1;have HZ:=Zh hz;have qN:=Zh hB;have HJ0:Hid (JK 0=[]):=by show _=_; rw[hJK]; rfl
 rw[bB];clear bB E hz hA hB hao hbo hs YG hJK h8 hb1 hg1;generalize jH ts q (aF ts q) a b=R at *;generalize (PN.map fun x=>Aa x.1)=xs at *;obtain⟨al,alI⟩:∃ n,n=a.length:=⟨_,rfl⟩
 obtain⟨bl,alJ⟩:∃ n,n=b.length:=⟨_,rfl⟩
 rw[<- alI]at hPI ⊢;rw[<- alJ]at La ⊢;clear alI alJ hal hbl;obtain⟨JT,hJT⟩:∃ J:aQ->List aQ,J=fun t=>dS ts q (aF ts q) t b:=⟨_,rfl⟩
 have OL:Hid (∀ k,k<PN.length->JK (k+1)=JK k++JT (PN.getD k (0,mR)).2):=by rw[hJT]; exact HST.o
 have arM:Hid (∀ t,0<(JT t).length/\(JT t).length<=17):=by rw[hJT]; exact HJL.o
 have arN:Hid (∀ (G:Nat->Prop) (x:World) (ap:Nat) (t:aQ),Fz G W0 x->aG 178 G x ap t->jB q t->bz 178 297 G x gb Ab ob b->Calls Tryz.prog 310 #[.agg #[v0,v1,v2,v3,v4,v5,v6,v7,v8,v9,v10,v11,v12],.pointer (some (aD ap 0)),.slice (some (aD gb 0)) bl gcb] x (jP 178 172 G x (JT t))):=by rw[hJT]; exact La.o
 clear HST HJL La hJT;obtain⟨PL,hPL⟩:∃ n,n=PN.length:=⟨_,rfl⟩
 rw[<- hPL]at OL YH HLM HJE hpl;obtain⟨PD,hPD⟩:∃ D:Nat->aQ,D=fun k=>(PN.getD k (0,mR)).2:=⟨_,rfl⟩
 have arP:Hid (∀ k,k<PL->JK (k+1)=JK k++JT (PD k)):=by rw[hPD]; exact OL.o
 have arQ:Hid (∀ k,k<PL->aG 178 F w (xs.getD k 0) (PD k)/\jB q (PD k)):=by rw[hPD]; exact YH.o
 clear OL YH hPL hPD PN;go_enter Tryz.func243,Tryz.ntmps243;go_wp2_with fail;refine hPI.mono ?_;rintro e w2 ⟨vp,rfl,ho2,hb2⟩;obtain⟨xa,xc,rfl,hpt,-⟩:=mi ho2 (by rw[HLM.o]; omega);rw[HLM.o];have RX:=Zh hpt;have HG2:=Zh (qU.o.keep (Zo (s:=fun b=>b<w1.heap.size) hb2 (fun _ h _=>h)) qU.o.lt);have HB2:=Zh (aA HB1.o hb2);clear hPI ho2 hpt hb2 hw1 qU HB1;go_wp2;go_loopw [7,13] (fun lv xv wr=>∃ (k:Nat) (ls:List iT) (bs:List (Nat × aQ)),k<=PL/\xv=.int .i64 (k:Int)/\Hid (bs.map Prod.snd=JK k)/\Hid (ls.length=k/\bs.length<=17*k)/\Hid (pK 178 176 F w2.heap.size wr lv ls bs)/\Hid (Bw w2 wr)) (fun _ xv _=>PL-(intOf xv).toNat)
 case atStart=>exact⟨0,[],[],Q8 _,rfl,HJ0.o.symm,⟨rfl,by simp⟩,pK.nil _ _ _ _ _,Qw _ _⟩
 case round=>
  obtain⟨k,ls,bs,hk,rfl,zw,Um,DF,jV⟩:=hrel;obtain⟨la,lc,rfl,hlists⟩:=DF.o.lists;have HLS:=Zh hlists;by_cases hlt:k<PL
  ·obtain⟨kb,yl,rfl,hkc⟩:=dB.get (RX.o.below jV.o) (i:=k) (by rw[HLM.o]; exact hlt);have hck:=hkc k (by rw[HLM.o]; exact hlt);obtain⟨ap,hap⟩:∃ x,x=xs.getD k 0:=⟨_,rfl⟩
   rw[<- hap]at hck;have hTk:=arQ.o k hlt;rw[<- hap]at hTk;have hBw:=aA HB2.o jV.o;have hv:∀ z,(Value.slice la ls.length lc).ownBlock=some z->w2.heap.size<=z/\z<wr.heap.size:=fun z e=>ZO DF.o.own e
   have hJO:=arN.o (Fv F (.slice la ls.length lc)) wr ap (PD k) ((HZ.o.next hBw).own (fun z e=>by have:=hv z e; have:=HZ.o.below.size; have:=HB2.o.size; omega)) (hTk.1.own hBw (fun z e=>by have:=hv z e; have:=HB2.o.size; omega)) hTk.2 ((qN.o.mono (G:=Fv F (.slice la ls.length lc)) (fun b hb h=>⟨h,fun e=>by have:=hv b e; have:=HB2.o.size; omega⟩)).below hBw);have oz:=Zh (arP.o k hlt);have alK:=Zh (arM.o (PD k));have hf:=HG2.o.keep (Zo (s:=fun b=>b<w2.heap.size) jV.o (fun _ h _=>h)) HG2.o.lt;obtain⟨a0,a1,a2,a3,a4,a5,a6,a7,a8,a9,iy,iL,a12⟩:=hf.k13;generalize JT (PD k)=JX at *;obtain⟨lln,ahC⟩:∃ n,n=ls.length:=⟨_,rfl⟩
   rw[<- ahC]at hJO ⊢;have wX:=Zh ahC;clear hkc hap hTk hBw hv hf ahC;go_wp2_with fail;refine hJO.mono ?_;rintro e w3 ⟨u,us,rfl,Y4,hin,hb3⟩;rw[wX.o]at hin;have hul:us.length=JX.length:=by rw[<- Y4,Zc]
   have alL:=hin.own;have hfl:=hin.len;have ahE:0<us.length:=by rw[hul]; exact alK.o.1
   have alM:us.length<=17:=by rw[hul]; exact alK.o.2
   obtain⟨uo,uc,hue,hup,-,-,hun⟩:=mi (xs:=us.map Prod.fst) alL (by rw[hfl]; omega);obtain⟨ub,UN,rfl,Y5⟩:=dB.get hup (i:=0) (by rw[hfl]; exact ahE);rw[hfl]at hue;have alN:=hun _ rfl;have hlen:=Um.o;have alO:ub<w3.heap.size:=Zv (Y5 0 (by rw[hfl]; exact ahE));obtain⟨v5,y5,vE,ug,hk5,⟨za,zm,zc,rfl⟩,tC⟩:=UL w3 w2.heap.size (.slice la ls.length lc) ls (Xh DF.o.own hb3) (by omega) (Zl jV.o.size hb3.size) ⟨(aD ub UN),uc,us.map Prod.fst⟩ 351;have HN5:Hid (pK 178 176 F w2.heap.size y5 (.slice za zm zc) (ls++[⟨(aD ub UN),uc,us.map Prod.fst⟩]) (bs++us)):=DF.o.push hb3 hin hue hup ⟨alN,alO⟩ jV.o.size ug hk5 (by
    rcases tC with h | h
    ·exact .inl h
    ·exact .inr ⟨_,h,by omega⟩)
   have HF5:Hid ((bs++us).map Prod.snd=JK (k+1)/\(ls++[(⟨(aD ub UN),uc,us.map Prod.fst⟩:iT)]).length=k+1/\(bs++us).length<=17*(k+1)/\Bw w2 y5):=⟨by rw[Qs,zw.o,Y4,oz.o],by simp; omega,by rw[Zb]; omega,(aA jV.o hb3).trans (hk5.below (Zl jV.o.size hb3.size) (fun b hb e=>by have:=(ZO DF.o.own e).1; omega))⟩
   have hval:(⟨(aD ub UN),uc,us.map Prod.fst⟩:iT).val=.slice (some (aD ub UN)) us.length uc:=by unfold iT.val; rw[hfl]
   rw[hval]at vE;rw[<- wX.o]at vE;generalize ls++[(⟨(aD ub UN),uc,us.map Prod.fst⟩:iT)]=ls' at *;generalize bs++us=bs' at *;subst hue;clear hJO Y4 hin hb3 hul alL hfl ahE alM hup hun Y5 alN hlen alO ug hk5 tC hval a0 a1 a2 a3 a4 a5 a6 a7 a8 a9 iy iL a12 hck;go_wp2_with (first | (at_builtin; refine Z8 rfl (.tmp 17) (.tmp 22) 351 rfl (.slice la lln lc) (.slice (some (aD w3.heap.size 0)) 1 1) (.slice za zm zc) y5 rfl rfl vE ?_));clear vE;go_wp2;go_roundw
   case rel=>exact⟨k+1,ls',bs',by omega,by go_num,HF5.o.1,⟨HF5.o.2.1,HF5.o.2.2.1⟩,HN5.o,HF5.o.2.2.2⟩
   case measure=>simp[intOf]; omega
  ·have hkp:PL=k:=by omega
   have hlen:=Um.o;have hfl:(fD ls).length=bs.length:=by rw[DF.o.flat,Zc]
   have DX:=K9 la lc ls wr HLS.o (by omega) (by rw[hfl]; omega);have gz:Hid (bs.map Prod.snd=R):=by
    have:=zw.o;rw[<- hkp,HJE.o]at this;exact this
   clear hkp hlen hfl;go_wp2_with fail;refine DX.mono ?_;rintro e w4 ⟨vr,rfl,zA,hb4⟩;have HF:Hid (jP 178 172 F w R (.returned vr) w4):=by
    rw[DF.o.flat]at zA;have hbw:=aA HB2.o jV.o;refine⟨vr,bs,rfl,gz.o,⟨?_,fun x hx=>?_,DF.o.rise⟩,aA hbw hb4⟩
    ·rw[Zc]at zA;exact mX zA hbw.size
    ·obtain⟨h1,h2,h3⟩:=DF.o.tree x hx;exact⟨h1.KG.own hb4 (fun g e=>(ZO zA e).1),Zl HB2.o.size h2,Q6 h3 hb4.size⟩
   obtain⟨ra',rm,rc,rfl⟩:=ZP zA;clear DX zA hb4;go_wp2;go_ret;exact HF.o
