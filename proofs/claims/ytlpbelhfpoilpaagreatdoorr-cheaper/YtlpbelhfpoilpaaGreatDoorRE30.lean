import Derived.Test.YtlpbelhfpoilpaaGreatDoorRE29
set_option linter.all false
set_option maxRecDepth 100000
set_option maxHeartbeats 16000000
namespace Go.Proofs.Zz
open Go.RowKit Go.Shelf
variable {Tl Tn:TypeId} {F Ft:Nat->Prop} {a base:Nat} {w w':World} {u v v':Value} {nv:List ai} {ls:List (Value × List ai)} {t:aQ}
theorem ad6{n:ai}:∀ {ls:List (List ai)},ls.length<=2->∀ l∈ls,l.length<=(qE n ls).length/\∀ m∈l,∃ m'∈qE n ls,m'.kind=m.kind
 | [],_,l,h => by cases h
 | [a],_,l,h => by
  rw[ZR]at h;subst h;refine⟨by simp[qE,fU],fun m hm=>⟨bJ 0 m,?_,rfl⟩⟩;unfold qE fU;simp;exact .inl ⟨m,hm,rfl⟩
 | [a,b],_,l,h => by
  rcases Q4.1 h with h | h
  ·subst h;refine⟨by simp[qE,fU] <;> omega,fun m hm=>⟨bJ 0 m,?_,rfl⟩⟩;unfold qE fU;simp;exact .inl ⟨m,hm,rfl⟩
  ·rw[ZR]at h;subst h;refine⟨by simp[qE,fU] <;> omega,fun m hm=>⟨bJ a.length m,?_,rfl⟩⟩;unfold qE fU;simp;exact .inr (.inl ⟨m,hm,rfl⟩)
 | _::_::_::_,h,_,_ => by simp at h
theorem fI.pushed(h:fI Tn (Fv F v) base w u nv)(hk:Kept (fun b=>v.ownBlock≠some b) w w')(hat:v'.ownBlock=v.ownBlock∨∃ g,v'.ownBlock=some g/\w.heap.size<=g):fI Tn (Fv F v') base w' u nv:=by
 have h1:=h.mono (G:=fun b=>Fv F v b/\Fv F v' b) (fun b hb hF=>⟨hF,hF.1,fun e=>by
  rcases hat with h | ⟨g,h,hg⟩
  ·exact hF.2 (h ▸ e)
  ·rw[h]at e;injection e with e;omega⟩)
 exact(h1.aX (hk.mono fun b _ hb=>hb.1.2)).mono fun _ _ h=>h.2
structure wM(Tl Tn:TypeId)(F:Nat->Prop)(base:Nat)(w:World)(v:Value)(ls:List (Value × List ai)):Prop where
 own:w.ownsRow base Tl 1 v ls.length (ls.map Prod.fst)
 node:∀ x∈ls,∃ b,fI Tn (Fv F v) b w x.1 x.2
theorem wM.slices(h:wM Tl Tn F base w v ls):∃ ao cap,v=.slice ao ls.length cap/\Df w ao (ls.map Prod.fst):=by
 rcases Xd h.own with⟨rfl,h1⟩ | ⟨g,cap,rfl,_,_,hc⟩
 ·refine⟨none,0,by rw[h1],fun i hi=>?_⟩;rw[Zc]at hi;omega
 ·refine⟨some (aD g 0),cap,rfl,fun i hi=>⟨g,0,rfl,?_⟩⟩;rw[QQ];refine hc i _ ?_
  show _=some ((ls.map Prod.fst).getD i (.slice none 0 0))
  rw[XH,ZX hi];rfl
theorem wM.push{base':Nat}{w0:World}(h:wM Tl Tn F base w0 v ls)(hb:Bw w0 w)(hu:fI Tn (Fv F v) base' w u nv)
  (ho:w'.ownsRow base Tl 1 v' (ls.map Prod.fst++[u]).length (ls.map Prod.fst++[u])) (hk:Kept (fun b=>v.ownBlock≠some b) w w') (hat:v'.ownBlock=v.ownBlock∨∃ g,v'.ownBlock=some g/\w.heap.size<=g):wM Tl Tn F base w' v' (ls++[(u,nv)]):=by
 refine⟨?_,fun x hx=>?_⟩
 ·rw[Zb,Zc]at ho;rw[Qs,Zb];exact ho
 ·rcases ZT.1 hx with hx | hx
  ·obtain⟨b,hN⟩:=h.node x hx;exact⟨b,(hN.below hb).pushed hk hat⟩
  ·rw[ZR]at hx;rw[hx];exact⟨base',hu.pushed hk hat⟩
theorem Tryz.Vm:(Tryz.prog.info? 27).map (fun i=>(i.zero,i.size,i.bytes))=some (some (.slice none 0 0),1,24):=by kernel_rfl
theorem Vn(W:World)(base:Nat)(v:Value)(vs:List Value)(hown:W.ownsRow base 27 1 v vs.length vs)(hl:vs.length<=1000)(hb:base<=W.heap.size)(a:Option Addr)(m c:Nat)(ty:TypeId) :
  ∃ v' w',(Builtin.append_ #[48,48] ty #[v,.slice (some (aD W.heap.size 0)) 1 1]).run Tryz.prog (W.alloc (.cells #[.slice a m c] 27))=.ok v' w'/\
   w'.ownsRow base 27 1 v' (vs++[(Value.slice a m c)]).length (vs++[(Value.slice a m c)])/\Kept (fun b=>v.ownBlock≠some b) W w'/\(∃ a m c,v' = .slice a m c)/\(v'.ownBlock=v.ownBlock∨v'.ownBlock=some (W.heap.size+1)):=by
 obtain⟨i0,hi,hz0,hz1,hz2⟩:=ZU Tryz.Vm;obtain⟨v',w',hr,ho,hk,hs,hat⟩:=iG (P:=Tryz.prog) W base 48 ty 27 i0 _ 1 24 Tryz.underlying48 hi hz0 hz1 hz2 rfl (by decide) v vs.length _ hown hb [.slice a m c] rfl (fun u hu=>by
  rw[ZR]at hu;rw[hu];rfl) hl (by decide)
 exact⟨v',w',hr,by rw[Zb]; exact ho,hk,hs,hat⟩
theorem PU(k:Nat)(IH:∀ {Ft:Nat->Prop} {w:World} {a:Nat} {t:aQ},nN 178 Ft k w a t->bQ w 0->(∀ m∈t.ns,1<=m.kind/\m.kind<=10)->t.ns.length<=900->∀ {F:Nat->Prop},(∀ b,w.heap.size<=b->F b)->Calls Tryz.prog 108 #[.pointer (some (aD a 0))] w (jm 58 F w t.ns))
  (ht:nN 178 Ft (k+1) w a t) (hs:bQ w 0) (hkd:∀ m∈t.ns,1<=m.kind/\m.kind<=10) (hln:t.ns.length<=900) (hF:∀ b,w.heap.size<=b->F b):Calls Tryz.prog 108 #[.pointer (some (aD a 0))] w (jm 58 F w t.ns):=by
 obtain⟨p,n,bo,bc,bs,hB,hx⟩:=ht;have hsub:=ad6 (n:=n) (ls:=bs.map fun x=>x.2.ns) (by rw[Zc]; exact hB.two);rw[<- hB.lay]at hsub;have HIH:Hid (∀ (x:World) (G:Nat->Prop) (i:Nat),i<bs.length->Bw w x->(∀ b,x.heap.size<=b->G b)->Calls Tryz.prog 108 #[.pointer (some (aD ((bs.map Prod.fst).getD i 0) 0))] x (jm 58 G x (((bs.map fun x=>x.2.ns)).getD i []))):=fun x G i hi hb hG=>by
  have e1:(bs.map Prod.fst).getD i 0=(bs[i]).1:=by rw[XH,Ze,ZX hi]; rfl
  have e2:(bs.map fun x=>x.2.ns).getD i []=(bs[i]).2.ns:=by rw[XH,Ze,ZX hi]; rfl
  rw[e1,e2];have hm:(bs[i]).2.ns∈bs.map fun x=>x.2.ns:=Zi.2 ⟨_,Qp hi,rfl⟩
  obtain⟨h1,h2⟩:=hsub _ hm;exact IH ((hx _ (Qp hi)).aX (Zo hb fun _ h _=>h)) (hs.below hb) (fun m hmm=>by
   obtain⟨m',hm',e⟩:=h2 m hmm;rw[<- e];exact hkd m' hm') (by omega) hG
 have Gw:Hid (∀ (x:World) (G:Nat->Prop) (io:Option Addr) (ic:Nat) (ls:List (Value × List ai)),Bw w x->(∀ b,x.heap.size<=b->G b)->Df x io (ls.map Prod.fst)->(ls.map fun x=>x.2.map eQ)=(bs.map fun x=>x.2.ns)->(∀ y∈ls,∃ base,fI 58 G base x y.1 y.2)->
   Calls Tryz.prog 165 #[.agg n.cells,.slice io ls.length ic] x (jm 58 G x t.ns)):=fun x G io ic ls hb hG uV he hls=>by
  have hl:ls.length=bs.length:=by have:=congrArg List.length he; simpa using this
  rw[hB.lay,<- he];refine aaP hG (hs.below hb) n (Qv hb hB.cl) hB.cln (Qv hb hB.co) hB.con hB.lens io ic ls uV (fun y hy=>⟨hls y hy,fun m hm=>?_⟩) (by rw[hl]; exact hB.two) ?_
  ·have hm1:y.2.map eQ∈bs.map fun x=>x.2.ns:=by rw[<- he]; exact Zi.2 ⟨y,hy,rfl⟩
   obtain⟨m',hm',e⟩:=(hsub _ hm1).2 (eQ m) (Zi.2 ⟨m,hm,rfl⟩);have:=hkd m' hm';rw[e]at this;exact this
  ·have h1:(fU (ls.map Prod.snd)).length=(fU (bs.map fun x=>x.2.ns)).length:=by
    rw[<- he,<- Zc (f:=eQ),zM,XM];rfl
   rw[h1];have h2:t.ns.length=(fU (bs.map fun x=>x.2.ns)).length+1:=by rw[hB.lay]; unfold qE; simp
   omega
 have c13:=hB.gb.at 13;have n0:=hB.gb.at 6;have n1:=hB.gb.at 7;have n2:=hB.gb.at 8;have n3:=hB.gb.at 9;have n4:=hB.gb.at 10;have n5:=hB.gb.at 11;have n6:=hB.gb.at 12;have RX:=Zh hB.ptrs;have hb2:=hB.two;have wX:Hid ((bs.map Prod.fst).length=bs.length):=Zc _;have HNL:Hid ((bs.map fun x=>x.2.ns).length=bs.length):=Zc _;have xQ:=Zh hF;clear hB hx hsub IH hs hkd hln hF;generalize t.ns=R at *;generalize bs.map Prod.fst=bf at *;generalize (bs.map fun x=>x.2.ns)=NS at *;generalize bs.length=bl at *;clear bs;obtain⟨kind,nl,nr,src,⟨ca,cc,cl⟩,key,⟨da,dc,co⟩⟩:=n;simp only[ai.cells,ah.val]at *;go_enter Tryz.func108,Tryz.ntmps108;go_wp2;go_loopw [3,11] (fun pv iv wr=>∃ (j:Nat) (ls:List (Value × List ai)),j<=bl/\iv=.int .i64 (j:Int)/\Hid ((ls.map fun x=>x.2.map eQ)=NS.take j)/\Hid (wM 27 58 F w.heap.size wr pv ls)/\Hid (Bw w wr)) (fun _ iv _=>bl-(intOf iv).toNat)
 case atStart=>exact⟨0,[],Q8 _,rfl,rfl,⟨ZV _ _ _ _,(fun x hx=>by cases hx)⟩,Qw _ _⟩
 case round=>
  obtain⟨j,ls,hj,rfl,HE,HL,HB⟩:=hrel;obtain⟨xa,xm,xc,rfl⟩:=ZP HL.o.own;have hown:∀ g,(Value.slice xa xm xc).ownBlock=some g->w.heap.size<=g/\g<wr.heap.size:=fun g e=>ZO HL.o.own e
  by_cases hlt:j<bl
  ·obtain⟨bb,Ol,rfl,hbc⟩:=dB.get (RX.o.below HB.o) (i:=j) (by rw[wX.o]; exact hlt);have hck:=hbc j (by rw[wX.o]; exact hlt);have hIH:=HIH.o wr (Fv F (.slice xa xm xc)) j hlt HB.o (fun b hb=>⟨xQ.o b (Zl HB.o.size hb),fun e=>by have:=(hown b e).2; omega⟩);have RY:=Zh (XL NS [] (by rw[HNL.o]; exact hlt));have HOW:=Zh hown;generalize bf.getD j 0=ba at *;generalize NS.getD j []=Nj at *;clear hbc hown;go_wp2_with fail;refine hIH.mono ?_;rintro e w3 ⟨v3,nv,rfl,hpn,hK3,hb3⟩;clear hIH hck;obtain⟨ya,ym,yc,rfl⟩:=ZP hK3.own;have hls:ls.length<=2:=by
    have:=congrArg List.length HE.o;rw[Zc,Zm]at this;omega
   have ho3:w3.ownsRow w.heap.size 27 1 (.slice xa xm xc) (ls.map Prod.fst).length (ls.map Prod.fst):=by
    rw[Zc];exact ZN HL.o.own (Zo (s:=fun b=>b<wr.heap.size) hb3 (fun b _ h=>h)) (fun g hg=>(HOW.o g hg).2)
   obtain⟨v4,w4,hr4,zA,hk4,⟨za,zm,zc,rfl⟩,hat⟩:=Vn w3 w.heap.size (.slice xa xm xc) (ls.map Prod.fst) ho3 (by rw[Zc]; omega) (Zl HB.o.size hb3.size) ya ym yc 48;have HL4:=Zh (wM.push HL.o hb3 hK3 zA hk4 (hat.imp id (fun e=>⟨_,e,by omega⟩)));have HE4:Hid (((ls++[((.slice ya ym yc:Value),nv)]).map fun x=>x.2.map eQ)=NS.take (j+1)):=by
    show _=_
    rw[Qs,HE.o,RY.o,List.map_singleton,hpn]
   have mH:=Zh ((HB.o.trans (hb3.mono HB.o.size)).trans (hk4.below (Zl HB.o.size hb3.size) (fun b hb e=>by have:=(HOW.o b e).1; omega)));clear hpn hK3 hb3 ho3 zA hk4 hat HL HE RY HOW hls;go_wp2_with (first | (at_builtin; refine Z8 rfl (.tmp 15) (.tmp 18) 48 rfl (.slice xa xm xc) (.slice (some (aD w3.heap.size 0)) 1 1) (.slice za zm zc) w4 rfl rfl hr4 ?_));clear hr4;go_wp2;go_roundw
   case rel=>exact⟨j+1,_,by omega,by go_num,HE4.o,HL4.o,mH.o⟩
   case measure=>simp[intOf]; omega
  ·have hjb:bl=j:=by omega
   subst hjb;rw[Xl (by rw[HNL.o]; exact Qx _)]at HE;obtain⟨w3,hw3⟩:∃ x,x=wr:=⟨_,rfl⟩
   subst hw3;obtain⟨ya,yc,hy,hsl⟩:=HL.o.slices;simp only[Value.slice.injEq]at hy;obtain⟨rfl,rfl,rfl⟩:=hy;have hLA:=Gw.o w3 (Fv F (.slice xa ls.length xc)) xa xc ls HB.o (fun b hb=>⟨xQ.o b (Zl HB.o.size hb),fun e=>by have:=(hown b e).2; omega⟩) hsl HE.o (fun y hy=>HL.o.node y hy);have d0:=cB HB.o n0;have d1:=cB HB.o n1;have d2:=cB HB.o n2;have d3:=cB HB.o n3;have d4:=cB HB.o n4;have d5:=cB HB.o n5;have d6:=cB HB.o n6;clear Gw HIH hsl hown hlt hj;go_wp2_with fail;refine hLA.mono ?_;rintro e w4 ⟨v,nv,rfl,hpn,hK,hb4⟩;have HF:Hid (jm 58 F w R (.returned v) w4):=⟨v,nv,rfl,hpn,⟨yE hK.own HB.o.size,fun g hg=>(hK.blk g hg).1,(hK.mono (fun b _ h=>h.1)).lists⟩,HB.o.trans (hb4.mono HB.o.size)⟩
   obtain⟨va,vm,vc,rfl⟩:=ZP hK.own;clear hLA hpn hK hb4;go_wp2;go_ret;exact HF.o
theorem Sm:∀ (k:Nat) {Ft:Nat->Prop} {w:World} {a:Nat} {t:aQ},nN 178 Ft k w a t->bQ w 0->(∀ m∈t.ns,1<=m.kind/\m.kind<=10)->t.ns.length<=900->∀ {F:Nat->Prop},(∀ b,w.heap.size<=b->F b)->Calls Tryz.prog 108 #[.pointer (some (aD a 0))] w (jm 58 F w t.ns)
 | 0,_,_,_,_,h,_,_,_,_,_ => h.elim
 | k+1,_,_,_,_,h,hs,hk,hl,_,hF => PU k (Sm k) h hs hk hl hF
theorem Vo{q:ae}(h:aG 178 Ft w a t)(hs:bQ w 0)(ht:jB q t)(hl:t.ns.length<=900)(hF:∀ b,w.heap.size<=b->F b):Calls Tryz.prog 108 #[.pointer (some (aD a 0))] w (jm 58 F w t.ns):=by
 obtain⟨k,hk⟩:=h;exact Sm k hk hs ht.kinds hl hF
