import Derived.Test.YtbcgekghfgcakaaGreatDoorF20
import Derived.Test.YtbcgekghfgcakaaGreatDoorF23
set_option linter.all false
set_option maxRecDepth 100000
set_option maxHeartbeats 16000000
namespace Go.Proofs.Zz
open Go.RowKit Go.Shelf
theorem abJ {n:az}:∀ {ls:List (List az)},ls.length<=2->∀ l∈ls,l.length<=(oI n ls).length/\∀ m∈l,∃ m'∈oI n ls,m'.kind=m.kind
 | [],_,l,h => by cases h
 | [a],_,l,h => by
  rw[QY] at h;subst h;refine⟨by simp[oI,jf],fun m hm=>⟨gM 0 m,?_,rfl⟩⟩;unfold oI jf;simp;exact .inl ⟨m,hm,rfl⟩
 | [a,b],_,l,h => by
  rcases QP.1 h with h | h
  ·subst h;refine⟨by simp[oI,jf] <;> omega,fun m hm=>⟨gM 0 m,?_,rfl⟩⟩;unfold oI jf;simp;exact .inl ⟨m,hm,rfl⟩
  ·rw[QY] at h;subst h;refine⟨by simp[oI,jf] <;> omega,fun m hm=>⟨gM a.length m,?_,rfl⟩⟩;unfold oI jf;simp;exact .inr (.inl ⟨m,hm,rfl⟩)
 | _::_::_::_,h,_,_ => by simp at h
theorem eZ.pushed {Tn:TypeId} {F:Nat->Prop} {base:Nat} {w w':World} {v v' u:Value} {nv:List az} (h:eZ Tn (Fv F v) base w u nv) (hk:Kept (fun b=>v.ownBlock≠some b) w w') (hat:v'.ownBlock=v.ownBlock∨∃ g,v'.ownBlock=some g/\w.heap.size<=g):eZ Tn (Fv F v') base w' u nv:=by
 have h1:=h.mono (G:=fun b=>Fv F v b/\Fv F v' b) (fun b hb hF=>⟨hF,hF.1,fun e=>by
  rcases hat with h | ⟨g,h,hg⟩
  ·exact hF.2 (h ▸ e)
  ·rw[h] at e;injection e with e;omega⟩)
 exact (h1.aT (hk.mono fun b _ hb=>hb.1.2)).mono fun _ _ h=>h.2
structure uI (Tl Tn:TypeId) (F:Nat->Prop) (base:Nat) (w:World) (v:Value) (ls:List (Value × List az)):Prop where
 own:w.ownsRow base Tl 1 v ls.length (ls.map Prod.fst)
 node:∀ x∈ls,∃ b,eZ Tn (Fv F v) b w x.1 x.2
theorem uI.slices {Tl Tn:TypeId} {F:Nat->Prop} {base:Nat} {w:World} {v:Value} {ls:List (Value × List az)} (h:uI Tl Tn F base w v ls):∃ ao cap,v=.slice ao ls.length cap/\Bf w ao (ls.map Prod.fst):=by
 rcases ZT h.own with⟨rfl,h1⟩ | ⟨g,cap,rfl,_,_,hc⟩
 ·refine⟨none,0,by rw[h1],fun i hi=>?_⟩;rw[QU] at hi;omega
 ·refine⟨some (aD g 0),cap,rfl,fun i hi=>⟨g,0,rfl,?_⟩⟩;rw[QE];refine hc i _ ?_
  show _=some ((ls.map Prod.fst).getD i (.slice none 0 0))
  rw[Xq,ZG hi];rfl
theorem uI.push {Tl Tn:TypeId} {F:Nat->Prop} {base base':Nat} {w0 w w':World} {v v' u:Value} {nv:List az} {ls:List (Value × List az)} (h:uI Tl Tn F base w0 v ls) (hb:Below w0.heap.size w0 w) (hu:eZ Tn (Fv F v) base' w u nv)
  (ho:w'.ownsRow base Tl 1 v' (ls.map Prod.fst++[u]).length (ls.map Prod.fst++[u])) (hk:Kept (fun b=>v.ownBlock≠some b) w w') (hat:v'.ownBlock=v.ownBlock∨∃ g,v'.ownBlock=some g/\w.heap.size<=g):uI Tl Tn F base w' v' (ls++[(u,nv)]):=by
 refine⟨?_,fun x hx=>?_⟩
 ·rw[QT,QU] at ho;rw[Ql,QT];exact ho
 ·rcases QX.1 hx with hx | hx
  ·obtain⟨b,hN⟩:=h.node x hx;exact⟨b,(hN.below hb).pushed hk hat⟩
  ·rw[QY] at hx;rw[hx];exact⟨base',hu.pushed hk hat⟩
theorem Tryz.SE:(Tryz.prog.info? 41).map (fun i=>(i.zero,i.size,i.bytes))=some (some (.slice none 0 0),1,24):=by kernel_rfl
theorem SF (W:World) (base:Nat) (v:Value) (vs:List Value) (hown:W.ownsRow base 41 1 v vs.length vs) (hl:vs.length<=1000) (hb:base<=W.heap.size) (a:Option Addr) (m c:Nat) (ty:TypeId) :
  ∃ v' w',(Builtin.append_ #[171,171] ty #[v,.slice (some (aD W.heap.size 0)) 1 1]).run Tryz.prog (W.alloc (.cells #[.slice a m c] 41))=.ok v' w'/\
   w'.ownsRow base 41 1 v' (vs++[(Value.slice a m c)]).length (vs++[(Value.slice a m c)])/\Kept (fun b=>v.ownBlock≠some b) W w'/\(∃ a m c,v' = .slice a m c)/\(v'.ownBlock=v.ownBlock∨v'.ownBlock=some (W.heap.size+1)):=by
 obtain⟨i0,hi,hz0,hz1,hz2⟩:=ZC Tryz.SE;obtain⟨v',w',hr,ho,hk,hs,hat⟩:=ZV (P:=Tryz.prog) W base 171 ty 41 i0 _ 1 24 Tryz.underlying171 hi hz0 hz1 hz2 rfl (by decide) v vs.length _ hown hb [.slice a m c] rfl (fun u hu=>by
  rw[QY] at hu;rw[hu];rfl) hl (by decide)
 exact⟨v',w',hr,by rw[QT]; exact ho,hk,hs,hat⟩
theorem Nb (k:Nat) (IH:∀ {Ft:Nat->Prop} {w:World} {a:Nat} {t:aW},lY 120 Ft k w a t->cZ w 0->(∀ m∈t.ns,1<=m.kind/\m.kind<=10)->t.ns.length<=900->∀ {F:Nat->Prop},(∀ b,w.heap.size<=b->F b)->Calls Tryz.prog 52 #[.pointer (some (aD a 0))] w (gW 71 F w t.ns))
  {Ft:Nat->Prop} {w:World} {a:Nat} {t:aW} (ht:lY 120 Ft (k+1) w a t) (hs:cZ w 0) (hkd:∀ m∈t.ns,1<=m.kind/\m.kind<=10) (hln:t.ns.length<=900) {F:Nat->Prop} (hF:∀ b,w.heap.size<=b->F b):Calls Tryz.prog 52 #[.pointer (some (aD a 0))] w (gW 71 F w t.ns):=by
 obtain⟨p,n,bo,bc,bs,hB,hx⟩:=ht;have hsub:=abJ (n:=n) (ls:=bs.map fun x=>x.2.ns) (by rw[QU]; exact hB.two);rw[<- hB.lay] at hsub;have HIH:Hid (∀ (x:World) (G:Nat->Prop) (i:Nat),i<bs.length->Below w.heap.size w x->(∀ b,x.heap.size<=b->G b)->Calls Tryz.prog 52 #[.pointer (some (aD ((bs.map Prod.fst).getD i 0) 0))] x (gW 71 G x (((bs.map fun x=>x.2.ns)).getD i []))):=fun x G i hi hb hG=>by
  have e1:(bs.map Prod.fst).getD i 0=(bs[i]).1:=by rw[Xq,QW,ZG hi]; rfl
  have e2:(bs.map fun x=>x.2.ns).getD i []=(bs[i]).2.ns:=by rw[Xq,QW,ZG hi]; rfl
  rw[e1,e2];have hm:(bs[i]).2.ns∈bs.map fun x=>x.2.ns:=Q0.2 ⟨_,Qj hi,rfl⟩
  obtain⟨h1,h2⟩:=hsub _ hm;exact IH ((hx _ (Qj hi)).aT (Q9 hb fun _ h _=>h)) (hs.below hb) (fun m hmm=>by
   obtain⟨m',hm',e⟩:=h2 m hmm;rw[<- e];exact hkd m' hm') (by omega) hG
 have HLA:Hid (∀ (x:World) (G:Nat->Prop) (io:Option Addr) (ic:Nat) (ls:List (Value × List az)),Below w.heap.size w x->(∀ b,x.heap.size<=b->G b)->Bf x io (ls.map Prod.fst)->(ls.map fun x=>x.2.map fK)=(bs.map fun x=>x.2.ns)->(∀ y∈ls,∃ base,eZ 71 G base x y.1 y.2)->
   Calls Tryz.prog 93 #[.agg n.cells,.slice io ls.length ic] x (gW 71 G x t.ns)):=fun x G io ic ls hb hG sU he hls=>by
  have hl:ls.length=bs.length:=by have:=congrArg List.length he; simpa using this
  rw[hB.lay,<- he];refine WH hG (hs.below hb) n (Qo hb hB.cl) hB.cln (Qo hb hB.co) hB.con hB.lens io ic ls sU (fun y hy=>⟨hls y hy,fun m hm=>?_⟩) (by rw[hl]; exact hB.two) ?_
  ·have hm1:y.2.map fK∈bs.map fun x=>x.2.ns:=by rw[<- he]; exact Q0.2 ⟨y,hy,rfl⟩
   obtain⟨m',hm',e⟩:=(hsub _ hm1).2 (fK m) (Q0.2 ⟨m,hm,rfl⟩);have:=hkd m' hm';rw[e] at this;exact this
  ·have h1:(jf (ls.map Prod.snd)).length=(jf (bs.map fun x=>x.2.ns)).length:=by
    rw[<- he,<- QU (f:=fK),xP,List.map_map];rfl
   rw[h1];have h2:t.ns.length=(jf (bs.map fun x=>x.2.ns)).length+1:=by rw[hB.lay]; unfold oI; simp
   omega
 have c13:=hB.gb.at 13;have n0:=hB.gb.at 6;have n1:=hB.gb.at 7;have n2:=hB.gb.at 8;have n3:=hB.gb.at 9;have n4:=hB.gb.at 10;have n5:=hB.gb.at 11;have n6:=hB.gb.at 12;have Oo:=Zh hB.ptrs;have hb2:=hB.two;have mH:Hid ((bs.map Prod.fst).length=bs.length):=QU _;have HNL:Hid ((bs.map fun x=>x.2.ns).length=bs.length):=QU _;have vE:=Zh hF;clear hB hx hsub IH hs hkd hln hF;generalize t.ns=R at *;generalize bs.map Prod.fst=bf at *;generalize (bs.map fun x=>x.2.ns)=NS at *;generalize bs.length=bl at *;clear bs;obtain⟨kind,nl,nr,src,⟨ca,cc,cl⟩,key,⟨da,dc,co⟩⟩:=n;simp only[az.cells,ah.val] at *;go_enter Tryz.func52,Tryz.ntmps52;go_wp2;go_loopw [3,11] (fun pv iv wr=>∃ (j:Nat) (ls:List (Value × List az)),j<=bl/\iv=.int .i64 (j:Int)/\Hid ((ls.map fun x=>x.2.map fK)=NS.take j)/\Hid (uI 41 71 F w.heap.size wr pv ls)/\Hid (Below w.heap.size w wr)) (fun _ iv _=>bl-(intOf iv).toNat)
 case atStart=>exact⟨0,[],QQ _,rfl,rfl,⟨ZE _ _ _ _,(fun x hx=>by cases hx)⟩,Qp _ _⟩
 case round=>
  obtain⟨j,ls,hj,rfl,HE,HL,HB⟩:=hrel;obtain⟨xa,xm,xc,rfl⟩:=ZA HL.out.own;have hown:∀ g,(Value.slice xa xm xc).ownBlock=some g->w.heap.size<=g/\g<wr.heap.size:=fun g e=>Zy HL.out.own e
  by_cases hlt:j<bl
  ·obtain⟨bb,LW,rfl,hbc⟩:=cK.get (Oo.out.below HB.out) (i:=j) (by rw[mH.out]; exact hlt);have hck:=hbc j (by rw[mH.out]; exact hlt);have hIH:=HIH.out wr (Fv F (.slice xa xm xc)) j hlt HB.out (fun b hb=>⟨vE.out b (Q4 HB.out.size hb),fun e=>by have:=(hown b e).2; omega⟩);have YK:=Zh (XB NS [] (by rw[HNL.out]; exact hlt));have HOW:=Zh hown;generalize bf.getD j 0=ba at *;generalize NS.getD j []=Nj at *;clear hbc hown;go_wp2_with fail;refine hIH.mono ?_;rintro e w3 ⟨v3,nv,rfl,hpn,hK3,hb3⟩;clear hIH hck;obtain⟨ya,ym,yc,rfl⟩:=ZA hK3.own;have hls:ls.length<=2:=by
    have:=congrArg List.length HE.out;rw[QU,Q6] at this;omega
   have ho3:w3.ownsRow w.heap.size 41 1 (.slice xa xm xc) (ls.map Prod.fst).length (ls.map Prod.fst):=by
    rw[QU];exact Zx HL.out.own (Q9 (s:=fun b=>b<wr.heap.size) hb3 (fun b _ h=>h)) (fun g hg=>(HOW.out g hg).2)
   obtain⟨v4,w4,hr4,mU,hk4,⟨za,zm,zc,rfl⟩,hat⟩:=SF w3 w.heap.size (.slice xa xm xc) (ls.map Prod.fst) ho3 (by rw[QU]; omega) (Q4 HB.out.size hb3.size) ya ym yc 171;have HL4:=Zh (uI.push HL.out hb3 hK3 mU hk4 (hat.imp id (fun e=>⟨_,e,by omega⟩)));have HE4:Hid (((ls++[((.slice ya ym yc:Value),nv)]).map fun x=>x.2.map fK)=NS.take (j+1)):=by
    show _=_
    rw[Ql,HE.out,YK.out,List.map_singleton,hpn]
   have jE:=Zh ((HB.out.trans (hb3.mono HB.out.size)).trans (hk4.below (Q4 HB.out.size hb3.size) (fun b hb e=>by have:=(HOW.out b e).1; omega)));clear hpn hK3 hb3 ho3 mU hk4 hat HL HE YK HOW hls;go_wp2_with (first | (at_builtin; refine ZN rfl (.tmp 15) (.tmp 18) 171 rfl (.slice xa xm xc) (.slice (some (aD w3.heap.size 0)) 1 1) (.slice za zm zc) w4 rfl rfl hr4 ?_));clear hr4;go_wp2;go_roundw
   case rel=>exact⟨j+1,_,by omega,by go_num,HE4.out,HL4.out,jE.out⟩
   case measure=>simp[intOf]; omega
  ·have hjb:bl=j:=by omega
   subst hjb;rw[ZY (by rw[HNL.out]; exact Qq _)] at HE;obtain⟨w3,hw3⟩:∃ x,x=wr:=⟨_,rfl⟩
   subst hw3;obtain⟨ya,yc,hy,hsl⟩:=HL.out.slices;simp only[Value.slice.injEq] at hy;obtain⟨rfl,rfl,rfl⟩:=hy;have hLA:=HLA.out w3 (Fv F (.slice xa ls.length xc)) xa xc ls HB.out (fun b hb=>⟨vE.out b (Q4 HB.out.size hb),fun e=>by have:=(hown b e).2; omega⟩) hsl HE.out (fun y hy=>HL.out.node y hy);have d0:=cB HB.out n0;have d1:=cB HB.out n1;have d2:=cB HB.out n2;have d3:=cB HB.out n3;have d4:=cB HB.out n4;have d5:=cB HB.out n5;have d6:=cB HB.out n6;clear HLA HIH hsl hown hlt hj;go_wp2_with fail;refine hLA.mono ?_;rintro e w4 ⟨v,nv,rfl,hpn,hK,hb4⟩;have HF:Hid (gW 71 F w R (.returned v) w4):=⟨v,nv,rfl,hpn,⟨vX hK.own HB.out.size,fun g hg=>(hK.blk g hg).1,(hK.mono (fun b _ h=>h.1)).lists⟩,HB.out.trans (hb4.mono HB.out.size)⟩
   obtain⟨va,vm,vc,rfl⟩:=ZA hK.own;clear hLA hpn hK hb4;go_wp2;go_ret;exact HF.out
theorem OP:∀ (k:Nat) {Ft:Nat->Prop} {w:World} {a:Nat} {t:aW},lY 120 Ft k w a t->cZ w 0->(∀ m∈t.ns,1<=m.kind/\m.kind<=10)->t.ns.length<=900->∀ {F:Nat->Prop},(∀ b,w.heap.size<=b->F b)->Calls Tryz.prog 52 #[.pointer (some (aD a 0))] w (gW 71 F w t.ns)
 | 0,_,_,_,_,h,_,_,_,_,_ => h.elim
 | k+1,_,_,_,_,h,hs,hk,hl,_,hF => Nb k (OP k) h hs hk hl hF
theorem SG {Ft F:Nat->Prop} {w:World} {a:Nat} {q:ae} {t:aW} (h:aC 120 Ft w a t) (hs:cZ w 0) (ht:iC q t) (hl:t.ns.length<=900) (hF:∀ b,w.heap.size<=b->F b):Calls Tryz.prog 52 #[.pointer (some (aD a 0))] w (gW 71 F w t.ns):=by
 obtain⟨k,hk⟩:=h;exact OP k hk hs ht.kinds hl hF
