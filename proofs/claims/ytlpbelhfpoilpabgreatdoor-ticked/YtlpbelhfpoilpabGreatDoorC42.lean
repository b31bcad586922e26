import Derived.Test.YtlpbelhfpoilpabGreatDoorC01
import Derived.Test.YtlpbelhfpoilpabGreatDoorC18
import Derived.Test.YtlpbelhfpoilpabGreatDoorC19
import Derived.Test.YtlpbelhfpoilpabGreatDoorC24
import Derived.Test.YtlpbelhfpoilpabGreatDoorC28
import Derived.Test.YtlpbelhfpoilpabGreatDoorC30
import Derived.Test.YtlpbelhfpoilpabGreatDoorC41
set_option linter.all false
set_option maxRecDepth 100000
set_option maxHeartbeats 16000000
namespace Go.Scout
open Go.RowKit
theorem lay_sub {n:NodeV}:∀ {ls:List (List NodeV)},ls.length<=2->∀ l∈ls,l.length<=(layN n ls).length/\∀ m∈l,∃ m'∈layN n ls,m'.kind=m.kind
 | [],_,l,h => by cases h
 | [a],_,l,h => by
  rw[List.mem_singleton] at h;subst h;refine⟨by simp[layN,layL],fun m hm=>⟨moveN 0 m,?_,rfl⟩⟩;unfold layN layL;simp;exact .inl ⟨m,hm,rfl⟩
 | [a,b],_,l,h => by
  rcases List.mem_cons.1 h with h | h
  ·subst h;refine⟨by simp[layN,layL] <;> omega,fun m hm=>⟨moveN 0 m,?_,rfl⟩⟩;unfold layN layL;simp;exact .inl ⟨m,hm,rfl⟩
  ·rw[List.mem_singleton] at h;subst h;refine⟨by simp[layN,layL] <;> omega,fun m hm=>⟨moveN a.length m,?_,rfl⟩⟩;unfold layN layL;simp;exact .inr (.inl ⟨m,hm,rfl⟩)
 | _::_::_::_,h,_,_ => by simp at h
theorem NodesK.pushed {Tn:TypeId} {F:Nat->Prop} {base:Nat} {w w':World} {v v' u:Value} {nv:List NodeV} (h:NodesK Tn (Fv F v) base w u nv) (hk:Kept (fun b=>v.ownBlock≠some b) w w') (hat:v'.ownBlock=v.ownBlock∨∃ g,v'.ownBlock=some g/\w.heap.size<=g):NodesK Tn (Fv F v') base w' u nv:=by
 have h1:=h.mono (G:=fun b=>Fv F v b/\Fv F v' b) (fun b hb hF=>⟨hF,hF.1,fun e=>by
  rcases hat with h | ⟨g,h,hg⟩
  ·exact hF.2 (h ▸ e)
  ·rw[h] at e;injection e with e;omega⟩)
 exact (h1.keptF (hk.mono fun b _ hb=>hb.1.2)).mono fun _ _ h=>h.2
structure ListsK (Tl Tn:TypeId) (F:Nat->Prop) (base:Nat) (w:World) (v:Value) (ls:List (Value × List NodeV)):Prop where
 own:w.ownsRow base Tl 1 v ls.length (ls.map Prod.fst)
 node:∀ x∈ls,∃ b,NodesK Tn (Fv F v) b w x.1 x.2
theorem ListsK.slices {Tl Tn:TypeId} {F:Nat->Prop} {base:Nat} {w:World} {v:Value} {ls:List (Value × List NodeV)} (h:ListsK Tl Tn F base w v ls):∃ ao cap,v=.slice ao ls.length cap/\SlicesAt w ao (ls.map Prod.fst):=by
 rcases own_newsN h.own with⟨rfl,h1⟩ | ⟨g,cap,rfl,_,_,hc⟩
 ·refine⟨none,0,by rw[h1],fun i hi=>?_⟩;rw[List.length_map] at hi;omega
 ·refine⟨some (aD g 0),cap,rfl,fun i hi=>⟨g,0,rfl,?_⟩⟩;rw[Nat.zero_add];refine hc i _ ?_
  show _=some ((ls.map Prod.fst).getD i (.slice none 0 0))
  rw[List.getD_eq_getElem?_getD,List.getElem?_eq_getElem hi];rfl
theorem ListsK.push {Tl Tn:TypeId} {F:Nat->Prop} {base base':Nat} {w0 w w':World} {v v' u:Value} {nv:List NodeV} {ls:List (Value × List NodeV)} (h:ListsK Tl Tn F base w0 v ls) (hb:Below w0.heap.size w0 w) (hu:NodesK Tn (Fv F v) base' w u nv)
  (ho:w'.ownsRow base Tl 1 v' (ls.map Prod.fst++[u]).length (ls.map Prod.fst++[u])) (hk:Kept (fun b=>v.ownBlock≠some b) w w') (hat:v'.ownBlock=v.ownBlock∨∃ g,v'.ownBlock=some g/\w.heap.size<=g):ListsK Tl Tn F base w' v' (ls++[(u,nv)]):=by
 refine⟨?_,fun x hx=>?_⟩
 ·rw[List.length_append,List.length_map] at ho;rw[List.map_append,List.length_append];exact ho
 ·rcases List.mem_append.1 hx with hx | hx
  ·obtain⟨b,hN⟩:=h.node x hx;exact⟨b,(hN.below hb).pushed hk hat⟩
  ·rw[List.mem_singleton] at hx;rw[hx];exact⟨base',hu.pushed hk hat⟩
end Go.Scout
namespace Go.Proofs.YtlpbelhfpoilpabGreatDoor
open Go.RowKit Go.Scout Go.Shelf
theorem Tryz.infoNodes:(Tryz.prog.info? 36).map (fun i=>(i.zero,i.size,i.bytes))=some (some (.slice none 0 0),1,24):=by kernel_rfl
theorem push_list (W:World) (base:Nat) (v:Value) (vs:List Value) (hown:W.ownsRow base 36 1 v vs.length vs) (hl:vs.length<=1000) (hb:base<=W.heap.size) (a:Option Addr) (m c:Nat) (ty:TypeId) :
  ∃ v' w',(Builtin.append_ #[121,121] ty #[v,.slice (some (aD W.heap.size 0)) 1 1]).run Tryz.prog (W.alloc (.cells #[.slice a m c] 36))=.ok v' w'/\
   w'.ownsRow base 36 1 v' (vs++[(Value.slice a m c)]).length (vs++[(Value.slice a m c)])/\Kept (fun b=>v.ownBlock≠some b) W w'/\(∃ a m c,v' = .slice a m c)/\(v'.ownBlock=v.ownBlock∨v'.ownBlock=some (W.heap.size+1)):=by
 obtain⟨i0,hi,hz0,hz1,hz2⟩:=info_parts Tryz.infoNodes;obtain⟨v',w',hr,ho,hk,hs,hat⟩:=push_own (P:=Tryz.prog) W base 121 ty 36 i0 _ 1 24 Tryz.underlying121 hi hz0 hz1 hz2 rfl (by decide) v vs.length _ hown hb [.slice a m c] rfl (fun u hu=>by
  rw[List.mem_singleton] at hu;rw[hu];rfl) hl (by decide)
 exact⟨v',w',hr,by rw[List.length_append]; exact ho,hk,hs,hat⟩
theorem nodes_step (k:Nat) (IH:∀ {Ft:Nat->Prop} {w:World} {a:Nat} {t:TrD},TreeK 95 Ft k w a t->ShapesAt w 0->(∀ m∈t.ns,1<=m.kind/\m.kind<=10)->t.ns.length<=900->∀ {F:Nat->Prop},(∀ b,w.heap.size<=b->F b)->Calls Tryz.prog 32 #[.pointer (some (aD a 0))] w (NodesPost 61 F w t.ns))
  {Ft:Nat->Prop} {w:World} {a:Nat} {t:TrD} (ht:TreeK 95 Ft (k+1) w a t) (hs:ShapesAt w 0) (hkd:∀ m∈t.ns,1<=m.kind/\m.kind<=10) (hln:t.ns.length<=900) {F:Nat->Prop} (hF:∀ b,w.heap.size<=b->F b):Calls Tryz.prog 32 #[.pointer (some (aD a 0))] w (NodesPost 61 F w t.ns):=by
 obtain⟨p,n,bo,bc,bs,hB,hx⟩:=ht;have hsub:=lay_sub (n:=n) (ls:=bs.map fun x=>x.2.ns) (by rw[List.length_map]; exact hB.two);rw[<- hB.lay] at hsub;have HIH:Hid (∀ (x:World) (G:Nat->Prop) (i:Nat),i<bs.length->Below w.heap.size w x->(∀ b,x.heap.size<=b->G b)->Calls Tryz.prog 32 #[.pointer (some (aD ((bs.map Prod.fst).getD i 0) 0))] x (NodesPost 61 G x (((bs.map fun x=>x.2.ns)).getD i []))):=fun x G i hi hb hG=>by
  have e1:(bs.map Prod.fst).getD i 0=(bs[i]).1:=by rw[List.getD_eq_getElem?_getD,List.getElem?_map,List.getElem?_eq_getElem hi]; rfl
  have e2:(bs.map fun x=>x.2.ns).getD i []=(bs[i]).2.ns:=by rw[List.getD_eq_getElem?_getD,List.getElem?_map,List.getElem?_eq_getElem hi]; rfl
  rw[e1,e2];have hm:(bs[i]).2.ns∈bs.map fun x=>x.2.ns:=List.mem_map.2 ⟨_,List.getElem_mem hi,rfl⟩
  obtain⟨h1,h2⟩:=hsub _ hm;exact IH ((hx _ (List.getElem_mem hi)).keptF (Kept.of_below hb fun _ h _=>h)) (hs.below hb) (fun m hmm=>by
   obtain⟨m',hm',e⟩:=h2 m hmm;rw[<- e];exact hkd m' hm') (by omega) hG
 have HLA:Hid (∀ (x:World) (G:Nat->Prop) (io:Option Addr) (ic:Nat) (ls:List (Value × List NodeV)),Below w.heap.size w x->(∀ b,x.heap.size<=b->G b)->SlicesAt x io (ls.map Prod.fst)->(ls.map fun x=>x.2.map pureN)=(bs.map fun x=>x.2.ns)->(∀ y∈ls,∃ base,NodesK 61 G base x y.1 y.2)->
   Calls Tryz.prog 52 #[.agg n.cells,.slice io ls.length ic] x (NodesPost 61 G x t.ns)):=fun x G io ic ls hb hG hio he hls=>by
  have hl:ls.length=bs.length:=by have:=congrArg List.length he; simpa using this
  rw[hB.lay,<- he];refine laid_any hG (hs.below hb) n (IntsAt.below hb hB.cl) hB.cln (IntsAt.below hb hB.co) hB.con hB.lens io ic ls hio (fun y hy=>⟨hls y hy,fun m hm=>?_⟩) (by rw[hl]; exact hB.two) ?_
  ·have hm1:y.2.map pureN∈bs.map fun x=>x.2.ns:=by rw[<- he]; exact List.mem_map.2 ⟨y,hy,rfl⟩
   obtain⟨m',hm',e⟩:=(hsub _ hm1).2 (pureN m) (List.mem_map.2 ⟨m,hm,rfl⟩);have:=hkd m' hm';rw[e] at this;exact this
  ·have h1:(layL (ls.map Prod.snd)).length=(layL (bs.map fun x=>x.2.ns)).length:=by
    rw[<- he,<- List.length_map (f:=pureN),layL_pure,List.map_map];rfl
   rw[h1];have h2:t.ns.length=(layL (bs.map fun x=>x.2.ns)).length+1:=by rw[hB.lay]; unfold layN; simp
   omega
 have c13:w.cell? (aD a 13)=some (.slice bo bs.length bc):=hB.gb.cell 13;have n0:w.cell? (aD a 6)=some (.int .i64 n.kind):=hB.gb.cell 6;have n1:w.cell? (aD a 7)=some (.int .i64 n.l):=hB.gb.cell 7;have n2:w.cell? (aD a 8)=some (.int .i64 n.r):=hB.gb.cell 8;have n3:w.cell? (aD a 9)=some (.int .i64 n.source):=hB.gb.cell 9;have n4:w.cell? (aD a 10)=some (n.cl.val):=hB.gb.cell 10;have n5:w.cell? (aD a 11)=some (.int .i64 n.key):=hB.gb.cell 11;have n6:w.cell? (aD a 12)=some (n.co.val):=hB.gb.cell 12;have HPT:Hid (PtrsAt w bo (bs.map Prod.fst)):=hB.ptrs;have hb2:=hB.two;have HLN:Hid ((bs.map Prod.fst).length=bs.length):=List.length_map _;have HNL:Hid ((bs.map fun x=>x.2.ns).length=bs.length):=List.length_map _;have HNEW:Hid (∀ b,w.heap.size<=b->F b):=hF;clear hB hx hsub IH hs hkd hln hF;generalize t.ns=R at *;generalize bs.map Prod.fst=bf at *;generalize (bs.map fun x=>x.2.ns)=NS at *;generalize bs.length=bl at *;clear bs;obtain⟨kind,nl,nr,src,⟨ca,cc,cl⟩,key,⟨da,dc,co⟩⟩:=n;simp only[NodeV.cells,IntsV.val] at *;go_enter Tryz.func32,Tryz.ntmps32;go_wp2;go_loopw [3,11] (fun pv iv wr=>∃ (j:Nat) (ls:List (Value × List NodeV)),j<=bl/\iv=.int .i64 (j:Int)/\Hid ((ls.map fun x=>x.2.map pureN)=NS.take j)/\Hid (ListsK 36 61 F w.heap.size wr pv ls)/\Hid (Below w.heap.size w wr)) (fun _ iv _=>bl-(intOf iv).toNat)
 case atStart=>exact⟨0,[],Nat.zero_le _,rfl,rfl,⟨World.ownsRow_nil _ _ _ _,(fun x hx=>by cases hx)⟩,Below.refl _ _⟩
 case round=>
  obtain⟨j,ls,hj,rfl,HE,HL,HB⟩:=hrel;obtain⟨xa,xm,xc,rfl⟩:=ownsRow_slice HL.out.own;have hown:∀ g,(Value.slice xa xm xc).ownBlock=some g->w.heap.size<=g/\g<wr.heap.size:=fun g e=>ownsRow_lt HL.out.own e
  by_cases hlt:j<bl
  ·obtain⟨bb,boff,rfl,hbc⟩:=PtrsAt.get (HPT.out.below HB.out) (i:=j) (by rw[HLN.out]; exact hlt);have hck:=hbc j (by rw[HLN.out]; exact hlt);have hIH:=HIH.out wr (Fv F (.slice xa xm xc)) j hlt HB.out (fun b hb=>⟨HNEW.out b (Nat.le_trans HB.out.size hb),fun e=>by have:=(hown b e).2; omega⟩);have HTN:Hid (NS.take (j+1)=NS.take j++[NS.getD j []]):=take_snocR NS [] (by rw[HNL.out]; exact hlt);have HOW:Hid _:=hown;generalize bf.getD j 0=ba at *;generalize NS.getD j []=Nj at *;clear hbc hown;go_wp2_with fail;refine hIH.mono ?_;rintro e w3 ⟨v3,nv,rfl,hpn,hK3,hb3⟩;clear hIH hck;obtain⟨ya,ym,yc,rfl⟩:=ownsRow_slice hK3.own;have hls:ls.length<=2:=by
    have:=congrArg List.length HE.out;rw[List.length_map,List.length_take] at this;omega
   have ho3:w3.ownsRow w.heap.size 36 1 (.slice xa xm xc) (ls.map Prod.fst).length (ls.map Prod.fst):=by
    rw[List.length_map];exact ownsRow_keep HL.out.own (Kept.of_below (s:=fun b=>b<wr.heap.size) hb3 (fun b _ h=>h)) (fun g hg=>(HOW.out g hg).2)
   obtain⟨v4,w4,hr4,ho4,hk4,⟨za,zm,zc,rfl⟩,hat⟩:=push_list w3 w.heap.size (.slice xa xm xc) (ls.map Prod.fst) ho3 (by rw[List.length_map]; omega) (Nat.le_trans HB.out.size hb3.size) ya ym yc 121;have HL4:Hid (ListsK 36 61 F w.heap.size w4 (.slice za zm zc) (ls++[(.slice ya ym yc,nv)])):=ListsK.push HL.out hb3 hK3 ho4 hk4 (hat.imp id (fun e=>⟨_,e,by omega⟩));have HE4:Hid (((ls++[((.slice ya ym yc:Value),nv)]).map fun x=>x.2.map pureN)=NS.take (j+1)):=by
    show _=_
    rw[List.map_append,HE.out,HTN.out,List.map_singleton,hpn]
   have HB4:Hid (Below w.heap.size w w4):=(HB.out.trans (hb3.mono HB.out.size)).trans (hk4.below (Nat.le_trans HB.out.size hb3.size) (fun b hb e=>by have:=(HOW.out b e).1; omega));clear hpn hK3 hb3 ho3 ho4 hk4 hat HL HE HTN HOW hls;go_wp2_with (first | (at_builtin; refine wpList_append_run rfl (.tmp 15) (.tmp 18) 121 rfl (.slice xa xm xc) (.slice (some (aD w3.heap.size 0)) 1 1) (.slice za zm zc) w4 rfl rfl hr4 ?_));clear hr4;go_wp2;go_roundw
   case rel=>exact⟨j+1,_,by omega,by go_num,HE4.out,HL4.out,HB4.out⟩
   case measure=>simp[intOf]; omega
  ·have hjb:bl=j:=by omega
   subst hjb;rw[List.take_of_length_le (by rw[HNL.out]; exact Nat.le_refl _)] at HE;obtain⟨w3,hw3⟩:∃ x,x=wr:=⟨_,rfl⟩
   subst hw3;obtain⟨ya,yc,hy,hsl⟩:=HL.out.slices;simp only[Value.slice.injEq] at hy;obtain⟨rfl,rfl,rfl⟩:=hy;have hLA:=HLA.out w3 (Fv F (.slice xa ls.length xc)) xa xc ls HB.out (fun b hb=>⟨HNEW.out b (Nat.le_trans HB.out.size hb),fun e=>by have:=(hown b e).2; omega⟩) hsl HE.out (fun y hy=>HL.out.node y hy);have d0:=cB HB.out n0;have d1:=cB HB.out n1;have d2:=cB HB.out n2;have d3:=cB HB.out n3;have d4:=cB HB.out n4;have d5:=cB HB.out n5;have d6:=cB HB.out n6;clear HLA HIH hsl hown hlt hj;go_wp2_with fail;refine hLA.mono ?_;rintro e w4 ⟨v,nv,rfl,hpn,hK,hb4⟩;have HF:Hid (NodesPost 61 F w R (.returned v) w4):=⟨v,nv,rfl,hpn,⟨own_base hK.own HB.out.size,fun g hg=>(hK.blk g hg).1,(hK.mono (fun b _ h=>h.1)).lists⟩,HB.out.trans (hb4.mono HB.out.size)⟩
   obtain⟨va,vm,vc,rfl⟩:=ownsRow_slice hK.own;clear hLA hpn hK hb4;go_wp2;go_ret;exact HF.out
theorem nodes_k:∀ (k:Nat) {Ft:Nat->Prop} {w:World} {a:Nat} {t:TrD},TreeK 95 Ft k w a t->ShapesAt w 0->(∀ m∈t.ns,1<=m.kind/\m.kind<=10)->t.ns.length<=900->∀ {F:Nat->Prop},(∀ b,w.heap.size<=b->F b)->Calls Tryz.prog 32 #[.pointer (some (aD a 0))] w (NodesPost 61 F w t.ns)
 | 0,_,_,_,_,h,_,_,_,_,_ => h.elim
 | k+1,_,_,_,_,h,hs,hk,hl,_,hF => nodes_step k (nodes_k k) h hs hk hl hF
theorem nodes_any {Ft F:Nat->Prop} {w:World} {a:Nat} {q:QueryV} {t:TrD} (h:TreeF 95 Ft w a t) (hs:ShapesAt w 0) (ht:TOk q t) (hl:t.ns.length<=900) (hF:∀ b,w.heap.size<=b->F b):Calls Tryz.prog 32 #[.pointer (some (aD a 0))] w (NodesPost 61 F w t.ns):=by
 obtain⟨k,hk⟩:=h;exact nodes_k k hk hs ht.kinds hl hF
def BestPost (F:Nat->Prop) (w:World) (t:TrD) (e:Ending) (w':World):Prop:=∃ v nv,e=.returned (.tuple #[v,.int .u64 (t.d.cost:Int)])/\nv.map pureN=t.ns/\NodesK 61 F w.heap.size w' v nv/\Below w.heap.size w w'
theorem bestS_any {W0:World} {f:FactsV} {ts:List TableD} {q:QueryV} (E:Env f ts q W0) {X M:Nat->Prop} {w:World} {sb:Nat} {L:SeL} {σ:SeD} (h:SeAt W0 f ts q X M w sb L σ) (hok:TOk q σ.best) (hl:σ.best.ns.length<=800) {F:Nat->Prop} (hF:∀ b,w.heap.size<=b->F b) :
  Calls Tryz.prog 18 #[.pointer (some (aD sb 0))] w (BestPost F w σ.best):=by
 obtain⟨v0,v1,v2,v3,v4,v5,v6,v7,v8,v9,v10,v11,v12,hFC,-⟩:=factsCells f ts q;have c16:w.cell? (aD sb 16)=some (.pointer (some (aD L.best 0))):=by
  have:=h.blk;rw[hFC] at this;exact this.cell 16
 obtain⟨p,hP,hpd⟩:=h.best.partIn;have ec:p.cost=σ.best.d.cost:=congrArg PartD.cost hpd;have c5:w.cell? (aD L.best 5)=some (.int .u64 (σ.best.d.cost:Int)):=by rw[<- ec]; exact hP.c5
 have hsh:ShapesAt w 0:=fun j u hj=>h.hz.below.cell _ _ _ (E.shapes j u hj)
 have HN:Hid (∀ x,x=w.drew->Calls Tryz.prog 32 #[.pointer (some (aD L.best 0))] x (NodesPost 61 F x σ.best.ns)):=fun x hx=>by
  rw[hx];exact nodes_any (h.best.below ((Below.refl _ _).drew)) (ShapesAt.below ((Below.refl _ _).drew) hsh) hok (by omega) hF
 have hN:=HN.out w.drew rfl;generalize L.best=bp at *;generalize σ.best=B at *;clear h hok hl hFC hP hpd ec hsh HN E p;obtain⟨B1,B2⟩:=B;simp only at *;obtain⟨cost,hcost⟩:∃ n,n=B1.cost:=⟨_,rfl⟩
 have HR:Hid (∀ v nv w',nv.map pureN=B2->NodesK 61 F w.heap.size w' v nv->Below w.heap.size w w'->BestPost F w ⟨B1,B2⟩ (.returned (.tuple #[v,.int .u64 (cost:Int)])) w'):=fun v nv w' h1 h2 h3=>⟨v,nv,by rw[hcost],h1,h2,h3⟩
 rw[<- hcost] at c5;clear hcost;generalize BestPost F w ⟨B1,B2⟩=BP at *;go_enter Tryz.func18,Tryz.ntmps18;go_wp2_with fail;refine wp_region_held_drew (S:=fun x=>Below w.heap.size w x) (by kernel_rfl) ((Below.refl _ _).drew) (fun hS=>?_);refine wT 0 (.pointer (some (aD sb 0))) hS (fun x hx=>?_) ?_
 ·go_simp
 refine wT 1 (.pointer (some (aD sb 0))) hS (fun x hx=>?_) ?_
 ·go_simp
 refine wT 2 (.pointer (some (aD sb 16))) hS (fun x hx=>?_) ?_
 ·go_simp
 refine wT 3 (.pointer (some (aD bp 0))) hS (fun x hx=>?_) ?_
 ·have e0:=cB hx c16;go_simp
 refine wT 5 (.pointer (some (aD sb 0))) hS (fun x hx=>?_) ?_
 ·go_simp
 refine wT 6 (.pointer (some (aD sb 0))) hS (fun x hx=>?_) ?_
 ·go_simp
 refine wT 7 (.pointer (some (aD sb 16))) hS (fun x hx=>?_) ?_
 ·go_simp
 refine wT 8 (.pointer (some (aD bp 0))) hS (fun x hx=>?_) ?_
 ·have e0:=cB hx c16;go_simp
 refine wT 9 (.pointer (some (aD bp 0))) hS (fun x hx=>?_) ?_
 ·go_simp
 refine wT 10 (.pointer (some (aD bp 0))) hS (fun x hx=>?_) ?_
 ·go_simp
 refine wT 11 (.pointer (some (aD bp 5))) hS (fun x hx=>?_) ?_
 ·go_simp
 refine wT 12 (.int .u64 (cost:Int)) hS (fun x hx=>?_) ?_
 ·have e0:=cB hx c5;go_simp
 refine wR 4 fun K hK=>?_
 go_simp;refine Calls.mono hN ?_;rintro e w2 ⟨v,nv,rfl,hnv,hnk,hb2⟩;obtain⟨na,nm,nc,rfl⟩:=ownsRow_slice hnk.own;refine hK.out _ _ ((Below.refl w.heap.size w).drew.trans hb2) (fun hS=>?_);clear hK K;refine wR 13 fun K hK=>?_
 go_simp;refine hK.out _ _ (hS) (fun hS=>?_);clear hK K;refine wR 14 fun K hK=>?_
 go_simp;refine hK.out _ _ (hS) (fun hS=>?_);clear hK K;refine wpAnyH_done (by kernel_rfl) ?_ _
 try simp only[Act.put,List.getElem_toArray,List.getElem_cons_succ,List.getElem_cons_zero,List.setIfInBounds_toArray,List.set_cons_succ,List.set_cons_zero]
 try simp only[Act.put,List.getElem_toArray,List.getElem_cons_succ,List.getElem_cons_zero,List.setIfInBounds_toArray,List.set_cons_succ,List.set_cons_zero]
 have HF:Hid _:=HR.out _ nv w2 hnv hnk hS;clear hS hnk hN c16 c5;go_wp2;exact HF.out
end Go.Proofs.YtlpbelhfpoilpabGreatDoor
namespace Go.Scout
open Go.RowKit
theorem NodesK.plan {Tn:TypeId} {F:Nat->Prop} {base:Nat} {w:World} {v:Value} {nv:List NodeV} (h:NodesK Tn F base w v nv) (hl:nv.length<=1000):∃ ao cap,v=.slice ao nv.length cap/\NodesAt w ao nv:=by
 have hv:∃ ao cap,v=.slice ao nv.length cap:=by
  rcases h.own.2 with⟨rfl,h0⟩ | ⟨g,cap,cur,rfl,_⟩
  ·exact⟨none,0,by rw[h0]⟩
  ·exact⟨_,_,rfl⟩
 obtain⟨ao,cap,rfl⟩:=hv;refine⟨ao,cap,rfl,by omega,fun i hi=>?_⟩;obtain⟨g,cap',e,hg,hgl,hc⟩:=own_node h.own hi;injection e with e1 e2 e3;subst e1;have hm:nv.getD i nz∈nv:=by
  rw[List.getD_eq_getElem?_getD,List.getElem?_eq_getElem hi];exact List.getElem_mem hi
 obtain⟨l1,_,l2,_⟩:=h.lists _ hm;exact⟨g,0,rfl,by rw[Nat.zero_add]; exact hc 0 _ (by omega) rfl,by rw[Nat.zero_add]; exact hc 1 _ (by omega) rfl,by rw[Nat.zero_add]; exact hc 2 _ (by omega) rfl,by rw[Nat.zero_add]; exact hc 3 _ (by omega) rfl,by rw[Nat.zero_add]; exact hc 4 _ (by omega) rfl,by rw[Nat.zero_add]; exact hc 5 _ (by omega) rfl,by rw[Nat.zero_add]; exact hc 6 _ (by omega) rfl,l1,l2⟩
theorem pure_same {a b:NodeV} (h:pureN a=pureN b):a.same b:=by
 obtain⟨k,l,r,s,c,y,o⟩:=a;obtain⟨k',l',r',s',c',y',o'⟩:=b;unfold pureN at h;simp only[NodeV.mk.injEq,IntsV.mk.injEq,true_and] at h;obtain⟨h1,h2,h3,h4,h5,h6,h7⟩:=h;exact⟨h1,h2,h3,h4,h5,h6,h7⟩
theorem pures_same {a b:List NodeV} (h:a.map pureN=b.map pureN):a.length=b.length/\∀ i,i<a.length->(a.getD i nz).same (b.getD i nz):=by
 have hl:a.length=b.length:=by have:=congrArg List.length h; simpa using this
 refine⟨hl,fun i hi=>pure_same ?_⟩;have e:=congrArg (fun l=>l[i]?) h;simp only[List.getElem?_map] at e;rw[List.getElem?_eq_getElem hi,List.getElem?_eq_getElem (hl ▸ hi)] at e;rw[List.getD_eq_getElem?_getD,List.getD_eq_getElem?_getD,List.getElem?_eq_getElem hi,List.getElem?_eq_getElem (hl ▸ hi)];exact Option.some.inj e
end Go.Scout
namespace Go.Proofs.YtlpbelhfpoilpabGreatDoor
open Go.RowKit Go.Scout
theorem keepInts_any (ao bo:Option Addr) (cap cap':Nat) (xs:List Int) (w:World) (hx:IntsAt w ao xs) (hy:IntsAt w bo xs) :
  Calls Tryz.prog 19 #[.slice ao xs.length cap,.slice bo xs.length cap'] w fun e w'=>e=.returned (.bool true)/\∃ n,w' = w.drewN n:=by
 have hl:=hx.1;have hne:((xs.length:Int) != xs.length)=false:=by simp
 go_enter Tryz.func19,Tryz.ntmps19;go_wp2;go_loopw [5] (fun i wr=>∃ k:Nat,k<=xs.length/\i=.int .i64 k/\∃ n,wr=w.drewN n) (fun i _=>xs.length-(intOf i).toNat)
 case atStart=>exact⟨0,Nat.zero_le _,rfl,0,rfl⟩
 case round=>
  obtain⟨k,hk,rfl,n,rfl⟩:=hrel;by_cases hlt:k<xs.length
  ·obtain⟨b,off,rfl,hc⟩:=hx.get hlt;obtain⟨b',off',rfl,hc'⟩:=hy.get hlt;have h1:=hc k hlt;have h2:=hc' k hlt;clear hc hc' hx hy;generalize xs.getD k 0=x at *;have hxx:(x != x)=false:=by simp
   go_wp2;go_quiet (fail);go_wp2;go_roundw
   case rel=>exact⟨k+1,by omega,by go_num,_,rfl⟩
   case measure=>simp[intOf]; omega
  ·go_wp2;go_ret;exact⟨rfl,_,rfl⟩
theorem kints_drewN {w:World} {ao:Option Addr} {xs:List Int} (h:IntsAt w ao xs) (n:Nat):IntsAt (w.drewN n) ao xs:=h.below (below_drewN (Below.refl _ _) _)
theorem keepInts_drawn (ao bo:Option Addr) (cap cap':Nat) (xs:List Int) (w:World) (n m:Nat) (hx:IntsAt w ao xs) (hy:IntsAt w bo xs) :
  Calls Tryz.prog 19 #[.slice ao xs.length cap,.slice bo xs.length cap'] (w.drewN (n+m)) fun e w''=>e=.returned (.bool true)/\∃ m',w'' = w.drewN (n+m'):=
 (keepInts_any ao bo cap cap' xs (w.drewN (n+m)) (kints_drewN hx _) (kints_drewN hy _)).mono fun _ _ ⟨he,k',hk'⟩=>⟨he,m+k',by rw[hk',World.drewN_drewN,Nat.add_assoc]⟩
theorem keepPlan_any (ao bo:Option Addr) (cap cap':Nat) (ns ms:List NodeV) (w:World) (hx:NodesAt w ao ns) (hy:NodesAt w bo ms) (he:ns.length=ms.length) (hs:∀ i,i<ns.length->(ns.getD i nz).same (ms.getD i nz)) :
  Calls Tryz.prog 9 #[.slice ao ns.length cap,.slice bo ms.length cap'] w fun e w'=>e=.returned (.bool true)/\Below w.heap.size w w':=by
 have hl:=hx.1;rw[<- he];have HE:Hid (ns.length=ms.length):=he;clear he;have hne:((ns.length:Int) != ns.length)=false:=by simp
 go_enter Tryz.func9,Tryz.ntmps9;go_wp2;go_loopw [5] (fun i wr=>∃ k:Nat,k<=ns.length/\i=.int .i64 k/\∃ n,wr=w.drewN n) (fun i _=>ns.length-(intOf i).toNat)
 case atStart=>exact⟨0,Nat.zero_le _,rfl,0,rfl⟩
 case round=>
  obtain⟨k,hk,rfl,n,rfl⟩:=hrel;by_cases hlt:k<ns.length
  ·obtain⟨b,off,rfl,c0,c1,c2,c3,c4,c5,c6,i1,i2⟩:=hx.2 k hlt;obtain⟨b',off',rfl,d0,d1,d2,d3,d4,d5,d6,j1,j2⟩:=hy.2 k (by have:=HE.out; omega);obtain⟨q0,q1,q2,q3,q4,q5,q6⟩:=hs k hlt;clear hx hy hs;generalize ns.getD k nz=x1 at *;generalize ms.getD k nz=x2 at *;obtain⟨ka,la,ra,sa,⟨ad1,cp1,xs1⟩,ya,⟨ad2,cp2,xs2⟩⟩:=x1;obtain⟨kb,lb,rb,sb,⟨ad3,cp3,xs3⟩,yb,⟨ad4,cp4,xs4⟩⟩:=x2;unfold IntsV.At at i1 i2 j1 j2;unfold IntsV.val at c4 c6 d4 d6;simp only at q0 q1 q2 q3 q4 q5 q6 i1 i2 j1 j2 c0 c1 c2 c3 c4 c5 c6 d0 d1 d2 d3 d4 d5 d6;subst q0 q1 q2 q3 q4 q5 q6;have t0:(ka != ka)=false:=by simp
   have t1:(la != la)=false:=by simp
   have t2:(ra != ra)=false:=by simp
   have t3:(sa != sa)=false:=by simp
   have t5:(ya != ya)=false:=by simp
   go_wp2;refine wp_region_quiet_lit (by kernel_rfl) (by kernel_rfl) ?_
   repeat (go_big_quiet_step (fail))
   go_big_quiet_want;refine⟨.bool true,fun x hx=>?_,?_⟩
   ·obtain⟨m,rfl⟩:=hx;have hC:=keepInts_drawn ad1 ad3 cp1 cp3 xs1 w n m i1 j1;go_simp
   simp only[pA,sB,sC];go_big_quiet_on
   repeat (go_big_quiet_step (fail))
   refine wpQuiet_nil ?_;intro x hx;obtain⟨m,rfl⟩:=hx;rw[World.drewN_drewN];generalize n+m=n';go_wp2;refine wp_region_quiet_lit (by kernel_rfl) (by kernel_rfl) ?_
   repeat (go_big_quiet_step (fail))
   go_big_quiet_want;refine⟨.bool true,fun x hx=>?_,?_⟩
   ·obtain⟨m,rfl⟩:=hx;have hC:=keepInts_drawn ad2 ad4 cp2 cp4 xs2 w n' m i2 j2;go_simp
   simp only[pA,sB,sC];go_big_quiet_on
   repeat (go_big_quiet_step (fail))
   refine wpQuiet_nil ?_;intro x hx;obtain⟨m,rfl⟩:=hx;rw[World.drewN_drewN];generalize n'+m=n2;go_wp2;go_quiet (fail);go_wp2;go_roundw
   case rel=>exact⟨k+1,by omega,by go_num,_,rfl⟩
   case measure=>simp[intOf]; omega
  ·go_wp2;go_ret;exact⟨rfl,below_drewN (Below.refl _ _) _⟩
end Go.Proofs.YtlpbelhfpoilpabGreatDoor
namespace Go.Scout
open Go.RowKit
theorem runN_snoc (rk:Nat->Int) (ts:List TableD) (q:QueryV) (conc:List Nat) (picks:List Int):∀ (n k:Nat) (σ:SeD),runN rk ts q conc picks (n+1) k σ=if (runN rk ts q conc picks n k σ).status=1 then stepN rk ts q conc (pickN' picks (k+n)) (runN rk ts q conc picks n k σ) else runN rk ts q conc picks n k σ
 | 0,k,σ => rfl
 | n+1,k,σ => by
  show (if σ.status=1 then runN rk ts q conc picks (n+1) (k+1) (stepN rk ts q conc (pickN' picks k) σ) else σ)=_
  have e:runN rk ts q conc picks (n+1) k σ=if σ.status=1 then runN rk ts q conc picks n (k+1) (stepN rk ts q conc (pickN' picks k) σ) else σ:=rfl
  by_cases h:σ.status=1
  ·rw[if_pos h,runN_snoc rk ts q conc picks n (k+1),e,if_pos h,show k+1+n=k+(n+1) by omega]
  ·rw[if_neg h,e,if_neg h,if_neg h]
theorem runN_ok {rk:Nat->Int} {ts:List TableD} {q:QueryV} {conc:List Nat} (hcn:conc.length=q.wh.length) (h5:q.src.xs.length<=5) (picks:List Int) {σ:SeD} (h:SOk q σ):∀ n,SOk q (runN rk ts q conc picks n 0 σ)/\(runN rk ts q conc picks n 0 σ).picks.length<=σ.picks.length+n
 | 0 => ⟨h,Nat.le_refl _⟩
 | n+1 => by
  obtain⟨h1,h2⟩:=runN_ok (rk:=rk) (ts:=ts) hcn h5 picks h n;rw[runN_snoc];split
  ·rename_i hs
   have:=stepN_ok (rk:=rk) (ts:=ts) hcn h1 h5 hs (pickN' picks (0+n));exact⟨this.1,by omega⟩
  ·exact⟨h1,by omega⟩
def goT (rk:Nat->Int) (ts:List TableD) (q:QueryV) (conc:List Nat) (picks:List Int) (n:Nat) (tick:Int) (σ:SeD):SeD:=
 if 0<=tick/\tick<n then
  (if (runN rk ts q conc picks tick.toNat 0 σ).status=1 then { runN rk ts q conc picks tick.toNat 0 σ with status:=4 } else runN rk ts q conc picks tick.toNat 0 σ)
 else runN rk ts q conc picks n 0 σ
theorem runN_stop {rk:Nat->Int} {ts:List TableD} {q:QueryV} {conc:List Nat} {picks:List Int} {σ:SeD} {d:Nat} (h:(runN rk ts q conc picks d 0 σ).status≠1):∀ m,runN rk ts q conc picks (d+m) 0 σ=runN rk ts q conc picks d 0 σ
 | 0 => rfl
 | m+1 => by
  rw[show d+(m+1)=d+m+1 by omega,runN_snoc,runN_stop h m,if_neg h]
theorem goT_stop {rk:Nat->Int} {ts:List TableD} {q:QueryV} {conc:List Nat} {picks:List Int} {σ:SeD} {d n:Nat} {tick:Int} (h:(runN rk ts q conc picks d 0 σ).status≠1) (hd:d<=n) (ht:tick<0∨(d:Int)<=tick):goT rk ts q conc picks n tick σ=runN rk ts q conc picks d 0 σ:=by
 unfold goT;split
 ·rename_i hc
  obtain⟨m,hm⟩:∃ m,tick.toNat=d+m:=⟨tick.toNat-d,by omega⟩
  rw[hm,runN_stop h,if_neg h]
 ·obtain⟨m,hm⟩:∃ m,n=d+m:=⟨n-d,by omega⟩
  rw[hm,runN_stop h]
theorem goT_end {rk:Nat->Int} {ts:List TableD} {q:QueryV} {conc:List Nat} {picks:List Int} {σ:SeD} {n:Nat} {tick:Int} (ht:tick<0∨(n:Int)<=tick):goT rk ts q conc picks n tick σ=runN rk ts q conc picks n 0 σ:=by
 unfold goT;rw[if_neg (by omega)]
theorem goT_tick {rk:Nat->Int} {ts:List TableD} {q:QueryV} {conc:List Nat} {picks:List Int} {σ:SeD} {n d:Nat} (hd:d<n) (h:(runN rk ts q conc picks d 0 σ).status=1):goT rk ts q conc picks n (d:Int) σ = { runN rk ts q conc picks d 0 σ with status:=4 }:=by
 unfold goT;rw[if_pos ⟨by omega,by omega⟩];rw[show (d:Int).toNat=d by omega,if_pos h]
theorem QSame.clause {q p:QueryV} (h:QSame q p) (i:Nat):(p.wh.getD i lz).cs=(q.wh.getD i lz).cs:=by
 by_cases hi:i<p.wh.length
 ·exact h.cs i hi
 ·have h2:¬ i<q.wh.length:=by rw[<- h.len]; exact hi
  rw[List.getD_eq_getElem?_getD,List.getD_eq_getElem?_getD,List.getElem?_eq_none (by omega),List.getElem?_eq_none (by omega)]
theorem QSame.size {q p:QueryV} (h:QSame q p) (ts:List TableD):sizeP ts p=sizeP ts q:=by
 funext s c
 unfold sizeP;simp only[h.src,h.clause]
theorem QSame.key {q p:QueryV} (h:QSame q p) (ts:List TableD):keyP ts p=keyP ts q:=by
 funext n a b
 unfold keyP;simp only[h.src,h.clause,h.len]
theorem QSame.part {q p:QueryV} (h:QSame q p) (ts:List TableD):partP ts p=partP ts q:=by
 funext n l r
 unfold partP;simp only[h.size ts]
theorem QSame.grow {q p:QueryV} (h:QSame q p) (ts:List TableD):growT ts p=growT ts q:=by
 funext n bs
 unfold growT;rw[h.part ts]
theorem QSame.want {q p:QueryV} (h:QSame q p):wantN p=wantN q:=by
 unfold wantN;rw[h.ord,h.sel]
theorem QSame.ends {q p:QueryV} (h:QSame q p):endsP p=endsP q:=by
 funext k o
 unfold endsP;rw[h.ord,h.want,h.keys]
theorem QSame.endKind {q p:QueryV} (h:QSame q p):endKindN p=endKindN q:=by
 funext o
 unfold endKindN;rw[h.group,h.keys]
theorem QSame.endOrder {q p:QueryV} (h:QSame q p):endOrderN p=endOrderN q:=by
 unfold endOrderN;rw[h.group,h.keys,h.want]
theorem QSame.ended {q p:QueryV} (h:QSame q p) (ts:List TableD):endedT ts p=endedT ts q:=by
 funext t
 unfold endedT;rw[h.grow ts,h.ends,h.endKind]
theorem QSame.sorted {q p:QueryV} (h:QSame q p) (ts:List TableD):sortedT ts p=sortedT ts q:=by
 funext t o
 unfold sortedT;rw[h.grow ts]
theorem QSame.endings {q p:QueryV} (h:QSame q p) (ts:List TableD):endingsT ts p=endingsT ts q:=by
 funext t
 unfold endingsT;rw[h.ended ts,h.sorted ts,h.endOrder]
theorem QSame.best {q p:QueryV} (h:QSame q p) (ts:List TableD):bestS ts p=bestS ts q:=by
 funext b t
 unfold bestS;rw[h.endings ts]
theorem QSame.filtered {q p:QueryV} (h:QSame q p) (ts:List TableD):filteredT ts p=filteredT ts q:=by
 funext t c
 unfold filteredT;rw[h.grow ts]
theorem QSame.scanned {q p:QueryV} (h:QSame q p) (ts:List TableD):scannedT ts p=scannedT ts q:=by
 funext c s
 unfold scannedT;rw[h.grow ts,h.filtered ts]
theorem QSame.plainTo {q p:QueryV} (h:QSame q p) (ts:List TableD):Scout.plainTo ts p=Scout.plainTo ts q:=by
 funext k
 induction k with
 | zero => show growT ts p _ _=growT ts q _ _; rw[h.grow ts]
 | succ k ih => show growT ts p _ [Scout.plainTo ts p k,growT ts p _ _]=growT ts q _ [Scout.plainTo ts q k,growT ts q _ _]; rw[h.grow ts,ih]
theorem QSame.plain {q p:QueryV} (h:QSame q p) (ts:List TableD):plainT ts p=plainT ts q:=by
 unfold plainT;rw[h.grow ts,h.filtered ts,h.plainTo ts,h.src,h.group,h.len,h.ord]
theorem QSame.resort {q p:QueryV} (h:QSame q p) (ts:List TableD):resortS ts p=resortS ts q:=by
 funext g o
 unfold resortS;rw[h.sorted ts]
theorem QSame.improve {q p:QueryV} (h:QSame q p) (ts:List TableD):improveN ts p=improveN ts q:=by
 funext g l
 unfold improveN;rw[h.resort ts]
theorem QSame.joinS {q p:QueryV} (h:QSame q p) (ts:List TableD):Scout.joinS ts p=Scout.joinS ts q:=by
 funext l r g cl acc key
 unfold Scout.joinS;rw[h.grow ts,h.key ts]
theorem QSame.joined {q p:QueryV} (h:QSame q p) (ts:List TableD):joinedT ts p=joinedT ts q:=by
 funext c l g
 unfold joinedT;rw[h.grow ts,h.joinS ts]
theorem QSame.joins {q p:QueryV} (h:QSame q p) (ts:List TableD):joinsT ts p=joinsT ts q:=by
 funext c a b
 unfold joinsT;rw[h.joined ts]
theorem QSame.keep {q p:QueryV} (h:QSame q p) (rk:Nat->Int) (ts:List TableD):keepN rk ts p=keepN rk ts q:=by
 funext s l σ
 unfold keepN;rw[h.src,h.best ts,h.improve ts]
theorem QSame.doN {q p:QueryV} (h:QSame q p) (rk:Nat->Int) (ts:List TableD):Scout.doN rk ts p=Scout.doN rk ts q:=by
 funext c t σ
 unfold Scout.doN;rw[h.keep rk ts,h.scanned ts,h.joins ts]
theorem QSame.stepN {q p:QueryV} (h:QSame q p) (rk:Nat->Int) (ts:List TableD):Scout.stepN rk ts p=Scout.stepN rk ts q:=by
 funext c k σ
 unfold Scout.stepN;rw[h.doN rk ts]
theorem QSame.runN {q p:QueryV} (h:QSame q p) (rk:Nat->Int) (ts:List TableD):Scout.runN rk ts p=Scout.runN rk ts q:=by
 funext c ps n
 induction n with
 | zero => rfl
 | succ n ih =>
  funext k σ
  show (if σ.status=1 then Scout.runN rk ts p c ps n (k+1) (Scout.stepN rk ts p c (pickN' ps k) σ) else σ)=(if σ.status=1 then Scout.runN rk ts q c ps n (k+1) (Scout.stepN rk ts q c (pickN' ps k) σ) else σ)
  rw[ih,h.stepN rk ts]
theorem QSame.goT {q p:QueryV} (h:QSame q p) (rk:Nat->Int) (ts:List TableD):Scout.goT rk ts p=Scout.goT rk ts q:=by
 funext c ps n t σ
 unfold Scout.goT;rw[h.runN rk ts]
theorem QSame.conc {q p:QueryV} (h:QSame q p) (ts:List TableD):concL ts p=concL ts q:=by
 have e:∀ r:QueryV,concL ts r=r.whs.map fun c=>setN (concernN ts r.src.xs c):=fun r=>by
  unfold concL QueryV.whs;rw[List.map_map];rfl
 rw[e p,e q,h.whs,h.src]
def usefulG (ts:List TableD) (q:QueryV) (s:Nat) (acc:List (List Int)) (c:List CondD):List (List Int):=
 if ((eqCols c).2.2 && !coversB s (setN (srcL ts q [(eqCols c).1,(eqCols c).2.1])))=true then usefulC ts q s (usefulC ts q s acc (eqCols c).1) (eqCols c).2.1 else acc
theorem QSame.srcL {q p:QueryV} (h:QSame q p) (ts:List TableD):Scout.srcL ts p=Scout.srcL ts q:=by
 funext xs
 unfold Scout.srcL;rw[h.src]
theorem QSame.usefulC {q p:QueryV} (h:QSame q p) (ts:List TableD):Scout.usefulC ts p=Scout.usefulC ts q:=by
 funext s acc c
 unfold Scout.usefulC;rw[h.srcL ts]
theorem QSame.useful {q p:QueryV} (h:QSame q p) (ts:List TableD):usefulN ts p=usefulN ts q:=by
 funext s
 have e:∀ (r:QueryV) (i:List (List Int)),r.wh.foldl (usefulS ts r s) i=r.whs.foldl (usefulG ts r s) i:=fun r i=>by
  unfold QueryV.whs;rw[List.foldl_map];rfl
 have eg:usefulG ts p s=usefulG ts q s:=by
  funext acc c
  unfold usefulG;rw[h.srcL ts,h.usefulC ts]
 unfold usefulN;rw[e p,e q,h.whs,eg,h.srcL ts,h.endOrder]
theorem QSame.beginN {q p:QueryV} (h:QSame q p) (rk:Nat->Int) (ts:List TableD) (room:Nat):Scout.beginN rk ts p room=Scout.beginN rk ts q room:=by
 unfold Scout.beginN;rw[h.src,h.useful ts,h.plain ts]
theorem bests_take (ts:List TableD) (q:QueryV) (b:TrD) (l:List TrD) {k:Nat} (hk:k<l.length):(l.take (k+1)).foldl (bestS ts q) b=bestS ts q ((l.take k).foldl (bestS ts q) b) (l.getD k trz):=foldl_takeR _ b l trz hk
end Go.Scout
namespace Go.Proofs.YtlpbelhfpoilpabGreatDoor
open Go.RowKit Go.Scout Go.Shelf
theorem SeAt.cells {W0:World} {f:FactsV} {ts:List TableD} {q:QueryV} {X M:Nat->Prop} {w:World} {sb:Nat} {L:SeL} {σ:SeD} (h:SeAt W0 f ts q X M w sb L σ) {v0 v1 v2 v3 v4 v5 v6 v7 v8 v9 v10 v11 v12:Value} (hFC:f.cells ts q=#[v0,v1,v2,v3,v4,v5,v6,v7,v8,v9,v10,v11,v12]):GB w sb 87 #[v0,v1,v2,v3,v4,v5,v6,v7,v8,v9,v10,v11,v12,.slice (some (aD L.gs 0)) σ.groups.length L.gcap,L.av,.bool σ.cut,.pointer (some (aD L.best 0)),L.pv,.int .i64 σ.status]:=by
 have:=h.blk;rw[hFC] at this;exact this
theorem keep_best {W0:World} {f:FactsV} {ts:List TableD} {q:QueryV} (E:Env f ts q W0) {X M:Nat->Prop} {w:World} {sb:Nat} {L:SeL} {σ:SeD} (h:SeAt W0 f ts q X M w sb L σ) (bo:Option Addr) (bc:Nat) (bs:List (Nat × TrD)) (hp:PtrsAt w bo (bs.map Prod.fst)) (hpo:∀ a,bo=some a->a.block≠sb) (hbs:∀ x∈bs,TreeF 95 (fun b=>¬ X b) w x.1 x.2) (hok:∀ x∈bs,TOk q x.2) (hl:bs.length<=1000) :
  Calls Tryz.prog 78 #[.pointer (some (aD sb 0)),.int .u64 ((2 ^ q.src.xs.length-1:Nat):Int),.slice bo bs.length bc] w fun e w'=>(∃ v,e=.returned v)/\∃ L',SeAt W0 f ts q X M w' sb L' { σ with best:=(bs.map Prod.snd).foldl (bestS ts q) σ.best }/\Kept (fun b=>¬ M b) w w':=by
 obtain⟨v0,v1,v2,v3,v4,v5,v6,v7,v8,v9,v10,v11,v12,hFC,-,-,-,-,-,-,-,-,hv8,-⟩:=factsCells f ts q;have HPT:Hid (PtrsAt w bo (bs.map Prod.fst)):=hp;have HPO:Hid (∀ a,bo=some a->a.block≠sb):=hpo;have HLN:Hid ((bs.map Prod.fst).length=bs.length):=List.length_map _;obtain⟨BK,hBK⟩:∃ B:Nat->TrD,B=fun k=>((bs.map Prod.snd).take k).foldl (bestS ts q) σ.best:=⟨_,rfl⟩
 obtain⟨BD,hBD⟩:∃ B:Nat->TrD,B=fun k=>(bs.map Prod.snd).getD k trz:=⟨_,rfl⟩
 have HST:Hid (∀ k,k<bs.length->BK (k+1)=cheapestT (BK k) (endingsT ts q (BD k))):=fun k hk=>by rw[hBK,hBD]; exact bests_take ts q σ.best _ (by rw[List.length_map]; exact hk)
 have HE:Hid (BK bs.length=(bs.map Prod.snd).foldl (bestS ts q) σ.best):=by
  show _=_
  rw[hBK]
  show ((bs.map Prod.snd).take bs.length).foldl _ _=_
  rw[List.take_of_length_le (by rw[List.length_map]; exact Nat.le_refl _)]
 have HB0:Hid (BK 0=σ.best):=by show _=_; rw[hBK]; rfl
 have HGT:Hid (∀ k,k<bs.length->TreeF 95 (fun b=>¬ X b) w ((bs.map Prod.fst).getD k 0) (BD k)/\TOk q (BD k)):=fun k hk=>by
  have h1:(bs.map Prod.fst).getD k 0=(bs[k]).1:=by rw[List.getD_eq_getElem?_getD,List.getElem?_map,List.getElem?_eq_getElem hk]; rfl
  have h2:BD k=(bs[k]).2:=by rw[hBD]; show (bs.map Prod.snd).getD k trz=_; rw[List.getD_eq_getElem?_getD,List.getElem?_map,List.getElem?_eq_getElem hk]; rfl
  rw[h1,h2];exact⟨hbs _ (List.getElem_mem hk),hok _ (List.getElem_mem hk)⟩
 have HEN:Hid (∀ (x:World) (r:Nat) (t:TrD),Fz (fun b=>¬ X b) W0 x->TreeF 95 (fun b=>¬ X b) x r t->TOk q t->Calls Tryz.prog 105 #[.agg #[v0,v1,v2,v3,v4,v5,v6,v7,v8,v9,v10,v11,v12],.pointer (some (aD r 0))] x (TreesPost 95 85 (fun b=>¬ X b) x (endingsT ts q t))):=fun x r t hx hr ht=>by
  rw[<- hFC];exact endings_any E hx r t hr ht
 have HEL:Hid (∀ t,(endingsT ts q t).length<=2):=fun t=>by
  unfold endingsT;split <;> simp
 have HH:Hid (SeAt W0 f ts q X M w sb { L with best:=L.best } { σ with best:=BK 0 }):=by rw[HB0.out]; exact h
 have HFC:Hid _:=hFC;have HXS:Hid (∀ b,¬ X b->b≠sb):=fun b hb e=>hb (e ▸ h.sub _ h.msb)
 have HMS:Hid (∀ b,¬ M b->b≠sb):=fun b hb e=>hb (e ▸ h.msb)
 have hg0:=h.cells hFC;have c8:w.cell? (aD sb 8)=some (.int .u64 ((2 ^ q.src.xs.length-1:Nat):Int)):=by rw[<- hv8]; exact hg0.cell 8
 obtain⟨SS,hSS⟩:∃ n:Nat,n=2 ^ q.src.xs.length-1:=⟨_,rfl⟩
 rw[<- hSS] at c8 ⊢;clear hp hpo hbs hok h hBK hBD hFC hg0 hSS hv8 E;generalize bs.map Prod.fst=bf at *;generalize (bs.map Prod.snd).foldl (bestS ts q) σ.best=R at *;generalize bs.length=bl at *;go_enter Tryz.func78,Tryz.ntmps78;go_wp2;go_loopw [18] (fun iv wr=>∃ (k bp:Nat),k<=bl/\iv=.int .i64 (k:Int)/\Hid (SeAt W0 f ts q X M wr sb { L with best:=bp } { σ with best:=BK k })/\Hid (Kept (fun b=>b≠sb) w wr)) (fun iv _=>bl-(intOf iv).toNat)
 case atStart=>exact⟨0,L.best,Nat.zero_le _,rfl,HH.out,Kept.refl _ _⟩
 case round=>
  obtain⟨k,bp,hk,rfl,HA,HK⟩:=hrel;by_cases hlt:k<bl
  ·obtain⟨tb,toff,hbo,hbc⟩:=PtrsAt.get (HPT.out.keptF HK.out (fun _ a ha=>HPO.out a ha)) (i:=k) (by rw[HLN.out]; exact hlt);subst hbo;have hck:=hbc k (by rw[HLN.out]; exact hlt);have hGk:=HGT.out k hlt;obtain⟨a,ha⟩:∃ a,a=bf.getD k 0:=⟨_,rfl⟩
   rw[<- ha] at hck hGk;have HTk:Hid (TreeF 95 (fun b=>¬ X b) wr a (BD k)):=hGk.1.keptF (HK.out.mono fun b _ hb=>HXS.out b hb);have HTO:Hid (TOk q (BD k)):=hGk.2;have hgb:=HA.out.cells HFC.out;simp only at hgb;have HNX:=HST.out k hlt;have hEN:=HEN.out wr.drew a (BD k) (HA.out.hz.next ((Below.refl _ _).drew)) (HTk.out.below ((Below.refl _ _).drew)) HTO.out;have HEK:Hid _:=HEL.out (BD k);generalize endingsT ts q (BD k)=EN at *;have HNXT:Hid _:=HNX;obtain⟨gsv,hgsv⟩:∃ v,v=Value.slice (some (aD L.gs 0)) σ.groups.length L.gcap:=⟨_,rfl⟩
   obtain⟨avv,havv⟩:∃ v,v=L.av:=⟨_,rfl⟩
   obtain⟨pkv,hpkv⟩:∃ v,v=L.pv:=⟨_,rfl⟩
   rw[<- hgsv,<- havv,<- hpkv] at hgb;have HGB:Hid (GB wr sb 87 #[v0,v1,v2,v3,v4,v5,v6,v7,v8,v9,v10,v11,v12,gsv,avv,.bool σ.cut,.pointer (some (aD bp 0)),pkv,.int .i64 σ.status]):=hgb;have HEQ:Hid (gsv=Value.slice (some (aD L.gs 0)) σ.groups.length L.gcap/\avv=L.av/\pkv=L.pv):=⟨hgsv,havv,hpkv⟩
   have c16:wr.cell? (aD sb 16)=some (.pointer (some (aD bp 0))):=hgb.cell 16;have c16d:wr.drew.cell? (aD sb 16)=some (.pointer (some (aD bp 0))):=c16;clear hbc ha hGk hgb HNX hgsv havv hpkv;obtain⟨wq,hwq⟩:∃ x,x=wr:=⟨_,rfl⟩
   subst hwq;go_wp2_with fail;refine wp_region_held_drew (S:=fun x=>Kept (fun b=>b≠sb) wq x/\∃ u,GB x sb 87 #[v0,v1,v2,v3,v4,v5,v6,v7,v8,v9,v10,v11,v12,gsv,avv,.bool σ.cut,u,pkv,.int .i64 σ.status]) (by kernel_rfl) ⟨Kept.of_below ((Below.refl wq.heap.size wq).drew) (fun _ hl _=>hl),_,HGB.out⟩ (fun hS=>?_);refine wT 0 (.pointer (some (aD sb 0))) hS (fun x hx=>?_) ?_
   ·go_simp
   refine wT 1 (.pointer (some (aD sb 0))) hS (fun x hx=>?_) ?_
   ·go_simp
   refine wT 2 (.pointer (some (aD sb 0))) hS (fun x hx=>?_) ?_
   ·go_simp
   refine wT 3 (.pointer (some (aD sb 16))) hS (fun x hx=>?_) ?_
   ·go_simp
   refine wT 5 (.pointer (some (aD sb 0))) hS (fun x hx=>?_) ?_
   ·go_simp
   refine wT 6 (.pointer (some (aD sb 0))) hS (fun x hx=>?_) ?_
   ·go_simp
   refine wT 7 (.pointer (some (aD sb 0))) hS (fun x hx=>?_) ?_
   ·go_simp
   refine wT 8 (.agg #[v0,v1,v2,v3,v4,v5,v6,v7,v8,v9,v10,v11,v12]) hS (fun x hx=>?_) ?_
   ·obtain⟨u,hu⟩:=hx.2;have e0:x.cell? (aD sb 0)=some v0:=hu.cell 0;have e1:x.cell? (aD sb 1)=some v1:=hu.cell 1;have e2:x.cell? (aD sb 2)=some v2:=hu.cell 2;have e3:x.cell? (aD sb 3)=some v3:=hu.cell 3;have e4:x.cell? (aD sb 4)=some v4:=hu.cell 4;have e5:x.cell? (aD sb 5)=some v5:=hu.cell 5;have e6:x.cell? (aD sb 6)=some v6:=hu.cell 6;have e7:x.cell? (aD sb 7)=some v7:=hu.cell 7;have e8:x.cell? (aD sb 8)=some v8:=hu.cell 8;have e9:x.cell? (aD sb 9)=some v9:=hu.cell 9;have e10:x.cell? (aD sb 10)=some v10:=hu.cell 10;have e11:x.cell? (aD sb 11)=some v11:=hu.cell 11;have e12:x.cell? (aD sb 12)=some v12:=hu.cell 12;go_simp
   refine wT 9 (.pointer (some (aD a 0))) hS (fun x hx=>?_) ?_
   ·go_simp
   refine wpAnyH_ready (rs:=[4,10]) (by kernel_rfl) (by simp) ?_;refine AllReadyH.cons rfl (fun K hK=>?_) (AllReadyH.cons rfl (fun K hK=>?_) AllReadyH.nil)
   ·go_simp;refine hK.out _ _ hS (fun hS=>?_);clear hK K;refine wR 10 fun K hK=>?_
    go_simp;refine Calls.mono hEN ?_;rintro e w2 ⟨v,us,rfl,hus,hin,hb2⟩;have hb02:Below wq.heap.size wq w2:=(Below.refl wq.heap.size wq).drew.trans hb2;have hg2:GB w2 sb 87 #[v0,v1,v2,v3,v4,v5,v6,v7,v8,v9,v10,v11,v12,gsv,avv,.bool σ.cut,.pointer (some (aD bp 0)),pkv,.int .i64 σ.status]:=HGB.out.keep (Kept.of_below (s:=fun b=>b<wq.heap.size) hb02 (fun _ h _=>h)) HGB.out.lt;have c16e:w2.cell? (aD sb 16)=some (.pointer (some (aD bp 0))):=hg2.cell 16;have hul:us.length<=2:=by
     have h1:us.length=EN.length:=by rw[<- hus,List.length_map]
     rw[h1];exact HEK.out
    obtain⟨ua,uc,rfl,hup,-,-,-⟩:=ptrs_own (xs:=us.map Prod.fst) hin.own (by rw[hin.len]; omega);rw[hin.len] at hin ⊢;refine hK.out _ _ ⟨Kept.of_below hb02 (fun _ h _=>h),_,hg2⟩ (fun hS=>?_);clear hK K;have hCH:=cheapest_any bp (BK k) ((HA.out.best).own hb02 (v:=.slice ua us.length uc) (fun g e=>(ownsRow_lt hin.own e).1)) ua uc us hup (fun x hx=>(hin.tree x hx).1) (by omega);rw[hus,<- HNXT.out] at hCH;refine wR 11 fun K hK=>?_
    go_simp;refine Calls.mono hCH ?_;rintro e w3 ⟨r,rfl,hT,hb3⟩;have hb03:Below wq.heap.size wq w3:=bQ1 hb02 hb3;have hg3:GB w3 sb 87 #[v0,v1,v2,v3,v4,v5,v6,v7,v8,v9,v10,v11,v12,gsv,avv,.bool σ.cut,.pointer (some (aD bp 0)),pkv,.int .i64 σ.status]:=HGB.out.keep (Kept.of_below (s:=fun b=>b<wq.heap.size) hb03 (fun _ h _=>h)) HGB.out.lt;refine hK.out _ _ ⟨Kept.of_below hb03 (fun _ h _=>h),_,hg3⟩ (fun hS=>?_);clear hK K;refine wT 12 (.pointer (some (aD sb 0))) hS (fun x hx=>?_) ?_
    ·go_simp
    refine wT 13 (.pointer (some (aD sb 16))) hS (fun x hx=>?_) ?_
    ·go_simp
    have c16f:w3.cell? (aD sb 16)=some (.pointer (some (aD bp 0))):=hg3.cell 16;have f16:=hg3.frozen 16;have hg4:GB (w3.setCell (aD sb 16) (.pointer (some (aD r 0)))) sb 87 #[v0,v1,v2,v3,v4,v5,v6,v7,v8,v9,v10,v11,v12,gsv,avv,.bool σ.cut,.pointer (some (aD r 0)),pkv,.int .i64 σ.status]:=hg3.set 16 _;have hk4:Kept (fun b=>b≠sb) wq (w3.setCell (aD sb 16) (.pointer (some (aD r 0)))):=(Kept.of_below hb03 (fun _ h _=>h)).trans (Kept.setCell _ _ _ (fun h=>h rfl));refine wR 14 fun K hK=>?_
    go_simp;refine hK.out _ _ ⟨hk4,_,hg4⟩ (fun hS=>?_);clear hK K;refine wpAnyH_done (by kernel_rfl) ?_ _
    try simp only[Act.put,List.getElem_toArray,List.getElem_cons_succ,List.getElem_cons_zero,List.setIfInBounds_toArray,List.set_cons_succ,List.set_cons_zero]
    try simp only[Act.put,List.getElem_toArray,List.getElem_cons_succ,List.getElem_cons_zero,List.setIfInBounds_toArray,List.set_cons_succ,List.set_cons_zero]
    have HF:Hid (SeAt W0 f ts q X M (w3.setCell (aD sb 16) (.pointer (some (aD r 0)))) sb { L with best:=r } { σ with best:=BK (k+1) }/\Kept (fun b=>b≠sb) w (w3.setCell (aD sb 16) (.pointer (some (aD r 0))))):=⟨HA.out.better hk4 (by
      rw[HFC.out,HEQ.out.1,HEQ.out.2.1,HEQ.out.2.2] at *;exact hg4) (hT.unown.keptF (Kept.setCell _ _ _ (fun h=>HXS.out _ h rfl))),HK.out.trans hk4⟩
    clear hS c16f f16 hg4 hk4 hCH hT hb3 hb03 hg3 hin hup hul hus hg2 c16 c16d c16e hck hEN;go_wp2;go_roundw
    case rel=>exact⟨k+1,r,by omega,by go_num,HF.out.1,HF.out.2⟩
    case measure=>simp[intOf]; omega
   ·go_simp;refine Calls.mono hEN ?_;rintro e w2 ⟨v,us,rfl,hus,hin,hb2⟩;have hb02:Below wq.heap.size wq w2:=(Below.refl wq.heap.size wq).drew.trans hb2;have hg2:GB w2 sb 87 #[v0,v1,v2,v3,v4,v5,v6,v7,v8,v9,v10,v11,v12,gsv,avv,.bool σ.cut,.pointer (some (aD bp 0)),pkv,.int .i64 σ.status]:=HGB.out.keep (Kept.of_below (s:=fun b=>b<wq.heap.size) hb02 (fun _ h _=>h)) HGB.out.lt;have c16e:w2.cell? (aD sb 16)=some (.pointer (some (aD bp 0))):=hg2.cell 16;have hul:us.length<=2:=by
     have h1:us.length=EN.length:=by rw[<- hus,List.length_map]
     rw[h1];exact HEK.out
    obtain⟨ua,uc,rfl,hup,-,-,-⟩:=ptrs_own (xs:=us.map Prod.fst) hin.own (by rw[hin.len]; omega);rw[hin.len] at hin ⊢;refine hK.out _ _ ⟨Kept.of_below hb02 (fun _ h _=>h),_,hg2⟩ (fun hS=>?_);clear hK K;refine wR 4 fun K hK=>?_
    go_simp;refine hK.out _ _ hS (fun hS=>?_);clear hK K;have hCH:=cheapest_any bp (BK k) ((HA.out.best).own hb02 (v:=.slice ua us.length uc) (fun g e=>(ownsRow_lt hin.own e).1)) ua uc us hup (fun x hx=>(hin.tree x hx).1) (by omega);rw[hus,<- HNXT.out] at hCH;refine wR 11 fun K hK=>?_
    go_simp;refine Calls.mono hCH ?_;rintro e w3 ⟨r,rfl,hT,hb3⟩;have hb03:Below wq.heap.size wq w3:=bQ1 hb02 hb3;have hg3:GB w3 sb 87 #[v0,v1,v2,v3,v4,v5,v6,v7,v8,v9,v10,v11,v12,gsv,avv,.bool σ.cut,.pointer (some (aD bp 0)),pkv,.int .i64 σ.status]:=HGB.out.keep (Kept.of_below (s:=fun b=>b<wq.heap.size) hb03 (fun _ h _=>h)) HGB.out.lt;refine hK.out _ _ ⟨Kept.of_below hb03 (fun _ h _=>h),_,hg3⟩ (fun hS=>?_);clear hK K;refine wT 12 (.pointer (some (aD sb 0))) hS (fun x hx=>?_) ?_
    ·go_simp
    refine wT 13 (.pointer (some (aD sb 16))) hS (fun x hx=>?_) ?_
    ·go_simp
    have c16f:w3.cell? (aD sb 16)=some (.pointer (some (aD bp 0))):=hg3.cell 16;have f16:=hg3.frozen 16;have hg4:GB (w3.setCell (aD sb 16) (.pointer (some (aD r 0)))) sb 87 #[v0,v1,v2,v3,v4,v5,v6,v7,v8,v9,v10,v11,v12,gsv,avv,.bool σ.cut,.pointer (some (aD r 0)),pkv,.int .i64 σ.status]:=hg3.set 16 _;have hk4:Kept (fun b=>b≠sb) wq (w3.setCell (aD sb 16) (.pointer (some (aD r 0)))):=(Kept.of_below hb03 (fun _ h _=>h)).trans (Kept.setCell _ _ _ (fun h=>h rfl));refine wR 14 fun K hK=>?_
    go_simp;refine hK.out _ _ ⟨hk4,_,hg4⟩ (fun hS=>?_);clear hK K;refine wpAnyH_done (by kernel_rfl) ?_ _
    try simp only[Act.put,List.getElem_toArray,List.getElem_cons_succ,List.getElem_cons_zero,List.setIfInBounds_toArray,List.set_cons_succ,List.set_cons_zero]
    try simp only[Act.put,List.getElem_toArray,List.getElem_cons_succ,List.getElem_cons_zero,List.setIfInBounds_toArray,List.set_cons_succ,List.set_cons_zero]
    have HF:Hid (SeAt W0 f ts q X M (w3.setCell (aD sb 16) (.pointer (some (aD r 0)))) sb { L with best:=r } { σ with best:=BK (k+1) }/\Kept (fun b=>b≠sb) w (w3.setCell (aD sb 16) (.pointer (some (aD r 0))))):=⟨HA.out.better hk4 (by
      rw[HFC.out,HEQ.out.1,HEQ.out.2.1,HEQ.out.2.2] at *;exact hg4) (hT.unown.keptF (Kept.setCell _ _ _ (fun h=>HXS.out _ h rfl))),HK.out.trans hk4⟩
    clear hS c16f f16 hg4 hk4 hCH hT hb3 hb03 hg3 hin hup hul hus hg2 c16 c16d c16e hck hEN;go_wp2;go_roundw
    case rel=>exact⟨k+1,r,by omega,by go_num,HF.out.1,HF.out.2⟩
    case measure=>simp[intOf]; omega
  ·have hkb:bl=k:=by omega
   have HF:Hid (∃ L',SeAt W0 f ts q X M wr sb L' { σ with best:=R }/\Kept (fun b=>¬ M b) w wr):=by
    refine⟨{ L with best:=bp },?_,HK.out.mono fun b _ hb=>HMS.out b hb⟩;have:=HA.out;rw[<- hkb,HE.out] at this;exact this
   clear hkb;go_wp2;go_end0;exact⟨⟨_,rfl⟩,HF.out⟩
end Go.Proofs.YtlpbelhfpoilpabGreatDoor
