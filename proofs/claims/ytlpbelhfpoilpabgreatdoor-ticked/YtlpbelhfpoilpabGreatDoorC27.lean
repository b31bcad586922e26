import Derived.Test.YtlpbelhfpoilpabGreatDoorC09
import Derived.Test.YtlpbelhfpoilpabGreatDoorC12
import Derived.Test.YtlpbelhfpoilpabGreatDoorC25
import Derived.Test.YtlpbelhfpoilpabGreatDoorC26
set_option linter.all false
set_option maxRecDepth 100000
set_option maxHeartbeats 16000000
namespace Go.Scout
open Go.RowKit
structure PtrsV where
 ad:Addr
 cap:Nat
 xs:List Nat
def pvz2:PtrsV:=⟨(aD 0 0),0,[]⟩
def PtrsV.val (x:PtrsV):Value:=.slice (some x.ad) x.xs.length x.cap
def flatP (ls:List PtrsV):List Nat:=(ls.map (·.xs)).flatten
theorem flatP_succ {ls:List PtrsV} {k:Nat} (hk:k<ls.length):flatP (ls.take (k+1))=flatP (ls.take k)++(ls.getD k pvz2).xs:=by
 unfold flatP;rw[take_snocR ls pvz2 hk,List.map_append,List.flatten_append];simp
theorem flatP_le {ls:List PtrsV} {k:Nat}:(flatP (ls.take k)).length<=(flatP ls).length:=by
 have h:flatP ls=flatP (ls.take k)++flatP (ls.drop k):=by
  unfold flatP;rw[<- List.flatten_append,<- List.map_append,List.take_append_drop]
 rw[h,List.length_append];omega
structure ListsP (w:World) (ao:Option Addr) (ls:List PtrsV):Prop where
 cells:CellsAt w ao ls.length (fun i=>(ls.getD i pvz2).val)
 each:∀ i,i<ls.length->PtrsAt w (some (ls.getD i pvz2).ad) (ls.getD i pvz2).xs
end Go.Scout
namespace Go.Proofs.YtlpbelhfpoilpabGreatDoor
open Go.RowKit Go.Scout Go.Shelf
def Tryz.growT_ren:Go.Shelf.Ren:=⟨fun | 4=>136 | n=>n,fun | 22=>93 | 25=>85 | 3=>3 | 4=>4 | 9=>9 | 20=>20 | 0=>0 | n=>n,fun | n=>n⟩
theorem Tryz.growT:Go.Proofs.Lays8.n4 Tryz.prog Tryz.growT_ren:={
 mixed:=by kernel_rfl
 f4:=⟨Tryz.f136.name,by decide,Tryz.func136.trans (congrArg some (by kernel_rfl))⟩
 t0:=Tryz.underlying0
 a0:=Tryz.isAgg0
 z0:=Tryz.sizeOf0
 v0:=Tryz.zeroValue0
 t3:=Tryz.underlying3
 a3:=Tryz.isAgg3
 z3:=Tryz.sizeOf3
 v3:=Tryz.zeroValue3
 t4:=Tryz.underlying4
 a4:=Tryz.isAgg4
 z4:=Tryz.sizeOf4
 v4:=Tryz.zeroValue4
 t9:=Tryz.underlying9
 a9:=Tryz.isAgg9
 z9:=Tryz.sizeOf9
 v9:=Tryz.zeroValue9
 t20:=Tryz.underlying20
 a20:=Tryz.isAgg20
 z20:=Tryz.sizeOf20
 v20:=Tryz.zeroValue20
 t22:=Tryz.underlying93
 a22:=Tryz.isAgg93
 z22:=Tryz.sizeOf93
 v22:=Tryz.zeroValue93 }
theorem growP_nil (n:Nat) (w:World) (hn:n<=1000000) :
  Calls Tryz.prog 136 #[.slice none 0 0,.int .i64 n] w fun e w'=>∃ v,e=.returned v/\w'.ownsRow w.heap.size 85 1 v 0 []/\Below w.heap.size w w':=by
 obtain⟨i0,hi,hz0,hz1,hz2⟩:=info_parts Tryz.infoTreeP;by_cases h0:n=0
 ·subst h0;have h:=Any8.slices_Grow_room Tryz.growT none 0 0 0 w (Nat.le_refl _) (by omega) (by omega) (by omega);change Calls Tryz.prog 136 _ _ _ at h;refine h.mono ?_;rintro e w' ⟨rfl,rfl⟩;exact⟨_,rfl,World.ownsRow_nil _ _ _ _,Below.refl _ _⟩
 ·have h:=Any8.slices_Grow_grow Tryz.growT i0 (.pointer none) hi hz0 (by rw[hz1]; decide) none 0 0 n [] w (Nat.le_refl _) (by omega) (by rw[hz2]; omega) (by omega) (by simp) (fun _=>rfl) (fun a e=>by cases e);change Calls Tryz.prog 136 _ _ _ at h;refine h.mono ?_;rintro e w' ⟨rfl,rfl⟩;refine⟨_,rfl,⟨by simp,.inr ⟨w.heap.size,_,_,rfl,Nat.le_refl _,bQ3 w.drew _,Nat.zero_le _,?_,?_,by simp⟩⟩,?_⟩
  ·exact grownCap_le_maxLen _ _ _ _ (by unfold maxLen; omega)
  ·have hge:=grownCap_ge w (0+n) 0 85;have hz:(Value.pointer none).cells.size=1:=rfl;simp only[Array.size_append,size_zeroCells,hz,List.size_toArray,List.length_nil]
   show 0+(0+n-0)*1+(grownCap w (0+n) 0 85-(0+n))*1=grownCap w (0+n) 0 85*1
   omega
  ·exact (Below.refl _ w).drew.alloc (Nat.le_refl _) _
theorem push_ptrs (W:World) (base:Nat) (v:Value) (fk:List Nat) (hown:W.ownsRow base 85 1 v fk.length (fk.map fun x=>Value.pointer (some (aD x 0)))) (xa:Addr) (xc:Nat) (xs:List Nat) (hx:PtrsAt W (some xa) xs) (hl:fk.length+xs.length<=1000) (hb:base<=W.heap.size) (ty:TypeId) :
  ∃ v' w',(Builtin.append_ #[93,93] ty #[v,.slice (some xa) xs.length xc]).run Tryz.prog W=.ok v' w'/\w'.ownsRow base 85 1 v' (fk++xs).length ((fk++xs).map fun x=>Value.pointer (some (aD x 0)))/\Kept (fun b=>v.ownBlock≠some b) W w'/\∃ a m c,v' = .slice a m c:=by
 obtain⟨i0,hi,hz0,hz1,hz2⟩:=info_parts Tryz.infoTreeP;obtain⟨v',w',hr,ho,hg,_⟩:=run_append_own_at (P:=Tryz.prog) W base 93 ty 85 i0 _ 1 8 Tryz.underlying93 hi hz0 hz1 hz2 rfl (by decide) v fk.length _ hown xa xs.length xc (xs.map fun x=>Value.pointer (some (aD x 0))) (by simp)
  (fun j u hj=>by
   by_cases hjl:j<xs.length
   ·obtain⟨b',off',e,hc⟩:=hx.2 j hjl
    cases e
    rw[addr_add];have hu:u=.pointer (some (aD (xs.getD j 0) 0)):=by
     rw[List.getElem?_map,List.getElem?_eq_getElem hjl] at hj;rw[List.getD_eq_getElem?_getD,List.getElem?_eq_getElem hjl];exact (Option.some.inj hj).symm
    rw[hu];exact hc
   ·rw[List.getElem?_eq_none (by simp; omega)] at hj; cases hj) (fun u hu=>by obtain⟨x,_,rfl⟩:=List.mem_map.1 hu; rfl) (by unfold maxLen; omega) (by omega) hb
 exact⟨v',w',hr,by rw[List.length_append,List.map_append]; exact ho,Kept.grown hg (fun r e hr=>hr e),ownsRow_slice ho⟩
theorem concatP_any (ao:Option Addr) (cap:Nat) (ls:List PtrsV) (w:World) (hr:ListsP w ao ls) (hn:ls.length<=1000) (ht:(flatP ls).length<=1000) :
  Calls Tryz.prog 112 #[.slice ao ls.length cap] w fun e w'=>∃ v,e=.returned v/\w'.ownsRow w.heap.size 85 1 v (flatP ls).length ((flatP ls).map fun x=>Value.pointer (some (aD x 0)))/\Below w.heap.size w w':=by
 obtain⟨i0,hi,hz0,hz1,hz2⟩:=info_parts Tryz.infoTreeP;have HR:Hid (ListsP w ao ls):=hr;have HT:Hid ((flatP ls).length<=1000):=ht;clear hr ht;go_enter Tryz.func112,Tryz.ntmps112;go_wp2;go_loopw [3,11] (fun s i wr=>∃ k:Nat,k<=ls.length/\i=.int .i64 k/\s=.int .i64 (flatP (ls.take k)).length/\w=wr) (fun _ i _=>ls.length-(intOf i).toNat)
 case atStart=>exact⟨0,Nat.zero_le _,rfl,rfl,rfl⟩
 case round=>
  obtain⟨k,hk,rfl,rfl,rfl⟩:=hrel;by_cases hlt:k<ls.length
  ·obtain⟨b,off,rfl,hcs⟩:=CellsAt.get HR.out.cells hlt;have hck:=hcs k hlt;have hle:(flatP (ls.take (k+1))).length<=1000:=Nat.le_trans flatP_le HT.out;have hsc:(flatP (ls.take (k+1))).length=(flatP (ls.take k)).length+(ls.getD k pvz2).xs.length:=by rw[flatP_succ hlt,List.length_append]
   have HS:Hid _:=hsc;generalize ls.getD k pvz2=x at *;obtain⟨xad,xcap,xxs⟩:=x;have hck':w.cell? (aD b (off+k))=some (.slice (some xad) xxs.length xcap):=hck;have hw:wrap64 (((flatP (ls.take k)).length:Int)+(xxs.length:Int))=(((flatP (ls.take k)).length+xxs.length:Nat):Int):=by
    simp only at hsc;unfold wrap64; omega
   have hng:¬ ((((flatP (ls.take k)).length+xxs.length:Nat):Int)<0):=by omega
   have HWr:Hid _:=hw;clear hck hcs hle hsc;generalize (flatP (ls.take k)).length=a at *;go_wp2;go_roundw
   case rel=>exact⟨k+1,by omega,by go_num,by rw[HS.out]; exact congrArg (Value.int .i64) HWr.out,trivial⟩
   case measure=>simp[intOf]; omega
  ·have hkk:k=ls.length:=by omega
   subst hkk;rw[List.take_length];have ht:=HT.out;generalize hfl:flatP ls=fl at *;have HF:Hid _:=hfl;clear hfl;go_wp2_with fail;refine (growP_nil fl.length w (by omega)).mono ?_;rintro e w2 ⟨v0,rfl,hown0,hb0⟩;have HO0:Hid (w2.ownsRow w.heap.size 85 1 v0 0 []):=hown0;have HB0:Hid (Below w.heap.size w w2):=hb0;clear hown0 hb0;go_wp2;go_loopw [6,27] (fun v i wr=>∃ k:Nat,k<=ls.length/\i=.int .i64 k/\Hid (wr.ownsRow w.heap.size 85 1 v (flatP (ls.take k)).length ((flatP (ls.take k)).map fun x=>Value.pointer (some (aD x 0))))/\Hid (Below w.heap.size w wr)) (fun _ i _=>ls.length-(intOf i).toNat)
   case atStart=>exact⟨0,Nat.zero_le _,rfl,HO0.out,HB0.out⟩
   case round=>
    obtain⟨k,hk,rfl,HOW,HBS⟩:=hrel;obtain⟨xa0,xm0,xc0,rfl⟩:=ownsRow_slice HOW.out;by_cases hlt:k<ls.length
    ·obtain⟨b,off,rfl,hcs⟩:=CellsAt.get HR.out.cells hlt;have hck:=cB HBS.out (hcs k hlt);have hat:=(HR.out.each k hlt).below HBS.out;have hle:(flatP (ls.take (k+1))).length<=1000:=by
      have h1:(flatP (ls.take (k+1))).length<=(flatP ls).length:=flatP_le;rw[HF.out] at h1;omega
     have hfs:=flatP_succ hlt;have HFS:Hid _:=hfs;rw[hfs,List.length_append] at hle;generalize ls.getD k pvz2=x at *;obtain⟨xad,xcap,xxs⟩:=x;simp only at hat hle;have hck':wr.cell? (aD b (off+k))=some (.slice (some xad) xxs.length xcap):=hck;have HA:Hid (PtrsAt wr (some xad) xxs):=hat;clear hck hcs hfs hat;generalize flatP (ls.take k)=fk at *;have hsz:=HBS.out.size;obtain⟨v',w1,hr1,ho1,hk1,⟨za,zm,zc,rfl⟩⟩:=push_ptrs wr w.heap.size (.slice xa0 xm0 xc0) fk HOW.out xad xcap xxs HA.out hle hsz 93;have HO:Hid (w1.ownsRow w.heap.size 85 1 (.slice za zm zc) (flatP (ls.take (k+1))).length ((flatP (ls.take (k+1))).map fun x=>Value.pointer (some (aD x 0)))):=by
      show World.ownsRow _ _ _ _ _ _ _
      rw[HFS.out];exact ho1
     have HB:Hid (Below w.heap.size w w1):=HBS.out.trans (hk1.below HBS.out.size (fun b hb e=>by have:=(ownsRow_lt HOW.out e).1; omega));clear ho1 hk1 hle hsz;go_wp2_with (first | (at_builtin; refine wpList_append_run rfl (.tmp 31) (.tmp 32) 93 rfl (.slice xa0 xm0 xc0) (.slice (some xad) xxs.length xcap) (.slice za zm zc) w1 rfl rfl hr1 ?_));clear hr1 hck';go_wp2;go_roundw
     case rel=>exact⟨k+1,by omega,by go_num,HO.out,HB.out⟩
     case measure=>simp[intOf]; omega
    ·have hkk:k=ls.length:=by omega
     subst hkk;rw[List.take_length,HF.out] at HOW;go_wp2;go_ret;refine⟨_,rfl,?_,HBS.out⟩;rw[HF.out];exact HOW.out
end Go.Proofs.YtlpbelhfpoilpabGreatDoor
namespace Go.Scout
open Go.RowKit
structure LotsIn (T Tl:TypeId) (F:Nat->Prop) (base:Nat) (w:World) (lv:Value) (ls:List PtrsV) (bs:List (Nat × TrD)):Prop where
 own:w.ownsRow base Tl 1 lv ls.length (ls.map PtrsV.val)
 flat:flatP ls=bs.map Prod.fst
 each:∀ x∈ls,PtrsAt w (some x.ad) x.xs/\x.ad.block<w.heap.size/\lv.ownBlock≠some x.ad.block
 tree:∀ x∈bs,TreeF T (Fv F lv) w x.1 x.2/\base<=x.1/\x.1<w.heap.size
 rise:(bs.map Prod.fst).Pairwise (· < ·)
theorem LotsIn.nil (T Tl:TypeId) (F:Nat->Prop) (base:Nat) (w:World):LotsIn T Tl F base w (.slice none 0 0) [] []:=
 ⟨World.ownsRow_nil _ _ _ _,rfl,(fun x hx=>by cases hx),(fun x hx=>by cases hx),List.Pairwise.nil⟩
theorem flatP_snoc (ls:List PtrsV) (x:PtrsV):flatP (ls++[x])=flatP ls++x.xs:=by
 unfold flatP;rw[List.map_append,List.flatten_append];simp
theorem LotsIn.push {T Tp Tl:TypeId} {F:Nat->Prop} {base:Nat} {w0 w w':World} {lv lv' u:Value} {ls:List PtrsV} {bs us:List (Nat × TrD)} (h:LotsIn T Tl F base w0 lv ls bs) (hb:Below w0.heap.size w0 w) (hu:TreesIn T Tp (Fv F lv) w0.heap.size w u us) {ua:Addr} {uc:Nat} (hue:u=.slice (some ua) us.length uc) (hup:PtrsAt w (some ua) (us.map Prod.fst)) (hun:w0.heap.size<=ua.block/\ua.block<w.heap.size) (hbase:base<=w0.heap.size)
  (ho:w'.ownsRow base Tl 1 lv' (ls++[(⟨ua,uc,us.map Prod.fst⟩:PtrsV)]).length ((ls++[(⟨ua,uc,us.map Prod.fst⟩:PtrsV)]).map PtrsV.val)) (hk:Kept (fun b=>lv.ownBlock≠some b) w w') (hat:lv'.ownBlock=lv.ownBlock∨∃ g,lv'.ownBlock=some g/\w.heap.size<=g):LotsIn T Tl F base w' lv' (ls++[⟨ua,uc,us.map Prod.fst⟩]) (bs++us):=by
 have hown:∀ b,b<w.heap.size->lv.ownBlock≠some b->lv'.ownBlock≠some b:=fun b hl hn e=>by
  rcases hat with h | ⟨g,h,hg⟩
  ·exact hn (h ▸ e)
  ·rw[h] at e;injection e with e;omega
 have hlo:∀ b,lv.ownBlock=some b->b<w0.heap.size:=fun b e=>(ownsRow_lt h.own e).2
 refine⟨ho,?_,fun x hx=>?_,fun x hx=>?_,?_⟩
 ·rw[flatP_snoc,h.flat,List.map_append]
 ·rcases List.mem_append.1 hx with hx | hx
  ·obtain⟨h1,h2,h3⟩:=h.each x hx;have h4:=Nat.lt_of_lt_of_le h2 hb.size;exact⟨(h1.below hb).keptF hk (fun _ a e=>by injection e with e; rw[<- e]; exact h3),Nat.lt_of_lt_of_le h4 hk.size,hown _ h4 h3⟩
  ·rw[List.mem_singleton] at hx;rw[hx];have hnu:lv.ownBlock≠some ua.block:=fun e=>by have:=hlo _ e; omega
   exact⟨hup.keptF hk (fun _ a e=>by injection e with e; rw[<- e]; exact hnu),Nat.lt_of_lt_of_le hun.2 hk.size,hown _ hun.2 hnu⟩
 ·rcases List.mem_append.1 hx with hx | hx
  ·obtain⟨h1,h2,h3⟩:=h.tree x hx;exact⟨(h1.below hb).pushed hk hat,h2,Nat.lt_of_lt_of_le h3 (Nat.le_trans hb.size hk.size)⟩
  ·obtain⟨h1,h2,h3⟩:=hu.tree x hx;exact⟨h1.unown.pushed hk hat,Nat.le_trans hbase h2,Nat.lt_of_lt_of_le h3 hk.size⟩
 ·rw[List.map_append,List.pairwise_append];refine⟨h.rise,hu.rise,fun x hx y hy=>?_⟩;obtain⟨z,hz,rfl⟩:=List.mem_map.1 hx;obtain⟨z',hz',rfl⟩:=List.mem_map.1 hy;exact Nat.lt_of_lt_of_le (h.tree z hz).2.2 (hu.tree z' hz').2.1
theorem LotsIn.lists {T Tl:TypeId} {F:Nat->Prop} {base:Nat} {w:World} {lv:Value} {ls:List PtrsV} {bs:List (Nat × TrD)} (h:LotsIn T Tl F base w lv ls bs):∃ ao cap,lv=.slice ao ls.length cap/\ListsP w ao ls:=by
 have hget:∀ i,i<ls.length->ls.getD i pvz2∈ls:=fun i hi=>by rw[List.getD_eq_getElem?_getD,List.getElem?_eq_getElem hi]; exact List.getElem_mem hi
 rcases own_newsN h.own with⟨rfl,h0⟩ | ⟨g,cap,rfl,_,_,hc⟩
 ·have:ls=[]:=List.eq_nil_of_length_eq_zero h0;subst this;exact⟨none,0,rfl,fun i hi=>absurd hi (by simp),fun i hi=>absurd hi (by simp)⟩
 ·refine⟨_,cap,rfl,fun i hi=>⟨g,0,rfl,?_⟩,fun i hi=>(h.each _ (hget i hi)).1⟩;rw[Nat.zero_add];exact hc i _ (by show _=some (ls.getD i pvz2).val; rw[List.getElem?_map,List.getElem?_eq_getElem hi,List.getD_eq_getElem?_getD,List.getElem?_eq_getElem hi]; rfl)
theorem joinedT_len (ts:List TableD) (q:QueryV) (conc:List Nat) (l:TrD) (g:List PlaceD) (h8:conc.length<=8):0<(joinedT ts q conc l g).length/\(joinedT ts q conc l g).length<=17:=by
 have hb:=between_lt conc l.d.sources ((headP g).getD trz).d.sources;have h1:=risI_len8 hb (by omega);unfold joinedT;simp only;refine⟨?_,?_⟩
 ·generalize risI (betweenP conc l.d.sources ((headP g).getD trz).d.sources)=cl;have key:∀ (ks:List Int) (acc:List TrD),0<acc.length->0<(ks.foldl (joinS ts q l ((headP g).getD trz) g cl) acc).length:=by
   intro ks
   induction ks with
   | nil => intro acc h; exact h
   | cons k ks ih =>
    intro acc h;refine ih _ ?_;unfold joinS;simp only;split
    ·split
     ·simp
     ·split <;> simp
    ·exact h
  exact key _ _ (by simp)
 ·refine Nat.le_trans (joinsS_len ts q l _ g _ _ _) ?_;simp;omega
end Go.Scout
namespace Go.Proofs.YtlpbelhfpoilpabGreatDoor
open Go.RowKit Go.Scout Go.Shelf
theorem Tryz.infoTrees:(Tryz.prog.info? 93).map (fun i=>(i.zero,i.size,i.bytes))=some (some (.slice none 0 0),1,24):=by kernel_rfl
theorem push_lots (W:World) (base:Nat) (v:Value) (ls:List PtrsV) (hown:W.ownsRow base 93 1 v ls.length (ls.map PtrsV.val)) (hl:ls.length<=1000) (hb:base<=W.heap.size) (x:PtrsV) (ty:TypeId) :
  ∃ v' w',(Builtin.append_ #[178,178] ty #[v,.slice (some (aD W.heap.size 0)) 1 1]).run Tryz.prog (W.alloc (.cells #[x.val] 93))=.ok v' w'/\
   w'.ownsRow base 93 1 v' (ls++[x]).length ((ls++[x]).map PtrsV.val)/\Kept (fun b=>v.ownBlock≠some b) W w'/\(∃ a m c,v' = .slice a m c)/\(v'.ownBlock=v.ownBlock∨v'.ownBlock=some (W.heap.size+1)):=by
 obtain⟨i0,hi,hz0,hz1,hz2⟩:=info_parts Tryz.infoTrees;obtain⟨v',w',hr,ho,hk,hs,hat⟩:=push_own (P:=Tryz.prog) W base 178 ty 93 i0 _ 1 24 Tryz.underlying178 hi hz0 hz1 hz2 rfl (by decide) v ls.length _ hown hb [x.val] rfl (fun u hu=>by
  rw[List.mem_singleton] at hu;rw[hu];rfl) hl (by decide)
 exact⟨v',w',hr,by rw[List.length_append,List.map_append]; exact ho,hk,hs,hat⟩
theorem joins_any {F:Nat->Prop} {W0 w:World} {f:FactsV} {ts:List TableD} {q:QueryV} (E:Env f ts q W0) (hz:Fz F W0 w) {ga:Nat} {Aa:Nat->Nat} {oa:List IntsV} {a:List PlaceD} (hA:GrpAt 95 141 F w ga Aa oa a) (hal:a.length<=20) (gca:Nat) (hao:∀ p∈a,∀ x,p.2=some x->TOk q x.2) {gb:Nat} {Ab:Nat->Nat} {ob:List IntsV} {b:List PlaceD} (hB:GrpAt 95 141 F w gb Ab ob b) (hbl:b.length<=20) (gcb:Nat) (hbo:∀ p∈b,∀ x,p.2=some x->TOk q x.2) (hs:(headP b).isSome=true) :
  Calls Tryz.prog 81 #[.agg (f.cells ts q),.slice (some (aD ga 0)) a.length gca,.slice (some (aD gb 0)) b.length gcb] w (TreesPost 95 85 F w (joinsT ts q (concL ts q) a b)):=by
 obtain⟨v0,v1,v2,v3,v4,v5,v6,v7,v8,v9,v10,v11,v12,hFC,-⟩:=factsCells f ts q;obtain⟨w1,hw1,hb1,hg1⟩:=newB w #[v0,v1,v2,v3,v4,v5,v6,v7,v8,v9,v10,v11,v12] 79;have hPI:=pieces_any (hA.below hb1) hal gca;obtain⟨PN,hPN⟩:∃ P,P=piecesN a:=⟨_,rfl⟩
 rw[<- hPN] at hPI;have hpl:PN.length<=20:=by
  rw[hPN];have:=piecesN_len a a.length;rw[List.take_length] at this;omega
 obtain⟨JK,hJK⟩:∃ J:Nat->List TrD,J=fun k=>(PN.take k).flatMap fun x=>joinedT ts q (concL ts q) x.2 b:=⟨_,rfl⟩
 have HST:Hid (∀ k,k<PN.length->JK (k+1)=JK k++joinedT ts q (concL ts q) (PN.getD k (0,trz)).2 b):=fun k hk=>by
  rw[hJK]
  show (PN.take (k+1)).flatMap _=_
  rw[take_snocR PN (0,trz) hk,List.flatMap_append];simp
 have HJE:Hid (JK PN.length=joinsT ts q (concL ts q) a b):=by
  show _=_
  rw[hJK]
  show (PN.take PN.length).flatMap _=_
  rw[List.take_length,hPN];rfl
 have h8:(concL ts q).length<=8:=by rw[concL_len]; exact E.eight
 have HJL:Hid (∀ t,0<(joinedT ts q (concL ts q) t b).length/\(joinedT ts q (concL ts q) t b).length<=17):=fun t=>joinedT_len ts q _ t b h8
 have HTR:Hid (∀ k,k<PN.length->TreeF 95 F w ((PN.map fun x=>Aa x.1).getD k 0) (PN.getD k (0,trz)).2/\TOk q (PN.getD k (0,trz)).2):=fun k hk=>by
  have e1:(PN.map fun x=>Aa x.1).getD k 0=Aa (PN[k]).1:=by rw[List.getD_eq_getElem?_getD,List.getElem?_map,List.getElem?_eq_getElem hk]; rfl
  have e2:PN.getD k (0,trz)=PN[k]:=by rw[List.getD_eq_getElem?_getD,List.getElem?_eq_getElem hk]; rfl
  rw[e1,e2];have hm:PN[k]∈piecesN a:=by rw[<- hPN]; exact List.getElem_mem hk
  rcases pieces_in a [] _ hm with h0 | ⟨p,hp,e⟩
  ·cases h0
  ·exact⟨hA.tree p hp _ e,hao p hp _ e⟩
 have HJO:Hid (∀ (G:Nat->Prop) (x:World) (ap:Nat) (t:TrD),Fz G W0 x->TreeF 95 G x ap t->TOk q t->GrpAt 95 141 G x gb Ab ob b->Calls Tryz.prog 111 #[.agg #[v0,v1,v2,v3,v4,v5,v6,v7,v8,v9,v10,v11,v12],.pointer (some (aD ap 0)),.slice (some (aD gb 0)) b.length gcb] x (TreesPost 95 85 G x (joinedT ts q (concL ts q) t b))):=fun G x ap t hx ht hto hg=>by
  rw[<- hFC];exact joined_any E hx ap t ht hto hg hbl gcb hbo hs
 have HLM:Hid ((PN.map fun x=>Aa x.1).length=PN.length):=List.length_map _;have HB1:Hid (Below w.heap.size w w1):=hb1;have HG1:Hid (GB w1 w.heap.size 79 #[v0,v1,v2,v3,v4,v5,v6,v7,v8,v9,v10,v11,v12]):=hg1;have HZ:Hid (Fz F W0 w):=hz;have HGB:Hid (GrpAt 95 141 F w gb Ab ob b):=hB;have HJ0:Hid (JK 0=[]):=by show _=_; rw[hJK]; rfl
 rw[hFC];clear hFC E hz hA hB hao hbo hs hPN hJK h8 hb1 hg1;generalize joinsT ts q (concL ts q) a b=R at *;generalize (PN.map fun x=>Aa x.1)=xs at *;obtain⟨al,hal'⟩:∃ n,n=a.length:=⟨_,rfl⟩
 obtain⟨bl,hbl'⟩:∃ n,n=b.length:=⟨_,rfl⟩
 rw[<- hal'] at hPI ⊢;rw[<- hbl'] at HJO ⊢;clear hal' hbl' hal hbl;obtain⟨JT,hJT⟩:∃ J:TrD->List TrD,J=fun t=>joinedT ts q (concL ts q) t b:=⟨_,rfl⟩
 have HST2:Hid (∀ k,k<PN.length->JK (k+1)=JK k++JT (PN.getD k (0,trz)).2):=by rw[hJT]; exact HST.out
 have HJL2:Hid (∀ t,0<(JT t).length/\(JT t).length<=17):=by rw[hJT]; exact HJL.out
 have HJO2:Hid (∀ (G:Nat->Prop) (x:World) (ap:Nat) (t:TrD),Fz G W0 x->TreeF 95 G x ap t->TOk q t->GrpAt 95 141 G x gb Ab ob b->Calls Tryz.prog 111 #[.agg #[v0,v1,v2,v3,v4,v5,v6,v7,v8,v9,v10,v11,v12],.pointer (some (aD ap 0)),.slice (some (aD gb 0)) bl gcb] x (TreesPost 95 85 G x (JT t))):=by rw[hJT]; exact HJO.out
 clear HST HJL HJO hJT;obtain⟨PL,hPL⟩:∃ n,n=PN.length:=⟨_,rfl⟩
 rw[<- hPL] at HST2 HTR HLM HJE hpl;obtain⟨PD,hPD⟩:∃ D:Nat->TrD,D=fun k=>(PN.getD k (0,trz)).2:=⟨_,rfl⟩
 have HST3:Hid (∀ k,k<PL->JK (k+1)=JK k++JT (PD k)):=by rw[hPD]; exact HST2.out
 have HTR3:Hid (∀ k,k<PL->TreeF 95 F w (xs.getD k 0) (PD k)/\TOk q (PD k)):=by rw[hPD]; exact HTR.out
 clear HST2 HTR hPL hPD PN;go_enter Tryz.func81,Tryz.ntmps81;go_wp2_with fail;refine hPI.mono ?_;rintro e w2 ⟨vp,rfl,ho2,hb2⟩;obtain⟨xa,xc,rfl,hpt,-⟩:=ptrs_own ho2 (by rw[HLM.out]; omega);rw[HLM.out];have HPT:Hid (PtrsAt w2 xa xs):=hpt;have HG2:Hid (GB w2 w.heap.size 79 #[v0,v1,v2,v3,v4,v5,v6,v7,v8,v9,v10,v11,v12]):=HG1.out.keep (Kept.of_below (s:=fun b=>b<w1.heap.size) hb2 (fun _ h _=>h)) HG1.out.lt;have HB2:Hid (Below w.heap.size w w2):=bQ1 HB1.out hb2;clear hPI ho2 hpt hb2 hw1 HG1 HB1;go_wp2;go_loopw [7,13] (fun lv xv wr=>∃ (k:Nat) (ls:List PtrsV) (bs:List (Nat × TrD)),k<=PL/\xv=.int .i64 (k:Int)/\Hid (bs.map Prod.snd=JK k)/\Hid (ls.length=k/\bs.length<=17*k)/\Hid (LotsIn 95 93 F w2.heap.size wr lv ls bs)/\Hid (Below w2.heap.size w2 wr)) (fun _ xv _=>PL-(intOf xv).toNat)
 case atStart=>exact⟨0,[],[],Nat.zero_le _,rfl,HJ0.out.symm,⟨rfl,by simp⟩,LotsIn.nil _ _ _ _ _,Below.refl _ _⟩
 case round=>
  obtain⟨k,ls,bs,hk,rfl,HBS,HLL,HLI,HBW⟩:=hrel;obtain⟨la,lc,rfl,hlists⟩:=HLI.out.lists;have HLS:Hid (ListsP wr la ls):=hlists;by_cases hlt:k<PL
  ·obtain⟨kb,koff,rfl,hkc⟩:=PtrsAt.get (HPT.out.below HBW.out) (i:=k) (by rw[HLM.out]; exact hlt);have hck:=hkc k (by rw[HLM.out]; exact hlt);obtain⟨ap,hap⟩:∃ x,x=xs.getD k 0:=⟨_,rfl⟩
   rw[<- hap] at hck;have hTk:=HTR3.out k hlt;rw[<- hap] at hTk;have hBw:Below w.heap.size w wr:=bQ1 HB2.out HBW.out;have hv:∀ z,(Value.slice la ls.length lc).ownBlock=some z->w2.heap.size<=z/\z<wr.heap.size:=fun z e=>ownsRow_lt HLI.out.own e
   have hJO:=HJO2.out (Fv F (.slice la ls.length lc)) wr ap (PD k) ((HZ.out.next hBw).own (fun z e=>by have:=hv z e; have:=HZ.out.below.size; have:=HB2.out.size; omega)) (hTk.1.own hBw (fun z e=>by have:=hv z e; have:=HB2.out.size; omega)) hTk.2 ((HGB.out.mono (G:=Fv F (.slice la ls.length lc)) (fun b hb h=>⟨h,fun e=>by have:=hv b e; have:=HB2.out.size; omega⟩)).below hBw);have HNX:Hid _:=HST3.out k hlt;have HJLk:Hid _:=HJL2.out (PD k);have hf:GB wr w.heap.size 79 #[v0,v1,v2,v3,v4,v5,v6,v7,v8,v9,v10,v11,v12]:=HG2.out.keep (Kept.of_below (s:=fun b=>b<w2.heap.size) HBW.out (fun _ h _=>h)) HG2.out.lt;have a0:wr.cell? (aD w.heap.size 0)=some v0:=hf.cell 0;have a1:wr.cell? (aD w.heap.size 1)=some v1:=hf.cell 1;have a2:wr.cell? (aD w.heap.size 2)=some v2:=hf.cell 2;have a3:wr.cell? (aD w.heap.size 3)=some v3:=hf.cell 3;have a4:wr.cell? (aD w.heap.size 4)=some v4:=hf.cell 4;have a5:wr.cell? (aD w.heap.size 5)=some v5:=hf.cell 5;have a6:wr.cell? (aD w.heap.size 6)=some v6:=hf.cell 6;have a7:wr.cell? (aD w.heap.size 7)=some v7:=hf.cell 7;have a8:wr.cell? (aD w.heap.size 8)=some v8:=hf.cell 8;have a9:wr.cell? (aD w.heap.size 9)=some v9:=hf.cell 9;have a10:wr.cell? (aD w.heap.size 10)=some v10:=hf.cell 10;have a11:wr.cell? (aD w.heap.size 11)=some v11:=hf.cell 11;have a12:wr.cell? (aD w.heap.size 12)=some v12:=hf.cell 12;generalize JT (PD k)=JX at *;have HLLk:=HLL.out;obtain⟨lln,hlln⟩:∃ n,n=ls.length:=⟨_,rfl⟩
   rw[<- hlln] at hJO ⊢;have HLN:Hid (lln=ls.length):=hlln;clear hkc hap hTk hBw hv hf hlln HLLk;go_wp2_with fail;refine hJO.mono ?_;rintro e w3 ⟨u,us,rfl,hus,hin,hb3⟩;rw[HLN.out] at hin;have hul:us.length=JX.length:=by rw[<- hus,List.length_map]
   have hin0:=hin.own;have hfl:=hin.len;have hup0:0<us.length:=by rw[hul]; exact HJLk.out.1
   have hul17:us.length<=17:=by rw[hul]; exact HJLk.out.2
   obtain⟨uo,uc,hue,hup,-,-,hun⟩:=ptrs_own (xs:=us.map Prod.fst) hin0 (by rw[hfl]; omega);obtain⟨ub,uoff,rfl,hucell⟩:=PtrsAt.get hup (i:=0) (by rw[hfl]; exact hup0);rw[hfl] at hue;have hun1:=hun _ rfl;have hlen:=HLL.out;have hun2:ub<w3.heap.size:=cell_lt (hucell 0 (by rw[hfl]; exact hup0));obtain⟨v5,y5,hr5,ho5,hk5,⟨za,zm,zc,rfl⟩,hat5⟩:=push_lots w3 w2.heap.size (.slice la ls.length lc) ls (own_below HLI.out.own hb3) (by omega) (Nat.le_trans HBW.out.size hb3.size) ⟨(aD ub uoff),uc,us.map Prod.fst⟩ 178;have HN5:Hid (LotsIn 95 93 F w2.heap.size y5 (.slice za zm zc) (ls++[⟨(aD ub uoff),uc,us.map Prod.fst⟩]) (bs++us)):=HLI.out.push hb3 hin hue hup ⟨hun1,hun2⟩ HBW.out.size ho5 hk5 (by
    rcases hat5 with h | h
    ·exact .inl h
    ·exact .inr ⟨_,h,by omega⟩)
   have HF5:Hid ((bs++us).map Prod.snd=JK (k+1)/\(ls++[(⟨(aD ub uoff),uc,us.map Prod.fst⟩:PtrsV)]).length=k+1/\(bs++us).length<=17*(k+1)/\Below w2.heap.size w2 y5):=⟨by rw[List.map_append,HBS.out,hus,HNX.out],by simp; omega,by rw[List.length_append]; omega,(bQ1 HBW.out hb3).trans (hk5.below (Nat.le_trans HBW.out.size hb3.size) (fun b hb e=>by have:=(ownsRow_lt HLI.out.own e).1; omega))⟩
   have hval:(⟨(aD ub uoff),uc,us.map Prod.fst⟩:PtrsV).val=.slice (some (aD ub uoff)) us.length uc:=by unfold PtrsV.val; rw[hfl]
   rw[hval] at hr5;rw[<- HLN.out] at hr5;generalize ls++[(⟨(aD ub uoff),uc,us.map Prod.fst⟩:PtrsV)]=ls' at *;generalize bs++us=bs' at *;subst hue;clear hJO hus hin hb3 hul hin0 hfl hup0 hul17 hup hun hucell hun1 hlen hun2 ho5 hk5 hat5 hval a0 a1 a2 a3 a4 a5 a6 a7 a8 a9 a10 a11 a12 hck;go_wp2_with (first | (at_builtin; refine wpList_append_run rfl (.tmp 17) (.tmp 22) 178 rfl (.slice la lln lc) (.slice (some (aD w3.heap.size 0)) 1 1) (.slice za zm zc) y5 rfl rfl hr5 ?_));clear hr5;go_wp2;go_roundw
   case rel=>exact⟨k+1,ls',bs',by omega,by go_num,HF5.out.1,⟨HF5.out.2.1,HF5.out.2.2.1⟩,HN5.out,HF5.out.2.2.2⟩
   case measure=>simp[intOf]; omega
  ·have hkp:PL=k:=by omega
   have hlen:=HLL.out;have hfl:(flatP ls).length=bs.length:=by rw[HLI.out.flat,List.length_map]
   have hCO:=concatP_any la lc ls wr HLS.out (by omega) (by rw[hfl]; omega);have HEND:Hid (bs.map Prod.snd=R):=by
    have:=HBS.out;rw[<- hkp,HJE.out] at this;exact this
   clear hkp hlen hfl;go_wp2_with fail;refine hCO.mono ?_;rintro e w4 ⟨vr,rfl,ho4,hb4⟩;have HF:Hid (TreesPost 95 85 F w R (.returned vr) w4):=by
    rw[HLI.out.flat] at ho4;have hbw:Below w.heap.size w wr:=bQ1 HB2.out HBW.out;refine⟨vr,bs,rfl,HEND.out,⟨?_,fun x hx=>?_,HLI.out.rise⟩,bQ1 hbw hb4⟩
    ·rw[List.length_map] at ho4;exact ownsRow_base ho4 hbw.size
    ·obtain⟨h1,h2,h3⟩:=HLI.out.tree x hx;exact⟨h1.unown.own hb4 (fun g e=>(ownsRow_lt ho4 e).1),Nat.le_trans HB2.out.size h2,Nat.lt_of_lt_of_le h3 hb4.size⟩
   obtain⟨ra',rm,rc,rfl⟩:=ownsRow_slice ho4;clear hCO ho4 hb4;go_wp2;go_ret;exact HF.out
end Go.Proofs.YtlpbelhfpoilpabGreatDoor
namespace Go.Scout
open Go.RowKit
theorem take_end {w w2 w3:World} {sb base:Nat} {TS TT:TypeId} {arr:Array Value} {av v':Value} {n:Nat} {xs:List Value} (hg:GB w3 sb TS (arr.setIfInBounds 14 av)) (ho:w3.ownsRow base TT 2 v' n xs) (h2:Below w.heap.size w w2) (h4:Kept (fun b=>av.ownBlock≠some b) w2 w3) (hne:TT≠TS) :
  GB (w3.setCell (aD sb 14) v') sb TS (arr.setIfInBounds 14 v')/\(w3.setCell (aD sb 14) v').ownsRow base TT 2 v' n xs/\Kept (fun b=>b≠sb/\av.ownBlock≠some b) w (w3.setCell (aD sb 14) v'):=by
 refine⟨?_,?_,?_⟩
 ·have:=hg.set 14 v'
  rwa [Array.setIfInBounds_setIfInBounds] at this
 ·exact ownsRow_keep ho (s:=fun b=>b≠sb) (Kept.setCell _ _ _ (fun h=>h rfl)) (fun g e h=>own_not ho hg hne (h ▸ e))
 ·exact ((Kept.of_below h2 (fun _ h _=>h)).trans (h4.mono (fun b _ h=>h.2))).trans (Kept.setCell _ _ _ (fun h=>h.1 rfl))
end Go.Scout
namespace Go.Proofs.YtlpbelhfpoilpabGreatDoor
open Go.RowKit Go.Scout Go.Shelf
theorem loadTask {W:World} {B:Nat} {v u:Value} (h:GB W B 111 #[v,u]):(loadVar 111 (aD B 0)).run Tryz.prog W=.ok (.agg #[v,u]) W:=by
 have c0:W.cell? (aD B 0)=some v:=h.cell 0;have c1:W.cell? (aD B 1)=some u:=h.cell 1;simp[go_sem,c0,c1]
theorem takeT_any (sb base i:Nat) (arr:Array Value) (av:Value) (ag:List TaskD) (w:World) (hg:GB w sb 87 arr) (h14:arr[14]? = some av) (hown:w.ownsRow base 111 2 av ag.length (ag.flatMap taskL)) (hl:ag.length<=1000000) (hi:i<ag.length) :
  Calls Tryz.prog 50 #[.pointer (some (aD sb 14)),.int .i64 (i:Int)] w fun e w'=>e=.returned (.agg #[.int .u64 ((ag.getD i (0,0)).1:Int),.int .u64 ((ag.getD i (0,0)).2:Int)])/\∃ av',GB w' sb 87 (arr.setIfInBounds 14 av')/\w'.ownsRow base 111 2 av' (ag.eraseIdx i).length ((ag.eraseIdx i).flatMap taskL)/\Kept (fun b=>b≠sb/\av.ownBlock≠some b) w w'/\av'.ownBlock=av.ownBlock:=by
 obtain⟨hsz,h14e⟩:=Array.getElem?_eq_some_iff.1 h14;have harr:arr.setIfInBounds 14 av=arr:=by
  rw[<- h14e];simp[Array.setIfInBounds,hsz]
 have hg':GB w sb 87 (arr.setIfInBounds 14 av):=by rw[harr]; exact hg
 obtain⟨aa,ac,rfl,hta⟩:=tasks_own hown hl;obtain⟨tb,toff,htb,hc0,hc1⟩:=hta.2 i hi;rcases hown.2 with⟨_,h0⟩ | ⟨g,cap,cur,hs,hbg,-⟩
 ·omega
 injection hs with hs1 _ hs2;subst hs1 hs2;injection htb with htb;injection htb with htb1 htb2;subst htb1 htb2;obtain⟨m,hm⟩:∃ m,ag.length=i+1+m:=⟨ag.length-(i+1),by omega⟩
 have hel:(ag.eraseIdx i).length=i+m:=by rw[List.length_eraseIdx_of_lt hi]; omega
 have HNS:Hid ((Value.slice (some (aD g 0)) ag.length ac).ownBlock≠some sb):=own_not hown hg (by decide);have c14:w.cell? (aD sb 14)=some (.slice (some (aD g 0)) ag.length ac):=(hg.cell 14).trans h14;have hgl:=(ownsRow_lt hown rfl).2;obtain⟨w1,hw1,hb1,hx1⟩:=newB w #[.int .u64 0,.int .u64 0] 111;have d14:=cB hb1 c14;rw[hm] at d14;have e0:=cB hb1 hc0;have e1:=cB hb1 hc1;rw[Nat.zero_add] at e0 e1;obtain⟨tl,htl⟩:∃ x,x=(ag.getD i (0,0)).1:=⟨_,rfl⟩
 obtain⟨tr,htr⟩:∃ x,x=(ag.getD i (0,0)).2:=⟨_,rfl⟩
 rw[<- htl] at e0 ⊢;rw[<- htr] at e1 ⊢;obtain⟨w2,hw2,hb2,hx2⟩:=newB w1 #[.int .u64 (tl:Int),.int .u64 (tr:Int)] 111;have hb12:Below w.heap.size w w2:=hb1.trans (hb2.mono hb1.size);have s14:=cB hb2 d14;have hown2:=own_below hown hb12;have hDE:=delete_walk base g ac i m (ag.flatMap taskL) w2 (by rw[hm] at hown2; exact hown2) (flat_one ag) (by omega);rw[flat_del] at hDE;have hlt1:w.heap.size<w1.heap.size:=hx1.lt;have hneS:sb<w.heap.size:=hg.lt;have HG2:Hid (GB w2 sb 87 (arr.setIfInBounds 14 (.slice (some (aD g 0)) ag.length ac))):=hg'.keep (Kept.of_below (s:=fun b=>b<w.heap.size) hb12 (fun _ h _=>h)) hg.lt;have HX2:Hid (GB w2 w1.heap.size 111 #[.int .u64 (tl:Int),.int .u64 (tr:Int)]):=hx2;have HX1:Hid (GB w2 w.heap.size 111 #[.int .u64 0,.int .u64 0]):=hx1.keep (Kept.of_below (s:=fun b=>b<w1.heap.size) hb2 (fun _ h _=>h)) hx1.lt;have HB12:Hid (Below w.heap.size w w2):=hb12;have HM:Hid (ag.length=i+1+m):=hm;have HEL:Hid ((ag.eraseIdx i).length=i+m):=hel;have HSZ:Hid (14<arr.size):=hsz;have HGL:Hid (g<w.heap.size):=hgl;have HLS:Hid (sb<w.heap.size/\w.heap.size<w1.heap.size):=⟨hneS,hlt1⟩
 rw[hel];have h1:(i:Int)<(i:Int)+1+(m:Int):=by omega
 have hwr:wrap64 ((i:Int)+1)=(i:Int)+1:=by unfold wrap64; omega
 clear hb1 hb2 hb12 hx1 hx2 hown hown2 hta hc0 hc1 hm hel hg hg' harr h14e h14 c14 hsz hi hl hgl hlt1 hneS htl htr hbg;generalize (ag.eraseIdx i).flatMap taskL=FX at *;go_enter Tryz.func50,Tryz.ntmps50;go_wp2_with fail;refine hDE.mono ?_;rintro e w3 ⟨rfl,ho3,hk3⟩;have hg3:GB w3 sb 87 (arr.setIfInBounds 14 (.slice (some (aD g 0)) ag.length ac)):=HG2.out.keep hk3 (fun e=>HNS.out (by rw[e]; rfl));have c3:w3.cell? (aD sb 14)=some (.slice (some (aD g 0)) ag.length ac):=by rw[hg3.cell 14,Array.getElem?_setIfInBounds,if_pos rfl,if_pos HSZ.out]
 have f3:=hg3.frozen 14;clear hDE hw1 hw2 d14 e0 e1 s14;go_upto_region 3 with fail;obtain⟨w4,hw4⟩:∃ x,x=w3.setCell (aD sb 14) (.slice (some (aD g 0)) (i+m) ac):=⟨_,rfl⟩
 have hk34:Kept (fun b=>b≠sb) w3 w4:=by rw[hw4]; exact Kept.setCell _ _ _ (fun h=>h rfl)
 have hx4:GB w4 w1.heap.size 111 #[.int .u64 (tl:Int),.int .u64 (tr:Int)]:=(HX2.out.keep hk3 (by have:=HGL.out; have:=HLS.out; omega)).keep hk34 (by have:=HLS.out; omega);have hy4:GB w4 w.heap.size 111 #[.int .u64 0,.int .u64 0]:=(HX1.out.keep hk3 (by have:=HGL.out; omega)).keep hk34 (by have:=HLS.out; omega);have HE:=take_end hg3 ho3 HB12.out (hk3.mono (fun b _ h e=>h (by rw[e]; rfl))) (by decide:111≠87);rw[<- hw4] at HE ⊢;have x0:w4.cell? (aD w1.heap.size 0)=some (.int .u64 (tl:Int)):=hx4.cell 0;have x1:w4.cell? (aD w1.heap.size 1)=some (.int .u64 (tr:Int)):=hx4.cell 1;have y0:w4.cell? (aD w.heap.size 0)=some (.int .u64 0):=hy4.cell 0;have y1:w4.cell? (aD w.heap.size 1)=some (.int .u64 0):=hy4.cell 1;have z0:=hy4.frozen 0;have z1:=hy4.frozen 1;obtain⟨w5,hw5⟩:∃ x,x=(w4.setCell (aD w.heap.size 0) (.int .u64 (tl:Int))).setCell (aD w.heap.size 1) (.int .u64 (tr:Int)):=⟨_,rfl⟩
 have hk45:Kept (fun b=>b≠w.heap.size) w4 w5:=by rw[hw5]; exact (Kept.setCell _ _ _ (fun h=>h rfl)).trans (Kept.setCell _ _ _ (fun h=>h rfl))
 have hg5:GB w5 w.heap.size 111 #[.int .u64 (tl:Int),.int .u64 (tr:Int)]:=by rw[hw5]; exact (hy4.set 0 _).set 1 _
 have HLV:Hid _:=loadTask hg5;have HF:Hid (GB w5 sb 87 (arr.setIfInBounds 14 (.slice (some (aD g 0)) (i+m) ac))/\w5.ownsRow base 111 2 (.slice (some (aD g 0)) (i+m) ac) (i+m) FX/\Kept (fun b=>b≠sb/\(Value.slice (some (aD g 0)) ag.length ac).ownBlock≠some b) w w5):=⟨HE.1.keep hk45 (by have:=HLS.out; omega),ownsRow_keep HE.2.1 hk45 (fun g' e=>by have e2:g=g':=Option.some.inj e; have:=HGL.out; omega),HE.2.2.trans' hk45 (fun b hb _=>Nat.ne_of_lt hb)⟩
 have HW5:Hid _:=hw5;clear hw4 hw5 hx4 hy4 HE hk34 hk45 hg5 hk3 ho3 hg3 c3 f3;go_wp2;rw[<- HW5.out];exact bodyPost_ret (ret_cell1 (p:=4) rfl rfl HLV.out) rfl ⟨rfl,_,HF.out.1,HF.out.2.1,HF.out.2.2,rfl⟩
end Go.Proofs.YtlpbelhfpoilpabGreatDoor
namespace Go.Scout
open Go.RowKit
end Go.Scout
namespace Go.Proofs.YtlpbelhfpoilpabGreatDoor
open Go.RowKit Go.Scout Go.Shelf
theorem settle_any (sb:Nat) (v0 v1 v2 v3 v4 v5 v6 v7 v8 v9 v10 v11 v12 gs bv pk:Value) (aa:Option Addr) (n ac:Nat) (ct:Bool) (st:Int) (w:World) (hg:GB w sb 87 #[v0,v1,v2,v3,v4,v5,v6,v7,v8,v9,v10,v11,v12,gs,.slice aa n ac,.bool ct,bv,pk,.int .i64 st]) :
  Calls Tryz.prog 51 #[.pointer (some (aD sb 0))] w fun e w'=>(∃ v,e=.returned v)/\Kept (fun b=>b≠sb) w w'/\GB w' sb 87 #[v0,v1,v2,v3,v4,v5,v6,v7,v8,v9,v10,v11,v12,gs,.slice aa n ac,.bool ct,bv,pk,.int .i64 (if 0<n then st else if ct=true then 3 else 2)]:=by
 have c14:w.cell? (aD sb 14)=some (.slice aa n ac):=hg.cell 14;have c15:w.cell? (aD sb 15)=some (.bool ct):=hg.cell 15;have c18:w.cell? (aD sb 18)=some (.int .i64 st):=hg.cell 18;have f18:=hg.frozen 18;have HS:Hid (∀ x:Int,GB (w.setCell (aD sb 18) (.int .i64 x)) sb 87 #[v0,v1,v2,v3,v4,v5,v6,v7,v8,v9,v10,v11,v12,gs,.slice aa n ac,.bool ct,bv,pk,.int .i64 x]):=fun x=>hg.set 18 (.int .i64 x)
 have HG:Hid (GB w sb 87 #[v0,v1,v2,v3,v4,v5,v6,v7,v8,v9,v10,v11,v12,gs,.slice aa n ac,.bool ct,bv,pk,.int .i64 st]):=hg;obtain⟨R,hR⟩:∃ R,R=if 0<n then st else if ct=true then 3 else 2:=⟨_,rfl⟩
 rw[<- hR];have HR:Hid _:=hR;clear hg hR;by_cases h0:0<n
 ·have HV:Hid (R=st):=HR.out.trans (if_pos h0);clear HR;go_enter Tryz.func51,Tryz.ntmps51;go_wp2;refine bodyPost_ret (results_none rfl _ _ _) rfl ?_;exact⟨⟨_,rfl⟩,Kept.refl _ _,by rw[HV.out]; exact HG.out⟩
 ·obtain rfl:n=0:=by omega
  cases ct with
  | true =>
   have HV:Hid (R=3):=HR.out.trans (by simp);clear HR;go_enter Tryz.func51,Tryz.ntmps51;go_wp2;go_end0;exact⟨⟨_,rfl⟩,Kept.setCell _ _ _ (fun h=>h rfl),by rw[HV.out]; exact HS.out 3⟩
  | false =>
   have HV:Hid (R=2):=HR.out.trans (by simp);clear HR;go_enter Tryz.func51,Tryz.ntmps51;go_wp2;go_end0;exact⟨⟨_,rfl⟩,Kept.setCell _ _ _ (fun h=>h rfl),by rw[HV.out]; exact HS.out 2⟩
theorem stepsS_any (sb:Nat) (pa:Option Addr) (n pc:Nat) (w:World) (hc:w.cell? (aD sb 17)=some (.slice pa n pc)) :
  Calls Tryz.prog 20 #[.pointer (some (aD sb 0))] w fun e w'=>e=.returned (.int .i64 (n:Int))/\w' = w:=by
 go_enter Tryz.func20,Tryz.ntmps20;go_wp2;go_ret;exact⟨rfl,rfl⟩
end Go.Proofs.YtlpbelhfpoilpabGreatDoor
