import Derived.Test.YtlpbelhfpoilpabGreatDoorC01
import Derived.Test.YtlpbelhfpoilpabGreatDoorC07
import Derived.Test.YtlpbelhfpoilpabGreatDoorC15
set_option linter.all false
set_option maxRecDepth 100000
set_option maxHeartbeats 16000000
namespace Go.Scout
open Go.RowKit
theorem offers_len:∀ (l:List TrD) (x:Bool × List PlaceD),(l.foldl offerS x).2.length=x.2.length
 | [],_ => rfl
 | t::l,x => by rw[List.foldl_cons,offers_len l]; exact offer1_len _ _
theorem takesB_none {t:TrD} {p:PlaceD} (h:p.2=none):takesB t p=startsB t.d.order p.1:=by
 unfold takesB;rw[h];simp
theorem takesB_some {t:TrD} {p:PlaceD} {y:Nat × TrD} (h:p.2=some y):takesB t p=(startsB t.d.order p.1&&decide (t.d.cost<y.2.d.cost)):=by
 unfold takesB;rw[h]
theorem takesB_not {t:TrD} {p:PlaceD} (h:startsB t.d.order p.1=false):takesB t p=false:=by
 unfold takesB;rw[h];rfl
theorem fresh_next {A:Nat->Nat} {G:List PlaceD} {bf:List Nat} {k:Nat} (hk:k<bf.length) (hnd:bf.Nodup) (h:∀ p∈G,∀ x,p.2=some x->A x.1 ∉ bf.drop k) (t:TrD):∀ p∈mixP (tagOf G) t G.length G,∀ x,p.2=some x->tagA A (tagOf G) (bf.getD k 0) x.1 ∉ bf.drop (k+1):=by
 intro p hp x hx;have hd:bf.drop k=bf.getD k 0::bf.drop (k+1):=by rw[List.drop_eq_getElem_cons hk,List.getD_eq_getElem?_getD,List.getElem?_eq_getElem hk]; rfl
 rcases mixP_mem hp hx with rfl | ⟨p',hp',hx'⟩
 ·have:tagA A (tagOf G) (bf.getD k 0) (tagOf G)=bf.getD k 0:=by unfold tagA; rw[if_pos rfl]
  show tagA A (tagOf G) (bf.getD k 0) (tagOf G) ∉ _
  rw[this];have h2:(bf.drop k).Nodup:=hnd.sublist (List.drop_sublist _ _);rw[hd] at h2;exact (List.nodup_cons.1 h2).1
 ·have:tagA A (tagOf G) (bf.getD k 0) x.1=A x.1:=by unfold tagA; rw[if_neg (by have:=tagOf_lt hp' hx'; omega)]
  rw[this];intro hm;exact h p' hp' x hx' (by rw[hd]; exact List.mem_cons_of_mem _ hm)
theorem fresh_one {A:Nat->Nat} {G:List PlaceD} {bf:List Nat} {k i:Nat} (hk:k<bf.length) (h:∀ p∈G,∀ x,p.2=some x->A x.1 ∉ bf.drop k) (t:TrD):∀ p∈mixP (tagOf G) t i G,∀ x,p.2=some x->tagA A (tagOf G) (bf.getD k 0) x.1=tagA A (tagOf G) (bf.getD k 0) (tagOf G)->x.1=tagOf G:=by
 intro p hp x hx e;rcases mixP_mem hp hx with rfl | ⟨p',hp',hx'⟩
 ·rfl
 ·have h1:tagA A (tagOf G) (bf.getD k 0) x.1=A x.1:=by unfold tagA; rw[if_neg (by have:=tagOf_lt hp' hx'; omega)]
  have h2:tagA A (tagOf G) (bf.getD k 0) (tagOf G)=bf.getD k 0:=by unfold tagA; rw[if_pos rfl]
  rw[h1,h2] at e;exact absurd (by rw[List.drop_eq_getElem_cons hk,e,List.getD_eq_getElem?_getD,List.getElem?_eq_getElem hk]; exact List.mem_cons_self) (h p' hp' x hx')
end Go.Scout
namespace Go.Proofs.YtlpbelhfpoilpabGreatDoor
open Go.RowKit Go.Scout Go.Shelf
theorem offer_any {F:Nat->Prop} {w:World} {gb:Nat} {A:Nat->Nat} {os:List IntsV} {g:List PlaceD} (h:GrpAt 95 141 F w gb A os g) (hF:¬ F gb) (hgl:g.length<=20) (gc:Nat) (bo:Option Addr) (bc:Nat) (bs:List (Nat × TrD)) (hp:PtrsAt w bo (bs.map Prod.fst)) (hpo:∀ a,bo=some a->a.block≠gb) (hbs:∀ x∈bs,TreeF 95 F w x.1 x.2) (hnd:(bs.map Prod.fst).Nodup) (hfr:∀ p∈g,∀ x,p.2=some x->A x.1 ∉ bs.map Prod.fst) (hl:bs.length<=1000) :
  Calls Tryz.prog 127 #[.slice (some (aD gb 0)) g.length gc,.slice bo bs.length bc] w fun e w'=>e=.returned (.bool (offerN g (bs.map Prod.snd)).1)/\(∃ A',GrpAt 95 141 F w' gb A' os (offerN g (bs.map Prod.snd)).2)/\Kept (fun b=>b≠gb) w w':=by
 have HPT:Hid (PtrsAt w bo (bs.map Prod.fst)):=hp;have HPO:Hid (∀ a,bo=some a->a.block≠gb):=hpo;have HLN:Hid ((bs.map Prod.fst).length=bs.length):=List.length_map _;have HND:Hid ((bs.map Prod.fst).Nodup):=hnd;have HG0:Hid (GrpAt 95 141 F w gb A os g):=h;have HFR:Hid (∀ p∈g,∀ x,p.2=some x->A x.1 ∉ (bs.map Prod.fst).drop 0):=hfr;have HFG:Hid (∀ b,F b->b≠gb):=fun b hb e=>hF (e ▸ hb)
 have HNF:Hid (¬ F gb):=hF;obtain⟨XK,hXK⟩:∃ X:Nat->Bool × List PlaceD,X=fun k=>((bs.map Prod.snd).take k).foldl offerS (false,g):=⟨_,rfl⟩
 obtain⟨BD,hBD⟩:∃ C:Nat->TrD,C=fun k=>(bs.map Prod.snd).getD k trz:=⟨_,rfl⟩
 have HST:Hid (∀ k,k<bs.length->(XK (k+1)).1=((XK k).1 || (XK k).2.any (takesB (BD k)))/\(XK (k+1)).2=offer1 (XK k).2 (BD k)):=fun k hk=>by
  have e:XK (k+1)=offerS (XK k) (BD k):=by
   rw[hXK,hBD];exact foldl_takeR offerS (false,g) (bs.map Prod.snd) trz (by rw[List.length_map]; exact hk)
  rw[e];exact⟨rfl,rfl⟩
 have HGL:Hid (∀ k,(XK k).2.length=g.length):=fun k=>by rw[hXK]; exact offers_len _ _
 have HE:Hid (XK bs.length=offerN g (bs.map Prod.snd)):=by
  show _=_
  rw[hXK]
  show ((bs.map Prod.snd).take bs.length).foldl offerS (false,g)=_
  rw[List.take_of_length_le (by rw[List.length_map]; exact Nat.le_refl _)];rfl
 have HX0:Hid (XK 0=(false,g)):=by show _=_; rw[hXK]; rfl
 have HGT:Hid (∀ k,k<bs.length->TreeF 95 F w ((bs.map Prod.fst).getD k 0) (BD k)):=fun k hk=>by
  have h1:(bs.map Prod.fst).getD k 0=(bs[k]).1:=by rw[List.getD_eq_getElem?_getD,List.getElem?_map,List.getElem?_eq_getElem hk]; rfl
  have h2:BD k=(bs[k]).2:=by rw[hBD]; show (bs.map Prod.snd).getD k trz=_; rw[List.getD_eq_getElem?_getD,List.getElem?_map,List.getElem?_eq_getElem hk]; rfl
  rw[h1,h2];exact hbs _ (List.getElem_mem hk)
 clear hp hpo hbs hnd hfr h hXK hBD hF;generalize bs.map Prod.fst=bf at *;generalize offerN g (bs.map Prod.snd)=R at *;generalize bs.length=bl at *;clear bs;obtain⟨R1,R2⟩:=R;simp only at *;have HGG:Hid (g.length<=20):=hgl;obtain⟨gl,hgl'⟩:∃ gl,gl=g.length:=⟨_,rfl⟩
 rw[<- hgl'] at HGL hgl ⊢;clear HGG hgl';go_enter Tryz.func127,Tryz.ntmps127;go_wp2;go_loopw [5,12] (fun pv iv wr=>∃ (k:Nat) (Ak:Nat->Nat),k<=bl/\iv=.int .i64 (k:Int)/\pv=.bool (XK k).1/\Hid (GrpAt 95 141 F wr gb Ak os (XK k).2)/\Hid (∀ p∈(XK k).2,∀ x,p.2=some x->Ak x.1 ∉ bf.drop k)/\Hid (Kept (fun b=>b≠gb) w wr)) (fun _ iv _=>bl-(intOf iv).toNat)
 case atStart=>exact⟨0,A,Nat.zero_le _,rfl,by rw[HX0.out],by show GrpAt 95 141 F _ _ _ _ _; rw[HX0.out]; exact HG0.out,by show ∀ p∈_,_; rw[HX0.out]; exact HFR.out,Kept.refl _ _⟩
 case round=>
  obtain⟨k,Ak,hk,rfl,rfl,HGK,HFK,HKK⟩:=hrel;by_cases hlt:k<bl
  ·obtain⟨bb,boff,hbo,hbc⟩:=PtrsAt.get (HPT.out.keptF HKK.out (fun _ a ha=>HPO.out a ha)) (i:=k) (by rw[HLN.out]; exact hlt);subst hbo;have hck:=hbc k (by rw[HLN.out]; exact hlt);obtain⟨G,hG⟩:∃ G,G=(XK k).2:=⟨_,rfl⟩
   obtain⟨b0,hb0⟩:∃ b,b=(XK k).1:=⟨_,rfl⟩
   have HSk:=HST.out k hlt;have hGl:=HGL.out k;rw[<- hG] at HGK HFK HSk hGl;rw[<- hb0] at HSk ⊢;obtain⟨t,ht⟩:∃ t,t=BD k:=⟨_,rfl⟩
   have HTw:=HGT.out k hlt;rw[<- ht] at HSk HTw;obtain⟨A',hA'⟩:∃ A',A' = tagA Ak (tagOf G) (bf.getD k 0):=⟨_,rfl⟩
   obtain⟨a,ha⟩:∃ a,a=bf.getD k 0:=⟨_,rfl⟩
   have HAn:Hid (A' (tagOf G)=a):=by show _=_; rw[hA',ha]; unfold tagA; rw[if_pos rfl]
   have HG1:Hid (GrpAt 95 141 F wr gb A' os (mixP (tagOf G) t 0 G)):=by show GrpAt _ _ _ _ _ _ _ _; rw[mixP_zero,hA']; exact HGK.out.retag _
   have HF1:Hid (∀ i,∀ p∈mixP (tagOf G) t i G,∀ x,p.2=some x->A' x.1=A' (tagOf G)->x.1=tagOf G):=fun i=>by rw[hA']; exact fresh_one (by rw[HLN.out]; exact hlt) HFK.out t
   have HF2:Hid (∀ p∈mixP (tagOf G) t G.length G,∀ x,p.2=some x->A' x.1 ∉ bf.drop (k+1)):=by rw[hA']; exact fresh_next (by rw[HLN.out]; exact hlt) HND.out HFK.out t
   have HALL:Hid (mixP (tagOf G) t gl G=(XK (k+1)).2):=by show _=_; rw[HSk.2,<- hGl]; exact mixP_all t G
   have HB1:Hid ((b0 || (G.take gl).any (takesB t))=(XK (k+1)).1):=by show _=_; rw[HSk.1,<- hGl,List.take_length]
   rw[<- ha] at hck HTw;have HTr:Hid (TreeF 95 F w a t):=HTw;obtain⟨MB,hMB⟩:∃ M:Nat->Bool,M=fun i=>b0 || (G.take i).any (takesB t):=⟨_,rfl⟩
   have HM0:Hid (MB 0=b0):=by show _=_; rw[hMB]; simp
   have HMS:Hid (∀ i,i<gl->MB (i+1)=(MB i || takesB t (G.getD i plz))):=fun i hi=>by
    rw[hMB]
    show (b0 || (G.take (i+1)).any (takesB t))=(b0 || (G.take i).any (takesB t) || takesB t (G.getD i plz))
    rw[any_takeP t (by rw[hGl]; exact hi),Bool.or_assoc]
   have HME:Hid (MB gl=(XK (k+1)).1):=by show _=_; rw[hMB]; exact HB1.out
   have HGLk:Hid (G.length=gl):=hGl;have HF3:Hid (∀ p∈(XK (k+1)).2,∀ x,p.2=some x->A' x.1 ∉ bf.drop (k+1)):=by
    have:=HF2.out;rw[hGl,HALL.out] at this;exact this
   obtain⟨n,hn⟩:∃ n,n=tagOf G:=⟨_,rfl⟩
   rw[<- hn] at HAn HG1 HF1 HALL;clear hbc hG hb0 HSk hGl HTw ht hA' ha HF2 HB1 hMB HGK HFK hn;go_wp2;go_loopw [5,18] (fun pv iv wr=>∃ i:Nat,i<=gl/\iv=.int .i64 (i:Int)/\pv=.bool (MB i)/\Hid (GrpAt 95 141 F wr gb A' os (mixP n t i G))/\Hid (Kept (fun b=>b≠gb) w wr)) (fun _ iv _=>gl-(intOf iv).toNat)
   case atStart=>exact⟨0,Nat.zero_le _,rfl,by rw[HM0.out],HG1.out,HKK.out⟩
   case round=>
    obtain⟨i,hi,rfl,rfl,HGI,HKI⟩:=hrel;by_cases hil:i<gl
    ·have hiG:i<G.length:=by rw[HGLk.out]; exact hil
     have hcc:=HGI.out.cells (i:=i) (by rw[mixP_len]; exact hiG);have hoo:=HGI.out.ord i (by rw[mixP_len]; exact hiG);rw[mixP_get n t hiG] at hcc hoo;have HMI:=HMS.out i hil;obtain⟨p,hP,hpd⟩:=(HTr.out.keptF (HKI.out.mono fun b _ hb=>HFG.out b hb)).partIn;obtain⟨ov,hov⟩:∃ ov,ov=os.getD i nilV:=⟨_,rfl⟩
     rw[<- hov] at hcc hoo;obtain⟨q,hq⟩:∃ q,q=G.getD i plz:=⟨_,rfl⟩
     rw[<- hq] at hcc hoo HMI;have HNO:Hid (takesB t q=false->mixP n t (i+1) G=mixP n t i G):=fun e=>mixP_no n t hiG (by rw[<- hq]; exact e)
     have HYES:Hid (takesB t q=true->GrpAt 95 141 F wr gb A' os (mixP n t i G)->∀ x,Kept (fun b=>b≠gb) w x->GrpAt 95 141 F x gb A' os (mixP n t i G)->GrpAt 95 141 F (x.setCell (aD gb (i*2+1)) (.pointer (some (aD a 0)))) gb A' os (mixP n t (i+1) G)):=fun e _ x hx hg=>by
      have h1:=hg.put HNF.out (i:=i) (n:=n) (t:=t) (by rw[mixP_len]; exact hiG) (by rw[HAn.out]; exact HTr.out.keptF (hx.mono fun b _ hb=>HFG.out b hb)) (HF1.out i);rw[HAn.out,mixP_get n t hiG,<- hq] at h1;rw[mixP_yes n t hiG (by rw[<- hq]; exact e),<- hq];exact h1
     have eo:p.order.xs=t.d.order:=congrArg PartD.order hpd;have ec:p.cost=t.d.cost:=congrArg PartD.cost hpd;have HBE:Hid (∀ y,Below wr.heap.size wr y->Calls Tryz.prog 135 #[.slice p.order.ad p.order.xs.length p.order.cap,.slice ov.ad ov.xs.length ov.cap] y fun e w'=>e=.returned (.bool (startsB t.d.order q.1))/\Below y.heap.size y w'):=fun y hy=>by
      rw[<- eo,<- hoo.1];exact begins_any p.order.ad ov.ad p.order.cap ov.cap p.order.xs ov.xs y (IntsAt.below hy hP.ok.order) (IntsAt.below hy hoo.2.1.at') hP.ok.cap
     have c3:wr.cell? (aD a 3)=some (.slice p.order.ad p.order.xs.length p.order.cap):=hP.c3;have c5:wr.cell? (aD a 5)=some (.int .u64 (p.cost:Int)):=hP.c5;have g0:wr.cell? (aD gb (i*2))=some (.slice ov.ad ov.xs.length ov.cap):=hcc.1;have g1:=hcc.2;have HFZ:Hid (∀ x,Below wr.heap.size wr x->x.frozen? (aD gb (i*2+1))=false):=fun x hx=>(HGI.out.below hx).frozen _
     generalize p.order.xs.length=pol at *;generalize p.order.ad=poa at *;generalize p.order.cap=poc at *;generalize ov.xs.length=ovl at *;generalize ov.ad=ova at *;generalize ov.cap=ovc at *;rw[ec] at c5;have HMX:Hid _:=HMI;have HQT:Hid (∀ y,q.2=some y->TreeF 95 F wr (A' y.1) y.2):=fun y hy=>HGI.out.tree (G.getD i plz) (by rw[<- mixP_get n t hiG]; exact getD_memP (by rw[mixP_len]; exact hiG)) y (by rw[<- hq]; exact hy)
     clear hcc hoo hP hpd eo ec hov hq HMI hiG p ov;obtain⟨wq,hwq⟩:∃ x,x=wr:=⟨_,rfl⟩
     subst hwq;obtain⟨SB,hSB⟩:∃ SB,SB=startsB t.d.order q.1:=⟨_,rfl⟩
     rw[<- hSB] at HBE
     cases SB with
     | false =>
      have HT:Hid (takesB t q=false):=takesB_not hSB.symm;have HM2:Hid (MB (i+1)=MB i):=by show _=_; rw[HMX.out,HT.out,Bool.or_false]
      have HG2:Hid (∀ x,Below wq.heap.size wq x->GrpAt 95 141 F x gb A' os (mixP n t (i+1) G)):=fun x hx=>by rw[HNO.out HT.out]; exact HGI.out.below hx
      obtain⟨po,hpo⟩:∃ po,ptrV A' q.2=.pointer po:=by
       cases q.2 with
       | none => exact⟨_,rfl⟩
       | some y => exact⟨_,rfl⟩
      rw[hpo] at g1;clear hSB hpo HMX HQT;obtain⟨w1,hw1⟩:∃ x,wq.alloc (.cells #[.slice ova ovl ovc,.pointer po] 141)=x:=⟨_,rfl⟩
      have hb1:Below wq.heap.size wq w1:=by rw[<- hw1]; exact bQ2 _ _
      have a0:w1.cell? (aD wq.heap.size 0)=some (.slice ova ovl ovc):=by rw[<- hw1]; simp
      have a1:w1.cell? (aD wq.heap.size 1)=some (.pointer po):=by rw[<- hw1]; simp
      have d3:=cB hb1 c3;have d5:=cB hb1 c5;have HB1:Hid (Below wq.heap.size wq w1):=hb1;clear hb1;go_wp2_with fail;clear hw1;refine wp_region_held_drew (S:=fun x=>Below w1.heap.size w1 x) (by kernel_rfl) ((Below.refl _ _).drew) (fun hS=>?_);refine wT 0 (.pointer (some (aD a 0))) hS (fun x hx=>?_) ?_
      ·go_simp
      refine wT 1 (.pointer (some (aD a 0))) hS (fun x hx=>?_) ?_
      ·go_simp
      refine wT 2 (.pointer (some (aD a 0))) hS (fun x hx=>?_) ?_
      ·go_simp
      refine wT 3 (.pointer (some (aD a 3))) hS (fun x hx=>?_) ?_
      ·go_simp
      refine wT 4 (.slice poa pol poc) hS (fun x hx=>?_) ?_
      ·have e0:=cB hx d3;go_simp
      refine wT 5 (.pointer (some (aD wq.heap.size 0))) hS (fun x hx=>?_) ?_
      ·go_simp
      refine wT 6 (.slice ova ovl ovc) hS (fun x hx=>?_) ?_
      ·have e0:=cB hx a0;go_simp
      refine wR 7 fun K hK=>?_
      go_simp;refine Calls.mono (HBE.out _ (HB1.out.trans (hS.mono HB1.out.size))) ?_;rintro e w2 ⟨rfl,hb⟩;refine hK.out _ _ (hS.trans (hb.mono hS.size)) (fun hS=>?_);clear hK K;refine wT 8 (.bool false) hS (fun x hx=>?_) ?_
      ·go_simp
      simp only[Act.put,List.getElem_toArray,List.getElem_cons_succ,List.getElem_cons_zero,List.setIfInBounds_toArray,List.set_cons_succ,List.set_cons_zero];refine wU 9 hS ?_;refine wU 10 hS ?_;refine wU 11 hS ?_;refine wU 12 hS ?_;refine wU 13 hS ?_;refine wU 14 hS ?_;refine wU 15 hS ?_;refine wU 16 hS ?_;refine wU 17 hS ?_;refine wU 18 hS ?_;refine wU 19 hS ?_;refine wU 20 hS ?_;refine wU 21 hS ?_;refine wU 22 hS ?_;refine wU 23 hS ?_;refine wU 24 hS ?_;refine wU 25 hS ?_;refine wG 26 (.bool false) hS (fun x hx=>?_) ?_
      ·go_simp
      refine wpAnyH_done (by kernel_rfl) ?_ _
      try simp only[Act.put,List.getElem_toArray,List.getElem_cons_succ,List.getElem_cons_zero,List.setIfInBounds_toArray,List.set_cons_succ,List.set_cons_zero]
      try simp only[Act.put,List.getElem_toArray,List.getElem_cons_succ,List.getElem_cons_zero,List.setIfInBounds_toArray,List.set_cons_succ,List.set_cons_zero]
      have HB2:Hid (Below wq.heap.size wq w2):=HB1.out.trans (hS.mono HB1.out.size);have HG3:Hid _:=HG2.out w2 HB2.out;have HK3:Hid (Kept (fun b=>b≠gb) w w2):=HKI.out.trans (Kept.of_below HB2.out (fun _ h _=>h));clear hS c3 c5 d3 d5 a0 a1 g0 g1 HBE hck;go_wp2;go_roundw
      case rel=>exact⟨i+1,by omega,by go_num,by rw[HM2.out],HG3.out,HK3.out⟩
      case measure=>simp[intOf]; omega
     | true =>
      cases hq2:q.2 with
      | none =>
       have HT:Hid (takesB t q=true):=(takesB_none hq2).trans hSB.symm;have HM2:Hid (MB (i+1)=true):=by show _=_; rw[HMX.out,HT.out,Bool.or_true]
       have HG2:Hid (∀ x,Kept (fun b=>b≠gb) w x->GrpAt 95 141 F x gb A' os (mixP n t i G)->GrpAt 95 141 F (x.setCell (aD gb (i*2+1)) (.pointer (some (aD a 0)))) gb A' os (mixP n t (i+1) G)):=HYES.out HT.out HGI.out;rw[hq2] at g1;change wq.cell? (aD gb (i*2+1))=some (.pointer none) at g1;clear hSB HMX HQT hq2;obtain⟨w1,hw1⟩:∃ x,wq.alloc (.cells #[.slice ova ovl ovc,.pointer none] 141)=x:=⟨_,rfl⟩
       have hb1:Below wq.heap.size wq w1:=by rw[<- hw1]; exact bQ2 _ _
       have a0:w1.cell? (aD wq.heap.size 0)=some (.slice ova ovl ovc):=by rw[<- hw1]; simp
       have a1:w1.cell? (aD wq.heap.size 1)=some (.pointer none):=by rw[<- hw1]; simp
       have d3:=cB hb1 c3;have d5:=cB hb1 c5;have HB1:Hid (Below wq.heap.size wq w1):=hb1;clear hb1;have HW1:Hid _:=hw1;clear hw1;go_wp2_with fail;rw[HW1.out];clear HW1;refine wp_region_held_drew (S:=fun x=>Below w1.heap.size w1 x) (by kernel_rfl) ((Below.refl _ _).drew) (fun hS=>?_);refine wT 0 (.pointer (some (aD a 0))) hS (fun x hx=>?_) ?_
       ·go_simp
       refine wT 1 (.pointer (some (aD a 0))) hS (fun x hx=>?_) ?_
       ·go_simp
       refine wT 2 (.pointer (some (aD a 0))) hS (fun x hx=>?_) ?_
       ·go_simp
       refine wT 3 (.pointer (some (aD a 3))) hS (fun x hx=>?_) ?_
       ·go_simp
       refine wT 4 (.slice poa pol poc) hS (fun x hx=>?_) ?_
       ·have e0:=cB hx d3;go_simp
       refine wT 5 (.pointer (some (aD wq.heap.size 0))) hS (fun x hx=>?_) ?_
       ·go_simp
       refine wT 6 (.slice ova ovl ovc) hS (fun x hx=>?_) ?_
       ·have e0:=cB hx a0;go_simp
       refine wR 7 fun K hK=>?_
       go_simp;refine Calls.mono (HBE.out _ (HB1.out.trans (hS.mono HB1.out.size))) ?_;rintro e w2 ⟨rfl,hb⟩;refine hK.out _ _ (hS.trans (hb.mono hS.size)) (fun hS=>?_);clear hK K;refine wT 8 (.bool true) hS (fun x hx=>?_) ?_
       ·go_simp
       simp only[Act.put,List.getElem_toArray,List.getElem_cons_succ,List.getElem_cons_zero,List.setIfInBounds_toArray,List.set_cons_succ,List.set_cons_zero];refine wG 9 (.pointer (some (aD wq.heap.size 1))) hS (fun x hx=>?_) ?_
       ·go_simp
       refine wG 10 (.pointer none) hS (fun x hx=>?_) ?_
       ·have e0:=cB hx a1;go_simp
       refine wG 11 (.bool true) hS (fun x hx=>?_) ?_
       ·go_simp
       refine wG 12 (.bool true) hS (fun x hx=>?_) ?_
       ·go_simp
       simp only[Act.put,List.getElem_toArray,List.getElem_cons_succ,List.getElem_cons_zero,List.setIfInBounds_toArray,List.set_cons_succ,List.set_cons_zero];refine wU 13 hS ?_;refine wU 14 hS ?_;refine wU 15 hS ?_;refine wU 16 hS ?_;refine wU 17 hS ?_;refine wU 18 hS ?_;refine wU 19 hS ?_;refine wU 20 hS ?_;refine wU 21 hS ?_;refine wU 22 hS ?_;refine wU 23 hS ?_;refine wU 24 hS ?_;refine wG 25 (.bool true) hS (fun x hx=>?_) ?_
       ·go_simp
       refine wG 26 (.bool true) hS (fun x hx=>?_) ?_
       ·go_simp
       refine wpAnyH_done (by kernel_rfl) ?_ _
       try simp only[Act.put,List.getElem_toArray,List.getElem_cons_succ,List.getElem_cons_zero,List.setIfInBounds_toArray,List.set_cons_succ,List.set_cons_zero]
       try simp only[Act.put,List.getElem_toArray,List.getElem_cons_succ,List.getElem_cons_zero,List.setIfInBounds_toArray,List.set_cons_succ,List.set_cons_zero]
       have HB2:Hid (Below wq.heap.size wq w2):=HB1.out.trans (hS.mono HB1.out.size);have HK2:Hid (Kept (fun b=>b≠gb) w w2):=HKI.out.trans (Kept.of_below HB2.out (fun _ h _=>h));have HG3:Hid _:=HG2.out w2 HK2.out (HGI.out.below HB2.out);have HK3:Hid (Kept (fun b=>b≠gb) w (w2.setCell (aD gb (i*2+1)) (.pointer (some (aD a 0))))):=HK2.out.trans (Kept.setCell _ _ _ (fun h=>h rfl));have s1:=cB HB2.out g1;have f1:=HFZ.out w2 HB2.out;clear hS c3 c5 d3 d5 a0 a1 g0 g1 HBE hck;go_wp2;go_roundw
       case rel=>exact⟨i+1,by omega,by go_num,by rw[HM2.out],HG3.out,HK3.out⟩
       case measure=>simp[intOf]; omega
      | some y =>
       obtain⟨py,hPy,hyd⟩:=(HQT.out y hq2).partIn;have ey:py.cost=y.2.d.cost:=congrArg PartD.cost hyd;have HTS:Hid (takesB t q=decide (t.d.cost<y.2.d.cost)):=by
        show _=_
        rw[takesB_some hq2,<- hSB,Bool.true_and]
       have r5:wq.cell? (aD (A' y.1) 5)=some (.int .u64 (y.2.d.cost:Int)):=by rw[<- ey]; exact hPy.c5
       rw[hq2] at g1;change wq.cell? (aD gb (i*2+1))=some (.pointer (some (aD (A' y.1) 0))) at g1;generalize A' y.1=r at *;generalize y.2.d.cost=cr at *;obtain⟨cx,hcx⟩:∃ cx,cx=t.d.cost:=⟨_,rfl⟩
       rw[<- hcx] at c5 HTS;clear hPy hyd ey hSB hq2 hcx HQT py;by_cases hc:cx<cr
       ·have HC:Hid (cx<cr):=hc;have HT:Hid (takesB t q=true):=by show _=_; rw[HTS.out]; exact decide_eq_true hc
        have HM2:Hid (MB (i+1)=true):=by show _=_; rw[HMX.out,HT.out,Bool.or_true]
        have HG2:Hid (∀ x,Kept (fun b=>b≠gb) w x->GrpAt 95 141 F x gb A' os (mixP n t i G)->GrpAt 95 141 F (x.setCell (aD gb (i*2+1)) (.pointer (some (aD a 0)))) gb A' os (mixP n t (i+1) G)):=HYES.out HT.out HGI.out;clear hc HMX;obtain⟨w1,hw1⟩:∃ x,wq.alloc (.cells #[.slice ova ovl ovc,.pointer (some (aD r 0))] 141)=x:=⟨_,rfl⟩
        have hb1:Below wq.heap.size wq w1:=by rw[<- hw1]; exact bQ2 _ _
        have a0:w1.cell? (aD wq.heap.size 0)=some (.slice ova ovl ovc):=by rw[<- hw1]; simp
        have a1:w1.cell? (aD wq.heap.size 1)=some (.pointer (some (aD r 0))):=by rw[<- hw1]; simp
        have d3:=cB hb1 c3;have d5:=cB hb1 c5;have HB1:Hid (Below wq.heap.size wq w1):=hb1;have d6:=cB hb1 r5;clear hb1;go_wp2_with fail;clear hw1;refine wp_region_held_drew (S:=fun x=>Below w1.heap.size w1 x) (by kernel_rfl) ((Below.refl _ _).drew) (fun hS=>?_);refine wT 0 (.pointer (some (aD a 0))) hS (fun x hx=>?_) ?_
        ·go_simp
        refine wT 1 (.pointer (some (aD a 0))) hS (fun x hx=>?_) ?_
        ·go_simp
        refine wT 2 (.pointer (some (aD a 0))) hS (fun x hx=>?_) ?_
        ·go_simp
        refine wT 3 (.pointer (some (aD a 3))) hS (fun x hx=>?_) ?_
        ·go_simp
        refine wT 4 (.slice poa pol poc) hS (fun x hx=>?_) ?_
        ·have e0:=cB hx d3;go_simp
        refine wT 5 (.pointer (some (aD wq.heap.size 0))) hS (fun x hx=>?_) ?_
        ·go_simp
        refine wT 6 (.slice ova ovl ovc) hS (fun x hx=>?_) ?_
        ·have e0:=cB hx a0;go_simp
        refine wR 7 fun K hK=>?_
        go_simp;refine Calls.mono (HBE.out _ (HB1.out.trans (hS.mono HB1.out.size))) ?_;rintro e w2 ⟨rfl,hb⟩;refine hK.out _ _ (hS.trans (hb.mono hS.size)) (fun hS=>?_);clear hK K;refine wT 8 (.bool true) hS (fun x hx=>?_) ?_
        ·go_simp
        simp only[Act.put,List.getElem_toArray,List.getElem_cons_succ,List.getElem_cons_zero,List.setIfInBounds_toArray,List.set_cons_succ,List.set_cons_zero];refine wG 9 (.pointer (some (aD wq.heap.size 1))) hS (fun x hx=>?_) ?_
        ·go_simp
        refine wG 10 (.pointer (some (aD r 0))) hS (fun x hx=>?_) ?_
        ·have e0:=cB hx a1;go_simp
        refine wG 11 (.bool false) hS (fun x hx=>?_) ?_
        ·go_simp
        refine wG 12 (.bool false) hS (fun x hx=>?_) ?_
        ·go_simp
        simp only[Act.put,List.getElem_toArray,List.getElem_cons_succ,List.getElem_cons_zero,List.setIfInBounds_toArray,List.set_cons_succ,List.set_cons_zero];refine wG 13 (.pointer (some (aD a 0))) hS (fun x hx=>?_) ?_
        ·go_simp
        refine wG 14 (.pointer (some (aD a 0))) hS (fun x hx=>?_) ?_
        ·go_simp
        refine wG 15 (.pointer (some (aD a 0))) hS (fun x hx=>?_) ?_
        ·go_simp
        refine wG 16 (.pointer (some (aD a 5))) hS (fun x hx=>?_) ?_
        ·go_simp
        refine wG 17 (.int .u64 (cx:Int)) hS (fun x hx=>?_) ?_
        ·have e0:=cB hx d5;go_simp
        refine wG 18 (.pointer (some (aD wq.heap.size 1))) hS (fun x hx=>?_) ?_
        ·go_simp
        refine wG 19 (.pointer (some (aD r 0))) hS (fun x hx=>?_) ?_
        ·have e0:=cB hx a1;go_simp
        refine wG 20 (.pointer (some (aD r 0))) hS (fun x hx=>?_) ?_
        ·go_simp
        refine wG 21 (.pointer (some (aD r 0))) hS (fun x hx=>?_) ?_
        ·go_simp
        refine wG 22 (.pointer (some (aD r 5))) hS (fun x hx=>?_) ?_
        ·go_simp
        refine wG 23 (.int .u64 (cr:Int)) hS (fun x hx=>?_) ?_
        ·have e0:=cB hx d6;go_simp
        refine wG 24 (.bool true) hS (fun x hx=>?_) ?_
        ·have hc:=HC.out;go_simp
        refine wG 25 (.bool true) hS (fun x hx=>?_) ?_
        ·go_simp
        refine wG 26 (.bool true) hS (fun x hx=>?_) ?_
        ·go_simp
        refine wpAnyH_done (by kernel_rfl) ?_ _
        try simp only[Act.put,List.getElem_toArray,List.getElem_cons_succ,List.getElem_cons_zero,List.setIfInBounds_toArray,List.set_cons_succ,List.set_cons_zero]
        try simp only[Act.put,List.getElem_toArray,List.getElem_cons_succ,List.getElem_cons_zero,List.setIfInBounds_toArray,List.set_cons_succ,List.set_cons_zero]
        have HB2:Hid (Below wq.heap.size wq w2):=HB1.out.trans (hS.mono HB1.out.size);have HK2:Hid (Kept (fun b=>b≠gb) w w2):=HKI.out.trans (Kept.of_below HB2.out (fun _ h _=>h));have HG3:Hid _:=HG2.out w2 HK2.out (HGI.out.below HB2.out);have HK3:Hid (Kept (fun b=>b≠gb) w (w2.setCell (aD gb (i*2+1)) (.pointer (some (aD a 0))))):=HK2.out.trans (Kept.setCell _ _ _ (fun h=>h rfl));have s1:=cB HB2.out g1;have f1:=HFZ.out w2 HB2.out;clear hS c3 c5 d3 d5 a0 a1 g0 g1 HBE hck;clear r5 d6;go_wp2;go_roundw
        case rel=>exact⟨i+1,by omega,by go_num,by rw[HM2.out],HG3.out,HK3.out⟩
        case measure=>simp[intOf]; omega
       ·have HC:Hid (cr<=cx):=Nat.le_of_not_lt hc;have HT:Hid (takesB t q=false):=by show _=_; rw[HTS.out]; exact decide_eq_false hc
        have HM2:Hid (MB (i+1)=MB i):=by show _=_; rw[HMX.out,HT.out,Bool.or_false]
        have HG2:Hid (∀ x,Below wq.heap.size wq x->GrpAt 95 141 F x gb A' os (mixP n t (i+1) G)):=fun x hx=>by rw[HNO.out HT.out]; exact HGI.out.below hx
        clear hc HMX;obtain⟨w1,hw1⟩:∃ x,wq.alloc (.cells #[.slice ova ovl ovc,.pointer (some (aD r 0))] 141)=x:=⟨_,rfl⟩
        have hb1:Below wq.heap.size wq w1:=by rw[<- hw1]; exact bQ2 _ _
        have a0:w1.cell? (aD wq.heap.size 0)=some (.slice ova ovl ovc):=by rw[<- hw1]; simp
        have a1:w1.cell? (aD wq.heap.size 1)=some (.pointer (some (aD r 0))):=by rw[<- hw1]; simp
        have d3:=cB hb1 c3;have d5:=cB hb1 c5;have HB1:Hid (Below wq.heap.size wq w1):=hb1;have d6:=cB hb1 r5;clear hb1;go_wp2_with fail;clear hw1;refine wp_region_held_drew (S:=fun x=>Below w1.heap.size w1 x) (by kernel_rfl) ((Below.refl _ _).drew) (fun hS=>?_);refine wT 0 (.pointer (some (aD a 0))) hS (fun x hx=>?_) ?_
        ·go_simp
        refine wT 1 (.pointer (some (aD a 0))) hS (fun x hx=>?_) ?_
        ·go_simp
        refine wT 2 (.pointer (some (aD a 0))) hS (fun x hx=>?_) ?_
        ·go_simp
        refine wT 3 (.pointer (some (aD a 3))) hS (fun x hx=>?_) ?_
        ·go_simp
        refine wT 4 (.slice poa pol poc) hS (fun x hx=>?_) ?_
        ·have e0:=cB hx d3;go_simp
        refine wT 5 (.pointer (some (aD wq.heap.size 0))) hS (fun x hx=>?_) ?_
        ·go_simp
        refine wT 6 (.slice ova ovl ovc) hS (fun x hx=>?_) ?_
        ·have e0:=cB hx a0;go_simp
        refine wR 7 fun K hK=>?_
        go_simp;refine Calls.mono (HBE.out _ (HB1.out.trans (hS.mono HB1.out.size))) ?_;rintro e w2 ⟨rfl,hb⟩;refine hK.out _ _ (hS.trans (hb.mono hS.size)) (fun hS=>?_);clear hK K;refine wT 8 (.bool true) hS (fun x hx=>?_) ?_
        ·go_simp
        simp only[Act.put,List.getElem_toArray,List.getElem_cons_succ,List.getElem_cons_zero,List.setIfInBounds_toArray,List.set_cons_succ,List.set_cons_zero];refine wG 9 (.pointer (some (aD wq.heap.size 1))) hS (fun x hx=>?_) ?_
        ·go_simp
        refine wG 10 (.pointer (some (aD r 0))) hS (fun x hx=>?_) ?_
        ·have e0:=cB hx a1;go_simp
        refine wG 11 (.bool false) hS (fun x hx=>?_) ?_
        ·go_simp
        refine wG 12 (.bool false) hS (fun x hx=>?_) ?_
        ·go_simp
        simp only[Act.put,List.getElem_toArray,List.getElem_cons_succ,List.getElem_cons_zero,List.setIfInBounds_toArray,List.set_cons_succ,List.set_cons_zero];refine wG 13 (.pointer (some (aD a 0))) hS (fun x hx=>?_) ?_
        ·go_simp
        refine wG 14 (.pointer (some (aD a 0))) hS (fun x hx=>?_) ?_
        ·go_simp
        refine wG 15 (.pointer (some (aD a 0))) hS (fun x hx=>?_) ?_
        ·go_simp
        refine wG 16 (.pointer (some (aD a 5))) hS (fun x hx=>?_) ?_
        ·go_simp
        refine wG 17 (.int .u64 (cx:Int)) hS (fun x hx=>?_) ?_
        ·have e0:=cB hx d5;go_simp
        refine wG 18 (.pointer (some (aD wq.heap.size 1))) hS (fun x hx=>?_) ?_
        ·go_simp
        refine wG 19 (.pointer (some (aD r 0))) hS (fun x hx=>?_) ?_
        ·have e0:=cB hx a1;go_simp
        refine wG 20 (.pointer (some (aD r 0))) hS (fun x hx=>?_) ?_
        ·go_simp
        refine wG 21 (.pointer (some (aD r 0))) hS (fun x hx=>?_) ?_
        ·go_simp
        refine wG 22 (.pointer (some (aD r 5))) hS (fun x hx=>?_) ?_
        ·go_simp
        refine wG 23 (.int .u64 (cr:Int)) hS (fun x hx=>?_) ?_
        ·have e0:=cB hx d6;go_simp
        refine wG 24 (.bool false) hS (fun x hx=>?_) ?_
        ·have hc:=HC.out;go_simp
        refine wG 25 (.bool false) hS (fun x hx=>?_) ?_
        ·go_simp
        refine wG 26 (.bool false) hS (fun x hx=>?_) ?_
        ·go_simp
        refine wpAnyH_done (by kernel_rfl) ?_ _
        try simp only[Act.put,List.getElem_toArray,List.getElem_cons_succ,List.getElem_cons_zero,List.setIfInBounds_toArray,List.set_cons_succ,List.set_cons_zero]
        try simp only[Act.put,List.getElem_toArray,List.getElem_cons_succ,List.getElem_cons_zero,List.setIfInBounds_toArray,List.set_cons_succ,List.set_cons_zero]
        have HB2:Hid (Below wq.heap.size wq w2):=HB1.out.trans (hS.mono HB1.out.size);have HG3:Hid _:=HG2.out w2 HB2.out;have HK3:Hid (Kept (fun b=>b≠gb) w w2):=HKI.out.trans (Kept.of_below HB2.out (fun _ h _=>h));clear hS c3 c5 d3 d5 a0 a1 g0 g1 HBE hck;clear r5 d6;go_wp2;go_roundw
        case rel=>exact⟨i+1,by omega,by go_num,by rw[HM2.out],HG3.out,HK3.out⟩
        case measure=>simp[intOf]; omega
    ·have hig:gl=i:=by omega
     have HG3:Hid (GrpAt 95 141 F wr gb A' os (XK (k+1)).2):=by
      have:=HGI.out;rw[<- hig,HALL.out] at this;exact this
     have HM2:Hid (MB i=(XK (k+1)).1):=by show _=_; rw[<- hig]; exact HME.out
     clear hig;go_wp2;go_roundw
     case rel=>exact⟨k+1,A',by omega,by go_num,by rw[HM2.out],HG3.out,HF3.out,HKI.out⟩
     case measure=>simp[intOf]; omega
  ·have hkb:bl=k:=by omega
   have HR:Hid (XK k=(R1,R2)):=by show _=_; rw[<- hkb]; exact HE.out
   rw[HR.out] at HGK ⊢;clear hkb HR;go_wp2;go_ret;exact⟨rfl,⟨Ak,HGK.out⟩,HKK.out⟩
end Go.Proofs.YtlpbelhfpoilpabGreatDoor
