import Derived.Test.YtlpbelhfpoilpabGreatDoorC07
import Derived.Test.YtlpbelhfpoilpabGreatDoorC15
import Derived.Test.YtlpbelhfpoilpabGreatDoorC19
import Derived.Test.YtlpbelhfpoilpabGreatDoorC23
import Derived.Test.YtlpbelhfpoilpabGreatDoorC27
set_option linter.all false
set_option maxRecDepth 100000
set_option maxHeartbeats 16000000
namespace Go.Scout
open Go.RowKit
structure SeL where
 gs:Nat
 gcap:Nat
 gb:Nat->Nat
 gcp:Nat->Nat
 A:Nat->Nat->Nat
 os:Nat->List IntsV
 av:Value
 best:Nat
 pv:Value
theorem GrpAt.tp {T Tp:TypeId} {F:Nat->Prop} {w:World} {gb:Nat} {A:Nat->Nat} {os:List IntsV} {g:List PlaceD} (h:GrpAt T Tp F w gb A os g):∃ c,GB w gb Tp c:=by
 obtain⟨c,hc,_⟩:=h.blk;exact⟨c,hc⟩
theorem GB.tp {w:World} {G:Nat} {t t':TypeId} {c c':Array Value} (h:GB w G t c) (h':GB w G t' c'):t=t':=by
 have e1:w.heap[G]? = some (.cells c t (0,0)):=h;have e2:w.heap[G]? = some (.cells c' t' (0,0)):=h';rw[e1] at e2;injection e2 with e2;injection e2
end Go.Scout
namespace Go.Proofs.YtlpbelhfpoilpabGreatDoor
open Go.RowKit Go.Scout Go.Shelf
def tailC (L:SeL) (σ:SeD):Array Value:=#[.slice (some (aD L.gs 0)) σ.groups.length L.gcap,L.av,.bool σ.cut,.pointer (some (aD L.best 0)),L.pv,.int .i64 σ.status]
structure SeAt (W0:World) (f:FactsV) (ts:List TableD) (q:QueryV) (X M:Nat->Prop) (w:World) (sb:Nat) (L:SeL) (σ:SeD):Prop where
 hz:Fz (fun b=>¬ X b) W0 w
 sub:∀ b,M b->X b
 msb:M sb
 blk:GB w sb 87 (f.cells ts q++tailC L σ)
 gsx:¬ X L.gs
 gsl:L.gs<w.heap.size
 gcell:∀ k,k<σ.groups.length->w.cell? (aD L.gs k)=some (.slice (some (aD (L.gb k) 0)) (σ.groups.getD k []).length (L.gcp k))
 grp:∀ k,k<σ.groups.length->GrpAt 95 141 (fun b=>¬ X b) w (L.gb k) (L.A k) (L.os k) (σ.groups.getD k [])/\M (L.gb k)/\(σ.groups.getD k []).length<=L.gcp k/\L.gcp k<=9223372036854775807
 apart:∀ j k,j<σ.groups.length->k<σ.groups.length->L.gb j=L.gb k->j=k
 ag:w.ownsRow W0.heap.size 111 2 L.av σ.agenda.length (σ.agenda.flatMap taskL)
 agm:∀ b,L.av.ownBlock=some b->M b
 best:TreeF 95 (fun b=>¬ X b) w L.best σ.best
 pk:w.ownsRow W0.heap.size 3 1 L.pv σ.picks.length (σ.picks.map (Value.int .i64))
 pkm:∀ b,L.pv.ownBlock=some b->M b
def SePostL (W0:World) (f:FactsV) (ts:List TableD) (q:QueryV) (X M:Nat->Prop) (w:World) (sb:Nat) (L':SeL) (σ':SeD) (w':World):Prop:=
 ∃ X' M',SeAt W0 f ts q X' M' w' sb L' σ'/\Kept (fun b=>¬ M b) w w'/\(∀ b,M b->M' b)/\(∀ b,M' b->M b∨w.heap.size<=b)/\(∀ b,X' b↔X b∨M' b)
def SePost (W0:World) (f:FactsV) (ts:List TableD) (q:QueryV) (X M:Nat->Prop) (w:World) (sb:Nat) (σ':SeD) (w':World):Prop:=∃ L',SePostL W0 f ts q X M w sb L' σ' w'
theorem SeAt.lt {W0:World} {f:FactsV} {ts:List TableD} {q:QueryV} {X M:Nat->Prop} {w:World} {sb:Nat} {L:SeL} {σ:SeD} (h:SeAt W0 f ts q X M w sb L σ) {b:Nat} (hb:X b):¬ Live W0 b/\b<w.heap.size:=by
 refine⟨fun hl=>h.hz.low b hl hb,Nat.lt_of_not_le fun hl=>h.hz.high b hl hb⟩
theorem SeAt.ne {W0:World} {f:FactsV} {ts:List TableD} {q:QueryV} {X M:Nat->Prop} {w:World} {sb:Nat} {L:SeL} {σ:SeD} (h:SeAt W0 f ts q X M w sb L σ):L.av.ownBlock≠some sb/\L.pv.ownBlock≠some sb/\(∀ b,L.av.ownBlock=some b->L.pv.ownBlock≠some b)/\∀ k,k<σ.groups.length->L.gb k≠sb/\L.av.ownBlock≠some (L.gb k)/\L.pv.ownBlock≠some (L.gb k):=by
 refine⟨own_not h.ag h.blk (by decide),own_not h.pk h.blk (by decide),fun b e=>?_,fun k hk=>?_⟩
 ·obtain⟨cur,hc⟩:=own_cellsN h.ag e;exact own_not h.pk (show GB w b _ cur from hc) (by decide)
 ·obtain⟨c,hc⟩:=(h.grp k hk).1.tp;exact⟨fun e=>by have:=GB.tp hc (e ▸ h.blk); exact absurd this (by decide),own_not h.ag hc (by decide),own_not h.pk hc (by decide)⟩
theorem SeAt.next {W0:World} {f:FactsV} {ts:List TableD} {q:QueryV} {X M:Nat->Prop} {w w':World} {sb:Nat} {L:SeL} {σ:SeD} (h:SeAt W0 f ts q X M w sb L σ) (hk:Kept (fun b=>b≠sb/\L.av.ownBlock≠some b/\L.pv.ownBlock≠some b) w w') {av pv:Value} {ag:List TaskD} {pk:List Int} {st:Int}
  (hblk:GB w' sb 87 (f.cells ts q++tailC { L with av:=av,pv:=pv } { σ with agenda:=ag,picks:=pk,status:=st }))
  (hag:w'.ownsRow W0.heap.size 111 2 av ag.length (ag.flatMap taskL)) (hav:av.ownBlock=L.av.ownBlock∨∃ g,av.ownBlock=some g/\w.heap.size<=g)
  (hpk:w'.ownsRow W0.heap.size 3 1 pv pk.length (pk.map (Value.int .i64))) (hpv:pv.ownBlock=L.pv.ownBlock∨∃ g,pv.ownBlock=some g/\w.heap.size<=g) :
  SePostL W0 f ts q X M w sb { L with av:=av,pv:=pv } { σ with agenda:=ag,picks:=pk,status:=st } w':=by
 have hnav:∀ b,b<w.heap.size->¬ X b->av.ownBlock≠some b/\pv.ownBlock≠some b:=fun b hl hX=>by
  refine⟨fun e=>?_,fun e=>?_⟩
  ·rcases hav with h1 | ⟨g,h1,hg⟩
   ·exact hX (h.sub _ (h.agm b (h1 ▸ e)))
   ·rw[h1] at e; injection e with e; omega
  ·rcases hpv with h1 | ⟨g,h1,hg⟩
   ·exact hX (h.sub _ (h.pkm b (h1 ▸ e)))
   ·rw[h1] at e; injection e with e; omega
 have hmono:∀ b,b<w.heap.size->¬ X b->¬ (X b∨av.ownBlock=some b∨pv.ownBlock=some b):=fun b hl hX h0=>by
  rcases h0 with h0 | h0 | h0
  ·exact hX h0
  ·exact (hnav b hl hX).1 h0
  ·exact (hnav b hl hX).2 h0
 have hkX:Kept (fun b=>¬ (X b∨av.ownBlock=some b∨pv.ownBlock=some b)) w w':=hk.mono fun b _ hb=>⟨fun e=>hb (.inl (e ▸ h.sub _ h.msb)),fun e=>hb (.inl (h.sub _ (h.agm b e))),fun e=>hb (.inl (h.sub _ (h.pkm b e)))⟩
 have hfresh:∀ b,(av.ownBlock=some b∨pv.ownBlock=some b)->M b∨w.heap.size<=b:=fun b e=>by
  rcases e with e | e
  ·rcases hav with h1 | ⟨g,h1,hg⟩
   ·exact .inl (h.agm b (h1 ▸ e))
   ·rw[h1] at e; injection e with e; exact .inr (by omega)
  ·rcases hpv with h1 | ⟨g,h1,hg⟩
   ·exact .inl (h.pkm b (h1 ▸ e))
   ·rw[h1] at e; injection e with e; exact .inr (by omega)
 have hnew:∀ b,(av.ownBlock=some b∨pv.ownBlock=some b)->W0.heap.size<=b/\b<w'.heap.size:=fun b e=>by
  rcases e with e | e
  ·exact ownsRow_lt hag e
  ·exact ownsRow_lt hpk e
 have hne:=h.ne;refine⟨fun b=>X b∨av.ownBlock=some b∨pv.ownBlock=some b,fun b=>M b∨av.ownBlock=some b∨pv.ownBlock=some b,⟨⟨?_,fun b hb h0=>?_,fun b hb h0=>?_⟩,fun b hb=>?_,.inl h.msb,hblk,hmono _ h.gsl h.gsx,Nat.lt_of_lt_of_le h.gsl hk.size,fun k hkk=>?_,fun k hkk=>?_,h.apart,hag,fun b e=>.inr (.inl e),(h.best.mono hmono).keptF hkX,hpk,fun b e=>.inr (.inr e)⟩,?_,fun b hb=>.inl hb,fun b hb=>?_,fun b=>?_⟩
 ·exact h.hz.below.kept hk fun b hb=>⟨fun e=>(h.lt (h.sub _ h.msb)).1 (e ▸ hb),fun e=>(h.lt (h.sub _ (h.agm b e))).1 hb,fun e=>(h.lt (h.sub _ (h.pkm b e))).1 hb⟩
 ·rcases h0 with h0 | h0
  ·exact h.hz.low b hb h0
  ·have:=(hnew b h0).1; have:=hb.lt; omega
 ·rcases h0 with h0 | h0
  ·exact h.hz.high b (Nat.le_trans hk.size hb) h0
  ·have:=(hnew b h0).2; omega
 ·rcases hb with hb | hb
  ·exact .inl (h.sub b hb)
  ·exact .inr hb
 ·refine cell_keepP hk (h.gcell k hkk) ⟨fun e=>h.gsx (e ▸ h.sub _ h.msb),fun e=>h.gsx (h.sub _ (h.agm _ e)),fun e=>h.gsx (h.sub _ (h.pkm _ e))⟩
 ·obtain⟨h1,h2,h3⟩:=h.grp k hkk;refine⟨(h1.mono hmono).keptF (hk.mono fun b _ hb=>?_),.inl h2,h3⟩;rcases hb with hb | hb
  ·exact⟨fun e=>hb (.inl (e ▸ h.sub _ h.msb)),fun e=>hb (.inl (h.sub _ (h.agm b e))),fun e=>hb (.inl (h.sub _ (h.pkm b e)))⟩
  ·rw[hb];exact hne.2.2.2 k hkk
 ·exact hk.mono fun b _ hb=>⟨fun e=>hb (e ▸ h.msb),fun e=>hb (h.agm b e),fun e=>hb (h.pkm b e)⟩
 ·rcases hb with hb | hb
  ·exact .inl hb
  ·exact hfresh b hb
 ·exact⟨fun h0=>by
   rcases h0 with h0 | h0
   ·exact .inl h0
   ·exact .inr (.inr h0),fun h0=>by
   rcases h0 with h0 | h0 | h0
   ·exact .inl h0
   ·exact .inl (h.sub b h0)
   ·exact .inr h0⟩
theorem SePostL.trans {W0:World} {f:FactsV} {ts:List TableD} {q:QueryV} {X M:Nat->Prop} {w w1 w2:World} {sb:Nat} {L2:SeL} {σ2:SeD} {X1 M1:Nat->Prop} (hk:Kept (fun b=>¬ M b) w w1) (h1:∀ b,M b->M1 b) (h2:∀ b,M1 b->M b∨w.heap.size<=b) (h3:∀ b,X1 b↔X b∨M1 b) (h:SePostL W0 f ts q X1 M1 w1 sb L2 σ2 w2):SePostL W0 f ts q X M w sb L2 σ2 w2:=by
 obtain⟨X2,M2,hA,hk2,g1,g2,g3⟩:=h;refine⟨X2,M2,hA,hk.trans' hk2 (fun b hl hb h0=>?_),fun b hb=>g1 b (h1 b hb),fun b hb=>?_,fun b=>?_⟩
 ·rcases h2 b h0 with h0 | h0
  ·exact hb h0
  ·omega
 ·rcases g2 b hb with h0 | h0
  ·exact h2 b h0
  ·exact .inr (Nat.le_trans hk.size h0)
 ·rw[g3,h3];exact⟨fun h0=>by
   rcases h0 with (h0 | h0) | h0
   ·exact .inl h0
   ·exact .inr (g1 b h0)
   ·exact .inr h0,fun h0=>by
   rcases h0 with h0 | h0
   ·exact .inl (.inl h0)
   ·exact .inr h0⟩
theorem SeAt.post {W0:World} {f:FactsV} {ts:List TableD} {q:QueryV} {X M:Nat->Prop} {w w':World} {sb:Nat} {L:SeL} {σ:SeD} (h:SeAt W0 f ts q X M w' sb L σ) (hk:Kept (fun b=>¬ M b) w w'):SePostL W0 f ts q X M w sb L σ w':=
 ⟨X,M,h,hk,fun _ h=>h,fun _ h=>.inl h,fun b=>⟨fun h0=>.inl h0,fun h0=>by
  rcases h0 with h0 | h0
  ·exact h0
  ·exact h.sub b h0⟩⟩
theorem SePost.trans {W0:World} {f:FactsV} {ts:List TableD} {q:QueryV} {X M:Nat->Prop} {w w1 w2:World} {sb:Nat} {σ2:SeD} {X1 M1:Nat->Prop} (hk:Kept (fun b=>¬ M b) w w1) (h1:∀ b,M b->M1 b) (h2:∀ b,M1 b->M b∨w.heap.size<=b) (h3:∀ b,X1 b↔X b∨M1 b) (h:SePost W0 f ts q X1 M1 w1 sb σ2 w2):SePost W0 f ts q X M w sb σ2 w2:=h.imp fun _ h=>SePostL.trans hk h1 h2 h3 h
theorem SeAt.below {W0:World} {f:FactsV} {ts:List TableD} {q:QueryV} {X M:Nat->Prop} {w w':World} {sb:Nat} {L:SeL} {σ:SeD} (h:SeAt W0 f ts q X M w sb L σ) (hb:Below w.heap.size w w'):SeAt W0 f ts q X M w' sb L σ where
 hz:=h.hz.next hb
 sub:=h.sub
 msb:=h.msb
 blk:=h.blk.keep (Kept.of_below (s:=fun b=>b<w.heap.size) hb (fun _ h _=>h)) h.blk.lt
 gsx:=h.gsx
 gsl:=Nat.lt_of_lt_of_le h.gsl hb.size
 gcell:=fun k hk=>cB hb (h.gcell k hk)
 grp:=fun k hk=>⟨(h.grp k hk).1.below hb,(h.grp k hk).2⟩
 apart:=h.apart
 ag:=own_below h.ag hb
 agm:=h.agm
 best:=h.best.below hb
 pk:=own_below h.pk hb
 pkm:=h.pkm
theorem SeAt.other {W0:World} {f:FactsV} {ts:List TableD} {q:QueryV} {X M N N' X':Nat->Prop} {w w':World} {sb:Nat} {L:SeL} {σ:SeD} (h:SeAt W0 f ts q X M w sb L σ) (hN:∀ b,N b->X b) (hd:∀ b,M b->¬ N b) (hk:Kept (fun b=>¬ N b) w w') (hf:∀ b,N' b->N b∨w.heap.size<=b) (hX:∀ b,X' b↔X b∨N' b) (hl:∀ b,N' b->b<w'.heap.size) (h0:∀ b,N' b->W0.heap.size<=b):SeAt W0 f ts q X' M w' sb L σ:=by
 have hmono:∀ b,b<w.heap.size->¬ X b->¬ X' b:=fun b hlt hb hx=>by
  rcases (hX b).1 hx with hx | hx
  ·exact hb hx
  ·rcases hf b hx with hx | hx
   ·exact hb (hN b hx)
   ·omega
 have hkX:Kept (fun b=>¬ X' b) w w':=hk.mono fun b _ hb hn=>hb ((hX b).2 (.inl (hN b hn)))
 refine⟨⟨h.hz.below.kept hk fun b hb hn=>h.hz.low b hb (hN b hn),fun b hb hx=>?_,fun b hb hx=>?_⟩,fun b hb=>(hX b).2 (.inl (h.sub b hb)),h.msb,h.blk.keep hk (hd _ h.msb),hmono _ h.gsl h.gsx,Nat.lt_of_lt_of_le h.gsl hk.size,fun k hkk=>cell_keepP hk (h.gcell k hkk) (fun hn=>h.gsx (hN _ hn)),fun k hkk=>?_,h.apart,ownsRow_keep h.ag hk (fun g e=>hd g (h.agm g e)),h.agm,(h.best.mono hmono).keptF hkX,ownsRow_keep h.pk hk (fun g e=>hd g (h.pkm g e)),h.pkm⟩
 ·rcases (hX b).1 hx with hx | hx
  ·exact h.hz.low b hb hx
  ·have:=h0 b hx; have:=hb.lt; omega
 ·rcases (hX b).1 hx with hx | hx
  ·exact h.hz.high b (Nat.le_trans hk.size hb) hx
  ·have:=hl b hx; omega
 ·obtain⟨h1,h2,h3⟩:=h.grp k hkk;refine⟨(h1.mono hmono).keptF (hk.mono fun b _ hb hn=>?_),h2,h3⟩;rcases hb with hb | hb
  ·exact hb ((hX b).2 (.inl (hN b hn)))
  ·exact hd _ h2 (hb ▸ hn)
theorem SeAt.group {W0:World} {f:FactsV} {ts:List TableD} {q:QueryV} {X M:Nat->Prop} {w w':World} {sb:Nat} {L:SeL} {σ:SeD} (h:SeAt W0 f ts q X M w sb L σ) {s:Nat} (hs:s<σ.groups.length) (hk:Kept (fun b=>b≠L.gb s) w w') {A':Nat->Nat} {g':List PlaceD} (hg:GrpAt 95 141 (fun b=>¬ X b) w' (L.gb s) A' (L.os s) g') (hl:g'.length=(σ.groups.getD s []).length) :
  SeAt W0 f ts q X M w' sb { L with A:=fun k=>if k=s then A' else L.A k } { σ with groups:=σ.groups.set s g' }:=by
 have hne:=h.ne;have hXs:X (L.gb s):=h.sub _ (h.grp s hs).2.1;have hgl:∀ k,((σ.groups.set s g').getD k []).length=(σ.groups.getD k []).length:=fun k=>by
  rw[getD_setG];split
  ·rename_i e
   rw[<- e.1];exact hl
  ·rfl
 have hgl2:(σ.groups.set s g').length=σ.groups.length:=List.length_set ..;refine⟨⟨h.hz.below.kept hk fun b hb e=>(h.lt hXs).1 (e ▸ hb),h.hz.low,fun b hb=>h.hz.high b (Nat.le_trans hk.size hb)⟩,h.sub,h.msb,?_,h.gsx,Nat.lt_of_lt_of_le h.gsl hk.size,fun k hkk=>?_,fun k hkk=>?_,fun j k hj hkk e=>?_,ownsRow_keep h.ag hk (fun g e hg=>(hne.2.2.2 s hs).2.1 (hg ▸ e)),h.agm,h.best.keptF (hk.mono fun b _ hb e=>hb (e ▸ hXs)),ownsRow_keep h.pk hk (fun g e hg=>(hne.2.2.2 s hs).2.2 (hg ▸ e)),h.pkm⟩
 ·have:=h.blk.keep hk (fun e=>(hne.2.2.2 s hs).1 e.symm);have e:tailC { L with A:=fun k=>if k=s then A' else L.A k } { σ with groups:=σ.groups.set s g' } = tailC L σ:=by
   unfold tailC;simp only;rw[hgl2]
  rw[e];exact this
 ·show w'.cell? _=some (.slice _ ((σ.groups.set s g').getD k []).length _)
  rw[hgl k];exact cell_keepP hk (h.gcell k (by rw[<- hgl2]; exact hkk)) (fun e=>h.gsx (e ▸ hXs))
 ·have hkk':k<σ.groups.length:=by rw[<- hgl2]; exact hkk
  obtain⟨h1,h2,h3⟩:=h.grp k hkk'
  show GrpAt _ _ _ _ (L.gb k) (if k=s then A' else L.A k) (L.os k) ((σ.groups.set s g').getD k [])/\M (L.gb k)/\((σ.groups.set s g').getD k []).length<=L.gcp k/\L.gcp k<=9223372036854775807
  rw[hgl k];refine⟨?_,h2,h3⟩;by_cases e:k=s
  ·subst e;rw[if_pos rfl,getD_setG,if_pos ⟨rfl,hs⟩];exact hg
  ·rw[if_neg e,getD_setG,if_neg (fun h0=>e h0.1.symm)];refine h1.keptF (hk.mono fun b _ hb e'=>?_);rcases hb with hb | hb
   ·exact hb (e' ▸ hXs)
   ·exact e (h.apart k s hkk' hs (hb.symm.trans e'))
 ·exact h.apart j k (by rw[<- hgl2]; exact hj) (by rw[<- hgl2]; exact hkk) e
theorem SeAt.better {W0:World} {f:FactsV} {ts:List TableD} {q:QueryV} {X M:Nat->Prop} {w w':World} {sb:Nat} {L:SeL} {σ:SeD} (h:SeAt W0 f ts q X M w sb L σ) (hk:Kept (fun b=>b≠sb) w w') {b':Nat} {t:TrD} (hblk:GB w' sb 87 (f.cells ts q++tailC { L with best:=b' } { σ with best:=t })) (ht:TreeF 95 (fun b=>¬ X b) w' b' t) :
  SeAt W0 f ts q X M w' sb { L with best:=b' } { σ with best:=t }:=by
 have hne:=h.ne;have hXs:X sb:=h.sub _ h.msb;refine⟨⟨h.hz.below.kept hk fun b hb e=>(h.lt hXs).1 (e ▸ hb),h.hz.low,fun b hb=>h.hz.high b (Nat.le_trans hk.size hb)⟩,h.sub,h.msb,hblk,h.gsx,Nat.lt_of_lt_of_le h.gsl hk.size,fun k hkk=>cell_keepP hk (h.gcell k hkk) (fun e=>h.gsx (e ▸ hXs)),fun k hkk=>⟨(h.grp k hkk).1.keptF (hk.mono fun b _ hb e=>?_),(h.grp k hkk).2⟩,h.apart,ownsRow_keep h.ag hk (fun g e hg=>hne.1 (hg ▸ e)),h.agm,ht,ownsRow_keep h.pk hk (fun g e hg=>hne.2.1 (hg ▸ e)),h.pkm⟩;rcases hb with hb | hb
 ·exact hb (e ▸ hXs)
 ·exact (hne.2.2.2 k hkk).1 (hb ▸ e)
end Go.Proofs.YtlpbelhfpoilpabGreatDoor
namespace Go.Scout
open Go.RowKit
def placeL (o:IntsV):List Value:=[o.val,.pointer none]
theorem own_group {T Tp:TypeId} {F:Nat->Prop} {w:World} {base:Nat} {v:Value} {os:List IntsV} (h:w.ownsRow base Tp 2 v os.length (os.flatMap placeL)) (h0:0<os.length) (ho:∀ o∈os,IntsIn F w o/\o.xs.length<=1000) (A:Nat->Nat) :
  ∃ gb cap,v=.slice (some (aD gb 0)) os.length cap/\base<=gb/\gb<w.heap.size/\os.length<=cap/\cap<=9223372036854775807/\GrpAt T Tp F w gb A os (newGr (os.map IntsV.xs)):=by
 rcases h.2 with⟨_,h1⟩ | ⟨g,cap,cur,rfl,hb,hh,hc,hm,hs,ht⟩
 ·omega
 have hln:(newGr (os.map IntsV.xs)).length=os.length:=by unfold newGr; simp
 have hget:∀ i,i<os.length->os.getD i nilV∈os:=fun i hi=>by rw[List.getD_eq_getElem?_getD,List.getElem?_eq_getElem hi]; exact List.getElem_mem hi
 have hng:∀ i,i<os.length->(newGr (os.map IntsV.xs)).getD i plz=((os.getD i nilV).xs,none):=fun i hi=>by
  unfold newGr;rw[List.getD_eq_getElem?_getD,List.getElem?_map,List.getElem?_map,List.getElem?_eq_getElem hi,List.getD_eq_getElem?_getD,List.getElem?_eq_getElem hi];rfl
 have hcell:∀ i j u,i<os.length->j<2->(placeL (os.getD i nilV))[j]? = some u->cur[i*2+j]? = some u:=fun i j u hi hj hu=>by
  have h2:=flat_get placeL 2 (fun _=>rfl) nilV os i j hi hj;rw[hu,<- ht,List.getElem?_take] at h2;split at h2
  ·simpa using h2
  ·cases h2
 have hnone:∀ p∈newGr (os.map IntsV.xs),p.2=none:=fun p hp=>by
  unfold newGr at hp;obtain⟨o,_,rfl⟩:=List.mem_map.1 hp;rfl
 refine⟨g,cap,rfl,hb,(Array.getElem?_eq_some_iff.1 hh).1,hc,(by unfold maxLen at hm; omega),⟨cur,hh,fun i hi=>?_⟩,fun i hi=>?_,fun p hp x hx=>?_,fun p hp p' hp' x x' hx=>?_⟩
 ·rw[hln] at hi;rw[hng i hi];exact⟨hcell i 0 _ hi (by omega) rfl,hcell i 1 _ hi (by omega) rfl⟩
 ·rw[hln] at hi;rw[hng i hi];exact⟨rfl,(ho _ (hget i hi)).1,(ho _ (hget i hi)).2⟩
 ·rw[hnone p hp] at hx
  cases hx
 ·rw[hnone p hp] at hx
  cases hx
end Go.Scout
namespace Go.Proofs.YtlpbelhfpoilpabGreatDoor
open Go.RowKit Go.Scout Go.Shelf
theorem Tryz.infoPlace:(Tryz.prog.info? 141).map (fun i=>(i.zero,i.size,i.bytes))=some (some (.agg #[.slice none 0 0,.pointer none]),2,32):=by kernel_rfl
theorem push_place (W:World) (base:Nat) (v:Value) (os:List IntsV) (hown:W.ownsRow base 141 2 v os.length (os.flatMap placeL)) (hl:os.length<=1000) (hb:base<=W.heap.size) (o:IntsV) (ty:TypeId) :
  ∃ v' w',(Builtin.append_ #[105,105] ty #[v,.slice (some (aD W.heap.size 0)) 1 1]).run Tryz.prog (W.alloc (.cells #[o.val,.pointer none] 141))=.ok v' w'/\
   w'.ownsRow base 141 2 v' (os++[o]).length ((os++[o]).flatMap placeL)/\Kept (fun b=>v.ownBlock≠some b) W w'/\(∃ a m c,v' = .slice a m c):=by
 obtain⟨i0,hi,hz0,hz1,hz2⟩:=info_parts Tryz.infoPlace;obtain⟨v',w',hr,ho,hk,hs,hat⟩:=push_own (P:=Tryz.prog) W base 105 ty 141 i0 _ 2 32 Tryz.underlying105 hi hz0 hz1 hz2 rfl (by decide) v os.length _ hown hb (placeL o) rfl (fun u hu=>by
  unfold placeL IntsV.val at hu;simp at hu;rcases hu with rfl | rfl <;> rfl) hl (by decide)
 exact⟨v',w',hr,by rw[List.length_append,List.flatMap_append]; simpa using ho,hk,hs⟩
theorem newGroup_any {F:Nat->Prop} {w:World} (os:List IntsV) (io:Option Addr) (ic:Nat) (hio:CellsAt w io os.length (fun i=>(os.getD i nilV).val)) (ho:∀ o∈os,IntsIn F w o/\o.xs.length<=1000) (h0:0<os.length) (hl:os.length<=1000) (A:Nat->Nat) :
  Calls Tryz.prog 41 #[.slice io os.length ic] w fun e w'=>∃ gb cap,e=.returned (.slice (some (aD gb 0)) os.length cap)/\w.heap.size<=gb/\gb<w'.heap.size/\os.length<=cap/\cap<=9223372036854775807/\GrpAt 95 141 F w' gb A os (newGr (os.map IntsV.xs))/\Below w.heap.size w w':=by
 have HIO:Hid _:=hio;have HFIN:Hid (∀ x v,Below w.heap.size w x->x.ownsRow w.heap.size 141 2 v os.length (os.flatMap placeL)->∃ gb cap,v=.slice (some (aD gb 0)) os.length cap/\w.heap.size<=gb/\gb<x.heap.size/\os.length<=cap/\cap<=9223372036854775807/\GrpAt 95 141 F x gb A os (newGr (os.map IntsV.xs))):=fun x v hb hv=>own_group hv h0 (fun o hm=>⟨(ho o hm).1.below hb,(ho o hm).2⟩) A
 have HTK:Hid (∀ k,k<os.length->os.take (k+1)=os.take k++[os.getD k nilV]):=fun k hk=>take_snocR os nilV hk
 have HTA:Hid (os.take os.length=os):=List.take_length;generalize newGr (os.map IntsV.xs)=R at *;clear hio ho;go_enter Tryz.func41,Tryz.ntmps41;go_wp2;go_loopw [3,8] (fun pv iv wr=>∃ k:Nat,k<=os.length/\iv=.int .i64 (k:Int)/\Hid (wr.ownsRow w.heap.size 141 2 pv (os.take k).length ((os.take k).flatMap placeL))/\Hid (Below w.heap.size w wr)) (fun _ iv _=>os.length-(intOf iv).toNat)
 case atStart=>exact⟨0,Nat.zero_le _,rfl,World.ownsRow_nil _ _ _ _,Below.refl _ _⟩
 case round=>
  obtain⟨k,hk,rfl,HO,HB⟩:=hrel;obtain⟨xa,xm,xc,rfl⟩:=ownsRow_slice HO.out;by_cases hlt:k<os.length
  ·obtain⟨bb,boff,rfl,hbc⟩:=CellsAt.get (CellsAt.below HB.out HIO.out) hlt;have hck:=hbc k hlt;have HT:Hid _:=HTK.out k hlt;obtain⟨v',w5,hr5,ho5,hk5,⟨za,zm,zc,rfl⟩⟩:=push_place wr w.heap.size (.slice xa xm xc) (os.take k) HO.out (by rw[List.length_take]; omega) HB.out.size (os.getD k nilV) 105;rw[<- HT.out] at ho5;have HO5:Hid _:=ho5;have HB5:Hid (Below w.heap.size w w5):=HB.out.trans (hk5.below HB.out.size (fun b hb e=>by have:=(ownsRow_lt HO.out e).1; omega));generalize os.getD k nilV=o at *;obtain⟨oa,oc,ox⟩:=o;simp only[IntsV.val] at *;clear hbc ho5 hk5 HT HO;go_wp2_with (first | (at_builtin; refine wpList_append_run rfl (.tmp 12) (.tmp 15) 105 rfl (.slice xa xm xc) (.slice (some (aD wr.heap.size 0)) 1 1) (.slice za zm zc) w5 rfl rfl hr5 ?_));clear hr5 hck;go_wp2;go_roundw
   case rel=>exact⟨k+1,by omega,by go_num,HO5.out,HB5.out⟩
   case measure=>simp[intOf]; omega
  ·have hko:os.length=k:=by omega
   have HF:Hid _:=HFIN.out wr (.slice xa xm xc) HB.out (by
    have:=HO.out;rw[<- hko,HTA.out] at this;exact this)
   clear hko;go_wp2;go_ret;obtain⟨gb,cap,e,h1,h2,h3,h4,h5⟩:=HF.out;exact⟨gb,cap,by rw[<- e]; rfl,h1,h2,h3,h4,h5,HB.out⟩
end Go.Proofs.YtlpbelhfpoilpabGreatDoor
namespace Go.Scout
open Go.RowKit
structure OrdsIn (Tl:TypeId) (F:Nat->Prop) (base:Nat) (w:World) (v:Value) (os:List IntsV):Prop where
 own:w.ownsRow base Tl 1 v os.length (os.map IntsV.val)
 each:∀ o∈os,IntsIn (Fv F v) w o/\o.xs.length<=1000
theorem OrdsIn.below {Tl:TypeId} {F:Nat->Prop} {base:Nat} {w w':World} {v:Value} {os:List IntsV} (h:OrdsIn Tl F base w v os) (hb:Below w.heap.size w w'):OrdsIn Tl F base w' v os:=
 ⟨own_below h.own hb,fun o ho=>⟨(h.each o ho).1.below hb,(h.each o ho).2⟩⟩
theorem IntsIn.own {F:Nat->Prop} {w0 w:World} {o:IntsV} (h:IntsIn F w0 o) (hb:Below w0.heap.size w0 w) {v:Value} (hv:∀ g,v.ownBlock=some g->w0.heap.size<=g):IntsIn (Fv F v) w o:=
 (h.mono (G:=Fv F v) (fun b hb hF=>⟨hF,fun e=>by have:=hv b e; omega⟩)).below hb
theorem IntsIn.pushed {F:Nat->Prop} {w w':World} {v v':Value} {o:IntsV} (h:IntsIn (Fv F v) w o) (hk:Kept (fun b=>v.ownBlock≠some b) w w') (hat:v'.ownBlock=v.ownBlock∨∃ g,v'.ownBlock=some g/\w.heap.size<=g):IntsIn (Fv F v') w' o:=by
 have h1:=h.mono (G:=fun b=>Fv F v b/\Fv F v' b) (fun b hb hF=>⟨hF,hF.1,fun e=>by
  rcases hat with h | ⟨g,h,hg⟩
  ·exact hF.2 (h ▸ e)
  ·rw[h] at e;injection e with e;omega⟩)
 exact (h1.keptF (hk.mono fun b _ hb=>hb.1.2)).mono fun _ _ h=>h.2
theorem OrdsIn.push {Tl:TypeId} {F:Nat->Prop} {base:Nat} {w w':World} {v v':Value} {os:List IntsV} {o:IntsV} (h:OrdsIn Tl F base w v os) (ho:IntsIn (Fv F v) w o) (hl:o.xs.length<=1000) (hn:w'.ownsRow base Tl 1 v' (os++[o]).length ((os++[o]).map IntsV.val)) (hk:Kept (fun b=>v.ownBlock≠some b) w w') (hat:v'.ownBlock=v.ownBlock∨∃ g,v'.ownBlock=some g/\w.heap.size<=g):OrdsIn Tl F base w' v' (os++[o]):=
 ⟨hn,fun x hx=>by
  rcases List.mem_append.1 hx with hx | hx
  ·exact⟨(h.each x hx).1.pushed hk hat,(h.each x hx).2⟩
  ·rw[List.mem_singleton] at hx;rw[hx];exact⟨ho.pushed hk hat,hl⟩⟩
theorem OrdsIn.cells {Tl:TypeId} {F:Nat->Prop} {base:Nat} {w:World} {v:Value} {os:List IntsV} (h:OrdsIn Tl F base w v os):∃ ao cap,v=.slice ao os.length cap/\os.length<=cap/\CellsAt w ao os.length (fun i=>(os.getD i nilV).val):=by
 rcases h.own.2 with⟨rfl,h0⟩ | ⟨g,cap,cur,rfl,-,-,hc,-⟩
 ·have:os=[]:=List.eq_nil_of_length_eq_zero h0;subst this;exact⟨none,0,rfl,Nat.le_refl _,fun i hi=>absurd hi (by simp)⟩
 ·refine⟨_,cap,rfl,hc,fun i hi=>⟨g,0,rfl,?_⟩⟩;rcases own_newsN h.own with⟨e,_⟩ | ⟨g',cap',e,_,_,hcc⟩
  ·cases e
  ·injection e with e _ _;injection e with e;injection e with e;subst e;rw[Nat.zero_add];exact hcc i _ (by show _=some (os.getD i nilV).val; rw[List.getElem?_map,List.getElem?_eq_getElem hi,List.getD_eq_getElem?_getD,List.getElem?_eq_getElem hi]; rfl)
theorem mem_takeX {os:List IntsV} {x:List Int} {k:Nat} (hk:k<os.length):x∈(os.take (k+1)).map IntsV.xs↔x∈(os.take k).map IntsV.xs∨x=(os.getD k nilV).xs:=by
 rw[take_snocR os nilV hk,List.map_append,List.mem_append];simp
end Go.Scout
namespace Go.Proofs.YtlpbelhfpoilpabGreatDoor
open Go.RowKit Go.Scout Go.Shelf
theorem push_ord (W:World) (base:Nat) (v:Value) (os:List IntsV) (hown:W.ownsRow base 22 1 v os.length (os.map IntsV.val)) (hl:os.length<=1000) (hb:base<=W.heap.size) (o:IntsV) (ty:TypeId) :
  ∃ v' w',(Builtin.append_ #[52,52] ty #[v,.slice (some (aD W.heap.size 0)) 1 1]).run Tryz.prog (W.alloc (.cells #[o.val] 22))=.ok v' w'/\
   w'.ownsRow base 22 1 v' (os++[o]).length ((os++[o]).map IntsV.val)/\Kept (fun b=>v.ownBlock≠some b) W w'/\(∃ a m c,v' = .slice a m c)/\(v'.ownBlock=v.ownBlock∨v'.ownBlock=some (W.heap.size+1)):=by
 obtain⟨i0,hi,hz0,hz1,hz2⟩:=info_parts Tryz.infoInts;obtain⟨v',w',hr,ho,hk,hs,hat⟩:=push_own (P:=Tryz.prog) W base 52 ty 22 i0 _ 1 24 Tryz.underlying52 hi hz0 hz1 hz2 rfl (by decide) v os.length _ hown hb [o.val] rfl (fun u hu=>by
  rw[List.mem_singleton] at hu;rw[hu];rfl) hl (by decide)
 exact⟨v',w',hr,by rw[List.length_append,List.map_append]; exact ho,hk,hs,hat⟩
theorem addedC_any (x o:IntsV) (bx:Nat) (w:World) (hx:x.At w) (ho:o.At w) (hc:w.cell? (aD bx 0)=some o.val) :
  Calls Tryz.prog 95 (#[x.val] ++ #[.pointer (some (aD bx 0))]) w fun e w'=>e=.returned (.bool (decide (x.xs=o.xs)))/\Below w.heap.size w w':=by
 have hEQ:=equal_any x.ad o.ad x.cap o.cap x.xs o.xs w hx ho;obtain⟨xa,xc,xx⟩:=x;obtain⟨oa,oc,ox⟩:=o
 show Calls Tryz.prog 95 #[.slice xa xx.length xc,.pointer (some (aD bx 0))] w _
 simp only[IntsV.val] at *;generalize decide (xx=ox)=D at *;clear hx ho;generalize xx.length=xl at *;generalize ox.length=ol at *;go_enter Tryz.func95,Tryz.ntmps95;go_wp2_with fail;refine hEQ.mono ?_;rintro e w2 ⟨rfl,hb2⟩;have HB:Hid _:=hb2;clear hEQ hb2 hc;go_wp2;go_ret;exact⟨rfl,HB.out⟩
theorem addedI_any (ao:Option Addr) (cap:Nat) (os:List IntsV) (o:IntsV) (bx:Nat) (w:World) (hos:CellsAt w ao os.length (fun i=>(os.getD i nilV).val)) (hat:∀ x∈os,x.At w) (ho:o.At w) (hc:w.cell? (aD bx 0)=some o.val) (hl:os.length<=1000) :
  Calls Tryz.prog 120 #[.slice ao os.length cap,.func (.func 95) #[] #[.pointer (some (aD bx 0))]] w fun e w'=>∃ r:Int,e=.returned (.int .i64 r)/\Hid (0<=r↔o.xs∈os.map IntsV.xs)/\Below w.heap.size w w':=by
 have HOS:Hid (CellsAt w ao os.length (fun i=>(os.getD i nilV).val)):=hos;have HC:Hid (∀ (k:Nat) (y:World),k<os.length->Below w.heap.size w y->Calls Tryz.prog 95 (#[(os.getD k nilV).val] ++ #[.pointer (some (aD bx 0))]) y fun e w'=>e=.returned (.bool (decide ((os.getD k nilV).xs=o.xs)))/\Below y.heap.size y w'):=fun k y hk hy=>addedC_any _ o bx y (IntsAt.below hy (hat _ (by rw[List.getD_eq_getElem?_getD,List.getElem?_eq_getElem hk]; exact List.getElem_mem hk))) (IntsAt.below hy ho) (cB hy hc)
 clear hos hat ho hc;go_enter Tryz.func120,Tryz.ntmps120;go_wp2;go_loopw [8] (fun iv wr=>∃ k:Nat,k<=os.length/\iv=.int .i64 (k:Int)/\Hid (o.xs ∉ (os.take k).map IntsV.xs)/\Hid (Below w.heap.size w wr)) (fun iv _=>os.length-(intOf iv).toNat)
 case atStart=>exact⟨0,Nat.zero_le _,rfl,by show _ ∉ _; simp,Below.refl _ _⟩
 case round=>
  obtain⟨k,hk,rfl,HN,HB⟩:=hrel;by_cases hlt:k<os.length
  ·obtain⟨bb,boff,rfl,hbc⟩:=CellsAt.get (CellsAt.below HB.out HOS.out) hlt;have hck:=hbc k hlt;have hCk:=HC.out k wr hlt HB.out;have HM:Hid _:=mem_takeX (x:=o.xs) hlt;have HGE:Hid (os.getD k nilV∈os):=by show _∈_; rw[List.getD_eq_getElem?_getD,List.getElem?_eq_getElem hlt]; exact List.getElem_mem hlt
   generalize os.getD k nilV=x at *;obtain⟨xa,xc,xx⟩:=x;simp only[IntsV.val] at *;change Calls Tryz.prog 95 #[.slice xa xx.length xc,.pointer (some (aD bx 0))] wr _ at hCk;by_cases hxo:xx=o.xs
   ·rw[decide_eq_true hxo] at hCk;have HF:Hid (o.xs∈os.map IntsV.xs):=by show _∈_; rw[<- hxo]; exact List.mem_map.2 ⟨_,HGE.out,rfl⟩
    clear hbc hxo HGE HM;go_wp2_with fail;refine hCk.mono ?_;rintro e w2 ⟨rfl,hb2⟩;have HB2:Hid (Below w.heap.size w w2):=bQ1 HB.out hb2;clear hCk hb2 hck;go_wp2;go_ret;exact⟨k,rfl,⟨fun _=>HF.out,fun _=>by omega⟩,HB2.out⟩
   ·rw[decide_eq_false hxo] at hCk;have HN2:Hid (o.xs ∉ (os.take (k+1)).map IntsV.xs):=fun h=>by
     rcases HM.out.1 h with h | h
     ·exact HN.out h
     ·exact hxo h.symm
    clear hbc hxo HGE HM;go_wp2_with fail;refine hCk.mono ?_;rintro e w2 ⟨rfl,hb2⟩;have HB2:Hid (Below w.heap.size w w2):=bQ1 HB.out hb2;clear hCk hb2 hck;go_wp2;go_roundw
    case rel=>exact⟨k+1,by omega,by go_num,HN2.out,HB2.out⟩
    case measure=>simp[intOf]; omega
  ·have hkk:os.length=k:=by omega
   have HF:Hid (o.xs ∉ os.map IntsV.xs):=by
    have:=HN.out;rw[<- hkk,List.take_length] at this;exact this
   clear hkk;go_wp2;go_ret;exact⟨-1,rfl,⟨fun h=>by omega,fun h=>absurd h HF.out⟩,HB.out⟩
theorem addedF_any (ao:Option Addr) (cap:Nat) (os:List IntsV) (o:IntsV) (bx:Nat) (w:World) (hos:CellsAt w ao os.length (fun i=>(os.getD i nilV).val)) (hat:∀ x∈os,x.At w) (ho:o.At w) (hc:w.cell? (aD bx 0)=some o.val) (hl:os.length<=1000) :
  Calls Tryz.prog 94 #[.slice ao os.length cap,.func (.func 95) #[] #[.pointer (some (aD bx 0))]] w fun e w'=>e=.returned (.bool (decide (o.xs∈os.map IntsV.xs)))/\Below w.heap.size w w':=by
 have hI:=addedI_any ao cap os o bx w hos hat ho hc hl;clear hos hat ho hc hl;go_enter Tryz.func94,Tryz.ntmps94;go_wp2_with fail;refine hI.mono ?_;rintro e w2 ⟨r,rfl,HR,hb2⟩;have HB:Hid _:=hb2;clear hI hb2;go_wp2;go_ret;exact⟨ret_bool (by rw[Bool.eq_iff_iff,decide_eq_true_eq,decide_eq_true_eq]; exact HR.out),HB.out⟩
theorem added_any {F:Nat->Prop} {base:Nat} {w:World} {v:Value} {os:List IntsV} (h:OrdsIn 22 F base w v os) (hb:base<=w.heap.size) (o:IntsV) (ho:IntsIn (Fv F v) w o) (hol:o.xs.length<=1000) (hl:os.length<=1000) :
  Calls Tryz.prog 69 #[v,o.val] w fun e w'=>∃ v' os',e=.returned v'/\OrdsIn 22 F base w' v' os'/\os'.map IntsV.xs=addedN (os.map IntsV.xs) o.xs/\os'.length<=os.length+1/\Kept (fun b=>v.ownBlock≠some b) w w'/\(v'.ownBlock=v.ownBlock∨∃ g,v'.ownBlock=some g/\w.heap.size<=g):=by
 obtain⟨ao,cap,rfl,hcap,hcs⟩:=h.cells;obtain⟨w1,hw1,hb1,hx1⟩:=newB w #[o.val] 22;have hF:=addedF_any ao cap os o w.heap.size w1 (CellsAt.below hb1 hcs) (fun x hx=>IntsAt.below hb1 (h.each x hx).1.at') (IntsAt.below hb1 ho.at') (hx1.cell 0) hl;have HH:Hid (OrdsIn 22 F base w (.slice ao os.length cap) os):=h;have HO:Hid (IntsIn (Fv F (.slice ao os.length cap)) w o):=ho;have HB1:Hid (Below w.heap.size w w1):=hb1;have HX1:Hid (GB w1 w.heap.size 22 #[o.val]):=hx1;by_cases hm:o.xs∈os.map IntsV.xs
 ·rw[decide_eq_true hm] at hF;have HA:Hid (addedN (os.map IntsV.xs) o.xs=os.map IntsV.xs):=by show _=_; unfold addedN; rw[if_pos hm]
  obtain⟨oa,oc,ox⟩:=o;simp only[IntsV.val] at *;clear h ho hb1 hx1 hm hcs;go_enter Tryz.func69,Tryz.ntmps69;go_wp2_with fail;refine hF.mono ?_;rintro e w2 ⟨rfl,hb2⟩;have HB2:Hid (Below w.heap.size w w2):=bQ1 HB1.out hb2;clear hF hb2 hw1;go_wp2;go_ret;exact⟨_,os,rfl,HH.out.below HB2.out,HA.out.symm,by omega,Kept.of_below HB2.out (fun _ h _=>h),.inl rfl⟩
 ·rw[decide_eq_false hm] at hF;have HA:Hid (addedN (os.map IntsV.xs) o.xs=os.map IntsV.xs++[o.xs]):=by show _=_; unfold addedN; rw[if_neg hm]
  have HL:Hid (os.length<=1000/\base<=w.heap.size/\o.xs.length<=1000):=⟨hl,hb,hol⟩
  obtain⟨oa,oc,ox⟩:=o;simp only[IntsV.val] at *;clear h ho hb1 hx1 hm hcs hl hb hol;go_enter Tryz.func69,Tryz.ntmps69;go_wp2_with fail;refine hF.mono ?_;rintro e w2 ⟨rfl,hb2⟩;have hB2:Below w.heap.size w w2:=bQ1 HB1.out hb2;have c0:w2.cell? (aD w.heap.size 0)=some (.slice oa ox.length oc):=cB hb2 (HX1.out.cell 0);obtain⟨v',w3,hr3,ho3,hk3,⟨za,zm,zc,rfl⟩,hat3⟩:=push_ord w2 base (.slice ao os.length cap) os (own_below HH.out.own hB2) HL.out.1 (Nat.le_trans HL.out.2.1 hB2.size) ⟨oa,oc,ox⟩ 52;have hat4:(Value.slice za zm zc).ownBlock=(Value.slice ao os.length cap).ownBlock∨∃ g,(Value.slice za zm zc).ownBlock=some g/\w2.heap.size<=g:=by
   rcases hat3 with h | h
   ·exact .inl h
   ·exact .inr ⟨_,h,by omega⟩
  have HF:Hid (OrdsIn 22 F base w3 (.slice za zm zc) (os++[⟨oa,oc,ox⟩])/\Kept (fun b=>(Value.slice ao os.length cap).ownBlock≠some b) w w3/\((Value.slice za zm zc).ownBlock=(Value.slice ao os.length cap).ownBlock∨∃ g,(Value.slice za zm zc).ownBlock=some g/\w.heap.size<=g)):=⟨(HH.out.below hB2).push (HO.out.below hB2) HL.out.2.2 ho3 hk3 hat4,(Kept.of_below hB2 (fun _ h _=>h)).trans hk3,by
   rcases hat4 with h | ⟨g,h,hg⟩
   ·exact .inl h
   ·exact .inr ⟨g,h,Nat.le_trans hB2.size hg⟩⟩
  change (Builtin.append_ #[52,52] 52 #[.slice ao os.length cap,.slice (some (aD w2.heap.size 0)) 1 1]).run Tryz.prog (w2.alloc (.cells #[.slice oa ox.length oc] 22))=.ok (.slice za zm zc) w3 at hr3;have HSN:Hid ((os++[(⟨oa,oc,ox⟩:IntsV)]).map IntsV.xs=os.map IntsV.xs++[ox]/\(os++[(⟨oa,oc,ox⟩:IntsV)]).length<=os.length+1):=⟨by simp,by simp⟩
  generalize os++[(⟨oa,oc,ox⟩:IntsV)]=os' at *;clear hF hb2 hB2 hw1 ho3 hk3 hat3 hat4;go_wp2_with (first | (at_builtin; refine wpList_append_run rfl (.tmp 9) (.tmp 11) 52 rfl (.slice ao os.length cap) (.slice (some (aD w2.heap.size 0)) 1 1) (.slice za zm zc) w3 rfl rfl hr3 ?_));clear hr3 c0;go_wp2;go_ret;exact⟨_,os',rfl,HF.out.1,HSN.out.1.trans HA.out.symm,HSN.out.2,HF.out.2⟩
end Go.Proofs.YtlpbelhfpoilpabGreatDoor
