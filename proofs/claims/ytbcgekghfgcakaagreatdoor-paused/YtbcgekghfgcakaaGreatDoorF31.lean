import Derived.Test.YtbcgekghfgcakaaGreatDoorF27
import Derived.Test.YtbcgekghfgcakaaGreatDoorF30
set_option linter.all false
set_option maxRecDepth 100000
set_option maxHeartbeats 16000000
namespace Go.Proofs.Zz
open Go.RowKit Go.Shelf
structure qj where
 gs:Nat
 M6:Nat
 gb:Nat->Nat
 Gh:Nat->Nat
 A:Nat->Nat->Nat
 os:Nat->List ah
 av:Value
 bM:Nat
 pv:Value
theorem aX.tp {T Tp:TypeId} {F:Nat->Prop} {w:World} {gb:Nat} {A:Nat->Nat} {os:List ah} {g:List ai} (h:aX T Tp F w gb A os g):∃ c,GB w gb Tp c:=by
 obtain⟨c,hc,_⟩:=h.blk;exact⟨c,hc⟩
theorem GB.tp {w:World} {G:Nat} {t t':TypeId} {c c':Array Value} (h:GB w G t c) (h':GB w G t' c'):t=t':=by
 have e1:w.heap[G]? = some (.cells c t (0,0)):=h;have e2:w.heap[G]? = some (.cells c' t' (0,0)):=h';rw[e1] at e2;injection e2 with e2;injection e2
def kM (L:qj) (σ:fe):Array Value:=#[.slice (some (aD L.gs 0)) σ.groups.length L.M6,L.av,.bool σ.cut,.pointer (some (aD L.bM 0)),L.pv,.int .i64 σ.status]
structure dn (W0:World) (f:aB) (ts:List af) (q:ae) (X M:Nat->Prop) (w:World) (sb:Nat) (L:qj) (σ:fe):Prop where
 hz:Fz (fun b=>¬ X b) W0 w
 sub:∀ b,M b->X b
 msb:M sb
 blk:GB w sb 102 (f.cells ts q++kM L σ)
 OE:¬ X L.gs
 gsl:L.gs<w.heap.size
 rC:∀ k,k<σ.groups.length->w.cell? (aD L.gs k)=some (.slice (some (aD (L.gb k) 0)) (σ.groups.getD k []).length (L.Gh k))
 kU:∀ k,k<σ.groups.length->aX 120 195 (fun b=>¬ X b) w (L.gb k) (L.A k) (L.os k) (σ.groups.getD k [])/\M (L.gb k)/\(σ.groups.getD k []).length<=L.Gh k/\L.Gh k<=9223372036854775807
 apart:∀ j k,j<σ.groups.length->k<σ.groups.length->L.gb j=L.gb k->j=k
 ag:w.ownsRow W0.heap.size 143 2 L.av σ.ak.length (σ.ak.flatMap dA)
 OG:∀ b,L.av.ownBlock=some b->M b
 bM:aC 120 (fun b=>¬ X b) w L.bM σ.bM
 pk:w.ownsRow W0.heap.size 3 1 L.pv σ.picks.length (σ.picks.map (Value.int .i64))
 OH:∀ b,L.pv.ownBlock=some b->M b
def fC (W0:World) (f:aB) (ts:List af) (q:ae) (X M:Nat->Prop) (w:World) (sb:Nat) (L':qj) (σ':fe) (w':World):Prop:=
 ∃ X' M',dn W0 f ts q X' M' w' sb L' σ'/\Kept (fun b=>¬ M b) w w'/\(∀ b,M b->M' b)/\(∀ b,M' b->M b∨w.heap.size<=b)/\(∀ b,X' b↔X b∨M' b)
def bQ (W0:World) (f:aB) (ts:List af) (q:ae) (X M:Nat->Prop) (w:World) (sb:Nat) (σ':fe) (w':World):Prop:=∃ L',fC W0 f ts q X M w sb L' σ' w'
theorem dn.lt {W0:World} {f:aB} {ts:List af} {q:ae} {X M:Nat->Prop} {w:World} {sb:Nat} {L:qj} {σ:fe} (h:dn W0 f ts q X M w sb L σ) {b:Nat} (hb:X b):¬ Live W0 b/\b<w.heap.size:=by
 refine⟨fun hl=>h.hz.low b hl hb,Nat.lt_of_not_le fun hl=>h.hz.high b hl hb⟩
theorem dn.ne {W0:World} {f:aB} {ts:List af} {q:ae} {X M:Nat->Prop} {w:World} {sb:Nat} {L:qj} {σ:fe} (h:dn W0 f ts q X M w sb L σ):L.av.ownBlock≠some sb/\L.pv.ownBlock≠some sb/\(∀ b,L.av.ownBlock=some b->L.pv.ownBlock≠some b)/\∀ k,k<σ.groups.length->L.gb k≠sb/\L.av.ownBlock≠some (L.gb k)/\L.pv.ownBlock≠some (L.gb k):=by
 refine⟨XR h.ag h.blk (by decide),XR h.pk h.blk (by decide),fun b e=>?_,fun k hk=>?_⟩
 ·obtain⟨cur,hc⟩:=iJ h.ag e;exact XR h.pk (show GB w b _ cur from hc) (by decide)
 ·obtain⟨c,hc⟩:=(h.kU k hk).1.tp;exact⟨fun e=>by have:=GB.tp hc (e ▸ h.blk); exact absurd this (by decide),XR h.ag hc (by decide),XR h.pk hc (by decide)⟩
theorem dn.next {W0:World} {f:aB} {ts:List af} {q:ae} {X M:Nat->Prop} {w w':World} {sb:Nat} {L:qj} {σ:fe} (h:dn W0 f ts q X M w sb L σ) (hk:Kept (fun b=>b≠sb/\L.av.ownBlock≠some b/\L.pv.ownBlock≠some b) w w') {av pv:Value} {ag:List bg} {pk:List Int} {st:Int}
  (hblk:GB w' sb 102 (f.cells ts q++kM { L with av:=av,pv:=pv } { σ with ak:=ag,picks:=pk,status:=st }))
  (hag:w'.ownsRow W0.heap.size 143 2 av ag.length (ag.flatMap dA)) (OB:av.ownBlock=L.av.ownBlock∨∃ g,av.ownBlock=some g/\w.heap.size<=g)
  (hpk:w'.ownsRow W0.heap.size 3 1 pv pk.length (pk.map (Value.int .i64))) (hpv:pv.ownBlock=L.pv.ownBlock∨∃ g,pv.ownBlock=some g/\w.heap.size<=g) :
  fC W0 f ts q X M w sb { L with av:=av,pv:=pv } { σ with ak:=ag,picks:=pk,status:=st } w':=by
 have ajK:∀ b,b<w.heap.size->¬ X b->av.ownBlock≠some b/\pv.ownBlock≠some b:=fun b hl hX=>by
  refine⟨fun e=>?_,fun e=>?_⟩
  ·rcases OB with h1 | ⟨g,h1,hg⟩
   ·exact hX (h.sub _ (h.OG b (h1 ▸ e)))
   ·rw[h1] at e; injection e with e; omega
  ·rcases hpv with h1 | ⟨g,h1,hg⟩
   ·exact hX (h.sub _ (h.OH b (h1 ▸ e)))
   ·rw[h1] at e; injection e with e; omega
 have hmono:∀ b,b<w.heap.size->¬ X b->¬ (X b∨av.ownBlock=some b∨pv.ownBlock=some b):=fun b hl hX h0=>by
  rcases h0 with h0 | h0 | h0
  ·exact hX h0
  ·exact (ajK b hl hX).1 h0
  ·exact (ajK b hl hX).2 h0
 have hkX:Kept (fun b=>¬ (X b∨av.ownBlock=some b∨pv.ownBlock=some b)) w w':=hk.mono fun b _ hb=>⟨fun e=>hb (.inl (e ▸ h.sub _ h.msb)),fun e=>hb (.inl (h.sub _ (h.OG b e))),fun e=>hb (.inl (h.sub _ (h.OH b e)))⟩
 have hfresh:∀ b,(av.ownBlock=some b∨pv.ownBlock=some b)->M b∨w.heap.size<=b:=fun b e=>by
  rcases e with e | e
  ·rcases OB with h1 | ⟨g,h1,hg⟩
   ·exact .inl (h.OG b (h1 ▸ e))
   ·rw[h1] at e; injection e with e; exact .inr (by omega)
  ·rcases hpv with h1 | ⟨g,h1,hg⟩
   ·exact .inl (h.OH b (h1 ▸ e))
   ·rw[h1] at e; injection e with e; exact .inr (by omega)
 have hnew:∀ b,(av.ownBlock=some b∨pv.ownBlock=some b)->W0.heap.size<=b/\b<w'.heap.size:=fun b e=>by
  rcases e with e | e
  ·exact Zy hag e
  ·exact Zy hpk e
 have hne:=h.ne;refine⟨fun b=>X b∨av.ownBlock=some b∨pv.ownBlock=some b,fun b=>M b∨av.ownBlock=some b∨pv.ownBlock=some b,⟨⟨?_,fun b hb h0=>?_,fun b hb h0=>?_⟩,fun b hb=>?_,.inl h.msb,hblk,hmono _ h.gsl h.OE,Q8 h.gsl hk.size,fun k hkk=>?_,fun k hkk=>?_,h.apart,hag,fun b e=>.inr (.inl e),(h.bM.mono hmono).aT hkX,hpk,fun b e=>.inr (.inr e)⟩,?_,fun b hb=>.inl hb,fun b hb=>?_,fun b=>?_⟩
 ·exact h.hz.below.kept hk fun b hb=>⟨fun e=>(h.lt (h.sub _ h.msb)).1 (e ▸ hb),fun e=>(h.lt (h.sub _ (h.OG b e))).1 hb,fun e=>(h.lt (h.sub _ (h.OH b e))).1 hb⟩
 ·rcases h0 with h0 | h0
  ·exact h.hz.low b hb h0
  ·have:=(hnew b h0).1; have:=hb.lt; omega
 ·rcases h0 with h0 | h0
  ·exact h.hz.high b (Q4 hk.size hb) h0
  ·have:=(hnew b h0).2; omega
 ·rcases hb with hb | hb
  ·exact .inl (h.sub b hb)
  ·exact .inr hb
 ·refine XP hk (h.rC k hkk) ⟨fun e=>h.OE (e ▸ h.sub _ h.msb),fun e=>h.OE (h.sub _ (h.OG _ e)),fun e=>h.OE (h.sub _ (h.OH _ e))⟩
 ·obtain⟨h1,h2,h3⟩:=h.kU k hkk;refine⟨(h1.mono hmono).aT (hk.mono fun b _ hb=>?_),.inl h2,h3⟩;rcases hb with hb | hb
  ·exact⟨fun e=>hb (.inl (e ▸ h.sub _ h.msb)),fun e=>hb (.inl (h.sub _ (h.OG b e))),fun e=>hb (.inl (h.sub _ (h.OH b e)))⟩
  ·rw[hb];exact hne.2.2.2 k hkk
 ·exact hk.mono fun b _ hb=>⟨fun e=>hb (e ▸ h.msb),fun e=>hb (h.OG b e),fun e=>hb (h.OH b e)⟩
 ·rcases hb with hb | hb
  ·exact .inl hb
  ·exact hfresh b hb
 ·exact⟨fun h0=>by
   rcases h0 with h0 | h0
   ·exact .inl h0
   ·exact .inr (.inr h0),fun h0=>by
   rcases h0 with h0 | h0 | h0
   ·exact .inl h0
   ·exact .inl (h.sub b h0)
   ·exact .inr h0⟩
theorem fC.trans {W0:World} {f:aB} {ts:List af} {q:ae} {X M:Nat->Prop} {w w1 w2:World} {sb:Nat} {L2:qj} {σ2:fe} {X1 M1:Nat->Prop} (hk:Kept (fun b=>¬ M b) w w1) (h1:∀ b,M b->M1 b) (h2:∀ b,M1 b->M b∨w.heap.size<=b) (h3:∀ b,X1 b↔X b∨M1 b) (h:fC W0 f ts q X1 M1 w1 sb L2 σ2 w2):fC W0 f ts q X M w sb L2 σ2 w2:=by
 obtain⟨X2,M2,hA,hk2,g1,g2,g3⟩:=h;refine⟨X2,M2,hA,hk.trans' hk2 (fun b hl hb h0=>?_),fun b hb=>g1 b (h1 b hb),fun b hb=>?_,fun b=>?_⟩
 ·rcases h2 b h0 with h0 | h0
  ·exact hb h0
  ·omega
 ·rcases g2 b hb with h0 | h0
  ·exact h2 b h0
  ·exact .inr (Q4 hk.size h0)
 ·rw[g3,h3];exact⟨fun h0=>by
   rcases h0 with (h0 | h0) | h0
   ·exact .inl h0
   ·exact .inr (g1 b h0)
   ·exact .inr h0,fun h0=>by
   rcases h0 with h0 | h0
   ·exact .inl (.inl h0)
   ·exact .inr h0⟩
theorem dn.post {W0:World} {f:aB} {ts:List af} {q:ae} {X M:Nat->Prop} {w w':World} {sb:Nat} {L:qj} {σ:fe} (h:dn W0 f ts q X M w' sb L σ) (hk:Kept (fun b=>¬ M b) w w'):fC W0 f ts q X M w sb L σ w':=
 ⟨X,M,h,hk,fun _ h=>h,fun _ h=>.inl h,fun b=>⟨fun h0=>.inl h0,fun h0=>by
  rcases h0 with h0 | h0
  ·exact h0
  ·exact h.sub b h0⟩⟩
theorem bQ.trans {W0:World} {f:aB} {ts:List af} {q:ae} {X M:Nat->Prop} {w w1 w2:World} {sb:Nat} {σ2:fe} {X1 M1:Nat->Prop} (hk:Kept (fun b=>¬ M b) w w1) (h1:∀ b,M b->M1 b) (h2:∀ b,M1 b->M b∨w.heap.size<=b) (h3:∀ b,X1 b↔X b∨M1 b) (h:bQ W0 f ts q X1 M1 w1 sb σ2 w2):bQ W0 f ts q X M w sb σ2 w2:=h.imp fun _ h=>fC.trans hk h1 h2 h3 h
theorem dn.below {W0:World} {f:aB} {ts:List af} {q:ae} {X M:Nat->Prop} {w w':World} {sb:Nat} {L:qj} {σ:fe} (h:dn W0 f ts q X M w sb L σ) (hb:Below w.heap.size w w'):dn W0 f ts q X M w' sb L σ where
 hz:=h.hz.next hb
 sub:=h.sub
 msb:=h.msb
 blk:=h.blk.keep (Q9 (s:=fun b=>b<w.heap.size) hb (fun _ h _=>h)) h.blk.lt
 OE:=h.OE
 gsl:=Q8 h.gsl hb.size
 rC:=fun k hk=>cB hb (h.rC k hk)
 kU:=fun k hk=>⟨(h.kU k hk).1.below hb,(h.kU k hk).2⟩
 apart:=h.apart
 ag:=Z0 h.ag hb
 OG:=h.OG
 bM:=h.bM.below hb
 pk:=Z0 h.pk hb
 OH:=h.OH
theorem dn.other {W0:World} {f:aB} {ts:List af} {q:ae} {X M N N' X':Nat->Prop} {w w':World} {sb:Nat} {L:qj} {σ:fe} (h:dn W0 f ts q X M w sb L σ) (hN:∀ b,N b->X b) (hd:∀ b,M b->¬ N b) (hk:Kept (fun b=>¬ N b) w w') (hf:∀ b,N' b->N b∨w.heap.size<=b) (hX:∀ b,X' b↔X b∨N' b) (hl:∀ b,N' b->b<w'.heap.size) (h0:∀ b,N' b->W0.heap.size<=b):dn W0 f ts q X' M w' sb L σ:=by
 have hmono:∀ b,b<w.heap.size->¬ X b->¬ X' b:=fun b hlt hb hx=>by
  rcases (hX b).1 hx with hx | hx
  ·exact hb hx
  ·rcases hf b hx with hx | hx
   ·exact hb (hN b hx)
   ·omega
 have hkX:Kept (fun b=>¬ X' b) w w':=hk.mono fun b _ hb hn=>hb ((hX b).2 (.inl (hN b hn)))
 refine⟨⟨h.hz.below.kept hk fun b hb hn=>h.hz.low b hb (hN b hn),fun b hb hx=>?_,fun b hb hx=>?_⟩,fun b hb=>(hX b).2 (.inl (h.sub b hb)),h.msb,h.blk.keep hk (hd _ h.msb),hmono _ h.gsl h.OE,Q8 h.gsl hk.size,fun k hkk=>XP hk (h.rC k hkk) (fun hn=>h.OE (hN _ hn)),fun k hkk=>?_,h.apart,Zx h.ag hk (fun g e=>hd g (h.OG g e)),h.OG,(h.bM.mono hmono).aT hkX,Zx h.pk hk (fun g e=>hd g (h.OH g e)),h.OH⟩
 ·rcases (hX b).1 hx with hx | hx
  ·exact h.hz.low b hb hx
  ·have:=h0 b hx; have:=hb.lt; omega
 ·rcases (hX b).1 hx with hx | hx
  ·exact h.hz.high b (Q4 hk.size hb) hx
  ·have:=hl b hx; omega
 ·obtain⟨h1,h2,h3⟩:=h.kU k hkk;refine⟨(h1.mono hmono).aT (hk.mono fun b _ hb hn=>?_),h2,h3⟩;rcases hb with hb | hb
  ·exact hb ((hX b).2 (.inl (hN b hn)))
  ·exact hd _ h2 (hb ▸ hn)
theorem dn.group {W0:World} {f:aB} {ts:List af} {q:ae} {X M:Nat->Prop} {w w':World} {sb:Nat} {L:qj} {σ:fe} (h:dn W0 f ts q X M w sb L σ) {s:Nat} (hs:s<σ.groups.length) (hk:Kept (fun b=>b≠L.gb s) w w') {A':Nat->Nat} {g':List ai} (hg:aX 120 195 (fun b=>¬ X b) w' (L.gb s) A' (L.os s) g') (hl:g'.length=(σ.groups.getD s []).length) :
  dn W0 f ts q X M w' sb { L with A:=fun k=>if k=s then A' else L.A k } { σ with groups:=σ.groups.set s g' }:=by
 have hne:=h.ne;have UU:=h.sub _ (h.kU s hs).2.1;have hgl:∀ k,((σ.groups.set s g').getD k []).length=(σ.groups.getD k []).length:=fun k=>by
  rw[jC];split
  ·rename_i e
   rw[<- e.1];exact hl
  ·rfl
 have WC:(σ.groups.set s g').length=σ.groups.length:=XF ..;refine⟨⟨h.hz.below.kept hk fun b hb e=>(h.lt UU).1 (e ▸ hb),h.hz.low,fun b hb=>h.hz.high b (Q4 hk.size hb)⟩,h.sub,h.msb,?_,h.OE,Q8 h.gsl hk.size,fun k hkk=>?_,fun k hkk=>?_,fun j k hj hkk e=>?_,Zx h.ag hk (fun g e hg=>(hne.2.2.2 s hs).2.1 (hg ▸ e)),h.OG,h.bM.aT (hk.mono fun b _ hb e=>hb (e ▸ UU)),Zx h.pk hk (fun g e hg=>(hne.2.2.2 s hs).2.2 (hg ▸ e)),h.OH⟩
 ·have:=h.blk.keep hk (fun e=>(hne.2.2.2 s hs).1 e.symm);have e:kM { L with A:=fun k=>if k=s then A' else L.A k } { σ with groups:=σ.groups.set s g' } = kM L σ:=by
   unfold kM;simp only;rw[WC]
  rw[e];exact this
 ·show w'.cell? _=some (.slice _ ((σ.groups.set s g').getD k []).length _)
  rw[hgl k];exact XP hk (h.rC k (by rw[<- WC]; exact hkk)) (fun e=>h.OE (e ▸ UU))
 ·have abI:k<σ.groups.length:=by rw[<- WC]; exact hkk
  obtain⟨h1,h2,h3⟩:=h.kU k abI
  show aX _ _ _ _ (L.gb k) (if k=s then A' else L.A k) (L.os k) ((σ.groups.set s g').getD k [])/\M (L.gb k)/\((σ.groups.set s g').getD k []).length<=L.Gh k/\L.Gh k<=9223372036854775807
  rw[hgl k];refine⟨?_,h2,h3⟩;by_cases e:k=s
  ·subst e;rw[Qr rfl,jC,Qr ⟨rfl,hs⟩];exact hg
  ·rw[Qs e,jC,Qs (fun h0=>e h0.1.symm)];refine h1.aT (hk.mono fun b _ hb e'=>?_);rcases hb with hb | hb
   ·exact hb (e' ▸ UU)
   ·exact e (h.apart k s abI hs (hb.symm.trans e'))
 ·exact h.apart j k (by rw[<- WC]; exact hj) (by rw[<- WC]; exact hkk) e
theorem dn.better {W0:World} {f:aB} {ts:List af} {q:ae} {X M:Nat->Prop} {w w':World} {sb:Nat} {L:qj} {σ:fe} (h:dn W0 f ts q X M w sb L σ) (hk:Kept (fun b=>b≠sb) w w') {b':Nat} {t:aW} (hblk:GB w' sb 102 (f.cells ts q++kM { L with bM:=b' } { σ with bM:=t })) (ht:aC 120 (fun b=>¬ X b) w' b' t) :
  dn W0 f ts q X M w' sb { L with bM:=b' } { σ with bM:=t }:=by
 have hne:=h.ne;have UU:=h.sub _ h.msb;refine⟨⟨h.hz.below.kept hk fun b hb e=>(h.lt UU).1 (e ▸ hb),h.hz.low,fun b hb=>h.hz.high b (Q4 hk.size hb)⟩,h.sub,h.msb,hblk,h.OE,Q8 h.gsl hk.size,fun k hkk=>XP hk (h.rC k hkk) (fun e=>h.OE (e ▸ UU)),fun k hkk=>⟨(h.kU k hkk).1.aT (hk.mono fun b _ hb e=>?_),(h.kU k hkk).2⟩,h.apart,Zx h.ag hk (fun g e hg=>hne.1 (hg ▸ e)),h.OG,ht,Zx h.pk hk (fun g e hg=>hne.2.1 (hg ▸ e)),h.OH⟩;rcases hb with hb | hb
 ·exact hb (e ▸ UU)
 ·exact (hne.2.2.2 k hkk).1 (hb ▸ e)
theorem Jv (rk:Nat->Int) (s:Nat) (gs:List (List ai)) (a:List bg) (k:Nat):(List.range (k+1)).foldl (iA rk s gs) a=iA rk s gs ((List.range k).foldl (iA rk s gs) a) k:=by
 rw[QR,QM];rfl
theorem kT.small {n:Nat} {gs:List (List ai)} {t:bg} (h:kT n gs t) (hn:n<=5) (hg:gs.length<=31):t.1<32/\t.2<32:=by
 rcases h with⟨h0,i,hi,e⟩ | ⟨_,h1,h2,_⟩
 ·rw[h0,e];have:i=0∨i=1∨i=2∨i=3∨i=4:=by omega
  rcases this with rfl | rfl | rfl | rfl | rfl <;> decide
 ·omega
theorem Ni {g:List ai}:(bZ g).isSome=(g.getD 0 mG).2.isSome:=by
 match g with
 | [] => rfl
 | (_,none)::_ => rfl
 | (_,some _)::_ => rfl
theorem ade (f:aB) (ts:List af) (q:ae) (L:qj) (σ:fe):(f.cells ts q++kM L σ)[14]? = some L.av:=by
 obtain⟨v0,v1,v2,v3,v4,v5,v6,v7,v8,v9,v10,v11,v12,dw,-⟩:=Z8 f ts q;rw[dw];rfl
theorem WQ (f:aB) (ts:List af) (q:ae) (L:qj) (σ:fe) (av:Value):(f.cells ts q++kM L σ).setIfInBounds 14 av=f.cells ts q++kM { L with av:=av } σ:=by
 obtain⟨v0,v1,v2,v3,v4,v5,v6,v7,v8,v9,v10,v11,v12,dw,-⟩:=Z8 f ts q;rw[dw];rfl
theorem Nk {W0:World} {f:aB} {ts:List af} {q:ae} {X M:Nat->Prop} {w:World} {sb:Nat} {L:qj} {σ:fe} (h:dn W0 f ts q X M w sb L σ) (s:Nat) (hs:s<32) (hgl:σ.groups.length<=31) (hg0:∀ k,k<σ.groups.length->0<(σ.groups.getD k []).length) (ha:∀ t∈σ.ak,t.1<32/\t.2<32) (hal:σ.ak.length<=900000) :
  Calls Tryz.prog 182 #[.pointer (some (aD sb 0)),.int .u64 (s:Int)] w fun e w'=>(∃ v,e=.returned v)/\bQ W0 f ts q X M w sb { σ with ak:=mV aV s σ.groups σ.ak } w':=by
 obtain⟨v0,v1,v2,v3,v4,v5,v6,v7,v8,v9,v10,v11,v12,dw,-⟩:=Z8 f ts q;obtain⟨AK,YO⟩:∃ A:Nat->List bg,A=fun k=>(List.range k).foldl (iA aV s σ.groups) σ.ak:=⟨_,rfl⟩
 have HST:Hid (∀ k,AK (k+1)=iA aV s σ.groups (AK k) k):=fun k=>by rw[YO]; exact Jv _ _ _ _ _
 have HE:Hid (AK σ.groups.length=mV aV s σ.groups σ.ak):=by show _=_; rw[YO]; rfl
 have Bz:Hid (∀ k,k<=σ.groups.length->(∀ t∈AK k,t.1<32/\t.2<32)/\(AK k).length<=901000):=fun k hk=>by
  rw[YO];refine⟨fun t ht=>?_,?_⟩
  ·rcases uB _ _ _ ht with h1 | ⟨j,hj,_,_,h1⟩
   ·exact ha t h1
   ·have:=Z4.1 hj;rcases h1 with rfl | rfl
    ·exact⟨hs,by show j<32; omega⟩
    ·exact⟨by show j<32; omega,hs⟩
  ·refine Q4 (uC _ _ _ _ _) ?_;rw[QV];omega
 have HP0:Hid (fC W0 f ts q X M w sb { L with av:=L.av } { σ with ak:=AK 0 } w):=by rw[YO]; exact h.post (Q7 _ _)
 have c13:w.cell? (aD sb 13)=some (.slice (some (aD L.gs 0)) σ.groups.length L.M6):=by
  have:=h.blk.cell 13;rw[dw] at this;exact this
 have YM:=Zh hg0;have HMT:Hid (∀ (k:Nat) (x:World),k<32->Calls Tryz.prog 223 #[.int .u64 (k:Int),.int .u64 (s:Int)] x fun e w'=>e=.returned (.bool (decide (k &&& s≠0)))/\w' = x):=fun k x hk=>Pw k s (by omega) (by omega) x
 have HS:=Zh hs;have hgn:=hgl;obtain⟨gl,ajV⟩:∃ n,n=σ.groups.length:=⟨_,rfl⟩
 rw[<- ajV] at hgl hgn HE Bz c13 YM;have apl:=Zh ajV;go_enter Tryz.func182,Tryz.ntmps182;go_wp2;go_loopw [12] (fun iv wr=>∃ (k:Nat) (av:Value),k<=gl/\iv=.int .i64 (k:Int)/\Hid (fC W0 f ts q X M w sb { L with av:=av } { σ with ak:=AK k } wr)) (fun iv _=>gl-(intOf iv).toNat)
 case atStart=>exact⟨0,L.av,QQ _,rfl,HP0.out⟩
 case round=>
  obtain⟨k,av,hk,rfl,HP⟩:=hrel;by_cases hlt:k<gl
  ·obtain⟨X1,M1,hA1,hk1,h11,h12,h13⟩:=HP.out;have hkg:k<σ.groups.length:=by rw[<- apl.out]; exact hlt
   have hgc:wr.cell? (aD L.gs k)=some (.slice (some (aD (L.gb k) 0)) (σ.groups.getD k []).length (L.Gh k)):=hA1.rC k hkg;obtain⟨hG1,-⟩:=hA1.kU k hkg;have Ub:=oV hG1 (YM.out k hlt) (L.Gh k);change Calls Tryz.prog 222 #[.slice (some (aD (L.gb k) 0)) (σ.groups.getD k []).length (L.Gh k)] wr (fun e w'=>e=.returned (EJ (L.A k) ((σ.groups.getD k []).getD 0 mG).2)/\w' = wr) at Ub;have hre:=HST.out k;unfold iA at hre;rw[Ni] at hre;have HA1:=Zh hA1;have Wn:Hid (Kept (fun b=>¬ M b) w wr/\(∀ b,M b->M1 b)/\(∀ b,M1 b->M b∨w.heap.size<=b)/\(∀ b,X1 b↔X b∨M1 b)):=⟨hk1,h11,h12,h13⟩
   have hMT:=HMT.out k wr (by omega);have hcv:IntKind.u64.wrap (k:Int)=(k:Int):=by rw[IntKind.wrap_u64]; omega
   generalize (σ.groups.getD k []).length=ggl at *;generalize L.Gh k=ggc at *;generalize L.gb k=ggb at *
   cases hy:((σ.groups.getD k []).getD 0 mG).2 with
   | none =>
    rw[hy] at Ub hre;have pX:Hid (AK (k+1)=AK k):=hre;change Calls _ _ _ wr (fun e w'=>e=.returned (.pointer none)/\w' = wr) at Ub;go_wp2_with fail;refine Ub.mono ?_;rintro e wz ⟨rfl,hwz⟩;have nI:=hwz.symm;subst nI;go_wp2;go_roundw
    case rel=>exact⟨k+1,av,by omega,by go_num,by show fC _ _ _ _ _ _ _ _ _ _ _; rw[pX.out]; exact HP.out⟩
    case measure=>simp[intOf]; omega
   | some y =>
    rw[hy] at Ub hre;change Calls _ _ _ wr (fun e w'=>e=.returned (.pointer (some (aD (L.A k y.1) 0)))/\w' = wr) at Ub;generalize L.A k y.1=yp at *;by_cases hks:k &&& s=0
    ·have pX:Hid (AK (k+1)=[(s,k),(k,s)].foldl (gU aV) (AK k)):=by
      show _=_
      rw[hre,Qu hks];rfl
     rw[Qh (by simpa using hks)] at hMT;obtain⟨w1,hw1,hb1,hx1⟩:=bu wr #[.int .u64 (s:Int),.int .u64 (k:Int),.int .u64 (k:Int),.int .u64 (s:Int)] 143;have hA2:=HA1.out.below hb1;have ajW:=Bz.out k hk;have Dk:=IP sb W0.heap.size _ av (AK k) [(s,k),(k,s)] (some (aD wr.heap.size 0)) 2 w1 hA2.blk (ade f ts q _ _) hA2.ag hA2.hz.below.size ⟨by simp,fun i hi=>⟨wr.heap.size,0,rfl,by
      rw[QE];have hi':i<2:=hi
      match i,hi' with
      | 0,_ => exact⟨hx1.cell 0,hx1.cell 1⟩
      | 1,_ => exact⟨hx1.cell 2,hx1.cell 3⟩⟩⟩ (fun a e => by
       injection e with e;rw[<- e];exact show wr.heap.size≠sb/\av.ownBlock≠some wr.heap.size from ⟨fun e'=>by have:=HA1.out.blk.lt; omega,fun e'=>by have:=(Zy HA1.out.ag e').2; omega⟩) (by have:=ajW.2; simp; omega) ajW.1 (fun t ht=>by
       have ajX:=HS.out;rcases QP.1 ht with rfl | ht
       ·exact⟨ajX,by show k<32; omega⟩
       ·rw[QY] at ht;rw[ht];exact⟨by show k<32; omega,ajX⟩)
     have HB1:=Zh hb1;go_wp2_with fail;refine Ub.mono ?_;rintro e wz ⟨rfl,hwz⟩;have nI:=hwz.symm;subst nI;go_wp2_with fail;refine hMT.mono ?_;rintro e wz ⟨rfl,hwz⟩;have nI:=hwz.symm;subst nI;go_wp2_with fail;refine Dk.mono ?_;rintro e w2 ⟨⟨rv,rfl⟩,av2,hg2,ho2,hk2,hv2⟩;have HF:Hid (fC W0 f ts q X M w sb { L with av:=av2 } { σ with ak:=AK (k+1) } w2):=by
      rw[pX.out];have hkk:Kept (fun b=>b≠sb/\av.ownBlock≠some b/\L.pv.ownBlock≠some b) wr w2:=(Q9 HB1.out (fun _ h _=>h)).trans (hk2.mono (fun b _ h=>⟨h.1,h.2.1⟩));refine fC.trans Wn.out.1 Wn.out.2.1 Wn.out.2.2.1 Wn.out.2.2.2 (HA1.out.next hkk (av:=av2) (pv:=L.pv) (ag:=[(s,k),(k,s)].foldl (gU aV) (AK k)) (pk:=σ.picks) (st:=σ.status) ?_ ho2 ?_ ?_ (.inl rfl))
      ·have:=hg2;rw[WQ] at this;exact this
      ·rcases hv2 with h | ⟨g,h,hg⟩
       ·exact .inl h
       ·exact .inr ⟨g,h,Q4 HB1.out.size hg⟩
      ·refine Zx HA1.out.pk ((Q9 HB1.out (fun _ h _=>h)).trans hk2) (fun g e=>?_);have hne:=HA1.out.ne;exact⟨fun e'=>hne.2.1 (e' ▸ e),fun e'=>hne.2.2.1 g e' e⟩
     go_wp2;go_roundw
     case rel=>exact⟨k+1,av2,by omega,by go_num,HF.out⟩
     case measure=>simp[intOf]; omega
    ·have pX:Hid (AK (k+1)=AK k):=by
      show _=_
      rw[hre,Qh hks];rfl
     rw[Qu (by simpa using hks)] at hMT;go_wp2_with fail;refine Ub.mono ?_;rintro e wz ⟨rfl,hwz⟩;have nI:=hwz.symm;subst nI;go_wp2_with fail;refine hMT.mono ?_;rintro e wz ⟨rfl,hwz⟩;have nI:=hwz.symm;subst nI;go_wp2;go_roundw
     case rel=>exact⟨k+1,av,by omega,by go_num,by show fC _ _ _ _ _ _ _ _ _ _ _; rw[pX.out]; exact HP.out⟩
     case measure=>simp[intOf]; omega
  ·have hkg:gl=k:=by omega
   have HF:Hid (bQ W0 f ts q X M w sb { σ with ak:=mV aV s σ.groups σ.ak } wr):=by
    refine⟨{ L with av:=av },?_⟩;have:=HP.out;rw[<- hkg,HE.out] at this;exact this
   go_wp2;go_end0;exact⟨⟨_,rfl⟩,HF.out⟩
theorem Nv (ts:List af) (q:ae) (b:aW) (l:List aW) {k:Nat} (hk:k<l.length):(l.take (k+1)).foldl (jX ts q) b=jX ts q ((l.take k).foldl (jX ts q) b) (l.getD k ll):=gy _ b l ll hk
theorem dn.cells {W0:World} {f:aB} {ts:List af} {q:ae} {X M:Nat->Prop} {w:World} {sb:Nat} {L:qj} {σ:fe} (h:dn W0 f ts q X M w sb L σ) {v0 v1 v2 v3 v4 v5 v6 v7 v8 v9 v10 v11 v12:Value} (dw:f.cells ts q=#[v0,v1,v2,v3,v4,v5,v6,v7,v8,v9,v10,v11,v12]):GB w sb 102 #[v0,v1,v2,v3,v4,v5,v6,v7,v8,v9,v10,v11,v12,.slice (some (aD L.gs 0)) σ.groups.length L.M6,L.av,.bool σ.cut,.pointer (some (aD L.bM 0)),L.pv,.int .i64 σ.status]:=by
 have:=h.blk;rw[dw] at this;exact this
theorem Tk {W0:World} {f:aB} {ts:List af} {q:ae} (E:Env f ts q W0) {X M:Nat->Prop} {w:World} {sb:Nat} {L:qj} {σ:fe} (h:dn W0 f ts q X M w sb L σ) (bo:Option Addr) (bc:Nat) (bs:List (Nat × aW)) (hp:cK w bo (bs.map Prod.fst)) (hpo:∀ a,bo=some a->a.block≠sb) (hbs:∀ x∈bs,aC 120 (fun b=>¬ X b) w x.1 x.2) (hok:∀ x∈bs,iC q x.2) (hl:bs.length<=1000) :
  Calls Tryz.prog 127 #[.pointer (some (aD sb 0)),.int .u64 ((2 ^ q.src.xs.length-1:Nat):Int),.slice bo bs.length bc] w fun e w'=>(∃ v,e=.returned v)/\∃ L',dn W0 f ts q X M w' sb L' { σ with bM:=(bs.map Prod.snd).foldl (jX ts q) σ.bM }/\Kept (fun b=>¬ M b) w w':=by
 obtain⟨v0,v1,v2,v3,v4,v5,v6,v7,v8,v9,v10,v11,v12,dw,-,-,-,-,-,-,-,-,hv8,-⟩:=Z8 f ts q;have Oo:=Zh hp;have HPO:=Zh hpo;have mH:Hid ((bs.map Prod.fst).length=bs.length):=QU _;obtain⟨BK,hBK⟩:∃ B:Nat->aW,B=fun k=>((bs.map Prod.snd).take k).foldl (jX ts q) σ.bM:=⟨_,rfl⟩
 obtain⟨BD,Mj⟩:∃ B:Nat->aW,B=fun k=>(bs.map Prod.snd).getD k ll:=⟨_,rfl⟩
 have HST:Hid (∀ k,k<bs.length->BK (k+1)=dW (BK k) (eG ts q (BD k))):=fun k hk=>by rw[hBK,Mj]; exact Nv ts q σ.bM _ (by rw[QU]; exact hk)
 have HE:Hid (BK bs.length=(bs.map Prod.snd).foldl (jX ts q) σ.bM):=by
  show _=_
  rw[hBK]
  show ((bs.map Prod.snd).take bs.length).foldl _ _=_
  rw[ZY (by rw[QU]; exact Qq _)]
 have HB0:Hid (BK 0=σ.bM):=by show _=_; rw[hBK]; rfl
 have Ou:Hid (∀ k,k<bs.length->aC 120 (fun b=>¬ X b) w ((bs.map Prod.fst).getD k 0) (BD k)/\iC q (BD k)):=fun k hk=>by
  have h1:(bs.map Prod.fst).getD k 0=(bs[k]).1:=by rw[Xq,QW,ZG hk]; rfl
  have h2:BD k=(bs[k]).2:=by rw[Mj]; show (bs.map Prod.snd).getD k ll=_; rw[Xq,QW,ZG hk]; rfl
  rw[h1,h2];exact⟨hbs _ (Qj hk),hok _ (Qj hk)⟩
 have ql:Hid (∀ (x:World) (r:Nat) (t:aW),Fz (fun b=>¬ X b) W0 x->aC 120 (fun b=>¬ X b) x r t->iC q t->Calls Tryz.prog 180 #[.agg #[v0,v1,v2,v3,v4,v5,v6,v7,v8,v9,v10,v11,v12],.pointer (some (aD r 0))] x (iP 120 100 (fun b=>¬ X b) x (eG ts q t))):=fun x r t hx hr ht=>by
  rw[<- dw];exact Jf E hx r t hr ht
 have HEL:Hid (∀ t,(eG ts q t).length<=2):=fun t=>by
  unfold eG;split <;> simp
 have HH:Hid (dn W0 f ts q X M w sb { L with bM:=L.bM } { σ with bM:=BK 0 }):=by rw[HB0.out]; exact h
 have Kj:=Zh dw;have HXS:Hid (∀ b,¬ X b->b≠sb):=fun b hb e=>hb (e ▸ h.sub _ h.msb)
 have HMS:Hid (∀ b,¬ M b->b≠sb):=fun b hb e=>hb (e ▸ h.msb)
 have hg0:=h.cells dw;have c8:w.cell? (aD sb 8)=some (.int .u64 ((2 ^ q.src.xs.length-1:Nat):Int)):=by rw[<- hv8]; exact hg0.cell 8
 obtain⟨SS,hSS⟩:∃ n:Nat,n=2 ^ q.src.xs.length-1:=⟨_,rfl⟩
 rw[<- hSS] at c8 ⊢;clear hp hpo hbs hok h hBK Mj dw hg0 hSS hv8 E;generalize bs.map Prod.fst=bf at *;generalize (bs.map Prod.snd).foldl (jX ts q) σ.bM=R at *;generalize bs.length=bl at *;go_enter Tryz.func127,Tryz.ntmps127;go_wp2;go_loopw [18] (fun iv wr=>∃ (k bp:Nat),k<=bl/\iv=.int .i64 (k:Int)/\Hid (dn W0 f ts q X M wr sb { L with bM:=bp } { σ with bM:=BK k })/\Hid (Kept (fun b=>b≠sb) w wr)) (fun iv _=>bl-(intOf iv).toNat)
 case atStart=>exact⟨0,L.bM,QQ _,rfl,HH.out,Q7 _ _⟩
 case round=>
  obtain⟨k,bp,hk,rfl,HA,HK⟩:=hrel;by_cases hlt:k<bl
  ·obtain⟨tb,aeI,hbo,hbc⟩:=cK.get (Oo.out.aT HK.out (fun _ a ha=>HPO.out a ha)) (i:=k) (by rw[mH.out]; exact hlt);subst hbo;have hck:=hbc k (by rw[mH.out]; exact hlt);have hGk:=Ou.out k hlt;obtain⟨a,ha⟩:∃ a,a=bf.getD k 0:=⟨_,rfl⟩
   rw[<- ha] at hck hGk;have HTk:=Zh (hGk.1.aT (HK.out.mono fun b _ hb=>HXS.out b hb));have HTO:=Zh hGk.2;have hgb:=HA.out.cells Kj.out;simp only at hgb;have pX:=HST.out k hlt;have hEN:=ql.out wr.drew a (BD k) (HA.out.hz.next ((Qp _ _).drew)) (HTk.out.below ((Qp _ _).drew)) HTO.out;have HEK:=Zh (HEL.out (BD k));generalize eG ts q (BD k)=EN at *;have akk:=Zh pX;obtain⟨gsv,agc⟩:∃ v,v=Value.slice (some (aD L.gs 0)) σ.groups.length L.M6:=⟨_,rfl⟩
   obtain⟨avv,agd⟩:∃ v,v=L.av:=⟨_,rfl⟩
   obtain⟨pkv,age⟩:∃ v,v=L.pv:=⟨_,rfl⟩
   rw[<- agc,<- agd,<- age] at hgb;have oO:=Zh hgb;have yO:Hid (gsv=Value.slice (some (aD L.gs 0)) σ.groups.length L.M6/\avv=L.av/\pkv=L.pv):=⟨agc,agd,age⟩
   have c16:=hgb.at 16;have akl:wr.drew.cell? (aD sb 16)=some (.pointer (some (aD bp 0))):=c16;clear hbc ha hGk hgb pX agc agd age;obtain⟨wq,hwq⟩:∃ x,x=wr:=⟨_,rfl⟩
   subst hwq;go_wp2_with fail;refine QL (S:=fun x=>Kept (fun b=>b≠sb) wq x/\∃ u,GB x sb 102 #[v0,v1,v2,v3,v4,v5,v6,v7,v8,v9,v10,v11,v12,gsv,avv,.bool σ.cut,u,pkv,.int .i64 σ.status]) (by kernel_rfl) ⟨Q9 ((Qp wq.heap.size wq).drew) (fun _ hl _=>hl),_,oO.out⟩ (fun hS=>?_);refine wt 0 (.pointer (some (aD sb 0))) hS ?_;refine wt 1 (.pointer (some (aD sb 0))) hS ?_;refine wt 2 (.pointer (some (aD sb 0))) hS ?_;refine wt 3 (.pointer (some (aD sb 16))) hS ?_;refine wt 5 (.pointer (some (aD sb 0))) hS ?_;refine wt 6 (.pointer (some (aD sb 0))) hS ?_;refine wt 7 (.pointer (some (aD sb 0))) hS ?_;refine wT 8 (.agg #[v0,v1,v2,v3,v4,v5,v6,v7,v8,v9,v10,v11,v12]) hS (fun x hx=>?_) ?_
   ·obtain⟨u,hu⟩:=hx.2;obtain⟨e0,e1,e2,e3,e4,e5,e6,e7,e8,e9,e10,e11,e12⟩:=hu.k13;go_simp
   refine wt 9 (.pointer (some (aD a 0))) hS ?_;refine wJ 4 10 (fun K hK=>?_) fun K hK=>?_
   ·go_simp;refine hK.out _ _ hS fun hS=>?_
    clear hK K;refine wR 10 fun K hK=>?_
    go_simp;refine Z7 hEN ?_;rintro e w2 ⟨v,us,rfl,Wy,hin,hb2⟩;have xG:=(Qp wq.heap.size wq).drew.trans hb2;have hg2:=oO.out.keep (Q9 (s:=fun b=>b<wq.heap.size) xG (fun _ h _=>h)) oO.out.lt;have agf:=hg2.at 16;have hul:us.length<=2:=by
     have h1:us.length=EN.length:=by rw[<- Wy,QU]
     rw[h1];exact HEK.out
    obtain⟨ua,uc,rfl,hup,-,-,-⟩:=kK (xs:=us.map Prod.fst) hin.own (by rw[hin.len]; omega);rw[hin.len] at hin ⊢;refine hK.out _ _ ⟨Q9 xG (fun _ h _=>h),_,hg2⟩ (fun hS=>?_);clear hK K;have hCH:=vR bp (BK k) ((HA.out.bM).own xG (v:=.slice ua us.length uc) (fun g e=>(Zy hin.own e).1)) ua uc us hup (fun x hx=>(hin.tree x hx).1) (by omega);rw[Wy,<- akk.out] at hCH;refine wR 11 fun K hK=>?_
    go_simp;refine Z7 hCH ?_;rintro e w3 ⟨r,rfl,hT,hb3⟩;have vW:=aG xG hb3;have hg3:=oO.out.keep (Q9 (s:=fun b=>b<wq.heap.size) vW (fun _ h _=>h)) oO.out.lt;refine hK.out _ _ ⟨Q9 vW (fun _ h _=>h),_,hg3⟩ (fun hS=>?_);clear hK K;refine wt 12 (.pointer (some (aD sb 0))) hS ?_;refine wt 13 (.pointer (some (aD sb 16))) hS ?_;have agh:=hg3.at 16;have f16:=hg3.frozen 16;have hg4:GB (w3.setCell (aD sb 16) (.pointer (some (aD r 0)))) sb 102 #[v0,v1,v2,v3,v4,v5,v6,v7,v8,v9,v10,v11,v12,gsv,avv,.bool σ.cut,.pointer (some (aD r 0)),pkv,.int .i64 σ.status]:=hg3.set 16 _;have hk4:Kept (fun b=>b≠sb) wq (w3.setCell (aD sb 16) (.pointer (some (aD r 0)))):=(Q9 vW (fun _ h _=>h)).trans (Zv _ _ _ (fun h=>h rfl));refine wR 14 fun K hK=>?_
    go_simp;refine hK.out _ _ ⟨hk4,_,hg4⟩ (fun hS=>?_);clear hK K;refine wD ?_
    try simp only[pV]
    try simp only[pV]
    have HF:Hid (dn W0 f ts q X M (w3.setCell (aD sb 16) (.pointer (some (aD r 0)))) sb { L with bM:=r } { σ with bM:=BK (k+1) }/\Kept (fun b=>b≠sb) w (w3.setCell (aD sb 16) (.pointer (some (aD r 0))))):=⟨HA.out.better hk4 (by
      rw[Kj.out,yO.out.1,yO.out.2.1,yO.out.2.2] at *;exact hg4) (hT.Je.aT (Zv _ _ _ (fun h=>HXS.out _ h rfl))),HK.out.trans hk4⟩
    clear hS agh f16 hg4 hk4 hCH hT hb3 vW hg3 hin hup hul Wy hg2 c16 akl agf hck hEN;go_wp2;go_roundw
    case rel=>exact⟨k+1,r,by omega,by go_num,HF.out.1,HF.out.2⟩
    case measure=>simp[intOf]; omega
   ·go_simp;refine Z7 hEN ?_;rintro e w2 ⟨v,us,rfl,Wy,hin,hb2⟩;have xG:=(Qp wq.heap.size wq).drew.trans hb2;have hg2:=oO.out.keep (Q9 (s:=fun b=>b<wq.heap.size) xG (fun _ h _=>h)) oO.out.lt;have agf:=hg2.at 16;have hul:us.length<=2:=by
     have h1:us.length=EN.length:=by rw[<- Wy,QU]
     rw[h1];exact HEK.out
    obtain⟨ua,uc,rfl,hup,-,-,-⟩:=kK (xs:=us.map Prod.fst) hin.own (by rw[hin.len]; omega);rw[hin.len] at hin ⊢;refine hK.out _ _ ⟨Q9 xG (fun _ h _=>h),_,hg2⟩ (fun hS=>?_);clear hK K;refine wR 4 fun K hK=>?_
    go_simp;refine hK.out _ _ hS fun hS=>?_
    clear hK K;have hCH:=vR bp (BK k) ((HA.out.bM).own xG (v:=.slice ua us.length uc) (fun g e=>(Zy hin.own e).1)) ua uc us hup (fun x hx=>(hin.tree x hx).1) (by omega);rw[Wy,<- akk.out] at hCH;refine wR 11 fun K hK=>?_
    go_simp;refine Z7 hCH ?_;rintro e w3 ⟨r,rfl,hT,hb3⟩;have vW:=aG xG hb3;have hg3:=oO.out.keep (Q9 (s:=fun b=>b<wq.heap.size) vW (fun _ h _=>h)) oO.out.lt;refine hK.out _ _ ⟨Q9 vW (fun _ h _=>h),_,hg3⟩ (fun hS=>?_);clear hK K;refine wt 12 (.pointer (some (aD sb 0))) hS ?_;refine wt 13 (.pointer (some (aD sb 16))) hS ?_;have agh:=hg3.at 16;have f16:=hg3.frozen 16;have hg4:GB (w3.setCell (aD sb 16) (.pointer (some (aD r 0)))) sb 102 #[v0,v1,v2,v3,v4,v5,v6,v7,v8,v9,v10,v11,v12,gsv,avv,.bool σ.cut,.pointer (some (aD r 0)),pkv,.int .i64 σ.status]:=hg3.set 16 _;have hk4:Kept (fun b=>b≠sb) wq (w3.setCell (aD sb 16) (.pointer (some (aD r 0)))):=(Q9 vW (fun _ h _=>h)).trans (Zv _ _ _ (fun h=>h rfl));refine wR 14 fun K hK=>?_
    go_simp;refine hK.out _ _ ⟨hk4,_,hg4⟩ (fun hS=>?_);clear hK K;refine wD ?_
    try simp only[pV]
    try simp only[pV]
    have HF:Hid (dn W0 f ts q X M (w3.setCell (aD sb 16) (.pointer (some (aD r 0)))) sb { L with bM:=r } { σ with bM:=BK (k+1) }/\Kept (fun b=>b≠sb) w (w3.setCell (aD sb 16) (.pointer (some (aD r 0))))):=⟨HA.out.better hk4 (by
      rw[Kj.out,yO.out.1,yO.out.2.1,yO.out.2.2] at *;exact hg4) (hT.Je.aT (Zv _ _ _ (fun h=>HXS.out _ h rfl))),HK.out.trans hk4⟩
    clear hS agh f16 hg4 hk4 hCH hT hb3 vW hg3 hin hup hul Wy hg2 c16 akl agf hck hEN;go_wp2;go_roundw
    case rel=>exact⟨k+1,r,by omega,by go_num,HF.out.1,HF.out.2⟩
    case measure=>simp[intOf]; omega
  ·have hkb:bl=k:=by omega
   have HF:Hid (∃ L',dn W0 f ts q X M wr sb L' { σ with bM:=R }/\Kept (fun b=>¬ M b) w wr):=by
    refine⟨{ L with bM:=bp },?_,HK.out.mono fun b _ hb=>HMS.out b hb⟩;have:=HA.out;rw[<- hkb,HE.out] at this;exact this
   clear hkb;go_wp2;go_end0;exact⟨⟨_,rfl⟩,HF.out⟩
theorem uj.pos {q:ae} {s:Nat} {g:List ai} (h:uj q s g):0<g.length:=by
 obtain⟨hh,r,rfl,-⟩:=h.head;simp
theorem X8 {W0:World} {f:aB} {ts:List af} {q:ae} (E:Env f ts q W0) {X M:Nat->Prop} {w:World} {sb:Nat} {L:qj} {σ:fe} (h:dn W0 f ts q X M w sb L σ) (hc:nU q σ) (hal:σ.ak.length<=900000) (s:Nat) (hs1:s<2 ^ q.src.xs.length-1) (bo:Option Addr) (bc:Nat) (bs:List (Nat × aW)) (hp:cK w bo (bs.map Prod.fst)) (hpo:∀ a,bo=some a->¬ M a.block) (hbs:∀ x∈bs,aC 120 (fun b=>¬ X b) w x.1 x.2) (hnd:(bs.map Prod.fst).Nodup) (hfr:∀ p∈σ.groups.getD s [],∀ x,p.2=some x->L.A s x.1 ∉ bs.map Prod.fst) (hl:bs.length<=1000) (Cc:∀ x∈bs,Ot q s x.2) :
  Calls Tryz.prog 127 #[.pointer (some (aD sb 0)),.int .u64 (s:Int),.slice bo bs.length bc] w fun e w'=>(∃ v,e=.returned v)/\bQ W0 f ts q X M w sb (eH aV ts q s (bs.map Prod.snd) σ) w':=by
 obtain⟨v0,v1,v2,v3,v4,v5,v6,v7,v8,v9,v10,v11,v12,dw,-,-,-,-,-,-,-,-,hv8,-⟩:=Z8 f ts q;have hsg:s<σ.groups.length:=by rw[hc.vL]; exact hs1
 have h32:2 ^ q.src.xs.length<=32:=QZ (n:=2) (by omega) E.five;have X9:σ.groups.length<=31:=by rw[hc.vL]; omega
 obtain⟨hG1,hG2,hG3,hG4⟩:=h.kU s hsg;have hgo:=hc.kU s hsg;have hgb:=h.cells dw;have hgc:=h.rC s hsg;have hne:=h.ne;have HKN:Hid (eH aV ts q s (bs.map Prod.snd) σ = { σ with groups:=σ.groups.set s (aZ ts q (σ.groups.getD s []) (bs.map Prod.snd)).2,ak:=if (aZ ts q (σ.groups.getD s []) (bs.map Prod.snd)).1=true then mV aV s (σ.groups.set s (aZ ts q (σ.groups.getD s []) (bs.map Prod.snd)).2) σ.ak else σ.ak }):=by
  show _=_
  unfold eH;rw[Qs (by omega)]
 have himp:=yB (ts:=ts) hgo (l:=bs.map Prod.snd) (fun t ht=>by obtain⟨x,hx,rfl⟩:=Q0.1 ht; exact Cc x hx);have hlen:(aZ ts q (σ.groups.getD s []) (bs.map Prod.snd)).2.length=(σ.groups.getD s []).length:=by have:=congrArg List.length himp.2.2; simpa using this
 have HIM:Hid (∀ x,Below w.heap.size w x->Calls Tryz.prog 181 #[.slice (some (aD (L.gb s) 0)) (σ.groups.getD s []).length (L.Gh s),.agg #[v0,v1,v2,v3,v4,v5,v6,v7,v8,v9,v10,v11,v12],.slice bo bs.length bc] x fun e w'=>e=.returned (.bool (aZ ts q (σ.groups.getD s []) (bs.map Prod.snd)).1)/\(∃ A',aX 120 195 (fun b=>¬ X b) w' (L.gb s) A' (L.os s) (aZ ts q (σ.groups.getD s []) (bs.map Prod.snd)).2)/\Kept (fun b=>b≠L.gb s) x w'):=fun x hx=>by
  rw[<- dw];exact Iu E (h.hz.next hx) (hG1.below hx) (fun hn=>hn (h.sub _ hG2)) hgo (L.Gh s) hG3 hG4 bo bc bs (hp.below hx) (fun a e e'=>hpo a e (e' ▸ hG2)) (fun y hy=>(hbs y hy).below hx) hnd hfr hl Cc
 have akm:Hid (∀ (x:World) (A':Nat->Nat),Kept (fun b=>b≠L.gb s) w x->aX 120 195 (fun b=>¬ X b) x (L.gb s) A' (L.os s) (aZ ts q (σ.groups.getD s []) (bs.map Prod.snd)).2->dn W0 f ts q X M x sb { L with A:=fun k=>if k=s then A' else L.A k } { σ with groups:=σ.groups.set s (aZ ts q (σ.groups.getD s []) (bs.map Prod.snd)).2 }):=fun x A' hk hg=>h.group hsg hk hg hlen
 have LH:Hid (∀ (x:World) (L':qj),dn W0 f ts q X M x sb L' { σ with groups:=σ.groups.set s (aZ ts q (σ.groups.getD s []) (bs.map Prod.snd)).2 }->Calls Tryz.prog 182 #[.pointer (some (aD sb 0)),.int .u64 (s:Int)] x fun e w'=>(∃ v,e=.returned v)/\bQ W0 f ts q X M x sb { σ with groups:=σ.groups.set s (aZ ts q (σ.groups.getD s []) (bs.map Prod.snd)).2,ak:=mV aV s (σ.groups.set s (aZ ts q (σ.groups.getD s []) (bs.map Prod.snd)).2) σ.ak } w'):=fun x L' hx=>
  Nk hx s (by omega) (by show (σ.groups.set _ _).length<=31; rw[XF]; exact X9) (fun k hk=>by
   show 0<((σ.groups.set s _).getD k []).length
   have hk':k<σ.groups.length:=by have hk:k<(σ.groups.set s _).length:=hk; rwa [XF] at hk
   rw[jC];split
   ·rw[hlen]; exact hgo.pos
   ·exact (hc.kU k hk').pos) (fun t ht=>(hc.task t ht).small E.five X9) hal
 have HMG:Hid (∀ b,¬ M b->b≠L.gb s):=fun b hb e=>hb (e ▸ hG2)
 have qA:Hid (sb≠L.gb s/\L.gs≠L.gb s):=⟨fun e=>(hne.2.2.2 s hsg).1 e.symm,fun e=>h.OE (e ▸ h.sub _ hG2)⟩
 have hsS:¬ ((s:Int)=((2 ^ q.src.xs.length-1:Nat):Int)):=by omega
 have hc8:w.cell? (aD sb 8)=some (.int .u64 ((2 ^ q.src.xs.length-1:Nat):Int)):=by rw[<- hv8]; exact hgb.cell 8
 have c13:=hgb.at 13;have apS:=Zh hgb;have hsn:(s:Int)<(σ.groups.length:Int):=by omega
 generalize eH aV ts q s (bs.map Prod.snd) σ=KN at *;generalize aZ ts q (σ.groups.getD s []) (bs.map Prod.snd)=IM at *;obtain⟨I1,I2⟩:=IM;simp only at HKN HIM akm LH;generalize hSS:2 ^ q.src.xs.length-1=SS at *;generalize (σ.groups.getD s []).length=ggl at *;generalize L.gb s=ggb at *;generalize L.Gh s=ggc at *;generalize L.gs=ggs at *;generalize hgn:σ.groups.length=gn at *;generalize L.M6=abW at *;clear h hc hal hp hpo hbs hnd hfr hl Cc hsg h32 X9 hG1 hG2 hG3 hG4 hgo hgb hne himp hlen dw hv8 hSS hgn hs1 E;go_enter Tryz.func127,Tryz.ntmps127;go_wp2_with fail;have hgb:=apS.out;obtain⟨a0,a1,a2,a3,a4,a5,a6,a7,a8,a9,fI,fU,a12⟩:=hgb.k13;clear hgb;refine QL (S:=fun x=>Kept (fun b=>b≠ggb) w x) (by kernel_rfl) (Q9 ((Qp w.heap.size w).drew) (fun _ hl _=>hl)) (fun hS=>?_);refine wt 0 (.pointer (some (aD sb 0))) hS ?_;refine wt 1 (.pointer (some (aD sb 0))) hS ?_;refine wt 2 (.pointer (some (aD sb 13))) hS ?_;refine wT 3 (.slice (some (aD ggs 0)) gn abW) hS (fun x hx=>?_) ?_
 ·have e0:=XP hx c13 qA.out.1;go_simp
 refine wt 4 (.int .u64 (s:Int)) hS ?_;refine wt 5 (.pointer (some (aD ggs s))) hS ?_;refine wT 6 (.slice (some (aD ggb 0)) ggl ggc) hS (fun x hx=>?_) ?_
 ·have e0:=XP hx hgc qA.out.2;go_simp
 refine wt 7 (.pointer (some (aD sb 0))) hS ?_;refine wt 8 (.pointer (some (aD sb 0))) hS ?_;refine wt 9 (.pointer (some (aD sb 0))) hS ?_;refine wT 10 (.agg #[v0,v1,v2,v3,v4,v5,v6,v7,v8,v9,v10,v11,v12]) hS (fun x hx=>?_) ?_
 ·have e0:=XP hx a0 qA.out.1;have e1:=XP hx a1 qA.out.1;have e2:=XP hx a2 qA.out.1;have e3:=XP hx a3 qA.out.1;have e4:=XP hx a4 qA.out.1;have e5:=XP hx a5 qA.out.1;have e6:=XP hx a6 qA.out.1;have e7:=XP hx a7 qA.out.1;have e8:=XP hx a8 qA.out.1;have e9:=XP hx a9 qA.out.1;have e10:=XP hx fI qA.out.1;have e11:=XP hx fU qA.out.1;have e12:=XP hx a12 qA.out.1;go_simp
 refine wt 11 (.slice bo bs.length bc) hS ?_;refine wR 12 fun K hK=>?_
 go_simp;refine Z7 (HIM.out _ ((Qp w.heap.size w).drew)) ?_;rintro e w2 ⟨rfl,hA2,hk2⟩;refine hK.out _ _ (hS.trans hk2) (fun hS=>?_);clear hK K;refine wR 13 fun K hK=>?_
 go_simp;refine hK.out _ _ hS fun hS=>?_
 clear hK K;refine wD ?_
 try simp only[pV]
 try simp only[pV]
 obtain⟨A',hA'⟩:=hA2;have abX:=hS;have hAt:=akm.out w2 A' abX hA';have HAT:=Zh hAt;have nK:=Zh (abX.mono fun b _ hb=>HMG.out b hb)
 cases I1 with
 | false =>
  have HF:Hid (bQ W0 f ts q X M w sb KN w2):=by
   rw[HKN.out];exact⟨_,hAt.post nK.out⟩
  clear hS hA' abX hAt a0 a1 a2 a3 a4 a5 a6 a7 a8 a9 fI fU a12 hgc c13 hc8;go_wp2;go_end0;exact⟨⟨_,rfl⟩,HF.out⟩
 | true =>
  have hRE:=LH.out w2 _ hAt;clear hS hA' abX hAt a0 a1 a2 a3 a4 a5 a6 a7 a8 a9 fI fU a12 hgc c13 hc8;go_wp2_with fail;refine hRE.mono ?_;rintro e w3 ⟨⟨rv,rfl⟩,hp3⟩;have HF:Hid (bQ W0 f ts q X M w sb KN w3):=by
   rw[HKN.out];exact bQ.trans nK.out (fun _ h=>h) (fun _ h=>.inl h) (fun b=>⟨fun h=>.inl h,fun h=>by
    rcases h with h | h
    ·exact h
    ·exact HAT.out.sub b h⟩) hp3
  clear hRE hp3;go_wp2;go_end0;exact⟨⟨_,rfl⟩,HF.out⟩
theorem DI {W0:World} {f:aB} {ts:List af} {q:ae} (E:Env f ts q W0) {X M:Nat->Prop} {w:World} {sb:Nat} {L:qj} {σ:fe} (h:dn W0 f ts q X M w sb L σ) (hc:nU q σ) (hal:σ.ak.length<=900000) (s:Nat) (hs1:s<2 ^ q.src.xs.length) (bo:Option Addr) (bc:Nat) (bs:List (Nat × aW)) (hp:cK w bo (bs.map Prod.fst)) (hpo:∀ a,bo=some a->¬ M a.block) (hbs:∀ x∈bs,aC 120 (fun b=>¬ X b) w x.1 x.2) (hnd:(bs.map Prod.fst).Nodup) (hfr:∀ k,k<σ.groups.length->∀ p∈σ.groups.getD k [],∀ x,p.2=some x->L.A k x.1 ∉ bs.map Prod.fst) (hl:bs.length<=1000) (Cc:∀ x∈bs,Ot q s x.2) :
  Calls Tryz.prog 127 #[.pointer (some (aD sb 0)),.int .u64 (s:Int),.slice bo bs.length bc] w fun e w'=>(∃ v,e=.returned v)/\bQ W0 f ts q X M w sb (eH aV ts q s (bs.map Prod.snd) σ) w':=by
 by_cases hs:s=2 ^ q.src.xs.length-1
 ·subst hs;refine (Tk E h bo bc bs hp (fun a e e'=>hpo a e (e' ▸ h.msb)) hbs (fun x hx=>(Cc x hx).ok) hl).mono ?_;rintro e w' ⟨hv,L',hA,hk⟩;refine⟨hv,L',?_⟩;have e1:eH aV ts q (2 ^ q.src.xs.length-1) (bs.map Prod.snd) σ = { σ with bM:=(bs.map Prod.snd).foldl (jX ts q) σ.bM }:=by unfold eH; rw[Qr rfl]
  rw[e1];exact hA.post hk
 ·exact X8 E h hc hal s (by omega) bo bc bs hp hpo hbs hnd (hfr s (by rw[hc.vL]; omega)) hl Cc
theorem OT {x:World} {sb:Nat} {t:TypeId} {v0 v1 v2 v3 v4 v5 v6 v7 v8 v9 v10 v11 v12:Value} {T:Array Value} (h:GB x sb t (#[v0,v1,v2,v3,v4,v5,v6,v7,v8,v9,v10,v11,v12]++T)):x.cell? (aD sb 0)=some v0/\x.cell? (aD sb 1)=some v1/\x.cell? (aD sb 2)=some v2/\x.cell? (aD sb 3)=some v3/\x.cell? (aD sb 4)=some v4/\x.cell? (aD sb 5)=some v5/\x.cell? (aD sb 6)=some v6/\x.cell? (aD sb 7)=some v7/\x.cell? (aD sb 8)=some v8/\x.cell? (aD sb 9)=some v9/\x.cell? (aD sb 10)=some v10/\x.cell? (aD sb 11)=some v11/\x.cell? (aD sb 12)=some v12:=by
 exact⟨(h.cell 0).trans (XY (by simp)),(h.cell 1).trans (XY (by simp)),(h.cell 2).trans (XY (by simp)),(h.cell 3).trans (XY (by simp)),(h.cell 4).trans (XY (by simp)),(h.cell 5).trans (XY (by simp)),(h.cell 6).trans (XY (by simp)),(h.cell 7).trans (XY (by simp)),(h.cell 8).trans (XY (by simp)),(h.cell 9).trans (XY (by simp)),(h.cell 10).trans (XY (by simp)),(h.cell 11).trans (XY (by simp)),(h.cell 12).trans (XY (by simp))⟩
theorem FQ {bs:List (Nat × aW)} (h:(bs.map Prod.fst).Pairwise (· < ·)):(bs.map Prod.fst).Nodup:=h.imp fun hab=>Nat.ne_of_lt hab
theorem Nw (ts:List af) (q:ae) (conc:List Nat) (h8:conc.length<=8) (a b:List ai) (ha:a.length<=20):(jg ts q conc a b).length<=340:=by
 have hp:(bX a).length<=20:=Q4 (by have:=uw a []; simpa [bX] using this) ha;unfold jg;have key:∀ l:List (Nat × aW),(l.flatMap fun x=>dL ts q conc x.2 b).length<=17*l.length:=by
  intro l
  induction l with
  | nil => simp
  | cons x l ih =>
   rw[QA,QT,Q5];have:=(yH ts q conc x.2 b h8).2;omega
 exact Q4 (key _) (by omega)
theorem dn.old {W0:World} {f:aB} {ts:List af} {q:ae} {X M:Nat->Prop} {w:World} {sb:Nat} {L:qj} {σ:fe} (h:dn W0 f ts q X M w sb L σ) {k:Nat} (hk:k<σ.groups.length) {p:ai} (hp:p∈σ.groups.getD k []) {y:Nat × aW} (hy:p.2=some y):L.A k y.1<w.heap.size:=((h.kU k hk).1.tree p hp y hy).lt
theorem abY {W0:World} {f:aB} {ts:List af} {q:ae} (E:Env f ts q W0) {X M:Nat->Prop} {w:World} {sb:Nat} {L:qj} {σ:fe} (h:dn W0 f ts q X M w sb L σ) (hc:nU q σ) (hal:σ.ak.length<=900000) (i:Nat) (hi:i<q.src.xs.length) :
  Calls Tryz.prog 76 #[.pointer (some (aD sb 0)),.agg #[.int .u64 ((2 ^ i:Nat):Int),.int .u64 0]] w fun e w'=>(∃ v,e=.returned v)/\bQ W0 f ts q X M w sb (sW aV ts q (aA ts q) (2 ^ i,0) σ) w':=by
 obtain⟨v0,v1,v2,v3,v4,v5,v6,v7,v8,v9,v10,v11,v12,dw,-⟩:=Z8 f ts q;have h5:=E.five;have akn:2 ^ i<2 ^ q.src.xs.length:=ZW (by omega) hi;have agi:2 ^ q.src.xs.length<=32:=QZ (n:=2) (by omega) h5;have HD:Hid (sW aV ts q (aA ts q) (2 ^ i,0) σ=eH aV ts q (2 ^ i) [dZ ts q (aA ts q) (i:Int)] σ):=by
  show _=_
  unfold sW;rw[Qr rfl,AJ i (by omega)]
 have hsc:=yt ts q (conc:=aA ts q) (ZQ ts q) (s:=(i:Int)) (by omega) (by omega);have hpos:0<2 ^ i:=Nat.pow_pos (by omega);have hrl:0<(ib (2 ^ i)).length/\(ib (2 ^ i)).length<=64:=by
  refine⟨?_,Wl _⟩;have:i=0∨i=1∨i=2∨i=3∨i=4:=by omega
  rcases this with rfl | rfl | rfl | rfl | rfl <;> decide
 have Ir:Hid (∀ x,Calls Tryz.prog 129 #[.int .u64 ((2 ^ i:Nat):Int)] x fun e w'=>∃ v,e=.returned v/\w'.ownsRow x.heap.size 3 1 v (ib (2 ^ i)).length ((ib (2 ^ i)).map (Value.int .i64))/\Below x.heap.size x w'):=fun x=>Af (2 ^ i) (by omega) x
 have Ob:=Zh (AJ i (by omega));have HSC:Hid (∀ x,Below w.heap.size w x->Calls Tryz.prog 128 #[.agg #[v0,v1,v2,v3,v4,v5,v6,v7,v8,v9,v10,v11,v12],.int .i64 (i:Int)] x (bF 120 (fun b=>¬ X b) x (dZ ts q (aA ts q) (i:Int)))):=fun x hx=>by
  rw[<- dw];exact Jc E (h.hz.next hx) (i:Int) (by omega) (by omega)
 have J7:Hid (∀ (x:World) (c r:Nat),Below w.heap.size w x->w.heap.size<=r->w.heap.size<=c->x.cell? (aD c 0)=some (.pointer (some (aD r 0)))->aC 120 (fun b=>¬ X b) x r (dZ ts q (aA ts q) (i:Int))->Calls Tryz.prog 127 #[.pointer (some (aD sb 0)),.int .u64 ((2 ^ i:Nat):Int),.slice (some (aD c 0)) 1 1] x fun e w'=>(∃ v,e=.returned v)/\bQ W0 f ts q X M x sb (sW aV ts q (aA ts q) (2 ^ i,0) σ) w'):=fun x c r hx hr hcc hcell ht=>by
  rw[HD.out];exact DI E (h.below hx) hc hal (2 ^ i) akn (some (aD c 0)) 1 [(r,dZ ts q (aA ts q) (i:Int))] ⟨by simp,fun j hj=>⟨c,0,rfl,by
   have:j=0:=by simpa using hj
   subst this;exact hcell⟩⟩ (fun a e hm=>by injection e with e; rw[<- e] at hm; have:=(h.lt (h.sub _ hm)).2; show False; exact absurd hcc (by show ¬ w.heap.size<=c; have h2:c<w.heap.size:=this; omega)) (fun y hy=>by rw[QY] at hy; rw[hy]; exact ht) (by simp) (fun k hk p hp y hy hm=>by
    rw[List.map_singleton,QY] at hm;have:=h.old hk hp hy;omega) (by simp) (fun y hy=>by rw[QY] at hy; rw[hy]; exact⟨hsc.1,hsc.2.1,by have:=hsc.2.2; show (dZ ts q (aA ts q) (i:Int)).ns.length+3<=5*2 ^ i; omega⟩)
 have HAT:=Zh h;have Kj:=Zh dw;have Ny:=h.blk;rw[dw] at Ny;have Ya:Hid (∀ b,w.heap.size<=b->¬ M b):=fun b hb hm=>by have:=(h.lt (h.sub _ hm)).2; omega
 have hIS:∀ x,Calls Tryz.prog 126 #[.agg #[.int .u64 ((2 ^ i:Nat):Int),.int .u64 0]] x fun e w'=>e=.returned (.bool true)/\Below x.heap.size x w':=fun x=>uA (2 ^ i) 0 x
 clear h hc hal hi h5 akn agi HD hsc hpos E dw;generalize sW aV ts q (aA ts q) (2 ^ i,0) σ=DN at *;generalize dZ ts q (aA ts q) (i:Int)=ST at *;generalize ib (2 ^ i)=RL at *;obtain⟨tl,htl⟩:∃ n,n=2 ^ i:=⟨_,rfl⟩
 rw[<- htl] at Ir J7 hIS ⊢;clear htl;obtain⟨T,hT⟩:∃ T,T=kM L σ:=⟨_,rfl⟩
 rw[<- hT] at Ny;have oO:=Zh Ny;clear Ny hT;obtain⟨w1,hw1,hb1,hx1⟩:=bu w #[.int .u64 (tl:Int),.int .u64 0] 143;obtain⟨t0,t1⟩:=hx1.k2;have HB1:=Zh hb1;have pR:=Zh (oO.out.keep (Q9 (s:=fun b=>b<w.heap.size) hb1 (fun _ h _=>h)) oO.out.lt);have Yb:=hIS w1;clear hb1 hx1 hIS;go_enter Tryz.func76,Tryz.ntmps76;go_wp2_with fail;refine Yb.mono ?_;rintro e w2 ⟨rfl,hb2⟩;clear Yb hw1;have s0:=cB hb2 t0;have HB2:=Zh (aG HB1.out hb2);have HG2:=Zh (pR.out.keep (Q9 (s:=fun b=>b<w1.heap.size) hb2 (fun _ h _=>h)) pR.out.lt);clear hb2 t0 t1;go_wp2_with fail;refine QL (S:=fun x=>Kept (fun b=>¬ M b) w2 x/\∃ T,GB x sb 102 (#[v0,v1,v2,v3,v4,v5,v6,v7,v8,v9,v10,v11,v12]++T)) (by kernel_rfl) ⟨Q9 ((Qp w2.heap.size w2).drew) (fun _ hl _=>hl),_,HG2.out⟩ (fun hS=>?_);refine wt 0 (.pointer (some (aD sb 0))) hS ?_;refine wt 1 (.pointer (some (aD w.heap.size 0))) hS ?_;refine wT 2 (.int .u64 (tl:Int)) hS (fun x hx=>?_) ?_
 ·have e0:=XP hx.1 s0 (Ya.out _ (Qq _));go_simp
 refine wt 3 (.pointer (some (aD sb 0))) hS ?_;refine wt 4 (.pointer (some (aD sb 0))) hS ?_;refine wt 5 (.pointer (some (aD sb 0))) hS ?_;refine wT 6 (.agg #[v0,v1,v2,v3,v4,v5,v6,v7,v8,v9,v10,v11,v12]) hS (fun x hx=>?_) ?_
 ·obtain⟨T2,zq⟩:=hx.2;obtain⟨e0,e1,e2,e3,e4,e5,e6,e7,e8,e9,e10,e11,e12⟩:=OT zq;go_simp
 refine wt 7 (.pointer (some (aD w.heap.size 0))) hS ?_;refine wT 8 (.int .u64 (tl:Int)) hS (fun x hx=>?_) ?_
 ·have e0:=XP hx.1 s0 (Ya.out _ (Qq _));go_simp
 refine wR 9 fun K hK=>?_
 go_simp;refine Z7 (Ir.out _) ?_;rintro e w3 ⟨v,rfl,hv,hb3⟩;have Tm:=(Qp w2.heap.size w2).drew.trans hb3;obtain⟨iv,oh,nG,iX,-⟩:=fO hv (by omega);obtain⟨ja,jc,jx⟩:=iv;simp only[ah.val] at oh nG iX;subst nG;subst oh;obtain⟨jb,awZ,rfl,hjc⟩:=Qf iX.2 hrl.1;have j0:=hjc 0 hrl.1;rw[ZU,Ob.out] at j0;have wK:=Zh (HG2.out.keep (Q9 (s:=fun b=>b<w2.heap.size) Tm (fun _ h _=>h)) HG2.out.lt);refine hK.out _ _ ⟨Q9 Tm (fun _ h _=>h),_,wK.out⟩ (fun hS=>?_);clear hK K hv iX hjc;refine wR 10 fun K hK=>?_
 go_simp;refine hK.out _ _ hS fun hS=>?_
 clear hK K;refine wR 11 fun K hK=>?_
 go_simp;refine hK.out _ _ hS fun hS=>?_
 clear hK K;refine wR 12 fun K hK=>?_
 go_simp;refine Z7 (HSC.out _ (aG HB2.out Tm)) ?_;rintro e w4 ⟨r,rfl,hTr,hr1,hr2,hb4⟩;have kL:=aG Tm hb4;refine hK.out _ _ ⟨Q9 kL (fun _ h _=>h),_,HG2.out.keep (Q9 (s:=fun b=>b<w2.heap.size) kL (fun _ h _=>h)) HG2.out.lt⟩ (fun hS=>?_);clear hK K;refine wR 13 fun K hK=>?_
 go_simp;obtain⟨w6,kC⟩:∃ x,x=w4.alloc (.cells #[.pointer (some (aD r 0))] 100):=⟨_,rfl⟩
 have Fu:Below w4.heap.size w4 w6:=by rw[kC]; exact bU _ _
 have Yc:=aG kL Fu;have c6:w6.cell? (aD w4.heap.size 0)=some (.pointer (some (aD r 0))):=by rw[kC]; simp
 rw[<- kC];clear kC;have yE:=Zh (aG HB2.out Yc);refine hK.out _ _ ⟨Q9 Yc (fun _ h _=>h),_,HG2.out.keep (Q9 (s:=fun b=>b<w2.heap.size) Yc (fun _ h _=>h)) HG2.out.lt⟩ (fun hS=>?_);clear hK K;refine wR 14 fun K hK=>?_
 go_simp;refine Z7 (J7.out w6 w4.heap.size r yE.out (by have:=HB2.out.size; have:=Tm.size; omega) (by have:=HB2.out.size; have:=kL.size; omega) c6 (hTr.below Fu)) ?_;rintro e w7 ⟨⟨rv,rfl⟩,hp7⟩;have agj:=hp7;obtain⟨L7,X7,M7,hA7,jL,-⟩:=agj;refine hK.out _ _ ⟨(Q9 Yc (fun _ h _=>h)).trans jL,_,by have:=hA7.blk; rw[Kj.out] at this; exact this⟩ (fun hS=>?_);clear hK K hA7 jL c6 Fu Yc hTr hr1 hr2 hb4 kL Tm hb3 j0;refine wD ?_
 try simp only[pV]
 try simp only[pV]
 have HF:Hid (bQ W0 f ts q X M w sb DN w7):=bQ.trans (Q9 yE.out (fun _ h hb=>h)) (fun _ h=>h) (fun _ h=>.inl h) (fun b=>⟨fun h=>.inl h,fun h=>by
  rcases h with h | h
  ·exact h
  ·exact HAT.out.sub b h⟩) hp7
 clear hS hp7 s0;go_wp2;refine Xi (results_none rfl _ _ _) rfl ?_;exact⟨⟨_,rfl⟩,HF.out⟩
