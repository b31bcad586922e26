import Derived.Test.YtlpbelhfpoilpaaGreatDoorRE36
set_option linter.all false
set_option maxRecDepth 100000
set_option maxHeartbeats 16000000
namespace Go.Proofs.Zz
open Go.RowKit Go.Shelf
variable {W0 w w':World} {g:List aj} {f:au} {ts:List af} {q:ae} {M X:Nat->Prop} {s sb:Nat} {σ:iO}
structure rV where
 gs:Nat
 O4:Nat
 gb:Nat->Nat
 IK:Nat->Nat
 A:Nat->Nat->Nat
 os:Nat->List ah
 av:Value
 bD:Nat
 pv:Value
theorem bz.tp{T Tp:TypeId}{F:Nat->Prop}{gb:Nat}{A:Nat->Nat}{os:List ah}(h:bz T Tp F w gb A os g):∃ c,GB w gb Tp c:=by
 obtain⟨c,hc,_⟩:=h.blk;exact⟨c,hc⟩
theorem GB.tp{G:Nat}{t t':TypeId}{c c':Array Value}(h:GB w G t c)(h':GB w G t' c'):t=t':=by
 have e1:w.heap[G]? = some (.cells c t (0,0)):=h;have e2:w.heap[G]? = some (.cells c' t' (0,0)):=h';rw[e1]at e2;injection e2 with e2;injection e2
def mq(L:rV)(σ:iO):Array Value:=#[.slice (some (aD L.gs 0)) σ.groups.length L.O4,L.av,.bool σ.cut,.pointer (some (aD L.bD 0)),L.pv,.int .i64 σ.status]
structure dQ(W0:World)(f:au)(ts:List af)(q:ae)(X M:Nat->Prop)(w:World)(sb:Nat)(L:rV)(σ:iO):Prop where
 hz:Fz (fun b=>¬ X b) W0 w
 sub:∀ b,M b->X b
 msb:M sb
 blk:GB w sb 174 (f.cells ts q++mq L σ)
 Sa:¬ X L.gs
 gsl:L.gs<w.heap.size
 tH:∀ k,k<σ.groups.length->w.cell? (aD L.gs k)=some (.slice (some (aD (L.gb k) 0)) (σ.groups.getD k []).length (L.IK k))
 kT:∀ k,k<σ.groups.length->bz 178 297 (fun b=>¬ X b) w (L.gb k) (L.A k) (L.os k) (σ.groups.getD k [])/\M (L.gb k)/\(σ.groups.getD k []).length<=L.IK k/\L.IK k<=9223372036854775807
 apart:∀ j k,j<σ.groups.length->k<σ.groups.length->L.gb j=L.gb k->j=k
 ag:w.ownsRow W0.heap.size 236 2 L.av σ.ak.length (σ.ak.flatMap dN)
 Sb:∀ b,L.av.ownBlock=some b->M b
 bD:aG 178 (fun b=>¬ X b) w L.bD σ.bD
 pk:w.ownsRow W0.heap.size 3 1 L.pv σ.picks.length (σ.picks.map (Value.int .i64))
 Sc:∀ b,L.pv.ownBlock=some b->M b
def gP(W0:World)(f:au)(ts:List af)(q:ae)(X M:Nat->Prop)(w:World)(sb:Nat)(L':rV)(σ':iO)(w':World):Prop:=
 ∃ X' M',dQ W0 f ts q X' M' w' sb L' σ'/\Kept (fun b=>¬ M b) w w'/\(∀ b,M b->M' b)/\(∀ b,M' b->M b∨w.heap.size<=b)/\(∀ b,X' b↔X b∨M' b)
def bX(W0:World)(f:au)(ts:List af)(q:ae)(X M:Nat->Prop)(w:World)(sb:Nat)(σ':iO)(w':World):Prop:=∃ L',gP W0 f ts q X M w sb L' σ' w'
theorem dQ.lt{L:rV}(h:dQ W0 f ts q X M w sb L σ){b:Nat}(hb:X b):¬ Live W0 b/\b<w.heap.size:=by
 refine⟨fun hl=>h.hz.low b hl hb,Nat.lt_of_not_le fun hl=>h.hz.high b hl hb⟩
theorem dQ.ne{L:rV}(h:dQ W0 f ts q X M w sb L σ):L.av.ownBlock≠some sb/\L.pv.ownBlock≠some sb/\(∀ b,L.av.ownBlock=some b->L.pv.ownBlock≠some b)/\∀ k,k<σ.groups.length->L.gb k≠sb/\L.av.ownBlock≠some (L.gb k)/\L.pv.ownBlock≠some (L.gb k):=by
 refine⟨iB h.ag h.blk (by decide),iB h.pk h.blk (by decide),fun b e=>?_,fun k hk=>?_⟩
 ·obtain⟨cur,hc⟩:=lQ h.ag e;exact iB h.pk (show GB w b _ cur from hc) (by decide)
 ·obtain⟨c,hc⟩:=(h.kT k hk).1.tp;exact⟨fun e=>by have:=GB.tp hc (e ▸ h.blk); exact absurd this (by decide),iB h.ag hc (by decide),iB h.pk hc (by decide)⟩
theorem dQ.next{L:rV}(h:dQ W0 f ts q X M w sb L σ)(hk:Kept (fun b=>b≠sb/\L.av.ownBlock≠some b/\L.pv.ownBlock≠some b) w w'){av pv:Value}{ag:List bG}{pk:List Int}{st:Int}
  (hblk:GB w' sb 174 (f.cells ts q++mq { L with av:=av,pv:=pv } { σ with ak:=ag,picks:=pk,status:=st }))
  (hag:w'.ownsRow W0.heap.size 236 2 av ag.length (ag.flatMap dN)) (hav:av.ownBlock=L.av.ownBlock∨∃ g,av.ownBlock=some g/\w.heap.size<=g)
  (hpk:w'.ownsRow W0.heap.size 3 1 pv pk.length (pk.map (Value.int .i64))) (hpv:pv.ownBlock=L.pv.ownBlock∨∃ g,pv.ownBlock=some g/\w.heap.size<=g) :
  gP W0 f ts q X M w sb { L with av:=av,pv:=pv } { σ with ak:=ag,picks:=pk,status:=st } w':=by
 have alR:∀ b,b<w.heap.size->¬ X b->av.ownBlock≠some b/\pv.ownBlock≠some b:=fun b hl hX=>by
  refine⟨fun e=>?_,fun e=>?_⟩
  ·rcases hav with h1 | ⟨g,h1,hg⟩
   ·exact hX (h.sub _ (h.Sb b (h1 ▸ e)))
   ·rw[h1]at e; injection e with e; omega
  ·rcases hpv with h1 | ⟨g,h1,hg⟩
   ·exact hX (h.sub _ (h.Sc b (h1 ▸ e)))
   ·rw[h1]at e; injection e with e; omega
 have hmono:∀ b,b<w.heap.size->¬ X b->¬ (X b∨av.ownBlock=some b∨pv.ownBlock=some b):=fun b hl hX h0=>by
  rcases h0 with h0 | h0 | h0
  ·exact hX h0
  ·exact(alR b hl hX).1 h0
  ·exact(alR b hl hX).2 h0
 have hkX:Kept (fun b=>¬ (X b∨av.ownBlock=some b∨pv.ownBlock=some b)) w w':=hk.mono fun b _ hb=>⟨fun e=>hb (.inl (e ▸ h.sub _ h.msb)),fun e=>hb (.inl (h.sub _ (h.Sb b e))),fun e=>hb (.inl (h.sub _ (h.Sc b e)))⟩
 have hfresh:∀ b,(av.ownBlock=some b∨pv.ownBlock=some b)->M b∨w.heap.size<=b:=fun b e=>by
  rcases e with e | e
  ·rcases hav with h1 | ⟨g,h1,hg⟩
   ·exact .inl (h.Sb b (h1 ▸ e))
   ·rw[h1]at e; injection e with e; exact .inr (by omega)
  ·rcases hpv with h1 | ⟨g,h1,hg⟩
   ·exact .inl (h.Sc b (h1 ▸ e))
   ·rw[h1]at e; injection e with e; exact .inr (by omega)
 have hnew:∀ b,(av.ownBlock=some b∨pv.ownBlock=some b)->W0.heap.size<=b/\b<w'.heap.size:=fun b e=>by
  rcases e with e | e
  ·exact ZO hag e
  ·exact ZO hpk e
 have hne:=h.ne;refine⟨fun b=>X b∨av.ownBlock=some b∨pv.ownBlock=some b,fun b=>M b∨av.ownBlock=some b∨pv.ownBlock=some b,⟨⟨?_,fun b hb h0=>?_,fun b hb h0=>?_⟩,fun b hb=>?_,.inl h.msb,hblk,hmono _ h.gsl h.Sa,Q6 h.gsl hk.size,fun k hkk=>?_,fun k hkk=>?_,h.apart,hag,fun b e=>.inr (.inl e),(h.bD.mono hmono).aX hkX,hpk,fun b e=>.inr (.inr e)⟩,?_,fun b hb=>.inl hb,fun b hb=>?_,fun b=>?_⟩
 ·exact h.hz.below.kept hk fun b hb=>⟨fun e=>(h.lt (h.sub _ h.msb)).1 (e ▸ hb),fun e=>(h.lt (h.sub _ (h.Sb b e))).1 hb,fun e=>(h.lt (h.sub _ (h.Sc b e))).1 hb⟩
 ·rcases h0 with h0 | h0
  ·exact h.hz.low b hb h0
  ·have:=(hnew b h0).1; have:=hb.lt; omega
 ·rcases h0 with h0 | h0
  ·exact h.hz.high b (Zl hk.size hb) h0
  ·have:=(hnew b h0).2; omega
 ·rcases hb with hb | hb
  ·exact .inl (h.sub b hb)
  ·exact .inr hb
 ·refine X0 hk (h.tH k hkk) ⟨fun e=>h.Sa (e ▸ h.sub _ h.msb),fun e=>h.Sa (h.sub _ (h.Sb _ e)),fun e=>h.Sa (h.sub _ (h.Sc _ e))⟩
 ·obtain⟨h1,h2,h3⟩:=h.kT k hkk;refine⟨(h1.mono hmono).aX (hk.mono fun b _ hb=>?_),.inl h2,h3⟩;rcases hb with hb | hb
  ·exact⟨fun e=>hb (.inl (e ▸ h.sub _ h.msb)),fun e=>hb (.inl (h.sub _ (h.Sb b e))),fun e=>hb (.inl (h.sub _ (h.Sc b e)))⟩
  ·rw[hb];exact hne.2.2.2 k hkk
 ·exact hk.mono fun b _ hb=>⟨fun e=>hb (e ▸ h.msb),fun e=>hb (h.Sb b e),fun e=>hb (h.Sc b e)⟩
 ·rcases hb with hb | hb
  ·exact .inl hb
  ·exact hfresh b hb
 ·exact⟨fun h0=>by
   rcases h0 with h0 | h0
   ·exact .inl h0
   ·exact .inr (.inr h0),fun h0=>by
   rcases h0 with h0 | h0 | h0
   ·exact .inl h0
   ·exact .inl (h.sub b h0)
   ·exact .inr h0⟩
theorem gP.trans{w1 w2:World}{L2:rV}{σ2:iO}{X1 M1:Nat->Prop}(hk:Kept (fun b=>¬ M b) w w1)(h1:∀ b,M b->M1 b)(h2:∀ b,M1 b->M b∨w.heap.size<=b)(h3:∀ b,X1 b↔X b∨M1 b)(h:gP W0 f ts q X1 M1 w1 sb L2 σ2 w2):gP W0 f ts q X M w sb L2 σ2 w2:=by
 obtain⟨X2,M2,hA,hk2,g1,g2,g3⟩:=h;refine⟨X2,M2,hA,hk.trans' hk2 (fun b hl hb h0=>?_),fun b hb=>g1 b (h1 b hb),fun b hb=>?_,fun b=>?_⟩
 ·rcases h2 b h0 with h0 | h0
  ·exact hb h0
  ·omega
 ·rcases g2 b hb with h0 | h0
  ·exact h2 b h0
  ·exact .inr (Zl hk.size h0)
 ·rw[g3,h3];exact⟨fun h0=>by
   rcases h0 with (h0 | h0) | h0
   ·exact .inl h0
   ·exact .inr (g1 b h0)
   ·exact .inr h0,fun h0=>by
   rcases h0 with h0 | h0
   ·exact .inl (.inl h0)
   ·exact .inr h0⟩
theorem dQ.post{L:rV}(h:dQ W0 f ts q X M w' sb L σ)(hk:Kept (fun b=>¬ M b) w w'):gP W0 f ts q X M w sb L σ w':=
 ⟨X,M,h,hk,fun _ h=>h,fun _ h=>.inl h,fun b=>⟨fun h0=>.inl h0,fun h0=>by
  rcases h0 with h0 | h0
  ·exact h0
  ·exact h.sub b h0⟩⟩
theorem bX.trans{W0:World}{f:au}{ts:List af}{q:ae}{X M:Nat->Prop}{w w1 w2:World}{sb:Nat}{σ2:iO}{X1 M1:Nat->Prop}(hk:Kept (fun b=>¬ M b) w w1)(h1:∀ b,M b->M1 b)(h2:∀ b,M1 b->M b∨w.heap.size<=b)(h3:∀ b,X1 b↔X b∨M1 b)(h:bX W0 f ts q X1 M1 w1 sb σ2 w2):bX W0 f ts q X M w sb σ2 w2:=h.imp fun _ h=>gP.trans hk h1 h2 h3 h
theorem dQ.below{W0:World}{f:au}{ts:List af}{q:ae}{X M:Nat->Prop}{w w':World}{sb:Nat}{L:rV}{σ:iO}(h:dQ W0 f ts q X M w sb L σ)(hb:Bw w w'):dQ W0 f ts q X M w' sb L σ where
 hz:=h.hz.next hb
 sub:=h.sub
 msb:=h.msb
 blk:=h.blk.keep (Zo (s:=fun b=>b<w.heap.size) hb (fun _ h _=>h)) h.blk.lt
 Sa:=h.Sa
 gsl:=Q6 h.gsl hb.size
 tH:=fun k hk=>cB hb (h.tH k hk)
 kT:=fun k hk=>⟨(h.kT k hk).1.below hb,(h.kT k hk).2⟩
 apart:=h.apart
 ag:=Xh h.ag hb
 Sb:=h.Sb
 bD:=h.bD.below hb
 pk:=Xh h.pk hb
 Sc:=h.Sc
theorem dQ.other{N N' X':Nat->Prop}{L:rV}(h:dQ W0 f ts q X M w sb L σ)(hN:∀ b,N b->X b)(hd:∀ b,M b->¬ N b)(hk:Kept (fun b=>¬ N b) w w')(hf:∀ b,N' b->N b∨w.heap.size<=b)(hX:∀ b,X' b↔X b∨N' b)(hl:∀ b,N' b->b<w'.heap.size)(h0:∀ b,N' b->W0.heap.size<=b):dQ W0 f ts q X' M w' sb L σ:=by
 have hmono:∀ b,b<w.heap.size->¬ X b->¬ X' b:=fun b hlt hb hx=>by
  rcases (hX b).1 hx with hx | hx
  ·exact hb hx
  ·rcases hf b hx with hx | hx
   ·exact hb (hN b hx)
   ·omega
 have hkX:Kept (fun b=>¬ X' b) w w':=hk.mono fun b _ hb hn=>hb ((hX b).2 (.inl (hN b hn)))
 refine⟨⟨h.hz.below.kept hk fun b hb hn=>h.hz.low b hb (hN b hn),fun b hb hx=>?_,fun b hb hx=>?_⟩,fun b hb=>(hX b).2 (.inl (h.sub b hb)),h.msb,h.blk.keep hk (hd _ h.msb),hmono _ h.gsl h.Sa,Q6 h.gsl hk.size,fun k hkk=>X0 hk (h.tH k hkk) (fun hn=>h.Sa (hN _ hn)),fun k hkk=>?_,h.apart,ZN h.ag hk (fun g e=>hd g (h.Sb g e)),h.Sb,(h.bD.mono hmono).aX hkX,ZN h.pk hk (fun g e=>hd g (h.Sc g e)),h.Sc⟩
 ·rcases (hX b).1 hx with hx | hx
  ·exact h.hz.low b hb hx
  ·have:=h0 b hx; have:=hb.lt; omega
 ·rcases (hX b).1 hx with hx | hx
  ·exact h.hz.high b (Zl hk.size hb) hx
  ·have:=hl b hx; omega
 ·obtain⟨h1,h2,h3⟩:=h.kT k hkk;refine⟨(h1.mono hmono).aX (hk.mono fun b _ hb hn=>?_),h2,h3⟩;rcases hb with hb | hb
  ·exact hb ((hX b).2 (.inl (hN b hn)))
  ·exact hd _ h2 (hb ▸ hn)
theorem dQ.group{L:rV}(h:dQ W0 f ts q X M w sb L σ)(hs:s<σ.groups.length)(hk:Kept (fun b=>b≠L.gb s) w w'){A':Nat->Nat}{g':List aj}(hg:bz 178 297 (fun b=>¬ X b) w' (L.gb s) A' (L.os s) g')(hl:g'.length=(σ.groups.getD s []).length) :
  dQ W0 f ts q X M w' sb { L with A:=fun k=>if k=s then A' else L.A k } { σ with groups:=σ.groups.set s g' }:=by
 have hne:=h.ne;have Yg:=h.sub _ (h.kT s hs).2.1;have hgl:∀ k,((σ.groups.set s g').getD k []).length=(σ.groups.getD k []).length:=fun k=>by
  rw[jQ];split
  ·rename_i e
   rw[<- e.1];exact hl
  ·rfl
 have Y8:(σ.groups.set s g').length=σ.groups.length:=XO ..;refine⟨⟨h.hz.below.kept hk fun b hb e=>(h.lt Yg).1 (e ▸ hb),h.hz.low,fun b hb=>h.hz.high b (Zl hk.size hb)⟩,h.sub,h.msb,?_,h.Sa,Q6 h.gsl hk.size,fun k hkk=>?_,fun k hkk=>?_,fun j k hj hkk e=>?_,ZN h.ag hk (fun g e hg=>(hne.2.2.2 s hs).2.1 (hg ▸ e)),h.Sb,h.bD.aX (hk.mono fun b _ hb e=>hb (e ▸ Yg)),ZN h.pk hk (fun g e hg=>(hne.2.2.2 s hs).2.2 (hg ▸ e)),h.Sc⟩
 ·have:=h.blk.keep hk (fun e=>(hne.2.2.2 s hs).1 e.symm);have e:mq { L with A:=fun k=>if k=s then A' else L.A k } { σ with groups:=σ.groups.set s g' } = mq L σ:=by
   unfold mq;simp only;rw[Y8]
  rw[e];exact this
 ·show w'.cell? _=some (.slice _ ((σ.groups.set s g').getD k []).length _)
  rw[hgl k];exact X0 hk (h.tH k (by rw[<- Y8]; exact hkk)) (fun e=>h.Sa (e ▸ Yg))
 ·have ado:k<σ.groups.length:=by rw[<- Y8]; exact hkk
  obtain⟨h1,h2,h3⟩:=h.kT k ado
  show bz _ _ _ _ (L.gb k) (if k=s then A' else L.A k) (L.os k) ((σ.groups.set s g').getD k [])/\M (L.gb k)/\((σ.groups.set s g').getD k []).length<=L.IK k/\L.IK k<=9223372036854775807
  rw[hgl k];refine⟨?_,h2,h3⟩;by_cases e:k=s
  ·subst e;rw[Qy rfl,jQ,Qy ⟨rfl,hs⟩];exact hg
  ·rw[Qz e,jQ,Qz (fun h0=>e h0.1.symm)];refine h1.aX (hk.mono fun b _ hb e'=>?_);rcases hb with hb | hb
   ·exact hb (e' ▸ Yg)
   ·exact e (h.apart k s ado hs (hb.symm.trans e'))
 ·exact h.apart j k (by rw[<- Y8]; exact hj) (by rw[<- Y8]; exact hkk) e
theorem dQ.better{L:rV}(h:dQ W0 f ts q X M w sb L σ)(hk:Kept (fun b=>b≠sb) w w'){b':Nat}{t:aQ}(hblk:GB w' sb 174 (f.cells ts q++mq { L with bD:=b' } { σ with bD:=t }))(ht:aG 178 (fun b=>¬ X b) w' b' t) :
  dQ W0 f ts q X M w' sb { L with bD:=b' } { σ with bD:=t }:=by
 have hne:=h.ne;have Yg:=h.sub _ h.msb;refine⟨⟨h.hz.below.kept hk fun b hb e=>(h.lt Yg).1 (e ▸ hb),h.hz.low,fun b hb=>h.hz.high b (Zl hk.size hb)⟩,h.sub,h.msb,hblk,h.Sa,Q6 h.gsl hk.size,fun k hkk=>X0 hk (h.tH k hkk) (fun e=>h.Sa (e ▸ Yg)),fun k hkk=>⟨(h.kT k hkk).1.aX (hk.mono fun b _ hb e=>?_),(h.kT k hkk).2⟩,h.apart,ZN h.ag hk (fun g e hg=>hne.1 (hg ▸ e)),h.Sb,ht,ZN h.pk hk (fun g e hg=>hne.2.1 (hg ▸ e)),h.Sc⟩;rcases hb with hb | hb
 ·exact hb (e ▸ Yg)
 ·exact(hne.2.2.2 k hkk).1 (hb ▸ e)
theorem Lf(rk:Nat->Int)(s:Nat)(gs:List (List aj))(a:List bG)(k:Nat):(List.range (k+1)).foldl (jy rk s gs) a=jy rk s gs ((List.range k).foldl (jy rk s gs) a) k:=by
 rw[Q9,QZ];rfl
theorem lZ.small{n:Nat}{gs:List (List aj)}{t:bG}(h:lZ n gs t)(hn:n<=5)(hg:gs.length<=31):t.1<32/\t.2<32:=by
 rcases h with⟨h0,i,hi,e⟩ | ⟨_,h1,h2,_⟩
 ·rw[h0,e];have:i=0∨i=1∨i=2∨i=3∨i=4:=by omega
  rcases this with rfl | rfl | rfl | rfl | rfl <;> decide
 ·omega
theorem Pj:(bL g).isSome=(g.getD 0 oh).2.isSome:=by
 match g with
 | [] => rfl
 | (_,none)::_ => rfl
 | (_,some _)::_ => rfl
theorem afq(f:au)(ts:List af)(q:ae)(L:rV)(σ:iO):(f.cells ts q++mq L σ)[14]? = some L.av:=by
 obtain⟨v0,v1,v2,v3,v4,v5,v6,v7,v8,v9,v10,v11,v12,bB,-⟩:=Xu f ts q;rw[bB];rfl
theorem aag(f:au)(ts:List af)(q:ae)(L:rV)(σ:iO)(av:Value):(f.cells ts q++mq L σ).setIfInBounds 14 av=f.cells ts q++mq { L with av:=av } σ:=by
 obtain⟨v0,v1,v2,v3,v4,v5,v6,v7,v8,v9,v10,v11,v12,bB,-⟩:=Xu f ts q;rw[bB];rfl
theorem Pk{L:rV}(h:dQ W0 f ts q X M w sb L σ)(s:Nat)(hs:s<32)(hgl:σ.groups.length<=31)(hg0:∀ k,k<σ.groups.length->0<(σ.groups.getD k []).length)(ha:∀ t∈σ.ak,t.1<32/\t.2<32)(hal:σ.ak.length<=900000) :
  Calls Tryz.prog 306 #[.pointer (some (aD sb 0)),.int .u64 (s:Int)] w fun e w'=>(∃ v,e=.returned v)/\bX W0 f ts q X M w sb { σ with ak:=oJ bA s σ.groups σ.ak } w':=by
 obtain⟨v0,v1,v2,v3,v4,v5,v6,v7,v8,v9,v10,v11,v12,bB,-⟩:=Xu f ts q;obtain⟨AK,hAK⟩:∃ A:Nat->List bG,A=fun k=>(List.range k).foldl (jy bA s σ.groups) σ.ak:=⟨_,rfl⟩
 have HST:Hid (∀ k,AK (k+1)=jy bA s σ.groups (AK k) k):=fun k=>by rw[hAK]; exact Lf _ _ _ _ _
 have HE:Hid (AK σ.groups.length=oJ bA s σ.groups σ.ak):=by show _=_; rw[hAK]; rfl
 have AX:Hid (∀ k,k<=σ.groups.length->(∀ t∈AK k,t.1<32/\t.2<32)/\(AK k).length<=901000):=fun k hk=>by
  rw[hAK];refine⟨fun t ht=>?_,?_⟩
  ·rcases vX _ _ _ ht with h1 | ⟨j,hj,_,_,h1⟩
   ·exact ha t h1
   ·have:=Xq.1 hj;rcases h1 with rfl | rfl
    ·exact⟨hs,by show j<32; omega⟩
    ·exact⟨by show j<32; omega,hs⟩
  ·refine Zl (vY _ _ _ _ _) ?_;rw[Zd];omega
 have HP0:Hid (gP W0 f ts q X M w sb { L with av:=L.av } { σ with ak:=AK 0 } w):=by rw[hAK]; exact h.post (Zn _ _)
 have c13:w.cell? (aD sb 13)=some (.slice (some (aD L.gs 0)) σ.groups.length L.O4):=by
  have:=h.blk.cell 13;rw[bB]at this;exact this
 have HG0:=Zh hg0;have HMT:Hid (∀ (k:Nat) (x:World),k<32->Ce 265 #[.int .u64 (k:Int),.int .u64 (s:Int)] x (.bool (decide (k &&& s≠0)))):=fun k x hk=>Fj k s (by omega) (by omega) x
 have HS:=Zh hs;have hgn:=hgl;obtain⟨gl,alV⟩:∃ n,n=σ.groups.length:=⟨_,rfl⟩
 rw[<- alV]at hgl hgn HE AX c13 HG0;have ar4:=Zh alV;go_enter Tryz.func306,Tryz.ntmps306;go_wp2;go_loopw [12] (fun iv wr=>∃ (k:Nat) (av:Value),k<=gl/\iv=.int .i64 (k:Int)/\Hid (gP W0 f ts q X M w sb { L with av:=av } { σ with ak:=AK k } wr)) (fun iv _=>gl-(intOf iv).toNat)
 case atStart=>exact⟨0,L.av,Q8 _,rfl,HP0.o⟩
 case round=>
  obtain⟨k,av,hk,rfl,HP⟩:=hrel;by_cases hlt:k<gl
  ·obtain⟨X1,M1,hA1,hk1,h11,h12,h13⟩:=HP.o;have hkg:k<σ.groups.length:=by rw[<- ar4.o]; exact hlt
   have hgc:wr.cell? (aD L.gs k)=some (.slice (some (aD (L.gb k) 0)) (σ.groups.getD k []).length (L.IK k)):=hA1.tH k hkg;obtain⟨hG1,-⟩:=hA1.kT k hkg;have Wm:=qW hG1 (HG0.o k hlt) (L.IK k);change Calls Tryz.prog 348 #[.slice (some (aD (L.gb k) 0)) (σ.groups.getD k []).length (L.IK k)] wr (fun e w'=>e=.returned (GV (L.A k) ((σ.groups.getD k []).getD 0 oh).2)/\w' = wr) at Wm;have hre:=HST.o k;unfold jy at hre;rw[Pj]at hre;have HA1:=Zh hA1;have KZ:Hid (Kept (fun b=>¬ M b) w wr/\(∀ b,M b->M1 b)/\(∀ b,M1 b->M b∨w.heap.size<=b)/\(∀ b,X1 b↔X b∨M1 b)):=⟨hk1,h11,h12,h13⟩
   have hMT:=HMT.o k wr (by omega);have hcv:IntKind.u64.wrap (k:Int)=(k:Int):=by rw[IntKind.wrap_u64]; omega
   generalize (σ.groups.getD k []).length=ggl at *;generalize L.IK k=ggc at *;generalize L.gb k=ggb at *
   cases hy:((σ.groups.getD k []).getD 0 oh).2 with
   | none =>
    rw[hy]at Wm hre;have oz:Hid (AK (k+1)=AK k):=hre;change Calls _ _ _ wr (fun e w'=>e=.returned (.pointer none)/\w' = wr) at Wm;go_wp2_with fail;refine Wm.mono ?_;rintro e wz ⟨rfl,hwz⟩;have pI:=hwz.symm;subst pI;go_wp2;go_roundw
    case rel=>exact⟨k+1,av,by omega,by go_num,by show gP _ _ _ _ _ _ _ _ _ _ _; rw[oz.o]; exact HP.o⟩
    case measure=>simp[intOf]; omega
   | some y =>
    rw[hy]at Wm hre;change Calls _ _ _ wr (fun e w'=>e=.returned (.pointer (some (aD (L.A k y.1) 0)))/\w' = wr) at Wm;generalize L.A k y.1=yp at *;by_cases hks:k &&& s=0
    ·have oz:Hid (AK (k+1)=[(s,k),(k,s)].foldl (jl bA) (AK k)):=by
      show _=_
      rw[hre,QD hks];rfl
     rw[Ql (by simpa using hks)]at hMT;obtain⟨w1,hw1,hb1,hx1⟩:=aU wr #[.int .u64 (s:Int),.int .u64 (k:Int),.int .u64 (k:Int),.int .u64 (s:Int)] 236;have hA2:=HA1.o.below hb1;have alW:=AX.o k hk;have FH:=KY sb W0.heap.size _ av (AK k) [(s,k),(k,s)] (some (aD wr.heap.size 0)) 2 w1 hA2.blk (afq f ts q _ _) hA2.ag hA2.hz.below.size ⟨by simp,fun i hi=>⟨wr.heap.size,0,rfl,by
      rw[QQ];have hi':i<2:=hi
      match i,hi' with
      | 0,_ => exact⟨hx1.cell 0,hx1.cell 1⟩
      | 1,_ => exact⟨hx1.cell 2,hx1.cell 3⟩⟩⟩ (fun a e => by
       injection e with e;rw[<- e];exact show wr.heap.size≠sb/\av.ownBlock≠some wr.heap.size from ⟨fun e'=>by have:=HA1.o.blk.lt; omega,fun e'=>by have:=(ZO HA1.o.ag e').2; omega⟩) (by have:=alW.2; simp; omega) alW.1 (fun t ht=>by
       have alX:=HS.o;rcases Q4.1 ht with rfl | ht
       ·exact⟨alX,by show k<32; omega⟩
       ·rw[ZR]at ht;rw[ht];exact⟨by show k<32; omega,alX⟩)
     have HB1:=Zh hb1;go_wp2_with fail;refine Wm.mono ?_;rintro e wz ⟨rfl,hwz⟩;have pI:=hwz.symm;subst pI;go_wp2_with fail;refine hMT.mono ?_;rintro e wz ⟨rfl,hwz⟩;have pI:=hwz.symm;subst pI;go_wp2_with fail;refine FH.mono ?_;rintro e w2 ⟨⟨rv,rfl⟩,av2,hg2,ho2,hk2,hv2⟩;have HF:Hid (gP W0 f ts q X M w sb { L with av:=av2 } { σ with ak:=AK (k+1) } w2):=by
      rw[oz.o];have hkk:Kept (fun b=>b≠sb/\av.ownBlock≠some b/\L.pv.ownBlock≠some b) wr w2:=(Zo HB1.o (fun _ h _=>h)).trans (hk2.mono (fun b _ h=>⟨h.1,h.2.1⟩));refine gP.trans KZ.o.1 KZ.o.2.1 KZ.o.2.2.1 KZ.o.2.2.2 (HA1.o.next hkk (av:=av2) (pv:=L.pv) (ag:=[(s,k),(k,s)].foldl (jl bA) (AK k)) (pk:=σ.picks) (st:=σ.status) ?_ ho2 ?_ ?_ (.inl rfl))
      ·have:=hg2;rw[aag]at this;exact this
      ·rcases hv2 with h | ⟨g,h,hg⟩
       ·exact .inl h
       ·exact .inr ⟨g,h,Zl HB1.o.size hg⟩
      ·refine ZN HA1.o.pk ((Zo HB1.o (fun _ h _=>h)).trans hk2) (fun g e=>?_);have hne:=HA1.o.ne;exact⟨fun e'=>hne.2.1 (e' ▸ e),fun e'=>hne.2.2.1 g e' e⟩
     go_wp2;go_roundw
     case rel=>exact⟨k+1,av2,by omega,by go_num,HF.o⟩
     case measure=>simp[intOf]; omega
    ·have oz:Hid (AK (k+1)=AK k):=by
      show _=_
      rw[hre,Ql hks];rfl
     rw[QD (by simpa using hks)]at hMT;go_wp2_with fail;refine Wm.mono ?_;rintro e wz ⟨rfl,hwz⟩;have pI:=hwz.symm;subst pI;go_wp2_with fail;refine hMT.mono ?_;rintro e wz ⟨rfl,hwz⟩;have pI:=hwz.symm;subst pI;go_wp2;go_roundw
     case rel=>exact⟨k+1,av,by omega,by go_num,by show gP _ _ _ _ _ _ _ _ _ _ _; rw[oz.o]; exact HP.o⟩
     case measure=>simp[intOf]; omega
  ·have hkg:gl=k:=by omega
   have HF:Hid (bX W0 f ts q X M w sb { σ with ak:=oJ bA s σ.groups σ.ak } wr):=by
    refine⟨{ L with av:=av },?_⟩;have:=HP.o;rw[<- hkg,HE.o]at this;exact this
   go_wp2;go_end0;exact⟨⟨_,rfl⟩,HF.o⟩
theorem PV(ts:List af)(q:ae)(b:aQ)(l:List aQ){k:Nat}(hk:k<l.length):(l.take (k+1)).foldl (jK ts q) b=jK ts q ((l.take k).foldl (jK ts q) b) (l.getD k mR):=iR _ b l mR hk
theorem dQ.cells{L:rV}(h:dQ W0 f ts q X M w sb L σ){v0 v1 v2 v3 v4 v5 v6 v7 v8 v9 v10 v11 v12:Value}(bB:f.cells ts q=#[v0,v1,v2,v3,v4,v5,v6,v7,v8,v9,v10,v11,v12]):GB w sb 174 #[v0,v1,v2,v3,v4,v5,v6,v7,v8,v9,v10,v11,v12,.slice (some (aD L.gs 0)) σ.groups.length L.O4,L.av,.bool σ.cut,.pointer (some (aD L.bD 0)),L.pv,.int .i64 σ.status]:=by
 have:=h.blk;rw[bB]at this;exact this
theorem Vq(E:Env f ts q W0){L:rV}(h:dQ W0 f ts q X M w sb L σ)(bo:Option Addr)(bc:Nat)(bs:List (Nat × aQ))(hp:dB w bo (bs.map Prod.fst))(hpo:∀ a,bo=some a->a.block≠sb)(hbs:∀ x∈bs,aG 178 (fun b=>¬ X b) w x.1 x.2)(hok:∀ x∈bs,jB q x.2)(hl:bs.length<=1000) :
  Calls Tryz.prog 240 #[.pointer (some (aD sb 0)),.int .u64 ((2 ^ q.src.xs.length-1:Nat):Int),.slice bo bs.length bc] w fun e w'=>(∃ v,e=.returned v)/\∃ L',dQ W0 f ts q X M w' sb L' { σ with bD:=(bs.map Prod.snd).foldl (jK ts q) σ.bD }/\Kept (fun b=>¬ M b) w w':=by
 obtain⟨v0,v1,v2,v3,v4,v5,v6,v7,v8,v9,v10,v11,v12,bB,-,-,-,-,-,-,-,-,hv8,-⟩:=Xu f ts q;have RX:=Zh hp;have J9:=Zh hpo;have wX:Hid ((bs.map Prod.fst).length=bs.length):=Zc _;obtain⟨BK,hBK⟩:∃ B:Nat->aQ,B=fun k=>((bs.map Prod.snd).take k).foldl (jK ts q) σ.bD:=⟨_,rfl⟩
 obtain⟨BD,OG⟩:∃ B:Nat->aQ,B=fun k=>(bs.map Prod.snd).getD k mR:=⟨_,rfl⟩
 have HST:Hid (∀ k,k<bs.length->BK (k+1)=fe (BK k) (eT ts q (BD k))):=fun k hk=>by rw[hBK,OG]; exact PV ts q σ.bD _ (by rw[Zc]; exact hk)
 have HE:Hid (BK bs.length=(bs.map Prod.snd).foldl (jK ts q) σ.bD):=by
  show _=_
  rw[hBK]
  show ((bs.map Prod.snd).take bs.length).foldl _ _=_
  rw[Xl (by rw[Zc]; exact Qx _)]
 have HB0:Hid (BK 0=σ.bD):=by show _=_; rw[hBK]; rfl
 have R3:Hid (∀ k,k<bs.length->aG 178 (fun b=>¬ X b) w ((bs.map Prod.fst).getD k 0) (BD k)/\jB q (BD k)):=fun k hk=>by
  have h1:(bs.map Prod.fst).getD k 0=(bs[k]).1:=by rw[XH,Ze,ZX hk]; rfl
  have h2:BD k=(bs[k]).2:=by rw[OG]; show (bs.map Prod.snd).getD k mR=_; rw[XH,Ze,ZX hk]; rfl
  rw[h1,h2];exact⟨hbs _ (Qp hk),hok _ (Qp hk)⟩
 have OM:Hid (∀ (x:World) (r:Nat) (t:aQ),Fz (fun b=>¬ X b) W0 x->aG 178 (fun b=>¬ X b) x r t->jB q t->Calls Tryz.prog 304 #[.agg #[v0,v1,v2,v3,v4,v5,v6,v7,v8,v9,v10,v11,v12],.pointer (some (aD r 0))] x (jP 178 172 (fun b=>¬ X b) x (eT ts q t))):=fun x r t hx hr ht=>by
  rw[<- bB];exact KH E hx r t hr ht
 have HEL:Hid (∀ t,(eT ts q t).length<=2):=fun t=>by
  unfold eT;split <;> simp
 have HH:Hid (dQ W0 f ts q X M w sb { L with bD:=L.bD } { σ with bD:=BK 0 }):=by rw[HB0.o]; exact h
 have DJ:=Zh bB;have HXS:Hid (∀ b,¬ X b->b≠sb):=fun b hb e=>hb (e ▸ h.sub _ h.msb)
 have HMS:Hid (∀ b,¬ M b->b≠sb):=fun b hb e=>hb (e ▸ h.msb)
 have hg0:=h.cells bB;have c8:w.cell? (aD sb 8)=some (.int .u64 ((2 ^ q.src.xs.length-1:Nat):Int)):=by rw[<- hv8]; exact hg0.cell 8
 obtain⟨SS,hSS⟩:∃ n:Nat,n=2 ^ q.src.xs.length-1:=⟨_,rfl⟩
 rw[<- hSS]at c8 ⊢;clear hp hpo hbs hok h hBK OG bB hg0 hSS hv8 E;generalize bs.map Prod.fst=bf at *;generalize (bs.map Prod.snd).foldl (jK ts q) σ.bD=R at *;generalize bs.length=bl at *;go_enter Tryz.func240,Tryz.ntmps240;go_wp2;go_loopw [18] (fun iv wr=>∃ (k bp:Nat),k<=bl/\iv=.int .i64 (k:Int)/\Hid (dQ W0 f ts q X M wr sb { L with bD:=bp } { σ with bD:=BK k })/\Hid (Kept (fun b=>b≠sb) w wr)) (fun iv _=>bl-(intOf iv).toNat)
 case atStart=>exact⟨0,L.bD,Q8 _,rfl,HH.o,Zn _ _⟩
 case round=>
  obtain⟨k,bp,hk,rfl,HA,HK⟩:=hrel;by_cases hlt:k<bl
  ·obtain⟨tb,ahl,hbo,hbc⟩:=dB.get (RX.o.aX HK.o (fun _ a ha=>J9.o a ha)) (i:=k) (by rw[wX.o]; exact hlt);subst hbo;have hck:=hbc k (by rw[wX.o]; exact hlt);have hGk:=R3.o k hlt;obtain⟨a,ha⟩:=eY (bf.getD k 0)
   rw[<- ha]at hck hGk;have HTk:=Zh (hGk.1.aX (HK.o.mono fun b _ hb=>HXS.o b hb));have HTO:=Zh hGk.2;have hgb:=HA.o.cells DJ.o;simp only at hgb;have oz:=HST.o k hlt;have hEN:=OM.o wr.drew a (BD k) (HA.o.hz.next ((Qw _ _).drew)) (HTk.o.below ((Qw _ _).drew)) HTO.o;have HEK:=Zh (HEL.o (BD k));generalize eT ts q (BD k)=EN at *;have anj:=Zh oz;obtain⟨gsv,aiO⟩:∃ v,v=Value.slice (some (aD L.gs 0)) σ.groups.length L.O4:=⟨_,rfl⟩
   obtain⟨avv,aiP⟩:∃ v,v=L.av:=⟨_,rfl⟩
   obtain⟨pkv,aiQ⟩:∃ v,v=L.pv:=⟨_,rfl⟩
   rw[<- aiO,<- aiP,<- aiQ]at hgb;have qN:=Zh hgb;have AJ:Hid (gsv=Value.slice (some (aD L.gs 0)) σ.groups.length L.O4/\avv=L.av/\pkv=L.pv):=⟨aiO,aiP,aiQ⟩
   have c16:=hgb.at 16;have ank:wr.drew.cell? (aD sb 16)=some (.pointer (some (aD bp 0))):=c16;clear hbc ha hGk hgb oz aiO aiP aiQ;obtain⟨wq,hwq⟩:∃ x,x=wr:=⟨_,rfl⟩
   subst hwq;go_wp2_with fail;refine QX (S:=fun x=>Kept (fun b=>b≠sb) wq x/\∃ u,GB x sb 174 #[v0,v1,v2,v3,v4,v5,v6,v7,v8,v9,v10,v11,v12,gsv,avv,.bool σ.cut,u,pkv,.int .i64 σ.status]) (by kernel_rfl) ⟨Zo ((Qw wq.heap.size wq).drew) (fun _ hl _=>hl),_,qN.o⟩ (fun hS=>?_);refine wt 0 (.pointer (some (aD sb 0))) hS ?_;refine wt 1 (.pointer (some (aD sb 0))) hS ?_;refine wt 2 (.pointer (some (aD sb 0))) hS ?_;refine wt 3 (.pointer (some (aD sb 16))) hS ?_;refine wt 5 (.pointer (some (aD sb 0))) hS ?_;refine wt 6 (.pointer (some (aD sb 0))) hS ?_;refine wt 7 (.pointer (some (aD sb 0))) hS ?_;refine wT 8 (.agg #[v0,v1,v2,v3,v4,v5,v6,v7,v8,v9,v10,v11,v12]) hS (fun x hx=>?_) ?_
   ·obtain⟨u,hu⟩:=hx.2;obtain⟨e0,e1,e2,e3,e4,e5,e6,e7,e8,e9,e10,e11,e12⟩:=hu.k13;go_simp
   refine wt 9 (.pointer (some (aD a 0))) hS ?_;refine wJ 4 10 (fun K hK=>?_) fun K hK=>?_
   ·go_simp;refine hK.o _ _ hS fun hS=>?_
    clear hK K;refine wR 10 fun K hK=>?_
    go_simp;refine Xt hEN ?_;rintro e w2 ⟨v,us,rfl,Y4,hin,hb2⟩;have zt:=(Qw wq.heap.size wq).drew.trans hb2;have hg2:=qN.o.keep (Zo (s:=fun b=>b<wq.heap.size) zt (fun _ h _=>h)) qN.o.lt;have aiR:=hg2.at 16;have hul:us.length<=2:=by
     have h1:us.length=EN.length:=by rw[<- Y4,Zc]
     rw[h1];exact HEK.o
    obtain⟨ua,uc,rfl,hup,-,-,-⟩:=mi (xs:=us.map Prod.fst) hin.own (by rw[hin.len]; omega);rw[hin.len]at hin ⊢;refine hK.o _ _ ⟨Zo zt (fun _ h _=>h),_,hg2⟩ (fun hS=>?_);clear hK K;have hCH:=xV bp (BK k) ((HA.o.bD).own zt (v:=.slice ua us.length uc) (fun g e=>(ZO hin.own e).1)) ua uc us hup (fun x hx=>(hin.tree x hx).1) (by omega);rw[Y4,<- anj.o]at hCH;refine wR 11 fun K hK=>?_
    go_simp;refine Xt hCH ?_;rintro e w3 ⟨r,rfl,hT,hb3⟩;have xX:=aA zt hb3;have hg3:=qN.o.keep (Zo (s:=fun b=>b<wq.heap.size) xX (fun _ h _=>h)) qN.o.lt;refine hK.o _ _ ⟨Zo xX (fun _ h _=>h),_,hg3⟩ (fun hS=>?_);clear hK K;refine wt 12 (.pointer (some (aD sb 0))) hS ?_;refine wt 13 (.pointer (some (aD sb 16))) hS ?_;have aiS:=hg3.at 16;have f16:=hg3.frozen 16;have hg4:GB (w3.setCell (aD sb 16) (.pointer (some (aD r 0)))) sb 174 #[v0,v1,v2,v3,v4,v5,v6,v7,v8,v9,v10,v11,v12,gsv,avv,.bool σ.cut,.pointer (some (aD r 0)),pkv,.int .i64 σ.status]:=hg3.set 16 _;have hk4:Kept (fun b=>b≠sb) wq (w3.setCell (aD sb 16) (.pointer (some (aD r 0)))):=(Zo xX (fun _ h _=>h)).trans (ZL _ _ _ (fun h=>h rfl));refine wR 14 fun K hK=>?_
    go_simp;refine hK.o _ _ ⟨hk4,_,hg4⟩ (fun hS=>?_);clear hK K;refine wD ?_
    try simp only[pV]
    try simp only[pV]
    have HF:Hid (dQ W0 f ts q X M (w3.setCell (aD sb 16) (.pointer (some (aD r 0)))) sb { L with bD:=r } { σ with bD:=BK (k+1) }/\Kept (fun b=>b≠sb) w (w3.setCell (aD sb 16) (.pointer (some (aD r 0))))):=⟨HA.o.better hk4 (by
      rw[DJ.o,AJ.o.1,AJ.o.2.1,AJ.o.2.2]at *;exact hg4) (hT.KG.aX (ZL _ _ _ (fun h=>HXS.o _ h rfl))),HK.o.trans hk4⟩
    clear hS aiS f16 hg4 hk4 hCH hT hb3 xX hg3 hin hup hul Y4 hg2 c16 ank aiR hck hEN;go_wp2;go_roundw
    case rel=>exact⟨k+1,r,by omega,by go_num,HF.o.1,HF.o.2⟩
    case measure=>simp[intOf]; omega
   ·go_simp;refine Xt hEN ?_;rintro e w2 ⟨v,us,rfl,Y4,hin,hb2⟩;have zt:=(Qw wq.heap.size wq).drew.trans hb2;have hg2:=qN.o.keep (Zo (s:=fun b=>b<wq.heap.size) zt (fun _ h _=>h)) qN.o.lt;have aiR:=hg2.at 16;have hul:us.length<=2:=by
     have h1:us.length=EN.length:=by rw[<- Y4,Zc]
     rw[h1];exact HEK.o
    obtain⟨ua,uc,rfl,hup,-,-,-⟩:=mi (xs:=us.map Prod.fst) hin.own (by rw[hin.len]; omega);rw[hin.len]at hin ⊢;refine hK.o _ _ ⟨Zo zt (fun _ h _=>h),_,hg2⟩ (fun hS=>?_);clear hK K;refine wR 4 fun K hK=>?_
    go_simp;refine hK.o _ _ hS fun hS=>?_
    clear hK K;have hCH:=xV bp (BK k) ((HA.o.bD).own zt (v:=.slice ua us.length uc) (fun g e=>(ZO hin.own e).1)) ua uc us hup (fun x hx=>(hin.tree x hx).1) (by omega);rw[Y4,<- anj.o]at hCH;refine wR 11 fun K hK=>?_
    go_simp;refine Xt hCH ?_;rintro e w3 ⟨r,rfl,hT,hb3⟩;have xX:=aA zt hb3;have hg3:=qN.o.keep (Zo (s:=fun b=>b<wq.heap.size) xX (fun _ h _=>h)) qN.o.lt;refine hK.o _ _ ⟨Zo xX (fun _ h _=>h),_,hg3⟩ (fun hS=>?_);clear hK K;refine wt 12 (.pointer (some (aD sb 0))) hS ?_;refine wt 13 (.pointer (some (aD sb 16))) hS ?_;have aiS:=hg3.at 16;have f16:=hg3.frozen 16;have hg4:GB (w3.setCell (aD sb 16) (.pointer (some (aD r 0)))) sb 174 #[v0,v1,v2,v3,v4,v5,v6,v7,v8,v9,v10,v11,v12,gsv,avv,.bool σ.cut,.pointer (some (aD r 0)),pkv,.int .i64 σ.status]:=hg3.set 16 _;have hk4:Kept (fun b=>b≠sb) wq (w3.setCell (aD sb 16) (.pointer (some (aD r 0)))):=(Zo xX (fun _ h _=>h)).trans (ZL _ _ _ (fun h=>h rfl));refine wR 14 fun K hK=>?_
    go_simp;refine hK.o _ _ ⟨hk4,_,hg4⟩ (fun hS=>?_);clear hK K;refine wD ?_
    try simp only[pV]
    try simp only[pV]
    have HF:Hid (dQ W0 f ts q X M (w3.setCell (aD sb 16) (.pointer (some (aD r 0)))) sb { L with bD:=r } { σ with bD:=BK (k+1) }/\Kept (fun b=>b≠sb) w (w3.setCell (aD sb 16) (.pointer (some (aD r 0))))):=⟨HA.o.better hk4 (by
      rw[DJ.o,AJ.o.1,AJ.o.2.1,AJ.o.2.2]at *;exact hg4) (hT.KG.aX (ZL _ _ _ (fun h=>HXS.o _ h rfl))),HK.o.trans hk4⟩
    clear hS aiS f16 hg4 hk4 hCH hT hb3 xX hg3 hin hup hul Y4 hg2 c16 ank aiR hck hEN;go_wp2;go_roundw
    case rel=>exact⟨k+1,r,by omega,by go_num,HF.o.1,HF.o.2⟩
    case measure=>simp[intOf]; omega
  ·have hkb:bl=k:=by omega
   have HF:Hid (∃ L',dQ W0 f ts q X M wr sb L' { σ with bD:=R }/\Kept (fun b=>¬ M b) w wr):=by
    refine⟨{ L with bD:=bp },?_,HK.o.mono fun b _ hb=>HMS.o b hb⟩;have:=HA.o;rw[<- hkb,HE.o]at this;exact this
   clear hkb;go_wp2;go_end0;exact⟨⟨_,rfl⟩,HF.o⟩
theorem uw.pos(h:uw q s g):0<g.length:=by
 obtain⟨hh,r,rfl,-⟩:=h.head;simp
theorem aaV(E:Env f ts q W0){L:rV}(h:dQ W0 f ts q X M w sb L σ)(hc:nW q σ)(hal:σ.ak.length<=900000)(s:Nat)(hs1:s<2 ^ q.src.xs.length-1)(bo:Option Addr)(bc:Nat)(bs:List (Nat × aQ))(hp:dB w bo (bs.map Prod.fst))(hpo:∀ a,bo=some a->¬ M a.block)(hbs:∀ x∈bs,aG 178 (fun b=>¬ X b) w x.1 x.2)(hnd:(bs.map Prod.fst).Nodup)(hfr:∀ p∈σ.groups.getD s [],∀ x,p.2=some x->L.A s x.1 ∉ bs.map Prod.fst)(hl:bs.length<=1000)(Ed:∀ x∈bs,MO q s x.2) :
  Calls Tryz.prog 240 #[.pointer (some (aD sb 0)),.int .u64 (s:Int),.slice bo bs.length bc] w fun e w'=>(∃ v,e=.returned v)/\bX W0 f ts q X M w sb (fG bA ts q s (bs.map Prod.snd) σ) w':=by
 obtain⟨v0,v1,v2,v3,v4,v5,v6,v7,v8,v9,v10,v11,v12,bB,-,-,-,-,-,-,-,-,hv8,-⟩:=Xu f ts q;have hsg:s<σ.groups.length:=by rw[hc.vW]; exact hs1
 have h32:2 ^ q.src.xs.length<=32:=Q7 (n:=2) (by omega) E.five;have aaW:σ.groups.length<=31:=by rw[hc.vW]; omega
 obtain⟨hG1,hG2,hG3,hG4⟩:=h.kT s hsg;have hgo:=hc.kT s hsg;have hgb:=h.cells bB;have hgc:=h.tH s hsg;have hne:=h.ne;have HKN:Hid (fG bA ts q s (bs.map Prod.snd) σ = { σ with groups:=σ.groups.set s (bg ts q (σ.groups.getD s []) (bs.map Prod.snd)).2,ak:=if (bg ts q (σ.groups.getD s []) (bs.map Prod.snd)).1=true then oJ bA s (σ.groups.set s (bg ts q (σ.groups.getD s []) (bs.map Prod.snd)).2) σ.ak else σ.ak }):=by
  show _=_
  unfold fG;rw[Qz (by omega)]
 have himp:=Ae (ts:=ts) hgo (l:=bs.map Prod.snd) (fun t ht=>by obtain⟨x,hx,rfl⟩:=Zi.1 ht; exact Ed x hx);have hlen:(bg ts q (σ.groups.getD s []) (bs.map Prod.snd)).2.length=(σ.groups.getD s []).length:=by have:=congrArg List.length himp.2.2; simpa using this
 have HIM:Hid (∀ x,Bw w x->Calls Tryz.prog 305 #[.slice (some (aD (L.gb s) 0)) (σ.groups.getD s []).length (L.IK s),.agg #[v0,v1,v2,v3,v4,v5,v6,v7,v8,v9,v10,v11,v12],.slice bo bs.length bc] x fun e w'=>e=.returned (.bool (bg ts q (σ.groups.getD s []) (bs.map Prod.snd)).1)/\(∃ A',bz 178 297 (fun b=>¬ X b) w' (L.gb s) A' (L.os s) (bg ts q (σ.groups.getD s []) (bs.map Prod.snd)).2)/\Kept (fun b=>b≠L.gb s) x w'):=fun x hx=>by
  rw[<- bB];exact KA E (h.hz.next hx) (hG1.below hx) (fun hn=>hn (h.sub _ hG2)) hgo (L.IK s) hG3 hG4 bo bc bs (hp.below hx) (fun a e e'=>hpo a e (e' ▸ hG2)) (fun y hy=>(hbs y hy).below hx) hnd hfr hl Ed
 have anl:Hid (∀ (x:World) (A':Nat->Nat),Kept (fun b=>b≠L.gb s) w x->bz 178 297 (fun b=>¬ X b) x (L.gb s) A' (L.os s) (bg ts q (σ.groups.getD s []) (bs.map Prod.snd)).2->dQ W0 f ts q X M x sb { L with A:=fun k=>if k=s then A' else L.A k } { σ with groups:=σ.groups.set s (bg ts q (σ.groups.getD s []) (bs.map Prod.snd)).2 }):=fun x A' hk hg=>h.group hsg hk hg hlen
 have kJ:Hid (∀ (x:World) (L':rV),dQ W0 f ts q X M x sb L' { σ with groups:=σ.groups.set s (bg ts q (σ.groups.getD s []) (bs.map Prod.snd)).2 }->Calls Tryz.prog 306 #[.pointer (some (aD sb 0)),.int .u64 (s:Int)] x fun e w'=>(∃ v,e=.returned v)/\bX W0 f ts q X M x sb { σ with groups:=σ.groups.set s (bg ts q (σ.groups.getD s []) (bs.map Prod.snd)).2,ak:=oJ bA s (σ.groups.set s (bg ts q (σ.groups.getD s []) (bs.map Prod.snd)).2) σ.ak } w'):=fun x L' hx=>
  Pk hx s (by omega) (by show (σ.groups.set _ _).length<=31; rw[XO]; exact aaW) (fun k hk=>by
   show 0<((σ.groups.set s _).getD k []).length
   have hk':k<σ.groups.length:=by have hk:k<(σ.groups.set s _).length:=hk; rwa [XO]at hk
   rw[jQ];split
   ·rw[hlen]; exact hgo.pos
   ·exact(hc.kT k hk').pos) (fun t ht=>(hc.task t ht).small E.five aaW) hal
 have HMG:Hid (∀ b,¬ M b->b≠L.gb s):=fun b hb e=>hb (e ▸ hG2)
 have vS:Hid (sb≠L.gb s/\L.gs≠L.gb s):=⟨fun e=>(hne.2.2.2 s hsg).1 e.symm,fun e=>h.Sa (e ▸ h.sub _ hG2)⟩
 have hsS:¬ ((s:Int)=((2 ^ q.src.xs.length-1:Nat):Int)):=by omega
 have hc8:w.cell? (aD sb 8)=some (.int .u64 ((2 ^ q.src.xs.length-1:Nat):Int)):=by rw[<- hv8]; exact hgb.cell 8
 have c13:=hgb.at 13;have atE:=Zh hgb;have hsn:(s:Int)<(σ.groups.length:Int):=by omega
 generalize fG bA ts q s (bs.map Prod.snd) σ=KN at *;generalize bg ts q (σ.groups.getD s []) (bs.map Prod.snd)=IM at *;obtain⟨I1,I2⟩:=IM;simp only at HKN HIM anl kJ;generalize hSS:2 ^ q.src.xs.length-1=SS at *;generalize (σ.groups.getD s []).length=ggl at *;generalize L.gb s=ggb at *;generalize L.IK s=ggc at *;generalize L.gs=ggs at *;generalize hgn:σ.groups.length=gn at *;generalize L.O4=aeb at *;clear h hc hal hp hpo hbs hnd hfr hl Ed hsg h32 aaW hG1 hG2 hG3 hG4 hgo hgb hne himp hlen bB hv8 hSS hgn hs1 E;go_enter Tryz.func240,Tryz.ntmps240;go_wp2_with fail;have hgb:=atE.o;obtain⟨a0,a1,a2,a3,a4,a5,a6,a7,a8,a9,iy,iL,a12⟩:=hgb.k13;clear hgb;refine QX (S:=fun x=>Kept (fun b=>b≠ggb) w x) (by kernel_rfl) (Zo ((Qw w.heap.size w).drew) (fun _ hl _=>hl)) (fun hS=>?_);refine wt 0 (.pointer (some (aD sb 0))) hS ?_;refine wt 1 (.pointer (some (aD sb 0))) hS ?_;refine wt 2 (.pointer (some (aD sb 13))) hS ?_;refine wT 3 (.slice (some (aD ggs 0)) gn aeb) hS (fun x hx=>?_) ?_
 ·have e0:=X0 hx c13 vS.o.1;go_simp
 refine wt 4 (.int .u64 (s:Int)) hS ?_;refine wt 5 (.pointer (some (aD ggs s))) hS ?_;refine wT 6 (.slice (some (aD ggb 0)) ggl ggc) hS (fun x hx=>?_) ?_
 ·have e0:=X0 hx hgc vS.o.2;go_simp
 refine wt 7 (.pointer (some (aD sb 0))) hS ?_;refine wt 8 (.pointer (some (aD sb 0))) hS ?_;refine wt 9 (.pointer (some (aD sb 0))) hS ?_;refine wT 10 (.agg #[v0,v1,v2,v3,v4,v5,v6,v7,v8,v9,v10,v11,v12]) hS (fun x hx=>?_) ?_
 ·have e0:=X0 hx a0 vS.o.1;have e1:=X0 hx a1 vS.o.1;have e2:=X0 hx a2 vS.o.1;have e3:=X0 hx a3 vS.o.1;have e4:=X0 hx a4 vS.o.1;have e5:=X0 hx a5 vS.o.1;have e6:=X0 hx a6 vS.o.1;have e7:=X0 hx a7 vS.o.1;have e8:=X0 hx a8 vS.o.1;have e9:=X0 hx a9 vS.o.1;have e10:=X0 hx iy vS.o.1;have e11:=X0 hx iL vS.o.1;have e12:=X0 hx a12 vS.o.1;go_simp
 refine wt 11 (.slice bo bs.length bc) hS ?_;refine wR 12 fun K hK=>?_
 go_simp;refine Xt (HIM.o _ ((Qw w.heap.size w).drew)) ?_;rintro e w2 ⟨rfl,hA2,hk2⟩;refine hK.o _ _ (hS.trans hk2) (fun hS=>?_);clear hK K;refine wR 13 fun K hK=>?_
 go_simp;refine hK.o _ _ hS fun hS=>?_
 clear hK K;refine wD ?_
 try simp only[pV]
 try simp only[pV]
 obtain⟨A',hA'⟩:=hA2;have aec:=hS;have hAt:=anl.o w2 A' aec hA';have HAT:=Zh hAt;have rQ:=Zh (aec.mono fun b _ hb=>HMG.o b hb)
 cases I1 with
 | false =>
  have HF:Hid (bX W0 f ts q X M w sb KN w2):=by
   rw[HKN.o];exact⟨_,hAt.post rQ.o⟩
  clear hS hA' aec hAt a0 a1 a2 a3 a4 a5 a6 a7 a8 a9 iy iL a12 hgc c13 hc8;go_wp2;go_end0;exact⟨⟨_,rfl⟩,HF.o⟩
 | true =>
  have hRE:=kJ.o w2 _ hAt;clear hS hA' aec hAt a0 a1 a2 a3 a4 a5 a6 a7 a8 a9 iy iL a12 hgc c13 hc8;go_wp2_with fail;refine hRE.mono ?_;rintro e w3 ⟨⟨rv,rfl⟩,hp3⟩;have HF:Hid (bX W0 f ts q X M w sb KN w3):=by
   rw[HKN.o];exact bX.trans rQ.o (fun _ h=>h) (fun _ h=>.inl h) (fun b=>⟨fun h=>.inl h,fun h=>by
    rcases h with h | h
    ·exact h
    ·exact HAT.o.sub b h⟩) hp3
  clear hRE hp3;go_wp2;go_end0;exact⟨⟨_,rfl⟩,HF.o⟩
theorem FZ(E:Env f ts q W0){L:rV}(h:dQ W0 f ts q X M w sb L σ)(hc:nW q σ)(hal:σ.ak.length<=900000)(s:Nat)(hs1:s<2 ^ q.src.xs.length)(bo:Option Addr)(bc:Nat)(bs:List (Nat × aQ))(hp:dB w bo (bs.map Prod.fst))(hpo:∀ a,bo=some a->¬ M a.block)(hbs:∀ x∈bs,aG 178 (fun b=>¬ X b) w x.1 x.2)(hnd:(bs.map Prod.fst).Nodup)(hfr:∀ k,k<σ.groups.length->∀ p∈σ.groups.getD k [],∀ x,p.2=some x->L.A k x.1 ∉ bs.map Prod.fst)(hl:bs.length<=1000)(Ed:∀ x∈bs,MO q s x.2) :
  Calls Tryz.prog 240 #[.pointer (some (aD sb 0)),.int .u64 (s:Int),.slice bo bs.length bc] w fun e w'=>(∃ v,e=.returned v)/\bX W0 f ts q X M w sb (fG bA ts q s (bs.map Prod.snd) σ) w':=by
 by_cases hs:s=2 ^ q.src.xs.length-1
 ·subst hs;refine(Vq E h bo bc bs hp (fun a e e'=>hpo a e (e' ▸ h.msb)) hbs (fun x hx=>(Ed x hx).ok) hl).mono ?_;rintro e w' ⟨hv,L',hA,hk⟩;refine⟨hv,L',?_⟩;have e1:fG bA ts q (2 ^ q.src.xs.length-1) (bs.map Prod.snd) σ = { σ with bD:=(bs.map Prod.snd).foldl (jK ts q) σ.bD }:=by unfold fG; rw[Qy rfl]
  rw[e1];exact hA.post hk
 ·exact aaV E h hc hal s (by omega) bo bc bs hp hpo hbs hnd (hfr s (by rw[hc.vW]; omega)) hl Ed
