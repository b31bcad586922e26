import Derived.Test.YtgemohlbjehmbaaGreatDoorF32
set_option linter.all false
set_option maxRecDepth 100000
set_option maxHeartbeats 16000000
namespace Go.Proofs.Zz
open Go.RowKit Go.Shelf
variable {W0 w w':World} {g:List aj} {t:TypeId} {f:aC} {ts:List af} {q:ae} {M X:Nat->Prop} {k s sb:Nat} {σ:eF} {v0 v1 v10 v11 v12 v2 v3 v4 v5 v6 v7 v8 v9:Value}
structure tJ where
 gs:Nat
 Su:Nat
 gb:Nat->Nat
 LF:Nat->Nat
 A:Nat->Nat->Nat
 os:Nat->List ai
 av:Value
 bq:Nat
 pv:Value
theorem bM.tp{T Tp:TypeId}{F:Nat->Prop}{gb:Nat}{A:Nat->Nat}{os:List ai}(h:bM T Tp F w gb A os g):∃ c,GB w gb Tp c:=by obtain⟨c,a,_⟩:=h.blk;exact⟨c,a⟩
theorem GB.tp{G:Nat}{t':TypeId}{c c':Array Value}(h:GB w G t c)(h':GB w G t' c'):t=t':=by have a:w.heap[G]? = some (.cells c t (0,0)):=h;have b:w.heap[G]? = some (.cells c' t' (0,0)):=h';grind
def jA(L:tJ)(σ:eF):Array Value:=#[.slice (some (aD L.gs 0)) σ.groups.length L.Su,L.av,.bool σ.cut,.pointer (some (aD L.bq 0)),L.pv,.int .i64 σ.status]
structure fe(W0:World)(f:aC)(ts:List af)(q:ae)(X M:Nat->Prop)(w:World)(sb:Nat)(L:tJ)(σ:eF):Prop where
 hz:Fz (λb=>¬ X b) W0 w
 sub:∀ b,M b->X b
 msb:M sb
 blk:GB w sb 97 (f.cells ts q++jA L σ)
 UW:¬ X L.gs
 gsl:L.gs<w.heap.size
 vH:∀ k,k<σ.groups.length->w.cell? (aD L.gs k)=some (.slice (some (aD (L.gb k) 0)) (σ.groups.getD k []).length (L.LF k))
 jd:∀ k,k<σ.groups.length->bM 135 160 (λb=>¬ X b) w (L.gb k) (L.A k) (L.os k) (σ.groups.getD k [])/\M (L.gb k)/\(σ.groups.getD k []).length<=L.LF k/\L.LF k<=9223372036854775807
 apart:∀ j k,j<σ.groups.length->k<σ.groups.length->L.gb j=L.gb k->j=k
 ag:w.ownsRow W0.heap.size 122 2 L.av σ.ak.length (σ.ak.flatMap fw)
 UX:∀ b,L.av.ownBlock=some b->M b
 bq:aT 135 (λb=>¬ X b) w L.bq σ.bq
 pk:w.ownsRow W0.heap.size 3 1 L.pv σ.picks.length (σ.picks.map (Value.int .i64))
 UY:∀ b,L.pv.ownBlock=some b->M b
def jV(W0:World)(f:aC)(ts:List af)(q:ae)(X M:Nat->Prop)(w:World)(sb:Nat)(L':tJ)(σ':eF)(w':World):Prop:=
 ∃ X' M',fe W0 f ts q X' M' w' sb L' σ'/\Kept (λb=>¬ M b) w w'/\(∀ b,M b->M' b)/\(∀ b,M' b->M b∨w.heap.size<=b)/\(∀ b,X' b↔X b∨M' b)
def dz(W0:World)(f:aC)(ts:List af)(q:ae)(X M:Nat->Prop)(w:World)(sb:Nat)(σ':eF)(w':World):Prop:=∃ L',jV W0 f ts q X M w sb L' σ' w'
theorem fe.lt{L:tJ}(h:fe W0 f ts q X M w sb L σ){b:Nat}(hb:X b):¬ Live W0 b/\b<w.heap.size:=by refine⟨λa=>h.hz.low b a hb,Nat.lt_of_not_le λa=>h.hz.high b a hb⟩
theorem fe.ne{L:tJ}(h:fe W0 f ts q X M w sb L σ):L.av.ownBlock≠some sb/\L.pv.ownBlock≠some sb/\(∀ b,L.av.ownBlock=some b->L.pv.ownBlock≠some b)/\∀ k,k<σ.groups.length->L.gb k≠sb/\L.av.ownBlock≠some (L.gb k)/\L.pv.ownBlock≠some (L.gb k):=by
 refine⟨jq h.ag h.blk (by decide),jq h.pk h.blk (by decide),λb e=>?_,λk g=>?_⟩
 ·obtain⟨d,a⟩:=mU h.ag e;exact jq h.pk (show GB w b _ d from a) (by decide)
 ·obtain⟨c,a⟩:=(h.jd k g).1.tp;exact⟨λe=>by have:=GB.tp a (e ▸ h.blk); exact absurd this (by decide),jq h.ag a (by decide),jq h.pk a (by decide)⟩
theorem fe.next{L:tJ}(h:fe W0 f ts q X M w sb L σ)(hk:Kept (λb=>b≠sb/\L.av.ownBlock≠some b/\L.pv.ownBlock≠some b) w w'){av pv:Value}{ag:List aO}{pk:List Int}{st:Int}
  (hblk:GB w' sb 97 (f.cells ts q++jA { L with av:=av,pv:=pv } { σ with ak:=ag,picks:=pk,status:=st }))
  (hag:w'.ownsRow W0.heap.size 122 2 av ag.length (ag.flatMap fw)) (Pw:av.ownBlock=L.av.ownBlock∨∃ g,av.ownBlock=some g/\w.heap.size<=g)
  (hpk:w'.ownsRow W0.heap.size 3 1 pv pk.length (pk.map (Value.int .i64))) (hpv:pv.ownBlock=L.pv.ownBlock∨∃ g,pv.ownBlock=some g/\w.heap.size<=g) :
  jV W0 f ts q X M w sb { L with av:=av,pv:=pv } { σ with ak:=ag,picks:=pk,status:=st } w':=by
 have t:∀ b,b<w.heap.size->¬ X b->av.ownBlock≠some b/\pv.ownBlock≠some b:=λb y s=>by
  refine⟨λe=>?_,λe=>?_⟩
  ·rcases Pw with j | ⟨g,j,r⟩
   ·exact s (h.sub _ (h.UX b (j ▸ e)))
   grind
  ·rcases hpv with j | ⟨g,j,r⟩
   ·exact s (h.sub _ (h.UY b (j ▸ e)))
   grind
 have i:∀ b,b<w.heap.size->¬ X b->¬ (X b∨av.ownBlock=some b∨pv.ownBlock=some b):=λb y s d=>by grind
 have o:Kept (λb=>¬ (X b∨av.ownBlock=some b∨pv.ownBlock=some b)) w w':=hk.mono λb _ a=>⟨λe=>a (.inl (e ▸ h.sub _ h.msb)),λe=>a (.inl (h.sub _ (h.UX b e))),λe=>a (.inl (h.sub _ (h.UY b e)))⟩;have n:∀ b,(av.ownBlock=some b∨pv.ownBlock=some b)->M b∨w.heap.size<=b:=λb e=>by
  rcases e with e | e
  ·rcases Pw with j | ⟨g,j,r⟩
   ·exact .inl (h.UX b (j ▸ e))
   grind
  ·rcases hpv with j | ⟨g,j,r⟩
   ·exact .inl (h.UY b (j ▸ e))
   grind
 have m:∀ b,(av.ownBlock=some b∨pv.ownBlock=some b)->W0.heap.size<=b/\b<w'.heap.size:=λb e=>by
  rcases e with e | e
  ·exact Zj hag e
  ·exact Zj hpk e
 have p:=h.ne;refine⟨λb=>X b∨av.ownBlock=some b∨pv.ownBlock=some b,λb=>M b∨av.ownBlock=some b∨pv.ownBlock=some b,⟨⟨?_,λb a d=>?_,λb a d=>?_⟩,λb a=>?_,.inl h.msb,hblk,i _ h.gsl h.UW,QH h.gsl hk.size,λk l=>?_,λk l=>?_,h.apart,hag,λb e=>.inr (.inl e),(h.bq.mono i).bI o,hpk,λb e=>.inr (.inr e)⟩,?_,λb a=>.inl a,λb a=>?_,λb=>?_⟩
 ·exact h.hz.below.kept hk λb a=>⟨λe=>(h.lt (h.sub _ h.msb)).1 (e ▸ a),λe=>(h.lt (h.sub _ (h.UX b e))).1 a,λe=>(h.lt (h.sub _ (h.UY b e))).1 a⟩
 ·rcases d with d | d
  ·exact h.hz.low b a d
  ·have:=(m b d).1; have:=a.lt; omega
 ·rcases d with d | d
  ·exact h.hz.high b (Q6 hk.size a) d
  ·have:=(m b d).2; omega
 ·rcases a with a | a
  ·exact .inl (h.sub b a)
  ·exact .inr a
 ·refine XF hk (h.vH k l) ⟨λe=>h.UW (e ▸ h.sub _ h.msb),λe=>h.UW (h.sub _ (h.UX _ e)),λe=>h.UW (h.sub _ (h.UY _ e))⟩
 ·obtain⟨j,u,v⟩:=h.jd k l;refine⟨(j.mono i).bI (hk.mono λb _ a=>?_),.inl u,v⟩;rcases a with a | a
  ·exact⟨λe=>a (.inl (e ▸ h.sub _ h.msb)),λe=>a (.inl (h.sub _ (h.UX b e))),λe=>a (.inl (h.sub _ (h.UY b e)))⟩
  ·rw[a];exact p.2.2.2 k l
 ·exact hk.mono λb _ a=>⟨λe=>a (e ▸ h.msb),λe=>a (h.UX b e),λe=>a (h.UY b e)⟩
 ·grind
 ·exact⟨λd=>by
   grind,λd=>by
   rcases d with d | d | d
   ·exact .inl d
   ·exact .inl (h.sub b d)
   ·exact .inr d⟩
theorem jV.trans{w1 w2:World}{L2:tJ}{σ2:eF}{X1 M1:Nat->Prop}(hk:Kept (λb=>¬ M b) w w1)(h1:∀ b,M b->M1 b)(h2:∀ b,M1 b->M b∨w.heap.size<=b)(h3:∀ b,X1 b↔X b∨M1 b)(h:jV W0 f ts q X1 M1 w1 sb L2 σ2 w2):jV W0 f ts q X M w sb L2 σ2 w2:=by
 obtain⟨g,i,j,e,k,l,m⟩:=h;refine⟨g,i,j,hk.trans' e (λb n d a=>?_),λb d=>k b (h1 b d),λb d=>?_,λb=>?_⟩
 ·grind
 ·rcases l b d with a | a
  ·exact h2 b a
  ·exact .inr (Q6 hk.size a)
 grind
theorem fe.post{L:tJ}(h:fe W0 f ts q X M w' sb L σ)(hk:Kept (λb=>¬ M b) w w'):jV W0 f ts q X M w sb L σ w':=
 ⟨X,M,h,hk,λ_ h=>h,λ_ h=>.inl h,λb=>⟨λa=>.inl a,λa=>by
  rcases a with a | a
  ·exact a
  ·exact h.sub b a⟩⟩
theorem dz.trans{W0:World}{f:aC}{ts:List af}{q:ae}{X M:Nat->Prop}{w w1 w2:World}{sb:Nat}{σ2:eF}{X1 M1:Nat->Prop}(hk:Kept (λb=>¬ M b) w w1)(h1:∀ b,M b->M1 b)(h2:∀ b,M1 b->M b∨w.heap.size<=b)(h3:∀ b,X1 b↔X b∨M1 b)(h:dz W0 f ts q X1 M1 w1 sb σ2 w2):dz W0 f ts q X M w sb σ2 w2:=h.imp λ_ h=>jV.trans hk h1 h2 h3 h
theorem fe.below{W0:World}{f:aC}{ts:List af}{q:ae}{X M:Nat->Prop}{w w':World}{sb:Nat}{L:tJ}{σ:eF}(h:fe W0 f ts q X M w sb L σ)(hb:Bw w w'):fe W0 f ts q X M w' sb L σ where
 hz:=h.hz.next hb
 sub:=h.sub
 msb:=h.msb
 blk:=h.blk.keep (Q7 (s:=λb=>b<w.heap.size) hb (λ_ h _=>h)) h.blk.lt
 UW:=h.UW
 gsl:=QH h.gsl hb.size
 vH:=λk a=>cB hb (h.vH k a)
 jd:=λk a=>⟨(h.jd k a).1.below hb,(h.jd k a).2⟩
 apart:=h.apart
 ag:=ZM h.ag hb
 UX:=h.UX
 bq:=h.bq.below hb
 pk:=ZM h.pk hb
 UY:=h.UY
theorem fe.other{N N' X':Nat->Prop}{L:tJ}(h:fe W0 f ts q X M w sb L σ)(hN:∀ b,N b->X b)(hd:∀ b,M b->¬ N b)(hk:Kept (λb=>¬ N b) w w')(hf:∀ b,N' b->N b∨w.heap.size<=b)(hX:∀ b,X' b↔X b∨N' b)(hl:∀ b,N' b->b<w'.heap.size)(h0:∀ b,N' b->W0.heap.size<=b):fe W0 f ts q X' M w' sb L σ:=by
 have a:∀ b,b<w.heap.size->¬ X b->¬ X' b:=λb r i d=>by grind
 have m:Kept (λb=>¬ X' b) w w':=hk.mono λb _ i l=>i ((hX b).2 (.inl (hN b l)));refine⟨⟨h.hz.below.kept hk λb i l=>h.hz.low b i (hN b l),λb i d=>?_,λb i d=>?_⟩,λb i=>(hX b).2 (.inl (h.sub b i)),h.msb,h.blk.keep hk (hd _ h.msb),a _ h.gsl h.UW,QH h.gsl hk.size,λk j=>XF hk (h.vH k j) (λl=>h.UW (hN _ l)),λk j=>?_,h.apart,Zi h.ag hk (λg e=>hd g (h.UX g e)),h.UX,(h.bq.mono a).bI m,Zi h.pk hk (λg e=>hd g (h.UY g e)),h.UY⟩
 ·rcases (hX b).1 d with d | d
  ·exact h.hz.low b i d
  ·have:=h0 b d; have:=i.lt; omega
 ·rcases (hX b).1 d with d | d
  ·exact h.hz.high b (Q6 hk.size i) d
  ·have:=hl b d; omega
 ·obtain⟨n,o,p⟩:=h.jd k j;refine⟨(n.mono a).bI (hk.mono λb _ i l=>?_),o,p⟩
  grind
theorem fe.group{L:tJ}(h:fe W0 f ts q X M w sb L σ)(hs:s<σ.groups.length)(hk:Kept (λb=>b≠L.gb s) w w'){A':Nat->Nat}{g':List aj}(hg:bM 135 160 (λb=>¬ X b) w' (L.gb s) A' (L.os s) g')(hl:g'.length=(σ.groups.getD s []).length) :
  fe W0 f ts q X M w' sb { L with A:=λk=>if k=s then A' else L.A k } { σ with groups:=σ.groups.set s g' }:=by
 have m:=h.ne;have l:=h.sub _ (h.jd s hs).2.1;have n:∀ k,((σ.groups.set s g').getD k []).length=(σ.groups.getD k []).length:=λk=>by grind
 have a:(σ.groups.set s g').length=σ.groups.length:=Xw ..;refine⟨⟨h.hz.below.kept hk λb d e=>(h.lt l).1 (e ▸ d),h.hz.low,λb d=>h.hz.high b (Q6 hk.size d)⟩,h.sub,h.msb,?_,h.UW,QH h.gsl hk.size,λk i=>?_,λk i=>?_,λj k v i e=>?_,Zi h.ag hk (λg e hg=>(m.2.2.2 s hs).2.1 (hg ▸ e)),h.UX,h.bq.bI (hk.mono λb _ d e=>d (e ▸ l)),Zi h.pk hk (λg e hg=>(m.2.2.2 s hs).2.2 (hg ▸ e)),h.UY⟩
 ·have:=h.blk.keep hk (λe=>(m.2.2.2 s hs).1 e.symm);have e:jA { L with A:=λk=>if k=s then A' else L.A k } { σ with groups:=σ.groups.set s g' } = jA L σ:=by unfold jA;simp only;rw[a]
  rw[e];exact this
 ·show w'.cell? _=some (.slice _ ((σ.groups.set s g').getD k []).length _)
  rw[n k];exact XF hk (h.vH k (by rw[<- a]; exact i)) (λe=>h.UW (e ▸ l))
 ·have o:k<σ.groups.length:=by rw[<- a]; exact i
  obtain⟨r,t,u⟩:=h.jd k o;show bM _ _ _ _ (L.gb k) (if k=s then A' else L.A k) (L.os k) ((σ.groups.set s g').getD k [])/\M (L.gb k)/\((σ.groups.set s g').getD k []).length<=L.LF k/\L.LF k<=9223372036854775807;rw[n k];refine⟨?_,t,u⟩;by_cases e:k=s
  ·grind
  ·rw[Qu e,kC,Qu (λy=>e y.1.symm)];refine r.bI (hk.mono λb _ d p=>?_);rcases d with d | d
   ·exact d (p ▸ l)
   ·exact e (h.apart k s o hs (d.symm.trans p))
 ·exact h.apart j k (by rw[<- a]; exact v) (by rw[<- a]; exact i) e
theorem fe.better{L:tJ}(h:fe W0 f ts q X M w sb L σ)(hk:Kept (λb=>b≠sb) w w'){b':Nat}{t:aQ}(hblk:GB w' sb 97 (f.cells ts q++jA { L with bq:=b' } { σ with bq:=t }))(ht:aT 135 (λb=>¬ X b) w' b' t) :
  fe W0 f ts q X M w' sb { L with bq:=b' } { σ with bq:=t }:=by have d:=h.ne;have i:=h.sub _ h.msb;refine⟨⟨h.hz.below.kept hk λb j e=>(h.lt i).1 (e ▸ j),h.hz.low,λb j=>h.hz.high b (Q6 hk.size j)⟩,h.sub,h.msb,hblk,h.UW,QH h.gsl hk.size,λk a=>XF hk (h.vH k a) (λe=>h.UW (e ▸ i)),λk a=>⟨(h.jd k a).1.bI (hk.mono λb _ j e=>?_),(h.jd k a).2⟩,h.apart,Zi h.ag hk (λg e l=>d.1 (l ▸ e)),h.UX,ht,Zi h.pk hk (λg e l=>d.2.1 (l ▸ e)),h.UY⟩;grind
theorem NG(rk:Nat->Int)(s:Nat)(gs:List (List aj))(a:List aO)(k:Nat):(List.range (k+1)).foldl (dY rk s gs) a=dY rk s gs ((List.range k).foldl (dY rk s gs) a) k:=by rw[QM,ZP];rfl
theorem mX.small{n:Nat}{gs:List (List aj)}{t:aO}(h:mX n gs t)(hn:n<=5)(hg:gs.length<=31):t.1<32/\t.2<32:=by
 rcases h with⟨h0,i,hi,e⟩ | ⟨_,h1,h2,_⟩
 ·rw[h0,e];have:i=0∨i=1∨i=2∨i=3∨i=4:=by omega
  grind
 ·omega
theorem SY:(bC g).isSome=(g.getD 0 qB).2.isSome:=by
 match g with
 | [] => rfl
 | (_,none)::_ => rfl
 | (_,some _)::_ => rfl
theorem aiu(f:aC)(ts:List af)(q:ae)(L:tJ)(σ:eF):(f.cells ts q++jA L σ)[14]? = some L.av:=by obtain⟨v0,g,i,v3,v4,v5,j,k,l,v9,a,b,d,e,-⟩:=Z6 f ts q;rw[e];rfl
theorem ada(f:aC)(ts:List af)(q:ae)(L:tJ)(σ:eF)(av:Value):(f.cells ts q++jA L σ).setIfInBounds 14 av=f.cells ts q++jA { L with av:=av } σ:=by obtain⟨v0,g,i,v3,v4,v5,j,k,l,v9,a,b,d,e,-⟩:=Z6 f ts q;rw[e];rfl
theorem S9{L:tJ}(h:fe W0 f ts q X M w sb L σ)(s:Nat)(hs:s<32)(hgl:σ.groups.length<=31)(hg0:∀ k,k<σ.groups.length->0<(σ.groups.getD k []).length)(ha:∀ t∈σ.ak,t.1<32/\t.2<32)(hal:σ.ak.length<=900000) :
  Calls Tryz.prog 134 #[.pointer (some (aD sb 0)),.int .u64 (s:Int)] w λe w'=>(∃ v,e=.returned v)/\dz W0 f ts q X M w sb { σ with ak:=kM bJ s σ.groups σ.ak } w':=by
 obtain⟨v0,v1,v2,v3,v4,v5,v6,v7,v8,v9,aM,aN,aP,bR,-⟩:=Z6 f ts q;obtain⟨m,C⟩:∃ A:Nat->List aO,A=λk=>(List.range k).foldl (dY bJ s σ.groups) σ.ak:=⟨_,rfl⟩;have Y:Hid (∀ k,m (k+1)=dY bJ s σ.groups (m k) k):=λk=>by rw[C]; exact NG _ _ _ _ _
 have HE:Hid (m σ.groups.length=kM bJ s σ.groups σ.ak):=by show _=_; rw[C]; rfl
 have Be:Hid (∀ k,k<=σ.groups.length->(∀ t∈m k,t.1<32/\t.2<32)/\(m k).length<=901000):=λk hk=>by
  rw[C];refine⟨λt U=>?_,?_⟩
  ·rcases yI _ _ _ U with h1 | ⟨j,hj,_,_,h1⟩
   ·exact ha t h1
   grind
  ·refine Q6 (yJ _ _ _ _ _) ?_;rw[QR];omega
 have Z:Hid (jV W0 f ts q X M w sb { L with av:=L.av } { σ with ak:=m 0 } w):=by rw[C]; exact h.post (Q5 _ _)
 have aa:w.cell? (aD sb 13)=some (.slice (some (aD L.gs 0)) σ.groups.length L.Su):=by have:=h.blk.cell 13;rw[bR]at this;exact this
 have I:=Zh hg0;have ah:Hid (∀ (k:Nat) (x:World),k<32->Ce 141 #[.int .u64 (k:Int),.int .u64 (s:Int)] x (.bool (decide (k &&& s≠0)))):=λk x hk=>IC k s (by omega) (by omega) x;have HS:=Zh hs;have ai:=hgl;obtain⟨V,N⟩:∃ n,n=σ.groups.length:=⟨_,rfl⟩;rw[<- N]at hgl ai HE Be aa I;have aj:=Zh N;go_enter Tryz.func134,Tryz.ntmps134;go_wp2;go_loopw [12] (λiv wr=>∃ (k:Nat) (av:Value),k<=V/\iv=.int .i64 (k:Int)/\Hid (jV W0 f ts q X M w sb { L with av:=av } { σ with ak:=m k } wr)) (λiv _=>V-(intOf iv).toNat)
 case atStart=>exact⟨0,L.av,QK _,rfl,Z.o⟩
 case round=>
  obtain⟨k,av,hk,rfl,HP⟩:=hrel;by_cases R:k<V
  ·obtain⟨X1,M1,G,az,aA,aB,aF⟩:=HP.o;have u:k<σ.groups.length:=by rw[<- aj.o]; exact R
   have aK:wr.cell? (aD L.gs k)=some (.slice (some (aD (L.gb k) 0)) (σ.groups.getD k []).length (L.LF k)):=G.vH k u;obtain⟨aG,-⟩:=G.jd k u;have l:=tC aG (I.o k R) (L.LF k);change Calls Tryz.prog 157 #[.slice (some (aD (L.gb k) 0)) (σ.groups.getD k []).length (L.LF k)] wr (λe w'=>e=.returned (Kl (L.A k) ((σ.groups.getD k []).getD 0 qB).2)/\w' = wr) at l;have r:=Y.o k;unfold dY at r;rw[SY]at r;have p:=Zh G;have T:Hid (Kept (λb=>¬ M b) w wr/\(∀ b,M b->M1 b)/\(∀ b,M1 b->M b∨w.heap.size<=b)/\(∀ b,X1 b↔X b∨M1 b)):=⟨az,aA,aB,aF⟩;have z:=ah.o k wr (by omega);have aL:IntKind.u64.wrap (k:Int)=(k:Int):=by rw[IntKind.wrap_u64]; omega
   generalize (σ.groups.getD k []).length=ggl at *;generalize L.LF k=ggc at *;generalize L.gb k=ggb at *
   cases hy:((σ.groups.getD k []).getD 0 qB).2 with
   | none =>
    rw[hy]at l r;have pQ:Hid (m (k+1)=m k):=r;change Calls _ _ _ wr (λe w'=>e=.returned (.pointer none)/\w' = wr) at l;go_wp2_with fail;refine l.mono ?_;rintro e W ⟨rfl,d⟩;have B:=d.symm;subst B;go_wp2;go_roundw
    case rel=>grind
    case measure=>simp[intOf]; omega
   | some y =>
    rw[hy]at l r;change Calls _ _ _ wr (λe w'=>e=.returned (.pointer (some (aD (L.A k y.1) 0)))/\w' = wr) at l;generalize L.A k y.1=yp at *;by_cases S:k &&& s=0
    ·have pQ:Hid (m (k+1)=[(s,k),(k,s)].foldl (gI bJ) (m k)):=by grind
     rw[ZW (by simpa using S)]at z;obtain⟨w1,aQ,O,D⟩:=bn wr #[.int .u64 (s:Int),.int .u64 (k:Int),.int .u64 (k:Int),.int .u64 (s:Int)] 122;have E:=p.o.below O;have J:=Be.o k hk;have IZ:=Nr sb W0.heap.size _ av (m k) [(s,k),(k,s)] (some (aD wr.heap.size 0)) 2 w1 E.blk (aiu f ts q _ _) E.ag E.hz.below.size ⟨by simp,λi hi=>⟨wr.heap.size,0,rfl,by
      rw[QL];have au:i<2:=hi
      match i,au with
      | 0,_ => exact⟨D.cell 0,D.cell 1⟩
      | 1,_ => exact⟨D.cell 2,D.cell 3⟩⟩⟩ (λa e => by
       injection e with e;rw[<- e];exact show wr.heap.size≠sb/\av.ownBlock≠some wr.heap.size from ⟨λH=>by have:=p.o.blk.lt; omega,λH=>by have:=(Zj p.o.ag H).2; omega⟩) (by have:=J.2; simp; omega) J.1 (λt U=>by
       have ax:=HS.o;rcases Zq.1 U with rfl | U
       ·exact⟨ax,by show k<32; omega⟩
       grind)
     have F:=Zh O;go_wp2_with fail;refine l.mono ?_;rintro e W ⟨rfl,d⟩;have B:=d.symm;subst B;go_wp2_with fail;refine z.mono ?_;rintro e W ⟨rfl,d⟩;have B:=d.symm;subst B;go_wp2_with fail;refine IZ.mono ?_;rintro e w2 ⟨⟨rv,rfl⟩,P,aH,aI,Q,aJ⟩;have HF:Hid (jV W0 f ts q X M w sb { L with av:=P } { σ with ak:=m (k+1) } w2):=by
      rw[pQ.o];have ay:Kept (λb=>b≠sb/\av.ownBlock≠some b/\L.pv.ownBlock≠some b) wr w2:=(Q7 F.o (λ_ h _=>h)).trans (Q.mono (λb _ h=>⟨h.1,h.2.1⟩));refine jV.trans T.o.1 T.o.2.1 T.o.2.2.1 T.o.2.2.2 (p.o.next ay (av:=P) (pv:=L.pv) (ag:=[(s,k),(k,s)].foldl (gI bJ) (m k)) (pk:=σ.picks) (st:=σ.status) ?_ aI ?_ ?_ (.inl rfl))
      ·have:=aH;rw[ada]at this;exact this
      ·rcases aJ with h | ⟨g,h,hg⟩
       ·exact .inl h
       ·exact .inr ⟨g,h,Q6 F.o.size hg⟩
      ·refine Zi p.o.pk ((Q7 F.o (λ_ h _=>h)).trans Q) (λg e=>?_);have K:=p.o.ne;exact⟨λH=>K.2.1 (H ▸ e),λH=>K.2.2.1 g H e⟩
     go_wp2;go_roundw
     case rel=>grind
     case measure=>simp[intOf]; omega
    ·have pQ:Hid (m (k+1)=m k):=by grind
     rw[Qv (by simpa using S)]at z;go_wp2_with fail;refine l.mono ?_;rintro e W ⟨rfl,d⟩;have B:=d.symm;subst B;go_wp2_with fail;refine z.mono ?_;rintro e W ⟨rfl,d⟩;have B:=d.symm;subst B;go_wp2;go_roundw
     case rel=>grind
     case measure=>simp[intOf]; omega
  ·have u:V=k:=by omega
   have HF:Hid (dz W0 f ts q X M w sb { σ with ak:=kM bJ s σ.groups σ.ak } wr):=by refine⟨{ L with av:=av },?_⟩;have:=HP.o;rw[<- u,HE.o]at this;exact this
   go_wp2;go_end0;exact⟨⟨_,rfl⟩,HF.o⟩
theorem TE(ts:List af)(q:ae)(b:aQ)(l:List aQ)(hk:k<l.length):(l.take (k+1)).foldl (iN ts q) b=iN ts q ((l.take k).foldl (iN ts q) b) (l.getD k pK):=jM _ b l pK hk
theorem fe.cells{L:tJ}(h:fe W0 f ts q X M w sb L σ)(bR:f.cells ts q=#[v0,v1,v2,v3,v4,v5,v6,v7,v8,v9,v10,v11,v12]):GB w sb 97 #[v0,v1,v2,v3,v4,v5,v6,v7,v8,v9,v10,v11,v12,.slice (some (aD L.gs 0)) σ.groups.length L.Su,L.av,.bool σ.cut,.pointer (some (aD L.bq 0)),L.pv,.int .i64 σ.status]:=by have:=h.blk;rw[bR]at this;exact this
theorem Y4(E:Env f ts q W0){L:tJ}(h:fe W0 f ts q X M w sb L σ)(bo:Option Addr)(bc:Nat)(bs:List (Nat × aQ))(hp:ed w bo (bs.map Prod.fst))(hpo:∀ a,bo=some a->a.block≠sb)(hbs:∀ x∈bs,aT 135 (λb=>¬ X b) w x.1 x.2)(hok:∀ x∈bs,kN q x.2)(hl:bs.length<=1000) :
  Calls Tryz.prog 94 #[.pointer (some (aD sb 0)),.int .u64 ((2 ^ q.src.xs.length-1:Nat):Int),.slice bo bs.length bc] w λe w'=>(∃ v,e=.returned v)/\∃ L',fe W0 f ts q X M w' sb L' { σ with bq:=(bs.map Prod.snd).foldl (iN ts q) σ.bq }/\Kept (λb=>¬ M b) w w':=by
 obtain⟨v0,v1,v2,v3,v4,v5,v6,v7,v8,v9,G,H,I,bR,-,-,-,-,-,-,-,-,aM,-⟩:=Z6 f ts q;have UH:=Zh hp;have MC:=Zh hpo;have zk:Hid ((bs.map Prod.fst).length=bs.length):=QQ _;obtain⟨O,W⟩:∃ B:Nat->aQ,B=λk=>((bs.map Prod.snd).take k).foldl (iN ts q) σ.bq:=⟨_,rfl⟩;obtain⟨BD,WQ⟩:∃ B:Nat->aQ,B=λk=>(bs.map Prod.snd).getD k pK:=⟨_,rfl⟩;have aP:Hid (∀ k,k<bs.length->O (k+1)=dV (O k) (df ts q (BD k))):=λk hk=>by rw[W,WQ]; exact TE ts q σ.bq _ (by rw[QQ]; exact hk)
 have HE:Hid (O bs.length=(bs.map Prod.snd).foldl (iN ts q) σ.bq):=by show _=_;rw[W];show ((bs.map Prod.snd).take bs.length).foldl _ _=_;rw[ZT (by simp)]
 have aR:Hid (O 0=σ.bq):=by show _=_; rw[W]; rfl
 have UM:Hid (∀ k,k<bs.length->aT 135 (λb=>¬ X b) w ((bs.map Prod.fst).getD k 0) (BD k)/\kN q (BD k)):=λk hk=>by grind
 have BG:Hid (∀ (x:World) (r:Nat) (t:aQ),Fz (λb=>¬ X b) W0 x->aT 135 (λb=>¬ X b) x r t->kN q t->Calls Tryz.prog 132 #[.agg #[v0,v1,v2,v3,v4,v5,v6,v7,v8,v9,G,H,I],.pointer (some (aD r 0))] x (lh 135 95 (λb=>¬ X b) x (df ts q t))):=λx r t hx hr ht=>by rw[<- bR];exact Na E hx r t hr ht
 have aS:Hid (∀ t,(df ts q t).length<=2):=λt=>by unfold df;split <;> simp
 have HH:Hid (fe W0 f ts q X M w sb { L with bq:=L.bq } { σ with bq:=O 0 }):=by rw[aR.o]; exact h
 have DX:=Zh bR;have ah:Hid (∀ b,¬ X b->b≠sb):=λb hb e=>hb (e ▸ h.sub _ h.msb);have aU:Hid (∀ b,¬ M b->b≠sb):=λb hb e=>hb (e ▸ h.msb);have aH:=h.cells bR;have c8:w.cell? (aD sb 8)=some (.int .u64 ((2 ^ q.src.xs.length-1:Nat):Int)):=by rw[<- aM]; exact aH.cell 8
 obtain⟨SS,aN⟩:∃ n:Nat,n=2 ^ q.src.xs.length-1:=⟨_,rfl⟩;rw[<- aN]at c8 ⊢;clear hp hpo hbs hok h W WQ bR aH aN aM E;generalize bs.map Prod.fst=bf at *;generalize (bs.map Prod.snd).foldl (iN ts q) σ.bq=R at *;generalize bs.length=bl at *;go_enter Tryz.func94,Tryz.ntmps94;go_wp2;go_loopw [18] (λiv wr=>∃ (k bp:Nat),k<=bl/\iv=.int .i64 (k:Int)/\Hid (fe W0 f ts q X M wr sb { L with bq:=bp } { σ with bq:=O k })/\Hid (Kept (λb=>b≠sb) w wr)) (λiv _=>bl-(intOf iv).toNat)
 case atStart=>exact⟨0,L.bq,QK _,rfl,HH.o,Q5 _ _⟩
 case round=>
  obtain⟨k,bp,hk,rfl,HA,HK⟩:=hrel;by_cases ag:k<bl
  ·obtain⟨tb,aZ,aX,aO⟩:=ed.get (UH.o.bI HK.o (λ_ a ha=>MC.o a ha)) (i:=k) (by rw[zk.o]; exact ag);subst aX;have ai:=aO k (by rw[zk.o]; exact ag);have P:=UM.o k ag;obtain⟨a,ha⟩:=eY (bf.getD k 0)
   rw[<- ha]at ai P;have aV:=Zh (P.1.bI (HK.o.mono λb _ hb=>ah.o b hb));have aW:=Zh P.2;have F:=HA.o.cells DX.o;simp only at F;have pQ:=aP.o k ag;have Q:=BG.o wr.drew a (BD k) (HA.o.hz.next ((Qm _ _).drew)) (aV.o.below ((Qm _ _).drew)) aW.o;have aI:=Zh (aS.o (BD k));generalize df ts q (BD k)=EN at *;have aJ:=Zh pQ;obtain⟨Y,az⟩:∃ v,v=Value.slice (some (aD L.gs 0)) σ.groups.length L.Su:=⟨_,rfl⟩;obtain⟨Z,aA⟩:∃ v,v=L.av:=⟨_,rfl⟩;obtain⟨aa,aB⟩:∃ v,v=L.pv:=⟨_,rfl⟩;rw[<- az,<- aA,<- aB]at F;have T:=Zh F;have Eh:Hid (Y=Value.slice (some (aD L.gs 0)) σ.groups.length L.Su/\Z=L.av/\aa=L.pv):=⟨az,aA,aB⟩;have aj:=F.at 16;have aK:wr.drew.cell? (aD sb 16)=some (.pointer (some (aD bp 0))):=aj;clear aO ha P F pQ az aA aB;obtain⟨D,aY⟩:∃ x,x=wr:=⟨_,rfl⟩;subst aY;go_wp2_with fail;refine QC (S:=λx=>Kept (λb=>b≠sb) D x/\∃ u,GB x sb 97 #[v0,v1,v2,v3,v4,v5,v6,v7,v8,v9,G,H,I,Y,Z,.bool σ.cut,u,aa,.int .i64 σ.status]) (by kernel_rfl) ⟨Q7 ((Qm D.heap.size D).drew) (λ_ hl _=>hl),_,T.o⟩ (λj=>?_);refine wt 0 (.pointer (some (aD sb 0))) j ?_;refine wt 1 (.pointer (some (aD sb 0))) j ?_;refine wt 2 (.pointer (some (aD sb 0))) j ?_;refine wt 3 (.pointer (some (aD sb 16))) j ?_;refine wt 5 (.pointer (some (aD sb 0))) j ?_;refine wt 6 (.pointer (some (aD sb 0))) j ?_;refine wt 7 (.pointer (some (aD sb 0))) j ?_;refine wT 8 (.agg #[v0,v1,v2,v3,v4,v5,v6,v7,v8,v9,G,H,I]) j (λx hx=>?_) ?_
   ·obtain⟨u,hu⟩:=hx.2;obtain⟨e0,e1,e2,e3,e4,e5,e6,e7,e8,e9,bg,bn,bu⟩:=hu.k13;go_simp
   refine wt 9 (.pointer (some (aD a 0))) j ?_;refine wJ 4 10 (λK m=>?_) λK m=>?_
   ·go_simp;refine m.o _ _ j λj=>?_
    clear m K;refine wR 10 λK m=>?_;go_simp;refine Z5 Q ?_;rintro e w2 ⟨v,us,rfl,C,d,aG⟩;have U:=(Qm D.heap.size D).drew.trans aG;have y:=T.o.keep (Q7 (s:=λb=>b<D.heap.size) U (λ_ h _=>h)) T.o.lt;have ak:=y.at 16;have au:us.length<=2:=by
     have h1:us.length=EN.length:=by rw[<- C,QQ]
     rw[h1];exact aI.o
    obtain⟨ua,uc,rfl,J,-,-,-⟩:=nS (xs:=us.map Prod.fst) d.own (by rw[d.len]; omega);rw[d.len]at d ⊢;refine m.o _ _ ⟨Q7 U (λ_ h _=>h),_,y⟩ (λj=>?_);clear m K;have z:=zX bp (O k) ((HA.o.bq).own U (v:=.slice ua us.length uc) (λg e=>(Zj d.own e).1)) ua uc us J (λx hx=>(d.tree x hx).1) (by omega);rw[C,<- aJ.o]at z;refine wR 11 λK m=>?_;go_simp;refine Z5 z ?_;rintro e w3 ⟨r,rfl,hT,N⟩;have V:=aF U N;have l:=T.o.keep (Q7 (s:=λb=>b<D.heap.size) V (λ_ h _=>h)) T.o.lt;refine m.o _ _ ⟨Q7 V (λ_ h _=>h),_,l⟩ (λj=>?_);clear m K;refine wt 12 (.pointer (some (aD sb 0))) j ?_;refine wt 13 (.pointer (some (aD sb 16))) j ?_;have ax:=l.at 16;have ay:=l.frozen 16;have A:GB (w3.setCell (aD sb 16) (.pointer (some (aD r 0)))) sb 97 #[v0,v1,v2,v3,v4,v5,v6,v7,v8,v9,G,H,I,Y,Z,.bool σ.cut,.pointer (some (aD r 0)),aa,.int .i64 σ.status]:=l.set 16 _;have p:Kept (λb=>b≠sb) D (w3.setCell (aD sb 16) (.pointer (some (aD r 0)))):=(Q7 V (λ_ h _=>h)).trans (Zf _ _ _ (λh=>h rfl));refine wR 14 λK m=>?_;go_simp;refine m.o _ _ ⟨p,_,A⟩ (λj=>?_);clear m K;refine wD ?_;try simp only[pV]
    try simp only[pV]
    have HF:Hid (fe W0 f ts q X M (w3.setCell (aD sb 16) (.pointer (some (aD r 0)))) sb { L with bq:=r } { σ with bq:=O (k+1) }/\Kept (λb=>b≠sb) w (w3.setCell (aD sb 16) (.pointer (some (aD r 0))))):=⟨HA.o.better p (by
      rw[DX.o,Eh.o.1,Eh.o.2.1,Eh.o.2.2]at *;exact A) (hT.M9.bI (Zf _ _ _ (λh=>ah.o _ h rfl))),HK.o.trans p⟩
    clear j ax ay A p z hT N V l d J au C y aj aK ak ai Q;go_wp2;go_roundw
    case rel=>exact⟨k+1,r,by omega,by go_num,HF.o.1,HF.o.2⟩
    case measure=>simp[intOf]; omega
   ·go_simp;refine Z5 Q ?_;rintro e w2 ⟨v,us,rfl,C,d,aG⟩;have U:=(Qm D.heap.size D).drew.trans aG;have y:=T.o.keep (Q7 (s:=λb=>b<D.heap.size) U (λ_ h _=>h)) T.o.lt;have ak:=y.at 16;have au:us.length<=2:=by
     have h1:us.length=EN.length:=by rw[<- C,QQ]
     rw[h1];exact aI.o
    obtain⟨ua,uc,rfl,J,-,-,-⟩:=nS (xs:=us.map Prod.fst) d.own (by rw[d.len]; omega);rw[d.len]at d ⊢;refine m.o _ _ ⟨Q7 U (λ_ h _=>h),_,y⟩ (λj=>?_);clear m K;refine wR 4 λK m=>?_;go_simp;refine m.o _ _ j λj=>?_;clear m K;have z:=zX bp (O k) ((HA.o.bq).own U (v:=.slice ua us.length uc) (λg e=>(Zj d.own e).1)) ua uc us J (λx hx=>(d.tree x hx).1) (by omega);rw[C,<- aJ.o]at z;refine wR 11 λK m=>?_;go_simp;refine Z5 z ?_;rintro e w3 ⟨r,rfl,hT,N⟩;have V:=aF U N;have l:=T.o.keep (Q7 (s:=λb=>b<D.heap.size) V (λ_ h _=>h)) T.o.lt;refine m.o _ _ ⟨Q7 V (λ_ h _=>h),_,l⟩ (λj=>?_);clear m K;refine wt 12 (.pointer (some (aD sb 0))) j ?_;refine wt 13 (.pointer (some (aD sb 16))) j ?_;have ax:=l.at 16;have ay:=l.frozen 16;have A:GB (w3.setCell (aD sb 16) (.pointer (some (aD r 0)))) sb 97 #[v0,v1,v2,v3,v4,v5,v6,v7,v8,v9,G,H,I,Y,Z,.bool σ.cut,.pointer (some (aD r 0)),aa,.int .i64 σ.status]:=l.set 16 _;have p:Kept (λb=>b≠sb) D (w3.setCell (aD sb 16) (.pointer (some (aD r 0)))):=(Q7 V (λ_ h _=>h)).trans (Zf _ _ _ (λh=>h rfl));refine wR 14 λK m=>?_;go_simp;refine m.o _ _ ⟨p,_,A⟩ (λj=>?_);clear m K;refine wD ?_;try simp only[pV]
    try simp only[pV]
    have HF:Hid (fe W0 f ts q X M (w3.setCell (aD sb 16) (.pointer (some (aD r 0)))) sb { L with bq:=r } { σ with bq:=O (k+1) }/\Kept (λb=>b≠sb) w (w3.setCell (aD sb 16) (.pointer (some (aD r 0))))):=⟨HA.o.better p (by
      rw[DX.o,Eh.o.1,Eh.o.2.1,Eh.o.2.2]at *;exact A) (hT.M9.bI (Zf _ _ _ (λh=>ah.o _ h rfl))),HK.o.trans p⟩
    clear j ax ay A p z hT N V l d J au C y aj aK ak ai Q;go_wp2;go_roundw
    case rel=>exact⟨k+1,r,by omega,by go_num,HF.o.1,HF.o.2⟩
    case measure=>simp[intOf]; omega
  ·have aL:bl=k:=by omega
   have HF:Hid (∃ L',fe W0 f ts q X M wr sb L' { σ with bq:=R }/\Kept (λb=>¬ M b) w wr):=by refine⟨{ L with bq:=bp },?_,HK.o.mono λb _ hb=>aU.o b hb⟩;have:=HA.o;rw[<- aL,HE.o]at this;exact this
   clear aL;go_wp2;go_end0;exact⟨⟨_,rfl⟩,HF.o⟩
theorem sJ.pos(h:sJ q s g):0<g.length:=by obtain⟨a,r,rfl,-⟩:=h.head;simp
theorem adS(E:Env f ts q W0){L:tJ}(h:fe W0 f ts q X M w sb L σ)(hc:mM q σ)(hal:σ.ak.length<=900000)(s:Nat)(hs1:s<2 ^ q.src.xs.length-1)(bo:Option Addr)(bc:Nat)(bs:List (Nat × aQ))(hp:ed w bo (bs.map Prod.fst))(hpo:∀ a,bo=some a->¬ M a.block)(hbs:∀ x∈bs,aT 135 (λb=>¬ X b) w x.1 x.2)(hnd:(bs.map Prod.fst).Nodup)(hfr:∀ p∈σ.groups.getD s [],∀ x,p.2=some x->L.A s x.1 ∉ bs.map Prod.fst)(hl:bs.length<=1000)(M0:∀ x∈bs,IY q s x.2) :
  Calls Tryz.prog 94 #[.pointer (some (aD sb 0)),.int .u64 (s:Int),.slice bo bs.length bc] w λe w'=>(∃ v,e=.returned v)/\dz W0 f ts q X M w sb (cO bJ ts q s (bs.map Prod.snd) σ) w':=by
 obtain⟨v0,v1,v2,v3,v4,v5,v6,v7,v8,v9,V,W,Y,bR,-,-,-,-,-,-,-,-,Z,-⟩:=Z6 f ts q;have m:s<σ.groups.length:=by rw[hc.kT]; exact hs1
 have aj:2 ^ q.src.xs.length<=32:=QI (n:=2) (by omega) E.five;have O:σ.groups.length<=31:=by rw[hc.kT]; omega
 obtain⟨aa,z,ag,ah⟩:=h.jd s m;have B:=hc.jd s m;have i:=h.cells bR;have F:=h.vH s m;have P:=h.ne;have G:Hid (cO bJ ts q s (bs.map Prod.snd) σ = { σ with groups:=σ.groups.set s (aK ts q (σ.groups.getD s []) (bs.map Prod.snd)).2,ak:=if (aK ts q (σ.groups.getD s []) (bs.map Prod.snd)).1=true then kM bJ s (σ.groups.set s (aK ts q (σ.groups.getD s []) (bs.map Prod.snd)).2) σ.ak else σ.ak }):=by show _=_;unfold cO;rw[Qu (by omega)]
 have D:=uX (ts:=ts) B (l:=bs.map Prod.snd) (λt ht=>by grind);have r:(aK ts q (σ.groups.getD s []) (bs.map Prod.snd)).2.length=(σ.groups.getD s []).length:=by have:=congrArg List.length D.2.2; simpa using this
 have Q:Hid (∀ x,Bw w x->Calls Tryz.prog 133 #[.slice (some (aD (L.gb s) 0)) (σ.groups.getD s []).length (L.LF s),.agg #[v0,v1,v2,v3,v4,v5,v6,v7,v8,v9,V,W,Y],.slice bo bs.length bc] x λe w'=>e=.returned (.bool (aK ts q (σ.groups.getD s []) (bs.map Prod.snd)).1)/\(∃ J,bM 135 160 (λb=>¬ X b) w' (L.gb s) J (L.os s) (aK ts q (σ.groups.getD s []) (bs.map Prod.snd)).2)/\Kept (λb=>b≠L.gb s) x w'):=λx d=>by rw[<- bR];exact MZ E (h.hz.next d) (aa.below d) (λhn=>hn (h.sub _ z)) B (L.LF s) ag ah bo bc bs (hp.below d) (λa e e'=>hpo a e (e' ▸ z)) (λy hy=>(hbs y hy).below d) hnd hfr hl M0
 have R:Hid (∀ (x:World) (J:Nat->Nat),Kept (λb=>b≠L.gb s) w x->bM 135 160 (λb=>¬ X b) x (L.gb s) J (L.os s) (aK ts q (σ.groups.getD s []) (bs.map Prod.snd)).2->fe W0 f ts q X M x sb { L with A:=λk=>if k=s then J else L.A k } { σ with groups:=σ.groups.set s (aK ts q (σ.groups.getD s []) (bs.map Prod.snd)).2 }):=λx J hk hg=>h.group m hk hg r;have lY:Hid (∀ (x:World) (L':tJ),fe W0 f ts q X M x sb L' { σ with groups:=σ.groups.set s (aK ts q (σ.groups.getD s []) (bs.map Prod.snd)).2 }->Calls Tryz.prog 134 #[.pointer (some (aD sb 0)),.int .u64 (s:Int)] x λe w'=>(∃ v,e=.returned v)/\dz W0 f ts q X M x sb { σ with groups:=σ.groups.set s (aK ts q (σ.groups.getD s []) (bs.map Prod.snd)).2,ak:=kM bJ s (σ.groups.set s (aK ts q (σ.groups.getD s []) (bs.map Prod.snd)).2) σ.ak } w'):=λx L' d=>
  S9 d s (by omega) (by grind) (λk hk=>by
   show 0<((σ.groups.set s _).getD k []).length;have au:k<σ.groups.length:=by grind
   rw[kC];split
   ·rw[r]; exact B.pos
   ·exact(hc.jd k au).pos) (λt ht=>(hc.task t ht).small E.five O) hal
 have av:Hid (∀ b,¬ M b->b≠L.gb s):=λb hb e=>hb (e ▸ z);have j:Hid (sb≠L.gb s/\L.gs≠L.gb s):=⟨λe=>(P.2.2.2 s m).1 e.symm,λe=>h.UW (e ▸ h.sub _ z)⟩;have aG:¬ ((s:Int)=((2 ^ q.src.xs.length-1:Nat):Int)):=by omega
 have T:w.cell? (aD sb 8)=some (.int .u64 ((2 ^ q.src.xs.length-1:Nat):Int)):=by rw[<- Z]; exact i.cell 8
 have H:=i.at 13;have ax:=Zh i;have aH:(s:Int)<(σ.groups.length:Int):=by omega
 generalize cO bJ ts q s (bs.map Prod.snd) σ=KN at *;generalize aK ts q (σ.groups.getD s []) (bs.map Prod.snd)=IM at *;obtain⟨I1,I2⟩:=IM;simp only at G Q R lY;generalize aB:2 ^ q.src.xs.length-1=SS at *;generalize (σ.groups.getD s []).length=ggl at *;generalize L.gb s=ggb at *;generalize L.LF s=ggc at *;generalize L.gs=ggs at *;generalize aF:σ.groups.length=gn at *;generalize L.Su=agX at *;clear h hc hal hp hpo hbs hnd hfr hl M0 m aj O aa z ag ah B i P D r bR Z aB aF hs1 E;go_enter Tryz.func94,Tryz.ntmps94;go_wp2_with fail;have i:=ax.o;obtain⟨a0,a1,a2,a3,a4,a5,a6,a7,a8,a9,ji,jE,I⟩:=i.k13;clear i;refine QC (S:=λx=>Kept (λb=>b≠ggb) w x) (by kernel_rfl) (Q7 ((Qm w.heap.size w).drew) (λ_ hl _=>hl)) (λg=>?_);refine wt 0 (.pointer (some (aD sb 0))) g ?_;refine wt 1 (.pointer (some (aD sb 0))) g ?_;refine wt 2 (.pointer (some (aD sb 13))) g ?_;refine wT 3 (.slice (some (aD ggs 0)) gn agX) g (λx d=>?_) ?_
 ·have e0:=XF d H j.o.1;go_simp
 refine wt 4 (.int .u64 (s:Int)) g ?_;refine wt 5 (.pointer (some (aD ggs s))) g ?_;refine wT 6 (.slice (some (aD ggb 0)) ggl ggc) g (λx d=>?_) ?_
 ·have e0:=XF d F j.o.2;go_simp
 refine wt 7 (.pointer (some (aD sb 0))) g ?_;refine wt 8 (.pointer (some (aD sb 0))) g ?_;refine wt 9 (.pointer (some (aD sb 0))) g ?_;refine wT 10 (.agg #[v0,v1,v2,v3,v4,v5,v6,v7,v8,v9,V,W,Y]) g (λx d=>?_) ?_
 ·have e0:=XF d a0 j.o.1;have e1:=XF d a1 j.o.1;have e2:=XF d a2 j.o.1;have e3:=XF d a3 j.o.1;have e4:=XF d a4 j.o.1;have e5:=XF d a5 j.o.1;have e6:=XF d a6 j.o.1;have e7:=XF d a7 j.o.1;have e8:=XF d a8 j.o.1;have e9:=XF d a9 j.o.1;have aI:=XF d ji j.o.1;have aJ:=XF d jE j.o.1;have aL:=XF d I j.o.1;go_simp
 refine wt 11 (.slice bo bs.length bc) g ?_;refine wR 12 λK hK=>?_;go_simp;refine Z5 (Q.o _ ((Qm w.heap.size w).drew)) ?_;rintro e w2 ⟨rfl,az,aA⟩;refine hK.o _ _ (g.trans aA) (λg=>?_);clear hK K;refine wR 13 λK hK=>?_;go_simp;refine hK.o _ _ g λg=>?_;clear hK K;refine wD ?_;try simp only[pV]
 try simp only[pV]
 obtain⟨J,N⟩:=az;have C:=g;have u:=R.o w2 J C N;have ay:=Zh u;have xg:=Zh (C.mono λb _ hb=>av.o b hb)
 cases I1 with
 | false =>
  have HF:Hid (dz W0 f ts q X M w sb KN w2):=by rw[G.o];exact⟨_,u.post xg.o⟩
  clear g N C u a0 a1 a2 a3 a4 a5 a6 a7 a8 a9 ji jE I F H T;go_wp2;go_end0;exact⟨⟨_,rfl⟩,HF.o⟩
 | true =>
  have U:=lY.o w2 _ u;clear g N C u a0 a1 a2 a3 a4 a5 a6 a7 a8 a9 ji jE I F H T;go_wp2_with fail;refine U.mono ?_;rintro e w3 ⟨⟨rv,rfl⟩,ai⟩;have HF:Hid (dz W0 f ts q X M w sb KN w3):=by
   rw[G.o];exact dz.trans xg.o (λ_ h=>h) (λ_ h=>.inl h) (λb=>⟨λh=>.inl h,λh=>by
    rcases h with h | h
    ·exact h
    ·exact ay.o.sub b h⟩) ai
  clear U ai;go_wp2;go_end0;exact⟨⟨_,rfl⟩,HF.o⟩
theorem Jg(E:Env f ts q W0){L:tJ}(h:fe W0 f ts q X M w sb L σ)(hc:mM q σ)(hal:σ.ak.length<=900000)(s:Nat)(hs1:s<2 ^ q.src.xs.length)(bo:Option Addr)(bc:Nat)(bs:List (Nat × aQ))(hp:ed w bo (bs.map Prod.fst))(hpo:∀ a,bo=some a->¬ M a.block)(hbs:∀ x∈bs,aT 135 (λb=>¬ X b) w x.1 x.2)(hnd:(bs.map Prod.fst).Nodup)(hfr:∀ k,k<σ.groups.length->∀ p∈σ.groups.getD k [],∀ x,p.2=some x->L.A k x.1 ∉ bs.map Prod.fst)(hl:bs.length<=1000)(M0:∀ x∈bs,IY q s x.2) :
  Calls Tryz.prog 94 #[.pointer (some (aD sb 0)),.int .u64 (s:Int),.slice bo bs.length bc] w λe w'=>(∃ v,e=.returned v)/\dz W0 f ts q X M w sb (cO bJ ts q s (bs.map Prod.snd) σ) w':=by
 by_cases n:s=2 ^ q.src.xs.length-1
 ·subst n;refine(Y4 E h bo bc bs hp (λa e l=>hpo a e (l ▸ h.msb)) hbs (λx m=>(M0 x m).ok) hl).mono ?_;rintro e w' ⟨hv,g,i,j⟩;refine⟨hv,g,?_⟩;have d:cO bJ ts q (2 ^ q.src.xs.length-1) (bs.map Prod.snd) σ = { σ with bq:=(bs.map Prod.snd).foldl (iN ts q) σ.bq }:=by unfold cO; rw[Qo rfl]
  rw[d];exact i.post j
 ·exact adS E h hc hal s (by omega) bo bc bs hp hpo hbs hnd (hfr s (by rw[hc.kT]; omega)) hl M0
theorem U3{x:World}{T:Array Value}(h:GB x sb t (#[v0,v1,v2,v3,v4,v5,v6,v7,v8,v9,v10,v11,v12]++T)):x.cell? (aD sb 0)=some v0/\x.cell? (aD sb 1)=some v1/\x.cell? (aD sb 2)=some v2/\x.cell? (aD sb 3)=some v3/\x.cell? (aD sb 4)=some v4/\x.cell? (aD sb 5)=some v5/\x.cell? (aD sb 6)=some v6/\x.cell? (aD sb 7)=some v7/\x.cell? (aD sb 8)=some v8/\x.cell? (aD sb 9)=some v9/\x.cell? (aD sb 10)=some v10/\x.cell? (aD sb 11)=some v11/\x.cell? (aD sb 12)=some v12:=by exact⟨(h.cell 0).trans (XW (by simp)),(h.cell 1).trans (XW (by simp)),(h.cell 2).trans (XW (by simp)),(h.cell 3).trans (XW (by simp)),(h.cell 4).trans (XW (by simp)),(h.cell 5).trans (XW (by simp)),(h.cell 6).trans (XW (by simp)),(h.cell 7).trans (XW (by simp)),(h.cell 8).trans (XW (by simp)),(h.cell 9).trans (XW (by simp)),(h.cell 10).trans (XW (by simp)),(h.cell 11).trans (XW (by simp)),(h.cell 12).trans (XW (by simp))⟩
theorem K5{bs:List (Nat × aQ)}(h:(bs.map Prod.fst).Pairwise (· < ·)):(bs.map Prod.fst).Nodup:=h.imp λa=>Nat.ne_of_lt a
theorem TG(ts:List af)(q:ae)(conc:List Nat)(h8:conc.length<=8)(a b:List aj)(ha:a.length<=20):(fK ts q conc a b).length<=340:=by
 have d:(dG a).length<=20:=Q6 (by have:=yB a []; simpa [dG] using this) ha;unfold fK;have key:∀ l:List (Nat × aQ),(l.flatMap λx=>dX ts q conc x.2 b).length<=17*l.length:=by
  intro l
  induction l with
  | nil => simp
  | cons x l ih =>
   rw[ZF,QP,QV];have:=(CW ts q conc x.2 b h8).2;omega
 exact Q6 (key _) (by omega)
theorem fe.old{L:tJ}(h:fe W0 f ts q X M w sb L σ)(hk:k<σ.groups.length){p:aj}(hp:p∈σ.groups.getD k []){y:Nat × aQ}(hy:p.2=some y):L.A k y.1<w.heap.size:=((h.jd k hk).1.tree p hp y hy).lt
theorem agZ(E:Env f ts q W0){L:tJ}(h:fe W0 f ts q X M w sb L σ)(hc:mM q σ)(hal:σ.ak.length<=900000)(i:Nat)(hi:i<q.src.xs.length) :
  Calls Tryz.prog 58 #[.pointer (some (aD sb 0)),.agg #[.int .u64 ((2 ^ i:Nat):Int),.int .u64 0]] w λe w'=>(∃ v,e=.returned v)/\dz W0 f ts q X M w sb (qM bJ ts q (aN ts q) (2 ^ i,0) σ) w':=by
 obtain⟨v0,v1,v2,v3,v4,v5,v6,v7,v8,v9,C,D,F,bR,-⟩:=Z6 f ts q;have h5:=E.five;have N:2 ^ i<2 ^ q.src.xs.length:=ZN (by omega) hi;have au:2 ^ q.src.xs.length<=32:=QI (n:=2) (by omega) h5;have HD:Hid (qM bJ ts q (aN ts q) (2 ^ i,0) σ=cO bJ ts q (2 ^ i) [bQ ts q (aN ts q) (i:Int)] σ):=by show _=_;unfold qM;rw[Qo rfl,rY i (by omega)]
 have A:=nR ts q (conc:=aN ts q) (ZB ts q) (s:=(i:Int)) (by omega) (by omega);have O:0<2 ^ i:=ZU (by omega);have P:0<(cZ (2 ^ i)).length/\(cZ (2 ^ i)).length<=64:=by
  refine⟨?_,acS _⟩;have:i=0∨i=1∨i=2∨i=3∨i=4:=by omega
  rcases this with rfl | rfl | rfl | rfl | rfl <;> decide
 have Bq:Hid (∀ x,Calls Tryz.prog 96 #[.int .u64 ((2 ^ i:Nat):Int)] x λe w'=>∃ v,e=.returned v/\w'.ownsRow x.heap.size 3 1 v (cZ (2 ^ i)).length ((cZ (2 ^ i)).map (Value.int .i64))/\Bw x w'):=λx=>Ez (2 ^ i) (by omega) x;have av:=Zh (rY i (by omega));have ax:Hid (∀ x,Bw w x->Calls Tryz.prog 95 #[.agg #[v0,v1,v2,v3,v4,v5,v6,v7,v8,v9,C,D,F],.int .i64 (i:Int)] x (dw 135 (λb=>¬ X b) x (bQ ts q (aN ts q) (i:Int)))):=λx u=>by rw[<- bR];exact M8 E (h.hz.next u) (i:Int) (by omega) (by omega)
 have Pn:Hid (∀ (x:World) (c r:Nat),Bw w x->w.heap.size<=r->w.heap.size<=c->x.cell? (aD c 0)=some (.pointer (some (aD r 0)))->aT 135 (λb=>¬ X b) x r (bQ ts q (aN ts q) (i:Int))->Calls Tryz.prog 94 #[.pointer (some (aD sb 0)),.int .u64 ((2 ^ i:Nat):Int),.slice (some (aD c 0)) 1 1] x λe w'=>(∃ v,e=.returned v)/\dz W0 f ts q X M x sb (qM bJ ts q (aN ts q) (2 ^ i,0) σ) w'):=λx c r u hr aO aI ht=>by
  rw[HD.o];exact Jg E (h.below u) hc hal (2 ^ i) N (some (aD c 0)) 1 [(r,bQ ts q (aN ts q) (i:Int))] ⟨by simp,λj hj=>⟨c,0,rfl,by
   grind⟩⟩ (λa e J=>by injection e with e; rw[<- e]at J; have:=(h.lt (h.sub _ J)).2; grind) (λy hy=>by grind) (by simp) (λk hk p hp y hy J=>by
    rw[List.map_singleton,Zy]at J;have:=h.old hk hp hy;omega) (by simp) (λy hy=>by rw[Zy]at hy; rw[hy]; exact⟨A.1,A.2.1,by grind⟩)
 have ay:=Zh h;have DX:=Zh bR;have TH:=h.blk;rw[bR]at TH;have Q:Hid (∀ b,w.heap.size<=b->¬ M b):=λb hb J=>by have:=(h.lt (h.sub _ J)).2; omega
 have B:∀ x,Cb 93 #[.agg #[.int .u64 ((2 ^ i:Nat):Int),.int .u64 0]] x (.bool true):=λx=>yH (2 ^ i) 0 x;clear h hc hal hi h5 N au HD A O E bR;generalize qM bJ ts q (aN ts q) (2 ^ i,0) σ=DN at *;generalize bQ ts q (aN ts q) (i:Int)=ST at *;generalize cZ (2 ^ i)=RL at *;obtain⟨tl,W⟩:∃ n,n=2 ^ i:=⟨_,rfl⟩;rw[<- W]at Bq Pn B ⊢;clear W;obtain⟨T,hT⟩:=eY (jA L σ);rw[<- hT]at TH;have sI:=Zh TH;clear TH hT;obtain⟨w1,aB,G,Y⟩:=bn w #[.int .u64 (tl:Int),.int .u64 0] 122;obtain⟨t0,t1⟩:=Y.k2;have az:=Zh G;have uk:=Zh (sI.o.keep (Q7 (s:=λb=>b<w.heap.size) G (λ_ h _=>h)) sI.o.lt);have R:=B w1;clear G Y B;go_enter Tryz.func58,Tryz.ntmps58;go_wp2_with fail;refine R.mono ?_;rintro e z ⟨rfl,t⟩;clear R aB;have s0:=cB t t0;have m:=Zh (aF az.o t);have l:=Zh (uk.o.keep (Q7 (s:=λb=>b<w1.heap.size) t (λ_ h _=>h)) uk.o.lt);clear t t0 t1;go_wp2_with fail;refine QC (S:=λx=>Kept (λb=>¬ M b) z x/\∃ T,GB x sb 97 (#[v0,v1,v2,v3,v4,v5,v6,v7,v8,v9,C,D,F]++T)) (by kernel_rfl) ⟨Q7 ((Qm z.heap.size z).drew) (λ_ hl _=>hl),_,l.o⟩ (λd=>?_);refine wt 0 (.pointer (some (aD sb 0))) d ?_;refine wt 1 (.pointer (some (aD w.heap.size 0))) d ?_;refine wT 2 (.int .u64 (tl:Int)) d (λx u=>?_) ?_
 ·have e0:=XF u.1 s0 (Q.o _ (Qn _));go_simp
 refine wt 3 (.pointer (some (aD sb 0))) d ?_;refine wt 4 (.pointer (some (aD sb 0))) d ?_;refine wt 5 (.pointer (some (aD sb 0))) d ?_;refine wT 6 (.agg #[v0,v1,v2,v3,v4,v5,v6,v7,v8,v9,C,D,F]) d (λx u=>?_) ?_
 ·obtain⟨T2,ET⟩:=u.2;obtain⟨e0,e1,e2,e3,e4,e5,e6,e7,e8,e9,aJ,aK,aL⟩:=U3 ET;go_simp
 refine wt 7 (.pointer (some (aD w.heap.size 0))) d ?_;refine wT 8 (.int .u64 (tl:Int)) d (λx u=>?_) ?_
 ·have e0:=XF u.1 s0 (Q.o _ (Qn _));go_simp
 refine wR 9 λK g=>?_;go_simp;refine Z5 (Bq.o _) ?_;rintro e w3 ⟨v,rfl,hv,Z⟩;have I:=(Qm z.heap.size z).drew.trans Z;obtain⟨iv,qd,vE,nU,-⟩:=pG hv (by omega);obtain⟨ja,jc,jx⟩:=iv;simp only[ai.val]at qd vE nU;subst vE;subst qd;obtain⟨jb,aM,rfl,aa⟩:=Qf nU.2 P.1;have j0:=aa 0 P.1;rw[ZG,av.o]at j0;have Du:=Zh (l.o.keep (Q7 (s:=λb=>b<z.heap.size) I (λ_ h _=>h)) l.o.lt);refine g.o _ _ ⟨Q7 I (λ_ h _=>h),_,Du.o⟩ (λd=>?_);clear g K hv nU aa;refine wR 10 λK g=>?_;go_simp;refine g.o _ _ d λd=>?_;clear g K;refine wR 11 λK g=>?_;go_simp;refine g.o _ _ d λd=>?_;clear g K;refine wR 12 λK g=>?_;go_simp;refine Z5 (ax.o _ (aF m.o I)) ?_;rintro e w4 ⟨r,rfl,ag,aG,aH,ah⟩;have U:=aF I ah;refine g.o _ _ ⟨Q7 U (λ_ h _=>h),_,l.o.keep (Q7 (s:=λb=>b<z.heap.size) U (λ_ h _=>h)) l.o.lt⟩ (λd=>?_);clear g K;refine wR 13 λK g=>?_;go_simp;obtain⟨w6,mE⟩:∃ x,x=w4.alloc (.cells #[.pointer (some (aD r 0))] 95):=⟨_,rfl⟩;have Kt:Bw w4 w6:=by rw[mE]; exact fq _ _
 have V:=aF U Kt;have c6:w6.cell? (aD w4.heap.size 0)=some (.pointer (some (aD r 0))):=by rw[mE]; simp
 rw[<- mE];clear mE;have vo:=Zh (aF m.o V);refine g.o _ _ ⟨Q7 V (λ_ h _=>h),_,l.o.keep (Q7 (s:=λb=>b<z.heap.size) V (λ_ h _=>h)) l.o.lt⟩ (λd=>?_);clear g K;refine wR 14 λK g=>?_;go_simp;refine Z5 (Pn.o w6 w4.heap.size r vo.o (by have:=m.o.size; have:=I.size; omega) (by have:=m.o.size; have:=U.size; omega) c6 (ag.below Kt)) ?_;rintro e w7 ⟨⟨rv,rfl⟩,H⟩;have aA:=H;obtain⟨L7,X7,M7,aj,gV,-⟩:=aA;refine g.o _ _ ⟨(Q7 V (λ_ h _=>h)).trans gV,_,by have:=aj.blk; rw[DX.o]at this; exact this⟩ (λd=>?_);clear g K aj gV c6 Kt V ag aG aH ah U I Z j0;refine wD ?_;try simp only[pV]
 try simp only[pV]
 have HF:Hid (dz W0 f ts q X M w sb DN w7):=dz.trans (Q7 vo.o (λ_ h hb=>h)) (λ_ h=>h) (λ_ h=>.inl h) (λb=>⟨λh=>.inl h,λh=>by
  rcases h with h | h
  ·exact h
  ·exact ay.o.sub b h⟩) H
 clear d H s0;go_wp2;refine Xh (results_none rfl _ _ _) rfl ?_;exact⟨⟨_,rfl⟩,HF.o⟩
theorem ag0(E:Env f ts q W0){L:tJ}(h:fe W0 f ts q X M w sb L σ)(hc:mM q σ)(hal:σ.ak.length<=900000)(tl tr:Nat)(hr0:tr≠0)(hl1:tl<σ.groups.length)(hr1:tr<σ.groups.length)(hlr:tl &&& tr=0)(hhr:(bC (σ.groups.getD tr [])).isSome=true) :
  Calls Tryz.prog 58 #[.pointer (some (aD sb 0)),.agg #[.int .u64 (tl:Int),.int .u64 (tr:Int)]] w λe w'=>(∃ v,e=.returned v)/\dz W0 f ts q X M w sb (qM bJ ts q (aN ts q) (tl,tr) σ) w':=by
 obtain⟨v0,v1,v2,v3,v4,v5,v6,v7,v8,v9,A,B,C,bR,-⟩:=Z6 f ts q;have h5:=E.five;have ay:2 ^ q.src.xs.length<=32:=QI (n:=2) (by omega) h5;have az:=hc.kT;have HD:Hid (qM bJ ts q (aN ts q) (tl,tr) σ=cO bJ ts q (tl|||tr) (fK ts q (aN ts q) (σ.groups.getD tl []) (σ.groups.getD tr [])) σ):=by show _=_;unfold qM;rw[Qu hr0]
 have Q:tl|||tr<2 ^ q.src.xs.length:=pW (by omega) (by omega);have R:=rV (ts:=ts) (ZB ts q) hlr (hc.jd tl hl1) (hc.jd tr hr1) hhr;have h8:(aN ts q).length<=8:=by rw[ZB]; exact E.eight
 have aA:=TG ts q (aN ts q) h8 (σ.groups.getD tl []) (σ.groups.getD tr []) (hc.jd tl hl1).short;have aB:Hid (∀ x,Bw w x->Calls Tryz.prog 97 #[.agg #[v0,v1,v2,v3,v4,v5,v6,v7,v8,v9,A,B,C],.slice (some (aD (L.gb tl) 0)) (σ.groups.getD tl []).length (L.LF tl),.slice (some (aD (L.gb tr) 0)) (σ.groups.getD tr []).length (L.LF tr)] x (lh 135 95 (λb=>¬ X b) x (fK ts q (aN ts q) (σ.groups.getD tl []) (σ.groups.getD tr [])))):=λx j=>by rw[<- bR];exact Yn E (h.hz.next j) ((h.jd tl hl1).1.below j) (hc.jd tl hl1).short (L.LF tl) (λp hp y hy=>((hc.jd tl hl1).all p hp y hy).1) ((h.jd tr hr1).1.below j) (hc.jd tr hr1).short (L.LF tr) (λp hp y hy=>((hc.jd tr hr1).all p hp y hy).1) hhr
 have Pn:Hid (∀ (x x0:World) (v:Value) (bs:List (Nat × aQ)),Bw w x0->Bw x0 x->bs.map Prod.snd=fK ts q (aN ts q) (σ.groups.getD tl []) (σ.groups.getD tr [])->dC 135 95 (λb=>¬ X b) x0.heap.size x v bs->∃ bo bc,v=.slice bo bs.length bc/\Calls Tryz.prog 94 #[.pointer (some (aD sb 0)),.int .u64 ((tl|||tr:Nat):Int),.slice bo bs.length bc] x λe w'=>(∃ v,e=.returned v)/\dz W0 f ts q X M x sb (qM bJ ts q (aN ts q) (tl,tr) σ) w'):=λx x0 v bs N j F g=>by
  have aS:bs.length<=340:=by grind
  obtain⟨bo,bc,rfl,aM,-,-,aO⟩:=nS (xs:=bs.map Prod.fst) g.own (by rw[g.len]; omega);rw[g.len]at g ⊢;refine⟨bo,bc,rfl,?_⟩;rw[HD.o,<- F];exact Jg E (h.below (aF N j)) hc hal (tl|||tr) Q bo bc bs aM (λa e hm=>by have h1:=(h.lt (h.sub _ hm)).2; have h2:=aO a e; have:=N.size; omega) (λy hy=>(g.tree y hy).1.M9) (K5 g.rise) (λk hk p hp y hy hm=>by
   obtain⟨z,hz,e⟩:=QZ.1 hm;have h1:=h.old hk hp hy;have h2:=(g.tree z hz).2.1;have h3:=N.size;rw[e]at h2;omega) (by omega) (λy hy=>R y.2 (by grind))
 have aG:=Zh h;have DX:=Zh bR;have TH:=h.cells bR;have t:=h.blk;rw[bR]at t;have G:=TH.at 13;have U:=h.vH tl hl1;have V:=h.vH tr hr1;have W:Hid (∀ b,w.heap.size<=b->¬ M b):=λb hb hm=>by have:=(h.lt (h.sub _ hm)).2; omega
 have Y:∀ x,Cb 93 #[.agg #[.int .u64 (tl:Int),.int .u64 (tr:Int)]] x (.bool false):=λx=>by
  have:=yH tl tr x
  rwa [ZW hr0]at this
 have aH:(tl:Int)<(σ.groups.length:Int):=by omega
 have aI:(tr:Int)<(σ.groups.length:Int):=by omega
 have aJ:Hid (∀ (b:Nat) (x:World),x.cell? (aD b 0)=some (.int .u64 (tl:Int))->x.cell? (aD b 1)=some (.int .u64 (tr:Int))->Ce 91 #[.slice (some (aD b 0)) 2 2] x (.int .u64 ((tl|||tr:Nat):Int))):=λb x h0 h1=>kW b tl tr x h0 h1 (by omega) (by omega);clear h hc hal hhr hlr h5 ay az HD Q R h8 aA TH E bR hl1 hr1 hr0;generalize qM bJ ts q (aN ts q) (tl,tr) σ=DN at *;generalize fK ts q (aN ts q) (σ.groups.getD tl []) (σ.groups.getD tr [])=JT at *;generalize (σ.groups.getD tl []).length=gll at *;generalize (σ.groups.getD tr []).length=glr at *;generalize L.gb tl=gbl at *;generalize L.gb tr=gbr at *;generalize L.LF tl=gcl at *;generalize L.LF tr=gcr at *;obtain⟨T,hT⟩:=eY (jA L σ);rw[<- hT]at t;generalize L.gs=ggs at *;obtain⟨gn,ai⟩:∃ n,n=σ.groups.length:=⟨_,rfl⟩;rw[<- ai]at G aH aI;generalize L.Su=agX at *;have sI:=Zh t;clear t hT ai;generalize (tl|||tr)=TOR at *;obtain⟨w1,aP,aj,au⟩:=bn w #[.int .u64 (tl:Int),.int .u64 (tr:Int)] 122;obtain⟨t0,t1⟩:=au.k2;have aK:=Zh aj;have Z:=Y w1;clear aj au Y;go_enter Tryz.func58,Tryz.ntmps58;go_wp2_with fail;refine Z.mono ?_;rintro e w2 ⟨rfl,D⟩;clear Z aP;have l:=aF aK.o D;have s0:=cB D t0;have s1:=cB D t1;have H:=cB l G;have dl:=cB l U;have dr:=cB l V;have aa:=Zh l;clear D l t0 t1 G U V;go_wp2_with fail;refine wH w2 λd=>?_;refine wt 0 (.pointer (some (aD sb 0))) d ?_;refine wt 1 (.pointer (some (aD sb 0))) d ?_;refine wt 2 (.pointer (some (aD sb 13))) d ?_;refine l8 3 (.slice (some (aD ggs 0)) gn agX) d H ?_;refine wt 4 (.pointer (some (aD w.heap.size 0))) d ?_;refine l8 5 (.int .u64 (tl:Int)) d s0 ?_;refine wt 6 (.pointer (some (aD ggs tl))) d ?_;refine l8 7 (.slice (some (aD gbl 0)) gll gcl) d dl ?_;refine wt 8 (.pointer (some (aD sb 0))) d ?_;refine wt 9 (.pointer (some (aD sb 0))) d ?_;refine wt 10 (.pointer (some (aD sb 13))) d ?_;refine l8 11 (.slice (some (aD ggs 0)) gn agX) d H ?_;refine wt 12 (.pointer (some (aD w.heap.size 1))) d ?_;refine l8 13 (.int .u64 (tr:Int)) d s1 ?_;refine wt 14 (.pointer (some (aD ggs tr))) d ?_;refine l8 15 (.slice (some (aD gbr 0)) glr gcr) d dr ?_;refine wt 16 (.slice (some (aD gbl 0)) gll gcl) d ?_;refine wR 17 λK i=>?_;go_simp;refine i.o _ _ d λd=>?_;clear i K;refine wD ?_;try simp only[pV]
 try simp only[pV]
 have u:=Zh aa.o.drew;have Du:=Zh (sI.o.keep (Q7 (s:=λb=>b<w.heap.size) u.o (λ_ h _=>h)) sI.o.lt);have r0:w2.drew.cell? (aD w.heap.size 0)=some (.int .u64 (tl:Int)):=s0;have r1:w2.drew.cell? (aD w.heap.size 1)=some (.int .u64 (tr:Int)):=s1;clear d s0 s1 H dl dr aa;generalize w2.drew=w3 at *;go_wp2_with fail;refine QC (S:=λx=>Kept (λb=>¬ M b) w3 x/\∃ T,GB x sb 97 (#[v0,v1,v2,v3,v4,v5,v6,v7,v8,v9,A,B,C]++T)) (by kernel_rfl) ⟨Q7 ((Qm w3.heap.size w3).drew) (λ_ hl _=>hl),_,Du.o⟩ (λd=>?_);refine wt 0 (.pointer (some (aD sb 0))) d ?_;refine wt 1 (.pointer (some (aD w.heap.size 0))) d ?_;refine wT 2 (.int .u64 (tl:Int)) d (λx j=>?_) ?_
 ·have e0:=XF j.1 r0 (W.o _ (Qn _));go_simp
 refine wt 3 (.pointer (some (aD w.heap.size 1))) d ?_;refine wT 4 (.int .u64 (tr:Int)) d (λx j=>?_) ?_
 ·have e0:=XF j.1 r1 (W.o _ (Qn _));go_simp
 refine wt 7 (.pointer (some (aD sb 0))) d ?_;refine wt 8 (.pointer (some (aD sb 0))) d ?_;refine wt 9 (.pointer (some (aD sb 0))) d ?_;refine wT 10 (.agg #[v0,v1,v2,v3,v4,v5,v6,v7,v8,v9,A,B,C]) d (λx j=>?_) ?_
 ·obtain⟨T2,ET⟩:=j.2;obtain⟨e0,e1,e2,e3,e4,e5,e6,e7,e8,e9,aT,aU,aV⟩:=U3 ET;go_simp
 refine wt 11 (.slice (some (aD gbl 0)) gll gcl) d ?_;refine wt 12 (.slice (some (aD gbr 0)) glr gcr) d ?_;refine wR 5 λK i=>?_;go_simp;obtain⟨P,r⟩:∃ x,x=(w3.alloc (.cells #[.int .u64 (tl:Int),.int .u64 (tr:Int)] 64)).drew:=⟨_,rfl⟩;have O:Bw w3 P:=by rw[r]; exact(fq _ _).drew
 have u0:P.cell? (aD w3.heap.size 0)=some (.int .u64 (tl:Int)):=by rw[r]; exact(GB.alloc w3 _ _).cell 0
 have u1:P.cell? (aD w3.heap.size 1)=some (.int .u64 (tr:Int)):=by rw[r]; exact(GB.alloc w3 _ _).cell 1
 rw[<- r];clear r;have ag:∀ x,Bw w3 x->GB x sb 97 (#[v0,v1,v2,v3,v4,v5,v6,v7,v8,v9,A,B,C]++T):=λx j=>Du.o.keep (Q7 (s:=λb=>b<w3.heap.size) j (λ_ h _=>h)) Du.o.lt;have ah:=Zh ag;clear ag;refine i.o _ _ ⟨Q7 O (λ_ h _=>h),_,ah.o _ O⟩ (λd=>?_);clear i K;refine wR 6 λK i=>?_;go_simp;refine Z5 (aJ.o w3.heap.size P u0 u1) ?_;rintro e wz ⟨rfl,aR⟩;have rA:=aR.symm;subst rA;refine i.o _ _ d λd=>?_;clear i K u0 u1;refine wR 13 λK i=>?_;go_simp;refine Z5 (aB.o P (aF u.o O)) ?_;rintro e w6 ⟨v,bs,rfl,F,g,I⟩;obtain⟨bo,bc,rfl,av⟩:=Pn.o w6 P v bs (aF u.o O) I F g;have m:=aF O I;have vo:=Zh (aF u.o m);refine i.o _ _ ⟨Q7 m (λ_ h _=>h),_,ah.o _ m⟩ (λd=>?_);clear i K;refine wR 14 λK i=>?_;generalize bs.length=bl at *;go_simp;refine Z5 av ?_;rintro e w7 ⟨⟨rv,rfl⟩,J⟩;have aL:=J;obtain⟨L7,X7,M7,ax,gV,-⟩:=aL;refine i.o _ _ ⟨(Q7 m (λ_ h _=>h)).trans gV,_,by have:=ax.blk; rw[DX.o]at this; exact this⟩ (λd=>?_);clear i K ax gV m I O g F av;refine wD ?_;try simp only[pV]
 try simp only[pV]
 have HF:Hid (dz W0 f ts q X M w sb DN w7):=dz.trans (Q7 vo.o (λ_ h hb=>h)) (λ_ h=>h) (λ_ h=>.inl h) (λb=>⟨λh=>.inl h,λh=>by
  rcases h with h | h
  ·exact h
  ·exact aG.o.sub b h⟩) J
 clear d J r0 r1;go_wp2;go_end0;exact⟨⟨_,rfl⟩,HF.o⟩
theorem al2(E:Env f ts q W0){L:tJ}(h:fe W0 f ts q X M w sb L σ)(hc:mM q σ)(hal:σ.ak.length<=900000)(t:aO)(ht:mX q.src.xs.length σ.groups t) :
  Calls Tryz.prog 58 #[.pointer (some (aD sb 0)),.agg #[.int .u64 (t.1:Int),.int .u64 (t.2:Int)]] w λe w'=>(∃ v,e=.returned v)/\dz W0 f ts q X M w sb (qM bJ ts q (aN ts q) t σ) w':=by
 obtain⟨b,d⟩:=t;rcases ht with⟨a,i,hi,e⟩ | ⟨a,h1,h2,h3,h4,h6⟩
 ·have a:d=0:=a;have e:b=2 ^ i:=e;subst a e;exact agZ E h hc hal i hi
 ·exact ag0 E h hc hal b d a h1 h2 h3 h6
