import Derived.Test.YtbcgekghfgcakaaGreatDoorF20
import Derived.Test.YtbcgekghfgcakaaGreatDoorF22
set_option linter.all false
set_option maxRecDepth 100000
set_option maxHeartbeats 16000000
namespace Go.Proofs.Zz
open Go.RowKit Go.Shelf
theorem qU:∀ {g:List ai} {p:ai} {x:Nat × aW},p∈g->p.2=some x->x.1<dE g
 | (o,none)::g,p,x,hp,hx => by
  rcases QP.1 hp with rfl | hp
  ·cases hx
  ·exact qU (g:=g) hp hx
 | (o,some y)::g,p,x,hp,hx => by
  rcases QP.1 hp with rfl | hp
  ·injection hx with hx;rw[<- hx]
   show y.1<max (y.1+1) (dE g)
   omega
  ·have:=qU (g:=g) hp hx
   show x.1<max (y.1+1) (dE g)
   omega
def qh (A:Nat->Nat) (n a:Nat):Nat->Nat:=fun m=>if m=n then a else A m
def iW (n:Nat) (t:aW) (i:Nat) (g:List ai):List ai:=(g.take i).map (eQ n t)++g.drop i
theorem qV (n:Nat) (t:aW) (i:Nat) (g:List ai):(iW n t i g).length=g.length:=by
 unfold iW;rw[QT,QU,Q6,XI];omega
theorem vF (n:Nat) (t:aW) {i:Nat} {g:List ai} (hi:i<g.length):(iW n t i g).getD i mG=g.getD i mG:=by
 unfold iW;rw[Xq,QF (by rw[QU,Q6]; omega),QU,Q6,Qy (by omega),ZJ,XH,ZU,Xq]
theorem Rt (n:Nat) (t:aW) (g:List ai):iW n t 0 g=g:=by unfold iW; simp
theorem Vf (t:aW) (g:List ai):iW (dE g) t g.length g=ko g t:=by unfold iW ko; simp
theorem Dl (n:Nat) (t:aW) {i:Nat} {g:List ai} (hi:i<g.length):iW n t (i+1) g=(iW n t i g).set i (eQ n t (g.getD i mG)):=by
 unfold iW;rw[XB g mG hi,Ql,ZI _ _ (by rw[QU,Q6]; omega),QU,Q6,Qy (by omega),ZJ];have h2:g.drop i=g.getD i mG::g.drop (i+1):=by rw[Xc hi,Xq,ZG hi]; rfl
 rw[h2];simp
theorem Ru (l:List ai) {k:Nat} (hk:k<l.length):l.set k (l.getD k mG)=l:=by
 rw[Xq,ZG hk];exact List.set_getElem_self hk
theorem aax (n:Nat) (t:aW) {i:Nat} {g:List ai} (hi:i<g.length) (h:dN t (g.getD i mG)=false):iW n t (i+1) g=iW n t i g:=by
 rw[Dl n t hi];have:eQ n t (g.getD i mG)=(iW n t i g).getD i mG:=by rw[vF n t hi]; unfold eQ; rw[h]; rfl
 rw[this];exact Ru _ (by rw[qV]; exact hi)
theorem Vg (n:Nat) (t:aW) {i:Nat} {g:List ai} (hi:i<g.length) (h:dN t (g.getD i mG)=true):iW n t (i+1) g=(iW n t i g).set i ((g.getD i mG).1,some (n,t)):=by
 rw[Dl n t hi];unfold eQ;rw[Qr h]
theorem Ik {n:Nat} {t:aW} {i:Nat} {g:List ai} {p:ai} {x:Nat × aW} (hp:p∈iW n t i g) (hx:p.2=some x):x=(n,t)∨∃ p'∈g,p'.2=some x:=by
 unfold iW at hp;rcases QX.1 hp with hp | hp
 ·obtain⟨p0,hp0,rfl⟩:=Q0.1 hp;rcases vC hx with h | h
  ·exact .inl h
  ·exact .inr ⟨p0,ZX hp0,h⟩
 ·exact .inr ⟨p,List.mem_of_mem_drop hp,hx⟩
theorem Rv (t:aW) {i:Nat} {g:List ai} (hi:i<g.length):(g.take (i+1)).any (dN t)=((g.take i).any (dN t) || dN t (g.getD i mG)):=by
 rw[XB g mG hi,List.any_append];simp
theorem aX.retag {T Tp:TypeId} {F:Nat->Prop} {w:World} {gb:Nat} {A:Nat->Nat} {os:List ah} {g:List ai} (h:aX T Tp F w gb A os g) (a:Nat):aX T Tp F w gb (qh A (dE g) a) os g:=by
 have hA:∀ p∈g,∀ x,p.2=some x->qh A (dE g) a x.1=A x.1:=fun p hp x hx=>by
  unfold qh;rw[Qs (by have:=qU hp hx; omega)]
 obtain⟨c,hc,hi⟩:=h.blk;refine⟨⟨c,hc,fun i hil=>⟨(hi i hil).1,?_⟩⟩,h.ord,fun p hp x hx=>by rw[hA p hp x hx]; exact h.tree p hp x hx,fun p hp p' hp' x x' hx hx' e=>?_⟩
 ·rw[(hi i hil).2]
  cases hx:(g.getD i mG).2 with
  | none => rfl
  | some x =>
   show some (Value.pointer (some (aD (A x.1) 0)))=some (.pointer (some (aD (qh A (dE g) a x.1) 0)))
   rw[hA _ (kE hil) x hx]
 ·rw[hA p hp x hx,hA p' hp' x' hx'] at e;exact h.inj p hp p' hp' x x' hx hx' e
theorem aX.put {T Tp:TypeId} {F:Nat->Prop} {w:World} {gb:Nat} {A:Nat->Nat} {os:List ah} {g:List ai} (h:aX T Tp F w gb A os g) (hF:¬ F gb) {i n:Nat} {t:aW} (hi:i<g.length) (ht:aC T F w (A n) t) (hn:∀ p∈g,∀ x,p.2=some x->A x.1=A n->x.1=n) :
  aX T Tp F (w.setCell (aD gb (i*2+1)) (.pointer (some (aD (A n) 0)))) gb A os (g.set i ((g.getD i mG).1,some (n,t))):=by
 obtain⟨c,hc,hcc⟩:=h.blk;have hk:Kept F w (w.setCell (aD gb (i*2+1)) (.pointer (some (aD (A n) 0)))):=Zv _ _ _ hF;have hgd:∀ j,(g.set i ((g.getD i mG).1,some (n,t))).getD j mG=if i=j then ((g.getD i mG).1,some (n,t)) else g.getD j mG:=fun j=>by
  rw[Xq,List.getElem?_set,Xq];by_cases e:i=j
  ·rw[Qr e,Qr e];subst e;rw[Qr hi];rfl
  ·rw[Qs e,Qs e];rfl
 have hmem:∀ p∈g.set i ((g.getD i mG).1,some (n,t)),∀ x,p.2=some x->x=(n,t)∨∃ p'∈g,p'.2=some x:=fun p hp x hx=>by
  rcases List.mem_or_eq_of_mem_set hp with hp | rfl
  ·exact .inr ⟨p,hp,hx⟩
  ·injection hx with hx;exact .inl hx.symm
 have hsz:i*2+1<c.size:=by
  have:=(hcc i hi).2;exact (QI.1 this).1
 refine⟨⟨c.setIfInBounds (i*2+1) (.pointer (some (aD (A n) 0))),hc.set _ _,fun j hj=>?_⟩,fun j hj=>?_,fun p hp x hx=>?_,fun p hp p' hp' x x' hx hx' e=>?_⟩
 ·rw[XF] at hj;rw[XL,XL,Qs (by omega),hgd j];refine⟨(hcc j hj).1,?_⟩;by_cases e:i=j
  ·subst e;rw[Qr rfl,Qr hsz,Qr rfl];rfl
  ·rw[Qs (by omega),Qs e];exact (hcc j hj).2
 ·rw[XF] at hj;have:=h.ord j hj;refine⟨?_,this.2.1.aT hk,this.2.2⟩;rw[hgd j];by_cases e:i=j
  ·subst e;rw[Qr rfl];exact this.1
  ·rw[Qs e];exact this.1
 ·rcases hmem p hp x hx with rfl | ⟨p',hp',hx'⟩
  ·exact ht.aT hk
  ·exact (h.tree p' hp' x hx').aT hk
 ·rcases hmem p hp x hx with rfl | ⟨q,hq,hqx⟩
  ·rcases hmem p' hp' x' hx' with rfl | ⟨q',hq',aed⟩
   ·rfl
   ·exact (hn q' hq' x' aed e.symm).symm
  ·rcases hmem p' hp' x' hx' with rfl | ⟨q',hq',aed⟩
   ·exact hn q hq x hqx e
   ·exact h.inj q hq q' hq' x x' hqx aed e
theorem aX.frozen {T Tp:TypeId} {F:Nat->Prop} {w:World} {gb:Nat} {A:Nat->Nat} {os:List ah} {g:List ai} (h:aX T Tp F w gb A os g) (j:Nat):w.frozen? (aD gb j)=false:=by
 obtain⟨c,hc,_⟩:=h.blk;exact hc.frozen j
theorem aX.lt {T Tp:TypeId} {F:Nat->Prop} {w:World} {gb:Nat} {A:Nat->Nat} {os:List ah} {g:List ai} (h:aX T Tp F w gb A os g):gb<w.heap.size:=by
 obtain⟨c,hc,_⟩:=h.blk;exact hc.lt
theorem aC.lt {T:TypeId} {F:Nat->Prop} {w:World} {a:Nat} {t:aW} (h:aC T F w a t):a<w.heap.size:=by
 obtain⟨c,hc⟩:=h.blk;exact (QI.1 hc).1
theorem Ar:∀ (l:List aW) (x:Bool × List ai),(l.foldl kr x).2.length=x.2.length
 | [],_ => rfl
 | t::l,x => by rw[QO,Ar l]; exact uk _ _
theorem Il {t:aW} {p:ai} (h:p.2=none):dN t p=bO t.d.order p.1:=by
 unfold dN;rw[h];simp
theorem Im {t:aW} {p:ai} {y:Nat × aW} (h:p.2=some y):dN t p=(bO t.d.order p.1&&decide (t.d.cost<y.2.d.cost)):=by
 unfold dN;rw[h]
theorem Mh {t:aW} {p:ai} (h:bO t.d.order p.1=false):dN t p=false:=by
 unfold dN;rw[h];rfl
theorem Mi {A:Nat->Nat} {G:List ai} {bf:List Nat} {k:Nat} (hk:k<bf.length) (hnd:bf.Nodup) (h:∀ p∈G,∀ x,p.2=some x->A x.1 ∉ bf.drop k) (t:aW):∀ p∈iW (dE G) t G.length G,∀ x,p.2=some x->qh A (dE G) (bf.getD k 0) x.1 ∉ bf.drop (k+1):=by
 intro p hp x hx;have hd:bf.drop k=bf.getD k 0::bf.drop (k+1):=by rw[Xc hk,Xq,ZG hk]; rfl
 rcases Ik hp hx with rfl | ⟨p',hp',hx'⟩
 ·have:qh A (dE G) (bf.getD k 0) (dE G)=bf.getD k 0:=by unfold qh; rw[Qr rfl]
  show qh A (dE G) (bf.getD k 0) (dE G) ∉ _
  rw[this];have h2:(bf.drop k).Nodup:=hnd.sublist (List.drop_sublist _ _);rw[hd] at h2;exact (List.nodup_cons.1 h2).1
 ·have:qh A (dE G) (bf.getD k 0) x.1=A x.1:=by unfold qh; rw[Qs (by have:=qU hp' hx'; omega)]
  rw[this];intro hm;exact h p' hp' x hx' (by rw[hd]; exact Xm _ hm)
theorem Rx {A:Nat->Nat} {G:List ai} {bf:List Nat} {k i:Nat} (hk:k<bf.length) (h:∀ p∈G,∀ x,p.2=some x->A x.1 ∉ bf.drop k) (t:aW):∀ p∈iW (dE G) t i G,∀ x,p.2=some x->qh A (dE G) (bf.getD k 0) x.1=qh A (dE G) (bf.getD k 0) (dE G)->x.1=dE G:=by
 intro p hp x hx e;rcases Ik hp hx with rfl | ⟨p',hp',hx'⟩
 ·rfl
 ·have h1:qh A (dE G) (bf.getD k 0) x.1=A x.1:=by unfold qh; rw[Qs (by have:=qU hp' hx'; omega)]
  have h2:qh A (dE G) (bf.getD k 0) (dE G)=bf.getD k 0:=by unfold qh; rw[Qr rfl]
  rw[h1,h2] at e;exact absurd (by rw[Xc hk,e,Xq,ZG hk]; exact Xo) (h p' hp' x hx')
theorem Dm {F:Nat->Prop} {w:World} {gb:Nat} {A:Nat->Nat} {os:List ah} {g:List ai} (h:aX 120 195 F w gb A os g) (hF:¬ F gb) (hgl:g.length<=20) (gc:Nat) (bo:Option Addr) (bc:Nat) (bs:List (Nat × aW)) (hp:cK w bo (bs.map Prod.fst)) (hpo:∀ a,bo=some a->a.block≠gb) (hbs:∀ x∈bs,aC 120 F w x.1 x.2) (hnd:(bs.map Prod.fst).Nodup) (hfr:∀ p∈g,∀ x,p.2=some x->A x.1 ∉ bs.map Prod.fst) (hl:bs.length<=1000) :
  Calls Tryz.prog 221 #[.slice (some (aD gb 0)) g.length gc,.slice bo bs.length bc] w fun e w'=>e=.returned (.bool (iR g (bs.map Prod.snd)).1)/\(∃ A',aX 120 195 F w' gb A' os (iR g (bs.map Prod.snd)).2)/\Kept (fun b=>b≠gb) w w':=by
 have Oo:=Zh hp;have HPO:=Zh hpo;have mH:Hid ((bs.map Prod.fst).length=bs.length):=QU _;have HND:=Zh hnd;have YM:=Zh h;have HFR:Hid (∀ p∈g,∀ x,p.2=some x->A x.1 ∉ (bs.map Prod.fst).drop 0):=hfr;have HFG:Hid (∀ b,F b->b≠gb):=fun b hb e=>hF (e ▸ hb)
 have HNF:=Zh hF;obtain⟨XK,hXK⟩:∃ X:Nat->Bool × List ai,X=fun k=>((bs.map Prod.snd).take k).foldl kr (false,g):=⟨_,rfl⟩
 obtain⟨BD,Mj⟩:∃ C:Nat->aW,C=fun k=>(bs.map Prod.snd).getD k ll:=⟨_,rfl⟩
 have HST:Hid (∀ k,k<bs.length->(XK (k+1)).1=((XK k).1 || (XK k).2.any (dN (BD k)))/\(XK (k+1)).2=ko (XK k).2 (BD k)):=fun k hk=>by
  have e:XK (k+1)=kr (XK k) (BD k):=by
   rw[hXK,Mj];exact gy kr (false,g) (bs.map Prod.snd) ll (by rw[QU]; exact hk)
  rw[e];exact⟨rfl,rfl⟩
 have Ka:Hid (∀ k,(XK k).2.length=g.length):=fun k=>by rw[hXK]; exact Ar _ _
 have HE:Hid (XK bs.length=iR g (bs.map Prod.snd)):=by
  show _=_
  rw[hXK]
  show ((bs.map Prod.snd).take bs.length).foldl kr (false,g)=_
  rw[ZY (by rw[QU]; exact Qq _)];rfl
 have HX0:Hid (XK 0=(false,g)):=by show _=_; rw[hXK]; rfl
 have Ou:Hid (∀ k,k<bs.length->aC 120 F w ((bs.map Prod.fst).getD k 0) (BD k)):=fun k hk=>by
  have h1:(bs.map Prod.fst).getD k 0=(bs[k]).1:=by rw[Xq,QW,ZG hk]; rfl
  have h2:BD k=(bs[k]).2:=by rw[Mj]; show (bs.map Prod.snd).getD k ll=_; rw[Xq,QW,ZG hk]; rfl
  rw[h1,h2];exact hbs _ (Qj hk)
 clear hp hpo hbs hnd hfr h hXK Mj hF;generalize bs.map Prod.fst=bf at *;generalize iR g (bs.map Prod.snd)=R at *;generalize bs.length=bl at *;clear bs;obtain⟨R1,R2⟩:=R;simp only at *;obtain⟨gl,EM⟩:∃ gl,gl=g.length:=⟨_,rfl⟩
 rw[<- EM] at Ka hgl ⊢;clear EM;go_enter Tryz.func221,Tryz.ntmps221;go_wp2;go_loopw [5,12] (fun pv iv wr=>∃ (k:Nat) (Ak:Nat->Nat),k<=bl/\iv=.int .i64 (k:Int)/\pv=.bool (XK k).1/\Hid (aX 120 195 F wr gb Ak os (XK k).2)/\Hid (∀ p∈(XK k).2,∀ x,p.2=some x->Ak x.1 ∉ bf.drop k)/\Hid (Kept (fun b=>b≠gb) w wr)) (fun _ iv _=>bl-(intOf iv).toNat)
 case atStart=>exact⟨0,A,QQ _,rfl,by rw[HX0.out],by show aX 120 195 F _ _ _ _ _; rw[HX0.out]; exact YM.out,by show ∀ p∈_,_; rw[HX0.out]; exact HFR.out,Q7 _ _⟩
 case round=>
  obtain⟨k,Ak,hk,rfl,rfl,Io,HFK,HKK⟩:=hrel;by_cases hlt:k<bl
  ·obtain⟨bb,LW,hbo,hbc⟩:=cK.get (Oo.out.aT HKK.out (fun _ a ha=>HPO.out a ha)) (i:=k) (by rw[mH.out]; exact hlt);subst hbo;have hck:=hbc k (by rw[mH.out]; exact hlt);obtain⟨G,hG⟩:∃ G,G=(XK k).2:=⟨_,rfl⟩
   obtain⟨b0,hb0⟩:∃ b,b=(XK k).1:=⟨_,rfl⟩
   have ES:=HST.out k hlt;have hGl:=Ka.out k;rw[<- hG] at Io HFK ES hGl;rw[<- hb0] at ES ⊢;obtain⟨t,ht⟩:∃ t,t=BD k:=⟨_,rfl⟩
   have HTw:=Ou.out k hlt;rw[<- ht] at ES HTw;obtain⟨A',hA'⟩:∃ A',A' = qh Ak (dE G) (bf.getD k 0):=⟨_,rfl⟩
   obtain⟨a,ha⟩:∃ a,a=bf.getD k 0:=⟨_,rfl⟩
   have HAn:Hid (A' (dE G)=a):=by show _=_; rw[hA',ha]; unfold qh; rw[Qr rfl]
   have pR:Hid (aX 120 195 F wr gb A' os (iW (dE G) t 0 G)):=by show aX _ _ _ _ _ _ _ _; rw[Rt,hA']; exact Io.out.retag _
   have Vh:Hid (∀ i,∀ p∈iW (dE G) t i G,∀ x,p.2=some x->A' x.1=A' (dE G)->x.1=dE G):=fun i=>by rw[hA']; exact Rx (by rw[mH.out]; exact hlt) HFK.out t
   have HF2:Hid (∀ p∈iW (dE G) t G.length G,∀ x,p.2=some x->A' x.1 ∉ bf.drop (k+1)):=by rw[hA']; exact Mi (by rw[mH.out]; exact hlt) HND.out HFK.out t
   have aef:Hid (iW (dE G) t gl G=(XK (k+1)).2):=by show _=_; rw[ES.2,<- hGl]; exact Vf t G
   have HB1:Hid ((b0 || (G.take gl).any (dN t))=(XK (k+1)).1):=by show _=_; rw[ES.1,<- hGl,Qt]
   rw[<- ha] at hck HTw;have HTr:=Zh HTw;obtain⟨MB,hMB⟩:∃ M:Nat->Bool,M=fun i=>b0 || (G.take i).any (dN t):=⟨_,rfl⟩
   have HM0:Hid (MB 0=b0):=by show _=_; rw[hMB]; simp
   have HMS:Hid (∀ i,i<gl->MB (i+1)=(MB i || dN t (G.getD i mG))):=fun i hi=>by
    rw[hMB]
    show (b0 || (G.take (i+1)).any (dN t))=(b0 || (G.take i).any (dN t) || dN t (G.getD i mG))
    rw[Rv t (by rw[hGl]; exact hi),Bool.or_assoc]
   have HME:Hid (MB gl=(XK (k+1)).1):=by show _=_; rw[hMB]; exact HB1.out
   have anw:=Zh hGl;have HF3:Hid (∀ p∈(XK (k+1)).2,∀ x,p.2=some x->A' x.1 ∉ bf.drop (k+1)):=by
    have:=HF2.out;rw[hGl,aef.out] at this;exact this
   obtain⟨n,hn⟩:∃ n,n=dE G:=⟨_,rfl⟩
   rw[<- hn] at HAn pR Vh aef;clear hbc hG hb0 ES hGl HTw ht hA' ha HF2 HB1 hMB Io HFK hn;go_wp2;go_loopw [5,18] (fun pv iv wr=>∃ i:Nat,i<=gl/\iv=.int .i64 (i:Int)/\pv=.bool (MB i)/\Hid (aX 120 195 F wr gb A' os (iW n t i G))/\Hid (Kept (fun b=>b≠gb) w wr)) (fun _ iv _=>gl-(intOf iv).toNat)
   case atStart=>exact⟨0,QQ _,rfl,by rw[HM0.out],pR.out,HKK.out⟩
   case round=>
    obtain⟨i,hi,rfl,rfl,Ry,HKI⟩:=hrel;by_cases hil:i<gl
    ·have YN:i<G.length:=by rw[anw.out]; exact hil
     have hcc:=Ry.out.cells (i:=i) (by rw[qV]; exact YN);have Om:=Ry.out.ord i (by rw[qV]; exact YN);rw[vF n t YN] at hcc Om;have HMI:=HMS.out i hil;obtain⟨p,hP,yU⟩:=(HTr.out.aT (HKI.out.mono fun b _ hb=>HFG.out b hb)).jP;obtain⟨ov,hov⟩:∃ ov,ov=os.getD i dU:=⟨_,rfl⟩
     rw[<- hov] at hcc Om;obtain⟨q,hq⟩:∃ q,q=G.getD i mG:=⟨_,rfl⟩
     rw[<- hq] at hcc Om HMI;have HNO:Hid (dN t q=false->iW n t (i+1) G=iW n t i G):=fun e=>aax n t YN (by rw[<- hq]; exact e)
     have aaz:Hid (dN t q=true->aX 120 195 F wr gb A' os (iW n t i G)->∀ x,Kept (fun b=>b≠gb) w x->aX 120 195 F x gb A' os (iW n t i G)->aX 120 195 F (x.setCell (aD gb (i*2+1)) (.pointer (some (aD a 0)))) gb A' os (iW n t (i+1) G)):=fun e _ x hx hg=>by
      have h1:=hg.put HNF.out (i:=i) (n:=n) (t:=t) (by rw[qV]; exact YN) (by rw[HAn.out]; exact HTr.out.aT (hx.mono fun b _ hb=>HFG.out b hb)) (Vh.out i);rw[HAn.out,vF n t YN,<- hq] at h1;rw[Vg n t YN (by rw[<- hq]; exact e),<- hq];exact h1
     have eo:p.order.xs=t.d.order:=congrArg iG.order yU;have ec:p.cost=t.d.cost:=congrArg iG.cost yU;have nQ:Hid (∀ y,Below wr.heap.size wr y->Calls Tryz.prog 229 #[.slice p.order.ad p.order.xs.length p.order.cap,.slice ov.ad ov.xs.length ov.cap] y fun e w'=>e=.returned (.bool (bO t.d.order q.1))/\Below y.heap.size y w'):=fun y hy=>by
      rw[<- eo,<- Om.1];exact lV p.order.ad ov.ad p.order.cap ov.cap p.order.xs ov.xs y (Qo hy hP.ok.order) (Qo hy Om.2.1.at') hP.ok.cap
     have c3:wr.cell? (aD a 3)=some (.slice p.order.ad p.order.xs.length p.order.cap):=hP.c3;have c5:=hP.c5;have g0:wr.cell? (aD gb (i*2))=some (.slice ov.ad ov.xs.length ov.cap):=hcc.1;have g1:=hcc.2;have Ip:Hid (∀ x,Below wr.heap.size wr x->x.frozen? (aD gb (i*2+1))=false):=fun x hx=>(Ry.out.below hx).frozen _
     generalize p.order.xs.length=Ov at *;generalize p.order.ad=Ow at *;generalize p.order.cap=Ox at *;generalize ov.xs.length=Kb at *;generalize ov.ad=Kc at *;generalize ov.cap=Ke at *;rw[ec] at c5;have HMX:=Zh HMI;have HQT:Hid (∀ y,q.2=some y->aC 120 F wr (A' y.1) y.2):=fun y hy=>Ry.out.tree (G.getD i mG) (by rw[<- vF n t YN]; exact kE (by rw[qV]; exact YN)) y (by rw[<- hq]; exact hy)
     clear hcc Om hP yU eo ec hov hq HMI YN p ov;obtain⟨wq,hwq⟩:∃ x,x=wr:=⟨_,rfl⟩
     subst hwq;obtain⟨SB,hSB⟩:∃ SB,SB=bO t.d.order q.1:=⟨_,rfl⟩
     rw[<- hSB] at nQ
     cases SB with
     | false =>
      have HT:=Zh (Mh hSB.symm);have HM2:Hid (MB (i+1)=MB i):=by show _=_; rw[HMX.out,HT.out,Bool.or_false]
      have HG2:Hid (∀ x,Below wq.heap.size wq x->aX 120 195 F x gb A' os (iW n t (i+1) G)):=fun x hx=>by rw[HNO.out HT.out]; exact Ry.out.below hx
      obtain⟨po,hpo⟩:∃ po,EJ A' q.2=.pointer po:=by
       cases q.2 with
       | none => exact⟨_,rfl⟩
       | some y => exact⟨_,rfl⟩
      rw[hpo] at g1;clear hSB hpo HMX HQT;obtain⟨w1,hw1⟩:∃ x,wq.alloc (.cells #[.slice Kc Kb Ke,.pointer po] 195)=x:=⟨_,rfl⟩
      have hb1:Below wq.heap.size wq w1:=by rw[<- hw1]; exact bU _ _
      have a0:w1.cell? (aD wq.heap.size 0)=some (.slice Kc Kb Ke):=by rw[<- hw1]; simp
      have a1:w1.cell? (aD wq.heap.size 1)=some (.pointer po):=by rw[<- hw1]; simp
      have d3:=cB hb1 c3;have d5:=cB hb1 c5;have HB1:=Zh hb1;clear hb1;go_wp2_with fail;clear hw1;refine wH w1 fun hS=>?_
      refine wt 0 (.pointer (some (aD a 0))) hS ?_;refine wt 1 (.pointer (some (aD a 0))) hS ?_;refine wt 2 (.pointer (some (aD a 0))) hS ?_;refine wt 3 (.pointer (some (aD a 3))) hS ?_;refine iB 4 (.slice Ow Ov Ox) hS d3 ?_;refine wt 5 (.pointer (some (aD wq.heap.size 0))) hS ?_;refine iB 6 (.slice Kc Kb Ke) hS a0 ?_;refine wR 7 fun K hK=>?_
      go_simp;refine Z7 (nQ.out _ (HB1.out.trans (hS.mono HB1.out.size))) ?_;rintro e w2 ⟨rfl,hb⟩;refine oT hK hS hb fun hS=>?_
      clear hK K;refine wt 8 (.bool false) hS ?_;simp only[Act.put,XM,XN,XO,QK,Qb,Qc];refine wU 9 hS ?_;refine wU 10 hS ?_;refine wU 11 hS ?_;refine wU 12 hS ?_;refine wU 13 hS ?_;refine wU 14 hS ?_;refine wU 15 hS ?_;refine wU 16 hS ?_;refine wU 17 hS ?_;refine wU 18 hS ?_;refine wU 19 hS ?_;refine wU 20 hS ?_;refine wU 21 hS ?_;refine wU 22 hS ?_;refine wU 23 hS ?_;refine wU 24 hS ?_;refine wU 25 hS ?_;refine wg 26 (.bool false) hS ?_;refine wD ?_
      try simp only[Act.put,XM,XN,XO,QK,Qb,Qc]
      try simp only[Act.put,XM,XN,XO,QK,Qb,Qc]
      have HB2:=Zh (HB1.out.trans (hS.mono HB1.out.size));have wK:=Zh (HG2.out w2 HB2.out);have pK:=Zh (HKI.out.trans (Q9 HB2.out (fun _ h _=>h)));clear hS c3 c5 d3 d5 a0 a1 g0 g1 nQ hck;go_wp2;go_roundw
      case rel=>exact⟨i+1,by omega,by go_num,by rw[HM2.out],wK.out,pK.out⟩
      case measure=>simp[intOf]; omega
     | true =>
      cases hq2:q.2 with
      | none =>
       have HT:=Zh ((Il hq2).trans hSB.symm);have HM2:Hid (MB (i+1)=true):=by show _=_; rw[HMX.out,HT.out,Bool.or_true]
       have HG2:=Zh (aaz.out HT.out Ry.out);rw[hq2] at g1;change wq.cell? (aD gb (i*2+1))=some (.pointer none) at g1;clear hSB HMX HQT hq2;obtain⟨w1,hw1⟩:∃ x,wq.alloc (.cells #[.slice Kc Kb Ke,.pointer none] 195)=x:=⟨_,rfl⟩
       have hb1:Below wq.heap.size wq w1:=by rw[<- hw1]; exact bU _ _
       have a0:w1.cell? (aD wq.heap.size 0)=some (.slice Kc Kb Ke):=by rw[<- hw1]; simp
       have a1:w1.cell? (aD wq.heap.size 1)=some (.pointer none):=by rw[<- hw1]; simp
       have d3:=cB hb1 c3;have d5:=cB hb1 c5;have HB1:=Zh hb1;clear hb1;have HW1:=Zh hw1;clear hw1;go_wp2_with fail;rw[HW1.out];clear HW1;refine wH w1 fun hS=>?_
       refine wt 0 (.pointer (some (aD a 0))) hS ?_;refine wt 1 (.pointer (some (aD a 0))) hS ?_;refine wt 2 (.pointer (some (aD a 0))) hS ?_;refine wt 3 (.pointer (some (aD a 3))) hS ?_;refine iB 4 (.slice Ow Ov Ox) hS d3 ?_;refine wt 5 (.pointer (some (aD wq.heap.size 0))) hS ?_;refine iB 6 (.slice Kc Kb Ke) hS a0 ?_;refine wR 7 fun K hK=>?_
       go_simp;refine Z7 (nQ.out _ (HB1.out.trans (hS.mono HB1.out.size))) ?_;rintro e w2 ⟨rfl,hb⟩;refine oT hK hS hb fun hS=>?_
       clear hK K;refine wt 8 (.bool true) hS ?_;simp only[Act.put,XM,XN,XO,QK,Qb,Qc];refine wg 9 (.pointer (some (aD wq.heap.size 1))) hS ?_;refine Y7 10 (.pointer none) hS a1 ?_;refine wg 11 (.bool true) hS ?_;refine wg 12 (.bool true) hS ?_;simp only[Act.put,XM,XN,XO,QK,Qb,Qc];refine wU 13 hS ?_;refine wU 14 hS ?_;refine wU 15 hS ?_;refine wU 16 hS ?_;refine wU 17 hS ?_;refine wU 18 hS ?_;refine wU 19 hS ?_;refine wU 20 hS ?_;refine wU 21 hS ?_;refine wU 22 hS ?_;refine wU 23 hS ?_;refine wU 24 hS ?_;refine wg 25 (.bool true) hS ?_;refine wg 26 (.bool true) hS ?_;refine wD ?_
       try simp only[Act.put,XM,XN,XO,QK,Qb,Qc]
       try simp only[Act.put,XM,XN,XO,QK,Qb,Qc]
       have HB2:=Zh (HB1.out.trans (hS.mono HB1.out.size));have nK:=Zh (HKI.out.trans (Q9 HB2.out (fun _ h _=>h)));have wK:=Zh (HG2.out w2 nK.out (Ry.out.below HB2.out));have pK:Hid (Kept (fun b=>b≠gb) w (w2.setCell (aD gb (i*2+1)) (.pointer (some (aD a 0))))):=nK.out.trans (Zv _ _ _ (fun h=>h rfl));have s1:=cB HB2.out g1;have f1:=Ip.out w2 HB2.out;clear hS c3 c5 d3 d5 a0 a1 g0 g1 nQ hck;go_wp2;go_roundw
       case rel=>exact⟨i+1,by omega,by go_num,by rw[HM2.out],wK.out,pK.out⟩
       case measure=>simp[intOf]; omega
      | some y =>
       obtain⟨py,hPy,hyd⟩:=(HQT.out y hq2).jP;have ey:py.cost=y.2.d.cost:=congrArg iG.cost hyd;have Iq:Hid (dN t q=decide (t.d.cost<y.2.d.cost)):=by
        show _=_
        rw[Im hq2,<- hSB,Qv]
       have r5:wq.cell? (aD (A' y.1) 5)=some (.int .u64 (y.2.d.cost:Int)):=by rw[<- ey]; exact hPy.c5
       rw[hq2] at g1;change wq.cell? (aD gb (i*2+1))=some (.pointer (some (aD (A' y.1) 0))) at g1;generalize A' y.1=r at *;generalize y.2.d.cost=cr at *;obtain⟨cx,hcx⟩:∃ cx,cx=t.d.cost:=⟨_,rfl⟩
       rw[<- hcx] at c5 Iq;clear hPy hyd ey hSB hq2 hcx HQT py;by_cases hc:cx<cr
       ·have HC:=Zh hc;have HT:Hid (dN t q=true):=by show _=_; rw[Iq.out]; exact Qu hc
        have HM2:Hid (MB (i+1)=true):=by show _=_; rw[HMX.out,HT.out,Bool.or_true]
        have HG2:=Zh (aaz.out HT.out Ry.out);clear hc HMX;obtain⟨w1,hw1⟩:∃ x,wq.alloc (.cells #[.slice Kc Kb Ke,.pointer (some (aD r 0))] 195)=x:=⟨_,rfl⟩
        have hb1:Below wq.heap.size wq w1:=by rw[<- hw1]; exact bU _ _
        have a0:w1.cell? (aD wq.heap.size 0)=some (.slice Kc Kb Ke):=by rw[<- hw1]; simp
        have a1:w1.cell? (aD wq.heap.size 1)=some (.pointer (some (aD r 0))):=by rw[<- hw1]; simp
        have d3:=cB hb1 c3;have d5:=cB hb1 c5;have HB1:=Zh hb1;have d6:=cB hb1 r5;clear hb1;go_wp2_with fail;clear hw1;refine wH w1 fun hS=>?_
        refine wt 0 (.pointer (some (aD a 0))) hS ?_;refine wt 1 (.pointer (some (aD a 0))) hS ?_;refine wt 2 (.pointer (some (aD a 0))) hS ?_;refine wt 3 (.pointer (some (aD a 3))) hS ?_;refine iB 4 (.slice Ow Ov Ox) hS d3 ?_;refine wt 5 (.pointer (some (aD wq.heap.size 0))) hS ?_;refine iB 6 (.slice Kc Kb Ke) hS a0 ?_;refine wR 7 fun K hK=>?_
        go_simp;refine Z7 (nQ.out _ (HB1.out.trans (hS.mono HB1.out.size))) ?_;rintro e w2 ⟨rfl,hb⟩;refine oT hK hS hb fun hS=>?_
        clear hK K;refine wt 8 (.bool true) hS ?_;simp only[Act.put,XM,XN,XO,QK,Qb,Qc];refine wg 9 (.pointer (some (aD wq.heap.size 1))) hS ?_;refine Y7 10 (.pointer (some (aD r 0))) hS a1 ?_;refine wg 11 (.bool false) hS ?_;refine wg 12 (.bool false) hS ?_;simp only[Act.put,XM,XN,XO,QK,Qb,Qc];refine wg 13 (.pointer (some (aD a 0))) hS ?_;refine wg 14 (.pointer (some (aD a 0))) hS ?_;refine wg 15 (.pointer (some (aD a 0))) hS ?_;refine wg 16 (.pointer (some (aD a 5))) hS ?_;refine Y7 17 (.int .u64 (cx:Int)) hS d5 ?_;refine wg 18 (.pointer (some (aD wq.heap.size 1))) hS ?_;refine Y7 19 (.pointer (some (aD r 0))) hS a1 ?_;refine wg 20 (.pointer (some (aD r 0))) hS ?_;refine wg 21 (.pointer (some (aD r 0))) hS ?_;refine wg 22 (.pointer (some (aD r 5))) hS ?_;refine Y7 23 (.int .u64 (cr:Int)) hS d6 ?_;refine wG 24 (.bool true) hS (fun x hx=>?_) ?_
        ·have hc:=HC.out;go_simp
        refine wg 25 (.bool true) hS ?_;refine wg 26 (.bool true) hS ?_;refine wD ?_
        try simp only[Act.put,XM,XN,XO,QK,Qb,Qc]
        try simp only[Act.put,XM,XN,XO,QK,Qb,Qc]
        have HB2:=Zh (HB1.out.trans (hS.mono HB1.out.size));have nK:=Zh (HKI.out.trans (Q9 HB2.out (fun _ h _=>h)));have wK:=Zh (HG2.out w2 nK.out (Ry.out.below HB2.out));have pK:Hid (Kept (fun b=>b≠gb) w (w2.setCell (aD gb (i*2+1)) (.pointer (some (aD a 0))))):=nK.out.trans (Zv _ _ _ (fun h=>h rfl));have s1:=cB HB2.out g1;have f1:=Ip.out w2 HB2.out;clear hS c3 c5 d3 d5 a0 a1 g0 g1 nQ hck;clear r5 d6;go_wp2;go_roundw
        case rel=>exact⟨i+1,by omega,by go_num,by rw[HM2.out],wK.out,pK.out⟩
        case measure=>simp[intOf]; omega
       ·have HC:=Zh (Nat.le_of_not_lt hc);have HT:Hid (dN t q=false):=by show _=_; rw[Iq.out]; exact Qh hc
        have HM2:Hid (MB (i+1)=MB i):=by show _=_; rw[HMX.out,HT.out,Bool.or_false]
        have HG2:Hid (∀ x,Below wq.heap.size wq x->aX 120 195 F x gb A' os (iW n t (i+1) G)):=fun x hx=>by rw[HNO.out HT.out]; exact Ry.out.below hx
        clear hc HMX;obtain⟨w1,hw1⟩:∃ x,wq.alloc (.cells #[.slice Kc Kb Ke,.pointer (some (aD r 0))] 195)=x:=⟨_,rfl⟩
        have hb1:Below wq.heap.size wq w1:=by rw[<- hw1]; exact bU _ _
        have a0:w1.cell? (aD wq.heap.size 0)=some (.slice Kc Kb Ke):=by rw[<- hw1]; simp
        have a1:w1.cell? (aD wq.heap.size 1)=some (.pointer (some (aD r 0))):=by rw[<- hw1]; simp
        have d3:=cB hb1 c3;have d5:=cB hb1 c5;have HB1:=Zh hb1;have d6:=cB hb1 r5;clear hb1;go_wp2_with fail;clear hw1;refine wH w1 fun hS=>?_
        refine wt 0 (.pointer (some (aD a 0))) hS ?_;refine wt 1 (.pointer (some (aD a 0))) hS ?_;refine wt 2 (.pointer (some (aD a 0))) hS ?_;refine wt 3 (.pointer (some (aD a 3))) hS ?_;refine iB 4 (.slice Ow Ov Ox) hS d3 ?_;refine wt 5 (.pointer (some (aD wq.heap.size 0))) hS ?_;refine iB 6 (.slice Kc Kb Ke) hS a0 ?_;refine wR 7 fun K hK=>?_
        go_simp;refine Z7 (nQ.out _ (HB1.out.trans (hS.mono HB1.out.size))) ?_;rintro e w2 ⟨rfl,hb⟩;refine oT hK hS hb fun hS=>?_
        clear hK K;refine wt 8 (.bool true) hS ?_;simp only[Act.put,XM,XN,XO,QK,Qb,Qc];refine wg 9 (.pointer (some (aD wq.heap.size 1))) hS ?_;refine Y7 10 (.pointer (some (aD r 0))) hS a1 ?_;refine wg 11 (.bool false) hS ?_;refine wg 12 (.bool false) hS ?_;simp only[Act.put,XM,XN,XO,QK,Qb,Qc];refine wg 13 (.pointer (some (aD a 0))) hS ?_;refine wg 14 (.pointer (some (aD a 0))) hS ?_;refine wg 15 (.pointer (some (aD a 0))) hS ?_;refine wg 16 (.pointer (some (aD a 5))) hS ?_;refine Y7 17 (.int .u64 (cx:Int)) hS d5 ?_;refine wg 18 (.pointer (some (aD wq.heap.size 1))) hS ?_;refine Y7 19 (.pointer (some (aD r 0))) hS a1 ?_;refine wg 20 (.pointer (some (aD r 0))) hS ?_;refine wg 21 (.pointer (some (aD r 0))) hS ?_;refine wg 22 (.pointer (some (aD r 5))) hS ?_;refine Y7 23 (.int .u64 (cr:Int)) hS d6 ?_;refine wG 24 (.bool false) hS (fun x hx=>?_) ?_
        ·have hc:=HC.out;go_simp
        refine wg 25 (.bool false) hS ?_;refine wg 26 (.bool false) hS ?_;refine wD ?_
        try simp only[Act.put,XM,XN,XO,QK,Qb,Qc]
        try simp only[Act.put,XM,XN,XO,QK,Qb,Qc]
        have HB2:=Zh (HB1.out.trans (hS.mono HB1.out.size));have wK:=Zh (HG2.out w2 HB2.out);have pK:=Zh (HKI.out.trans (Q9 HB2.out (fun _ h _=>h)));clear hS c3 c5 d3 d5 a0 a1 g0 g1 nQ hck;clear r5 d6;go_wp2;go_roundw
        case rel=>exact⟨i+1,by omega,by go_num,by rw[HM2.out],wK.out,pK.out⟩
        case measure=>simp[intOf]; omega
    ·have hig:gl=i:=by omega
     have wK:Hid (aX 120 195 F wr gb A' os (XK (k+1)).2):=by
      have:=Ry.out;rw[<- hig,aef.out] at this;exact this
     have HM2:Hid (MB i=(XK (k+1)).1):=by show _=_; rw[<- hig]; exact HME.out
     clear hig;go_wp2;go_roundw
     case rel=>exact⟨k+1,A',by omega,by go_num,by rw[HM2.out],wK.out,HF3.out,HKI.out⟩
     case measure=>simp[intOf]; omega
  ·have hkb:bl=k:=by omega
   have HR:Hid (XK k=(R1,R2)):=by show _=_; rw[<- hkb]; exact HE.out
   rw[HR.out] at Io ⊢;clear hkb HR;go_wp2;go_ret;exact⟨rfl,⟨Ak,Io.out⟩,HKK.out⟩
theorem Fz.kept' {F:Nat->Prop} {W0 w w':World} (h:Fz F W0 w) {s:Nat->Prop} (hk:Kept s w w') (hs:∀ b,Live W0 b->s b):Fz F W0 w':=
 ⟨h.below.kept hk hs,h.low,fun b hb=>h.high b (Q4 hk.size hb)⟩
theorem Fz.aaC {F:Nat->Prop} {W0 w:World} (h:Fz F W0 w) {g:Nat} (hg:¬ F g):∀ b,Live W0 b->b≠g:=fun b hb e=>hg (e ▸ h.low b hb)
theorem Dn {g:List ai} {t:aW} (h:bZ g=some t):∃ x,(g.getD 0 mG).2=some x/\x.2=t:=by
 match g,h with
 | [],h => cases h
 | (_,none)::_,h => cases h
 | (o,some y)::r,h => injection h with h; exact⟨y,rfl,h⟩
theorem dB {w w':World} {s:Nat->Prop} (hk:Kept s w w') {b o:Nat} {v:Value} (h:w.cell? (aD b o)=some v) (hs:s b):w'.cell? (aD b o)=some v:=by
 rw[Zg (hk.block b (Zf h) hs)];exact h
theorem Iu {F:Nat->Prop} {W0 w:World} {f:aB} {ts:List af} {q:ae} (E:Env f ts q W0) (hz:Fz F W0 w) {gb:Nat} {A:Nat->Nat} {os:List ah} {g:List ai} (h:aX 120 195 F w gb A os g) (hF:¬ F gb) {s:Nat} (hgo:uj q s g) (gc:Nat) (hgc:g.length<=gc) (hcm:gc<=9223372036854775807) (bo:Option Addr) (bc:Nat) (bs:List (Nat × aW)) (hp:cK w bo (bs.map Prod.fst)) (hpo:∀ a,bo=some a->a.block≠gb) (hbs:∀ x∈bs,aC 120 F w x.1 x.2) (hnd:(bs.map Prod.fst).Nodup) (hfr:∀ p∈g,∀ x,p.2=some x->A x.1 ∉ bs.map Prod.fst) (hl:bs.length<=1000) (Cc:∀ x∈bs,Ot q s x.2) :
  Calls Tryz.prog 181 #[.slice (some (aD gb 0)) g.length gc,.agg (f.cells ts q),.slice bo bs.length bc] w fun e w'=>e=.returned (.bool (aZ ts q g (bs.map Prod.snd)).1)/\(∃ A',aX 120 195 F w' gb A' os (aZ ts q g (bs.map Prod.snd)).2)/\Kept (fun b=>b≠gb) w w':=by
 obtain⟨v0,v1,v2,v3,v4,v5,v6,v7,v8,v9,v10,v11,v12,dw,-⟩:=Z8 f ts q;have hgl:=hgo.short;have hg0:0<g.length:=by obtain⟨hh,r,rfl,-⟩:=hgo.head; simp
 obtain⟨w1,hw1,hb1,hg1⟩:=bu w #[v0,v1,v2,v3,v4,v5,v6,v7,v8,v9,v10,v11,v12] 94;have Vk:=Dm (h.below hb1) hF hgl gc bo bc bs (hp.below hb1) hpo (fun x hx=>(hbs x hx).below hb1) hnd hfr hl;have hok1:=xE (l:=bs.map Prod.snd) (x:=(false,g)) hgo (fun t ht=>by obtain⟨x,hx,rfl⟩:=Q0.1 ht; exact Cc x hx) (fun e=>by cases e);have aaD:=uq g (bs.map Prod.snd);have HR:Hid (aZ ts q g (bs.map Prod.snd)=if (iR g (bs.map Prod.snd)).1=true then (true,((g.map Prod.fst).drop 1).foldl (eP ts q) (iR g (bs.map Prod.snd)).2) else (false,(iR g (bs.map Prod.snd)).2)):=rfl;change uj q s (iR g (bs.map Prod.snd)).2/\((iR g (bs.map Prod.snd)).1=true->(bZ (iR g (bs.map Prod.snd)).2).isSome=true) at hok1;generalize aZ ts q g (bs.map Prod.snd)=R at *;generalize iR g (bs.map Prod.snd)=O at *;obtain⟨O1,O2⟩:=O;obtain⟨R1,R2⟩:=R;simp only at *;have anB:O2.length=g.length:=by have:=congrArg List.length aaD; simpa using this
 have vH:=Zh h.lt;have pR:=Zh hg1;have HB1:=Zh hb1;have HZ1:=Zh (hz.next hb1);have HNL:=Zh (hz.aaC hF)
 cases O1 with
 | false =>
  have HR2:Hid (R1=false/\R2=O2):=by have:=HR.out; rw[Qs (by simp)] at this; injection this with e1 e2; exact⟨e1,e2⟩
  clear HR h hok1 hz E hp hbs hfr Cc hg1 hb1;rw[dw];go_enter Tryz.func181,Tryz.ntmps181;go_wp2_with fail;refine Vk.mono ?_;rintro e w2 ⟨rfl,hA2,hk2⟩;have HF:Hid ((∃ A',aX 120 195 F w2 gb A' os R2)/\Kept (fun b=>b≠gb) w w2):=⟨by rw[HR2.out.2]; exact hA2,(Q9 HB1.out (fun _ h _=>h)).trans hk2⟩
  clear Vk hA2 hk2 hw1;go_wp2;go_ret;exact⟨by rw[HR2.out.1]; rfl,HF.out⟩
 | true =>
  have HR2:Hid (R1=true/\R2=((g.map Prod.fst).drop 1).foldl (eP ts q) O2):=by have:=HR.out; rw[Qr rfl] at this; injection this with e1 e2; exact⟨e1,e2⟩
  obtain⟨RK,Rz⟩:∃ X:Nat->List ai,X=fun k=>(((g.map Prod.fst).drop 1).take k).foldl (eP ts q) O2:=⟨_,rfl⟩
  have hdl:((g.map Prod.fst).drop 1).length=g.length-1:=by rw[XI,QU]
  have HST:Hid (∀ k,k<g.length-1->RK (k+1)=eP ts q (RK k) (((g.map Prod.fst).drop 1).getD k [])):=fun k hk=>by rw[Rz]; exact gy _ O2 _ [] (by rw[hdl]; exact hk)
  have Bz:Hid (∀ k,uj q s (RK k)/\(bZ (RK k)).isSome=true/\(RK k).length=g.length/\(RK k).map Prod.fst=g.map Prod.fst):=fun k=>by
   have h1:=uu (ts:=ts) (os:=((g.map Prod.fst).drop 1).take k) hok1.1 (hok1.2 rfl);have h2:=qQ ts q (((g.map Prod.fst).drop 1).take k) O2;rw[Rz];refine⟨h1.1,h1.2,?_,h2.trans aaD⟩;have:=congrArg List.length (h2.trans aaD)
   simpa using this
  have LH:Hid (RK (g.length-1)=R2):=by
   show _=_
   rw[Rz,HR2.out.2]
   show (((g.map Prod.fst).drop 1).take (g.length-1)).foldl _ _=_
   rw[<- hdl,Qt]
  have Ob:Hid (RK 0=O2):=by show _=_; rw[Rz]; rfl
  have HOR:Hid (∀ k,k<g.length-1->((g.map Prod.fst).drop 1).getD k []=(g.getD (k+1) mG).1):=fun k hk=>by
   rw[Xq,XH,QW,Xq,Nat.add_comm 1 k,ZG (by omega)];rfl
  have yu:Hid (∀ (x:World) (k a:Nat) (t:aW) (o:ah),Fz F W0 x->aC 120 F x a t->iC q t->IntsIn F x o->o.xs.length<=1000->Calls Tryz.prog 220 #[.agg #[v0,v1,v2,v3,v4,v5,v6,v7,v8,v9,v10,v11,v12],.pointer (some (aD a 0)),.slice o.ad o.xs.length o.cap] x (bF 120 F x (bW ts q t o.xs))):=fun x k a t o hx ht hto ho hol=>by
   rw[<- dw];exact Au E hx a t ht hto o ho.at' ho.inf ho.nil ho.cap hol
  have HNF:=Zh hF;clear HR h hok1 hz E hp hbs hfr Cc hg1 hb1 Rz hdl anB aaD hF hpo hnd;rw[dw];clear dw;obtain⟨gl,EM⟩:∃ gl,gl=g.length:=⟨_,rfl⟩
  rw[<- EM] at HST LH HOR Vk hgl hg0 hgc ⊢;have Ka:=Zh EM;clear EM;obtain⟨m,hm⟩:∃ m,gl=m+1:=⟨gl-1,by omega⟩
  subst hm;rw[Nat.add_sub_cancel] at HST LH HOR;obtain⟨A0,hA0,HA0⟩:∃ A0:Addr,(if gc=1 then some ((aD gb 0):Addr) else some (aD gb 2))=some A0/\Hid (0<m->A0=(aD gb 2)):=by
   by_cases h1:gc=1
   ·exact⟨(aD gb 0),by rw[Qr h1],fun h=>by omega⟩
   ·exact⟨(aD gb 2),by rw[Qs h1],fun _=>rfl⟩
  go_enter Tryz.func181,Tryz.ntmps181;go_wp2_with fail;refine Vk.mono ?_;rintro e w2 ⟨rfl,⟨A2,hA2⟩,hk2⟩;have HA2:Hid (aX 120 195 F w2 gb A2 os (RK 0)):=by show aX _ _ _ _ _ _ _ _; rw[Ob.out]; exact hA2
  have nK:=Zh hk2;clear Vk hA2 hk2 hw1;go_wp2;clear hA0;go_loopw [16] (fun iv wr=>∃ (k:Nat) (Ak:Nat->Nat),k<=m/\iv=.int .i64 (k:Int)/\Hid (aX 120 195 F wr gb Ak os (RK k))/\Hid (Kept (fun b=>b≠gb) w1 wr)) (fun iv _=>m-(intOf iv).toNat)
  case atStart=>exact⟨0,A2,QQ _,rfl,HA2.out,nK.out⟩
  case round=>
   obtain⟨k,Ak,hk,rfl,Io,HKK⟩:=hrel;by_cases hlt:k<m
   ·have hA2:=HA0.out (by omega);subst hA2;have qi:=Bz.out k;have hcc:=Io.out.cells (i:=k+1) (by rw[qi.2.2.1,<- Ka.out]; omega);have Om:=Io.out.ord (k+1) (by rw[qi.2.2.1,<- Ka.out]; omega);have hfk:((RK k).getD (k+1) mG).1=(g.getD (k+1) mG).1:=by
     have h1:k+1<(RK k).length:=by rw[qi.2.2.1,<- Ka.out]; omega
     have h2:k+1<g.length:=by rw[<- Ka.out]; omega
     have:=congrArg (fun l=>l.getD (k+1) []) qi.2.2.2;simp only[Xq,QW,ZG h1,ZG h2] at this ⊢;exact this
    have ES:=HST.out k hlt;rw[HOR.out k hlt,<- hfk,<- Om.1] at ES;obtain⟨t,ht⟩:=Option.isSome_iff_exists.1 qi.2.1;obtain⟨y,hy,hyt⟩:=Dn ht;have hty:=Io.out.tree _ (kE (g:=RK k) (i:=0) (by rw[qi.2.2.1,<- Ka.out]; omega)) y hy;rw[hyt] at hty;have ah8:=(qi.1.first ht).1;have Ub:=fun x (hx:Kept (fun b=>b≠gb) wr x) (hgx:aX 120 195 F x gb Ak os (RK k))=>oV hgx (by rw[qi.2.2.1,<- Ka.out]; omega) gc
    rw[qi.2.2.1,<- Ka.out,hy] at Ub;have Oy:Hid (∀ x,Below wr.heap.size wr x->Calls Tryz.prog 222 #[.slice (some (aD gb 0)) (m+1) gc] x fun e w'=>e=.returned (.pointer (some (aD (Ak y.1) 0)))/\w' = x):=fun x hx=>Ub x (Q9 hx (fun _ h _=>h)) (Io.out.below hx)
    obtain⟨ov,hov⟩:∃ ov,ov=os.getD (k+1) dU:=⟨_,rfl⟩
    rw[<- hov] at hcc Om ES;have HZr:=Zh (HZ1.out.kept' HKK.out HNL.out);have aap:Hid (∀ x,Below wr.heap.size wr x->Calls Tryz.prog 220 #[.agg #[v0,v1,v2,v3,v4,v5,v6,v7,v8,v9,v10,v11,v12],.pointer (some (aD (Ak y.1) 0)),.slice ov.ad ov.xs.length ov.cap] x (bF 120 F x (bW ts q t ov.xs))):=fun x hx=>yu.out x k (Ak y.1) t ov (HZr.out.next hx) (hty.below hx) ah8 (Om.2.1.below hx) Om.2.2
    have pX:Hid (RK (k+1)=ko (RK k) (bW ts q t ov.xs)):=by
     show _=_
     rw[ES];unfold eP;rw[ht];rfl
    have ah9:Hid (∀ x r c,Below wr.heap.size wr x->wr.heap.size<=r->c≠gb->x.cell? (aD c 0)=some (.pointer (some (aD r 0)))->aC 120 F x r (bW ts q t ov.xs)->Calls Tryz.prog 221 #[.slice (some (aD gb 0)) (m+1) gc,.slice (some (aD c 0)) 1 1] x fun e w'=>(∃ b,e=.returned (.bool b))/\(∃ A',aX 120 195 F w' gb A' os (RK (k+1)))/\Kept (fun b=>b≠gb) x w'):=fun x r c hx hr hc hcell htr=>by
     have h1:=Dm (Io.out.below hx) HNF.out (by rw[qi.2.2.1,<- Ka.out]; exact hgl) gc (some (aD c 0)) 1 [(r,bW ts q t ov.xs)] ⟨by simp,fun i hi=>⟨c,0,rfl,by
      have:i=0:=by simpa using hi
      subst this;exact hcell⟩⟩ (fun a e=>by injection e with e; rw[<- e]; exact hc) (fun z hz=>by rw[QY] at hz; rw[hz]; exact htr) (by simp) (fun p hp z hz hm=>by
       rw[List.map_singleton,QY] at hm;have:=(Io.out.tree p hp z hz).lt;rw[hm] at this;omega) (by simp)
     rw[qi.2.2.1,<- Ka.out] at h1;refine h1.mono ?_;rintro e w' ⟨rfl,h2,h3⟩;rw[pX.out];exact⟨⟨_,rfl⟩,h2,h3⟩
    have g0:wr.cell? (aD gb (2+k*2))=some (.slice ov.ad ov.xs.length ov.cap):=by rw[show 2+k*2=(k+1)*2 by omega]; exact hcc.1
    obtain⟨po,hpo⟩:∃ po,EJ Ak ((RK k).getD (k+1) mG).2=.pointer po:=by
     cases ((RK k).getD (k+1) mG).2 with
     | none => exact⟨_,rfl⟩
     | some y => exact⟨_,rfl⟩
    have g1:wr.cell? (aD gb (2+k*2+1))=some (.pointer po):=by rw[show 2+k*2+1=(k+1)*2+1 by omega,<- hpo]; exact hcc.2
    have hfb:=pR.out.keep HKK.out (by have:=vH.out; omega);generalize Ak y.1=ar at *;generalize ov.xs.length=Kb at *;generalize ov.ad=Kc at *;generalize ov.cap=Ke at *;generalize bW ts q t ov.xs=TT at *;have HFB:Hid _:=hfb;clear hcc Om hfk ES ht hy hyt hty ah8 Ub hov hpo qi;obtain⟨wq,hwq⟩:∃ x,x=wr:=⟨_,rfl⟩
    subst hwq;obtain⟨w3,hw3⟩:∃ x,wq.alloc (.cells #[.slice Kc Kb Ke,.pointer po] 195)=x:=⟨_,rfl⟩
    have hb3:Below wq.heap.size wq w3:=by rw[<- hw3]; exact bU _ _
    have p0:w3.cell? (aD wq.heap.size 0)=some (.slice Kc Kb Ke):=by rw[<- hw3]; simp
    have hg3:=hfb.keep (Q9 (s:=fun b=>b<wq.heap.size) hb3 (fun _ h _=>h)) hfb.lt;obtain⟨a0,a1,a2,a3,a4,a5,a6,a7,a8,a9,fI,fU,a12⟩:=hg3.k13;have HB3:=Zh hb3;have HX3:=Zh hfb.lt;clear hb3 hfb hg3;go_wp2_with fail;clear hw3;have qA:Hid (w.heap.size≠gb):=by show _≠_; have:=vH.out; omega
    have Vl:Hid (wq.heap.size≠gb):=by show _≠_; have:=vH.out; have:=HX3.out; omega
    refine QL (S:=fun x=>Kept (fun b=>b≠gb) w3 x) (by kernel_rfl) (Q9 ((Qp w3.heap.size w3).drew) (fun _ hl _=>hl)) (fun hS=>?_);refine wt 0 (.slice (some (aD gb 0)) (m+1) gc) hS ?_;refine wT 1 (.agg #[v0,v1,v2,v3,v4,v5,v6,v7,v8,v9,v10,v11,v12]) hS (fun x hx=>?_) ?_
    ·have e0:=dB hx a0 qA.out;have e1:=dB hx a1 qA.out;have e2:=dB hx a2 qA.out;have e3:=dB hx a3 qA.out;have e4:=dB hx a4 qA.out;have e5:=dB hx a5 qA.out;have e6:=dB hx a6 qA.out;have e7:=dB hx a7 qA.out;have e8:=dB hx a8 qA.out;have e9:=dB hx a9 qA.out;have e10:=dB hx fI qA.out;have e11:=dB hx fU qA.out;have e12:=dB hx a12 qA.out;go_simp
    refine wt 2 (.slice (some (aD gb 0)) (m+1) gc) hS ?_;refine wt 4 (.pointer (some (aD wq.heap.size 0))) hS ?_;refine wT 5 (.slice Kc Kb Ke) hS (fun x hx=>?_) ?_
    ·have e0:=dB hx p0 Vl.out;go_simp
    refine wR 3 fun K hK=>?_
    go_simp;refine Z7 (Oy.out _ HB3.out.drew) ?_;rintro e w4 ⟨rfl,hw4⟩;subst hw4;refine hK.out _ _ hS fun hS=>?_
    clear hK K;refine wR 6 fun K hK=>?_
    go_simp;refine Z7 (aap.out _ HB3.out.drew) ?_;rintro e w5 ⟨r,rfl,hT,hr1,hr2,hb5⟩;have fV:=(Qp w3.heap.size w3).drew.trans hb5;refine hK.out _ _ (Q9 fV (fun _ h _=>h)) (fun hS=>?_);clear hK K;refine wR 7 fun K hK=>?_
    go_simp;refine hK.out _ _ (hS.trans (Zc _ _)) (fun hS=>?_);clear hK K;refine wR 8 fun K hK=>?_
    go_simp;refine Z7 (ah9.out _ r _ (HB3.out.trans ((fV.trans ((bU _ _).mono fV.size)).mono HB3.out.size)) (Q4 HB3.out.size hr1) (by have:=vH.out; have:=HX3.out; have:=HB3.out.size; have:=fV.size; omega) (by simp) (hT.below (bU _ _))) ?_;rintro e w6 ⟨⟨bb,rfl⟩,hA6,mQ⟩;refine hK.out _ _ (hS.trans mQ) (fun hS=>?_);clear hK K;refine wD ?_
    try simp only[pV]
    try simp only[pV]
    have HF:Hid ((∃ A',aX 120 195 F w6 gb A' os (RK (k+1)))/\Kept (fun b=>b≠gb) w1 w6):=⟨hA6,HKK.out.trans ((Q9 HB3.out (fun _ h _=>h)).trans hS)⟩
    clear hS hA6 a0 a1 a2 a3 a4 a5 a6 a7 a8 a9 fI fU a12 p0 g0 g1 Oy aap ah9;go_wp2;go_roundw
    case rel=>obtain⟨⟨A',hA'⟩,hk'⟩:=HF.out; exact⟨k+1,A',by omega,by go_num,hA',hk'⟩
    case measure=>simp[intOf]; omega
   ·have hkm:m=k:=by omega
    have HF:Hid ((∃ A',aX 120 195 F wr gb A' os R2)/\Kept (fun b=>b≠gb) w wr):=by
     refine⟨⟨Ak,?_⟩,(Q9 HB1.out (fun _ h _=>h)).trans HKK.out⟩;have:=Io.out;rw[<- hkm,LH.out] at this;exact this
    clear hkm;go_wp2;go_ret;exact⟨by rw[HR2.out.1]; rfl,HF.out⟩
def XP:=@dB
