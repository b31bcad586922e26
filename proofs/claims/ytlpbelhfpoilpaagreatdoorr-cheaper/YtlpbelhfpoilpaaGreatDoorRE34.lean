import Derived.Test.YtlpbelhfpoilpaaGreatDoorRE25
import Derived.Test.YtlpbelhfpoilpaaGreatDoorRE28
set_option linter.all false
set_option maxRecDepth 100000
set_option maxHeartbeats 16000000
namespace Go.Proofs.Zz
open Go.RowKit Go.Shelf
variable {gb i k n:Nat} {G g:List aj} {t:aQ} {p:aj} {T Tp:TypeId} {F:Nat->Prop} {W0 w:World} {A:Nat->Nat} {os:List ah} {bf:List Nat}
theorem sP:∀ {g:List aj} {p:aj} {x:Nat × aQ},p∈g->p.2=some x->x.1<dh g
 | (o,none)::g,p,x,hp,hx => by
  rcases Q4.1 hp with rfl | hp
  ·cases hx
  ·exact sP (g:=g) hp hx
 | (o,some y)::g,p,x,hp,hx => by
  rcases Q4.1 hp with rfl | hp
  ·injection hx with hx;rw[<- hx]
   show y.1<max (y.1+1) (dh g)
   omega
  ·have:=sP (g:=g) hp hx
   show x.1<max (y.1+1) (dh g)
   omega
def rP(A:Nat->Nat)(n a:Nat):Nat->Nat:=fun m=>if m=n then a else A m
def kC(n:Nat)(t:aQ)(i:Nat)(g:List aj):List aj:=(g.take i).map (eG n t)++g.drop i
theorem sQ(n:Nat)(t:aQ)(i:Nat)(g:List aj):(kC n t i g).length=g.length:=by
 unfold kC;rw[Zb,Zc,Zm,XT];omega
theorem xR(n:Nat)(t:aQ)(hi:i<g.length):(kC n t i g).getD i oh=g.getD i oh:=by
 unfold kC;rw[XH,QS (by rw[Zc,Zm]; omega),Zc,Zm,QK (by omega),Z4,XQ,Zf,XH]
theorem Ug(n:Nat)(t:aQ)(g:List aj):kC n t 0 g=g:=by unfold kC; simp
theorem Yw(t:aQ)(g:List aj):kC (dh g) t g.length g=jF g t:=by unfold kC jF; simp
theorem FI(n:Nat)(t:aQ)(hi:i<g.length):kC n t (i+1) g=(kC n t i g).set i (eG n t (g.getD i oh)):=by
 unfold kC;rw[XL g oh hi,Qs,Z0 _ _ (by rw[Zc,Zm]; omega),Zc,Zm,QK (by omega),Z4];have h2:g.drop i=g.getD i oh::g.drop (i+1):=by rw[XR hi,XH,ZX hi]; rfl
 rw[h2];simp
theorem Uh(l:List aj)(hk:k<l.length):l.set k (l.getD k oh)=l:=by
 rw[XH,ZX hk];exact List.set_getElem_self hk
theorem acF(n:Nat)(t:aQ)(hi:i<g.length)(h:eF t (g.getD i oh)=false):kC n t (i+1) g=kC n t i g:=by
 rw[FI n t hi];have:eG n t (g.getD i oh)=(kC n t i g).getD i oh:=by rw[xR n t hi]; unfold eG; rw[h]; rfl
 rw[this];exact Uh _ (by rw[sQ]; exact hi)
theorem Yx(n:Nat)(t:aQ)(hi:i<g.length)(h:eF t (g.getD i oh)=true):kC n t (i+1) g=(kC n t i g).set i ((g.getD i oh).1,some (n,t)):=by
 rw[FI n t hi];unfold eG;rw[Qy h]
theorem Kt{x:Nat × aQ}(hp:p∈kC n t i g)(hx:p.2=some x):x=(n,t)∨∃ p'∈g,p'.2=some x:=by
 unfold kC at hp;rcases ZT.1 hp with hp | hp
 ·obtain⟨p0,hp0,rfl⟩:=Zi.1 hp;rcases qg hx with h | h
  ·exact .inl h
  ·exact .inr ⟨p0,Xj hp0,h⟩
 ·exact .inr ⟨p,List.mem_of_mem_drop hp,hx⟩
theorem Ui(t:aQ)(hi:i<g.length):(g.take (i+1)).any (eF t)=((g.take i).any (eF t) || eF t (g.getD i oh)):=by
 rw[XL g oh hi,List.any_append];simp
theorem bz.retag(h:bz T Tp F w gb A os g)(a:Nat):bz T Tp F w gb (rP A (dh g) a) os g:=by
 have hA:∀ p∈g,∀ x,p.2=some x->rP A (dh g) a x.1=A x.1:=fun p hp x hx=>by
  unfold rP;rw[Qz (by have:=sP hp hx; omega)]
 obtain⟨c,hc,hi⟩:=h.blk;refine⟨⟨c,hc,fun i hil=>⟨(hi i hil).1,?_⟩⟩,h.ord,fun p hp x hx=>by rw[hA p hp x hx]; exact h.tree p hp x hx,fun p hp p' hp' x x' hx hx' e=>?_⟩
 ·rw[(hi i hil).2]
  cases hx:(g.getD i oh).2 with
  | none => rfl
  | some x =>
   show some (Value.pointer (some (aD (A x.1) 0)))=some (.pointer (some (aD (rP A (dh g) a x.1) 0)))
   rw[hA _ (lW hil) x hx]
 ·rw[hA p hp x hx,hA p' hp' x' hx']at e;exact h.inj p hp p' hp' x x' hx hx' e
theorem bz.put(h:bz T Tp F w gb A os g)(hF:¬ F gb)(hi:i<g.length)(ht:aG T F w (A n) t)(hn:∀ p∈g,∀ x,p.2=some x->A x.1=A n->x.1=n) :
  bz T Tp F (w.setCell (aD gb (i*2+1)) (.pointer (some (aD (A n) 0)))) gb A os (g.set i ((g.getD i oh).1,some (n,t))):=by
 obtain⟨c,hc,hcc⟩:=h.blk;have hk:Kept F w (w.setCell (aD gb (i*2+1)) (.pointer (some (aD (A n) 0)))):=ZL _ _ _ hF;have hgd:∀ j,(g.set i ((g.getD i oh).1,some (n,t))).getD j oh=if i=j then ((g.getD i oh).1,some (n,t)) else g.getD j oh:=fun j=>by
  rw[XH,List.getElem?_set,XH];by_cases e:i=j
  ·rw[Qy e,Qy e];subst e;rw[Qy hi];rfl
  ·rw[Qz e,Qz e];rfl
 have hmem:∀ p∈g.set i ((g.getD i oh).1,some (n,t)),∀ x,p.2=some x->x=(n,t)∨∃ p'∈g,p'.2=some x:=fun p hp x hx=>by
  rcases List.mem_or_eq_of_mem_set hp with hp | rfl
  ·exact .inr ⟨p,hp,hx⟩
  ·injection hx with hx;exact .inl hx.symm
 have hsz:i*2+1<c.size:=by
  have:=(hcc i hi).2;exact(QV.1 this).1
 refine⟨⟨c.setIfInBounds (i*2+1) (.pointer (some (aD (A n) 0))),hc.set _ _,fun j hj=>?_⟩,fun j hj=>?_,fun p hp x hx=>?_,fun p hp p' hp' x x' hx hx' e=>?_⟩
 ·rw[XO]at hj;rw[XW,XW,Qz (by omega),hgd j];refine⟨(hcc j hj).1,?_⟩;by_cases e:i=j
  ·subst e;rw[Qy rfl,Qy hsz,Qy rfl];rfl
  ·rw[Qz (by omega),Qz e];exact(hcc j hj).2
 ·rw[XO]at hj;have:=h.ord j hj;refine⟨?_,this.2.1.aX hk,this.2.2⟩;rw[hgd j];by_cases e:i=j
  ·subst e;rw[Qy rfl];exact this.1
  ·rw[Qz e];exact this.1
 ·rcases hmem p hp x hx with rfl | ⟨p',hp',hx'⟩
  ·exact ht.aX hk
  ·exact(h.tree p' hp' x hx').aX hk
 ·rcases hmem p hp x hx with rfl | ⟨q,hq,hqx⟩
  ·rcases hmem p' hp' x' hx' with rfl | ⟨q',hq',agv⟩
   ·rfl
   ·exact(hn q' hq' x' agv e.symm).symm
  ·rcases hmem p' hp' x' hx' with rfl | ⟨q',hq',agv⟩
   ·exact hn q hq x hqx e
   ·exact h.inj q hq q' hq' x x' hqx agv e
theorem bz.frozen{T Tp:TypeId}{F:Nat->Prop}{w:World}{gb:Nat}{A:Nat->Nat}{os:List ah}{g:List aj}(h:bz T Tp F w gb A os g)(j:Nat):w.frozen? (aD gb j)=false:=by
 obtain⟨c,hc,_⟩:=h.blk;exact hc.frozen j
theorem bz.lt{T Tp:TypeId}{F:Nat->Prop}{w:World}{gb:Nat}{A:Nat->Nat}{os:List ah}{g:List aj}(h:bz T Tp F w gb A os g):gb<w.heap.size:=by
 obtain⟨c,hc,_⟩:=h.blk;exact hc.lt
theorem aG.lt{a:Nat}(h:aG T F w a t):a<w.heap.size:=by
 obtain⟨c,hc⟩:=h.blk;exact(QV.1 hc).1
theorem Cr:∀ (l:List aQ) (x:Bool × List aj),(l.foldl kG x).2.length=x.2.length
 | [],_ => rfl
 | t::l,x => by rw[Q0,Cr l]; exact vN _ _
theorem Ku(h:p.2=none):eF t p=aP t.d.order p.1:=by
 unfold eF;rw[h];simp
theorem Kv{y:Nat × aQ}(h:p.2=some y):eF t p=(aP t.d.order p.1&&decide (t.d.cost<y.2.d.cost)):=by
 unfold eF;rw[h]
theorem OD(h:aP t.d.order p.1=false):eF t p=false:=by
 unfold eF;rw[h];rfl
theorem OE(hk:k<bf.length)(hnd:bf.Nodup)(h:∀ p∈G,∀ x,p.2=some x->A x.1 ∉ bf.drop k)(t:aQ):∀ p∈kC (dh G) t G.length G,∀ x,p.2=some x->rP A (dh G) (bf.getD k 0) x.1 ∉ bf.drop (k+1):=by
 intro p hp x hx;have hd:bf.drop k=bf.getD k 0::bf.drop (k+1):=by rw[XR hk,XH,ZX hk]; rfl
 rcases Kt hp hx with rfl | ⟨p',hp',hx'⟩
 ·have:rP A (dh G) (bf.getD k 0) (dh G)=bf.getD k 0:=by unfold rP; rw[Qy rfl]
  show rP A (dh G) (bf.getD k 0) (dh G) ∉ _
  rw[this];have h2:(bf.drop k).Nodup:=hnd.sublist (List.drop_sublist _ _);rw[hd]at h2;exact(List.nodup_cons.1 h2).1
 ·have:rP A (dh G) (bf.getD k 0) x.1=A x.1:=by unfold rP; rw[Qz (by have:=sP hp' hx'; omega)]
  rw[this];intro hm;exact h p' hp' x hx' (by rw[hd]; exact Xf _ hm)
theorem Uk(hk:k<bf.length)(h:∀ p∈G,∀ x,p.2=some x->A x.1 ∉ bf.drop k)(t:aQ):∀ p∈kC (dh G) t i G,∀ x,p.2=some x->rP A (dh G) (bf.getD k 0) x.1=rP A (dh G) (bf.getD k 0) (dh G)->x.1=dh G:=by
 intro p hp x hx e;rcases Kt hp hx with rfl | ⟨p',hp',hx'⟩
 ·rfl
 ·have h1:rP A (dh G) (bf.getD k 0) x.1=A x.1:=by unfold rP; rw[Qz (by have:=sP hp' hx'; omega)]
  have h2:rP A (dh G) (bf.getD k 0) (dh G)=bf.getD k 0:=by unfold rP; rw[Qy rfl]
  rw[h1,h2]at e;exact absurd (by rw[XR hk,e,XH,ZX hk]; exact Xg) (h p' hp' x hx')
theorem FJ(h:bz 178 297 F w gb A os g)(hF:¬ F gb)(hgl:g.length<=20)(gc:Nat)(bo:Option Addr)(bc:Nat)(bs:List (Nat × aQ))(hp:dB w bo (bs.map Prod.fst))(hpo:∀ a,bo=some a->a.block≠gb)(hbs:∀ x∈bs,aG 178 F w x.1 x.2)(hnd:(bs.map Prod.fst).Nodup)(hfr:∀ p∈g,∀ x,p.2=some x->A x.1 ∉ bs.map Prod.fst)(hl:bs.length<=1000) :
  Calls Tryz.prog 347 #[.slice (some (aD gb 0)) g.length gc,.slice bo bs.length bc] w fun e w'=>e=.returned (.bool (jG g (bs.map Prod.snd)).1)/\(∃ A',bz 178 297 F w' gb A' os (jG g (bs.map Prod.snd)).2)/\Kept (fun b=>b≠gb) w w':=by
 have RX:=Zh hp;have J9:=Zh hpo;have wX:Hid ((bs.map Prod.fst).length=bs.length):=Zc _;have HND:=Zh hnd;have HG0:=Zh h;have HFR:Hid (∀ p∈g,∀ x,p.2=some x->A x.1 ∉ (bs.map Prod.fst).drop 0):=hfr;have HFG:Hid (∀ b,F b->b≠gb):=fun b hb e=>hF (e ▸ hb)
 have HNF:=Zh hF;obtain⟨XK,hXK⟩:∃ X:Nat->Bool × List aj,X=fun k=>((bs.map Prod.snd).take k).foldl kG (false,g):=⟨_,rfl⟩
 obtain⟨BD,OG⟩:∃ C:Nat->aQ,C=fun k=>(bs.map Prod.snd).getD k mR:=⟨_,rfl⟩
 have HST:Hid (∀ k,k<bs.length->(XK (k+1)).1=((XK k).1 || (XK k).2.any (eF (BD k)))/\(XK (k+1)).2=jF (XK k).2 (BD k)):=fun k hk=>by
  have e:XK (k+1)=kG (XK k) (BD k):=by
   rw[hXK,OG];exact iR kG (false,g) (bs.map Prod.snd) mR (by rw[Zc]; exact hk)
  rw[e];exact⟨rfl,rfl⟩
 have MR:Hid (∀ k,(XK k).2.length=g.length):=fun k=>by rw[hXK]; exact Cr _ _
 have HE:Hid (XK bs.length=jG g (bs.map Prod.snd)):=by
  show _=_
  rw[hXK]
  show ((bs.map Prod.snd).take bs.length).foldl kG (false,g)=_
  rw[Xl (by rw[Zc]; exact Qx _)];rfl
 have HX0:Hid (XK 0=(false,g)):=by show _=_; rw[hXK]; rfl
 have R3:Hid (∀ k,k<bs.length->aG 178 F w ((bs.map Prod.fst).getD k 0) (BD k)):=fun k hk=>by
  have h1:(bs.map Prod.fst).getD k 0=(bs[k]).1:=by rw[XH,Ze,ZX hk]; rfl
  have h2:BD k=(bs[k]).2:=by rw[OG]; show (bs.map Prod.snd).getD k mR=_; rw[XH,Ze,ZX hk]; rfl
  rw[h1,h2];exact hbs _ (Qp hk)
 clear hp hpo hbs hnd hfr h hXK OG hF;generalize bs.map Prod.fst=bf at *;generalize jG g (bs.map Prod.snd)=R at *;generalize bs.length=bl at *;clear bs;obtain⟨R1,R2⟩:=R;simp only at *;obtain⟨gl,GZ⟩:=eY (g.length)
 rw[<- GZ]at MR hgl ⊢;clear GZ;go_enter Tryz.func347,Tryz.ntmps347;go_wp2;go_loopw [5,12] (fun pv iv wr=>∃ (k:Nat) (Ak:Nat->Nat),k<=bl/\iv=.int .i64 (k:Int)/\pv=.bool (XK k).1/\Hid (bz 178 297 F wr gb Ak os (XK k).2)/\Hid (∀ p∈(XK k).2,∀ x,p.2=some x->Ak x.1 ∉ bf.drop k)/\Hid (Kept (fun b=>b≠gb) w wr)) (fun _ iv _=>bl-(intOf iv).toNat)
 case atStart=>exact⟨0,A,Q8 _,rfl,by rw[HX0.o],by show bz 178 297 F _ _ _ _ _; rw[HX0.o]; exact HG0.o,by show ∀ p∈_,_; rw[HX0.o]; exact HFR.o,Zn _ _⟩
 case round=>
  obtain⟨k,Ak,hk,rfl,rfl,Kw,HFK,HKK⟩:=hrel;by_cases hlt:k<bl
  ·obtain⟨bb,Ol,hbo,hbc⟩:=dB.get (RX.o.aX HKK.o (fun _ a ha=>J9.o a ha)) (i:=k) (by rw[wX.o]; exact hlt);subst hbo;have hck:=hbc k (by rw[wX.o]; exact hlt);obtain⟨G,hG⟩:∃ G,G=(XK k).2:=⟨_,rfl⟩
   obtain⟨b0,hb0⟩:∃ b,b=(XK k).1:=⟨_,rfl⟩
   have G7:=HST.o k hlt;have hGl:=MR.o k;rw[<- hG]at Kw HFK G7 hGl;rw[<- hb0]at G7 ⊢;obtain⟨t,ht⟩:=eY (BD k)
   have HTw:=R3.o k hlt;rw[<- ht]at G7 HTw;obtain⟨A',hA'⟩:=eY (rP Ak (dh G) (bf.getD k 0))
   obtain⟨a,ha⟩:=eY (bf.getD k 0)
   have HAn:Hid (A' (dh G)=a):=by show _=_; rw[hA',ha]; unfold rP; rw[Qy rfl]
   have qU:Hid (bz 178 297 F wr gb A' os (kC (dh G) t 0 G)):=by show bz _ _ _ _ _ _ _ _; rw[Ug,hA']; exact Kw.o.retag _
   have HF1:Hid (∀ i,∀ p∈kC (dh G) t i G,∀ x,p.2=some x->A' x.1=A' (dh G)->x.1=dh G):=fun i=>by rw[hA']; exact Uk (by rw[wX.o]; exact hlt) HFK.o t
   have HF2:Hid (∀ p∈kC (dh G) t G.length G,∀ x,p.2=some x->A' x.1 ∉ bf.drop (k+1)):=by rw[hA']; exact OE (by rw[wX.o]; exact hlt) HND.o HFK.o t
   have agy:Hid (kC (dh G) t gl G=(XK (k+1)).2):=by show _=_; rw[G7.2,<- hGl]; exact Yw t G
   have HB1:Hid ((b0 || (G.take gl).any (eF t))=(XK (k+1)).1):=by show _=_; rw[G7.1,<- hGl,QA]
   rw[<- ha]at hck HTw;have HTr:=Zh HTw;obtain⟨MB,hMB⟩:∃ M:Nat->Bool,M=fun i=>b0 || (G.take i).any (eF t):=⟨_,rfl⟩
   have HM0:Hid (MB 0=b0):=by show _=_; rw[hMB]; simp
   have HMS:Hid (∀ i,i<gl->MB (i+1)=(MB i || eF t (G.getD i oh))):=fun i hi=>by
    rw[hMB]
    show (b0 || (G.take (i+1)).any (eF t))=(b0 || (G.take i).any (eF t) || eF t (G.getD i oh))
    rw[Ui t (by rw[hGl]; exact hi),Bool.or_assoc]
   have HME:Hid (MB gl=(XK (k+1)).1):=by show _=_; rw[hMB]; exact HB1.o
   have aqI:=Zh hGl;have HF3:Hid (∀ p∈(XK (k+1)).2,∀ x,p.2=some x->A' x.1 ∉ bf.drop (k+1)):=by
    have:=HF2.o;rw[hGl,agy.o]at this;exact this
   obtain⟨n,hn⟩:=eY (dh G)
   rw[<- hn]at HAn qU HF1 agy;clear hbc hG hb0 G7 hGl HTw ht hA' ha HF2 HB1 hMB Kw HFK hn;go_wp2;go_loopw [5,18] (fun pv iv wr=>∃ i:Nat,i<=gl/\iv=.int .i64 (i:Int)/\pv=.bool (MB i)/\Hid (bz 178 297 F wr gb A' os (kC n t i G))/\Hid (Kept (fun b=>b≠gb) w wr)) (fun _ iv _=>gl-(intOf iv).toNat)
   case atStart=>exact⟨0,Q8 _,rfl,by rw[HM0.o],qU.o,HKK.o⟩
   case round=>
    obtain⟨i,hi,rfl,rfl,Ul,HKI⟩:=hrel;by_cases hil:i<gl
    ·have hiG:i<G.length:=by rw[aqI.o]; exact hil
     have hcc:=Ul.o.cells (i:=i) (by rw[sQ]; exact hiG);have RV:=Ul.o.ord i (by rw[sQ]; exact hiG);rw[xR n t hiG]at hcc RV;have HMI:=HMS.o i hil;obtain⟨p,hP,yQ⟩:=(HTr.o.aX (HKI.o.mono fun b _ hb=>HFG.o b hb)).lh;obtain⟨ov,hov⟩:=eY (os.getD i fC)
     rw[<- hov]at hcc RV;obtain⟨q,hq⟩:=eY (G.getD i oh)
     rw[<- hq]at hcc RV HMI;have HNO:Hid (eF t q=false->kC n t (i+1) G=kC n t i G):=fun e=>acF n t hiG (by rw[<- hq]; exact e)
     have acG:Hid (eF t q=true->bz 178 297 F wr gb A' os (kC n t i G)->∀ x,Kept (fun b=>b≠gb) w x->bz 178 297 F x gb A' os (kC n t i G)->bz 178 297 F (x.setCell (aD gb (i*2+1)) (.pointer (some (aD a 0)))) gb A' os (kC n t (i+1) G)):=fun e _ x hx hg=>by
      have h1:=hg.put HNF.o (i:=i) (n:=n) (t:=t) (by rw[sQ]; exact hiG) (by rw[HAn.o]; exact HTr.o.aX (hx.mono fun b _ hb=>HFG.o b hb)) (HF1.o i);rw[HAn.o,xR n t hiG,<- hq]at h1;rw[Yx n t hiG (by rw[<- hq]; exact e),<- hq];exact h1
     have eo:p.order.xs=t.d.order:=congrArg bZ.order yQ;have ec:p.cost=t.d.cost:=congrArg bZ.cost yQ;have jk:Hid (∀ y,Bw wr y->Cb 205 #[.slice p.order.ad p.order.xs.length p.order.cap,.slice ov.ad ov.xs.length ov.cap] y (.bool (aP t.d.order q.1))):=fun y hy=>by
      rw[<- eo,<- RV.1];exact jI p.order.ad ov.ad p.order.cap ov.cap p.order.xs ov.xs y (Qv hy hP.ok.order) (Qv hy RV.2.1.at') hP.ok.cap
     have c3:wr.cell? (aD a 3)=some (.slice p.order.ad p.order.xs.length p.order.cap):=hP.c3;have c5:=hP.c5;have g0:wr.cell? (aD gb (i*2))=some (.slice ov.ad ov.xs.length ov.cap):=hcc.1;have g1:=hcc.2;have Ky:Hid (∀ x,Bw wr x->x.frozen? (aD gb (i*2+1))=false):=fun x hx=>(Ul.o.below hx).frozen _
     generalize p.order.xs.length=R4 at *;generalize p.order.ad=R5 at *;generalize p.order.cap=R6 at *;generalize ov.xs.length=MS at *;generalize ov.ad=MU at *;generalize ov.cap=MW at *;rw[ec]at c5;have HMX:=Zh HMI;have HQT:Hid (∀ y,q.2=some y->aG 178 F wr (A' y.1) y.2):=fun y hy=>Ul.o.tree (G.getD i oh) (by rw[<- xR n t hiG]; exact lW (by rw[sQ]; exact hiG)) y (by rw[<- hq]; exact hy)
     clear hcc RV hP yQ eo ec hov hq HMI hiG p ov;obtain⟨wq,hwq⟩:∃ x,x=wr:=⟨_,rfl⟩
     subst hwq;obtain⟨SB,hSB⟩:=eY (aP t.d.order q.1)
     rw[<- hSB]at jk
     cases SB with
     | false =>
      have HT:=Zh (OD hSB.symm);have R7:Hid (MB (i+1)=MB i):=by show _=_; rw[HMX.o,HT.o,Bool.or_false]
      have HG2:Hid (∀ x,Bw wq x->bz 178 297 F x gb A' os (kC n t (i+1) G)):=fun x hx=>by rw[HNO.o HT.o]; exact Ul.o.below hx
      obtain⟨po,hpo⟩:∃ po,GV A' q.2=.pointer po:=by
       cases q.2 with
       | none => exact⟨_,rfl⟩
       | some y => exact⟨_,rfl⟩
      rw[hpo]at g1;clear hSB hpo HMX HQT;obtain⟨w1,hw1⟩:∃ x,wq.alloc (.cells #[.slice MU MS MW,.pointer po] 297)=x:=⟨_,rfl⟩
      have hb1:Bw wq w1:=by rw[<- hw1]; exact dn _ _
      have a0:w1.cell? (aD wq.heap.size 0)=some (.slice MU MS MW):=by rw[<- hw1]; simp
      have a1:w1.cell? (aD wq.heap.size 1)=some (.pointer po):=by rw[<- hw1]; simp
      have d3:=cB hb1 c3;have d5:=cB hb1 c5;have HB1:=Zh hb1;clear hb1;go_wp2_with fail;clear hw1;refine wH w1 fun hS=>?_
      refine wt 0 (.pointer (some (aD a 0))) hS ?_;refine wt 1 (.pointer (some (aD a 0))) hS ?_;refine wt 2 (.pointer (some (aD a 0))) hS ?_;refine wt 3 (.pointer (some (aD a 3))) hS ?_;refine lH 4 (.slice R5 R4 R6) hS d3 ?_;refine wt 5 (.pointer (some (aD wq.heap.size 0))) hS ?_;refine lH 6 (.slice MU MS MW) hS a0 ?_;refine wR 7 fun K hK=>?_
      go_simp;refine Xt (jk.o _ (HB1.o.trans (hS.mono HB1.o.size))) ?_;rintro e w2 ⟨rfl,hb⟩;refine oT hK hS hb fun hS=>?_
      clear hK K;refine wt 8 (.bool false) hS ?_;simp only[Act.put,XX,XY,XZ,ZZ,Qe,Qf];refine wU 9 hS ?_;refine wU 10 hS ?_;refine wU 11 hS ?_;refine wU 12 hS ?_;refine wU 13 hS ?_;refine wU 14 hS ?_;refine wU 15 hS ?_;refine wU 16 hS ?_;refine wU 17 hS ?_;refine wU 18 hS ?_;refine wU 19 hS ?_;refine wU 20 hS ?_;refine wU 21 hS ?_;refine wU 22 hS ?_;refine wU 23 hS ?_;refine wU 24 hS ?_;refine wU 25 hS ?_;refine wg 26 (.bool false) hS ?_;refine wD ?_
      try simp only[Act.put,XX,XY,XZ,ZZ,Qe,Qf]
      try simp only[Act.put,XX,XY,XZ,ZZ,Qe,Qf]
      have HB2:=Zh (HB1.o.trans (hS.mono HB1.o.size));have AP:=Zh (HG2.o w2 HB2.o);have rU:=Zh (HKI.o.trans (Zo HB2.o (fun _ h _=>h)));clear hS c3 c5 d3 d5 a0 a1 g0 g1 jk hck;go_wp2;go_roundw
      case rel=>exact⟨i+1,by omega,by go_num,by rw[R7.o],AP.o,rU.o⟩
      case measure=>simp[intOf]; omega
     | true =>
      cases hq2:q.2 with
      | none =>
       have HT:=Zh ((Ku hq2).trans hSB.symm);have R7:Hid (MB (i+1)=true):=by show _=_; rw[HMX.o,HT.o,Bool.or_true]
       have HG2:=Zh (acG.o HT.o Ul.o);rw[hq2]at g1;change wq.cell? (aD gb (i*2+1))=some (.pointer none) at g1;clear hSB HMX HQT hq2;obtain⟨w1,hw1⟩:∃ x,wq.alloc (.cells #[.slice MU MS MW,.pointer none] 297)=x:=⟨_,rfl⟩
       have hb1:Bw wq w1:=by rw[<- hw1]; exact dn _ _
       have a0:w1.cell? (aD wq.heap.size 0)=some (.slice MU MS MW):=by rw[<- hw1]; simp
       have a1:w1.cell? (aD wq.heap.size 1)=some (.pointer none):=by rw[<- hw1]; simp
       have d3:=cB hb1 c3;have d5:=cB hb1 c5;have HB1:=Zh hb1;clear hb1;have HW1:=Zh hw1;clear hw1;go_wp2_with fail;rw[HW1.o];clear HW1;refine wH w1 fun hS=>?_
       refine wt 0 (.pointer (some (aD a 0))) hS ?_;refine wt 1 (.pointer (some (aD a 0))) hS ?_;refine wt 2 (.pointer (some (aD a 0))) hS ?_;refine wt 3 (.pointer (some (aD a 3))) hS ?_;refine lH 4 (.slice R5 R4 R6) hS d3 ?_;refine wt 5 (.pointer (some (aD wq.heap.size 0))) hS ?_;refine lH 6 (.slice MU MS MW) hS a0 ?_;refine wR 7 fun K hK=>?_
       go_simp;refine Xt (jk.o _ (HB1.o.trans (hS.mono HB1.o.size))) ?_;rintro e w2 ⟨rfl,hb⟩;refine oT hK hS hb fun hS=>?_
       clear hK K;refine wt 8 (.bool true) hS ?_;simp only[Act.put,XX,XY,XZ,ZZ,Qe,Qf];refine wg 9 (.pointer (some (aD wq.heap.size 1))) hS ?_;refine wgc 10 (.pointer none) hS a1 ?_;refine wg 11 (.bool true) hS ?_;refine wg 12 (.bool true) hS ?_;simp only[Act.put,XX,XY,XZ,ZZ,Qe,Qf];refine wU 13 hS ?_;refine wU 14 hS ?_;refine wU 15 hS ?_;refine wU 16 hS ?_;refine wU 17 hS ?_;refine wU 18 hS ?_;refine wU 19 hS ?_;refine wU 20 hS ?_;refine wU 21 hS ?_;refine wU 22 hS ?_;refine wU 23 hS ?_;refine wU 24 hS ?_;refine wg 25 (.bool true) hS ?_;refine wg 26 (.bool true) hS ?_;refine wD ?_
       try simp only[Act.put,XX,XY,XZ,ZZ,Qe,Qf]
       try simp only[Act.put,XX,XY,XZ,ZZ,Qe,Qf]
       have HB2:=Zh (HB1.o.trans (hS.mono HB1.o.size));have rQ:=Zh (HKI.o.trans (Zo HB2.o (fun _ h _=>h)));have AP:=Zh (HG2.o w2 rQ.o (Ul.o.below HB2.o));have rU:Hid (Kept (fun b=>b≠gb) w (w2.setCell (aD gb (i*2+1)) (.pointer (some (aD a 0))))):=rQ.o.trans (ZL _ _ _ (fun h=>h rfl));have s1:=cB HB2.o g1;have f1:=Ky.o w2 HB2.o;clear hS c3 c5 d3 d5 a0 a1 g0 g1 jk hck;go_wp2;go_roundw
       case rel=>exact⟨i+1,by omega,by go_num,by rw[R7.o],AP.o,rU.o⟩
       case measure=>simp[intOf]; omega
      | some y =>
       obtain⟨py,hPy,hyd⟩:=(HQT.o y hq2).lh;have ey:py.cost=y.2.d.cost:=congrArg bZ.cost hyd;have Kz:Hid (eF t q=decide (t.d.cost<y.2.d.cost)):=by
        show _=_
        rw[Kv hq2,<- hSB,QE]
       have r5:wq.cell? (aD (A' y.1) 5)=some (.int .u64 (y.2.d.cost:Int)):=by rw[<- ey]; exact hPy.c5
       rw[hq2]at g1;change wq.cell? (aD gb (i*2+1))=some (.pointer (some (aD (A' y.1) 0))) at g1;generalize A' y.1=r at *;generalize y.2.d.cost=cr at *;obtain⟨cx,hcx⟩:=eY (t.d.cost)
       rw[<- hcx]at c5 Kz;clear hPy hyd ey hSB hq2 hcx HQT py;by_cases hc:cx<cr
       ·have HC:=Zh hc;have HT:Hid (eF t q=true):=by show _=_; rw[Kz.o]; exact QD hc
        have R7:Hid (MB (i+1)=true):=by show _=_; rw[HMX.o,HT.o,Bool.or_true]
        have HG2:=Zh (acG.o HT.o Ul.o);clear hc HMX;obtain⟨w1,hw1⟩:∃ x,wq.alloc (.cells #[.slice MU MS MW,.pointer (some (aD r 0))] 297)=x:=⟨_,rfl⟩
        have hb1:Bw wq w1:=by rw[<- hw1]; exact dn _ _
        have a0:w1.cell? (aD wq.heap.size 0)=some (.slice MU MS MW):=by rw[<- hw1]; simp
        have a1:w1.cell? (aD wq.heap.size 1)=some (.pointer (some (aD r 0))):=by rw[<- hw1]; simp
        have d3:=cB hb1 c3;have d5:=cB hb1 c5;have HB1:=Zh hb1;have d6:=cB hb1 r5;clear hb1;go_wp2_with fail;clear hw1;refine wH w1 fun hS=>?_
        refine wt 0 (.pointer (some (aD a 0))) hS ?_;refine wt 1 (.pointer (some (aD a 0))) hS ?_;refine wt 2 (.pointer (some (aD a 0))) hS ?_;refine wt 3 (.pointer (some (aD a 3))) hS ?_;refine lH 4 (.slice R5 R4 R6) hS d3 ?_;refine wt 5 (.pointer (some (aD wq.heap.size 0))) hS ?_;refine lH 6 (.slice MU MS MW) hS a0 ?_;refine wR 7 fun K hK=>?_
        go_simp;refine Xt (jk.o _ (HB1.o.trans (hS.mono HB1.o.size))) ?_;rintro e w2 ⟨rfl,hb⟩;refine oT hK hS hb fun hS=>?_
        clear hK K;refine wt 8 (.bool true) hS ?_;simp only[Act.put,XX,XY,XZ,ZZ,Qe,Qf];refine wg 9 (.pointer (some (aD wq.heap.size 1))) hS ?_;refine wgc 10 (.pointer (some (aD r 0))) hS a1 ?_;refine wg 11 (.bool false) hS ?_;refine wg 12 (.bool false) hS ?_;simp only[Act.put,XX,XY,XZ,ZZ,Qe,Qf];refine wg 13 (.pointer (some (aD a 0))) hS ?_;refine wg 14 (.pointer (some (aD a 0))) hS ?_;refine wg 15 (.pointer (some (aD a 0))) hS ?_;refine wg 16 (.pointer (some (aD a 5))) hS ?_;refine wgc 17 (.int .u64 (cx:Int)) hS d5 ?_;refine wg 18 (.pointer (some (aD wq.heap.size 1))) hS ?_;refine wgc 19 (.pointer (some (aD r 0))) hS a1 ?_;refine wg 20 (.pointer (some (aD r 0))) hS ?_;refine wg 21 (.pointer (some (aD r 0))) hS ?_;refine wg 22 (.pointer (some (aD r 5))) hS ?_;refine wgc 23 (.int .u64 (cr:Int)) hS d6 ?_;refine wG 24 (.bool true) hS (fun x hx=>?_) ?_
        ·have hc:=HC.o;go_simp
        refine wg 25 (.bool true) hS ?_;refine wg 26 (.bool true) hS ?_;refine wD ?_
        try simp only[Act.put,XX,XY,XZ,ZZ,Qe,Qf]
        try simp only[Act.put,XX,XY,XZ,ZZ,Qe,Qf]
        have HB2:=Zh (HB1.o.trans (hS.mono HB1.o.size));have rQ:=Zh (HKI.o.trans (Zo HB2.o (fun _ h _=>h)));have AP:=Zh (HG2.o w2 rQ.o (Ul.o.below HB2.o));have rU:Hid (Kept (fun b=>b≠gb) w (w2.setCell (aD gb (i*2+1)) (.pointer (some (aD a 0))))):=rQ.o.trans (ZL _ _ _ (fun h=>h rfl));have s1:=cB HB2.o g1;have f1:=Ky.o w2 HB2.o;clear hS c3 c5 d3 d5 a0 a1 g0 g1 jk hck;clear r5 d6;go_wp2;go_roundw
        case rel=>exact⟨i+1,by omega,by go_num,by rw[R7.o],AP.o,rU.o⟩
        case measure=>simp[intOf]; omega
       ·have HC:=Zh (Nat.le_of_not_lt hc);have HT:Hid (eF t q=false):=by show _=_; rw[Kz.o]; exact Ql hc
        have R7:Hid (MB (i+1)=MB i):=by show _=_; rw[HMX.o,HT.o,Bool.or_false]
        have HG2:Hid (∀ x,Bw wq x->bz 178 297 F x gb A' os (kC n t (i+1) G)):=fun x hx=>by rw[HNO.o HT.o]; exact Ul.o.below hx
        clear hc HMX;obtain⟨w1,hw1⟩:∃ x,wq.alloc (.cells #[.slice MU MS MW,.pointer (some (aD r 0))] 297)=x:=⟨_,rfl⟩
        have hb1:Bw wq w1:=by rw[<- hw1]; exact dn _ _
        have a0:w1.cell? (aD wq.heap.size 0)=some (.slice MU MS MW):=by rw[<- hw1]; simp
        have a1:w1.cell? (aD wq.heap.size 1)=some (.pointer (some (aD r 0))):=by rw[<- hw1]; simp
        have d3:=cB hb1 c3;have d5:=cB hb1 c5;have HB1:=Zh hb1;have d6:=cB hb1 r5;clear hb1;go_wp2_with fail;clear hw1;refine wH w1 fun hS=>?_
        refine wt 0 (.pointer (some (aD a 0))) hS ?_;refine wt 1 (.pointer (some (aD a 0))) hS ?_;refine wt 2 (.pointer (some (aD a 0))) hS ?_;refine wt 3 (.pointer (some (aD a 3))) hS ?_;refine lH 4 (.slice R5 R4 R6) hS d3 ?_;refine wt 5 (.pointer (some (aD wq.heap.size 0))) hS ?_;refine lH 6 (.slice MU MS MW) hS a0 ?_;refine wR 7 fun K hK=>?_
        go_simp;refine Xt (jk.o _ (HB1.o.trans (hS.mono HB1.o.size))) ?_;rintro e w2 ⟨rfl,hb⟩;refine oT hK hS hb fun hS=>?_
        clear hK K;refine wt 8 (.bool true) hS ?_;simp only[Act.put,XX,XY,XZ,ZZ,Qe,Qf];refine wg 9 (.pointer (some (aD wq.heap.size 1))) hS ?_;refine wgc 10 (.pointer (some (aD r 0))) hS a1 ?_;refine wg 11 (.bool false) hS ?_;refine wg 12 (.bool false) hS ?_;simp only[Act.put,XX,XY,XZ,ZZ,Qe,Qf];refine wg 13 (.pointer (some (aD a 0))) hS ?_;refine wg 14 (.pointer (some (aD a 0))) hS ?_;refine wg 15 (.pointer (some (aD a 0))) hS ?_;refine wg 16 (.pointer (some (aD a 5))) hS ?_;refine wgc 17 (.int .u64 (cx:Int)) hS d5 ?_;refine wg 18 (.pointer (some (aD wq.heap.size 1))) hS ?_;refine wgc 19 (.pointer (some (aD r 0))) hS a1 ?_;refine wg 20 (.pointer (some (aD r 0))) hS ?_;refine wg 21 (.pointer (some (aD r 0))) hS ?_;refine wg 22 (.pointer (some (aD r 5))) hS ?_;refine wgc 23 (.int .u64 (cr:Int)) hS d6 ?_;refine wG 24 (.bool false) hS (fun x hx=>?_) ?_
        ·have hc:=HC.o;go_simp
        refine wg 25 (.bool false) hS ?_;refine wg 26 (.bool false) hS ?_;refine wD ?_
        try simp only[Act.put,XX,XY,XZ,ZZ,Qe,Qf]
        try simp only[Act.put,XX,XY,XZ,ZZ,Qe,Qf]
        have HB2:=Zh (HB1.o.trans (hS.mono HB1.o.size));have AP:=Zh (HG2.o w2 HB2.o);have rU:=Zh (HKI.o.trans (Zo HB2.o (fun _ h _=>h)));clear hS c3 c5 d3 d5 a0 a1 g0 g1 jk hck;clear r5 d6;go_wp2;go_roundw
        case rel=>exact⟨i+1,by omega,by go_num,by rw[R7.o],AP.o,rU.o⟩
        case measure=>simp[intOf]; omega
    ·have hig:gl=i:=by omega
     have AP:Hid (bz 178 297 F wr gb A' os (XK (k+1)).2):=by
      have:=Ul.o;rw[<- hig,agy.o]at this;exact this
     have R7:Hid (MB i=(XK (k+1)).1):=by show _=_; rw[<- hig]; exact HME.o
     clear hig;go_wp2;go_roundw
     case rel=>exact⟨k+1,A',by omega,by go_num,by rw[R7.o],AP.o,HF3.o,HKI.o⟩
     case measure=>simp[intOf]; omega
  ·have hkb:bl=k:=by omega
   have HR:Hid (XK k=(R1,R2)):=by show _=_; rw[<- hkb]; exact HE.o
   rw[HR.o]at Kw ⊢;clear hkb HR;go_wp2;go_ret;exact⟨rfl,⟨Ak,Kw.o⟩,HKK.o⟩
theorem Fz.kept'{w':World}(h:Fz F W0 w){s:Nat->Prop}(hk:Kept s w w')(hs:∀ b,Live W0 b->s b):Fz F W0 w':=
 ⟨h.below.kept hk hs,h.low,fun b hb=>h.high b (Zl hk.size hb)⟩
theorem Fz.acI(h:Fz F W0 w){g:Nat}(hg:¬ F g):∀ b,Live W0 b->b≠g:=fun b hb e=>hg (e ▸ h.low b hb)
theorem FK(h:bL g=some t):∃ x,(g.getD 0 oh).2=some x/\x.2=t:=by
 match g,h with
 | [],h => cases h
 | (_,none)::_,h => cases h
 | (o,some y)::r,h => injection h with h; exact⟨y,rfl,h⟩
theorem dO{w w':World}{s:Nat->Prop}(hk:Kept s w w'){b o:Nat}{v:Value}(h:w.cell? (aD b o)=some v)(hs:s b):w'.cell? (aD b o)=some v:=by
 rw[Zw (hk.block b (Zv h) hs)];exact h
theorem KA{f:au}{ts:List af}{q:ae}(E:Env f ts q W0)(hz:Fz F W0 w)(h:bz 178 297 F w gb A os g)(hF:¬ F gb){s:Nat}(hgo:uw q s g)(gc:Nat)(hgc:g.length<=gc)(hcm:gc<=9223372036854775807)(bo:Option Addr)(bc:Nat)(bs:List (Nat × aQ))(hp:dB w bo (bs.map Prod.fst))(hpo:∀ a,bo=some a->a.block≠gb)(hbs:∀ x∈bs,aG 178 F w x.1 x.2)(hnd:(bs.map Prod.fst).Nodup)(hfr:∀ p∈g,∀ x,p.2=some x->A x.1 ∉ bs.map Prod.fst)(hl:bs.length<=1000)(Ed:∀ x∈bs,MO q s x.2) :
  Calls Tryz.prog 305 #[.slice (some (aD gb 0)) g.length gc,.agg (f.cells ts q),.slice bo bs.length bc] w fun e w'=>e=.returned (.bool (bg ts q g (bs.map Prod.snd)).1)/\(∃ A',bz 178 297 F w' gb A' os (bg ts q g (bs.map Prod.snd)).2)/\Kept (fun b=>b≠gb) w w':=by
 obtain⟨v0,v1,v2,v3,v4,v5,v6,v7,v8,v9,v10,v11,v12,bB,-⟩:=Xu f ts q;have hgl:=hgo.short;have hg0:0<g.length:=by obtain⟨hh,r,rfl,-⟩:=hgo.head; simp
 obtain⟨w1,hw1,hb1,hg1⟩:=aU w #[v0,v1,v2,v3,v4,v5,v6,v7,v8,v9,v10,v11,v12] 90;have YA:=FJ (h.below hb1) hF hgl gc bo bc bs (hp.below hb1) hpo (fun x hx=>(hbs x hx).below hb1) hnd hfr hl;have hok1:=uy (l:=bs.map Prod.snd) (x:=(false,g)) hgo (fun t ht=>by obtain⟨x,hx,rfl⟩:=Zi.1 ht; exact Ed x hx) (fun e=>by cases e);have acJ:=vP g (bs.map Prod.snd);have HR:Hid (bg ts q g (bs.map Prod.snd)=if (jG g (bs.map Prod.snd)).1=true then (true,((g.map Prod.fst).drop 1).foldl (fq ts q) (jG g (bs.map Prod.snd)).2) else (false,(jG g (bs.map Prod.snd)).2)):=rfl;change uw q s (jG g (bs.map Prod.snd)).2/\((jG g (bs.map Prod.snd)).1=true->(bL (jG g (bs.map Prod.snd)).2).isSome=true) at hok1;generalize bg ts q g (bs.map Prod.snd)=R at *;generalize jG g (bs.map Prod.snd)=O at *;obtain⟨O1,O2⟩:=O;obtain⟨R1,R2⟩:=R;simp only at *;have aqM:O2.length=g.length:=by have:=congrArg List.length acJ; simpa using this
 have xU:=Zh h.lt;have qU:=Zh hg1;have HB1:=Zh hb1;have HZ1:=Zh (hz.next hb1);have HNL:=Zh (hz.acI hF)
 cases O1 with
 | false =>
  have HR2:Hid (R1=false/\R2=O2):=by have:=HR.o; rw[Qz (by simp)]at this; injection this with e1 e2; exact⟨e1,e2⟩
  clear HR h hok1 hz E hp hbs hfr Ed hg1 hb1;rw[bB];go_enter Tryz.func305,Tryz.ntmps305;go_wp2_with fail;refine YA.mono ?_;rintro e w2 ⟨rfl,hA2,hk2⟩;have HF:Hid ((∃ A',bz 178 297 F w2 gb A' os R2)/\Kept (fun b=>b≠gb) w w2):=⟨by rw[HR2.o.2]; exact hA2,(Zo HB1.o (fun _ h _=>h)).trans hk2⟩
  clear YA hA2 hk2 hw1;go_wp2;go_ret;exact⟨by rw[HR2.o.1]; rfl,HF.o⟩
 | true =>
  have HR2:Hid (R1=true/\R2=((g.map Prod.fst).drop 1).foldl (fq ts q) O2):=by have:=HR.o; rw[Qy rfl]at this; injection this with e1 e2; exact⟨e1,e2⟩
  obtain⟨RK,Un⟩:∃ X:Nat->List aj,X=fun k=>(((g.map Prod.fst).drop 1).take k).foldl (fq ts q) O2:=⟨_,rfl⟩
  have hdl:((g.map Prod.fst).drop 1).length=g.length-1:=by rw[XT,Zc]
  have HST:Hid (∀ k,k<g.length-1->RK (k+1)=fq ts q (RK k) (((g.map Prod.fst).drop 1).getD k [])):=fun k hk=>by rw[Un]; exact iR _ O2 _ [] (by rw[hdl]; exact hk)
  have AX:Hid (∀ k,uw q s (RK k)/\(bL (RK k)).isSome=true/\(RK k).length=g.length/\(RK k).map Prod.fst=g.map Prod.fst):=fun k=>by
   have h1:=vQ (ts:=ts) (os:=((g.map Prod.fst).drop 1).take k) hok1.1 (hok1.2 rfl);have h2:=sN ts q (((g.map Prod.fst).drop 1).take k) O2;rw[Un];refine⟨h1.1,h1.2,?_,h2.trans acJ⟩;have:=congrArg List.length (h2.trans acJ)
   simpa using this
  have kJ:Hid (RK (g.length-1)=R2):=by
   show _=_
   rw[Un,HR2.o.2]
   show (((g.map Prod.fst).drop 1).take (g.length-1)).foldl _ _=_
   rw[<- hdl,QA]
  have JH:Hid (RK 0=O2):=by show _=_; rw[Un]; rfl
  have HOR:Hid (∀ k,k<g.length-1->((g.map Prod.fst).drop 1).getD k []=(g.getD (k+1) oh).1):=fun k hk=>by
   rw[XH,XQ,Ze,XH,Nat.add_comm 1 k,ZX (by omega)];rfl
  have uS:Hid (∀ (x:World) (k a:Nat) (t:aQ) (o:ah),Fz F W0 x->aG 178 F x a t->jB q t->IntsIn F x o->o.xs.length<=1000->Calls Tryz.prog 346 #[.agg #[v0,v1,v2,v3,v4,v5,v6,v7,v8,v9,v10,v11,v12],.pointer (some (aD a 0)),.slice o.ad o.xs.length o.cap] x (bR 178 F x (bO ts q t o.xs))):=fun x k a t o hx ht hto ho hol=>by
   rw[<- bB];exact Cs E hx a t ht hto o ho.at' ho.inf ho.nil ho.cap hol
  have HNF:=Zh hF;clear HR h hok1 hz E hp hbs hfr Ed hg1 hb1 Un hdl aqM acJ hF hpo hnd;rw[bB];clear bB;obtain⟨gl,GZ⟩:=eY (g.length)
  rw[<- GZ]at HST kJ HOR YA hgl hg0 hgc ⊢;have MR:=Zh GZ;clear GZ;obtain⟨m,hm⟩:∃ m,gl=m+1:=⟨gl-1,by omega⟩
  subst hm;rw[Nat.add_sub_cancel]at HST kJ HOR;obtain⟨A0,hA0,HA0⟩:∃ A0:Addr,(if gc=1 then some ((aD gb 0):Addr) else some (aD gb 2))=some A0/\Hid (0<m->A0=(aD gb 2)):=by
   by_cases h1:gc=1
   ·exact⟨(aD gb 0),by rw[Qy h1],fun h=>by omega⟩
   ·exact⟨(aD gb 2),by rw[Qz h1],fun _=>rfl⟩
  go_enter Tryz.func305,Tryz.ntmps305;go_wp2_with fail;refine YA.mono ?_;rintro e w2 ⟨rfl,⟨A2,hA2⟩,hk2⟩;have HA2:Hid (bz 178 297 F w2 gb A2 os (RK 0)):=by show bz _ _ _ _ _ _ _ _; rw[JH.o]; exact hA2
  have rQ:=Zh hk2;clear YA hA2 hk2 hw1;go_wp2;clear hA0;go_loopw [16] (fun iv wr=>∃ (k:Nat) (Ak:Nat->Nat),k<=m/\iv=.int .i64 (k:Int)/\Hid (bz 178 297 F wr gb Ak os (RK k))/\Hid (Kept (fun b=>b≠gb) w1 wr)) (fun iv _=>m-(intOf iv).toNat)
  case atStart=>exact⟨0,A2,Q8 _,rfl,HA2.o,rQ.o⟩
  case round=>
   obtain⟨k,Ak,hk,rfl,Kw,HKK⟩:=hrel;by_cases hlt:k<m
   ·have hA2:=HA0.o (by omega);subst hA2;have rR:=AX.o k;have hcc:=Kw.o.cells (i:=k+1) (by rw[rR.2.2.1,<- MR.o]; omega);have RV:=Kw.o.ord (k+1) (by rw[rR.2.2.1,<- MR.o]; omega);have hfk:((RK k).getD (k+1) oh).1=(g.getD (k+1) oh).1:=by
     have h1:k+1<(RK k).length:=by rw[rR.2.2.1,<- MR.o]; omega
     have h2:k+1<g.length:=by rw[<- MR.o]; omega
     have:=congrArg (fun l=>l.getD (k+1) []) rR.2.2.2;simp only[XH,Ze,ZX h1,ZX h2]at this ⊢;exact this
    have G7:=HST.o k hlt;rw[HOR.o k hlt,<- hfk,<- RV.1]at G7;obtain⟨t,ht⟩:=XU.1 rR.2.1;obtain⟨y,hy,hyt⟩:=FK ht;have hty:=Kw.o.tree _ (lW (g:=RK k) (i:=0) (by rw[rR.2.2.1,<- MR.o]; omega)) y hy;rw[hyt]at hty;have akM:=(rR.1.first ht).1;have Wm:=fun x (hx:Kept (fun b=>b≠gb) wr x) (hgx:bz 178 297 F x gb Ak os (RK k))=>qW hgx (by rw[rR.2.2.1,<- MR.o]; omega) gc
    rw[rR.2.2.1,<- MR.o,hy]at Wm;have HAP:Hid (∀ x,Bw wr x->Ce 348 #[.slice (some (aD gb 0)) (m+1) gc] x (.pointer (some (aD (Ak y.1) 0)))):=fun x hx=>Wm x (Zo hx (fun _ h _=>h)) (Kw.o.below hx)
    obtain⟨ov,hov⟩:=eY (os.getD (k+1) fC)
    rw[<- hov]at hcc RV G7;have HZr:=Zh (HZ1.o.kept' HKK.o HNL.o);have acx:Hid (∀ x,Bw wr x->Calls Tryz.prog 346 #[.agg #[v0,v1,v2,v3,v4,v5,v6,v7,v8,v9,v10,v11,v12],.pointer (some (aD (Ak y.1) 0)),.slice ov.ad ov.xs.length ov.cap] x (bR 178 F x (bO ts q t ov.xs))):=fun x hx=>uS.o x k (Ak y.1) t ov (HZr.o.next hx) (hty.below hx) akM (RV.2.1.below hx) RV.2.2
    have oz:Hid (RK (k+1)=jF (RK k) (bO ts q t ov.xs)):=by
     show _=_
     rw[G7];unfold fq;rw[ht];rfl
    have akN:Hid (∀ x r c,Bw wr x->wr.heap.size<=r->c≠gb->x.cell? (aD c 0)=some (.pointer (some (aD r 0)))->aG 178 F x r (bO ts q t ov.xs)->Calls Tryz.prog 347 #[.slice (some (aD gb 0)) (m+1) gc,.slice (some (aD c 0)) 1 1] x fun e w'=>(∃ b,e=.returned (.bool b))/\(∃ A',bz 178 297 F w' gb A' os (RK (k+1)))/\Kept (fun b=>b≠gb) x w'):=fun x r c hx hr hc hcell htr=>by
     have h1:=FJ (Kw.o.below hx) HNF.o (by rw[rR.2.2.1,<- MR.o]; exact hgl) gc (some (aD c 0)) 1 [(r,bO ts q t ov.xs)] ⟨by simp,fun i hi=>⟨c,0,rfl,by
      have:i=0:=by simpa using hi
      subst this;exact hcell⟩⟩ (fun a e=>by injection e with e; rw[<- e]; exact hc) (fun z hz=>by rw[ZR]at hz; rw[hz]; exact htr) (by simp) (fun p hp z hz hm=>by
       rw[List.map_singleton,ZR]at hm;have:=(Kw.o.tree p hp z hz).lt;rw[hm]at this;omega) (by simp)
     rw[rR.2.2.1,<- MR.o]at h1;refine h1.mono ?_;rintro e w' ⟨rfl,h2,h3⟩;rw[oz.o];exact⟨⟨_,rfl⟩,h2,h3⟩
    have g0:wr.cell? (aD gb (2+k*2))=some (.slice ov.ad ov.xs.length ov.cap):=by rw[show 2+k*2=(k+1)*2 by omega]; exact hcc.1
    obtain⟨po,hpo⟩:∃ po,GV Ak ((RK k).getD (k+1) oh).2=.pointer po:=by
     cases ((RK k).getD (k+1) oh).2 with
     | none => exact⟨_,rfl⟩
     | some y => exact⟨_,rfl⟩
    have g1:wr.cell? (aD gb (2+k*2+1))=some (.pointer po):=by rw[show 2+k*2+1=(k+1)*2+1 by omega,<- hpo]; exact hcc.2
    have hfb:=qU.o.keep HKK.o (by have:=xU.o; omega);generalize Ak y.1=ar at *;generalize ov.xs.length=MS at *;generalize ov.ad=MU at *;generalize ov.cap=MW at *;generalize bO ts q t ov.xs=TT at *;have HFB:Hid _:=hfb;clear hcc RV hfk G7 ht hy hyt hty akM Wm hov hpo rR;obtain⟨wq,hwq⟩:∃ x,x=wr:=⟨_,rfl⟩
    subst hwq;obtain⟨w3,hw3⟩:∃ x,wq.alloc (.cells #[.slice MU MS MW,.pointer po] 297)=x:=⟨_,rfl⟩
    have hb3:Bw wq w3:=by rw[<- hw3]; exact dn _ _
    have p0:w3.cell? (aD wq.heap.size 0)=some (.slice MU MS MW):=by rw[<- hw3]; simp
    have hg3:=hfb.keep (Zo (s:=fun b=>b<wq.heap.size) hb3 (fun _ h _=>h)) hfb.lt;obtain⟨a0,a1,a2,a3,a4,a5,a6,a7,a8,a9,iy,iL,a12⟩:=hg3.k13;have HB3:=Zh hb3;have HX3:=Zh hfb.lt;clear hb3 hfb hg3;go_wp2_with fail;clear hw3;have vS:Hid (w.heap.size≠gb):=by show _≠_; have:=xU.o; omega
    have YB:Hid (wq.heap.size≠gb):=by show _≠_; have:=xU.o; have:=HX3.o; omega
    refine QX (S:=fun x=>Kept (fun b=>b≠gb) w3 x) (by kernel_rfl) (Zo ((Qw w3.heap.size w3).drew) (fun _ hl _=>hl)) (fun hS=>?_);refine wt 0 (.slice (some (aD gb 0)) (m+1) gc) hS ?_;refine wT 1 (.agg #[v0,v1,v2,v3,v4,v5,v6,v7,v8,v9,v10,v11,v12]) hS (fun x hx=>?_) ?_
    ·have e0:=dO hx a0 vS.o;have e1:=dO hx a1 vS.o;have e2:=dO hx a2 vS.o;have e3:=dO hx a3 vS.o;have e4:=dO hx a4 vS.o;have e5:=dO hx a5 vS.o;have e6:=dO hx a6 vS.o;have e7:=dO hx a7 vS.o;have e8:=dO hx a8 vS.o;have e9:=dO hx a9 vS.o;have e10:=dO hx iy vS.o;have e11:=dO hx iL vS.o;have e12:=dO hx a12 vS.o;go_simp
    refine wt 2 (.slice (some (aD gb 0)) (m+1) gc) hS ?_;refine wt 4 (.pointer (some (aD wq.heap.size 0))) hS ?_;refine wT 5 (.slice MU MS MW) hS (fun x hx=>?_) ?_
    ·have e0:=dO hx p0 YB.o;go_simp
    refine wR 3 fun K hK=>?_
    go_simp;refine Xt (HAP.o _ HB3.o.drew) ?_;rintro e w4 ⟨rfl,hw4⟩;subst hw4;refine hK.o _ _ hS fun hS=>?_
    clear hK K;refine wR 6 fun K hK=>?_
    go_simp;refine Xt (acx.o _ HB3.o.drew) ?_;rintro e w5 ⟨r,rfl,hT,hr1,hr2,hb5⟩;have iN:=(Qw w3.heap.size w3).drew.trans hb5;refine hK.o _ _ (Zo iN (fun _ h _=>h)) (fun hS=>?_);clear hK K;refine wR 7 fun K hK=>?_
    go_simp;refine hK.o _ _ (hS.trans (Zr _ _)) (fun hS=>?_);clear hK K;refine wR 8 fun K hK=>?_
    go_simp;refine Xt (akN.o _ r _ (HB3.o.trans ((iN.trans ((dn _ _).mono iN.size)).mono HB3.o.size)) (Zl HB3.o.size hr1) (by have:=xU.o; have:=HX3.o; have:=HB3.o.size; have:=iN.size; omega) (by simp) (hT.below (dn _ _))) ?_;rintro e w6 ⟨⟨bb,rfl⟩,hA6,oI⟩;refine hK.o _ _ (hS.trans oI) (fun hS=>?_);clear hK K;refine wD ?_
    try simp only[pV]
    try simp only[pV]
    have HF:Hid ((∃ A',bz 178 297 F w6 gb A' os (RK (k+1)))/\Kept (fun b=>b≠gb) w1 w6):=⟨hA6,HKK.o.trans ((Zo HB3.o (fun _ h _=>h)).trans hS)⟩
    clear hS hA6 a0 a1 a2 a3 a4 a5 a6 a7 a8 a9 iy iL a12 p0 g0 g1 HAP acx akN;go_wp2;go_roundw
    case rel=>obtain⟨⟨A',hA'⟩,hk'⟩:=HF.o; exact⟨k+1,A',by omega,by go_num,hA',hk'⟩
    case measure=>simp[intOf]; omega
   ·have hkm:m=k:=by omega
    have HF:Hid ((∃ A',bz 178 297 F wr gb A' os R2)/\Kept (fun b=>b≠gb) w wr):=by
     refine⟨⟨Ak,?_⟩,(Zo HB1.o (fun _ h _=>h)).trans HKK.o⟩;have:=Kw.o;rw[<- hkm,kJ.o]at this;exact this
    clear hkm;go_wp2;go_ret;exact⟨by rw[HR2.o.1]; rfl,HF.o⟩
def X0:=@dO
