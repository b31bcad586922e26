import Derived.Test.YtibkmjbegbjgcaaGreatDoorS13
import Derived.Test.YtibkmjbegbjgcaaGreatDoorS15
import Derived.Test.YtibkmjbegbjgcaaGreatDoorS17
set_option linter.all false
set_option maxRecDepth 100000
set_option maxHeartbeats 0
namespace Go.Proofs.Zz
open Go.RowKit Go.Shelf Go.Proofs.Tryz
open List renaming length->N,getD->E
open Go.Value renaming slice->Z,int->I,pointer->Y,bool->Qr,agg->Qu
open Go.Proofs.Tryz renaming prog->V
open Option renaming some->O,none->Qs
open Go.IntKind renaming i64->J,u64->Qq
open Bool renaming false->F,true->T
open Go renaming World->U,Value->Qm
open Go.World renaming heap->H,setCell->Qo,cell?->Qp
open _root_.Array renaming size->M
open Go.RowKit renaming Hid->Qn
open Go.Obj renaming cells->Qt
open Go.Ending renaming returned->Qv
variable {W0 w y:U} {f:ay} {ts:Qy af} {q:ae} {Xq:Qz}
section
def NM{P:Program}{c:Code}{Q Jq:Exit->Act->U->Prop}{a:Act}(h:c.wp P Jq a w)(hQ:∀e a w,Jq e a w->Q e a w):c.wp P Q a w:=λb k cs=>by obtain⟨e,d,w',f,g⟩:=h b k cs;exact⟨e,d,w',hQ _ _ _ f,g⟩
def GX(Xq:Qz)(sb k:Nat)(gv:Qm)(gb:Nat->Nat):Qz:=λb=>¬Xq b/\b≠sb/\gv.ownBlock≠O b/\∀j,j<k->b≠gb j
theorem Yb{Tl:TypeId}{Fq:Qz}{base:Nat}{v:Qm}{os:Qy ah}(h:gU Tl Fq base w v os)(h0:0<N os) :
  ∃b d,v=Z (O (aD b 0)) (N os) d/\N os<=d/\d<=9223372036854775807/\base<=b/\∀m,m<=N os->bg w (O (aD b 0)) m (λi=>(E (os.take m) i eG).val):=by
 rcases h.own.2 with⟨_,h1⟩|⟨g,cap,cur,rfl,hb,hh,hc,e,hs,ht⟩
 .omega
 refine⟨g,cap,rfl,hc,by unfold maxLen at e;omega,hb,λm e i f=>⟨g,0,rfl,?_⟩⟩;rw[ZC,Zl (show GB w g _ cur from hh) i];have a:(cur.toList.take (N os*1))[i]? = O (E (os.take m) i eG).val:=by grind
 rw[XG]at a;split at a
 .simpa using a
 .cases a
def zl(ts:Qy af)(q:ae)(room j:Nat):Qy (Qx):=(dO ts q j).take room
def l6(ts:Qy af)(q:ae)(room k:Nat):Bool:=(List.range k).any λs=>decide (room<N (dO ts q s))
theorem Tg(ts:Qy af)(q:ae)(room k:Nat):l6 ts q room (k+1)=(l6 ts q room k ||decide (room<N (dO ts q k))):=by unfold l6;grind
def J8(gv:Qm)(cu:Bool)(bt:Nat):Array Value:=#[gv,Z Qs 0 0,Qr cu,Y (O (aD bt 0)),Z Qs 0 0,I J 1]
structure l7(W0:U)(f:ay)(ts:Qy af)(q:ae)(Xq:Qz)(room:Nat)(w0:U)(vb sb k:Nat)(cu:Bool)(gv:Qm)(gb cp:Nat->Nat)(os:Nat->Qy ah)(bt:Nat)(x:U):Prop where
 hz:Fz (λb=>¬Xq b) W0 x
 old:Bw w0 x
 root:M (H W0)<=M (H w0)
 xlt:∀b,Xq b->b<M (H w0)
 NN:M (H w0)<sb/\M (H w0)<vb/\vb≠sb
 fbg:GB x (M (H w0)) 82 (f.cells ts q)
 var:GB x vb 57 #[Y (O (aD sb 0))]
 blk:GB x sb 95 (f.cells ts q++J8 gv cu bt)
 own:x.ownsRow (M (H w0)) 112 1 gv k ((List.range k).map λj=>Value.slice (O (aD (gb j) 0)) (N (dz (zl ts q room j))) (cp j))
 kg:∀j,j<k->aW 141 161 (GX Xq sb k gv gb) x (gb j) (λ_=>0) (os j) (dz (zl ts q room j))/\M (H w0)<=gb j/\N (dz (zl ts q room j))<=cp j/\cp j<=9223372036854775807
 apart:∀i j,i<k->j<k->gb i=gb j->i=j
 bA:aF 141 (GX Xq sb k gv gb) x bt (fq ts q)
variable {W0:U} {f:ay} {ts:Qy af} {q:ae} {Xq:Qz} {room:Nat} {w0:U} {vb sb k:Nat} {cu:Bool} {gv:Qm} {gb cp:Nat->Nat} {os:Nat->Qy ah} {bt:Nat} {x:U}
def l7.ne(h:l7 W0 f ts q Xq room w0 vb sb k cu gv gb cp os bt x):gv.ownBlock≠O sb/\gv.ownBlock≠O vb/\gv.ownBlock≠O (M (H w0))/\∀j,j<k->gv.ownBlock≠O (gb j)/\gb j≠sb/\gb j≠vb/\gb j≠M (H w0):=by refine⟨fQ h.own h.blk Qc,fQ h.own h.var Qc,fQ h.own h.fbg Qc,λj b=>?_⟩;obtain⟨c,a⟩:=(h.kg j b).1.tp;exact⟨fQ h.own a Qc,λe=>absurd (GB.tp a (e ▸ h.blk)) Qc,λe=>absurd (GB.tp a (e ▸ h.var)) Qc,λe=>absurd (GB.tp a (e ▸ h.fbg)) Qc⟩
def l7.below(h:l7 W0 f ts q Xq room w0 vb sb k cu gv gb cp os bt x){y:U}(hb:Bw x y):l7 W0 f ts q Xq room w0 vb sb k cu gv gb cp os bt y:=by have a:Kept (λb=>b<M (H x)) x y:=ZP hb (λ_ h _=>h);exact⟨h.hz.next hb,h.old.trans (hb.mono h.old.size),h.root,h.xlt,h.NN,h.fbg.keep a h.fbg.lt,h.var.keep a h.var.lt,h.blk.keep a h.blk.lt,XM h.own hb,λj d=>⟨(h.kg j d).1.below hb,(h.kg j d).2⟩,h.apart,h.bA.below hb⟩
theorem l7.flag(h:l7 W0 f ts q Xq room w0 vb sb k cu gv gb cp os bt x){c2:Bool}(hk:Kept (λb=>b≠sb) x y)(hblk:GB y sb 95 (f.cells ts q++J8 gv c2 bt)):l7 W0 f ts q Xq room w0 vb sb k c2 gv gb cp os bt y:=by
 have i:=h.ne;refine⟨⟨h.hz.below.kept hk λb a e=>?_,h.hz.low,λb a=>h.hz.high b (ZN hk.size a)⟩,h.old.trans (hk.below h.old.size λb a=>?_),h.root,h.xlt,h.NN,h.fbg.keep hk ?_,h.var.keep hk h.NN.2.2,hblk,Xf h.own hk λg e l=>i.1 (l ▸ e),λj d=>⟨(h.kg j d).1.aV (hk.mono λb _ a=>?_),(h.kg j d).2⟩,h.apart,h.bA.aV (hk.mono λb _ a=>a.2.1)⟩
 .have:=a.lt;have:=h.root;have:=h.NN.1;omega
 .have:=h.NN.1;omega
 .have:=h.NN.1;omega
 .rcases a with a|a
  .exact a.2.1
  grind
def l7.fz(h:l7 W0 f ts q Xq room w0 vb sb k cu gv gb cp os bt x):Fz (GX Xq sb k gv gb) W0 x:=by
 refine⟨h.hz.below,λb a=>⟨h.hz.low b a,?_,λe=>?_,λj d e=>?_⟩,λb a=>⟨h.hz.high b a,?_,λe=>?_,λj d e=>?_⟩⟩
 .have:=a.lt;have:=h.root;have:=h.NN.1;omega
 .have:=a.lt;have:=(Xg h.own e).1;have:=h.root;omega
 .have:=a.lt;have:=(h.kg j d).2.1;have:=h.root;omega
 .have:=h.blk.lt;omega
 .have:=(Xg h.own e).2;omega
 .obtain⟨c,g⟩:=(h.kg j d).1.tp;have:=g.lt;omega
theorem l7.push(h:l7 W0 f ts q Xq room w0 vb sb k cu gv gb cp os bt x){y1 y2 y5:U}(hb1:Bw x y1)(hb2:Bw y1 y2){gn cn:Nat}{on:Qy ah}(hg:aW 141 161 (λb=>GX Xq sb k gv gb b/\b<M (H y1)) y2 gn (λ_=>0) on (dz (zl ts q room k)))(hgn:M (H y1)<=gn/\gn<M (H y2))(hcn:N (dz (zl ts q room k))<=cn/\cn<=9223372036854775807){Yc:Qm}(ho:y5.ownsRow (M (H w0)) 112 1 Yc (k+1) (((List.range k).map λj=>Value.slice (O (aD (gb j) 0)) (N (dz (zl ts q room j))) (cp j))++[Value.slice (O (aD gn 0)) (N (dz (zl ts q room k))) cn]))(hk:Kept (λb=>b≠sb/\gv.ownBlock≠O b) y2 y5)(hat:Yc.ownBlock=gv.ownBlock∨Yc.ownBlock=O (M (H y2)+1))(hblk:GB y5 sb 95 (f.cells ts q++J8 Yc cu bt)) :
  l7 W0 f ts q Xq room w0 vb sb (k+1) cu Yc (λj=>if j=k then gn else gb j) (λj=>if j=k then cn else cp j) (λj=>if j=k then on else os j) bt y5:=by
 have z:=h.ne;have C:=az hb1 hb2;have D:=hb1.size;have K:=hb2.size;have L:=h.old.size;have v:∀j,j<k->gb j<M (H x):=λj t=>by obtain⟨c,S⟩:=(h.kg j t).1.tp;exact S.lt
 have m:∀b,gv.ownBlock=O b->b<M (H x):=λb e=>(Xg h.own e).2;have d:=(ZP (s:=λb=>b≠sb/\gv.ownBlock≠O b) C (λb l _=>l)).trans hk;have g:∀b,b<M (H y1)->GX Xq sb k gv gb b->GX Xq sb (k+1) Yc (λj=>if j=k then gn else gb j) b:=λb l a=>by
  refine⟨a.1,a.2.1,λe=>?_,λj t=>?_⟩
  .rcases hat with r|r
   .exact a.2.2.1 (r ▸ e)
   grind
  .show b≠if j=k then gn else gb j
   split
   .omega
   .exact a.2.2.2 j X
 have y:∀i,i<k->gn≠gb i:=λi A e=>Qk (v i A);have n:∀b,b<M (H x)->GX Xq sb k gv gb b->GX Xq sb (k+1) Yc (λj=>if j=k then gn else gb j) b:=λb l=>g b X;have P:∀b,GX Xq sb (k+1) Yc (λj=>if j=k then gn else gb j) b->Yc.ownBlock≠O b:=λb a=>a.2.2.1;have Q:∀b,GX Xq sb (k+1) Yc (λj=>if j=k then gn else gb j) b->b<M (H x)->Yc.ownBlock=gv.ownBlock->gv.ownBlock≠O b:=λb a _ e=>e ▸ a.2.2.1
 -- trees and orders of before lie outside of the old list too: they are first kept,then read with the wider names
 have R:Kept (GX Xq sb k gv gb) x y5:=d.mono λb _ a=>⟨a.2.1,a.2.2.1⟩;refine⟨⟨h.hz.below.kept d λb a=>⟨λe=>?_,λe=>?_⟩,h.hz.low,λb a=>h.hz.high b (ZN d.size a)⟩,h.old.trans (d.below h.old.size λb a=>⟨?_,λe=>?_⟩),h.root,h.xlt,h.NN,h.fbg.keep d ⟨?_,z.2.2.1⟩,h.var.keep d ⟨h.NN.2.2,z.2.1⟩,hblk,?_,λj t=>?_,λi j A t e=>?_,?_⟩
 .have:=a.lt;have:=h.root;have:=h.NN.1;omega
 .have:=a.lt;have:=(Xg h.own e).1;have:=h.root;omega
 .have:=h.NN.1;omega
 .have:=(Xg h.own e).1;omega
 .have:=h.NN.1;omega
 .have e:(List.range (k+1)).map (λj=>Value.slice (O ⟨if j=k then gn else gb j,0,Qs⟩) (N (dz (zl ts q room j))) (if j=k then cn else cp j))=((List.range k).map λj=>Value.slice (O (aD (gb j) 0)) (N (dz (zl ts q room j))) (cp j))++[Value.slice (O (aD gn 0)) (N (dz (zl ts q room k))) cn]:=by
   rw[ZE,Q5];congr 1
   .refine List.map_congr_left λj t=>?_
    grind
   .simp
  rw[e];exact ho
 .by_cases e:j=k
  .subst e;simp only[Zb];refine⟨aW.mono (hg.aV (hk.mono λb _ a=>?_)) λb _ a=>g b a.2 a.1,X,hcn⟩;rcases a with a|a
   .exact⟨a.1.2.1,a.1.2.2.1⟩
   .rw[a];refine⟨λe=>?_,λe=>?_⟩
    .have:=h.blk.lt;omega
    .have:=m _ e;omega
  .simp only[Zg e];have p:j<k:=X
   refine⟨((h.kg j p).1.mono (G:=λb=>GX Xq sb k gv gb b/\b<M (H x)) (λb l a=>⟨a,l⟩) |>.aV (d.mono λb _ a=>?_)).mono λb _ a=>n b a.2 a.1,(h.kg j p).2⟩;rcases a with a|a
   .exact⟨a.1.2.1,a.1.2.2.1⟩
   grind
 .have u:=e;by_cases r:i=k
  .grind
  .by_cases B:j=k
   .rw[Zg r,Zb B]at u;exact absurd u.symm (y i X)
   .rw[Zg r,Zg B]at u;exact h.apart i j X X u
 .exact((h.bA.mono (G:=λb=>GX Xq sb k gv gb b/\b<M (H x)) (λb l a=>⟨a,l⟩)).aV (d.mono λb _ a=>⟨a.1.2.1,a.1.2.2.1⟩)).mono λb _ a=>n b a.2 a.1
theorem l7.search(h:l7 W0 f ts q Xq room w0 vb sb k cu gv gb cp os bt x)(h0:0<k) :
  ∃L:qM,L.av=Z Qs 0 0/\L.pv=Z Qs 0 0/\dI W0 f ts q (λb=>Xq b∨(b=sb∨∃j,j<k/\b=gb j)) (λb=>b=sb∨∃j,j<k/\b=gb j) x sb L ⟨(List.range k).map λs=>dz (zl ts q room s),[],cu,fq ts q,[],1⟩:=by
 have u:=h.ne;have p:∀b,GX Xq sb k gv gb b->¬(Xq b∨(b=sb∨∃j,j<k/\b=gb j)):=λb a h0=>by
  rcases h0 with h0|h0|⟨j,d,h0⟩
  .exact a.1 h0
  .exact a.2.1 h0
  .exact a.2.2.2 j d h0
 have r:∀j,j<k->E ((List.range k).map λs=>dz (zl ts q room s)) j []=dz (zl ts q room j):=λj d=>by grind
 have m:=h.fz;have n:=h.own;rcases n.2 with⟨_,h1⟩|⟨g,cap,cur,rfl,a,hh,hc,hm,hs,ht⟩
 .omega
 have t:∀j,j<k->Qp x (aD g j)=O (Z (O (aD (gb j) 0)) (N (dz (zl ts q room j))) (cp j)):=λj d=>by
  rw[Zl (show GB x g _ cur from hh) j];have y:(cur.toList.take (k*1))[j]? = O (Z (O (aD (gb j) 0)) (N (dz (zl ts q room j))) (cp j)):=by rw[ht,Xt,Xu (by simpa using d)];simp
  grind
 refine⟨⟨g,cap,gb,cp,λ_ _=>0,os,Z Qs 0 0,bt,Z Qs 0 0⟩,rfl,rfl,⟨h.hz.below,λb a=>p b (m.low b a),λb a=>p b (m.high b a)⟩,λb a=>.inr a,.inl rfl,?_,?_,(ZV.1 hh).1,λj d=>?_,λj d=>?_,λi j v d e=>?_,Xm _ _ _ _,(λb e=>by cases e),h.bA.mono λb _ a=>p b a,Xm _ _ _ _,(λb e=>by cases e)⟩
 .have e:lM ⟨g,cap,gb,cp,λ_ _=>0,os,Z Qs 0 0,bt,Z Qs 0 0⟩ ⟨(List.range k).map λs=>dz (zl ts q room s),[],cu,fq ts q,[],1⟩=J8 (Z (O (aD g 0)) k cap) cu bt:=by unfold lM J8;simp
  rw[e];exact h.blk
 .show ¬(Xq g∨(g=sb∨∃j,j<k/\g=gb j))
  rintro (h0|h0|⟨j,d,h0⟩)
  .have:=h.xlt g h0;omega
  .exact u.1 (by rw[h0];rfl)
  .exact(u.2.2.2 j d).1 (by rw[h0];rfl)
 .grind
 .have l:j<k:=by simpa using d
  show aW _ _ _ _ (gb j) (λ_=>0) (os j) (E ((List.range k).map λs=>dz (zl ts q room s)) j [])/\(gb j=sb∨∃i,i<k/\gb j=gb i)/\N (E ((List.range k).map λs=>dz (zl ts q room s)) j [])<=cp j/\cp j<=9223372036854775807;rw[r j l];exact⟨(h.kg j l).1.mono λb _ a=>p b a,.inr ⟨j,l,rfl⟩,(h.kg j l).2.2⟩
 .exact h.apart i j (by simpa using v) (by simpa using d) e
def Tryz.Ti:(V.info? 112).map (λi=>(i.zero,i.size,i.bytes))=O (O (Z Qs 0 0),1,24):=Qd
def J9(W:U)(base:Nat)(v:Qm)(n:Nat)(xs:Qy Qm)(hown:W.ownsRow base 112 1 v n xs)(hl:n<=1000)(hb:base<=M (H W))(ga:PN)(gl gc:Nat)(ty:TypeId) :
  ∃d w',(Builtin.append_ #[90,90] ty #[v,Z (O (aD (M (H W)) 0)) 1 1]).run V (W.alloc (Qt #[Z ga gl gc] 112))=.ok d w'/\
   w'.ownsRow base 112 1 d (n+1) (xs++[Z ga gl gc])/\Kept (λb=>v.ownBlock≠O b) W w'/\(∃a m c,d = Z a m c)/\(d.ownBlock=v.ownBlock∨d.ownBlock=O (M (H W)+1)):=by
 obtain⟨k,l,e,f,g⟩:=Xl Tryz.Ti;obtain⟨d,w',p,q,r,t,i⟩:=iq (P:=V) W base 90 ty 112 k _ 1 24 underlying90 l e f g rfl Qc v n _ hown hb [.slice ga gl gc] rfl (λu j=>by
  rw[Xj]at j;rw[j];rfl) hl Qc
 exact⟨d,w',p,q,r,t,i⟩
end
section
attribute [local go_sem] Oper.semAt_some
def Tj(pre:Qy Nat):Qy bB:=pre.foldl (λa (i:Nat)=>iG aZ a (2 ^ i,0)) []
def Ye(pre:Qy Nat)(x:Nat):Tj (pre++[x])=[(2 ^ x,0)].foldl (iG aZ) (Tj pre):=by unfold Tj;rw[ZM];rfl
def Yf(pre:Qy Nat)(h:∀y∈pre,y<5):(∀a∈Tj pre,a.1<32/\a.2<32)/\N (Tj pre)<=N pre:=by
 have e:Tj pre=(pre.map λi=>((2 ^ i,0):bB)).foldl (iG aZ) []:=by unfold Tj;rw[List.foldl_map]
 have:=FY (rk:=aZ) (pre.map λi=>((2 ^ i,0):bB)) [] (λa b=>by cases b) (λa b=>by
  obtain⟨y,d,rfl⟩:=ZL.1 b;have:2 ^ y<2 ^ 5:=XN X (h y d);omega)
 rw[e];exact⟨this.1,by have:=this.2;simpa using this⟩
def NT{n:Nat}(h:n<=5):aR (2 ^ n-1)=List.range n:=by have:n=0∨n=1∨n=2∨n=3∨n=4∨n=5:=X;rcases this with rfl|rfl|rfl|rfl|rfl|rfl <;> rfl
structure Yg(wr:U)(sb base:Nat)(arr:Array Qm)(pre:Qy Nat)(o1:Qz)(W:U):Prop where
 ex:∃av,GB W sb 95 (arr.setIfInBounds 14 av)/\W.ownsRow base 118 2 av (N (Tj pre)) ((Tj pre).flatMap dG)/\(∀b,o1 b↔b=sb∨av.ownBlock=O b)/\(∀b,av.ownBlock=O b->M (H wr)<=b)
 kept:Kept (λb=>b≠sb) wr W
def Yg.keep{wr:U}{sb base:Nat}{arr:Array Qm}{pre:Qy Nat}{o1:Qz}{A B:U}(h:Yg wr sb base arr pre o1 A)(hk:Kept (λb=>o1 b∨b<M (H wr)) A B):Yg wr sb base arr pre o1 B:=by obtain⟨av,a,e,d,f⟩:=h.ex;exact⟨⟨av,a.keep hk (.inl ((d _).2 (.inl rfl))),Xf e hk (λg a=>.inl ((d g).2 (.inr a))),d,f⟩,h.kept.trans' hk (λb i _=>.inr i)⟩
theorem GB.inj{G:Nat}{t t':TypeId}{c c':Array Qm}(h:GB w G t c)(h':GB w G t' c'):c=c':=by have a:w.heap[G]? = O (Qt c t (0,0)):=h;have b:w.heap[G]? = O (Qt c' t' (0,0)):=h';grind
def aqj(W:U)(o1 o2:Obj):Bw W ((W.drew.alloc o1).alloc o2):=((Q9 _ _).drew.alloc (Za _) o1).alloc Qa o2
def l7.start(room:Nat)(hz:Fz (λb=>¬Xq b) W0 w){vb sb bt:Nat}(gb cp:Nat->Nat)(os:Nat->Qy ah)(hb:Bw w y)(hl:M (H w)<sb/\M (H w)<vb/\vb≠sb)(h1:GB y (M (H w)) 82 (f.cells ts q))(h2:GB y vb 57 #[Y (O ⟨sb,0,Qs⟩)])(h3:GB y sb 95 (f.cells ts q++J8 (Z Qs 0 0) F bt))(h4:aF 141 (λb=>¬Xq b/\b≠sb) y bt (fq ts q)):l7 W0 f ts q Xq room w vb sb 0 (l6 ts q room 0) (Z Qs 0 0) gb cp os bt y:=
 ⟨hz.next hb,hb,hz.below.size,λb d=>Nat.lt_of_not_le λhl=>hz.high b hl d,hl,h1,h2,h3,Xm _ _ _ _,λj a=>absurd a (Nat.not_lt_zero _),λi j g=>absurd g (Nat.not_lt_zero _),h4.mono λb _ hb=>⟨hb.1,hb.2,(λe=>by cases e),λj a=>absurd a (Nat.not_lt_zero _)⟩⟩
theorem Tk(Ez:Env f ts q W0)(hz:Fz (λb=>¬Xq b) W0 w)(room:Nat)(h1:1<=room)(h2:room<=1000) :
  Calls V 27 #[Qu (f.cells ts q),I J (room:Int)] w λe w'=>∃t L Mq,e=Qv (Y (O ⟨t,0,Qs⟩))/\dI W0 f ts q (λb=>Xq b∨Mq b) Mq w' t L (ed aZ ts q room)/\(∀b,Mq b->M (H w)<=b)/\Bw w w':=by
 obtain⟨v0,v1,v2,v3,v4,v5,v6,v7,v8,v9,u,z,C,bZ,-,-,-,-,-,-,-,-,gH,-⟩:=XY f ts q;subst gH;have dF:=Ez.five;have iq:=Ez.one;have yV:Qn (∀x (Fq:Qz),Fz Fq W0 x->Calls V 42 #[Qu #[v0,v1,v2,v3,v4,v5,v6,v7,I Qq ((2 ^ (N q.src.xs)-1:Nat):Int),v9,u,z,C]] x (bN 141 Fq x (fq ts q))):=λx Fq hx=>by rw[<-bZ];exact F6 Ez hx
 have dG:Qn (∀x (Fq:Qz) (k:Nat),Fz Fq W0 x->k<18446744073709551616->Calls V 43 #[Qu #[v0,v1,v2,v3,v4,v5,v6,v7,I Qq ((2 ^ (N q.src.xs)-1:Nat):Int),v9,u,z,C],I Qq (k:Int)] x λe w'=>∃v os,e=Qv v/\gU 22 Fq (M (H x)) w' v os/\os.map ah.xs=dO ts q k/\Bw x w'):=λx Fq k hx hk=>by rw[<-bZ];exact yE Ez hx k hk
 have fH:Qn (∀k,N (dO ts q k)<=18/\0<N (dO ts q k)):=λk=>by obtain⟨⟨r,hr⟩,hl⟩:=Bu ts q k Ez.eight;exact⟨hl,by rw[hr];simp⟩
 obtain⟨P,bE⟩:∃n:Nat,n=2 ^ (N q.src.xs)-1:=⟨_,rfl⟩;have fI:P<=31/\1<=P:=by have h5:2 ^ (N q.src.xs)<=2 ^ 5:=ZA X dF;grind
 have fJ:=Zh (pK P X);rw[<-bE]at bZ yV dG;have fK:=Zh bE;have fM:Qn (aR P=List.range (N q.src.xs)):=by show _=_;rw[bE];exact NT dF
 have HZ:=Zh hz;obtain⟨w1,gI,bU,R⟩:=bC w #[v0,v1,v2,v3,v4,v5,v6,v7,(I Qq (P:Int)),v9,u,z,C] 82;have a0:Qp w1 ⟨M (H w),0,Qs⟩=O v0:=R.cell 0;have a1:Qp w1 ⟨M (H w),1,Qs⟩=O v1:=R.cell 1;have a2:Qp w1 ⟨M (H w),2,Qs⟩=O v2:=R.cell 2;have a3:Qp w1 ⟨M (H w),3,Qs⟩=O v3:=R.cell 3;have a4:Qp w1 ⟨M (H w),4,Qs⟩=O v4:=R.cell 4;have a5:Qp w1 ⟨M (H w),5,Qs⟩=O v5:=R.cell 5;have a6:Qp w1 ⟨M (H w),6,Qs⟩=O v6:=R.cell 6;have a7:Qp w1 ⟨M (H w),7,Qs⟩=O v7:=R.cell 7;have a8:Qp w1 ⟨M (H w),8,Qs⟩=O (I Qq (P:Int)):=R.cell 8;have a9:Qp w1 ⟨M (H w),9,Qs⟩=O v9:=R.cell 9;have jq:Qp w1 ⟨M (H w),10,Qs⟩=O u:=R.cell 10;have jP:Qp w1 ⟨M (H w),11,Qs⟩=O z:=R.cell 11;have aP:Qp w1 ⟨M (H w),12,Qs⟩=O C:=R.cell 12;have bI:=Zh bU;have bJ:Qn (∀(vb t bt:Nat) (y:U),Bw w1 y->M (H w1)<=t->M (H w1)<=vb->vb≠t->GB y vb 57 #[Y (O ⟨t,0,Qs⟩)]->GB y t 95 #[v0,v1,v2,v3,v4,v5,v6,v7,(I Qq (P:Int)),v9,u,z,C,Z Qs 0 0,Z Qs 0 0,Qr F,Y (O ⟨bt,0,Qs⟩),Z Qs 0 0,I J 1]->aF 141 (λb=>¬Xq b/\b≠t) y bt (fq ts q)->l7 W0 f ts q Xq room w vb t 0 (l6 ts q room 0) (Z Qs 0 0) (λ_=>0) (λ_=>0) (λ_=>[]) bt y):=λvb t bt y hy hs hv ik g2 g3 ht=>by
  have:=R.lt;refine l7.start room hz _ _ _ (az bU hy) ⟨X,X,ik⟩ ?_ g2 ?_ ht
  .rw[bZ];exact R.keep (ZP (s:=λb=>b<M (H w1)) hy (λ_ h _=>h)) R.lt
  .rw[bZ];exact g3
 have Cz:=Zh bZ;rw[bZ];clear bZ hz bU R Ez bE;refine(ZU (n:=0)).1 (Xb func27 rfl trivial (wpIn_wide.2 ?_) rfl);simp only[ntmps27,ZZ,ZK,Z0,Nat.reduceAdd,Nat.reduceSub,Z4,Z5,Z6,Z7,Z8,Z9];go_wp2_with fail;clear gI;refine NM (Jq:=λe a y=>e=.normal/\∃vb t bt,a = { tmps:=#[Qu #[v0,v1,v2,v3,v4,v5,v6,v7,(I Qq (P:Int)),v9,u,z,C],I J (room:Int),Y (O ⟨M (H w),0,Qs⟩),undef,Y Qs,Y (O ⟨vb,0,Qs⟩),undef,undef,undef,Qu #[v0,v1,v2,v3,v4,v5,v6,v7,(I Qq (P:Int)),v9,u,z,C],Qu #[v0,v1,v2,v3,v4,v5,v6,v7,(I Qq (P:Int)),v9,u,z,C],Y (O ⟨bt,0,Qs⟩),Qu #[v0,v1,v2,v3,v4,v5,v6,v7,(I Qq (P:Int)),v9,u,z,C,Z Qs 0 0,Z Qs 0 0,Qr F,Y (O ⟨bt,0,Qs⟩),Z Qs 0 0,I J 1],Y (O ⟨t,0,Qs⟩),undef,undef,undef,undef,undef,undef,undef,undef,undef,undef,undef,undef,undef,undef,undef,undef,undef,undef,undef,undef,undef,undef,undef,undef,undef,undef,undef,undef,undef,undef,undef,undef,undef,undef,undef,undef,undef,undef,undef,undef,undef,undef,undef,undef,undef,undef,undef,undef,undef,undef,undef,undef,undef,undef],defers:=[] }/\l7 W0 f ts q Xq room w vb t 0 (l6 ts q room 0) (Z Qs 0 0) (λ_=>0) (λ_=>0) (λ_=>[]) bt y) ?r1 ?rest
 case r1=>
  refine wH w1 λd=>?_;refine wN 0 (Qu #[v0,v1,v2,v3,v4,v5,v6,v7,(I Qq (P:Int)),v9,u,z,C]) d (λx hx=>?_) ?_
  .have e0:=GV hx a0 a1 a2 a3 a4 a5 a6 a7 a8 a9 jq jP aP;go_simp
  refine wN 1 (Qu #[v0,v1,v2,v3,v4,v5,v6,v7,(I Qq (P:Int)),v9,u,z,C]) d (λx hx=>?_) ?_
  .have e0:=GV hx a0 a1 a2 a3 a4 a5 a6 a7 a8 a9 jq jP aP;go_simp
  clear a0 a1 a2 a3 a4 a5 a6 a7 a8 a9 jq jP aP;refine wJ 2 5 (λK p=>?_) λK p=>?_
  .skip;go_simp;refine XX (yV.o _ (λb=>¬Xq b) (HZ.o.next (az bI.o d))) ?_;rintro e y0 ⟨bt,rfl,hT,gJ,gK,D⟩;refine oT p d D λd=>?_
   clear p K;refine wn 3 (Qu #[v0,v1,v2,v3,v4,v5,v6,v7,(I Qq (P:Int)),v9,u,z,C,Z Qs 0 0,Z Qs 0 0,Qr F,Y (O ⟨bt,0,Qs⟩),Z Qs 0 0,I J 1]) d ?_;have fO:=d.size;refine wJ 4 5 (λK p=>?_) λK p=>?_
   .skip;go_simp;refine p.o _ _ (d.trans (cZ _ _ |>.mono d.size)) λd=>?_
    clear p K;obtain⟨y1,au⟩:=eX (y0.alloc (Qt #[v0,v1,v2,v3,v4,v5,v6,v7,(I Qq (P:Int)),v9,u,z,C,Z Qs 0 0,Z Qs 0 0,Qr F,Y (O ⟨bt,0,Qs⟩),Z Qs 0 0,I J 1] 95));have aD:M (H y1)=M (H y0)+1:=by rw[<-au];simp
    have Q:GB y1 (M (H y0)) 95 #[v0,v1,v2,v3,v4,v5,v6,v7,(I Qq (P:Int)),v9,u,z,C,Z Qs 0 0,Z Qs 0 0,Qr F,Y (O ⟨bt,0,Qs⟩),Z Qs 0 0,I J 1]:=by rw[<-au];exact lT _ _
    have aQ:Bw y0 y1:=by rw[<-au];exact cZ _ _
    rw[au]at d ⊢;clear au;obtain⟨y2,aj⟩:=eX (y1.alloc (Qt #[Y Qs] 57));have aT:M (H y2)=M (H y1)+1:=by rw[<-aj];simp
    have ai:GB y2 (M (H y1)) 57 #[Y Qs]:=by rw[<-aj];exact lT _ _
    have aa:Bw y1 y2:=by rw[<-aj];exact cZ _ _
    obtain⟨oI,gL⟩:=aS aD aT;clear aD aT;refine wR 5 λK p=>?_;go_simp;refine oT p d aa λd=>?_;clear p K;clear aj;have Q:=Q.keep (ZP (s:=λb=>b<M (H y1)) aa (λ_ h _=>h)) Q.lt;have hc:Qp y2 ⟨M (H y1),0,Qs⟩=O (Y Qs):=ai.cell 0;have hf:=ai.frozen 0;have bu:M (H w1)<=M (H y1):=Qk oI.o;have Ff:Qn (Bw w1 (Qo y2 ⟨M (H y1),0,Qs⟩ (Y (O ⟨M (H y0),0,Qs⟩)))):=d.trans ((Xd (s:=λb=>b≠M (H y1)) _ _ _ (λh=>h rfl)).below d.size (λb D=>X));have sZ:=bJ.o (M (H y1)) (M (H y0)) bt _ Ff.o (Qk oI.o) bu (Qk oI.o) (ai.set 0 (Y (O ⟨M (H y0),0,Qs⟩))) (Q.keep (Xd (s:=λb=>b≠M (H y1)) _ _ _ (λh=>h rfl)) (Qk oI.o)) (((((hT.mono (G:=λb=>¬Xq b/\b<M (H y0)) (λb hl D=>⟨D,hl⟩)).below aQ).below aa).aV (Xd (s:=λb=>b≠M (H y1)) _ _ _ (λh=>h rfl) |>.mono λb _ D=>Qk oI.o)).mono λb _ D=>⟨D.1,Qk oI.o⟩);clear Q ai aQ aa;refine wR 6 λK p=>?_;go_simp;refine p.o _ _ (Ff.o) (λd=>?_);clear p K;refine wD ?_;try simp only[Act.put,Zt,Zu,Zv,Zn,QW,QX]
    exact⟨by trivial,M (H y1),M (H y0),bt,rfl,sZ⟩
   .skip;go_simp;refine p.o _ _ (d.trans (cZ _ _ |>.mono d.size)) λd=>?_
    clear p K;obtain⟨y1,au⟩:=eX (y0.alloc (Qt #[Y Qs] 57));have aD:M (H y1)=M (H y0)+1:=by rw[<-au];simp
    have Q:GB y1 (M (H y0)) 57 #[Y Qs]:=by rw[<-au];exact lT _ _
    have aQ:Bw y0 y1:=by rw[<-au];exact cZ _ _
    rw[au]at d ⊢;clear au;obtain⟨y2,aj⟩:=eX (y1.alloc (Qt #[v0,v1,v2,v3,v4,v5,v6,v7,(I Qq (P:Int)),v9,u,z,C,Z Qs 0 0,Z Qs 0 0,Qr F,Y (O ⟨bt,0,Qs⟩),Z Qs 0 0,I J 1] 95));have aT:M (H y2)=M (H y1)+1:=by rw[<-aj];simp
    have ai:GB y2 (M (H y1)) 95 #[v0,v1,v2,v3,v4,v5,v6,v7,(I Qq (P:Int)),v9,u,z,C,Z Qs 0 0,Z Qs 0 0,Qr F,Y (O ⟨bt,0,Qs⟩),Z Qs 0 0,I J 1]:=by rw[<-aj];exact lT _ _
    have aa:Bw y1 y2:=by rw[<-aj];exact cZ _ _
    obtain⟨oI,gL⟩:=aS aD aT;clear aD aT;refine wR 4 λK p=>?_;go_simp;refine oT p d aa λd=>?_;clear p K;clear aj;have Q:=Q.keep (ZP (s:=λb=>b<M (H y1)) aa (λ_ h _=>h)) Q.lt;have hc:Qp y2 ⟨M (H y0),0,Qs⟩=O (Y Qs):=Q.cell 0;have hf:=Q.frozen 0;have bu:M (H w1)<=M (H y0):=Qk oI.o;have Ff:Qn (Bw w1 (Qo y2 ⟨M (H y0),0,Qs⟩ (Y (O ⟨M (H y1),0,Qs⟩)))):=d.trans ((Xd (s:=λb=>b≠M (H y0)) _ _ _ (λh=>h rfl)).below d.size (λb D=>X));have sZ:=bJ.o (M (H y0)) (M (H y1)) bt _ Ff.o (Qk oI.o) bu (Qk oI.o) (Q.set 0 (Y (O ⟨M (H y1),0,Qs⟩))) (ai.keep (Xd (s:=λb=>b≠M (H y0)) _ _ _ (λh=>h rfl)) (Qk oI.o)) (((((hT.mono (G:=λb=>¬Xq b/\b<M (H y0)) (λb hl D=>⟨D,hl⟩)).below aQ).below aa).aV (Xd (s:=λb=>b≠M (H y0)) _ _ _ (λh=>h rfl) |>.mono λb _ D=>Qk oI.o)).mono λb _ D=>⟨D.1,Qk oI.o⟩);clear Q ai aQ aa;refine wR 6 λK p=>?_;go_simp;refine p.o _ _ (Ff.o) (λd=>?_);clear p K;refine wD ?_;try simp only[Act.put,Zt,Zu,Zv,Zn,QW,QX]
    exact⟨by trivial,M (H y0),M (H y1),bt,rfl,sZ⟩
  .skip;go_simp;refine p.o _ _ (d.trans (cZ _ _ |>.mono d.size)) λd=>?_
   clear p K;have aD:(w1.alloc (Qt #[Y Qs] 57)).drew.heap.size=M (H w1)+1:=Qa;have Q:GB (w1.alloc (Qt #[Y Qs] 57)).drew (M (H w1)) 57 #[Y Qs]:=lT w1 _;generalize (w1.alloc (Qt #[Y Qs] 57)).drew=y1 at*;have oI:=Zh aD;clear aD;have fP:Fz (λb=>¬Xq b/\b≠M (H w1)) W0 y1:=by have h0:=HZ.o.next (az bI.o d);have h1:=HZ.o.below.size;have h2:=bI.o.size;have h3:=oI.o;exact⟨h0.below,λb D=>⟨h0.low b D,Qk D.lt⟩,λb D=>⟨h0.high b D,X⟩⟩
   refine wR 2 λK p=>?_;go_simp;refine XX (yV.o _ (λb=>¬Xq b/\b≠M (H w1)) fP) ?_;rintro e y0 ⟨bt,rfl,hT,gJ,gK,D⟩;refine oT p d D λd=>?_;clear p K;refine wn 3 (Qu #[v0,v1,v2,v3,v4,v5,v6,v7,(I Qq (P:Int)),v9,u,z,C,Z Qs 0 0,Z Qs 0 0,Qr F,Y (O ⟨bt,0,Qs⟩),Z Qs 0 0,I J 1]) d ?_;have fO:=d.size;have Q:=Q.keep (ZP (s:=λb=>b<M (H y1)) D (λ_ h _=>h)) Q.lt;obtain⟨y2,aj⟩:=eX (y0.alloc (Qt #[v0,v1,v2,v3,v4,v5,v6,v7,(I Qq (P:Int)),v9,u,z,C,Z Qs 0 0,Z Qs 0 0,Qr F,Y (O ⟨bt,0,Qs⟩),Z Qs 0 0,I J 1] 95));have ai:GB y2 (M (H y0)) 95 #[v0,v1,v2,v3,v4,v5,v6,v7,(I Qq (P:Int)),v9,u,z,C,Z Qs 0 0,Z Qs 0 0,Qr F,Y (O ⟨bt,0,Qs⟩),Z Qs 0 0,I J 1]:=by rw[<-aj];exact lT _ _
   have aa:Bw y0 y2:=by rw[<-aj];exact cZ _ _
   refine wR 4 λK p=>?_;go_simp;refine oT p d aa λd=>?_;clear p K;clear aj;have Q:=Q.keep (ZP (s:=λb=>b<M (H y0)) aa (λ_ h _=>h)) Q.lt;have hc:Qp y2 ⟨M (H w1),0,Qs⟩=O (Y Qs):=Q.cell 0;have hf:=Q.frozen 0;have bu:M (H w1)<M (H y0):=Ql oI.o D.size;have Ff:Qn (Bw w1 (Qo y2 ⟨M (H w1),0,Qs⟩ (Y (O ⟨M (H y0),0,Qs⟩)))):=d.trans ((Xd (s:=λb=>b≠M (H w1)) _ _ _ (λh=>h rfl)).below d.size (λb D=>X));have sZ:=bJ.o (M (H w1)) (M (H y0)) bt _ Ff.o X (Za _) X (Q.set 0 (Y (O ⟨M (H y0),0,Qs⟩))) (ai.keep (Xd (s:=λb=>b≠M (H w1)) _ _ _ (λh=>h rfl)) X) ((((hT.mono (G:=λb=>(¬Xq b/\b≠M (H w1))/\b<M (H y0)) (λb hl D=>⟨D,hl⟩)).below aa).aV (Xd (s:=λb=>b≠M (H w1)) _ _ _ (λh=>h rfl) |>.mono λb _ D=>D.1.2)).mono λb _ D=>⟨D.1.1,X⟩);clear Q ai aa;refine wR 6 λK p=>?_;go_simp;refine p.o _ _ (Ff.o) (λd=>?_);clear p K;refine wD ?_;try simp only[Act.put,Zt,Zu,Zv,Zn,QW,QX]
   exact⟨by trivial,M (H w1),M (H y0),bt,rfl,sZ⟩
 rintro e a y ⟨rfl,vb,t,bt,rfl,hB⟩;have dH:=Zh hB;clear hB;have bK:Qp y ⟨M (H w),8,Qs⟩=O (I Qq (P:Int)):=by have:=dH.o.fbg;rw[Cz.o]at this;exact this.cell 8
 obtain⟨iy,iA⟩:=fI;go_wp2;go_loopw [17] (λiv wr=>∃k:Nat,k<=P/\iv=I J (k:Int)/\Qn (∃gv gb cp os,l7 W0 f ts q Xq room w vb t k (l6 ts q room k) gv gb cp os bt wr)) (λiv _=>P-(intOf iv).toNat)
 case atStart=>exact⟨0,ZB _,rfl,_,_,_,_,dH.o⟩
 case round=>
  obtain⟨k,hk,rfl,HJ⟩:=hrel;clear bK;by_cases iD:k<P
  .obtain⟨gv,gb,cp,os,hB⟩:=HJ.o;have F7:=hB.fbg;rw[Cz.o]at F7;have a0:Qp wr ⟨M (H w),0,Qs⟩=O v0:=F7.cell 0;have a1:Qp wr ⟨M (H w),1,Qs⟩=O v1:=F7.cell 1;have a2:Qp wr ⟨M (H w),2,Qs⟩=O v2:=F7.cell 2;have a3:Qp wr ⟨M (H w),3,Qs⟩=O v3:=F7.cell 3;have a4:Qp wr ⟨M (H w),4,Qs⟩=O v4:=F7.cell 4;have a5:Qp wr ⟨M (H w),5,Qs⟩=O v5:=F7.cell 5;have a6:Qp wr ⟨M (H w),6,Qs⟩=O v6:=F7.cell 6;have a7:Qp wr ⟨M (H w),7,Qs⟩=O v7:=F7.cell 7;have a8:Qp wr ⟨M (H w),8,Qs⟩=O (I Qq (P:Int)):=F7.cell 8;have a9:Qp wr ⟨M (H w),9,Qs⟩=O v9:=F7.cell 9;have jq:Qp wr ⟨M (H w),10,Qs⟩=O u:=F7.cell 10;have jP:Qp wr ⟨M (H w),11,Qs⟩=O z:=F7.cell 11;have aP:Qp wr ⟨M (H w),12,Qs⟩=O C:=F7.cell 12;have dJ:=dG.o wr _ k hB.fz X;obtain⟨ga,gm,gc,rfl⟩:=Xh hB.own;have HB:=Zh hB;clear hB F7 HJ;go_wp2_with fail;refine dJ.mono ?_;rintro e z1 ⟨v,ol,rfl,hO,bV,dX⟩;have dK:0<N ol/\N ol<=18:=by have h1:=fH.o k;have h2:=congrArg N bV;rw[ZH]at h2;omega
   obtain⟨ob,oc,rfl,iB,iC,Cy,aM⟩:=Yb hO dK.1;obtain⟨Tm,dY,gM,gN,gP⟩:=EI (HB.o.below dX) bV hO.each aM Cy;clear dJ hO bV dX Cy aM a0 a1 a2 a3 a4 a5 a6 a7 a8 a9 jq jP aP;go_wp2_with fail;have hv:Qp z1 ⟨vb,0,Qs⟩=O (Y (O ⟨t,0,Qs⟩)):=Tm.o.var.cell 0;have bL:=Tm.o.NN.2.2;have ak:=Tm.o.blk;rw[Cz.o]at ak;have fT:Qp z1 ⟨t,15,Qs⟩=O (Qr (l6 ts q room k)):=ak.cell 15;have fU:=ak.frozen 15;have xP:Qn (l6 ts q room (k+1)=(l6 ts q room k ||decide (room<N ol))):=by show _=_;rw[Tg,<-dY.o,ZH]
   refine NM (Jq:=λe a y=>e=.normal/\∃bW bX bY cu cz cK cO df dh di dm dn dw,a = { tmps:=#[Qu #[v0,v1,v2,v3,v4,v5,v6,v7,(I Qq (P:Int)),v9,u,z,C],I J (room:Int),Y (O ⟨M (H w),0,Qs⟩),undef,Y Qs,Y (O ⟨vb,0,Qs⟩),I J (k:Int),Z (O ⟨ob,0,Qs⟩) (N ol) oc,undef,Qu #[v0,v1,v2,v3,v4,v5,v6,v7,(I Qq (P:Int)),v9,u,z,C],Qu #[v0,v1,v2,v3,v4,v5,v6,v7,(I Qq (P:Int)),v9,u,z,C],Y (O ⟨bt,0,Qs⟩),Qu #[v0,v1,v2,v3,v4,v5,v6,v7,(I Qq (P:Int)),v9,u,z,C,Z Qs 0 0,Z Qs 0 0,Qr F,Y (O ⟨bt,0,Qs⟩),Z Qs 0 0,I J 1],Y (O ⟨t,0,Qs⟩),Y (O ⟨M (H w),8,Qs⟩),I Qq (P:Int),I J (P:Int),I J (k:Int),Qr T,I J (k:Int),Qu #[v0,v1,v2,v3,v4,v5,v6,v7,(I Qq (P:Int)),v9,u,z,C],I J (k:Int),I Qq (k:Int),Z (O ⟨ob,0,Qs⟩) (N ol) oc,bW,bX,bY,cu,cz,cK,cO,df,dh,di,dm,dn,dw,u37,u38,u39,u40,u41,u42,u43,u44,u45,u46,u47,u48,u49,u50,u51,u52,u53,undef,undef,undef,undef,undef,undef,undef,undef,undef,undef,undef,undef,undef,undef],defers:=[] }/\l7 W0 f ts q Xq room w vb t k (l6 ts q room (k+1)) (Z ga gm gc) gb cp os bt y/\Kept (λb=>b≠t) z1 y) ?r6 ?auU
   case r6=>
    have sZ:Qn (∀y,Kept (λb=>b≠t) z1 y->GB y t 95 (f.cells ts q++J8 (Z ga gm gc) (l6 ts q room (k+1)) bt)->l7 W0 f ts q Xq room w vb t k (l6 ts q room (k+1)) (Z ga gm gc) gb cp os bt y):=λy hy hg=>Tm.o.flag hy hg;have Sq:Qn (GB (Qo z1 ⟨t,15,Qs⟩ (Qr (l6 ts q room (k+1)))) t 95 (f.cells ts q++J8 (Z ga gm gc) (l6 ts q room (k+1)) bt)):=by have:=ak.set 15 (Qr (l6 ts q room (k+1)));show GB _ _ _ _;rw[Cz.o];exact this
    clear ak Tm HB;generalize l6 ts q room (k+1)=c2,l6 ts q room k=c1 at*;refine Zo (S:=λx=>Kept (λb=>b≠t) z1 x) Qd (ZP ((Q9 _ _).drew) (λ_ h _=>h)) (λd=>?_);refine wN 0 (Y (O ⟨t,0,Qs⟩)) d (λx hx=>?_) ?_
    .have e0:=Jl hx hv bL;go_simp
    refine wN 1 (Y (O ⟨t,0,Qs⟩)) d (λx hx=>?_) ?_
    .have e0:=Jl hx hv bL;go_simp
    refine wn 2 (Y (O ⟨t,0,Qs⟩)) d ?_;refine wn 3 (Y (O ⟨t,15,Qs⟩)) d ?_;refine wR 4 λK p=>?_;go_simp;refine p.o _ _ d λd=>?_;clear p K;refine wn 5 (Qr c1) d ?_
    cases c1 with
    |true =>
     have aH:c2=true:=by rw[xP.o];rfl
     clear xP;subst aH;refine QV (i:=6) (v:=undef) rfl Qd Qd Qd (λ_ _ _ h=>by cases h.1) (.inr ⟨Qd,rfl⟩) d ?_;refine QV (i:=7) (v:=undef) rfl Qd Qd Qd (λ_ _ _ h=>by cases h.1) (.inr ⟨Qd,rfl⟩) d ?_;refine QV (i:=8) (v:=undef) rfl Qd Qd Qd (λ_ _ _ h=>by cases h.1) (.inr ⟨Qd,rfl⟩) d ?_;refine QV (i:=9) (v:=undef) rfl Qd Qd Qd (λ_ _ _ h=>by cases h.1) (.inr ⟨Qd,rfl⟩) d ?_;refine wn 10 (Qr T) d ?_;refine wn 11 (Y (O ⟨t,0,Qs⟩)) d ?_;refine wn 12 (Y (O ⟨t,15,Qs⟩)) d ?_;refine wR 13 λK p=>?_;go_simp;refine p.o _ _ (d.trans (Xd _ _ _ (λh=>h rfl))) (λd=>?_);clear p K;refine wD ?_;try simp only[Act.put,Zt,Zu,Zv,Zn,QW,QX]
     exact⟨by trivial,_,_,_,_,_,_,_,_,_,_,_,_,_,rfl,sZ.o _ d Sq.o,d⟩
    |false =>
     by_cases fG:room<N ol
     .have aH:c2=true:=by rw[xP.o];simp[fG]
      clear xP;subst aH;refine wm 6 (Z (O ⟨ob,0,Qs⟩) (N ol) oc) d ?_;refine wm 7 (I J (N ol:Int)) d ?_;refine wm 8 (I J (room:Int)) d ?_;refine wm 9 (Qr T) d ?_;refine wn 10 (Qr T) d ?_;refine wn 11 (Y (O ⟨t,0,Qs⟩)) d ?_;refine wn 12 (Y (O ⟨t,15,Qs⟩)) d ?_;refine wR 13 λK p=>?_;go_simp;refine p.o _ _ (d.trans (Xd _ _ _ (λh=>h rfl))) (λd=>?_);clear p K;refine wD ?_;try simp only[Act.put,Zt,Zu,Zv,Zn,QW,QX]
      exact⟨by trivial,_,_,_,_,_,_,_,_,_,_,_,_,_,rfl,sZ.o _ d Sq.o,d⟩
     .have aH:c2=false:=by rw[xP.o];simp[fG]
      clear xP;subst aH;refine wm 6 (Z (O ⟨ob,0,Qs⟩) (N ol) oc) d ?_;refine wm 7 (I J (N ol:Int)) d ?_;refine wm 8 (I J (room:Int)) d ?_;refine wm 9 (Qr F) d ?_;refine wn 10 (Qr F) d ?_;refine wn 11 (Y (O ⟨t,0,Qs⟩)) d ?_;refine wn 12 (Y (O ⟨t,15,Qs⟩)) d ?_;refine wR 13 λK p=>?_;go_simp;refine p.o _ _ (d.trans (Xd _ _ _ (λh=>h rfl))) (λd=>?_);clear p K;refine wD ?_;try simp only[Act.put,Zt,Zu,Zv,Zn,QW,QX]
      exact⟨by trivial,_,_,_,_,_,_,_,_,_,_,_,_,_,rfl,sZ.o _ d Sq.o,d⟩
   rintro e a z2 ⟨rfl,bW,bX,bY,cu,cz,cK,cO,df,dh,di,dm,dn,dw,rfl,aa,F5⟩;have aI:=Zh aa;clear hv fT fU ak xP;obtain⟨m,hm⟩:=eY (min room (N ol));have dL:1<=m/\m<=N ol/\m<=room:=X;have dM:Qn ((if (N ol:Int)<(room:Int) then (N ol:Int) else (room:Int))=(m:Int)/\min (room:Int) (N ol:Int)=(m:Int)):=⟨by split <;> omega,X⟩
   have dN:=Zh (by unfold zl;rw[<-dY.o,List.map_take,hm];simp:(ol.take m).map ah.xs=zl ts q room k)
   have fV:=HB.o.blk.lt;have bM:bg z2 (O ⟨ob,0,Qs⟩) m (λi=>(E (ol.take m) i eG).val):=λi hi=>by obtain⟨b,gQ,e,hc⟩:=gN.o m dL.2.1 i hi;injection e with e;injection e with e1 e2;subst e1;refine⟨ob,gQ,by rw[<-e2],Jl F5 hc ?_⟩;have:=gP.o;omega
   have bz:∀o∈ol.take m,IntsIn (λb=>GX Xq t k (Z ga gm gc) gb b/\b<M (H z2)) z2 o/\N o.xs<=1000:=λo ho=>by have h1:=gM.o o (List.mem_of_mem_take ho);refine⟨?_,h1.2⟩;have h2:=h1.1.mono (G:=λb=>GX Xq t k (Z ga gm gc) gb b/\b<M (H z1)) (λb hl D=>⟨D.1,hl⟩);exact(h2.aV (F5.mono λb _ D=>D.1.2.1)).mono λb _ D=>⟨D.1,Zy D.2 F5.size⟩
   have bO:N (ol.take m)=m:=by rw[XT];omega
   have bP:Qn (∀x,Bw z2 x->Calls V 44 #[Z (O ⟨ob,0,Qs⟩) m oc] x λe w'=>∃gn cn,e=Qv (Z (O ⟨gn,0,Qs⟩) m cn)/\M (H x)<=gn/\gn<M (H w')/\m<=cn/\cn<=9223372036854775807/\aW 141 161 (λb=>GX Xq t k (Z ga gm gc) gb b/\b<M (H z2)) w' gn (λ_=>0) (ol.take m) (dz (zl ts q room k))/\Bw x w'):=λx hx=>by have:=Dg (Fq:=λb=>GX Xq t k (Z ga gm gc) gb b/\b<M (H z2)) (w:=x) (ol.take m) (O ⟨ob,0,Qs⟩) oc (by rw[bO];exact bg.below hx bM) (λo ho=>⟨(bz o ho).1.below hx,(bz o ho).2⟩) X X (λ_=>0);rw[dN.o,bO]at this;exact this
   have dP:=Zh (by rw[<-dN.o];unfold dz;rw[ZH,ZH,bO]:N (dz (zl ts q room k))=m)
   have hv:Qp z2 ⟨vb,0,Qs⟩=O (Y (O ⟨t,0,Qs⟩)):=aI.o.var.cell 0;have ai:=aI.o.ne;have aO:vb≠t/\(Value.slice ga gm gc).ownBlock≠O vb:=⟨bL,ai.2.1⟩;have ak:=aI.o.blk;rw[Cz.o]at ak;have fZ:Qp z2 ⟨t,13,Qs⟩=O (Z ga gm gc):=ak.cell 13;have bQ:Qn (∀(y2:U) (gn cn:Nat),Bw z2 y2->M (H z2)<=gn->gn<M (H y2)->m<=cn->cn<=9223372036854775807->aW 141 161 (λb=>GX Xq t k (Z ga gm gc) gb b/\b<M (H z2)) y2 gn (λ_=>0) (ol.take m) (dz (zl ts q room k))->Qp y2 ⟨t,13,Qs⟩=O (Z ga gm gc)/\Qp (y2.alloc (Qt #[Z (O ⟨gn,0,Qs⟩) m cn] 112)) ⟨t,13,Qs⟩=O (Z ga gm gc)/\∃pa pm pc y4,(Builtin.append_ #[90,90] 90 #[Z ga gm gc,Z (O ⟨M (H y2),0,Qs⟩) 1 1]).run V (y2.alloc (Qt #[Z (O ⟨gn,0,Qs⟩) m cn] 112))=.ok (Z pa pm pc) y4/\Qp y4 ⟨t,13,Qs⟩=O (Z ga gm gc)/\y4.frozen? ⟨t,13,Qs⟩=F/\Kept (λb=>b≠t/\(Value.slice ga gm gc).ownBlock≠O b) z2 y4/\Kept (λb=>b≠t/\(Value.slice ga gm gc).ownBlock≠O b) z2 (y2.alloc (Qt #[Z (O ⟨gn,0,Qs⟩) m cn] 112))/\Kept (λb=>b≠t/\(Value.slice ga gm gc).ownBlock≠O b) z2 y2/\∃dC dD dE,l7 W0 f ts q Xq room w vb t (k+1) (l6 ts q room (k+1)) (Z pa pm pc) dC dD dE bt (Qo y4 ⟨t,13,Qs⟩ (Z pa pm pc))):=λy2 gn cn bq R aG il aH hG=>by have aU:=ak.keep (ZP (s:=λb=>b<M (H z2)) bq (λ_ h _=>h)) ak.lt;have aJ:=XM aI.o.own bq;obtain⟨v',y4,aB,yD,ax,⟨pa,pm,pc,rfl⟩,NL⟩:=J9 y2 (M (H w)) (Z ga gm gc) k _ aJ X (ZN aI.o.old.size bq.size) (O ⟨gn,0,Qs⟩) m cn 90;have bR:Kept (λb=>b≠t/\(Value.slice ga gm gc).ownBlock≠O b) z2 y2:=ZP bq (λ_ h _=>h);have dQ:Kept (λb=>b≠t/\(Value.slice ga gm gc).ownBlock≠O b) y2 y4:=ax.mono λb _ D=>D.2;have bA:=aU.keep ax ai.1;have dR:Kept (λb=>b≠t) y4 (Qo y4 ⟨t,13,Qs⟩ (Z pa pm pc)):=Xd _ _ _ (λh=>h rfl);refine⟨aU.cell 13,(aU.keep (ZT (s:=λ_=>True) _ _) trivial).cell 13,pa,pm,pc,y4,aB,bA.cell 13,bA.frozen 13,bR.trans dQ,bR.trans (ZT _ _),bR,_,_,_,aI.o.push (Q9 _ _) bq hG ⟨R,aG⟩ (by rw[dP.o];exact⟨il,aH⟩) (Xf (by rw[dP.o];exact yD) dR (λg e e2=>fQ yD bA Qc (e2 ▸ e))) (dQ.trans (dR.mono λb _ D=>D.1)) NL ?_⟩;have:=bA.set 13 (Z pa pm pc);rw[Cz.o];exact this
   go_wp2_with fail;refine NM (Jq:=λe a y=>e=.normal/\∃dZ ek eu eD eF eH eO eP eQ eT eU eZ fe fo fu fw,a = { tmps:=#[Qu #[v0,v1,v2,v3,v4,v5,v6,v7,(I Qq (P:Int)),v9,u,z,C],I J (room:Int),Y (O ⟨M (H w),0,Qs⟩),undef,Y Qs,Y (O ⟨vb,0,Qs⟩),I J (k:Int),Z (O ⟨ob,0,Qs⟩) (N ol) oc,undef,Qu #[v0,v1,v2,v3,v4,v5,v6,v7,(I Qq (P:Int)),v9,u,z,C],Qu #[v0,v1,v2,v3,v4,v5,v6,v7,(I Qq (P:Int)),v9,u,z,C],Y (O ⟨bt,0,Qs⟩),Qu #[v0,v1,v2,v3,v4,v5,v6,v7,(I Qq (P:Int)),v9,u,z,C,Z Qs 0 0,Z Qs 0 0,Qr F,Y (O ⟨bt,0,Qs⟩),Z Qs 0 0,I J 1],Y (O ⟨t,0,Qs⟩),Y (O ⟨M (H w),8,Qs⟩),I Qq (P:Int),I J (P:Int),I J (k:Int),Qr T,I J (k:Int),Qu #[v0,v1,v2,v3,v4,v5,v6,v7,(I Qq (P:Int)),v9,u,z,C],I J (k:Int),I Qq (k:Int),Z (O ⟨ob,0,Qs⟩) (N ol) oc,bW,bX,bY,cu,cz,cK,cO,df,dh,di,dm,dn,dw,dZ,ek,eu,eD,eF,eH,eO,eP,eQ,eT,eU,eZ,fe,fo,fu,fw,u53,undef,undef,undef,undef,undef,undef,undef,undef,undef,undef,undef,undef,undef,undef],defers:=[] }/\∃gv gb cp os,l7 W0 f ts q Xq room w vb t (k+1) (l6 ts q room (k+1)) gv gb cp os bt y) ?r7 ?au8
   case r7=>
    clear bM bz hm aa F5 fV;refine Zo (S:=λx=>Kept (λb=>b≠t/\(Value.slice ga gm gc).ownBlock≠O b) z2 x) Qd (ZP ((Q9 _ _).drew) (λ_ h _=>h)) (λd=>?_);refine wN 0 (Y (O ⟨t,0,Qs⟩)) d (λx hx=>?_) ?_
    .have e0:=Jl hx hv aO;go_simp
    refine wN 1 (Y (O ⟨t,0,Qs⟩)) d (λx hx=>?_) ?_
    .have e0:=Jl hx hv aO;go_simp
    refine wn 2 (Y (O ⟨t,0,Qs⟩)) d ?_;refine wn 3 (Y (O ⟨t,13,Qs⟩)) d ?_;refine wn 5 (Z (O ⟨ob,0,Qs⟩) (N ol) oc) d ?_;refine wn 6 (I J (room:Int)) d ?_;refine wn 7 (Z (O ⟨ob,0,Qs⟩) (N ol) oc) d ?_;refine wn 8 (I J (N ol:Int)) d ?_;refine wN 9 (I J (m:Int)) d (λx hx=>?_) ?_
    .obtain⟨e1,e2⟩:=dM.o;clear dL dM d dK;go_simp
    refine wN 10 (Z (O ⟨ob,0,Qs⟩) m oc) d (λx hx=>?_) ?_
    .have iw:¬oc<m:=X
     go_simp
    refine wJ 4 11 (λK p=>?_) λK p=>?_
    .skip;go_simp;refine p.o _ _ d λd=>?_
     clear p K;refine wR 11 λK p=>?_;go_simp;refine XX (bP.o _ ((Q9 _ _).drew)) ?_;rintro e y2 ⟨gn,cn,rfl,R,aG,dx,dA,aX,dB⟩;obtain⟨bF,bG,pa,pm,pc,y4,aB,gT,gV,ax,bH,aY,dC,dD,dE,bf⟩:=bQ.o y2 gn cn (az ((Q9 _ _).drew) dB) R aG dx dA aX;have yB:=Zh bf;clear bf aX;refine p.o _ _ aY λd=>?_;clear p K;refine wR 12 λK p=>?_;go_simp;refine p.o _ _ bH λd=>?_;clear p K;refine wR 13 λK p=>?_;refine step_append Qi _ _ _ Qi (Z ga gm gc) (Z (O ⟨M (H y2),0,Qs⟩) 1 1) (Z pa pm pc) y4 Qi Qi aB ?_;refine p.o _ _ ax λd=>?_;clear p K;clear aB bF bG;refine wn 14 (Y (O ⟨t,0,Qs⟩)) d ?_;refine wn 15 (Y (O ⟨t,13,Qs⟩)) d ?_;refine wR 16 λK p=>?_;go_simp;refine p.o _ _ (ax.trans (Xd _ _ _ (λh=>h.1 rfl))) (λd=>?_);clear p K;refine wD ?_;try simp only[Act.put,Zt,Zu,Zv,Zn,QW,QX]
     exact⟨by trivial,_,_,_,_,_,_,_,_,_,_,_,_,_,_,_,_,rfl,_,_,_,_,yB.o⟩
    .skip;go_simp;refine XX (bP.o _ ((Q9 _ _).drew)) ?_;rintro e y2 ⟨gn,cn,rfl,R,aG,dx,dA,aX,dB⟩;obtain⟨bF,bG,pa,pm,pc,y4,aB,gT,gV,ax,bH,aY,dC,dD,dE,bf⟩:=bQ.o y2 gn cn (az ((Q9 _ _).drew) dB) R aG dx dA aX;have yB:=Zh bf;clear bf aX;refine p.o _ _ aY λd=>?_
     clear p K;refine wJ 4 12 (λK p=>?_) λK p=>?_
     .skip;go_simp;refine p.o _ _ d λd=>?_
      clear p K;refine wR 12 λK p=>?_;go_simp;refine p.o _ _ bH λd=>?_;clear p K;refine wR 13 λK p=>?_;refine step_append Qi _ _ _ Qi (Z ga gm gc) (Z (O ⟨M (H y2),0,Qs⟩) 1 1) (Z pa pm pc) y4 Qi Qi aB ?_;refine p.o _ _ ax λd=>?_;clear p K;clear aB bF bG;refine wn 14 (Y (O ⟨t,0,Qs⟩)) d ?_;refine wn 15 (Y (O ⟨t,13,Qs⟩)) d ?_;refine wR 16 λK p=>?_;go_simp;refine p.o _ _ (ax.trans (Xd _ _ _ (λh=>h.1 rfl))) (λd=>?_);clear p K;refine wD ?_;try simp only[Act.put,Zt,Zu,Zv,Zn,QW,QX]
      exact⟨by trivial,_,_,_,_,_,_,_,_,_,_,_,_,_,_,_,_,rfl,_,_,_,_,yB.o⟩
     .skip;go_simp;refine p.o _ _ bH λd=>?_
      clear p K;refine wR 4 λK p=>?_;go_simp;refine p.o _ _ d λd=>?_;clear p K;refine wR 13 λK p=>?_;refine step_append Qi _ _ _ Qi (Z ga gm gc) (Z (O ⟨M (H y2),0,Qs⟩) 1 1) (Z pa pm pc) y4 Qi Qi aB ?_;refine p.o _ _ ax λd=>?_;clear p K;clear aB bF bG;refine wn 14 (Y (O ⟨t,0,Qs⟩)) d ?_;refine wn 15 (Y (O ⟨t,13,Qs⟩)) d ?_;refine wR 16 λK p=>?_;go_simp;refine p.o _ _ (ax.trans (Xd _ _ _ (λh=>h.1 rfl))) (λd=>?_);clear p K;refine wD ?_;try simp only[Act.put,Zt,Zu,Zv,Zn,QW,QX]
      exact⟨by trivial,_,_,_,_,_,_,_,_,_,_,_,_,_,_,_,_,rfl,_,_,_,_,yB.o⟩
   rintro e a z3 ⟨rfl,dZ,ek,eu,eD,eF,eH,eO,eP,eQ,eT,eU,eZ,fe,fo,fu,fw,rfl,hJ⟩;have IB:=Zh hJ;clear hJ hv ak fZ aO ai bM bz aa F5 aI HB Tm bQ bP;go_wp2;go_roundw
   case rel=>exact⟨k+1,X,Qe,IB.o⟩
   case measure=>exact XK
  .obtain⟨gv,gb,cp,os,hB⟩:=HJ.o;have dS:k=P:=X
   have F7:=hB.fbg;rw[Cz.o]at F7;have bK:Qp wr ⟨M (H w),8,Qs⟩=O (I Qq (P:Int)):=F7.cell 8;obtain⟨fA,HB⟩:=aS dS hB;clear hB F7 HJ dS;go_wp2;obtain⟨L,fB,fC,hA⟩:=HB.o.search (Qk fA.o);have HA:=Zh hA;have Fe:Qn (L.av=Z Qs 0 0/\L.pv=Z Qs 0 0):=⟨fB,fC⟩;clear hA fB fC bK;have Sq:Qn (GB wr t 95 (#[v0,v1,v2,v3,v4,v5,v6,v7,(I Qq (P:Int)),v9,u,z,C,gv,Z Qs 0 0,Qr (l6 ts q room k),Y (O ⟨bt,0,Qs⟩),Z Qs 0 0,I J 1].setIfInBounds 14 (Z Qs 0 0))):=by have:=HB.o.blk;rw[Cz.o]at this;exact this
   obtain⟨arr,bn⟩:=eY (#[v0,v1,v2,v3,v4,v5,v6,v7,(I Qq (P:Int)),v9,u,z,C,gv,Z Qs 0 0,Qr (l6 ts q room k),Y (O ⟨bt,0,Qs⟩),Z Qs 0 0,I J 1]:Array Qm);have gp:=Zh bn;rw[<-bn]at Sq;clear bn;have HV:Qn (Qp wr ⟨vb,0,Qs⟩=O (Y (O ⟨t,0,Qs⟩))/\vb<M (H wr)/\vb≠t/\t<M (H wr)/\M (H w)<=t/\M (H W0)<=M (H wr)):=⟨HB.o.var.cell 0,HB.o.var.lt,HB.o.NN.2.2,HB.o.blk.lt,Qk HB.o.NN.1,HB.o.hz.below.size⟩;have bB:=Zh HB.o.old;have D7:Qn (arr.size=19):=by show _=_;rw[gp.o];rfl
   have Yh:=Zh fM.o;refine(wpIn_wide (n:=0)).1 (rY jS (gf:=45) (s:=I Qq (P:Int)) rfl (enters_of func45 Qd rfl) (fJ.o w) bB.o rfl (λaC o1 W=>Yg wr t (M (H W0)) arr aC o1 W) (λb=>b=t) ?_ ?_ ⟨⟨Z Qs 0 0,Sq.o,Xm _ _ _ _,λb=>by simp[Value.ownBlock],λb e=>by cases e⟩,ZO _ _⟩ (λx=>{ tmps:=#[Qu #[v0,v1,v2,v3,v4,v5,v6,v7,(I Qq (P:Int)),v9,u,z,C],I J (room:Int),Y (O ⟨M (H w),0,Qs⟩),undef,Y Qs,Y (O ⟨vb,0,Qs⟩),u6,u7,I J (x:Int),Qu #[v0,v1,v2,v3,v4,v5,v6,v7,(I Qq (P:Int)),v9,u,z,C],Qu #[v0,v1,v2,v3,v4,v5,v6,v7,(I Qq (P:Int)),v9,u,z,C],Y (O ⟨bt,0,Qs⟩),Qu #[v0,v1,v2,v3,v4,v5,v6,v7,(I Qq (P:Int)),v9,u,z,C,Z Qs 0 0,Z Qs 0 0,Qr F,Y (O ⟨bt,0,Qs⟩),Z Qs 0 0,I J 1],Y (O ⟨t,0,Qs⟩),Y (O ⟨M (H w),8,Qs⟩),I Qq (P:Int),I J (P:Int),I J (k:Int),Qr F,u19,u20,u21,u22,u23,u24,u25,u26,u27,u28,u29,u30,u31,u32,u33,u34,u35,u36,u37,u38,u39,u40,u41,u42,u43,u44,u45,u46,u47,u48,u49,u50,u51,u52,u53,Y (O ⟨M (H w),8,Qs⟩),I Qq (P:Int),.func (.func 45) #[I Qq (P:Int)] #[],I J (x:Int),undef,undef,undef,undef,undef,undef,undef,undef,undef,undef],defers:=[] }) ?assign ?body ?done)
   .rintro b rfl;exact⟨HV.o.2.2.2.2.1,HV.o.2.2.2.1⟩
   .intro aC o1 A B h hk;exact h.keep hk
   case assign=>
    intro l x W K p;have he:jS.enc x=I J (x:Int):=rfl;gi_wp2;exact p
   case body=>
    intro l aC x o1 W hI aN hx fF ig;have gq:x<5:=by have h0:=uB (by simpa [jS] using aN);rw[Yh.o]at h0;have:=List.mem_range.1 h0;omega
    have gu:N aC<=5:=by have h0:=aN.length_le;rw[Yh.o,ZH,ZG,ZI]at h0;simp at h0;omega
    have bS:∀y∈aC,y<5:=λy hy=>by
     have h0:y∈aR P:=by have:=aN.subset (ZL.2 ⟨y,List.mem_append_left _ hy,rfl⟩);exact this
     rw[Yh.o]at h0;have:=List.mem_range.1 h0;omega
    obtain⟨⟨av,aK,aA,tY,aL⟩,uq⟩:=hI;have aO:vb≠t/\av.ownBlock≠O vb:=⟨HV.o.2.2.1,λe=>Ql (aL _ e) HV.o.2.1⟩;have hv:=Jl uq HV.o.1 aO.1;have dU:2 ^ x<32:=by have:2 ^ x<2 ^ 5:=XN X gq;omega
    have gy:Qn (∀(y:U) (tb:Nat),Bw W y->M (H W)<=tb->Qp y ⟨tb,0,Qs⟩=O (I Qq ((2 ^ x:Nat):Int))->Qp y ⟨tb,1,Qs⟩=O (I Qq 0)->Calls V 46 #[Y (O ⟨t,14,Qs⟩),Z (O ⟨tb,0,Qs⟩) 1 1] y λe w'=>(∃v,e=Qv v)/\Kept (λb=>b≠t/\av.ownBlock≠O b) W w'/\∃o2,Yg wr t (M (H W0)) arr (aC++[x]) o2 w'/\Kept (λb=>¬o1 b) W w'/\∀b,o2 b->o1 b∨(M (H W)<=b/\b<M (H w'))):=λy tb hy ht c0 c1=>by
     have gz:Kept (λb=>b<M (H W)) W y:=ZP hy (λ_ h _=>h);have gB:=aK.keep gz aK.lt;have gD:(arr.setIfInBounds 14 av)[14]? = O av:=by rw[Array.getElem?_setIfInBounds_self];rw[Zb (by rw[D7.o];omega)]
     have:=JZ t (M (H W0)) _ av (Tj aC) [(2 ^ x,0)] (O ⟨tb,0,Qs⟩) 1 y gB gD (XM aA hy) (by have:=HV.o;have:=uq.size;have:=hy.size;omega) ⟨Qa,λi hi=>⟨tb,0,rfl,by
      have gF:i=0:=by simpa using hi
      subst gF;exact⟨c0,c1⟩⟩⟩ (λa e=>by
      injection e with e;rw[<-e];refine⟨?_,λe2=>?_⟩
      .have:=aK.lt
       show tb≠t;omega
      .have h3:=(Xg aA e2).2;have h4:tb<M (H W):=h3;omega) (by have:=(Yf aC bS).2;simp only[ZK,Z0];omega) (Yf aC bS).1 (λa ha=>by
      rw[Xj]at ha;rw[ha];exact⟨dU,by show 0<32;omega⟩)
     refine this.mono ?_;rintro e w3 ⟨gW,fD,g3,o3,k3,t3⟩;have bT:=(ZP (s:=λb=>b≠t/\av.ownBlock≠O b) hy (λ_ h _=>h)).trans k3;rw[Jn]at g3;refine⟨gW,bT,λb=>b=t∨fD.ownBlock=O b,⟨⟨fD,g3,by rw[Ye];exact o3,λb=>Iff.rfl,λb e=>?_⟩,uq.trans' bT (λb hl D=>⟨D,λe=>Qk (aL b e)⟩)⟩,bT.mono λb _ D=>⟨λe=>D ((tY b).2 (.inl e)),λe=>D ((tY b).2 (.inr e))⟩,?_⟩
     .rcases t3 with t3|⟨g,t3,hg⟩
      .exact aL b (t3 ▸ e)
      .rw[t3]at e;injection e with e;have:=uq.size;have:=hy.size;omega
     .rintro b (rfl|D)
      .exact .inl ((tY _).2 (.inl rfl))
      .rcases t3 with t3|⟨g,t3,hg⟩
       .exact .inl ((tY b).2 (.inr (t3 ▸ D)))
       .have h5:=(Xg o3 D).2;rw[t3]at D;injection D with D;have:=hy.size;exact .inr ⟨X,h5⟩
    clear fF ig hx aN aK aA tY aL uq bS gu;gi_wp2_with fail;refine xy (S:=λx=>Kept (λb=>b≠t/\av.ownBlock≠O b) W x) Qd Qd (λ⟨_,_,h⟩=>h) ?_;have d:Kept (λb=>b≠t/\av.ownBlock≠O b) W W.drew:=ZP ((Q9 _ _).drew) (λ_ h _=>h);refine wT 0 (Y (O ⟨t,0,Qs⟩)) d (λx hx=>?_) ?_
    .have e0:=Jl hx hv aO;go_simp
    refine wt 1 (Y (O ⟨t,0,Qs⟩)) d ?_;refine wt 2 (Y (O ⟨t,14,Qs⟩)) d ?_;refine wt 3 (I J (x:Int)) d ?_;refine wR 4 λK p=>?_;go_simp;refine p.o _ _ (d.trans (ZT _ _)) (λd=>?_);clear p K;refine wR 5 λK p=>?_;go_simp;refine XX (rX (M (H W)) x _ Qa X) ?_;rintro e y5 ⟨rfl,rfl⟩;refine p.o _ _ d λd=>?_;clear p K;refine wt 6 (Qu #[I Qq ((2 ^ x:Nat):Int),I Qq 0]) d ?_;refine wR 7 λK p=>?_;go_simp;refine p.o _ _ (d.trans (ZT _ _)) (λd=>?_);clear p K;refine wR 8 λK p=>?_;go_simp;refine XX (gy.o _ _ (aqj W _ _) Qa Qa Qa) ?_;rintro e w3 ⟨⟨v,rfl⟩,gX,o2,gY,gZ,ib⟩;refine p.o _ _ gX λd=>?_;clear p K;refine wD ?_;try simp only[Act.put,Zt,Zu,Zv,Zn,QW,QX]
    exact⟨o2,gY,gZ,λb D=>(ib b D).elim .inl (λh=>.inr (.inl h))⟩
   case done=>
    rintro ys o1 W fE hI aY aG hD;have dV:ys=aR P:=by simpa [jS] using fE
    rw[Yh.o]at dV;subst dV;obtain⟨⟨av,aK,aA,tY,aL⟩,uq⟩:=hI;have hv:=Jl uq HV.o.1 HV.o.2.2.1;have dW:¬o1 (M (H wr)):=λh=>by
     rcases aG _ h with h|h
     .have:=HV.o.2.2.2.1;omega
     .omega
    have bD:=ZQ (s:=λb=>o1 b∨b<M (H wr)) W (r:=M (H wr)) (.deferred Qs) (by
     rintro (h|h)
     .exact dW h
     .omega)
    have HD:=Zh hD;have lW:Qn (∃L Mq,dI W0 f ts q (λb=>Xq b∨Mq b) Mq (W.putObj (M (H wr)) (.deferred Qs)) t L (ed aZ ts q room)/\(∀b,Mq b->M (H w)<=b)/\Bw w (W.putObj (M (H wr)) (.deferred Qs))):=by
     have gG:=aK.keep bD (.inl ((tY _).2 (.inl rfl)));have aJ:=Xf aA bD (λg hg=>.inl ((tY g).2 (.inr hg)));have Vb:=uq.trans' bD (λb hl _=>.inr hl);have eA:=GB.inj HA.o.blk Sq.o;obtain⟨X2,M2,ic,Vd,g1,g2,g3⟩:=HA.o.next (Vb.mono λb _ D=>D.1) (av:=av) (pv:=L.pv) (ag:=Tj (List.range (N q.src.xs))) (pk:=[]) (st:=1) (by
      have e:f.cells ts q++lM { L with av:=av,pv:=L.pv } ⟨(List.range k).map λs=>dz (zl ts q room s),Tj (List.range (N q.src.xs)),l6 ts q room k,fq ts q,[],1⟩=arr.setIfInBounds 14 av:=by have h1:=Yd f ts q L ⟨(List.range k).map λs=>dz (zl ts q room s),[],l6 ts q room k,fq ts q,[],1⟩ av;rw[eA,Jn]at h1;exact h1.symm
      exact e ▸ gG) aJ (by
      cases h:av.ownBlock with
      |none=>exact .inl (by rw[Fe.o.1];rfl)
      |some g=>exact .inr ⟨g,rfl,aL g h⟩) (by rw[Fe.o.2];exact Xm _ _ _ _) (.inl rfl)
     have eX:X2=λb=>Xq b∨M2 b:=funext λb=>propext ((g3 b).trans ⟨λh=>by
      rcases h with (h|h)|h
      .exact .inl h
      .exact .inr (g1 b h)
      .exact .inr h,λh=>by
      rcases h with h|h
      .exact .inl (.inl h)
      .exact .inr h⟩)
     have eB:ed aZ ts q room=⟨(List.range k).map λs=>dz (zl ts q room s),Tj (List.range (N q.src.xs)),l6 ts q room k,fq ts q,[],1⟩:=by rw[fA.o,fK.o];rfl
     refine⟨_,M2,by rw[eB,<-eX];exact ic,λb D=>?_,bB.o.trans (Vb.below bB.o.size λb D=>Qk HV.o.2.2.2.2.1)⟩;rcases g2 b D with (h|⟨j,hj,h⟩)|h
     .rw[h];exact HV.o.2.2.2.2.1
     .rw[h];exact(HB.o.kg j hj).2.1
     .exact ZN bB.o.size h
    clear aK aA tY aL uq bD dW aG aY fE;go_wp2;obtain⟨L2,M2,q1,q2,q3⟩:=lW.o;refine⟨Qa,.inl ⟨_,_,rfl,Xc HD.o,?_⟩⟩;exact⟨_,results_tmp rfl _ _ _,t,L2,M2,rfl,q1,q2,q3⟩
end
structure Lv where
 W:U
 f:ay
 q:ae
 pb:Nat
 sb:Nat
 ca:PN
 cc:Nat
structure aqI(ts:Qy af)(room:Nat)(P:Lv)(w:U):Prop where
 blk:GB w P.pb 59 (#[Z P.ca (N ts) P.cc]++P.q.cells ++ #[I J (room:Int),Y (O (aD P.sb 0))])
 tabs:aQ P.W P.ca ts
 qat:P.q.At P.W
 nil:Wh P.q
structure qB(ts:Qy af)(Nq:Qz)(q:ae)(room:Nat)(w:U)(P:Lv)(Mq:Qz)(w':U):Prop where
 env:Env P.f ts P.q P.W
 same:aX q P.q
 se:∃L,dI P.W P.f ts P.q (λb=>(Nq b∨b=P.pb)∨Mq b) Mq w' P.sb L (ed aZ ts P.q room)
 cell:Qp w' (aD P.pb 9)=O (Y (O (aD P.sb 0)))
 new:∀b,Mq b->M (H w)<=b
 pb:M (H w)<=P.pb
 npb:¬Mq P.pb
 below:Bw w w'
 keep:aqI ts room P w'
def qB.elder{Nq:Qz}{room:Nat}{x:U}{P:Lv}{Mq:Qz}{w':U}(h:qB ts Nq q room x P Mq w')(hb:Bw w x):qB ts Nq q room w P Mq w':=
 ⟨h.env,h.same,h.se,h.cell,λb a=>ZN hb.size (h.new b a),ZN hb.size h.pb,h.npb,hb.trans (h.below.mono hb.size),h.keep⟩
def PlK(w:U)(pb:Nat)(Tq:TypeId)(c:Qy Qm)(x:U):Prop:=Kept (λb=>b≠pb) w x/\∃u,GB x pb Tq (c++[u]).toArray
def PlK.below{w:U}{pb:Nat}{Tq:TypeId}{c:Qy Qm}{x y:U}(h:PlK w pb Tq c x)(hb:Bw x y):PlK w pb Tq c y:=by obtain⟨d,u,a⟩:=h;exact⟨d.trans (ZP hb (λ_ h _=>h)),u,a.keep (ZP (s:=λb=>b<M (H x)) hb (λ_ h _=>h)) a.lt⟩
theorem PlK.set{w:U}{pb:Nat}{Tq:TypeId}{c:Qy Qm}{x:U}(h:PlK w pb Tq c x)(v:Qm):PlK w pb Tq c (Qo x (aD pb (N c)) v):=by obtain⟨a,u,b⟩:=h;refine⟨a.trans (Xd _ _ _ (λh=>h rfl)),v,?_⟩;have:=b.set (N c) v;grind
theorem Tx(h:fD ts=T):N ts<=1000:=by unfold fD at h;grind
theorem Ty(ao:PN)(cap:Nat)(ts:Qy af)(q:ae)(room:Nat)(Nq:Qz)(w:U)(hx:aQ w ao ts)(hn:ao=Qs->cap=0)(hq:q.At w)(hkc:N q.keys.xs<=q.keys.cap)(hoc:N q.ord.xs<=q.ord.cap)(ht:We q)(hs:bM w 0)(Bz:q.check ts=0)(h1:1<=room)(h2:room<=1000)(hN:∀b,Nq b->b<M (H w))(h0:¬Nq 0)(hw0:0<M (H w)) :
  Calls V 15 #[Z ao (N ts) cap,Qu q.cells,I J (room:Int)] w λe w'=>∃P Mq,e=Qv (.tuple #[Y (O (aD P.pb 0)),I J 0])/\qB ts Nq q room w P Mq w':=by
 have ah:=Tx (yw Bz).1.cat;obtain⟨v0,v1,v2,v3,v4,v5,v6,uO⟩:∃v0 v1 v2 v3 v4 v5 v6,q.cells=#[v0,v1,v2,v3,v4,v5,v6]:=⟨_,_,_,_,_,_,_,rfl⟩;obtain⟨w1,aY,W,aJ⟩:=bC w #[v0,v1,v2,v3,v4,v5,v6] 26;have G:=checkQ_any ao cap ts q w1 (hx.below W) (hq.below W) hkc hoc;rw[Bz]at G;have aU:Qn (∀x,Bw w x->Calls V 25 #[Z ao (N ts) cap] x λe w'=>∃t cc,e=Qv (Z t (N ts) cc)/\aQ w' t ts/\(∀a,t=O a->M (H x)<=a.block)/\Bw x w'):=λx r=>by refine(zH ao cap ts x (hx.below r) hn ah).mono ?_;rintro e w' ⟨v,rfl,ho,aZ⟩;obtain⟨ad,cp,rfl,Va⟩:=M9 ho ah;exact⟨ad,cp,rfl,Va,λa ea=>(Xg ho (g:=a.block) (by rw[ea];rfl)).1,aZ⟩
 have av:Qn (∀x,Bw w x->Calls V 26 #[Qu q.cells] x λe w'=>∃p:ae,e=Qv (Qu p.cells)/\p.At w'/\aX q p/\p.New (M (H x))/\Wh p/\N p.keys.xs<=p.keys.cap/\Bw x w'):=λx r=>Nk q x (hq.below r) ht;rw[uO]at G av ⊢;obtain⟨bf,aK⟩:=aS hs Bz;have HN:Qn ((∀b,Nq b->b<M (H w))/\¬Nq 0/\0<M (H w)):=⟨hN,h0,hw0⟩;have HR:Qn (1<=room/\room<=1000):=⟨h1,h2⟩;have aV:=Zh W;have r1:¬((room:Int)<1):=X;have r2:¬((room:Int) > 1000):=X;have r3:¬((1000:Int)<(room:Int)):=X;obtain⟨a0,a1,a2,a3,a4,a5,a6⟩:=aJ.k7;clear hx hn hq hkc hoc ht hs Bz h1 h2 hN h0 hw0 ah uO W aJ;go_enter func15,ntmps15;go_wp2_with fail;refine G.mono ?_;rintro e w2 ⟨rfl,j⟩;clear G aY;obtain⟨d0,d1,d2,d3,d4⟩:=jW j a0 a1 a2 a3 a4;obtain⟨d5,d6⟩:=jf j a5 a6;have y:=Zh (az aV.o j);clear j a0 a1 a2 a3 a4 a5 a6;go_wp2_with fail;have Q:Bw w2 w2.drew:=(Q9 _ _).drew;refine wH w2 λd=>?_;refine O0 0 d ?_;refine O0 2 d ?_;refine O0 4 d ?_;refine wR 1 λK k=>?_;go_simp;refine XX (aU.o _ (az y.o Q)) ?_;rintro e s1 ⟨t,cc,rfl,Va,aL,r⟩;have Fb:Qn (∀a,t=O a->M (H w)<=a.block):=λa ea=>ZN (az y.o Q).size (aL a ea);clear aL;have FM:=az Q r;have Ph:=Zh Va;clear Va;refine k.o _ _ (az d r) (λd=>?_);clear k K;refine wR 3 λK k=>?_;go_simp;refine XX (av.o _ (az y.o FM)) ?_;rintro e s2 ⟨p,rfl,P9,aM,ag,aN,hkc,j⟩;have Nl:=az FM j;have ax:=Zh (Ph.o.below j);have z:Qn (p.At s2/\aX q p/\p.New (M (H s1))/\Wh p/\N p.keys.xs<=p.keys.cap):=⟨P9,aM,ag,aN,hkc⟩;clear P9 aM ag aN hkc Ph;obtain⟨p0,p1,p2,p3,p4,p5,p6,au⟩:∃p0 p1 p2 p3 p4 p5 p6,p.cells=#[p0,p1,p2,p3,p4,p5,p6]:=⟨_,_,_,_,_,_,_,rfl⟩;rw[au];refine k.o _ _ (az d j) (λd=>?_);clear k K;refine O0 5 d ?_;refine wR 6 λK k=>?_;go_simp;refine oA k d λd=>?_;clear k K;refine O0 7 d ?_;refine wD ?_;try simp only[pV]
 obtain⟨w3,bg,aO,A⟩:=bC s2 #[Z t (N ts) cc,p0,p1,p2,p3,p4,p5,p6,I J (room:Int),Y Qs] 59;obtain⟨aP,jE,oI,wQ⟩:=sU aO (az y.o Nl) ((az y.o FM).size) A.lt;have aA:Qn (∀x,Bw s2 x->Calls V 28 #[Z t (N ts) cc,Qu p.cells] x λe w'=>∃f:ay,e=Qv (Qu (f.cells ts p))/\f.At ts p w'/\f.New (M (H x))/\Bw x w'):=λx r=>zo t cc ts p x (ax.o.below r) (z.o.1.below r) (yw (ts:=ts) (q:=p) (by rw[z.o.2.1.check ts];exact aK.o)).1.ok;rw[au]at aA;obtain⟨i,l⟩:=eY (M (H s2));clear d FM Nl Q r j aO d0 d1 d2 d3 d4 d5 d6;go_upto_region 7 with fail;rw[bg];rw[<-l];rw[<-l]at A wQ;have aB:=Zh l;clear l;have ai:Bw w3 w3.drew:=(Q9 _ _).drew;refine Zo (S:=PlK w3 i 59 [Z t (N ts) cc,p0,p1,p2,p3,p4,p5,p6,I J (room:Int)]) Qd ⟨ZP ai (λ_ h _=>h),Y Qs,A⟩ (λd=>?_);refine wt 0 (Y (O (aD i 0))) d ?_;refine wt 1 (Y (O (aD i 0))) d ?_;refine wt 2 (Y (O (aD i 0))) d ?_;refine wt 3 (Y (O (aD i 0))) d ?_;refine wT 4 (Z t (N ts) cc) d (λx hx=>?_) ?_
 .obtain⟨_,u,hg⟩:=hx;have e0:=hg.at 0;go_simp
 refine wt 5 (Y (O (aD i 0))) d ?_;refine wt 6 (Y (O (aD i 0))) d ?_;refine wt 7 (Y (O (aD i 1))) d ?_;refine wT 8 (Qu #[p0,p1,p2,p3,p4,p5,p6]) d (λx hx=>?_) ?_
 .obtain⟨_,u,hg⟩:=hx;have e0:=hg.at 1;have e1:=hg.at 2;have e2:=hg.at 3;have e3:=hg.at 4;have e4:=hg.at 5;have e5:=hg.at 6;have e6:=hg.at 7;go_simp
 refine wt 10 (I J (room:Int)) d ?_;refine wR 9 λK k=>?_;go_simp;refine XX (aA.o _ (az aP.o ai)) ?_;rintro e w4 ⟨f,rfl,hf,aR,aT⟩;have aj:=az ai aT;have Tz:=az aP.o aj;have aC:=Zy wQ.o aj.size;have aW:=jE.o.size;have l:=aB.o;have aF:=ae1 (by rw[z.o.2.1.check ts];exact aK.o) hf (Jd (az jE.o Tz) bf.o) z.o.2.2.2.2 z.o.2.2.2.1.keys;obtain⟨W0,B⟩:=Sk (λb=>Nq b∨b=i) w4;have hE:=Env.kill B aF (W':=s2) (n:=M (H s1)) (m:=M (H w3.drew)) (λh=>by
  have g1:=HN.o.2.2;rcases h with h|h
  .exact HN.o.2.1 h
  .omega) (λb h=>by
  show b<M (H w3);have g1:=wQ.o;rcases h with h|h
  .have:=HN.o.1 b h;omega
  .omega) aR (λb h=>by
  rcases h with h|h
  .have g2:=HN.o.1 b h;have g3:=oI.o;exact .inl X
  .exact .inr X) Tz z.o.1 z.o.2.2.1
 have hz:Fz (λb=>¬(λb=>Nq b∨b=i) b) W0 w4:=Fz.kill B (Q9 _ _) (λb h=>by
  rcases h with h|h
  .have:=HN.o.1 b h;have:=Tz.size;omega
  .omega)
 have aG:Qn (aQ W0 t ts/\p.At W0):=by
  have g1:=HN.o.1;have g3:=oI.o;refine⟨FO B (n:=M (H w)) (λb h=>?_) Tz ax.o Fb.o,zf B (n:=M (H s1)) (λb h=>?_) Tz z.o.1 z.o.2.2.1⟩
  .grind
  .rcases h with h|h
   .have:=g1 b h;exact .inl X
   .exact .inr X
 have nH:=Tk hE hz room HR.o.1 HR.o.2;have HE:=Zh hE;have rf:Qn (Bw s2 w4/\i<M (H w4)):=⟨Tz,aC⟩;have aH:=A.keep (ZP (s:=λb=>b<M (H w3)) aj (λ_ h _=>h)) wQ.o;clear aF hE hz hf aR l aW aC B;refine k.o _ _ (d.below aT) (λd=>?_);clear k K;refine wR 11 λK k=>?_;go_simp;refine XX (nH) ?_;rintro e w5 ⟨sb,L,Mq,rfl,aa,C,D⟩;have vR:=Zh (Jm aa (Jm C D));have R:=aH.keep (ZP (s:=λb=>b<M (H w4)) D (λ_ h _=>h)) rf.o.2;clear aa C nH;refine k.o _ _ (d.below D) (λd=>?_);clear k K;refine wt 12 (Y (O (aD i 0))) d ?_;refine wt 13 (Y (O (aD i 9))) d ?_;have c9:=R.at 9;have f9:=R.frozen 9;refine wR 14 λK k=>?_;go_simp;refine k.o _ _ (d.set _) (λd=>?_);clear k K;refine wD ?_;try simp only[pV]
 obtain⟨w6,oV⟩:=eX (Qo w5 (aD i 9) (Y (O (aD sb 0))));have jK:Qn (qB ts Nq q room w ⟨W0,f,p,i,sb,t,cc⟩ Mq w6):=by
  obtain⟨aa,C,D⟩:=vR.o;have hk:Kept (λb=>¬b=i) w5 w6:=by rw[<-oV];exact Xd _ _ _ (λh=>h rfl)
  have ak:=R.set 9 (Y (O (aD sb 0)));rw[oV]at ak;have hl:=rf.o.2;have l:=aB.o;have bn:=jE.o.size;have aI:¬Mq i:=λh=>by have:=C i h;omega
  refine⟨HE.o,z.o.2.1,⟨L,aa.other (Nq:=λb=>b=i) (N':=λ_=>False) (λb h=>.inl (.inr h)) (λb r e=>aI (e ▸ r)) hk (λb h=>h.elim) (λb=>⟨λh=>.inl h,λh=>by
   grind⟩) (λb h=>h.elim) (λb h=>h.elim)⟩,ak.cell 9,λb r=>?_,?_,aI,?_,⟨?_,aG.o.1,aG.o.2,z.o.2.2.2.1⟩⟩
  .have:=C b r;omega
  .show (M (H w))<=i
   omega
  .have h5:=az (az jE.o rf.o.1) D;exact h5.trans (hk.below h5.size (λb r e=>X))
  .show GB w6 i _ (#[Z t (N ts) cc]++p.cells ++ #[I J (room:Int),Y (O (aD sb 0))])
   rw[au];exact ak
 clear d A aH R c9 f9 vR HE rf HN;go_upto_region 8 with fail;rw[oV];go_wp2;go_ret2;exact⟨_,Mq,rfl,jK.o⟩
