import Derived.Test.YtnjbikdhpnopjaaGreatDoorA10
set_option linter.all false
set_option maxRecDepth 100000
set_option maxHeartbeats 0
namespace Go.Proofs.Zz
open Go.RowKit Go.Shelf
open List renaming length->N,getD->E
open Go.Value renaming slice->Z,pointer->Y
open Go.Proofs.Tryz renaming prog->V
open Option renaming some->O
open Bool renaming false->F,true->T
open Go renaming World->U
open Go.World renaming cell?->UK
variable {ts:List ah} {q:af} {ns:List ai} {ps:List bN} {n:ai} {a i x:Nat} {k:Int} {t:dH} {d:bN} {v:Value}
theorem Jv(hq:QF ts q):bB (iO ts q) (2 ^ (N q.src.xs)-1)=2 ^ (N q.wh)-1:=by
 apply ZJ;intro i;rw[tH,Nat.testBit_two_pow_sub_one,pF];by_cases a:i<N q.wh
 .have d:=Ux hq a;have f:2 ^ (N q.src.xs)-1<2 ^ (N q.src.xs):=Nat.sub_lt (Nat.pow_pos (by omega)) (by omega);rw[Qx a,Z8,Et a];refine(qp (tJ hq.five f) (tJ hq.five d)).2 λj e=>?_
  rw[Nat.testBit_two_pow_sub_one,ZW];by_cases b:j<N q.src.xs
  .exact b
  .rw[ZH (QA d (ZI (by omega) (by omega)))]at e
   cases e
 grind
def LQ.uniq{qs:List bN}(h:LQ ts q ns ps)(g:LQ ts q ns qs):ps=qs:=by have b:=h.parts _ (Qn _);have a:=g.parts _ (Qn _);rw[b,Xi (by rw[h.len];omega),Xi (by rw[g.len];omega)]at a;injection a
theorem LQ.init(h:LQ ts q (ns++[n]) ps):LQ ts q ns (ps.take (N ns)):=by
 have e:∀i,i<N ns->E (ns++[n]) i nz=E ns i nz:=λi a=>by grind
 have f:N (ns++[n])=N ns+1:=by simp
 have b:∀i,i<N ns->fD (E ns i nz) i:=λi a=>by grind [LQ.st]
 have d:∀i,i<N ns->fo (E ns i nz) (ps.take (N ns))=fo (E ns i nz) ps/\eG (E ns i nz) (ps.take (N ns))=eG (E ns i nz) ps:=λi a=>yV (b i a) λj g=>by grind
 refine⟨by grind [LQ.len],b,λi a=>?_,λi a=>?_⟩
 .have:=h.fit i (by omega)
  simp_all
 .have:=h.part i (by omega)
  simp_all
theorem Jw{a:dH}(h:TF ts q a)(hl:N a.ns<=900)(hp:LQ ts q (aM ts q n [a]).ns ps):(aM ts q n [a]).ns.getD ((aM ts q n [a]).ns.length-1) nz=gF n ((N a.ns:Int)-1) 0/\E ps (gF n ((N a.ns:Int)-1) 0).l.toNat pz=a.d:=by
 have j:=h.pos;have e:(aM ts q n [a]).ns=([]++a.ns.map (bU (N ([]:List ai))))++[gF n ((N a.ns:Int)-1) 0]:=by show gW [a.ns]++[(⟨n.kind,(N (gW [a.ns]):Int)-1,0,_,_,_,_⟩:ai)]=_;rw[show N (gW [a.ns])=N a.ns by simp[gW]];rfl
 have b:N ([]++a.ns.map (bU (N ([]:List ai))))=N a.ns:=by simp
 obtain⟨k,i,hd⟩:=h.ex;have f:=(LQ.nil ts q).app i (by simp;omega);rw[e]at hp;have g:=hp.init.uniq f;rw[b]at g;refine⟨?_,?_⟩
 .simp_all
 .show ps.getD ((N a.ns:Int)-1).toNat pz=a.d
  rw[<-hd,show ((N a.ns:Int)-1).toNat=N a.ns-1 by omega];grind
structure BF(ts:List ah)(q:af)(t:dH):Prop where
 tf:TF ts q t
 len:N t.ns<=64
 fin:∀ps,LQ ts q t.ns ps->(dZ (E t.ns (N t.ns-1) nz).kind&&jC q (E t.ns (N t.ns-1) nz).kind (E ps (E t.ns (N t.ns-1) nz).l.toNat pz).order)=T
def BF.look{ts:List ah}{q:af}{t:dH}(h:BF ts q t):∃a,jD ts q t.ns=O a/\N a=N t.ns/\E a (N a-1) pz=t.d:=h.tf.look h.len h.fin
def xZ(h1:1<=k)(h2:k<=10):Uu (dV k):=⟨h1,h2,.inr rfl,.inr (.inr rfl),.inr (.inr rfl),.inr rfl⟩
theorem ads(h:7<=k):arity k=1:=by grind [arity]
theorem aaQ(h:7<=k)(h':k<=10):dZ k=true:=by grind [dZ]
theorem ag2(h:TF ts q t)(hl:N t.ns<=60)(ho:dZ t.d.kind=F)(hk:7<=k/\k<=9)(hf:iG ts q (dV k) t.d pz=T):(jC q k t.d.order=T->BF ts q (aM ts q (dV k) [t]))/\(0<N q.ord.xs->BF ts q (aM ts q (dV 10) [aM ts q (dV k) [t]])):=by
 have l:(dV k).kind=k:=rfl;have e:TF ts q (aM ts q (dV k) [t]):=TF.aaN (xZ (by omega) (by omega)) (by rw[l];grind [ads]) h (by omega) (by rw[uO (by omega) ho Es,Z8];exact hf);have b:(aM ts q (dV k) [t]).ns.length=N t.ns+1:=by rw[Jf ts q _ (by simp)];rfl
 refine⟨λn=>⟨e,by omega,λps a=>?_⟩,λp=>?_⟩
 .obtain⟨i,j⟩:=Jw h (by omega) a;rw[i,j]
  show (dZ k&&jC q k t.d.order)=T;rw[aaQ hk.1 (by omega),n];rfl
 .have f:mf 10 (aM ts q (dV k) [t]).d pz=true:=by unfold mf;rw[show (aM ts q (dV k) [t]).d.kind=k from rfl,aaQ hk.1 (by omega),Es];rfl
  have g:TF ts q (aM ts q (dV 10) [aM ts q (dV k) [t]]):=TF.aaN (xZ (by decide) (by decide)) (by rfl) e (by omega) (by
   rw[show (dV 10).kind=10 from rfl,f,Z8];show (if (10:Int)=1 then _ else if (10:Int)=2 then _ else if (10:Int)=3 then _ else if (10:Int)=4 then _ else if (10:Int)=5 then _ else if (10:Int)=6 then _ else if (10:Int)=7 then _ else if (10:Int)=8 then _ else if (10:Int)=9 then _ else decide (0<N q.ord.xs))=T;simp_all)
  have m:(aM ts q (dV 10) [aM ts q (dV k) [t]]).ns.length=N t.ns+2:=by rw[Jf ts q _ (by simp)];show (aM ts q (dV k) [t]).ns.length+0+1=_;rw[b]
  refine⟨g,by omega,λps a=>?_⟩;obtain⟨i,j⟩:=Jw e (by omega) a;rw[i,j];show (dZ 10&&jC q 10 _)=T;unfold jC;rw[ZU (by omega),Zt rfl];rfl
theorem Uy(hw:qE q d=T)(hk:(k=9/\q.group=F)∨(k=8/\q.group=T/\aQ d.order q.keys.xs=T)∨(k=7/\q.group=T)):iG ts q (dV k) d pz=true:=by unfold iG;rw[show (dV k).kind=k from rfl];grind
def Uz(h1:d.sources=2 ^ (N q.src.xs)-1)(h2:d.clauses=2 ^ (N q.wh)-1):qE q d=true:=by unfold qE;simp_all
theorem Di(hq:QF ts q)(h:TS ts q t)(hl:N t.ns<=60)(hs:t.d.sources=2 ^ (N q.src.xs)-1):BF ts q (mQ ts q t):=by
 have b:=Uz hs (by rw[h.cls,hs];exact Jv hq);have e:(dO q t.d.order=9/\q.group=F)∨(dO q t.d.order=8/\q.group=T/\aQ t.d.order q.keys.xs=T)∨(dO q t.d.order=7/\q.group=T):=by unfold dO;grind
 have a:7<=dO q t.d.order/\dO q t.d.order<=9:=by omega
 obtain⟨g,f⟩:=ag2 h.tf hl h.out a (Uy b e);unfold mQ;simp only;split
 .simp_all
 .rename_i he
  refine f (Nat.pos_of_ne_zero λi=>he ?_);unfold jC;simp_all
theorem UA{l:List Int}{w:Int}(h0:0<N l)(hin:∀c∈l,0<=c/\c<w)(hap:dB l=T):(N l:Int)<=w:=by
 unfold dB at hap;rw[ZW]at hap;have d:0<=w:=by
  cases l with
  |nil=>cases h0
  |cons a l=>grind [List.mem_cons_self]
 obtain⟨n,rfl⟩:=XT d;have e:(l.map Int.toNat).Nodup:=by grind [List.pairwise_iff_getElem,List.getElem_mem]
 have f:∀k∈l.map Int.toNat,k<n:=λk i=>by grind
 have b:=qM f;have g:∀m,fF m (λk=>(l.map Int.toNat).count k)<=m:=λm=>by
  induction m with
  |zero=>exact Qn _
  |succ m ih =>
   grind [jB]
 grind
theorem O3{src o:List Int}{s:Nat}(h0:0<N o)(hin:∀c∈o,0<=c/\c<ak ts src)(hap:dB o=T)(anT:∀c∈o,aZ s (2 ^ aC ts src c)=T):qI ts src o s=true:=by
 unfold qI;rw[Qx h0,Qx (UA h0 hin hap),Z8,Z8,Qk];intro i l;have a:i<N o:=by simp_all
 have b:E o i 0∈o:=by simp_all
 obtain⟨f,g⟩:=hin _ b;rw[Qx f,Qx g,anT _ b,Qw]
 .rfl
 .intro d;rw[uV a]at d;obtain⟨j,k,e⟩:=d;unfold dB at hap
  grind
def Fj(hq:QF ts q):(∀c∈aR q,0<=c/\c<ak ts q.src.xs)/\dB (aR q)=true:=by
 unfold aR;split
 .exact⟨hq.keys,hq.apart⟩
 .rename_i hg
  split
  .rename_i ha
   exact⟨hq.want (by simp_all),ha⟩
  .exact⟨λc a=>by (cases a),by decide⟩
def Eu(hq:QF ts q){c:Int}(h:0<=c/\c<ak ts q.src.xs):aC ts q.src.xs c<N q.src.xs:=(ZQ hq.ok.cat hq.ok.src h.1 h.2).1
theorem YD(hq:QF ts q)(h:TS ts q t)(hl:N t.ns<=50)(hs:t.d.sources=2 ^ (N q.src.xs)-1):∀x∈uK ts q t,BF ts q x:=by
 intro x a;unfold uK at a;split at a
 .rename_i h0
  rcases Z0.1 a with rfl|a
  .exact Di hq h (by omega) hs
  .rw[Zg]at a;rw[a];have b:=Fj hq;have f:2 ^ (N q.src.xs)-1<2 ^ (N q.src.xs):=Nat.sub_lt (Nat.pow_pos (by omega)) (by omega);have g:qI ts q.src.xs (aR q) t.d.sources=true:=O3 h0 b.1 b.2 λc k=>by have e:=Eu hq (b.1 c k);rw[hs];refine(qp (tJ hq.five f) (tJ hq.five (XO (by omega) e))).2 λj l=>?_;grind
   have i:=MJ h (by omega) g;exact Di hq i (by rw[xQ];omega) (by rw[vZ];exact hs)
 .rw[Zg]at a;rw[a];exact Di hq h (by omega) hs
section
def Pc(ts:List ah)(q:af)(s:Nat)(t:dH):Prop:=PF ts q s t/\uM q t
def Sh(s:Nat)(t:dH):Prop:=N t.ns+3<=5*pcN s
def Pd(ts:List ah)(q:af)(s:Nat)(t:dH):Prop:=Pc ts q s t/\Sh s t
def LeO(a b:Option Nat):Prop:=∀c,a=O c->∃d,b=O d/\d<=c
abbrev dI:=bG 105
def PlW(ts:List ah)(q:af)(s:Nat)(Fq:Nat->Prop)(w:U)(hd:Option Nat)(i:Nat)(v:Value):Prop:=
 (v=Y none/\(i=0->hd=none))∨∃b t,v=Y (O (aD b 0))/\dI Fq w b t/\Pc ts q s t/\(i=0->Sh s t/\hd=O t.d.cost)
structure jW(ts:List ah)(q:af)(s:Nat)(Fq:Nat->Prop)(w:U)(gb:Nat)(os:List ae)(hd:Option Nat):Prop where
 one:0<N os
 few:N os<=20
 ord:∀o∈os,di Fq w o/\N o.xs<=1000
 fst:(E os 0 eU).xs=[]
 srt:∀i,0<i->i<N os->qI ts q.src.xs (E os i eU).xs s=T
 blk:∃c,GB w gb 177 c/\∀i,i<N os->c[i*2]? = O (E os i eU).val/\∃v,c[i*2+1]? = O v/\PlW ts q s Fq w hd i v
variable {ts:List ah} {q:af} {s:Nat} {Fq:Nat->Prop} {w w':U} {gb:Nat} {os:List ae} {hd:Option Nat}
def PlW.bC{i:Nat}{v:Value}(h:PlW ts q s Fq w hd i v)(hk:Kept Fq w w'):PlW ts q s Fq w' hd i v:=h.imp id λ⟨b,t,h1,h2,h3⟩=>⟨b,t,h1,h2.bC hk,h3⟩
def jW.bC(h:jW ts q s Fq w gb os hd)(hk:Kept (λb=>Fq b∨b=gb) w w'):jW ts q s Fq w' gb os hd:=by obtain⟨c,j,d⟩:=h.blk;have a:=hk.mono λb _ h=>.inl h;exact⟨h.one,h.few,λo e=>⟨(h.ord o e).1.bC a,(h.ord o e).2⟩,h.fst,h.srt,c,j.keep hk (.inr rfl),λi f=>⟨(d i f).1,(d i f).2.imp λv g=>⟨g.1,g.2.bC a⟩⟩⟩
def jW.below(h:jW ts q s Fq w gb os hd)(hb:Bw w w'):jW ts q s Fq w' gb os hd:=h.bC (QB hb λ_ h _=>h)
def jW.mono{G:Nat->Prop}(h:jW ts q s Fq w gb os hd)(hs:∀b,b<w.heap.size->Fq b->G b):jW ts q s G w gb os hd:=by obtain⟨c,g,a⟩:=h.blk;exact⟨h.one,h.few,λo d=>⟨(h.ord o d).1.mono hs,(h.ord o d).2⟩,h.fst,h.srt,c,g,λi e=>⟨(a i e).1,(a i e).2.imp λv f=>⟨f.1,f.2.imp id λ⟨b,t,h1,h2,h3⟩=>⟨b,t,h1,h2.mono hs,h3⟩⟩⟩⟩
def jW.lt(h:jW ts q s Fq w gb os hd):gb<w.heap.size:=by obtain⟨c,a,_⟩:=h.blk;exact a.lt
theorem ag7(hi:i<N os):E os i eU∈os:=by grind
theorem jW.cells(h:jW ts q s Fq w gb os hd)(hi:i<N os):UK w (aD gb (i*2))=O (E os i eU).val/\w.frozen? (aD gb (i*2+1))=F/\∃v,UK w (aD gb (i*2+1))=O v/\PlW ts q s Fq w hd i v:=by obtain⟨c,b,a⟩:=h.blk;exact⟨(b.cell _).trans (a i hi).1,b.frozen _,(a i hi).2.imp λv d=>⟨(b.cell _).trans d.1,d.2⟩⟩
def PlW.pos(h:PlW ts q s Fq w hd i v){d:Option Nat}(hd':i=0->hd=d):PlW ts q s Fq w d i v:=by
 rcases h with⟨h1,h2⟩|⟨b,t,h1,h2,h3,h4⟩
 .exact .inl ⟨h1,λe=>(hd' e) ▸ h2 e⟩
 .exact .inr ⟨b,t,h1,h2,h3,λe=>(hd' e) ▸ h4 e⟩
theorem jW.put(h:jW ts q s Fq w gb os hd)(hF:¬Fq gb)(hi:i<N os)(ht:dI Fq w x t)(hp:Pc ts q s t)(h0:i=0->Sh s t):jW ts q s Fq (w.setCell (aD gb (i*2+1)) (Y (O (aD x 0)))) gb os (if i=0 then O t.d.cost else hd):=by
 obtain⟨c,k,b⟩:=h.blk;have a:Kept Fq w (w.setCell (aD gb (i*2+1)) (Y (O (aD x 0)))):=Q8 _ _ _ hF;refine⟨h.one,h.few,λo g=>⟨(h.ord o g).1.bC a,(h.ord o g).2⟩,h.fst,h.srt,_,k.set _ _,λj n=>?_⟩;obtain⟨l,v,f,m⟩:=b j n;refine⟨by rw[Array.getElem?_setIfInBounds_ne (by omega)];exact l,?_⟩;by_cases e:j=i
 .subst e;refine⟨_,by rw[Array.getElem?_setIfInBounds_self_of_lt (QI.1 f).1],.inr ⟨x,t,rfl,ht.bC a,hp,λe=>⟨h0 e,Zt e⟩⟩⟩
 .exact⟨v,by rw[Array.getElem?_setIfInBounds_ne (by omega)];exact f,(m.bC a).pos λh=>by rw[ZU (by omega)]⟩
def jW.head(h:jW ts q s Fq w gb os hd):∃v,UK w (aD gb 1)=O v/\PlW ts q s Fq w hd 0 v:=by obtain⟨-,-,v,a,b⟩:=h.cells h.one;exact⟨v,a,b⟩
def Bb{n:Nat}(h1:0<n)(gc:Nat)(c1:UK w (aD gb 1)=O v) :
  Ce 212 #[Z (O (aD gb 0)) n gc] w v:=by go_enter Tryz.func212,Tryz.ntmps212;go_wp2;go_ret;exact⟨rfl,rfl⟩
end
section
variable {ts:List ah} {q:af} {s:Nat} {Fq:Nat->Prop} {w:U} {gb:Nat} {os:List ae} {hd:Option Nat}
def UZ(ts:List ah)(q:af)(s:Nat)(Fq:Nat->Prop)(w:U)(gb:Nat)(os:List ae)(hd:Option Nat)(x:U)(r:Bool)(i:Nat):Prop:=
 ∃hk,jW ts q s Fq x gb os hk/\LeO hd hk/\((r=T∨0<i)->hk≠none)/\Kept (λb=>b≠gb) w x
def aaS(h:jW ts q s Fq w gb os hd)(hF:¬Fq gb)(gc:Nat)(bo:Option Addr)(bc:Nat)(xs:List Nat)(hp:dA w bo xs)(hpo:∀a,bo=O a->a.block≠gb)(hbs:∀x∈xs,∃t,dI Fq w x t/\Pc ts q s t/\(Sh s t∨∃c,hd=O c/\c<=t.d.cost)) :
  Calls V 211 #[Z (O (aD gb 0)) (N os) gc,Z bo (N xs) bc] w λe w'=>∃r,e=.returned (.bool r)/\UZ ts q s Fq w gb os hd w' r 0:=by
 have HS:Hid (UZ ts q s Fq w gb os hd w F 0):=⟨hd,h,λc e=>⟨c,e,Qn _⟩,by simp,Qy _ _⟩;obtain⟨HF,HP,HO,HX⟩:=om hF hp hpo hbs;have aB:=hp.1;have aC:=h.few;clear h hF hp hpo hbs;go_enter Tryz.func211,Tryz.ntmps211;go_wp2;go_loopw [5,12] (λpv P wr=>∃(k:Nat) (r:Bool),k<=N xs/\P=.int .i64 (k:Int)/\pv=.bool r/\Hid (UZ ts q s Fq w gb os hd wr r 0)) (λ_ P _=>N xs-(intOf P).toNat)
 case atStart=>exact⟨0,F,QW _,rfl,rfl,HS.o⟩
 case round=>
  obtain⟨k,r,hk,rfl,rfl,HK⟩:=hrel;by_cases Q:k<N xs
  .obtain⟨bb,TK,rfl,ah⟩:=dA.get (HP.o.bC HK.o.choose_spec.2.2.2 (λ_ a ha=>HO.o a ha)) Q;have aF:=ah k Q;have HT:=Zh (HX.o _ (Xl (d:=0) Q));generalize E xs k 0=x at*;clear ah;go_wp2;go_loopw [5,18] (λpv P wr=>∃(i:Nat) (r:Bool),i<=N os/\P=.int .i64 (i:Int)/\pv=.bool r/\Hid (UZ ts q s Fq w gb os hd wr r i)) (λ_ P _=>N os-(intOf P).toNat)
   case atStart=>exact⟨0,r,QW _,rfl,rfl,HK.o⟩
   case round=>
    obtain⟨i,r,hi,rfl,rfl,HI⟩:=hrel;by_cases R:i<N os
    .obtain⟨g,C,n,D,z⟩:=HI.o;obtain⟨t,X,av,ai⟩:=HT.o;have W:Kept Fq w wr:=z.mono λb _ hb e=>HF.o (e ▸ hb)
     have X:=X.bC W;obtain⟨c0,f1,v,c1,m⟩:=C.cells R;obtain⟨p,hP,Dw⟩:=X.nW;have B:=(C.ord _ (ag7 R)).1;have aa:=C.fst;obtain⟨A,G⟩:=eY (E os i eU);rw[<-G]at c0 B;have Bh:Hid (∀y,Bw wr y->Cb 164 #[Z p.order.ad (N p.order.xs) p.order.cap,Z A.ad (N A.xs) A.cap] y (.bool (aQ p.order.xs A.xs))):=λy l=>lI _ _ _ _ _ _ y (Qo l hP.ok.order) (Qo l B.at') hP.ok.cap;have c3:UK wr (aD x 3)=O (Z p.order.ad (N p.order.xs) p.order.cap):=hP.c3;have c5:=hP.c5;have ec:p.cost=t.d.cost:=congrArg bN.cost Dw;have af:i=0->aQ p.order.xs A.xs=true:=λe=>by rw[G,e,aa];simp[aQ]
     rw[ec]at c5;have ag:Hid (∀y,Bw wr y->(i=0->g≠none)->UZ ts q s Fq w gb os hd y r (i+1)):=λy l h0=>⟨g,C.below l,n,λ_=>by
      by_cases e:i=0
      .exact h0 e
      .exact D (.inr (by omega)),z.trans (QB l λ_ h _=>h)⟩
     have ak:Hid (∀y,Bw wr y->(i=0->∀c,g = O c->t.d.cost<c)->UK y (aD gb (i*2+1))=O v/\y.frozen? (aD gb (i*2+1))=F/\UZ ts q s Fq w gb os hd (y.setCell (aD gb (i*2+1)) (Y (O (aD x 0)))) T (i+1)):=λy l h0=>by
      refine⟨cB l c1,(l.frozen C.lt).trans f1,_,(C.below l).put HF.o R (X.below l) av (λe=>?_),λc e=>?_,λ_=>?_,(z.trans (QB l λ_ h _=>h)).trans (Q8 _ _ _ (λh=>h rfl))⟩
      .refine ai.resolve_right λ⟨c,h1,h2⟩=>?_
       obtain⟨d,h3,h4⟩:=n c h1;have:=h0 e d h3;omega
      .obtain⟨d,h3,h4⟩:=n c e;by_cases S:i=0
       .exact⟨_,Zt S,by have:=h0 S d h3;omega⟩
       .exact⟨d,by rw[ZU S];exact h3,h4⟩
      .by_cases S:i=0
       .rw[Zt S];simp
       .rw[ZU S];exact D (.inr (by omega))
     unfold ae.val at c0;generalize aQ p.order.xs A.xs=SB at*;generalize N p.order.xs=pol at*;generalize p.order.ad=poa at*;generalize p.order.cap=poc at*;generalize N A.xs=ovl at*;generalize A.ad=ova at*;generalize A.cap=ovc at*;generalize t.d.cost=cx at*;have au:=Zh af;clear HI C Dw hP B aa G ec af ai W X z n D;obtain⟨po,rfl,hz⟩:∃po,v=Y po/\((po=none/\(i=0->g = none))∨∃b cr:Nat,po=O (aD b 0)/\UK wr (aD b 5)=O (.int .u64 (cr:Int))/\(i=0->g = O cr)):=by
      rcases m with⟨rfl,m⟩|⟨b,u,rfl,hu,-,m⟩
      .exact⟨_,rfl,.inl ⟨rfl,m⟩⟩
      .obtain⟨pb,ax,ay⟩:=hu.nW;exact⟨_,rfl,.inr ⟨b,u.d.cost,rfl,(congrArg bN.cost ay) ▸ ax.c5,λe=>(m e).2⟩⟩
     obtain⟨w1,aA,L,aj⟩:=aL wr #[Z ova ovl ovc,Y po] 177;obtain⟨a0,a1⟩:=aj.k2;obtain⟨d3,d5⟩:=nH L c3 c5;obtain⟨j,HV⟩:=aJ L hz;clear aj L m hz;go_wp2_with fail;clear aA;refine wH w1 λf=>?_;refine wA6 0 f ?_;refine sN 6 f ?_;refine wR 7 λK hK=>?_;go_simp;refine XX (Bh.o _ (az j.o f)) ?_;rintro e w2 ⟨rfl,hb⟩;refine oT hK f hb λf=>?_;clear hK K hb Bh;refine sN 8 f ?_;cases SB
     .refine wS9 9 f ?_;refine wS6 18 f ?_;refine wS2 24 f ?_;refine sN 26 f ?_;refine wD ?_;have HN:=Zh (ag.o w2 (az j.o f) λe=>by cases au.o e);go_wp2;go_roundw
      case rel=>exact⟨i+1,r,by omega,by go_num,rfl,HN.o⟩
      case measure=>simp[intOf];omega
     rcases HV.o with⟨rfl,m⟩|⟨b,cr,rfl,c6,m⟩
     rotate_left
     have d6:=cB j.o c6;rcases XV cx cr with hc|hc
     rotate_left
     .refine wB4 9 f ?_;refine wB9 13 f ?_;refine wB3 22 f ?_;refine wB1 25 f ?_;refine sN 26 f ?_;refine wD ?_;have HN:=Zh (ag.o w2 (az j.o f) λe=>by rw[m e];simp);go_wp2;go_roundw
      case rel=>exact⟨i+1,r,by omega,by go_num,rfl,HN.o⟩
      case measure=>simp[intOf];omega
     all_goals
      have hN:=ak.o w2 (az j.o f) λe c h=>by rw[m e]at h;first|(cases h;done)|(cases h;exact hc)
      refine wB4 9 f ?_
     refine wS9 13 f ?_;refine wS3 22 f ?_
     rotate_left
     refine wB9 13 f ?_;refine wB3 22 f ?_
     all_goals
      refine wB1 25 f ?_;refine sN 26 f ?_;refine wD ?_;obtain⟨s1,g1,hN⟩:=hN;have HN:=Zh hN;clear hN f c3 c5 d3 d5 a0 a1;go_wp2;go_roundw
      case rel=>exact⟨i+1,T,by omega,by go_num,rfl,HN.o⟩
      case measure=>simp[intOf];omega
    .go_wp2;go_roundw
     case rel=>exact⟨k+1,r,by omega,by go_num,rfl,HI.o.imp λ_ h=>⟨h.1,h.2.1,λe=>h.2.2.1 (.inl (by simpa using e)),h.2.2.2⟩⟩
     case measure=>simp[intOf];omega
  .go_wp2;go_ret;exact⟨r,rfl,HK.o⟩
end
section
structure FV(Fq:Nat->Prop)(base:Nat)(w:U)(P:dH->Prop)(v:Value)(xs:List Nat):Prop where
 own:w.ownsRow base 95 1 v (N xs) (xs.map λx=>Value.pointer (O (aD x 0)))
 tr:∀x∈xs,∃t,dI (Fv Fq v) w x t/\P t
variable {Fq:Nat->Prop} {base:Nat} {w w':U} {P:dH->Prop} {v:Value} {xs:List Nat}
def FV.nil:FV Fq base w P (Z none 0 0) []:=⟨Zk _ _ _ _,(λx a=>by cases a)⟩
def FV.below(h:FV Fq base w P v xs)(hb:Bw w w'):FV Fq base w' P v xs:=⟨XU h.own hb,λx a=>(h.tr x a).imp λ_ h=>⟨h.1.below hb,h.2⟩⟩
theorem FV.one{b:Nat}(hb:base<=b)(hg:GB w' b 95 #[Y (O (aD a 0))])(ht:dI Fq w a t)(hw:Bw w w')(h0:w.heap.size<=b)(hP:P t):FV Fq base w' P (Z (O (aD b 0)) 1 1) [a]:=
 ⟨⟨rfl,.inr ⟨b,1,#[Y (O (aD a 0))],rfl,hb,hg,Qn _,by unfold maxLen;omega,rfl,rfl⟩⟩,λx d=>by rw[Zg]at d;rw[d];exact⟨t,ht.own hw (λg e=>by cases e;exact h0),hP⟩⟩
def FV.push(h:FV Fq base w P v xs){y:U}(hb:Bw w y)(hw:base<=w.heap.size)(hl:N xs<=1000)(ht:dI (Fv Fq v) y a t)(hP:P t) :
  ∃f z,(Builtin.append_ #[103,103] 103 #[v,Z (O (aD y.heap.size 0)) 1 1]).run V (y.alloc (.cells #[Y (O (aD a 0))] 95))=.ok f z/\
   FV Fq base z P f (xs++[a])/\Below base y z/\Kept (λb=>v.ownBlock≠O b) y z/\(f.ownBlock=v.ownBlock∨∃g,f.ownBlock=O g/\y.heap.size<=g)/\∃a m c,f = Z a m c:=by
 have n:=Qz hw hb.size;have k:=h.below hb;obtain⟨f,z,p,q,j,r,l⟩:=TJ y base v xs k.own hl n a 103;have d:f.ownBlock=v.ownBlock∨∃g,f.ownBlock=O g/\y.heap.size<=g:=l.imp id (λe=>⟨_,e,by omega⟩);refine⟨f,z,p,⟨q,λx i=>?_⟩,j.below n (λb hb e=>by have:=(Zb k.own e).1;omega),j,d,r⟩;rcases Zi.1 i with i|i
 .exact(k.tr x i).imp λ_ h=>⟨h.1.ug j d,h.2⟩
 .rw[Zg]at i;rw[i];exact⟨t,ht.ug j d,hP⟩
def vL(Fq:Nat->Prop)(w:U)(P:dH->Prop)(m n:Nat)(e:Ending)(w':U):Prop:=
 ∃v xs,e=.returned v/\m<=N xs/\N xs<=n/\FV Fq w.heap.size w' P v xs/\Bw w w'
theorem FV.at(h:FV Fq base w P v xs)(hl:N xs<=1000):∃b cap,v=Z b (N xs) cap/\dA w b xs/\∀a,b=O a->base<=a.block:=by obtain⟨b,cap,e,d,-,-,f⟩:=xR h.own (by omega);exact⟨b,cap,e,d,f⟩
def FV.tree(h:FV Fq base w P v xs)(hx:x∈xs):∃t,dI Fq w x t/\P t:=(h.tr x hx).imp λ_ h=>⟨h.1.ale,h.2⟩
end
