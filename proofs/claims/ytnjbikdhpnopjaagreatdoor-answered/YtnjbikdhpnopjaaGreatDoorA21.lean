import Derived.Test.YtnjbikdhpnopjaaGreatDoorA17
import Derived.Test.YtnjbikdhpnopjaaGreatDoorA19
import Derived.Test.YtnjbikdhpnopjaaGreatDoorA20
set_option linter.all false
set_option maxRecDepth 100000
set_option maxHeartbeats 0
namespace Go.Proofs.Zz
open Go.RowKit Go.Shelf
open List renaming length->N,getD->E
open Go.Value renaming slice->Z,int->I,pointer->Y,bool->Wl,agg->FL
open Go.Proofs.Tryz renaming prog->V
open Option renaming some->O,none->xn
open Go.IntKind renaming i64->J,u64->Vo
open Bool renaming false->F,true->T
open Go renaming World->U,Value->X3
open Go.World renaming heap->H,setCell->UC,cell?->UK
open _root_.Array renaming size->M
open Go.RowKit renaming Hid->Y3
open Go.Obj renaming cells->EP
open Go.Ending renaming returned->FN
variable {w y:U} {v:X3} {Fq:Nat->Prop} {os:List ae} {t:TypeId} {ts:List ah} {b s sb:Nat} {db:List aP} {kc sc:List Int}
theorem afW(v:aP)(n:Int)(w:U)(hr:v.At w)(h:Vi v.rs n=T) :
  Ce 85 #[v.val,I J n] w (Wl T):=by
 obtain⟨ad,cap,a⟩:=v;unfold aP.val;simp only at h ⊢;have B:=hr.1;simp only at B;have p:Y3 _:=hr;have C:Y3 (∀k,k<N a->((E a k iz).xs.length:Int)=n/\∀m,m<(E a k iz).xs.length->Vh ((E a k iz).xs.getD m 0)=T):=λk t=>by have g:P7 (E a k iz).xs n=true:=Qk.1 h _ (by simp[List.getD,t]);unfold P7 at g;simp only[Qj,ZW]at g;exact⟨g.1,λm W=>Qk.1 g.2 _ (by grind)⟩
 clear hr h;go_enter Tryz.func85,Tryz.ntmps85;go_wp2;go_loopw [11] (λi wr=>∃k:Nat,k<=N a/\i=I J k/\w=wr) (λi _=>N a-(intOf i).toNat)
 case atStart=>exact⟨0,QW _,rfl,rfl⟩
 case round=>
  obtain⟨k,t,rfl,rfl⟩:=hrel;by_cases d:k<N a
  .obtain⟨b,off,rfl,f⟩:=p.o.2.1.get d;have D:=f k d;have e:=p.o.2.2 k d;obtain⟨u,z⟩:=C.o k d;generalize E a k iz=x at*;obtain⟨S,bL,xs⟩:=x;simp only[ae.val]at*;have G:N xs<=_:=e.1;have K:Y3 (IntsAt w S xs):=e;have L:=Zh z;have P:((N xs:Int) != n)=false:=by simpa using u
   clear f e u z;go_wp2;go_loopw [21] (λi wr=>∃m:Nat,m<=N xs/\i=I J m/\w=wr) (λi _=>N xs-(intOf i).toNat)
   case atStart=>exact⟨0,QW _,rfl,rfl⟩
   case round=>
    obtain⟨m,W,rfl,rfl⟩:=hrel;by_cases l:m<N xs
    .obtain⟨xb,X,rfl,A⟩:=K.o.get l;have Q:=A m l;have q:=L.o m l;generalize E xs m 0=y at*;clear A;by_cases j:y=1073741824
     case' pos=>have R:(y != 1073741824)=false:=by simpa using j
     case' neg=>
      have R:(y != 1073741824)=true:=by simpa using j
      have r:-1000<=y/\y<=1000:=by simp[Vh,j]at q;omega
      obtain⟨r,y2⟩:=r
     all_goals
      clear j q;go_wp2;go_roundw
      case rel=>exact⟨m+1,by omega,by go_num,trivial⟩
      case measure=>simp[intOf];omega
    .go_wp2;go_roundw
     case rel=>exact⟨k+1,by omega,by go_num,trivial⟩
     case measure=>simp[intOf];omega
  .go_wp2;go_ret;exact⟨Qd rfl,rfl⟩
def Tg(co:Option Addr)(cc:Nat)(ts:List ah)(d:Option Addr)(sJ:Nat)(db:List aP)(w:U)(hts:bu w co ts)(mX:U2 w d db)(hn:N db=N ts)(h:zC ts db=T) :
  Ce 46 #[Z co (N ts) cc,Z d (N db) sJ] w (Wl T):=by
 have r:=hts.1;have t:Y3 _:=hts;have l:Y3 _:=mX;have u:((N db:Int) != (N ts:Int))=false:=by rw[hn];simp
 have m:=Zh hn;have v:Y3 (∀k,k<N db->(E db k rz).rs.length<=50/\Vi (E db k rz).rs (E ts k tz).cols=T):=λk p=>by have y:P8 (E db k rz) (E ts k tz)=true:=Qk.1 h k (ZZ.2 p);unfold P8 at y;simp_all
 clear hts mX hn h;go_enter Tryz.func46,Tryz.ntmps46;go_wp2;go_loopw [14] (λi wr=>∃k:Nat,k<=N db/\i=I J k/\w=wr) (λi _=>N db-(intOf i).toNat)
 case atStart=>exact⟨0,QW _,rfl,rfl⟩
 case round=>
  obtain⟨k,p,rfl,rfl⟩:=hrel;by_cases a:k<N db
  .obtain⟨b,off,rfl,j⟩:=l.o.2.1.get a;have z:=j k a;have f:=l.o.2.2 k a;obtain⟨D,A,rfl,t0,-,-,-,-,-⟩:=t.o.2 k (by have:=m.o;omega);obtain⟨B,q⟩:=v.o k a;have n:k<N ts:=by have:=m.o;omega
   generalize E db k rz=x at*;generalize (E ts k tz)=tt at*;have g:=afW x tt.cols w f q;obtain⟨G,K,xs⟩:=x;obtain⟨cols,C,L,P,k2,k3⟩:=tt;unfold aP.val at*;simp only at*;clear j f q;go_wp2_with fail;refine g.mono ?_;rintro e Q ⟨rfl,rfl⟩;go_wp2;go_roundw
   case rel=>exact⟨k+1,by omega,by go_num,trivial⟩
   case measure=>simp[intOf];omega
  .go_wp2;go_ret;exact⟨Qd rfl,rfl⟩
def Iz(co:Option Addr)(cc:Nat)(ts:List ah)(q:af)(d:Option Addr)(sJ:Nat)(db:List aP)(w:U)(hts:bu w co ts)(hq:q.src.At w)(mX:U2 w d db)(ha:aS q.src.xs (N ts)=T)(hl:N q.src.xs<=5)(h:sQ ts q.src.xs db=T) :
  Cb 29 #[Z co (N ts) cc,FL q.cells,Z d (N db) sJ] w (I J 0):=by
 obtain⟨⟨j,k⟩,r⟩:(N db=N ts/\zC ts db=T)/\gL q.src.xs db<=20000:=by unfold sQ at h;simp_all
 obtain⟨l,f,a,g⟩:=aL w q.cells 26;have i:=Tg co cc ts d sJ db l (hts.below a) (mX.below a) j k;have b:=acC q.src d sJ db ts l (Qo a hq) (mX.below a) (by rw[j];exact ha) hl k;have m:=g.at 0;have u:¬((gL q.src.xs db:Nat):Int) > 20000:=by omega
 have n:=Zh a;simp only[af.cells,ae.val]at f b m ⊢;clear hts hq mX ha hl h j k r a g;generalize gL q.src.xs db=p at*;go_enter Tryz.func29,Tryz.ntmps29;go_wp2_with fail;refine i.mono ?_;rintro e t ⟨rfl,rfl⟩;clear f;go_wp2_with fail;refine b.mono ?_;rintro e t ⟨rfl,rfl⟩;go_wp2;go_ret;exact⟨Qe rfl,n.o⟩
def wz{P:Program}{ops:Array Oper}{Q:Exit->Act->World->Prop}{md:Region.Mode}{S:World->Prop}{fuel:Nat}{listed:Array Bool}{a:Act}{oi:Oper}{i k:Nat}(_:tQ i)(hS:S w)(h:wpAnyH P md ops Q S fuel (listed.setIfInBounds i true) (a.put (some k) v) w)(hi:ops[i]? = some oi:=by exact rfl)(hk:oi.dst=some k:=by exact rfl)(hs:Region.noSelect ops=true:=by kernel_rfl)(hf:Region.free md ops listed i=true:=by kernel_rfl)(hr:(Region.ready md ops listed).contains i=true:=by kernel_rfl)(hQ:∀c a w,Q (.panic c) (a.put oi.dst v) w->Q (.panic c) a w:=by first|exact λ_ _ _ h=>h|exact λ_ _ _ h=>by cases h.1)(hg:Region.wanted oi (yielded ops a.tmps)=true:=by kernel_rfl)(hy:∀x,(execOp a.eval oi).run P x=.ok (.value v) x:=by intro x;go_simp;first|done|rfl):wpAnyH P md ops Q S (fuel+1) listed a w:=
 Qa hi hs hf hr hQ (.inl ⟨hg,λx _=>hy x⟩) hS (by rw[hk];exact h)
def wZ4{P Q C:Prop}(i:Nat)(s:C)(k:Q)(h:tQ i->C->Wq Q->P:=by
  intro a b d;refine wz a b ?_;refine wz a.s b ?_;refine wz a.s.s b ?_;refine wz a.s.s.s b ?_;try simp only[pU]
  exact d.o):P:=h trivial s k
def JK(Fq:Nat->Prop)(w:U)(t:dH)(e:Ending)(w':U):Prop:=∃v nv,e=FN (.tuple #[v,I Vo (t.d.cost:Int)])/\nv.map fJ=t.ns/\iY 102 Fq (M (H w)) w' v nv/\Bw w w'
section
theorem agU{Tl:TypeId}{base:Nat}(h:jV Tl Fq base w v os)(h0:0<N os) :
  ∃b d,v=Z (O (aD b 0)) (N os) d/\N os<=d/\d<=9223372036854775807/\base<=b/\∀m,m<=N os->aX w (O (aD b 0)) m (λi=>(E (os.take m) i eU).val):=by
 rcases h.own.2 with⟨_,h1⟩|⟨g,cap,cur,rfl,hb,hh,hc,e,hs,ht⟩
 .omega
 refine⟨g,cap,rfl,hc,by unfold maxLen at e;omega,hb,λm e i f=>⟨g,0,rfl,?_⟩⟩;rw[ZK,Qt (show GB w g _ cur from hh) i];have a:(cur.toList.take (N os*1))[i]? = O (E (os.take m) i eU).val:=by grind
 rw[Xt]at a;split at a
 .simpa using a
 .cases a
def aj9(gv:X3)(cu:Bool)(bt:Nat):Array Value:=#[gv,Z xn 0 0,Wl cu,Y (O (aD bt 0)),Z xn 0 0,I J 1]
variable {W0:U} {f:aF} {ts:List ah} {q:af} {X:Nat->Prop} {room:Nat} {w0:U} {vb sb k:Nat} {cu:Bool} {gv:X3} {gb cp:Nat->Nat} {os:Nat->List ae} {bt:Nat} {x:U}
def Tryz.adp:(V.info? 132).map (λi=>(i.zero,i.size,i.bytes))=O (O (Z xn 0 0),1,24):=by kernel_rfl
def Ur(W:U)(base:Nat)(v:X3)(n:Nat)(xs:List X3)(hown:W.ownsRow base 132 1 v n xs)(hl:n<=1000)(hb:base<=M (H W))(ga:Option Addr)(gl gc:Nat)(ty:TypeId) :
  ∃d e,(Builtin.append_ #[92,92] ty #[v,Z (O (aD (M (H W)) 0)) 1 1]).run V (W.alloc (EP #[Z ga gl gc] 132))=.ok d e/\
   e.ownsRow base 132 1 d (n+1) (xs++[Z ga gl gc])/\Kept (λb=>v.ownBlock≠O b) W e/\(∃a m c,d = Z a m c)/\(d.ownBlock=v.ownBlock∨d.ownBlock=O (M (H W)+1)):=by
 obtain⟨l,p,f,g,i⟩:=Zj Tryz.adp;obtain⟨d,e,q,r,t,y,j⟩:=iI (P:=V) W base 92 ty 132 l _ 1 24 Tryz.underlying92 p f g i rfl (by decide) v n _ hown hb [.slice ga gl gc] rfl (λu k=>by
  rw[Zg]at k;rw[k];rfl) hl (by decide)
 exact⟨d,e,q,r,t,y,j⟩
end
section
attribute [local go_sem] Oper.semAt_some
def Yy{n:Nat}(h:n<=5):aT (2 ^ n-1)=List.range n:=by
 have:n=0∨n=1∨n=2∨n=3∨n=4∨n=5:=by omega
 rcases this with rfl|rfl|rfl|rfl|rfl|rfl <;> rfl
theorem GB.inj{G:Nat}{t':TypeId}{c c':Array X3}(h:GB w G t c)(h':GB w G t' c'):c=c':=by have a:w.heap[G]? = O (EP c t (0,0)):=h;have b:w.heap[G]? = O (EP c' t' (0,0)):=h';grind
def aAz(W:U)(o1 o2:Obj):Bw W ((W.drew.alloc o1).alloc o2):=((Qm _ _).drew.alloc (Qn _) o1).alloc (by simp) o2
end
def PlK(w:U)(pb:Nat)(Tq:TypeId)(c:List X3)(x:U):Prop:=Kept (λb=>b≠pb) w x/\∃u,GB x pb Tq (c++[u]).toArray
def PlK.below{w:U}{pb:Nat}{Tq:TypeId}{c:List X3}{x y:U}(h:PlK w pb Tq c x)(hb:Bw x y):PlK w pb Tq c y:=by obtain⟨d,u,a⟩:=h;exact⟨d.trans (QB hb (λ_ h _=>h)),u,a.keep (QB (s:=λb=>b<M (H x)) hb (λ_ h _=>h)) a.lt⟩
theorem PlK.set{w:U}{pb:Nat}{Tq:TypeId}{c:List X3}{x:U}(h:PlK w pb Tq c x)(v:X3):PlK w pb Tq c (UC x (aD pb (N c)) v):=by obtain⟨a,u,b⟩:=h;refine⟨a.trans (Q8 _ _ _ (λh=>h rfl)),v,?_⟩;have:=b.set (N c) v;grind
theorem adq(h:ji ts=T):N ts<=1000:=by unfold ji at h;grind
section
def GW(pb:Option Nat)(sb k:Nat)(gv:X3)(gb:Nat->Nat)(b:Nat):Prop:=pb≠O b/\b≠sb/\gv.ownBlock≠O b/\∀j,j<k->b≠gb j
structure Dx(W0:U)(f:aF)(ts:List ah)(q:af)(pb:Option Nat)(w0:U)(vb sb k:Nat)(cu:Bool)(gv:X3)(gb cp:Nat->Nat)(os:Nat->List ae)(bt:Nat)(x:U):Prop where
 hz:Fz (λb=>pb≠O b) W0 x
 old:Bw w0 x
 root:M (H W0)<=M (H w0)
 plt:∀b,pb=O b->b<M (H w0)
 sbl:M (H w0)<sb/\M (H w0)<vb/\vb≠sb
 fbg:GB x (M (H w0)) 90 (f.cells ts q)
 var:GB x vb 59 #[Y (O (aD sb 0))]
 blk:GB x sb 97 (f.cells ts q++aj9 gv cu bt)
 own:x.ownsRow (M (H w0)) 132 1 gv k ((List.range k).map λj=>Value.slice (O (aD (gb j) 0)) (N (os j)) (cp j))
 Bi:∀j,j<k->jW ts q j (GW pb sb k gv gb) x (gb j) (os j) xn/\M (H w0)<=gb j/\N (os j)<=cp j/\cp j<=9223372036854775807
 apart:∀i j,i<k->j<k->gb i=gb j->i=j
 fO:∃t,dI (GW pb sb k gv gb) x bt t/\Bp ts q t
variable {W0:U} {f:aF} {ts:List ah} {q:af} {pb:Option Nat} {w0:U} {vb sb k:Nat} {cu:Bool} {gv:X3} {gb cp:Nat->Nat} {os:Nat->List ae} {bt:Nat} {x:U}
def Dx.ne(h:Dx W0 f ts q pb w0 vb sb k cu gv gb cp os bt x):gv.ownBlock≠O sb/\gv.ownBlock≠O vb/\gv.ownBlock≠O (M (H w0))/\∀j,j<k->gv.ownBlock≠O (gb j)/\gb j≠sb/\gb j≠vb/\gb j≠M (H w0):=by refine⟨jh h.own h.blk (by decide),jh h.own h.var (by decide),jh h.own h.fbg (by decide),λj b=>?_⟩;obtain⟨c,a,-⟩:=(h.Bi j b).1.blk;exact⟨jh h.own a (by decide),λe=>absurd (GB.tp a (e ▸ h.blk)) (by decide),λe=>absurd (GB.tp a (e ▸ h.var)) (by decide),λe=>absurd (GB.tp a (e ▸ h.fbg)) (by decide)⟩
def Dx.below(h:Dx W0 f ts q pb w0 vb sb k cu gv gb cp os bt x){y:U}(hb:Bw x y):Dx W0 f ts q pb w0 vb sb k cu gv gb cp os bt y:=by have a:Kept (λb=>b<M (H x)) x y:=QB hb (λ_ h _=>h);exact⟨h.hz.next hb,h.old.trans (hb.mono h.old.size),h.root,h.plt,h.sbl,h.fbg.keep a h.fbg.lt,h.var.keep a h.var.lt,h.blk.keep a h.blk.lt,XU h.own hb,λj d=>⟨(h.Bi j d).1.below hb,(h.Bi j d).2⟩,h.apart,h.fO.imp λ_ h=>⟨h.1.below hb,h.2⟩⟩
def Dx.up(h:Dx W0 f ts q pb w0 vb sb k cu gv gb cp os bt x):∀b,(b=sb∨gv.ownBlock=O b∨∃j,j<k/\b=gb j)->M (H w0)<=b/\b<M (H x):=by
 rintro b (rfl|d|⟨j,a,rfl⟩)
 .exact⟨Nat.le_of_lt h.sbl.1,h.blk.lt⟩
 .exact Zb h.own d
 .exact⟨(h.Bi j a).2.1,(h.Bi j a).1.lt⟩
def Dx.gw(h:Dx W0 f ts q pb w0 vb sb k cu gv gb cp os bt x)(hp:pb≠O b)(hb:b<M (H w0)∨M (H x)<=b):GW pb sb k gv gb b:=by have a:=h.up b;exact⟨hp,λe=>by have:=a (.inl e);omega,λe=>by have:=a (.inr (.inl e));omega,λj d e=>by have:=a (.inr (.inr ⟨j,d,e⟩));omega⟩
def Dx.fz(h:Dx W0 f ts q pb w0 vb sb k cu gv gb cp os bt x):Fz (GW pb sb k gv gb) W0 x:=
 ⟨h.hz.below,λb a=>h.gw (h.hz.low b a) (.inl (by have:=a.lt;have:=h.root;omega)),λb a=>h.gw (h.hz.high b a) (.inr a)⟩
def Dx.flag(h:Dx W0 f ts q pb w0 vb sb k cu gv gb cp os bt x){c2:Bool}(hk:Kept (λb=>b≠sb) x y)(hblk:GB y sb 97 (f.cells ts q++aj9 gv c2 bt)):Dx W0 f ts q pb w0 vb sb k c2 gv gb cp os bt y:=by have i:=h.ne;have m:=h.sbl.1;exact⟨⟨h.hz.below.kept hk λb a e=>by have:=a.lt;have:=h.root;omega,h.hz.low,λb a=>h.hz.high b (Qz hk.size a)⟩,h.old.trans (hk.below h.old.size λb a=>by omega),h.root,h.plt,h.sbl,h.fbg.keep hk (by omega),h.var.keep hk h.sbl.2.2,hblk,Za h.own hk λg e l=>i.1 (l ▸ e),λj d=>⟨(h.Bi j d).1.bC (hk.mono λb _ a=>a.elim (λh=>h.2.1) λh=>h ▸ (i.2.2.2 j d).2.1),(h.Bi j d).2⟩,h.apart,h.fO.imp λ_ h=>⟨h.1.bC (hk.mono λb _ a=>a.2.1),h.2⟩⟩
theorem Dx.push(h:Dx W0 f ts q pb w0 vb sb k cu gv gb cp os bt x){y1 y2:U}(hb1:Bw x y1){gn cn:Nat}{on:List ae}(hg:jW ts q k (λb=>GW pb sb k gv gb b/\b<M (H x)) y1 gn on xn)(hgn:M (H x)<=gn)(hcn:N on<=cn/\cn<=9223372036854775807){gv':X3}(ho:y2.ownsRow (M (H w0)) 132 1 gv' (k+1) (((List.range k).map λj=>Value.slice (O (aD (gb j) 0)) (N (os j)) (cp j))++[Value.slice (O (aD gn 0)) (N on) cn]))(hk:Kept (λb=>b≠sb/\gv.ownBlock≠O b) y1 y2)(hat:gv'.ownBlock=gv.ownBlock∨∃g,gv'.ownBlock=O g/\M (H y1)<=g)(hblk:GB y2 sb 97 (f.cells ts q++aj9 gv' cu bt)) :
  Dx W0 f ts q pb w0 vb sb (k+1) cu gv' (λj=>if j=k then gn else gb j) (λj=>if j=k then cn else cp j) (λj=>if j=k then on else os j) bt y2:=by
 have t:=h.ne;have B:=hb1.size;have C:=h.old.size;have l:=h.up;have d:=(QB (s:=λb=>b≠sb/\gv.ownBlock≠O b) hb1 (λb A _=>A)).trans hk;have u:∀b,b<M (H x)->GW pb sb k gv gb b->GW pb sb (k+1) gv' (λj=>if j=k then gn else gb j) b:=λb A a=>by
  refine⟨a.1,a.2.1,λe=>?_,λj r=>?_⟩
  .rcases hat with z|⟨g,z,hg⟩
   .exact a.2.2.1 (z ▸ e)
   .have:=XY (z.symm.trans e);omega
  .show b≠if j=k then gn else gb j
   split
   .omega
   .exact a.2.2.2 j (by omega)
 have v:Kept (GW pb sb k gv gb) x y2:=d.mono λb _ a=>⟨a.2.1,a.2.2.1⟩;have n:∀b,b<M (H w0)->b≠sb/\gv.ownBlock≠O b:=λb a=>⟨λe=>by have:=l b (.inl e);omega,λe=>by have:=l b (.inr (.inl e));omega⟩;refine⟨⟨h.hz.below.kept d λb a=>n b (by have:=a.lt;have:=h.root;omega),h.hz.low,λb a=>h.hz.high b (Qz d.size a)⟩,h.old.trans (d.below h.old.size n),h.root,h.plt,h.sbl,h.fbg.keep d ⟨by have:=h.sbl.1;omega,t.2.2.1⟩,h.var.keep d ⟨h.sbl.2.2,t.2.1⟩,hblk,?_,λj r=>?_,λi j D r e=>?_,h.fO.imp λ_ h=>⟨bG.move h.1 v u,h.2⟩⟩
 .have e:(List.range (k+1)).map (λj=>Value.slice (O ⟨if j=k then gn else gb j,0,xn⟩) (N (if j=k then on else os j)) (if j=k then cn else cp j))=((List.range k).map λj=>Value.slice (O (aD (gb j) 0)) (N (os j)) (cp j))++[Value.slice (O (aD gn 0)) (N on) cn]:=by
   rw[ZM,Qi];congr 1
   .refine Xw λj r=>?_
    grind
   .simp
  rw[e];exact ho
 .by_cases e:j=k
  .subst e;simp only[Zt];refine⟨hg.move (hk.mono λb _ a=>?_) λb _ a=>u b a.2 a.1,by omega,hcn⟩;rcases a with a|rfl
   .exact⟨a.1.2.1,a.1.2.2.1⟩
   .exact⟨λe=>by have:=l b (.inl e);omega,λe=>by have:=l b (.inr (.inl e));omega⟩
  .simp only[ZU e];have m:j<k:=by omega
   refine⟨(h.Bi j m).1.move (d.mono λb _ a=>?_) u,(h.Bi j m).2⟩;rcases a with a|rfl
   .exact⟨a.2.1,a.2.2.1⟩
   .exact⟨(t.2.2.2 j m).2.1,(t.2.2.2 j m).1⟩
 .have p:∀j,j<k->gb j<M (H x):=λj r=>(l _ (.inr (.inr ⟨j,r,rfl⟩))).2
  have y:(if i=k then gn else gb i)=if j=k then gn else gb j:=e;split at y <;> split at y
  .omega
  .have:=p j (by omega);omega
  .have:=p i (by omega);omega
  .exact h.apart i j (by omega) (by omega) y
theorem Dx.search(h:Dx W0 f ts q pb w0 vb sb k cu gv gb cp os bt x)(hk:k=nG q)(h0:0<k) :
  ∃L:JA,L.av=Z xn 0 0/\L.pv=Z xn 0 0/\L.ag=[]/\L.pk=[]/\L.st=1/\L.ch=pb/\qw W0 f ts q sb L x/\∀b,Mu q sb L b->M (H w0)<=b:=by
 subst hk;have A:=h.ne;have l:=h.fz;have r:=h.up;rcases h.own.2 with⟨_,h1⟩|⟨g,cap,cur,rfl,a,hh,hc,hm,hs,z⟩
 .omega
 have m:∀j,j<nG q->UK x (aD g j)=O (Z (O (aD (gb j) 0)) (N (os j)) (cp j)):=λj i=>by
  rw[Qt (show GB x g _ cur from hh) j];have C:(cur.toList.take (nG q*1))[j]? = O (Z (O (aD (gb j) 0)) (N (os j)) (cp j)):=by rw[z,ZA,ZB (by simpa using i)];simp
  grind
 obtain⟨L,d⟩:∃L:JA,L=⟨g,cap,gb,cp,os,λ_=>xn,Z xn 0 0,[],cu,bt,Z xn 0 0,[],1,pb⟩:=⟨_,rfl⟩;have n:∀b,Mu q sb L b->b=sb∨∃j,j<nG q/\b=gb j:=λb a=>by
  rw[d]at a;rcases a with a|a|a|a
  .exact .inl a
  .exact .inr a
  .cases a
  .cases a
 have p:∀b,GW pb sb (nG q) (Z (O (aD g 0)) (nG q) cap) gb b->Fx q sb L b:=λb a=>⟨λh0=>(n b h0).elim a.2.1 λ⟨j,i,e⟩=>a.2.2.2 j i e,by rw[d];exact a.1⟩;have u:Fx q sb L g:=⟨λh0=>(n g h0).elim (λe=>A.1 (by rw[e];rfl)) λ⟨j,i,e⟩=>(A.2.2.2 j i).1 (by rw[e];rfl),λe=>by
  rw[d]at e;have:=h.plt g e;omega⟩
 refine⟨L,by rw[d],by rw[d],by rw[d],by rw[d],by rw[d],by rw[d],?_,λb a=>(r b ((n b a).imp id .inr)).1⟩;have v:∃t,dI (Fx q sb L) x bt t/\Bp ts q t:=h.fO.imp λ_ h=>⟨h.1.mono λb _ a=>p b a,h.2⟩;have y:∀j,j<nG q->jW ts q j (Fx q sb L) x (gb j) (os j) xn/\N (os j)<=cp j/\cp j<=9223372036854775807:=λj i=>⟨(h.Bi j i).1.mono λb _ a=>p b a,(h.Bi j i).2.2⟩;have B:Fz (Fx q sb L) W0 x:=⟨l.below,λb a=>p b (l.low b a),λb a=>p b (l.high b a)⟩;subst d;exact⟨B,h.blk,u,(QI.1 hh).1,m,y,h.apart,rfl,Zk _ _ _ _,(λt z=>by cases z),v,Zk _ _ _ _⟩
end
section
attribute [local go_sem] Oper.semAt_some
variable {W0 w:U} {f:aF} {ts:List ah} {q:af} {pb:Option Nat}
def Dx.start(hz:Fz (λb=>pb≠O b) W0 w){vb bt:Nat}(hb:Bw w y)(hl:M (H w)<sb/\M (H w)<vb/\vb≠sb)(h1:GB y (M (H w)) 90 (f.cells ts q))(h2:GB y vb 59 #[Y (O (aD sb 0))])(h3:GB y sb 97 (f.cells ts q++aj9 (Z xn 0 0) F bt))(h4:∃t,dI (λb=>pb≠O b/\b≠sb) y bt t/\Bp ts q t):Dx W0 f ts q pb w vb sb 0 F (Z xn 0 0) (λ_=>0) (λ_=>0) (λ_=>[]) bt y:=
 ⟨hz.next hb,hb,hz.below.size,λb d=>Nat.lt_of_not_le λhl=>hz.high b hl d,hl,h1,h2,h3,Zk _ _ _ _,λj a=>absurd a (Nat.not_lt_zero _),λi j g=>absurd g (Nat.not_lt_zero _),h4.imp λ_ h=>⟨h.1.mono λb _ hb=>⟨hb.1,hb.2,(λe=>by cases e),λj a=>absurd a (Nat.not_lt_zero _)⟩,h.2⟩⟩
structure ahf(q:af)(wr:U)(sb base:Nat)(arr:Array X3)(pre:List Nat)(o1:Nat->Prop)(W:U):Prop where
 ex:∃(av:X3) (ag:List dP),GB W sb 97 (arr.setIfInBounds 14 av)/\W.ownsRow base 138 2 av (N ag) (ag.flatMap eT)/\(∀t∈ag,t.2=0/\∃i,i<N q.src.xs/\t.1=2 ^ i)/\N ag<=N pre/\(0<N pre->0<N ag)/\(∀b,o1 b↔b=sb∨av.ownBlock=O b)/\(∀b,av.ownBlock=O b->M (H wr)<=b)
 kept:Kept (λb=>b≠sb) wr W
def ahf.keep{wr:U}{sb base:Nat}{arr:Array X3}{pre:List Nat}{o1:Nat->Prop}{A B:U}(h:ahf q wr sb base arr pre o1 A)(hk:Kept (λb=>o1 b∨b<M (H wr)) A B):ahf q wr sb base arr pre o1 B:=by obtain⟨av,ag,a,e,f,i,j,d,k⟩:=h.ex;exact⟨⟨av,ag,a.keep hk (.inl ((d _).2 (.inl rfl))),Za e hk (λg a=>.inl ((d g).2 (.inr a))),f,i,j,d,k⟩,h.kept.trans' hk (λb l _=>.inr l)⟩
def zq.cut{m:Nat}{ls:List (List Int)}(h:zq ts q s ls)(h0:1<=m):zq ts q s (ls.take m):=by obtain⟨r,rfl,a⟩:=h;obtain⟨n,rfl⟩:∃n,m=n+1:=⟨m-1,by omega⟩;exact⟨r.take n,rfl,λo b=>a o (XP b)⟩
theorem akj{gb:Nat}{A:Nat->Nat}(h:qJ 105 177 Fq w gb A os (sH (os.map ae.xs)))(hO:zq ts q s (os.map ae.xs))(hl:N os<=20):jW ts q s Fq w gb os none:=by
 have e:N (sH (os.map ae.xs))=N os:=by unfold sH;simp
 obtain⟨r,a,d⟩:=hO;have f:0<N os:=by have:=congrArg N a;simp at this;omega
 have g:∀i,i<N os->(E os i eU).xs=E (os.map ae.xs) i []:=λi b=>by grind
 obtain⟨c,l,b⟩:=h.blk;refine⟨f,hl,λo d=>?_,by rw[g 0 f,a];rfl,λi t p=>?_,c,l,λi hl=>?_⟩
 .obtain⟨i,b,rfl⟩:=Qq d;have:=(h.ord i (by rw[e];exact b)).2
  rwa [show E os i eU=os[i] by grind]at this
 .rw[g i p,a];obtain⟨j,rfl⟩:∃j,i=j+1:=⟨i-1,by omega⟩
  have k:j<N r:=by have:=congrArg N a;simp at this;omega
  exact d _ (by simp[k])
 .obtain⟨m,n⟩:=b i (by rw[e];exact hl);refine⟨m,_,n,.inl ⟨?_,λ_=>rfl⟩⟩;have:(E (sH (os.map ae.xs)) i plz).2=none:=by unfold sH;grind
  rw[this];rfl
theorem akk(Ez:Env f ts q W0)(hq:QF ts q)(hz:Fz (λb=>pb≠O b) W0 w)(room:Nat)(h1:1<=room)(h2:room<=1000) :
  Calls V 34 #[FL (f.cells ts q),I J (room:Int)] w λe w'=>∃j L,e=FN (Y (O (aD j 0)))/\qw W0 f ts q j L w'/\L.ch=pb/\L.pk=[]/\0<N L.ag/\N L.ag<=5/\(∀b,Mu q j L b->M (H w)<=b)/\Bw w w':=by
 obtain⟨v0,v1,v2,v3,v4,v5,v6,v7,v8,v9,aa,af,ah,cK,-,-,-,-,-,-,-,-,ek,-⟩:=X9 f ts q;subst ek;have bB:=Ez.five;have bQ:=Ez.one;have vU:Y3 (∀x,Bw w x->Calls V 57 #[FL #[v0,v1,v2,v3,v4,v5,v6,v7,I Vo (nG q:Int),v9,aa,af,ah]] x λe w'=>∃P,e=FN (Y (O (aD P 0)))/\(∃t,dI (Fn (λb=>pb≠O b) (M (H w)) (M (H x))) w' P t/\Bp ts q t)/\Bw x w'):=λx hx=>by have hF:f.cells ts q=#[v0,v1,v2,v3,v4,v5,v6,v7,I Vo (nG q:Int),v9,aa,af,ah]:=cK;rw[<-hF];refine(OY Ez (Fz.cut hz hx)).mono ?_;rintro e w' ⟨P,rfl,h,-,-,u⟩;exact⟨P,rfl,⟨_,h,ag5 hq,(acW ts q bQ).1⟩,u⟩
 have bR:Y3 (∀x (Fq:Nat->Prop) (k:Nat),Fz Fq W0 x->k<nG q->Calls V 58 #[FL #[v0,v1,v2,v3,v4,v5,v6,v7,I Vo (nG q:Int),v9,aa,af,ah],I Vo (k:Int)] x λe w'=>∃v os,e=FN v/\jV 22 Fq (M (H x)) w' v os/\(zq ts q k (os.map ae.xs)/\0<N os/\N os<=18)/\Bw x w'):=λx Fq k hx hk=>by have hF:f.cells ts q=#[v0,v1,v2,v3,v4,v5,v6,v7,I Vo (nG q:Int),v9,aa,af,ah]:=cK;have h5:2 ^ (N q.src.xs)<=2 ^ 5:=ZI (by omega) bB;unfold nG at hk;rw[<-hF];refine(Ep Ez hx k (by omega)).mono ?_;rintro e w' ⟨v,os,rfl,h,ho,u⟩;have hu:=YE hq (s:=k) (by omega);obtain⟨r,hr⟩:=hu;have hl:=congrArg N ho;rw[Zm]at hl;exact⟨v,os,rfl,h,⟨by rw[ho];exact⟨r,hr⟩,by rw[hl,hr.1];simp,by rw[hl];exact(Yx ts q k Ez.eight).2⟩,u⟩
 obtain⟨SN,aI⟩:∃n:Nat,n=nG q:=⟨_,rfl⟩;have cK:f.cells ts q=#[v0,v1,v2,v3,v4,v5,v6,v7,I Vo (SN:Int),v9,aa,af,ah]:=by rw[aI];exact cK
 rw[<-aI]at vU bR;have fw:SN<=31/\1<=SN:=by have h5:2 ^ (N q.src.xs)<=2 ^ 5:=ZI (by omega) bB;have h6:2 ^ 1<=2 ^ (N q.src.xs):=ZI (by omega) bQ;unfold nG at aI;omega
 have dH:=Zh (vE SN (by omega));have bD:Y3 (aT SN=List.range (N q.src.xs)):=by show _=_;rw[aI];exact Yy bB
 obtain⟨w1,fE,bL,ai⟩:=aL w #[v0,v1,v2,v3,v4,v5,v6,v7,(I Vo (SN:Int)),v9,aa,af,ah] 90;have bE:Y3 (∀(D j P:Nat) (y:U),Bw w1 y->M (H w1)<=j->M (H w1)<=D->D≠j->GB y D 59 #[Y xn]->GB y j 97 #[v0,v1,v2,v3,v4,v5,v6,v7,(I Vo (SN:Int)),v9,aa,af,ah,Z xn 0 0,Z xn 0 0,Wl F,Y (O (aD P 0)),Z xn 0 0,I J 1]->(∃t,dI (λb=>pb≠O b/\b≠j/\b≠D) y P t/\Bp ts q t)->UK y (aD D 0)=O (Y xn)/\y.frozen? (aD D 0)=F/\Bw w1 (UC y (aD D 0) (Y (O (aD j 0))))/\Dx W0 f ts q pb w D j 0 F (Z xn 0 0) (λ_=>0) (λ_=>0) (λ_=>[]) P (UC y (aD D 0) (Y (O (aD j 0))))):=λD j P y hy hs hv dG g2 g3 ht=>by
  have hk:Kept (λb=>b≠D) y (UC y (aD D 0) (Y (O (aD j 0)))):=Q8 _ _ _ (λh=>h rfl);have bF:=hy.trans (hk.below hy.size λb u=>by omega);have:=ai.lt;refine⟨g2.cell 0,g2.frozen 0,bF,Dx.start hz (az bL bF) ⟨by omega,by omega,dG⟩ ?_ (g2.set 0 _) ?_ (ht.imp λ_ h=>⟨(h.1.bC (hk.mono λb _ u=>u.2.2)).mono λb _ u=>⟨u.1,u.2.1⟩,h.2⟩)⟩
  .rw[cK];exact ai.keep (QB (s:=λb=>b<M (H w1)) bF (λ_ h _=>h)) ai.lt
  .rw[cK];exact g3.keep hk (λe=>dG e.symm)
 have fA:=ai.lt;obtain⟨a0,a1,a2,a3,a4,a5,a6,a7,a8,a9,nA,oC,dx⟩:=ai.oh;have bS:=Zh bL;have Ul:Y3 (∀m b,Fn (λb=>pb≠O b) (M (H w)) m b->M (H w)<=m->pb≠O b):=λm b h hm=>h.elim And.left λh=>hz.high b (by omega);obtain⟨UW,PG⟩:=aJ cK aI;rw[cK];clear cK hz bL ai Ez aI;refine(QH (n:=0)).1 (Q3 Tryz.func34 rfl trivial (wpIn_wide.2 ?_) rfl);simp only[Tryz.ntmps34,QN,QO,QP,Nat.reduceAdd,Nat.reduceSub,QQ,QR,QS,QT,QU,QV];go_upto_region 1 with fail;go_cut [5] from 9 to 13 (λc wx=>∃D j P,c=Y (O (aD D 0))/\Dx W0 f ts q pb w D j 0 F (Z xn 0 0) (λ_=>0) (λ_=>0) (λ_=>[]) P wx)
 case first=>
  refine wp_region_noPanic (wH w1 λd=>?_);refine wA2 0 d ?_;refine wJ 2 5 (λK p=>?_) λK p=>?_;go_simp;refine XX (vU.o _ (az bS.o d)) ?_;rintro e y0 ⟨P,rfl,hT,u⟩;have fB:=d.size;have dJ:=u.size;refine oT p d u λd=>?_;clear p K;refine sN 3 d ?_;refine wJ 4 5 (λK p=>?_) λK p=>?_;go_simp;obtain⟨y1,aj,R,Q⟩:=aL y0 #[v0,v1,v2,v3,v4,v5,v6,v7,(I Vo (SN:Int)),v9,aa,af,ah,Z xn 0 0,Z xn 0 0,Wl F,Y (O (aD P 0)),Z xn 0 0,I J 1] 97;rw[aj];refine oT p d R λd=>?_;clear p K aj;refine wR 5 λK p=>?_;go_simp;obtain⟨y2,ax,C,au⟩:=aL y1 #[Y xn] 59;rw[ax];refine oT p d C λd=>?_;clear p K ax;have aN:=bE.o (M (H y1)) (M (H y0)) P y2 d (by omega) (by have:=R.size;omega) (by have:=Q.lt;omega) au (Q.keep (QB (s:=λb=>b<M (H y1)) C (λ_ h _=>h)) Q.lt) (hT.imp λ_ h=>⟨(h.1.mono λb hl hF=>⟨Ul.o _ _ hF (by omega),by omega,by have:=R.size;omega⟩).below (az R C),h.2⟩)
  rotate_left
  go_simp;obtain⟨y1,aj,R,Q⟩:=aL y0 #[Y xn] 59;rw[aj];refine oT p d R λd=>?_;clear p K aj;refine wR 4 λK p=>?_;go_simp;obtain⟨y2,ax,C,au⟩:=aL y1 #[v0,v1,v2,v3,v4,v5,v6,v7,(I Vo (SN:Int)),v9,aa,af,ah,Z xn 0 0,Z xn 0 0,Wl F,Y (O (aD P 0)),Z xn 0 0,I J 1] 97;rw[ax];refine oT p d C λd=>?_;clear p K ax;have aN:=bE.o (M (H y0)) (M (H y1)) P y2 d (by have:=R.size;omega) (by omega) (by have:=Q.lt;omega) (Q.keep (QB (s:=λb=>b<M (H y1)) C (λ_ h _=>h)) Q.lt) au (hT.imp λ_ h=>⟨(h.1.mono λb hl hF=>⟨Ul.o _ _ hF (by omega),by have:=R.size;omega,by omega⟩).below (az R C),h.2⟩)
  rotate_left
  go_simp;obtain⟨y1,aj⟩:∃z,z=(w1.alloc (EP #[Y xn] 59)).drew:=⟨_,rfl⟩;have Q:GB y1 (M (H w1)) 59 #[Y xn]:=by rw[aj];exact pR w1 _
  have R:Bw w1 y1:=by rw[aj];exact(dN _ _).drew
  have fC:=Q.lt;rw[<-aj];refine p.o _ _ R λd=>?_;clear p K aj;refine wR 2 λK p=>?_;go_simp;refine XX (vU.o _ (az bS.o d)) ?_;rintro e y0 ⟨P,rfl,hT,u⟩;have dJ:=u.size;refine oT p d u λd=>?_;clear p K;refine sN 3 d ?_;refine wR 4 λK p=>?_;go_simp;obtain⟨y2,ax,C,au⟩:=aL y0 #[v0,v1,v2,v3,v4,v5,v6,v7,(I Vo (SN:Int)),v9,aa,af,ah,Z xn 0 0,Z xn 0 0,Wl F,Y (O (aD P 0)),Z xn 0 0,I J 1] 97;rw[ax];refine oT p d C λd=>?_;clear p K ax;have aN:=bE.o (M (H w1)) (M (H y0)) P y2 d (by omega) (by omega) (by omega) (Q.keep (QB (s:=λb=>b<M (H y1)) (az u C) (λ_ h _=>h)) Q.lt) au (hT.imp λ_ h=>⟨(h.1.mono λb hl hF=>⟨Ul.o _ _ hF (by omega),by omega,λe=>by rcases hF with h|h <;> omega⟩).below C,h.2⟩)
  all_goals
   obtain⟨c1,f1,eu,hJ⟩:=aN;refine wR 6 λK p=>?_;go_simp;refine p.o _ _ eu λd=>?_;refine wD (NoPanic.normal ?_);try simp only[pU]
   go_wp2_with fail;go_meet;exact⟨_,_,_,rfl,hJ⟩
 case rest=>
 obtain⟨D,j,P,rfl,hB⟩:=hcut;have dK:=Zh hB;have bT:UK wc (aD (M (H w)) 8)=O (I Vo (SN:Int)):=by have:=hB.fbg;rw[UW.o]at this;exact this.cell 8
 go_wp2;go_loopw [17] (λiv wr=>∃k:Nat,k<=SN/\iv=I J (k:Int)/\Y3 (∃cu gv gb cp os,Dx W0 f ts q pb w D j k cu gv gb cp os P wr)) (λiv _=>SN-(intOf iv).toNat)
 case atStart=>exact⟨0,QW _,rfl,_,_,_,_,_,dK.o⟩
 case round=>
  obtain⟨k,hk,rfl,HJ⟩:=hrel;obtain⟨cu,gv,gb,cp,os,hB⟩:=HJ.o;have aY:=hB.fbg;rw[UW.o]at aY;by_cases fu:k<SN
  .obtain⟨a0,a1,a2,a3,a4,a5,a6,a7,a8,a9,nA,oC,dx⟩:=aY.oh;have bU:=bR.o wr _ k hB.fz fu;obtain⟨ga,gm,gc,rfl⟩:=Zc hB.own;have HB:=Zh hB;go_wp2_with fail;refine bU.mono ?_;rintro e z1 ⟨v,ol,rfl,hO,aZ,dz⟩;obtain⟨ob,oc,rfl,fF,fG,dA,aF⟩:=agU hO aZ.2.1;obtain⟨aK,aH⟩:=aJ (HB.o.below dz) aZ.1;have aZ:=aZ.2;obtain⟨eB,Y4,eD⟩:=dQ hO.each aF dA;clear bU hO dz dA aF a0 a1 a2 a3 a4 a5 a6 a7 a8 a9 nA oC dx;have hv:=aK.o.var.cell 0;have dL:=aK.o.sbl.2.2;have X:=aK.o.blk;rw[UW.o]at X;have dM:UK z1 (aD j 15)=O (Wl cu):=X.cell 15;have dO:=X.frozen 15;go_upto_region 6 with fail;go_cut [] from 24 to 36 (λwx=>∃c2,Dx W0 f ts q pb w D j k c2 (Z ga gm gc) gb cp os P wx/\Kept (λb=>b≠j) z1 wx)
   case first=>
    have dP:Y3 (∀c2:Bool,Kept (λb=>b≠j) z1 (UC z1.drew (aD j 15) (Wl c2))->Dx W0 f ts q pb w D j k c2 (Z ga gm gc) gb cp os P (UC z1.drew (aD j 15) (Wl c2))):=λc2 hk=>aK.o.flag hk (by rw[UW.o];exact X.set 15 (Wl c2));clear X aK HB;refine wp_region_noPanic (wHk z1 (λb=>b≠j) λd=>?_);refine wK4 0 d ?_;refine wR 4 λK p=>?_;go_simp;refine p.o _ _ d λd=>?_;clear p K;refine wX1 5 d ?_;cases cu;refine wZ4 6 d ?_
    rotate_left
    refine wS4 6 d ?_
    all_goals
     refine wX3 10 d ?_;refine wR 13 λK p=>?_;go_simp;refine p.o _ _ (d.trans (Q8 _ _ _ (λh=>h rfl))) (λd=>?_);clear p K;refine wD (NoPanic.normal ?_);try simp only[pU]
     go_wp2_with fail;go_meet;exact⟨_,dP.o _ d,d⟩
   case rest=>
   obtain⟨c2,C,Uo⟩:=hcut;obtain⟨z2,eF⟩:∃x,x=wc:=⟨_,rfl⟩;subst eF;have ay:=Zh C;obtain⟨m,hm⟩:=eY (min room (N ol));have bV:1<=m/\m<=N ol/\m<=room:=by omega
   have dR:Y3 ((if (N ol:Int)<(room:Int) then (N ol:Int) else (room:Int))=(m:Int)/\min (room:Int) (N ol:Int)=(m:Int)):=⟨by split <;> omega,by omega⟩
   have dS:=HB.o.blk.lt;have bW:aX z2 (O (aD ob 0)) m (λi=>(E (ol.take m) i eU).val):=λi hi=>by obtain⟨b,off,e,hc⟩:=Y4.o m bV.2.1 i hi;cases e;exact⟨ob,0,rfl,Jk Uo hc (by have:=eD.o;omega)⟩
   have bG:∀o∈ol.take m,di (λb=>GW pb j k (Z ga gm gc) gb b/\b<M (H z2)) z2 o/\N o.xs<=1000:=λo ho=>by have h1:=eB.o o (XP ho);have h2:=h1.1.mono (G:=λb=>GW pb j k (Z ga gm gc) gb b/\b<M (H z1)) (λb hl u=>⟨u.1,hl⟩);exact⟨(h2.bC (Uo.mono λb _ u=>u.1.2.1)).mono λb _ u=>⟨u.1,QA u.2 Uo.size⟩,h1.2⟩
   have aO:N (ol.take m)=m:=by rw[Xu];omega
   have bX:Y3 (∀x,Bw z2 x->Calls V 59 #[Z (O (aD ob 0)) m oc] x λe w'=>∃gn cn,e=FN (Z (O (aD gn 0)) m cn)/\M (H x)<=gn/\(m<=cn/\cn<=9223372036854775807)/\jW ts q k (λb=>GW pb j k (Z ga gm gc) gb b/\b<M (H z2)) w' gn (ol.take m) xn/\Bw x w'):=λx hx=>by have:=KR (Fq:=λb=>GW pb j k (Z ga gm gc) gb b/\b<M (H z2)) (w:=x) (ol.take m) (O (aD ob 0)) oc (by rw[aO];exact aX.below hx bW) (λo ho=>⟨(bG o ho).1.below hx,(bG o ho).2⟩) (by omega) (by omega) (λ_=>0);rw[aO]at this;refine this.mono ?_;rintro e w' ⟨gn,cn,rfl,h1,-,h3,h4,h5,h6⟩;exact⟨gn,cn,rfl,h1,⟨h3,h4⟩,akj h5 (by rw[List.map_take];exact zq.cut aH.o bV.1) (by omega),h6⟩
   have au:=ay.o.ne;have X:=ay.o.blk;rw[UW.o]at X;have bY:Y3 (∀(y2:U) (gn cn:Nat),Bw z2 y2->M (H z2)<=gn->(m<=cn/\cn<=9223372036854775807)->jW ts q k (λb=>GW pb j k (Z ga gm gc) gb b/\b<M (H z2)) y2 gn (ol.take m) xn->UK y2 (aD j 13)=O (Z ga gm gc)/\UK (y2.alloc (EP #[Z (O (aD gn 0)) m cn] 132)) (aD j 13)=O (Z ga gm gc)/\∃pa pm pc y4,(Builtin.append_ #[92,92] 92 #[Z ga gm gc,Z (O (aD (M (H y2)) 0)) 1 1]).run V (y2.alloc (EP #[Z (O (aD gn 0)) m cn] 132))=.ok (Z pa pm pc) y4/\UK y4 (aD j 13)=O (Z ga gm gc)/\y4.frozen? (aD j 13)=F/\Kept (λb=>b≠j/\(Value.slice ga gm gc).ownBlock≠O b) z2 y4/\Kept (λb=>b≠j/\(Value.slice ga gm gc).ownBlock≠O b) z2 y2/\∃cu gv gb cp os,Dx W0 f ts q pb w D j (k+1) cu gv gb cp os P (UC y4 (aD j 13) (Z pa pm pc))):=λy2 gn cn aW ai bN hG=>by have aP:=X.keep (QB (s:=λb=>b<M (H z2)) aW (λ_ h _=>h)) X.lt;obtain⟨v',y4,bM,KS,aM,⟨pa,pm,pc,rfl⟩,Yw⟩:=Ur y2 (M (H w)) (Z ga gm gc) k _ (XU ay.o.own aW) (by omega) (Qz ay.o.old.size aW.size) (O (aD gn 0)) m cn 92;have bZ:Kept (λb=>b≠j/\(Value.slice ga gm gc).ownBlock≠O b) z2 y2:=QB aW (λ_ h _=>h);have cz:Kept (λb=>b≠j/\(Value.slice ga gm gc).ownBlock≠O b) y2 y4:=aM.mono λb _ u=>u.2;have bf:=aP.keep aM au.1;have cO:Kept (λb=>b≠j) y4 (UC y4 (aD j 13) (Z pa pm pc)):=Q8 _ _ _ (λh=>h rfl);refine⟨aP.cell 13,(aP.keep (QE (s:=λ_=>True) _ _) trivial).cell 13,pa,pm,pc,y4,bM,bf.cell 13,bf.frozen 13,bZ.trans cz,bZ,c2,_,_,_,_,ay.o.push aW hG ai (by rw[aO];exact bN) (Za (by rw[aO];exact KS) cO (λg e e2=>jh KS bf (by decide) (e2 ▸ e))) (cz.trans (cO.mono λb _ u=>u.1)) (Yw.imp id λe=>⟨_,e,by omega⟩) ?_⟩;rw[UW.o];exact bf.set 13 (Z pa pm pc)
   have hv:=ay.o.var.cell 0;have bH:D≠j/\(Value.slice ga gm gc).ownBlock≠O D:=⟨dL,au.2.1⟩;have dU:UK z2 (aD j 13)=O (Z ga gm gc):=X.cell 13;clear dM dO bW bG hm C Uo dS X au HB aK ay aO;go_upto_region 7 with fail;refine wp_region_noPanic (wHk z2 (λb=>b≠j/\(Value.slice ga gm gc).ownBlock≠O b) λd=>?_);refine wK4 0 d ?_;refine wX4 5 d ?_;refine wT 9 (I J (m:Int)) d (λx hx=>?_) ?_
   .obtain⟨e1,e2⟩:=dR.o;go_simp
   refine wT 10 (Z (O (aD ob 0)) m oc) d (λx hx=>?_) ?_
   .have fD:¬oc<m:=by omega
    go_simp
   refine wJ 4 11 (λK p=>?_) λK p=>?_;go_simp;refine p.o _ _ d λd=>?_;refine wR 11 λK p=>?_
   all_goals
    go_simp;refine XX (bX.o _ ((Qm _ _).drew)) ?_;rintro e y2 ⟨gn,cn,rfl,ai,bN,eG,eH⟩;obtain⟨fH,fI,pa,pm,pc,y4,bM,eO,eP,aM,aA,dB⟩:=bY.o y2 gn cn (az ((Qm _ _).drew) eH) ai bN eG;refine p.o _ _ aA λd=>?_
   refine wR 12 λK p=>?_;go_simp;refine p.o _ _ (aA.trans (QE _ _)) λd=>?_
   rotate_left
   refine wJ 4 12 (λK p=>?_) λK p=>?_;go_simp;refine p.o _ _ d λd=>?_;refine wR 12 λK p=>?_;go_simp;refine p.o _ _ (aA.trans (QE _ _)) λd=>?_
   rotate_left
   go_simp;refine p.o _ _ (aA.trans (QE _ _)) λd=>?_;refine wR 4 λK p=>?_;go_simp;refine p.o _ _ d λd=>?_
   all_goals
    refine wR 13 λK p=>?_;refine XJ (by rfl) _ _ _ (by rfl) (Z ga gm gc) (Z (O (aD (M (H y2)) 0)) 1 1) (Z pa pm pc) y4 (by rfl) (by rfl) bM ?_;refine p.o _ _ aM λd=>?_;refine wX2 14 d ?_;refine wR 16 λK p=>?_;go_simp;refine p.o _ _ (aM.trans (Q8 _ _ _ (λh=>h.1 rfl))) (λd=>?_);clear p K;refine wD (NoPanic.normal ?_);try simp only[pU]
    have HF:=Zh dB;clear hv dU bH bY bX dB eO eP aM aA d;go_wp2;go_roundw
    case rel=>exact⟨k+1,by omega,by go_num,HF.o⟩
    case measure=>simp[intOf];omega
  .have cZ:k=SN:=by omega
   have bT:UK wr (aD (M (H w)) 8)=O (I Vo (SN:Int)):=aY.cell 8;obtain⟨L,bn,bq,bO,aR,bP,bu,hA,bz⟩:=hB.search (cZ.trans PG.o) (by omega);obtain⟨HA,HL,HB⟩:=dQ hA (XK bn (XK bq (XK bO (XK aR (XK bP (XK bu bz)))))) hB;clear aY hA bn bq bO aR bP bu bz hB HJ cZ;go_wp2;have HV:Y3 (UK wr (aD D 0)=O (Y (O (aD j 0)))/\D<M (H wr)/\D≠j/\j<M (H wr)/\M (H w)<=j/\M (H W0)<=M (H wr)):=⟨HB.o.var.cell 0,HB.o.var.lt,HB.o.sbl.2.2,HB.o.blk.lt,by have:=HB.o.sbl.1;omega,HB.o.hz.below.size⟩;obtain⟨arr,aS⟩:∃a,a=f.cells ts q++swC q L:=⟨_,rfl⟩;have dV:=Zh aS;have aG:=(adx f ts q L L.av).1;have aQ:=HA.o.blk;rw[<-aS]at aG aQ;have Ig:=Zh ((QI.1 aG).1);have dW:Y3 (GB wr j 97 (arr.setIfInBounds 14 (Z xn 0 0))):=by rw[HL.o.1]at aG;show GB _ _ _ _;rw[show arr.setIfInBounds 14 (Z xn 0 0)=arr by grind];exact aQ
   have aH:=Zh HB.o.old;clear aG aQ aS bT;refine(wpIn_wide (n:=0)).1 (yO ng (gf:=60) (s:=I Vo (SN:Int)) rfl (XZ Tryz.func60 (by kernel_rfl) rfl) (dH.o w) aH.o rfl (λpre o1 W=>ahf q wr j (M (H W0)) arr pre o1 W) (λb=>b=j) ?_ ?_ ⟨⟨Z xn 0 0,[],dW.o,Zk _ _ _ _,(λt h=>by cases h),Qn _,(λh=>h),λb=>by simp[Value.ownBlock],λb e=>by cases e⟩,Qy _ _⟩ (λx=>{ tmps:=#[FL #[v0,v1,v2,v3,v4,v5,v6,v7,(I Vo (SN:Int)),v9,aa,af,ah],I J (room:Int),Y (O (aD (M (H w)) 0)),undef,Y xn,Y (O (aD D 0)),u6,u7,I J (x:Int),u9,u10,u11,u12,u13,Y (O (aD (M (H w)) 8)),I Vo (SN:Int),I J (SN:Int),I J (k:Int),Wl F,u19,u20,u21,u22,u23,u24,u25,u26,u27,u28,u29,u30,u31,u32,u33,u34,u35,u36,u37,u38,u39,u40,u41,u42,u43,u44,u45,u46,u47,u48,u49,u50,u51,u52,u53,Y (O (aD (M (H w)) 8)),I Vo (SN:Int),.func (.func 60) #[I Vo (SN:Int)] #[],I J (x:Int),undef,undef,undef,undef,undef,undef,undef,undef,undef,undef],defers:=[] }) ?assign ?body ?done)
   .rintro b rfl;exact⟨HV.o.2.2.2.2.1,HV.o.2.2.2.1⟩
   .intro pre o1 A B h hk;exact h.keep hk
   case assign=>
    intro l x W K p;have he:ng.enc x=I J (x:Int):=rfl;gi_wp2;exact p
   case body=>
    intro l pre x o1 W hI aV hx dF fq;have df:x<N q.src.xs:=by have h0:=AB (by simpa [ng] using aV);rw[bD.o]at h0;exact ZZ.1 h0
    have dX:N pre<=5:=by have h0:=aV.length_le;rw[bD.o,Zm,Zn,ZP]at h0;simp at h0;omega
    obtain⟨⟨av,ag,aB,ak,ht,bA,aU,F8,aC⟩,lJ⟩:=hI;have bH:D≠j/\av.ownBlock≠O D:=⟨HV.o.2.2.1,λe=>by have:=aC _ e;have:=HV.o.2.1;omega⟩;have hv:=Jk lJ HV.o.1 bH.1;have bI:∀y,y<N q.src.xs->T32 (2 ^ y,0):=λy hy=>by have:2 ^ y<2 ^ 5:=XO (by omega) (by omega);exact⟨by omega,by show 0<32;omega⟩
    have dY:Y3 (∀(y:U) (tb:Nat),Bw W y->M (H W)<=tb->UK y (aD tb 0)=O (I Vo ((2 ^ x:Nat):Int))->UK y (aD tb 1)=O (I Vo 0)->Calls V 61 #[Y (O (aD j 14)),Z (O (aD tb 0)) 1 1] y λe w'=>(∃v,e=FN v)/\Kept (λb=>b≠j/\av.ownBlock≠O b) W w'/\∃o2,ahf q wr j (M (H W0)) arr (pre++[x]) o2 w'/\Kept (λb=>¬o1 b) W w'/\∀b,o2 b->o1 b∨M (H W)<=b/\b<M (H w')):=λy tb hy fJ c0 c1=>by
     have dZ:=aB.keep (QB (s:=λb=>b<M (H W)) hy (λ_ h _=>h)) aB.lt;have aG:(arr.setIfInBounds 14 av)[14]? = O av:=by rw[Array.getElem?_setIfInBounds_self,Zt Ig.o]
     refine(aln j (M (H W0)) _ av ag [(2 ^ x,0)] (O (aD tb 0)) 1 y dZ aG (XU ak hy) (by have:=HV.o;have:=lJ.size;have:=hy.size;omega) ⟨by simp,λi hi=>⟨tb,0,rfl,by
      have ed:i=0:=by simpa using hi
      subst ed;exact⟨c0,c1⟩⟩⟩ (λa e=>by
      cases e;exact⟨λe=>by have e:tb=j:=e;have:=aB.lt;omega,λe=>by have h3:tb<M (H W):=(Zb ak e).2;omega⟩) (by simp;omega) (λa ha=>by obtain⟨h1,i,h2,h3⟩:=ht a ha;have:=bI i h2;rw[<-h3,<-h1]at this;exact this) (λa ha=>by rw[Zg]at ha;rw[ha];exact bI x df)).mono ?_
     rintro e w3 ⟨eQ,dC,eT,g3,o3,m3,l3,p3,k3,t3⟩;have bJ:=(QB (s:=λb=>b≠j/\av.ownBlock≠O b) hy (λ_ h _=>h)).trans k3;rw[Array.setIfInBounds_setIfInBounds]at g3;refine⟨eQ,bJ,λb=>b=j∨dC.ownBlock=O b,⟨⟨dC,eT,g3,o3,λt h=>(m3 t h).elim (ht t) λh=>?_,by simp at l3 ⊢;omega,λ_=>p3 (by simp),λb=>QJ,λb e=>?_⟩,lJ.trans' bJ (λb hl u=>⟨u,λe=>by have:=aC b e;omega⟩)⟩,bJ.mono λb _ u=>⟨λe=>u ((F8 b).2 (.inl e)),λe=>u ((F8 b).2 (.inr e))⟩,?_⟩
     .rw[Zg]at h;rw[h];exact⟨rfl,x,df,rfl⟩
     .rcases t3 with t3|⟨g,t3,hg⟩
      .exact aC b (t3 ▸ e)
      .have:=XY (t3.symm.trans e);have:=lJ.size;have:=hy.size;omega
     .rintro b (rfl|u)
      .exact .inl ((F8 _).2 (.inl rfl))
      .rcases t3 with t3|⟨g,t3,hg⟩
       .exact .inl ((F8 b).2 (.inr (t3 ▸ u)))
       .have h5:=(Zb o3 u).2;have:=XY (t3.symm.trans u);have:=hy.size;exact .inr ⟨by omega,h5⟩
    clear dF fq hx aV aB ak F8 aC lJ dX ht bA aU bI;gi_wp2_with fail;refine qR (S:=λx=>Kept (λb=>b≠j/\av.ownBlock≠O b) W x) (by kernel_rfl) (by kernel_rfl) (λ⟨_,_,h⟩=>h) ?_;have d:Kept (λb=>b≠j/\av.ownBlock≠O b) W W.drew:=QB ((Qm _ _).drew) (λ_ h _=>h);refine wK4 0 d ?_;refine wR 4 λK p=>?_;go_simp;refine p.o _ _ (d.trans (QE _ _)) (λd=>?_);clear p K;refine wR 5 λK p=>?_;go_simp;refine XX (yJ (M (H W)) x _ (by simp) (by omega)) ?_;rintro e y5 ⟨rfl,rfl⟩;refine p.o _ _ d λd=>?_;clear p K;refine wX1 6 d ?_;refine wR 7 λK p=>?_;go_simp;refine p.o _ _ (d.trans (QE _ _)) (λd=>?_);clear p K;refine wR 8 λK p=>?_;go_simp;refine XX (dY.o _ _ (aAz W _ _) (by simp) (by simp) (by simp)) ?_;rintro e w3 ⟨⟨v,rfl⟩,eX,o2,eZ,fe,fo⟩;refine p.o _ _ eX λd=>?_;clear p K;refine wD ?_;try simp only[Act.put,List.getElem_toArray,List.getElem_cons_succ,List.getElem_cons_zero,Qu,Qb,Qc]
    exact⟨o2,eZ,fe,λb u=>(fo b u).elim .inl (λh=>.inr (.inl h))⟩
   case done=>
    rintro ys o1 W dD hI aA dE hD;have dh:ys=aT SN:=by simpa [ng] using dD
    rw[bD.o]at dh;subst dh;obtain⟨⟨av,ag,aB,ak,ht,bA,aU,F8,aC⟩,lJ⟩:=hI;rw[ZP]at bA aU;have hv:=Jk lJ HV.o.1 HV.o.2.2.1;have dm:¬o1 (M (H wr)):=λh=>by
     rcases dE _ h with h|h
     .have:=HV.o.2.2.2.1;omega
     .omega
    have bg:=QC (s:=λb=>o1 b∨b<M (H wr)) W (r:=M (H wr)) (.deferred xn) (by
     rintro (h|h)
     .exact dm h
     .omega)
    have HD:=Zh hD;have lu:Y3 (∃L,qw W0 f ts q j L (W.putObj (M (H wr)) (.deferred xn))/\L.ch=pb/\L.pk=[]/\0<N L.ag/\N L.ag<=5/\(∀b,Mu q j L b->M (H w)<=b)/\Bw w (W.putObj (M (H wr)) (.deferred xn))):=by
     have dn:=aB.keep bg (.inl ((F8 _).2 (.inl rfl)));have bK:=Za ak bg (λg hg=>.inl ((F8 g).2 (.inr hg)));have dw:=lJ.trans' bg (λb hl _=>.inr hl);obtain⟨bn,bq,bO,aR,bP,bu,bz⟩:=HL.o;obtain⟨k1,k2,k3⟩:=HA.o.next (dw.mono λb _ u=>u.1) (av:=av) (pv:=L.pv) (ag:=ag) (pk:=L.pk) (st:=L.st) (by
      have:=(adx f ts q L av).2;rw[dV.o,this]at dn;exact dn) bK (by
      cases h:av.ownBlock with
      |none=>exact .inl (by rw[bn];rfl)
      |some g=>exact .inr ⟨g,rfl,aC g h⟩) (λt h=>.inl (ht t h)) (by rw[bq,aR];exact Zk _ _ _ _) (.inl rfl)
     refine⟨_,k1,bu,aR,aU (by omega),by show N ag<=5;omega,λb u=>(k3 b u).elim (bz b) λh=>by have:=aH.o.size;omega,aH.o.trans (dw.below aH.o.size λb u=>by have:=HV.o.2.2.2.2.1;omega)⟩
    clear aB ak F8 aC lJ bg dm dE aA dD ht bA aU;go_wp2;obtain⟨L2,q1,q2,q3,q4,q5,q6,q7⟩:=lu.o;refine⟨by simp,.inl ⟨_,_,rfl,Q5 HD.o,?_⟩⟩;exact⟨_,results_tmp rfl _ _ _,j,L2,rfl,q1,q2,q3,q4,q5,q6,q7⟩
end
def EY(kc sc:List Int)(rows:List (List Int)):N (dW kc sc rows)<=1+N rows:=by
 have h:=Co kc sc (rows.map λr=>(⟨xn,0,r⟩:ae)) (cO kc sc);rw[List.foldl_map,Zm]at h;have a:N (cO kc sc)<=1:=by unfold cO;split <;> simp
 have b:N (rows.foldl (stepG kc sc) (cO kc sc))<=N (cO kc sc)+N rows:=h;unfold dW;omega
def Iw(h:zC ts db=T)(t:Int):∀r∈fu db t,∀v∈r,bW v:=by
 intro r g v j;unfold fu at g;obtain⟨x,d,rfl⟩:=ZC.1 g;by_cases i:t.toNat<N db
 .unfold zC at h;rw[Qk]at h;have a:=h t.toNat (ZZ.2 i);unfold P8 Vi at a;rw[Qj,Qk]at a;have b:=a.2 x d;unfold P7 at b;rw[Qj,Qk]at b;have f:=b.2 v j;unfold Vh at f;simp only[Z5,Qj,ZW]at f;unfold bW;omega
 .have e:E db t.toNat rz=rz:=by simp[List.getD,XI (Nat.le_of_not_lt i)]
  rw[e]at d;simp[rz]at d
def Td{L R:List (List Int)}(hL:∀r∈L,∀v∈r,bW v)(hR:∀r∈R,∀v∈r,bW v):∀r∈dz L R,∀v∈r,bW v:=by
 intro r a v e;unfold dz at a;obtain⟨x,b,a⟩:=Z6.1 a;obtain⟨y,d,rfl⟩:=ZC.1 a;rcases Zi.1 e with h|h
 .exact hL x b v h
 .exact hR y d v h
def EZ:∀(ts:List (List (List Int))) (t:List (List Int)),(∀r∈t,∀v∈r,bW v)->(∀u∈ts,∀r∈u,∀v∈r,bW v)->∀r∈ts.foldl dz t,∀v∈r,bW v
 |[],_,h,_=>h
 |u::ts,t,h,hs=>EZ ts (dz t u) (Td h (hs u (by simp))) (λx hx=>hs x (by simp[hx]))
def Oy(h:zC ts db=T)(src:List Int):∀r∈bz src db,∀v∈r,bW v:=by
 unfold bz
 cases src with
 |nil=>intro r b;simp[qN]at b
 |cons a l =>
  rw[Xg];refine EZ _ _ (Iw h a) (λu d=>?_);obtain⟨c,_,rfl⟩:=ZC.1 d;exact Iw h c
def Fs:∀(os:List Obj) (w:U) (i:Nat) (hi:i<N os),(os.foldl World.alloc w).heap[M (H w)+i]? = O os[i]
 |[],_,i,hi=>by simp at hi
 |o::os,w,0,_=>by
  rw[ZF];have hb:∀(os:List Obj) (v:U),Bw v (os.foldl World.alloc v):=by
   intro os
   induction os with
   |nil=>intro v;exact Qm _ _
   |cons o os ih=>intro v;rw[ZF];exact(dN v o).trans ((ih _).mono (dN v o).size)
  exact((hb os (w.alloc o)).block (M (H w)) (by simp)).trans (pR w o)
 |o::os,w,i+1,hi=>by rw[ZF];have h:=Fs os (w.alloc o) i (by simpa using hi);rw[Zo]at h;rw[show M (H w)+(i+1)=M (H w)+1+i by omega,h];rfl
def Dn:∀(os:List Obj) (v:U),Bw v (os.foldl World.alloc v):=by
 intro os
 induction os with
 |nil=>intro v;exact Qm _ _
 |cons o os ih=>intro v;rw[ZF];exact(dN v o).trans ((ih _).mono (dN v o).size)
def Be(n:Nat):af:=(⟨⟨O (aD (n+1) 0),1,[0]⟩,xn,0,[],T,⟨xn,0,[]⟩,⟨O (aD (n+1+1) 0),1,[0]⟩,⟨xn,0,[]⟩,⟨xn,0,[]⟩⟩:af)
def Gn(n:Nat):List aP:=[(⟨O (aD (n+1+1+1+1+1+1+1+1) 0),4,[⟨O (aD (n+1+1+1+1) 0),1,[4]⟩,⟨O (aD (n+1+1+1+1+1) 0),1,[3]⟩,⟨O (aD (n+1+1+1+1+1+1) 0),1,[3]⟩,⟨O (aD (n+1+1+1+1+1+1+1) 0),1,[1073741824]⟩]⟩:aP)]
def Dp:List ah:=[⟨1,10,10,0,0,0⟩]
def UI(n:Nat):(Be n).check Dp=0:=rfl
def YV(n:Nat):sQ Dp (Be n).src.xs (Gn n)=true:=rfl
def yZ{W:U}{x:Int}(h:W.heap[b]? = O (EP #[I J x] t))(hl:b<M (H W)):aj.At ⟨O (aD b 0),1,[x]⟩ W:=by
 refine⟨⟨by simp,λi d=>⟨b,0,rfl,?_⟩⟩,λa f=>by cases f;exact hl,λe=>by cases e⟩
 match i,d with
 |0,_=>exact XG h rfl
def mi(n:Nat):List Obj:=[(EP #[I J 1,I J 10,I J 10,I J 0,I J 0,I J 0] 49),(EP #[I J 0] 3),(EP #[I J 0] 3),(EP #[Z (O (aD (n+1) 0)) 1 1,Z xn 0 0,Wl T,Z xn 0 0,Z (O (aD (n+1+1) 0)) 1 1,Z xn 0 0,Z xn 0 0] 26),(EP #[I J 4] 3),(EP #[I J 3] 3),(EP #[I J 3] 3),(EP #[I J 1073741824] 3),(EP #[Z (O (aD (n+1+1+1+1) 0)) 1 1,Z (O (aD (n+1+1+1+1+1) 0)) 1 1,Z (O (aD (n+1+1+1+1+1+1) 0)) 1 1,Z (O (aD (n+1+1+1+1+1+1+1) 0)) 1 1] 22),(EP #[Z (O (aD (n+1+1+1+1+1+1+1+1) 0)) 4 4] 52)]
def ahz(w:U):bu ((mi (M (H w))).foldl World.alloc w) (O (aD (M (H w)) 0)) Dp/\(Be (M (H w))).At ((mi (M (H w))).foldl World.alloc w)/\uG ((mi (M (H w))).foldl World.alloc w) (O (aD (M (H w)+1+1+1+1+1+1+1+1+1) 0)) (Gn (M (H w))):=by
 have e:=Fs (mi (M (H w))) w;have v:=(Dn (mi (M (H w))) w).size;have f:=e 0 (by simp[mi]);have k:=e 1 (by simp[mi]);have l:=e 2 (by simp[mi]);have m:=e 4 (by simp[mi]);have n:=e 5 (by simp[mi]);have p:=e 6 (by simp[mi]);have q:=e 7 (by simp[mi]);have g:=e 8 (by simp[mi]);have r:=e 9 (by simp[mi]);generalize (mi (M (H w))).foldl World.alloc w=Vq at*;have lt:∀{i:Nat} {o:Obj},Vq.heap[M (H w)+i]? = O o->M (H w)+i<M (H Vq):=λh=>(QI.1 h).1;have t:=yZ k (lt k);have k2:=yZ l (lt l);have k4:=yZ m (lt m);have k5:=yZ n (lt n);have k6:=yZ p (lt p);have k7:=yZ q (lt q);have j:bD Vq (O (aD (M (H w)+8) 0)) [⟨O (aD (M (H w)+4) 0),1,[4]⟩,⟨O (aD (M (H w)+5) 0),1,[3]⟩,⟨O (aD (M (H w)+6) 0),1,[3]⟩,⟨O (aD (M (H w)+7) 0),1,[1073741824]⟩]:=by
  refine⟨⟨by simp,λi b=>⟨M (H w)+8,0,rfl,?_⟩,λi b=>?_⟩,λa u=>by cases u;exact lt g,λi b=>?_⟩
  .match i,b with
   |0,_=>exact XG g rfl
   |1,_=>exact XG g rfl
   |2,_=>exact XG g rfl
   |3,_=>exact XG g rfl
  .match i,b with
   |0,_=>exact k4.1
   |1,_=>exact k5.1
   |2,_=>exact k6.1
   |3,_=>exact k7.1
  .match i,b with
   |0,_=>exact k4
   |1,_=>exact k5
   |2,_=>exact k6
   |3,_=>exact k7
 have d:∀W:U,IntsAt W xn []:=λW=>⟨by simp,λi b=>by simp at b⟩;refine⟨⟨by simp[Dp],λi b=>⟨M (H w),0,rfl,?_⟩⟩,⟨t.1,⟨by simp[Be],λi b=>by simp[Be]at b,λi b=>by simp[Be]at b⟩,d Vq,k2.1,d Vq,d Vq⟩,⟨⟨by simp[Gn],λi b=>⟨M (H w)+9,0,rfl,?_⟩,λi b=>?_⟩,λi b=>?_⟩⟩
 .match i,b with
  |0,_=>exact⟨XG f rfl,XG f rfl,XG f rfl,XG f rfl,XG f rfl,XG f rfl⟩
 .match i,b with
  |0,_=>exact XG r rfl
 .match i,b with
  |0,_=>exact j.1
 .match i,b with
  |0,_=>exact j
structure Dj(ts:List ah)(q:af)(w:U)(pb sb:Nat)(w':U):Prop where
 ex:∃W0 f p L,Env f ts p W0/\jM q p/\qw W0 f ts p sb L w'/\(L.st=1->0<N L.ag)/\L.pk=[]/\N L.ag<=5/\∀b,Mu p sb L b->M (H w)<=b/\b≠pb
 cell:UK w' (aD pb 9)=O (Y (O (aD sb 0)))
 pb:M (H w)<=pb
 below:Bw w w'
def Dj.elder{q:af}{x:U}{pb:Nat}{w':U}(h:Dj ts q x pb sb w')(hb:Bw w x):Dj ts q w pb sb w':=by obtain⟨e,f,p,L,g,i,j,k,l,m,d⟩:=h.ex;exact⟨⟨e,f,p,L,g,i,j,k,l,m,λb a=>⟨Qz hb.size (d b a).1,(d b a).2⟩⟩,h.cell,Qz hb.size h.pb,hb.trans (h.below.mono hb.size)⟩
def akm(ao:Option Addr)(cap:Nat)(ts:List ah)(q:af)(room:Nat)(w:U)(hx:bu w ao ts)(hn:ao=xn->cap=0)(hq:q.At w)(hkc:N q.keys.xs<=q.keys.cap)(hoc:N q.ord.xs<=q.ord.cap)(ht:agC q)(hs:bR w 0)(ko:q.check ts=0)(h1:1<=room)(h2:room<=1000)(hw0:0<M (H w)) :
  Calls V 16 #[Z ao (N ts) cap,FL q.cells,I J (room:Int)] w λe t=>∃i sb,e=FN (.tuple #[Y (O (aD i 0)),I J 0])/\Dj ts q w i sb t:=by
 have ai:=adq (xN ko).1.cat;obtain⟨v0,v1,v2,v3,v4,v5,v6,KO⟩:∃v0 v1 v2 v3 v4 v5 v6,q.cells=#[v0,v1,v2,v3,v4,v5,v6]:=⟨_,_,_,_,_,_,_,rfl⟩;obtain⟨w1,aZ,D,aN⟩:=aL w #[v0,v1,v2,v3,v4,v5,v6] 26;have aj:=WE ao cap ts q w1 (hx.below D) (hq.below D) hkc hoc ko;have aV:Y3 (∀x,Bw w x->Calls V 32 #[Z ao (N ts) cap] x λe t=>∃P cc,e=FN (Z P (N ts) cc)/\bu t P ts/\(∀a,P=O a->M (H x)<=a.block)/\Bw x t):=λx r=>by refine(FQ ao cap ts x (hx.below r) hn ai).mono ?_;rintro e t ⟨v,rfl,ho,bf⟩;obtain⟨ad,cp,rfl,G⟩:=Yf ho ai;exact⟨ad,cp,rfl,G,λa ea=>(Zb ho (g:=a.block) (by rw[ea];rfl)).1,bf⟩
 have ay:Y3 (∀x,Bw w x->Calls V 33 #[FL q.cells] x λe t=>∃p:af,e=FN (FL p.cells)/\p.At t/\jM q p/\p.New (M (H x))/\ajU p/\N p.keys.xs<=p.keys.cap/\Bw x t):=λx r=>Yj q x (hq.below r) ht;rw[KO]at aj ay ⊢;obtain⟨bg,F3,HN⟩:=dQ hs ko hw0;have HR:Y3 (1<=room/\room<=1000):=⟨h1,h2⟩;have aW:=Zh D;have r1:¬((room:Int)<1):=by omega
 have r2:¬((room:Int) > 1000):=by omega
 have r3:¬((1000:Int)<(room:Int)):=by omega
 obtain⟨a0,a1,a2,a3,a4,a5,a6⟩:=aN.k7;clear hx hn hq hkc hoc ht hs ko h1 h2 hw0 ai KO D aN;go_enter Tryz.func16,Tryz.ntmps16;go_wp2_with fail;refine aj.mono ?_;rintro e w2 ⟨rfl,j⟩;clear aj aZ;obtain⟨d0,d1,d2,d3,d4⟩:=qA j a0 a1 a2 a3 a4;obtain⟨d5,d6⟩:=nH j a5 a6;have A:=Zh (az aW.o j);clear j a0 a1 a2 a3 a4 a5 a6;go_wp2_with fail;have ak:Bw w2 w2.drew:=(Qm _ _).drew;refine wH w2 λd=>?_;refine sN 0 d ?_;refine sN 2 d ?_;refine sN 4 d ?_;refine wR 1 λK k=>?_;go_simp;refine XX (aV.o _ (az A.o ak)) ?_;rintro e s1 ⟨P,cc,rfl,G,bn,r⟩;clear bn;have OT:=az ak r;have aA:=Zh G;clear G;refine k.o _ _ (az d r) (λd=>?_);clear k K;refine wR 3 λK k=>?_;go_simp;refine XX (ay.o _ (az A.o OT)) ?_;rintro e s2 ⟨p,rfl,Lv,aO,ag,aP,hkc,j⟩;have Yk:=az OT j;have aX:=Zh (aA.o.below j);have B:Y3 (p.At s2/\jM q p/\p.New (M (H s1))/\ajU p/\N p.keys.xs<=p.keys.cap):=⟨Lv,aO,ag,aP,hkc⟩;clear Lv aO ag aP hkc aA;obtain⟨p0,p1,p2,p3,p4,p5,p6,aQ⟩:∃p0 p1 p2 p3 p4 p5 p6,p.cells=#[p0,p1,p2,p3,p4,p5,p6]:=⟨_,_,_,_,_,_,_,rfl⟩;rw[aQ];refine k.o _ _ (az d j) (λd=>?_);clear k K;refine sN 5 d ?_;refine wR 6 λK k=>?_;go_simp;refine oA k d λd=>?_;clear k K;refine sN 7 d ?_;refine wD ?_;try simp only[pV]
 obtain⟨w3,bq,aR,y⟩:=aL s2 #[Z P (N ts) cc,p0,p1,p2,p3,p4,p5,p6,I J (room:Int),Y xn] 61;obtain⟨aS,Dt,JM,FU⟩:=om aR (az A.o Yk) ((az A.o OT).size) y.lt;have aB:Y3 (∀x,Bw s2 x->Calls V 35 #[Z P (N ts) cc,FL p.cells] x λe t=>∃f:aF,e=FN (FL (f.cells ts p))/\f.At ts p t/\f.New (M (H x))/\Bw x t):=λx r=>Fa P cc ts p x (aX.o.below r) (B.o.1.below r) (xN (ts:=ts) (q:=p) (by rw[B.o.2.1.check ts];exact F3.o)).1.ok;rw[aQ]at aB;obtain⟨i,l⟩:∃n,n=M (H s2):=⟨_,rfl⟩;clear d OT Yk ak r j aR d0 d1 d2 d3 d4 d5 d6;go_upto_region 7 with fail;rw[bq];rw[<-l];rw[<-l]at y FU;have aC:=Zh l;clear l;have au:Bw w3 w3.drew:=(Qm _ _).drew;refine Qv (S:=PlK w3 i 61 [Z P (N ts) cc,p0,p1,p2,p3,p4,p5,p6,I J (room:Int)]) (by kernel_rfl) ⟨QB au (λ_ h _=>h),Y xn,y⟩ (λd=>?_);refine wt 0 (Y (O (aD i 0))) d ?_;refine wt 1 (Y (O (aD i 0))) d ?_;refine wt 2 (Y (O (aD i 0))) d ?_;refine wt 3 (Y (O (aD i 0))) d ?_;refine wT 4 (Z P (N ts) cc) d (λx hx=>?_) ?_
 .obtain⟨_,u,Q⟩:=hx;have e0:=Q.at 0;go_simp
 refine wt 5 (Y (O (aD i 0))) d ?_;refine wt 6 (Y (O (aD i 0))) d ?_;refine wt 7 (Y (O (aD i 1))) d ?_;refine wT 8 (FL #[p0,p1,p2,p3,p4,p5,p6]) d (λx hx=>?_) ?_
 .obtain⟨_,u,Q⟩:=hx;have e0:=Q.at 1;have e1:=Q.at 2;have e2:=Q.at 3;have e3:=Q.at 4;have e4:=Q.at 5;have e5:=Q.at 6;have e6:=Q.at 7;go_simp
 refine wt 10 (I J (room:Int)) d ?_;refine wR 9 λK k=>?_;go_simp;refine XX (aB.o _ (az aS.o au)) ?_;rintro e w4 ⟨f,rfl,hf,aT,aU⟩;have av:=az au aU;have ax:=az aS.o av;have aG:=QA FU.o av.size;have aY:=Dt.o.size;have l:=aC.o;have aH:=anG (by rw[B.o.2.1.check ts];exact F3.o) hf (Ja (az Dt.o ax) bg.o) B.o.2.2.2.2 B.o.2.2.2.1.keys;obtain⟨W0,UT⟩:=ac6 (λb=>b=i) w4;have hE:=Env.kill UT aH (W':=s2) (n:=M (H s1)) (m:=M (H w3.drew)) (λh=>by
  have g1:=HN.o;omega) (λb h=>by
  show b<M (H w3);have g1:=FU.o;omega) aT (λb h=>.inr (by omega)) ax B.o.1 B.o.2.2.1
 have hz:Fz (λb=>O i≠O b) W0 w4:=by have:=Fz.kill UT (Qm _ _) (λb h=>by omega);exact⟨this.below,λb h e=>this.low b h (XY e).symm,λb h e=>this.high b h (XY e).symm⟩
 have Bh:=akk hE (alj (by rw[B.o.2.1.check ts];exact F3.o)) hz room HR.o.1 HR.o.2;have HE:=Zh hE;have oJ:Y3 (Bw s2 w4/\i<M (H w4)):=⟨ax,aG⟩;have aI:=y.keep (QB (s:=λb=>b<M (H w3)) av (λ_ h _=>h)) FU.o;clear aH hE hz hf aT l aY aG UT;refine k.o _ _ (d.below aU) (λd=>?_);clear k K;refine wR 11 λK k=>?_;go_simp;refine XX (Bh) ?_;rintro e w5 ⟨sb,L,rfl,R,W,X,aa,ae,Gf,z⟩;have aJ:=Zh (XK R (XK Gf (XK z (XK W (XK X (XK aa ae))))));have C:=aI.keep (QB (s:=λb=>b<M (H w4)) z (λ_ h _=>h)) oJ.o.2;clear R Gf Bh W X aa ae;refine k.o _ _ (d.below z) (λd=>?_);clear k K;refine wt 12 (Y (O (aD i 0))) d ?_;refine wt 13 (Y (O (aD i 9))) d ?_;have c9:=C.at 9;have f9:=C.frozen 9;refine wR 14 λK k=>?_;go_simp;refine k.o _ _ (d.set _) (λd=>?_);clear k K;refine wD ?_;try simp only[pV]
 obtain⟨w6,vY⟩:∃x,UC w5 (aD i 9) (Y (O (aD sb 0)))=x:=⟨_,rfl⟩;have rY:Y3 (Dj ts q w i sb w6):=by
  obtain⟨R,Gf,z,W,X,aa,ae⟩:=aJ.o;have hk:Kept (λb=>b≠i) w5 w6:=by rw[<-vY];exact Q8 _ _ _ (λh=>h rfl)
  have aK:=C.set 9 (Y (O (aD sb 0)));rw[vY]at aK;have hl:=oJ.o.2;have l:=aC.o;have bz:=Dt.o.size;have aM:¬Mu p sb L i:=λh=>by have:=Gf i h;omega
  refine⟨⟨W0,f,p,L,HE.o,B.o.2.1,R.other W aM hk,λ_=>aa,X,ae,λb r=>⟨?_,λe=>aM (e ▸ r)⟩⟩,aK.cell 9,?_,?_⟩
  .have:=Gf b r;omega
  .omega
  .have h5:=az (az Dt.o oJ.o.1) z;exact h5.trans (hk.below h5.size (λb r e=>by omega))
 clear d y aI C c9 f9 aJ HE oJ HN;go_upto_region 8 with fail;rw[vY];go_wp2;go_ret2;exact⟨_,_,rfl,rY.o⟩
def Ox(vi:X3)(k s:ae)(rows:List (List Int))(w:U)(hi:dh aj V vi rows w)(hk:k.At w)(hs:s.At w)(hkl:N k.xs<=4)(hsl:N s.xs<=4)(hlen:N rows<=1000000)(Cr:∀r∈rows,aS k.xs (N r)=T)(Cs:∀r∈rows,aS s.xs (N r)=T)(hsm:∀r∈rows,∀v∈r,bW v) :
  Calls V 116 #[vi,k.val,s.val] w λe t=>∃v,e=FN v/\qi V 3 v ((lW k.xs s.xs rows).map Gr.row) t/\Bw w t:=by
 obtain⟨a,b,rfl,z,j⟩:=hi;have g:=dN w (EP #[.func (.func a) #[] b] 79);have d:=dN (w.alloc (EP #[.func (.func a) #[] b] 79)) (EP #[k.val] 22);have f:=dN ((w.alloc (EP #[.func (.func a) #[] b] 79)).alloc (EP #[k.val] 22)) (EP #[s.val] 22);have l:=g.trans (d.mono g.size);have i:=l.trans (f.mono l.size);have m:UK (((w.alloc (EP #[.func (.func a) #[] b] 79)).alloc (EP #[k.val] 22)).alloc (EP #[s.val] 22)) (aD (M (H w)) 0)=O (.func (.func a) #[] b):=cB (d.trans (f.mono d.size)) (XG (pR w (EP #[.func (.func a) #[] b] 79)) rfl);have n:UK (((w.alloc (EP #[.func (.func a) #[] b] 79)).alloc (EP #[k.val] 22)).alloc (EP #[s.val] 22)) (aD (M (H w)+1) 0)=O k.val:=by have h:=pR (w.alloc (EP #[.func (.func a) #[] b] 79)) (EP #[k.val] 22);rw[Zo]at h;exact cB f (XG h rfl)
 have p:UK (((w.alloc (EP #[.func (.func a) #[] b] 79)).alloc (EP #[k.val] 22)).alloc (EP #[s.val] 22)) (aD (M (H w)+1+1) 0)=O s.val:=by have h:=pR ((w.alloc (EP #[.func (.func a) #[] b] 79)).alloc (EP #[k.val] 22)) (EP #[s.val] 22);rw[Zo,Zo]at h;exact XG h rfl
 have q:qi V 3 (.func (.func 174) #[] #[Y (O (aD (M (H w)+1) 0)),Y (O (aD (M (H w)+1+1) 0)),Y (O (aD (M (H w)) 0))]) ((lW k.xs s.xs rows).map Gr.row) (((w.alloc (EP #[.func (.func a) #[] b] 79)).alloc (EP #[k.val] 22)).alloc (EP #[s.val] 22)):=
  ⟨_,_,rfl,XZ Tryz.func174 (by kernel_rfl) rfl,Ta _ (M (H w)) (M (H w)+1) (M (H w)+1+1) a b k s rows (((w.alloc (EP #[.func (.func a) #[] b] 79)).alloc (EP #[k.val] 22)).alloc (EP #[s.val] 22)) (by simp;omega) (by simp) (by simp) m n p (Qo i hk) (Qo i hs) hkl hsl (Seq.later _ j i) z hlen Cr Cs hsm (Qn _)⟩
 obtain⟨A,B,C⟩:=k;obtain⟨D,G,K⟩:=s;unfold ae.val at*;simp only at*;have u:Y3 _:=q;have y:Y3 _:=i;clear q i g d f l m n p j hk hs hkl hsl hlen Cr Cs hsm;go_enter Tryz.func116,Tryz.ntmps116;go_wp2;go_ret;exact⟨_,rfl,u.o,y.o⟩
def WG{a:List Gr}{row:List Int}(h:∀g∈a,N g.key=N kc/\N g.ss=N sc):∀g∈stepG kc sc a row,N g.key=N kc/\N g.ss=N sc:=by
 intro g b;unfold stepG at b;split at b
 .obtain⟨j,e,rfl⟩:=Qq b;rw[XH]at e;rw[Xz];have d:=h _ (Zv e);split
  .exact⟨d.1,by show N (gH a[j].ss row sc)=_;rw[kH];exact d.2⟩
  .exact d
 .rcases Zi.1 b with b|b
  .exact h g b
  .rw[Zg]at b;subst b;exact⟨by simp[mr,mD,au],by simp[mr,mD,kH]⟩
def IA{kc sc:List Int}:∀(rows:List (List Int)) (a:List Gr),(∀g∈a,N g.key=N kc/\N g.ss=N sc)->∀g∈rows.foldl (stepG kc sc) a,N g.key=N kc/\N g.ss=N sc
 |[],a,h=>by simpa using h
 |r::l,a,h=>by rw[ZF];exact IA l _ (WG h)
def CF{rows:List (List Int)}:∀g∈dW kc sc rows,N g.row=N kc+1+N sc:=by
 intro g a;unfold dW at a;have:=IA rows (cO kc sc) (λg a=>by
  unfold cO at a;split at a
  .rename_i hk
   rw[Zg]at a;subst a;exact⟨by rw[hk];rfl,by simp[mD]⟩
  .simp at a) g a
 unfold Gr.row;rw[Zn,Zn,this.1,this.2];rfl
def CG(q:af)(rows:List (List Int)):∀r∈lN q rows,(N r:Int)=tN q.group q.keys.xs q.sums.xs q.bE.xs:=by
 intro r b;unfold lN at b;unfold tN;split at b
 .rename_i a
  rw[Zt a];obtain⟨g,a,rfl⟩:=ZC.1 b;rw[CF g a];omega
 .rename_i a
  rw[ZU a];obtain⟨x,_,rfl⟩:=ZC.1 b;simp[au]
def E8(q:af)(rows:List (List Int)):N (lN q rows)<=1+N rows:=by
 unfold lN;split
 .rw[Zm];exact EY _ _ _
 .rw[Zm];omega
def Ml(co d:Option Addr)(cc sJ:Nat)(ts:List ah)(q:af)(db:List aP)(w:U)(hts:bu w co ts)(hq:q.At w)(hkc:N q.keys.xs<=q.keys.cap)(hoc:N q.ord.xs<=q.ord.cap)(hsc:N q.src.xs<=q.src.cap)(mX:uG w d db)
  (ko:q.check ts=0) (hdat:sQ ts q.src.xs db=T) :
  Calls V 15 #[Z co (N ts) cc,FL q.cells,Z d (N db) sJ] w λe w'=>∃(v:X3) (ys:List ae) (o:Nat->Prop) (G:U),e=FN (.tuple #[v,I J 0])/\ys.map ae.xs=pK q db/\
   fe (kg 3 (M (H G))) (M (H G)) G 22 ys o w' v/\Bw w G:=by
 obtain⟨p1,p2,p3,p4,p5,D⟩:=iM ko;have K:=su p2;have b:(N db=N ts/\zC ts db=T)/\gL q.src.xs db<=20000:=by unfold sQ at hdat;simp only[Qj,ZW]at hdat;exact hdat
 have l:=WB (src:=q.src.xs) b.1.2;have ax:=Cz q.src.xs db;have a:aS q.bE.xs (ak ts q.src.xs)=T/\aS q.keys.xs (ak ts q.src.xs)=T/\aS q.sums.xs (ak ts q.src.xs)=T/\aS q.ord.xs (tN q.group q.keys.xs q.sums.xs q.bE.xs)=true:=by unfold rF at D;simp only[Qj]at D;exact⟨D.1.1.1.1.1.1.1,D.1.1.1.1.1.1.2,D.1.1.1.1.1.2,D.1.1.1.1.2⟩
 have g:∀r∈bz q.src.xs db,∀v∈r,bW v:=Oy b.1.2 q.src.xs;have y:∀t,∀r∈fu db t,N r<=100:=λt r f=>by obtain⟨h1,h2⟩:=Iu b.1.2 t r f;have:=(nE p1 (i:=t.toNat) (by omega)).2;omega
 have z:∀t,N (fu db t)<=1000000:=λt=>by rw[Ih];have:=NB b.1.2 t.toNat;omega
 have ay:N ((bz q.src.xs db).filter (dR q.wh))<=20000:=by have:=XN (dR q.wh) (bz q.src.xs db);have:=b.2;omega
 have A:N (lN q ((bz q.src.xs db).filter (dR q.wh)))<=1000000:=by have:=E8 q ((bz q.src.xs db).filter (dR q.wh));omega
 have m:∀r∈(bz q.src.xs db).filter (dR q.wh),r∈bz q.src.xs db:=λr f=>(ZY.1 f).1;obtain⟨w0,X,u,aa⟩:=aL w q.cells 26;obtain⟨c0,c1,c2,c3,c4,c5,c6⟩:=aa.k7;have B:=WE co cc ts q w0 (hts.below u) (hq.below u) hkc hoc ko;have n:=λ(x:U) (j:Bw w x)=>Iz co cc ts q d sJ db x (hts.below j) (Qo j hq.src) (mX.1.below j) p3 K.1 hdat;have L:=λ(x:U) (j:Bw w x)=>SV q d sJ db (lN q ((bz q.src.xs db).filter (dR q.wh))) x (hq.below j) (mX.below j) p4 K.1 hsc (by rw[b.1.1];exact p3) y z (λr f i hi k hk=>by rw[l r f];exact CE p5 hi hk)
  (λvf W hW hv=>by
   unfold lN;by_cases hg:q.group=T
   .rw[Zt hg];exact Ov vf q _ W hg hv (Qo (j.trans (hW.mono j.size)) hq.keys) (Qo (j.trans (hW.mono j.size)) hq.sums) K.2.2.2.1 K.2.2.2.2.1 (by omega) (λr f=>by rw[l r (m r f)];exact a.2.1) (λr f=>by rw[l r (m r f)];exact a.2.2.1) (λr f=>g r (m r f))
   .rw[ZU hg];exact Ou vf q _ W (by simpa using hg) hv (Qo (j.trans (hW.mono j.size)) hq.bE) (by have:=K.2.2.1;omega) (λr f=>by rw[l r (m r f)];exact a.1))
  A (λr f=>by rw[CG q _ r f];exact a.2.2.2)
 have az:Y3 (N (pK q db)<=1000000):=by show N (pK q db)<=1000000;unfold pK;rw[DK];exact A
 have P:Y3 (∀x,Bw w x->Calls V 31 #[FL q.cells,Z d (N db) sJ] x λe w'=>∃v,e=FN v/\qi V 3 v (pK q db) w'/\Bw x w'):=L;have Q:Y3 _:=n;have R:Y3 _:=u;simp only[af.cells,ae.val]at X B Q P c0 c3 c4 c5 c6 ⊢;clear n L A u aa hts hq hkc hoc hsc mX ko hdat p1 p2 p3 p4 p5 D K b l ax a g y z m ay;generalize pK q db=rows at*;go_enter Tryz.func15,Tryz.ntmps15;go_wp2_with fail;refine B.mono ?_;rintro e G ⟨rfl,ag⟩;have C:Bw w G:=R.o.trans (ag.mono R.o.size);obtain⟨d0,d1,d2,d3,d4,d5,d6⟩:=tO ag c0 c1 c2 c3 c4 c5 c6;have n:=Q.o G C;clear B X c0 c1 c2 c3 c4 c5 c6;go_wp2_with fail;refine XX n ?_;rintro e w2 ⟨rfl,ai⟩;have p:Bw w w2:=C.trans (ai.mono C.size);have e:=tO ai d0 d1 d2 d3 d4 d5 d6;have L:=P.o w2 p;clear n d0 d1 d2 d3 d4 d5 d6;go_wp2_with fail;refine XX L ?_;rintro e w3 ⟨v,rfl,aA,aB⟩;have Ow:Bw w w3:=p.trans (aB.mono p.size);obtain⟨g3,aC,rfl,aj,au⟩:=aA;have S:=rH (kg 3 (M (H w3))) (λ_=>rfl) g3 aC rows w3 w3 (Qm _ _) az.o au aj;clear L e au aj;go_wp2_with fail;refine S.mono ?_;rintro e w4 ⟨v4,ys,o4,rfl,aD,av⟩;obtain⟨va,vn,vc,rfl⟩:=Zc av.own;clear S;go_wp2;go_ret2;exact⟨_,ys,o4,w3,rfl,aD,av,Ow⟩
