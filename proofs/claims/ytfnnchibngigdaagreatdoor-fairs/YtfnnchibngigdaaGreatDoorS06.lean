import Derived.Test.YtfnnchibngigdaaGreatDoorS02
import Derived.Test.YtfnnchibngigdaaGreatDoorS04
set_option linter.all false
set_option maxRecDepth 100000
set_option maxHeartbeats 0
namespace Go.Proofs.Zz
open Go.RowKit Go.Shelf Go.Proofs.Tryz
open List renaming length->N,getD->E
open Go.Value renaming slice->Z,int->I,bool->Qo,agg->Qr
open Go.Proofs.Tryz renaming prog->V
open Option renaming some->O
open Go.IntKind renaming i64->J,u64->Qn
open Bool renaming true->T
open Go renaming World->U,Value->Qa
open Go.World renaming heap->H,cell?->Qm
open _root_.Array renaming size->M
open Go.RowKit renaming Hid->Qk
open Go.Obj renaming cells->Qq
variable {base i k n:Nat} {w:U} {e:TypeId} {v:Qa} {src xs ys:KJ} {ao:JW} {ts:Qu af} {cs:Qu aF} {p:Int->Bool}
def ag.cells(n:ag):Array Value:=#[I J n.kind,I J n.l,I J n.r,I J n.source,n.cl.val,I J n.key,n.co.val]
def dB{α:Type}{l:List α}{d:α}(hk:k<N l):E l k d∈l:=by simp_all
def JN{xs:Qu Qa}(h:w.ownsRow base e 1 v n xs) :
  (v=Z none 0 0/\xs=[])∨∃g a,v=Z (O (aD g 0)) n a/\base<=g/\g<M (H w)/\∀j u,xs[j]? = O u->w.cell? (((aD g 0):Addr).add j)=O u:=by
 rcases h.2 with⟨rfl,h1⟩|⟨g,a,cur,rfl,hb,hh,_,_,_,ht⟩
 .exact .inl ⟨rfl,Zj (Qj h.1)⟩
 .refine .inr ⟨g,a,rfl,hb,(ZI.1 hh).1,λj u b=>?_⟩;rw[<-ht,List.getElem?_take]at b;split at b
  .rw[addr_add];simp only[World.cell?,hh,ZQ]
   simp_all
  .cases b
def wpList_append_run{P:Program}{w:U}{ops:Array Oper}{rest:Qu Oper}{o:Oper}{a:Act}{Q:Exit->Act->U->Prop}(hgd:o.guard=none)(s x:Operand)(t:TypeId)
  (ho:o.op=.call { callee:=.builtin .append,args:=#[s,x],argTypes:=#[t,t] }) (v u v':Qa) (w':U) (hs:a.eval s=v) (hx:a.eval x=u)
  (hrun:(Builtin.append_ #[t,t] o.type #[v,u]).run P w=.ok v' w') (h:wpList P ops Q rest (a.put o.dst v') w'):wpList P ops Q (o::rest) a w:=by refine wpList_plain hgd λK b=>?_;unfold Oper.wp execOp;simp only[ho,resolve,invoke,builtin,Sem.run_bind,Sem.run_pure,Result.andThen_ok,List.map_toArray,List.map_cons,List.map_nil,hs,hx,hrun];exact b _ _ h
def nM{xs:Qu Qa}{W:U}(h:W.ownsRow base e 1 v n xs){b:Nat}(hb:v.ownBlock=O b):∃a,W.heap[b]? = O (Qq a e (0,0)):=by
 rcases h.2 with⟨rfl,_⟩|⟨g,cap,a,rfl,_,h3,_⟩
 .cases hb
 .cases hb
  exact⟨a,h3⟩
theorem kP(W:U)(base:Nat)(v:Qa)(xs:KJ)(hown:W.ownsRow base 3 1 v (N xs) (xs.map (Value.int J)))(hl:N xs<=1000000)(hb:base<=M (H W))(x:Int)(ty:TypeId) :
  ∃d f,(Builtin.append_ #[23,23] ty #[v,Z (O (aD (M (H W)) 0)) 1 1]).run V (W.alloc (Qq #[I J x] 3))=.ok d f/\
   f.ownsRow base 3 1 d (N (xs++[x])) ((xs++[x]).map (Value.int J))/\Kept (λb=>v.ownBlock≠O b) W f/\(∃a m c,d = Z a m c)/\(d.ownBlock=v.ownBlock∨d.ownBlock=O (M (H W)+1)):=by
 obtain⟨p,q,i,j,k⟩:=Xe Tryz.Ef;obtain⟨d,f,l,y,z,_,g⟩:=run_append_own_at (P:=V) (W.alloc (Qq #[.int J x] 3)) base 23 ty 3 p (.int J 0) 1 8 underlying23 q i j k rfl Qd v (N xs) (xs.map (Value.int J)) (hown.alloc _) (aD (M (H W)) 0) 1 1 [.int J x] rfl
  (World.news_of_block (cs:=#[I J x]) (t:=3) (fr:=(0,0)) (iB W _)) (λu n=>by rw[Xb]at n;rw[n];rfl) (by unfold maxLen;omega) X (by rw[Xf];omega)
 refine⟨d,f,l,Qc,(Kept.alloc _ _).trans (Kept.grown z (λr e l=>l e)),ZK y,by rw[Xf]at g;exact g⟩
def Xd:=@wpList_append_run
theorem oq{v:Int}(hk:k<N xs):v∈xs.take (k+1)↔v∈xs.take k∨E xs k 0=v:=by rw[QZ hk,List.mem_append,Xb];grind
theorem qE(hx:k<N xs)(hy:k<N ys)(h:xs.take k=ys.take k)(e:E xs k 0=E ys k 0):xs.take (k+1)=ys.take (k+1):=by rw[QZ hx,QZ hy,h];grind
def CJ(hy:k<N ys)(e:E xs k 0≠E ys k 0):xs.take (N ys)≠ys:=λh=>e (by
 have:E (xs.take (N ys)) k 0=E ys k 0:=by rw[h]
 rw[<-this];simp[List.getD,List.getElem?_take,hy])
def iR(ao:JW)(cap:Nat)(xs:KJ)(v:Int)(w:U)(hx:IntsAt w ao xs) :
  Ce 56 #[Z ao (N xs) cap,I J v] w (Qo (decide (v∈xs))):=by
 have t:=hx.1;go_enter func56,ntmps56;go_wp2;go_loop [5] (λi=>∃k:Nat,k<=N xs/\i=I J k/\v ∉ xs.take k) (λi=>N xs-(intOf i).toNat)
 case atStart=>exact⟨0,ZP _,rfl,Qb⟩
 case round=>
  obtain⟨k,u,rfl,d⟩:=hrel;by_cases a:k<N xs
  .obtain⟨b,r,rfl,p⟩:=hx.get a;have q:=p k a;have m:=Zh (oq (v:=v) a);have j:Qk _:=d;have n:Qk (E xs k 0∈xs):=by
    show _∈_;have e:E xs k 0=xs[k]:=by simp[List.getD,a]
    rw[e];exact List.getElem_mem a
   clear p hx d;obtain⟨x,f⟩:=eY (E xs k 0);rw[<-f]at q m n;clear f;by_cases g:x=v
   .have l:(x==v)=true:=by simp[g]
    go_wp2;go_ret;exact⟨QV (Zg (by rw[<-g];exact n.o)).symm,rfl⟩
   .have l:(x==v)=false:=by simp[g]
    go_wp2;go_round
    case rel=>exact⟨k+1,X,Qf,λe=>by
     rcases m.o.1 e with e|e
     .exact j.o e
     .exact g e⟩
    case measure=>exact Qw
  .have e:k=N xs:=X
   rw[e,ZV]at d;have j:Qk _:=d;clear d;go_wp2;go_ret;exact⟨QV (ZL j.o).symm,rfl⟩
def lS(ao bo:JW)(cap cap':Nat)(xs ys:KJ)(w:U)(hx:IntsAt w ao xs)(hy:IntsAt w bo ys) :
  Cb 38 #[Z ao (N xs) cap,Z bo (N ys) cap'] w (Qo (aM xs ys)):=by
 have L:=hx.1;have B:=hy.1;by_cases j:N ys<=N xs
 .have l:=Zh (by unfold aM;rw[Zg j,Zi]:aM xs ys=decide (xs.take (N ys)=ys))
  go_enter func38,ntmps38;go_wp2;go_loopw [5] (λi wr=>∃k:Nat,k<=N ys/\i=I J k/\xs.take k=ys.take k/\∃n,wr=w.drewN n) (λi _=>N ys-(intOf i).toNat)
  case atStart=>exact⟨0,ZP _,rfl,rfl,0,rfl⟩
  case round=>
   obtain⟨k,P,rfl,t,n,rfl⟩:=hrel;have r:=Zh t;clear t;by_cases a:k<N ys
   .have p:k<N xs:=X
    obtain⟨b,K,rfl,u⟩:=hx.get p;obtain⟨Q,v,rfl,g⟩:=hy.get a;have C:=u k p;have D:=g k a;clear u g hx hy;obtain⟨x,d⟩:=eY (E xs k 0);obtain⟨y,f⟩:=eY (E ys k 0);rw[<-d]at C;rw[<-f]at D;obtain⟨z,A⟩:=bV d f;clear d f;by_cases m:x=y
    .have q:(x != y)=false:=by simp[m]
     go_wp2;go_quiet (fail);go_wp2;go_roundw
     case rel=>exact⟨k+1,X,Qf,qE p a r.o (by rw[<-z.o,<-A.o];exact m),_,rfl⟩
     case measure=>exact Qw
    .have q:(x != y)=true:=by simp[m]
     go_wp2;go_quiet (fail);go_wp2;go_ret;exact⟨QV (by rw[l.o];exact(ZL (CJ a (by rw[<-z.o,<-A.o];exact m))).symm),Zc (Zc (Q5 _ _) _) _⟩
   .have e:k=N ys:=X
    have G:=Zh e;clear e;go_wp2;go_ret;exact⟨QV (by rw[l.o];refine(Zg ?_).symm;have:=r.o;rw[G.o,ZV]at this;exact this),Zc (Q5 _ _) _⟩
 .have l:=Zh (by unfold aM;rw[ZL j,Xl]:aM xs ys=false)
  go_enter func38,ntmps38;go_wp2;go_ret;exact⟨QV l.o.symm,Q5 _ _⟩
def sS(ao:JW)(cap:Nat)(ts:Qu af)(q:ae)(s:Nat)(w:U)(hx:aI w ao ts)(hc:bQ ts=T)(hq:q.src.At w)(h5:N q.src.xs<=5)(ha:aP q.src.xs (N ts)=T)(hs:s<=N q.src.xs) :
  Cb 27 #[Z ao (N ts) cap,Qr q.cells,I J s] w (I J (ax ts (q.src.xs.take s))):=by
 obtain⟨⟨K,L,a⟩,P,Q,R,j,l,m,S,z⟩:=q;unfold ai.At at hq;simp only at h5 ha hq hs;unfold ae.cells ai.val;simp only;have C:=hx.1;obtain⟨p,r⟩:=bV hc ha;clear hc ha;go_enter func27,ntmps27;go_wp2;go_loop [7,8] (λn i=>∃k:Nat,k<=s/\i=I J k/\n=I J (ax ts (a.take k))) (λ_ i=>N a-(intOf i).toNat)
 case atStart=>exact⟨0,ZP _,rfl,rfl⟩
 case round=>
  obtain⟨k,W,rfl,rfl⟩:=hrel;have g:=ed p.o r.o k X;by_cases B:k<s
  .have f:k<N a:=X
   obtain⟨sb,TG,rfl,d⟩:=hq.get f;have u:=iF (d k f);have D:=gU r.o f;have G:=jS p.o (i:=a[k].toNat) X;obtain⟨b,A,rfl,t,-⟩:=hx.2 a[k].toNat X;have v:=iF t;have y:=Zh (dC ts a k f);generalize (E ts a[k].toNat tz).aO=cc,ax ts (a.take k)=W0 at*;clear d t hx hq;go_wp2;go_round
   case rel=>exact⟨k+1,X,Qf,by rw[y.o]⟩
   case measure=>exact Qw
  .have e:k=s:=X
   subst e;clear g hx hq;go_wp2;go_ret;exact⟨rfl,(Q5 _ _).alloc (Q6 _) _⟩
def lT(ao:JW)(cap:Nat)(ts:Qu af)(q:ae)(c:Int)(w:U)(hx:aI w ao ts)(hc:bQ ts=T)(hq:q.src.At w)(h5:N q.src.xs<=5)(ha:aP q.src.xs (N ts)=T)(h0:0<=c)(hl:c<ax ts q.src.xs) :
  Cb 62 #[Z ao (N ts) cap,Qr q.cells,I J c] w (I J (aj ts q.src.xs c:Nat)):=by
 have C:=λ(s:Nat) (n:s<=N q.src.xs) x (t:Bw w x)=>sS ao cap ts q s x (hx.below t) hc (Q7 t hq) h5 ha n;have D:Qk (∀(s:Nat),s<=aj ts q.src.xs c->(c ≥ ax ts (q.src.xs.take (s+1))↔s<aj ts q.src.xs c)):=λs n=>wX hc ha h0 hl n;have u:=(ZU hc ha h0 hl).1;have y:Qk (∀k,k<=N q.src.xs->0<=ax ts (q.src.xs.take k)/\ax ts (q.src.xs.take k)<=4*k):=λk hk=>ed hc ha k hk;have P:=hx.1;have j:q.cells=#[q.src.val,Z q.bF (N q.wh) q.aG,Qo q.group,q.keys.val,q.sums.val,q.ay.val,q.ord.val]:=rfl;clear hc ha hx hq;obtain⟨S,K⟩:=eY (aj ts q.src.xs c);rw[<-K]at D u ⊢;clear K;have i:=λ(s:Nat) (n:s<=N q.src.xs) x (t:Bw w x)=>C s n x t;clear C;rw[j]at i ⊢;clear j;obtain⟨b,f⟩:=eY (w.alloc (Qq #[q.src.val,Z q.bF (N q.wh) q.aG,Qo q.group,q.keys.val,q.sums.val,q.ay.val,q.ord.val] 26));have l:Bw w b:=by rw[f];exact bz _ _
 have g:GB b (M (H w)) 26 #[q.src.val,Z q.bF (N q.wh) q.aG,Qo q.group,q.keys.val,q.sums.val,q.ay.val,q.ord.val]:=by rw[f];exact iB _ _
 have G:Qk (Bw b (w.alloc (Qq #[q.src.val,Z q.bF (N q.wh) q.aG,Qo q.group,q.keys.val,q.sums.val,q.ay.val,q.ord.val] 26))):=show Below _ _ _ by rw[f];exact Q5 _ _
 obtain⟨L,YS⟩:=bV l i;clear f i l;have Q:Qm b (aD (M (H w)) 0)=O q.src.val:=g.cell 0;have R:Qm b (aD (M (H w)) 1)=O (Z q.bF (N q.wh) q.aG):=g.cell 1;have q2:Qm b (aD (M (H w)) 2)=O (Qo q.group):=g.cell 2;have q3:Qm b (aD (M (H w)) 3)=O q.keys.val:=g.cell 3;have q4:Qm b (aD (M (H w)) 4)=O q.sums.val:=g.cell 4;have q5:Qm b (aD (M (H w)) 5)=O q.ay.val:=g.cell 5;have q6:Qm b (aD (M (H w)) 6)=O q.ord.val:=g.cell 6;clear g;unfold ai.val at*;generalize q.src.xs=xs at*;go_enter func62,ntmps62;go_wp2;go_loopw [7] (λv wr=>∃s:Nat,s<=S/\v=I J s/\Bw b wr) (λv _=>S-(intOf v).toNat)
 case atStart=>exact⟨0,ZP _,rfl,G.o⟩
 case round=>
  clear G;obtain⟨s,B,rfl,d⟩:=hrel;obtain⟨e0,e1,e2,e3,e4⟩:=gM d Q R q2 q3 q4;obtain⟨e5,e6⟩:=iA d q5 q6;go_wp2_with fail;have a:((s+1:Nat):Int)=(s:Int)+1:=X;have z:=YS.o (s+1) X wr (ah L.o d);rw[a]at z;refine z.mono ?_;rintro e w2 ⟨rfl,m⟩;have aa:=y.o (s+1) X;have r:=D.o s B;have k2:=ah d m;clear e0 e1 e2 e3 e4 e5 e6 z a m d;generalize ax ts (xs.take (s+1))=W at*;by_cases p:s<S
  .have A:W<=c:=r.2 p;clear r;go_wp2;go_roundw
   case rel=>exact⟨s+1,X,Qf,k2⟩
   case measure=>exact Qw
  .have A:¬W<=c:=λe=>p (r.1 e)
   have e:s=S:=X;clear r;subst e;go_wp2;go_ret;exact⟨rfl,ah L.o k2⟩
def TH(h:aI w ao ts)(hi:i<N ts){m:Nat}(hm:m<4) :
  ∃b a,ao=O (aD b a)/\Qm w (aD b (a+i*6+2+m))=O (I J ((E ts i tz).kd m)):=by
 obtain⟨b,a,e,_,_,d,f,g,j⟩:=h.2 i hi;refine⟨b,a,e,?_⟩;rcases (by omega:m=0∨m=1∨m=2∨m=3) with rfl|rfl|rfl|rfl
 .exact d
 .exact f
 .exact g
 .exact j
def Gt(ao:JW)(cap:Nat)(ts:Qu af)(q:ae)(c:Int)(w:U)(hx:aI w ao ts)(hc:bQ ts=T)(hq:q.src.At w)(h5:N q.src.xs<=5)(ha:aP q.src.xs (N ts)=T)(h0:0<=c)(hl:c<ax ts q.src.xs) :
  Cb 91 #[Z ao (N ts) cap,Qr q.cells,I J c] w (I J (bS ts q.src.xs c)):=by
 obtain⟨n,s2,s3,p⟩:=ZU hc ha h0 hl;have P:=λx (G:Bw w x)=>lT ao cap ts q c x (hx.below G) hc (Q7 G hq) h5 ha h0 hl;have L:=λx (G:Bw w x)=>sS ao cap ts q (aj ts q.src.xs c) x (hx.below G) hc (Q7 G hq) h5 ha X;have r:=ed hc ha (aj ts q.src.xs c) X;have f:=dC ts q.src.xs (aj ts q.src.xs c) n;have t:=gU ha n;have u:=jS hc (i:=(q.src.xs[aj ts q.src.xs c]).toNat) X;have v:E q.src.xs (aj ts q.src.xs c) 0=q.src.xs[aj ts q.src.xs c]:=by simp[List.getD,n]
 obtain⟨sb,so,YT,A⟩:=hq.get n;have b:=A _ n;rw[v]at b p;obtain⟨W,hW⟩:=eY (ax ts (q.src.xs.take (aj ts q.src.xs c)));obtain⟨B,hT⟩:=eY (q.src.xs[aj ts q.src.xs c]);rw[<-hW]at L r f s2 p;rw[<-hT]at f t u b p;obtain⟨m,hm⟩:∃m:Nat,(m:Int)=c-W:=⟨(c-W).toNat,X⟩;obtain⟨tb,Ls,TI,j⟩:=TH hx (i:=B.toNat) (m:=m) X X;have aa:m<4:=X;have Q:c.toNat-W.toNat=m:=X;rw[Q]at p;have ag:=hx.1;have g:((B.toNat:Nat):Int)=B:=X;have R:B.toNat<N ts:=X;obtain⟨K,hK⟩:=eY (bS ts q.src.xs c);rw[<-p,<-hK]at j;rw[<-hK];obtain⟨S,hS⟩:=eY (aj ts q.src.xs c);rw[<-hS]at P L b n;obtain⟨tn,C⟩:=eY (B.toNat);rw[<-C]at j g R;have y:=g.symm;rw[y]at b;clear hS hK s2 s3 p f hW hT v A t u Q C g y;obtain⟨w1,d⟩:=eY (w.alloc (Qq q.cells 26));have z:Bw w w1:=by rw[d];exact bz _ _
 have bO:GB w1 (M (H w)) 26 q.cells:=by rw[d];exact iB _ _
 obtain⟨mU,TJ⟩:=bV P L;clear P L hx hq ha hc;rw[TI];rw[TI]at mU TJ;obtain⟨⟨qD,iI,xs⟩,bF,aG,wh,k,⟨sU,iZ,uw⟩,⟨uy,jw,wL⟩,⟨sV,ja,wM⟩,⟨wN,jN,uV⟩⟩:=q;unfold ae.cells ai.val at*;simp only at*;subst YT;obtain⟨q0,q1,q2,q3,q4,q5,q6⟩:=bO.k7;have zg:=d.symm;clear d bO;have ak:=hm.symm;clear hm;have NZ:IntKind.i64.wrap (m:Int)=m:=by rw[Xm];omega
 have au:(m:Int)<4:=X;go_enter func91,ntmps91;go_upto_region 1 with fail;clear zg;go_wp2_with fail;refine(mU.o w1 z).mono ?_;rintro e w2 ⟨rfl,l⟩;have k2:=ah z l;have a:=l;clear l;clear r hl;go_wp2;refine Za ?_;refine uK ?_;go_big_quiet_want;refine⟨Z (O (aD sb so)) (N xs) iI,λx hx=>?_,?_⟩
 .have e0:=cB (ah a hx) q0;go_simp
 simp only[pU];go_big_quiet_on;refine uK ?_;go_big_quiet_want;refine⟨I J tn,λx hx=>?_,?_⟩
 .have e0:=cB (ah k2 hx) b;go_simp
 simp only[pU];go_big_quiet_on;refine uK ?_;go_big_quiet_want;refine⟨Qr #[Z (O (aD sb so)) (N xs) iI,Z bF (N wh) aG,Qo k,Z sU (N uw) iZ,Z uy (N wL) jw,Z sV (N wM) ja,Z wN (N uV) jN],λx hx=>?_,?_⟩
 .have e0:=cB (ah a hx) q0;have e1:=cB (ah a hx) q1;have e2:=cB (ah a hx) q2;have e3:=cB (ah a hx) q3;have Q:=cB (ah a hx) q4;have e5:=cB (ah a hx) q5;have e6:=cB (ah a hx) q6;go_simp
 simp only[pU];go_big_quiet_on;refine eT ?_;go_big_quiet_want;refine⟨I J W,λx hx=>?_,?_⟩
 .have hC:=Zb hx (TJ.o x (ah k2 hx));go_simp
 simp only[pU];go_big_quiet_on;refine IJ ?_;go_big_quiet_want;refine⟨I J K,λx hx=>?_,?_⟩
 .have e0:=cB (ah k2 hx) j;go_simp
 simp only[pU];go_big_quiet_on;refine eT ?_;refine Xo ?_;intro w3 D;have k3:=ah k2 D;clear D;go_wp2;go_ret;exact⟨rfl,k3⟩
def mV(hc:bQ ts=T)(hi:i<N ts):bK (E ts i tz)=true:=by
 cases h:bK (E ts i tz) with
 |true=>rfl
 |false=>rw[<-pO hi h]at hc;cases hc
def mW(hc:bQ ts=T)(ha:aP src (N ts)=T){c:Int}(h0:0<=c)(hl:c<ax ts src):1<=bS ts src c/\bS ts src c<=1000000:=by
 obtain⟨d,j,k,e⟩:=ZU hc ha h0 hl;have f:=dC ts src (aj ts src c) d;have g:=ed hc ha (aj ts src c) X;have i:=gU ha d;have a:E src (aj ts src c) 0=src[aj ts src c]:=by simp[List.getD,d]
 rw[a]at e;have b:bK (E ts (src[aj ts src c]).toNat tz)=true:=mV hc X;unfold bK at b;rw[Zd]at b;rw[e];exact b.2.2.2.2 _ X
def Gu(ao:JW)(cap:Nat)(ts:Qu af)(q:ae)(k:Nat)(w:U)(hx:aI w ao ts)(hc:bQ ts=T)(hq:q.At w)(h5:N q.src.xs<=5)(ha:aP q.src.xs (N ts)=T)(hk:k<N q.wh)(fe:∀c∈av (E q.wh k lz).cs,0<=c/\c<ax ts q.src.xs) :
  Cb 57 #[Z ao (N ts) cap,Qr q.cells,I J k] w (I Qn (bH ts q.src.xs (E q.wh k lz).cs:Nat)):=by
 have Wx:Qk (∀c∈av (E q.wh k lz).cs,(∀x,Bw w x->Cb 91 #[Z ao (N ts) cap,Qr q.cells,I J c] x (I J (bS ts q.src.xs c)))/\1<=bS ts q.src.xs c/\bS ts q.src.xs c<=1000000):=λc hm=>
  ⟨λx hb=>Gt ao cap ts q c x (hx.below hb) hc (Q7 hb hq.src) h5 ha (fe c hm).1 (fe c hm).2,mW hc ha (fe c hm).1 (fe c hm).2⟩
 clear fe hc ha hx;have aB:=hq.wh.1;obtain⟨wb,G,CO,L⟩:=QX hq.wh.2.1 hk;have r:=L k hk;have j:=hq.wh.2.2 k hk;clear L hq;obtain⟨w1,u⟩:=eY (w.alloc (Qq q.cells 26));have b:Bw w w1:=by rw[u];exact bz _ _
 have bO:GB w1 (M (H w)) 26 q.cells:=by rw[u];exact iB _ _
 obtain⟨⟨P,Q,f⟩,bF,R,B,d,⟨S,W,uw⟩,⟨uy,jw,wL⟩,⟨sV,ja,wM⟩,⟨wN,jN,uV⟩⟩:=q;unfold ae.cells ai.val at*;simp only at*;subst CO;generalize E B k lz=cl at*;obtain⟨ca,cc,cs⟩:=cl;unfold aA.val at r;simp only at r j Wx ⊢;obtain⟨q0,q1,q2,q3,q4,q5,q6⟩:=bO.k7;have zg:=u.symm;have JV:=cB b r;clear u bO r;have ag:=j.1;by_cases i:N cs=1
 .obtain⟨cb,co,rfl,c0,c1,c2,c3,c4⟩:=j.2 0 X;obtain⟨d0,d1,d2,d3,d4⟩:=gM b c0 c1 c2 c3 c4;have jO:Qk (av cs=au (E cs 0 cz)):=by
   show _=_
   match cs,i with
   |[c],_=>simp[av]
  have v:Qk (bH ts f cs=if (E cs 0 cz).not=T then 2 else if (E cs 0 cz).op=1 then 3 else if (E cs 0 cz).op=2 then 10 else if (E cs 0 cz).const=T then (bS ts f (E cs 0 cz).left).toNat
    else max (bS ts f (E cs 0 cz).left).toNat (bS ts f (E cs 0 cz).right).toNat):=by
   show _=_;unfold bH;by_cases e:(E cs 0 cz).not=T
   .rw[Q8 (.inr e),Q8 e]
   .rw[Zf (λh=>h.elim (absurd i) e),Zf e]
  clear c0 c1 c2 c3 c4 j;generalize E cs 0 cz=c at*;obtain⟨az,op,left,l,right⟩:=c;simp only[Xr,Z4]at d0 d1 d2 d3 d4 jO v;rw[i]at JV;have C:=Wx.o;rw[jO.o]at C;unfold au at C;simp only at C;have t:=Zh C;clear C Wx jO ag
  cases az with
  |true =>
   go_enter func57,ntmps57;go_wp2;go_ret;exact⟨by rw[v.o];rfl,b⟩
  |false =>
   by_cases o1:op=1
   .subst o1;go_enter func57,ntmps57;go_wp2;go_ret;exact⟨by rw[v.o];rfl,b⟩
   by_cases o2:op=2
   .subst o2;go_enter func57,ntmps57;go_wp2;go_ret;exact⟨by rw[v.o];rfl,b⟩
   have b1:(op==1)=false:=by simp[o1]
   have b2:(op==2)=false:=by simp[o2]
   have z:=Zh (by rw[v.o,Zf Qb,Zf o1,Zf o2]:bH ts f cs=if l=T then (bS ts f left).toNat else max (bS ts f left).toNat (bS ts f right).toNat)
   clear v;have y:=t.o left (by split <;> simp);have g:=y.1;have aj:=y.2;clear y;obtain⟨K,hK⟩:=eY (bS ts f left)
   rw[<-hK]at g aj z;clear hK;obtain⟨n,rfl⟩:∃n:Nat,K=n:=⟨K.toNat,X⟩;have Wy:=Zh g;clear g
   cases l with
   |true =>
    clear t;have TK:Qk (bH ts f cs=n):=by show _=_;rw[z.o,Q8 rfl];rfl
    clear z;go_enter func57,ntmps57;go_wp2;refine Za ?_;refine eT ?_;go_big_quiet_want;refine⟨Qr #[Z P (N f) Q,Z (O (aD wb G)) (N B) R,Qo d,Z S (N uw) W,Z uy (N wL) jw,Z sV (N wM) ja,Z wN (N uV) jN],λx hx=>?_,?_⟩
    .have A:=cB (hx) q0;have e1:=cB (hx) q1;have e2:=cB (hx) q2;have e3:=cB (hx) q3;have e4:=cB (hx) q4;have e5:=cB (hx) q5;have e6:=cB (hx) q6;go_simp
    simp only[pU];go_big_quiet_on;refine IJ ?_;go_big_quiet_want;refine⟨I J n,λx hx=>?_,?_⟩
    .have hC:=Zb hx (Wy.o x (ah b hx));go_simp
    simp only[pU];go_big_quiet_on;refine eT ?_;refine Xo ?_;intro w2 a;have k2:=ah b a;have D:=cB a d3;have ak:IntKind.u64.wrap (n:Int)=n:=by rw[IntKind.wrap_u64];omega
    clear a;go_wp2;go_ret;exact⟨dG TK.o.symm,k2⟩
   |false =>
    have y:=t.o right (by rw[Q8 ⟨o2,rfl⟩];simp);have g:=y.1;have ay:=y.2;clear y t;obtain⟨K2,aa⟩:=eY (bS ts f right);rw[<-aa]at g ay z;clear aa;obtain⟨m,rfl⟩:∃n:Nat,K2=n:=⟨K2.toNat,X⟩;have fo:=Zh g;clear g;have TK:Qk (bH ts f cs=max n m):=by show _=_;rw[z.o,Zf Qb];rfl
    clear z;have ak:IntKind.u64.wrap (n:Int)=n:=by rw[IntKind.wrap_u64];omega
    have NZ:IntKind.u64.wrap (m:Int)=m:=by rw[IntKind.wrap_u64];omega
    by_cases aC:n<m
    .go_enter func57,ntmps57;go_wp2;refine Za ?_;refine eT ?_;go_big_quiet_want;refine⟨Qr #[Z P (N f) Q,Z (O (aD wb G)) (N B) R,Qo d,Z S (N uw) W,Z uy (N wL) jw,Z sV (N wM) ja,Z wN (N uV) jN],λx hx=>?_,?_⟩
     .have A:=cB (hx) q0;have e1:=cB (hx) q1;have e2:=cB (hx) q2;have e3:=cB (hx) q3;have e4:=cB (hx) q4;have e5:=cB (hx) q5;have e6:=cB (hx) q6;go_simp
     simp only[pU];go_big_quiet_on;refine IJ ?_;go_big_quiet_want;refine⟨I J n,λx hx=>?_,?_⟩
     .have hC:=Zb hx (Wy.o x (ah b hx));go_simp
     simp only[pU];go_big_quiet_on;refine eT ?_;refine Xo ?_;intro w2 a;have k2:=ah b a;have D:=cB a d3;go_wp2;refine Za ?_;refine eT ?_;go_big_quiet_want;refine⟨Qr #[Z P (N f) Q,Z (O (aD wb G)) (N B) R,Qo d,Z S (N uw) W,Z uy (N wL) jw,Z sV (N wM) ja,Z wN (N uV) jN],λx hx=>?_,?_⟩
     .have A:=cB (ah a hx) q0;have e1:=cB (ah a hx) q1;have e2:=cB (ah a hx) q2;have e3:=cB (ah a hx) q3;have e4:=cB (ah a hx) q4;have e5:=cB (ah a hx) q5;have e6:=cB (ah a hx) q6;go_simp
     simp only[pU];go_big_quiet_on;refine JE ?_;go_big_quiet_want;refine⟨I J right,λx hx=>?_,?_⟩
     .have A:=cB (ah a hx) d4;go_simp
     simp only[pU];go_big_quiet_on;go_big_quiet_want;refine⟨I J m,λx hx=>?_,?_⟩
     .have hC:=Zb hx (fo.o x (ah k2 hx));go_simp
     simp only[pU];go_big_quiet_on;refine eT ?_;refine Xo ?_;intro w3 p;have k3:=ah k2 p;clear a p k2;go_wp2;go_ret;exact⟨dG (by rw[TK.o];omega),k3⟩
    .go_enter func57,ntmps57;go_wp2;refine Za ?_;refine eT ?_;go_big_quiet_want;refine⟨Qr #[Z P (N f) Q,Z (O (aD wb G)) (N B) R,Qo d,Z S (N uw) W,Z uy (N wL) jw,Z sV (N wM) ja,Z wN (N uV) jN],λx hx=>?_,?_⟩
     .have A:=cB (hx) q0;have e1:=cB (hx) q1;have e2:=cB (hx) q2;have e3:=cB (hx) q3;have e4:=cB (hx) q4;have e5:=cB (hx) q5;have e6:=cB (hx) q6;go_simp
     simp only[pU];go_big_quiet_on;refine IJ ?_;go_big_quiet_want;refine⟨I J n,λx hx=>?_,?_⟩
     .have hC:=Zb hx (Wy.o x (ah b hx));go_simp
     simp only[pU];go_big_quiet_on;refine eT ?_;refine Xo ?_;intro w2 a;have k2:=ah b a;have D:=cB a d3;go_wp2;refine Za ?_;refine eT ?_;go_big_quiet_want;refine⟨Qr #[Z P (N f) Q,Z (O (aD wb G)) (N B) R,Qo d,Z S (N uw) W,Z uy (N wL) jw,Z sV (N wM) ja,Z wN (N uV) jN],λx hx=>?_,?_⟩
     .have A:=cB (ah a hx) q0;have e1:=cB (ah a hx) q1;have e2:=cB (ah a hx) q2;have e3:=cB (ah a hx) q3;have e4:=cB (ah a hx) q4;have e5:=cB (ah a hx) q5;have e6:=cB (ah a hx) q6;go_simp
     simp only[pU];go_big_quiet_on;refine JE ?_;go_big_quiet_want;refine⟨I J right,λx hx=>?_,?_⟩
     .have A:=cB (ah a hx) d4;go_simp
     simp only[pU];go_big_quiet_on;go_big_quiet_want;refine⟨I J m,λx hx=>?_,?_⟩
     .have hC:=Zb hx (fo.o x (ah k2 hx));go_simp
     simp only[pU];go_big_quiet_on;refine eT ?_;refine Xo ?_;intro w3 p;have k3:=ah k2 p;clear a p k2;go_wp2;go_ret;exact⟨dG (by rw[TK.o];omega),k3⟩
 .have v:=Zh (by unfold bH;rw[Q8 (.inl i)]:bH ts f cs=2)
  have b1:((N cs:Int) != 1)=true:=Qi;clear j Wx;generalize N cs=cn at*;go_enter func57,ntmps57;go_wp2;go_ret;exact⟨by rw[v.o];rfl,b⟩
theorem dY(h:w.ownsRow base e 1 v n (xs.map (Value.int J)))(hl:N xs<=1152921504606846976):∃f a,v=Z f (N xs) a/\IntsAt w f xs:=by
 have j:N xs=n:=by have:=h.1;simpa using this
 rcases h.2 with⟨rfl,h0⟩|⟨g,a,cur,rfl,_,hh,_,_,_,ht⟩
 .have:xs=[]:=Zj X;subst this;exact⟨none,0,rfl,⟨Qb,λi d=>absurd d Qb⟩⟩
 .refine⟨O (aD g 0),a,by rw[<-j],⟨hl,λi d=>⟨g,0,rfl,?_⟩⟩⟩;have b:(cur.toList.take (n*1))[i]? = O (I J (E xs i 0)):=by grind
  rw[List.getElem?_take_of_lt X]at b;rw[ZQ];simp only[World.cell?,hh];simpa using b
def ou(hk:k<N cs):av (cs.take (k+1))=av (cs.take k)++au (E cs k cz):=by
 have e:E cs k cz=cs[k]:=by simp[List.getD,hk]
 rw[QZ hk,e];unfold av;rw[List.flatMap_append];simp
def qF(c:aF):N (au c)<=2:=by unfold au;split <;> simp
def lU:∀(cs:Qu aF),N (av cs)<=2*N cs
 |[]=>by simp[av]
 |c::cs=>by have h:=lU cs;have h2:=qF c;unfold av at*;rw[Zl,Zm,Zn];omega
def own_below{w w':U}{base:Nat}{e:TypeId}{sz:Nat}{v:Qa}{n:Nat}{xs:Qu Qa}(h:w.ownsRow base e sz v n xs)(hb:Bw w w'):w'.ownsRow base e sz v n xs:=Xc h (Q6 _) (λj _ a=>hb.block j a)
def Aq(ca:JW)(cc:Nat)(cs:Qu aF)(w:U)(hx:bY w ca cs)(h3:N cs<=100) :
  Calls V 92 #[Qr #[Z ca (N cs) cc]] w λe w'=>∃v,e=.returned v/\w'.ownsRow (M (H w)) 3 1 v (N (av cs)) ((av cs).map (Value.int J))/\Bw w w':=by
 obtain⟨n,j⟩:=eY (w.alloc (Qq #[Z ca (N cs) cc] 80));have g:Bw w n:=by rw[j];exact bz _ _
 have bO:GB n (M (H w)) 80 #[Z ca (N cs) cc]:=by rw[j];exact iB _ _
 have q0:=bO.at 0;have y:M (H n)=M (H w)+1:=by rw[j];simp
 have Lt:=Zh y;have zg:=j.symm;clear j bO y;go_enter func92,ntmps92;go_wp2;clear zg;go_loopw [3,4] (λv iv wr=>∃k:Nat,k<=N cs/\iv=I J k/\Qk (wr.ownsRow (M (H n)) 3 1 v (N (av (cs.take k))) ((av (cs.take k)).map (Value.int J)))/\Bw n wr) (λ_ iv _=>N cs-(intOf iv).toNat)
 case atStart=>exact⟨0,ZP _,rfl,Xa _ _ _ _,Q5 _ _⟩
 case round=>
  obtain⟨k,hk,rfl,p,d⟩:=hrel;have hq:=cB d q0;by_cases l:k<N cs
  .obtain⟨b,B,rfl,c0,c1,c2,c3,c4⟩:=hx.2 k l;have k1:=ah g d;obtain⟨d1,d2,d3⟩:=TB k1 c1 c2 c3;clear c0 c1 c2 c3;have m:N (av (cs.take k))<=200:=by have:=lU (cs.take k);rw[Xu]at this;omega
   have P:=Zh (ou l);obtain⟨S,W,rc,rfl⟩:=ZK p.o;obtain⟨v',C,r,t,q,⟨D,G,K,rfl⟩,-⟩:=kP wr (M (H n)) (Z S W rc) (av (cs.take k)) p.o X d.size (E cs k cz).left 23;have a:=d.trans (q.below d.size (λb hb e=>Qj ((ZJ p.o e).1)));have ae:=cB a q0;have e1:=cB (ah g a) (show Qm w (aD b (B+k*5+1))=_ from (hx.2 k l).elim λb' h=>h.elim λo' h=>by obtain⟨he,_,h1,_⟩:=h;cases he;exact h1);have e3:=cB (ah g a) (show Qm w (aD b (B+k*5+3))=_ from (hx.2 k l).elim λb' h=>h.elim λo' h=>by obtain⟨he,_,_,_,h1,_⟩:=h;cases he;exact h1);have e4:=cB (ah g a) c4;have aa:=hx.1;clear hx c4;generalize E cs k cz=c at*;obtain⟨af,L,left,f,right⟩:=c;simp only at*;by_cases O4:L≠2/\f=false
   .obtain⟨u,rfl⟩:=O4;have b2:(L != 2)=true:=by simp[u]
    have i:av (cs.take (k+1))=av (cs.take k)++[left]++[right]:=by rw[P.o];unfold au;rw[Q8 ⟨u,rfl⟩];simp
    have O5:=a.size;obtain⟨v',w6,TL,O6,IK,⟨ua,um,uc,rfl⟩,-⟩:=kP C (M (H n)) (Z D G K) (av (cs.take k)++[left]) t (by rw[Zm];simp;omega) O5 right 23;have z:=a.trans (IK.below O5 (λb hb e=>Qj ((ZJ t e).1)));rw[<-i]at O6;have Q:Qk _:=O6;have R:=Zh z;clear O6 z IK t q a i O5 p m d k1 P;go_wp2_with (first|(at_builtin;refine Xd rfl (.tmp 12) (.tmp 19) 23 rfl (Z S W rc) (Z (O (aD (M (H wr)) 0)) 1 1) (Z D G K) C rfl rfl r ?_)|(at_builtin;refine Xd rfl (.tmp 37) (.tmp 44) 23 rfl (Z D G K) (Z (O (aD (M (H C)) 0)) 1 1) (Z ua um uc) w6 rfl rfl TL ?_));clear r TL;go_wp2;go_roundw
    case rel=>exact⟨k+1,X,Qf,Q.o,R.o⟩
    case measure=>exact Qw
   .have i:av (cs.take (k+1))=av (cs.take k)++[left]:=by rw[P.o];unfold au;rw[Zf O4]
    rw[<-i]at t;have Q:Qk _:=t;have R:=Zh a;clear t q a i p m d k1 P;by_cases u:L=2
    .have b2:(L != 2)=false:=by simp[u]
     go_wp2_with (first|(at_builtin;refine Xd rfl (.tmp 12) (.tmp 19) 23 rfl (Z S W rc) (Z (O (aD (M (H wr)) 0)) 1 1) (Z D G K) C rfl rfl r ?_));clear r;go_wp2;go_roundw
     case rel=>exact⟨k+1,X,Qf,Q.o,R.o⟩
     case measure=>exact Qw
    .have b2:(L != 2)=true:=by simp[u]
     have A:f=true:=by
      cases f with
      |true=>rfl
      |false=>exact absurd ⟨u,rfl⟩ O4
     subst A;go_wp2_with (first|(at_builtin;refine Xd rfl (.tmp 12) (.tmp 19) 23 rfl (Z S W rc) (Z (O (aD (M (H wr)) 0)) 1 1) (Z D G K) C rfl rfl r ?_));clear r;go_wp2;go_roundw
     case rel=>exact⟨k+1,X,Qf,Q.o,R.o⟩
     case measure=>exact Qw
  .have e:k=N cs:=X
   have O7:=p.o;rw[e,ZV]at O7;have YU:Qk _:=O7;have aa:=hx.1;clear e p O7 hx;go_wp2;go_ret;exact⟨_,rfl,Xc YU.o (Qj Lt.o) (λ_ _ _=>rfl),ah g d⟩
def Xt:=@own_below
def CP(l m:KJ)(x:Int):ak l (m++[x])=if x∈ak l m then ak l m else ak l m++[x]:=by unfold ak;rw[Xh];rfl
def CQ{l m:KJ}(hk:k<N m):ak l (m.take (k+1))=if m.getD k 0∈ak l (m.take k) then ak l (m.take k) else ak l (m.take k)++[E m k 0]:=by
 have e:E m k 0=m[k]:=by simp[List.getD,hk]
 rw[QZ hk,CP,e]
def Gv(W:U)(base:Nat)(v:Qa)(ys:KJ)(hown:W.ownsRow base 3 1 v (N ys) (ys.map (Value.int J)))(ao:JW)(cap:Nat)(xs:KJ)(hx:IntsAt W ao xs)(hn:ao=none->cap=0)(hl:N ys+N xs<=1000000)(hb:base<=M (H W))(ty:TypeId) :
  ∃f g,(Builtin.append_ #[23,23] ty #[v,Z ao (N xs) cap]).run V W=.ok f g/\
   g.ownsRow base 3 1 f (N (ys++xs)) ((ys++xs).map (Value.int J))/\Kept (λb=>v.ownBlock≠O b) W g/\(∃a m c,f = Z a m c):=by
 obtain⟨y,z,l,n,p⟩:=Xe Tryz.Ef
 cases ao with
 |none =>
  obtain rfl:cap=0:=hn rfl;have B:xs=[]:=by
   cases xs with
   |nil=>rfl
   |cons x xs=>obtain⟨b,q,e,_⟩:=hx.2 0 Qb;cases e
  subst B;refine⟨v,W,run_append_owned_none (P:=V) (w:=W) base 23 ty 3 y 1 underlying23 z v (N ys) _ hown,by rw[Zr];exact hown,Kept.refl _ _,ZK hown⟩
 |some a =>
  have d:∀j u,(xs.map (Value.int J))[j]? = O u->W.cell? (a.add j)=O u:=λj u i=>by
   rw[List.getElem?_map]at i;by_cases k:j<N xs
   .obtain⟨b,q,e,C⟩:=hx.2 j k
    cases e;rw[addr_add,C];simp[List.getD,k]at i ⊢;exact i
   .rw[List.getElem?_eq_none X]at i;cases i
  obtain⟨f,g,t,A,D,_,_⟩:=run_append_own_at (P:=V) W base 23 ty 3 y (.int J 0) 1 8 underlying23 z l n p rfl Qd v (N ys) (ys.map (Value.int J)) hown a (N xs) cap (xs.map (Value.int J)) Qb d
   (λu G=>by obtain⟨x,_,rfl⟩:=List.mem_map.1 G;rfl) (by unfold maxLen;omega) X hb
  exact⟨f,g,t,by rw[Zm,Q0];exact A,Kept.grown D (λr e t=>t e),ZK A⟩
def uW(ao bo:JW)(cap cap':Nat)(xs ys:KJ)(w:U)(hx:IntsAt w ao xs)(hy:IntsAt w bo ys)(hn:ao=none->cap=0)(hl:N xs+N ys<=1000) :
  Calls V 35 #[Z ao (N xs) cap,Z bo (N ys) cap'] w λe w'=>∃v,e=.returned v/\w'.ownsRow (M (H w)) 3 1 v (N (ak xs ys)) ((ak xs ys).map (Value.int J))/\Bw w w':=by
 obtain⟨v0,w1,n,g,p,⟨va,vm,vc,rfl⟩⟩:=Gv w (M (H w)) (Z none 0 0) [] (Xa _ _ _ _) ao cap xs hx hn Qi (Q6 _) 23;rw[List.nil_append]at g;have t:=p.below (Q6 _) (λb hb e=>by cases e);clear p;have u:Qk _:=g;clear g;go_enter func35,ntmps35;go_wp2_with (first|(at_builtin;refine Xd rfl (.tmp 8) (.tmp 9) 23 rfl (Z none 0 0) (Z ao (N xs) cap) (Z va vm vc) w1 rfl rfl n ?_));clear n;go_wp2;go_loopw [5,6] (λv G wr=>∃k:Nat,k<=N ys/\G=I J k/\Qk (wr.ownsRow (M (H w)) 3 1 v (N (ak xs (ys.take k))) ((ak xs (ys.take k)).map (Value.int J)))/\Bw w wr) (λ_ G _=>N ys-(intOf G).toNat)
 case atStart=>exact⟨0,ZP _,rfl,u.o,t⟩
 case round=>
  obtain⟨k,hk,rfl,f,a⟩:=hrel;have aa:=hy.1;by_cases i:k<N ys
  .obtain⟨b,af,rfl,P⟩:=hy.get i;have ae:=cB a (P k i);clear P;have r:=Zh (CQ (l:=xs) i);have z:N (ak xs (ys.take k))<=1000:=by have:=eZ (m:=ys.take k) (l:=xs);rw[Xu]at this;omega
   clear hy;obtain⟨L,Q⟩:=eY (ak xs (ys.take k));rw[<-Q]at r f z;clear Q;generalize E ys k 0=y at*;obtain⟨B,C,rfl,R⟩:=dY f.o X;have K:=iR B C L y wr R;clear R;go_wp2_with fail;refine K.mono ?_;clear K;rintro e S ⟨rfl,rfl⟩;by_cases d:y∈L
   .rw[Zg d];go_wp2;go_roundw
    case rel=>exact⟨k+1,X,Qf,by have e:=r.o;rw[Q8 d]at e;rw[e];exact f.o,a⟩
    case measure=>exact Qw
   .rw[ZL d];obtain⟨v',w5,W,D,q,⟨ua,um,uc,rfl⟩,-⟩:=kP S (M (H w)) (Z B (N L) C) L f.o X a.size y 23;have j:=a.trans (q.below a.size (λb hb e=>Qj ((ZJ f.o e).1)));have e:=r.o;rw[Zf d]at e;rw[<-e]at D;have Eh:Qk _:=D;have zK:=Zh j;clear e D j q f r;go_wp2_with (first|(at_builtin;refine Xd rfl (.tmp 25) (.tmp 30) 23 rfl (Z B (N L) C) (Z (O (aD (M (H S)) 0)) 1 1) (Z ua um uc) w5 rfl rfl W ?_));clear W;go_wp2;go_roundw
    case rel=>exact⟨k+1,X,Qf,Eh.o,zK.o⟩
    case measure=>exact Qw
  .have e:k=N ys:=X
   have A:=f.o;rw[e,ZV]at A;have YU:Qk _:=A;clear e f A hy hx;go_wp2;go_ret;exact⟨_,rfl,YU.o,a⟩
def jY(hk:k<N xs)(h:(xs.take k).all p=T)(hp:p (E xs k 0)=T):(xs.take (k+1)).all p=true:=by
 have e:E xs k 0=xs[k]:=by simp[List.getD,hk]
 rw[e]at hp;rw[QZ hk,List.all_append,h,List.all_cons,hp];rfl
def vk(hk:k<N xs)(hp:p (E xs k 0)=false):xs.all p=false:=by
 have e:E xs k 0=xs[k]:=by simp[List.getD,hk]
 rw[List.all_eq_false];exact⟨xs[k],List.getElem_mem hk,by rw[<-e,hp];simp⟩
def vv(hk:k<N xs):E xs k 0∈xs:=by
 have e:E xs k 0=xs[k]:=by simp[List.getD,hk]
 rw[e];exact List.getElem_mem hk
def CW(ao so:JW)(cap sZ:Nat)(ts:Qu af)(q:ae)(k:Nat)(ss:KJ)(w:U)(hx:aI w ao ts)(hc:bQ ts=T)(hq:q.At w)(h5:N q.src.xs<=5)(ha:aP q.src.xs (N ts)=T)(hk:k<N q.wh)
  (fe:∀c∈av (E q.wh k lz).cs,0<=c/\c<ax ts q.src.xs) (h3:(E q.wh k lz).cs.length<=3) (hss:IntsAt w so ss) :
  Cb 60 #[Z ao (N ts) cap,Qr q.cells,I J k,Z so (N ss) sZ] w (Qo (fV ts q.src.xs (E q.wh k lz).cs ss)):=by
 have D:Qk (∀c∈av (E q.wh k lz).cs,∀x,Bw w x->Cb 62 #[Z ao (N ts) cap,Qr q.cells,I J c] x (I J (aj ts q.src.xs c:Nat))):=λc hm x hb=>
  lT ao cap ts q c x (hx.below hb) hc (Q7 hb hq.src) h5 ha (fe c hm).1 (fe c hm).2
 have ak:=hq.wh.1;obtain⟨wb,wo,CO,y⟩:=QX hq.wh.2.1 hk;have d:=y k hk;have m:=hq.wh.2.2 k hk;clear y hq fe hc ha hx;obtain⟨R,g⟩:=eY (w.alloc (Qq q.cells 26));have f:Bw w R:=by rw[g];exact bz _ _
 have bO:GB R (M (H w)) 26 q.cells:=by rw[g];exact iB _ _
 obtain⟨⟨qD,iI,r⟩,bF,aG,wh,t,⟨sU,iZ,uw⟩,⟨uy,jw,wL⟩,⟨sV,ja,wM⟩,⟨wN,jN,uV⟩⟩:=q;unfold ae.cells ai.val at*;simp only at*;subst CO;generalize E wh k lz=cl at*;obtain⟨ca,cc,cs⟩:=cl;unfold aA.val at d;simp only at d m D h3 ⊢;obtain⟨q0,q1,q2,q3,q4,q5,q6⟩:=bO.k7;have zg:=g.symm;have JV:=cB f d;have zl:=Aq ca cc cs R (m.below f) X;have Ml:Qk _:=hss;have G:Qk (fV ts r cs ss=(av cs).all λc=>decide ((aj ts r c:Int)∈ss)):=rfl;have Me:=lU cs;clear g bO d m hss;go_enter func60,ntmps60;go_wp2_with fail;refine zl.mono ?_;clear zl zg;rintro e w2 ⟨v,rfl,z,j⟩;obtain⟨la,lc,rfl,TM⟩:=dY z X;have K:Qk _:=TM;clear z TM JV;obtain⟨L,hL⟩:=eY (av cs);rw[<-hL]at D K G Me ⊢;clear hL;have k2:=ah f j;obtain⟨TT,W,aa,ag,Y7⟩:=gM j q0 q1 q2 q3 q4;obtain⟨WB,Y8⟩:=iA j q5 q6;clear q0 q1 q2 q3 q4 q5 q6 j f;go_wp2;go_loopw [10] (λiv wr=>∃i:Nat,i<=N L/\iv=I J i/\Qk (((L.take i).all λc=>decide ((aj ts r c:Int)∈ss))=T)/\Bw w2 wr) (λiv _=>N L-(intOf iv).toNat)
 case atStart=>exact⟨0,ZP _,rfl,rfl,Q5 _ _⟩
 case round=>
  obtain⟨i,hi,rfl,C,a⟩:=hrel;by_cases b:i<N L
  .have au:=K.o.1;obtain⟨lb,lo,rfl,A⟩:=QY K.o b;have P:=cB a (A i b);clear A;have HC:=D.o (E L i 0) (vv b);have Q:=Zh HC;clear HC;have B:=ah k2 a;obtain⟨HT,HF⟩:=bV (jY (p:=λc=>decide ((aj ts r c:Int)∈ss)) b C.o) (vk (p:=λc=>decide ((aj ts r c:Int)∈ss)) b);clear C;generalize E L i 0=c at*;obtain⟨S,hS⟩:=eY (aj ts r c)
   simp only[<-hS]at Q HT HF;clear hS;go_wp2;refine Za ?_;refine eT ?_;go_big_quiet_want;refine⟨Qr #[Z qD (N r) iI,Z (O (aD wb wo)) (N wh) aG,Qo t,Z sU (N uw) iZ,Z uy (N wL) jw,Z sV (N wM) ja,Z wN (N uV) jN],λx hx=>?_,?_⟩
   .have e0:=cB (ah a hx) TT;have e1:=cB (ah a hx) W;have e2:=cB (ah a hx) aa;have e3:=cB (ah a hx) ag;have e4:=cB (ah a hx) Y7;have e5:=cB (ah a hx) WB;have e6:=cB (ah a hx) Y8;go_simp
   simp only[pU];go_big_quiet_on;refine IJ ?_;go_big_quiet_want;refine⟨I J S,λx hx=>?_,?_⟩
   .have hC:=Zb hx (Q.o x (ah B hx));go_simp
   simp only[pU];go_big_quiet_on;refine eT ?_;refine Xo ?_;intro w3 u;have BQ:=ah a u;have k3:=ah B u;clear u Q P;have uh:=iR so sZ ss (S:Int) w3 (Q7 k3 Ml.o);go_wp2_with fail;refine uh.mono ?_;clear uh;rintro e w4 ⟨rfl,rfl⟩;by_cases l:(S:Int)∈ss
   .rw[Zg l];go_wp2;go_roundw
    case rel=>exact⟨i+1,X,Qf,HT.o (Zg l),BQ⟩
    case measure=>exact Qw
   .rw[ZL l];go_wp2;go_ret;exact⟨QV (by rw[G.o];exact(HF.o (ZL l)).symm),k3⟩
  .have e:i=N L:=X
   have n:=C.o;rw[e,ZV]at n;have Lx:=Zh n;have B:=ah k2 a;clear C n e;go_wp2;go_ret;exact⟨QV (by rw[G.o];exact Lx.o.symm),B⟩
def J4(hc:bQ ts=T)(hi:i<N ts):0<=(E ts i tz).rows/\(E ts i tz).rows<=1000000:=by have a:=mV hc hi;unfold bK at a;rw[Zd]at a;exact⟨a.2.2.1,a.2.2.2.1⟩
def GH(h:aI w ao ts)(hi:i<N ts):∃b a,ao=O (aD b a)/\Qm w (aD b (a+i*6+1))=O (I J (E ts i tz).rows):=by obtain⟨b,a,e,_,d,_⟩:=h.2 i hi;exact⟨b,a,e,d⟩
def Mm{qD:JW}(hx:aI w ao ts)(hs:IntsAt w qD xs)(hc:bQ ts=T)(ha:aP xs (N ts)=T){s:Int}(h0:0<=s)(h1:s<N xs) :
  ∃(e f g j sn tn R:Nat),qD=O (aD e f)/\ao=O (aD g j)/\s=(sn:Int)/\Qm w (aD e (f+sn))=O (I J (tn:Int))/\Qm w (aD g (j+tn*6+1))=O (I J (R:Int))/\dF ts xs s=R/\sn<N xs/\tn<N ts/\R<=1000000:=by
 have a:s.toNat<N xs:=X;obtain⟨e,f,n,k⟩:=hs.get a;have m:=gU ha a;have b:E xs s.toNat 0=xs[s.toNat]:=by simp[List.getD,a]
 have d:=k _ a;rw[b]at d;obtain⟨g,j,p,l⟩:=GH hx (i:=(xs[s.toNat]).toNat) X;have q:=J4 hc (i:=(xs[s.toNat]).toNat) X;refine⟨e,f,g,j,s.toNat,(xs[s.toNat]).toNat,(E ts (xs[s.toNat]).toNat tz).rows.toNat,n,p,X,?_,?_,?_,a,X,X⟩
 .rw[d];congr 2;omega
 .rw[l];congr 2;omega
 .unfold dF;rw[b]
def uj{β:Type}{f:β->Nat->β}{g:Int->Nat}(hk:k<N xs)(b:β):((xs.take (k+1)).map g).foldl f b=f (((xs.take k).map g).foldl f b) (g (E xs k 0)):=by
 have e:E xs k 0=xs[k]:=by simp[List.getD,hk]
 rw[QZ hk,e,Q0,Xh];rfl
def eH:∀(l:Qu Nat) (m:Nat),m<=aH->l.foldl az m<=aH
 |[],_,h=>h
 |a::l,m,_=>eH l _ (eU m a)
def jk(ts:Qu af)(q:ae)(clauses:KJ)(k n:Nat):Nat:=(List.range k).foldl (λ(n c:Nat)=>if (c:Int)∈clauses then n / bH ts q.src.xs (E q.wh c lz).cs else n) n
def tu(ts:Qu af)(q:ae)(clauses:KJ)(k n:Nat):jk ts q clauses (k+1) n=if (k:Int)∈clauses then jk ts q clauses k n / bH ts q.src.xs (E q.wh k lz).cs else jk ts q clauses k n:=by unfold jk;rw[Zx,Xh];rfl
def rP(ts:Qu af)(q:ae)(clauses:KJ)(n:Nat):∀k,jk ts q clauses k n<=n
 |0=>Q6 _
 |k+1=>by
  rw[tu];have:=rP ts q clauses n k;split
  .exact ZB (Nat.div_le_self _ _) this
  .exact this
theorem Ay(hc:bQ ts=T)(ha:aP src (N ts)=T)(fe:∀c∈av cs,0<=c/\c<ax ts src):1<=bH ts src cs/\bH ts src cs<=1000000:=by
 unfold bH;split
 .omega
 rename_i h1;split
 .omega
 split
 .omega
 rename_i o2;have e:N cs=1:=by omega
 have a:∀x∈au (E cs 0 cz),x∈av cs:=by
  match cs,e with
  |[c],_=>intro x f;simpa [av] using f
 have b:=fe (E cs 0 cz).left (a _ (by unfold au;split <;> simp));have g:=mW hc ha b.1 b.2;split
 .omega
 .rename_i hcn
  have d:=fe (E cs 0 cz).right (a _ (by unfold au;grind));have i:=mW hc ha d.1 d.2;omega
def Az(ao so' co:JW)(cap sZ Pn:Nat)(ts:Qu af)(q:ae)(ss cl:KJ)(w:U)(hx:aI w ao ts)(hc:bQ ts=T)(hq:q.At w)(h5:N q.src.xs<=5)(ha:aP q.src.xs (N ts)=T)(h8:N q.wh<=8)
  (fe:nL ts q) (hss:IntsAt w so' ss) (hsm:aQ (N q.src.xs) ss) (hcl:IntsAt w co cl) :
  Cb 32 #[Z ao (N ts) cap,Qr q.cells,Z so' (N ss) sZ,Z co (N cl) Pn] w (I Qn (dJ ts q ss cl:Nat)):=by
 have BO:Qk (∀k:Nat,k<N q.wh->(∀x,Bw w x->Cb 57 #[Z ao (N ts) cap,Qr q.cells,I J k] x (I Qn (bH ts q.src.xs (E q.wh k lz).cs:Nat)))/\1<=bH ts q.src.xs (E q.wh k lz).cs/\bH ts q.src.xs (E q.wh k lz).cs<=1000000):=λk hk=>
  ⟨λx hb=>Gu ao cap ts q k x (hx.below hb) hc (hq.below hb) h5 ha hk (fe k hk),Ay hc ha (fe k hk)⟩
 have HR:Qk (∀i,i<N ss->∃(sb so tb Ls sn tn R:Nat),q.src.ad=O (aD sb so)/\ao=O (aD tb Ls)/\E ss i 0=(sn:Int)/\Qm w (aD sb (so+sn))=O (I J (tn:Int))/\Qm w (aD tb (Ls+tn*6+1))=O (I J (R:Int))/\dF ts q.src.xs (E ss i 0)=R/\sn<N q.src.xs/\tn<N ts/\R<=1000000):=λi Q=>by have:=hsm _ (vv Q);exact Mm hx hq.src hc ha this.1 this.2
 have S:Qk (dJ ts q ss cl=if (ss.any λs=>decide (dF ts q.src.xs s=0))=T then 0 else max (jk ts q cl (N q.wh) ((ss.map (dF ts q.src.xs)).foldl az 1)) 1):=rfl;have aK:=hss.1;have Sq:Qk (∀k n,jk ts q cl (k+1) n=if (k:Int)∈cl then jk ts q cl k n / bH ts q.src.xs (E q.wh k lz).cs else jk ts q cl k n):=λk n=>tu ts q cl k n;have Po:Qk (∀k n,jk ts q cl k n<=n):=λk n=>rP ts q cl n k;have av:Qk (∀n,jk ts q cl 0 n=n):=λn=>rfl;generalize jk ts q cl=lt at*;obtain⟨pn,aj⟩:∃pn:Nat->Nat,∀k,pn k=bH ts q.src.xs (E q.wh k lz).cs:=⟨_,λ_=>rfl⟩;simp only[<-aj]at BO Sq;clear aj;obtain⟨C,ak⟩:=eY (dF ts q.src.xs);rw[<-ak]at HR S;clear ak;obtain⟨Zq,hZ⟩:=eY (dJ ts q ss cl);rw[<-hZ]at S ⊢;clear hZ;have nT:Qk _:=hcl;have Ml:Qk _:=hss;clear fe hc ha hx hq hsm hcl hss;obtain⟨w1,A⟩:=eY (w.alloc (Qq q.cells 26));have ax:Bw w w1:=by rw[A];exact bz _ _
 have bO:GB w1 (M (H w)) 26 q.cells:=by rw[A];exact iB _ _
 obtain⟨⟨qD,iI,xs⟩,bF,aG,wh,aB,⟨sU,iZ,uw⟩,⟨uy,jw,wL⟩,⟨sV,ja,wM⟩,⟨wN,jN,uV⟩⟩:=q;unfold ae.cells ai.val at*;simp only at*;obtain⟨q0,q1,q2,q3,q4,q5,q6⟩:=bO.k7;have zg:=A.symm;have W:=Zh ax;clear A bO;go_enter func32,ntmps32;go_wp2;clear zg;go_loopw [10] (λy wr=>∃i:Nat,i<=N ss/\y=I J i/\Qk (((ss.take i).all λs=>decide (C s≠0))=T)/\Bw w1 wr) (λy _=>N ss-(intOf y).toNat)
 case atStart=>exact⟨0,ZP _,rfl,rfl,Q5 _ _⟩
 case round=>
  obtain⟨i,Q,rfl,HA,b⟩:=hrel;by_cases d:i<N ss
  .obtain⟨sb,so,tb,Ls,sn,tn,R,rfl,rfl,t,c1,c2,l,b1,b2,b3⟩:=HR.o i d;obtain⟨ib,io,rfl,u⟩:=QY Ml.o d;have r:=ah W.o b;have D:=cB r (u i d);rw[t]at D;obtain⟨d1,d2⟩:=iA r c1 c2;have P:=Zh (jY (p:=λs=>decide (C s≠0)) d HA.o);rw[l]at P;have HB:Qk (R=0->Zq=0):=λe=>by rw[S.o,Q8];rw[List.any_eq_true];exact⟨_,vv d,by rw[l,e];rfl⟩
   have TT:=cB b q0;clear t c1 c2 l u HA;by_cases au:R=0
   .subst au;go_wp2;go_quiet (fail);go_wp2;go_ret;exact⟨dG (a:=0) (HB.o (by trivial)).symm,Zc (ah W.o b) _⟩
   .have aL:((R:Int)==0)=false:=Qi
    go_wp2;go_quiet (fail);go_wp2;go_roundw
    case rel=>exact⟨i+1,X,Qf,P.o (Zg au),Zc b _⟩
    case measure=>exact Qw
  .have e:i=N ss:=X
   have G:=HA.o;rw[e,ZV]at G;have Lx:Qk (Zq=max (lt (N wh) ((ss.map C).foldl az 1)) 1):=by show _=_;rw[S.o,Zf];intro h;rw[List.any_eq_true]at h;obtain⟨s,hs,h1⟩:=h;have:=Q4.1 G s hs;exact ZZ this (ZZ h1)
   clear HA G e S;go_wp2;clear Q d;go_loopw [9,11] (λnv y wr=>∃i:Nat,i<=N ss/\y=I J i/\nv=I Qn (((ss.take i).map C).foldl az 1:Nat)/\Bw w1 wr) (λ_ y _=>N ss-(intOf y).toNat)
   case atStart=>exact⟨0,ZP _,rfl,rfl,b⟩
   case round=>
    clear b;obtain⟨i,Q,rfl,rfl,b⟩:=hrel;have z:((ss.take i).map C).foldl az 1<=aH:=eH _ _ (by unfold aH;omega);by_cases d:i<N ss
    .obtain⟨sb,so,tb,Ls,sn,tn,R,rfl,rfl,t,c1,c2,l,b1,b2,b3⟩:=HR.o i d;obtain⟨ib,io,rfl,u⟩:=QY Ml.o d;have r:=ah W.o b;have D:=cB r (u i d);rw[t]at D;obtain⟨d1,d2⟩:=iA r c1 c2;have P:=uj (f:=az) (g:=C) d 1;rw[l]at P;have ay:=Zh P;have TT:=cB b q0;clear t c1 c2 l u P;generalize ((ss.take i).map C).foldl az 1=n at*;have Sr:Qk (∀x,Cb 55 #[I Qn n,I Qn R] x (I Qn (az n R:Nat))):=λx=>(yn n R z (by unfold aH;omega) x).mono (λ_ _ h=>⟨h.1,by rw[h.2];exact Q5 _ _⟩)
     have aM:IntKind.u64.wrap (R:Int)=R:=by rw[IntKind.wrap_u64];omega
     clear z;go_wp2;refine Za ?_;refine OU ?_;refine IJ ?_;go_big_quiet_want;refine⟨I Qn (az n R:Nat),λx hx=>?_,?_⟩
     .have hC:=Zb hx (Sr.o x);go_simp
     simp only[pU];go_big_quiet_on;refine eT ?_;refine Xo ?_;intro w3 v;have BQ:=ah b v;clear v;go_wp2;go_roundw
     case rel=>exact⟨i+1,X,Qf,by rw[ay.o],BQ⟩
     case measure=>exact Qw
    .have e:i=N ss:=X
     rw[e,ZV]at z ⊢;clear e d Q;generalize (ss.map C).foldl az 1=Nq at*;unfold aH at z;have K:=cB b q1;have aa:=av.o Nq;go_wp2;clear K;go_loopw [9,12] (λnv y wr=>∃i:Nat,i<=N wh/\y=I J i/\nv=I Qn (lt i Nq:Nat)/\Bw w1 wr) (λ_ y _=>N wh-(intOf y).toNat)
     case atStart=>exact⟨0,ZP _,rfl,by rw[aa],b⟩
     case round=>
      clear b aa;obtain⟨i,Q,rfl,rfl,b⟩:=hrel;have K:=cB b q1;have aN:=Po.o i Nq;by_cases d:i<N wh
      .have Y9:=BO.o i d;have ag:=Y9.1;have aO:=Y9.2;have N7:=Zh ag;have j:=Sq.o i Nq;clear Y9 ag;generalize pn i=p,lt i Nq=n at*;have r:=ah W.o b;have uh:=iR co Pn cl (i:Int) wr (Q7 r nT.o);go_wp2_with fail;refine uh.mono ?_;clear uh;rintro e w2 ⟨rfl,rfl⟩;by_cases B:(i:Int)∈cl
       .rw[Zg B];rw[Q8 B]at j;have L:=Zh j;clear j;obtain⟨TT,aC,aF,Y7,WB,Y8⟩:=I7 b q0 q2 q3 q4 q5 q6;go_wp2_with fail;refine(show Calls _ _ _ _ _ from N7.o w2 r).mono ?_;rintro e w3 ⟨rfl,v⟩;have BQ:=ah b v;clear TT aC aF Y7 WB Y8 K v N7;have aR:¬p=0:=X
        have aS:((n:Int)).tdiv (p:Int)=((n / p:Nat):Int):=by rw[Int.tdiv_eq_ediv_of_nonneg X,Int.natCast_ediv]
        have aA:n / p<=18446744073709551615:=Qj (Nat.div_le_self n p);have aT:=lN aA;generalize n / p=m at*;go_wp2;go_roundw
        case rel=>exact⟨i+1,X,Qf,by rw[L.o],BQ⟩
        case measure=>exact Qw
       .rw[ZL B];rw[Zf B]at j;have L:=Zh j;clear j N7;go_wp2;go_roundw
        case rel=>exact⟨i+1,X,Qf,by rw[L.o],b⟩
        case measure=>exact Qw
      .have e:i=N wh:=X
       have HZ:=Zh (by rw[Lx.o,e]:Zq=max (lt i Nq) 1)
       clear e Lx;generalize lt i Nq=n at*;have r:=ah W.o b;by_cases aJ:n=0
       .subst aJ;go_wp2;go_ret;exact⟨dG (a:=1) (by rw[HZ.o];rfl),r⟩
       .have aU:((n:Int)==0)=false:=Qi
        go_wp2;go_ret;exact⟨dG (by rw[HZ.o];omega),r⟩
