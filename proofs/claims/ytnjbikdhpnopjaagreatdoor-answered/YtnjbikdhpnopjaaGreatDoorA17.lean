import Derived.Test.YtnjbikdhpnopjaaGreatDoorA08
import Derived.Test.YtnjbikdhpnopjaaGreatDoorA10
import Derived.Test.YtnjbikdhpnopjaaGreatDoorA14
set_option linter.all false
set_option maxRecDepth 100000
set_option maxHeartbeats 0
namespace Go.Proofs.Zz
open Go.RowKit Go.Shelf
open List renaming length->N,getD->E
open Go.Value renaming slice->Z,int->I,pointer->Y,bool->Wl,agg->FL
open Go.Proofs.Tryz renaming prog->V
open Option renaming some->O,none->xn
open Go.IntKind renaming i64->J
open Bool renaming false->F,true->T
open Go renaming World->U,Value->X3
open Go.World renaming heap->H,setCell->UC,cell?->UK
open _root_.Array renaming size->M
open Go.RowKit renaming Hid->Y3
open Go.Obj renaming cells->EP
open Go.Ending renaming returned->FN
variable {Fq Ft:Nat->Prop} {W0 w w' w0:U} {a base base':Nat} {u v v':X3} {os:List ae} {ls:List (X3 × List ai)} {Tl Tn:TypeId} {nv:List ai} {t:dH} {q:af} {o:ae} {ts:List ah} {f:aF}
def vJ(o:ae):List Value:=[o.val,Y xn]
theorem adl{Tq Tp:TypeId}(h:w.ownsRow base Tp 2 v (N os) (os.flatMap vJ))(h0:0<N os)(ho:∀o∈os,di Fq w o/\N o.xs<=1000)(A:Nat->Nat) :
  ∃gb cap,v=Z (O (aD gb 0)) (N os) cap/\base<=gb/\gb<M (H w)/\N os<=cap/\cap<=9223372036854775807/\qJ Tq Tp Fq w gb A os (sH (os.map ae.xs)):=by
 rcases h.2 with⟨_,h1⟩|⟨g,cap,cur,rfl,hb,hh,hc,hm,hs,ht⟩
 .omega
 have k:N (sH (os.map ae.xs))=N os:=by unfold sH;simp
 have l:∀i,i<N os->E os i eU∈os:=λi d=>by grind
 have m:∀i,i<N os->E (sH (os.map ae.xs)) i plz=((E os i eU).xs,xn):=λi d=>by unfold sH;grind
 have a:∀i j u,i<N os->j<2->(vJ (E os i eU))[j]? = O u->cur[i*2+j]? = O u:=λi j u d n t=>by have r:=Xq vJ 2 (λ_=>rfl) eU os i j d n;grind
 have b:∀p∈sH (os.map ae.xs),p.2=none:=λp e=>by unfold sH at e;grind
 refine⟨g,cap,rfl,hb,(QI.1 hh).1,hc,(by unfold maxLen at hm;omega),⟨cur,hh,λi d=>?_⟩,λi d=>?_,λp e x f=>?_,λp e y q x z f=>?_⟩
 .rw[k]at d;rw[m i d];exact⟨a i 0 _ d (by omega) rfl,a i 1 _ d (by omega) rfl⟩
 .grind
 .rw[b p e]at f
  cases f
 .rw[b p e]at f
  cases f
def Tryz.adm:(V.info? 177).map (λi=>(i.zero,i.size,i.bytes))=O (O (FL #[Z xn 0 0,Y xn]),2,32):=by kernel_rfl
theorem Yr(W:U)(base:Nat)(v:X3)(os:List ae)(hown:W.ownsRow base 177 2 v (N os) (os.flatMap vJ))(hl:N os<=1000)(hb:base<=M (H W))(o:ae)(ty:TypeId) :
  ∃d e,(Builtin.append_ #[132,132] ty #[v,Z (O (aD (M (H W)) 0)) 1 1]).run V (W.alloc (EP #[o.val,Y xn] 177))=.ok d e/\
   e.ownsRow base 177 2 d (N (os++[o])) ((os++[o]).flatMap vJ)/\Kept (λb=>v.ownBlock≠O b) W e/\(∃a m c,d = Z a m c):=by
 obtain⟨k,l,f,g,i⟩:=Zj Tryz.adm;obtain⟨d,e,n,t,p,q,r⟩:=iI (P:=V) W base 132 ty 177 k _ 2 32 Tryz.underlying132 l f g i rfl (by decide) v (N os) _ hown hb (vJ o) rfl (λu j=>by
  unfold vJ ae.val at j;simp at j;rcases j with rfl|rfl <;> rfl) hl (by decide)
 exact⟨d,e,n,by grind,p,q⟩
theorem KR(os:List ae)(io:Option Addr)(ic:Nat)(F8:aX w io (N os) (λi=>(E os i eU).val))(ho:∀o∈os,di Fq w o/\N o.xs<=1000)(h0:0<N os)(hl:N os<=1000)(A:Nat->Nat) :
  Calls V 59 #[Z io (N os) ic] w λe u=>∃gb cap,e=FN (Z (O (aD gb 0)) (N os) cap)/\M (H w)<=gb/\gb<M (H u)/\N os<=cap/\cap<=9223372036854775807/\qJ 105 177 Fq u gb A os (sH (os.map ae.xs))/\Bw w u:=by
 have K:Y3 _:=F8;have L:Y3 (∀x v,Bw w x->x.ownsRow (M (H w)) 177 2 v (N os) (os.flatMap vJ)->∃gb cap,v=Z (O (aD gb 0)) (N os) cap/\M (H w)<=gb/\gb<M (H x)/\N os<=cap/\cap<=9223372036854775807/\qJ 105 177 Fq x gb A os (sH (os.map ae.xs))):=λx v D hv=>adl hv h0 (λo G=>⟨(ho o G).1.below D,(ho o G).2⟩) A;have l:Y3 (∀k,k<N os->os.take (k+1)=os.take k++[E os k eU]):=λk B=>jT os eU B;have P:Y3 (os.take (N os)=os):=QX;generalize sH (os.map ae.xs)=R at*;clear F8 ho;go_enter Tryz.func59,Tryz.ntmps59;go_wp2;go_loopw [3,8] (λpv y wr=>∃k:Nat,k<=N os/\y=I J (k:Int)/\Y3 (wr.ownsRow (M (H w)) 177 2 pv (N (os.take k)) ((os.take k).flatMap vJ))/\Y3 (Bw w wr)) (λ_ y _=>N os-(intOf y).toNat)
 case atStart=>exact⟨0,QW _,rfl,Zk _ _ _ _,Qm _ _⟩
 case round=>
  obtain⟨k,B,rfl,f,d⟩:=hrel;obtain⟨p,q,r,rfl⟩:=Zc f.o;by_cases a:k<N os
  .obtain⟨bb,TK,rfl,g⟩:=Qf (aX.below d.o K.o) a;have m:=g k a;have z:=Zh (l.o k a);obtain⟨v',X,C,t,j,⟨za,zm,zc,rfl⟩⟩:=Yr wr (M (H w)) (Z p q r) (os.take k) f.o (by rw[Xu];omega) d.o.size (E os k eU) 132;rw[<-z.o]at t;have Q:Y3 _:=t;have S:=Zh (d.o.trans (j.below d.o.size (λb D e=>by have:=(Zb f.o e).1;omega)));generalize E os k eU=o at*;obtain⟨oa,oc,ox⟩:=o;simp only[ae.val]at*;clear g t j z f;go_wp2_with (first|(at_builtin;refine Xm rfl (.tmp 12) (.tmp 15) 132 rfl (Z p q r) (Z (O (aD (M (H wr)) 0)) 1 1) (Z za zm zc) X rfl rfl C ?_));clear C m;go_wp2;go_roundw
   case rel=>exact⟨k+1,by omega,by go_num,Q.o,S.o⟩
   case measure=>simp[intOf];omega
  .have n:N os=k:=by omega
   have W:Y3 _:=L.o wr (Z p q r) d.o (by
    have:=f.o;grind)
   clear n;go_wp2;go_ret;obtain⟨gb,cap,e,h1,h2,h3,h4,h5⟩:=W.o;exact⟨gb,cap,by rw[<-e];rfl,h1,h2,h3,h4,h5,d.o⟩
def Tryz.JF:(V.info? 102).map (λi=>(i.zero,i.size,i.bytes))=O (O (FL #[I J 0,I J 0,I J 0,I J 0,Z xn 0 0,I J 0,Z xn 0 0]),7,88):=by kernel_rfl
def ML{ns:List ai}:∀u∈ns.flatMap ai.list,u.oneCell' = true:=by intro u b;obtain⟨n,_,a⟩:=Z6.1 b;unfold ai.list ae.val at a;simp at a;rcases a with rfl|rfl|rfl|rfl|rfl|rfl|rfl <;> rfl
def JG(v:X3)(base:Nat)(ns:List ai)(w:U)(hx:w.ownsRow base 102 7 v (N ns) (ns.flatMap ai.list))(hl:N ns<=1000) :
  Calls V 156 #[v] w λe b=>∃v,e=FN v/\b.ownsRow (M (H w)) 102 7 v (N ns) (ns.flatMap ai.list)/\Bw w b:=by
 obtain⟨p,q,d,f,i⟩:=Zj Tryz.JF;rcases jo hx with⟨rfl,h1⟩|⟨g,cap,rfl,hb,hlt,hc⟩
 .have l:=List.length_eq_zero_iff.1 h1;subst l;have a:∀W,(binOp .eql 36 (.slice xn 0 0) (.slice xn 0 0)).run V W=.ok (.bool T) W:=λW=>Je W 36 _ xn _ _ _ _ Tryz.underlying36
  go_enter Tryz.func156,Tryz.ntmps156;go_wp2;go_ret;exact⟨_,rfl,Zk _ _ _ _,Qm _ _⟩
 .obtain⟨C,b,r,t,k,⟨y,z,A,rfl⟩⟩:=rC (P:=V) w 36 36 102 p _ 7 88 Tryz.underlying36 q d f i rfl (by decide) (aD g 0) (N ns) cap (ns.flatMap ai.list) (mF ai.list 7 (λ_=>rfl) ns)
   (λj u B=>⟨g,0,rfl,by rw[ZK];exact hc j u B⟩) ML (by omega) (by decide)
  have a:∀W,(binOp .eql 36 (.slice (O (aD g 0)) (N ns) cap) (.slice xn 0 0)).run V W=.ok (.bool F) W:=λW=>Je W 36 _ (O (aD g 0)) _ _ _ _ Tryz.underlying36;have m:Y3 _:=t;have n:=Zh k;go_enter Tryz.func156,Tryz.ntmps156;go_wp2_with (first|(at_builtin;refine Xm rfl (.tmp 5) (.tmp 6) 36 rfl (.slice (O (aD (M (H w)) 0)) 0 0) (.slice (O (aD g 0)) (N ns) cap) (.slice y z A) b rfl rfl r ?_));go_wp2;go_ret;exact⟨_,rfl,m.o,n.o⟩
theorem YO(v:X3)(base:Nat)(ns:List ai)(a:Nat)(w:U)(hx:w.ownsRow base 102 7 v (N ns) (ns.flatMap ai.list))(hl:N ns<=1000)(hs:bR w 0)(hk:∀m∈ns,1<=m.kind/\m.kind<=10) :
  Calls V 106 #[v,I J (a:Int)] w λe w'=>∃v,e=FN v/\w'.ownsRow (M (H w)) 102 7 v (N ns) ((ns.map (bU a)).flatMap ai.list)/\Bw w w':=by
 have ay:=JG v base ns w hx hl;have HS:=Zh hs;have az:Y3 (∀i,i<N ns->1<=(E ns i nz).kind/\(E ns i nz).kind<=10):=λi hi=>hk _ (Xl hi);obtain⟨aj,ak⟩:=aJ (OO a ns) (TU a ns);have L:Y3 (∀k,k<N ns->E (lg a ns k) k nz=E ns k nz):=λk hk=>TQ a hk;have aa:Y3 (∀k,k<N ns->lg a ns (k+1)=(lg a ns k).set k (bU a (E ns k nz))):=λk hk=>OM a hk;have D:=Zh (TP a ns);obtain⟨va,vn,vc,rfl⟩:=Zc hx;obtain⟨z,aG⟩:∃Mz,Mz=lg a ns:=⟨_,rfl⟩;rw[<-aG]at aj ak L aa D;generalize ns.map (bU a)=R at*;go_enter Tryz.func106,Tryz.ntmps106;go_wp2_with fail;refine ay.mono ?_;rintro e w1 ⟨v1,rfl,P,aH⟩;have aI:Y3 (w1.ownsRow (M (H w)) 102 7 v1 (N ns) ((z 0).flatMap ai.list)):=by rw[aj.o];exact P
 have aK:=Zh aH;obtain⟨xa,xm,xc,rfl⟩:=Zc P;have aA:xm=N ns:=by
  rcases P.2 with⟨h,h1⟩|⟨g,c,cur,h,_⟩
  .injection h with _ h _;omega
  .injection h with _ h _
 subst aA;go_wp2;go_loopw [12] (λiv wr=>∃k:Nat,k<=N ns/\iv=I J (k:Int)/\Y3 (wr.ownsRow (M (H w)) 102 7 (Z xa (N ns) xc) (N ns) ((z k).flatMap ai.list))/\Y3 (Bw w wr)) (λiv _=>N ns-(intOf iv).toNat)
 case atStart=>grind
 case round=>
  obtain⟨k,hk,rfl,S,W⟩:=hrel;by_cases u:k<N ns
  .obtain⟨g,cap,hv,aP,aQ,p⟩:=TN S.o (i:=k) (by rw[D.o];exact u);simp only[Value.slice.injEq]at hv;obtain⟨rfl,-,rfl⟩:=hv;rw[L.o k u]at p;obtain⟨au,av⟩:=az.o k u;obtain⟨Q,K⟩:=aJ (aa.o k u) (L.o k u);obtain⟨n,hn⟩:=eY (E ns k nz)
   rw[<-hn]at p au av Q K;have c0:=p 0 _ (by omega) rfl;have c1:=p 1 _ (by omega) rfl;have c2:=p 2 _ (by omega) rfl;rw[Xb]at c0;have aL:=I4 S.o (g:=g) rfl (k*7+1);obtain⟨kd,ax⟩:=XT (show 0<=n.kind by omega);have hS:=(Ja W.o HS.o).get (k:=kd) (by omega);obtain⟨s0,-⟩:=hS;have ae:=tZ au;rw[ax]at ae c0;rw[ae,ZK]at s0;have af:bU a n=⟨n.kind,if 1<=arity (kd:Int) then wrap64 (n.l+a) else n.l,if 2<=arity (kd:Int) then wrap64 (n.r+a) else n.r,n.source,n.cl,n.key,n.co⟩:=by unfold bU;rw[ax]
   have aB:arity (kd:Int)<=2:=by unfold arity;split <;> (try split) <;> omega
   generalize arity (kd:Int)=ar at*;have aM:kd<=10:=by omega
   obtain⟨nk,t,y,d,B,f,C⟩:=n;simp only at*
   match ar,aB with
   |0,_ =>
    have HN:Y3 (z (k+1)=z k):=by
     show _=_;have e:bU a ⟨nk,t,y,d,B,f,C⟩=⟨nk,t,y,d,B,f,C⟩:=by rw[af];simp
     rw[Q.o,e];have:=agw (z k) nz (k:=k) (by rw[D.o];exact u);rw[K.o]at this;exact this
    have G:Y3 _:=S;rw[<-HN.o]at G;go_wp2;go_roundw
    case rel=>grind
    case measure=>simp[intOf];omega
   |1,_ =>
    obtain⟨X,A⟩:∃x,UC wr (aD g (k*7+1)) (I J (wrap64 (t+a)))=x:=⟨_,rfl⟩;have HN:Y3 (z (k+1)=(z k).set k ⟨nk,wrap64 (t+a),y,d,B,f,C⟩):=by grind
    have q:=Gl S.o (g:=g) rfl (j:=k*7+1) (by omega) (I J (wrap64 (t+a)));rw[yQ (z k) k 1 (I J (wrap64 (t+a))) ⟨nk,wrap64 (t+a),y,d,B,f,C⟩ (by rw[D.o];exact u) (by omega) (by rw[K.o];rfl),<-HN.o,A]at q;have G:Y3 _:=q;have oJ:Y3 (Bw w X):=by show Below _ _ _;rw[<-A];exact W.o.trans ((Ji (g:=g) _).below W.o.size (λb hb=>by omega))
    go_wp2;go_roundw
    case rel=>exact⟨k+1,by omega,by go_num,G.o,oJ.o⟩
    case measure=>simp[intOf];omega
   |2,_ =>
    obtain⟨X,A⟩:∃x,UC wr (aD g (k*7+1)) (I J (wrap64 (t+a)))=x:=⟨_,rfl⟩;obtain⟨w5,vT⟩:∃x,UC X (aD g (k*7+2)) (I J (wrap64 (y+a)))=x:=⟨_,rfl⟩;have HN:Y3 (z (k+1)=((z k).set k ⟨nk,wrap64 (t+a),y,d,B,f,C⟩).set k ⟨nk,wrap64 (t+a),wrap64 (y+a),d,B,f,C⟩):=by
     show _=_;have e:bU a ⟨nk,t,y,d,B,f,C⟩=⟨nk,wrap64 (t+a),wrap64 (y+a),d,B,f,C⟩:=by rw[af];simp
     rw[Q.o,e,List.set_set]
    have q:=Gl S.o (g:=g) rfl (j:=k*7+1) (by omega) (I J (wrap64 (t+a)));have ag:k<N (z k):=by rw[D.o];exact u
    rw[yQ (z k) k 1 (I J (wrap64 (t+a))) ⟨nk,wrap64 (t+a),y,d,B,f,C⟩ ag (by omega) (by rw[K.o];rfl),A]at q;have aC:E ((z k).set k ⟨nk,wrap64 (t+a),y,d,B,f,C⟩) k nz=⟨nk,wrap64 (t+a),y,d,B,f,C⟩:=by grind
    have ah:=Gl q (g:=g) rfl (j:=k*7+2) (by omega) (I J (wrap64 (y+a)));rw[yQ _ k 2 (I J (wrap64 (y+a))) ⟨nk,wrap64 (t+a),wrap64 (y+a),d,B,f,C⟩ (by rw[List.length_set];exact ag) (by omega) (by rw[aC];rfl),<-HN.o,vT]at ah;have aN:UK X (aD g (k*7+2))=O (I J y):=by rw[<-A];exact(World.cell?_setCell_other _ _ _ _ (by simp)).trans c2
    have aO:X.frozen? (aD g (k*7+2))=false:=I4 q (g:=g) rfl _;have G:Y3 _:=ah;have jG:Y3 (Bw w w5):=by
     show Below _ _ _;have h4:Bw w X:=by rw[<-A];exact W.o.trans ((Ji (g:=g) _).below W.o.size (λb hb=>by omega))
     rw[<-vT];exact h4.trans ((Ji (g:=g) _).below h4.size (λb hb=>by omega))
    go_wp2;go_roundw
    case rel=>exact⟨k+1,by omega,by go_num,G.o,jG.o⟩
    case measure=>simp[intOf];omega
  .have aF:N ns=k:=by omega
   have HF:Y3 _:=S;rw[<-aF,ak.o]at HF;go_wp2;go_ret;exact⟨_,rfl,HF.o,W.o⟩
def Ev(ls:List (List ai)):(gW ls).map fJ=gW (ls.map λl=>l.map fJ):=by
 unfold gW
 suffices h:∀(ls:List (List ai)) (a:List ai),(ls.foldl (λa l=>a++l.map (bU (N a))) a).map fJ=(ls.map λl=>l.map fJ).foldl (λa l=>a++l.map (bU (N a))) (a.map fJ) from h ls []
 intro ls
 induction ls with
 |nil=>intro a;rfl
 |cons l ls ih =>
  intro a;rw[ZF,ih,Xg,ZF,Qi,Z9,Z9,Zm];rfl
def adG(ls:List (List ai)){i:Nat}(hi:i<N ls):gW (ls.take (i+1))=gW (ls.take i)++(E ls i []).map (bU (N (gW (ls.take i)))):=by rw[jT ls [] hi,acT]
theorem ahq{ls:List (List ai)}:∀m∈gW ls,∃l∈ls,∃x∈l,m.cl=x.cl/\m.co=x.co:=by
 suffices h:∀(ls:List (List ai)) (a:List ai),∀m∈ls.foldl (λa l=>a++l.map (bU (N a))) a,m∈a∨∃l∈ls,∃x∈l,m.cl=x.cl/\m.co=x.co by
  intro m d;rcases h ls [] m d with h|h
  .cases h
  .exact h
 intro ls
 induction ls with
 |nil=>intro a m h;exact .inl h
 |cons l ls ih =>
  intro a m h;rcases ih _ m h with h|⟨e,f,g⟩
  .rcases Zi.1 h with h|h
   .exact .inl h
   .obtain⟨x,b,rfl⟩:=ZC.1 h;exact .inr ⟨l,Jd,x,b,rfl,rfl⟩
  grind
theorem KX(ls:List (List ai))(h2:N ls<=2)(i:Nat):N (gW (ls.take i))<=N (gW ls):=by rw[IP _ (by rw[Xu];omega),IP _ h2];grind
def Dm{e:TypeId}{sz:Nat}{n:Nat}{xs:List X3}(h:w.ownsRow base e sz v n xs)(hb:base'<=base):w.ownsRow base' e sz v n xs:=
 ⟨h.1,h.2.imp id λ⟨g,cap,cur,e,h1,h2⟩=>⟨g,cap,cur,e,Qz hb h1,h2⟩⟩
def JH(w:U)(ao:Option Addr)(vs:List X3):Prop:=aX w ao (N vs) (λi=>E vs i (Z xn 0 0))
theorem YP(W:U)(base atT:Nat)(v v2:X3)(acc ms:List ai)(hown:W.ownsRow base 102 7 v (N acc) (acc.flatMap ai.list))(h2:W.ownsRow atT 102 7 v2 (N ms) (ms.flatMap ai.list))(hl:N acc+N ms<=1000)(hb:base<=M (H W))(ty:TypeId) :
  ∃d f,(Builtin.append_ #[36,36] ty #[v,v2]).run V W=.ok d f/\
   f.ownsRow base 102 7 d (N (acc++ms)) ((acc++ms).flatMap ai.list)/\Kept (λb=>v.ownBlock≠O b) W f/\(∃a m c,d = Z a m c):=by
 obtain⟨p,q,i,k,l⟩:=Zj Tryz.JF;rcases jo h2 with⟨rfl,h1⟩|⟨g,cap,rfl,_,hlt,hc⟩
 .have t:=List.length_eq_zero_iff.1 h1;subst t;refine⟨v,W,run_append_owned_none (P:=V) (w:=W) base 36 ty 102 p 7 Tryz.underlying36 q v (N acc) _ hown,by rw[Xd];exact hown,Qy _ _,Zc hown⟩
 .obtain⟨d,f,n,y,z,_,_⟩:=Xo (P:=V) W base 36 ty 102 p _ 7 88 Tryz.underlying36 q i k l rfl (by decide) v (N acc) _ hown (aD g 0) (N ms) cap (ms.flatMap ai.list) (mF ai.list 7 (λ_=>rfl) ms)
   (λj u A=>by rw[iB,ZK];exact hc j u A) ML (by unfold maxLen;omega) (by omega) hb
  exact⟨d,f,n,by grind,Q9 z (λr e n=>n e),Zc y⟩
theorem Ew(W:U)(base:Nat)(v:X3)(acc:List ai)(hown:W.ownsRow base 102 7 v (N acc) (acc.flatMap ai.list))(hl:N acc<=1000)(hb:base<=M (H W))(n:ai)(ty:TypeId) :
  ∃d e,(Builtin.append_ #[36,36] ty #[v,Z (O (aD (M (H W)) 0)) 1 1]).run V (W.alloc (EP n.cells 102))=.ok d e/\
   e.ownsRow base 102 7 d (N (acc++[n])) ((acc++[n]).flatMap ai.list)/\Kept (λb=>v.ownBlock≠O b) W e/\(∃a m c,d = Z a m c):=by
 obtain⟨k,l,f,g,i⟩:=Zj Tryz.JF;obtain⟨d,e,p,y,q,r,t⟩:=iI (P:=V) W base 36 ty 102 k _ 7 88 Tryz.underlying36 l f g i rfl (by decide) v (N acc) _ hown hb n.list rfl (λu j=>by
  unfold ai.list ae.val at j;simp at j;rcases j with rfl|rfl|rfl|rfl|rfl|rfl|rfl <;> rfl) hl (by decide)
 exact⟨d,e,p,by grind,q,r⟩
theorem ahr(hF:∀b,M (H w)<=b->Fq b)(hs:bR w 0)(n:ai)(hcl:n.cl.At w)(hcn:n.cl.ad=xn->n.cl.cap=0)(hco:n.co.At w)(hdn:n.co.ad=xn->n.co.cap=0)(hll:N n.cl.xs<=1000/\N n.co.xs<=1000)
  (io:Option Addr) (ic:Nat) (ls:List (X3 × List ai)) (F8:JH w io (ls.map Prod.fst)) (hls:∀x∈ls,(∃base,iY 102 Fq base w x.1 x.2)/\∀m∈x.2,1<=m.kind/\m.kind<=10) (h2:N ls<=2) (hlen:N (gW (ls.map Prod.snd))<=900) :
  Calls V 66 #[FL n.cells,Z io (N ls) ic] w (kM 102 Fq w (vF n (ls.map λx=>x.2.map fJ))):=by
 obtain⟨D,aC⟩:=eY (ls.map Prod.snd);have J5:N D=N ls:=by rw[aC,Zm]
 obtain⟨d,aF⟩:∃d:Nat->List ai,d=λi=>gW (D.take i):=⟨_,rfl⟩;have aZ:Y3 (d 0=[]):=by rw[aF];rfl
 have bf:Y3 (∀i,i<N ls->d (i+1)=d i++(E D i []).map (bU (N (d i)))):=λi hi=>by rw[aF];exact adG D (by omega)
 have au:Y3 (∀i,N (d i)<=900):=λi=>by rw[aF];exact Qz (KX D (by omega) i) (by rw[aC];exact hlen)
 have bg:Y3 (∀i,i<N ls->∃base,(w.ownsRow base 102 7 (E (ls.map Prod.fst) i (Z xn 0 0)) (N (E D i [])) ((E D i []).flatMap ai.list))/\∀m∈D.getD i [],1<=m.kind/\m.kind<=10):=λi hi=>by
  have e1:E (ls.map Prod.fst) i (Z xn 0 0)=(ls[i]).1:=by grind
  have e2:E D i []=(ls[i]).2:=by grind
  obtain⟨⟨base,r⟩,hk⟩:=hls _ (Zv hi);rw[e1,e2];exact⟨base,r.own,hk⟩
 have lu:Y3 (∀(x:U) (v:X3) (y z:ae),Bw w x->x.ownsRow (M (H w)) 102 7 v (N (d (N ls)++[(⟨n.kind,xP D 0,xP D 1,n.source,y,n.key,z⟩:ai)])) ((d (N ls)++[(⟨n.kind,xP D 0,xP D 1,n.source,y,n.key,z⟩:ai)]).flatMap ai.list)->y.xs=n.cl.xs->z.xs=n.co.xs->di Fq x y->di Fq x z->
   kM 102 Fq w (vF n (ls.map λx=>x.2.map fJ)) (FN v) x):=by
  intro x v y z bW hv hy hz aj af;have bn:d (N ls)=gW D:=by grind
  refine⟨v,_,rfl,?_,⟨hv,λg hg=>hF g (Zb hv hg).1,λm hm=>?_⟩,bW⟩
  .rw[Qi,bn,Ev];unfold vF;have e1:(D.map λl=>l.map fJ)=ls.map λx=>x.2.map fJ:=by rw[aC,Z9];rfl
   have e2:∀i,xP D i=xP (ls.map λx=>x.2.map fJ) i:=λi=>by unfold xP;rw[<-e1,Zm,<-List.map_take,<-Ev,Zm]
   rw[e1];congr 1;rw[XA];show [(⟨n.kind,xP D 0,xP D 1,n.source,⟨xn,0,y.xs⟩,n.key,⟨xn,0,z.xs⟩⟩:ai)]=_;rw[hy,hz,e2,e2]
  .rcases Zi.1 hm with hm|hm
   .rw[bn]at hm;obtain⟨l,hl,u,hu,e1,e2⟩:=ahq m hm;rw[aC]at hl;obtain⟨x0,dm,rfl⟩:=ZC.1 hl;obtain⟨⟨base,r⟩,_⟩:=hls x0 dm;obtain⟨h1,h2,h3,h4,h5⟩:=(r.below bW).lists u hu
    grind
   .rw[Zg]at hm;rw[hm];exact⟨aj.at',aj.inf,af.at',af.inf,af.cap⟩
 have q9:Y3 (∀j,j<2->xP D j=if j<N ls then (N (d (j+1)):Int)-1 else 0):=λj _=>by unfold xP;rw[aF,J5]
 have Y6:=hd F8;have bX:=hd hs;have bq:Y3 (N (ls.map Prod.fst)=N ls):=Zm _;have aT:Y3 (∀x,Bw w x->Calls V 56 #[n.cl.val] x λe w'=>∃v,e=FN v/\w'.ownsRow (M (H x)) 3 1 v (N n.cl.xs) (n.cl.xs.map (Value.int J))/\Bw x w'):=λx hx=>uf n.cl x (Qo hx hcl) hcn (by omega);have Pb:Y3 (∀x,Bw w x->Calls V 56 #[n.co.val] x λe w'=>∃v,e=FN v/\w'.ownsRow (M (H x)) 3 1 v (N n.co.xs) (n.co.xs.map (Value.int J))/\Bw x w'):=λx hx=>uf n.co x (Qo hx hco) hdn (by omega);obtain⟨av,Az⟩:=aJ hll hF;clear hlen hls F8 hs hcl hcn hco hdn hll aF J5 aC hF;generalize vF n (ls.map λx=>x.2.map fJ)=R at*;generalize ls.map Prod.fst=vs at*;generalize N ls=sl at*;clear ls;obtain⟨kind,nl,nr,src,⟨ca,cc,cl⟩,key,⟨da,dc,co⟩⟩:=n;simp only[ai.cells,ae.val]at*;obtain⟨w1,dn,dw,ay⟩:=aL w #[I J kind,I J nl,I J nr,I J src,Z ca (N cl) cc,I J key,Z da (N co) dc] 102;obtain⟨w2,dx,bO,aP⟩:=aL w1 #[I J 0,I J 0] 186;have wI:=Zh (ay.of (bO.block _ ay.lt));have bY:=hd aP;have bu:=Zh (az dw bO);have JM:Y3 (M (H w1)=M (H w)+1):=by show _=_;rw[<-dn];simp
 have bz:Y3 (M (H w2)=M (H w)+2):=by show _=_;rw[<-dx];simp;exact JM.o
 go_enter Tryz.func66,Tryz.ntmps66;go_wp2;go_loopw [5,11] (λnv iv wr=>∃k:Nat,k<=sl/\iv=I J (k:Int)/\Y3 (wr.ownsRow (M (H w2)) 102 7 nv (N (d k)) ((d k).flatMap ai.list))/\Y3 (GB wr (M (H w)) 102 #[I J kind,I J nl,I J nr,I J src,Z ca (N cl) cc,I J key,Z da (N co) dc])/\
   Y3 (GB wr (M (H w1)) 186 #[I J (if 0<k then (N (d 1):Int)-1 else 0),I J (if 1<k then (N (d 2):Int)-1 else 0)])/\Y3 (Bw w wr)/\Y3 (M (H w2)<=M (H wr))) (λ_ iv _=>sl-(intOf iv).toNat)
 case atStart=>exact⟨0,QW _,rfl,by rw[aZ.o];exact Zk _ _ _ _,wI.o,bY.o,bu.o,Qn _⟩
 case round=>
  obtain⟨k,hk,rfl,HO,Mv,zn,HB,Ig⟩:=hrel;obtain⟨xa,xm,xc,rfl⟩:=Zc HO.o;have bZ:xm=N (d k):=by
   rcases HO.o.2 with⟨h,h1⟩|⟨g,c,cur,h,_⟩
   .injection h with _ h _;omega
   .injection h with _ h _
  subst bZ;by_cases aN:k<sl
  .obtain⟨bb,TK,dz,bP⟩:=Qf (aX.below HB.o Y6.o) (i:=k) (by rw[bq.o];exact aN);subst dz;have bA:=bP k (by rw[bq.o];exact aN);obtain⟨base,ak,aW⟩:=bg.o k aN;have aO:=Zh (bf.o k aN);have aU:=au.o (k+1);have cz:=au.o k;rw[aO.o,Zn,Zm]at aU;obtain⟨L,hL⟩:=eY (E D k [])
   obtain⟨lv,aY⟩:∃L,L=E vs k (Z xn 0 0):=⟨_,rfl⟩;rw[<-hL,<-aY]at ak;rw[<-hL]at aW aO aU;rw[<-aY]at bA;have bB:=YO lv base L (N (d k)) wr (Za ak (QB (s:=λb=>b<M (H w)) HB.o (λb _ h=>h)) (λg hg=>(Zb ak hg).2)) (by omega) (Ja HB.o bX.o) aW;obtain⟨la,lm,lc,rfl⟩:=Zc ak;have cK:N L=N (L.map (bU (N (d k)))):=by rw[Zm]
   clear bP ak aW hL aY;go_wp2_with fail;refine bB.mono ?_;rintro e w3 ⟨v3,rfl,aR,aG⟩;clear bB;have bD:=Za HO.o (QB (s:=λb=>b<M (H wr)) aG (λb _ h=>h)) (λg hg=>(Zb HO.o hg).2);rw[cK]at aR;obtain⟨v4,w4,bQ,KS,bS,⟨W,ym,X,rfl⟩⟩:=YP w3 (M (H w2)) (M (H wr)) (Z xa (N (d k)) xc) v3 (d k) (L.map (bU (N (d k)))) bD aR (by rw[Zm];omega) (Qz Ig.o aG.size) 36;rw[<-aO.o]at KS;have cO:ym=N (d (k+1)):=by
    rcases KS.2 with⟨h,h1⟩|⟨g,c,cur,h,_⟩
    .injection h with _ h _;omega
    .injection h with _ h _
   subst cO;obtain⟨ta,tm,tc,rfl⟩:=Zc aR;have bE:∀b,b<M (H w2)->(Value.slice xa (N (d k)) xc).ownBlock≠O b:=λb q e=>by have:=(Zb HO.o e).1;omega
   have YQ:=bS.below (Qz Ig.o aG.size) bE;have ax:=(aG.mono Ig.o).trans YQ;have bF:M (H w)<M (H w2)/\M (H w1)<M (H w2):=by have:=JM.o;have:=bz.o;omega
   have ay:=Mv.o.of (ax.block _ bF.1);have aP:=zn.o.of (ax.block _ bF.2);have dD:Y3 _:=KS;have cZ:=hd ay;have aQ:=hd aP;obtain⟨oJ,dA⟩:=aJ (HB.o.trans (ax.mono bu.o.size)) (Qz Ig.o ax.size);have bG:=λj=>GB.frozen aQ.o j;have dE:=au.o (k+1);have bH:k<2:=by omega
   have dC:wrap64 ((N (d (k+1)):Int)-1)=(N (d (k+1)):Int)-1:=by unfold wrap64;omega
   obtain⟨w5,vT⟩:∃x,UC w4 (aD (M (H w1)) k) (I J ((N (d (k+1)):Int)-1))=x:=⟨_,rfl⟩;have Fy:Y3 (w5.ownsRow (M (H w2)) 102 7 (Z W (N (d (k+1))) X) (N (d (k+1))) ((d (k+1)).flatMap ai.list)):=by rw[<-vT];exact Za KS (Ji (g:=M (H w1)) _) (λg hg=>by have:=(Zb KS hg).1;omega)
   have zL:Y3 (GB w5 (M (H w)) 102 #[I J kind,I J nl,I J nr,I J src,Z ca (N cl) cc,I J key,Z da (N co) dc]):=by rw[<-vT];exact GB.keep cZ.o (Ji (g:=M (H w1)) _) (by have:=JM.o;omega)
   have df:Y3 (GB w5 (M (H w1)) 186 #[I J (if 0<k+1 then (N (d 1):Int)-1 else 0),I J (if 1<k+1 then (N (d 2):Int)-1 else 0)]):=by
    show GB _ _ _ _;have:=GB.set aQ.o k (I J ((N (d (k+1)):Int)-1));rw[<-vT]
    match k,bH,this with
    |0,_,h=>exact h
    |1,_,h=>exact h
   have C:Y3 (Bw w w5):=by show Below _ _ _;rw[<-vT];exact oJ.o.trans ((Ji (g:=M (H w1)) _).below oJ.o.size (λb q=>by have:=JM.o;omega))
   have aA:Y3 (M (H w2)<=M (H w5)):=by show _<=_;rw[<-vT];simpa using dA.o
   have bI:∃u,UK w4 (aD (M (H w1)) k)=O u:=by
    match k,bH with
    |0,_=>exact⟨_,aQ.o.cell 0⟩
    |1,_=>exact⟨_,aQ.o.cell 1⟩
   obtain⟨cu,bI⟩:=bI;have dF:=bG k;clear YQ ax ay aP KS bS aR bD bE aG bG HO Mv zn aO cz aU;go_wp2_with (first|(at_builtin;refine Xm rfl (.tmp 16) (.tmp 20) 36 rfl (Z xa (N (d k)) xc) (Z ta tm tc) (Z W (N (d (k+1))) X) w4 rfl rfl bQ ?_));clear bQ bA;go_wp2;go_roundw
   case rel=>exact⟨k+1,by omega,by go_num,Fy.o,zL.o,df.o,C.o,aA.o⟩
   case measure=>simp[intOf];omega
  .have dh:sl=k:=by omega
   subst dh;have h0:(if 0<sl then (N (d 1):Int)-1 else 0)=xP D 0:=(q9.o 0 (by omega)).symm;have h1:(if 1<sl then (N (d 2):Int)-1 else 0)=xP D 1:=(q9.o 1 (by omega)).symm;rw[h0,h1]at zn;obtain⟨e0,bT⟩:∃e,e=xP D 0:=⟨_,rfl⟩;obtain⟨e1,bV⟩:∃e,e=xP D 1:=⟨_,rfl⟩;rw[<-bT,<-bV]at zn lu;obtain⟨w3,dB⟩:∃x,x=wr:=⟨_,rfl⟩;subst dB;clear h0 h1 bT bV q9 bg bf aN hk aZ;have FU:Y3 (M (H w)<M (H w2)/\M (H w1)<M (H w2)/\M (H w)<M (H w1)):=by have:=JM.o;have:=bz.o;show _/\_;omega
   have bJ:M (H w1)≠M (H w):=by have:=FU.o;omega
   obtain⟨z0,z1⟩:=zn.o.k2;have bK:=Mv.o.of (((Qm (M (H w3)) w3).drew).block _ Mv.o.lt);have d1:=bK.at 1;have f1:=bK.frozen 1;have aV:=Mv.o.set 1 (I J e0);have aS:=aV.of (((Qm _ _).drew).block _ aV.lt);have d2:(UC w3 (aD (M (H w)) 1) (I J e0)).drew.cell? (aD (M (H w)) 2)=O (I J nr):=aS.cell 2;have f2:=aS.frozen 2;have bL:=aV.set 2 (I J e1);have bM:=bL.of (((Qm _ _).drew).block _ bL.lt);obtain⟨w5,vT⟩:∃x,(UC (UC w3 (aD (M (H w)) 1) (I J e0)) (aD (M (H w)) 2) (I J e1)).drew=x:=⟨_,rfl⟩;rw[vT]at bM;have zL:=hd bM;have Kv:Kept (λb=>b≠M (H w)) w3 w5:=by rw[<-vT];exact((Ji (g:=M (H w)) _).trans (Ji (g:=M (H w)) _)).trans (QB ((Qm _ _).drew) (λ_ hl _=>hl))
   obtain⟨Fy,C,aA⟩:=dQ (Za HO.o Kv (λg hg=>by have:=(Zb HO.o hg).1;have:=FU.o;omega)) (HB.o.trans (Kv.below HB.o.size (λb q=>by have:=FU.o;omega))) (Qz Ig.o Kv.size);go_wp2_with fail;refine Qv (S:=λx=>Kept (λb=>b≠M (H w)) w3 x) (by kernel_rfl) (QB ((Qm (M (H w3)) w3).drew) (λ_ hl _=>hl)) (λp=>?_);refine wt 0 (Y (O (aD (M (H w1)) 0))) p ?_;refine wT 1 (I J e0) p (λx hx=>?_) ?_
   .have e0:=Q0 z0 hx bJ;go_simp
   refine wt 2 (Y (O (aD (M (H w1)) 1))) p ?_;refine wT 3 (I J e1) p (λx hx=>?_) ?_
   .have e0:=Q0 z1 hx bJ;go_simp
   refine wt 4 (Y (O (aD (M (H w)) 1))) p ?_;refine wR 5 λK r=>?_;go_simp;refine r.o _ _ (p.trans (Q8 _ _ _ (λh=>h rfl))) (λp=>?_);refine wt 6 (Y (O (aD (M (H w)) 2))) p ?_;refine wR 7 λK r=>?_;go_simp;refine r.o _ _ Kv λp=>?_;refine wD ?_;try simp only[pU]
   try rw[vT]
   have n4:=zL.o.at 4;have n6:=zL.o.at 6;go_wp2_with fail;refine Qv (S:=λx=>Kept (λb=>b≠M (H w)) w5 x) (by kernel_rfl) (QB ((Qm (M (H w5)) w5).drew) (λ_ hl _=>hl)) (λp=>?_);refine wt 0 (Y (O (aD (M (H w)) 4))) p ?_;refine wt 3 (Y (O (aD (M (H w)) 6))) p ?_;have a:=(Qm (M (H w5)) w5).drew;refine wJ 1 4 (λK r=>?_) λK r=>?_
   .skip;have lo:=cB a n4;go_simp;refine r.o _ _ p λp=>?_
    refine wJ 2 4 (λK r=>?_) λK r=>?_
    .skip;go_simp;refine XX (aT.o _ (C.o.trans (a.mono C.o.size))) ?_;rintro e wA ⟨vv,rfl,aa,B⟩;obtain⟨aH,Aj,t,JI⟩:=vH (Fq:=λb=>Fq b/\M (H w5)<=b) aa (by have:=av.o;omega) (λb q=>⟨Az.o b (Qz C.o.size (Qz a.size q)),Qz a.size q⟩);obtain⟨W,X,yx⟩:=aH;simp only[ae.val]at Aj t;subst Aj;have t:=t.symm;subst t;have a:=a.trans (B.mono a.size);refine r.o _ _ (QB a (λb q _=>q)) (λp=>?_);refine wR 4 λK r=>?_
     have lo:=cB a n6;go_simp;refine r.o _ _ p λp=>?_;refine wt 6 (Y (O (aD (M (H w)) 4))) p ?_;refine wR 5 λK r=>?_;go_simp;refine XX (Pb.o _ (C.o.trans (a.mono C.o.size))) ?_;rintro e wB ⟨vv,rfl,aa,B⟩;obtain⟨aI,Aj,A,aK⟩:=vH (Fq:=λb=>Fq b/\M (H w5)<=b) aa (by have:=av.o;omega) (λb q=>⟨Az.o b (Qz C.o.size (Qz a.size q)),Qz a.size q⟩);obtain⟨za,zc,zx⟩:=aI;simp only[ae.val]at Aj A;subst Aj;have A:=A.symm;subst A;have a:=a.trans (B.mono a.size);have JI:=JI.below B;refine r.o _ _ (QB a (λb q _=>q)) (λp=>?_);have G:GB wB (M (H w)) 102 #[I J kind,I J e0,I J e1,I J src,Z ca (N cl) cc,I J key,Z da (N co) dc]:=zL.o.of (a.block _ zL.o.lt);have m4:=G.at 4;have f4:=G.frozen 4;have P:=G.set 4 (Z W (N cl) X);have m6:UK (UC wB (aD (M (H w)) 4) (Z W (N cl) X)) (aD (M (H w)) 6)=O (Z da (N co) dc):=P.cell 6;have f6:=P.frozen 6;have ag:=P.set 6 (Z za (N co) zc);refine wR 7 λK r=>?_;go_simp;refine r.o _ _ (p.trans (Ji (g:=M (H w)) (j:=4) (Z W (N cl) X))) (λp=>?_);refine wt 8 (Y (O (aD (M (H w)) 6))) p ?_;refine wR 9 λK r=>?_;go_simp;refine r.o _ _ (p.trans (Ji (g:=M (H w)) (j:=6) (Z za (N co) zc))) (λp=>?_);refine wD ?_;try simp only[pU]
     obtain⟨w6,vY⟩:∃x,UC (UC wB (aD (M (H w)) 4) (Z W (N cl) X)) (aD (M (H w)) 6) (Z za (N co) zc)=x:=⟨_,rfl⟩;rw[vY]at ag ⊢;have Q:Kept (λb=>b≠M (H w)) wB w6:=by rw[<-vY];exact(Ji (g:=M (H w)) _).trans (Ji (g:=M (H w)) _)
     have JJ:=(QB a (λb q _=>q)).trans Q;have aB:=Za Fy.o JJ (λg hg=>by have:=(Zb Fy.o hg).1;have:=FU.o;omega);have ah:=C.o.trans (JJ.below C.o.size (λb q=>by have:=FU.o;omega));obtain⟨v7,w7,Ky,aM,wM,⟨qa,qm,qc,rfl⟩⟩:=Ew w6 (M (H w2)) (Z xa (N (d sl)) xc) (d sl) aB (by have:=au.o sl;omega) (Qz aA.o JJ.size) ⟨kind,e0,e1,src,⟨W,X,cl⟩,key,⟨za,zc,co⟩⟩ 36;simp only[ai.cells,ae.val]at Ky;have bN:=zL.o.lt;have f:∀b,(Value.slice xa (N (d sl)) xc).ownBlock=O b->M (H w2)<=b/\b<M (H w5):=λb e=>Zb Fy.o e;have aj:=((JI.bC (Q.mono λb _ h=>by have:=h.2;omega)).bC (wM.mono λb _ h e=>by have:=(f b e).2;have:=h.2;omega)).mono λb _ h=>h.1;have af:=((aK.bC (Q.mono λb _ h=>by have:=h.2;omega)).bC (wM.mono λb _ h e=>by have:=(f b e).2;have:=h.2;omega)).mono λb _ h=>h.1;have mO:=ah.trans (wM.below ah.size (λb q e=>by have:=(f b e).1;have:=FU.o;omega));have HF:Y3 _:=lu.o w7 (Z qa qm qc) ⟨W,X,cl⟩ ⟨za,zc,co⟩ mO (Dm aM (by have:=FU.o;omega)) rfl rfl aj af;obtain⟨t0,t1,t2,t3,t4,t5,t6⟩:=ag.k7;go_wp2_with (first|(at_builtin;refine Xm rfl (.tmp 42) (.tmp 44) 36 rfl (Z xa (N (d sl)) xc) (Z (O (aD (M (H w6)) 0)) 1 1) (Z qa qm qc) w7 rfl rfl Ky ?_));go_wp2;go_ret;exact HF.o
    .skip;have lo:=cB a n6;go_simp;refine r.o _ _ p λp=>?_
     refine wR 2 λK r=>?_;go_simp;refine XX (aT.o _ (C.o.trans (a.mono C.o.size))) ?_;rintro e wA ⟨vv,rfl,aa,B⟩;obtain⟨aH,Aj,t,JI⟩:=vH (Fq:=λb=>Fq b/\M (H w5)<=b) aa (by have:=av.o;omega) (λb q=>⟨Az.o b (Qz C.o.size (Qz a.size q)),Qz a.size q⟩);obtain⟨W,X,yx⟩:=aH;simp only[ae.val]at Aj t;subst Aj;have t:=t.symm;subst t;have a:=a.trans (B.mono a.size);refine r.o _ _ (QB a (λb q _=>q)) (λp=>?_);refine wt 6 (Y (O (aD (M (H w)) 4))) p ?_;refine wR 5 λK r=>?_;go_simp;refine XX (Pb.o _ (C.o.trans (a.mono C.o.size))) ?_;rintro e wB ⟨vv,rfl,aa,B⟩;obtain⟨aI,Aj,A,aK⟩:=vH (Fq:=λb=>Fq b/\M (H w5)<=b) aa (by have:=av.o;omega) (λb q=>⟨Az.o b (Qz C.o.size (Qz a.size q)),Qz a.size q⟩);obtain⟨za,zc,zx⟩:=aI;simp only[ae.val]at Aj A;subst Aj;have A:=A.symm;subst A;have a:=a.trans (B.mono a.size);have JI:=JI.below B;refine r.o _ _ (QB a (λb q _=>q)) (λp=>?_);have G:GB wB (M (H w)) 102 #[I J kind,I J e0,I J e1,I J src,Z ca (N cl) cc,I J key,Z da (N co) dc]:=zL.o.of (a.block _ zL.o.lt);have m4:=G.at 4;have f4:=G.frozen 4;have P:=G.set 4 (Z W (N cl) X);have m6:UK (UC wB (aD (M (H w)) 4) (Z W (N cl) X)) (aD (M (H w)) 6)=O (Z da (N co) dc):=P.cell 6;have f6:=P.frozen 6;have ag:=P.set 6 (Z za (N co) zc);refine wR 7 λK r=>?_;go_simp;refine r.o _ _ (p.trans (Ji (g:=M (H w)) (j:=4) (Z W (N cl) X))) (λp=>?_);refine wt 8 (Y (O (aD (M (H w)) 6))) p ?_;refine wR 9 λK r=>?_;go_simp;refine r.o _ _ (p.trans (Ji (g:=M (H w)) (j:=6) (Z za (N co) zc))) (λp=>?_);refine wD ?_;try simp only[pU]
     obtain⟨w6,vY⟩:∃x,UC (UC wB (aD (M (H w)) 4) (Z W (N cl) X)) (aD (M (H w)) 6) (Z za (N co) zc)=x:=⟨_,rfl⟩;rw[vY]at ag ⊢;have Q:Kept (λb=>b≠M (H w)) wB w6:=by rw[<-vY];exact(Ji (g:=M (H w)) _).trans (Ji (g:=M (H w)) _)
     have JJ:=(QB a (λb q _=>q)).trans Q;have aB:=Za Fy.o JJ (λg hg=>by have:=(Zb Fy.o hg).1;have:=FU.o;omega);have ah:=C.o.trans (JJ.below C.o.size (λb q=>by have:=FU.o;omega));obtain⟨v7,w7,Ky,aM,wM,⟨qa,qm,qc,rfl⟩⟩:=Ew w6 (M (H w2)) (Z xa (N (d sl)) xc) (d sl) aB (by have:=au.o sl;omega) (Qz aA.o JJ.size) ⟨kind,e0,e1,src,⟨W,X,cl⟩,key,⟨za,zc,co⟩⟩ 36;simp only[ai.cells,ae.val]at Ky;have bN:=zL.o.lt;have f:∀b,(Value.slice xa (N (d sl)) xc).ownBlock=O b->M (H w2)<=b/\b<M (H w5):=λb e=>Zb Fy.o e;have aj:=((JI.bC (Q.mono λb _ h=>by have:=h.2;omega)).bC (wM.mono λb _ h e=>by have:=(f b e).2;have:=h.2;omega)).mono λb _ h=>h.1;have af:=((aK.bC (Q.mono λb _ h=>by have:=h.2;omega)).bC (wM.mono λb _ h e=>by have:=(f b e).2;have:=h.2;omega)).mono λb _ h=>h.1;have mO:=ah.trans (wM.below ah.size (λb q e=>by have:=(f b e).1;have:=FU.o;omega));have HF:Y3 _:=lu.o w7 (Z qa qm qc) ⟨W,X,cl⟩ ⟨za,zc,co⟩ mO (Dm aM (by have:=FU.o;omega)) rfl rfl aj af;obtain⟨t0,t1,t2,t3,t4,t5,t6⟩:=ag.k7;go_wp2_with (first|(at_builtin;refine Xm rfl (.tmp 42) (.tmp 44) 36 rfl (Z xa (N (d sl)) xc) (Z (O (aD (M (H w6)) 0)) 1 1) (Z qa qm qc) w7 rfl rfl Ky ?_));go_wp2;go_ret;exact HF.o
   .skip;have lo:=cB a n6;go_simp;refine r.o _ _ p λp=>?_
    refine wR 1 λK r=>?_;have lo:=cB a n4;go_simp;refine r.o _ _ p λp=>?_;refine wR 2 λK r=>?_;go_simp;refine XX (aT.o _ (C.o.trans (a.mono C.o.size))) ?_;rintro e wA ⟨vv,rfl,aa,B⟩;obtain⟨aH,Aj,t,JI⟩:=vH (Fq:=λb=>Fq b/\M (H w5)<=b) aa (by have:=av.o;omega) (λb q=>⟨Az.o b (Qz C.o.size (Qz a.size q)),Qz a.size q⟩);obtain⟨W,X,yx⟩:=aH;simp only[ae.val]at Aj t;subst Aj;have t:=t.symm;subst t;have a:=a.trans (B.mono a.size);refine r.o _ _ (QB a (λb q _=>q)) (λp=>?_);refine wt 6 (Y (O (aD (M (H w)) 4))) p ?_;refine wR 5 λK r=>?_;go_simp;refine XX (Pb.o _ (C.o.trans (a.mono C.o.size))) ?_;rintro e wB ⟨vv,rfl,aa,B⟩;obtain⟨aI,Aj,A,aK⟩:=vH (Fq:=λb=>Fq b/\M (H w5)<=b) aa (by have:=av.o;omega) (λb q=>⟨Az.o b (Qz C.o.size (Qz a.size q)),Qz a.size q⟩);obtain⟨za,zc,zx⟩:=aI;simp only[ae.val]at Aj A;subst Aj;have A:=A.symm;subst A;have a:=a.trans (B.mono a.size);have JI:=JI.below B;refine r.o _ _ (QB a (λb q _=>q)) (λp=>?_);have G:GB wB (M (H w)) 102 #[I J kind,I J e0,I J e1,I J src,Z ca (N cl) cc,I J key,Z da (N co) dc]:=zL.o.of (a.block _ zL.o.lt);have m4:=G.at 4;have f4:=G.frozen 4;have P:=G.set 4 (Z W (N cl) X);have m6:UK (UC wB (aD (M (H w)) 4) (Z W (N cl) X)) (aD (M (H w)) 6)=O (Z da (N co) dc):=P.cell 6;have f6:=P.frozen 6;have ag:=P.set 6 (Z za (N co) zc);refine wR 7 λK r=>?_;go_simp;refine r.o _ _ (p.trans (Ji (g:=M (H w)) (j:=4) (Z W (N cl) X))) (λp=>?_);refine wt 8 (Y (O (aD (M (H w)) 6))) p ?_;refine wR 9 λK r=>?_;go_simp;refine r.o _ _ (p.trans (Ji (g:=M (H w)) (j:=6) (Z za (N co) zc))) (λp=>?_);refine wD ?_;try simp only[pU]
    obtain⟨w6,vY⟩:∃x,UC (UC wB (aD (M (H w)) 4) (Z W (N cl) X)) (aD (M (H w)) 6) (Z za (N co) zc)=x:=⟨_,rfl⟩;rw[vY]at ag ⊢;have Q:Kept (λb=>b≠M (H w)) wB w6:=by rw[<-vY];exact(Ji (g:=M (H w)) _).trans (Ji (g:=M (H w)) _)
    have JJ:=(QB a (λb q _=>q)).trans Q;have aB:=Za Fy.o JJ (λg hg=>by have:=(Zb Fy.o hg).1;have:=FU.o;omega);have ah:=C.o.trans (JJ.below C.o.size (λb q=>by have:=FU.o;omega));obtain⟨v7,w7,Ky,aM,wM,⟨qa,qm,qc,rfl⟩⟩:=Ew w6 (M (H w2)) (Z xa (N (d sl)) xc) (d sl) aB (by have:=au.o sl;omega) (Qz aA.o JJ.size) ⟨kind,e0,e1,src,⟨W,X,cl⟩,key,⟨za,zc,co⟩⟩ 36;simp only[ai.cells,ae.val]at Ky;have bN:=zL.o.lt;have f:∀b,(Value.slice xa (N (d sl)) xc).ownBlock=O b->M (H w2)<=b/\b<M (H w5):=λb e=>Zb Fy.o e;have aj:=((JI.bC (Q.mono λb _ h=>by have:=h.2;omega)).bC (wM.mono λb _ h e=>by have:=(f b e).2;have:=h.2;omega)).mono λb _ h=>h.1;have af:=((aK.bC (Q.mono λb _ h=>by have:=h.2;omega)).bC (wM.mono λb _ h e=>by have:=(f b e).2;have:=h.2;omega)).mono λb _ h=>h.1;have mO:=ah.trans (wM.below ah.size (λb q e=>by have:=(f b e).1;have:=FU.o;omega));have HF:Y3 _:=lu.o w7 (Z qa qm qc) ⟨W,X,cl⟩ ⟨za,zc,co⟩ mO (Dm aM (by have:=FU.o;omega)) rfl rfl aj af;obtain⟨t0,t1,t2,t3,t4,t5,t6⟩:=ag.k7;go_wp2_with (first|(at_builtin;refine Xm rfl (.tmp 42) (.tmp 44) 36 rfl (Z xa (N (d sl)) xc) (Z (O (aD (M (H w6)) 0)) 1 1) (Z qa qm qc) w7 rfl rfl Ky ?_));go_wp2;go_ret;exact HF.o
theorem akp{n:ai}:∀{ls:List (List ai)},N ls<=2->∀l∈ls,N l<=N (vF n ls)/\∀m∈l,∃m'∈vF n ls,m'.kind=m.kind
 |[],_,l,h=>by cases h
 |[a],_,l,h=>by rw[Zg]at h;subst h;refine⟨by simp[vF,gW],λm hm=>⟨bU 0 m,?_,rfl⟩⟩;unfold vF gW;simp;exact .inl ⟨m,hm,rfl⟩
 |[a,b],_,l,h=>by
  rcases Z0.1 h with h|h
  .subst h;refine⟨by simp[vF,gW] <;> omega,λm hm=>⟨bU 0 m,?_,rfl⟩⟩;unfold vF gW;simp;exact .inl ⟨m,hm,rfl⟩
  .rw[Zg]at h;subst h;refine⟨by simp[vF,gW] <;> omega,λm hm=>⟨bU (N a) m,?_,rfl⟩⟩;unfold vF gW
   grind
 |_::_::_::_,h,_,_=>by simp at h
theorem iY.ug(h:iY Tn (Fv Fq v) base w u nv)(hk:Kept (λb=>v.ownBlock≠O b) w w')(hat:v'.ownBlock=v.ownBlock∨∃g,v'.ownBlock=O g/\M (H w)<=g):iY Tn (Fv Fq v') base w' u nv:=by
 have f:=h.mono (G:=λb=>Fv Fq v b/\Fv Fq v' b) (λb d a=>⟨a,a.1,λe=>by
  rcases hat with h|⟨g,h,i⟩
  .exact a.2 (h ▸ e)
  grind⟩)
 exact(f.bC (hk.mono λb _ d=>d.1.2)).mono λ_ _ h=>h.2
structure Bd(Tl Tn:TypeId)(Fq:Nat->Prop)(base:Nat)(w:U)(v:X3)(ls:List (X3 × List ai)):Prop where
 own:w.ownsRow base Tl 1 v (N ls) (ls.map Prod.fst)
 node:∀x∈ls,∃b,iY Tn (Fv Fq v) b w x.1 x.2
theorem Bd.slices(h:Bd Tl Tn Fq base w v ls):∃b cap,v=Z b (N ls) cap/\JH w b (ls.map Prod.fst):=by
 rcases jo h.own with⟨rfl,h1⟩|⟨g,cap,rfl,_,_,hc⟩
 .refine⟨xn,0,by rw[h1],λi a=>?_⟩;rw[Zm]at a;omega
 .refine⟨O (aD g 0),cap,rfl,λi a=>⟨g,0,rfl,?_⟩⟩
  grind
theorem Bd.push(h:Bd Tl Tn Fq base w0 v ls)(hb:Bw w0 w)(hu:iY Tn (Fv Fq v) base' w u nv)
  (ho:w'.ownsRow base Tl 1 v' (N (ls.map Prod.fst++[u])) (ls.map Prod.fst++[u])) (hk:Kept (λb=>v.ownBlock≠O b) w w') (hat:v'.ownBlock=v.ownBlock∨∃g,v'.ownBlock=O g/\M (H w)<=g):Bd Tl Tn Fq base w' v' (ls++[(u,nv)]):=by
 refine⟨?_,λx a=>?_⟩
 .grind
 .rcases Zi.1 a with a|a
  .obtain⟨b,d⟩:=h.node x a;exact⟨b,(d.below hb).ug hk hat⟩
  .rw[Zg]at a;rw[a];exact⟨base',hu.ug hk hat⟩
def Tryz.adH:(V.info? 36).map (λi=>(i.zero,i.size,i.bytes))=O (O (Z xn 0 0),1,24):=by kernel_rfl
theorem adI(W:U)(base:Nat)(v:X3)(vs:List X3)(hown:W.ownsRow base 36 1 v (N vs) vs)(hl:N vs<=1000)(hb:base<=M (H W))(a:Option Addr)(m c:Nat)(ty:TypeId) :
  ∃d e,(Builtin.append_ #[144,144] ty #[v,Z (O (aD (M (H W)) 0)) 1 1]).run V (W.alloc (EP #[Z a m c] 36))=.ok d e/\
   e.ownsRow base 36 1 d (N (vs++[(Value.slice a m c)])) (vs++[(Value.slice a m c)])/\Kept (λb=>v.ownBlock≠O b) W e/\(∃a m c,d = Z a m c)/\(d.ownBlock=v.ownBlock∨d.ownBlock=O (M (H W)+1)):=by
 obtain⟨k,l,f,g,i⟩:=Zj Tryz.adH;obtain⟨d,e,p,q,r,t,n⟩:=iI (P:=V) W base 144 ty 36 k _ 1 24 Tryz.underlying144 l f g i rfl (by decide) v (N vs) _ hown hb [.slice a m c] rfl (λu j=>by
  rw[Zg]at j;rw[j];rfl) hl (by decide)
 grind
theorem YR(k:Nat)(IH:∀{Ft:Nat->Prop} {w:U} {a:Nat} {t:dH},ql 105 Ft k w a t->bR w 0->(∀m∈t.ns,1<=m.kind/\m.kind<=10)->N t.ns<=900->∀{Fq:Nat->Prop},(∀b,M (H w)<=b->Fq b)->Calls V 36 #[Y (O (aD a 0))] w (kM 102 Fq w t.ns))
  (ht:ql 105 Ft (k+1) w a t) (hs:bR w 0) (hkd:∀m∈t.ns,1<=m.kind/\m.kind<=10) (hln:N t.ns<=900) (hF:∀b,M (H w)<=b->Fq b):Calls V 36 #[Y (O (aD a 0))] w (kM 102 Fq w t.ns):=by
 obtain⟨p,n,bo,bc,bs,d,hx⟩:=ht;have q:=akp (n:=n) (ls:=bs.map λx=>x.2.ns) (by rw[Zm];exact d.two);rw[<-d.lay]at q;have aa:Y3 (∀(x:U) (G:Nat->Prop) (i:Nat),i<N bs->Bw w x->(∀b,M (H x)<=b->G b)->Calls V 36 #[Y (O (aD (E (bs.map Prod.fst) i 0) 0))] x (kM 102 G x (E ((bs.map λx=>x.2.ns)) i []))):=λx G i hi A hG=>by
  have e1:E (bs.map Prod.fst) i 0=(bs[i]).1:=by grind
  have e2:E (bs.map λx=>x.2.ns) i []=(bs[i]).2.ns:=by grind
  rw[e1,e2];have hm:(bs[i]).2.ns∈bs.map λx=>x.2.ns:=ZC.2 ⟨_,Zv hi,rfl⟩;obtain⟨h1,h2⟩:=q _ hm;exact IH ((hx _ (Zv hi)).bC (QB A λ_ h _=>h)) (hs.below A) (λm aI=>by
   obtain⟨m',D,e⟩:=h2 m aI;rw[<-e];exact hkd m' D) (by omega) hG
 have UQ:Y3 (∀(x:U) (G:Nat->Prop) (io:Option Addr) (ic:Nat) (ls:List (X3 × List ai)),Bw w x->(∀b,M (H x)<=b->G b)->JH x io (ls.map Prod.fst)->(ls.map λx=>x.2.map fJ)=(bs.map λx=>x.2.ns)->(∀y∈ls,∃base,iY 102 G base x y.1 y.2)->
   Calls V 66 #[FL n.cells,Z io (N ls) ic] x (kM 102 G x t.ns)):=λx G io ic ls A hG F8 he C=>by
  have hl:N ls=N bs:=by have:=congrArg N he;simpa using this
  rw[d.lay,<-he];refine ahr hG (hs.below A) n (Qo A d.cl) d.cln (Qo A d.co) d.con d.lens io ic ls F8 (λy X=>⟨C y X,λm hm=>?_⟩) (by rw[hl];exact d.two) ?_
  .have aB:y.2.map fJ∈bs.map λx=>x.2.ns:=by grind
   obtain⟨m',D,e⟩:=(q _ aB).2 (fJ m) (ZC.2 ⟨m,hm,rfl⟩);have:=hkd m' D;rw[e]at this;exact this
  .have h1:N (gW (ls.map Prod.snd))=N (gW (bs.map λx=>x.2.ns)):=by rw[<-he,<-Zm (f:=fJ),Ev,Z9];rfl
   rw[h1];have h2:N t.ns=N (gW (bs.map λx=>x.2.ns))+1:=by rw[d.lay];unfold vF;simp
   omega
 have aK:=d.gb.at 13;have n0:=d.gb.at 6;have n1:=d.gb.at 7;have n2:=d.gb.at 8;have n3:=d.gb.at 9;have n4:=d.gb.at 10;have n5:=d.gb.at 11;have n6:=d.gb.at 12;have aC:=Zh d.ptrs;have aL:=d.two;have af:Y3 (N (bs.map Prod.fst)=N bs):=Zm _;have ag:Y3 (N (bs.map λx=>x.2.ns)=N bs):=Zm _;have Az:=Zh hF;clear d hx q IH hs hkd hln hF;generalize t.ns=R at*;generalize bs.map Prod.fst=bf at*;generalize (bs.map λx=>x.2.ns)=NS at*;generalize N bs=bl at*;clear bs;obtain⟨kind,nl,nr,src,⟨ca,cc,cl⟩,key,⟨da,dc,co⟩⟩:=n;simp only[ai.cells,ae.val]at*;go_enter Tryz.func36,Tryz.ntmps36;go_wp2;go_loopw [3,11] (λpv iv wr=>∃(j:Nat) (ls:List (X3 × List ai)),j<=bl/\iv=I J (j:Int)/\Y3 ((ls.map λx=>x.2.map fJ)=NS.take j)/\Y3 (Bd 36 102 Fq (M (H w)) wr pv ls)/\Y3 (Bw w wr)) (λ_ iv _=>bl-(intOf iv).toNat)
 case atStart=>exact⟨0,[],QW _,rfl,rfl,⟨Zk _ _ _ _,(λx hx=>by cases hx)⟩,Qm _ _⟩
 case round=>
  obtain⟨j,ls,hj,rfl,HE,K,r⟩:=hrel;obtain⟨L,xm,P,rfl⟩:=Zc K.o.own;have l:∀g,(Value.slice L xm P).ownBlock=O g->M (H w)<=g/\g<M (H wr):=λg e=>Zb K.o.own e;by_cases B:j<bl
  .obtain⟨bb,TK,rfl,au⟩:=dA.get (aC.o.below r.o) (i:=j) (by rw[af.o];exact B);have aF:=au j (by rw[af.o];exact B);have ah:=aa.o wr (Fv Fq (Z L xm P)) j B r.o (λb A=>⟨Az.o b (Qz r.o.size A),λe=>by have:=(l b e).2;omega⟩);obtain⟨av,Q⟩:=aJ (jT NS [] (by rw[ag.o];exact B)) l;generalize E bf j 0=ba at*;generalize E NS j []=Nj at*;clear au l;go_wp2_with fail;refine ah.mono ?_;rintro e w3 ⟨v3,nv,rfl,z,S,u⟩;clear ah aF;obtain⟨ya,ym,yc,rfl⟩:=Zc S.own;have C:N ls<=2:=by have:=congrArg N HE.o;rw[Zm,Xu]at this;omega
   have aj:w3.ownsRow (M (H w)) 36 1 (Z L xm P) (N (ls.map Prod.fst)) (ls.map Prod.fst):=by rw[Zm];exact Za K.o.own (QB (s:=λb=>b<M (H wr)) u (λb _ h=>h)) (λg hg=>(Q.o g hg).2)
   obtain⟨v4,w4,ax,KS,W,⟨za,zm,zc,rfl⟩,ay⟩:=adI w3 (M (H w)) (Z L xm P) (ls.map Prod.fst) aj (by rw[Zm];omega) (Qz r.o.size u.size) ya ym yc 144;have aM:=Zh (Bd.push K.o u S KS W (ay.imp id (λe=>⟨_,e,by omega⟩)));have aN:Y3 (((ls++[((Z ya ym yc:X3),nv)]).map λx=>x.2.map fJ)=NS.take (j+1)):=by show _=_;rw[Qi,HE.o,av.o,XA,z]
   have oJ:=Zh ((r.o.trans (u.mono r.o.size)).trans (W.below (Qz r.o.size u.size) (λb A e=>by have:=(Q.o b e).1;omega)));clear z S u aj KS W ay K HE av Q C;go_wp2_with (first|(at_builtin;refine Xm rfl (.tmp 15) (.tmp 18) 144 rfl (Z L xm P) (Z (O (aD (M (H w3)) 0)) 1 1) (Z za zm zc) w4 rfl rfl ax ?_));clear ax;go_wp2;go_roundw
   case rel=>grind
   case measure=>simp[intOf];omega
  .have aG:bl=j:=by omega
   subst aG;rw[Xi (by rw[ag.o];exact Qn _)]at HE;obtain⟨w3,aH⟩:∃x,x=wr:=⟨_,rfl⟩;subst aH;obtain⟨ya,yc,X,az⟩:=K.o.slices;simp only[Value.slice.injEq]at X;obtain⟨rfl,rfl,rfl⟩:=X;have ak:=UQ.o w3 (Fv Fq (Z L (N ls) P)) L P ls r.o (λb A=>⟨Az.o b (Qz r.o.size A),λe=>by have:=(l b e).2;omega⟩) az HE.o (λy X=>K.o.node y X);obtain⟨d0,d1,d2,d3,d4⟩:=qA r.o n0 n1 n2 n3 n4;obtain⟨d5,d6⟩:=nH r.o n5 n6;clear UQ aa az l B hj;go_wp2_with fail;refine ak.mono ?_;rintro e w4 ⟨v,nv,rfl,z,hK,aA⟩;have HF:Y3 (kM 102 Fq w R (FN v) w4):=⟨v,nv,rfl,z,⟨Dm hK.own r.o.size,λg hg=>(hK.blk g hg).1,(hK.mono (λb _ h=>h.1)).lists⟩,r.o.trans (aA.mono r.o.size)⟩;obtain⟨va,vm,vc,rfl⟩:=Zc hK.own;clear ak z hK aA;go_wp2;go_ret;exact HF.o
def aaV:∀(k:Nat) {Ft:Nat->Prop} {w:U} {a:Nat} {t:dH},ql 105 Ft k w a t->bR w 0->(∀m∈t.ns,1<=m.kind/\m.kind<=10)->N t.ns<=900->∀{Fq:Nat->Prop},(∀b,M (H w)<=b->Fq b)->Calls V 36 #[Y (O (aD a 0))] w (kM 102 Fq w t.ns)
 |0,_,_,_,_,h,_,_,_,_,_=>h.elim
 |k+1,_,_,_,_,h,hs,hk,hl,_,hF=>YR k (aaV k) h hs hk hl hF
def adJ(h:bG 105 Ft w a t)(hs:bR w 0)(ht:uM q t)(hl:N t.ns<=900)(hF:∀b,M (H w)<=b->Fq b):Calls V 36 #[Y (O (aD a 0))] w (kM 102 Fq w t.ns):=by obtain⟨k,d⟩:=h;exact aaV k d hs ht.kinds hl hF
structure jV(Tl:TypeId)(Fq:Nat->Prop)(base:Nat)(w:U)(v:X3)(os:List ae):Prop where
 own:w.ownsRow base Tl 1 v (N os) (os.map ae.val)
 each:∀o∈os,di (Fv Fq v) w o/\N o.xs<=1000
def jV.below{Tl:TypeId}{Fq:Nat->Prop}{base:Nat}{w w':U}{v:X3}{os:List ae}(h:jV Tl Fq base w v os)(hb:Bw w w'):jV Tl Fq base w' v os:=
 ⟨XU h.own hb,λo a=>⟨(h.each o a).1.below hb,(h.each o a).2⟩⟩
theorem di.own(h:di Fq w0 o)(hb:Bw w0 w)(hv:∀g,v.ownBlock=O g->M (H w0)<=g):di (Fv Fq v) w o:=
 (h.mono (G:=Fv Fq v) (λb hb a=>⟨a,λe=>by have:=hv b e;omega⟩)).below hb
theorem di.ug(h:di (Fv Fq v) w o)(hk:Kept (λb=>v.ownBlock≠O b) w w')(hat:v'.ownBlock=v.ownBlock∨∃g,v'.ownBlock=O g/\M (H w)<=g):di (Fv Fq v') w' o:=by
 have f:=h.mono (G:=λb=>Fv Fq v b/\Fv Fq v' b) (λb d a=>⟨a,a.1,λe=>by
  rcases hat with h|⟨g,h,i⟩
  .exact a.2 (h ▸ e)
  grind⟩)
 exact(f.bC (hk.mono λb _ d=>d.1.2)).mono λ_ _ h=>h.2
def jV.push(h:jV Tl Fq base w v os)(ho:di (Fv Fq v) w o)(hl:N o.xs<=1000)(hn:w'.ownsRow base Tl 1 v' (N (os++[o])) ((os++[o]).map ae.val))(hk:Kept (λb=>v.ownBlock≠O b) w w')(hat:v'.ownBlock=v.ownBlock∨∃g,v'.ownBlock=O g/\M (H w)<=g):jV Tl Fq base w' v' (os++[o]):=
 ⟨hn,λx a=>by
  rcases Zi.1 a with a|a
  .exact⟨(h.each x a).1.ug hk hat,(h.each x a).2⟩
  .rw[Zg]at a;rw[a];exact⟨ho.ug hk hat,hl⟩⟩
theorem jV.cells(h:jV Tl Fq base w v os):∃b cap,v=Z b (N os) cap/\N os<=cap/\aX w b (N os) (λi=>(E os i eU).val):=by
 rcases h.own.2 with⟨rfl,h0⟩|⟨g,cap,cur,rfl,-,-,hc,-⟩
 .have:=Qs h0;subst this;exact⟨xn,0,rfl,Qn _,λi a=>absurd a (by simp)⟩
 .refine⟨_,cap,rfl,hc,λi a=>⟨g,0,rfl,?_⟩⟩;rcases jo h.own with⟨e,_⟩|⟨g',cap',e,_,_,hcc⟩
  .cases e
  grind
def adn{x:List Int}{k:Nat}(hk:k<N os):x∈(os.take (k+1)).map ae.xs↔x∈(os.take k).map ae.xs∨x=(E os k eU).xs:=by rw[jT os eU hk,Qi,Zi];simp
theorem agQ(W:U)(base:Nat)(v:X3)(os:List ae)(hown:W.ownsRow base 22 1 v (N os) (os.map ae.val))(hl:N os<=1000)(hb:base<=M (H W))(o:ae)(ty:TypeId) :
  ∃d e,(Builtin.append_ #[52,52] ty #[v,Z (O (aD (M (H W)) 0)) 1 1]).run V (W.alloc (EP #[o.val] 22))=.ok d e/\
   e.ownsRow base 22 1 d (N (os++[o])) ((os++[o]).map ae.val)/\Kept (λb=>v.ownBlock≠O b) W e/\(∃a m c,d = Z a m c)/\(d.ownBlock=v.ownBlock∨d.ownBlock=O (M (H W)+1)):=by
 obtain⟨k,l,f,g,i⟩:=Zj Tryz.Bn;obtain⟨d,e,p,q,r,t,n⟩:=iI (P:=V) W base 52 ty 22 k _ 1 24 Tryz.underlying52 l f g i rfl (by decide) v (N os) _ hown hb [o.val] rfl (λu j=>by
  rw[Zg]at j;rw[j];rfl) hl (by decide)
 grind
def Yt(x o:ae)(bx:Nat)(w:U)(hx:x.At w)(ho:o.At w)(hc:UK w (aD bx 0)=O o.val) :
  Calls V 147 (#[x.val] ++ #[Y (O (aD bx 0))]) w λe k=>e=FN (Wl (decide (x.xs=o.xs)))/\Bw w k:=by have a:=D8 x.ad o.ad x.cap o.cap x.xs o.xs w hx ho;obtain⟨i,j,b⟩:=x;obtain⟨l,m,f⟩:=o;show Calls V 147 #[Z i (N b) j,Y (O (aD bx 0))] w _;simp only[ae.val]at*;generalize decide (b=f)=D at*;generalize N b=xl at*;generalize N f=ol at*;go_enter Tryz.func147,Tryz.ntmps147;go_wp2_with fail;refine a.mono ?_;rintro e n ⟨rfl,d⟩;have g:=Zh d;go_wp2;go_ret;exact⟨rfl,g.o⟩
theorem Yu(ao:Option Addr)(cap:Nat)(os:List ae)(o:ae)(bx:Nat)(w:U)(hos:aX w ao (N os) (λi=>(E os i eU).val))(hat:∀x∈os,x.At w)(ho:o.At w)(hc:UK w (aD bx 0)=O o.val)(hl:N os<=1000) :
  Calls V 192 #[Z ao (N os) cap,.func (.func 147) #[] #[Y (O (aD bx 0))]] w λe t=>∃r:Int,e=FN (I J r)/\Y3 (0<=r↔o.xs∈os.map ae.xs)/\Bw w t:=by
 have n:=Zh hos;have B:Y3 (∀(k:Nat) (y:U),k<N os->Bw w y->Calls V 147 (#[(E os k eU).val] ++ #[Y (O (aD bx 0))]) y λe t=>e=FN (Wl (decide ((E os k eU).xs=o.xs)))/\Bw y t):=λk y G u=>Yt _ o bx y (Qo u (hat _ (by grind))) (Qo u ho) (cB u hc);go_enter Tryz.func192,Tryz.ntmps192;go_wp2;go_loopw [8] (λv wr=>∃k:Nat,k<=N os/\v=I J (k:Int)/\Y3 (o.xs ∉ (os.take k).map ae.xs)/\Y3 (Bw w wr)) (λv _=>N os-(intOf v).toNat)
 case atStart=>exact⟨0,QW _,rfl,by show _ ∉ _;simp,Qm _ _⟩
 case round=>
  obtain⟨k,G,rfl,K,m⟩:=hrel;by_cases f:k<N os
  .obtain⟨R,S,rfl,g⟩:=Qf (aX.below m.o n.o) f;have j:=g k f;have a:=B.o k wr f m.o;have p:=Zh (adn (x:=o.xs) f);have z:Y3 (E os k eU∈os):=by grind
   generalize E os k eU=x at*;obtain⟨L,P,A⟩:=x;simp only[ae.val]at*;change Calls V 147 #[Z L (N A) P,Y (O (aD bx 0))] wr _ at a;by_cases d:A=o.xs
   .rw[Qx d]at a;have q:Y3 (o.xs∈os.map ae.xs):=by grind
    clear g d z p;go_wp2_with fail;refine a.mono ?_;rintro e Q ⟨rfl,b⟩;have l:=Zh (az m.o b);clear a b j;go_wp2;go_ret;exact⟨k,rfl,⟨λ_=>q.o,λ_=>by omega⟩,l.o⟩
   .rw[Qw d]at a;have C:Y3 (o.xs ∉ (os.take (k+1)).map ae.xs):=λh=>by
     rcases p.o.1 h with h|h
     .exact K.o h
     .exact d h.symm
    clear g d z p;go_wp2_with fail;refine a.mono ?_;rintro e Q ⟨rfl,b⟩;have l:=Zh (az m.o b);clear a b j;go_wp2;go_roundw
    case rel=>grind
    case measure=>simp[intOf];omega
  .have D:N os=k:=by omega
   have q:Y3 (o.xs ∉ os.map ae.xs):=by grind
   go_wp2;go_ret;exact⟨-1,rfl,⟨λh=>by omega,λh=>absurd h q.o⟩,m.o⟩
def Yv(ao:Option Addr)(cap:Nat)(os:List ae)(o:ae)(bx:Nat)(w:U)(hos:aX w ao (N os) (λi=>(E os i eU).val))(hat:∀x∈os,x.At w)(ho:o.At w)(hc:UK w (aD bx 0)=O o.val)(hl:N os<=1000) :
  Cb 146 #[Z ao (N os) cap,.func (.func 147) #[] #[Y (O (aD bx 0))]] w (Wl (decide (o.xs∈os.map ae.xs))):=by have b:=Yu ao cap os o bx w hos hat ho hc hl;go_enter Tryz.func146,Tryz.ntmps146;go_wp2_with fail;refine b.mono ?_;rintro e g ⟨r,rfl,f,a⟩;have d:=Zh a;go_wp2;go_ret;exact⟨Qd (by rw[ZV,ZW,ZW];exact f.o),d.o⟩
theorem ado(h:jV 22 Fq base w v os)(hb:base<=M (H w))(o:ae)(ho:di (Fv Fq v) w o)(hol:N o.xs<=1000)(hl:N os<=1000) :
  Calls V 98 #[v,o.val] w λe w'=>∃y d,e=FN y/\jV 22 Fq base w' y d/\d.map ae.xs=jS (os.map ae.xs) o.xs/\N d<=N os+1/\Kept (λb=>v.ownBlock≠O b) w w'/\(y.ownBlock=v.ownBlock∨∃g,y.ownBlock=O g/\M (H w)<=g):=by
 obtain⟨m,cap,rfl,aa,L⟩:=h.cells;obtain⟨w1,af,f,t⟩:=aL w #[o.val] 22;have B:=Yv m cap os o (M (H w)) w1 (aX.below f L) (λx hx=>Qo f (h.each x hx).1.at') (Qo f ho.at') (t.cell 0) hl;obtain⟨P,HO,u,Q⟩:=om h ho f t;by_cases D:o.xs∈os.map ae.xs
 .rw[Qx D]at B;have G:Y3 (jS (os.map ae.xs) o.xs=os.map ae.xs):=by show _=_;unfold jS;rw[Zt D]
  obtain⟨k,l,i⟩:=o;simp only[ae.val]at*;go_enter Tryz.func98,Tryz.ntmps98;go_wp2_with fail;refine B.mono ?_;rintro e n ⟨rfl,j⟩;have r:=Zh (az u.o j);go_wp2;go_ret;exact⟨_,os,rfl,P.o.below r.o,G.o.symm,by omega,QB r.o (λ_ h _=>h),.inl rfl⟩
 .rw[Qw D]at B;have G:Y3 (jS (os.map ae.xs) o.xs=os.map ae.xs++[o.xs]):=by show _=_;unfold jS;rw[ZU D]
  have K:Y3 (N os<=1000/\base<=M (H w)/\N o.xs<=1000):=⟨hl,hb,hol⟩;obtain⟨k,l,i⟩:=o;simp only[ae.val]at*;go_enter Tryz.func98,Tryz.ntmps98;go_wp2_with fail;refine B.mono ?_;rintro e n ⟨rfl,j⟩;have a:=az u.o j;have c0:UK n (aD (M (H w)) 0)=O (Z k (N i) l):=cB j (Q.o.cell 0);obtain⟨y,C,z,R,A,⟨p,q,zc,rfl⟩,U4⟩:=agQ n base (Z m (N os) cap) os (XU P.o.own a) K.o.1 (Qz K.o.2.1 a.size) ⟨k,l,i⟩ 52;have S:(Value.slice p q zc).ownBlock=(Value.slice m (N os) cap).ownBlock∨∃g,(Value.slice p q zc).ownBlock=O g/\M (H n)<=g:=by grind
  have W:Y3 (jV 22 Fq base C (Z p q zc) (os++[⟨k,l,i⟩])/\Kept (λb=>(Value.slice m (N os) cap).ownBlock≠O b) w C/\((Value.slice p q zc).ownBlock=(Value.slice m (N os) cap).ownBlock∨∃g,(Value.slice p q zc).ownBlock=O g/\M (H w)<=g)):=⟨(P.o.below a).push (HO.o.below a) K.o.2.2 R A S,(QB a (λ_ h _=>h)).trans A,by
   rcases S with h|⟨g,h,hg⟩
   .exact .inl h
   .exact .inr ⟨g,h,Qz a.size hg⟩⟩
  change (Builtin.append_ #[52,52] 52 #[Z m (N os) cap,Z (O (aD (M (H n)) 0)) 1 1]).run V (n.alloc (EP #[Z k (N i) l] 22))=.ok (Z p q zc) C at z;have X:Y3 ((os++[(⟨k,l,i⟩:ae)]).map ae.xs=os.map ae.xs++[i]/\N (os++[(⟨k,l,i⟩:ae)])<=N os+1):=⟨by simp,by simp⟩;generalize os++[(⟨k,l,i⟩:ae)]=d at*;go_wp2_with (first|(at_builtin;refine Xm rfl (.tmp 9) (.tmp 11) 52 rfl (Z m (N os) cap) (Z (O (aD (M (H n)) 0)) 1 1) (Z p q zc) C rfl rfl z ?_));go_wp2;go_ret;exact⟨_,d,rfl,W.o.1,X.o.1.trans G.o.symm,X.o.2,W.o.2⟩
def A8(ls:List (List Int))(l:List Int):N (jS ls l)<=N ls+1:=by unfold jS;split <;> simp
def Ff{ls:List (List Int)}{l:List Int}(h:∃r,ls=[]::r):∃r,jS ls l=[]::r:=by
 obtain⟨r,rfl⟩:=h;unfold jS;split
 .exact⟨r,rfl⟩
 .exact⟨r++[l],rfl⟩
def ni(ts:List ah)(q:af)(s:Nat)(acc:List (List Int))(c:Int):N (fC ts q s acc c)<=N acc+1:=by
 unfold fC;split
 .exact A8 _ _
 .omega
def De{s:Nat}{acc:List (List Int)}(c:Int)(h:∃r,acc=[]::r):∃r,fC ts q s acc c=[]::r:=by
 unfold fC;split
 .exact Ff h
 .exact h
theorem MH(ts:List ah)(q:af)(s:Nat):∀(l:List aB) (acc:List (List Int)),(∃r,acc=[]::r)->(∃r,l.foldl (lh ts q s) acc=[]::r)/\N (l.foldl (lh ts q s) acc)<=N acc+2*N l
 |[],acc,h=>⟨h,by simp⟩
 |c::l,acc,h=>by
  have hs:(∃r,lh ts q s acc c=[]::r)/\N (lh ts q s acc c)<=N acc+2:=by
   unfold lh;split
   .refine⟨De _ (De _ h),?_⟩;have h1:=ni ts q s acc (bQ c.cs).1;have h2:=ni ts q s (fC ts q s acc (bQ c.cs).1) (bQ c.cs).2.1;omega
   .exact⟨h,by omega⟩
  have:=MH ts q s l _ hs.1;grind
def Yx(ts:List ah)(q:af)(s:Nat)(h8:N q.wh<=8):(∃r,vI ts q s=[]::r)/\N (vI ts q s)<=18:=by
 have a:∃r,(if aZ s (aO (iw ts q (aR q)))=T then jS [[]] (aR q) else [[]])=[]::r:=by
  split
  .exact Ff ⟨[],rfl⟩
  .exact⟨[],rfl⟩
 have b:N (if aZ s (aO (iw ts q (aR q)))=T then jS [[]] (aR q) else [[]])<=2:=by
  split
  .exact A8 _ _
  .simp
 have:=MH ts q s q.wh _ a;exact⟨this.1,Qz this.2 (by omega)⟩
def Env.as1(Ez:Env f ts q W0):jI ts q (aR q):=by
 unfold aR;split
 .exact Ez.keys
 .rename_i hg
  split
  .exact Ez.want (by simpa using hg)
  .intro c a;cases a
def jV.fz(h:jV Tl Fq base w v os)(hz:Fz Fq W0 w)(hb:M (H W0)<=base):Fz (Fv Fq v) W0 w:=hz.own λg e=>⟨Qz hb (Zb h.own e).1,(Zb h.own e).2⟩
theorem Uk{cb:Nat}{c:Int}(hc:UK w (aD cb 0)=O (I J c))(hF:Fq cb):di Fq w ⟨O (aD cb 0),1,[c]⟩:=
 ⟨⟨by simp,λi b=>⟨cb,0,rfl,by
  grind⟩⟩,λ_ a e=>by cases e;exact hF,(λe=>by cases e),Qn _⟩
def Js(hk:Kept (λb=>v.ownBlock≠O b) w w'){b o:Nat}(h:UK w (aD b o)=O u)(hs:v.ownBlock≠O b):UK w' (aD b o)=O u:=by rw[QL (hk.block b (QK h) hs)];exact h
def l9(Fq:Nat->Prop)(w1:U)(ls:List (List Int))(v:X3)(w':U):Prop:=∃os,jV 22 Fq (M (H w1)) w' v os/\os.map ae.xs=ls/\N os<=100/\Bw w1 w'
theorem as2{w1:U}{ls:List (List Int)}(h:l9 Fq w1 ls v w)(hl:N ls<=50)(o:ae)(ho:di (Fv Fq v) w o)(hol:N o.xs<=1000) :
  Calls V 98 #[v,Z o.ad (N o.xs) o.cap] w λe i=>∃d,e=FN d/\(∃a m c,d = Z a m c)/\l9 Fq w1 (jS ls o.xs) d i/\Kept (λb=>v.ownBlock≠O b) w i/\(d.ownBlock=v.ownBlock∨∃g,d.ownBlock=O g/\M (H w)<=g):=by
 obtain⟨os,l,q,u,f⟩:=h;have k:N os<=50:=by grind
 refine(ado l f.size o ho hol (by omega)).mono ?_;rintro e i ⟨d,j,rfl,n,r,y,p,t⟩;exact⟨d,rfl,Zc n.own,⟨j,n,by rw[r,q],by omega,f.trans (p.below f.size (λb z e=>by have:=(Zb l.own e).1;omega))⟩,p,t⟩
def l9.below{Fq:Nat->Prop}{w1 w w':U}{ls:List (List Int)}{v:X3}(h:l9 Fq w1 ls v w)(hb:Bw w w'):l9 Fq w1 ls v w':=by obtain⟨os,a,b,d,e⟩:=h;exact⟨os,a.below hb,b,d,az e hb⟩
theorem Ep(Ez:Env f ts q W0)(hz:Fz Fq W0 w)(s:Nat)(hs:s<18446744073709551616) :
  Calls V 58 #[FL (f.cells ts q),I .u64 (s:Int)] w λe w'=>∃v os,e=FN v/\jV 22 Fq (M (H w)) w' v os/\os.map ae.xs=vI ts q s/\Bw w w':=by
 obtain⟨v0,v1,v2,v3,v4,v5,v6,v7,v8,v9,au,av,ax,cK,bY,dO,bZ,cu,cz,cO,cZ,-⟩:=X9 f ts q;subst dO;have KO:q.cells=#[v0,Z q.gI (N q.wh) q.bP,v2,v3,v4,v5,v6]:=by rw[bY,bZ,cu,cz,cO,cZ];rfl
 have dx:Y3 (∀(G:Nat->Prop) x,Fz G W0 x->Calls V 95 #[FL #[v0,Z q.gI (N q.wh) q.bP,v2,v3,v4,v5,v6]] x (I5 G x (aR q))):=λG x hx=>by rw[<-KO];exact C9 Ez hx
 have xz:Y3 (∀(x:U) (iv:ae),Bw w x->iv.At x->jI ts q iv.xs->Cb 97 #[FL #[v0,Z q.gI (N q.wh) q.bP,v2,v3,v4,v5,v6,v7,v8,v9,au,av,ax],Z iv.ad (N iv.xs) iv.cap] x (I .u64 ((aO (iw ts q iv.xs):Nat):Int))):=λx iv hx hi hc=>by rw[<-cK];exact tX f ts q iv.ad iv.cap iv.xs x Ez.ok ((Ez.at' hz).below hx).cols hi hc
 have aM:Y3 (∀(xs:List Int) (x:U),jI ts q xs->Ce 96 #[I .u64 (s:Int),I .u64 ((aO (iw ts q xs):Nat):Int)] x (Wl (aZ s (aO (iw ts q xs))))):=λxs x hc=>oQ s _ hs (by have:=aap Ez.ok hc (N xs);rwa [QX]at this) x;have bI:Y3 (∀(k:Nat) (x:U),k<N q.wh->Bw w x->UK x ⟨(q.gI.getD (aD 0 0)).block,(q.gI.getD (aD 0 0)).off+k,xn⟩=O (Z (E q.wh k lz).ad (E q.wh k lz).cs.length (E q.wh k lz).cap)/\(∃b off,q.gI=O (aD b off))/\Cb 99 #[FL #[Z (E q.wh k lz).ad (E q.wh k lz).cs.length (E q.wh k lz).cap]] x (.tuple #[I J (bQ (E q.wh k lz).cs).1,I J (bQ (E q.wh k lz).cs).2.1,Wl (bQ (E q.wh k lz).cs).2.2])):=λk x hk hx=>by have hq:=((Ez.at' hz).below hx).query.wh;obtain⟨b,off,e,hc⟩:=hq.2.1 k hk;refine⟨?_,⟨b,off,e⟩,uI _ _ _ x (hq.2.2 k hk) (Ez.ok.some k hk)⟩;rw[e];exact hc
 have dz:Y3 (∀k,k<N q.wh->(bQ (E q.wh k lz).cs).2.2=T->jI ts q [(bQ (E q.wh k lz).cs).1]/\jI ts q [(bQ (E q.wh k lz).cs).2.1]):=λk hk h=>Mh Ez.ok hk h;obtain⟨I0,aI⟩:∃Iq,Iq=(if aZ s (aO (iw ts q (aR q)))=T then jS [[]] (aR q) else [[]]):=⟨_,rfl⟩;have ed:N I0<=2:=by
  rw[aI];split
  .exact A8 _ _
  .simp
 obtain⟨d,ay⟩:∃Uq:Nat->List (List Int),Uq=λk=>(q.wh.take k).foldl (lh ts q s) I0:=⟨_,rfl⟩;have dA:Y3 (∀k,k<N q.wh->d (k+1)=lh ts q s (d k) (E q.wh k lz)):=λk hk=>by rw[ay];exact TY _ I0 q.wh lz hk
 have dB:Y3 (∀k,N (d k)<=2+2*k):=λk=>by
  have key:∀(l:List aB) (z:List (List Int)),N (l.foldl (lh ts q s) z)<=N z+2*N l:=by
   intro l
   induction l with
   |nil=>intro z;simp
   |cons c l ih =>
    intro z;refine Qz (ih _) ?_;have:N (lh ts q s z c)<=N z+2:=by
     unfold lh;split
     .have h1:=ni ts q s z (bQ c.cs).1;have h2:=ni ts q s (fC ts q s z (bQ c.cs).1) (bQ c.cs).2.1;omega
     .omega
    grind
  rw[ay];refine Qz (key _ _) ?_;rw[Xu];omega
 have bJ:Y3 (d 0=I0):=by show _=_;rw[ay];rfl
 have dC:Y3 (d (N q.wh)=vI ts q s):=by show _=_;rw[ay];show (q.wh.take (N q.wh)).foldl _ _=_;rw[QX,aI];rfl
 have ek:=Ez.eight;have q9:Y3 (jI ts q (aR q)/\N (aR q)<=4):=⟨Ez.as1,Ez.agy⟩;have bK:=Zh aI;obtain⟨y,dP,aA,aY⟩:=aL w #[v0,Z q.gI (N q.wh) q.bP,v2,v3,v4,v5,v6,v7,v8,v9,au,av,ax] 90;obtain⟨w2,dQ,r,df⟩:=aL y #[Z xn 0 0] 22;have bL:Y3 (l9 Fq y [[]] (Z (O (aD (M (H y)) 0)) 1 1) w2):=⟨[eU],⟨⟨rfl,.inr ⟨M (H y),1,#[Z xn 0 0],rfl,Qn _,df,Qn _,by unfold maxLen;omega,rfl,rfl⟩⟩,λo ho=>by rw[Zg]at ho;rw[ho];exact⟨di.eU _ _,QW _⟩⟩,rfl,by simp,r⟩;have p:Y3 (∀(x:U) (v:X3) (ls:List (List Int)),l9 Fq y ls v x->Fz (Fv Fq v) W0 x/\Bw w x/\Bw y x/\(∀g,v.ownBlock=O g->g<M (H x))):=λx v ls h=>by obtain⟨os,h1,h2,h3,h4⟩:=h;have bM:=az aA h4;have:=h1.fz (hz.next bM) (Qz hz.below.size aA.size);exact⟨this,bM,h4,λg e=>(Zb h1.own e).2⟩
 have Ul:Y3 (∀(x:U),Bw y x->GB x (M (H w)) 90 #[v0,Z q.gI (N q.wh) q.bP,v2,v3,v4,v5,v6,v7,v8,v9,au,av,ax]):=λx hx=>aY.keep (QB (s:=λb=>b<M (H y)) hx (λ_ h _=>h)) aY.lt;have aa:=Ul.o w2 r;obtain⟨a0,a1,a2,a3,a4,a5,a6,a7,a8,a9,nA,oC,t⟩:=aa.oh;have bN:=dx.o _ w2 (p.o w2 _ _ bL.o).1;have dD:Y3 (∀(x:U) (v:X3) (ls:List (List Int)),l9 Fq y ls v x->∃os,jV 22 Fq (M (H w)) x v os/\os.map ae.xs=ls/\Bw w x):=λx v ls h=>by obtain⟨os,h1,h2,h3,h4⟩:=h;exact⟨os,⟨nM h1.own aA.size,h1.each⟩,h2,az aA h4⟩
 rw[cK];clear cK KO bY bZ cu cz cO cZ aI ay hz aA aY r df aa Ez;generalize vI ts q s=R at*;generalize aR q=EO at*;go_enter Tryz.func58,Tryz.ntmps58;go_wp2_with fail;refine bN.mono ?_;rintro e w3 ⟨iv,rfl,zZ,bf,dh⟩;obtain⟨ea,ec,ex⟩:=iv;simp only[ae.val]at zZ ⊢;subst zZ;have aN:=bL.o.below dh;have aP:=p.o w3 _ _ aN;have bO:=Ul.o w3 aP.2.2.1;clear a0 a1 a2 a3 a4 a5 a6 a7 a8 a9 nA oC t;obtain⟨a0,a1,a2,a3,a4,a5,a6,a7,a8,a9,nA,oC,t⟩:=bO.oh;have Um:=xz.o w3 ⟨ea,ec,ex⟩ aP.2.1 bf.at' q9.o.1;have zN:=hd aN;have dE:=hd bf;have ag:=λx=>aM.o ex x q9.o.1;clear bN aN aP bO bf dh dP dQ;generalize aO (iw ts q ex)=se at*;obtain⟨el,bg⟩:∃n,n=N ex:=⟨_,rfl⟩;have dF:=hd bg;simp only at Um;rw[<-bg]at Um ⊢;clear bg;go_wp2_with fail;refine Um.mono ?_;rintro e w4 ⟨rfl,X⟩;have ai:=ag w4;obtain⟨L,dR⟩:=aJ (zN.o.below X) (dE.o.below X);clear Um X ag;go_wp2_with fail;refine ai.mono ?_;rintro e wz ⟨rfl,dS⟩;have uh:=dS.symm;subst uh;clear ai a0 a1 a2 a3 a4 a5 a6 a7 a8 a9 nA oC t;generalize aZ s se=CB0 at*;cases CB0
 case' true=>
  have UX:=as2 L.o (by simp) ⟨ea,ec,ex⟩ dR.o (by show N ex<=1000;have:=q9.o.2;omega);simp only at UX;rw[<-dF.o]at UX;go_wp2_with fail;refine UX.mono ?_;rintro e w5 ⟨v',rfl,⟨ra,rm,rc,rfl⟩,aC,-⟩;have V6:Y3 (l9 Fq y (d 0) (Z ra rm rc) w5):=by show l9 _ _ _ _ _;rw[bJ.o,bK.o];exact aC
  have aj:=p.o w5 _ _ V6.o;have ak:=Ul.o w5 aj.2.2.1;clear UX aC;obtain⟨a0,a1,a2,a3,a4,a5,a6,a7,a8,a9,nA,oC,t⟩:=ak.oh;clear ak aj
 case' false=>
  have V6:Y3 (l9 Fq y (d 0) (Z (O (aD (M (H y)) 0)) 1 1) w4):=by show l9 _ _ _ _ _;rw[bJ.o,bK.o];exact L.o
  have aj:=p.o w4 _ _ V6.o;have ak:=Ul.o w4 aj.2.2.1;obtain⟨a0,a1,a2,a3,a4,a5,a6,a7,a8,a9,nA,oC,t⟩:=ak.oh;clear ak aj
 all_goals
  go_wp2;go_loopw [5,30] (λpv xv wr=>∃k:Nat,k<=N q.wh/\xv=I J (k:Int)/\(∃a m c,pv=Z a m c)/\Y3 (l9 Fq y (d k) pv wr)) (λ_ xv _=>N q.wh-(intOf xv).toNat)
  case atStart=>exact⟨0,QW _,rfl,⟨_,_,_,rfl⟩,V6.o⟩
  case round=>
   obtain⟨k,hk,rfl,⟨pa,pm,pc,rfl⟩,bn⟩:=hrel;by_cases aK:k<N q.wh
   .have C:=p.o wr _ _ bn.o;obtain⟨K,⟨kb,Un,dm⟩,dn⟩:=bI.o k wr aK C.2.1;have aQ:=λx (hx:Bw w x)=>(bI.o k x aK hx).2.2
    have FD:=dA.o k aK;have aG:=dz.o k aK;have eu:=dB.o k;rw[dm]at K ⊢;clear dm;change wr.cell? (aD kb (Un+k))=O (Z (E q.wh k lz).ad (E q.wh k lz).cs.length (E q.wh k lz).cap) at K;unfold lh at FD;generalize bQ (E q.wh k lz).cs=EC at*;obtain⟨u,A,c3⟩:=EC;simp only at aQ FD aG dn;generalize (E q.wh k lz).ad=ca at*;generalize (E q.wh k lz).cs.length=cl at*;generalize (E q.wh k lz).cap=cc at*;obtain⟨y1,bq⟩:∃x,wr.alloc (EP #[Z ca cl cc] 73)=x:=⟨_,rfl⟩;have D:Bw wr y1:=by rw[<-bq];exact dN _ _
    have b0:UK y1 (aD (M (H wr)) 0)=O (Z ca cl cc):=by rw[<-bq];simp
    have bR:=aQ y1 (az C.2.1 D);have JM:=Zh (bn.o.below D);clear D dn aQ C;obtain⟨wl,eD⟩:∃n,n=N q.wh:=⟨_,rfl⟩;go_wp2_with fail;refine bR.mono ?_;rintro e y2 ⟨rfl,r⟩;have aS:=Zh (JM.o.below r);clear bR bq b0 K r
    cases c3 with
    |false =>
     have JQ:=hd FD;clear FD aG;go_wp2;go_roundw
     case rel=>exact⟨k+1,by omega,by go_num,⟨_,_,_,rfl⟩,by show l9 _ _ _ _ _;rw[JQ.o];exact aS.o⟩
     case measure=>simp[intOf];omega
    |true =>
     obtain⟨bu,bz⟩:=aG rfl;have Uo:jI ts q [u,A]:=λc hc=>by
      rcases Z0.1 hc with rfl|hc
      .exact bu _ Jd
      .exact bz c hc
     have KQ:=p.o y2 _ _ aS.o;obtain⟨y3,dU,Q,S⟩:=aL y2 #[I J u,I J A] 3;have Um:=xz.o y3 ⟨O (aD (M (H y2)) 0),2,[u,A]⟩ (az KQ.2.1 Q) ⟨by simp,λi hi=>⟨M (H y2),0,rfl,by
      rw[ZK];have dG:i<2:=hi
      match i,dG with
      |0,_=>exact S.cell 0
      |1,_=>exact S.cell 1⟩⟩ Uo
     change Calls V 97 #[FL #[v0,Z q.gI (N q.wh) q.bP,v2,v3,v4,v5,v6,v7,v8,v9,au,av,ax],Z (O (aD (M (H y2)) 0)) 2 2] y3 _ at Um;have aa:=Ul.o y2 KQ.2.2.1;obtain⟨a0,a1,a2,a3,a4,a5,a6,a7,a8,a9,nA,oC,t⟩:=aa.oh;have zN:=Zh (aS.o.below Q);have ag:=λx=>aM.o [u,A] x Uo;have qL:Y3 (jI ts q [u]/\jI ts q [A]):=⟨bu,bz⟩;clear aa Q S KQ bu bz Uo aG;generalize aO (iw ts q [u,A])=s12 at*;go_wp2_with fail;refine Um.mono ?_;rintro e y4 ⟨rfl,X⟩;have L:=Zh (zN.o.below X);have ai:=ag y4;clear Um X dU ag a0 a1 a2 a3 a4 a5 a6 a7 a8 a9 nA oC t;go_wp2_with fail;refine ai.mono ?_;rintro e yz ⟨rfl,dV⟩;have dH:=dV.symm;subst dH;clear ai;generalize aZ s s12=CB at*
     cases CB with
     |true =>
      have JQ:=hd FD;clear FD;go_wp2;go_roundw
      case rel=>exact⟨k+1,by omega,by go_num,⟨_,_,_,rfl⟩,by show l9 _ _ _ _ _;rw[JQ.o];exact L.o⟩
      case measure=>simp[intOf];omega
     |false =>
      have JQ:=hd FD;obtain⟨y5,dW,dw,bA⟩:=aL y4 #[I J u,I J A] 3;have bS:Y3 (l9 Fq y (d k) (Z pa pm pc) y5/\UK y5 (aD (M (H y4)) 0)=O (I J u)/\UK y5 (aD (M (H y4)) 1)=O (I J A)/\(Value.slice pa pm pc).ownBlock≠O (M (H y4))):=⟨L.o.below dw,bA.cell 0,bA.cell 1,λe=>by have:=(p.o y4 _ _ L.o).2.2.2 _ e;omega⟩;obtain⟨lb,bB⟩:∃b,b=M (H y4):=⟨_,rfl⟩;rw[<-bB]at bS;obtain⟨B,bC⟩:∃Uq:Nat->List (List Int),Uq=λj=>if j=0 then d k else if j=1 then fC ts q s (d k) u else fC ts q s (fC ts q s (d k) u) A:=⟨_,rfl⟩;have HU:Y3 (B 0=d k/\B 1=fC ts q s (B 0) u/\B 2=fC ts q s (B 1) A/\B 2=d (k+1)):=by rw[bC];exact⟨rfl,rfl,rfl,JQ.o.symm⟩
      have dI:Y3 (∀j,N (B j)<=40):=λj=>by
       have h1:=ni ts q s (d k) u;have h2:=ni ts q s (fC ts q s (d k) u) A;rw[bC];show N (if j=0 then d k else if j=1 then fC ts q s (d k) u else fC ts q s (fC ts q s (d k) u) A)<=40;split
       .omega
       .split <;> omega
      have eB:=Zh bB.symm;clear dw bA FD bC;go_wp2;rw[<-bB]at*;clear dW;go_loopw [5,55] (λpv xv wx=>∃j:Nat,j<=2/\xv=I J (j:Int)/\(∃a m c,pv=Z a m c)/\Y3 (l9 Fq y (B j) pv wx/\UK wx (aD lb 0)=O (I J u)/\UK wx (aD lb 1)=O (I J A)/\pv.ownBlock≠O lb)) (λ_ xv _=>2-(intOf xv).toNat)
      case atStart=>exact⟨0,by omega,rfl,⟨_,_,_,rfl⟩,by show l9 _ _ _ _ _/\_;rw[HU.o.1];exact bS.o⟩
      case round=>
       obtain⟨j,hj,rfl,⟨qa,qm,qc,rfl⟩,HJ⟩:=hrel;by_cases eF:j<2
       .have dJ:∃gU,UK wr (aD lb j)=O (I J gU)/\jI ts q [gU]/\B (j+1)=fC ts q s (B j) gU:=by
         have dK:j=0∨j=1:=by omega
         rcases dK with rfl|rfl
         .exact⟨u,HJ.o.2.1,qL.o.1,HU.o.2.1⟩
         .exact⟨A,HJ.o.2.2.1,qL.o.2,HU.o.2.2.1⟩
        obtain⟨gU,kU,bD,bE⟩:=dJ;have P:=HJ.o;have C:=p.o wr _ _ P.1;have hf:=Ul.o wr C.2.2.1;obtain⟨a0,a1,a2,a3,a4,a5,a6,a7,a8,a9,nA,oC,t⟩:=hf.oh;obtain⟨z1,bF⟩:∃x,wr.alloc (EP #[I J gU] 3)=x:=⟨_,rfl⟩;have D:Bw wr z1:=by rw[<-bF];exact dN _ _
        have bT:UK z1 (aD (M (H wr)) 0)=O (I J gU):=by rw[<-bF];simp
        have aT:=xz.o z1 ⟨O (aD (M (H wr)) 0),1,[gU]⟩ (az C.2.1 D) (Uk (Fq:=λ_=>True) bT trivial).at' bD;change Calls V 97 #[FL #[v0,Z q.gI (N q.wh) q.bP,v2,v3,v4,v5,v6,v7,v8,v9,au,av,ax],Z (O (aD (M (H wr)) 0)) 1 1] z1 _ at aT;have bU:=λx=>aM.o [gU] x bD;have dL:=Zh D;have aU:Y3 (∀x,Bw wr x->l9 Fq y (B j) (Z qa qm qc) x/\UK x (aD lb 0)=O (I J u)/\UK x (aD lb 1)=O (I J A)/\(Value.slice qa qm qc).ownBlock≠O lb):=λx hx=>⟨P.1.below hx,cB hx P.2.1,cB hx P.2.2.1,P.2.2.2⟩;unfold fC at bE;have aH:=Zh bE;clear hf C D bT bD bE P;generalize aO (iw ts q [gU])=sc at*;obtain⟨wq,dX⟩:∃x,x=wr:=⟨_,rfl⟩;subst dX;go_wp2_with fail;refine aT.mono ?_;rintro e z2 ⟨rfl,r⟩;have aV:=Zh (az dL.o r);have bV:=bU z2;clear aT r bF bU a0 a1 a2 a3 a4 a5 a6 a7 a8 a9 nA oC t kU;go_wp2_with fail;refine bV.mono ?_;rintro e zz ⟨rfl,dY⟩;have dM:=dY.symm;subst dM;clear bV;generalize aZ s sc=CB2 at*
        cases CB2 with
        |false =>
         have aW:Y3 (B (j+1)=B j):=aH.o;have HF:=Zh (aU.o z2 aV.o);clear aH;go_wp2;go_roundw
         case rel=>exact⟨j+1,by omega,by go_num,⟨_,_,_,rfl⟩,by show l9 _ _ _ _ _/\_;rw[aW.o];exact HF.o⟩
         case measure=>simp[intOf];omega
        |true =>
         have aW:Y3 (B (j+1)=jS (B j) [gU]):=aH.o;obtain⟨z3,bG⟩:∃x,z2.alloc (EP #[I J gU] 3)=x:=⟨_,rfl⟩;have Q:Bw z2 z3:=by rw[<-bG];exact dN _ _
         have S:UK z3 (aD (M (H z2)) 0)=O (I J gU):=by rw[<-bG];simp
         have aX:=aU.o z3 (az aV.o Q);have bW:=aU.o z2 aV.o;have KQ:=p.o z2 _ _ bW.1;have UX:=as2 aX.1 (by have:=dI.o j;omega) ⟨O (aD (M (H z2)) 0),1,[gU]⟩ (Uk S (KQ.1.high _ (Qn _))) (by simp);change Calls V 98 #[Z qa qm qc,Z (O (aD (M (H z2)) 0)) 1 1] z3 _ at UX;have W:=Zh aX;clear aH Q S aX bW KQ;go_wp2_with fail;refine UX.mono ?_;rintro e z4 ⟨v',rfl,⟨ra,rm,rc,rfl⟩,aC,bH,Yw⟩;have HF:Y3 (l9 Fq y (B (j+1)) (Z ra rm rc) z4/\UK z4 (aD lb 0)=O (I J u)/\UK z4 (aD lb 1)=O (I J A)/\(Value.slice ra rm rc).ownBlock≠O lb):=by
          refine⟨by rw[aW.o];exact aC,Js bH W.o.2.1 W.o.2.2.2,Js bH W.o.2.2.1 W.o.2.2.2,λe=>?_⟩;rcases Yw with h|⟨g,h,hg⟩
          .exact W.o.2.2.2 (h ▸ e)
          .rw[h]at e;injection e with e;have dZ:lb<M (H z3):=QK W.o.2.1;omega
         clear UX aC bH Yw bG;go_wp2;go_roundw
         case rel=>exact⟨j+1,by omega,by go_num,⟨_,_,_,rfl⟩,HF.o⟩
         case measure=>simp[intOf];omega
       .have bX:j=2:=by omega
        have HF:Y3 (l9 Fq y (d (k+1)) (Z qa qm qc) wr):=by have:=HJ.o.1;rw[bX,HU.o.2.2.2]at this;exact this
        clear bX;go_wp2;go_roundw
        case rel=>exact⟨k+1,by omega,by go_num,⟨_,_,_,rfl⟩,HF.o⟩
        case measure=>simp[intOf];omega
   .have lJ:N q.wh=k:=by omega
    have HF:Y3 (∃os,jV 22 Fq (M (H w)) wr (Z pa pm pc) os/\os.map ae.xs=R/\Bw w wr):=by refine dD.o wr _ _ ?_;have:=bn.o;rw[<-lJ,dC.o]at this;exact this
    clear lJ;go_wp2;go_ret;obtain⟨os,h1,h2,h3⟩:=HF.o;exact⟨_,os,rfl,h1,h2,h3⟩
section
attribute [local go_sem] Oper.semAt_some
def Ot(lo:Nat)(bi bc gi:Nat)(ik:Array X3)(c:ae)(rows:List (List Int))(w0:U)(hbi:bi<M (H w0))(hbc:bc<M (H w0))
  (hci:UK w0 (aD bi 0)=O (.func (.func gi) #[] ik)) (hcc:UK w0 (aD bc 0)=O c.val) (hc:c.At w0) (hcl:N c.xs<=1000)
  (hseq:Seq aj V gi ik rows w0) (FZ:∀args w,(callFunc gi args).run V w=.ok (.enter gi args) w)
  (hin:∀r∈rows,aS c.xs (N r)=T) (hlo:lo<=M (H w0)) :
  Seq (kg 3 lo) V 142 #[Y (O (aD bi 0)),Y (O (aD bc 0))] (rows.map λr=>au r c.xs) w0:=by
 intro l Jq W o hW ho hJ hY h0;have aF:=(hW.cell (p:=(aD bi 0)) hbi).trans hci;obtain⟨HY,HO,HW,HJ,Dr,aN⟩:=MP hY ho hW hJ hin hcc;have HC:Y3 _:=hc;obtain⟨Al,aO⟩:=aJ hcl hbc;clear hY ho hW hJ hin hci hcc hc hcl hbc;have v:Bw W (W.alloc (EP #[.func (.yield l) #[] #[]] 123)):=dN _ _;have ai:=(v.cell (p:=(aD bi 0)) (QA hbi HW.o.size)).trans aF;have Fw:UK (W.alloc (EP #[.func (.yield l) #[] #[]] 123)) (aD (M (H W)) 0)=O (.func (.yield l) #[] #[]):=by simp
 have R:M (H (W.alloc (EP #[.func (.yield l) #[] #[]] 123)))=M (H W)+1:=by simp
 refine(QH (n:=0)).1 (Q3 Tryz.func142 rfl trivial ?_ rfl);simp only[Tryz.ntmps142,QN,QO,QP,Nat.reduceAdd,Nat.reduceSub,QQ,QR,QS,QT,QU,QV];gi_wp2;obtain⟨G,aa⟩:=eX (W.alloc (EP #[.func (.yield l) #[] #[]] 123));rw[aa]at v ai Fw R;rw[aa];clear aa;obtain⟨H1,H2⟩:=aJ R v;clear R v ai;refine nI aj (gf:=gi) (lb:=ik) rfl FZ hseq (HW.o.trans (H2.o.mono HW.o.size)) rfl
  (λpre k W'=>∃f,f.map ae.xs=pre.map (λr=>au r.xs c.xs)/\Jq f k W'/\Kept (λb=>¬o b) G W'/\∀b,k b->o b∨(M (H G)<=b/\b<M (H W')))
  o ?_ ?_ ?_ (λx=>{ tmps:=#[.func (.yield l) #[] #[],Y (O (aD bi 0)),Y (O (aD bc 0)),Y (O (aD (M (H W)) 0)),x.val,.func (.func gi) #[] ik,x.val,undef,undef,undef,undef,undef,undef],defers:=[] }) ?assign ?body ?done
 .intro b a;exact⟨(HO.o b a).1,by have:=(HO.o b a).2;have:=H1.o;omega⟩
 .rintro pre k A B ⟨f,L,P,u,z⟩ af;have h1:=H1.o;exact⟨f,L,HJ.o _ _ _ _ P (af.mono λb _ h=>h.imp id (by omega)),u.trans' af (λb a _=>.inr a),λb h=>(z b h).imp id (λh=>⟨h.1,by have:=af.size;omega⟩)⟩
 .exact⟨[],rfl,HJ.o _ _ _ _ h0 (QB H2.o λb a _=>a),Qy _ _,λb h=>.inl h⟩
 case assign=>
  intro l x W K hK;gi_wp2;exact hK
 case body=>
  rintro l2 pre x k Wr ⟨f,L,P,u,z⟩ m hx aB aP;have g:∀s,Kept s Wr Wr.drew:=λs=>⟨rfl,rfl,rfl,Qn _,λ_ _ _=>rfl⟩;obtain⟨d,aC⟩:=eX (Wr.drew);rw[aC]at g;have aG:=Zh g;have yw:M (H d)=M (H Wr):=by rw[<-aC];rfl
  have aH:=Zh yw
  replace P:=HJ.o _ _ _ _ P (g _)
  replace u:=u.trans (g _)
  replace hx:=aj.keep hx (g (λ_=>True)).size (λb a _=>(g (λ_=>True)).block b a trivial)
  rw[<-yw]at z aP;clear g yw;have h1:=H1.o;have y:=(HW.o.trans (H2.o.mono HW.o.size)).trans (u.below (by have:=HW.o.size;omega) (λi hi h=>by have:=(HO.o i h).1;omega));have aI:=(y.cell (p:=(aD bc 0)) aO.o).trans aN.o;have ak:c.At d:=Qo y HC.o;have O6:∀b,M (H W)<=b->¬o b:=λb a h=>by have:=(HO.o b h).2;omega
  have aK:=Q0 Fw u (O6 _ (Qn _));have av:=GV x c d hx.1 ak (Dr.o _ (lD m)) Al.o;obtain⟨Q,q⟩:=eX (d.alloc (EP ((au x.xs c.xs).map (Value.int J)).toArray 3));have j:Bw d Q:=by rw[<-q];exact dN _ _
  have S:N (au x.xs c.xs)=N c.xs:=by simp[au]
  have U4:(kg 3 lo).At ⟨O (aD (M (H d)) 0),N (au x.xs c.xs),au x.xs c.xs⟩ Q:=by rw[<-q];exact⟨BC d _ _ (by rw[S];have:=Al.o;omega),λb a=>by cases a;exact Qz hlo y.size⟩
  have ax:M (H Q)=M (H d)+1:=by rw[<-q];simp
  rw[q]at av;obtain⟨aV,Gs⟩:=nH j aI aK;have Py:=HJ.o _ _ _ _ P (QB j (λb a _=>a));have ay:(f++[(⟨O (aD (M (H d)) 0),N (au x.xs c.xs),au x.xs c.xs⟩:ae)]).map (kg 3 lo).key <+: rows.map λr=>au r c.xs:=by
   have e1:(f++[(⟨O (aD (M (H d)) 0),N (au x.xs c.xs),au x.xs c.xs⟩:ae)]).map (kg 3 lo).key=(pre++[x]).map (λr=>au r.xs c.xs):=by rw[Qi,Qi];show f.map ae.xs++_=_;rw[L];rfl
   rw[e1];exact aeG c.xs m
  have az:∀b,k b->b<M (H d):=λb h=>by
   rcases z b h with h|h
   .have:=(HO.o b h).2;omega
   .exact h.2
  obtain⟨fn,tmps,assign,body,hy,aQ⟩:=HY.o f _ k Q Py ay U4 (λb a=>by
   have X:O (M (H d))=O b:=a;cases X;exact⟨λh=>by have:=az _ h;omega,.inr (by omega)⟩) (by omega)
  have aT:(Instr.yield l #[Z (O (aD (M (H d)) 0)) (N c.xs) (N c.xs)]).run V Q=.ok (.round l fn tmps assign body) Q:=by have:=hy;unfold kg ae.val at this;simp only[S]at this;exact this
  obtain⟨HZ,aW,zN⟩:=dQ L j ax;have aL:Y3 (∀(o2:Nat->Prop) (t:U),Jq (f++[⟨O (aD (M (H d)) 0),N (au x.xs c.xs),au x.xs c.xs⟩]) o2 t->Kept (λb=>¬k b) Q t->
    (∀b,o2 b->k b∨(M (H Q)<=b/\b<M (H t))∨((kg 3 lo).blk ⟨O (aD (M (H d)) 0),N (au x.xs c.xs),au x.xs c.xs⟩=O b/\M (H W)<=b))->
    ∃ah,(∃f,f.map ae.xs=(pre++[x]).map (λr=>au r.xs c.xs)/\Jq f ah t/\Kept (λb=>¬o b) G t/\∀b,ah b->o b∨(M (H G)<=b/\b<M (H t)))/\Kept (λb=>¬k b) Wr t/\
     ∀b,ah b->k b∨(M (H Wr)<=b/\b<M (H t))∨(aj.blk x=O b/\M (H G)<=b)):=by
   intro o2 t Nt C ag;have aU:=C.size;have yw:=aH.o;have D:∀b,o2 b->k b∨(M (H d)<=b/\b<M (H t)):=λb a=>by
    rcases ag b a with h|h|⟨h,_⟩
    .exact .inl h
    .exact .inr ⟨by omega,h.2⟩
    .have X:O (M (H d))=O b:=h
     cases X;exact .inr ⟨Qn _,by omega⟩
   have aA:=(QB j (λb a _=>a)).trans C;refine⟨o2,⟨_,?_,Nt,u.trans' aA ?_,?_⟩,(aG.o _).trans aA,?_⟩
   .rw[Qi,Qi,L];rfl
   .intro b a h h';rcases z b h' with h'|h'
    .exact h h'
    .omega
   .intro b a;rcases D b a with h|h
    .exact(z b h).imp id (λh=>⟨h.1,by omega⟩)
    .exact .inr ⟨by omega,h.2⟩
   .intro b a;rcases D b a with h|h
    .exact .inl h
    .exact .inr (.inl ⟨by omega,h.2⟩)
  have FO:V.follows .mixedOrders=true:=by kernel_rfl
  clear L u z az P Py ay U4 hx aB m hy y ak O6 j q S ax;obtain⟨iZ,bL,fB⟩:=x;obtain⟨lQ,dE,fM⟩:=c;unfold ae.val at*;simp only at*;gi_wp2;gi_region_with_o (first|(refine⟨trivial,rfl,Q4 l2 (QH.2 (av.mono ?_))⟩;rintro e w4 ⟨rfl,rfl⟩)|(refine⟨rfl,aQ.mono ?_⟩;rintro e t ⟨rfl,o2,Nt,C,ag⟩))
  all_goals gi_wp2
  all_goals exact aL.o _ _ Nt C ag
 case done=>
  rintro us o' d Vl ⟨f,L,P,u,z⟩ aX aR hD;have h1:=H1.o;gi_wp2;have aM:¬o' (M (H G)):=λh=>by
   rcases aR _ h with h|h
   .have:=(HO.o _ h).2;omega
   .omega
  have vO:Kept (λb=>b≠M (H G)) d (d.putObj (M (H G)) (.deferred xn)):=QC _ _ (λh=>h rfl);refine⟨by simp,.inl ⟨_,_,rfl,Q5 hD,?_⟩⟩;refine⟨_,Q6 rfl _ _ _,⟨_,rfl⟩,f,o',?_,HJ.o _ _ _ _ P (vO.mono λb _ h=>?_),((QB H2.o (λb a _=>a)).trans' u (λb _ h=>h)).trans' vO (λb a _=>by omega),λb h=>(z b h).imp id (λh=>⟨by omega,by rw[Q7];omega⟩)⟩
  .show f.map ae.xs=_
   rw[L,<-Vl,Z9];rfl
  .rcases h with h|h
   .intro e;exact aM (e ▸ h)
   .omega
def zP(vi:X3)(c:ae)(rows:List (List Int))(w:U)(hi:dh aj V vi rows w)(hc:c.At w)(hcl:N c.xs<=1000)(hin:∀r∈rows,aS c.xs (N r)=T) :
  Calls V 92 #[vi,c.val] w λe k=>∃v,e=FN v/\qi V 3 v (rows.map λr=>au r c.xs) k/\Bw w k:=by
 obtain⟨g,i,rfl,n,d⟩:=hi;have a:=dN w (EP #[.func (.func g) #[] i] 79);have b:=dN (w.alloc (EP #[.func (.func g) #[] i] 79)) (EP #[c.val] 22);have f:=a.trans (b.mono a.size);have j:qi V 3 (.func (.func 142) #[] #[Y (O (aD (M (H w)) 0)),Y (O (aD (M (H w)+1) 0))]) (rows.map λr=>au r c.xs) ((w.alloc (EP #[.func (.func g) #[] i] 79)).alloc (EP #[c.val] 22)):=
  ⟨_,_,rfl,XZ Tryz.func142 (by kernel_rfl) rfl,Ot _ (M (H w)) (M (H w)+1) g i c rows _ (by simp;omega) (by simp) (by simp) (by simp) (Qo f hc) hcl (Seq.later _ d f) n hin (Qn _)⟩
 obtain⟨p,q,t⟩:=c;unfold ae.val at*;simp only at*;have l:Y3 _:=j;have m:=Zh f;clear j f a b d hc hcl hin;go_enter Tryz.func92,Tryz.ntmps92;go_wp2;go_ret;exact⟨_,rfl,l.o,m.o⟩
def Ou(vi:X3)(q:af)(rows:List (List Int))(w:U)(hg:q.group=F)(hi:dh aj V vi rows w)(hc:q.bE.At w)(hcl:N q.bE.xs<=1000)(hin:∀r∈rows,aS q.bE.xs (N r)=T) :
  Calls V 53 #[vi,FL q.cells] w λe n=>∃v,e=FN v/\qi V 3 v (rows.map λr=>au r q.bE.xs) n/\Bw w n:=by
 have k:=dN w (EP q.cells 26);have d:=zP vi q.bE rows _ (hi.later k) (Qo k hc) hcl hin;obtain⟨A,B,rfl,_,_⟩:=id hi;clear hi hc hcl hin;have p:Y3 _:=k;clear k;obtain⟨src,m,bP,wh,group,a,b,⟨f,g,i⟩,ord⟩:=q;unfold af.cells ae.val at*;simp only at*;subst hg;have t:UK (w.alloc (EP #[Z src.ad (N src.xs) src.cap,Z m (N wh) bP,Wl F,Z a.ad (N a.xs) a.cap,Z b.ad (N b.xs) b.cap,Z f (N i) g,Z ord.ad (N ord.xs) ord.cap] 26)) (aD (M (H w)) 5)=O (Z f (N i) g):=by simp
 have u:UK (w.alloc (EP #[Z src.ad (N src.xs) src.cap,Z m (N wh) bP,Wl F,Z a.ad (N a.xs) a.cap,Z b.ad (N b.xs) b.cap,Z f (N i) g,Z ord.ad (N ord.xs) ord.cap] 26)) (aD (M (H w)) 2)=O (Wl F):=by simp
 go_enter Tryz.func53,Tryz.ntmps53;go_wp2_with fail;refine d.mono ?_;rintro e C ⟨v,rfl,j,l⟩;have y:Y3 _:=j;obtain⟨D,z,rfl,_,_⟩:=id j;clear j d;go_wp2;go_ret;exact⟨_,rfl,y.o,p.o.trans (l.mono (by simp))⟩
end
section
attribute [local go_sem] Oper.semAt_some
def Wy(lo:Nat)(bi bk bs gi:Nat)(ik:Array X3)(kc sc:ae)(rows:List (List Int))(w0:U)(hbi:bi<M (H w0))(hbk:bk<M (H w0))(hbs:bs<M (H w0))
  (hci:UK w0 (aD bi 0)=O (.func (.func gi) #[] ik)) (hck:UK w0 (aD bk 0)=O kc.val) (hcs:UK w0 (aD bs 0)=O sc.val) (hkc:kc.At w0) (hsc:sc.At w0) (hkl:N kc.xs<=4) (hsl:N sc.xs<=4)
  (hseq:Seq aj V gi ik rows w0) (FZ:∀args w,(callFunc gi args).run V w=.ok (.enter gi args) w) (hlen:N rows<=1000000) (Cr:∀r∈rows,aS kc.xs (N r)=T) (Cs:∀r∈rows,aS sc.xs (N r)=T) (hsm:∀r∈rows,∀v∈r,bW v) (hlo:lo<=M (H w0)) :
  Seq (kg 3 lo) V 139 #[Y (O (aD bi 0)),Y (O (aD bk 0)),Y (O (aD bs 0))] ((dW kc.xs sc.xs rows).map Gr.row) w0:=by
 intro l Jq W o A ho hJ hY h0;have c1:=(A.cell (p:=(aD bi 0)) hbi).trans hci;have c2:=(A.cell (p:=(aD bk 0)) hbk).trans hck;have c3:=(A.cell (p:=(aD bs 0)) hbs).trans hcs;have ay:=Eb gi ik kc sc rows w0 W A hseq FZ (Qo A hkc) (Qo A hsc) hkl hsl hlen Cr Cs hsm;have az:N (dW kc.xs sc.xs rows)<=1000001:=by
  have h:=Co kc.xs sc.xs (rows.map λr=>(⟨xn,0,r⟩:ae)) (cO kc.xs sc.xs);rw[List.foldl_map,Zm]at h;have h3:N (cO kc.xs sc.xs)<=1:=by unfold cO;split <;> simp
  have G:N (rows.foldl (stepG kc.xs sc.xs) (cO kc.xs sc.xs))<=N (cO kc.xs sc.xs)+N rows:=h;unfold dW;omega
 obtain⟨aM,JN,HY,HO,HJ,zk⟩:=MP az (Qz hlo A.size) hY ho hJ hsl;obtain⟨UT,aa⟩:=aJ hkl hlen;have K:Y3 (∀g∈dW kc.xs sc.xs rows,N g.key<=N kc.xs/\g.cnt<=N rows):=λg hg=>Km g hg;obtain⟨Ag,lT,fK⟩:=kc;obtain⟨xe,lS,dG⟩:=sc;unfold ae.val at*;simp only at*;refine(QH (n:=0)).1 (callsIn_of_wp Tryz.func139 rfl trivial ?_ rfl);simp only[Tryz.ntmps139,QN,QO,QP,Nat.reduceAdd,Nat.reduceSub,QQ,QR,QS,QT,QU,QV];gi_wp2;refine⟨trivial,rfl,QH.2 (ay.mono ?_)⟩;rintro e Wg ⟨v,a,rfl,af,ag,u⟩;obtain⟨Nv,uS,rfl⟩:=xy ag.own;have L:=u.size;have aA:=HJ.o _ _ _ _ h0 (QB (s:=λb=>o b∨b<M (H W)) u (λb d _=>d));have aX:N a<=1000001:=by have:=congrArg N af;rw[Zm]at this;have:=aM.o;omega
 obtain⟨aN,ah,nO,y⟩:=om u L ag af;gi_wp2;gi_loopw [12] (λi wr=>∃k:Nat,k<=N a/\i=I J k/\∃ys C,Y3 (ys.map ae.xs=(a.take k).map (λg=>g.gr.row))/\Jq ys C wr/\Y3 (Kept (λb=>¬o b) Wg wr)/\Y3 (∀b,C b->o b∨(M (H Wg)<=b/\b<M (H wr))))
  (λi _=>N a-(intOf i).toNat)
 case atStart=>exact⟨0,QW _,rfl,[],o,rfl,aA,Qy _ _,λb h=>.inl h⟩
 case round=>
  obtain⟨k,hk,rfl,ys,C,z,ai,lJ,f⟩:=hrel;by_cases m:k<N a
  .have P:=nO.o.keep lJ.o (λb d=>by
    intro h;have q:=(HO.o b h).2;rcases sU nO.o d with B|B <;> omega)
   obtain⟨gr,sI,hv,hci⟩:=afl P m;have t:=P.at' _ (Zv m);have Q:=K.o a[k].gr (by rw[<-y.o];exact List.mem_map_of_mem (Zv m));have aB:a[k].k.xs.length<=4:=by have q:=Q.1;have B:=UT.o;have h3:a[k].gr.key=a[k].k.xs:=rfl;rw[h3]at q;omega
   have aC:a[k].cnt<=1000000:=by have q:=Q.2;have B:=aa.o;have h3:a[k].gr.cnt=a[k].cnt:=rfl;rw[h3]at q;omega
   have aF:=zk.o;have R:=vB a[k].gb a[k].sb a[k].k a[k].cnt a[k].ss wr (by rw[t.len];exact t.cells) t.sums t.key.1 t.key.2.2 aB (by rw[t.len];exact aF) aC;have aG:N (a[k].k.xs++[(a[k].cnt:Int)]++a[k].ss)<=1000:=by have:=t.len;simp;omega
   have aH:=Zh aG;have aI:(a.take k).map (λg=>g.gr.row)++[a[k].gr.row]=(a.take (k+1)).map (λg=>g.gr.row):=by rw[Qh m,Qi];rfl
   have PG:=Zh aI;have S:Y3 (a[k].gr.row=a[k].k.xs++[(a[k].cnt:Int)]++a[k].ss):=rfl;obtain⟨rfl,rfl⟩:Nv=O (aD gr 0)/\uS=sI:=by injection hv with q _ B;exact⟨q,B⟩
   gi_wp2;refine⟨trivial,rfl,QH.2 (R.mono ?_)⟩;rintro e w3 ⟨v3,rfl,ak,au⟩;obtain⟨D,rfl,zZ,oD,Bo⟩:=Ct ak (by have:=aH.o;omega);have aY:=au.size;have X:∀s,Kept s wr w3:=λs=>QB au (λb d _=>d);have L:=ah.o;have aZ:=lJ.o.size;have Py:=HJ.o _ _ _ _ ai (X _);have aK:∀b,C b->b<M (H wr):=λb d=>by
    rcases f.o b d with h|h
    .have:=(HO.o b h).2;omega
    .exact h.2
   have aL:(ys++[D]).map (kg 3 lo).key <+: (dW fK dG rows).map Gr.row:=by
    have e1:(ys++[D]).map (kg 3 lo).key=(a.take (k+1)).map (λg=>g.gr.row):=by rw[Qi,<-PG.o];show ys.map ae.xs++[D.xs]=_;rw[z.o,zZ,S.o]
    rw[e1,<-y.o,Z9];exact List.IsPrefix.map _ (List.take_prefix _ _)
   obtain⟨fn,tmps,j,av,hy,aO⟩:=HY.o ys D C w3 Py aL ⟨oD,λb d=>by have:=Bo b d;have:=JN.o;omega⟩ (λb d=>⟨λh=>by have:=aK b h;have:=Bo b d;omega,.inr (by have:=Bo b d;omega)⟩) (by omega);obtain⟨aP,aQ⟩:=aJ zZ Bo;have Dr:Y3 (∀b,aj.blk D=O b->b<M (H w3)):=λb d=>aj.zw oD.1 d;have zX:=Zh X;obtain⟨rP,iP,Gi⟩:=D;have bf:(Instr.yield l #[Z rP (N Gi) iP]).run V w3=.ok (.round l fn tmps j av) w3:=hy;unfold ae.val;simp only;gi_wp2;refine⟨rfl,aO.mono ?_⟩;rintro e W4 ⟨rfl,o2,aR,aT,aU⟩;obtain⟨aV,ax,aW⟩:=dQ aR aT aU;gi_wp2;go_roundw
   case rel=>
    have bg:=ax.o.size;refine⟨k+1,by omega,by simp,ys++[⟨rP,iP,Gi⟩],o2,?_,aV.o,?_,?_⟩
    .show _=_
     rw[Qi,z.o,<-PG.o];show _++[Gi]=_;have h:=aP.o;rw[h,S.o]
    .refine(lJ.o.trans (zX.o _)).trans' ax.o (λb d h G=>?_);rcases f.o b G with G|G
     .exact h G
     .omega
    .intro b d;rcases aW.o b d with h|h|⟨h,_⟩
     .rcases f.o b h with h|h
      .exact .inl h
      .exact .inr ⟨h.1,by omega⟩
     .exact .inr ⟨by omega,h.2⟩
     .have q:=aQ.o b h;have B:=Dr.o b h;exact .inr ⟨by omega,by omega⟩
   case measure=>simp[intOf];omega
  .obtain rfl:k=N a:=by omega
   gi_wp2;go_end0;refine⟨⟨_,rfl⟩,ys,C,?_,ai,(QB aN.o (λb d _=>d)).trans' lJ.o (λb _ h=>h),λb d=>?_⟩
   .show ys.map ae.xs=_
    rw[z.o,QX,<-y.o,Z9];rfl
   .rcases f.o b d with h|h
    .exact .inl h
    .exact .inr ⟨by have:=ah.o;omega,h.2⟩
def EW(vi:X3)(k s:ae)(rows:List (List Int))(w:U)(hi:dh aj V vi rows w)(hk:k.At w)(hs:s.At w)(hkl:N k.xs<=4)(hsl:N s.xs<=4)(hlen:N rows<=1000000)(Cr:∀r∈rows,aS k.xs (N r)=T)(Cs:∀r∈rows,aS s.xs (N r)=T)(hsm:∀r∈rows,∀v∈r,bW v) :
  Calls V 91 #[vi,k.val,s.val] w λe m=>∃v,e=FN v/\qi V 3 v ((dW k.xs s.xs rows).map Gr.row) m/\Bw w m:=by
 obtain⟨a,b,rfl,z,j⟩:=hi;have g:=dN w (EP #[.func (.func a) #[] b] 79);have d:=dN (w.alloc (EP #[.func (.func a) #[] b] 79)) (EP #[k.val] 22);have f:=dN ((w.alloc (EP #[.func (.func a) #[] b] 79)).alloc (EP #[k.val] 22)) (EP #[s.val] 22);have l:=g.trans (d.mono g.size);have i:=l.trans (f.mono l.size);have n:UK (((w.alloc (EP #[.func (.func a) #[] b] 79)).alloc (EP #[k.val] 22)).alloc (EP #[s.val] 22)) (aD (M (H w)) 0)=O (.func (.func a) #[] b):=cB (d.trans (f.mono d.size)) (XG (pR w (EP #[.func (.func a) #[] b] 79)) rfl);have p:UK (((w.alloc (EP #[.func (.func a) #[] b] 79)).alloc (EP #[k.val] 22)).alloc (EP #[s.val] 22)) (aD (M (H w)+1) 0)=O k.val:=by have h:=pR (w.alloc (EP #[.func (.func a) #[] b] 79)) (EP #[k.val] 22);rw[Zo]at h;exact cB f (XG h rfl)
 have q:UK (((w.alloc (EP #[.func (.func a) #[] b] 79)).alloc (EP #[k.val] 22)).alloc (EP #[s.val] 22)) (aD (M (H w)+1+1) 0)=O s.val:=by have h:=pR ((w.alloc (EP #[.func (.func a) #[] b] 79)).alloc (EP #[k.val] 22)) (EP #[s.val] 22);rw[Zo,Zo]at h;exact XG h rfl
 have t:qi V 3 (.func (.func 139) #[] #[Y (O (aD (M (H w)) 0)),Y (O (aD (M (H w)+1) 0)),Y (O (aD (M (H w)+1+1) 0))]) ((dW k.xs s.xs rows).map Gr.row) (((w.alloc (EP #[.func (.func a) #[] b] 79)).alloc (EP #[k.val] 22)).alloc (EP #[s.val] 22)):=
  ⟨_,_,rfl,XZ Tryz.func139 (by kernel_rfl) rfl,Wy _ (M (H w)) (M (H w)+1) (M (H w)+1+1) a b k s rows (((w.alloc (EP #[.func (.func a) #[] b] 79)).alloc (EP #[k.val] 22)).alloc (EP #[s.val] 22)) (by simp;omega) (by simp) (by simp) n p q (Qo i hk) (Qo i hs) hkl hsl (Seq.later _ j i) z hlen Cr Cs hsm (Qn _)⟩
 obtain⟨A,B,C⟩:=k;obtain⟨D,G,K⟩:=s;unfold ae.val at*;simp only at*;have u:Y3 _:=t;have y:=Zh i;go_enter Tryz.func91,Tryz.ntmps91;go_wp2;go_ret;exact⟨_,rfl,u.o,y.o⟩
def Ov(vi:X3)(q:af)(rows:List (List Int))(w:U)(hg:q.group=T)(hi:dh aj V vi rows w)(hk:q.keys.At w)(hs:q.sums.At w)(hkl:N q.keys.xs<=4)(hsl:N q.sums.xs<=4)(hlen:N rows<=1000000)(Cr:∀r∈rows,aS q.keys.xs (N r)=T)(Cs:∀r∈rows,aS q.sums.xs (N r)=T)(hsm:∀r∈rows,∀v∈r,bW v) :
  Calls V 53 #[vi,FL q.cells] w λe g=>∃v,e=FN v/\qi V 3 v ((dW q.keys.xs q.sums.xs rows).map Gr.row) g/\Bw w g:=by have a:=dN w (EP q.cells 26);have i:Bw w (w.alloc (EP q.cells 26)).drew:=a.drew;have b:=EW vi q.keys q.sums rows (w.alloc (EP q.cells 26)) (hi.later a) (Qo a hk) (Qo a hs) hkl hsl hlen Cr Cs hsm;obtain⟨t,u,rfl,_,_⟩:=id hi;have j:Y3 _:=a;obtain⟨src,y,bP,wh,group,⟨z,A,B⟩,⟨l,m,n⟩,C,ord⟩:=q;unfold af.cells ae.val at*;simp only at*;subst hg;go_enter Tryz.func53,Tryz.ntmps53;go_wp2_with fail;refine b.mono ?_;rintro e D ⟨v,rfl,d,f⟩;have k:Y3 _:=d;obtain⟨G,p,rfl,_,_⟩:=id d;go_wp2;go_ret;exact⟨_,rfl,k.o,j.o.trans (f.mono (by simp))⟩
end
section
attribute [local go_sem] Oper.semAt_some
def Mj{lo l Nq w0n:Nat}{Jq:List ae->(Nat->Prop)->U->Prop}{all:List (List Int)}
  (hJ:∀pre o1 A B,Jq pre o1 A->Kept (λb=>o1 b∨b<Nq) A B->Jq pre o1 B)
  (hY:∀pre x o1 W1,Jq pre o1 W1->(pre++[x]).map (kg 3 lo).key <+: all->(kg 3 lo).At x W1->(∀b,(kg 3 lo).blk x=O b->¬o1 b/\(b<w0n∨Nq<=b))->Nq<=M (H W1)->
   YieldAt Fence.wide 0 V l #[(kg 3 lo).enc x] W1 λe W'=>e=FN (Wl T)/\∃i,Jq (pre++[x]) i W'/\Kept (λb=>¬o1 b) W1 W'/\
    ∀b,i b->o1 b∨(M (H W1)<=b/\b<M (H W'))∨((kg 3 lo).blk x=O b/\Nq<=b))
  {A:U} {g:fI} {zs:List ae} {oj:Nat->Prop} (hj:Jq zs oj A) (hoA:∀b,oj b->b<M (H A)) (hNA:Nq<=M (H A)) (hlo:lo<=Nq) (hpre:zs.map ae.xs++[g.gr.row] <+: all) (hl:N (g.k.xs++[(g.cnt:Int)]++g.ss)<=1000)
  (v3:X3) (w3:U) (hown:w3.ownsRow (M (H A)) 3 1 v3 (N (g.k.xs++[(g.cnt:Int)]++g.ss)) ((g.k.xs++[(g.cnt:Int)]++g.ss).map (Value.int J))) (hb3:Bw A w3) :
  ∃m n j,v3=Z m (N j) n/\j=g.gr.row/\∃r tmps a d,(Instr.yield l #[Z m (N j) n]).run V w3=.ok (.round l r tmps a d) w3/\
   RoundIn Fence.wide 0 V l r tmps a d w3 λe W'=>e=FN (Wl T)/\∃i,Jq (zs++[⟨m,n,j⟩]) i W'/\Kept (λb=>¬oj b) w3 W'/\∀b,i b->oj b∨(M (H A)<=b/\b<M (H W')):=by
 obtain⟨p,rfl,u,v,q⟩:=Ct hown (by omega);have z:=hb3.size;have C:=hJ _ _ _ _ hj (QB hb3 (λb f _=>f));obtain⟨r,tmps,a,d,K,t⟩:=hY zs p oj w3 C (by
  have e:(zs++[p]).map (kg 3 lo).key=zs.map ae.xs++[g.gr.row]:=by rw[Qi];show _++[p.xs]=_;rw[u];rfl
  rw[e];exact hpre) ⟨v,λb f=>by have:=q b f;omega⟩ (λb f=>⟨λh=>by have:=hoA b h;have:=q b f;omega,.inr (by have:=q b f;omega)⟩) (by omega)
 obtain⟨m,n,j⟩:=p;refine⟨m,n,j,rfl,u,r,tmps,a,d,K,t.mono ?_⟩;rintro e W' ⟨rfl,i,L,y,P⟩;have D:=y.size;refine⟨rfl,i,L,y,λb f=>?_⟩;rcases P b f with h|h|⟨h,_⟩
 .exact .inl h
 .exact .inr ⟨by omega,h.2⟩
 .have Q:=aj.zw v.1 h;have G:=q b h;exact .inr ⟨G,by omega⟩
def Ta(lo:Nat)(bi bk bs gi:Nat)(ik:Array X3)(kc sc:ae)(rows:List (List Int))(w0:U)(hbi:bi<M (H w0))(hbk:bk<M (H w0))(hbs:bs<M (H w0))
  (hci:UK w0 (aD bi 0)=O (.func (.func gi) #[] ik)) (hck:UK w0 (aD bk 0)=O kc.val) (hcs:UK w0 (aD bs 0)=O sc.val) (hkc:kc.At w0) (hsc:sc.At w0) (hkl:N kc.xs<=4) (hsl:N sc.xs<=4)
  (hseq:Seq aj V gi ik rows w0) (FZ:∀args w,(callFunc gi args).run V w=.ok (.enter gi args) w) (hlen:N rows<=1000000) (Cr:∀r∈rows,aS kc.xs (N r)=T) (Cs:∀r∈rows,aS sc.xs (N r)=T) (hsm:∀r∈rows,∀v∈r,bW v) (hlo:lo<=M (H w0)) :
  Seq (kg 3 lo) V 174 #[Y (O (aD bk 0)),Y (O (aD bs 0)),Y (O (aD bi 0))] ((lW kc.xs sc.xs rows).map Gr.row) w0:=by
 intro l Jq W o hW ho hJ hY h0;obtain⟨w1,aX⟩:∃x,W.alloc (EP #[.func (.yield l) #[] #[]] 123)=x:=⟨_,rfl⟩;have bJ:Bw W w1:=by rw[<-aX];exact dN _ _
 have s1:M (H w1)=M (H W)+1:=by rw[<-aX];simp
 have y1:UK w1 (aD (M (H W)) 0)=O (.func (.yield l) #[] #[]):=by rw[<-aX];simp
 obtain⟨w2,aY⟩:∃x,w1.alloc (EP #[Y xn] 212)=x:=⟨_,rfl⟩;have bK:Bw w1 w2:=by rw[<-aY];exact dN _ _
 have s2:M (H w2)=M (H W)+2:=by rw[<-aY];simp[s1]
 have x2:w2.heap[M (H W)+1]? = O (EP #[Y xn] 212):=by rw[<-aY,<-s1];exact QG _ _
 have y2:UK w2 (aD (M (H W)) 0)=O (.func (.yield l) #[] #[]):=cB bK y1;have uH:Bw W w2:=bJ.trans (bK.mono bJ.size);have bM:Bw w0 w2:=hW.trans (uH.mono hW.size);have c1:UK w2 (aD bk 0)=O kc.val:=(bM.cell (p:=(aD bk 0)) hbk).trans hck;have c2:UK w2 (aD bs 0)=O sc.val:=(bM.cell (p:=(aD bs 0)) hbs).trans hcs;have c3:UK w2 (aD bi 0)=O (.func (.func gi) #[] ik):=(bM.cell (p:=(aD bi 0)) hbi).trans hci;have dB:Jq [] o w2:=hJ _ _ _ _ h0 (QB uH (λb d _=>d));have bq:Kept (λb=>¬o b/\b<M (H W)) W w2:=QB uH (λb d _=>d);have dC:¬o (M (H W)+1)/\¬o (M (H W)):=⟨λh=>by have:=(ho _ h).2;omega,λh=>by have:=(ho _ h).2;omega⟩;have HY:Y3 _:=hY;have HO:Y3 _:=ho;have HW:Y3 _:=hW;have HJ:Y3 _:=hJ;have zk:Y3 _:=hsl;have UT:Y3 _:=hkl;have bF:Y3 _:=hlen;have eQ:Y3 _:=Cr;have bN:Y3 _:=Cs;have aI:Y3 _:=hsm;have eT:Y3 _:=hkc;have UR:Y3 _:=hsc;have JN:Y3 (lo<=M (H W)):=Qz hlo hW.size;have O9:Y3 (bi<M (H w0)/\bk<M (H w0)/\bs<M (H w0)):=⟨hbi,hbk,hbs⟩;have FJ:Y3 (UK w0 (aD bk 0)=O kc.val/\UK w0 (aD bs 0)=O sc.val):=⟨hck,hcs⟩;have dD:Y3 _:=s2;have dE:Y3 _:=x2;have dF:Y3 _:=y2;have dH:Y3 _:=dB;have oz:Y3 _:=bq;have JU:Y3 (¬o (M (H W)+1)/\¬o (M (H W))):=dC;have Az:Y3 (∀b,o b->o b∨(M (H W)<=b/\b<M (H w2))):=λb h=>.inl h;have Y5:=nL ⟨xn,0,[]⟩ (N sc.xs) w2 hsl;have eU:UK w2 (aD (M (H W)+1) 0)=O (Y xn):=XG x2 rfl;have eX:w2.frozen? (aD (M (H W)+1) 0)=false:=jP x2 0;have eY:Y3 _:=aX;have eZ:Y3 _:=aY;clear hY ho hW hJ hlen Cr Cs hsm hkc hsc hci hck hcs hbi hbk hbs hkl hsl hlo s1 s2 x2 y1 y2 dB bq dC bJ bK uH h0 aX aY;obtain⟨Ag,lT,t⟩:=kc;obtain⟨xe,lS,y⟩:=sc;unfold ae.val at*;simp only at*;refine(QH (n:=0)).1 (Q3 Tryz.func174 rfl trivial ?_ rfl);simp only[Tryz.ntmps174,QN,QO,QP,Nat.reduceAdd,Nat.reduceSub,QQ,QR,QS,QT,QU,QV];gi_upto_region 2 with fail;rw[eY.o,eZ.o];by_cases aM:t=[]
 case' pos=>
  have dI:((N t:Int)==0)=true:=by rw[aM];rfl
  have yN:Y3 (t=[]):=aM;clear aM;gi_wp2_with fail;refine⟨trivial,rfl,QH.2 (Y5.mono ?_)⟩;rintro e z ⟨rfl,bD,eD,ah,bu⟩;have aA:z.heap[M (H W)+1]? = O (EP #[Y xn] 212):=(ah.block _ (by have:=dD.o;omega)).trans dE.o;have iC:UK z (aD (M (H W)+1) 0)=O (Y xn):=XG aA rfl;have iD:z.frozen? (aD (M (H W)+1) 0)=false:=jP aA 0;have bG:(UC z (aD (M (H W)+1) 0) (Y (O (aD (M (H w2)+2) 0)))).heap[M (H W)+1]? = O (EP #[Y (O (aD (M (H w2)+2) 0))] 212):=lU aA 0 _;have aB:Kept (λb=>b≠M (H W)+1) w2 (UC z (aD (M (H W)+1) 0) (Y (O (aD (M (H w2)+2) 0)))):=(QB ah (λb d _=>d)).trans (Q8 _ _ _ (λh=>h rfl));have iE:=Q0 c3 aB (by have:=O9.o.1;have:=HW.o.size;show bi≠_;omega);have bO:Y3 (zo 239 3 212 Jq t y o l W [] (λb=>o b∨b=M (H W)+1∨∃g,O (⟨M (H w2)+2,M (H w2)+1,⟨xn,0,[]⟩,0,List.replicate (N y) 1073741824⟩:fI)=O g/\g.own b) (UC z (aD (M (H W)+1) 0) (Y (O (aD (M (H w2)+2) 0)))) [] o (O ⟨M (H w2)+2,M (H w2)+1,⟨xn,0,[]⟩,0,List.replicate (N y) 1073741824⟩) []):=by
   have e2:=dD.o;have bH:∀b,(⟨M (H w2)+2,M (H w2)+1,⟨xn,0,[]⟩,0,List.replicate (N y) 1073741824⟩:fI).own b->b=M (H w2)+2∨b=M (H w2)+1:=λb d=>by
    rcases d with h|h|h
    .exact .inl h
    .exact .inr h
    .cases h
   refine⟨?_,rfl,HJ.o _ _ _ _ dH.o (aB.mono λb _ h=>?_),λ_=>QJ,⟨JU.o.1,JU.o.2,λg hg b d h=>?_⟩,bG,λg hg=>?_,λg hg b d=>?_,λg hg=>?_,λh=>(by cases h),Q0 dF.o aB (by show M (H W)≠_;omega),oz.o.trans' aB (λb _ h=>by show b≠_;omega),λb h=>.inl h⟩
   .show cO t y=[]++[_]
    unfold cO;rw[Zt yN.o];rfl
   .rcases h with h|h
    .intro e;exact JU.o.1 (e ▸ h)
    .show b≠_;omega
   .cases hg
    have:=(HO.o b h).2;rcases bH b d with h|h <;> omega
   .cases hg
    refine⟨(xh (show M (H w2)+2≠M (H W)+1 by omega) 0 _).trans bD,(xh (show M (H w2)+1≠M (H W)+1 by omega) 0 _).trans (by rw[List.map_replicate];exact eD),⟨⟨by simp,λi hi=>by simp at hi⟩,λa ha=>(by cases ha),λ_=>rfl⟩,by simp,by simp,⟨λe=>(by cases e),λe=>(by cases e)⟩⟩
   .cases hg
    rcases bH b d with h|h <;> omega
   .cases hg
    exact⟨rq _ _ _ _,Qn _,by rw[yN.o]⟩
  clear eD bD ah bu bG aB Y5 aA;gi_upto_region 4 with fail;gi_cut [14] from 8 (λf wx=>f=.func (.func gi) #[] ik/\∃o1 P,zo 239 3 212 Jq t y o l W [] o1 wx [] o P [])
  case first=>
   gi_wp2_with fail;gi_meet;exact⟨rfl,_,_,bO.o⟩
 case' neg=>
  have dI:((N t:Int)==0)=false:=by have iB:0<N t:=List.length_pos_iff.2 aM;simp;omega
  have bO:Y3 (zo 239 3 212 Jq t y o l W [] (λb=>o b∨b=M (H W)+1∨∃g,(xn:Option fI)=O g/\g.own b) w2 [] o xn []):=by refine⟨?_,rfl,dH.o,λ_=>QJ,⟨JU.o.1,JU.o.2,λg hg=>by cases hg⟩,dE.o,λg hg=>(by cases hg),λg hg=>(by cases hg),λg hg=>(by cases hg),λ_=>rfl,dF.o,oz.o,λb h=>.inl h⟩;show cO t y=[];unfold cO;rw[ZU aM]
  clear aM Y5;gi_upto_region 4 with fail;gi_cut [14] from 8 (λf wx=>f=.func (.func gi) #[] ik/\∃o1 P,zo 239 3 212 Jq t y o l W [] o1 wx [] o P [])
  case first=>
   gi_wp2_with fail;gi_meet;exact⟨rfl,_,_,bO.o⟩
 all_goals
  obtain⟨rfl,o0,iK,bE⟩:=hcut;have dJ:M (H W)+2<=M (H wc):=by have:=(QI.1 bE.box).1;omega
  have fe:Bw w0 wc:=HW.o.trans (bE.kept.below HW.o.size (λb d=>⟨λh=>by have:=(HO.o b h).1;omega,by have:=HW.o.size;omega⟩));have aJ:Y3 _:=bE;have L8:Y3 _:=dJ;clear bE dJ c1 c2 dI eU eX;gi_wp2_with fail;refine nI aj (gf:=gi) (lb:=ik) rfl FZ hseq fe rfl
   (λpre o1 W'=>∃zs S P dn,zo 239 3 212 Jq t y o l W pre o1 W' zs S P dn)
   o0 ?_ ?_ ⟨_,_,_,_,aJ.o⟩
   (λx=>{ tmps:=#[.func (.yield l) #[] #[],Y (O (aD bk 0)),Y (O (aD bs 0)),Y (O (aD bi 0)),Y (O (aD (M (H W)) 0)),Y (O (aD (M (H W)+1) 0)),x.val,undef,u8,u9,u10,u11,u12,u13,.func (.func gi) #[] ik,x.val,u16,u17,u18,u19,u20,u21,u22,u23,u24,u25,u26,u27,u28,u29,u30,u31,u32,u33,u34,u35,u36,u37,u38,u39,u40,u41,u42,u43,u44,u45,u46,u47,u48,u49,u50],defers:=[] }) ?assign ?body ?done
  .intro b d;have h0:=HW.o.size;have h5:=L8.o;rcases (aJ.o.iff b).1 d with h|h|⟨g,hg,h⟩
   .exact⟨(HO.o b h).1,by have:=(HO.o b h).2;omega⟩
   .omega
   .have Q:=aJ.o.low g hg b h;exact⟨by omega,(aJ.o.at' g hg).lt h⟩
  .rintro pre o1 A B ⟨zs,S,P,dn,h⟩ hk;exact⟨zs,S,P,dn,h.keep HJ.o L8.o hk⟩
  case assign=>
   intro l x W K hK;gi_wp2;exact hK
  case body=>
   rintro l2 pre x o1 u ⟨zs,S,P,dn,hM⟩ aH hx ag gQ;have bP:x.xs∈rows:=lD aH;have dK:N pre+1<=1000000:=by have Q:=aH.length_le;rw[Zm,Zn]at Q;have h2:=bF.o;simp at Q;omega
   have fo:=HW.o.size;have ax:Bw w0 u:=HW.o.trans (hM.kept.below HW.o.size (λb d=>⟨λh=>by have:=(HO.o b h).1;omega,by omega⟩));have dL:M (H W)+2<=M (H u):=by have:=L8.o;omega
   have d1:UK u (aD bk 0)=O (Z Ag (N t) lT):=(ax.cell (p:=(aD bk 0)) O9.o.2.1).trans FJ.o.1;have d2:UK u (aD bs 0)=O (Z xe (N y) lS):=(ax.cell (p:=(aD bs 0)) O9.o.2.2).trans FJ.o.2;have aO:=GV x ⟨Ag,lT,t⟩ u hx.1 (Qo ax eT.o) (eQ.o _ bP) (show N t<=1000 by have:=UT.o;omega);have ai:N (au x.xs t)=N t:=by simp[au]
   obtain⟨C,aZ⟩:∃X,u.alloc (EP ((au x.xs t).map (Value.int J)).toArray 3)=X:=⟨_,rfl⟩;have ah:Bw u C:=by rw[<-aZ];exact dN _ _
   have bu:M (H C)=M (H u)+1:=by rw[<-aZ];simp
   have bQ:(Lu 3).At ⟨O (aD (M (H u)) 0),N (au x.xs t),au x.xs t⟩ C:=by rw[<-aZ];exact BC u _ _ (by rw[ai];have:=UT.o;omega)
   rw[ai]at bQ;simp only at aO;rw[aZ]at aO;have Dq:zo 239 3 212 Jq t y o l W pre o1 C zs S P dn:=hM.keep HJ.o (Qn _) (QB ah (λb d _=>d));have aA:aj.At x C:=aj.keep hx ah.size (λb d _=>ah.block b d);have Ow:Bw w0 C:=ax.trans (ah.mono ax.size);have e1:UK C (aD bk 0)=O (Z Ag (N t) lT):=cB ah d1;have e2:UK C (aD bs 0)=O (Z xe (N y) lS):=cB ah d2;have dM:((pre++[x]).map ae.xs).foldl (gV t y) (cO t y)=gV t y (dn++(P.map fI.gr).toList) x.xs:=by rw[Qi,Xf,hM.fold];rfl
   have HX:Y3 _:=hx;have aP:Y3 _:=aA;have Ie:Y3 _:=ag;have HM:Y3 _:=hM;have F4:Y3 (zo 239 3 212 Jq t y o l W pre o1 C zs S P dn):=Dq;have zX:Y3 _:=bQ;have aQ:Y3 (Bw u C):=ah;have zN:Y3 _:=bu;have Il:Y3 (Bw w0 C):=Ow;have HF:Y3 _:=dM;have fq:Y3 _:=aH;have az:Y3 _:=bP;have vU:Y3 _:=dK;have Cy:Y3 _:=dL;have bR:=Dq.yld;have aK:=Dq.box;clear hx aA ag hM Dq bQ ah bu Ow dM aH bP dK aZ ai fo ax gQ dL
   cases P with
   |none =>
    have Wz:=nL ⟨O (aD (M (H u)) 0),N t,au x.xs t⟩ (N y) C zk.o;have ai:N (au x.xs t)=N t:=by simp[au]
    unfold ae.val at Wz;simp only[ai]at Wz;have fu:dn=[]:=HM.o.nil rfl;subst fu;have bS:UK C (aD (M (H W)+1) 0)=O (Y xn):=XG aK rfl;have dO:=λ(B D:U)=>@S9 239 3 212 Jq t y o l W pre x C B D zs S [] ⟨O (aD (M (H u)) 0),N t,au x.xs t⟩ HJ.o HF.o F4.o.told F4.o.j ⟨F4.o.off.1,F4.o.off.2.1⟩
     (λb d=>by
      rcases F4.o.new b d with h|h
      .have:=(HO.o b h).2;have:=zN.o;have:=Cy.o;omega
      .exact h.2) rfl zX.o.1 (λb d=>by
      have af:O (M (H u))=O b:=d;cases af;refine⟨Cy.o,λh=>?_⟩;rcases HM.o.new _ h with h|h
      .have:=(HO.o _ h).2;have:=Cy.o;omega
      .omega) (Y xn) aK bR F4.o.kept F4.o.new
    have dP:Y3 _:=dO;have bz:Y3 _:=ai;have Dz:Y3 _:=aK;clear dO ai aK;obtain⟨iZ,bL,fB⟩:=x;simp only at*;gi_wp2_with fail;refine⟨trivial,rfl,Q4 l2 (QH.2 (aO.mono ?_))⟩;rintro e C ⟨rfl,rfl⟩;gi_wp2_with fail;refine⟨trivial,?_⟩;gi_wp2_with fail;refine⟨trivial,rfl,Q4 l2 (QH.2 (Wz.mono ?_))⟩;rintro e m ⟨rfl,dh,gT,q,di⟩;have bT:m.heap[M (H W)+1]? = O (EP #[Y xn] 212):=(q.block _ (by have:=zN.o;have:=Cy.o;omega)).trans Dz.o;have iF:UK m (aD (M (H W)+1) 0)=O (Y xn):=XG bT rfl;have iG:m.frozen? (aD (M (H W)+1) 0)=false:=jP bT 0;have fw:=cB q e2;have fA:Y3 _:=dh;have fC:Y3 _:=gT;have oJ:Y3 (Bw C m):=q;have bU:Y3 _:=di;have fD:Y3 _:=bT;gi_upto_region 12 with fail;have R:Kept (λb=>b≠M (H W)+1) m (UC m (aD (M (H W)+1) 0) (Y (O (aD (M (H C)+2) 0)))):=Q8 _ _ _ (λh=>h rfl);have fE:UK (UC m (aD (M (H W)+1) 0) (Y (O (aD (M (H C)+2) 0)))) (aD (M (H W)+1) 0)=O (Y (O (aD (M (H C)+2) 0))):=XG (lU fD.o 0 _) rfl;obtain⟨G,dm⟩:∃X,UC m (aD (M (H W)+1) 0) (Y (O (aD (M (H C)+2) 0)))=X:=⟨_,rfl⟩;rw[dm]at R fE ⊢;have fF:Y3 _:=dm;clear dm;have iH:=Q0 fw R (by have:=O9.o.2.2;have:=HW.o.size;show bs≠_;omega);have Kv:Kept (λb=>b≠M (H W)+1) C G:=(QB oJ.o (λb d _=>d)).trans R;have dQ:∀b,aj.blk ⟨iZ,bL,fB⟩=O b->b≠M (H W)+1:=λb d e=>(Ie.o b d).1 ((HM.o.iff b).2 (.inr (.inl e)));have bA:aj.At ⟨iZ,bL,fB⟩ G:=aj.keep aP.o Kv.size (λb d aF=>Kv.block b d (dQ b aF));have WA:Bw w0 G:=Il.o.trans (Kv.below Il.o.size (λb d=>by have:=HW.o.size;show b≠_;omega));have aG:=qO (M (H C)+2) (M (H C)+1) (Z (O (aD (M (H u)) 0)) (N t) (N t)) 0 (List.replicate (N y) 1073741824) ⟨iZ,bL,fB⟩ ⟨xe,lS,y⟩ G (by omega)
     ((R.block _ (by have:=bU.o;omega) (by have:=zN.o;have:=Cy.o;show M (H C)+2≠_;omega)).trans fA.o) ((R.block _ (by have:=bU.o;omega) (by have:=zN.o;have:=Cy.o;show M (H C)+1≠_;omega)).trans (by rw[List.map_replicate];exact fC.o)) (by simp) zk.o
     bA.1 (Qo WA UR.o) (λa ha=>by
      have Q:a.block<M (H C):=aP.o.2.1 a ha;omega)
     (λh0 a ha=>by
      obtain⟨b',o',e,hc⟩:=UR.o.2 0 h0;have Q:(O a:Option Addr)=O (aD b' o'):=ha.symm.trans e;cases Q;have h2:b'<M (H w0):=QK (p:=(aD b' (o'+0))) hc;have:=Il.o.size;show b'≠_/\b'≠_;omega) (bN.o _ az.o) (by omega) (yB (rq 0 0 iz (N y)) (by show 0<=1000000;omega)) (λv hv=>by have:=aI.o _ az.o v hv;unfold bW at this;unfold Ka;omega)
    have aC:Y3 (∀(D:U) (a4:Act),D.heap[M (H C)+2]? = O (EP #[Z (O (aD (M (H u)) 0)) (N t) (N t),I J (0+1:Nat),Z (O (aD (M (H C)+1) 0)) (N y) (N y)] 239)->D.heap[M (H C)+1]? = O (EP ((gH (List.replicate (N y) 1073741824) fB y).map (Value.int J)).toArray 3)->
      Kept (λb=>b≠M (H C)+2/\b≠M (H C)+1) G D->gK aj (λpre o1 W'=>∃zs S P dn,zo 239 3 212 Jq t y o l W pre o1 W' zs S P dn) pre ⟨iZ,bL,fB⟩ (M (H wc)) o1 u .normal a4 D):=λD a4 hg hs vO=>by
     have hh:=dP.o m D oJ.o bU.o (by unfold ae.val;simp only[bz.o];exact hg) hs (by rw[fF.o];exact vO) (aI.o _ az.o) (by have:=zN.o;have:=Cy.o;omega);refine⟨_,⟨_,_,_,_,hh.1⟩,((QB aQ.o (λb d _=>d)).trans hh.2).mono (λb _ h e=>h ((HM.o.iff b).2 (.inr (.inl e)))),?_⟩;rintro b (d|d|⟨g,hg,d⟩)
     .exact .inl ((HM.o.iff b).2 (.inl d))
     .exact .inl ((HM.o.iff b).2 (.inr (.inl d)))
     .right;left;have Q:=(hh.1.at' g hg).lt d
      cases hg;have h3:=zN.o;rcases d with d|d|d
      .exact⟨by have af:b=M (H C)+2:=d;omega,Q⟩
      .exact⟨by have af:b=M (H C)+1:=d;omega,Q⟩
      .have af:O (M (H u))=O b:=d
       cases af;exact⟨Qn _,Q⟩
    clear R Kv dQ bA WA dP;unfold ae.val;gi_wp2_with fail;refine⟨trivial,rfl,Q4 l2 (QH.2 (aG.mono ?_))⟩;rintro e D ⟨⟨v9,rfl⟩,bf,bg,SH,eF⟩;gi_wp2_with fail;exact aC.o D _ bf bg SH
   |some g =>
    have hA:=F4.o.at' g rfl;have ay:=F4.o.fits g rfl;have bS:UK C (aD (M (H W)+1) 0)=O (Y (O (aD g.gb 0))):=XG aK rfl;have iI:UK C (aD g.gb 0)=O g.k.val:=XG hA.cells rfl;have ai:N (au x.xs t)=N t:=by simp[au]
    have aR:=D8 (O (aD (M (H u)) 0)) g.k.ad (N t) g.k.cap (au x.xs t) g.k.xs C zX.o.1.1 hA.key.1;rw[ai]at aR;have HA:Y3 _:=hA;have aT:Y3 _:=ay;have bz:Y3 _:=ai;clear hA ay ai aK;by_cases aN:au x.xs t=g.k.xs
    .rw[Qx aN]at aR;have aC:Y3 (∀(m D:U) (a4:Act),Bw C m->D.heap[g.gb]? = O (EP #[g.k.val,I J (g.cnt+1:Nat),Z (O (aD g.sb 0)) (N y) (N y)] 239)->D.heap[g.sb]? = O (EP ((gH g.ss x.xs y).map (Value.int J)).toArray 3)->
       Kept (λb=>b≠g.gb/\b≠g.sb) m D->gK aj (λpre o1 W'=>∃zs S P dn,zo 239 3 212 Jq t y o l W pre o1 W' zs S P dn) pre x (M (H wc)) o1 u .normal a4 D):=λm D a4 q hg hs vO=>by
      have fG:=F4.o.keep HJ.o (show M (H W)+2<=M (H C) by have:=zN.o;have:=Cy.o;omega) (QB q (λb d _=>d));have hD:=afL fG HJ.o HF.o aN.symm hg hs vO (aI.o _ az.o);refine⟨o1,⟨_,_,_,_,hD⟩,((QB aQ.o (λb d _=>d)).trans (QB q (λb d _=>d))).trans' vO (λb _ h=>⟨λe=>h ?_,λe=>h ?_⟩),λb h=>.inl h⟩
      .exact(HM.o.iff b).2 (.inr (.inr ⟨g,rfl,.inl e⟩))
      .exact(HM.o.iff b).2 (.inr (.inr ⟨g,rfl,.inr (.inl e)⟩))
     have fH:Y3 (∀m:U,Bw C m->Calls V 176 #[Y (O (aD g.gb 0)),x.val,Z xe (N y) lS] m λe w'=>(∃v,e=FN v)/\
       w'.heap[g.gb]? = O (EP #[g.k.val,I J (g.cnt+1:Nat),Z (O (aD g.sb 0)) (N y) (N y)] 239)/\w'.heap[g.sb]? = O (EP ((gH g.ss x.xs y).map (Value.int J)).toArray 3)/\Kept (λb=>b≠g.gb/\b≠g.sb) m w'/\M (H w')=M (H m)):=λm q=>by
      have av:=HA.o.keep (QB (s:=λ_=>True) q (λb d _=>d)) (λ_ _=>trivial);have bI:=F4.o.low g rfl;have Q:=bI g.gb (.inl rfl);have h2:=bI g.sb (.inr (.inl rfl));exact qO g.gb g.sb g.k.val g.cnt g.ss x ⟨xe,lS,y⟩ m av.ne av.cells av.sums av.len zk.o (aj.keep aP.o q.size (λb d _=>q.block b d)).1 (Qo (Il.o.trans (q.mono Il.o.size)) UR.o)
       (λa ha=>by
        have d:aj.blk x=O a.block:=by show Option.map _ _=_;rw[ha];rfl
        have dR:=(Ie.o _ d).1;exact⟨λe=>dR ((HM.o.iff _).2 (.inr (.inr ⟨g,rfl,.inl e⟩))),λe=>dR ((HM.o.iff _).2 (.inr (.inr ⟨g,rfl,.inr (.inl e)⟩)))⟩)
       (λh0 a ha=>by
       obtain⟨b',o',e,hc⟩:=UR.o.2 0 h0;have Q:(O a:Option Addr)=O (aD b' o'):=ha.symm.trans e;cases Q;have h2:b'<M (H w0):=QK (p:=(aD b' (o'+0))) hc;have:=HW.o.size;skip
       show b'≠_/\b'≠_;omega)
       (bN.o _ az.o) (by have:=aT.o.2.1;have:=vU.o;omega) (yB aT.o.1 (by have:=aT.o.2.1;have:=vU.o;omega)) (λv hv=>by have:=aI.o _ az.o v hv;unfold bW at this;unfold Ka;omega)
     clear aN;obtain⟨gb,sb,⟨eG,sI,eH⟩,cnt,ss⟩:=g;obtain⟨iZ,bL,fB⟩:=x;unfold ae.val at*;simp only at*;gi_wp2_with fail;refine⟨trivial,rfl,Q4 l2 (QH.2 (aO.mono ?_))⟩;rintro e C ⟨rfl,rfl⟩;gi_wp2_with fail;refine⟨trivial,rfl,Q4 l2 (QH.2 (aR.mono ?_))⟩;rintro e m ⟨rfl,q⟩;obtain⟨q1,q2⟩:=nH q bS e2;gi_wp2_with fail;refine⟨trivial,rfl,Q4 l2 (QH.2 (XX (fH.o m q) ?_))⟩;rintro e D ⟨⟨v9,rfl⟩,bf,bg,SH,eF⟩;gi_wp2_with fail;exact aC.o m D _ q bf bg SH
    .rw[Qw aN]at aR;have hkl:N g.k.xs<=4:=by rw[aT.o.2.2];exact UT.o
     have fJ:g.cnt<=1000000:=by have:=aT.o.2.1;have:=vU.o;omega
     have fM:N g.ss=N y:=HA.o.len;have fO:N (g.k.xs++[(g.cnt:Int)]++g.ss)<=1000:=by have:=zk.o;simp;omega
     have aU:∀b,S b->b<M (H u):=λb d=>by
      rcases HM.o.new b d with h|h
      .have:=(HO.o b h).2;have:=Cy.o;omega
      .exact h.2
     have fP:Y3 (zs.map ae.xs++[g.gr.row] <+: (lW t y rows).map Gr.row):=by show _ <+: _;rw[HM.o.told];have Q:=SY (kc:=t) (sc:=y) fq.o HM.o.fold (λe=>aN e.symm);have h2:=List.IsPrefix.map Gr.row Q;rw[Qi]at h2;exact h2
     have fQ:Y3 (∀m:U,Bw C m->Calls V 141 #[Y (O (aD g.gb 0))] m.drew λe w'=>∃v,e=FN v/\w'.ownsRow (M (H m)) 3 1 v (N (g.k.xs++[(g.cnt:Int)]++g.ss)) ((g.k.xs++[(g.cnt:Int)]++g.ss).map (Value.int J))/\Below (M (H m)) m.drew w'):=λm q=>by have av:=HA.o.keep (QB (s:=λ_=>True) (q.drew) (λb d _=>d)) (λ_ _=>trivial);exact vB g.gb g.sb g.k g.cnt g.ss m.drew (by rw[av.len];exact av.cells) av.sums av.key.1 av.key.2.2 hkl (by rw[fM];exact zk.o) fJ
     have bV:Y3 (∀(m:U) (v3:X3) (z:U),Bw C m->z.ownsRow (M (H m)) 3 1 v3 (N (g.k.xs++[(g.cnt:Int)]++g.ss)) ((g.k.xs++[(g.cnt:Int)]++g.ss).map (Value.int J))->Below (M (H m)) m.drew z->
       ∃rP iP Gi,v3=Z rP (N Gi) iP/\Gi=g.gr.row/\∃fn tmps assign body,(Instr.yield l #[Z rP (N Gi) iP]).run V z=.ok (.round l fn tmps assign body) z/\
        RoundIn Fence.wide 0 V l fn tmps assign body z λe W'=>e=FN (Wl T)/\∃o2,Jq (zs++[⟨rP,iP,Gi⟩]) o2 W'/\Kept (λb=>¬S b) z W'/\∀b,o2 b->S b∨(M (H m)<=b/\b<M (H W'))):=λm v3 z q aa L=>
      Mj (A:=m.drew) (g:=g) HJ.o HY.o (F4.o.keep HJ.o (show M (H W)+2<=M (H C) by have:=zN.o;have:=Cy.o;omega) (QB (q.drew) (λb d _=>d))).j (λb d=>by have Q:=aU b d;have h2:=aQ.o.size;have h3:=q.size;show b<M (H m);omega) (by have h2:=aQ.o.size;have h3:=q.size;have:=Cy.o;show M (H W)<=M (H m);omega) JN.o fP.o fO v3 z aa L
     have Wz:=λ(A:U)=>nL ⟨O (aD (M (H u)) 0),N t,au x.xs t⟩ (N y) A zk.o;unfold ae.val at Wz;simp only[bz.o]at Wz;have aC:Y3 (∀(m z G B D:U) (a4:Act) (o2:Nat->Prop) (iv:ae),Bw C m->Below (M (H m)) m.drew z->iv.xs=g.gr.row->Jq (zs++[iv]) o2 G->Kept (λb=>¬S b) z G->(∀b,o2 b->S b∨(M (H m)<=b/\b<M (H G)))->
       Below (M (H (UC G (aD (M (H W)+1) 0) (Y xn)))) (UC G (aD (M (H W)+1) 0) (Y xn)) B->M (H B)=M (H (UC G (aD (M (H W)+1) 0) (Y xn)))+3->
       D.heap[M (H (UC G (aD (M (H W)+1) 0) (Y xn)))+2]? = O (EP #[Z (O (aD (M (H u)) 0)) (N t) (N t),I J (0+1:Nat),Z (O ⟨M (H (UC G (aD (M (H W)+1) 0) (Y xn)))+1,0,xn⟩) (N y) (N y)] 239)->
       D.heap[M (H (UC G (aD (M (H W)+1) 0) (Y xn)))+1]? = O (EP ((gH (List.replicate (N y) 1073741824) x.xs y).map (Value.int J)).toArray 3)->
       Kept (λb=>b≠M (H (UC G (aD (M (H W)+1) 0) (Y xn)))+2/\b≠M (H (UC G (aD (M (H W)+1) 0) (Y xn)))+1) (UC B (aD (M (H W)+1) 0) (Y (O ⟨M (H (UC G (aD (M (H W)+1) 0) (Y xn)))+2,0,xn⟩))) D->
       gK aj (λpre o1 W'=>∃zs S P dn,zo 239 3 212 Jq t y o l W pre o1 W' zs S P dn) pre x (M (H wc)) o1 u .normal a4 D):=λm z G B D a4 o2 iv q L Aj dx R aL iq iw iy iA vO=>by
      have z3:=zN.o;have z2:=Cy.o;have z4:=q.size;have z5:M (H m)<=M (H z):=L.size;have z6:=R.size;have zA:M (H (UC G (aD (M (H W)+1) 0) (Y xn)))=M (H G):=by simp[World.setCell]
      have bB:Kept (λ_=>True) C z:=(QB q.drew (λb d _=>d)).trans (QB L (λb d _=>d));have kA:Kept (λb=>b≠M (H W)+1) G (UC G (aD (M (H W)+1) 0) (Y xn)):=Q8 _ _ _ (λh=>h rfl);have aV:Kept (λb=>¬S b/\b≠M (H W)+1) C (UC G (aD (M (H W)+1) 0) (Y xn)):=((bB.mono λ_ _ _=>trivial).trans (R.mono λ_ _ h=>h.1)).trans' kA (λ_ _ h=>h.2);have bC:∀b,¬S b->b<M (H m)->¬o2 b:=λb h d h'=>by
       rcases aL b h' with Q|Q
       .exact h Q
       .omega
      have ag:=F4.o.off;have fT:Jq (zs++[iv]) o2 (UC G (aD (M (H W)+1) 0) (Y xn)):=HJ.o _ _ _ _ dx (kA.mono λb _ h=>by
       rcases h with h|h
       .intro e;exact bC _ ag.1 (by omega) (e ▸ h)
       .show b≠_;omega)
      have fU:(UC G (aD (M (H W)+1) 0) (Y xn)).heap[M (H W)+1]? = O (EP #[Y xn] 212):=by have Q:G.heap[M (H W)+1]? = O (EP #[afK (O g)] 212):=(R.block _ (by omega) ag.1).trans ((bB.block _ (by omega) trivial).trans F4.o.box);exact lU Q 0 _
      have dS:¬S (M (H u)):=λh=>by have:=aU _ h;omega
      have hh:=@S9 239 3 212 Jq t y o l W pre x (UC G (aD (M (H W)+1) 0) (Y xn)) B D (zs++[iv]) o2 (dn++[g.gr]) ⟨O (aD (M (H u)) 0),N t,au x.xs t⟩ HJ.o
       (by rw[HF.o];exact(qW t y dn g.gr x.xs).trans (ZU (λe=>aN e.symm))) (by rw[Qi,Qi,HM.o.told];show _++[iv.xs]=_;rw[Aj];rfl) fT ⟨bC _ ag.1 (by omega),bC _ ag.2.1 (by omega)⟩
       (λb d=>by
        rcases aL b d with h|h
        .have:=aU b h;omega
        .omega) rfl (aj.keep zX.o.1 aV.size (λb d hbk=>aV.block b d (by
        have af:O (M (H u))=O b:=hbk;cases af;exact⟨dS,by omega⟩))) (λb hbk=>by
        have af:O (M (H u))=O b:=hbk;cases af;exact⟨z2,bC _ dS (by omega)⟩) (Y xn) fU (Q0 bR aV ⟨ag.2.1,by show M (H W)≠_;omega⟩)
       (F4.o.kept.trans' aV (λb _ h=>⟨λh'=>by
        rcases HM.o.new b h' with Q|Q
        .exact h.1 Q
        .omega,by show b≠_;omega⟩))
       (λb d=>by
        rcases aL b d with h|h
        .exact(HM.o.new b h).imp id (λh=>⟨h.1,by omega⟩)
        .exact .inr ⟨by omega,by omega⟩) iq iw (by unfold ae.val;simp only[bz.o];exact iy) iA vO (aI.o _ az.o) (by omega)
      refine⟨_,⟨_,_,_,_,hh.1⟩,?_,?_⟩
      .refine((QB aQ.o (λb d _=>d)).trans' aV (λb d h=>⟨λh'=>h ((HM.o.iff b).2 (.inl h')),λe=>h ((HM.o.iff b).2 (.inr (.inl e)))⟩)).trans' hh.2 (λb _ h e=>h ((HM.o.iff b).2 (.inr (.inl e))))
      .rintro b (d|d|⟨g',eO,d⟩)
       .rcases aL b d with h|h
        .exact .inl ((HM.o.iff b).2 (.inl h))
        .have:=hh.2.size;exact .inr (.inl ⟨by omega,by omega⟩)
       .exact .inl ((HM.o.iff b).2 (.inr (.inl d)))
       .right;left;have Q:=(hh.1.at' g' eO).lt d
        cases eO;rcases d with d|d|d
        .exact⟨by have af:b=M (H (UC G (aD (M (H W)+1) 0) (Y xn)))+2:=d;omega,Q⟩
        .exact⟨by have af:b=M (H (UC G (aD (M (H W)+1) 0) (Y xn)))+1:=d;omega,Q⟩
        .have af:O (M (H u))=O b:=d
         cases af;exact⟨Qn _,Q⟩
     have Bg:Y3 (∀m z G:U,Bw C m->Below (M (H m)) m.drew z->Kept (λb=>¬S b) z G->G.heap[M (H W)+1]? = O (EP #[Y (O (aD g.gb 0))] 212)/\Bw w0 G/\aj.At x G/\M (H u)<M (H G)/\∀b,aj.blk x=O b->b<M (H G)/\b≠M (H W)+1):=λm z G q L R=>by
      have z3:=zN.o;have z2:=Cy.o;have z4:=q.size;have z5:M (H m)<=M (H z):=L.size;have z6:=R.size;have bB:Kept (λ_=>True) C z:=(QB q.drew (λb d _=>d)).trans (QB L (λb d _=>d));have aW:Kept (λb=>¬S b) C G:=(bB.mono λ_ _ _=>trivial).trans R;have fV:∀b,aj.blk x=O b->¬S b:=λb d h=>(Ie.o b d).1 ((HM.o.iff b).2 (.inl h));refine⟨(aW.block _ (by omega) F4.o.off.1).trans F4.o.box,Il.o.trans (aW.below Il.o.size (λb d h=>?_)),aj.keep aP.o aW.size (λb d aF=>aW.block b d (fV b aF)),by omega,λb d=>⟨by have:=aj.zw aP.o d;have:=aW.size;omega,λe=>(Ie.o b d).1 ((HM.o.iff b).2 (.inr (.inl e)))⟩⟩;rcases HM.o.new b h with h|h
      .have:=(HO.o b h).1;omega
      .have:=HW.o.size;omega
     obtain⟨gb,sb,⟨eG,sI,eH⟩,cnt,ss⟩:=g;obtain⟨iZ,bL,fB⟩:=x;unfold ae.val at*;simp only at*;gi_wp2_with fail;refine⟨trivial,rfl,Q4 l2 (QH.2 (aO.mono ?_))⟩;rintro e C ⟨rfl,rfl⟩;gi_wp2_with fail;refine⟨trivial,rfl,Q4 l2 (QH.2 (aR.mono ?_))⟩;rintro e m ⟨rfl,q⟩;obtain⟨q1,qy⟩:=nH q bS bR;gi_upto_region 8 with fail;have bX:UK m.drew (aD (M (H W)) 0)=O (.func (.yield l) #[] #[]):=qy;have fZ:Y3 _:=fQ.o m q;have gm:Y3 _:=λ(v3:X3) (z:U)=>bV.o m v3 z q;have oJ:Y3 (Bw C m):=q;have FO:V.follows .mixedOrders=true:=by kernel_rfl
     gi_region_with_o (first|(refine⟨trivial,rfl,Q4 l2 (QH.2 (XX fZ.o ?_))⟩;rintro e z ⟨v3,rfl,aa,L⟩;obtain⟨rP,iP,Gi,rfl,bn,fn,tmps,assign,body,gU,dw⟩:=gm.o v3 z aa L;have UU:Y3 _:=bn;clear bn aa;have gp:=cB L bX)|(refine⟨rfl,dw.mono ?_⟩;rintro e G ⟨rfl,o2,dx,R,aL⟩))
     all_goals
      obtain⟨dz,WA,bA,iL,dA⟩:=Bg.o m z G oJ.o L R;have c5:UK G (aD (M (H W)+1) 0)=O (Y (O (aD gb 0))):=XG dz rfl;have t5:G.frozen? (aD (M (H W)+1) 0)=false:=jP dz 0;have F5:Y3 _:=λ(B D:U) (a4:Act)=>aC.o m z G B D a4 o2 ⟨rP,iP,Gi⟩ oJ.o L UU.o dx R aL;have bY:(UC G (aD (M (H W)+1) 0) (Y xn)).heap[M (H W)+1]? = O (EP #[Y xn] 212):=lU dz 0 _;have k6:Kept (λb=>b≠M (H W)+1) G (UC G (aD (M (H W)+1) 0) (Y xn)):=Q8 _ _ _ (λh=>h rfl);gi_upto_region 10 with fail;obtain⟨W6,gW⟩:∃X,UC G (aD (M (H W)+1) 0) (Y xn)=X:=⟨_,rfl⟩;rw[gW]at bY k6 F5 ⊢;have dU:Bw w0 W6:=WA.trans (k6.below WA.size (λb d=>by have:=HW.o.size;show b≠_;omega));have gq:aj.At ⟨iZ,bL,fB⟩ W6:=aj.keep bA k6.size (λb d aF=>k6.block b d (dA b aF).2);have c6:UK W6 (aD (M (H W)+1) 0)=O (Y xn):=XG bY rfl;have s6:UK W6 (aD bs 0)=O (Z xe (N y) lS):=(dU.cell (p:=(aD bs 0)) O9.o.2.2).trans FJ.o.2;have gu:=Wz W6;have bZ:Y3 (M (H W)+2<=M (H W6)):=by have:=Cy.o;have:=k6.size;show M (H W)+2<=M (H W6);omega
      have dV:Y3 (∀b,aj.blk ⟨iZ,bL,fB⟩=O b->b<M (H W6)/\b≠M (H W)+1):=λb d=>⟨by have:=(dA b d).1;have:=k6.size;omega,(dA b d).2⟩;have gy:Y3 _:=bY;have gz:Y3 _:=gq;have cu:Y3 (Bw w0 W6):=dU;gi_wp2_with fail;refine⟨trivial,rfl,Q4 l2 (QH.2 (gu.mono ?_))⟩;rintro e W7 ⟨rfl,gX,gY,mO,gZ⟩;have cz:W7.heap[M (H W)+1]? = O (EP #[Y xn] 212):=(mO.block _ (by have:=bZ.o;omega)).trans gy.o;have c7:UK W7 (aD (M (H W)+1) 0)=O (Y xn):=XG cz rfl;have t7:W7.frozen? (aD (M (H W)+1) 0)=false:=jP cz 0;have s7:=cB mO s6;have gB:Y3 _:=gX;have gD:Y3 _:=gY;have FH:Y3 (Bw W6 W7):=mO;have cK:Y3 _:=gZ;have gF:Y3 _:=cz;gi_upto_region 12 with fail;have k8:Kept (λb=>b≠M (H W)+1) W7 (UC W7 (aD (M (H W)+1) 0) (Y (O (aD (M (H W6)+2) 0)))):=Q8 _ _ _ (λh=>h rfl);have c8:UK (UC W7 (aD (M (H W)+1) 0) (Y (O (aD (M (H W6)+2) 0)))) (aD (M (H W)+1) 0)=O (Y (O (aD (M (H W6)+2) 0))):=XG (lU gF.o 0 _) rfl;obtain⟨W8,eP⟩:∃X,UC W7 (aD (M (H W)+1) 0) (Y (O (aD (M (H W6)+2) 0)))=X:=⟨_,rfl⟩;rw[eP]at k8 c8 ⊢;have gG:Y3 _:=eP;have s8:=Q0 s7 k8 (by have:=O9.o.2.2;have:=HW.o.size;show bs≠_;omega);have cZ:Kept (λb=>b≠M (H W)+1) W6 W8:=(QB FH.o (λb d _=>d)).trans k8;have gI:aj.At ⟨iZ,bL,fB⟩ W8:=aj.keep gz.o cZ.size (λb d aF=>cZ.block b d (dV.o b aF).2);have gJ:Bw w0 W8:=cu.o.trans (cZ.below cu.o.size (λb d=>by have:=HW.o.size;show b≠_;omega));have aG:=qO (M (H W6)+2) (M (H W6)+1) (Z (O (aD (M (H u)) 0)) (N t) (N t)) 0 (List.replicate (N y) 1073741824) ⟨iZ,bL,fB⟩ ⟨xe,lS,y⟩ W8 (by omega)
       ((k8.block _ (by have:=cK.o;omega) (by have:=bZ.o;show M (H W6)+2≠_;omega)).trans gB.o) ((k8.block _ (by have:=cK.o;omega) (by have:=bZ.o;show M (H W6)+1≠_;omega)).trans (by rw[List.map_replicate];exact gD.o)) (by simp) zk.o
       gI.1 (Qo gJ UR.o) (λa ha=>by
        have Q:=(dV.o a.block (by show Option.map _ _=_;rw[ha];rfl)).1;omega)
       (λh0 a ha=>by
        obtain⟨b',o',e,hc⟩:=UR.o.2 0 h0;have Q:(O a:Option Addr)=O (aD b' o'):=ha.symm.trans e;cases Q;have h2:b'<M (H w0):=QK (p:=(aD b' (o'+0))) hc;have:=cu.o.size;show b'≠_/\b'≠_;omega) (bN.o _ az.o) (by omega) (yB (rq 0 0 iz (N y)) (by show 0<=1000000;omega)) (λv hv=>by have:=aI.o _ az.o v hv;unfold bW at this;unfold Ka;omega)
      unfold ae.val at aG;gi_wp2_with fail;refine⟨trivial,rfl,Q4 l2 (QH.2 (aG.mono ?_))⟩;rintro e D ⟨⟨v9,rfl⟩,bf,bg,SH,eF⟩;gi_wp2_with fail;exact F5.o W7 D _ FH.o cK.o bf bg (by rw[gG.o];exact SH)
  case done=>
   rintro us o' u Vl ⟨zs,S,P,dn,hM⟩ bq bD hD;have h5:=L8.o;have dW:us.map ae.xs=rows:=Vl;have dX:=hM.fold;rw[dW]at dX;have dY:=bq.size;have gL:¬S (M (H wc)):=λh=>by
    rcases bD _ ((hM.iff _).2 (.inl h)) with Q|Q
    .rcases (aJ.o.iff _).1 Q with h2|h2|⟨g,hg,h2⟩
     .have:=(HO.o _ h2).2;omega
     .omega
     .have:=(aJ.o.at' g hg).lt h2;omega
    .omega
   have aU:∀b,S b->b<M (H u):=λb d=>by
    rcases hM.new b d with h|h
    .have:=(HO.o b h).2;omega
    .exact h.2
   have gM:=hM.yld;have dZ:=hM.box;have ak:Y3 _:=hM;have HF:Y3 _:=dX;have df:Y3 (¬S (M (H wc))):=gL;have gN:Y3 _:=aU;have Ig:Y3 (M (H wc)<=M (H u)):=dY;have ed:Kept (λb=>¬o b) W u:=ak.o.kept.mono λb d h=>⟨h,d⟩
   cases P with
   |none =>
    have c2:UK u (aD (M (H W)+1) 0)=O (Y xn):=XG dZ rfl;gi_wp2;have vO:Kept (λb=>b≠M (H wc)) u (u.putObj (M (H wc)) (.deferred xn)):=QC _ _ (λh=>h rfl);refine⟨by simp,.inl ⟨_,_,rfl,Q5 hD,?_⟩⟩;refine⟨_,Q6 rfl _ _ _,⟨_,rfl⟩,zs,S,?_,HJ.o _ _ _ _ ak.o.j (vO.mono λb _ h=>?_),ed.trans' vO (λb d _=>by have:=L8.o;show b≠_;omega),λb h=>(ak.o.new b h).imp id (λh=>⟨h.1,by rw[Q7];omega⟩)⟩
    .show zs.map ae.xs=(lW t y rows).map Gr.row
     have Q:lW t y rows=dn++[]:=HF.o;rw[ak.o.told,Q,Xd]
    .rcases h with h|h
     .intro e;exact df.o (e ▸ h)
     .have:=L8.o;show b≠_;omega
   |some g =>
    have hA:=ak.o.at' g rfl;have ay:=ak.o.fits g rfl;have c2:UK u (aD (M (H W)+1) 0)=O (Y (O (aD g.gb 0))):=XG dZ rfl;have iJ:N us<=1000000:=by have:=congrArg N dW;rw[Zm]at this;rw[this];exact bF.o
    have ek:=vB g.gb g.sb g.k g.cnt g.ss u.drew (by rw[hA.len];exact hA.cells) hA.sums hA.key.1 hA.key.2.2 (by rw[ay.2.2];exact UT.o) (by rw[hA.len];exact zk.o) (by have:=ay.2.1;omega);have eu:lW t y rows=dn++[g.gr]:=HF.o;have bV:Y3 (∀(v3:X3) (z:U),z.ownsRow (M (H u)) 3 1 v3 (N (g.k.xs++[(g.cnt:Int)]++g.ss)) ((g.k.xs++[(g.cnt:Int)]++g.ss).map (Value.int J))->Below (M (H u)) u.drew z->
       ∃rP iP Gi,v3=Z rP (N Gi) iP/\Gi=g.gr.row/\∃fn tmps assign body,(Instr.yield l #[Z rP (N Gi) iP]).run V z=.ok (.round l fn tmps assign body) z/\
        RoundIn Fence.wide 0 V l fn tmps assign body z λe W'=>e=FN (Wl T)/\∃o2,Jq (zs++[⟨rP,iP,Gi⟩]) o2 W'/\Kept (λb=>¬S b) z W'/\∀b,o2 b->S b∨(M (H u)<=b/\b<M (H W'))):=λv3 z aa L=>
      Mj (A:=u.drew) (g:=g) HJ.o HY.o (HJ.o _ _ _ _ ak.o.j (QB ((Qm (M (H u)) u).drew) (λb d _=>d))) gN.o (by have:=Ig.o;have:=L8.o;show M (H W)<=M (H u);omega) JN.o (by rw[eu,ak.o.told,Qi];exact List.prefix_refl _) (by have:=ay.2.2;have:=UT.o;have:=zk.o;have:=hA.len;simp;omega) v3 z aa L
    have aC:Y3 (∀(z m:U) (o2:Nat->Prop) (iv:ae),Below (M (H u)) u.drew z->iv.xs=g.gr.row->Jq (zs++[iv]) o2 m->Kept (λb=>¬S b) z m->(∀b,o2 b->S b∨(M (H u)<=b/\b<M (H m)))->
      m.heap[M (H wc)]? = O (.deferred (O []))/\(zs++[iv]).map ae.xs=(lW t y rows).map Gr.row/\Jq (zs++[iv]) o2 (m.putObj (M (H wc)) (.deferred xn))/\Kept (λb=>¬o b) W (m.putObj (M (H wc)) (.deferred xn))/\∀b,o2 b->o b∨(M (H W)<=b/\b<M (H (m.putObj (M (H wc)) (.deferred xn))))):=λz m o2 iv L Aj hj hk hg=>by
     have z1:=Ig.o;have z0:=L8.o;have z3:M (H u)<=M (H z):=L.size;have z4:=hk.size;have zl:=(QI.1 hD).1;have eB:Kept (λ_=>True) u z:=(QB ((Qm (M (H u)) u).drew) (λb d _=>d)).trans (QB L (λb d _=>d));have vO:Kept (λb=>b≠M (H wc)) m (m.putObj (M (H wc)) (.deferred xn)):=QC _ _ (λh=>h rfl);have gP:¬o2 (M (H wc)):=λh=>by
      rcases hg _ h with h|h
      .exact df.o h
      .omega
     refine⟨(hk.block _ (by omega) df.o).trans ((eB.block _ zl trivial).trans hD),?_,HJ.o _ _ _ _ hj (vO.mono λb _ h=>?_),((ed.trans (eB.mono λ_ _ _=>trivial)).trans' hk (λb d h h'=>?_)).trans' vO (λb d _=>by show b≠_;omega),λb d=>?_⟩
     .rw[eu,Qi,Qi,ak.o.told]
      show _++[iv.xs]=_;rw[Aj];rfl
     .rcases h with h|h
      .intro e;exact gP (e ▸ h)
      .show b≠_;omega
     .rcases ak.o.new b h' with Q|Q
      .exact h Q
      .omega
     .rw[Q7];rcases hg b d with h|h
      .exact(ak.o.new b h).imp id (λh=>⟨h.1,by omega⟩)
      .exact .inr ⟨by omega,h.2⟩
    have FO:V.follows .mixedOrders=true:=by kernel_rfl
    have bX:UK u.drew (aD (M (H W)) 0)=O (.func (.yield l) #[] #[]):=gM;obtain⟨gb,sb,⟨eG,sI,eH⟩,cnt,ss⟩:=g;simp only at*;gi_upto_region 14 with fail;gi_region_with_o (first|(refine⟨trivial,rfl,QH.2 (ek.mono ?_)⟩;rintro e z ⟨v3,rfl,aa,L⟩;obtain⟨rP,iP,Gi,rfl,bn,fn,tmps,assign,body,gU,dw⟩:=bV.o v3 z aa L;have UU:Y3 _:=bn;clear bn aa;have gp:=cB L bX)|(refine⟨rfl,dw.mono ?_⟩;rintro e m ⟨rfl,o2,Nt,aB,dh⟩))
    all_goals
     obtain⟨ib,di,ic,ig,il⟩:=aC.o z m o2 ⟨rP,iP,Gi⟩ L UU.o Nt aB dh;gi_wp2_with fail;refine⟨by simp,.inl ⟨_,_,rfl,Q5 ib,?_⟩⟩;exact⟨_,Q6 rfl _ _ _,⟨_,rfl⟩,_,o2,di,ic,ig,il⟩
end
