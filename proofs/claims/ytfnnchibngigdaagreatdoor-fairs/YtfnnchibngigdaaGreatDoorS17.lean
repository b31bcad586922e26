import Derived.Test.YtfnnchibngigdaaGreatDoorS11
import Derived.Test.YtfnnchibngigdaaGreatDoorS12
import Derived.Test.YtfnnchibngigdaaGreatDoorS13
set_option linter.all false
set_option maxRecDepth 100000
set_option maxHeartbeats 0
namespace Go.Proofs.Zz
open Go.RowKit Go.Shelf Go.Proofs.Tryz
open List renaming length->N,getD->E
open Go.Value renaming slice->Z,int->I,pointer->Y,bool->Qo,agg->Qr
open Go.Proofs.Tryz renaming prog->V
open Option renaming some->O,none->Qp
open Go.IntKind renaming i64->J,u64->Qn
open Bool renaming false->F,true->T
open Go renaming World->U
open Go.World renaming heap->H,setCell->Ql,cell?->Qm
open _root_.Array renaming size->M
open Go.RowKit renaming Hid->Qk
open Go.Ending renaming returned->Qs
variable {B k:Nat} {t:TypeId} {W:U}
def Il(ao:JW)(cap:Nat)(ts:Qu af)(q:ae)(w:U)(hx:aI w ao ts)(hq:q.At w)(hc:bQ ts=T)
  (hf:5<N q.src.xs∨8<N q.wh∨8<N q.ay.xs∨4<N q.keys.xs∨4<N q.sums.xs∨4<N q.ord.xs) :
  Cb 14 #[Z ao (N ts) cap,Qr q.cells] w (I J (q.check ts)):=by
 have B:Qk ((2:Int)=q.check ts):=ae.oL hc (I8 (by simpa [ae.kE] using hf));have r:=λo=>hx.below (bz w o);have t:=hq.wh.1;generalize q.check ts=R at*;clear hq;obtain⟨a,K,L,d,v,b,g,p,y⟩:=q;simp only at hf t;unfold ae.cells ai.val;simp only;have j:(5<N a.xs)∨(¬5<N a.xs/\8<N d)∨(¬5<N a.xs/\¬8<N d/\8<N p.xs)∨(¬5<N a.xs/\¬8<N d/\¬8<N p.xs/\4<N b.xs)∨
   (¬5<N a.xs/\¬8<N d/\¬8<N p.xs/\¬4<N b.xs/\4<N g.xs)∨(¬5<N a.xs/\¬8<N d/\¬8<N p.xs/\¬4<N b.xs/\¬4<N g.xs/\4<N y.xs):=X
 clear hf;rcases j with m|⟨m,n⟩|⟨m,n,u⟩|⟨m,n,u,z⟩|⟨m,n,u,z,C⟩|⟨m,n,u,z,C,G⟩
 all_goals
  go_enter func14,ntmps14;go_wp2_with (go_at_call 25;refine(iP _ _ _ _ (r _)).mono ?_;rw[hc];rintro e P ⟨rfl,A⟩;have l:=lZ A;simp at l);go_loop [6,7] (λf i=>∃k:Nat,k<=N d/\i=I J k/\f=Qo T) (λ_ i=>N d-(intOf i).toNat)
  case atStart=>exact⟨0,ZP _,rfl,by first|rfl|exact kF Qi⟩
  case round=>
   obtain⟨k,Q,rfl,rfl⟩:=hrel;by_cases D:k<N d
   .go_wp2;go_round
    case rel=>exact⟨k+1,X,Qf,rfl⟩
    case measure=>exact Qw
   .go_wp2;go_ret;exact⟨QW B.o,ah (bz _ _) A⟩
def zF(ao:JW)(cap:Nat)(ts:Qu af)(q:ae)(w:U)(hx:aI w ao ts)(hq:q.At w) :
  Cb 14 #[Z ao (N ts) cap,Qr q.cells] w (I J (q.check ts)):=by
 cases hc:bQ ts
 .exact Ik ao cap ts q w hx hc
 .by_cases a:5<N q.src.xs∨8<N q.wh∨8<N q.ay.xs∨4<N q.keys.xs∨4<N q.sums.xs∨4<N q.ord.xs
  .exact Il ao cap ts q w hx hq hc a
  .cases hw:fH q.wh (N q.wh)
   .exact Ld ao cap ts q w hx hq hc a hw
   .exact Im ao cap ts q w hx hq hc a hw
theorem restB_fits(n:Int)(group:Bool)(keys sums ay ord:KJ) :
  dE n group keys sums ay ord=(fitsB n group keys sums ay&&(aP ord (mf group keys sums ay)&&bG ord)):=by
 unfold dE fitsB;generalize aP ord (mf group keys sums ay)=Oq;generalize bG ord=P;cases group
 .by_cases a:N ay=0
  .grind
  .have f:=ZL a;have i:decide (0<N ay)=true:=Zg X;rw[f,i];by_cases g:N keys=0
   .by_cases k:N sums=0
    .have b:=Zj g;have d:=Zj k;subst b d;have j:bG []=true:=Qd
     rw[j];cases aP ay n <;> cases Oq <;> cases P <;> rfl
    grind
   .rw[ZL g,ZL (show ¬N keys+N sums=0 by omega)];simp
 .by_cases a:N ay=0
  .have e:=Zj a;subst e;have f:aP [] n=true:=rfl
   grind
  .rw[ZL a];simp
def queryB(ts:Qu af)(src:KJ)(wh:Qu (Qu aF))(group:Bool)(keys sums ay ord:KJ):Bool:=
 decide (0<N src)&&(aP src (N ts)&&(df wh (ax ts src)&&(fitsB (ax ts src) group keys sums ay&&(aP ord (mf group keys sums ay)&&bG ord))))
theorem check_query{ts:Qu af}{src:KJ}{wh:Qu (Qu aF)}{group:Bool}{keys sums ay ord:KJ}(hc:bQ ts=T)(hf:fw src wh keys sums ay ord=F) :
  checkN ts src wh group keys sums ay ord=if queryB ts src wh group keys sums ay ord then 0 else 3:=by unfold checkN queryB;rw[Zf (by simp[hc]),Zf (by simp[hf]),restB_fits];grind
def isQuery_any(ao:JW)(cap:Nat)(ts:Qu af)(q:ae)(w:U)(hx:aI w ao ts)(hq:q.At w)(hc:bQ ts=T)
  (hf:fw q.src.xs q.kE q.keys.xs q.sums.xs q.ay.xs q.ord.xs=F) (hkc:N q.keys.xs<=q.keys.cap) (hoc:N q.ord.xs<=q.ord.cap) :
  Cb 43 #[Z ao (N ts) cap,Qr q.cells] w (Qo (queryB ts q.src.xs q.kE q.group q.keys.xs q.sums.xs q.ay.xs q.ord.xs)):=by
 have P:¬(5<N q.src.xs∨8<N q.wh∨8<N q.ay.xs∨4<N q.keys.xs∨4<N q.sums.xs∨4<N q.ord.xs):=by intro h;rw[ae.Ea,Zg h,Bool.true_or]at hf;cases hf
 have z:=λx=>outWidth_any q x X X;have A:=λn x (h:Bw w x)=>outputFits_any q n x (Q7 h hq.keys) (Q7 h hq.sums) (Q7 h hq.ay) hkc;unfold queryB;obtain⟨a,D,L,u,f,g,i,p,d⟩:=q;have l:IntsAt w a.ad a.xs:=hq.src;have G:IntsAt w d.ad d.xs:=hq.ord;have Q:bM w D u:=hq.wh;have S:(ae.mk a D L u f g i p d).kE=u.map aA.cs:=rfl;simp only[S]at*;clear S hq hf;unfold ae.cells ai.val at*;simp only at*;have h1:N a.xs<=5:=X;have y:=λx (h:Bw w x)=>allBelow_any a.ad a.cap a.xs (N ts) x (l.below h);have B:=λn x (h:Bw w x)=>clausesQ_any D L u n x (Q.below h);have W:=λx (h:Bw w x)=>allBelow_any d.ad d.cap d.xs (mf f g.xs i.xs p.xs) x (G.below h);have Vm:=λx (h:Bw w x)=>allDifferent_any d.ad d.cap d.xs x (G.below h) hoc;generalize m:(decide (0<N a.xs)&&(aP a.xs (N ts)&&(df (u.map aA.cs) (ax ts a.xs)&&(fitsB (ax ts a.xs) f g.xs i.xs p.xs&&(aP d.xs (mf f g.xs i.xs p.xs)&&bG d.xs)))))=R;by_cases h0:0<N a.xs
 .rw[Zg h0,Zi]at m;have K:((N a.xs:Int)==0)=false:=by rw[Xw];omega
  cases ha:aP a.xs (N ts)
  .rw[ha]at y m;have t:Qk (F=R):=m;clear m;go_enter func43,ntmps43;go_wp2_with fail;refine(y _ (bz _ _)).mono ?_;rintro e w2 ⟨rfl,k⟩;go_wp2;go_ret;exact⟨QV t.o,ah (bz _ _) k⟩
  .have C:=λx (h:Bw w x)=>countColumns_any ao cap ts a.ad a.cap a.xs x (hx.below h) hc (l.below h) h1 ha
   rw[ha]at y m;clear ha hc;rw[Zi]at m;have t:=Zh m;clear m;generalize ax ts a.xs=Nq at*;have B:=B Nq;have A:=A Nq;generalize df (u.map aA.cs) Nq=CB,fitsB Nq f g.xs i.xs p.xs=FB at*;clear hx l G Q hkc hoc;go_enter func43,ntmps43;go_wp2_with fail;refine(y _ (bz _ _)).mono ?_;clear y;rintro e w2 ⟨rfl,k⟩;have hz:M (H w)<M (H w2):=by have:=k.size;simp at this;omega
   have b:=lZ k;simp at b;have k2:=ah (bz _ _) k;go_wp2_with fail;refine(C _ k2).mono ?_;clear C;rintro e w3 ⟨rfl,rfl⟩;go_wp2_with fail;refine(B _ k2).mono ?_;clear B;rintro e v ⟨rfl,j⟩;have k4:=ah k2 j;have f0:Qm v (aD (M (H w)) 0)=O (Z a.ad (N a.xs) a.cap):=cB j (by rw[b _ _ X];simp);have f1:Qm v (aD (M (H w)) 1)=O (Z D (N u) L):=cB j (by rw[b _ _ X];simp);have f2:Qm v (aD (M (H w)) 2)=O (Qo f):=cB j (by rw[b _ _ X];simp);have f3:Qm v (aD (M (H w)) 3)=O (Z g.ad (N g.xs) g.cap):=cB j (by rw[b _ _ X];simp);have f4:Qm v (aD (M (H w)) 4)=O (Z i.ad (N i.xs) i.cap):=cB j (by rw[b _ _ X];simp);have f5:Qm v (aD (M (H w)) 5)=O (Z p.ad (N p.xs) p.cap):=cB j (by rw[b _ _ X];simp);have f6:Qm v (aD (M (H w)) 6)=O (Z d.ad (N d.xs) d.cap):=cB j (by rw[b _ _ X];simp);clear b j k2 k;cases CB
   .go_wp2;go_ret;exact⟨QV t.o,k4⟩
   .go_wp2_with fail;refine(A _ k4).mono ?_;clear A;rintro e w5 ⟨rfl,r⟩;have k5:=ah k4 r;obtain⟨g0,g1,g2,g3,g4⟩:=gM r f0 f1 f2 f3 f4;obtain⟨g5,g6⟩:=iA r f5 f6;clear f0 f1 f2 f3 f4 f5 f6 r k4
    cases FB
    .go_wp2;go_ret;exact⟨QV t.o,k5⟩
    .go_wp2_with fail;generalize mf f g.xs i.xs p.xs=Oq at*;generalize aP d.xs Oq=AO at*;generalize bG d.xs=PO at*;refine Za ?_;refine JE ?_;go_big_quiet_want;refine⟨I J Oq,λx hx=>?_,?_⟩
     .have hC:=Zb hx (z x);go_simp
     simp only[pU];go_big_quiet_on;go_big_quiet_want;refine⟨Qo AO,λx hx=>?_,?_⟩
     .have hC:=Zb hx (W x (ah k5 hx));go_simp
     simp only[pU];go_big_quiet_on;refine eT ?_;cases AO
     .go_big_quiet_skip;go_big_quiet_skip;go_big_quiet_skip;refine uK ?_;refine Xo ?_;intro x hx;go_wp2;go_ret;exact⟨QV t.o,ah k5 hx⟩
     .go_big_quiet_want;refine⟨Y (O (aD (M (H w)) 6)),λx hx=>?_,?_⟩
      .go_simp
      simp only[pU];go_big_quiet_on;refine eT ?_;go_big_quiet_want;refine⟨Qo PO,λx hx=>?_,?_⟩
      .have hC:=Calls.sI hx (Vm x (ah k5 hx));go_simp
      simp only[pU];go_big_quiet_on;refine uK ?_;refine Xo ?_;intro x hx;go_wp2;go_ret;exact⟨QV t.o,ah k5 hx⟩
 .have K:((N a.xs:Int)==0)=true:=by rw[beq_iff_eq];omega
  rw[ZL h0,Xl]at m;have t:=Zh m;clear m;clear z A y B W Vm;go_enter func43,ntmps43;go_wp2;go_ret;exact⟨QV t.o,bz _ _⟩
def check_of_cat{q:ae}{ts:Qu af}(h:bQ ts=F):(1:Int)=q.check ts:=ae.xH h
def check_of_query{q:ae}{ts:Qu af}(hc:bQ ts=T)(hf:fw q.src.xs q.kE q.keys.xs q.sums.xs q.ay.xs q.ord.xs=F) :
  q.check ts=if queryB ts q.src.xs q.kE q.group q.keys.xs q.sums.xs q.ay.xs q.ord.xs then 0 else 3:=check_query hc hf
def checkQ_any(ao:JW)(cap:Nat)(ts:Qu af)(q:ae)(w:U)(hx:aI w ao ts)(hq:q.At w)(hkc:N q.keys.xs<=q.keys.cap)(hoc:N q.ord.xs<=q.ord.cap) :
  Cb 22 #[Z ao (N ts) cap,Qr q.cells] w (I J (q.check ts)):=by
 have g:=λx (h:Bw w x)=>isCatalogP_any ao cap ts x (hx.below h);have d:=λx (h:Bw w x)=>isFull_any q x (hq.wh.below h);have k:=λ(D:bQ ts=T) (G:fw q.src.xs q.kE q.keys.xs q.sums.xs q.ay.xs q.ord.xs=F) x (h:Bw w x)=>isQuery_any ao cap ts q x (hx.below h) (hq.below h) D G hkc hoc;have l:=@check_of_cat q ts;have m:=@ae.oL q ts;have n:=@check_of_query q ts;generalize q.check ts=R,fw q.src.xs q.kE q.keys.xs q.sums.xs q.ay.xs q.ord.xs=FB,queryB ts q.src.xs q.kE q.group q.keys.xs q.sums.xs q.ay.xs q.ord.xs=QB,bQ ts=CB at*;obtain⟨A,L,P,Q,t,v,y,S,B⟩:=q;clear hx hq hkc hoc;unfold ae.cells ai.val at*;simp only at*;cases CB
 .have i:=Zh (l rfl);clear d k l m n;go_enter func22,ntmps22;go_wp2_with fail;refine(g _ (bz _ _)).mono ?_;clear g;rintro e p ⟨rfl,a⟩;go_wp2;go_ret;exact⟨QW i.o,ah (bz _ _) a⟩
 .cases FB
  .have u:=Zh (k rfl rfl);clear k;have i:=Zh (n rfl rfl);clear l m n;go_enter func22,ntmps22;go_wp2_with fail;refine(g _ (bz _ _)).mono ?_;clear g;rintro e p ⟨rfl,a⟩;have z:M (H w)<M (H p):=by have:=a.size;simp at this;omega
   have b:=lZ a;simp at b;have k2:=ah (bz _ _) a;go_wp2_with fail;refine(d _ k2).mono ?_;clear d;rintro e C ⟨rfl,f⟩;have K:=lZ f;have k3:=ah k2 f;go_wp2_with fail;refine(u.o _ k3).mono ?_;clear u;rintro e W ⟨rfl,j⟩;cases QB
   .have r:Qk ((3:Int)=R):=i.o.symm;go_wp2;go_ret;exact⟨QW r.o,ah k3 j⟩
   .have r:Qk ((0:Int)=R):=i.o.symm;go_wp2;go_ret;exact⟨QW r.o,ah k3 j⟩
  .have i:=Zh (m rfl rfl);clear k l m n;go_enter func22,ntmps22;go_wp2_with fail;refine(g _ (bz _ _)).mono ?_;clear g;rintro e p ⟨rfl,a⟩;have z:M (H w)<M (H p):=by have:=a.size;simp at this;omega
   have b:=lZ a;simp at b;have k2:=ah (bz _ _) a;go_wp2_with fail;refine(d _ k2).mono ?_;clear d;rintro e C ⟨rfl,f⟩;go_wp2;go_ret;exact⟨QW i.o,ah k2 f⟩
section
def nu(s k:Nat):Qu Nat:=(List.range k).filter λi=>s.testBit i
def AX(s k:Nat):nu s (k+1)=nu s k++if s.testBit k=T then [k] else []:=by unfold nu;rw[Zx,List.filter_append];cases h:s.testBit k <;> simp[h]
theorem Dg(s:Nat){k:Nat}(hk:k<=64):nu s k <+: aW s:=by
 have e:List.range 64=List.range k++(List.range (64-k)).map (k + ·):=by rw[<-List.range_add];congr 1;omega
 unfold nu aW;grind
def Dh(s:Nat){k:Nat}(hk:k<=64)(h:s / 2 ^ k=0):nu s k=aW s:=by
 symm;refine qj hk _ (λi d=>?_);have b:s<2 ^ k:=by
  rcases Xv s (2 ^ k) with a|a
  .exact a
  .have:=Nat.div_pos a (Nat.pow_pos X);omega
 exact Nat.testBit_lt_two_pow (ZC b (ZO X d))
def Di{s:Nat}(hs:s<18446744073709551616)(h:s / 2 ^ k≠0):k<64:=by
 rcases Xv k 64 with a|a
 .exact a
 .exfalso;apply h;apply Nat.div_eq_of_lt;exact ZC hs (ZO (n:=2) X a)
attribute [local go_sem] Oper.semAt_some
theorem vG(s:Nat)(hs:s<18446744073709551616)(w0:U):UC kT V 105 (I Qn (s:Int)) (aW s) w0:=by
 intro l Jq W o hW ho hJ hY h0;have P:=Zh hY;have v:Qk _:=@AX s;have Q:Qk _:=@Dg s;have R:Qk _:=@Dh s;have S:Qk (∀n x,n<64->_):=λn x hn=>Cx s n hs hn x;have Ml:Qk (∀k,s / 2 ^ k≠0->k<64):=λk h=>Di hs h;have PE:Qk (nu s 0=[]):=rfl;generalize nu s=RT at*;refine(callsIn_wide (n:=0)).1 (callsIn_of_wp func105 rfl trivial ?_ rfl);simp only[ntmps105,List.size_toArray,Zn,XB,Nat.reduceAdd,Nat.reduceSub,Array.replicate_succ,Array.replicate_zero,List.push_toArray,List.append_toArray,List.nil_append,List.cons_append];gi_wp2;gi_loopw [4] (λi wr=>∃k:Nat,k<=64/\i=I J k/\∃g,Qk (Jq (RT k) g wr)/\Qk (Kept (λb=>¬o b) W wr)/\Qk (∀b,g b->o b∨(M (H W)<=b/\b<M (H wr))))
  (λi _=>64-(intOf i).toNat)
 case atStart=>exact⟨0,ZP _,rfl,o,by rw[PE.o];exact h0,Kept.refl _ _,λb h=>.inl h⟩
 case round=>
  obtain⟨k,hk,rfl,g,f,m,a⟩:=hrel;by_cases L:s / 2 ^ k=0
  .have HE:=Zh (R.o hk L);have y:((s:Int) / 2 ^ k != 0)=false:=by grind
   gi_wp2;go_end0;exact⟨⟨_,rfl⟩,aW s,g,by simp[kT],by rw[<-HE.o];exact f.o,m.o,a.o⟩
  .have z:=Ml.o k L;have y:((s:Int) / 2 ^ k != 0)=true:=by grind
   have r:=Zh (v.o k);have HP:Qk (RT (k+1) <+: aW s):=Q.o X;have t:=S.o k wr z
   cases q:s.testBit k with
   |false =>
    rw[q]at t r;gi_wp2;refine⟨trivial,rfl,callsIn_wide.2 (t.mono ?_)⟩;rintro e G ⟨rfl,rfl⟩;gi_wp2;refine⟨(λ_ h=>by cases h),?_⟩;gi_wp2;go_roundw
    case rel=>exact⟨k+1,X,Qf,g,by have h:RT (k+1)=RT k++[]:=r.o;rw[h,Zr];exact f.o,m.o,a.o⟩
    case measure=>exact Qw
   |true =>
    rw[q]at t r;have j:Qk (RT (k+1)=RT k++[k]):=r.o;obtain⟨fn,tmps,d,p,hy,hR⟩:=P.o (RT k) k g wr f.o (by rw[<-j.o];simpa [kT] using HP.o) trivial (λb h=>by cases h) m.o.size;have aa:(Instr.yield l #[I J (k:Int)]).run V wr=.ok (.round l fn tmps d p) wr:=hy;gi_wp2;refine⟨trivial,rfl,callsIn_wide.2 (t.mono ?_)⟩;rintro e G ⟨rfl,rfl⟩;gi_wp2;refine⟨rfl,hR.mono ?_⟩;rintro e G ⟨rfl,o2,A,B,C⟩;obtain⟨Oc,K,D⟩:=kH A B C;gi_wp2;go_roundw
    case rel=>
     refine⟨k+1,X,Qf,o2,by rw[j.o];exact Oc.o,m.o.trans' K.o ?_,?_⟩
     .intro b q h u;rcases a.o b u with u|u
      .exact h u
      .omega
     .intro b q;have:=K.o.size;have:=m.o.size;rcases D.o b q with h|h|h
      .rcases a.o b h with h|h
       .exact .inl h
       .exact .inr ⟨h.1,X⟩
      .exact .inr ⟨X,h.2⟩
      .cases h.1
    case measure=>exact Qw
end
section
def vH{α:Type}{pre l:List α}{x:α}(h:pre++[x] <+: l):x∈l:=h.subset Qb
structure xn(w2:U)(t:TypeId)(Xq:Nat)(o1:Qv)(W:U):Prop where
 g:GB W (M (H w2)) t #[I Qn (Xq:Int)]
 below:Bw w2 W
 iff:∀b,o1 b↔b=M (H w2)
def xn.keep{w2:U}{t:TypeId}{Xq:Nat}{o1:Qv}{A B:U}{n:Nat}(h:xn w2 t Xq o1 A)(hn:M (H w2)<=n)(hk:Kept (λb=>o1 b∨b<n) A B):xn w2 t Xq o1 B:=
 ⟨h.g.keep hk (.inl ((h.iff _).2 rfl)),h.below.trans (hk.below h.below.size (λb a=>.inr X)),h.iff⟩
theorem xn.step{w2:U}{Xq Yq:Nat}{o1:Qv}(h:xn w2 t Xq o1 W):xn w2 t Yq o1 (Ql W.drew (aD (M (H w2)) 0) (I Qn (Yq:Int)))/\Kept (λb=>¬o1 b) W (Ql W.drew (aD (M (H w2)) 0) (I Qn (Yq:Int))):=by have d:Kept (λb=>b≠M (H w2)) W (Ql W.drew (aD (M (H w2)) 0) (I Qn (Yq:Int))):=(ZE ((Q5 (M (H W)) W).drew) (λb a _=>a)).trans (ZG _ _ _ (λh=>h rfl));exact⟨⟨(h.g.keep (ZE (s:=λ_=>True) ((Q5 (M (H W)) W).drew) (λb a _=>a)) trivial).set 0 _,h.below.trans (d.below h.below.size (λb a=>Nat.ne_of_lt a)),h.iff⟩,d.mono λb _ a e=>a ((h.iff b).2 e)⟩
attribute [local go_sem] Oper.semAt_some
def AY(f:bq)(ts:Qu af)(q:ae)(p:aC)(ao:JW)(pl cap:Nat)(w:U)(ok:Ok ts q)(hf:f.At ts q w)(hs:p.sources<2 ^ (N q.src.xs))(hc:p.clauses<2 ^ (N q.wh))(hk:di p.kind=F) :
  Cb 87 #[Qr (f.cells ts q),Qr p.cells,Z ao pl cap] w (I Qn ((fK ts q p.sources p.clauses:Nat):Int)):=by
 have UD:p.sources<18446744073709551616:=ZC hs (ZO (n:=2) X ok.small);have UE:p.clauses<18446744073709551616:=ZC hc (ZO (n:=2) X ok.kE);have bC:Qk (∀x∈aW p.sources,x<N q.src.xs):=λx u=>yD hs u;have bD:Qk (∀x∈aW p.clauses,x<N q.wh):=λx u=>yD hc u;obtain⟨X4,aT⟩:=bV (vG p.sources UD) (vG p.clauses UE);have HR:Qk _:=hf.rows;have HP:Qk _:=hf.parts;obtain⟨Sw,LM⟩:=bV (Gf ts q) (xZ ts q);have X8:Qk (∀x,x<N q.src.xs->E (sQ ts q) x 0<=aH):=λx u=>by rw[yf ts q u];obtain⟨h0,h1⟩:=mX ok.src (k:=x) u;have ht:=mV ok.cat (i:=(E q.src.xs x 0).toNat) X;unfold bK at ht;rw[Zd]at ht;unfold dF aH;rw[Xk];omega
 have X9:Qk (∀x,x<N q.wh->1<=E (om ts q) x 0/\E (om ts q) x 0<=1000000):=λx u=>by rw[rG ts q u];exact Ay ok.cat ok.src (ok.aO x u)
 obtain⟨v,aU,UF,Rf,aV⟩:∃v:Qu Nat->Nat,v []=1/\(∀a x,x<N q.src.xs->v (a++[x])=az (v a) (E (sQ ts q) x 0))/\(∀a,v a<=aH)/\v (aW p.sources)=((aW p.sources).map λ(k:Nat)=>dF ts q.src.xs (k:Int)).foldl az 1:=
  ⟨λa=>(a.map λ(k:Nat)=>dF ts q.src.xs (k:Int)).foldl az 1,rfl,λa x u=>by simp only[Q0,Xh];rw[yf ts q u];rfl,λa=>eH _ 1 (by unfold aH;omega),rfl⟩
 obtain⟨C,aa⟩:=eX (v (aW p.sources));obtain⟨r,aX,aZ,au,bf⟩:∃r:Qu Nat->Nat,r []=C/\(∀a x,x<N q.wh->r (a++[x])=r a / E (om ts q) x 0)/\(∀a,r a<=aH)/\r (aW p.clauses)=(aW p.clauses).foldl (λx c=>x / bH ts q.src.xs (E q.wh c lz).cs) C:=
  ⟨λa=>a.foldl (λx c=>x / bH ts q.src.xs (E q.wh c lz).cs) C,rfl,λa x u=>by simp only[Xh];rw[rG ts q u];rfl,λa=>ZB (ni _ a C) (by rw[<-aa];exact Rf _),rfl⟩
 obtain⟨R,hR⟩:=eY (fK ts q p.sources p.clauses);have yC:Qk (R=if C=0 then 0 else max (r (aW p.clauses)) 1):=by show R=_;rw[hR];unfold fK;rw[<-aV,aa,bf]
 rw[<-hR];clear hR;obtain⟨bR,bS,bT,JZ,bg,bn,av⟩:=YO aU UF Rf aa aX aZ au;clear aU UF Rf aV aa aX aZ au bf;have UG:=λx=>qA p.kind x;rw[hk]at UG;obtain⟨v0,v1,v2,v3,v4,v5,v6,v7,v8,v9,ax,ay,aA,jW,-,-,-,-,-,-,-,-,-,-,UH,-,Rh⟩:=dX f ts q;rw[jW];rw[hf.pl]at Rh;rw[Hr];clear hk hs hc UD UE jW ok hf;generalize sQ ts q=RL,om ts q=PL,aW p.sources=SL,aW p.clauses=CL at*;obtain⟨j,ps,pc,bU,aB,aF⟩:=p;simp only at*;generalize bU.val=od at*;obtain⟨w1,dB,bu,aG⟩:=aY w #[v0,v1,v2,v3,v4,v5,v6,v7,v8,v9,ax,ay,aA] 60;obtain⟨w2,dC,aI,aJ⟩:=aY w1 #[I J j,I Qn (ps:Int),I Qn (pc:Int),od,I Qn (aB:Int),I Qn (aF:Int)] 65;have ag:=aI;have aR:=ah bu ag;have iU:=aG.of (ag.block _ aG.lt);have fP:=iU.at 10;have fQ:=iU.at 12;have oC:=aJ;obtain⟨vB,uZ,ve⟩:=oC.k3;rw[UH]at fP;rw[Rh]at fQ;clear UH Rh;obtain⟨w3,bW,aK,bA⟩:=aY w2 #[I Qn 1] 36;have Q:Qk (M (H w3)=M (H w2)+1):=by rw[<-bW];show _=_;simp
 obtain⟨L,Ob⟩:=bV aR aK;have bE:Qk _:=bA;have b1:=cB aK uZ;obtain⟨bX,bY,bZ⟩:=kH fP fQ ve;clear bu aI aG aJ iU oC aR ag aK bA fP fQ ve uZ;refine(callsIn_wide (n:=0)).1 (callsIn_of_wp_marks func87 rfl trivial ?_ rfl);simp only[ntmps87,List.size_toArray,Zn,XB,Nat.reduceAdd,Nat.reduceSub,Array.replicate_succ,Array.replicate_zero,List.push_toArray,List.append_toArray,List.nil_append,List.cons_append];gi_wp2;refine⟨trivial,rfl,callsIn_wide.2 ((UG _).mono ?_)⟩;rintro e W ⟨rfl,ai⟩;have ai:=ai.symm;subst ai;gi_wp2;refine yE kT (gf:=105) (s:=I Qn (ps:Int)) rfl (enters_of func105 Qe rfl) (X4.o w2) Ob.o rfl
  (λa t W=>xn w2 36 (v a) t W) (λb=>b=M (H w2)) ?_ ?_ ⟨by rw[bR.o];exact bE.o,Ob.o,λ_=>Iff.rfl⟩
  (λx=>{ tmps:=#[Qr #[v0,v1,v2,v3,v4,v5,v6,v7,v8,v9,ax,ay,aA],Qr #[I J j,I Qn (ps:Int),I Qn (pc:Int),od,I Qn (aB:Int),I Qn (aF:Int)],Z ao pl cap,Y (O (aD (M (H w)) 0)),Y (O (aD (M (H w1)) 0)),undef,I Qn 0,Y (O (aD (M (H w2)) 0)),I J (x:Int),undef,undef,Y (O (aD (M (H w1)) 0)),I J j,Qo F,undef,undef,undef,undef,Y (O (aD (M (H w1)) 1)),I Qn (ps:Int),.func (.func 105) #[I Qn (ps:Int)] #[],I J (x:Int),undef,undef,undef,undef,undef,undef,undef,undef,undef,undef,undef,undef,undef,undef,undef,undef,undef,undef,undef,undef,undef,undef,undef],defers:=[] }) ?assign ?body ?done
 .rintro b rfl;exact⟨Q6 _,Qj Q.o⟩
 .intro a t A B h hk;exact h.keep (Qj Q.o) hk
 case assign=>
  intro l x W K z;have he:kT.enc x=I J (x:Int):=rfl;gi_wp2;exact z
 case body=>
  intro l a x t W m G u bB cZ;have d:=bC.o x (vH (by simpa [kT] using G));have aj:=L.o.trans (m.below.mono L.o.size);obtain⟨rb,ro,aL,aM⟩:=dw.get (dw.below aj HR.o) (i:=x) (by rw[Sw.o];exact d);have bF:=aM x (by rw[Sw.o];exact d);have Ya:=Zh (bS.o a x d);have aS:=X8.o x d;have Rf:=bT.o a;have bG:=m.g.at 0;have bI:=m.g.frozen 0;have Ri:=cB m.below bX.o;rw[aL]at Ri;have HI:=Zh m;generalize E RL x 0=rn at*;have hT:=λy=>oW (v a) rn y Rf aS;rw[<-Ya.o]at hT;have Ky:Qk (∀act,oN kT (λa t W=>xn w2 36 (v a) t W) a x (M (H w3)) t W .normal act (Ql W.drew (aD (M (H w2)) 0) (I Qn (v (a++[x]):Int)))):=λ_=>⟨t,HI.o.step.1,HI.o.step.2,λb hb=>.inl hb⟩;generalize v (a++[x])=Xn,v a=Xp at*;gi_wp2_with fail;have Rj:V.follows .mixedOrders=true:=Qe;refine wpIn_region_any Rj (mG (qf Qe) _ _ _ _ ?_);change wpAnyIn _ _ _ _ _ _ _ _ _ (World.drew _);refine iT 1 (Y (O (aD (M (H w)) 10))) ?_;refine iT 3 (I J (x:Int)) ?_
  repeat' first
   |refine iJ 0 2 ?_ ?_
   |refine iJ 0 5 ?_ ?_
   |refine iQ 0 ?_
   |refine iQ 2 ?_
   |refine iQ 5 ?_
   |refine iQ 6 ?_
   |refine iQ 7 ?_
   |refine iT 4 (Y (O (aD rb (ro+x)))) ?_
   |refine iD ?_;exact Ky.o ⟨#[],[]⟩
   |intro K z;go_simp;refine z _ _ ?_;clear z K
   |intro K z;go_simp;refine⟨trivial,rfl,callsIn_wide.2 ((hT _).mono ?_)⟩;rintro e Wt ⟨rfl,rfl⟩;refine z _ _ ?_;clear z K
 case done=>
  rintro ys o' P aN m aI aJ hD;have Rk:ys=SL:=by simpa [kT] using aN
  subst Rk;rw[JZ.o]at m;have bJ:=m.g.at 0;have S:=m.below;obtain⟨cu,D⟩:=bV hD ((ZI.1 hD).1);by_cases h0:C=0
  .have bL:Qk (R=0):=by show R=0;rw[yC.o,Q8 h0]
   subst h0;gi_wp2;refine⟨Qb,.inl ⟨_,_,rfl,run_takeDeferred hD,?_⟩⟩;refine⟨_,results_tmp rfl _ _ _,by rw[bL.o];rfl,?_⟩;exact L.o.trans (((S.mono L.o.size)).trans ((Kept.putObj (s:=λb=>b<M (H w)) _ _ (by have:=L.o.size;have:=Q.o;omega)).below (ZB L.o.size S.size) (λ_ h=>h)))
  .have bM:Qk (R=max (r CL) 1):=by show R=_;rw[yC.o,Zf h0]
   have df:((C:Int)==0)=false:=by rw[Xw];omega
   obtain⟨W3,aP⟩:=eX (P.alloc (.cells #[I Qn (C:Int)] 36));have UI:Bw P W3:=by rw[<-aP];exact bz _ _
   have bN:Qk (GB W3 (M (H P)) 36 #[I Qn (C:Int)]):=by rw[<-aP];exact iB _ _
   have MR:Qk (M (H W3)=M (H P)+1):=by rw[<-aP];show _=_;simp
   have c2:=cB UI (cB S bZ.o);obtain⟨wO,aQ⟩:=bV UI S;gi_wp2;refine yE kT (gf:=105) (s:=I Qn (pc:Int)) rfl (enters_of func105 Qe rfl) (aT.o P) wO.o rfl
    (λa t W=>xn P 36 (r a) t W) (λb=>b=M (H P)) ?_ ?_ ⟨by rw[bg.o];exact bN.o,wO.o,λ_=>Iff.rfl⟩
    (λx=>{ tmps:=#[Qr #[v0,v1,v2,v3,v4,v5,v6,v7,v8,v9,ax,ay,aA],Qr #[I J j,I Qn (ps:Int),I Qn (pc:Int),od,I Qn (aB:Int),I Qn (aF:Int)],Z ao pl cap,Y (O (aD (M (H w)) 0)),Y (O (aD (M (H w1)) 0)),undef,I Qn 0,Y (O (aD (M (H w2)) 0)),undef,Y (O (aD (M (H P)) 0)),I J (x:Int),Y (O (aD (M (H w1)) 0)),I J j,Qo F,undef,undef,undef,undef,Y (O (aD (M (H w1)) 1)),I Qn (ps:Int),.func (.func 105) #[I Qn (ps:Int)] #[],undef,undef,undef,undef,undef,undef,undef,undef,I Qn (C:Int),Qo F,I Qn (C:Int),Y (O (aD (M (H w1)) 2)),I Qn (pc:Int),.func (.func 105) #[I Qn (pc:Int)] #[],I J (x:Int),undef,undef,undef,undef,undef,undef,undef,undef,undef],defers:=[] }) ?MS ?UJ ?UK
   .rintro b rfl;exact⟨Q6 _,Qj MR.o⟩
   .intro a t A B h hk;exact h.keep (Qj MR.o) hk
   case MS=>
    intro l x W K z;have he:kT.enc x=I J (x:Int):=rfl;gi_wp2;exact z
   case UJ=>
    intro l a x t W m G u bB cZ;have d:=bD.o x (vH (by simpa [kT] using G));have UL:=aQ.o.trans (m.below.mono aQ.o.size);have aj:=L.o.trans (UL.mono L.o.size);obtain⟨rb,ro,aL,aM⟩:=dw.get (dw.below aj HP.o) (i:=x) (by rw[LM.o];exact d);have bF:=aM x (by rw[LM.o];exact d);have Ya:=Zh (bn.o a x d);obtain⟨dD,aS⟩:=X9.o x d;have Rf:=av.o a;have bG:=m.g.at 0;have bI:=m.g.frozen 0;have Ri:=cB UL bY.o;rw[aL]at Ri;have HI:=Zh m;generalize E PL x 0=rn at*;have Ky:Qk (∀act,oN kT (λa t W=>xn P 36 (r a) t W) a x (M (H W3)) t W .normal act (Ql W.drew (aD (M (H P)) 0) (I Qn (r (a++[x]):Int)))):=λ_=>⟨t,HI.o.step.1,HI.o.step.2,λb hb=>.inl hb⟩;have HQ:Qk (r a<=18446744073709551615):=Rf;generalize r (a++[x])=Xn,r a=Xp at*;have dh:((Xp:Int)).tdiv (rn:Int)=(Xn:Int):=by rw[Ya.o,Int.tdiv_eq_ediv_of_nonneg X,Int.natCast_ediv]
    have dm:IntKind.u64.wrap (Xn:Int)=(Xn:Int):=lN (by have:=HQ.o;rw[Ya.o];have:=Nat.div_le_self Xp rn;omega);have dn:¬rn=0:=X;gi_wp2_with fail;have Rj:V.follows .mixedOrders=true:=Qe;refine wpIn_region_any Rj (mG (qf Qe) _ _ _ _ ?_);change wpAnyIn _ _ _ _ _ _ _ _ _ (World.drew _);refine iT 1 (Y (O (aD (M (H w)) 12))) ?_;refine iT 3 (I J (x:Int)) ?_
    repeat' first
     |refine iJ 0 2 ?_ ?_
     |refine iJ 0 5 ?_ ?_
     |refine iQ 0 ?_
     |refine iQ 2 ?_
     |refine iQ 5 ?_
     |refine iQ 6 ?_
     |refine iQ 7 ?_
     |refine iT 4 (Y (O (aD rb (ro+x)))) ?_
     |refine iD ?_;exact Ky.o ⟨#[],[]⟩
     |intro K z;go_simp;refine z _ _ ?_;clear z K
   case UK=>
    rintro ys o' W4 aN m cz cK cO;have Rk:CL=ys:=by symm;simpa [kT] using aN
    subst Rk;have bJ:=m.g.at 0;have ak:=m.below;have au:=av.o CL;have bO:Qk _:=bM;generalize r CL=yv at*;obtain⟨rv,Ht⟩:=eY (max yv 1);have dx:max (yv:Int) 1=(rv:Int):=X;have dz:max (1:Int) (yv:Int)=(rv:Int):=X;have dA:(if (yv:Int)<1 then 1 else (yv:Int))=(rv:Int):=by split <;> omega
    have bP:Qk (R=rv):=by show R=rv;rw[Ht];exact bO.o
    have bQ:=(ak.block _ D.o).trans cu.o;clear Ht bn aT HP X9 bg av cz cK;gi_wp2;refine⟨Qb,.inl ⟨_,_,rfl,run_takeDeferred cO,?_⟩⟩;refine⟨Qb,.inl ⟨_,_,rfl,run_takeDeferred ((World.putObj_heap_other (by have:=D.o;have:=MR.o;omega)).trans bQ),?_⟩⟩;refine⟨_,results_tmp rfl _ _ _,by rw[bP.o];rfl,?_⟩;have s0:=L.o.size;have s3:=Q.o;have s4:=MR.o;have s5:=ak.size;have s6:=D.o;refine L.o.trans (((aQ.o.mono s0)).trans ((ak.mono X).trans (((Kept.putObj (s:=λb=>b<M (H w)) _ _ X).below X (λ_ h=>h)).trans ((Kept.putObj (s:=λb=>b<M (H w)) _ _ X).below (by rw[World.putObj_size];omega) (λ_ h=>h)))))
end
def Dj(f:bq)(ts:Qu af)(q:ae)(p:aC)(ao:JW)(cap:Nat)(ps:Qu aC)(w:U)(hp:PartsAt w ao ps)(h0:0<N ps)(hk:di p.kind=T) :
  Cb 87 #[Qr (f.cells ts q),Qr p.cells,Z ao (N ps) cap] w (I Qn (((E ps 0 aR).size:Nat):Int)):=by obtain⟨⟨L,P,rfl,t,u,v,y,j,A⟩,-⟩:=hp.2 0 h0;rw[Xr,Z4]at j;have m:=λx=>qA p.kind x;rw[hk]at m;generalize f.cells ts q=FC at*;obtain⟨B,C,d,l⟩:=aY w FC 60;obtain⟨Q,D,g,i⟩:=aY B p.cells 65;have b:=g;have a:=ah d b;have n:=i;have G:=n.at 0;have K:=cB a j;have r:=Zh a;generalize p.kind=k,(E ps 0 aR).size=z,p.cells=PC at*;clear hk hp t u v y j A d g l i n a b;go_enter func87,ntmps87;go_wp2_with fail;refine(m _).mono ?_;rintro e R ⟨rfl,rfl⟩;go_wp2;go_ret;exact⟨rfl,r.o⟩
def Dk(f:bq)(ts:Qu af)(q:ae)(p:aC)(ao:JW)(cap:Nat)(ps:Qu aC)(w:U)(ok:Ok ts q)(hf:f.At ts q w)(hp:PartsAt w ao ps)(hs:p.sources<2 ^ (N q.src.xs))(hc:p.clauses<2 ^ (N q.wh))(h0:di p.kind=T->0<N ps) :
  Calls V 87 #[Qr (f.cells ts q),Qr p.cells,Z ao (N ps) cap] w λe a=>e=Qs (I Qn (((if di p.kind=T then (E ps 0 aR).size else fK ts q p.sources p.clauses):Nat):Int))/\Bw w a:=by
 cases hk:di p.kind with
 |true =>
  rw[Q8 rfl];exact Dj f ts q p ao cap ps w hp (h0 hk) hk
 |false =>
  rw[Zf Qb];exact AY f ts q p ao (N ps) cap w ok hf hs hc hk
def vI(n:ag)(w:U)(h:n.kind=1->0<=n.source/\n.source<64) :
  Cb 85 #[Qr n.cells] w (I Qn (((if n.kind=1 then 2 ^ n.source.toNat else 0):Nat):Int)):=by
 obtain⟨l,y,d,f⟩:=aY w n.cells 52;have b:=d;have i:=f;have t:=i.at 0;have u:=i.at 3;have j:=Zh b;clear f i d b;generalize n.cells=NC at*;by_cases a:n.kind=1
 .obtain⟨r,z⟩:=h a;obtain⟨s,m⟩:=Xj r;rw[Q8 a];have p:=yl (M (H l)) s (l.alloc (.cells #[I J (s:Int)] 3)) Qb X;have q:2 ^ n.source.toNat=2 ^ s:=by rw[m];rfl
  rw[q];obtain⟨R,g⟩:∃R,R=2 ^ s:=⟨_,rfl⟩;rw[<-g]at p ⊢;clear q g;rw[m]at u;rw[a]at t;have v:Qk (Bw w (l.alloc (.cells #[I J (s:Int)] 3))):=j.o.trans ((bz _ _).mono j.o.size);clear h m a r z;go_enter func85,ntmps85;go_wp2_with fail;refine p.mono ?_;rintro e B ⟨rfl,rfl⟩;go_wp2;go_ret;exact⟨rfl,v.o⟩
 .rw[Zf a];have A:(n.kind==1)=false:=by simp[a]
  generalize n.kind=k at*;go_enter func85,ntmps85;go_wp2;go_ret;exact⟨rfl,j.o⟩
def AZ(a:Nat)(g:Nat->Nat):Nat->Nat
 |0=>a
 |k+1=>AZ a g k|||g k
def vJ{a:Nat}{g:Nat->Nat}{n:Nat}(ha:a<2 ^ n):∀k,(∀i,i<k->g i<2 ^ n)->AZ a g k<2 ^ n
 |0,_=>ha
 |k+1,h=>Nat.or_lt_two_pow (vJ ha k (λi hi=>h i X)) (h k X)
def yF(a:Nat)(g:Nat->Nat)(hk:k<=2)(h:∀i,k<=i->g i=0):AZ a g k=a|||g 0|||g 1:=by
 rcases (by omega:k=0∨k=1∨k=2) with rfl|rfl|rfl
 .rw[h 0 X,h 1 X,Nat.or_zero,Nat.or_zero];rfl
 .rw[h 1 X,Nat.or_zero];rfl
 .rfl
def World.Hu(W:U)(B:Nat)(v0 v1 v2 v3 v4 v5:Value):World:=
 Ql (Ql (Ql (Ql (Ql (Ql W (aD B 0) v0) (aD B 1) v1) (aD B 2) v2) (aD B 3) v3) (aD B 4) v4) (aD B 5) v5
def World.Em{a0 a1 a2 a3 a4 a5:Value}(h:GB W B t #[a0,a1,a2,a3,a4,a5])(v0 v1 v2 v3 v4 v5:Value):GB (World.Hu W B v0 v1 v2 v3 v4 v5) B t #[v0,v1,v2,v3,v4,v5]:=
 (((((h.set 0 v0).set 1 v1).set 2 v2).set 3 v3).set 4 v4).set 5 v5
def World.yG(W:U)(B:Nat)(v0 v1 v2 v3 v4 v5:Value):Kept (λx=>x≠B) W (World.Hu W B v0 v1 v2 v3 v4 v5):=by unfold World.Hu;exact(((((ZG _ (aD B 0) _ (λh=>h rfl)).trans (ZG _ (aD B 1) _ (λh=>h rfl))).trans (ZG _ (aD B 2) _ (λh=>h rfl))).trans (ZG _ (aD B 3) _ (λh=>h rfl))).trans (ZG _ (aD B 4) _ (λh=>h rfl))).trans (ZG _ (aD B 5) _ (λh=>h rfl))
def Kz{v0 v1 v2 v3 v4 v5:Value}(h:GB W B 65 #[v0,v1,v2,v3,v4,v5]):(loadVar 65 (aD B 0)).run V W=.ok (Qr #[v0,v1,v2,v3,v4,v5]) W:=by obtain⟨a,b,d,e,f,g⟩:=h.k6;simp[go_sem,a,b,d,e,f,g]
def Dl(f:bq)(ts:Qu af)(q:ae)(n:ag)(ao:JW)(cap:Nat)(ps:Qu aC)(w:U)(ok:Ok ts q)(hf:f.At ts q w)(hcl:n.cl.At w)(hco:n.co.At w)(hcap:N n.co.xs<=n.co.cap)(hp:PartsAt w ao ps)(hk1:1<=n.kind)(hk10:n.kind<=10)
  (hl:N ps=arity n.kind) (hsm:aQ (N q.wh) n.cl.xs) (SQ:n.kind=1->0<=n.source/\n.source<N q.src.xs) (hps:∀i,i<N ps->(E ps i aR).sources<2 ^ (N q.src.xs)/\(E ps i aR).clauses<2 ^ (N q.wh)) :
  Calls V 51 #[Qr (f.cells ts q),Qr n.cells,Z ao (N ps) cap] w λe w'=>∃p:aC,e=Qs (Qr p.cells)/\p.d=mK ts q n (E ps 0 aR).d (E ps 1 aR).d/\p.Ok w'/\p.sources<2 ^ (N q.src.xs)/\p.clauses<2 ^ (N q.wh)/\(p.order=n.co∨p.order=(E ps 0 aR).order∨p.order=⟨Qp,0,[]⟩)/\Bw w w':=by
 have bN:arity n.kind<=2:=by unfold arity;split <;> (try split) <;> omega
 have dm:=hp.1;have aB:∀i,N ps<=i->E ps i aR=aR:=λi hi=>by simp[List.getD,hi]
 obtain⟨ow,ax⟩:∃ow,ow=(if n.kind=1 then 2 ^ n.source.toNat else 0):=⟨_,rfl⟩;have En:=ok.small;have Eo:=ok.kE;have UM:ow<2 ^ (N q.src.xs):=by
  rw[ax];split
  .rename_i h
   have:=SQ h;exact Xg X X
  .exact Nat.two_pow_pos _
 obtain⟨sc,ay⟩:=eY (aL n.cl.xs);have UN:sc<2 ^ (N q.wh):=by rw[ay];exact yT hsm
 obtain⟨v,Mo⟩:=eY (AZ ow (λi=>(E ps i aR).sources));obtain⟨A,UO⟩:=eY (AZ sc (λi=>(E ps i aR).clauses));have JZ:Qk (v 0=ow):=by show _=_;rw[Mo];rfl
 have UQ:=Zh (by  rw[UO];rfl:A 0=sc)
 have Ml:Qk (∀k,v (k+1)=v k|||(E ps k aR).sources):=λk=>by rw[Mo];rfl
 have GQ:Qk (∀k,A (k+1)=A k|||(E ps k aR).clauses):=λk=>by rw[UO];rfl
 have wZ:Qk (∀k,k<=N ps->v k<2 ^ (N q.src.xs)):=λk l=>by rw[Mo];exact vJ UM k (λi hi=>(hps i X).1)
 have nT:Qk (∀k,k<=N ps->A k<2 ^ (N q.wh)):=λk l=>by rw[UO];exact vJ UN k (λi hi=>(hps i X).2)
 have aa:∀{x m:Nat},m<=64->x<2 ^ m->x<18446744073709551616:=λhm hx=>ZC hx (ZO (n:=2) X hm);have aA:∀{x:Nat},x<18446744073709551616->x<=aH:=λh=>by unfold aH;omega
 have sW:=Zh (by  rw[Mo];exact yF _ _ X (λi hi=>by rw[aB i hi];rfl):v (N ps)=ow|||(E ps 0 aR).sources|||(E ps 1 aR).sources)
 have aX:=Zh (by  rw[UO];exact yF _ _ X (λi hi=>by rw[aB i hi];rfl):A (N ps)=sc|||(E ps 0 aR).clauses|||(E ps 1 aR).clauses)
 have WG:Qk (∀(o:KJ) (z:Nat),o=(if n.kind=6 then n.co.xs else if 2<=n.kind/\n.kind<=5 then (E ps 0 aR).order.xs else [])->z=(if di n.kind=T then (E ps 0 aR).size else fK ts q (v (N ps)) (A (N ps)))->
   bZ.mk n.kind (v (N ps)) (A (N ps)) o z (iE n.kind z (E ps 0 aR).cost (E ps 0 aR).size (E ps 1 aR).cost (E ps 1 aR).size)=mK ts q n (E ps 0 aR).d (E ps 1 aR).d):=λo z ho hz=>by unfold mK;rw[ho,hz,sW.o,aX.o,ax,ay];rfl
 have aF:Qk (∀x,Cb 85 #[Qr n.cells] x (I Qn ((ow:Nat):Int))):=λx=>by rw[ax];exact vI n x (λh=>⟨(SQ h).1,Qj ((SQ h).2)⟩)
 have au:Qk (∀x,Bw w x->Ce 86 #[n.cl.val] x (I Qn ((sc:Nat):Int))):=λx hx=>by rw[ay];exact yj n.cl.ad n.cl.cap n.cl.xs x (Q7 hx hcl) (λy hy=>⟨(hsm y hy).1,Qj ((hsm y hy).2)⟩)
 have TS:Qk (∀(b x y:Nat) (W:U),Qm W (aD b 0)=O (I Qn (x:Int))->Qm W (aD b 1)=O (I Qn (y:Int))->x<18446744073709551616->y<18446744073709551616->Ce 74 #[Z (O (aD b 0)) 2 2] W (I Qn ((x|||y:Nat):Int))):=λb x y W h0 h1 hx hy=>nN b x y W h0 h1 hx hy;have BS:Qk (∀(o:ai) (x:U),Bw w x->Calls V 87 #[Qr (f.cells ts q),Qr #[I J n.kind,I Qn (v (N ps):Int),I Qn (A (N ps):Int),o.val,I Qn 0,I Qn 0],Z ao (N ps) cap] x λe w'=>e=Qs (I Qn (((if di n.kind=T then (E ps 0 aR).size else fK ts q (v (N ps)) (A (N ps))):Nat):Int))/\Bw x w'):=λo x hx=>
  Dk f ts q ⟨n.kind,v (N ps),A (N ps),o,0,0⟩ ao cap ps x ok (hf.below hx) (hp.below hx) (wZ.o _ (Q6 _)) (nT.o _ (Q6 _)) (λh=>by
   have h2:7<=n.kind:=by unfold di at h;simp at h;omega
   rw[hl];unfold arity;rw[Zf X,Zf X];omega)
 obtain⟨Zq,hZ⟩:∃Zq,Zq=(if di n.kind=T then (E ps 0 aR).size else fK ts q (v (N ps)) (A (N ps))):=⟨_,rfl⟩;have aG:Zq<=aH:=by
  rw[hZ];split
  .rename_i h
   have h2:7<=n.kind:=by unfold di at h;simp at h;omega
   exact(hp.2 0 (by rw[hl];unfold arity;rw[Zf X,Zf X];omega)).2.size
  .exact Kv _ _ _ _
 rw[<-hZ]at BS;have Uu:Qk (∀(o:ai) (x:U),Bw w x->Cb 88 #[Qr #[I J n.kind,I Qn (v (N ps):Int),I Qn (A (N ps):Int),o.val,I Qn (Zq:Int),I Qn 0],Z ao (N ps) cap] x (I Qn (iE n.kind Zq (E ps 0 aR).cost (E ps 0 aR).size (E ps 1 aR).cost (E ps 1 aR).size:Nat))):=λo x hx=>
  De ⟨n.kind,v (N ps),A (N ps),o,Zq,0⟩ ao cap ps x (hp.below hx) aG (λh=>by have h:n.kind≠1:=h;rw[hl];unfold arity;rw[Zf h];split <;> omega) (λh3 h5=>by have h3:3<=n.kind:=h3;have h5:n.kind<=5:=h5;rw[hl];unfold arity;rw[Zf X,Q8 ⟨h3,h5⟩];omega)
 have BO:Qk (∀(o:ai) (W:U),o.At W->N o.xs<=o.cap->o.xs=(if n.kind=6 then n.co.xs else if 2<=n.kind/\n.kind<=5 then (E ps 0 aR).order.xs else [])->(o=n.co∨o=(E ps 0 aR).order∨o=⟨Qp,0,[]⟩)->Bw w W->
   ∃p:aC,Ending.returned (Qr #[I J n.kind,I Qn (v (N ps):Int),I Qn (A (N ps):Int),o.val,I Qn (Zq:Int),I Qn ((iE n.kind Zq (E ps 0 aR).cost (E ps 0 aR).size (E ps 1 aR).cost (E ps 1 aR).size:Nat):Int)])=Qs (Qr p.cells)/\p.d=mK ts q n (E ps 0 aR).d (E ps 1 aR).d/\p.Ok W/\p.sources<2 ^ (N q.src.xs)/\p.clauses<2 ^ (N q.wh)/\(p.order=n.co∨p.order=(E ps 0 aR).order∨p.order=⟨Qp,0,[]⟩)/\Bw w W):=λo W ho cO cZ df hb=>
  ⟨⟨n.kind,v (N ps),A (N ps),o,Zq,iE n.kind Zq (E ps 0 aR).cost (E ps 0 aR).size (E ps 1 aR).cost (E ps 1 aR).size⟩,rfl,WG.o o.xs Zq cZ hZ,⟨ho,cO,aA (aa En (wZ.o _ (Q6 _))),aA (aa Eo (nT.o _ (Q6 _))),aG,Kw _ _ _ _ _ _⟩,wZ.o _ (Q6 _),nT.o _ (Q6 _),df,hb⟩
 have UR:Qk (∀k,k<=N ps->v k<18446744073709551616):=λk l=>aa En (wZ.o k l);have UT:Qk (∀k,k<=N ps->A k<18446744073709551616):=λk l=>aa Eo (nT.o k l);have UU:Qk (∀k,k<N ps->(E ps k aR).sources<18446744073709551616/\(E ps k aR).clauses<18446744073709551616):=λk l=>⟨aa En (hps k l).1,aa Eo (hps k l).2⟩;have aZ:Qk (2<=n.kind/\n.kind<=5->0<N ps):=λh=>by rw[hl];unfold arity;rw[Zf X];split <;> omega
 generalize iE n.kind Zq (E ps 0 aR).cost (E ps 0 aR).size (E ps 1 aR).cost (E ps 1 aR).size=CT at*;have HP:Qk _:=hp;have jO:Qk _:=hco;have bf:=Zh hcap;obtain⟨v0,v1,v2,v3,v4,v5,v6,v7,v8,v9,bP,bQ,bR,jW,-⟩:=dX f ts q;rw[jW]at BS ⊢;clear WG wZ nT sW aX hZ aG aa hps SQ hsm hl hf hcl hco hcap hp ok ax ay Mo UO UM UN jW aB bN En Eo hk1 hk10;obtain⟨a,nl,nr,bS,⟨ca,cc,cl⟩,key,⟨da,dc,co⟩⟩:=n;unfold ag.cells ai.val at*;simp only at*;obtain⟨w1,bT,hk1,aN⟩:=aY w #[v0,v1,v2,v3,v4,v5,v6,v7,v8,v9,bP,bQ,bR] 60;obtain⟨w2,bU,aO,aP⟩:=aY w1 #[I J a,I J nl,I J nr,I J bS,Z ca (N cl) cc,I J key,Z da (N co) dc] 52;obtain⟨w3,bW,bF,bG⟩:=aY w2 #[I J 0,I Qn 0,I Qn 0,Z Qp 0 0,I Qn 0,I Qn 0] 65;have aI:=bF;have ak:=ah aO aI;have bg:=ah hk1 ak;have iU:=aN.of (ak.block _ aN.lt);obtain⟨dZ,fq,gm,fD,fE,gp,gq,mi,mg,mh,fP,jc,fQ⟩:=iU.k13;have oC:=aP.of (aI.block _ aP.lt);obtain⟨vB,uZ,ve,CZ,vg,Db,Hm⟩:=oC.k7;have Mk:=bG;have Q:=Zh bg;have BU:Qk _:=Mk;have bO:=Zh (ZB hk1.size aO.size);clear hk1 aO bF aN aP bG iU oC Mk bg ak aI;go_enter func51,ntmps51;go_upto_region 1 with fail;go_cut [7] from 10 to 17 (λc wx=>∃B,c=Y (O (aD B 0))/\M (H w3)<=B/\GB wx B 65 #[I J a,I Qn (ow:Int),I Qn (sc:Int),Z Qp 0 0,I Qn 0,I Qn 0]/\Bw w3 wx)
 case first=>
  refine wH w3 λg=>?_;refine Ww 0 g ?_;refine wA2 4 g ?_;refine wJ 3 8 (λK j=>?_) λK j=>?_
  .skip;go_simp;refine Xx (aF.o _) ?_;rintro e R ⟨rfl,az⟩;refine oT j g az λg=>?_
   clear j K;have D:=g;refine wJ 6 8 (λK j=>?_) λK j=>?_
   .skip;go_simp;refine Xx (au.o _ (Q.o.trans (g.mono Q.o.size))) ?_;rintro e wz ⟨rfl,u⟩;have u:=u.symm;subst u;refine j.o _ _ g λg=>?_
    clear j K;refine IG 7 g ?_;refine wR 8 λK j=>?_;go_simp;refine oA j g λg=>?_;clear j K;refine wR 9 λK j=>?_;go_simp;refine j.o _ _ (D.trans ((bz _ _).mono D.size)) (λg=>?_);clear j K;refine wD ?_;try simp only[pU]
    go_wp2_with fail;go_meet;exact⟨M (H R),rfl,D.size,iB R _,g⟩
   .skip;go_simp;refine oA j g λg=>?_
    clear j K;refine wR 6 λK j=>?_;go_simp;refine Xx (au.o _ (Q.o.trans (g.mono Q.o.size))) ?_;rintro e wz ⟨rfl,u⟩;have u:=u.symm;subst u;refine j.o _ _ g λg=>?_;clear j K;refine IG 7 g ?_;refine wR 9 λK j=>?_;go_simp;refine j.o _ _ (D.trans ((bz _ _).mono D.size)) (λg=>?_);clear j K;refine wD ?_;try simp only[pU]
    go_wp2_with fail;go_meet;exact⟨M (H R),rfl,D.size,iB R _,g⟩
  .skip;go_simp;refine oA j g λg=>?_
   clear j K;refine wR 3 λK j=>?_;go_simp;refine Xx (aF.o _) ?_;rintro e R ⟨rfl,az⟩;refine oT j g az λg=>?_;clear j K;have D:=g;have r:=(show GB (w3.drew.alloc (.cells #[I J 0,I Qn 0,I Qn 0,Z Qp 0 0,I Qn 0,I Qn 0] 65)) (M (H w3)) 65 #[I J 0,I Qn 0,I Qn 0,Z Qp 0 0,I Qn 0,I Qn 0] from iB w3.drew _).of (az.block _ (by show M (H w3)<_;simp));have z0:=r.at 0;have y0:=r.frozen 0;have z1:=r.at 1;have y1:=r.frozen 1;have z2:=r.at 2;have y2:=r.frozen 2;have z3:=r.at 3;have y3:=r.frozen 3;have z4:=r.at 4;have y4:=r.frozen 4;have z5:=r.at 5;have y5:=r.frozen 5;refine wR 6 λK j=>?_;go_simp;refine Xx (au.o _ (Q.o.trans (g.mono Q.o.size))) ?_;rintro e wz ⟨rfl,u⟩;have u:=u.symm;subst u;refine j.o _ _ g λg=>?_;clear j K;refine IG 7 g ?_;refine wR 9 λK j=>?_;go_simp;refine j.o _ _ (D.trans ((World.yG R (M (H w3)) (I J a) (I Qn (ow:Int)) (I Qn (sc:Int)) (Z Qp 0 0) (I Qn 0) (I Qn 0)).below (B:=M (H w3)) D.size (λb hb=>Nat.ne_of_lt hb))) (λg=>?_);clear j K;refine wD ?_;try simp only[pU]
   go_wp2_with fail;go_meet;exact⟨M (H w3),rfl,Q6 _,World.Em r (I J a) (I Qn (ow:Int)) (I Qn (sc:Int)) (Z Qp 0 0) (I Qn 0) (I Qn 0),g⟩
 case rest=>
 obtain⟨B,rfl,hB,bH,aS⟩:=hcut;obtain⟨w4,bX⟩:=eY (wc);subst bX;have bn:=hd bH;have A7:Qk (∀x,Kept (λb=>b≠B) w4 x->Bw w3 x):=λx l=>aS.trans (l.below aS.size (λb hb=>X));have IY:Qk (∀x,Kept (λb=>b≠B) w4 x->Bw w x):=λx l=>Q.o.trans ((A7.o x l).mono Q.o.size);clear bH aS hB aF au bT bU bW;go_wp2;go_loopw [20] (λiv wr=>∃k:Nat,k<=N ps/\iv=I J k/\Qk (GB wr B 65 #[I J a,I Qn (v k:Int),I Qn (A k:Int),Z Qp 0 0,I Qn 0,I Qn 0])/\Qk (Kept (λb=>b≠B) w4 wr)) (λiv _=>N ps-(intOf iv).toNat)
 case atStart=>exact⟨0,ZP _,rfl,by rw[JZ.o,UQ.o];exact bn.o,Kept.refl _ _⟩
 case round=>
  obtain⟨k,l,rfl,HG,wO⟩:=hrel;by_cases aW:k<N ps
  .obtain⟨⟨pb,po,rfl,c0,c1,c2,c3,c4,c5⟩,-⟩:=(PartsAt.below (IY.o wr wO.o) HP.o).2 k aW;obtain⟨bI,bJ⟩:=UU.o k aW;have bu:=UR.o k l;have ak:=UT.o k l;obtain⟨aT,aU⟩:=bV (Ml.o k) (GQ.o k);obtain⟨⟨G,L,P⟩,jP⟩:∃o,o=(E ps k aR).order:=⟨_,rfl⟩
   rw[<-jP]at c3;unfold ai.val at c3;simp only at c3;clear jP;generalize (E ps k aR).kind=pk,(E ps k aR).sources=ss,(E ps k aR).clauses=cs,(E ps k aR).size=pz,(E ps k aR).cost=pt at*;have Ep:Qk (∀x,x=v (k+1)->∀y,y=A (k+1)->∀wy,GB wy B 65 #[I J a,I Qn (x:Int),I Qn (y:Int),Z Qp 0 0,I Qn 0,I Qn 0]->Kept (λb=>b≠B) wr wy->GB wy B 65 #[I J a,I Qn (v (k+1):Int),I Qn (A (k+1):Int),Z Qp 0 0,I Qn 0,I Qn 0]/\Kept (λb=>b≠B) w4 wy):=λx hx y hy wy h1 h2=>⟨by rw[<-hx,<-hy];exact h1,wO.o.trans h2⟩;obtain⟨s1,Rl⟩:=eY (v (k+1));obtain⟨t1,Rm⟩:=eY (A (k+1));have bA:=Zh (Ep.o s1 Rl t1 Rm);rw[<-Rl]at aT;rw[<-Rm]at aU;generalize v k=s,A k=t at*;clear Ep Rl Rm;obtain⟨wb,dw,kb,gi⟩:=aY wr #[I J pk,I Qn (ss:Int),I Qn (cs:Int),Z G (N P) L,I Qn (pz:Int),I Qn (pt:Int)] 65;have gb:=HG.o.of (kb.block _ HG.o.lt);have dn:=HG.o.lt;obtain⟨wu,dx,ku,gu⟩:=aY wb #[I Qn (s:Int),I Qn (ss:Int)] 56;have Yb:=gb.of (ku.block _ gb.lt);have bB:=gi.of (ku.block _ gi.lt);have hU:=TS.o (M (H wb)) s ss wu (gu.cell 0) (gu.cell 1) bu bI;rw[<-aT.o]at hU;obtain⟨wv,bK⟩:=eX (Ql wu (aD B 1) (I Qn (s1:Int)));have kv:Kept (λb=>b≠B) wu wv:=by rw[<-bK];exact ZG _ _ _ (λh=>h rfl)
   have Yc:GB wv B 65 #[I J a,I Qn (s1:Int),I Qn (t:Int),Z Qp 0 0,I Qn 0,I Qn 0]:=by rw[<-bK];exact Yb.set 1 _
   have bC:=bB.keep kv (by show M (H wr)≠B;omega);obtain⟨wx,dz,kx,gx⟩:=aY wv #[I Qn (t:Int),I Qn (cs:Int)] 56;have Yd:=Yc.of (kx.block _ Yc.lt);have aJ:=TS.o (M (H wv)) t cs wx (gx.cell 0) (gx.cell 1) ak bJ;rw[<-aU.o]at aJ;have bD:GB (Ql wx (aD B 2) (I Qn (t1:Int))) B 65 #[I J a,I Qn (s1:Int),I Qn (t1:Int),Z Qp 0 0,I Qn 0,I Qn 0]:=Yd.set 2 _;have ky:Kept (λb=>b≠B) wr (Ql wx (aD B 2) (I Qn (t1:Int))):=((ZE kb (λb hb _=>hb)).trans ((ZE ku (λb hb _=>hb)).trans (kv.trans (ZE kx (λb hb _=>hb))))).trans (ZG _ _ _ (λh=>h rfl));have cK:=Zh (bA.o _ bD ky);have b1:=gb.at 1;have b2:=gi.at 1;have b3:=Yb.at 1;have b4:=Yb.frozen 1;have b5:=Yc.at 2;have b6:=bC.at 2;have b7:=Yd.at 2;have b8:=Yd.frozen 2;clear bA bD ky kb gi gb ku gu Yb bB kv Yc bC kx gx Yd HG wO aT aU bI bJ bu ak;go_wp2_with fail;refine hU.mono ?_;rintro e wq ⟨rfl,aj⟩;have aj:=aj.symm;subst aj;clear hU;go_wp2_with fail;refine aJ.mono ?_;rintro e wq ⟨rfl,aj⟩;have aj:=aj.symm;subst aj;clear aJ;go_wp2;go_roundw
   case rel=>exact⟨k+1,X,Qf,cK.o.1,cK.o.2⟩
   case measure=>exact Qw
  .obtain rfl:k=N ps:=X
   obtain⟨R,ML⟩:=eY (wr);subst ML;clear aW l JZ UQ Ml GQ TS UR UT UU;generalize v (N ps)=S,A (N ps)=C at*;have e0:=cB (A7.o R wO.o) vB;have b3:=HG.o.at 3;have f3:=HG.o.frozen 3;rcases (by omega:a=6∨a=2∨a=3∨a=4∨a=5∨(¬a=6/\¬(2<=a/\a<=5))) with l|l|l|l|l|l
   all_goals
    first
    |have h6:a=6:=l
     have e6:=cB (A7.o R wO.o) Hm;have HE:=Zh (λ(W:U) (hB:Bw w W)=>BO.o ⟨da,dc,co⟩ W (Q7 hB jO.o) bf.o (by rw[Q8 h6]) (.inl rfl) hB);obtain⟨G,ha⟩:=eY (da);obtain⟨L,hc⟩:=eY (dc);obtain⟨P,hx⟩:=eY (co);subst ha hc hx;rw[l]at e0;clear h6 l;obtain⟨w6,zO⟩:=eX (Ql R (aD B 3) (Z G (N P) L));have k6:Kept (λb=>b≠B) R w6:=by rw[<-zO];exact ZG _ _ _ (λh=>h rfl)
     have g6:GB w6 B 65 #[I J a,I Qn (S:Int),I Qn (C:Int),Z G (N P) L,I Qn 0,I Qn 0]:=by rw[<-zO];exact HG.o.set 3 _
    |have av:2<=a/\a<=5:=X
     obtain⟨⟨pb,po,rfl,-,-,-,c3,-,-⟩,aV⟩:=HP.o.2 0 (aZ.o av);rw[Xr,Z4]at c3;have dh:=aZ.o av;obtain⟨⟨G,L,P⟩,jP⟩:∃o,o=(E ps 0 aR).order:=⟨_,rfl⟩;have h1:=aV.order;have h2:=aV.cap;rw[<-jP]at h1 h2 c3;have HE:=Zh (λ(W:U) (hB:Bw w W)=>BO.o ⟨G,L,P⟩ W (Q7 hB h1) h2 (by rw[Zf X,Q8 av];exact congrArg ai.xs jP) (.inr (.inl jP)) hB);simp only at c3;have c3:=cB (IY.o R wO.o) c3;rw[l]at e0;clear jP l av aV h1 h2;obtain⟨w6,zO⟩:=eX (Ql R (aD B 3) (Z G (N P) L));have k6:Kept (λb=>b≠B) R w6:=by rw[<-zO];exact ZG _ _ _ (λh=>h rfl)
     have g6:GB w6 B 65 #[I J a,I Qn (S:Int),I Qn (C:Int),Z G (N P) L,I Qn 0,I Qn 0]:=by rw[<-zO];exact HG.o.set 3 _
    |have j2:(a==2)=false:=by rw[Xw];omega
     have j3:(a==3)=false:=by rw[Xw];omega
     have j4:(a==4)=false:=by rw[Xw];omega
     have j5:(a==5)=false:=by rw[Xw];omega
     have j6:(a==6)=false:=by rw[Xw];omega
     have HE:=Zh (λ(W:U) (hB:Bw w W)=>BO.o ⟨Qp,0,[]⟩ W ⟨Qb,λi hi=>absurd hi Qb⟩ (Q6 _) (by rw[Zf l.1,Zf l.2]) (.inr (.inr rfl)) hB);obtain⟨G,L,P,HC⟩:∃(G:JW) (L:Nat) (P:KJ),Qk (G=Qp/\L=0/\P=[]):=⟨_,_,_,rfl,rfl,rfl⟩;have g6:GB R B 65 #[I J a,I Qn (S:Int),I Qn (C:Int),Z G (N P) L,I Qn 0,I Qn 0]:=by obtain⟨rfl,rfl,rfl⟩:=HC.o;exact HG.o
     obtain⟨w6,zO⟩:=eY (R);subst zO;have k6:Kept (λb=>b≠B) w6 w6:=Kept.refl _ _;clear l b3 f3
    have K6:=Zh (wO.o.trans k6);have UW:=IY.o w6 K6.o;have aK:=A7.o w6 K6.o;obtain⟨d0,d1,d2,d3,d4,d5,d6,d7⟩:=oK aK dZ fq gm fD fE gp gq mi;obtain⟨d8,d9,bY,cu,cz⟩:=gM aK mg mh fP jc fQ;obtain⟨p0,p1,p2,p3,p4,p5⟩:=g6.k6;have G6:=hd g6;have bE:=BS.o ⟨G,L,P⟩ w6 UW;clear k6 g6 aK UW BS bn;go_wp2_with fail;refine bE.mono ?_;rintro e w7 ⟨rfl,lu⟩;have g7:=G6.o.of (lu.block _ G6.o.lt);obtain⟨w8,bL⟩:=eX (Ql w7 (aD B 4) (I Qn (Zq:Int)));have g8:GB w8 B 65 #[I J a,I Qn (S:Int),I Qn (C:Int),Z G (N P) L,I Qn (Zq:Int),I Qn 0]:=by rw[<-bL];exact g7.set 4 _
    have K8:Qk (Kept (λb=>b≠B) w4 w8):=K6.o.trans ((ZE lu (λb hb _=>hb)).trans (by rw[<-bL];exact ZG _ _ _ (λh=>h rfl)));have q4:=g7.at 4;have f4:=g7.frozen 4;obtain⟨r0,r1,r2,r3,r4,r5⟩:=g8.k6;have G8:=hd g8;have Dc:=Uu.o ⟨G,L,P⟩ w8 (IY.o w8 K8.o);clear bE g7 g8 lu Uu d0 d1 d2 d3 d4 d5 d6 d7 d8 d9 bY cu cz p0 p1 p2 p3 p4 p5 e0;go_wp2_with fail;refine Dc.mono ?_;rintro e w9 ⟨rfl,UX⟩;have g9:=G8.o.of (UX.block _ G8.o.lt);obtain⟨wT,bM⟩:=eX (Ql w9 (aD B 5) (I Qn (CT:Int)));have gT:GB wT B 65 #[I J a,I Qn (S:Int),I Qn (C:Int),Z G (N P) L,I Qn (Zq:Int),I Qn (CT:Int)]:=by rw[<-bM];exact g9.set 5 _
    have KT:Kept (λb=>b≠B) w4 wT:=K8.o.trans ((ZE UX (λb hb _=>hb)).trans (by rw[<-bM];exact ZG _ _ _ (λh=>h rfl)));have q5:=g9.at 5;have f5:=g9.frozen 5;obtain⟨t0,t1,t2,t3,t4,t5⟩:=gT.k6;have aM:GB w3 (M (H w2)) 65 #[I J 0,I Qn 0,I Qn 0,Z Qp 0 0,I Qn 0,I Qn 0]:=BU.o;have gR:=aM.of ((A7.o wT KT).block _ aM.lt);have x0:=gR.at 0;have y0:=gR.frozen 0;have x1:=gR.at 1;have y1:=gR.frozen 1;have x2:=gR.at 2;have y2:=gR.frozen 2;have x3:=gR.at 3;have y3:=gR.frozen 3;have x4:=gR.at 4;have y4:=gR.frozen 4;have x5:=gR.at 5;have y5:=gR.frozen 5;have WM:Bw w (World.Hu wT (M (H w2)) (I J a) (I Qn (S:Int)) (I Qn (C:Int)) (Z G (N P) L) (I Qn (Zq:Int)) (I Qn (CT:Int))):=(IY.o wT KT).trans ((World.yG _ _ _ _ _ _ _ _).below (IY.o wT KT).size (λb hb=>Qj bO.o));obtain⟨iK,cK⟩:=bV (Kz (World.Em gR (I J a) (I Qn (S:Int)) (I Qn (C:Int)) (Z G (N P) L) (I Qn (Zq:Int)) (I Qn (CT:Int)))) (HE.o (World.Hu wT (M (H w2)) (I J a) (I Qn (S:Int)) (I Qn (C:Int)) (Z G (N P) L) (I Qn (Zq:Int)) (I Qn (CT:Int))) WM);unfold World.Hu at iK cK;clear Dc g9 gT KT aM gR WM UX BO r0 r1 r2 r3 r4 r5;go_wp2;try obtain⟨rfl,rfl,rfl⟩:=HC.o
    exact Xy (xJ (p:=6) rfl rfl iK.o) rfl cK.o
