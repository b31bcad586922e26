import Derived.Test.YtfnnchibngigdaaGreatDoorS12
set_option linter.all false
set_option maxRecDepth 100000
set_option maxHeartbeats 0
namespace Go.Proofs.Zz
open Go.RowKit Go.Shelf Go.Proofs.Tryz
open List renaming length->N,getD->E
open Go.Value renaming slice->Z,int->I,pointer->Y,bool->Qo,agg->Qr
open Go.Proofs.Tryz renaming prog->V
open Option renaming some->O
open Go.IntKind renaming i64->J
open Bool renaming false->F,true->T
open Go renaming World->U,Value->Qa
open Go.World renaming heap->H,setCell->Ql,cell?->Qm
open _root_.Array renaming size->M
open Go.RowKit renaming Hid->Qk
open Go.Obj renaming cells->Qq
open Go.Ending renaming returned->Qs
variable {W Xq w w7 wd:U} {ao:JW} {xs:KJ} {G b bp i k lo o t tG:Nat} {tI tN:TypeId} {c c7:Array Qa} {ns pl:Qu ag} {α:Type}
def vZ(h:IntsAt w ao xs)(n:Nat):IntsAt (w.drewN n) ao xs:=h.below (Zc (Q5 _ _) _)
def jI(ao bo:JW)(cap cap':Nat)(xs:KJ)(w:U)(n m:Nat)(hx:IntsAt w ao xs)(hy:IntsAt w bo xs) :
  Calls V 39 #[Z ao (N xs) cap,Z bo (N xs) cap'] (w.drewN (n+m)) λe a=>e=Qs (Qo T)/\∃m',a = w.drewN (n+m'):=
 (qW ao bo cap cap' xs (w.drewN (n+m)) (vZ hx _) (vZ hy _)).mono λ_ _ ⟨he,k',hk'⟩=>⟨he,m+k',by rw[hk',World.drewN_drewN,Nat.add_assoc]⟩
def oJ(ao bo:JW)(cap cap':Nat)(ns ms:Qu ag)(w:U)(hx:bL w ao ns)(hy:bL w bo ms)(he:N ns=N ms)(hs:∀i,i<N ns->(E ns i nz).same (E ms i nz)) :
  Cb 19 #[Z ao (N ns) cap,Z bo (N ms) cap'] w (Qo T):=by
 have hl:=hx.1;rw[<-he];have HE:Qk (N ns=N ms):=he;clear he;have aa:((N ns:Int) != N ns)=false:=Qb;go_enter func19,ntmps19;go_wp2;go_loopw [5] (λi wr=>∃k:Nat,k<=N ns/\i=I J k/\∃n,wr=w.drewN n) (λi _=>N ns-(intOf i).toNat)
 case atStart=>exact⟨0,ZP _,rfl,0,rfl⟩
 case round=>
  obtain⟨k,hk,rfl,n,rfl⟩:=hrel;by_cases a:k<N ns
  .obtain⟨b,ae,rfl,c0,c1,c2,c3,y,c5,z,d,e⟩:=hx.2 k a;obtain⟨b',A,rfl,d0,d1,d2,d3,B,d5,C,f,g⟩:=hy.2 k (Qj HE.o);obtain⟨D,G,K,L,P,Q,R⟩:=hs k a;clear hx hy hs;generalize E ns k nz=x1,E ms k nz=x2 at*;obtain⟨S,W,ra,sa,⟨YA,YB,j⟩,ya,⟨l,p,q⟩⟩:=x1;obtain⟨kb,lb,rb,sb,⟨r,t,af⟩,yb,⟨u,v,ah⟩⟩:=x2;unfold ai.At at d e f g;unfold ai.val at y z B C;simp only at D G K L P Q R d e f g c0 c1 c2 c3 y c5 z d0 d1 d2 d3 B d5 C;subst D G K L P Q R;have t0:(S != S)=false:=Qb
   have t1:(W != W)=false:=Qb;have t2:(ra != ra)=false:=Qb;have t3:(sa != sa)=false:=Qb;have t5:(ya != ya)=false:=Qb;go_wp2;refine wp_region_quiet_lit Qe Qe ?_
   repeat (go_big_quiet_step (fail))
   go_big_quiet_want;refine⟨Qo T,λx hx=>?_,?_⟩
   .obtain⟨m,rfl⟩:=hx;have hC:=jI YA r YB t j w n m d f;go_simp
   simp only[pA,sB,sC];go_big_quiet_on
   repeat (go_big_quiet_step (fail))
   refine Xo ?_;intro x hx;obtain⟨m,rfl⟩:=hx;rw[World.drewN_drewN];generalize n+m=n';go_wp2;refine wp_region_quiet_lit Qe Qe ?_
   repeat (go_big_quiet_step (fail))
   go_big_quiet_want;refine⟨Qo T,λx hx=>?_,?_⟩
   .obtain⟨m,rfl⟩:=hx;have hC:=jI l u p v q w n' m e g;go_simp
   simp only[pA,sB,sC];go_big_quiet_on
   repeat (go_big_quiet_step (fail))
   refine Xo ?_;intro x hx;obtain⟨m,rfl⟩:=hx;rw[World.drewN_drewN];generalize n'+m=n2;go_wp2;go_quiet (fail);go_wp2;go_roundw
   case rel=>exact⟨k+1,X,Qf,_,rfl⟩
   case measure=>exact Qw
  .go_wp2;go_ret;exact⟨rfl,Zc (Q5 _ _) _⟩
def La(d:Nat)(a b c e:Int)(w:U):(Op.equalIn (d+2) 46 (Qr #[.int J a,.int J b,.int J c,.int J e]) (Qr #[.int J a,.int J b,.int J c,.int J e])).run V w=.ok T w:=by have f:=underlying46;have g:=λ(x:Int)=>run_equalIn_int (P:=V) w d 3 J J x x underlying3;rw[Op.equalIn];simp only[Sem.run_bind,run_underlying f,Result.andThen_ok];simp[go_sem,Std.Legacy.Range.forIn_eq_forIn_range',Std.Legacy.Range.size,List.range',g]
def lg(ts:Qu af)(j:Nat)(h:j<6):(fI ts)[N ts*6+j]? = it[j]?:=by unfold fI;rw[Zp,gz _ 6 eQ,XG (by simpa [it] using h)]
def lh(ts:Qu af)(j:Nat)(_h:j<6):(fI ts)[(N ts+1)*6+j]? = it[j]?:=by unfold fI;rw[Zp,show (N ts+1)*6+j=N ts*6+(6+j) by omega,gz _ 6 eQ,Zo (by simp[it])];simp[it]
def nG(cs:Qu aF)(j:Nat)(h:j<5):(bN cs)[N cs*5+j]? = ic[j]?:=by unfold bN;rw[Zp,gz _ 5 eP,XG (by simpa [ic] using h)]
def nH(cs:Qu aF)(j:Nat)(_h:j<5):(bN cs)[(N cs+1)*5+j]? = ic[j]?:=by unfold bN;rw[Zp,show (N cs+1)*5+j=N cs*5+(5+j) by omega,gz _ 5 eP,Zo (by simp[ic])];simp[ic]
def jQ:ag:=⟨77777,0,0,0,⟨none,0,[]⟩,0,⟨none,0,[]⟩⟩
def sj:aF:=⟨F,77777,0,F,0⟩
def wF(w:U):IntsAt w none []:=⟨Qb,λi a=>absurd a Qb⟩
def Ii(h:GB w b t (nk++nk).toArray):bL w (O (aD b 0)) [jQ,jQ]:=by
 refine⟨Qb,λi d=>?_⟩;have a:i<2:=by simpa using d
 rcases (by omega:i=0∨i=1) with rfl|rfl
 .exact⟨b,0,rfl,h.cell _,h.cell _,h.cell _,h.cell _,h.cell _,h.cell _,h.cell _,wF w,wF w⟩
 .exact⟨b,0,rfl,h.cell _,h.cell _,h.cell _,h.cell _,h.cell _,h.cell _,h.cell _,wF w,wF w⟩
def EM(h:GB w b t ic.toArray):bY w (O (aD b 0)) [sj]:=by
 refine⟨Qb,λi d=>?_⟩;have a:i=0:=by simpa using d
 subst a;exact⟨b,0,rfl,h.cell _,h.cell _,h.cell _,h.cell _,h.cell _⟩
def EN{k1 k2:Nat}(h0:Qm w (aD b o)=O (Z (O (aD k1 0)) 1 1))(h1:Qm w (aD b (o+1))=O (Z (O (aD k2 0)) 1 1))(hk1:GB w k1 t ic.toArray)(hk2:GB w k2 t ic.toArray) :
  bM w (O (aD b o)) [⟨O (aD k1 0),1,[sj]⟩,⟨O (aD k2 0),1,[sj]⟩]:=by
 refine⟨Qb,λi d=>?_,λi d=>?_⟩
 .have a:i<2:=by simpa using d
  rcases (by omega:i=0∨i=1) with rfl|rfl
  .exact⟨b,o,rfl,h0⟩
  .exact⟨b,o,rfl,h1⟩
 .have a:i<2:=by simpa using d
  rcases (by omega:i=0∨i=1) with rfl|rfl
  .exact EM hk1
  .exact EM hk2
theorem Lb(a b c d:Nat):∀i,i<[(⟨O (aD a 0),1,[sj]⟩:aA),⟨O (aD b 0),1,[sj]⟩].length->
  ([(⟨O (aD a 0),1,[sj]⟩:aA),⟨O (aD b 0),1,[sj]⟩].getD i lz).cs=([(⟨O (aD c 0),1,[sj]⟩:aA),⟨O (aD d 0),1,[sj]⟩].getD i lz).cs:=λi e=>by grind
section
def iO(c:Array Qa)(ns:Qu ag):Prop:=
 ∀k,k<N ns->c[k*7]? = O (I J (E ns k nz).kind)/\c[k*7+1]? = O (I J (E ns k nz).l)/\c[k*7+2]? = O (I J (E ns k nz).r)/\c[k*7+3]? = O (I J (E ns k nz).source)/\
  c[k*7+4]? = O (E ns k nz).cl.val/\c[k*7+5]? = O (I J (E ns k nz).key)/\c[k*7+6]? = O (E ns k nz).co.val
def yN(lo:Nat)(W:U)(tI:TypeId)(m n:ag):Prop:=
 ∃P Q,m=⟨n.kind,n.l,n.r,n.source,⟨O (aD P 0),N n.cl.xs+2,n.cl.xs⟩,n.key,⟨O (aD Q 0),N n.co.xs+2,n.co.xs⟩⟩/\lo<=P/\lo<=Q/\GB W P tI (aK n.cl.xs)/\GB W Q tI (aK n.co.xs)
def yN.kept{lo':Nat}{W':U}{m n:ag}(h:yN lo W tI m n)(hl:lo'<=lo)(hk:∀b,lo<=b->b<M (H W)->W'.heap[b]? = W.heap[b]?):yN lo' W' tI m n:=by obtain⟨P,Q,e,f,g,a,d⟩:=h;exact⟨P,Q,e,X,X,a.of (hk _ f a.lt),d.of (hk _ g d.lt)⟩
structure nI(lo:Nat)(W:U)(bp:Nat)(tN tI:TypeId)(pl ns:Qu ag):Prop where
 len:N ns=N pl+2
 blk:∃c,GB W bp tN c/\iO c ns
 zD:∀k,k<N pl->yN lo W tI (E ns k nz) (E pl k nz)
 i1:E ns (N pl) nz=jQ
 i2:E ns (N pl+1) nz=jQ
def nI.kept{lo lo':Nat}{W W':U}{bp:Nat}{tN tI:TypeId}{pl ns:Qu ag}(h:nI lo W bp tN tI pl ns)(hl:lo'<=lo)(hb:lo<=bp)(hk:∀b,lo<=b->b<M (H W)->W'.heap[b]? = W.heap[b]?):nI lo' W' bp tN tI pl ns:=by obtain⟨c,d,e⟩:=h.blk;exact⟨h.len,⟨c,d.of (hk _ hb d.lt),e⟩,λk a=>(h.zD k a).kept hl hk,h.i1,h.i2⟩
theorem iO.at(h:iO c ns){t:TypeId}(hb:GB W b t c)(hk:k<N ns) :
  Qm W (aD b (k*7))=O (I J (E ns k nz).kind)/\Qm W (aD b (k*7+1))=O (I J (E ns k nz).l)/\Qm W (aD b (k*7+2))=O (I J (E ns k nz).r)/\Qm W (aD b (k*7+3))=O (I J (E ns k nz).source)/\
  Qm W (aD b (k*7+4))=O (E ns k nz).cl.val/\Qm W (aD b (k*7+5))=O (I J (E ns k nz).key)/\Qm W (aD b (k*7+6))=O (E ns k nz).co.val:=by obtain⟨a,d,e,f,g,i,j⟩:=h k hk;exact⟨(hb.cell _).trans a,(hb.cell _).trans d,(hb.cell _).trans e,(hb.cell _).trans f,(hb.cell _).trans g,(hb.cell _).trans i,(hb.cell _).trans j⟩
def pK(l:List α)(n k:Nat)(z:α)(h:k<n):E (l.take n) k z=E l k z:=by simp_all
theorem yO{P:Nat}(h:GB W P tI (aK xs))(hl:N xs<=1152921504606846976):IntsAt W (O (aD P 0)) xs:=by refine⟨hl,λi a=>⟨P,0,rfl,?_⟩⟩;rw[ZQ,h.cell i];grind [aK,List.length_map]
def nI.nodes(h:nI lo W bp tN tI pl ns)(hp:bL wd ao pl):bL W (O (aD bp 0)) (ns.take (N pl)):=by
 have u:=h.len;have a:N (ns.take (N pl))=N pl:=Qg;refine⟨by rw[a];exact hp.1,λi d=>?_⟩;rw[a]at d;rw[pK _ _ _ _ d];obtain⟨c,f,g⟩:=h.blk;obtain⟨P,Q,e,_,_,j,k⟩:=h.zD i d;obtain⟨l,m,n,a3,a4,a5,p⟩:=g.at f (show i<N ns by omega);obtain⟨b,q,_,_,_,_,_,_,_,_,r,t⟩:=hp.2 i d;refine⟨bp,0,rfl,?_⟩;rw[ZQ];refine⟨l,m,n,a3,a4,a5,p,?_,?_⟩
 .rw[e];exact yO j r.1
 .rw[e];exact yO k t.1
def nI.same(h:nI lo W bp tN tI pl ns):∀i,i<N pl->(E (ns.take (N pl)) i nz).same (E pl i nz):=λi a=>by obtain⟨P,Q,e,_⟩:=h.zD i a;rw[pK _ _ _ _ a,e];exact⟨rfl,rfl,rfl,rfl,rfl,rfl,rfl⟩
theorem nI.acG(h:nI lo W bp tN tI pl ns):bL W (O (aD bp (N pl*7))) [jQ,jQ]:=by
 have m:=h.len;obtain⟨c,k,l⟩:=h.blk;refine⟨Qb,λi n=>?_⟩;have g:i<2:=X;have e:E ns (N pl+i) nz=[jQ,jQ].getD i nz:=by
  rcases (by omega:i=0∨i=1) with rfl|rfl
  .exact h.i1
  .exact h.i2
 obtain⟨a,b,d,a3,a4,a5,f⟩:=l.at k (show N pl+i<N ns by omega);rw[e]at a b d a3 a4 a5 f;have j:[jQ,jQ].getD i nz=jQ:=by grind
 refine⟨bp,N pl*7,rfl,?_⟩;rw[show N pl*7+i*7=(N pl+i)*7 by omega];refine⟨a,b,d,a3,a4,a5,f,?_,?_⟩ <;> · rw[j];exact wF W
structure uu(w w':U)(G tG tC tA tS tI tT tN tL tR:Nat)(ts:Qu af)(q:ae)(db cZ:Qu aS)(pl ns:Qu ag)(bc bf bk bu be bo bw bp bd:Nat)(v vr u1 u2:Qa)(A:Nat->Nat)(k1 k2 s1 s2:Nat)(x1 x2:Qa):Prop where
 jC:Bw w w'
 lo:M (H w)<=G
 g:GB w' G tG #[Z (O (aD bc 0)) (N ts) (N ts+2),Z (O (aD bf 0)) (N q.src.xs) (N q.src.xs+2),Z (O (aD bw 0)) (N q.wh) (N q.wh+2),Qo q.group,
  Z (O (aD bk 0)) (N q.keys.xs) (N q.keys.xs+2),Z (O (aD bu 0)) (N q.sums.xs) (N q.sums.xs+2),Z (O (aD be 0)) (N q.ay.xs) (N q.ay.xs+2),Z (O (aD bo 0)) (N q.ord.xs) (N q.ord.xs+2),
  Z (O (aD bp 0)) (N pl) (N pl+2),Z (O (aD bd 0)) (N db) (N db+2),Z (O (aD bc 0)) (N ts+2) (N ts+2),Z (O (aD bw 0)) (N q.wh+2) (N q.wh+2),v,Z (O (aD bp 0)) (N pl+2) (N pl+2),Z (O (aD bd 0)) (N db+2) (N db+2),vr]
 cat:GB w' bc tT (fI ts)
 src:GB w' bf tI (aK q.src.xs)
 keys:GB w' bk tI (aK q.keys.xs)
 sums:GB w' bu tI (aK q.sums.xs)
 ay:GB w' be tI (aK q.ay.xs)
 ord:GB w' bo tI (aK q.ord.xs)
 row:w'.rowIs bw tC (N q.wh+2) (λi=>if i<N q.wh then Z (O (aD (A i) 0)) (E q.wh i lz).cs.length ((E q.wh i lz).cs.length+2) else if i=N q.wh then Z (O (aD k1 0)) 1 1 else Z (O (aD k2 0)) 1 1)
 al:∀i,i<N q.wh->GB w' (A i) tS (bN (E q.wh i lz).cs)
 own:w'.ownsRow (M (H w)) tA 1 v (N q.wh) ((List.range (N q.wh)).map λi=>Z (O (aD (A i) 0)) ((E q.wh i lz).cs.length+2) ((E q.wh i lz).cs.length+2))
 h1:GB w' k1 tS ic.toArray
 h2:GB w' k2 tS ic.toArray
 plan:nI (M (H w)) w' bp tN tI pl ns
 len:N cZ=N db
 dlo:M (H w)<=bd
 Nl:GB w' bd tL (cZ.map aS.val++[u1,u2]).toArray
 tab:∀i,i<N cZ->∃Tq v1 v2,fu bd w' tR tI (E cZ i rz) (E db i rz).rs Tq v1 v2
 down:w'.ownsRow (M (H w)) tL 1 vr (N cZ) (cZ.map aS.full)
 e1:u1=Z (O (aD s1 0)) 1 1
 e2:u2=Z (O (aD s2 0)) 1 1
 r1:GB w' s1 tR #[x1]
 r2:GB w' s2 tR #[x2]
 q1:fT bd w' tI x1
 q2:fT bd w' tI x2
 far:M (H w)<=bc/\M (H w)<=bf/\M (H w)<=bk/\M (H w)<=bu/\M (H w)<=be/\M (H w)<=bo/\M (H w)<=bw/\M (H w)<=bp/\M (H w)<=k1/\M (H w)<=k2/\M (H w)<=s1/\M (H w)<=s2
 acH:∀i,i<N q.wh->M (H w)<=A i
variable {w w':U} {G tG tC tA tS tI tT tN tL tR:Nat} {ts:Qu af} {q:ae} {db cZ:Qu aS} {pl ns:Qu ag} {bc bf bk bu be bo bw bp bd:Nat} {v vr u1 u2:Qa} {A:Nat->Nat} {k1 k2 s1 s2:Nat} {x1 x2:Qa}
def uu.below(h:uu w w' G tG tC tA tS tI tT tN tL tR ts q db cZ pl ns bc bf bk bu be bo bw bp bd v vr u1 u2 A k1 k2 s1 s2 x1 x2){w'':U}(hb:Bw w' w''):uu w w'' G tG tC tA tS tI tT tN tL tR ts q db cZ pl ns bc bf bk bu be bo bw bp bd v vr u1 u2 A k1 k2 s1 s2 x1 x2:=by
 have m:∀{b t:Nat} {c:Array Qa},GB w' b t c->GB w'' b t c:=λg=>g.of (hb.block _ g.lt);have d:∀b,bd<b->b<M (H w')->w''.heap[b]? = w'.heap[b]?:=λb _ e=>hb.block b e;exact⟨ah h.jC hb,h.lo,m h.g,m h.cat,m h.src,m h.keys,m h.sums,m h.ay,m h.ord,h.row.of_block (hb.block _ h.row.lt),λi f=>m (h.al i f),
  Xc h.own (Q6 _) (λj _ k=>hb.block j k),m h.h1,m h.h2,h.plan.kept (Q6 _) h.far.2.2.2.2.2.2.2.1 (λb _ e=>hb.block b e),h.len,h.dlo,m h.Nl,λi f=>by
   obtain⟨l,a,b,n⟩:=h.tab i f;exact⟨l,a,b,n.kept d⟩,Xc h.down (Q6 _) (λj _ k=>hb.block j k),h.e1,h.e2,m h.r1,m h.r2,h.q1.kept d,h.q2.kept d,h.far,h.acH⟩
def uu.had(h:uu w w' G tG tC tA tS tI tT tN tL tR ts q db cZ pl ns bc bf bk bu be bo bw bp bd v vr u1 u2 A k1 k2 s1 s2 x1 x2){d:JW}{wd:U}(hd:uJ wd d db):VV w' (O (aD bd 0)) cZ:=by
 have l:=h.len;have e:∀i,i<N cZ->yR w' (E cZ i rz).ad (E cZ i rz).rs:=λi f=>by obtain⟨m,a,b,g⟩:=h.tab i f;exact g.had (hd.2.2 i X).1 (λj k=>((hd.2.2 i X).2.2 j k).1)
 refine⟨⟨Qj hd.1,λi f=>⟨bd,0,rfl,?_⟩,λi f=>(e i f).1⟩,e⟩;rw[ZQ,h.Nl.cell i,Zp,XG Qg,List.getElem?_map];simp_all
theorem uu.same(h:uu w w' G tG tC tA tS tI tT tN tL tR ts q db cZ pl ns bc bf bk bu be bo bw bp bd v vr u1 u2 A k1 k2 s1 s2 x1 x2):∀i,i<N db->(E cZ i rz).rs.length=(E db i rz).rs.length/\∀j,j<(E db i rz).rs.length->((E cZ i rz).rs.getD j iz).xs=((E db i rz).rs.getD j iz).xs:=λi k=>by obtain⟨g,a,b,d⟩:=h.tab i (by grind [uu.len]);refine⟨d.len,λj f=>?_⟩;obtain⟨B,e,_⟩:=d.rows j f;rw[e]
variable {w w':U} {G tG tC tA tS tI tT tN tL tR:Nat} {ts:Qu af} {q:ae} {db cZ:Qu aS} {pl ns:Qu ag} {bc bf bk bu be bo bw bp bd:Nat} {v vr u1 u2:Qa} {A:Nat->Nat} {k1 k2 s1 s2:Nat} {x1 x2:Qa}
def pM(h:uu w w' G tG tC tA tS tI tT tN tL tR ts q db cZ pl ns bc bf bk bu be bo bw bp bd v vr u1 u2 A k1 k2 s1 s2 x1 x2)(hq:q.At wd):(nD q bf bk bu be bo bw A).At w':=
 ⟨rY h.src hq.src.1,Nk rfl h.row (λi a=>Qg) h.al hq.wh.1 (λi a=>(hq.wh.2.2 i a).1),rY h.keys hq.keys.1,rY h.sums hq.sums.1,rY h.ay hq.ay.1,rY h.ord hq.ord.1⟩
end
def jJ(c:Array Qa)(o:Nat)(v0 v1 v2 v3 v4 v5 v6:Qa):Array Value:=
 ((((((c.setIfInBounds o v0).setIfInBounds (o+1) v1).setIfInBounds (o+2) v2).setIfInBounds (o+3) v3).setIfInBounds (o+4) v4).setIfInBounds (o+5) v5).setIfInBounds (o+6) v6
def aT{c:Array Qa}{i j:Nat}{v:Qa}(h:i≠j):(c.setIfInBounds i v)[j]? = c[j]?:=by rw[Array.getElem?_setIfInBounds,Zf h]
def nJ{v:Qa}(h:i<c.size):(c.setIfInBounds i v)[i]? = O v:=by rw[Array.getElem?_setIfInBounds,Q8 rfl,Q8 h]
def jK(c:Array Qa)(o:Nat)(v0 v1 v2 v3 v4 v5 v6:Qa){x:Nat}(h:x<o∨o+7<=x):(jJ c o v0 v1 v2 v3 v4 v5 v6)[x]? = c[x]?:=by unfold jJ;rw[aT X,aT X,aT X,aT X,aT X,aT X,aT X]
def Np(c:Array Qa)(o:Nat)(v0 v1 v2 v3 v4 v5 v6:Qa)(h:o+6<c.size) :
  (jJ c o v0 v1 v2 v3 v4 v5 v6)[o]? = O v0/\(jJ c o v0 v1 v2 v3 v4 v5 v6)[o+1]? = O v1/\(jJ c o v0 v1 v2 v3 v4 v5 v6)[o+2]? = O v2/\(jJ c o v0 v1 v2 v3 v4 v5 v6)[o+3]? = O v3/\
  (jJ c o v0 v1 v2 v3 v4 v5 v6)[o+4]? = O v4/\(jJ c o v0 v1 v2 v3 v4 v5 v6)[o+5]? = O v5/\(jJ c o v0 v1 v2 v3 v4 v5 v6)[o+6]? = O v6:=by
 unfold jJ;refine⟨?_,?_,?_,?_,?_,?_,?_⟩
 .rw[aT X,aT X,aT X,aT X,aT X,aT X,nJ X]
 .rw[aT X,aT X,aT X,aT X,aT X,nJ (by simp only[XJ];omega)]
 .rw[aT X,aT X,aT X,aT X,nJ (by simp only[XJ];omega)]
 .rw[aT X,aT X,aT X,nJ (by simp only[XJ];omega)]
 .rw[aT X,aT X,nJ (by simp only[XJ];omega)]
 .rw[aT X,nJ (by simp only[XJ];omega)]
 .rw[nJ (by simp only[XJ];omega)]
def World.jJ(W:U)(b o:Nat)(v0 v1 v2 v3 v4 v5 v6:Qa):World:=
 Ql (Ql (Ql (Ql (Ql (Ql (Ql W (aD b o) v0) (aD b (o+1)) v1) (aD b (o+2)) v2) (aD b (o+3)) v3) (aD b (o+4)) v4) (aD b (o+5)) v5) (aD b (o+6)) v6
def World.Nr{t:TypeId}(h:GB W b t c)(o:Nat)(v0 v1 v2 v3 v4 v5 v6:Qa):GB (World.jJ W b o v0 v1 v2 v3 v4 v5 v6) b t (Zz.jJ c o v0 v1 v2 v3 v4 v5 v6):=
 ((((((h.set o v0).set (o+1) v1).set (o+2) v2).set (o+3) v3).set (o+4) v4).set (o+5) v5).set (o+6) v6
def World.Ns(W:U)(b o:Nat)(v0 v1 v2 v3 v4 v5 v6:Qa){j:Nat}(h:j≠b):(World.jJ W b o v0 v1 v2 v3 v4 v5 v6).heap[j]? = W.heap[j]?:=by unfold World.jJ;rw[Zv h,Zv h,Zv h,Zv h,Zv h,Zv h,Zv h]
def World.Ip(W:U)(b o:Nat)(v0 v1 v2 v3 v4 v5 v6:Qa):M (H (World.jJ W b o v0 v1 v2 v3 v4 v5 v6))=M (H W):=by unfold World.jJ;simp only[XF]
def World.DT(h:Below lo w W)(hb:lo<=b)(v0 v1 v2 v3 v4 v5 v6:Qa):Below lo w (World.jJ W b o v0 v1 v2 v3 v4 v5 v6):=
 ((((((h.setCell (p:=(aD b o)) hb v0).setCell (p:=(aD b (o+1))) hb v1).setCell (p:=(aD b (o+2))) hb v2).setCell (p:=(aD b (o+3))) hb v3).setCell (p:=(aD b (o+4))) hb v4).setCell (p:=(aD b (o+5))) hb v5).setCell (p:=(aD b (o+6))) hb v6
def fU(l:List α)(k j:Nat)(x z:α)(hk:k<N l):E (l.set k x) j z=if j=k then x else E l j z:=by
 by_cases h:j=k
 .subst h;rw[Q8 rfl];simp[List.getD,hk]
 .rw[Zf h];simp only[List.getD,List.getElem?_set];rw[Zf (λe=>h e.symm)]
theorem iO.lt(h:iO c ns)(hk:k<N ns):k*7+6<c.size:=by have:=(h k hk).2.2.2.2.2.2;exact(ZI.1 this).1
theorem iO.put(h:iO c ns)(hk:k<N ns)(n:ag) :
  iO (jJ c (k*7) (I J n.kind) (I J n.l) (I J n.r) (I J n.source) n.cl.val (I J n.key) n.co.val) (ns.set k n):=by
 intro j a;rw[XK]at a;rw[fU _ _ _ _ _ hk];by_cases e:j=k
 .rw[Q8 e,e];exact Np c (k*7) _ _ _ _ _ _ _ (h.lt hk)
 .rw[Zf e,jK _ _ _ _ _ _ _ _ _ X,jK _ _ _ _ _ _ _ _ _ X,jK _ _ _ _ _ _ _ _ _ X,jK _ _ _ _ _ _ _ _ _ X,jK _ _ _ _ _ _ _ _ _ X,jK _ _ _ _ _ _ _ _ _ X,jK _ _ _ _ _ _ _ _ _ X];exact h j a
def iO.ink(h:iO c ns)(hk:k<N ns)(hz:E ns k nz=nz):iO (c.setIfInBounds (k*7) (I J 77777)) (ns.set k jQ):=by
 intro j a;rw[XK]at a;rw[fU _ _ _ _ _ hk];by_cases e:j=k
 .rw[Q8 e,e,nJ (Qj (h.lt hk)),aT X,aT X,aT X,aT X,aT X,aT X];have:=h k hk;rw[hz]at this;exact⟨rfl,this.2⟩
 .rw[Zf e,aT X,aT X,aT X,aT X,aT X,aT X,aT X];exact h j a
def Nt(z:Array Qa)(n j:Nat)(hj:j<n):(madeCells z n)[j]? = O z[j % z.size]!:=by unfold madeCells;simp[hj]
def DU(n:Nat):iO (madeCells zn.toArray (n*7)) (List.replicate n nz):=by
 intro k a;rw[List.length_replicate]at a;have e:E (List.replicate n nz) k nz=nz:=by simp[List.getD,a]
 have m:∀i,i<7->(madeCells zn.toArray (n*7))[k*7+i]? = O zn.toArray[i]!:=λi b=>by rw[Nt _ _ _ X,show (k*7+i) % zn.toArray.size=i by show (k*7+i) % 7=i;omega]
 rw[e];exact⟨m 0 X,m 1 X,m 2 X,m 3 X,m 4 X,m 5 X,m 6 X⟩
structure jA(w w7 W:U)(G tG tN tI:Nat)(c7:Array Qa)(pl:Qu ag)(i:Nat)(ns:Qu ag)(c:Array Qa):Prop where
 jC:Bw w W
 zT:∀j,j<M (H w7)->j≠G->W.heap[j]? = w7.heap[j]?
 xI:M (H w7)<M (H W)
 g:GB W G tG c7
 row:GB W (M (H w7)) tN c
 nodes:iO c ns
 len:N ns=N pl+2
 zD:∀k,k<i->yN (M (H w7)+1) W tI (E ns k nz) (E pl k nz)
 rest:∀k,i<=k->E ns k nz=nz
theorem jA.put{w w7 W Xq:U}{G tG tN tI:Nat}{c7:Array Qa}{pl:Qu ag}{i:Nat}{ns:Qu ag}{c:Array Qa}(h:jA w w7 W G tG tN tI c7 pl i ns c)(hw:M (H w)<=M (H w7))(hG:G<M (H w7))(hi:i<N pl)(hb:Bw W Xq){m n:ag}(hn:E pl i nz=n)(hl:yN (M (H w7)+1) Xq tI m n) :
  jA w w7 (World.jJ Xq (M (H w7)) (i*7) (I J m.kind) (I J m.l) (I J m.r) (I J m.source) m.cl.val (I J m.key) m.co.val) G tG tN tI c7 pl (i+1) (ns.set i m) (jJ c (i*7) (I J m.kind) (I J m.l) (I J m.r) (I J m.source) m.cl.val (I J m.key) m.co.val):=by
 have a:∀j,j≠M (H w7)->(World.jJ Xq (M (H w7)) (i*7) (I J m.kind) (I J m.l) (I J m.r) (I J m.source) m.cl.val (I J m.key) m.co.val).heap[j]? = Xq.heap[j]?:=λj f=>World.Ns _ _ _ _ _ _ _ _ _ _ f;have d:=h.len;have q:=h.xI;have t:=hb.size;refine⟨World.DT (ah h.jC hb) hw _ _ _ _ _ _ _,λj f p=>?_,?_,?_,World.Nr (h.row.of (hb.block _ h.row.lt)) _ _ _ _ _ _ _ _,h.nodes.put X m,by rw[XK];exact d,λk u=>?_,λk u=>?_⟩
 .rw[a j X,hb.block j X];exact h.zT j f p
 .rw[World.Ip];omega
 .exact(h.g.of (hb.block _ h.g.lt)).of (a _ X)
 .rw[fU _ _ _ _ _ X];by_cases e:k=i
  .rw[Q8 e,e,hn];exact hl.kept (Q6 _) (λb v _=>a b X)
  .rw[Zf e];exact(h.zD k X).kept (Q6 _) (λb v y=>by rw[a b X,hb.block b y])
 .rw[fU _ _ _ _ _ X,Zf X];exact h.rest k X
def jA.drew{tN tI:Nat}(h:jA w w7 W G tG tN tI c7 pl i ns c)(hb:Bw W Xq):jA w w7 Xq G tG tN tI c7 pl i ns c:=
 ⟨ah h.jC hb,λj a d=>(hb.block j (Qj h.xI)).trans (h.zT j a d),by have:=h.xI;have:=hb.size;omega,h.g.of (hb.block _ h.g.lt),h.row.of (hb.block _ h.row.lt),h.nodes,h.len,λk e=>(h.zD k e).kept (Q6 _) (λb _ f=>hb.block b f),h.rest⟩
def jA.done{tN tI:Nat}(h:jA w w7 W G tG tN tI c7 pl (N pl) ns c)(hw:M (H w)<=M (H w7))(hG:G<M (H w7))(hwG:M (H w)<=G)(v:Qa)
  (hX:Xq=Ql (Ql (Ql W (aD (M (H w7)) (N pl*7)) (I J 77777)) (aD (M (H w7)) ((N pl+1)*7)) (I J 77777)) (aD G 8) v) :
  Bw w Xq/\(∀j,j<M (H w7)->j≠G->Xq.heap[j]? = w7.heap[j]?)/\GB Xq G tG (c7.setIfInBounds 8 v)/\M (H w7)<M (H Xq)/\nI (M (H w7)) Xq (M (H w7)) tN tI pl ((ns.set (N pl) jQ).set (N pl+1) jQ):=by
 have a:=h.len;have l:=h.xI;have d:∀j,j≠M (H w7)->j≠G->Xq.heap[j]? = W.heap[j]?:=λj e f=>by rw[hX,Zv f,Zv e,Zv e]
 have t:M (H Xq)=M (H W):=by rw[hX];simp only[XF]
 have m:=h.nodes.ink (k:=N pl) X (h.rest _ (Q6 _));have n:=m.ink (k:=N pl+1) (by rw[XK];omega) (by rw[fU _ _ _ _ _ X,Zf X];exact h.rest _ X);refine⟨?_,λj q i=>?_,?_,X,?_⟩
 .rw[hX];exact((h.jC.setCell (p:=(aD (M (H w7)) (N pl*7))) hw _).setCell (p:=(aD (M (H w7)) ((N pl+1)*7))) hw _).setCell (p:=(aD G 8)) hwG _
 .rw[d j X i];exact h.zT j q i
 .rw[hX];exact GB.set (h.g.of (by rw[Zv (by show G≠M (H w7);omega),Zv (by show G≠M (H w7);omega)])) 8 v
 .refine⟨by rw[XK,XK];exact a,⟨_,?_,n⟩,λk r=>?_,?_,?_⟩
  .rw[hX];exact((h.row.set (N pl*7) (I J 77777)).set ((N pl+1)*7) (I J 77777)).of (Zv (by show M (H w7)≠G;omega))
  .rw[fU _ _ _ _ _ (by rw[XK];omega),Zf X,fU _ _ _ _ _ X,Zf X];exact(h.zD k r).kept X (λb e f=>d b X X)
  .rw[fU _ _ _ _ _ (by rw[XK];omega),Zf X,fU _ _ _ _ _ X,Q8 rfl]
  .rw[fU _ _ _ _ _ (by rw[XK];omega),Q8 rfl]
def Ir(n:Nat)(h:n*88<=140737488351232)(w:U) :
  (Instr.makeSlice 27 (.int J ((n:Int)+2)) (.int J ((n:Int)+2))).run V w=.ok (.slice (O (aD (M (H w)) 0)) (n+2) (n+2)) (w.alloc (Qq (madeCells zn.toArray ((n+2)*7)) 52)):=by obtain⟨i,e,a,b,d⟩:=Xe Tryz.R8;have:=run_make (P:=V) w 27 52 i _ underlying27 e a J J ((n:Int)+2) ((n:Int)+2) X (Int.le_refl _) (by rw[d];omega) X;rw[b,show ((n:Int)+2).toNat=n+2 by omega]at this;simpa [Value.cells,zn] using this
def XI:=@aT
def Iu(ao d po:JW)(cap BA aU:Nat)(ts:Qu af)(q:ae)(db:Qu aS)(pl:Qu ag)(w:U)(hx:aI w ao ts)(hq:q.At w)(hd:uJ w d db)(hpl:bL w po pl)(hsz:N ts*48<=140737488351232)
  (z1:N q.src.xs*8<=140737488351232) (z2:N q.keys.xs*8<=140737488351232) (z3:N q.sums.xs*8<=140737488351232) (z4:N q.ay.xs*8<=140737488351232) (z5:N q.ord.xs*8<=140737488351232)
  (z6:N q.wh*24<=140737488351232) (z7:∀i,i<N q.wh->(E q.wh i lz).cs.length*40<=140737488351232)
  (y1:N db*24<=140737488351232) (y2:∀i,i<N db->(E db i rz).rs.length*24<=140737488351232) (y3:∀i,i<N db->∀j,j<(E db i rz).rs.length->((E db i rz).rs.getD j iz).xs.length*8<=140737488351232)
  (p1:N pl*88<=140737488351232) (p2:∀i,i<N pl->(E pl i nz).cl.xs.length*8<=140737488351232/\(E pl i nz).co.xs.length*8<=140737488351232) :
  Calls V 4 #[Z ao (N ts) cap,Qr q.cells,Z po (N pl) aU,Z d (N db) BA] w λe w'=>∃G bc bf bk bu be bo bw bp bd v vr u1 u2 A k1 k2 s1 s2 x1 x2 cZ ns,e=Qs (Y (O (aD G 0)))/\
   uu w w' G 35 80 78 82 3 48 52 77 23 ts q db cZ pl ns bc bf bk bu be bo bw bp bd v vr u1 u2 A k1 k2 s1 s2 x1 x2:=by
 have Ty:Qk _:=And.intro hd (And.intro y1 (And.intro y2 y3));have LM:Qk _:=And.intro hpl (And.intro p1 p2);clear y1 y2 y3 hd p1 p2 hpl;have av:=K7 (N ts) hsz;have hl:=hx.1;obtain⟨aa,bF,aG,wh,bn,z,B,ay,u⟩:=q;have aA:IntsAt w aa.ad aa.xs:=hq.src;have W:IntsAt w z.ad z.xs:=hq.keys;have EO:IntsAt w B.ad B.xs:=hq.sums;have aB:IntsAt w ay.ad ay.xs:=hq.ay;have jP:IntsAt w u.ad u.xs:=hq.ord;have MZ:bM w bF wh:=hq.wh;clear hq;simp only at z1 z2 z3 z4 z5 z6 z7;unfold ae.cells ai.val;simp only;have aN:=λ(o1 o2:Obj) (ty:TypeId)=>K9 w ((w.alloc o1).alloc o2) (M (H w)+1+1) ao cap ts hx (ah (bz _ _) (bz _ _)) Qb ty;have aO:=λ(o1 o2:Obj)=>xB ((w.alloc o1).alloc o2) (M (H w)+1+1) ts 48 Qb;have aP:=λ(o1 o2:Obj)=>xC ((w.alloc o1).alloc o2) (M (H w)+1+1) ts 48 Qb;have aQ:=λ(o1 o2:Obj)=>DC ((w.alloc o1).alloc o2) (M (H w)+1+1) ts 48 Qb;have aR:=λ(o1 o2:Obj)=>DD ((w.alloc o1).alloc o2) (M (H w)+1+1) ts 48 Qb;go_enter func4,ntmps4;go_wp2_with fail;refine(nC (Pre.start w _ _ _ _) aa.ad aa.cap aa.xs aA z1).mono ?_;clear av aN aO aP aQ aR hx;have bG:¬M (H w)=M (H w)+1:=X;have bH:¬M (H w)+1=M (H w):=X;rintro e w1 ⟨b1,rfl,P1⟩;have p1:=P1.g.cell 1;have Q:=P1.g.frozen 1;have p2:=(P1.at (b:=M (H w)) (XL _ (XL _ (XM _)))).cell 3;simp at p1 p2;go_wp2_with fail;refine(nC (P1.store 1 _) z.ad z.cap z.xs W z2).mono ?_;clear P1 p1 Q p2;rintro e w2 ⟨b2,rfl,P2⟩;simp only[Zk,QT,QU]at P2;have p1:=P2.g.cell 4;have Q:=P2.g.frozen 4;have p2:=(P2.at (b:=M (H w)) (XL _ (XL _ (XL _ (XM _))))).cell 4;simp at p1 p2;go_wp2_with fail;refine(nC (P2.store 4 _) B.ad B.cap B.xs EO z3).mono ?_;clear P2 p1 Q p2;rintro e w3 ⟨b3,rfl,P3⟩;simp only[Zk,QT,QU]at P3;have p1:=P3.g.cell 5;have Q:=P3.g.frozen 5;have p2:=(P3.at (b:=M (H w)) (XL _ (XL _ (XL _ (XL _ (XM _)))))).cell 5;simp at p1 p2;go_wp2_with fail;refine(nC (P3.store 5 _) ay.ad ay.cap ay.xs aB z4).mono ?_;clear P3 p1 Q p2;rintro e w4 ⟨b4,rfl,P4⟩;simp only[Zk,QT,QU]at P4;have p1:=P4.g.cell 6;have Q:=P4.g.frozen 6;have p2:=(P4.at (b:=M (H w)) (XL _ (XL _ (XL _ (XL _ (XL _ (XM _))))))).cell 6;simp at p1 p2;go_wp2_with fail;refine(nC (P4.store 6 _) u.ad u.cap u.xs jP z5).mono ?_;clear P4 p1 Q p2;rintro e w5 ⟨b5,rfl,P5⟩;simp only[Zk,QT,QU]at P5;have p1:=P5.g.cell 7;have Q:=P5.g.frozen 7;have p2:=(P5.at (b:=M (H w)) (XL _ (XL _ (XL _ (XL _ (XL _ (XL _ (XM _)))))))).cell 1;simp at p1 p2;go_wp2_with fail;have P6:=P5.store 7 (Z (O (aD b5 0)) (N u.xs) (N u.xs+2));simp only[Zk,QT,QU]at P6
 clear P5 p1 Q p2;generalize Ql w5 (aD (M (H w)+1) 7) (Z (O (aD b5 0)) (N u.xs) (N u.xs+2))=w6 at*;refine(Bv w w6 (M (H w)+1) bF aG wh _ _ _ _ _ _ _ _ _ _ _ _ _ _ _ MZ z6 z7 P6.jC P6.lo P6.g).mono ?_;rintro e f ⟨rfl,v,A,k1,k2,C⟩;have Wd:=P6.g.lt;obtain⟨c7,We,P7⟩:∃c,c=_/\Pre w f (M (H w)+1) 35 c _:=⟨_,rfl,P6.move C.jC C.zT C.g⟩;have av:=Ir (N pl) LM.o.2.1;have bI:=LM.o.1.1;have xA:=P7.g.lt;have L:=P7.lo;have p1:Qm f (aD (M (H w)+1) 13)=O (Z none 0 0):=by rw[P7.g.cell 13,We];rfl
 have Q:=P7.g.frozen 13;have aC:(c7.setIfInBounds 13 (Z (O (aD (M (H f)) 0)) (N pl+2) (N pl+2)))[13]? = O (Z (O (aD (M (H f)) 0)) (N pl+2) (N pl+2)):=by rw[We];rfl
 have aJ:(c7.setIfInBounds 13 (Z (O (aD (M (H f)) 0)) (N pl+2) (N pl+2)))[8]? = O (Z none 0 0):=by rw[We];rfl
 have Ux:Qk _:=We;clear P6 We;have Pp:Qk _:=C;have bJ:Qk _:=P7;clear C MZ aA W EO aB jP;go_wp2;have Wh:Bw w f:=P7.jC;go_loopw [10] (λiv wr=>∃(i:Nat) (ns:Qu ag) (c:Array Qa),i<=N pl/\iv=I J i/\jA w f wr (M (H w)+1) 35 52 3 (c7.setIfInBounds 13 (Z (O (aD (M (H f)) 0)) (N pl+2) (N pl+2))) pl i ns c) (λiv _=>N pl-(intOf iv).toNat)
 case atStart=>
  have aL:=Wh.setCell (p:=(aD (M (H w)+1) 13)) L (Z (O (aD (M (H f)) 0)) (N pl+2) (N pl+2));refine⟨0,List.replicate (N pl+2) nz,_,ZP _,rfl,⟨aL.alloc aL.size _,λj hj az=>?_,Qb,?_,?_,DU _,Qb,λk hk=>absurd hk X,λk _=>?_⟩⟩
  .rw[Zw (by simpa using hj),Zv az]
  .exact(P7.g.set 13 (Z (O (aD (M (H f)) 0)) (N pl+2) (N pl+2))).of (Zw (by simpa using xA))
  .have:=iB (Ql f (aD (M (H w)+1) 13) (Z (O (aD (M (H f)) 0)) (N pl+2) (N pl+2))) (Qq (madeCells zn.toArray ((N pl+2)*7)) 52);rw[XF]at this;exact this
  .simp only[List.getD,List.getElem?_replicate];split <;> rfl
 case round=>
  obtain⟨i,ns,c,hi,rfl,S⟩:=hrel;have ax:=S.jC;have R:Qk _:=S;clear S;have Lg:=Wh.size;by_cases au:i<N pl
  .obtain⟨nb,bK,bq,n0,n1,n2,n3,n4,n5,n6,aj,ak⟩:=LM.o.1.2 i au;have hz:=LM.o.2.2 i au;obtain⟨n,hn⟩:=eY (E pl i nz)
   rw[<-hn]at n0 n1 n2 n3 n4 n5 n6 aj ak hz;obtain⟨r,nl,nr,a,⟨ca,cc,t⟩,key,⟨oa,oc,K⟩⟩:=n;unfold ai.val at n4 n6;unfold ai.At at aj ak;simp only at n0 n1 n2 n3 n4 n5 n6 aj ak hz;obtain⟨m0,m1,m2,m3,m4⟩:=gM ax n0 n1 n2 n3 n4;obtain⟨m5,m6⟩:=iA ax n5 n6;clear n0 n1 n2 n3 n4 n5 n6 p1 Q av;rw[bq];have Wi:=λx (hb:Bw w x)=>Q7 hb aj;have Wj:=λx (hb:Bw w x)=>Q7 hb ak;clear aj ak;go_upto_region 18 with fail;clear m0 m1 m2 m3 m4 m5 m6;obtain⟨wA,Wl⟩:=eY (wr.alloc (Obj.cells #[Value.int IntKind.i64 r,Value.int IntKind.i64 nl,Value.int IntKind.i64 nr,Value.int IntKind.i64 a,Value.slice ca (N t) cc,Value.int IntKind.i64 key,Value.slice oa (N K) oc] 52));rw[<-Wl];have gA:GB wA (M (H wr)) 52 #[Value.int IntKind.i64 r,Value.int IntKind.i64 nl,Value.int IntKind.i64 nr,Value.int IntKind.i64 a,Value.slice ca (N t) cc,Value.int IntKind.i64 key,Value.slice oa (N K) oc]:=by rw[Wl];exact iB _ _
   have bA:Bw wr wA:=by rw[Wl];exact bz _ _
   have sA:M (H wA)=M (H wr)+1:=by rw[Wl];simp
   clear Wl;have a4:=gA.at 4;have f4:wA.frozen? (aD (M (H wr)) 4)=false:=gA.frozen 4;go_wp2_with fail;refine(qO ca cc t wA (Wi _ (ah ax bA)) hz.1).mono ?_;rintro e wB ⟨rfl,Tn⟩;have gB:GB wB (M (H wr)) 52 #[Value.int IntKind.i64 r,Value.int IntKind.i64 nl,Value.int IntKind.i64 nr,Value.int IntKind.i64 a,Value.slice ca (N t) cc,Value.int IntKind.i64 key,Value.slice oa (N K) oc]:=by rw[Tn];exact gA.of (Zw gA.lt)
   have lB:GB wB (M (H wr)+1) 3 (aK t):=by rw[Tn,<-sA];exact iB _ _
   have bB:Bw wr wB:=by rw[Tn];exact ah bA (bz _ _)
   have sB:M (H wB)=M (H wr)+2:=by rw[Tn];simp[sA]
   have a4:=gB.at 4;have f4:wB.frozen? (aD (M (H wr)) 4)=false:=gB.frozen 4;clear Tn gA bA;go_upto_region 19 with fail;obtain⟨wC,Tz⟩:=eY (Ql wB (aD (M (H wr)) 4) (Z (O (aD (M (H wr)+1) 0)) (N t) (N t+2)));rw[<-Tz];have gC:GB wC (M (H wr)) 52 #[Value.int IntKind.i64 r,Value.int IntKind.i64 nl,Value.int IntKind.i64 nr,Value.int IntKind.i64 a,Z (O (aD (M (H wr)+1) 0)) (N t) (N t+2),Value.int IntKind.i64 key,Value.slice oa (N K) oc]:=by rw[Tz];exact gB.set 4 _
   have lC:GB wC (M (H wr)+1) 3 (aK t):=by rw[Tz];exact lB.of (Zv Qb)
   have bC:Bw wr wC:=by rw[Tz];exact bB.setCell (p:=(aD (M (H wr)) 4)) (Q6 _) _
   have sC:M (H wC)=M (H wr)+2:=by rw[Tz,XF,sB]
   clear Tz gB lB bB a4 f4;have a6:=gC.at 6;go_wp2_with fail;refine(qO oa oc K wC (Wj _ (ah ax bC)) hz.2).mono ?_;rintro e wD ⟨rfl,TA⟩;have gD:GB wD (M (H wr)) 52 #[Value.int IntKind.i64 r,Value.int IntKind.i64 nl,Value.int IntKind.i64 nr,Value.int IntKind.i64 a,Z (O (aD (M (H wr)+1) 0)) (N t) (N t+2),Value.int IntKind.i64 key,Value.slice oa (N K) oc]:=by rw[TA];exact gC.of (Zw gC.lt)
   have lD:GB wD (M (H wr)+1) 3 (aK t):=by rw[TA];exact lC.of (Zw lC.lt)
   have mD:GB wD (M (H wr)+2) 3 (aK K):=by rw[TA,<-sC];exact iB _ _
   have bD:Bw wr wD:=by rw[TA];exact ah bC (bz _ _)
   have sD:M (H wD)=M (H wr)+3:=by rw[TA];simp[sC]
   have a6:=gD.at 6;have f6:wD.frozen? (aD (M (H wr)) 6)=false:=gD.frozen 6;clear TA gC bC lC;go_upto_region 20 with fail;obtain⟨wE,Sa⟩:=eY (Ql wD (aD (M (H wr)) 6) (Z (O (aD (M (H wr)+2) 0)) (N K) (N K+2)));rw[<-Sa];have gE:GB wE (M (H wr)) 52 #[Value.int IntKind.i64 r,Value.int IntKind.i64 nl,Value.int IntKind.i64 nr,Value.int IntKind.i64 a,Z (O (aD (M (H wr)+1) 0)) (N t) (N t+2),Value.int IntKind.i64 key,Z (O (aD (M (H wr)+2) 0)) (N K) (N K+2)]:=by rw[Sa];exact gD.set 6 _
   have lE:GB wE (M (H wr)+1) 3 (aK t):=by rw[Sa];exact lD.of (Zv Qb)
   have mE:GB wE (M (H wr)+2) 3 (aK K):=by rw[Sa];exact mD.of (Zv Qb)
   have bE:Bw wr wE:=by rw[Sa];exact bD.setCell (p:=(aD (M (H wr)) 6)) (Q6 _) _
   have sE:M (H wE)=M (H wr)+3:=by rw[Sa,XF,sD]
   clear Sa gD lD mD bD a6 f6;obtain⟨e0,e1,e2,e3,e4,e5,e6⟩:=gE.k7;have l:GB wE (M (H f)) 52 c:=R.o.row.of (bE.block _ R.o.row.lt);obtain⟨y0,y1,y2,y3,y4,y5,y6⟩:=R.o.nodes.at l (show i<N ns by have:=R.o.len;omega);rw[R.o.rest i (Q6 _)]at y0 y1 y2 y3 y4 y5 y6;have z0:=l.frozen (i*7);have aT:=l.frozen (i*7+1);have aV:=l.frozen (i*7+2);have aW:=l.frozen (i*7+3);have aX:=l.frozen (i*7+4);have aY:=l.frozen (i*7+5);have aZ:=l.frozen (i*7+6);have gG:GB wE (M (H w)+1) 35 _:=R.o.g.of (bE.block _ R.o.g.lt);have aF:Qm wE (aD (M (H w)+1) 13)=O (Z (O (aD (M (H f)) 0)) (N pl+2) (N pl+2)):=by rw[gG.cell 13,aC]
   have HX:Qk _:=R.o.put (m:=⟨r,nl,nr,a,⟨O (aD (M (H wr)+1) 0),N t+2,t⟩,key,⟨O (aD (M (H wr)+2) 0),N K+2,K⟩⟩) Lg xA au bE hn.symm ⟨M (H wr)+1,M (H wr)+2,rfl,Qj R.o.xI,Qj R.o.xI,lE,mE⟩;clear lE mE gE gG Wi Wj hz l hn;go_region_with fail
   all_goals
    have hX:=HX.o;unfold World.jJ ai.val at hX;simp only at hX;clear HX e0 e1 e2 e3 e4 e5 e6 y0 y1 y2 y3 y4 y5 y6 z0 aT aV aW aX aY aZ aF;obtain⟨Xq,eX⟩:=eY (Ql (Ql (Ql (Ql (Ql (Ql (Ql wE (aD (M (H f)) (i*7)) (I J r)) (aD (M (H f)) (i*7+1)) (I J nl)) (aD (M (H f)) (i*7+2)) (I J nr)) (aD (M (H f)) (i*7+3)) (I J a)) (aD (M (H f)) (i*7+4)) (Z (O (aD (M (H wr)+1) 0)) (N t) (N t+2))) (aD (M (H f)) (i*7+5)) (I J key)) (aD (M (H f)) (i*7+6)) (Z (O (aD (M (H wr)+2) 0)) (N K) (N K+2)));rw[<-eX]at hX ⊢;clear eX;have HX:Qk _:=hX;clear hX;go_wp2;go_roundw
    case rel=>exact⟨i+1,_,_,X,Qf,HX.o.drew (by first|exact Zc (Q5 _ _) _|exact Below.drew (Q5 _ _))⟩
    case measure=>exact Qw
  .obtain rfl:i=N pl:=X
   have S:=R.o;have aM:=S.len;have hg:=S.g;have y:=S.row;have aF:Qm wr (aD (M (H w)+1) 13)=O (Z (O (aD (M (H f)) 0)) (N pl+2) (N pl+2)):=by rw[hg.cell 13,aC]
   have h8:Qm wr (aD (M (H w)+1) 8)=O (Z none 0 0):=by rw[hg.cell 8,aJ]
   have f8:=hg.frozen 8;have r0:Qm wr (aD (M (H f)) (N pl*7))=O (I J 0):=by
    have:=(S.nodes.at y (show N pl<N ns by omega)).1
    rwa [S.rest _ (Q6 _)]at this
   have r7:Qm wr (aD (M (H f)) ((N pl+1)*7))=O (I J 0):=by
    have:=(S.nodes.at y (show N pl+1<N ns by omega)).1
    rwa [S.rest _ X]at this
   have e0:=y.frozen (N pl*7);have e7:=y.frozen ((N pl+1)*7);have bg:¬M (H f)=M (H w)+1:=X;have RX:¬M (H w)+1=M (H f):=X;clear p1 Q aC aJ av S aM hg y;go_wp2_with fail;obtain⟨w8,aH⟩:=eY (Ql (Ql (Ql wr (aD (M (H f)) (N pl*7)) (I J 77777)) (aD (M (H f)) ((N pl+1)*7)) (I J 77777)) (aD (M (H w)+1) 8) (Z (O (aD (M (H f)) 0)) (N pl) (N pl+2)));rw[<-aH];obtain⟨zN,SX,Wm,bN,Tm⟩:=R.o.done Lg xA L (Z (O (aD (M (H f)) 0)) (N pl) (N pl+2)) aH;clear aH;have C:=Pp.o;rw[Ux.o]at Wm;simp only[Zk,QT,QU]at Wm;have P8:=P7.move zN SX Wm;refine(Dz w w8 (M (H w)+1) d BA db _ _ _ _ _ _ _ _ _ _ _ _ _ _ _ Ty.o.1 Ty.o.2.1 Ty.o.2.2.1 Ty.o.2.2.2 zN L Wm).mono ?_;rintro e w9 ⟨rfl,cZ,vr,u1,u2,s1,s2,x1,x2,D⟩;have P:=P8.move D.jC D.zT D.g;clear aF h8 f8 r0 r7 e0 e7 bg RX Wm P8;have OH:∀j,j<M (H f)->j≠M (H w)+1->w9.heap[j]? = f.heap[j]?:=λj hj az=>(D.zT j X az).trans (SX j hj az);have HO:Qk _:=OH;have HP:Qk _:=Tm;clear SX OH Tm;go_wp2;go_ret;have OH:=HO.o;refine⟨M (H w)+1,M (H w)+2,b1,b2,b3,b4,b5,M (H w6),M (H f),M (H w8),v,vr,u1,u2,A,k1,k2,s1,s2,x1,x2,cZ,((ns.set (N pl) jQ).set (N pl+1) jQ),rfl,⟨P.jC,P.lo,P.g,P.at (XL _ (XL _ (XL _ (XL _ (XL _ (XM _)))))),P.at (XL _ (XL _ (XL _ (XL _ (XM _))))),P.at (XL _ (XL _ (XL _ (XM _)))),P.at (XL _ (XL _ (XM _))),P.at (XL _ (XM _)),P.at (XM _),?_,λi hi=>?_,?_,?_,?_,?_,D.len,zN.size,D.row,D.tab,Xc D.own (Qj zN.size) (λ_ _ _=>rfl),D.e1,D.e2,D.r1,D.r2,D.k1,D.k2,⟨(P.bs (_,_) (XL _ (XL _ (XL _ (XL _ (XL _ (XM _))))))).2.1,(P.bs (_,_) (XL _ (XL _ (XL _ (XL _ (XM _)))))).2.1,(P.bs (_,_) (XL _ (XL _ (XL _ (XM _))))).2.1,(P.bs (_,_) (XL _ (XL _ (XM _)))).2.1,(P.bs (_,_) (XL _ (XM _))).2.1,(P.bs (_,_) (XM _)).2.1,by have:=Wd;have:=L;omega,P7.jC.size,by have:=C.k1.1;have:=Wd;have:=L;omega,by have:=C.k2.1;have:=Wd;have:=L;omega,by have:=D.l1;have:=zN.size;omega,by have:=D.l2;have:=zN.size;omega⟩,λi hi=>by have:=(C.al i hi).1;have:=Wd;have:=L;omega⟩⟩
   .exact C.row.of_block (OH _ C.xI X)
   .have hA:=C.al i hi;exact hA.2.of (OH _ hA.2.lt X)
   .exact Xc C.own (by have:=P7.jC.size;have:=Wd;omega) (λj h1 h2=>OH j h2 X)
   .exact C.k1.2.of (OH _ C.k1.2.lt (Qj C.k1.1))
   .exact C.k2.2.of (OH _ C.k2.2.lt (Qj C.k2.1))
   .exact HP.o.kept Lg (Q6 _) (λb h1 h2=>D.zT b h2 X)
def zG(w0 w:U)(G:Nat)(ts:Qu af)(q:ae)(db cZ:Qu aS)(pl ns:Qu ag)(bc bf bk bu be bo bw bp bd:Nat)(v vr u1 u2:Qa)(A:Nat->Nat)(k1 k2 s1 s2:Nat)(x1 x2:Qa)
  (h:uu w0 w G 35 80 78 82 3 48 52 77 23 ts q db cZ pl ns bc bf bk bu be bo bw bp bd v vr u1 u2 A k1 k2 s1 s2 x1 x2)
  (hpl:N pl<=164703072086692425) (hdl:N db<=1152921504606846976) (hdr:∀i,i<N db->(E db i rz).rs.length<=1152921504606846976)
  (hts:N ts<=192153584101141162) (hwl:N q.wh<=1152921504606846976) (hcl:∀i,i<N q.wh->(E q.wh i lz).cs.length<=230584300921369395) :
  Cb 20 #[Y (O (aD G 0))] w (Qo T):=by
 have aG:Qm w (aD G 10)=O (Z (O (aD bc 0)) (N ts+2) (N ts+2)):=h.g.cell 10;have aH:Qm w (aD G 13)=O (Z (O (aD bp 0)) (N pl+2) (N pl+2)):=h.g.cell 13;have a0:Qm w (aD bc (N ts*6))=O (I J 77777):=(h.cat.cell _).trans (lg ts 0 X);have a1:Qm w (aD bc (N ts*6+1))=O (I J 0):=(h.cat.cell _).trans (lg ts 1 X);have a2:Qm w (aD bc (N ts*6+2))=O (I J 0):=(h.cat.cell _).trans (lg ts 2 X);have a3:Qm w (aD bc (N ts*6+3))=O (I J 0):=(h.cat.cell _).trans (lg ts 3 X);have a4:Qm w (aD bc (N ts*6+4))=O (I J 0):=(h.cat.cell _).trans (lg ts 4 X);have a5:Qm w (aD bc (N ts*6+5))=O (I J 0):=(h.cat.cell _).trans (lg ts 5 X);have b0:Qm w (aD bc ((N ts+1)*6))=O (I J 77777):=(h.cat.cell _).trans (lh ts 0 X);have b1:Qm w (aD bc ((N ts+1)*6+1))=O (I J 0):=(h.cat.cell _).trans (lh ts 1 X);have b2:Qm w (aD bc ((N ts+1)*6+2))=O (I J 0):=(h.cat.cell _).trans (lh ts 2 X);have b3:Qm w (aD bc ((N ts+1)*6+3))=O (I J 0):=(h.cat.cell _).trans (lh ts 3 X);have b4:Qm w (aD bc ((N ts+1)*6+4))=O (I J 0):=(h.cat.cell _).trans (lh ts 4 X);have b5:Qm w (aD bc ((N ts+1)*6+5))=O (I J 0):=(h.cat.cell _).trans (lh ts 5 X);have aI:∀(a b c e:Int) (x:U),(Op.equalIn 9999 46 (Qr #[I J a,I J b,I J c,I J e]) (Qr #[I J a,I J b,I J c,I J e])).run V x=.ok T x:=λa b c e x=>La 9997 a b c e x;have aJ:IntKind.i64.wrap (N pl:Int)=N pl:=by rw[Xm];omega
 have aK:(N pl:Int)<=N pl+2:=X;go_enter func20,ntmps20;go_wp2_with fail;have aa:bL (w.alloc (Qq (nk++nk).toArray 52)) (O (aD bp (N pl*7))) [jQ,jQ]:=(h.plan.kept (W':=w.alloc (Qq (nk++nk).toArray 52)) (Q6 _) h.far.2.2.2.2.2.2.2.1 (λb _ hl=>Zw hl)).acG;have ai:GB (w.alloc (Qq (nk++nk).toArray 52)) (M (H w)) 52 (nk++nk).toArray:=iB _ _;refine(oJ (O (aD bp (N pl*7))) (O (aD (M (H w)) 0)) 2 2 [jQ,jQ] [jQ,jQ] _ aa (Ii ai) rfl (λi hi=>⟨rfl,rfl,rfl,rfl,rfl,rfl,rfl⟩)).mono ?_;rintro e l ⟨rfl,au⟩;have aL:=ah (bz _ _) au;clear aJ aK hpl aa ai au a0 a1 a2 a3 a4 a5 b0 b1 b2 b3 b4 b5 aI;go_wp2_with fail;have r:∃u,u=((l.alloc (Qq ic.toArray 82)).alloc (Qq ic.toArray 82)).alloc (Qq #[Z (O (aD (M (H l)) 0)) 1 1,Z (O (aD (M (H l)+1) 0)) 1 1] 80):=⟨_,rfl⟩;obtain⟨u,r⟩:=r;have k3:Bw w u:=by rw[r];exact ah aL (ah (bz _ _) (ah (bz _ _) (bz _ _)))
 have o0:GB u (M (H l)) 82 ic.toArray:=by show u.heap[_]? = _;rw[r,Zw (by simp only[Xf];omega),Zw (by simp only[Xf];omega),iB]
 have o1:GB u (M (H l)+1) 82 ic.toArray:=by show u.heap[_]? = _;rw[r,Zw (by simp only[Xf];omega),show (M (H l))+1=M (H (l.alloc (Qq ic.toArray 82))) by simp,iB]
 have o2:GB u (M (H l)+2) 80 #[Z (O (aD (M (H l)) 0)) 1 1,Z (O (aD (M (H l)+1) 0)) 1 1]:=by show u.heap[_]? = _;rw[r,show (M (H l))+2=M (H ((l.alloc (Qq ic.toArray 82)).alloc (Qq ic.toArray 82))) by simp,iB]
 have hO:=EN (o2.cell 0) (o2.cell 1) o0 o1;have OI:Qm w (aD bw (N q.wh))=O (Z (O (aD k1 0)) 1 1):=by rw[h.row.cell X,Zf X,Q8 rfl]
 have OJ:Qm w (aD bw (N q.wh+1))=O (Z (O (aD k2 0)) 1 1):=by rw[h.row.cell X,Zf X,Zf X]
 have hI:=(EN OI OJ h.h1 h.h2).below k3;have C:Qm u (aD G 11)=O (Z (O (aD bw 0)) (N q.wh+2) (N q.wh+2)):=cB k3 (h.g.cell 11);have aM:Qm w (aD G 12)=O v:=h.g.cell 12;have aN:Qm w (aD G 15)=O vr:=h.g.cell 15;have aj:Qm w (aD G 14)=O (Z (O (aD bd 0)) (N db+2) (N db+2)):=h.g.cell 14;have z:=h.own;have D:=h.al;have d:=h.len;have d0:Qm w (aD bd (N db))=O (Z (O (aD s1 0)) 1 1):=by rw[h.Nl.cell,Zp,Zo Qi,ZR,d,Nat.sub_self,h.e1];rfl
 have d1:Qm w (aD bd (N db+1))=O (Z (O (aD s2 0)) 1 1):=by rw[h.Nl.cell,Zp,Zo Qi,ZR,d,show (N db)+1-N db=1 by omega,h.e2];rfl
 obtain⟨i1,av,_,ax⟩:=h.q1;obtain⟨i2,ay,_,az⟩:=h.q2;have e1:Qm w (aD s1 0)=O (Z (O (aD i1 0)) 1 1):=by rw[<-av];exact h.r1.cell 0
 have e2:Qm w (aD s2 0)=O (Z (O (aD i2 0)) 1 1):=by rw[<-ay];exact h.r2.cell 0
 have VM:Qk (∀k,k<N db->∃W j1 j2 m,(E cZ k rz).full=Z (O (aD W 0)) (m+2) (m+2)/\m<=1152921504606846976/\Qm w (aD W m)=O (Z (O (aD j1 0)) 1 1)/\Qm w (aD W (m+1))=O (Z (O (aD j2 0)) 1 1)/\GB w j1 3 #[I J 77777]/\GB w j2 3 #[I J 77777]):=λk y=>by
  obtain⟨W,a1,a2,t⟩:=h.tab k X;obtain⟨j1,aW,_,aX⟩:=t.k1;obtain⟨j2,aY,_,aZ⟩:=t.k2;refine⟨W,j1,j2,(E db k rz).rs.length,?_,hdr k y,?_,?_,aX,aZ⟩
  .unfold aS.full;rw[t.ad,t.len,t.cap]
  .rw[t.blk.cell,Zp,Zo (by rw[ZR,t.len];omega),ZR,t.len,Nat.sub_self,aW];rfl
  .rw[t.blk.cell,Zp,Zo (by rw[ZR,t.len];omega),ZR,t.len,show (E db k rz).rs.length+1-(E db k rz).rs.length=1 by omega,aY];rfl
 obtain⟨ro,rc,bg,Wn⟩:∃ro rc,vr=Z ro (N db) rc/\∀k,k<N db->∃g,ro=O (aD g 0)/\Qm w (aD g k)=O (E cZ k rz).full:=by
  rcases JN h.down with⟨S,h2⟩|⟨g,c,S,_,_,h4⟩
  .have:cZ = []:=List.map_eq_nil_iff.1 h2;rw[this]at d;exact⟨none,0,by rw[S,<-d];rfl,λk y=>absurd y (by rw[<-d];simp)⟩
  .refine⟨O (aD g 0),c,by rw[S,d],λk y=>⟨g,rfl,?_⟩⟩;have:=h4 k (E cZ k rz).full (by rw[List.getElem?_map];simp[List.getD,show k<N cZ by omega]);rw[addr_add,ZQ]at this;exact this
 subst bg;have aO:Qk _:=Wn;clear Wn av ay d hdr;clear OI OJ aG aH h hts;have ak:((l.alloc (Qq #[Qo F,I J 77777,I J 0,Qo F,I J 0] 82)).alloc (Qq #[Qo F,I J 77777,I J 0,Qo F,I J 0] 82)).alloc (Qq #[Z (O (aD (M (H l)) 0)) 1 1,Z (O (aD (M (H l)+1) 0)) 1 1] 80)=u:=r.symm;rw[ak];clear ak r o0 o1 o2;generalize hn:N q.wh=n at*;have aP:IntKind.i64.wrap (n:Int)=n:=by rw[Xm];omega
 have aQ:(n:Int)<=n+2:=X;refine Za ?_;go_big_quiet_want;refine⟨Y (O (aD G 0)),λx p=>?_,?_⟩
 .go_simp
 simp only[pA,sB,sC];go_big_quiet_on;go_big_quiet_want;refine⟨Y (O (aD G 0)),λx p=>?_,?_⟩
 .go_simp
 simp only[pA,sB,sC];go_big_quiet_on;go_big_quiet_want;refine⟨Y (O (aD G 11)),λx p=>?_,?_⟩
 .go_simp
 simp only[pA,sB,sC];go_big_quiet_on;go_big_quiet_want;refine⟨Z (O (aD bw 0)) (n+2) (n+2),λx p=>?_,?_⟩
 .have aR:=cB p C;go_simp
 simp only[pA,sB,sC];go_big_quiet_on;go_big_quiet_want;refine⟨Y (O (aD G 0)),λx p=>?_,?_⟩
 .go_simp
 simp only[pA,sB,sC];go_big_quiet_on;go_big_quiet_want;refine⟨Y (O (aD G 0)),λx p=>?_,?_⟩
 .go_simp
 simp only[pA,sB,sC];go_big_quiet_on;go_big_quiet_want;refine⟨Y (O (aD G 11)),λx p=>?_,?_⟩
 .go_simp
 simp only[pA,sB,sC];go_big_quiet_on;go_big_quiet_want;refine⟨Z (O (aD bw 0)) (n+2) (n+2),λx p=>?_,?_⟩
 .have aR:=cB p C;go_simp
 simp only[pA,sB,sC];go_big_quiet_on;go_big_quiet_want;refine⟨I J ((n:Int)+2),λx p=>?_,?_⟩
 .go_simp
 simp only[pA,sB,sC];go_big_quiet_on;go_big_quiet_want;refine⟨I J n,λx p=>?_,?_⟩
 .go_simp
 simp only[pA,sB,sC];go_big_quiet_on;go_big_quiet_want;refine⟨Z (O (aD bw n)) 2 2,λx p=>?_,?_⟩
 .go_simp
 simp only[pA,sB,sC];go_big_quiet_on;go_big_quiet_want;refine⟨Z (O (aD (M (H l)+2) 0)) 2 2,λx p=>?_,?_⟩
 .go_simp
 simp only[pA,sB,sC];go_big_quiet_on;go_big_quiet_want;refine⟨Qo T,λx p=>?_,?_⟩
 .have hC:Calls V 17 #[Z (O (aD bw n)) 2 2,Z (O (aD (M (H l)+2) 0)) 2 2] x λe bq=>e=Qs (Qo T)/\Bw u bq:=Zb p (nE (O (aD bw n)) (O (aD (M (H l)+2) 0)) 2 2 [⟨O (aD k1 0),1,[sj]⟩,⟨O (aD k2 0),1,[sj]⟩] [⟨O (aD (M (H l)) 0),1,[sj]⟩,⟨O (aD (M (H l)+1) 0),1,[sj]⟩] x (hI.below p) (hO.below p) rfl (Lb _ _ _ _))
  go_simp
 simp only[pA,sB,sC];go_big_quiet_on;go_big_quiet_want;refine⟨Qo T,λx p=>?_,?_⟩
 .go_simp
 simp only[pA,sB,sC];go_big_quiet_on;refine Xo ?_;intro w4 aF;have k4:=ah k3 aF;clear hO hI C aF k3 aP aQ;obtain⟨vo,vc,hv,Sb⟩:∃vo vc,v=Z vo n vc/\∀k,k<n->∃g,vo=O (aD g 0)/\Qm w (aD g k)=O (Z (O (aD (A k) 0)) ((E q.wh k lz).cs.length+2) ((E q.wh k lz).cs.length+2)):=by
  rcases z.2 with⟨rfl,hn0⟩|⟨g,cap,cur,rfl,_,hh,_,_,_,t⟩
  .exact⟨none,0,by rw[hn0],λk y=>absurd y X⟩
  .refine⟨_,_,rfl,λk y=>⟨g,rfl,?_⟩⟩;have S:(cur.toList.take (n*1))[k]? = O (Z (O (aD (A k) 0)) ((E q.wh k lz).cs.length+2) ((E q.wh k lz).cs.length+2)):=by rw[t,List.getElem?_map,List.getElem?_range y];rfl
   rw[List.getElem?_take_of_lt X]at S;simp only[World.cell?,hh];simpa using S
 subst hv;clear z;go_wp2;go_loopw [8] (λi wr=>∃k:Nat,k<=n/\i=I J k/\Bw w wr) (λi _=>n-(intOf i).toNat)
 case atStart=>exact⟨0,ZP _,rfl,k4⟩
 case round=>
  obtain⟨k,y,rfl,f⟩:=hrel;have aT:=cB f aM;by_cases R:k<n
  .obtain⟨g,rfl,R4⟩:=Sb k R;have aU:=cB f R4;have j:=D k R;have bC:=hcl k R;generalize (E q.wh k lz).cs=cs at*;have p0:Qm wr (aD (A k) (N cs*5))=O (Qo F):=cB f ((j.cell _).trans (nG cs 0 X));have p1:Qm wr (aD (A k) (N cs*5+1))=O (I J 77777):=cB f ((j.cell _).trans (nG cs 1 X));have p2:Qm wr (aD (A k) (N cs*5+2))=O (I J 0):=cB f ((j.cell _).trans (nG cs 2 X));have p3:Qm wr (aD (A k) (N cs*5+3))=O (Qo F):=cB f ((j.cell _).trans (nG cs 3 X));have p4:Qm wr (aD (A k) (N cs*5+4))=O (I J 0):=cB f ((j.cell _).trans (nG cs 4 X));have r0:Qm wr (aD (A k) ((N cs+1)*5))=O (Qo F):=cB f ((j.cell _).trans (nH cs 0 X));have r1:Qm wr (aD (A k) ((N cs+1)*5+1))=O (I J 77777):=cB f ((j.cell _).trans (nH cs 1 X));have r2:Qm wr (aD (A k) ((N cs+1)*5+2))=O (I J 0):=cB f ((j.cell _).trans (nH cs 2 X));have r3:Qm wr (aD (A k) ((N cs+1)*5+3))=O (Qo F):=cB f ((j.cell _).trans (nH cs 3 X));have r4:Qm wr (aD (A k) ((N cs+1)*5+4))=O (I J 0):=cB f ((j.cell _).trans (nH cs 4 X));clear j D Sb hcl;go_wp2;go_roundw
   case rel=>exact⟨k+1,X,Qf,f⟩
   case measure=>exact Qw
  .clear D Sb hcl;go_wp2;go_loopw [10] (λi bA=>∃k:Nat,k<=N db/\i=I J k/\Bw w bA) (λi _=>N db-(intOf i).toNat)
   case atStart=>exact⟨0,ZP _,rfl,f⟩
   case round=>
    obtain⟨k,y,rfl,L⟩:=hrel;clear aT f;obtain⟨bn,aA⟩:=iA L aN aj;by_cases B:k<N db
    .obtain⟨g,rfl,R4⟩:=aO.o k B;obtain⟨W,j1,j2,m,K5,hm,aB,aC,P,Q⟩:=VM.o k B;rw[K5]at R4;obtain⟨aU,bN,bO⟩:=TB L R4 aB aC;have uo:=lY j1 wr (P.of (L.block _ P.lt));have K:=lY j2 wr (Q.of (L.block _ Q.lt));have bD:((m+2:Nat):Int)-1=((m+1:Nat):Int):=X
     have bE:((m+2:Nat):Int)-2=(m:Int):=X;have bF:(m:Int)+2-1=(m:Int)+1:=X;have bG:(m:Int)+2-2=(m:Int):=X;have bH:IntKind.i64.wrap ((m:Int)+1)=(m:Int)+1:=by rw[Xm];omega
     have bI:IntKind.i64.wrap (m:Int)=(m:Int):=by rw[Xm];omega
     have bJ:((m:Int)+1).toNat=m+1:=X;clear K5 R4 aB aC P Q;go_wp2_with fail;refine K.mono ?_;rintro e w9 ⟨rfl,rfl⟩;go_wp2_with fail;refine uo.mono ?_;rintro e w9 ⟨rfl,rfl⟩;go_wp2;go_roundw
     case rel=>exact⟨k+1,X,Qf,L⟩
     case measure=>exact Qw
    .have wd:((N db+2:Nat):Int)-2=(N db:Int):=X
     have bK:(N db:Int)+2-2=(N db:Int):=X;have bM:IntKind.i64.wrap (N db:Int)=(N db:Int):=by rw[Xm];omega
     go_wp2;go_loopw [14] (λi bB=>∃k:Nat,k<=2/\i=I J ((N db+k:Nat):Int)/\Bw w bB) (λi _=>N db+2-(intOf i).toNat)
     case atStart=>exact⟨0,ZP _,by first|rfl|simp,L⟩
     case round=>
      clear aA bn L;obtain⟨k,y,rfl,sw⟩:=hrel;obtain⟨aA,n0,n1,n2,n3⟩:=gM sw aj d0 d1 e1 e2;have uo:=lY i1 wr (ax.of (sw.block _ ax.lt));have K:=lY i2 wr (az.of (sw.block _ az.lt));by_cases bP:k<2
      .rcases (by omega:k=0∨k=1) with rfl|rfl
       .go_wp2_with fail;refine uo.mono ?_;rintro e w9 ⟨rfl,rfl⟩;go_wp2;go_roundw
        case rel=>exact⟨1,X,Qf,sw⟩
        case measure=>first|(simp[intOf];done)|(simp[intOf];omega)
       .go_wp2_with fail;refine K.mono ?_;rintro e w9 ⟨rfl,rfl⟩;go_wp2;go_roundw
        case rel=>exact⟨2,X,Qf,sw⟩
        case measure=>first|(simp[intOf];done)|(simp[intOf];omega)
      .have aV:k=2:=X
       subst aV;go_wp2;go_ret;exact⟨rfl,sw⟩
def xE(ao bo:JW)(cap cap':Nat)(rs ss:Qu ai)(w:U)(hx:jD w ao rs)(hy:jD w bo ss)(he:N rs=N ss)(hs:∀i,i<N rs->(E rs i iz).xs=(E ss i iz).xs) :
  Cb 21 #[Z ao (N rs) cap,Z bo (N ss) cap'] w (Qo T):=by
 have D:=hx.1;rw[<-he];have e:Qk (N rs=N ss):=he;clear he;have y:((N rs:Int) != N rs)=false:=Qb;go_enter func21,ntmps21;go_wp2;go_loopw [5] (λi wr=>∃k:Nat,k<=N rs/\i=I J k/\∃n,wr=w.drewN n) (λi _=>N rs-(intOf i).toNat)
 case atStart=>exact⟨0,ZP _,rfl,0,rfl⟩
 case round=>
  obtain⟨k,K,rfl,n,rfl⟩:=hrel;by_cases a:k<N rs
  .obtain⟨b,z,rfl,u⟩:=hx.2.1.get a;obtain⟨L,v,rfl,d⟩:=hy.2.1.get (show k<N ss by have:=e.o;omega);have q:=u k a;have r:=d k (Qj e.o);have f:=hx.2.2 k a;have g:=hy.2.2 k (Qj e.o);have t:=hs k a;clear u d hx hy hs;generalize E rs k iz=x1,E ss k iz=x2 at*;obtain⟨A,B,j⟩:=x1;obtain⟨l,p,C⟩:=x2;simp only at t;subst t;unfold ai.At at f g;unfold ai.val at q r;simp only at q r f g;go_wp2;refine wp_region_quiet_lit Qe Qe ?_
   repeat (go_big_quiet_step (fail))
   go_big_quiet_want;refine⟨Qo T,λx hx=>?_,?_⟩
   .obtain⟨m,rfl⟩:=hx;have G:=jI A l B p j w n m f g;go_simp
   simp only[pA,sB,sC];go_big_quiet_on
   repeat (go_big_quiet_step (fail))
   refine Xo ?_;intro x hx;obtain⟨m,rfl⟩:=hx;rw[World.drewN_drewN];generalize n+m=n';go_wp2;go_roundw
   case rel=>exact⟨k+1,X,Qf,_,rfl⟩
   case measure=>exact Qw
  .go_wp2;go_ret;exact⟨rfl,Zc (Q5 _ _) _⟩
def BI(w0 w:U)(G:Nat)(ao d po:JW)(cap BA aU:Nat)(ts:Qu af)(q:ae)(db cZ:Qu aS)(pl ns:Qu ag)(bc bf bk bu be bo bw bp bd:Nat)(v vr u1 u2:Qa)(A:Nat->Nat)(k1 k2 s1 s2:Nat)(x1' x2':Qa)
  (h:uu w0 w G 35 80 78 82 3 48 52 77 23 ts q db cZ pl ns bc bf bk bu be bo bw bp bd v vr u1 u2 A k1 k2 s1 s2 x1' x2') (hx:aI w ao ts) (hq:q.At w) (hd:uJ w d db) (hp:bL w po pl) :
  Cb 8 #[Y (O (aD G 0)),Z ao (N ts) cap,Qr q.cells,Z po (N pl) aU,Z d (N db) BA] w (Qo T):=by
 have aM:=hx.1;obtain⟨f,aC⟩:=eY (w.alloc (Qq q.cells 26));have K:Bw w f:=by rw[aC];exact bz _ _
 have bO:GB f (M (H w)) 26 q.cells:=by rw[aC];exact iB _ _
 have p:=h.below K;have hX:aI f ao ts:=hx.below K;have hQ:q.At f:=hq.below K;have hT:aI f (O (aD bc 0)) ts:=DF p.cat aM;have aZ:(nD q bf bk bu be bo bw A).At f:=pM p hq;have bg:=λx (m:Bw f x)=>zG w0 x G ts q db cZ pl ns bc bf bk bu be bo bw bp bd v vr u1 u2 A k1 k2 s1 s2 x1' x2' (p.below m) hp.1 hd.1 (λi R=>(hd.2.2 i R).1) aM hq.wh.1 (λi R=>(hq.wh.2.2 i R).1);have aN:Qk (uJ f d db):=hd.below K;have aO:Qk (uJ f (O (aD bd 0)) cZ):=(p.had hd).1;have bn:Qk _:=p.same;have GX:Qk _:=p.len;have Ty:Qk (∀i,i<N db->∀j,j<(E db i rz).rs.length->∃B,(E cZ i rz).rs.getD j iz=⟨O (aD B 0),((E db i rz).rs.getD j iz).xs.length+2,((E db i rz).rs.getD j iz).xs⟩/\GB f B 3 (aK ((E db i rz).rs.getD j iz).xs)):=λi R j hj=>by obtain⟨Tq,a,b,ht⟩:=p.tab i (Qj p.len);obtain⟨B,e,_,hB⟩:=ht.rows j hj;exact⟨B,e,hB⟩
 have dw:=hd.1;have aP:=λx (m:Bw f x)=>nE (O (aD bw 0)) q.bF (N q.wh+2) q.aG (iy q.wh A) q.wh x (aZ.wh.below m) (hQ.wh.below m) (eO _ _) (λi R=>by rw[eO]at R;rw[rZ _ _ R]);have bq:=λx (m:Bw f x)=>gK bf q.src.ad q.src.cap q.src.xs x (p.src.of (m.block _ p.src.lt)) (Q7 m hQ.src);have bA:=λx (m:Bw f x)=>gK bk q.keys.ad q.keys.cap q.keys.xs x (p.keys.of (m.block _ p.keys.lt)) (Q7 m hQ.keys);have bB:=λx (m:Bw f x)=>gK bu q.sums.ad q.sums.cap q.sums.xs x (p.sums.of (m.block _ p.sums.lt)) (Q7 m hQ.sums);have bC:=λx (m:Bw f x)=>gK be q.ay.ad q.ay.cap q.ay.xs x (p.ay.of (m.block _ p.ay.lt)) (Q7 m hQ.ay);have bD:=λx (m:Bw f x)=>gK bo q.ord.ad q.ord.cap q.ord.xs x (p.ord.of (m.block _ p.ord.lt)) (Q7 m hQ.ord);have aQ:bL f po pl:=hp.below K;have bE:=p.plan.nodes hp;have ax:N (ns.take (N pl))=N pl:=by rw[Xu,p.plan.len];omega
 have aR:=λx (m:Bw f x)=>oJ (O (aD bp 0)) po (N pl+2) aU (ns.take (N pl)) pl x (bE.below m) (aQ.below m) ax (λi R=>p.plan.same i (by rw[ax]at R;exact R));rw[ax]at aR;have X9:Qk (∀i,i<N pl->∃P Q,Qm f (aD bp (i*7+4))=O (Z (O (aD P 0)) (E pl i nz).cl.xs.length ((E pl i nz).cl.xs.length+2))/\Qm f (aD bp (i*7+6))=O (Z (O (aD Q 0)) (E pl i nz).co.xs.length ((E pl i nz).co.xs.length+2))/\
   GB f P 3 (aK (E pl i nz).cl.xs)/\GB f Q 3 (aK (E pl i nz).co.xs)):=λi R=>by obtain⟨c,hc,hn⟩:=p.plan.blk;obtain⟨P,Q,e,_,_,hP,bP⟩:=p.plan.zD i R;obtain⟨_,_,_,_,a4,_,a6⟩:=hn.at hc (show i<N ns by rw[p.plan.len];omega);rw[e]at a4 a6;exact⟨P,Q,a4,a6,hP,bP⟩
 have IM:Qk _:=aQ;have dx:=hp.1;rw[eO]at aP;have g0:Qm f (aD G 0)=O (Z (O (aD bc 0)) (N ts) (N ts+2)):=p.g.cell 0;have g1:Qm f (aD G 1)=O (Z (O (aD bf 0)) (N q.src.xs) (N q.src.xs+2)):=p.g.cell 1;have g2:Qm f (aD G 2)=O (Z (O (aD bw 0)) (N q.wh) (N q.wh+2)):=p.g.cell 2;have g4:Qm f (aD G 4)=O (Z (O (aD bk 0)) (N q.keys.xs) (N q.keys.xs+2)):=p.g.cell 4;have g5:Qm f (aD G 5)=O (Z (O (aD bu 0)) (N q.sums.xs) (N q.sums.xs+2)):=p.g.cell 5;have g6:Qm f (aD G 6)=O (Z (O (aD be 0)) (N q.ay.xs) (N q.ay.xs+2)):=p.g.cell 6;have g7:Qm f (aD G 7)=O (Z (O (aD bo 0)) (N q.ord.xs) (N q.ord.xs+2)):=p.g.cell 7;have g8:Qm f (aD G 8)=O (Z (O (aD bp 0)) (N pl) (N pl+2)):=p.g.cell 8;have g9:Qm f (aD G 9)=O (Z (O (aD bd 0)) (N db) (N db+2)):=p.g.cell 9;have dz:((N db:Int) != (N db:Int))=false:=Qb;obtain⟨⟨sa,sc,W⟩,bF,aG,wh,aF,⟨ka,kc,u⟩,⟨ua,uc,y⟩,⟨ea,ec,ay⟩,⟨oa,oc,aa⟩⟩:=q;unfold ae.cells ai.val at*;simp only at*;have x0:Qm f (aD (M (H w)) 0)=O (Z sa (N W) sc):=bO.cell 0;have x1:Qm f (aD (M (H w)) 1)=O (Z bF (N wh) aG):=bO.cell 1;have x3:Qm f (aD (M (H w)) 3)=O (Z ka (N u) kc):=bO.cell 3;have x4:Qm f (aD (M (H w)) 4)=O (Z ua (N y) uc):=bO.cell 4;have x5:Qm f (aD (M (H w)) 5)=O (Z ea (N ay) ec):=bO.cell 5;have x6:Qm f (aD (M (H w)) 6)=O (Z oa (N aa) oc):=bO.cell 6;have CV:Qk (Bw f (w.alloc (Qq #[Z sa (N W) sc,Z bF (N wh) aG,Qo aF,Z ka (N u) kc,Z ua (N y) uc,Z ea (N ay) ec,Z oa (N aa) oc] 26))):=show Below _ _ _ by rw[aC];exact Q5 _ _
 have o8:Qk (Bw w f):=K;have bG:∀(a b c e:Int) (x:U),(Op.equalIn 9999 46 (Qr #[I J a,I J b,I J c,I J e]) (Qr #[I J a,I J b,I J c,I J e])).run V x=.ok T x:=λa b c e x=>La 9997 a b c e x;go_enter func8,ntmps8;go_wp2;go_loopw [11] (λi wr=>∃k:Nat,k<=N ts/\i=I J k/\Bw f wr) (λi _=>N ts-(intOf i).toNat)
 case atStart=>exact⟨0,ZP _,rfl,CV.o⟩
 case round=>
  clear CV;obtain⟨k,hk,rfl,D⟩:=hrel;by_cases aX:k<N ts
  .obtain⟨b,dD,rfl,c0,c1,c2,c3,c4,c5⟩:=hX.2 k aX;obtain⟨b',dm,bQ,d0,d1,d2,d3,d4,d5⟩:=hT.2 k aX
   cases bQ;generalize E ts k tz=t at*;obtain⟨m0,m1,m2,m3,m4,m5,n0,n1⟩:=oK D c0 c1 c2 c3 c4 c5 d0 d1;obtain⟨n2,n3,n4,n5,gg⟩:=gM D d2 d3 d4 d5 g0;simp only[ZQ]at n0 n1 n2 n3 n4 n5;go_wp2;go_quiet (fail);go_wp2;go_roundw
   case rel=>exact⟨k+1,X,Qf,Zc D _⟩
   case measure=>exact Qw
  .clear hX hT bG;go_wp2;refine Za ?_;go_big_quiet_want;refine⟨Y (O (aD G 0)),λx hx=>?_,?_⟩
   .go_simp
   simp only[pA,sB,sC];go_big_quiet_on;go_big_quiet_want;refine⟨Y (O (aD G 0)),λx hx=>?_,?_⟩
   .go_simp
   simp only[pA,sB,sC];go_big_quiet_on;go_big_quiet_want;refine⟨Y (O (aD G 1)),λx hx=>?_,?_⟩
   .go_simp
   simp only[pA,sB,sC];go_big_quiet_on;go_big_quiet_want;refine⟨Y (O (aD G 2)),λx hx=>?_,?_⟩
   .go_simp
   simp only[pA,sB,sC];go_big_quiet_on;go_big_quiet_want;refine⟨Z (O (aD bw 0)) (N wh) (N wh+2),λx hx=>?_,?_⟩
   .have e:=cB (ah D hx) g2;go_simp
   simp only[pA,sB,sC];go_big_quiet_on;go_big_quiet_want;refine⟨Y (O (aD (M (H w)) 1)),λx hx=>?_,?_⟩
   .go_simp
   simp only[pA,sB,sC];go_big_quiet_on;go_big_quiet_want;refine⟨Z bF (N wh) aG,λx hx=>?_,?_⟩
   .have e:=cB (ah D hx) x1;go_simp
   simp only[pA,sB,sC];go_big_quiet_on;go_big_quiet_want;refine⟨Qo T,λx hx=>?_,?_⟩
   .have hC:=Zb hx (aP x (ah D hx));go_simp
   simp only[pA,sB,sC];go_big_quiet_on;go_big_quiet_want;refine⟨Qo T,λx hx=>?_,?_⟩
   .go_simp
   simp only[pA,sB,sC];go_big_quiet_on;refine Xo ?_;intro wa cu;have YG:=ah D cu;go_wp2;refine Za ?_;go_big_quiet_want;refine⟨Y (O (aD G 0)),λx hx=>?_,?_⟩
   .go_simp
   simp only[pA,sB,sC];go_big_quiet_on;go_big_quiet_want;refine⟨Y (O (aD G 0)),λx hx=>?_,?_⟩
   .go_simp
   simp only[pA,sB,sC];go_big_quiet_on;go_big_quiet_want;refine⟨Y (O (aD G 1)),λx hx=>?_,?_⟩
   .go_simp
   simp only[pA,sB,sC];go_big_quiet_on;go_big_quiet_want;refine⟨Y (O (aD G 1)),λx hx=>?_,?_⟩
   .go_simp
   simp only[pA,sB,sC];go_big_quiet_on;go_big_quiet_want;refine⟨Z (O (aD bf 0)) (N W) (N W+2),λx hx=>?_,?_⟩
   .have e:=cB (ah YG hx) g1;go_simp
   simp only[pA,sB,sC];go_big_quiet_on;go_big_quiet_want;refine⟨Y (O (aD (M (H w)) 0)),λx hx=>?_,?_⟩
   .go_simp
   simp only[pA,sB,sC];go_big_quiet_on;go_big_quiet_want;refine⟨Z sa (N W) sc,λx hx=>?_,?_⟩
   .have e:=cB (ah YG hx) x0;go_simp
   simp only[pA,sB,sC];go_big_quiet_on;go_big_quiet_want;refine⟨Qo T,λx hx=>?_,?_⟩
   .have hC:=Zb hx (bq x (ah YG hx));go_simp
   simp only[pA,sB,sC];go_big_quiet_on;go_big_quiet_want;refine⟨Qo T,λx hx=>?_,?_⟩
   .go_simp
   simp only[pA,sB,sC];go_big_quiet_on;refine Xo ?_;intro wb cz;have IQ:=ah YG cz;go_wp2;refine Za ?_;go_big_quiet_want;refine⟨Y (O (aD G 0)),λx hx=>?_,?_⟩
   .go_simp
   simp only[pA,sB,sC];go_big_quiet_on;go_big_quiet_want;refine⟨Y (O (aD G 0)),λx hx=>?_,?_⟩
   .go_simp
   simp only[pA,sB,sC];go_big_quiet_on;go_big_quiet_want;refine⟨Y (O (aD G 1)),λx hx=>?_,?_⟩
   .go_simp
   simp only[pA,sB,sC];go_big_quiet_on;go_big_quiet_want;refine⟨Y (O (aD G 4)),λx hx=>?_,?_⟩
   .go_simp
   simp only[pA,sB,sC];go_big_quiet_on;go_big_quiet_want;refine⟨Z (O (aD bk 0)) (N u) (N u+2),λx hx=>?_,?_⟩
   .have e:=cB (ah IQ hx) g4;go_simp
   simp only[pA,sB,sC];go_big_quiet_on;go_big_quiet_want;refine⟨Y (O (aD (M (H w)) 3)),λx hx=>?_,?_⟩
   .go_simp
   simp only[pA,sB,sC];go_big_quiet_on;go_big_quiet_want;refine⟨Z ka (N u) kc,λx hx=>?_,?_⟩
   .have e:=cB (ah IQ hx) x3;go_simp
   simp only[pA,sB,sC];go_big_quiet_on;go_big_quiet_want;refine⟨Qo T,λx hx=>?_,?_⟩
   .have hC:=Zb hx (bA x (ah IQ hx));go_simp
   simp only[pA,sB,sC];go_big_quiet_on;go_big_quiet_want;refine⟨Qo T,λx hx=>?_,?_⟩
   .go_simp
   simp only[pA,sB,sC];go_big_quiet_on;refine Xo ?_;intro wc cK;have YH:=ah IQ cK;go_wp2;refine Za ?_;go_big_quiet_want;refine⟨Y (O (aD G 0)),λx hx=>?_,?_⟩
   .go_simp
   simp only[pA,sB,sC];go_big_quiet_on;go_big_quiet_want;refine⟨Y (O (aD G 0)),λx hx=>?_,?_⟩
   .go_simp
   simp only[pA,sB,sC];go_big_quiet_on;go_big_quiet_want;refine⟨Y (O (aD G 1)),λx hx=>?_,?_⟩
   .go_simp
   simp only[pA,sB,sC];go_big_quiet_on;go_big_quiet_want;refine⟨Y (O (aD G 5)),λx hx=>?_,?_⟩
   .go_simp
   simp only[pA,sB,sC];go_big_quiet_on;go_big_quiet_want;refine⟨Z (O (aD bu 0)) (N y) (N y+2),λx hx=>?_,?_⟩
   .have e:=cB (ah YH hx) g5;go_simp
   simp only[pA,sB,sC];go_big_quiet_on;go_big_quiet_want;refine⟨Y (O (aD (M (H w)) 4)),λx hx=>?_,?_⟩
   .go_simp
   simp only[pA,sB,sC];go_big_quiet_on;go_big_quiet_want;refine⟨Z ua (N y) uc,λx hx=>?_,?_⟩
   .have e:=cB (ah YH hx) x4;go_simp
   simp only[pA,sB,sC];go_big_quiet_on;go_big_quiet_want;refine⟨Qo T,λx hx=>?_,?_⟩
   .have hC:=Zb hx (bB x (ah YH hx));go_simp
   simp only[pA,sB,sC];go_big_quiet_on;go_big_quiet_want;refine⟨Qo T,λx hx=>?_,?_⟩
   .go_simp
   simp only[pA,sB,sC];go_big_quiet_on;refine Xo ?_;intro wd cO;have YI:=ah YH cO;go_wp2;refine Za ?_;go_big_quiet_want;refine⟨Y (O (aD G 0)),λx hx=>?_,?_⟩
   .go_simp
   simp only[pA,sB,sC];go_big_quiet_on;go_big_quiet_want;refine⟨Y (O (aD G 0)),λx hx=>?_,?_⟩
   .go_simp
   simp only[pA,sB,sC];go_big_quiet_on;go_big_quiet_want;refine⟨Y (O (aD G 1)),λx hx=>?_,?_⟩
   .go_simp
   simp only[pA,sB,sC];go_big_quiet_on;go_big_quiet_want;refine⟨Y (O (aD G 6)),λx hx=>?_,?_⟩
   .go_simp
   simp only[pA,sB,sC];go_big_quiet_on;go_big_quiet_want;refine⟨Z (O (aD be 0)) (N ay) (N ay+2),λx hx=>?_,?_⟩
   .have e:=cB (ah YI hx) g6;go_simp
   simp only[pA,sB,sC];go_big_quiet_on;go_big_quiet_want;refine⟨Y (O (aD (M (H w)) 5)),λx hx=>?_,?_⟩
   .go_simp
   simp only[pA,sB,sC];go_big_quiet_on;go_big_quiet_want;refine⟨Z ea (N ay) ec,λx hx=>?_,?_⟩
   .have e:=cB (ah YI hx) x5;go_simp
   simp only[pA,sB,sC];go_big_quiet_on;go_big_quiet_want;refine⟨Qo T,λx hx=>?_,?_⟩
   .have hC:=Zb hx (bC x (ah YI hx));go_simp
   simp only[pA,sB,sC];go_big_quiet_on;go_big_quiet_want;refine⟨Qo T,λx hx=>?_,?_⟩
   .go_simp
   simp only[pA,sB,sC];go_big_quiet_on;refine Xo ?_;intro we df;have YJ:=ah YI df;go_wp2;refine Za ?_;go_big_quiet_want;refine⟨Y (O (aD G 0)),λx hx=>?_,?_⟩
   .go_simp
   simp only[pA,sB,sC];go_big_quiet_on;go_big_quiet_want;refine⟨Y (O (aD G 0)),λx hx=>?_,?_⟩
   .go_simp
   simp only[pA,sB,sC];go_big_quiet_on;go_big_quiet_want;refine⟨Y (O (aD G 1)),λx hx=>?_,?_⟩
   .go_simp
   simp only[pA,sB,sC];go_big_quiet_on;go_big_quiet_want;refine⟨Y (O (aD G 7)),λx hx=>?_,?_⟩
   .go_simp
   simp only[pA,sB,sC];go_big_quiet_on;go_big_quiet_want;refine⟨Z (O (aD bo 0)) (N aa) (N aa+2),λx hx=>?_,?_⟩
   .have e:=cB (ah YJ hx) g7;go_simp
   simp only[pA,sB,sC];go_big_quiet_on;go_big_quiet_want;refine⟨Y (O (aD (M (H w)) 6)),λx hx=>?_,?_⟩
   .go_simp
   simp only[pA,sB,sC];go_big_quiet_on;go_big_quiet_want;refine⟨Z oa (N aa) oc,λx hx=>?_,?_⟩
   .have e:=cB (ah YJ hx) x6;go_simp
   simp only[pA,sB,sC];go_big_quiet_on;go_big_quiet_want;refine⟨Qo T,λx hx=>?_,?_⟩
   .have hC:=Zb hx (bD x (ah YJ hx));go_simp
   simp only[pA,sB,sC];go_big_quiet_on;go_big_quiet_want;refine⟨Qo T,λx hx=>?_,?_⟩
   .go_simp
   simp only[pA,sB,sC];go_big_quiet_on;refine Xo ?_;intro wf dh;have az:=ah YJ dh;have e8:=cB az g8;go_wp2_with fail;refine(aR _ az).mono ?_;rintro e wg ⟨rfl,bR⟩;have kg:=ah az bR;go_wp2_with fail;refine(bg _ kg).mono ?_;rintro e dE ⟨rfl,bS⟩;have kh:=ah kg bS;have e9:=cB kh g9;go_wp2;go_loopw [20] (λiv aL=>∃i:Nat,i<=N pl/\iv=I J i/\Bw f aL) (λiv _=>N pl-(intOf iv).toNat)
   case atStart=>exact⟨0,ZP _,rfl,kh⟩
   case round=>
   obtain⟨i,bT,rfl,jR⟩:=hrel;by_cases z:i<N pl
   .obtain⟨xb,xo,rfl,_,_,_,_,n4,_,n6,r,aW⟩:=IM.o.2 i z;obtain⟨P,Q,l4,l6,hP,hQ⟩:=X9.o i z;generalize E pl i nz=n at*;obtain⟨dn,nl,nr,aY,⟨ca,cc,cx⟩,key,⟨Tj,Tk,ox⟩⟩:=n;simp only at n4 n6 l4 l6 hP hQ r aW;have bH:=λx (m:Bw f x)=>gK P ca cc cx x (hP.of (m.block _ hP.lt)) (Q7 m r)
    have bI:=λx (m:Bw f x)=>gK Q Tj Tk ox x (hQ.of (m.block _ hQ.lt)) (Q7 m aW);go_wp2;refine Za ?_;go_big_quiet_want;refine⟨Y (O (aD G 0)),λx hx=>?_,?_⟩
    .go_simp
    simp only[pA,sB,sC];go_big_quiet_on;go_big_quiet_want;refine⟨Y (O (aD G 0)),λx hx=>?_,?_⟩
    .go_simp
    simp only[pA,sB,sC];go_big_quiet_on;go_big_quiet_want;refine⟨Y (O (aD G 8)),λx hx=>?_,?_⟩
    .go_simp
    simp only[pA,sB,sC];go_big_quiet_on;go_big_quiet_want;refine⟨Z (O (aD bp 0)) (N pl) (N pl+2),λx hx=>?_,?_⟩
    .have e:=cB (ah jR hx) g8;go_simp
    simp only[pA,sB,sC];go_big_quiet_on;go_big_quiet_want;refine⟨I J i,λx hx=>?_,?_⟩
    .go_simp
    simp only[pA,sB,sC];go_big_quiet_on;go_big_quiet_want;refine⟨Y (O (aD bp (i*7))),λx hx=>?_,?_⟩
    .go_simp
    simp only[pA,sB,sC];go_big_quiet_on;go_big_quiet_want;refine⟨Y (O (aD bp (i*7+4))),λx hx=>?_,?_⟩
    .go_simp
    simp only[pA,sB,sC];go_big_quiet_on;go_big_quiet_want;refine⟨Z (O (aD P 0)) (N cx) (N cx+2),λx hx=>?_,?_⟩
    .have e:=cB (ah jR hx) l4;go_simp
    simp only[pA,sB,sC];go_big_quiet_on;go_big_quiet_want;refine⟨Z (O (aD xb xo)) (N pl) aU,λx hx=>?_,?_⟩
    .go_simp
    simp only[pA,sB,sC];go_big_quiet_on;go_big_quiet_want;refine⟨I J i,λx hx=>?_,?_⟩
    .go_simp
    simp only[pA,sB,sC];go_big_quiet_on;go_big_quiet_want;refine⟨Y (O (aD xb (xo+i*7))),λx hx=>?_,?_⟩
    .go_simp
    simp only[pA,sB,sC];go_big_quiet_on;go_big_quiet_want;refine⟨Y (O (aD xb (xo+i*7+4))),λx hx=>?_,?_⟩
    .go_simp
    simp only[pA,sB,sC];go_big_quiet_on;go_big_quiet_want;refine⟨Z ca (N cx) cc,λx hx=>?_,?_⟩
    .have e:=cB (ah jR hx) n4;go_simp
    simp only[pA,sB,sC];go_big_quiet_on;go_big_quiet_want;refine⟨Qo T,λx hx=>?_,?_⟩
    .have hC:=Zb hx (bH x (ah jR hx));go_simp
    simp only[pA,sB,sC];go_big_quiet_on;go_big_quiet_want;refine⟨Qo T,λx hx=>?_,?_⟩
    .go_simp
    simp only[pA,sB,sC];go_big_quiet_on;refine Xo ?_;intro wq aH;have kq:=ah jR aH;go_wp2;refine Za ?_;go_big_quiet_want;refine⟨Y (O (aD G 0)),λx hx=>?_,?_⟩
    .go_simp
    simp only[pA,sB,sC];go_big_quiet_on;go_big_quiet_want;refine⟨Y (O (aD G 0)),λx hx=>?_,?_⟩
    .go_simp
    simp only[pA,sB,sC];go_big_quiet_on;go_big_quiet_want;refine⟨Y (O (aD G 8)),λx hx=>?_,?_⟩
    .go_simp
    simp only[pA,sB,sC];go_big_quiet_on;go_big_quiet_want;refine⟨Z (O (aD bp 0)) (N pl) (N pl+2),λx hx=>?_,?_⟩
    .have e:=cB (ah kq hx) g8;go_simp
    simp only[pA,sB,sC];go_big_quiet_on;go_big_quiet_want;refine⟨I J i,λx hx=>?_,?_⟩
    .go_simp
    simp only[pA,sB,sC];go_big_quiet_on;go_big_quiet_want;refine⟨Y (O (aD bp (i*7))),λx hx=>?_,?_⟩
    .go_simp
    simp only[pA,sB,sC];go_big_quiet_on;go_big_quiet_want;refine⟨Y (O (aD bp (i*7+6))),λx hx=>?_,?_⟩
    .go_simp
    simp only[pA,sB,sC];go_big_quiet_on;go_big_quiet_want;refine⟨Z (O (aD Q 0)) (N ox) (N ox+2),λx hx=>?_,?_⟩
    .have e:=cB (ah kq hx) l6;go_simp
    simp only[pA,sB,sC];go_big_quiet_on;go_big_quiet_want;refine⟨Z (O (aD xb xo)) (N pl) aU,λx hx=>?_,?_⟩
    .go_simp
    simp only[pA,sB,sC];go_big_quiet_on;go_big_quiet_want;refine⟨I J i,λx hx=>?_,?_⟩
    .go_simp
    simp only[pA,sB,sC];go_big_quiet_on;go_big_quiet_want;refine⟨Y (O (aD xb (xo+i*7))),λx hx=>?_,?_⟩
    .go_simp
    simp only[pA,sB,sC];go_big_quiet_on;go_big_quiet_want;refine⟨Y (O (aD xb (xo+i*7+6))),λx hx=>?_,?_⟩
    .go_simp
    simp only[pA,sB,sC];go_big_quiet_on;go_big_quiet_want;refine⟨Z Tj (N ox) Tk,λx hx=>?_,?_⟩
    .have e:=cB (ah kq hx) n6;go_simp
    simp only[pA,sB,sC];go_big_quiet_on;go_big_quiet_want;refine⟨Qo T,λx hx=>?_,?_⟩
    .have hC:=Zb hx (bI x (ah kq hx));go_simp
    simp only[pA,sB,sC];go_big_quiet_on;go_big_quiet_want;refine⟨Qo T,λx hx=>?_,?_⟩
    .go_simp
    simp only[pA,sB,sC];go_big_quiet_on;refine Xo ?_;intro wz aJ;have kz:=ah kq aJ;go_wp2;go_roundw
    case rel=>exact⟨i+1,X,Qf,kz⟩
    case measure=>exact Qw
   .obtain rfl:i=N pl:=X
    go_wp2;go_loopw [23] (λiv aL=>∃i:Nat,i<=N db/\iv=I J i/\Bw f aL) (λiv _=>N db-(intOf iv).toNat)
    case atStart=>exact⟨0,ZP _,rfl,jR⟩
    case round=>
     clear jR;obtain⟨i,bT,rfl,sw⟩:=hrel;by_cases z:i<N db
     ·
      obtain⟨xb,xo,rfl,Pm⟩:=QX aN.o.2.1 z;obtain⟨yb,yo,bU,bV⟩:=QX aO.o.2.1 (show i<N cZ by have:=GX.o;omega);cases bU;have C:=Pm i z;have r:=bV i (Qj GX.o);rw[ZQ]at r;have RZ:=aN.o.2.2 i z;have aA:=aO.o.2.2 i (Qj GX.o);obtain⟨L,aj⟩:=bn.o i z;have Sr:Qk _:=Ty.o i z;obtain⟨t,ht⟩:=eY (E db i rz);obtain⟨l,hl⟩:=eY (E cZ i rz);rw[<-ht]at C RZ L aj Sr;rw[<-hl]at r aA L aj Sr;obtain⟨VL,Nf,rs⟩:=t;obtain⟨sV,ja,Sc⟩:=l;unfold aS.val at C r;simp only at C r L aj Sr;have YK:jD f VL rs:=RZ;have aB:jD f sV Sc:=aA;have bJ:=λx (m:Bw f x)=>xE sV VL ja Nf Sc rs x (aB.below m) (YK.below m) L (λj hj=>aj j X);have dA:N rs<=1152921504606846976:=YK.1;have aT:Qk _:=YK;have Sw:Qk _:=aB;have wZ:Qk _:=L;clear RZ aA YK aB aj L;go_wp2;refine Za ?_;go_big_quiet_want;refine⟨Y (O (aD G 0)),λx hx=>?_,?_⟩
      .go_simp
      simp only[pA,sB,sC];go_big_quiet_on;go_big_quiet_want;refine⟨Y (O (aD G 0)),λx hx=>?_,?_⟩
      .go_simp
      simp only[pA,sB,sC];go_big_quiet_on;go_big_quiet_want;refine⟨Y (O (aD G 9)),λx hx=>?_,?_⟩
      .go_simp
      simp only[pA,sB,sC];go_big_quiet_on;go_big_quiet_want;refine⟨Z (O (aD bd 0)) (N db) (N db+2),λx hx=>?_,?_⟩
      .have e:=cB (ah sw hx) g9;go_simp
      simp only[pA,sB,sC];go_big_quiet_on;go_big_quiet_want;refine⟨I J i,λx hx=>?_,?_⟩
      .go_simp
      simp only[pA,sB,sC];go_big_quiet_on;go_big_quiet_want;refine⟨Y (O (aD bd i)),λx hx=>?_,?_⟩
      .go_simp
      simp only[pA,sB,sC];go_big_quiet_on;go_big_quiet_want;refine⟨Z sV (N Sc) ja,λx hx=>?_,?_⟩
      .have e:=cB (ah sw hx) r;go_simp
      simp only[pA,sB,sC];go_big_quiet_on;go_big_quiet_want;refine⟨Z (O (aD xb xo)) (N db) BA,λx hx=>?_,?_⟩
      .go_simp
      simp only[pA,sB,sC];go_big_quiet_on;go_big_quiet_want;refine⟨I J i,λx hx=>?_,?_⟩
      .go_simp
      simp only[pA,sB,sC];go_big_quiet_on;go_big_quiet_want;refine⟨Y (O (aD xb (xo+i))),λx hx=>?_,?_⟩
      .go_simp
      simp only[pA,sB,sC];go_big_quiet_on;go_big_quiet_want;refine⟨Z VL (N rs) Nf,λx hx=>?_,?_⟩
      .have e:=cB (ah sw hx) C;go_simp
      simp only[pA,sB,sC];go_big_quiet_on;go_big_quiet_want;refine⟨Qo T,λx hx=>?_,?_⟩
      .have hC:=Zb hx (bJ x (ah sw hx));go_simp
      simp only[pA,sB,sC];go_big_quiet_on;go_big_quiet_want;refine⟨Qo T,λx hx=>?_,?_⟩
      .go_simp
      simp only[pA,sB,sC];go_big_quiet_on;refine Xo ?_;intro wq aH;have kq:=ah sw aH;have bK:=cB kq C;go_wp2;go_loopw [25] (λjv di=>∃j:Nat,j<=N rs/\jv=I J j/\Bw f di) (λjv _=>N rs-(intOf jv).toNat)
      case atStart=>exact⟨0,ZP _,rfl,kq⟩
      case round=>
      clear kq;obtain⟨j,dF,rfl,zH⟩:=hrel;have bK:=cB zH C;by_cases av:j<N rs
      .obtain⟨tb,tq,rfl,bW⟩:=QX aT.o.2.1 av;obtain⟨lb,lo,rfl,bX⟩:=QX Sw.o.2.1 (show j<N Sc by have:=wZ.o;omega);have ak:=bW j av;have S:=bX j (Qj wZ.o);have aV:=aT.o.2.2 j av;obtain⟨B,bY,au⟩:=Sr.o j av;rw[bY]at S;obtain⟨x,bZ⟩:=eY (E rs j iz)
       rw[<-bZ]at ak S aV au;obtain⟨VN,Ng,xs⟩:=x;unfold ai.val at ak S;simp only at ak S au;have bM:IntsAt f VN xs:=aV;have bN:=λx (m:Bw f x)=>gK B VN Ng xs x (au.of (m.block _ au.lt)) (Q7 m bM);have dB:j<N Sc:=Qj wZ.o;have dC:N Sc<=1152921504606846976:=Qj wZ.o;go_wp2;refine Za ?_;go_big_quiet_want;refine⟨Y (O (aD G 0)),λx hx=>?_,?_⟩
       .go_simp
       simp only[pA,sB,sC];go_big_quiet_on;go_big_quiet_want;refine⟨Y (O (aD G 0)),λx hx=>?_,?_⟩
       .go_simp
       simp only[pA,sB,sC];go_big_quiet_on;go_big_quiet_want;refine⟨Y (O (aD G 9)),λx hx=>?_,?_⟩
       .go_simp
       simp only[pA,sB,sC];go_big_quiet_on;go_big_quiet_want;refine⟨Z (O (aD bd 0)) (N db) (N db+2),λx hx=>?_,?_⟩
       .have e:=cB (ah zH hx) g9;go_simp
       simp only[pA,sB,sC];go_big_quiet_on;go_big_quiet_want;refine⟨I J i,λx hx=>?_,?_⟩
       .go_simp
       simp only[pA,sB,sC];go_big_quiet_on;go_big_quiet_want;refine⟨Y (O (aD bd i)),λx hx=>?_,?_⟩
       .go_simp
       simp only[pA,sB,sC];go_big_quiet_on;go_big_quiet_want;refine⟨Z (O (aD lb lo)) (N Sc) ja,λx hx=>?_,?_⟩
       .have e:=cB (ah zH hx) r;go_simp
       simp only[pA,sB,sC];go_big_quiet_on;go_big_quiet_want;refine⟨I J j,λx hx=>?_,?_⟩
       .go_simp
       simp only[pA,sB,sC];go_big_quiet_on;go_big_quiet_want;refine⟨Y (O (aD lb (lo+j))),λx hx=>?_,?_⟩
       .go_simp
       simp only[pA,sB,sC];go_big_quiet_on;go_big_quiet_want;refine⟨Z (O (aD B 0)) (N xs) (N xs+2),λx hx=>?_,?_⟩
       .have e:=cB (ah zH hx) S;go_simp
       simp only[pA,sB,sC];go_big_quiet_on;go_big_quiet_want;refine⟨Z (O (aD xb xo)) (N db) BA,λx hx=>?_,?_⟩
       .go_simp
       simp only[pA,sB,sC];go_big_quiet_on;go_big_quiet_want;refine⟨I J i,λx hx=>?_,?_⟩
       .go_simp
       simp only[pA,sB,sC];go_big_quiet_on;go_big_quiet_want;refine⟨Y (O (aD xb (xo+i))),λx hx=>?_,?_⟩
       .go_simp
       simp only[pA,sB,sC];go_big_quiet_on;go_big_quiet_want;refine⟨Z (O (aD tb tq)) (N rs) Nf,λx hx=>?_,?_⟩
       .have e:=cB (ah zH hx) C;go_simp
       simp only[pA,sB,sC];go_big_quiet_on;go_big_quiet_want;refine⟨I J j,λx hx=>?_,?_⟩
       .go_simp
       simp only[pA,sB,sC];go_big_quiet_on;go_big_quiet_want;refine⟨Y (O (aD tb (tq+j))),λx hx=>?_,?_⟩
       .go_simp
       simp only[pA,sB,sC];go_big_quiet_on;go_big_quiet_want;refine⟨Z VN (N xs) Ng,λx hx=>?_,?_⟩
       .have e:=cB (ah zH hx) ak;go_simp
       simp only[pA,sB,sC];go_big_quiet_on;go_big_quiet_want;refine⟨Qo T,λx hx=>?_,?_⟩
       .have hC:=Zb hx (bN x (ah zH hx));go_simp
       simp only[pA,sB,sC];go_big_quiet_on;go_big_quiet_want;refine⟨Qo T,λx hx=>?_,?_⟩
       .go_simp
       simp only[pA,sB,sC];go_big_quiet_on;refine Xo ?_;intro wz aJ;have kz:=ah zH aJ;go_wp2;go_roundw
       case rel=>exact⟨j+1,X,Qf,kz⟩
       case measure=>exact Qw
      .go_wp2;go_roundw
       case rel=>exact⟨i+1,X,Qf,zH⟩
       case measure=>exact Qw
     .go_wp2;go_ret;exact⟨rfl,ah o8.o sw⟩
