import Derived.Test.YtnjbikdhpnopjaaGreatDoorA09
set_option linter.all false
set_option maxRecDepth 100000
set_option maxHeartbeats 0
namespace Go.Proofs.Zz
open Go.RowKit Go.Shelf
open List renaming length->N,getD->E
open Go.Value renaming slice->Z,int->I,pointer->Y,bool->Wl,agg->FL
open Go.Proofs.Tryz renaming prog->V
open Option renaming some->O,none->xn
open Go.IntKind renaming i64->J,u64->Vo
open Bool renaming false->F,true->T
open Go renaming World->U,Value->X3
open Go.World renaming heap->H,setCell->UC,cell?->UK
open _root_.Array renaming size->M
open Go.RowKit renaming Hid->Y3
open Go.Obj renaming cells->EP
open Go.Ending renaming returned->FN
variable {base i k n:Nat} {A W W0:U} {v:X3} {e:TypeId} {x:ae} {xs:List X3} {kc sc:List Int} {pre:List ae} {dn:List Gr}
section
structure Item(α:Type) where
 val:α->X3
 At:α->U->Prop
 blk:α->Nat->Prop
 keep:∀{x A B},At x A->M (H A)<=M (H B)->(∀b,blk x b->b<M (H A)->B.heap[b]? = A.heap[b]?)->At x B
def Itm{α:Type}(Tq:Item α)(base:Nat)(W:U)(v:X3)(xs:List α):Prop:=∀x∈xs,Tq.At x W/\∀b,Tq.blk x b->base<=b/\b<M (H W)/\v.ownBlock≠O b
def Itm.keep{α:Type}{Tq:Item α}{base:Nat}{A B:U}{v:X3}{xs:List α}{s:Nat->Prop}(h:Itm Tq base A v xs)(hk:Kept s A B)(hs:∀b,base<=b->s b):Itm Tq base B v xs:=
 λx a=>⟨Tq.keep (h x a).1 hk.size (λb d e=>hk.block b e (hs b ((h x a).2 b d).1)),λb d=>⟨((h x a).2 b d).1,QA ((h x a).2 b d).2.1 hk.size,((h x a).2 b d).2.2⟩⟩
theorem Itm.more{α:Type}{Tq:Item α}{B:U}{v':X3}{xs:List α}{s:Nat->Prop}(h:Itm Tq base A v xs){x:α}(hx:Tq.At x A)(hxb:∀b,Tq.blk x b->base<=b/\b<M (H A)/\v.ownBlock≠O b)
  (hk:Kept (λb=>v.ownBlock≠O b/\s b) A B) (hs:∀b,base<=b->s b) (hat:v'.ownBlock=v.ownBlock∨v'.ownBlock=O (M (H A)+1)):Itm Tq base B v' (xs++[x]):=λy i=>by
 obtain⟨g,d⟩:Tq.At y A/\∀b,Tq.blk y b->base<=b/\b<M (H A)/\v.ownBlock≠O b:=(Zi.1 i).elim (h y) λe=>by rw[Zg.1 e];exact⟨hx,hxb⟩
 exact⟨Tq.keep g hk.size (λb a f=>hk.block b f ⟨(d b a).2.2,hs b (d b a).1⟩),λb a=>⟨(d b a).1,QA (d b a).2.1 hk.size,λe=>by grind⟩⟩
def YK:Item aB where
 val:=aB.val
 At x W:=aW W x.ad x.cs
 blk x b:=∃a,x.ad=O a/\a.block=b
 keep h _ hb:=h.keep λa ha hlt=>hb _ ⟨a,ha,rfl⟩ hlt
theorem UF(w:U)(c:aI)(e:TypeId):(w.alloc (EP c.arr e)).ownsRow (M (H w)) e 5 (Z (O (aD (M (H w)) 0)) 1 1) 1 ([c].flatMap aI.aA):=
 ⟨rfl,.inr ⟨M (H w),1,_,rfl,Qn _,pR w _,Qn _,by grind [maxLen],rfl,rfl⟩⟩
def Dl(n:Int)(x:aB):Prop:=1<=N x.cs/\N x.cs<=3/\∀c∈x.cs,fV c n=T
structure aaU(ts:List ah)(q:af):Prop where
 src:aS q.src.xs (N ts)=T/\1<=N q.src.xs/\N q.src.xs<=4
 wh:N q.wh<=4/\∀x∈q.wh,Dl (ak ts q.src.xs) x
 out:(q.group=T/\q.bE.xs=[]/\N q.keys.xs<=3/\aS q.keys.xs (ak ts q.src.xs)=T/\dB q.keys.xs=T/\N q.sums.xs<=2/\aS q.sums.xs (ak ts q.src.xs)=T/\N q.ord.xs<=2/\aS q.ord.xs ((N q.keys.xs:Int)+1+N q.sums.xs)=T/\dB q.ord.xs=T)∨
  (q.group=F/\q.keys.xs=[]/\q.sums.xs=[]/\1<=N q.bE.xs/\N q.bE.xs<=4/\aS q.bE.xs (ak ts q.src.xs)=T/\N q.ord.xs<=3/\aS q.ord.xs (N q.bE.xs)=T/\dB q.ord.xs=T)
theorem ahh{ls:List aB}(h:W.ownsRow base e 1 v (N ls) (ls.map aB.val))(hit:Itm YK base W v ls)(hl:N ls<=100)(hn:n<=base) :
  ∃j cap,v=Z j (N ls) cap/\Dk n j ls W/\(j=xn->cap=0):=by
 have d:∀i,i<N ls->E ls i lz∈ls:=λi b=>by simp_all
 rcases h.2 with⟨rfl,h0⟩|⟨g,cap,cur,rfl,hb,hh,hc,_,hcs,ht⟩
 .have:=Qs h0;subst this;exact⟨xn,0,rfl,⟨⟨by simp,λi b=>absurd b (by simp),λi b=>absurd b (by simp)⟩,(λa f=>by cases f),λi b=>absurd b (by simp)⟩,λ_=>rfl⟩
 .refine⟨O (aD g 0),cap,rfl,⟨⟨by omega,λi b=>⟨g,0,rfl,?_⟩,λi b=>(hit _ (d i b)).1⟩,(λa f=>by grind),λi b a f=>Qz hn ((hit _ (d i b)).2 _ ⟨a,f,rfl⟩).1⟩,λe=>by cases e⟩;have k:(cur.toList.take (N ls*1))[i]? = O (E ls i lz).val:=by simp_all
  have l:cur[i]? = O (E ls i lz).val:=by grind
  simp only[World.cell?,hh];simp_all
def af.fld(q:af)(x:ae):Nat->af
 |0=>{ q with src:=x }
 |3=>{ q with keys:=x }
 |4=>{ q with sums:=x }
 |5=>{ q with bE:=x }
 |_=>{ q with ord:=x }
@[reducible] def Fld (k:Nat):Prop:=k=0∨k=3∨k=4∨k=5∨k=6
def MK(q:af)(x:ae)(hk:Fld k):q.cells.setIfInBounds k x.val=(q.fld x k).cells:=by rcases hk with rfl|rfl|rfl|rfl|rfl <;> rfl
def af.list(q:af):List Value:=[q.src.val,Z q.gI (N q.wh) q.bP,Wl q.group,q.keys.val,q.sums.val,q.bE.val,q.ord.val]
structure Mq(mb:Nat)(lo:Option Addr)(lc:Nat)(l:List Int)(tq tc:TypeId)(W0:U)(cv:Array X3)(q:af)(W:U):Prop where
 gc:GB W (M (H W0)) tc cv
 gq:GB W (M (H W0)+1+1) tq q.cells
 gr:GB W (M (H W0)+1) tq qz.cells
 ls:eu (M (H W0)+3) q W
 uR:aV mb lo lc l W
 kp:Kept (λb=>b≠mb) W0 W
 sz:M (H W0)+3<=M (H W)
 lt:mb<M (H W0)
 off:∀a,lo=O a->a.block<M (H W0)
 num:∀x∈l,-9223372036854775808<=x/\x<=9223372036854775807
section
variable {mb:Nat} {lo:Option Addr} {lc:Nat} {l:List Int} {tq tc e:TypeId} {W0 A B:U} {cv:Array X3} {q:af}
def Mq.keep(h:Mq mb lo lc l tq tc W0 cv q A)(hk:Kept (λb=>b≠mb) A B)(hm:aV mb lo lc l B):Mq mb lo lc l tq tc W0 cv q B:=by have:=h.lt;exact⟨h.gc.keep hk (by omega),h.gq.keep hk (by omega),h.gr.keep hk (by omega),h.ls.keep hk (λb a=>by omega),hm,h.kp.trans hk,Qz h.sz hk.size,h.lt,h.off,h.num⟩
def Mq.set(h:Mq mb lo lc l tq tc W0 cv q A){q':af}{k:Nat}{v:X3}(hc:q.cells.setIfInBounds k v=q'.cells)(hl:eu (M (H W0)+3) q' A):Mq mb lo lc l tq tc W0 cv q' (UC A (aD (M (H W0)+1+1) k) v):=by have:=h.lt;have d:Kept (λb=>b≠M (H W0)+1+1) A (UC A (aD (M (H W0)+1+1) k) v):=Q8 _ _ _ (λh=>h rfl);exact⟨h.gc.keep d (by omega),hc ▸ h.gq.set k v,h.gr.keep d (by omega),hl.keep d (λb f=>by omega),h.uR.set _ (by omega) (λa e=>by have:=h.off a e;omega),h.kp.Nu (by omega) _,Qz h.sz d.size,h.lt,h.off,h.num⟩
def eu.fld(h:eu n q A)(hx:iA n x A)(hk:Fld k):eu n (q.fld x k) A:=by rcases hk with rfl|rfl|rfl|rfl|rfl <;> exact⟨by first|exact hx|exact h.src,h.wh,by first|exact hx|exact h.keys,by first|exact hx|exact h.sums,by first|exact hx|exact h.bE,by first|exact hx|exact h.ord,h.nil⟩
def Mq.ints(h:Mq mb lo lc l tq tc W0 cv q A)(hx:iA (M (H W0)+3) x A)(k:Nat)(hk:Fld k):Mq mb lo lc l tq tc W0 cv (q.fld x k) (UC A (aD (M (H W0)+1+1) k) x.val):=h.set (MK q x hk) (h.ls.fld hx hk)
def Mq.grow(h:Mq mb lo lc l tq tc W0 cv q A)(e:TypeId)(sz k:Nat)(hc:q.cells.setIfInBounds k (Z xn 0 0)=q.cells):eZ mb (M (H W0)+1+1) lo lc l e tq sz A (λv=>q.cells.setIfInBounds k v) A (Z xn 0 0) 0 []:=
 ⟨by rw[hc];exact h.gq,Zk _ _ _ _,h.uR,Qy _ _,by have:=h.lt;have:=h.sz;omega,λa b=>by have:=h.off a b;have:=h.sz;omega,h.num⟩
def Mq.grown(h:Mq mb lo lc l tq tc W0 cv q A){sz k n:Nat}{v:X3}{vs:List X3}(g:eZ mb (M (H W0)+1+1) lo lc l e tq sz A (λv=>q.cells.setIfInBounds k v) B v n vs){q':af}(hc:q.cells.setIfInBounds k v=q'.cells)(hl:eu (M (H W0)+3) q B->eu (M (H W0)+3) q' B):Mq mb lo lc l tq tc W0 cv q' B:=by have d:=h.lt;have f:=h.sz;exact⟨h.gc.keep g.kept (by omega),hc ▸ g.gb,h.gr.keep g.kept (by omega),hl (h.ls.keep g.kept (λb a=>by omega)),g.uR,((h.kp.mono (t:=λb=>b≠mb/\b<M (H W0)) (λb _ h=>h.1)).trans (g.kept.mono λb _ h=>⟨h.1,by have:=h.2;omega⟩)).mono (λb a h=>⟨h,a⟩),Qz f g.kept.size,d,h.off,h.num⟩
def Mq.done(h:Mq mb lo lc l tq tc W0 cv q A){xs:List Int}(g:eZ mb (M (H W0)+1+1) lo lc l e tq 1 A (λv=>q.cells.setIfInBounds k v) B v (N xs) (xs.map (Value.int J)))(hk:Fld k)(hx:N xs<=1000):∃x:ae,v=x.val/\x.xs=xs/\Mq mb lo lc l tq tc W0 cv (q.fld x k) B:=by obtain⟨x,rfl,hx,a⟩:=zV g.own hx h.sz;exact⟨x,rfl,hx,h.grown g (MK q x hk) λb=>b.fld a hk⟩
def Mq.below(h:Mq mb lo lc l tq tc W0 cv q A)(hb:Bw A B):Mq mb lo lc l tq tc W0 cv q B:=h.keep (QB hb λ_ h _=>h) (h.uR.keep (QB hb λ_ h _=>h))
def Mq.case(h:Mq mb lo lc l tq tc W0 cv q A)(o:Nat)(vs:List X3):Mq mb lo lc l tq tc W0 (uk o vs cv) q (ig (M (H W0)) o vs A):=by have f:=h.lt;have d:=kF (B:=M (H W0)) vs o A;exact⟨pG h.gc,h.gq.keep d (by omega),h.gr.keep d (by omega),h.ls.keep d (λb e=>by omega),h.uR.LB d (by omega) (λa g=>by have:=h.off a g;omega),((h.kp.mono (t:=λb=>b≠mb/\b<M (H W0)) (λb _ h=>h.1)).trans (d.mono λb _ h=>by have:=h.2;omega)).mono (λb e h=>⟨h,e⟩),Qz h.sz d.size,f,h.off,h.num⟩
def Mq.fin(h:Mq mb lo lc l tq tc W0 cv q A):GB (ig (M (H W0)+1) 0 q.list A) (M (H W0)+1) tq q.cells/\eu (M (H W0)) q (ig (M (H W0)+1) 0 q.list A)/\aV mb lo lc l (ig (M (H W0)+1) 0 q.list A)/\Kept (λb=>b≠mb) W0 (ig (M (H W0)+1) 0 q.list A):=by have i:=h.lt;have d:=kF (B:=M (H W0)+1) q.list 0 A;have e:=pG (vs:=q.list) (o:=0) h.gr;simp only[uk,af.list,af.cells,Qu,Qb,Qc]at e;exact⟨e,(h.ls.keep d λb f=>by omega).lower (by omega),h.uR.LB d (by omega) (λa g=>by have:=h.off a g;omega),((h.kp.mono (t:=λb=>b≠mb/\b<M (H W0)) (λb _ h=>h.1)).trans (d.mono λb _ h=>by have:=h.2;omega)).mono (λb f h=>⟨h,f⟩)⟩
theorem eu.qz(n:Nat)(W:U):eu n qz W:=⟨iA.nil _ _,⟨⟨by simp[Zz.qz],λi b=>absurd b (by simp[Zz.qz]),λi b=>absurd b (by simp[Zz.qz])⟩,(λa d=>by cases d),λi b=>absurd b (by simp[Zz.qz])⟩,iA.nil _ _,iA.nil _ _,iA.nil _ _,iA.nil _ _,λ_=>rfl⟩
end
variable {mb:Nat} {lo:Option Addr} {lc:Nat} {l:List Int} {tq tc e:TypeId} {W0 A:U} {cv:Array X3} {q:af}
def JB(h:Mq mb lo lc l tq tc W0 cv q A)(n:Int)(hn:0<n):Calls V 11 #[Y (O (aD mb 0)),I J n] A λe W'=>∃k:Nat,e=FN (I J k)/\(k:Int)<n/\Mq mb lo lc l tq tc W0 cv q W':=by refine(Zu mb lo lc l n A h.uR hn h.num).mono ?_;rintro e W' ⟨k,rfl,a,f,b,d⟩;exact⟨k.toNat,by rw[ZX a],by omega,h.keep d b⟩
def JC(h:Mq mb lo lc l tq tc W0 cv q A)(n:Int)(most:Nat)(hn:0<n)(hm:most<=100):Calls V 27 #[Y (O (aD mb 0)),I J n,I J most] A λe W'=>∃x:ae,e=FN x.val/\aS x.xs n=T/\dB x.xs=T/\N x.xs<=most/\iA (M (H W0)+3) x W'/\Mq mb lo lc l tq tc W0 cv q W':=by refine(Vn mb lo lc l n most A h.uR h.num (λa m=>by have:=h.off a m;have:=h.kp.size;omega) hn hm).mono ?_;rintro e W' ⟨v,xs,rfl,b,d,f,g,i,j⟩;obtain⟨x,rfl,rfl,k⟩:=zV b (by omega) h.sz;exact⟨x,rfl,d,f,g,k,h.keep j i⟩
def YL{qb sz:Nat}{c:X3->Array X3}{vs:List X3}(h:eZ mb qb lo lc l e tq sz W0 c A v n vs)(m:Int)(hn:0<m):Calls V 11 #[Y (O (aD mb 0)),I J m] A λg W'=>∃k:Int,g = FN (I J k)/\(0<=k/\k<m)/\eZ mb qb lo lc l e tq sz W0 c W' v n vs:=by refine(Zu mb lo lc l m A h.uR hn h.num).mono ?_;rintro e W' ⟨k,rfl,a,b,d,f⟩;exact⟨k,rfl,⟨a,b⟩,h.keep f d⟩
end
def ahi(W:U)(B:Nat)(v1 v2 v3 v4 v5 v6 v7:X3):(UC (UC (UC (UC (UC (UC (UC W (aD B 1) v1) (aD B 2) v2) (aD B 3) v3) (aD B 4) v4) (aD B 5) v5) (aD B 6) v6) (aD B 7) v7)=ig B 1 [v1,v2,v3,v4,v5,v6,v7] W:=rfl
def adA(mb:Nat)(lo:Option Addr)(lc:Nat)(l:List Int)(co:Option Addr)(cc:Nat)(ts:List ah)(W:U)(hm:aV mb lo lc l W)(hl:∀x∈l,-9223372036854775808<=x/\x<=9223372036854775807)(hlo:∀a,lo=O a->a.block<M (H W))
  (hts:bu W co ts) (hcb:∀a,co=O a->a.block≠mb) (wP:ji ts=T) :
  Calls V 13 #[Y (O (aD mb 0)),FL (jX (Z co (N ts) cc) qz (Z xn 0 0))] W λe W'=>∃q:af,e=FN (FL q.cells)/\aaU ts q/\eu (M (H W)) q W'/\aV mb lo lc l W'/\Kept (λb=>b≠mb) W W':=by
 obtain⟨X1,e1,b1,g1⟩:=aL W #[Z co (N ts) cc,Z xn 0 0,Z xn 0 0,Wl F,Z xn 0 0,Z xn 0 0,Z xn 0 0,Z xn 0 0,Z xn 0 0] 29;obtain⟨X2,e2,b2,g2⟩:=aL X1 #[Z xn 0 0,Z xn 0 0,Wl F,Z xn 0 0,Z xn 0 0,Z xn 0 0,Z xn 0 0] 26;obtain⟨W1,e3,b3,g3⟩:=aL X2 #[Z xn 0 0,Z xn 0 0,Wl F,Z xn 0 0,Z xn 0 0,Z xn 0 0,Z xn 0 0] 26;have s1:M (H X1)=M (H W)+1:=by rw[<-e1];simp
 have s2:M (H X2)=M (H W)+1+1:=by rw[<-e2];simp[s1]
 have s3:M (H W1)=M (H W)+3:=by rw[<-e3];simp[s2]
 rw[s1]at g2;rw[s2]at g3;have hb:=az b1 (az b2 b3);have M1:Mq mb lo lc l 26 29 W #[Z co (N ts) cc,Z xn 0 0,Z xn 0 0,Wl F,Z xn 0 0,Z xn 0 0,Z xn 0 0,Z xn 0 0,Z xn 0 0] qz W1:=
  ⟨g1.keep (QB (s:=λ_=>True) (az b2 b3) λ_ h _=>h) trivial,g3,g2.keep (QB (s:=λ_=>True) b3 λ_ h _=>h) trivial,eu.qz _ _,hm.keep (QB hb λ_ h _=>h),QB hb λ_ h _=>h,by omega,hm.lt,hlo,hl⟩
 obtain⟨E1,E2,E3⟩:=dQ e1 e2 e3;have bq:Y3 _:=hts;obtain⟨J8,bM⟩:=aJ hcb wP;have eD:=hts.1;have eF:=ahg wP;have bz:=JB M1 4 (by omega);clear e1 e2 e3 s1 s2 s3 b1 b2 b3 g1 g2 g3 hb M1 hm hl hlo hts hcb wP;unfold jX qz vzI ae.val;simp only;go_enter Tryz.func13,Tryz.ntmps13;go_wp2_with fail;rw[E1.o,E2.o,E3.o];refine bz.mono ?_;rintro e W2 ⟨k1,rfl,aC,M2⟩;obtain⟨bN,HG⟩:=aJ M2 (M2.grow 3 1 0 rfl);have c0:=M2.gc.at 0;have eG:=M2.lt;clear M2 bz;go_wp2;go_loopw [6] (λi wr=>∃(k:Nat) (xs:List Int) (v:X3),i=I J k/\N xs+k<=4/\1<=N xs+k/\Y3 (aS xs (N ts)=T)/\eZ mb (M (H W)+1+1) lo lc l 3 26 1 W2 (λv=>qz.cells.setIfInBounds 0 v) wr v (N xs) (xs.map (Value.int J))) (λi _=>(intOf i).toNat)
 case atStart=>exact⟨1+k1,[],_,congrArg (Value.int J) (by omega),by simp;omega,by simp,rfl,HG.o⟩
 case round=>
  obtain⟨k,xs,v,rfl,dJ,dK,aa,d⟩:=hrel;by_cases h0:0<k
  .have dw:((k:Int) > 0):=by omega
   obtain⟨va,vn,vc,rfl⟩:=Zc d.own;have bA:=d.gb.at 0;have eH:=Q0 c0 d.kept (show M (H W)≠mb/\M (H W)≠M (H W)+1+1 by omega);have dx:=YL (d.keep (Zp wr 1) (d.uR.keep (Zp wr 1))) (N ts:Int) (by omega);clear d;go_wp2;go_region_law
    ((first
     |(obtain⟨ya,ym,yc,w5,oU,S,bO,t,-⟩:=eZ.push (P:=V) y (by omega) 0 [I J p] 22 22 Tryz.lK (λ_=>rfl) rfl (by simp[Value.oneCell']);have zL:=Zh t;clear t;refine XJ (by rfl) _ _ _ (by rfl) (Z va vn vc) (Z (O (aD (M (H W3)) 0)) 1 1) (Z ya ym yc) w5 (by rfl) (by rfl) oU ?_)
     |(go_simp;go_at_call 11;refine dx.mono ?_;rintro e W3 ⟨p,rfl,hp,y⟩;have f:=y.gb.at 0;have bB:=oN f (QE W3 (EP #[I J p] 3)))))
   all_goals
    have HP:=Zh hp;go_wp2;go_roundw
    case rel=>exact⟨k-1,xs++[p],_,congrArg (Value.int J) (show _=((k-1:Nat):Int) by omega),by rw[Zn,Xc];omega,by rw[Zn,Xc];omega,BG aa.o HP.o.1 HP.o.2,by rw[Zn,Qi];exact zL.o⟩
    case measure=>simp[intOf];omega
  .have A:k=0:=by omega
   subst A;obtain⟨x1,rfl,rfl,M3⟩:=bN.o.done d (.inl rfl) (by omega);obtain⟨q1,aF⟩:=eX (qz.fld x1 0);rw[aF]at M3;have aM:x1=q1.src:=by rw[<-aF];rfl
   rw[aM]at aa dJ dK;obtain⟨q0,dL,q2,q3,q4,q5,q6⟩:=M3.gq.k7;obtain⟨b0,b1,b2,b3,b4,b5,b6,b7,b8⟩:=M3.gc.k9;have z:=λi=>M3.gc.frozen i;obtain⟨ag,F4⟩:=aJ aF M3;simp only[ae.val]at q0 q3 q4 q5 q6;clear M3 d aM aF;go_wp2_with fail;rw[ahi];have M4:=F4.o.case 1 [q1.src.val,Z q1.gI (N q1.wh) q1.bP,Wl q1.group,q1.keys.val,q1.sums.val,q1.bE.val,q1.ord.val];simp only[ae.val]at M4;generalize ig _ _ _ _=W3 at M4 ⊢;refine XX (NH co cc ts q1 (Z xn 0 0) ⟨_,_,_,rfl⟩ W3 (bu.keep bq.o (λa ha ek=>M4.kp.block _ ek (J8.o a ha))) bM.o M4.ls.src.1.1 (by omega) aa.o) ?_;rintro e W4 ⟨rfl,bQ⟩;have dz:=YJ bM.o aa.o (by omega) (by omega);obtain⟨C,aR⟩:∃C:Nat,ak ts q1.src.xs=(C:Int):=⟨(ak ts q1.src.xs).toNat,by omega⟩;have bC:Y3 (aS q1.src.xs (N ts)=T/\1<=N q1.src.xs/\N q1.src.xs<=4):=⟨aa.o,by omega,by omega⟩;have Du:=Zh aR;have eO:1<=C/\C<=20:=by omega
   rw[aR];have uu:=JB (M4.below bQ) 5 (by omega);clear M4 bQ dz aR b0 b1 b2 b3 b4 b5 b6 b7 b8 z q0 dL q2 q3 q4 q5 q6 F4 bN bq J8;go_wp2_with fail;refine uu.mono ?_;rintro e W5 ⟨k2,rfl,eY,D⟩;obtain⟨K7,zL⟩:=aJ D (D.grow 73 1 1 (by rw[<-ag.o];rfl));clear D uu;go_wp2;go_loopw [8] (λi wr=>∃(k:Nat) (ls:List aB) (v:X3),i=I J k/\N ls+k<=4/\Y3 (∀x∈ls,Dl C x)/\eZ mb (M (H W)+1+1) lo lc l 73 26 1 W5 (λv=>q1.cells.setIfInBounds 1 v) wr v (N ls) (ls.map aB.val)/\Y3 (Itm YK (M (H W5)) wr v ls)) (λi _=>(intOf i).toNat)
   case atStart=>exact⟨k2,[],_,rfl,by simp;omega,(λx hx=>by simp at hx),zL.o,λx hx=>by simp at hx⟩
   case round=>
    obtain⟨wo,rfl⟩:∃wo,wo=wr:=⟨wr,rfl⟩;obtain⟨k,ls,v,rfl,fe,aN,d,HI⟩:=hrel;by_cases h0:0<k
    .have dw:((k:Int) > 0):=by omega
     have hlo:∀a,lo=O a->a.block<M (H wo):=λa ha=>by have:=(d.off a ha).1;have:=d.kept.size;omega
     have bD:=Pz mb lo lc l (C:Int) wo d.uR d.num hlo (by omega);obtain⟨nO,JN⟩:=aJ d hlo;clear d hlo;go_wp2_with fail;refine bD.mono ?_;rintro e W6 ⟨c1,rfl,dM,aT,wN⟩;obtain⟨W7,e7,b7,g7⟩:=aL W6 c1.arr 69;have Bf:=Zu mb lo lc l 6 W7 (aT.keep (QB b7 λ_ h _=>h)) (by omega) nO.o.num;have dA:=aT.lt;have dC:Y3 (W7.ownsRow (M (H W6)) 69 5 (Z (O (aD (M (H W6)) 0)) 1 1) 1 ([c1].flatMap aI.aA)):=e7 ▸ UF W6 c1 69;obtain⟨dN,aG,FH,E7⟩:=om dM wN b7 e7;obtain⟨bR,bS,bT,bU,bV⟩:=c1;unfold aI.arr at E7 ⊢;clear e7 b7 g7 bD wN aT;simp only at E7 ⊢;go_wp2_with fail;rw[E7.o];refine Bf.mono ?_;rintro e W8 ⟨r3,rfl,fo,fq,bW,aU⟩;obtain⟨jn,rfl⟩:∃k:Nat,r3=(k:Int):=⟨r3.toNat,by omega⟩;have bF:=Za dC.o aU (λg hg=>by cases hg;show M (H W6)≠mb;omega);have Sr:Y3 (O7 mb lo lc l 69 5 W6 W8 (Z (O (aD (M (H W6)) 0)) 1 1) 1 ([⟨bR,bS,bT,bU,bV⟩].flatMap aI.aA)):=⟨bF,bW,(QB FH.o λ_ h _=>h).trans aU,dA,λa ha=>QA (JN.o a ha) aG.o.size,nO.o.num⟩;clear Bf aU bF bW;go_wp2;go_loopw [9,10] (λv2 jv ws=>∃(j:Nat) (cs:List aI),jv=I J j/\j<=5/\1<=N cs/\N cs+(j-3)<=3/\Y3 (∀c∈cs,fV c C=T)/\O7 mb lo lc l 69 5 W6 ws v2 (N cs) (cs.flatMap aI.aA)) (λ_ jv _=>(intOf jv).toNat)
     case atStart=>exact⟨jn,[⟨bR,bS,bT,bU,bV⟩],rfl,by omega,by simp,by simp;omega,(λc hc=>by rw[Zg]at hc;rw[hc];exact dN.o),Sr.o⟩
     case round=>
      obtain⟨j,cs,rfl,fu,Rc,fw,bX,m⟩:=hrel;by_cases Py:3<j
      .have bG:((j:Int) > 3):=by omega
       have bH:=Pz mb lo lc l (C:Int) wr m.uR m.num m.apO (by omega);obtain⟨dO,dP,dR,rfl⟩:=Zc m.own;have dD:=Zh m;clear m;go_wp2_with fail;refine bH.mono ?_;rintro e Wa ⟨c2,rfl,dS,bY,ai⟩;obtain⟨ya,ym,yc,w1,aC,bZ,-⟩:=(dD.o.keep ai bY).push (P:=V) (by omega) c2.aA 71 71 Tryz.Ci (by intro u hu;simp[aI.aA]at hu;rcases hu with rfl|rfl|rfl|rfl|rfl <;> rfl);obtain⟨dU,Pb⟩:=aJ bZ dS;clear ai bY bH bZ;obtain⟨ca,dV,dW,cd,ce⟩:=c2;unfold aI.arr;unfold aI.aA at aC;simp only at aC ⊢;go_wp2_with (first|(at_builtin;refine Xm rfl (.tmp 51) (.tmp 55) 71 rfl _ _ _ w1 rfl rfl aC ?_));go_wp2;go_roundw
       case rel=>exact⟨j-1,cs++[⟨ca,dV,dW,cd,ce⟩],congrArg (Value.int J) (show _=((j-1:Nat):Int) by omega),by omega,by simp,by rw[Zn,Xc];omega,(λc hc=>(Zi.1 hc).elim (bX.o c) λh=>by rw[Zg.1 h];exact Pb.o),by rw[Zn,ZN];exact dU.o⟩
       case measure=>simp[intOf];omega
      .have Y5:¬((j:Int) > 3):=by omega
       obtain⟨lQ,dE,rfl,cu,cz⟩:=vo m.own (by omega);have g2:=nO.o.keep (aG.o.trans m.kept) m.uR;have i2:=HI.o.keep (aG.o.trans m.kept) (λb hb=>by have:=nO.o.ne;omega);obtain⟨dO,dP,dR,rfl⟩:=Zc g2.own;have eP:=g2.gb.at 1;obtain⟨ya,ym,yc,w9,dX,fA,fB,cK,SH,cO⟩:=g2.push (P:=V) (by omega) 1 [Z lQ (N cs) dE] 24 24 Tryz.Ak (λ_=>rfl) rfl (by simp[Value.oneCell']);have dF:=Zh (i2.more (Tq:=YK) (x:=⟨lQ,dE,cs⟩) cu (by
        rintro b ⟨a,ha,rfl⟩;have h1:=cz a ha;have h2:=nO.o.kept.size;have h3:=aG.o.size;exact⟨by omega,h1.2.1,λe=>by have:=(Zb nO.o.own e).2;omega⟩) SH (λb hb=>by have:=nO.o.ne;omega) cO)
       have X:=Zh cK;clear cK SH cO g2 i2 cz cu m;go_wp2_with (first|(at_builtin;refine Xm rfl (.tmp 58) (.tmp 61) 24 rfl _ _ _ w9 rfl rfl dX ?_));go_wp2;go_roundw
       case rel=>exact⟨k-1,ls++[⟨lQ,dE,cs⟩],_,congrArg (Value.int J) (show _=((k-1:Nat):Int) by omega),by rw[Zn,Xc];omega,(λx hx=>(Zi.1 hx).elim (aN.o x) λh=>by rw[Zg.1 h];exact⟨Rc,by show N cs<=3;omega,bX.o⟩),by rw[Zn,Qi];exact X.o,dF⟩
       case measure=>simp[intOf];omega
    .have A:k=0:=by omega
     subst A;obtain⟨gI,bP,rfl,cZ,df⟩:=ahh d.own HI.o (by omega) K7.o.sz;obtain⟨q2,aH⟩:∃q2:af,{ q1 with gI:=gI,bP:=bP,wh:=ls } = q2:=⟨_,rfl⟩;have n:=K7.o.grown d (q':=q2) (by rw[<-aH];rfl) λh=>by rw[<-aH];exact⟨h.src,cZ,h.keys,h.sums,h.bE,h.ord,df⟩
     have bI:=JB n 3 (by omega);have bJ:Y3 (N ls<=4/\∀x∈ls,Dl (ak ts q1.src.xs) x):=⟨by omega,by rw[Du.o];exact aN.o⟩;have aO:Y3 (∀xs,aS xs C=T->aS xs (ak ts q1.src.xs)=T):=λxs h=>by rw[Du.o];exact h
     have ax:=Zh aH;clear n d cZ df aH;go_wp2_with fail;refine bI.mono ?_;rintro e W7 ⟨r5,rfl,oU,M7⟩;obtain⟨gp,fC⟩:∃g,((r5:Int)==1)=g:=⟨_,rfl⟩;have eQ:=M7.gq.at 2;have eT:=M7.gq.frozen 2;obtain⟨q3,f⟩:∃q3:af,{ q2 with group:=gp } = q3:=⟨_,rfl⟩;have M8:=M7.set (q':=q3) (k:=2) (v:=Wl gp) (by rw[<-f];rfl) (by rw[<-f];exact⟨M7.ls.src,M7.ls.wh,M7.ls.keys,M7.ls.sums,M7.ls.bE,M7.ls.ord,M7.ls.nil⟩);obtain⟨W8,dY⟩:=eX (UC W7 (aD (M (H W)+1+1) 2) (Wl gp));rw[dY]at M8;have dG:=M8.gq.at 2;rw[show q3.group=gp by rw[<-f]]at dG;obtain⟨aK,dh⟩:=aJ f M8;clear M7 M8 f bI
     cases gp with
     |true =>
      have bK:=JC dh.o (C:Int) 3 (by omega) (by omega);go_wp2_with fail;refine bK.mono ?_;rintro e Wk ⟨x3,rfl,ai,di,dm,dn,Mk⟩;have p3:=Mk.gq.at 3;have eU:=Mk.gq.frozen 3;have L:=Mk.ints dn 3 (by decide);simp only[ae.val]at L p3 ⊢;obtain⟨Ws,dZ⟩:=eX (UC Wk (aD (M (H W)+1+1) 3) (Z x3.ad (N x3.xs) x3.cap));rw[dZ]at L;obtain⟨q4,G⟩:=eX (q3.fld x3 3);rw[G]at L;have Q:=JB L 3 (by omega);have bL:Y3 (aS x3.xs C=T/\dB x3.xs=T):=⟨ai,di⟩;have R:=Zh G;clear L Mk dn bK G ai di;go_wp2_with fail;refine Q.mono ?_;rintro e W9 ⟨k6,rfl,ed,L⟩;obtain⟨aW,X⟩:=aJ L (L.grow 3 1 4 (by rw[<-R.o,<-aK.o,<-ax.o,<-ag.o];rfl));clear L Q;go_wp2;go_loopw [11] (λi wr=>∃(k:Nat) (xs:List Int) (v:X3),i=I J k/\N xs+k<=2/\0<=N xs+k/\Y3 (aS xs C=T)/\eZ mb (M (H W)+1+1) lo lc l 3 26 1 W9 (λv=>q4.cells.setIfInBounds 4 v) wr v (N xs) (xs.map (Value.int J))) (λi _=>(intOf i).toNat)
      case atStart=>exact⟨0+k6,[],_,congrArg (Value.int J) (by omega),by simp;omega,by simp,rfl,X.o⟩
      case round=>
       obtain⟨k,xs,v,rfl,aj,aX,au,d⟩:=hrel;by_cases eB:0<k
       .have bG:((k:Int) > 0):=by omega
        obtain⟨va,vn,vc,rfl⟩:=Zc d.own;have bA:=d.gb.at 4;have aP:=YL (d.keep (Zp wr 1) (d.uR.keep (Zp wr 1))) (C:Int) (by omega);clear d;go_wp2;go_region_law
         ((first
          |(obtain⟨ya,ym,yc,w5,oU,S,bO,t,-⟩:=eZ.push (P:=V) y (by omega) 4 [I J p] 22 22 Tryz.lK (λ_=>rfl) rfl (by simp[Value.oneCell']);have zL:=Zh t;clear t;refine XJ (by rfl) _ _ _ (by rfl) (Z va vn vc) (Z (O (aD (M (H W3)) 0)) 1 1) (Z ya ym yc) w5 (by rfl) (by rfl) oU ?_)
          |(go_simp;go_at_call 11;refine aP.mono ?_;rintro e W3 ⟨p,rfl,hp,y⟩;have f:=y.gb.at 4;have bB:=oN f (QE W3 (EP #[I J p] 3)))))
        all_goals
         have HP:=Zh hp;go_wp2;go_roundw
         case rel=>exact⟨k-1,xs++[p],_,congrArg (Value.int J) (show _=((k-1:Nat):Int) by omega),by rw[Zn,Xc];omega,by rw[Zn,Xc];omega,BG au.o HP.o.1 HP.o.2,by rw[Zn,Qi];exact zL.o⟩
         case measure=>simp[intOf];omega
       .have A:k=0:=by omega
        subst A;obtain⟨x4,rfl,rfl,D⟩:=aW.o.done d (by decide) (by omega);obtain⟨q5,S⟩:=eX (q4.fld x4 4);rw[S]at D;have aQ:=Zh S;have ay:q5.keys=x3:=by rw[<-S,<-R.o];rfl
        have r:q5.sums=x4:=by rw[<-S];rfl
        have B:=JC D ((N x3.xs:Int)+1+(N x4.xs:Int)) 2 (by omega) (by omega);rw[<-ay]at dm;rw[<-r]at aj;rw[<-ay,<-r]at B;obtain⟨JS,dI⟩:=aJ ay r;clear ay r;have K7:=Zh D;obtain⟨u0,u1,u2,u3,u4,u5,u6⟩:=D.gq.k7;simp only[ae.val]at u0 u3 u4 u5 u6;clear D d S;go_wp2_with fail;refine B.mono ?_;rintro e Wp ⟨ov,rfl,aY,aZ,bf,av,Mp⟩;have p6:=Mp.gq.at 6;have dH:=Mp.gq.frozen 6;have n:=Mp.ints av 6 (by decide);simp only[ae.val]at n p6 ⊢;obtain⟨Wq,bg⟩:=eX (UC Wp (aD (M (H W)+1+1) 6) (.slice ov.ad (N ov.xs) ov.cap));rw[bg]at n;obtain⟨q6,K⟩:=eX (q5.fld ov 6);rw[K]at n;obtain⟨u0,u1,u2,u3,u4,u5,u6⟩:=n.gq.k7;obtain⟨y0,y1,y2,y3,y4,y5,y6⟩:=n.gr.k7;have z:=λi=>n.gr.frozen i;simp only[ae.val]at u0 u3 u4 u5 u6;obtain⟨HF,bn⟩:=aJ n.fin K;clear n Mp K B av;go_wp2;refine Zw (results_cell_row rfl _ _ (M (H W)+1) 26 q6.cells (0,0) _ rfl HF.o.1 Tryz.underlying26 rfl (by kernel_rfl)) rfl ?_;refine⟨q6,rfl,?_,HF.o.2.1,HF.o.2.2.1,HF.o.2.2.2⟩;obtain rfl:=bn.o;obtain rfl:=aQ.o;obtain rfl:=R.o;obtain rfl:=aK.o;obtain rfl:=ax.o;obtain rfl:=ag.o;exact⟨bC.o,bJ.o,.inl ⟨rfl,rfl,dm,aO.o _ bL.o.1,bL.o.2,aj,aO.o _ au.o,bf,aY,aZ⟩⟩
     |false =>
      obtain⟨q4,G⟩:=eX (q3);have Q:=JB dh.o 4 (by omega);rw[G]at Q;have R:=Zh G;clear G;go_wp2_with fail;refine Q.mono ?_;rintro e W9 ⟨k6,rfl,ed,L⟩;obtain⟨aW,X⟩:=aJ L (L.grow 3 1 5 (by rw[<-R.o,<-aK.o,<-ax.o,<-ag.o];rfl));clear L Q;go_wp2;go_loopw [12] (λi wr=>∃(k:Nat) (xs:List Int) (v:X3),i=I J k/\N xs+k<=4/\1<=N xs+k/\Y3 (aS xs C=T)/\eZ mb (M (H W)+1+1) lo lc l 3 26 1 W9 (λv=>q4.cells.setIfInBounds 5 v) wr v (N xs) (xs.map (Value.int J))) (λi _=>(intOf i).toNat)
      case atStart=>exact⟨1+k6,[],_,congrArg (Value.int J) (by omega),by simp;omega,by simp,rfl,X.o⟩
      case round=>
       obtain⟨k,xs,v,rfl,aj,aX,au,d⟩:=hrel;by_cases eB:0<k
       .have bG:((k:Int) > 0):=by omega
        obtain⟨va,vn,vc,rfl⟩:=Zc d.own;have bA:=d.gb.at 5;have aP:=YL (d.keep (Zp wr 1) (d.uR.keep (Zp wr 1))) (C:Int) (by omega);clear d;go_wp2;go_region_law
         ((first
          |(obtain⟨ya,ym,yc,w5,oU,S,bO,t,-⟩:=eZ.push (P:=V) y (by omega) 5 [I J p] 22 22 Tryz.lK (λ_=>rfl) rfl (by simp[Value.oneCell']);have zL:=Zh t;clear t;refine XJ (by rfl) _ _ _ (by rfl) (Z va vn vc) (Z (O (aD (M (H W3)) 0)) 1 1) (Z ya ym yc) w5 (by rfl) (by rfl) oU ?_)
          |(go_simp;go_at_call 11;refine aP.mono ?_;rintro e W3 ⟨p,rfl,hp,y⟩;have f:=y.gb.at 5;have bB:=oN f (QE W3 (EP #[I J p] 3)))))
        all_goals
         have HP:=Zh hp;go_wp2;go_roundw
         case rel=>exact⟨k-1,xs++[p],_,congrArg (Value.int J) (show _=((k-1:Nat):Int) by omega),by rw[Zn,Xc];omega,by rw[Zn,Xc];omega,BG au.o HP.o.1 HP.o.2,by rw[Zn,Qi];exact zL.o⟩
         case measure=>simp[intOf];omega
       .have A:k=0:=by omega
        subst A;obtain⟨x4,rfl,rfl,D⟩:=aW.o.done d (by decide) (by omega);obtain⟨q5,S⟩:=eX (q4.fld x4 5);rw[S]at D;have aQ:=Zh S;have r:q5.bE=x4:=by rw[<-S];rfl
        have B:=JC D (N x4.xs:Int) 3 (by omega) (by omega);rw[<-r]at aj aX B;have dI:=Zh r;clear r;have K7:=Zh D;obtain⟨u0,u1,u2,u3,u4,u5,u6⟩:=D.gq.k7;simp only[ae.val]at u0 u3 u4 u5 u6;clear D d S;go_wp2_with fail;refine B.mono ?_;rintro e Wp ⟨ov,rfl,aY,aZ,bf,av,Mp⟩;have p6:=Mp.gq.at 6;have dH:=Mp.gq.frozen 6;have n:=Mp.ints av 6 (by decide);simp only[ae.val]at n p6 ⊢;obtain⟨Wq,bg⟩:=eX (UC Wp (aD (M (H W)+1+1) 6) (.slice ov.ad (N ov.xs) ov.cap));rw[bg]at n;obtain⟨q6,K⟩:=eX (q5.fld ov 6);rw[K]at n;obtain⟨u0,u1,u2,u3,u4,u5,u6⟩:=n.gq.k7;obtain⟨y0,y1,y2,y3,y4,y5,y6⟩:=n.gr.k7;have z:=λi=>n.gr.frozen i;simp only[ae.val]at u0 u3 u4 u5 u6;obtain⟨HF,bn⟩:=aJ n.fin K;clear n Mp K B av;go_wp2;refine Zw (results_cell_row rfl _ _ (M (H W)+1) 26 q6.cells (0,0) _ rfl HF.o.1 Tryz.underlying26 rfl (by kernel_rfl)) rfl ?_;refine⟨q6,rfl,?_,HF.o.2.1,HF.o.2.2.1,HF.o.2.2.2⟩;obtain rfl:=bn.o;obtain rfl:=aQ.o;obtain rfl:=R.o;obtain rfl:=aK.o;obtain rfl:=ax.o;obtain rfl:=ag.o;exact⟨bC.o,bJ.o,.inr ⟨rfl,rfl,rfl,aX,aj,aO.o _ au.o,bf,aY,aZ⟩⟩
def Ub{Fq:Nat->Prop}{w:U}{f:aF}{ts:List ah}{q:af}(Ez:Env f ts q W0)(hz:Fz Fq W0 w)(a b:Nat)(ha:a<2 ^ (N q.src.xs))(hb:b<2 ^ (N q.src.xs)) :
  Cb 215 #[FL (f.cells ts q),I Vo (a:Int),I Vo (b:Int)] w (I Vo ((dF (bT ts q) a b:Nat):Int)):=by
 obtain⟨v0,r,t,v3,v4,v5,u,v,y,v9,g,i,j,cK,-⟩:=X9 f ts q;have aa:2 ^ (N q.src.xs)<=18446744073709551616:=ZI (n:=2) (by omega) Ez.ok.small;have m:∀s,bB (bT ts q) s<18446744073709551616:=λs=>QA (jL _ _ (N (bT ts q))) (ZI (n:=2) (by omega) (show N (bT ts q)<=64 by rw[kI];exact Ez.ok.wm));have ae:=IQ ha hb;have z:Y3 (∀(x:U) (s:Nat),s<18446744073709551616->Bw w x->Cb 181 #[FL #[v0,r,t,v3,v4,v5,u,v,y,v9,g,i,j],I Vo (s:Int)] x (I Vo ((bB (bT ts q) s:Nat):Int))):=λx s hs l=>by rw[<-cK];exact Fe f ts q s x Ez.ok ((Ez.at' hz).below l) hs
 have hR:dF (bT ts q) a b=bB (bT ts q) (a|||b) &&& (18446744073709551615-(bB (bT ts q) a|||bB (bT ts q) b)):=rfl;rw[hR,cK];have D:Y3 (a<18446744073709551616/\b<18446744073709551616/\a|||b<18446744073709551616):=⟨by omega,by omega,by omega⟩;have h1:=m (a|||b);have h2:=m a;have h3:=m b;have G:Y3 (∀x,Bw w x->Cb 181 #[FL #[v0,r,t,v3,v4,v5,u,v,y,v9,g,i,j],I Vo ((a|||b:Nat):Int)] x (I Vo ((bB (bT ts q) (a|||b):Nat):Int))):=λx l=>z.o x _ D.o.2.2 l;have L:Y3 (∀x,Bw w x->Cb 181 #[FL #[v0,r,t,v3,v4,v5,u,v,y,v9,g,i,j],I Vo (a:Int)] x (I Vo ((bB (bT ts q) a:Nat):Int))):=λx l=>z.o x _ D.o.1 l;have P:Y3 (∀x,Bw w x->Cb 181 #[FL #[v0,r,t,v3,v4,v5,u,v,y,v9,g,i,j],I Vo (b:Int)] x (I Vo ((bB (bT ts q) b:Nat):Int))):=λx l=>z.o x _ D.o.2.1 l;generalize bB (bT ts q) (a|||b)=A1 at*;generalize bB (bT ts q) a=A2 at*;generalize bB (bT ts q) b=A3 at*;have h4:A2|||A3<18446744073709551616:=IQ (n:=64) h2 h3;have ag:=u64_andNot_nat A1 (A2|||A3) h1 h4;have Q:Y3 (∀(x:U) (c:Nat),UK x (aD c 0)=O (I Vo (a:Int))->UK x (aD c 1)=O (I Vo (b:Int))->Ce 104 #[Z (O (aD c 0)) 2 2] x (I Vo ((a|||b:Nat):Int))):=λx c C e1=>lX c a b x C e1 D.o.1 D.o.2.1;have R:Y3 (∀(x:U) (c:Nat),UK x (aD c 0)=O (I Vo (A2:Int))->UK x (aD c 1)=O (I Vo (A3:Int))->Ce 104 #[Z (O (aD c 0)) 2 2] x (I Vo ((A2|||A3:Nat):Int))):=λx c C e1=>lX c A2 A3 x C e1 h2 h3;generalize a|||b=ab at*;generalize A2|||A3=A23 at*;generalize A1 &&& (18446744073709551615-A23)=RR at*;obtain⟨w1,ai,W,X⟩:=aL w #[v0,r,t,v3,v4,v5,u,v,y,v9,g,i,j] 90;obtain⟨a0,a1,a2,a3,a4,a5,a6,a7,a8,a9,nA,oC,B⟩:=X.oh;have p:=Zh W;go_enter Tryz.func215,Tryz.ntmps215;go_wp2_with fail;refine wH w1 λd=>?_;refine wT 0 (FL #[v0,r,t,v3,v4,v5,u,v,y,v9,g,i,j]) d (λx l=>?_) ?_
 .have C:=vM l a0 a1 a2 a3 a4 a5 a6 a7 a8 a9 nA oC B;go_simp
 refine wt 1 (I Vo (a:Int)) d ?_;refine wt 2 (I Vo (b:Int)) d ?_;refine wT 6 (FL #[v0,r,t,v3,v4,v5,u,v,y,v9,g,i,j]) d (λx l=>?_) ?_
 .have C:=vM l a0 a1 a2 a3 a4 a5 a6 a7 a8 a9 nA oC B;go_simp
 refine wt 7 (I Vo (a:Int)) d ?_;refine wT 9 (FL #[v0,r,t,v3,v4,v5,u,v,y,v9,g,i,j]) d (λx l=>?_) ?_
 .have C:=vM l a0 a1 a2 a3 a4 a5 a6 a7 a8 a9 nA oC B;go_simp
 refine wt 10 (I Vo (b:Int)) d ?_;refine wR 3 λK k=>?_;go_simp;refine oA k d λd=>?_;refine wR 4 λK k=>?_;go_simp;refine XX (Q.o _ _ (by simp) (by simp)) ?_;rintro e w2 ⟨rfl,A⟩;have A:=A.symm;subst A;refine k.o _ _ d λd=>?_;refine wR 5 λK k=>?_;go_simp;refine XX (G.o _ (az p.o d)) ?_;rintro e w3 ⟨rfl,hb⟩;refine oT k d hb λd=>?_;refine wR 8 λK k=>?_;go_simp;refine XX (L.o _ (az p.o d)) ?_;rintro e w4 ⟨rfl,hb⟩;refine oT k d hb λd=>?_;refine wR 11 λK k=>?_;go_simp;refine XX (P.o _ (az p.o d)) ?_;rintro e w5 ⟨rfl,hb⟩;refine oT k d hb λd=>?_;refine wR 12 λK k=>?_;go_simp;refine oA k d λd=>?_;refine wR 13 λK k=>?_;go_simp;refine XX (R.o _ _ (by simp) (by simp)) ?_;rintro e w6 ⟨rfl,S⟩;have S:=S.symm;subst S;refine k.o _ _ d λd=>?_;refine wR 14 λK k=>?_;go_simp;refine k.o _ _ d λd=>?_;refine wR 15 λK k=>?_;go_simp;refine k.o _ _ d λd=>?_;refine wD ?_;try simp only[pU]
 have HF:=Zh (az p.o d);go_wp2;go_ret;refine⟨Qe ?_,HF.o⟩
 first|rfl|simp
structure mI where
 ad:Addr
 cap:Nat
 xs:List Nat
def OX:mI:=⟨(aD 0 0),0,[]⟩
def mI.val(x:mI):Value:=Z (O x.ad) (N x.xs) x.cap
def fq(ls:List mI):List Nat:=(ls.map (·.xs)).flatten
def Jp{ls:List mI}(hk:k<N ls):fq (ls.take (k+1))=fq (ls.take k)++(E ls k OX).xs:=by unfold fq;rw[jT ls OX hk,Qi,List.flatten_append];simp
def Uh{ls:List mI}:N (fq (ls.take k))<=N (fq ls):=by
 have h:fq ls=fq (ls.take k)++fq (ls.drop k):=by unfold fq;rw[<-List.flatten_append,<-Qi,Zx]
 rw[h,Zn];omega
structure agL(w:U)(ao:Option Addr)(ls:List mI):Prop where
 cells:aX w ao (N ls) (λi=>(E ls i OX).val)
 each:∀i,i<N ls->dA w (O (E ls i OX).ad) (E ls i OX).xs
def Tryz.adf:Go.Shelf.Ren:=⟨fun|4=>217|n=>n,fun|22=>103|25=>95|3=>3|4=>4|9=>9|20=>20|0=>0|n=>n,fun|n=>n⟩
def Tryz.aM:Go.Proofs.Lays8.n4 V Tryz.adf:={
 mixed:=by kernel_rfl
 f4:=⟨Tryz.f217.name,by decide,Tryz.func217.trans (congrArg O (by kernel_rfl))⟩
 t0:=Tryz.underlying0
 a0:=Tryz.isAgg0
 z0:=Tryz.sizeOf0
 v0:=Tryz.zeroValue0
 t3:=Tryz.underlying3
 a3:=Tryz.isAgg3
 z3:=Tryz.sizeOf3
 v3:=Tryz.zeroValue3
 t4:=Tryz.underlying4
 a4:=Tryz.isAgg4
 z4:=Tryz.sizeOf4
 v4:=Tryz.zeroValue4
 t9:=Tryz.underlying9
 a9:=Tryz.isAgg9
 z9:=Tryz.sizeOf9
 v9:=Tryz.zeroValue9
 t20:=Tryz.underlying20
 a20:=Tryz.isAgg20
 z20:=Tryz.sizeOf20
 v20:=Tryz.zeroValue20
 t22:=Tryz.underlying103
 a22:=Tryz.isAgg103
 z22:=Tryz.sizeOf103
 v22:=Tryz.zeroValue103 }
def adg(n:Nat)(w:U)(hn:n<=1000000) :
  Calls V 217 #[Z xn 0 0,I J n] w λe b=>∃v,e=FN v/\b.ownsRow (M (H w)) 95 1 v 0 []/\Bw w b:=by
 obtain⟨k,l,d,f,g⟩:=Zj Tryz.uN;by_cases m:n=0
 .subst m;have h:=Any8.slices_Grow_room Tryz.aM xn 0 0 0 w (Qn _) (by omega) (by omega) (by omega);change Calls V 217 _ _ _ at h;refine h.mono ?_;rintro e b ⟨rfl,rfl⟩;exact⟨_,rfl,Zk _ _ _ _,Qm _ _⟩
 .have h:=Any8.slices_Grow_grow Tryz.aM k (Y xn) l d (by rw[f];decide) xn 0 0 n [] w (Qn _) (by omega) (by rw[g];omega) (by omega) (by simp) (λ_=>rfl) (λa e=>by cases e);change Calls V 217 _ _ _ at h;refine h.mono ?_;rintro e b ⟨rfl,rfl⟩;refine⟨_,rfl,⟨by simp,.inr ⟨M (H w),_,_,rfl,Qn _,pR w.drew _,QW _,?_,?_,by simp⟩⟩,?_⟩
  .exact grownCap_le_maxLen _ _ _ _ (by unfold maxLen;omega)
  .have i:=grownCap_ge w (0+n) 0 95;have j:(Value.pointer xn).cells.size=1:=rfl;simp only[Array.size_append,size_zeroCells,j,QN,QP]
   show 0+(0+n-0)*1+(grownCap w (0+n) 0 95-(0+n))*1=grownCap w (0+n) 0 95*1;omega
  .exact(Qm _ w).drew.alloc (Qn _) _
theorem adh(W:U)(base:Nat)(v:X3)(fk:List Nat)(hown:W.ownsRow base 95 1 v (N fk) (fk.map λx=>Value.pointer (O (aD x 0))))(xa:Addr)(xc:Nat)(xs:List Nat)(hx:dA W (O xa) xs)(hl:N fk+N xs<=1000)(hb:base<=M (H W))(ty:TypeId) :
  ∃d f,(Builtin.append_ #[103,103] ty #[v,Z (O xa) (N xs) xc]).run V W=.ok d f/\f.ownsRow base 95 1 d (N (fk++xs)) ((fk++xs).map λx=>Value.pointer (O (aD x 0)))/\Kept (λb=>v.ownBlock≠O b) W f/\∃a m c,d = Z a m c:=by
 obtain⟨q,t,g,i,k⟩:=Zj Tryz.uN;obtain⟨d,f,l,y,z,_⟩:=Xo (P:=V) W base 103 ty 95 q _ 1 8 Tryz.underlying103 t g i k rfl (by decide) v (N fk) _ hown xa (N xs) xc (xs.map λx=>Value.pointer (O (aD x 0))) (by simp)
  (λj u p=>by
   by_cases n:j<N xs
   .obtain⟨b',Pf,e,B⟩:=hx.2 j n
    cases e;rw[iB];grind
   .rw[XI (by simp;omega)]at p;cases p) (λu A=>by obtain⟨x,_,rfl⟩:=ZC.1 A;rfl) (by unfold maxLen;omega) (by omega) hb
 exact⟨d,f,l,by grind,Q9 z (λr e l=>l e),Zc y⟩
def Ui(ao:Option Addr)(cap:Nat)(ls:List mI)(w:U)(hr:agL w ao ls)(hn:N ls<=1000)(ht:N (fq ls)<=1000) :
  Calls V 185 #[Z ao (N ls) cap] w λe w'=>∃v,e=FN v/\w'.ownsRow (M (H w)) 95 1 v (N (fq ls)) ((fq ls).map λx=>Value.pointer (O (aD x 0)))/\Bw w w':=by
 obtain⟨i0,hi,af,ag,ah⟩:=Zj Tryz.uN;obtain⟨HR,HT⟩:=aJ hr ht;clear hr ht;go_enter Tryz.func185,Tryz.ntmps185;go_wp2;go_loopw [3,11] (λs i wr=>∃k:Nat,k<=N ls/\i=I J k/\s=I J (N (fq (ls.take k)))/\w=wr) (λ_ i _=>N ls-(intOf i).toNat)
 case atStart=>exact⟨0,QW _,rfl,rfl,rfl⟩
 case round=>
  obtain⟨k,hk,rfl,rfl,rfl⟩:=hrel;by_cases d:k<N ls
  .obtain⟨b,off,rfl,j⟩:=Qf HR.o.cells d;have g:=j k d;have f:N (fq (ls.take (k+1)))<=1000:=Qz Uh HT.o;have p:N (fq (ls.take (k+1)))=N (fq (ls.take k))+(E ls k OX).xs.length:=by rw[Jp d,Zn]
   have HS:=Zh p;generalize E ls k OX=x at*;obtain⟨A,B,n⟩:=x;have y:UK w (aD b (off+k))=O (Z (O A) (N n) B):=g;have hw:wrap64 ((N (fq (ls.take k)):Int)+(N n:Int))=((N (fq (ls.take k))+N n:Nat):Int):=by simp only at p;unfold wrap64;omega
   have Y5:¬(((N (fq (ls.take k))+N n:Nat):Int)<0):=by omega
   have S:=Zh hw;clear g j f p;generalize N (fq (ls.take k))=a at*;go_wp2;go_roundw
   case rel=>exact⟨k+1,by omega,by go_num,by rw[HS.o];exact congrArg (Value.int J) S.o,trivial⟩
   case measure=>simp[intOf];omega
  .have q:k=N ls:=by omega
   subst q;rw[QX];have ht:=HT.o;generalize R:fq ls=fl at*;have W:=Zh R;clear R;go_wp2_with fail;refine(adg (N fl) w (by omega)).mono ?_;rintro e w2 ⟨v0,rfl,l,C⟩;obtain⟨aa,ae⟩:=aJ l C;clear l C;go_wp2;go_loopw [6,27] (λv i wr=>∃k:Nat,k<=N ls/\i=I J k/\Y3 (wr.ownsRow (M (H w)) 95 1 v (N (fq (ls.take k))) ((fq (ls.take k)).map λx=>Value.pointer (O (aD x 0))))/\Y3 (Bw w wr)) (λ_ i _=>N ls-(intOf i).toNat)
   case atStart=>exact⟨0,QW _,rfl,aa.o,ae.o⟩
   case round=>
    obtain⟨k,hk,rfl,m,u⟩:=hrel;obtain⟨D,G,K,rfl⟩:=Zc m.o;by_cases d:k<N ls
    .obtain⟨b,off,rfl,j⟩:=Qf HR.o.cells d;have g:=cB u.o (j k d);have r:=(HR.o.each k d).below u.o;have f:N (fq (ls.take (k+1)))<=1000:=by have h1:N (fq (ls.take (k+1)))<=N (fq ls):=Uh;rw[W.o]at h1;omega
     have t:=Jp d;have X:=Zh t;rw[t,Zn]at f;generalize E ls k OX=x at*;obtain⟨A,B,n⟩:=x;simp only at r f;have y:UK wr (aD b (off+k))=O (Z (O A) (N n) B):=g;have HA:=Zh r;clear g j t r;generalize fq (ls.take k)=fk at*;have z:=u.o.size;obtain⟨v',w1,L,P,Q,⟨za,zm,zc,rfl⟩⟩:=adh wr (M (H w)) (Z D G K) fk m.o A B n HA.o f z 103;have HO:Y3 (w1.ownsRow (M (H w)) 95 1 (Z za zm zc) (N (fq (ls.take (k+1)))) ((fq (ls.take (k+1))).map λx=>Value.pointer (O (aD x 0)))):=by show World.ownsRow _ _ _ _ _ _ _;rw[X.o];exact P
     have HB:=Zh (u.o.trans (Q.below u.o.size (λb hb e=>by have:=(Zb m.o e).1;omega)));clear P Q f z;go_wp2_with (first|(at_builtin;refine Xm rfl (.tmp 31) (.tmp 32) 103 rfl (Z D G K) (Z (O A) (N n) B) (Z za zm zc) w1 rfl rfl L ?_));clear L y;go_wp2;go_roundw
     case rel=>exact⟨k+1,by omega,by go_num,HO.o,HB.o⟩
     case measure=>simp[intOf];omega
    .have q:k=N ls:=by omega
     subst q;rw[QX,W.o]at m;go_wp2;go_ret;refine⟨_,rfl,?_,u.o⟩;rw[W.o];exact m.o
def Yo(sb:Nat)(v0 v1 v2 v3 v4 v5 v6 v7 v8 v9 v10 v11 v12 gs bv pk:X3)(aa:Option Addr)(n ac:Nat)(ct:Bool)(st:Int)(w:U)(hg:GB w sb 97 #[v0,v1,v2,v3,v4,v5,v6,v7,v8,v9,v10,v11,v12,gs,Z aa n ac,Wl ct,bv,pk,I J st]) :
  Calls V 73 #[Y (O (aD sb 0))] w λe i=>(∃v,e=FN v)/\Kept (λb=>b≠sb) w i/\GB i sb 97 #[v0,v1,v2,v3,v4,v5,v6,v7,v8,v9,v10,v11,v12,gs,Z aa n ac,Wl ct,bv,pk,I J (if 0<n then st else if ct=T then 3 else 2)]:=by
 have j:=hg.at 14;have k:=hg.at 15;have l:=hg.at 18;have m:=hg.frozen 18;have g:Y3 (∀x:Int,GB (UC w (aD sb 18) (I J x)) sb 97 #[v0,v1,v2,v3,v4,v5,v6,v7,v8,v9,v10,v11,v12,gs,Z aa n ac,Wl ct,bv,pk,I J x]):=λx=>hg.set 18 (I J x);have p:=Zh hg;obtain⟨R,f⟩:∃R,R=if 0<n then st else if ct=T then 3 else 2:=⟨_,rfl⟩;rw[<-f];have a:=Zh f;clear hg f;by_cases q:0<n
 .have d:=Zh (a.o.trans (Zt q));clear a;go_enter Tryz.func73,Tryz.ntmps73;go_wp2;refine Zw (Q6 rfl _ _ _) rfl ?_;exact⟨⟨_,rfl⟩,Qy _ _,by rw[d.o];exact p.o⟩
 .obtain rfl:n=0:=by omega
  cases ct with
  |true =>
   have d:Y3 (R=3):=a.o.trans (by simp);clear a;go_enter Tryz.func73,Tryz.ntmps73;go_wp2;go_end0;exact⟨⟨_,rfl⟩,Q8 _ _ _ (λh=>h rfl),by rw[d.o];exact g.o 3⟩
  |false =>
   have d:Y3 (R=2):=a.o.trans (by simp);clear a;go_enter Tryz.func73,Tryz.ntmps73;go_wp2;go_end0;exact⟨⟨_,rfl⟩,Q8 _ _ _ (λh=>h rfl),by rw[d.o];exact g.o 2⟩
def eT(t:dP):List Value:=[I Vo (t.1:Int),I Vo (t.2:Int)]
def OU{P:Program}{t tx ty:TypeId}{i:TypeInfo}(hi:P.info? e=O i)(h1:P.underlying t=O (.slice e))(h2:P.underlying tx=O (.slice e))(v x:X3)(w:U):(Builtin.append_ #[t,tx] ty #[v,x]).run P w=(Builtin.append_ #[t,t] ty #[v,x]).run P w:=by unfold Builtin.append_;cases v <;> simp[run_underlying h1,run_underlying h2,sizeOf,typeInfo,hi]
theorem agE{ys:List X3}(l r:X3)(hx:N xs=n*2)(hy:N ys=2)(hi:i<n) :
  (((xs++ys).take ((i+1)*2)++xs.drop (i*2)++(xs++ys).drop ((i+1)*2+N (xs.drop (i*2)))).take (i*2)++[l,r]++((xs++ys).take ((i+1)*2)++xs.drop (i*2)++(xs++ys).drop ((i+1)*2+N (xs.drop (i*2)))).drop (i*2+[l,r].length))=xs.take (i*2)++[l,r]++xs.drop (i*2):=by
 have a:(xs++ys).drop ((i+1)*2+N (xs.drop (i*2)))=[]:=List.drop_eq_nil_of_le (by grind);have b:N ((xs++ys).take ((i+1)*2))=(i+1)*2:=by grind
 rw[a,Xd,List.take_append_of_le_length (by omega),List.drop_left' (by rw[b];simp;omega),List.take_take,Qr (by omega),List.take_append_of_le_length (by omega)]
def Tryz.Db:(V.info? 138).map (λi=>(i.zero,i.size,i.bytes))=O (O (FL #[I Vo 0,I Vo 0]),2,16):=by kernel_rfl
def OV(base g n cap i vb:Nat)(l r:X3)(xs:List X3)(w:U)(hown:w.ownsRow base 138 2 (Z (O (aD g 0)) n cap) n xs)(hx1:∀u∈xs,u.oneCell' = T)(hl1:l.oneCell' = T)(hr1:r.oneCell' = T)(hi:i<n)(hroom:n+1<=cap)(hvb:GB w vb 138 #[l,r])(hne:vb≠g) :
  Calls V 103 #[Z (O (aD g 0)) n cap,I J i,Z (O (aD vb 0)) 1 1] w λe w'=>
   e=FN (Z (O (aD g 0)) (n+1) cap)/\w'.ownsRow base 138 2 (Z (O (aD g 0)) (n+1) cap) (n+1) (xs.take (i*2)++[l,r]++xs.drop (i*2))/\Kept (λb=>b≠g) w w':=by
 obtain⟨i0,D,ah,G,ai⟩:=Zj Tryz.Db;have z:(V.info? 138).map (·.size)=O 2:=by rw[D];simp[G]
 obtain⟨_,X,k,m,aa,ae,aj⟩:=mR hown;have A:=hown.1;have ak:cap<=9223372036854775807:=by unfold maxLen at X;omega
 have Q:w.shape? vb=O (138,2):=by have h:w.heap[vb]? = O (EP #[l,r] 138 (0,0)):=hvb;simp[World.shape?,h]
 have ag:∀lb cb,(callFunc 153 #[Z (O (aD vb 0)) 1 1,Z (O (aD g ((i+1)*2))) lb cb]).run V w=.ok (.value (Wl F)) w:=λlb cb=>by
  rw[run_callFunc_extern Tryz.func153 (by kernel_rfl) (by kernel_rfl) (by kernel_rfl) (e:=Extern.SlicesOverlaps.overlaps #[93,93] #[4]) (by kernel_rfl),
   Lib.run_overlaps_apart w 93 4 138 Tryz.underlying93 2 (λW=>by simp[sizeOf,typeInfo,D,G]) (aD vb 0) (aD g ((i+1)*2)) 1 1 lb cb hne 138 138 2 (cap*2) Q ae (by omega) (hvb.frozen 0) (hvb.frozen 2)]
  rfl
 have B:N (xs.drop (i*2))=n*2-i*2:=by rw[X7,A]
 have t:∀L dc sc,(Builtin.copy_ #[94,94] L #[Z (O (aD g ((i+1)*2))) (n-i) dc,Z (O (aD g (i*2))) (n+1-i) sc]).run V w.drew=.ok (goInt (Nat.min (n+1-i) (n-i))) (w.drew.setCells g ((i+1)*2) (xs.drop (i*2))):=λL dc sc=>
  yR w.drew _ _ L 138 2 g ((i+1)*2) (n-i) dc (aD g (i*2)) (n+1-i) sc (xs.drop (i*2)) Tryz.underlying94 z (by rw[B];simp only[Nat.min_def];split <;> omega)
   (λj v y=>by rw[iB];exact k (i*2+j) v (by rwa [List.getElem?_drop]at y))
   (λj y=>m _ (by omega)) (λj y=>aa _) (λv hv=>hx1 v (X8 hv))
 obtain⟨P,K⟩:=eY (w.drew.setCells g ((i+1)*2) (xs.drop (i*2)));have f:w.drew.ownsRow base 138 2 (Z (O (aD g 0)) n cap) n xs:=hown;obtain⟨ys,af,p⟩:=agx f hroom;have a:=iN (v:=Z (O (aD g 0)) (n+1) cap) (g:=g) rfl (xs.drop (i*2)) ((i+1)*2) p (by rw[B];omega);rw[<-K]at a t;have C:Kept (λb=>b≠g) w P:=by rw[K];exact(Kept.ES w).trans (Kept.setCells (λh=>h rfl) _ _ _)
 obtain⟨_,_,q,xX,Uc,_,_⟩:=mR a;have R:=hvb.keep C hne;have S:∀L dc,(Builtin.copy_ #[94,93] L #[Z (O (aD g (i*2))) (n+1-i) dc,Z (O (aD vb 0)) 1 1]).run V P=.ok (goInt (Nat.min 1 (n+1-i))) (P.setCells g (i*2) [l,r]):=λL dc=>
  yR P _ _ L 138 2 g (i*2) (n+1-i) dc (aD vb 0) 1 1 [l,r] Tryz.underlying94 z (by simp only[Nat.min_def];split <;> simp;omega)
   (λj v y=>by rw[iB,ZK,R.cell];simpa using y)
   (λj y=>xX _ (by simp at y;omega)) (λj y=>Uc _) (λv hv=>by simp at hv;rcases hv with rfl|rfl <;> assumption)
 have d:=iN (v:=Z (O (aD g 0)) (n+1) cap) (g:=g) rfl [l,r] (i*2) a (by simp;omega);rw[agE l r A af hi]at d;have lu:Y3 ((P.setCells g (i*2) [l,r]).ownsRow base 138 2 (Z (O (aD g 0)) (n+1) cap) (n+1) (xs.take (i*2)++[l,r]++xs.drop (i*2))/\Kept (λb=>b≠g) w (P.setCells g (i*2) [l,r])):=⟨d,C.trans (Kept.setCells (λh=>h rfl) _ _ _)⟩;clear hown f p a d C k m aa q xX Uc hvb R af B A hx1 Q ae aj z D ah G ai X K;have au:¬(cap=i+1):=by omega
 have av:¬(cap=i):=by omega
 have ax:IntKind.i64.wrap ((i:Int)+1)=(i:Int)+1:=by rw[XE];omega
 have ay:(0:Int)<=(i:Int)+1:=by omega
 have az:(i:Int)+1<=(n:Int)+1:=by omega
 have aA:((i:Int)+1).toNat=i+1:=by omega
 have aB:(i:Int)<=(n:Int)+1:=by omega
 go_enter Tryz.func103,Tryz.ntmps103;go_wp2_with (simp only[ag]);go_region_law (refine step_copy_runI rfl _ _ 94 94 rfl _ _ (by simp[Act.eval,Act.put]) (by simp[Act.eval,Act.put]) (t _ _ _) ?_);go_wp2_with (at_builtin;refine wpList_copy_runI _ rfl _ _ 94 93 rfl _ _ rfl rfl (S _ _) ?_);go_ret;exact⟨rfl,lu.o⟩
theorem ada{Zq:List X3}(l r:X3)(hx:N xs=n*2)(hZ:N Zq=(n+1)*2)(hi:i<n)(hz:Zq.take (i*2)=xs.take (i*2)) :
  ((Zq.take (i*2)++[l,r]++Zq.drop (i*2+[l,r].length)).take ((i+1)*2)++xs.drop (i*2)++(Zq.take (i*2)++[l,r]++Zq.drop (i*2+[l,r].length)).drop ((i+1)*2+N (xs.drop (i*2))))=xs.take (i*2)++[l,r]++xs.drop (i*2):=by
 have a:N (Zq.take (i*2)++[l,r])=(i+1)*2:=by grind
 have b:(Zq.take (i*2)++[l,r]++Zq.drop (i*2+[l,r].length)).drop ((i+1)*2+N (xs.drop (i*2)))=[]:=List.drop_eq_nil_of_le (by grind);rw[b,Xd,List.take_left' a,hz]
theorem Yl(base n vb:Nat)(v l r:X3)(xs:List X3)(w:U)(hown:w.ownsRow base 138 2 v n xs)(hb:base<=M (H w))(hn:n<=1000000)(hl1:l.oneCell' = T)(hr1:r.oneCell' = T)(hvb:GB w vb 138 #[l,r]) :
  Calls V 103 #[v,I J n,Z (O (aD vb 0)) 1 1] w λe i=>
   ∃d,e=FN d/\i.ownsRow base 138 2 d (n+1) (xs++[l,r])/\Kept (λb=>v.ownBlock≠O b) w i/\(d.ownBlock=v.ownBlock∨∃g,d.ownBlock=O g/\M (H w)<=g):=by
 obtain⟨B,f,k,m,p⟩:=Zj Tryz.Db;obtain⟨d,i,q,t,A,y⟩:=Xo (P:=V) w base 94 94 138 B _ 2 16 Tryz.underlying94 f k m p rfl (by decide) v n xs hown (aD vb 0) 1 1 [l,r] rfl
  (λj u K=>by rw[iB,ZK,hvb.cell];simpa using K) (λu L=>by grind) (by unfold maxLen;omega) (by omega) hb
 have a:(Builtin.append_ #[94,93] 94 #[v,.slice (O (aD vb 0)) 1 1]).run V w=.ok d i:=(OU f Tryz.underlying94 Tryz.underlying93 _ _ _).trans q;have z:Y3 (∃u,Ending.returned d = FN u/\i.ownsRow base 138 2 u (n+1) (xs++[l,r])/\Kept (λb=>v.ownBlock≠O b) w i/\(u.ownBlock=v.ownBlock∨∃g,u.ownBlock=O g/\M (H w)<=g)):=⟨d,rfl,t,Q9 A (λr e q=>q e),by
  grind⟩
 obtain⟨C,D,G,rfl⟩:=Zc t;clear q t A y hvb f k m p;rcases hown.2 with⟨rfl,rfl⟩|⟨g,cap,cur,rfl,-,-,hnc,hcm,-⟩
 .clear hown;go_enter Tryz.func103,Tryz.ntmps103;go_wp2_with (at_builtin;refine Lib.wpList_append_run _ rfl _ _ _ _ rfl _ _ rfl rfl _ _ a ?_);go_ret;exact z.o
 .clear hown;go_enter Tryz.func103,Tryz.ntmps103;go_wp2_with (at_builtin;refine Lib.wpList_append_run _ rfl _ _ _ _ rfl _ _ rfl rfl _ _ a ?_)
  all_goals (go_ret;exact z.o)
theorem Ud(base g n cap i vb:Nat)(l r:X3)(xs:List X3)(w:U)(hown:w.ownsRow base 138 2 (Z (O (aD g 0)) n cap) n xs)(hb:base<=M (H w))(hn:n<=1000000)(hx1:∀u∈xs,u.oneCell' = T)(hl1:l.oneCell' = T)(hr1:r.oneCell' = T)(hi:i<n)(hroom:cap<n+1)(hvb:GB w vb 138 #[l,r]) :
  Calls V 103 #[Z (O (aD g 0)) n cap,I J i,Z (O (aD vb 0)) 1 1] w λe w'=>
   ∃G,e=FN (Z (O (aD (M (H w)) 0)) (n+1) G)/\w'.ownsRow base 138 2 (Z (O (aD (M (H w)) 0)) (n+1) G) (n+1) (xs.take (i*2)++[l,r]++xs.drop (i*2))/\Bw w w':=by
 obtain⟨i0,X,ay,aa,ae⟩:=Zj Tryz.Db;have D:(V.info? 138).map (·.size)=O 2:=by rw[X];simp[aa]
 obtain⟨aP,aB,d,af,aC,aF,aQ⟩:=mR hown;have K:=hown.1;have az:cap=n:=by omega
 subst az;have L:i+(cap+1-i)=cap+1:=by omega
 have ag:(cap:Int)+1-(i:Int)=((cap+1-i:Nat):Int):=by omega
 have C:(Builtin.firstCells i0.size i (Z (O (aD g 0)) i cap)).run V w.drew=.ok (xs.take (i*2)).toArray w.drew:=by
  rw[aa];exact run_firstCells_some w.drew 2 i (aD g 0) i cap (xs.take (i*2)) (by rw[Xu];omega) (λj v f=>by
   rw[iB,ZK];rw[Xt]at f;split at f
   .exact d j v f
   .cases f)
 have m:=Lib.run_append_grow_zeros w 94 3 94 138 i0 _ J J Tryz.underlying94 Tryz.underlying3 X ay (O (aD g 0)) i cap (xs.take (i*2)) C (cap+1-i) (by omega) (by omega) (by omega) (by omega) (by rw[ae];omega) (by rw[ae,L];exact growslice_fits (by omega) (by omega));rw[<-ag,L]at m;obtain⟨G,hG⟩:=eY (grownCap w (cap+1) cap 138);obtain⟨a,k⟩:∃a:Array X3,a=(xs.take (i*2)).toArray++Builtin.zeroCells (Value.agg #[.int Vo 0,.int Vo 0]).cells (cap+1-i)++Builtin.zeroCells (Value.agg #[.int Vo 0,.int Vo 0]).cells (G-(cap+1)):=⟨_,rfl⟩;rw[<-hG,<-k]at m;have aA:cap+1<=G:=by rw[hG];exact grownCap_ge w _ _ _
 have P:G<=maxLen:=by rw[hG];exact grownCap_le_maxLen w _ _ _ (by unfold maxLen;omega)
 have ah:N (xs.take (i*2))=i*2:=by rw[Xu];omega
 have p:a.size=G*2:=by rw[k];simp[Builtin.zeroCells,Value.cells,ah];omega
 have ai:a.toList.take (i*2)=xs.take (i*2):=by grind
 obtain⟨N1,z⟩:∃W,W=w.drew.alloc (EP a 138):=⟨_,rfl⟩;rw[<-z]at m;have aj:N1.heap[M (H w)]? = O (EP a 138 (0,0)):=by rw[z];exact pR w.drew _
 have q:Bw w N1:=by rw[z];exact((Qm _ _).drew).alloc (Qn _) _
 have Q:N1.ownsRow base 138 2 (Z (O (aD (M (H w)) 0)) (cap+1) G) (cap+1) (a.toList.take ((cap+1)*2)):=
  ⟨by rw[Xu,Array.length_toList,p];omega,.inr ⟨M (H w),G,a,rfl,hb,aj,aA,P,p,rfl⟩⟩
 have t:=iN (g:=M (H w)) rfl [l,r] (i*2) Q (by simp;omega);have R:N (xs.drop (i*2))=cap*2-i*2:=by rw[X7,K]
 obtain⟨_,_,_,xX,Uc,_,_⟩:=mR Q;obtain⟨_,_,_,Ym,KQ,_,_⟩:=mR t;obtain⟨N2,A⟩:∃W,W=N1.setCells (M (H w)) (i*2) [l,r]:=⟨_,rfl⟩;rw[<-A]at t Ym KQ;have y:Bw w N2:=by rw[A];exact q.trans ((Kept.setCells (s:=λb=>b<M (H w)) (λh=>Nat.lt_irrefl _ h) _ _ _).below q.size (λ_ h=>h))
 have ak:N2.drew.ownsRow base 138 2 (Z (O (aD (M (H w)) 0)) (cap+1) G) (cap+1) _:=t;have S:=iN (g:=M (H w)) rfl (xs.drop (i*2)) ((i+1)*2) ak (by rw[R];omega);have au:=hvb.keep (QB (s:=λb=>b<M (H w)) q (λ_ h _=>h)) hvb.lt;have av:∀ty dc,(Builtin.copy_ #[94,93] ty #[Z (O (aD (M (H w)) (i*2))) (cap+1-i) dc,Z (O (aD vb 0)) 1 1]).run V N1=.ok (goInt (Nat.min 1 (cap+1-i))) N2:=λty dc=>by
  rw[A];exact yR N1 _ _ ty 138 2 (M (H w)) (i*2) (cap+1-i) dc (aD vb 0) 1 1 [l,r] Tryz.underlying94 D (by simp only[Nat.min_def];split <;> simp;omega)
   (λj v f=>by rw[iB,ZK,au.cell];simpa using f)
   (λj f=>xX _ (by simp at f;omega)) (λj f=>Uc _) (λv hv=>by simp at hv;rcases hv with rfl|rfl <;> assumption)
 obtain⟨N3,B⟩:∃W,W=N2.drew.setCells (M (H w)) ((i+1)*2) (xs.drop (i*2)):=⟨_,rfl⟩;have ax:∀ty dc sc,(Builtin.copy_ #[94,94] ty #[Z (O (aD (M (H w)) ((i+1)*2))) (cap-i) dc,Z (O (aD g (i*2))) (cap-i) sc]).run V N2.drew=.ok (goInt (Nat.min (cap-i) (cap-i))) N3:=λty dc sc=>by
  rw[B];exact yR N2.drew _ _ ty 138 2 (M (H w)) ((i+1)*2) (cap-i) dc (aD g (i*2)) (cap-i) sc (xs.drop (i*2)) Tryz.underlying94 D (by rw[R];simp only[Nat.min_def];split <;> omega)
   (λj v f=>by
    rw[iB];have h1:=d (i*2+j) v (by rwa [List.getElem?_drop]at f);exact cB y.drew h1)
   (λj f=>Ym _ (by omega)) (λj f=>KQ _) (λv hv=>hx1 v (X8 hv))
 rw[<-B,ada l r K (by rw[Xu,Array.length_toList,p];omega) hi (by rw[List.take_take,Qr (by omega)];exact ai)]at S;have lu:Y3 (N3.ownsRow base 138 2 (Z (O (aD (M (H w)) 0)) (cap+1) G) (cap+1) (xs.take (i*2)++[l,r]++xs.drop (i*2))/\Bw w N3):=⟨S,by rw[B];exact y.drew.trans ((Kept.setCells (s:=λb=>b<M (H w)) (λh=>Nat.lt_irrefl _ h) _ _ _).below (by exact y.size) (λ_ h=>h))⟩;have aG:G<=9223372036854775807:=by unfold maxLen at P;omega
 have aI:¬(G=i):=by omega
 have aH:¬(G=i+1):=by omega
 have aJ:¬(cap=i):=by omega
 have aK:IntKind.i64.wrap ((i:Int)+1)=(i:Int)+1:=by rw[XE];omega
 have aL:(0:Int)<=(i:Int)+1:=by omega
 have aM:(i:Int)+1<=(cap:Int)+1:=by omega
 have aN:((i:Int)+1).toNat=i+1:=by omega
 have aO:(i:Int)<=(cap:Int):=by omega
 clear hown Q t ak S C k p ai z A B aj q y af xX Ym aC Uc KQ d hvb au R ah K hx1 aF D X ay aa ae hG L ag aB P;go_enter Tryz.func103,Tryz.ntmps103;go_wp2_with (first
  |(at_builtin;refine Lib.wpList_append_run _ rfl _ _ _ _ rfl _ _ rfl rfl _ _ m ?_)
  |(at_builtin;refine wpList_copy_runI _ rfl _ _ 94 93 rfl _ _ rfl rfl (av _ _) ?_))
 go_region_law (refine step_copy_runI rfl _ _ 94 94 rfl _ _ (by simp[Act.eval,Act.put]) (by simp[Act.eval,Act.put]) (ax _ _ _) ?_);go_wp2;go_ret;exact⟨G,rfl,lu.o⟩
theorem agG{zs:List X3}{m:Nat}(hx:N xs=(i+1+m)*2) :
  ((xs.take (i*2)++xs.drop ((i+1)*2)++xs.drop (i*2+N (xs.drop ((i+1)*2)))).take ((i+m)*2)++zs++(xs.take (i*2)++xs.drop ((i+1)*2)++xs.drop (i*2+N (xs.drop ((i+1)*2)))).drop ((i+m)*2+N zs)).take ((i+m)*2)=xs.take (i*2)++xs.drop ((i+1)*2):=by
 have a:N (xs.take (i*2)++xs.drop ((i+1)*2))=(i+m)*2:=by grind
 rw[List.take_left' a,ZE (xs.take (i*2)++xs.drop ((i+1)*2)) zs,List.take_left' a]
def AY(ag:List dP)(i:Nat):(ag.flatMap eT).take (i*2)=(ag.take i).flatMap eT:=by
 induction ag generalizing i with
 |nil=>simp
 |cons t ag ih =>
  cases i with
  |zero=>simp
  |succ i =>
   rw[List.take_succ_cons,Xr,Xr,<-ih i];show (eT t++_).take _=_;rw[show (i+1)*2=N (eT t)+i*2 by show _=2+_;omega,List.take_length_add_append]
def AZ(ag:List dP)(i:Nat):(ag.flatMap eT).drop (i*2)=(ag.drop i).flatMap eT:=by
 induction ag generalizing i with
 |nil=>simp
 |cons t ag ih =>
  cases i with
  |zero=>simp
  |succ i =>
   rw[List.drop_succ_cons,Xr,<-ih i];show (eT t++_).drop _=_;rw[show (i+1)*2=N (eT t)+i*2 by show _=2+_;omega,List.drop_length_add_append]
def Jm(ag:List dP):∀u∈ag.flatMap eT,u.oneCell' = true:=by intro u a;obtain⟨t,_,h⟩:=Z6.1 a;unfold eT at h;simp at h;rcases h with rfl|rfl <;> rfl
def agH(ag:List dP)(i:Nat)(t:dP):(ag.flatMap eT).take (i*2)++eT t++(ag.flatMap eT).drop (i*2)=(ag.take i++t::ag.drop i).flatMap eT:=by rw[AY,AZ,ZN,Xr,ZE]
def agI(ag:List dP)(i:Nat):(ag.flatMap eT).take (i*2)++(ag.flatMap eT).drop ((i+1)*2)=(ag.eraseIdx i).flatMap eT:=by rw[AY,AZ,<-ZN,List.eraseIdx_eq_take_drop_succ]
theorem Ue(base i vb:Nat)(v:X3)(ag:List dP)(t:dP)(w:U)(hown:w.ownsRow base 138 2 v (N ag) (ag.flatMap eT))(hb:base<=M (H w))(hl:N ag<=1000000)(hi:i<=N ag)(hvb:GB w vb 138 #[I Vo (t.1:Int),I Vo (t.2:Int)])(hne:v.ownBlock≠O vb) :
  Calls V 103 #[v,I J (i:Int),Z (O (aD vb 0)) 1 1] w λe f=>
   ∃j,e=FN j/\f.ownsRow base 138 2 j (N (ag.take i++t::ag.drop i)) ((ag.take i++t::ag.drop i).flatMap eT)/\Kept (λb=>v.ownBlock≠O b) w f/\(j.ownBlock=v.ownBlock∨∃g,j.ownBlock=O g/\M (H w)<=g):=by
 have d:N (ag.take i++t::ag.drop i)=N ag+1:=by grind
 rw[d,<-agH];by_cases m:i=N ag
 .subst m;have n:(ag.flatMap eT).take (N ag*2)++eT t++(ag.flatMap eT).drop (N ag*2)=ag.flatMap eT++[I Vo (t.1:Int),I Vo (t.2:Int)]:=by rw[AY,AZ,QX,List.drop_length];simp[eT]
  rw[n];exact Yl base (N ag) vb v _ _ _ w hown hb hl rfl rfl hvb
 .rcases hown.2 with⟨_,h0⟩|⟨g,cap,cur,rfl,-⟩
  .omega
  by_cases a:N ag+1<=cap
  .refine(OV base g (N ag) cap i vb _ _ _ w hown (Jm ag) rfl rfl (by omega) a hvb (λe=>hne (by rw[e];rfl))).mono ?_;rintro e f ⟨rfl,k,l⟩;exact⟨_,rfl,k,l.mono (λb _ h e=>h (by rw[e];rfl)),.inl rfl⟩
  .refine(Ud base g (N ag) cap i vb _ _ _ w hown hb hl (Jm ag) rfl rfl (by omega) (by omega) hvb).mono ?_;rintro e f ⟨G,rfl,k,l⟩;exact⟨_,rfl,k,QB l (λ_ h _=>h),.inr ⟨_,rfl,Qn _⟩⟩
theorem Uf(base g cap i m:Nat)(xs:List X3)(w:U)(hown:w.ownsRow base 138 2 (Z (O (aD g 0)) (i+1+m) cap) (i+1+m) xs)(hx1:∀u∈xs,u.oneCell' = T)(hm:i+1+m<=1000000) :
  Calls V 122 #[Z (O (aD g 0)) (i+1+m) cap,I J (i:Int),I J ((i:Int)+1)] w λe w'=>
   e=FN (Z (O (aD g 0)) (i+m) cap)/\w'.ownsRow base 138 2 (Z (O (aD g 0)) (i+m) cap) (i+m) (xs.take (i*2)++xs.drop ((i+1)*2))/\Kept (λb=>b≠g) w w':=by
 obtain⟨i0,Q,ae,af,az⟩:=Zj Tryz.Db;obtain⟨aA,R,l,n,S,ag,ah⟩:=mR hown;have G:=hown.1;have ai:cap<=9223372036854775807:=by unfold maxLen at R;omega
 obtain⟨a,d⟩:=eY (xs.drop ((i+1)*2));have f:N a=m*2:=by grind
 obtain⟨A,hA,X⟩:∃A:Addr,(if cap=i+1 then O ((aD g 0):Addr) else O (aD g ((i+1)*2)))=O A/\Y3 (∀t u,a[t]? = O u->w.drew.cell? (A.add t)=O u):=by
  by_cases h:cap=i+1
  .refine⟨(aD g 0),by simp[h],λt u y=>?_⟩
   grind
  .refine⟨(aD g ((i+1)*2)),by simp[h],λt u y=>?_⟩;rw[d,List.getElem?_drop]at y;rw[iB];exact l _ _ y
 have s1:=Zh f;have s2:Y3 (∀u∈a,u.oneCell' = T):=λu y=>by grind
 have s3:Y3 (∀t,t<N a->(UK w.drew (aD g (0+i*2+t))).isSome=T/\w.drew.frozen? (aD g (0+i*2+t))=F):=λt ht=>by rw[f]at ht;rw[ZK];exact⟨n _ (by omega),S _⟩
 obtain⟨W1,q⟩:=eY (w.drew.setCells g (0+i*2) a);have k:w.drew.ownsRow base 138 2 (Z (O (aD g 0)) (i+1+m) cap) (i+1+m) xs:=hown;have p:=iN (v:=Z (O (aD g 0)) (i+1+m) cap) (g:=g) rfl a (0+i*2) k (by rw[f];omega);rw[<-q,ZK]at p;have K:Kept (λb=>b≠g) w W1:=by rw[q];exact(Kept.ES w).trans (Kept.setCells (λh=>h rfl) _ _ _)
 obtain⟨_,_,_,xX,Uc,_,_⟩:=mR p;have L:∀W,(zeroValue 138).run V W=.ok (FL #[I Vo 0,I Vo 0]) W:=λW=>by simp[zeroValue,typeInfo,Q,ae]
 obtain⟨C,r⟩:∃C:List X3,C=[I Vo 0,I Vo 0]:=⟨_,rfl⟩;have P:N C=2:=by rw[r];rfl
 have aa:∀ty c,(Builtin.clear_ #[94] ty #[Z (O (aD g ((i+m)*2))) 1 c]).run V W1=.ok (.tuple #[]) (W1.setCells g ((i+m)*2) C):=λty c=>
  Yh W1 94 138 ty _ Tryz.underlying94 L C (by rw[r];kernel_rfl) (λu y=>by rw[r]at y;simp at y;rcases y with rfl|rfl <;> rfl) g ((i+m)*2) c (λj hj=>xX _ (by omega)) (λj hj=>Uc _)
 obtain⟨W2,D⟩:=eY (W1.setCells g ((i+m)*2) C);have z:=iN (v:=Z (O (aD g 0)) (i+1+m) cap) (g:=g) rfl C ((i+m)*2) p (by rw[P];omega);rw[<-D]at z aa;have B:=ajR z (m:=i+m) (by omega);rw[d,agG G]at B;have lu:Y3 (W2.ownsRow base 138 2 (Z (O (aD g 0)) (i+m) cap) (i+m) (xs.take (i*2)++xs.drop ((i+1)*2))/\Kept (λb=>b≠g) w W2):=⟨B,K.trans (by rw[D];exact Kept.setCells (λh=>h rfl) _ _ _)⟩;have HW:=Zh q;have aj:i+1+m-(i+1)=m:=by omega
 have ak:i+1+m-(i+m)=1:=by omega
 have au:i<=cap:=by omega
 have av:i+1<=cap:=by omega
 have ax:(0:Int)<=(i:Int)+1:=by omega
 have ay:((i:Int)+1).toNat=i+1:=by omega
 have mO:(i:Int)+1<=(i:Int)+1+(m:Int):=by omega
 clear hown k p z B K q D n xX S Uc l f d G hx1 L r P ag ah R;go_enter Tryz.func122,Tryz.ntmps122;go_wp2_with fail;go_region_law (refine step_append_room rfl (.tmp 22) (.tmp 25) 94 rfl 138 i0 2 Tryz.underlying94 Q af g 0 i cap (by simp[Act.eval,Act.put]) A m (cap-(i+1)) a (by simp[Act.eval,Act.put]) s1.o X.o s2.o (by omega) s3.o ?_;rw[<-HW.o]);go_wp2;go_ret;exact⟨rfl,lu.o⟩
def qW(kc sc:List Int)(D:List Gr)(g:Gr)(r:List Int):gV kc sc (D++[g]) r=if g.key=au r kc then D++[mr r sc g] else (D++[g])++[mr r sc (mD (au r kc) (N sc))]:=by
 have a:(D++[g]).getLast? = O g:=by simp
 have hd:(D++[g]).dropLast=D:=by simp
 unfold gV;rw[a,hd]
def Ay{kc sc:List Int}:∀(rows:List (List Int)) (D:List Gr) (g:Gr),D <+: rows.foldl (gV kc sc) (D++[g])
 |[],D,g=>List.prefix_append _ _
 |r::rows,D,g=>by
  rw[ZF,qW];split
  .exact Ay rows D _
  .exact(List.prefix_append _ _).trans (Ay rows (D++[g]) _)
def SY{rows:List (List Int)}{g:Gr}(hp:(pre++[x]).map aj.key <+: rows)(hf:(pre.map ae.xs).foldl (gV kc sc) (cO kc sc)=dn++[g])(hk:g.key≠au x.xs kc) :
  dn++[g] <+: lW kc sc rows:=by
 obtain⟨t,rfl⟩:=hp;unfold lW;have e:(pre++[x]).map aj.key=pre.map ae.xs++[x.xs]:=by rw[Qi];rfl
 rw[e,Xf,Xf,hf,ZF,List.foldl_nil,qW,ZU hk];exact Ay t (dn++[g]) _
def afK:Option fI->X3
 |none=>Y xn
 |some g=>g.ptr
structure zo(tg ti tp:TypeId)(Jq:List ae->(Nat->Prop)->U->Prop)(kc sc:List Int)(o:Nat->Prop)(l:Nat)(W:U)(pre:List ae)(o1:Nat->Prop)(W':U)(zs:List ae)(oj:Nat->Prop)(cur:Option fI)(dn:List Gr):Prop where
 fold:(pre.map ae.xs).foldl (gV kc sc) (cO kc sc)=dn++(cur.map fI.gr).toList
 told:zs.map ae.xs=dn.map Gr.row
 j:Jq zs oj W'
 iff:∀b,o1 b↔oj b∨b=M (H W)+1∨∃g,cur=O g/\g.own b
 off:¬oj (M (H W)+1)/\¬oj (M (H W))/\∀g,cur=O g->∀b,g.own b->¬oj b
 box:W'.heap[M (H W)+1]? = O (EP #[afK cur] tp)
 at':∀g,cur=O g->g.At tg ti (N sc) W'
 low:∀g,cur=O g->∀b,g.own b->M (H W)+2<=b
 fits:∀g,cur=O g->xu g/\g.cnt<=N pre/\N g.k.xs=N kc
 nil:cur=xn->dn=[]
 yld:UK W' (aD (M (H W)) 0)=O (.func (.yield l) #[] #[])
 kept:Kept (λb=>¬o b/\b<M (H W)) W W'
 new:∀b,oj b->o b∨(M (H W)<=b/\b<M (H W'))
def zo.keep{tg ti tp:TypeId}{Jq:List ae->(Nat->Prop)->U->Prop}{kc sc:List Int}{o:Nat->Prop}{l:Nat}{W:U}{pre:List ae}{o1:Nat->Prop}{A B:U}{zs:List ae}{oj:Nat->Prop}{cur:Option fI}{dn:List Gr}{n:Nat}
  (h:zo tg ti tp Jq kc sc o l W pre o1 A zs oj cur dn) (hJ:∀pre o1 A B,Jq pre o1 A->Kept (λb=>o1 b∨b<M (H W)) A B->Jq pre o1 B) (hn:M (H W)+2<=n) (hk:Kept (λb=>o1 b∨b<n) A B):zo tg ti tp Jq kc sc o l W pre o1 B zs oj cur dn:=by have d:M (H W)+1<M (H A):=(QI.1 h.box).1;refine⟨h.fold,h.told,hJ _ _ _ _ h.j (hk.mono λb _ a=>a.imp (λa=>(h.iff b).2 (.inl a)) (by omega)),h.iff,h.off,(hk.block _ d (.inr (by omega))).trans h.box,λg e=>?_,h.low,h.fits,h.nil,Q0 h.yld hk (.inr (by show M (H W)<_;omega)),h.kept.trans' hk (λb _ a=>.inr (by omega)),λb a=>(h.new b a).imp id (λa=>⟨a.1,by have:=hk.size;omega⟩)⟩;exact(h.at' g e).keep hk (λb a=>.inl ((h.iff b).2 (.inr (.inr ⟨g,e,a⟩))))
def S9{tg ti tp:TypeId}{Jq:List ae->(Nat->Prop)->U->Prop}{kc sc:List Int}{o:Nat->Prop}{l:Nat}{W:U}{pre:List ae}{x:ae}{A B D:U}{zs:List ae}{oj:Nat->Prop}{dn:List Gr}{k:ae}
  (hJ:∀pre o1 A B,Jq pre o1 A->Kept (λb=>o1 b∨b<M (H W)) A B->Jq pre o1 B)
  (hf:((pre++[x]).map ae.xs).foldl (gV kc sc) (cO kc sc)=dn++[mr x.xs sc (mD (au x.xs kc) (N sc))]) (hz:zs.map ae.xs=dn.map Gr.row) (hj:Jq zs oj A)
  (hoff:¬oj (M (H W)+1)/\¬oj (M (H W))) (hoA:∀b,oj b->b<M (H A)) (hkx:k.xs=au x.xs kc) (hkA:aj.At k A) (hkb:∀b,aj.blk k=O b->M (H W)+2<=b/\¬oj b)
  {bv:X3} (hbx:A.heap[M (H W)+1]? = O (EP #[bv] tp)) (hy:UK A (aD (M (H W)) 0)=O (.func (.yield l) #[] #[])) (hkp:Kept (λb=>¬o b/\b<M (H W)) W A) (hnew:∀b,oj b->o b∨(M (H W)<=b/\b<M (H A)))
  (hbB:Bw A B) (hsB:M (H B)=M (H A)+3)
  (hg:D.heap[M (H A)+2]? = O (EP #[k.val,I J (0+1:Nat),Z (O (aD (M (H A)+1) 0)) (N sc) (N sc)] tg)) (hs:D.heap[M (H A)+1]? = O (EP ((gH (List.replicate (N sc) 1073741824) x.xs sc).map (Value.int J)).toArray ti))
  (vO:Kept (λb=>b≠M (H A)+2/\b≠M (H A)+1) (UC B (aD (M (H W)+1) 0) (Y (O (aD (M (H A)+2) 0)))) D) (hsm:∀v∈x.xs,bW v) (hA:M (H W)+2<=M (H A)) :
  zo tg ti tp Jq kc sc o l W (pre++[x]) (λb=>oj b∨b=M (H W)+1∨∃g,O (⟨M (H A)+2,M (H A)+1,k,1,gH (List.replicate (N sc) 1073741824) x.xs sc⟩:fI)=O g/\g.own b) D zs oj (O ⟨M (H A)+2,M (H A)+1,k,1,gH (List.replicate (N sc) 1073741824) x.xs sc⟩) dn/\
   Kept (λb=>b≠M (H W)+1) A D:=by
 have t:Kept (λb=>b≠M (H W)+1) A (UC B (aD (M (H W)+1) 0) (Y (O (aD (M (H A)+2) 0)))):=(QB hbB (λb d _=>d)).trans (Q8 _ _ _ (λh=>h rfl));have m:M (H (UC B (aD (M (H W)+1) 0) (Y (O (aD (M (H A)+2) 0)))))=M (H B):=by simp[World.setCell]
 have i:Kept (λb=>b≠M (H W)+1) A D:=t.trans' vO (λb d _=>⟨by omega,by omega⟩);have f:∀b,(⟨M (H A)+2,M (H A)+1,k,1,gH (List.replicate (N sc) 1073741824) x.xs sc⟩:fI).own b->b=M (H A)+2∨b=M (H A)+1∨aj.blk k=O b:=λb d=>d;have j:∀b,aj.blk k=O b->b<M (H A):=λb d=>aj.zw hkA d;have n:(UC B (aD (M (H W)+1) 0) (Y (O (aD (M (H A)+2) 0)))).heap[M (H W)+1]? = O (EP #[Y (O (aD (M (H A)+2) 0))] tp):=by have p:B.heap[M (H W)+1]? = O (EP #[bv] tp):=(hbB.block _ (by omega)).trans hbx;exact lU p 0 _
 have r:(mD (au x.xs kc) (N sc)).ss=List.replicate (N sc) 1073741824:=rfl;refine⟨⟨?_,hz,hJ _ _ _ _ hj (i.mono λb _ h=>?_),λ_=>QJ,⟨hoff.1,hoff.2,λg a b d=>?_⟩,?_,λg a=>?_,λg a b d=>?_,λg a=>?_,λh=>(by cases h),Q0 hy i (by show M (H W)≠_;omega),hkp.trans' i (λb _ h=>by show b≠_;omega),λb d=>(hnew b d).imp id (λh=>⟨h.1,by have:=i.size;omega⟩)⟩,i⟩
 .rw[hf]
  show dn++[mr x.xs sc (mD (au x.xs kc) (N sc))]=dn++[fI.gr ⟨M (H A)+2,M (H A)+1,k,1,gH (List.replicate (N sc) 1073741824) x.xs sc⟩];unfold fI.gr mr mD;rw[hkx]
 .rcases h with h|h
  .intro e;exact hoff.1 (e ▸ h)
  .show b≠_;omega
 .cases a
  rcases f b d with rfl|rfl|h
  .intro h;have:=hoA _ h;omega
  .intro h;have:=hoA _ h;omega
  .exact(hkb b h).2
 .exact(vO.block _ (by rw[m];omega) ⟨by omega,by omega⟩).trans n
 .cases a
  refine⟨hg,hs,aj.keep hkA i.size (λb d q=>i.block b d (by have:=(hkb b q).1;show b≠_;omega)),by rw[kH (by simp)],by show M (H A)+2≠M (H A)+1;omega,?_,?_⟩
  .intro e;have p:M (H A)+2<M (H A):=j _ e;omega
  .intro e;have p:M (H A)+1<M (H A):=j _ e;omega
 .cases a
  rcases f b d with rfl|rfl|h
  .omega
  .omega
  .exact(hkb b h).1
 .cases a
  refine⟨Ah (g:=⟨M (H A)+2,M (H A)+1,k,0,List.replicate (N sc) 1073741824⟩) (rq _ _ _ _) hsm,by show 1<=N (pre++[x]);simp,?_⟩;show N k.xs=_;rw[hkx];simp[au]
def afL{tg ti tp:TypeId}{Jq:List ae->(Nat->Prop)->U->Prop}{o:Nat->Prop}{l:Nat}{o1:Nat->Prop}{D:U}{zs:List ae}{oj:Nat->Prop}{g:fI}
  (h:zo tg ti tp Jq kc sc o l W pre o1 A zs oj (O g) dn) (hJ:∀pre o1 A B,Jq pre o1 A->Kept (λb=>o1 b∨b<M (H W)) A B->Jq pre o1 B)
  (hf:((pre++[x]).map ae.xs).foldl (gV kc sc) (cO kc sc)=gV kc sc (dn++[g.gr]) x.xs) (hk:g.k.xs=au x.xs kc)
  (hg:D.heap[g.gb]? = O (EP #[g.k.val,I J (g.cnt+1:Nat),Z (O (aD g.sb 0)) (N sc) (N sc)] tg)) (hs:D.heap[g.sb]? = O (EP ((gH g.ss x.xs sc).map (Value.int J)).toArray ti))
  (vO:Kept (λb=>b≠g.gb/\b≠g.sb) A D) (hsm:∀v∈x.xs,bW v):zo tg ti tp Jq kc sc o l W (pre++[x]) o1 D zs oj (O (g.bump x.xs sc)) dn:=by
 have m:=h.at' g rfl;have u:=h.low g rfl g.gb (.inl rfl);have y:=h.low g rfl g.sb (.inr (.inl rfl));have p:=h.off.2.2 g rfl;have q:M (H W)+1<M (H A):=(QI.1 h.box).1;refine⟨?_,h.told,hJ _ _ _ _ h.j (vO.mono λb _ d=>?_),λb=>?_,⟨h.off.1,h.off.2.1,λt a b d=>?_⟩,(vO.block _ q ⟨by omega,by omega⟩).trans h.box,λt a=>?_,λt a b d=>?_,λt a=>?_,λe=>(by cases e),Q0 h.yld vO ⟨by show M (H W)≠_;omega,by show M (H W)≠_;omega⟩,h.kept.trans' vO (λb _ d=>⟨by omega,by omega⟩),λb d=>(h.new b d).imp id (λC=>⟨C.1,by have:=vO.size;omega⟩)⟩
 .rw[hf,qW,Zt (show g.gr.key=_ from hk)];rfl
 .rcases d with d|d
  .exact⟨λe=>p g.gb (.inl rfl) (e ▸ d),λe=>p g.sb (.inr (.inl rfl)) (e ▸ d)⟩
  .exact⟨by omega,by omega⟩
 .rw[h.iff b];constructor
  .rintro (i|i|⟨z,r,i⟩)
   .exact .inl i
   .exact .inr (.inl i)
   .cases r;exact .inr (.inr ⟨_,rfl,i⟩)
  .rintro (i|i|⟨z,r,i⟩)
   .exact .inl i
   .exact .inr (.inl i)
   .cases r;exact .inr (.inr ⟨g,rfl,i⟩)
 .cases a;exact p b d
 .cases a
  exact⟨hg,hs,aj.keep m.key vO.size (λb d n=>vO.block b d ⟨λe=>m.nk.1 (e ▸ n),λe=>m.nk.2 (e ▸ n)⟩),by show N (gH g.ss x.xs sc)=_;rw[kH m.len],m.ne,m.nk⟩
 .cases a;exact h.low g rfl b d
 .cases a
  have f:=h.fits g rfl;exact⟨Ah f.1 hsm,by show g.cnt+1<=N (pre++[x]);rw[Zn];have:=f.2.1;simp;omega,f.2.2⟩
