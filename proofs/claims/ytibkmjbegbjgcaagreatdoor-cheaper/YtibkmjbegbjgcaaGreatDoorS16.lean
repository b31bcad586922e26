import Derived.Test.YtibkmjbegbjgcaaGreatDoorS06
import Derived.Test.YtibkmjbegbjgcaaGreatDoorS09
import Derived.Test.YtibkmjbegbjgcaaGreatDoorS11
import Derived.Test.YtibkmjbegbjgcaaGreatDoorS12
import Derived.Test.YtibkmjbegbjgcaaGreatDoorS15
set_option linter.all false
set_option maxRecDepth 100000
set_option maxHeartbeats 0
namespace Go.Proofs.Zz
open Go.RowKit Go.Shelf Go.Proofs.Tryz
open List renaming length->N,getD->E
open Go.Value renaming slice->Z,int->I,pointer->Y,bool->Qr,agg->Qu,tuple->Qw
open Go.Proofs.Tryz renaming prog->V
open Option renaming some->O,none->Qs
open Go.IntKind renaming i64->J,u64->Qq
open Bool renaming false->F,true->T
open Go renaming World->U,Value->Qm
open Go.World renaming heap->H,setCell->Qo,cell?->Qp
open _root_.Array renaming size->M
open Go.RowKit renaming Hid->Qn
open Go.Obj renaming cells->Qt
open Go.Ending renaming returned->Qv
variable {α:Type} {e ty:TypeId} {A A1 B Vq W W0 w w6 wc:U} {v v':Qm} {base cap gr n:Nat} {ts:Qy af} {D:DataW Unit} {kl:Lit} {ps:Qy aC} {p:aC} {q:ae} {pl:Qy ai} {fn:Func} {s u:Tmp}
structure Item(α:Type) where
 val:α->Qm
 At:α->U->Prop
 blk:α->Qz
 keep:∀{x A B},At x A->M (H A)<=M (H B)->(∀b,blk x b->b<M (H A)->B.heap[b]? = A.heap[b]?)->At x B
structure nA{α:Type}(Tq:Item α)(e:TypeId)(W0 W:U)(v:Qm)(xs:List α):Prop where
 own:W.ownsRow (M (H W0)) e 1 v (N xs) (xs.map Tq.val)
 itm:∀x∈xs,Tq.At x W/\∀b,Tq.blk x b->M (H W0)<=b/\b<M (H W)/\v.ownBlock≠O b
def nA.nil(Tq:Item α)(e:TypeId)(W0 W:U):nA Tq e W0 W (Z Qs 0 0) []:=⟨Xm _ _ _ _,λx a=>by simp at a⟩
def nA.keep{α:Type}{Tq:Item α}{e:TypeId}{W0 A B:U}{v:Qm}{xs:List α}{s:Qz}(h:nA Tq e W0 A v xs)(hk:Kept s A B)(hs:∀b,M (H W0)<=b->s b):nA Tq e W0 B v xs:=
 ⟨Xf h.own hk (λg i=>hs g (Xg h.own i).1),λx a=>⟨Tq.keep (h.itm x a).1 hk.size (λb d f=>hk.block b f (hs b ((h.itm x a).2 b d).1)),λb d=>⟨((h.itm x a).2 b d).1,Ql (((h.itm x a).2 b d).2.1) hk.size,((h.itm x a).2 b d).2.2⟩⟩⟩
theorem nA.more{Tq:Item α}{xs:List α}(h:nA Tq e W0 A v xs){x:α}(hx:Tq.At x A)(hxb:∀b,Tq.blk x b->M (H W0)<=b/\b<M (H A)/\v.ownBlock≠O b)
  (ha:Kept (λ_=>True) A A1) (hs1:M (H A1)=M (H A)+1) (hown:B.ownsRow (M (H W0)) e 1 v' (N xs+1) (xs.map Tq.val++[Tq.val x])) (hg:A1.grownBy B v.ownBlock) (hat:v'.ownBlock=v.ownBlock∨v'.ownBlock=O (M (H A1))) :
  nA Tq e W0 B v' (xs++[x])/\Kept (λb=>b<M (H W0)) A B:=by
 have m:∀g,v.ownBlock=O g->M (H W0)<=g:=λg hg=>(Xg h.own hg).1;have d:Kept (λb=>v.ownBlock≠O b) A B:=(ha.mono λ_ _ _=>trivial).trans (Xe hg (λr e n=>n e));have j:∀b,b<M (H A)->v.ownBlock≠O b->v'.ownBlock≠O b:=λb f p e=>by grind
 have k:∀y:α,Tq.At y A->(∀b,Tq.blk y b->M (H W0)<=b/\b<M (H A)/\v.ownBlock≠O b)->Tq.At y B/\∀b,Tq.blk y b->M (H W0)<=b/\b<M (H B)/\v'.ownBlock≠O b:=λy i a=>
  ⟨Tq.keep i d.size (λb f l=>d.block b l (a b f).2.2),λb f=>⟨(a b f).1,Ql ((a b f).2.1) d.size,j b (a b f).2.1 (a b f).2.2⟩⟩
 refine⟨⟨Qf,λy i=>?_⟩,d.mono λb _ f e=>Qb⟩;rcases Xk.1 i with i|i
 .exact k y (h.itm y i).1 (h.itm y i).2
 grind
def zU:Item ah where
 val:=ah.val
 At:=bH.At
 blk x b:=bH.blk x=O b
 keep:=λh hs hb=>bH.keep h hs (λb hlt hx=>hb b hx hlt)
def qh:Item dB where
 val:=dB.val
 At t W:=gJ W t.ad t.rs
 blk t b:=(∃a,t.ad=O a/\a.block=b)∨∃i,i<N t.rs/\bH.blk (E t.rs i iz)=O b
 keep:=by intro t A B h hs hb;exact gJ.keep h hs (λa ha=>hb _ (.inl ⟨a,ha,rfl⟩) (h.2.1 a ha)) (λi hi b hbx=>hb b (.inr ⟨i,hi,hbx⟩) (bH.inn (h.2.2 i hi) hbx))
theorem nA.table{rs:Qy ah}(h:nA zU e W0 W v rs)(hl:N rs<=1000):∃t:dB,v=t.val/\t.rs=rs/\qh.At t W/\∀b,qh.blk t b->M (H W0)<=b/\b<M (H W):=by
 have f:∀i,i<N rs->E rs i iz∈rs:=λi d=>Qf;rcases h.own.2 with⟨hv,h0⟩|⟨g,cap,cur,hv,hb,hh,hc,_,hcs,ht⟩
 .have:=Zk h0;subst this;refine⟨⟨Qs,0,[]⟩,hv,rfl,⟨⟨Qa,λi d=>absurd d Qa,λi d=>absurd d Qa⟩,(λa k=>by cases k),λi d=>absurd d Qa⟩,?_⟩;rintro b (⟨a,k,_⟩|⟨i,d,_⟩)
  .cases k
  .simp at d
 .have j:∀i,i<N rs->bH.At (E rs i iz) W:=λi d=>(h.itm _ (f i d)).1
  refine⟨⟨O (aD g 0),cap,rs⟩,hv,rfl,⟨⟨Qb,λi d=>⟨g,0,rfl,?_⟩,λi d=>(j i d).1⟩,λa k=>?_,j⟩,?_⟩
  .have l:i<N rs:=d;have n:(cur.toList.take (N rs*1))[i]? = O (E rs i iz).val:=by rw[ht];simp[List.getD,l,zU]
   have p:cur[i]? = O (E rs i iz).val:=by grind
   simp only[World.cell?,hh];simp_all
  .grind
  .rintro b (⟨a,k,rfl⟩|⟨i,d,m⟩)
   .grind
   .have:=(h.itm _ (f i d)).2 b m;omega
theorem nA.db{e:TypeId}{W0 W:U}{v:Qm}{db:Qy dB}(h:nA qh e W0 W v db)(hl:N db<=1000):∃f cap,v=Z f (N db) cap/\I4 W f db:=by
 have b:∀i,i<N db->E db i rz∈db:=λi a=>Qf;have d:∀i,i<N db->gJ W (E db i rz).ad (E db i rz).rs:=λi a=>(h.itm _ (b i a)).1;rcases h.own.2 with⟨hv,h0⟩|⟨g,cap,cur,hv,hb,hh,hc,_,hcs,ht⟩
 .have:=Zk h0;subst this;exact⟨Qs,0,hv,⟨Qa,λi a=>absurd a Qa,λi a=>absurd a Qa⟩,λi a=>absurd a Qa⟩
 .refine⟨O (aD g 0),cap,hv,⟨X,λi a=>⟨g,0,rfl,?_⟩,λi a=>(d i a).1⟩,d⟩;have j:(cur.toList.take (N db*1))[i]? = O (E db i rz).val:=by rw[ht];simp[List.getD,a,qh]
  have k:cur[i]? = O (E db i rz).val:=by grind
  simp only[World.cell?,hh];simp_all
def nA.db2{d:PN}{dc:Nat}{db:Qy dB}(h:nA qh e W0 W (Z d (N db) dc) db)(hl:N db<=1000):I4 W d db:=by obtain⟨b,a,f,hd⟩:=h.db hl;simp_all
def af.list(t:af):Qy Value:=[I J t.aL,I J t.rows,I J t.k0,I J t.k1,I J t.k2,I J t.k3]
def Dk(t:af):N t.list=6:=rfl
theorem Dl(h:w.ownsRow base e 6 v (N ts) (ts.flatMap af.list))(hl:N ts<=100) :
  ∃f cap,v=Z f (N ts) cap/\aQ w f ts/\∀a,f=O a->base<=a.block/\a.block<M (H w):=by
 rcases h.2 with⟨rfl,h0⟩|⟨g,cap,cur,rfl,hb,hh,hc,_,hcs,ht⟩
 .have:=Zk h0;subst this;exact⟨Qs,0,rfl,⟨Qa,λi d=>absurd d Qa⟩,λa l=>by cases l⟩
 .refine⟨O (aD g 0),cap,rfl,⟨X,λi d=>⟨g,0,rfl,?_⟩⟩,λa l=>Qb⟩;have b:∀j,j<6->Qp w (aD g (0+i*6+j))=((E ts i tz).list)[j]?:=λj m=>by have k:=EH af.list 6 Dk tz ts [] i j d m;rw[X0]at k;rw[<-k,<-ht,XG,Zb X];simp[World.cell?,hh]
  exact⟨b 0 X,b 1 X,b 2 X,b 3 X,b 4 X,b 5 X⟩
def GB.arK{G:Nat}{t:TypeId}{a0 a1 a2 a3 a4 a5 a6 a7 a8:Qm}(h:GB w G t #[a0,a1,a2,a3,a4,a5,a6,a7,a8])(v0 v1 v2 v3 v4 v5 v6 v7 v8:Qm):GB (Qo (Qo (Qo (Qo (Qo (Qo (Qo (Qo (Qo w (aD G 0) v0) (aD G 1) v1) (aD G 2) v2) (aD G 3) v3) (aD G 4) v4) (aD G 5) v5) (aD G 6) v6) (aD G 7) v7) (aD G 8) v8) G t #[v0,v1,v2,v3,v4,v5,v6,v7,v8]:=by have a:GB (Qo w (aD G 0) v0) G t #[v0,a1,a2,a3,a4,a5,a6,a7,a8]:=h.set 0 v0;have b:GB (Qo (Qo w (aD G 0) v0) (aD G 1) v1) G t #[v0,v1,a2,a3,a4,a5,a6,a7,a8]:=a.set 1 v1;have d:GB (Qo (Qo (Qo w (aD G 0) v0) (aD G 1) v1) (aD G 2) v2) G t #[v0,v1,v2,a3,a4,a5,a6,a7,a8]:=b.set 2 v2;have e:GB (Qo (Qo (Qo (Qo w (aD G 0) v0) (aD G 1) v1) (aD G 2) v2) (aD G 3) v3) G t #[v0,v1,v2,v3,a4,a5,a6,a7,a8]:=d.set 3 v3;have f:GB (Qo (Qo (Qo (Qo (Qo w (aD G 0) v0) (aD G 1) v1) (aD G 2) v2) (aD G 3) v3) (aD G 4) v4) G t #[v0,v1,v2,v3,v4,a5,a6,a7,a8]:=e.set 4 v4;have g:GB (Qo (Qo (Qo (Qo (Qo (Qo w (aD G 0) v0) (aD G 1) v1) (aD G 2) v2) (aD G 3) v3) (aD G 4) v4) (aD G 5) v5) G t #[v0,v1,v2,v3,v4,v5,a6,a7,a8]:=f.set 5 v5;have i:GB (Qo (Qo (Qo (Qo (Qo (Qo (Qo w (aD G 0) v0) (aD G 1) v1) (aD G 2) v2) (aD G 3) v3) (aD G 4) v4) (aD G 5) v5) (aD G 6) v6) G t #[v0,v1,v2,v3,v4,v5,v6,a7,a8]:=g.set 6 v6;have j:GB (Qo (Qo (Qo (Qo (Qo (Qo (Qo (Qo w (aD G 0) v0) (aD G 1) v1) (aD G 2) v2) (aD G 3) v3) (aD G 4) v4) (aD G 5) v5) (aD G 6) v6) (aD G 7) v7) G t #[v0,v1,v2,v3,v4,v5,v6,v7,a8]:=i.set 7 v7;have k:GB (Qo (Qo (Qo (Qo (Qo (Qo (Qo (Qo (Qo w (aD G 0) v0) (aD G 1) v1) (aD G 2) v2) (aD G 3) v3) (aD G 4) v4) (aD G 5) v5) (aD G 6) v6) (aD G 7) v7) (aD G 8) v8) G t #[v0,v1,v2,v3,v4,v5,v6,v7,v8]:=j.set 8 v8;exact k
structure CaseOk(ts:Qy af)(q:ae)(db:Qy dB):Prop where
 tabs:1<=N ts/\N ts<=3/\∀t∈ts,BB t t.aL.toNat
 qry:zT ts q
 len:N db=N ts
 rows:∀i,i<N db->(E db i rz).rs.length<=4/\∀r∈(E db i rz).rs,(N r.xs:Int)=(E ts i tz).aL/\∀x∈r.xs,x=1073741824∨(-1<=x/\x<=3)
def zt(h1:1<=N ts)(h3:N ts<=3)(h:∀t∈ts,BB t t.aL.toNat):fD ts=true:=by unfold fD;simp only[Q6,Zf];refine⟨⟨h1,X⟩,?_⟩;rw[Q7];intro t a;have k:=h t a;unfold dK;rw[Zf];exact⟨k.c1,Qk k.c3,k.r0,k.r1,k.kd⟩
structure BH(mb qb:Nat)(lo:PN)(lc:Nat)(l:Qx)(e tq:TypeId)(W0:U)(c:Qm->Array Qm)(W:U)(v:Qm)(ts:Qy af):Prop where
 gb:GB W qb tq (c v)
 own:W.ownsRow (M (H W0)) e 6 v (N ts) (ts.flatMap af.list)
 GK:aH mb lo lc l W
 kept:Kept (λb=>b≠mb/\b≠qb) W0 W
def BH.keep{mb qb:Nat}{lo:PN}{lc:Nat}{l:Qx}{e tq:TypeId}{W0:U}{c:Qm->Array Qm}{A B:U}{v:Qm}{ts:Qy af}(h:BH mb qb lo lc l e tq W0 c A v ts)(hk:Kept (λb=>b≠mb) A B)(hm:aH mb lo lc l B)
  (hq:qb≠mb) (hmb:mb<M (H W0)):BH mb qb lo lc l e tq W0 c B v ts:=
 ⟨h.gb.keep hk hq,Xf h.own hk (λg a=>Qk ((Xg h.own a).1)),hm,h.kept.trans (hk.mono λb _ h=>h.1)⟩
theorem BH.more{mb qb:Nat}{lo:PN}{lc:Nat}{l:Qx}{tq:TypeId}{c:Qm->Array Qm}(h:BH mb qb lo lc l e tq W0 c A v ts){f:Nat}{t:af}
  (ha:Kept (λ_=>True) A A1) (hown:B.ownsRow (M (H W0)) e 6 v' (N ts+1) (ts.flatMap af.list++t.list)) (hg:A1.grownBy B v.ownBlock) (hc:(c v).setIfInBounds f v' = c v')
  (hq:qb≠mb) (hmb:mb<M (H W0)) (hqb:qb<M (H W0)) (hlo:∀a,lo=O a->a.block<M (H W0)/\a.block≠qb) :
  BH mb qb lo lc l e tq W0 c (Qo B (aD qb f) v') v' (ts++[t])/\Kept (λb=>b<M (H W0)) A B:=by
 have k:∀g,v.ownBlock=O g->M (H W0)<=g:=λg hg=>(Xg h.own hg).1;have m:∀g,v'.ownBlock=O g->M (H W0)<=g:=λg hg=>(Xg hown hg).1;have d:Kept (λb=>v.ownBlock≠O b) A B:=(ha.mono λ_ _ _=>trivial).trans (Xe hg (λr e p=>p e));have i:Kept (λb=>v.ownBlock≠O b/\b≠qb) A (Qo B (aD qb f) v'):=(d.mono λ_ _ h=>h.1).trans (Xd _ _ _ (λh=>h.2 rfl));refine⟨⟨?_,?_,?_,?_⟩,d.mono λb _ j e=>Qb⟩
 .have n:=h.gb.keep d (λe=>Qb)
  grind [GB.set]
 .have:=Xf hown (s:=λb=>b≠qb) (Xd B (aD qb f) v' (λh=>h rfl)) (λg hg=>Qb)
  simp_all
 .exact h.GK.eP i ⟨λe=>Qb,Ne.symm hq⟩ (λa ha=>⟨λe=>Qb,(hlo a ha).2⟩)
 .exact((h.kept.mono (t:=λb=>(b≠mb/\b≠qb)/\b<M (H W0)) (λb _ h=>h.1)).trans (i.mono λb _ h=>⟨λe=>Qb,h.1.2⟩)).mono (λb j h=>⟨h,j⟩)
def Tryz.TM:(V.info? 48).map (λi=>(i.zero,i.size,i.bytes))=O (O (Qu #[I J 0,I J 0,I J 0,I J 0,I J 0,I J 0]),6,48):=Qd
def Tryz.YG:(V.info? 51).map (λi=>(i.zero,i.size,i.bytes))=O (O (Z Qs 0 0),1,24):=Qd
def YH(lo:PN)(lc:Nat)(l:Qx)(W:U)(hx:IntsAt W lo l)(hl:∀x∈l,-9223372036854775808<=x/\x<=9223372036854775807)(hlo:∀a,lo=O a->a.block<M (H W)) :
  Calls V 4 #[Z lo (N l) lc] W λe W'=>∃(ts:Qy af) (q:ae) (db:Qy dB) (co d:PN) (R dc:Nat),e=Qv (Qu (caseA (Z co (N ts) R) q (Z d (N db) dc)))/\CaseOk ts q db/\
   aQ W' co ts/\(∀a,co=O a->M (H W)<=a.block)/\N ts<=R/\dE (M (H W)) q W'/\I4 W' d db/\Bw W W':=by
 obtain⟨it,eU,eY,eZ,fe⟩:=Xl Tryz.TM;obtain⟨i0,hi,fo,fq,fu⟩:=Xl Tryz.kE;obtain⟨ir,fw,fA,fB,fC⟩:=Xl Tryz.Ai;obtain⟨iw,fD,fE,fF,fH⟩:=Xl Tryz.YG;have gX:=hx.1;have aG:∀s,Kept s W (((W.alloc (Qt (caseA (Z Qs 0 0) qz (Z Qs 0 0)) 29)).alloc (Qt #[Z lo (N l) lc,I J 0] 44)).alloc (Qt (caseA (Z Qs 0 0) qz (Z Qs 0 0)) 29)):=λs=>((ZT _ _).trans (ZT _ _)).trans (ZT _ _);have BC:GB (((W.alloc (Qt (caseA (Z Qs 0 0) qz (Z Qs 0 0)) 29)).alloc (Qt #[Z lo (N l) lc,I J 0] 44)).alloc (Qt (caseA (Z Qs 0 0) qz (Z Qs 0 0)) 29)) (M (H W)) 29 (caseA (Z Qs 0 0) qz (Z Qs 0 0)):=
  ((GB.alloc _ _ _).keep (ZT (s:=λ_=>True) _ _) trivial).keep (ZT (s:=λ_=>True) _ _) trivial
 have ay:GB (((W.alloc (Qt (caseA (Z Qs 0 0) qz (Z Qs 0 0)) 29)).alloc (Qt #[Z lo (N l) lc,I J 0] 44)).alloc (Qt (caseA (Z Qs 0 0) qz (Z Qs 0 0)) 29)) (M (H W)+1) 44 #[Z lo (N l) lc,I J 0]:=by have:=GB.alloc (W.alloc (Qt (caseA (Z Qs 0 0) qz (Z Qs 0 0)) 29)) #[Z lo (N l) lc,I J 0] 44;rw[Xo]at this;exact this.keep (ZT (s:=λ_=>True) _ _) trivial
 have LB:GB (((W.alloc (Qt (caseA (Z Qs 0 0) qz (Z Qs 0 0)) 29)).alloc (Qt #[Z lo (N l) lc,I J 0] 44)).alloc (Qt (caseA (Z Qs 0 0) qz (Z Qs 0 0)) 29)) (M (H W)+2) 29 (caseA (Z Qs 0 0) qz (Z Qs 0 0)):=by
  have:=GB.alloc ((W.alloc (Qt (caseA (Z Qs 0 0) qz (Z Qs 0 0)) 29)).alloc (Qt #[Z lo (N l) lc,I J 0] 44)) (caseA (Z Qs 0 0) qz (Z Qs 0 0)) 29
  rwa [Xo,Xo]at this
 have aI:M (H (((W.alloc (Qt (caseA (Z Qs 0 0) qz (Z Qs 0 0)) 29)).alloc (Qt #[Z lo (N l) lc,I J 0] 44)).alloc (Qt (caseA (Z Qs 0 0) qz (Z Qs 0 0)) 29)))=M (H W)+3:=Qa;obtain⟨W1,bQ⟩:=eX ((((W.alloc (Qt (caseA (Z Qs 0 0) qz (Z Qs 0 0)) 29)).alloc (Qt #[Z lo (N l) lc,I J 0] 44)).alloc (Qt (caseA (Z Qs 0 0) qz (Z Qs 0 0)) 29)));rw[bQ]at aG BC ay LB aI;have dm:aH (M (H W)+1) lo lc l W1:=⟨⟨0,ZB _,ay.cell 1⟩,ay.cell 0,ay.frozen 1,IntsAt.keep hx (λa A ag=>(aG (λ_=>True)).block _ ag trivial),λa A=>Qk (hlo a A)⟩;have dn:=Jp (M (H W)+1) lo lc l 3 W1 dm X hl;obtain⟨HL,sK,oI,fI,oU⟩:=EI hl hlo aI bQ aG;have dw:Qn _:=BC;have aJ:Qn _:=LB;go_enter func4,ntmps4;go_wp2_with fail;rw[show (((W.alloc (Qt #[Z Qs 0 0,Z Qs 0 0,Z Qs 0 0,Qr F,Z Qs 0 0,Z Qs 0 0,Z Qs 0 0,Z Qs 0 0,Z Qs 0 0] 29)).alloc (Qt #[Z lo (N l) lc,I J 0] 44)).alloc (Qt #[Z Qs 0 0,Z Qs 0 0,Z Qs 0 0,Qr F,Z Qs 0 0,Z Qs 0 0,Z Qs 0 0,Z Qs 0 0,Z Qs 0 0] 29))=W1 from fI.o];refine dn.mono ?_;rintro e W2 ⟨r1,rfl,iG,gW,fJ,aC⟩;obtain⟨k1,rfl⟩:∃k:Nat,r1=(k:Int):=⟨r1.toNat,X⟩;have aI:=oI.o;have bz:M (H W)+2≠M (H W)+1:=X;have S:Qn _:=bz;have dx:Qn _:=Xx dw.o aC (show M (H W)≠M (H W)+1 by omega);have TE:=Zh (((oU.o (λ_=>True)).trans' (aC.mono (t:=λb=>b≠M (H W)+1) (λb _ h=>h)) (λb K _=>X)));have n:Qn (M (H W)+3<=M (H W2)):=show _<=_ by have:=aC.size;omega
 have Kq:Qn (∀a,lo=O a->a.block<M (H W2)/\a.block≠M (H W)+2):=λa A=>Ql (sK.o a A) n.o;have dz:Qn (BH (M (H W)+1) (M (H W)+2) lo lc l 48 29 W2 (λv=>caseA v qz (Z Qs 0 0)) W2 (Z Qs 0 0) []):=⟨Xx aJ.o aC bz,Xm _ _ _ _,fJ,ZO _ _⟩;go_wp2;go_loopw [5] (λi wr=>∃(k:Nat) (ts:Qy af) (v:Qm),i=I J k/\N ts+k<=3/\1<=N ts+k/\Qn (∀t∈ts,BB t t.aL.toNat)/\BH (M (H W)+1) (M (H W)+2) lo lc l 48 29 W2 (λv=>caseA v qz (Z Qs 0 0)) wr v ts) (λi _=>(intOf i).toNat)
 case atStart=>exact⟨1+k1,[],_,congrArg (Value.int J) X,Qj,Qa,(λt ht=>by simp at ht),dz.o⟩
 case round=>
  obtain⟨k,ts,v,rfl,iI,iJ,bf,G⟩:=hrel;by_cases h0:0<k
  ·
   --Gb m1 begin
   have gY:((k:Int) > 0):=X;have bA:=TA (M (H W)+1) lo lc l wr G.GK HL.o (λa A=>Ql ((Kq.o a A).1) G.kept.size);have dA:=Zh G;go_wp2_with fail;refine bA.mono ?_;rintro e B ⟨t,rfl,fK,F9,aj⟩;have aK:=BH.keep dA.o aj F9 S.o (Qk n.o);obtain⟨va,vn,vc,rfl⟩:=Xh aK.own;have ak:∀s,Kept s B (B.alloc (Qt t.vals 48)):=λs=>ZT _ _;have aN:=BH.keep aK (ak _) (F9.alloc (Qt t.vals 48)) S.o (Qk n.o);have dC:Qp (B.alloc (Qt t.vals 48)) (aD (M (H W)+1+1) 0)=O (.slice va vn vc):=aN.gb.cell 0;have Ep:=aN.own;have dD:=aK.kept.size;obtain⟨av,fM⟩:=aS aN fK;obtain⟨t0,t1,t2,t3,t4,t5⟩:=t;unfold af.vals at*;simp only at*;have gZ:Qn (∃W4,B.alloc (Qt #[.int J t0,.int J t1,.int J t2,.int J t3,.int J t4,.int J t5] 48)=W4):=⟨_,rfl⟩;go_wp2_with (first|(at_builtin;refine wpList_append_own _ rfl _ _ 23 rfl (M (H W2)) 48 it (Qu #[.int J 0,.int J 0,.int J 0,.int J 0,.int J 0,.int J 0]) 6 48 underlying23 eU eY eZ fe rfl Qc _ _ _ rfl (Ep.alloc _) (aD (M (H B)+1) 0) 1 1 (⟨t0,t1,t2,t3,t4,t5⟩:af).list rfl rfl ?q1 ?q2 ?q3 ?q4 ?q5 ?_))
   case q1=>
    have hn:=lT (B.alloc (Qt #[I J t0,I J t1,I J t2,I J t3,I J t4,I J t5] 48)) (Qt #[I J t0,I J t1,I J t2,I J t3,I J t4,I J t5] 48);rw[Xo]at hn;exact XB (cs:=#[I J t0,I J t1,I J t2,I J t3,I J t4,I J t5]) (t:=48) (fr:=(0,0)) hn
   case q2=>intro u hu;simp[af.list]at hu;rcases hu with rfl|rfl|rfl|rfl|rfl|rfl <;> rfl
   case q3=>unfold maxLen;omega
   case q4=>omega
   case q5=>simp;omega
   intro v' w5 p gV _;obtain⟨P5,UJ,P6,rfl⟩:=Xh p;have Mq:=BH.more av.o (f:=0) (t:=⟨t0,t1,t2,t3,t4,t5⟩) (ZT _ _) p gV rfl S.o (Qk n.o) (Qk n.o) Kq.o;have dF:=Xa dC Mq.2 (show M (H W)+1+1<M (H W2) by have:=n.o;omega);have Pk:w5.frozen? (aD (M (H W)+1+1) 0)=false:=(Xx av.o.gb Mq.2 (show M (H W)+2<M (H W2) by have:=n.o;omega)).frozen 0;have TD:=Zh Mq.1;go_wp2;go_roundw
   case rel=>exact⟨k-1,ts++[⟨t0,t1,t2,t3,t4,t5⟩],_,congrArg (Value.int J) (show _=((k-1:Nat):Int) by omega),by rw[ZG,Jt];omega,by rw[ZG,Jt];omega,(λt ht=>by
    rcases Xk.1 ht with ht|ht
    .exact bf.o t ht
    .rw[Xj]at ht;rw[ht];exact fM.o),TD.o⟩
   case measure=>exact XK
   --Gb m1 end
  .have aO:k=0:=X
   subst aO;rw[show (((0:Nat):Int))=(0:Int) from rfl];obtain⟨co,R,rfl,YI,bR⟩:=Dl G.own X;have dG:N ts<=R:=by
    rcases G.own.2 with⟨hv,h0⟩|⟨g,cap,cur,hv,_,_,hc,_⟩
    .omega
    .injection hv with h1 h2 h3;omega
   have BG:=zt X X bf.o;have dH:=TK (M (H W)+1) lo lc l co R ts wr G.GK HL.o (λa A=>Ql ((Kq.o a A).1) G.kept.size) YI (λa A=>Ql ((bR a A).1) n.o) BG;have LB:=G.gb;have aJ:Qn _:=LB;have Ph:Qn _:=YI;obtain⟨nG,fO⟩:=aS bR G.kept;have az:Qn (1<=N ts/\N ts<=3/\∀t∈ts,BB t t.aL.toNat):=⟨X,X,bf.o⟩;have dI:=Zh BG;have dJ:Qn _:=Xx dx.o G.kept (show M (H W)≠M (H W)+1/\M (H W)≠M (H W)+2 by omega);have ib:=G.kept.size;have dK:=Zh dG;have b0:Qp wr (aD (M (H W)+1+1) 0)=O (Z co (N ts) R):=LB.cell 0;have b1:Qp wr (aD (M (H W)+1+1) 1)=O (Z Qs 0 0):=LB.cell 1;have b2:Qp wr (aD (M (H W)+1+1) 2)=O (Z Qs 0 0):=LB.cell 2;have b3:Qp wr (aD (M (H W)+1+1) 3)=O (Qr F):=LB.cell 3;have b4:Qp wr (aD (M (H W)+1+1) 4)=O (Z Qs 0 0):=LB.cell 4;have b5:Qp wr (aD (M (H W)+1+1) 5)=O (Z Qs 0 0):=LB.cell 5;have b6:Qp wr (aD (M (H W)+1+1) 6)=O (Z Qs 0 0):=LB.cell 6;have b7:Qp wr (aD (M (H W)+1+1) 7)=O (Z Qs 0 0):=LB.cell 7;have b8:Qp wr (aD (M (H W)+1+1) 8)=O (Z Qs 0 0):=LB.cell 8;go_wp2_with fail;refine XX dH ?_;rintro e B ⟨q,rfl,fP,bS,F9,aj⟩;have z:=Xx aJ.o aj S.o;obtain⟨⟨qA,iH,qi⟩,cK,aM,wh,gp,⟨lC,dR,kN⟩,⟨En,oN,GL⟩,⟨LD,tH,LF⟩,⟨nO,fG,nP⟩⟩:=q;have b0:Qp B (aD (M (H W)+1+1) 0)=O (Z co (N ts) R):=z.cell 0;have b1:Qp B (aD (M (H W)+1+1) 1)=O (Z Qs 0 0):=z.cell 1;have b2:Qp B (aD (M (H W)+1+1) 2)=O (Z Qs 0 0):=z.cell 2;have b3:Qp B (aD (M (H W)+1+1) 3)=O (Qr F):=z.cell 3;have b4:Qp B (aD (M (H W)+1+1) 4)=O (Z Qs 0 0):=z.cell 4;have b5:Qp B (aD (M (H W)+1+1) 5)=O (Z Qs 0 0):=z.cell 5;have b6:Qp B (aD (M (H W)+1+1) 6)=O (Z Qs 0 0):=z.cell 6;have b7:Qp B (aD (M (H W)+1+1) 7)=O (Z Qs 0 0):=z.cell 7;have b8:Qp B (aD (M (H W)+1+1) 8)=O (Z Qs 0 0):=z.cell 8;have f1:B.frozen? (aD (M (H W)+1+1) 1)=false:=z.frozen 1;have f2:B.frozen? (aD (M (H W)+1+1) 2)=false:=z.frozen 2;have f3:B.frozen? (aD (M (H W)+1+1) 3)=false:=z.frozen 3;have f4:B.frozen? (aD (M (H W)+1+1) 4)=false:=z.frozen 4
   have f5:B.frozen? (aD (M (H W)+1+1) 5)=false:=z.frozen 5;have f6:B.frozen? (aD (M (H W)+1+1) 6)=false:=z.frozen 6;have f7:B.frozen? (aD (M (H W)+1+1) 7)=false:=z.frozen 7;have nW:Kept (λb=>b≠M (H W)+2) B (Qo (Qo (Qo (Qo (Qo (Qo (Qo B (aD (M (H W)+1+1) 1) (Z qA (N qi) iH)) (aD (M (H W)+1+1) 2) (Z cK (N wh) aM)) (aD (M (H W)+1+1) 3) (Qr gp)) (aD (M (H W)+1+1) 4) (Z lC (N kN) dR)) (aD (M (H W)+1+1) 5) (Z En (N GL) oN)) (aD (M (H W)+1+1) 6) (Z LD (N LF) tH)) (aD (M (H W)+1+1) 7) (Z nO (N nP) fG)):=(((((((Xd _ _ _ (λh=>h rfl)).trans (Xd _ _ _ (λh=>h rfl))).trans (Xd _ _ _ (λh=>h rfl))).trans (Xd _ _ _ (λh=>h rfl))).trans (Xd _ _ _ (λh=>h rfl))).trans (Xd _ _ _ (λh=>h rfl))).trans (Xd _ _ _ (λh=>h rfl)));have bB:GB (Qo (Qo (Qo (Qo (Qo (Qo (Qo B (aD (M (H W)+1+1) 1) (Z qA (N qi) iH)) (aD (M (H W)+1+1) 2) (Z cK (N wh) aM)) (aD (M (H W)+1+1) 3) (Qr gp)) (aD (M (H W)+1+1) 4) (Z lC (N kN) dR)) (aD (M (H W)+1+1) 5) (Z En (N GL) oN)) (aD (M (H W)+1+1) 6) (Z LD (N LF) tH)) (aD (M (H W)+1+1) 7) (Z nO (N nP) fG)) (M (H W)+2) 29 (caseA (Z co (N ts) R) (⟨⟨qA,iH,qi⟩,cK,aM,wh,gp,⟨lC,dR,kN⟩,⟨En,oN,GL⟩,⟨LD,tH,LF⟩,⟨nO,fG,nP⟩⟩:ae) (Z Qs 0 0)):=(((((((z.set 1 _).set 2 _).set 3 _).set 4 _).set 5 _).set 6 _).set 7 _);obtain⟨W4,fQ⟩:=eX ((Qo (Qo (Qo (Qo (Qo (Qo (Qo B (aD (M (H W)+1+1) 1) (Z qA (N qi) iH)) (aD (M (H W)+1+1) 2) (Z cK (N wh) aM)) (aD (M (H W)+1+1) 3) (Qr gp)) (aD (M (H W)+1+1) 4) (Z lC (N kN) dR)) (aD (M (H W)+1+1) 5) (Z En (N GL) oN)) (aD (M (H W)+1+1) 6) (Z LD (N LF) tH)) (aD (M (H W)+1+1) 7) (Z nO (N nP) fG)));rw[fQ]at nW bB;have ic:Qn (M (H wr)<=M (H W4)):=show _<=_ by have:=aj.size;have:=nW.size;omega
   have dL:Qn (dE (M (H W)+3) (⟨⟨qA,iH,qi⟩,cK,aM,wh,gp,⟨lC,dR,kN⟩,⟨En,oN,GL⟩,⟨LD,tH,LF⟩,⟨nO,fG,nP⟩⟩:ae) W4):=(bS.keep nW (λb K=>Qk n.o)).lower (Qk n.o);obtain⟨iK,fT⟩:=aS (bS.keep nW (λb K=>Qk n.o)) fP;have dM:=F9.eP nW X (λa A=>Qk (sK.o a A));have dN:Qn _:=(Xx dJ.o aj (show M (H W)≠M (H W)+1 by omega)).keep nW X;have dO:=aQ.keep (aQ.keep Ph.o (λa A ag=>aj.block _ ag (Ql ((nG.o a A).1) n.o))) (λa A ag=>nW.block _ ag (Ql ((nG.o a A).1) n.o));have av:Qn _:=dO;have Ob:=Zh ((fO.o.trans (aj.mono λb _ h=>h.1)).trans (nW.mono λb _ h=>h.2));have dP:Qn _:=bB;have dQ:=Zh dM;unfold ae.cells ah.val;simp only;go_wp2;go_loopw [7] (λiv wr=>∃(i:Nat) (db:Qy dB) (v:Qm),iv=I J i/\i<=N ts/\Qn (N db=i/\∀j,j<N db->(E db j rz).rs.length<=4/\∀r∈(E db j rz).rs,(N r.xs:Int)=(E ts j tz).aL/\∀x∈r.xs,x=1073741824∨(-1<=x/\x<=3))/\
  GB wr (M (H W)+2) 29 (caseA (Z co (N ts) R) (⟨⟨qA,iH,qi⟩,cK,aM,wh,gp,⟨lC,dR,kN⟩,⟨En,oN,GL⟩,⟨LD,tH,LF⟩,⟨nO,fG,nP⟩⟩:ae) v)/\nA qh 51 W4 wr v db/\aH (M (H W)+1) lo lc l wr/\Kept (λb=>b≠M (H W)+1/\b≠M (H W)+2) W4 wr) (λiv _=>N ts-(intOf iv).toNat)
   case atStart=>exact⟨0,[],_,rfl,ZB _,⟨rfl,λj hj=>by simp at hj⟩,dP.o,nA.nil _ _ _ _,dQ.o,ZO _ _⟩
   case round=>
    obtain⟨C,rfl⟩:∃C,C=wr:=⟨wr,rfl⟩;obtain⟨i,db,v,rfl,iL,Ku,D,au,bT,aa⟩:=hrel;obtain⟨va,vn,vc,rfl⟩:=Xh au.own;have c0:Qp C (aD (M (H W)+1+1) 0)=O (Z co (N ts) R):=D.cell 0;have gU:=aa.size;by_cases ag:i<N ts
    .have dS:=Jp (M (H W)+1) lo lc l 5 C bT X HL.o;have C9:=aQ.keep av.o (λa A ai=>aa.block _ ai (Ql ((nG.o a A).1) n.o));obtain⟨bg,fU,rfl,fV,-⟩:=C9.2 i ag;have ig:=pg dI.o ag;have aP:Qn (bg≠M (H W)+1):=show _≠_ by have:=(nG.o _ rfl).1;have h:M (H W2)<=bg:=this;have:=n.o;omega
     generalize gT:(E ts i tz).aL=cl at*;have pJ:=Zh gT;obtain⟨cn,rfl⟩:∃cn:Nat,cl=(cn:Int):=⟨cl.toNat,X⟩;have dU:Qn _:=D;obtain⟨bU,fZ⟩:=aS au aa;go_wp2_with fail;refine dS.mono ?_;rintro e Wa ⟨r3,rfl,iM,iN,bV,ak⟩;obtain⟨k3,rfl⟩:∃k:Nat,r3=(k:Int):=⟨r3.toNat,X⟩;have ik:=ak.size;have dV:=Jo fV ak aP.o;have dW:=Jo c0 ak S.o;obtain⟨gm,gq⟩:=aS ak bV;have dX:=bV.lt;have aA:=Zh dX;go_wp2;go_loopw [8,9] (λv8 kv wr=>∃(k:Nat) (rs:Qy ah),kv=I J k/\N rs+k<=4/\Qn (∀r∈rs,(N r.xs:Int)=(cn:Int)/\∀x∈r.xs,x=1073741824∨(-1<=x/\x<=3))/\nA zU 22 Wa wr v8 rs/\aH (M (H W)+1) lo lc l wr/\Kept (λb=>b≠M (H W)+1) Wa wr) (λ_ kv _=>(intOf kv).toNat)
     case atStart=>exact⟨k3,[],rfl,Qj,(λr hr=>by simp at hr),nA.nil _ _ _ _,gq.o,ZO _ _⟩
     case round=>
      obtain⟨w3,rfl⟩:∃w3,w3=wr:=⟨wr,rfl⟩;obtain⟨k,rs,rfl,iO,bW,aF,bn,P⟩:=hrel;obtain⟨ra,rn,rc,rfl⟩:=Xh aF.own;have il:=P.size;by_cases U0:0<k
      ·
       --Gb m3 begin
       have iq:((k:Int) > 0):=X;obtain⟨bX,gu,gy⟩:=jX aF bn P;have dY:=Jo dV P aP.o;have dZ:=Jo dW P S.o;go_wp2;go_loopw [10,11] (λgQ mv wr=>∃(m:Nat) (xs:Qx),mv=I J m/\m<=cn/\Qn (N xs=m/\∀x∈xs,x=1073741824∨(-1<=x/\x<=3))/\wr.ownsRow (M (H w3)) 3 1 gQ m (xs.map (Value.int J))/\aH (M (H W)+1) lo lc l wr/\Kept (λb=>b≠M (H W)+1) w3 wr) (λ_ mv _=>cn-(intOf mv).toNat)
       case atStart=>exact⟨0,[],rfl,ZB _,⟨rfl,λx hx=>by simp at hx⟩,Xm _ _ _ _,gu.o,ZO _ _⟩
       case round=>
        obtain⟨m,xs,rfl,iP,YJ,bq,bu,Oc⟩:=hrel;have iy:=Jo dY Oc aP.o;have iA:=Jo dZ Oc S.o;have dD:=Oc.size;by_cases IK:m<cn
        .have bC:=TI (M (H W)+1) lo lc l wr bu HL.o;have bD:Qn _:=bq;go_wp2_with fail;refine bC.mono ?_;rintro e Wc ⟨x,rfl,gz,gB,bY⟩;have bE:=Xf bD.o bY (λg hg=>Ql ((Xg bD.o hg).1) aA.o);have bF:=Oc.trans bY;have iB:=bF.size;obtain⟨gD,gF⟩:=aS YJ.o.1 gB;go_wp2_with (first|(at_builtin;refine wpList_append_own _ rfl _ _ 22 rfl (M (H w3)) 3 i0 (.int J 0) 1 8 underlying22 hi fo fq fu rfl Qc _ _ _ rfl (bE.alloc _) (aD (M (H Wc)) 0) 1 1 [.int J x] rfl rfl (XB (cs:=#[.int J x]) (t:=3) (fr:=(0,0)) (lT Wc _)) (λu hu=>by rw[Xj]at hu;rw[hu];rfl) Qh X (by rw[Xo];omega) ?_));intro v' w5 p gV _;have Cy:∀g,Value.ownBlock _=O g->M (H w3)<=g:=λg hg=>(Xg bE hg).1
         have TD:=Zh ((aH.alloc gF.o (Qt #[I J x] 3)).grown gV (λe=>Ql (Cy _ e) aA.o) (λa A e=>by have:=Cy _ e;have:=(Kq.o a A).1;have:=Ob.o.size;omega));have aR:Kept (λb=>b≠M (H W)+1) w3 w5:=by have h1:Kept (λb=>b≠M (H W)+1) w3 (Wc.alloc (Qt #[I J x] 3)):=bF.trans (ZT _ _);exact((h1.mono (t:=λb=>b≠M (H W)+1/\b<M (H w3)) (λb _ h=>h.1)).trans (Xe gV (λr e h=>Ql (Cy r e) h.2))).mono (λb K h=>⟨h,K⟩)
         have Cv:Qn _:=p;have aT:=Zh aR;go_wp2;go_roundw
         case rel=>exact⟨m+1,xs++[x],Qe,X,⟨by rw[ZG,Jt,gD.o],(λy hy=>by
          rcases Xk.1 hy with hy|hy
          .exact YJ.o.2 y hy
          .rw[Xj]at hy;rw[hy];exact gz)⟩,by rw[Q5];exact Cv.o,TD.o,aT.o⟩
         case measure=>exact XK
        .have ed:m=cn:=X
         subst ed;obtain⟨iv,oW,oq,jT,Gd⟩:=kF bq (Qk YJ.o.1);have aU:=nA.keep bX.o Oc (λb K=>Qk aA.o);have Ep:=aU.own;have bG:=gy.o.trans Oc;have bI:∀b,zU.blk iv b->M (H Wa)<=b/\b<M (H wr)/\(Value.slice ra rn rc).ownBlock≠O b:=λb K=>by have h1:=Gd b K;refine⟨X,bH.inn jT K,λe=>?_⟩;have h2:=(Xg bX.o.own e).2;omega
         obtain⟨aY,VI,bZ,gG,gH,gI,cu⟩:=aeh bI jT aU bG bu oq YJ.o;rw[oW];obtain⟨mh,eQ,iR⟩:=iv;unfold ah.val;simp only;clear bq jT Gd aU bG bI bu Oc oW oq YJ;go_wp2_with (first|(at_builtin;refine wpList_append_own_at _ rfl _ _ 51 rfl (M (H Wa)) 22 ir (.slice Qs 0 0) 1 24 underlying51 fw fA fB fC rfl Qc _ _ _ rfl (Ep.alloc _) (aD (M (H wr)) 0) 1 1 [.slice mh (N iR) eQ] rfl rfl (XB (cs:=#[.slice mh (N iR) eQ]) (t:=22) (fr:=(0,0)) (lT wr _)) (λu hu=>by rw[Xj]at hu;rw[hu];rfl) Qh X (by rw[Xo];omega) ?_));intro v' w5 p gV _ zM;have Mq:=nA.more bZ.o (x:=⟨mh,eQ,iR⟩) VI.o aY.o (ZT wr _) Qa p gV (by rw[Xo];exact zM);have ax:∀g,(Value.slice ra rn rc).ownBlock=O g->M (H Wa)<=g:=λg hg=>(Xg bZ.o.own hg).1;have TD:=Zh ((aH.alloc gH.o (Qt #[.slice mh (N iR) eQ] 22)).grown gV (λe=>Ql (ax _ e) aA.o) (λa A e=>by have:=ax _ e;have:=(Kq.o a A).1;have:=Ob.o.size;omega));have aR:=((gG.o.mono (t:=λb=>b≠M (H W)+1/\b<M (H Wa)) (λb _ h=>h.1)).trans (Mq.2.mono λb _ h=>h.2)).mono (λb K h=>⟨h,K⟩);obtain⟨aT,gJ⟩:=aS aR Mq.1;go_wp2;go_roundw
         case rel=>exact⟨k-1,rs++[⟨mh,eQ,iR⟩],congrArg (Value.int J) (show _=((k-1:Nat):Int) by omega),by rw[ZG,Jt];omega,(λr hr=>by
          rcases Xk.1 hr with hr|hr
          .exact bW.o r hr
          .rw[Xj]at hr;have ek:=gI.o;rw[hr]
           show (N iR:Int)=_/\∀x∈iR,_;rw[ek];exact⟨by rw[cu.o.1],cu.o.2⟩),gJ.o,TD.o,aT.o⟩
         case measure=>exact XK
       --Gb m3 end
      ·
       --Gb m4 begin
       have aO:k=0:=X;subst aO;obtain⟨tb,cz,cO,YI,cZ⟩:=aF.table X;have aB:=gm.o.trans P;have aV:=Xx dU.o aB S.o;have aW:=nA.keep bU.o aB (λb K=>Ql n.o Ob.o.size);have aX:=aW.own;have eu:Qp w3 (aD (M (H W)+1+1) 8)=O (Z va vn vc):=aV.cell 8;have aY:Qn (∀b,qh.blk tb b->M (H W4)<=b/\b<M (H w3)/\(Value.slice va vn vc).ownBlock≠O b):=λb K=>by have h1:=cZ b K;refine⟨X,h1.2,λe=>?_⟩;have h2:=(Xg bU.o.own e).2;omega
       obtain⟨Ph,Wm,df⟩:=jX YI cO aW;have Aw:Qn _:=aV;obtain⟨gK,qN⟩:=aS bn (fZ.o.trans (aB.mono λb _ h=>h.1));have iC:N db<=3:=Ql Ku.o.1 az.o.2.1;have bJ:=Zh Ku.o.1;have iD:=qN.o.size;obtain⟨Q,Gh,YK⟩:=tb;have bK:Value.slice ra rn rc=.slice Q (N YK) Gh:=cz;rw[bK];clear cz bK YI cZ cO aB aV aW aF bn P;go_wp2_with (first|(at_builtin;refine wpList_append_own_at _ rfl _ _ 27 rfl (M (H W4)) 51 iw (.slice Qs 0 0) 1 24 underlying27 fD fE fF fH rfl Qc _ _ _ rfl (aX.alloc _) (aD (M (H w3)) 0) 1 1 [.slice Q (N YK) Gh] rfl rfl (XB (cs:=#[.slice Q (N YK) Gh]) (t:=51) (fr:=(0,0)) (lT w3 _)) (λu hu=>by rw[Xj]at hu;rw[hu];rfl) Qh X (by rw[Xo];omega) ?_));intro v' w5 p gV _ zM;obtain⟨P5,UJ,P6,rfl⟩:=Xh p;have Mq:=nA.more df.o (x:=⟨Q,Gh,YK⟩) Ph.o aY.o (ZT w3 _) Qa p gV (by rw[Xo];exact zM);have ax:∀g,(Value.slice va vn vc).ownBlock=O g->M (H W4)<=g:=λg hg=>(Xg df.o.own hg).1;have bL:M (H W)+2<M (H W4):=Ql n.o Ob.o.size;have dF:=Xa eu Mq.2 bL;have bM:=Xx Aw.o Mq.2 bL;have Pk:w5.frozen? (aD (M (H W)+1+1) 8)=false:=bM.frozen 8;have uY:Kept (λb=>b≠M (H W)+2) w5 (Qo w5 (aD (M (H W)+1+1) 8) (.slice P5 UJ P6)):=Xd _ _ _ (λh=>h rfl);have eB:Qn (GB (Qo w5 (aD (M (H W)+1+1) 8) (.slice P5 UJ P6)) (M (H W)+2) 29 (caseA (.slice (O (aD bg fU)) (N ts) R) (⟨⟨qA,iH,qi⟩,cK,aM,wh,gp,⟨lC,dR,kN⟩,⟨En,oN,GL⟩,⟨LD,tH,LF⟩,⟨nO,fG,nP⟩⟩:ae) (.slice P5 UJ P6))):=bM.set 8 _;obtain⟨gL,gM,gN⟩:=jX (((aH.alloc gK.o (Qt #[.slice Q (N YK) Gh] 51)).grown gV (λe=>Qk (ax _ e)) (λa A e=>by have:=ax _ e;have:=(Kq.o a A).1;have:=Ob.o.size;omega)).eP uY X (λa A=>Qk (sK.o a A))) (Mq.1.keep uY (λb K=>X)) ((((qN.o.mono (t:=λb=>(b≠M (H W)+1/\b≠M (H W)+2)/\b<M (H W4)) (λb _ h=>h.1)).trans (Mq.2.mono λb _ h=>h.2)).trans (uY.mono λb _ h=>h.1.2)).mono (λb K h=>⟨h,K⟩));go_wp2;go_roundw
       case rel=>exact⟨i+1,db++[⟨Q,Gh,YK⟩],_,Qe,X,⟨by rw[ZG,Jt,bJ.o],λj hj=>by
        rw[ZG,Jt]at hj;by_cases di:j<N db
        .have e1:E (db++[(⟨Q,Gh,YK⟩:dB)]) j rz=E db j rz:=by simp[List.getD,List.getElem?_append,di]
         rw[e1];exact Ku.o.2 j di
        .have bN:j=N db:=X
         have e1:E (db++[(⟨Q,Gh,YK⟩:dB)]) j rz=⟨Q,Gh,YK⟩:=by rw[bN];simp[List.getD]
         rw[e1];have e2:=Wm.o;have e3:j=i:=by rw[bN,bJ.o]
         show N YK<=4/\∀r∈YK,_;rw[e2,e3,pJ.o];exact⟨X,bW.o⟩⟩,eB.o,gM.o,gL.o,gN.o⟩
       case measure=>exact XK
       --Gb m4 end
    ·
     --Gb m5 begin
     have aZ:i=N ts:=X;obtain⟨d,dc,dh,gP⟩:=au.db (Ql Ku.o.1 az.o.2.1);rw[dh]at D au;clear gP;have q0:Qp C (aD (M (H W)+1+1) 0)=O (Z co (N ts) R):=D.cell 0;have q1:Qp C (aD (M (H W)+1+1) 1)=O (Z qA (N qi) iH):=D.cell 1;have q2:Qp C (aD (M (H W)+1+1) 2)=O (Z cK (N wh) aM):=D.cell 2;have q3:Qp C (aD (M (H W)+1+1) 3)=O (Qr gp):=D.cell 3;have q4:Qp C (aD (M (H W)+1+1) 4)=O (Z lC (N kN) dR):=D.cell 4;have q5:Qp C (aD (M (H W)+1+1) 5)=O (Z En (N GL) oN):=D.cell 5;have q6:Qp C (aD (M (H W)+1+1) 6)=O (Z LD (N LF) tH):=D.cell 6;have q7:Qp C (aD (M (H W)+1+1) 7)=O (Z nO (N nP) fG):=D.cell 7;have q8:Qp C (aD (M (H W)+1+1) 8)=O (Z d (N db) dc):=D.cell 8;have L:Qn _:=Xx dN.o aa (show M (H W)≠M (H W)+1/\M (H W)≠M (H W)+2 by omega);have r0:Qp C (aD (M (H W)) 0)=O (Z Qs 0 0):=Zl L.o 0;have y0:=Zm L.o 0;have r1:Qp C (aD (M (H W)) 1)=O (Z Qs 0 0):=Zl L.o 1;have y1:=Zm L.o 1;have r2:Qp C (aD (M (H W)) 2)=O (Z Qs 0 0):=Zl L.o 2;have y2:=Zm L.o 2;have r3:Qp C (aD (M (H W)) 3)=O (Qr F):=Zl L.o 3;have y3:=Zm L.o 3;have r4:Qp C (aD (M (H W)) 4)=O (Z Qs 0 0):=Zl L.o 4;have y4:=Zm L.o 4;have r5:Qp C (aD (M (H W)) 5)=O (Z Qs 0 0):=Zl L.o 5;have y5:=Zm L.o 5;have r6:Qp C (aD (M (H W)) 6)=O (Z Qs 0 0):=Zl L.o 6;have y6:=Zm L.o 6;have r7:Qp C (aD (M (H W)) 7)=O (Z Qs 0 0):=Zl L.o 7;have y7:=Zm L.o 7;have r8:Qp C (aD (M (H W)) 8)=O (Z Qs 0 0):=Zl L.o 8;have y8:=Zm L.o 8;have Vb:Kept (λb=>b≠M (H W)) C (Qo (Qo (Qo (Qo (Qo (Qo (Qo (Qo (Qo C (aD (M (H W)) 0) (Z co (N ts) R)) (aD (M (H W)) 1) (Z qA (N qi) iH)) (aD (M (H W)) 2) (Z cK (N wh) aM)) (aD (M (H W)) 3) (Qr gp)) (aD (M (H W)) 4) (Z lC (N kN) dR)) (aD (M (H W)) 5) (Z En (N GL) oN)) (aD (M (H W)) 6) (Z LD (N LF) tH)) (aD (M (H W)) 7) (Z nO (N nP) fG)) (aD (M (H W)) 8) (Z d (N db) dc)):=(((((((((Xd _ _ _ (λh=>h rfl)).trans (Xd _ _ _ (λh=>h rfl))).trans (Xd _ _ _ (λh=>h rfl))).trans (Xd _ _ _ (λh=>h rfl))).trans (Xd _ _ _ (λh=>h rfl))).trans (Xd _ _ _ (λh=>h rfl))).trans (Xd _ _ _ (λh=>h rfl))).trans (Xd _ _ _ (λh=>h rfl))).trans (Xd _ _ _ (λh=>h rfl)))
     have eD:Qn (GB (Qo (Qo (Qo (Qo (Qo (Qo (Qo (Qo (Qo C (aD (M (H W)) 0) (.slice co (N ts) R)) (aD (M (H W)) 1) (.slice qA (N qi) iH)) (aD (M (H W)) 2) (.slice cK (N wh) aM)) (aD (M (H W)) 3) (.bool gp)) (aD (M (H W)) 4) (.slice lC (N kN) dR)) (aD (M (H W)) 5) (.slice En (N GL) oN)) (aD (M (H W)) 6) (.slice LD (N LF) tH)) (aD (M (H W)) 7) (.slice nO (N nP) fG)) (aD (M (H W)) 8) (.slice d (N db) dc)) (M (H W)) 29 (caseA (.slice co (N ts) R) (⟨⟨qA,iH,qi⟩,cK,aM,wh,gp,⟨lC,dR,kN⟩,⟨En,oN,GL⟩,⟨LD,tH,LF⟩,⟨nO,fG,nP⟩⟩:ae) (.slice d (N db) dc))):=GB.arK (show GB C (M (H W)) 29 #[.slice Qs 0 0,.slice Qs 0 0,.slice Qs 0 0,.bool F,.slice Qs 0 0,.slice Qs 0 0,.slice Qs 0 0,.slice Qs 0 0,.slice Qs 0 0] from L.o) _ _ _ _ _ _ _ _ _;have eF:=Zh (aQ.keep (aQ.keep av.o (λa A ai=>aa.block _ ai (Ql ((nG.o a A).1) n.o))) (λa A ai=>Vb.block _ ai (Ql ((nG.o a A).1) n.o)));have eG:Qn (dE (M (H W)) (⟨⟨qA,iH,qi⟩,cK,aM,wh,gp,⟨lC,dR,kN⟩,⟨En,oN,GL⟩,⟨LD,tH,LF⟩,⟨nO,fG,nP⟩⟩:ae) (Qo (Qo (Qo (Qo (Qo (Qo (Qo (Qo (Qo C (aD (M (H W)) 0) (.slice co (N ts) R)) (aD (M (H W)) 1) (.slice qA (N qi) iH)) (aD (M (H W)) 2) (.slice cK (N wh) aM)) (aD (M (H W)) 3) (.bool gp)) (aD (M (H W)) 4) (.slice lC (N kN) dR)) (aD (M (H W)) 5) (.slice En (N GL) oN)) (aD (M (H W)) 6) (.slice LD (N LF) tH)) (aD (M (H W)) 7) (.slice nO (N nP) fG)) (aD (M (H W)) 8) (.slice d (N db) dc))):=((Ju dL.o aa (λb K=>X)).keep Vb (λb K=>X)).lower X;have eH:N db<=1000:=Ql Ku.o.1 az.o.2.1;have bO:=au.keep Vb (λb K=>Ql n.o Ob.o.size);have eO:Qn _:=nA.db2 bO eH;have bP:=((((TE.o.mono (t:=λb=>b<M (H W)) (λ_ _ _=>trivial)).trans (Ob.o.mono λb _ h=>X)).trans (aa.mono λb _ h=>X)).trans (Vb.mono λb _ h=>X)).below (Za _) (λb K=>K);have eT:=Zh bP;have zJ:Qn (CaseOk ts (⟨⟨qA,iH,qi⟩,cK,aM,wh,gp,⟨lC,dR,kN⟩,⟨En,oN,GL⟩,⟨LD,tH,LF⟩,⟨nO,fG,nP⟩⟩:ae) db):=⟨az.o,fT.o,by rw[Ku.o.1];exact aZ,Ku.o.2⟩;have iE:=Zh aZ;have iF:¬(i:Int)<(N ts:Int):=X;clear D au bT aa Vb bO bP aZ dh L Ku;go_wp2;refine X8 (Jr rfl _ _ (M (H W)) 29 (caseA (.slice co (N ts) R) (⟨⟨qA,iH,qi⟩,cK,aM,wh,gp,⟨lC,dR,kN⟩,⟨En,oN,GL⟩,⟨LD,tH,LF⟩,⟨nO,fG,nP⟩⟩:ae) (.slice d (N db) dc)) (0,0) _ rfl eD.o underlying29 rfl Qd) rfl ?_;exact⟨ts,(⟨⟨qA,iH,qi⟩,cK,aM,wh,gp,⟨lC,dR,kN⟩,⟨En,oN,GL⟩,⟨LD,tH,LF⟩,⟨nO,fG,nP⟩⟩:ae),db,co,d,R,⟨dc,rfl⟩,zJ.o,eF.o,λa A=>Ql ((nG.o a A).1) n.o,dK.o,eG.o,eO.o,eT.o⟩
     --Gb m5 end
section
open Go.Maps Go.WideMaps
attribute [local go_sem] Oper.semAt_some
@[reducible] def GZ (w W:U) (n:Nat) (ss:Qx) (sv:Qm) (L gr cap gb sb:Nat):Prop:=GA V 239 244 3 Cq w W n ss sv L gr cap gb sb
def ac4(hD:IsMap D)(hkl:keyOf V 241 Cq=O kl)(hown:w6.ownsMap V 241 (plainElem V 3) (M (H w)+3) 1 (D.put kl (.lit (.int J 0))))(Xq:U)(hX:Xq.heap[M (H w)+3]? = w6.heap[M (H w)+3]?) :
  (Instr.lookup 239 (.map (O (M (H w)+3))) Cq T).run V Xq=.ok (Qw #[I J 0,Qr T]) Xq:=by
 have g:Xq.ownsMap V 241 (plainElem V 3) (M (H w)+3) 1 (D.put kl (.lit (.int J 0))):=by obtain⟨i,d,j,k⟩:=hown;exact⟨i,d,hX.trans j,k⟩
 obtain⟨v,ps,f,l⟩:=g.look_ok Tryz.xM underlying239 (Tryz.ac2 Xq) (plainElem_int (H:=Unit) underlying3 (a:=0) rfl) hkl;obtain⟨c,rfl,m,_⟩:=plainElem_int_inv underlying3 l;have b:(D.put kl (.lit (.int J 0))).atKey kl (.lit (.int J 0))=.lit (.int J c):=congrArg Prod.fst m;rw[atKey_put_same hD (Tryz.xM.key hkl) _ _]at b;simp only[DataW.lit.injEq,Lit.int.injEq,true_and]at b;have e:=b;rw[f,has_put_same hD (Tryz.xM.key hkl) _,<-e]
def gaM(tg ti:TypeId)(Vq:U)(b2 n:Nat)(wx:U)(gr cap:Nat):Prop:=
 Qp wx (aD b2 0)=O (Z (O (aD gr 0)) 1 cap)/\Qp wx (aD gr 0)=O (Y (O (aD (M (H Vq)+2) 0)))/\wx.heap[M (H Vq)+2]? = O (Qt #[Z Qs 0 0,I J 0,Z (O (aD (M (H Vq)+1) 0)) n n] tg)/\wx.heap[M (H Vq)+1]? = O (Qt (List.replicate n (Value.int J 1073741824)).toArray ti)/\M (H Vq)+3<=gr/\Kept (λb=>b≠b2) Vq wx
def ac5{Xq:U}{b:Nat}(h:Xq.heap[b]? = O (.map #[] 0)):∃D,IsMap D/\Xq.ownsMap V 241 (plainElem (H:=Unit) V 3) b 0 D:=by have f:=World.ownsMap_made Xq V 241 (plainElem (H:=Unit) V 3);have a:=f;obtain⟨j,d,g,i⟩:=a;have e:=g.symm.trans (lT Xq _);cases e;exact⟨_,f.isMap,⟨_,_,h,i⟩⟩
def aap{sv:Qm}(hs:M (H Vq)=M (H w)+5)(hbV:Bw w Vq)(f0:Qp Vq (aD (M (H w)) 0)=O (Z Qs 0 0))(f1:Qp Vq (aD (M (H w)+1) 0)=O sv)(f4:Qp Vq (aD (M (H w)+4) 0)=O (.map (O (M (H w)+3))))
  (hM:gaM 244 3 Vq (M (H w)+2) n wc gr cap) (hD:IsMap D) (hkl:keyOf V 241 Cq=O kl) (hown:w6.ownsMap V 241 (plainElem V 3) (M (H w)+3) 1 (D.put kl (.lit (.int J 0)))) (hgrow:wc.grownBy w6 (O (M (H w)+3))) :
  GZ w w6 0 (List.replicate n 1073741824) sv n gr cap (M (H Vq)+2) (M (H Vq)+1):=by have a:Kept (λb=>b≠M (H w)+3) wc w6:=Xe hgrow (λr e l=>by cases e;exact l rfl);obtain⟨i,j,f,k,p,d⟩:=hM;have g:=(ZV.1 f).1;refine⟨Xa i a (show M (H w)+2≠_ by omega),Xa j a (show gr≠_ by omega),(a.block _ g X).trans f,?_,ac4 hD hkl hown,Xa (Xa f0 d (show M (H w)≠_ by omega)) a (show M (H w)≠_ by omega),Xa (Xa f1 d (show M (H w)+1≠_ by omega)) a (show M (H w)+1≠_ by omega),Xa (Xa f4 d (show M (H w)+4≠_ by omega)) a (show M (H w)+4≠_ by omega),(hbV.trans (d.below X (λb m=>X))).trans (a.below X (λb m=>X)),X⟩;rw[List.map_replicate];exact(a.block _ X X).trans k
def gaN(Vq W:U)(n:Nat)(ss:Qx)(L:Nat):Prop:=W.heap[M (H Vq)+2]? = O (Qt #[Z Qs 0 0,I J n,Z (O (aD (M (H Vq)+1) 0)) L L] 244)/\W.heap[M (H Vq)+1]? = O (Qt (ss.map (Value.int J)).toArray 3)
def aaq{w0 W2:U}{sc x:ah}{rows:Qy (Qx)}{pre:Qy ah}{o1:Qz}(hsc:sc.At w)(hsl:N sc.xs<=4)(OQ:∀r∈rows,bP sc.xs (N r)=T)(hsm:∀r∈rows,∀v∈r,xL v)(hbig:∀n,∀s∈mH sc.xs (rows.take n),xL s)
  (tY:∀b,o1 b↔gaO (M (H w)) gr (M (H Vq)+2) (M (H Vq)+1) b) (hG:GZ w W (N pre) (mH sc.xs (pre.map ah.xs)) sc.val (N sc.xs) gr cap (M (H Vq)+2) (M (H Vq)+1)) (hpre:(pre++[x]).map bH.key <+: rows) (hx:bH.At x W) (hoff:∀b,bH.blk x=O b->¬o1 b/\(b<M (H w0)∨M (H wc)<=b)) (hb2:Bw W W2) (hb0:Bw w0 w) (hlen:N rows<=1000) :
  (∀i:U,gaN Vq i (N pre+1) (oC (mH sc.xs (pre.map ah.xs)) x.xs sc.xs) (N sc.xs)->Kept (λb=>b≠M (H Vq)+2/\b≠M (H Vq)+1) W2 i->M (H i)=M (H W2)->
    ∃o2:Qz,((∀b,o2 b↔gaO (M (H w)) gr (M (H Vq)+2) (M (H Vq)+1) b)/\GZ w i (N (pre++[x])) (mH sc.xs ((pre++[x]).map ah.xs)) sc.val (N sc.xs) gr cap (M (H Vq)+2) (M (H Vq)+1))/\Kept (λb=>¬o1 b) W i/\∀b,o2 b->o1 b∨(M (H W)<=b/\b<M (H i))∨(bH.blk x=O b/\M (H wc)<=b))/\
   GZ w W2 (N pre) (mH sc.xs (pre.map ah.xs)) sc.val (N sc.xs) gr cap (M (H Vq)+2) (M (H Vq)+1)/\
   Calls V 179 #[Y (O (aD (M (H Vq)+2) 0)),x.val,sc.val] W2.drew λe w'=>(∃u,e=Qv u)/\gaN Vq w' (N pre+1) (oC (mH sc.xs (pre.map ah.xs)) x.xs sc.xs) (N sc.xs)/\Kept (λb=>b≠M (H Vq)+2/\b≠M (H Vq)+1) W2 w'/\M (H w')=M (H W2):=by
 have R:=hG.lts;have S:=hG.far;have d:=hG.keep (s:=λb=>b<M (H W)) (ZP hb2 (λb _ h=>h)) (λb f=>by rcases f with (h|h|h|h|h)|h <;> omega);have j:=Ah hpre;have l:∀s,Kept s W2 W2.drew:=λs=>⟨rfl,rfl,rfl,Za _,λ_ _ _=>rfl⟩
 have y:N pre+1<=1000:=by have:=hpre.length_le;rw[ZH,ZG]at this;exact ZN this hlen
 have m:pre.map ah.xs=rows.take (N pre):=by have h:=hpre;rw[Q5]at h;have:=List.prefix_iff_eq_take.1 ((List.prefix_append _ _).trans h);rw[ZH]at this;exact this
 refine⟨λi p q r4=>⟨o1,⟨tY,?_⟩,?_,λb f=>.inl f⟩,d,?_⟩
 .rw[ZG,Q5,show mH sc.xs (pre.map ah.xs++[x].map ah.xs)=oC (mH sc.xs (pre.map ah.xs)) x.xs sc.xs by unfold mH;rw[ZM];rfl];exact d.turn q (λb f=>X) p.1 p.2
 .exact(ZP (s:=λb=>¬o1 b) hb2 (λb f _=>f)).trans (q.mono λb _ h=>⟨λe=>h ((tY b).2 (.inr (.inl e))),λe=>h ((tY b).2 (.inr (.inr (.inl e))))⟩)
 .have h:=Gw (M (H Vq)+2) (M (H Vq)+1) (Z Qs 0 0) (N pre) (mH sc.xs (pre.map ah.xs)) x sc W2.drew X d.g d.s (Co _ _ _ Qa) hsl (bH.keep hx hb2.size (λb f _=>hb2.block b f)).1 (Q8 (d.below) hsc) (λa k=>by
    have f:bH.blk x=O a.block:=by show x.ad.map _=_;rw[k];rfl
    exact⟨λe=>(hoff _ f).1 ((tY _).2 (.inr (.inl e))),λe=>(hoff _ f).1 ((tY _).2 (.inr (.inr (.inl e))))⟩) (λt a k=>by
    obtain⟨b,B,e,C⟩:=hsc.get t;rw[e]at k;cases k;have z:b<M (H w):=ZW (C 0 t);exact⟨λe=>by have A:b=M (H Vq)+2:=e;omega,λe=>by have A:b=M (H Vq)+1:=e;omega⟩) (OQ _ j) X (λs Q=>hbig (N pre) s (by rw[<-m];exact Q)) (hsm _ j)
  refine h.mono ?_;rintro e w' ⟨D,G,K,L,P⟩;exact⟨D,⟨G,K⟩,(l _).trans L,P⟩
def K4(gi:Nat)(zF:Array Qm)(sc:ah)(rows:Qy (Qx))(w0 w:U)(hb0:Bw w0 w)(hseq:Seq bH V gi zF rows w0)(egi:∀args w,(callFunc gi args).run V w=.ok (.enter gi args) w)
  (hsc:sc.At w) (hsl:N sc.xs<=4) (hlen:N rows<=1000) (OQ:∀r∈rows,bP sc.xs (N r)=T) (hsm:∀r∈rows,∀v∈r,xL v) (hbig:∀n,∀s∈mH sc.xs (rows.take n),xL s) :
  Calls V 140 #[.func (.func gi) #[] zF,Z Qs 0 0,sc.val] w λe w'=>∃k cap gb sb,e=Qv (Z (O (aD k 0)) 1 cap)/\M (H w)<=k/\M (H w)<=gb/\M (H w)<=sb/\Qp w' (aD k 0)=O (Y (O (aD gb 0)))/\
   w'.heap[gb]? = O (Qt #[Z Qs 0 0,I J (N rows),Z (O (aD sb 0)) (N sc.xs) (N sc.xs)] 244)/\w'.heap[sb]? = O (Qt ((mH sc.xs rows).map (Value.int J)).toArray 3)/\Bw w w':=by
 have hh:=nU (gaB w sc.val) w;have ak:=mG (gaB w sc.val) w;have Q:M (H ((gaB w sc.val).foldl World.alloc w))=M (H w)+5:=by simp[gaB]
 obtain⟨a,hV⟩:=eX ((gaB w sc.val).foldl World.alloc w);rw[hV]at hh Q ak;have f0:Qp a (aD (M (H w)) 0)=O (Z Qs 0 0):=Jy (hh 0 (by simp[gaB])) rfl;have f1:Qp a (aD (M (H w)+1) 0)=O sc.val:=Jy (hh 1 (by simp[gaB])) rfl;have h2:GB a (M (H w)+2) 207 #[Z Qs 0 0]:=hh 2 (by simp[gaB]);have h3:a.heap[M (H w)+3]? = O (.map #[] 0):=hh 3 (by simp[gaB]);have f4:Qp a (aD (M (H w)+4) 0)=O (.map (O (M (H w)+3))):=Jy (hh 4 (by simp[gaB])) rfl;simp only[gaB,Zw,List.foldl_nil]at hV;obtain⟨HV,aa⟩:=aS hV hb0;have aK:Qn _:=hsc;obtain⟨DY,aG,aW,aX,FZ,au⟩:=aaZ hsl hlen OQ hsm hbig Q;obtain⟨aY,H3⟩:=aS ak h3;have H2:Qn _:=h2;obtain⟨F0,F1⟩:=aS f0 f1;clear hV hb0 hsc hlen OQ hsm hbig Q ak h2 h3 hh;obtain⟨qA,iH,m⟩:=sc;unfold ah.val at*;simp only at*;refine(ZU (n:=0)).1 (Xb func140 rfl trivial ?_ rfl);simp only[ntmps140,ZZ,ZK,Z0,Nat.reduceAdd,Nat.reduceSub,Z4,Z5,Z6,Z7,Z8,Z9];have aL:=@run_makeMap V;gi_upto_region 3 with fail;rw[HV.o];simp only[Jg,Nat.reduceAdd];have az:Calls V 178 #[Z Qs 0 0,I J (N m)] a.drew λe w'=>e=Qv (Y (O (aD (M (H a)+2) 0)))/\
   w'.heap[M (H a)+2]? = O (Qt #[Z Qs 0 0,I J 0,Z (O (aD (M (H a)+1) 0)) (N m) (N m)] 244)/\
   w'.heap[M (H a)+1]? = O (Qt (List.replicate (N m) (Value.int J 1073741824)).toArray 3)/\Below (M (H a)) a.drew w'/\M (H w')=M (H a)+3:=Gv ⟨Qs,0,[]⟩ (N m) a.drew DY.o
 have aA:Qp a (aD (M (H w)+2) 0)=O (Z Qs 0 0):=Jy H2.o rfl;have aM:Qn (∀p:U,p.heap[M (H a)+2]? = O (Qt #[Z Qs 0 0,I J 0,Z (O (aD (M (H a)+1) 0)) (N m) (N m)] 244)->p.heap[M (H a)+1]? = O (Qt (List.replicate (N m) (Value.int J 1073741824)).toArray 3)->Below (M (H a)) a.drew p->M (H p)=M (H a)+3->
   ∃k cap q,(Builtin.append_ #[207,207] 207 #[Z Qs 0 0,Z (O (aD (M (H p)) 0)) 1 1]).run V (p.alloc (Qt #[Y (O (aD (M (H a)+2) 0))] 209))=.ok (Z (O (aD k 0)) 1 cap) q/\Qp q (aD (M (H w)+2) 0)=O (Z Qs 0 0)/\q.frozen? (aD (M (H w)+2) 0)=F/\
    gaM 244 3 a (M (H w)+2) (N m) (Qo q (aD (M (H w)+2) 0) (Z (O (aD k 0)) 1 cap)) k cap):=by
  intro p p2 p1 pb ps;obtain⟨i0,hi,aZ,bf,bg⟩:=Xl Tryz.ac3;obtain⟨v',q,hr,ho,hk,-,-⟩:=iq (P:=V) p (M (H p)) 207 207 209 i0 (Y Qs) 1 8 underlying207 hi aZ bf bg rfl Qc (.slice Qs 0 0) 0 [] (Xm _ _ _ _) (Za _) [Y (O (aD (M (H a)+2) 0))] rfl (λu hu=>by rw[Xj]at hu;rw[hu];rfl) X Qc;rcases XF ho with⟨rfl,h1⟩|⟨g,cap,rfl,hg,_,hc⟩
  .exact absurd h1 Qc
  .have y:Kept (λ_=>True) p q:=hk.mono (λb _ _=>λe=>by cases e);have aB:=(ZP (s:=λ_=>True) (w:=a) (B:=M (H a)) ((Q9 _ _).drew.trans (pb.mono (Za _))) (λb L _=>L)).trans y;have Q:=au.o;have j:GB q (M (H w)+2) 207 #[Z Qs 0 0]:=(aB.block _ X trivial).trans H2.o;have R:Kept (λb=>b≠M (H w)+2) q (Qo q (aD (M (H w)+2) 0) (Z (O (aD g 0)) 1 cap)):=Xd _ _ _ (λh=>h rfl);refine⟨g,cap,q,hr,j.cell 0,vw j 0,(j.set 0 _).cell 0,Xa (hc 0 _ rfl) R (show g≠_ by omega),(R.block _ (Qk y.size) X).trans ((y.block _ X trivial).trans p2),(R.block _ (Qk y.size) X).trans ((y.block _ X trivial).trans p1),X,(aB.mono λ_ _ _=>trivial).trans R⟩
 gi_upto_region 4 with fail;gi_cut [] from 15 (λwx=>∃k cap,gaM 244 3 a (M (H w)+2) (N m) wx k cap)
 case first=>
  refine wpIn_wide.2 (wp_region_noPanic ?_);go_region_law
   ((first
    |(refine step_append Qi _ _ _ Qi (Z Qs 0 0) (Z (O (aD (M (H p)) 0)) 1 1) (Z (O (aD k 0)) 1 cap) q Qi Qi xO ?_)
    |(go_simp;go_at_call 178;refine az.mono ?_;rintro e p ⟨rfl,p2,p1,pb,ps⟩;obtain⟨k,cap,q,xO,bD,Pk,d⟩:=aM.o p p2 p1 pb ps;have aN:=Xa (A:=a.drew) aA (ZP (s:=λ_=>True) pb (λb L _=>L)) trivial;have bA:=Xa aN (ZT (s:=λ_=>True) p (Qt #[Y (O (aD (M (H a)+2) 0))] 209)) trivial;clear p2 p1 pb ps)))
  all_goals
   refine NoPanic.normal ?_;gi_wp2_with fail;gi_meet;exact⟨k,cap,d⟩
 case rest=>
  obtain⟨k,cap,hM⟩:=hcut;obtain⟨kl,av⟩:=UD;have af:keyOf V 241 (Qu #[.int J 0,.int J 0,.int J 0,.int J 0])=O kl:=av;have HM:Qn _:=hM;obtain⟨D,hD,ag⟩:=ac5 ((hM.2.2.2.2.2.block (M (H w)+3) (Qk au.o) X).trans H3.o);have aO:=Xa f4 hM.2.2.2.2.2 (by show M (H w)+4≠_;omega);have F4:=Zh f4;have HD:Qn _:=hD;clear hM az hD f4 aA;gi_upto_region 6 with (first|(gi_at_mapUpdate;refine wpListIn_mapUpdate_own _ rfl _ _ _ 239 rfl 241 3 Tryz.xM underlying239 _ (M (H w)+3) 0 D rfl ag Qh _ _ kl rfl rfl af (.lit (.int J 0)) [] (plainElem_int underlying3 rfl) ?_;intro w6 G aJ));have Sb:=Zh (aap au.o aY.o F0.o F1.o F4.o HM.o HD.o av G aJ);clear G aJ ag aO av af f0 f1;go_frame;gi_cut [26] from 15 (λf wx=>f=.func (.func gi) #[] zF/\GZ w wx 0 (List.replicate (N m) 1073741824) (.slice qA (N m) iH) (N m) k cap (M (H a)+2) (M (H a)+1))
  case first=>
   gi_wp2_with fail;gi_meet;exact⟨rfl,Sb.o⟩
  case rest=>
   obtain⟨rfl,ax⟩:=hcut;obtain⟨C,wQ⟩:=aS ax ax.lts;clear ax aL;gi_wp2_with fail;refine Ag bH (gf:=gi) (lb:=zF) rfl egi hseq (aa.o.trans (C.o.below.mono aa.o.size)) rfl
    (λae o1 W=>(∀b,o1 b↔gaO (M (H w)) k (M (H a)+2) (M (H a)+1) b)/\GZ w W (N ae) (mH m (ae.map ah.xs)) (Z qA (N m) iH) (N m) k cap (M (H a)+2) (M (H a)+1))
    (gaO (M (H w)) k (M (H a)+2) (M (H a)+1)) ?_ ?_ ⟨λ_=>Iff.rfl,C.o⟩
    (λx=>{ tmps:=#[.func (.func gi) #[] zF,Z Qs 0 0,Z qA (N m) iH,undef,Y (O (aD (M (H w)) 0)),Y (O (aD (M (H w)+1) 0)),Z Qs 0 0,Y (O (aD (M (H w)+2) 0)),Y (O (aD (M (H w)+4) 0)),x.val,undef,undef,undef,undef,.map (O (M (H w)+3)),u15,u16,u17,u18,u19,u20,u21,u22,u23,u24,u25,.func (.func gi) #[] zF,x.val,u28,u29,u30,u31,u32,u33,u34,u35,u36,u37,u38,u39,u40,u41,u42,u43,u44,u45,u46,u47,u48,u49,u50,u51,u52,u53,u54,u55,u56,u57,u58,u59,u60,u61],defers:=[] }) ?assign ?body ?done
   .intro b L;have h0:=aa.o.size;have hl:=wQ.o;have hf:=C.o.far;rcases L with h|h|h|h|h <;> omega
   .rintro ae o1 A B ⟨hi,h⟩ hk;exact⟨hi,h.keep hk (λb L=>L.imp (hi b).2 (λL=>Qk wQ.o))⟩
   case assign=>
    intro l x W K hK;gi_wp2;exact hK
   case body=>
    rintro l ae x o1 W ⟨tY,hG⟩ ai hx aj bq;have aP:Calls V 143 #[x.val,.slice Qs 0 0] W λe w'=>e=Qv (.slice (O (aD (M (H W)) 0)) 0 0)/\w' = W.alloc (Qt #[] 3):=Vy x ⟨Qs,0,[]⟩ W hx.1 ⟨Qa,λi hi=>by simp at hi⟩ rfl Qa;obtain⟨t,ay⟩:=eX ((W.alloc (Qt #[] 3)).alloc (Qt #[.int J 0,.int J 0,.int J 0,.int J 0] 241));have aQ:=λty=>run_copy_none (P:=V) ((W.alloc (Qt #[] 3)).alloc (Qt #[.int J 0,.int J 0,.int J 0,.int J 0] 241)) 22 22 ty 3 (O (aD (M (H W)+1) 0)) (O (aD (M (H W)) 0)) 4 4 0 0 underlying22 Tryz.zX rfl;have aC:Bw W t:=by rw[<-ay];exact(cZ W _).trans ((cZ _ _).mono (cZ W _).size)
    have z:t.heap[M (H W)+1]? = O (Qt #[I J 0,I J 0,I J 0,I J 0] 241):=by have h:=lT (W.alloc (Qt #[] 3)) (Qt #[I J 0,I J 0,I J 0,I J 0] 241);rw[Xo]at h;rw[<-ay];exact h
    obtain⟨d,j,aH⟩:=aaq (wc:=wc) (sc:=⟨qA,iH,m⟩) aK.o DY.o aW.o aX.o FZ.o tY hG ai hx aj aC aa.o aG.o;rw[ay]at aQ;have aR:=j.look t rfl;have q0:Qp t (aD (M (H W)+1) 0)=O (I J 0):=Jy z rfl;have q1:Qp t (aD (M (H W)+1) 1)=O (I J 0):=Jy z rfl;have q2:Qp t (aD (M (H W)+1) 2)=O (I J 0):=Jy z rfl;have q3:Qp t (aD (M (H W)+1) 3)=O (I J 0):=Jy z rfl;have bB:=hG.bk;have bC:=j.bn;have aT:=j.bs;have aU:=j.box;have aV:=j.ptr;have lW:=Zh d;unfold Cq at aR;clear z aC hG j hx aj bq ai tY d;obtain⟨zQ,mo,uu⟩:=x;unfold ah.val at*;simp only at*;gi_wp2_with (refine⟨trivial,rfl,CallsIn.inRound l (ZU.2 (aP.mono ?_))⟩;rintro e p ⟨rfl,rfl⟩);have HN:Qn (∀b,b=k∨b<M (H w)+5->b≠M (H a)+2/\b≠M (H a)+1):=λb L=>Qk C.o.far;refine xy (S:=λx=>Kept (λb=>b≠M (H a)+2/\b≠M (H a)+1) t x) Qd Qd (λ⟨_,_,h⟩=>h) ?_;have hS:Kept (λb=>b≠M (H a)+2/\b≠M (H a)+1) t t.drew:=⟨rfl,rfl,rfl,Za _,λ_ _ _=>rfl⟩;refine wT 0 (Z (O (aD k 0)) 1 cap) hS (λx hx=>?_) ?_
    .have e:=Xa aU hx (HN.o _ (.inr (show M (H w)+2<_ by omega)));go_simp
    refine wt 1 (I J 0) hS ?_;refine wt 2 (Y (O (aD k 0))) hS ?_;refine wT 3 (Y (O (aD (M (H a)+2) 0))) hS (λx hx=>?_) ?_
    .have e:=Xa aV hx (HN.o _ (.inl rfl));go_simp
    refine wt 4 (Z zQ (N uu) mo) hS ?_;refine wT 5 (Z qA (N m) iH) hS (λx hx=>?_) ?_
    .have e:=Xa aT hx (HN.o _ (.inr (show M (H w)+1<_ by omega)));go_simp
    refine wR 6 λK hK=>?_;go_simp;refine aH.mono ?_;rintro e W7 ⟨⟨u7,rfl⟩,r1,r3,r4⟩;refine hK.o _ _ r3 λhS=>?_;clear hK K;refine wD ?_;exact lW.o W7 r1 r3 r4
   case done=>
    rintro ys o' t aI ⟨tY,hG⟩ bu bz hD;have hc:=hG.box;have HG:=Zh hG;have aF:Qn (ys.map ah.xs=rows):=aI;clear hG aI bu bz tY;gi_wp2;have hf:=C.o.far;have hl:=wQ.o;have d:=HG.o.keep (ZQ (s:=λb=>b≠M (H wc)) t (.deferred Qs) (λh=>h rfl)) (λb L e=>by rcases L with (h|h|h|h|h)|h <;> omega);rw[aF.o,show (N ys)=N rows by rw[<-aF.o,ZH]]at d;refine⟨Qa,.inl ⟨_,_,rfl,Xc hD,?_⟩⟩;exact⟨_,results_tmp rfl _ _ _,k,cap,M (H a)+2,M (H a)+1,rfl,X,X,X,d.ptr,d.g,d.s,d.below⟩
end
section
def Gy{xs:Qx}(h:w.ownsRow base e 1 v n (xs.map (Value.int J)))(hl:N xs<=1152921504606846976) :
  ∃a:ah,v=a.val/\a.xs=xs/\(qV e).At a w/\∀b,bH.blk a=O b->base<=b:=by
 obtain⟨a,f,i,p,q⟩:=kF h hl;have j:N xs=n:=by have:=h.1;simpa using this
 refine⟨a,f,i,⟨p,?_⟩,q⟩;rw[<-f,i,j];refine⟨h.1,?_⟩;rcases h.2 with k|⟨g,cap,d,l,r,m⟩
 .exact .inl k
 .exact .inr ⟨g,cap,d,l,ZB _,m⟩
attribute [local go_sem] Oper.semAt_some
def OT(bi bk bs gi:Nat)(zF:Array Qm)(sc:ah)(rows:Qy (Qx))(w0:U)(hci:Qp w0 (aD bi 0)=O (.func (.func gi) #[] zF))(hck:Qp w0 (aD bk 0)=O (Z Qs 0 0))(hcs:Qp w0 (aD bs 0)=O sc.val)
  (hseq:Seq bH V gi zF rows w0) (egi:∀args w,(callFunc gi args).run V w=.ok (.enter gi args) w) (hsc:sc.At w0) (hsl:N sc.xs<=4) (hlen:N rows<=1000) (OQ:∀r∈rows,bP sc.xs (N r)=T) (hsm:∀r∈rows,∀v∈r,xL v) (hbig:∀n,∀s∈mH sc.xs (rows.take n),xL s) :
  Seq (qV 3) V 139 #[Y (O (aD bi 0)),Y (O (aD bk 0)),Y (O (aD bs 0))] [(N rows:Int)::mH sc.xs rows] w0:=by
 intro l Jq W o hW ho hJ hY h0;obtain⟨c1,c2,c3⟩:=aiq hW hci hck hcs;have B:=K4 gi zF sc rows w0 W hW hseq egi (Q8 hW hsc) hsl hlen OQ hsm hbig;have Ff:Qn (N (mH sc.xs rows)=N sc.xs):=Co _ _ _ Qa;obtain⟨HY,HO,HJ,DY,L⟩:=EI hY ho hJ hsl hlen;clear hY ho hW hJ hseq egi hlen OQ hsm hsc hci hck hcs hsl hbig;obtain⟨qA,iH,qi⟩:=sc;unfold ah.val at*;simp only at*;generalize mH qi rows=SS,N rows=RN at*;refine(ZU (n:=0)).1 (callsIn_of_wp func139 rfl trivial ?_ rfl);simp only[ntmps139,ZZ,ZK,Z0,Nat.reduceAdd,Nat.reduceSub,Z4,Z5,Z6,Z7,Z8,Z9];gi_wp2;refine⟨trivial,rfl,ZU.2 (B.mono ?_)⟩;rintro e Wg ⟨gr,cap,gb,sb,rfl,P,Q,R,hp,hg,hs,u⟩;clear B;have au:=HJ.o _ _ _ _ h0 (ZP (s:=λb=>o b∨b<M (H W)) u (λb a _=>a));have p:Qn (M (H W)<=gr/\M (H W)<=gb/\M (H W)<=sb):=⟨P,Q,R⟩;obtain⟨FZ,HP,S,HS⟩:=sU u hp hg hs;clear u hp hg hs P Q R c1 c2 c3 h0;gi_wp2;gi_loopw [12] (λi wr=>∃k:Nat,k<=1/\i=I J k/\∃ys z,Qn (ys.map ah.xs=[(RN:Int)::SS].take k)/\Jq ys z wr/\Qn (Kept (λb=>¬o b) Wg wr)/\Qn (∀b,z b->o b∨(M (H Wg)<=b/\b<M (H wr))))
  (λi _=>1-(intOf i).toNat)
 case atStart=>exact⟨0,ZB _,rfl,[],o,rfl,au,ZO _ _,λb h=>.inl h⟩
 case round=>
  obtain⟨k,hk,rfl,ys,z,aa,ae,A,f⟩:=hrel;by_cases aI:k<1
  .obtain rfl:k=0:=X
   have d:∀b,M (H W)<=b->¬o b:=λb a h=>Qk ((HO.o b h).2);have C:=(A.o.block _ (ZV.1 S.o).1 (d _ p.o.2.1)).trans S.o;have q:=(A.o.block _ (ZV.1 HS.o).1 (d _ p.o.2.2)).trans HS.o;have hci:=Xa HP.o A.o (d _ p.o.1);have j:=Gx gb sb ⟨Qs,0,[]⟩ RN SS wr (by rw[Ff.o];exact C) q ⟨Qa,λi hi=>by simp at hi⟩ (λ_=>rfl) Qa (by rw[Ff.o];exact DY.o) (Qk L.o);have av:Qn (N ((RN:Int)::SS)<=1000):=by have:=Ff.o;have:=DY.o;show _<=_;simp;omega
   clear C q d;gi_wp2;refine⟨trivial,rfl,ZU.2 (j.mono ?_)⟩;rintro e w3 ⟨v3,rfl,m,y⟩;clear j;obtain⟨iv,rfl,oq,jT,Gd⟩:=Gy m (by have:=av.o;exact ZN this Qc);have aF:=y.size;have t:∀s,Kept s wr w3:=λs=>ZP y (λb a _=>a);have q:=A.o.size;have aG:=FZ.o.size;have D:=HJ.o _ _ _ _ ae (t _);have G:∀b,z b->b<M (H wr):=λb a=>by
    rcases f.o b a with h|h
    .have:=(HO.o b h).2;omega
    .exact h.2
   have ax:ys=[]:=by have:=aa.o;simpa using this
   subst ax;have K:([]++[iv]).map (qV 3).key <+: [(RN:Int)::SS]:=by show [iv.xs] <+: _;rw[oq];exact List.prefix_refl _
   obtain⟨fn,tmps,g,af,hy,ag⟩:=HY.o [] iv z w3 D K jT (λb a=>⟨λh=>Ql (G b h) (Gd b a),.inr (Qk (Gd b a))⟩) X;obtain⟨az,aA⟩:=aS oq Gd;have U1:Qn (∀b,bH.blk iv=O b->b<M (H w3)):=λb a=>bH.inn jT.1 a;have qN:=Zh t;clear m y t K jT oq Gd D G hci;obtain⟨mh,eQ,iR⟩:=iv;have ay:(Instr.yield l #[Z mh (N iR) eQ]).run V w3=.ok (.round l fn tmps g af) w3:=hy;unfold ah.val;simp only;clear hy;gi_wp2;refine⟨rfl,ag.mono ?_⟩;rintro e W4 ⟨rfl,o2,ai,aj,ak⟩;obtain⟨aB,Ob,aC⟩:=jX ai aj ak;clear ai aj ak ag ay;gi_wp2;go_roundw
   case rel=>
    have aH:=Ob.o.size;refine⟨1,X,Qa,[⟨mh,eQ,iR⟩],o2,?_,aB.o,?_,?_⟩
    .show [iR]=_
     have h:=az.o;rw[h];rfl
    .refine(A.o.trans (qN.o _)).trans' Ob.o (λb a h h'=>?_);rcases f.o b h' with h'|h'
     .exact h h'
     .omega
    .intro b a;rcases aC.o b a with h|h|⟨h,_⟩
     .rcases f.o b h with h|h
      .exact .inl h
      .exact .inr ⟨h.1,X⟩
     .exact .inr ⟨X,h.2⟩
     .have h1:=aA.o b h;have h2:=U1.o b h;exact .inr ⟨X,X⟩
   case measure=>simp[intOf]
  .obtain rfl:k=1:=X
   gi_wp2;go_end0;refine⟨⟨_,rfl⟩,ys,z,aa.o,ae,(ZP FZ.o (λb a _=>a)).trans' A.o (λb _ h=>h),λb a=>?_⟩;rcases f.o b a with h|h
   .exact .inl h
   .exact .inr ⟨Qk FZ.o.size,h.2⟩
end
structure fT(ts:Qy af)(q:ae)(pl:Qy ai)(w:U)(ps:Qy aC):Prop where
 eq:fH ts q pl (N ps)=O (ps.map aC.d)
 ok:∀i,i<N ps->(E ps i bG).Ok w
 small:∀i,i<N ps->(E ps i bG).sources<2 ^ (N q.src.xs)/\(E ps i bG).clauses<2 ^ (N q.wh)
def fT.nil(ts:Qy af)(q:ae)(pl:Qy ai)(w:U):fT ts q pl w []:=⟨rfl,λi a=>absurd a Qa,λi a=>absurd a Qa⟩
theorem KA{i:Nat}(hi:i<N (ps++[p])):(i<N ps/\E (ps++[p]) i bG=E ps i bG)∨(i=N ps/\E (ps++[p]) i bG=p):=by grind
def Pv(w:U):bG.Ok w:=⟨⟨by simp[bG],λi a=>absurd a (by simp[bG])⟩,Za _,ZB _,ZB _,ZB _,ZB _⟩
def fT.ins(h:fT ts q pl w ps)(n:ai)(hm:∀m,m<N (aJ n)->0<=E (aJ n) m 0/\E (aJ n) m 0<(N ps:Int)) :
  ∀i,i<N (dL n ps)->(E (dL n ps) i bG).Ok w/\(E (dL n ps) i bG).sources<2 ^ (N q.src.xs)/\(E (dL n ps) i bG).clauses<2 ^ (N q.wh):=λi b=>by
 rw[rO]at b;have e:E (dL n ps) i bG=E ps (E (aJ n) i 0).toNat bG:=by unfold dL;simp[List.getD,b]
 have d:=hm i b;rw[e];have a:(E (aJ n) i 0).toNat<N ps:=X;exact⟨h.ok _ a,h.small _ a⟩
def fT.step(h:fT ts q pl w ps){n:ai}(hn:E pl (N ps) nz=n)(hm:∀m,m<N (aJ n)->0<=E (aJ n) m 0/\E (aJ n) m 0<(N ps:Int))(hf:(jI n.kind (dL n ps)&&iK ts q n (E (dL n ps) 0 bG).d (E (dL n ps) 1 bG).d)=T)
  (hd:p.d=lG ts q n (E (dL n ps) 0 bG).d (E (dL n ps) 1 bG).d) (hs:p.sources<2 ^ (N q.src.xs)) (hc:p.clauses<2 ^ (N q.wh)) (hk:p.Ok W) (ho:p.order=n.co∨p.order=(E (dL n ps) 0 bG).order∨p.order=⟨Qs,0,[]⟩) (hco:n.co.At w) (hcap:N n.co.xs<=n.co.cap) :
  fT ts q pl w (ps++[p]):=by
 have a:p.order.At w/\N p.order.xs<=p.order.cap:=by
  rcases ho with e|e|e
  .rw[e];exact⟨hco,hcap⟩
  .rw[e];by_cases f:0<N (dL n ps)
   .have:=(h.ins n hm 0 f).1;exact⟨this.order,this.cap⟩
   .have g:E (dL n ps) 0 bG=bG:=by simp[List.getD,f]
    rw[g];exact⟨(Pv w).order,(Pv w).cap⟩
  .rw[e];exact⟨⟨Qa,λi b=>absurd b Qa⟩,Za _⟩
 refine⟨?_,λi b=>?_,λi b=>?_⟩
 .rw[ZG]
  show (fH ts q pl (N ps)).bind _=_;rw[h.eq,hn];show mg ts q n _=_;rw[step_eq,Zb hf,Q5,<-hd];rfl
 .rcases KA b with⟨hl,e⟩|⟨_,e⟩ <;> rw[e]
  .exact h.ok i hl
  .exact⟨a.1,a.2,hk.sources,hk.clauses,hk.size,hk.cost⟩
 .rcases KA b with⟨hl,e⟩|⟨_,e⟩ <;> rw[e]
  .exact h.small i hl
  .exact⟨hs,hc⟩
def fT.fail(h:fT ts q pl w ps){n:ai}(hn:E pl (N ps) nz=n)(hl:N ps<N pl)(hp:dD pl=T)(hf:(jI n.kind (dL n ps)&&iK ts q n (E (dL n ps) 0 bG).d (E (dL n ps) 1 bG).d)=F):jm ts q pl=none:=by
 have e:fH ts q pl (N ps+1)=none:=by show (fH ts q pl (N ps)).bind _=_;rw[h.eq,hn];show mg ts q n _=_;rw[step_eq,Zg (by rw[hf];simp)]
 unfold jm;rw[Zg (by rw[hp];simp),BV e (N pl) X];rfl
def fT.last(h:fT ts q pl w ps)(hl:N ps=N pl)(hp:dD pl=T) :
  jm ts q pl=if (eT (E pl (N pl-1) nz).kind&&gX q (E pl (N pl-1) nz).kind (E ps (E pl (N pl-1) nz).l.toNat bG).order.xs)=T then O (ps.map aC.d) else none:=by unfold jm;rw[Zg (by rw[hp];simp),<-hl,h.eq];simp only[Option.bind_some];have e:(E (ps.map aC.d) (E pl (N ps-1) nz).l.toNat pz)=(E ps (E pl (N ps-1) nz).l.toNat bG).d:=rP aC.d ps _ bG;rw[e];rfl
theorem fT.nine(h:fT ts q pl w ps)(hl:N ps=N pl)(h1:1<=N pl)(hk:(E pl (N pl-1) nz).kind=9):q.group=false:=by
 have e:N ps=(N pl-1)+1:=X;have g:=h.eq;rw[e]at g;have a:(fH ts q pl (N pl-1)).bind (mg ts q (E pl (N pl-1) nz))=O (ps.map aC.d):=g
 cases h4:fH ts q pl (N pl-1) with
 |none=>rw[h4]at a;cases a
 |some ds =>
  rw[h4]at a;have f:mg ts q (E pl (N pl-1) nz) ds=O (ps.map aC.d):=a;unfold mg at f;split at f
  .rename_i b
   rw[Q6]at b;have b:=b.2;unfold iK at b;grind
  .cases f
def Y7(f:ay)(ts:Qy af)(q:ae)(po:PN)(pc:Nat)(pl:Qy ai)(w0 w:U)(hb0:Bw w0 w)(ok:Ok ts q)(hf:f.At ts q w)(hn0:jD w0 po pl)(hsh:bM w 0)(hcap:∀i,i<N pl->(E pl i nz).co.xs.length<=(E pl i nz).co.cap)
  (hgr:q.group=F->bP q.ord.xs (N q.aU.xs)=T) (alT:N q.ord.xs<=1000) :
  Calls V 64 #[Qu (f.cells ts q),Z po (N pl) pc] w (λe w'=>Bw w w'/\((∃ds,jm ts q pl=O ds/\∃(ao:PN) (cap:Nat) (ps:Qy aC),e=Qv (Qw #[Z ao (N ps) cap,Qr T])/\PartsAt w' ao ps/\ps.map aC.d=ds/\(∀a,ao=O a->M (H w)<=a.block)/\∀i,i<N ps->(E ps i bG).Ok w0)∨(jm ts q pl=Qs/\e=Qv (Qw #[Z Qs 0 0,Qr F])))):=by
 obtain⟨LK,LG⟩:=eY (jm ts q pl);rw[<-LG];obtain⟨v0,v1,v2,v3,v4,v5,v6,v7,v8,v9,bV,bW,bX,bZ,bY,cu,cz,cK,cO,cZ,df,-⟩:=XY f ts q;have bB:Qn (q.cells=#[v0,v1,v2,v3,v4,v5,v6]):=by show _=_;rw[bY,cu,cz,cK,cO,cZ,df];rfl
 clear bY cu cz cK cO cZ df;obtain⟨w1,dh,u,di⟩:=bC w ((f.cells ts q)) 82;have C:=u;have lu:=di;obtain⟨iZ,jJ,kT,jY,jZ,kU,kV,qG,qE,qF,jB,lK,jC⟩:=lu.k13 (by rw[bZ];rfl);have D:=hn0.below hb0;have aI:=Zh hb0;have dM:=hd hn0;clear hb0 hn0;have fZ:=D.1;have R:=Ot po pc pl w1 (D.below C) (hsh.below C);rw[bZ]at dh;rw[bZ];obtain⟨Cz,HC⟩:=aS bZ C;clear di lu u
 cases hip:dD pl with
 |false =>
  have S:=Zh (by  rw[LG];unfold jm;rw[Zb hip]:LK=Qs)
  rw[hip]at R;clear hip LG hf D hsh hcap hgr ok Cz;go_enter func64,ntmps64;go_wp2_with fail;refine R.mono ?_;rintro e w2 ⟨rfl,K⟩;have HB:=Zh (az HC.o K);clear K;go_wp2;go_ret2;exact⟨HB.o,.inr ⟨S.o,rfl⟩⟩
 |true =>
 rw[hip]at R;obtain⟨eG,gu,dm⟩:=Y3 hip;obtain⟨i0,hi,dn,dw,dx⟩:=Xl Tryz.II;have bD:Qn (∀x:U,M (H w1)<=M (H x)->∃w',(Instr.makeSlice 98 (.int J 0) (.int J (N pl:Int))).run V x=.ok (.slice (O (aD (M (H x)) 0)) 0 (N pl)) w'/\w'.ownsRow (M (H w1)) 102 6 (.slice (O (aD (M (H x)) 0)) 0 (N pl)) 0 []/\Bw x w'):=λx k=>by obtain⟨w',h1,h2,h3⟩:=run_make_own (P:=V) x (M (H w1)) 98 102 i0 _ 6 underlying98 hi dn dw J J (N pl) (by rw[dx];omega) Qh k;exact⟨w',h1,h2,(Xe (s:=λ_=>True) h3 (λr e=>by cases e)).below (Za _) (λ_ _=>trivial)⟩
 obtain⟨aV,aW,dz,HF⟩:=sU hip dm LG hf;have HN:Qn _:=D;have bE:Qn _:=hsh;obtain⟨aH,si,zJ,dA⟩:=sU hcap hgr ok alT;have yA:=hd C;have oI:=Zh C.size;clear hip dm LG hf D hsh hcap hgr ok alT bZ C hi dn dw dx;go_enter func64,ntmps64;go_wp2_with fail;refine R.mono ?_;rintro e w2 ⟨rfl,K⟩;clear R;obtain⟨w3,eH,ag,dB⟩:=bD.o w2 K.size;have dN:=hd ag;have dO:=Zh (az K dB);clear K dB ag bD dh;go_wp2;clear eH;go_loopw [6,21] (λpv iv wr=>∃ps:Qy aC,N ps<=N pl/\iv=I J (N ps:Int)/\Qn (wr.ownsRow (M (H w1)) 102 6 pv (N ps) (ps.flatMap aC.list))/\Qn (fT ts q pl w0 ps)/\Qn (Bw w1 wr)) (λ_ iv _=>N pl-(intOf iv).toNat)
 case atStart=>exact⟨[],ZB _,rfl,dN.o,fT.nil _ _ _ _,dO.o⟩
 case round=>
  obtain⟨ps,eO,rfl,aX,Lj,jE⟩:=hrel;have G:=az yA.o jE.o;obtain⟨pa,aj,rfl,aY⟩:=xY aX.o X (λi hi=>(Lj.o.ok i hi).below (az aI.o G));by_cases Q:N ps<N pl
  .obtain⟨nb,no,aZ,m0,m1,m2,m3,m4,m5,m6,dC,dE⟩:=(jD.below G HN.o).2 (N ps) Q;subst aZ;obtain⟨-,-,-,-,-,-,-,-,-,-,z,aB⟩:=HN.o.2 (N ps) Q;obtain⟨-,-,-,-,-,-,-,-,-,-,-,Y8⟩:=dM.o.2 (N ps) Q;have W:=aH.o (N ps) Q;have KC:=aW.o (N ps) Q;obtain⟨n,D⟩:=eX (E pl (N ps) nz)
   rw[D]at m0 m1 m2 m3 m4 m5 m6 dC dE z aB Y8 W KC;obtain⟨u,A,B⟩:=BX KC;have U1:Qn (∀x,Bw w x->Calls V 105 #[Qu n.cells] x λe w'=>∃b,e=Qv (Z (O (aD b 0)) (N (aJ n)) 2)/\IntsAt w' (O (aD b 0)) (aJ n)/\M (H x)<=b/\Bw x w'):=λx k=>wF n x (Jd k bE.o) u A;have aK:=Lj.o.ins n B;have VI:Qn (∀(x:U) (bs:Nat) (v:Qm),Bw w x->x.ownsRow bs 102 6 v (N (dL n ps)) ((dL n ps).flatMap aC.list)->∃a c,v=Z a (N (dL n ps)) c/\PartsAt x a (dL n ps)):=λx _ v k ho=>xY ho (by rw[rO];have:=nR n;omega) (λi hi=>(aK i hi).1.below (az aI.o k));have bF:Qn (∀(x:U) (a:PN) (c:Nat),PartsAt x a (dL n ps)->Cb 106 #[I J n.kind,Z a (N (dL n ps)) c] x (Qr (jI n.kind (dL n ps)))):=λx a c h=>Fa n.kind a c (dL n ps) x h;have bH:Qn (∀(x:U) (a:PN) (c:Nat),Bw w x->PartsAt x a (dL n ps)->Cb 107 #[Qu #[v0,v1,v2,v3,v4,v5,v6,v7,v8,v9,bV,bW,bX],Qu n.cells,Z a (N (dL n ps)) c] x (Qr (iK ts q n (E (dL n ps) 0 bG).d (E (dL n ps) 1 bG).d))):=λx a c k h=>by rw[<-Cz.o];exact Y6 f ts q n a c (dL n ps) x zJ.o (HF.o.below k) (Q8 k z) (Q8 k aB) W h u A (by rw[rO,lD])
   have aL:Qn (∀(x:U) (a:PN) (c:Nat),Bw w x->PartsAt x a (dL n ps)->iK ts q n (E (dL n ps) 0 bG).d (E (dL n ps) 1 bG).d=T->jI n.kind (dL n ps)=T->Calls V 108 #[Qu #[v0,v1,v2,v3,v4,v5,v6,v7,v8,v9,bV,bW,bX],Qu n.cells,Z a (N (dL n ps)) c] x λe w'=>∃p:aC,e=Qv (Qu p.cells)/\fT ts q pl w0 (ps++[p])/\Bw x w'):=λx a c k h dK fU=>by rw[<-Cz.o];obtain⟨eP,eQ⟩:=MF KC dK;refine(AJ f ts q n a c (dL n ps) x zJ.o (HF.o.below k) (Q8 k z) (Q8 k aB) W h u A (by rw[rO,lD]) eP eQ (λi hi=>(aK i hi).2)).mono ?_;rintro e w' ⟨p,he,hd,eU,hs,hc,ho,hb⟩;exact⟨p,he,Lj.o.step D B (by rw[fU,dK];rfl) hd hs hc eU ho Y8 W,hb⟩
   have bI:Qn (∀kb fb,kb=jI n.kind (dL n ps)->fb=iK ts q n (E (dL n ps) 0 bG).d (E (dL n ps) 1 bG).d->(kb&&fb)=F->LK=Qs):=λkb fb e1 e2 h=>by rw[dz.o];exact Lj.o.fail D Q aV.o (by rw[<-e1,<-e2];exact h)
   have dP:Qn (∀m,m<N (aJ n)->(dL n ps).take (m+1)=(dL n ps).take m++[E ps (E (aJ n) m 0).toNat bG]):=λm hm=>Y4 hm;obtain⟨eZ,fe,fo⟩:=jX (rO n ps) (nR n) B;obtain⟨KB,bf⟩:=eY (jI n.kind (dL n ps));obtain⟨FB,bg⟩:=eY (iK ts q n (E (dL n ps) 0 bG).d (E (dL n ps) 1 bG).d);have bJ:=Zh (bI.o KB FB bf bg);rw[<-bf]at bF aL;rw[<-bg]at bH aL;clear bf bg bI B aK KC u A dC dE z aB Y8 W D;generalize dL n ps=IV,aJ n=L at*;obtain⟨nk,nl,nr,ns,⟨ca,cc,cl⟩,key,⟨da,dc,co⟩⟩:=n;simp only[ai.cells,ah.val]at*;obtain⟨l,bn⟩:=eY (wr);subst bn;obtain⟨wb,aF,kb,gn⟩:=bC l #[I J nk,I J nl,I J nr,I J ns,Z ca (N cl) cc,I J key,Z da (N co) dc] 138;obtain⟨n0,n1,n2,n3,n4,n5,n6⟩:=gn.k7;have dQ:=U1.o wb (az G kb);have Ve:=Zh kb;have t:=hd gn;have au:Qn _:=aY;have dR:Qn _:=aX;go_wp2_with fail;refine dQ.mono ?_;rintro e w4 ⟨ib,rfl,dF,gy,fq⟩;have rf:=hd fq;have dS:Qn _:=dF;have gm:=dF.1;go_wp2;go_loopw [9,28] (λqv jv wx=>∃m:Nat,m<=N L/\jv=I J (m:Int)/\Qn (wx.ownsRow (M (H w4)) 102 6 qv (N (IV.take m)) ((IV.take m).flatMap aC.list))/\Qn (Bw w4 wx)) (λ_ jv _=>N L-(intOf jv).toNat)
   case atStart=>exact⟨0,ZB _,rfl,Xm _ _ _ _,Q9 _ _⟩
   case round=>
    obtain⟨m,hm,rfl,HQ,vz⟩:=hrel;have dU:=az Ve.o (az rf.o vz.o);by_cases Tu:m<N L
    .obtain⟨gz,gB,e',fu⟩:=Q3 (Q8 vz.o dS.o) Tu
     cases e';have bK:=fu m Tu;rw[ZC]at bK;obtain⟨bq,dG⟩:=fo.o m Tu;have RU:=Zh (dP.o m Tu);obtain⟨j,hj⟩:=XR bq;rw[hj]at bK dG RU;rw[Xv]at RU;have dV:j<N ps:=X;obtain⟨⟨pb,y,bu,c0,c1,c2,c3,c4,c5⟩,-⟩:=(PartsAt.below dU au.o).2 j dV;subst bu;obtain⟨p,hp⟩:=eY (E ps j bG);rw[<-hp]at c0 c1 c2 c3 c4 c5 RU;obtain⟨qa,qm,qc,rfl⟩:=Xh HQ.o;have bL:=vz.o.size;obtain⟨v',w5,xO,tQ,fw,⟨xa,xm,xc,rfl⟩,fA⟩:=yg wr (M (H w4)) (Z qa qm qc) (IV.take m) HQ.o (by rw[XT];have:=fe.o;omega) bL p 98;rw[<-RU.o]at tQ;have Cv:Qn _:=tQ;have ko:=Zh (vz.o.trans (fw.below bL (λb hb e=>Qk ((Xg HQ.o e).1))));obtain⟨pk,ss,cs,⟨oa,xQ,ox⟩,pz,pt⟩:=p;simp only[aC.cells,ah.val]at*;go_wp2_with (first|(at_builtin;refine Xz rfl (.tmp 32) (.tmp 37) 98 rfl (Z qa qm qc) (Z (O (aD (M (H wr)) 0)) 1 1) (Z xa xm xc) w5 rfl rfl xO ?_));go_wp2;go_roundw
     case rel=>exact⟨m+1,X,Qe,Cv.o,ko.o⟩
     case measure=>exact XK
    .obtain rfl:m=N L:=X
     rw[XQ (by rw[eZ.o];exact Za _)]at HQ;obtain⟨w5,uC⟩:=eY (wr);subst uC;have aM:=az rf.o vz.o;have bN:=az Ve.o aM;have bO:=az jE.o bN;obtain⟨qa,qc,rfl,dH⟩:=VI.o w5 _ _ (az yA.o bO) HQ.o;have dW:=bF.o w5 qa qc dH;have n0:Qp w5 (aD (M (H l)) 0)=O (I J nk):=cB aM (Zl t.o 0);have dX:Qn _:=dH;obtain⟨fB,fC,fD⟩:=jX bO aM bN;go_wp2_with fail;refine dW.mono ?_;rintro e w6 ⟨rfl,aG⟩;obtain⟨Y9,KD,fE⟩:=jX (az fB.o aG) (az fC.o aG) (az fD.o aG);have bQ:Qn _:=PartsAt.below aG dX.o
     cases KB with
     |false =>
      obtain⟨S,nH⟩:=aS (bJ.o rfl) (az yA.o Y9.o);go_wp2;go_ret2;exact⟨nH.o,.inr ⟨S.o,rfl⟩⟩
     |true =>
      have dY:=bH.o w6 qa qc (az yA.o Y9.o) bQ.o;obtain⟨f0,f1,f2,f3,f4,f5,f6,f7⟩:=kS Y9.o iZ jJ kT jY jZ kU kV qG;obtain⟨f8,f9,fF,fG,fH⟩:=jW Y9.o qE qF jB lK jC;have n0:Qp w6 (aD (M (H l)) 0)=O (I J nk):=cB KD.o (Zl t.o 0);have n1:Qp w6 (aD (M (H l)) 1)=O (I J nl):=cB KD.o (Zl t.o 1);have n2:Qp w6 (aD (M (H l)) 2)=O (I J nr):=cB KD.o (Zl t.o 2);have n3:Qp w6 (aD (M (H l)) 3)=O (I J ns):=cB KD.o (Zl t.o 3);have n4:Qp w6 (aD (M (H l)) 4)=O (Z ca (N cl) cc):=cB KD.o (Zl t.o 4);have n5:Qp w6 (aD (M (H l)) 5)=O (I J key):=cB KD.o (Zl t.o 5);have n6:Qp w6 (aD (M (H l)) 6)=O (Z da (N co) dc):=cB KD.o (Zl t.o 6);go_wp2_with fail;refine dY.mono ?_;rintro e w7 ⟨rfl,qy⟩;obtain⟨ak,Ow,fI⟩:=jX (az Y9.o qy) (az KD.o qy) (az fE.o qy);have dZ:Qn _:=PartsAt.below qy bQ.o
      cases FB with
      |false =>
       obtain⟨S,nH⟩:=aS (bJ.o rfl) (az yA.o ak.o);go_wp2;go_ret2;exact⟨nH.o,.inr ⟨S.o,rfl⟩⟩
      |true =>
       have ed:=aL.o w7 qa qc (az yA.o ak.o) dZ.o (by trivial) (by trivial);obtain⟨f0,f1,f2,f3,f4,f5,f6,f7⟩:=kS ak.o iZ jJ kT jY jZ kU kV qG;obtain⟨f8,f9,fF,fG,fH⟩:=jW ak.o qE qF jB lK jC;have n0:Qp w7 (aD (M (H l)) 0)=O (I J nk):=cB Ow.o (Zl t.o 0);have n1:Qp w7 (aD (M (H l)) 1)=O (I J nl):=cB Ow.o (Zl t.o 1);have n2:Qp w7 (aD (M (H l)) 2)=O (I J nr):=cB Ow.o (Zl t.o 2);have n3:Qp w7 (aD (M (H l)) 3)=O (I J ns):=cB Ow.o (Zl t.o 3);have n4:Qp w7 (aD (M (H l)) 4)=O (Z ca (N cl) cc):=cB Ow.o (Zl t.o 4);have n5:Qp w7 (aD (M (H l)) 5)=O (I J key):=cB Ow.o (Zl t.o 5);have n6:Qp w7 (aD (M (H l)) 6)=O (Z da (N co) dc):=cB Ow.o (Zl t.o 6);go_wp2_with fail;refine ed.mono ?_;rintro e w8 ⟨p,rfl,fJ,JN⟩;have ek:=az fI.o JN;have aN:=az ak.o JN;have bR:=XM dR.o ek;obtain⟨v',wz,bz,fK,fM,⟨xa,xm,xc,rfl⟩,fA⟩:=yg w8 (M (H w1)) (Z pa (N ps) aj) ps bR X aN.size p 98;have eu:Qn _:=fK;obtain⟨fO,fP⟩:=aS fJ (aN.trans (fM.below aN.size (λb hb e=>Qk ((Xg bR e).1))));have yV:Qn (N (ps++[p])=N ps+1):=by show _=_;simp
       have gp:Qn (∀x:Int,x=(N (ps++[p]):Nat)->Value.int J x=I J (N (ps++[p]):Int)):=λx h=>by rw[h]
       obtain⟨pk,ss,cs,⟨oa,xQ,ox⟩,pz,pt⟩:=p;simp only[aC.cells,ah.val]at bz;simp only[aC.cells,ah.val];go_wp2_with (first|(at_builtin;refine Xz rfl (.tmp 52) (.tmp 57) 98 rfl (Z pa (N ps) aj) (Z (O (aD (M (H w8)) 0)) 1 1) (Z xa xm xc) wz rfl rfl bz ?_));clear bz;go_wp2;go_roundw
       case rel=>
        refine⟨ps++[aC.mk pk ss cs ⟨oa,xQ,ox⟩ pz pt],by rw[yV.o];omega,?_,eu.o,fO.o,fP.o⟩;rw[yV.o];go_num
       case measure=>exact XK
  .have aO:N ps=N pl:=X
   obtain⟨N1,gD⟩:∃N1,N pl=N1+1:=⟨N pl-1,X⟩;have eN:N pl-1=N1:=X;have bS:N1<N pl:=X;obtain⟨nb,no,aZ,m0,m1,m2,m3,m4,m5,m6,-,-⟩:=(jD.below G HN.o).2 N1 bS;subst aZ;have KC:=aW.o N1 bS;have av:=Lj.o.last aO aV.o;have aP:Qn ((E pl N1 nz).kind=9->q.group=F):=λh9=>Lj.o.nine aO eG (by rw[eN];exact h9);rw[<-dz.o,eN]at av;obtain⟨dI,fQ⟩:=aS Lj.o.ok Lj.o.ok;have eB:Qn (∀a,pa=O a->M (H w)<=a.block):=λa e=>by subst e;have:=(Xg aX.o (g:=a.block) rfl).1;have:=oI.o;omega
   obtain⟨n,D⟩:=eX (E pl N1 nz);rw[D]at m0 m1 m2 m3 m4 m5 m6 KC aP av;have vB:Qn _:=@Ov n N1 KC;obtain⟨l,bn⟩:=eY (wr);subst bn;have ax:Qn (∀x,Cb 109 #[I J n.kind] x (Qr (eT n.kind))):=λx=>(vN n.kind x).mono (λe w' h=>⟨h.1,by rw[h.2];exact Q9 _ _⟩);have aQ:Qn (∀(o:ah) (x:U),Bw w x->o.At x->N o.xs<=o.cap->Cb 110 #[Qu #[v0,v1,v2,v3,v4,v5,v6],I J n.kind,Z o.ad (N o.xs) o.cap] x (Qr (gX q n.kind o.xs))):=λo x k ho fV=>by rw[<-bB.o];exact vS q n.kind o.ad o.cap o.xs x (HF.o.query.below k) ⟨λh9=>si.o (aP.o h9),dA.o⟩ ho fV
   have Fe:=Zh av;have eD:Qn (N ps=N1+1):=by show _=_;omega
   have gq:¬(N ps:Int)<(N1:Int)+1:=X;have au:Qn _:=aY;clear av D KC eN aP aY aW aH bE HF si aV dA bB aO eO;obtain⟨nk,nl,nr,ns,⟨ca,cc,cl⟩,key,⟨da,dc,co⟩⟩:=n;simp only[ai.cells,ah.val]at*;obtain⟨wb,aF,kb,gn⟩:=bC l #[I J nk,I J nl,I J nr,I J ns,Z ca (N cl) cc,I J key,Z da (N co) dc] 138;obtain⟨n0,n1⟩:=gn.k2;have Ve:=hd kb;have aa:=Zh (az G kb);have aR:=az jE.o kb;obtain⟨h0,h1,h2,h3,h4⟩:=jW aR iZ jJ kT jY jZ;obtain⟨h5,h6⟩:=jf aR kU kV;clear gn kb G aR;obtain⟨OB,bA⟩:=eY (eT nk);rw[<-bA]at ax Fe vB
   cases OB with
   |false =>
    have S:=Zh (by  rw[Fe.o];rfl:LK=Qs)
    clear Fe aQ vB bA;go_upto_region 18 with fail;clear aF m0 m1 m2 m3 m4 m5 m6;refine Zd ?_;refine EJ ?_;go_big_quiet_want;refine⟨Qr F,λx k=>?_,?_⟩
    .have hC:=Ze k (ax.o x);go_simp
    simp only[pU];go_big_quiet_on;refine qS (Qr T) ?_;go_big_quiet_want;refine⟨Qr T,λx k=>?_,?_⟩
    .go_simp
    simp only[pU];go_big_quiet_on;go_big_quiet_skip;try simp only[pU]
    iterate 11 (go_big_quiet_skip;try simp only[pU])
    refine qS (Qr T) ?_;refine XZ ?_;intro wE Kz;have nH:=Zh (az aa.o Kz);clear Kz;go_wp2;go_ret2;exact⟨nH.o,.inr ⟨S.o,rfl⟩⟩
   |true =>
    obtain⟨bq,dG⟩:=vB.o rfl;obtain⟨j,hj⟩:=XR bq;subst hj;have bT:j<N ps:=Qk eD.o;rw[Xv]at Fe;obtain⟨⟨pb,y,bu,-,-,-,c3,-,-⟩,-⟩:=(PartsAt.below Ve.o au.o).2 j bT;subst bu;have aT:=dI.o j bT;obtain⟨o,ho⟩:=eY ((E ps j bG).order);have aA:∀x,Bw wb x->Cb 110 #[Qu #[v0,v1,v2,v3,v4,v5,v6],I J nk,Z o.ad (N o.xs) o.cap] x (Qr (gX q nk o.xs)):=λx k=>aQ.o o x (az aa.o k) (by rw[ho];exact Q8 (az aI.o (az aa.o k)) aT.order) (by rw[ho];exact aT.cap);rw[<-ho]at c3 Fe;clear ho aT aQ vB bA dI;obtain⟨EB,dJ⟩:=eY (gX q nk o.xs);rw[<-dJ]at aA Fe;clear dJ;obtain⟨oa,xQ,ox⟩:=o;simp only[ah.val]at c3 aA;have bU:=Zh aA;clear aA
    cases EB with
    |false =>
     have S:=Zh (by  rw[Fe.o];rfl:LK=Qs)
     clear Fe;go_upto_region 18 with fail;clear aF m0 m1 m2 m3 m4 m5 m6;refine Zd ?_;refine qS (Y (O (aD (M (H l)) 0))) ?_;refine qC (I J nk) n0 ?_;go_big_quiet_want;refine⟨Qr T,λx k=>?_,?_⟩
     .have hC:=Ze k (ax.o x);go_simp
     simp only[pU];go_big_quiet_on;refine qS (Qr F) ?_;refine qS (Qr F) ?_;refine qS (Y (O (aD (M (H w)) 0))) ?_;go_big_quiet_want;refine⟨Qu #[v0,v1,v2,v3,v4,v5,v6],λx k=>?_,?_⟩
     .have e0:=Vl k h0 h1 h2 h3 h4 h5 h6;go_simp
     simp only[pU];go_big_quiet_on;refine qS (Y (O (aD (M (H l)) 0))) ?_;refine qC (I J nk) n0 ?_;refine qS (Z (O (aD pb y)) (N ps) aj) ?_;refine qS (Y (O (aD (M (H l)) 1))) ?_;refine qC (I J (j:Int)) n1 ?_;refine qS (Y (O (aD pb (y+j*6)))) ?_;refine qS (Y (O (aD pb (y+j*6+3)))) ?_;refine qC (Z oa (N ox) xQ) c3 ?_;go_big_quiet_want;refine⟨Qr F,λx k=>?_,?_⟩
     .have hC:=Ze k (bU.o x k);go_simp
     simp only[pU];go_big_quiet_on;refine qS (Qr T) ?_;refine qS (Qr T) ?_;refine XZ ?_;intro wE Kz;have nH:=Zh (az aa.o Kz);clear Kz;go_wp2;go_ret2;exact⟨nH.o,.inr ⟨S.o,rfl⟩⟩
    |true =>
     have S:=Zh (by  rw[Fe.o];rfl:LK=O (ps.map aC.d))
     clear Fe;go_upto_region 18 with fail;clear aF m0 m1 m2 m3 m4 m5 m6;refine Zd ?_;refine qS (Y (O (aD (M (H l)) 0))) ?_;refine qC (I J nk) n0 ?_;go_big_quiet_want;refine⟨Qr T,λx k=>?_,?_⟩
     .have hC:=Ze k (ax.o x);go_simp
     simp only[pU];go_big_quiet_on;refine qS (Qr F) ?_;refine qS (Qr F) ?_;refine qS (Y (O (aD (M (H w)) 0))) ?_;go_big_quiet_want;refine⟨Qu #[v0,v1,v2,v3,v4,v5,v6],λx k=>?_,?_⟩
     .have e0:=Vl k h0 h1 h2 h3 h4 h5 h6;go_simp
     simp only[pU];go_big_quiet_on;refine qS (Y (O (aD (M (H l)) 0))) ?_;refine qC (I J nk) n0 ?_;refine qS (Z (O (aD pb y)) (N ps) aj) ?_;refine qS (Y (O (aD (M (H l)) 1))) ?_;refine qC (I J (j:Int)) n1 ?_;refine qS (Y (O (aD pb (y+j*6)))) ?_;refine qS (Y (O (aD pb (y+j*6+3)))) ?_;refine qC (Z oa (N ox) xQ) c3 ?_;go_big_quiet_want;refine⟨Qr T,λx k=>?_,?_⟩
     .have hC:=Ze k (bU.o x k);go_simp
     simp only[pU];go_big_quiet_on;refine qS (Qr F) ?_;refine qS (Qr F) ?_;refine XZ ?_;intro wE Kz;have nH:=Zh (az aa.o Kz);have eF:Qn _:=PartsAt.below (az Ve.o Kz) au.o;clear Kz;go_wp2;go_ret2;exact⟨nH.o,.inl ⟨_,S.o,_,aj,ps,rfl,eF.o,rfl,eB.o,fQ.o⟩⟩
def Dr{p:Tmp}(h:fn.results=#[.cell p ty,.tmp u,.tmp s])(tmps:Array Qm)(P:Program)(w:U) :
  (results fn tmps).run P w=((asAddr (tmps.getD p undef)).run P w).andThen λa b=>((loadVar ty a).run P b).andThen λv d=>.ok (Qw #[v,tmps.getD u undef,tmps.getD s undef]) d:=by simp only[results,h];simp[Sem.run_bind,Result.andThen]
def yK{p:Tmp}(h:fn.results=#[.cell p ty,.tmp u,.tmp s]){tmps:Array Qm}{P:Program}{B:Nat}{x y:Qm}(hp:tmps.getD p undef=Y (O (aD B 0)))(hu:tmps.getD u undef=x)(hs:tmps.getD s undef=y)(hl:(loadVar ty (aD B 0)).run P w=.ok v w) :
  (results fn tmps).run P w=.ok (Qw #[v,x,y]) w:=by rw[Dr h,hp,hu,hs];simp[go_sem]at hl ⊢;simp[hl]
def xH(GM:Int)(LK:Option (Qy bW))(ts:Qy af)(q:ae)(w:U)(e:Ending)(w':U):Prop:=Bw w w'/\((GM≠0/\e=Qv (Qw #[Qu #[Z Qs 0 0,Z Qs 0 0,Qr F,Z Qs 0 0,Z Qs 0 0,Z Qs 0 0,Z Qs 0 0,Z Qs 0 0,I Qq 0,I Qq 0,Z Qs 0 0,Z Qs 0 0,Z Qs 0 0],Z Qs 0 0,I J GM]))∨(GM=0/\LK=Qs/\e=Qv (Qw #[Qu #[Z Qs 0 0,Z Qs 0 0,Qr F,Z Qs 0 0,Z Qs 0 0,Z Qs 0 0,Z Qs 0 0,Z Qs 0 0,I Qq 0,I Qq 0,Z Qs 0 0,Z Qs 0 0,Z Qs 0 0],Z Qs 0 0,I J 5]))∨(GM=0/\∃ds,LK=O ds/\∃(f:ay) (a:PN) (c:Nat) (ps:Qy aC),e=Qv (Qw #[Qu (f.cells ts q),Z a (N ps) c,I J 0])/\f.At ts q w'/\PartsAt w' a ps/\ps.map aC.d=ds))
def Dt(ao:PN)(cap:Nat)(ts:Qy af)(q:ae)(po:PN)(pc:Nat)(pl:Qy ai)(w:U)(hx:aQ w ao ts)(hq:q.At w)(hkc:N q.keys.xs<=q.keys.cap)(hoc:N q.ord.xs<=q.ord.cap)(hn:jD w po pl)(hsh:bM w 0)(hcap:∀i,i<N pl->(E pl i nz).co.xs.length<=(E pl i nz).co.cap) :
  Calls V 35 #[Z ao (N ts) cap,Qu q.cells,Z po (N pl) pc] w (xH (q.check ts) (jm ts q pl) ts q w):=by
 obtain⟨w1,aT,ax,aA⟩:=bC w q.cells 26;obtain⟨w2,bf,aV,aW⟩:=bC w1 #[Z Qs 0 0,Z Qs 0 0,Qr F,Z Qs 0 0,Z Qs 0 0,Z Qs 0 0,Z Qs 0 0,Z Qs 0 0,I Qq 0,I Qq 0,Z Qs 0 0,Z Qs 0 0,Z Qs 0 0] 82;have au:=aV;have aa:=az ax au;have lu:=aA.of (au.block _ aA.lt);obtain⟨iZ,jJ,kT,jY,jZ,kU,kV⟩:=lu.k7;have tT:=aW;have ag:=checkQ_any ao cap ts q w2 (hx.below aa) (hq.below aa) hkc hoc;obtain⟨GM,Du⟩:=eY (q.check ts);obtain⟨LK,LG⟩:=eY (jm ts q pl);have aj:Qn (GM=0->∀x,Bw w x->Calls V 28 #[Z ao (N ts) cap,Qu q.cells] x λe w'=>∃f:ay,e=Qv (Qu (f.cells ts q))/\f.At ts q w'/\f.New (M (H x))/\Bw x w'):=λh0 x hb=>zo ao cap ts q x (hx.below hb) (hq.below hb) (yw (by rw[<-Du];exact h0)).1.ok;have sK:Qn (GM=0->∀(f:ay) (x:U),Bw w x->f.At ts q x->Calls V 64 #[Qu (f.cells ts q),Z po (N pl) pc] x (λe w'=>Bw x w'/\((∃ds,LK=O ds/\∃(ao:PN) (cap:Nat) (ps:Qy aC),e=Qv (Qw #[Z ao (N ps) cap,Qr T])/\PartsAt w' ao ps/\ps.map aC.d=ds/\(∀a,ao=O a->M (H x)<=a.block)/\∀i,i<N ps->(E ps i bG).Ok w)∨(LK=Qs/\e=Qv (Qw #[Z Qs 0 0,Qr F]))))):=λh0 f x hb hf=>by obtain⟨h1,_,h3,h4,_⟩:=yw (ts:=ts) (q:=q) (by rw[<-Du];exact h0);rw[LG];exact Y7 f ts q po pc pl w x hb h1.ok hf hn (Jd hb hsh) hcap h3 X
 rw[<-Du]at ag ⊢;rw[<-LG];obtain⟨HC,bg,HW⟩:=jX aa hq ax.size;have si:=hd tT;clear Du LG hx hq hkc hoc hn hsh hcap ax aV aA aW lu tT aa au;obtain⟨⟨t,sc,src⟩,v,y,z,group,⟨A,B,j⟩,⟨D,G,k⟩,⟨K,L,P⟩,⟨Q,R,ord⟩⟩:=q;have uO:ae.cells ⟨⟨t,sc,src⟩,v,y,z,group,⟨A,B,j⟩,⟨D,G,k⟩,⟨K,L,P⟩,⟨Q,R,ord⟩⟩=#[Z t (N src) sc,Z v (N z) y,Qr group,Z A (N j) B,Z D (N k) G,Z K (N P) L,Z Q (N ord) R]:=rfl;rw[uO]at aT ag aj ⊢;simp only[ah.val]at iZ jJ kT jY jZ kU kV;clear uO;go_enter func35,ntmps35;go_wp2_with fail;refine ag.mono ?_;rintro e w3 ⟨rfl,m⟩;clear ag aT bf;by_cases hz:GM=0
 .subst hz;have aD:=aj.o (by trivial) w3 (az HC.o m);obtain⟨d0,d1,d2,d3,d4⟩:=jW m iZ jJ kT jY jZ;obtain⟨d5,d6⟩:=jf m kU kV;have aF:=hd m;clear m iZ jJ kT jY jZ kU kV aj;go_wp2_with fail;refine aD.mono ?_;rintro e w4 ⟨f,rfl,hf,aX,aB⟩;clear aD d0 d1 d2 d3 d4 d5 d6;obtain⟨rf,bn⟩:=aS (az aF.o aB) aB.size;have ak:=hd hf;have aZ:=hd aX;have aG:=Zh (Zy si.o.lt aF.o.size);clear aX;obtain⟨UM,n,UN,S,C,UO,r,UQ,UR,UT,UU,UW,UX,UY,bZ⟩:∃(UM:PN) (n UN S C:Nat) (UO:PN) (r UQ:Nat) (UR:PN) (UT UU:Nat) (UW:PN) (UX UY:Nat),f.cells ts ⟨⟨t,sc,src⟩,v,y,z,group,⟨A,B,j⟩,⟨D,G,k⟩,⟨K,L,P⟩,⟨Q,R,ord⟩⟩=#[Z t (N src) sc,Z v (N z) y,Qr group,Z A (N j) B,Z D (N k) G,Z K (N P) L,Z Q (N ord) R,Z UM n UN,I Qq ((S:Nat):Int),I Qq ((C:Nat):Int),Z UO r UQ,Z UR UT UU,Z UW UX UY]:=⟨f.ca,_,f.cc,_,_,f.ra,_,f.rc,f.na,f.nl,f.nc,f.pa,f.pl,f.pc,rfl⟩
  obtain⟨w5,uC,k5,g5⟩:=bC w4 #[Z t (N src) sc,Z v (N z) y,Qr group,Z A (N j) B,Z D (N k) G,Z K (N P) L,Z Q (N ord) R,Z UM n UN,I Qq ((S:Nat):Int),I Qq ((C:Nat):Int),Z UO r UQ,Z UR UT UU,Z UW UX UY] 82;have ko:=Zh (az rf.o k5);have av:=sK.o (by trivial) f w5 (az HC.o ko.o) (ak.o.below k5);rw[bZ]at av ⊢;have Cz:=Zh bZ;have Eo:=hd g5;have aH:=Zh k5;obtain⟨p0,p1,p2,p3,p4,p5,p6,p7,p8,p9,bz,bA,bB⟩:=g5.k13;clear aB hf k5 g5 bZ sK;go_wp2_with fail;refine av.mono ?_;rintro e w6 ⟨W,aY⟩;clear av uC;have xE:=az ko.o W;have g6:=Eo.o.of (W.block _ Eo.o.lt);rcases aY with⟨ds,hds,a,c,ps,rfl,hPA,yh,hbk,al4⟩|⟨hds,rfl⟩
  .skip;have g:=si.o.of (xE.block _ si.o.lt);have Fs:=Zh (sJ (World.xz g (Z t (N src) sc) (Z v (N z) y) (Qr group) (Z A (N j) B) (Z D (N k) G) (Z K (N P) L) (Z Q (N ord) R) (Z UM n UN) (I Qq ((S:Nat):Int)) (I Qq ((C:Nat):Int)) (Z UO r UQ) (Z UR UT UU) (Z UW UX UY)));have l:=World.qg w6 (M (H w1)) (Z t (N src) sc) (Z v (N z) y) (Qr group) (Z A (N j) B) (Z D (N k) G) (Z K (N P) L) (Z Q (N ord) R) (Z UM n UN) (I Qq ((S:Nat):Int)) (I Qq ((C:Nat):Int)) (Z UO r UQ) (Z UR UT UU) (Z UW UX UY);have Eg:=(az HC.o xE).trans (l.below (az HC.o xE).size (λb hb=>Qk HW.o));have x0:=g.at 0;have y0:=g.frozen 0;have x1:=g.at 1;have y1:=g.frozen 1;have x2:=g.at 2;have y2:=g.frozen 2;have x3:=g.at 3;have y3:=g.frozen 3;have x4:=g.at 4;have y4:=g.frozen 4;have x5:=g.at 5;have y5:=g.frozen 5;have x6:=g.at 6;have y6:=g.frozen 6;have x7:=g.at 7;have y7:=g.frozen 7;have x8:=g.at 8;have y8:=g.frozen 8;have x9:=g.at 9;have y9:=g.frozen 9;have aI:=g.at 10;have aJ:=g.frozen 10;have aK:=g.at 11;have aL:=g.frozen 11;have aN:=g.at 12;have aO:=g.frozen 12;have aP:=(ak.o.below (az aH.o W)).but l aZ.o aG.o (bg.o.below Eg);have bq:=ZN bn.o aH.o.size;have aR:=hPA.but l (λad e=>Ql (hbk ad e) aG.o) al4 Eg;have jK:Qn (xH (0:Int) LK ts ⟨⟨t,sc,src⟩,v,y,z,group,⟨A,B,j⟩,⟨D,G,k⟩,⟨K,L,P⟩,⟨Q,R,ord⟩⟩ w (Qv (Qw #[Qu #[Z t (N src) sc,Z v (N z) y,Qr group,Z A (N j) B,Z D (N k) G,Z K (N P) L,Z Q (N ord) R,Z UM n UN,I Qq ((S:Nat):Int),I Qq ((C:Nat):Int),Z UO r UQ,Z UR UT UU,Z UW UX UY],Z a (N ps) c,I J 0])) (World.lN w6 (M (H w1)) (Z t (N src) sc) (Z v (N z) y) (Qr group) (Z A (N j) B) (Z D (N k) G) (Z K (N P) L) (Z Q (N ord) R) (Z UM n UN) (I Qq ((S:Nat):Int)) (I Qq ((C:Nat):Int)) (Z UO r UQ) (Z UR UT UU) (Z UW UX UY))):=⟨Eg,.inr (.inr ⟨rfl,ds,hds,f,a,c,ps,by rw[Cz.o],aP,aR,yh⟩)⟩
   unfold World.lN at Fs jK;obtain⟨r0,r1,r2,r3,r4,r5,r6,r7,r8,r9,bD,bE,bF⟩:=g6.k13;clear g l Eg xE W g6 Eo ak aP aR hPA hbk al4 hds yh;go_wp2;exact X8 (yK (p:=6) (u:=7) (s:=8) rfl rfl rfl rfl Fs.o) rfl jK.o
  .skip;have g:=si.o.of (xE.block _ si.o.lt);have Fs:=Zh (sJ (World.xz g (Z Qs 0 0) (Z Qs 0 0) (Qr F) (Z Qs 0 0) (Z Qs 0 0) (Z Qs 0 0) (Z Qs 0 0) (Z Qs 0 0) (I Qq 0) (I Qq 0) (Z Qs 0 0) (Z Qs 0 0) (Z Qs 0 0)));have l:=World.qg w6 (M (H w1)) (Z Qs 0 0) (Z Qs 0 0) (Qr F) (Z Qs 0 0) (Z Qs 0 0) (Z Qs 0 0) (Z Qs 0 0) (Z Qs 0 0) (I Qq 0) (I Qq 0) (Z Qs 0 0) (Z Qs 0 0) (Z Qs 0 0);have Eg:=(az HC.o xE).trans (l.below (az HC.o xE).size (λb hb=>Qk HW.o));have x0:=g.at 0;have y0:=g.frozen 0;have x1:=g.at 1;have y1:=g.frozen 1;have x2:=g.at 2;have y2:=g.frozen 2;have x3:=g.at 3;have y3:=g.frozen 3;have x4:=g.at 4;have y4:=g.frozen 4;have x5:=g.at 5;have y5:=g.frozen 5;have x6:=g.at 6;have y6:=g.frozen 6;have x7:=g.at 7;have y7:=g.frozen 7;have x8:=g.at 8;have y8:=g.frozen 8;have x9:=g.at 9;have y9:=g.frozen 9;have aI:=g.at 10;have aJ:=g.frozen 10;have aK:=g.at 11;have aL:=g.frozen 11;have aN:=g.at 12;have aO:=g.frozen 12;have jK:Qn (xH (0:Int) LK ts ⟨⟨t,sc,src⟩,v,y,z,group,⟨A,B,j⟩,⟨D,G,k⟩,⟨K,L,P⟩,⟨Q,R,ord⟩⟩ w (Qv (Qw #[Qu #[Z Qs 0 0,Z Qs 0 0,Qr F,Z Qs 0 0,Z Qs 0 0,Z Qs 0 0,Z Qs 0 0,Z Qs 0 0,I Qq 0,I Qq 0,Z Qs 0 0,Z Qs 0 0,Z Qs 0 0],Z Qs 0 0,I J 5])) (World.lN w6 (M (H w1)) (Z Qs 0 0) (Z Qs 0 0) (Qr F) (Z Qs 0 0) (Z Qs 0 0) (Z Qs 0 0) (Z Qs 0 0) (Z Qs 0 0) (I Qq 0) (I Qq 0) (Z Qs 0 0) (Z Qs 0 0) (Z Qs 0 0))):=⟨Eg,.inr (.inl ⟨rfl,hds,rfl⟩)⟩
   unfold World.lN at Fs jK;clear g l Eg xE W g6 Eo ak;go_wp2;exact X8 (yK (p:=6) (u:=7) (s:=8) rfl rfl rfl rfl Fs.o) rfl jK.o
 .have BU:=m;have bu:(GM != 0)=true:=by rw[bne_iff_ne];exact hz
  have HZ:Qn _:=hz;clear hz;have g:=si.o.of (BU.block _ si.o.lt);have Fs:=Zh (sJ (World.xz g (Z Qs 0 0) (Z Qs 0 0) (Qr F) (Z Qs 0 0) (Z Qs 0 0) (Z Qs 0 0) (Z Qs 0 0) (Z Qs 0 0) (I Qq 0) (I Qq 0) (Z Qs 0 0) (Z Qs 0 0) (Z Qs 0 0)));have l:=World.qg w3 (M (H w1)) (Z Qs 0 0) (Z Qs 0 0) (Qr F) (Z Qs 0 0) (Z Qs 0 0) (Z Qs 0 0) (Z Qs 0 0) (Z Qs 0 0) (I Qq 0) (I Qq 0) (Z Qs 0 0) (Z Qs 0 0) (Z Qs 0 0);have Eg:=(az HC.o BU).trans (l.below (az HC.o BU).size (λb hb=>Qk HW.o));have x0:=g.at 0;have y0:=g.frozen 0;have x1:=g.at 1;have y1:=g.frozen 1;have x2:=g.at 2;have y2:=g.frozen 2;have x3:=g.at 3;have y3:=g.frozen 3;have x4:=g.at 4;have y4:=g.frozen 4;have x5:=g.at 5;have y5:=g.frozen 5;have x6:=g.at 6;have y6:=g.frozen 6;have x7:=g.at 7;have y7:=g.frozen 7;have x8:=g.at 8;have y8:=g.frozen 8;have x9:=g.at 9;have y9:=g.frozen 9;have aI:=g.at 10;have aJ:=g.frozen 10;have aK:=g.at 11;have aL:=g.frozen 11;have aN:=g.at 12;have aO:=g.frozen 12;have jK:Qn (xH GM LK ts ⟨⟨t,sc,src⟩,v,y,z,group,⟨A,B,j⟩,⟨D,G,k⟩,⟨K,L,P⟩,⟨Q,R,ord⟩⟩ w (Qv (Qw #[Qu #[Z Qs 0 0,Z Qs 0 0,Qr F,Z Qs 0 0,Z Qs 0 0,Z Qs 0 0,Z Qs 0 0,Z Qs 0 0,I Qq 0,I Qq 0,Z Qs 0 0,Z Qs 0 0,Z Qs 0 0],Z Qs 0 0,I J GM])) (World.lN w3 (M (H w1)) (Z Qs 0 0) (Z Qs 0 0) (Qr F) (Z Qs 0 0) (Z Qs 0 0) (Z Qs 0 0) (Z Qs 0 0) (Z Qs 0 0) (I Qq 0) (I Qq 0) (Z Qs 0 0) (Z Qs 0 0) (Z Qs 0 0))):=⟨Eg,.inl ⟨HZ.o,rfl⟩⟩;unfold World.lN at Fs jK;clear g l Eg BU m aj sK;go_wp2;exact X8 (yK (p:=6) (u:=7) (s:=8) rfl rfl rfl rfl Fs.o) rfl jK.o
def Pw(ts:Qy af)(q:ae)(pl:Qy ai):Int:=if q.check ts=0 then (if (jm ts q pl).isSome=T then 0 else 5) else q.check ts
def KE:Option (Qy bW)->Nat
 |some ds=>(E ds (N ds-1) pz).cost
 |none=>0
def zW(ts:Qy af)(q:ae)(pl:Qy ai):Nat:=if q.check ts=0 then KE (jm ts q pl) else 0
def Cc{ts:Qy af}{q:ae}{pl:Qy ai}:∀(k:Nat) (ps:Qy bW),fH ts q pl k=O ps->N ps=k
 |0,ps,h=>by injection h with h;rw[<-h];rfl
 |k+1,ps,h=>by
  have h':(fH ts q pl k).bind (mg ts q (E pl k nz))=O ps:=h
  cases hp:fH ts q pl k with
  |none=>rw[hp]at h';cases h'
  |some qs =>
   rw[hp]at h';have h2:mg ts q (E pl k nz) qs=O ps:=h';unfold mg at h2;split at h2
   .injection h2 with h2;rw[<-h2,ZG,Cc k qs hp];rfl
   .cases h2
theorem Uo{ds:Qy bW}(h:jm ts q pl=O ds):1<=N ds:=by
 unfold jm at h;split at h
 .cases h
 .rename_i hp
  cases hq:fH ts q pl (N pl) with
  |none=>rw[hq]at h;cases h
  |some ps =>
   rw[hq]at h;have a:(if (eT (E pl (N pl-1) nz).kind&&gX q (E pl (N pl-1) nz).kind (E ps (E pl (N pl-1) nz).l.toNat pz).order)=T then O ps else Qs)=O ds:=h;split at a
   .injection a with a;rw[<-a,Cc _ _ hq];have b:dD pl=true:=by simpa using hp
    unfold dD at b;grind
   .cases a
theorem Dv(ao:PN)(cap:Nat)(ts:Qy af)(q:ae)(po:PN)(pc:Nat)(pl:Qy ai)(w:U)(hx:aQ w ao ts)(hq:q.At w)(hkc:N q.keys.xs<=q.keys.cap)(hoc:N q.ord.xs<=q.ord.cap)(hn:jD w po pl)(hsh:bM w 0)(hcap:∀i,i<N pl->(E pl i nz).co.xs.length<=(E pl i nz).co.cap) :
  Cb 19 #[Z ao (N ts) cap,Qu q.cells,Z po (N pl) pc] w (Qw #[I Qq ((zW ts q pl:Nat):Int),I J (Pw ts q pl)]):=by
 obtain⟨w1,D,G,K⟩:=bC w q.cells 26;have j:=G;have lu:=K;obtain⟨iZ,jJ,kT,jY,jZ,kU,kV⟩:=lu.k7;have k:=Dt ao cap ts q po pc pl w1 (hx.below j) (hq.below j) hkc hoc (hn.below j) (Jd j hsh) hcap;obtain⟨y,L⟩:=eY (q.check ts);obtain⟨LK,z⟩:=eY (jm ts q pl);rw[<-L,<-z]at k;obtain⟨HC,aG,aH⟩:=jX j L z;obtain⟨l,p⟩:=eY (Pw ts q pl);obtain⟨m,VH⟩:=eY (zW ts q pl);rw[<-p,<-VH];have sZ:Qn (l=if y=0 then (if LK.isSome=T then 0 else 5) else y):=by show _=_;rw[p,L,z];rfl
 have u:=Zh (by  rw[VH,L,z];rfl:m=if y=0 then KE LK else 0)
 have vC:Qn (y=0->∀ds,LK=O ds->1<=N ds):=λ_ ds aA=>Uo (ts:=ts) (q:=q) (pl:=pl) (by rw[<-z];exact aA);clear p VH;clear L z hx hq hkc hoc hn hsh hcap G K lu j;obtain⟨⟨P,sc,src⟩,Q,R,W,group,⟨ka,kc,b⟩,⟨ua,uc,g⟩,⟨ea,ec,aU⟩,⟨da,dc,ord⟩⟩:=q;have uO:ae.cells ⟨⟨P,sc,src⟩,Q,R,W,group,⟨ka,kc,b⟩,⟨ua,uc,g⟩,⟨ea,ec,aU⟩,⟨da,dc,ord⟩⟩=#[Z P (N src) sc,Z Q (N W) R,Qr group,Z ka (N b) kc,Z ua (N g) uc,Z ea (N aU) ec,Z da (N ord) dc]:=rfl;rw[uO]at D k ⊢;simp only[ah.val]at iZ jJ kT jY jZ kU kV;clear uO;go_enter func19,ntmps19;go_wp2_with fail;refine k.mono ?_;rintro e w2 ⟨aa,ag⟩;have HB:=Zh (az HC.o aa);have n:Qn (∀o,Bw w (w2.alloc o)):=λo=>HB.o.trans ((cZ _ _).mono HB.o.size);clear aa k D iZ jJ kT jY jZ kU kV;rcases ag with⟨hc,rfl⟩|⟨hc,hl,rfl⟩|⟨hc,ds,hl,f,a,c,ps,rfl,hf,hp,hd⟩
 .have B:=Zh (by  rw[sZ.o,Zg hc]:l=y)
  have v:=Zh (by  rw[u.o,Zg hc]:m=0)
  have aB:(y != 0)=true:=by rw[bne_iff_ne];exact hc
  clear sZ hc u vC;go_wp2;go_ret2;exact⟨by rw[B.o,v.o];rfl,n.o _⟩
 .have B:Qn (l=5):=Qb
  have v:=Zh (by  rw[u.o,Zb hc,hl];rfl:m=0)
  clear sZ hc hl u vC;go_wp2;go_ret2;exact⟨by rw[B.o,v.o];rfl,n.o _⟩
 .have B:Qn (l=0):=Qb
  have v:=Zh (by rw[u.o,Zb hc,hl,<-hd];show (E (ps.map aC.d) (N (ps.map aC.d)-1) pz).cost=_;rw[ZH];exact congrArg bW.cost (rP aC.d ps (N ps-1) bG):m=(E ps (N ps-1) bG).cost)
  have au:1<=N ps:=by have:=vC.o hc ds hl;grind
  obtain⟨A,aj⟩:∃A,N ps=A+1:=⟨N ps-1,X⟩;rw[show N ps-1=A by omega]at v;obtain⟨⟨pb,ay,rfl,-,-,-,-,-,c5⟩,-⟩:=hp.2 A X;have av:=hp.1;have aF:=Zh c5;generalize (E ps A bG).cost=CT at*;rw[aj]at av ⊢;clear sZ hc hl hf hp hd u vC au aj;obtain⟨UM,r,UN,S,C,UO,t,UQ,UR,UT,UU,UW,UX,UY,bZ⟩:∃(UM:PN) (r UN S C:Nat) (UO:PN) (t UQ:Nat) (UR:PN) (UT UU:Nat) (UW:PN) (UX UY:Nat),f.cells ts ⟨⟨P,sc,src⟩,Q,R,W,group,⟨ka,kc,b⟩,⟨ua,uc,g⟩,⟨ea,ec,aU⟩,⟨da,dc,ord⟩⟩=#[Z P (N src) sc,Z Q (N W) R,Qr group,Z ka (N b) kc,Z ua (N g) uc,Z ea (N aU) ec,Z da (N ord) dc,Z UM r UN,I Qq ((S:Nat):Int),I Qq ((C:Nat):Int),Z UO t UQ,Z UR UT UU,Z UW UX UY]:=⟨f.ca,_,f.cc,_,_,f.ra,_,f.rc,f.na,f.nl,f.nc,f.pa,f.pl,f.pc,rfl⟩;rw[bZ];clear bZ;obtain⟨w3,ak⟩:=eX (w2.alloc (Qt #[Z P (N src) sc,Z Q (N W) R,Qr group,Z ka (N b) kc,Z ua (N g) uc,Z ea (N aU) ec,Z da (N ord) dc,Z UM r UN,I Qq ((S:Nat):Int),I Qq ((C:Nat):Int),Z UO t UQ,Z UR UT UU,Z UW UX UY] 82));have c6:Qp w3 (aD pb (ay+A*6+5))=O (I Qq (CT:Int)):=by rw[<-ak];exact cB (cZ _ _) c5
  have ax:Qn (Bw w w3):=by rw[<-ak];exact n.o _
  clear c5;go_wp2;go_ret2;exact⟨by rw[B.o,v.o];rfl,ax.o⟩
