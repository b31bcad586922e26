import Derived.Test.YtjndadibondgbaaGreatDoorL04
set_option linter.all false
set_option maxRecDepth 100000
set_option maxHeartbeats 16000000
namespace Go.Proofs.Zz
open Go.RowKit Go.Shelf
section
theorem eO.had{n0:Nat}{w:World}{e:TypeId}{ys:List aa}{o:Nat->Prop}{W:World}{v:Value}(h:eO ag n0 w e ys o W v)(hl:ys.length<=1000000) :
  ∃ l f,v=.slice l ys.length f/\aX W l ys/\∀ a,l=some a->w.heap.size<a.block:=by
 have j:∀ i,i<ys.length->ag.At (ys.getD i iz) W:=fun i b=>by
  have:ys.getD i iz∈ys:=by simp[List.getD,b]
  exact h.at' _ this
 have m:ys.map aa.val=ys.map aa.val:=rfl;rcases h.own.2 with⟨hv,h0⟩ | ⟨g,f,cur,hv,hb,hh,hc1,hc2,hc3,ht⟩
 ·have:=QF h0;subst this;exact⟨none,0,hv,⟨⟨by simp,fun i b=>absurd b (by simp),fun i b=>absurd b (by simp)⟩,(fun a d=>by cases d),fun i b=>absurd b (by simp)⟩,fun a d=>by cases d⟩
 ·refine⟨some (aD g 0),f,hv,⟨⟨by omega,fun i b=>⟨g,0,rfl,?_⟩,fun i b=>(j i b).1⟩,fun a d=>?_,j⟩,fun a d=>by cases d; exact hb⟩
  ·have k:(cur.toList.take (ys.length*1))[i]? = some (ys.getD i iz).val:=by
    rw[ht];simp[List.getD,b]
   have n:cur[i]? = some (ys.getD i iz).val:=by
    rw[ZW]at k;split at k
    ·simpa using k
    ·cases k
   simp only[World.cell?,hh]
   simpa using n
  ·cases d; exact(QO.1 hh).1
theorem aX.keep{A B:World}{ao:Option Addr}{rs:List aa}(h:aX A ao rs)(hs:A.heap.size<=B.heap.size)(h1:∀ a,ao=some a->B.heap[a.block]? = A.heap[a.block]?)(h2:∀ i,i<rs.length->∀ b,ag.blk (rs.getD i iz)=some b->B.heap[b]? = A.heap[b]?):aX B ao rs:=by
 have d:∀ i,i<rs.length->ag.At (rs.getD i iz) B:=fun i e=>ag.keep (h.2.2 i e) hs (fun b _ g=>h2 i e b g)
 exact⟨⟨h.1.1,h.1.2.1.keep (fun a f _=>h1 a f),fun i e=>(d i e).1⟩,fun a f=>QT (h.2.1 a f) hs,d⟩
attribute [local go_sem] Oper.semAt_some
theorem Ny(br bl gr gl:Nat)(lg kQ:Array Value)(L R:List (List Int))(w0:World)(hbr:br<w0.heap.size)(hbl:bl<w0.heap.size)
  (hcr:w0.cell? (aD br 0)=some (.func (.func gr) #[] lg)) (hcl:w0.cell? (aD bl 0)=some (.func (.func gl) #[] kQ))
  (xS:Seq ag Tryz.prog gr lg R w0) (hsl:Seq ag Tryz.prog gl kQ L w0)
  (Wv:∀ args w,(callFunc gr args).run Tryz.prog w=.ok (.enter gr args) w) (Ww:∀ args w,(callFunc gl args).run Tryz.prog w=.ok (.enter gl args) w)
  (hR:R.length<=1000000) (Ko:∀ a∈L,a.length<=1000) (hRl:∀ a∈R,a.length<=1000) :
  Seq ag Tryz.prog 112 #[.pointer (some (aD br 0)),.pointer (some (aD bl 0))] (dh L R) w0:=by
 intro l J W o hW ho hJ hY h0;have av:=(hW.cell (p:=(aD br 0)) hbr).trans hcr;have ax:=(hW.cell (p:=(aD bl 0)) hbl).trans hcl;have HY:=Zh hY;have N:=Zh ho;have O:=Zh hW;have HJ:=Zh hJ;have HR:=Zh hR;have ay:=Zh Ko;have az:=Zh hRl;have m:Bw W (W.alloc (.cells #[.func (.yield l) #[] #[]] 108)):=bV _ _;have aA:=(m.cell (p:=(aD br 0)) (QT hbr O.o.size)).trans av;have xU:=(m.cell (p:=(aD bl 0)) (QT hbl O.o.size)).trans ax;have BU:(W.alloc (.cells #[.func (.yield l) #[] #[]] 108)).cell? (aD W.heap.size 0)=some (.func (.yield l) #[] #[]):=by simp
 have T:(W.alloc (.cells #[.func (.yield l) #[] #[]] 108)).heap.size=W.heap.size+1:=by simp
 refine(QZ (n:=0)).1 (Zk Tryz.func112 rfl trivial ?_ rfl);simp only[Tryz.ntmps112,Q6,Q7,Q8,Nat.reduceAdd,Nat.reduceSub,Q9,Za,Zb,Zc,Zd,Ze]
 gi_wp2
 obtain⟨w1,ah⟩:=eX (W.alloc (.cells #[.func (.yield l) #[] #[]] 108))
 rw[ah]at m aA xU BU T;rw[ah];have aB:=O.o.trans (m.mono O.o.size);refine⟨trivial,rfl,QZ.2 ((nQ ag (fun _=>rfl) gr lg R w0 w1 aB HR.o xS Wv).mono ?_)⟩;rintro e g ⟨v,ys,og,rfl,ai,hG⟩;have aC:ys.length<=1000000:=by
  have:=congrArg List.length ai;rw[ZB]at this;rw[this]; exact HR.o
 obtain⟨q,D,rfl,Sn,aO⟩:=hG.had aC;have y:=hG.below;have aF:=y.size;have BV:=cB y xU;have aG:=cB y BU;have F:=hG.born;have U7:=Zh ai;have U:Hid _:=Sn;have Wy:=Zh aO;have aH:=Zh F;have Sq:=cB (bV g (.cells #[.slice q ys.length D] 53)) BV
 gi_wp2
 have V:∀ s,Kept s g (g.alloc (.cells #[.slice q ys.length D] 53)):=fun s=>QX _ _
 have X:(g.alloc (.cells #[.slice q ys.length D] 53)).heap.size=g.heap.size+1:=by simp
 have Y:(g.alloc (.cells #[.slice q ys.length D] 53)).cell? (aD g.heap.size 0)=some (.slice q ys.length D):=by simp
 have C9:=cB (bV g (.cells #[.slice q ys.length D] 53)) aG;obtain⟨t,aj⟩:=eX (g.alloc (.cells #[.slice q ys.length D] 53))
 rw[aj]at V X Y C9 Sq;rw[aj];have qw:∀ s,Kept s W t:=fun s=>((QU m (fun b d _=>d)).trans (QU y (fun b d _=>d))).trans (V s)
 have DZ:=O.o.trans ((qw (fun _=>True)).below O.o.size (fun _ _=>trivial));have aI:=aX.keep U.o (V (fun _=>True)).size (fun a k=>(V (fun _=>True)).block _ (U.o.2.1 a k) trivial) (fun i f b d=>(V (fun _=>True)).block _ (ag.sV (U.o.2.2 i f) d) trivial);have z:Hid (∀ a,q=some a->W.heap.size<=a.block/\a.block<t.heap.size):=fun a k=>⟨by have:=Wy.o a k; omega,by have:=U.o.2.1 a k; omega⟩
 have G:Hid (∀ i,i<ys.length->∀ b,ag.blk (ys.getD i iz)=some b->(b<w0.heap.size∨W.heap.size<=b)/\b<t.heap.size):=fun i f b d=>by
  have hm:ys.getD i iz∈ys:=by simp[List.getD,f]
  exact⟨(aH.o _ hm b d).imp id (by omega),by have:=ag.sV (U.o.2.2 i f) d; omega⟩
 have aJ:Hid _:=aI;have P:=Zh qw;have HS:Hid (t.heap.size=g.heap.size+1/\w1.heap.size=W.heap.size+1/\w1.heap.size<=g.heap.size):=⟨X,T,aF⟩
 refine mo ag (gf:=gl) (lb:=kQ) rfl Ww hsl DZ rfl
  (fun j Q W'=>∃ zs,zs.map ag.key=dh (j.map ag.key) R/\J zs Q W'/\Kept (fun b=>¬ o b) t W'/\∀ b,Q b->o b∨(t.heap.size<=b/\b<W'.heap.size))
  o ?_ ?_ ?_ (fun x=>{ tmps:=#[.func (.yield l) #[] #[],.pointer (some (aD br 0)),.pointer (some (aD bl 0)),.pointer (some (aD W.heap.size 0)),.pointer (some (aD g.heap.size 0)),x.val,.func (.func gr) #[] lg,.slice q ys.length D,.func (.func gl) #[] kQ,x.val,undef,undef,undef,undef,undef],defers:=[] }) ?assign ?body ?done
 ·intro b d;exact⟨(N.o b d).1,by have:=(N.o b d).2; have:=(P.o (fun _=>True)).size; omega⟩
 ·rintro j Q A B ⟨zs,S,hj,u,H⟩ I;have h1:=(P.o (fun _=>True)).size;exact⟨zs,S,HJ.o _ _ _ _ hj (I.mono fun b _ h=>h.imp id (by omega)),u.trans' I (fun b d _=>.inr d),fun b h=>(H b h).imp id (fun h=>⟨h.1,by have:=I.size; omega⟩)⟩
 ·exact⟨[],rfl,HJ.o _ _ _ _ h0 (P.o _),QR _ _,fun b h=>.inl h⟩
 case assign=>
  intro l x W K hK
  gi_wp2
  exact hK
 case body=>
  rintro l2 j x Q W2 ⟨zs,S,hj,u,H⟩ E hx ak aS;have h3:=(P.o (fun _=>True)).size;have aK:=u.size;have hS:=HS.o;have Z:∀ b,W.heap.size<=b->¬ o b:=fun b d h=>by have:=(N.o b h).2; omega
  have aL:∀ b,b<w0.heap.size->¬ o b:=fun b d h=>by have:=(N.o b h).1; omega
  have ae:∀ b,b<t.heap.size->¬ o b->¬ Q b:=fun b d h C=>by
   rcases H b C with C | C
   ·exact h C
   ·omega
  have aQ:=Zj Y u (Z _ (by show W.heap.size<=g.heap.size; omega));have aR:=Zj C9 u (Z _ (Qs _));have af:∀ i,i<ys.length->∀ b,ag.blk (ys.getD i iz)=some b->¬ o b:=fun i f b d=>by
   rcases (G.o i f b d).1 with h | h
   ·exact aL b h
   ·exact Z b h
  have hH:=aX.keep aJ.o aK (fun a k=>u.block _ (z.o a k).2 (Z _ (z.o a k).1)) (fun i f b d=>u.block _ (G.o i f b d).2 (af i f b d));have aM:zs.map ag.key++ys.map (fun r=>x.xs++r.xs) <+: dh L R:=by
   have e1:ys.map (fun r=>x.xs++r.xs)=R.map (fun b=>x.xs++b):=by rw[<- U7.o,Xv]; rfl
   rw[e1,S,<- DJ];have e2:j.map ag.key++[x.xs]=(j++[x]).map ag.key:=by rw[Qn]; rfl
   rw[e2];exact V8 E
  have hp:=Dj l W.heap.size J (dh L R) w0.heap.size x q D ys zs Q W2 HJ.o HY.o (by omega) hj aM hx (fun b d=>(ak b d).1) (ay.o _ (kC E)) hH
   (fun a k=>ae _ (z.o a k).2 (Z _ (z.o a k).1))
   (fun i f a k=>ae _ (G.o i f a.block (by show Option.map _ _=_; rw[k]; rfl)).2 (af i f a.block (by show Option.map _ _=_; rw[k]; rfl)))
   (fun i f=>az.o _ (by rw[<- U7.o]; exact ZU.2 ⟨ys.getD i iz,by simp[List.getD,f],rfl⟩))
   (fun b h=>by
    rcases H b h with h | h
    ·have:=(N.o b h).2; omega
    ·exact h.2)
  have HZ:=Zh S;have HK:=Zh u;have tK:=Zh H;have HX:=Zh hx;obtain⟨jD,cO,gK⟩:=x;unfold aa.val at hp ⊢;simp only at hp ⊢
  gi_wp2
  refine⟨trivial,rfl,Zl l2 (QZ.2 (hp.mono ?_))⟩;rintro e W4 ⟨rfl,us,o2,U8,MN,M,au⟩
  gi_wp2
  refine⟨o2,⟨zs++us,?_,MN,HK.o.trans' M ?_,?_⟩,M,?_⟩
  ·rw[Qn,Qn,HZ.o,U8]
   show _=dh (j.map ag.key++[gK]) R
   rw[DJ,<- U7.o,Xv];rfl
  ·intro b d h C;rcases tK.o b C with C | C
   ·exact h C
   ·omega
  ·intro b d;have:=M.size;rcases au b d with h | h
   ·exact(tK.o b h).imp id (fun h=>⟨h.1,by omega⟩)
   ·exact .inr ⟨by omega,h.2⟩
  ·intro b d;exact(au b d).imp id .inl
 case done=>
  rintro us o' W2 U8 ⟨zs,S,hj,u,H⟩ aT aP hD;have h3:=(P.o (fun _=>True)).size
  gi_wp2
  have aN:¬ o' t.heap.size:=fun h=>by
   rcases aP _ h with h | h
   ·have:=(N.o _ h).2; omega
   ·omega
  have UW:Kept (fun b=>b≠t.heap.size) W2 (W2.putObj t.heap.size (.deferred none)):=QV _ _ (fun h=>h rfl);refine⟨by simp,.inl ⟨_,_,rfl,Zm hD,?_⟩⟩;refine⟨_,results_none rfl _ _ _,⟨_,rfl⟩,zs,o',?_,HJ.o _ _ _ _ hj (UW.mono fun b _ h=>?_),((P.o _).trans' u (fun b _ h=>h)).trans' UW (fun b d _=>by omega),fun b h=>(H b h).imp id (fun h=>⟨by omega,by rw[Q0]; omega⟩)⟩
  ·rw[S,U8]
  ·rcases h with h | h
   ·intro e; exact aN (e ▸ h)
   ·omega
end
def Nz(e:TypeId):El aa (List Int) where
 enc:=aa.val
 At x W:=ag.At x W/\W.ownsRow 0 e 1 x.val x.xs.length (x.xs.map (Value.int .i64))
 blk:=ag.blk
 key:=aa.xs
 keep:=by
  rintro x A B ⟨h,ho⟩ hs hb;refine⟨ag.keep h hs hb,ho.1,?_⟩;rcases ho.2 with h | ⟨g,cap,cur,hv,hb',hg,h1,h2,h3,h4⟩
  ·exact .inl h
  ·refine .inr ⟨g,cap,cur,hv,hb',(hb g (QO.1 hg).1 ?_).trans hg,h1,h2,h3,h4⟩;have:x.ad=some (aD g 0):=by
    have h:=hv;unfold aa.val at h;injection h
   show Option.map _ x.ad=_
   rw[this];rfl
 sV:=fun h hb=>ag.sV h.1 hb
def iP(vals:List Int)(k:Nat):Array Value:=((vals.take k).map (Value.int .i64)++List.replicate (vals.length-k) (Value.int .i64 0)).toArray
theorem NA(vals:List Int){k:Nat}(hk:k<vals.length):(iP vals k).setIfInBounds k (.int .i64 (vals.getD k 0))=iP vals (k+1):=by
 unfold iP;rw[List.setIfInBounds_toArray];congr 1;have a:((vals.take k).map (Value.int .i64)).length=k:=by simp; omega
 have b:vals.length-k=(vals.length-(k+1))+1:=by omega
 rw[List.set_append_right _ _ (by omega),a,XZ,b,List.replicate_succ,List.set_cons_zero,<- lN vals 0 hk];simp
theorem NB(vals:List Int):iP vals vals.length=(vals.map (Value.int .i64)).toArray:=by simp[iP]
theorem Kr(vals:List Int):madeCells #[.int .i64 0] vals.length=iP vals 0:=by
 rw[vX];simp[iP]
theorem Kt(w:World)(vals:List Int)(e:TypeId)(hl:vals.length<=1000000) :
  (Nz e).At ⟨some (aD w.heap.size 0),vals.length,vals⟩ (w.alloc (.cells (vals.map (Value.int .i64)).toArray e)):=by
 have d:(w.alloc (.cells (vals.map (Value.int .i64)).toArray e)).ownsRow 0 e 1 (.slice (some (aD w.heap.size 0)) vals.length vals.length) vals.length (vals.map (Value.int .i64)):=by
  refine⟨by simp,.inr ⟨w.heap.size,_,_,rfl,Zf _,lZ w _,Qs _,by unfold maxLen; omega,by simp,by rw[X0 (by simp)]⟩⟩
 refine⟨⟨⟨by show vals.length<=_; omega,fun i f=>⟨w.heap.size,0,rfl,?_⟩⟩,fun a g=>by cases g; simp,fun e=>by cases e⟩,d⟩;have b:i<vals.length:=f;simp[b,List.getD]
theorem ND(x c:aa)(w:World)(hx:x.At w)(hc:c.At w)(ha:aM c.xs x.xs.length=true)(hl:c.xs.length<=1000) :
  Calls Tryz.prog 123 #[x.val,c.val] w fun e w'=>e=.returned (.slice (some (aD w.heap.size 0)) c.xs.length c.xs.length)/\w' = w.alloc (.cells ((au x.xs c.xs).map (Value.int .i64)).toArray 3):=by
 obtain⟨L,M,xs⟩:=x;obtain⟨N,O,cs⟩:=c;unfold aa.val;simp only at ha hl;have p:=run_make_row' (P:=Tryz.prog) 22 3 (.int .i64 0) 8 Tryz.underlying22 Tryz.kT rfl .i64 .i64 cs.length (by omega) (by omega);have b:(au xs cs).length=cs.length:=by simp[au]
 have d:=Kr (au xs cs);rw[b]at d;rw[d]at p;have C:Hid _:=hx;have D:Hid _:=hc;have E:=Zh ha;have F:=Zh b;have q:=hx.1;simp only at q;clear hx hc ha d;generalize n:au xs cs=vals at *;have r:=Zh n;clear n;have s:=F.o;clear b;simp only;go_enter Tryz.func123,Tryz.ntmps123;go_wp2;go_loopw [13] (fun i wr=>∃ k:Nat,k<=cs.length/\i=.int .i64 k/\w.alloc (.cells (iP vals k) 3)=wr) (fun i _=>cs.length-(intOf i).toNat)
 case atStart=>exact⟨0,Zf _,rfl,rfl⟩
 case round=>
  obtain⟨k,Q,rfl,rfl⟩:=hrel;by_cases a:k<cs.length
  ·obtain⟨R,S,rfl,m⟩:=D.o.get a;have t:=cB (bV w (.cells (iP vals k) 3)) (m k a);have G:=Qq E.o a;have g:cs.getD k 0=cs[k]:=by simp[List.getD,a]
   rw[g]at t;have j:vals.getD k 0=xs.getD cs[k].toNat 0:=by
    rw[<- r.o];simp[au,List.getD,a]
   have f:cs[k].toNat<xs.length:=by omega
   obtain⟨T,J,rfl,A⟩:=C.o.get f;have l:=cB (bV w (.cells (iP vals k) 3)) (A _ f);rw[<- j]at l;have u:=FM w (iP vals k) 3 k (.int .i64 (vals.getD k 0));rw[NA vals (by omega)]at u;have v:((cs[k].toNat:Nat):Int)=cs[k]:=by omega
   have y:(w.alloc (.cells (iP vals k) 3)).cell? (aD w.heap.size k)=some (.int .i64 0):=by
    have:(iP vals k)[k]? = some (.int .i64 0):=by
     have H:((vals.take k).map (Value.int .i64)).length=k:=by simp; omega
     unfold iP;rw[ZK,QL (by omega),H,XZ,List.getElem?_replicate,Qu (by omega)]
    simp[this]
   generalize vals.getD k 0=vk at *;generalize K:cs[k]=ck at *;clear g j A m K;obtain⟨B,rfl⟩:∃ B:Nat,ck=(B:Int):=⟨ck.toNat,by omega⟩
   simp only[ZY]at f l;clear v;go_wp2;go_roundw
   case rel=>exact⟨k+1,by omega,by go_num,by first | rfl | trivial | assumption⟩
   case measure=>simp[intOf]; omega
  ·have z:k=cs.length:=by omega
   subst z;have I:iP vals cs.length=(vals.map (Value.int .i64)).toArray:=by rw[<- s]; exact NB vals
   rw[I];go_wp2;go_ret;exact⟨rfl,rfl⟩
section
theorem ack{pre:List aa}{x:aa}{rows:List (List Int)}(c:List Int)(h:(pre++[x]).map ag.key <+: rows):(pre++[x]).map (fun r=>au r.xs c) <+: rows.map (fun r=>au r c):=by
 have a:=List.IsPrefix.map (fun r=>au r c) h;rw[Xv]at a;exact a
attribute [local go_sem] Oper.semAt_some
end
def dw(E:El aa (List Int))(P:Program)(v:Value)(rows:List (List Int))(w:World):Prop:=
 ∃ g lb,v=.func (.func g) #[] lb/\(∀ args w,(callFunc g args).run P w=.ok (.enter g args) w)/\Seq E P g lb rows w
theorem dw.later{E:El aa (List Int)}{P:Program}{v:Value}{rows:List (List Int)}{w w':World}(h:dw E P v rows w)(hb:Bw w w'):dw E P v rows w':=by
 obtain⟨g,lb,a,b,d⟩:=h;exact⟨g,lb,a,b,Seq.later E d hb⟩
theorem acz{L R:List (List Int)}{m n:Nat}(hL:∀ a∈L,a.length<=m)(hR:∀ a∈R,a.length<=n):∀ a∈dh L R,a.length<=m+n:=by
 intro a b;unfold dh at b;obtain⟨x,d,b⟩:=Xr.1 b;obtain⟨y,e,rfl⟩:=ZU.1 b;have:=hL x d;have:=hR y e;rw[ZC];omega
theorem I8(t:aN)(w:World)(h:aX w t.ad t.rs) :
  Calls Tryz.prog 77 #[t.val] w fun e w'=>∃ v,e=.returned v/\dw ag Tryz.prog v (t.rs.map (·.xs)) w'/\Bw w w':=by
 obtain⟨b,a,rs⟩:=t;unfold aN.val;simp only at *;have d:=bV w (.cells #[.slice b rs.length a] 53);have f:dw ag Tryz.prog (.func (.func 111) #[] #[.pointer (some (aD w.heap.size 0))]) (rs.map (·.xs)) (w.alloc (.cells #[.slice b rs.length a] 53)):=
  ⟨_,_,rfl,Jl Tryz.func111 (by kernel_rfl) rfl,ML w.heap.size b a rs _ (by simp) (by simp) (h.below d)⟩
 have g:Hid _:=f;have i:=Zh d;go_enter Tryz.func77,Tryz.ntmps77;go_wp2;go_ret;exact⟨_,rfl,g.o,i.o⟩
theorem YH(vl vr:Value)(L R:List (List Int))(w:World)(hl:dw ag Tryz.prog vl L w)(hr:dw ag Tryz.prog vr R w)(hR:R.length<=1000000)(Ko:∀ a∈L,a.length<=1000)(hRl:∀ a∈R,a.length<=1000) :
  Calls Tryz.prog 78 #[vl,vr] w fun e w'=>∃ v,e=.returned v/\dw ag Tryz.prog v (dh L R) w'/\Bw w w':=by
 obtain⟨d,f,rfl,q,j⟩:=hl;obtain⟨k,l,rfl,r,s⟩:=hr;have b:=bV w (.cells #[.func (.func d) #[] f] 87);have g:=bV (w.alloc (.cells #[.func (.func d) #[] f] 87)) (.cells #[.func (.func k) #[] l] 87);have i:=b.trans (g.mono b.size);have m:dw ag Tryz.prog (.func (.func 112) #[] #[.pointer (some (aD (w.heap.size+1) 0)),.pointer (some (aD w.heap.size 0))]) (dh L R) ((w.alloc (.cells #[.func (.func d) #[] f] 87)).alloc (.cells #[.func (.func k) #[] l] 87)):=
  ⟨_,_,rfl,Jl Tryz.func112 (by kernel_rfl) rfl,Ny (w.heap.size+1) w.heap.size k d l f L R _ (by simp) (by simp; omega) (by simp) (by simp) (Seq.later _ s i) (Seq.later _ j i) r q hR Ko hRl⟩
 have n:Hid _:=m;have p:=Zh i;go_enter Tryz.func78,Tryz.ntmps78;go_wp2;go_ret;exact⟨_,rfl,n.o,p.o⟩
theorem Ox(vi:Value)(gk:Nat)(VK:Array Value)(rows:List (List Int))(p:List Int->Bool)(w:World)(hi:dw ag Tryz.prog vi rows w)(egk:∀ args w,(callFunc gk args).run Tryz.prog w=.ok (.enter gk args) w)
  (hkeep:∀ W x,Bw w W->aa.At x W->x.xs∈rows->Calls Tryz.prog gk (#[x.val]++VK) W fun e n=>e=.returned (.bool (p x.xs))/\Bw W n) :
  Calls Tryz.prog 46 #[vi,.func (.func gk) #[] VK] w fun e w'=>∃ v,e=.returned v/\dw ag Tryz.prog v (rows.filter p) w'/\Bw w w':=by
 obtain⟨d,f,rfl,m,i⟩:=hi;have a:=bV w (.cells #[.func (.func d) #[] f] 87);have g:=bV (w.alloc (.cells #[.func (.func d) #[] f] 87)) (.cells #[.func (.func gk) #[] VK] 108);have b:=a.trans (g.mono a.size);have j:dw ag Tryz.prog (.func (.func 76) #[] #[.pointer (some (aD w.heap.size 0)),.pointer (some (aD (w.heap.size+1) 0))]) (rows.filter p) ((w.alloc (.cells #[.func (.func d) #[] f] 87)).alloc (.cells #[.func (.func gk) #[] VK] 108)):=
  ⟨_,_,rfl,Jl Tryz.func76 (by kernel_rfl) rfl,C8 w.heap.size (w.heap.size+1) d gk f VK rows p _ (by simp; omega) (by simp) (by simp) (by simp) (Seq.later _ i b) m egk (fun W x q r s=>hkeep W x (b.trans (q.mono b.size)) r s)⟩
 have k:Hid _:=j;have l:=Zh b;go_enter Tryz.func46,Tryz.ntmps46;go_wp2;go_ret;exact⟨_,rfl,k.o,l.o⟩
