import Derived.Test.YtpcfbajdeipgbaaGreatDoorX07
import Derived.Test.YtpcfbajdeipgbaaGreatDoorX13
set_option linter.all false
set_option maxRecDepth 100000
set_option maxHeartbeats 0
namespace Go.Proofs.Zz
open Go.RowKit Go.Shelf
open List renaming length->N,getD->E
open Go.Value renaming slice->Z,int->I,pointer->Y
open Go.Proofs.Tryz renaming prog->V
open Option renaming some->O,none->E5
open Go.IntKind renaming i64->J
open Bool renaming true->T
open Go renaming World->U,Value->KX
open Go.World renaming heap->H,setCell->qw,cell?->Am
open _root_.Array renaming size->M
open Go.Obj renaming cells->FL
open Go.Ending renaming returned->FR
variable {A W W' w w1:U} {base n:Nat} {e tg ti tp:TypeId} {v:KX} {kc ms sc:List Int} {rows:List (List Int)} {x:ae} {pre:List ae} {dn:List Gr}
def NJ(c:aF):N c.aI=5:=rfl
def NK{cs:List aF}(h:w.ownsRow base e 5 v (N cs) (cs.flatMap aF.aI))(hl:N cs<=100) :
  ∃k cap,v=Z k (N cs) cap/\bS w k cs/\∀a,k=O a->base<=a.block/\a.block<M (H w)/\v.ownBlock=O a.block:=by
 rcases h.2 with⟨rfl,h0⟩|⟨g,cap,cur,rfl,hb,hh,hc,_,hcs,ht⟩
 .have:=QF h0;subst this;exact⟨E5,0,rfl,⟨by simp,λi d=>absurd d (by simp)⟩,λa f=>by cases f⟩
 .refine⟨O (aD g 0),cap,rfl,⟨by omega,λi d=>⟨g,0,rfl,?_⟩⟩,λa f=>by cases f;exact⟨hb,(ZH.1 hh).1,rfl⟩⟩;have b:∀j,j<5->Am w (aD g (0+i*5+j))=((E cs i cz).aI)[j]?:=λj m=>by have l:=yX aF.aI 5 NJ cz cs [] i j d m;rw[QN]at l;rw[<-l,<-ht,List.getElem?_take,Qu (by have:=d;omega)];simp[World.cell?,hh]
  exact⟨b 0 (by omega),b 1 (by omega),b 2 (by omega),b 3 (by omega),b 4 (by omega)⟩
theorem Hw{ls:List az}(h:W.ownsRow base e 1 v (N ls) (ls.map az.val))(hc:∀x∈ls,bS W x.ad x.cs)(hl:N ls<=100) :
  ∃d cap,v=Z d (N ls) cap/\bR W d ls:=by
 have b:∀i,i<N ls->E ls i lz∈ls:=λi a=>by simp[List.getD,a]
 rcases h.2 with⟨rfl,h0⟩|⟨g,cap,cur,rfl,hb,hh,hc2,_,hcs,ht⟩
 .have:=QF h0;subst this;exact⟨E5,0,rfl,by simp,λi a=>absurd a (by simp),λi a=>absurd a (by simp)⟩
 .refine⟨O (aD g 0),cap,rfl,by omega,λi a=>⟨g,0,rfl,?_⟩,λi a=>hc _ (b i a)⟩;have j:(cur.toList.take (N ls*1))[i]? = O (E ls i lz).val:=by rw[ht];simp[List.getD,a]
  have f:cur[i]? = O (E ls i lz).val:=by grind
  simp only[World.cell?,hh];simpa using f
def Tryz.Ru:(V.info? 90).map (λi=>(i.zero,i.size,i.bytes))=O (O (.agg #[.bool false,I J 0,I J 0,.bool false,I J 0]),5,40):=by kernel_rfl
def Tryz.Vw:(V.info? 88).map (λi=>(i.zero,i.size,i.bytes))=O (O (.agg #[Z E5 0 0]),1,24):=by kernel_rfl
def Ac(ts:List ag)(src:List Int)(s:Int)(k:Nat):List Int:=((List.range k).filter λ(c:Nat)=>decide (((au ts src (c:Int):Nat):Int)=s)).map λ(c:Nat)=>(c:Int)
theorem Vu(ts:List ag)(src:List Int)(s:Int)(k:Nat):Ac ts src s (k+1)=if ((au ts src (k:Int):Nat):Int)=s then Ac ts src s k++[(k:Int)] else Ac ts src s k:=by unfold Ac;rw[QT,ZX,Ql];grind
theorem L9(ts:List ag)(src:List Int)(s:Int)(k:Nat):N (Ac ts src s k)<=k:=by unfold Ac;grind
def Ke(f:bq)(ts:List ag)(q:af)(s:Int)(w:U)(hf:f.At ts q w) :
  Calls V 118 #[.agg (f.cells ts q),I J s] w λe w'=>∃i:ae,e=FR i.val/\i.xs=iE ts q.src.xs s/\ah.At i w'/\Bw w w'/\∀b,ah.aT i=O b->M (H w)<=b:=by
 obtain⟨Q,R,n,B⟩:=aX w ((f.cells ts q)) 63;have q7:=B.at 7;have l:=hf.cols.below n;have aH:=l.1;have pE:Hid _:=l;have YV:Hid (Ac ts q.src.xs s (N (iL ts q))=iE ts q.src.xs s):=rfl;have Vv:Hid (∀k:Nat,(E (iL ts q) k (0,0)).1=au ts q.src.xs (k:Int)):=λk=>by unfold au iL;rw[Xu]
 have G:=Zh n;clear B l hf n;obtain⟨S,W,X,aa,ai,aj,ak,av,ax,ay⟩:=f;simp only at*;generalize bq.cells ⟨S,W,X,aa,ai,aj,ak,av,ax,ay⟩ ts q=FC at*;generalize iL ts q=CN at*;go_enter Tryz.func118,Tryz.ntmps118;go_wp2;clear R;go_loopw [5,11] (λv i wr=>∃k:Nat,k<=N CN/\i=I J k/\Hid (wr.ownsRow (M (H Q)) 3 1 v (N (Ac ts q.src.xs s k)) ((Ac ts q.src.xs s k).map (Value.int J)))/\Bw Q wr) (λ_ i _=>N CN-(intOf i).toNat)
 case atStart=>exact⟨0,Q4 _,rfl,Xl _ _ _ _,Qr _ _⟩
 case round=>
  obtain⟨k,hk,rfl,C,d⟩:=hrel;obtain⟨ra,rm,rc,rfl⟩:=Xg C.o;by_cases aG:k<N CN
  .obtain⟨b,off,rfl,c0,c1⟩:=pE.o.2 k aG;obtain⟨d0,d1⟩:=gy d c0 c1;rw[Vv.o k]at d0;obtain⟨D,az⟩:=aV (Vu ts q.src.xs s k) (L9 ts q.src.xs s k);obtain⟨KD,y⟩:∃x,x=(E CN k (0,0)).2:=⟨_,rfl⟩
   rw[<-y]at d1;clear y;obtain⟨z,p⟩:∃x,wr.alloc (FL #[I J ((au ts q.src.xs (k:Int):Nat):Int),I .u64 KD] 114)=x:=⟨_,rfl⟩;have j:Bw wr z:=by rw[<-p];exact bJ _ _
   have e0:Am z (aD (M (H wr)) 0)=O (I J ((au ts q.src.xs (k:Int):Nat):Int)):=by rw[<-p];simp
   have a:=Xe C.o (ZA (s:=λb=>b<M (H wr)) j (λb _ h=>h)) (λg B=>(Xf C.o B).2);have r:=d.trans (j.mono d.size);clear c0 c1 d e0;have e0:=cB (Qr _ _) (show Am z (aD (M (H wr)) 0)=O (I J ((au ts q.src.xs (k:Int):Nat):Int)) by rw[<-p];simp);by_cases t:((au ts q.src.xs (k:Int):Nat):Int)=s
   .have K:(((au ts q.src.xs (k:Int):Nat):Int)==s)=true:=by simpa using t
    have m:=Zh (D.o.trans (Qu t));obtain⟨v',w5,iW,mq,A,⟨va,vm,vc,rfl⟩,-⟩:=iA z (M (H Q)) (Z ra rm rc) (Ac ts q.src.xs s k) a (by have:=az.o;omega) r.size (k:Int) 23;have u:=r.trans (A.below r.size (λb hb e=>by have:=(Xf a e).1;omega));rw[<-m.o]at mq;have L:Hid _:=mq;have P:=Zh u;clear mq A u a r j t D;generalize ((au ts q.src.xs (k:Int):Nat):Int)=SRC at*;go_wp2_with (first|(at_builtin;refine Xy rfl (.tmp 20) (.tmp 22) 23 rfl (Z ra rm rc) (Z (O (aD (M (H z)) 0)) 1 1) (Z va vm vc) w5 rfl rfl iW ?_));clear iW;go_wp2;go_roundw
    case rel=>exact⟨k+1,by omega,by go_num,L.o,P.o⟩
    case measure=>simp[intOf];omega
   .have K:(((au ts q.src.xs (k:Int):Nat):Int)==s)=false:=by simpa using t
    have m:=Zh (D.o.trans (QC t));rw[<-m.o]at a;have L:Hid _:=a;have P:=Zh r;clear a r j t D;generalize ((au ts q.src.xs (k:Int):Nat):Int)=SRC at*;go_wp2;go_roundw
    case rel=>exact⟨k+1,by omega,by go_num,L.o,P.o⟩
    case measure=>simp[intOf];omega
  .obtain rfl:k=N CN:=by omega
   have HB:=Zh d;clear d;go_wp2;go_ret;have ho:=C.o;obtain⟨i,aA,aB,aC,aF⟩:=oC ho (by have:=L9 ts q.src.xs s (N CN);omega);exact⟨i,by show Ending.returned (Z ra rm rc)=FR i.val;rw[aA],aB.trans YV.o,aC,G.o.trans (HB.o.mono G.o.size),λb hb=>Q6 G.o.size (aF b hb)⟩
section
theorem jN{xs:List Int}(h:w.ownsRow base e 1 v n (xs.map (Value.int J)))(hl:N xs<=1152921504606846976) :
  ∃a:ae,v=a.val/\a.xs=xs/\(gJ e).At a w/\∀b,ah.aT a=O b->base<=b:=by
 obtain⟨a,d,f,l,m⟩:=oC h hl;have i:N xs=n:=by have:=h.1;simpa using this
 refine⟨a,d,f,⟨l,?_⟩,m⟩;rw[<-d,f,i];refine⟨h.1,?_⟩;rcases h.2 with j|⟨g,cap,k,p,q,r⟩
 .exact .inl j
 grind
theorem Sc{m:Nat}{a:List Gr}{row:List Int}(h:∀g∈a,N g.key<=N kc/\g.cnt<=m):∀g∈stepG kc sc a row,N g.key<=N kc/\g.cnt<=m+1:=by
 intro g b;unfold stepG at b;split at b
 .obtain⟨j,e,rfl⟩:=Qv b;rw[Jd]at e;rw[XV];have d:=h _ (Qi e);split
  .exact⟨d.1,by show a[j].cnt+1<=_;omega⟩
  .exact⟨d.1,by omega⟩
 .rcases Ze.1 b with b|b
  .grind
  .rw[Xj]at b;subst b;exact⟨by simp[mQ,mR,aB],by simp[mQ,mR]⟩
def EZ{kc sc:List Int}:∀(rows:List (List Int)) (m:Nat) (a:List Gr),(∀g∈a,N g.key<=N kc/\g.cnt<=m)->∀g∈rows.foldl (stepG kc sc) a,N g.key<=N kc/\g.cnt<=m+N rows
 |[],m,a,h=>by simpa using h
 |r::l,m,a,h=>by rw[QY];intro g hg;have:=EZ l (m+1) _ (Sc h) g hg;rw[QJ];omega
def Ko:∀g∈fq kc sc rows,N g.key<=N kc/\g.cnt<=N rows:=by
 intro g a;unfold fq at a;have:=EZ rows 0 (cK kc sc) (λg a=>by
  unfold cK at a;split at a
  .rw[Xj]at a;subst a;exact⟨Q4 _,Qs _⟩
  .simp at a) g a
 omega
def afV{bg:Nat}{gs:List fZ}(h:oP tg ti tp n base bg gs A v){i:Nat}(hi:i<N gs):∃g cap,v=Z (O (aD g 0)) (N gs) cap/\Am A (aD g i)=O (Y (O (aD (gs[i].gb) 0))):=by obtain⟨g,cap,a,b⟩:=wK h.own hi;refine⟨g,cap,a,?_⟩;rw[b,QK,Xq hi];rfl
attribute [local go_sem] Oper.semAt_some
end
section
attribute [local go_sem] Oper.semAt_some
def Wh(lo:Nat)(bi bk bs gi:Nat)(jy:Array KX)(kc sc:ae)(rows:List (List Int))(w0:U)(hbi:bi<M (H w0))(hbk:bk<M (H w0))(hbs:bs<M (H w0))
  (hci:Am w0 (aD bi 0)=O (.func (.func gi) #[] jy)) (hck:Am w0 (aD bk 0)=O kc.val) (hcs:Am w0 (aD bs 0)=O sc.val) (hkc:kc.At w0) (hsc:sc.At w0) (hkl:N kc.xs<=4) (hsl:N sc.xs<=4)
  (hseq:Seq ah V gi jy rows w0) (GU:∀args w,(callFunc gi args).run V w=.ok (.enter gi args) w) (hlen:N rows<=1000000) (Co:∀r∈rows,aM kc.xs (N r)=T) (Cq:∀r∈rows,aM sc.xs (N r)=T) (hsm:∀r∈rows,∀v∈r,dW v) (hlo:lo<=M (H w0)) :
  Seq (lF 3 lo) V 122 #[Y (O (aD bi 0)),Y (O (aD bk 0)),Y (O (aD bs 0))] ((fq kc.xs sc.xs rows).map Gr.row) w0:=by
 intro l Jq W o z ho hJ hY h0;have c1:=(z.cell (p:=(aD bi 0)) hbi).trans hci;have c2:=(z.cell (p:=(aD bk 0)) hbk).trans hck;have c3:=(z.cell (p:=(aD bs 0)) hbs).trans hcs;have aa:=DX gi jy kc sc rows w0 W z hseq GU (Qt z hkc) (Qt z hsc) hkl hsl hlen Co Cq hsm;have af:N (fq kc.xs sc.xs rows)<=1000001:=by
  have h:=Cn kc.xs sc.xs (rows.map λr=>(⟨E5,0,r⟩:ae)) (cK kc.xs sc.xs);rw[List.foldl_map,Q8]at h;have h3:N (cK kc.xs sc.xs)<=1:=by unfold cK;split <;> simp
  have h':N (rows.foldl (stepG kc.xs sc.xs) (cK kc.xs sc.xs))<=N (cK kc.xs sc.xs)+N rows:=h;unfold fq;omega
 obtain⟨aO,Cu,HY,HO,HJ,vH⟩:=Dm af (Q6 hlo z.size) hY ho hJ hsl;obtain⟨aP,aA⟩:=aV hkl hlen;have ag:Hid (∀g∈fq kc.xs sc.xs rows,N g.key<=N kc.xs/\g.cnt<=N rows):=λg hg=>Ko g hg;clear hY ho z hJ af hseq GU hlen Co Cq hsm hkc hsc hci hck hcs hbi hbk hbs hkl hsl;obtain⟨nU,eQ,dU⟩:=kc;obtain⟨ni,dV,dH⟩:=sc;unfold ae.val at*;simp only at*;refine(ZG (n:=0)).1 (callsIn_of_wp Tryz.func122 rfl trivial ?_ rfl);simp only[Tryz.ntmps122,ZN,QJ,ZO,Nat.reduceAdd,Nat.reduceSub,ZP,ZQ,ZR,ZT,ZU,ZV];gi_wp2;refine⟨trivial,rfl,ZG.2 (aa.mono ?_)⟩;rintro e Wg ⟨v,a,rfl,K,L,f⟩;clear aa;obtain⟨Nr,vT,rfl⟩:=EY L.own;have A:=f.size;have aL:=HJ.o _ _ _ _ h0 (ZA (s:=λb=>o b∨b<M (H W)) f (λb d _=>d));have aX:N a<=1000001:=by have:=congrArg N K;rw[Q8]at this;have:=aO.o;omega
 obtain⟨aQ,aB,EX,P⟩:=xA f A L K;clear f A L K c1 c2 c3 h0;gi_wp2;gi_loopw [12] (λi wr=>∃k:Nat,k<=N a/\i=I J k/\∃ys X,Hid (ys.map ae.xs=(a.take k).map (λg=>g.gr.row))/\Jq ys X wr/\Hid (Kept (λb=>¬o b) Wg wr)/\Hid (∀b,X b->o b∨(M (H Wg)<=b/\b<M (H wr))))
  (λi _=>N a-(intOf i).toNat)
 case atStart=>exact⟨0,Q4 _,rfl,[],o,rfl,aL,Zx _ _,λb h=>.inl h⟩
 case round=>
  obtain⟨k,hk,rfl,ys,X,Q,aC,nJ,j⟩:=hrel;by_cases q:k<N a
  .have B:=EX.o.keep nJ.o (λb d=>by
    intro h;have C:=(HO.o b h).2;rcases tQ EX.o d with S|S <;> omega)
   obtain⟨gr,sS,hv,hci⟩:=afV B q;have t:=B.at' _ (Qi q);have D:=ag.o a[k].gr (by rw[<-P.o];exact Jj (Qi q));have ai:a[k].k.xs.length<=4:=by have C:=D.1;have S:=aP.o;have h3:a[k].gr.key=a[k].k.xs:=rfl;rw[h3]at C;omega
   have aj:a[k].cnt<=1000000:=by have C:=D.2;have S:=aA.o;have h3:a[k].gr.cnt=a[k].cnt:=rfl;rw[h3]at C;omega
   have ak:=vH.o;have u:=wL a[k].gb a[k].sb a[k].k a[k].cnt a[k].ss wr (by rw[t.len];exact t.cells) t.sums t.key.1 t.key.2.2 ai (by rw[t.len];exact ak) aj;have au:N (a[k].k.xs++[(a[k].cnt:Int)]++a[k].ss)<=1000:=by have:=t.len;simp;omega
   have PW:=Zh au;have av:(a.take k).map (λg=>g.gr.row)++[a[k].gr.row]=(a.take (k+1)).map (λg=>g.gr.row):=by rw[Qh q,Ql];rfl
   have Lt:=Zh av;have ax:Hid (a[k].gr.row=a[k].k.xs++[(a[k].cnt:Int)]++a[k].ss):=rfl;obtain⟨rfl,rfl⟩:Nr=O (aD gr 0)/\vT=sS:=by injection hv with C _ S;exact⟨C,S⟩
   clear B t D ai aj au av ak hv;gi_wp2;refine⟨trivial,rfl,ZG.2 (u.mono ?_)⟩;rintro e w3 ⟨v3,rfl,y,R⟩;clear u;obtain⟨iv,rfl,J9,zW,FH⟩:=jN y (by have:=PW.o;omega);have aY:=R.size;have G:∀s,Kept s wr w3:=λs=>ZA R (λb d _=>d);have A:=aB.o;have aZ:=nJ.o.size;have PS:=HJ.o _ _ _ _ aC (G _);have ay:∀b,X b->b<M (H wr):=λb d=>by
    rcases j.o b d with h|h
    .have:=(HO.o b h).2;omega
    .exact h.2
   have az:(ys++[iv]).map (lF 3 lo).key <+: (fq dU dH rows).map Gr.row:=by
    have e1:(ys++[iv]).map (lF 3 lo).key=(a.take (k+1)).map (λg=>g.gr.row):=by rw[Ql,<-Lt.o];show ys.map ae.xs++[iv.xs]=_;rw[Q.o,J9,ax.o]
    rw[e1,<-P.o,Zm];exact List.IsPrefix.map _ (List.take_prefix _ _)
   obtain⟨fn,tmps,m,aF,hy,aG⟩:=HY.o ys iv X w3 PS az ⟨zW,λb d=>by have:=FH b d;have:=Cu.o;omega⟩ (λb d=>⟨λh=>by have:=ay b h;have:=FH b d;omega,.inr (by have:=FH b d;omega)⟩) (by omega);obtain⟨aR,aS⟩:=aV J9 FH;have LX:Hid (∀b,ah.aT iv=O b->b<M (H w3)):=λb d=>ah.AV zW.1 d;have F3:=Zh G;clear y R G az zW J9 FH PS ay;obtain⟨qF,iq,Cw⟩:=iv;have aN:(Instr.yield l #[Z qF (N Cw) iq]).run V w3=.ok (.round l fn tmps m aF) w3:=hy;unfold ae.val;simp only;clear hy;gi_wp2;refine⟨rfl,aG.mono ?_⟩;rintro e W4 ⟨rfl,o2,aH,aI,aJ⟩;obtain⟨aU,aK,aW⟩:=fe aH aI aJ;clear aH aI aJ aG aN;gi_wp2;go_roundw
   case rel=>
    have bf:=aK.o.size;refine⟨k+1,by omega,by simp,ys++[⟨qF,iq,Cw⟩],o2,?_,aU.o,?_,?_⟩
    .show _=_
     rw[Ql,Q.o,<-Lt.o];show _++[Cw]=_;have h:=aR.o;rw[h,ax.o]
    .refine(nJ.o.trans (F3.o _)).trans' aK.o (λb d h h'=>?_);rcases j.o b h' with h'|h'
     .exact h h'
     .omega
    .intro b d;rcases aW.o b d with h|h|⟨h,_⟩
     .rcases j.o b h with h|h
      .exact .inl h
      .exact .inr ⟨h.1,by omega⟩
     .exact .inr ⟨by omega,h.2⟩
     .have C:=aS.o b h;have S:=LX.o b h;exact .inr ⟨by omega,by omega⟩
   case measure=>simp[intOf];omega
  .obtain rfl:k=N a:=by omega
   gi_wp2;go_end0;refine⟨⟨_,rfl⟩,ys,X,?_,aC,(ZA aQ.o (λb d _=>d)).trans' nJ.o (λb _ h=>h),λb d=>?_⟩
   .show ys.map ae.xs=_
    rw[Q.o,Zb,<-P.o,Zm];rfl
   .rcases j.o b d with h|h
    .exact .inl h
    .exact .inr ⟨by have:=aB.o;omega,h.2⟩
def SX(vi:KX)(k s:ae)(rows:List (List Int))(w:U)(hi:eT ah V vi rows w)(hk:k.At w)(hs:s.At w)(hkl:N k.xs<=4)(hsl:N s.xs<=4)(hlen:N rows<=1000000)(Co:∀r∈rows,aM k.xs (N r)=T)(Cq:∀r∈rows,aM s.xs (N r)=T)(hsm:∀r∈rows,∀v∈r,dW v) :
  Calls V 61 #[vi,k.val,s.val] w λe t=>∃v,e=FR v/\yJ V 3 v ((fq k.xs s.xs rows).map Gr.row) t/\Bw w t:=by
 obtain⟨a,b,rfl,z,j⟩:=hi;have g:=bJ w (FL #[.func (.func a) #[] b] 70);have d:=bJ (w.alloc (FL #[.func (.func a) #[] b] 70)) (FL #[k.val] 23);have f:=bJ ((w.alloc (FL #[.func (.func a) #[] b] 70)).alloc (FL #[k.val] 23)) (FL #[s.val] 23);have l:=g.trans (d.mono g.size);have i:=l.trans (f.mono l.size);have m:Am (((w.alloc (FL #[.func (.func a) #[] b] 70)).alloc (FL #[k.val] 23)).alloc (FL #[s.val] 23)) (aD (M (H w)) 0)=O (.func (.func a) #[] b):=cB (d.trans (f.mono d.size)) (Jc (iX w (FL #[.func (.func a) #[] b] 70)) rfl);have n:Am (((w.alloc (FL #[.func (.func a) #[] b] 70)).alloc (FL #[k.val] 23)).alloc (FL #[s.val] 23)) (aD (M (H w)+1) 0)=O k.val:=by have h:=iX (w.alloc (FL #[.func (.func a) #[] b] 70)) (FL #[k.val] 23);rw[Xm]at h;exact cB f (Jc h rfl)
 have p:Am (((w.alloc (FL #[.func (.func a) #[] b] 70)).alloc (FL #[k.val] 23)).alloc (FL #[s.val] 23)) (aD (M (H w)+1+1) 0)=O s.val:=by have h:=iX ((w.alloc (FL #[.func (.func a) #[] b] 70)).alloc (FL #[k.val] 23)) (FL #[s.val] 23);rw[Xm,Xm]at h;exact Jc h rfl
 have q:yJ V 3 (.func (.func 122) #[] #[Y (O (aD (M (H w)) 0)),Y (O (aD (M (H w)+1) 0)),Y (O (aD (M (H w)+1+1) 0))]) ((fq k.xs s.xs rows).map Gr.row) (((w.alloc (FL #[.func (.func a) #[] b] 70)).alloc (FL #[k.val] 23)).alloc (FL #[s.val] 23)):=
  ⟨_,_,rfl,X9 Tryz.func122 (by kernel_rfl) rfl,Wh _ (M (H w)) (M (H w)+1) (M (H w)+1+1) a b k s rows (((w.alloc (FL #[.func (.func a) #[] b] 70)).alloc (FL #[k.val] 23)).alloc (FL #[s.val] 23)) (by simp;omega) (by simp) (by simp) m n p (Qt i hk) (Qt i hs) hkl hsl (Seq.later _ j i) z hlen Co Cq hsm (Qs _)⟩
 obtain⟨A,B,C⟩:=k;obtain⟨D,G,K⟩:=s;unfold ae.val at*;simp only at*;have u:Hid _:=q;have y:=Zh i;clear q i g d f l m n p j hk hs hkl hsl hlen Co Cq hsm;go_enter Tryz.func61,Tryz.ntmps61;go_wp2;go_ret;exact⟨_,rfl,u.o,y.o⟩
end
structure bK(W:U)(bb tB tR tI:Nat)(n:Nat)(es:List ae)(ms:List Int)(vi vm:KX):Prop where
 cell:GB W bb tB #[I J n,vi,vm,Z E5 0 0,Z E5 0 0]
 ints:W.ownsRow (bb+1) tR 1 vi (N es) (es.map ae.val)
 marks:W.ownsRow (bb+1) tI 1 vm (N ms) (ms.map (Value.int J))
 len:N es=N ms
 ent:∀k,k<N es->(E es k iz).At W/\∀x∈(E es k iz).xs,x=E ms k 0
 off:∀e∈es,∀b,ah.aT e=O b->b≠bb/\vm.ownBlock≠O b/\vi.ownBlock≠O b/\b<M (H W)
def bK.own(bb:Nat)(es:List ae)(vi vm:KX)(b:Nat):Prop:=b=bb∨vi.ownBlock=O b∨vm.ownBlock=O b∨∃e∈es,ah.aT e=O b
def jf(h:x.At W)(hb:∀b,ah.aT x=O b->b<M (H W)->W'.heap[b]? = W.heap[b]?):x.At W':=
 ⟨h.1,h.2.keep λa d e=>hb _ (by show Option.map _ x.ad=_;rw[d];rfl) e⟩
def bK.keep{bb tB tR tI:Nat}{es:List ae}{vi vm:KX}(h:bK W bb tB tR tI n es ms vi vm){s:Nat->Prop}(hk:Kept s W W')(hs:∀b,bK.own bb es vi vm b->s b):bK W' bb tB tR tI n es ms vi vm:=
 ⟨h.cell.of (hk.block _ h.cell.lt (hs _ (.inl rfl))),Xe h.ints hk (λg f=>hs _ (.inr (.inl f))),Xe h.marks hk (λg f=>hs _ (.inr (.inr (.inl f)))),h.len,
  λk i=>⟨jf (h.ent k i).1 (λb a j=>hk.block b j (hs _ (.inr (.inr (.inr ⟨_,Xx i,a⟩))))),(h.ent k i).2⟩,λe d b a=>⟨(h.off e d b a).1,(h.off e d b a).2.1,(h.off e d b a).2.2.1,Q0 (h.off e d b a).2.2.2 hk.size⟩⟩
def bK.below{W W':U}{bb tB tR tI n:Nat}{es:List ae}{ms:List Int}{vi vm:KX}(h:bK W bb tB tR tI n es ms vi vm)(hb:Bw W W'):bK W' bb tB tR tI n es ms vi vm:=
 h.keep (ZA (s:=λ_=>True) hb (λb a _=>a)) (λ_ _=>trivial)
def JQ(x:ae)(e:TypeId)(h:(gJ e).At x W)(b:Nat):ah.aT x=O b↔x.val.ownBlock=O b:=by
 rcases h.2.2 with⟨h1,_⟩|⟨g,cap,cur,h1,_⟩
 .have f:x.ad=none:=by unfold ae.val at h1;injection h1
  constructor
  .intro d;have:Option.map (λa:Addr=>a.block) x.ad=O b:=d;rw[f]at this;cases this
  .intro d;rw[h1]at d;cases d
 .have f:x.ad=O (aD g 0):=by unfold ae.val at h1;injection h1
  constructor
  .intro d;have:Option.map (λa:Addr=>a.block) x.ad=O b:=d;rw[f]at this;rw[h1];exact this
  .intro d;rw[h1]at d
   show Option.map (λa:Addr=>a.block) x.ad=O b;rw[f];exact d
def adI(W:U)(base:Nat)(v:KX)(xs:List Int)(hown:W.ownsRow base 3 1 v (N xs) (xs.map (Value.int J)))(hl:N xs<=1000000)(hb:base<=M (H W))(x:Int)(ty:TypeId) :
  ∃l q,(Builtin.append_ #[23,23] ty #[v,Z (O (aD (M (H W)) 0)) 1 1]).run V (W.alloc (FL #[I J x] 3))=.ok l q/\
   q.ownsRow base 3 1 l (N (xs++[x])) ((xs++[x]).map (Value.int J))/\Kept (λb=>v.ownBlock≠O b) W q/\(∃a m c,l = Z a m c)/\(l.ownBlock=v.ownBlock∨(l.ownBlock=O (M (H W)+1)/\Kept (λ_=>True) W q)):=by
 obtain⟨l,q,n,L,C,y,z⟩:=iA W base v xs hown hl hb x ty;refine⟨l,q,n,L,C,y,?_⟩;obtain⟨D,G,A,f,B⟩:=Xk Tryz.tH;have d:∀j u,[Value.int J x][j]? = O u->(W.alloc (FL #[I J x] 3)).cell? (((aD (M (H W)) 0):Addr).add j)=O u:=World.news_of_block (cs:=#[I J x]) (t:=3) (fr:=(0,0)) (iX W _);rcases hown.2 with⟨rfl,h0⟩|⟨g,cap,cur,rfl,hbg,hg,hnc,hcm,hcs,htake⟩
 .rcases z with h|h
  .exact .inl h
  .exact .inr ⟨h,C.mono λb _ _ e=>(by cases e)⟩
 .by_cases p:N xs+1<=cap
  .left;have r:(W.alloc (FL #[.int J x] 3)).heap[g]? = O (FL cur 3 (0,0)):=(QS (ZH.1 hg).1).trans hg;have i:=run_append_room (P:=V) (W.alloc (FL #[.int J x] 3)) 23 ty 3 D Tryz.underlying23 G g (N xs) cap cur r (aD (M (H W)) 0) 1 1 [.int J x] (by rw[f];rfl) d (λu K=>by rw[Xj]at K;rw[K];rfl) p (by rw[f,hcs];simp;omega);rw[i]at n;injection n with n _;rw[<-n];rfl
  .right;have k:=hown.alloc (FL #[.int J x] 3);have holds:=k.cells (g:=g) rfl;have i:=run_append_grow (P:=V) (W.alloc (FL #[.int J x] 3)) 23 ty 3 D (.int J 0) Tryz.underlying23 G A (aD g 0) (N xs) cap (xs.map (Value.int J)) (by rw[f];simp) holds (aD (M (H W)) 0) 1 1 [.int J x] (by rw[f];rfl) d (by omega) (by omega) (growslice_fits (by omega) (by rw[B];omega));rw[i]at n;injection n with hr1 hr2';refine⟨by rw[<-hr1];simp[Value.ownBlock],?_⟩;rw[<-hr2'];exact((ZE _ _).trans (ZA ((Qr _ _).drew) (λb hb _=>hb))).trans (ZE _ _)
def Chg(bb:Nat)(UF UG:KX)(l:ae)(b:Nat):Prop:=b=bb∨UF.ownBlock=O b∨UG.ownBlock=O b∨ah.aT l=O b
structure KQ(W0 wr:U)(bb tB tR tI n:Nat)(es fs:List ae)(Ms:List Int)(m:Int)(len:Nat)(v vi vm UF UG:KX)(l:ae):Prop where
 cell:GB wr bb tB #[I J n,vi,vm,Z E5 0 0,Z E5 0 0]
 ints:wr.ownsRow (bb+1) tR 1 vi (N (es++fs)) ((es++fs).map ae.val)
 marks:wr.ownsRow (bb+1) tI 1 vm (N Ms) (Ms.map (Value.int J))
 cur:wr.ownsRow 0 tI 1 v len ((List.replicate len m).map (Value.int J))
 akz:∀e∈es,e.At wr
 adK:∀f∈fs,f.At wr/\(∀x∈f.xs,x=m)/\∀b,ah.aT f=O b->v.ownBlock=O b->f.ad=O (aD b 0)/\N f.xs<=len
 off:∀e∈es++fs,∀b,ah.aT e=O b->b≠bb/\vm.ownBlock≠O b/\vi.ownBlock≠O b/\b<M (H wr)
 KY:∀b,v.ownBlock=O b->b≠bb/\vm.ownBlock≠O b/\∀e∈es,ah.aT e≠O b
 kept:Kept (λb=>¬Chg bb UF UG l b) W0 wr
 J2:∀b,b=bb∨vi.ownBlock=O b∨vm.ownBlock=O b∨v.ownBlock=O b->Chg bb UF UG l b∨M (H W0)<=b
 akA:∀f∈fs,∀b,ah.aT f=O b->Chg bb UF UG l b∨M (H W0)<=b
 bbl:bb<M (H W0)
section
variable {W0 wr:U} {bb tB tR tI n:Nat} {es fs:List ae} {Ms:List Int} {m:Int} {len:Nat} {v vi vm UF UG:KX} {l:ae}
def Db{tA tC:TypeId}(hne:tA≠tC){b1 b2 n1 n2:Nat}{u1 u2:KX}{x1 x2:List KX}(h1:W.ownsRow b1 tA 1 u1 n1 x1)(h2:W.ownsRow b2 tC 1 u2 n2 x2){b:Nat}(e1:u1.ownBlock=O b):u2.ownBlock≠O b:=by intro e;obtain⟨f,a⟩:=lY h1 e1;obtain⟨g,d⟩:=lY h2 e;simp_all
theorem Kept.J2{u:KX}(hk:Kept (λb=>¬Chg bb UF UG l b) W0 wr)(h1:Kept (λb=>u.ownBlock≠O b) wr w1)(hc:∀b,u.ownBlock=O b->Chg bb UF UG l b∨M (H W0)<=b):Kept (λb=>¬Chg bb UF UG l b) W0 w1:=
 hk.trans' (t:=λb=>u.ownBlock≠O b∨M (H W0)<=b/\False) (h1.mono λb _ h=>by
  simp_all) (λb a h=>.inl λe=>by
  grind)
theorem KQ.auf(h:KQ W0 wr bb tB tR tI n es fs Ms m len v vi vm UF UG l)(hRI:tR≠tI){f:ae}(hf:f.val=v)(hfx:f.xs=List.replicate len m)(hfa:f.At wr)(hfb:∀b,ah.aT f=O b↔v.ownBlock=O b)(hf0:∀b,ah.aT f=O b->f.ad=O (aD b 0))
  {uh:KX} (hown:w1.ownsRow (bb+1) tR 1 uh (N (es++fs)+1) ((es++fs).map ae.val++[f.val])) (hk:Kept (λb=>vi.ownBlock≠O b) wr w1) (hat:uh.ownBlock=vi.ownBlock∨uh.ownBlock=O (M (H wr)+1)) :
  KQ W0 (qw w1 (aD bb 1) uh) bb tB tR tI n es (fs++[f]) Ms m len v uh vm UF UG l:=by
 have C:=hk.size;have z:vi.ownBlock≠O bb:=λe=>by have:=(Xf h.ints e).1;omega
 have D:uh.ownBlock≠O bb:=λe=>by have:=(Xf hown e).1;omega
 have G:vm.ownBlock≠O bb:=λe=>by have:=(Xf h.marks e).1;omega
 have t:v.ownBlock≠O bb:=λe=>(h.KY bb e).1 rfl;have i:Kept (λb=>vi.ownBlock≠O b/\b≠bb) wr (qw w1 (aD bb 1) uh):=(hk.mono λb _ h=>h.1).trans (Xc _ _ _ (λh=>h.2 rfl));have k:∀b,b<M (H wr)->uh.ownBlock=O b->vi.ownBlock=O b:=λb a e=>by grind
 have K:∀b,vm.ownBlock=O b->vi.ownBlock≠O b:=λb e=>Db (Ne.symm hRI) h.marks h.ints e;have p:∀b,v.ownBlock=O b->vi.ownBlock≠O b:=λb e=>Db (Ne.symm hRI) h.cur h.ints e;have A:∀b,ah.aT f=O b->b<M (H wr):=λb a=>(Xf h.cur ((hfb b).1 a)).2;refine⟨?_,?_,?_,?_,λe j=>?_,λg d=>?_,λe j b a=>?_,h.KY,?_,λb a=>?_,λg d b a=>?_,h.bbl⟩
 .have q:=(h.cell.of (hk.block bb h.cell.lt z)).set 1 uh;exact q
 .grind [ownsRow_setCell_other]
 .exact Xe h.marks i (λb e=>⟨K b e,λu=>by simp_all⟩)
 .exact Xe h.cur i (λb e=>⟨p b e,λu=>by simp_all⟩)
 .exact jf (h.akz e j) (λb a r=>i.block b r ⟨(h.off e (Ze.2 (.inl j)) b a).2.2.1,(h.off e (Ze.2 (.inl j)) b a).1⟩)
 .rcases Ze.1 d with d|d
  .exact⟨jf (h.adK g d).1 (λb a r=>i.block b r ⟨(h.off g (Ze.2 (.inr d)) b a).2.2.1,(h.off g (Ze.2 (.inr d)) b a).1⟩),(h.adK g d).2⟩
  .rw[Xj]at d;subst d;refine⟨jf hfa (λb a r=>i.block b r ⟨p b ((hfb b).1 a),λe=>t (e ▸ (hfb b).1 a)⟩),λx L=>?_,λb a _=>⟨hf0 b a,by simp_all⟩⟩
   simp_all
 .rw[<-Zu]at j;rcases Ze.1 j with j|j
  .have q:=h.off e j b a;exact⟨q.1,q.2.1,λu=>q.2.2.1 (k b q.2.2.2 u),by have:=q.2.2.2;rw[Jr];omega⟩
  .rw[Xj]at j;subst j;have B:=(hfb b).1 a;have r:=A b a;exact⟨λe=>t (e ▸ B),(h.KY b B).2.1,λu=>p b B (k b r u),by rw[Jr];omega⟩
 .refine(Kept.J2 h.kept hk (λb e=>h.J2 b (.inr (.inl e)))).trans (Xc _ _ _ (λy=>y (.inl rfl)))
 .rcases a with a|a|a|a
  .grind [KQ.J2]
  .rcases hat with y|y
   .grind [KQ.J2]
   .rw[y]at a;cases a
    exact .inr (by have:=h.kept.size;omega)
  .grind [KQ.J2]
  grind [KQ.J2]
 .rcases Ze.1 d with d|d
  .grind [KQ.akA]
  .rw[Xj]at d;subst d;exact h.J2 b (.inr (.inr (.inr ((hfb b).1 a))))
theorem KQ.aui(h:KQ W0 wr bb tB tR tI n es fs Ms m len v vi vm UF UG l)(hRI:tR≠tI){sI:KX}(hown:w1.ownsRow (bb+1) tI 1 sI (N (Ms++[m])) ((Ms++[m]).map (Value.int J)))(hk:Kept (λb=>vm.ownBlock≠O b) wr w1)(hat:sI.ownBlock=vm.ownBlock∨sI.ownBlock=O (M (H wr)+1)) :
  KQ W0 (qw w1 (aD bb 2) sI) bb tB tR tI n es fs (Ms++[m]) m len v vi sI UF UG l:=by
 have y:=hk.size;have z:vi.ownBlock≠O bb:=λe=>by have:=(Xf h.ints e).1;omega
 have r:vm.ownBlock≠O bb:=λe=>by have:=(Xf h.marks e).1;omega
 have A:sI.ownBlock≠O bb:=λe=>by have:=(Xf hown e).1;omega
 have B:v.ownBlock≠O bb:=λe=>(h.KY bb e).1 rfl;have f:Kept (λb=>vm.ownBlock≠O b/\b≠bb) wr (qw w1 (aD bb 2) sI):=(hk.mono λb _ h=>h.1).trans (Xc _ _ _ (λh=>h.2 rfl));have i:∀b,b<M (H wr)->sI.ownBlock=O b->vm.ownBlock=O b:=λb a e=>by grind
 have t:∀b,vi.ownBlock=O b->vm.ownBlock≠O b:=λb e=>Db hRI h.ints h.marks e;refine⟨?_,?_,?_,?_,λe j=>?_,λg q=>?_,λe j b a=>?_,λb a=>?_,?_,λb a=>?_,h.akA,h.bbl⟩
 .have d:=(h.cell.of (hk.block bb h.cell.lt r)).set 2 sI;exact d
 .exact Xe h.ints f (λb e=>⟨t b e,λk=>by simp_all⟩)
 .grind [ownsRow_setCell_other]
 .exact Xe h.cur f (λb e=>⟨(h.KY b e).2.1,λk=>by simp_all⟩)
 .exact jf (h.akz e j) (λb a u=>f.block b u ⟨(h.off e (Ze.2 (.inl j)) b a).2.1,(h.off e (Ze.2 (.inl j)) b a).1⟩)
 .exact⟨jf (h.adK g q).1 (λb a u=>f.block b u ⟨(h.off g (Ze.2 (.inr q)) b a).2.1,(h.off g (Ze.2 (.inr q)) b a).1⟩),(h.adK g q).2⟩
 .have d:=h.off e j b a;exact⟨d.1,λk=>d.2.1 (i b d.2.2.2 k),d.2.2.1,by have:=d.2.2.2;rw[Jr];omega⟩
 .have d:=h.KY b a;exact⟨d.1,λk=>d.2.1 (i b (Xf h.cur a).2 k),d.2.2⟩
 .refine(Kept.J2 h.kept hk (λb e=>h.J2 b (.inr (.inr (.inl e))))).trans (Xc _ _ _ (λp=>p (.inl rfl)))
 .rcases a with a|a|a|a
  .grind [KQ.J2]
  .grind [KQ.J2]
  .rcases hat with p|p
   .grind [KQ.J2]
   .rw[p]at a;cases a
    exact .inr (by have:=h.kept.size;omega)
  grind [KQ.J2]
theorem KQ.auj(h:KQ W0 wr bb tB tR tI n es fs Ms m len v vi vm UF UG l)(hRI:tR≠tI){v':KX}(hown:w1.ownsRow 0 tI 1 v' (N (List.replicate len m++[m])) ((List.replicate len m++[m]).map (Value.int J)))(hk:Kept (λb=>v.ownBlock≠O b) wr w1)(hat:v'.ownBlock=v.ownBlock∨(v'.ownBlock=O (M (H wr)+1)/\Kept (λ_=>True) wr w1)) :
  KQ W0 w1 bb tB tR tI n es fs Ms m (len+1) v' vi vm UF UG l:=by
 have Q:=hk.size;have R:List.replicate len m++[m]=List.replicate (len+1) m:=by rw[List.replicate_succ']
 rw[R,Ja]at hown;have t:v.ownBlock≠O bb:=λe=>(h.KY bb e).1 rfl;have u:∀b,vi.ownBlock=O b->v.ownBlock≠O b:=λb e=>Db hRI h.ints h.cur e;have y:∀b,vm.ownBlock=O b->v.ownBlock≠O b:=λb e k=>(h.KY b k).2.1 e;refine⟨h.cell.of (hk.block bb h.cell.lt t),Xe h.ints hk u,Xe h.marks hk y,hown,λe j=>?_,λg P=>?_,λe j b a=>?_,λb a=>?_,?_,λb a=>?_,h.akA,h.bbl⟩
 .exact jf (h.akz e j) (λb a p=>hk.block b p (λk=>(h.KY b k).2.2 e j a))
 .obtain⟨C,K,S⟩:=h.adK g P;refine⟨?_,K,λb a q=>?_⟩
  .rcases hat with d|⟨_,B⟩
   .by_cases r:∃b,ah.aT g=O b/\v.ownBlock=O b
    .obtain⟨b,D,f⟩:=r;obtain⟨had,L⟩:=S b D f;rw[<-d]at f;rcases mU hown with⟨A,_⟩|⟨g',c,A,_,_,h4⟩
     .simp_all
     .rw[A]at f;have z:g' = b:=by grind [Value.ownBlock]
      subst z;refine⟨C.1,λi W=>⟨g',0,had,?_⟩⟩;have G:=h4 i (I J m) (by grind);rw[iw]at G;rw[G];have X:E g.xs i 0=m:=K _ (Xx W);simp_all
    .exact jf C (λb a p=>hk.block b p (λk=>r ⟨b,a,k⟩))
   .exact jf C (λb a p=>B.block b p trivial)
  .rcases hat with d|⟨d,_⟩
   .grind
   .rw[d]at q;cases q
    have:=(h.off g (Ze.2 (.inr P)) _ a).2.2.2;omega
 .have A:=h.off e j b a
  grind
 .rcases hat with d|⟨d,_⟩
  .grind [KQ.KY]
  .rw[d]at a;cases a
   refine⟨by have:=h.cell.lt;omega,λe=>by have:=(Xf h.marks e).2;omega,λe j a=>by have:=(h.off e (Ze.2 (.inl j)) _ a).2.2.2;omega⟩
 .exact Kept.J2 h.kept hk (λb e=>h.J2 b (.inr (.inr (.inr e))))
 .rcases a with a|a|a|a
  .grind [KQ.J2]
  .grind [KQ.J2]
  .grind [KQ.J2]
  .rcases hat with d|⟨d,_⟩
   .grind [KQ.J2]
   .rw[d]at a;cases a
    exact .inr (by have:=h.kept.size;omega)
theorem KQ.book(h:KQ W0 wr bb tB tR tI n es fs Ms m len v vi vm UF UG l)(hM:Ms=ms++List.replicate (N fs) m)(hl:N es=N ms)(hold:∀k,k<N es->∀x∈(E es k iz).xs,x=E ms k 0) :
  bK wr bb tB tR tI n (es++fs) Ms vi vm:=by
 refine⟨h.cell,h.ints,h.marks,by simp_all,λk g=>?_,h.off⟩;rw[QI]at g;by_cases a:k<N es
 .have b:E (es++fs) k iz=E es k iz:=by simp_all
  have e:E Ms k 0=E ms k 0:=by simp_all
  rw[b,e];exact⟨h.akz _ (Xx a),hold k a⟩
 .have f:k-N es<N fs:=by omega
  have b:E (es++fs) k iz=E fs (k-N es) iz:=by simp_all
  have e:E Ms k 0=m:=by simp_all
  rw[b,e];have i:=h.adK _ (Xx (d:=iz) f);grind
end
def rD(kc sc:List Int)(D:List Gr)(g:Gr)(r:List Int):iI kc sc (D++[g]) r=if g.key=aB r kc then D++[mQ r sc g] else (D++[g])++[mQ r sc (mR (aB r kc) (N sc))]:=by
 have a:(D++[g]).getLast? = O g:=by simp
 have hd:(D++[g]).dropLast=D:=by simp
 unfold iI;rw[a,hd]
def Bl{kc sc:List Int}:∀(rows:List (List Int)) (D:List Gr) (g:Gr),D <+: rows.foldl (iI kc sc) (D++[g])
 |[],D,g=>List.prefix_append _ _
 |r::rows,D,g=>by
  rw[QY,rD];split
  .exact Bl rows D _
  .exact(List.prefix_append _ _).trans (Bl rows (D++[g]) _)
def S9{g:Gr}(hp:(pre++[x]).map ah.key <+: rows)(hf:(pre.map ae.xs).foldl (iI kc sc) (cK kc sc)=dn++[g])(hk:g.key≠aB x.xs kc) :
  dn++[g] <+: l7 kc sc rows:=by
 obtain⟨t,rfl⟩:=hp;unfold l7;have e:(pre++[x]).map ah.key=pre.map ae.xs++[x.xs]:=by rw[Ql];rfl
 rw[e,Zv,Zv,hf,QY,List.foldl_nil,rD,QC hk];exact Bl t (dn++[g]) _
def agy:Option fZ->KX
 |none=>Y E5
 |some g=>g.ptr
structure zM(tg ti tp:TypeId)(Jq:List ae->(Nat->Prop)->U->Prop)(kc sc:List Int)(o:Nat->Prop)(l:Nat)(W:U)(pre:List ae)(o1:Nat->Prop)(W':U)(zs:List ae)(oj:Nat->Prop)(cur:Option fZ)(dn:List Gr):Prop where
 fold:(pre.map ae.xs).foldl (iI kc sc) (cK kc sc)=dn++(cur.map fZ.gr).toList
 told:zs.map ae.xs=dn.map Gr.row
 j:Jq zs oj W'
 iff:∀b,o1 b↔oj b∨b=M (H W)+1∨∃g,cur=O g/\g.own b
 off:¬oj (M (H W)+1)/\¬oj (M (H W))/\∀g,cur=O g->∀b,g.own b->¬oj b
 box:W'.heap[M (H W)+1]? = O (FL #[agy cur] tp)
 at':∀g,cur=O g->g.At tg ti (N sc) W'
 low:∀g,cur=O g->∀b,g.own b->M (H W)+2<=b
 fits:∀g,cur=O g->yE g/\g.cnt<=N pre/\N g.k.xs=N kc
 nil:cur=E5->dn=[]
 yld:Am W' (aD (M (H W)) 0)=O (.func (.yield l) #[] #[])
 kept:Kept (λb=>¬o b/\b<M (H W)) W W'
 new:∀b,oj b->o b∨(M (H W)<=b/\b<M (H W'))
def zM.keep{tg ti tp:TypeId}{Jq:List ae->(Nat->Prop)->U->Prop}{kc sc:List Int}{o:Nat->Prop}{l:Nat}{W:U}{pre:List ae}{o1:Nat->Prop}{A B:U}{zs:List ae}{oj:Nat->Prop}{cur:Option fZ}{dn:List Gr}{n:Nat}
  (h:zM tg ti tp Jq kc sc o l W pre o1 A zs oj cur dn) (hJ:∀pre o1 A B,Jq pre o1 A->Kept (λb=>o1 b∨b<M (H W)) A B->Jq pre o1 B) (hn:M (H W)+2<=n) (hk:Kept (λb=>o1 b∨b<n) A B):zM tg ti tp Jq kc sc o l W pre o1 B zs oj cur dn:=by have d:M (H W)+1<M (H A):=(ZH.1 h.box).1;refine⟨h.fold,h.told,hJ _ _ _ _ h.j (hk.mono λb _ a=>a.imp (λa=>(h.iff b).2 (.inl a)) (by omega)),h.iff,h.off,(hk.block _ d (.inr (by omega))).trans h.box,λg e=>?_,h.low,h.fits,h.nil,ZY h.yld hk (.inr (by show M (H W)<_;omega)),h.kept.trans' hk (λb _ a=>.inr (by omega)),λb a=>(h.new b a).imp id (λa=>⟨a.1,by have:=hk.size;omega⟩)⟩;exact(h.at' g e).keep hk (λb a=>.inl ((h.iff b).2 (.inr (.inr ⟨g,e,a⟩))))
def Ta{tg ti tp:TypeId}{Jq:List ae->(Nat->Prop)->U->Prop}{kc sc:List Int}{o:Nat->Prop}{l:Nat}{W:U}{pre:List ae}{x:ae}{A B D:U}{zs:List ae}{oj:Nat->Prop}{dn:List Gr}{k:ae}
  (hJ:∀pre o1 A B,Jq pre o1 A->Kept (λb=>o1 b∨b<M (H W)) A B->Jq pre o1 B)
  (hf:((pre++[x]).map ae.xs).foldl (iI kc sc) (cK kc sc)=dn++[mQ x.xs sc (mR (aB x.xs kc) (N sc))]) (hz:zs.map ae.xs=dn.map Gr.row) (hj:Jq zs oj A)
  (hoff:¬oj (M (H W)+1)/\¬oj (M (H W))) (hoA:∀b,oj b->b<M (H A)) (hkx:k.xs=aB x.xs kc) (hkA:ah.At k A) (hkb:∀b,ah.aT k=O b->M (H W)+2<=b/\¬oj b)
  {bv:KX} (hbx:A.heap[M (H W)+1]? = O (FL #[bv] tp)) (hy:Am A (aD (M (H W)) 0)=O (.func (.yield l) #[] #[])) (hkp:Kept (λb=>¬o b/\b<M (H W)) W A) (hnew:∀b,oj b->o b∨(M (H W)<=b/\b<M (H A)))
  (hbB:Bw A B) (hsB:M (H B)=M (H A)+3)
  (hg:D.heap[M (H A)+2]? = O (FL #[k.val,I J (0+1:Nat),Z (O (aD (M (H A)+1) 0)) (N sc) (N sc)] tg)) (hs:D.heap[M (H A)+1]? = O (FL ((ik (List.replicate (N sc) 1073741824) x.xs sc).map (Value.int J)).toArray ti))
  (xn:Kept (λb=>b≠M (H A)+2/\b≠M (H A)+1) (qw B (aD (M (H W)+1) 0) (Y (O (aD (M (H A)+2) 0)))) D) (hsm:∀v∈x.xs,dW v) (hA:M (H W)+2<=M (H A)) :
  zM tg ti tp Jq kc sc o l W (pre++[x]) (λb=>oj b∨b=M (H W)+1∨∃g,O (⟨M (H A)+2,M (H A)+1,k,1,ik (List.replicate (N sc) 1073741824) x.xs sc⟩:fZ)=O g/\g.own b) D zs oj (O ⟨M (H A)+2,M (H A)+1,k,1,ik (List.replicate (N sc) 1073741824) x.xs sc⟩) dn/\
   Kept (λb=>b≠M (H W)+1) A D:=by
 have t:Kept (λb=>b≠M (H W)+1) A (qw B (aD (M (H W)+1) 0) (Y (O (aD (M (H A)+2) 0)))):=(ZA hbB (λb d _=>d)).trans (Xc _ _ _ (λh=>h rfl));have m:M (H (qw B (aD (M (H W)+1) 0) (Y (O (aD (M (H A)+2) 0)))))=M (H B):=by simp[World.setCell]
 have i:Kept (λb=>b≠M (H W)+1) A D:=t.trans' xn (λb d _=>⟨by omega,by omega⟩);have f:∀b,(⟨M (H A)+2,M (H A)+1,k,1,ik (List.replicate (N sc) 1073741824) x.xs sc⟩:fZ).own b->b=M (H A)+2∨b=M (H A)+1∨ah.aT k=O b:=λb d=>d;have j:∀b,ah.aT k=O b->b<M (H A):=λb d=>ah.AV hkA d;have n:(qw B (aD (M (H W)+1) 0) (Y (O (aD (M (H A)+2) 0)))).heap[M (H W)+1]? = O (FL #[Y (O (aD (M (H A)+2) 0))] tp):=by have p:B.heap[M (H W)+1]? = O (FL #[bv] tp):=(hbB.block _ (by omega)).trans hbx;exact l9 p 0 _
 have r:(mR (aB x.xs kc) (N sc)).ss=List.replicate (N sc) 1073741824:=rfl;refine⟨⟨?_,hz,hJ _ _ _ _ hj (i.mono λb _ h=>?_),λ_=>ZI,⟨hoff.1,hoff.2,λg a b d=>?_⟩,?_,λg a=>?_,λg a b d=>?_,λg a=>?_,λh=>(by cases h),ZY hy i (by show M (H W)≠_;omega),hkp.trans' i (λb _ h=>by show b≠_;omega),λb d=>(hnew b d).imp id (λh=>⟨h.1,by have:=i.size;omega⟩)⟩,i⟩
 .rw[hf]
  show dn++[mQ x.xs sc (mR (aB x.xs kc) (N sc))]=dn++[fZ.gr ⟨M (H A)+2,M (H A)+1,k,1,ik (List.replicate (N sc) 1073741824) x.xs sc⟩];unfold fZ.gr mQ mR;rw[hkx]
 .rcases h with h|h
  .intro e;exact hoff.1 (e ▸ h)
  .show b≠_;omega
 .cases a
  rcases f b d with rfl|rfl|h
  .intro h;have:=hoA _ h;omega
  .intro h;have:=hoA _ h;omega
  .exact(hkb b h).2
 .exact(xn.block _ (by rw[m];omega) ⟨by omega,by omega⟩).trans n
 .cases a
  refine⟨hg,hs,ah.keep hkA i.size (λb d q=>i.block b d (by have:=(hkb b q).1;show b≠_;omega)),by rw[jU (by simp)],by show M (H A)+2≠M (H A)+1;omega,?_,?_⟩
  .intro e;have p:M (H A)+2<M (H A):=j _ e;omega
  .intro e;have p:M (H A)+1<M (H A):=j _ e;omega
 .cases a
  rcases f b d with rfl|rfl|h
  .omega
  .omega
  .exact(hkb b h).1
 .cases a
  refine⟨Bg (g:=⟨M (H A)+2,M (H A)+1,k,0,List.replicate (N sc) 1073741824⟩) (rM _ _ _ _) hsm,by show 1<=N (pre++[x]);simp,?_⟩;show N k.xs=_;rw[hkx];simp[aB]
def agz{Jq:List ae->(Nat->Prop)->U->Prop}{o:Nat->Prop}{l:Nat}{o1:Nat->Prop}{D:U}{zs:List ae}{oj:Nat->Prop}{g:fZ}
  (h:zM tg ti tp Jq kc sc o l W pre o1 A zs oj (O g) dn) (hJ:∀pre o1 A B,Jq pre o1 A->Kept (λb=>o1 b∨b<M (H W)) A B->Jq pre o1 B)
  (hf:((pre++[x]).map ae.xs).foldl (iI kc sc) (cK kc sc)=iI kc sc (dn++[g.gr]) x.xs) (hk:g.k.xs=aB x.xs kc)
  (hg:D.heap[g.gb]? = O (FL #[g.k.val,I J (g.cnt+1:Nat),Z (O (aD g.sb 0)) (N sc) (N sc)] tg)) (hs:D.heap[g.sb]? = O (FL ((ik g.ss x.xs sc).map (Value.int J)).toArray ti))
  (xn:Kept (λb=>b≠g.gb/\b≠g.sb) A D) (hsm:∀v∈x.xs,dW v):zM tg ti tp Jq kc sc o l W (pre++[x]) o1 D zs oj (O (g.bump x.xs sc)) dn:=by
 have m:=h.at' g rfl;have u:=h.low g rfl g.gb (.inl rfl);have y:=h.low g rfl g.sb (.inr (.inl rfl));have p:=h.off.2.2 g rfl;have q:M (H W)+1<M (H A):=(ZH.1 h.box).1;refine⟨?_,h.told,hJ _ _ _ _ h.j (xn.mono λb _ d=>?_),λb=>?_,⟨h.off.1,h.off.2.1,λt a b d=>?_⟩,(xn.block _ q ⟨by omega,by omega⟩).trans h.box,λt a=>?_,λt a b d=>?_,λt a=>?_,λe=>(by cases e),ZY h.yld xn ⟨by show M (H W)≠_;omega,by show M (H W)≠_;omega⟩,h.kept.trans' xn (λb _ d=>⟨by omega,by omega⟩),λb d=>(h.new b d).imp id (λC=>⟨C.1,by have:=xn.size;omega⟩)⟩
 .rw[hf,rD,Qu (show g.gr.key=_ from hk)];rfl
 .rcases d with d|d
  .exact⟨λe=>p g.gb (.inl rfl) (e ▸ d),λe=>p g.sb (.inr (.inl rfl)) (e ▸ d)⟩
  .exact⟨by omega,by omega⟩
 .rw[h.iff b];constructor
  .rintro (i|i|⟨z,r,i⟩)
   .exact .inl i
   .exact .inr (.inl i)
   .cases r;exact .inr (.inr ⟨_,rfl,i⟩)
  .rintro (i|i|⟨z,r,i⟩)
   .exact .inl i
   .exact .inr (.inl i)
   .cases r;exact .inr (.inr ⟨g,rfl,i⟩)
 .cases a;exact p b d
 .cases a
  exact⟨hg,hs,ah.keep m.key xn.size (λb d n=>xn.block b d ⟨λe=>m.nk.1 (e ▸ n),λe=>m.nk.2 (e ▸ n)⟩),by show N (ik g.ss x.xs sc)=_;rw[jU m.len],m.ne,m.nk⟩
 .cases a;exact h.low g rfl b d
 .cases a
  have f:=h.fits g rfl;exact⟨Bg f.1 hsm,by show g.cnt+1<=N (pre++[x]);rw[QI];have:=f.2.1;simp;omega,f.2.2⟩
def Fg(ts:List ag)(src a b S:List Int)(k:Nat):List Int:=(List.range k).map λ(c:Nat)=>if ((au ts src (c:Int):Nat):Int)∈S then E b c 0 else E a c 0
def WT(ts:List ag)(src a b S:List Int)(k:Nat):Fg ts src a b S (k+1)=Fg ts src a b S k++[if decide (((au ts src (k:Int):Nat):Int)∈S)=T then E b k 0 else E a k 0]:=by unfold Fg;rw[QT,Ql];simp
def ac8(ts:List ag)(src a b S:List Int)(k:Nat):N (Fg ts src a b S k)=k:=by simp[Fg]
def ac9(ao:Option Addr)(cap:Nat)(ts:List ag)(q:af)(a b S:ae)(w:U)(hx:aN w ao ts)(hc:dL ts=T)(hq:q.src.At w)(h5:N q.src.xs<=5)(hal:aM q.src.xs (N ts)=T)(ha:a.At w)(hb:b.At w)(hS:S.At w)(hl:(N a.xs:Int)<=ak ts q.src.xs)(hab:N a.xs<=N b.xs)(h20:N a.xs<=20) :
  Calls V 43 #[Z ao (N ts) cap,.agg q.cells,a.val,b.val,S.val] w λe w'=>∃f:ae,e=FR f.val/\f.xs=jF ts q.src.xs a.xs b.xs S.xs/\(gJ 3).At f w'/\Bw w w':=by
 have uD:=Zh λ(x:U) (k:Nat) (hb:Bw w x) (hk:k<N a.xs)=>rW ao cap ts q (k:Int) x (hx.below hb) hc (Qt hb hq) h5 hal (by omega) (by omega);have ah:=Zh λ(x:U) (v:Int) (hb:Bw w x)=>oD S.ad S.cap S.xs v x (Qt hb hS);obtain⟨ay,F9⟩:=aV (WT ts q.src.xs a.xs b.xs S.xs) (ac8 ts q.src.xs a.xs b.xs S.xs);have ai:Hid (jF ts q.src.xs a.xs b.xs S.xs=Fg ts q.src.xs a.xs b.xs S.xs (N a.xs)):=rfl;have h0:Fg ts q.src.xs a.xs b.xs S.xs 0=[]:=rfl;have HA:=Zh λ(x:U) (L:Bw w x)=>X4 (Qt L ha) (Qt L hb);clear hx hc hq hal hS hl ha hb;generalize Fg ts q.src.xs a.xs b.xs S.xs=FK at*;generalize jF ts q.src.xs a.xs b.xs S.xs=FN0 at*;obtain⟨aa,ac,p⟩:=a;obtain⟨ba,bc,bx⟩:=b;obtain⟨sa,sc,sx⟩:=S;obtain⟨v0,v1,v2,v3,v4,v5,v6,OC⟩:∃v0 v1 v2 v3 v4 v5 v6,q.cells=#[v0,v1,v2,v3,v4,v5,v6]:=⟨_,_,_,_,_,_,_,rfl⟩;rw[OC]at uD ⊢;clear OC;simp only[ae.val]at*;obtain⟨P,az,y,A⟩:=aX w #[v0,v1,v2,v3,v4,v5,v6] 26;obtain⟨g0,g1,g2,g3,g4,g5,g6⟩:=A.k7;have i:=Zh y;clear y A;go_enter Tryz.func43,Tryz.ntmps43;go_wp2;clear az;go_loopw [11,12] (λv f wr=>∃k:Nat,k<=N p/\f=I J k/\Hid (wr.ownsRow (M (H P)) 3 1 v (N (FK k)) ((FK k).map (Value.int J)))/\Bw P wr) (λ_ f _=>N p-(intOf f).toNat)
 case atStart=>exact⟨0,Q4 _,rfl,by rw[h0];exact Xl _ _ _ _,Qr _ _⟩
 case round=>
  obtain⟨k,hk,rfl,Q,d⟩:=hrel;obtain⟨R,W,X,rfl⟩:=Xg Q.o;by_cases m:k<N p
  .obtain⟨d0,d1,d2,d3,d4⟩:=ji d g0 g1 g2 g3 g4;obtain⟨d5,d6⟩:=gy d g5 g6;have r:=uD.o wr k (aj i.o d) m;have HS:=Zh (ay.o k);generalize au ts q.src.xs (k:Int)=s at*;have nV:=Zh d;clear d;go_wp2_with fail;refine r.mono ?_;rintro e w2 ⟨rfl,l⟩;have n:=aj nV.o l;have t:=ah.o w2 (s:Int) (aj i.o n);have j:=Xe Q.o (ZA (s:=λb=>b<M (H wr)) l (λb _ h=>h)) (λg hg=>(Xf Q.o hg).2);clear r d0 d1 d2 d3 d4 d5 d6;generalize decide ((s:Int)∈sx)=UB at*;go_wp2_with fail;refine t.mono ?_;rintro e w3 ⟨rfl,rfl⟩;have av:=F9.o k;obtain⟨B,C⟩:=HA.o w3 (aj i.o n);obtain⟨pa,oa,rfl,Md⟩:=B.get m;obtain⟨pb,ob,rfl,D⟩:=C.get (show k<N bx by omega);have a1:=Md k m;have b1:=D k (by omega);have aF:(k:Int)<N bx:=by omega
   clear B C Md D t;generalize E p k 0=za at*;generalize E bx k 0=zb at*;obtain⟨z,G⟩:∃z,z=if UB=T then zb else za:=⟨_,rfl⟩;rw[<-G]at HS;obtain⟨v',w5,iW,mq,K,⟨va,vm,vc,rfl⟩,-⟩:=iA w3 (M (H P)) (Z R W X) (FK k) j (by omega) n.size z 23;have u:Bw P w5:=n.trans (K.below n.size (λb hb e=>by have:=(Xf j e).1;omega));rw[<-HS.o]at mq;obtain⟨zJ,jS⟩:=aV mq u;clear mq K u j n l
   cases UB with
   |true =>
    rw[Qu rfl]at G;subst G;go_wp2_with (first|(at_builtin;refine Xy rfl (.tmp 29) (.tmp 34) 23 rfl (Z R W X) (Z (O (aD (M (H w3)) 0)) 1 1) (Z va vm vc) w5 rfl rfl iW ?_));clear iW;go_wp2;go_roundw
    case rel=>exact⟨k+1,by omega,by go_num,zJ.o,jS.o⟩
    case measure=>simp[intOf];omega
   |false =>
    rw[QC (by simp)]at G;subst G;go_wp2_with (first|(at_builtin;refine Xy rfl (.tmp 36) (.tmp 41) 23 rfl (Z R W X) (Z (O (aD (M (H w3)) 0)) 1 1) (Z va vm vc) w5 rfl rfl iW ?_));clear iW;go_wp2;go_roundw
    case rel=>exact⟨k+1,by omega,by go_num,zJ.o,jS.o⟩
    case measure=>simp[intOf];omega
  .obtain rfl:k=N p:=by omega
   have nV:=Zh d;have av:=F9.o (N p);clear d;go_wp2;go_ret;obtain⟨f,aA,aB,aC,-⟩:=jN Q.o (by omega);exact⟨f,by show Ending.returned (Z R W X)=FR f.val;rw[aA],aB.trans ai.o.symm,aC,aj i.o nV.o⟩
